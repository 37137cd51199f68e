import PyProof.Rows.All
import Wide.All
import OpenK.AllK
import Wide.FinOn
import Lean
import PyProof.EqAt
import PyProof.EqKinds
import PyProof.NeKinds
import PyProof.TupleCall
import OpenK.KOwn
import PyProof.WalkInts
import KE.KIsAll
import KE.RegKIsAll
import PyProof.ExcAttrAll.ValueError
import OpenK.KMake
import PyProof.ExcInit
import PySem.Challenge.RW_loopgyre_k68_counts_alike
open PySem renaming Scope→JK,Params→JL,Program→JM,World→JN,Paired→JO,Heap→JP,sysModules→JQ,entryOfKey→JR,tupleKind→JS,intKind→JT,mainGlobals→JU,bootBuiltins→JV,Around→JW,wpAny→JY,model→JZ,backTo→J0,starEach→J1,wpAny_mono→J2,wpAny_loadName_local→J3,wpAny_loadName_cell→J4,wpAny_truthy_bool→J5,wpAny_execs_nil→J6,swapsWith→J7,assignEach→J8,setItem→J9,Operator→Ka,wpAny_bind→Kb,wpAny_holding→Kc,wpAny_standAt→Ke,pyNext→Kf,letOwnedTupleGo→Kg,pyIter→Kh,wpAny_pure→Ki,rawInt→Kj,wpAny_pyIter_list→Kk,wpAny_pyIter_tuple→Kl,foldedSetIterable→Km,wpAny_passesOwn→Kn,binaryOp→Ko,compareOp→Kq,CmpOp→Kr,behindInMarks→Ks,sizeLine_eq→Kt,cLine→Ku,FuncData→Kv,codeAny→Kw,codeAny_mono→Kx,wpAny_Call_Name_kw→Ky,NameKind→Kz,bindL→KA,bindC→KB,cellsFrom→KD,concat_meets→KF,noFill_tuple_add→KG,seq_tuple_add→KH,IsPart→KI,wpAny_field→KJ,getItem→KM,wpAny_callSpecial?_slot→KN,wpAny_call_entry→KO,wpAny_typeOf→KP,wpAny_newObj_type→KQ,sliceBounds→KS,attributeBase→KT,backToKw→KU,keywordEach→KW,Keyword→KY,wpAny_Call_method_late→KZ,call_meets→K0,callerA→K8,pushCells→K9,pushCells_keeps→La,newFunctionEnv→Lb,relabel→Lc,notedBy→Ld,wpAny_comprehension_free→Lf,wpAny_rule→Lg,putAt→Lh,wpAny_notOrdered_dict→Li,IsTupleKey→Lj,atKey→Lk,wpAny_forIn_list→Ll,wpAny_dictEntries→Lm,wpAny_dictEpoch→Ln,wpAny_loadPart'→Lo,plainId_quiet→Lp,codeAny_builtin→Lq,wpAny_attempt→LK,wpAny_newTuple→LP,argBest→LR,setField→LS,wpAny_setField→LU,firstArgMember→LV,wpAny_of_eq→LW,wpAny_pyIter_slot→LX,wpAny_typeNameOfWhole_keyiter→LY,wpAny_fieldsOf→LZ,wpAny_isOneOf_keyiter→L0,field→L1,wpAny_seqItems→L3,IsZip→L4,IsPair→L5,wpAny_setField_rec→L6,wpAny_onRaise→L7,wpAny_updateSeq_pair→L8,wpAny_letGo→L9,wpAny_typeNameOfWhole_valiter→Ma,wpAny_isOneOf_valiter→Mb,IsItemIter→Mc,IsItemIterOut→Mf,wpAny_typeNameOfWhole_itemiter→Mg,wpAny_isOneOf_itemiter→Mh,ItemsOf→Mi
open PyProof.Rows renaming AllBare→JX,envOfC→KC,subscriptTail_builtinR→KR,IntsAre→K7,KeyOrd→Lr,SortSt→Ls,oneType'→Lu,wpS_pure→Lw,wpS_bind→Lx,wpS_mono→Ly,wpS_forRange→Lz,arrOf→LA,pendingOf→LB,failedOf→LC,wpS_lift→LF,wpS_get→LG,wpS_modify→LH,gallopOf→LI,power'→LJ,seqObj→LL,listUpdate_at→LM,get?_update_seq→LN,seqEpoch_at→LO,sortedAll→LQ
open List renaming getElem?_eq_some_iff→Qa,getElem?_append_right→Qd,getElem?_append_left→Qf,replicate→Qg,append_assoc→Qj,mem_cons_of_mem→Qk,mem_cons→Qn,length_map→Qo,mem_of_getElem?→Qp,mem_singleton→Qq,getElem?_map→Qs,getElem?_take_of_lt→Qt,getD_eq_getElem?_getD→Qu,getElem?_of_mem→Qv,getElem?_eq_getElem→Qw,mem_append→Qx,size_toArray→QA,mem_append_right→QC,getElem?_set_ne→QD,getElem?_eq_none→QE,length_append→QF,length_cons→QH,take_append_drop→QI,nodup_nil→QK,map_cons→QM,nodup_append→QN,getElem?_set→QO,drop_eq_getElem_cons→QP,length_take→QQ,nodup_cons→QR,zipWith→QT,range→QU,all_eq_true→QV,mem_cons_self→QW,append_nil→QZ,lookup_cons→Q0,flatten_cons→Q2,set_cons_zero→Q5,set_cons_succ→Q6,getElem?_drop→Q7,mem_of_mem_take→Wb,mem_append_left→Wc,getElem?_eq_none_iff→Wf,replicate_succ→Wg,take_append_of_le_length→Wh,take_sublist→Wi,getElem?_set_self→Wj,drop_sublist→Wk,pairwise_iff_getElem→Wm,extract_eq_take_drop→Wn,perm_append_comm→Wp,mem_of_mem_drop→Wq,reverse_cons→Wr,nil_append→Ws,take_of_length_le→Wt,zip_cons_cons→Wu,pairwise_cons→Wv,drop_drop→Wy,cons_append→Wz,Perm→WA,drop_eq_nil_of_le→WD,map_append→WF,mem_map→WL,map_map→WM,length_drop→WN,reverse_append→WP,flatten_append→WQ,pairwise_map→WV,flatten_singleton→WW,not_mem_nil→WY,getElem_inj→WZ,drop_length→W0,all_cons→W1,mem_iff_getElem→W2,forIn_nil→W7,ext_getElem?→W9,take_length→Vg,getElem?_replicate→Vh,any_eq_true→Vi,range_succ_eq_map→Vk,length_zip→Vo,length_set→Vp,forIn_cons→Vq,set_append_right→Vs,getElem?_reverse→Vt,mem_range→Vw,forall_mem_cons→Vx,drop_zero→Vy,filterMap_cons→VA,mem_filterMap→VE,zipIdx_cons→VJ,getElem_mem→VL,ext_getElem→VM,drop_append→VN,range'→VP,eq_nil_of_length_eq_zero→VQ,drop_append_of_le_length→VR,of_mem_zip→VS,getElem?_zip_eq_some→VW,set_eq_of_length_le→VX,all_map→V0
open PySem.W renaming Frag→Qb,kia_one→Q4,kitOne→Wx,fnOf→WI,keepIn→WT,nsIn→Ve,cellsFrom_some→Vf,codeIn→Vm,mg_of→Vv,methodObj→VB,kitx_list→VC,kitx_dict→VD,instObj→VG,lookIn→VO,WalkO→VT
open PySem.Heap renaming get?_push_of_some→Qc,get?_push_size→Qe,lt_size→Qi,SameBut→Q8,get?_update_self→WG,size_push→WJ,get?_update_ne→WR,ExtBut→Va,size_update→Vj
open Nat renaming le_refl→Qh,lt_of_lt_of_le→Ql,le_trans→Qr,ne_of_lt→QG,lt_irrefl→Wa,lt_succ_self→WB,ne_of_gt→WE,lt_succ_of_lt→WH,zero_le→WK,zero_add→WX,lt_trans→W5,le_succ→Vc,le_of_lt→Vn,succ_mul→VH,le_of_eq→VI,add_assoc→VY
open Bool renaming and_eq_true→Qm,false_ne_true→Qz,and_eq_true_iff→QL,false_eq_true→QX,or_eq_true→WS,eq_iff_iff→W3,not_eq_true'→Vb,beq_eq_decide_eq→Vu
open Option renaming bind_eq_some_iff→Qy,map_eq_some_iff→QJ,map_some→QY,bind_some→Q9,getD_some→Wo,isSome_iff_exists→WO,bind→VZ
open Array renaming getElem?_toList→QB,length_toList→QS,getD_eq_getD_getElem?→Q3,getElem?_eq_getElem→We,toList_extract→Ww,getElem?_eq_none→WC,toList_push→WU,toList_append→W4,getElem?_eq_some_iff→W6,mem_of_getElem?→Vr,toList_modify→Vz,toList→VF,toList_setIfInBounds→VU
open Int renaming toNat_natCast→Wl,fdiv_eq_ediv_of_nonneg→W8,le_refl→Vd
set_option Elab.async false
set_option linter.all false
set_option maxRecDepth 100000
set_option genSizeOf false
set_option maxHeartbeats 0
set_option tactic.hygienic false
set_option bootstrap.genMatcherCode false
set_option compiler.extract_closed false
set_option backward.eqns.nonrecursive false
set_option backward.eqns.deepRecursiveSplit false
noncomputable section
def Mj:=@decide_eq_false
def Mk.{u}:=@if_pos.{u}
def Ml.{u}:=@if_neg.{u}
def Mm.{u}:=@absurd.{u}
def Mn.{u,v}:=@congrArg.{u,v}
def Mo:=@decide_eq_true
def Mp:=@of_decide_eq_true
def Mq:=@decide_eq_true_eq
namespace L2
open PySem PySem.Spec PyProof.Rows
noncomputable def xS(s:Stmt):Arguments:=match s with
 |.FunctionDef _ a _ _ _ _ _ _ _ _=>a
 |_=>{posonlyargs:=[],args:=[],vararg:=none,kwonlyargs:=[],kw_defaults:=[],kwarg:=none,defaults:=[]}
def xg(s:Stmt):List Stmt:=match s with
 |.FunctionDef _ _ b _ _ _ _ _ _ _=>b
 |_=>[]
noncomputable def zQ(s:Stmt):JK:=match s with
 |.FunctionDef _ _ _ _ _ _ sc _ _ _=>sc
 |_=>{kind:=.function,names:=[],isGenerator:=false,isCoroutine:=false}
end L2
namespace R68
open PySem L2 PySem.W
noncomputable def top(i:Nat):Stmt:=PySem.Challenge.pw_loopgyre_k68_counts_alike.main.body.getD i (.Pass ⟨0,0,0,0⟩)
def ge(P:JL)(s:Str)(t:Tok)(v:Value):DictEntry:=⟨PyData.keyHash P s,.str s t,v⟩
noncomputable def cO(s:Str)(t l n f a q b c d e u v:Nat):Obj:=⟨.type "code",none,.fields #[.str s t,.str s (t+1),.str "/claim/cut.py" (t+2),.int l 0,.int n 0,.int 0 0,.int 0 0,.int f 0,.ref a,.bool true,.int q 0,.ref b,.none,.ref c,.ref d,.ref e,.int u 0,.int l 0,.str "/claim/cut.py" v],#[]⟩
noncomputable def fO(n:Str)(d:Stmt)(m:Value)(c:Addr):Obj:=⟨.type "function",none,.func (fnOf n n (xS d) (xg d) (zQ d) .none .none .none m none (.ref c) .none),#[]⟩
def m0:Value:=.str "loopgyre.kinds" 223
def m1:Value:=.str "loopgyre.signs" 248
def m2:Value:=.str "loopgyre.books" 256
def m3:Value:=.str "loopgyre.counts" 292
def m4:Value:=.str "law_loopgyre_k68_counts_alike" 377
noncomputable def e7(s:Str)(t l n f a q b e u v:Nat):Obj:=⟨.type "code",none,.fields #[.str s t,.str s (t+1),.str "/claim/cut.py" (t+2),.int l 0,.int n 0,.int 0 0,.int 0 0,.int f 0,.ref a,.bool true,.int q 0,.ref b,.none,.none,.none,.ref e,.int u 0,.int l 0,.str "/claim/cut.py" v],#[]⟩
noncomputable def K(P:JL):Frag:=[(3,⟨.type "dict",none,.dict #[ge P "__name__" 165 (.str "law_loopgyre_k68_counts_alike" 377),ge P "__doc__" 166 .none,ge P "__package__" 167 .none,ge P "__loader__" 168 (.builtin "__main__.__loader__#opaque"),ge P "__spec__" 169 .none,ge P "__annotations__" 170 (.ref 6),ge P "__builtins__" 171 (.ref 4),ge P "__file__" 173 (.str "/claim/cut.py" 172),ge P "__cached__" 174 .none,ge P "GyreError" 206 (.ref 24),ge P "NoSize" 222 (.ref 37),ge P "is_whole" 231 (.ref 46),ge P "is_size_to" 239 (.ref 53),ge P "need_size_to" 247 (.ref 60),ge P "column_of" 255 (.ref 65),ge P "GREATEST_WALKED" 259 (.int 5 258),ge P "longer_rows" 270 (.ref 72),ge P "rows_below" 276 (.ref 77),ge P "longer_tables" 282 (.ref 82),ge P "states" 291 (.ref 89),ge P "GREATEST_STEPPED" 295 (.int 7 294),ge P "GREATEST_PRODUCT" 297 (.int 30 296),ge P "by_walking" 304 (.ref 96),ge P "longer_lists" 316 (.ref 103),ge P "lists_behind" 328 (.ref 110),ge P "stepped" 334 (.ref 115),ge P "tops_by_steps" 340 (.ref 120),ge P "by_steps" 347 (.ref 127),ge P "product_above" 357 (.ref 134),ge P "fraction_to" 368 (.ref 141),ge P "by_product" 376 (.ref 148),ge P "_law_cell_at" 386 (.ref 155),ge P "_law_whole" 393 (.ref 162),ge P "_law_small_by" 400 (.ref 169),ge P "_law_alternating" 412 (.ref 176),ge P "_law_power" 421 (.ref 183),ge P "_law_walked" 427 (.ref 188),ge P "_law_factorial" 436 (.ref 195),ge P "_law_from_above" 442 (.ref 200),ge P "_law_is_product" 453 (.ref 207),ge P "law" 464 (.ref 214)] 41,#[]⟩),(45,cO "is_whole" 225 7 1 3 40 181 41 42 43 44 229 230),(46,fO "is_whole" (top 4) m0 45),(52,cO "is_size_to" 232 9 2 3 47 181 48 49 50 51 237 238),(53,fO "is_size_to" (top 5) m0 52),(59,cO "need_size_to" 240 11 2 3 54 181 55 56 57 58 245 246),(60,fO "need_size_to" (top 6) m0 59),(64,e7 "column_of" 250 15 2 3 61 181 62 63 253 254),(65,fO "column_of" (top 8) m1 64),(71,cO "longer_rows" 260 19 2 3 66 181 67 68 69 70 268 269),(72,fO "longer_rows" (top 11) m2 71),(76,e7 "rows_below" 271 26 1 3 73 181 74 75 274 275),(77,fO "rows_below" (top 12) m2 76),(81,e7 "longer_tables" 277 31 2 3 78 181 79 80 280 281),(82,fO "longer_tables" (top 13) m2 81),(88,cO "states" 283 37 1 3 83 181 84 85 86 87 289 290),(89,fO "states" (top 14) m2 88),(95,cO "by_walking" 298 46 1 3 90 181 91 92 93 94 302 303),(96,fO "by_walking" (top 18) m3 95),(102,cO "longer_lists" 305 48 3 3 97 181 98 99 100 101 314 315),(103,fO "longer_lists" (top 19) m3 102),(109,cO "lists_behind" 317 55 2 3 104 181 105 106 107 108 326 327),(110,fO "lists_behind" (top 20) m3 109),(114,e7 "stepped" 329 61 2 3 111 181 112 113 332 333),(115,fO "stepped" (top 21) m3 114),(119,e7 "tops_by_steps" 335 68 1 3 116 181 117 118 338 339),(120,fO "tops_by_steps" (top 22) m3 119),(126,cO "by_steps" 341 76 1 3 121 181 122 123 124 125 345 346),(127,fO "by_steps" (top 23) m3 126),(133,cO "product_above" 348 78 2 3 128 181 129 130 131 132 355 356),(134,fO "product_above" (top 24) m3 133),(140,cO "fraction_to" 358 83 2 3 135 181 136 137 138 139 366 367),(141,fO "fraction_to" (top 25) m3 140),(147,cO "by_product" 369 90 1 3 142 181 143 144 145 146 374 375),(148,fO "by_product" (top 26) m3 147),(154,cO "_law_cell_at" 379 95 2 3 149 181 150 151 152 153 384 385),(155,fO "_law_cell_at" (top 28) m4 154),(161,cO "_law_whole" 387 99 1 3 156 181 157 158 159 160 391 392),(162,fO "_law_whole" (top 29) m4 161),(168,cO "_law_small_by" 394 101 1 3 163 181 164 165 166 167 398 399),(169,fO "_law_small_by" (top 30) m4 168),(175,cO "_law_alternating" 401 105 1 3 170 181 171 172 173 174 410 411),(176,fO "_law_alternating" (top 31) m4 175),(182,cO "_law_power" 413 119 1 3 177 181 178 179 180 181 419 420),(183,fO "_law_power" (top 32) m4 182),(187,e7 "_law_walked" 422 124 1 3 184 181 185 186 425 426),(188,fO "_law_walked" (top 33) m4 187),(194,cO "_law_factorial" 428 136 1 3 189 181 190 191 192 193 434 435),(195,fO "_law_factorial" (top 34) m4 194),(199,e7 "_law_from_above" 437 141 1 3 196 181 197 198 440 441),(200,fO "_law_from_above" (top 35) m4 199),(206,cO "_law_is_product" 443 153 2 3 201 181 202 203 204 205 451 452),(207,fO "_law_is_product" (top 36) m4 206),(213,cO "law" 454 160 1 3 208 181 209 210 211 212 462 463),(214,fO "law" (top 37) m4 213)]
noncomputable def as:List Addr:=[3,45,46,52,53,59,60,64,65,71,72,76,77,81,82,88,89,95,96,102,103,109,110,114,115,119,120,126,127,133,134,140,141,147,148,154,155,161,162,168,169,175,176,182,183,187,188,194,195,199,200,206,207,213,214]
noncomputable def qv:JM:={PySem.Challenge.pw_loopgyre_k68_counts_alike with main:={PySem.Challenge.pw_loopgyre_k68_counts_alike.main with body:=[1,2,4,5,6,8,10,11,12,13,14,16,17,18,19,20,21,22,23,24,25,26,28,29,30,31,32,33,34,35,36,37].map top} }
def fF:List Str:=[]
noncomputable def Xt(s:Shared):Bool:=xlAt qv [] s&&recOk (RowW.records PySem.Challenge.rw_loopgyre_k68_counts_alike.row.toRowW) s
theorem hj{α β γ δ:Type}{o:Option Shared}{f:Shared->α×β×γ}{g:α×β×γ}{k:Shared->δ}{d:δ}(a:o.map (λs=>((f s).1,(f s).2.1))=some (g.1,g.2.1))(b:o.map (λs=>(f s).2.2)=some g.2.2)(c:o.map k=some d):o.map (λs=>(f s,k s))=some (g,d):=by
 cases o with
 |none=>cases a
 |some s=>
  simp only[QY,Option.some.injEq,Prod.mk.injEq]at a b c ⊢
  exact⟨Prod.ext a.1 (Prod.ext a.2 b),c⟩
noncomputable def rn(w:JN):Option Shared:=openEnds treeTable PySem.Challenge.pw_loopgyre_k68_counts_alike w 2698
noncomputable def sn(s:Shared):=openSeen qv fF (importedModules PySem.Challenge.pw_loopgyre_k68_counts_alike.main.body) Xt true s
theorem HL(w:JN):(rn w).map (λs=>((sn s).1,(sn s).2.1))=some ((openGood qv fF).1,(openGood qv fF).2.1):=by kernel_rfl
theorem HK(w:JN):(rn w).map (λs=>(sn s).2.2)=some (openGood qv fF).2.2:=by kernel_rfl
theorem HJ(w:JN):(rn w).map (X.obsZ as)=some (X.valZ K 215 465 w):=by kernel_rfl
theorem hl:LeftO PySem.Challenge.pw_loopgyre_k68_counts_alike qv fF Xt (X.obsZ as) (X.valZ K 215 465) 2698:=λw=>hj (HL w) (HK w) (HJ w)
end R68
namespace L2
open PySem PySem.Spec PyProof.Rows
abbrev cV:=Sum Int Str
noncomputable def oC:cV->Value->Bool
 |.inl k,v=>Value.isInt k v
 |.inr x,v=>Value.isStrOf x v
noncomputable def ng(w:JN):cV->Int
 |.inl k=>hashInt k
 |.inr x=>hashStr w x
def zP:∀{k:cV}{v:Value},oC k v=true->(∃i t,k=Sum.inl i/\v=Value.int i t)\/(∃x t,k=Sum.inr x/\v=Value.str x t)
 |.inl i,v,h=>by
  obtain⟨t,e⟩:=Value.isInt_shape (k:=i) (v:=v) h;exact .inl ⟨i,t,rfl,e⟩
 |.inr x,v,h=>by
  obtain⟨t,e⟩:=Value.isStrOf_shape (x:=x) (v:=v) h;exact .inr ⟨x,t,rfl,e⟩
def CL(a b:Int):decide ((Sum.inl a:cV)=Sum.inl b)=(a==b):=by
 by_cases e:a=b
 .subst e;simp
 .have h:¬(Sum.inl a:cV)=Sum.inl b:=λq=>e (Sum.inl.inj q);rw[Mj h];exact(beq_eq_false_iff_ne.mpr e).symm
def CK(a b:Str):decide ((Sum.inr a:cV)=Sum.inr b)=decide (a=b):=by
 by_cases e:a=b
 .subst e;simp
 .have h:¬(Sum.inr a:cV)=Sum.inr b:=λq=>e (Sum.inr.inj q);rw[Mj h,Mj e]
def CJ(a:Int)(b:Str):decide ((Sum.inl a:cV)=Sum.inr b)=false:=Mj (λq=>nomatch q)
def CV(a:Str)(b:Int):decide ((Sum.inr a:cV)=Sum.inl b)=false:=Mj (λq=>nomatch q)
noncomputable def rD(prog:JM)(w:JN):PySem.KeyKind prog w cV where
 is:=oC
 hash:=ng w
 inj:=λv a b ha hb=>by
  rcases zP ha with⟨i,t,rfl,rfl⟩|⟨x,t,rfl,rfl⟩
  .rcases zP hb with⟨j,u,rfl,e⟩|⟨y,u,rfl,e⟩
   .injection e with e1 _;rw[e1]
   .exact nomatch e
  .rcases zP hb with⟨j,u,rfl,e⟩|⟨y,u,rfl,e⟩
   .exact nomatch e
   .injection e with e1 _;rw[e1]
 byValue:=λk v h=>by
  rcases zP h with⟨i,t,rfl,rfl⟩|⟨x,t,rfl,rfl⟩<;>rfl
 pyHash:=λhv h=>by
  rcases zP hv with⟨i,t,rfl,rfl⟩|⟨x,t,rfl,rfl⟩
  .exact wpAny_pyHash_int h
  .exact wpAny_pyHash_str h
 eqBool:=λhu hv h=>by
  rcases zP hu with⟨i,t,rfl,rfl⟩|⟨x,t,rfl,rfl⟩
  .rcases zP hv with⟨j,u,rfl,rfl⟩|⟨y,u,rfl,rfl⟩
   .rw[CL]at h;exact wpAny_eqBool_int h
   .rw[CJ]at h;exact SeqAt.EqAt.int_str i t y u _ _ _ _ h
  .rcases zP hv with⟨j,u,rfl,rfl⟩|⟨y,u,rfl,rfl⟩
   .rw[CV]at h;exact SeqAt.EqAt.str_int x t j u _ _ _ _ h
   .rw[CK]at h;exact wpAny_eqBool_str h
 «strs»:=λk x t v h=>by
  rcases zP h with⟨i,u,rfl,e⟩|⟨y,u,rfl,e⟩
  .exact nomatch e
  .injection e with e1 _
   subst e1;cases v<;>rfl
set_option genInjectivity false in
inductive V where
 |non|bl (b:Bool)|int (i:Int)|str (x:Str)|byt (b:Array UInt8)|flt (b:UInt64)|ref (a:Addr)|ty (n:String)
 deriving DecidableEq
def RelV:V->Value->Prop
 |.non,u=>u=Value.none
 |.bl b,u=>u=Value.bool b
 |.int i,u=>∃t,u=Value.int i t
 |.str x,u=>∃t,u=Value.str x t
 |.byt b,u=>∃t,u=Value.bytes b t
 |.flt b,u=>∃t,u=Value.float b t
 |.ref a,u=>u=Value.ref a
 |.ty n,u=>u=Value.type n
abbrev av:List V->List Value->Prop:=JO RelV
theorem av.length (r:av xs us):xs.length=us.length:=Paired.length r
theorem av.get:∀{xs:List V}{us:List Value}{i:Nat}{x:V},av xs us->xs[i]?=some x->∃u,us[i]?=some u/\RelV x u
 |_,_,_,_,.nil,e=>by simp at e
 |_,_,0,_,.cons r _,e=>by simp at e;subst e;exact⟨_,rfl,r⟩
 |_,_,i+1,x,.cons _ t,e=>by
  obtain⟨u,h1,h2⟩:=av.get (i:=i) (x:=x) t (by simpa using e);exact⟨u,by simpa using h1,h2⟩
theorem av.append:∀{xs ys:List V}{us ws:List Value},av xs us->av ys ws->av (xs++ys) (us++ws)
 |_,_,_,_,.nil,s=>s
 |_,_,_,_,.cons r t,s=>.cons r (av.append t s)
theorem av.take:∀{xs:List V}{us:List Value}(n:Nat),av xs us->av (xs.take n) (us.take n)
 |_,_,0,_=>.nil
 |_,_,_+1,.nil=>.nil
 |_,_,n+1,.cons r t=>.cons r (av.take n t)
theorem av.drop:∀{xs:List V}{us:List Value}(n:Nat),av xs us->av (xs.drop n) (us.drop n)
 |_,_,0,r=>r
 |_,_,_+1,.nil=>.nil
 |_,_,n+1,.cons _ t=>av.drop n t
def lc:Option V->Option Value->Prop
 |some v,some u=>RelV v u
 |none,none=>True
 |_,_=>False
def KV{κ:Type}:List (κ×V)->List (κ×Value)->Prop:=JO λ(p:κ×V) (q:κ×Value)=>p.1=q.1/\RelV p.2 q.2
noncomputable def kV:cV->V
 |.inl i=>.int i
 |.inr x=>.str x
set_option genInjectivity false in
inductive HO where
 /-- a list -/
 |lst (xs:List V)
 /-- a tuple (never changes) -/
 |tup (xs:List V)
 /-- a dict whose keys are ints and texts;one whose keys are tuples of ints and texts (the empty one is both) -/
 |dK (kvs:List (cV×V))|dT (kvs:List (List cV×V))
 /-- a set of ints: its members,its size -/
 |set (S:Int->Bool) (n:Nat)
 /-- an instance of the class at C,its dict at dx,its attributes -/
 |ins (C dx:Addr) (fs:List (Str×V))
 /-- the dict of the instance at x -/
 |own (x:Addr)
 /-- the dict of an exception -/
 |xd (fs:List (Str×V))
 /-- a bound method,f of x -/
 |met (f x:Addr)
 /-- a range object lo,lo+1,.. below hi -/
 |rng (lo hi:Int)
 /-- a thing that is known to the object (the script;a dict while a loop walks it): read,never written while it is so -/
 |frz (o:Obj) (u:HO)
 /-- a code object's table -/
 |tbl (ps:Array Value)
 /-- any other thing,by what is true of its one object (a def of one's own: SetO a S n:=HO.ext λh=>..) -/
 |ext (φ:JP->Prop)
abbrev Hp:=Addr->Option HO
noncomputable def aI(H:Hp)(a:Addr)(o:HO):Hp:=λb=>if b=a then some o else H b
def ze:aI H a o a=some o:=by unfold aI;rw[Mk rfl]
def zd (h:b≠a):aI H a o b=H b:=by unfold aI;rw[Ml h]
def zo {H:Hp}(h:H a=some o)(h':H b=none):a≠b:=by
 intro e;subst e;rw[h]at h';cases h'
section
variable(P:JM)(w:JN)
def bp(H:Hp)(h:JP)(a:Addr):HO->Prop
 |.lst xs=>xs.length<=sizeLine/\∃(its:List Value) (n:Nat),av xs its/\h.get? a=some {cls:=.type "list",data:=.seq its.toArray n}
 |.tup xs=>xs.length<=sizeLine/\∃its:List Value,av xs its/\IsTup h a its.toArray
 |.dK kvs=>kvs.length<=sizeLine/\(a==JQ)=false/\∃vs,KV kvs vs/\h.DictOf (rD P w) a vs
 |.dT kvs=>kvs.length<=sizeLine/\(a==JQ)=false/\∃xs:List (List cV×Addr×Value),
   JO (λ(p:List cV×V) (q:List cV×Addr×Value)=>p.1=q.1/\H q.2.1=some (.tup (p.1.map kV))/\RelV p.2 q.2.2) kvs xs /\
   ∃o es ep,h.get? a=some o/\o.ExactDict/\o.data=.dict es ep/\es.toList=xs.map (JR (JS (rD P w)))/\(xs.map (·.1)).Nodup
 |.set S n=>h.SetOf (JT P w) a S n
 |.ins C dx fs=>H dx=some (.own a)/\fs.length<=1000/\dx≠a/\h.get? a=some (VG C dx) /\
   ∃mA,h.Ns1 dx mA/\(∀f,lc (fs.lookup f) (mA f))/\PySem.Within mA (fs.map (·.1))
 |.own _=>∃o,h.get? a=some o
 |.xd fs=>∃mA,h.Ns1 a mA/\∀f,lc (fs.lookup f) (mA f)
 |.rng lo hi=>∃t u v,h.get? a=some {cls:=.type "range",data:=.fields #[.int lo t,.int hi u,.int 1 v]}
 |.frz o u=>h.get? a=some o/\bp H h a u
 |.tbl ps=>h.get? a=some {cls:=.none,data:=.fields ps}
 |.met f x=>h.get? a=some (VB (.ref f) (.ref x))
 |.ext φ=>φ h/\(∃o,h.get? a=some o)/\∀h1 h2:JP,φ h1->(∀o,h1.get? a=some o->h2.get? a=some o)->φ h2
def cz(H:Hp)(h:JP):Prop:=∀a o,H a=some o->bp P w H h a o
end
section
variable{P:JM}{w:JN}{H H':Hp}{h h':JP}{a:Addr}{o:HO}
theorem bp.lt(x:bp P w H h a o):a<h.objs.size:=by
 cases o with
 |lst xs=>obtain⟨_,_,_,_,e⟩:=x;exact Qi e
 |tup xs=>obtain⟨_,_,_,p⟩:=x;exact p.lt
 |dK kvs=>obtain⟨_,_,_,_,o,_,_,e,_⟩:=x;exact Qi e
 |dT kvs=>obtain⟨_,_,_,_,o,_,_,e,_⟩:=x;exact Qi e
 |set S n=>obtain⟨o,_,_,_,e,_⟩:=x;exact Qi e
 |ins C dx fs=>obtain⟨_,_,_,e,_⟩:=x;exact Qi e
 |own y=>obtain⟨_,e⟩:=x;exact Qi e
 |xd fs=>obtain⟨_,⟨_,_,_,e,_⟩,_⟩:=x;exact Qi e
 |rng lo hi=>obtain⟨_,_,_,e⟩:=x;exact Qi e
 |frz ob u=>obtain⟨e,_⟩:=x;exact Qi e
 |tbl ps=>exact Qi (show h.get? a=some _ from x)
 |met f y=>exact Qi (show h.get? a=some _ from x)
 |ext φ=>obtain⟨_,⟨_,e⟩,_⟩:=x;exact Qi e
theorem nI:∀{l₁:List α}{l₂:List β},JO F l₁ l₂->(∀a b,F a b->G a b)->JO G l₁ l₂
 |_,_,.nil,_=>.nil
 |_,_,.cons r t,f=>.cons (f _ _ r) (nI t f)
def bp.stay(x:bp P w H h a o)(k:∀b u,(b=a\/H b=some (.own a))->h.get? b=some u->h'.get? b=some u)
  (ho:∀b,H b=some (.own a)->H' b=some (.own a)) (ht:∀b xs,H b=some (.tup xs)->H' b=some (.tup xs)):bp P w H' h' a o:=by
 induction o with
 |lst xs=>obtain⟨z,its,n,r,e⟩:=x;exact⟨z,its,n,r,k _ _ (.inl rfl) e⟩
 |tup xs=>obtain⟨z,its,r,ob,e,c⟩:=x;exact⟨z,its,r,ob,k _ _ (.inl rfl) e,c⟩
 |dK kvs=>obtain⟨z,y,vs,r,ob,es,ep,e,c⟩:=x;exact⟨z,y,vs,r,ob,es,ep,k _ _ (.inl rfl) e,c⟩
 |dT kvs=>
  obtain⟨z,y,xs,r,ob,es,ep,e,c⟩:=x;exact⟨z,y,xs,nI r λp q z=>⟨z.1,ht _ _ z.2.1,z.2.2⟩,ob,es,ep,k _ _ (.inl rfl) e,c⟩
 |set S n=>obtain⟨ob,es,ep,t,e,c⟩:=x;exact⟨ob,es,ep,t,k _ _ (.inl rfl) e,c⟩
 |ins C dx fs=>
  obtain⟨d,z,ne,e,mA,⟨od,es,ep,e2,c⟩,r⟩:=x;exact⟨ho _ d,z,ne,k _ _ (.inl rfl) e,mA,⟨od,es,ep,k _ _ (.inr d) e2,c⟩,r⟩
 |own y=>obtain⟨ob,e⟩:=x;exact⟨ob,k _ _ (.inl rfl) e⟩
 |xd fs=>obtain⟨mA,⟨od,es,ep,e,c⟩,r⟩:=x;exact⟨mA,⟨od,es,ep,k _ _ (.inl rfl) e,c⟩,r⟩
 |rng lo hi=>obtain⟨t,u,v,e⟩:=x;exact⟨t,u,v,k _ _ (.inl rfl) e⟩
 |frz ob u ih=>obtain⟨e,q⟩:=x;exact⟨k _ _ (.inl rfl) e,ih q⟩
 |tbl ps=>
  have e:h.get? a=some {cls:=.none,data:=.fields ps}:=x;show h'.get? a=some {cls:=.none,data:=.fields ps};exact k a _ (.inl rfl) e
 |met f y=>
  have e:h.get? a=some (VB (.ref f) (.ref y)):=x;show h'.get? a=some (VB (.ref f) (.ref y));exact k a _ (.inl rfl) e
 |ext φ=>obtain⟨p,⟨o,e⟩,st⟩:=x;exact⟨st _ _ p λo q=>k _ _ (.inl rfl) q,⟨o,k _ _ (.inl rfl) e⟩,st⟩
theorem cz.lt(x:cz P w H h)(e:H a=some o):a<h.objs.size:=(x a o e).lt
def cz.fresh(x:cz P w H h)(e:h.objs.size<=a):H a=none:=by
 cases q:H a with
 |none=>rfl
 |some u=>exact Mm (Ql (x.lt q) e) (Wa _)
def cz.kept(x:cz P w H h)(k:∀b u,h.get? b=some u->h'.get? b=some u):cz P w H h':=λa o e=>
 (x a o e).stay (λb u _ q=>k b u q) (λ_ q=>q) λ_ _ q=>q
def cz.laid(x:cz P w H h)(k:∀b u,h.get? b=some u->h'.get? b=some u)(hp:h.objs.size<=a)(new:bp P w (aI H a o) h' a o):cz P w (aI H a o) h':=λb u e=>by
 have hn:=x.fresh hp;by_cases hb:b=a
 .subst hb;rw[ze]at e;cases e;exact new
 .rw[zd hb]at e;exact(x b u e).stay (λc v _ q=>k c v q) (λc q=>by rw[zd (zo q hn)];exact q) λc xs q=>by rw[zd (zo q hn)];exact q
end
def Rd(H:Hp)(a:Addr)(u:HO):Prop:=H a=some u\/∃o,H a=some (.frz o u)
def Rd.ok (r:Rd H a u)(x:cz P w H h):bp P w H h a u:=by
 rcases r with r|⟨o,r⟩
 .exact x a u r
 .obtain ⟨_,q⟩:=x a _ r;exact q
def iT:Option HO->Prop
 |some (.lst _)=>True
 |some (.dK _)=>True
 |some (.dT _)=>True
 |some (.set _ _)=>True
 |some (.ins _ _ _)=>True
 |some (.ext _)=>True
 |_=>False
section
variable{P:JM}{w:JN}{H:Hp}{h h':JP}{x e:Addr}{o':HO}
def cz.write(ok:cz P w H h)(mu:iT (H x))(he:e=x\/H e=some (.own x))(k:∀b u,b≠e->h.get? b=some u->h'.get? b=some u)(heo:∃u,h'.get? e=some u)
  (new:bp P w (aI H x o') h' x o'):cz P w (aI H x o') h':=λb u q=>by
 have nown:∀c y,H c=some (.own y)->c≠x:=λc y r z=>by subst z;rw[r]at mu;exact mu
 have ntup:∀c xs,H c=some (.tup xs)->c≠x:=λc xs r z=>by subst z;rw[r]at mu;exact mu
 by_cases hb:b=x
 .subst hb;rw[ze]at q;cases q;exact new
 .rw[zd hb]at q;by_cases hbe:b=e
  .have q':H b=some (.own x):=by
    rcases he with z|z
    .exact Mm (hbe.trans z) hb
    .rw[hbe];exact z
   rw[q]at q';cases q';obtain⟨v,hv⟩:=heo;exact⟨v,by rw[hbe];exact hv⟩
  .refine (ok b u q).stay (λc v hc r=>k c v ?_ r) (λc r=>by rw[zd (nown c b r)];exact r) λc xs r=>by rw[zd (ntup c xs r)];exact r
   rcases hc with rfl|hc
   .exact hbe
   .rintro rfl;rcases he with z|z
    .exact nown c b hc z
    .rw[hc]at z;cases z;exact hb rfl
end
structure Un(fs ex:List Addr)(H H':Hp)(h h':JP):Prop where
 keep:∀b o,h.get? b=some o->H b=none->b∉fs->b∉ex->h'.get? b=some o
 slot:∀b o,h.get? b=some o->H b=none->b∈fs->b∉ex->∃sl,h'.get? b=some {o with slots:=sl}
 free:∀b o,h.get? b=some o->H b=none->b∉ex->H' b=none
 there:∀b o,h.get? b=some o->b∉ex->∃o',h'.get? b=some o'
 tups:∀b xs,H b=some (.tup xs)->H' b=some (.tup xs)
 frzs:∀b o u,H b=some (.frz o u)->H' b=some (.frz o u)
 tbls:∀b ps,H b=some (.tbl ps)->∃more,H' b=some (.tbl (ps++more))
section
variable{fs ex:List Addr}{H H1:Hp}{h h1 h':JP}{a x e:Addr}{o:HO}
def Un.any (u:Un fs ex H H1 h h1)(q:h.get? b=some ob)(n:H b=none)(hx:b∉ex):∃sl,h1.get? b=some {ob with slots:=sl}:=by
 by_cases hb:b∈fs
 .exact u.slot b ob q n hb hx
 .exact ⟨ob.slots,u.keep b ob q n hb hx⟩
def Un.kept(k:∀b u,h.get? b=some u->h'.get? b=some u):Un fs ex H H h h':=
 ⟨λb ob q _ _ _=>k b ob q,λb ob q _ _ _=>⟨ob.slots,k b ob q⟩,λ_ _ _ n _=>n,λb ob q _=>⟨ob,k b ob q⟩,λ_ _ q=>q,λ_ _ _ q=>q,λ_ ps q=>⟨#[],by rw[q];simp⟩⟩
def Un.refl:Un fs ex H H h h:=Un.kept λ_ _ q=>q
def Un.laid(k:∀b u,h.get? b=some u->h'.get? b=some u)(hp:h.objs.size<=a)(hn:H a=none):Un fs ex H (aI H a o) h h' where
 keep:=λb u q _ _ _=>k b u q
 slot:=λb u q _ _ _=>⟨u.slots,k b u q⟩
 free:=λb u q n _=>by rw[zd (QG (Ql (Qi q) hp))];exact n
 there:=λb u q _=>⟨u,k b u q⟩
 tups:=λb xs q=>by rw[zd (zo q hn)];exact q
 frzs:=λb u xs q=>by rw[zd (zo q hn)];exact q
 tbls:=λb ps q=>⟨#[],by rw[zd (zo q hn),q];simp⟩
def Un.write(mu:iT (H x))(he:e=x\/H e=some (.own x))(k:∀b u,b≠e->h.get? b=some u->h'.get? b=some u)(heo:∃u,h'.get? e=some u):Un fs ex H (aI H x o) h h':=by
 have hx:∀b,H b=none->b≠x:=λb n z=>by subst z;rw[n]at mu;exact mu
 have hb:∀b,H b=none->b≠e:=λb n z=>by
  subst z;rcases he with r|r
  .exact hx b n r
  .rw[n]at r;cases r
 have hm:∀b u,H b=some u->¬iT (some u)->b≠x:=λb u q nm z=>by subst z;rw[q]at mu;exact nm mu
 refine⟨λb u q n _ _=>k b u (hb b n) q,λb u q n _ _=>⟨u.slots,k b u (hb b n) q⟩,λb u q n _=>by rw[zd (hx b n)];exact n,λb u q _=>?_,
  λb xs q=>by rw[zd (hm b _ q λz=>z)];exact q,λb u xs q=>by rw[zd (hm b _ q λz=>z)];exact q,λb ps q=>⟨#[],by rw[zd (hm b _ q λz=>z),q];simp⟩⟩
 by_cases hbe:b=e
 .subst hbe;exact heo
 .exact ⟨u,k b u hbe q⟩
end
noncomputable def iE(h:JP)(H:Hp):List Addr:=(QU h.objs.size).filter λa=>(H a).isSome
def gu(h:JP)(H:Hp):JP:=PySem.W.hideAll h (iE h H)
def Fy(h:JP)(H:Hp):(gu h H).objs.size=h.objs.size:=PySem.W.hideAll_size _ _
def FW (e:h.get? b=some o)(n:H b=none):(gu h H).get? b=some o:=
 PySem.W.hideAll_get _ e λhm=>by
  have q:(H b).isSome=true:=(List.mem_filter.mp hm).2;rw[n]at q;simp at q
def Ej (e:(gu h H).get? b=some o):h.get? b=some o/\H b=none:=by
 have e':h.get? b=some o:=PySem.W.of_hideAll (iE h H) e;refine⟨e',?_⟩;cases q:H b with
 |none=>rfl
 |some x=>
  have hm:b∈iE h H:=List.mem_filter.mpr ⟨Vw.mpr (Qi e'),by simp[q]⟩;have z:(gu h H).get? b=none:=PySem.W.hideAll_none (iE h H) hm;rw[z]at e;cases e
structure Mod(K:Qb)(mg:Str->Option Value)(base:JP):Prop where
 kin:K.In base
 glob:base.Ns JU mg
 blt:∃mb,base.Ns builtinsNs mb/\∀x:Str,x ≠ "__name__" -> mb x=JV x
 nolimit:base.NoLimit
set_option genInjectivity false in
structure Cx where
 prog:JM
 w:JN
 K:Qb
 mg:Str->Option Value
 base:JP
 A:JW
 N:List Str
 s₀:Shared
 H₀:Hp
 env:Env
 outer:List Env
 stack:List Env
 ex:List Addr
 fn:Str->Bool
 calm:Bool
 pn:List (Addr×Obj)
 xe:Value->Shared->Prop
def dG(l:List Env):List Addr:=l.filterMap (·.frame)
abbrev Cx.fs(X:Cx):List Addr:=dG X.outer
def fG(sc:JK)(x:Str):Prop:=sc.names.lookup x=some .local\/sc.names.lookup x=some .cell\/sc.names.lookup x=some .free
def Loc(sc:JK)(x:Str):Prop:=sc.names.lookup x=some .local\/sc.names.lookup x=some .cell
def Look(env:Env)(h:JP)(m:Str->Option Value)(x:Str)(u:Value):Prop:=
 (env.kindOf x=some .local/\m x=some u)\/((env.kindOf x=some .cell\/env.kindOf x=some .free)/\∃c,env.cells.lookup x=some c/\h.IsCell c (some u))
structure Cx.Ok(X:Cx):Prop where
 mod:Mod X.K X.mg X.base
 kind:X.env.scope.kind=.function
 glob:X.env.globals=JU
 blt:X.env.builtins=builtinsNs
 above:X.s₀.heap.objs.size<=X.env.locals
 inj:∀x y c,X.env.cells.lookup x=some c->X.env.cells.lookup y=some c->x=y
 has:∀x,(X.env.kindOf x=some .cell\/X.env.kindOf x=some .free)->∃c,X.env.cells.lookup x=some c
 cab:∀x c,X.fn x=true->X.env.cells.lookup x=some c->X.s₀.heap.objs.size<=c
 hd:X.calm=true->X.A.handled=none
 frames:X.A.frames=some X.stack
 stk:X.stack=X.outer\/(X.stack=X.env::X.outer/\X.env.frame=some X.env.locals)
 exf:∀b∈X.ex,b≠X.env.locals/\∀x c,X.env.cells.lookup x=some c->c≠b
 bs:∀b o,X.base.get? b=some o->X.s₀.heap.get? b=some o/\X.H₀ b=none
 bsz:X.base.objs.size<=X.s₀.heap.objs.size
 noex:∀b o,X.base.get? b=some o->b∉X.ex
 exfs:∀b∈X.ex,b∉X.fs
 funs:X.s₀.heap.FunFrames X.base X.outer
 frf:∀b∈X.fs,X.H₀ b=none
structure Inv(X:Cx)(pins:List (Addr×Obj))(σ:List (Option V))(H:Hp)(s:Shared):Prop where
 ok:X.Ok
 os:s.os=X.s₀.os
 bare:JX s.gens
 base:Un X.fs X.ex X.H₀ H X.s₀.heap s.heap
 loc:∃m,s.heap.Ns X.env.locals m/\∀(i:Nat) (x:Str) (v:V),X.N[i]?=some x->σ[i]?=some (some v)->fG X.env.scope x->∃u,RelV v u/\Look X.env s.heap m x u
 cell:∀x c,X.env.cells.lookup x=some c->∃v,s.heap.IsCell c v
 free:H X.env.locals=none
 freeC:∀x c,X.env.cells.lookup x=some c->H c=none
 pin:∀p∈X.pn++pins,s.heap.get? p.1=some p.2/\H p.1=none/\p.1≠X.env.locals/\p.1∉X.fs/\∀v,p.2.data≠.cell v
 hok:cz X.prog X.w H s.heap
 len:σ.length=X.N.length
section
variable{X:Cx}{pins:List (Addr×Obj)}{σ:List (Option V)}{H H':Hp}{s:Shared}{h':JP}
def Cx.Ok.nofr (ok:X.Ok)(e:X.base.get? b=some o):b∉X.fs:=λhb=>by
 have:=(ok.funs.mem hb).1;rw[e]at this;cases this
theorem Inv.bs(I:Inv X pins σ H s):∀b o,X.base.get? b=some o->s.heap.get? b=some o/\H b=none:=λb o e=>
 ⟨I.base.keep b o (I.ok.bs b o e).1 (I.ok.bs b o e).2 (I.ok.nofr e) (I.ok.noex b o e),I.base.free b o (I.ok.bs b o e).1 (I.ok.bs b o e).2 (I.ok.noex b o e)⟩
def Inv.bk(I:Inv X pins σ H s):∀b o,X.base.get? b=some o->s.heap.get? b=some o:=λb o e=>(I.bs b o e).1
theorem Inv.mod(I:Inv X pins σ H s):Mod X.K X.mg X.base:=I.ok.mod
def Inv.kIn(I:Inv X pins σ H s):X.K.In s.heap:=I.ok.mod.kin.keeps I.bk
theorem Inv.lt(I:Inv X pins σ H s):X.env.locals<s.heap.objs.size:=let⟨_,hn,_⟩:=I.loc;hn.lt
def Inv.sz(I:Inv X pins σ H s):X.s₀.heap.objs.size<=s.heap.objs.size:=Qr I.ok.above (Vn I.lt)
def Inv.nofs (I:Inv X pins σ H s)(h:s.heap.objs.size<=a):a∉X.fs:=λhb=>by
 obtain⟨_,o,ho,_⟩:=I.ok.funs.mem hb;exact Mm (Ql (Qi ho) (Qr I.sz h)) (Wa _)
def Inv.cne(I:Inv X pins σ H s):∀x c,X.env.cells.lookup x=some c->c≠X.env.locals:=λx c e z=>by
 obtain⟨v,o,ho,hd⟩:=I.cell x c e;obtain⟨m,⟨o',es,ep,ho',hd',_⟩,_⟩:=I.loc;rw[z,ho']at ho;cases ho;rw[hd']at hd;cases hd
theorem Inv.funs(I:Inv X pins σ H s):s.heap.FunFrames X.base X.outer:=by
 have all:∀(l:List Env),(∀b∈dG l,b∈X.fs)->X.s₀.heap.FunFrames X.base l->s.heap.FunFrames X.base l:=by
  intro l
  induction l with
  |nil=>intro _ _;trivial
  |cons env r ih=>
   intro hs hl;obtain⟨hk,⟨L,o,hf,hn,ho,hd⟩,hr⟩:=hl;have hL:L∈X.fs:=hs L (by unfold dG;rw[VA,hf];exact QW);obtain⟨sl,e⟩:=I.base.slot L o ho (I.ok.frf L hL) hL λz=>I.ok.exfs L z hL;exact⟨hk,⟨L,_,hf,hn,e,hd⟩,ih (λb hb=>hs b (by unfold dG;rw[VA,hf];exact Qk _ hb)) hr⟩
 exact all X.outer (λ_ hb=>hb) I.ok.funs
theorem Inv.stack(I:Inv X pins σ H s):s.heap.FunFrames X.base X.stack:=by
 rcases I.ok.stk with e|⟨e,hf⟩
 .rw[e];exact I.funs
 .rw[e];obtain⟨m,hn,_⟩:=I.loc;refine .cons (by rw[I.ok.kind];decide) hf hn ?_ I.funs;exact Heap.get?_none_of_le (Qr I.ok.bsz I.ok.above)
def Inv.stkSub(I:Inv X pins σ H s):∀b∈dG X.stack,b∈X.env.locals::X.fs:=λb hb=>by
 rcases I.ok.stk with e|⟨e,hf⟩
 .rw[e]at hb;exact Qk _ hb
 .rw[e]at hb;unfold dG at hb;rw[VA,hf]at hb;exact hb
def Inv.stkFree(I:Inv X pins σ H s):∀b∈dG X.stack,H b=none:=λb hb=>by
 rcases Qn.mp (I.stkSub b hb)with e|hb
 .rw[e];exact I.free
 .obtain ⟨_,o,ho,_⟩:=I.ok.funs.mem hb;exact I.base.free b o ho (I.ok.frf b hb) λz=>I.ok.exfs b z hb
def Inv.step{g':Array GenState}{t':Nat}{d':Drawn}{ch:List Addr}(I:Inv X pins σ H s)
  (hch:∀b∈ch,(b∈X.ex\/X.s₀.heap.objs.size<=b)/\b≠X.env.locals/\(∀x c,X.env.cells.lookup x=some c->c≠b)/\∀p∈X.pn++pins,p.1≠b)
  (keep:∀b o,b≠X.env.locals->b∉X.fs->b∉ch->s.heap.get? b=some o->H b=none->h'.get? b=some o)
  (slot:∀b o,b≠X.env.locals->b∈X.fs->b∉ch->s.heap.get? b=some o->H b=none->∃sl,h'.get? b=some {o with slots:=sl}) (free:∀b o,b∉ch->s.heap.get? b=some o->H b=none->H' b=none)
  (there:∀b o,b∉ch->s.heap.get? b=some o->∃o',h'.get? b=some o')
  (tups:∀b xs,H b=some (.tup xs)->H' b=some (.tup xs)) (frzs:∀b o u,H b=some (.frz o u)->H' b=some (.frz o u)) (tbls:∀b ps,H b=some (.tbl ps)->∃more,H' b=some (.tbl (ps++more)))
  (ns:∀m,s.heap.Ns X.env.locals m->h'.Ns X.env.locals m) (hok:cz X.prog X.w H' h') (hg:JX g') :
  Inv X pins σ H' {s with heap:=h',gens:=g',drawn:=d',toks:=t' }:=by
 have neL:∀b o,X.s₀.heap.get? b=some o->b≠X.env.locals:=λb o e=>QG (Ql (Qi e) I.ok.above);have neC:∀b o,X.s₀.heap.get? b=some o->b∉X.ex->b∉ch:=λb o e hx hb=>by
  rcases(hch b hb).1 with z|z
  .exact hx z
  .exact Mm (Ql (Qi e) z) (Wa _)
 have cellK:∀x c,X.env.cells.lookup x=some c->∀v,s.heap.IsCell c v->h'.IsCell c v:=λx c e v ⟨o,ho,hd⟩=>by
  have nch:c∉ch:=λz=>(hch c z).2.2.1 x c e rfl;by_cases hc:c∈X.fs
  .obtain ⟨sl,q⟩:=slot c o (I.cne x c e) hc nch ho (I.freeC x c e);exact⟨_,q,hd⟩
  .exact ⟨o,keep c o (I.cne x c e) hc nch ho (I.freeC x c e),hd⟩
 refine⟨I.ok,I.os,hg,⟨λb o e n hb hx=>?_,λb o e n hb hx=>?_,λb o e n hx=>?_,λb o e hx=>?_,λb xs e=>tups b xs (I.base.tups b xs e),λb o xs e=>frzs b o xs (I.base.frzs b o xs e),λb ps e=>?_⟩,?_,λx c e=>?_,?_,λx c e=>?_,λp hp=>?_,hok,I.len⟩
 .exact keep b o (neL b o e) hb (neC b o e hx) (I.base.keep b o e n hb hx) (I.base.free b o e n hx)
 .obtain ⟨sl,e1⟩:=I.base.slot b o e n hb hx;obtain⟨sl',e2⟩:=slot b _ (neL b o e) hb (neC b o e hx) e1 (I.base.free b o e n hx);exact⟨sl',e2⟩
 .obtain ⟨o',e1⟩:=I.base.there b o e hx;exact free b o' (neC b o e hx) e1 (I.base.free b o e n hx)
 .obtain ⟨o',e1⟩:=I.base.there b o e hx;exact there b o' (neC b o e hx) e1
 .obtain ⟨m1,e1⟩:=I.base.tbls b ps e;obtain⟨m2,e2⟩:=tbls b _ e1;exact⟨m1++m2,by rw[e2,Array.append_assoc]⟩
 .obtain ⟨m,hn,hl⟩:=I.loc;refine⟨m,ns m hn,λi x v e1 e2 e3=>?_⟩;obtain⟨u,r,l⟩:=hl i x v e1 e2 e3;refine⟨u,r,?_⟩;rcases l with l|⟨k,c,e,z⟩
  .exact .inl l
  .exact .inr ⟨k,c,e,cellK x c e _ z⟩
 .obtain ⟨v,z⟩:=I.cell x c e;exact⟨v,cellK x c e v z⟩
 .obtain ⟨m,⟨o,_,_,ho,_⟩,_⟩:=I.loc;exact free _ o (λz=>(hch _ z).2.1 rfl) ho I.free
 .obtain ⟨v,o,ho,hd⟩:=I.cell x c e;exact free c o (λz=>(hch c z).2.2.1 x c e rfl) ho (I.freeC x c e)
 .obtain ⟨e,n,ne,nf,d⟩:=I.pin p hp;have nch:p.1∉ch:=λz=>(hch p.1 z).2.2.2 p hp rfl;exact⟨keep p.1 p.2 ne nf nch e n,free p.1 p.2 nch e n,ne,nf,d⟩
def Inv.un{t':Nat}(I:Inv X pins σ H s)(u:Un X.fs [] H H' s.heap h')(hok:cz X.prog X.w H' h'):Inv X pins σ H' {s with heap:=h',toks:=t' }:=by
 obtain⟨m,⟨o,es,ep,ho,r⟩,_⟩:=id I.loc;obtain⟨sl,hL⟩:=u.any ho I.free (by simp);exact I.step (g':=s.gens) (d':=s.drawn) (ch:=[]) (λ_ z=>nomatch z) (λb o _ hb _ e n=>u.keep b o e n hb (by simp)) (λb o _ hb _ e n=>u.slot b o e n hb (by simp)) (λb o _ e n=>u.free b o e n (by simp)) (λb o _ e=>u.there b o e (by simp)) u.tups u.frzs u.tbls (λm' hm=>by
  obtain⟨o',es',ep',ho',r'⟩:=hm;rw[ho]at ho';cases ho';exact⟨_,es',ep',hL,r'⟩) hok I.bare
def Inv.call{g':Array GenState}{t':Nat}{d':Drawn}{ch:List Addr}(I:Inv X pins σ H s)(u:Un (dG X.stack) ch H H' s.heap h')(hok:cz X.prog X.w H' h')(hg:JX g')
  (hch:∀b∈ch,(b∈X.ex\/X.s₀.heap.objs.size<=b)/\b≠X.env.locals/\(∀x c,X.env.cells.lookup x=some c->c≠b)/\∀p∈X.pn++pins,p.1≠b) :
  Inv X pins σ H' {s with heap:=h',gens:=g',drawn:=d',toks:=t' }:=by
 obtain⟨m,⟨o,es,ep,ho,r⟩,_⟩:=id I.loc;obtain⟨sl,hL⟩:=u.any ho I.free λz=>(hch _ z).2.1 rfl;exact I.step (ch:=ch) hch (λb o hL hb hc e n=>u.keep b o e n (λz=>(Qn.mp (I.stkSub b z)).elim hL hb) hc) (λb o _ _ hc e n=>u.any e n hc) (λb o hc e n=>u.free b o e n hc) (λb o hc e=>u.there b o e hc) u.tups u.frzs u.tbls (λm' hm=>by
  obtain⟨o',es',ep',ho',r'⟩:=hm;rw[ho]at ho';cases ho';exact⟨_,es',ep',hL,r'⟩) hok hg
def Inv.turned{t':Nat}{it:Addr}(I:Inv X pins σ H s)(k:∀b o,b≠it->s.heap.get? b=some o->h'.get? b=some o)(hn:H it=none)(hL:it≠X.env.locals)
  (h1:it∈X.ex\/X.s₀.heap.objs.size<=it) (h2:∀x c,X.env.cells.lookup x=some c->c≠it) (h3:∀p∈X.pn++pins,p.1≠it):Inv X pins σ H {s with heap:=h',toks:=t' }:=by
 have nit:∀b u,H b=some u->b≠it:=λb u e z=>by rw[z,hn]at e;cases e
 refine I.step (g':=s.gens) (d':=s.drawn) (ch:=[it]) (λb hb=>?_) (λb o _ _ hc e _=>k b o (λz=>hc (by simp[z])) e) (λb o _ _ hc e _=>⟨o.slots,k b o (λz=>hc (by simp[z])) e⟩) (λ_ _ _ _ n=>n)
  (λb o hc e=>⟨o,k b o (λz=>hc (by simp[z])) e⟩) (λ_ _ e=>e) (λ_ _ _ e=>e) (λb ps e=>⟨#[],by rw[e];simp⟩) (λm hm=>?_) (λb u e=>?_) I.bare
 .have e:b=it:=by simpa using hb
  subst e;exact⟨h1,hL,h2,h3⟩
 .obtain ⟨o,es,ep,ho,r⟩:=hm;exact⟨o,es,ep,k _ o (Ne.symm hL) ho,r⟩
 .refine (I.hok b u e).stay (λc v hc q=>k c v ?_ q) (λ_ q=>q) λ_ _ q=>q;rcases hc with z|z
  .rw[z];exact nit b u e
  .exact nit c _ z
def Inv.tok(I:Inv X pins σ H s)(t:Nat):Inv X pins σ H {s with toks:=t}:=I.un (h':=s.heap) (t':=t) Un.refl I.hok
theorem Inv.kept{t':Nat}(I:Inv X pins σ H s)(k:∀b u,s.heap.get? b=some u->h'.get? b=some u):Inv X pins σ H {s with heap:=h',toks:=t' }:=I.un (Un.kept k) (I.hok.kept k)
theorem Inv.laid{a:Addr}{o:HO}{t':Nat}(I:Inv X pins σ H s)(k:∀b u,s.heap.get? b=some u->h'.get? b=some u)(hp:s.heap.objs.size<=a)(new:bp X.prog X.w (aI H a o) h' a o):
  Inv X pins σ (aI H a o) {s with heap:=h',toks:=t' }:=I.un (Un.laid k hp (I.hok.fresh hp)) (I.hok.laid k hp new)
theorem Inv.write{x e:Addr}{o:HO}{t':Nat}(I:Inv X pins σ H s)(mu:iT (H x))(he:e=x\/H e=some (.own x))(k:∀b u,b≠e->s.heap.get? b=some u->h'.get? b=some u)(heo:∃u,h'.get? e=some u)
  (new:bp X.prog X.w (aI H x o) h' x o):Inv X pins σ (aI H x o) {s with heap:=h',toks:=t' }:=I.un (Un.write mu he k heo) (I.hok.write mu he k heo new)
def Inv.pins_of{pins':List (Addr×Obj)}(I:Inv X pins σ H s)(h:∀p∈pins',s.heap.get? p.1=some p.2/\H p.1=none/\p.1≠X.env.locals/\p.1∉X.fs/\∀v,p.2.data≠.cell v):Inv X pins' σ H s:=
 ⟨I.ok,I.os,I.bare,I.base,I.loc,I.cell,I.free,I.freeC,λp hp=>(Qx.mp hp).elim (λz=>I.pin p (Wc _ z)) (h p),I.hok,I.len⟩
def qy {N:List Str}(hN:N.Nodup){j:Nat}(a:N[i]?=some x)(b:N[j]?=some x):i=j:=by
 obtain⟨h1,e1⟩:=Qa.mp a;obtain⟨h2,e2⟩:=Qa.mp b;exact(WZ hN).mp (e1.trans e2.symm)
def jN (I:Inv X pins σ H s)(hN:X.N.Nodup)(hi:X.N[i]?=some x)(hx:Loc X.env.scope x)(r:RelV v u)(h:∀s',Inv X pins (σ.set i (some v)) H s'->(∃a,Q8 a s.heap s'.heap/\(a=X.env.locals\/X.env.cells.lookup x=some a))->Q () s')(hf:X.fn x=true\/X.env.scope.names.lookup x=some .local:=by first|exact .inl rfl|exact .inr rfl|assumption):JY M A (storeName X.env x u) Q E s:=by
 obtain⟨m,hn,hl⟩:=id I.loc;have hcls:(X.env.scope.kind == .class || (X.env.scope.kind == .module&&X.env.locals != X.env.globals))=false:=by rw[I.ok.kind];rfl
 have hiσ:i<σ.length:=by rw[I.len];exact(Qa.mp hi).1
 have cne:=I.cne;have tracked:∀{a:Addr}{h':JP},(∃o,s.heap.get? a=some o/\H a=none)->Q8 a s.heap h'->cz X.prog X.w H h':=λ{a h'} ha hs b ob e=>by
  obtain⟨_,_,hfree⟩:=ha;refine(I.hok b ob e).stay (λc w' hc q=>(hs.2 c ?_).trans q) (λ_ q=>q) λ_ _ q=>q;rintro rfl;rcases hc with rfl|hc
  .rw[hfree]at e;cases e
  .rw[hfree]at hc;cases hc
 rcases hx with hk|hk
 .refine wpAny_storeName_local hk hn (λh' hn' hs=>?_) hcls;obtain⟨oL,_,_,hoL,_⟩:=id hn;refine h _ ⟨I.ok,I.os,I.bare,⟨λb o e n hb hx=>?_,λb o e n hb hx=>?_,I.base.free,λb o e hx=>?_,I.base.tups,I.base.frzs,I.base.tbls⟩,⟨_,hn',λj y v' e1 e2 e3=>?_⟩,λy c e=>?_,I.free,I.freeC,λp hp=>?_,tracked ⟨oL,hoL,I.free⟩ hs,by simpa using I.len⟩ ⟨_,hs,.inl rfl⟩
  .exact (hs.2 b (QG (Ql (Qi e) I.ok.above))).trans (I.base.keep b o e n hb hx)
  .obtain ⟨sl,e1⟩:=I.base.slot b o e n hb hx;exact⟨sl,(hs.2 b (QG (Ql (Qi e) I.ok.above))).trans e1⟩
  .obtain ⟨o',e1⟩:=I.base.there b o e hx;exact⟨o',(hs.2 b (QG (Ql (Qi e) I.ok.above))).trans e1⟩
  .by_cases hj:j=i
   .subst hj;rw[hi]at e1;cases e1;rw[Wj hiσ]at e2;cases e2;exact⟨u,r,.inl ⟨hk,by simp⟩⟩
   .rw[QD (Ne.symm hj)]at e2;obtain⟨u',r',q⟩:=hl j y v' e1 e2 e3;refine⟨u',r',?_⟩;rcases q with⟨k,e⟩|⟨k,c,e,z⟩
    .refine .inl ⟨k,?_⟩;have:y≠x:=λe=>hj (qy hN e1 (e▸hi));simp[this,e]
    .exact .inr ⟨k,c,e,z.sameBut hs (cne y c e)⟩
  .obtain ⟨w',z⟩:=I.cell y c e;exact⟨w',z.sameBut hs (cne y c e)⟩
  .obtain ⟨e,n,ne,nf,d⟩:=I.pin p hp;exact⟨(hs.2 p.1 ne).trans e,n,ne,nf,d⟩
 .have hfn:X.fn x=true:=by
   rcases hf with z|z
   .exact z
   .rw[z]at hk;cases hk
  obtain⟨c,hc⟩:=I.ok.has x (.inl hk);obtain⟨w',z⟩:=I.cell x c hc;refine wpAny_storeName_cell I.ok.kind hk hc z (λh' hc' hs=>?_);obtain⟨oc,hoc,hocd⟩:=id z;refine h {s with heap:=h' } ⟨I.ok,I.os,I.bare,⟨λb o e n hb hx=>?_,λb o e n hb hx=>?_,I.base.free,λb o e hx=>?_,I.base.tups,I.base.frzs,I.base.tbls⟩,⟨m,hn.sameBut hs (Ne.symm (cne x c hc)),λj y v' e1 e2 e3=>?_⟩,λy c' e=>?_,I.free,I.freeC,λp hp=>?_,tracked ⟨oc,hoc,I.freeC x c hc⟩ hs,by simpa using I.len⟩ ⟨c,hs,.inr hc⟩
  .exact (hs.2 b (QG (Ql (Qi e) (I.ok.cab x c hfn hc)))).trans (I.base.keep b o e n hb hx)
  .obtain ⟨sl,e1⟩:=I.base.slot b o e n hb hx;exact⟨sl,(hs.2 b (QG (Ql (Qi e) (I.ok.cab x c hfn hc)))).trans e1⟩
  .obtain ⟨o',e1⟩:=I.base.there b o e hx;exact⟨o',(hs.2 b (QG (Ql (Qi e) (I.ok.cab x c hfn hc)))).trans e1⟩
  .by_cases hj:j=i
   .subst hj;rw[hi]at e1;cases e1;rw[Wj hiσ]at e2;cases e2;exact⟨u,r,.inr ⟨.inl hk,c,hc,hc'⟩⟩
   .rw[QD (Ne.symm hj)]at e2;obtain⟨u',r',q⟩:=hl j y v' e1 e2 e3;refine⟨u',r',?_⟩;rcases q with q|⟨k,c',e,z'⟩
    .exact .inl q
    .refine .inr ⟨k,c',e,z'.sameBut hs ?_⟩;rintro rfl;exact hj (qy hN e1 (I.ok.inj _ _ _ e hc▸hi))
  .by_cases hcc:c'=c
   .subst hcc;exact⟨_,hc'⟩
   .obtain ⟨w2,z2⟩:=I.cell y c' e;exact⟨w2,z2.sameBut hs hcc⟩
  .obtain ⟨e,n,ne,nf,d⟩:=I.pin p hp;refine⟨(hs.2 p.1 ?_).trans e,n,ne,nf,d⟩;intro q;rw[q,hoc]at e;have q':oc=p.2:=Option.some.inj e;exact d w' (by rw[<-q'];exact hocd)
def kJ (I:Inv X pins σ H s)(hN:X.N.Nodup)(hi:X.N[i]?=some x)(hx:Loc X.env.scope x)(r:RelV v u)(h:∀s',Inv X pins (σ.set i (some v)) H s'->Q () s')(hf:X.fn x=true\/X.env.scope.names.lookup x=some .local:=by first|exact .inl rfl|exact .inr rfl|assumption):JY M A (storeName X.env x u) Q E s:=
 jN I hN hi hx r (λs' I' _=>h s' I') hf
def Inv.call'{s':Shared}{ch:List Addr}(I:Inv X pins σ H s)(ho:s'.os=s.os)(u:Un (dG X.stack) ch H H' s.heap s'.heap)(hok:cz X.prog X.w H' s'.heap)(hg:JX s'.gens)
  (hch:∀b∈ch,(b∈X.ex\/X.s₀.heap.objs.size<=b)/\b≠X.env.locals/\(∀x c,X.env.cells.lookup x=some c->c≠b)/\∀p∈X.pn++pins,p.1≠b):Inv X pins σ H' s':=by
 obtain⟨h',g',d',t',o'⟩:=s';have e:o'=s.os:=ho;subst e;exact I.call (g':=g') (t':=t') (d':=d') u hok hg hch
end
abbrev XK:=Value->Option Addr->Hp->Prop
abbrev St:=List (Option V)
abbrev VK:=V->Hp->Prop
abbrev TE:=St->Hp->VK->Prop
abbrev TT:=St->Hp->(Bool->Hp->Prop)->Prop
abbrev TA:=St->Hp->(List V->Hp->Prop)->Prop
set_option genInjectivity false in
structure cc where
 nx:St->Hp->Prop
 rt:VK
 bk:St->Hp->Prop:=λ_ _=>False
 ct:St->Hp->Prop:=λ_ _=>False
abbrev TS:=cc->St->Hp->Prop
def EP(X:Cx)(pins:List (Addr×Obj))(σ:St)(Q:VK)(u:Value)(s':Shared):Prop:=∃v H',Inv X pins σ H' s'/\RelV v u/\Q v H'
def TP(X:Cx)(pins:List (Addr×Obj))(σ:St)(Q:Bool->Hp->Prop)(b:Bool)(s':Shared):Prop:=∃H',Inv X pins σ H' s'/\Q b H'
def AP(X:Cx)(pins:List (Addr×Obj))(σ:St)(Q:List V->Hp->Prop)(us:List Value)(s':Shared):Prop:=∃vs H',Inv X pins σ H' s'/\av vs us/\Q vs H'
def SP(X:Cx)(pins:List (Addr×Obj))(D:cc)(f:Flow)(s':Shared):Prop:=
 match f with
 |.next=>∃σ' H',Inv X pins σ' H' s'/\D.nx σ' H'
 |.brk=>∃σ' H',Inv X pins σ' H' s'/\D.bk σ' H'
 |.cont=>∃σ' H',Inv X pins σ' H' s'/\D.ct σ' H'
 |.ret u=>∃v σ' H',Inv X pins σ' H' s'/\RelV v u/\D.rt v H'
def PE(X:Cx)(e:Expr)(t:TE):Prop:=
 ∀(pins:List (Addr×Obj)) (s:Shared) (σ:St) (H:Hp) (Q:VK),Inv X pins σ H s->t σ H Q->JY (JZ X.prog X.w) X.A (eval e X.env) (EP X pins σ Q) X.xe s
def PT(X:Cx)(e:Expr)(t:TT):Prop:=
 ∀(pins:List (Addr×Obj)) (s:Shared) (σ:St) (H:Hp) (Q:Bool->Hp->Prop),Inv X pins σ H s->t σ H Q->JY (JZ X.prog X.w) X.A (isTrue e X.env (eval e X.env)) (TP X pins σ Q) X.xe s
def PW(X:Cx)(e:Expr)(t:TT):Prop:=
 ∀(whole:Sem Value) (pins:List (Addr×Obj)) (s:Shared) (σ:St) (H:Hp) (Q:Bool->Hp->Prop),Inv X pins σ H s->t σ H Q->JY (JZ X.prog X.w) X.A (isTrue e X.env whole) (TP X pins σ Q) X.xe s
def PW.pt (h:PW X e t):PT X e t:=h _
def PA(X:Cx)(es:List Expr)(t:TA):Prop:=
 ∀(pos:Pos) (pins:List (Addr×Obj)) (s:Shared) (σ:St) (H:Hp) (Q:List V->Hp->Prop),Inv X pins σ H s->t σ H Q->JY (JZ X.prog X.w) X.A (spliced (J0 pos (J1 es X.env))) (AP X pins σ Q) X.xe s
def PS(X:Cx)(st:Stmt)(t:TS):Prop:=
 ∀(pins:List (Addr×Obj)) (s:Shared) (σ:St) (H:Hp) (D:cc),Inv X pins σ H s->t D σ H->JY (JZ X.prog X.w) X.A (exec st X.env) (SP X pins D) X.xe s
def cC(X:Cx)(st:List Stmt)(t:TS):Prop:=
 ∀(pins:List (Addr×Obj)) (s:Shared) (σ:St) (H:Hp) (D:cc),Inv X pins σ H s->t D σ H->JY (JZ X.prog X.w) X.A (execs st X.env) (SP X pins D) X.xe s
def ba (h:JY M A t Q E s)(hQ:∀a s,Q a s->Q' a s):JY M A t Q' E s:=J2 h hQ λ_ _ x=>x
section
variable{X:Cx}
def lL(i:Nat):TE:=λσ H Q=>∃v,σ[i]?=some (some v)/\Q v H
def tC(v:V):TE:=λ_ H Q=>Q v H
def CU (hN:X.N[i]?=some x)(hv:fG X.env.scope x)(hd:(x==("__debug__":Str))=false:=by decide)(hcd:(x==("__classdict__":Str))=false:=by decide):PE X (.Name x pos) (lL i):=by
 intro pins s σ H Q I h;obtain⟨v,e,h⟩:=h;obtain⟨m,hn,hl⟩:=I.loc;obtain⟨u,r,l⟩:=hl i x v hN e hv;have fin:EP X pins σ Q u s:=⟨v,H,I,r,h⟩;rcases l with⟨hk,hm⟩|⟨hk,c,hc,hcell⟩
 .exact wpAny_Name (J3 I.ok.kind hk hn hm fin) hd
 .rcases hk with hk|hk
  .exact wpAny_Name (J4 I.ok.kind hk hc hcell fin) hd
  .exact wpAny_Name (wpAny_loadName_free I.ok.kind hk hc hcell fin hcd) hd
def CT{i j pos}:PE X (.Constant (.int i) j pos) (tC (.int i)):=λ_ _ _ H _ I h=>wpAny_Constant_int ⟨.int i,H,I.tok _,⟨_,rfl⟩,h⟩
def A4{b j pos}:PE X (.Constant (.bool b) j pos) (tC (.bl b)):=λ_ _ _ H _ I h=>Constant_bool ⟨.bl b,H,I,rfl,h⟩
def Gl(X:Cx)(x:Str):Prop:=X.env.kindOf x=some .globalImplicit
def rA (I:Inv X pins σ H s)(hg:Gl X x)(hm:X.mg x=some u)(h:Q u s)(hd:(x==("__debug__":Str))=false:=by decide):JY (JZ X.prog X.w) X.A (eval (.Name x pos) X.env) Q E s:=
 Calls.Name_function_global I.ok.kind hg (Calls.loadGlobal_global (by rw[I.ok.glob];exact I.mod.glob.keeps I.bk) hm h) hd
def x9 (I:Inv X pins σ H s)(hg:Gl X x)(hm:X.mg x=none)(hv:JV x=some u)(h:Q u s)(hn:x ≠ "__name__":=by decide)(hd:(x==("__debug__":Str))=false:=by decide):JY (JZ X.prog X.w) X.A (eval (.Name x pos) X.env) Q E s:=by
 obtain⟨mb,h1,h2⟩:=I.mod.blt;exact Calls.Name_function_global I.ok.kind hg (Calls.loadGlobal_builtin (by rw[I.ok.glob];exact I.mod.glob.keeps I.bk) hm (by rw[I.ok.blt];exact h1.keeps I.bk) ((h2 x hn).trans hv) h) hd
def Ei (hg:Gl X x)(hm:X.mg x=some u)(r:RelV v u)(hd:(x==("__debug__":Str))=false:=by decide):PE X (.Name x pos) (tC v):=
 λ_ _ _ H _ I h=>rA I hg hm ⟨v,H,I,r,h⟩ hd
def Eh (hg:Gl X x)(hm:X.mg x=none)(hv:JV x=some u)(r:RelV v u)(hn:x ≠ "__name__":=by decide)(hd:(x==("__debug__":Str))=false:=by decide):PE X (.Name x pos) (tC v):=
 λ_ _ _ H _ I h=>x9 I hg hm hv ⟨v,H,I,r,h⟩ hn hd
variable{a b:Expr}{ta tb:TE}{pos:Pos}
def tB(t:TE):TT:=λσ H Q=>t σ H λx H1=>∃c,x=.bl c/\Q c H1
def CS (h:PE X e t)(he:∀whole,isTrue e X.env whole=(do let v <-whole;standAt e.pos;holding [v] (truthy v)):=by intro _;rfl):PT X e (tB t):=by
 intro pins s σ H Q I hw;refine isTrue_plain (ba (h pins s σ H _ I hw) λv s1 ⟨x,H1,I1,r1,q1⟩=>?_) (he _);obtain⟨d,rfl,q⟩:=q1;cases r1;exact J5 ⟨H1,I1,q⟩
variable{tA tB':TT}{rest:List Expr}
def lW(t u:TT):TT:=λσ H Q=>t σ H λc H1=>if c=true then u σ H1 Q else Q false H1
def Gy(t u:TT):TT:=λσ H Q=>t σ H λc H1=>if c=true then Q true H1 else u σ H1 Q
def lR(t:TT):TT:=λσ H Q=>t σ H λc H1=>Q (! c) H1
def Eg(ha:PT X a tA):PW X (.BoolOp .And [a] pos) tA:=by
 intro wh pins s σ H Q I h;refine isTrue_and (ba (ha pins s σ H Q I h) λc s1 e=>?_);cases c with
 |true=>exact isTrue_and_nil e
 |false=>exact e
def CQ(ha:PT X a tA):PW X (.BoolOp .Or [a] pos) tA:=by
 intro wh pins s σ H Q I h;refine isTrue_or (ba (ha pins s σ H Q I h) λc s1 e=>?_);cases c with
 |false=>exact isTrue_or_nil e
 |true=>exact e
def CP(ha:PT X a tA)(hb:PW X (.BoolOp .And (b::rest) pos) tB'):PW X (.BoolOp .And (a::b::rest) pos) (lW tA tB'):=by
 intro wh pins s σ H Q I h;refine isTrue_and (ba (ha pins s σ H _ I h) λc s1 ⟨H1,I1,q1⟩=>?_);cases c with
 |true=>exact hb wh pins s1 σ H1 Q I1 q1
 |false=>exact⟨H1,I1,q1⟩
def A0(ha:PT X a tA)(hb:PW X (.BoolOp .Or (b::rest) pos) tB'):PW X (.BoolOp .Or (a::b::rest) pos) (Gy tA tB'):=by
 intro wh pins s σ H Q I h;refine isTrue_or (ba (ha pins s σ H _ I h) λc s1 ⟨H1,I1,q1⟩=>?_);cases c with
 |true=>exact⟨H1,I1,q1⟩
 |false=>exact hb wh pins s1 σ H1 Q I1 q1
def CO(ha:PT X a tA):PT X (.UnaryOp .Not a pos) (lR tA):=by
 intro pins s σ H Q I h;exact isTrue_not (ha pins s σ H (λc H1=>Q (! c) H1) I h)
def AZ(ta tb:TE):TE:=λσ H Q=>ta σ H λx H1=>∃c,x=.bl c/\if c=true then tb σ H1 Q else Q (.bl false) H1
def lP(ta tb:TE):TE:=λσ H Q=>ta σ H λx H1=>∃c,x=.bl c/\if c=true then Q (.bl true) H1 else tb σ H1 Q
def AY(ta:TE):TE:=λσ H Q=>ta σ H λx H1=>∃c,x=.bl c/\Q (.bl (! c)) H1
def rq {op}(h:PE X a t):PE X (.BoolOp op [a] pos) t:=λpins s σ H Q I hw=>BoolOp_one (h pins s σ H Q I hw)
def CN(ha:PE X a ta)(hb:PE X (.BoolOp .And (b::rest) pos) tb):PE X (.BoolOp .And (a::b::rest) pos) (AZ ta tb):=by
 intro pins s σ H Q I h;refine BoolOp_and (ba (ha pins s σ H _ I h) λv s1 ⟨x,H1,I1,r1,q1⟩=>?_);obtain⟨c,rfl,q1⟩:=q1;cases r1;refine J5 ?_;cases c with
 |true=>exact hb pins s1 σ H1 Q I1 q1
 |false=>exact⟨.bl false,H1,I1,rfl,q1⟩
def AX(ha:PE X a ta)(hb:PE X (.BoolOp .Or (b::rest) pos) tb):PE X (.BoolOp .Or (a::b::rest) pos) (lP ta tb):=by
 intro pins s σ H Q I h;refine BoolOp_or (ba (ha pins s σ H _ I h) λv s1 ⟨x,H1,I1,r1,q1⟩=>?_);obtain⟨c,rfl,q1⟩:=q1;cases r1;refine J5 ?_;cases c with
 |false=>exact hb pins s1 σ H1 Q I1 q1
 |true=>exact⟨.bl true,H1,I1,rfl,q1⟩
def CM(ha:PE X a ta):PE X (.UnaryOp .Not a pos) (AY ta):=by
 intro pins s σ H Q I h;refine UnaryOp_ (ba (ha pins s σ H _ I h) λv s1 ⟨x,H1,I1,r1,q1⟩=>?_);obtain⟨c,rfl,q1⟩:=q1;cases r1;exact not_of (J5 ⟨.bl (! c),H1,I1,rfl,q1⟩)
def tH(t:TT)(ta tb:TE):TE:=λσ H Q=>t σ H λc H1=>if c=true then ta σ H1 Q else tb σ H1 Q
def FV (hc:PT X c tA)(ha:PE X a ta)(hb:PE X b tb):PE X (.IfExp c a b pos) (tH tA ta tb):=by
 intro pins s σ H Q I h;refine wpAny_IfExp (ba (hc pins s σ H _ I h) λd s1 ⟨H1,I1,q1⟩=>?_);cases d with
 |true=>exact ha pins s1 σ H1 Q I1 q1
 |false=>exact hb pins s1 σ H1 Q I1 q1
end
def bE(K:Qb)(H:Hp)(a:Addr)(xs:List V):Prop:=
 Rd H a (.lst xs) \/
  ∃(o:Obj) (its:Array Value) (n:Nat),K.lookup a=some o/\o.cls=.type "list" /\ o.dict=none/\o.data=.seq its n/\its.size<=sizeLine/\av xs its.toList
def bI(K:Qb)(H:Hp)(a:Addr)(xs:List V):Prop:=
 Rd H a (.tup xs) \/
  ∃(o:Obj) (its:Array Value) (n:Nat),K.lookup a=some o/\o.cls=.type "tuple" /\ o.data=.seq its n/\its.size<=sizeLine/\av xs its.toList
noncomputable def nq:Value->Option V
 |.none=>some .non
 |.bool b=>some (.bl b)
 |.int i _=>some (.int i)
 |.str x _=>some (.str x)
 |.bytes b _=>some (.byt b)
 |.float b _=>some (.flt b)
 |.ref a=>some (.ref a)
 |.type n=>some (.ty n)
 |_=>none
def RelV.abs (r:RelV x u):nq u=some x:=by
 cases x with
 |non=>cases r;rfl
 |bl _=>cases r;rfl
 |int _=>obtain⟨t,rfl⟩:=r;rfl
 |str _=>obtain⟨t,rfl⟩:=r;rfl
 |byt _=>obtain⟨t,rfl⟩:=r;rfl
 |flt _=>obtain⟨t,rfl⟩:=r;rfl
 |ref _=>cases r;rfl
 |ty _=>cases r;rfl
theorem RelV.inj (r:RelV x u)(q:RelV y u):x=y:=Option.some.inj (r.abs.symm.trans q.abs)
theorem av.inj:∀{xs ys:List V}{us:List Value},av xs us->av ys us->xs=ys
 |_,_,_,.nil,.nil=>rfl
 |_,_,_,.cons r t,.cons r' t'=>by rw[r.inj r',av.inj t t']
section
variable{X:Cx}{pins:List (Addr×Obj)}{σ:St}{H:Hp}{s:Shared}{a:Addr}{xs ys:List V}
def bE.of{K:Qb}(h:H a=some (.lst xs)):bE K H a xs:=.inl (.inl h)
def bI.of{K:Qb}(h:H a=some (.tup xs)):bI K H a xs:=.inl (.inl h)
def Inv.list(I:Inv X pins σ H s)(h:bE X.K H a xs):∃its:List Value,av xs its/\PlainL s.heap a its.toArray/\xs.length<=sizeLine:=by
 rcases h with h|⟨o,its,n,hk,hc,hd,hs,hz,r⟩
 .obtain ⟨z,its,n,r,e⟩:=h.ok I.hok;exact⟨its,r,⟨_,n,e,rfl,rfl,rfl⟩,z⟩
 .refine ⟨its.toList,r,⟨o,n,I.kIn a o hk,hc,hd,by simpa using hs⟩,?_⟩;have e:=r.length;simp only[QS]at e;lia
def Inv.tuple(I:Inv X pins σ H s)(h:bI X.K H a xs):∃its:List Value,av xs its/\IsTup s.heap a its.toArray/\xs.length<=sizeLine:=by
 rcases h with h|⟨o,its,n,hk,hc,hs,hz,r⟩
 .obtain ⟨z,its,r,p⟩:=h.ok I.hok;exact⟨its,r,p,z⟩
 .refine ⟨its.toList,r,⟨o,I.kIn a o hk,hc,n,by simpa using hs⟩,?_⟩;have e:=r.length;simp only[QS]at e;lia
def Inv.list_inj(I:Inv X pins σ H s)(h:bE X.K H a xs)(h':bE X.K H a ys):xs=ys:=by
 obtain⟨its,r,⟨o,n,e,_,_,d⟩,_⟩:=I.list h;obtain⟨its',r',⟨o',n',e',_,_,d'⟩,_⟩:=I.list h';rw[e]at e';cases e';rw[d]at d';injection d' with d1 _
 have:its=its':=by simpa using Mn VF d1
 subst this;exact r.inj r'
def Inv.tuple_inj(I:Inv X pins σ H s)(h:bI X.K H a xs)(h':bI X.K H a ys):xs=ys:=by
 obtain⟨its,r,⟨o,e,_,n,d⟩,_⟩:=I.tuple h;obtain⟨its',r',⟨o',e',_,n',d'⟩,_⟩:=I.tuple h';rw[e]at e';cases e';rw[d]at d';injection d' with d1 _
 have:its=its':=by simpa using Mn VF d1
 subst this;exact r.inj r'
end
noncomputable abbrev Cx.wish(X:Cx)(E:Value->Shared->Prop):Cx:={X with xe:=E}
noncomputable abbrev Cx.nox(X:Cx):Cx:=X.wish λ_ _=>False
theorem Cx.Ok.wish{X:Cx}(ok:X.Ok)(E:Value->Shared->Prop):(X.wish E).Ok:=
 ⟨ok.mod,ok.kind,ok.glob,ok.blt,ok.above,ok.inj,ok.has,ok.cab,ok.hd,ok.frames,ok.stk,ok.exf,ok.bs,ok.bsz,ok.noex,ok.exfs,ok.funs,ok.frf⟩
def Cx.Ok.unwish {X:Cx}(ok:(X.wish E).Ok):X.Ok:=
 ⟨ok.mod,ok.kind,ok.glob,ok.blt,ok.above,ok.inj,ok.has,ok.cab,ok.hd,ok.frames,ok.stk,ok.exf,ok.bs,ok.bsz,ok.noex,ok.exfs,ok.funs,ok.frf⟩
section
variable{X:Cx}{pins:List (Addr×Obj)}{σ:St}{H:Hp}{s:Shared}{E:Value->Shared->Prop}
theorem Inv.wish(I:Inv X pins σ H s)(E:Value->Shared->Prop):Inv (X.wish E) pins σ H s:=⟨I.ok.wish E,I.os,I.bare,I.base,I.loc,I.cell,I.free,I.freeC,I.pin,I.hok,I.len⟩
theorem Inv.unwish(I:Inv (X.wish E) pins σ H s):Inv X pins σ H s:=⟨I.ok.unwish,I.os,I.bare,I.base,I.loc,I.cell,I.free,I.freeC,I.pin,I.hok,I.len⟩
theorem SP.unwish{D:cc}{f:Flow}{s':Shared}(h:SP (X.wish E) pins D f s'):SP X pins D f s':=by
 cases f with
 |next=>obtain⟨σ',H',I,q⟩:=h;exact⟨σ',H',I.unwish,q⟩
 |brk=>obtain⟨σ',H',I,q⟩:=h;exact⟨σ',H',I.unwish,q⟩
 |cont=>obtain⟨σ',H',I,q⟩:=h;exact⟨σ',H',I.unwish,q⟩
 |ret u=>obtain⟨v,σ',H',I,r,q⟩:=h;exact⟨v,σ',H',I.unwish,r,q⟩
theorem cC.nox{st:List Stmt}{t:TS}(h:cC X.nox st t):cC X st t:=λpins s σ H D I hw=>
 J2 (h pins s σ H D (I.wish _) hw) (λ_ _ q=>q.unwish) λ_ _ z=>False.elim z
end
section
variable{X:Cx}{st:Stmt}{rest:List Stmt}{t u:TS}{e:Expr}{te:TE}{pos:Pos}
def AW:TS:=λD σ H=>D.nx σ H
def lN(t u:TS):TS:=λD σ H=>t {D with nx:=u D} σ H
def Ef:cC X [] AW:=λ_ _ σ H _ I h=>J6 ⟨σ,H,I,h⟩
set_option tactic.hygienic true in
def FU(h1:PS X st t)(h2:cC X rest u):cC X (st::rest) (lN t u):=by
 intro pins s σ H D I h;refine wpAny_execs_cons (ba (h1 pins s σ H {D with nx:=u D} I h) λf s1 q=>?_);cases f with
 |next=>
  obtain⟨σ',H',I',q⟩:=q;exact h2 pins s1 σ' H' D I' q
 |ret v=>exact q
 |brk=>exact q
 |cont=>exact q
def Ee(h1:PS X st t):cC X [st] t:=by
 intro pins s σ H D I h;refine wpAny_execs_cons (ba (h1 pins s σ H D I h) λf s1 q=>?_);cases f with
 |next=>exact J6 q
 |ret v=>exact q
 |brk=>exact q
 |cont=>exact q
def Inv.quiet (I:Inv X pins σ H s):interactive X.env=false:=by simp[interactive,I.ok.kind]
def AV(te:TE):TS:=λD σ H=>te σ H λ_ H1=>D.nx σ H1
def Ed(he:PE X e te)(hs:J7 e none pos.line X.env=pure false:=by rfl):PS X (.Expr e pos) (AV te):=by
 intro pins s σ H D I h;exact wpAny_Expr_any (ba (he pins s σ H _ I h) λv s1 ⟨x,H1,I1,r1,q1⟩=>⟨σ,H1,I1,q1⟩) I.quiet hs
def lO(te:TE):TS:=λD σ H=>te σ H D.rt
def BF(he:PE X e te):PS X (.Return (some e) pos) (lO te):=by
 intro pins s σ H D I h;exact wpAny_Return_some (ba (he pins s σ H _ I h) λv s1 ⟨x,H1,I1,r1,q1⟩=>⟨x,σ,H1,I1,r1,q1⟩)
def lT(c:TT)(t u:TS):TS:=λD σ H=>c σ H λb H1=>if b=true then t D σ H1 else u D σ H1
def AU (hc:PT X c tc)(ha:cC X a t)(hb:cC X b u):PS X (.If c a b pos) (lT tc t u):=by
 intro pins s σ H D I h;refine wpAny_If (ba (hc pins s σ H _ I h) λd s1 ⟨H1,I1,q1⟩=>?_);cases d with
 |true=>exact ha pins s1 σ H1 D I1 q1
 |false=>exact hb pins s1 σ H1 D I1 q1
def BE:TS:=λ_ _ _=>False
def FT:PS X st BE:=λ_ _ _ _ _ _ h=>h.elim
end
abbrev TG:=V->St->Hp->(St->Hp->Prop)->Prop
abbrev fe:=List V->St->Hp->(St->Hp->Prop)->Prop
def PG(X:Cx)(target:Expr)(t:TG):Prop:=
 ∀(pins:List (Addr×Obj)) (s:Shared) (σ:St) (H:Hp) (v:V) (u:Value) (Q:St->Hp->Prop),Inv X pins σ H s->RelV v u->t v σ H Q ->
  JY (JZ X.prog X.w) X.A (assign target X.env u) (λ_ s'=>∃σ' H',Inv X pins σ' H' s'/\Q σ' H') X.xe s
def iR(X:Cx)(ts:List Expr)(t:fe):Prop:=
 ∀(pins:List (Addr×Obj)) (s:Shared) (σ:St) (H:Hp) (vs:List V) (us:List Value) (Q:St->Hp->Prop),Inv X pins σ H s->av vs us->t vs σ H Q ->
  JY (JZ X.prog X.w) X.A (assignInOrder ((J8 ts X.env).map (·.2)) us) (λ_ s'=>∃σ' H',Inv X pins σ' H' s'/\Q σ' H') X.xe s
abbrev i6:=V->V->V->Hp->(Hp->Prop)->Prop
def ow(X:Cx)(t:i6):Prop:=
 ∀(pins:List (Addr×Obj)) (s:Shared) (σ:St) (H:Hp) (o i v:V) (ov iv u:Value) (Q:Hp->Prop),Inv X pins σ H s->RelV o ov->RelV i iv->RelV v u->t o i v H Q ->
  JY (JZ X.prog X.w) X.A (J9 ov iv u) (λ_ s'=>∃H',Inv X pins σ H' s'/\Q H') X.xe s
abbrev ig:=V->V->Hp->VK->Prop
def iQ(X:Cx)(op:Ka)(t:ig):Prop:=
 ∀(pins:List (Addr×Obj)) (s:Shared) (σ:St) (H:Hp) (x y:V) (v u:Value) (Q:VK),Inv X pins σ H s->RelV x v->RelV y u->t x y H Q ->
  JY (JZ X.prog X.w) X.A (inplaceOp op v u) (EP X pins σ Q) X.xe s
section
variable{X:Cx}{pos:Pos}
def xm(i:Nat):TG:=λv σ H Q=>Q (σ.set i (some v)) H
def yt (hN:X.N.Nodup)(hi:X.N[i]?=some x)(hx:Loc X.env.scope x)(hf:X.fn x=true\/X.env.scope.names.lookup x=some .local:=by first|exact .inl rfl|exact .inr rfl|assumption):PG X (.Name x pos) (xm i):=by
 intro pins s σ H v u Q I r h;exact wpAny_assign_Name (kJ I hN hi hx r (λs' I'=>⟨_,H,I',h⟩) hf)
def fN:fe:=λvs σ H Q=>vs=[]/\Q σ H
def vn(t:TG)(u:fe):fe:=λvs σ H Q=>∃v r,vs=v::r/\t v σ H λσ' H'=>u r σ' H' Q
def kC:iR X [] fN:=by
 intro pins s σ H vs us Q I r h;obtain⟨e,h⟩:=h;subst e;cases r;exact assignInOrder_nil ⟨σ,H,I,h⟩
def yP (h1:PG X e t)(h2:iR X es u)(hs:(J8 (e::es) X.env).map (·.2)=assign e X.env::(J8 es X.env).map (·.2):=by rfl):iR X (e::es) (vn t u):=by
 intro pins s σ H vs us Q I r h;obtain⟨v,vr,e1,h⟩:=h;subst e1;cases r with
 |cons r rr=>
  rw[hs];refine assignInOrder_cons (ba (h1 pins s σ H _ _ _ I r h) λ_ s1 ⟨σ1,H1,I1,q1⟩=>?_);exact h2 pins s1 σ1 H1 _ _ Q I1 rr q1
def fM(K:Qb)(n:Nat)(t:fe):TG:=λv σ H Q=>∃a xs,v=.ref a/\bI K H a xs/\xs.length=n/\t xs σ H Q
def gw (hc:X.calm=true)(h:iR X es t)(hn:(J8 es X.env).length=n:=by rfl)(hst:(J8 es X.env).findIdx? (·.1)=none:=by rfl):PG X (.Tuple es k pos) (fM X.K n t):=by
 intro pins s σ H v u Q I r hw;obtain⟨a,xs,e1,hq,hl,hw⟩:=hw;subst e1;cases r;obtain⟨its,rv,ht,hz⟩:=I.tuple hq;refine assign_Tuple_tuple (I.ok.hd hc) ht (by simp[hn,<-hl,rv.length]) hst λh' hx=>?_;have I1:Inv X pins σ H {s with heap:=h' }:=I.kept (t':=s.toks) λb o e=>hx b o (QG (Qi e)) e;exact h pins _ σ H xs _ Q I1 (by simpa using rv) hw
def nl(to ti:TE)(t:i6):TG:=λv σ H Q=>to σ H λo H1=>ti σ H1 λi H2=>t o i v H2 λH3=>Q σ H3
def BD (ho:PE X o to)(hi:PE X i ti)(hs:ow X t)(ha:∀v,assign (.Subscript o i pos) X.env v=(do
   let ov <-holding [v] (eval o X.env)
   let iv <-holding [v,ov] (eval i X.env)
   standAt pos
   holding [v,ov,iv] (J9 ov iv v)
   release [v,ov,iv] []):=by intro _;rfl):PG X (.Subscript o i pos) (nl to ti t):=by
 intro pins s σ H v u Q I r h;rw[ha];refine Kb (Kc (ba (ho pins s σ H _ I h) λov s1 ⟨x,H1,I1,r1,q1⟩=>?_));refine Kb (Kc (ba (hi pins s1 σ H1 _ I1 q1) λiv s2 ⟨y,H2,I2,r2,q2⟩=>?_));refine Kb (Ke (Kb (Kc (ba (hs pins s2 σ H2 x y v ov iv u _ I2 r1 r2 r q2) λ_ s3 ⟨H3,I3,q3⟩=>?_))));exact wpAny_release ⟨σ,H3,I3,q3⟩
def ir(te:TE)(g:TG):TS:=λD σ H=>te σ H λx H1=>g x σ H1 D.nx
def BC (he:PE X e te)(hg:PG X tg g)(hs:swapsWithSole [tg] e pos.line X.env=pure false:=by rfl)(hw:swappedStores [tg] e X.env=pure none:=by rfl)(h1:(J8 [tg] X.env).map (·.2)=[assign tg X.env]:=by rfl):PS X (.Assign [tg] e pos) (ir te g):=by
 intro pins s σ H D I h;refine wpAny_Assign_stores (ba (he pins s σ H _ I h) λv s1 ⟨x,H1,I1,r1,q1⟩=>?_) hs hw;rw[h1];exact ba (hg pins s1 σ H1 x v _ I1 r1 q1) λ_ s2 q=>q
def pP (hN:X.N.Nodup)(hi:X.N[i]?=some x)(hx:Loc X.env.scope x)(he:PE X e te)(hs:J7 e (some (.Name x pos')) pos.line X.env=pure false:=by rfl)(hf:X.fn x=true\/X.env.scope.names.lookup x=some .local:=by first|exact .inl rfl|exact .inr rfl|assumption):
  PS X (.Assign [.Name x pos'] e pos) (ir te (xm i)):=by
 intro pins s σ H D I h;refine wpAny_Assign_Name (ba (he pins s σ H _ I h) λv s1 ⟨y,H1,I1,r1,q1⟩=>?_) hs;exact kJ I1 hN hi hx r1 (λs2 I2=>⟨_,H1,I2,q1⟩) hf
def lV(i:Nat)(te:TE)(ti:ig):TS:=λD σ H=>∃x,σ[i]?=some (some x)/\te σ H λy H1=>ti x y H1 λz H2=>D.nx (σ.set i (some z)) H2
def BB (hN:X.N.Nodup)(hi:X.N[i]?=some x)(hx:Loc X.env.scope x)(he:PE X e te)(ho:iQ X op ti)(hf:X.fn x=true\/X.env.scope.names.lookup x=some .local:=by first|exact .inl rfl|exact .inr rfl|assumption):
  PS X (.AugAssign (.Name x pos') op e pos) (lV i te ti):=by
 intro pins s σ H D I h;obtain⟨v,e1,h⟩:=h;obtain⟨m,hn,hl⟩:=I.loc;have vis:fG X.env.scope x:=by rcases hx with k|k;exact .inl k;exact .inr (.inl k)
 obtain⟨u,r,l⟩:=hl i x v hi e1 vis;refine wpAny_AugAssign_Name ?_;have go:JY (JZ X.prog X.w) X.A (eval e X.env) (λw s₂=>JY (JZ X.prog X.w) X.A (inplaceOp op u w) (λr s₃=>JY (JZ X.prog X.w) X.A (storeName X.env x r) (λ_=>SP X pins D .next) X.xe s₃) X.xe s₂) X.xe s:=by
  refine ba (he pins s σ H _ I h) λw s1 ⟨y,H1,I1,r1,q1⟩=>?_;refine ba (ho pins s1 σ H1 v y u w _ I1 r r1 q1) λz s2 ⟨zv,H2,I2,r2,q2⟩=>?_;exact kJ I2 hN hi hx r2 (λs3 I3=>⟨_,H2,I3,q2⟩) hf
 rcases l with⟨hk,hm⟩|⟨hk,c,hc,hcell⟩
 .exact J3 I.ok.kind hk hn hm go
 .rcases hk with hk|hk
  .exact J4 I.ok.kind hk hc hcell go
  .rcases hx with k|k
   .have:X.env.scope.names.lookup x=some .free:=hk;rw[k]at this;cases this
   .have:X.env.scope.names.lookup x=some .free:=hk;rw[k]at this;cases this
def ub(f:Int->Int->Int):ig:=λx y H Q=>∃i j,x=.int i/\y=.int j/\Q (.int (f i j)) H
def BA:iQ X .Add (ub λi j=>i+j):=by
 intro pins s σ H x y v u Q I r1 r2 h;obtain⟨i,j,e1,e2,q⟩:=h;subst e1;subst e2;obtain⟨t,rfl⟩:=r1;obtain⟨t',rfl⟩:=r2;exact iadd_int ⟨.int _,H,I.tok _,⟨_,rfl⟩,q⟩
def Bz:iQ X .Sub (ub λi j=>i-j):=by
 intro pins s σ H x y v u Q I r1 r2 h;obtain⟨i,j,e1,e2,q⟩:=h;subst e1;subst e2;obtain⟨t,rfl⟩:=r1;obtain⟨t',rfl⟩:=r2;exact isub_int ⟨.int _,H,I.tok _,⟨_,rfl⟩,q⟩
end
set_option genInjectivity false in
structure It where
 go:Nat->Hp->Prop
 yld:Nat->Hp->V->Hp->Prop
 stop:Nat->Hp->Prop
def kx(X:Cx)(pins:List (Addr×Obj))(H:Hp)(b:Addr):Prop:=
 H b=none/\b≠X.env.locals/\b∉X.fs/\(b∈X.ex\/X.s₀.heap.objs.size<=b)/\(∀x c,X.env.cells.lookup x=some c->c≠b)/\∀p∈X.pn++pins,p.1≠b
def Inv.fpOk (I:Inv X pins σ H s)(hb:s.heap.objs.size<=b)(hn:H' b=none):kx X pins H' b:=by
 refine⟨hn,WE (Ql I.lt hb),I.nofs hb,.inr (Qr I.sz hb),λx c e z=>?_,λp hp z=>?_⟩
 .obtain ⟨v,q⟩:=I.cell x c e;exact Mm (Ql q.lt (by rw[z];exact hb)) (Wa _)
 .exact Mm (Ql (Qi (I.pin p hp).1) (by rw[z];exact hb)) (Wa _)
structure cX(P:JM)(w:JN)(K:Qb)(tg:Expr)(J:It)(fp:List Addr)(it:Addr)(tn:Nat->JP->Prop):Prop where
 mem:it∈fp
 obj:∀i h,tn i h->∀b∈fp,∃o,h.get? b=some o/\∀v,o.data≠.cell v
 keep:∀i h h',tn i h->(∀b∈fp,∀o,h.get? b=some o->h'.get? b=some o)->tn i h'
 item:∀(X:Cx),X.prog=P->X.w=w->X.K=K->X.calm=true->∀(i:Nat) (pins:List (Addr×Obj)) (s:Shared) (σ:St) (H:Hp) (E:Value->Shared->Prop),Inv X pins σ H s->(∀b∈fp,kx X pins H b)->tn i s.heap->J.go i H ->
  JY (JZ P w) X.A (Kf (.ref it)) (λr s1=>∃u,r=some u /\
   JY (JZ P w) X.A (Kg tg (.ref it) u) (λ_ s2=>∃x H',Inv X pins σ H' s2/\RelV x u/\J.yld i H x H'/\tn (i+1) s2.heap/\∀b∈fp,H' b=none) E s1) E s
 done:∀(X:Cx),X.prog=P->X.w=w->X.K=K->X.calm=true->∀(i:Nat) (pins:List (Addr×Obj)) (s:Shared) (σ:St) (H:Hp) (E:Value->Shared->Prop),Inv X pins σ H s->(∀b∈fp,kx X pins H b)->tn i s.heap->J.stop i H ->
  JY (JZ P w) X.A (Kf (.ref it)) (λr s1=>r=none/\Inv X pins σ H s1) E s
 self:∀(A:JW) (i:Nat) (s:Shared) (Q:Value->Shared->Prop) (E:Value->Shared->Prop),tn i s.heap->Q (.ref it) s->JY (JZ P w) A (Kh (.ref it)) Q E s
abbrev TI:=St->Hp->(It->Hp->Prop)->Prop
def uU(X:Cx)(pins:List (Addr×Obj))(σ:St)(tg:Expr)(R:It->Hp->Prop)(itv:Value)(s2:Shared):Prop:=
 ∃(it:Addr) (fp:List Addr) (tn:Nat->JP->Prop) (J:It) (H':Hp),itv=.ref it/\Inv X pins σ H' s2/\cX X.prog X.w X.K tg J fp it tn/\tn 0 s2.heap/\(∀b∈fp,kx X pins H' b)/\R J H'
def PI(X:Cx)(tg iter:Expr)(wi:TI):Prop:=
 ∀(pins:List (Addr×Obj)) (s:Shared) (σ:St) (H:Hp) (R:It->Hp->Prop),Inv X pins σ H s->wi σ H R ->
  JY (JZ X.prog X.w) X.A (eval iter X.env) (λv s1=>JY (JZ X.prog X.w) X.A (Kh v) (uU X pins σ tg R) X.xe s1) X.xe s
def iw (ho:s.heap.get? it=some o)(hc:o.cls=.type n)(hd:o.data=.fields vs)(hn:["enumerate","zip","dict_itemiterator","dict_reverseitemiterator","odict_iterator","itertools.zip_longest","itertools.pairwise"].contains n=false)(hQ:Q () s):JY M A (Kg tg (.ref it) u) Q E s:=by
 unfold Kg;cases tg<;>first
  |exact Ki hQ
  | (cases u <;> first
    |exact Ki hQ
    | (refine Kb (wpAny_load ho ?_)
       rw[hc,hd];show JY M A (if(["enumerate","zip","dict_itemiterator","dict_reverseitemiterator","odict_iterator","itertools.zip_longest","itertools.pairwise"].contains n&&vs[0]?==some (Kj _))=true then _ else _) Q E s;rw[Ml (by intro h;rw[hn,Bool.false_and]at h;cases h)];exact Ki hQ))
def ny(K:Qb)(a:Addr):It:=
 ⟨λi H=>∃xs x,bE K H a xs/\xs[i]?=some x,λi H x H'=>H'=H/\∀xs,bE K H a xs->xs[i]?=some x,λi H=>∃xs,bE K H a xs/\xs.length<=i⟩
def uW(K:Qb)(a:Addr):It:=
 ⟨λi H=>∃xs x,bI K H a xs/\xs[i]?=some x,λi H x H'=>H'=H/\∀xs,bI K H a xs->xs[i]?=some x,λi H=>∃xs,bI K H a xs/\xs.length<=i⟩
def fI(lo:Int)(n:Nat):It:=⟨λi _=>i<n,λi H x H'=>H'=H/\x=.int (lo+i),λi _=>n<=i⟩
def Fx {K:Qb}(a it:Addr):cX P w K tg (ny K a) [it] it (λi h=>h.IsListIter it a i) where
 mem:=by simp
 obj:=λi h st b hb=>by
  have e:b=it:=by simpa using hb
  subst e;obtain⟨o,e,c,d⟩:=st;exact⟨o,e,λv z=>by rw[d]at z;cases z⟩
 keep:=λi h h' st k=>st.at λo e=>k it (by simp) o e
 item:=by
  intro X hP hw hK hc i pins s σ H E I hf st hg;subst hP hw hK;obtain⟨xs,x,hq,hx⟩:=hg;obtain⟨its,rv,p,hz⟩:=I.list hq;obtain⟨u,hu,ru⟩:=rv.get hx;obtain⟨f0,f1,f2,f3,f4,f5⟩:=hf it (by simp);refine wpAny_pyNext_list_item st p.isList (x:=u) (by simpa using hu) λh' st' sb=>?_;have I1:Inv X pins σ H {s with heap:=h' }:=I.turned (t':=s.toks) (λb o hb e=>(sb.2 b hb).trans e) f0 f1 f3 f4 f5;obtain⟨o,e,c,d⟩:=id st';exact⟨u,rfl,iw (s:={s with heap:=h' }) e c d (by decide) ⟨x,H,I1,ru,⟨rfl,λys hy=>by rw[I.list_inj hy hq];exact hx⟩,st',λb hb=>(hf b hb).1⟩⟩
 done:=by
  intro X hP hw hK hc i pins s σ H E I hf st hg;subst hP hw hK;obtain⟨xs,hq,hx⟩:=hg;obtain⟨its,rv,p,hz⟩:=I.list hq;obtain⟨f0,f1,f2,f3,f4,f5⟩:=hf it (by simp);have hl:=rv.length;exact wpAny_pyNext_list_end (I.ok.hd hc) st p.isList (by simp;lia) λh' eb=>⟨rfl,I.turned (t':=s.toks) (λb o hb e=>eb b o hb e) f0 f1 f3 f4 f5⟩
 self:=λ_ _ _ _ _ st h=>wpAny_pyIter_listiter st h
def Gj {K:Qb}(a it:Addr):cX P w K tg (uW K a) [it] it (λi h=>h.IsTupleIter it a i) where
 mem:=by simp
 obj:=λi h st b hb=>by
  have e:b=it:=by simpa using hb
  subst e;obtain⟨o,e,c,d⟩:=st;exact⟨o,e,λv z=>by rw[d]at z;cases z⟩
 keep:=λi h h' st k=>st.at λo e=>k it (by simp) o e
 item:=by
  intro X hP hw hK hc i pins s σ H E I hf st hg;subst hP hw hK;obtain⟨xs,x,hq,hx⟩:=hg;obtain⟨its,rv,p,hz⟩:=I.tuple hq;obtain⟨u,hu,ru⟩:=rv.get hx;obtain⟨f0,f1,f2,f3,f4,f5⟩:=hf it (by simp);refine wpAny_pyNext_tuple_item st (show s.heap.IsTuple a its.toArray from p) (x:=u) (by simpa using hu) λh' st' sb=>?_;have I1:Inv X pins σ H {s with heap:=h' }:=I.turned (t':=s.toks) (λb o hb e=>(sb.2 b hb).trans e) f0 f1 f3 f4 f5;obtain⟨o,e,c,d⟩:=id st';exact⟨u,rfl,iw (s:={s with heap:=h' }) e c d (by decide) ⟨x,H,I1,ru,⟨rfl,λys hy=>by rw[I.tuple_inj hy hq];exact hx⟩,st',λb hb=>(hf b hb).1⟩⟩
 done:=by
  intro X hP hw hK hc i pins s σ H E I hf st hg;subst hP hw hK;obtain⟨xs,hq,hx⟩:=hg;obtain⟨its,rv,p,hz⟩:=I.tuple hq;obtain⟨f0,f1,f2,f3,f4,f5⟩:=hf it (by simp);have hl:=rv.length;exact wpAny_pyNext_tuple_end (I.ok.hd hc) st (show s.heap.IsTuple a its.toArray from p) (by simp;lia) λh' eb=>⟨rfl,I.turned (t':=s.toks) (λb o hb e=>eb b o hb e) f0 f1 f3 f4 f5⟩
 self:=λ_ _ _ _ _ st h=>wpAny_pyIter_tupleiter st h
def Gi {K:Qb}(it:Addr)(lo:Int)(n:Nat):cX P w K tg (fI lo n) [it] it (λi h=>IsRangeIter h it (lo+(i:Nat)*1) ((n:Int)-(i:Nat)) 1) where
 mem:=by simp
 obj:=λi h st b hb=>by
  have e:b=it:=by simpa using hb
  subst e;exact⟨_,st,λv z=>by
   have z':Data.fields _=Data.cell v:=z;cases z'⟩
 keep:=λi h h' st k=>k it (by simp) _ st
 item:=by
  intro X hP hw hK hc i pins s σ H E I hf st hg;subst hP hw hK;obtain⟨f0,f1,f2,f3,f4,f5⟩:=hf it (by simp);have W:=Walks.range (prog:=X.prog) (w:=X.w) (I.ok.hd hc) it lo 1 n;refine W.item i s _ _ hg st λv h' tk hv st' kk=>?_;obtain⟨t,rfl⟩:=hv;have I1:Inv X pins σ H {s with heap:=h',toks:=tk}:=I.turned (λb o hb e=>kk b o (by simpa using hb) e) f0 f1 f3 f4 f5;refine⟨_,rfl,iw (s:={s with heap:=h',toks:=tk}) (n:="range_iterator") st' rfl rfl (by decide) ⟨.int (lo+i),H,I1,⟨t,?_⟩,⟨rfl,rfl⟩,st',λb hb=>(hf b hb).1⟩⟩;rw[Int.mul_one]
 done:=by
  intro X hP hw hK hc i pins s σ H E I hf st hg;subst hP hw hK;obtain⟨f0,f1,f2,f3,f4,f5⟩:=hf it (by simp);exact wpAny_pyNext_range_end (I.ok.hd hc) st (by have:n<=i:=hg;lia) λh' eb=>⟨rfl,I.turned (t':=s.toks) (λb o hb e=>eb b o hb e) f0 f1 f3 f4 f5⟩
 self:=λ_ _ _ _ _ st h=>wpAny_pyIter_rangeiter st h
section
variable{X:Cx}{tg:Expr}
def AT(K:Qb)(tl:TE):TI:=λσ H R=>tl σ H λx H1=>∃a,x=.ref a/\(∃xs,bE K H1 a xs)/\R (ny K a) H1
def nk(K:Qb)(tl:TE):TI:=λσ H R=>tl σ H λx H1=>∃a,x=.ref a/\(∃xs,bI K H1 a xs)/\R (uW K a) H1
def ED (hl:PE X l tl):PI X tg l (AT X.K tl):=by
 intro pins s σ H R I h;refine ba (hl pins s σ H _ I h) λv s1 ⟨x,H1,I1,r1,q1⟩=>?_;obtain⟨a,e,⟨xs,hq⟩,q⟩:=q1;subst e;cases r1;obtain⟨its,rv,p,hz⟩:=I1.list hq;refine Kk p.isList ?_;refine⟨s1.heap.objs.size,[s1.heap.objs.size],_,_,H1,rfl,I1.kept (t':=s1.toks) λb o e=>Qc _ e,Fx a _,⟨_,Qe _ rfl,rfl,rfl⟩,λb hb=>?_,q⟩;have e:b=s1.heap.objs.size:=by simpa using hb
 subst e;exact I1.fpOk (Qh _) (I1.hok.fresh (Qh _))
def By (hl:PE X l tl):PI X tg l (nk X.K tl):=by
 intro pins s σ H R I h;refine ba (hl pins s σ H _ I h) λv s1 ⟨x,H1,I1,r1,q1⟩=>?_;obtain⟨a,e,⟨xs,hq⟩,q⟩:=q1;subst e;cases r1;obtain⟨its,rv,p,hz⟩:=I1.tuple hq;refine Kl (show s1.heap.IsTuple a its.toArray from p) ?_;refine⟨s1.heap.objs.size,[s1.heap.objs.size],_,_,H1,rfl,I1.kept (t':=s1.toks) λb o e=>Qc _ e,Gj a _,⟨_,Qe _ rfl,rfl,rfl⟩,λb hb=>?_,q⟩;have e:b=s1.heap.objs.size:=by simpa using hb
 subst e;exact I1.fpOk (Qh _) (I1.hok.fresh (Qh _))
def qz {lo:Int}(I:Inv X pins σ H s)(h1:-(2^62)<=lo)(h2:lo<2^62)(h3:-(2^62)<=hi)(h4:hi<2^62)(q:R (fI lo (hi-lo).toNat) H):JY (JZ X.prog X.w) X.A (Kh (.ref s.heap.objs.size)) (uU X pins σ tg R) E {s with heap:=s.heap.push {cls:=.type "range",data:=.fields #[.int lo t,.int hi u,.int 1 v]},toks:=tk}:=by
 refine wpAny_pyIter_range (IsRange.new ..) (small_one h1 h2 h3 h4) ?_;have I1:Inv X pins σ H {s with heap:=s.heap.push {cls:=.type "range",data:=.fields #[.int lo t,.int hi u,.int 1 v]},toks:=tk}:=I.kept λb o e=>Qc _ e;refine⟨(s.heap.push {cls:=.type "range",data:=.fields #[.int lo t,.int hi u,.int 1 v]}).objs.size,[(s.heap.push {cls:=.type "range",data:=.fields #[.int lo t,.int hi u,.int 1 v]}).objs.size],_,_,H,rfl,
  I1.kept (t':=tk) λb o e=>Qc _ e,Gi _ lo (hi-lo).toNat,?_,λb hb=>?_,q⟩
 .have e1:lo+((0:Nat):Int)*1=lo:=by simp
  have e2:(((hi-lo).toNat:Nat):Int)-((0:Nat):Int)=Builtin.Range.rangeSize lo hi 1:=by rw[rangeSize_one];split<;>lia
  show IsRangeIter _ _ (lo+((0:Nat):Int)*1) ((((hi-lo).toNat:Nat):Int)-((0:Nat):Int)) 1;rw[e1,e2];exact Qe _ rfl
 .have e:b=(s.heap.push {cls:=.type "range",data:=.fields #[.int lo t,.int hi u,.int 1 v]}).objs.size:=by simpa using hb
  subst e;exact I1.fpOk (Qh _) (I1.hok.fresh (Qh _))
def AS(ta:TA):TI:=λσ H R=>ta σ H λvs H1=>∃j:Int,vs=[.int j]/\-(2^62)<=j/\j<2^62/\R (fI 0 j.toNat) H1
def AR(ta:TA):TI:=λσ H R=>ta σ H λvs H1=>∃i j:Int,vs=[.int i,.int j]/\(-(2^62)<=i/\i<2^62/\-(2^62)<=j/\j<2^62)/\R (fI i (j-i).toNat) H1
def Fw (hg:Gl X "range")(hm:X.mg "range"=none)(ha:PA X [a] ta)(hs:J1 [a] X.env=[(false,eval a X.env)]:=by rfl):PI X tg (.Call (.Name "range" p) [a] [] pos) (AS ta):=by
 intro pins s σ H R I h;refine Call_ (x9 I hg hm boot_range (PyProof.Rows.callWith_type1 (ba (ha pos pins s σ H _ I h) λus s1 ⟨vs,H1,I1,r1,q1⟩=>?_) hs rfl));obtain⟨j,e,q1,q2,q⟩:=q1;subst e;cases r1 with
 |cons r rr=>
  cases rr;obtain⟨t,rfl⟩:=r;exact call_range_1 (qz I1 (by lia) (by lia) q1 q2 (by simpa using q))
def Fv (hg:Gl X "range")(hm:X.mg "range"=none)(ha:PA X [a,b] ta)(hs:J1 [a,b] X.env=[(false,eval a X.env),(false,eval b X.env)]:=by rfl)(hs2:J1 [b] X.env=[(false,eval b X.env)]:=by rfl):
  PI X tg (.Call (.Name "range" p) [a,b] [] pos) (AR ta):=by
 intro pins s σ H R I h;refine Call_ (x9 I hg hm boot_range (PyProof.Rows.callWith_type1 (ba (ha pos pins s σ H _ I h) λus s1 ⟨vs,H1,I1,r1,q1⟩=>?_) (by rw[hs,hs2]) (by rw[hs2];rfl)));obtain⟨i,j,e,⟨q1,q2,q3,q4⟩,q⟩:=q1;subst e;cases r1 with
 |cons r rr=>
  cases rr with
  |cons r' rr=>
   cases rr;obtain⟨t,rfl⟩:=r;obtain⟨t',rfl⟩:=r';exact call_range_2 (qz I1 q1 q2 q3 q4 q)
def fL(wi:TI)(g:TG)(tb:TS):TS:=λD σ H=>wi σ H λJ H1=>∃W:Nat->Nat->St->Hp->Prop,(∃m,W 0 m σ H1)/\∀i m σ H,W i m σ H ->
 (J.stop i H/\D.nx σ H)\/(J.go i H/\∃N:St->Hp->Prop,(∀σ' H',N σ' H'->∃m',m'<m/\W (i+1) m' σ' H')/\∀x H',J.yld i H x H'->g x σ H' λσ2 H2=>tb {D with nx:=N,ct:=N,bk:=D.nx} σ2 H2)
noncomputable def kK(fp:List Addr)(h:JP):List (Addr×Obj):=fp.filterMap λb=>(h.get? b).map λo=>(b,o)
def xR (hb:b∈fp)(e:h.get? b=some o):(b,o)∈kK fp h:=VE.mpr ⟨b,hb,by rw[e];rfl⟩
def Fu (hp:p∈kK fp h):p.1∈fp/\h.get? p.1=some p.2:=by
 obtain⟨b,hb,e⟩:=VE.mp hp;cases q:h.get? b with
 |none=>rw[q]at e;cases e
 |some o=>
  rw[q]at e;have e':(b,o)=p:=Option.some.inj e;subst e';exact⟨hb,q⟩
def Inv.pinned{pins:List (Addr×Obj)}{σ:St}{H:Hp}{s:Shared}{fp:List Addr}(I:Inv X pins σ H s)(hf:∀b∈fp,kx X pins H b)(ho:∀b∈fp,∃o,s.heap.get? b=some o/\∀v,o.data≠.cell v):Inv X (pins++kK fp s.heap) σ H s:=
 I.pins_of λp hp=>(Qx.mp hp).elim (λz=>I.pin p (QC _ z)) λz=>by
  obtain⟨hb,e⟩:=Fu z;obtain⟨f0,f1,f2,_⟩:=hf p.1 hb;obtain⟨o,e',d⟩:=ho p.1 hb;rw[e]at e';cases e';exact⟨e,f0,f1,f2,d⟩
def Inv.unpinned{pins pl:List (Addr×Obj)}{σ:St}{H:Hp}{s:Shared}(I:Inv X (pins++pl) σ H s):Inv X pins σ H s:=I.pins_of λp hp=>I.pin p (QC _ (Wc _ hp))
def kL (hp:PassesOwn (JZ X.prog X.w) X.A X.env X.xe)(hc:X.calm=true)(hi:PI X tg iter wi)(hg:PG X tg g)(hb:cC X body tb)(hs:∀x,Km iter X.env x=pure x:=by intro _;rfl):PS X (.For tg iter body [] pos) (fL wi g tb):=by
 intro pins s σ H D I h;refine wpAny_For (ba (hi pins s σ H _ I h) λv s1 h1=>ba h1 λitv s2 h2=>?_) hs;obtain⟨it,fp,tn,J,H2,e,I2,T,st2,f2,W,⟨m0,w0⟩,turn⟩:=h2;subst e
 -- what stays true of the iterator's objects through the loop
 have stat:∀{H':Hp},(∀b∈fp,H' b=none)->∀b∈fp,kx X pins H' b:=λhn b hb=>⟨hn b hb,(f2 b hb).2⟩;refine codeAny_forLoop_any (λn s'=>∃i σ' H',Inv X pins σ' H' s'/\tn i s'.heap/\(∀b∈fp,H' b=none)/\W i n σ' H') ?_ m0 ⟨0,σ,H2,I2,st2,λb hb=>(f2 b hb).1,w0⟩;rintro n s3 ⟨i,σ3,H3,I3,st3,fr3,w3⟩;rcases turn i n σ3 H3 w3 with⟨stop,qn⟩|⟨go,N,hN,step⟩
 .refine Kn hp (ba (T.done X rfl rfl rfl hc i pins s3 σ3 H3 X.xe I3 (stat fr3) st3 stop) λr s4 ⟨hr,I4⟩=>?_);subst hr;exact J6 ⟨σ3,H3,I4,qn⟩
 .refine Kn hp (ba (T.item X rfl rfl rfl hc i pins s3 σ3 H3 X.xe I3 (stat fr3) st3 go) λr s4 ⟨u,hr,h4⟩=>?_);subst hr;refine Kn hp (ba h4 λ_ s5 ⟨x,H5,I5,r5,y5,st5,fr5⟩=>?_);have I5':=I5.pinned (stat fr5) (T.obj _ _ st5);refine Kn hp (ba (hg _ s5 σ3 H5 x u _ I5' r5 (step x H5 y5)) λ_ s6 ⟨σ6,H6,I6,q6⟩=>?_);refine Kn hp (ba (hb _ s6 σ6 H6 _ I6 q6) λf s7 q7=>?_);have again:∀{σ7:St}{H7:Hp},Inv X (pins++kK fp s5.heap) σ7 H7 s7->N σ7 H7->∃m,m<n/\∃i σ' H',Inv X pins σ' H' s7/\tn i s7.heap/\(∀b∈fp,H' b=none)/\W i m σ' H':=λ{σ7 H7} I7 n7=>by
   obtain⟨m',hm,w7⟩:=hN σ7 H7 n7;refine⟨m',hm,i+1,σ7,H7,I7.unpinned,T.keep _ _ _ st5 λb hb o e=>(I7.pin (b,o) (QC _ (QC _ (xR hb e)))).1,λb hb=>?_,w7⟩;obtain⟨o,e,d⟩:=T.obj _ _ st5 b hb;exact(I7.pin (b,o) (QC _ (QC _ (xR hb e)))).2.1
  cases f with
  |next=>obtain⟨σ7,H7,I7,n7⟩:=q7;exact again I7 n7
  |cont=>obtain⟨σ7,H7,I7,n7⟩:=q7;exact again I7 n7
  |brk=>obtain⟨σ7,H7,I7,q7⟩:=q7;exact⟨σ7,H7,I7.unpinned,q7⟩
  |ret v=>obtain⟨x7,σ7,H7,I7,r7,q7⟩:=q7;exact⟨x7,σ7,H7,I7.unpinned,r7,q7⟩
end
abbrev R2:=V->V->Hp->VK->Prop
def bY(X:Cx)(f:Value->Value->Sem Value)(r:R2):Prop:=
 ∀(pins:List (Addr×Obj)) (s:Shared) (σ:St) (H:Hp) (x y:V) (v u:Value) (Q:VK),Inv X pins σ H s->RelV x v->RelV y u->r x y H Q ->
  JY (JZ X.prog X.w) X.A (f v u) (EP X pins σ Q) X.xe s
def nr(X:Cx)(f:Value->Sem Value)(r:V->Hp->VK->Prop):Prop:=
 ∀(pins:List (Addr×Obj)) (s:Shared) (σ:St) (H:Hp) (x:V) (v:Value) (Q:VK),Inv X pins σ H s->RelV x v->r x H Q ->
  JY (JZ X.prog X.w) X.A (f v) (EP X pins σ Q) X.xe s
def bx(X:Cx)(f:Value)(r:List V->Hp->VK->Prop):Prop:=
 ∀(pins:List (Addr×Obj)) (s:Shared) (σ:St) (H:Hp) (xs:List V) (us:List Value) (Q:VK),Inv X pins σ H s->av xs us->r xs H Q ->
  JY (JZ X.prog X.w) X.A (call f us) (EP X pins σ Q) X.xe s
def fZ(r:R2)(ta tb:TE):TE:=λσ H Q=>ta σ H λx H1=>tb σ H1 λy H2=>r x y H2 Q
def Gw(r:V->Hp->VK->Prop)(ta:TE):TE:=λσ H Q=>ta σ H λx H1=>r x H1 Q
def rI(C:Int->Int->Prop)(g:Int->Int->V):R2:=λx y H Q=>∃i j,x=.int i/\y=.int j/\C i j/\Q (g i j) H
def dy(g:Int->Int->V):R2:=λx y H Q=>∃i j,x=.int i/\y=.int j/\Q (g i j) H
def rU(g:Int->V):V->Hp->VK->Prop:=λx H Q=>∃i,x=.int i/\Q (g i) H
section
variable{X:Cx}{a b:Expr}{ta tb:TE}{pos:Pos}
def i5 (ha:PE X a ta)(hb:PE X b tb){R:V->V->Hp->Prop}(I:Inv X pins σ H s)(h:ta σ H λx H1=>tb σ H1 λy H2=>R x y H2){f:Value->Value->Sem Value}(hf:∀v u s2 x y H2,Inv X pins σ H2 s2->RelV x v->RelV y u->R x y H2->JY (JZ X.prog X.w) X.A (f v u) Q X.xe s2):
  JY (JZ X.prog X.w) X.A (eval a X.env) (λv s₁=>JY (JZ X.prog X.w) X.A (eval b X.env) (λu s₂=>JY (JZ X.prog X.w) X.A (f v u) Q X.xe s₂) X.xe s₁) X.xe s:=by
 refine ba (ha pins s σ H _ I h) λv s1 ⟨x,H1,I1,r1,q1⟩=>?_;refine ba (hb pins s1 σ H1 _ I1 q1) λu s2 ⟨y,H2,I2,r2,q2⟩=>?_;exact hf v u s2 x y H2 I2 r1 r2 q2
def AQ (ho:bY X (Ko op) r)(ha:PE X a ta)(hb:PE X b tb):PE X (.BinOp a op b pos) (fZ r ta tb):=by
 intro pins s σ H Q I h;exact wpAny_BinOp (i5 ha hb I h λv u s2 x y H2 I2 rx ry q=>ho pins s2 σ H2 x y v u Q I2 rx ry q)
def Bh (ho:nr X (unaryOp op) r)(ha:PE X a ta):PE X (.UnaryOp op a pos) (Gw r ta):=by
 intro pins s σ H Q I h;exact UnaryOp_ (ba (ha pins s σ H _ I h) λv s1 ⟨x,H1,I1,r1,q1⟩=>ho pins s1 σ H1 x v Q I1 r1 q1)
def eE {g:Int->Int->Int}(rule:∀(i j:Int) (t u:Tok) (s:Shared) (Q:Value->Shared->Prop) (E:Value->Shared->Prop),C i j->Q (.int (g i j) s.toks) {s with toks:=s.toks+1}->JY (JZ X.prog X.w) X.A (f (.int i t) (.int j u)) Q E s):
  bY X f (rI C λi j=>.int (g i j)):=by
 intro pins s σ H x y v u Q I rx ry h;obtain⟨i,j,rfl,rfl,hc,q⟩:=h;obtain⟨t,rfl⟩:=rx;obtain⟨t',rfl⟩:=ry;exact rule i j t t' s _ _ hc ⟨.int (g i j),H,I.tok _,⟨_,rfl⟩,q⟩
def i4 {g:Int->Int->Int}(rule:∀(i j:Int) (t u:Tok) (s:Shared) (Q:Value->Shared->Prop) (E:Value->Shared->Prop),Q (.int (g i j) s.toks) {s with toks:=s.toks+1}->JY (JZ X.prog X.w) X.A (f (.int i t) (.int j u)) Q E s):
  bY X f (dy λi j=>.int (g i j)):=by
 intro pins s σ H x y v u Q I rx ry h;obtain⟨i,j,rfl,rfl,q⟩:=h;obtain⟨t,rfl⟩:=rx;obtain⟨t',rfl⟩:=ry;exact rule i j t t' s _ _ ⟨.int (g i j),H,I.tok _,⟨_,rfl⟩,q⟩
def iq {g:Int->Int->Bool}(rule:∀(i j:Int) (t u:Tok) (s:Shared) (Q:Value->Shared->Prop) (E:Value->Shared->Prop),Q (.bool (g i j)) s->JY (JZ X.prog X.w) X.A (f (.int i t) (.int j u)) Q E s):
  bY X f (dy λi j=>.bl (g i j)):=by
 intro pins s σ H x y v u Q I rx ry h;obtain⟨i,j,rfl,rfl,q⟩:=h;obtain⟨t,rfl⟩:=rx;obtain⟨t',rfl⟩:=ry;exact rule i j t t' s _ _ ⟨.bl (g i j),H,I,rfl,q⟩
def oz(i j:Int):Prop:=0<j/\j<1073741824
def oy(i j:Int):Prop:=0<=j/\j<=1000000/\i.natAbs<2^64
def em(i j:Int):Prop:=(-(2^64)<i/\i<2^64)\/(-(2^64)<j/\j<2^64)
def em.ok (h:em i j):IntMulOk i j:=by
 rcases h with⟨h1,h2⟩|⟨h1,h2⟩
 .exact .of_left (intBits_le_64 h1 h2)
 .exact .of_right (intBits_le_64 h1 h2)
def Gh(k:Nat):(0:Int)<=2^k:=by
 rw[two_pow_cast];exact Int.natCast_nonneg _
def eX:bY X (Ko .Add) (dy λi j=>.int (i+j)):=i4 λ_ _ _ _ _ _ _ q=>add_int q
def Bx:bY X (Ko .Sub) (dy λi j=>.int (i-j)):=i4 λ_ _ _ _ _ _ _ q=>sub_int q
def eV:bY X (Ko .Mult) (rI em λi j=>.int (i*j)):=eE λ_ _ _ _ _ _ _ hc q=>mul_int q hc.ok
def EC:bY X (Ko .FloorDiv) (rI oz λi j=>.int (i/j)):=eE λi j _ _ _ _ _ hc q=>by
 have h1:(0:Int)<j:=hc.1;have h2:j<1073741824:=hc.2;exact floordiv_int (by lia) (by rw[W8 i (by lia)];exact q) (.inl (PyProof.noPylong_small (by lia)))
def Bw:bY X (Ko .Mod) (rI (λ_ j=>0<j) λi j=>.int (i%j)):=eE λi j _ _ _ _ _ hc q=>by
 have h1:(0:Int)<j:=hc;exact mod_int' (by lia) (by rw[Int.fmod_eq_emod_of_nonneg i (by lia)];exact q)
def Bv:bY X (Ko .Pow) (rI oy λi j=>.int (i^j.toNat)):=eE λ_ _ _ _ _ _ _ hc q=>pow_int_small hc.1 hc.2.1 hc.2.2 q
def Bu:bY X (Ko .RShift) (rI (λ_ j=>0<=j) λi j=>.int (i/2^j.toNat)):=eE λi j _ _ _ _ _ hc q=>
 rshift_int hc (by rw[W8 i (Gh _)];exact q)
def Bt:bY X (Ko .BitAnd) (dy λi j=>.int (Builtin.bitAnd i j)):=i4 λ_ _ _ _ _ _ _ q=>and_int q
def Gv {g:Int->Int}(rule:∀(i:Int) (t:Tok) (s:Shared) (Q:Value->Shared->Prop) (E:Value->Shared->Prop),Q (.int (g i) s.toks) {s with toks:=s.toks+1}->JY (JZ X.prog X.w) X.A (f (.int i t)) Q E s):
  nr X f (rU λi=>.int (g i)):=by
 intro pins s σ H x v Q I rx h;obtain⟨i,rfl,q⟩:=h;obtain⟨t,rfl⟩:=rx;exact rule i t s _ _ ⟨.int (g i),H,I.tok _,⟨_,rfl⟩,q⟩
def Bs:nr X (unaryOp .USub) (rU λi=>.int (-i)):=Gv λ_ _ _ _ _ q=>neg_int q
end
section
variable{X:Cx}{a b c:Expr}{ta tb tc:TE}{pos:Pos}
def Bg:bY X (Kq .Lt) (dy λi j=>.bl (decide (i<j))):=iq λ_ _ _ _ _ _ _ q=>lt_int q
def Bf:bY X (Kq .LtE) (dy λi j=>.bl (decide (i<=j))):=iq λ_ _ _ _ _ _ _ q=>le_int q
def Be:bY X (Kq .Gt) (dy λi j=>.bl (decide (j<i))):=iq λ_ _ _ _ _ _ _ q=>gt_int q
def Bd:bY X (Kq .GtE) (dy λi j=>.bl (decide (j<=i))):=iq λ_ _ _ _ _ _ _ q=>ge_int q
def bY.or{f:Value->Value->Sem Value}{r r':R2}(h:bY X f r)(h':bY X f r'):bY X f (λx y H Q=>r x y H Q\/r' x y H Q):=by
 intro pins s σ H x y v u Q I rx ry q;rcases q with q|q
 .exact h pins s σ H x y v u Q I rx ry q
 .exact h' pins s σ H x y v u Q I rx ry q
def EB (ho:bY X (Kq op) r)(ha:PE X a ta)(hb:PE X b tb)(hm:Ks op b=false):PE X (.Compare a [op] [b] pos) (fZ r ta tb):=by
 intro pins s σ H Q I h;exact wpAny_Compare1 (i5 ha hb I h λv u s2 x y H2 I2 rx ry q=>ho pins s2 σ H2 x y v u Q I2 rx ry q) hm
def oA(t:TE):TT:=λσ H Q=>t σ H λx H'=>∃k,x=.bl k/\Q k H'
def EA (ho:bY X (Kq op) r)(ha:PE X a ta)(hb:PE X b tb)(hm:Ks op b=false):PT X (.Compare a [op] [b] pos) (oA (fZ r ta tb)):=by
 intro pins s σ H Q I h;refine wpAny_isTrue_Compare1 (ba (ha pins s σ H _ I h) λv s1 ⟨x,H1,I1,r1,q1⟩=>ba (hb pins s1 σ H1 _ I1 q1) λu s2 ⟨y,H2,I2,r2,q2⟩=>
  ba (ho pins s2 σ H2 x y v u _ I2 r1 r2 q2) λc s3 ⟨z,H3,I3,r3,k,e,q3⟩=>?_) hm
 subst e;cases r3;exact J5 ⟨H3,I3,q3⟩
def lG(r r':R2)(ta tb tc:TE):TE:=λσ H Q=>ta σ H λx H1=>tb σ H1 λy H2=>r x y H2 λz H3=>∃k,z=.bl k /\
 (if k=true then tc σ H3 λw' H4=>r' y w' H4 Q else Q (.bl false) H3)
def ET (ho:bY X (Kq op) r)(ho':bY X (Kq op') r')(ha:PE X a ta)(hb:PE X b tb)(hc:PE X c tc)(hm:lastMarks [op,op'] [b,c]=false:=by with_unfolding_all rfl):PE X (.Compare a [op,op'] [b,c] pos) (lG r r' ta tb tc):=by
 intro pins s σ H Q I h;refine Compare_chain (ba (ha pins s σ H _ I h) λv s1 ⟨x,H1,I1,r1,q1⟩=>chain_link (ba (hb pins s1 σ H1 _ I1 q1) λu s2 ⟨y,H2,I2,r2,q2⟩=>
  ba (ho pins s2 σ H2 x y v u _ I2 r1 r2 q2) λd s3 ⟨z,H3,I3,r3,k,e,q3⟩=>?_)) hm
 subst e;cases r3;refine J5 ?_;cases k with
 |false=>exact ite_ff ⟨.bl false,H3,I3,rfl,q3⟩
 |true=>exact ite_tt (chain_last (ba (hc pins s3 σ H3 _ I3 q3) λw' s4 ⟨z',H4,I4,r4,q4⟩=>ho' pins s4 σ H4 y z' u w' Q I4 r2 r4 q4))
def ES (ho:bY X (Kq op) r)(ho':bY X (Kq op') r')(ha:PE X a ta)(hb:PE X b tb)(hc:PE X c tc)(hm:lastMarks [op,op'] [b,c]=false:=by with_unfolding_all rfl):PT X (.Compare a [op,op'] [b,c] pos) (oA (lG r r' ta tb tc)):=by
 intro pins s σ H Q I h;refine isTrue_chain (ba (ha pins s σ H _ I h) λv s1 ⟨x,H1,I1,r1,q1⟩=>test_link (ba (hb pins s1 σ H1 _ I1 q1) λu s2 ⟨y,H2,I2,r2,q2⟩=>
  ba (ho pins s2 σ H2 x y v u _ I2 r1 r2 q2) λd s3 ⟨z,H3,I3,r3,k,e,q3⟩=>?_)) hm
 subst e;cases r3;refine J5 ?_;cases k with
 |false=>
  obtain⟨k',e',q'⟩:=q3;cases e';exact ite_ff ⟨H3,I3,q'⟩
 |true=>
  refine ite_tt (test_last (ba (hc pins s3 σ H3 _ I3 q3) λw' s4 ⟨z',H4,I4,r4,q4⟩=>ba (ho' pins s4 σ H4 y z' u w' _ I4 r2 r4 q4) λd' s5 ⟨z2,H5,I5,r5,k2,e2,q5⟩=>?_));subst e2;cases r5;exact J5 ⟨H5,I5,q5⟩
def gy:(sizeLine:Nat)<2^63:=by rw[Kt];decide
def xH (r:av [x] us):∃u,us=[u]/\RelV x u:=by
 cases r with
 |cons r1 r2=>cases r2;exact⟨_,rfl,r1⟩
def Bc (r:av [x,y] us):∃u w',us=[u,w']/\RelV x u/\RelV y w':=by
 cases r with
 |cons r1 r2=>
  cases r2 with
  |cons r3 r4=>cases r4;exact⟨_,_,rfl,r1,r3⟩
def Ft:bx X (.type "int") (λxs H Q=>(∃i,xs=[.int i]/\Q (.int i) H)\/∃k,xs=[.bl k]/\Q (.int (if k then 1 else 0)) H):=by
 intro pins s σ H xs us Q I r h;rcases h with⟨i,rfl,q⟩|⟨k,rfl,q⟩
 .obtain ⟨u,rfl,t,rfl⟩:=xH r;exact call_int_int ⟨.int i,H,I,⟨_,rfl⟩,q⟩
 .obtain ⟨u,rfl,r1⟩:=xH r;cases r1;exact call_int_bool ⟨.int (if k then 1 else 0),H,I.tok _,⟨_,rfl⟩,q⟩
end
structure fg(h:JP)(x dx C:Addr)(mA:Str->Option Value):Prop where
 obj:h.get? x=some (VG C dx)
 ns:h.Ns1 dx mA
 ne:dx≠x
set_option tactic.hygienic true in
def Fs {h:JP}(n:h.Ns1 dx mA):∃od,h.get? dx=some od/\∀name,VO name od=some (mA name):=by
 obtain⟨o,es,ep,ho,hd,hk,_,hm⟩:=n;refine⟨o,ho,λname=>?_⟩;have e:=hm name;unfold nsFind findBy at e;rw[<-Array.find?_toList]at e;unfold VO;rw[hd];dsimp only;split
 .rename_i y q;rw[q]at e;exact Mn some e
 .rename_i q;rw[q]at e;have a:es.toList.any (·.refKey)=false:=by
   rw[List.any_eq_false];intro y hy;obtain⟨z,t,hkey⟩:=hk y (Array.mem_toList_iff.mp hy);simp[DictEntry.refKey,hkey]
  have a':¬es.toList.any (·.refKey)=true:=by rw[a];exact Qz
  rw[Ml a'];exact Mn some e
def fg.look (I:fg h x dx C mA):∃od,PySem.W.InstAt h x (VG C dx) C (some od)/\∀name,VO name od=some (mA name):=
 let⟨od,ho,hl⟩:=Fs I.ns
 ⟨od,⟨I.obj,rfl,rfl,ho⟩,hl⟩
section
variable{P:JM}{w:JN}{H:Hp}{h:JP}{a C dx:Addr}{fs:List (Str×V)}
def Ez(hok:cz P w H h)(e:H a=some (.ins C dx fs)):∃mA,fg h a dx C mA/\(∀f,lc (fs.lookup f) (mA f))/\PySem.Within mA (fs.map (·.1))/\fs.length<=1000/\H dx=some (.own a):=by
 obtain⟨d,z,ne,ob,mA,n,r,q⟩:=(show bp P w H h a (.ins C dx fs)from hok a _ e);exact⟨mA,⟨ob,n,ne⟩,r,q,z,d⟩
end
structure nF(K:Qb)(C:Addr):Prop where
 pg:PySem.W.plainGet K C Str.empty=true
 hd:PySem.W.hasDictIn K C=true
 po:PySem.W.plainOver K C=true
 sa:PySem.W.findIn K (.ref C) "__setattr__"=some (some (.builtin "object.__setattr__"))
def nF.get {K:Qb}(c:nF K C)(f:Str):PySem.W.plainGet K C f=true:=c.pg
section
variable{X:Cx}{pins:List (Addr×Obj)}{σ:St}{H:Hp}{s:Shared}{A:JW}{E:Value->Shared->Prop}{Q:Value->Shared->Prop}{c:Value}{b:Bool}
inductive cx(K:Qb)(H:Hp):V->Value->Prop where
 |non:cx K H .non (.type "NoneType")
 |bl (x:Bool):cx K H (.bl x) (.type "bool")
 |int (i:Int):cx K H (.int i) (.type "int")
 |str (x:Str):cx K H (.str x) (.type "str")
 |flt (x:UInt64):cx K H (.flt x) (.type "float")
 |lst {a:Addr}{xs:List V}(e:H a=some (.lst xs)):cx K H (.ref a) (.type "list")
 |frz {a:Addr}{o:Obj}{xs:List V}(e:H a=some (.frz o (.lst xs))):cx K H (.ref a) (.type "list")
 |tup {a:Addr}{xs:List V}(e:H a=some (.tup xs)):cx K H (.ref a) (.type "tuple")
 |dK {a:Addr}{kvs:List (cV×V)}(e:H a=some (.dK kvs)):cx K H (.ref a) (.type "dict")
 |dT {a:Addr}{kvs:List (List cV×V)}(e:H a=some (.dT kvs)):cx K H (.ref a) (.type "dict")
 |ins {a C dx:Addr}{fs:List (Str×V)}(e:H a=some (.ins C dx fs)) (cl:nF K C) (ha:PySem.W.findIn K (.ref C) "__class__"=some (some (.builtin "object.__class__")))
   (hn:PySem.W.specialIn K (.builtin "object.__class__") "__get__"=some (some (.builtin "getset_descriptor.__get__"))) (htk:PySem.W.takesIn K (.builtin "object.__class__")=some true)
   (hm:PySem.W.mroIn K C (.type "object")=some true):cx K H (.ref a) (.ref C)
def xI (I:Inv X pins σ H s)(rx:RelV x u)(ty:cx X.K H x t)(e:Wx X.K t c=some b)(h:∀tk,Q (.bool b) {s with toks:=tk}):
  JY (JZ X.prog X.w) A (call (.builtin "isinstance") [u,c]) Q E s:=by
 cases ty with
 |non=>cases(show u=Value.none from rx);exact Q4 PySem.W.kitx_none I.kIn True.intro e (λz=>nomatch z) h
 |bl y=>cases(show u=Value.bool y from rx);exact Q4 PySem.W.kitx_bool I.kIn True.intro e (λz=>nomatch z) h
 |int i=>obtain⟨t,q⟩:=(show ∃t,u=Value.int i t from rx);cases q;exact Q4 PySem.W.kitx_int I.kIn True.intro e (λz=>nomatch z) h
 |str y=>obtain⟨t,q⟩:=(show ∃t,u=Value.str y t from rx);cases q;exact Q4 PySem.W.kitx_str I.kIn True.intro e (λz=>nomatch z) h
 |flt y=>obtain⟨t,q⟩:=(show ∃t,u=Value.float y t from rx);cases q;exact Q4 PySem.W.kitx_float I.kIn True.intro e (λz=>nomatch z) h
 |@lst a xs ea=>
  cases(show u=Value.ref a from rx);obtain⟨_,_,n,_,h1⟩:=(show bp X.prog X.w H s.heap a (.lst xs)from I.hok a _ ea);exact Q4 VC I.kIn ⟨_,h1,rfl⟩ e (λz=>nomatch z) h
 |@frz a ob xs ea=>
  cases(show u=Value.ref a from rx);obtain⟨_,_,_,n,_,h1⟩:=(show bp X.prog X.w H s.heap a (.frz ob (.lst xs))from I.hok a _ ea);exact Q4 VC I.kIn ⟨_,h1,rfl⟩ e (λz=>nomatch z) h
 |@tup a xs ea=>
  cases(show u=Value.ref a from rx);obtain⟨_,_,_,p⟩:=(show bp X.prog X.w H s.heap a (.tup xs)from I.hok a _ ea);obtain⟨o,h1,h2,_⟩:=p;exact Q4 PySem.W.kitx_tuple I.kIn ⟨o,h1,h2⟩ e (λz=>nomatch z) h
 |@dK a kvs ea=>
  cases(show u=Value.ref a from rx);obtain⟨_,_,vs,_,p⟩:=(show bp X.prog X.w H s.heap a (.dK kvs)from I.hok a _ ea);obtain⟨o,es,ep,h1,h2,_⟩:=p;exact Q4 VD I.kIn ⟨o,h1,h2.1⟩ e (λz=>nomatch z) h
 |@dT a kvs ea=>
  cases(show u=Value.ref a from rx);obtain⟨_,_,xs,_,o,es,ep,h1,h2,_⟩:=(show bp X.prog X.w H s.heap a (.dT kvs)from I.hok a _ ea);exact Q4 VD I.kIn ⟨o,h1,h2.1⟩ e (λz=>nomatch z) h
 |@ins a C dx fs ea cl ha hn htk hm=>
  cases(show u=Value.ref a from rx);obtain⟨mA,O,_⟩:=Ez I.hok ea;obtain⟨od,J,_⟩:=O.look;exact Q4 (PySem.W.kitx_own (cl.get _) cl.hd ha hn htk hm) I.kIn J e (λz=>nomatch z) h
end
structure cb(k:Nat)(A:JW):Prop where
 hd:A.handled=none
 dp:A.depth+3*k+5<recursionLimit
 un:A.units+16*k+200<Ku
theorem cb.deeper{k:Nat}{A:JW}(r:cb (k+1) A)(env:Env):cb k (A.deeper env):=
 ⟨r.hd,by have:=r.dp;show A.depth+1+3*k+5<_;lia,by have:=r.un;show A.units+3+16*k+200<_;lia⟩
theorem cb.depth (r:cb k A):A.depth<recursionLimit:=by have:=r.dp;lia
theorem cb.units (r:cb k A):A.units+64<Ku:=by have:=r.un;lia
def iZ:TA:=λ_ H Q=>Q [] H
def qA(ta:TE)(tr:TA):TA:=λσ H Q=>ta σ H λx H1=>tr σ H1 λxs H2=>Q (x::xs) H2
section
variable{X:Cx}{e:Expr}{es:List Expr}{te:TE}{t:TA}{pos:Pos}
def xE:PA X [] iZ:=λ_ _ _ _ H Q I h=>Calls.spliced_nil ⟨[],H,I,.nil,h⟩
def zT(ha:PE X e te)(hr:PA X es t)(hs:J1 (e::es) X.env=(false,eval e X.env)::J1 es X.env:=by rfl):PA X (e::es) (qA te t):=by
 intro pos pins s σ H Q I h;rw[hs];show JY _ _ (spliced ((false,eval e X.env)::J0 pos (J1 es X.env))) _ _ s;refine Calls.spliced_cons (ba (ha pins s σ H _ I h) λu s1 ⟨x,H1,I1,r1,q1⟩=>?_);exact ba (hr pos pins s1 σ H1 _ I1 q1) λus s2 ⟨xs,H2,I2,r2,q2⟩=>⟨x::xs,H2,I2,.cons r1 r2,q2⟩
def lM(t:TA):TE:=λσ H Q=>t σ H λxs H1=>xs.length<=sizeLine/\∀p,H1 p=none->Q (.ref p) (aI H1 p (.tup xs))
def lS(t:TA):TE:=λσ H Q=>t σ H λxs H1=>xs.length<=sizeLine/\∀p,H1 p=none->Q (.ref p) (aI H1 p (.lst xs))
def Br{x1}(h:PA X es t):PE X (.Tuple es x1 pos) (lM t):=by
 intro pins s σ H Q I hq;refine wpAny_Tuple_spliced (ba (h pos pins s σ H _ I hq) λus s1 ⟨xs,H1,I1,r,z,q⟩=>⟨by rw[<-r.length];exact z,?_⟩);have hf:H1 s1.heap.objs.size=none:=I1.hok.fresh (Qh _);refine⟨.ref s1.heap.objs.size,aI H1 s1.heap.objs.size (.tup xs),I1.laid (t':=s1.toks) (λb u e=>Qc _ e) (Qh _) ?_,rfl,q _ hf⟩;exact⟨z,us,r,⟨_,Qe _ rfl,rfl,_,rfl⟩⟩
def Bq(h:PA X es t):PE X (.List es pos) (lS t):=by
 intro pins s σ H Q I hq;refine wpAny_List_spliced (ba (h pos pins s σ H _ I hq) λus s1 ⟨xs,H1,I1,r,z,q⟩=>⟨by rw[<-r.length];exact z,?_⟩);have hf:H1 s1.heap.objs.size=none:=I1.hok.fresh (Qh _);refine⟨.ref s1.heap.objs.size,aI H1 s1.heap.objs.size (.lst xs),I1.laid (t':=s1.toks) (λb u e=>Qc _ e) (Qh _) ?_,rfl,q _ hf⟩;exact⟨z,us,0,r,Qe _ rfl⟩
end
abbrev Sp:=List V->Hp->VK->XK->Prop
abbrev dP:=List Env->Hp->Shared->XK->Value->Shared->Prop
structure ei(P:JM)(w:JN)(K:Qb)(mg:Str->Option Value)(base:JP)(A:JW)(outer:List Env)(s:Shared)(H:Hp):Prop where
 frames:A.frames=some outer
 mod:Mod K mg base
 bs:∀b o,base.get? b=some o->s.heap.get? b=some o/\H b=none
 bsz:base.objs.size<=s.heap.objs.size
 funs:s.heap.FunFrames base outer
 frf:∀b∈dG outer,H b=none
 hok:cz P w H s.heap
 bare:JX s.gens
def CE(outer:List Env)(P:JM)(w:JN)(H:Hp)(s:Shared)(Q:VK)(u:Value)(s':Shared):Prop:=
 ∃v H',s'.os=s.os/\JX s'.gens/\Un (dG outer) [] H H' s.heap s'.heap/\cz P w H' s'.heap/\RelV v u/\Q v H'
def CR(CX:dP)(outer:List Env)(P:JM)(w:JN)(H:Hp)(s:Shared)(Q:VK)(E:XK)(r:Result)(s':Shared):Prop:=
 match r with
 |.ok (.ret u)=>CE outer P w H s Q u s'
 |.ok _=>False
 |.error e=>CX outer H s E e s'
structure cL(P:JM)(w:JN)(K:Qb)(mg:Str->Option Value)(base:JP)(CX:dP)(k:Nat)(f:Addr)(fd:Kv)(ps:List Str)(sp:Sp):Prop where
 len:∀vs H Q E,sp vs H Q E->vs.length=ps.length
 run:∀(A:JW) (outer:List Env) (s:Shared) (H:Hp) (args:Args) (us:List Value) (vs:List V) (Q:VK) (E:XK),cb k A->ei P w K mg base A outer s H->BindsTo s fd args (ps.zip us)->av vs us->sp vs H Q E ->
  Kw (JZ P w) A (.call (.ref f) args) (CR CX outer P w H s Q E) s
section
variable{X:Cx}{pins:List (Addr×Obj)}{σ:St}{H:Hp}{s s':Shared}
def Inv.env0(I:Inv X pins σ H s):ei X.prog X.w X.K X.mg X.base X.A X.stack s H:=
 ⟨I.ok.frames,I.ok.mod,I.bs,Qr I.ok.bsz I.sz,I.stack,I.stkFree,I.hok,I.bare⟩
def Inv.after (I:Inv X pins σ H s)(h:CE X.stack X.prog X.w H s Q u s'):EP X pins σ Q u s':=by
 obtain⟨v,H',os,bare,un,hok,r,q⟩:=h;obtain⟨hh,g,d,t,os'⟩:=s';obtain rfl:os'=s.os:=os;exact⟨v,H',I.call (h':=hh) (g':=g) (d':=d) (t':=t) (ch:=[]) un hok bare (λb z=>Mm z (by simp)),r,q⟩
end
def Bb(sp:Sp)(dvs:List V)(E:XK)(t:TA):TE:=λσ H Q=>t σ H λvs H1=>sp (vs++dvs) H1 Q E
def Binds(K:Qb)(fd:Kv)(ps:List Str)(ds:List Value):Prop:=
 ∀(s:Shared) (us:List Value),K.In s.heap->(us++ds).length=ps.length->BindsTo s fd ⟨us,[]⟩ (ps.zip (us++ds))
def Binds.all{K:Qb}{fd:Kv}{ps:List Str}(h:∀us:List Value,us.length=ps.length->bindArgs fd ⟨us,[]⟩=pure (ps.zip us)):Binds K fd ps []:=λs us _ hl=>by
 rw[QZ]at hl ⊢;exact .of_eq (h us hl)
def lF(CX:dP)(X:Cx)(E:XK):Prop:=∀(pins:List (Addr×Obj)) (σ:St) (H:Hp) (s:Shared) (e:Value) (s':Shared),Inv X pins σ H s->CX X.stack H s E e s'->X.xe e s'
section
variable{X:Cx}{CX:dP}{k:Nat}{f:Addr}{fd:Kv}{ps:List Str}{sp:Sp}{dvs:List V}{ds:List Value}{E:XK}{x:Str}{p pos:Pos}{e:Expr}{es:List Expr}{t:TA}
def Bn (F:cL X.prog X.w X.K X.mg X.base CX k f fd ps sp)(hr:cb k X.A)(hb:Binds X.K fd ps ds)(hd:av dvs ds)(hx:lF CX X E)(I:Inv X pins σ H s)(r:av vs us)(h:sp (vs++dvs) H Q E):JY (JZ X.prog X.w) X.A (call (.ref f) us) (EP X pins σ Q) X.xe s:=by
 have r2:av (vs++dvs) (us++ds):=r.append hd;have hl:(us++ds).length=ps.length:=by rw[<-r2.length];exact F.len _ _ _ _ h
 refine wpAny_call (Kx (F.run X.A X.stack s H ⟨us,[]⟩ (us++ds) (vs++dvs) Q E hr I.env0 (hb s us I.kIn hl) r2 h) λr s' hq=>?_);cases r with
 |error e=>exact hx pins σ H s e s' I hq
 |ok fl=>
  cases fl with
  |ret u=>exact I.after hq
  |next=>exact False.elim hq
  |brk=>exact False.elim hq
  |cont=>exact False.elim hq
def Ey(F:cL X.prog X.w X.K X.mg X.base CX k f fd ps sp)(hr:cb k X.A)(hg:Gl X x)(hm:X.mg x=some (.ref f))(hk:WT X.K (.ref f)=true)(hb:Binds X.K fd ps ds)(hd:av dvs ds)(hx:lF CX X E)
  (ha:PA X (e::es) t) (hdb:(x==("__debug__":Str))=false:=by decide) (he:J1 (e::es) X.env=(false,eval e X.env)::J1 es X.env:=by rfl) (hpl:(J0 pos (J1 es X.env)).any (·.1)=false:=by rfl) :
  PE X (.Call (.Name x p) (e::es) [] pos) (Bb sp dvs E t):=by
 intro pins s σ H Q I h;refine Ky (rA I hg hm ?_ hdb);refine PySem.W.callWith_K (h₀:=X.base) I.ok.mod.kin hk (ba (ha pos pins s σ H _ I h) λus s1 ⟨vs,H1,I1,r,q⟩=>⟨I1.kIn,?_⟩) he hpl;exact Bn F hr hb hd hx I1 r q
end
structure cA(N P:List Str)(sc:JK):Prop where
 kind:sc.kind=.function
 co:sc.isCoroutine=false
 gen:sc.isGenerator=false
 nd:N.Nodup
 pre:N.take P.length=P
 par:∀x∈P,sc.names.lookup x=some .local\/sc.names.lookup x=some .cell
 nofree:∀y∈sc.names,y.2≠.free
theorem jO {kindOf:Str->Option Kz}:∀{binds:List (Str×Value)}{m:Str->Option Value},(∀v,(x,v)∉binds)->KA kindOf binds m x=m x
 |[],_,_=>rfl
 |(n,v)::r,m,h=>by
  unfold KA;rw[jO λw hw=>h w (Qk _ hw)];split
  .have:x≠n:=by rintro rfl;exact h v QW
   simp[this]
  .rfl
theorem jP {kindOf:Str->Option Kz}:∀{binds:List (Str×Value)}{m:Str->Option Value},(∀v,(x,v)∉binds)->KB kindOf binds m x=m x
 |[],_,_=>rfl
 |(n,v)::r,m,h=>by
  unfold KB;rw[jP λw hw=>h w (Qk _ hw)];split
  .rfl
  .have:x≠n:=by rintro rfl;exact h v QW
   simp[this]
theorem jQ {kindOf:Str->Option Kz}:∀{P:List Str}{vs:List Value}{i:Nat}{m:Str->Option Value},P.Nodup->P[i]?=some x->vs[i]?=some v->kindOf x=some .local ->
  KA kindOf (P.zip vs) m x=some v
 |[],_,_,_,_,h,_,_=>by simp at h
 |_::_,[],_,_,_,_,h,_=>by simp at h
 |p::P,w::vs,0,m,nd,h1,h2,hk=>by
  simp at h1 h2;subst h1;subst h2;show KA kindOf ((p,w)::P.zip vs) m p=_;unfold KA;rw[jO λv hv=>(QR.mp nd).1 (VS hv).1,Mk hk];simp
 |p::P,w::vs,i+1,m,nd,h1,h2,hk=>by
  show KA kindOf ((p,w)::P.zip vs) m x=_;unfold KA;exact jQ (i:=i) (QR.mp nd).2 (by simpa using h1) (by simpa using h2) hk
theorem jR {kindOf:Str->Option Kz}:∀{P:List Str}{vs:List Value}{i:Nat}{m:Str->Option Value},P.Nodup->P[i]?=some x->vs[i]?=some v->kindOf x≠some .local ->
  KB kindOf (P.zip vs) m x=some v
 |[],_,_,_,_,h,_,_=>by simp at h
 |_::_,[],_,_,_,_,h,_=>by simp at h
 |p::P,w::vs,0,m,nd,h1,h2,hk=>by
  simp at h1 h2;subst h1;subst h2;show KB kindOf ((p,w)::P.zip vs) m p=_;unfold KB;rw[jP λv hv=>(QR.mp nd).1 (VS hv).1,Ml hk];simp
 |p::P,w::vs,i+1,m,nd,h1,h2,hk=>by
  show KB kindOf ((p,w)::P.zip vs) m x=_;unfold KB;exact jR (i:=i) (QR.mp nd).2 (by simpa using h1) (by simpa using h2) hk
noncomputable def start(N:List Str)(vs:List V):St:=vs.map some++Qg (N.length-vs.length) none
noncomputable def qB(CX:dP)(P:JM)(w:JN)(K:Qb)(mg:Str->Option Value)(base:JP)(N:List Str)(qual:Str)(scope:JK)(f:Addr)(cd:Value)(A:JW)(outer:List Env)(s:Shared)(H:Hp)(E:XK):Cx where
 prog:=P
 w:=w
 K:=K
 mg:=mg
 base:=base
 A:=A.deeper (KC qual scope s.heap.objs.size f cd)
 N:=N
 s₀:=s
 H₀:=H
 env:=KC qual scope s.heap.objs.size f cd
 outer:=outer
 stack:=KC qual scope s.heap.objs.size f cd::outer
 ex:=[]
 calm:=true
 fn:=λ_=>true
 pn:=[]
 xe:=λe s'=>JY (JZ P w) (A.deeper (KC qual scope s.heap.objs.size f cd)) (leaving (KC qual scope s.heap.objs.size f cd) e) (λ_ s''=>CX outer H s E e s'') (λe' s''=>CX outer H s E e' s'') s'
def qC {sc:JK}(h:sc.names.lookup x=some .cell):∃c,(KD n sc.names []).lookup x=some c:=by
 have q:=Vf sc.names n [] (.inl h);exact WO.mp q
def Fq {K:Qb}(S:cA N ps scope)(hd:A.handled=none)(e0:ei P w K mg base A outer s H)(hl:vs.length=ps.length)(r:av vs us)(x:InCallC s s.heap.objs.size (KA (KC qual scope s.heap.objs.size f cd).kindOf (ps.zip us) λ_=>none) (KD (s.heap.objs.size+1) scope.names []) (KB (KC qual scope s.heap.objs.size f cd).kindOf (ps.zip us) λ_=>none) s1):
  Inv (qB CX P w K mg base N qual scope f cd A outer s H E) [] (start N vs) H s1:=by
 have hpl:ps.length<=N.length:=by have:=Mn List.length S.pre;rw[QQ]at this;lia
 obtain⟨h1,tk,rfl,hk⟩:=x.done;have noA:∀b:Addr,b∉(qB CX P w K mg base N qual scope f cd A outer s H E).ex:=λb z=>Mm (show b∈([]:List Addr)from z) (by simp);refine⟨⟨e0.mod,S.kind,rfl,rfl,Qh _,λy z c h1 h2=>?_,λy hy=>?_,λy c _ h=>?_,λ_=>hd,Around.frames_deeper e0.frames,.inr ⟨rfl,rfl⟩,λb z=>Mm z (noA b),e0.bs,e0.bsz,λb _ _=>noA b,λb z=>Mm z (noA b),e0.funs,e0.frf⟩,
  rfl,e0.bare,Un.kept hk,⟨_,x.toInCall.ns,λi y v h1 h2 h3=>?_⟩,λy c h=>⟨_,x.cell y c h⟩,e0.hok.fresh (Qh _),λy c h=>?_,λp hp=>Mm (show p∈([]:List (Addr×Obj))from hp) (by simp),e0.hok.kept hk,?_⟩
 .exact name_of_addr x.apart (PySem.mem_of_lookup h1) (PySem.mem_of_lookup h2)
 .have hy:scope.names.lookup y=some .cell\/scope.names.lookup y=some .free:=hy;rcases hy with hy|hy
  .exact qC hy
  .exact Mm rfl (S.nofree _ (PySem.mem_of_lookup hy))
 .exact Vn (x.above y c (PySem.mem_of_lookup h))
 .have hi:i<vs.length:=by
   unfold start at h2;by_cases hi:i<vs.length
   .exact hi
   .rw[Qd (by simpa using hi)]at h2;rw[Vh]at h2;split at h2<;>cases h2
  have ha:vs[i]?=some v:=by
   unfold start at h2;rw[Qf (by simpa using hi),Qs]at h2;cases e:vs[i]? with
   |none=>rw[e]at h2;cases h2
   |some a=>rw[e]at h2;cases h2;rfl
  obtain⟨u,hu,rv⟩:=r.get ha;have hp:ps[i]?=some y:=by
   rw[<-S.pre,Qt (by lia)];exact h1
  have ndP:ps.Nodup:=by rw[<-S.pre];exact S.nd.sublist (Wi _ _)
  refine⟨u,rv,?_⟩;rcases S.par y (Qp hp)with k|k
  .exact .inl ⟨k,jQ ndP hp hu k⟩
  .obtain ⟨c,e⟩:=qC (n:=s.heap.objs.size+1) k;refine .inr ⟨.inl k,c,e,?_⟩;have q:=x.cell y c e;rw[jR ndP hp hu (by show scope.names.lookup y≠_;rw[k];decide)]at q;exact q
 .exact e0.hok.fresh (Vn (x.above y c (PySem.mem_of_lookup h)))
 .unfold start;show _=N.length;rw[QF,Qo,List.length_replicate];lia
set_option tactic.hygienic true in
def Ba {K:Qb}{kV:Value}(lk:K.lookup f=some ⟨oc,od,.func (WI name qual params body scope dV kV doc pm an cdv ct),osl⟩)(hcd:Vm K cdv qual=true)(S:cA N ps scope)(len:∀vs H Q E,sp vs H Q E->vs.length=ps.length)(hbody:∀(A:JW) (outer:List Env) (s:Shared) (H:Hp) (vs:List V) (Q:VK) (E:XK),cb k (A.deeper (KC qual scope s.heap.objs.size f cdv))->sp vs H Q E ->
   ∃t,cC (qB CX P w K mg base N qual scope f cdv A outer s H E) body t/\t {nx:=λ_ H'=>Q .non H',rt:=Q} (start N vs) H):
  cL P w K mg base CX (k+1) f (WI name qual params body scope dV kV doc pm an cdv ct) ps sp:=by
 refine⟨len,λA outer s H args us vs Q E hr e0 hb r hsp=>?_⟩;have hl:=len _ _ _ _ hsp;have KX:K.In s.heap:=e0.mod.kin.keeps λb o e=>(e0.bs b o e).1;have aq:s.heap.NoLimit:=e0.mod.nolimit.keeps λb o e=>(e0.bs b o e).1;have hkind:∀y∈ps.zip us,scope.names.lookup y.1=some .local\/(scope.names.lookup y.1=some .cell/\((KD (s.heap.objs.size+1) scope.names []).lookup y.1).isSome=true):=λ⟨n,v⟩ hy=>by
  rcases S.par n (VS hy).1 with q|q
  .exact .inl q
  .exact .inr ⟨q,Vf _ _ _ (.inl q)⟩
 refine codeAny_call_function hr.depth (KX _ _ lk) rfl S.co S.gen rfl (PySem.W.codeRec_of KX hcd) (hb _ _ _ _ ?_);refine wpAny_newFunctionEnv_cells S.kind hkind λenv he s1 x=>?_;subst he;refine⟨aq.keeps x.toInCall.keep,codeAny_func ?_⟩;obtain⟨t,ht,hq⟩:=hbody A outer s H vs Q E (hr.deeper _) hsp;have I:Inv (qB CX P w K mg base N qual scope f cdv A outer s H E) [] (start N vs) H s1:=Fq S hr.hd e0 hl r x;refine J2 (ht [] s1 (start N vs) H _ I hq) (λfl s' hs=>?_) λe s' hs=>hs;have fin:∀{σ':St}{H':Hp}{v:V}{u:Value},Inv (qB CX P w K mg base N qual scope f cdv A outer s H E) [] σ' H' s'->RelV v u->Q v H'->CE outer P w H s Q u s':=
  λ{σ' H' v u} J rv q=>⟨v,H',J.os,J.bare,J.base,J.hok,rv,q⟩
 cases fl with
 |ret u=>
  obtain⟨v,σ',H',J,rv,q⟩:=hs;exact fin J rv q
 |next=>
  obtain⟨σ',H',J,q⟩:=hs;exact fin (v:=V.non) (u:=Value.none) J rfl q
 |brk=>
  obtain⟨_,_,_,q⟩:=hs;exact False.elim q
 |cont=>
  obtain⟨_,_,_,q⟩:=hs;exact False.elim q
section
variable{X:Cx}{x:Str}{p pos:Pos}{e:Expr}{es:List Expr}{t:TA}{id T:String}{r:List V->Hp->VK->Prop}
def lU(r:List V->Hp->VK->Prop)(t:TA):TE:=λσ H Q=>t σ H λvs H1=>r vs H1 Q
def yQ(hc:bx X (.builtin id) r)(hg:Gl X x)(hm:X.mg x=none)(hv:JV x=some (.builtin id))(ha:PA X (e::es) t)(hn:x ≠ "__name__":=by decide)(hdb:(x==("__debug__":Str))=false:=by decide)
  (he:J1 (e::es) X.env=(false,eval e X.env)::J1 es X.env:=by rfl) (hpl:(J0 pos (J1 es X.env)).any (·.1)=false:=by rfl):PE X (.Call (.Name x p) (e::es) [] pos) (lU r t):=by
 intro pins s σ H Q I h;refine Ky (x9 I hg hm hv ?_ hn hdb);exact PyProof.Rows.callWith_builtin1 (ba (ha pos pins s σ H _ I h) λus s1 ⟨vs,H1,I1,r1,q1⟩=>hc pins s1 σ H1 vs us Q I1 r1 q1) he hpl
def vP(hc:bx X (.type T) r)(hg:Gl X x)(hm:X.mg x=none)(hv:JV x=some (.type T))(ha:PA X (e::es) t)(hn:x ≠ "__name__":=by decide)(hdb:(x==("__debug__":Str))=false:=by decide)
  (he:J1 (e::es) X.env=(false,eval e X.env)::J1 es X.env:=by rfl) (hpl:(J0 pos (J1 es X.env)).any (·.1)=false:=by rfl):PE X (.Call (.Name x p) (e::es) [] pos) (lU r t):=by
 intro pins s σ H Q I h;refine Ky (x9 I hg hm hv ?_ hn hdb);exact PyProof.Rows.callWith_type1 (ba (ha pos pins s σ H _ I h) λus s1 ⟨vs,H1,I1,r1,q1⟩=>hc pins s1 σ H1 vs us Q I1 r1 q1) he hpl
end
end L2
namespace HT
open PySem PyProof.Rows
noncomputable def lexLt:List Int->List Int->Bool
 |[],[]=>false
 |[],_::_=>true
 |_::_,[]=>false
 |x::xs,y::ys=>if x=y then lexLt xs ys else decide (x<y)
def bv(x y:Int)(xs ys:List Int):lexLt (x::xs) (y::ys)=if x=y then lexLt xs ys else decide (x<y):=rfl
def dE(A:JW)(s:Shared)(a:Int)(t:Tok)(c:Int)(u:Tok)(prog:JM)(w:JN)(E:Value->Shared->Prop)(Q:Value->Shared->Prop)(h:Q (.bool (decide (a<c))) s):
  JY (JZ prog w) A (richCompare .Lt (.int a t) (.int c u)) Q E s:=
 (PyProof.Rows.lt_int h:JY (JZ prog w) A (Kq .Lt (.int a t) (.int c u)) Q E s)
section
variable{prog:JM}{w:JN}{A:JW}{E:Value->Shared->Prop}{s:Shared}
def dZ (ht:IsTup s.heap t vs.toArray)(hb:IsTup s.heap b ws.toArray)(hv:vs≠[])(h1:ws=[]->Q (.ref t) s)(h2:ws≠[]->Q (.ref s.heap.objs.size) {s with heap:=s.heap.push {cls:=.type "tuple",data:=.seq (vs++ws).toArray} })(hsz:vs.length+ws.length<=sizeLine):JY (JZ prog w) A (Ko .Add (.ref t) (.ref b)) Q E s:=by
 obtain⟨⟨cls,dd,data,sl⟩,ho,hc,n,hd⟩:=id ht;obtain⟨⟨cls2,dd2,data2,sl2⟩,ho2,hc2,n2,hd2⟩:=id hb;simp only at hc hd hc2 hd2;subst hc hd hc2 hd2;have e:vs.toArray++ws.toArray=(vs++ws).toArray:=by simp
 by_cases hw:ws=[]
 .exact KF ⟨_,ho,rfl⟩ ⟨_,ho2,rfl⟩ KG KH PySem.F.slot_tuple_add PySem.F.entry_tuple_add (PySem.F.args_tuple_add_2 _ _)
   (tuple_addW1 t b vs.toArray ws.toArray n n2 dd dd2 sl sl2 (by simpa using hv) (by simp[hw])) ⟨ho,ho2,h1 hw⟩
 .refine KF ⟨_,ho,rfl⟩ ⟨_,ho2,rfl⟩ KG KH PySem.F.slot_tuple_add PySem.F.entry_tuple_add (PySem.F.args_tuple_add_2 _ _)
   (tuple_addW2 t b vs.toArray ws.toArray n n2 dd dd2 sl sl2 (by simpa using hv) (by simpa using hw) (by rw[QA,QA];exact hsz)) ⟨ho,ho2,?_⟩
  rw[e];exact h2 hw
noncomputable def aS(n d:Nat):Option Int->Nat
 |none=>d
 |some v=>if v<0 then(v+(n:Int)).toNat else min v.toNat n
def Bm(n d:Nat)(hd:d<=n)(o:Option Int):aS n d o<=n:=by
 cases o with
 |none=>exact hd
 |some v=>
  show(if v<0 then(v+(n:Int)).toNat else min v.toNat n)<=n;by_cases hv:v<0
  .rw[Mk hv];lia
  .rw[Ml hv];exact Nat.min_le_right _ _
def r0(v:Int)(n d:Nat):(if v<0 then max (v+(n:Int)) 0 else min v (n:Int))=((aS n d (some v):Nat):Int):=by
 show(if v<0 then max (v+(n:Int)) 0 else min v (n:Int))=(((if v<0 then(v+(n:Int)).toNat else min v.toNat n):Nat):Int);by_cases hv:v<0
 .simp only[Mk hv];lia
 .simp only[Ml hv];lia
def Gg(lo hi:Option Int)(n:Nat):Builtin.Slice.sliceAdjust lo hi 1 (n:Int)=(((aS n 0 lo:Nat):Int),((aS n n hi:Nat):Int)):=by
 have h1:¬((1:Int)<0):=by lia
 unfold Builtin.Slice.sliceAdjust;simp only[h1,if_false];refine Prod.ext ?_ ?_
 .cases lo with
  |none=>rfl
  |some v=>exact r0 v n 0
 .cases hi with
  |none=>rfl
  |some v=>exact r0 v n n
def Gs(i j:Nat):Builtin.Slice.slicePlaces (i:Int) (j:Int) 1=j-i:=by
 unfold Builtin.Slice.slicePlaces;have h1:(1:Int) > 0:=by lia
 simp only[h1,if_true,Int.ediv_one];split<;>lia
def kM (p:KI v o)(h:Q o s):JY (JZ prog w) A (Builtin.Slice.slicePartIndex v) Q E s:=by
 cases p with
 |none=>exact slicePart_none h
 |int i t=>exact slicePart_int h
def vQ {lo:Option Int}{Q:Int×Int×Nat->Shared->Prop}(hs:s.heap.IsSliceOf sl vl vu .none)(pl:KI vl lo)(pu:KI vu hi)(h:Q (((aS n 0 lo:Nat):Int),1,aS n n hi-aS n 0 lo) s):JY (JZ prog w) A (Builtin.Slice.sliceApplied (.ref sl) (pure (n:Int))) Q E s:=by
 obtain⟨os,hos,hcs,hds⟩:=id hs;unfold Builtin.Slice.sliceApplied Builtin.Slice.sliceFields;refine Kb (Kb (KJ hos hds (x:=vl) rfl (Kb (KJ hos hds (x:=vu) rfl (Kb (KJ hos hds (x:=.none) rfl (Ki ?_)))))));refine Kb (slicePart_none ?_);show JY _ _ (if((1:Int)==0)=true then _ else _) _ _ s;rw[Ml (by decide)];refine Kb (kM pl (Kb (kM pu (Kb (Ki ?_)))));show JY _ _ (match Builtin.Slice.sliceAdjust lo hi 1 (n:Int)with|(lo,hi)=>pure (lo,(1:Int),Builtin.Slice.slicePlaces lo hi 1)) _ _ s;rw[Gg lo hi n];show JY _ _ (pure (((aS n 0 lo:Nat):Int),(1:Int),Builtin.Slice.slicePlaces ((aS n 0 lo:Nat):Int) ((aS n n hi:Nat):Int) 1)) _ _ s;rw[Gs];exact Ki h
def ER(xs:Array Value)(i k:Nat):((QU k).filterMap λ(m:Nat)=>xs[((i:Int)+(m:Int)*1).toNat]?).toArray=((xs.toList.drop i).take k).toArray:=by
 have e:(λ(m:Nat)=>xs[((i:Int)+(m:Int)*1).toNat]?)=λm=>xs[i+m]?:=by
  funext m;have:((i:Int)+(m:Int)*1).toNat=i+m:=by lia
  rw[this]
 rw[e];have:=pick_run xs i k;rw[List.filterMap_map]at this;have e2:((λx=>xs[x]?) ∘ λx=>i+x)=λm=>xs[i+m]?:=rfl;rw[e2]at this;rw[this]
def cj {lo:Option Int}(ht:IsTup s.heap t items)(hs:s.heap.IsSliceOf sl vl vu .none)(pl:KI vl lo)(pu:KI vu hi)(hw:¬(aS items.size 0 lo=0/\aS items.size items.size hi=items.size))(h:Q (.ref s.heap.objs.size) {s with heap:=s.heap.push {cls:=.type "tuple",data:=.seq ((items.toList.drop (aS items.size 0 lo)).take (aS items.size items.size hi-aS items.size 0 lo)).toArray} })(hsz:items.size<=sizeLine):JY (JZ prog w) A (KM (.ref t) (.ref sl)) Q E s:=by
 have htake:sizeOk (.seq ((items.toList.drop (aS items.size 0 lo)).take (aS items.size items.size hi-aS items.size 0 lo)).toArray):=by
  show((items.toList.drop (aS items.size 0 lo)).take (aS items.size items.size hi-aS items.size 0 lo)).toArray.size<=sizeLine;rw[QA,QQ,WN,QS];lia
 have hj:aS items.size items.size hi<=items.size:=Bm _ _ (Qh _) hi;obtain⟨os,hos,hcs,hds⟩:=id hs;have hTs:s.TypeIs (.ref sl) "slice":=⟨os,hos,hcs⟩;unfold KM
 try with_reducible refine Kc ?_
 first|refine Kb (Ki ?_)|skip
 refine Kb (wpAny_sequenceKey ht.typeIs (by decide) ?_);refine Kb (KN (name:=Str.ofString "__getitem__") ht.typeIs PyProof.Rows.slot_tuple_getitem
  (KO PyProof.Rows.slot_tuple_getitem ht.typeIs entry_tuple_getitem ?_ (args_tuple_getitem _ _)))
 show JY _ _ (Builtin.Tuple.tupleItemsOf (.ref t) >>= _) _ _ s;refine Kb (tupleItemsOf_ ht ?_);refine Kb (KP hTs ?_);rw[Mk (by decide)];refine Kb (vQ hs pl pu ?_);have hno:¬((((aS items.size 0 lo:Nat):Int)==0&&(1:Int)==1&&(aS items.size items.size hi-aS items.size 0 lo)==items.size)=true):=by
  intro q;rw[Qm,Qm]at q;have q1:((aS items.size 0 lo:Nat):Int)=0:=eq_of_beq q.1.1;have q2:aS items.size items.size hi-aS items.size 0 lo=items.size:=eq_of_beq q.2;exact hw ⟨by lia,by lia⟩
 show JY _ _ (if(((aS items.size 0 lo:Nat):Int)==0&&(1:Int)==1&&(aS items.size items.size hi-aS items.size 0 lo)==items.size)=true then _ else _) _ _ s;rw[Ml hno,ER]
 first
  |exact Kb (m:=Builtin.Tuple.tupleExact _) (KQ (Ki ⟨_,rfl,Ki h⟩) htake)
  |exact Kb (m:=Builtin.Tuple.tupleExact _) (KQ (Kb (Ki (Ki ⟨_,rfl,Ki h⟩))) htake)
  |exact Kb (Kb (m:=Builtin.Tuple.tupleExact _) (KQ (Ki (Ki ⟨_,rfl,Ki h⟩)) htake))
  |exact Kb (Kb (m:=Builtin.Tuple.tupleExact _) (KQ (Ki ⟨_,rfl,Ki h⟩) htake))
end
end HT
namespace L2
open PySem PySem.Spec PyProof.Rows
abbrev TO:=St->Hp->(Option Int->Hp->Prop)->Prop
def PO(X:Cx)(e:Option Expr)(t:TO):Prop:=
 ∀(pins:List (Addr×Obj)) (s:Shared) (σ:St) (H:Hp) (Q:Option Int->Hp->Prop),Inv X pins σ H s->t σ H Q ->
  JY (JZ X.prog X.w) X.A (evalPart e X.env) (λu s'=>∃o H',Inv X pins σ H' s'/\KI u o/\Q o H') X.xe s
def Ew:TO:=λ_ H Q=>Q none H
def Aj(t:TE):TO:=λσ H Q=>t σ H λx H1=>∃i,x=.int i/\Q (some i) H1
section
variable{X:Cx}{e:Expr}{te:TE}{lo hi:Option Expr}{tl th:TO}{pos p2:Pos}
def Ev:PO X none Ew:=by
 intro pins s σ H Q I h;rw[evalPart_none];exact Ki ⟨none,H,I,.none,h⟩
def Dj(h:PE X e te):PO X (some e) (Aj te):=by
 intro pins s σ H Q I hw;rw[evalPart_some];refine ba (h pins s σ H _ I hw) λu s1 ⟨x,H1,I1,r1,q1⟩=>?_;obtain⟨i,rfl,q⟩:=q1;obtain⟨t,rfl⟩:=r1;exact⟨some i,H1,I1,.int i t,q⟩
def ff(X:Cx)(r:V->Option Int->Option Int->Hp->VK->Prop):Prop:=
 ∀(pins:List (Addr×Obj)) (s:Shared) (σ:St) (H:Hp) (x:V) (v vl vu:Value) (lo hi:Option Int) (sl:Addr) (Q:VK),Inv X pins σ H s->RelV x v->s.heap.IsSliceOf sl vl vu .none->KI vl lo->KI vu hi->r x lo hi H Q ->
  ∃T id,typeLookup (.type T) "__getitem__"=pure (some (.builtin id))/\s.TypeIs v T/\JY (JZ X.prog X.w) X.A (KM v (.ref sl)) (EP X pins σ Q) X.xe s
def ff.or{r r':V->Option Int->Option Int->Hp->VK->Prop}(h:ff X r)(h':ff X r'):ff X (λx lo hi H Q=>r x lo hi H Q\/r' x lo hi H Q):=by
 intro pins s σ H x v vl vu lo hi sl Q I rx hs pl pu q;rcases q with q|q
 .exact h pins s σ H x v vl vu lo hi sl Q I rx hs pl pu q
 .exact h' pins s σ H x v vl vu lo hi sl Q I rx hs pl pu q
def Gx(r:V->Option Int->Option Int->Hp->VK->Prop)(te:TE)(tl th:TO):TE:=λσ H Q=>te σ H λx H1=>tl σ H1 λl H2=>th σ H2 λu H3=>r x l u H3 Q
def EQ (hr:ff X r)(he:PE X e te)(hl:PO X lo tl)(hu:PO X hi th):PE X (.Subscript e (.Slice lo hi none p2) pos) (Gx r te tl th):=by
 intro pins s σ H Q I h;refine Subscript_ (ba (he pins s σ H _ I h) λv s1 ⟨x,H1,I1,r1,q1⟩=>?_);refine wpAny_Slice (ba (hl pins s1 σ H1 _ I1 q1) λvl s2 ⟨l,H2,I2,pl,q2⟩=>ba (hu pins s2 σ H2 _ I2 q2) λvu s3 ⟨u,H3,I3,pu,q3⟩=>?_);rw[evalPart_none];refine Ki ?_;have I4:Inv X pins σ H3 {s3 with heap:=s3.heap.push {cls:=.type "slice",data:=.fields #[vl,vu,.none]} }:=I3.kept (t':=s3.toks) λb ob q=>Qc _ q;obtain⟨T,id,hT,ht,hg⟩:=hr pins {s3 with heap:=s3.heap.push {cls:=.type "slice",data:=.fields #[vl,vu,.none]} } σ H3 x v vl vu l u s3.heap.objs.size Q I4 r1 (Heap.IsSliceOf.new ..) pl pu q3;show JY (JZ X.prog X.w) X.A (subscriptTail e (.Slice lo hi none p2) v (.ref s3.heap.objs.size)) (EP X pins σ Q) X.xe {s3 with heap:=s3.heap.push {cls:=.type "slice",data:=.fields #[vl,vu,.none]} };exact tail_any (ops:=[.ref s3.heap.objs.size,v]) ht hT hg (by with_unfolding_all rfl)
noncomputable def jH(xs:List V)(lo hi:Option Int):List V:=(xs.drop (HT.aS xs.length 0 lo)).take (HT.aS xs.length xs.length hi-HT.aS xs.length 0 lo)
def ki(xs:List V)(lo hi:Option Int):(jH xs lo hi).length<=xs.length:=by
 unfold jH;rw[QQ,WN];lia
def og(K:Qb):V->Option Int->Option Int->Hp->VK->Prop:=λx lo hi H Q=>∃a xs,x=.ref a/\bI K H a xs /\
 ¬(HT.aS xs.length 0 lo=0/\HT.aS xs.length xs.length hi=xs.length)/\∀p,H p=none->Q (.ref p) (aI H p (.tup (jH xs lo hi)))
def Bl:ff X (og X.K):=by
 intro pins s σ H x v vl vu lo hi sl Q I rx hs pl pu h;obtain⟨a,xs,rfl,hx,hw,q⟩:=h;cases rx;obtain⟨its,r,ht,hz⟩:=I.tuple hx;have hlen:its.toArray.size=xs.length:=by rw[QA];exact r.length.symm
 refine⟨"tuple",_,PyProof.Rows.slot_tuple_getitem.lookup,ht.typeIs,?_⟩;refine HT.cj ht hs pl pu (by rw[hlen];exact hw) ?_ (by rw[hlen];exact hz);rw[hlen];refine⟨.ref s.heap.objs.size,_,I.laid (t':=s.toks) (o:=.tup (jH xs lo hi)) (λb ob q=>Qc _ q) (Qh _) ?_,rfl,q _ (I.hok.fresh (Qh _))⟩;exact⟨Qr (ki xs lo hi) hz,_,(r.drop (HT.aS xs.length 0 lo)).take (HT.aS xs.length xs.length hi-HT.aS xs.length 0 lo),IsTup.new _ _⟩
def o9(K:Qb):R2:=λx y H Q=>∃a b xs ys,x=.ref a/\y=.ref b/\bI K H a xs/\bI K H b ys/\xs≠[]/\xs.length+ys.length<=sizeLine /\
 (ys=[]->Q (.ref a) H)/\(ys≠[]->∀p,H p=none->Q (.ref p) (aI H p (.tup (xs++ys))))
def av.nil_iff (r:av xs us):us=[]↔xs=[]:=by
 cases r with
 |nil=>simp
 |cons _ _=>simp
def dU:bY X (Ko .Add) (o9 X.K):=by
 intro pins s σ H x y v u Q I rx ry h;obtain⟨a,b,xs,ys,rfl,rfl,ha,hb,hx,hz,q1,q2⟩:=h;cases rx;cases ry;obtain⟨its,r1,p1,_⟩:=I.tuple ha;obtain⟨its2,r2,p2,_⟩:=I.tuple hb;refine HT.dZ p1 p2 (λz=>hx (r1.nil_iff.mp z)) (λz=>⟨.ref a,H,I,rfl,q1 (r2.nil_iff.mp z)⟩) (λz=>?_) (by rw[<-r1.length,<-r2.length];exact hz);refine⟨.ref s.heap.objs.size,_,I.laid (t':=s.toks) (o:=.tup (xs++ys)) (λb ob q=>Qc _ q) (Qh _) ?_,rfl,q2 (λw=>z (r2.nil_iff.mpr w)) _ (I.hok.fresh (Qh _))⟩;exact⟨by rw[QF];exact hz,_,r1.append r2,IsTup.new _ _⟩
end
def hG(n:Nat)(i:Int):Option Nat:=if 0<=i then(if i<n then some i.toNat else none)else if -(n:Int)<=i then some (i+n).toNat else none
noncomputable def fc{α:Type}(xs:List α)(i:Int):Option α:=(hG xs.length i).bind λj=>xs[j]?
def Di (h:hG n i=some j):seqIndex? i n=some j/\j<n/\-(n:Int)<=i/\i<n:=by
 unfold hG at h;by_cases h0:0<=i
 .rw[Mk h0]at h;by_cases h1:i<n
  .rw[Mk h1]at h;have e:i.toNat=j:=Option.some.inj h;exact⟨by rw[seqIndex_of h0 h1,e],by lia,by lia,h1⟩
  .rw[Ml h1]at h;cases h
 .rw[Ml h0]at h;by_cases h1:-(n:Int)<=i
  .rw[Mk h1]at h;have e:(i+n).toNat=j:=Option.some.inj h;exact⟨by rw[seqIndex_neg (by lia) h1,e],by lia,h1,by lia⟩
  .rw[Ml h1]at h;cases h
def gC (h:fc xs i=some v):∃j,seqIndex? i xs.length=some j/\xs[j]?=some v/\j<xs.length/\-(xs.length:Int)<=i/\i<xs.length:=by
 unfold fc at h;cases e:hG xs.length i with
 |none=>rw[e]at h;cases h
 |some j=>
  rw[e]at h;obtain⟨h1,h2,h3,h4⟩:=Di e;exact⟨j,h1,h,h2,h3,h4⟩
def gD(b:Expr):Prop:=∀o i,subscripted b false o i=operate [o,i] (KM o i)
def dN(X:Cx)(r:R2):Prop:=
 ∀(value slice:Expr) (pins:List (Addr×Obj)) (s:Shared) (σ:St) (H:Hp) (x y:V) (v u:Value) (Q:VK),Inv X pins σ H s->RelV x v->RelV y u->r x y H Q ->
  subscripted slice false v u=operate [v,u] (KM v u)->JY (JZ X.prog X.w) X.A (subscriptTail value slice v u) (EP X pins σ Q) X.xe s
def fh(X:Cx)(id:String)(r:V->List V->Hp->VK->Prop):Prop:=
 ∀(pins:List (Addr×Obj)) (s:Shared) (σ:St) (H:Hp) (x:V) (xs:List V) (v:Value) (us:List Value) (Q:VK),Inv X pins σ H s->RelV x v->av xs us->r x xs H Q ->
  JY (JZ X.prog X.w) X.A (call (.builtin id) (v::us)) (EP X pins σ Q) X.xe s
section
variable{X:Cx}{a b:Expr}{ta tb:TE}{pos:Pos}
def dN.or{r r':R2}(h:dN X r)(h':dN X r'):dN X (λx y H Q=>r x y H Q\/r' x y H Q):=by
 intro value slice pins s σ H x y v u Q I rx ry q hs;rcases q with q|q
 .exact h value slice pins s σ H x y v u Q I rx ry q hs
 .exact h' value slice pins s σ H x y v u Q I rx ry q hs
def oZ (hr:dN X r)(ha:PE X a ta)(hb:PE X b tb)(hs:gD b):PE X (.Subscript a b pos) (fZ r ta tb):=by
 intro pins s σ H Q I h;exact Subscript_ (i5 ha hb I h λv u s2 x y H2 I2 rx ry q=>hr a b pins s2 σ H2 x y v u Q I2 rx ry q (hs _ _))
def n9(K:Qb):R2:=λx y H Q=>∃p xs i v,x=.ref p/\y=.int i/\bE K H p xs/\fc xs i=some v/\Q v H
def n8(K:Qb):R2:=λx y H Q=>∃p xs i v,x=.ref p/\y=.int i/\bI K H p xs/\fc xs i=some v/\Q v H
def nZ:R2:=λx y H Q=>∃z i c,x=.str z/\y=.int i/\z.length<=sizeLine/\fc z.cps.toList i=some c/\Q (.str ⟨#[c]⟩) H
def dW:dN X (n9 X.K):=by
 intro value slice pins s σ H x y v u Q I rx ry h hs;obtain⟨p,xs,i,z,rfl,rfl,hq,he,q⟩:=h;cases rx;obtain⟨t,rfl⟩:=ry;obtain⟨its,r,pl,hz⟩:=I.list hq;obtain⟨j,h1,h2,h3,h4,h5⟩:=gC he;obtain⟨w,ew,rw'⟩:=r.get h2;have hl:=r.length;have hn:=gy;have fin:EP X pins σ Q w s:=⟨z,H,I,rw',q⟩;by_cases h0:0<=i
 .have hj:i.toNat=j:=by
   rw[seqIndex_of h0 h5]at h1;exact Option.some.inj h1
  exact item_listR pl.isList h0 (by lia) (by rw[hj];simpa using ew) fin hs
 .have hj:(i+(its.toArray.size:Int)).toNat=j:=by
   rw[seqIndex_neg (by lia) h4]at h1;rw[QA,<-hl];exact Option.some.inj h1
  exact KR (x:=w) pl.isList.typeIs slot_list_getitem.lookup
   (wpAny_getItem_list_neg (Q:=λr s'=>r=w/\EP X pins σ Q r s') pl.isList (by lia) (by rw[QA]<;>lia) (by lia) (by rw[hj];simpa using ew) ⟨rfl,fin⟩) hs
def eY:dN X (n8 X.K):=by
 intro value slice pins s σ H x y v u Q I rx ry h hs;obtain⟨p,xs,i,z,rfl,rfl,hq,he,q⟩:=h;cases rx;obtain⟨t,rfl⟩:=ry;obtain⟨its,r,pl,hz⟩:=I.tuple hq;obtain⟨j,h1,h2,h3,h4,h5⟩:=gC he;obtain⟨w,ew,rw'⟩:=r.get h2;have hl:=r.length;have hn:=gy;have fin:EP X pins σ Q w s:=⟨z,H,I,rw',q⟩;exact KR (x:=w) pl.typeIs slot_tuple_getitem.lookup
  (getItem_tuple (j:=j) (Q:=λr s'=>r=w/\EP X pins σ Q r s') pl (by lia) (by lia) (by rw[QA,<-hl];exact h1) (by simpa using ew) ⟨rfl,fin⟩) hs
def Bk:dN X nZ:=by
 intro value slice pins s σ H x y v u Q I rx ry h hs;obtain⟨z,i,c,rfl,rfl,hz,he,q⟩:=h;obtain⟨t,rfl⟩:=rx;obtain⟨t',rfl⟩:=ry;obtain⟨j,h1,h2,h3,h4,h5⟩:=gC he;have hl:z.cps.toList.length=z.length:=by simp[Str.length]
 rw[hl]at h1 h4 h5;have hn:=gy;exact tail_any (typeIs_str s z t) slot_str_getitem.lookup (getItem_str (c:=c) (by
  have e1:decide (i < -(2^63:Int))=false:=Mj (by lia);have e2:decide (i ≥ 2^63)=false:=Mj (by lia);rw[e1,e2,Bool.or_false]) (by rw[h1];simpa using h2) ⟨.str ⟨#[c]⟩,H,I.tok _,⟨_,rfl⟩,q⟩) hs
def tK(K:Qb):R2:=λx y H Q=>n9 K x y H Q\/n8 K x y H Q\/nZ x y H Q
def Bj:dN X (tK X.K):=dW.or (eY.or Bk)
def gE(lo hi:Option Int)(n:Nat):(KS lo hi none n).1=((HT.aS n 0 lo:Nat):Int)/\(KS lo hi none n).2.1=((HT.aS n n hi:Nat):Int)/\(KS lo hi none n).2.2=1:=by
 refine⟨?_,?_,rfl⟩
 .cases lo with
  |none=>simp[KS,HT.aS]
  |some i=>
   simp only[KS,HT.aS,Option.getD_none,show(1:Int) > 0 by decide,if_true];by_cases h:i<0
   .simp only[h,if_true]<;>lia
   .simp only[h,if_false]<;>lia
 .cases hi with
  |none=>simp[KS,HT.aS]
  |some i=>
   simp only[KS,HT.aS,Option.getD_none,show(1:Int) > 0 by decide,if_true];by_cases h:i<0
   .simp only[h,if_true]<;>lia
   .simp only[h,if_false]<;>lia
def jI(its:List Value)(lo hi:Option Int):slicePick its.toArray lo hi none=((its.drop (HT.aS its.length 0 lo)).take (HT.aS its.length its.length hi-HT.aS its.length 0 lo)).toArray:=by
 obtain⟨h1,h2,h3⟩:=gE lo hi its.toArray.size;unfold slicePick;rw[h1,h2,h3];simp only[sliceRange_one,pick_run,QA]<;>rfl
def iY(K:Qb):V->Option Int->Option Int->Hp->VK->Prop:=λx lo hi H Q=>∃a xs,x=.ref a/\bE K H a xs/\∀p,H p=none->Q (.ref p) (aI H p (.lst (jH xs lo hi)))
def dS:ff X (iY X.K):=by
 intro pins s σ H x v vl vu lo hi sl Q I rx hs pl pu h;obtain⟨a,xs,rfl,hx,q⟩:=h;cases rx;obtain⟨its,r,ht,hz⟩:=I.list hx;have hlen:=r.length;refine⟨"list",_,slot_list_getitem.lookup,ht.isList.typeIs,?_⟩;refine wpAny_getItem_list_slice ht.isList hs pl pu .none (by simp) ?_ (by rw[QA]<;>lia);rw[jI,<-hlen];refine⟨.ref s.heap.objs.size,_,I.laid (t':=s.toks) (o:=.lst (jH xs lo hi)) (λb ob q=>Qc _ q) (Qh _) ?_,rfl,q _ (I.hok.fresh (Qh _))⟩;exact⟨Qr (ki xs lo hi) hz,_,0,(r.drop (HT.aS xs.length 0 lo)).take (HT.aS xs.length xs.length hi-HT.aS xs.length 0 lo),Qe _ rfl⟩
def gF:bx X (.builtin "len") (λxs H Q=>∃p ys,xs=[.ref p]/\(bE X.K H p ys\/bI X.K H p ys)/\Q (.int ys.length) H):=by
 intro pins s σ H xs us Q I r h;obtain⟨p,ys,rfl,hq,q⟩:=h;obtain⟨u,rfl,rx⟩:=xH r;cases rx;have hn:=gy;rcases hq with hq|hq
 .obtain ⟨its,r',pl,hz⟩:=I.list hq;have hlen:=r'.length;exact Calls.call_len_list pl.isList (by simp only[QA]<;>lia) ⟨.int ys.length,H,I.tok _,⟨s.toks+1,by rw[QA,hlen]⟩,q⟩
 .obtain ⟨its,r',pl,hz⟩:=I.tuple hq;have hlen:=r'.length;exact len_tuple pl (by simp only[QA]<;>lia) ⟨.int ys.length,H,I.tok _,⟨s.toks+1,by rw[QA,hlen]⟩,q⟩
def gG:bx X (.type "list") (λxs H Q=>∃p ys,xs=[.ref p]/\(bE X.K H p ys\/bI X.K H p ys)/\∀l,H l=none->Q (.ref l) (aI H l (.lst ys))):=by
 intro pins s σ H xs us Q I r h;obtain⟨p,ys,rfl,hq,q⟩:=h;obtain⟨u,rfl,rx⟩:=xH r;cases rx;have fin:∀(its:List Value),av ys its->ys.length<=sizeLine->∀(h':JP) (c':Nat),(∀b o',s.heap.get? b=some o'->h'.get? b=some o') ->
   h'.get? s.heap.objs.size=some {cls:=.type "list",dict:=none,data:=.seq its.toArray c',slots:=#[]}->EP X pins σ Q (.ref s.heap.objs.size) {s with heap:=h' }:=λits r' hz h' c' kp e=>
  ⟨.ref s.heap.objs.size,_,I.laid (t':=s.toks) kp (Qh _) (show bp X.prog X.w _ h' _ (.lst ys)from⟨hz,its,c',r',e⟩),rfl,q _ (I.hok.fresh (Qh _))⟩
 rcases hq with hq|hq
 .obtain ⟨its,r',pl,hz⟩:=I.list hq;have hlen:=r'.length;obtain⟨o,ho,hc,n,hd⟩:=pl.isList;exact call_list_seq p (.inl rfl) ho hc hd (λh' c' kp e=>fin its r' hz h' c' kp e) (by simp only[QA]<;>lia)
 .obtain ⟨its,r',pl,hz⟩:=I.tuple hq;have hlen:=r'.length;obtain⟨o,ho,hc,n,hd⟩:=pl;exact call_list_seq p (.inr rfl) ho hc hd (λh' c' kp e=>fin its r' hz h' c' kp e) (by simp only[QA]<;>lia)
def jJ:bx X (.type "tuple") (λxs H Q=>∃p ys,xs=[.ref p]/\((bE X.K H p ys/\∀l,H l=none->Q (.ref l) (aI H l (.tup ys)))\/(bI X.K H p ys/\Q (.ref p) H))):=by
 intro pins s σ H xs us Q I r h;obtain⟨p,ys,rfl,h⟩:=h;obtain⟨u,rfl,rx⟩:=xH r;cases rx;rcases h with⟨hq,q⟩|⟨hq,q⟩
 .obtain ⟨its,r',pl,hz⟩:=I.list hq;have hlen:=r'.length;refine call_tuple_list pl.isList (λh' kp=>?_) (by simp only[QA]<;>lia);have I1:Inv X pins σ H {s with heap:=h' }:=I.kept (t':=s.toks) kp;have I2:Inv X pins σ (aI H h'.objs.size (.tup ys)) {s with heap:=h'.push {cls:=.type "tuple",data:=.seq its.toArray} } :=
   I1.laid (t':=s.toks) (λb o e=>Qc _ e) (Qh _) (show bp X.prog X.w _ _ _ (.tup ys)from⟨hz,its,r',IsTup.new _ _⟩)
  exact⟨.ref h'.objs.size,_,I2,rfl,q _ (I1.hok.fresh (Qh _))⟩
 .obtain ⟨its,r',pl,hz⟩:=I.tuple hq;exact call_tuple_same pl ⟨.ref p,H,I,rfl,q⟩
def lK(K:Qb)(T:String)(x:V)(H:Hp):Prop:=match x with
 |.str _=>T="str"
 |.int _=>T="int"
 |.ref p=>(T="list" /\ ∃xs,bE K H p xs)\/(T="tuple" /\ ∃o,K.lookup p=some o/\o.cls=.type "tuple" /\ o.dict=none) \/
   (T="dict" /\ ((∃kvs,H p=some (.dK kvs))\/∃kvs,H p=some (.dT kvs)))\/(T="set" /\ ∃S n,H p=some (.set S n))
 |_=>False
def B8 (I:Inv X pins σ H s)(r:RelV x v)(ty:lK X.K T x H):
  s.TypeIs v T/\∀a,v=.ref a->∃ob,s.heap.get? a=some ob/\ob.dict=none:=by
 cases x with
 |str z=>
  obtain⟨t,rfl⟩:=r;cases(show T="str" from ty);exact⟨typeIs_str s z t,λ_ e=>nomatch e⟩
 |int i=>
  obtain⟨t,rfl⟩:=r;cases(show T="int" from ty);exact⟨typeIs_int s i t,λ_ e=>nomatch e⟩
 |ref p=>
  cases r;rcases ty with⟨rfl,xs,hq⟩|⟨rfl,o,hk,hc,hd⟩|⟨rfl,hk⟩|⟨rfl,S,n,hk⟩
  .obtain ⟨its,_,pl,_⟩:=I.list hq;refine⟨pl.isList.typeIs,λa e=>?_⟩;cases e;obtain⟨o,n,e,c,hd,_⟩:=pl;exact⟨o,e,hd⟩
  .refine ⟨⟨o,I.kIn p o hk,hc⟩,λa e=>?_⟩;cases e;exact⟨o,I.kIn _ o hk,hd⟩
  .have z:∃o,s.heap.get? p=some o/\o.ExactDict:=by
    rcases hk with⟨kvs,hk⟩|⟨kvs,hk⟩
    .obtain ⟨_,_,_,_,o,_,_,e,ex,_⟩:=I.hok p _ hk;exact⟨o,e,ex⟩
    .obtain ⟨_,_,_,_,o,_,_,e,ex,_⟩:=I.hok p _ hk;exact⟨o,e,ex⟩
   obtain⟨o,e,ex⟩:=z;refine⟨⟨o,e,ex.1⟩,λa e2=>?_⟩;cases e2;exact⟨o,e,ex.2.1⟩
  .obtain ⟨o,_,_,_,e,ex,_⟩:=I.hok p _ hk;refine⟨⟨o,e,ex.1⟩,λa e2=>?_⟩;cases e2;exact⟨o,e,ex.2.1⟩
 |_=>exact False.elim ty
def GA(K:Qb)(T:String)(r:V->List V->Hp->VK->Prop)(to:TE)(t:TA):TE:=λσ H Q=>to σ H λx H1=>lK K T x H1/\t σ H1 λxs H2=>r x xs H2 Q
variable{o e:Expr}{es:List Expr}{to:TE}{t:TA}{name:Str}{apos cpos:Pos}{T id:String}{r:V->List V->Hp->VK->Prop}
def Ai(pa:PlainAttrs T)(slot:Slot T name id)(hty:typeOf (.builtin id)=pure (.type "method_descriptor"))(hm:fh X id r)(ho:PE X o to)(ha:PA X (e::es) t)
  (hbase:KT o name X.env (eval o X.env)=eval o X.env:=by rfl)
  (hfew:((J0 cpos (J1 (e::es) X.env)).all (λx=>! x.1)&&(KU cpos (KW [] X.env)).all (λx=>x.1.isSome)
   && decide ((e::es).length+([]:List KY).length+(if([]:List KY).isEmpty then 0 else 1)<30))=true:=by rfl)
  (hline:(apos.endLine==cpos.line)=true:=by rfl) (hs:J1 (e::es) X.env=(false,eval e X.env)::J1 es X.env:=by rfl) (hplain:(J0 cpos (J1 es X.env)).any (·.1)=false:=by rfl) :
  PE X (.Call (.Attribute o name apos) (e::es) [] cpos) (GA X.K T r to t):=by
 intro pins s σ H Q I h;refine KZ hbase hfew hline rfl (ba (ho pins s σ H _ I h) λv s1 ⟨x,H1,I1,r1,ty,q1⟩=>?_);obtain⟨h1,h2⟩:=B8 I1 r1 ty;refine⟨T,id,pa,slot,hty,h1,h2,?_⟩;have hA:=ha cpos pins s1 σ H1 _ I1 q1;rw[hs]at hA ⊢;refine Calls.callWith_builtin (by show(false || (J0 cpos (J1 es X.env)).any (·.1))=false;rw[hplain]<;>rfl) (Calls.evalArgs_plain ?_);exact ba hA λus s2 ⟨vs,H2,I2,r2,q2⟩=>hm pins s2 σ H2 x vs v us Q I2 r1 r2 q2
end
def nw(X:Cx)(id:String)(r:V->List V->Hp->VK->Prop):Prop:=
 ∀(pins:List (Addr×Obj)) (s:Shared) (σ:St) (H:Hp) (x:V) (xs:List V) (v:Value) (us:List Value) (Q:VK),Inv X pins σ H s->RelV x v->av xs us->r x xs H Q ->
  JY (JZ X.prog X.w) X.A (call (.builtin id) (v::us)) (EP X pins σ Q) X.xe s
def av.one:∀{x:V}{us:List Value},av [x] us->∃u,us=[u]/\RelV x u
 |_,_,.cons r .nil=>⟨_,rfl,r⟩
def av.zero:∀{us:List Value},av [] us->us=[]
 |_,.nil=>rfl
theorem av.dropLast{xs:List V}{us:List Value}(h:av xs us):av xs.dropLast us.dropLast:=by
 induction h with
 |nil=>exact .nil
 |cons r t ih=>
  cases t with
  |nil=>exact .nil
  |cons q t'=>exact .cons r ih
theorem av.eraseIdx:∀{xs:List V}{us:List Value}(i:Nat),av xs us->av (xs.eraseIdx i) (us.eraseIdx i)
 |_,_,_,.nil=>.nil
 |_,_,0,.cons _ t=>t
 |_,_,i+1,.cons r t=>.cons r (av.eraseIdx i t)
theorem av.reverse{xs:List V}{us:List Value}(h:av xs us):av xs.reverse us.reverse:=by
 induction h with
 |nil=>exact .nil
 |cons r t ih=>rw[Wr,Wr];exact av.append ih (.cons r .nil)
theorem av.rep (h:av xs us):∀k:Nat,av (Qg k xs).flatten (Qg k us).flatten
 |0=>.nil
 |k+1=>by
  rw[Wg,Wg,Q2,Q2];exact av.append h (av.rep h k)
def Gq{α:Type}(l:List α):l.eraseIdx (l.length-1)=l.dropLast:=by
 induction l with
 |nil=>rfl
 |cons a r ih=>
  cases r with
  |nil=>rfl
  |cons b r=>
   have e:(a::b::r).length-1=((b::r).length-1)+1:=by
    have h1:(a::b::r).length=r.length+2:=rfl;have h2:(b::r).length=r.length+1:=rfl;lia
   rw[e,List.eraseIdx_cons_succ,ih]
   all_goals rfl
theorem jS(its:List Value):∀(k:Nat) (acc:List Value),
  List.foldl (λx1 x2=>x1++x2) acc.toArray (Qg k its.toArray)=(acc++(Qg k its).flatten).toArray
 |0,acc=>by simp
 |k+1,acc=>by
  have e:acc.toArray++its.toArray=(acc++its).toArray:=by simp
  have e2:(acc++its)++(Qg k its).flatten=acc++(Qg (k+1) its).flatten:=by
   rw[Wg,Q2,Qj]
  rw[<-e2,<-jS its k (acc++its),<-e,Wg,List.foldl_cons]
section
variable{X:Cx}{pins:List (Addr×Obj)}{σ:St}{H:Hp}{s:Shared}{l:Addr}{xs ys:List V}
def Inv.lset{its its':List Value}{n:Nat}{f:Array Value->Array Value}{t':Nat}(I:Inv X pins σ H s)(hH:H l=some (.lst xs))
  (e:s.heap.get? l=some {cls:=.type "list",data:=.seq its.toArray n}) (hf:f its.toArray=its'.toArray) (hv:av ys its') (hz:ys.length<=sizeLine) :
  Inv X pins σ (aI H l (.lst ys)) {s with heap:=s.heap.update l (Obj.mapSeq f),toks:=t' }:=by
 have q:=PySem.IsL.update e f;rw[hf]at q;refine I.write (x:=l) (e:=l) (by rw[hH];exact trivial) (.inl rfl) (λb' u hb hu=>(Heap.get?_update_other s.heap (Obj.mapSeq f) (Ne.symm hb)).trans hu) ⟨_,q⟩ ?_;exact⟨hz,its',_,hv,q⟩
def Inv.lnew{its:List Value}{t':Nat}(I:Inv X pins σ H s)(hv:av ys its)(hz:ys.length<=sizeLine):
  Inv X pins σ (aI H s.heap.objs.size (.lst ys)) {s with heap:=s.heap.push {cls:=.type "list",data:=.seq its.toArray},toks:=t' } :=
 I.laid (λ_ _ q=>Qc _ q) (Qh _) ⟨hz,its,0,hv,Qe _ rfl⟩
theorem Inv.fresh(I:Inv X pins σ H s):H s.heap.objs.size=none:=I.hok.fresh (Qh _)
def Inv.lstM(I:Inv X pins σ H s)(hH:H l=some (.lst xs)):xs.length<=sizeLine/\∃(its:List Value) (n:Nat),av xs its/\xs.length=its.length/\s.heap.get? l=some {cls:=.type "list",data:=.seq its.toArray n}:=by
 obtain⟨z,its,n,r,e⟩:=I.hok l _ hH;exact⟨z,its,n,r,r.length,e⟩
def EO (h:n<=sizeLine):Builtin.List.listTooLong n=false:=by
 unfold Builtin.List.listTooLong;exact Mj (by lia)
end
section
variable{X:Cx}
def Dh:V->List V->Hp->VK->Prop:=λx vs H Q=>∃l xs y,x=.ref l/\vs=[y]/\H l=some (.lst xs)/\xs.length<sizeLine/\Q .non (aI H l (.lst (xs++[y])))
def jT:nw X "list.append" Dh:=by
 intro pins s σ H x vs v us Q I rx rv h;obtain⟨l,xs,y,rfl,rfl,hH,hz,q⟩:=h;cases rx;obtain⟨u,rfl,ru⟩:=rv.one;obtain⟨z,its,n,r,hl,e⟩:=I.lstM hH;refine K0 F.slot_list_append ⟨_,e,rfl⟩ F.entry_list_append (F.args_list_append_2 _ _) (PySem.list_append l its.toArray n u (by rw[QA];lia)) ⟨e,?_⟩;refine⟨.non,_,I.lset (its':=its++[u]) hH e (by simp) (r.append (.cons ru .nil)) ?_,rfl,q⟩;rw[QF,List.length_singleton];lia
def lX:V->List V->Hp->VK->Prop:=λx vs H Q=>∃l xs y,x=.ref l/\vs=[]/\H l=some (.lst xs)/\xs[xs.length-1]?=some y/\Q y (aI H l (.lst xs.dropLast))
def B7:nw X "list.pop" lX:=by
 intro pins s σ H x vs v us Q I rx rv h;obtain⟨l,xs,y,rfl,rfl,hH,hy,q⟩:=h;cases rx;have hus:=rv.zero;subst hus;obtain⟨z,its,n,r,hl,e⟩:=I.lstM hH;obtain⟨u,hu,ru⟩:=r.get hy;have hy':its.toArray[its.toArray.size-1]?=some u:=by
  show its.toArray[its.length-1]?=some u;rw[<-QB,<-hl];exact hu
 refine K0 F.slot_list_pop ⟨_,e,rfl⟩ F.entry_list_pop (F.args_list_pop_1 _) (MeetsSeq.list_pop_last l its.toArray n u hy' (by rw[QA];lia)) ⟨e,?_⟩;refine⟨y,_,I.lset (its':=its.dropLast) hH e ?_ r.dropLast ?_,ru,q⟩
 .show its.toArray.eraseIdxIfInBounds (its.toArray.size-1)=its.dropLast.toArray;rw[QA,List.eraseIdxIfInBounds_toArray,Gq]
 .rw[List.length_dropLast];lia
def EN:V->List V->Hp->VK->Prop:=λx vs H Q=>∃l xs,x=.ref l/\vs=[]/\H l=some (.lst xs)/\Q .non (aI H l (.lst xs.reverse))
def Gp:nw X "list.reverse" EN:=by
 intro pins s σ H x vs v us Q I rx rv h;obtain⟨l,xs,rfl,rfl,hH,q⟩:=h;cases rx;have hus:=rv.zero;subst hus;obtain⟨z,its,n,r,hl,e⟩:=I.lstM hH;refine K0 F.slot_list_reverse ⟨_,e,rfl⟩ F.entry_list_reverse (F.args_list_reverse_1 _) (AutoSeq1.list_reverse_list_0 l its.toArray n (by rw[QA];lia)) ⟨e,?_⟩;refine⟨.non,_,I.lset (its':=its.reverse) hH e (by simp) r.reverse ?_,rfl,q⟩;rw[List.length_reverse];lia
def nY:R2:=λx y H Q=>∃l b xs zs,x=.ref l/\y=.ref b/\H l=some (.lst xs)/\H b=some (.lst zs)/\xs.length+zs.length<=sizeLine/\∀p,H p=none->Q (.ref p) (aI H p (.lst (xs++zs)))
def eW:bY X (Ko .Add) nY:=by
 intro pins s σ H x y v u Q I rx ry h;obtain⟨l,b,xs,zs,rfl,rfl,hH,hB,hz,q⟩:=h;cases rx;cases ry;obtain⟨z,its,n,r,hl,e⟩:=I.lstM hH;obtain⟨z2,its2,n2,r2,hl2,e2⟩:=I.lstM hB;refine PySem.P.add_list e e2 ?_ (by rw[QA,QA];lia);have ea:its.toArray++its2.toArray=(its++its2).toArray:=by simp
 rw[ea];exact⟨.ref _,_,I.lnew (t':=s.toks) (r.append r2) (by rw[QF];lia),rfl,q _ I.fresh⟩
def nX:R2:=λx y H Q=>∃l k xs,x=.ref l/\y=.int k/\H l=some (.lst xs)/\-(2^63)<=k/\k<2^63/\xs.length*k.toNat<=sizeLine /\
 ∀p,H p=none->Q (.ref p) (aI H p (.lst (Qg k.toNat xs).flatten))
def rZ{α:Type}(xs:List α)(k:Nat):(Qg k xs).flatten.length=k*xs.length:=by
 induction k with
 |zero=>simp
 |succ k ih=>rw[Wg,Q2,QF,ih,VH,Nat.add_comm]
def B6:bY X (Ko .Mult) nX:=by
 intro pins s σ H x y v u Q I rx ry h;obtain⟨l,k,xs,rfl,rfl,hH,h1,h2,hz,q⟩:=h;cases rx;obtain⟨t,rfl⟩:=ry;obtain⟨z,its,n,r,hl,e⟩:=I.lstM hH;have hlen:its.toArray.size*k.toNat<=sizeLine:=by rw[QA,<-hl];exact hz
 have hcap:¬its.toArray.size*k.toNat > (2^63-1)/8:=by
  have:(sizeLine:Nat)<=(2^63-1)/8:=by decide
  lia
 have hfit:¬(! Builtin.List.listFitsIndex k)=true:=by
  rw[fitsIndex_both h1 h2];exact Qz
 have hlong:¬Builtin.List.listTooLong (its.toArray.size*k.toNat)=true:=by
  rw[EO hlen];exact Qz
 have hnew:List.foldl (λx1 x2=>x1++x2) #[] (Qg (if its.toArray.isEmpty=true then 0 else k.toNat) its.toArray)=(Qg k.toNat its).flatten.toArray:=by
  have f0:∀m:Nat,List.foldl (λx1 x2=>x1++x2) #[] (Qg m its.toArray)=(Qg m its).flatten.toArray:=λm=>by
   have:=jS its m [];rw[Ws]at this;exact this
  rw[f0];cases its with
  |nil=>simp
  |cons a r'=>rw[Ml (by simp)]
 refine wpAny_binaryOp_repeat_ref (T:="list") (U:="int") (by decide) ⟨_,e,rfl⟩ (λs'=>typeIs_int s' k t) noFill_list_mul F.fills_int_mul F.slot_int_rmul repeat_list F.slot_int_index.lookup
  (K0 F.slot_int_rmul (typeIs_int s k t) F.entry_int_rmul (F.args_int_rmul_2 _ _) (int___rmul___int_list k t l its.toArray n)
   ⟨e,rfl,⟨_,e,rfl⟩,K0 F.slot_list_mul ⟨_,e,rfl⟩ F.entry_list_mul (F.args_list_mul_2 _ _) (AutoListH.list___mul___list_int_3 l its.toArray n k t hfit hcap hlong) ⟨e,?_⟩⟩)
 rw[hnew];exact⟨.ref _,_,I.lnew (t':=s.toks) (r.rep k.toNat) (by rw[rZ,Nat.mul_comm];exact hz),rfl,q _ I.fresh⟩
end
end L2
namespace Att
open PySem PySem.W PySem.Calls PyProof.Rows
def ky:∀(ns:List Int) (vs:List Value),WellAll P h vs (ns.map WData.int)->K7 vs ns:=by
 intro ns
 induction ns with
 |nil=>
  intro vs w;rw[List.map_nil]at w;cases w;exact .nil
 |cons n ns ih=>
  intro vs w;rw[QM]at w;cases w with
  |cons a b=>
   cases a;exact .cons _ _ (ih _ b)
def Fp {l:OpenLaw}(hn:l.most=some n)(hpre:l.row.toRowW.claim.pre args=true)(hwl:WellAll P h vals args):
  ∃a vs ns,vals=[Value.ref a]/\args=[WData.list (ns.map WData.int)]/\h.get? a=some {cls:=.type "list",data:=.seq vs.toArray}/\K7 vs ns/\ns.length<=n:=by
 have hsh:WShape.hasAll [] args [.list .int]=true:=(pre_splitW hpre).1;have hc:l.pre.holds [] {args:=args}=true:=(pre_splitW hpre).2;obtain⟨d,r,rfl,h1,h2⟩:=hasAllW_cons hsh;obtain rfl:=hasAllW_nil h2;obtain⟨xs,rfl,h3⟩:=hasW_list h1;obtain⟨ns,rfl⟩:=items_int h3;have hlen:ns.length<=n:=by
  unfold OpenLaw.pre at hc;have h4:(WTm.not (.lt (.lit (.int (n:Int))) (.len (.arg 0)))).holds [] {args:=[.list (ns.map .int)]}=true:=by
   have h4:=(holds_andW hc).1;rw[hn]at h4;exact h4
  have h5:=condW_of h4 (w_not (w_lt w_lit (w_len_list (w_arg rfl))));rw[Qo]at h5;refine Nat.le_of_not_lt λq=>?_;have q':(n:Int)<((ns.length:Nat):Int):=by lia
  first
   |(rw[Mo q']at h5;exact Mm h5 (by decide))
   |(simp at h5;lia)
 cases hwl with
 |cons w1 w2=>
  cases w2;cases w1 with
  |list ho hall=>exact⟨_,_,ns,rfl,rfl,ho,ky ns _ hall,hlen⟩
def Fo(l:OpenLaw)(args:List WData):l.row.toRowW.claim.post args (.bool true) args=true:=
 postW_of (r:=l.row.toRowW) (X:=(true==true))
  (show WShape.has [] (.bool true) .bool=true by first|rfl|decide|simp[WShape.has,WShape.arms,WShape.armsAll])
  (show(WTm.eq .res (.lit (.bool true))).value [] {args:=args,res:=some (.bool true),after:=args}=some (.bool (true==true))from w_eq_bool (w_res rfl) w_lit) rfl
def cW {l:OpenLaw}(hn:l.most=some n)(hdf:d.params.defaults=[])(call:∀(w:JN) (s₀ s₁:Shared) (mg mb:Str->Option Value) (fa:Addr) (o:Obj) (pm cd doc:Value) (a:Addr) (vs:List Value) (ns:List Int),
   Ground q loose [] XP w s₀ mg mb s₁.heap->YP w s₁.heap ->
   s₁.heap.get? fa=some o->o.data=.func (docDef d.name d.params d.body d.scope pm cd doc)->s₁.heap.CodeRec cd d.name->mg d.name=some (.ref fa) ->
   s₁.heap.get? a=some {cls:=.type "list",data:=.seq vs.toArray}->K7 vs ns->ns.length<=n->s₁.gens=#[] ->
   Kw (JZ l.prog w) K8 (.call (.ref fa) ⟨[.ref a],[]⟩) (λr s'=>r=.ok (.ret (.bool true))/\OldK s₁.heap s'.heap/\s'.os=s₁.os/\JX s'.gens) s₁):
  WalkO q loose XP YP l.row.toRowW d [] (λf vs=>PySem.call f vs):=by
 intro w s₀ s₁ mg mb G Y fa o pm cd doc dV kV ho hd hcd hD hmg hg args vals as hpre hlay hrd hwl hlo;obtain rfl:dV=.none:=Dflts.none hD hdf;obtain rfl:kV=.none:=Dflts.noKw hD;obtain⟨a,vs,ns,rfl,rfl,hobj,hints,hlen⟩:=Fp hn hpre hwl;refine enter_call (Kx (call w s₀ s₁ mg mb fa o pm cd doc a vs ns G Y ho (fd_plain hd) hcd hmg hobj hints hlen hg) λr s' hq=>?_);obtain⟨rfl,h2,h3,h4⟩:=hq;exact⟨.inl ⟨.bool true,.bool true,[],rfl,λ_=>rfl,.bool true,Fo l _,λ_=>⟨List.Pairwise.nil,λ_ hm=>(nomatch hm)⟩⟩,h2,h3,h4⟩
end Att
namespace L2
open PySem PySem.Spec PyProof.Rows
theorem jU:∀{vs:List Value}{ns:List Int},K7 vs ns->av (ns.map V.int) vs
 |_,_,.nil=>.nil
 |_,_,.cons n t h=>.cons ⟨t,rfl⟩ (jU h)
def ip(H:Hp):Prop:=∀b,H b=none\/∃o xs,H b=some (.frz o (.lst xs))
def EM {K:Qb}(KX:K.In s₁.heap)(hns:s₁.heap.Ns JU mg)(hb:s₁.heap.Ns builtinsNs mb)(hbb:∀x:Str,x ≠ "__name__" -> mb x=JV x)(hlim:s₁.heap.NoLimit)(hg:s₁.gens=#[])(ha:s₁.heap.get? a=some {cls:=.type "list",data:=.seq vs.toArray})(hi:K7 vs ns)(hl:ns.length<=sizeLine)(hr:cb k K8)(F:∀base:JP,K.In base->base.Ns JU mg->cL P w K mg base CX k fa fd [x] sp)(hbind:∀(s:Shared) (u:Value),BindsTo s fd ⟨[u],[]⟩ [(x,u)])(hsp:∀H:Hp,ip H->bE K H a (ns.map V.int)->sp [.ref a] H (λv _=>v=.bl true) λ_ _ _=>False)(hCX:∀H e s',CX [] H s₁ (λ_ _ _=>False) e s'->False):
  Kw (JZ P w) K8 (.call (.ref fa) ⟨[.ref a],[]⟩) (λr s'=>r=.ok (.ret (.bool true))/\OldK s₁.heap s'.heap/\s'.os=s₁.os/\JX s'.gens) s₁:=by
 have rv:=jU hi;have lenV:=hi.length
 -- from an abstract heap in which nothing but the script may be tracked
 have core:∀H:Hp,ip H->bE K H a (ns.map V.int)->cz P w H s₁.heap->(∀b,H b≠none->b=a)->(H a≠none->K.lookup a=none) ->
   Kw (JZ P w) K8 (.call (.ref fa) ⟨[.ref a],[]⟩) (λr s'=>r=.ok (.ret (.bool true))/\OldK s₁.heap s'.heap/\s'.os=s₁.os/\JX s'.gens) s₁:=by
  intro H hO hS hok hA hK;have bU:∀{b:Addr}{o:Obj},s₁.heap.get? b=some o->H b=none->(gu s₁.heap H).get? b=some o:=λe n=>FW e n;have noA:∀{b:Addr}{o:Obj}{es:Array DictEntry}{ep:Nat},s₁.heap.get? b=some o->o.data=.dict es ep->H b=none:=λ{b o es ep} e d=>by
   cases q:H b with
   |none=>rfl
   |some u=>
    have e':b=a:=hA b (by rw[q];simp);subst e';rw[ha]at e;cases e;have d':Data.seq vs.toArray _=Data.dict es ep:=d;cases d'
  have nsK:∀{b:Addr}{m:Str->Option Value},s₁.heap.Ns b m->(gu s₁.heap H).Ns b m:=λ{b m} ⟨o,es,ep,e,d,r⟩=>⟨o,es,ep,bU e (noA e d),d,r⟩;have hKb:K.In (gu s₁.heap H):=λb o e=>bU (KX b o e) (by
   cases q:H b with
   |none=>rfl
   |some u=>
    have e':b=a:=hA b (by rw[q];simp);subst e';rw[hK (by rw[q];simp)]at e;cases e)
  have hM:Mod K mg (gu s₁.heap H):=⟨hKb,nsK hns,⟨mb,nsK hb,hbb⟩,let⟨mc,h1,h2⟩:=hlim;⟨mc,nsK h1,h2⟩⟩;have e0:ei P w K mg (gu s₁.heap H) K8 [] s₁ H:=⟨rfl,hM,λb o e=>Ej e,VI (Fy _ _),trivial,λb hb=>Mm (show b∈([]:List Addr)from hb) (by simp),hok,.of_eq hg⟩;refine Kx ((F _ hKb (nsK hns)).run K8 [] s₁ H ⟨[.ref a],[]⟩ [.ref a] [.ref a] _ _ hr e0 (hbind s₁ (.ref a)) (.cons rfl .nil) (hsp H hO hS)) λr s' h=>?_;cases r with
  |error e=>exact(hCX H e s' h).elim
  |ok fl=>
   cases fl with
   |next=>exact False.elim h
   |brk=>exact False.elim h
   |cont=>exact False.elim h
   |ret u=>
    obtain⟨v,H',os,bare,un,hok',r',q⟩:=h;have q':v=.bl true:=q;subst q';obtain rfl:u=Value.bool true:=r';refine⟨rfl,OldK.of_keep λb o e=>?_,os,bare⟩;cases q:H b with
    |none=>exact un.keep b o e q (by intro z;exact Mm (show b∈([]:List Addr)from z) (by simp)) (by simp)
    |some u=>
     rcases hO b with z|⟨ob,xs,z⟩
     .rw[q]at z;cases z
     .have z2:=un.frzs b ob _ z;obtain⟨e1,_⟩:=hok b _ z;obtain⟨e2,_⟩:=hok' b _ z2;rw[e]at e1;cases e1;exact e2
 cases hk:K.lookup a with
 |some o=>
  -- the script is one of the module's own objects
  have e:=KX a o hk;rw[ha]at e;cases e;refine core (λ_=>none) (λ_=>.inl rfl) (.inr ⟨_,vs.toArray,_,hk,rfl,rfl,rfl,by rw[QA,lenV];exact hl,by simpa using rv⟩) (λb u z=>by have z':(none:Option HO)=some u:=z;cases z') (λb z=>Mm rfl z) λz=>Mm rfl z
 |none=>
  refine core (λb=>if b=a then some (.frz {cls:=.type "list",data:=.seq vs.toArray} (.lst (ns.map V.int)))else none) (λb=>?_) (.inl (.inr ⟨{cls:=.type "list",data:=.seq vs.toArray},Mk rfl⟩)) (λb u z=>?_) (λb z=>?_) λ_=>hk
  .by_cases hb:b=a
   .exact .inr ⟨_,_,Mk hb⟩
   .exact .inl (Ml hb)
  .by_cases hb:b=a
   .have z':=(Mk hb).symm.trans z;cases z';subst hb;exact⟨ha,by rw[Qo];exact hl,vs,_,rv,ha⟩
   .have z':=(Ml hb).symm.trans z;cases z'
  .by_cases hb:b=a
   .exact hb
   .exact Mm (Ml hb) z
def Dg {l:PySem.W.OpenLaw}{K:JL->Qb}{CX:JN->dP}{sp:JN->Sp}(hn:l.most=some n)(hn2:n<=sizeLine)(hdf:d.params.defaults=[])(hr:cb k K8)(hY:∀(w:JN) (h:JP),YP w h->(K w.params).In h)(F:∀(w:JN) (mg:Str->Option Value) (fa:Addr) (h:JP),(K w.params).In h->h.Ns JU mg->mg d.name=some (.ref fa) ->
   ∃fd:Kv,(∀(s:Shared) (u:Value),BindsTo s fd ⟨[u],[]⟩ [(x,u)]) /\
    ∀base:JP,(K w.params).In base->base.Ns JU mg->cL l.prog w (K w.params) mg base (CX w) k fa fd [x] (sp w))(hsp:∀(w:JN) (H:Hp) (a:Addr) (ns:List Int),ns.length<=n->ip H->bE (K w.params) H a (ns.map V.int)->sp w [.ref a] H (λv _=>v=.bl true) λ_ _ _=>False)(hCX:∀(w:JN) (H:Hp) (s:Shared) (e:Value) (s':Shared),CX w [] H s (λ_ _ _=>False) e s'->False):
  VT q loose XP YP l.row.toRowW d [] (λf vs=>PySem.call f vs):=by
 refine Att.cW hn hdf λw s₀ s₁ mg mb fa o pm cd doc a vs ns G Y ho hd hcd hmg hobj hints hlen hg=>?_;have KX:=hY w _ Y;obtain⟨fd,hb,hF⟩:=F w mg fa _ KX G.T.g hmg;exact EM KX G.T.g G.T.b G.T.builtins G.T.nolimit hg hobj hints (Qr hlen hn2) hr hF hb (λH hO hS=>hsp w H a ns hlen hO hS) λH e s'=>hCX w H s₁ e s'
abbrev dQ:dP:=λ_ _ _ _ _ _=>False
abbrev E0:XK:=λ_ _ _=>False
def Ah:lF dQ X E0:=λ_ _ _ _ _ _ _ h=>h.elim
structure eJ(K:Qb)(x qual:Str)(st:Stmt)(f:Addr)(fd:Kv):Prop where
 ex:∃(oc:Value) (od:Option Addr) (kV doc pm:Value) (an:Option Addr) (cdv ct:Value) (osl:Array (Option Value)),
  fd=WI x qual (xS st) (xg st) (zQ st) .none kV doc pm an cdv ct/\K.lookup f=some ⟨oc,od,.func fd,osl⟩/\Vm K cdv qual=true
 kp:WT K (.ref f)=true
section
variable{P:JM}{w:JN}{K:Qb}{mg:Str->Option Value}{base:JP}
def eJ.ok {st:Stmt}(F:eJ K x qual st f fd)(S:cA N ps (zQ st))(len:∀vs H Q E,sp vs H Q E->vs.length=ps.length)(hbody:∀(cdv:Value) (A:JW) (outer:List Env) (s:Shared) (H:Hp) (vs:List V) (Q:VK) (E:XK),cb k (A.deeper (KC qual (zQ st) s.heap.objs.size f cdv))->sp vs H Q E ->
   ∃t,cC (qB dQ P w K mg base N qual (zQ st) f cdv A outer s H E).nox (xg st) t/\t {nx:=λ_ H'=>Q .non H',rt:=Q} (start N vs) H):cL P w K mg base dQ (k+1) f fd ps sp:=by
 obtain⟨oc,od,kV,doc,pm,an,cdv,ct,osl,rfl,lk,hcd⟩:=F.ex;refine Ba lk hcd S len λA outer s H vs Q E hr hsp=>?_;obtain⟨t,h,q⟩:=hbody cdv A outer s H vs Q E hr hsp;exact⟨t,h.nox,q⟩
def eJ.binds {st:Stmt}(F:eJ K x qual st f fd)(h:∀(kV doc pm:Value) (an:Option Addr) (cdv ct:Value) (us:List Value),us.length=ps.length->bindArgs (WI x qual (xS st) (xg st) (zQ st) .none kV doc pm an cdv ct) ⟨us,[]⟩=pure (ps.zip us)):Binds K fd ps []:=by
 obtain⟨oc,od,kV,doc,pm,an,cdv,ct,osl,rfl,lk,hcd⟩:=F.ex;exact .all (h kV doc pm an cdv ct)
def B5 {st:Stmt}{kV:Value}(l:K.lookup f=some ⟨oc,od,.func (WI x qual (xS st) (xg st) (zQ st) .none kV doc pm an cdv ct),osl⟩)(c:Vm K cdv qual=true)(k:WT K (.ref f)=true):eJ K x qual st f (WI x qual (xS st) (xg st) (zQ st) .none kV doc pm an cdv ct):=⟨⟨oc,od,kV,doc,pm,an,cdv,ct,osl,rfl,l,c⟩,k⟩
end
def fm {B:Prop}(h:B):if false=true then A else B:=by
 rw[Ml Qz];exact h
def fk {B:Prop}(h:A):if true=true then A else B:=by
 rw[Mk rfl];exact h
noncomputable def wX(env:Env):List (Str×Kz)->List (Str×Addr)->List (Str×Addr)
 |[],acc=>acc
 |(n,k)::r,acc=>if k == .free then wX env r ((n,(env.cells.lookup n).getD 0)::acc)else wX env r acc
theorem vp (f:Str×Kz->List (Str×Addr)->Sem (ForInStep (List (Str×Addr))))(hf:∀n k cs,f (n,k) cs=if k == .free then(do let a <-cellOf env n;pure (.yield ((n,a)::cs)))else pure (.yield cs)):
  ∀(names:List (Str×Kz)) (acc:List (Str×Addr)),(∀y∈names,y.2=.free->∃c,env.cells.lookup y.1=some c)->forIn names acc f=pure (wX env names acc)
 |[],acc,_=>by rw[W7];rfl
 |(n,k)::r,acc,h=>by
  have ih:=vp f hf r;rw[Vq,hf];unfold wX;cases hk:k==NameKind.free with
  |true=>
   obtain⟨c,hc⟩:=h (n,k) QW (by simpa using hk);have hc':env.cells.lookup n=some c:=hc;have e1:cellOf env n=pure c:=by unfold cellOf;rw[hc']
   simp only[if_true,e1,hc',Wo,pure_bind];exact ih _ λy hy=>h y (Qk _ hy)
  |false=>
   simp only[QX,if_false,pure_bind];exact ih _ λy hy=>h y (Qk _ hy)
def kN (h:∀y∈scope.names,y.2=.free->∃c,env.cells.lookup y.1=some c):closureFor scope env=pure (wX env scope.names []):=by
 unfold closureFor;simp only[];rw[vp (env:=env) _ (λn k cs=>by cases hk:k==NameKind.free<;>simp[hk]) scope.names [] h];rfl
theorem wC:∀{names:List (Str×Kz)}{acc:List (Str×Addr)},(∀z∈names,z.2=.free->∃c,env.cells.lookup z.1=some c)->(wX env names acc).lookup y=some c ->
  acc.lookup y=some c\/((y,NameKind.free)∈names/\env.cells.lookup y=some c)
 |[],acc,_,e=>.inl e
 |(n,k)::r,acc,h,e=>by
  unfold wX at e;have h':∀z∈r,z.2=.free->∃c,env.cells.lookup z.1=some c:=λz hz=>h z (Qk _ hz);cases hk:k==NameKind.free with
  |true=>
   have hk':k=.free:=by simpa using hk
   subst hk';rw[hk,Mk rfl]at e;rcases wC h' e with q|⟨q1,q2⟩
   .rw[Q0]at q;cases hy:y==n with
    |true=>
     rw[hy]at q;have:y=n:=by simpa using hy
     subst this;obtain⟨c',hc'⟩:=h (y,.free) QW rfl;have hc'':env.cells.lookup y=some c':=hc';rw[hc'']at q;refine .inr ⟨QW,?_⟩;rw[hc''];exact q
    |false=>rw[hy]at q;exact .inl q
   .exact .inr ⟨Qk _ q1,q2⟩
  |false=>
   rw[hk,Ml (by simp)]at e;rcases wC h' e with q|⟨q1,q2⟩
   .exact .inl q
   .exact .inr ⟨Qk _ q1,q2⟩
theorem vR:∀{names:List (Str×Kz)}{acc:List (Str×Addr)},((y,NameKind.free)∈names\/(acc.lookup y).isSome=true)->((wX env names acc).lookup y).isSome=true
 |[],acc,h=>by
  rcases h with h|h
  .cases h
  .exact h
 |(n,k)::r,acc,h=>by
  unfold wX;cases hk:k==NameKind.free with
  |true=>
   rw[Mk rfl];refine vR ?_;rcases h with h|h
   .rcases Qn.mp h with e|e
    .cases e;exact .inr (by rw[Q0];simp)
    .exact .inl e
   .refine .inr ?_;rw[Q0];split
    .rfl
    .exact h
  |false=>
   rw[Ml (by simp)];refine vR ?_;rcases h with h|h
   .rcases Qn.mp h with e|e
    .cases e;cases hk
    .exact .inl e
   .exact .inr h
theorem lp:∀{names:List (Str×Kz)}{h:JP}{acc:List (Str×Addr)},(KD h.objs.size names acc).lookup y=some c ->
  acc.lookup y=some c\/(h.objs.size<=c/\(K9 h names).IsCell c none/\(y,NameKind.cell)∈names)
 |[],h,acc,e=>.inl e
 |(n,k)::r,h,acc,e=>by
  unfold KD at e;cases hk:k==NameKind.cell with
  |true=>
   have hk':k=.cell:=by simpa using hk
   subst hk';rw[hk,Mk rfl]at e;have ih:=lp (y:=y) (c:=c) (names:=r) (h:=h.push {cls:=.type "cell",data:=.cell none}) (acc:=(n,h.objs.size)::acc);rw[WJ]at ih;have hp:K9 h ((n,NameKind.cell)::r)=K9 (h.push {cls:=.type "cell",data:=.cell none}) r:=by
    exact Mk hk
   rcases ih e with q|⟨q1,q2,q3⟩
   .rw[Q0]at q;cases hy:y==n with
    |true=>
     rw[hy]at q;cases q;have hyn:y=n:=by simpa using hy
     subst hyn;refine .inr ⟨Qh _,?_,QW⟩;rw[hp];exact⟨_,La _ _ _ _ (Qe _ rfl),rfl⟩
    |false=>rw[hy]at q;exact .inl q
   .exact .inr ⟨Qr (Vc _) q1,by rw[hp];exact q2,Qk _ q3⟩
  |false=>
   rw[hk,Ml (by simp)]at e;have hp:K9 h ((n,k)::r)=K9 h r:=by
    show(if(k==NameKind.cell)=true then _ else _)=_;rw[hk,Ml (by simp)]
   rcases lp e with q|⟨q1,q2,q3⟩
   .exact .inl q
   .exact .inr ⟨q1,by rw[hp];exact q2,Qk _ q3⟩
theorem ln {lo:Nat}:∀{names:List (Str×Kz)}{n:Nat}{acc:List (Str×Addr)},((y,NameKind.cell)∈names\/∀c,acc.lookup y=some c->lo<=c)->lo<=n->(KD n names acc).lookup y=some c->lo<=c
 |[],n,acc,h,_,e=>by
  rcases h with h|h
  .cases h
  .exact h c e
 |(m,k)::r,n,acc,h,hn,e=>by
  unfold KD at e;cases hk:k==NameKind.cell with
  |true=>
   rw[hk,Mk rfl]at e;refine ln ?_ (Qr hn (Vc _)) e;by_cases hy:y=m
   .subst hy;refine .inr λc hc=>?_;rw[Q0,beq_self_eq_true]at hc;cases hc;exact hn
   .rcases h with h|h
    .rcases Qn.mp h with z|z
     .cases z;exact Mm rfl hy
     .exact .inl z
    .refine .inr λc hc=>?_;rw[Q0]at hc;have:(y==m)=false:=by simpa using hy
     rw[this]at hc;exact h c hc
  |false=>
   rw[hk,Ml (by simp)]at e;refine ln ?_ hn e;rcases h with h|h
   .rcases Qn.mp h with z|z
    .cases z;cases hk
    .exact .inl z
   .exact .inr h
theorem lI:∀{names:List (Str×Kz)}{n:Nat}{acc:List (Str×Addr)},(∀y z c,acc.lookup y=some c->acc.lookup z=some c->y=z)->(∀y c,acc.lookup y=some c->c<n) ->
  ∀y z c,(KD n names acc).lookup y=some c->(KD n names acc).lookup z=some c->y=z
 |[],n,acc,hi,_=>hi
 |(m,k)::r,n,acc,hi,hl=>by
  unfold KD;cases hk:k==NameKind.cell with
  |true=>
   rw[Mk rfl];refine lI (λy z c e1 e2=>?_) λy c e=>?_
   .rw[Q0]at e1 e2;cases hy:y==m<;>cases hz:z==m<;>rw[hy]at e1<;>rw[hz]at e2
    .exact hi y z c e1 e2
    .cases e2;exact Mm (hl y _ e1) (Wa _)
    .cases e1;exact Mm (hl z _ e2) (Wa _)
    .exact (by simpa using hy:y=m).trans (by simpa using hz:z=m).symm
   .rw[Q0]at e;cases hy:y==m<;>rw[hy]at e
    .exact WH (hl y c e)
    .cases e;exact WB _
  |false=>
   rw[Ml (by simp)];exact lI hi hl
def qD (hQ:Q {scope:=scope,locals:=s.heap.objs.size,globals:=globals,cells:=KD (s.heap.objs.size+1) scope.names cl,qual:=qual,func:=none,code:=outer.code,frame:=outer.frame,builtins:=outer.builtins}
   {s with heap:=K9 (s.heap.push {cls:=.type "dict",data:=.dict #[]}) scope.names}):
  JY M A (Lb scope globals cl [] qual none .none (some outer)) Q E s:=by
 simp only[Lb,Option.isSome_some,if_true];refine Kb (wpAny_alloc ?_);refine Kb (wpAny_layCells _ (λname kind cells=>by cases hkc:kind==NameKind.cell<;>simp[hkc]) _ _ _ _ ?_);rw[show({s with heap:=s.heap.push {cls:=.type "dict",data:=.dict #[]} }:Shared).heap.objs.size=s.heap.objs.size+1 from WJ ..];simp only[W7];exact Kb (Ki (Ki hQ))
def zU:(Lc scope env).names.lookup y=(scope.names.lookup y).map λk=>if(k==NameKind.free&&env.scope.kind == .function&&env.kindOf y==some .cell)then NameKind.cell else k:=by
 have all:∀l:List (Str×Kz),(l.map λ(n,k)=>if(k==NameKind.free&&env.scope.kind == .function&&env.kindOf n==some .cell)then(n,NameKind.cell)else(n,k)).lookup y=(l.lookup y).map λk=>if(k==NameKind.free&&env.scope.kind == .function&&env.kindOf y==some .cell)then NameKind.cell else k:=by
  intro l
  induction l with
  |nil=>rfl
  |cons p r ih=>
   obtain⟨n,k⟩:=p;rw[QM,Q0];by_cases hc:(k==NameKind.free&&env.scope.kind == .function&&env.kindOf n==some .cell)=true
   .simp only[hc,if_true,Q0];cases hy:y==n with
    |true=>
     have:y=n:=by simpa using hy
     subst this;simp only[QY,hc,if_true]
    |false=>exact ih
   .simp only[Ml hc,Q0];cases hy:y==n with
    |true=>
     have:y=n:=by simpa using hy
     subst this;simp only[QY,Ml hc]
    |false=>exact ih
 exact all scope.names
def iP(x:Str):Str:=⟨x.cps.push 0⟩
def yR(N xs:List Str):List Str:=(N.map λy=>if y∈xs then iP y else y)++xs
def Fm(N xs:List Str):(yR N xs).length=N.length+xs.length:=by simp[yR]
def wY(N xs:List Str)(j:Nat):(yR N xs)[N.length+j]?=xs[j]?:=by
 unfold yR;rw[Qd (by simp)];simp
def Fl (hi:i<N.length)(h:(yR N xs)[i]?=some y):(∃x∈xs,y=iP x)\/(N[i]?=some y/\y∉xs):=by
 unfold yR at h;rw[Qf (by simpa using hi),Qs]at h;obtain⟨z,hz⟩:∃z,N[i]?=some z:=⟨N[i],by simp[hi]⟩;rw[hz]at h;by_cases e:z∈xs
 .simp only[QY,Mk e]at h;exact .inl ⟨z,e,(Option.some.inj h).symm⟩
 .simp only[QY,Ml e]at h;have e2:z=y:=Option.some.inj h;subst e2;exact .inr ⟨hz,e⟩
structure bH(X:Cx)(scope:JK)(xs:List Str)(Xc:Cx):Prop where
 prog:Xc.prog=X.prog
 w:Xc.w=X.w
 K:Xc.K=X.K
 mg:Xc.mg=X.mg
 base:Xc.base=X.base
 A:Xc.A=X.A
 N:Xc.N=yR X.N xs
 sc:Xc.env.scope=Lc scope X.env
 calm:Xc.calm=true
 stack:Xc.stack=X.stack
def fH(X:Cx)(ifs:List Expr)(t:TT):Prop:=
 ∀(pins:List (Addr×Obj)) (s:Shared) (σ:St) (H:Hp) (Q:Bool->Hp->Prop),Inv X pins σ H s->t σ H Q ->
  JY (JZ X.prog X.w) X.A (forIn ifs true λc r=>if r=true then do let ok <-isTrue c X.env (eval c X.env);pure (ForInStep.yield ok)else pure (ForInStep.yield r)) (TP X pins σ Q) X.xe s
def kD:fH X [] (λ_ H Q=>Q true H):=λ_ _ _ H _ I h=>wpAny_tests_nil ⟨H,I,h⟩
def Df (h:PT X c t):fH X [c] t:=λpins s σ H Q I q=>wpAny_tests_one (h pins s σ H Q I q)
structure bL(X:Cx)(scope:JK)(xs:List Str):Prop where
 kind:scope.kind=.function
 own:∀x∈xs,scope.names.lookup x=some .local\/scope.names.lookup x=some .cell
 locs:∀y∈scope.names,y.2=.local->scope.names.lookup y.1=some .local
 free:∀y∈scope.names,y.2=.free->X.env.scope.names.lookup y.1=some .cell\/X.env.scope.names.lookup y.1=some .free
 alone:∀y∈X.N,y∉xs->scope.names.lookup y≠some .local/\scope.names.lookup y≠some .cell
 one:∀y∈scope.names,y.2=.cell->scope.names.lookup y.1≠some .free
 nd:(yR X.N xs).Nodup
 dumN:∀x∈xs,scope.names.lookup (iP x)=none
def gH{prog:JM}{w:JN}{A:JW}{R:Result->Shared->Prop}{s:Shared}{elt target iter:Expr}{ifs:List Expr}{scope:JK}{pos:Pos}{it acc:Value}{env:Env}(I:Nat->Shared->Prop)
  (turn:∀n s,I n s->JY (JZ prog w) A (Kf it) (λr s₁=>match r with
   |none=>R (.ok .next) s₁
   |some v=>JY (JZ prog w) A (Kg target it v) (λ_ s₁'=>JY (JZ prog w) A (assign target env v) (λ_ s₂=>
     JY (JZ prog w) A (forIn ifs true λc r=>if r=true then do let ok <-isTrue c env (eval c env);pure (ForInStep.yield ok)else pure (ForInStep.yield r)) (λok s₃=>
      if ok=true then JY (JZ prog w) A (eval elt env) (λx s₄=>
       JY (JZ prog w) A (call (.builtin "list.append") [acc,x]) (λ_ s₅=>∃m,m<n/\I m s₅) (Ld (JZ prog w) A env λe s'=>R (.error e) s') s₄) (Ld (JZ prog w) A env λe s'=>R (.error e) s') s₃
      else ∃m,m<n/\I m s₃) (Ld (JZ prog w) A env λe s'=>R (.error e) s') s₂) (Ld (JZ prog w) A env λe s'=>R (.error e) s') s₁') (Ld (JZ prog w) A env λe s'=>R (.error e) s') s₁) (Ld (JZ prog w) A env λe s'=>R (.error e) s') s)
  (n:Nat) (h:I n s):Kw (JZ prog w) A (.compLoop (.ListComp elt [⟨target,iter,ifs,0⟩] scope pos) 0 it acc env) R s:=by
 refine codeAny_loop rfl I (λn s hI=>?_) n h;show JY _ A ((compTurn (.ListComp elt [⟨target,iter,ifs,0⟩] scope pos) 0 it acc env).onRaise (λx=>do noteFrame x env;theTreesLotGoes x)) _ _ s;refine wpAny_noted ?_;rw[compTurn_list];refine Kb (Ke (Kb (J2 (turn n s hI) (λr s₁ h₁=>?_) λ_ _ h'=>h')));cases r with
 |none=>exact Ki h₁
 |some v=>
  refine Kb (J2 h₁ (λ_ s₁' h₁'=>?_) λ_ _ h'=>h');refine Kb (J2 h₁' (λ_ s₂ h₂=>Kb (J2 h₂ (λok s₃ h₃=>?_) λ_ _ h'=>h')) λ_ _ h'=>h');cases ok with
  |false=>exact Ki ⟨rfl,h₃⟩
  |true=>
   exact Kb (Kb (J2 h₃ (λx s₄ h₄=>Kb (J2 h₄ (λ_ s₅ h₅=>Ki (Ki ⟨rfl,h₅⟩)) λ_ _ h'=>h')) λ_ _ h'=>h'))
def jV(un:V->Hp->List V->Prop)(wi:TI)(tc:TT)(te:TE):TE:=λσ H Q=>wi σ H λJ H1=>∀D,H1 D=none->∃W:Nat->Nat->List V->Hp->Prop,(∃m,W 0 m [] (aI H1 D (.lst [])))/\∀i m ys H,W i m ys H ->
 (J.stop i H/\Q (.ref D) H)\/(J.go i H/\∀v H',J.yld i H v H'->∃vs,un v H' vs/\tc (σ++vs.map some) H' λb H2=>if b=true then te (σ++vs.map some) H2 λy H3=>H3 D=some (.lst ys)/\ys.length<sizeLine/\∃m',m'<m/\W (i+1) m' (ys++[y]) (aI H3 D (.lst (ys++[y])))
  else ∃m',m'<m/\W (i+1) m' ys H2)
def kO {un:V->Hp->List V->Prop}(B:bL X scope xs)(hc:X.calm=true)(hpg:∀Xc,bH X scope xs Xc->(∀x∈xs,Loc Xc.env.scope x/\(Xc.fn x=true\/Xc.env.scope.names.lookup x=some .local))->PG Xc tg g)(hun:∀v H vs os,os.length=xs.length->un v H vs->vs.length=xs.length/\g v (σ++os) H λσ2 H2=>σ2=σ++vs.map some/\H2=H)(hbody:∀Xc,bH X scope xs Xc->fH Xc ifs tc/\PE Xc elt te)(I:Inv X pins σ H s)(T:cX X.prog X.w X.K tg J fp it tn)(st:tn 0 s.heap)(hfp:∀b∈fp,kx X pins H b)(W:Nat->Nat->List V->Hp->Prop)(m0:Nat)(w0:W 0 m0 [] H)(turn:∀i m ys H,W i m ys H->(J.stop i H/\∀s' m' C,Inv X pins σ H s'->s'.heap.Ns C m'->s.heap.objs.size<=C->H C=none->compPost (JZ X.prog X.w) X.A X.xe use Q (.ref D) C (.ok .next) s') \/
   (J.go i H/\∀v H',J.yld i H v H'->∃vs,un v H' vs/\tc (σ++vs.map some) H' λb H2=>if b=true then te (σ++vs.map some) H2 λy H3=>H3 D=some (.lst ys)/\ys.length<sizeLine/\∃m',m'<m/\W (i+1) m' (ys++[y]) (aI H3 D (.lst (ys++[y])))
    else ∃m',m'<m/\W (i+1) m' ys H2)):
  JY (JZ X.prog X.w) X.A (Lb scope X.env.globals (wX X.env scope.names []) [] X.env.qual none .none (some X.env)) (λcenv s₄=>
   Kw (JZ X.prog X.w) X.A (.compStart (.ListComp elt [⟨tg,iter,ifs,0⟩] scope pos) 0 (.ref it) (.ref D) {cenv with scope:=Lc scope X.env}) (compPost (JZ X.prog X.w) X.A X.xe use Q (.ref D) cenv.locals) s₄) X.xe s:=by
 refine qD ?_;have hcl:∀y∈scope.names,y.2=.free->∃c,X.env.cells.lookup y.1=some c:=λy hy hf=>by
  rcases B.free y hy hf with q|q
  .exact I.ok.has y.1 (.inl q)
  .exact I.ok.has y.1 (.inr q)
 -- the block's own parts
 generalize hC:s.heap.objs.size=C;generalize hcs:KD (C+1) scope.names (wX X.env scope.names [])=cs;generalize hh4:K9 (s.heap.push {cls:=.type "dict",data:=.dict #[]}) scope.names=h4;have szP:(s.heap.push {cls:=.type "dict",data:=.dict #[]}).objs.size=C+1:=by rw[WJ,hC]
 have keep4:∀b o,s.heap.get? b=some o->h4.get? b=some o:=λb o e=>hh4▸La _ _ _ _ (Qc _ e);have nsC:h4.Ns C (λ_=>none):=by
  have q:=(Heap.Ns.new s.heap (.type "dict")).keeps (La scope.names (s.heap.push {cls:=.type "dict",data:=.dict #[]}));rw[hC,hh4]at q;exact q
 -- a cell of the block: one of its own,or one of those around
 have csIn:∀y c,cs.lookup y=some c->((y,NameKind.free)∈scope.names/\X.env.cells.lookup y=some c)\/(C+1<=c/\h4.IsCell c none/\(y,NameKind.cell)∈scope.names):=λy c e=>by
  have q:=lp (y:=y) (c:=c) (names:=scope.names) (h:=s.heap.push {cls:=.type "dict",data:=.dict #[]}) (acc:=wX X.env scope.names []);rw[szP,hcs,hh4]at q;rcases q e with q|q
  .rcases wC hcl q with z|z
   .cases z
   .exact .inl z
  .exact .inr q
 have oldC:∀y c,X.env.cells.lookup y=some c->c<C:=λy c e=>by
  obtain⟨v,q⟩:=I.cell y c e;rw[<-hC];exact q.lt
 have fpC:∀b∈fp,b<C:=λb hb=>by
  obtain⟨o,e,_⟩:=T.obj _ _ st b hb;rw[<-hC];exact Qi e
 let cenv:Env:={scope:=Lc scope X.env,locals:=C,globals:=X.env.globals,cells:=cs,qual:=X.env.qual,func:=none,code:=X.env.code,frame:=X.env.frame,builtins:=X.env.builtins}
 let RR:Result->Shared->Prop:=compPost (JZ X.prog X.w) X.A X.xe use Q (.ref D) C
 let Xc:Cx:={X with N:=yR X.N xs,s₀:=s,H₀:=H,env:=cenv,outer:=X.stack,stack:=X.stack,ex:=fp,fn:=λy=>decide (scope.names.lookup y=some .cell),calm:=true,pn:=[],xe:=Ld (JZ X.prog X.w) X.A cenv λe s'=>RR (.error e) s' }
 have hXc:bH X scope xs Xc:=⟨rfl,rfl,rfl,rfl,rfl,rfl,rfl,rfl,rfl,rfl⟩;obtain⟨hT,hE⟩:=hbody Xc hXc;have ok:Xc.Ok:=by
  refine⟨I.ok.mod,B.kind,I.ok.glob,I.ok.blt,VI hC,?_,λy hy=>?_,λy c hf e=>?_,λ_=>I.ok.hd hc,I.ok.frames,.inl rfl,λb hb=>⟨QG (fpC b hb),λy c e=>?_⟩,I.bs,Qr I.ok.bsz I.sz,λb o e hb=>?_,λb hb hf=>?_,I.stack,I.stkFree⟩
  .show ∀y z c,cs.lookup y=some c->cs.lookup z=some c->y=z;rw[<-hcs];refine lI (λy z c e1 e2=>?_) λy c e=>?_
   .rcases wC hcl e1 with q|q
    .cases q
    .rcases wC hcl e2 with q'|q'
     .cases q'
     .exact I.ok.inj y z c q.2 q'.2
   .rcases wC hcl e with q|q
    .cases q
    .exact WH (oldC y c q.2)
  .have hy':(Lc scope X.env).names.lookup y=some .cell\/(Lc scope X.env).names.lookup y=some .free:=hy;rw[zU]at hy';show ∃c,cs.lookup y=some c;rw[<-hcs];refine WO.mp (Vf _ _ _ ?_);cases hk:scope.names.lookup y with
   |none=>rw[hk]at hy';rcases hy' with z|z<;>cases z
   |some k=>
    rw[hk]at hy';have kk:k=.cell\/k=.free:=by
     simp only[QY]at hy';by_cases hcnd:(k==NameKind.free&&X.env.scope.kind == .function&&X.env.kindOf y==some .cell)=true
     .refine .inr ?_;have:=(QL.mp (QL.mp hcnd).1).1;simpa using this
     .rw[Ml hcnd]at hy';rcases hy' with z|z
      .exact .inl (Option.some.inj z)
      .exact .inr (Option.some.inj z)
    rcases kk with rfl|rfl
    .exact .inl rfl
    .exact .inr (vR (.inl (PySem.mem_of_lookup hk)))
  .show s.heap.objs.size<=c;rw[hC];have e':cs.lookup y=some c:=e;rw[<-hcs]at e';exact Qr (Vc _) (ln (lo:=C+1) (.inl (PySem.mem_of_lookup (Mp hf))) (Qh _) e')
  .show c≠b;rintro rfl;rcases csIn y c e with⟨_,z⟩|⟨z,_,_⟩
   .exact (hfp c hb).2.2.2.2.1 y c z rfl
   .exact Mm (Ql (fpC c hb) (Qr (Vc _) z)) (Wa _)
  .rcases (hfp b hb).2.2.2.1 with z|z
   .exact I.ok.noex b o e z
   .exact Mm (Ql (Qi (I.ok.bs b o e).1) z) (Wa _)
  .rcases Qn.mp (I.stkSub b hf)with z|z
   .exact (hfp b hb).2.1 z
   .exact (hfp b hb).2.2.1 z
 have frC:H C=none:=I.hok.fresh (VI hC);have frN:∀c,C<=c->H c=none:=λc hc'=>I.hok.fresh (by rw[hC];exact hc');have hσ:σ.length=X.N.length:=I.len;have I4:Inv Xc [] (σ++xs.map λ_=>none) H {s with heap:=h4}:=by
  refine⟨ok,rfl,I.bare,Un.kept keep4,⟨_,nsC,λi y v e1 e2 e3=>?_⟩,λy c e=>?_,frC,λy c e=>?_,λp hp=>Mm (show p∈([]:List (Addr×Obj))from hp) (by simp),I.hok.kept keep4,?_⟩
  .have hi:i<σ.length:=by
    by_cases hi:i<σ.length
    .exact hi
    .rw[Qd (by lia),Qs]at e2;cases hz:xs[i-σ.length]? with
     |none=>rw[hz]at e2;simp at e2
     |some k=>rw[hz]at e2;simp at e2
   rw[Qf hi]at e2;have vis:scope.names.lookup y=some .local\/scope.names.lookup y=some .cell\/scope.names.lookup y=some .free:=by
    have e3':fG (Lc scope X.env) y:=e3;unfold fG at e3';rw[zU]at e3';cases hk:scope.names.lookup y with
    |none=>rw[hk]at e3';rcases e3' with z|z|z<;>cases z
    |some k=>
     rw[hk]at e3';simp only[QY]at e3';by_cases hcnd:(k==NameKind.free&&X.env.scope.kind == .function&&X.env.kindOf y==some .cell)=true
     .have:=(QL.mp (QL.mp hcnd).1).1;exact .inr (.inr (by rw[show k=.free by simpa using this]))
     .rw[Ml hcnd]at e3';exact e3'
   rcases Fl (by rw[<-hσ];exact hi) e1 with z|⟨z,zx⟩
   .obtain ⟨x,hx,z⟩:=z;subst z;rw[B.dumN x hx]at vis;rcases vis with q|q|q<;>cases q
   .have hfree:scope.names.lookup y=some .free:=by
     rcases vis with q|q|q
     .exact Mm q (B.alone y (Qp z) zx).1
     .exact Mm q (B.alone y (Qp z) zx).2
     .exact q
    have kout:=B.free _ (PySem.mem_of_lookup hfree) rfl;obtain⟨m,hn,hl⟩:=I.loc;obtain⟨u,r,l⟩:=hl i y v z e2 (kout.elim (λq=>.inr (.inl q)) λq=>.inr (.inr q));refine⟨u,r,?_⟩;rcases l with⟨k,_⟩|⟨_,c,ec,zc⟩
    .have k':X.env.scope.names.lookup y=some .local:=k;rcases kout with q|q<;>rw[k']at q<;>cases q
    .have hsome:∃c',cs.lookup y=some c':=ok.has y (by
      show(Lc scope X.env).names.lookup y=some .cell\/(Lc scope X.env).names.lookup y=some .free;rw[zU,hfree];simp only[QY];split
      .exact .inl rfl
      .exact .inr rfl)
     obtain⟨c',ec'⟩:=hsome;refine .inr ⟨?_,c',ec',?_⟩
     .show (Lc scope X.env).names.lookup y=some .cell\/(Lc scope X.env).names.lookup y=some .free;rw[zU,hfree];simp only[QY];split
      .exact .inl rfl
      .exact .inr rfl
     .rcases csIn y c' ec' with⟨_,q⟩|⟨_,_,q⟩
      .rw[ec]at q;cases q;exact zc.keeps keep4
      .exact Mm hfree (B.one (y,.cell) q rfl)
  .rcases csIn y c e with⟨_,q⟩|⟨_,q,_⟩
   .obtain ⟨v,z⟩:=I.cell y c q;exact⟨v,z.keeps keep4⟩
   .exact ⟨_,q⟩
  .rcases csIn y c e with⟨_,q⟩|⟨q,_,_⟩
   .exact I.freeC y c q
   .exact frN c (by lia)
  .show (σ++xs.map λ_=>none).length=(yR X.N xs).length;rw[Fm,QF,hσ,Qo]
 -- the loop
 have hLoc:∀x∈xs,Loc Xc.env.scope x/\(Xc.fn x=true\/Xc.env.scope.names.lookup x=some .local):=λx hx=>by
  constructor
  .show (Lc scope X.env).names.lookup x=some .local\/(Lc scope X.env).names.lookup x=some .cell;rw[zU];rcases B.own x hx with q|q<;>rw[q]
   .exact .inl rfl
   .exact .inr rfl
  .rcases B.own x hx with q|q
   .refine .inr ?_;show(Lc scope X.env).names.lookup x=some .local;rw[zU,q];rfl
   .exact .inl (Mo q)
 have hg:PG Xc tg g:=hpg Xc hXc hLoc;have fpX:∀{H':Hp},(∀b∈fp,H' b=none)->∀b∈fp,kx Xc [] H' b:=λhn b hb=>
  ⟨hn b hb,QG (fpC b hb),λz=>ok.exfs b hb z,.inl hb,λy c e=>(ok.exf b hb).2 y c e,λp hp=>Mm (show p∈([]:List (Addr×Obj))from hp) (by simp)⟩
 have loop:Kw (JZ X.prog X.w) X.A (.compLoop (.ListComp elt [⟨tg,iter,ifs,0⟩] scope pos) 0 (.ref it) (.ref D) cenv) RR {s with heap:=h4}:=by
  refine gH (λn s'=>∃i os ys H',os.length=xs.length/\Inv Xc [] (σ++os) H' s'/\tn i s'.heap/\(∀b∈fp,H' b=none)/\W i n ys H') ?_ m0 ⟨0,_,[],H,Qo _,I4,T.keep _ _ _ st λb _ o e=>keep4 b o e,λb hb=>(hfp b hb).1,w0⟩;rintro n s3 ⟨i,os,ys,H3,hos,I3,st3,fr3,w3⟩;rcases turn i n ys H3 w3 with⟨stop,fin⟩|⟨go,step⟩
  .refine ba (T.done Xc rfl rfl rfl rfl i [] s3 (σ++os) H3 Xc.xe I3 (fpX fr3) st3 stop) λr s4 ⟨hr,I4⟩=>?_;subst hr;obtain⟨m,hn,_⟩:=id I4.loc;refine fin s4 m C ?_ hn (VI hC) I4.free;exact I.call' (ch:=fp) I4.os I4.base I4.hok I4.bare λb hb=>⟨(hfp b hb).2.2.2.1,(hfp b hb).2.1,(hfp b hb).2.2.2.2.1,(hfp b hb).2.2.2.2.2⟩
  .refine ba (T.item Xc rfl rfl rfl rfl i [] s3 (σ++os) H3 Xc.xe I3 (fpX fr3) st3 go) λr s4 ⟨u,hr,h4'⟩=>?_;subst hr;refine ba h4' λ_ s5 ⟨v,H5,I5,r5,y5,st5,fr5⟩=>?_;have I5':=I5.pinned (fpX fr5) (T.obj _ _ st5);obtain⟨vs,hvs,step5⟩:=step v H5 y5;obtain⟨hvl,hset⟩:=hun v H5 vs os hos hvs;refine ba (hg _ s5 (σ++os) H5 v u (λσ2 H2=>σ2=σ++vs.map some/\H2=H5) I5' r5 hset) λ_ s6 ⟨σ6,H6,I6,e6,e6'⟩=>?_;subst e6;subst e6';have back:∀{H7:Hp}{s7:Shared},Inv Xc ([]++kK fp s5.heap) (σ++vs.map some) H7 s7->tn (i+1) s7.heap/\(∀b∈fp,H7 b=none)/\Inv Xc [] (σ++vs.map some) H7 s7:=λ{H7 s7} I7=>by
    refine⟨T.keep _ _ _ st5 λb hb ob e=>(I7.pin (b,ob) (QC _ (QC _ (xR hb e)))).1,λb hb=>?_,I7.unpinned⟩;obtain⟨ob,e,_⟩:=T.obj _ _ st5 b hb;exact(I7.pin (b,ob) (QC _ (QC _ (xR hb e)))).2.1
   refine ba (hT _ s6 (σ++vs.map some) H6 _ I6 step5) λb s7 ⟨H7,I7,q7⟩=>?_;cases b with
   |false=>
    rw[Ml Qz]at q7 ⊢;obtain⟨m',hm,w7⟩:=q7;obtain⟨t1,t2,t3⟩:=back I7;exact⟨m',hm,i+1,_,ys,H7,(by rw[Qo];exact hvl),t3,t1,t2,w7⟩
   |true=>
    rw[Mk rfl]at q7 ⊢;refine ba (hE _ s7 (σ++vs.map some) H7 _ I7 q7) λyv s8 ⟨y,H8,I8,r8,hD8,hl8,m',hm,w8⟩=>?_;refine ba (jT (X:=Xc) _ s8 (σ++vs.map some) H8 (.ref D) [y] (.ref D) [yv] (λ_ H9=>H9=aI H8 D (.lst (ys++[y]))) I8 rfl (.cons r8 .nil) ⟨D,ys,y,rfl,rfl,hD8,hl8,rfl⟩) λ_ s9 ⟨_,H9,I9,_,e9⟩=>?_;subst e9;obtain⟨t1,t2,t3⟩:=back I9;exact⟨m',hm,i+1,_,ys++[y],_,(by rw[Qo];exact hvl),t3,t1,t2,w8⟩
 refine codeAny_compStart_list loop ?_;exact T.self X.A 0 _ _ _ (T.keep _ _ _ st λb _ o e=>keep4 b o e) loop
section
variable{X:Cx}{elt iter tg:Expr}{xs:List Str}{y:Str}{g:TG}{un:V->Hp->List V->Prop}{py:Pos}{ifs:List Expr}{scope:JK}{pos spos:Pos}{wi:TI}{tc:TT}{te:TE}
def Inv.aside{pins:List (Addr×Obj)}{σ:St}{H:Hp}{s:Shared}{C lo:Addr}{h':JP}(I:Inv X pins σ H s)(hlo:lo<=C)(hL:X.env.locals<lo)(hcell:∀y c,X.env.cells.lookup y=some c->c<lo)(hpin:∀p∈X.pn++pins,p.1<lo)
  (hn:H C=none) (hs:Q8 C s.heap h'):Inv X pins σ H {s with heap:=h' } :=
 I.turned (it:=C) (t':=s.toks) (λb o hb e=>(hs.2 b hb).trans e) hn (WE (Ql hL hlo)) (.inr (Qr I.ok.above (Qr (Vn hL) hlo)))
  (λy c e=>QG (Ql (hcell y c e) hlo)) λp hp=>QG (Ql (hpin p hp) hlo)
def Inv.below (I:Inv X pins σ H s):X.env.locals<s.heap.objs.size/\(∀y c,X.env.cells.lookup y=some c->c<s.heap.objs.size)/\∀p∈X.pn++pins,p.1<s.heap.objs.size:=
 ⟨I.lt,λy c e=>let⟨_,z⟩:=I.cell y c e;z.lt,λp hp=>Qi (I.pin p hp).1⟩
def wS(B:bL X scope xs)(ok:X.Ok):closureFor scope X.env=pure (wX X.env scope.names []):=
 kN λy hy hf=>(B.free y hy hf).elim (λq=>ok.has y.1 (.inl q)) λq=>ok.has y.1 (.inr q)
structure ie(X:Cx)(scope:JK)(xs:List Str)(tg:Expr)(g:TG)(un:V->Hp->List V->Prop):Prop where
 pg:∀Xc,bH X scope xs Xc->(∀x∈xs,Loc Xc.env.scope x/\(Xc.fn x=true\/Xc.env.scope.names.lookup x=some .local))->PG Xc tg g
 un:∀v H vs os (σ:St),σ.length=X.N.length->os.length=xs.length->un v H vs->vs.length=xs.length/\g v (σ++os) H λσ2 H2=>σ2=σ++vs.map some/\H2=H
def lJ(v:V)(_:Hp)(vs:List V):Prop:=vs=[v]
def pO{α:Type}{l:List α}(h:l.length=1):∃a,l=[a]:=by
 cases l with
 |nil=>cases h
 |cons a t=>
  cases t with
  |nil=>exact⟨a,rfl⟩
  |cons b t=>cases h
def pN{α:Type}{l:List α}(h:l.length=2):∃a b,l=[a,b]:=by
 cases l with
 |nil=>cases h
 |cons a t=>
  obtain⟨b,rfl⟩:=pO (Nat.succ.inj h);exact⟨a,b,rfl⟩
def rY (B:bL X scope [x]):ie X scope [x] (.Name x px) (xm X.N.length) lJ:=by
 refine⟨λXc c h=>?_,λv H vs os σ hσ ho hv=>?_⟩
 .exact yt (by rw[c.N];exact B.nd) (by rw[c.N];exact wY X.N [x] 0) (h x (by simp)).1 (h x (by simp)).2
 .cases hv;refine⟨rfl,?_,rfl⟩;obtain⟨o,rfl⟩:=pO ho;rw[<-hσ,Vs _ _ (Qh _)];simp
def iD(K:Qb)(v:V)(H:Hp)(vs:List V):Prop:=∃a,v=.ref a/\bI K H a vs/\vs.length=2
def gI (hc:X.calm=true)(B:bL X scope [x,y]):ie X scope [x,y] (.Tuple [.Name x px,.Name y py] k pt) (fM X.K 2 (vn (xm X.N.length) (vn (xm (X.N.length+1)) fN))) (iD X.K):=by
 refine⟨λXc c h=>?_,λv H vs os σ hσ ho hv=>?_⟩
 .have nd:Xc.N.Nodup:=by rw[c.N];exact B.nd
  rw[<-c.K];exact gw c.calm (yP (yt nd (by rw[c.N];exact wY X.N [x,y] 0) (h x (by simp)).1 (h x (by simp)).2) (yP (yt nd (by rw[c.N];exact wY X.N [x,y] 1) (h y (by simp)).1 (h y (by simp)).2) kC))
 .obtain ⟨a,e1,e2,e3⟩:=hv;obtain⟨u,w,rfl⟩:=pN e3;obtain⟨o,p,rfl⟩:=pN ho;refine⟨rfl,a,[u,w],e1,e2,rfl,u,[w],rfl,w,[],rfl,rfl,?_,rfl⟩;rw[<-hσ,Vs _ _ (Qh _),Vs _ _ (by lia)];simp
def kE(B:bL X scope xs)(hc:X.calm=true)(hT:ie X scope xs tg g un)(hi:PI X tg iter wi)(hbody:∀Xc,bH X scope xs Xc->fH Xc ifs tc/\PE Xc elt te)
  (hs:∀v,Km iter X.env v=pure v:=by intro _;rfl):PE X (.ListComp elt [⟨tg,iter,ifs,0⟩] scope pos) (jV un wi tc te):=by
 intro pins s σ H Q I h;rw[eval_ListComp];refine Lf (use:=none) (cl:=wX X.env scope.names []) rfl hs (wS B I.ok) B.kind B.locs ?_;refine ba (hi pins s σ H _ I h) λxv s1 h1=>ba h1 λitv s2 h2=>?_;obtain⟨it,fp,tn,J,H2,e,I2,T,st2,f2,q2⟩:=h2;subst e;refine KQ ?_;have I3:=I2.lnew (its:=[]) (ys:=[]) (t':=s2.toks) .nil (WK _);obtain⟨W,⟨m0,w0⟩,turn⟩:=q2 s2.heap.objs.size (I2.hok.fresh (Qh _));have fp3:∀b∈fp,kx X pins (aI H2 s2.heap.objs.size (.lst [])) b:=λb hb=>by
  obtain⟨o,e,_⟩:=T.obj _ _ st2 b hb;exact⟨by rw[zd (QG (Qi e))];exact(f2 b hb).1,(f2 b hb).2⟩
 obtain⟨b1,b2,b3⟩:=I3.below;refine kO B hc hT.pg (λv H vs os h1 h2=>hT.un v H vs os σ I.len h1 h2) hbody I3 T (T.keep _ _ _ st2 λb _ o e=>Qc _ e) fp3 W m0 w0 λi m ys H4 w=>?_;rcases turn i m ys H4 w with⟨stop,q⟩|r
 .exact .inl ⟨stop,λs' m' C I' hn hC hCn=>⟨m',hn,λh' hsb=>⟨.ref s2.heap.objs.size,H4,I'.aside hC b1 b2 b3 hCn hsb,rfl,q⟩⟩⟩
 .exact .inr r
def Go (B:bL X scope xs)(hc:X.calm=true)(hT:ie X scope xs tg g un)(hi:PI X tg iter wi)(hbody:∀Xc,bH X scope xs Xc->fH Xc ifs tc/\PE Xc elt te)(hN:X.N.Nodup)(hy:X.N[i]?=some y)(hx:Loc X.env.scope y)(hf:X.fn y=true\/X.env.scope.names.lookup y=some .local)(hsw:J7 (.ListComp elt [⟨tg,iter,ifs,0⟩] scope pos) (some (.Name y py)) spos.line X.env=pure true)(hs:∀v,Km iter X.env v=pure v:=by intro _;rfl):PS X (.Assign [.Name y py] (.ListComp elt [⟨tg,iter,ifs,0⟩] scope pos) spos) (ir (jV un wi tc te) (xm i)):=by
 intro pins s σ H D I h;rw[exec_Assign_Name_used _ _ _ _ hsw];refine Kb (Ke (Kb ?_));show JY _ X.A (do let _ <-comprehension (.ListComp elt [⟨tg,iter,ifs,0⟩] scope pos) scope X.env _ (newList []) false (eval iter X.env) (some (assign (.Name y py) X.env))) _ _ s;refine Kb (J2 (Lf (use:=some (assign (.Name y py) X.env)) (cl:=wX X.env scope.names []) (Q:=λ_ s'=>SP X pins D .next s') rfl hs (wS B I.ok) B.kind B.locs ?_)
  (λ_ s' hq=>Ki (Ki hq)) λ_ _ e=>e)
 refine ba (hi pins s σ H _ I h) λxv s1 h1=>ba h1 λitv s2 h2=>?_;obtain⟨it,fp,tn,J,H2,e,I2,T,st2,f2,q2⟩:=h2;subst e;refine KQ ?_;have I3:=I2.lnew (its:=[]) (ys:=[]) (t':=s2.toks) .nil (WK _);obtain⟨W,⟨m0,w0⟩,turn⟩:=q2 s2.heap.objs.size (I2.hok.fresh (Qh _));have fp3:∀b∈fp,kx X pins (aI H2 s2.heap.objs.size (.lst [])) b:=λb hb=>by
  obtain⟨o,e,_⟩:=T.obj _ _ st2 b hb;exact⟨by rw[zd (QG (Qi e))];exact(f2 b hb).1,(f2 b hb).2⟩
 obtain⟨b1,b2,b3⟩:=I3.below;refine kO B hc hT.pg (λv H vs os h1 h2=>hT.un v H vs os σ I.len h1 h2) hbody I3 T (T.keep _ _ _ st2 λb _ o e=>Qc _ e) fp3 W m0 w0 λi' m ys H4 w=>?_;rcases turn i' m ys H4 w with⟨stop,q⟩|r
 .refine .inl ⟨stop,λs' m' C I' hn hC hCn=>?_⟩;refine wpAny_assign_Name (jN I' hN hy hx (v:=.ref s2.heap.objs.size) rfl (λs'' I'' ⟨a,sb,ha⟩=>?_) hf);have hCa:C≠a:=by
   rcases ha with rfl|ha
   .exact WE (Ql b1 hC)
   .exact WE (Ql (b2 _ _ ha) hC)
  exact⟨m',hn.sameBut sb hCa,λh' hsb=>⟨_,H4,I''.aside hC b1 b2 b3 hCn hsb,q⟩⟩
 .exact .inr r
end
section
variable{X:Cx}
theorem av.at (h:av xs us){i:Nat}(e:us[i]?=some u):∃x,xs[i]?=some x/\RelV x u:=by
 have hl:=h.length;have hi:=(Qa.mp e).1;have hx:xs[i]?=some xs[i]:=Qw (by lia);obtain⟨u',h1,h2⟩:=h.get hx;rw[e]at h1;cases h1;exact⟨_,hx,h2⟩
theorem wc(ns:List Int):∀n,n<=ns.length->preSum (λi=>ns.getD i 0) n=(ns.take n).sum
 |0,_=>by simp[preSum]
 |n+1,h=>by
  have e:ns[n]?=some (ns.getD n 0):=by rw[Qu,Qw (by lia)];rfl
  rw[preSum,wc ns n (by lia),List.take_add_one,e,List.sum_append];simp
def qE(hc:X.calm=true):bx X (.builtin "sum") (λxs H Q=>∃(p:Addr) (ns:List Int),xs=[.ref p]/\bE X.K H p (ns.map V.int)/\Q (.int ns.sum) H):=by
 intro pins s σ H xs us Q I r h;obtain⟨p,ns,rfl,hq,q⟩:=h;obtain⟨u,rfl,rx⟩:=xH r;cases rx;obtain⟨its,r',pl,hz⟩:=I.list hq;have hlen:=r'.length;have hp:∃o,s.heap.get? p=some o:=by obtain⟨o,ho,_⟩:=pl.isList;exact⟨o,ho⟩
 obtain⟨o,ho⟩:=hp;have hlt:=Qi ho;refine call_sum_walkG (Kk pl.isList ?_);refine⟨s.heap.objs.size,_,_,_,_,_,λi=>ns.getD i 0,rfl,Walks.list (A:=X.A.in1) (I.ok.hd hc) s.heap.objs.size p (QG hlt) its.toArray,⟨⟨_,Qe _ rfl,rfl,rfl⟩,pl.isList.at λo e=>Qc _ e⟩,?_,?_,λh' tk t' hk=>?_⟩
 .intro b hb;have h1:s.heap.objs.size<(s.heap.push {cls:=.type "list_iterator",data:=.fields #[.ref p,.int 0 0]}).objs.size:=Qi (Qe _ rfl);have:b=s.heap.objs.size\/b=p:=by simpa using hb
  rcases this with rfl|rfl
  .exact h1
  .exact W5 hlt h1
 .intro i v hv;have hv':its[i]?=some v:=by simpa using hv
  obtain⟨y,hy,ry⟩:=r'.at hv';rw[Qs]at hy;cases hb:ns[i]? with
  |none=>rw[hb]at hy;cases hy
  |some b=>
   rw[hb]at hy;cases hy;obtain⟨t,rfl⟩:=(ry:∃t,v=.int b t);have e:ns.getD i 0=b:=by rw[Qu,hb];rfl
   exact⟨t,by show Value.int b t=Value.int (ns.getD i 0) t;rw[e]⟩
 .have e:its.toArray.size=ns.length:=by simp at hlen ⊢;lia
  rw[e,wc ns ns.length (Qh _),Vg];exact⟨.int ns.sum,H,I.kept (t':=tk) λb o e=>hk b o (λhb=>by
   have:b=s.heap.objs.size:=by simpa using hb
   exact Mm (Qi e) (by rw[this];exact Wa _)) (Qc _ e),⟨t',rfl⟩,q⟩
end
abbrev TK:=List Int×Addr×Value
noncomputable def jW(x:TK):DictEntry:=⟨reduceHash (Builtin.Tuple.tupleHashOf (x.1.map hashInt)),.ref x.2.1,x.2.2⟩
def zO(d:Addr)(xs:List TK):HO:=.ext λh=>(d==JQ)=false/\∃o es,h.get? d=some o/\o.ExactDict/\o.data=.dict es xs.length/\es.toList=xs.map jW/\(xs.map (·.1)).Nodup
theorem rX:∀{k:List Int}{us:List Value},av (k.map V.int) us->ItemsAre (JT P w) k us
 |[],_,.nil=>.nil
 |i::_,_,.cons p q=>by
  obtain⟨t,rfl⟩:=p;exact .cons (by show Value.isInt i (.int i t)=true;simp[Value.isInt]) (rX q)
def yb(K:Qb)(H:Hp)(d:Addr)(xs:List TK):Prop:=H d=some (zO d xs)/\∀x∈xs,bI K H x.2.1 (x.1.map V.int)
section
variable{prog:JM}{w:JN}{T:Type}[DecidableEq T]{kd:HeapKind prog w T}{A:JW}{E:Value->Shared->Prop}{s:Shared}{d a:Addr}{k:T}{xs:List (T×Addr×Value)}
def iC(kd:HeapKind prog w T)(h:JP)(d:Addr)(xs:List (T×Addr×Value)):Prop:=∃o es,h.get? d=some o/\o.ExactDict/\o.data=.dict es xs.length/\es.toList=xs.map (JR kd)/\(xs.map (·.1)).Nodup
def nW (room:kd.room A)(hk:kd.is s.heap k a)(D:iC kd s.heap d xs)(all:∀x∈xs,kd.is s.heap x.1 x.2.1)(hz:xs.length<=sizeLine)(end':∀h',iC kd h' d (storedH xs k a v)->Q8 d s.heap h'->R () {s with heap:=h',toks:=s.toks+kd.draws k}):JY (JZ prog w) A (dictSet d (.ref a) v) R E s:=by
 obtain⟨o,es,g,ex,dat,rows,nd⟩:=D;have sz:=size_of_entries rows
 let s1:Shared:={s with toks:=s.toks+kd.draws k}
 unfold dictSet;apply Kc;apply Kb;apply kd.pyHash room hk;unfold dictSetHashed;apply Kc;apply Kb;apply wpAny_dictFind_heap (s:=s1) room hk g dat rows all nd
 .intro no;have e1:storedH xs k a v=xs++[(k,a,v)]:=storedH_new (atKey_none_of_get no) a v;have g1:=WG (Obj.mapDictKeys (·.push ⟨kd.hash k,.ref a,v⟩)) g (Obj.isFreed_of_dict (Obj.data_mapDictKeys dat _));apply Kb;apply Lg;apply wpAny_updateDictKeys (s:=s1) g dat _ (by lia);refine end' _ ⟨_,es.push ⟨kd.hash k,.ref a,v⟩,g1,ex.mapDictKeys _,?_,?_,?_⟩ (Q8.update ..)
  .rw[e1,QF];exact Obj.data_mapDictKeys dat _
  .simp[e1,rows,JR]
  .have z:=not_mem_keys_of_get no;rw[e1,WF,QN];refine⟨nd,by simp,λx hx y hy e=>?_⟩;have f:y=k:=by simpa using hy
   exact z (f▸e▸hx)
 .intro j p at_;have e1:storedH xs k a v=xs.map (Lh k v):=storedH_old (atKey_of_get nd at_) a v;have g1:=WG (Obj.mapDict (·.modify j λe=>{e with val:=v})) g (Obj.isFreed_of_dict (Obj.data_mapDict dat _));apply Kb;apply Lg;apply Kb;apply wpAny_updateDict (s:=s1) g dat;apply wpAny_point;refine end' _ ⟨_,es.modify j λe=>{e with val:=v},g1,ex.mapDict _,?_,?_,?_⟩ (Q8.update ..)
  .rw[e1,Qo];exact Obj.data_mapDict dat _
  .have q:=modify_map_putAt (JR kd) (λe:DictEntry=>{e with val:=v}) k v (λ_ _=>rfl) nd at_;rw[<-rows]at q;rw[e1,Vz];exact q
  .rw[e1,keys_map_putAt];exact nd
def EL (room:kd.room A.in1)(hk:kd.is s.heap k a)(D:iC kd s.heap d xs)(all:∀x∈xs,kd.is s.heap x.1 x.2.1)(hz:xs.length<=sizeLine)(end':∀h',iC kd h' d (storedH xs k a v)->Q8 d s.heap h'->R () {s with heap:=h',toks:=s.toks+kd.draws k}):JY (JZ prog w) A (J9 (.ref d) (.ref a) v) R E s:=by
 have ty:s.TypeIs (.ref d) "dict":=let⟨o,_,g,ex,_⟩:=D;⟨o,g,ex.1⟩;unfold J9;apply Kc;apply Kb;apply wpAny_sequenceKey ty (by decide);apply Kb;apply KN ty slot_dict_setitem;refine KO slot_dict_setitem ty entry_dict_setitem ?_ (args_dict_setitem _ _ _);apply Kb (m:=Builtin.Dict.notOrdered "__setitem__" ⟨[.ref d,.ref a,v],[]⟩);apply Li ty;apply Kb (m:=dictSet d (.ref a) v);exact nW room hk D all hz λh' q sb=>Ki ⟨.none,rfl,Ki (end' h' q sb)⟩
end
section
variable{X:Cx}{pins:List (Addr×Obj)}{σ:St}{H:Hp}{s:Shared}
def xT (I:Inv X pins σ H s)(h:bI X.K H a (k.map V.int)):Lj (JT X.prog X.w) s.heap k a:=by
 obtain⟨its,r,⟨o,ho,hc,n,hd⟩,_⟩:=I.tuple h;exact⟨o,its.toArray,n,ho,hc,hd,rX r⟩
def xn (I:Inv X pins σ H s)(h:yb X.K H d xs):(d==JQ)=false/\s.heap.DictOfH (JS (JT X.prog X.w)) d xs:=by
 obtain⟨h1,h2⟩:=h;obtain⟨⟨a0,o,es,a1,a2,a3,a4,a5⟩,_,_⟩:=I.hok d _ h1;exact⟨a0,o,es,_,a1,a2,a3,a4,λx hx=>xT I (h2 x hx),a5⟩
def Fk:PE X (.Dict [] [] pos) (λ_ H Q=>∀d,H d=none->Q (.ref d) (aI H d (zO d []))):=by
 intro pins s σ H Q I h;have hd:(s.heap.objs.size==JQ)=false:=by
  obtain⟨o,_,_,ho,_⟩:=I.ok.mod.glob;have h1:(3:Nat)<X.base.objs.size:=Qi ho;have h2:=Qr I.ok.bsz I.sz;have:s.heap.objs.size≠(1:Nat):=by lia
  exact beq_eq_false_iff_ne.mpr this
 refine wpAny_Dict_empty ⟨.ref s.heap.objs.size,aI H s.heap.objs.size (zO s.heap.objs.size []),I.laid (t':=s.toks) (λb u e=>Qc _ e) (Qh _) ?_,rfl,h _ I.fresh⟩;refine⟨⟨hd,_,#[],Qe _ rfl,⟨rfl,rfl,rfl⟩,rfl,rfl,QK⟩,⟨_,Qe _ rfl⟩,λh1 h2 hx k=>?_⟩;obtain⟨a0,o,es,a1,r⟩:=hx;exact⟨a0,o,es,k o a1,r⟩
def oY(K:Qb):V->V->V->Hp->(Hp->Prop)->Prop:=λo i v H Q=>∃d a ks xs,o=.ref d/\i=.ref a/\bI K H a (ks.map V.int)/\yb K H d xs/\xs.length<=100000/\∀u,RelV v u->Q (aI H d (zO d (storedH xs ks a u)))
def Ag(hu:X.A.units+64<Ku):ow X (oY X.K):=by
 intro pins s σ H o i v ov iv u Q I ro ri rv h;obtain⟨d,a,ks,xs,rfl,rfl,hk,hd,hl,q⟩:=h;cases ro;cases ri;obtain⟨d0,dm⟩:=xn I hd;obtain⟨⟨_,o1,es1,b1,b2,b3,b4,b5⟩,_,_⟩:=I.hok d _ hd.1;refine EL (kd:=JS (JT X.prog X.w)) (by show X.A.units+1<Ku;lia) (xT I hk) ⟨o1,es1,b1,b2,b3,b4,b5⟩ (λx hx=>xT I (hd.2 x hx)) (Qr hl (by decide)) λh' ⟨o',es,a1,a2,a3,a4,a6⟩ sb=>?_;refine⟨aI H d (zO d (storedH xs ks a u)),?_,q u rv⟩;refine I.write (x:=d) (e:=d) (by rw[hd.1];trivial) (.inl rfl) (λb u' hb e=>(sb.2 b hb).trans e) ⟨_,a1⟩ ?_;refine⟨⟨d0,o',es,a1,a2,a3,a4,a6⟩,⟨_,a1⟩,λh1 h2 hx k=>?_⟩;obtain⟨b0,o,es,b1,r⟩:=hx;exact⟨b0,o,es,k o b1,r⟩
def oX(K:Qb):R2:=λx y H Q=>∃d a ks xs p,x=.ref d/\y=.ref a/\bI K H a (ks.map V.int)/\yb K H d xs/\Lk xs ks=some p/\∃v,RelV v p.2/\Q v H
def nh(hu:X.A.units+64<Ku):dN X (oX X.K):=by
 intro value slice pins s σ H x y v u Q I rx ry h hs;obtain⟨d,a,ks,xs,p,rfl,rfl,hk,hd,hp,z,rz,q⟩:=h;cases rx;cases ry;obtain⟨d0,dm⟩:=xn I hd;exact KR (x:=p.2) dm.typeIs slot_dict_getitem.lookup
  (wpAny_getItem_heap (knd:=JS (JT X.prog X.w)) (Q:=λr s'=>r=p.2/\EP X pins σ Q r s') (by show X.A.units+1<Ku;lia) (xT I hk) dm hp ⟨rfl,z,H,I.tok _,rz,q⟩) hs
end
end L2
namespace Mini
inductive Wd where
 |non|bl (b:Bool)|int (i:Int)|str (s:List Nat)|tup (xs:List Wd)|rol (xs:List Wd)|ref (l:Nat)
deriving Inhabited
set_option genInjectivity false in
inductive Ob where
 |lst (xs:List Wd)|dct (ks:List (List Int)) (ws:List Wd)
deriving Inhabited
abbrev Me:=List Ob
set_option tactic.hygienic true in
abbrev En:=List (Option Wd)
set_option genInjectivity false in
inductive Rz where
 |ok (w:Wd) (m:Me)|exc (c:Nat) (w:Wd) (m:Me)|no
deriving Inhabited
set_option genInjectivity false in
inductive Rs where
 |next (e:En) (m:Me)|ret (w:Wd) (m:Me)|brk (e:En) (m:Me)|cont (e:En) (m:Me)
 |exc (c:Nat) (w:Wd) (e:En) (m:Me)|no
deriving Inhabited
inductive Bo where|add|sub|mul|fdiv|mod|pow|shr|band|mulB|fdivB
deriving DecidableEq
inductive Co where|eq|ne|lt|le|gt|ge|isin
deriving DecidableEq
inductive Tg where|int|bool|list|tuple|str|dict
deriving DecidableEq
inductive dR where|len|int|list|tuple|sum|minS|maxS|sorted|sortI
deriving DecidableEq
inductive dM where|append|pop|reverse|clear
deriving DecidableEq
inductive Kd where|zip|enum|prs|ptp
deriving DecidableEq
inductive Dk where|get|one|sum|trg
deriving DecidableEq
set_option genInjectivity false in
inductive Ex where
 |var (i:Nat)|lit (w:Wd)
 |bin (op:Bo) (a b:Ex)|neg (a:Ex)|not (a:Ex)|and (a b:Ex)|or (a b:Ex)
 |cmp (op:Co) (a b:Ex)|chain (p q:Co) (a b c:Ex)|ife (c a b:Ex)
 |unit|pair (a b:Ex)
 |call (k:Nat) (args:Ex)|blt (b:dR) (args:Ex)|isi (t:Tg) (a:Ex)
 |lst (args:Ex)|tup (args:Ex)|dict0
 |idx (a b:Ex)|slL (a lo:Ex)
 |meth (n:dM) (o args:Ex)
 |rng (a b c:Ex)
 |comp (elt it cond:Ex)
 |compP (k:Kd) (elt a b cond:Ex)
 |dget (a b:Ex)
 |dop (k:Dk) (a b c:Ex)
deriving Inhabited
set_option genInjectivity false in
inductive Sm where
 |skip|seq (a b:Sm)
 |asg (i:Nat) (e:Ex)   |aug (i:Nat) (op:Bo) (e:Ex)
 |ite (c:Ex) (a b:Sm)|forv (i:Nat) (it:Ex) (body:Sm)|fort (i j:Nat) (it:Ex) (body:Sm)
 |ret (e:Ex)  |expr (e:Ex)   |never
 |forZ (i j:Nat) (a b:Ex) (body:Sm)
 |dput (x:Nat) (k e:Ex)
 |forD (i x:Nat) (body:Sm)
 |forI (i j x:Nat) (body:Sm)
deriving Inhabited
def aq:Nat:=100000
def fb:Int:=18446744073709551616
noncomputable def small(i:Int):Bool:=decide (-fb<i)&&decide (i<fb)
noncomputable def cP(p:Wd->Wd->Option Bool):List Wd->List Wd->Option Bool
 |x::xs,y::ys=>match p x y with
  |some a=>(cP p xs ys).map (a && ·)
  |none=>none
 |_,_=>some true
def b2i(b:Bool):Int:=if b then 1 else 0
noncomputable def aX(m:Me)(l:Nat):Bool:=match m[l]? with
 |some (.lst _)=>true
 |_=>false
def pM:Wd->Bool
 |.rol _=>false
 |_=>true
noncomputable def cu(m:Me):Nat->Wd->Wd->Option Bool
 |0,_,_=>none
 |k+1,x,y=>match x,y with
  |.tup a,.tup b=>(cP (cu m k) a b).map (· && decide (a.length=b.length))
  |.ref a,.ref b=>if a=b then(if aX m a then some true else none)else match m[a]?,m[b]? with
   |some (.lst xs),some (.lst ys)=>if xs.length=ys.length then cP (cu m k) xs ys else some false
   |_,_=>none
  |.ref a,y=>if aX m a&&pM y then some false else none
  |x,.ref b=>if aX m b&&pM x then some false else none
  |.rol _,_=>none
  |_,.rol _=>none
  |.non,.non=>some true
  |.bl a,.bl b=>some (a==b)
  |.int a,.int b=>some (decide (a=b))
  |.bl a,.int b=>some (decide (b2i a=b))
  |.int a,.bl b=>some (decide (a=b2i b))
  |.str a,.str b=>some (decide (a=b))
  |_,_=>some false
def yB:Nat:=12
noncomputable def dX(p:Wd->Wd->Option Bool)(x:Wd):List Wd->Option Bool
 |[]=>some false
 |y::ys=>match p y x with
  |some a=>(dX p x ys).map (a || ·)
  |none=>none
noncomputable def ix(n:Nat)(i:Int):Option Nat:=
 if 0<=i then(if i<n then some i.toNat else none)else if -(n:Int)<=i then some (i+n).toNat else none
noncomputable def alloc(m:Me)(xs:List Wd):Rz:=if xs.length<=aq then .ok (.ref m.length) (m++[.lst xs])else .no
noncomputable def zj(m:Me)(l:Nat):Option (List Wd):=match m[l]? with
 |some (.lst xs)=>some xs
 |_=>none
noncomputable def yq(m:Me):Wd->Option (List Wd)
 |.tup xs=>some xs
 |.rol xs=>some xs
 |.ref l=>zj m l
 |_=>none
noncomputable def cQ(op:Bo)(x y:Wd)(m:Me):Rz:=match x,y with
 |.int i,.int j=>match op with
  |.add=>.ok (.int (i+j)) m
  |.sub=>.ok (.int (i-j)) m
  |.mul=>if small i || small j then .ok (.int (i*j)) m else .no
  |.fdiv=>if 0<j/\j<1073741824 then .ok (.int (i/j)) m else .no
  |.mod=>if 0<j then .ok (.int (i%j)) m else .no
  |.pow=>if 0<=j/\j<=1000000/\small i=true then .ok (.int (i^j.toNat)) m else .no
  |.shr=>if 0<=j/\j<=1000 then .ok (.int (i/2^j.toNat)) m else .no
  |.band=>if 0<=i/\j=1 then .ok (.int (i%2)) m else .no
  |.mulB=>if i.natAbs.log2<100000/\j.natAbs.log2<100000 then .ok (.int (i*j)) m else .no
  |.fdivB=>if 0<j/\j.natAbs.log2<9000 then .ok (.int (i/j)) m else .no
 |.ref a,.ref b=>match op,m[a]?,m[b]? with
  |.add,some (.lst xs),some (.lst ys)=>alloc m (xs++ys)
  |_,_,_=>.no
 |.ref a,.int k=>match op,m[a]? with
  |.mul,some (.lst xs)=>if -aq<=k/\k<=aq then alloc m (Qg k.toNat xs).flatten else .no
  |_,_=>.no
 |.tup xs,.tup ys=>match op with
  |.add=>if xs.length+ys.length<=aq then .ok (.tup (xs++ys)) m else .no
  |_=>.no
 |_,_=>.no
noncomputable def dC(o:Option Bool)(m:Me):Rz:=match o with
 |some b=>.ok (.bl b) m
 |none=>.no
noncomputable def kP(r:Int->Int->Bool)(x y:Wd)(m:Me):Rz:=match x,y with
 |.int i,.int j=>.ok (.bl (r i j)) m
 |_,_=>.no
noncomputable def zX:List Wd->Option (List Int)
 |[]=>some []
 |.int i::r=>(zX r).map (i::·)
 |_=>none
noncomputable def iK(m:Me)(x y:Wd):Option Bool:=match y with
 |.ref l=>match m[l]? with
  |some (.dct ks _)=>match x with
   |.int _=>some false
   |.tup ws=>(zX ws).map λk=>decide (k∈ks)
   |_=>none
  |_=>none
 |_=>none
noncomputable def e8(op:Co)(x y:Wd)(m:Me):Rz:=match op with
 |.eq=>dC (cu m yB x y) m
 |.ne=>dC ((cu m yB x y).map (!·)) m
 |.isin=>match yq m y with
  |some ys=>dC (dX (cu m yB) x ys) m
  |none=>dC (iK m x y) m
 |.lt=>kP (λi j=>decide (i<j)) x y m
 |.le=>kP (λi j=>decide (i<=j)) x y m
 |.gt=>kP (λi j=>decide (j<i)) x y m
 |.ge=>kP (λi j=>decide (j<=i)) x y m
noncomputable def cN(t:Tg)(x:Wd)(m:Me):Option Bool:=match t,x with
 |.int,.int _=>some true
 |.int,.bl _=>some true
 |.bool,.bl _=>some true
 |.str,.str _=>some true
 |.tuple,.tup _=>some true
 |.list,.rol _=>some true
 |t,.ref l=>match m[l]? with
  |some (.lst _)=>some (decide (t=.list))
  |some (.dct _ _)=>some (decide (t=.dict))
  |none=>none
 |_,_=>some false
def aS(n d:Nat):Option Int->Nat
 |none=>d
 |some v=>if v<0 then(v+(n:Int)).toNat else min v.toNat n
noncomputable def jK:List Wd->Option Int
 |[]=>some 0
 |.int i::r=>(jK r).map (i+·)
 |_=>none
noncomputable def kz(m:Me):Wd->Option (List Wd)
 |.rol xs=>some xs
 |.ref l=>zj m l
 |_=>none
noncomputable def bZ:List Int->List Int->Bool
 |[],[]=>false
 |[],_::_=>true
 |_::_,[]=>false
 |x::xs,y::ys=>if x=y then bZ xs ys else decide (x<y)
noncomputable def kj(m:Me):List Wd->Option (List (List Int))
 |[]=>some []
 |.ref l::r=>match zj m l with
  |some xs=>match zX xs,kj m r with
   |some k,some ks=>some (k::ks)
   |_,_=>none
  |none=>none
 |_=>none
noncomputable def iB:List (List Int)->Option (List Int)
 |r::rs=>if r.length≠0/\rs.all (λq=>q.length==r.length)=true then some (((r.length:Int)+1)::(r::rs).flatten)else none
 |[]=>none
noncomputable def qF(m:Me)(xs:List Wd):Option (List Int):=match zX xs with
 |some k=>some (0::k)
 |none=>(kj m xs).bind iB
noncomputable def wd(m:Me):List Wd->Option (List (List Int))
 |[]=>some []
 |.ref l::r=>match zj m l with
  |some xs=>match qF m xs,wd m r with
   |some k,some ks=>some (k::ks)
   |_,_=>none
  |none=>none
 |_=>none
noncomputable def yY:Int->List Int->Int
 |a,[]=>a
 |a,b::r=>yY (if b<a then b else a) r
noncomputable def xo:Int->List Int->Int
 |a,[]=>a
 |a,b::r=>xo (if b > a then b else a) r
noncomputable def y7:List (List Int)->Bool
 |x::y::r=>bZ x y&&(decide (x.length=y.length)&&decide (x.head?=y.head?))&&y7 (y::r)
 |_=>true
noncomputable def kQ{α β:Type}:List α->(List α->β)->β
 |[],k=>k []
 |x::xs,k=>kQ xs λys=>k (x::ys)
theorem xh:∀(xs:List α) (k:List α->β),kQ xs k=k xs
 |[],_=>rfl
 |x::xs,k=>xh xs λys=>k (x::ys)
noncomputable def io{β:Type}(i:Int)(k:Int->β):β:=match i with
 |.ofNat 0=>k 0
 |.ofNat (n+1)=>k (.ofNat (n+1))
 |.negSucc 0=>k (-1)
 |.negSucc (n+1)=>k (.negSucc (n+1))
def rW (i:Int)(k:Int->β):io i k=k i:=by
 cases i with
 |ofNat n=>cases n<;>rfl
 |negSucc n=>cases n<;>rfl
noncomputable def fj{β:Type}:List Int->(List Int->β)->β
 |[],k=>k []
 |x::xs,k=>io x λy=>fj xs λys=>k (y::ys)
theorem gJ:∀(xs:List Int) (k:List Int->β),fj xs k=k xs
 |[],_=>rfl
 |x::xs,k=>by
  show io x (λy=>fj xs λys=>k (y::ys))=_;rw[rW,gJ]
noncomputable def kl{β:Type}:List (List Int)->(List (List Int)->β)->β
 |[],k=>k []
 |x::xs,k=>fj x λy=>kl xs λys=>k (y::ys)
theorem kR:∀(xs:List (List Int)) (k:List (List Int)->β),kl xs k=k xs
 |[],_=>rfl
 |x::xs,k=>by
  show fj x (λy=>kl xs λys=>k (y::ys))=_;rw[gJ,kR]
noncomputable def zz{α:Type}(p:List Int×α):List (List Int×α)->List (List Int×α)
 |[]=>[p]
 |q::r=>if bZ p.1 q.1 then p::q::r else q::zz p r
noncomputable def zA{α:Type}:List (List Int×α)->List (List Int×α)
 |[]=>[]
 |p::r=>kQ (zA r) λs=>zz p s
def yr (p:List Int×α)(r:List (List Int×α)):zA (p::r)=zz p (zA r):=xh (zA r) λs=>zz p s
noncomputable def yS(α:Type)(ks:List (List Int))(xs:List α):Option (List α):=kl ks λks=>kQ xs λxs=>kQ (ks.zip xs) λz=>kQ (zA z) λs=>if y7 (s.map Prod.fst)then some (s.map Prod.snd)else none
def wf(α:Type)(ks:List (List Int))(xs:List α):yS α ks xs=if y7 ((zA (ks.zip xs)).map Prod.fst)then some ((zA (ks.zip xs)).map Prod.snd)else none:=by
 unfold yS;rw[kR,xh,xh,xh]
def fA(ns:List Int):List Int:=ns.mergeSort λa b=>decide (a<=b)
noncomputable def vq(b:dR)(ws:List Wd)(m:Me):Rz:=match b with
 |.sortI=>match ws with
  |[x]=>match (kz m x).bind zX with
   |some k=>if k.length<64 then alloc m ((fA k).map Wd.int)else .no
   |none=>.no
  |_=>.no
 |.sorted=>match ws with
  |[.ref l]=>match zj m l with
   |some xs=>match (wd m xs).bind λks=>yS Wd ks xs with
    |some ys=>alloc m ys
    |none=>.no
   |none=>.no
  |_=>.no
 |.minS=>match ws with
  |[x]=>match (yq m x).bind zX with
   |some (i::r)=>.ok (.int (yY i r)) m
   |_=>.no
  |_=>.no
 |.maxS=>match ws with
  |[x]=>match (yq m x).bind zX with
   |some (i::r)=>.ok (.int (xo i r)) m
   |_=>.no
  |_=>.no
 |.len=>match ws with
  |[x]=>match yq m x with
   |some xs=>.ok (.int xs.length) m
   |none=>.no
  |_=>.no
 |.int=>match ws with
  |[.int i]=>.ok (.int i) m
  |[.bl b]=>.ok (.int (b2i b)) m
  |_=>.no
 |.list=>match ws with
  |[x]=>match yq m x with
   |some xs=>alloc m xs
   |none=>.no
  |_=>.no
 |.tuple=>match ws with
  |[x]=>match yq m x with
   |some xs=>.ok (.tup xs) m
   |none=>.no
  |_=>.no
 |.sum=>match ws with
  |[x]=>match (kz m x).bind jK with
   |some i=>.ok (.int i) m
   |none=>.no
  |_=>.no
noncomputable def du(n:dM)(o:Wd)(ws:List Wd)(m:Me):Rz:=match o with
 |.ref l=>match m[l]? with
  |some (.lst xs)=>match n,ws with
   |.append,[y]=>if xs.length<aq then .ok .non (m.set l (.lst (xs++[y])))else .no
   |.pop,[]=>match xs[xs.length-1]? with
    |some y=>.ok y (m.set l (.lst xs.dropLast))
    |none=>.no
   |.reverse,[]=>.ok .non (m.set l (.lst xs.reverse))
   |_,_=>.no
  |_=>.no
 |_=>.no
noncomputable def yC(x:Wd)(m:Me):Bool:=match x with
 |.ref l=>aX m l
 |_=>false
noncomputable def kA(x y:Wd)(m:Me):Rz:=match y with
 |.int i=>match yq m x with
  |some xs=>match (ix xs.length i).bind λj=>xs[j]? with
   |some v=>.ok v m
   |none=>.no
  |none=>.no
 |_=>.no
def kS:Wd->Option (List Int)
 |.tup ws=>zX ws
 |_=>none
noncomputable def cq{α:Type}:List (List Int)->List α->List Int->Option α
 |k::ks,w::ws,q=>if k=q then some w else cq ks ws q
 |_,_,_=>none
noncomputable def xp(ks:List (List Int))(q:List Int):List (List Int):=if q∈ks then ks else ks++[q]
noncomputable def zL{α:Type}:List (List Int)->List α->List Int->α->List α
 |k::ks,w::ws,q,v=>if k=q then v::ws else w::zL ks ws q v
 |_,ws,_,v=>ws++[v]
noncomputable def jX(x y:Wd)(m:Me):Rz:=match x with
 |.ref l=>match m[l]? with
  |some (.dct ks ws)=>match (kS y).bind (cq ks ws)with
   |some v=>.ok v m
   |none=>.no
  |_=>.no
 |_=>.no
noncomputable def vt(x y v:Wd)(m:Me):Rz:=match x with
 |.ref l=>match m[l]? with
  |some (.dct ks ws)=>match kS y with
   |some q=>if ks.length<aq then .ok .non (m.set l (.dct (xp ks q) (zL ks ws q v)))else .no
   |none=>.no
  |_=>.no
 |_=>.no
noncomputable def eU(x:Wd)(lo hi:Option Int)(m:Me):Rz:=match x with
 |.tup xs=>if aS xs.length 0 lo=0/\aS xs.length xs.length hi=xs.length then .no else .ok (.tup ((xs.drop (aS xs.length 0 lo)).take (aS xs.length xs.length hi-aS xs.length 0 lo))) m
 |x=>match kz m x with
 |some xs=>alloc m ((xs.drop (aS xs.length 0 lo)).take (aS xs.length xs.length hi-aS xs.length 0 lo))
 |none=>.no
noncomputable def eP(lo st:Int):Nat->List Wd
 |0=>[]
 |n+1=>.int lo::eP (lo+st) st n
noncomputable def i8(k:Dk)(x:Wd)(m:Me):Bool:=match k with
 |.one=>true
 |.trg=>true
 |_=>match x with
  |.ref l=>match m[l]? with
   |some (.dct _ _)=>true
   |_=>false
  |_=>false
noncomputable def kT(k:Dk)(x y z:Wd)(m:Me):Rz:=match k with
 |.get=>match x with
  |.ref l=>match m[l]? with
   |some (.dct ks ws)=>match kS y with
    |some q=>match cq ks ws q with
     |some v=>.ok v m
     |none=>.ok z m
    |none=>.no
   |_=>.no
  |_=>.no
 |.one=>match kS y with
  |some q=>.ok (.ref m.length) (m++[.dct [q] [z]])
  |none=>.no
 |.sum=>match x with
  |.ref l=>match m[l]? with
   |some (.dct _ ws)=>match jK ws with
    |some i=>.ok (.int i) m
    |none=>.no
   |_=>.no
  |_=>.no
 |.trg=>match x with
  |.int j=>if -aq<=j/\j<=aq then .ok (.tup (eP 0 1 j.toNat)) m else .no
  |_=>.no
noncomputable def fy(a b c:Int):Nat:=if c=1 then(b-a).toNat else if c=-1 then(a-b).toNat else 0
noncomputable def fx(a b c:Wd)(m:Me):Rz:=match a,b,c with
 |.int a,.int b,.int c=>if -aq<=a/\a<=aq/\-aq<=b/\b<=aq/\(c=1\/c=-1)then .ok (.tup (eP a c (fy a b c))) m else .no
 |_,_,_=>.no
def Rz.bind(r:Rz)(f:Wd->Me->Rz):Rz:=match r with
 |.ok w m=>f w m
 |r=>r
noncomputable def y8(c e:Wd->Me->Rz):List Wd->List Wd->Me->Rz
 |[],acc,m=>alloc m acc
 |x::xs,acc,m=>(c x m).bind λb m1=>match b with
  |.bl true=>(e x m1).bind λy m2=>if acc.length<aq then y8 c e xs (acc++[y]) m2 else .no
  |.bl false=>y8 c e xs acc m1
  |_=>.no
noncomputable def y9(c e:Wd->Me->Rz)(l:Nat):Nat->Nat->List Wd->Me->Rz
 |0,_,_,_=>.no
 |k+1,i,acc,m=>match zj m l with
  |none=>.no
  |some xs=>match xs[i]? with
   |none=>alloc m acc
   |some x=>(c x m).bind λb m1=>match b with
    |.bl true=>(e x m1).bind λy m2=>if acc.length<aq then y9 c e l k (i+1) (acc++[y]) m2 else .no
    |.bl false=>y9 c e l k (i+1) acc m1
    |_=>.no
noncomputable def iA:Wd->Option (Wd×Wd)
 |.tup [x,y]=>some (x,y)
 |_=>none
def w5(m:Me):Wd->Option (List Wd)
 |.tup xs=>some xs
 |.ref l=>zj m l
 |_=>none
noncomputable def zB(k:Kd)(x y:Wd)(i:Nat)(m:Me):Option (Option (Wd×Wd)):=match k,x,y with
 |.zip,x,y=>match w5 m x,w5 m y with
  |some xs,some ys=>some (match xs[i]?,ys[i]? with
   |some x,some y=>some (x,y)
   |_,_=>none)
  |_,_=>none
 |.enum,.ref la,.int s=>match zj m la with
  |some xs=>some (xs[i]?.map λx=>(.int (s+(i:Int)),x))
  |none=>none
 |.prs,.ref la,.int _=>match zj m la with
  |some xs=>match xs[i]? with
   |none=>some none
   |some w=>(iA w).map some
  |none=>none
 |.ptp,.tup xs,.int _=>match xs[i]? with
  |none=>some none
  |some w=>(iA w).map some
 |_,_,_=>none
noncomputable def yg(c e:Wd->Wd->Me->Rz)(g:Nat->Me->Option (Option (Wd×Wd))):Nat->Nat->List Wd->Me->Rz
 |0,_,_,_=>.no
 |k+1,i,acc,m=>match g i m with
  |none=>.no
  |some none=>alloc m acc
  |some (some (x,y))=>(c x y m).bind λb m1=>match b with
   |.bl true=>(e x y m1).bind λz m2=>if acc.length<aq then yg c e g k (i+1) (acc++[z]) m2 else .no
   |.bl false=>yg c e g k (i+1) acc m1
   |_=>.no
def zy:Wd->List Wd
 |.tup xs=>xs
 |_=>[]
noncomputable def ag(cl:Nat->List Wd->Me->Rz):Ex->En->Me->Rz
 |.var i,env,m=>match env[i]? with
  |some (some w)=>.ok w m
  |_=>.no
 |.lit w,_,m=>.ok w m
 |.bin op a b,env,m=>(ag cl a env m).bind λx m1=>(ag cl b env m1).bind λy m2=>cQ op x y m2
 |.neg a,env,m=>(ag cl a env m).bind λx m1=>match x with
  |.int i=>.ok (.int (-i)) m1
  |_=>.no
 |.not a,env,m=>(ag cl a env m).bind λx m1=>match x with
  |.bl b=>.ok (.bl (! b)) m1
  |_=>.no
 |.and a b,env,m=>(ag cl a env m).bind λx m1=>match x with
  |.bl true=>ag cl b env m1
  |.bl false=>.ok (.bl false) m1
  |_=>.no
 |.or a b,env,m=>(ag cl a env m).bind λx m1=>match x with
  |.bl false=>ag cl b env m1
  |.bl true=>.ok (.bl true) m1
  |_=>.no
 |.cmp op a b,env,m=>(ag cl a env m).bind λx m1=>(ag cl b env m1).bind λy m2=>e8 op x y m2
 |.chain p q a b c,env,m=>(ag cl a env m).bind λx m1=>(ag cl b env m1).bind λy m2=>(e8 p x y m2).bind λz m3=>match z with
  |.bl true=>(ag cl c env m3).bind λu m4=>e8 q y u m4
  |.bl false=>.ok (.bl false) m3
  |_=>.no
 |.ife c a b,env,m=>(ag cl c env m).bind λx m1=>match x with
  |.bl true=>ag cl a env m1
  |.bl false=>ag cl b env m1
  |_=>.no
 |.unit,_,m=>.ok (.tup []) m
 |.pair a b,env,m=>(ag cl a env m).bind λx m1=>(ag cl b env m1).bind λy m2=>.ok (.tup (x::zy y)) m2
 |.call k a,env,m=>(ag cl a env m).bind λx m1=>cl k (zy x) m1
 |.blt b a,env,m=>(ag cl a env m).bind λx m1=>vq b (zy x) m1
 |.isi t a,env,m=>(ag cl a env m).bind λx m1=>dC (cN t x m1) m1
 |.lst a,env,m=>(ag cl a env m).bind λx m1=>alloc m1 (zy x)
 |.tup a,env,m=>(ag cl a env m).bind λx m1=>if(zy x).length<=aq then .ok (.tup (zy x)) m1 else .no
 |.dict0,_,m=>.ok (.ref m.length) (m++[.dct [] []])
 |.idx a b,env,m=>(ag cl a env m).bind λx m1=>(ag cl b env m1).bind λy m2=>kA x y m2
 |.dget a b,env,m=>(ag cl a env m).bind λx m1=>(ag cl b env m1).bind λy m2=>jX x y m2
 |.dop k a b c,env,m=>(ag cl a env m).bind λx m1=>match i8 k x m1 with
  |true=>(ag cl b env m1).bind λy m2=>(ag cl c env m2).bind λz m3=>kT k x y z m3
  |false=>.no
 |.slL a lo,env,m=>(ag cl a env m).bind λx m1=>(ag cl lo env m1).bind λy m2=>match y with
  |.int i=>eU x (some i) none m2
  |_=>.no
 |.meth n o a,env,m=>(ag cl o env m).bind λx m1=>match yC x m1 with
  |true=>(ag cl a env m1).bind λy m2=>du n x (zy y) m2
  |false=>.no
 |.rng a b c,env,m=>(ag cl a env m).bind λx m1=>(ag cl b env m1).bind λy m2=>(ag cl c env m2).bind λz m3=>fx x y z m3
 |.comp elt it cond,env,m=>(ag cl it env m).bind λx m1=>match x with
  |.tup xs=>y8 (λx m=>ag cl cond (env++[some x]) m) (λx m=>ag cl elt (env++[some x]) m) xs [] m1
  |.rol xs=>y8 (λx m=>ag cl cond (env++[some x]) m) (λx m=>ag cl elt (env++[some x]) m) xs [] m1
  |.ref l=>y9 (λx m=>ag cl cond (env++[some x]) m) (λx m=>ag cl elt (env++[some x]) m) l (aq+1) 0 [] m1
  |_=>.no
 |.compP k elt a b cond,env,m=>(ag cl a env m).bind λx m1=>(ag cl b env m1).bind λy m2=>
  yg (λu v m=>ag cl cond (env++[some u]++[some v]) m) (λu v m=>ag cl elt (env++[some u]++[some v]) m) (zB k x y) (aq+1) 0 [] m2
noncomputable def wT(body:Wd->En->Me->Rs):List Wd->En->Me->Rs
 |[],env,m=>.next env m
 |x::xs,env,m=>match body x env m with
  |.next e1 m1=>wT body xs e1 m1
  |.cont e1 m1=>wT body xs e1 m1
  |.brk e1 m1=>.next e1 m1
  |r=>r
noncomputable def x5(body:Wd->En->Me->Rs)(l:Nat):Nat->Nat->En->Me->Rs
 |0,_,_,_=>.no
 |k+1,i,env,m=>match zj m l with
  |none=>.no
  |some xs=>match xs[i]? with
   |none=>.next env m
   |some x=>match body x env m with
    |.next e1 m1=>x5 body l k (i+1) e1 m1
    |.cont e1 m1=>x5 body l k (i+1) e1 m1
    |.brk e1 m1=>.next e1 m1
    |r=>r
noncomputable def xq(body:Wd->En->Me->Rs)(l n:Nat):Nat->Nat->En->Me->Rs
 |0,_,_,_=>.no
 |k+1,i,env,m=>match m[l]? with
  |some (.dct ks _)=>if ks.length=n then match ks[i]? with
   |none=>.next env m
   |some q=>match body (.tup (q.map Wd.int)) env m with
    |.next e1 m1=>xq body l n k (i+1) e1 m1
    |.cont e1 m1=>xq body l n k (i+1) e1 m1
    |.brk e1 m1=>.next e1 m1
    |r=>r
   else .no
  |_=>.no
noncomputable def xr(l n i:Nat)(m:Me):Option (Option (Wd×Wd)):=match m[l]? with
 |some (.dct ks ws)=>if ks.length=n then some (match ks[i]?,ws[i]? with
  |some q,some w=>some (.tup (q.map Wd.int),w)
  |_,_=>none)else none
 |_=>none
noncomputable def xa(m:Me)(l:Nat):Nat:=match m[l]? with
 |some (.dct ks _)=>ks.length
 |_=>0
noncomputable def yz(body:Wd->En->Me->Rs)(g:Nat->Me->Option (Option (Wd×Wd))):Nat->Nat->En->Me->Rs
 |0,_,_,_=>.no
 |k+1,i,env,m=>match g i m with
  |none=>.no
  |some none=>.next env m
  |some (some (x,y))=>match body (.tup [x,y]) env m with
   |.next e1 m1=>yz body g k (i+1) e1 m1
   |.cont e1 m1=>yz body g k (i+1) e1 m1
   |.brk e1 m1=>.next e1 m1
   |r=>r
noncomputable def Rz.bindS(r:Rz)(env:En)(f:Wd->Me->Rs):Rs:=match r with
 |.ok w m=>f w m
 |.exc c w m=>.exc c w env m
 |.no=>.no
noncomputable def fw(body:Wd->En->Me->Rs)(w:Wd)(env:En)(m:Me):Rs:=match w with
 |.tup xs=>wT body xs env m
 |.rol xs=>wT body xs env m
 |.ref l=>x5 body l (aq+1) 0 env m
 |_=>.no
noncomputable def cw(i j:Nat):Wd->En->Option En:=λw env=>match w with
 |.tup [a,b]=>some ((env.set i (some a)).set j (some b))
 |_=>none
noncomputable def GC(i j k:Nat)(w:Wd)(m:Me)(env:En):Option En:=match yq m w with
 |some [a,b,c]=>some (((env.set i (some a)).set j (some b)).set k (some c))
 |_=>none
noncomputable def zJ(st:Wd->En->Option En)(b:En->Me->Rs):Wd->En->Me->Rs:=λw env m=>match st w env with
 |some env'=>b env' m
 |none=>.no
noncomputable def fK(op:Bo)(x y:Wd)(m:Me)(env:En)(f:Wd->Me->Rs):Rs:=match x,y with
 |.int _,.int _=>(cQ op x y m).bindS env f
 |_,_=>.no
noncomputable def bD(cl:Nat->List Wd->Me->Rz):Sm->En->Me->Rs
 |.skip,env,m=>.next env m
 |.seq a b,env,m=>match bD cl a env m with
  |.next e1 m1=>bD cl b e1 m1
  |r=>r
 |.asg i e,env,m=>(ag cl e env m).bindS env λw m1=>.next (env.set i (some w)) m1
 |.aug i op e,env,m=>match env[i]? with
  |some (some x)=>(ag cl e env m).bindS env λy m1=>fK op x y m1 env λz m2=>.next (env.set i (some z)) m2
  |_=>.no
 |.ite c a b,env,m=>(ag cl c env m).bindS env λx m1=>match x with
  |.bl true=>bD cl a env m1
  |.bl false=>bD cl b env m1
  |_=>.no
 |.forv i it body,env,m=>(ag cl it env m).bindS env λw m1=>fw (λx e m=>bD cl body (e.set i (some x)) m) w env m1
 |.fort i j it body,env,m=>(ag cl it env m).bindS env λw m1=>fw (zJ (cw i j) (bD cl body)) w env m1
 |.ret e,env,m=>(ag cl e env m).bindS env λw m1=>.ret w m1
 |.expr e,env,m=>(ag cl e env m).bindS env λ_ m1=>.next env m1
 |.forZ i j a b body,env,m=>(ag cl a env m).bindS env λx m1=>(ag cl b env m1).bindS env λy m2=>yz (zJ (cw i j) (bD cl body)) (zB .zip x y) (aq+1) 0 env m2
 |.dput x k e,env,m=>(ag cl e env m).bindS env λv m1=>(ag cl (.var x) env m1).bindS env λd m2=>(ag cl k env m2).bindS env λq m3=>(vt d q v m3).bindS env λ_ m4=>.next env m4
 |.forD i x body,env,m=>(ag cl (.var x) env m).bindS env λw m1=>match w with
  |.ref l=>xq (λq e m=>bD cl body (e.set i (some q)) m) l (xa m1 l) (aq+1) 0 env m1
  |_=>.no
 |.forI i j x body,env,m=>(ag cl (.var x) env m).bindS env λw m1=>match w with
  |.ref l=>yz (zJ (cw i j) (bD cl body)) (xr l (xa m1 l)) (aq+1) 0 env m1
  |_=>.no
 |.never,_,_=>.no
set_option genInjectivity false in
structure Fn where
 ar:Nat
 sz:Nat
 body:Sm
deriving Inhabited
noncomputable def xU(fn:Fn)(ws:List Wd):En:=ws.map some++Qg (fn.sz-ws.length) none
noncomputable def gK(cl:Nat->List Wd->Me->Rz)(fn:Fn)(ws:List Wd)(m:Me):Rz:=
 if ws.length=fn.ar then match bD cl fn.body (xU fn ws) m with
  |.next _ m1=>.ok .non m1
  |.ret w m1=>.ok w m1
  |.exc c w _ m1=>.exc c w m1
  |_=>.no
 else .no
noncomputable def xb(T:List Fn):Nat->Nat->List Wd->Me->Rz
 |0,_,_,_=>.no
 |d+1,k,ws,m=>match T[k]? with
  |some fn=>gK (xb T d) fn ws m
  |none=>.no
end Mini
namespace Mini
open PySem PySem.Spec PyProof.Rows L2
abbrev St:=L2.St
def KL(K:Qb)(a:Addr)(xs:List V):Prop:=
 ∃(o:Obj) (its:Array Value) (n:Nat),K.lookup a=some o/\o.cls=.type "list" /\ o.dict=none/\o.data=.seq its n/\its.size<=sizeLine/\av xs its.toList
def ef(K:Qb)(H:Hp)(a:Addr)(vs:List V):Prop:=(∃o,H a=some (.frz o (.lst vs)))\/KL K a vs
def ef.sq {K:Qb}(h:ef K H a vs):bE K H a vs:=by
 rcases h with h|h
 .exact .inl (.inr h)
 .exact .inr h
mutual
noncomputable def ah(K:Qb)(as:List Addr)(H:Hp):Wd->V->Prop
 |.non,v=>v=.non
 |.bl b,v=>v=.bl b
 |.int i,v=>v=.int i
 |.str s,v=>v=.str ⟨s.toArray⟩
 |.tup xs,v=>∃a vs,v=.ref a/\bI K H a vs/\aa K as H xs vs
 |.rol xs,v=>∃a vs,v=.ref a/\ef K H a vs/\aa K as H xs vs
 |.ref l,v=>∃a,as[l]?=some a/\v=.ref a
noncomputable def aa(K:Qb)(as:List Addr)(H:Hp):List Wd->List V->Prop
 |[],vs=>vs=[]
 |x::xs,vs=>∃v r,vs=v::r/\ah K as H x v/\aa K as H xs r
end
def bz(K:Qb)(as:List Addr)(H:Hp):Ob->Addr->Prop
 |.lst ws,a=>∃vs,H a=some (.lst vs)/\aa K as H ws vs
 |.dct ks ws,a=>∃xs vs,yb K H a xs/\xs.map (·.1)=ks/\aa K as H ws vs/\av vs (xs.map (·.2.2))/\ks.Nodup
structure aK(K:Qb)(as:List Addr)(m:Me)(H:Hp):Prop where
 len:as.length=m.length
 nd:as.Nodup
 obj:∀(l:Nat) (a:Addr) (o:Ob),as[l]?=some a->m[l]?=some o->bz K as H o a
structure Step(as:List Addr)(H:Hp)(as':List Addr)(H':Hp):Prop where
 pre:∃t,as'=as++t
 frame:∀b o,H b=some o->b∉as->H' b=some o
 fresh:∀a∈as',a∈as\/H a=none
section
variable{K:Qb}{as as' as2:List Addr}{H H' H2:Hp}{m m':Me}
def Step.refl:Step as H as H:=⟨⟨[],by simp⟩,λ_ _ h _=>h,λ_ h=>.inl h⟩
def Step.get (T:Step as H as' H'){l:Nat}(h:as[l]?=some a):as'[l]?=some a:=by
 obtain⟨t,rfl⟩:=T.pre;rw[Qf (Qa.mp h).1];exact h
def Step.out (T:Step as H as' H')(h:H b=some o)(hb:b∉as):b∉as':=λz=>by
 rcases T.fresh b z with q|q
 .exact hb q
 .rw[h]at q;cases q
def Step.trans(T:Step as H as' H')(U:Step as' H' as2 H2):Step as H as2 H2:=by
 refine⟨?_,λb o h hb=>U.frame b o (T.frame b o h hb) (T.out h hb),λa ha=>?_⟩
 .obtain ⟨t,rfl⟩:=T.pre;obtain⟨u,rfl⟩:=U.pre;exact⟨t++u,by simp⟩
 .rcases U.fresh a ha with q|q
  .exact T.fresh a q
  .by_cases z:a∈as
   .exact .inl z
   .refine .inr ?_;cases e:H a with
    |none=>rfl
    |some o=>rw[T.frame a o e z]at q;cases q
def aK.get (S:aK K as m H){l:Nat}(h:m[l]?=some o):∃a,as[l]?=some a/\bz K as H o a:=by
 have hl:l<as.length:=by rw[S.len];exact(Qa.mp h).1
 exact⟨as[l],by simp[hl],S.obj l _ o (by simp[hl]) h⟩
def LD:HO->Prop
 |.lst _=>True
 |.ext _=>True
 |.dK _=>True
 |_=>False
def aK.isLst (S:aK K as m H)(h:a∈as):∃o,H a=some o/\LD o:=by
 obtain⟨l,hl,rfl⟩:=W2.mp h;have hm:l<m.length:=by rw[<-S.len];exact hl
 have q:=S.obj l as[l] m[l] (by simp[hl]) (by simp[hm]);cases e:m[l]with
 |lst ws=>
  rw[e]at q;obtain⟨vs,h1,_⟩:=q;exact⟨_,h1,trivial⟩
 |dct ks ws=>
  rw[e]at q;obtain⟨xs,vs,h1,_⟩:=q;exact⟨_,h1.1,trivial⟩
def EK (nt:∀a∈as,∃o,H a=some o/\LD o)(T:Step as H as' H')(h:bI K H a vs):bI K H' a vs:=by
 rcases h with h|h
 .have hn:a∉as:=λz=>by
   obtain⟨u,e,hu⟩:=nt a z;rcases h with h|⟨o,h⟩<;>rw[e]at h<;>cases h<;>exact hu
  rcases h with h|⟨o,h⟩
  .exact .inl (.inl (T.frame _ _ h hn))
  .exact .inl (.inr ⟨o,T.frame _ _ h hn⟩)
 .exact .inr h
def EJ (nt:∀a∈as,∃o,H a=some o/\LD o)(T:Step as H as' H')(h:ef K H a vs):ef K H' a vs:=by
 rcases h with⟨o,h⟩|h
 .have hn:a∉as:=λz=>by
   obtain⟨u,e,hu⟩:=nt a z;rw[e]at h;cases h;exact hu
  exact .inl ⟨o,T.frame _ _ h hn⟩
 .exact .inr h
structure Kp(K:Qb)(H H':Hp):Prop where
 t:∀a vs,bI K H a vs->bI K H' a vs
 f:∀a vs,ef K H a vs->ef K H' a vs
def aK.kp(S:aK K as m H)(T:Step as H as' H'):Kp K H H':=⟨λ_ _ h=>EK (λ_ z=>S.isLst z) T h,λ_ _ h=>EJ (λ_ z=>S.isLst z) T h⟩
def Kp.updL{D:Addr}{u o:HO}(h:H D=some u)(hu:LD u):Kp K H (L2.aI H D o):=by
 refine⟨λa vs q=>?_,λa vs q=>?_⟩
 .rcases q with (q|⟨x,q⟩)|q
  .exact .inl (.inl (by rw[zd (by rintro rfl;rw[h]at q;cases q;exact hu)];exact q))
  .exact .inl (.inr ⟨x,by rw[zd (by rintro rfl;rw[h]at q;cases q;exact hu)];exact q⟩)
  .exact .inr q
 .rcases q with⟨x,q⟩|q
  .exact .inl ⟨x,by rw[zd (by rintro rfl;rw[h]at q;cases q;exact hu)];exact q⟩
  .exact .inr q
def Kp.upd{D:Addr}{ys:List V}{o:HO}(h:H D=some (.lst ys)):Kp K H (L2.aI H D o):=Kp.updL h trivial
mutual
theorem kU(k:Kp K H H')(g:∀(l:Nat) (a:Addr),as[l]?=some a->as'[l]?=some a):∀(w:Wd) (v:V),ah K as H w v->ah K as' H' w v
 |.non,_,h=>by rw[ah]at h ⊢;exact h
 |.bl _,_,h=>by rw[ah]at h ⊢;exact h
 |.int _,_,h=>by rw[ah]at h ⊢;exact h
 |.str _,_,h=>by rw[ah]at h ⊢;exact h
 |.tup xs,v,h=>by
  rw[ah]at h ⊢;obtain⟨a,vs,e,q,r⟩:=h;exact⟨a,vs,e,k.t _ _ q,bb k g xs vs r⟩
 |.rol xs,v,h=>by
  rw[ah]at h ⊢;obtain⟨a,vs,e,q,r⟩:=h;exact⟨a,vs,e,k.f _ _ q,bb k g xs vs r⟩
 |.ref l,v,h=>by
  rw[ah]at h ⊢;obtain⟨a,q,e⟩:=h;exact⟨a,g _ _ q,e⟩
theorem bb(k:Kp K H H')(g:∀(l:Nat) (a:Addr),as[l]?=some a->as'[l]?=some a):∀(ws:List Wd) (vs:List V),aa K as H ws vs->aa K as' H' ws vs
 |[],_,h=>by rw[aa]at h ⊢;exact h
 |x::xs,vs,h=>by
  rw[aa]at h ⊢;obtain⟨v,r,e,q,t⟩:=h;exact⟨v,r,e,kU k g x v q,bb k g xs r t⟩
end
def bz.mono{ob:Ob}{a:Addr}(k:Kp K H H')(g:∀(l:Nat) (a:Addr),as[l]?=some a->as'[l]?=some a)(e:∀o,H a=some o->H' a=some o)(h:bz K as H ob a):bz K as' H' ob a:=by
 cases ob with
 |lst ws=>obtain⟨vs,h1,h2⟩:=h;exact⟨vs,e _ h1,bb k g _ _ h2⟩
 |dct ks ws=>obtain⟨xs,vs,h1,h2,h3,h4⟩:=h;exact⟨xs,vs,⟨e _ h1.1,λx hx=>k.t _ _ (h1.2 x hx)⟩,h2,bb k g _ _ h3,h4⟩
def ah.mono{w:Wd}{v:V}(h:ah K as H w v)(S:aK K as m H)(T:Step as H as' H'):ah K as' H' w v:=kU (S.kp T) (λ_ _ e=>T.get e) w v h
def aa.mono{ws:List Wd}{vs:List V}(h:aa K as H ws vs)(S:aK K as m H)(T:Step as H as' H'):aa K as' H' ws vs:=bb (S.kp T) (λ_ _ e=>T.get e) ws vs h
def aa.kp{ws:List Wd}{vs:List V}(h:aa K as H ws vs)(k:Kp K H H'):aa K as H' ws vs:=bb k (λ_ _ e=>e) ws vs h
def ah.kp{w:Wd}{v:V}(h:ah K as H w v)(k:Kp K H H'):ah K as H' w v:=kU k (λ_ _ e=>e) w v h
def az:ah K as H .non v↔v=.non:=by rw[ah]
def ai:ah K as H (.bl b) v↔v=.bl b:=by rw[ah]
def ab:ah K as H (.int i) v↔v=.int i:=by rw[ah]
def aD:ah K as H (.str s) v↔v=.str ⟨s.toArray⟩:=by rw[ah]
def af:ah K as H (.tup xs) v↔∃a vs,v=.ref a/\bI K H a vs/\aa K as H xs vs:=by rw[ah]
def bm:ah K as H (.rol xs) v↔∃a vs,v=.ref a/\ef K H a vs/\aa K as H xs vs:=by rw[ah]
def aG:ah K as H (.ref l) v↔∃a,as[l]?=some a/\v=.ref a:=by rw[ah]
def au:aa K as H [] vs↔vs=[]:=by rw[aa]
def aj:aa K as H (x::xs) vs↔∃v r,vs=v::r/\ah K as H x v/\aa K as H xs r:=by rw[aa]
theorem aa.length:∀{xs:List Wd}{vs:List V},aa K as H xs vs->xs.length=vs.length
 |[],vs,h=>by rw[au.mp h];rfl
 |x::xs,vs,h=>by
  obtain⟨v,r,rfl,_,t⟩:=aj.mp h;simp[aa.length t]
theorem aa.get:∀{xs:List Wd}{vs:List V}{i:Nat}{x:Wd},aa K as H xs vs->xs[i]?=some x->∃v,vs[i]?=some v/\ah K as H x v
 |[],_,_,_,_,e=>by simp at e
 |x::xs,vs,0,y,h,e=>by
  obtain⟨v,r,rfl,q,t⟩:=aj.mp h;simp at e;subst e;exact⟨v,rfl,q⟩
 |x::xs,vs,i+1,y,h,e=>by
  obtain⟨v,r,rfl,q,t⟩:=aj.mp h;obtain⟨u,h1,h2⟩:=aa.get (i:=i) (x:=y) t (by simpa using e);exact⟨u,by simpa using h1,h2⟩
def aa.back:∀{xs:List Wd}{vs:List V}{i:Nat}{v:V},aa K as H xs vs->vs[i]?=some v->∃x,xs[i]?=some x/\ah K as H x v:=λ{xs vs i v} h e=>by
 have hi:i<xs.length:=by rw[h.length];exact(Qa.mp e).1
 obtain⟨u,h1,h2⟩:=h.get (i:=i) (x:=xs[i]) (by simp[hi]);rw[e]at h1;cases h1;exact⟨xs[i],by simp[hi],h2⟩
theorem aa.append:∀{xs ys:List Wd}{vs us:List V},aa K as H xs vs->aa K as H ys us->aa K as H (xs++ys) (vs++us)
 |[],ys,vs,us,h,h'=>by rw[au.mp h];exact h'
 |x::xs,ys,vs,us,h,h'=>by
  obtain⟨v,r,rfl,q,t⟩:=aj.mp h;exact aj.mpr ⟨v,r++us,rfl,q,t.append h'⟩
def aa.one{x:Wd}{v:V}(h:ah K as H x v):aa K as H [x] [v]:=aj.mpr ⟨v,[],rfl,h,au.mpr rfl⟩
set_option tactic.hygienic true in
theorem aa.take:∀{xs:List Wd}{vs:List V}(n:Nat),aa K as H xs vs->aa K as H (xs.take n) (vs.take n)
 |_,_,0,_=>au.mpr rfl
 |[],vs,n+1,h=>by rw[au.mp h];exact au.mpr rfl
 |x::xs,vs,n+1,h=>by
  obtain⟨v,r,rfl,q,t⟩:=aj.mp h;exact aj.mpr ⟨v,r.take n,rfl,q,t.take n⟩
theorem aa.drop:∀{xs:List Wd}{vs:List V}(n:Nat),aa K as H xs vs->aa K as H (xs.drop n) (vs.drop n)
 |_,_,0,h=>h
 |[],vs,n+1,h=>by rw[au.mp h];exact au.mpr rfl
 |x::xs,vs,n+1,h=>by
  obtain⟨v,r,rfl,q,t⟩:=aj.mp h;exact t.drop n
theorem aa.reverse:∀{xs:List Wd}{vs:List V},aa K as H xs vs->aa K as H xs.reverse vs.reverse
 |[],vs,h=>by rw[au.mp h];exact au.mpr rfl
 |x::xs,vs,h=>by
  obtain⟨v,r,rfl,q,t⟩:=aj.mp h;rw[Wr,Wr];exact t.reverse.append (.one q)
theorem aa.dropLast:∀{xs:List Wd}{vs:List V},aa K as H xs vs->aa K as H xs.dropLast vs.dropLast:=λ{xs vs} h=>by
 rw[List.dropLast_eq_take,List.dropLast_eq_take,h.length];exact h.take _
theorem aa.rep (h:aa K as H xs vs):∀k:Nat,aa K as H (Qg k xs).flatten (Qg k vs).flatten
 |0=>au.mpr rfl
 |k+1=>by
  rw[Wg,Wg,Q2,Q2];exact h.append (aa.rep h k)
structure aF(K:Qb)(as:List Addr)(H:Hp)(env:En)(σ:St):Prop where
 len:env.length=σ.length
 get:∀(i:Nat) (w:Wd),env[i]?=some (some w)->∃v,σ[i]?=some (some v)/\ah K as H w v
theorem aF.mono{env:En}{σ:St}(G:aF K as H env σ)(S:aK K as m H)(T:Step as H as' H'):aF K as' H' env σ:=
 ⟨G.len,λi w e=>let⟨v,h1,h2⟩:=G.get i w e;⟨v,h1,h2.mono S T⟩⟩
theorem aF.kp{env:En}{σ:St}(G:aF K as H env σ)(k:Kp K H H'):aF K as H' env σ:=
 ⟨G.len,λi w e=>let⟨v,h1,h2⟩:=G.get i w e;⟨v,h1,h2.kp k⟩⟩
theorem aF.set{env:En}{σ:St}(G:aF K as H env σ){w:Wd}{v:V}(h:ah K as H w v)(i:Nat):aF K as H (env.set i (some w)) (σ.set i (some v)):=by
 refine⟨by simp[G.len],λj x e=>?_⟩;by_cases hj:j=i
 .subst hj;have hl:j<env.length:=by
   have:=(Qa.mp e).1;simpa using this
  rw[Wj hl]at e;cases e;exact⟨v,Wj (by rw[<-G.len];exact hl),h⟩
 .rw[QD (Ne.symm hj)]at e;obtain⟨u,h1,h2⟩:=G.get j x e;exact⟨u,by rw[QD (Ne.symm hj)];exact h1,h2⟩
def aF.push{env:En}{σ:St}(G:aF K as H env σ){w:Wd}{v:V}(h:ah K as H w v):aF K as H (env++[some w]) (σ++[some v]):=by
 refine⟨by simp[G.len],λj x e=>?_⟩;by_cases hj:j<env.length
 .rw[Qf hj]at e;obtain⟨u,h1,h2⟩:=G.get j x e;exact⟨u,by rw[Qf (by rw[<-G.len];exact hj)];exact h1,h2⟩
 .rw[Qd (by lia)]at e;have hz:j-env.length=0:=by
   cases hq:j-env.length with
   |zero=>rfl
   |succ k=>rw[hq]at e;simp at e
  rw[hz]at e;simp at e;subst e;refine⟨v,?_,h⟩;rw[Qd (by rw[<-G.len];lia),<-G.len,hz];rfl
def ak(K:Qb)(as:List Addr)(H:Hp)(Q:VK)(r:Rz):Prop:=match r with
 |.ok w m'=>∀as' H' v,Step as H as' H'->aK K as' m' H'->ah K as' H' w v->Q v H'
 |_=>False
def ak.step{Q:VK}{r:Rz}(h:ak K as H Q r)(T:Step as H as' H'):ak K as' H' Q r:=by
 cases r with
 |ok w m'=>exact λas2 H2 v U S R=>h as2 H2 v (T.trans U) S R
 |exc c w m'=>exact h
 |no=>exact h
theorem ak.bind{Q Q1:VK}{r:Rz}{f:Wd->Me->Rz}(h:ak K as H Q (r.bind f))
  (k:∀w m' as' H' v,Step as H as' H'->aK K as' m' H'->ah K as' H' w v->ak K as' H' Q (f w m')->Q1 v H'):ak K as H Q1 r:=by
 cases r with
 |ok w m'=>exact λas2 H2 v U S R=>k w m' as2 H2 v U S R (ak.step (r:=f w m') h U)
 |exc c w m'=>exact h
 |no=>exact h
def fi (h:ak K as H Q (r.bind f))(T:Step as H as' H')(k:∀w m2 as2 H2 v,Step as' H' as2 H2->aK K as2 m2 H2->ah K as2 H2 w v->ak K as H Q (f w m2)->Q1 v H2):ak K as' H' Q1 r:=by
 cases r with
 |ok w m'=>exact λas2 H2 v U S R=>k w m' as2 H2 v U S R h
 |exc c w m'=>exact h
 |no=>exact h
def aM(K:Qb)(g:En->Me->Rz):TE:=λσ H Q=>∃as env m,aK K as m H/\aF K as H env σ/\ak K as H Q (g env m)
def xz(K:Qb)(g:En->Me->Rz):TT:=λσ H Q=>aM K g σ H λv H'=>∃b,v=.bl b/\Q b H'
theorem ak.ok (h:ak K as H Q (.ok w m))(S:aK K as m H)(R:ah K as H w v):Q v H:=h as H v .refl S R
end
def PE.imp{X:Cx}{e:Expr}{t t':TE}(h:PE X e t)(k:∀σ H Q,t' σ H Q->t σ H Q):PE X e t':=λpins s σ H Q I q=>h pins s σ H Q I (k σ H Q q)
def PT.imp{X:Cx}{e:Expr}{t t':TT}(h:PT X e t)(k:∀σ H Q,t' σ H Q->t σ H Q):PT X e t':=λpins s σ H Q I q=>h pins s σ H Q I (k σ H Q q)
def PA.imp{X:Cx}{es:List Expr}{t t':TA}(h:PA X es t)(k:∀σ H Q,t' σ H Q->t σ H Q):PA X es t':=λpos pins s σ H Q I q=>h pos pins s σ H Q I (k σ H Q q)
def PS.imp{X:Cx}{st:Stmt}{t t':TS}(h:PS X st t)(k:∀D σ H,t' D σ H->t D σ H):PS X st t':=λpins s σ H D I q=>h pins s σ H D I (k D σ H q)
def cC.imp{X:Cx}{st:List Stmt}{t t':TS}(h:cC X st t)(k:∀D σ H,t' D σ H->t D σ H):cC X st t':=λpins s σ H D I q=>h pins s σ H D I (k D σ H q)
end Mini
namespace L2
open PySem PySem.Spec PyProof.Rows
section
variable{X:Cx}
def cD(i j:Int):Prop:=i.natAbs.log2<100000/\j.natAbs.log2<100000
def oW(_ j:Int):Prop:=0<j/\j.natAbs.log2<9000
def cD.ok (h:cD i j):IntMulOk i j:=by
 have q:∀{k:Int},k.natAbs.log2<100000->Builtin.Int.intBits k<=2^20:=λ{k} hk=>by
  refine PyProof.Rows.intBits_le (Ql Nat.lt_log2_self (Nat.pow_le_pow_right (by decide) ?_));have:(2:Nat)^20=1048576:=by decide
  lia
 exact IntMulOk.of_bits (q h.1) (q h.2)
def De:bY X (Ko .Mult) (rI cD λi j=>.int (i*j)):=eE λ_ _ _ _ _ _ _ hc q=>mul_int q hc.ok
def EI:bY X (inplaceOp .Mult) (rI cD λi j=>.int (i*j)):=eE λ_ _ _ _ _ _ _ hc q=>imul_int q hc.ok
def EH:bY X (Ko .FloorDiv) (rI oW λi j=>.int (i/j)):=eE λi j _ _ _ _ _ hc q=>by
 have h1:(0:Int)<j:=hc.1;exact floordiv_int (by lia) (by rw[W8 i (by lia)];exact q) (.inl (PyProof.noPylong_of_log2 hc.2))
def oV(K:Qb):R2:=λx y H Q=>∃a b ys,x=.ref a/\y=.ref b/\bI K H a []/\bI K H b ys/\Q (.ref b) H
def Dd:bY X (Ko .Add) (oV X.K):=by
 intro pins s σ H x y v u Q I rx ry h;obtain⟨a,b,ys,rfl,rfl,ha,hb,q⟩:=h;cases rx;cases ry;obtain⟨its,r1,p1,_⟩:=I.tuple ha;obtain⟨its2,r2,p2,_⟩:=I.tuple hb;cases r1;obtain⟨⟨c1,d1,f1,l1⟩,g1,e1,n1,k1⟩:=p1;obtain⟨⟨c2,d2,f2,l2⟩,g2,e2,n2,k2⟩:=p2;simp only at e1 e2 k1 k2;subst e1 e2 k1 k2;have m:=tuple_addW0 a b #[] its2.toArray n1 n2 d1 d2 l1 l2 rfl;exact KF ⟨_,g1,rfl⟩ ⟨_,g2,rfl⟩ KG KH PySem.F.slot_tuple_add PySem.F.entry_tuple_add (PySem.F.args_tuple_add_2 _ _) m ⟨g1,g2,.ref b,H,I,rfl,q⟩
end
end L2
namespace Mini
open PySem PySem.Spec PyProof.Rows L2
section
variable{K:Qb}{as:List Addr}{H H':Hp}{m:Me}{Q:VK}{a p:Addr}{l:Nat}{ws xs:List Wd}{vs us:List V}
def yT:aq<=sizeLine:=by rw[Kt];decide
def aK.new(S:aK K as m H)(hp:H p=none):p∉as:=λz=>by
 obtain⟨us,e,_⟩:=S.isLst z;rw[hp]at e;cases e
def aK.alloc(S:aK K as m H)(hp:H p=none)(R:aa K as H ws vs):Step as H (as++[p]) (aI H p (.lst vs))/\aK K (as++[p]) (m++[.lst ws]) (aI H p (.lst vs)):=by
 have hn:=S.new hp;have T:Step as H (as++[p]) (aI H p (.lst vs)):=⟨⟨[p],rfl⟩,λb o h _=>by rw[zd (zo h hp)];exact h,λb hb=>by
  rcases Qx.mp hb with z|z
  .exact .inl z
  .exact .inr (by rw[Qq.mp z];exact hp)⟩
 refine⟨T,⟨by simp[S.len],?_,λl b o h1 h2=>?_⟩⟩
 .refine QN.mpr ⟨S.nd,by simp,λx hx y hy=>?_⟩;rw[Qq.mp hy];rintro rfl;exact hn hx
 .by_cases hl:l<as.length
  .rw[Qf hl]at h1;rw[Qf (by rw[<-S.len];exact hl)]at h2;have q:=S.obj l b o h1 h2;cases o with
   |lst ys=>
    obtain⟨zs,e,r⟩:=q;exact⟨zs,by rw[zd (zo e hp)];exact e,r.mono S T⟩
   |dct ks us=>exact bz.mono (ob:=.dct ks us) (S.kp T) (λ_ _ e=>T.get e) (λo e=>by rw[zd (zo e hp)];exact e) q
  .rw[Qd (by lia)]at h1;rw[Qd (by rw[<-S.len];lia)]at h2;have hz:l-as.length=0:=by
    cases hq:l-as.length with
    |zero=>rfl
    |succ k=>rw[hq]at h1;simp at h1
   rw[hz]at h1;rw[<-S.len,hz]at h2;simp at h1 h2;subst h1;subst h2;exact⟨vs,ze,R.mono S T⟩
theorem aK.set(S:aK K as m H)(ha:as[l]?=some a)(hm:m[l]?=some (.lst xs))(R:aa K as H ws vs):Step as H as (aI H a (.lst vs))/\aK K as (m.set l (.lst ws)) (aI H a (.lst vs)):=by
 have hin:a∈as:=Qp ha;have T:Step as H as (aI H a (.lst vs)):=⟨⟨[],by simp⟩,λb o h hb=>by
  rw[zd (by rintro rfl;exact hb hin)];exact h,λb hb=>.inl hb⟩
 refine⟨T,⟨by simp[S.len],S.nd,λk b o h1 h2=>?_⟩⟩;by_cases hk:k=l
 .subst hk;rw[ha]at h1;cases h1;rw[Wj (Qa.mp hm).1]at h2;cases h2;exact⟨vs,ze,R.mono S T⟩
 .rw[QD (Ne.symm hk)]at h2;have q:=S.obj k b o h1 h2;have hb:b≠a:=by
   rintro rfl;obtain⟨i1,e1⟩:=Qa.mp h1;obtain⟨i2,e2⟩:=Qa.mp ha;exact hk ((WZ S.nd).mp (e1.trans e2.symm))
  cases o with
  |lst ys=>
   obtain⟨zs,e,r⟩:=q;exact⟨zs,by rw[zd hb];exact e,r.mono S T⟩
  |dct ks us=>exact bz.mono (ob:=.dct ks us) (S.kp T) (λ_ _ e=>T.get e) (λo e=>by rw[zd hb];exact e) q
def aK.keep(S:aK K as m H)(T:Step as H as H')(hk:∀a∈as,∀o,H a=some o->H' a=some o):aK K as m H':=by
 refine⟨S.len,S.nd,λl b o h1 h2=>?_⟩;have q:=S.obj l b o h1 h2;cases o with
 |lst ys=>
  obtain⟨zs,e,r⟩:=q;exact⟨zs,hk b (Qp h1) _ e,r.mono S T⟩
 |dct ks us=>exact bz.mono (ob:=.dct ks us) (S.kp T) (λ_ _ e=>T.get e) (λo e=>hk b (Qp h1) _ e) q
theorem aK.tup(S:aK K as m H)(hp:H p=none)(R:aa K as H ws vs):Step as H as (aI H p (.tup vs))/\aK K as m (aI H p (.tup vs))/\ah K as (aI H p (.tup vs)) (.tup ws) (.ref p):=by
 have T:Step as H as (aI H p (.tup vs)):=⟨⟨[],by simp⟩,λb o h _=>by rw[zd (zo h hp)];exact h,λb hb=>.inl hb⟩;exact⟨T,S.keep T λb _ o e=>by rw[zd (zo e hp)];exact e,af.mpr ⟨p,vs,rfl,bI.of ze,R.mono S T⟩⟩
def xt(S:aK K as m H)(R:aa K as H ws vs)(h:ak K as H Q (alloc m ws)):vs.length<=aq/\∀p,H p=none->Q (.ref p) (aI H p (.lst vs)):=by
 unfold Mini.alloc at h;by_cases hl:ws.length<=aq
 .rw[Mk hl]at h;refine⟨by rw[<-R.length];exact hl,λp hp=>?_⟩;obtain⟨T,S'⟩:=S.alloc hp R;refine h _ _ _ T S' (aG.mpr ⟨p,?_,rfl⟩);rw[<-S.len,Qd (Qh _)];simp
 .rw[Ml hl]at h;exact h.elim
def ya(S:aK K as m H)(hm:m[l]?=some (.lst xs)):∃a vs,as[l]?=some a/\H a=some (.lst vs)/\aa K as H xs vs:=by
 obtain⟨a,ha,vs,e,r⟩:=S.get hm;exact⟨a,vs,ha,e,r⟩
def zR (h:zj m l=some xs):m[l]?=some (.lst xs):=by
 unfold zj at h;cases e:m[l]? with
 |none=>rw[e]at h;cases h
 |some o=>cases o with
  |lst ys=>rw[e]at h;cases h;rfl
  |dct ks us=>rw[e]at h;cases h
def w6 (S:aK K as m H)(R:ah K as H w v)(h:yq m w=some xs):∃p vs,v=.ref p/\(bE K H p vs\/bI K H p vs)/\aa K as H xs vs:=by
 cases w with
 |tup ys=>
  cases h;obtain⟨b,vs,rfl,q,r⟩:=af.mp R;exact⟨b,vs,rfl,.inr q,r⟩
 |rol ys=>
  cases h;obtain⟨b,vs,rfl,q,r⟩:=bm.mp R;exact⟨b,vs,rfl,.inl q.sq,r⟩
 |ref l=>
  obtain⟨b,hb,rfl⟩:=aG.mp R;obtain⟨a,vs,ha,e,r⟩:=ya S (zR h);rw[hb]at ha;cases ha;exact⟨b,vs,rfl,.inl (bE.of e),r⟩
 |non=>cases h
 |bl b=>cases h
 |int i=>cases h
 |str s=>cases h
noncomputable def fD:Bo->Ka
 |.add=>.Add |.sub=>.Sub |.mul=>.Mult |.fdiv=>.FloorDiv |.mod=>.Mod |.pow=>.Pow |.shr=>.RShift |.band=>.BitAnd |.mulB=>.Mult |.fdivB=>.FloorDiv
def rB(K:Qb):Bo->R2
 |.add=>λx y H Q=>dy (λi j=>.int (i+j)) x y H Q\/(nY x y H Q\/(o9 K x y H Q\/oV K x y H Q))
 |.sub=>dy λi j=>.int (i-j)
 |.mul=>λx y H Q=>rI em (λi j=>.int (i*j)) x y H Q\/nX x y H Q
 |.fdiv=>rI oz λi j=>.int (i/j)
 |.mod=>rI (λ_ j=>0<j) λi j=>.int (i%j)
 |.pow=>rI oy λi j=>.int (i^j.toNat)
 |.shr=>rI (λ_ j=>0<=j) λi j=>.int (i/2^j.toNat)
 |.band=>dy λi j=>.int (Builtin.bitAnd i j)
 |.mulB=>rI cD λi j=>.int (i*j)
 |.fdivB=>rI oW λi j=>.int (i/j)
def Af (op:Bo):bY X (Ko (fD op)) (rB X.K op):=by
 cases op with
 |add=>exact eX.or (eW.or (dU.or Dd))
 |sub=>exact Bx
 |mul=>exact eV.or B6
 |fdiv=>exact EC
 |mod=>exact Bw
 |pow=>exact Bv
 |shr=>exact Bu
 |band=>exact Bt
 |mulB=>exact De
 |fdivB=>exact EH
def Dc (h:0<=i):Builtin.bitAnd i 1=i%2:=by
 obtain⟨n,rfl⟩:=Int.eq_ofNat_of_zero_le h;show Int.ofNat (n &&& 1)=_;rw[Nat.and_one_is_mod];rfl
def vS (h:small i=true):-(2^64)<i/\i<2^64:=by
 unfold small fb at h;rw[Qm,decide_eq_true_iff,decide_eq_true_iff]at h;lia
def yN [Decidable c](h:ak K as H Q (if c then r else .no)):c/\ak K as H Q r:=by
 by_cases hc:c
 .rw[Mk hc]at h;exact⟨hc,h⟩
 .rw[Ml hc]at h;exact h.elim
def Db (h:ak K as H Q (cQ .add (.ref a) (.ref b) m)):∃xs ys,m[a]?=some (.lst xs)/\m[b]?=some (.lst ys)/\ak K as H Q (alloc m (xs++ys)):=by
 unfold cQ at h;dsimp only at h;generalize m[a]?=p at h ⊢;generalize m[b]?=q at h ⊢;cases p with
 |none=>exact h.elim
 |some o=>
  cases o with
  |dct ks us=>exact h.elim
  |lst xs=>
   cases q with
   |none=>exact h.elim
   |some o=>
    cases o with
    |dct ks us=>exact h.elim
    |lst ys=>exact⟨xs,ys,rfl,rfl,h⟩
def Da (h:ak K as H Q (cQ .mul (.ref a) (.int k) m)):∃xs,m[a]?=some (.lst xs)/\ak K as H Q (if -aq<=k/\k<=aq then alloc m (Qg k.toNat xs).flatten else .no):=by
 unfold cQ at h;dsimp only at h;generalize m[a]?=p at h ⊢;cases p with
 |none=>exact h.elim
 |some o=>
  cases o with
  |dct ks us=>exact h.elim
  |lst xs=>exact⟨xs,rfl,h⟩
set_option tactic.hygienic true in
def B4 (S:aK K as m H)(Rx:ah K as H x v)(Ry:ah K as H y u)(h:ak K as H Q (cQ op x y m)):rB K op v u H Q:=by
 cases x with
 |int i=>
  cases y with
  |int j=>
   obtain rfl:=ab.mp Rx;obtain rfl:=ab.mp Ry;cases op with
   |add=>exact .inl ⟨i,j,rfl,rfl,h.ok S (ab.mpr rfl)⟩
   |sub=>exact⟨i,j,rfl,rfl,h.ok S (ab.mpr rfl)⟩
   |mul=>
    obtain⟨hs,h⟩:=yN h;refine .inl ⟨i,j,rfl,rfl,?_,h.ok S (ab.mpr rfl)⟩;rcases Bool.or_eq_true_iff.mp hs with q|q
    .exact .inl (vS q)
    .exact .inr (vS q)
   |fdiv=>
    obtain⟨hs,h⟩:=yN h;exact⟨i,j,rfl,rfl,hs,h.ok S (ab.mpr rfl)⟩
   |mod=>
    obtain⟨hs,h⟩:=yN h;exact⟨i,j,rfl,rfl,hs,h.ok S (ab.mpr rfl)⟩
   |pow=>
    obtain⟨⟨h1,h2,h3⟩,h⟩:=yN h;have h4:=vS h3;exact⟨i,j,rfl,rfl,⟨h1,h2,by lia⟩,h.ok S (ab.mpr rfl)⟩
   |shr=>
    obtain⟨hs,h⟩:=yN h;exact⟨i,j,rfl,rfl,hs.1,h.ok S (ab.mpr rfl)⟩
   |band=>
    obtain⟨⟨h1,rfl⟩,h'⟩:=yN h;refine⟨i,1,rfl,rfl,?_⟩;show Q (.int (Builtin.bitAnd i 1)) H;rw[Dc h1];exact h'.ok S (ab.mpr rfl)
   |mulB=>
    obtain⟨hs,h⟩:=yN h;exact⟨i,j,rfl,rfl,hs,h.ok S (ab.mpr rfl)⟩
   |fdivB=>
    obtain⟨hs,h⟩:=yN h;exact⟨i,j,rfl,rfl,hs,h.ok S (ab.mpr rfl)⟩
  |_=>exact h.elim
 |ref a=>
  obtain⟨pa,ha,rfl⟩:=aG.mp Rx;cases y with
  |ref b=>
   obtain⟨pb,hb,rfl⟩:=aG.mp Ry;cases op with
   |add=>
    obtain⟨xs,ys,e1,e2,h⟩:=Db h;obtain⟨pa',va,ha',ea,ra⟩:=ya S e1;rw[ha]at ha';cases ha';obtain⟨pb',vb,hb',eb,rb⟩:=ya S e2;rw[hb]at hb';cases hb';obtain⟨hl,q⟩:=xt S (ra.append rb) h;rw[QF]at hl;exact .inr (.inl ⟨pa,pb,va,vb,rfl,rfl,ea,eb,Qr hl yT,q⟩)
   |_=>exact h.elim
  |int k=>
   obtain rfl:=ab.mp Ry;cases op with
   |mul=>
    obtain⟨xs,e1,h⟩:=Da h;obtain⟨hk,h⟩:=yN h;obtain⟨pa',va,ha',ea,ra⟩:=ya S e1;rw[ha]at ha';cases ha';obtain⟨hl,q⟩:=xt S (ra.rep k.toNat) h;rw[rZ]at hl;have hlim:(aq:Int)=100000:=rfl;exact .inr ⟨pa,k,va,rfl,rfl,ea,by lia,by lia,by rw[Nat.mul_comm];exact Qr hl yT,q⟩
   |_=>exact h.elim
  |_=>exact h.elim
 |tup xs=>
  cases y with
  |tup ys=>
   cases op with
   |add=>
    obtain⟨hc,h⟩:=yN h;obtain⟨pa,va,rfl,qa,ra⟩:=af.mp Rx;obtain⟨pb,vb,rfl,qb,rb⟩:=af.mp Ry;have la:=ra.length;have lb:=rb.length;by_cases hv:va=[]
    .subst hv;obtain rfl:xs=[]:=by
      cases xs with
      |nil=>rfl
      |cons x xs=>simp at la
     exact .inr (.inr (.inr ⟨pa,pb,vb,rfl,rfl,qa,qb,h.ok S Ry⟩))
    refine .inr (.inr (.inl ⟨pa,pb,va,vb,rfl,rfl,qa,qb,hv,?_,λe=>?_,λe p hp=>?_⟩))
    .rw[<-la,<-lb];exact Qr hc yT
    .subst e;obtain rfl:ys=[]:=by
      cases ys with
      |nil=>rfl
      |cons y ys=>simp at lb
     refine h.ok S (af.mpr ⟨pa,va,rfl,qa,?_⟩);rw[QZ];exact ra
    .obtain ⟨T,S',R'⟩:=S.tup hp (ra.append rb);exact h _ _ _ T S' R'
   |_=>exact h.elim
  |_=>exact h.elim
 |_=>exact h.elim
end
end Mini
namespace Mini
open PySem PySem.Spec PyProof.Rows L2
open PySem.SeqAt
section
variable{X:Cx}{pins:List (Addr×Obj)}{σ:St}{s:Shared}{as:List Addr}{H:Hp}{m:Me}
def qG (I:Inv X pins σ H s)(h1:bI X.K H a xs)(h2:bE X.K H a ys):False:=by
 obtain⟨its,_,p,_⟩:=I.tuple h1;obtain⟨its',_,q,_⟩:=I.list h2;exact ne_of_list_tuple q.isList (show s.heap.IsTuple a its.toArray from p) rfl
def pL (I:Inv X pins σ H s)(h1:bI X.K H a xs)(h2:H a=some u)(h3:LD u):False:=by
 rcases h1 with (q|⟨o,q⟩)|⟨o,_,_,hk,_⟩
 .rw[h2]at q;cases q;exact h3
 .rw[h2]at q;cases q;exact h3
 .have:=(I.bs a o (I.ok.mod.kin a o hk)).2;rw[this]at h2;cases h2
def jY (I:Inv X pins σ H s)(h1:KL X.K a xs)(h2:H a=some u):False:=by
 obtain⟨o,_,_,hk,_⟩:=h1;have:=(I.bs a o (I.ok.mod.kin a o hk)).2;rw[this]at h2;cases h2
mutual
theorem gL(I:Inv X pins σ H s)(S:aK X.K as m H):∀(w w':Wd) (v:V),ah X.K as H w v->ah X.K as H w' v->w=w'
 |.non,w',v,h,h'=>by
  obtain rfl:=az.mp h;cases w' with
  |non=>rfl
  |bl b=>cases ai.mp h'
  |int i=>cases ab.mp h'
  |str x=>cases aD.mp h'
  |tup xs=>obtain⟨_,_,e,_⟩:=af.mp h';cases e
  |rol xs=>obtain⟨_,_,e,_⟩:=bm.mp h';cases e
  |ref l=>obtain⟨_,_,e⟩:=aG.mp h';cases e
 |.bl c,w',v,h,h'=>by
  obtain rfl:=ai.mp h;cases w' with
  |non=>cases az.mp h'
  |bl b=>cases ai.mp h';rfl
  |int i=>cases ab.mp h'
  |str x=>cases aD.mp h'
  |tup xs=>obtain⟨_,_,e,_⟩:=af.mp h';cases e
  |rol xs=>obtain⟨_,_,e,_⟩:=bm.mp h';cases e
  |ref l=>obtain⟨_,_,e⟩:=aG.mp h';cases e
 |.int c,w',v,h,h'=>by
  obtain rfl:=ab.mp h;cases w' with
  |non=>cases az.mp h'
  |bl b=>cases ai.mp h'
  |int i=>cases ab.mp h';rfl
  |str x=>cases aD.mp h'
  |tup xs=>obtain⟨_,_,e,_⟩:=af.mp h';cases e
  |rol xs=>obtain⟨_,_,e,_⟩:=bm.mp h';cases e
  |ref l=>obtain⟨_,_,e⟩:=aG.mp h';cases e
 |.str c,w',v,h,h'=>by
  obtain rfl:=aD.mp h;cases w' with
  |non=>cases az.mp h'
  |bl b=>cases ai.mp h'
  |int i=>cases ab.mp h'
  |str x=>
   have e:=aD.mp h';injection e with e
   injection e with e
   have:c=x:=by simpa using Mn VF e
   rw[this]
  |tup xs=>obtain⟨_,_,e,_⟩:=af.mp h';cases e
  |rol xs=>obtain⟨_,_,e,_⟩:=bm.mp h';cases e
  |ref l=>obtain⟨_,_,e⟩:=aG.mp h';cases e
 |.tup xs,w',v,h,h'=>by
  obtain⟨a,vs,rfl,q,r⟩:=af.mp h;cases w' with
  |non=>cases az.mp h'
  |bl b=>cases ai.mp h'
  |int i=>cases ab.mp h'
  |str x=>cases aD.mp h'
  |tup ys=>
   obtain⟨b,us,e,q',r'⟩:=af.mp h';cases e;obtain rfl:=I.tuple_inj q q';rw[cB I S xs ys vs r r']
  |rol ys=>
   obtain⟨b,us,e,q',r'⟩:=bm.mp h';cases e;exact(qG I q q'.sq).elim
  |ref l=>
   obtain⟨b,hb,e⟩:=aG.mp h';cases e;obtain⟨u,e2,e3⟩:=S.isLst (Qp hb);exact(pL I q e2 e3).elim
 |.rol xs,w',v,h,h'=>by
  obtain⟨a,vs,rfl,q,r⟩:=bm.mp h;cases w' with
  |non=>cases az.mp h'
  |bl b=>cases ai.mp h'
  |int i=>cases ab.mp h'
  |str x=>cases aD.mp h'
  |tup ys=>
   obtain⟨b,us,e,q',r'⟩:=af.mp h';cases e;exact(qG I q' q.sq).elim
  |rol ys=>
   obtain⟨b,us,e,q',r'⟩:=bm.mp h';cases e;obtain rfl:=I.list_inj q.sq q'.sq;rw[cB I S xs ys vs r r']
  |ref l=>
   obtain⟨b,hb,e⟩:=aG.mp h';cases e;obtain⟨u,e2,e3⟩:=S.isLst (Qp hb);rcases q with⟨o,q⟩|q
   .rw[e2]at q;cases q;exact e3.elim
   .exact (jY I q e2).elim
 |.ref l,w',v,h,h'=>by
  obtain⟨a,ha,rfl⟩:=aG.mp h;obtain⟨u,e2,e3⟩:=S.isLst (Qp ha);cases w' with
  |non=>cases az.mp h'
  |bl b=>cases ai.mp h'
  |int i=>cases ab.mp h'
  |str x=>cases aD.mp h'
  |tup ys=>
   obtain⟨b,us,e,q',r'⟩:=af.mp h';cases e;exact(pL I q' e2 e3).elim
  |rol ys=>
   obtain⟨b,us,e,q',r'⟩:=bm.mp h';cases e;rcases q' with⟨o,q'⟩|q'
   .rw[e2]at q';cases q';exact e3.elim
   .exact (jY I q' e2).elim
  |ref l'=>
   obtain⟨b,hb,e⟩:=aG.mp h';cases e;obtain⟨i1,e1⟩:=Qa.mp ha;obtain⟨i2,e2⟩:=Qa.mp hb;rw[(WZ S.nd).mp (e1.trans e2.symm)]
theorem cB(I:Inv X pins σ H s)(S:aK X.K as m H):∀(xs ys:List Wd) (vs:List V),aa X.K as H xs vs->aa X.K as H ys vs->xs=ys
 |[],ys,vs,h,h'=>by
  obtain rfl:=au.mp h;cases ys with
  |nil=>rfl
  |cons y ys=>obtain⟨_,_,e,_⟩:=aj.mp h';cases e
 |x::xs,ys,vs,h,h'=>by
  obtain⟨v,r,rfl,q,t⟩:=aj.mp h;cases ys with
  |nil=>cases au.mp h'
  |cons y ys=>
   obtain⟨v',r',e,q',t'⟩:=aj.mp h';cases e;rw[gL I S x y v q q',cB I S xs ys r t t']
end
theorem gM:∀{xs ys:List Wd}{r:Bool},cP p xs ys=some r ->
  ∃f:Nat->Bool,(∀j x y,xs[j]?=some x->ys[j]?=some y->p x y=some (f j))/\r=(QU (min xs.length ys.length)).all f
 |[],ys,r,h=>by
  unfold cP at h;cases h;exact⟨λ_=>true,λj x y e=>by simp at e,by simp⟩
 |_::_,[],r,h=>by
  unfold cP at h;cases h;exact⟨λ_=>true,λj x y _ e=>by simp at e,by simp⟩
 |x::xs,y::ys,r,h=>by
  unfold cP at h;cases hp:p x y with
  |none=>rw[hp]at h;cases h
  |some b=>
   rw[hp]at h;simp only[]at h;cases hr:cP p xs ys with
   |none=>rw[hr]at h;cases h
   |some r'=>
    rw[hr]at h;cases h;obtain⟨f,hf,e⟩:=gM (xs:=xs) (ys:=ys) hr;refine⟨λj=>match j with|0=>b|j+1=>f j,λj x' y' e1 e2=>?_,?_⟩
    .cases j with
     |zero=>simp at e1 e2;subst e1;subst e2;exact hp
     |succ j=>exact hf j x' y' (by simpa using e1) (by simpa using e2)
    .rw[QH,QH,Nat.succ_min_succ,Vk,W1,V0,e];rfl
theorem qH:∀(k:Nat) (w:Wd) (r:Bool),cu m k w w=some r->r=true
 |0,w,r,h=>by cases h
 |k+1,w,r,h=>by
  cases w with
  |non=>cases h;rfl
  |bl b=>cases h;simp
  |int i=>cases h;simp
  |str x=>cases h;simp
  |tup xs=>
   replace h:(cP (cu m k) xs xs).map (· && decide (xs.length=xs.length))=some r:=h
   cases hr:cP (cu m k) xs xs with
   |none=>rw[hr]at h;cases h
   |some r'=>
    rw[hr]at h;simp only[QY,decide_true,Bool.and_true]at h;cases h;obtain⟨f,hf,rfl⟩:=gM hr;rw[QV];intro j hj;have hj':j<xs.length:=by simpa using hj
    exact qH k xs[j] (f j) (hf j xs[j] xs[j] (by simp[hj']) (by simp[hj']))
  |rol xs=>cases h
  |ref l=>
   replace h:(if l=l then(if aX m l then some true else none)else match m[l]?,m[l]? with
    |some (.lst xs),some (.lst ys)=>if xs.length=ys.length then cP (cu m k) xs ys else some false
    |_,_=>none)=some r:=h
   simp only[if_true]at h;split at h
   .cases h;rfl
   .cases h
structure HX(A:JW)(s:Shared)(u u':Value)(r:Bool):Prop where
 it:EqAt A s u u' r
 eq:RcAt A s u u' r
 ne:RcNeAt A s u u' (! r)
def aV (S:aK X.K as m H)(I:Inv X pins σ H s)(h:aX m l=true)(R:ah X.K as H (.ref l) v)(ru:RelV v u):∃b its,u=.ref b/\s.heap.IsList b its:=by
 unfold aX at h;cases e:m[l]? with
 |none=>rw[e]at h;cases h
 |some o=>
  cases o with
  |dct ks us=>rw[e]at h;cases h
  |lst xs=>
   obtain⟨b,hb,rfl⟩:=aG.mp R;obtain⟨a,vs,ha,ea,ra⟩:=ya S e;rw[hb]at ha;cases ha;obtain rfl:u=.ref b:=ru;obtain⟨its,_,p,_⟩:=I.list (bE.of ea);exact⟨b,_,rfl,p.isList⟩
def w9 (I:Inv X pins σ H s)(R:ah X.K as H (.tup xs) v)(ru:RelV v u):∃b vs its,v=.ref b/\u=.ref b/\aa X.K as H xs vs/\av vs its/\s.heap.IsTuple b its.toArray:=by
 obtain⟨b,vs,rfl,q,r⟩:=af.mp R;obtain rfl:u=.ref b:=ru;obtain⟨its,rv,p,_⟩:=I.tuple q;exact⟨b,vs,its,rfl,rfl,r,rv,p⟩
set_option tactic.hygienic true in
theorem iz(I:Inv X pins σ H s)(S:aK X.K as m H):∀(k:Nat) (A:JW) (w w':Wd) (v v':V) (u u':Value) (r:Bool),A.units+k<Ku->cu m k w w'=some r ->
  ah X.K as H w v->ah X.K as H w' v'->RelV v u->RelV v' u'->HX A s u u' r
 |0,_,_,_,_,_,_,_,_,_,h,_,_,_,_=>by cases h
 |k+1,A,w,w',v,v',u,u',r,hu,h,R,R',ru,ru'=>by
  have hu0:A.units<Ku:=by lia
  have hu1:A.in1.units+k<Ku:=by show A.units+1+k<Ku;lia
  -- items,pair by pair
  have pairs:∀{xs ys:List Wd}{vs us:List V}{its its':List Value}{r:Bool},aa X.K as H xs vs->aa X.K as H ys us->av vs its->av us its'->cP (cu m k) xs ys=some r ->
    ∃f:Nat->Bool,(∀j (h1:j<its.toArray.size) (h2:j<its'.toArray.size),EqAt A.in1 s its.toArray[j] its'.toArray[j] (f j))/\r=(QU (min its.toArray.size its'.toArray.size)).all f/\its.toArray.size=xs.length/\its'.toArray.size=ys.length:=by
   intro xs ys vs us its its' r r1 r2 rv rv' he;obtain⟨f,hf,e⟩:=gM he;have l1:=r1.length;have l2:=r2.length;have l3:=rv.length;have l4:=rv'.length;have s1:its.toArray.size=xs.length:=by simp;lia
   have s2:its'.toArray.size=ys.length:=by simp;lia
   refine⟨f,λj h1 h2=>?_,by rw[e,s1,s2],s1,s2⟩;have hj:j<xs.length:=by lia
   have hj2:j<ys.length:=by lia
   obtain⟨v1,e1,q1⟩:=r1.get (i:=j) (x:=xs[j]) (by simp[hj]);obtain⟨v2,e2,q2⟩:=r2.get (i:=j) (x:=ys[j]) (by simp[hj2]);obtain⟨u1,e3,q3⟩:=rv.get e1;obtain⟨u2,e4,q4⟩:=rv'.get e2;have z:=iz I S k A.in1 xs[j] ys[j] v1 v2 u1 u2 (f j) hu1 (hf j _ _ (by simp[hj]) (by simp[hj2])) q1 q2 q3 q4;obtain⟨_,e5⟩:=Qa.mp e3;obtain⟨_,e6⟩:=Qa.mp e4;have g1:its.toArray[j]=u1:=by simpa using e5
   have g2:its'.toArray[j]=u2:=by simpa using e6
   rw[g1,g2];exact z.it
  cases w with
  |tup xs=>
   obtain⟨b,vs,its,rfl,rfl,r1,rv,p⟩:=w9 I R ru;cases w' with
   |tup ys=>
    obtain⟨b',vs',its',rfl,rfl,r1',rv',p'⟩:=w9 I R' ru';have rc:RcAt A s (.ref b) (.ref b') r/\RcNeAt A s (.ref b) (.ref b') (! r):=by
     replace h:(cP (cu m k) xs ys).map (· && decide (xs.length=ys.length))=some r:=h
     cases hr:cP (cu m k) xs ys with
     |none=>rw[hr]at h;cases h
     |some r'=>
      rw[hr]at h;simp only[QY]at h;cases h;obtain⟨f,hf,e,z1,z2⟩:=pairs r1 r1' rv rv' hr;have e2:((QU (min its.toArray.size its'.toArray.size)).all f&&its.toArray.size==its'.toArray.size)=(r'&&decide (xs.length=ys.length)):=by
       rw[e,z1,z2];congr 1
      exact⟨e2▸RcAt.tuples p p' hu0 hf,e2▸RcNeAt.tuples p p' hu0 hf⟩
    refine⟨?_,rc.1,rc.2⟩;by_cases hb:b=b'
    .subst hb;have e:=gL I S _ _ _ R R';rw[<-e]at h;obtain rfl:=qH _ _ _ h;exact EqAt.same _
    .exact EqAt.of_refs hb rc.1
   |ref l=>
    replace h:(if aX m l&&true then some false else none)=some r:=h
    split at h
    .rename_i hl;cases h;obtain⟨b',its',rfl,q⟩:=aV S I (QL.mp hl).1 R' ru';exact⟨EqAt.tuple_list p q hu0,RcAt.tuple_list p q hu0,RcNeAt.tuple_list p q hu0⟩
    .cases h
   |rol ys=>cases h
   |non=>
    cases h;obtain rfl:=az.mp R';obtain rfl:u'=.none:=ru';exact⟨EqAt.tuple_none p hu0,RcAt.tuple_none p hu0,RcNeAt.tuple_none p hu0⟩
   |bl c=>
    cases h;obtain rfl:=ai.mp R';obtain rfl:u'=.bool c:=ru';exact⟨EqAt.tuple_bool c p hu0,RcAt.tuple_bool c p hu0,RcNeAt.tuple_bool c p hu0⟩
   |int i=>
    cases h;obtain rfl:=ab.mp R';obtain⟨t,rfl⟩:=ru';exact⟨EqAt.tuple_int i t p hu0,RcAt.tuple_int i t p hu0,RcNeAt.tuple_int i t p hu0⟩
   |str x=>
    cases h;obtain rfl:=aD.mp R';obtain⟨t,rfl⟩:=ru';exact⟨EqAt.tuple_str _ t p hu0,RcAt.tuple_str _ t p hu0,RcNeAt.tuple_str _ t p hu0⟩
  |ref l=>
   cases w' with
   |ref l'=>
    obtain⟨b,hb,rfl⟩:=aG.mp R;obtain⟨b',hb',rfl⟩:=aG.mp R';obtain rfl:u=.ref b:=ru;obtain rfl:u'=.ref b':=ru'
    replace h:(if l=l' then(if aX m l then some true else none)else match m[l]?,m[l']? with
     |some (.lst xs),some (.lst ys)=>if xs.length=ys.length then cP (cu m k) xs ys else some false
     |_,_=>none)=some r:=h
    by_cases hll:l=l'
    .subst hll;rw[hb]at hb';cases hb';rw[Mk rfl]at h;split at h
     .rename_i hil;cases h;obtain⟨c,its,ec,q⟩:=aV S I hil R (u:=.ref b) rfl;cases ec;have al:(QU its.size).all (λ_=>true)=true:=by simp
      have e1:=RcAt.lists (A:=A) (e:=λ_=>true) q q rfl hu0 (λj h1 h2=>EqAt.same _);have e2:=RcNeAt.lists (A:=A) (e:=λ_=>true) q q rfl hu0 (λj h1 h2=>EqAt.same _);rw[al]at e1 e2;exact⟨EqAt.same _,e1,e2⟩
     .cases h
    .rw[Ml hll]at h;have hbb:b≠b':=by
      rintro rfl;obtain⟨i1,e1⟩:=Qa.mp hb;obtain⟨i2,e2⟩:=Qa.mp hb';exact hll ((WZ S.nd).mp (e1.trans e2.symm))
     split at h
     .rename_i xs ys m1 m2;obtain⟨a1,vs,h1,g1,r1⟩:=ya S m1;rw[hb]at h1;cases h1;obtain⟨a2,us,h2,g2,r2⟩:=ya S m2;rw[hb']at h2;cases h2;obtain⟨its,rv,p,_⟩:=I.list (bE.of g1);obtain⟨its',rv',p',_⟩:=I.list (bE.of g2);split at h
      .rename_i hl;obtain⟨f,hf,e,z1,z2⟩:=pairs r1 r2 rv rv' h;have hsz:its.toArray.size=its'.toArray.size:=by rw[z1,z2,hl]
       rw[<-hsz,Nat.min_self]at e;have e1:=RcAt.lists p.isList p'.isList hsz hu0 hf;have e2:=RcNeAt.lists p.isList p'.isList hsz hu0 hf;rw[<-e]at e1 e2;exact⟨EqAt.of_refs hbb e1,e1,e2⟩
      .rename_i hl;cases h;have l1:=r1.length;have l2:=r2.length;have l3:=rv.length;have l4:=rv'.length;have hsz:(its.toArray.size != its'.toArray.size)=true:=by
        simp;lia
       have e1:=RcAt.lists_lengths (A:=A) p.isList p'.isList hsz hu0;exact⟨EqAt.of_refs hbb e1,e1,RcNeAt.lists_lengths p.isList p'.isList hsz hu0⟩
     .cases h
   |tup ys=>
    replace h:(if aX m l&&true then some false else none)=some r:=h
    split at h
    .rename_i hl;cases h;obtain⟨b,its,rfl,q⟩:=aV S I (QL.mp hl).1 R ru;obtain⟨b',vs',its',rfl,rfl,r1',rv',p'⟩:=w9 I R' ru';exact⟨EqAt.list_tuple q p' hu0,RcAt.list_tuple q p' hu0,RcNeAt.list_tuple q p' hu0⟩
    .cases h
   |rol ys=>
    replace h:(if aX m l&&false then some false else none)=some r:=h
    simp only[Bool.and_false,QX,if_false]at h;cases h
   |non=>
    replace h:(if aX m l&&true then some false else none)=some r:=h
    split at h
    .rename_i hl;cases h;obtain⟨b,its,rfl,q⟩:=aV S I (QL.mp hl).1 R ru;obtain rfl:=az.mp R';obtain rfl:u'=.none:=ru';exact⟨EqAt.list_none q hu0,RcAt.list_none q hu0,RcNeAt.list_none q hu0⟩
    .cases h
   |bl c=>
    replace h:(if aX m l&&true then some false else none)=some r:=h
    split at h
    .rename_i hl;cases h;obtain⟨b,its,rfl,q⟩:=aV S I (QL.mp hl).1 R ru;obtain rfl:=ai.mp R';obtain rfl:u'=.bool c:=ru';exact⟨EqAt.list_bool c q hu0,RcAt.list_bool c q hu0,RcNeAt.list_bool c q hu0⟩
    .cases h
   |int i=>
    replace h:(if aX m l&&true then some false else none)=some r:=h
    split at h
    .rename_i hl;cases h;obtain⟨b,its,rfl,q⟩:=aV S I (QL.mp hl).1 R ru;obtain rfl:=ab.mp R';obtain⟨t,rfl⟩:=ru';exact⟨EqAt.list_int i t q hu0,RcAt.list_int i t q hu0,RcNeAt.list_int i t q hu0⟩
    .cases h
   |str x=>
    replace h:(if aX m l&&true then some false else none)=some r:=h
    split at h
    .rename_i hl;cases h;obtain⟨b,its,rfl,q⟩:=aV S I (QL.mp hl).1 R ru;obtain rfl:=aD.mp R';obtain⟨t,rfl⟩:=ru';exact⟨EqAt.list_str _ t q hu0,RcAt.list_str _ t q hu0,RcNeAt.list_str _ t q hu0⟩
    .cases h
  |rol xs=>
   cases w'<;>first|cases h|(replace h:(if aX m _&&false then some false else none)=some r:=h;simp at h)
  |non=>
   obtain rfl:=az.mp R;obtain rfl:u=.none:=ru;cases w' with
   |rol ys=>cases h
   |ref l=>
    replace h:(if aX m l&&true then some false else none)=some r:=h
    split at h
    .rename_i hl;cases h;obtain⟨b,its,rfl,q⟩:=aV S I (QL.mp hl).1 R' ru';exact⟨EqAt.none_list q hu0,RcAt.none_list q hu0,RcNeAt.none_list q hu0⟩
    .cases h
   |tup ys=>
    cases h;obtain⟨b',vs',its',rfl,rfl,r1',rv',p'⟩:=w9 I R' ru';exact⟨EqAt.none_tuple p' hu0,RcAt.none_tuple p' hu0,RcNeAt.none_tuple p' hu0⟩
   |non=>
    cases h;obtain rfl:=az.mp R';obtain rfl:u'=.none:=ru';exact⟨EqAt.same _,RcAt.none_none,RcNeAt.none_none⟩
   |bl c=>
    cases h;obtain rfl:=ai.mp R';obtain rfl:u'=.bool c:=ru';exact⟨EqAt.none_bool c,RcAt.none_bool c,RcNeAt.none_bool c⟩
   |int i=>
    cases h;obtain rfl:=ab.mp R';obtain⟨t,rfl⟩:=ru';exact⟨EqAt.none_int i t,RcAt.none_int i t,RcNeAt.none_int i t⟩
   |str x=>
    cases h;obtain rfl:=aD.mp R';obtain⟨t,rfl⟩:=ru';exact⟨EqAt.none_str _ t,RcAt.none_str _ t,RcNeAt.none_str _ t⟩
  |bl c=>
   obtain rfl:=ai.mp R;obtain rfl:u=.bool c:=ru;cases w' with
   |rol ys=>cases h
   |ref l=>
    replace h:(if aX m l&&true then some false else none)=some r:=h
    split at h
    .rename_i hl;cases h;obtain⟨b,its,rfl,q⟩:=aV S I (QL.mp hl).1 R' ru';exact⟨EqAt.bool_list c q hu0,RcAt.bool_list c q hu0,RcNeAt.bool_list c q hu0⟩
    .cases h
   |tup ys=>
    cases h;obtain⟨b',vs',its',rfl,rfl,r1',rv',p'⟩:=w9 I R' ru';exact⟨EqAt.bool_tuple c p' hu0,RcAt.bool_tuple c p' hu0,RcNeAt.bool_tuple c p' hu0⟩
   |non=>
    cases h;obtain rfl:=az.mp R';obtain rfl:u'=.none:=ru';exact⟨EqAt.bool_none c,RcAt.bool_none c,RcNeAt.bool_none c⟩
   |bl d=>
    cases h;obtain rfl:=ai.mp R';obtain rfl:u'=.bool d:=ru';exact⟨EqAt.bool_bool c d,RcAt.bool_bool c d,RcNeAt.bool_bool c d⟩
   |int i=>
    cases h;obtain rfl:=ab.mp R';obtain⟨t,rfl⟩:=ru';have e:decide (b2i c=i)=((if c then(1:Int)else 0)==i):=by
     show decide ((if c then(1:Int)else 0)=i)=_;rw[Vu]
    rw[e];exact⟨EqAt.bool_int c i t,RcAt.bool_int c i t,RcNeAt.bool_int c i t⟩
   |str x=>
    cases h;obtain rfl:=aD.mp R';obtain⟨t,rfl⟩:=ru';exact⟨EqAt.bool_str c _ t,RcAt.bool_str c _ t,RcNeAt.bool_str c _ t⟩
  |int i=>
   obtain rfl:=ab.mp R;obtain⟨t,rfl⟩:=ru;cases w' with
   |rol ys=>cases h
   |ref l=>
    replace h:(if aX m l&&true then some false else none)=some r:=h
    split at h
    .rename_i hl;cases h;obtain⟨b,its,rfl,q⟩:=aV S I (QL.mp hl).1 R' ru';exact⟨EqAt.int_list i t q hu0,RcAt.int_list i t q hu0,RcNeAt.int_list i t q hu0⟩
    .cases h
   |tup ys=>
    cases h;obtain⟨b',vs',its',rfl,rfl,r1',rv',p'⟩:=w9 I R' ru';exact⟨EqAt.int_tuple i t p' hu0,RcAt.int_tuple i t p' hu0,RcNeAt.int_tuple i t p' hu0⟩
   |non=>
    cases h;obtain rfl:=az.mp R';obtain rfl:u'=.none:=ru';exact⟨EqAt.int_none i t,RcAt.int_none i t,RcNeAt.int_none i t⟩
   |bl d=>
    cases h;obtain rfl:=ai.mp R';obtain rfl:u'=.bool d:=ru';have e:decide (i=b2i d)=(i==(if d then(1:Int)else 0)):=by
     show decide (i=(if d then(1:Int)else 0))=_;rw[Vu]
    rw[e];exact⟨EqAt.int_bool i t d,RcAt.int_bool i t d,RcNeAt.int_bool i t d⟩
   |int j=>
    cases h;obtain rfl:=ab.mp R';obtain⟨t',rfl⟩:=ru';have e:decide (i=j)=(i==j):=by rw[Vu]
    rw[e];exact⟨EqAt.int_int i t j t',RcAt.int_int i t j t',RcNeAt.int_int i t j t'⟩
   |str x=>
    cases h;obtain rfl:=aD.mp R';obtain⟨t',rfl⟩:=ru';exact⟨EqAt.int_str i t _ t',RcAt.int_str i t _ t',RcNeAt.int_str i t _ t'⟩
  |str x=>
   obtain rfl:=aD.mp R;obtain⟨t,rfl⟩:=ru;cases w' with
   |rol ys=>cases h
   |ref l=>
    replace h:(if aX m l&&true then some false else none)=some r:=h
    split at h
    .rename_i hl;cases h;obtain⟨b,its,rfl,q⟩:=aV S I (QL.mp hl).1 R' ru';exact⟨EqAt.str_list _ t q hu0,RcAt.str_list _ t q hu0,RcNeAt.str_list _ t q hu0⟩
    .cases h
   |tup ys=>
    cases h;obtain⟨b',vs',its',rfl,rfl,r1',rv',p'⟩:=w9 I R' ru';exact⟨EqAt.str_tuple _ t p' hu0,RcAt.str_tuple _ t p' hu0,RcNeAt.str_tuple _ t p' hu0⟩
   |non=>
    cases h;obtain rfl:=az.mp R';obtain rfl:u'=.none:=ru';exact⟨EqAt.str_none _ t,RcAt.str_none _ t,RcNeAt.str_none _ t⟩
   |bl d=>
    cases h;obtain rfl:=ai.mp R';obtain rfl:u'=.bool d:=ru';exact⟨EqAt.str_bool _ t d,RcAt.str_bool _ t d,RcNeAt.str_bool _ t d⟩
   |int j=>
    cases h;obtain rfl:=ab.mp R';obtain⟨t',rfl⟩:=ru';exact⟨EqAt.str_int _ t j t',RcAt.str_int _ t j t',RcNeAt.str_int _ t j t'⟩
   |str y=>
    cases h;obtain rfl:=aD.mp R';obtain⟨t',rfl⟩:=ru';have e:decide (x=y)=((⟨x.toArray⟩:Str) == ⟨y.toArray⟩):=by
     by_cases hxy:x=y
     .subst hxy;simp
     .have:¬(⟨x.toArray⟩:Str)=⟨y.toArray⟩:=λz=>by
       injection z with z
       exact hxy (by simpa using Mn VF z)
      rw[Mj hxy];exact(beq_eq_false_iff_ne.mpr this).symm
    rw[e];exact⟨EqAt.str_str _ t _ t',RcAt.str_str _ t _ t',RcNeAt.str_str _ t _ t'⟩
end
end Mini
namespace L2
open PySem PySem.Spec PyProof.Rows PySem.SeqAt
section
variable{prog:JM}{w:JN}{A:JW}{E:Value->Shared->Prop}{s:Shared}
def qI {stored:List Value}(hst:∀v∈stored,∃k' b,v=.ref b/\Lj (JT prog w) s.heap k' b)(h:Q false s):JY (JZ prog w) A (tableMayTell (.int i t) stored) Q E s:=by
 unfold tableMayTell;split
 .exact Ki h
 .rw[eqIsQuiet_byValue 8 (show carriedByValue (.int i t)=true from rfl)];refine Kb (Ki ?_);simp only[Bool.not_true,QX,if_false];refine Kb ?_;refine Ll _ (λrest r s'=>s'=s/\r=(none,())/\∀v∈rest,∃k' b,v=.ref b/\Lj (JT prog w) s.heap k' b) _ ?_ ?_ _ _ ⟨rfl,rfl,hst⟩
  .rintro v rest r s' ⟨rfl,rfl,hr⟩;obtain⟨k',b,rfl,hk⟩:=hr v QW;refine Kb (wpAny_eqIsQuiet_tuple hk ?_);simp only[Bool.not_true,QX,if_false];exact Ki ⟨rfl,rfl,λv hv=>hr v (Qk _ hv)⟩
  .rintro r s' ⟨rfl,rfl,_⟩;exact Ki h
def EG {xs:List TK}(hu:A.units<Ku)(ho:s.heap.get? d=some o)(hd:o.data=.dict es ep)(he:es.toList=xs.map jW)(his:∀x∈xs,Lj (JT prog w) s.heap x.1 x.2.1)(h:Q none s):
  JY (JZ prog w) A (dictFind d (.int i t) (hashInt i)) Q E s:=by
 have hmem:∀e∈es,∃x∈xs,e=jW x:=by
  intro e hin;have:e∈xs.map jW:=he▸Array.mem_toList_iff.mpr hin;obtain⟨x,hx,rfl⟩:=WL.mp this;exact⟨x,hx,rfl⟩
 have hst:∀v∈(placesWithHash es.size (λi=>es[i]?.map (·.hash)) (hashInt i)).filterMap (λi=>es[i]?.map (·.key)),∃k' b,v=.ref b/\Lj (JT prog w) s.heap k' b:=by
  intro v hv;obtain⟨j,_,hi⟩:=VE.mp hv;cases hei:es[j]? with
  |none=>rw[hei]at hi;cases hi
  |some e=>
   rw[hei]at hi;obtain rfl:e.key=v:=by simpa using hi
   obtain⟨x,hx,rfl⟩:=hmem e (Vr hei);exact⟨x.1,x.2.1,rfl,his x hx⟩
 have hne:∀(e:DictEntry),e∈es->∀(Q:Bool->Shared->Prop),Q false s->JY (JZ prog w) A (eqBool e.key (.int i t)) Q E s:=by
  intro e hin Q q;obtain⟨x,hx,rfl⟩:=hmem e hin;obtain⟨ob,items,n,h1,h2,h3,_⟩:=his x hx;exact EqAt.tuple_int i t (show s.heap.IsTuple x.2.1 items from⟨ob,h1,h2,n,h3⟩) hu prog w E Q q
 unfold dictFind
 try with_reducible refine Kc ?_
 refine Kb (Lm ho hd ?_);dsimp only;by_cases hall:((Value.int i t::(placesWithHash es.size (λi=>es[i]?.map (·.hash)) (hashInt i)).filterMap (λi=>es[i]?.map (·.key))).all carriedByValue)=true
 .rw[Mk hall];unfold dictWalkPlain;refine Kb ?_;refine Ll _ (λ_ b s'=>s'=s/\b=(none,())) _ ?_ ?_ _ _ ⟨rfl,rfl⟩
  .rintro x rest b s' ⟨rfl,rfl⟩;cases hex:es[x]? with
   |none=>exact Ki ⟨rfl,rfl⟩
   |some e=>
    dsimp only;by_cases hh:(e.hash==hashInt i)=true
    .rw[Mk hh];refine Kb (Ln ho hd (Kb (hne e (Vr hex) _ (Kb (Ln ho hd ?_)))));show JY _ _ (if(ep != ep)=true then _ else _) _ E _;rw[Ml (by simp)];simp only[QX,if_false];refine Kb (Lg ?_);exact Ki ⟨rfl,rfl⟩
    .rw[Ml hh];exact Ki ⟨rfl,rfl⟩
  .rintro b s' ⟨rfl,rfl⟩;exact Ki h
 .rw[Ml hall];have hone:¬(((placesWithHash es.size (λi=>es[i]?.map (·.hash)) (hashInt i)).filterMap (λi=>es[i]?.map (·.key))) == [Value.int i t])=true:=by
   intro z;have z:=eq_of_beq z;obtain⟨_,b,e,_⟩:=hst (.int i t) (by rw[z];simp);cases e
  rw[Ml hone];refine Kb (qI hst ?_);rw[Ml (by simp)];refine Kb ?_;refine Ll _ (λ_ b s'=>s'=s/\b=(none,none)) _ ?_ ?_ _ _ ⟨rfl,rfl⟩
  .rintro x rest b s' ⟨rfl,rfl⟩;cases hex:es[x]? with
   |none=>exact Ki ⟨rfl,rfl⟩
   |some e=>
    dsimp only;by_cases hh:(e.hash==hashInt i)=true
    .rw[Mk hh];refine Kb (Ln ho hd (Kb (hne e (Vr hex) _ (Kb (Ln ho hd ?_)))));show JY _ _ (if(ep != ep)=true then _ else _) _ E _;rw[Ml (by simp)];simp only[QX,if_false];refine Kb (Lg ?_)
     first
      |exact Ki ⟨rfl,rfl⟩
      |(rw[Ml (by simp)];exact Ki ⟨rfl,rfl⟩)
      |exact Kb (Ki (Ki ⟨rfl,rfl⟩))
    .rw[Ml hh];exact Ki ⟨rfl,rfl⟩
  .rintro b s' ⟨rfl,rfl⟩;exact Ki h
def BZ (hu:A.units+1<Ku)(hd:(d==JQ)=false)(hm:s.heap.DictOfH (JS (JT prog w)) d xs)(h:Q (.bool false) {s with toks:=s.toks+1}):
  JY (JZ prog w) A (Kq .In (.int i t) (.ref d)) Q E s:=by
 show JY _ _ (do return .bool (<-contains (.ref d) (.int i t))) Q E s;refine Kb ?_;unfold contains
 try with_reducible refine Kc ?_
 refine Kb (wpAny_specialOf hm.typeIs slot_dict_contains.lookup ?_);show JY _ _ (if(some (Value.builtin "dict.__contains__")==some Value.none)=true then _ else _) _ E s;rw[Ml (by rw[beq_builtin_none];exact Qz)];refine Kb (wpAny_callSpecialUnlessNone?_slot (name:=Str.ofString "__contains__") hm.typeIs slot_dict_contains
  (KO slot_dict_contains hm.typeIs entry_dict_contains ?_ (args_dict_contains _ _)))
 obtain⟨o,es,ep,ho,_,hdd,he,his,hn⟩:=id hm;show JY _ _ (dictGet d (.int i t) >>= _) _ _ s;refine Kb ?_;unfold dictGet
 try with_reducible refine Kc ?_
 refine Kb (wpAny_pyHash_int (Kb (EG (s:={s with toks:=s.toks+1}) (xs:=xs) (by show A.units+1<Ku;lia) ho hdd he his ?_)));refine Ki ?_;show JY _ _ (Builtin.Dict.pendingKey? d (.int i t) >>= _) _ _ _;exact Kb (wpAny_pendingKey_other hd (Ki ⟨_,rfl,J5 (Ki h)⟩))
end
section
variable{X:Cx}{pins:List (Addr×Obj)}{σ:St}{H:Hp}{s:Shared}
def nV(K:Qb):R2:=λx y H Q=>∃d xs,y=.ref d/\yb K H d xs/\((∃i,x=.int i/\Q (.bl false) H)\/∃a ks,x=.ref a/\bI K H a (ks.map V.int)/\Q (.bl (Lk xs ks).isSome) H)
def BY(hu:X.A.units+64<Ku):bY X (Kq .In) (nV X.K):=by
 intro pins s σ H x y v u Q I rx ry h;obtain⟨d,xs,rfl,hd,h⟩:=h;cases ry;obtain⟨d0,dm⟩:=xn I hd;rcases h with⟨i,rfl,q⟩|⟨a,ks,rfl,hk,q⟩
 .obtain ⟨t,rfl⟩:=rx;exact BZ (by lia) d0 dm ⟨.bl false,H,I.tok _,rfl,q⟩
 .cases rx;exact wpAny_in_heap (knd:=JS (JT X.prog X.w)) (by show X.A.units+1<Ku;lia) (xT I hk) d0 dm ⟨.bl (Lk xs ks).isSome,H,I.tok _,rfl,q⟩
end
end L2
namespace Mini
open PySem PySem.Spec PyProof.Rows L2
section
variable{K:Qb}{as:List Addr}{H:Hp}{m:Me}{Q:VK}
theorem vT:∀{ws:List Wd}{k:List Int}{vs:List V},zX ws=some k->aa K as H ws vs->vs=k.map V.int
 |[],k,vs,h,r=>by cases h;rw[au.mp r];rfl
 |w::ws,k,vs,h,r=>by
  cases w with
  |int i=>
   have h':(zX ws).map (i::·)=some k:=h;obtain⟨k',e,rfl⟩:=QJ.mp h';obtain⟨v,r',rfl,q,t⟩:=aj.mp r;rw[ab.mp q,vT e t];rfl
  |_=>cases h
def vU {l:Nat}(S:aK K as m H)(hm:m[l]?=some (.dct ks ws)):∃a xs vs,as[l]?=some a/\yb K H a xs/\xs.map (·.1)=ks/\aa K as H ws vs/\av vs (xs.map (·.2.2))/\ks.Nodup:=by
 obtain⟨a,ha,xs,vs,r⟩:=S.get hm;exact⟨a,xs,vs,ha,r⟩
def bQ {q:List Int}:(Lk xs q).isSome=true↔q∈xs.map (·.1):=by
 unfold Lk;rw[Option.isSome_map,List.find?_isSome];simp only[WL,Mq]
def BX (S:aK K as m H)(R:ah K as H x v)(R':ah K as H y u)(h:iK m x y=some b)(q:Q (.bl b) H):nV K v u H Q:=by
 unfold iK at h;cases y with
 |ref l=>
  obtain⟨a,ha,rfl⟩:=aG.mp R';dsimp only at h;cases e:m[l]? with
  |none=>rw[e]at h;cases h
  |some o=>
   cases o with
   |lst ys=>rw[e]at h;cases h
   |dct ks ws=>
    rw[e]at h;dsimp only at h;obtain⟨a',xs,vs,ha',td,rfl,_⟩:=vU S e;rw[ha]at ha';cases ha';refine⟨a,xs,rfl,td,?_⟩;cases x with
    |int i=>cases h;exact .inl ⟨i,ab.mp R,q⟩
    |tup us=>
     obtain⟨k,hk,rfl⟩:=QJ.mp h;obtain⟨c,vs,rfl,sq,r⟩:=af.mp R;rw[vT hk r]at sq;refine .inr ⟨c,k,rfl,sq,?_⟩;rw[show(Lk xs k).isSome=decide (k∈xs.map (·.1))from by
      rw[W3,bQ,Mq]]
     exact q
    |_=>cases h
 |_=>cases h
end
end Mini
namespace Mini
open PySem PySem.Spec PyProof.Rows L2
open PySem.SeqAt
noncomputable def cK:Co->Kr
 |.eq=>.Eq |.ne=>.NotEq |.lt=>.Lt |.le=>.LtE |.gt=>.Gt |.ge=>.GtE |.isin=>.In 
def rC(K:Qb)(op:Co):R2:=λx y H Q=>∃as m w w',aK K as m H/\ah K as H w x/\ah K as H w' y/\ak K as H Q (e8 op w w' m)
section
variable{X:Cx}
def kW {K:Qb}(S:aK K as m H)(h:ak K as H Q (dC o m)):∃b,o=some b/\Q (.bl b) H:=by
 cases o with
 |none=>exact h.elim
 |some b=>exact⟨b,rfl,h.ok S (ai.mpr rfl)⟩
theorem rV:∀{ys:List Wd}{r:Bool},dX p x ys=some r ->
  ∃f:Wd->Bool,(∀y∈ys,p y x=some (f y))/\r=ys.any f
 |[],r,h=>by cases h;exact⟨λ_=>false,λy hy=>by simp at hy,rfl⟩
 |y::ys,r,h=>by
  unfold dX at h;cases hp:p y x with
  |none=>rw[hp]at h;cases h
  |some b=>
   rw[hp]at h;simp only[]at h;cases hr:dX p x ys with
   |none=>rw[hr]at h;cases h
   |some r'=>
    rw[hr]at h;cases h;obtain⟨f,hf,rfl⟩:=rV hr
    classical
    refine⟨λz=>(p z x).getD false,λz hz=>?_,?_⟩
    .rcases Qn.mp hz with rfl|hz
     .simp only[hp,Wo]
     .simp only[hf z hz,Wo]
    .rw[List.any_cons,hp];congr 1;refine W3.mpr ?_;rw[Vi,Vi];constructor
     .rintro ⟨z,hz,e⟩;exact⟨z,hz,by rw[hf z hz];exact e⟩
     .rintro ⟨z,hz,e⟩;rw[hf z hz]at e;exact⟨z,hz,e⟩
def qJ (I:Inv X pins σ H s)(S:aK X.K as m H)(hu:A.units+yB<Ku)(R:ah X.K as H w v)(ru:RelV v u)(ry:aa X.K as H ys vs)(rv:av vs its)(h:dX (cu m yB) w ys=some r):
  ∃e:Value->Bool,(∀y,y∈its.toArray->EqAt A s y u (e y))/\its.toArray.any e=r:=by
 obtain⟨f,hf,rfl⟩:=rV h
 classical
 -- the plain value of an item
 have pick:∀y,y∈its->∃z,z∈ys/\∃vz,ah X.K as H z vz/\RelV vz y:=λy hy=>by
  obtain⟨j,hj,rfl⟩:=W2.mp hy;have l1:=ry.length;have l2:=rv.length;have hj1:j<vs.length:=by lia
  obtain⟨u1,e1,q1⟩:=rv.get (i:=j) (x:=vs[j]) (by simp[hj1]);obtain⟨z,e2,q2⟩:=ry.back (i:=j) (v:=vs[j]) (by simp[hj1]);obtain⟨_,e3⟩:=Qa.mp e1;exact⟨z,Qp e2,vs[j],q2,by rw[e3];exact q1⟩
 let e:Value->Bool:=λy=>if hy:y∈its then f (Classical.choose (pick y hy))else false
 have he:∀y (hy:y∈its) z vz,z∈ys->ah X.K as H z vz->RelV vz y->e y=f z:=λy hy z vz hz hr hq=>by
  obtain⟨h1,vz',h2,h3⟩:=Classical.choose_spec (pick y hy);have:e y=f (Classical.choose (pick y hy)):=dif_pos hy;rw[this];have hv:vz'=vz:=h3.inj hq;subst hv;rw[gL I S _ _ _ h2 hr]
 refine⟨e,λy hy=>?_,?_⟩
 .have hy':y∈its:=by simpa using hy
  obtain⟨z,hz,vz,q1,q2⟩:=pick y hy';rw[he y hy' z vz hz q1 q2];exact(iz I S yB A z w vz v y u (f z) hu (hf z hz) q1 R q2 ru).it
 .refine W3.mpr ?_;rw[List.any_toArray,Vi,Vi];constructor
  .rintro ⟨y,hy,ey⟩;obtain⟨z,hz,vz,q1,q2⟩:=pick y hy;rw[he y hy z vz hz q1 q2]at ey;exact⟨z,hz,ey⟩
  .rintro ⟨z,hz,ez⟩;obtain⟨j,hj,rfl⟩:=W2.mp hz;obtain⟨v1,e1,q1⟩:=ry.get (i:=j) (x:=ys[j]) (by simp[hj]);obtain⟨u1,e2,q2⟩:=rv.get e1;have hy:u1∈its:=Qp e2;exact⟨u1,hy,by rw[he u1 hy ys[j] v1 (VL hj) q1 q2];exact ez⟩
set_option tactic.hygienic true in
def jZ(hu:X.A.units+64<Ku)(op:Co):bY X (Kq (cK op)) (rC X.K op):=by
 intro pins s σ H x y v u Q I rx ry h;obtain⟨as,m,w,w',S,R,R',q⟩:=h;have hd:yB=12:=rfl;have fin:∀{b:Bool},Q (.bl b) H->EP X pins σ Q (.bool b) s:=λ{b} q=>⟨.bl b,H,I,rfl,q⟩;have cmpI:∀{r:Int->Int->Bool},ak X.K as H Q (kP r w w' m)->∃i j,x=.int i/\y=.int j/\Q (.bl (r i j)) H:=λ{r} q=>by
  unfold kP at q;cases w with
  |int i=>
   cases w' with
   |int j=>exact⟨i,j,ab.mp R,ab.mp R',q.ok S (ai.mpr rfl)⟩
   |_=>exact q.elim
  |_=>exact q.elim
 cases op with
 |eq=>
  obtain⟨b,hb,q⟩:=kW S q;exact(iz I S yB X.A w w' x y v u b (by lia) hb R R' rx ry).eq X.prog X.w X.xe _ (fin q)
 |ne=>
  obtain⟨b,hb,q⟩:=kW S q;obtain⟨c,hc,rfl⟩:=QJ.mp hb;exact(iz I S yB X.A w w' x y v u c (by lia) hc R R' rx ry).ne X.prog X.w X.xe _ (fin q)
 |isin=>
  simp only[e8]at q;split at q
  .rename_i ys hs;obtain⟨b,hb,q⟩:=kW S q;obtain⟨p,vs,rfl,hq,r⟩:=w6 S R' hs;obtain rfl:u=.ref p:=ry;rcases hq with hq|hq
   .obtain ⟨its,rv,pl,_⟩:=I.list hq;obtain⟨e,he,rfl⟩:=qJ (A:=X.A.in1) I S (by show X.A.units+1+yB<Ku;lia) R rx r rv hb;exact in_listAt e pl.isList he (fin q)
   .obtain ⟨its,rv,pl,_⟩:=I.tuple hq;obtain⟨e,he,rfl⟩:=qJ (A:=X.A.in1) I S (by show X.A.units+1+yB<Ku;lia) R rx r rv hb;exact in_tupleAt e (show s.heap.IsTuple p its.toArray from pl) he (fin q)
  .obtain ⟨b,hb,q⟩:=kW S q;exact BY hu pins s σ H x y v u Q I rx ry (BX S R R' hb q)
 |lt=>exact Bg pins s σ H x y v u Q I rx ry (cmpI q)
 |le=>exact Bf pins s σ H x y v u Q I rx ry (cmpI q)
 |gt=>exact Be pins s σ H x y v u Q I rx ry (cmpI (r:=λi j=>decide (j<i)) q)
 |ge=>exact Bd pins s σ H x y v u Q I rx ry (cmpI (r:=λi j=>decide (j<=i)) q)
end
end Mini
namespace L2
open PySem PySem.Spec PyProof.Rows
section
open PySem.SeqAt
open PySem.AutoSeq1 (wpAny_loadPart')
open PySem.MeetsSeq PySem.MeetsSeq2 PySem.MeetsSeq3
noncomputable def dF(f g:Nat->Bool):Nat->Nat->Bool
 |_,0=>false
 |i,k+1=>if f i then dF f g (i+1) k else g i
def eg(A:JW)(s:Shared)(x y:Value)(b:Bool):Prop:=∀(prog:JM) (w:JN) (E Q:Value->Shared->Prop),Q (.bool b) s->JY (JZ prog w) A (richCompare .Lt x y) Q E s
def vv(A:JW)(s:Shared)(items items2:Array Value)(f g:Nat->Bool):Prop:=∀(j:Nat) (v u:Value),items[j]?=some v->items2[j]?=some u->EqAt A.in1 s v u (f j)/\eg A.in1 s v u (g j)
def EF(l b:Addr)(items items2:Array Value)(n n2:Nat)(dd dd2:Option Addr)(sl sl2:Array (Option Value))(hsz:items.size=items2.size)(f g':Nat->Bool)(k:Nat):
  ∀i:Nat,items.size-i=k->Meets (Builtin.«list.__eq__.loop» ⟨[.ref l,.ref b,Kj i,Kj 0],[]⟩)
   (λA R s=>s.heap.get? l=some {cls:=.type "list",dict:=dd,data:=.seq items n,slots:=sl}/\s.heap.get? b=some {cls:=.type "list",dict:=dd2,data:=.seq items2 n2,slots:=sl2}/\vv A s items items2 f g' /\
    R (.ok (.ret (.bool (dF f g' i k)))) s):=by
 induction k with
 |zero=>
  intro i hk prog w A R s h;obtain⟨hp,g,d,tk,os⟩:=s;obtain⟨hl,hb,_,h⟩:=h
  wp_walk using Lo hl,Lo hb
  have hi1:items[((i:Nat):Int).toNat]?=none:=by simp;lia
  have hi2:items2[((i:Nat):Int).toNat]?=none:=by simp;lia
  rw[hi1,hi2]
  wp_walk using Lo hl,Lo hb
  show R (.ok (.ret (.bool (decide (items.size<items2.size))))) _;rw[Mj (by lia)];exact h
 |succ k ih=>
  intro i hk prog w A R s h;obtain⟨hp,g,d,tk,os⟩:=s;obtain⟨hl,hb,hI,h⟩:=h
  wp_walk using Lo hl,Lo hb
  have hlt:i<items.size:=by lia
  have hlt2:i<items2.size:=by lia
  have hi1:items[((i:Nat):Int).toNat]?=some items[i]:=by simp[hlt]
  have hi2:items2[((i:Nat):Int).toNat]?=some items2[i]:=by simp[hlt2]
  have hc:((i:Int)+1)=((i+1:Nat):Int):=by push_cast;rfl
  obtain⟨he,hg⟩:=hI i items[i] items2[i] (by simp[hlt]) (by simp[hlt2])
  replace h:R (.ok (.ret (.bool (if f i then dF f g' (i+1) k else g' i)))) _:=h
  rw[hi1,hi2];refine Kb (he prog w _ _ ?_);cases e:f i with
  |true=>
   rw[e,Mk rfl]at h
   wp_walk
   rw[hc];exact⟨Lp plain_eq_loop _,Lq entry_eq_loop (by
    rw[Around.under_plainId plain_eq_loop _];exact ih (i+1) (by lia) prog w A R _ ⟨hl,hb,hI,h⟩)⟩
  |false=>
   rw[e,Ml Qz]at h
   wp_walk using Lo hl,Lo hb
   rw[hi1,hi2];have hri:=hg prog w
   wp_walk using hri
   exact h
def wU(l b:Addr)(items items2:Array Value)(n n2:Nat)(dd dd2:Option Addr)(sl sl2:Array (Option Value))(hsz:items.size=items2.size)(f g':Nat->Bool):
  Meets (Builtin.«list.__lt__» ⟨[.ref l,.ref b],[]⟩)
   (λA R s=>s.heap.get? l=some {cls:=.type "list",dict:=dd,data:=.seq items n,slots:=sl}/\s.heap.get? b=some {cls:=.type "list",dict:=dd2,data:=.seq items2 n2,slots:=sl2}/\vv A s items items2 f g' /\
    R (.ok (.ret (.bool (dF f g' 0 items.size)))) s):=by
 intro prog w A R s h;obtain⟨hp,g,d,tk,os⟩:=s;obtain⟨hl,hb,h⟩:=h;have f3:=AutoSeq1.sub_list_list
 wp_walk using Lo hl,Lo hb
 exact⟨Lp plain_eq_loop _,Lq entry_eq_loop (by
  rw[Around.under_plainId plain_eq_loop _];exact EF l b items items2 n n2 dd dd2 sl sl2 hsz f g' _ 0 rfl prog w A R _ ⟨hl,hb,h⟩)⟩
def cZ(A:JW)(s:Shared)(x y:Value)(b:Bool):Prop:=
 ∀(prog:JM) (w:JN) (E:Value->Shared->Prop) (Q:Bool->Shared->Prop),Q b s->JY (JZ prog w) A (oneLt' true x y) Q E s
theorem cZ.items{A:JW}{s:Shared}{l b:Addr}{items items2:Array Value}{f g:Nat->Bool}(hl:s.heap.IsList l items)(hb:s.heap.IsList b items2)(hsz:items.size=items2.size)(hu:A.units<Ku)(hI:vv A s items items2 f g):
  cZ A s (.ref l) (.ref b) (dF f g 0 items.size):=λprog w E Q h=>by
 obtain⟨⟨cls,dd,data,sl⟩,ho,hc,n,hd⟩:=id hl;obtain⟨⟨cls2,dd2,data2,sl2⟩,ho2,hc2,n2,hd2⟩:=id hb;simp only at hc hd hc2 hd2;subst hc hd hc2 hd2;rw[oneLt'_eq];simp only[if_true];refine Kb (wpAny_cRoomFor hu ?_);refine Kb (wpAny_callSpecialIfBound?_slot (T:="list") ⟨_,ho,rfl⟩ PySem.F.slot_list_lt (K0 PySem.F.slot_list_lt ⟨_,ho,rfl⟩ PySem.F.entry_list_lt (PySem.F.args_list_lt_2 _ _) (wU l b items items2 n n2 dd dd2 sl sl2 hsz f g) ⟨ho,ho2,hI,?_⟩));exact J5 h
theorem eg.items{A:JW}{s:Shared}{l b:Addr}{items items2:Array Value}{f g:Nat->Bool}(hl:s.heap.IsList l items)(hb:s.heap.IsList b items2)(hsz:items.size=items2.size)(hu:A.units<Ku)(hI:vv A s items items2 f g):
  eg A s (.ref l) (.ref b) (dF f g 0 items.size):=λprog w E Q h=>by
 obtain⟨⟨cls,dd,data,sl⟩,ho,hc,n,hd⟩:=id hl;obtain⟨⟨cls2,dd2,data2,sl2⟩,ho2,hc2,n2,hd2⟩:=id hb;simp only at hc hd hc2 hd2;subst hc hd hc2 hd2;exact richCompare_meets_room (op:=.Lt) ⟨_,ho,rfl⟩ ⟨_,ho2,rfl⟩ PySem.F.slot_list_lt PySem.F.entry_list_lt (PySem.F.args_list_lt_2 _ _) (wU l b items items2 n n2 dd dd2 sl sl2 hsz f g)
  ⟨ho,ho2,hI,show Value.bool (dF f g 0 items.size)≠Value.notImplemented/\Q (.bool (dF f g 0 items.size)) s from⟨(λx=>nomatch x),h⟩⟩ hu
theorem rT(x y:Nat->Int):∀(k i:Nat),dF (λj=>decide (x j=y j)) (λj=>decide (x j<y j)) i k=HT.lexLt ((VP i k).map x) ((VP i k).map y)
 |0,_=>rfl
 |k+1,i=>by
  rw[List.range'_succ,QM,QM,HT.bv];show(if decide (x i=y i)then _ else _)=_;rw[rT x y k (i+1)];by_cases e:x i=y i
  .rw[Mk (Mo e),Mk e]
  .rw[Ml (by simp[e]),Ml e]
theorem rS:∀{a b c d:List Int},a.length=b.length->HT.lexLt (a++c) (b++d)=if a=b then HT.lexLt c d else HT.lexLt a b
 |[],[],c,d,_=>by simp
 |[],_::_,_,_,h=>by cases h
 |_::_,[],_,_,h=>by cases h
 |x::xs,y::ys,c,d,h=>by
  rw[Wz,Wz,HT.bv,rS (Nat.succ.inj h)];by_cases e:x=y
  .subst e;by_cases e2:xs=ys
   .subst e2;simp
   .simp[e2,HT.bv]
  .simp[e,HT.bv]
def bA(its:Array Value)(k:List Int):Prop:=its.size=k.length/\∀(j:Nat) (v:Value),its[j]?=some v->∃t,v=.int (k.getD j 0) t
def qK(k:List Int)(n:Nat)(h:n=k.length):(VP 0 n).map (λj=>k.getD j 0)=k:=by
 subst h;apply W9;intro i;by_cases hi:i<k.length
 .simp[hi,List.getElem?_range']
 .simp[hi]
def bA.lt (h1:bA i1 k1)(h2:bA i2 k2):vv A s i1 i2 (λj=>decide (k1.getD j 0=k2.getD j 0)) (λj=>decide (k1.getD j 0<k2.getD j 0)):=by
 intro j v u hv hu;obtain⟨t,rfl⟩:=h1.2 j v hv;obtain⟨t',rfl⟩:=h2.2 j u hu;exact⟨EqAt.int_int _ t _ t',λprog w E Q h=>HT.dE A.in1 s _ t _ t' prog w E Q h⟩
def bA.lex {i2:Array Value}(h1:bA i1 k1)(hl:k1.length=k2.length):dF (λj=>decide (k1.getD j 0=k2.getD j 0)) (λj=>decide (k1.getD j 0<k2.getD j 0)) 0 i1.size=HT.lexLt k1 k2:=by
 rw[rT,qK k1 _ h1.1,qK k2 _ (h1.1.trans hl)]
def bA.det (h1:bA its k1)(h2:bA its k2):k1=k2:=by
 apply VM (h1.1.symm.trans h2.1);intro i a1 a2;have q:i<its.size:=by rw[h1.1];exact a1
 obtain⟨t,e1⟩:=h1.2 i its[i] (by simp[q]);obtain⟨t',e2⟩:=h2.2 i its[i] (by simp[q]);rw[e1]at e2;have:=(Value.int.inj e2).1;simpa [a1,a2]using this
def kX {s:Shared}(hl:s.heap.IsList l i1)(hb:s.heap.IsList l i2):i1=i2:=by
 obtain⟨o,ho,_,n,hd⟩:=hl;obtain⟨o',ho',_,n',hd'⟩:=hb;rw[ho]at ho';cases ho';rw[hd]at hd';cases hd';rfl
def bA.eq (hl:s.heap.IsList l i1)(hb:s.heap.IsList b i2)(h1:bA i1 k1)(h2:bA i2 k2)(hk:k1.length=k2.length)(hu:A.units<Ku):EqAt A s (.ref l) (.ref b) (decide (k1=k2)):=by
 have hall:(QU i1.size).all (λj=>decide (k1.getD j 0=k2.getD j 0))=decide (k1=k2):=by
  rw[W3,QV,Mq];constructor
  .intro h;apply VM hk;intro i a1 a2;have:=Mp (h i (Vw.mpr (by rw[h1.1];exact a1)));simpa [a1,a2]using this
  .rintro rfl j _;simp
 by_cases e:l=b
 .subst e;obtain rfl:=kX hl hb;have:k1=k2:=h1.det h2;rw[Mo this];exact EqAt.same _
 .rw[<-hall];exact EqAt.of_refs e (RcAt.lists hl hb (by rw[h1.1,h2.1,hk]) hu λj q1 q2=>(bA.lt (A:=A) h1 h2 j _ _ (by simp[q1]) (by simp[q2])).1)
def c9(s:Shared)(c:Int)(n:Nat)(v:Value)(k:List Int):Prop:=
 ∃(l:Addr) (its:Array Value),v=.ref l/\s.heap.IsList l its/\k.length=n /\
  ((c=0/\bA its k)\/∃kk:List (List Int),2<=c/\k=kk.flatten/\its.size=kk.length/\∀(j:Nat) (u:Value) (q:List Int),its[j]?=some u->kk[j]?=some q->(q.length:Int)+1=c/\∃r ri,u=.ref r/\s.heap.IsList r ri/\bA ri q)
theorem c9.det (h:c9 s c n v k)(h':c9 s c n v k'):k=k':=by
 obtain⟨l,its,rfl,hl,hn,h⟩:=h;obtain⟨l',its',e,hl',hn',h'⟩:=h';cases e;obtain rfl:=kX hl hl';rcases h with⟨rfl,h⟩|⟨kk,hc,rfl,hz,h⟩
 .rcases h' with⟨_,h'⟩|⟨_,hc,_⟩
  .exact h.det h'
  .lia
 .rcases h' with⟨hc',_⟩|⟨kk',_,rfl,hz',h'⟩
  .lia
  .congr 1;apply VM (hz.symm.trans hz');intro i a1 a2;have q:i<its.size:=by rw[hz];exact a1
   obtain⟨_,r,ri,e1,b1,c1⟩:=h i its[i] kk[i] (by simp[q]) (by simp[a1]);obtain⟨_,r',ri',e2,b2,c2⟩:=h' i its[i] kk'[i] (by simp[q]) (by simp[a2]);rw[e1]at e2;cases e2;obtain rfl:=kX b1 b2;exact c1.det c2
theorem kY:∀{kk:List (List Int)},(∀q∈kk,q.length=c)->kk.flatten.length=kk.length*c
 |[],_=>by simp
 |q::r,h=>by
  rw[Q2,QF,kY λx hx=>h x (Qk _ hx),h q (by simp),QH,VH];lia
theorem qL {a b:List (List Int)}(ha:∀q∈a,q.length=c)(hb:∀q∈b,q.length=c)(hl:a.length=b.length):∀(k i:Nat),k+i=a.length ->
  dF (λj=>decide (a.getD j []=b.getD j [])) (λj=>HT.lexLt (a.getD j []) (b.getD j [])) i k=HT.lexLt (a.drop i).flatten (b.drop i).flatten
 |0,i,h=>by
  rw[WD (by lia),WD (by lia)];rfl
 |k+1,i,h=>by
  have h1:i<a.length:=by lia
  have h2:i<b.length:=by lia
  rw[QP h1,QP h2,Q2,Q2,rS ((ha _ (by simp)).trans (hb _ (by simp)).symm),<-qL ha hb hl k (i+1) (by lia)];show(if decide (a.getD i []=b.getD i [])then _ else _)=_;have e1:a.getD i []=a[i]:=by simp[h1]
  have e2:b.getD i []=b[i]:=by simp[h2]
  rw[e1,e2];by_cases e:a[i]=b[i]
  .rw[Mk (Mo e),Mk e]
  .rw[Ml (by simp[e]),Ml e];show HT.lexLt (a.getD i []) (b.getD i [])=_;rw[e1,e2]
theorem c9.lt (hu:A.units+2<Ku)(h:c9 s c n v k)(h':c9 s c n u k'):cZ A s v u (HT.lexLt k k'):=by
 obtain⟨l,its,rfl,hl,hn,h⟩:=h;obtain⟨l',its',rfl,hl',hn',h'⟩:=h';have hk:k.length=k'.length:=hn.trans hn'.symm;rcases h with⟨rfl,h⟩|⟨kk,hc,rfl,hz,h⟩
 .rcases h' with⟨_,h'⟩|⟨_,hc,_⟩
  .rw[<-h.lex (i2:=its') hk];exact cZ.items hl hl' (by rw[h.1,h'.1,hk]) (by lia) (h.lt h')
  .lia
 .rcases h' with⟨hc',_⟩|⟨kk',_,rfl,hz',h'⟩
  .lia
  .have e1:∀q∈kk,q.length=(c-1).toNat:=λq hq=>by
    obtain⟨i,hi⟩:=Qv hq;have z:i<its.size:=by rw[hz];exact(Qa.mp hi).1
    have:=(h i its[i] q (by simp[z]) hi).1;lia
   have e2:∀q∈kk',q.length=(c-1).toNat:=λq hq=>by
    obtain⟨i,hi⟩:=Qv hq;have z:i<its'.size:=by rw[hz'];exact(Qa.mp hi).1
    have:=(h' i its'[i] q (by simp[z]) hi).1;lia
   have e3:kk.length=kk'.length:=by
    rw[kY e1,kY e2]at hk;exact Nat.eq_of_mul_eq_mul_right (by lia) hk
   have e4:=qL e1 e2 e3 its.size 0 (by lia);rw[Vy,Vy]at e4;rw[<-e4];refine cZ.items hl hl' (by lia) (by lia) λj v u hv hu'=>?_;have q1:j<its.size:=(W6.mp hv).1;have q2:j<its'.size:=(W6.mp hu').1;have g1:kk[j]?=some (kk.getD j []):=by simp[show j<kk.length by lia]
   have g2:kk'[j]?=some (kk'.getD j []):=by simp[show j<kk'.length by lia]
   obtain⟨l1,r,ri,rfl,b1,c1⟩:=h j v _ hv g1;obtain⟨l2,r',ri',rfl,b2,c2⟩:=h' j u _ hu' g2;have l3:(kk.getD j []).length=(kk'.getD j []).length:=by lia
   refine⟨bA.eq b1 b2 c1 c2 l3 (by show A.units+1<Ku;lia),?_⟩;rw[<-c1.lex (i2:=ri') l3];exact eg.items b1 b2 (by rw[c1.1,c2.1,l3]) (by show A.units+1<Ku;lia) (c1.lt c2)
end
section
theorem j0:∀(f n r:Nat),r<=1->minRun' f n r<=n+r
 |0,n,r,_=>Qh _
 |f+1,n,r,h=>by
  rw[minRun'_succ];split
  .exact Qh _
  .have e:=j0 f (n/2) (max r (n%2)) (by lia);lia
theorem rR:∀vs:List Value,List.map (λx:Value×Value=>x.snd) (vs.zip vs)=vs
 |[]=>rfl
 |v::r=>Mn (v::·) (rR r)
end
section
variable{prog:JM}{w:JN}{A:JW}{E:Value->Shared->Prop}{s:Shared}
def dO(prog:JM)(w:JN)(A:JW)(E:Value->Shared->Prop)(s:Shared)(O:Lr)(key:Keyed->O.α)(S:Keyed->Prop):Prop:=
 ∀(x y:Keyed) (st:Ls) (Q:Option Bool->Ls->Prop),S x->S y->kindOf st=Lu->Q (some (O.blt (key x) (key y))) st->wpS (JZ prog w) A E s (lt' x y) Q st
variable{O:Lr}{key:Keyed->O.α}{S:Keyed->Prop}
noncomputable def C9:Bool->Keyed->Array Keyed->Nat->Nat->Nat->StateT Ls Sem (Option Nat):=sortPriv% PySem.Builtin.gallop
def zg {st:Ls}(h:xs[i]?=some x)(q:Q x st):wpS (JZ prog w) A E s (elem' xs i) Q st:=by
 rw[elem'_eq,h];exact Lw q
def yd (C:dO prog w A E s O key S){st:Ls}(hk:kindOf st=Lu)(hS:S k)(h0:hint<n)(B:Nat->Bool)(hB:∀i,i<n->∃x,xs[base+i]?=some x/\S x/\B i=(if left then O.blt (key x) (key k)else ! O.blt (key k) (key x)))(mono:∀i j,i<=j->j<n->B j=true->B i=true)(h:∀r,r<=n->(∀i,i<r->B i=true)->(∀i,r<=i->i<n->B i=false)->Q (some r) st):
  wpS (JZ prog w) A E s (C9 left k xs base n hint) Q st:=by
 have bey:∀i,i<n->∀Q:Option Bool->Ls->Prop,Q (some (B i)) st->wpS (JZ prog w) A E s (do
   let x <-elem' xs (base+i)
   if left=true then lt' x k else do
    let r <-lt' k x
    pure (Option.map (λx=>! x) r)) Q st:=by
  intro i hi Q q;obtain⟨x,hx,hs,e⟩:=hB i hi;refine Lx (zg hx ?_);cases left with
  |true=>
   rw[Mk rfl];refine C x k st _ hs hS hk ?_;rw[Mk rfl]at e;rw[<-e];exact q
  |false=>
   rw[Ml (by simp)];refine Lx (C k x st _ hS hs hk (Lw ?_));rw[Ml (by simp)]at e;rw[QY,<-e];exact q
 have anti:∀i j,i<=j->j<n->B i=false->B j=false:=λi j h1 h2 h3=>by
  cases z:B j
  .rfl
  .rw[mono i j h1 h2 z]at h3;cases h3
 refine Lx (bey hint h0 _ ?_);dsimp only;cases hr:B hint with
 |true=>
  rw[Mk rfl];refine Lx (Ly (Lz (I:=λx c st'=>st=st'/\∃last ofs,c=(none,last,ofs)/\last<ofs/\x+1<=ofs/\hint+last<n/\B (hint+last)=true)
   (Q:=λc st'=>st=st'/\∃last ofs,c=(none,last,ofs)/\last<ofs/\hint+last<n/\B (hint+last)=true/\(n-hint<=ofs\/(hint+ofs<n/\B (hint+ofs)=false))) ?s1 ?f1 ⟨rfl,0,1,rfl,by lia,by lia,h0,hr⟩) ?p1)
  case f1=>
   rintro c st' ⟨rfl,last,ofs,rfl,a1,a2,a3,a4⟩;exact⟨rfl,last,ofs,rfl,a1,a3,a4,.inl (by lia)⟩
  case s1=>
   rintro x c st' _ hx ⟨rfl,last,ofs,rfl,a1,a2,a3,a4⟩;dsimp only;by_cases c1:ofs ≥ n-hint
   .rw[Mk c1];exact Lw ⟨rfl,last,ofs,rfl,a1,a3,a4,.inl c1⟩
   .rw[Ml c1];refine Lx (bey (hint+ofs) (by lia) _ ?_);dsimp only;cases hm:B (hint+ofs)with
    |false=>
     rw[Mk (show(! false)=true from rfl)];exact Lw ⟨rfl,last,ofs,rfl,a1,a3,a4,.inr ⟨by lia,hm⟩⟩
    |true=>
     rw[Ml (show ¬(! true)=true by decide)];exact Lw ⟨rfl,ofs,2*ofs+1,rfl,by lia,by lia,by lia,hm⟩
  case p1=>
   rintro c st' ⟨rfl,last,ofs,rfl,a1,a3,a4,a5⟩;dsimp only;refine Lx (Ly (Lz (I:=λx c st'=>st=st'/\∃lo hi,c=(none,lo,hi)/\lo<=hi/\hi<=n/\hi-lo<=n-x/\(∀i,i<lo->B i=true)/\(∀i,hi<=i->i<n->B i=false))
    (Q:=λc st'=>st=st'/\∃hi,c=(none,hi,hi)/\hi<=n/\(∀i,i<hi->B i=true)/\(∀i,hi<=i->i<n->B i=false)) ?s2 ?f2 ⟨rfl,_,_,rfl,by lia,by lia,by lia,λi hi=>mono i (hint+last) (by lia) a3 a4,λi h1 h2=>?g2⟩) ?p2)
   case g2=>
    rcases a5 with a5|⟨a5,a6⟩
    .lia
    .exact anti (hint+ofs) i (by lia) h2 a6
   case f2=>
    rintro c st' ⟨rfl,lo,hi,rfl,b1,b2,b3,b4,b5⟩;have:lo=hi:=by lia
    subst this;exact⟨rfl,lo,rfl,b2,b4,b5⟩
   case s2=>
    rintro x c st' _ hx ⟨rfl,lo,hi,rfl,b1,b2,b3,b4,b5⟩;dsimp only;by_cases c1:lo ≥ hi
    .rw[Mk c1];have:lo=hi:=by lia
     subst this;exact Lw ⟨rfl,lo,rfl,b2,b4,b5⟩
    .rw[Ml c1];refine Lx (bey (lo+(hi-lo)/2) (by lia) _ ?_);dsimp only;cases hm:B (lo+(hi-lo)/2)with
     |false=>
      rw[Ml (by simp)];exact Lw ⟨rfl,lo,lo+(hi-lo)/2,rfl,by lia,by lia,by lia,b4,λi h1 h2=>anti _ i h1 h2 hm⟩
     |true=>
      rw[Mk rfl];exact Lw ⟨rfl,lo+(hi-lo)/2+1,hi,rfl,by lia,by lia,by lia,λi h1=>mono i _ (by lia) (by lia) hm,b5⟩
   case p2=>
    rintro c st' ⟨rfl,hi,rfl,b2,b4,b5⟩;dsimp only;exact Lw (h hi b2 b4 b5)
 |false=>
  rw[Ml (by simp)];refine Lx (Ly (Lz (I:=λx c st'=>st=st'/\∃last ofs,c=(none,last,ofs)/\last<ofs/\x+1<=ofs/\last<=hint/\B (hint-last)=false)
   (Q:=λc st'=>st=st'/\∃last ofs,c=(none,last,ofs)/\last<ofs/\last<=hint/\B (hint-last)=false/\(hint+1<=ofs\/(ofs<=hint/\B (hint-ofs)=true))) ?s3 ?f3 ⟨rfl,0,1,rfl,by lia,by lia,by lia,hr⟩) ?p3)
  case f3=>
   rintro c st' ⟨rfl,last,ofs,rfl,a1,a2,a3,a4⟩;exact⟨rfl,last,ofs,rfl,a1,a3,a4,.inl (by lia)⟩
  case s3=>
   rintro x c st' _ hx ⟨rfl,last,ofs,rfl,a1,a2,a3,a4⟩;dsimp only;by_cases c1:ofs ≥ hint+1
   .rw[Mk c1];exact Lw ⟨rfl,last,ofs,rfl,a1,a3,a4,.inl c1⟩
   .rw[Ml c1];refine Lx (bey (hint-ofs) (by lia) _ ?_);dsimp only;cases hm:B (hint-ofs)with
    |true=>
     rw[Mk rfl];exact Lw ⟨rfl,last,ofs,rfl,a1,a3,a4,.inr ⟨by lia,hm⟩⟩
    |false=>
     rw[Ml (by simp)];exact Lw ⟨rfl,ofs,2*ofs+1,rfl,by lia,by lia,by lia,hm⟩
  case p3=>
   rintro c st' ⟨rfl,last,ofs,rfl,a1,a3,a4,a5⟩;dsimp only;refine Lx (Ly (Lz (I:=λx c st'=>st=st'/\∃lo hi,c=(none,lo,hi)/\lo<=hi/\hi<=n/\hi-lo<=n-x/\(∀i,i<lo->B i=true)/\(∀i,hi<=i->i<n->B i=false))
    (Q:=λc st'=>st=st'/\∃hi,c=(none,hi,hi)/\hi<=n/\(∀i,i<hi->B i=true)/\(∀i,hi<=i->i<n->B i=false)) ?s4 ?f4 ⟨rfl,_,_,rfl,by lia,by lia,by lia,λi hi=>?g4,λi h1 h2=>anti _ i h1 h2 a4⟩) ?p4)
   case g4=>
    rcases a5 with a5|⟨a5,a6⟩
    .lia
    .exact mono i (hint-ofs) (by lia) (by lia) a6
   case f4=>
    rintro c st' ⟨rfl,lo,hi,rfl,b1,b2,b3,b4,b5⟩;have:lo=hi:=by lia
    subst this;exact⟨rfl,lo,rfl,b2,b4,b5⟩
   case s4=>
    rintro x c st' _ hx ⟨rfl,lo,hi,rfl,b1,b2,b3,b4,b5⟩;dsimp only;by_cases c1:lo ≥ hi
    .rw[Mk c1];have:lo=hi:=by lia
     subst this;exact Lw ⟨rfl,lo,rfl,b2,b4,b5⟩
    .rw[Ml c1];refine Lx (bey (lo+(hi-lo)/2) (by lia) _ ?_);dsimp only;cases hm:B (lo+(hi-lo)/2)with
     |false=>
      rw[Ml (by simp)];exact Lw ⟨rfl,lo,lo+(hi-lo)/2,rfl,by lia,by lia,by lia,b4,λi h1 h2=>anti _ i h1 h2 hm⟩
     |true=>
      rw[Mk rfl];exact Lw ⟨rfl,lo+(hi-lo)/2+1,hi,rfl,by lia,by lia,by lia,λi h1=>mono i _ (by lia) (by lia) hm,b5⟩
   case p4=>
    rintro c st' ⟨rfl,hi,rfl,b2,b4,b5⟩;dsimp only;exact Lw (h hi b2 b4 b5)
end
section
variable{O:Lr}{key:Keyed->O.α}
def Le(O:Lr)(key:Keyed->O.α)(x y:Keyed):Prop:=O.kle (key x) (key y)
def bg(O:Lr)(key:Keyed->O.α)(l:List Keyed):Prop:=l.Pairwise (Le O key)
def Le.trans{x y z:Keyed}(h1:Le O key x y)(h2:Le O key y z):Le O key x z:=KeyOrd.kle_trans h1 h2
def bg.drop_le (h:bg O key l)(hx:l[i]?=some x):∀y∈l.drop i,Le O key x y:=by
 intro y hy;obtain⟨hi,rfl⟩:=Qa.mp hx;rw[QP hi]at hy;rcases Qn.mp hy with rfl|hy
 .exact KeyOrd.kle_refl _
 .have h2:bg O key (l.drop i):=h.sublist (Wk i l);rw[QP hi]at h2;exact(Wv.mp h2).1 y hy
def bg.at_le (h:bg O key l){j:Nat}(hij:i<=j)(hx:l[i]?=some x)(hy:l[j]?=some y):Le O key x y:=by
 refine h.drop_le hx y ?_;have:(l.drop i)[j-i]?=some y:=by rw[Q7,show i+(j-i)=j by lia];exact hy
 exact Qp this
structure MI(O:Lr)(key:Keyed->O.α)(X Y:List Keyed)(ia ib:Nat)(L:List Keyed):Prop where
 ha:ia<=X.length
 hb:ib<=Y.length
 pm:L.Perm (X.take ia++Y.take ib)
 so:bg O key L
 la:∀z∈L,∀x∈X.drop ia,Le O key z x
 lb:∀z∈L,∀y∈Y.drop ib,Le O key z y
def wg(O:Lr)(key:Keyed->O.α)(X Y r:List Keyed):Prop:=bg O key r/\r.Perm (X++Y)
variable{X Y L:List Keyed}{ia ib:Nat}
def zW (h1:bg O key l)(h2:bg O key r)(h:∀x∈l,∀y∈r,Le O key x y):bg O key (l++r):=List.pairwise_append.mpr ⟨h1,h2,h⟩
def MI.done(M:MI O key X Y ia ib L)(hX:bg O key X)(hY:bg O key Y)(h:ia=X.length\/ib=Y.length):wg O key X Y (L++X.drop ia++Y.drop ib):=by
 refine⟨?_,?_⟩
 .rcases h with rfl|rfl
  .rw[W0,QZ];exact zW M.so (hY.sublist (Wk _ _)) M.lb
  .rw[W0,QZ];exact zW M.so (hX.sublist (Wk _ _)) M.la
 .refine ((M.pm.append_right _).append_right _).trans ?_;have e1:(X.take ia++Y.take ib++X.drop ia++Y.drop ib).Perm (X.take ia++(X.drop ia++Y.take ib)++Y.drop ib):=by
   refine WA.append_right _ ?_;rw[Qj];exact WA.append_left _ Wp
  refine e1.trans ?_;rw[<-Qj (X.take ia),QI,Qj,QI]
def MI.last(M:MI O key X Y ia ib L)(hX:bg O key X)(hY:bg O key Y)(hl:∀y∈Y,∀x,X[X.length-1]?=some x->Le O key y x)(h:ia+1=X.length):wg O key X Y (L++Y.drop ib++X.drop ia):=by
 have e:X.drop ia=[X[ia]'(by lia)]:=by
  rw[QP (by lia),h,W0]
 refine⟨?_,?_⟩
 .rw[Qj];refine zW M.so (zW (hY.sublist (Wk _ _)) (hX.sublist (Wk _ _)) ?_) ?_
  .intro y hy x hx;rw[e]at hx;rw[Qq.mp hx];exact hl y (Wq hy) _ (by rw[show X.length-1=ia by lia];simp)
  .intro z hz y hy;rcases Qx.mp hy with hy|hy
   .exact M.lb z hz y hy
   .exact M.la z hz y hy
 .have:=M.pm;refine((M.pm.append_right _).append_right _).trans ?_;have e1:(X.take ia++Y.take ib++Y.drop ib++X.drop ia).Perm (X.take ia++Y++X.drop ia):=by
   rw[Qj (X.take ia),QI]
  refine e1.trans ?_;rw[Qj];refine(WA.append_left _ Wp).trans ?_;rw[<-Qj,QI]
def ye {l:List Keyed}(h:l[i]?=some x):l.take (i+1)=l.take i++[x]:=by
 obtain⟨hi,rfl⟩:=Qa.mp h;rw[List.take_succ_eq_append_getElem hi]
def vA {l:List Keyed}(h:i<=j)(hx:x∈l.drop j):x∈l.drop i:=by
 have:l.drop j=(l.drop i).drop (j-i):=by rw[Wy];congr 1;lia
 rw[this]at hx;exact Wq hx
def MI.pushA(M:MI O key X Y ia ib L)(hX:bg O key X){x:Keyed}(hx:X[ia]?=some x)(h:∀y∈Y.drop ib,Le O key x y):MI O key X Y (ia+1) ib (L++[x]):=by
 have hi:=(Qa.mp hx).1;have hm:x∈X.drop ia:=by
  obtain⟨_,rfl⟩:=Qa.mp hx;rw[QP hi];exact QW
 refine⟨by lia,M.hb,?_,zW M.so (by simp[bg]) (λz hz y hy=>by rw[Qq.mp hy];exact M.la z hz x hm),λz hz y hy=>?_,λz hz y hy=>?_⟩
 .rw[ye hx];refine(M.pm.append_right _).trans ?_;rw[Qj,Qj];exact WA.append_left _ Wp
 .rcases Qx.mp hz with hz|hz
  .exact M.la z hz y (vA (by lia) hy)
  .rw[Qq.mp hz];exact hX.drop_le hx y (vA (by lia) hy)
 .rcases Qx.mp hz with hz|hz
  .exact M.lb z hz y hy
  .rw[Qq.mp hz];exact h y hy
def MI.pushB(M:MI O key X Y ia ib L)(hY:bg O key Y){y:Keyed}(hy:Y[ib]?=some y)(h:∀x∈X.drop ia,Le O key y x):MI O key X Y ia (ib+1) (L++[y]):=by
 have hi:=(Qa.mp hy).1;have hm:y∈Y.drop ib:=by
  obtain⟨_,rfl⟩:=Qa.mp hy;rw[QP hi];exact QW
 refine⟨M.ha,by lia,?_,zW M.so (by simp[bg]) (λz hz x hx=>by rw[Qq.mp hx];exact M.lb z hz y hm),λz hz x hx=>?_,λz hz x hx=>?_⟩
 .rw[ye hy,<-Qj];exact M.pm.append_right _
 .rcases Qx.mp hz with hz|hz
  .exact M.la z hz x hx
  .rw[Qq.mp hz];exact h x hx
 .rcases Qx.mp hz with hz|hz
  .exact M.lb z hz x (vA (by lia) hx)
  .rw[Qq.mp hz];exact hY.drop_le hy x (vA (by lia) hx)
def j4 {l:List Keyed}(h:l[i+k]?=some x):(l.drop i).take (k+1)=(l.drop i).take k++[x]:=ye (by rw[Q7];exact h)
theorem MI.blockA(M:MI O key X Y ia ib L)(hX:bg O key X):∀k,ia+k<=X.length->(∀i,i<k->∀x,X[ia+i]?=some x->∀y∈Y.drop ib,Le O key x y)->MI O key X Y (ia+k) ib (L++(X.drop ia).take k)
 |0,_,_=>by simpa using M
 |k+1,h,hl=>by
  have q:=M.blockA hX k (by lia) λi hi=>hl i (by lia);have hx:X[ia+k]?=some X[ia+k]:=by simp
  have:=q.pushA hX hx (hl k (by lia) _ hx);rw[j4 hx,<-Qj];exact this
theorem MI.blockB(M:MI O key X Y ia ib L)(hY:bg O key Y):∀k,ib+k<=Y.length->(∀i,i<k->∀y,Y[ib+i]?=some y->∀x∈X.drop ia,Le O key y x)->MI O key X Y ia (ib+k) (L++(Y.drop ib).take k)
 |0,_,_=>by simpa using M
 |k+1,h,hl=>by
  have q:=M.blockB hY k (by lia) λi hi=>hl i (by lia);have hx:Y[ib+k]?=some Y[ib+k]:=by simp
  have:=q.pushB hY hx (hl k (by lia) _ hx);rw[j4 hx,<-Qj];exact this
end
section
variable{O:Lr}{key:Keyed->O.α}{S:Keyed->Prop}{a b:Array Keyed}
def Eqv(st st':Ls):Prop:=kindOf st'=kindOf st/\LA st'=LA st/\LB st'=LB st/\LC st'=LC st
def Eqv.refl(st:Ls):Eqv st st:=⟨rfl,rfl,rfl,rfl⟩
def nU(p a b:Array Keyed)(i j:Nat):(p++a.extract i++b.extract j).toList=p.toList++a.toList.drop i++b.toList.drop j:=by
 simp only[W4,Ww,Wn];rw[Wt (by simp),Wt (by simp)]
def nT(p a:Array Keyed)(i k:Nat):(p++a.extract i (i+k)).toList=p.toList++(a.toList.drop i).take k:=by
 simp only[W4,Ww,Wn];rw[show i+k-i=k by lia]
def kZ (M:MI O key a.toList b.toList ia ib p.toList)(hX:bg O key a.toList)(hY:bg O key b.toList)(h:ia=a.size\/ib=b.size):wg O key a.toList b.toList (p++a.extract ia++b.extract ib).toList:=by
 rw[nU];exact M.done hX hY h
def k9 (M:MI O key a.toList b.toList ia ib p.toList)(hX:bg O key a.toList)(hY:bg O key b.toList)(hl:∀y∈b.toList,∀x,a.toList[a.toList.length-1]?=some x->Le O key y x)(h:ia+1=a.size):wg O key a.toList b.toList (p++b.extract ib++a.extract ia).toList:=by
 rw[nU];exact M.last hX hY hl h
def ja {p:Array Keyed}(M:MI O key a.toList b.toList ia ib p.toList)(hX:bg O key a.toList)(hx:a[ia]?=some x)(h:∀y∈b.toList.drop ib,Le O key x y):MI O key a.toList b.toList (ia+1) ib (p.push x).toList:=by
 rw[WU];exact M.pushA hX (by simpa using hx) h
def gN {p:Array Keyed}(M:MI O key a.toList b.toList ia ib p.toList)(hY:bg O key b.toList)(hy:b[ib]?=some y)(h:∀x∈a.toList.drop ia,Le O key y x):MI O key a.toList b.toList ia (ib+1) (p.push y).toList:=by
 rw[WU];exact M.pushB hY (by simpa using hy) h
def C8 (M:MI O key a.toList b.toList ia ib p.toList)(hX:bg O key a.toList)(hk:ia+k<=a.size)(h:∀i,i<k->∀x,a.toList[ia+i]?=some x->∀y∈b.toList.drop ib,Le O key x y):MI O key a.toList b.toList (ia+k) ib (p++a.extract ia (ia+k)).toList:=by
 rw[nT];exact M.blockA hX k hk h
def rQ (M:MI O key a.toList b.toList ia ib p.toList)(hY:bg O key b.toList)(hk:ib+k<=b.size)(h:∀i,i<k->∀y,b.toList[ib+i]?=some y->∀x∈a.toList.drop ia,Le O key y x):MI O key a.toList b.toList ia (ib+k) (p++b.extract ib (ib+k)).toList:=by
 rw[nT];exact M.blockB hY k hk h
variable{prog:JM}{w:JN}{A:JW}{E:Value->Shared->Prop}{s:Shared}
noncomputable def EE:Array Keyed->Array Keyed->StateT Ls Sem (Array Keyed):=sortPriv% PySem.Builtin.mergeLo
def qM (C:dO prog w A E s O key S){st:Ls}(hk:kindOf st=Lu)(hX:bg O key a.toList)(hY:bg O key b.toList)(hSa:∀x∈a.toList,S x)(hSb:∀x∈b.toList,S x)(hb0:0<b.size)(ha0:0<a.size)(hfirst:∀x∈a.toList,∀y,b[0]?=some y->Le O key y x)(hl:∀y∈b.toList,∀x,a.toList[a.toList.length-1]?=some x->Le O key y x)(h:∀r st',Eqv st st'->wg O key a.toList b.toList r.toList->Q r st'):
  wpS (JZ prog w) A E s (EE a b) Q st:=by
 have atA:∀i,i<a.size->∃x,a[i]?=some x/\S x/\a.toList[i]?=some x:=λi hi=>⟨a[i],by simp[hi],hSa _ (by simp),by simp[hi]⟩;have atB:∀i,i<b.size->∃x,b[i]?=some x/\S x/\b.toList[i]?=some x:=λi hi=>⟨b[i],by simp[hi],hSb _ (by simp),by simp[hi]⟩;have gA:∀(ia:Nat) (v:Keyed) (i:Nat),ia+i<a.size->∃x,a[ia+i]?=some x/\S x/\(! O.blt (key v) (key (a.getD (ia+i) v)))=(if false=true then O.blt (key x) (key v)else ! O.blt (key v) (key x)):=by
  intro ia v i hi;obtain⟨x,hx,sx,_⟩:=atA (ia+i) hi;exact⟨x,hx,sx,by rw[Ml (by simp),Q3,hx];rfl⟩
 have gB:∀(ib:Nat) (u:Keyed) (i:Nat),ib+i<b.size->∃x,b[ib+i]?=some x/\S x/\O.blt (key (b.getD (ib+i) u)) (key u)=(if true=true then O.blt (key x) (key u)else ! O.blt (key u) (key x)):=by
  intro ib u i hi;obtain⟨x,hx,sx,_⟩:=atB (ib+i) hi;exact⟨x,hx,sx,by rw[Mk rfl,Q3,hx];rfl⟩
 have dA:∀(i:Nat) (v x:Keyed),a.toList[i]?=some x->a.getD i v=x:=λi v x hx=>by rw[Q3,<-QB,hx];rfl
 have dB:∀(i:Nat) (v x:Keyed),b.toList[i]?=some x->b.getD i v=x:=λi v x hx=>by rw[Q3,<-QB,hx];rfl
 have mA:∀(ia:Nat) (v:Keyed) (i j:Nat),i<=j->j<a.size-ia->(! O.blt (key v) (key (a.getD (ia+j) v)))=true->(! O.blt (key v) (key (a.getD (ia+i) v)))=true:=by
  intro ia v i j hij hj hB;obtain⟨x,hx,_,hx'⟩:=atA (ia+i) (by lia);obtain⟨y,hy,_,hy'⟩:=atA (ia+j) (by lia);rw[dA _ _ _ hy']at hB;rw[dA _ _ _ hx'];have e:Le O key x v:=Le.trans (hX.at_le (by lia) hx' hy') (show O.blt (key v) (key y)=false from by simpa using hB);simpa using (show O.blt (key v) (key x)=false from e)
 have mB:∀(ib:Nat) (u:Keyed) (i j:Nat),i<=j->j<b.size-ib->O.blt (key (b.getD (ib+j) u)) (key u)=true->O.blt (key (b.getD (ib+i) u)) (key u)=true:=by
  intro ib u i j hij hj hB;obtain⟨x,hx,_,hx'⟩:=atB (ib+i) (by lia);obtain⟨y,hy,_,hy'⟩:=atB (ib+j) (by lia);rw[dB _ _ _ hy']at hB;rw[dB _ _ _ hx'];exact KeyOrd.klt_of_kle_of_klt (hY.at_le (by lia) hx' hy') hB
 have lowA:∀(ia:Nat) (v:Keyed) (k:Nat),(∀i,i<k->(! O.blt (key v) (key (a.getD (ia+i) v)))=true)->∀i,i<k->∀x,a.toList[ia+i]?=some x->Le O key x v:=by
  intro ia v k hk i hi x hx;have:=hk i hi;rw[dA _ _ _ hx]at this;exact(show O.blt (key v) (key x)=false from by simpa using this)
 have highA:∀(ia:Nat) (v:Keyed) (k:Nat),(∀i,k<=i->i<a.size-ia->(! O.blt (key v) (key (a.getD (ia+i) v)))=false)->∀x∈a.toList.drop (ia+k),Le O key v x:=by
  intro ia v k hk x hx;obtain⟨i,hi⟩:=Qv hx;rw[Q7]at hi;have hlt:ia+k+i<a.size:=(Qa.mp hi).1;have:=hk (k+i) (by lia) (by lia);rw[show ia+(k+i)=ia+k+i by lia,dA _ _ _ hi]at this;exact KeyOrd.kle_of_klt (show O.blt (key v) (key x)=true from by simpa using this)
 have lowB:∀(ib:Nat) (u:Keyed) (k:Nat),(∀i,i<k->O.blt (key (b.getD (ib+i) u)) (key u)=true)->∀i,i<k->∀y,b.toList[ib+i]?=some y->Le O key y u:=by
  intro ib u k hk i hi x hx;have:=hk i hi;rw[dB _ _ _ hx]at this;exact KeyOrd.kle_of_klt this
 have upA:∀(ib:Nat) (u:Keyed) (k:Nat),(∀i,k<=i->i<b.size-ib->O.blt (key (b.getD (ib+i) u)) (key u)=false)->∀y∈b.toList.drop (ib+k),Le O key u y:=by
  intro ib u k hk x hx;obtain⟨i,hi⟩:=Qv hx;rw[Q7]at hi;have hlt:ib+k+i<b.size:=(Qa.mp hi).1;have:=hk (k+i) (by lia) (by lia);rw[show ib+(k+i)=ib+k+i by lia,dB _ _ _ hi]at this;exact this
 obtain⟨y0,hy0,_,hy0'⟩:=atB 0 hb0;refine Lx (LF (Lg ⟨rfl,?_⟩));refine Lx (zg hy0 ?_);dsimp only;have M0:MI O key a.toList b.toList 0 1 (#[y0]:Array Keyed).toList:=by
  have e:MI O key a.toList b.toList 0 0 (#[]:Array Keyed).toList:=⟨WK _,WK _,by simp,by simp[bg],by simp,by simp⟩;exact gN e hY hy0 (λx hx=>hfirst x (by simpa using hx) y0 hy0)
 by_cases c1:1=b.size
 .rw[Mk (by simpa using c1)];exact Lw (h _ _ (.refl _) (kZ M0 hX hY (.inr c1)))
 rw[Ml (by simpa using c1)];by_cases c2:0+1=a.size
 .rw[Mk (by simpa using c2)];exact Lw (h _ _ (.refl _) (k9 M0 hX hY hl c2))
 rw[Ml (by simpa using c2)];refine Lx (LG ?_);refine Lx (Ly (Lz (I:=λx c st'=>Eqv st st'/\∃out ia ib mg,c=(none,out,ia,ib,mg)/\MI O key a.toList b.toList ia ib out.toList/\ia+1<a.size/\ib<b.size/\x+1<=ia+ib)
  (Q:=λc st'=>Eqv st st'/\∃r out ia ib mg,c=(some r,out,ia,ib,mg)/\wg O key a.toList b.toList r.toList) ?s1 ?f1 ⟨.refl _,_,_,_,_,rfl,M0,by lia,by lia,by lia⟩) ?p1)
 case p1=>
  rintro c st' ⟨hE,r,out,ia,ib,mg,rfl,hg⟩;exact Lw (h _ _ hE hg)
 case f1=>
  rintro c st' ⟨hE,out,ia,ib,mg,rfl,M,h1,h2,h3⟩;lia
 case s1=>
  rintro x0 c st0 _ hx0 ⟨hE0,out0,ia0,ib0,mg0,rfl,M00,h10,h20,h30⟩;dsimp only;refine Lx (Ly (Lz (I:=λx c st'=>Eqv st st'/\∃out ia ib ac bc,c=(none,out,ia,ib,ac,bc)/\MI O key a.toList b.toList ia ib out.toList/\ia+1<a.size/\ib<b.size/\x0+1+x<=ia+ib)
   (Q:=λc st'=>Eqv st st'/\((∃r out ia ib ac bc,c=(some r,out,ia,ib,ac,bc)/\wg O key a.toList b.toList r.toList)\/∃out ia ib ac bc,c=(none,out,ia,ib,ac,bc)/\MI O key a.toList b.toList ia ib out.toList/\ia+1<a.size/\ib<b.size/\x0+2<=ia+ib)) ?s2 ?f2 ⟨hE0,_,_,_,_,_,rfl,M00,h10,h20,h30⟩) ?p2)
  case f2=>
   rintro c st' ⟨hE,out,ia,ib,ac,bc,rfl,M,h1,h2,h3⟩;exact⟨hE,.inr ⟨out,ia,ib,ac,bc,rfl,M,h1,h2,by lia⟩⟩
  case s2=>
   rintro x c st' _ hx ⟨hE,out,ia,ib,ac,bc,rfl,M,h1,h2,h3⟩;dsimp only;obtain⟨u,hu,su,hu'⟩:=atA ia (by lia);obtain⟨v,hv,sv,hv'⟩:=atB ib h2;refine Lx (zg hv (Lx (zg hu (Lx (C v u st' _ sv su (hE.1.trans hk) ?_)))));dsimp only;cases hc:O.blt (key v) (key u)with
   |true=>
    rw[Mk rfl];have M2:=gN M hY hv (λx hx=>Le.trans (KeyOrd.kle_of_klt hc) (hX.drop_le hu' x hx));refine Lx (zg hv ?_);by_cases c1:ib+1=b.size
    .rw[Mk (by simpa using c1)];exact Lw ⟨hE,.inl ⟨_,_,_,_,_,_,rfl,kZ M2 hX hY (.inr c1)⟩⟩
    .rw[Ml (by simpa using c1)];split
     .exact Lw ⟨hE,.inr ⟨_,_,_,_,_,rfl,M2,by lia,by lia,by lia⟩⟩
     .exact Lw ⟨hE,_,_,_,_,_,rfl,M2,by lia,by lia,by lia⟩
   |false=>
    rw[Ml (by simp)];have M2:=ja M hX hu (λy hy=>Le.trans (show Le O key u v from hc) (hY.drop_le hv' y hy));refine Lx (zg hu ?_);by_cases c1:ia+1+1=a.size
    .rw[Mk (by simpa using c1)];exact Lw ⟨hE,.inl ⟨_,_,_,_,_,_,rfl,k9 M2 hX hY hl c1⟩⟩
    .rw[Ml (by simpa using c1)];split
     .exact Lw ⟨hE,.inr ⟨_,_,_,_,_,rfl,M2,by lia,by lia,by lia⟩⟩
     .exact Lw ⟨hE,_,_,_,_,_,rfl,M2,by lia,by lia,by lia⟩
  case p2=>
   rintro c st1 ⟨hE1,⟨r,out,ia,ib,ac,bc,rfl,hg⟩|⟨out1,ia1,ib1,ac1,bc1,rfl,M1,h11,h21,h31⟩⟩
   .exact Lw ⟨hE1,r,out,ia,ib,_,rfl,hg⟩
   dsimp only;refine Lx (LF (Lg ⟨rfl,?_⟩));refine Lx (Ly (Lz (I:=λx c st'=>Eqv st st'/\∃out ia ib mg ac bc,c=(none,out,ia,ib,mg,ac,bc)/\MI O key a.toList b.toList ia ib out.toList/\ia+1<a.size/\ib<b.size/\x0+2<=ia+ib)
    (Q:=λc st'=>Eqv st st'/\((∃r out ia ib mg ac bc,c=(some r,out,ia,ib,mg,ac,bc)/\wg O key a.toList b.toList r.toList)\/∃out ia ib mg ac bc,c=(none,out,ia,ib,mg,ac,bc)/\MI O key a.toList b.toList ia ib out.toList/\ia+1<a.size/\ib<b.size/\x0+2<=ia+ib)) ?s3 ?f3 ⟨hE1,_,_,_,_,_,_,rfl,M1,h11,h21,h31⟩) ?p3)
   case f3=>
    rintro c st' ⟨hE,out,ia,ib,mg,ac,bc,rfl,M,h1,h2,h3⟩;exact⟨hE,.inr ⟨out,ia,ib,mg,ac,bc,rfl,M,h1,h2,h3⟩⟩
   case p3=>
    rintro c st' ⟨hE,⟨r,out,ia,ib,mg,ac,bc,rfl,hg⟩|⟨out,ia,ib,mg,ac,bc,rfl,M,h1,h2,h3⟩⟩
    .exact Lw ⟨hE,r,out,ia,ib,_,rfl,hg⟩
    .dsimp only;refine Lx (LH ?_);exact Lw ⟨hE,_,_,_,_,rfl,M,h1,h2,by lia⟩
   case s3=>
    rintro x c st' _ hx ⟨hE,out,ia,ib,mg,ac,bc,rfl,M,h1,h2,h3⟩;dsimp only;obtain⟨v,hv,sv,hv'⟩:=atB ib h2;by_cases cm:mg > 1
    all_goals
     first|rw[Mk cm]|rw[Ml cm]
     refine Lx (LH ?_);refine Lx (zg hv ?_);refine Lx (yd C (st:=_) (hE.1.trans hk) sv (by lia) (λi=>! O.blt (key v) (key (a.getD (ia+i) v))) (λi hi=>gA ia v i (by lia)) (mA ia v) (λk k1 k2 k3=>?_));dsimp only;by_cases c1:k > 0
     .rw[Mk c1];have M2:=C8 M hX (by lia) (λi hi x hx y hy=>Le.trans (lowA _ _ _ k2 i hi x hx) (hY.drop_le hv' y hy));by_cases c2:ia+k+1=a.size
      .rw[Mk (by simpa using c2)];exact Lw ⟨hE,.inl ⟨_,_,_,_,_,_,_,rfl,k9 M2 hX hY hl c2⟩⟩
      rw[Ml (by simpa using c2)];by_cases c2':ia+k=a.size
      .rw[Mk (by simpa using c2')];exact Lw ⟨hE,.inl ⟨_,_,_,_,_,_,_,rfl,kZ M2 hX hY (.inl c2')⟩⟩
      rw[Ml (by simpa using c2')];have iI:=highA _ _ _ k3;obtain⟨u,hu,su,hu'⟩:=atA (ia+k) (by lia);have M3:=gN M2 hY hv (λx hx=>iI x hx);refine Lx (zg hv ?_);by_cases c3:ib+1=b.size
      .rw[Mk (by simpa using c3)];exact Lw ⟨hE,.inl ⟨_,_,_,_,_,_,_,rfl,kZ M3 hX hY (.inr c3)⟩⟩
      rw[Ml (by simpa using c3)];refine Lx (zg hu ?_);refine Lx (yd C (st:=_) (hE.1.trans hk) su (by lia) (λi=>O.blt (key (b.getD (ib+1+i) u)) (key u)) (λi hi=>gB _ _ _ (by lia)) (mB _ _) (λk' k1' k2' k3'=>?_));dsimp only;by_cases c5:k' > 0
      .rw[Mk c5];have M4:=rQ M3 hY (by lia) (λi hi y hy x hx=>Le.trans (lowB _ _ _ k2' i hi y hy) (hX.drop_le hu' x hx));by_cases c6:ib+1+k'=b.size
       .rw[Mk (by simpa using c6)];exact Lw ⟨hE,.inl ⟨_,_,_,_,_,_,_,rfl,kZ M4 hX hY (.inr c6)⟩⟩
       rw[Ml (by simpa using c6)];have M5:=ja M4 hX hu (upA _ _ _ k3');refine Lx (zg hu ?_);by_cases c4:ia+k+1+1=a.size
       .rw[Mk (by simpa using c4)];exact Lw ⟨hE,.inl ⟨_,_,_,_,_,_,_,rfl,k9 M5 hX hY hl c4⟩⟩
       .rw[Ml (by simpa using c4)];split
        .exact Lw ⟨hE,.inr ⟨_,_,_,_,_,_,rfl,M5,by lia,by lia,by lia⟩⟩
        .exact Lw ⟨hE,_,_,_,_,_,_,rfl,M5,by lia,by lia,by lia⟩
      .rw[Ml c5];obtain rfl:k'=0:=by lia
       have M5:=ja M3 hX hu (upA (ib+1) _ 0 k3');refine Lx (zg hu ?_);by_cases c4:ia+k+1+1=a.size
       .rw[Mk (by simpa using c4)];exact Lw ⟨hE,.inl ⟨_,_,_,_,_,_,_,rfl,k9 M5 hX hY hl c4⟩⟩
       .rw[Ml (by simpa using c4)];split
        .exact Lw ⟨hE,.inr ⟨_,_,_,_,_,_,rfl,M5,by lia,by lia,by lia⟩⟩
        .exact Lw ⟨hE,_,_,_,_,_,_,rfl,M5,by lia,by lia,by lia⟩
     .rw[Ml c1];obtain rfl:k=0:=by lia
      have M2:=M;have iI:=highA _ _ _ k3;obtain⟨u,hu,su,hu'⟩:=atA (ia) (by lia);have M3:=gN M2 hY hv (λx hx=>iI x hx);refine Lx (zg hv ?_);by_cases c3:ib+1=b.size
      .rw[Mk (by simpa using c3)];exact Lw ⟨hE,.inl ⟨_,_,_,_,_,_,_,rfl,kZ M3 hX hY (.inr c3)⟩⟩
      rw[Ml (by simpa using c3)];refine Lx (zg hu ?_);refine Lx (yd C (st:=_) (hE.1.trans hk) su (by lia) (λi=>O.blt (key (b.getD (ib+1+i) u)) (key u)) (λi hi=>gB _ _ _ (by lia)) (mB _ _) (λk' k1' k2' k3'=>?_));dsimp only;by_cases c5:k' > 0
      .rw[Mk c5];have M4:=rQ M3 hY (by lia) (λi hi y hy x hx=>Le.trans (lowB _ _ _ k2' i hi y hy) (hX.drop_le hu' x hx));by_cases c6:ib+1+k'=b.size
       .rw[Mk (by simpa using c6)];exact Lw ⟨hE,.inl ⟨_,_,_,_,_,_,_,rfl,kZ M4 hX hY (.inr c6)⟩⟩
       rw[Ml (by simpa using c6)];have M5:=ja M4 hX hu (upA _ _ _ k3');refine Lx (zg hu ?_);by_cases c4:ia+1+1=a.size
       .rw[Mk (by simpa using c4)];exact Lw ⟨hE,.inl ⟨_,_,_,_,_,_,_,rfl,k9 M5 hX hY hl c4⟩⟩
       .rw[Ml (by simpa using c4)];split
        .exact Lw ⟨hE,.inr ⟨_,_,_,_,_,_,rfl,M5,by lia,by lia,by lia⟩⟩
        .exact Lw ⟨hE,_,_,_,_,_,_,rfl,M5,by lia,by lia,by lia⟩
      .rw[Ml c5];obtain rfl:k'=0:=by lia
       have M5:=ja M3 hX hu (upA (ib+1) _ 0 k3');refine Lx (zg hu ?_);by_cases c4:ia+1+1=a.size
       .rw[Mk (by simpa using c4)];exact Lw ⟨hE,.inl ⟨_,_,_,_,_,_,_,rfl,k9 M5 hX hY hl c4⟩⟩
       .rw[Ml (by simpa using c4)];split
        .exact Lw ⟨hE,.inr ⟨_,_,_,_,_,_,rfl,M5,by lia,by lia,by lia⟩⟩
        .exact Lw ⟨hE,_,_,_,_,_,_,rfl,M5,by lia,by lia,by lia⟩
end
section
variable{O:Lr}{key:Keyed->O.α}{a b:Array Keyed}
def bg.take_le (h:bg O key l)(hx:l[i]?=some x):∀y∈l.take (i+1),Le O key y x:=by
 intro y hy;obtain⟨j,hj⟩:=Qv hy;have hlt:j<i+1:=by
  have:=(Qa.mp hj).1;rw[QQ]at this;lia
 rw[Qt hlt]at hj;exact h.at_le (by lia) hj hx
structure MH(O:Lr)(key:Keyed->O.α)(X Y:List Keyed)(na nb:Nat)(L:List Keyed):Prop where
 ha:na<=X.length
 hb:nb<=Y.length
 pm:L.Perm (X.drop na++Y.drop nb)
 so:bg O key L
 la:∀z∈L,∀x∈X.take na,Le O key x z
 lb:∀z∈L,∀y∈Y.take nb,Le O key y z
variable{X Y L:List Keyed}{na nb:Nat}
def MH.done(M:MH O key X Y na nb L)(hX:bg O key X)(hY:bg O key Y)(h:na=0\/nb=0):wg O key X Y (X.take na++Y.take nb++L):=by
 refine⟨?_,?_⟩
 .rcases h with rfl|rfl
  .rw[List.take_zero,Ws];exact zW (hY.sublist (Wi _ _)) M.so λx hx y hy=>M.lb y hy x hx
  .rw[List.take_zero,QZ];exact zW (hX.sublist (Wi _ _)) M.so λx hx y hy=>M.la y hy x hx
 .refine (M.pm.append_left _).trans ?_;have e1:(X.take na++Y.take nb++(X.drop na++Y.drop nb)).Perm (X.take na++(X.drop na++Y.take nb)++Y.drop nb):=by
   rw[<-Qj];refine WA.append_right _ ?_;rw[Qj];exact WA.append_left _ Wp
  refine e1.trans ?_;rw[<-Qj (X.take na),QI,Qj,QI]
def MH.first(M:MH O key X Y na nb L)(hX:bg O key X)(hY:bg O key Y)(hf:∀x∈X,∀y,Y[0]?=some y->Le O key y x)(h:nb=1):wg O key X Y (Y.take nb++X.take na++L):=by
 subst h;refine⟨?_,?_⟩
 .refine zW (zW (hY.sublist (Wi _ _)) (hX.sublist (Wi _ _)) ?_) M.so ?_
  .intro y hy x hx;obtain⟨j,hj⟩:=Qv hy;have hlt:=(Qa.mp hj).1;rw[QQ]at hlt;obtain rfl:j=0:=by lia
   rw[Qt (by lia)]at hj;exact hf x (Wb hx) y hj
  .intro x hx y hy;rcases Qx.mp hx with hx|hx
   .exact M.lb y hy x hx
   .exact M.la y hy x hx
 .refine (M.pm.append_left _).trans ?_;have e1:(Y.take 1++X.take na++(X.drop na++Y.drop 1)).Perm (Y.take 1++(X++Y.drop 1)):=by
   rw[Qj,<-Qj (X.take na),QI]
  refine e1.trans ?_;rw[<-Qj];refine(WA.append_right _ Wp).trans ?_;rw[Qj,QI]
def jb {l:List Keyed}(h:l[i]?=some x):l.drop i=x::l.drop (i+1):=by
 obtain⟨hi,rfl⟩:=Qa.mp h;exact QP hi
def vB {l:List Keyed}(h:i<=j)(hx:x∈l.take i):x∈l.take j:=by
 have:l.take i=(l.take j).take i:=by rw[List.take_take];congr 1;lia
 rw[this]at hx;exact Wb hx
def MH.pushA(M:MH O key X Y (na+1) nb L)(hX:bg O key X){x:Keyed}(hx:X[na]?=some x)(h:∀y∈Y.take nb,Le O key y x):MH O key X Y na nb (x::L):=by
 have hm:x∈X.take (na+1):=by rw[ye hx];simp
 have:=M.ha;refine⟨by lia,M.hb,?_,Wv.mpr ⟨λz hz=>M.la z hz x hm,M.so⟩,λz hz y hy=>?_,λz hz y hy=>?_⟩
 .rw[jb hx,Wz];exact M.pm.cons x
 .rcases Qn.mp hz with rfl|hz
  .exact hX.take_le hx y (vB (by lia) hy)
  .exact M.la z hz y (vB (by lia) hy)
 .rcases Qn.mp hz with rfl|hz
  .exact h y hy
  .exact M.lb z hz y hy
def MH.pushB(M:MH O key X Y na (nb+1) L)(hY:bg O key Y){y:Keyed}(hy:Y[nb]?=some y)(h:∀x∈X.take na,Le O key x y):MH O key X Y na nb (y::L):=by
 have hm:y∈Y.take (nb+1):=by rw[ye hy];simp
 have:=M.hb;refine⟨M.ha,by lia,?_,Wv.mpr ⟨λz hz=>M.lb z hz y hm,M.so⟩,λz hz x hx=>?_,λz hz x hx=>?_⟩
 .rw[jb hy];exact(M.pm.cons y).trans List.perm_middle.symm
 .rcases Qn.mp hz with rfl|hz
  .exact h x hx
  .exact M.la z hz x hx
 .rcases Qn.mp hz with rfl|hz
  .exact hY.take_le hy x (vB (by lia) hx)
  .exact M.lb z hz x (vB (by lia) hx)
def jc {l:List Keyed}(h:l[i]?=some x):(l.drop i).take (k+1)=x::(l.drop (i+1)).take k:=by
 rw[jb h,List.take_succ_cons]
theorem MH.blockA(hX:bg O key X):∀(k na:Nat),MH O key X Y (na+k) nb L->(∀i,na<=i->i<na+k->∀x,X[i]?=some x->∀y∈Y.take nb,Le O key y x)->MH O key X Y na nb ((X.drop na).take k++L)
 |0,_,M,_=>by simpa using M
 |k+1,na,M,hl=>by
  have hlt:=M.ha;have q:MH O key X Y (na+1) nb ((X.drop (na+1)).take k++L):=MH.blockA hX k (na+1) (by rw[show na+1+k=na+(k+1) by lia];exact M) λi h1 h2=>hl i (by lia) (by lia);have hx:X[na]?=some X[na]:=by simp
  rw[jc hx,Wz];exact q.pushA hX hx (hl na (Qh _) (by lia) _ hx)
theorem MH.blockB(hY:bg O key Y):∀(k nb:Nat),MH O key X Y na (nb+k) L->(∀i,nb<=i->i<nb+k->∀y,Y[i]?=some y->∀x∈X.take na,Le O key x y)->MH O key X Y na nb ((Y.drop nb).take k++L)
 |0,_,M,_=>by simpa using M
 |k+1,nb,M,hl=>by
  have hlt:=M.hb;have q:MH O key X Y na (nb+1) ((Y.drop (nb+1)).take k++L):=MH.blockB hY k (nb+1) (by rw[show nb+1+k=nb+(k+1) by lia];exact M) λi h1 h2=>hl i (by lia) (by lia);have hy:Y[nb]?=some Y[nb]:=by simp
  rw[jc hy,Wz];exact q.pushB hY hy (hl nb (Qh _) (by lia) _ hy)
def nS(p a b:Array Keyed)(i j:Nat):(a.extract 0 i++b.extract 0 j++p.reverse).toList=a.toList.take i++b.toList.take j++p.toList.reverse:=by
 simp only[W4,Ww,Wn,Array.toList_reverse,Vy,Nat.sub_zero]
def vC{p:Array Keyed}(M:MH O key a.toList b.toList na nb p.toList.reverse)(hX:bg O key a.toList)(hY:bg O key b.toList)(h:na=0\/nb=0):wg O key a.toList b.toList (a.extract 0 na++b.extract 0 nb++p.reverse).toList:=by
 rw[nS];exact M.done hX hY h
def vW{p:Array Keyed}(M:MH O key a.toList b.toList na nb p.toList.reverse)(hX:bg O key a.toList)(hY:bg O key b.toList)(hf:∀x∈a.toList,∀y,b.toList[0]?=some y->Le O key y x)(h:nb=1):wg O key a.toList b.toList (b.extract 0 nb++a.extract 0 na++p.reverse).toList:=by
 rw[nS];exact M.first hX hY hf h
def vX {p:Array Keyed}(M:MH O key a.toList b.toList na nb p.toList.reverse)(hX:bg O key a.toList)(h0:0<na)(hx:a[na-1]?=some x)(h:∀y∈b.toList.take nb,Le O key y x):MH O key a.toList b.toList (na-1) nb (p.push x).toList.reverse:=by
 obtain⟨n,rfl⟩:∃n,na=n+1:=⟨na-1,by lia⟩;rw[WU,WP];exact M.pushA hX (by simpa using hx) h
def lH {p:Array Keyed}(M:MH O key a.toList b.toList na nb p.toList.reverse)(hY:bg O key b.toList)(h0:0<nb)(hy:b[nb-1]?=some y)(h:∀x∈a.toList.take na,Le O key x y):MH O key a.toList b.toList na (nb-1) (p.push y).toList.reverse:=by
 obtain⟨n,rfl⟩:∃n,nb=n+1:=⟨nb-1,by lia⟩;rw[WU,WP];exact M.pushB hY (by simpa using hy) h
def nR(p a:Array Keyed)(i j:Nat):(p++(a.extract i j).reverse).toList.reverse=(a.toList.drop i).take (j-i)++p.toList.reverse:=by
 simp only[W4,Array.toList_reverse,Ww,Wn,WP,List.reverse_reverse]
def C7 (M:MH O key a.toList b.toList na nb p.toList.reverse)(hX:bg O key a.toList)(ht:t<=na)(h:∀i,t<=i->i<na->∀x,a.toList[i]?=some x->∀y∈b.toList.take nb,Le O key y x):MH O key a.toList b.toList t nb (p++(a.extract t na).reverse).toList.reverse:=by
 rw[nR];exact MH.blockA hX (na-t) t (by rw[show t+(na-t)=na by lia];exact M) λi h1 h2=>h i h1 (by lia)
def rP (M:MH O key a.toList b.toList na nb p.toList.reverse)(hY:bg O key b.toList)(ht:t<=nb)(h:∀i,t<=i->i<nb->∀y,b.toList[i]?=some y->∀x∈a.toList.take na,Le O key x y):MH O key a.toList b.toList na t (p++(b.extract t nb).reverse).toList.reverse:=by
 rw[nR];exact MH.blockB hY (nb-t) t (by rw[show t+(nb-t)=nb by lia];exact M) λi h1 h2=>h i h1 (by lia)
end
section
variable{O:Lr}{key:Keyed->O.α}{S:Keyed->Prop}{a b:Array Keyed}
variable{prog:JM}{w:JN}{A:JW}{E:Value->Shared->Prop}{s:Shared}
def Fb:Array Keyed->Array Keyed->StateT Ls Sem (Array Keyed):=sortPriv% PySem.Builtin.mergeHi
def qN (C:dO prog w A E s O key S){st:Ls}(hk:kindOf st=Lu)(hX:bg O key a.toList)(hY:bg O key b.toList)(hSa:∀x∈a.toList,S x)(hSb:∀x∈b.toList,S x)(hb0:0<b.size)(ha0:0<a.size)(hf:∀x∈a.toList,∀y,b.toList[0]?=some y->Le O key y x)(hl:∀y∈b.toList,∀x,a[a.size-1]?=some x->Le O key y x)(h:∀r st',Eqv st st'->wg O key a.toList b.toList r.toList->Q r st'):
  wpS (JZ prog w) A E s (Fb a b) Q st:=by
 have atA:∀i,i<a.size->∃x,a[i]?=some x/\S x/\a.toList[i]?=some x:=λi hi=>⟨a[i],by simp[hi],hSa _ (by simp),by simp[hi]⟩;have atB:∀i,i<b.size->∃x,b[i]?=some x/\S x/\b.toList[i]?=some x:=λi hi=>⟨b[i],by simp[hi],hSb _ (by simp),by simp[hi]⟩;have gA:∀(ia:Nat) (v:Keyed) (i:Nat),ia+i<a.size->∃x,a[ia+i]?=some x/\S x/\(! O.blt (key v) (key (a.getD (ia+i) v)))=(if false=true then O.blt (key x) (key v)else ! O.blt (key v) (key x)):=by
  intro ia v i hi;obtain⟨x,hx,sx,_⟩:=atA (ia+i) hi;exact⟨x,hx,sx,by rw[Ml (by simp),Q3,hx];rfl⟩
 have gB:∀(ib:Nat) (u:Keyed) (i:Nat),ib+i<b.size->∃x,b[ib+i]?=some x/\S x/\O.blt (key (b.getD (ib+i) u)) (key u)=(if true=true then O.blt (key x) (key u)else ! O.blt (key u) (key x)):=by
  intro ib u i hi;obtain⟨x,hx,sx,_⟩:=atB (ib+i) hi;exact⟨x,hx,sx,by rw[Mk rfl,Q3,hx];rfl⟩
 have dA:∀(i:Nat) (v x:Keyed),a.toList[i]?=some x->a.getD i v=x:=λi v x hx=>by rw[Q3,<-QB,hx];rfl
 have dB:∀(i:Nat) (v x:Keyed),b.toList[i]?=some x->b.getD i v=x:=λi v x hx=>by rw[Q3,<-QB,hx];rfl
 have mA:∀(ia:Nat) (v:Keyed) (i j:Nat),i<=j->j<a.size-ia->(! O.blt (key v) (key (a.getD (ia+j) v)))=true->(! O.blt (key v) (key (a.getD (ia+i) v)))=true:=by
  intro ia v i j hij hj hB;obtain⟨x,hx,_,hx'⟩:=atA (ia+i) (by lia);obtain⟨y,hy,_,hy'⟩:=atA (ia+j) (by lia);rw[dA _ _ _ hy']at hB;rw[dA _ _ _ hx'];have e:Le O key x v:=Le.trans (hX.at_le (by lia) hx' hy') (show O.blt (key v) (key y)=false from by simpa using hB);simpa using (show O.blt (key v) (key x)=false from e)
 have mB:∀(ib:Nat) (u:Keyed) (i j:Nat),i<=j->j<b.size-ib->O.blt (key (b.getD (ib+j) u)) (key u)=true->O.blt (key (b.getD (ib+i) u)) (key u)=true:=by
  intro ib u i j hij hj hB;obtain⟨x,hx,_,hx'⟩:=atB (ib+i) (by lia);obtain⟨y,hy,_,hy'⟩:=atB (ib+j) (by lia);rw[dB _ _ _ hy']at hB;rw[dB _ _ _ hx'];exact KeyOrd.klt_of_kle_of_klt (hY.at_le (by lia) hx' hy') hB
 have lowT:∀(t:Nat) (v:Keyed),t<=a.size->(∀i,i<t->(! O.blt (key v) (key (a.getD (0+i) v)))=true)->∀x∈a.toList.take t,Le O key x v:=by
  intro t v ht hB x hx;obtain⟨i,hi⟩:=Qv hx;have hlt:=(Qa.mp hi).1;rw[QQ]at hlt;rw[Qt (by lia)]at hi;have:=hB i (by lia);rw[WX,dA _ _ _ hi]at this;exact(show O.blt (key v) (key x)=false from by simpa using this)
 have highT:∀(t n:Nat) (v:Keyed),(∀i,t<=i->i<n->(! O.blt (key v) (key (a.getD (0+i) v)))=false)->∀i,t<=i->i<n->∀x,a.toList[i]?=some x->Le O key v x:=by
  intro t n v hB i h1 h2 x hx;have:=hB i h1 h2;rw[WX,dA _ _ _ hx]at this;exact KeyOrd.kle_of_klt (show O.blt (key v) (key x)=true from by simpa using this)
 have lowU:∀(t:Nat) (u:Keyed),t<=b.size->(∀i,i<t->O.blt (key (b.getD (0+i) u)) (key u)=true)->∀y∈b.toList.take t,Le O key y u:=by
  intro t u ht hB x hx;obtain⟨i,hi⟩:=Qv hx;have hlt:=(Qa.mp hi).1;rw[QQ]at hlt;rw[Qt (by lia)]at hi;have:=hB i (by lia);rw[WX,dB _ _ _ hi]at this;exact KeyOrd.kle_of_klt this
 have highU:∀(t n:Nat) (u:Keyed),(∀i,t<=i->i<n->O.blt (key (b.getD (0+i) u)) (key u)=false)->∀i,t<=i->i<n->∀y,b.toList[i]?=some y->Le O key u y:=by
  intro t n u hB i h1 h2 x hx;have:=hB i h1 h2;rw[WX,dB _ _ _ hx]at this;exact this
 have upB:∀(n:Nat) (v:Keyed),0<n->b.toList[n-1]?=some v->∀y∈b.toList.take n,Le O key y v:=by
  intro n v h0 hv;have:=hY.take_le hv
  rwa[show n-1+1=n by lia]at this
 have upA:∀(n:Nat) (v:Keyed),0<n->a.toList[n-1]?=some v->∀y∈a.toList.take n,Le O key y v:=by
  intro n v h0 hv;have:=hX.take_le hv
  rwa[show n-1+1=n by lia]at this
 obtain⟨x0,hx0,_,hx0'⟩:=atA (a.size-1) (by lia);refine Lx (LF (Lg ⟨rfl,?_⟩));refine Lx (zg hx0 ?_);dsimp only;have M0:MH O key a.toList b.toList (a.size-1) b.size (#[x0]:Array Keyed).toList.reverse:=by
  have e:MH O key a.toList b.toList a.size b.size (#[]:Array Keyed).toList.reverse:=⟨by simp,by simp,by simp,by simp[bg],by simp,by simp⟩;exact vX e hX ha0 hx0 (λy hy=>hl y (Wb hy) x0 hx0)
 by_cases c1:a.size-1=0
 .rw[Mk (by simpa using c1)];exact Lw (h _ _ (.refl _) (vC M0 hX hY (.inl c1)))
 rw[Ml (by simpa using c1)];by_cases c2:b.size=1
 .rw[Mk (by simpa using c2)];exact Lw (h _ _ (.refl _) (vW M0 hX hY hf c2))
 rw[Ml (by simpa using c2)];refine Lx (LG ?_);refine Lx (Ly (Lz (I:=λx c st'=>Eqv st st'/\∃na nb out mg,c=(none,na,nb,out,mg)/\MH O key a.toList b.toList na nb out.toList.reverse/\0<na/\1<nb/\na+nb+x+1<=a.size+b.size)
  (Q:=λc st'=>Eqv st st'/\∃r na nb out mg,c=(some r,na,nb,out,mg)/\wg O key a.toList b.toList r.toList) ?s1 ?f1 ⟨.refl _,_,_,_,_,rfl,M0,by lia,by lia,by lia⟩) ?p1)
 case p1=>
  rintro c st' ⟨hE,r,na,nb,out,mg,rfl,hg⟩;exact Lw (h _ _ hE hg)
 case f1=>
  rintro c st' ⟨hE,na,nb,out,mg,rfl,M,h1,h2,h3⟩;lia
 case s1=>
  rintro x0 c st0 _ hx0 ⟨hE0,na0,nb0,out0,mg0,rfl,M00,h10,h20,h30⟩;dsimp only;refine Lx (Ly (Lz (I:=λx c st'=>Eqv st st'/\∃na nb out ac bc,c=(none,na,nb,out,ac,bc)/\MH O key a.toList b.toList na nb out.toList.reverse/\0<na/\1<nb/\na+nb+(x0+1)+x<=a.size+b.size)
   (Q:=λc st'=>Eqv st st'/\((∃r na nb out ac bc,c=(some r,na,nb,out,ac,bc)/\wg O key a.toList b.toList r.toList)\/∃na nb out ac bc,c=(none,na,nb,out,ac,bc)/\MH O key a.toList b.toList na nb out.toList.reverse/\0<na/\1<nb/\na+nb+x0+2<=a.size+b.size)) ?s2 ?f2 ⟨hE0,_,_,_,_,_,rfl,M00,h10,h20,h30⟩) ?p2)
  case f2=>
   rintro c st' ⟨hE,na,nb,out,ac,bc,rfl,M,h1,h2,h3⟩;exact⟨hE,.inr ⟨na,nb,out,ac,bc,rfl,M,h1,h2,by lia⟩⟩
  case s2=>
   rintro x c st' _ hx ⟨hE,na,nb,out,ac,bc,rfl,M,h1,h2,h3⟩;have hna:na<=a.size:=M.ha;have hnb:nb<=b.size:=M.hb;dsimp only;obtain⟨u,hu,su,hu'⟩:=atA (na-1) (by lia);obtain⟨v,hv,sv,hv'⟩:=atB (nb-1) (by lia);refine Lx (zg hv (Lx (zg hu (Lx (C v u st' _ sv su (hE.1.trans hk) ?_)))));dsimp only;cases hc:O.blt (key v) (key u)with
   |true=>
    rw[Mk rfl];have M2:=vX M hX h1 hu (λy hy=>Le.trans (upB nb v (by lia) hv' y hy) (KeyOrd.kle_of_klt hc));refine Lx (zg hu ?_);by_cases c1:na-1=0
    .rw[Mk (by simpa using c1)];exact Lw ⟨hE,.inl ⟨_,_,_,_,_,_,rfl,vC M2 hX hY (.inl c1)⟩⟩
    .rw[Ml (by simpa using c1)];split
     .exact Lw ⟨hE,.inr ⟨_,_,_,_,_,rfl,M2,by lia,by lia,by lia⟩⟩
     .exact Lw ⟨hE,_,_,_,_,_,rfl,M2,by lia,by lia,by lia⟩
   |false=>
    rw[Ml (by simp)];have M2:=lH M hY (by lia) hv (λx hx=>Le.trans (upA na u h1 hu' x hx) (show Le O key u v from hc));refine Lx (zg hv ?_);by_cases c1:nb-1=1
    .rw[Mk (by simpa using c1)];exact Lw ⟨hE,.inl ⟨_,_,_,_,_,_,rfl,vW M2 hX hY hf c1⟩⟩
    .rw[Ml (by simpa using c1)];split
     .exact Lw ⟨hE,.inr ⟨_,_,_,_,_,rfl,M2,by lia,by lia,by lia⟩⟩
     .exact Lw ⟨hE,_,_,_,_,_,rfl,M2,by lia,by lia,by lia⟩
  case p2=>
   rintro c st1 ⟨hE1,⟨r,na,nb,out,ac,bc,rfl,hg⟩|⟨na1,nb1,out1,ac1,bc1,rfl,M1,h11,h21,h31⟩⟩
   .exact Lw ⟨hE1,r,na,nb,out,_,rfl,hg⟩
   dsimp only;refine Lx (LF (Lg ⟨rfl,?_⟩));refine Lx (Ly (Lz (I:=λx c st'=>Eqv st st'/\∃na nb out mg ac bc,c=(none,na,nb,out,mg,ac,bc)/\MH O key a.toList b.toList na nb out.toList.reverse/\0<na/\1<nb/\na+nb+x0+2<=a.size+b.size)
    (Q:=λc st'=>Eqv st st'/\((∃r na nb out mg ac bc,c=(some r,na,nb,out,mg,ac,bc)/\wg O key a.toList b.toList r.toList)\/∃na nb out mg ac bc,c=(none,na,nb,out,mg,ac,bc)/\MH O key a.toList b.toList na nb out.toList.reverse/\0<na/\1<nb/\na+nb+x0+2<=a.size+b.size)) ?s3 ?f3 ⟨hE1,_,_,_,_,_,_,rfl,M1,h11,h21,h31⟩) ?p3)
   case f3=>
    rintro c st' ⟨hE,na,nb,out,mg,ac,bc,rfl,M,h1,h2,h3⟩;exact⟨hE,.inr ⟨na,nb,out,mg,ac,bc,rfl,M,h1,h2,h3⟩⟩
   case p3=>
    rintro c st' ⟨hE,⟨r,na,nb,out,mg,ac,bc,rfl,hg⟩|⟨na,nb,out,mg,ac,bc,rfl,M,h1,h2,h3⟩⟩
    .exact Lw ⟨hE,r,na,nb,out,_,rfl,hg⟩
    .dsimp only;refine Lx (LH ?_);exact Lw ⟨hE,_,_,_,_,rfl,M,h1,h2,by lia⟩
   case s3=>
    rintro x c st' _ hx ⟨hE,na,nb,out,mg,ac,bc,rfl,M,h1,h2,h3⟩;have hna:na<=a.size:=M.ha;have hnb:nb<=b.size:=M.hb;dsimp only;obtain⟨v,hv,sv,hv'⟩:=atB (nb-1) (by lia);by_cases cm:mg > 1
    all_goals
     first|rw[Mk cm]|rw[Ml cm]
     refine Lx (LH ?_);refine Lx (zg hv ?_);refine Lx (yd C (st:=_) (hE.1.trans hk) sv (by lia) (λi=>! O.blt (key v) (key (a.getD (0+i) v))) (λi hi=>gA 0 v i (by lia)) (λi j q1 q2=>mA 0 v i j q1 (by lia)) (λt k1 k2 k3=>?_));dsimp only;by_cases c1:na-t > 0
     .rw[Mk c1];have M2:=C7 M hX k1 (λi q1 q2 x hx y hy=>Le.trans (upB nb v (by lia) hv' y hy) (highT t _ v k3 i q1 q2 x hx));by_cases c2:t=0
      .rw[Mk (by simpa using c2)];exact Lw ⟨hE,.inl ⟨_,_,_,_,_,_,_,rfl,vC M2 hX hY (.inl c2)⟩⟩
      rw[Ml (by simpa using c2)];have M3:=lH M2 hY (by lia) hv (lowT t v (by lia) k2);refine Lx (zg hv ?_);by_cases c3:nb-1=1
      .rw[Mk (by simpa using c3)];exact Lw ⟨hE,.inl ⟨_,_,_,_,_,_,_,rfl,vW M3 hX hY hf c3⟩⟩
      rw[Ml (by simpa using c3)];obtain⟨u,hu,su,hu'⟩:=atA (t-1) (by lia);refine Lx (zg hu ?_);refine Lx (yd C (st:=_) (hE.1.trans hk) su (by lia) (λi=>O.blt (key (b.getD (0+i) u)) (key u)) (λi hi=>gB 0 u i (by lia)) (λi j q1 q2=>mB 0 u i j q1 (by lia)) (λt' k1' k2' k3'=>?_));dsimp only;by_cases c5:nb-1-t' > 0
      .rw[Mk c5];have M4:=rP M3 hY k1' (λi q1 q2 y hy x hx=>Le.trans (upA t u (by lia) hu' x hx) (highU t' _ u k3' i q1 q2 y hy));by_cases c6:t'=1
       .rw[Mk (by simpa using c6)];exact Lw ⟨hE,.inl ⟨_,_,_,_,_,_,_,rfl,vW M4 hX hY hf c6⟩⟩
       rw[Ml (by simpa using c6)];by_cases c7:t'=0
       .rw[Mk (by simpa using c7)];exact Lw ⟨hE,.inl ⟨_,_,_,_,_,_,_,rfl,vC M4 hX hY (.inr c7)⟩⟩
       rw[Ml (by simpa using c7)];have M5:=vX M4 hX (by lia) hu (lowU t' u (by lia) k2');refine Lx (zg hu ?_);by_cases c8:t-1=0
       .rw[Mk (by simpa using c8)];exact Lw ⟨hE,.inl ⟨_,_,_,_,_,_,_,rfl,vC M5 hX hY (.inl c8)⟩⟩
       .rw[Ml (by simpa using c8)];split
        .exact Lw ⟨hE,.inr ⟨_,_,_,_,_,_,rfl,M5,by lia,by lia,by lia⟩⟩
        .exact Lw ⟨hE,_,_,_,_,_,_,rfl,M5,by lia,by lia,by lia⟩
      .rw[Ml c5];have M5:=vX M3 hX (by lia) hu (lowU (nb-1) u (by lia) (λi q=>k2' i (by lia)));refine Lx (zg hu ?_);by_cases c8:t-1=0
       .rw[Mk (by simpa using c8)];exact Lw ⟨hE,.inl ⟨_,_,_,_,_,_,_,rfl,vC M5 hX hY (.inl c8)⟩⟩
       .rw[Ml (by simpa using c8)];split
        .exact Lw ⟨hE,.inr ⟨_,_,_,_,_,_,rfl,M5,by lia,by lia,by lia⟩⟩
        .exact Lw ⟨hE,_,_,_,_,_,_,rfl,M5,by lia,by lia,by lia⟩
     .rw[Ml c1];have M2:=M
      replace k2:∀i,i<na->(! O.blt (key v) (key (a.getD (0+i) v)))=true:=λi q=>k2 i (by lia)
      have M3:=lH M2 hY (by lia) hv (lowT na v (by lia) k2);refine Lx (zg hv ?_);by_cases c3:nb-1=1
      .rw[Mk (by simpa using c3)];exact Lw ⟨hE,.inl ⟨_,_,_,_,_,_,_,rfl,vW M3 hX hY hf c3⟩⟩
      rw[Ml (by simpa using c3)];obtain⟨u,hu,su,hu'⟩:=atA (na-1) (by lia);refine Lx (zg hu ?_);refine Lx (yd C (st:=_) (hE.1.trans hk) su (by lia) (λi=>O.blt (key (b.getD (0+i) u)) (key u)) (λi hi=>gB 0 u i (by lia)) (λi j q1 q2=>mB 0 u i j q1 (by lia)) (λt' k1' k2' k3'=>?_));dsimp only;by_cases c5:nb-1-t' > 0
      .rw[Mk c5];have M4:=rP M3 hY k1' (λi q1 q2 y hy x hx=>Le.trans (upA na u (by lia) hu' x hx) (highU t' _ u k3' i q1 q2 y hy));by_cases c6:t'=1
       .rw[Mk (by simpa using c6)];exact Lw ⟨hE,.inl ⟨_,_,_,_,_,_,_,rfl,vW M4 hX hY hf c6⟩⟩
       rw[Ml (by simpa using c6)];by_cases c7:t'=0
       .rw[Mk (by simpa using c7)];exact Lw ⟨hE,.inl ⟨_,_,_,_,_,_,_,rfl,vC M4 hX hY (.inr c7)⟩⟩
       rw[Ml (by simpa using c7)];have M5:=vX M4 hX (by lia) hu (lowU t' u (by lia) k2');refine Lx (zg hu ?_);by_cases c8:na-1=0
       .rw[Mk (by simpa using c8)];exact Lw ⟨hE,.inl ⟨_,_,_,_,_,_,_,rfl,vC M5 hX hY (.inl c8)⟩⟩
       .rw[Ml (by simpa using c8)];split
        .exact Lw ⟨hE,.inr ⟨_,_,_,_,_,_,rfl,M5,by lia,by lia,by lia⟩⟩
        .exact Lw ⟨hE,_,_,_,_,_,_,rfl,M5,by lia,by lia,by lia⟩
      .rw[Ml c5];have M5:=vX M3 hX (by lia) hu (lowU (nb-1) u (by lia) (λi q=>k2' i (by lia)));refine Lx (zg hu ?_);by_cases c8:na-1=0
       .rw[Mk (by simpa using c8)];exact Lw ⟨hE,.inl ⟨_,_,_,_,_,_,_,rfl,vC M5 hX hY (.inl c8)⟩⟩
       .rw[Ml (by simpa using c8)];split
        .exact Lw ⟨hE,.inr ⟨_,_,_,_,_,_,rfl,M5,by lia,by lia,by lia⟩⟩
        .exact Lw ⟨hE,_,_,_,_,_,_,rfl,M5,by lia,by lia,by lia⟩
end
section
variable{O:Lr}{key:Keyed->O.α}{S:Keyed->Prop}
theorem rO:∀(l:List Keyed) (n sa:Nat) (xs:Array Keyed),sa+n+l.length<=xs.size ->
  ((l.zipIdx n).foldl (λ(a:Array Keyed) (pj:Keyed×Nat)=>a.setIfInBounds (sa+pj.2) pj.1) xs).toList=xs.toList.take (sa+n)++l++xs.toList.drop (sa+n+l.length)
 |[],n,sa,xs,h=>by simp
 |x::l,n,sa,xs,h=>by
  rw[VJ,List.foldl_cons];have hl:sa+n<xs.toList.length:=by simp at h ⊢;lia
  rw[rO l (n+1) sa _ (by simp at h ⊢;lia)];rw[VU];have e1:(xs.toList.set (sa+n) x).take (sa+(n+1))=xs.toList.take (sa+n)++[x]:=by
   rw[show sa+(n+1)=sa+n+1 by lia,ye (x:=x) (by rw[Wj hl]),List.take_set_of_le (Qh _)]
  have e2:(xs.toList.set (sa+n) x).drop (sa+(n+1)+l.length)=xs.toList.drop (sa+n+(x::l).length):=by
   rw[List.drop_set_of_lt (by lia),show sa+(n+1)+l.length=sa+n+(x::l).length by simp;lia]
  rw[e1,e2];simp
variable{prog:JM}{w:JN}{A:JW}{E:Value->Shared->Prop}{s:Shared}
structure Ok(O:Lr)(key:Keyed->O.α)(S:Keyed->Prop)(st:Ls)(pend:List (Nat×Nat×Nat))(l:List Keyed):Prop where
 kind:kindOf st=Lu
 failed:LC st=none
 pend:(LB st).toList=pend
 arr:(LA st).toList=l
 all:∀x∈l,S x
def gO {V:List Keyed}(hU:bg O key U)(hV:bg O key V)(h:∀x y,U[U.length-1]?=some x->V[0]?=some y->Le O key x y):bg O key (U++V):=by
 refine zW hU hV λx hx y hy=>?_;obtain⟨i,hi⟩:=Qv hx;obtain⟨j,hj⟩:=Qv hy;have h1:=(Qa.mp hi).1;have h2:=(Qa.mp hj).1;have a1:U[U.length-1]?=some (U[U.length-1]'(by lia)):=by simp
 have a2:V[0]?=some (V[0]'(by lia)):=by simp
 exact((hU.at_le (by lia) hi a1).trans (h _ _ a1 a2)).trans (hV.at_le (by lia) a2 hj)
def C6 {st:Ls}(h:Q ⟨⟩ x):wpS (JZ prog w) A E s (set x:StateT Ls Sem PUnit) Q st:=by
 unfold wpS;rw[StateT.run_set];exact Ki ⟨rfl,h⟩
def Fa:Nat->StateT Ls Sem Bool:=sortPriv% PySem.Builtin.mergeAt
def qO (C:dO prog w A E s O key S){st:Ls}{V:List Keyed}(K:Ok O key S st (p1++(sa,na,po)::(sb,nb,po2)::p2) (P++(U++(V++R))))(hsa:sa=P.length)(hna:na=U.length)(hsb:sb=P.length+U.length)(hnb:nb=V.length)(hU0:0<U.length)(hV0:0<V.length)(hU:bg O key U)(hV:bg O key V)(h:∀st' W,Ok O key S st' (p1++(sa,na+nb,po)::p2) (P++(W++R))->bg O key W->W.Perm (U++V)->Q true st'):
  wpS (JZ prog w) A E s (Fa p1.length) Q st:=by
 have e1:(LB st)[p1.length]?=some (sa,na,po):=by rw[<-QB,K.pend];simp
 have e2:(LB st)[p1.length+1]?=some (sb,nb,po2):=by rw[<-QB,K.pend];simp
 have hp:(((LB st).setIfInBounds p1.length (sa,na+nb,po)).eraseIdxIfInBounds (p1.length+1)).toList=p1++(sa,na+nb,po)::p2:=by
  rw[Array.toList_eraseIdxIfInBounds,VU,K.pend];simp[List.set_append,List.eraseIdx_append];intro hh;lia
 have atU:∀i,i<U.length->(LA st)[P.length+i]?=U[i]?:=λi hi=>by
  rw[<-QB,K.arr,Qd (by lia),show P.length+i-P.length=i by lia,Qf hi]
 have atV:∀i,i<V.length->(LA st)[P.length+U.length+i]?=V[i]?:=λi hi=>by
  rw[<-QB,K.arr,Qd (by lia),Qd (by lia),show P.length+U.length+i-P.length-U.length=i by lia,Qf hi]
 refine Lx (LG ?_);dsimp only;rw[e1,e2];dsimp only;refine Lx (C6 ?_);have K1:Ok O key S (SortSt.mk' (kindOf st) (LA st) (((LB st).setIfInBounds p1.length (sa,na+nb,po)).eraseIdxIfInBounds (p1.length+1)) (LI st) (LC st)) (p1++(sa,na+nb,po)::p2) (P++(U++(V++R))):=⟨K.kind,K.failed,hp,K.arr,K.all⟩;have whole:bg O key (U++V)->Q true (SortSt.mk' (kindOf st) (LA st) (((LB st).setIfInBounds p1.length (sa,na+nb,po)).eraseIdxIfInBounds (p1.length+1)) (LI st) (LC st)):=λhs=>by
  refine h _ (U++V) ?_ hs (.refl _);rw[Qj];exact K1
 have sU:∀x∈U,S x:=λx hx=>K.all x (by simp[hx]);have sV:∀x∈V,S x:=λx hx=>K.all x (by simp[hx]);have gU:∀i,i<U.length->∃x,U[i]?=some x/\S x:=λi hi=>⟨U[i],by simp[hi],sU _ (by simp)⟩;have gV:∀i,i<V.length->∃x,V[i]?=some x/\S x:=λi hi=>⟨V[i],by simp[hi],sV _ (by simp)⟩;obtain⟨v0,hv0,sv0⟩:=gV 0 hV0;obtain⟨u1,hu1,su1⟩:=gU (U.length-1) (by lia);subst hsa hna hsb hnb;have hel:(LA st)[P.length+U.length]?=some v0:=by have:=atV 0 hV0;rw[Nat.add_zero]at this;rw[this,hv0]
 refine Lx (zg hel ?_);refine Lx (yd C (left:=false) K.kind sv0 hU0 (λi=>! O.blt (key v0) (key (U.getD i v0))) (λi hi=>?g1) ?m1 (λk k1 k2 k3=>?c1))
 case g1=>
  obtain⟨x,hx,sx⟩:=gU i hi;exact⟨x,by rw[<-hx];exact atU i hi,sx,by rw[Ml (by simp),Qu,hx];rfl⟩
 case m1=>
  intro i j hij hj hB;obtain⟨x,hx,_⟩:=gU i (by lia);obtain⟨y,hy,_⟩:=gU j hj;simp only[Qu,hx,hy,Wo]at hB ⊢;have e:Le O key x v0:=Le.trans (hU.at_le hij hx hy) (show O.blt (key v0) (key y)=false from by simpa using hB);simpa using (show O.blt (key v0) (key x)=false from e)
 have lowU:∀i x,i<k->U[i]?=some x->Le O key x v0:=λi x hi hx=>by
  have:=k2 i hi;simp only[Qu,hx,Wo]at this;exact(show O.blt (key v0) (key x)=false from by simpa using this)
 have highU:∀i x,k<=i->U[i]?=some x->Le O key v0 x:=λi x hi hx=>by
  have:=k3 i hi (Qa.mp hx).1;simp only[Qu,hx,Wo]at this;exact KeyOrd.kle_of_klt (show O.blt (key v0) (key x)=true from by simpa using this)
 dsimp only;by_cases c1:U.length-k=0
 .rw[Mk (by simpa using c1)];refine Lw (whole (gO hU hV λx y hx hy=>?_));rw[hv0]at hy;cases hy;exact lowU _ x (by lia) hx
 rw[Ml (by simpa using c1)];have hel2:(LA st)[P.length+k+(U.length-k)-1]?=some u1:=by
  rw[<-hu1,<-atU (U.length-1) (by lia)];congr 1;lia
 refine Lx (zg hel2 ?_);refine Lx (yd C (left:=true) K.kind su1 (by lia) (λi=>O.blt (key (V.getD i u1)) (key u1)) (λi hi=>?g2) ?m2 (λn2 q1 q2 q3=>?c2))
 case g2=>
  obtain⟨x,hx,sx⟩:=gV i hi;exact⟨x,by rw[<-hx];exact atV i hi,sx,by rw[Mk rfl,Qu,hx];rfl⟩
 case m2=>
  intro i j hij hj hB;obtain⟨x,hx,_⟩:=gV i (by lia);obtain⟨y,hy,_⟩:=gV j hj;simp only[Qu,hx,hy,Wo]at hB ⊢;exact KeyOrd.klt_of_kle_of_klt (hV.at_le hij hx hy) hB
 have lowV:∀i y,i<n2->V[i]?=some y->Le O key y u1:=λi y hi hy=>by
  have:=q2 i hi;simp only[Qu,hy,Wo]at this;exact KeyOrd.kle_of_klt this
 have highV:∀i y,n2<=i->V[i]?=some y->Le O key u1 y:=λi y hi hy=>by
  have:=q3 i hi (Qa.mp hy).1;simp only[Qu,hy,Wo]at this;exact this
 dsimp only;by_cases c2:n2=0
 .rw[Mk (by simpa using c2)];refine Lw (whole (gO hU hV λx y hx hy=>?_));rw[hu1]at hx;cases hx;exact highV 0 y (by lia) hy
 rw[Ml (by simpa using c2)];have hx:((LA st).extract (P.length+k) (P.length+U.length)).toList=U.drop k:=by
  rw[Ww,Wn,K.arr,VN,WD (by lia),Ws,show P.length+k-P.length=k by lia,VR (by lia)];rw[Wh (by simp;lia),Wt (by simp;lia)]
 have hy:((LA st).extract (P.length+U.length) (P.length+U.length+n2)).toList=V.take n2:=by
  rw[Ww,Wn,K.arr,<-Qj,VN,WD (by simp),Ws,show P.length+U.length-(P++U).length=0 by simp,Vy,show P.length+U.length+n2-(P.length+U.length)=n2 by lia];rw[Wh q1]
 have hsx:((LA st).extract (P.length+k) (P.length+U.length)).size=U.length-k:=by rw[<-QS,hx,WN]
 have hsy:((LA st).extract (P.length+U.length) (P.length+U.length+n2)).size=n2:=by rw[<-QS,hy,QQ];lia
 have lastx:∀x,(U.drop k)[U.length-k-1]?=some x->x=u1:=λx hh=>by
  rw[Q7,show k+(U.length-k-1)=U.length-1 by lia,hu1]at hh;cases hh;rfl
 have firsty:∀y,(V.take n2)[0]?=some y->y=v0:=λy hh=>by
  rw[Qt (by lia),hv0]at hh;cases hh;rfl
 have dropU:∀x∈U.drop k,Le O key v0 x:=λx hh=>by
  obtain⟨i,hi⟩:=Qv hh;rw[Q7]at hi;exact highU (k+i) x (by lia) hi
 have takeV:∀y∈V.take n2,Le O key y u1:=λy hh=>by
  obtain⟨i,hi⟩:=Qv hh;have hlt:=(Qa.mp hi).1;rw[QQ]at hlt;rw[Qt (by lia)]at hi;exact lowV i y (by lia) hi
 have fin:∀(r:Array Keyed) (st':Ls),Eqv (SortSt.mk' (kindOf st) (LA st) (((LB st).setIfInBounds p1.length (P.length,U.length+V.length,po)).eraseIdxIfInBounds (p1.length+1)) (LI st) (LC st)) st'->wg O key (U.drop k) (V.take n2) r.toList ->
   Q (LC st').isNone (SortSt.mk' (kindOf st') (r.toList.zipIdx.foldl (λ(a:Array Keyed) (pj:Keyed×Nat)=>a.setIfInBounds (P.length+k+pj.2) pj.1) (LA st')) (LB st') (LI st') (LC st')):=by
  intro r st' hE hg;obtain⟨E1,E2,E3,E4⟩:=hE;have hf:LC st'=none:=E4.trans K.failed;rw[show(LC st').isNone=true by rw[hf];rfl];have hlen:r.toList.length=U.length-k+n2:=by rw[hg.2.length_eq,QF,WN,QQ];lia
  refine h _ (U.take k++r.toList++V.drop n2) ⟨E1.trans K.kind,hf,?_,?_,?_⟩ ?_ ?_
  .show (LB st').toList=_;rw[E3];exact hp
  .show (r.toList.zipIdx.foldl _ (LA st')).toList=_;have E2':LA st'=LA st:=E2;rw[E2',rO r.toList 0 (P.length+k) _ (by rw[<-QS,K.arr,hlen];simp;lia),K.arr,hlen];have t1:(P++(U++(V++R))).take (P.length+k+0)=P++U.take k:=by
    rw[Nat.add_zero,List.take_append,Wt (by lia),show P.length+k-P.length=k by lia,Wh (by lia)]
   have t2:(P++(U++(V++R))).drop (P.length+k+0+(U.length-k+n2))=V.drop n2++R:=by
    rw[<-Qj,<-Qj,VR (by simp;lia),VN,WD (by simp;lia),Ws];congr 2;simp;lia
   rw[t1,t2];simp
  .intro x hx';have m1:∀z∈r.toList,z∈U\/z∈V:=λz hz=>by
    have:=hg.2.mem_iff.mp hz;rcases Qx.mp this with q|q
    .exact .inl (Wq q)
    .exact .inr (Wb q)
   simp only[Qx]at hx';rcases hx' with q|((q|q)|q)|q
   .exact K.all x (by simp[q])
   .exact sU x (Wb q)
   .rcases m1 x q with q|q
    .exact sU x q
    .exact sV x q
   .exact sV x (Wq q)
   .exact K.all x (by simp[q])
  .have uV:∀x∈U,Le O key x u1:=λx hx'=>by
    have:=hU.take_le hu1 x (by rw[show U.length-1+1=U.length by lia,Vg];exact hx');exact this
   have vV:∀y∈V,Le O key v0 y:=λy hy'=>hV.drop_le hv0 y (by simpa using hy');have tU:∀x∈U.take k,Le O key x v0:=λx hh=>by
    obtain⟨i,hi⟩:=Qv hh;have hlt:=(Qa.mp hi).1;rw[QQ]at hlt;rw[Qt (by lia)]at hi;exact lowU i x (by lia) hi
   have dV:∀y∈V.drop n2,Le O key u1 y:=λy hh=>by
    obtain⟨i,hi⟩:=Qv hh;rw[Q7]at hi;exact highV (n2+i) y (by lia) hi
   refine zW (zW (hU.sublist (Wi _ _)) hg.1 λx hx' z hz=>?_) (hV.sublist (Wk _ _)) λx hx' y hy'=>?_
   .rcases Qx.mp (hg.2.mem_iff.mp hz)with q|q
    .exact (tU x hx').trans (dropU z q)
    .exact (tU x hx').trans (vV z (Wb q))
   .rcases Qx.mp hx' with q|q
    .exact (uV x (Wb q)).trans (dV y hy')
    .rcases Qx.mp (hg.2.mem_iff.mp q)with q|q
     .exact (uV x (Wq q)).trans (dV y hy')
     .exact (takeV x q).trans (dV y hy')
  .refine ((hg.2.append_left _).append_right _).trans ?_;rw[<-Qj,QI,Qj,QI]
 by_cases c3:U.length-k<=n2
 .rw[Mk c3];refine Lx (qM C K.kind (by rw[hx];exact hU.sublist (Wk _ _)) (by rw[hy];exact hV.sublist (Wi _ _)) (by rw[hx];exact λx q=>sU x (Wq q)) (by rw[hy];exact λx q=>sV x (Wb q)) (by rw[hsy];lia) (by rw[hsx];lia) ?_ ?_ (λr st' hE hg=>?_))
  .rw[hx];intro x hx' y hy';rw[<-QB,hy]at hy';rw[firsty y hy'];exact dropU x hx'
  .rw[hx,hy];intro y hy' x hx';rw[WN]at hx';rw[lastx x hx'];exact takeV y hy'
  .rw[hx,hy]at hg;exact Lx (LH (Lx (LG (Lw (fin r st' hE hg)))))
 .rw[Ml c3];refine Lx (qN C K.kind (by rw[hx];exact hU.sublist (Wk _ _)) (by rw[hy];exact hV.sublist (Wi _ _)) (by rw[hx];exact λx q=>sU x (Wq q)) (by rw[hy];exact λx q=>sV x (Wb q)) (by rw[hsy];lia) (by rw[hsx];lia) ?_ ?_ (λr st' hE hg=>?_))
  .rw[hx,hy];intro x hx' y hy';rw[firsty y hy'];exact dropU x hx'
  .rw[hy,hsx];intro y hy' x hx';rw[<-QB,hx]at hx';rw[lastx x hx'];exact takeV y hy'
  .rw[hx,hy]at hg;exact Lx (LH (Lx (LG (Lw (fin r st' hE hg)))))
end
section
variable{O:Lr}{key:Keyed->O.α}{S:Keyed->Prop}
variable{prog:JM}{w:JN}{A:JW}{E:Value->Shared->Prop}{s:Shared}
def xJ (C:dO prog w A E s O key S){st:Ls}(K:Ok O key S st pend l)(hi:l[i]?=some x)(hj:l[j]?=some y)(q:Q (some (O.blt (key x) (key y))) st):
  wpS (JZ prog w) A E s (ltAt' i j) Q st:=by
 rw[ltAt'_eq];refine Lx (LG ?_);refine Lx (zg (by rw[<-QB,K.arr];exact hi) (Lx (zg (by rw[<-QB,K.arr];exact hj) ?_)));exact C x y st _ (K.all x (Qp hi)) (K.all y (Qp hj)) K.kind q
def dH(O:Lr)(key:Keyed->O.α)(l:List Keyed):Prop:=(l.map key).Nodup
def dH.at (h:dH O key l){j:Nat}(hij:i≠j)(hx:l[i]?=some x)(hy:l[j]?=some y)(hb:O.blt (key x) (key y)=false):O.blt (key y) (key x)=true:=by
 cases z:O.blt (key y) (key x)with
 |true=>rfl
 |false=>
  exfalso;have e:=O.total _ _ hb z;obtain⟨hi,rfl⟩:=Qa.mp hx;obtain⟨hj,rfl⟩:=Qa.mp hy;rcases Nat.lt_or_gt_of_ne hij with q|q
  .have:=(Wm.mp h) i j (by simpa using hi) (by simpa using hj) q;exact this (by simpa using e)
  .have:=(Wm.mp h) j i (by simpa using hj) (by simpa using hi) q;exact this (by simpa using e.symm)
def dH.perm{l r:List Keyed}(h:dH O key l)(p:r.Perm l):dH O key r:=(p.map key).nodup_iff.mpr h
def dH.right{l r:List Keyed}(h:dH O key (l++r)):dH O key r:=by
 unfold dH at h ⊢;rw[WF]at h;exact(QN.mp h).2.1
def E9 {T:List Keyed}(h:bg O key (T.take x))(h1:1<=x)(hu:T[x]?=some u)(hv:T[x-1]?=some v)(hl:Le O key v u):bg O key (T.take (x+1)):=by
 rw[ye hu];refine gO h (by simp[bg]) λp q hp hq=>?_;have hx:=(Qa.mp hu).1;rw[QQ,Nat.min_eq_left (by lia),Qt (by lia),hv]at hp;cases hp;simp at hq;rw[<-hq];exact hl
def Gn {T:List Keyed}(h:xs.toList=P++T)(n:Nat)(hn:n<=T.length):(mirror xs P.length (P.length+n) ((P.length+n-P.length)/2)).toList=P++((T.take n).reverse++T.drop n):=by
 have hs:xs.size=P.length+T.length:=by rw[<-QS,h,QF]
 apply W9;intro k;rw[QB,getElem?_mirror_all (by lia)];by_cases c:P.length<=k/\k<P.length+n
 .rw[Mk c,<-QB,h,Qd (by lia),Qd (by lia),Qf (by simp;lia),Vt (by simp;lia),Qt (by simp;lia)];congr 1;simp;lia
 .rw[Ml c,<-QB,h];by_cases c2:k<P.length
  .rw[Qf c2,Qf c2]
  .rw[Qd (by lia),Qd (by lia),Qd (by simp;lia),Q7];congr 1;simp;lia
def gP (C:dO prog w A E s O key S){st:Ls}(K:Ok O key S st pend (P++T))(h0:0<T.length)(hd:dH O key T)(h:∀st' U R,Ok O key S st' pend (P++(U++R))->bg O key U->(U++R).Perm T->0<U.length->Q (some U.length) st'):
  wpS (JZ prog w) A E s (countRun' P.length T.length) Q st:=by
 have fin:∀{st':Ls}{T':List Keyed}{n:Nat},Ok O key S st' pend (P++T')->T'.Perm T->1<=n->n<=T'.length->bg O key (T'.take n)->Q (some n) st':=by
  intro st' T' n K' hp h1 h2 hs;have e:=h st' (T'.take n) (T'.drop n) (by rw[QI];exact K') hs (by rw[QI];exact hp) (by rw[QQ];lia)
  rwa[QQ,Nat.min_eq_left h2]at e
 have asc:∀{st':Ls}{T':List Keyed}{a:Nat}{Q':Option (Option Nat)×Nat->Ls->Prop},Ok O key S st' pend (P++T')->T'.length=T.length->1<=a->a<=T.length->bg O key (T'.take a) ->
   (∀n,a<=n->n<=T.length->bg O key (T'.take n)->(n=T.length\/∃u v,T'[n]?=some u/\T'[n-1]?=some v/\O.blt (key u) (key v)=true)->Q' (none,n) st') ->
   wpS (JZ prog w) A E s (forIn [a:T.length] ((none,a):Option (Option Nat)×Nat) λ_ __s=>do
    let __x <-ltAt' (P.length+__s.snd) (P.length+__s.snd-1)
    match __x with
    |some smaller=>if smaller=true then pure (ForInStep.done (none,__s.snd))else pure (ForInStep.yield (none,__s.snd+1))
    |_=>pure (ForInStep.done (some none,__s.snd))) Q' st':=by
  intro st' T' a Q' K' hT h1 h2 hs hq;refine Lz (I:=λx c st2=>st'=st2/\c=(none,x)/\bg O key (T'.take x)) ?s1 ?f1 ⟨rfl,rfl,hs⟩
  case f1=>
   rintro c st2 ⟨rfl,rfl,hs'⟩;rw[show max a T.length=T.length by lia]at hs' ⊢;exact hq _ h2 (Qh _) hs' (.inl rfl)
  case s1=>
   rintro x c st2 hax hxn ⟨rfl,rfl,hs'⟩;dsimp only;have hu:T'[x]?=some (T'[x]'(by lia)):=by simp
   have hv:T'[x-1]?=some (T'[x-1]'(by lia)):=by simp
   refine Lx (xJ C K' (x:=T'[x]'(by lia)) (y:=T'[x-1]'(by lia)) (by rw[Qd (by lia),show P.length+x-P.length=x by lia];exact hu) (by rw[Qd (by lia),show P.length+x-1-P.length=x-1 by lia];exact hv) ?_);dsimp only;cases hc:O.blt (key (T'[x]'(by lia))) (key (T'[x-1]'(by lia)))with
   |true=>
    rw[Mk rfl];exact Lw (hq x hax (by lia) hs' (.inr ⟨_,_,hu,hv,hc⟩))
   |false=>
    rw[Ml (by simp)];exact Lw ⟨rfl,rfl,E9 hs' (by lia) hu hv hc⟩
 refine Lx (asc K rfl (Qh 1) h0 (by
  cases T with
  |nil=>simp at h0
  |cons t T=>simp[bg]) λn n1 n2 hs hor=>?_)
 dsimp only;by_cases c1:n=T.length
 .rw[Mk (by simpa using c1)];exact Lw (fin K (.refl _) n1 n2 hs)
 rw[Ml (by simpa using c1)];obtain⟨u,v,hu,hv,hlt⟩:=hor.resolve_left c1;have a0:T[0]?=some (T[0]'h0):=by simp
 by_cases c2:n > 1
 .rw[Mk c2];refine Lx (xJ C K (x:=T[0]'h0) (y:=v) (by rw[Qd (by lia),show P.length-P.length=0 by lia];exact a0) (by rw[Qd (by lia),show P.length+n-1-P.length=n-1 by lia];exact hv) ?_);have hle:Le O key (T[0]'h0) v:=hs.at_le (i:=0) (j:=n-1) (by lia) (by rw[Qt (by lia)];exact a0) (by rw[Qt (by lia)];exact hv);rw[hd.at (i:=n-1) (j:=0) (by lia) hv a0 hle];dsimp only;rw[Mk rfl];exact Lw (fin K (.refl _) n1 n2 hs)
 rw[Ml c2];obtain rfl:n=1:=by lia
 refine Lx (LF (Lg ⟨rfl,?_⟩));have d2:bg O key (T.take 2).reverse:=by
  rw[ye hu,WP];have e1:T.take 1=[v]:=by rw[show(1:Nat)=0+1 from rfl,ye (i:=0) hv];simp
  rw[e1];refine Wv.mpr ⟨λz hz=>?_,by simp⟩;simp at hz;rw[hz];exact KeyOrd.kle_of_klt hlt
 have hT2:2<=T.length:=by lia
 refine Lx (Ly (Lz (I:=λx c st2=>st=st2/\c=(none,x,0)/\bg O key (T.take x).reverse) (Q:=λc st2=>st=st2/\∃n,c=(none,n,0)/\2<=n/\n<=T.length/\bg O key (T.take n).reverse) ?s2 ?f2 ⟨rfl,rfl,d2⟩) ?p2)
 case f2=>
  rintro c st2 ⟨rfl,rfl,hs'⟩;rw[show max (1+1) T.length=T.length by lia]at hs' ⊢;exact⟨rfl,_,rfl,hT2,Qh _,hs'⟩
 case s2=>
  rintro x c st2 hax hxn ⟨rfl,rfl,hs'⟩;dsimp only;have hu:T[x]?=some (T[x]'(by lia)):=by simp
  have hv:T[x-1]?=some (T[x-1]'(by lia)):=by simp
  have pu:(P++T)[P.length+x]?=some (T[x]'(by lia)):=by rw[Qd (by lia),show P.length+x-P.length=x by lia];exact hu
  have pv:(P++T)[P.length+x-1]?=some (T[x-1]'(by lia)):=by rw[Qd (by lia),show P.length+x-1-P.length=x-1 by lia];exact hv
  refine Lx (xJ C K pu pv ?_);dsimp only;cases hc:O.blt (key (T[x]'(by lia))) (key (T[x-1]'(by lia)))with
  |true=>
   rw[Mk rfl,Ml (by lia)];refine Lw ⟨rfl,rfl,?_⟩;rw[ye hu,WP];refine Wv.mpr ⟨λz hz=>?_,hs'⟩
   replace hz:z∈(T.take x).reverse:=hz
   rw[List.mem_reverse]at hz;obtain⟨i,hi⟩:=Qv hz;have hlt':=(Qa.mp hi).1;rw[QQ]at hlt';have h1:((T.take x).reverse)[x-1-i]?=some z:=by
    rw[Vt (by simp;lia)];rw[<-hi];congr 1;simp;lia
   have h2:((T.take x).reverse)[0]?=some (T[x-1]'(by lia)):=by
    rw[Vt (by simp;lia),Qt (by simp;lia),<-hv];congr 1;simp;lia
   exact Le.trans (KeyOrd.kle_of_klt hc) (hs'.at_le (WK _) h2 h1)
  |false=>
   rw[Ml (by simp)];refine Lx (xJ C K pv pu ?_);dsimp only;rw[hd.at (i:=x) (j:=x-1) (by lia) hu hv hc,Mk rfl];exact Lw ⟨rfl,x,rfl,by lia,by lia,hs'⟩
 case p2=>
  rintro c st2 ⟨rfl,n,rfl,m1,m2,hs'⟩;dsimp only;rw[Ml (by lia)];refine Lx (wpS_reverse ?_);have hp:((T.take n).reverse++T.drop n).Perm T:=by
   have e:=(List.reverse_perm (T.take n)).append_right (T.drop n)
   rwa[QI]at e
  have hl:((T.take n).reverse++T.drop n).length=T.length:=hp.length_eq;have ht:((T.take n).reverse++T.drop n).take n=(T.take n).reverse:=by
   rw[Wh (by simp;lia),Wt (by simp;lia)]
  have K2:Ok O key S (setArr st (mirror (LA st) P.length (P.length+n) ((P.length+n-P.length)/2))) pend (P++((T.take n).reverse++T.drop n)):=
   ⟨K.kind,K.failed,K.pend,Gn K.arr n m2,λx hx=>K.all x (by
    rcases Qx.mp hx with q|q
    .simp[q]
    .exact QC _ (hp.mem_iff.mp q))⟩
  refine Lx (asc K2 hl (by lia) m2 (by rw[ht];exact hs') λn' n1' n2' hs2 _=>?_);exact Lw (fin K2 hp (by lia) (by lia) hs2)
end
section
variable{O:Lr}{key:Keyed->O.α}{S:Keyed->Prop}
variable{prog:JM}{w:JN}{A:JW}{E:Value->Shared->Prop}{s:Shared}
def Gm (h:xs.toList=P++T)(k l:Nat)(hk:k<T.length)(hl:l<=k)(t:Keyed)(ht:T[k]?=some t):
  (bubble xs (P.length+k) (P.length+k-(P.length+l))).toList=P++(((T.take k).take l++[t]++(T.take k).drop l)++T.drop (k+1)):=by
 have hs:xs.size=P.length+T.length:=by rw[<-QS,h,QF]
 apply W9;intro j;rw[QB,getElem?_bubble (by lia) _ (by lia)];have gx:∀j,xs[j]?=(P++T)[j]?:=λj=>by rw[<-QB,h]
 simp only[gx];by_cases c0:j<P.length
 .rw[Ml (by lia),Ml (by lia),Qf c0,Qf c0]
 have cT:∀i,P.length<=i->(P++T)[i]?=T[i-P.length]?:=λi hi=>Qd hi;rw[Qd (l₁:=P) (l₂:=((T.take k).take l++[t]++(T.take k).drop l)++T.drop (k+1)) (by lia)];have len1:((T.take k).take l++[t]++(T.take k).drop l).length=k+1:=by simp;lia
 by_cases c1:j=P.length+k-(P.length+k-(P.length+l))
 .rw[Mk c1,cT _ (by lia),show P.length+k-P.length=k by lia,ht];rw[Qf (by rw[len1];lia),Qf (by simp;lia),Qd (by simp;lia)];rw[show j-P.length-((T.take k).take l).length=0 by simp;lia];rfl
 rw[Ml c1];by_cases c2:P.length+k-(P.length+k-(P.length+l))<j/\j<=P.length+k
 .rw[Mk c2,cT _ (by lia)];rw[Qf (by rw[len1];lia),Qd (by simp;lia),Q7,Qt (by simp;lia)];congr 1;simp;lia
 .rw[Ml c2,cT _ (by lia)];by_cases c3:j-P.length<l
  .rw[Qf (by rw[len1];lia),Qf (by simp;lia),Qf (by simp;lia),Qt c3,Qt (by lia)]
  .rw[Qd (by rw[len1];lia),Q7,len1];congr 1;lia
def Gk (C:dO prog w A E s O key S){st:Ls}(K:Ok O key S st pend (P++T))(hn:n<=T.length)(hok:ok<=n)(h1:1<=ok)(hs:bg O key (T.take ok))(h:∀st' T',Ok O key S st' pend (P++T')->T'.Perm T->bg O key (T'.take n)->Q true st'):
  wpS (JZ prog w) A E s (binarySort' P.length n ok) Q st:=by
 refine Lx (Ly (Lz (I:=λk c st'=>c=(none,())/\∃T',Ok O key S st' pend (P++T')/\T'.Perm T/\bg O key (T'.take (min k n)))
  (Q:=λc st'=>c=(none,())/\∃T',Ok O key S st' pend (P++T')/\T'.Perm T/\bg O key (T'.take n)) ?s1 ?f1 ⟨rfl,T,K,.refl _,by rw[show min (max ok 1) n=ok by lia];exact hs⟩) ?p1)
 case p1=>
  rintro c st' ⟨rfl,T',K',hp,hs'⟩;exact Lw (h st' T' K' hp hs')
 case f1=>
  rintro c st' ⟨rfl,T',K',hp,hs'⟩;rw[show min (max (max ok 1) n) n=n by lia]at hs';exact⟨rfl,T',K',hp,hs'⟩
 case s1=>
  rintro k c st' hka hkn ⟨rfl,T',K',hp,hs'⟩;rw[show min k n=k by lia]at hs';have hlen:=hp.length_eq;have hk:k<T'.length:=by lia
  have ht:T'[k]?=some T'[k]:=by simp
  refine Lx (Ly (Lz (I:=λx c st2=>st'=st2/\∃l r,c=(none,l,r)/\l<=r/\r<=k/\r-l<=k-x/\(∀i u,i<l->T'[i]?=some u->Le O key u T'[k])/\(∀i u,r<=i->i<k->T'[i]?=some u->Le O key T'[k] u))
   (Q:=λc st2=>st'=st2/\∃l,c=(none,l,l)/\l<=k/\(∀i u,i<l->T'[i]?=some u->Le O key u T'[k])/\(∀i u,l<=i->i<k->T'[i]?=some u->Le O key T'[k] u)) ?s2 ?f2 ⟨rfl,0,k,rfl,by lia,by lia,by lia,λi u q=>Mm q (by lia),λi u q1 q2=>Mm q2 (by lia)⟩) ?p2)
  case f2=>
   rintro c st2 ⟨rfl,l,r,rfl,b1,b2,b3,b4,b5⟩;obtain rfl:l=r:=by lia
   exact⟨rfl,l,rfl,b2,b4,b5⟩
  case s2=>
   rintro x c st2 _ hx ⟨rfl,l,r,rfl,b1,b2,b3,b4,b5⟩;dsimp only;by_cases c1:l ≥ r
   .rw[Mk c1];obtain rfl:l=r:=by lia
    exact Lw ⟨rfl,l,rfl,b2,b4,b5⟩
   .rw[Ml c1];have hm:T'[(l+r)/2]?=some (T'[(l+r)/2]'(by lia)):=by simp
    refine Lx (xJ C K' (x:=T'[k]) (y:=T'[(l+r)/2]'(by lia)) (by rw[Qd (by lia),show P.length+k-P.length=k by lia];exact ht) (by rw[Qd (by lia),show P.length+(l+r)/2-P.length=(l+r)/2 by lia];exact hm) ?_);dsimp only;have tk:∀{i:Nat}{u:Keyed},i<k->T'[i]?=some u->(T'.take k)[i]?=some u:=λhi hu=>by rw[Qt hi];exact hu
    cases hc:O.blt (key T'[k]) (key (T'[(l+r)/2]'(by lia)))with
    |true=>
     rw[Mk rfl];exact Lw ⟨rfl,l,(l+r)/2,rfl,by lia,by lia,by lia,b4,λi u q1 q2 hu=>Le.trans (KeyOrd.kle_of_klt hc) (hs'.at_le q1 (tk (by lia) hm) (tk q2 hu))⟩
    |false=>
     rw[Ml (by simp)];exact Lw ⟨rfl,(l+r)/2+1,r,rfl,by lia,by lia,by lia,λi u q1 hu=>Le.trans (hs'.at_le (by lia) (tk (by lia) hu) (tk (by lia) hm)) (show Le O key (T'[(l+r)/2]'(by lia)) T'[k]from hc),b5⟩
  case p2=>
   rintro c st2 ⟨rfl,l,rfl,b2,b4,b5⟩;dsimp only;refine Lx (LH ?_);refine Lw ⟨rfl,((T'.take k).take l++[T'[k]]++(T'.take k).drop l)++T'.drop (k+1),⟨K'.kind,K'.failed,K'.pend,?_,?_⟩,?_,?_⟩
   .exact Gm K'.arr k l hk b2 _ ht
   all_goals
    have hpm:(((T'.take k).take l++[T'[k]]++(T'.take k).drop l)++T'.drop (k+1)).Perm T':=by
     have e1:((T'.take k).take l++[T'[k]]++(T'.take k).drop l).Perm (T'.take k++[T'[k]]):=by
      rw[Qj];refine(WA.append_left _ Wp).trans ?_;rw[<-Qj,QI]
     rw[<-ye ht]at e1;have e2:=e1.append_right (T'.drop (k+1))
     rwa[QI]at e2
   .intro x hx;refine K'.all x ?_;rcases Qx.mp hx with q|q
    .simp[q]
    .exact QC _ (hpm.mem_iff.mp q)
   .exact hpm.trans hp
   .have len1:((T'.take k).take l++[T'[k]]++(T'.take k).drop l).length=k+1:=by simp;lia
    rw[show min (k+1) n=k+1 by lia,Wh (by rw[len1];lia),Wt (by rw[len1];lia)];have lowm:∀u∈(T'.take k).take l,Le O key u T'[k]:=λu hu=>by
     obtain⟨i,hi⟩:=Qv hu;have hlt:=(Qa.mp hi).1;simp only[QQ]at hlt;rw[Qt (by lia),Qt (by lia)]at hi;exact b4 i u (by lia) hi
    have highm:∀u∈(T'.take k).drop l,Le O key T'[k] u:=λu hu=>by
     obtain⟨i,hi⟩:=Qv hu;have hlt:=(Qa.mp hi).1;simp only[QQ,WN]at hlt;rw[Q7,Qt (by lia)]at hi;exact b5 (l+i) u (by lia) (by lia) hi
    refine zW (zW (hs'.sublist (Wi _ _)) (by simp[bg]) λx hx y hy=>?_) (hs'.sublist (Wk _ _)) λx hx y hy=>?_
    .rw[Qq.mp hy];exact lowm x hx
    .rcases Qx.mp hx with q|q
     .exact (lowm x q).trans (highm y hy)
     .rw[Qq.mp q];exact highm y hy
end
section
variable{O:Lr}{key:Keyed->O.α}{S:Keyed->Prop}
variable{prog:JM}{w:JN}{A:JW}{E:Value->Shared->Prop}{s:Shared}
def ca(O:Lr)(key:Keyed->O.α):Nat->List (Nat×Nat×Nat)->List (List Keyed)->Prop
 |_,[],[]=>True
 |off,p::ps,U::Us=>p.1=off/\p.2.1=U.length/\0<U.length/\bg O key U/\ca O key (off+U.length) ps Us
 |_,_,_=>False
theorem ca.app:∀{off:Nat}{p1 p2:List (Nat×Nat×Nat)}{Us:List (List Keyed)},ca O key off (p1++p2) Us->∃U1 U2,Us=U1++U2/\ca O key off p1 U1/\ca O key (off+U1.flatten.length) p2 U2
 |off,[],p2,Us,h=>⟨[],Us,rfl,trivial,by simpa using h⟩
 |off,p::p1,p2,[],h=>h.elim
 |off,p::p1,p2,U::Us,h=>by
  obtain⟨a1,a2,a3,a4,a5⟩:=h;obtain⟨U1,U2,rfl,b1,b2⟩:=ca.app a5;refine⟨U::U1,U2,rfl,⟨a1,a2,a3,a4,b1⟩,?_⟩;simpa [VY]using b2
theorem ca.join:∀{off:Nat}{p1 p2:List (Nat×Nat×Nat)}{U1 U2:List (List Keyed)},ca O key off p1 U1->ca O key (off+U1.flatten.length) p2 U2->ca O key off (p1++p2) (U1++U2)
 |off,[],p2,[],U2,_,h=>by simpa using h
 |off,[],p2,_::_,U2,h,_=>h.elim
 |off,p::p1,p2,[],U2,h,_=>h.elim
 |off,p::p1,p2,U::U1,U2,h,h2=>⟨h.1,h.2.1,h.2.2.1,h.2.2.2.1,ca.join h.2.2.2.2 (by simpa [VY]using h2)⟩
theorem ca.len:∀{off:Nat}{p:List (Nat×Nat×Nat)}{Us:List (List Keyed)},ca O key off p Us->p.length<=Us.flatten.length
 |_,[],[],_=>WK _
 |_,[],_::_,h=>h.elim
 |_,_::_,[],h=>h.elim
 |off,p::ps,U::Us,h=>by
  have e1:=ca.len h.2.2.2.2;have e2:=h.2.2.1;rw[Q2,QF,QH];lia
theorem ca.mod(q:Nat):∀{off:Nat}{p:List (Nat×Nat×Nat)}{Us:List (List Keyed)}(i:Nat),ca O key off p Us->ca O key off (p.modify i λx=>(x.1,x.2.1,q)) Us
 |_,[],[],i,_=>by cases i<;>trivial
 |_,[],_::_,i,h=>h.elim
 |_,_::_,[],i,h=>h.elim
 |off,p::ps,U::Us,0,h=>h
 |off,p::ps,U::Us,i+1,h=>⟨h.1,h.2.1,h.2.2.1,h.2.2.2.1,ca.mod q i h.2.2.2.2⟩
def vD {st:Ls}{lo:Nat}(K:Ok O key S st pend (Us.flatten++(W++R)))(k:ca O key 0 pend Us)(hs:bg O key W)(h0:0<W.length)(hn:W.length=n)(hlo:Us.flatten.length=lo):
  Ok O key S (setPending st ((LB st).push (lo,n,0))) (pend++[(lo,n,0)]) ((Us++[W]).flatten++R)/\ca O key 0 (pend++[(lo,n,0)]) (Us++[W]):=by
 refine⟨⟨K.kind,K.failed,?_,?_,?_⟩,ca.join k ⟨?_,hn.symm,h0,hs,trivial⟩⟩
 .show ((LB st).push (lo,n,0)).toList=_;rw[WU,K.pend]
 .show (LA st).toList=_;rw[K.arr];simp
 .intro x hx;refine K.all x ?_;simpa using hx
 .show lo=_;rw[hlo,WX]
def xV (C:dO prog w A E s O key S){st:Ls}(K:Ok O key S st pend (Us.flatten++R))(k:ca O key 0 pend Us)(hi:i+1<pend.length)(h:∀st' pend' Us',Ok O key S st' pend' (Us'.flatten++R)->ca O key 0 pend' Us'->Us'.flatten.Perm Us.flatten->pend'.length+1=pend.length->Q true st'):
  wpS (JZ prog w) A E s (mergeAt' i) Q st:=by
 obtain⟨p1,a,b,p2,rfl,rfl⟩:∃p1 a b p2,pend=p1++a::b::p2/\p1.length=i:=by
  refine⟨pend.take i,pend[i],pend[i+1],pend.drop (i+2),?_,by simp;lia⟩
  conv=>lhs;rw[<-QI i pend]
  rw[QP (by lia),QP (by lia)]
 obtain⟨U1,U2,rfl,k1,k2⟩:=k.app;cases U2 with
 |nil=>exact k2.elim
 |cons U U2=>
  cases U2 with
  |nil=>exact k2.2.2.2.2.elim
  |cons V U2=>
   obtain⟨sa,na,po⟩:=a;obtain⟨sb,nb,po2⟩:=b;obtain⟨a1,a2,a3,a4,b1,b2,b3,b4,b5⟩:=k2;simp only[WX]at a1 b1 b5;have e:(U1++U::V::U2).flatten++R=U1.flatten++(U++(V++(U2.flatten++R))):=by simp
   rw[e]at K;refine qO C K a1 a2 b1 b2 a3 b3 a4 b4 λst' W K' hs hp=>?_;have hl:=hp.length_eq;rw[QF]at hl;refine h st' (p1++(sa,na+nb,po)::p2) (U1++W::U2) (by simpa using K') (ca.join k1 (show ca O key _ ((sa,na+nb,po)::p2) (W::U2)from⟨by simpa using a1,?_,by lia,hs,?_⟩)) ?_ (by simp;lia)
   .show na+nb=_;have e1:na=U.length:=a2;have e2:nb=V.length:=b2;lia
   .rw[WX,hl,<-VY];exact b5
   .simp only[WQ,Q2];refine WA.append_left _ ?_;rw[<-Qj];exact hp.append_right _
def qP (C:dO prog w A E s O key S){st:Ls}(K:Ok O key S st [] l)(h2:2<=l.length)(hd:dH O key l)(h:∀st' l',(LA st').toList=l'->LC st'=none->bg O key l'->l'.Perm l->Q () st'):wpS (JZ prog w) A E s sortRuns' Q st:=by
 rw[sortRuns'_eq];refine Lx (LG ?_);dsimp only;have hN:(LA st).size=l.length:=by rw[<-QS,K.arr]
 rw[hN];have hmr:minRun' l.length l.length 0<=l.length:=j0 _ _ 0 (by lia);generalize minRun' l.length l.length 0=mr at hmr ⊢;refine Lx (Ly (Lz
  (I:=λx c st'=>∃lo,c=(none,lo)/\x<=lo/\lo<=l.length/\∃pend Us R,Ok O key S st' pend (Us.flatten++R)/\ca O key 0 pend Us/\(Us.flatten++R).Perm l/\Us.flatten.length=lo)
  (Q:=λc st'=>c=(none,l.length)/\∃pend Us R,Ok O key S st' pend (Us.flatten++R)/\ca O key 0 pend Us/\(Us.flatten++R).Perm l/\Us.flatten.length=l.length) ?s1 ?f1 ⟨0,rfl,Qh _,WK _,[],[],l,by simpa using K,trivial,.refl _,rfl⟩) ?p1)
 case f1=>
  rintro c st' ⟨lo,rfl,x1,x2,r⟩;obtain rfl:lo=l.length:=by lia
  exact⟨rfl,r⟩
 case s1=>
  rintro x c st' _ hx ⟨lo,rfl,x1,x2,pend,Us,R,K',k,hp,hlo⟩;dsimp only;by_cases c0:lo ≥ l.length
  .rw[Mk c0];obtain rfl:lo=l.length:=by lia
   exact Lw ⟨rfl,pend,Us,R,K',k,hp,hlo⟩
  rw[Ml c0];have hR:R.length=l.length-lo:=by have:=hp.length_eq;simp at this hlo;lia
  subst hlo;rw[<-hR];refine Lx (gP C K' (by lia) ((hd.perm hp).right) λst2 U R2 K2 hs2 hp2 hU0=>?_);dsimp only;have hl2:U.length+R2.length=R.length:=by have:=hp2.length_eq;simpa using this
  by_cases c1:U.length<mr
  .rw[Mk c1];refine Lx (LF (Lg ⟨rfl,?_⟩));refine Lx (Gk C K2 (by rw[QF];lia) (by lia) (by lia) (by rw[Wh (Qh _),Vg];exact hs2) λst3 T3 K3 hpT hsT=>?_);rw[Ml (by simp)];have hT:T3.length=R.length:=(hpT.trans hp2).length_eq;obtain⟨W,R3,hW,hWn,hsW⟩:∃W R3,T3=W++R3/\W.length=min R.length mr/\bg O key W:=⟨T3.take (min R.length mr),T3.drop (min R.length mr),(QI _ _).symm,by rw[QQ];lia,hsT⟩;subst hW;have hp3:(W++R3).Perm R:=hpT.trans hp2;have hW0:0<W.length:=by lia
   refine Lx (LG ?_);have lenU:∀Us4:List (List Keyed),Us4.flatten.Perm Us.flatten->(Us4++[W]).flatten.length=Us.flatten.length+min R.length mr:=λUs4 q=>by
    have:=q.length_eq;rw[WQ,QF,this,WW,hWn]
   have permU:∀Us4:List (List Keyed),Us4.flatten.Perm Us.flatten->((Us4++[W]).flatten++R3).Perm l:=λUs4 q=>by
    refine WA.trans ?_ hp;rw[WQ,WW,Qj];exact(q.append_right _).trans (hp3.append_left _)
   have hle:min R.length mr<=R.length:=by have:=hp3.length_eq;rw[QF]at this;lia
   cases hb:(LB st3).back? with
   |none=>
    dsimp only;obtain⟨K5,k5⟩:=vD K3 k hsW hW0 hWn rfl;refine Lx (LH (Lw ⟨_,rfl,by lia,by lia,_,_,R3,K5,k5,permU Us (.refl _),lenU Us (.refl _)⟩))
   |some t=>
    obtain⟨s1,n1,pp⟩:=t;dsimp only;refine Lx (Ly (Lz (I:=λ_ c st4=>c=(none,())/\∃pend4 Us4,Ok O key S st4 pend4 (Us4.flatten++(W++R3))/\ca O key 0 pend4 Us4/\Us4.flatten.Perm Us.flatten)
     (Q:=λc st4=>c=(none,())/\∃pend4 Us4,Ok O key S st4 pend4 (Us4.flatten++(W++R3))/\ca O key 0 pend4 Us4/\Us4.flatten.Perm Us.flatten) ?s2 (λ_ _ q=>q) ⟨rfl,pend,Us,K3,k,.refl _⟩) ?p2)
    case s2=>
     rintro y c st4 _ hy ⟨rfl,pend4,Us4,K4,k4,hp4⟩;refine Lx (LG ?_);have hsz:(LB st4).size=pend4.length:=by rw[<-K4.pend,QS]
     by_cases cs:(LB st4).size > 1
     .rw[Mk cs];cases ho:(LB st4)[(LB st4).size-2]? with
      |none=>exact Lw ⟨rfl,pend4,Us4,K4,k4,hp4⟩
      |some t=>
       obtain⟨t1,t2,older⟩:=t;dsimp only;by_cases co:older<=LJ l.length (2*s1+n1) (2*s1+n1+n1+min R.length mr) l.length
       .rw[Mk co];exact Lw ⟨rfl,pend4,Us4,K4,k4,hp4⟩
       .rw[Ml co];refine Lx (xV C K4 k4 (by lia) λst5 pend5 Us5 K5 k5 hp5 _=>?_);rw[Ml (by simp)];exact Lw ⟨rfl,pend5,Us5,K5,k5,hp5.trans hp4⟩
     .rw[Ml cs];exact Lw ⟨rfl,pend4,Us4,K4,k4,hp4⟩
    case p2=>
     rintro c st4 ⟨rfl,pend4,Us4,K4,k4,hp4⟩;dsimp only;refine Lx (LH ?_);refine Lx (LH ?_);have K5:Ok O key S (setPending st4 ((LB st4).modify ((LB st4).size-1) λx=>(x.fst,x.2.fst,LJ l.length (2*s1+n1) (2*s1+n1+n1+min R.length mr) l.length))) (pend4.modify ((LB st4).size-1) λx=>(x.1,x.2.1,LJ l.length (2*s1+n1) (2*s1+n1+n1+min R.length mr) l.length)) (Us4.flatten++(W++R3)):=
      ⟨K4.kind,K4.failed,by show((LB st4).modify _ _).toList=_;rw[Vz,K4.pend],K4.arr,K4.all⟩
     obtain⟨K6,k6⟩:=vD K5 (k4.mod _ _) hsW hW0 hWn hp4.length_eq;exact Lw ⟨_,rfl,by lia,by lia,_,_,R3,K6,k6,permU Us4 hp4,lenU Us4 hp4⟩
  .rw[Ml c1];have K3:=K2;obtain⟨W,hW⟩:∃W,W=U:=⟨U,rfl⟩;obtain⟨R3,hR3⟩:∃R3,R3=R2:=⟨R2,rfl⟩;obtain⟨st3,hst3⟩:∃st3,st3=st2:=⟨st2,rfl⟩;rw[<-hW,<-hR3,<-hst3]at K3;have hWn:W.length=U.length:=by rw[hW]
   have hsW:bg O key W:=by rw[hW];exact hs2
   have hp3:(W++R3).Perm R:=by rw[hW,hR3];exact hp2
   have hW0:0<W.length:=by lia
   rw[<-hst3];refine Lx (LG ?_);have lenU:∀Us4:List (List Keyed),Us4.flatten.Perm Us.flatten->(Us4++[W]).flatten.length=Us.flatten.length+U.length:=λUs4 q=>by
    have:=q.length_eq;rw[WQ,QF,this,WW,hWn]
   have permU:∀Us4:List (List Keyed),Us4.flatten.Perm Us.flatten->((Us4++[W]).flatten++R3).Perm l:=λUs4 q=>by
    refine WA.trans ?_ hp;rw[WQ,WW,Qj];exact(q.append_right _).trans (hp3.append_left _)
   have hle:U.length<=R.length:=by have:=hp3.length_eq;rw[QF]at this;lia
   cases hb:(LB st3).back? with
   |none=>
    dsimp only;obtain⟨K5,k5⟩:=vD K3 k hsW hW0 hWn rfl;refine Lx (LH (Lw ⟨_,rfl,by lia,by lia,_,_,R3,K5,k5,permU Us (.refl _),lenU Us (.refl _)⟩))
   |some t=>
    obtain⟨s1,n1,pp⟩:=t;dsimp only;refine Lx (Ly (Lz (I:=λ_ c st4=>c=(none,())/\∃pend4 Us4,Ok O key S st4 pend4 (Us4.flatten++(W++R3))/\ca O key 0 pend4 Us4/\Us4.flatten.Perm Us.flatten)
     (Q:=λc st4=>c=(none,())/\∃pend4 Us4,Ok O key S st4 pend4 (Us4.flatten++(W++R3))/\ca O key 0 pend4 Us4/\Us4.flatten.Perm Us.flatten) ?s3 (λ_ _ q=>q) ⟨rfl,pend,Us,K3,k,.refl _⟩) ?p3)
    case s3=>
     rintro y c st4 _ hy ⟨rfl,pend4,Us4,K4,k4,hp4⟩;refine Lx (LG ?_);have hsz:(LB st4).size=pend4.length:=by rw[<-K4.pend,QS]
     by_cases cs:(LB st4).size > 1
     .rw[Mk cs];cases ho:(LB st4)[(LB st4).size-2]? with
      |none=>exact Lw ⟨rfl,pend4,Us4,K4,k4,hp4⟩
      |some t=>
       obtain⟨t1,t2,older⟩:=t;dsimp only;by_cases co:older<=LJ l.length (2*s1+n1) (2*s1+n1+n1+U.length) l.length
       .rw[Mk co];exact Lw ⟨rfl,pend4,Us4,K4,k4,hp4⟩
       .rw[Ml co];refine Lx (xV C K4 k4 (by lia) λst5 pend5 Us5 K5 k5 hp5 _=>?_);rw[Ml (by simp)];exact Lw ⟨rfl,pend5,Us5,K5,k5,hp5.trans hp4⟩
     .rw[Ml cs];exact Lw ⟨rfl,pend4,Us4,K4,k4,hp4⟩
    case p3=>
     rintro c st4 ⟨rfl,pend4,Us4,K4,k4,hp4⟩;dsimp only;refine Lx (LH ?_);refine Lx (LH ?_);have K5:Ok O key S (setPending st4 ((LB st4).modify ((LB st4).size-1) λx=>(x.fst,x.2.fst,LJ l.length (2*s1+n1) (2*s1+n1+n1+U.length) l.length))) (pend4.modify ((LB st4).size-1) λx=>(x.1,x.2.1,LJ l.length (2*s1+n1) (2*s1+n1+n1+U.length) l.length)) (Us4.flatten++(W++R3)):=
      ⟨K4.kind,K4.failed,by show((LB st4).modify _ _).toList=_;rw[Vz,K4.pend],K4.arr,K4.all⟩
     obtain⟨K6,k6⟩:=vD K5 (k4.mod _ _) hsW hW0 hWn hp4.length_eq;exact Lw ⟨_,rfl,by lia,by lia,_,_,R3,K6,k6,permU Us4 hp4,lenU Us4 hp4⟩
 case p1=>
  rintro c st' ⟨rfl,pend,Us,R,K',k,hp,hlo⟩;dsimp only;have hR:R=[]:=by
   have:=hp.length_eq;rw[QF]at this;exact VQ (by lia)
  subst hR;refine Lx (Ly (Lz (I:=λx c st4=>c=(none,())/\∃pend4 Us4,Ok O key S st4 pend4 (Us4.flatten++[])/\ca O key 0 pend4 Us4/\Us4.flatten.Perm Us.flatten/\(pend4.length<=1\/pend4.length+x<=l.length))
   (Q:=λc st4=>c=(none,())/\∃pend4 Us4,Ok O key S st4 pend4 (Us4.flatten++[])/\ca O key 0 pend4 Us4/\Us4.flatten.Perm Us.flatten/\pend4.length<=1) ?s4 ?f4 ⟨rfl,pend,Us,K',k,.refl _,.inr (by have:=k.len;lia)⟩) ?p4)
  case f4=>
   rintro c st4 ⟨rfl,pend4,Us4,K4,k4,hp4,hx⟩;exact⟨rfl,pend4,Us4,K4,k4,hp4,by lia⟩
  case s4=>
   rintro y c st4 _ hy ⟨rfl,pend4,Us4,K4,k4,hp4,hx⟩;refine Lx (LG ?_);have hsz:(LB st4).size=pend4.length:=by rw[<-K4.pend,QS]
   by_cases cs:(LB st4).size<=1
   .rw[Mk cs];exact Lw ⟨rfl,pend4,Us4,K4,k4,hp4,by lia⟩
   .rw[Ml cs];refine Lx (xV C K4 k4 ?_ λst5 pend5 Us5 K5 k5 hp5 hl5=>?_)
    .have e:∀(c:Prop) [Decidable c],(if c then(LB st4).size-2-1 else(LB st4).size-2)+1<pend4.length:=λc _=>by
      by_cases q:c
      .rw[Mk q];lia
      .rw[Ml q];lia
     exact e _
    .rw[Ml (by simp)];exact Lw ⟨rfl,pend5,Us5,K5,k5,hp5.trans hp4,by lia⟩
  case p4=>
   rintro c st4 ⟨rfl,pend4,Us4,K4,k4,hp4,hx⟩;dsimp only;have hpl:Us4.flatten.Perm l:=hp4.trans (by simpa using hp);refine Lw (h st4 Us4.flatten (by rw[K4.arr,QZ]) K4.failed ?_ hpl)
   match pend4,Us4,k4,hx with
   |[],[],_,_=>simp[bg]
   |[_],[W],q,_=>simpa using q.2.2.2.1
   |[],_::_,q,_=>exact q.elim
   |_::_,[],q,_=>exact q.elim
   |[_],_::_::_,q,_=>exact q.2.2.2.2.elim
   |_::_::_,_,_,hx=>simp at hx
end
theorem yD:∀a:List Int,HT.lexLt a a=false
 |[]=>rfl
 |x::xs=>by rw[HT.bv,Mk rfl];exact yD xs
theorem yE:∀a b c:List Int,HT.lexLt a b=true->HT.lexLt b c=true->HT.lexLt a c=true
 |[],[],_,h,_=>by cases h
 |[],_::_,[],_,h=>by cases h
 |[],_::_,_::_,_,_=>rfl
 |_::_,[],_,h,_=>by cases h
 |_::_,_::_,[],_,h=>by cases h
 |x::xs,y::ys,z::zs,h1,h2=>by
  rw[HT.bv]at h1 h2 ⊢;by_cases e1:x=y
  .rw[Mk e1]at h1;subst e1;by_cases e2:x=z
   .rw[Mk e2]at h2 ⊢;exact yE xs ys zs h1 h2
   .rw[Ml e2]at h2 ⊢;exact h2
  .rw[Ml e1]at h1;have q1:=Mp h1;by_cases e2:y=z
   .subst e2;rw[Ml e1];exact h1
   .rw[Ml e2]at h2;have q2:=Mp h2;rw[Ml (by lia)];exact Mo (by lia)
theorem xK:∀a b:List Int,HT.lexLt a b=false->HT.lexLt b a=false->a=b
 |[],[],_,_=>rfl
 |[],_::_,h,_=>by cases h
 |_::_,[],_,h=>by cases h
 |x::xs,y::ys,h1,h2=>by
  rw[HT.bv]at h1 h2;by_cases e:x=y
  .subst e;rw[Mk rfl]at h1 h2;rw[xK xs ys h1 h2]
  .rw[Ml e]at h1;rw[Ml (Ne.symm e)]at h2;have q1:=of_decide_eq_false h1;have q2:=of_decide_eq_false h2;lia
def C5(a b c:List Int)(h:HT.lexLt a c=true):HT.lexLt a b=true\/HT.lexLt b c=true:=by
 cases h1:HT.lexLt a b with
 |true=>exact .inl rfl
 |false=>
  right
  cases h2:HT.lexLt b a with
  |true=>exact yE b a c h2 h
  |false=>rw[<-xK a b h1 h2];exact h
def l9:Lr:=⟨List Int,HT.lexLt,yD,yE,C5,xK⟩
section
variable{prog:JM}{w:JN}{A:JW}{E:Value->Shared->Prop}{s:Shared}
def BW{key:Value->List Int}{vs:List Value}(hl:∀x∈vs,∀y∈vs,cZ A s x y (HT.lexLt (key x) (key y))):dO prog w A E s l9 (λp=>key p.1) (λp=>p.1∈vs):=by
 intro x y st Q hx hy hk q;rw[lt'_eq];refine Lx (LG ?_);rw[hk,keyLt'_oneType];refine Lx (LF (LK (hl x.1 hx y.1 hy prog w _ _ ⟨rfl,?_⟩)));exact Lw q
theorem gQ:∀vs:List Value,List.map (λx:Value×Value=>x.fst) (vs.zip vs)=vs
 |[]=>rfl
 |v::r=>Mn (v::·) (gQ r)
def gR {out:List Value}(h2:2<=vs.length)(hl:∀x∈vs,∀y∈vs,cZ A s x y (HT.lexLt (key x) (key y)))(hd:(vs.map key).Nodup)(hp:out.Perm vs)(ho:out.Pairwise λx y=>HT.lexLt (key y) (key x)=false)(h:∀st':Ls,(LA st').map (·.2)=out.toArray->LC st'=none->Q () st'):
  wpS (JZ prog w) A E s sortRuns' Q (SortSt.mk' Lu (vs.toArray.zip vs.toArray) #[] 7 none):=by
 have hz:(vs.toArray.zip vs.toArray).toList=vs.zip vs:=by simp
 refine qP (BW hl) (l:=vs.zip vs) ⟨rfl,rfl,rfl,hz,λx hx=>(mem_zip_self hx).2⟩ (by simp;lia) ?_ λst' l' e1 e2 e3 e4=>h st' ?_ e2
 .show ((vs.zip vs).map λp=>key p.1).Nodup;have:(vs.zip vs).map (λp=>key p.1)=vs.map key:=by
   have:=Mn (List.map key) (gQ vs)
   rwa[WM]at this
  rw[this];exact hd
 .have same:l'.map (·.2)=l'.map (·.1):=List.map_congr_left λp hp'=>(mem_zip_self (e4.mem_iff.mp hp')).1.symm;have e5:(l'.map (·.1)).Perm vs:=by have:=e4.map (·.1);rwa[gQ]at this
  have e6:l'.map (·.1)=out:=by
   refine WA.eq_of_pairwise (le:=λx y=>HT.lexLt (key y) (key x)=false) (λa b ha hb q1 q2=>?_) ?_ ho (e5.trans hp.symm)
   .have ka:key a=key b:=xK _ _ q2 q1;have ha':=e5.mem_iff.mp ha;have hb':=hp.mem_iff.mp hb;obtain⟨i,hi⟩:=Qv ha';obtain⟨j,hj⟩:=Qv hb';have hi':(vs.map key)[i]?=some (key a):=by rw[Qs,hi];rfl
    have hj':(vs.map key)[j]?=some (key b):=by rw[Qs,hj];rfl
    obtain⟨li,gi⟩:=Qa.mp hi';obtain⟨lj,gj⟩:=Qa.mp hj';by_cases c:i=j
    .subst c;rw[hi]at hj;cases hj;rfl
    .exfalso;rcases Nat.lt_or_gt_of_ne c with c|c
     .exact (Wm.mp hd) i j li lj c (by rw[gi,gj,ka])
     .exact (Wm.mp hd) j i lj li c (by rw[gi,gj,ka])
   .rw[WV];exact e3
  apply Array.ext';rw[Array.toList_map,e1,same,e6]
end
section
variable{prog:JM}{w:JN}{A:JW}{E:Value->Shared->Prop}{s:Shared}
def oU(A:JW)(s:Shared)(vs out:List Value):Prop:=∃key:Value->List Int,(∀x∈vs,∀y∈vs,cZ A s x y (HT.lexLt (key x) (key y)))/\(vs.map key).Nodup/\out.Perm vs/\out.Pairwise λx y=>HT.lexLt (key y) (key x)=false
def E8:∀{vs out:List Value},vs.length<2->out.Perm vs->out=vs
 |[],_,_,h=>h.eq_nil
 |[v],_,_,h=>List.perm_singleton.mp h
 |_::_::_,_,h,_=>by simp at h;lia
def i7(s:Shared)(vs:List Value):Prop:=∀v∈vs,s.TypeIs v "list"
def C4 (h:s.TypeIs v "list")(q:Q none s):JY (JZ prog w) A (firstOfTuple' v) Q E s:=by
 refine Kb (KP h ?_);rw[Mk (by decide)];exact Ki q
theorem lE:∀{vs:List Value},(∀v∈vs,∀Q:β->Shared->Prop,Q b s->JY (JZ prog w) A (f v) Q E s)->∀{Q:List β->Shared->Prop},Q (vs.map λ_=>b) s->JY (JZ prog w) A (vs.mapM f) Q E s
 |[],_,Q,q=>by rw[List.mapM_nil];exact Ki q
 |v::r,h,Q,q=>by
  rw[List.mapM_cons];refine Kb (h v (by simp) _ ?_);refine Kb (lE (λv hv=>h v (by simp[hv])) ?_);exact Ki q
def BV:∀(vs:List Value),((vs.map λ_=>Value.type "list").toArray.all λx=>x==Value.type "list")=true:=by
 intro vs;simp only[List.all_toArray,V0,QV];intro _ _;rfl
def BU (h:i7 s vs)(h2:2<=vs.length)(q:Q Lu s):JY (JZ prog w) A (keyKind' vs.toArray) Q E s:=by
 obtain⟨v,r,rfl⟩:∃v r,vs=v::r:=by
  cases vs with
  |nil=>simp at h2
  |cons v r=>exact⟨v,r,rfl⟩
 rw[keyKind'_eq,List.mapM_toArray,map_eq_pure_bind];refine Kb (Kb (lE (b:=none) (λv hv Q q=>C4 (h v hv) q) (Ki ?_)));rw[Ml (by simp),Ml (by simp)];rw[oneTypeOnly'_eq,List.mapM_toArray,map_eq_pure_bind];refine Kb (Kb (Kb (lE (b:=Value.type "list") (λv hv Q q=>KP (h v hv) q) (Ki ?_))));have h0:((v::r).map λ_=>Value.type "list").toArray[0]?=some (Value.type "list"):=by simp
 rw[h0];simp only[BV,if_true];exact Ki (Ki q)
def jL (ho:s.heap.get? a=some (LL "list" vs.toArray n))(hz:vs.length<=sizeLine)(hz2:out.length<=sizeLine)(hr:∀s':Shared,(∀b o,b≠a->s.heap.get? b=some o->s'.heap.get? b=some o)->i7 s' vs/\oU A s' vs out)(h:P (.done (.ret .none)) {s with heap:=sortedHeap s.heap a vs out.toArray}):
  JY (JZ prog w) A (Builtin.«list.sort» ⟨[.ref a],[]⟩) P E s:=by
 rw[list_sort_plain];have ha:a<s.heap.objs.size:=Qi ho;have hzs:vs.toArray.size<=sizeLine:=by simpa using hz
 refine Kb (listItems_at ho rfl ?_);refine Kb (LM ho rfl ?_ hzs (by simp));obtain⟨e1,ho1⟩:∃e1,(s.heap.update a (Obj.mapSeq λ_=>#[])).get? a=some (LL "list" #[] e1):=⟨_,LN ho (λ_=>#[])⟩;refine Kb (LO ho1 rfl ?_);refine Kb (LP ?_);refine Kb (wpAny_newList ?_);refine Kc ?_;have ho6:(((s.heap.update a (Obj.mapSeq λ_=>#[])).push (LL "tuple" vs.toArray 0)).push (LL "list" #[] 0)).get? a=some (LL "list" #[] e1):=by
  rw[Heap.get?_push_ne _ _ _ (by rw[size_push',Vj];exact QG (WH ha)),Heap.get?_push_ne _ _ _ (by rw[Vj];exact QG ha)];exact ho1
 have hk:∀b o,b≠a->s.heap.get? b=some o->(((s.heap.update a (Obj.mapSeq λ_=>#[])).push (LL "tuple" vs.toArray 0)).push (LL "list" #[] 0)).get? b=some o:=by
  intro b o hb e;refine Qc _ (Qc _ ?_);rw[WR _ _ _ _ hb];exact e
 obtain⟨hA,hR⟩:=hr {s with heap:=((s.heap.update a (Obj.mapSeq λ_=>#[])).push (LL "tuple" vs.toArray 0)).push (LL "list" #[] 0)} hk;show JY (JZ prog w) A _ P E {s with heap:=((s.heap.update a (Obj.mapSeq λ_=>#[])).push (LL "tuple" vs.toArray 0)).push (LL "list" #[] 0)};dsimp only;have hsz:vs.toArray.size=vs.length:=by simp
 by_cases h2:vs.toArray.size<2
 .rw[Mk h2,Mk h2];refine Kb (Ki ?_);rw[StateT.run_pure];refine Kb (Ki ?_);dsimp only;have e0:(vs.toArray.zip vs.toArray).map (·.2)=out.toArray:=by
   have e1:out=vs:=by
    obtain⟨_,_,_,q,_⟩:=hR;exact E8 (by simpa using h2) q
   rw[e1];apply Array.ext';simpa using rR vs
  refine Kb (LO ho6 rfl ?_);refine Kb (LM ho6 rfl ?_ (by simp) (by show((vs.toArray.zip vs.toArray).map (·.2)).size<=_;rw[e0];simp;lia));simp only[bne_self_eq_false,QX,if_false];rw[show(LA (SortSt.mk' general' (vs.toArray.zip vs.toArray) #[] 7 none)).map (·.2)=out.toArray from e0];exact Ki h
 .rw[Ml h2,Ml h2];obtain⟨key0,r1,r2,r3,r4⟩:=hR;refine Kb (BU hA (by lia) ?_);refine Kb (J2 (gR (key:=key0) (Q:=λ_ st'=>(LA st').map (·.2)=out.toArray/\LC st'=none) (by lia) r1 r2 r3 r4 λst' a1 a2=>⟨a1,a2⟩) ?_ λ_ _ e=>e);rintro⟨⟨⟩,st'⟩ s' ⟨rfl,hp,hf⟩;dsimp only;refine Kb (LO ho6 rfl ?_);refine Kb (LM ho6 rfl ?_ (by simp) (by show((LA st').map (·.2)).size<=_;rw[hp];simp;lia));rw[hf];simp only[bne_self_eq_false,QX,if_false];rw[hp];exact Ki h
def Gc (hl:s.heap.IsList l vs.toArray)(hz:vs.length<=sizeLine)(hz2:out.length<=sizeLine)(hr:∀s':Shared,(∀b o,s.heap.get? b=some o->s'.heap.get? b=some o)->i7 s' vs/\oU A.in1.in1 s' vs out)(h:Q (.ref (s.heap.objs.size+1)) {s with heap:=LQ s.heap vs out.toArray}):
  JY (JZ prog w) A (call (.builtin "sorted") [.ref l]) Q E s:=by
 refine Calls.call_function_entry kind_sorted plain_sorted entry_sorted (args_sorted1 _) ?_;unfold Builtin.«sorted»;refine Kb (m:=checkCount "sorted" 1 1 _) (Ki ?_);refine Kb (collect_list hl ?_ hz);refine Kb (wpAny_newList ?_);have hsz:((s.heap.push (LL "list" #[] 0)).update s.heap.objs.size (Obj.mapSeq (·++vs.toArray))).objs.size=s.heap.objs.size+1:=by
  rw[Vj,size_push']
 have hoL:(((s.heap.push (LL "list" #[] 0)).update s.heap.objs.size (Obj.mapSeq (·++vs.toArray))).push (LL "list" vs.toArray 0)).get? (s.heap.objs.size+1)=some (LL "list" vs.toArray 0):=by
  rw[<-hsz];exact Qe _ rfl
 have hk:∀b o,s.heap.get? b=some o->(((s.heap.push (LL "list" #[] 0)).update s.heap.objs.size (Obj.mapSeq (·++vs.toArray))).push (LL "list" vs.toArray 0)).get? b=some o:=by
  intro b o e;refine Qc _ ?_;rw[WR _ _ _ _ (QG (Qi e))];exact Qc _ e
 show JY _ _ _ _ _ {s with heap:=((s.heap.push (LL "list" #[] 0)).update s.heap.objs.size (Obj.mapSeq (·++vs.toArray))).push (LL "list" vs.toArray 0)};rw[hsz];refine Kb (Kc (KO slot_list_sort ⟨_,hoL,rfl⟩ entry_list_sort (jL (out:=out) hoL hz hz2 (λs' k=>hr s' λb o e=>k b o (QG (WH (Qi e))) (hk b o e)) ⟨_,rfl,?_⟩) (args_list_sort _)));exact Ki ⟨_,rfl,h⟩
end
def dw(K:Qb)(H:Hp)(c:Int)(n:Nat)(b:Addr)(k:List Int):Prop:=k.length=n /\
 ((c=0/\bE K H b (k.map V.int))\/∃(rs:List Addr) (kk:List (List Int)),2<=c/\k=kk.flatten/\rs.length=kk.length/\bE K H b (rs.map V.ref)/\∀(j:Nat) r q,rs[j]?=some r->kk[j]?=some q->(q.length:Int)+1=c/\bE K H r (q.map V.int))
def nQ(K:Qb)(H:Hp)(bs cs:List Addr):Prop:=∃(ks:List (List Int)) (c:Int) (n:Nat),ks.length=bs.length/\(∀(i:Nat) b k,bs[i]?=some b->ks[i]?=some k->∃k',k=c::k'/\dw K H c n b k') /\
 ks.Nodup/\∃ps:List (List Int×Addr),ps.Perm (ks.zip bs)/\cs=ps.map Prod.snd/\ps.Pairwise λx y=>HT.lexLt y.1 x.1=false
section
variable{X:Cx}
def C3 {k:List Int}(r:av (k.map V.int) its)(j:Nat)(v:Value)(hv:its.toArray[j]?=some v):∃t,v=.int (k.getD j 0) t:=by
 have hv':its[j]?=some v:=by simpa using hv
 obtain⟨y,hy,ry⟩:=r.at hv';rw[Qs]at hy;cases hb:k[j]? with
 |none=>rw[hb]at hy;cases hy
 |some b=>
  rw[hb]at hy;cases hy;obtain⟨t,rfl⟩:=(ry:∃t,v=.int b t);exact⟨t,by rw[Qu,hb];rfl⟩
theorem vY:∀{bs:List Addr}{us:List Value},av (bs.map V.ref) us->us=bs.map Value.ref
 |[],_,.nil=>rfl
 |_::_,_,.cons p q=>by
  rw[vY q];cases p;rfl
theorem j5:∀(bs:List Addr),av (bs.map V.ref) (bs.map Value.ref)
 |[]=>.nil
 |_::r=>.cons rfl (j5 r)
def rN {s':Shared}(I:Inv X pins σ H s)(kp:∀b o,s.heap.get? b=some o->s'.heap.get? b=some o)(h:bE X.K H b (k.map V.int)):∃its:Array Value,s'.heap.IsList b its/\bA its k:=by
 obtain⟨its,r,pl,_⟩:=I.list h;obtain⟨o,ho,hc,n,hd⟩:=pl.isList;have:=r.length;rw[Qo]at this;exact⟨its.toArray,⟨o,kp _ _ ho,hc,n,hd⟩,by simp;lia,C3 r⟩
def dw.val (I:Inv X pins σ H s)(kp:∀b o,s.heap.get? b=some o->s'.heap.get? b=some o)(h:dw X.K H c n b k):c9 s' c n (.ref b) k:=by
 obtain⟨hn,⟨hc,h⟩|⟨rs,kk,hc,e,hl,h,hr⟩⟩:=h
 .obtain ⟨its,h1,h2⟩:=rN I kp h;exact⟨b,its,rfl,h1,hn,.inl ⟨hc,h2⟩⟩
 .obtain ⟨its,r,pl,_⟩:=I.list h;obtain⟨o,ho,hc',n',hd⟩:=pl.isList;obtain rfl:=vY r;refine⟨b,_,rfl,⟨o,kp _ _ ho,hc',n',hd⟩,hn,.inr ⟨kk,hc,e,by simp[hl],λj u q hu hq=>?_⟩⟩;have hu':(rs.map Value.ref)[j]?=some u:=by simpa using hu
  rw[Qs]at hu';obtain⟨a,ha,rfl⟩:=QJ.mp hu';obtain⟨l1,l2⟩:=hr j a q ha hq;obtain⟨ri,g1,g2⟩:=rN I kp l2;exact⟨l1,a,ri,rfl,g1,g2⟩
def qQ(hu:X.A.units+64<Ku):bx X (.builtin "sorted") (λxs H Q=>∃(p:Addr) (bs cs:List Addr),xs=[.ref p]/\bE X.K H p (bs.map V.ref)/\nQ X.K H bs cs/\∀l,H l=none->Q (.ref l) (aI H l (.lst (cs.map V.ref)))):=by
 intro pins s σ H xs us Q I r h;obtain⟨p,bs,cs,rfl,hq,⟨ks,c,n,hl,hk,hkd,ps,hps,rfl,hpp⟩,q⟩:=h;obtain⟨u,rfl,rx⟩:=xH r;cases rx;obtain⟨its,r',pl,hz⟩:=I.list hq;obtain rfl:=vY r';rw[Qo]at hz;have hbd:bs.Nodup:=by
  unfold List.Nodup;rw[Wm];intro i j hi hj hij e';have hi':i<ks.length:=by lia
  have hj':j<ks.length:=by lia
  obtain⟨k1,e1,q1⟩:=hk i bs[i] ks[i] (by simp[hi]) (by simp[hi']);obtain⟨k2,e2,q2⟩:=hk j bs[j] ks[j] (by simp[hj]) (by simp[hj']);rw[e']at q1;have:=(q1.val I λ_ _ h=>h).det (q2.val I λ_ _ h=>h);exact Wm.mp hkd i j hi' hj' hij (by rw[e1,e2,this])
 have hpm:(ps.map Prod.snd).Perm bs:=by
  have:=hps.map Prod.snd
  rwa[List.map_snd_zip (by lia)]at this
 have hso:(ps.map Prod.snd).Pairwise λx y=>HT.lexLt ((ks[bs.idxOf y]?).getD []) ((ks[bs.idxOf x]?).getD [])=false:=by
  have hm:∀p∈ps,(ks[bs.idxOf p.2]?).getD []=p.1:=λp hp=>by
   obtain⟨i,hi⟩:=Qv (hps.mem_iff.mp hp);obtain⟨h1,h2⟩:=VW.mp hi;obtain⟨h3,h4⟩:=Qa.mp h2;rw[<-h4,hbd.idxOf_getElem i h3,h1];rfl
  rw[WV];refine hpp.imp_of_mem λ{a b} ha hb h=>?_;rw[hm a ha,hm b hb];exact h
 have hcs:(ps.map Prod.snd).length=bs.length:=hpm.length_eq;clear hpp hps;generalize ps.map Prod.snd=cs at *
 have keyX:∀(i:Nat),i<bs.length->∃b k,bs[i]?=some b/\ks[i]?=some k:=λi hi=>⟨bs[i],ks[i],by simp[hi],by simp⟩;refine Gc (out:=cs.map Value.ref) pl.isList (by simpa using hz) (by rw[Qo,hcs];exact hz) (λs' kp=>⟨λv hv=>?_,?_⟩) ?_
 .obtain ⟨b,hb,rfl⟩:=WL.mp hv;obtain⟨i,hi⟩:=Qv hb;obtain⟨_,k,_,h2⟩:=keyX i (Qa.mp hi).1;obtain⟨k',_,hk'⟩:=hk i b k hi h2;obtain⟨l,_,e,⟨o,ho,hc,_⟩,_⟩:=hk'.val I kp;cases e;exact⟨o,ho,hc⟩
 .have ix:∀(i:Nat) b,bs[i]?=some b->bs.idxOf b=i:=λi b hb=>by
   obtain⟨hi,rfl⟩:=Qa.mp hb;exact hbd.idxOf_getElem i hi
  let key:Value->List Int:=λv=>match v with
   |.ref b=>(ks[bs.idxOf b]?).getD []
   |_=>[]
  have keyAt:∀(i:Nat) b k,bs[i]?=some b->ks[i]?=some k->key (.ref b)=k:=λi b k hb hk'=>by
   show(ks[bs.idxOf b]?).getD []=k;rw[ix i b hb,hk'];rfl
  refine⟨key,λx hx y hy=>?_,?_,hpm.map _,?_⟩
  .obtain ⟨b1,hb1,rfl⟩:=WL.mp hx;obtain⟨b0,hb0,rfl⟩:=WL.mp hy;obtain⟨i1,e1⟩:=Qv hb1;obtain⟨i0,e0⟩:=Qv hb0;obtain⟨_,k1,_,f1⟩:=keyX i1 (Qa.mp e1).1;obtain⟨_,k0,_,f0⟩:=keyX i0 (Qa.mp e0).1;obtain⟨k1',rfl,q1⟩:=hk _ _ _ e1 f1;obtain⟨k0',rfl,q0⟩:=hk _ _ _ e0 f0;rw[keyAt _ _ _ e1 f1,keyAt _ _ _ e0 f0,HT.bv,Mk rfl];exact c9.lt (by show X.A.units+1+1+2<Ku;lia) (q1.val I kp) (q0.val I kp)
  .have:(bs.map Value.ref).map key=ks:=by
    apply W9;intro i;rw[Qs,Qs];by_cases hi:i<bs.length
    .obtain ⟨b,k,hb,hk'⟩:=keyX i hi;rw[hb,hk'];show some (key (.ref b))=some k;rw[keyAt i b k hb hk']
    .rw[QE (by lia),QE (by lia)];rfl
   rw[this];exact hkd
  .rw[WV];exact hso
 .have hsz:((s.heap.push (LL "list" #[] 0)).update s.heap.objs.size (Obj.mapSeq (·++(bs.map Value.ref).toArray))).objs.size=s.heap.objs.size+1:=by
   rw[Vj,size_push']
  have hoL:(((s.heap.push (LL "list" #[] 0)).update s.heap.objs.size (Obj.mapSeq (·++(bs.map Value.ref).toArray))).push (LL "list" (bs.map Value.ref).toArray 0)).get? (s.heap.objs.size+1)=some (LL "list" (bs.map Value.ref).toArray 0):=by
   rw[<-hsz];exact Qe _ rfl
  have ha:=Qi hoL;have hk1:∀b o,s.heap.get? b=some o->(((s.heap.push (LL "list" #[] 0)).update s.heap.objs.size (Obj.mapSeq (·++(bs.map Value.ref).toArray))).push (LL "list" (bs.map Value.ref).toArray 0)).get? b=some o:=by
   intro b o e;refine Qc _ ?_;rw[WR _ _ _ _ (QG (Qi e))];exact Qc _ e
  have hk2:∀b o,s.heap.get? b=some o->(LQ s.heap (bs.map Value.ref) (cs.map Value.ref).toArray).get? b=some o:=by
   intro b o e;have hb:=Qi e;unfold LQ sortedHeap;rw[WR _ _ _ _ (QG (WH hb))];refine Qc _ (Qc _ ?_);rw[WR _ _ _ _ (QG (WH hb))];exact hk1 b o e
  have hres:∃c,(LQ s.heap (bs.map Value.ref) (cs.map Value.ref).toArray).get? (s.heap.objs.size+1)=some (LL "list" (cs.map Value.ref).toArray c):=by
   unfold LQ sortedHeap;obtain⟨e1,ho1⟩:∃e1,((((s.heap.push (LL "list" #[] 0)).update s.heap.objs.size (Obj.mapSeq (·++(bs.map Value.ref).toArray))).push (LL "list" (bs.map Value.ref).toArray 0)).update (s.heap.objs.size+1) (Obj.mapSeq λ_=>#[])).get? (s.heap.objs.size+1)=some (LL "list" #[] e1):=⟨_,LN hoL (λ_=>#[])⟩;exact⟨_,LN (Qc _ (Qc _ ho1)) (λ_=>(cs.map Value.ref).toArray)⟩
  obtain⟨c,e⟩:=hres;exact⟨.ref (s.heap.objs.size+1),_,I.laid (t':=s.toks) hk2 (Vc _) (show bp X.prog X.w _ _ _ (.lst (cs.map V.ref))from⟨by rw[Qo,hcs];exact hz,_,c,j5 cs,e⟩),rfl,q _ (I.hok.fresh (Vc _))⟩
end
noncomputable def km(ns:List Int):Int:=ns.getD (LR (λi j=>decide (ns.getD i 0 > ns.getD j 0)) (ns.length-1)) 0
noncomputable def kn(ns:List Int):Int:=ns.getD (LR (λi j=>decide (ns.getD i 0<ns.getD j 0)) (ns.length-1)) 0
theorem vc(bt:Nat->Nat->Bool):∀k,LR bt k<=k
 |0=>Qh _
 |k+1=>by
  unfold LR;split
  .exact Qh _
  .exact Nat.le_succ_of_le (vc bt k)
set_option tactic.hygienic true in
theorem jd(val:Nat->Int):∀k i,i<=k->val i<=val (LR (λi j=>decide (val i > val j)) k)
 |0,i,h=>by
  obtain rfl:i=0:=by lia
  exact Vd _
 |k+1,i,h=>by
  have ih:=jd val k;unfold LR;split
  .rename_i z;have z':=Mp z;by_cases e:i=k+1
   .rw[e];exact Vd _
   .have:=ih i (by lia);lia
  .rename_i z;have z':¬val (k+1) > val (LR (λi j=>decide (val i > val j)) k):=λy=>z (Mo y);by_cases e:i=k+1
   .rw[e];lia
   .exact ih i (by lia)
set_option tactic.hygienic true in
theorem je(val:Nat->Int):∀k i,i<=k->val (LR (λi j=>decide (val i<val j)) k)<=val i
 |0,i,h=>by
  obtain rfl:i=0:=by lia
  exact Vd _
 |k+1,i,h=>by
  have ih:=je val k;unfold LR;split
  .rename_i z;have z':=Mp z;by_cases e:i=k+1
   .rw[e];exact Vd _
   .have:=ih i (by lia);lia
  .rename_i z;have z':¬val (k+1)<val (LR (λi j=>decide (val i<val j)) k):=λy=>z (Mo y);by_cases e:i=k+1
   .rw[e];lia
   .exact ih i (by lia)
section
variable{X:Cx}
def qR(hc:X.calm=true):bx X (.builtin "max") (λxs H Q=>∃(p:Addr) (ns:List Int),xs=[.ref p]/\bE X.K H p (ns.map V.int)/\0<ns.length/\Q (.int (km ns)) H):=by
 intro pins s σ H xs us Q I r h;obtain⟨p,ns,rfl,hq,h0,q⟩:=h;obtain⟨u,rfl,rx⟩:=xH r;cases rx;obtain⟨its,r',pl,hz⟩:=I.list hq;have hlen:=r'.length;rw[Qo]at hlen;obtain⟨o,ho,_⟩:=id pl.isList;have hlt:=Qi ho;have e0:its.toArray.size=ns.length:=by simp;lia
 have val:∀(i:Nat) (v:Value),its.toArray[i]?=some v->∃t,v=.int (ns.getD i 0) t:=λi v hv=>by
  have hv':its[i]?=some v:=by simpa using hv
  obtain⟨y,hy,ry⟩:=r'.at hv';rw[Qs]at hy;cases hb:ns[i]? with
  |none=>rw[hb]at hy;cases hy
  |some b=>
   rw[hb]at hy;cases hy;obtain⟨t,rfl⟩:=(ry:∃t,v=.int b t);exact⟨t,by rw[Qu,hb];rfl⟩
 refine call_max_walk (Kk pl.isList ?_);refine⟨s.heap.objs.size,_,_,_,_,_,_,rfl,Walks.list (A:=X.A.in1) (I.ok.hd hc) s.heap.objs.size p (QG hlt) its.toArray,⟨⟨_,Qe _ rfl,rfl,rfl⟩,pl.isList.at λo e=>Qc _ e⟩,?_,by rw[e0];exact h0,CmpOf.ints_gt (λi=>ns.getD i 0) val,λv h' tk hv hk=>?_⟩
 .intro b hb;have h1:s.heap.objs.size<(s.heap.push {cls:=.type "list_iterator",data:=.fields #[.ref p,.int 0 0]}).objs.size:=Qi (Qe _ rfl);have:b=s.heap.objs.size\/b=p:=by simpa using hb
  rcases this with rfl|rfl
  .exact h1
  .exact W5 hlt h1
 .rw[e0]at hv;obtain⟨t,rfl⟩:=val _ v hv;exact⟨.int (km ns),H,I.kept (t':=tk) λb o e=>hk b o (λhb=>by
   have:b=s.heap.objs.size:=by simpa using hb
   exact Mm (Qi e) (by rw[this];exact Wa _)) (Qc _ e),⟨t,rfl⟩,q⟩
def qS(hc:X.calm=true):bx X (.builtin "min") (λxs H Q=>∃(p:Addr) (ns:List Int),xs=[.ref p]/\bE X.K H p (ns.map V.int)/\0<ns.length/\Q (.int (kn ns)) H):=by
 intro pins s σ H xs us Q I r h;obtain⟨p,ns,rfl,hq,h0,q⟩:=h;obtain⟨u,rfl,rx⟩:=xH r;cases rx;obtain⟨its,r',pl,hz⟩:=I.list hq;have hlen:=r'.length;rw[Qo]at hlen;obtain⟨o,ho,_⟩:=id pl.isList;have hlt:=Qi ho;have e0:its.toArray.size=ns.length:=by simp;lia
 have val:∀(i:Nat) (v:Value),its.toArray[i]?=some v->∃t,v=.int (ns.getD i 0) t:=λi v hv=>by
  have hv':its[i]?=some v:=by simpa using hv
  obtain⟨y,hy,ry⟩:=r'.at hv';rw[Qs]at hy;cases hb:ns[i]? with
  |none=>rw[hb]at hy;cases hy
  |some b=>
   rw[hb]at hy;cases hy;obtain⟨t,rfl⟩:=(ry:∃t,v=.int b t);exact⟨t,by rw[Qu,hb];rfl⟩
 refine call_min_walk (Kk pl.isList ?_);refine⟨s.heap.objs.size,_,_,_,_,_,_,rfl,Walks.list (A:=X.A.in1) (I.ok.hd hc) s.heap.objs.size p (QG hlt) its.toArray,⟨⟨_,Qe _ rfl,rfl,rfl⟩,pl.isList.at λo e=>Qc _ e⟩,?_,by rw[e0];exact h0,CmpOf.ints_lt (λi=>ns.getD i 0) val,λv h' tk hv hk=>?_⟩
 .intro b hb;have h1:s.heap.objs.size<(s.heap.push {cls:=.type "list_iterator",data:=.fields #[.ref p,.int 0 0]}).objs.size:=Qi (Qe _ rfl);have:b=s.heap.objs.size\/b=p:=by simpa using hb
  rcases this with rfl|rfl
  .exact h1
  .exact W5 hlt h1
 .rw[e0]at hv;obtain⟨t,rfl⟩:=val _ v hv;exact⟨.int (kn ns),H,I.kept (t':=tk) λb o e=>hk b o (λhb=>by
   have:b=s.heap.objs.size:=by simpa using hb
   exact Mm (Qi e) (by rw[this];exact Wa _)) (Qc _ e),⟨t,rfl⟩,q⟩
end
noncomputable def fu(ns:List Int):List Int:=ns.mergeSort λa b=>decide (a<=b)
def j6(ns:List Int):(fu ns).Perm ns:=List.mergeSort_perm _ _
def qT(ns:List Int):(fu ns).Pairwise (·<=·):=by
 have:=List.pairwise_mergeSort (le:=λa b:Int=>decide (a<=b)) (λa b c h1 h2=>by simp only[Mq]at *;lia) (λa b=>by simp only[WS,Mq];lia) ns;exact this.imp λh=>Mp h
def C2 (h:ms.Perm ns)(hs:ms.Pairwise (·<=·)):fu ns=ms:=
 WA.eq_of_pairwise (le:=λa b:Int=>a<=b) (λa b _ _ h1 h2=>by lia) (qT ns) hs ((j6 ns).trans h.symm)
theorem qU:∀{ns:List Int}{its:List Value},av (ns.map V.int) its->K7 its ns
 |[],_,.nil=>.nil
 |n::ns,_,.cons r t=>by
  obtain⟨k,rfl⟩:=(r:∃t,_=Value.int n t);exact .cons _ _ (qU t)
theorem qV:∀{ns:List Int}{its:List Value},K7 its ns->av (ns.map V.int) its
 |_,_,.nil=>.nil
 |_,_,.cons _ _ t=>.cons ⟨_,rfl⟩ (qV t)
section
variable{X:Cx}
def Gb:bx X (.builtin "sorted") (λxs H Q=>∃(p:Addr) (ns:List Int),xs=[.ref p]/\bE X.K H p (ns.map V.int)/\ns.length<64/\∀l,H l=none->Q (.ref l) (aI H l (.lst ((fu ns).map V.int)))):=by
 intro pins s σ H xs us Q I r h;obtain⟨p,ns,rfl,hq,h64,q⟩:=h;obtain⟨u,rfl,rx⟩:=xH r;cases rx;obtain⟨its,r',pl,hz⟩:=I.list hq;have hlen:=r'.length;rw[Qo]at hlen;refine sorted_ints pl.isList (qU r') (by lia) λout ns' h1 h2 h3=>?_;obtain⟨e,he⟩:=sortedAll_at s.heap its out;have e1:fu ns=ns':=C2 h2 h3;refine⟨.ref (s.heap.objs.size+1),_,I.laid (a:=s.heap.objs.size+1) (t':=s.toks) (λb o hb=>sortedAll_old hb) (by lia) (show bp X.prog X.w _ _ _ (.lst ((fu ns).map V.int))from⟨?_,out.toList,e,?_,?_⟩),rfl,q _ (I.hok.fresh (by lia))⟩
 .rw[Qo,(j6 ns).length_eq];have:(64:Nat)<=sizeLine:=by decide
  lia
 .rw[e1];exact qV h1
 .exact he
end
section
variable{X:Cx}
def FS(hc:X.calm=true):bx X (.builtin "max") (λxs H Q=>∃(p:Addr) (ns:List Int),xs=[.ref p]/\bI X.K H p (ns.map V.int)/\0<ns.length/\Q (.int (km ns)) H):=by
 intro pins s σ H xs us Q I r h;obtain⟨p,ns,rfl,hq,h0,q⟩:=h;obtain⟨u,rfl,rx⟩:=xH r;cases rx;obtain⟨its,r',pl,hz⟩:=I.tuple hq;have hlen:=r'.length;rw[Qo]at hlen;have pt:s.heap.IsTuple p its.toArray:=pl;obtain⟨o,ho,_⟩:=id pt;have hlt:=Qi ho;have e0:its.toArray.size=ns.length:=by simp;lia
 have val:∀(i:Nat) (v:Value),its.toArray[i]?=some v->∃t,v=.int (ns.getD i 0) t:=λi v hv=>by
  have hv':its[i]?=some v:=by simpa using hv
  obtain⟨y,hy,ry⟩:=r'.at hv';rw[Qs]at hy;cases hb:ns[i]? with
  |none=>rw[hb]at hy;cases hy
  |some b=>
   rw[hb]at hy;cases hy;obtain⟨t,rfl⟩:=(ry:∃t,v=.int b t);exact⟨t,by rw[Qu,hb];rfl⟩
 refine call_max_walk (Kl pt ?_);refine⟨s.heap.objs.size,_,_,_,_,_,_,rfl,Walks.tuple (A:=X.A.in1) (I.ok.hd hc) s.heap.objs.size p (QG hlt) its.toArray,⟨⟨_,Qe _ rfl,rfl,rfl⟩,pt.at λo e=>Qc _ e⟩,?_,by rw[e0];exact h0,CmpOf.ints_gt (λi=>ns.getD i 0) val,λv h' tk hv hk=>?_⟩
 .intro b hb;have h1:s.heap.objs.size<(s.heap.push {cls:=.type "tuple_iterator",data:=.fields #[.ref p,.int 0 0]}).objs.size:=Qi (Qe _ rfl);have:b=s.heap.objs.size\/b=p:=by simpa using hb
  rcases this with rfl|rfl
  .exact h1
  .exact W5 hlt h1
 .rw[e0]at hv;obtain⟨t,rfl⟩:=val _ v hv;exact⟨.int (km ns),H,I.kept (t':=tk) λb o e=>hk b o (λhb=>by
   have:b=s.heap.objs.size:=by simpa using hb
   exact Mm (Qi e) (by rw[this];exact Wa _)) (Qc _ e),⟨t,rfl⟩,q⟩
def FR(hc:X.calm=true):bx X (.builtin "min") (λxs H Q=>∃(p:Addr) (ns:List Int),xs=[.ref p]/\bI X.K H p (ns.map V.int)/\0<ns.length/\Q (.int (kn ns)) H):=by
 intro pins s σ H xs us Q I r h;obtain⟨p,ns,rfl,hq,h0,q⟩:=h;obtain⟨u,rfl,rx⟩:=xH r;cases rx;obtain⟨its,r',pl,hz⟩:=I.tuple hq;have hlen:=r'.length;rw[Qo]at hlen;have pt:s.heap.IsTuple p its.toArray:=pl;obtain⟨o,ho,_⟩:=id pt;have hlt:=Qi ho;have e0:its.toArray.size=ns.length:=by simp;lia
 have val:∀(i:Nat) (v:Value),its.toArray[i]?=some v->∃t,v=.int (ns.getD i 0) t:=λi v hv=>by
  have hv':its[i]?=some v:=by simpa using hv
  obtain⟨y,hy,ry⟩:=r'.at hv';rw[Qs]at hy;cases hb:ns[i]? with
  |none=>rw[hb]at hy;cases hy
  |some b=>
   rw[hb]at hy;cases hy;obtain⟨t,rfl⟩:=(ry:∃t,v=.int b t);exact⟨t,by rw[Qu,hb];rfl⟩
 refine call_min_walk (Kl pt ?_);refine⟨s.heap.objs.size,_,_,_,_,_,_,rfl,Walks.tuple (A:=X.A.in1) (I.ok.hd hc) s.heap.objs.size p (QG hlt) its.toArray,⟨⟨_,Qe _ rfl,rfl,rfl⟩,pt.at λo e=>Qc _ e⟩,?_,by rw[e0];exact h0,CmpOf.ints_lt (λi=>ns.getD i 0) val,λv h' tk hv hk=>?_⟩
 .intro b hb;have h1:s.heap.objs.size<(s.heap.push {cls:=.type "tuple_iterator",data:=.fields #[.ref p,.int 0 0]}).objs.size:=Qi (Qe _ rfl);have:b=s.heap.objs.size\/b=p:=by simpa using hb
  rcases this with rfl|rfl
  .exact h1
  .exact W5 hlt h1
 .rw[e0]at hv;obtain⟨t,rfl⟩:=val _ v hv;exact⟨.int (kn ns),H,I.kept (t':=tk) λb o e=>hk b o (λhb=>by
   have:b=s.heap.objs.size:=by simpa using hb
   exact Mm (Qi e) (by rw[this];exact Wa _)) (Qc _ e),⟨t,rfl⟩,q⟩
end
end L2
namespace Mini
open PySem PySem.Spec PyProof.Rows L2
section
variable{K:Qb}{as:List Addr}{H:Hp}{m:Me}{Q:VK}{X:Cx}
noncomputable def lf:dR->Option (Str×Value)
 |.len=>some ("len",.builtin "len")
 |.int=>some ("int",.type "int")
 |.list=>some ("list",.type "list")
 |.tuple=>some ("tuple",.type "tuple")
 |.sum=>some ("sum",.builtin "sum")
 |.sorted=>some ("sorted",.builtin "sorted")
 |.sortI=>some ("sorted",.builtin "sorted")
 |.minS=>some ("min",.builtin "min")
 |.maxS=>some ("max",.builtin "max")
def tL(K:Qb)(b:dR):List V->Hp->VK->Prop:=λvs H Q=>∃as m ws,aK K as m H/\aa K as H ws vs/\ak K as H Q (vq b ws m)
def yZ (h:aa K as H [x] vs):∃v,vs=[v]/\ah K as H x v:=by
 obtain⟨v,r,rfl,q,t⟩:=aj.mp h;obtain rfl:=au.mp t;exact⟨v,rfl,q⟩
def pY (h:aa K as H [x,y] vs):∃v u,vs=[v,u]/\ah K as H x v/\ah K as H y u:=by
 obtain⟨v,r,rfl,q,t⟩:=aj.mp h;obtain⟨u,rfl,q'⟩:=yZ t;exact⟨v,u,rfl,q,q'⟩
def qW (S:aK K as m H)(R:ah K as H w v)(h:kz m w=some xs):∃p vs,v=.ref p/\bE K H p vs/\aa K as H xs vs:=by
 cases w with
 |rol ys=>
  cases h;obtain⟨a,vs,rfl,hq,rr⟩:=bm.mp R;exact⟨a,vs,rfl,hq.sq,rr⟩
 |ref l=>
  obtain⟨b,hb,rfl⟩:=aG.mp R;obtain⟨a,vs,ha,e,r⟩:=ya S (zR h);rw[hb]at ha;cases ha;exact⟨b,vs,rfl,bE.of e,r⟩
 |_=>cases h
theorem gS:∀{xs:List Wd}{vs:List V}{i:Int},aa K as H xs vs->jK xs=some i->∃ns:List Int,vs=ns.map V.int/\ns.sum=i
 |[],vs,i,R,h=>by cases h;exact⟨[],au.mp R,rfl⟩
 |x::xs,vs,i,R,h=>by
  obtain⟨v,r,rfl,q,t⟩:=aj.mp R;cases x with
  |int j=>
   simp only[jK,QJ]at h;obtain⟨k,hk,rfl⟩:=h;obtain⟨ns,rfl,rfl⟩:=gS t hk;obtain rfl:=ab.mp q;exact⟨j::ns,rfl,by simp⟩
  |_=>cases h
def vE{o:Option (List Wd)}{f:(List Wd)->Rz}(h:ak K as H Q (match o with|some a=>f a|none=>.no)):∃a,o=some a/\ak K as H Q (f a):=by
 cases o with
 |none=>exact h.elim
 |some a=>exact⟨a,rfl,h⟩
def C0{o:Option Int}{f:Int->Rz}(h:ak K as H Q (match o with|some a=>f a|none=>.no)):∃a,o=some a/\ak K as H Q (f a):=by
 cases o with
 |none=>exact h.elim
 |some a=>exact⟨a,rfl,h⟩
theorem jf:∀(xs ys:List Int),bZ xs ys=HT.lexLt xs ys
 |[],[]=>rfl
 |[],_::_=>rfl
 |_::_,[]=>rfl
 |x::xs,y::ys=>by
  show(if x=y then bZ xs ys else decide (x<y))=if x=y then HT.lexLt xs ys else decide (x<y);rw[jf xs ys]
theorem jg (p:List Int×α):∀l:List (List Int×α),(zz p l).Perm (p::l)
 |[]=>.refl _
 |q::r=>by
  show(if bZ p.1 q.1 then p::q::r else q::zz p r).Perm _;split
  .exact .refl _
  .exact ((jg p r).cons q).trans (.swap p q r)
theorem j7:∀l:List (List Int×α),(zA l).Perm l
 |[]=>.refl _
 |p::r=>by rw[yr];exact(jg p _).trans ((j7 r).cons p)
theorem gT{α:Type}:∀{ps:List (List Int×α)},y7 (ps.map Prod.fst)=true->ps.Pairwise (λx y=>HT.lexLt x.1 y.1=true)/\∃n c,∀x∈ps,x.1.length=n/\x.1.head?=c
 |[],_=>⟨.nil,0,none,by simp⟩
 |[p],_=>⟨by simp,p.1.length,p.1.head?,by simp⟩
 |p::q::r,h=>by
  have h':(bZ p.1 q.1&&(decide (p.1.length=q.1.length)&&decide (p.1.head?=q.1.head?))&&y7 ((q::r).map Prod.fst))=true:=h;rw[Qm,Qm,Qm]at h';obtain⟨⟨a1,a2,a4⟩,a3⟩:=h';obtain⟨b1,n,c,b2⟩:=gT a3;rw[jf]at a1;have bq:=b2 q (by simp);refine⟨Wv.mpr ⟨λy hy=>?_,b1⟩,n,c,λx hx=>?_⟩
  .rcases Qn.mp hy with rfl|hy
   .exact a1
   .exact yE _ _ _ a1 ((Wv.mp b1).1 y hy)
  .rcases Qn.mp hx with rfl|hx
   .exact ⟨(Mp a2).trans bq.1,(Mp a4).trans bq.2⟩
   .exact b2 x hx
theorem wD:∀(l:List Int),aa K as H (l.map Wd.int) (l.map V.int)
 |[]=>au.mpr rfl
 |n::l=>aj.mpr ⟨_,_,rfl,ab.mpr rfl,wD l⟩
theorem xL:∀{xs:List Wd}{vs:List V}{k:List Int},aa K as H xs vs->zX xs=some k->vs=k.map V.int
 |[],vs,k,R,h=>by cases h;exact au.mp R
 |x::xs,vs,k,R,h=>by
  obtain⟨v,r,rfl,q,t⟩:=aj.mp R;cases x with
  |int j=>
   have h':(zX xs).map (j::·)=some k:=h;obtain⟨k',hk,rfl⟩:=QJ.mp h';rw[xL t hk,ab.mp q];rfl
  |_=>cases h
theorem qX(S:aK K as m H):∀{zs:List Wd}{vs:List V}{ks:List (List Int)},aa K as H zs vs->kj m zs=some ks ->
  ∃bs:List Addr,vs=bs.map V.ref/\ks.length=bs.length/\∀(i:Nat) b k,bs[i]?=some b->ks[i]?=some k->bE K H b (k.map V.int)
 |[],vs,ks,R,h=>by
  cases h;exact⟨[],au.mp R,rfl,λi b k h1 _=>by simp at h1⟩
 |z::zs,vs,ks,R,h=>by
  obtain⟨v,r,rfl,q,t⟩:=aj.mp R;cases z with
  |ref l=>
   have h':(match zj m l with
    |some xs=>match zX xs,kj m zs with
     |some k,some ks=>some (k::ks)
     |_,_=>none
    |none=>none)=some ks:=h
   cases e1:zj m l with
   |none=>rw[e1]at h';cases h'
   |some xs=>
    rw[e1]at h';cases e2:zX xs with
    |none=>simp only[e2]at h';cases h'
    |some k=>
     cases e3:kj m zs with
     |none=>simp only[e2,e3]at h';cases h'
     |some ks'=>
      simp only[e2,e3]at h';cases h';obtain⟨bs,rfl,hl,hb⟩:=qX S t e3;obtain⟨p,us,rfl,hq,rr⟩:=qW S q (show kz m (.ref l)=some xs from e1);refine⟨p::bs,rfl,by simp[hl],λi b k' h1 h2=>?_⟩;cases i with
      |zero=>
       cases h1;cases h2;rw[<-xL rr e2];exact hq
      |succ i=>exact hb i b k' h1 h2
  |_=>cases h
def FQ (h:iB kk=some k):∃c:Int,k=c::kk.flatten/\2<=c/\kk≠[]/\∀q∈kk,(q.length:Int)+1=c:=by
 cases kk with
 |nil=>cases h
 |cons r rs=>
  replace h:(if r.length≠0/\rs.all (λq=>q.length==r.length)=true then some (((r.length:Int)+1)::(r::rs).flatten)else none)=some k:=h
  by_cases z:r.length≠0/\rs.all (λq=>q.length==r.length)=true
  .rw[Mk z]at h;cases h;refine⟨_,rfl,by lia,by simp,λq hq=>?_⟩;rcases Qn.mp hq with rfl|hq
   .rfl
   .have:=eq_of_beq (QV.mp z.2 q hq);lia
  .rw[Ml z]at h;cases h
def cy (S:aK K as m H)(R:aa K as H xs vs)(hq:bE K H p vs)(h:qF m xs=some k):∃c k',k=c::k'/\dw K H c k'.length p k':=by
 unfold qF at h;cases e:zX xs with
 |some k'=>
  rw[e]at h;cases h;exact⟨0,k',rfl,rfl,.inl ⟨rfl,by rw[<-xL R e];exact hq⟩⟩
 |none=>
  rw[e]at h;obtain⟨kk,h1,h2⟩:=Qy.mp h;obtain⟨c,rfl,hc,_,hl⟩:=FQ h2;obtain⟨rs,rfl,h3,h4⟩:=qX S R h1;exact⟨c,_,rfl,rfl,.inr ⟨rs,kk,hc,rfl,h3.symm,hq,λj r q a b=>⟨hl q (Qp b),h4 j r q a b⟩⟩⟩
theorem qY(S:aK K as m H):∀{zs:List Wd}{vs:List V}{ks:List (List Int)},aa K as H zs vs->wd m zs=some ks ->
  ∃bs:List Addr,vs=bs.map V.ref/\ks.length=bs.length/\∀(i:Nat) b k,bs[i]?=some b->ks[i]?=some k->∃c k',k=c::k'/\dw K H c k'.length b k'
 |[],vs,ks,R,h=>by
  cases h;exact⟨[],au.mp R,rfl,λi b k h1 _=>by simp at h1⟩
 |z::zs,vs,ks,R,h=>by
  obtain⟨v,r,rfl,q,t⟩:=aj.mp R;cases z with
  |ref l=>
   have h':(match zj m l with
    |some xs=>match qF m xs,wd m zs with
     |some k,some ks=>some (k::ks)
     |_,_=>none
    |none=>none)=some ks:=h
   cases e1:zj m l with
   |none=>rw[e1]at h';cases h'
   |some xs=>
    rw[e1]at h';cases e2:qF m xs with
    |none=>simp only[e2]at h';cases h'
    |some k=>
     cases e3:wd m zs with
     |none=>simp only[e2,e3]at h';cases h'
     |some ks'=>
      simp only[e2,e3]at h';cases h';obtain⟨bs,rfl,hl,hb⟩:=qY S t e3;obtain⟨p,us,rfl,hq,rr⟩:=qW S q (show kz m (.ref l)=some xs from e1);refine⟨p::bs,rfl,by simp[hl],λi b k' h1 h2=>?_⟩;cases i with
      |zero=>
       cases h1;cases h2;exact cy S rr hq e2
      |succ i=>exact hb i b k' h1 h2
  |_=>cases h
theorem rM (hz:ah K as H z (.ref b)):∀{ps:List (List Int×Wd)}{qs:List (List Int×Addr)},ps.map Prod.fst=qs.map Prod.fst->aa K as H (ps.map Prod.snd) ((qs.map Prod.snd).map V.ref) ->
  (zz (k,z) ps).map Prod.fst=(zz (k,b) qs).map Prod.fst/\aa K as H ((zz (k,z) ps).map Prod.snd) (((zz (k,b) qs).map Prod.snd).map V.ref)
 |[],[],_,_=>⟨rfl,aj.mpr ⟨_,_,rfl,hz,au.mpr rfl⟩⟩
 |[],_::_,h,_=>by cases h
 |_::_,[],h,_=>by cases h
 |p::ps,q::qs,h,R=>by
  obtain⟨h1,h2⟩:=List.cons.inj (show p.1::ps.map Prod.fst=q.1::qs.map Prod.fst from h);obtain⟨v,r,e,r1,r2⟩:=aj.mp R;have e':V.ref q.2::(qs.map Prod.snd).map V.ref=v::r:=e;cases e';show(if bZ k p.1 then(k,z)::p::ps else p::zz (k,z) ps).map Prod.fst=(if bZ k q.1 then(k,b)::q::qs else q::zz (k,b) qs).map Prod.fst/\aa K as H ((if bZ k p.1 then(k,z)::p::ps else p::zz (k,z) ps).map Prod.snd) (((if bZ k q.1 then(k,b)::q::qs else q::zz (k,b) qs).map Prod.snd).map V.ref);rw[h1];cases bZ k q.1 with
  |true=>exact⟨Mn (k::·) (show p.1::ps.map Prod.fst=q.1::qs.map Prod.fst from h),aj.mpr ⟨_,_,rfl,hz,R⟩⟩
  |false=>
   obtain⟨i1,i2⟩:=rM hz h2 r2;exact⟨by show p.1::(zz (k,z) ps).map Prod.fst=q.1::(zz (k,b) qs).map Prod.fst;rw[h1,i1],aj.mpr ⟨_,_,rfl,r1,i2⟩⟩
theorem qZ:∀{ks:List (List Int)}{zs:List Wd}{bs:List Addr},aa K as H zs (bs.map V.ref) ->
  (zA (ks.zip zs)).map Prod.fst=(zA (ks.zip bs)).map Prod.fst/\aa K as H ((zA (ks.zip zs)).map Prod.snd) (((zA (ks.zip bs)).map Prod.snd).map V.ref)
 |[],_,_,_=>⟨rfl,au.mpr rfl⟩
 |_::_,[],bs,R=>by
  have:=au.mp R;cases bs with
  |nil=>exact⟨rfl,au.mpr rfl⟩
  |cons _ _=>cases this
 |k::ks,z::zs,bs,R=>by
  obtain⟨v,r,e,r1,r2⟩:=aj.mp R;cases bs with
  |nil=>cases e
  |cons b bs=>
   cases e;obtain⟨i1,i2⟩:=qZ (ks:=ks) r2;rw[Wu,Wu,yr,yr];exact rM r1 i1 i2
def BS {ks:List (List Int)}(hl:ks.length=bs.length)(hb:∀(i:Nat) b k,bs[i]?=some b->ks[i]?=some k->∃c k',k=c::k'/\dw K G c k'.length b k')(h:y7 ((zA (ks.zip bs)).map Prod.fst)=true):nQ K G bs ((zA (ks.zip bs)).map Prod.snd):=by
 obtain⟨h1,n,c,h2⟩:=gT h;have hp:=j7 (ks.zip bs);refine⟨ks,c.getD 0,n-1,hl,λi b k e1 e2=>?_,?_,_,hp,rfl,?_⟩
 .obtain ⟨c',k',rfl,q⟩:=hb i b k e1 e2;obtain⟨z1,z2⟩:=h2 (c'::k',b) (hp.mem_iff.mpr (Qp (VW.mpr ⟨e2,e1⟩)));have z1':k'.length+1=n:=z1;have z2':some c'=c:=z2;rw[<-z2',show n-1=k'.length by lia];exact⟨k',rfl,q⟩
 .have e:(zA (ks.zip bs)).map Prod.fst |>.Nodup:=by
   unfold List.Nodup;rw[WV];refine h1.imp λ{a b} c e=>?_;rw[e,yD]at c;cases c
  have:=(hp.map Prod.fst).nodup_iff.mp e
  rwa[List.map_fst_zip (by lia)]at this
 .refine h1.imp λ{a b} c=>?_;cases d:HT.lexLt b.1 a.1 with
  |false=>rfl
  |true=>have:=yE _ _ _ c d;rw[yD]at this;cases this
theorem gW:∀(r:List Int) (a:Int),yY a r<=a/\(∀x∈r,yY a r<=x)/\yY a r∈a::r
 |[],a=>⟨Vd _,by simp,by simp[yY]⟩
 |b::r,a=>by
  obtain⟨h1,h2,h3⟩:=gW r (if b<a then b else a);show yY (if b<a then b else a) r<=a/\(∀x∈b::r,yY (if b<a then b else a) r<=x)/\yY (if b<a then b else a) r∈a::b::r;have hc:(if b<a then b else a)<=a/\(if b<a then b else a)<=b/\((if b<a then b else a)=a\/(if b<a then b else a)=b):=by split<;>lia
  generalize (if b<a then b else a)=c at *
  refine⟨by lia,λx hx=>?_,?_⟩
  .rcases Qn.mp hx with rfl|hx
   .lia
   .exact h2 x hx
  .rcases Qn.mp h3 with h3|h3
   .rw[h3];rcases hc.2.2 with q|q<;>simp[q]
   .exact Qk _ (Qk _ h3)
theorem gX:∀(r:List Int) (a:Int),a<=xo a r/\(∀x∈r,x<=xo a r)/\xo a r∈a::r
 |[],a=>⟨Vd _,by simp,by simp[xo]⟩
 |b::r,a=>by
  obtain⟨h1,h2,h3⟩:=gX r (if b > a then b else a);show a<=xo (if b > a then b else a) r/\(∀x∈b::r,x<=xo (if b > a then b else a) r)/\xo (if b > a then b else a) r∈a::b::r;have hc:a<=(if b > a then b else a)/\b<=(if b > a then b else a)/\((if b > a then b else a)=a\/(if b > a then b else a)=b):=by split<;>lia
  generalize (if b > a then b else a)=c at *
  refine⟨by lia,λx hx=>?_,?_⟩
  .rcases Qn.mp hx with rfl|hx
   .lia
   .exact h2 x hx
  .rcases Qn.mp h3 with h3|h3
   .rw[h3];rcases hc.2.2 with q|q<;>simp[q]
   .exact Qk _ (Qk _ h3)
def getD_mem {k:List Int}(h:i<k.length):k.getD i 0∈k:=by simp[h]
def q8 {k:List Int}(h:x∈k):∃i,i<k.length/\k.getD i 0=x:=by
 obtain⟨i,hi,e⟩:=List.getElem_of_mem h;exact⟨i,hi,by simp[hi,e]⟩
def q9(i:Int)(r:List Int):kn (i::r)=yY i r:=by
 obtain⟨h1,h2,h3⟩:=gW r i;have ha:=vc (λa b=>decide ((i::r).getD a 0<(i::r).getD b 0)) ((i::r).length-1);have hm:kn (i::r)∈i::r:=getD_mem (by have:(i::r).length=r.length+1:=rfl;lia);obtain⟨j,hj,e⟩:=q8 h3;have hb:=je (λa=>(i::r).getD a 0) ((i::r).length-1) j (by lia);rw[e]at hb;have hb':kn (i::r)<=yY i r:=hb;have:yY i r<=kn (i::r):=by
  rcases Qn.mp hm with h|h
  .rw[h];exact h1
  .exact h2 _ h
 lia
def sR(i:Int)(r:List Int):km (i::r)=xo i r:=by
 obtain⟨h1,h2,h3⟩:=gX r i;have ha:=vc (λa b=>decide ((i::r).getD a 0 > (i::r).getD b 0)) ((i::r).length-1);have hm:km (i::r)∈i::r:=getD_mem (by have:(i::r).length=r.length+1:=rfl;lia);obtain⟨j,hj,e⟩:=q8 h3;have hb:=jd (λa=>(i::r).getD a 0) ((i::r).length-1) j (by lia);rw[e]at hb;have hb':xo i r<=km (i::r):=hb;have:km (i::r)<=xo i r:=by
  rcases Qn.mp hm with h|h
  .rw[h];exact h1
  .exact h2 _ h
 lia
def rL{o:Option (List Int)}{f:Int->List Int->Rz}(h:ak K as H Q (match o with|some (i::r)=>f i r|_=>.no)):∃i r,o=some (i::r)/\ak K as H Q (f i r):=by
 cases o with
 |none=>exact h.elim
 |some a=>
  cases a with
  |nil=>exact h.elim
  |cons i r=>exact⟨i,r,rfl,h⟩
set_option tactic.hygienic true in
def E7 (hu:X.A.units+64<Ku)(hc:X.calm=true)(hb:lf b=some (nm,f)):bx X f (tL X.K b):=by
 intro pins s σ H xs us Q I r h;obtain⟨as,m,ws,S,R,q⟩:=h;cases b with
 |len=>
  cases hb;refine gF pins s σ H xs us Q I r ?_;rcases ws with _|⟨x,_|⟨_,_⟩⟩
  .exact q.elim
  .obtain ⟨ys,hs,q⟩:=vE (o:=yq m x) (f:=λys=>.ok (.int ys.length) m) q;obtain⟨v,rfl,q1⟩:=yZ R;obtain⟨p,vs,rfl,hq,rr⟩:=w6 S q1 hs;refine⟨p,vs,rfl,hq,?_⟩;rw[<-rr.length];exact q.ok S (ab.mpr rfl)
  .exact q.elim
 |int=>
  cases hb;refine Ft pins s σ H xs us Q I r ?_;cases ws with
  |nil=>exact q.elim
  |cons x ws=>
   cases x with
   |int i=>
    cases ws with
    |nil=>
     obtain⟨v,rfl,q1⟩:=yZ R;obtain rfl:=ab.mp q1;exact .inl ⟨i,rfl,q.ok S (ab.mpr rfl)⟩
    |cons _ _=>exact q.elim
   |bl i=>
    cases ws with
    |nil=>
     obtain⟨v,rfl,q1⟩:=yZ R;obtain rfl:=ai.mp q1;exact .inr ⟨i,rfl,q.ok S (ab.mpr rfl)⟩
    |cons _ _=>exact q.elim
   |_=>exact q.elim
 |list=>
  cases hb;refine gG pins s σ H xs us Q I r ?_;rcases ws with _|⟨x,_|⟨_,_⟩⟩
  .exact q.elim
  .obtain ⟨ys,hs,q⟩:=vE (o:=yq m x) (f:=λys=>alloc m ys) q;obtain⟨v,rfl,q1⟩:=yZ R;obtain⟨p,vs,rfl,hq,rr⟩:=w6 S q1 hs;exact⟨p,vs,rfl,hq,(xt S rr q).2⟩
  .exact q.elim
 |tuple=>
  cases hb;refine jJ pins s σ H xs us Q I r ?_;rcases ws with _|⟨x,_|⟨_,_⟩⟩
  .exact q.elim
  .obtain ⟨ys,hs,q⟩:=vE (o:=yq m x) (f:=λys=>.ok (.tup ys) m) q;obtain⟨v,rfl,q1⟩:=yZ R;obtain⟨p,vs,rfl,hq,rr⟩:=w6 S q1 hs;refine⟨p,vs,rfl,?_⟩;rcases hq with hq|hq
   .refine .inl ⟨hq,λl hl=>?_⟩;obtain⟨T,S',R'⟩:=S.tup hl rr;exact q _ _ _ T S' R'
   .exact .inr ⟨hq,q.ok S (af.mpr ⟨p,vs,rfl,hq,rr⟩)⟩
  .exact q.elim
 |sorted=>
  cases hb;refine qQ hu pins s σ H xs us Q I r ?_;rcases ws with _|⟨x,_|⟨_,_⟩⟩
  .exact q.elim
  .cases x with
   |ref l=>
    obtain⟨zs,hs,q⟩:=vE (o:=zj m l) (f:=λzs=>match (wd m zs).bind λks=>yS Wd ks zs with
     |some ys=>alloc m ys
     |none=>.no) q
    obtain⟨ys,ht,q⟩:=vE (o:=(wd m zs).bind λks=>yS Wd ks zs) (f:=λys=>alloc m ys) q;obtain⟨ks,hk,ht⟩:=Qy.mp ht;obtain⟨v,rfl,q1⟩:=yZ R;obtain⟨p,vs,rfl,hq,rr⟩:=qW S q1 (show kz m (.ref l)=some zs from hs);obtain⟨bs,rfl,hl,hb⟩:=qY S rr hk;obtain⟨e1,e2⟩:=qZ (ks:=ks) rr;rw[wf]at ht;have ht':(if y7 ((zA (ks.zip zs)).map Prod.fst)then some ((zA (ks.zip zs)).map Prod.snd)else none)=some ys:=ht;rw[e1]at ht';cases z:y7 ((zA (ks.zip bs)).map Prod.fst)with
    |false=>rw[z]at ht';cases ht'
    |true=>
     rw[z]at ht';cases ht';exact⟨p,bs,_,rfl,hq,BS hl hb z,(xt S e2 q).2⟩
   |_=>exact q.elim
  .cases x<;>exact q.elim
 |sortI=>
  cases hb;refine Gb pins s σ H xs us Q I r ?_;rcases ws with _|⟨x,_|⟨_,_⟩⟩
  .exact q.elim
  .replace q:ak X.K as H Q (match (kz m x).bind zX with
    |some k=>if k.length<64 then alloc m ((fA k).map Wd.int)else .no
    |none=>.no):=q
   cases hs:(kz m x).bind zX with
   |none=>rw[hs]at q;exact q.elim
   |some k=>
    rw[hs]at q;by_cases h64:k.length<64
    .replace q:ak X.K as H Q (if k.length<64 then alloc m ((fA k).map Wd.int)else .no):=q
     rw[Mk h64]at q;obtain⟨ys,h1,h2⟩:=Qy.mp hs;obtain⟨v,rfl,q1⟩:=yZ R;obtain⟨p,vs,rfl,hq,rr⟩:=qW S q1 h1;obtain rfl:=xL rr h2;exact⟨p,k,rfl,hq,h64,(xt S (wD _) q).2⟩
    .replace q:ak X.K as H Q (if k.length<64 then alloc m ((fA k).map Wd.int)else .no):=q
     rw[Ml h64]at q;exact q.elim
  .exact q.elim
 |minS=>
  cases hb;rcases ws with _|⟨x,_|⟨_,_⟩⟩
  .exact q.elim
  .obtain ⟨i,k,hs,q⟩:=rL (o:=(yq m x).bind zX) (f:=λi r=>.ok (.int (yY i r)) m) q;obtain⟨ys,h1,h2⟩:=Qy.mp hs;obtain⟨v,rfl,q1⟩:=yZ R;obtain⟨p,vs,rfl,hq,rr⟩:=w6 S q1 h1;obtain rfl:=xL rr h2;rcases hq with hq|hq
   .exact qS hc pins s σ H _ us Q I r ⟨p,i::k,rfl,hq,by simp,by rw[q9];exact q.ok S (ab.mpr rfl)⟩
   .exact FR hc pins s σ H _ us Q I r ⟨p,i::k,rfl,hq,by simp,by rw[q9];exact q.ok S (ab.mpr rfl)⟩
  .exact q.elim
 |maxS=>
  cases hb;rcases ws with _|⟨x,_|⟨_,_⟩⟩
  .exact q.elim
  .obtain ⟨i,k,hs,q⟩:=rL (o:=(yq m x).bind zX) (f:=λi r=>.ok (.int (xo i r)) m) q;obtain⟨ys,h1,h2⟩:=Qy.mp hs;obtain⟨v,rfl,q1⟩:=yZ R;obtain⟨p,vs,rfl,hq,rr⟩:=w6 S q1 h1;obtain rfl:=xL rr h2;rcases hq with hq|hq
   .exact qR hc pins s σ H _ us Q I r ⟨p,i::k,rfl,hq,by simp,by rw[sR];exact q.ok S (ab.mpr rfl)⟩
   .exact FS hc pins s σ H _ us Q I r ⟨p,i::k,rfl,hq,by simp,by rw[sR];exact q.ok S (ab.mpr rfl)⟩
  .exact q.elim
 |sum=>
  cases hb;refine qE hc pins s σ H xs us Q I r ?_;rcases ws with _|⟨x,_|⟨_,_⟩⟩
  .exact q.elim
  .obtain ⟨i,hs,q⟩:=C0 (o:=(kz m x).bind jK) (f:=λi=>.ok (.int i) m) q;obtain⟨ys,h1,h2⟩:=Qy.mp hs;obtain⟨v,rfl,q1⟩:=yZ R;obtain⟨p,vs,rfl,hq,rr⟩:=qW S q1 h1;obtain⟨ns,rfl,rfl⟩:=gS rr h2;exact⟨p,ns,rfl,hq,q.ok S (ab.mpr rfl)⟩
  .exact q.elim
set_option tactic.hygienic true in
def BR (S:aK K as m H)(R:ah K as H x v)(R':ah K as H y u)(h:ak K as H Q (kA x y m)):tK K v u H Q:=by
 unfold kA at h;split at h
 .rename_i i;obtain rfl:=ab.mp R';split at h
  .rename_i xs hs;split at h
   .rename_i w hw;obtain⟨p,vs,rfl,hq,rr⟩:=w6 S R hs;have e:∃z,fc vs i=some z/\ah K as H w z:=by
     obtain⟨j,hj,hx⟩:=Qy.mp hw;obtain⟨z,hz,rz⟩:=rr.get hx;refine⟨z,?_,rz⟩;unfold fc;have hj':hG vs.length i=some j:=by rw[<-rr.length];exact hj
     rw[hj'];exact hz
    obtain⟨z,hz,rz⟩:=e;rcases hq with hq|hq
    .exact .inl ⟨p,vs,i,z,rfl,rfl,hq,hz,h.ok S rz⟩
    .exact .inr (.inl ⟨p,vs,i,z,rfl,rfl,hq,hz,h.ok S rz⟩)
   .exact h.elim
  .exact h.elim
 .exact h.elim
noncomputable def fE:dM->Str×String
 |.append=>("append","list.append") |.pop=>("pop","list.pop") |.reverse=>("reverse","list.reverse") |.clear=>("clear","list.clear") 
def GD(K:Qb)(n:dM):V->List V->Hp->VK->Prop:=λv vs H Q=>∃as m w ws,aK K as m H/\ah K as H w v/\aa K as H ws vs/\ak K as H Q (du n w ws m)
set_option tactic.hygienic true in
def BQ(n:dM):fh X (fE n).2 (GD X.K n):=by
 intro pins s σ H v vs u us Q I r rs h;obtain⟨as,m,w,ws,S,R,Rs,q⟩:=h;unfold du at q;split at q
 .rename_i l;split at q
  .rename_i xs hl;obtain⟨a,ha,rfl⟩:=aG.mp R;obtain⟨b,zs,hb,e,rr⟩:=ya S hl;rw[ha]at hb;cases hb;have hz:zs.length<=sizeLine:=(I.lstM e).1;split at q
   .rename_i y;split at q
    .rename_i hlt;obtain⟨z,rfl,rz⟩:=yZ Rs;obtain⟨T,S'⟩:=S.set ha hl (rr.append (.one rz));exact jT pins s σ H _ _ u us Q I r rs ⟨a,zs,z,rfl,rfl,e,by rw[<-rr.length];exact Ql hlt yT,q _ _ _ T S' (az.mpr rfl)⟩
    .exact q.elim
   .split at q
    .rename_i y hy;obtain rfl:=au.mp Rs;obtain⟨z,hz',rz⟩:=rr.get hy;obtain⟨T,S'⟩:=S.set ha hl rr.dropLast;exact B7 pins s σ H _ _ u us Q I r rs ⟨a,zs,z,rfl,rfl,e,by rw[<-rr.length];exact hz',q _ _ _ T S' (rz.mono S T)⟩
    .exact q.elim
   .obtain rfl:=au.mp Rs;obtain⟨T,S'⟩:=S.set ha hl rr.reverse;exact Gp pins s σ H _ _ u us Q I r rs ⟨a,zs,rfl,rfl,e,q _ _ _ T S' (az.mpr rfl)⟩
   .exact q.elim
  .exact q.elim
 .exact q.elim
noncomputable def cU:Tg->String
 |.int=> "int" |.bool=> "bool" |.list=> "list" |.tuple=> "tuple" |.str=> "str" |.dict=> "dict"
def CZ(K:Qb)(t:Tg):
  Wx K (.type "NoneType") (.type (cU t))=some false/\Wx K (.type "bool") (.type (cU t))=some (decide (t=.bool\/t=.int))/\Wx K (.type "int") (.type (cU t))=some (decide (t=.int)) /\
  Wx K (.type "str") (.type (cU t))=some (decide (t=.str))/\Wx K (.type "list") (.type (cU t))=some (decide (t=.list))/\Wx K (.type "tuple") (.type (cU t))=some (decide (t=.tuple))/\Wx K (.type "dict") (.type (cU t))=some (decide (t=.dict)):=by
 cases t<;>refine⟨?_,?_,?_,?_,?_,?_,?_⟩<;>kernel_rfl
def lY(K:Qb)(t:Tg):List V->Hp->VK->Prop:=λvs H Q=>∃as m w v,vs=[v,.ty (cU t)]/\aK K as m H/\ah K as H w v/\ak K as H Q (dC (cN t w m) m)
def BP(m:Me)(t:Tg):cN t .non m=some false/\(∀c,cN t (.bl c) m=some (decide (t=.bool\/t=.int)))/\(∀i,cN t (.int i) m=some (decide (t=.int)))/\(∀x,cN t (.str x) m=some (decide (t=.str)))/\(∀ys,cN t (.tup ys) m=some (decide (t=.tuple)))/\(∀ys,cN t (.rol ys) m=some (decide (t=.list)))/\∀l ys,m[l]?=some (.lst ys)->cN t (.ref l) m=some (decide (t=.list)):=by
 refine⟨?_,λc=>?_,λi=>?_,λx=>?_,λys=>?_,λys=>?_,λl ys h=>?_⟩
 rotate_right
 .have e:cN t (.ref l) m=(match m[l]? with|some (.lst _)=>some (decide (t=.list))|some (.dct _ _)=>some (decide (t=.dict))|none=>none):=by cases t<;>rfl
  rw[e,h]
 all_goals cases t<;>rfl
def CY (m:Me)(t:Tg)(h:m[l]?=some (.dct ks ws)):cN t (.ref l) m=some (decide (t=.dict)):=by
 have e:cN t (.ref l) m=(match m[l]? with|some (.lst _)=>some (decide (t=.list))|some (.dct _ _)=>some (decide (t=.dict))|none=>none):=by cases t<;>rfl
 rw[e,h]
def E6(t:Tg):bx X (.builtin "isinstance") (lY X.K t):=by
 intro pins s σ H xs us Q I r h;obtain⟨as,m,w,v,rfl,S,R,q⟩:=h;obtain⟨b,hb,q⟩:=kW S q;obtain⟨u,u',rfl,ru,ru'⟩:=Bc r;obtain rfl:u'=.type (cU t):=ru';obtain⟨k1,k2,k3,k4,k5,k6,k7⟩:=CZ X.K t;obtain⟨z1,z2,z3,z4,z5,z6,z7⟩:=BP m t;have fin:∀tk,EP X pins σ Q (.bool b) {s with toks:=tk}:=λtk=>⟨.bl b,H,I.tok tk,rfl,q⟩;cases w with
 |non=>
  obtain rfl:=az.mp R;have e:b=false:=Option.some.inj (hb.symm.trans z1);subst e;exact xI I ru .non k1 fin
 |bl c=>
  obtain rfl:=ai.mp R;have e:b=decide (t=.bool\/t=.int):=Option.some.inj (hb.symm.trans (z2 _));subst e;exact xI I ru (.bl c) k2 fin
 |int i=>
  obtain rfl:=ab.mp R;have e:b=decide (t=.int):=Option.some.inj (hb.symm.trans (z3 _));subst e;exact xI I ru (.int i) k3 fin
 |str x=>
  obtain rfl:=aD.mp R;have e:b=decide (t=.str):=Option.some.inj (hb.symm.trans (z4 _));subst e;exact xI I ru (.str _) k4 fin
 |tup ys=>
  obtain⟨a,vs,rfl,hq,rr⟩:=af.mp R;have e:b=decide (t=.tuple):=Option.some.inj (hb.symm.trans (z5 _));subst e;obtain rfl:u=.ref a:=ru;obtain⟨its,_,⟨o,h1,h2,_⟩,_⟩:=I.tuple hq;exact Q4 PySem.W.kitx_tuple I.kIn ⟨o,h1,h2⟩ k6 (λz=>nomatch z) fin
 |rol ys=>
  obtain⟨a,vs,rfl,hq,rr⟩:=bm.mp R;have e:b=decide (t=.list):=Option.some.inj (hb.symm.trans (z6 _));subst e;obtain rfl:u=.ref a:=ru;obtain⟨its,_,p,_⟩:=I.list hq.sq;obtain⟨o,n,h1,h2,_⟩:=p;exact Q4 VC I.kIn ⟨o,h1,h2⟩ k5 (λz=>nomatch z) fin
 |ref l=>
  obtain⟨a,ha,rfl⟩:=aG.mp R;have hlm:l<m.length:=by rw[<-S.len];exact(Qa.mp ha).1
  have hg:m[l]?=some m[l]:=by simp[hlm]
  cases ho:m[l]with
  |lst ys=>
   rw[ho]at hg;obtain⟨a',us,ha',e2,_⟩:=ya S hg;rw[ha]at ha';cases ha';have e:b=decide (t=.list):=Option.some.inj (hb.symm.trans (z7 _ _ hg));subst e;exact xI I ru (.lst e2) k5 fin
  |dct ks us=>
   rw[ho]at hg;obtain⟨a',ha',xs,vs,td,_⟩:=S.get hg;rw[ha]at ha';cases ha';have e:b=decide (t=.dict):=Option.some.inj (hb.symm.trans (CY m t hg));subst e;obtain rfl:u=.ref a:=ru;exact Q4 VD I.kIn (xn I td).2.typeIs k7 (λz=>nomatch z) fin
end
structure eI(J:It)(vs:List V)(ok:Hp->Prop):Prop where
 go:∀i H,ok H->i<vs.length->J.go i H
 yld:∀i H x H',ok H->i<vs.length->J.yld i H x H'->H'=H/\vs[i]?=some x
 stop:∀i H,ok H->vs.length<=i->J.stop i H
def iy(K:Qb)(as:List Addr)(H:Hp)(J:It)(xs:List Wd):Prop:=
 ∃vs ok,eI J vs ok/\ok H/\aa K as H xs vs/\∀H1 H2,Kp K H1 H2->ok H1->ok H2
def nP(K:Qb)(as:List Addr)(H:Hp)(w:Wd)(J:It):Prop:=match w with
 |.tup xs=>iy K as H J xs
 |.rol xs=>iy K as H J xs
 |.ref l=>∃a,as[l]?=some a/\J=ny K a
 |_=>True
def bR(K:Qb)(as:List Addr)(H:Hp)(R:It->Hp->Prop)(r:Rz):Prop:=match r with
 |.ok w m'=>(yq m' w).isSome=true/\∀as' H' J,Step as H as' H'->aK K as' m' H'->nP K as' H' w J->R J H'
 |_=>False
def eZ(K:Qb)(g:En->Me->Rz):TI:=λσ H R=>∃as env m,aK K as m H/\aF K as H env σ/\bR K as H R (g env m)
def PI.or{X:Cx}{tg e:Expr}{a b:TI}(h1:PI X tg e a)(h2:PI X tg e b):PI X tg e (λσ H R=>a σ H R\/b σ H R):=λpins s σ H R I h=>by
 rcases h with h|h
 .exact h1 pins s σ H R I h
 .exact h2 pins s σ H R I h
def PI.imp{X:Cx}{tg e:Expr}{a b:TI}(h:PI X tg e a)(k:∀σ H R,b σ H R->a σ H R):PI X tg e b:=λpins s σ H R I q=>h pins s σ H R I (k σ H R q)
def ko (h:PE X x (aM X.K g)):PI X tg x (eZ X.K g):=by
 refine PI.imp (PI.or (ED h) (By h)) λσ H R q=>?_;obtain⟨as,env,m,S,G,P⟩:=q;cases hr:g env m with
 |no=>rw[hr]at P;exact P.elim
 |exc c w m'=>rw[hr]at P;exact P.elim
 |ok w m'=>
  rw[hr]at P;obtain⟨hs,P⟩:=P;obtain⟨xs,hs⟩:=WO.mp hs;cases w with
  |tup ys=>
   refine .inr ⟨as,env,m,S,G,?_⟩;rw[hr];intro as' H' v T S' R';obtain⟨a,vs,rfl,hq,rr⟩:=af.mp R';refine⟨a,rfl,⟨vs,hq⟩,P as' H' _ T S' ⟨vs,λH=>bI X.K H a vs,⟨λi H h hi=>⟨vs,vs[i],h,by simp[hi]⟩,λi H x H' h hi q=>⟨q.1,q.2 vs h⟩,λi H h hi=>⟨vs,h,hi⟩⟩,hq,rr,λH1 H2 k h=>k.t _ _ h⟩⟩
  |rol ys=>
   refine .inl ⟨as,env,m,S,G,?_⟩;rw[hr];intro as' H' v T S' R';obtain⟨a,vs,rfl,hq,rr⟩:=bm.mp R';refine⟨a,rfl,⟨vs,hq.sq⟩,P as' H' _ T S' ⟨vs,λH=>ef X.K H a vs,⟨λi H h hi=>⟨vs,vs[i],h.sq,by simp[hi]⟩,λi H x H' h hi q=>⟨q.1,q.2 vs h.sq⟩,λi H h hi=>⟨vs,h.sq,hi⟩⟩,hq,rr,λH1 H2 k h=>k.f _ _ h⟩⟩
  |ref l=>
   refine .inl ⟨as,env,m,S,G,?_⟩;rw[hr];intro as' H' v T S' R';obtain⟨a,ha,rfl⟩:=aG.mp R';obtain⟨a',us,ha',e,_⟩:=ya S' (zR hs);rw[ha]at ha';cases ha';exact⟨a,rfl,⟨us,bE.of e⟩,P as' H' _ T S' ⟨a,ha,rfl⟩⟩
  |non=>cases hs
  |bl b=>cases hs
  |int i=>cases hs
  |str x=>cases hs
theorem jh {K:Qb}(st:Int):∀(n:Nat) (lo:Int),aa K as H (eP lo st n) ((QU n).map λ(i:Nat)=>V.int (lo+st*(i:Int)))
 |0,lo=>au.mpr rfl
 |n+1,lo=>by
  rw[Vk,QM,WM];refine aj.mpr ⟨_,_,rfl,ab.mpr (by simp),?_⟩;have e:((λ(i:Nat)=>V.int (lo+st*(i:Int))) ∘ Nat.succ)=λ(i:Nat)=>V.int (lo+st+st*(i:Int)):=by
   funext i;show V.int (lo+st*((i.succ:Nat):Int))=_;congr 1;rw[Nat.succ_eq_add_one,Int.natCast_add,Int.mul_add];lia
  rw[e];exact jh st n (lo+st)
def FP{K:Qb}(lo:Int)(n:Nat):eI (fI lo n) ((QU n).map λ(i:Nat)=>V.int (lo+1*(i:Int))) (λ_=>True):=by
 refine⟨λi H _ hi=>?_,λi H x H' _ hi q=>?_,λi H _ hi=>?_⟩
 .show i<n;simpa using hi
 .obtain ⟨e,rfl⟩:=q;refine⟨e,?_⟩;have hi':i<n:=by simpa using hi
  rw[Qs,List.getElem?_range hi'];simp
 .show n<=i;simpa using hi
end Mini
namespace L2
open PySem PySem.Spec PyProof.Rows
def pX:List (TE×TE)->St->Hp->(List (V×V)->Hp->Prop)->Prop
 |[],_,H,Q=>Q [] H
 |(tk,tv)::r,σ,H,Q=>tk σ H λx H1=>tv σ H1 λy H2=>pX r σ H2 λps H3=>Q ((x,y)::ps) H3
abbrev VV:List (V×V)->List (Value×Value)->Prop:=JO λp q=>RelV p.1 q.1/\RelV p.2 q.2
def nv(X:Cx)(pos:Pos)(keys:List (Option Expr))(values:List Expr)(trs:List (TE×TE)):Prop:=
 ∀(pins:List (Addr×Obj)) (s:Shared) (σ:St) (H:Hp) (Q:List (V×V)->Hp->Prop),Inv X pins σ H s->pX trs σ H Q ->
  JY (JZ X.prog X.w) X.A (evalPairs (pairTrees keys values X.env pos)) (λvs s'=>∃ps H',Inv X pins σ H' s'/\VV ps vs/\Q ps H') X.xe s
def CW:nv X pos [] [] []:=λpins s σ H Q I h=>pairTrees_nil_walk ⟨[],H,I,.nil,h⟩
def E5 (hk:PE X k tk)(hv:PE X v tv)(hr:nv X pos ks vs trs):
  nv X pos (some k::ks) (v::vs) ((tk,tv)::trs):=λpins s σ H Q I h=>
 pairTrees_cons_walk (ba (hk pins s σ H _ I h) λu s1 ⟨x,H1,I1,rx,q1⟩=>ba (hv pins s1 σ H1 _ I1 q1) λw2 s2 ⟨y,H2,I2,ry,q2⟩=>
  ba (hr pins s2 σ H2 _ I2 q2) λws s3 ⟨ps,H3,I3,rel,q3⟩=>⟨(x,y)::ps,H3,I3,.cons ⟨rx,ry⟩ rel,q3⟩)
def nu(K:Qb)(b:Addr)(xs:List V):Prop:=
 ∃(o:Obj) (its:Array Value) (n:Nat),K.lookup b=some o/\o.cls=.type "tuple" /\ o.data=.seq its n/\its.size<=sizeLine/\av xs its.toList
abbrev iU:=List (List Nat×Int×Int)
def u6(K:Qb)(w:JN):List DictEntry->iU->Prop
 |[],q=>q=[]
 |e::es,q=>∃k x y r t b,q=(k,x,y)::r/\e.key=.str ⟨k.toArray⟩ t/\e.hash=hashStr w ⟨k.toArray⟩/\e.val=.ref b/\nu K b [.int x,.int y]/\u6 K w es r
def nE(K:Qb)(w:JN)(a:Addr)(q:iU):Prop:=
 (a==JQ)=false/\∃o es ep,K.lookup a=some o/\o.ExactDict/\o.data=.dict es ep/\u6 K w es.toList q
end L2
namespace Mini
open PySem PySem.Spec PyProof.Rows L2
set_option genInjectivity false in
structure Ctx where
 fns:List Str
 cons:List (Str×Int)
 dcs:List (Str×iU)
set_option genInjectivity false in
inductive Nd where
 |e (x:Expr)|a (xs:List Expr)
def dq(sc:JK)(x:Str):Bool:=decide (sc.names.lookup x=some .globalImplicit)
noncomputable def im(sc:JK)(x:Str):Bool:=decide (sc.names.lookup x=some .local) || (decide (sc.names.lookup x=some .cell) || decide (sc.names.lookup x=some .free))
noncomputable def y6(x:Str):Bool:=!(x==("__debug__":Str)) && !(x==("__classdict__":Str)) && !(x==("__name__":Str))
def zn:Expr->Bool
 |.Starred _ _=>false
 |_=>true
def ym:Expr->Bool
 |.Set _ _ _=>false
 |_=>true
def yU:Expr->Bool
 |.Slice _ _ _ _=>false
 |_=>true
def xW:Expr->Bool
 |.Call _ _ _ _=>false
 |_=>true
def zi:Ex->Bool
 |.rng _ _ _=>true
 |_=>false
def ji:Ex->Bool
 |.ife _ _ _=>true
 |_=>false
noncomputable def xM(scope sc:JK):JK:=
 {scope with names:=scope.names.map λ(n,k)=>if(k == .free&&sc.kind == .function&&sc.names.lookup n==some .cell)then(n,.cell)else(n,k)}
noncomputable def cg(sc:JK)(N:List Str)(scope:JK)(xs:List Str):Bool:=
 decide (scope.kind=.function)&&(xs.all (λx=>decide (scope.names.lookup x=some .local) || decide (scope.names.lookup x=some .cell)) &&
 (scope.names.all (λy=>!(decide (y.2=.local)) || decide (scope.names.lookup y.1=some .local)) &&
 (scope.names.all (λy=>!(decide (y.2=.free)) || (decide (sc.names.lookup y.1=some .cell) || decide (sc.names.lookup y.1=some .free))) &&
 (scope.names.all (λy=>!(decide (y.2=.cell)) || !(decide (scope.names.lookup y.1=some .free))) &&
 (N.all (λy=>decide (y∈xs) || (!(decide (scope.names.lookup y=some .local)) && !(decide (scope.names.lookup y=some .cell)))) &&
 (decide (yR N xs).Nodup&&xs.all (λx=>decide (scope.names.lookup (iP x)=none))))))))
def xl (h:cg X.env.scope X.N scope xs=true):bL X scope xs:=by
 unfold cg at h;simp only[Qm,WS,Mq,QV,Vb,decide_eq_false_iff_not]at h;obtain⟨h1,h2,h3,h4,h5,h6,h7,h8⟩:=h;refine⟨h1,h2,λy hy e=>?_,λy hy e=>?_,λy hy e=>?_,λy hy e=>?_,h7,h8⟩
 .rcases h3 y hy with z|z
  .exact Mm e z
  .exact z
 .rcases h4 y hy with z|z
  .exact Mm e z
  .exact z
 .rcases h6 y hy with z|z
  .exact Mm z e
  .exact z
 .rcases h5 y hy with z|z
  .exact Mm e z
  .exact z
def gY(K:Qb)(g:List Wd->Me->Rz):Sp:=λvs H Q _=>∃as m ws,aK K as m H/\aa K as H ws vs/\ak K as H Q (g ws m)
noncomputable def zp:List Str:=["len","int","bool","list","tuple","abs","max","min","isinstance","range","str","dict","sum","all","zip","enumerate","sorted"]
def fT(K:Qb)(w:JN)(mg:Str->Option Value)(C:Ctx):Prop:=(∀(nm:Str) (i:Int),C.cons.lookup nm=some i->∃t,mg nm=some (.int i t))/\∀(nm:Str) (q:iU),C.dcs.lookup nm=some q->∃a,mg nm=some (.ref a)/\nE K w a q
structure bS(C:Ctx)(X:Cx)(cl:Nat->List Wd->Me->Rz)(d:Nat):Prop where
 room:cb d X.A
 calm:X.calm=true
 fn:∀(k:Nat) (nm:Str),C.fns[k]?=some nm->∃f fd ps,X.mg nm=some (.ref f)/\WT X.K (.ref f)=true/\Binds X.K fd ps []/\cL X.prog X.w X.K X.mg X.base dQ d f fd ps (gY X.K (cl k))
 con:fT X.K X.w X.mg C
 blt:∀nm∈zp,X.mg nm=none
def bS.comp{C:Ctx}{X Xc:Cx}{cl:Nat->List Wd->Me->Rz}{d:Nat}{scope:JK}{x:List Str}(h:bS C X cl d)(c:bH X scope x Xc):bS C Xc cl d:=by
 refine⟨by rw[c.A];exact h.room,c.calm,λk nm e=>?_,?_,λnm e=>?_⟩
 .obtain ⟨f,fd,ps,h1,h2,h3,h4⟩:=h.fn k nm e;exact⟨f,fd,ps,by rw[c.mg];exact h1,by rw[c.K];exact h2,by rw[c.K];exact h3,by rw[c.prog,c.w,c.K,c.mg,c.base];exact h4⟩
 .rw[c.mg,c.K,c.w];exact h.con
 .rw[c.mg];exact h.blt nm e
def ck(K:Qb)(as:List Addr)(H:Hp)(Q:List V->Hp->Prop)(r:Rz):Prop:=match r with
 |.ok w m'=>∀as' H' vs,Step as H as' H'->aK K as' m' H'->aa K as' H' (zy w) vs->Q vs H'
 |_=>False
def jj(K:Qb)(g:En->Me->Rz):TA:=λσ H Q=>∃as env m,aK K as m H/\aF K as H env σ/\ck K as H Q (g env m)
theorem ck.bind{K:Qb}{as:List Addr}{H:Hp}{Q:VK}{Q1:List V->Hp->Prop}{r:Rz}{f:Wd->Me->Rz}(h:ak K as H Q (r.bind f))
  (k:∀w m' as' H' vs,Step as H as' H'->aK K as' m' H'->aa K as' H' (zy w) vs->ak K as' H' Q (f w m')->Q1 vs H'):ck K as H Q1 r:=by
 cases r with
 |ok w m'=>exact λas2 H2 v U S R=>k w m' as2 H2 v U S R (ak.step (r:=f w m') h U)
 |exc c w m'=>exact h
 |no=>exact h
def bW(cl:Nat->List Wd->Me->Rz)(X:Cx)(e:Ex):Nd->Prop
 |.e x=>(zi e=false->PE X x (aM X.K (ag cl e))/\(ji e=false->PT X x (xz X.K (ag cl e)))/\(∀op vs pos,x=.BoolOp op vs pos->PW X x (xz X.K (ag cl e))))/\∀tg,PI X tg x (eZ X.K (ag cl e))
 |.a xs=>PA X xs (jj X.K (ag cl e))
def bW.of{cl:Nat->List Wd->Me->Rz}{X:Cx}{e:Ex}{x:Expr}(h:PE X x (aM X.K (ag cl e)))(ht:∀whole,isTrue x X.env whole=(do let v <-whole;standAt x.pos;holding [v] (truthy v)):=by intro _;rfl)
  (hb:∀op vs pos,x≠.BoolOp op vs pos:=by intros;intro z;cases z):bW cl X e (.e x):=
 ⟨λ_=>⟨h,λ_=>CS h ht,λop vs pos z=>Mm z (hb op vs pos)⟩,λtg=>ko h⟩
def zf (h:zn e=true):J1 (e::es) env=(false,eval e env)::J1 es env:=by
 cases e<;>first|rfl|cases h
theorem zV:∀{es:List Expr},es.all zn=true->(J0 pos (J1 es env)).any (·.1)=false
 |[],_=>rfl
 |e::es,h=>by
  rw[W1,Qm]at h;rw[zf h.1];show(false || (J0 pos (J1 es env)).any (·.1))=false;rw[zV h.2];rfl
section
variable{cl:Nat->List Wd->Me->Rz}{X:Cx}{a b c:Ex}{x y:Expr}{pos:Pos}
def BO (ha:PE X x (aM X.K (ag cl a)))(hb:PE X y (aM X.K (ag cl b))):PE X (.BinOp x (fD op) y pos) (aM X.K (ag cl (.bin op a b))):=by
 refine PE.imp (AQ (Af op) ha hb) λσ H Q h=>?_;obtain⟨as,env,m,S,G,P⟩:=h;refine⟨as,env,m,S,G,ak.bind P λx m1 as1 H1 v T1 S1 R1 P1=>?_⟩;refine⟨as1,env,m1,S1,G.mono S T1,ak.bind P1 λy m2 as2 H2 u T2 S2 R2 P2=>?_⟩;exact B4 S2 (R1.mono S1 T2) R2 P2
def BN(ha:PE X x (aM X.K (ag cl a))):PE X (.UnaryOp .USub x pos) (aM X.K (ag cl (.neg a))):=by
 refine PE.imp (Bh Bs ha) λσ H Q h=>?_;obtain⟨as,env,m,S,G,P⟩:=h;refine⟨as,env,m,S,G,ak.bind P λx m1 as1 H1 v T1 S1 R1 P1=>?_⟩;cases x with
 |int i=>
  obtain rfl:=ab.mp R1;exact⟨i,rfl,P1.ok S1 (ab.mpr rfl)⟩
 |_=>exact P1.elim
def pW(ha:PE X x (aM X.K (ag cl a))):PE X (.UnaryOp .Not x pos) (aM X.K (ag cl (.not a))):=by
 refine PE.imp (CM ha) λσ H Q h=>?_;obtain⟨as,env,m,S,G,P⟩:=h;refine⟨as,env,m,S,G,ak.bind P λx m1 as1 H1 v T1 S1 R1 P1=>?_⟩;cases x with
 |bl k=>
  obtain rfl:=ai.mp R1;exact⟨k,rfl,P1.ok S1 (ai.mpr rfl)⟩
 |_=>exact P1.elim
def BM(ha:PT X x (xz X.K (ag cl a))):PT X (.UnaryOp .Not x pos) (xz X.K (ag cl (.not a))):=by
 refine PT.imp (CO ha) λσ H Q h=>?_;obtain⟨as,env,m,S,G,P⟩:=h;refine⟨as,env,m,S,G,ak.bind P λx m1 as1 H1 v T1 S1 R1 P1=>?_⟩;cases x with
 |bl k=>
  obtain rfl:=ai.mp R1;obtain⟨b,e,q⟩:=P1.ok S1 (ai.mpr rfl);cases e;exact⟨k,rfl,q⟩
 |_=>exact P1.elim
def sQ {K:Qb}(h:aM K (ag cl (.and a b)) σ H Q):aM K (ag cl a) σ H λx H1=>∃k,x=.bl k/\if k=true then aM K (ag cl b) σ H1 Q else Q (.bl false) H1:=by
 obtain⟨as,env,m,S,G,P⟩:=h;refine⟨as,env,m,S,G,ak.bind P λx m1 as1 H1 v T1 S1 R1 P1=>?_⟩;cases x with
 |bl k=>
  obtain rfl:=ai.mp R1;refine⟨k,rfl,?_⟩;cases k with
  |true=>exact fk ⟨as1,env,m1,S1,G.mono S T1,P1⟩
  |false=>exact fm (P1.ok S1 (ai.mpr rfl))
 |_=>exact P1.elim
def rK {K:Qb}(h:aM K (ag cl (.or a b)) σ H Q):aM K (ag cl a) σ H λx H1=>∃k,x=.bl k/\if k=true then Q (.bl true) H1 else aM K (ag cl b) σ H1 Q:=by
 obtain⟨as,env,m,S,G,P⟩:=h;refine⟨as,env,m,S,G,ak.bind P λx m1 as1 H1 v T1 S1 R1 P1=>?_⟩;cases x with
 |bl k=>
  obtain rfl:=ai.mp R1;refine⟨k,rfl,?_⟩;cases k with
  |false=>exact fm ⟨as1,env,m1,S1,G.mono S T1,P1⟩
  |true=>exact fk (P1.ok S1 (ai.mpr rfl))
 |_=>exact P1.elim
def sP {K:Qb}(h:aM K g σ H Q)(k:∀v H,Q v H->Q' v H):aM K g σ H Q':=by
 obtain⟨as,env,m,S,G,P⟩:=h;refine⟨as,env,m,S,G,?_⟩;cases hr:g env m with
 |ok w m'=>rw[hr]at P;exact λas' H' v T S' R=>k _ _ (P as' H' v T S' R)
 |exc c w m'=>rw[hr]at P;exact P
 |no=>rw[hr]at P;exact P
def BL (ha:PE X x (aM X.K (ag cl a)))(hb:PE X (.BoolOp .And (y::r) pos) (aM X.K (ag cl b))):PE X (.BoolOp .And (x::y::r) pos) (aM X.K (ag cl (.and a b))):=
 PE.imp (CN ha hb) λσ H Q h=>sQ h
def oT (ha:PE X x (aM X.K (ag cl a)))(hb:PE X (.BoolOp .Or (y::r) pos) (aM X.K (ag cl b))):PE X (.BoolOp .Or (x::y::r) pos) (aM X.K (ag cl (.or a b))):=
 PE.imp (AX ha hb) λσ H Q h=>rK h
def PW.imp{e:Expr}{t t':TT}(h:PW X e t)(k:∀σ H Q,t' σ H Q->t σ H Q):PW X e t':=λwhole pins s σ H Q I q=>h whole pins s σ H Q I (k σ H Q q)
def BK (ha:PT X x (xz X.K (ag cl a)))(hb:PW X (.BoolOp .And (y::r) pos) (xz X.K (ag cl b))):PW X (.BoolOp .And (x::y::r) pos) (xz X.K (ag cl (.and a b))):=
 PW.imp (CP ha hb) λσ H Q h=>by
  refine sP (sQ h) λv H1 q=>?_;obtain⟨k,e,q⟩:=q;refine⟨k,e,?_⟩;cases k with
  |true=>rw[Mk rfl]at q ⊢;exact q
  |false=>
   rw[Ml Qz]at q ⊢;obtain⟨b',e',q⟩:=q;cases e';exact q
def oS (ha:PT X x (xz X.K (ag cl a)))(hb:PW X (.BoolOp .Or (y::r) pos) (xz X.K (ag cl b))):PW X (.BoolOp .Or (x::y::r) pos) (xz X.K (ag cl (.or a b))):=
 PW.imp (A0 ha hb) λσ H Q h=>by
  refine sP (rK h) λv H1 q=>?_;obtain⟨k,e,q⟩:=q;refine⟨k,e,?_⟩;cases k with
  |false=>rw[Ml Qz]at q ⊢;exact q
  |true=>
   rw[Mk rfl]at q ⊢;obtain⟨b',e',q⟩:=q;cases e';exact q
def lu (h:ym e=true):Ks op e=false:=by
 cases e<;>first|rfl|cases h
def sO {K:Qb}(h:aM K (ag cl (.cmp op a b)) σ H Q):fZ (rC K op) (aM K (ag cl a)) (aM K (ag cl b)) σ H Q:=by
 obtain⟨as,env,m,S,G,P⟩:=h;refine⟨as,env,m,S,G,ak.bind P λx m1 as1 H1 v T1 S1 R1 P1=>?_⟩;refine⟨as1,env,m1,S1,G.mono S T1,ak.bind P1 λy m2 as2 H2 u T2 S2 R2 P2=>?_⟩;exact⟨as2,m2,x,y,S2,R1.mono S1 T2,R2,P2⟩
def pV (hu:X.A.units+64<Ku)(ha:PE X x (aM X.K (ag cl a)))(hb:PE X y (aM X.K (ag cl b)))(hs:ym y=true):PE X (.Compare x [cK op] [y] pos) (aM X.K (ag cl (.cmp op a b))):=
 PE.imp (EB (jZ hu op) ha hb (lu hs)) λσ H Q h=>sO h
def BJ (hu:X.A.units+64<Ku)(ha:PE X x (aM X.K (ag cl a)))(hb:PE X y (aM X.K (ag cl b)))(hs:ym y=true):PT X (.Compare x [cK op] [y] pos) (xz X.K (ag cl (.cmp op a b))):=
 PT.imp (EA (jZ hu op) ha hb (lu hs)) λσ H Q h=>sO h
end
section
variable{cl:Nat->List Wd->Me->Rz}{X:Cx}{a b c:Ex}{x y z:Expr}{pos:Pos}
def jk {K:Qb}(h:aM K (ag cl (.chain p q a b c)) σ H Q):lG (rC K p) (rC K q) (aM K (ag cl a)) (aM K (ag cl b)) (aM K (ag cl c)) σ H Q:=by
 obtain⟨as,env,m,S,G,P⟩:=h;refine⟨as,env,m,S,G,ak.bind P λx m1 as1 H1 v T1 S1 R1 P1=>?_⟩;refine⟨as1,env,m1,S1,G.mono S T1,ak.bind P1 λy m2 as2 H2 u T2 S2 R2 P2=>?_⟩;refine⟨as2,m2,x,y,S2,R1.mono S1 T2,R2,ak.bind P2 λz m3 as3 H3 w T3 S3 R3 P3=>?_⟩;cases z with
 |bl k=>
  obtain rfl:=ai.mp R3;refine⟨k,rfl,?_⟩;cases k with
  |false=>exact fm (P3.ok S3 (ai.mpr rfl))
  |true=>
   refine fk ⟨as3,env,m3,S3,((G.mono S T1).mono S1 T2).mono S2 T3,ak.bind P3 λt m4 as4 H4 r T4 S4 R4 P4=>?_⟩;exact⟨as4,m4,y,t,S4,(R2.mono S2 T3).mono S3 T4,R4,P4⟩
 |_=>exact P3.elim
def pU (h:ym z=true):lastMarks [o,o'] [y,z]=false:=by
 show Ks o' z=false;exact lu h
def sN (hu:X.A.units+64<Ku)(ha:PE X x (aM X.K (ag cl a)))(hb:PE X y (aM X.K (ag cl b)))(hc:PE X z (aM X.K (ag cl c)))(hs:ym z=true):
  PE X (.Compare x [cK p,cK q] [y,z] pos) (aM X.K (ag cl (.chain p q a b c))):=
 PE.imp (ET (jZ hu p) (jZ hu q) ha hb hc (pU hs)) λσ H Q h=>jk h
def EZ (hu:X.A.units+64<Ku)(ha:PE X x (aM X.K (ag cl a)))(hb:PE X y (aM X.K (ag cl b)))(hc:PE X z (aM X.K (ag cl c)))(hs:ym z=true):
  PT X (.Compare x [cK p,cK q] [y,z] pos) (xz X.K (ag cl (.chain p q a b c))):=
 PT.imp (ES (jZ hu p) (jZ hu q) ha hb hc (pU hs)) λσ H Q h=>jk h
def EY {K:Qb}(h:aM K (ag cl (.ife c a b)) σ H Q):tH (xz K (ag cl c)) (aM K (ag cl a)) (aM K (ag cl b)) σ H Q:=by
 obtain⟨as,env,m,S,G,P⟩:=h;refine⟨as,env,m,S,G,ak.bind P λx m1 as1 H1 v T1 S1 R1 P1=>?_⟩;cases x with
 |bl k=>
  obtain rfl:=ai.mp R1;refine⟨k,rfl,?_⟩;cases k with
  |true=>exact fk ⟨as1,env,m1,S1,G.mono S T1,P1⟩
  |false=>exact fm ⟨as1,env,m1,S1,G.mono S T1,P1⟩
 |_=>exact P1.elim
def BI(hc:PT X z (xz X.K (ag cl c)))(ha:PE X x (aM X.K (ag cl a)))(hb:PE X y (aM X.K (ag cl b))):PE X (.IfExp z x y pos) (aM X.K (ag cl (.ife c a b))):=
 PE.imp (FV hc ha hb) λσ H Q h=>EY h
def DM:PA X [] (jj X.K (ag cl .unit)):=PA.imp xE λσ H Q h=>by
 obtain⟨as,env,m,S,G,P⟩:=h;exact P as H [] .refl S (au.mpr rfl)
def DK (ha:PE X x (aM X.K (ag cl a)))(hb:PA X xs (jj X.K (ag cl b)))(hs:zn x=true):PA X (x::xs) (jj X.K (ag cl (.pair a b))):=by
 refine PA.imp (zT ha hb (zf hs)) λσ H Q h=>?_;obtain⟨as,env,m,S,G,P⟩:=h;refine⟨as,env,m,S,G,?_⟩;have P':ck X.K as H Q ((ag cl a env m).bind λx m1=>(ag cl b env m1).bind λy m2=>.ok (.tup (x::zy y)) m2):=P;cases hr:ag cl a env m with
 |no=>rw[hr]at P';exact P'
 |exc c w m'=>rw[hr]at P';exact P'
 |ok w m1=>
  rw[hr]at P';intro as1 H1 v T1 S1 R1;refine⟨as1,env,m1,S1,G.mono S T1,?_⟩;simp only[Rz.bind]at P';cases hr2:ag cl b env m1 with
  |no=>rw[hr2]at P';exact P'
  |exc c w' m'=>rw[hr2]at P';exact P'
  |ok w' m2=>
   rw[hr2]at P';intro as2 H2 vs T2 S2 R2;exact P' as2 H2 (v::vs) (T1.trans T2) S2 (aj.mpr ⟨v,vs,rfl,R1.mono S1 T2,R2⟩)
def DJ (hC:bS C X cl d)(hk:C.fns[k]?=some nm)(hg:X.env.scope.names.lookup nm=some .globalImplicit)(hn:y6 nm=true)(hs:(x::xs).all zn=true)(ha:PA X (x::xs) (jj X.K (ag cl a))):PE X (.Call (.Name nm p) (x::xs) [] pos) (aM X.K (ag cl (.call k a))):=by
 obtain⟨f,fd,ps,h1,h2,h3,h4⟩:=hC.fn k nm hk;have hs':=hs;rw[W1,Qm]at hs';have hdb:(nm==("__debug__":Str))=false:=by
  unfold y6 at hn;simp only[Qm,Vb]at hn;exact hn.1.1
 refine PE.imp (Ey h4 hC.room hg h1 h2 h3 .nil (Ah (X:=X)) ha hdb (zf hs'.1) (zV hs'.2)) λσ H Q h=>?_;obtain⟨as,env,m,S,G,P⟩:=h;refine⟨as,env,m,S,G,ck.bind P λw m1 as1 H1 vs T1 S1 R1 P1=>?_⟩;refine⟨as1,m1,zy w,S1,?_,P1⟩;rw[QZ];exact R1
def vZ (hn:y6 nm=true):(nm==("__debug__":Str))=false/\(nm==("__classdict__":Str))=false/\nm ≠ "__name__":=by
 unfold y6 at hn;simp only[Qm,Vb]at hn;exact⟨hn.1.1,hn.1.2,by simpa using hn.2⟩
def BH (hC:bS C X cl d)(hb:lf bf=some (nm,f))(hg:X.env.scope.names.lookup nm=some .globalImplicit)(hn:y6 nm=true)(hs:(x::xs).all zn=true)(ha:PA X (x::xs) (jj X.K (ag cl a))):PE X (.Call (.Name nm p) (x::xs) [] pos) (aM X.K (ag cl (.blt bf a))):=by
 obtain⟨n1,n2,n3⟩:=vZ hn;have hs':=hs;rw[W1,Qm]at hs';have hc:=E7 hC.room.units hC.calm hb;have go:PE X (.Call (.Name nm p) (x::xs) [] pos) (lU (tL X.K bf) (jj X.K (ag cl a))):=by
  cases bf with
  |len=>cases hb;exact yQ hc hg (hC.blt _ (by simp[zp])) PySem.boot_len ha n3 n1 (zf hs'.1) (zV hs'.2)
  |int=>cases hb;exact vP hc hg (hC.blt _ (by simp[zp])) PyProof.Rows.boot_int ha n3 n1 (zf hs'.1) (zV hs'.2)
  |list=>cases hb;exact vP hc hg (hC.blt _ (by simp[zp])) PyProof.Rows.boot_list ha n3 n1 (zf hs'.1) (zV hs'.2)
  |tuple=>cases hb;exact vP hc hg (hC.blt _ (by simp[zp])) PyProof.Rows.boot_tuple ha n3 n1 (zf hs'.1) (zV hs'.2)
  |sum=>cases hb;exact yQ hc hg (hC.blt _ (by simp[zp])) PyProof.Rows.boot_sum ha n3 n1 (zf hs'.1) (zV hs'.2)
  |sorted=>cases hb;exact yQ hc hg (hC.blt _ (by simp[zp])) PyProof.Rows.boot_sorted ha n3 n1 (zf hs'.1) (zV hs'.2)
  |sortI=>cases hb;exact yQ hc hg (hC.blt _ (by simp[zp])) PyProof.Rows.boot_sorted ha n3 n1 (zf hs'.1) (zV hs'.2)
  |minS=>cases hb;exact yQ hc hg (hC.blt _ (by simp[zp])) PyProof.Rows.boot_min ha n3 n1 (zf hs'.1) (zV hs'.2)
  |maxS=>cases hb;exact yQ hc hg (hC.blt _ (by simp[zp])) PyProof.Rows.boot_max ha n3 n1 (zf hs'.1) (zV hs'.2)
 refine PE.imp go λσ H Q h=>?_;obtain⟨as,env,m,S,G,P⟩:=h;refine⟨as,env,m,S,G,ck.bind P λw m1 as1 H1 vs T1 S1 R1 P1=>?_⟩;exact⟨as1,m1,zy w,S1,R1,P1⟩
def DH(t:Tg):JV (Str.ofString (cU t))=some (.type (cU t)):=by
 cases t<;>decide +kernel
def BG (hC:bS C X cl d)(hg:X.env.scope.names.lookup ("isinstance":Str)=some .globalImplicit)(hg':X.env.scope.names.lookup (Str.ofString (cU t))=some .globalImplicit)(hs:zn x=true)(ha:PE X x (aM X.K (ag cl a))):PE X (.Call (.Name "isinstance" p) [x,.Name (Str.ofString (cU t)) p'] [] pos) (aM X.K (ag cl (.isi t a))):=by
 have hm:X.mg (Str.ofString (cU t))=none:=hC.blt _ (by cases t<;>decide +kernel);have hty:PE X (.Name (Str.ofString (cU t)) p') (tC (.ty (cU t))):=Eh hg' hm (DH t) rfl (by cases t<;>decide +kernel) (by cases t<;>decide +kernel);refine PE.imp (yQ (E6 t) hg (hC.blt _ (by simp[zp])) PyProof.Rows.boot_isinstance (zT ha (zT hty xE) (zf hs)) (by decide +kernel) (by decide +kernel) (zf hs) rfl) λσ H Q h=>?_;obtain⟨as,env,m,S,G,P⟩:=h;refine⟨as,env,m,S,G,ak.bind P λw m1 as1 H1 v T1 S1 R1 P1=>?_⟩;exact⟨as1,m1,w,v,rfl,S1,R1,P1⟩
def Ch (ha:PA X xs (jj X.K (ag cl a))):PE X (.List xs pos) (aM X.K (ag cl (.lst a))):=by
 refine PE.imp (Bq ha) λσ H Q h=>?_;obtain⟨as,env,m,S,G,P⟩:=h;refine⟨as,env,m,S,G,ck.bind P λw m1 as1 H1 vs T1 S1 R1 P1=>?_⟩;obtain⟨h1,h2⟩:=xt S1 R1 P1;exact⟨Qr h1 yT,h2⟩
set_option tactic.hygienic true in
def Cg (ha:PA X xs (jj X.K (ag cl a))):PE X (.Tuple xs k pos) (aM X.K (ag cl (.tup a))):=by
 refine PE.imp (Br ha) λσ H Q h=>?_;obtain⟨as,env,m,S,G,P⟩:=h;refine⟨as,env,m,S,G,ck.bind P λw m1 as1 H1 vs T1 S1 R1 P1=>?_⟩;split at P1
 .rename_i hl;refine⟨by rw[<-R1.length];exact Qr hl yT,λp hp=>?_⟩;obtain⟨T,S',R'⟩:=S1.tup hp R1;exact P1 _ _ _ T S' R'
 .exact P1.elim
def Cf(ha:PE X x (aM X.K (ag cl a)))(hb:PE X y (aM X.K (ag cl b)))(hs:yU y=true):PE X (.Subscript x y pos) (aM X.K (ag cl (.idx a b))):=by
 have hp:gD y:=λo i=>by cases y<;>first|rfl|cases hs
 refine PE.imp (oZ Bj ha hb hp) λσ H Q h=>?_;obtain⟨as,env,m,S,G,P⟩:=h;refine⟨as,env,m,S,G,ak.bind P λx m1 as1 H1 v T1 S1 R1 P1=>?_⟩;refine⟨as1,env,m1,S1,G.mono S T1,ak.bind P1 λy m2 as2 H2 u T2 S2 R2 P2=>?_⟩;exact BR S2 (R1.mono S1 T2) R2 P2
end
section
variable{cl:Nat->List Wd->Me->Rz}{X:Cx}{a b c:Ex}{x y:Expr}{pos:Pos}
set_option tactic.hygienic true in
def Ae {K:Qb}{lo:Option Int}(S:aK K as m H)(R:ah K as H w v)(h:ak K as H Q (eU w lo hi m)):iY K v lo hi H Q\/og K v lo hi H Q:=by
 have hs:∀(n d:Nat) (o:Option Int),aS n d o=HT.aS n d o:=λn d o=>by cases o<;>rfl
 have key:∀{xs:List Wd}{p:Addr}{vs:List V},bE K H p vs->aa K as H xs vs->ak K as H Q (alloc m ((xs.drop (aS xs.length 0 lo)).take (aS xs.length xs.length hi-aS xs.length 0 lo)))->iY K (.ref p) lo hi H Q:=λ{xs p vs} q r h=>by
  refine⟨p,vs,rfl,q,?_⟩;have e:(vs.drop (aS xs.length 0 lo)).take (aS xs.length xs.length hi-aS xs.length 0 lo)=jH vs lo hi:=by
   unfold jH;rw[r.length,hs,hs]
  rw[<-e];exact(xt S ((r.drop _).take _) h).2
 cases w with
 |tup xs=>
  obtain⟨p,vs,rfl,q,r⟩:=af.mp R;have h':ak K as H Q (if aS xs.length 0 lo=0/\aS xs.length xs.length hi=xs.length then .no else .ok (.tup ((xs.drop (aS xs.length 0 lo)).take (aS xs.length xs.length hi-aS xs.length 0 lo))) m):=h;by_cases c:aS xs.length 0 lo=0/\aS xs.length xs.length hi=xs.length
  .rw[Mk c]at h';exact h'.elim
  .rw[Ml c]at h';refine .inr ⟨p,vs,rfl,q,by rw[<-r.length,<-hs,<-hs];exact c,λl hl=>?_⟩;have e:(vs.drop (aS xs.length 0 lo)).take (aS xs.length xs.length hi-aS xs.length 0 lo)=jH vs lo hi:=by
    unfold jH;rw[r.length,hs,hs]
   obtain⟨T,S',R'⟩:=S.tup hl ((r.drop (aS xs.length 0 lo)).take (aS xs.length xs.length hi-aS xs.length 0 lo));rw[<-e];exact h' _ _ _ T S' R'
 |rol ys=>
  obtain⟨p,vs,rfl,q,r⟩:=bm.mp R;exact .inl (key q.sq r h)
 |ref l=>
  obtain⟨p,hp,rfl⟩:=aG.mp R;have h':ak K as H Q (match zj m l with
   |some xs=>alloc m ((xs.drop (aS xs.length 0 lo)).take (aS xs.length xs.length hi-aS xs.length 0 lo))
   |none=>.no):=h
  cases hx:zj m l with
  |none=>rw[hx]at h';exact h'.elim
  |some xs=>
   rw[hx]at h';obtain⟨p',vs,hp',e,r⟩:=ya S (zR hx);rw[hp]at hp';cases hp';exact .inl (key (bE.of e) r h')
 |_=>exact h.elim
def Ce (ha:PE X x (aM X.K (ag cl a)))(hb:PE X y (aM X.K (ag cl b))):PE X (.Subscript x (.Slice (some y) none none p2) pos) (aM X.K (ag cl (.slL a b))):=by
 refine PE.imp (EQ (dS.or Bl) ha (Dj hb) Ev) λσ H Q h=>?_;obtain⟨as,env,m,S,G,P⟩:=h;refine⟨as,env,m,S,G,ak.bind P λx m1 as1 H1 v T1 S1 R1 P1=>?_⟩;refine⟨as1,env,m1,S1,G.mono S T1,ak.bind P1 λy m2 as2 H2 u T2 S2 R2 P2=>?_⟩;cases y with
 |int i=>exact⟨i,ab.mp R2,Ae S2 (R1.mono S1 T2) P2⟩
 |_=>exact P2.elim
def bU (h:xW e=true):KT e f env (eval e env)=eval e env:=by
 cases e<;>first|rfl|cases h
def pT (h:ys.all zn=true)(hl:ys.length<29):
  ((J0 cp (J1 ys env)).all (λx=>! x.1)&&(KU cp (KW [] env)).all (λx=>x.1.isSome)
   && decide (ys.length+([]:List KY).length+(if([]:List KY).isEmpty then 0 else 1)<30))=true:=by
 have all:∀{es:List Expr},es.all zn=true->(J0 cp (J1 es env)).all (λx=>! x.1)=true:=by
  intro es
  induction es with
  |nil=>intro _;rfl
  |cons e es ih=>
   intro h;rw[W1,Qm]at h;rw[zf h.1];show(true&&(J0 cp (J1 es env)).all (λx=>! x.1))=true;rw[ih h.2];rfl
 rw[all h];have e2:(KU cp (KW [] env)).all (λx=>x.1.isSome)=true:=rfl;rw[e2];have e3:decide (ys.length+([]:List KY).length+(if([]:List KY).isEmpty then 0 else 1)<30)=true:=by
  apply Mo;show ys.length+0+0<30;lia
 rw[e3];rfl
def EX(k:dM):Slot "list" (fE k).1 (fE k).2/\typeOf (.builtin (fE k).2)=pure (.type "method_descriptor"):=by
 cases k with
 |append=>exact⟨PySem.F.slot_list_append,PySem.F.type_list_append⟩
 |pop=>exact⟨PySem.F.slot_list_pop,PySem.F.type_list_pop⟩
 |reverse=>exact⟨PySem.F.slot_list_reverse,PySem.F.type_list_reverse⟩
 |clear=>exact⟨PySem.F.slot_list_clear,PySem.F.type_list_clear⟩
def DG{K:Qb}{as:List Addr}{H:Hp}{Q:VK}{b:Bool}{r:Rz}(h:ak K as H Q (match b with|true=>r|false=>.no)):b=true/\ak K as H Q r:=by
 cases b with
 |true=>exact⟨rfl,h⟩
 |false=>exact h.elim
def Cd (h:yC w m=true):∃l,w=.ref l/\(zj m l).isSome=true:=by
 cases w with
 |ref l=>
  refine⟨l,rfl,?_⟩;unfold yC aX at h;unfold zj;cases e:m[l]? with
  |none=>simp[e]at h
  |some o=>
   cases o with
   |lst xs=>rfl
   |dct ks us=>simp[e]at h
 |_=>cases h
def Cc {K:Qb}(S:aK K as m H)(R:ah K as H w v)(hw:∃l,w=.ref l/\(zj m l).isSome=true):lK K "list" v H:=by
 obtain⟨l,rfl,hs⟩:=hw;obtain⟨p,hp,rfl⟩:=aG.mp R;obtain⟨xs,hs⟩:=WO.mp hs;obtain⟨p',us,hp',e,_⟩:=ya S (zR hs);rw[hp]at hp';cases hp';exact .inl ⟨rfl,us,bE.of e⟩
def DF (ho:PE X x (aM X.K (ag cl a)))(ha:PA X (y::ys) (jj X.K (ag cl b)))(hx:xW x=true)(hl:(ap.endLine==pos.line)=true)(hn:(y::ys).length<29)(hs:(y::ys).all zn=true):
  PE X (.Call (.Attribute x (fE k).1 ap) (y::ys) [] pos) (aM X.K (ag cl (.meth k a b))):=by
 obtain⟨f1,f2⟩:=EX k;have hs':=hs;rw[W1,Qm]at hs';refine PE.imp (Ai PySem.F.plainAttrs_list f1 f2 (BQ k) ho ha (bU hx) (pT hs hn) hl (zf hs'.1) (zV hs'.2)) λσ H Q h=>?_;obtain⟨as,env,m,S,G,P⟩:=h;refine⟨as,env,m,S,G,ak.bind P λw m1 as1 H1 v T1 S1 R1 P1=>?_⟩;obtain⟨hl',P1⟩:=DG P1;refine⟨Cc S1 R1 (Cd hl'),?_⟩;refine⟨as1,env,m1,S1,G.mono S T1,ck.bind P1 λw2 m2 as2 H2 vs T2 S2 R2 P2=>?_⟩;exact⟨as2,m2,w,zy w2,S2,R1.mono S1 T2,R2,P2⟩
def sM {K:Qb}(S:aK K as m H)(h:bR K as H R (fx (.int i) (.int j) (.int 1) m)):(-(2^62)<=i/\i<2^62/\-(2^62)<=j/\j<2^62)/\R (fI i (j-i).toNat) H:=by
 have h':bR K as H R (if -aq<=i/\i<=aq/\-aq<=j/\j<=aq/\((1:Int)=1\/(1:Int)=-1)then .ok (.tup (eP i 1 (fy i j 1))) m else .no):=h;by_cases hc:-(aq:Int)<=i/\i<=aq/\-(aq:Int)<=j/\j<=aq/\((1:Int)=1\/(1:Int)=-1)
 .rw[Mk hc]at h';have hlim:(aq:Int)=100000:=rfl;refine⟨by lia,h'.2 as H _ .refl S ?_⟩;have e:fy i j 1=(j-i).toNat:=Mk rfl;rw[e];exact⟨_,λ_=>True,FP i (j-i).toNat (K:=K),trivial,jh 1 (j-i).toNat i,λ_ _ _ _=>trivial⟩
 .rw[Ml hc]at h';exact h'.elim
theorem bR.bind {K:Qb}(h:bR K as H R (r.bind f))(k:∀w m' as' H' v,Step as H as' H'->aK K as' m' H'->ah K as' H' w v->bR K as' H' R (f w m')->Q1 v H'):ak K as H Q1 r:=by
 cases r with
 |ok w m'=>
  intro as2 H2 v U S Rr;refine k w m' as2 H2 v U S Rr ?_;have h':bR K as H R (f w m'):=h;cases hr:f w m' with
  |ok w2 m2=>rw[hr]at h';exact⟨h'.1,λas3 H3 J U3 S3 q=>h'.2 as3 H3 J (U.trans U3) S3 q⟩
  |exc c w2 m2=>rw[hr]at h';exact h'
  |no=>rw[hr]at h';exact h'
 |exc c w m'=>exact h
 |no=>exact h
def DE (hC:bS C X cl d)(hg:X.env.scope.names.lookup ("range":Str)=some .globalImplicit)(hs:zn x=true)(hb:PE X x (aM X.K (ag cl b))):
  PI X tg (.Call (.Name "range" p) [x] [] pos) (eZ X.K (ag cl (.rng (.lit (.int 0)) b (.lit (.int 1))))):=by
 refine PI.imp (Fw hg (hC.blt _ (by simp[zp])) (zT hb xE (zf hs)) (zf hs)) λσ H R h=>?_;obtain⟨as,env,m,S,G,P⟩:=h;have P':bR X.K as H R ((ag cl b env m).bind λy m2=>fx (.int 0) y (.int 1) m2):=P;refine⟨as,env,m,S,G,bR.bind P' λw m1 as1 H1 v T1 S1 R1 P1=>?_⟩;cases w with
 |int j=>
  obtain rfl:=ab.mp R1;obtain⟨⟨_,_,h1,h2⟩,q⟩:=sM S1 P1;refine⟨j,rfl,h1,h2,?_⟩;simpa using q
 |_=>exact P1.elim
def DD (hC:bS C X cl d)(hg:X.env.scope.names.lookup ("range":Str)=some .globalImplicit)(hs:zn x=true)(hs':zn y=true)(ha:PE X x (aM X.K (ag cl a)))(hb:PE X y (aM X.K (ag cl b))):
  PI X tg (.Call (.Name "range" p) [x,y] [] pos) (eZ X.K (ag cl (.rng a b (.lit (.int 1))))):=by
 refine PI.imp (Fv hg (hC.blt _ (by simp[zp])) (zT ha (zT hb xE (zf hs')) (zf hs)) (by rw[zf hs,zf hs'];rfl) (zf hs')) λσ H R h=>?_;obtain⟨as,env,m,S,G,P⟩:=h;have P':bR X.K as H R ((ag cl a env m).bind λx m1=>(ag cl b env m1).bind λy m2=>fx x y (.int 1) m2):=P;refine⟨as,env,m,S,G,bR.bind P' λw m1 as1 H1 v T1 S1 R1 P1=>?_⟩;refine⟨as1,env,m1,S1,G.mono S T1,bR.bind P1 λw2 m2 as2 H2 u T2 S2 R2 P2=>?_⟩;cases w with
 |int i=>
  cases w2 with
  |int j=>
   obtain rfl:=ab.mp R1;obtain rfl:=ab.mp R2;obtain⟨hb,q⟩:=sM S2 P2;exact⟨i,j,rfl,hb,q⟩
  |_=>exact P2.elim
 |_=>cases w2<;>exact P2.elim
end
end Mini
namespace L2
open PySem PySem.Spec PyProof.Rows
section
variable{X:Cx}{pins:List (Addr×Obj)}{σ:St}{H:Hp}{s:Shared}{h':JP}
def nK {ch:List Addr}(I:Inv X pins σ H s)(hf:∀b∈ch,kx X pins H b)(k:∀b o,b∉ch->s.heap.get? b=some o->h'.get? b=some o)(hT:s.heap.objs.size<=T)(hz:xs.length<=sizeLine)(hv:av xs its)(ht:IsTup h' T its.toArray):Inv X pins σ (aI H T (.tup xs)) {s with heap:=h',toks:=t' }:=by
 have hn:H T=none:=I.hok.fresh hT;have nit:∀b u,H b=some u->b∉ch:=λb u e z=>by rw[(hf b z).1]at e;cases e
 have up:∀b u,H b=some u->aI H T (.tup xs) b=some u:=λb u e=>by rw[zd (zo e hn)];exact e
 refine I.step (g':=s.gens) (d':=s.drawn) (ch:=ch) (λb hb=>?_) (λb o _ _ hc e _=>k b o hc e) (λb o _ _ hc e _=>⟨o.slots,k b o hc e⟩) (λb o hc e n=>?_)
  (λb o hc e=>⟨o,k b o hc e⟩) (λb _ e=>up b _ e) (λb _ _ e=>up b _ e) (λb ps e=>⟨#[],by rw[up b _ e];simp⟩) (λm hm=>?_) (λb u e=>?_) I.bare
 .obtain ⟨f0,f1,f2,f3,f4,f5⟩:=hf b hb;exact⟨f3,f1,f4,f5⟩
 .rw[zd (QG (Ql (Qi e) hT))];exact n
 .obtain ⟨o,es,ep,ho,r⟩:=hm;exact⟨o,es,ep,k _ o (λz=>(hf _ z).2.1 rfl) ho,r⟩
 .by_cases hb:b=T
  .subst hb;rw[ze]at e;cases e;exact⟨hz,its,hv,ht⟩
  .rw[zd hb]at e;refine(I.hok b u e).stay (λc v hc q=>k c v ?_ q) (λc q=>up c _ q) λc _ q=>up c _ q;rcases hc with z|z
   .rw[z];exact nit b u e
   .exact nit c _ z
def Inv.turnedL{t':Nat}{ch:List Addr}(I:Inv X pins σ H s)(hf:∀b∈ch,kx X pins H b)(k:∀b o,b∉ch->s.heap.get? b=some o->h'.get? b=some o):Inv X pins σ H {s with heap:=h',toks:=t' }:=by
 have nit:∀b u,H b=some u->b∉ch:=λb u e z=>by rw[(hf b z).1]at e;cases e
 refine I.step (g':=s.gens) (d':=s.drawn) (ch:=ch) (λb hb=>?_) (λb o _ _ hc e _=>k b o hc e) (λb o _ _ hc e _=>⟨o.slots,k b o hc e⟩) (λb o hc e n=>n)
  (λb o hc e=>⟨o,k b o hc e⟩) (λb _ e=>e) (λb _ _ e=>e) (λb ps e=>⟨#[],by rw[e];simp⟩) (λm hm=>?_) (λb u e=>?_) I.bare
 .obtain ⟨f0,f1,f2,f3,f4,f5⟩:=hf b hb;exact⟨f3,f1,f4,f5⟩
 .obtain ⟨o,es,ep,ho,r⟩:=hm;exact⟨o,es,ep,k _ o (λz=>(hf _ z).2.1 rfl) ho,r⟩
 .refine (I.hok b u e).stay (λc v hc q=>k c v ?_ q) (λc q=>q) λc _ q=>q;rcases hc with z|z
  .rw[z];exact nit b u e
  .exact nit c _ z
end
def Yp(H:Hp)(v:V)(H':Hp)(x y:V):Prop:=∃T,H T=none/\v=.ref T/\H'=aI H T (.tup [x,y])
end L2
namespace L2
open PySem PySem.Spec PyProof.Rows
open AutoSeq1 (wpAny_loadPart')
end L2
namespace L2
open PySem PySem.Spec PyProof.Rows
section
variable{prog:JM}{w:JN}{A:JW}{E:Value->Shared->Prop}{s:Shared}{it d:Addr}{i n:Nat}{od:Obj}{es:Array DictEntry}
def ls {R:Option Value->Shared->Prop}{Q':α->Shared->Prop}(quiet:A.handled=none)(go:s.heap.get? it=some o)(fo:o.data=.fields fs)(hk:k<fs.size)(end':∀h',Va it s.heap h'->R none {s with heap:=h' }):
  JY (JZ prog w) A.in1 (do LS (.ref it) k .none;let e <-newExc (.type "StopIteration") [];raiseNew e:Sem α) Q'
   (λe s'=>JY (JZ prog w) A (do let b <-isInstance e (.type "StopIteration");if b=true then pure none else throw e) R E s') s:=by
 apply Kb;apply LU go fo hk;apply Kb;simp only[newExc,newTuple];refine Kb (KQ (Kb (m:=LV _ _) (LW (a:=Value.none) (by first|rfl|(simp only[LV];rfl)) (KQ ?_ (by size_fits)))) (by size_fits));simp only[raiseNew];apply Kb;apply wpAny_handled;rw[show A.in1.handled=none from quiet];apply wpAny_throw;apply Kb;refine wpAny_isInstance (T:="StopIteration") (b:=true) ⟨_,Qe _ rfl,rfl⟩ isSubtype_stop ?_;exact Ki (end' _ (((Q8.update ..).extBut.push _).push _))
def Ad (nosys:(d==JQ)=false)(g:s.heap.get? d=some od)(ex:od.ExactDict)(dat:od.data=.dict es n)(sz:es.size=n)(end':R (.ref s.heap.objs.size) {s with heap:=s.heap.push {cls:=.type "dict_keyiterator",data:=.fields #[.ref d,.int 0 0,.int n 0,.int n 0]} }):JY (JZ prog w) A (Kh (.ref d)) R E s:=by
 have ty:s.TypeIs (.ref d) "dict":=⟨od,g,ex.1⟩;apply LX ty F.slot_dict_iter;refine KO F.slot_dict_iter ty F.entry_dict_iter ?_ (F.args_dict_iter_1 _);unfold Builtin.«dict.__iter__» Builtin.Dict.dictSlotNone;apply Kb;apply Kb;apply Li ty;apply Ki (a:=Value.ref d);apply Kb (m:=Builtin.Dict.showsAll d);unfold Builtin.Dict.showsAll;rw[nosys];apply Ki;apply Kb;apply Lm g dat;apply Kb;apply Ln g dat;apply Kb;refine KQ (Ki ⟨_,rfl,"dict_keyiterator",_,⟨_,Qe _ rfl,rfl⟩,F.slot_dict_keyiterator_next.lookup,?_⟩);rw[sz];exact end'
def Ac (at_:s.heap.IsKeyIter it d i n n)(g:s.heap.get? d=some od)(dat:od.data=.dict es n)(sz:es.size=n)(hi:i<n)(end':∀h',h'.IsKeyIter it d (i+1) n n->Q8 it s.heap h'->R (some (es[i]'(by lia)).key) {s with heap:=h' }):JY (JZ prog w) A (Kf (.ref it)) R E s:=by
 obtain⟨o,go,co,fo⟩:=id at_;have ty:=at_.typeIs;unfold Kf;apply Kb;apply LK;apply KN ty F.slot_dict_keyiterator_next;refine KO F.slot_dict_keyiterator_next ty F.entry_dict_keyiterator_next ?_ (F.args_dict_keyiterator_next_1 _);refine Kb (Ki (Kb (Kb (Kb (LY ty (Ki ?_))))));refine Kb (LZ go fo ?_);have no:Builtin.Dict_items.ownsTuple "dict_keyiterator"=false:=by decide
 simp only[no,QX,if_false];change JY _ _ (ite ((Value.ref d==Value.none)=true) _ _) _ _ s;rw[show(Value.ref d==Value.none)=false from rfl,Ml Qz];refine Kb (Ki (Kb (Lm g dat ?_)));rw[sz,Ml (by simp)];refine Kb (Ki (Kb (Ln g dat ?_)));rw[Ml (by simp)];apply Ki;have hi':i<es.size:=by lia
 simp only[show ¬(i:Int)<0 from by lia,if_false,Wl,We hi'];refine Kb (Kb (LY ty (Ki (Kb (L0 ty ?_)))));apply Kb (m:=LS (.ref it) 1 (Kj ((i:Int)+1)));apply LU go fo (by simp);have nx:(s.heap.update it (Obj.mapFields (·.setIfInBounds 1 (Kj ((i:Int)+1))))).IsKeyIter it d (i+1) n n:=by
  refine⟨_,WG _ go (Obj.isFreed_of_fields (Obj.data_mapFields fo _)),by rw[Obj.cls_mapFields];exact co,?_⟩;rw[Obj.data_mapFields fo];simp[Kj]
 refine Kb (Kc (Kb (L0 nx.typeIs ?_)));exact Ki (Ki ⟨_,rfl,Ki (end' _ nx (Q8.update ..))⟩)
def Ab (quiet:A.handled=none)(at_:s.heap.IsKeyIter it d i n n)(g:s.heap.get? d=some od)(dat:od.data=.dict es n)(sz:es.size=n)(hi:n<=i)(end':∀h',Va it s.heap h'->R none {s with heap:=h' }):JY (JZ prog w) A (Kf (.ref it)) R E s:=by
 obtain⟨o,go,co,fo⟩:=id at_;have ty:=at_.typeIs;unfold Kf;apply Kb;apply LK;apply KN ty F.slot_dict_keyiterator_next;refine KO F.slot_dict_keyiterator_next ty F.entry_dict_keyiterator_next ?_ (F.args_dict_keyiterator_next_1 _);refine Kb (Ki (Kb (Kb (Kb (LY ty (Ki ?_))))));refine Kb (LZ go fo ?_);have no:Builtin.Dict_items.ownsTuple "dict_keyiterator"=false:=by decide
 simp only[no,QX,if_false];change JY _ _ (ite ((Value.ref d==Value.none)=true) _ _) _ _ s;rw[show(Value.ref d==Value.none)=false from rfl,Ml Qz];refine Kb (Ki (Kb (Lm g dat ?_)));rw[sz,Ml (by simp)];refine Kb (Ki (Kb (Ln g dat ?_)));rw[Ml (by simp)];apply Ki;simp only[show ¬(i:Int)<0 from by lia,if_false,Wl,WC (show es.size<=i by lia)];refine Kb (Kb (LY ty (Ki ?_)));exact ls quiet go fo (by rw[no];exact Nat.zero_lt_succ 3) end'
end
section
variable{X:Cx}{pins:List (Addr×Obj)}{σ:St}{H:Hp}{s:Shared}
def zS (I:Inv X pins σ H s)(h:yb X.K H d xs):(d==JQ)=false/\∃o es,s.heap.get? d=some o/\o.ExactDict/\o.data=.dict es xs.length/\es.size=xs.length/\∀(i:Nat) (x:TK),xs[i]?=some x->es[i]?=some (jW x):=by
 obtain⟨⟨a0,o,es,a1,a2,a3,a4,a5⟩,_,_⟩:=I.hok d _ h.1;refine⟨a0,o,es,a1,a2,a3,by rw[<-QS,a4,Qo],λi x hx=>?_⟩;rw[<-QB,a4,Qs,hx];rfl
def uX(K:Qb)(d:Addr)(n:Nat):It:=
 ⟨λi H=>∃xs,yb K H d xs/\xs.length=n/\i<n,λi H x H'=>H'=H/\∀xs,yb K H d xs->∃k,xs[i]?=some k/\x=.ref k.2.1,λi H=>∃xs,yb K H d xs/\xs.length=n/\n<=i⟩
def Ga {K:Qb}(it:Addr):cX P w K tg (uX K d n) [it] it (λi h=>h.IsKeyIter it d i n n) where
 mem:=by simp
 obj:=λi h st b hb=>by
  have e:b=it:=by simpa using hb
  subst e;obtain⟨o,e,c,d⟩:=st;exact⟨o,e,λv z=>by rw[d]at z;cases z⟩
 keep:=λi h h' st k=>by
  obtain⟨o,e,r⟩:=st;exact⟨o,k it (by simp) o e,r⟩
 item:=by
  intro X hP hw hK hc i pins s σ H E I hf st hg;subst hP hw hK;obtain⟨xs,td,hn,hi⟩:=hg;obtain⟨_,od,es,g,ex,dat,sz,rows⟩:=zS I td;obtain⟨f0,f1,f2,f3,f4,f5⟩:=hf it (by simp);have hx:i<xs.length:=by lia
  have e2:=rows i _ (Qw hx);subst hn;refine Ac st g dat sz hi λh' st' sb=>?_;have I1:Inv X pins σ H {s with heap:=h' }:=I.turned (t':=s.toks) (λb o hb e=>(sb.2 b hb).trans e) f0 f1 f3 f4 f5;obtain⟨o,e,c,dd⟩:=id st';have hk:(es[i]'(by lia)).key=.ref xs[i].2.1:=by
   rw[We (by lia)]at e2;rw[Option.some.inj e2];rfl
  rw[hk];refine⟨_,rfl,iw (s:={s with heap:=h' }) e c dd (by decide) ⟨.ref xs[i].2.1,H,I1,rfl,⟨rfl,λys ty=>?_⟩,st',λb hb=>(hf b hb).1⟩⟩;obtain⟨_,od',es',g',_,dat',sz',rows'⟩:=zS I ty;rw[g]at g';cases g';rw[dat]at dat';injection dat' with d1 d2
  subst d1;have hy:i<ys.length:=by lia
  have e3:=rows' i _ (Qw hy);rw[e2]at e3;refine⟨ys[i],Qw hy,?_⟩;have e4:=Mn DictEntry.key (Option.some.inj e3);exact Mn V.ref (Value.ref.inj e4)
 done:=by
  intro X hP hw hK hc i pins s σ H E I hf st hg;subst hP hw hK;obtain⟨xs,td,hn,hi⟩:=hg;obtain⟨_,od,es,g,ex,dat,sz,rows⟩:=zS I td;obtain⟨f0,f1,f2,f3,f4,f5⟩:=hf it (by simp);subst hn;exact Ab (I.ok.hd hc) st g dat sz hi λh' eb=>⟨rfl,I.turned (t':=s.toks) (λb o hb e=>eb b o hb e) f0 f1 f3 f4 f5⟩
 self:=λ_ _ _ _ _ st h=>wpAny_pyIter_keyiter st h
def ud(X:Cx)(tl:TE):TI:=λσ H R=>tl σ H λx H1=>∃d xs,x=.ref d/\yb X.K H1 d xs/\R (uX X.K d xs.length) H1
def EW (hl:PE X l tl):PI X tg l (ud X tl):=by
 intro pins s σ H R I h;refine ba (hl pins s σ H _ I h) λv s1 ⟨x,H1,I1,r1,q1⟩=>?_;obtain⟨d,xs,e,td,q⟩:=q1;subst e;cases r1;obtain⟨nosys,od,es,g,ex,dat,sz,_⟩:=zS I1 td;refine Ad nosys g ex dat sz ?_;refine⟨s1.heap.objs.size,[s1.heap.objs.size],_,_,H1,rfl,I1.kept (t':=s1.toks) λb o e=>Qc _ e,Ga _,⟨_,Qe _ rfl,rfl,rfl⟩,λb hb=>?_,q⟩;have e:b=s1.heap.objs.size:=by simpa using hb
 subst e;exact I1.fpOk (Qh _) (I1.hok.fresh (Qh _))
end
section
variable{prog:JM}{w:JN}{A:JW}{E:Value->Shared->Prop}{s:Shared}
def Aa (at_:s.heap.IsTupleIter it t i)(tp:s.heap.IsTuple t its)(hi:i<its.size)(end':∀h',h'.IsTupleIter it t (i+1)->Q8 it s.heap h'->R its[i] {s with heap:=h' }):JY (JZ prog w) A (Builtin.SmallTypes.nextOf (.ref it)) R E s:=by
 obtain⟨o,go,co,fo⟩:=id at_;obtain⟨ot,gt,_,n,ft⟩:=tp;have ty:=at_.typeIs;unfold Builtin.SmallTypes.nextOf;apply Kb;apply KN ty F.slot_tuple_iterator_next;refine KO F.slot_tuple_iterator_next ty F.entry_tuple_iterator_next ?_ (F.args_tuple_iterator_next_1 _);apply Kb (m:=L1 (.ref it) 0);apply KJ go fo (x:=.ref t) rfl;change JY _ _ (ite ((Value.ref t==Value.none)=true) _ _) _ _ s;rw[show(Value.ref t==Value.none)=false from rfl,Ml Qz];apply Kb (m:=L1 (.ref it) 1);apply KJ go fo (x:=.int i 0) rfl;apply Kb (m:=seqItems? (.ref t));apply L3 gt ft;simp only[Wl,We hi];refine Kb (LU go fo (by simp) (Ki ⟨_,rfl,Ki (end' _ ⟨_,WG _ go (Obj.isFreed_of_fields (Obj.data_mapFields fo _)),by rw[Obj.cls_mapFields];exact co,?_⟩ (Q8.update ..))⟩));rw[Obj.data_mapFields fo];simp[Kj]
def z9 (quiet:A.handled=none)(at_:s.heap.IsTupleIter it t i)(tp:s.heap.IsTuple t its)(hi:its.size<=i)(end':∀h' e,Va it s.heap h'->(∃o,h'.get? e=some o/\o.cls=.type "StopIteration")->E (.ref e) {s with heap:=h' }):JY (JZ prog w) A (Builtin.SmallTypes.nextOf (.ref it)) R E s:=by
 obtain⟨o,go,co,fo⟩:=id at_;obtain⟨ot,gt,_,n,ft⟩:=tp;have ty:=at_.typeIs;unfold Builtin.SmallTypes.nextOf;apply Kb;apply KN ty F.slot_tuple_iterator_next;refine KO F.slot_tuple_iterator_next ty F.entry_tuple_iterator_next ?_ (F.args_tuple_iterator_next_1 _);apply Kb (m:=L1 (.ref it) 0);apply KJ go fo (x:=.ref t) rfl;change JY _ _ (ite ((Value.ref t==Value.none)=true) _ _) _ _ s;rw[show(Value.ref t==Value.none)=false from rfl,Ml Qz];apply Kb (m:=L1 (.ref it) 1);apply KJ go fo (x:=.int i 0) rfl;apply Kb (m:=seqItems? (.ref t));apply L3 gt ft;simp only[Wl,WC hi];apply Kb;apply Lg;apply Kb;apply LU go fo (by simp);apply Kb;simp only[newExc,newTuple];refine Kb (KQ (Kb (m:=LV _ _) (LW (a:=Value.none) (by first|rfl|(simp only[LV];rfl)) (KQ ?_ (by size_fits)))) (by size_fits));simp only[raiseNew];apply Kb;apply wpAny_handled
 first|rw[show A.in1.handled=none from quiet]|rw[quiet]
 apply wpAny_throw;exact end' _ _ (((Q8.update ..).extBut.push _).push _) ⟨_,Qe _ rfl,rfl⟩
def bV(b:Bool)(h:JP)(l:Addr)(its:Array Value):Prop:=match b with
 |false=>h.IsList l its
 |true=>h.IsTuple l its
def bM(b:Bool)(h:JP)(it l:Addr)(i:Nat):Prop:=match b with
 |false=>h.IsListIter it l i
 |true=>h.IsTupleIter it l i
theorem bV.at{b:Bool}{h h':JP}{l:Addr}{its:Array Value}(x:bV b h l its)(k:∀o,h.get? l=some o->h'.get? l=some o):bV b h' l its:=by
 cases b with
 |false=>exact Heap.IsList.at x k
 |true=>obtain⟨o,g,r⟩:=x;exact⟨o,k o g,r⟩
theorem bM.at{b:Bool}{h h':JP}{it l:Addr}{i:Nat}(x:bM b h it l i)(k:∀o,h.get? it=some o->h'.get? it=some o):bM b h' it l i:=by
 cases b with
 |false=>exact Heap.IsListIter.at x k
 |true=>exact Heap.IsTupleIter.at x k
def bM.there (x:bM b h it l i):∃o,h.get? it=some o/\∀v,o.data≠.cell v:=by
 cases b with
 |false=>obtain⟨o,g,_,d⟩:=x;exact⟨o,g,λv z=>by rw[d]at z;cases z⟩
 |true=>obtain⟨o,g,_,d⟩:=x;exact⟨o,g,λv z=>by rw[d]at z;cases z⟩
def lr (b:Bool)(at_:bM b s.heap it l i)(sq:bV b s.heap l its)(hi:i<its.size)(end':∀h',bM b h' it l (i+1)->Q8 it s.heap h'->R its[i] {s with heap:=h' }):JY (JZ prog w) A (Builtin.SmallTypes.nextOf (.ref it)) R E s:=by
 cases b with
 |false=>exact wpAny_nextOf_list_item at_ sq (We hi) end'
 |true=>exact Aa at_ sq hi end'
def oR (b:Bool)(quiet:A.handled=none)(at_:bM b s.heap it l i)(sq:bV b s.heap l its)(hi:its.size<=i)(end':∀h' e,Va it s.heap h'->(∃o,h'.get? e=some o/\o.cls=.type "StopIteration")->E (.ref e) {s with heap:=h' }):JY (JZ prog w) A (Builtin.SmallTypes.nextOf (.ref it)) R E s:=by
 cases b with
 |false=>exact wpAny_nextOf_list_end quiet at_ sq (WC hi) end'
 |true=>exact z9 quiet at_ sq hi end'
end
noncomputable def dg(b:Bool)(l:Addr):Obj:=match b with
 |false=>{cls:=.type "list_iterator",data:=.fields #[.ref l,.int 0 0]}
 |true=>{cls:=.type "tuple_iterator",data:=.fields #[.ref l,.int 0 0]}
section
variable{prog:JM}{w:JN}{A:JW}{E:Value->Shared->Prop}{s:Shared}
def oQ (b:Bool)(sq:bV b s.heap l its)(end':R (.ref s.heap.objs.size) {s with heap:=s.heap.push (dg b l)}):JY (JZ prog w) A (Kh (.ref l)) R E s:=by
 cases b with
 |false=>exact Kk sq end'
 |true=>exact Kl sq end'
def j8(b:Bool)(l:Addr):(dg b l).isFreed=false:=by cases b<;>rfl
def pS (b:Bool)(g:h.get? it=some (dg b l)):bM b h it l 0:=by
 cases b with
 |false=>exact⟨_,g,rfl,rfl⟩
 |true=>exact⟨_,g,rfl,rfl⟩
noncomputable def zH(b1 b2:Bool)(h:JP)(l1 l2:Addr):JP:=((((h.push (dg b1 l1)).push (dg b2 l2)).push {cls:=.type "tuple",data:=.seq #[.ref h.objs.size,.ref (h.push (dg b1 l1)).objs.size]}).push {cls:=.type "tuple",data:=.seq #[.none,.none]})
noncomputable def zF(b1 b2:Bool)(h:JP)(l1 l2:Addr):JP:=(zH b1 b2 h l1 l2).push {cls:=.type "zip",data:=.fields #[.none,.bool false,.bool false,.ref ((h.push (dg b1 l1)).push (dg b2 l2)).objs.size,.ref (((h.push (dg b1 l1)).push (dg b2 l2)).push {cls:=.type "tuple",data:=.seq #[.ref h.objs.size,.ref (h.push (dg b1 l1)).objs.size]}).objs.size]}
def F9(b1 b2:Bool)(l1 l2:Addr)(xs ys:Array Value):
  Meets (Builtin.«zip.__new__» ⟨[.type "zip",.ref l1,.ref l2],[]⟩) (λ_ R s=>bV b1 s.heap l1 xs/\bV b2 s.heap l2 ys/\R (.ok (.ret (.ref (zH b1 b2 s.heap l1 l2).objs.size))) {s with heap:=zF b1 b2 s.heap l1 l2}):=
 .of_wp λprog w A R s h=>by
  obtain⟨hp,g,d,tk,os⟩:=s;obtain⟨q1,q2,h⟩:=h;have sb:=sub_zip;have k1:bV b1 (Shared.heap ⟨hp,g,d,tk,os⟩) l1 xs:=q1;have k2:bV b2 (Shared.heap ⟨hp.push (dg b1 l1),g,d,tk,os⟩) l2 ys:=q2.at λo e=>Qc _ e
  wp_walk using oQ b1 k1,oQ b2 k2
  exact⟨_,rfl,h⟩
def FO (b1 b2:Bool)(q1:bV b1 s.heap l1 xs)(q2:bV b2 s.heap l2 ys)(end':∀h',L4 h' (s.heap.objs.size+4) (s.heap.objs.size+2) (s.heap.objs.size+3) .none->L5 h' (s.heap.objs.size+2) (.ref s.heap.objs.size) (.ref (s.heap.objs.size+1))->L5 h' (s.heap.objs.size+3) .none .none ->
   bM b1 h' s.heap.objs.size l1 0->bM b2 h' (s.heap.objs.size+1) l2 0->(∀c o,s.heap.get? c=some o->h'.get? c=some o)->R (.ref (s.heap.objs.size+4)) {s with heap:=h' }):
  JY (JZ prog w) A (call (.type "zip") [.ref l1,.ref l2]) R E s:=by
 refine callType_new F.called_zip (by decide) (F.typeCall_zip_2 _ _) (F.newCall_zip_2 _ _) (λobj=>F.args_object_init_3 obj _ _) F.entry_zip_new (F9 b1 b2 l1 l2 xs ys) ⟨q1,q2,?_⟩;obtain⟨a1,e1⟩:∃a,a=s.heap.push (dg b1 l1):=⟨_,rfl⟩;obtain⟨a2,e2⟩:∃a,a=a1.push (dg b2 l2):=⟨_,rfl⟩;obtain⟨a3,e3⟩:∃a,a=a2.push {cls:=.type "tuple",data:=.seq #[.ref s.heap.objs.size,.ref a1.objs.size]}:=⟨_,rfl⟩;obtain⟨a4,e4⟩:∃a,a=a3.push {cls:=.type "tuple",data:=.seq #[.none,.none]}:=⟨_,rfl⟩;obtain⟨a5,e5⟩:∃a,a=a4.push {cls:=.type "zip",data:=.fields #[.none,.bool false,.bool false,.ref a2.objs.size,.ref a3.objs.size]}:=⟨_,rfl⟩;have f4:zH b1 b2 s.heap l1 l2=a4:=by rw[e4,e3,e2,e1];rfl
 have f5:zF b1 b2 s.heap l1 l2=a5:=by rw[e5,e4,e3,e2,e1];rfl
 rw[f4,f5];have z1:a1.objs.size=s.heap.objs.size+1:=by rw[e1,WJ]
 have z2:a2.objs.size=s.heap.objs.size+2:=by rw[e2,WJ,z1]
 have z3:a3.objs.size=s.heap.objs.size+3:=by rw[e3,WJ,z2]
 have z4:a4.objs.size=s.heap.objs.size+4:=by rw[e4,WJ,z3]
 have u5:∀c o,a4.get? c=some o->a5.get? c=some o:=λc o e=>by rw[e5];exact Qc _ e
 have u4:∀c o,a3.get? c=some o->a5.get? c=some o:=λc o e=>u5 c o (by rw[e4];exact Qc _ e);have u3:∀c o,a2.get? c=some o->a5.get? c=some o:=λc o e=>u4 c o (by rw[e3];exact Qc _ e);have u2:∀c o,a1.get? c=some o->a5.get? c=some o:=λc o e=>u3 c o (by rw[e2];exact Qc _ e);have u1:∀c o,s.heap.get? c=some o->a5.get? c=some o:=λc o e=>u2 c o (by rw[e1];exact Qc _ e);have g5:a5.get? a4.objs.size=some {cls:=.type "zip",data:=.fields #[.none,.bool false,.bool false,.ref a2.objs.size,.ref a3.objs.size]}:=by rw[e5];exact Qe _ rfl
 have g4:a5.get? a3.objs.size=some {cls:=.type "tuple",data:=.seq #[.none,.none]}:=u5 _ _ (by rw[e4];exact Qe _ rfl);have g3:a5.get? a2.objs.size=some {cls:=.type "tuple",data:=.seq #[.ref s.heap.objs.size,.ref a1.objs.size]}:=u4 _ _ (by rw[e3];exact Qe _ rfl);have g2:a5.get? a1.objs.size=some (dg b2 l2):=u3 _ _ (by rw[e2];exact Qe _ (j8 b2 l2));have g1:a5.get? s.heap.objs.size=some (dg b1 l1):=u2 _ _ (by rw[e1];exact Qe _ (j8 b1 l1));rw[z1,z2]at g3;rw[z2,z3,z4]at g5;rw[z3]at g4;rw[z1]at g2;rw[z4];exact⟨⟨_,g5,rfl⟩,end' a5 g5 g3 g4 (pS b1 g1) (pS b2 g2) u1⟩
end
section
variable{prog:JM}{w:JN}{A:JW}{E:Value->Shared->Prop}{s:Shared}{z TI TO i1 i2 l1 l2:Addr}{i:Nat}{xs ys:Array Value}{a b:Value}
def DC(b1 b2:Bool){R:Value->Shared->Prop}(D:ZipApart z TI TO i1 i2 l1 l2)(hz:L4 s.heap z TI TO .none)(hI:L5 s.heap TI (.ref i1) (.ref i2))(hO:L5 s.heap TO a b)
  (h1:bM b1 s.heap i1 l1 i) (h2:bM b2 s.heap i2 l2 i) (q1:bV b1 s.heap l1 xs) (q2:bV b2 s.heap l2 ys) (hx:i<xs.size) (hy:i<ys.size)
  (end':∀h',L4 h' z TI TO (Kj s.heap.objs.size)->L5 h' TO xs[i] ys[i]->bM b1 h' i1 l1 (i+1)->bM b2 h' i2 l2 (i+1)->L5 h' s.heap.objs.size xs[i] ys[i] ->
   (∀c o,c≠z->c≠TO->c≠i1->c≠i2->s.heap.get? c=some o->h'.get? c=some o)->R (.ref s.heap.objs.size) {s with heap:=h' }) :
  JY (JZ prog w) A (Builtin.«zip.__next__» ⟨[.ref z],[]⟩) (λfin s'=>∃v,fin=.done (.ret v)/\R v s') E s:=by
 apply Kb (m:=L1 (.ref z) 2);apply KJ hz rfl (x:=.bool false) rfl;apply Kb (m:=L1 (.ref z) 3);apply KJ hz rfl (x:=.ref TI) rfl;apply Kb;apply L3 hI rfl;apply Kb (m:=Builtin.SmallTypes.ownedTupleIsFree (.ref z));unfold Builtin.SmallTypes.ownedTupleIsFree;refine Kb (KJ hz rfl (x:=.none) rfl (Ki ?_));simp only[if_true];refine Kb (Lg (Kb (KJ hz rfl (x:=.ref TO) rfl ?_)));refine Kb (L6 hz (by simp) λm1 z1 c1=>?_);have z1:L4 m1 z TI TO .ellipsis:=z1;apply Kb;simp only[VJ,List.zipIdx_nil,Vq,W7];apply Kb;apply Kb;apply L7;apply Kb (m:=Builtin.SmallTypes.nextOf (.ref i1));refine lr b1 (h1.at λo e=>c1.extBut _ o D.i1z e) (q1.at λo e=>c1.extBut _ o D.l1z e) hx λm2 j1 c2=>Ki ?_;have o2:L5 m2 TO a b:=c2.extBut _ _ D.TOi1 (c1.extBut _ _ D.TOz hO);refine Kb (L3 o2 rfl (Kb (L8 o2 λm3 o3 c3=>?_)));have o3:L5 m3 TO xs[i] b:=o3;refine Kb (L9 (Ki ?_));apply Kb;apply Kb;apply L7;apply Kb (m:=Builtin.SmallTypes.nextOf (.ref i2));refine lr b2 (h2.at λo e=>c3.extBut _ o D.TOi2.symm (c2.extBut _ o D.i12.symm (c1.extBut _ o D.i2z e))) (q2.at λo e=>c3.extBut _ o D.l2TO (c2.extBut _ o D.l2i1 (c1.extBut _ o D.l2z e))) hy λm4 j2 c4=>Ki ?_;have o4:L5 m4 TO xs[i] b:=c4.extBut _ _ D.TOi2 o3;refine Kb (L3 o4 rfl (Kb (L8 o4 λm5 o5 c5=>?_)));have o5:L5 m5 TO xs[i] ys[i]:=o5;refine Kb (L9 (Ki (Ki ?_)));refine Kb (L3 o5 rfl (Kb (LP ?_)));have sz:m5.objs.size=s.heap.objs.size:=by rw[c5.1,c4.1,c3.1,c2.1,c1.1]
 have z5:L4 m5 z TI TO .ellipsis:=c5.extBut _ _ D.TOz.symm (c4.extBut _ _ D.i2z.symm (c3.extBut _ _ D.TOz.symm (c2.extBut _ _ D.i1z.symm z1)));have up5:∀c o,c≠z->c≠TO->c≠i1->c≠i2->s.heap.get? c=some o->m5.get? c=some o:=λc o y1 y2 y3 y4 e=>c5.extBut _ _ y2 (c4.extBut _ _ y4 (c3.extBut _ _ y2 (c2.extBut _ _ y3 (c1.extBut _ _ y1 e))));have k1:bM b1 m5 i1 l1 (i+1):=j1.at λo e=>c5.extBut _ o D.TOi1.symm (c4.extBut _ o D.i12 (c3.extBut _ o D.TOi1.symm e));have k2:bM b2 m5 i2 l2 (i+1):=j2.at λo e=>c5.extBut _ o D.TOi2.symm e;have zl:z<m5.objs.size:=Qi z5;apply Kb (m:=Builtin.SmallTypes.ownedTupleHandOut (.ref z) (.ref m5.objs.size));unfold Builtin.SmallTypes.ownedTupleHandOut;have z6:L4 (m5.push {cls:=.type "tuple",data:=.seq #[xs[i],ys[i]]}) z TI TO .ellipsis:=Qc _ z5;refine Kb (L6 z6 (by simp) λm7 z7 c7=>?_);have z7:L4 m7 z TI TO (Kj m5.objs.size):=z7;refine L6 z7 (by simp) λm8 z8 c8=>?_;have z8:L4 m8 z TI TO (Kj m5.objs.size):=z8;have up:∀c o,c≠z->m5.get? c=some o->m8.get? c=some o:=λc o y e=>c8.extBut _ _ y (c7.extBut _ _ y (Qc _ e));have t8:L5 m8 m5.objs.size xs[i] ys[i]:=c8.extBut _ _ (WE zl) (c7.extBut _ _ (WE zl) (Qe _ rfl));rw[sz]at z8 t8;refine Ki ⟨_,rfl,?_⟩;change R (.ref m5.objs.size) _;rw[sz];exact end' m8 z8 (up _ _ D.TOz o5) (k1.at λo e=>up _ o D.i1z e) (k2.at λo e=>up _ o D.i2z e) t8 λc o y1 y2 y3 y4 e=>up c o y1 (up5 c o y1 y2 y3 y4 e)
def DB (b1 b2:Bool)(quiet:A.handled=none)(D:ZipApart z TI TO i1 i2 l1 l2)(hz:L4 s.heap z TI TO .none)(hI:L5 s.heap TI (.ref i1) (.ref i2))(hO:L5 s.heap TO a b)(h1:bM b1 s.heap i1 l1 i)(h2:bM b2 s.heap i2 l2 i)(q1:bV b1 s.heap l1 xs)(q2:bV b2 s.heap l2 ys)(hn:xs.size<=i\/ys.size<=i)(end':∀h' e,(∀c o,c≠z->c≠TO->c≠i1->c≠i2->s.heap.get? c=some o->h'.get? c=some o)->(∃o,h'.get? e=some o/\o.cls=.type "StopIteration")->E (.ref e) {s with heap:=h' }):
  JY (JZ prog w) A (Builtin.«zip.__next__» ⟨[.ref z],[]⟩) R E s:=by
 apply Kb (m:=L1 (.ref z) 2);apply KJ hz rfl (x:=.bool false) rfl;apply Kb (m:=L1 (.ref z) 3);apply KJ hz rfl (x:=.ref TI) rfl;apply Kb;apply L3 hI rfl;apply Kb (m:=Builtin.SmallTypes.ownedTupleIsFree (.ref z));unfold Builtin.SmallTypes.ownedTupleIsFree;refine Kb (KJ hz rfl (x:=.none) rfl (Ki ?_));simp only[if_true];refine Kb (Lg (Kb (KJ hz rfl (x:=.ref TO) rfl ?_)));refine Kb (L6 hz (by simp) λm1 z1 c1=>?_);have z1:L4 m1 z TI TO .ellipsis:=z1;apply Kb;simp only[VJ,List.zipIdx_nil,Vq,W7];apply Kb;apply Kb;apply L7;apply Kb (m:=Builtin.SmallTypes.nextOf (.ref i1));by_cases hx:i<xs.size
 .have hy:ys.size<=i:=by lia
  refine lr b1 (h1.at λo e=>c1.extBut _ o D.i1z e) (q1.at λo e=>c1.extBut _ o D.l1z e) hx λm2 j1 c2=>Ki ?_;have o2:L5 m2 TO a b:=c2.extBut _ _ D.TOi1 (c1.extBut _ _ D.TOz hO);refine Kb (L3 o2 rfl (Kb (L8 o2 λm3 o3 c3=>?_)));refine Kb (L9 (Ki ?_));apply Kb;apply Kb;apply L7;apply Kb (m:=Builtin.SmallTypes.nextOf (.ref i2));refine oR b2 quiet (h2.at λo e=>c3.extBut _ o D.TOi2.symm (c2.extBut _ o D.i12.symm (c1.extBut _ o D.i2z e))) (q2.at λo e=>c3.extBut _ o D.l2TO (c2.extBut _ o D.l2i1 (c1.extBut _ o D.l2z e))) hy λm4 e c4 he=>?_;obtain⟨oe,ge,ce⟩:=he;have z4:L4 m4 z TI TO .ellipsis:=c4 _ _ D.i2z.symm (c3.extBut _ _ D.TOz.symm (c2.extBut _ _ D.i1z.symm z1));have ez:e≠z:=λx=>by subst x;rw[z4]at ge;cases ge;simp at ce
  exact L6 z4 (by simp) λm5 _ c5=>end' m5 e (λc o y1 y2 y3 y4 x=>c5.extBut _ _ y1 (c4 _ _ y4 (c3.extBut _ _ y2 (c2.extBut _ _ y3 (c1.extBut _ _ y1 x))))) ⟨oe,c5.extBut _ _ ez ge,ce⟩
 .refine oR b1 quiet (h1.at λo e=>c1.extBut _ o D.i1z e) (q1.at λo e=>c1.extBut _ o D.l1z e) (by lia) λm2 e c2 he=>?_;obtain⟨oe,ge,ce⟩:=he;have z2:L4 m2 z TI TO .ellipsis:=c2 _ _ D.i1z.symm z1;have ez:e≠z:=λx=>by subst x;rw[z2]at ge;cases ge;simp at ce
  exact L6 z2 (by simp) λm3 _ c3=>end' m3 e (λc o y1 y2 y3 y4 x=>c3.extBut _ _ y1 (c2 _ _ y3 (c1.extBut _ _ y1 x))) ⟨oe,c3.extBut _ _ ez ge,ce⟩
end
def dv(b:Bool)(K:Qb)(H:Hp)(l:Addr)(xs:List V):Prop:=match b with
 |false=>bE K H l xs
 |true=>bI K H l xs
def Inv.sqB (I:Inv X pins σ H s)(b:Bool)(h:dv b X.K H l xs):∃its:List Value,av xs its/\bV b s.heap l its.toArray:=by
 cases b with
 |false=>obtain⟨its,r,p,_⟩:=I.list h;exact⟨its,r,p.isList⟩
 |true=>obtain⟨its,r,p,_⟩:=I.tuple h;exact⟨its,r,p⟩
def Inv.sqB_inj (I:Inv X pins σ H s)(b:Bool)(h:dv b X.K H l xs)(h':dv b X.K H l ys):xs=ys:=by
 cases b with
 |false=>exact I.list_inj h h'
 |true=>exact I.tuple_inj h h'
noncomputable def i9(b1 b2:Bool)(K:Qb)(l1 l2:Addr):It:=
 ⟨λi H=>∃xs ys x y,dv b1 K H l1 xs/\dv b2 K H l2 ys/\xs[i]?=some x/\ys[i]?=some y,
  λi H v H'=>∃x y,Yp H v H' x y/\(∀xs,dv b1 K H l1 xs->xs[i]?=some x)/\∀ys,dv b2 K H l2 ys->ys[i]?=some y,
  λi H=>∃xs ys,dv b1 K H l1 xs/\dv b2 K H l2 ys/\(xs.length<=i\/ys.length<=i)⟩
def FN (b1 b2:Bool){K:Qb}(z TI TO i1 i2 l1 l2:Addr)(D:ZipApart z TI TO i1 i2 l1 l2):
  cX P w K (.Tuple elts k pt) (i9 b1 b2 K l1 l2) [z,TI,TO,i1,i2] z (λi h=>L4 h z TI TO .none/\L5 h TI (.ref i1) (.ref i2)/\(∃a b,L5 h TO a b)/\bM b1 h i1 l1 i/\bM b2 h i2 l2 i) where
 mem:=by simp
 obj:=λi h st b hb=>by
  obtain⟨hz,hI,⟨a,c,hO⟩,h1,h2⟩:=st;simp only[Qn,WY,or_false]at hb;rcases hb with rfl|rfl|rfl|rfl|rfl
  .exact ⟨_,hz,λv z=>by cases z⟩
  .exact ⟨_,hI,λv z=>by cases z⟩
  .exact ⟨_,hO,λv z=>by cases z⟩
  .exact h1.there
  .exact h2.there
 keep:=λi h h' st k=>by
  obtain⟨hz,hI,⟨a,c,hO⟩,h1,h2⟩:=st;exact⟨k z (by simp) _ hz,k TI (by simp) _ hI,⟨a,c,k TO (by simp) _ hO⟩,h1.at λo e=>k i1 (by simp) o e,h2.at λo e=>k i2 (by simp) o e⟩
 item:=by
  intro X hP hw hK hc i pins s σ H E I hf st hg;subst hP hw hK;obtain⟨xs,ys,x,y,s1,s2,hx,hy⟩:=hg;obtain⟨t1,r1,p1⟩:=I.sqB b1 s1;obtain⟨t2,r2,p2⟩:=I.sqB b2 s2;obtain⟨u,hu,ru⟩:=r1.get hx;obtain⟨v,hv,rv⟩:=r2.get hy;obtain⟨hz,hI,⟨a,b,hO⟩,h1,h2⟩:=st;have n1:i<t1.length:=(Qa.mp hu).1;have n2:i<t2.length:=(Qa.mp hv).1;have eu:t1.toArray[i]'(by simpa using n1)=u:=by simpa using (Qa.mp hu).2
  have ev:t2.toArray[i]'(by simpa using n2)=v:=by simpa using (Qa.mp hv).2
  have ty:s.TypeIs (.ref z) "zip":=⟨_,hz,rfl⟩;unfold Kf;apply Kb;apply LK;apply KN ty F.slot_zip_next;refine KO F.slot_zip_next ty F.entry_zip_next (DC b1 b2 D hz hI hO h1 h2 p1 p2 (by simpa using n1) (by simpa using n2) λh' a1 a2 a3 a4 a5 hk=>?_) (F.args_zip_next_1 _);rw[eu,ev]at a2 a5;refine Ki ⟨_,rfl,wpAny_letOwnedTupleGo_zip (s:={s with heap:=h' }) a1 λh'' hz' hs'=>?_⟩;have sT:z<s.heap.objs.size:=Qi hz;have kk:∀b o,b∉[z,TI,TO,i1,i2]->s.heap.get? b=some o->h''.get? b=some o:=λb o hb e=>
   (hs'.2 b λq=>hb (by simp[q])).trans (hk b o (λq=>hb (by simp[q])) (λq=>hb (by simp[q])) (λq=>hb (by simp[q])) (λq=>hb (by simp[q])) e)
  refine⟨.ref s.heap.objs.size,aI H s.heap.objs.size (.tup [x,y]),?_,rfl,⟨x,y,⟨_,I.hok.fresh (Qh _),rfl,rfl⟩,λzs hz=>by rw[I.sqB_inj b1 hz s1];exact hx,λzs hz=>by rw[I.sqB_inj b2 hz s2];exact hy⟩,?_,?_⟩
  .exact nK (s:=s) (t':=s.toks) (its:=[u,v]) I hf kk (Qh _) (show(2:Nat)<=sizeLine by decide) (.cons ru (.cons rv .nil)) ⟨_,(hs'.2 _ (WE sT)).trans a5,rfl,_,rfl⟩
  .refine ⟨hz',?_,⟨u,v,?_⟩,?_,?_⟩
   .exact (hs'.2 TI D.TIz).trans (hk TI _ D.TIz D.TITO D.TIi1 D.TIi2 hI)
   .exact (hs'.2 TO D.TOz).trans a2
   .exact a3.at λo e=>(hs'.2 i1 D.i1z).trans e
   .exact a4.at λo e=>(hs'.2 i2 D.i2z).trans e
  .intro b hb;have hlt:b<s.heap.objs.size:=by
    simp only[Qn,WY,or_false]at hb;obtain⟨_,e1,_⟩:=h1.there;obtain⟨_,e2,_⟩:=h2.there;rcases hb with rfl|rfl|rfl|rfl|rfl
    .exact sT
    .exact Qi hI
    .exact Qi hO
    .exact Qi e1
    .exact Qi e2
   rw[zd (QG hlt)];exact(hf b hb).1
 done:=by
  intro X hP hw hK hc i pins s σ H E I hf st hg;subst hP hw hK;obtain⟨xs,ys,s1,s2,hx⟩:=hg;obtain⟨t1,r1,p1⟩:=I.sqB b1 s1;obtain⟨t2,r2,p2⟩:=I.sqB b2 s2;obtain⟨hz,hI,⟨a,b,hO⟩,h1,h2⟩:=st;have e1:=r1.length;have e2:=r2.length;have ty:s.TypeIs (.ref z) "zip":=⟨_,hz,rfl⟩;unfold Kf;apply Kb;apply LK;apply KN ty F.slot_zip_next;refine KO F.slot_zip_next ty F.entry_zip_next (DB b1 b2 (I.ok.hd hc) D hz hI hO h1 h2 p1 p2 ?_ λh' e hk he=>?_) (F.args_zip_next_1 _)
  .rcases hx with hx|hx
   .exact .inl (by simp;lia)
   .exact .inr (by simp;lia)
  .obtain ⟨o,ho,hc⟩:=he;apply Kb;refine wpAny_isInstance (T:="StopIteration") (b:=true) ⟨o,ho,hc⟩ isSubtype_stop ?_;exact Ki ⟨rfl,I.turnedL (t':=s.toks) hf λb o hb e=>hk b o (λq=>hb (by simp[q])) (λq=>hb (by simp[q])) (λq=>hb (by simp[q])) (λq=>hb (by simp[q])) e⟩
 self:=λ_ _ _ _ _ st h=>wpAny_pyIter_zip st.1 h
section
variable{X:Cx}{elts:List Expr}{k:Nat}{pt:Pos}
def lq(K:Qb)(ta:TA):TI:=λσ H R=>ta σ H λvs H1=>∃b1 b2 l1 l2 xs ys,vs=[.ref l1,.ref l2]/\dv b1 K H1 l1 xs/\dv b2 K H1 l2 ys/\R (i9 b1 b2 K l1 l2) H1
def gZ (hg:Gl X "zip")(hm:X.mg "zip"=none)(ha:PA X [a,b] ta)(hs:J1 [a,b] X.env=[(false,eval a X.env),(false,eval b X.env)]:=by rfl)(hs2:J1 [b] X.env=[(false,eval b X.env)]:=by rfl):
  PI X (.Tuple elts k pt) (.Call (.Name "zip" p) [a,b] [] pos) (lq X.K ta):=by
 intro pins s σ H R I h;refine Call_ (x9 I hg hm PyProof.Rows.boot_zip (PyProof.Rows.callWith_type1 (ba (ha pos pins s σ H _ I h) λus s1 ⟨vs,H1,I1,r1,q1⟩=>?_) (by rw[hs,hs2]) (by rw[hs2];rfl)));obtain⟨b1,b2,l1,l2,xs,ys,e,g1,g2,q⟩:=q1;subst e;cases r1 with
 |cons r rr=>
  cases rr with
  |cons r' rr=>
   cases rr;cases r;cases r';obtain⟨its1,rv1,p1⟩:=I1.sqB b1 g1;obtain⟨its2,rv2,p2⟩:=I1.sqB b2 g2;have lt:∀b l its,bV b s1.heap l its->l<s1.heap.objs.size:=λb l its p=>by
    cases b with
    |false=>obtain⟨o,e,_⟩:=p;exact Qi e
    |true=>obtain⟨o,e,_⟩:=p;exact Qi e
   refine FO b1 b2 p1 p2 λh' hz hTI hTO hi1 hi2 hk=>?_;refine wpAny_pyIter_zip (s:={s1 with heap:=h' }) hz ?_;refine⟨_,_,_,_,H1,rfl,I1.kept (t':=s1.toks) hk,FN b1 b2 (s1.heap.objs.size+4) (s1.heap.objs.size+2) (s1.heap.objs.size+3) s1.heap.objs.size (s1.heap.objs.size+1) l1 l2 (zipApart_new (lt b1 l1 _ p1) (lt b2 l2 _ p2)),⟨hz,hTI,⟨_,_,hTO⟩,hi1,hi2⟩,λb hb=>?_,q⟩;have hb':s1.heap.objs.size<=b:=by
    simp only[Qn,WY,or_false]at hb;rcases hb with rfl|rfl|rfl|rfl|rfl<;>first|exact Nat.le_add_right _ _|exact Qh _
   exact I1.fpOk hb' (I1.hok.fresh hb')
end
end L2
namespace Mini
open PySem PySem.Spec PyProof.Rows L2
section
variable{cl:Nat->List Wd->Me->Rz}{K:Qb}
def aK.updD{as:List Addr}{m:Me}{H:Hp}{D:Addr}{ys:List V}{o:HO}(S:aK K as m H)(hD:H D=some (.lst ys))(hn:D∉as):aK K as m (aI H D o):=by
 refine⟨S.len,S.nd,λl b ob h1 h2=>?_⟩;have q:=S.obj l b ob h1 h2;have hb:b≠D:=by rintro rfl;exact hn (Qp h1)
 cases ob with
 |lst zs=>
  obtain⟨us,e,r⟩:=q;exact⟨us,by rw[zd hb];exact e,r.kp (Kp.upd hD)⟩
 |dct ks ws=>exact bz.mono (ob:=.dct ks ws) (Kp.upd hD) (λ_ _ e=>e) (λo e=>by rw[zd hb];exact e) q
def aK.join{as:List Addr}{m:Me}{H:Hp}{D:Addr}{ys:List V}{acc:List Wd}(S:aK K as m H)(hD:H D=some (.lst ys))(hn:D∉as)(R:aa K as H acc ys):aK K (as++[D]) (m++[.lst acc]) H:=by
 have g:∀(l:Nat) (a:Addr),as[l]?=some a->(as++[D])[l]?=some a:=λl a e=>by
  rw[Qf (Qa.mp e).1];exact e
 have kp:Kp K H H:=⟨λ_ _ h=>h,λ_ _ h=>h⟩;refine⟨by simp[S.len],?_,λl b o h1 h2=>?_⟩
 .refine QN.mpr ⟨S.nd,by simp,λx hx y hy=>?_⟩;rw[Qq.mp hy];rintro rfl;exact hn hx
 .by_cases hl:l<as.length
  .rw[Qf hl]at h1;rw[Qf (by rw[<-S.len];exact hl)]at h2;have q:=S.obj l b o h1 h2;cases o with
   |lst zs=>
    obtain⟨us,e,r⟩:=q;exact⟨us,e,bb kp g _ _ r⟩
   |dct ks ws=>exact bz.mono (ob:=.dct ks ws) kp g (λo e=>e) q
  .rw[Qd (by lia)]at h1;rw[Qd (by rw[<-S.len];lia)]at h2;have hz:l-as.length=0:=by
    cases hq:l-as.length with
    |zero=>rfl
    |succ k=>rw[hq]at h1;simp at h1
   rw[hz]at h1;rw[<-S.len,hz]at h2;simp at h1 h2;subst h1;subst h2;exact⟨ys,hD,bb kp g _ _ R⟩
def Step.updD{as as':List Addr}{H H':Hp}{D:Addr}{o:HO}(T:Step as H as' H')(hD:H D=none):Step as H as' (aI H' D o):=
 ⟨T.pre,λb ob h hb=>by rw[zd (zo h hD)];exact T.frame b ob h hb,T.fresh⟩
def Step.join{as as':List Addr}{H H':Hp}{D:Addr}(T:Step as H as' H')(hD:H D=none):Step as H (as'++[D]) H':=by
 refine⟨?_,T.frame,λa ha=>?_⟩
 .obtain ⟨t,rfl⟩:=T.pre;exact⟨t++[D],by simp⟩
 .rcases Qx.mp ha with z|z
  .exact T.fresh a z
  .rw[Qq.mp z];exact .inr hD
def xX (S:aK K as' m H')(T:Step as H as' H')(h0:H D=none)(hD:H' D=some (.lst ys))(hn:D∉as')(R:aa K as' H' acc ys)(h:ak K as H Q (alloc m acc)):Q (.ref D) H':=by
 unfold Mini.alloc at h;split at h
 .refine h (as'++[D]) H' (.ref D) (T.join h0) (S.join hD hn R) (aG.mpr ⟨D,?_,rfl⟩);rw[<-S.len,Qd (Qh _)];simp
 .exact h.elim
structure cH(K:Qb)(as:List Addr)(H:Hp)(D:Addr)(env:En)(σ:St)(as':List Addr)(m':Me)(acc:List Wd)(ys:List V)(H':Hp):Prop where
 T:Step as H as' H'
 S:aK K as' m' H'
 hD:H' D=some (.lst ys)
 n:D∉as'
 R:aa K as' H' acc ys
 G:aF K as' H' env σ
def cH.go{as:List Addr}{H:Hp}{D:Addr}{env:En}{σ:St}{as' as2:List Addr}{m' m2:Me}{acc:List Wd}{ys:List V}{H' H2:Hp}(M:cH K as H D env σ as' m' acc ys H')(U:Step as' H' as2 H2)(S2:aK K as2 m2 H2):cH K as H D env σ as2 m2 acc ys H2:=
 ⟨M.T.trans U,S2,U.frame _ _ M.hD M.n,U.out M.hD M.n,M.R.mono M.S U,M.G.mono M.S U⟩
def cH.push{as:List Addr}{H:Hp}{D:Addr}{env:En}{σ:St}{as':List Addr}{m':Me}{acc:List Wd}{ys:List V}{H':Hp}{w:Wd}{v:V}(M:cH K as H D env σ as' m' acc ys H')(h0:H D=none)(R:ah K as' H' w v):
  cH K as H D env σ as' m' (acc++[w]) (ys++[v]) (aI H' D (.lst (ys++[v]))):=by
 have kp:Kp K H' (aI H' D (.lst (ys++[v]))):=Kp.upd M.hD;exact⟨M.T.updD h0,M.S.updD M.hD M.n,ze,M.n,(M.R.append (.one R)).kp kp,M.G.kp kp⟩
set_option tactic.hygienic true in
def wE{elt cond:Ex}{tc:TT}(htc:∀σ H Q,xz K (ag cl cond) σ H Q->tc σ H Q){as1 as':List Addr}{H1 H':Hp}{D:Addr}{env ex:En}{σ sx:St}{m':Me}{acc:List Wd}{ys:List V}{Q:VK}{next:List Wd->Me->Rz}{N:List V->Hp->Prop}
  (h0:H1 D=none) (M:cH K as1 H1 D env σ as' m' acc ys H') (G:aF K as' H' (env++ex) (σ++sx))
  (Pt:ak K as1 H1 Q ((ag cl cond (env++ex) m').bind λb m1=>match b with
     |.bl true=>(ag cl elt (env++ex) m1).bind λy m2=>if acc.length<aq then next (acc++[y]) m2 else .no
     |.bl false=>next acc m1
     |_=>.no))
  (hN:∀as2 m2 acc' ys' H2,Kp K H' H2->(∀(l:Nat) (a:Addr),as'[l]?=some a->as2[l]?=some a)->cH K as1 H1 D env σ as2 m2 acc' ys' H2->ak K as1 H1 Q (next acc' m2)->N ys' H2) :
  tc (σ++sx) H' λb H2=>if b=true then aM K (ag cl elt) (σ++sx) H2 λy H3=>H3 D=some (.lst ys)/\ys.length<sizeLine/\N (ys++[y]) (aI H3 D (.lst (ys++[y])))else N ys H2:=by
 refine htc _ _ _ ⟨as',env++ex,m',M.S,G,fi Pt M.T λwb m2 as2 H2 vb T2 S2 R2 P2=>?_⟩;have M2:=M.go T2 S2;cases wb with
 |bl k=>
  obtain rfl:=ai.mp R2;refine⟨k,rfl,?_⟩;cases k with
  |false=>exact fm (hN as2 m2 acc ys H2 (M.S.kp T2) (λ_ _ e=>T2.get e) M2 P2)
  |true=>
   refine fk ⟨as2,env++ex,m2,S2,G.mono M.S T2,fi P2 M2.T λwy m3 as3 H3 vy T3 S3 R3 P3=>?_⟩;have M3:=M2.go T3 S3;have P3':ak K as1 H1 Q (if acc.length<aq then next (acc++[wy]) m3 else .no):=P3;by_cases hl:acc.length<aq
   .rw[Mk hl]at P3';refine⟨M3.hD,by rw[<-M3.R.length];exact Ql hl yT,hN as3 m3 (acc++[wy]) (ys++[vy]) _ ?_ (λ_ _ e=>T3.get (T2.get e)) (M3.push h0 R3) P3'⟩;have k1:=M.S.kp T2;have k2:=S2.kp T3;have k3:Kp K H3 (aI H3 D (.lst (ys++[vy]))):=Kp.upd M3.hD;exact⟨λa vs q=>k3.t _ _ (k2.t _ _ (k1.t _ _ q)),λa vs q=>k3.f _ _ (k2.f _ _ (k1.f _ _ q))⟩
   .rw[Ml hl]at P3';exact P3'.elim
 |_=>exact P2.elim
def cH.start{as as1:List Addr}{H H1:Hp}{D:Addr}{env:En}{σ:St}{m1:Me}(S1:aK K as1 m1 H1)(G1:aF K as1 H1 env σ)(hD:H1 D=none):cH K as1 H1 D env σ as1 m1 [] [] (aI H1 D (.lst [])):=by
 have T:Step as1 H1 as1 (aI H1 D (.lst [])):=Step.updD .refl hD;exact⟨T,S1.keep T λb _ o e=>by rw[zd (zo e hD)];exact e,ze,S1.new hD,au.mpr rfl,G1.mono S1 T⟩
def g0(K:Qb)(as:List Addr)(H:Hp)(J:It)(g:Nat->Me->Option (Option (Wd×Wd))):Prop:=
 ∀(as':List Addr) (m':Me) (H':Hp),(∀(l:Nat) (a:Addr),as[l]?=some a->as'[l]?=some a)->Step as H as' H'->aK K as' m' H'->∀i,
  (g i m'=some none->J.stop i H')/\∀x y,g i m'=some (some (x,y))->J.go i H'/\∀v H'',J.yld i H' v H''->∃x' y',Yp H' v H'' x' y'/\ah K as' H' x x'/\ah K as' H' y y'
def F8 {cond:Ex}{tc:TT}(htc:∀σ H Q,xz K (ag cl cond) σ H Q->tc σ H Q)(hJ:g0 K as1 H1 J g)(S1:aK K as1 m1 H1)(G1:aF K as1 H1 env σ)(P:ak K as1 H1 Q (yg (λu v m=>ag cl cond (env++[some u]++[some v]) m) (λu v m=>ag cl elt (env++[some u]++[some v]) m) g (aq+1) 0 [] m1)):
  ∀D,H1 D=none->∃W:Nat->Nat->List V->Hp->Prop,(∃m,W 0 m [] (aI H1 D (.lst [])))/\∀i m ys H,W i m ys H ->
   (J.stop i H/\Q (.ref D) H)\/(J.go i H/\∀v H',J.yld i H v H'->∃vs,iD K v H' vs/\tc (σ++vs.map some) H' λb H2=>if b=true then aM K (ag cl elt) (σ++vs.map some) H2 λy H3=>H3 D=some (.lst ys)/\ys.length<sizeLine/\∃m',m'<m/\W (i+1) m' (ys++[y]) (aI H3 D (.lst (ys++[y])))
    else ∃m',m'<m/\W (i+1) m' ys H2):=by
 intro D hD;refine⟨λi n ys H'=>∃as' m' acc,(∀(l:Nat) (a:Addr),as1[l]?=some a->as'[l]?=some a)/\cH K as1 H1 D env σ as' m' acc ys H' /\
  ak K as1 H1 Q (yg (λu v m=>ag cl cond (env++[some u]++[some v]) m) (λu v m=>ag cl elt (env++[some u]++[some v]) m) g n i acc m'),⟨aq+1,as1,m1,[],λ_ _ e=>e,cH.start (as:=as1) (H:=H1) S1 G1 hD,P⟩,?_⟩
 rintro i n ys H' ⟨as',m',acc,hl,M,Pi⟩;cases n with
 |zero=>exact Pi.elim
 |succ n=>
  unfold yg at Pi;obtain⟨q1,q2⟩:=hJ as' m' H' hl M.T M.S i;cases e:g i m' with
  |none=>rw[e]at Pi;exact Pi.elim
  |some o=>
   rw[e]at Pi;cases o with
   |none=>exact .inl ⟨q1 e,xX M.S M.T hD M.hD M.n M.R Pi⟩
   |some p=>
    obtain⟨x,y⟩:=p;simp only[]at Pi;obtain⟨go,yl⟩:=q2 x y e;refine .inr ⟨go,λv H'' hy=>?_⟩;obtain⟨x',y',⟨T,hT,rfl,rfl⟩,Rx,Ry⟩:=yl v H'' hy;refine⟨[x',y'],⟨T,rfl,bI.of ze,rfl⟩,?_⟩;have U:Step as' H' as' (aI H' T (.tup [x',y'])):=Step.updD .refl hT;have S2:aK K as' m' (aI H' T (.tup [x',y'])):=M.S.keep U λb _ o e=>by rw[zd (zo e hT)];exact e
    have M2:=M.go U S2;have G2:aF K as' (aI H' T (.tup [x',y'])) (env++[some x,some y]) (σ++[x',y'].map some):=by
     have:=(M2.G.push (Rx.mono M.S U)).push (Ry.mono M.S U);simpa using this
    refine wE htc (ex:=[some x,some y]) (next:=λacc m=>yg (λu v m=>ag cl cond (env++[some u]++[some v]) m) (λu v m=>ag cl elt (env++[some u]++[some v]) m) g n (i+1) acc m)
     (N:=λzs H2=>∃n',n'<n+1/\∃as' m' acc,(∀(l:Nat) (a:Addr),as1[l]?=some a->as'[l]?=some a)/\cH K as1 H1 D env σ as' m' acc zs H2/\ak K as1 H1 Q (yg (λu v m=>ag cl cond (env++[some u]++[some v]) m) (λu v m=>ag cl elt (env++[some u]++[some v]) m) g n' (i+1) acc m')) hD M2 G2 (by rw[show env++[some x]++[some y]=env++[some x,some y]from by simp]at Pi;exact Pi) ?_
    intro as2 m2 acc' ys' H2 kp gg M3 P3;exact⟨n,WB _,as2,m2,acc',λl a e=>gg _ _ (hl l a e),M3,P3⟩
def cJ(b:Bool)(K:Qb)(as:List Addr)(H:Hp)(w:Wd)(l:Addr):Prop:=match b with
 |false=>∃la,w=.ref la/\as[la]?=some l
 |true=>∃xs vs,w=.tup xs/\bI K H l vs/\aa K as H xs vs
def cJ.now (h:cJ b K as H w l)(S:aK K as m H)(T:Step as H as' H')(S':aK K as' m' H')(e:w5 m' w=some xs):∃vs,dv b K H' l vs/\aa K as' H' xs vs:=by
 cases b with
 |false=>
  obtain⟨la,rfl,ha⟩:=h;obtain⟨a',us,ha',eH,RL⟩:=ya S' (zR e);rw[T.get ha]at ha';cases ha';exact⟨us,bE.of eH,RL⟩
 |true=>
  obtain⟨ys,vs,rfl,q,r⟩:=h;cases e;exact⟨vs,(S.kp T).t _ _ q,r.mono S T⟩
theorem cJ.of (S:aK K as m H)(R:ah K as H w v)(e:w5 m w=some xs):∃b l vs,v=.ref l/\cJ b K as H w l/\dv b K H l vs:=by
 cases w with
 |tup ys=>
  obtain⟨l,vs,rfl,q,r⟩:=af.mp R;exact⟨true,l,vs,rfl,⟨ys,vs,rfl,q,r⟩,q⟩
 |ref la=>
  obtain⟨l,ha,rfl⟩:=aG.mp R;obtain⟨a',us,ha',eH,RL⟩:=ya S (zR e);rw[ha]at ha';cases ha';exact⟨false,l,us,rfl,⟨la,rfl,ha⟩,bE.of eH⟩
 |_=>cases e
def jl (S0:aK K as m H)(h1:cJ b1 K as H w1 l1)(h2:cJ b2 K as H w2 l2):g0 K as H (i9 b1 b2 K l1 l2) (zB .zip w1 w2):=by
 intro as' m' H' hl T S i;simp only[zB];cases e1:w5 m' w1 with
 |none=>exact⟨λz=>by simp at z,λx y z=>by simp at z⟩
 |some xs=>
  cases e2:w5 m' w2 with
  |none=>exact⟨λz=>by simp at z,λx y z=>by simp at z⟩
  |some ys=>
   obtain⟨us,q1,RL⟩:=h1.now S0 T S e1;obtain⟨vs,q2,RL2⟩:=h2.now S0 T S e2;simp only;cases ex:xs[i]? with
   |none=>
    refine⟨λ_=>⟨us,vs,q1,q2,.inl ?_⟩,λx y z=>by simp at z⟩;rw[<-RL.length];exact Wf.mp ex
   |some x=>
    cases ey:ys[i]? with
    |none=>
     refine⟨λ_=>⟨us,vs,q1,q2,.inr ?_⟩,λx y z=>by simp at z⟩;rw[<-RL2.length];exact Wf.mp ey
    |some y=>
     refine⟨λz=>by simp at z,λx2 y2 z=>?_⟩;simp only[Option.some.injEq,Prod.mk.injEq]at z;obtain⟨rfl,rfl⟩:=z;obtain⟨u0,hu0,Ru⟩:=RL.get ex;obtain⟨v0,hv0,Rv⟩:=RL2.get ey;refine⟨⟨us,vs,u0,v0,q1,q2,hu0,hv0⟩,λv H'' hy=>?_⟩;obtain⟨p,q,yp,k1,k2⟩:=hy;have:=k1 us q1;rw[hu0]at this;cases this;have:=k2 vs q2;rw[hv0]at this;cases this;exact⟨_,_,yp,Ru,Rv⟩
def dt:(Rz.ok w m).bind f=f w m:=rfl
def vd (h:g i m=none):yg c e g (k+1) i acc m=.no:=by
 unfold yg;rw[h]
set_option tactic.hygienic true in
def jm (e:zB .zip w w2 i m=some o):∃xs ys,w5 m w=some xs/\w5 m w2=some ys:=by
 simp only[zB]at e;cases e1:w5 m w with
 |none=>rw[e1]at e;cases e
 |some xs=>
  cases e2:w5 m w2 with
  |none=>rw[e1,e2]at e;cases e
  |some ys=>exact⟨xs,ys,rfl,rfl⟩
def jn {cond:Ex}(htc:∀σ H Q,xz K (ag cl cond) σ H Q->tc σ H Q)(h:aM K (ag cl (.compP .zip elt a b cond)) σ H Q):
  jV (iD K) (lq K (qA (aM K (ag cl a)) (qA (aM K (ag cl b)) iZ))) tc (aM K (ag cl elt)) σ H Q:=by
 obtain⟨as,env,m,S,G,P⟩:=h;have P':ak K as H Q ((ag cl a env m).bind λx m1=>(ag cl b env m1).bind λy m2=>
  yg (λu v m=>ag cl cond (env++[some u]++[some v]) m) (λu v m=>ag cl elt (env++[some u]++[some v]) m) (zB .zip x y) (aq+1) 0 [] m2):=P
 refine⟨as,env,m,S,G,fi P' .refl λw m1 as1 H1 v T1 S1 R1 P1=>?_⟩;refine⟨as1,env,m1,S1,G.mono S T1,fi P1 T1 λw2 m2 as2 H2 v2 T2 S2 R2 P2=>?_⟩;have P3:=ak.step P2 (T1.trans T2);have G2:=(G.mono S T1).mono S1 T2;have look:∃xs ys,w5 m2 w=some xs/\w5 m2 w2=some ys:=by
  cases e:zB .zip w w2 0 m2 with
  |none=>rw[vd e]at P3;exact P3.elim
  |some o=>exact jm e
 obtain⟨xs,ys,e1,e2⟩:=look;obtain⟨b1,l1,us,rfl,s1,q1⟩:=cJ.of S2 (R1.mono S1 T2) e1;obtain⟨b2,l2,vs,rfl,s2,q2⟩:=cJ.of S2 R2 e2;exact⟨b1,b2,l1,l2,us,vs,rfl,q1,q2,F8 htc (jl S2 s1 s2) S2 G2 P3⟩
set_option tactic.hygienic true in
def jo (e:zB .prs w (.int c) i m=some o):∃l xs,w=.ref l/\zj m l=some xs/\((xs[i]?=none/\o=none)\/∃x y,xs[i]?=some (.tup [x,y])/\o=some (x,y)):=by
 cases w with
 |ref l=>
  have e':(match zj m l with
   |some xs=>match xs[i]? with
    |none=>some none
    |some w=>(iA w).map some
   |none=>none)=some o:=e
  cases e1:zj m l with
  |none=>rw[e1]at e';cases e'
  |some xs=>
   simp only[e1]at e';refine⟨l,xs,rfl,e1,?_⟩;cases e2:xs[i]? with
   |none=>simp only[e2]at e';cases e';exact .inl ⟨rfl,rfl⟩
   |some w=>
    simp only[e2]at e';obtain⟨p,hp,rfl⟩:=QJ.mp e'
    right
    unfold iA at hp;split at hp
    .next x y=>cases hp;exact⟨x,y,rfl,rfl⟩
    .cases hp
 |_=>cases e
def F7 {cond:Ex}(htc:∀σ H Q,xz K (ag cl cond) σ H Q->tc σ H Q)(h:aM K (ag cl (.compP .prs elt a (.lit (.int 0)) cond)) σ H Q):
  jV (iD K) (eZ K (ag cl a)) tc (aM K (ag cl elt)) σ H Q:=by
 obtain⟨as,env,m,S,G,P⟩:=h;refine⟨as,env,m,S,G,?_⟩;have hl:∀m1,ag cl (.lit (.int 0)) env m1=.ok (.int 0) m1:=λ_=>rfl;have P':ak K as H Q ((ag cl a env m).bind λx m1=>(ag cl (.lit (.int 0)) env m1).bind λy m2=>
  yg (λu v m=>ag cl cond (env++[some u]++[some v]) m) (λu v m=>ag cl elt (env++[some u]++[some v]) m) (zB .prs x y) (aq+1) 0 [] m2):=P
 clear P;cases hr:ag cl a env m with
 |no=>rw[hr]at P';exact P'
 |exc c w m'=>rw[hr]at P';exact P'
 |ok w m1=>
  rw[hr,dt,hl,dt]at P';have P0:=P';cases e0:zB .prs w (.int 0) 0 m1 with
  |none=>rw[vd e0]at P0;exact P0.elim
  |some o0=>
   obtain⟨l,xs0,rfl,e00,_⟩:=jo e0;refine⟨?_,λas1 H1 J T1 S1 hI D hD=>?_⟩
   .show (zj m1 l).isSome=true;rw[e00];rfl
   .obtain ⟨a,ha,rfl⟩:=hI;have Pc1:=ak.step P0 T1;refine⟨λi n ys H'=>∃as' m' acc,as'[l]?=some a/\cH K as1 H1 D env σ as' m' acc ys H' /\
     ak K as1 H1 Q (yg (λu v m=>ag cl cond (env++[some u]++[some v]) m) (λu v m=>ag cl elt (env++[some u]++[some v]) m) (zB .prs (.ref l) (.int 0)) n i acc m'),⟨aq+1,as1,m1,[],ha,cH.start (as:=as) (H:=H) S1 (G.mono S T1) hD,Pc1⟩,?_⟩
    rintro i n ys H' ⟨as',m',acc,hl,M,Pi⟩;cases n with
    |zero=>exact Pi.elim
    |succ n=>
     cases e:zB .prs (.ref l) (.int 0) i m' with
     |none=>rw[vd e]at Pi;exact Pi.elim
     |some o=>
      unfold yg at Pi;rw[e]at Pi;obtain⟨l',xs,hl',e1,hc⟩:=jo e;cases hl';obtain⟨a',vs,ha',eH,RL⟩:=ya M.S (zR e1);rw[hl]at ha';cases ha';rcases hc with⟨ex,rfl⟩|⟨x,y,ex,rfl⟩
      .have hle:vs.length<=i:=by rw[<-RL.length];exact Wf.mp ex
       exact .inl ⟨⟨vs,bE.of eH,hle⟩,xX M.S M.T hD M.hD M.n M.R Pi⟩
      .obtain ⟨v0,hv0,Rx⟩:=RL.get ex;refine .inr ⟨⟨vs,v0,bE.of eH,hv0⟩,λv H'' hy=>?_⟩;obtain⟨rfl,hy⟩:=hy;have:=hy vs (bE.of eH);rw[hv0]at this;cases this;obtain⟨t,us,rfl,hq,R2⟩:=af.mp Rx;obtain⟨x',y',rfl,Ra,Rb⟩:=pY R2;refine⟨[x',y'],⟨t,rfl,hq,rfl⟩,?_⟩;have G2:aF K as' H'' (env++[some x,some y]) (σ++[x',y'].map some):=by
        have:=(M.G.push Ra).push Rb;simpa using this
       refine wE htc (ex:=[some x,some y]) (next:=λacc m=>yg (λu v m=>ag cl cond (env++[some u]++[some v]) m) (λu v m=>ag cl elt (env++[some u]++[some v]) m) (zB .prs (.ref l) (.int 0)) n (i+1) acc m)
        (N:=λzs H2=>∃n',n'<n+1/\∃as' m' acc,as'[l]?=some a/\cH K as1 H1 D env σ as' m' acc zs H2/\ak K as1 H1 Q (yg (λu v m=>ag cl cond (env++[some u]++[some v]) m) (λu v m=>ag cl elt (env++[some u]++[some v]) m) (zB .prs (.ref l) (.int 0)) n' (i+1) acc m')) hD M G2 (by simp only[]at Pi;rw[show env++[some x]++[some y]=env++[some x,some y]from by simp]at Pi;exact Pi) ?_
       intro as2 m2 acc' ys' H2 kp g M2 P2;exact⟨n,WB _,as2,m2,acc',g _ _ hl,M2,P2⟩
def j9 {cond:Ex}(htc:∀σ H Q,xz K (ag cl cond) σ H Q->tc σ H Q)(h:aM K (ag cl (.comp elt it cond)) σ H Q):
  jV lJ (eZ K (ag cl it)) tc (aM K (ag cl elt)) σ H Q:=by
 obtain⟨as,env,m,S,G,P⟩:=h;refine⟨as,env,m,S,G,?_⟩;have P':ak K as H Q ((ag cl it env m).bind λx m1=>match x with
  |.tup xs=>y8 (λx m=>ag cl cond (env++[some x]) m) (λx m=>ag cl elt (env++[some x]) m) xs [] m1
  |.rol xs=>y8 (λx m=>ag cl cond (env++[some x]) m) (λx m=>ag cl elt (env++[some x]) m) xs [] m1
  |.ref l=>y9 (λx m=>ag cl cond (env++[some x]) m) (λx m=>ag cl elt (env++[some x]) m) l (aq+1) 0 [] m1
  |_=>.no):=P
 clear P;cases hr:ag cl it env m with
 |no=>rw[hr]at P';exact P'
 |exc c w m'=>rw[hr]at P';exact P'
 |ok w m1=>
  rw[hr]at P';have start:∀{as1:List Addr}{H1:Hp}{D:Addr},Step as H as1 H1->aK K as1 m1 H1->H1 D=none->cH K as1 H1 D env σ as1 m1 [] [] (aI H1 D (.lst [])):=λ{as1 H1 D} T1 S1 hD=>cH.start (as:=as) (H:=H) S1 (G.mono S T1) hD
  -- over items that stay
  have seqs:∀(xs:List Wd),ak K as H Q (y8 (λx m=>ag cl cond (env++[some x]) m) (λx m=>ag cl elt (env++[some x]) m) xs [] m1) ->
    ∀as1 H1 J,Step as H as1 H1->aK K as1 m1 H1->iy K as1 H1 J xs->∀D,H1 D=none->∃W:Nat->Nat->List V->Hp->Prop,(∃m,W 0 m [] (aI H1 D (.lst [])))/\∀i m ys H,W i m ys H ->
     (J.stop i H/\Q (.ref D) H)\/(J.go i H/\∀v H',J.yld i H v H'->∃vs,lJ v H' vs/\tc (σ++vs.map some) H' λb H2=>if b=true then aM K (ag cl elt) (σ++vs.map some) H2 λy H3=>H3 D=some (.lst ys)/\ys.length<sizeLine/\∃m',m'<m/\W (i+1) m' (ys++[y]) (aI H3 D (.lst (ys++[y])))
      else ∃m',m'<m/\W (i+1) m' ys H2):=by
   intro xs Pc as1 H1 J T1 S1 hI D hD;obtain⟨vs,ok,hJ,ok1,RL,stab⟩:=hI;have Pc1:=ak.step Pc T1;have hlen:=RL.length;refine⟨λi n ys H'=>∃as' m' acc,i<=xs.length/\n=xs.length-i/\cH K as1 H1 D env σ as' m' acc ys H'/\ok H'/\aa K as' H' xs vs /\
    ak K as1 H1 Q (y8 (λx m=>ag cl cond (env++[some x]) m) (λx m=>ag cl elt (env++[some x]) m) (xs.drop i) acc m'),
    ⟨xs.length,as1,m1,[],WK _,rfl,start T1 S1 hD,stab _ _ (S1.kp (start T1 S1 hD).T) ok1,RL.mono S1 (start T1 S1 hD).T,Pc1⟩,?_⟩
   rintro i n ys H' ⟨as',m',acc,hi,rfl,M,okH,RL',Pi⟩;by_cases hlt:i<xs.length
   .refine .inr ⟨hJ.go i H' okH (by rw[<-hlen];exact hlt),λv H'' hy=>?_⟩;obtain⟨rfl,hv⟩:=hJ.yld i H' v H'' okH (by rw[<-hlen];exact hlt) hy;obtain⟨v',hv',Rx⟩:=RL'.get (i:=i) (x:=xs[i]) (by simp[hlt]);rw[hv]at hv';cases hv';rw[QP hlt]at Pi;refine⟨[v],rfl,wE htc (sx:=[some v]) (next:=λacc m=>y8 (λx m=>ag cl cond (env++[some x]) m) (λx m=>ag cl elt (env++[some x]) m) (xs.drop (i+1)) acc m) (N:=λzs H2=>∃n',n'<xs.length-i/\∃as' m' acc,i+1<=xs.length/\n'=xs.length-(i+1)/\cH K as1 H1 D env σ as' m' acc zs H2/\ok H2/\aa K as' H2 xs vs/\ak K as1 H1 Q (y8 (λx m=>ag cl cond (env++[some x]) m) (λx m=>ag cl elt (env++[some x]) m) (xs.drop (i+1)) acc m')) hD M (M.G.push Rx) Pi ?_⟩;intro as2 m2 acc' ys' H2 kp g M2 P2;exact⟨xs.length-(i+1),by lia,as2,m2,acc',hlt,rfl,M2,stab _ _ kp okH,bb kp g _ _ RL',P2⟩
   .have e:i=xs.length:=by lia
    subst e;rw[W0]at Pi;exact .inl ⟨hJ.stop _ H' okH (by lia),xX M.S M.T hD M.hD M.n M.R Pi⟩
  cases w with
  |tup xs=>exact⟨rfl,λas1 H1 J T1 S1 hI=>seqs xs P' as1 H1 J T1 S1 hI⟩
  |rol xs=>exact⟨rfl,λas1 H1 J T1 S1 hI=>seqs xs P' as1 H1 J T1 S1 hI⟩
  |ref l=>
   have P2:ak K as H Q (y9 (λx m=>ag cl cond (env++[some x]) m) (λx m=>ag cl elt (env++[some x]) m) l (aq+1) 0 [] m1):=P';refine⟨?_,λas1 H1 J T1 S1 hI D hD=>?_⟩
   .show (zj m1 l).isSome=true;cases e:zj m1 l with
    |some xs=>rfl
    |none=>
     unfold y9 at P2;rw[e]at P2;exact P2.elim
   .obtain ⟨a,ha,rfl⟩:=hI;have Pc1:=ak.step P2 T1;refine⟨λi n ys H'=>∃as' m' acc,as'[l]?=some a/\cH K as1 H1 D env σ as' m' acc ys H' /\
     ak K as1 H1 Q (y9 (λx m=>ag cl cond (env++[some x]) m) (λx m=>ag cl elt (env++[some x]) m) l n i acc m'),⟨aq+1,as1,m1,[],ha,start T1 S1 hD,Pc1⟩,?_⟩
    rintro i n ys H' ⟨as',m',acc,hl,M,Pi⟩;cases n with
    |zero=>exact Pi.elim
    |succ n=>
     unfold y9 at Pi;cases e:zj m' l with
     |none=>rw[e]at Pi;exact Pi.elim
     |some xs=>
      rw[e]at Pi;simp only[]at Pi;obtain⟨a',vs,ha',eH,RL⟩:=ya M.S (zR e);rw[hl]at ha';cases ha';cases ex:xs[i]? with
      |none=>
       rw[ex]at Pi;have hle:vs.length<=i:=by rw[<-RL.length];exact Wf.mp ex
       exact .inl ⟨⟨vs,bE.of eH,hle⟩,xX M.S M.T hD M.hD M.n M.R Pi⟩
      |some x=>
       rw[ex]at Pi;obtain⟨v0,hv0,Rx⟩:=RL.get ex;refine .inr ⟨⟨vs,v0,bE.of eH,hv0⟩,λv H'' hy=>?_⟩;obtain⟨rfl,hy⟩:=hy;have:=hy vs (bE.of eH);rw[hv0]at this;cases this;refine⟨[v0],rfl,wE htc (sx:=[some v0]) (next:=λacc m=>y9 (λx m=>ag cl cond (env++[some x]) m) (λx m=>ag cl elt (env++[some x]) m) l n (i+1) acc m) (N:=λzs H2=>∃n',n'<n+1/\∃as' m' acc,as'[l]?=some a/\cH K as1 H1 D env σ as' m' acc zs H2/\ak K as1 H1 Q (y9 (λx m=>ag cl cond (env++[some x]) m) (λx m=>ag cl elt (env++[some x]) m) l n' (i+1) acc m')) hD M (M.G.push Rx) Pi ?_⟩;intro as2 m2 acc' ys' H2 kp g M2 P2;exact⟨n,WB _,as2,m2,acc',g _ _ hl,M2,P2⟩
  |non=>exact P'.elim
  |bl k=>exact P'.elim
  |int i=>exact P'.elim
  |str s=>exact P'.elim
end
section
variable{K:Qb}{as:List Addr}{H:Hp}{m:Me}{Q:VK}
def vF (h:kS y=some k)(R:ah K as H y v):∃a,v=.ref a/\bI K H a (k.map V.int):=by
 cases y with
 |tup ws=>
  obtain⟨a,vs,rfl,q,r⟩:=af.mp R;rw[vT h r]at q;exact⟨a,rfl,q⟩
 |_=>cases h
theorem jp:∀{xs:List TK}{ws:List Wd}{vs:List V}{q:List Int}{w:Wd},aa K as H ws vs->av vs (xs.map (·.2.2))->cq (xs.map (·.1)) ws q=some w->∃p v,Lk xs q=some p/\RelV v p.2/\ah K as H w v
 |[],ws,vs,q,w,r,rv,h=>by cases ws<;>cases h
 |x::xs,ws,vs,q,w,r,rv,h=>by
  cases ws with
  |nil=>cases h
  |cons y ws=>
   obtain⟨v,vs',rfl,r1,r2⟩:=aj.mp r;cases rv with
   |cons p1 p2=>
    have h':(if x.1=q then some y else cq (xs.map (·.1)) ws q)=some w:=h;by_cases e:x.1=q
    .rw[Mk e]at h';cases h';exact⟨x.2,v,by simp[Lk,e],p1,r1⟩
    .rw[Ml e]at h';obtain⟨p,v',h1,h2,h3⟩:=jp r2 p2 h';exact⟨p,v',by simpa [Lk,List.find?_cons,e]using h1,h2,h3⟩
def DA (S:aK K as m H)(R:ah K as H x v)(R':ah K as H y u)(h:ak K as H Q (jX x y m)):oX K v u H Q:=by
 unfold jX at h;cases x with
 |ref l=>
  obtain⟨a,ha,rfl⟩:=aG.mp R;dsimp only at h;cases e:m[l]? with
  |none=>rw[e]at h;exact h.elim
  |some o=>
   cases o with
   |lst ys=>rw[e]at h;exact h.elim
   |dct ks ws=>
    rw[e]at h;dsimp only at h;obtain⟨a',xs,vs,ha',td,rfl,r,rv,nd⟩:=vU S e;rw[ha]at ha';cases ha';cases ek:kS y with
    |none=>rw[ek]at h;exact h.elim
    |some k=>
     rw[ek]at h;obtain⟨b,rfl,qb⟩:=vF ek R';cases ew:cq (xs.map (·.1)) ws k with
     |none=>simp only[VZ,ew]at h;exact h.elim
     |some w=>
      simp only[VZ,ew]at h;obtain⟨p,z,h1,h2,h3⟩:=jp r rv ew;exact⟨a,b,k,xs,p,rfl,rfl,qb,td,h1,z,h2,h.ok S h3⟩
 |_=>exact h.elim
def Gf:(storedH xs q a u).map (·.1)=xp (xs.map (·.1)) q:=by
 unfold storedH xp;by_cases h:q∈xs.map (·.1)
 .rw[Mk (bQ.mpr h),Mk h,keys_map_putAt]
 .rw[Ml (λz=>h (bQ.mp z)),Ml h,WF];rfl
def Ge (h:ks.Nodup):(xp ks q).Nodup:=by
 unfold xp;by_cases z:q∈ks
 .rw[Mk z];exact h
 .rw[Ml z];refine QN.mpr ⟨h,by simp,λx hx y hy e=>?_⟩;rw[Qq.mp hy]at e;exact z (e▸hx)
theorem rJ (Rw:ah K as H w v):∀{ks:List (List Int)}{ws:List Wd}{vs:List V},aa K as H ws vs->aa K as H (zL ks ws q w) (zL ks vs q v)
 |[],ws,vs,r=>r.append (.one Rw)
 |k::ks,ws,vs,r=>by
  cases ws with
  |nil=>obtain rfl:=au.mp r;exact aa.one Rw
  |cons x ws=>
   obtain⟨y,vs',rfl,r1,r2⟩:=aj.mp r;show aa K as H (if k=q then w::ws else x::zL ks ws q w) (if k=q then v::vs' else y::zL ks vs' q v);by_cases e:k=q
   .rw[Mk e,Mk e];exact aj.mpr ⟨v,vs',rfl,Rw,r2⟩
   .rw[Ml e,Ml e];exact aj.mpr ⟨y,_,rfl,r1,rJ Rw r2⟩
theorem rH:∀{ks:List (List Int)}{vs:List V},q∉ks->ks.length=vs.length->zL ks vs q v=vs++[v]
 |[],vs,_,_=>rfl
 |k::ks,[],_,h=>by cases h
 |k::ks,x::vs,hq,h=>by
  show(if k=q then v::vs else x::zL ks vs q v)=_;rw[Ml (λe=>hq (by simp[e])),rH (λz=>hq (by simp[z])) (by simpa using h)];rfl
theorem rG (ru:RelV v u):∀{xs:List TK}{vs:List V},(xs.map (·.1)).Nodup->q∈xs.map (·.1)->av vs (xs.map (·.2.2))->av (zL (xs.map (·.1)) vs q v) ((xs.map (Lh q u)).map (·.2.2))
 |[],vs,_,h,_=>by simp at h
 |x::xs,vs,nd,h,r=>by
  rw[QM,QR]at nd;cases r with
  |@cons y _ vs' _ p1 p2=>
   show av (if x.1=q then v::vs' else y::zL (xs.map (·.1)) vs' q v) ((Lh q u x).2.2::(xs.map (Lh q u)).map (·.2.2));by_cases e:x.1=q
   .rw[Mk e,map_putAt_of_not_mem xs q u (e▸nd.1)];unfold Lh;rw[Mk e];exact .cons ru p2
   .rw[Ml e];unfold Lh;rw[Ml e];exact .cons p1 (rG ru nd.2 (by simpa [Ne.symm e]using h) p2)
def Gd (ru:RelV v u)(nd:(xs.map (·.1)).Nodup)(r:av vs (xs.map (·.2.2))):av (zL (xs.map (·.1)) vs q v) ((storedH xs q a u).map (·.2.2)):=by
 unfold storedH;by_cases h:q∈xs.map (·.1)
 .rw[Mk (bQ.mpr h)];exact rG ru nd h r
 .rw[Ml (λz=>h (bQ.mp z)),WF];rw[rH h (by have:=r.length;simp at this ⊢;lia)];exact r.append (.cons ru .nil)
def F6 {q:List Int}:∀x∈storedH xs q a u,(∃y∈xs,y.1=x.1/\y.2.1=x.2.1)\/(x.1=q/\x.2.1=a):=λx hx=>by
 unfold storedH at hx;split at hx
 .obtain ⟨y,hy,rfl⟩:=WL.mp hx;refine .inl ⟨y,hy,?_⟩;unfold Lh;split<;>exact⟨rfl,rfl⟩
 .rcases Qx.mp hx with z|z
  .exact .inl ⟨x,z,rfl,rfl⟩
  .rw[Qq.mp z];exact .inr ⟨rfl,rfl⟩
def aK.setD (S:aK K as m H)(ha:as[l]?=some a)(hm:m[l]?=some (.dct ks ws))(td:yb K H a xs)(ek:xs.map (·.1)=ks)(r:aa K as H ws vs)(rv:av vs (xs.map (·.2.2)))(nd:ks.Nodup)(qb:bI K H b (q.map V.int))(Rw:ah K as H w v)(ru:RelV v u):
  Step as H as (aI H a (zO a (storedH xs q b u)))/\aK K as (m.set l (.dct (xp ks q) (zL ks ws q w))) (aI H a (zO a (storedH xs q b u))):=by
 have hin:a∈as:=Qp ha;have T:Step as H as (aI H a (zO a (storedH xs q b u))):=⟨⟨[],by simp⟩,λc o h hb=>by
  rw[zd (by rintro rfl;exact hb hin)];exact h,λc hb=>.inl hb⟩
 have kp:Kp K H (aI H a (zO a (storedH xs q b u))):=Kp.updL td.1 trivial;refine⟨T,⟨by simp[S.len],S.nd,λk c o h1 h2=>?_⟩⟩;by_cases hk:k=l
 .subst hk;rw[ha]at h1;cases h1;rw[Wj (Qa.mp hm).1]at h2;cases h2;subst ek;refine⟨storedH xs q b u,zL (xs.map (·.1)) vs q v,⟨ze,λx hx=>?_⟩,Gf,(rJ Rw r).kp kp,Gd ru nd rv,Ge nd⟩;rcases F6 x hx with⟨y,hy,e1,e2⟩|⟨e1,e2⟩
  .rw[<-e1,<-e2];exact kp.t _ _ (td.2 y hy)
  .rw[e1,e2];exact kp.t _ _ qb
 .rw[QD (Ne.symm hk)]at h2;have q':=S.obj k c o h1 h2;have hb:c≠a:=by
   rintro rfl;obtain⟨i1,e1⟩:=Qa.mp h1;obtain⟨i2,e2⟩:=Qa.mp ha;exact hk ((WZ S.nd).mp (e1.trans e2.symm))
  exact bz.mono kp (λ_ _ e=>e) (λo e=>by rw[zd hb];exact e) q'
def aK.newD (S:aK K as m H)(hp:H p=none):Step as H (as++[p]) (aI H p (zO p []))/\aK K (as++[p]) (m++[.dct [] []]) (aI H p (zO p [])):=by
 have hn:=S.new hp;have T:Step as H (as++[p]) (aI H p (zO p [])):=⟨⟨[p],rfl⟩,λb o h _=>by rw[zd (zo h hp)];exact h,λb hb=>by
  rcases Qx.mp hb with z|z
  .exact .inl z
  .exact .inr (by rw[Qq.mp z];exact hp)⟩
 refine⟨T,⟨by simp[S.len],?_,λl b o h1 h2=>?_⟩⟩
 .refine QN.mpr ⟨S.nd,by simp,λx hx y hy=>?_⟩;rw[Qq.mp hy];rintro rfl;exact hn hx
 .by_cases hl:l<as.length
  .rw[Qf hl]at h1;rw[Qf (by rw[<-S.len];exact hl)]at h2;exact bz.mono (S.kp T) (λ_ _ e=>T.get e) (λo e=>by rw[zd (zo e hp)];exact e) (S.obj l b o h1 h2)
  .rw[Qd (by lia)]at h1;rw[Qd (by rw[<-S.len];lia)]at h2;have hz:l-as.length=0:=by
    cases hq:l-as.length with
    |zero=>rfl
    |succ k=>rw[hq]at h1;simp at h1
   rw[hz]at h1;rw[<-S.len,hz]at h2;simp at h1 h2;subst h1;subst h2;exact⟨[],[],⟨ze,λx hx=>by simp at hx⟩,rfl,au.mpr rfl,.nil,QK⟩
end
section
variable{cl:Nat->List Wd->Me->Rz}{X:Cx}{a b:Ex}{x y:Expr}{pos:Pos}
def EV:PE X (.Dict [] [] pos) (aM X.K (ag cl .dict0)):=by
 refine PE.imp Fk λσ H Q h d hd=>?_;obtain⟨as,env,m,S,G,P⟩:=h;obtain⟨T,S'⟩:=S.newD hd;have P':ak X.K as H Q (.ok (.ref m.length) (m++[.dct [] []])):=P;refine P' _ _ _ T S' (aG.mpr ⟨d,?_,rfl⟩);rw[<-S.len,Qd (Qh _)];simp
def Dz(hu:X.A.units+64<Ku)(ha:PE X x (aM X.K (ag cl a)))(hb:PE X y (aM X.K (ag cl b)))(hs:yU y=true):PE X (.Subscript x y pos) (aM X.K (ag cl (.dget a b))):=by
 have hp:gD y:=λo i=>by cases y<;>first|rfl|cases hs
 refine PE.imp (oZ (nh hu) ha hb hp) λσ H Q h=>?_;obtain⟨as,env,m,S,G,P⟩:=h;refine⟨as,env,m,S,G,ak.bind P λx m1 as1 H1 v T1 S1 R1 P1=>?_⟩;refine⟨as1,env,m1,S1,G.mono S T1,ak.bind P1 λy m2 as2 H2 u T2 S2 R2 P2=>?_⟩;exact DA S2 (R1.mono S1 T2) R2 P2
end
end Mini
namespace Mini
open PySem L2
end Mini
namespace Mini
open PySem PySem.Spec PyProof.Rows L2
section
noncomputable def JI(t u:Tg)(w:Wd)(m:Me):Rz:=(dC (cN t w m) m).bind λx m1=>match x with
 |.bl false=>dC (cN u w m1) m1
 |.bl true=>.ok (.bl true) m1
 |_=>.no
end
end Mini
namespace L2
open PySem PySem.Spec PyProof.Rows
section
variable{X:Cx}
def oP(K:Qb):V->List V->Hp->VK->Prop:=λx vs H Q=>∃d a ks xs z,x=.ref d/\vs=[.ref a,z]/\bI K H a (ks.map V.int)/\yb K H d xs/\(∀p v,Lk xs ks=some p->RelV v p.2->Q v H)/\(Lk xs ks=none->Q z H)/\∀p,Lk xs ks=some p->∃v,RelV v p.2
def Dy(hu:X.A.units+64<Ku):fh X "dict.get" (oP X.K):=by
 intro pins s σ H x vs v us Q I rx rv h;obtain⟨d,a,ks,xs,z,rfl,rfl,hk,td,q1,q2,q3⟩:=h;cases rx;obtain⟨_,ra,⟨uz,rz,rfl⟩⟩:∃u1,RelV (.ref a) u1/\∃u2,RelV z u2/\us=[u1,u2]:=by
  cases rv with
  |cons p r=>cases r with
   |cons p' r'=>cases r';exact⟨_,p,_,p',rfl⟩
 cases ra;obtain⟨d0,dm⟩:=xn I td;refine KO F.slot_dict_get dm.typeIs F.entry_dict_get ?_ (F.args_dict_get_3 _ _ _);apply Kb (m:=dictGet d (.ref a));apply wpAny_dictGet_heap (knd:=JS (JT X.prog X.w)) (by show X.A.units+1<Ku;lia) (xT I hk) dm;cases e:Lk xs ks with
 |some p=>
  obtain⟨y,ry⟩:=q3 p e;exact Ki ⟨p.2,rfl,y,H,I.tok _,ry,q1 p y e ry⟩
 |none=>
  apply Kb (m:=Builtin.Dict.missed d (.ref a));exact wpAny_missed_other d0 (Ki ⟨uz,rfl,z,H,I.tok _,rz,q2 e⟩)
def sL (I:Inv X pins σ H s)(h:yb X.K H d xs):s.TypeIs (.ref d) "dict" /\ ∀a,Value.ref d=.ref a->∃ob,s.heap.get? a=some ob/\ob.dict=none:=by
 obtain⟨_,o,es,g,ex,_⟩:=zS I h;exact⟨⟨o,g,ex.1⟩,λa e=>by cases e;exact⟨o,g,ex.2.1⟩⟩
def Gz(K:Qb)(r:V->List V->Hp->VK->Prop)(to:TE)(t:TA):TE:=λσ H Q=>to σ H λx H1=>(∃d xs,x=.ref d/\yb K H1 d xs)/\t σ H1 λvs H2=>r x vs H2 Q
def zk {id:String}(slot:Slot "dict" name id)(hty:typeOf (.builtin id)=pure (.type "method_descriptor"))(hm:fh X id r)(ho:PE X o to)(ha:PA X (e::es) t)(hbase:KT o name X.env (eval o X.env)=eval o X.env)(hfew:((J0 cpos (J1 (e::es) X.env)).all (λx=>! x.1)&&(KU cpos (KW [] X.env)).all (λx=>x.1.isSome)&&decide ((e::es).length+([]:List KY).length+(if([]:List KY).isEmpty then 0 else 1)<30))=true)(hline:(apos.endLine==cpos.line)=true)(hs:J1 (e::es) X.env=(false,eval e X.env)::J1 es X.env)(hplain:(J0 cpos (J1 es X.env)).any (·.1)=false):
  PE X (.Call (.Attribute o name apos) (e::es) [] cpos) (Gz X.K r to t):=by
 intro pins s σ H Q I h;refine KZ hbase hfew hline rfl (ba (ho pins s σ H _ I h) λv s1 ⟨x,H1,I1,r1,⟨d,xs,hx,td⟩,q1⟩=>?_);subst hx;cases r1;obtain⟨h1,h2⟩:=sL I1 td;have hA:=ha cpos pins s1 σ H1 _ I1 q1;rw[hs]at hA;refine⟨"dict",id,PySem.F.plainAttrs_dict,slot,hty,h1,h2,?_⟩;rw[hs];refine Calls.callWith_builtin (show(false || (J0 cpos (J1 es X.env)).any (·.1))=false by rw[hplain];rfl) (Calls.evalArgs_plain (ba hA λus s2 ⟨vs,H2,I2,r2,q2⟩=>?_));exact hm pins s2 σ H2 (.ref d) vs (.ref d) us Q I2 rfl r2 q2
end
section
variable{prog:JM}{w:JN}{A:JW}{E:Value->Shared->Prop}{s:Shared}{it d:Addr}{i n:Nat}{od:Obj}{es:Array DictEntry}
def Av (at_:s.heap.IsValIter it d i n n)(g:s.heap.get? d=some od)(dat:od.data=.dict es n)(sz:es.size=n)(hi:i<n)(end':∀h',h'.IsValIter it d (i+1) n n->Q8 it s.heap h'->R (some (es[i]'(by lia)).val) {s with heap:=h' }):JY (JZ prog w) A (Kf (.ref it)) R E s:=by
 obtain⟨o,go,co,fo⟩:=id at_;have ty:=at_.typeIs;unfold Kf;apply Kb;apply LK;apply KN ty F.slot_dict_valueiterator_next;refine KO F.slot_dict_valueiterator_next ty F.entry_dict_valueiterator_next ?_ (F.args_dict_valueiterator_next_1 _);refine Kb (Ki (Kb (Kb (Kb (Ma ty (Ki ?_))))));refine Kb (LZ go fo ?_);have no:Builtin.Dict_items.ownsTuple "dict_valueiterator"=false:=by decide
 simp only[no,QX,if_false];change JY _ _ (ite ((Value.ref d==Value.none)=true) _ _) _ _ s;rw[show(Value.ref d==Value.none)=false from rfl,Ml Qz];refine Kb (Ki (Kb (Lm g dat ?_)));rw[sz,Ml (by simp)];refine Kb (Ki (Kb (Ln g dat ?_)));rw[Ml (by simp)];apply Ki;have hi':i<es.size:=by lia
 simp only[show ¬(i:Int)<0 from by lia,if_false,Wl,We hi'];refine Kb (Kb (Ma ty (Ki (Kb (Mb ty ?_)))));apply Kb (m:=LS (.ref it) 1 (Kj ((i:Int)+1)));apply LU go fo (by simp);have nx:(s.heap.update it (Obj.mapFields (·.setIfInBounds 1 (Kj ((i:Int)+1))))).IsValIter it d (i+1) n n:=by
  refine⟨_,WG _ go (Obj.isFreed_of_fields (Obj.data_mapFields fo _)),by rw[Obj.cls_mapFields];exact co,?_⟩;rw[Obj.data_mapFields fo];simp[Kj]
 refine Kb (Kc (Kb (Mb nx.typeIs (Kb (Mb nx.typeIs ?_)))));exact Ki (Ki ⟨_,rfl,Ki (end' _ nx (Q8.update ..))⟩)
def Au (quiet:A.handled=none)(at_:s.heap.IsValIter it d i n n)(g:s.heap.get? d=some od)(dat:od.data=.dict es n)(sz:es.size=n)(hi:n<=i)(end':∀h',Va it s.heap h'->R none {s with heap:=h' }):JY (JZ prog w) A (Kf (.ref it)) R E s:=by
 obtain⟨o,go,co,fo⟩:=id at_;have ty:=at_.typeIs;unfold Kf;apply Kb;apply LK;apply KN ty F.slot_dict_valueiterator_next;refine KO F.slot_dict_valueiterator_next ty F.entry_dict_valueiterator_next ?_ (F.args_dict_valueiterator_next_1 _);refine Kb (Ki (Kb (Kb (Kb (Ma ty (Ki ?_))))));refine Kb (LZ go fo ?_);have no:Builtin.Dict_items.ownsTuple "dict_valueiterator"=false:=by decide
 simp only[no,QX,if_false];change JY _ _ (ite ((Value.ref d==Value.none)=true) _ _) _ _ s;rw[show(Value.ref d==Value.none)=false from rfl,Ml Qz];refine Kb (Ki (Kb (Lm g dat ?_)));rw[sz,Ml (by simp)];refine Kb (Ki (Kb (Ln g dat ?_)));rw[Ml (by simp)];apply Ki;simp only[show ¬(i:Int)<0 from by lia,if_false,Wl,WC (show es.size<=i by lia)];refine Kb (Kb (Ma ty (Ki ?_)));exact ls quiet go fo (by rw[no];exact Nat.zero_lt_succ 3) end'
def At (vw:s.heap.IsValuesView v d)(g:s.heap.get? d=some od)(dat:od.data=.dict es n)(sz:es.size=n)(end':R (.ref s.heap.objs.size) {s with heap:=s.heap.push {cls:=.type "dict_valueiterator",data:=.fields #[.ref d,.int 0 0,.int n 0,.int n 0]} }):JY (JZ prog w) A (Kh (.ref v)) R E s:=by
 obtain⟨ov,gv,cv,fv⟩:=id vw;apply LX vw.typeIs F.slot_dict_values_iter;refine KO F.slot_dict_values_iter vw.typeIs F.entry_dict_values_iter ?_ (F.args_dict_values_iter_1 _);unfold Builtin.«dict_values.__iter__» Builtin.Dict_items.dictOf Builtin.Dict_items.newIterator;refine Kb (Ki (Kb (Kb (KJ gv fv (x:=.ref d) rfl (Ki ?_)))));refine Kb (Kb (Lm g dat (Kb (Ln g dat ?_))));have no:Builtin.Dict_items.ownsTuple "dict_valueiterator"=false:=by decide
 simp only[no,QX,if_false];refine KQ (Ki ⟨_,rfl,"dict_valueiterator",_,⟨_,Qe _ rfl,rfl⟩,F.slot_dict_valueiterator_next.lookup,?_⟩);rw[sz];exact end'
end
section
variable{X:Cx}
def fS(v d:Addr):HO:=.ext λh=>h.IsValuesView v d
def As(K:Qb):V->List V->Hp->VK->Prop:=λx vs H Q=>∃d xs,x=.ref d/\vs=[]/\yb K H d xs/\∀v,H v=none->Q (.ref v) (aI H v (fS v d))
def Dx:fh X "dict.values" (As X.K):=by
 intro pins s σ H x vs v us Q I rx rv h;obtain⟨d,xs,rfl,rfl,td,q⟩:=h;cases rx;cases rv;obtain⟨d0,dm⟩:=xn I td;refine KO F.slot_dict_values dm.typeIs F.entry_dict_values ?_ (F.args_dict_values_1 _);apply Kb (m:=Builtin.Dict.noArgs _ _);unfold Builtin.Dict.noArgs;apply Kb;apply Li dm.typeIs;apply Ki (a:=d);apply Kb (m:=Builtin.Dict.showsAll d);unfold Builtin.Dict.showsAll;rw[d0];apply Ki;refine Kb (KQ (Ki ⟨_,rfl,.ref s.heap.objs.size,aI H s.heap.objs.size (fS s.heap.objs.size d),I.laid (t':=s.toks) (λb u e=>Qc _ e) (Qh _) ?_,rfl,q _ I.fresh⟩));refine⟨⟨_,Qe _ rfl,rfl,rfl⟩,⟨_,Qe _ rfl⟩,λh1 h2 hx k=>?_⟩;obtain⟨o,a1,r⟩:=hx;exact⟨o,k o a1,r⟩
def oq(K:Qb)(r:V->List V->Hp->VK->Prop)(to:TE):TE:=λσ H Q=>to σ H λx H1=>(∃d xs,x=.ref d/\yb K H1 d xs)/\r x [] H1 Q
def pR {id:String}(slot:Slot "dict" name id)(hty:typeOf (.builtin id)=pure (.type "method_descriptor"))(hm:fh X id r)(ho:PE X o to)(hbase:KT o name X.env (eval o X.env)=eval o X.env)(hline:(apos.endLine==cpos.line)=true):PE X (.Call (.Attribute o name apos) [] [] cpos) (oq X.K r to):=by
 intro pins s σ H Q I h;refine wpAny_Call_method0_late hbase hline (ba (ho pins s σ H _ I h) λv s1 ⟨x,H1,I1,r1,⟨d,xs,hx,td⟩,q1⟩=>?_);subst hx;cases r1;obtain⟨h1,h2⟩:=sL I1 td;exact⟨"dict",id,PySem.F.plainAttrs_dict,slot,hty,h1,h2,Calls.callWith_builtin rfl (PySem.evalArgs_none (hm pins s1 σ H1 (.ref d) [] (.ref d) [] Q I1 rfl .nil q1))⟩
def Cb (quiet:A.handled=none)(it d:Addr)(hne:d≠it)(od:Obj)(es:Array DictEntry)(n:Nat)(dat:od.data=.dict es n)(sz:es.size=n):
  Walks prog w A it [it,d] [it] n (λi v=>∃e,es[i]?=some e/\v=e.val) (λi h=>h.IsValIter it d i n n/\h.get? d=some od) where
 sub:=by simp
 frame:=λi h h' st k=>by
  obtain⟨⟨o,a,b⟩,c⟩:=st;exact⟨⟨o,k it (by simp) o a,b⟩,k d (by simp) od c⟩
 item:=λi s Q E hi st fin=>by
  refine Av st.1 st.2 dat sz hi λh' st' sb=>?_;exact fin _ h' s.toks ⟨es[i]'(by lia),by simp[show i<es.size by lia],rfl⟩ ⟨st',(sb.2 d hne).trans st.2⟩ λb o hb e=>(sb.2 b (by simpa using hb)).trans e
 done:=λs Q E st fin=>Au quiet st.1 st.2 dat sz (Qh _) λh' eb=>fin h' s.toks λb o hb e=>eb b o (by simpa using hb) e
 self:=λ_ _ _ _ st fin=>wpAny_pyIter_valiter st.1 fin
def FM(hc:X.calm=true):bx X (.builtin "sum") (λus H Q=>∃(v d:Addr) (xs:List TK) (ns:List Int),us=[.ref v]/\H v=some (fS v d)/\yb X.K H d xs/\av (ns.map V.int) (xs.map (·.2.2))/\Q (.int ns.sum) H):=by
 intro pins s σ H us ws Q I r h;obtain⟨v,d,xs,ns,rfl,hv,td,rn,q⟩:=h;obtain⟨u,rfl,rx⟩:=xH r;cases rx;obtain⟨_,od,es,g,ex,dat,sz,rows⟩:=zS I td;have vw:s.heap.IsValuesView v d:=(I.hok v _ hv).1;have hlen:=rn.length;have hlt:=Qi g;refine call_sum_walkG (At vw g dat sz ?_);refine⟨s.heap.objs.size,_,_,_,_,_,λi=>ns.getD i 0,rfl,Cb (A:=X.A.in1) (I.ok.hd hc) s.heap.objs.size d (QG hlt) od es xs.length dat sz,⟨⟨_,Qe _ rfl,rfl,rfl⟩,Qc _ g⟩,?_,?_,λh' tk t' hk=>?_⟩
 .intro b hb;have h1:s.heap.objs.size<(s.heap.push {cls:=.type "dict_valueiterator",data:=.fields #[.ref d,.int 0 0,.int xs.length 0,.int xs.length 0]}).objs.size:=Qi (Qe _ rfl);have:b=s.heap.objs.size\/b=d:=by simpa using hb
  rcases this with rfl|rfl
  .exact h1
  .exact W5 hlt h1
 .rintro i _ ⟨e,he,rfl⟩;have hi:i<xs.length:=by rw[<-sz];exact(W6.mp he).1
  have e2:=rows i _ (Qw hi);rw[he]at e2;obtain rfl:=Option.some.inj e2;obtain⟨y,hy,ry⟩:=rn.at (i:=i) (u:=xs[i].2.2) (by rw[Qs,Qw hi];rfl);rw[Qs]at hy;cases hb:ns[i]? with
  |none=>rw[hb]at hy;cases hy
  |some b=>
   rw[hb]at hy;cases hy;obtain⟨t,ht⟩:=(ry:∃t,xs[i].2.2=.int b t);have e:ns.getD i 0=b:=by rw[Qu,hb];rfl
   exact⟨t,by show xs[i].2.2=Value.int (ns.getD i 0) t;rw[e,ht]⟩
 .have e:xs.length=ns.length:=by simp at hlen;lia
  rw[e,wc ns ns.length (Qh _),Vg];exact⟨.int ns.sum,H,I.kept (t':=tk) λb o e=>hk b o (λhb=>by
   have:b=s.heap.objs.size:=by simpa using hb
   exact Mm (Qi e) (by rw[this];exact Wa _)) (Qc _ e),⟨t',rfl⟩,q⟩
end
section
variable{prog:JM}{w:JN}{A:JW}{E:Value->Shared->Prop}{s:Shared}{it d:Addr}{i n:Nat}{od:Obj}{es:Array DictEntry}{ok ov:Value}
def Ar (at_:Mc s.heap it d i n n ok ov)(g:s.heap.get? d=some od)(dat:od.data=.dict es n)(sz:es.size=n)(hi:i<n)(end':∀h',Mf h' it d (i+1) n n (es[i]'(by lia)).key (es[i]'(by lia)).val s.heap.objs.size->h'.get? s.heap.objs.size=some {cls:=.type "tuple",data:=.seq #[(es[i]'(by lia)).key,(es[i]'(by lia)).val]}->(∀b o,b≠it->s.heap.get? b=some o->h'.get? b=some o)->R (some (.ref s.heap.objs.size)) {s with heap:=h' }):
  JY (JZ prog w) A (Kf (.ref it)) R E s:=by
 have ty:s.TypeIs (.ref it) "dict_itemiterator":=⟨_,at_,rfl⟩;unfold Kf;apply Kb;apply LK;apply KN ty F.slot_dict_itemiterator_next;refine KO F.slot_dict_itemiterator_next ty F.entry_dict_itemiterator_next ?_ (F.args_dict_itemiterator_next_1 _);refine Kb (Ki (Kb (Kb (Kb (Mg ty (Ki ?_))))));refine Kb (LZ at_ rfl ?_);have yes:Builtin.Dict_items.ownsTuple "dict_itemiterator"=true:=by decide
 simp only[yes,if_true];change JY _ _ (ite ((Value.ref d==Value.none)=true) _ _) _ _ s;rw[show(Value.ref d==Value.none)=false from rfl,Ml Qz];refine Kb (Ki (Kb (Lm g dat ?_)));rw[sz,Ml (by simp)];refine Kb (Ki (Kb (Ln g dat ?_)));rw[Ml (by simp)];apply Ki;have hi':i<es.size:=by lia
 simp only[show ¬(i:Int)<0 from by lia,if_false,Wl,We hi'];refine Kb (Kb (Mg ty (Ki (Kb (Mh ty ?_)))));apply Kb (m:=LS (.ref it) 3 (Kj ((i:Int)+1)));refine L6 at_ (by simp) λh1 g1 b1=>?_;have b1:Q8 it s.heap h1:=b1;have g1:Mc h1 it d (i+1) n n ok ov:=by
  have e:((i+1:Nat):Int)=(i:Int)+1:=by lia
  unfold Mc;rw[e];simpa [Kj]using g1
 have t1:Shared.TypeIs {s with heap:=h1} (.ref it) "dict_itemiterator":=⟨_,g1,rfl⟩;refine Kb (Kc (Kb (Mh t1 (Kb (Mh t1 ?_)))));change JY _ _ (Builtin.Dict_items.pairFromOwner (.ref it) 6 es[i].key es[i].val) _ _ _;unfold Builtin.Dict_items.pairFromOwner;refine Kb (LP ?_);have z1:h1.objs.size=s.heap.objs.size:=b1.1;have il:it<s.heap.objs.size:=Qi at_;obtain⟨h2,e2⟩:∃h2,h2=h1.push {cls:=.type "tuple",data:=.seq #[es[i].key,es[i].val]}:=⟨_,rfl⟩;have g2:Mc h2 it d (i+1) n n ok ov:=by rw[e2];exact Qc _ g1
 have tp:h2.get? s.heap.objs.size=some {cls:=.type "tuple",data:=.seq #[es[i].key,es[i].val]}:=by rw[e2,<-z1];exact Qe _ rfl
 have kp:∀b o,b≠it->s.heap.get? b=some o->h2.get? b=some o:=λb o hb e=>by rw[e2];exact Qc _ (b1.extBut b o hb e)
 change JY _ _ (Builtin.Dict_items.ownedTupleIsFree (.ref it) >>= _) _ _ {s with heap:=h1.push {cls:=.type "tuple",data:=.seq #[es[i].key,es[i].val]} };rw[z1,<-e2];clear e2 g1 b1 t1 z1;apply Kb;unfold Builtin.Dict_items.ownedTupleIsFree;refine Kb (KJ g2 rfl (x:=.none) rfl (Ki ?_));simp only[if_true];refine Kb (KJ g2 rfl (x:=ok) rfl (Kb (KJ g2 rfl (x:=ov) rfl ?_)));refine Kb (L6 g2 (by simp) λh3 g3 b3=>?_);have g3:Mc h3 it d (i+1) n n es[i].key ov:=g3;refine Kb (L6 g3 (by simp) λh4 g4 b4=>?_);have g4:Mc h4 it d (i+1) n n es[i].key es[i].val:=g4;refine Kb (L6 g4 (by simp) λh5 g5 b5=>?_);have g5:Mf h5 it d (i+1) n n es[i].key es[i].val s.heap.objs.size:=g5;refine Kb (L6 g5 (by simp) λh6 g6 b6=>?_);have g6:Mf h6 it d (i+1) n n es[i].key es[i].val s.heap.objs.size:=g6;have all:∀b o,b≠it->h2.get? b=some o->h6.get? b=some o:=λb o hb e=>b6.extBut b o hb (b5.extBut b o hb (b4.extBut b o hb (b3.extBut b o hb e)));exact Kb (L9 (Ki (Ki ⟨_,rfl,Ki (end' h6 g6 (all _ _ (WE il) tp) λb o hb e=>all b o hb (kp b o hb e))⟩)))
def Aq (quiet:A.handled=none)(at_:Mc s.heap it d i n n ok ov)(g:s.heap.get? d=some od)(dat:od.data=.dict es n)(sz:es.size=n)(hi:n<=i)(end':∀h',Va it s.heap h'->R none {s with heap:=h' }):JY (JZ prog w) A (Kf (.ref it)) R E s:=by
 have ty:s.TypeIs (.ref it) "dict_itemiterator":=⟨_,at_,rfl⟩;unfold Kf;apply Kb;apply LK;apply KN ty F.slot_dict_itemiterator_next;refine KO F.slot_dict_itemiterator_next ty F.entry_dict_itemiterator_next ?_ (F.args_dict_itemiterator_next_1 _);refine Kb (Ki (Kb (Kb (Kb (Mg ty (Ki ?_))))));refine Kb (LZ at_ rfl ?_);have yes:Builtin.Dict_items.ownsTuple "dict_itemiterator"=true:=by decide
 simp only[yes,if_true];change JY _ _ (ite ((Value.ref d==Value.none)=true) _ _) _ _ s;rw[show(Value.ref d==Value.none)=false from rfl,Ml Qz];refine Kb (Ki (Kb (Lm g dat ?_)));rw[sz,Ml (by simp)];refine Kb (Ki (Kb (Ln g dat ?_)));rw[Ml (by simp)];apply Ki;simp only[show ¬(i:Int)<0 from by lia,if_false,Wl,WC (show es.size<=i by lia)];refine Kb (Kb (Mg ty (Ki ?_)));exact ls quiet at_ rfl (by rw[yes];exact(by decide:(2:Nat)<8)) end'
def Ap (vw:s.heap.IsItemsView v d)(g:s.heap.get? d=some od)(dat:od.data=.dict es n)(sz:es.size=n)(end':R (.ref s.heap.objs.size) {s with heap:=s.heap.push {cls:=.type "dict_itemiterator",data:=.fields #[.none,.bool false,.ref d,.int 0 0,.int n 0,.int n 0,.none,.none]} }):JY (JZ prog w) A (Kh (.ref v)) R E s:=by
 obtain⟨ov,gv,cv,fv⟩:=id vw;apply LX vw.typeIs F.slot_dict_items_iter;refine KO F.slot_dict_items_iter vw.typeIs F.entry_dict_items_iter ?_ (F.args_dict_items_iter_1 _);unfold Builtin.«dict_items.__iter__» Builtin.Dict_items.dictOf Builtin.Dict_items.newIterator;refine Kb (Ki (Kb (Kb (KJ gv fv (x:=.ref d) rfl (Ki ?_)))));refine Kb (Kb (Lm g dat (Kb (Ln g dat ?_))));have yes:Builtin.Dict_items.ownsTuple "dict_itemiterator"=true:=by decide
 simp only[yes,if_true];refine KQ (Ki ⟨_,rfl,"dict_itemiterator",_,⟨_,Qe _ rfl,rfl⟩,F.slot_dict_itemiterator_next.lookup,?_⟩) ?_
 .rw[sz];exact end'
 .simp only[sizeOk,Builtin.Dict_items.ownedTupleFields,QA,QF,QH,List.length_nil,Kt];lia
end
section
variable{X:Cx}
def fR(v d:Addr):HO:=.ext λh=>h.IsItemsView v d
def pQ(K:Qb):V->List V->Hp->VK->Prop:=λx vs H Q=>∃d xs,x=.ref d/\vs=[]/\yb K H d xs/\∀v,H v=none->Q (.ref v) (aI H v (fR v d))
def EU:fh X "dict.items" (pQ X.K):=by
 intro pins s σ H x vs v us Q I rx rv h;obtain⟨d,xs,rfl,rfl,td,q⟩:=h;cases rx;cases rv;obtain⟨d0,dm⟩:=xn I td;refine KO F.slot_dict_items dm.typeIs F.entry_dict_items ?_ (F.args_dict_items_1 _);apply Kb (m:=Builtin.Dict.noArgs _ _);unfold Builtin.Dict.noArgs;apply Kb;apply Li dm.typeIs;apply Ki (a:=d);apply Kb (m:=Builtin.Dict.showsAll d);unfold Builtin.Dict.showsAll;rw[d0];apply Ki;refine Kb (KQ (Ki ⟨_,rfl,.ref s.heap.objs.size,aI H s.heap.objs.size (fR s.heap.objs.size d),I.laid (t':=s.toks) (λb u e=>Qc _ e) (Qh _) ?_,rfl,q _ I.fresh⟩));refine⟨⟨_,Qe _ rfl,rfl,rfl⟩,⟨_,Qe _ rfl⟩,λh1 h2 hx k=>?_⟩;obtain⟨o,a1,r⟩:=hx;exact⟨o,k o a1,r⟩
def nz(K:Qb)(d:Addr)(n:Nat):It:=
 ⟨λi H=>∃xs,yb K H d xs/\xs.length=n/\i<n/\∀x∈xs,∃v,RelV v x.2.2,λi H x H'=>∃a v,Yp H x H' (.ref a) v/\∀xs,yb K H d xs->∃k,xs[i]?=some k/\a=k.2.1/\RelV v k.2.2,λi H=>∃xs,yb K H d xs/\xs.length=n/\n<=i⟩
def F5 {K:Qb}(it:Addr):cX P w K (.Tuple elts k pt) (nz K d n) [it] it (λi h=>∃ok ov,Mc h it d i n n ok ov) where
 mem:=by simp
 obj:=λi h st b hb=>by
  have e:b=it:=by simpa using hb
  subst e;obtain⟨ok,ov,e⟩:=st;exact⟨_,e,λv z=>by cases z⟩
 keep:=λi h h' st k=>by
  obtain⟨ok,ov,e⟩:=st;exact⟨ok,ov,k it (by simp) _ e⟩
 item:=by
  intro X hP hw hK hc i pins s σ H E I hf st hg;subst hP hw hK;obtain⟨xs,td,hn,hi,rel⟩:=hg;obtain⟨_,od,es,g,ex,dat,sz,rows⟩:=zS I td;obtain⟨ok,ov,st⟩:=st;have hx:i<xs.length:=by lia
  have e2:=rows i _ (Qw hx);subst hn;have he:(es[i]'(by lia))=jW xs[i]:=by
   rw[We (by lia)]at e2;exact Option.some.inj e2
  obtain⟨v,rv⟩:=rel xs[i] (VL hx);have sT:it<s.heap.objs.size:=Qi st;refine Ar st g dat sz hi λh' a1 a3 hk=>?_;rw[he]at a1 a3;refine⟨_,rfl,wpAny_letOwnedTupleGo_items (s:={s with heap:=h' }) a1 λh'' he' hs'=>?_⟩;have kk:∀b o,b∉[it]->s.heap.get? b=some o->h''.get? b=some o:=λb o hb q=>(hs'.2 b (by simpa using hb)).trans (hk b o (by simpa using hb) q);refine⟨.ref s.heap.objs.size,aI H s.heap.objs.size (.tup [.ref xs[i].2.1,v]),?_,rfl,⟨xs[i].2.1,v,⟨_,I.hok.fresh (Qh _),rfl,rfl⟩,λys ty=>?_⟩,⟨_,_,he'⟩,?_⟩
  .exact nK (s:=s) (t':=s.toks) (its:=[.ref xs[i].2.1,xs[i].2.2]) I hf kk (Qh _) (show(2:Nat)<=sizeLine by decide) (.cons rfl (.cons rv .nil)) ⟨_,(hs'.2 _ (WE sT)).trans a3,rfl,_,rfl⟩
  .obtain ⟨_,od',es',g',_,dat',sz',rows'⟩:=zS I ty;rw[g]at g';cases g';rw[dat]at dat';injection dat' with d1 d2
   subst d1;have hy:i<ys.length:=by lia
   have e3:=rows' i _ (Qw hy);rw[e2]at e3;have e4:=Option.some.inj e3;refine⟨ys[i],Qw hy,Value.ref.inj (Mn DictEntry.key e4),?_⟩;have e5:xs[i].2.2=ys[i].2.2:=Mn DictEntry.val e4;rw[<-e5];exact rv
  .intro b hb;have e:b=it:=by simpa using hb
   subst e;rw[zd (QG sT)];exact(hf _ hb).1
 done:=by
  intro X hP hw hK hc i pins s σ H E I hf st hg;subst hP hw hK;obtain⟨xs,td,hn,hi⟩:=hg;obtain⟨_,od,es,g,ex,dat,sz,rows⟩:=zS I td;obtain⟨f0,f1,f2,f3,f4,f5⟩:=hf it (by simp);obtain⟨ok,ov,st⟩:=st;subst hn;exact Aq (I.ok.hd hc) st g dat sz hi λh' eb=>⟨rfl,I.turned (t':=s.toks) (λb o hb e=>eb b o hb e) f0 f1 f3 f4 f5⟩
 self:=λ_ _ _ _ _ st h=>by
  obtain⟨ok,ov,st⟩:=st;exact PySem.W.kcp_self st h
def uc(X:Cx)(tl:TE):TI:=λσ H R=>tl σ H λx H1=>∃d v xs,x=.ref v/\H1 v=some (fR v d)/\yb X.K H1 d xs/\R (nz X.K d xs.length) H1
def Fj (hl:PE X l tl):PI X (.Tuple elts k pt) l (uc X tl):=by
 intro pins s σ H R I h;refine ba (hl pins s σ H _ I h) λv s1 ⟨x,H1,I1,r1,q1⟩=>?_;obtain⟨d,v,xs,e,hv,td,q⟩:=q1;subst e;cases r1;obtain⟨nosys,od,es,g,ex,dat,sz,_⟩:=zS I1 td;refine Ap (I1.hok v _ hv).1 g dat sz ?_;refine⟨s1.heap.objs.size,[s1.heap.objs.size],_,_,H1,rfl,I1.kept (t':=s1.toks) λb o e=>Qc _ e,F5 _,⟨_,_,Qe _ rfl⟩,λb hb=>?_,q⟩;have e:b=s1.heap.objs.size:=by simpa using hb
 subst e;exact I1.fpOk (Qh _) (I1.hok.fresh (Qh _))
end
section
variable{X:Cx}
def lQ(K:Qb)(tk tv:TE):TE:=λσ H Q=>∀d,H d=none->tk σ (aI H d (zO d [])) λx H1=>tv σ H1 λy H2=>∃a ks,x=.ref a/\bI K H2 a (ks.map V.int)/\H2 d=some (zO d [])/\∀u,RelV y u->Q (.ref d) (aI H2 d (zO d [(ks,a,u)]))
def Dw (hu:X.A.units+64<Ku)(hk:PE X k tk)(hv:PE X v tv):PE X (.Dict [some k] [v] pos) (lQ X.K tk tv):=by
 intro pins s σ H Q I h;have hd:(s.heap.objs.size==JQ)=false:=by
  obtain⟨o,_,_,ho,_⟩:=I.ok.mod.glob;have h1:(3:Nat)<X.base.objs.size:=Qi ho;have h2:=Qr I.ok.bsz I.sz;have:s.heap.objs.size≠(1:Nat):=by lia
  exact beq_eq_false_iff_ne.mpr this
 have new:bp X.prog X.w (aI H s.heap.objs.size (zO s.heap.objs.size [])) (s.heap.push {cls:=.type "dict",data:=.dict #[]}) s.heap.objs.size (zO s.heap.objs.size []):=by
  refine⟨⟨hd,_,#[],Qe _ rfl,⟨rfl,rfl,rfl⟩,rfl,rfl,QK⟩,⟨_,Qe _ rfl⟩,λh1 h2 hx k=>?_⟩;obtain⟨a0,o,es,a1,r⟩:=hx;exact⟨a0,o,es,k o a1,r⟩
 have I1:=I.laid (a:=s.heap.objs.size) (o:=zO s.heap.objs.size []) (h':=s.heap.push {cls:=.type "dict",data:=.dict #[]}) (t':=s.toks) (λ_ _ q=>Qc _ q) (Qh _) new;have q:=h s.heap.objs.size I.fresh;refine wpAny_Dict_any rfl rfl (by simp) (by simp) (ba (E5 hk hv CW pins _ σ _ (λps H2=>match ps with
   |[(x,y)]=>∃a ks,x=.ref a/\bI X.K H2 a (ks.map V.int)/\H2 s.heap.objs.size=some (zO s.heap.objs.size [])/\∀u,RelV y u->Q (.ref s.heap.objs.size) (aI H2 s.heap.objs.size (zO s.heap.objs.size [(ks,a,u)]))
   |_=>False) I1 q) λws s2 ⟨ps,H2,I2,rel,r⟩=>?_)
 match ps,r with
 |[(x,y)],r=>
  obtain⟨a,ks,rfl,sq,eH,fin⟩:=r;obtain⟨u,ry,rfl⟩:∃u,RelV y u/\ws=[(.ref a,u)]:=by
   cases rel with
   |@cons _ b _ _ p r=>
    cases r;obtain⟨b1,b2⟩:=b;obtain⟨p1,p2⟩:=p;have p1:b1=.ref a:=p1;exact⟨b2,p2,by rw[p1]⟩
  obtain⟨⟨_,o1,es1,b1,b2,b3,b4,b5⟩,_,_⟩:=I2.hok _ _ eH;unfold storeAll;simp only[Vq,W7];refine Kb (Kb (nW (kd:=JS (JT X.prog X.w)) (by show X.A.units<Ku;lia) (xT I2 sq) ⟨o1,es1,b1,b2,b3,b4,b5⟩ (λx hx=>nomatch hx) (by decide) λh' ⟨o',es,a1,a2,a3,a4,a6⟩ sb=>Ki (Ki ⟨.ref s.heap.objs.size,aI H2 s.heap.objs.size (zO s.heap.objs.size [(ks,a,u)]),?_,rfl,fin u ry⟩)));refine I2.write (x:=s.heap.objs.size) (e:=s.heap.objs.size) (by rw[eH];trivial) (.inl rfl) (λb u' hb e=>(sb.2 b hb).trans e) ⟨_,a1⟩ ⟨⟨hd,o',es,a1,a2,a3,a4,a6⟩,⟨_,a1⟩,λh1 h2 hx k=>?_⟩;obtain⟨b0,o,es,b1,r⟩:=hx;exact⟨b0,o,es,k o b1,r⟩
end
end L2
namespace PySem
open Sem (wp)
open AutoSeq1 (wpAny_loadPart')
section
variable{prog:JM}{w:JN}{A:JW}{E:Value->Shared->Prop}{s:Shared}
def wO {n:Nat}(hh:A.handled=none)(hr:IsRange s.heap r a b c t u v)(hsmall:Builtin.Range.small a b c=true)(hn:Builtin.Range.rangeSize a b c=n)(hlen:n<=2^24)(hQ:∀(h':JP) (tk:Nat) (acc:Array Value),(∀b o,s.heap.get? b=some o->h'.get? b=some o)->Mi (λi v=>∃t,v=.int (a+i*c) t) acc n->Q acc.toList {s with heap:=h',toks:=tk}):
  JY (JZ prog w) A (collect (.ref r)) Q E s:=by
 unfold collect;refine Kb (wpAny_runValue (Lq F.entry_proto_collect ?_));rw[Around.under_plainId F.plain_proto_collect _];show JY _ A.in1 (newList [] >>= λl=>again (.builtin "list.__iadd__" ⟨[l,.ref r],[]⟩)) _ _ s;refine Kb (KQ ?_);refine Ki ⟨Lp F.plain_list_iadd _,Lq F.entry_list_iadd ?_⟩;rw[Around.under_plainId F.plain_list_iadd _];show JY _ A.in1 (Builtin.List.listExtendWith (.ref s.heap.objs.size) (.ref r) (.ref s.heap.objs.size)) _ _ _;have hS:(s.heap.push {cls:=.type "list",data:=.seq ([]:List Value).toArray}).get? s.heap.objs.size=some {cls:=.type "list",data:=.seq #[] 0}:=Qe _ rfl;refine J2 (wpAny_extend_range (A:=A) (R:=λq s'=>q=.ok (.ret (.ref s.heap.objs.size))/\∃(h':JP) (tk:Nat) (acc:Array Value) (c':Nat),s'={s with heap:=h',toks:=tk}/\(∀b o,s.heap.get? b=some o->h'.get? b=some o)/\h'.get? s.heap.objs.size=some {cls:=.type "list",dict:=none,data:=.seq acc c',slots:=#[]}/\Mi (λi v=>∃t,v=.int (a+i*c) t) acc n)
  (s:={s with heap:=s.heap.push {cls:=.type "list",data:=.seq ([]:List Value).toArray} }) hh (Qc _ hr) hsmall hn hlen _ _ 0 hS
  λh' tk acc c' kp e ia=>⟨rfl,h',tk,acc,c',rfl,λb o e=>kp b o (QG (Qi e)) (Qc _ e),e,ia⟩) (λfin s' h=>?_) (λe s' h=>?_)
 .have fin':∀(h':JP) (tk:Nat) (acc:Array Value) (c':Nat),(∀b o,s.heap.get? b=some o->h'.get? b=some o)->h'.get? s.heap.objs.size=some {cls:=.type "list",dict:=none,data:=.seq acc c',slots:=#[]}->Mi (λi v=>∃t,v=.int (a+i*c) t) acc n->JY (JZ prog w) A (match Value.ref s.heap.objs.size with
   |Value.ref a=>do
    match (<-load a).data with
     |Data.seq xs _=>pure xs.toList
     |_=>unsupported "internal:collect"
   |_=>unsupported "internal:collect") Q E {s with heap:=h',toks:=tk}:=λh' tk acc c' kp e ia=>by
   show JY _ A (load s.heap.objs.size >>= _) _ _ _;refine Kb (wpAny_load e ?_);refine Ki ?_;exact hQ h' tk acc kp ia
  cases fin with
  |done f=>
   obtain⟨e,h',tk,acc,c',rfl,kp,eh,ia⟩:=h;cases e;exact fin' h' tk acc c' kp eh ia
  |again c'=>exact⟨h.1,Kx h.2 λq s'' hq=>by obtain⟨rfl,h',tk,acc,c',rfl,kp,eh,ia⟩:=hq;exact fin' h' tk acc c' kp eh ia⟩
 .exact Mm h.1 (by simp)
def wl {n:Nat}(hh:A.handled=none)(hr:IsRange s.heap r a b c t u v)(hsmall:Builtin.Range.small a b c=true)(hn:Builtin.Range.rangeSize a b c=n)(hlen:n<=2^24)(hsz:n<=sizeLine)(h:∀(h':JP) (tk:Nat) (acc:Array Value),(∀b o,s.heap.get? b=some o->h'.get? b=some o)->Mi (λi v=>∃t,v=.int (a+i*c) t) acc n->Q₁ (.ref h'.objs.size) {s with heap:=h'.push {cls:=.type "tuple",data:=.seq acc},toks:=tk}):
  Kw (JZ prog w) A (.call (.builtin "tuple.__new__") ⟨[.type "tuple",.ref r],[]⟩) (wants Q₁ E) s:=by
 refine codeAny_of_tree ?_;show JY _ A.in1 (do checkBuiltinCall "tuple.__new__" ⟨[.type "tuple",.ref r],[]⟩;again (.builtin "tuple.__new__" ⟨[.type "tuple",.ref r],[]⟩)) _ _ s;refine Kb (LW (F.newCall_tuple_1 _) (Ki ⟨Lp (by decide +kernel:plainId "tuple.__new__"=true) _,Lq F.entry_tuple_new ?_⟩));rw[Around.under_plainId (by decide +kernel:plainId "tuple.__new__"=true) _];have hsub:=sub_tuple_self;have hinit:=init_tuple_lookup;have hmh:=madeHere_tuple;have hTI:s.TypeIs (.ref r) "range":=⟨_,hr,rfl⟩;have hh':A.in1.handled=none:=hh;have col:∀{Q:List Value->Shared->Prop}{E:Value->Shared->Prop},(∀(h':JP) (tk:Nat) (acc:Array Value),(∀b o,s.heap.get? b=some o->h'.get? b=some o)->Mi (λi v=>∃t,v=.int (a+i*c) t) acc n->Q acc.toList {s with heap:=h',toks:=tk})->JY (JZ prog w) A.in1 (collect (.ref r)) Q E s:=λhQ=>wO hh' hr hsmall hn hlen hQ
 wp_walk using KP hTI,col
 intro h' tk acc hm hacc;show JY _ _ (Builtin.Tuple.tupleExact acc.toList.toArray >>= λv=>ret v) _ _ _;unfold Builtin.Tuple.tupleExact;refine Kb (KQ ?_ (by show acc.toList.toArray.size<=sizeLine;simp only[Array.toArray_toList];rw[hacc.1];exact hsz));refine Ki ?_;have e:acc.toList.toArray=acc:=by simp
 rw[e];exact h h' tk acc hm hacc
def v4 {n:Nat}(hh:A.handled=none)(hr:IsRange s.heap r a b c t u v)(hsmall:Builtin.Range.small a b c=true)(hn:Builtin.Range.rangeSize a b c=n)(hlen:n<=2^24)(hsz:n<=sizeLine)(hQ:∀(h':JP) (tk:Nat) (acc:Array Value),(∀b o,s.heap.get? b=some o->h'.get? b=some o)->Mi (λi v=>∃t,v=.int (a+i*c) t) acc n->Q (.ref h'.objs.size) {s with heap:=h'.push {cls:=.type "tuple",data:=.seq acc},toks:=tk}):
  JY (JZ prog w) A (call (.type "tuple") [.ref r]) Q E s:=by
 refine callType_codes (Q₁:=λobj s₁=>s₁.TypeIs obj "tuple" /\ Q obj s₁) F.called_tuple (F.typeCall_tuple_1 _) F.entry_object_init
  (wl (A:=A.in1) hh hr hsmall hn hlen hsz λh' tk acc hm hacc=>⟨⟨_,Qe _ rfl,rfl⟩,hQ h' tk acc hm hacc⟩) λobj s₁ h₁=>?_
 exact⟨h₁.1,F.args_object_init_2 obj _,object_init_meets F.called_tuple.init.lookup F.called_tuple.made (by decide) prog w A.in1 _ s₁ ⟨h₁.1,rfl,h₁.2⟩⟩
end
end PySem
namespace L2
open PySem PySem.Spec PyProof.Rows
section
variable{X:Cx}
def Fi (hacc:Mi (λi v=>∃t,v=Value.int ((0:Int)+i*1) t) acc n):av ((QU n).map λ(i:Nat)=>V.int ((0:Int)+1*(i:Int))) acc.toList:=by
 have gen:∀(us:List Value) (n:Nat),us.length=n->∀m:Nat,(∀i v,us[i]?=some v->∃t,v=Value.int ((0:Int)+((m+i:Nat):Int)*1) t)->av ((VP m n).map λ(i:Nat)=>V.int ((0:Int)+1*(i:Int))) us:=by
  intro us
  induction us with
  |nil=>intro n hn m _;simp at hn;subst hn;exact .nil
  |cons u us ih=>
   intro n hn m hu;cases n with
   |zero=>simp at hn
   |succ n=>
    rw[List.range'_succ,QM];obtain⟨t,rfl⟩:=hu 0 u rfl;refine .cons ⟨t,?_⟩ (ih n (by simpa using hn) (m+1) λi v hv=>?_)
    .congr 1;simp
    .obtain ⟨t,e⟩:=hu (i+1) v (by simpa using hv);exact⟨t,by rw[e];congr 2;congr 1;lia⟩
 have:=gen acc.toList n (by rw[QS];exact hacc.1) 0 (λi v hv=>by
  obtain⟨t,e⟩:=hacc.2 i v (by simpa using hv);exact⟨t,by rw[e];simp⟩)
 rw[<-List.range_eq_range']at this;exact this
def Ao(ta:TA):TE:=λσ H Q=>ta σ H λvs H1=>∃j:Int,vs=[.int j]/\-(2^30)<=j/\j<2^24/\j.toNat<=sizeLine/\∀l,H1 l=none->Q (.ref l) (aI H1 l (.tup ((QU j.toNat).map λ(i:Nat)=>V.int ((0:Int)+1*(i:Int)))))
def Dv (hc:X.calm=true)(hgl:Gl X "tuple")(hml:X.mg "tuple"=none)(hg:Gl X "range")(hm:X.mg "range"=none)(ha:PA X [a] ta)(hs:J1 [a] X.env=[(false,eval a X.env)]:=by rfl):
  PE X (.Call (.Name "tuple" p) [.Call (.Name "range" p') [a] [] pos'] [] pos) (Ao ta):=by
 intro pins s σ H Q I h;refine Ky (x9 I hgl hml PyProof.Rows.boot_tuple ?_ (by decide) (by decide));refine PyProof.Rows.callWith_type1 ?_ rfl rfl;refine Calls.spliced_cons ?_;refine Call_ (x9 I hg hm boot_range (PyProof.Rows.callWith_type1 (ba (ha pos' pins s σ H _ I h) λus s1 ⟨vs,H1,I1,r1,q1⟩=>?_) hs rfl));obtain⟨j,e,q1,q2,q3,q⟩:=q1;subst e;cases r1 with
 |cons r rr=>
  cases rr;obtain⟨t,rfl⟩:=r;refine call_range_1 (Calls.spliced_nil ?_);have hn:Builtin.Range.rangeSize 0 j 1=(j.toNat:Int):=by rw[rangeSize_one];split<;>lia
  refine v4 (n:=j.toNat) (I1.ok.hd hc) (IsRange.new ..) (small_one (by lia) (by lia) (by lia) (by lia)) hn (by lia) q3 λh' tk acc kp hacc=>?_;have I2:Inv X pins σ H1 {s1 with heap:=s1.heap.push {cls:=.type "range",data:=.fields #[.int 0 s1.toks,.int j t,.int 1 (s1.toks+1)]},toks:=s1.toks+1+1}:=I1.kept λb o e=>Qc _ e;have I3:Inv X pins σ H1 {s1 with heap:=h',toks:=tk}:=I2.kept (t':=tk) kp;have hv:=Fi hacc;have I4:Inv X pins σ (aI H1 h'.objs.size (.tup ((QU j.toNat).map λ(i:Nat)=>V.int ((0:Int)+1*(i:Int))))) {s1 with heap:=h'.push {cls:=.type "tuple",data:=.seq acc},toks:=tk} :=
   I3.laid (t':=tk) (λb o e=>Qc _ e) (Qh _) (show bp X.prog X.w _ _ _ (.tup ((QU j.toNat).map λ(i:Nat)=>V.int ((0:Int)+1*(i:Int))))from⟨by simpa using q3,acc.toList,hv,by simpa using IsTup.new _ _⟩)
  exact⟨.ref h'.objs.size,_,I4,rfl,q _ (I3.hok.fresh (Qh _))⟩
end
end L2
namespace Mini
open PySem PySem.Spec PyProof.Rows L2
section
variable{K:Qb}{as:List Addr}{H:Hp}{m:Me}{Q:VK}
def p0{b:Bool}{r:Rz}(h:ak K as H Q (match b with|true=>r|false=>.no)):b=true/\ak K as H Q r:=by
 cases b with
 |true=>exact⟨rfl,h⟩
 |false=>exact h.elim
def sK (hk:k=.get\/k=.sum)(h:i8 k w m=true):∃l ks ws,w=.ref l/\m[l]?=some (.dct ks ws):=by
 have go:∀{w:Wd},(match w with |.ref l=>(match m[l]? with|some (.dct _ _)=>true|_=>false)|_=>false)=true->∃l ks ws,w=.ref l/\m[l]?=some (.dct ks ws):=λ{w} h=>by
  cases w with
  |ref l=>
   cases e:m[l]? with
   |none=>simp[e]at h
   |some o=>
    cases o with
    |lst xs=>simp[e]at h
    |dct ks ws=>exact⟨l,ks,ws,rfl,e⟩
  |_=>cases h
 cases k with
 |get=>exact go h
 |sum=>exact go h
 |_=>rcases hk with e|e<;>cases e
def xY (S:aK K as m H)(hm:m[l]?=some (.dct ks ws))(R:ah K as H (.ref l) v):∃a xs vs,v=.ref a/\as[l]?=some a/\yb K H a xs/\xs.map (·.1)=ks/\aa K as H ws vs/\av vs (xs.map (·.2.2)):=by
 obtain⟨a,ha,rfl⟩:=aG.mp R;obtain⟨a',xs,vs,ha',td,e,r,rv,_⟩:=vU S hm;rw[ha]at ha';cases ha';exact⟨a,xs,vs,rfl,ha,td,e,r,rv⟩
theorem g7:∀{xs:List TK}{ws:List Wd}{q:List Int},xs.length=ws.length->cq (xs.map (·.1)) ws q=none->Lk xs q=none
 |[],_,_,_,_=>rfl
 |x::xs,[],q,h,_=>by cases h
 |x::xs,w::ws,q,h,e=>by
  have e':(if x.1=q then some w else cq (xs.map (·.1)) ws q)=none:=e;by_cases c:x.1=q
  .rw[Mk c]at e';cases e'
  .rw[Ml c]at e';have:=g7 (by simpa using h) e';simpa [Lk,List.find?_cons,c]using this
def Fh (S:aK K as m H)(R:ah K as H x v)(R':ah K as H y u)(R2:ah K as H z t)(h:ak K as H Q (kT .get x y z m)):oP K v [u,t] H Q:=by
 unfold kT at h;cases x with
 |ref l=>
  dsimp only at h;cases e:m[l]? with
  |none=>rw[e]at h;exact h.elim
  |some o=>
   cases o with
   |lst ys=>rw[e]at h;exact h.elim
   |dct ks ws=>
    rw[e]at h;dsimp only at h;obtain⟨a,xs,vs,rfl,ha,td,rfl,r,rv⟩:=xY S e R;cases ek:kS y with
    |none=>rw[ek]at h;exact h.elim
    |some k=>
     rw[ek]at h;dsimp only at h;obtain⟨b,rfl,qb⟩:=vF ek R';have hl:xs.length=ws.length:=by have h1:=r.length;have h2:=rv.length;simp at h2;lia
     refine⟨a,b,k,xs,t,rfl,rfl,qb,td,λp z1 hp rz=>?_,λhn=>?_,λp hp=>?_⟩
     .cases ew:cq (xs.map (·.1)) ws k with
      |none=>rw[g7 hl ew]at hp;cases hp
      |some w=>
       rw[ew]at h;obtain⟨p',z',h1,h2,h3⟩:=jp r rv ew;rw[hp]at h1;cases h1;rw[rz.inj h2];exact h.ok S h3
     .cases ew:cq (xs.map (·.1)) ws k with
      |none=>rw[ew]at h;exact h.ok S R2
      |some w=>
       obtain⟨p',z',h1,h2,h3⟩:=jp r rv ew;rw[hn]at h1;cases h1
     .cases ew:cq (xs.map (·.1)) ws k with
      |none=>rw[g7 hl ew]at hp;cases hp
      |some w=>
       obtain⟨p',z',h1,h2,h3⟩:=jp r rv ew;rw[hp]at h1;cases h1;exact⟨z',h2⟩
 |_=>exact h.elim
end
section
variable{cl:Nat->List Wd->Me->Rz}{X:Cx}{a b c:Ex}{x y z:Expr}{pos:Pos}
def Fg (hu:X.A.units+64<Ku)(ha:PE X x (aM X.K (ag cl a)))(hb:PE X y (aM X.K (ag cl b)))(hc:PE X z (aM X.K (ag cl c)))(hx:xW x=true)(hl:(ap.endLine==pos.line)=true)(hs:zn y=true)(hs':zn z=true):
  PE X (.Call (.Attribute x "get" ap) [y,z] [] pos) (aM X.K (ag cl (.dop .get a b c))):=by
 have hall:[y,z].all zn=true:=by simp[hs,hs']
 refine PE.imp (zk PySem.F.slot_dict_get PySem.F.type_dict_get (Dy hu) ha (zT hb (zT hc xE (zf hs')) (zf hs)) (bU hx) (pT hall (by simp)) hl (zf hs) (zV (by simp[hs']))) λσ H Q h=>?_;obtain⟨as,env,m,S,G,P⟩:=h;refine⟨as,env,m,S,G,ak.bind P λw m1 as1 H1 v T1 S1 R1 P1=>?_⟩;obtain⟨hd,P1⟩:=p0 P1;obtain⟨l,ks,ws,rfl,hm⟩:=sK (by simp) hd;obtain⟨a1,xs,vs,rfl,_,td,_⟩:=xY S1 hm R1;refine⟨⟨a1,xs,rfl,td⟩,as1,env,m1,S1,G.mono S T1,ak.bind P1 λy m2 as2 H2 u T2 S2 R2 P2=>?_⟩;refine⟨as2,env,m2,S2,(G.mono S T1).mono S1 T2,ak.bind P2 λz m3 as3 H3 t T3 S3 R3 P3=>?_⟩;exact Fh S3 ((R1.mono S1 T2).mono S2 T3) (R2.mono S2 T3) R3 P3
def Du (hc:X.calm=true)(ha:PE X x (aM X.K (ag cl a)))(hg:Gl X "sum")(hm:X.mg "sum"=none)(hx:xW x=true)(hl:(ap.endLine==p2.line)=true):
  PE X (.Call (.Name "sum" p1) [.Call (.Attribute x "values" ap) [] [] p2] [] pos) (aM X.K (ag cl (.dop .sum a .unit .unit))):=by
 refine PE.imp (yQ (FM hc) hg hm PyProof.Rows.boot_sum (zT (pR PySem.F.slot_dict_values PySem.F.type_dict_values Dx ha (bU hx) hl) xE)) λσ H Q h=>?_;obtain⟨as,env,m,S,G,P⟩:=h;refine⟨as,env,m,S,G,ak.bind P λw m1 as1 H1 v T1 S1 R1 P1=>?_⟩;obtain⟨hd,P1⟩:=p0 P1;obtain⟨l,ks,ws,rfl,hm⟩:=sK (by simp) hd;obtain⟨a1,xs,vs,rfl,ha1,td,_,r,rv⟩:=xY S1 hm R1;refine⟨⟨a1,xs,rfl,td⟩,a1,xs,rfl,rfl,td,λq hq=>?_⟩;have P2:ak X.K as1 H1 Q (kT .sum (.ref l) (.tup []) (.tup []) m1):=P1;have P3:ak X.K as1 H1 Q (match m1[l]? with
  |some (.dct _ ws)=>match jK ws with
   |some i=>.ok (.int i) m1
   |none=>.no
  |_=>.no):=P2
 rw[hm]at P3;dsimp only at P3;cases es:jK ws with
 |none=>rw[es]at P3;exact P3.elim
 |some i=>
  rw[es]at P3;have U:Step as1 H1 as1 (aI H1 q (fS q a1)):=Step.updD .refl hq;have S2:aK X.K as1 m1 (aI H1 q (fS q a1)):=S1.keep U λb _ o e=>by rw[zd (zo e hq)];exact e
  obtain⟨a2,xs2,vs2,e2,ha2,td2,_,r2,rv2⟩:=xY S2 hm (R1.mono S1 U);cases e2;obtain⟨ns,rfl,rfl⟩:=gS r2 es;exact⟨q,a1,xs2,ns,rfl,ze,td2,rv2,(ak.step P3 U).ok S2 (ab.mpr rfl)⟩
def Ca (hcm:X.calm=true)(hgl:Gl X "tuple")(hml:X.mg "tuple"=none)(hg:Gl X "range")(hm:X.mg "range"=none)(hs:zn x=true)(ha:PE X x (aM X.K (ag cl a))):
  PE X (.Call (.Name "tuple" p) [.Call (.Name "range" p') [x] [] pos'] [] pos) (aM X.K (ag cl (.dop .trg a .unit .unit))):=by
 refine PE.imp (Dv hcm hgl hml hg hm (zT ha xE (zf hs)) (zf hs)) λσ H Q h=>?_;obtain⟨as,env,m,S,G,P⟩:=h;refine⟨as,env,m,S,G,ak.bind P λw m1 as1 H1 v T1 S1 R1 P1=>?_⟩;have P2:ak X.K as1 H1 Q (kT .trg w (.tup []) (.tup []) m1):=P1;cases w with
 |int j=>
  obtain rfl:=ab.mp R1;have hlim:(aq:Int)=100000:=rfl;have P3:ak X.K as1 H1 Q (if -(aq:Int)<=j/\j<=aq then .ok (.tup (eP 0 1 j.toNat)) m1 else .no):=P2;by_cases hc:-(aq:Int)<=j/\j<=aq
  .rw[Mk hc]at P3;have hz:j.toNat<=sizeLine:=Qr (by have:aq=100000:=rfl;lia) yT;refine⟨j,rfl,by lia,by lia,hz,λl hl=>?_⟩;obtain⟨T,S2,R2⟩:=S1.tup hl (jh 1 j.toNat 0);exact P3 _ _ _ T S2 R2
  .rw[Ml hc]at P3;exact P3.elim
 |_=>exact P2.elim
def aK.new1 {K:Qb}{b:Addr}(S:aK K as m H)(hin:p∉as)(hp:H p=some (zO p []))(qb:bI K H b (q.map V.int))(Rw:ah K as H w v)(ru:RelV v u):
  Kp K H (aI H p (zO p [(q,b,u)]))->aK K (as++[p]) (m++[.dct [q] [w]]) (aI H p (zO p [(q,b,u)])):=λkp=>by
 refine⟨by simp[S.len],?_,λl c o h1 h2=>?_⟩
 .refine QN.mpr ⟨S.nd,by simp,λx hx y hy=>?_⟩;rw[Qq.mp hy];rintro rfl;exact hin hx
 .by_cases hl:l<as.length
  .rw[Qf hl]at h1;rw[Qf (by rw[<-S.len];exact hl)]at h2;have hc:c≠p:=λe=>hin (e▸Qp h1);exact bz.mono kp (λk a e=>by rw[Qf (Qa.mp e).1];exact e) (λo e=>by rw[zd hc];exact e) (S.obj l c o h1 h2)
  .rw[Qd (by lia)]at h1;rw[Qd (by rw[<-S.len];lia)]at h2;have hz:l-as.length=0:=by
    cases hq:l-as.length with
    |zero=>rfl
    |succ k=>rw[hq]at h1;simp at h1
   rw[hz]at h1;rw[<-S.len,hz]at h2;simp at h1 h2;subst h1;subst h2;refine⟨[(q,b,u)],[v],⟨ze,λx hx=>?_⟩,rfl,?_,.cons ru .nil,by simp⟩
   .rw[Qq.mp hx];exact kp.t _ _ qb
   .have R1:aa K as H [w] [v]:=.one Rw;exact bb kp (λk a e=>by rw[Qf (Qa.mp e).1];exact e) _ _ R1
def B9(hu:X.A.units+64<Ku)(hb:PE X y (aM X.K (ag cl b)))(hc:PE X z (aM X.K (ag cl c))):PE X (.Dict [some y] [z] pos) (aM X.K (ag cl (.dop .one .unit b c))):=by
 refine PE.imp (Dw hu hb hc) λσ H Q h d hd=>?_;obtain⟨as,env,m,S,G,P⟩:=h;have P0:ak X.K as H Q ((ag cl b env m).bind λy m2=>(ag cl c env m2).bind λz m3=>kT .one (.tup []) y z m3):=P;have U:Step as H as (aI H d (zO d [])):=Step.updD .refl hd;have S0:aK X.K as m (aI H d (zO d [])):=S.keep U λb _ o e=>by rw[zd (zo e hd)];exact e
 have hin:d∉as:=S.new hd;refine⟨as,env,m,S0,G.mono S U,fi P0 U λwy m1 as1 H1 v T1 S1 R1 P1=>?_⟩;have d1:H1 d=some (zO d []):=T1.frame d _ ze hin;have i1:d∉as1:=λz=>by
  rcases T1.fresh d z with q|q
  .exact hin q
  .rw[ze]at q;cases q
 refine⟨as1,env,m1,S1,(G.mono S U).mono S0 T1,fi P1 (U.trans T1) λwz m2 as2 H2 t T2 S2 R2 P2=>?_⟩;have d2:H2 d=some (zO d []):=T2.frame d _ d1 i1;have i2:d∉as2:=λz=>by
  rcases T2.fresh d z with q|q
  .exact i1 q
  .rw[d1]at q;cases q
 have R3:=R1.mono S1 T2;have P3:ak X.K as H Q (match kS wy with
  |some q=>.ok (.ref m2.length) (m2++[.dct [q] [wz]])
  |none=>.no):=P2
 cases ek:kS wy with
 |none=>rw[ek]at P3;exact P3.elim
 |some q=>
  rw[ek]at P3;obtain⟨b1,rfl,qb⟩:=vF ek R3;refine⟨b1,q,rfl,qb,d2,λu ru=>?_⟩;have kp:Kp X.K H2 (aI H2 d (zO d [(q,b1,u)])):=Kp.updL d2 trivial;have S3:=S2.new1 i2 d2 qb R2 ru kp;have T3:Step as H (as2++[d]) (aI H2 d (zO d [(q,b1,u)])):=by
   have T:=(U.trans T1).trans T2;obtain⟨r,hr⟩:=T.pre;refine⟨⟨r++[d],by rw[<-Qj,<-hr]⟩,λc o e hc=>?_,λc hc=>?_⟩
   .have hne:c≠d:=λz=>by rw[z,hd]at e;cases e
    rw[zd hne];exact T.frame c o e hc
   .rcases Qx.mp hc with z|z
    .exact T.fresh c z
    .rw[Qq.mp z];exact .inr hd
  refine P3 _ _ _ T3 S3 (aG.mpr ⟨d,?_,rfl⟩);rw[<-S2.len,Qd (Qh _)];simp
end
section
variable{cl:Nat->List Wd->Me->Rz}
def bW.pe (h:bW cl X e (.e x))(hr:zi e=false):PE X x (aM X.K (ag cl e)):=(h.1 hr).1
def bW.pt (h:bW cl X e (.e x))(hr:zi e=false)(hi:ji e=false):PT X x (xz X.K (ag cl e)):=(h.1 hr).2.1 hi
def bW.pw (h:bW cl X e (.e (.BoolOp op vs pos)))(hr:zi e=false):PW X (.BoolOp op vs pos) (xz X.K (ag cl e)):=(h.1 hr).2.2 op vs pos rfl
def bW.pa (h:bW cl X e (.a xs)):PA X xs (jj X.K (ag cl e)):=h
def AO (h:im sc x=true):fG sc x:=by
 unfold im at h;simp only[WS,Mq]at h;exact h
def xN (h:dq sc x=true):sc.names.lookup x=some .globalImplicit:=Mp h
def g8 {K:Qb}(hv:∀as H,ah K as H w v):∀σ H Q,aM K (ag cl (.lit w)) σ H Q->tC v σ H Q:=λσ H Q h=>by
 obtain⟨as,env,m,S,G,P⟩:=h;exact ak.ok (m:=m) P S (hv as H)
def yF (hs:ym y=true):∀v,Km y env v=pure v:=λv=>by
 cases y<;>first|rfl|cases hs
structure aH(C:Ctx)(sc:JK)(N:List Str)(e:Ex)(n:Nd):Prop where
 h:∀(cl:Nat → List Wd → Me → Rz) (d:Nat) (X:Cx),bS C X cl d → X.env.scope=sc → X.N=N → bW cl X e n
def yA (h:aH C sc N e n):∀X:Cx,bS C X cl d->X.env.scope=sc->X.N=N->bW cl X e n:=h.h cl d
def aH.«var»{C:Ctx}{sc:JK}{N:List Str}{i:Nat}{x:Str}{p:Pos}(h1:N[i]?=some x)(h2:im sc x=true)(h3:y6 x=true):aH C sc N (.var i) (.e (.Name x p)):=by
 constructor;intro cl d;intro X hC es eN;subst es;subst eN;obtain⟨n1,n2,_⟩:=vZ h3;refine bW.of (PE.imp (CU h1 (AO h2) n1 n2) λσ H Q q=>?_);obtain⟨as,env,m,S,G,P⟩:=q;cases hw:env[i]? with
 |none=>have P':ak X.K as H Q (match env[i]? with|some (some w)=>.ok w m|_=>.no):=P;rw[hw]at P';exact P'.elim
 |some o=>
  cases o with
  |none=>have P':ak X.K as H Q (match env[i]? with|some (some w)=>.ok w m|_=>.no):=P;rw[hw]at P';exact P'.elim
  |some w=>
   have P':ak X.K as H Q (match env[i]? with|some (some w)=>.ok w m|_=>.no):=P;rw[hw]at P';obtain⟨v,hv,R⟩:=G.get i w hw;exact⟨v,hv,ak.ok (m:=m) P' S R⟩
def aH.«bl»{C:Ctx}{sc:JK}{N:List Str}{b:Bool}{k}{p:Pos}:aH C sc N (.lit (.bl b)) (.e (.Constant (.bool b) k p)):=by
 constructor;intro cl d;intro X hC es eN;exact bW.of (PE.imp A4 (g8 λ_ _=>ai.mpr rfl))
def aH.«int»{C:Ctx}{sc:JK}{N:List Str}{i:Int}{k}{p:Pos}:aH C sc N (.lit (.int i)) (.e (.Constant (.int i) k p)):=by
 constructor;intro cl d;intro X hC es eN;exact bW.of (PE.imp CT (g8 λ_ _=>ab.mpr rfl))
def aH.«con»{C:Ctx}{sc:JK}{N:List Str}{x:Str}{i:Int}{p:Pos}(h1:dq sc x=true)(h2:C.cons.lookup x=some i)(h3:y6 x=true):aH C sc N (.lit (.int i)) (.e (.Name x p)):=by
 constructor;intro cl d;intro X hC es eN;subst es;obtain⟨n1,n2,_⟩:=vZ h3;obtain⟨t,ht⟩:=hC.con.1 x i h2;exact bW.of (PE.imp (Ei (xN h1) ht (v:=.int i) ⟨t,rfl⟩ n1) (g8 λ_ _=>ab.mpr rfl))
def aH.«bin»{C:Ctx}{sc:JK}{N:List Str}{op:Bo}{a b:Ex}{x y:Expr}{p:Pos}(ra:zi a=false)(ha:aH C sc N a (.e x))(rb:zi b=false)(hb:aH C sc N b (.e y)):aH C sc N (.bin op a b) (.e (.BinOp x (fD op) y p)):=by
 constructor;intro cl d;have iha:=ha.h cl d;have ihb:=hb.h cl d;intro X hC es eN;exact bW.of (BO ((iha X hC es eN).pe ra) ((ihb X hC es eN).pe rb))
def aH.«neg»{C:Ctx}{sc:JK}{N:List Str}{a:Ex}{x:Expr}{p:Pos}(ra:zi a=false)(ha:aH C sc N a (.e x)):aH C sc N (.neg a) (.e (.UnaryOp .USub x p)):=by
 constructor;intro cl d;have iha:=ha.h cl d;intro X hC es eN;exact bW.of (BN ((iha X hC es eN).pe ra))
def aH.«not»{C:Ctx}{sc:JK}{N:List Str}{a:Ex}{x:Expr}{p:Pos}(ra:zi a=false)(ia:ji a=false)(ha:aH C sc N a (.e x)):aH C sc N (.not a) (.e (.UnaryOp .Not x p)):=by
 constructor;intro cl d;have iha:=ha.h cl d;intro X hC es eN;have s1:=iha X hC es eN;exact⟨λ_=>⟨pW (s1.pe ra),λ_=>BM (s1.pt ra ia),λop vs pos z=>by cases z⟩,λtg=>ko (pW (s1.pe ra))⟩
def aH.«and2»{C:Ctx}{sc:JK}{N:List Str}{a b:Ex}{x y:Expr}{p:Pos}(ra:zi a=false)(ia:ji a=false)(ha:aH C sc N a (.e x))(rb:zi b=false)(ib:ji b=false)(hb:aH C sc N b (.e y)):aH C sc N (.and a b) (.e (.BoolOp .And [x,y] p)):=by
 constructor;intro cl d;have iha:=ha.h cl d;have ihb:=hb.h cl d;intro X hC es eN;have sa:=iha X hC es eN;have sb:=ihb X hC es eN;have e:=λ(p:Pos)=>BL (pos:=p) (sa.pe ra) (rq (sb.pe rb));have w:=λ(p:Pos)=>BK (pos:=p) (sa.pt ra ia) (Eg (sb.pt rb ib));exact⟨λ_=>⟨e _,λ_=>(w _).pt,λop vs pos z=>by cases z;exact w _⟩,λtg=>ko (e _)⟩
def aH.«or2»{C:Ctx}{sc:JK}{N:List Str}{a b:Ex}{x y:Expr}{p:Pos}(ra:zi a=false)(ia:ji a=false)(ha:aH C sc N a (.e x))(rb:zi b=false)(ib:ji b=false)(hb:aH C sc N b (.e y)):aH C sc N (.or a b) (.e (.BoolOp .Or [x,y] p)):=by
 constructor;intro cl d;have iha:=ha.h cl d;have ihb:=hb.h cl d;intro X hC es eN;have sa:=iha X hC es eN;have sb:=ihb X hC es eN;have e:=λ(p:Pos)=>oT (pos:=p) (sa.pe ra) (rq (sb.pe rb));have w:=λ(p:Pos)=>oS (pos:=p) (sa.pt ra ia) (CQ (sb.pt rb ib));exact⟨λ_=>⟨e _,λ_=>(w _).pt,λop vs pos z=>by cases z;exact w _⟩,λtg=>ko (e _)⟩
def aH.«orN»{C:Ctx}{sc:JK}{N:List Str}{a b:Ex}{x y z:Expr}{r:List Expr}{p:Pos}(ra:zi a=false)(ia:ji a=false)(ha:aH C sc N a (.e x))(rb:zi b=false)(hb:aH C sc N b (.e (.BoolOp .Or (y::z::r) p))):aH C sc N (.or a b) (.e (.BoolOp .Or (x::y::z::r) p)):=by
 constructor;intro cl d;have iha:=ha.h cl d;have ihb:=hb.h cl d;intro X hC es eN;have sa:=iha X hC es eN;have sb:=ihb X hC es eN;have e:=oT (sa.pe ra) (sb.pe rb);have w:=oS (sa.pt ra ia) (sb.pw rb);exact⟨λ_=>⟨e,λ_=>w.pt,λop vs pos z=>by cases z;exact w⟩,λtg=>ko e⟩
def aH.«cmp»{C:Ctx}{sc:JK}{N:List Str}{op:Co}{a b:Ex}{x y:Expr}{p:Pos}(hs:ym y=true)(ra:zi a=false)(ha:aH C sc N a (.e x))(rb:zi b=false)(hb:aH C sc N b (.e y)):aH C sc N (.cmp op a b) (.e (.Compare x [cK op] [y] p)):=by
 constructor;intro cl d;have iha:=ha.h cl d;have ihb:=hb.h cl d;intro X hC es eN;have ea:=(iha X hC es eN).pe ra;have eb:=(ihb X hC es eN).pe rb;exact⟨λ_=>⟨pV hC.room.units ea eb hs,λ_=>BJ hC.room.units ea eb hs,λop vs pos z=>by cases z⟩,λtg=>ko (pV hC.room.units ea eb hs)⟩
def aH.«chain»{C:Ctx}{sc:JK}{N:List Str}{o q:Co}{a b c:Ex}{x y z:Expr}{p:Pos}(hs:ym z=true)(ra:zi a=false)(ha:aH C sc N a (.e x))(rb:zi b=false)(hb:aH C sc N b (.e y))(rc:zi c=false)(hc:aH C sc N c (.e z)):aH C sc N (.chain o q a b c) (.e (.Compare x [cK o,cK q] [y,z] p)):=by
 constructor;intro cl d;have iha:=ha.h cl d;have ihb:=hb.h cl d;have ihc:=hc.h cl d;intro X hC es eN;have ea:=(iha X hC es eN).pe ra;have eb:=(ihb X hC es eN).pe rb;have ec:=(ihc X hC es eN).pe rc;exact⟨λ_=>⟨sN hC.room.units ea eb ec hs,λ_=>EZ hC.room.units ea eb ec hs,λop vs pos z=>by cases z⟩,λtg=>ko (sN hC.room.units ea eb ec hs)⟩
def aH.«ife»{C:Ctx}{sc:JK}{N:List Str}{a b c:Ex}{x y z:Expr}{p:Pos}(rc:zi c=false)(ic:ji c=false)(hc:aH C sc N c (.e x))(ra:zi a=false)(ha:aH C sc N a (.e y))(rb:zi b=false)(hb:aH C sc N b (.e z)):aH C sc N (.ife c a b) (.e (.IfExp x y z p)):=by
 constructor;intro cl d;have ihc:=hc.h cl d;have iha:=ha.h cl d;have ihb:=hb.h cl d;intro X hC es eN;have e:=λ(p:Pos)=>BI (pos:=p) ((ihc X hC es eN).pt rc ic) ((iha X hC es eN).pe ra) ((ihb X hC es eN).pe rb);exact⟨λ_=>⟨e _,λz=>(by cases z),λop vs pos z=>(by cases z)⟩,λtg=>ko (e _)⟩
def aH.«unit»{C:Ctx}{sc:JK}{N:List Str}:aH C sc N .unit (.a []):=by
 constructor;intro cl d;intro X hC es eN;exact DM
def aH.«pair»{C:Ctx}{sc:JK}{N:List Str}{a b:Ex}{x:Expr}{xs:List Expr}(hs:zn x=true)(ra:zi a=false)(ha:aH C sc N a (.e x))(hb:aH C sc N b (.a xs)):aH C sc N (.pair a b) (.a (x::xs)):=by
 constructor;intro cl d;have iha:=ha.h cl d;have ihb:=hb.h cl d;intro X hC es eN;exact DK ((iha X hC es eN).pe ra) (ihb X hC es eN).pa hs
def aH.«call»{C:Ctx}{sc:JK}{N:List Str}{k:Nat}{a:Ex}{f:Str}{y:Expr}{ys:List Expr}{p p':Pos}(h1:C.fns[k]?=some f)(h2:dq sc f=true)(h3:y6 f=true)(hs:(y::ys).all zn=true)(ha:aH C sc N a (.a (y::ys))):aH C sc N (.call k a) (.e (.Call (.Name f p) (y::ys) [] p')):=by
 constructor;intro cl d;have iha:=ha.h cl d;intro X hC es eN;subst es;exact bW.of (DJ hC h1 (xN h2) h3 hs (iha X hC rfl eN).pa)
def aH.«blt»{C:Ctx}{sc:JK}{N:List Str}{b:dR}{a:Ex}{nm:Str}{f:Value}{y:Expr}{ys:List Expr}{p p':Pos}(h1:lf b=some (nm,f))(h2:dq sc nm=true)(h3:y6 nm=true)(hs:(y::ys).all zn=true)(ha:aH C sc N a (.a (y::ys))):aH C sc N (.blt b a) (.e (.Call (.Name nm p) (y::ys) [] p')):=by
 constructor;intro cl d;have iha:=ha.h cl d;intro X hC es eN;subst es;exact bW.of (BH hC h1 (xN h2) h3 hs (iha X hC rfl eN).pa)
def aH.«isi»{C:Ctx}{sc:JK}{N:List Str}{t:Tg}{a:Ex}{y:Expr}{p p' p'':Pos}(h1:dq sc "isinstance"=true)(h2:dq sc (Str.ofString (cU t))=true)(hs:zn y=true)(ra:zi a=false)(ha:aH C sc N a (.e y)):aH C sc N (.isi t a) (.e (.Call (.Name "isinstance" p) [y,.Name (Str.ofString (cU t)) p'] [] p'')):=by
 constructor;intro cl d;have iha:=ha.h cl d;intro X hC es eN;subst es;exact bW.of (BG hC (xN h1) (xN h2) hs ((iha X hC rfl eN).pe ra))
def aH.«lst»{C:Ctx}{sc:JK}{N:List Str}{a:Ex}{xs:List Expr}{p:Pos}(ha:aH C sc N a (.a xs)):aH C sc N (.lst a) (.e (.List xs p)):=by
 constructor;intro cl d;have iha:=ha.h cl d;intro X hC es eN;exact bW.of (Ch (iha X hC es eN).pa)
def aH.«tup»{C:Ctx}{sc:JK}{N:List Str}{a:Ex}{xs:List Expr}{k}{p:Pos}(ha:aH C sc N a (.a xs)):aH C sc N (.tup a) (.e (.Tuple xs k p)):=by
 constructor;intro cl d;have iha:=ha.h cl d;intro X hC es eN;exact bW.of (Cg (iha X hC es eN).pa)
def aH.«idx»{C:Ctx}{sc:JK}{N:List Str}{a b:Ex}{x y:Expr}{p:Pos}(hs:yU y=true)(ra:zi a=false)(ha:aH C sc N a (.e x))(rb:zi b=false)(hb:aH C sc N b (.e y)):aH C sc N (.idx a b) (.e (.Subscript x y p)):=by
 constructor;intro cl d;have iha:=ha.h cl d;have ihb:=hb.h cl d;intro X hC es eN;exact bW.of (Cf ((iha X hC es eN).pe ra) ((ihb X hC es eN).pe rb) hs)
def aH.«dict0»{C:Ctx}{sc:JK}{N:List Str}{p:Pos}:aH C sc N .dict0 (.e (.Dict [] [] p)):=by
 constructor;intro cl d;intro X hC es eN;exact bW.of EV
def aH.«dget»{C:Ctx}{sc:JK}{N:List Str}{a b:Ex}{x y:Expr}{p:Pos}(hs:yU y=true)(ra:zi a=false)(ha:aH C sc N a (.e x))(rb:zi b=false)(hb:aH C sc N b (.e y)):aH C sc N (.dget a b) (.e (.Subscript x y p)):=by
 constructor;intro cl d;have iha:=ha.h cl d;have ihb:=hb.h cl d;intro X hC es eN;exact bW.of (Dz hC.room.units ((iha X hC es eN).pe ra) ((ihb X hC es eN).pe rb) hs)
def aH.«slL»{C:Ctx}{sc:JK}{N:List Str}{a b:Ex}{x y:Expr}{p p':Pos}(ra:zi a=false)(ha:aH C sc N a (.e x))(rb:zi b=false)(hb:aH C sc N b (.e y)):aH C sc N (.slL a b) (.e (.Subscript x (.Slice (some y) none none p') p)):=by
 constructor;intro cl d;have iha:=ha.h cl d;have ihb:=hb.h cl d;intro X hC es eN;exact bW.of (Ce ((iha X hC es eN).pe ra) ((ihb X hC es eN).pe rb))
def aH.«dgetM»{C:Ctx}{sc:JK}{N:List Str}{a b c:Ex}{x y z:Expr}{ap cp:Pos}(hx:xW x=true)(hl:(ap.endLine==cp.line)=true)(hs:zn y=true)(hs':zn z=true)(ra:zi a=false)(ha:aH C sc N a (.e x))(rb:zi b=false)(hb:aH C sc N b (.e y))(rc:zi c=false)(hc:aH C sc N c (.e z)):aH C sc N (.dop .get a b c) (.e (.Call (.Attribute x "get" ap) [y,z] [] cp)):=by
 constructor;intro cl d;have iha:=ha.h cl d;have ihb:=hb.h cl d;have ihc:=hc.h cl d;intro X hC es eN;exact bW.of (Fg hC.room.units ((iha X hC es eN).pe ra) ((ihb X hC es eN).pe rb) ((ihc X hC es eN).pe rc) hx hl hs hs')
def aH.«done1»{C:Ctx}{sc:JK}{N:List Str}{b c:Ex}{y z:Expr}{p:Pos}(rb:zi b=false)(hb:aH C sc N b (.e y))(rc:zi c=false)(hc:aH C sc N c (.e z)):aH C sc N (.dop .one .unit b c) (.e (.Dict [some y] [z] p)):=by
 constructor;intro cl d;have ihb:=hb.h cl d;have ihc:=hc.h cl d;intro X hC es eN;exact bW.of (B9 hC.room.units ((ihb X hC es eN).pe rb) ((ihc X hC es eN).pe rc))
def aH.«dtrg»{C:Ctx}{sc:JK}{N:List Str}{a:Ex}{x:Expr}{p p1 p2 p3:Pos}(hg:dq sc "tuple"=true)(hg':dq sc "range"=true)(hs:zn x=true)(ra:zi a=false)(ha:aH C sc N a (.e x)):aH C sc N (.dop .trg a .unit .unit) (.e (.Call (.Name "tuple" p1) [.Call (.Name "range" p2) [x] [] p3] [] p)):=by
 constructor;intro cl d;have iha:=ha.h cl d;intro X hC es eN;exact bW.of (Ca hC.calm (by rw[<-es]at hg;exact xN hg) (hC.blt _ (by simp[zp])) (by rw[<-es]at hg';exact xN hg') (hC.blt _ (by simp[zp])) hs ((iha X hC es eN).pe ra))
def aH.«dsum»{C:Ctx}{sc:JK}{N:List Str}{a:Ex}{x:Expr}{ap p p1 p2:Pos}(hg:dq sc "sum"=true)(hx:xW x=true)(hl:(ap.endLine==p2.line)=true)(ra:zi a=false)(ha:aH C sc N a (.e x)):aH C sc N (.dop .sum a .unit .unit) (.e (.Call (.Name "sum" p1) [.Call (.Attribute x "values" ap) [] [] p2] [] p)):=by
 constructor;intro cl d;have iha:=ha.h cl d;intro X hC es eN;exact bW.of (Du hC.calm ((iha X hC es eN).pe ra) (by rw[<-es]at hg;exact xN hg) (hC.blt _ (by simp[zp])) hx hl)
def aH.«meth»{C:Ctx}{sc:JK}{N:List Str}{k:dM}{o a:Ex}{x y:Expr}{ys:List Expr}{ap cp:Pos}(hx:xW x=true)(hl:(ap.endLine==cp.line)=true)(hn:(y::ys).length<29)(hs:(y::ys).all zn=true)(ro:zi o=false)(ho:aH C sc N o (.e x))(ha:aH C sc N a (.a (y::ys))):aH C sc N (.meth k o a) (.e (.Call (.Attribute x (fE k).1 ap) (y::ys) [] cp)):=by
 constructor;intro cl d;have iho:=ho.h cl d;have iha:=ha.h cl d;intro X hC es eN;exact bW.of (DF ((iho X hC es eN).pe ro) (iha X hC es eN).pa hx hl hn hs)
def aH.«rng1»{C:Ctx}{sc:JK}{N:List Str}{b:Ex}{y:Expr}{p p':Pos}(hg:dq sc "range"=true)(hs:zn y=true)(rb:zi b=false)(hb:aH C sc N b (.e y)):aH C sc N (.rng (.lit (.int 0)) b (.lit (.int 1))) (.e (.Call (.Name "range" p) [y] [] p')):=by
 constructor;intro cl d;have ihb:=hb.h cl d;intro X hC es eN;subst es;exact⟨λz=>(by cases z),λtg=>DE hC (xN hg) hs ((ihb X hC rfl eN).pe rb)⟩
def aH.«rng2»{C:Ctx}{sc:JK}{N:List Str}{a b:Ex}{x y:Expr}{p p':Pos}(hg:dq sc "range"=true)(hs:zn x=true)(hs':zn y=true)(ra:zi a=false)(ha:aH C sc N a (.e x))(rb:zi b=false)(hb:aH C sc N b (.e y)):aH C sc N (.rng a b (.lit (.int 1))) (.e (.Call (.Name "range" p) [x,y] [] p')):=by
 constructor;intro cl d;have iha:=ha.h cl d;have ihb:=hb.h cl d;intro X hC es eN;subst es;exact⟨λz=>(by cases z),λtg=>DD hC (xN hg) hs hs' ((iha X hC rfl eN).pe ra) ((ihb X hC rfl eN).pe rb)⟩
def aH.«comp0»{C:Ctx}{sc scope:JK}{N:List Str}{elt it:Ex}{x i:Expr}{y:Str}{p p':Pos}(hs:ym i=true)(hB:cg sc N scope [y]=true)(hi:aH C sc N it (.e i))(re:zi elt=false)(he:aH C (xM scope sc) (yR N [y]) elt (.e x)):aH C sc N (.comp elt it (.lit (.bl true))) (.e (.ListComp x [⟨.Name y p,i,[],0⟩] scope p')):=by
 constructor;intro cl d;have ihi:=hi.h cl d;have ihe:=he.h cl d;intro X hC es eN;subst es;subst eN;have B:=xl hB;have hI:=(ihi X hC rfl rfl).2 (.Name y p);have hset:∀v,Km i X.env v=pure v:=yF hs;have body:∀Xc,bH X scope [y] Xc->PE Xc x (aM X.K (ag cl elt)):=λXc c=>by
  have q:=(ihe Xc (hC.comp c) c.sc c.N).pe re;rw[c.K]at q;exact q
 refine bW.of (PE.imp (kE B hC.calm (rY B) hI (λXc c=>⟨kD,body Xc c⟩) hset) λσ H Q q=>j9 (λσ H Q q=>?_) q);obtain⟨as,env,m,S,G,P⟩:=q;obtain⟨b,e,q⟩:=ak.ok (m:=m) P S (ai.mpr rfl);cases e;exact q
def aH.«comp1»{C:Ctx}{sc scope:JK}{N:List Str}{elt it cond:Ex}{x i f:Expr}{y:Str}{p p':Pos}(hs:ym i=true)(hB:cg sc N scope [y]=true)(hi:aH C sc N it (.e i))(rc:zi cond=false)(ic:ji cond=false)(hc:aH C (xM scope sc) (yR N [y]) cond (.e f))(re:zi elt=false)(he:aH C (xM scope sc) (yR N [y]) elt (.e x)):aH C sc N (.comp elt it cond) (.e (.ListComp x [⟨.Name y p,i,[f],0⟩] scope p')):=by
 constructor;intro cl d;have ihi:=hi.h cl d;have ihc:=hc.h cl d;have ihe:=he.h cl d;intro X hC es eN;subst es;subst eN;have B:=xl hB;have hI:=(ihi X hC rfl rfl).2 (.Name y p);have hset:∀v,Km i X.env v=pure v:=yF hs;have body:∀Xc,bH X scope [y] Xc->PE Xc x (aM X.K (ag cl elt)):=λXc c=>by
  have q:=(ihe Xc (hC.comp c) c.sc c.N).pe re;rw[c.K]at q;exact q
 refine bW.of (PE.imp (kE B hC.calm (rY B) hI (λXc c=>⟨Df ?_,body Xc c⟩) hset) λσ H Q q=>j9 (λσ H Q q=>q) q);have q:=(ihc Xc (hC.comp c) c.sc c.N).pt rc ic;rw[c.K]at q;exact q
def aH.«compZ0»{C:Ctx}{sc scope:JK}{N:List Str}{elt a b:Ex}{x i j:Expr}{y z:Str}{p p' q q' q2 pt:Pos}{kt:Nat}(hg:dq sc "zip"=true)(hB:cg sc N scope [y,z]=true)(hs:zn i=true)(hs':zn j=true)(ra:zi a=false)(ha:aH C sc N a (.e i))(rb:zi b=false)(hb:aH C sc N b (.e j))(re:zi elt=false)(he:aH C (xM scope sc) (yR N [y,z]) elt (.e x)):
   aH C sc N (.compP .zip elt a b (.lit (.bl true))) (.e (.ListComp x [⟨.Tuple [.Name y p,.Name z q] kt pt,.Call (.Name "zip" q') [i,j] [] q2,[],0⟩] scope p')):=by
 constructor;intro cl d;have iha:=ha.h cl d;have ihb:=hb.h cl d;have ihe:=he.h cl d;intro X hC es eN;subst es;subst eN;have B:=xl hB;have hI:PI X (.Tuple [.Name y p,.Name z q] kt pt) (.Call (.Name "zip" q') [i,j] [] q2) _:=gZ (xN hg) (hC.blt _ (by simp[zp])) (zT ((iha X hC rfl rfl).pe ra) (zT ((ihb X hC rfl rfl).pe rb) xE (zf hs')) (zf hs)) (by rw[zf hs,zf hs'];rfl) (zf hs');have body:∀Xc,bH X scope [y,z] Xc->PE Xc x (aM X.K (ag cl elt)):=λXc c=>by
  have q:=(ihe Xc (hC.comp c) c.sc c.N).pe re;rw[c.K]at q;exact q
 refine bW.of (PE.imp (kE B hC.calm (gI hC.calm B) hI (λXc c=>⟨kD,body Xc c⟩) (λ_=>rfl)) λσ H Q q=>jn (λσ H Q q=>?_) q);obtain⟨as,env,m,S,G,P⟩:=q;obtain⟨b,e,q⟩:=ak.ok (m:=m) P S (ai.mpr rfl);cases e;exact q
def aH.«compT0»{C:Ctx}{sc scope:JK}{N:List Str}{elt a:Ex}{x i:Expr}{y z:Str}{p p' q pt:Pos}{kt:Nat}(hs:ym i=true)(hB:cg sc N scope [y,z]=true)(ha:aH C sc N a (.e i))(re:zi elt=false)(he:aH C (xM scope sc) (yR N [y,z]) elt (.e x)):
   aH C sc N (.compP .prs elt a (.lit (.int 0)) (.lit (.bl true))) (.e (.ListComp x [⟨.Tuple [.Name y p,.Name z q] kt pt,i,[],0⟩] scope p')):=by
 constructor;intro cl d;have iha:=ha.h cl d;have ihe:=he.h cl d;intro X hC es eN;subst es;subst eN;have B:=xl hB;have hI:=(iha X hC rfl rfl).2 (.Tuple [.Name y p,.Name z q] kt pt);have hset:∀v,Km i X.env v=pure v:=yF hs;have body:∀Xc,bH X scope [y,z] Xc->PE Xc x (aM X.K (ag cl elt)):=λXc c=>by
  have q:=(ihe Xc (hC.comp c) c.sc c.N).pe re;rw[c.K]at q;exact q
 refine bW.of (PE.imp (kE B hC.calm (gI hC.calm B) hI (λXc c=>⟨kD,body Xc c⟩) hset) λσ H Q q=>F7 (λσ H Q q=>?_) q);obtain⟨as,env,m,S,G,P⟩:=q;obtain⟨b,e,q⟩:=ak.ok (m:=m) P S (ai.mpr rfl);cases e;exact q
end
def AN:swappedStores [.Subscript o i p1] v env=pure none:=rfl
def Dt (h:∀x p,tg≠.Name x p):swapsWithSole [tg] v line env=pure false:=by
 cases v<;>first|rfl|(cases tg<;>first|rfl|exact Mm rfl (h _ _))
noncomputable def jq:Expr->Bool
 |.ListComp _ _ _ _=>true
 |.SetComp _ _ _ _=>true
 |.DictComp _ _ _ _ _=>true
 |_=>false
def pZ (h:jq v=false):J7 v t line env=pure false:=by
 cases v<;>first|rfl|cases h
def ay(K:Qb)(as:List Addr)(H:Hp)(D:cc)(r:Rs):Prop:=match r with
 |.next e m'=>∀as' H' σ',Step as H as' H'->aK K as' m' H'->aF K as' H' e σ'->D.nx σ' H'
 |.brk e m'=>∀as' H' σ',Step as H as' H'->aK K as' m' H'->aF K as' H' e σ'->D.bk σ' H'
 |.cont e m'=>∀as' H' σ',Step as H as' H'->aK K as' m' H'->aF K as' H' e σ'->D.ct σ' H'
 |.ret w m'=>∀as' H' v,Step as H as' H'->aK K as' m' H'->ah K as' H' w v->D.rt v H'
 |_=>False
def yG(K:Qb)(g:En->Me->Rs):TS:=λD σ H=>∃as env m,aK K as m H/\aF K as H env σ/\ay K as H D (g env m)
section
variable{K:Qb}{as as':List Addr}{H H':Hp}{m:Me}{D:cc}
set_option tactic.hygienic true in
def ay.step{r:Rs}(h:ay K as H D r)(T:Step as H as' H'):ay K as' H' D r:=by
 cases r with
 |next e m'=>exact λas2 H2 σ' U S G=>h as2 H2 σ' (T.trans U) S G
 |brk e m'=>exact λas2 H2 σ' U S G=>h as2 H2 σ' (T.trans U) S G
 |cont e m'=>exact λas2 H2 σ' U S G=>h as2 H2 σ' (T.trans U) S G
 |ret w m'=>exact λas2 H2 v U S R=>h as2 H2 v (T.trans U) S R
 |exc c w e m'=>exact h
 |no=>exact h
def ay.bind (h:ay K as H D (r.bindS env f))(k:∀w m' as' H' v,Step as H as' H'->aK K as' m' H'->ah K as' H' w v->ay K as' H' D (f w m')->Q1 v H'):ak K as H Q1 r:=by
 cases r with
 |ok w m'=>exact λas2 H2 v U S R=>k w m' as2 H2 v U S R (ay.step (r:=f w m') h U)
 |exc c w m'=>exact h
 |no=>exact h
def ay.bindI (h:ay K as H D (r.bindS env f))(k:∀w m',ay K as H D (f w m')->(yq m' w).isSome=true/\∀as' H' J,Step as H as' H'->aK K as' m' H'->nP K as' H' w J->R1 J H'):bR K as H R1 r:=by
 cases r with
 |ok w m'=>exact k w m' h
 |exc c w m'=>exact h
 |no=>exact h
theorem ay.next (h:ay K as H D (.next env m))(S:aK K as m H)(G:aF K as H env σ):D.nx σ H:=h as H σ .refl S G
end
section
variable{cl:Nat->List Wd->Me->Rz}{X:Cx}{e o i:Ex}{x y z:Expr}{pos:Pos}
def Ds:cC X [] (yG X.K (bD cl .skip)):=cC.imp Ef λD σ H h=>by
 obtain⟨as,env,m,S,G,P⟩:=h;exact ay.next (m:=m) P S G
set_option tactic.hygienic true in
def AM {st:Stmt}(ha:PS X st (yG X.K (bD cl a)))(hb:cC X sts (yG X.K (bD cl b))):cC X (st::sts) (yG X.K (bD cl (.seq a b))):=
 cC.imp (FU ha hb) λD σ H h=>by
  obtain⟨as,env,m,S,G,P⟩:=h;refine⟨as,env,m,S,G,?_⟩;have P':ay X.K as H D (match bD cl a env m with |.next e1 m1=>bD cl b e1 m1|r=>r):=P;cases hr:bD cl a env m with
  |next e1 m1=>
   rw[hr]at P';exact λas' H' σ' T S' G'=>⟨as',e1,m1,S',G',ay.step P' T⟩
  |brk e1 m1=>rw[hr]at P';exact P'
  |cont e1 m1=>rw[hr]at P';exact P'
  |ret w m1=>rw[hr]at P';exact P'
  |exc c w e1 m1=>rw[hr]at P';exact P'
  |no=>rw[hr]at P';exact P'
def jr {K:Qb}{i:Nat}(h:yG K (bD cl (.asg i e)) D σ H):ir (aM K (ag cl e)) (xm i) D σ H:=by
 obtain⟨as,env,m,S,G,P⟩:=h;refine⟨as,env,m,S,G,ay.bind P λw m1 as1 H1 v T1 S1 R1 P1=>?_⟩;exact ay.next (m:=m1) P1 S1 ((G.mono S T1).set R1 i)
def AL(he:PE X x (aM X.K (ag cl e))):PS X (.Return (some x) pos) (yG X.K (bD cl (.ret e))):=PS.imp (BF he) λD σ H h=>by
 obtain⟨as,env,m,S,G,P⟩:=h;refine⟨as,env,m,S,G,ay.bind P λw m1 as1 H1 v T1 S1 R1 P1=>?_⟩;exact P1 as1 H1 v .refl S1 R1
def Dr(he:PE X x (aM X.K (ag cl e)))(hc:jq x=false):PS X (.Expr x pos) (yG X.K (bD cl (.expr e))):=PS.imp (Ed he (pZ hc)) λD σ H h=>by
 obtain⟨as,env,m,S,G,P⟩:=h;refine⟨as,env,m,S,G,ay.bind P λw m1 as1 H1 v T1 S1 R1 P1=>?_⟩;exact ay.next (m:=m1) P1 S1 (G.mono S T1)
def Fe{st:Stmt}:PS X st (yG X.K (bD cl .never)):=PS.imp FT λD σ H h=>by
 obtain⟨as,env,m,S,G,P⟩:=h;exact P
def An (hc:PT X x (xz X.K (ag cl e)))(ha:cC X xs (yG X.K (bD cl a)))(hb:cC X ys (yG X.K (bD cl b))):PS X (.If x xs ys pos) (yG X.K (bD cl (.ite e a b))):=
 PS.imp (AU hc ha hb) λD σ H h=>by
  obtain⟨as,env,m,S,G,P⟩:=h;refine⟨as,env,m,S,G,ay.bind P λw m1 as1 H1 v T1 S1 R1 P1=>?_⟩;cases w with
  |bl k=>
   obtain rfl:=ai.mp R1;refine⟨k,rfl,?_⟩;cases k with
   |true=>exact fk ⟨as1,env,m1,S1,G.mono S T1,P1⟩
   |false=>exact fm ⟨as1,env,m1,S1,G.mono S T1,P1⟩
  |_=>exact P1.elim
def FL {K:Qb}{o i:Wd}(S:aK K as m H)(Ro:ah K as H o vo)(Ri:ah K as H i vi)(Rw:ah K as H w v)(h:ay K as H D ((vt o i w m).bindS env f))(k:∀m' H',Step as H as H'->aK K as m' H'->ay K as H' D (f .non m')->Q H'):oY K vo vi v H Q:=by
 unfold vt at h;cases o with
 |ref l=>
  obtain⟨a,ha,rfl⟩:=aG.mp Ro;dsimp only at h;cases e:m[l]? with
  |none=>rw[e]at h;exact h.elim
  |some ob=>
   cases ob with
   |lst ys=>rw[e]at h;exact h.elim
   |dct ks ws=>
    rw[e]at h;dsimp only at h;obtain⟨a',xs,vs,ha',td,ek,r,rv,nd⟩:=vU S e;rw[ha]at ha';cases ha';cases eq:kS i with
    |none=>rw[eq]at h;exact h.elim
    |some q=>
     rw[eq]at h;dsimp only at h;obtain⟨b,rfl,qb⟩:=vF eq Ri;by_cases hl:ks.length<aq
     .rw[Mk hl]at h;refine⟨a,b,q,xs,rfl,rfl,qb,td,?_,λu ru=>?_⟩
      .rw[<-ek,Qo]at hl;exact Vn hl
      .obtain ⟨T,S'⟩:=S.setD ha e td ek r rv nd qb Rw ru;exact k _ _ T S' (ay.step (r:=f .non _) h T)
     .rw[Ml hl]at h;exact h.elim
 |_=>exact h.elim
def F4 {o i:Expr}(hs:yU i=true):∀v,assign (.Subscript o i p) env v=(do
   let ov <-holding [v] (eval o env)
   let iv <-holding [v,ov] (eval i env)
   standAt p
   holding [v,ov,iv] (J9 ov iv v)
   release [v,ov,iv] []):=λv=>by
 cases i<;>first|rfl|cases hs
def Dq (hu:X.A.units+64<Ku)(ho:PE X x (aM X.K (ag cl (.var j))))(hi:PE X y (aM X.K (ag cl i)))(he:PE X z (aM X.K (ag cl e)))(hs:yU y=true):PS X (.Assign [.Subscript x y p1] z pos) (yG X.K (bD cl (.dput j i e))):=
 PS.imp (BC he (BD ho hi (Ag hu) (F4 hs)) (Dt (by intros;intro q;cases q)) AN) λD σ H h=>by
  obtain⟨as,env,m,S,G,P⟩:=h;refine⟨as,env,m,S,G,ay.bind P λw m1 as1 H1 v T1 S1 R1 P1=>?_⟩;refine⟨as1,env,m1,S1,G.mono S T1,ay.bind P1 λwo m2 as2 H2 vo T2 S2 R2 P2=>?_⟩;refine⟨as2,env,m2,S2,(G.mono S T1).mono S1 T2,ay.bind P2 λwi m3 as3 H3 vi T3 S3 R3 P3=>?_⟩;refine FL S3 (R2.mono S2 T3) R3 ((R1.mono S1 T2).mono S2 T3) P3 λm4 H4 T4 S4 P4=>?_;exact ay.next (m:=m4) P4 S4 ((((G.mono S T1).mono S1 T2).mono S2 T3).mono S3 T4)
end
section
variable{cl:Nat->List Wd->Me->Rz}{X:Cx}{e i j:Ex}{x y z u v:Expr}{pos:Pos}
def fP:Bo->Bool
 |.add=>true
 |.sub=>true
 |.mulB=>true
 |_=>false
noncomputable def oo:Bo->Int->Int->Int
 |.sub=>λi j=>i-j
 |.mulB=>λi j=>i*j
 |_=>λi j=>i+j
def om:Bo->Int->Int->Prop
 |.mulB=>cD
 |_=>λ_ _=>True
def ol(op:Bo):ig:=λx y H Q=>∃i j,x=.int i/\y=.int j/\om op i j/\Q (.int (oo op i j)) H
def Am (h:fP op=true):iQ X (fD op) (ol op):=by
 intro pins s σ H x y v u Q I r1 r2 q;obtain⟨i,j,e1,e2,c,q⟩:=q;cases op with
 |add=>exact BA pins s σ H x y v u Q I r1 r2 ⟨i,j,e1,e2,q⟩
 |sub=>exact Bz pins s σ H x y v u Q I r1 r2 ⟨i,j,e1,e2,q⟩
 |mulB=>exact EI pins s σ H x y v u Q I r1 r2 ⟨i,j,e1,e2,c,q⟩
 |_=>cases h
def Dp (h:fP op=true){i j:Int}:(om op i j/\cQ op (.int i) (.int j) m=.ok (.int (oo op i j)) m)\/cQ op (.int i) (.int j) m=.no:=by
 cases op with
 |add=>exact .inl ⟨trivial,rfl⟩
 |sub=>exact .inl ⟨trivial,rfl⟩
 |mulB=>
  show(cD i j/\(if i.natAbs.log2<100000/\j.natAbs.log2<100000 then Rz.ok (.int (i*j)) m else .no)=_)\/(if i.natAbs.log2<100000/\j.natAbs.log2<100000 then Rz.ok (.int (i*j)) m else .no)=_;by_cases c:i.natAbs.log2<100000/\j.natAbs.log2<100000
  .rw[Mk c];exact .inl ⟨c,rfl⟩
  .rw[Ml c];exact .inr rfl
 |_=>cases h
def Do {K:Qb}(hop:fP op=true)(Rx:ah K as H wx vx)(Ry:ah K as H wy vy)(h:ay K as H D (fK op wx wy m env f))(k:∀z,ay K as H D (f (.int z) m)->Q (.int z) H):ol op vx vy H Q:=by
 cases wx with
 |int i=>
  cases wy with
  |int j=>
   have h':ay K as H D ((cQ op (.int i) (.int j) m).bindS env f):=h;rcases Dp hop (i:=i) (j:=j) (m:=m)with⟨c,e⟩|e
   .rw[e]at h';exact⟨i,j,ab.mp Rx,ab.mp Ry,c,k _ h'⟩
   .rw[e]at h';exact h'.elim
  |_=>exact h.elim
 |_=>exact h.elim
set_option tactic.hygienic true in
def AK (hop:fP op=true)(hN:X.N.Nodup)(hi:X.N[n]?=some nm)(hx:Loc X.env.scope nm)(hf:X.fn nm=true\/X.env.scope.names.lookup nm=some .local)(he:PE X x (aM X.K (ag cl e))):
  PS X (.AugAssign (.Name nm p1) (fD op) x pos) (yG X.K (bD cl (.aug n op e))):=PS.imp (BB hN hi hx he (Am hop) hf) λD σ H h=>by
 obtain⟨as,env,m,S,G,P⟩:=h;have P':ay X.K as H D (match env[n]? with
  |some (some x)=>(ag cl e env m).bindS env λy m1=>fK op x y m1 env λz m2=>.next (env.set n (some z)) m2
  |_=>.no):=P
 split at P'
 .rename_i wx hw;obtain⟨vx,hv,Rx⟩:=G.get n wx hw;refine⟨vx,hv,as,env,m,S,G,ay.bind P' λwy m1 as1 H1 vy T1 S1 R1 P1=>?_⟩;refine Do hop (Rx.mono S T1) R1 P1 λz P2=>?_;exact ay.next (m:=m1) P2 S1 ((G.mono S T1).set (ab.mpr rfl) n)
 .exact P'.elim
end
section
variable{cl:Nat->List Wd->Me->Rz}{K:Qb}
structure cY(K:Qb)(g:TG)(st:Wd->En->Option En):Prop where
 ok:∀{as:List Addr}{H:Hp}{m:Me}{env env':En}{σ:St}{w:Wd}{v:V}{Q:L2.St->Hp->Prop},aK K as m H->aF K as H env σ->ah K as H w v->st w env=some env'->(∀σ',aF K as H env' σ'->Q σ' H)->g v σ H Q
def sJ(i:Nat):cY K (xm i) (λw env=>some (env.set i (some w))):=
 ⟨λS G R e k=>by cases e;exact k _ (G.set R i)⟩
set_option tactic.hygienic true in
def js(i j:Nat):cY K (fM K 2 (vn (xm i) (vn (xm j) fN))) (cw i j):=by
 refine⟨λ{as H m env env' σ w v Q} S G R e k=>?_⟩;unfold cw at e;split at e
 .rename_i a b;cases e;obtain⟨p,vs,rfl,hq,rr⟩:=af.mp R;obtain⟨va,vb,rfl,ra,rb⟩:=pY rr;exact⟨p,[va,vb],rfl,hq,rfl,va,[vb],rfl,vb,[],rfl,rfl,k _ ((G.set ra i).set rb j)⟩
 .cases e
set_option tactic.hygienic true in
def vG{g:TG}{st:Wd->En->Option En}{b:En->Me->Rs}(hg:cY K g st){D:cc}{as1 as':List Addr}{H1 H':Hp}{m':Me}{env':En}{σ':St}{x:Wd}{v:V}{next:En->Me->Rs}{N:L2.St->Hp->Prop}(T:Step as1 H1 as' H')(S':aK K as' m' H')(G':aF K as' H' env' σ')(Rx:ah K as' H' x v)
  (Pt:ay K as1 H1 D (match zJ st b x env' m' with
    |.next e1 m1=>next e1 m1
    |.cont e1 m1=>next e1 m1
    |.brk e1 m1=>.next e1 m1
    |r=>r))
  (hN:∀as2 m2 e2 σ2 H2,Step as' H' as2 H2->aK K as2 m2 H2->aF K as2 H2 e2 σ2->ay K as1 H1 D (next e2 m2)->N σ2 H2) :
  g v σ' H' λσ2 H2=>yG K b {D with nx:=N,ct:=N,bk:=D.nx} σ2 H2:=by
 unfold zJ at Pt;cases hs:st x env' with
 |none=>rw[hs]at Pt;exact Pt.elim
 |some e2=>
  rw[hs]at Pt;simp only[]at Pt;refine hg.ok S' G' Rx hs λσ2 G2=>⟨as',e2,m',S',G2,?_⟩;cases hr:b e2 m' with
  |next e3 m3=>rw[hr]at Pt;exact λas3 H3 σ3 U S3 G3=>hN as3 m3 e3 σ3 H3 U S3 G3 Pt
  |cont e3 m3=>rw[hr]at Pt;exact λas3 H3 σ3 U S3 G3=>hN as3 m3 e3 σ3 H3 U S3 G3 Pt
  |brk e3 m3=>rw[hr]at Pt;exact λas3 H3 σ3 U S3 G3=>Pt as3 H3 σ3 (T.trans U) S3 G3
  |ret w' m3=>rw[hr]at Pt;exact λas3 H3 v3 U S3 R3=>Pt as3 H3 v3 (T.trans U) S3 R3
  |exc c w' e3 m3=>rw[hr]at Pt;exact Pt.elim
  |no=>rw[hr]at Pt;exact Pt.elim
def sI {st:Wd->En->Option En}(hg:cY K g st)(h:yG K (λenv m=>(it env m).bindS env λw m1=>fw (zJ st b) w env m1) D σ H):fL (eZ K it) g (yG K b) D σ H:=by
 obtain⟨as,env,m,S,G,P⟩:=h;refine⟨as,env,m,S,G,ay.bindI P λw m1 P1=>?_⟩;have seqs:∀(xs:List Wd),ay K as H D (wT (zJ st b) xs env m1)->∀as1 H1 J,Step as H as1 H1->aK K as1 m1 H1->iy K as1 H1 J xs ->
   ∃W:Nat->Nat->L2.St->Hp->Prop,(∃m,W 0 m σ H1)/\∀i m σ H,W i m σ H ->
    (J.stop i H/\D.nx σ H)\/(J.go i H/\∃N:L2.St->Hp->Prop,(∀σ' H',N σ' H'->∃m',m'<m/\W (i+1) m' σ' H')/\∀x H',J.yld i H x H'->g x σ H' λσ2 H2=>yG K b {D with nx:=N,ct:=N,bk:=D.nx} σ2 H2):=by
  intro xs Pc as1 H1 J T1 S1 hI;obtain⟨vs,ok,hJ,ok1,RL,stab⟩:=hI;have hlen:=RL.length;have Pc1:=ay.step Pc T1;refine⟨λi n σ' H'=>∃as' m' env',i<=xs.length/\n=xs.length-i/\Step as1 H1 as' H'/\aK K as' m' H'/\aF K as' H' env' σ'/\ok H'/\aa K as' H' xs vs/\ay K as1 H1 D (wT (zJ st b) (xs.drop i) env' m'),
   ⟨xs.length,as1,m1,env,WK _,rfl,.refl,S1,G.mono S T1,ok1,RL,Pc1⟩,?_⟩
  rintro i n σ' H' ⟨as',m',env',hi,rfl,T',S',G',okH,RL',Pi⟩;by_cases hlt:i<xs.length
  .refine .inr ⟨hJ.go i H' okH (by rw[<-hlen];exact hlt),λσ2 H2=>∃as2 m2 env2,i+1<=xs.length/\Step as1 H1 as2 H2/\aK K as2 m2 H2/\aF K as2 H2 env2 σ2/\ok H2/\aa K as2 H2 xs vs/\ay K as1 H1 D (wT (zJ st b) (xs.drop (i+1)) env2 m2),?_,λv H'' hy=>?_⟩
   .rintro σ2 H2 ⟨as2,m2,env2,q⟩;exact⟨xs.length-(i+1),by lia,as2,m2,env2,q.1,rfl,q.2⟩
   .obtain ⟨rfl,hv⟩:=hJ.yld i H' v H'' okH (by rw[<-hlen];exact hlt) hy;obtain⟨v',hv',Rx⟩:=RL'.get (i:=i) (x:=xs[i]) (by simp[hlt]);rw[hv]at hv';cases hv';rw[QP hlt]at Pi;refine vG hg (next:=λe m=>wT (zJ st b) (xs.drop (i+1)) e m) T' S' G' Rx Pi ?_;intro as2 m2 e2 σ2 H2 U S2 G2 P2;exact⟨as2,m2,e2,hlt,T'.trans U,S2,G2,stab _ _ (S'.kp U) okH,RL'.mono S' U,P2⟩
  .have e:i=xs.length:=by lia
   subst e;rw[W0]at Pi;exact .inl ⟨hJ.stop _ H' okH (by lia),Pi as' H' σ' T' S' G'⟩
 cases w with
 |tup xs=>exact⟨rfl,λas1 H1 J T1 S1 hI=>seqs xs P1 as1 H1 J T1 S1 hI⟩
 |rol xs=>exact⟨rfl,λas1 H1 J T1 S1 hI=>seqs xs P1 as1 H1 J T1 S1 hI⟩
 |ref l=>
  have P2:ay K as H D (x5 (zJ st b) l (aq+1) 0 env m1):=P1;refine⟨?_,λas1 H1 J T1 S1 hI=>?_⟩
  .show (zj m1 l).isSome=true;cases e:zj m1 l with
   |some xs=>rfl
   |none=>
    unfold x5 at P2;rw[e]at P2;exact P2.elim
  .obtain ⟨a,ha,rfl⟩:=hI;have Pc1:=ay.step P2 T1;refine⟨λi n σ' H'=>∃as' m' env',as'[l]?=some a/\Step as1 H1 as' H'/\aK K as' m' H'/\aF K as' H' env' σ'/\ay K as1 H1 D (x5 (zJ st b) l n i env' m'),⟨aq+1,as1,m1,env,ha,.refl,S1,G.mono S T1,Pc1⟩,?_⟩;rintro i n σ' H' ⟨as',m',env',hl,T',S',G',Pi⟩;cases n with
   |zero=>exact Pi.elim
   |succ n=>
    unfold x5 at Pi;cases e:zj m' l with
    |none=>rw[e]at Pi;exact Pi.elim
    |some xs=>
     rw[e]at Pi;simp only[]at Pi;obtain⟨a',vs,ha',eH,RL⟩:=ya S' (zR e);rw[hl]at ha';cases ha';cases ex:xs[i]? with
     |none=>
      rw[ex]at Pi;have hle:vs.length<=i:=by rw[<-RL.length];exact Wf.mp ex
      exact .inl ⟨⟨vs,bE.of eH,hle⟩,Pi as' H' σ' T' S' G'⟩
     |some x=>
      rw[ex]at Pi;obtain⟨v0,hv0,Rx⟩:=RL.get ex;refine .inr ⟨⟨vs,v0,bE.of eH,hv0⟩,λσ2 H2=>∃as2 m2 env2,as2[l]?=some a/\Step as1 H1 as2 H2/\aK K as2 m2 H2/\aF K as2 H2 env2 σ2/\ay K as1 H1 D (x5 (zJ st b) l n (i+1) env2 m2),?_,λv H'' hy=>?_⟩
      .rintro σ2 H2 q;exact⟨n,WB _,q⟩
      .obtain ⟨rfl,hy⟩:=hy;have:=hy vs (bE.of eH);rw[hv0]at this;cases this;refine vG hg (next:=λe m=>x5 (zJ st b) l n (i+1) e m) T' S' G' Rx Pi ?_;intro as2 m2 e2 σ2 H2 U S2 G2 P2;exact⟨as2,m2,e2,U.get hl,T'.trans U,S2,G2,P2⟩
 |non=>exact P1.elim
 |bl k=>exact P1.elim
 |int i=>exact P1.elim
 |str s=>exact P1.elim
def ga (hg:cY K g (cw i j))(hJ:g0 K as1 H1 J gz)(S1:aK K as1 m1 H1)(G1:aF K as1 H1 env σ)(P:ay K as1 H1 D (yz (zJ (cw i j) b) gz (aq+1) 0 env m1)):
  ∃W:Nat->Nat->L2.St->Hp->Prop,(∃m,W 0 m σ H1)/\∀i m σ H,W i m σ H ->
   (J.stop i H/\D.nx σ H)\/(J.go i H/\∃N:L2.St->Hp->Prop,(∀σ' H',N σ' H'->∃m',m'<m/\W (i+1) m' σ' H')/\∀x H',J.yld i H x H'->g x σ H' λσ2 H2=>yG K b {D with nx:=N,ct:=N,bk:=D.nx} σ2 H2):=by
 refine⟨λi0 n σ' H'=>∃as' m' env',(∀(l:Nat) (a:Addr),as1[l]?=some a->as'[l]?=some a)/\Step as1 H1 as' H'/\aK K as' m' H'/\aF K as' H' env' σ'/\ay K as1 H1 D (yz (zJ (cw i j) b) gz n i0 env' m'),⟨aq+1,as1,m1,env,λ_ _ e=>e,.refl,S1,G1,P⟩,?_⟩;rintro i0 n σ' H' ⟨as',m',env',hl,T',S',G',Pi⟩;cases n with
 |zero=>exact Pi.elim
 |succ n=>
  unfold yz at Pi;obtain⟨q1,q2⟩:=hJ as' m' H' hl T' S' i0;cases e:gz i0 m' with
  |none=>rw[e]at Pi;exact Pi.elim
  |some o=>
   rw[e]at Pi;cases o with
   |none=>exact .inl ⟨q1 e,Pi as' H' σ' T' S' G'⟩
   |some p=>
    obtain⟨x,y⟩:=p;simp only[]at Pi;obtain⟨go,yl⟩:=q2 x y e;refine .inr ⟨go,λσ2 H2=>∃as2 m2 env2,(∀(l:Nat) (a:Addr),as1[l]?=some a->as2[l]?=some a)/\Step as1 H1 as2 H2/\aK K as2 m2 H2/\aF K as2 H2 env2 σ2/\ay K as1 H1 D (yz (zJ (cw i j) b) gz n (i0+1) env2 m2),?_,λv H'' hy=>?_⟩
    .rintro σ2 H2 q;exact⟨n,WB _,q⟩
    .obtain ⟨x',y',⟨T,hT,rfl,rfl⟩,Rx,Ry⟩:=yl v H'' hy;have U:Step as' H' as' (aI H' T (.tup [x',y'])):=Step.updD .refl hT;have S2:aK K as' m' (aI H' T (.tup [x',y'])):=S'.keep U λb _ o e=>by rw[zd (zo e hT)];exact e
     have Rp:ah K as' (aI H' T (.tup [x',y'])) (.tup [x,y]) (.ref T):=af.mpr ⟨T,[x',y'],rfl,bI.of ze,(aa.one (Rx.mono S' U)).append (.one (Ry.mono S' U))⟩;refine vG hg (next:=λe m=>yz (zJ (cw i j) b) gz n (i0+1) e m) (T'.trans U) S2 (G'.mono S' U) Rp Pi ?_;intro as2 m2 e2 σ2 H2 U2 S3 G3 P2;exact⟨as2,m2,e2,λl a q=>U2.get (hl l a q),(T'.trans U).trans U2,S3,G3,P2⟩
def ve (h:g i m=none):yz b g (k+1) i env m=.no:=by
 unfold yz;rw[h]
def FK (h:yG K (bD cl (.forZ i j a b body)) D σ H):
  fL (lq K (qA (aM K (ag cl a)) (qA (aM K (ag cl b)) iZ))) (fM K 2 (vn (xm i) (vn (xm j) fN))) (yG K (bD cl body)) D σ H:=by
 obtain⟨as,env,m,S,G,P⟩:=h;refine⟨as,env,m,S,G,ay.bind P λw m1 as1 H1 v T1 S1 R1 P1=>?_⟩;refine⟨as1,env,m1,S1,G.mono S T1,ay.bind P1 λw2 m2 as2 H2 v2 T2 S2 R2 P2=>?_⟩;have G2:=(G.mono S T1).mono S1 T2;have look:∃xs ys,w5 m2 w=some xs/\w5 m2 w2=some ys:=by
  cases e:zB .zip w w2 0 m2 with
  |none=>rw[ve e]at P2;exact P2.elim
  |some o=>exact jm e
 obtain⟨xs,ys,e1,e2⟩:=look;obtain⟨b1,l1,us,rfl,s1,q1⟩:=cJ.of S2 (R1.mono S1 T2) e1;obtain⟨b2,l2,vs,rfl,s2,q2⟩:=cJ.of S2 R2 e2;exact⟨b1,b2,l1,l2,us,vs,rfl,q1,q2,ga (js i j) (jl S2 s1 s2) S2 G2 P2⟩
end
section
variable{K:Qb}{cl:Nat->List Wd->Me->Rz}
def sH (e:m[l]?=some (.dct ks ws)):xa m l=ks.length:=by
 unfold xa;rw[e]
def rF {xs:List TK}{i:Nat}(h:xs[i]?=some k):(xs.map (·.1))[i]?=some k.1:=by rw[Qs,h];rfl
def FJ (hK:X.K=K)(h:yG K (bD cl (.forD i x body)) D σ H):
  fL (ud X (aM K (ag cl (.var x)))) (xm i) (yG K (bD cl body)) D σ H:=by
 subst hK;obtain⟨as,env,m,S,G,P⟩:=h;refine⟨as,env,m,S,G,ay.bind P λw m1 as1 H1 v T1 S1 R1 P1=>?_⟩;cases w with
 |ref l=>
  have P2:ay X.K as1 H1 D (xq (zJ (λw env=>some (env.set i (some w))) (bD cl body)) l (xa m1 l) (aq+1) 0 env m1):=P1;cases e:m1[l]? with
  |none=>unfold xq at P2;rw[e]at P2;exact P2.elim
  |some o=>
   cases o with
   |lst ys=>unfold xq at P2;rw[e]at P2;exact P2.elim
   |dct ks ws=>
    obtain⟨a,xs,vs,rfl,ha,td,ek,_,_⟩:=xY S1 e R1;have hn:xa m1 l=xs.length:=by rw[sH e,<-ek,Qo]
    rw[hn]at P2;refine⟨a,xs,rfl,td,λi0 n σ' H'=>∃as' m' env',as'[l]?=some a/\Step as1 H1 as' H'/\aK X.K as' m' H'/\aF X.K as' H' env' σ'/\ay X.K as1 H1 D (xq (zJ (λw env=>some (env.set i (some w))) (bD cl body)) l xs.length n i0 env' m'),⟨aq+1,as1,m1,env,ha,.refl,S1,G.mono S T1,P2⟩,?_⟩;rintro i0 n σ' H' ⟨as',m',env',hl,T',S',G',Pi⟩;cases n with
    |zero=>exact Pi.elim
    |succ n=>
     unfold xq at Pi;cases e':m'[l]? with
     |none=>rw[e']at Pi;exact Pi.elim
     |some o=>
      cases o with
      |lst ys=>rw[e']at Pi;exact Pi.elim
      |dct ks' ws'=>
       rw[e']at Pi;dsimp only at Pi;obtain⟨a',xs',vs',ha',td',ek',r',rv',_⟩:=vU S' e';rw[hl]at ha';cases ha';have lk:ks'.length=xs'.length:=by rw[<-ek',Qo]
       by_cases hc:ks'.length=xs.length
       .rw[Mk hc]at Pi;cases ex:ks'[i0]? with
        |none=>
         rw[ex]at Pi;have:=Wf.mp ex;exact .inl ⟨⟨xs',td',by lia,by lia⟩,Pi as' H' σ' T' S' G'⟩
        |some q=>
         rw[ex]at Pi;have hi:i0<ks'.length:=(Qa.mp ex).1;refine .inr ⟨⟨xs',td',by lia,by lia⟩,λσ2 H2=>∃as2 m2 env2,as2[l]?=some a/\Step as1 H1 as2 H2/\aK X.K as2 m2 H2/\aF X.K as2 H2 env2 σ2/\ay X.K as1 H1 D (xq (zJ (λw env=>some (env.set i (some w))) (bD cl body)) l xs.length n (i0+1) env2 m2),?_,λv H'' hy=>?_⟩
         .rintro σ2 H2 q;exact⟨n,WB _,q⟩
         .obtain ⟨rfl,hy⟩:=hy;obtain⟨k,hk,rfl⟩:=hy xs' td';have eq:k.1=q:=by
           have:=rF hk;rw[ek',ex]at this;exact(Option.some.inj this).symm
          have Rk:ah X.K as' H'' (.tup (q.map Wd.int)) (.ref k.2.1):=af.mpr ⟨k.2.1,q.map V.int,rfl,eq▸td'.2 k (Qp hk),wD q⟩;refine vG (sJ i) (next:=λe m=>xq (zJ (λw env=>some (env.set i (some w))) (bD cl body)) l xs.length n (i0+1) e m) T' S' G' Rk Pi ?_;intro as2 m2 e2 σ2 H2 U S2 G2 P2;exact⟨as2,m2,e2,U.get hl,T'.trans U,S2,G2,P2⟩
       .rw[Ml hc]at Pi;exact Pi.elim
 |_=>exact P1.elim
def g9 (ha:as[l]?=some a):g0 K as H (nz K a n) (xr l n):=by
 intro as' m' H' hl T S i;unfold xr;cases e:m'[l]? with
 |none=>exact⟨λz=>by simp at z,λx y z=>by simp at z⟩
 |some o=>
  cases o with
  |lst ys=>exact⟨λz=>by simp at z,λx y z=>by simp at z⟩
  |dct ks ws=>
   obtain⟨a',xs,vs,ha',td,ek,r,rv,_⟩:=vU S e;rw[hl _ _ ha]at ha';cases ha';have lk:ks.length=xs.length:=by rw[<-ek,Qo]
   have lw:ws.length=xs.length:=by have h1:=r.length;have h2:=rv.length;simp at h2;lia
   dsimp only;by_cases hc:ks.length=n
   .rw[Mk hc];have rel:∀x∈xs,∃v,RelV v x.2.2:=λx hx=>by
     obtain⟨j,hj,rfl⟩:=W2.mp hx;obtain⟨v,_,hv⟩:=rv.at (i:=j) (u:=xs[j].2.2) (by rw[Qs,Qw hj];rfl);exact⟨v,hv⟩
    by_cases hi:i<n
    .have h1:ks[i]?=some (ks[i]'(by lia)):=Qw (by lia);have h2:ws[i]?=some (ws[i]'(by lia)):=Qw (by lia);rw[h1,h2];refine⟨λz=>by simp at z,λx2 y2 z=>?_⟩;simp only[Option.some.injEq,Prod.mk.injEq]at z;obtain⟨rfl,rfl⟩:=z;refine⟨⟨xs,td,by lia,hi,rel⟩,λv H'' hy=>?_⟩;obtain⟨a2,v2,yp,hy⟩:=hy;obtain⟨k,hk,rfl,rvk⟩:=hy xs td;have eq:k.1=ks[i]'(by lia):=by
      have:=rF hk;rw[ek,h1]at this;exact(Option.some.inj this).symm
     obtain⟨v0,hv0,Rv⟩:=r.get h2;obtain⟨u,hu,ru⟩:=rv.get hv0;rw[Qs,hk]at hu;cases hu;have:v0=v2:=ru.inj rvk;subst this;refine⟨_,_,yp,af.mpr ⟨k.2.1,(ks[i]'(by lia)).map V.int,rfl,?_,wD _⟩,Rv⟩;rw[<-eq];exact td.2 k (Qp hk)
    .have h1:ks[i]?=none:=QE (by lia);rw[h1];exact⟨λ_=>⟨xs,td,by lia,by lia⟩,λx y z=>by simp at z⟩
   .rw[Ml hc];exact⟨λz=>by simp at z,λx y z=>by simp at z⟩
def FI (hK:X.K=K)(h:yG K (bD cl (.forI i j x body)) D σ H):
  fL (uc X (oq X.K (pQ X.K) (aM K (ag cl (.var x))))) (fM K 2 (vn (xm i) (vn (xm j) fN))) (yG K (bD cl body)) D σ H:=by
 subst hK;obtain⟨as,env,m,S,G,P⟩:=h;refine⟨as,env,m,S,G,ay.bind P λw m1 as1 H1 v T1 S1 R1 P1=>?_⟩;cases w with
 |ref l=>
  have P2:ay X.K as1 H1 D (yz (zJ (cw i j) (bD cl body)) (xr l (xa m1 l)) (aq+1) 0 env m1):=P1;have look:∃ks ws,m1[l]?=some (.dct ks ws):=by
   cases e:m1[l]? with
   |none=>rw[ve (by unfold xr;rw[e])]at P2;exact P2.elim
   |some o=>
    cases o with
    |lst ys=>rw[ve (by unfold xr;rw[e])]at P2;exact P2.elim
    |dct ks ws=>exact⟨ks,ws,rfl⟩
  obtain⟨ks,ws,e⟩:=look;obtain⟨a,xs,vs,rfl,ha,td,ek,_,_⟩:=xY S1 e R1;have hn:xa m1 l=xs.length:=by rw[sH e,<-ek,Qo]
  rw[hn]at P2;refine⟨⟨a,xs,rfl,td⟩,a,xs,rfl,rfl,td,λq hq=>?_⟩;have U:Step as1 H1 as1 (aI H1 q (fR q a)):=Step.updD .refl hq;have S2:aK X.K as1 m1 (aI H1 q (fR q a)):=S1.keep U λb _ o e=>by rw[zd (zo e hq)];exact e
  obtain⟨a2,xs2,vs2,e2,ha2,td2,ek2,_,_⟩:=xY S2 e (R1.mono S1 U);cases e2;have l2:xs2.length=xs.length:=by
   have:=Mn List.length (ek2.trans ek.symm);simpa using this
  refine⟨a,q,xs2,rfl,ze,td2,?_⟩;rw[l2];exact ga (js i j) (g9 ha2) S2 ((G.mono S T1).mono S1 U) (ay.step P2 U)
 |_=>exact P1.elim
end
set_option genInjectivity false in
inductive Ns where
 |s (st:Stmt)|b (sts:List Stmt)
noncomputable def vH(sc:JK)(x:Str):Bool:=decide (sc.names.lookup x=some .local) || decide (sc.names.lookup x=some .cell)
def oi(cl:Nat->List Wd->Me->Rz)(X:Cx)(s:Sm):Ns->Prop
 |.s st=>PS X st (yG X.K (bD cl s))
 |.b sts=>cC X sts (yG X.K (bD cl s))
structure ee(X:Cx):Prop where
 nd:X.N.Nodup
 fn:∀x,X.fn x=true
 hp:PassesOwn (JZ X.prog X.w) X.A X.env X.xe
section
variable{cl:Nat->List Wd->Me->Rz}
def xu (h:vH sc x=true):Loc sc x:=by
 unfold vH at h;simp only[WS,Mq]at h;exact h
def Dn (hc:X.calm=true)(hX:ee X)(hi:X.N[i]?=some nm)(hl:Loc X.env.scope nm)(B:bL X scope xs)(hT:ie X scope xs tg g un)(hI:PI X tg w wi)(body:∀Xc,bH X scope xs Xc->fH Xc fs tc/\PE Xc x te)(hset:∀v,Km w X.env v=pure v)(hbind:∀σ H Q,aM X.K (ag cl ce) σ H Q->jV un wi tc te σ H Q)(he:PE X (.ListComp x [⟨tg,w,fs,0⟩] scope pos') (aM X.K (ag cl ce))):
  PS X (.Assign [.Name nm p1] (.ListComp x [⟨tg,w,fs,0⟩] scope pos') pos) (yG X.K (bD cl (.asg i ce))):=by
 have hsw:∃b:Bool,J7 (.ListComp x [⟨tg,w,fs,0⟩] scope pos') (some (.Name nm p1)) pos.line X.env=pure b:=⟨_,rfl⟩;obtain⟨b,hb⟩:=hsw;cases b with
 |false=>exact PS.imp (pP hX.nd hi hl he hb (.inl (hX.fn nm))) λD σ H q=>jr q
 |true=>
  refine PS.imp (Go B hc hT hI body hX.nd hi hl (.inl (hX.fn nm)) hb hset) λD σ H q=>?_;exact hbind _ _ _ (jr q)
structure bJ(C:Ctx)(sc:JK)(N:List Str)(s:Sm)(n:Ns):Prop where
 h:∀(cl:Nat → List Wd → Me → Rz) (d:Nat) (X:Cx),bS C X cl d → ee X → X.env.scope=sc → X.N=N → oi cl X s n
def AJ (hC:bS C X cl d)(hX:ee X)(h:bJ C X.env.scope X.N s n):oi cl X s n:=h.h cl d X hC hX rfl rfl
def bJ.«skip0»{C:Ctx}{sc:JK}{N:List Str}:bJ C sc N .skip (.b []):=by
 constructor;intro cl d X hC hX es eN;subst es;subst eN;exact Ds
def bJ.«one»{C:Ctx}{sc:JK}{N:List Str}{s:Sm}{st:Stmt}(h:bJ C sc N s (.s st)):bJ C sc N s (.b [st]):=by
 constructor;intro cl d X hC hX es eN;subst es;subst eN;have ih:=h.h cl d X hC hX rfl rfl;exact Ee ih
def bJ.«seq»{C:Ctx}{sc:JK}{N:List Str}{a b:Sm}{st st':Stmt}{r:List Stmt}(ha:bJ C sc N a (.s st))(hb:bJ C sc N b (.b (st'::r))):bJ C sc N (.seq a b) (.b (st::st'::r)):=by
 constructor;intro cl d X hC hX es eN;subst es;subst eN;have iha:=ha.h cl d X hC hX rfl rfl;have ihb:=hb.h cl d X hC hX rfl rfl;exact AM iha ihb
def bJ.«asg»{C:Ctx}{sc:JK}{N:List Str}{i:Nat}{e:Ex}{x:Str}{v:Expr}{p p':Pos}(hc:jq v=false)(h1:N[i]?=some x)(h2:vH sc x=true)(hr:zi e=false)(he:aH C sc N e (.e v)):bJ C sc N (.asg i e) (.s (.Assign [.Name x p] v p')):=by
 constructor;intro cl d X hC hX es eN;subst es;subst eN;exact PS.imp (pP hX.nd h1 (xu h2) ((yA he X hC rfl rfl).pe hr) (pZ hc) (.inl (hX.fn _))) λD σ H q=>jr q
def bJ.«asgCZ0»{C:Ctx}{sc:JK}{N:List Str}{i:Nat}{elt a b:Ex}{x y y':Str}{z w w':Expr}{scope:JK}{p p' q q' q2 q3 q4 pt:Pos}{kt:Nat}(h1:N[i]?=some x)(h2:vH sc x=true)(hg:dq sc "zip"=true)(hB:cg sc N scope [y,y']=true)(hs:zn w=true)(hs':zn w'=true)(ra:zi a=false)(ha:aH C sc N a (.e w))(rb:zi b=false)(hb:aH C sc N b (.e w'))(re:zi elt=false)(he:aH C (xM scope sc) (yR N [y,y']) elt (.e z)):
   bJ C sc N (.asg i (.compP .zip elt a b (.lit (.bl true)))) (.s (.Assign [.Name x p] (.ListComp z [⟨.Tuple [.Name y q,.Name y' q2] kt pt,.Call (.Name "zip" q3) [w,w'] [] q4,[],0⟩] scope q') p')):=by
 constructor;intro cl d X hC hX es eN;subst es;subst eN;refine Dn (fs:=[]) (tc:=_) hC.calm hX h1 (xu h2) (xl hB) (gI hC.calm (xl hB)) (gZ (xN hg) (hC.blt _ (by simp[zp])) (zT ((yA ha X hC rfl rfl).pe ra) (zT ((yA hb X hC rfl rfl).pe rb) xE (zf hs')) (zf hs)) (by rw[zf hs,zf hs'];rfl) (zf hs')) (te:=aM X.K (ag cl elt)) (λXc c=>⟨kD,?_⟩) (λ_=>rfl) (λσ H Q q=>jn (λσ H Q q=>?_) q) ((yA (aH.compZ0 hg hB hs hs' ra ha rb hb re he) X hC rfl rfl).pe rfl)
 .have q:=(yA he Xc (hC.comp c) c.sc c.N).pe re;rw[c.K]at q;exact q
 .obtain ⟨as,env,m,S,G,P⟩:=q;obtain⟨b,e,q⟩:=ak.ok (m:=m) P S (ai.mpr rfl);cases e;exact q
def bJ.«dput»{C:Ctx}{sc:JK}{N:List Str}{j:Nat}{i e:Ex}{x y z:Expr}{p p':Pos}(hs:yU y=true)(ho:aH C sc N (.var j) (.e x))(ri:zi i=false)(hi:aH C sc N i (.e y))(re:zi e=false)(he:aH C sc N e (.e z)):bJ C sc N (.dput j i e) (.s (.Assign [.Subscript x y p] z p')):=by
 constructor;intro cl d X hC hX es eN;subst es;subst eN;exact Dq hC.room.units ((yA ho X hC rfl rfl).pe rfl) ((yA hi X hC rfl rfl).pe ri) ((yA he X hC rfl rfl).pe re) hs
def bJ.«aug»{C:Ctx}{sc:JK}{N:List Str}{i:Nat}{op:Bo}{e:Ex}{x:Str}{v:Expr}{p p':Pos}(h1:N[i]?=some x)(h2:vH sc x=true)(h3:fP op=true)(hr:zi e=false)(he:aH C sc N e (.e v)):bJ C sc N (.aug i op e) (.s (.AugAssign (.Name x p) (fD op) v p')):=by
 constructor;intro cl d X hC hX es eN;subst es;subst eN;exact AK h3 hX.nd h1 (xu h2) (.inl (hX.fn _)) ((yA he X hC rfl rfl).pe hr)
def bJ.«ite»{C:Ctx}{sc:JK}{N:List Str}{c:Ex}{a b:Sm}{x:Expr}{xs ys:List Stmt}{p:Pos}(rc:zi c=false)(ic:ji c=false)(hc:aH C sc N c (.e x))(ha:bJ C sc N a (.b xs))(hb:bJ C sc N b (.b ys)):bJ C sc N (.ite c a b) (.s (.If x xs ys p)):=by
 constructor;intro cl d X hC hX es eN;subst es;subst eN;have iha:=ha.h cl d X hC hX rfl rfl;have ihb:=hb.h cl d X hC hX rfl rfl;exact An ((yA hc X hC rfl rfl).pt rc ic) iha ihb
def bJ.«forv»{C:Ctx}{sc:JK}{N:List Str}{i:Nat}{it:Ex}{body:Sm}{x:Str}{y:Expr}{sts:List Stmt}{p p':Pos}(h1:N[i]?=some x)(h2:vH sc x=true)(hs:ym y=true)(hi:aH C sc N it (.e y))(hb:bJ C sc N body (.b sts)):bJ C sc N (.forv i it body) (.s (.For (.Name x p) y sts [] p')):=by
 constructor;intro cl d X hC hX es eN;subst es;subst eN;have ihb:=hb.h cl d X hC hX rfl rfl;have hset:∀v,Km y X.env v=pure v:=yF hs;refine PS.imp (kL hX.hp hC.calm ((yA hi X hC rfl rfl).2 _) (yt hX.nd h1 (xu h2) (.inl (hX.fn _))) ihb hset) λD σ H q=>?_;exact sI (sJ i) q
def bJ.«fort»{C:Ctx}{sc:JK}{N:List Str}{i j:Nat}{it:Ex}{body:Sm}{x x':Str}{y:Expr}{sts:List Stmt}{k}{p p' p2 p3:Pos}(h1:N[i]?=some x)(h2:vH sc x=true)(h3:N[j]?=some x')(h4:vH sc x'=true)(hs:ym y=true)(hi:aH C sc N it (.e y))(hb:bJ C sc N body (.b sts)):bJ C sc N (.fort i j it body) (.s (.For (.Tuple [.Name x p,.Name x' p2] k p3) y sts [] p')):=by
 constructor;intro cl d X hC hX es eN;subst es;subst eN;have ihb:=hb.h cl d X hC hX rfl rfl;have hset:∀v,Km y X.env v=pure v:=yF hs;refine PS.imp (kL hX.hp hC.calm ((yA hi X hC rfl rfl).2 _) (gw hC.calm (yP (yt hX.nd h1 (xu h2) (.inl (hX.fn _))) (yP (yt hX.nd h3 (xu h4) (.inl (hX.fn _))) kC))) ihb hset) λD σ H q=>?_;exact sI (js i j) q
def bJ.«forZ»{C:Ctx}{sc:JK}{N:List Str}{i j:Nat}{a b:Ex}{body:Sm}{x x':Str}{w w':Expr}{sts:List Stmt}{k}{p p' p2 p3 q q':Pos}(h1:N[i]?=some x)(h2:vH sc x=true)(h3:N[j]?=some x')(h4:vH sc x'=true)(hg:dq sc "zip"=true)(hs:zn w=true)(hs':zn w'=true)(ra:zi a=false)(ha:aH C sc N a (.e w))(rb:zi b=false)(hb:aH C sc N b (.e w'))(hd:bJ C sc N body (.b sts)):bJ C sc N (.forZ i j a b body) (.s (.For (.Tuple [.Name x p,.Name x' p2] k p3) (.Call (.Name "zip" q) [w,w'] [] q') sts [] p')):=by
 constructor;intro cl d X hC hX es eN;subst es;subst eN;have ihd:=hd.h cl d X hC hX rfl rfl;refine PS.imp (kL hX.hp hC.calm (gZ (xN hg) (hC.blt _ (by simp[zp])) (zT ((yA ha X hC rfl rfl).pe ra) (zT ((yA hb X hC rfl rfl).pe rb) xE (zf hs')) (zf hs)) (by rw[zf hs,zf hs'];rfl) (zf hs')) (gw hC.calm (yP (yt hX.nd h1 (xu h2) (.inl (hX.fn _))) (yP (yt hX.nd h3 (xu h4) (.inl (hX.fn _))) kC))) ihd (λ_=>rfl)) λD σ H q=>?_;exact FK q
def bJ.«forD»{C:Ctx}{sc:JK}{N:List Str}{i x:Nat}{body:Sm}{nm nx:Str}{sts:List Stmt}{p p' p2:Pos}(h1:N[i]?=some nm)(h2:vH sc nm=true)(hi:aH C sc N (.var x) (.e (.Name nx p2)))(hb:bJ C sc N body (.b sts)):bJ C sc N (.forD i x body) (.s (.For (.Name nm p) (.Name nx p2) sts [] p')):=by
 constructor;intro cl d X hC hX es eN;subst es;subst eN;have ihb:=hb.h cl d X hC hX rfl rfl;refine PS.imp (kL hX.hp hC.calm (EW ((yA hi X hC rfl rfl).pe rfl)) (yt hX.nd h1 (xu h2) (.inl (hX.fn _))) ihb (yF rfl)) λD σ H q=>?_;exact FJ rfl q
def bJ.«forI»{C:Ctx}{sc:JK}{N:List Str}{i j x:Nat}{body:Sm}{nm nm' nx:Str}{sts:List Stmt}{k}{p p' p2 p3 p4 ap cp:Pos}(h1:N[i]?=some nm)(h2:vH sc nm=true)(h3:N[j]?=some nm')(h4:vH sc nm'=true)(hl:(ap.endLine==cp.line)=true)(hi:aH C sc N (.var x) (.e (.Name nx p2)))(hb:bJ C sc N body (.b sts)):bJ C sc N (.forI i j x body) (.s (.For (.Tuple [.Name nm p,.Name nm' p4] k p3) (.Call (.Attribute (.Name nx p2) "items" ap) [] [] cp) sts [] p')):=by
 constructor;intro cl d X hC hX es eN;subst es;subst eN;have ihb:=hb.h cl d X hC hX rfl rfl;refine PS.imp (kL hX.hp hC.calm (Fj (pR PySem.F.slot_dict_items PySem.F.type_dict_items EU ((yA hi X hC rfl rfl).pe rfl) (bU rfl) hl)) (gw hC.calm (yP (yt hX.nd h1 (xu h2) (.inl (hX.fn _))) (yP (yt hX.nd h3 (xu h4) (.inl (hX.fn _))) kC))) ihb (yF rfl)) λD σ H q=>?_;exact FI rfl q
def bJ.«ret»{C:Ctx}{sc:JK}{N:List Str}{e:Ex}{x:Expr}{p:Pos}(hr:zi e=false)(he:aH C sc N e (.e x)):bJ C sc N (.ret e) (.s (.Return (some x) p)):=by
 constructor;intro cl d X hC hX es eN;subst es;subst eN;exact AL ((yA he X hC rfl rfl).pe hr)
def bJ.«expr»{C:Ctx}{sc:JK}{N:List Str}{e:Ex}{x:Expr}{p:Pos}(hc:jq x=false)(hr:zi e=false)(he:aH C sc N e (.e x)):bJ C sc N (.expr e) (.s (.Expr x p)):=by
 constructor;intro cl d X hC hX es eN;subst es;subst eN;exact Dr ((yA he X hC rfl rfl).pe hr) hc
def bJ.«never»{C:Ctx}{sc:JK}{N:List Str}{st:Stmt}:bJ C sc N .never (.s st):=by
 constructor;intro cl d X hC hX es eN;subst es;subst eN;exact Fe
end
set_option genInjectivity false in
structure bK where
 nm:Str
 st:Stmt
 N:List Str
 ps:List Str
 fn:Fn
 on:Str
noncomputable def lC(N ps:List Str)(sc:JK):Bool:=
 decide (sc.kind=.function)&&(decide (sc.isCoroutine=false)&&(decide (sc.isGenerator=false)&&(decide N.Nodup&&(decide (N.take ps.length=ps) &&
  (ps.all (λx=>decide (sc.names.lookup x=some .local) || decide (sc.names.lookup x=some .cell))&&sc.names.all (λy=>!(decide (y.2=.free))))))))
def FH (h:lC N ps sc=true):cA N ps sc:=by
 unfold lC at h;simp only[Qm,WS,Mq,QV,Vb,decide_eq_false_iff_not]at h;obtain⟨h1,h2,h3,h4,h5,h6,h7⟩:=h;exact⟨h1,h2,h3,h4,h5,h6,h7⟩
structure iS(C:Ctx)(d:bK):Prop where
 sc:lC d.N d.ps (zQ d.st)=true
 ar:d.ps.length=d.fn.ar
 sz:d.N.length=d.fn.sz
 body:bJ C (zQ d.st) d.N d.fn.body (.b (xg d.st))
section
variable{P:JM}{w:JN}{K:Qb}{mg:Str->Option Value}{base:JP}{C:Ctx}{cl:Nat->List Wd->Me->Rz}
def FG (R:aa K as H ws vs)(hl:ws.length=fn.ar)(hN:N.length=fn.sz):aF K as H (xU fn ws) (L2.start N vs):=by
 have hv:=R.length;refine⟨by simp[xU,L2.start,hN,hv],λi w e=>?_⟩;unfold xU at e;by_cases hi:i<ws.length
 .rw[Qf (by simpa using hi),Qs]at e;cases hx:ws[i]? with
  |none=>rw[hx]at e;cases e
  |some x=>
   rw[hx]at e;cases e;obtain⟨v,h1,h2⟩:=R.get hx;refine⟨v,?_,h2⟩;unfold L2.start;rw[Qf (by simp;lia),Qs,h1];rfl
 .rw[Qd (by simpa using hi),Vh]at e;split at e<;>cases e
set_option tactic.hygienic true in
def Fd (F:eJ K d.on d.on d.st f fd)(hd:iS C d)(hfn:∀(i:Nat) (nm:Str),C.fns[i]?=some nm->∃f fd ps,mg nm=some (.ref f)/\WT K (.ref f)=true/\Binds K fd ps []/\cL P w K mg base dQ k f fd ps (gY K (cl i)))(hcon:fT K w mg C)(hblt:∀nm∈zp,mg nm=none):
  cL P w K mg base dQ (k+1) f fd d.ps (gY K (gK cl d.fn)):=by
 obtain⟨h1,h2,h3,h4⟩:=hd;have Sc:=FH h1;have arity:∀{as:List Addr}{H:Hp}{Q:VK}{ws:List Wd}{m:Me},ak K as H Q (gK cl d.fn ws m)->ws.length=d.fn.ar:=λ{as H Q ws m} h=>by
  unfold gK at h;split at h
  .assumption
  .exact h.elim
 refine F.ok Sc (λvs H Q E h=>?_) (λcdv A outer s H vs Q E hr h=>?_)
 .obtain ⟨as,m,ws,S,R,q⟩:=h;rw[<-R.length,arity q,h2]
 .obtain ⟨as,m,ws,S,R,q⟩:=h;have ha:=arity q;have hC:bS C (qB dQ P w K mg base d.N d.on (zQ d.st) f cdv A outer s H E).nox cl k:=⟨hr,rfl,hfn,hcon,hblt⟩;have hX:ee (qB dQ P w K mg base d.N d.on (zQ d.st) f cdv A outer s H E).nox:=⟨Sc.nd,λ_=>rfl,PassesOwn.never⟩;refine⟨_,AJ hC hX h4,as,xU d.fn ws,m,S,FG R ha h3,?_⟩;unfold gK at q;rw[Mk ha]at q;cases hr:bD cl d.fn.body (xU d.fn ws) m with
  |next e m1=>rw[hr]at q;exact λas' H' σ' T S' G=>q as' H' .non T S' (az.mpr rfl)
  |ret w m1=>rw[hr]at q;exact λas' H' v T S' R'=>q as' H' v T S' R'
  |brk e m1=>rw[hr]at q;exact q.elim
  |cont e m1=>rw[hr]at q;exact q.elim
  |exc c w e m1=>rw[hr]at q;exact q.elim
  |no=>rw[hr]at q;exact q.elim
def jt(K:Qb)(mg:Str->Option Value)(d:bK):Prop:=∃f fd,eJ K d.on d.on d.st f fd/\mg d.nm=some (.ref f)
def nH(d:bK):Prop:=∀(kV doc pm:Value) (an:Option Addr) (cdv ct:Value) (us:List Value),us.length=d.ps.length->bindArgs (WI d.on d.on (xS d.st) (xg d.st) (zQ d.st) .none kV doc pm an cdv ct) ⟨us,[]⟩=pure (d.ps.zip us)
theorem kq{D:List bK}(hC:C.fns=D.map (·.nm))(hD:∀d∈D,iS C d)(hB:∀d∈D,nH d)(hK:∀d∈D,jt K mg d)
  (hcon:fT K w mg C) (hblt:∀nm∈zp,mg nm=none) :
  ∀(k:Nat) (i:Nat) (d:bK),D[i]?=some d->∀f fd,eJ K d.on d.on d.st f fd->cL P w K mg base dQ k f fd d.ps (gY K (xb (D.map (·.fn)) k i))
 |0,i,d,hi,f,fd,F=>by
  have no:∀{vs:List V}{H:Hp}{Q:VK}{E:XK},¬gY K (xb (D.map (·.fn)) 0 i) vs H Q E:=λ{vs H Q E} h=>by
   obtain⟨as,m,ws,S,R,q⟩:=h;exact q
  exact⟨λvs H Q E h=>(no h).elim,λA outer s H args us vs Q E _ _ _ _ h=>(no h).elim⟩
 |k+1,i,d,hi,f,fd,F=>by
  have ih:=kq hC hD hB hK hcon hblt k;have e:gY K (xb (D.map (·.fn)) (k+1) i)=gY K (gK (xb (D.map (·.fn)) k) d.fn):=by
   have:xb (D.map (·.fn)) (k+1) i=gK (xb (D.map (·.fn)) k) d.fn:=by
    funext ws m;unfold xb;rw[Qs,hi];rfl
   rw[this]
  rw[e];refine Fd F (hD d (Qp hi)) (λj nm hj=>?_) hcon hblt;rw[hC,Qs]at hj;cases hx:D[j]? with
  |none=>rw[hx]at hj;cases hj
  |some d'=>
   rw[hx]at hj;cases hj;obtain⟨f',fd',F',m'⟩:=hK d' (Qp hx);exact⟨f',fd',d'.ps,m',F'.kp,F'.binds (hB d' (Qp hx)),ih j d' hx f' fd' F'⟩
end
def Fc {K:Qb}{D:List bK}{ns:List Int}(hO:ip H)(hS:bE K H a (ns.map V.int))(h:∃m,xb (D.map (·.fn)) k i [.rol (ns.map Wd.int)] []=.ok (.bl true) m):
  gY K (xb (D.map (·.fn)) k i) [.ref a] H (λv _=>v=.bl true) E:=by
 obtain⟨m,h⟩:=h;refine⟨[],[],[.rol (ns.map Wd.int)],⟨rfl,QK,λl a o e=>by simp at e⟩,aj.mpr ⟨.ref a,[],rfl,bm.mpr ⟨a,ns.map V.int,rfl,?_,?_⟩,au.mpr rfl⟩,?_⟩
 .rcases hS with (hS|⟨o,hS⟩)|hS
  .rcases hO a with z|⟨o,xs,z⟩
   .rw[z]at hS;cases hS
   .rw[z]at hS;cases hS
  .exact .inl ⟨o,hS⟩
  .exact .inr hS
 .have all:∀l:List Int,aa K [] H (l.map Wd.int) (l.map V.int):=by
   intro l
   induction l with
   |nil=>exact au.mpr rfl
   |cons n l ih=>exact aj.mpr ⟨_,_,rfl,ab.mpr rfl,ih⟩
  exact all ns
 .rw[h];exact λas' H' v T S R=>ai.mp R
def Al {l:PySem.W.OpenLaw}{Kp:JL->Qb}{D:List bK}{dl:bK}(hn:l.most=some n)(hn2:n<=sizeLine)(hdf:d.params.defaults=[])(hr:cb k K8)(hY:∀(w:JN) (h:JP),YP w h->(Kp w.params).In h)(hC:C.fns=D.map (·.nm))(hD:∀d∈D,iS C d)(hB:∀d∈D,nH d)(hi:D[i]?=some dl)(hx:dl.ps=[x])(hnm:d.name=dl.nm)(F:∀(w:JN) (mg:Str->Option Value) (fa:Addr) (h:JP),(Kp w.params).In h->h.Ns JU mg->mg d.name=some (.ref fa) ->
   (∀e∈D,jt (Kp w.params) mg e)/\fT (Kp w.params) w mg C/\∀nm∈zp,mg nm=none)(hpure:∀ns:List Int,ns.length<=n->∃m,xb (D.map (·.fn)) k i [.rol (ns.map Wd.int)] []=.ok (.bl true) m):
  VT q loose XP YP l.row.toRowW d [] (λf vs=>PySem.call f vs):=by
 refine L2.Dg (n:=n) (k:=k) (x:=x) (CX:=λ_=>dQ) (sp:=λw=>gY (Kp w.params) (xb (D.map (·.fn)) k i)) hn hn2 hdf hr hY ?_ (λw H a ns hl hO hS=>Fc hO hS (hpure ns hl)) λ_ _ _ _ _ z=>z;intro w mg fa h KX G hmg;obtain⟨h1,h2,h3⟩:=F w mg fa h KX G hmg;obtain⟨f,fd,Ff,hm⟩:=h1 dl (Qp hi);rw[hnm,hm]at hmg;cases hmg;refine⟨fd,λs u=>?_,λbase kb nb=>?_⟩
 .obtain ⟨oc,od,kV,doc,pm,an,cdv,ct,osl,rfl,lk,hcd⟩:=Ff.ex;have q:=hB dl (Qp hi) kV doc pm an cdv ct [u] (by rw[hx];rfl);rw[hx]at q;exact .of_eq q
 .rw[<-hx];exact kq hC hD hB h1 h2 h3 k i dl hi fa fd Ff
theorem aH.v{C:Ctx}{sc:JK}{N:List Str}{i:Nat}{x:Str}{p:Pos}(h1:N[i]?=some x:=by rfl)(h2:im sc x=true:=by kernel_rfl)(h3:y6 x=true:=by kernel_rfl):aH C sc N (.var i) (.e (.Name x p)):=.var h1 h2 h3
def tF{P:List Value->Prop}(h:∀a,P [a]):∀us:List Value,us.length=1->P us
 |[a],_=>h a
def tD {P:List Value->Prop}(h:∀a (us:List Value),us.length=n->P (a::us)):∀us:List Value,us.length=n+1->P us
 |a::us,e=>h a us (Nat.succ.inj e)
def tE{P:List Value->Prop}(h:∀a b,P [a,b]):∀us:List Value,us.length=2->P us:=tD λa=>tF (P:=λus=>P (a::us)) (h a)
def Gu{P:List Value->Prop}(h:∀a b c,P [a,b,c]):∀us:List Value,us.length=3->P us:=tD λa=>tE (P:=λus=>P (a::us)) (h a)
end Mini
namespace Mini
namespace Vl
set_option genInjectivity false in
inductive Dat where
 |non|bl (b:Bool)|int (i:Int)|str (s:List Nat)|tup (xs:List Dat)|lst (xs:List Dat)|scr (ns:List Int)|dct (ks:List (List Int)) (xs:List Dat)
deriving Inhabited
inductive Lv where|no|top|full
deriving DecidableEq,Inhabited
abbrev aU:=List (Option Dat)
inductive Rd where|ok (d:Dat)|exc (c:Nat) (d:Dat)|no
deriving Inhabited
noncomputable def Rd.bind(r:Rd)(f:Dat->Rd):Rd:=match r with
 |.ok d=>f d
 |.exc c d=>.exc c d
 |.no=>.no
mutual
noncomputable def ax:Dat->Bool
 |.lst _=>false
 |.tup xs=>aW xs
 |.non=>true
 |.bl _=>true
 |.int _=>true
 |.str _=>true
 |.scr _=>true
 |.dct _ _=>false
noncomputable def aW:List Dat->Bool
 |[]=>true
 |d::ds=>ax d&&aW ds
end
mutual
noncomputable def xA:Nat->Dat->Bool
 |0,_=>false
 |_+1,.scr _=>false
 |_+1,.dct _ _=>false
 |k+1,.tup xs=>bF k xs
 |k+1,.lst xs=>bF k xs
 |_+1,.non=>true
 |_+1,.bl _=>true
 |_+1,.int _=>true
 |_+1,.str _=>true
noncomputable def bF:Nat->List Dat->Bool
 |_,[]=>true
 |k,d::ds=>xA k d&&bF k ds
end
mutual
noncomputable def dh:Dat->Dat->Bool
 |.tup a,.tup b=>cr a b
 |.lst a,.lst b=>cr a b
 |.non,.non=>true
 |.bl a,.bl b=>a==b
 |.int a,.int b=>decide (a=b)
 |.bl a,.int b=>decide (b2i a=b)
 |.int a,.bl b=>decide (a=b2i b)
 |.str a,.str b=>decide (a=b)
 |_,_=>false
noncomputable def cr:List Dat->List Dat->Bool
 |[],[]=>true
 |x::xs,y::ys=>dh x y&&cr xs ys
 |_,_=>false
end
noncomputable def yH:Dat->Option (List Dat)
 |.tup xs=>some xs
 |.lst xs=>some xs
 |.scr ns=>some (ns.map .int)
 |_=>none
noncomputable def dD:Dat->Option (List Dat)
 |.lst xs=>some xs
 |.scr ns=>some (ns.map .int)
 |_=>none
noncomputable def bu(xs:List Dat):Rd:=if xs.length<=aq then .ok (.lst xs)else .no
noncomputable def yn(op:Bo)(x y:Dat):Rd:=match x,y with
 |.int i,.int j=>match op with
  |.add=>.ok (.int (i+j))
  |.sub=>.ok (.int (i-j))
  |.mul=>if small i || small j then .ok (.int (i*j))else .no
  |.fdiv=>if 0<j/\j<1073741824 then .ok (.int (i/j))else .no
  |.mod=>if 0<j then .ok (.int (i%j))else .no
  |.pow=>if 0<=j/\j<=1000000/\small i=true then .ok (.int (i^j.toNat))else .no
  |.shr=>if 0<=j/\j<=1000 then .ok (.int (i/2^j.toNat))else .no
  |.band=>if 0<=i/\j=1 then .ok (.int (i%2))else .no
  |.mulB=>if i.natAbs.log2<100000/\j.natAbs.log2<100000 then .ok (.int (i*j))else .no
  |.fdivB=>if 0<j/\j.natAbs.log2<9000 then .ok (.int (i/j))else .no
 |.lst xs,.lst ys=>match op with
  |.add=>bu (xs++ys)
  |_=>.no
 |.lst xs,.int k=>match op with
  |.mul=>if -aq<=k/\k<=aq then bu (Qg k.toNat xs).flatten else .no
  |_=>.no
 |.tup xs,.tup ys=>match op with
  |.add=>if xs.length+ys.length<=aq then .ok (.tup (xs++ys))else .no
  |_=>.no
 |_,_=>.no
noncomputable def iO(x y:Dat):Option Bool:=if xA yB x&&xA yB y then some (dh x y)else none
noncomputable def nj(x:Dat)(ys:List Dat):Option Bool:=if xA yB x&&bF yB ys then some (ys.any λy=>dh y x)else none
noncomputable def fq:Option Bool->Rd
 |some b=>.ok (.bl b)
 |none=>.no
noncomputable def fJ(r:Int->Int->Bool)(x y:Dat):Rd:=match x,y with
 |.int i,.int j=>.ok (.bl (r i j))
 |_,_=>.no
noncomputable def zC:List Dat->Option (List Int)
 |[]=>some []
 |.int i::r=>(zC r).map (i::·)
 |_=>none
noncomputable def ni(x y:Dat):Option Bool:=match y with
 |.dct ks _=>match x with
  |.int _=>some false
  |.tup ds=>(zC ds).map λk=>decide (k∈ks)
  |_=>none
 |_=>none
noncomputable def wQ(op:Co)(x y:Dat):Rd:=match op with
 |.eq=>fq (iO x y)
 |.ne=>fq ((iO x y).map (!·))
 |.isin=>match yH y with
  |some ys=>fq (nj x ys)
  |none=>fq (ni x y)
 |.lt=>fJ (λi j=>decide (i<j)) x y
 |.le=>fJ (λi j=>decide (i<=j)) x y
 |.gt=>fJ (λi j=>decide (j<i)) x y
 |.ge=>fJ (λi j=>decide (j<=i)) x y
noncomputable def hZ(t:Tg)(x:Dat):Bool:=match t with
 |.int=>match x with
  |.int _=>true
  |.bl _=>true
  |_=>false
 |.bool=>match x with
  |.bl _=>true
  |_=>false
 |.str=>match x with
  |.str _=>true
  |_=>false
 |.tuple=>match x with
  |.tup _=>true
  |_=>false
 |.list=>match x with
  |.scr _=>true
  |.lst _=>true
  |_=>false
 |.dict=>match x with
  |.dct _ _=>true
  |_=>false
noncomputable def vI:List Dat->Option Int
 |[]=>some 0
 |.int i::r=>(vI r).map (i+·)
 |_=>none
noncomputable def fQ:List Dat->Option (List (List Int))
 |[]=>some []
 |.lst xs::r=>match zC xs,fQ r with
  |some k,some ks=>some (k::ks)
  |_,_=>none
 |_=>none
noncomputable def eO(xs:List Dat):Option (List Int):=match zC xs with
 |some k=>some (0::k)
 |none=>(fQ xs).bind iB
noncomputable def xc:List Dat->Option (List (List Int))
 |[]=>some []
 |.lst xs::r=>match eO xs,xc r with
  |some k,some ks=>some (k::ks)
  |_,_=>none
 |_=>none
noncomputable def eo:List Dat->Option (List (Dat×Dat))
 |[]=>some []
 |.tup [x,y]::r=>(eo r).map ((x,y)::·)
 |_=>none
noncomputable def yu(b:dR)(ws:List Dat):Rd:=match b with
 |.sortI=>match ws with
  |[x]=>match (dD x).bind zC with
   |some k=>if k.length<64 then bu ((fA k).map Dat.int)else .no
   |none=>.no
  |_=>.no
 |.sorted=>match ws with
  |[.lst ds]=>match (xc ds).bind λks=>yS Dat ks ds with
   |some es=>bu es
   |none=>.no
  |_=>.no
 |.minS=>match ws with
  |[x]=>match (yH x).bind zC with
   |some (i::r)=>.ok (.int (yY i r))
   |_=>.no
  |_=>.no
 |.maxS=>match ws with
  |[x]=>match (yH x).bind zC with
   |some (i::r)=>.ok (.int (xo i r))
   |_=>.no
  |_=>.no
 |.len=>match ws with
  |[x]=>match yH x with
   |some xs=>.ok (.int xs.length)
   |none=>.no
  |_=>.no
 |.int=>match ws with
  |[.int i]=>.ok (.int i)
  |[.bl b]=>.ok (.int (b2i b))
  |_=>.no
 |.list=>match ws with
  |[x]=>match yH x with
   |some xs=>bu xs
   |none=>.no
  |_=>.no
 |.tuple=>match ws with
  |[x]=>match yH x with
   |some xs=>.ok (.tup xs)
   |none=>.no
  |_=>.no
 |.sum=>match ws with
  |[x]=>match (dD x).bind vI with
   |some i=>.ok (.int i)
   |none=>.no
  |_=>.no
noncomputable def xB(x y:Dat):Rd:=match y with
 |.int i=>match yH x with
  |some xs=>match (ix xs.length i).bind λj=>xs[j]? with
   |some v=>.ok v
   |none=>.no
  |none=>.no
 |_=>.no
def xf:Dat->Option (List Int)
 |.tup ds=>zC ds
 |_=>none
noncomputable def vJ(x y:Dat):Rd:=match x with
 |.dct ks ds=>match (xf y).bind (cq ks ds)with
  |some v=>.ok v
  |none=>.no
 |_=>.no
noncomputable def eD(x:Dat)(lo hi:Option Int):Rd:=match x with
 |.tup xs=>if aS xs.length 0 lo=0/\aS xs.length xs.length hi=xs.length then .no else .ok (.tup ((xs.drop (aS xs.length 0 lo)).take (aS xs.length xs.length hi-aS xs.length 0 lo)))
 |x=>match dD x with
 |some xs=>bu ((xs.drop (aS xs.length 0 lo)).take (aS xs.length xs.length hi-aS xs.length 0 lo))
 |none=>.no
noncomputable def yh(lo st:Int)(n:Nat):List Dat:=(QU n).map λ(i:Nat)=>.int (lo+st*(i:Int))
noncomputable def lh(k:Dk)(x:Dat):Bool:=match k with
 |.one=>true
 |.trg=>true
 |_=>match x with
  |.dct _ _=>true
  |_=>false
noncomputable def qc(k:Dk)(x y z:Dat):Rd:=match k with
 |.get=>match x with
  |.dct ks ds=>match xf y with
   |some q=>match cq ks ds q with
    |some v=>.ok v
    |none=>.ok z
   |none=>.no
  |_=>.no
 |.one=>match xf y with
  |some q=>.ok (.dct [q] [z])
  |none=>.no
 |.sum=>match x with
  |.dct _ ds=>match vI ds with
   |some i=>.ok (.int i)
   |none=>.no
  |_=>.no
 |.trg=>match x with
  |.int j=>if -aq<=j/\j<=aq then .ok (.tup (yh 0 1 j.toNat))else .no
  |_=>.no
noncomputable def eM(a b c:Dat):Rd:=match a,b,c with
 |.int a,.int b,.int c=>if -aq<=a/\a<=aq/\-aq<=b/\b<=aq/\(c=1\/c=-1)then .ok (.tup (yh a c (fy a b c)))else .no
 |_,_,_=>.no
noncomputable def zM{α:Type}(c e:α->Rd):List α->List Dat->Rd
 |[],acc=>bu acc
 |x::xs,acc=>(c x).bind λb=>match b with
  |.bl true=>(e x).bind λy=>if acc.length<aq then zM c e xs (acc++[y])else .no
  |.bl false=>zM c e xs acc
  |_=>.no
noncomputable def cI(d:Dat):Option (List Dat):=match d with
 |.tup xs=>some xs
 |.scr ns=>some (ns.map .int)
 |.lst xs=>if xs.length<=aq then some xs else none
 |_=>none
def eT:Dat->Option (List Dat)
 |.tup xs=>some xs
 |.lst xs=>some xs
 |_=>none
noncomputable def yw(k:Kd)(x y:Dat):Option (List (Dat×Dat)):=match k,x,y with
 |.zip,x,y=>match eT x,eT y with
  |some xs,some ys=>if xs.length<=aq/\ys.length<=aq then some (xs.zip ys)else none
  |_,_=>none
 |.enum,.lst xs,.int s=>if xs.length<=aq then some ((yh s 1 xs.length).zip xs)else none
 |.prs,.lst xs,.int _=>if xs.length<=aq then eo xs else none
 |.ptp,.tup xs,.int _=>if xs.length<=aq then eo xs else none
 |_,_,_=>none
def zD:Dat->List Dat
 |.tup xs=>xs
 |_=>[]
noncomputable def oh:Wd->Option Dat
 |.non=>some .non
 |.bl b=>some (.bl b)
 |.int i=>some (.int i)
 |.str s=>some (.str s)
 |_=>none
noncomputable def am(cl:Nat->List Dat->Rd):Ex->aU->Rd
 |.var i,de=>match de[i]? with
  |some (some d)=>.ok d
  |_=>.no
 |.lit w,_=>match oh w with
  |some d=>.ok d
  |none=>.no
 |.bin op a b,de=>(am cl a de).bind λx=>(am cl b de).bind λy=>yn op x y
 |.neg a,de=>(am cl a de).bind λx=>match x with
  |.int i=>.ok (.int (-i))
  |_=>.no
 |.not a,de=>(am cl a de).bind λx=>match x with
  |.bl b=>.ok (.bl (! b))
  |_=>.no
 |.and a b,de=>(am cl a de).bind λx=>match x with
  |.bl true=>am cl b de
  |.bl false=>.ok (.bl false)
  |_=>.no
 |.or a b,de=>(am cl a de).bind λx=>match x with
  |.bl false=>am cl b de
  |.bl true=>.ok (.bl true)
  |_=>.no
 |.cmp op a b,de=>(am cl a de).bind λx=>(am cl b de).bind λy=>wQ op x y
 |.chain p q a b c,de=>(am cl a de).bind λx=>(am cl b de).bind λy=>(wQ p x y).bind λz=>match z with
  |.bl true=>(am cl c de).bind λu=>wQ q y u
  |.bl false=>.ok (.bl false)
  |_=>.no
 |.ife c a b,de=>(am cl c de).bind λx=>match x with
  |.bl true=>am cl a de
  |.bl false=>am cl b de
  |_=>.no
 |.unit,_=>.ok (.tup [])
 |.pair a b,de=>(am cl a de).bind λx=>(am cl b de).bind λy=>.ok (.tup (x::zD y))
 |.call k a,de=>(am cl a de).bind λx=>cl k (zD x)
 |.blt b a,de=>(am cl a de).bind λx=>yu b (zD x)
 |.isi t a,de=>(am cl a de).bind λx=>.ok (.bl (hZ t x))
 |.lst a,de=>(am cl a de).bind λx=>bu (zD x)
 |.tup a,de=>(am cl a de).bind λx=>if(zD x).length<=aq then .ok (.tup (zD x))else .no
 |.dict0,_=>.ok (.dct [] [])
 |.dget a b,de=>(am cl a de).bind λx=>(am cl b de).bind λy=>vJ x y
 |.idx a b,de=>(am cl a de).bind λx=>(am cl b de).bind λy=>xB x y
 |.dop k a b c,de=>(am cl a de).bind λx=>match lh k x with
  |true=>(am cl b de).bind λy=>(am cl c de).bind λz=>qc k x y z
  |false=>.no
 |.slL a lo,de=>(am cl a de).bind λx=>(am cl lo de).bind λy=>match y with
  |.int i=>eD x (some i) none
  |_=>.no
 |.meth _ _ _,_=>.no
 |.rng a b c,de=>(am cl a de).bind λx=>(am cl b de).bind λy=>(am cl c de).bind λz=>eM x y z
 |.comp elt it cond,de=>(am cl it de).bind λx=>match cI x with
  |some xs=>zM (λx=>am cl cond (de++[some x])) (λx=>am cl elt (de++[some x])) xs []
  |none=>.no
 |.compP k elt a b cond,de=>(am cl a de).bind λx=>(am cl b de).bind λy=>match yw k x y with
  |some ps=>zM (λp=>am cl cond (de++[some p.1]++[some p.2])) (λp=>am cl elt (de++[some p.1]++[some p.2])) ps []
  |none=>.no
def wm (h:env[i]?=some (some w))(m:Me):ag cl (.var i) env m=.ok w m:=by
 show(match env[i]? with|some (some w)=>Rz.ok w m|_=>.no)=_;rw[h]
def xO (h:de[i]?=some (some d)):am cl (.var i) de=.ok d:=by
 show(match de[i]? with|some (some d)=>Rd.ok d|_=>.no)=_;rw[h]
def yV (h:de[i]?=none\/de[i]?=some none):am cl (.var i) de=.no:=by
 show(match de[i]? with|some (some d)=>Rd.ok d|_=>.no)=_;rcases h with h|h<;>rw[h]
def kF (h:am cl (.var i) de=.ok d):de[i]?=some (some d):=by
 cases z:de[i]? with
 |none=>rw[yV (.inl z)]at h;cases h
 |some o=>
  cases o with
  |none=>rw[yV (.inr z)]at h;cases h
  |some e=>rw[xO z]at h;cases h;rfl
mutual
noncomputable def ah(R:Nat->Prop)(m:Me):Dat->Wd->Prop
 |.non,w=>w=.non
 |.bl b,w=>w=.bl b
 |.int i,w=>w=.int i
 |.str s,w=>w=.str s
 |.scr ns,w=>w=.rol (ns.map Wd.int)
 |.tup ds,w=>∃xs,w=.tup xs/\aa R m ds xs
 |.lst ds,w=>∃l xs,w=.ref l/\R l/\m[l]?=some (.lst xs)/\aa R m ds xs
 |.dct ks ds,w=>∃l xs,w=.ref l/\R l/\m[l]?=some (.dct ks xs)/\aa R m ds xs
noncomputable def aa(R:Nat->Prop)(m:Me):List Dat->List Wd->Prop
 |[],xs=>xs=[]
 |d::ds,xs=>∃x r,xs=x::r/\ah R m d x/\aa R m ds r
end
def Le(m m':Me):Prop:=∀(l:Nat) o,m[l]?=some o->m'[l]?=some o
def Le.refl(m:Me):Le m m:=λ_ _ h=>h
def Le.trans{a b c:Me}(h:Le a b)(k:Le b c):Le a c:=λl o z=>k l o (h l o z)
def Le.app(m x:Me):Le m (m++x):=λl o z=>by
 obtain⟨hl,_⟩:=Qa.mp z;rw[Qf hl];exact z
def Le.len (h:Le a b):a.length<=b.length:=by
 rcases Nat.lt_or_ge b.length a.length with z|z
 .have:=h b.length a[b.length] (Qw z);have:=(Qa.mp this).1;lia
 .exact z
def Rf(R:Nat->Prop)(n:Nat):Nat->Prop:=λl=>R l\/n<=l
mutual
theorem ah.frame{R R':Nat->Prop}{m m':Me}(h:∀(l:Nat) o,R l->m[l]?=some o->R' l/\m'[l]?=some o):∀(d:Dat) (w:Wd),ah R m d w->ah R' m' d w
 |.non,w,q=>by unfold ah at q ⊢;exact q
 |.bl b,w,q=>by unfold ah at q ⊢;exact q
 |.int b,w,q=>by unfold ah at q ⊢;exact q
 |.str b,w,q=>by unfold ah at q ⊢;exact q
 |.scr b,w,q=>by unfold ah at q ⊢;exact q
 |.tup ds,w,q=>by
  unfold ah at q ⊢;obtain⟨xs,rfl,q⟩:=q;exact⟨xs,rfl,aa.frame h ds xs q⟩
 |.lst ds,w,q=>by
  unfold ah at q ⊢;obtain⟨l,xs,rfl,r,z,q⟩:=q;exact⟨l,xs,rfl,(h l _ r z).1,(h l _ r z).2,aa.frame h ds xs q⟩
 |.dct ks ds,w,q=>by
  unfold ah at q ⊢;obtain⟨l,xs,rfl,r,z,q⟩:=q;exact⟨l,xs,rfl,(h l _ r z).1,(h l _ r z).2,aa.frame h ds xs q⟩
theorem aa.frame{R R':Nat->Prop}{m m':Me}(h:∀(l:Nat) o,R l->m[l]?=some o->R' l/\m'[l]?=some o):∀(ds:List Dat) (xs:List Wd),aa R m ds xs->aa R' m' ds xs
 |[],xs,q=>by unfold aa at q ⊢;exact q
 |d::ds,xs,q=>by
  unfold aa at q ⊢;obtain⟨x,r,rfl,a,b⟩:=q;exact⟨x,r,rfl,ah.frame h d x a,aa.frame h ds r b⟩
end
def ah.up{R:Nat->Prop}{m m':Me}{d:Dat}{w:Wd}(n:Nat)(h:Le m m')(q:ah R m d w):ah (Rf R n) m' d w:=
 ah.frame (λl o r z=>⟨.inl r,h l o z⟩) d w q
def aa.up{R:Nat->Prop}{m m':Me}{d:List Dat}{w:List Wd}(n:Nat)(h:Le m m')(q:aa R m d w):aa (Rf R n) m' d w:=
 aa.frame (λl o r z=>⟨.inl r,h l o z⟩) d w q
theorem bB:∀{ds:List Dat}{xs:List Wd},aa R m ds xs↔ds.length=xs.length/\∀(i:Nat) d x,ds[i]?=some d->xs[i]?=some x->ah R m d x
 |[],xs=>by
  unfold aa;constructor
  .rintro rfl;exact⟨rfl,by simp⟩
  .rintro ⟨h,_⟩;exact VQ h.symm
 |d::ds,xs=>by
  unfold aa;constructor
  .rintro ⟨x,r,rfl,a,b⟩;obtain⟨hl,hb⟩:=bB.mp b;refine⟨by simp[hl],λi e y h1 h2=>?_⟩;cases i with
   |zero=>simp at h1 h2;subst h1;subst h2;exact a
   |succ i=>simp at h1 h2;exact hb i e y h1 h2
  .rintro ⟨hl,h⟩;cases xs with
   |nil=>cases hl
   |cons x r=>
    refine⟨x,r,rfl,h 0 d x rfl rfl,bB.mpr ⟨by simpa using hl,λi e y h1 h2=>h (i+1) e y (by simpa using h1) (by simpa using h2)⟩⟩
def aa.len (h:aa R m ds xs):ds.length=xs.length:=(bB.mp h).1
def aa.get (h:aa R m ds xs){i:Nat}(z:ds[i]?=some d):∃x,xs[i]?=some x/\ah R m d x:=by
 obtain⟨hl,h⟩:=bB.mp h;obtain⟨hi,_⟩:=Qa.mp z;exact⟨xs[i],Qw (by lia),h i d _ z (Qw (by lia))⟩
def aa.nil{R:Nat->Prop}{m:Me}:aa R m [] []:=by unfold aa;rfl
def aa.cons{R:Nat->Prop}{m:Me}{d:Dat}{x:Wd}{ds:List Dat}{xs:List Wd}(a:ah R m d x)(b:aa R m ds xs):aa R m (d::ds) (x::xs):=by
 unfold aa;exact⟨x,xs,rfl,a,b⟩
def aa.cons_inv (h:aa R m (d::ds) xs):∃x r,xs=x::r/\ah R m d x/\aa R m ds r:=by
 unfold aa at h;exact h
def aa.nil_inv (h:aa R m [] xs):xs=[]:=by unfold aa at h;exact h
theorem aa.app:∀{ds es:List Dat}{xs ys:List Wd},aa R m ds xs->aa R m es ys->aa R m (ds++es) (xs++ys)
 |[],es,xs,ys,a,b=>by rw[a.nil_inv];exact b
 |d::ds,es,xs,ys,a,b=>by
  obtain⟨x,r,rfl,p,q⟩:=a.cons_inv;exact .cons p (aa.app q b)
theorem aa.drop{R:Nat->Prop}{m:Me}(n:Nat){ds:List Dat}{xs:List Wd}(h:aa R m ds xs):aa R m (ds.drop n) (xs.drop n):=by
 obtain⟨hl,h⟩:=bB.mp h;refine bB.mpr ⟨by simp[hl],λi d x a b=>h (n+i) d x (by simpa using a) (by simpa using b)⟩
set_option tactic.hygienic true in
theorem aa.take{R:Nat->Prop}{m:Me}(n:Nat){ds:List Dat}{xs:List Wd}(h:aa R m ds xs):aa R m (ds.take n) (xs.take n):=by
 obtain⟨hl,h⟩:=bB.mp h;refine bB.mpr ⟨by simp[hl],λi d x a b=>?_⟩;rw[List.getElem?_take]at a b;split at a
 .next z=>rw[Mk z]at b;exact h i d x a b
 .cases a
theorem aa.rev:∀{ds:List Dat}{xs:List Wd},aa R m ds xs->aa R m ds.reverse xs.reverse
 |[],xs,a=>by rw[a.nil_inv];exact .nil
 |d::ds,xs,a=>by
  obtain⟨x,r,rfl,p,q⟩:=a.cons_inv;rw[Wr,Wr];exact aa.app (aa.rev q) (.cons p .nil)
theorem aa.set{R:Nat->Prop}{m:Me}{ds:List Dat}{xs:List Wd}(h:aa R m ds xs)(j:Nat){d:Dat}{x:Wd}(z:ah R m d x):aa R m (ds.set j d) (xs.set j x):=by
 obtain⟨hl,h⟩:=bB.mp h;refine bB.mpr ⟨by simp[hl],λi e y a b=>?_⟩;rw[QO]at a b;by_cases q:j=i
 .rw[Mk q]at a b;split at a
  .split at b
   .cases a;cases b;exact z
   .cases b
  .cases a
 .rw[Ml q]at a b;exact h i e y a b
theorem aa.rep (h:aa R m ds xs):∀k:Nat,aa R m (Qg k ds).flatten (Qg k xs).flatten
 |0=>.nil
 |k+1=>by
  rw[Wg,Wg,Q2,Q2];exact aa.app h (aa.rep h k)
theorem en:∀(l:List Int),aa R m (l.map Dat.int) (l.map Wd.int)
 |[]=>.nil
 |i::l=>.cons (by unfold ah;rfl) (en l)
def ab:ah R m (.int i) w↔w=.int i:=by unfold ah;exact Iff.rfl
def ai:ah R m (.bl i) w↔w=.bl i:=by unfold ah;exact Iff.rfl
def az:ah R m .non w↔w=.non:=by unfold ah;exact Iff.rfl
def aD:ah R m (.str s) w↔w=.str s:=by unfold ah;exact Iff.rfl
def bj:ah R m (.scr s) w↔w=.rol (s.map Wd.int):=by unfold ah;exact Iff.rfl
def af:ah R m (.tup ds) w↔∃xs,w=.tup xs/\aa R m ds xs:=by
 constructor
 .intro h;unfold ah at h;exact h
 .intro h;unfold ah;exact h
def aw:ah R m (.lst ds) w↔∃l xs,w=.ref l/\R l/\m[l]?=some (.lst xs)/\aa R m ds xs:=by
 constructor
 .intro h;unfold ah at h;exact h
 .intro h;unfold ah;exact h
def aT:ah R m (.dct ks ds) w↔∃l xs,w=.ref l/\R l/\m[l]?=some (.dct ks xs)/\aa R m ds xs:=by
 constructor
 .intro h;unfold ah at h;exact h
 .intro h;unfold ah;exact h
def ae(R:Nat->Prop)(m:Me)(r:Rz)(rd:Rd):Prop:=match rd with
 |.ok d=>∃w m',r=.ok w m'/\Le m m'/\ah (Rf R m.length) m' d w
 |.exc c d=>∃w m',r=.exc c w m'/\Le m m'/\ah (Rf R m.length) m' d w
 |.no=>True
def ae.lift{R:Nat->Prop}{m m1:Me}{r:Rz}{rd:Rd}(h:Le m m1)(q:ae (Rf R m.length) m1 r rd):ae R m r rd:=by
 have hl:=h.len;have fr:∀(m':Me) (d:Dat) (w:Wd),ah (Rf (Rf R m.length) m1.length) m' d w->ah (Rf R m.length) m' d w:=λm' d w=>ah.frame (λl o z k=>⟨by rcases z with (z|z)|z;exact .inl z;exact .inr z;exact .inr (by lia),k⟩) d w;cases rd with
 |ok d=>obtain⟨w,m',rfl,k,z⟩:=q;exact⟨w,m',rfl,h.trans k,fr _ _ _ z⟩
 |exc c d=>obtain⟨w,m',rfl,k,z⟩:=q;exact⟨w,m',rfl,h.trans k,fr _ _ _ z⟩
 |no=>trivial
theorem ae.bind{R:Nat->Prop}{m:Me}{r:Rz}{rd:Rd}{f:Wd->Me->Rz}{g:Dat->Rd}(h:ae R m r rd)
  (k:∀d w m',Le m m'->ah (Rf R m.length) m' d w->ae (Rf R m.length) m' (f w m') (g d)):ae R m (r.bind f) (rd.bind g):=by
 cases rd with
 |ok d=>obtain⟨w,m',rfl,l,z⟩:=h;exact ae.lift l (k d w m' l z)
 |exc c d=>obtain⟨w,m',rfl,l,z⟩:=h;exact⟨w,m',rfl,l,z⟩
 |no=>trivial
def cS (h:ah R m d w):ae R m (.ok w m) (.ok d):=
 ⟨w,m,rfl,Le.refl m,h.up _ (Le.refl m)⟩
theorem ae.no{R:Nat->Prop}{m:Me}{r:Rz}:ae R m r .no:=trivial
def ae.new{R:Nat->Prop}{m:Me}{ds:List Dat}{xs:List Wd}(h:aa R m ds xs):ae R m (alloc m xs) (bu ds):=by
 unfold bu alloc;rw[h.len];by_cases z:xs.length<=aq
 .rw[Mk z,Mk z];exact⟨_,_,rfl,Le.app m _,aw.mpr ⟨_,xs,rfl,.inr (Qh _),by simp,h.up _ (Le.app m _)⟩⟩
 .rw[Ml z,Ml z];exact ae.no
def xD (h:ah R m d w)(z:yH d=some ds):∃xs,yq m w=some xs/\aa R m ds xs:=by
 cases d with
 |tup es=>obtain⟨xs,rfl,q⟩:=af.mp h;cases z;exact⟨xs,rfl,q⟩
 |lst es=>
  obtain⟨l,xs,rfl,_,e,q⟩:=aw.mp h;cases z;exact⟨xs,by show zj m l=_;unfold zj;rw[e],q⟩
 |scr ns=>rw[bj.mp h];cases z;exact⟨_,rfl,en ns⟩
 |_=>cases z
def qd (h:ah R m d w)(z:dD d=some ds):∃xs,kz m w=some xs/\aa R m ds xs:=by
 cases d with
 |lst es=>
  obtain⟨l,xs,rfl,_,e,q⟩:=aw.mp h;cases z;exact⟨xs,by show zj m l=_;unfold zj;rw[e],q⟩
 |scr ns=>rw[bj.mp h];cases z;exact⟨_,rfl,en ns⟩
 |_=>cases z
theorem sG:∀{a b:List Int},a.map Wd.int=b.map Wd.int->a=b
 |[],[],_=>rfl
 |[],_::_,h=>by cases h
 |_::_,[],h=>by cases h
 |x::a,y::b,h=>by
  simp only[QM,List.cons.injEq,Wd.int.injEq]at h;rw[h.1,sG h.2]
mutual
theorem ah.det{R R':Nat->Prop}{m:Me}:∀(d e:Dat) (w:Wd),ah R m d w->ah R' m e w->d=e
 |.non,e,w,q,z=>by rw[az.mp q]at z;cases e<;>unfold ah at z<;>first|rfl|(exfalso;simp at z)
 |.bl b,e,w,q,z=>by rw[ai.mp q]at z;cases e<;>unfold ah at z<;>first|(injection z with z;rw[z])|(exfalso;simp at z)
 |.int b,e,w,q,z=>by rw[ab.mp q]at z;cases e<;>unfold ah at z<;>first|(injection z with z;rw[z])|(exfalso;simp at z)
 |.str b,e,w,q,z=>by rw[aD.mp q]at z;cases e<;>unfold ah at z<;>first|(injection z with z;rw[z])|(exfalso;simp at z)
 |.scr b,e,w,q,z=>by rw[bj.mp q]at z;cases e<;>unfold ah at z<;>first|(injection z with z;rw[sG z])|(exfalso;simp at z)
 |.tup ds,e,w,q,z=>by
  obtain⟨xs,rfl,q1⟩:=af.mp q;cases e with
  |tup es=>obtain⟨ys,e,z1⟩:=af.mp z;cases e;rw[aa.det ds es xs q1 z1]
  |_=>exfalso;unfold ah at z;simp at z
 |.lst ds,e,w,q,z=>by
  obtain⟨l,xs,rfl,_,hm,q1⟩:=aw.mp q;cases e with
  |lst es=>obtain⟨l',ys,e,_,hn,z1⟩:=aw.mp z;cases e;rw[hm]at hn;cases hn;rw[aa.det ds es xs q1 z1]
  |dct ks es=>obtain⟨l',ys,e,_,hn,z1⟩:=aT.mp z;cases e;rw[hm]at hn;cases hn
  |_=>exfalso;unfold ah at z;simp at z
 |.dct ks ds,e,w,q,z=>by
  obtain⟨l,xs,rfl,_,hm,q1⟩:=aT.mp q;cases e with
  |dct ks' es=>obtain⟨l',ys,e,_,hn,z1⟩:=aT.mp z;cases e;rw[hm]at hn;cases hn;rw[aa.det ds es xs q1 z1]
  |lst es=>obtain⟨l',ys,e,_,hn,z1⟩:=aw.mp z;cases e;rw[hm]at hn;cases hn
  |_=>exfalso;unfold ah at z;simp at z
theorem aa.det{R R':Nat->Prop}{m:Me}:∀(ds es:List Dat) (xs:List Wd),aa R m ds xs->aa R' m es xs->ds=es
 |[],es,xs,q,z=>by
  rw[q.nil_inv]at z;cases es with
  |nil=>rfl
  |cons e es=>obtain⟨_,_,h,_⟩:=z.cons_inv;cases h
 |d::ds,es,xs,q,z=>by
  obtain⟨x,r,rfl,a,b⟩:=q.cons_inv;cases es with
  |nil=>cases z.nil_inv
  |cons e es=>
   obtain⟨_,_,h,a',b'⟩:=z.cons_inv;cases h;rw[ah.det d e x a a',aa.det ds es r b b']
end
def oO(d:Dat):xA 0 d=false:=by cases d<;>rfl
mutual
theorem sF:∀(k:Nat) (d:Dat),xA k d=true->dh d d=true
 |0,d,h=>by rw[oO]at h;cases h
 |k+1,.non,h=>rfl
 |k+1,.bl b,h=>by show(b==b)=true;simp
 |k+1,.int b,h=>by show decide (b=b)=true;simp
 |k+1,.str b,h=>by show decide (b=b)=true;simp
 |k+1,.scr b,h=>Mm (show false=true from h) (by decide)
 |k+1,.dct _ _,h=>Mm (show false=true from h) (by decide)
 |k+1,.tup ds,h=>bP k ds h
 |k+1,.lst ds,h=>bP k ds h
theorem bP:∀(k:Nat) (ds:List Dat),bF k ds=true->cr ds ds=true
 |k,[],h=>rfl
 |k,d::ds,h=>by
  replace h:(xA k d&&bF k ds)=true:=h
  show(dh d d&&cr ds ds)=true;rw[Qm]at h ⊢;exact⟨sF k d h.1,bP k ds h.2⟩
end
theorem qe (ih:∀(d e:Dat) (x y:Wd),xA k d=true->xA k e=true->ah R m d x->ah R m e y->cu m k x y=some (dh d e)):
  ∀(ds es:List Dat) (xs ys:List Wd),bF k ds=true->bF k es=true->aa R m ds xs->aa R m es ys->∃q,cP (cu m k) xs ys=some q/\(q&&decide (xs.length=ys.length))=cr ds es
 |[],es,xs,ys,h1,h2,a,b=>by
  rw[a.nil_inv];cases es with
  |nil=>rw[b.nil_inv];exact⟨true,rfl,rfl⟩
  |cons e es=>obtain⟨y,r,rfl,_,_⟩:=b.cons_inv;exact⟨true,rfl,rfl⟩
 |d::ds,es,xs,ys,h1,h2,a,b=>by
  obtain⟨x,r,rfl,p,q⟩:=a.cons_inv;cases es with
  |nil=>rw[b.nil_inv];exact⟨true,rfl,rfl⟩
  |cons e es=>
   obtain⟨y,s,rfl,p',q'⟩:=b.cons_inv
   replace h1:(xA k d&&bF k ds)=true:=h1
   replace h2:(xA k e&&bF k es)=true:=h2
   rw[Qm]at h1 h2;obtain⟨t,ht,hb⟩:=qe ih ds es r s h1.2 h2.2 q q';refine⟨dh d e&&t,?_,?_⟩
   .unfold cP;rw[ih d e x y h1.1 h2.1 p p',ht];rfl
   .show (dh d e&&t&&decide (r.length+1=s.length+1))=(dh d e&&cr ds es);simp only[<-hb,Nat.succ_inj,Bool.and_assoc]
def aV (h:m[l]?=some (.lst xs)):aX m l=true:=by unfold aX;rw[h]
def yO (h:m[l]?=some (.lst xs)):(if aX m l&&true then some false else none)=some false:=by rw[aV h];rfl
theorem lB:∀(k:Nat) (d e:Dat) (x y:Wd),xA k d=true->xA k e=true->ah R m d x->ah R m e y->cu m k x y=some (dh d e)
 |0,d,e,x,y,h,_,_,_=>by rw[oO]at h;cases h
 |k+1,d,e,x,y,h1,h2,a,b=>by
  have ih:=lB (R:=R) (m:=m) k;cases d with
  |scr ns=>exact Mm (show false=true from h1) (by decide)
  |dct _ _=>exact Mm (show false=true from h1) (by decide)
  |tup ds=>
   obtain⟨xs,rfl,a1⟩:=af.mp a;cases e with
   |scr ns=>exact Mm (show false=true from h2) (by decide)
   |dct _ _=>exact Mm (show false=true from h2) (by decide)
   |tup es=>
    obtain⟨ys,rfl,b1⟩:=af.mp b;obtain⟨q,h,e⟩:=qe ih ds es xs ys h1 h2 a1 b1;show(cP (cu m k) xs ys).map (· && decide (xs.length=ys.length))=some (cr ds es);rw[h,<-e];rfl
   |lst es=>
    obtain⟨l,ys,rfl,_,hm,b⟩:=aw.mp b;exact yO hm
   |non=>rw[az.mp b];rfl
   |bl _=>rw[ai.mp b];rfl
   |int _=>rw[ab.mp b];rfl
   |str _=>rw[aD.mp b];rfl
  |lst ds=>
   have a0:=a;obtain⟨l,xs,rfl,_,hm,a⟩:=aw.mp a;cases e with
   |scr ns=>exact Mm (show false=true from h2) (by decide)
   |dct _ _=>exact Mm (show false=true from h2) (by decide)
   |lst es=>
    have b0:=b;obtain⟨l',ys,rfl,_,hn,b⟩:=aw.mp b;show(if l=l' then(if aX m l then some true else none)else match m[l]?,m[l']? with
     |some (.lst xs),some (.lst ys)=>if xs.length=ys.length then cP (cu m k) xs ys else some false
     |_,_=>none)=_
    by_cases q:l=l'
    .subst q;rw[Mk rfl,Mk (aV hm)];rw[ah.det _ _ _ a0 b0]at *
     rw[sF (k+1) _ h2]
    .rw[Ml q,hm,hn];obtain⟨q,h,e⟩:=qe ih ds es xs ys h1 h2 a b;show(if xs.length=ys.length then cP (cu m k) xs ys else some false)=some (cr ds es);by_cases z:xs.length=ys.length
     .simp only[z,if_true,h,<-e];simp
     .simp only[z,if_false,<-e];simp
   |tup es=>obtain⟨ys,rfl,b⟩:=af.mp b;exact yO hm
   |non=>rw[az.mp b];exact yO hm
   |bl _=>rw[ai.mp b];exact yO hm
   |int _=>rw[ab.mp b];exact yO hm
   |str _=>rw[aD.mp b];exact yO hm
  |non=>
   rw[az.mp a];cases e with
   |scr ns=>exact Mm (show false=true from h2) (by decide)
   |dct _ _=>exact Mm (show false=true from h2) (by decide)
   |lst es=>obtain⟨l',ys,rfl,_,hn,b⟩:=aw.mp b;exact yO hn
   |tup es=>obtain⟨ys,rfl,b⟩:=af.mp b;rfl
   |non=>rw[az.mp b];rfl
   |bl _=>rw[ai.mp b];rfl
   |int _=>rw[ab.mp b];rfl
   |str _=>rw[aD.mp b];rfl
  |bl _=>
   rw[ai.mp a];cases e with
   |scr ns=>exact Mm (show false=true from h2) (by decide)
   |dct _ _=>exact Mm (show false=true from h2) (by decide)
   |lst es=>obtain⟨l',ys,rfl,_,hn,b⟩:=aw.mp b;exact yO hn
   |tup es=>obtain⟨ys,rfl,b⟩:=af.mp b;rfl
   |non=>rw[az.mp b];rfl
   |bl _=>rw[ai.mp b];rfl
   |int _=>rw[ab.mp b];rfl
   |str _=>rw[aD.mp b];rfl
  |int _=>
   rw[ab.mp a];cases e with
   |scr ns=>exact Mm (show false=true from h2) (by decide)
   |dct _ _=>exact Mm (show false=true from h2) (by decide)
   |lst es=>obtain⟨l',ys,rfl,_,hn,b⟩:=aw.mp b;exact yO hn
   |tup es=>obtain⟨ys,rfl,b⟩:=af.mp b;rfl
   |non=>rw[az.mp b];rfl
   |bl _=>rw[ai.mp b];rfl
   |int _=>rw[ab.mp b];rfl
   |str _=>rw[aD.mp b];rfl
  |str _=>
   rw[aD.mp a];cases e with
   |scr ns=>exact Mm (show false=true from h2) (by decide)
   |dct _ _=>exact Mm (show false=true from h2) (by decide)
   |lst es=>obtain⟨l',ys,rfl,_,hn,b⟩:=aw.mp b;exact yO hn
   |tup es=>obtain⟨ys,rfl,b⟩:=af.mp b;rfl
   |non=>rw[az.mp b];rfl
   |bl _=>rw[ai.mp b];rfl
   |int _=>rw[ab.mp b];rfl
   |str _=>rw[aD.mp b];rfl
set_option tactic.hygienic true in
def rE (h:iO d e=some q)(a:ah R m d x)(b:ah R m e y):cu m yB x y=some q:=by
 unfold iO at h;split at h
 .next z=>simp only[Qm]at z;cases h;exact lB yB d e x y z.1 z.2 a b
 .cases h
theorem sw (h:xA yB d=true)(a:ah R m d x):∀(es:List Dat) (ys:List Wd),bF yB es=true->aa R m es ys->dX (cu m yB) x ys=some (es.any λe=>dh e d)
 |[],ys,_,b=>by rw[b.nil_inv];rfl
 |e::es,ys,z,b=>by
  obtain⟨y,r,rfl,p,q⟩:=b.cons_inv
  replace z:(xA yB e&&bF yB es)=true:=z
  rw[Qm]at z;show(match cu m yB y x with
   |some a=>(dX (cu m yB) x r).map (a || ·)
   |none=>none)=_
  rw[lB yB e d y x z.1 h p a,sw h a es r z.2 q];rfl
set_option tactic.hygienic true in
def Dm (h:nj d es=some q)(a:ah R m d x)(b:aa R m es ys):dX (cu m yB) x ys=some q:=by
 unfold nj at h;split at h
 .next z=>simp only[Qm]at z;cases h;exact sw z.1 a es ys z.2 b
 .cases h
theorem ae.int{R:Nat->Prop}{m:Me}{i:Int}:ae R m (.ok (.int i) m) (.ok (.int i)):=cS (ab.mpr rfl)
theorem ae.bl{R:Nat->Prop}{m:Me}{i:Bool}:ae R m (.ok (.bl i) m) (.ok (.bl i)):=cS (ai.mpr rfl)
def qf (op:Bo)(a:ah R m d x)(b:ah R m e y):ae R m (cQ op x y m) (yn op d e):=by
 cases d with
 |int i=>
  rw[ab.mp a];cases e with
  |int j=>
   rw[ab.mp b];cases op<;>simp only[cQ,yn]
   .exact ae.int
   .exact ae.int
   .by_cases z:(small i || small j)=true
    .rw[Mk z,Mk z];exact ae.int
    .rw[Ml z,Ml z];exact ae.no
   .by_cases z:0<j/\j<1073741824
    .rw[Mk z,Mk z];exact ae.int
    .rw[Ml z,Ml z];exact ae.no
   .by_cases z:0<j
    .rw[Mk z,Mk z];exact ae.int
    .rw[Ml z,Ml z];exact ae.no
   .by_cases z:0<=j/\j<=1000000/\small i=true
    .rw[Mk z,Mk z];exact ae.int
    .rw[Ml z,Ml z];exact ae.no
   .by_cases z:0<=j/\j<=1000
    .rw[Mk z,Mk z];exact ae.int
    .rw[Ml z,Ml z];exact ae.no
   .by_cases z:0<=i/\j=1
    .rw[Mk z,Mk z];exact ae.int
    .rw[Ml z,Ml z];exact ae.no
   .by_cases z:i.natAbs.log2<100000/\j.natAbs.log2<100000
    .rw[Mk z,Mk z];exact ae.int
    .rw[Ml z,Ml z];exact ae.no
   .by_cases z:0<j/\j.natAbs.log2<9000
    .rw[Mk z,Mk z];exact ae.int
    .rw[Ml z,Ml z];exact ae.no
  |_=>exact ae.no
 |lst ds=>
  obtain⟨l,xs,rfl,_,hm,a1⟩:=aw.mp a;cases e with
  |lst es=>
   obtain⟨l',ys,rfl,_,hn,b1⟩:=aw.mp b;cases op<;>first|exact ae.no|skip
   simp only[cQ,yn,hm,hn];exact ae.new (a1.app b1)
  |int k=>
   rw[ab.mp b];cases op<;>first|exact ae.no|skip
   simp only[cQ,yn,hm];by_cases z:-(aq:Int)<=k/\k<=(aq:Int)
   .rw[Mk z,Mk z];exact ae.new (a1.rep _)
   .rw[Ml z,Ml z];exact ae.no
  |_=>exact ae.no
 |tup ds=>
  obtain⟨xs,rfl,a1⟩:=af.mp a;cases e with
  |tup es=>
   obtain⟨ys,rfl,b1⟩:=af.mp b;cases op<;>first|exact ae.no|skip
   simp only[cQ,yn];have h1:=a1.len;have h2:=b1.len;rw[h1,h2];by_cases z:xs.length+ys.length<=aq
   .rw[Mk z,Mk z];exact cS (af.mpr ⟨_,rfl,a1.app b1⟩)
   .rw[Ml z,Ml z];exact ae.no
  |_=>exact ae.no
 |_=>exact ae.no
def kG (r:Int->Int->Bool)(a:ah R m d x)(b:ah R m e y):ae R m (kP r x y m) (fJ r d e):=by
 cases d with
 |int i=>
  rw[ab.mp a];cases e with
  |int j=>rw[ab.mp b];exact ae.bl
  |_=>exact ae.no
 |_=>exact ae.no
def qg (h:∀b,q=some b->p=some b):ae R m (dC p m) (fq q):=by
 cases q with
 |none=>exact ae.no
 |some b=>rw[h b rfl];exact ae.bl
def Ec (h:∀b,q=some b->p=some b):ae R m (dC (p.map (!·)) m) (fq (q.map (!·))):=by
 cases q with
 |none=>exact ae.no
 |some b=>rw[h b rfl];exact ae.bl
theorem v5:∀{ds:List Dat}{xs:List Wd}{k:List Int},aa R m ds xs->zC ds=some k->zX xs=some k
 |[],xs,k,a,h=>by rw[a.nil_inv];exact h
 |d::ds,xs,k,a,h=>by
  obtain⟨x,r,rfl,p,q⟩:=a.cons_inv;cases d with
  |int j=>
   rw[ab.mp p];simp only[zC,QJ]at h;obtain⟨k,hk,rfl⟩:=h;simp only[zX,v5 q hk,QY]
  |_=>simp[zC]at h
def qh (op:Co)(a:ah R m d x)(b:ah R m e y):ae R m (e8 op x y m) (wQ op d e):=by
 cases op with
 |eq=>exact qg λq h=>rE h a b
 |ne=>exact Ec λq h=>rE h a b
 |isin=>
  simp only[e8,wQ];cases z:yH e with
  |none=>
   cases e with
   |dct ks ds=>
    obtain⟨l,xs,rfl,_,hm,q⟩:=aT.mp b;have hs:yq m (.ref l)=none:=by show zj m l=none;unfold zj;rw[hm]
    rw[hs];refine qg λt h=>?_;unfold iK;simp only[hm];cases d with
    |int i=>rw[ab.mp a];exact h
    |tup us=>
     obtain⟨ws,rfl,q⟩:=af.mp a;have h:(zC us).map (λk=>decide (k∈ks))=some t:=h;obtain⟨k,hk,rfl⟩:=QJ.mp h;show(zX ws).map _=_;rw[v5 q hk];rfl
    |_=>cases h
   |_=>exact ae.no
  |some es=>
   obtain⟨ys,h,q⟩:=xD b z;rw[h];exact qg λt h=>Dm h a q
 |lt=>exact kG _ a b
 |le=>exact kG _ a b
 |gt=>exact kG _ a b
 |ge=>exact kG _ a b
def Dl (t:Tg)(a:ah R m d x):ae R m (dC (cN t x m) m) (.ok (.bl (hZ t d))):=by
 have h:cN t x m=some (hZ t d):=by
  cases d with
  |non=>rw[az.mp a];cases t<;>rfl
  |bl _=>rw[ai.mp a];cases t<;>rfl
  |int _=>rw[ab.mp a];cases t<;>rfl
  |str _=>rw[aD.mp a];cases t<;>rfl
  |scr _=>rw[bj.mp a];cases t<;>rfl
  |tup _=>obtain⟨xs,rfl,_⟩:=af.mp a;cases t<;>rfl
  |lst _=>obtain⟨l,xs,rfl,_,hm,_⟩:=aw.mp a;cases t<;>(show(match m[l]? with|some (.lst _)=>_|some (.dct _ _)=>_|none=>_)=_;rw[hm];rfl)
  |dct _ _=>obtain⟨l,xs,rfl,_,hm,_⟩:=aT.mp a;cases t<;>(show(match m[l]? with|some (.lst _)=>_|some (.dct _ _)=>_|none=>_)=_;rw[hm];rfl)
 rw[h];exact ae.bl
def wn (a:ah R m d x)(h:xf d=some k):kS x=some k:=by
 cases d with
 |tup ds=>obtain⟨xs,rfl,q⟩:=af.mp a;exact v5 q h
 |_=>cases h
theorem qi:∀{ks:List (List Int)}{ds:List Dat}{xs:List Wd}{d:Dat},aa R m ds xs->cq ks ds q=some d->∃x,cq ks xs q=some x/\ah R m d x
 |[],ds,xs,d,a,h=>by cases ds<;>cases h
 |k::ks,[],xs,d,a,h=>by cases h
 |k::ks,e::ds,xs,d,a,h=>by
  obtain⟨x,r,rfl,p,z⟩:=a.cons_inv;have h':(if k=q then some e else cq ks ds q)=some d:=h;show ∃y,(if k=q then some x else cq ks r q)=some y/\_;by_cases c:k=q
  .rw[Mk c]at h' ⊢;cases h';exact⟨x,rfl,p⟩
  .rw[Ml c]at h' ⊢;exact qi z h'
theorem sD:∀{ks:List (List Int)}{ds:List α}{xs:List β},ds.length=xs.length->cq ks ds q=none->cq ks xs q=none
 |[],_,_,_,_=>rfl
 |k::ks,[],xs,h,_=>by cases xs with
  |nil=>rfl
  |cons _ _=>cases h
 |k::ks,d::ds,[],h,_=>by cases h
 |k::ks,d::ds,x::xs,h,e=>by
  have e':(if k=q then some d else cq ks ds q)=none:=e;show(if k=q then some x else cq ks xs q)=none;by_cases c:k=q
  .rw[Mk c]at e';cases e'
  .rw[Ml c]at e' ⊢;exact sD (by simpa using h) e'
def sC (a:ah R m d x)(b:ah R m e y):ae R m (jX x y m) (vJ d e):=by
 cases d with
 |dct ks ds=>
  obtain⟨l,xs,rfl,_,hm,q⟩:=aT.mp a;unfold vJ jX;simp only[hm];cases hk:xf e with
  |none=>exact ae.no
  |some k=>
   rw[wn b hk];simp only[VZ];cases hv:cq ks ds k with
   |none=>exact ae.no
   |some v=>
    obtain⟨w,h1,h2⟩:=qi q hv;rw[h1];exact cS h2
 |_=>exact ae.no
theorem qj:∀{ds:List Dat}{xs:List Wd}{i:Int},aa R m ds xs->vI ds=some i->jK xs=some i
 |[],xs,i,a,h=>by rw[a.nil_inv];exact h
 |d::ds,xs,i,a,h=>by
  obtain⟨x,r,rfl,p,q⟩:=a.cons_inv;cases d with
  |int j=>
   rw[ab.mp p];simp only[vI,QJ]at h;obtain⟨k,hk,rfl⟩:=h;simp only[jK,qj q hk,QY]
  |_=>simp[vI]at h
theorem xP:∀{ds:List Dat}{xs:List Wd}{k:List Int},aa R m ds xs->zC ds=some k->zX xs=some k
 |[],xs,k,q,h=>by rw[q.nil_inv];exact h
 |d::ds,xs,k,q,h=>by
  obtain⟨x,r,rfl,a,b⟩:=q.cons_inv;cases d with
  |int i=>
   have h':(zC ds).map (i::·)=some k:=h;obtain⟨k',e,rfl⟩:=QJ.mp h';rw[ab.mp a];show(zX r).map (i::·)=_;rw[xP b e];rfl
  |_=>cases h
theorem sB:∀{ds:List Dat}{xs:List Wd}{ks:List (List Int)},aa R m ds xs->fQ ds=some ks->kj m xs=some ks
 |[],xs,k,q,h=>by rw[q.nil_inv];exact h
 |d::ds,xs,ks,q,h=>by
  obtain⟨x,r,rfl,a,b⟩:=q.cons_inv;cases d with
  |lst es=>
   have h':(match zC es,fQ ds with
    |some k,some ks=>some (k::ks)
    |_,_=>none)=some ks:=h
   cases e1:zC es with
   |none=>simp only[e1]at h';cases h'
   |some k=>
    cases e2:fQ ds with
    |none=>simp only[e1,e2]at h';cases h'
    |some ks'=>
     simp only[e1,e2]at h';cases h';obtain⟨l,us,rfl,_,hm,q1⟩:=aw.mp a;show(match zj m l with
      |some xs=>match zX xs,kj m r with
       |some k,some ks=>some (k::ks)
       |_,_=>none
      |none=>none)=_
     have e3:zj m l=some us:=by unfold zj;rw[hm]
     simp only[e3,xP q1 e1,sB b e2]
  |_=>cases h
def DW (q:aa R m ds xs)(h:eO ds=some k):qF m xs=some k:=by
 unfold eO at h;cases e:zC ds with
 |some k'=>
  rw[e]at h;unfold qF;rw[xP q e];exact h
 |none=>
  rw[e]at h;obtain⟨kk,h1,h2⟩:=Qy.mp h;have h3:=sB q h1;cases ds with
  |nil=>cases h1;cases h2
  |cons d ds=>
   cases d with
   |lst es=>
    obtain⟨x,r,rfl,a,b⟩:=q.cons_inv;obtain⟨l,us,rfl,_⟩:=aw.mp a;show(kj m (.ref l::r)).bind iB=_;rw[h3];exact h2
   |_=>cases h1
theorem ju:∀{ds:List Dat}{xs:List Wd}{ks:List (List Int)},aa R m ds xs->xc ds=some ks->wd m xs=some ks
 |[],xs,k,q,h=>by rw[q.nil_inv];exact h
 |d::ds,xs,ks,q,h=>by
  obtain⟨x,r,rfl,a,b⟩:=q.cons_inv;cases d with
  |lst es=>
   have h':(match eO es,xc ds with
    |some k,some ks=>some (k::ks)
    |_,_=>none)=some ks:=h
   cases e1:eO es with
   |none=>simp only[e1]at h';cases h'
   |some k=>
    cases e2:xc ds with
    |none=>simp only[e1,e2]at h';cases h'
    |some ks'=>
     simp only[e1,e2]at h';cases h';obtain⟨l,us,rfl,_,hm,q1⟩:=aw.mp a;show(match zj m l with
      |some xs=>match qF m xs,wd m r with
       |some k,some ks=>some (k::ks)
       |_,_=>none
      |none=>none)=_
     have e3:zj m l=some us:=by unfold zj;rw[hm]
     simp only[e3,DW q1 e1,ju b e2]
  |_=>cases h
theorem sr (a:ah R m d x):∀{ps:List (List Int×Dat)}{qs:List (List Int×Wd)},ps.map Prod.fst=qs.map Prod.fst->aa R m (ps.map Prod.snd) (qs.map Prod.snd) ->
  (zz (k,d) ps).map Prod.fst=(zz (k,x) qs).map Prod.fst/\aa R m ((zz (k,d) ps).map Prod.snd) ((zz (k,x) qs).map Prod.snd)
 |[],[],_,_=>⟨rfl,.cons a .nil⟩
 |[],_::_,h,_=>by cases h
 |_::_,[],h,_=>by cases h
 |p::ps,q::qs,h,r=>by
  obtain⟨h1,h2⟩:=List.cons.inj (show p.1::ps.map Prod.fst=q.1::qs.map Prod.fst from h);obtain⟨_,_,e,r1,r2⟩:=aa.cons_inv (show aa R m (p.2::ps.map Prod.snd) (q.2::qs.map Prod.snd)from r);cases e;show(if bZ k p.1 then(k,d)::p::ps else p::zz (k,d) ps).map Prod.fst=(if bZ k q.1 then(k,x)::q::qs else q::zz (k,x) qs).map Prod.fst/\aa R m ((if bZ k p.1 then(k,d)::p::ps else p::zz (k,d) ps).map Prod.snd) ((if bZ k q.1 then(k,x)::q::qs else q::zz (k,x) qs).map Prod.snd);rw[h1];cases bZ k q.1 with
  |true=>exact⟨Mn (k::·) h,.cons a r⟩
  |false=>
   obtain⟨i1,i2⟩:=sr a h2 r2;exact⟨by show p.1::(zz (k,d) ps).map Prod.fst=q.1::(zz (k,x) qs).map Prod.fst;rw[h1,i1],.cons r1 i2⟩
theorem sA:∀{ks:List (List Int)}{ds:List Dat}{xs:List Wd},aa R m ds xs ->
  (zA (ks.zip ds)).map Prod.fst=(zA (ks.zip xs)).map Prod.fst/\aa R m ((zA (ks.zip ds)).map Prod.snd) ((zA (ks.zip xs)).map Prod.snd)
 |[],_,_,_=>⟨rfl,.nil⟩
 |_::_,[],xs,r=>by rw[r.nil_inv];exact⟨rfl,.nil⟩
 |k::ks,d::ds,xs,r=>by
  obtain⟨x,us,rfl,r1,r2⟩:=r.cons_inv;obtain⟨i1,i2⟩:=sA (ks:=ks) r2;rw[Wu,Wu,yr,yr];exact sr r1 i1 i2
def sy (q:aa R m ds xs)(h:yS Dat ks ds=some es):∃ys,yS Wd ks xs=some ys/\aa R m es ys:=by
 obtain⟨e1,e2⟩:=sA (ks:=ks) q;rw[wf]at h;have h':(if y7 ((zA (ks.zip ds)).map Prod.fst)then some ((zA (ks.zip ds)).map Prod.snd)else none)=some es:=h;rw[wf];show ∃ys,(if y7 ((zA (ks.zip xs)).map Prod.fst)then some ((zA (ks.zip xs)).map Prod.snd)else none)=some ys/\aa R m es ys;rw[e1]at h';cases z:y7 ((zA (ks.zip xs)).map Prod.fst)with
 |false=>rw[z]at h';cases h'
 |true=>rw[z]at h';cases h';exact⟨_,rfl,e2⟩
def DV (b:dR)(a:aa R m ds xs):ae R m (vq b xs m) (yu b ds):=by
 have one:∀{d:Dat}{xs:List Wd},aa R m [d] xs->∃x,xs=[x]/\ah R m d x:=by
  intro d xs h;obtain⟨x,r,rfl,p,q⟩:=h.cons_inv;rw[q.nil_inv];exact⟨x,rfl,p⟩
 cases b with
 |len=>
  cases ds with
  |nil=>exact ae.no
  |cons d ds=>
   cases ds with
   |cons _ _=>exact ae.no
   |nil=>
    obtain⟨x,rfl,p⟩:=one a;show ae R m _ (match yH d with|some i=>.ok (.int i.length)|none=>.no);cases z:yH d with
    |none=>exact ae.no
    |some i=>
     obtain⟨ys,h,q⟩:=xD p z;simp only[vq,h,q.len];exact ae.int
 |int=>
  cases ds with
  |nil=>exact ae.no
  |cons d ds=>
   cases d with
   |int i=>
    cases ds with
    |cons _ _=>exact ae.no
    |nil=>obtain⟨x,rfl,p⟩:=one a;rw[ab.mp p];exact ae.int
   |bl i=>
    cases ds with
    |cons _ _=>exact ae.no
    |nil=>obtain⟨x,rfl,p⟩:=one a;rw[ai.mp p];exact ae.int
   |_=>exact ae.no
 |list=>
  cases ds with
  |nil=>exact ae.no
  |cons d ds=>
   cases ds with
   |cons _ _=>exact ae.no
   |nil=>
    obtain⟨x,rfl,p⟩:=one a;show ae R m _ (match yH d with|some i=>bu i|none=>.no);cases z:yH d with
    |none=>exact ae.no
    |some i=>
     obtain⟨ys,h,q⟩:=xD p z;simp only[vq,h];exact ae.new q
 |tuple=>
  cases ds with
  |nil=>exact ae.no
  |cons d ds=>
   cases ds with
   |cons _ _=>exact ae.no
   |nil=>
    obtain⟨x,rfl,p⟩:=one a;show ae R m _ (match yH d with|some i=>.ok (.tup i)|none=>.no);cases z:yH d with
    |none=>exact ae.no
    |some i=>
     obtain⟨ys,h,q⟩:=xD p z;simp only[vq,h];exact cS (af.mpr ⟨_,rfl,q⟩)
 |sum=>
  cases ds with
  |nil=>exact ae.no
  |cons d ds=>
   cases ds with
   |cons _ _=>exact ae.no
   |nil=>
    obtain⟨x,rfl,p⟩:=one a;show ae R m _ (match (dD d).bind vI with|some i=>.ok (.int i)|none=>.no);cases z:(dD d).bind vI with
    |none=>exact ae.no
    |some i=>
     obtain⟨es,z1,z2⟩:=Qy.mp z;obtain⟨ys,h,q⟩:=qd p z1;simp only[vq,h,Q9,qj q z2];exact ae.int
 |sorted=>
  cases ds with
  |nil=>exact ae.no
  |cons d ds=>
   cases d with
   |lst es=>
    cases ds with
    |cons _ _=>exact ae.no
    |nil=>
     obtain⟨x,rfl,p⟩:=one a;obtain⟨l,us,rfl,_,hm,q⟩:=aw.mp p;show ae R m _ (match (xc es).bind λks=>yS Dat ks es with|some i=>bu i|none=>.no);cases z:(xc es).bind λks=>yS Dat ks es with
     |none=>exact ae.no
     |some i=>
      obtain⟨ks,h1,h2⟩:=Qy.mp z;obtain⟨ys,h3,q3⟩:=sy q h2;have e3:zj m l=some us:=by unfold zj;rw[hm]
      have e4:((wd m us).bind λks=>yS Wd ks us)=some ys:=by rw[ju q h1];exact h3
      simp only[vq,e3,e4];exact ae.new q3
   |_=>exact ae.no
 |sortI=>
  cases ds with
  |nil=>exact ae.no
  |cons d ds=>
   cases ds with
   |cons _ _=>exact ae.no
   |nil=>
    obtain⟨x,rfl,p⟩:=one a;show ae R m _ (match (dD d).bind zC with|some k=>if k.length<64 then bu ((fA k).map Dat.int)else .no|none=>.no);cases z:(dD d).bind zC with
    |none=>exact ae.no
    |some k=>
     obtain⟨es,z1,z2⟩:=Qy.mp z;obtain⟨ys,h,q⟩:=qd p z1;by_cases h64:k.length<64
     .simp only[vq,h,Q9,xP q z2,Mk h64];exact ae.new (en _)
     .simp only[Ml h64];exact ae.no
 |minS=>
  cases ds with
  |nil=>exact ae.no
  |cons d ds=>
   cases ds with
   |cons _ _=>exact ae.no
   |nil=>
    obtain⟨x,rfl,p⟩:=one a;show ae R m _ (match (yH d).bind zC with|some (i::r)=>.ok (.int (yY i r))|_=>.no);cases z:(yH d).bind zC with
    |none=>exact ae.no
    |some k=>
     cases k with
     |nil=>exact ae.no
     |cons i k=>
      obtain⟨es,z1,z2⟩:=Qy.mp z;obtain⟨ys,h,q⟩:=xD p z1;simp only[vq,h,Q9,xP q z2];exact ae.int
 |maxS=>
  cases ds with
  |nil=>exact ae.no
  |cons d ds=>
   cases ds with
   |cons _ _=>exact ae.no
   |nil=>
    obtain⟨x,rfl,p⟩:=one a;show ae R m _ (match (yH d).bind zC with|some (i::r)=>.ok (.int (xo i r))|_=>.no);cases z:(yH d).bind zC with
    |none=>exact ae.no
    |some k=>
     cases k with
     |nil=>exact ae.no
     |cons i k=>
      obtain⟨es,z1,z2⟩:=Qy.mp z;obtain⟨ys,h,q⟩:=xD p z1;simp only[vq,h,Q9,xP q z2];exact ae.int
def DU (a:ah R m d x)(b:ah R m e y):ae R m (kA x y m) (xB d e):=by
 cases e with
 |int i=>
  rw[ab.mp b];simp only[xB,kA];cases z:yH d with
  |none=>exact ae.no
  |some ds=>
   obtain⟨xs,h,q⟩:=xD a z;simp only[h];cases z:(ix ds.length i).bind λj=>ds[j]? with
   |none=>exact ae.no
   |some v=>
    obtain⟨j,h1,h2⟩:=Qy.mp z;obtain⟨x,h3,p⟩:=q.get h2;rw[q.len]at h1;simp only[h1,Q9,h3];exact cS p
 |_=>exact ae.no
def pz{x:Wd}{m:Me}{lo hi:Option Int}(h:∀xs,x≠.tup xs):eU x lo hi m=match kz m x with
  |some xs=>alloc m ((xs.drop (aS xs.length 0 lo)).take (aS xs.length xs.length hi-aS xs.length 0 lo))
  |none=>.no:=by
 cases x with
 |tup xs=>exact Mm rfl (h xs)
 |_=>rfl
def sk{d:Dat}{lo hi:Option Int}(h:∀ds,d≠.tup ds):eD d lo hi=match dD d with
  |some xs=>bu ((xs.drop (aS xs.length 0 lo)).take (aS xs.length xs.length hi-aS xs.length 0 lo))
  |none=>.no:=by
 cases d with
 |tup xs=>exact Mm rfl (h xs)
 |_=>rfl
def si (a:ah R m d x)(h:∀ds,d≠.tup ds):∀xs,x≠.tup xs:=λxs e=>by
 subst e;cases d with
 |tup ds=>exact h ds rfl
 |non=>have:=az.mp a;cases this
 |bl _=>have:=ai.mp a;cases this
 |int _=>have:=ab.mp a;cases this
 |str _=>have:=aD.mp a;cases this
 |scr _=>have:=bj.mp a;cases this
 |lst _=>obtain⟨l,ys,e,_⟩:=aw.mp a;cases e
 |dct _ _=>obtain⟨l,ys,e,_⟩:=aT.mp a;cases e
def sg (lo hi:Option Int)(a:ah R m (.tup ds) x):ae R m (eU x lo hi m) (eD (.tup ds) lo hi):=by
 obtain⟨xs,rfl,q⟩:=af.mp a;simp only[eD,eU,q.len];by_cases z:aS xs.length 0 lo=0/\aS xs.length xs.length hi=xs.length
 .rw[Mk z,Mk z];exact ae.no
 .rw[Ml z,Ml z];exact cS (af.mpr ⟨_,rfl,(q.drop _).take _⟩)
def AI (lo hi:Option Int)(a:ah R m d x):ae R m (eU x lo hi m) (eD d lo hi):=by
 by_cases t:∃ds,d=.tup ds
 .obtain ⟨ds,rfl⟩:=t;exact sg lo hi a
 have t':∀ds,d≠.tup ds:=λds e=>t ⟨ds,e⟩;rw[pz (si a t'),sk t'];cases z:dD d with
 |none=>exact ae.no
 |some ds=>
  obtain⟨xs,h,q⟩:=qd a z;simp only[h,q.len];exact ae.new ((q.drop _).take _)
theorem jv (st:Int):∀(n:Nat) (lo:Int),aa R m (yh lo st n) (eP lo st n)
 |0,lo=>.nil
 |n+1,lo=>by
  have h:yh lo st (n+1)=.int lo::yh (lo+st) st n:=by
   unfold yh;rw[Vk,QM,WM];congr 1
   .simp
   .apply List.map_congr_left;intro i _;show Dat.int _=Dat.int _;congr 1;rw[show((Nat.succ i:Nat):Int)=(i:Int)+1 from rfl,Int.mul_add,Int.mul_one];lia
  rw[h];exact .cons (ab.mpr rfl) (jv st n _)
def DT (k:Dk)(a:ah R m d x)(b:ah R m e y)(c:ah R m f z):ae R m (kT k x y z m) (qc k d e f):=by
 cases k with
 |get=>
  cases d with
  |dct ks ds=>
   obtain⟨l,xs,rfl,_,hm,q⟩:=aT.mp a;unfold qc kT;simp only[hm];cases hk:xf e with
   |none=>exact ae.no
   |some k=>
    rw[wn b hk];simp only;cases hv:cq ks ds k with
    |none=>
     have:cq ks xs k=none:=sD q.len hv;rw[this];exact cS c
    |some v=>
     obtain⟨w,h1,h2⟩:=qi q hv;rw[h1];exact cS h2
  |_=>exact ae.no
 |one=>
  unfold qc kT;simp only;cases hk:xf e with
  |none=>exact ae.no
  |some k=>
   rw[wn b hk];exact⟨_,_,rfl,Le.app m _,aT.mpr ⟨_,[z],rfl,.inr (Qh _),by simp,.cons (ah.frame (λl o r h=>⟨.inl r,Le.app m _ l o h⟩) _ _ c) .nil⟩⟩
 |sum=>
  cases d with
  |dct ks ds=>
   obtain⟨l,xs,rfl,_,hm,q⟩:=aT.mp a;unfold qc kT;simp only[hm];cases hs:vI ds with
   |none=>exact ae.no
   |some i=>rw[qj q hs];exact ae.int
  |_=>exact ae.no
 |trg=>
  cases d with
  |int j=>
   obtain rfl:=ab.mp a;unfold qc kT;simp only;by_cases hc:-(aq:Int)<=j/\j<=aq
   .rw[Mk hc,Mk hc];exact cS (af.mpr ⟨_,rfl,jv 1 _ 0⟩)
   .rw[Ml hc,Ml hc];exact ae.no
  |_=>exact ae.no
def Eb (a:ah R m d x)(h:lh k d=true):i8 k x m=true:=by
 cases k with
 |one=>rfl
 |trg=>rfl
 |get=>
  cases d with
  |dct ks ds=>
   obtain⟨l,xs,rfl,_,hm,q⟩:=aT.mp a;show(match m[l]? with|some (.dct _ _)=>true|_=>false)=true;rw[hm]
  |_=>cases h
 |sum=>
  cases d with
  |dct ks ds=>
   obtain⟨l,xs,rfl,_,hm,q⟩:=aT.mp a;show(match m[l]? with|some (.dct _ _)=>true|_=>false)=true;rw[hm]
  |_=>cases h
def DS (a:ah R m d x)(b:ah R m e y)(c:ah R m f z):ae R m (fx x y z m) (eM d e f):=by
 cases d with
 |int i=>
  cases e with
  |int j=>
   cases f with
   |int k=>
    rw[ab.mp a,ab.mp b,ab.mp c];simp only[fx,eM];split
    .exact cS (af.mpr ⟨_,rfl,jv k _ i⟩)
    .exact ae.no
   |_=>exact ae.no
  |_=>exact ae.no
 |_=>exact ae.no
theorem wG {R:Nat->Prop}(hc:∀(R':Nat->Prop) m d x,(∀l,R l->R' l)->Le m0 m->ah R' m d x->ae R' m (c x m) (cd d))(he:∀(R':Nat->Prop) m d x,(∀l,R l->R' l)->Le m0 m->ah R' m d x->ae R' m (e x m) (ed d)):
  ∀(ds:List Dat) (xs:List Wd) (acc:List Dat) (acx:List Wd) (R':Nat->Prop) (m:Me),(∀l,R l->R' l)->Le m0 m->aa R' m ds xs->aa R' m acc acx->ae R' m (y8 c e xs acx m) (zM cd ed ds acc)
 |[],xs,acc,acx,R',m,hR,hm,a,b=>by
  rw[a.nil_inv];unfold y8 zM;exact ae.new b
 |d::ds,xs,acc,acx,R',m,hR,hm,a,b=>by
  obtain⟨x,r,rfl,p,q⟩:=a.cons_inv;unfold y8 zM;refine(hc R' m d x hR hm p).bind λt w m1 l1 k1=>?_;cases t with
  |bl t=>
   rw[ai.mp k1];cases t with
   |true=>
    refine(he _ m1 d x (λl z=>.inl (hR l z)) (hm.trans l1) (p.up _ l1)).bind λt w m2 l2 k2=>?_;simp only[b.len];by_cases z:acx.length<aq
    .rw[Mk z,Mk z];exact wG hc he ds r _ _ _ m2 (λl z=>.inl (.inl (hR l z))) ((hm.trans l1).trans l2) ((q.up _ l1).up _ l2) (((b.up _ l1).up _ l2).app (.cons k2 .nil))
    .rw[Ml z,Ml z];exact ae.no
   |false=>exact wG hc he ds r _ _ _ m1 (λl z=>.inl (hR l z)) (hm.trans l1) (q.up _ l1) (b.up _ l1)
  |_=>exact ae.no
theorem v6 {R:Nat->Prop}(hl:m0[l]?=some (.lst xs0))(hc:∀(R':Nat->Prop) m d x,(∀l,R l->R' l)->Le m0 m->ah R' m d x->ae R' m (c x m) (cd d))(he:∀(R':Nat->Prop) m d x,(∀l,R l->R' l)->Le m0 m->ah R' m d x->ae R' m (e x m) (ed d)):
  ∀(ds:List Dat) (i k:Nat) (acc:List Dat) (acx:List Wd) (R':Nat->Prop) (m:Me),(∀l,R l->R' l)->Le m0 m->aa R' m ds (xs0.drop i)->i+ds.length=xs0.length->ds.length<k->aa R' m acc acx->ae R' m (y9 c e l k i acx m) (zM cd ed ds acc)
 |[],i,0,acc,acx,R',m,hR,hm,a,hi,hk,b=>by simp at hk
 |d::ds,i,0,acc,acx,R',m,hR,hm,a,hi,hk,b=>by simp at hk
 |[],i,k+1,acc,acx,R',m,hR,hm,a,hi,hk,b=>by
  unfold y9 zM zj;rw[hm l _ hl];simp only;rw[QE (by simp at hi;lia)];exact ae.new b
 |d::ds,i,k+1,acc,acx,R',m,hR,hm,a,hi,hk,b=>by
  obtain⟨x,r,e0,p,q⟩:=a.cons_inv;have hx:xs0[i]?=some x:=by
   have:(xs0.drop i)[0]?=some x:=by rw[e0];rfl
   simpa using this
  have hr:r=xs0.drop (i+1):=by
   have:(xs0.drop i).drop 1=r:=by rw[e0];rfl
   rw[<-this,Wy]
  rw[hr]at q;have hi':i+1+ds.length=xs0.length:=by simp at hi;lia
  have hk':ds.length<k:=by simp at hk;lia
  unfold y9 zM zj;rw[hm l _ hl];simp only;rw[hx];simp only;refine(hc R' m d x hR hm p).bind λt w m1 l1 k1=>?_;cases t with
  |bl t=>
   rw[ai.mp k1];cases t with
   |true=>
    refine(he _ m1 d x (λl z=>.inl (hR l z)) (hm.trans l1) (p.up _ l1)).bind λt w m2 l2 k2=>?_;simp only[b.len];by_cases z:acx.length<aq
    .rw[Mk z,Mk z];exact v6 hl hc he ds (i+1) k _ _ _ m2 (λl z=>.inl (.inl (hR l z))) ((hm.trans l1).trans l2) ((q.up _ l1).up _ l2) hi' hk' (((b.up _ l1).up _ l2).app (.cons k2 .nil))
    .rw[Ml z,Ml z];exact ae.no
   |false=>exact v6 hl hc he ds (i+1) k _ _ _ m1 (λl z=>.inl (hR l z)) (hm.trans l1) (q.up _ l1) hi' hk' (b.up _ l1)
  |_=>exact ae.no
def lg(R:Nat->Prop)(m0:Me)(ps:List (Dat×Dat))(g:Nat->Me->Option (Option (Wd×Wd))):Prop:=
 ∀m,Le m0 m->(∀i p,ps[i]?=some p->∃a b,g i m=some (some (a,b))/\ah R m p.1 a/\ah R m p.2 b)/\∀i,ps.length<=i->g i m=some none
theorem kH{α β:Type}:∀{xs:List α}{ys:List β}{i:Nat}{p:α×β},(xs.zip ys)[i]?=some p->xs[i]?=some p.1/\ys[i]?=some p.2
 |[],_,i,p,h=>by simp at h
 |_::_,[],i,p,h=>by simp at h
 |x::xs,y::ys,0,p,h=>by simp at h;subst h;exact⟨rfl,rfl⟩
 |x::xs,y::ys,i+1,p,h=>by
  have h':(xs.zip ys)[i]?=some p:=by simpa using h
  simpa using kH h'
set_option tactic.hygienic true in
theorem qk:∀{xs:List Dat}{ps:List (Dat×Dat)},eo xs=some ps->ps.length=xs.length/\∀(i:Nat) p,ps[i]?=some p->xs[i]?=some (.tup [p.1,p.2])
 |[],ps,h=>by cases h;exact⟨rfl,λi p q=>by simp at q⟩
 |d::xs,ps,h=>by
  unfold eo at h;split at h
  .next h0=>cases h0
  .next x y r h0=>
   cases h0;obtain⟨qs,e,rfl⟩:=QJ.mp h;obtain⟨a,b⟩:=qk e;refine⟨by simp[a],λi p q=>?_⟩;cases i with
   |zero=>cases q;rfl
   |succ i=>exact b i p q
  .cases h
def pq (hx:ah R m0 x a)(h:eT x=some ds):∃xs,(∀m,Le m0 m->w5 m a=some xs)/\aa R m0 ds xs:=by
 cases x with
 |tup es=>
  cases h;obtain⟨xs,rfl,q⟩:=af.mp hx;exact⟨xs,λm h=>rfl,q⟩
 |lst es=>
  cases h;obtain⟨l,xs,rfl,_,e1,q⟩:=aw.mp hx;exact⟨xs,λm h=>by show zj m l=_;unfold zj;rw[h _ _ e1],q⟩
 |_=>cases h
set_option tactic.hygienic true in
def wH (e:yw k x y=some ps)(hx:ah R m0 x a)(hy:ah R m0 y b):lg R m0 ps (zB k a b)/\ps.length<=aq:=by
 unfold yw at e;split at e
 .cases f1:eT x with
  |none=>rw[f1]at e;cases e
  |some ds1=>
   cases f2:eT y with
   |none=>rw[f1,f2]at e;cases e
   |some ds2=>
    rw[f1,f2]at e;obtain⟨xs,e1,k1⟩:=pq hx f1;obtain⟨ys,e2,k2⟩:=pq hy f2;dsimp only at e;split at e
    .next z=>
     cases e;refine⟨λm h=>⟨λi p q=>?_,λi q=>?_⟩,by simp;lia⟩
     .obtain ⟨z1,z2⟩:=kH q;obtain⟨a,a1,a2⟩:=k1.get z1;obtain⟨b,b1,b2⟩:=k2.get z2;refine⟨a,b,?_,ah.frame (λl o r z=>⟨r,h l o z⟩) _ _ a2,ah.frame (λl o r z=>⟨r,h l o z⟩) _ _ b2⟩;simp only[zB,e1 m h,e2 m h,a1,b1]
     .simp only[zB,e1 m h,e2 m h];have l1:=k1.len;have l2:=k2.len;simp only[Vo]at q;rcases Nat.le_total xs.length ys.length with z3|z3
      .rw[QE (by lia)]
      .rw[QE (l:=ys) (by lia)];cases xs[i]?<;>rfl
    .cases e
 .rename_i xs0 st;obtain⟨l,xs,rfl,_,e1,k1⟩:=aw.mp hx;rw[ab.mp hy];split at e
  .next z=>
   cases e;have l1:=k1.len;refine⟨λm h=>⟨λi p q=>?_,λi q=>?_⟩,by simp[yh];lia⟩
   .obtain ⟨z1,z2⟩:=kH q;obtain⟨a,a1,a2⟩:=k1.get z2;have hp:p.1=.int (st+(i:Int)):=by
     simp only[yh,Qs]at z1;cases hr:(QU xs0.length)[i]? with
     |none=>rw[hr]at z1;cases z1
     |some j=>
      rw[hr]at z1;have:=Qa.mp hr;obtain⟨_,hj⟩:=this;simp only[List.getElem_range]at hj;subst hj;simp only[QY,Option.some.injEq,Int.one_mul]at z1;exact z1.symm
    refine⟨.int (st+(i:Int)),a,?_,by rw[hp];exact ab.mpr rfl,ah.frame (λl o r z=>⟨r,h l o z⟩) _ _ a2⟩;simp only[zB,zj];rw[h _ _ e1];simp only[a1,QY]
   .simp only[zB,zj];rw[h _ _ e1];simp only[yh,Vo,Qo,List.length_range]at q;simp only;rw[QE (by lia)];rfl
  .cases e
 .rename_i xs0 st;obtain⟨l,xs,rfl,_,e1,k1⟩:=aw.mp hx;rw[ab.mp hy];split at e
  .next z=>
   have l1:=k1.len;obtain⟨g1,g2⟩:=qk e;refine⟨λm h=>⟨λi p q=>?_,λi q=>?_⟩,by lia⟩
   .obtain ⟨a,a1,a2⟩:=k1.get (g2 i p q);obtain⟨us,rfl,r2⟩:=af.mp a2;obtain⟨x,r,rfl,ra,rb⟩:=r2.cons_inv;obtain⟨y,r',rfl,rc,rd⟩:=rb.cons_inv;obtain rfl:=rd.nil_inv;refine⟨x,y,?_,ah.frame (λl o r z=>⟨r,h l o z⟩) _ _ ra,ah.frame (λl o r z=>⟨r,h l o z⟩) _ _ rc⟩;simp only[zB,zj];rw[h _ _ e1];simp only[a1];rfl
   .simp only[zB,zj];rw[h _ _ e1];simp only;rw[QE (by lia)]
  .cases e
 .rename_i xs0 st;obtain⟨xs,rfl,k1⟩:=af.mp hx;rw[ab.mp hy];split at e
  .next z=>
   have l1:=k1.len;obtain⟨g1,g2⟩:=qk e;refine⟨λm h=>⟨λi p q=>?_,λi q=>?_⟩,by lia⟩
   .obtain ⟨a,a1,a2⟩:=k1.get (g2 i p q);obtain⟨us,rfl,r2⟩:=af.mp a2;obtain⟨x,r,rfl,ra,rb⟩:=r2.cons_inv;obtain⟨y,r',rfl,rc,rd⟩:=rb.cons_inv;obtain rfl:=rd.nil_inv;refine⟨x,y,?_,ah.frame (λl o r z=>⟨r,h l o z⟩) _ _ ra,ah.frame (λl o r z=>⟨r,h l o z⟩) _ _ rc⟩;simp only[zB,a1];rfl
   .simp only[zB];rw[QE (by lia)]
  .cases e
 .cases e
theorem v7 (hg:lg R m0 ps g)(hc:∀(R':Nat->Prop) m p a b,(∀l,R l->R' l)->Le m0 m->ah R' m p.1 a->ah R' m p.2 b->ae R' m (c a b m) (cd p))(he:∀(R':Nat->Prop) m p a b,(∀l,R l->R' l)->Le m0 m->ah R' m p.1 a->ah R' m p.2 b->ae R' m (e a b m) (ed p)):
  ∀(ds:List (Dat×Dat)) (i k:Nat) (acc:List Dat) (acx:List Wd) (R':Nat->Prop) (m:Me),(∀l,R l->R' l)->Le m0 m->ds=ps.drop i->i+ds.length=ps.length->ds.length<k->aa R' m acc acx->ae R' m (yg c e g k i acx m) (zM cd ed ds acc)
 |[],i,0,acc,acx,R',m,hR,hm,a,hi,hk,b=>by simp at hk
 |d::ds,i,0,acc,acx,R',m,hR,hm,a,hi,hk,b=>by simp at hk
 |[],i,k+1,acc,acx,R',m,hR,hm,a,hi,hk,b=>by
  unfold yg zM;rw[(hg m hm).2 i (by simp at hi;lia)];exact ae.new b
 |d::ds,i,k+1,acc,acx,R',m,hR,hm,a,hi,hk,b=>by
  have hx:ps[i]?=some d:=by
   have:(ps.drop i)[0]?=some d:=by rw[<-a];rfl
   simpa using this
  have hr:ds=ps.drop (i+1):=by
   have:(ps.drop i).drop 1=ds:=by rw[<-a];rfl
   rw[<-this,Wy]
  have hi':i+1+ds.length=ps.length:=by simp at hi;lia
  have hk':ds.length<k:=by simp at hk;lia
  obtain⟨u,v,e0,p,q⟩:=(hg m hm).1 i d hx;have up:∀{d:Dat}{w:Wd},ah R m d w->ah R' m d w:=λz=>ah.frame (λl o r z=>⟨hR l r,z⟩) _ _ z;unfold yg zM;rw[e0];simp only;refine(hc R' m d u v hR hm (up p) (up q)).bind λt w m1 l1 k1=>?_;cases t with
  |bl t=>
   rw[ai.mp k1];cases t with
   |true=>
    refine(he _ m1 d u v (λl z=>.inl (hR l z)) (hm.trans l1) ((up p).up _ l1) ((up q).up _ l1)).bind λt w m2 l2 k2=>?_;simp only[b.len];by_cases z:acx.length<aq
    .rw[Mk z,Mk z];exact v7 hg hc he ds (i+1) k _ _ _ m2 (λl z=>.inl (.inl (hR l z))) ((hm.trans l1).trans l2) hr hi' hk' (((b.up _ l1).up _ l2).app (.cons k2 .nil))
    .rw[Ml z,Ml z];exact ae.no
   |false=>exact v7 hg hc he ds (i+1) k _ _ _ m1 (λl z=>.inl (hR l z)) (hm.trans l1) hr hi' hk' (b.up _ l1)
  |_=>exact ae.no
noncomputable def zh:Ex->List Nat
 |.var i=>[i]
 |.lit _=>[]
 |.bin _ a b=>zh a++zh b
 |.neg a=>zh a
 |.not a=>zh a
 |.and a b=>zh a++zh b
 |.or a b=>zh a++zh b
 |.cmp _ a b=>zh a++zh b
 |.chain _ _ a b c=>zh a++(zh b++zh c)
 |.ife c a b=>zh c++(zh a++zh b)
 |.unit=>[]
 |.pair a b=>zh a++zh b
 |.call _ a=>zh a
 |.blt _ a=>zh a
 |.isi _ a=>zh a
 |.lst a=>zh a
 |.tup a=>zh a
 |.dict0=>[]
 |.dget a b=>zh a++zh b
 |.dop _ a b c=>zh a++(zh b++zh c)
 |.idx a b=>zh a++zh b
 |.slL a b=>zh a++zh b
 |.meth _ a b=>zh a++zh b
 |.rng a b c=>zh a++(zh b++zh c)
 |.comp e i c=>zh i++(zh e++zh c)
 |.compP _ e a b c=>zh a++(zh b++(zh e++zh c))
@[simp]theorem Jm(i:Nat):zh (.var i)=[i]:=rfl
@[simp]theorem Jl(w:Wd):zh (.lit w)=[]:=rfl
@[simp]theorem Jk(a b:Ex):zh (.idx a b)=zh a++zh b:=rfl
@[simp]theorem Jj(a:Ex):zh (.tup a)=zh a:=rfl
@[simp]theorem JH(a b:Ex):zh (.pair a b)=zh a++zh b:=rfl
@[simp]theorem JG  : zh (.unit)=[]:=rfl
@[simp]theorem Ji(op:Bo)(a b:Ex):zh (.bin op a b)=zh a++zh b:=rfl
@[simp]theorem JF(k:Nat)(a:Ex):zh (.call k a)=zh a:=rfl
@[simp]theorem Jh(a:Ex):zh (.neg a)=zh a:=rfl
@[simp]theorem Jg(a:Ex):zh (.lst a)=zh a:=rfl
def bN(R:Nat->Prop)(m:Me)(vs:List Nat)(de:aU)(env:En):Prop:=
 de.length=env.length/\∀i∈vs,∀d,de[i]?=some (some d)->∃w,env[i]?=some (some w)/\ah R m d w
def bN.up{R R':Nat->Prop}{m m':Me}{vs:List Nat}{de:aU}{env:En}(hR:∀l,R l->R' l)(h:Le m m')(q:bN R m vs de env):bN R' m' vs de env:=
 ⟨q.1,λi hi d z=>by
  obtain⟨w,a,b⟩:=q.2 i hi d z;exact⟨w,a,ah.frame (λl o r k=>⟨hR l r,h l o k⟩) d w b⟩⟩
def bN.sub{R:Nat->Prop}{m:Me}{vs us:List Nat}{de:aU}{env:En}(h:∀i∈us,i∈vs)(q:bN R m vs de env):bN R m us de env:=
 ⟨q.1,λi hi=>q.2 i (h i hi)⟩
def bN.left{R:Nat->Prop}{m:Me}{us vs:List Nat}{de:aU}{env:En}(q:bN R m (us++vs) de env):bN R m us de env:=q.sub λ_ h=>Wc _ h
def bN.right{R:Nat->Prop}{m:Me}{us vs:List Nat}{de:aU}{env:En}(q:bN R m (us++vs) de env):bN R m vs de env:=q.sub λ_ h=>QC _ h
set_option tactic.hygienic true in
def bN.push{R:Nat->Prop}{m:Me}{vs:List Nat}{de:aU}{env:En}{d:Dat}{w:Wd}(q:bN R m vs de env)(h:ah R m d w):bN R m vs (de++[some d]) (env++[some w]):=by
 refine⟨by simp[q.1],λi hi e z=>?_⟩;rw[List.getElem?_append]at z;split at z
 .next k=>
  obtain⟨w,a,b⟩:=q.2 i hi e z;exact⟨w,by rw[Qf (by rw[<-q.1];exact k)];exact a,b⟩
 .next k=>
  rw[Qd (by rw[<-q.1];lia),<-q.1];have:i-de.length=0:=by
   rcases Nat.eq_zero_or_pos (i-de.length)with z0|z0
   .exact z0
   .rw[QE (by simp;lia)]at z;cases z
  rw[this]at z ⊢;cases z;exact⟨w,rfl,h⟩
def bx(cl:Nat->List Wd->Me->Rz)(cd:Nat->List Dat->Rd):Prop:=∀(k:Nat) (ds:List Dat) (ws:List Wd) (R:Nat->Prop) (m:Me),aa R m ds ws->ae R m (cl k ws m) (cd k ds)
def yj (h:ah R m d w):aa R m (zD d) (zy w):=by
 cases d with
 |tup ds=>obtain⟨xs,rfl,q⟩:=af.mp h;exact q
 |non=>rw[az.mp h];exact .nil
 |bl _=>rw[ai.mp h];exact .nil
 |int _=>rw[ab.mp h];exact .nil
 |str _=>rw[aD.mp h];exact .nil
 |scr _=>rw[bj.mp h];exact .nil
 |lst _=>obtain⟨l,xs,rfl,_⟩:=aw.mp h;exact .nil
 |dct _ _=>obtain⟨l,xs,rfl,_⟩:=aT.mp h;exact .nil
theorem za (H:bx cl cd):∀(e:Ex) (R:Nat->Prop) (m:Me) (de:aU) (env:En),bN R m (zh e) de env->ae R m (ag cl e env m) (am cd e de)
 |.var i,R,m,de,env,q=>by
  cases z:de[i]? with
  |none=>rw[yV (.inl z)];exact ae.no
  |some o=>
   cases o with
   |none=>rw[yV (.inr z)];exact ae.no
   |some d=>
    obtain⟨w,a,b⟩:=q.2 i (Qq.mpr rfl) d z;rw[xO z,wm a];exact cS b
 |.lit w,R,m,de,env,q=>by
  cases w<;>first|exact ae.no|(exact cS (by unfold ah;rfl))
 |.bin op a b,R,m,de,env,q=>by
  refine(za H a R m de env q.left).bind λd w m1 l1 k1=>?_;refine(za H b _ m1 de env (q.right.up (λ_=>.inl) l1)).bind λd2 w2 m2 l2 k2=>?_;exact qf op (k1.up _ l2) k2
 |.neg a,R,m,de,env,q=>by
  refine(za H a R m de env q).bind λd w m1 l1 k1=>?_;cases d with
  |int i=>rw[ab.mp k1];exact ae.int
  |_=>exact ae.no
 |.not a,R,m,de,env,q=>by
  refine(za H a R m de env q).bind λd w m1 l1 k1=>?_;cases d with
  |bl i=>rw[ai.mp k1];exact ae.bl
  |_=>exact ae.no
 |.and a b,R,m,de,env,q=>by
  refine(za H a R m de env q.left).bind λd w m1 l1 k1=>?_;cases d with
  |bl i=>
   rw[ai.mp k1];cases i with
   |true=>exact za H b _ m1 de env (q.right.up (λ_=>.inl) l1)
   |false=>exact ae.bl
  |_=>exact ae.no
 |.or a b,R,m,de,env,q=>by
  refine(za H a R m de env q.left).bind λd w m1 l1 k1=>?_;cases d with
  |bl i=>
   rw[ai.mp k1];cases i with
   |false=>exact za H b _ m1 de env (q.right.up (λ_=>.inl) l1)
   |true=>exact ae.bl
  |_=>exact ae.no
 |.cmp op a b,R,m,de,env,q=>by
  refine(za H a R m de env q.left).bind λd w m1 l1 k1=>?_;refine(za H b _ m1 de env (q.right.up (λ_=>.inl) l1)).bind λd2 w2 m2 l2 k2=>?_;exact qh op (k1.up _ l2) k2
 |.chain o p a b c,R,m,de,env,q=>by
  refine(za H a R m de env q.left).bind λd w m1 l1 k1=>?_;refine(za H b _ m1 de env (q.right.left.up (λ_=>.inl) l1)).bind λd2 w2 m2 l2 k2=>?_;refine(qh o (k1.up _ l2) k2).bind λd3 w3 m3 l3 k3=>?_;cases d3 with
  |bl i=>
   rw[ai.mp k3];cases i with
   |false=>exact ae.bl
   |true=>
    refine(za H c _ m3 de env (q.right.right.up (λ_ h=>.inl (.inl (.inl h))) ((l1.trans l2).trans l3))).bind λd4 w4 m4 l4 k4=>?_;exact qh p ((k2.up _ l3).up _ l4) k4
  |_=>exact ae.no
 |.ife c a b,R,m,de,env,q=>by
  refine(za H c R m de env q.left).bind λd w m1 l1 k1=>?_;cases d with
  |bl i=>
   rw[ai.mp k1];cases i with
   |true=>exact za H a _ m1 de env (q.right.left.up (λ_=>.inl) l1)
   |false=>exact za H b _ m1 de env (q.right.right.up (λ_=>.inl) l1)
  |_=>exact ae.no
 |.unit,R,m,de,env,q=>by
  exact cS (af.mpr ⟨[],rfl,.nil⟩)
 |.pair a b,R,m,de,env,q=>by
  refine(za H a R m de env q.left).bind λd w m1 l1 k1=>?_;refine(za H b _ m1 de env (q.right.up (λ_=>.inl) l1)).bind λd2 w2 m2 l2 k2=>?_;exact cS (af.mpr ⟨_,rfl,.cons (k1.up _ l2) (yj k2)⟩)
 |.call k a,R,m,de,env,q=>by
  refine(za H a R m de env q).bind λd w m1 l1 k1=>?_;exact H k _ _ _ m1 (yj k1)
 |.blt b a,R,m,de,env,q=>by
  refine(za H a R m de env q).bind λd w m1 l1 k1=>?_;exact DV b (yj k1)
 |.isi t a,R,m,de,env,q=>by
  refine(za H a R m de env q).bind λd w m1 l1 k1=>?_;exact Dl t k1
 |.lst a,R,m,de,env,q=>by
  refine(za H a R m de env q).bind λd w m1 l1 k1=>?_;exact ae.new (yj k1)
 |.tup a,R,m,de,env,q=>by
  refine(za H a R m de env q).bind λd w m1 l1 k1=>?_;have k2:=yj k1;simp only[k2.len];split
  .exact cS (af.mpr ⟨_,rfl,k2⟩)
  .exact ae.no
 |.dict0,R,m,de,env,q=>by
  exact⟨_,_,rfl,Le.app m _,aT.mpr ⟨_,[],rfl,.inr (Qh _),by simp,.nil⟩⟩
 |.dget a b,R,m,de,env,q=>by
  refine(za H a R m de env q.left).bind λd w m1 l1 k1=>?_;refine(za H b _ m1 de env (q.right.up (λ_=>.inl) l1)).bind λd2 w2 m2 l2 k2=>?_;exact sC (k1.up _ l2) k2
 |.dop k a b c,R,m,de,env,q=>by
  refine(za H a R m de env q.left).bind λd w m1 l1 k1=>?_;cases hb:lh k d with
  |false=>exact ae.no
  |true=>
   rw[Eb k1 hb];refine(za H b _ m1 de env (q.right.left.up (λ_=>.inl) l1)).bind λd2 w2 m2 l2 k2=>?_;refine(za H c _ m2 de env ((q.right.right.up (λ_=>.inl) l1).up (λ_=>.inl) l2)).bind λd3 w3 m3 l3 k3=>?_;exact DT k ((k1.up _ l2).up _ l3) (k2.up _ l3) k3
 |.idx a b,R,m,de,env,q=>by
  refine(za H a R m de env q.left).bind λd w m1 l1 k1=>?_;refine(za H b _ m1 de env (q.right.up (λ_=>.inl) l1)).bind λd2 w2 m2 l2 k2=>?_;exact DU (k1.up _ l2) k2
 |.slL a b,R,m,de,env,q=>by
  refine(za H a R m de env q.left).bind λd w m1 l1 k1=>?_;refine(za H b _ m1 de env (q.right.up (λ_=>.inl) l1)).bind λd2 w2 m2 l2 k2=>?_;cases d2 with
  |int i=>rw[ab.mp k2];exact AI _ _ (k1.up _ l2)
  |_=>exact ae.no
 |.meth _ _ _,R,m,de,env,q=>by
  exact ae.no
 |.rng a b c,R,m,de,env,q=>by
  refine(za H a R m de env q.left).bind λd w m1 l1 k1=>?_;refine(za H b _ m1 de env (q.right.left.up (λ_=>.inl) l1)).bind λd2 w2 m2 l2 k2=>?_;refine(za H c _ m2 de env (q.right.right.up (λ_ h=>.inl (.inl h)) (l1.trans l2))).bind λd3 w3 m3 l3 k3=>?_;exact DS ((k1.up _ l2).up _ l3) (k2.up _ l3) k3
 |.comp elt it cond,R,m,de,env,q=>by
  refine(za H it R m de env q.left).bind λd w m1 l1 k1=>?_;have hc:∀(R':Nat->Prop) m' d x,(∀l,Rf R m.length l->R' l)->Le m1 m'->ah R' m' d x->ae R' m' (ag cl cond (env++[some x]) m') (am cd cond (de++[some d])):=
   λR' m' d x hR l k=>za H cond R' m' _ _ ((q.right.right.up (λl h=>hR l (.inl h)) (l1.trans l)).push k)
  have he:∀(R':Nat->Prop) m' d x,(∀l,Rf R m.length l->R' l)->Le m1 m'->ah R' m' d x->ae R' m' (ag cl elt (env++[some x]) m') (am cd elt (de++[some d])):=
   λR' m' d x hR l k=>za H elt R' m' _ _ ((q.right.left.up (λl h=>hR l (.inl h)) (l1.trans l)).push k)
  cases d with
  |tup ds=>
   obtain⟨xs,rfl,k2⟩:=af.mp k1;exact wG hc he ds xs [] [] _ m1 (λ_ h=>h) (Le.refl _) k2 .nil
  |scr ns=>
   rw[bj.mp k1];exact wG hc he (ns.map .int) (ns.map .int) [] [] _ m1 (λ_ h=>h) (Le.refl _) (en ns) .nil
  |lst ds=>
   obtain⟨l,xs,rfl,_,hm,k2⟩:=aw.mp k1;simp only[cI];by_cases z:ds.length<=aq
   .rw[Mk z];have hl:=k2.len;exact v6 hm hc he ds 0 (aq+1) [] [] _ m1 (λ_ h=>h) (Le.refl _) (by simpa using k2) (by lia) (by lia) .nil
   .rw[Ml z];exact ae.no
  |_=>exact ae.no
 |.compP k elt a b cond,R,m,de,env,q=>by
  refine(za H a R m de env q.left).bind λd w m1 l1 k1=>?_;refine(za H b _ m1 de env (q.right.left.up (λl h=>.inl h) l1)).bind λd' w' m2 l2 k2=>?_;have hc:∀(R':Nat->Prop) m' (p:Dat×Dat) x y,(∀l,Rf (Rf R m.length) m1.length l->R' l)->Le m2 m'->ah R' m' p.1 x->ah R' m' p.2 y->ae R' m' (ag cl cond (env++[some x]++[some y]) m') (am cd cond (de++[some p.1]++[some p.2])):=
   λR' m' d x y hR l k k'=>za H cond R' m' _ _ (((q.right.right.right.up (λl h=>hR l (.inl (.inl h))) ((l1.trans l2).trans l)).push k).push k')
  have he:∀(R':Nat->Prop) m' (p:Dat×Dat) x y,(∀l,Rf (Rf R m.length) m1.length l->R' l)->Le m2 m'->ah R' m' p.1 x->ah R' m' p.2 y->ae R' m' (ag cl elt (env++[some x]++[some y]) m') (am cd elt (de++[some p.1]++[some p.2])):=
   λR' m' d x y hR l k k'=>za H elt R' m' _ _ (((q.right.right.left.up (λl h=>hR l (.inl (.inl h))) ((l1.trans l2).trans l)).push k).push k')
  cases e:yw k d d' with
  |none=>exact ae.no
  |some ps=>
   obtain⟨pr,hl⟩:=wH e (k1.up _ l2) k2;exact v7 pr hc he ps 0 (aq+1) [] [] _ m2 (λ_ h=>h) (Le.refl _) (by simp) (by simp) (by lia) .nil
mutual
noncomputable def bi(m:Me):Dat->Wd->List Nat->Prop
 |.non,w,A=>w=.non/\A=[]
 |.bl b,w,A=>w=.bl b/\A=[]
 |.int i,w,A=>w=.int i/\A=[]
 |.str s,w,A=>w=.str s/\A=[]
 |.scr ns,w,A=>w=.rol (ns.map Wd.int)/\A=[]
 |.tup ds,w,A=>∃xs,w=.tup xs/\ao m ds xs A
 |.lst ds,w,A=>∃l xs B,w=.ref l/\A=l::B/\m[l]?=some (.lst xs)/\ao m ds xs B
 |.dct ks ds,w,A=>∃l xs B,w=.ref l/\A=l::B/\m[l]?=some (.dct ks xs)/\ao m ds xs B
noncomputable def ao(m:Me):List Dat->List Wd->List Nat->Prop
 |[],xs,A=>xs=[]/\A=[]
 |d::ds,xs,A=>∃x r B C,xs=x::r/\A=B++C/\bi m d x B/\ao m ds r C
end
def bn:bi m (.lst ds) w A↔∃l xs B,w=.ref l/\A=l::B/\m[l]?=some (.lst xs)/\ao m ds xs B:=by
 constructor
 .intro h;unfold bi at h;exact h
 .intro h;unfold bi;exact h
def bT:bi m (.dct ks ds) w A↔∃l xs B,w=.ref l/\A=l::B/\m[l]?=some (.dct ks xs)/\ao m ds xs B:=by
 constructor
 .intro h;unfold bi at h;exact h
 .intro h;unfold bi;exact h
def bC:bi m (.tup ds) w A↔∃xs,w=.tup xs/\ao m ds xs A:=by
 constructor
 .intro h;unfold bi at h;exact h
 .intro h;unfold bi;exact h
def ao.cons_inv (h:ao m (d::ds) xs A):∃x r B C,xs=x::r/\A=B++C/\bi m d x B/\ao m ds r C:=by unfold ao at h;exact h
def ao.nil_inv (h:ao m [] xs A):xs=[]/\A=[]:=by unfold ao at h;exact h
def ao.nil{m:Me}:ao m [] [] []:=by unfold ao;exact⟨rfl,rfl⟩
def ao.cons{m:Me}{d:Dat}{ds:List Dat}{x:Wd}{xs:List Wd}{B C:List Nat}(a:bi m d x B)(b:ao m ds xs C):ao m (d::ds) (x::xs) (B++C):=by
 unfold ao;exact⟨x,xs,B,C,rfl,rfl,a,b⟩
theorem ao.app:∀{ds es:List Dat}{xs ys:List Wd}{A B:List Nat},ao m ds xs A->ao m es ys B->ao m (ds++es) (xs++ys) (A++B)
 |[],es,xs,ys,A,B,a,b=>by rw[a.nil_inv.1,a.nil_inv.2];exact b
 |d::ds,es,xs,ys,A,B,a,b=>by
  obtain⟨x,r,P,Q,rfl,rfl,p,q⟩:=a.cons_inv;rw[Qj];exact .cons p (ao.app q b)
mutual
theorem bi.frame{m m':Me}:∀(d:Dat) (w:Wd) (A:List Nat),(∀l∈A,∀o,m[l]?=some o->m'[l]?=some o)->bi m d w A->bi m' d w A
 |.non,w,A,h,q=>by unfold bi at q ⊢;exact q
 |.bl _,w,A,h,q=>by unfold bi at q ⊢;exact q
 |.int _,w,A,h,q=>by unfold bi at q ⊢;exact q
 |.str _,w,A,h,q=>by unfold bi at q ⊢;exact q
 |.scr _,w,A,h,q=>by unfold bi at q ⊢;exact q
 |.tup ds,w,A,h,q=>by
  obtain⟨xs,rfl,q1⟩:=bC.mp q;exact bC.mpr ⟨xs,rfl,ao.frame ds xs A h q1⟩
 |.lst ds,w,A,h,q=>by
  obtain⟨l,xs,B,rfl,rfl,hm,q1⟩:=bn.mp q;exact bn.mpr ⟨l,xs,B,rfl,rfl,h l QW _ hm,ao.frame ds xs B (λl hl=>h l (Qk _ hl)) q1⟩
 |.dct ks ds,w,A,h,q=>by
  obtain⟨l,xs,B,rfl,rfl,hm,q1⟩:=bT.mp q;exact bT.mpr ⟨l,xs,B,rfl,rfl,h l QW _ hm,ao.frame ds xs B (λl hl=>h l (Qk _ hl)) q1⟩
theorem ao.frame{m m':Me}:∀(ds:List Dat) (xs:List Wd) (A:List Nat),(∀l∈A,∀o,m[l]?=some o->m'[l]?=some o)->ao m ds xs A->ao m' ds xs A
 |[],xs,A,h,q=>by rw[q.nil_inv.1,q.nil_inv.2];exact .nil
 |d::ds,xs,A,h,q=>by
  obtain⟨x,r,B,C,rfl,rfl,a,b⟩:=q.cons_inv;exact .cons (bi.frame d x B (λl hl=>h l (Wc _ hl)) a) (ao.frame ds r C (λl hl=>h l (QC _ hl)) b)
end
mutual
theorem bi.rep{m:Me}{R:Nat->Prop}:∀(d:Dat) (w:Wd) (A:List Nat),(∀l∈A,R l)->bi m d w A->ah R m d w
 |.non,w,A,h,q=>by unfold bi at q;exact az.mpr q.1
 |.bl _,w,A,h,q=>by unfold bi at q;exact ai.mpr q.1
 |.int _,w,A,h,q=>by unfold bi at q;exact ab.mpr q.1
 |.str _,w,A,h,q=>by unfold bi at q;exact aD.mpr q.1
 |.scr _,w,A,h,q=>by unfold bi at q;exact bj.mpr q.1
 |.tup ds,w,A,h,q=>by
  obtain⟨xs,rfl,q1⟩:=bC.mp q;exact af.mpr ⟨xs,rfl,ao.rep ds xs A h q1⟩
 |.lst ds,w,A,h,q=>by
  obtain⟨l,xs,B,rfl,rfl,hm,q1⟩:=bn.mp q;exact aw.mpr ⟨l,xs,rfl,h l QW,hm,ao.rep ds xs B (λl hl=>h l (Qk _ hl)) q1⟩
 |.dct ks ds,w,A,h,q=>by
  obtain⟨l,xs,B,rfl,rfl,hm,q1⟩:=bT.mp q;exact aT.mpr ⟨l,xs,rfl,h l QW,hm,ao.rep ds xs B (λl hl=>h l (Qk _ hl)) q1⟩
theorem ao.rep{m:Me}{R:Nat->Prop}:∀(ds:List Dat) (xs:List Wd) (A:List Nat),(∀l∈A,R l)->ao m ds xs A->aa R m ds xs
 |[],xs,A,h,q=>by rw[q.nil_inv.1];exact .nil
 |d::ds,xs,A,h,q=>by
  obtain⟨x,r,B,C,rfl,rfl,a,b⟩:=q.cons_inv;exact .cons (bi.rep d x B (λl hl=>h l (Wc _ hl)) a) (ao.rep ds r C (λl hl=>h l (QC _ hl)) b)
end
mutual
theorem bi.lt{m:Me}:∀(d:Dat) (w:Wd) (A:List Nat),bi m d w A->∀l∈A,l<m.length
 |.non,w,A,q=>by unfold bi at q;rw[q.2];simp
 |.bl _,w,A,q=>by unfold bi at q;rw[q.2];simp
 |.int _,w,A,q=>by unfold bi at q;rw[q.2];simp
 |.str _,w,A,q=>by unfold bi at q;rw[q.2];simp
 |.scr _,w,A,q=>by unfold bi at q;rw[q.2];simp
 |.tup ds,w,A,q=>by
  obtain⟨xs,rfl,q1⟩:=bC.mp q;exact ao.lt ds xs A q1
 |.lst ds,w,A,q=>by
  obtain⟨l,xs,B,rfl,rfl,hm,q1⟩:=bn.mp q;intro k hk;rcases Qn.mp hk with rfl|hk
  .exact (Qa.mp hm).1
  .exact ao.lt ds xs B q1 k hk
 |.dct ks ds,w,A,q=>by
  obtain⟨l,xs,B,rfl,rfl,hm,q1⟩:=bT.mp q;intro k hk;rcases Qn.mp hk with rfl|hk
  .exact (Qa.mp hm).1
  .exact ao.lt ds xs B q1 k hk
theorem ao.lt{m:Me}:∀(ds:List Dat) (xs:List Wd) (A:List Nat),ao m ds xs A->∀l∈A,l<m.length
 |[],xs,A,q=>by rw[q.nil_inv.2];simp
 |d::ds,xs,A,q=>by
  obtain⟨x,r,B,C,rfl,rfl,a,b⟩:=q.cons_inv;intro k hk;rcases Qx.mp hk with hk|hk
  .exact bi.lt d x B a k hk
  .exact ao.lt ds r C b k hk
end
mutual
theorem ah.flat{R:Nat->Prop}{m m':Me}:∀(d:Dat) (w:Wd),ax d=true->ah R m d w->bi m' d w []
 |.non,w,h,q=>by unfold bi;exact⟨az.mp q,rfl⟩
 |.bl _,w,h,q=>by unfold bi;exact⟨ai.mp q,rfl⟩
 |.int _,w,h,q=>by unfold bi;exact⟨ab.mp q,rfl⟩
 |.str _,w,h,q=>by unfold bi;exact⟨aD.mp q,rfl⟩
 |.scr _,w,h,q=>by unfold bi;exact⟨bj.mp q,rfl⟩
 |.tup ds,w,h,q=>by
  obtain⟨xs,rfl,q1⟩:=af.mp q;exact bC.mpr ⟨xs,rfl,aa.flat ds xs (by unfold Vl.ax at h;exact h) q1⟩
 |.lst ds,w,h,q=>by unfold Vl.ax at h;cases h
 |.dct ks ds,w,h,q=>by unfold Vl.ax at h;cases h
theorem aa.flat{R:Nat->Prop}{m m':Me}:∀(ds:List Dat) (xs:List Wd),aW ds=true->aa R m ds xs->ao m' ds xs []
 |[],xs,h,q=>by rw[q.nil_inv];exact .nil
 |d::ds,xs,h,q=>by
  obtain⟨x,r,rfl,a,b⟩:=q.cons_inv;unfold aW at h;rw[Qm]at h;exact ao.cons (B:=[]) (C:=[]) (ah.flat d x h.1 a) (aa.flat ds r h.2 b)
end
def bz(R:Nat->Prop)(m:Me)(lv:Lv)(d:Dat)(w:Wd)(A:List Nat):Prop:=match lv with
 |.no=>ah R m d w/\A=[]
 |.top=>∃ds l xs,d=.lst ds/\w=.ref l/\A=[l]/\m[l]?=some (.lst xs)/\aa R m ds xs
 |.full=>bi m d w A
theorem bz.rep (h:∀l,R l->R' l)(k:∀l∈A,R' l)(q:bz R m lv d w A):ah R' m d w:=by
 cases lv with
 |no=>exact ah.frame (λl o r z=>⟨h l r,z⟩) d w q.1
 |top=>
  obtain⟨ds,l,xs,rfl,rfl,rfl,hm,a⟩:=q;exact aw.mpr ⟨l,xs,rfl,k l (by simp),hm,aa.frame (λl o r z=>⟨h l r,z⟩) ds xs a⟩
 |full=>exact bi.rep d w A k q
theorem bz.frame{R R':Nat->Prop}{m m':Me}{lv:Lv}{d:Dat}{w:Wd}{A:List Nat}(h:∀(l:Nat) o,R l->m[l]?=some o->R' l/\m'[l]?=some o)(k:∀l∈A,∀o,m[l]?=some o->m'[l]?=some o)(q:bz R m lv d w A):bz R' m' lv d w A:=by
 cases lv with
 |no=>exact⟨ah.frame h d w q.1,q.2⟩
 |top=>
  obtain⟨ds,l,xs,rfl,rfl,rfl,hm,a⟩:=q;exact⟨ds,l,xs,rfl,rfl,rfl,k l (by simp) _ hm,aa.frame h ds xs a⟩
 |full=>exact bi.frame d w A k q
theorem bz.lt (q:bz R m lv d w A):∀l∈A,l<m.length:=by
 cases lv with
 |no=>rw[q.2];simp
 |top=>
  obtain⟨ds,l,xs,rfl,rfl,rfl,hm,a⟩:=q;intro k hk;rw[Qq.mp hk];exact(Qa.mp hm).1
 |full=>exact bi.lt d w A q
noncomputable def a9(lev:Nat->Lv):Ex->Dat->Lv
 |.comp elt _ _,d=>if ax d then .full else match d with
  |.lst ds=>if ds.all (λx=>a9 lev elt x == .full)then .full else .top
  |_=>.no
 |.compP _ elt _ _ _,d=>if ax d then .full else match d with
  |.lst ds=>if ds.all (λx=>a9 lev elt x == .full)then .full else .top
  |_=>.no
 |.lst a,d=>if ax d then .full else match d with
  |.lst ds=>if a9 lev a (.tup ds) == .full then .full else .top
  |_=>.no
 |.tup a,d=>a9 lev a d
 |.pair a b,d=>if ax d then .full else match d with
  |.tup (x::ds)=>if a9 lev a x == .full&&a9 lev b (.tup ds) == .full then .full else .no
  |_=>.no
 |.call k _,d=>if ax d then .full else lev k
 |.blt .list _,d=>if ax d then .full else match d with
  |.lst ds=>if aW ds then .full else .top
  |_=>.no
 |.slL _ _,d=>if ax d then .full else match d with
  |.lst ds=>if aW ds then .full else .top
  |_=>.no
 |.bin _ _ _,d=>if ax d then .full else match d with
  |.lst ds=>if aW ds then .full else .top
  |_=>.no
 |.dict0,d=>if ax d then .full else match d with
  |.dct _ []=>.full
  |_=>.no
 |_,d=>if ax d then .full else .no
@[simp]theorem Jf(lev:Nat->Lv)(d:Dat):a9 lev .dict0 d=if ax d then .full else match d with
  |.dct _ []=>.full
  |_=>.no:=rfl
@[simp]theorem Iq(lev:Nat->Lv)(a b:Ex)(d:Dat):a9 lev (.dget a b) d=if ax d then .full else .no:=rfl
@[simp]theorem Ip(lev:Nat->Lv)(e i c:Ex)(d:Dat):a9 lev (.comp e i c) d=if ax d then .full else match d with
  |.lst ds=>if ds.all (λx=>a9 lev e x == .full)then .full else .top
  |_=>.no:=rfl
@[simp]theorem Ea(lev:Nat->Lv)(k:Kd)(e a b c:Ex)(d:Dat):a9 lev (.compP k e a b c) d=if ax d then .full else match d with
  |.lst ds=>if ds.all (λx=>a9 lev e x == .full)then .full else .top
  |_=>.no:=rfl
@[simp]theorem IP(lev:Nat->Lv)(a:Ex)(d:Dat):a9 lev (.lst a) d=if ax d then .full else match d with
  |.lst ds=>if a9 lev a (.tup ds) == .full then .full else .top
  |_=>.no:=rfl
@[simp]theorem IN(lev:Nat->Lv)(a:Ex)(d:Dat):a9 lev (.tup a) d=a9 lev a d:=rfl
@[simp]theorem sf(lev:Nat->Lv)(a b:Ex)(d:Dat):a9 lev (.pair a b) d=if ax d then .full else match d with
  |.tup (x::ds)=>if a9 lev a x == .full&&a9 lev b (.tup ds) == .full then .full else .no
  |_=>.no:=rfl
@[simp]theorem Io(lev:Nat->Lv)(k:Nat)(a:Ex)(d:Dat):a9 lev (.call k a) d=if ax d then .full else lev k:=rfl
@[simp]theorem Im(lev:Nat->Lv)(a:Ex)(d:Dat):a9 lev (.blt .list a) d=if ax d then .full else match d with
  |.lst ds=>if aW ds then .full else .top
  |_=>.no:=rfl
@[simp]theorem IM(lev:Nat->Lv)(a b:Ex)(d:Dat):a9 lev (.slL a b) d=if ax d then .full else match d with
  |.lst ds=>if aW ds then .full else .top
  |_=>.no:=rfl
@[simp]theorem IL(lev:Nat->Lv)(op:Bo)(a b:Ex)(d:Dat):a9 lev (.bin op a b) d=if ax d then .full else match d with
  |.lst ds=>if aW ds then .full else .top
  |_=>.no:=rfl
@[simp]theorem IK(lev:Nat->Lv)(i:Nat)(d:Dat):a9 lev (.var i) d=if ax d then .full else .no:=rfl
@[simp]theorem IJ(lev:Nat->Lv)(w:Wd)(d:Dat):a9 lev (.lit w) d=if ax d then .full else .no:=rfl
@[simp]theorem II(lev:Nat->Lv)(a b:Ex)(d:Dat):a9 lev (.idx a b) d=if ax d then .full else .no:=rfl
@[simp]theorem IH(lev:Nat->Lv)(a:Ex)(d:Dat):a9 lev (.neg a) d=if ax d then .full else .no:=rfl
@[simp]theorem IG(lev:Nat->Lv)(a:Ex)(d:Dat):a9 lev (.not a) d=if ax d then .full else .no:=rfl
@[simp]theorem IF(lev:Nat->Lv)(a b:Ex)(d:Dat):a9 lev (.and a b) d=if ax d then .full else .no:=rfl
@[simp]theorem tN(lev:Nat->Lv)(a b:Ex)(d:Dat):a9 lev (.or a b) d=if ax d then .full else .no:=rfl
@[simp]theorem IE(lev:Nat->Lv)(op:Co)(a b:Ex)(d:Dat):a9 lev (.cmp op a b) d=if ax d then .full else .no:=rfl
@[simp]theorem ID(lev:Nat->Lv)(c a b:Ex)(d:Dat):a9 lev (.ife c a b) d=if ax d then .full else .no:=rfl
@[simp]theorem Il(lev:Nat->Lv)(d:Dat):a9 lev (.unit) d=if ax d then .full else .no:=rfl
@[simp]theorem IC(lev:Nat->Lv)(t:Tg)(a:Ex)(d:Dat):a9 lev (.isi t a) d=if ax d then .full else .no:=rfl
@[simp]theorem IB(lev:Nat->Lv)(a b c:Ex)(d:Dat):a9 lev (.rng a b c) d=if ax d then .full else .no:=rfl
@[simp]theorem Ik(lev:Nat->Lv)(a:Ex)(d:Dat):a9 lev (.blt .len a) d=if ax d then .full else .no:=rfl
@[simp]theorem Ij(lev:Nat->Lv)(a:Ex)(d:Dat):a9 lev (.blt .int a) d=if ax d then .full else .no:=rfl
@[simp]theorem JE(lev:Nat->Lv)(a:Ex)(d:Dat):a9 lev (.blt .tuple a) d=if ax d then .full else .no:=rfl
@[simp]theorem Ii(lev:Nat->Lv)(a:Ex)(d:Dat):a9 lev (.blt .sum a) d=if ax d then .full else .no:=rfl
def aJ(R:Nat->Prop)(m:Me)(lv:Dat->Lv)(r:Rz)(rd:Rd):Prop:=match rd with
 |.ok d=>∃w m' A,r=.ok w m'/\Le m m'/\bz (λl=>Rf R m.length l/\l∉A) m' (lv d) d w A/\A.Nodup/\∀a∈A,m.length<=a
 |.exc c d=>∃w m',r=.exc c w m'/\Le m m'/\ah (Rf R m.length) m' d w
 |.no=>True
def wq(lev:Nat->Lv)(k:Nat)(d:Dat):Lv:=if ax d then .full else lev k
def bG(lev:Nat->Lv)(cl:Nat->List Wd->Me->Rz)(cd:Nat->List Dat->Rd):Prop:=∀(k:Nat) (ds:List Dat) (ws:List Wd) (R:Nat->Prop) (m:Me),aa R m ds ws->aJ R m (wq lev k) (cl k ws m) (cd k ds)
def aJ.sim (h:aJ R m lv r rd):ae R m r rd:=by
 cases rd with
 |ok d=>
  obtain⟨w,m',A,rfl,l,q,_,hA⟩:=h;exact⟨w,m',rfl,l,q.rep (λ_ z=>z.1) (λa z=>.inr (hA a z))⟩
 |exc c d=>exact h
 |no=>trivial
def bG.r (H:bG lev cl cd):bx cl cd:=λk ds ws R m q=>(H k ds ws R m q).sim
set_option tactic.hygienic true in
def ae.own (h:ae R m r rd)(hl:∀d,lv d=if ax d then .full else .no):aJ R m lv r rd:=by
 cases rd with
 |ok d=>
  obtain⟨w,m',rfl,l,q⟩:=h;refine⟨w,m',[],rfl,l,?_,QK,by simp⟩;rw[hl];split
  .next z=>exact q.flat d w z
  .exact ⟨ah.frame (λl o r z=>⟨⟨r,by simp⟩,z⟩) d w q,rfl⟩
 |exc c d=>exact h
 |no=>trivial
theorem aJ.lift{R:Nat->Prop}{m m1:Me}{r:Rz}{rd:Rd}{lv:Dat->Lv}(h:Le m m1)(q:aJ (Rf R m.length) m1 lv r rd):aJ R m lv r rd:=by
 have hl:=h.len;cases rd with
 |ok d=>
  obtain⟨w,m',A,rfl,k,z,nd,hA⟩:=q;exact⟨w,m',A,rfl,h.trans k,z.frame (λl o r z=>⟨⟨by rcases r.1 with (r|r)|r;exact .inl r;exact .inr r;exact .inr (by lia),r.2⟩,z⟩) (λ_ _ _ z=>z),nd,λa ha=>by have:=hA a ha;lia⟩
 |exc c d=>exact ae.lift (rd:=.exc c d) h q
 |no=>trivial
def ae.bindO (h:ae R m r rd)(k:∀d w m',Le m m'->ah (Rf R m.length) m' d w->aJ (Rf R m.length) m' lv (f w m') (g d)):aJ R m lv (r.bind f) (rd.bind g):=by
 cases rd with
 |ok d=>obtain⟨w,m',rfl,l,z⟩:=h;exact aJ.lift l (k d w m' l z)
 |exc c d=>obtain⟨w,m',rfl,l,z⟩:=h;exact⟨w,m',rfl,l,z⟩
 |no=>trivial
theorem aJ.no{R:Nat->Prop}{m:Me}{r:Rz}{lv:Dat->Lv}:aJ R m lv r .no:=trivial
set_option tactic.hygienic true in
def aJ.new{R:Nat->Prop}{m:Me}{ds:List Dat}{xs:List Wd}{lv:Dat->Lv}(h:aa R m ds xs)(hl:∀es,lv (.lst es)=if aW es then .full else .top):aJ R m lv (alloc m xs) (bu ds):=by
 unfold bu alloc;rw[h.len];by_cases z:xs.length<=aq
 .rw[Mk z,Mk z];refine⟨_,_,[m.length],rfl,Le.app m _,?_,by simp,by simp⟩;rw[hl];split
  .next f=>exact bn.mpr ⟨_,xs,[],rfl,rfl,by simp,h.flat ds xs f⟩
  .refine ⟨ds,_,xs,rfl,rfl,rfl,by simp,aa.frame (λl o r z=>⟨⟨.inl r,?_⟩,Le.app m _ l o z⟩) ds xs h⟩;have:=(Qa.mp z).1;simp;lia
 .rw[Ml z,Ml z];exact aJ.no
def nJ (hm:Le m0 m)(h:ao m ds xs A)(nd:A.Nodup)(hA:∀a∈A,m0.length<=a)(hl:lv (.lst ds)=.full)(hlen:ds.length=xs.length):aJ R m0 lv (alloc m xs) (bu ds):=by
 unfold bu alloc;rw[hlen];have hlt:=h.lt;by_cases z:xs.length<=aq
 .rw[Mk z,Mk z];refine⟨_,_,m.length::A,rfl,hm.trans (Le.app m _),?_,QR.mpr ⟨λq=>by have:=hlt _ q;lia,nd⟩,?_⟩
  .rw[hl];exact bn.mpr ⟨_,xs,A,rfl,rfl,by simp,ao.frame ds xs A (λl hl o q=>Le.app m _ l o q) h⟩
  .intro a ha;rcases Qn.mp ha with rfl|ha
   .exact hm.len
   .exact hA a ha
 .rw[Ml z,Ml z];exact aJ.no
theorem ao.len:∀{ds:List Dat}{xs:List Wd}{A:List Nat},ao m ds xs A->ds.length=xs.length
 |[],xs,A,q=>by rw[q.nil_inv.1];rfl
 |d::ds,xs,A,q=>by
  obtain⟨x,r,B,C,rfl,rfl,a,b⟩:=q.cons_inv;simp[ao.len b]
def df(R:Nat->Prop)(m:Me)(lv:Dat->Lv)(r:Rz)(rd:Rd):Prop:=match rd with
 |.ok d=>∃out m2 outx,d=.lst out/\out.length<=aq/\r=alloc m2 outx/\Le m m2/\aa (Rf R m.length) m2 out outx/\((∀y∈out,lv y=.full)->∃A,ao m2 out outx A/\A.Nodup/\∀a∈A,m.length<=a)
 |.exc c d=>∃w m',r=.exc c w m'/\Le m m'/\ah (Rf R m.length) m' d w
 |.no=>True
def cE(m0 m:Me)(lv:Dat->Lv)(acc:List Dat)(acx:List Wd):Prop:=(∀y∈acc,lv y=.full)->∃A,ao m acc acx A/\A.Nodup/\∀a∈A,m0.length<=a
def cE.up{m0 m m':Me}{lv:Dat->Lv}{acc:List Dat}{acx:List Wd}(h:Le m m')(q:cE m0 m lv acc acx):cE m0 m' lv acc acx:=λz=>by
 obtain⟨A,a,b,c⟩:=q z;exact⟨A,ao.frame acc acx A (λl _ o k=>h l o k) a,b,c⟩
def cE.push{m0 m m':Me}{lv:Dat->Lv}{acc:List Dat}{acx:List Wd}{d:Dat}{w:Wd}{B:List Nat}(hm:Le m0 m)(h:Le m m')(q:cE m0 m lv acc acx)(z:lv d=.full->bi m' d w B)(nd:B.Nodup)(hB:∀b∈B,m.length<=b):cE m0 m' lv (acc++[d]) (acx++[w]):=λf=>by
 obtain⟨A,a,b,c⟩:=q λy hy=>f y (Wc _ hy);refine⟨A++(B++[]),(ao.frame acc acx A (λl _ o k=>h l o k) a).app (.cons (z (f d (by simp))) .nil),?_,?_⟩
 .rw[QZ];refine QN.mpr ⟨b,nd,λx hx y hy e=>?_⟩;have:=ao.lt acc acx A a x hx;have:=hB y hy;lia
 .intro x hx;rw[QZ]at hx;rcases Qx.mp hx with hx|hx
  .exact c x hx
  .have:=hB x hx;have:=hm.len;lia
theorem wI (hc:∀(R':Nat->Prop) m d x,(∀l,R l->R' l)->Le m0 m->ah R' m d x->ae R' m (c x m) (cd d))(he:∀(R':Nat->Prop) m d x,(∀l,R l->R' l)->Le m0 m->ah R' m d x->aJ R' m lv (e x m) (ed d)):
  ∀(ds:List Dat) (xs:List Wd) (acc:List Dat) (acx:List Wd) (m:Me),Le m0 m->aa (Rf R m0.length) m ds xs->aa (Rf R m0.length) m acc acx->cE m0 m lv acc acx->df R m0 lv (y8 c e xs acx m) (zM cd ed ds acc)
 |[],xs,acc,acx,m,hm,a,b,f=>by
  rw[a.nil_inv];unfold y8 zM bu;by_cases z:acc.length<=aq
  .rw[Mk z];exact⟨acc,m,acx,rfl,z,rfl,hm,b,f⟩
  .rw[Ml z];trivial
 |d::ds,xs,acc,acx,m,hm,a,b,f=>by
  obtain⟨x,r,rfl,p,q⟩:=a.cons_inv;have hl:=hm.len;have sh:∀{n:Nat}{m':Me}{d:Dat}{w:Wd},m0.length<=n->ah (Rf (Rf R m0.length) n) m' d w->ah (Rf R m0.length) m' d w:=λhn k=>ah.frame (λl o r z=>⟨by rcases r with (r|r)|r;exact .inl r;exact .inr r;exact .inr (by lia),z⟩) _ _ k;unfold y8 zM;have h1:=hc _ m d x (λl z=>.inl z) hm p;cases e1:cd d with
  |no=>trivial
  |exc k t=>rw[e1]at h1;obtain⟨w,m',h1,l1,k1⟩:=h1;rw[h1];exact⟨w,m',rfl,hm.trans l1,sh hl k1⟩
  |ok t=>
   rw[e1]at h1;obtain⟨w,m1,h1,l1,k1⟩:=h1;rw[h1];simp only[Rz.bind,Rd.bind];cases t with
   |bl t=>
    rw[ai.mp k1];have fr:∀{ds:List Dat}{xs:List Wd},aa (Rf R m0.length) m ds xs->aa (Rf R m0.length) m1 ds xs:=λk=>aa.frame (λl o r z=>⟨r,l1 l o z⟩) _ _ k;cases t with
    |false=>exact wI hc he ds r acc acx m1 (hm.trans l1) (fr q) (fr b) (f.up l1)
    |true=>
     have h2:=he _ m1 d x (λl z=>.inl z) (hm.trans l1) (ah.frame (λl o r z=>⟨r,l1 l o z⟩) _ _ p);have hl1:=(hm.trans l1).len;simp only;cases e2:ed d with
     |no=>trivial
     |exc k t=>rw[e2]at h2;obtain⟨w,m',h2,l2,k2⟩:=h2;rw[h2];exact⟨w,m',rfl,(hm.trans l1).trans l2,sh hl1 k2⟩
     |ok y=>
      rw[e2]at h2;have h3:=h2.sim;obtain⟨w,m2,B,h2,l2,k2,nd,hB⟩:=h2;obtain⟨w',m2',h3,_,k3⟩:=h3;rw[h2]at h3 ⊢;cases h3;simp only[Rz.bind,Rd.bind,b.len];split
      .refine wI hc he ds r _ _ m2 ((hm.trans l1).trans l2) (aa.frame (λl o r z=>⟨r,l2 l o z⟩) _ _ (fr q)) ((aa.frame (λl o r z=>⟨r,l2 l o z⟩) _ _ (fr b)).app (.cons (sh hl1 k3) .nil)) ((f.up l1).push (hm.trans l1) l2 ?_ nd hB);intro z;rw[z]at k2;exact k2
      .trivial
   |_=>trivial
theorem v8 (hx0:m0[l]?=some (.lst xs0))(hc:∀(R':Nat->Prop) m d x,(∀l,R l->R' l)->Le m0 m->ah R' m d x->ae R' m (c x m) (cd d))(he:∀(R':Nat->Prop) m d x,(∀l,R l->R' l)->Le m0 m->ah R' m d x->aJ R' m lv (e x m) (ed d)):
  ∀(ds:List Dat) (i k:Nat) (acc:List Dat) (acx:List Wd) (m:Me),Le m0 m->aa (Rf R m0.length) m ds (xs0.drop i)->i+ds.length=xs0.length->ds.length<k->aa (Rf R m0.length) m acc acx->cE m0 m lv acc acx->df R m0 lv (y9 c e l k i acx m) (zM cd ed ds acc)
 |[],i,0,acc,acx,m,hm,a,hi,hk,b,f=>by simp at hk
 |d::ds,i,0,acc,acx,m,hm,a,hi,hk,b,f=>by simp at hk
 |[],i,k+1,acc,acx,m,hm,a,hi,hk,b,f=>by
  unfold y9 zM zj bu;rw[hm l _ hx0];simp only;rw[QE (by simp at hi;lia)];by_cases z:acc.length<=aq
  .rw[Mk z];exact⟨acc,m,acx,rfl,z,rfl,hm,b,f⟩
  .rw[Ml z];trivial
 |d::ds,i,k+1,acc,acx,m,hm,a,hi,hk,b,f=>by
  obtain⟨x,r,e0,p,q⟩:=a.cons_inv;have hx:xs0[i]?=some x:=by
   have:(xs0.drop i)[0]?=some x:=by rw[e0];rfl
   simpa using this
  have hr:r=xs0.drop (i+1):=by
   have:(xs0.drop i).drop 1=r:=by rw[e0];rfl
   rw[<-this,Wy]
  rw[hr]at q;have hi':i+1+ds.length=xs0.length:=by simp at hi;lia
  have hk':ds.length<k:=by simp at hk;lia
  have hl:=hm.len;have sh:∀{n:Nat}{m':Me}{d:Dat}{w:Wd},m0.length<=n->ah (Rf (Rf R m0.length) n) m' d w->ah (Rf R m0.length) m' d w:=λhn k=>ah.frame (λl o r z=>⟨by rcases r with (r|r)|r;exact .inl r;exact .inr r;exact .inr (by lia),z⟩) _ _ k;unfold y9 zM zj;rw[hm l _ hx0];simp only;rw[hx];simp only;have h1:=hc _ m d x (λl z=>.inl z) hm p;cases e1:cd d with
  |no=>trivial
  |exc k t=>rw[e1]at h1;obtain⟨w,m',h1,l1,k1⟩:=h1;rw[h1];exact⟨w,m',rfl,hm.trans l1,sh hl k1⟩
  |ok t=>
   rw[e1]at h1;obtain⟨w,m1,h1,l1,k1⟩:=h1;rw[h1];simp only[Rz.bind,Rd.bind];cases t with
   |bl t=>
    rw[ai.mp k1];have fr:∀{ds:List Dat}{xs:List Wd},aa (Rf R m0.length) m ds xs->aa (Rf R m0.length) m1 ds xs:=λk=>aa.frame (λl o r z=>⟨r,l1 l o z⟩) _ _ k;cases t with
    |false=>exact v8 hx0 hc he ds (i+1) k acc acx m1 (hm.trans l1) (fr q) hi' hk' (fr b) (f.up l1)
    |true=>
     have h2:=he _ m1 d x (λl z=>.inl z) (hm.trans l1) (ah.frame (λl o r z=>⟨r,l1 l o z⟩) _ _ p);have hl1:=(hm.trans l1).len;simp only;cases e2:ed d with
     |no=>trivial
     |exc k t=>rw[e2]at h2;obtain⟨w,m',h2,l2,k2⟩:=h2;rw[h2];exact⟨w,m',rfl,(hm.trans l1).trans l2,sh hl1 k2⟩
     |ok y=>
      rw[e2]at h2;have h3:=h2.sim;obtain⟨w,m2,B,h2,l2,k2,nd,hB⟩:=h2;obtain⟨w',m2',h3,_,k3⟩:=h3;rw[h2]at h3 ⊢;cases h3;simp only[Rz.bind,Rd.bind,b.len];split
      .refine v8 hx0 hc he ds (i+1) k _ _ m2 ((hm.trans l1).trans l2) (aa.frame (λl o r z=>⟨r,l2 l o z⟩) _ _ (fr q)) hi' hk' ((aa.frame (λl o r z=>⟨r,l2 l o z⟩) _ _ (fr b)).app (.cons (sh hl1 k3) .nil)) ((f.up l1).push (hm.trans l1) l2 ?_ nd hB);intro z;rw[z]at k2;exact k2
      .trivial
   |_=>trivial
theorem v9 (hg:lg (Rf R m0.length) m0 ps g)(hc:∀(R':Nat->Prop) m p a b,(∀l,R l->R' l)->Le m0 m->ah R' m p.1 a->ah R' m p.2 b->ae R' m (c a b m) (cd p))(he:∀(R':Nat->Prop) m p a b,(∀l,R l->R' l)->Le m0 m->ah R' m p.1 a->ah R' m p.2 b->aJ R' m lv (e a b m) (ed p)):
  ∀(ds:List (Dat×Dat)) (i k:Nat) (acc:List Dat) (acx:List Wd) (m:Me),Le m0 m->ds=ps.drop i->i+ds.length=ps.length->ds.length<k->aa (Rf R m0.length) m acc acx->cE m0 m lv acc acx->df R m0 lv (yg c e g k i acx m) (zM cd ed ds acc)
 |[],i,0,acc,acx,m,hm,a,hi,hk,b,f=>by simp at hk
 |d::ds,i,0,acc,acx,m,hm,a,hi,hk,b,f=>by simp at hk
 |[],i,k+1,acc,acx,m,hm,a,hi,hk,b,f=>by
  unfold yg zM bu;rw[(hg m hm).2 i (by simp at hi;lia)];simp only;by_cases z:acc.length<=aq
  .rw[Mk z];exact⟨acc,m,acx,rfl,z,rfl,hm,b,f⟩
  .rw[Ml z];trivial
 |d::ds,i,k+1,acc,acx,m,hm,a,hi,hk,b,f=>by
  have hx:ps[i]?=some d:=by
   have:(ps.drop i)[0]?=some d:=by rw[<-a];rfl
   simpa using this
  have hr:ds=ps.drop (i+1):=by
   have:(ps.drop i).drop 1=ds:=by rw[<-a];rfl
   rw[<-this,Wy]
  have hi':i+1+ds.length=ps.length:=by simp at hi;lia
  have hk':ds.length<k:=by simp at hk;lia
  obtain⟨u,v,e0,p,q⟩:=(hg m hm).1 i d hx;have hl:=hm.len;have sh:∀{n:Nat}{m':Me}{d:Dat}{w:Wd},m0.length<=n->ah (Rf (Rf R m0.length) n) m' d w->ah (Rf R m0.length) m' d w:=λhn k=>ah.frame (λl o r z=>⟨by rcases r with (r|r)|r;exact .inl r;exact .inr r;exact .inr (by lia),z⟩) _ _ k;unfold yg zM;rw[e0];simp only;have h1:=hc _ m d u v (λl z=>.inl z) hm p q;cases e1:cd d with
  |no=>trivial
  |exc k t=>rw[e1]at h1;obtain⟨w,m',h1,l1,k1⟩:=h1;rw[h1];exact⟨w,m',rfl,hm.trans l1,sh hl k1⟩
  |ok t=>
   rw[e1]at h1;obtain⟨w,m1,h1,l1,k1⟩:=h1;rw[h1];simp only[Rz.bind,Rd.bind];cases t with
   |bl t=>
    rw[ai.mp k1];have fr:∀{ds:List Dat}{xs:List Wd},aa (Rf R m0.length) m ds xs->aa (Rf R m0.length) m1 ds xs:=λk=>aa.frame (λl o r z=>⟨r,l1 l o z⟩) _ _ k;cases t with
    |false=>exact v9 hg hc he ds (i+1) k acc acx m1 (hm.trans l1) hr hi' hk' (fr b) (f.up l1)
    |true=>
     have h2:=he _ m1 d u v (λl z=>.inl z) (hm.trans l1) (ah.frame (λl o r z=>⟨r,l1 l o z⟩) _ _ p) (ah.frame (λl o r z=>⟨r,l1 l o z⟩) _ _ q);have hl1:=(hm.trans l1).len;simp only;cases e2:ed d with
     |no=>trivial
     |exc k t=>rw[e2]at h2;obtain⟨w,m',h2,l2,k2⟩:=h2;rw[h2];exact⟨w,m',rfl,(hm.trans l1).trans l2,sh hl1 k2⟩
     |ok y=>
      rw[e2]at h2;have h3:=h2.sim;obtain⟨w,m2,B,h2,l2,k2,nd,hB⟩:=h2;obtain⟨w',m2',h3,_,k3⟩:=h3;rw[h2]at h3 ⊢;cases h3;simp only[Rz.bind,Rd.bind,b.len];split
      .refine v9 hg hc he ds (i+1) k _ _ m2 ((hm.trans l1).trans l2) hr hi' hk' ((aa.frame (λl o r z=>⟨r,l2 l o z⟩) _ _ (fr b)).app (.cons (sh hl1 k3) .nil)) ((f.up l1).push (hm.trans l1) l2 ?_ nd hB);intro z;rw[z]at k2;exact k2
      .trivial
   |_=>trivial
def df.sim (h:df R m lv r rd)(hl:∀ds,lw (.lst ds)=if ds.all (λx=>lv x == .full)then .full else .top):aJ R m lw r rd:=by
 cases rd with
 |no=>trivial
 |exc c d=>exact h
 |ok d=>
  obtain⟨out,m2,outx,rfl,hlen,rfl,l2,k2,own⟩:=h;have e:=k2.len;cases z:out.all (λx=>lv x == .full)with
  |true=>
   obtain⟨A,a,b,c⟩:=own λy hy=>by simpa using QV.mp z y hy
   have:=nJ (R:=R) (lv:=lw) l2 a b c (by rw[hl,z];rfl) e;unfold bu at this;rw[Mk hlen]at this;exact this
  |false=>
   unfold alloc;rw[<-e,Mk hlen];have ll:=l2.len;refine⟨_,_,[m2.length],rfl,l2.trans (Le.app m2 _),?_,by simp,by simp;exact ll⟩;rw[hl,z];refine⟨out,_,outx,rfl,rfl,rfl,by simp,aa.frame (λl o r z=>⟨⟨r,?_⟩,Le.app m2 _ l o z⟩) out outx k2⟩;have:=(Qa.mp z).1;simp;lia
theorem jw(lev:Nat->Lv):∀(e:Ex) (d:Dat),ax d=true->a9 lev e d=.full
 |.tup a,d,h=>jw lev a d h
 |.comp _ _ _,d,h=>Mk h
 |.compP _ _ _ _ _,d,h=>Mk h
 |.lst _,d,h=>Mk h
 |.pair _ _,d,h=>Mk h
 |.call _ _,d,h=>Mk h
 |.blt b _,d,h=>by cases b<;>exact Mk h
 |.slL _ _,d,h=>Mk h
 |.bin _ _ _,d,h=>Mk h
 |.var _,d,h=>Mk h
 |.lit _,d,h=>Mk h
 |.neg _,d,h=>Mk h
 |.not _,d,h=>Mk h
 |.and _ _,d,h=>Mk h
 |.or _ _,d,h=>Mk h
 |.cmp _ _ _,d,h=>Mk h
 |.chain _ _ _ _ _,d,h=>Mk h
 |.ife _ _ _,d,h=>Mk h
 |.unit,d,h=>Mk h
 |.isi _ _,d,h=>Mk h
 |.dict0,d,h=>Mk h
 |.dget _ _,d,h=>Mk h
 |.dop _ _ _ _,d,h=>Mk h
 |.idx _ _,d,h=>Mk h
 |.meth _ _ _,d,h=>Mk h
 |.rng _ _ _,d,h=>Mk h
def aJ.newTop{R:Nat->Prop}{m0 m:Me}{ds:List Dat}{xs:List Wd}{lv:Dat->Lv}(hm:Le m0 m)(h:aa (Rf R m0.length) m ds xs)(hl:lv (.lst ds)=.top):aJ R m0 lv (alloc m xs) (bu ds):=by
 unfold bu alloc;rw[h.len];by_cases z:xs.length<=aq
 .rw[Mk z,Mk z];refine⟨_,_,[m.length],rfl,hm.trans (Le.app m _),?_,by simp,by simp;exact hm.len⟩;rw[hl];refine⟨ds,_,xs,rfl,rfl,rfl,by simp,aa.frame (λl o r z=>⟨⟨r,?_⟩,Le.app m _ l o z⟩) ds xs h⟩;have:=(Qa.mp z).1;simp;lia
 .rw[Ml z,Ml z];exact aJ.no
set_option tactic.hygienic true in
def DR{R:Nat->Prop}{m:Me}{d e:Dat}{x y:Wd}{lv:Dat->Lv}(op:Bo)(hl:∀d,lv d=if ax d then .full else match d with |.lst ds=>if aW ds then .full else .top|_=>.no)(a:ah R m d x)(b:ah R m e y):aJ R m lv (cQ op x y m) (yn op d e):=by
 have hn:∀es,lv (.lst es)=if aW es then .full else .top:=λes=>by rw[hl];simp[ax]
 have hs:=qf op a b;cases d with
 |lst ds=>
  obtain⟨l,xs,rfl,_,hm,a1⟩:=aw.mp a;cases e with
  |lst es=>
   obtain⟨l',ys,rfl,_,hk,b1⟩:=aw.mp b;cases op<;>first|exact aJ.no|skip
   simp only[cQ,yn,hm,hk];exact aJ.new (a1.app b1) hn
  |int k=>
   rw[ab.mp b];cases op<;>first|exact aJ.no|skip
   simp only[cQ,yn,hm];by_cases z:-(aq:Int)<=k/\k<=(aq:Int)
   .rw[Mk z,Mk z];exact aJ.new (a1.rep _) hn
   .rw[Ml z,Ml z];exact aJ.no
  |_=>exact aJ.no
 |int i=>
  cases e with
  |int j=>
   have hi:∀r:Rd,ae R m (cQ op x y m) r->(∀d,r=.ok d->ax d=true)->aJ R m lv (cQ op x y m) r:=by
    intro r h f;cases r with
    |ok d=>
     obtain⟨w,m',h,l,k⟩:=h;refine⟨w,m',[],h,l,?_,QK,by simp⟩;rw[hl,Mk (f d rfl)];exact k.flat d w (f d rfl)
    |exc c d=>exact h
    |no=>trivial
   refine hi _ hs λd h=>?_;cases op<;>simp only[yn]at h
   .cases h;rfl
   .cases h;rfl
   all_goals (split at h<;>(cases h;try rfl))
  |_=>exact aJ.no
 |tup ds=>
  obtain⟨xs,rfl,a1⟩:=af.mp a;cases e with
  |tup es=>
   obtain⟨ys,rfl,b1⟩:=af.mp b;cases op<;>first|exact aJ.no|skip
   simp only[yn]at hs ⊢;split at hs
   .next z=>
    rw[Mk z];obtain⟨w,m',h,l,k⟩:=hs;refine⟨w,m',[],h,l,?_,QK,by simp⟩;rw[hl];split
    .next f=>exact k.flat _ w f
    .exact ⟨ah.frame (λl o r z=>⟨⟨r,by simp⟩,z⟩) _ w k,rfl⟩
   .next z=>rw[Ml z];exact aJ.no
  |_=>exact aJ.no
 |_=>exact aJ.no
set_option tactic.hygienic true in
def AH{R:Nat->Prop}{m:Me}{d:Dat}{x:Wd}{lv:Dat->Lv}(lo hi:Option Int)(hl:∀d,lv d=if ax d then .full else match d with |.lst ds=>if aW ds then .full else .top|_=>.no)(a:ah R m d x):aJ R m lv (eU x lo hi m) (eD d lo hi):=by
 have hn:∀es,lv (.lst es)=if aW es then .full else .top:=λes=>by rw[hl];simp[ax]
 by_cases t:∃ds,d=.tup ds
 .obtain ⟨ds,rfl⟩:=t;have hs:=sg lo hi a;simp only[eD]at hs ⊢;split at hs
  .next z=>rw[Mk z];exact aJ.no
  .next z=>
   rw[Ml z];obtain⟨w,m',h,l,k⟩:=hs;refine⟨w,m',[],h,l,?_,QK,by simp⟩;rw[hl];split
   .next f=>exact k.flat _ w f
   .exact ⟨ah.frame (λl o r z=>⟨⟨r,by simp⟩,z⟩) _ w k,rfl⟩
 have t':∀ds,d≠.tup ds:=λds e=>t ⟨ds,e⟩;rw[pz (si a t'),sk t'];cases z:dD d with
 |none=>exact aJ.no
 |some ds=>
  obtain⟨xs,h,q⟩:=qd a z;simp only[h,q.len];exact aJ.new ((q.drop _).take _) hn
set_option tactic.hygienic true in
theorem xw (H:bG lev cl cd):∀(e:Ex) (R:Nat->Prop) (m:Me) (de:aU) (env:En),bN R m (zh e) de env->aJ R m (a9 lev e) (ag cl e env m) (am cd e de)
 |.call k a,R,m,de,env,q=>by
  have e:a9 lev (.call k a)=wq lev k:=by funext d;simp[wq]
  rw[e];refine(za H.r a R m de env q).bindO λd w m1 l1 k1=>?_;exact H k _ _ _ m1 (yj k1)
 |.bin op a b,R,m,de,env,q=>by
  refine(za H.r a R m de env q.left).bindO λd w m1 l1 k1=>?_;refine(za H.r b _ m1 de env (q.right.up (λ_=>.inl) l1)).bindO λd2 w2 m2 l2 k2=>?_;exact DR op (λd=>by cases d<;>rfl) (k1.up _ l2) k2
 |.slL a b,R,m,de,env,q=>by
  refine(za H.r a R m de env q.left).bindO λd w m1 l1 k1=>?_;refine(za H.r b _ m1 de env (q.right.up (λ_=>.inl) l1)).bindO λd2 w2 m2 l2 k2=>?_;cases d2 with
  |int i=>
   rw[ab.mp k2];exact AH _ _ (λd=>by cases d<;>rfl) (k1.up m1.length l2)
  |_=>exact aJ.no
 |.blt b a,R,m,de,env,q=>by
  by_cases hb:b=.list
  .subst hb;refine(za H.r a R m de env q).bindO λd w m1 l1 k1=>?_;have k2:=yj k1;simp only[yu];split
   .next x hx=>
    rw[hx]at k2;obtain⟨x',r,e0,p,q0⟩:=k2.cons_inv;rw[e0,q0.nil_inv];split
    .next z=>obtain⟨ys,h,q⟩:=xD p z;simp only[vq,h];exact aJ.new q (λes=>by simp[ax])
    .exact aJ.no
   .exact aJ.no
  .exact (za H.r (.blt b a) R m de env q).own λd=>by cases b<;>first|exact Mm rfl hb|rfl
 |.lst a,R,m,de,env,q=>by
  have ih:=xw H a R m de env q;show aJ R m _ ((ag cl a env m).bind λx m1=>alloc m1 (zy x)) ((am cd a de).bind λx=>bu (zD x));cases ea:am cd a de with
  |no=>trivial
  |exc c d=>rw[ea]at ih;obtain⟨w,m',h,l,k⟩:=ih;rw[h];exact⟨w,m',rfl,l,k⟩
  |ok d=>
   rw[ea]at ih;have hs:=ih.sim;obtain⟨w,m1,A,h,l,k,nd,hA⟩:=ih;obtain⟨w',m1',h',_,ks⟩:=hs;rw[h]at h';cases h';rw[h];simp only[Rz.bind,Rd.bind];have ka:=yj ks;cases z:a9 lev a (.tup (zD d)) == .full with
   |false=>exact aJ.newTop l ka (by simp[ax,z])
   |true=>
    have z':a9 lev a (.tup (zD d))=.full:=by simpa using z
    have own:∃B,ao m1 (zD d) (zy w) B/\B.Nodup/\∀b∈B,m.length<=b:=by
     cases d with
     |tup ds=>
      rw[show a9 lev a (.tup ds)=.full from z']at k;obtain⟨xs,rfl,k1⟩:=bC.mp k;exact⟨A,k1,nd,hA⟩
     |_=>refine⟨[],?_,QK,by simp⟩;exact ka.flat _ _ rfl
    obtain⟨B,o,nb,hB⟩:=own;exact nJ l o nb hB (by simp[ax,z]) ka.len
 |.tup a,R,m,de,env,q=>by
  have ih:=xw H a R m de env q;have el:a9 lev (.tup a)=a9 lev a:=by funext d;simp
  rw[el];show aJ R m _ ((ag cl a env m).bind λx m1=>if(zy x).length<=aq then .ok (.tup (zy x)) m1 else .no) ((am cd a de).bind λx=>if(zD x).length<=aq then .ok (.tup (zD x))else .no);cases ea:am cd a de with
  |no=>trivial
  |exc c d=>rw[ea]at ih;obtain⟨w,m',h,l,k⟩:=ih;rw[h];exact⟨w,m',rfl,l,k⟩
  |ok d=>
   rw[ea]at ih;have hs:=ih.sim;obtain⟨w,m1,A,h,l,k,nd,hA⟩:=ih;obtain⟨w',m1',h',_,ks⟩:=hs;rw[h]at h';cases h';rw[h];have ka:=yj ks;simp only[Rz.bind,Rd.bind,ka.len];split
   .cases d with
    |tup ds=>
     obtain⟨xs,rfl,_⟩:=af.mp ks;exact⟨_,m1,A,rfl,l,k,nd,hA⟩
    |_=>
     refine⟨_,m1,[],rfl,l,?_,QK,by simp⟩;rw[jw lev a _ (by rfl)];exact bC.mpr ⟨_,rfl,ka.flat _ _ rfl⟩
   .trivial
 |.pair a b,R,m,de,env,q=>by
  have iha:=xw H a R m de env q.left;show aJ R m _ ((ag cl a env m).bind λx m1=>(ag cl b env m1).bind λy m2=>.ok (.tup (x::zy y)) m2) ((am cd a de).bind λx=>(am cd b de).bind λy=>.ok (.tup (x::zD y)));cases ea:am cd a de with
  |no=>trivial
  |exc c d=>rw[ea]at iha;obtain⟨w,m',h,l,k⟩:=iha;rw[h];exact⟨w,m',rfl,l,k⟩
  |ok d=>
   rw[ea]at iha;have hs:=iha.sim;obtain⟨w,m1,A,h,l,k,nd,hA⟩:=iha;obtain⟨w',m1',h',_,ks⟩:=hs;rw[h]at h';cases h';rw[h];simp only[Rz.bind,Rd.bind];have ihb:=xw H b _ m1 de env (q.right.up (R':=Rf R m.length) (λ_=>.inl) l);cases eb:am cd b de with
   |no=>trivial
   |exc c d=>rw[eb]at ihb;obtain⟨w,m',h,l2,k⟩:=ihb;rw[h];exact ae.lift (rd:=.exc c d) l ⟨w,m',rfl,l2,k⟩
   |ok d2=>
    rw[eb]at ihb;have hs2:=ihb.sim;obtain⟨w2,m2,A2,h2,l2,k2,nd2,hA2⟩:=ihb;obtain⟨w2',m2',h2',_,ma⟩:=hs2;rw[h2]at h2';cases h2';rw[h2];simp only;have ka:=yj ma;have hl1:=l.len;cases z:(a9 lev a d == .full&&a9 lev b (.tup (zD d2)) == .full)with
    |false=>
     have:ae R m (.ok (.tup (w::zy w2)) m2) (.ok (.tup (d::zD d2))):=
      ae.lift l (ae.lift l2 (cS (af.mpr ⟨_,rfl,.cons (ks.up _ l2) ka⟩)))
     obtain⟨w3,m3,h3,l3,k3⟩:=this;refine⟨w3,m3,[],h3,l3,?_,QK,by simp⟩;by_cases f:ax (.tup (d::zD d2))=true
     .rw[jw lev _ _ f];exact k3.flat _ w3 f
     .have:a9 lev (.pair a b) (.tup (d::zD d2))=.no:=by
       rw[sf,Ml f];simp only[z];rfl
      rw[this];exact⟨ah.frame (λl o r z=>⟨⟨r,by simp⟩,z⟩) _ w3 k3,rfl⟩
    |true=>
     rw[Qm]at z;have z1:a9 lev a d=.full:=by simpa using z.1
     have z2:a9 lev b (.tup (zD d2))=.full:=by simpa using z.2
     rw[z1]at k;have own:∃B,ao m2 (zD d2) (zy w2) B/\B.Nodup/\∀b∈B,m1.length<=b:=by
      cases d2 with
      |tup ds=>
       rw[show a9 lev b (.tup ds)=.full from z2]at k2;obtain⟨xs,rfl,k3⟩:=bC.mp k2;exact⟨A2,k3,nd2,hA2⟩
      |_=>refine⟨[],?_,QK,by simp⟩;exact ka.flat _ _ rfl
     obtain⟨B,o,nb,hB⟩:=own;refine⟨_,m2,A++B,rfl,l.trans l2,?_,?_,?_⟩
     .have:a9 lev (.pair a b) (.tup (d::zD d2))=.full:=by
       rw[sf];simp only[z1,z2];simp
      rw[this];exact bC.mpr ⟨_,rfl,.cons (bi.frame d w A (λx _ o q=>l2 x o q) k) o⟩
     .refine QN.mpr ⟨nd,nb,λx hx y hy e=>?_⟩;have:=bi.lt d w A k x hx;have:=hB y hy;lia
     .intro x hx;rcases Qx.mp hx with hx|hx
      .exact hA x hx
      .have:=hB x hx;lia
 |.comp elt it cond,R,m,de,env,q=>by
  refine(za H.r it R m de env q.left).bindO λd w m1 l1 k1=>?_;have hc:∀(R':Nat->Prop) m' d x,(∀l,Rf R m.length l->R' l)->Le m1 m'->ah R' m' d x->ae R' m' (ag cl cond (env++[some x]) m') (am cd cond (de++[some d])):=
   λR' m' d x hR l k=>za H.r cond R' m' _ _ ((q.right.right.up (λl h=>hR l (.inl h)) (l1.trans l)).push k)
  have he:∀(R':Nat->Prop) m' d x,(∀l,Rf R m.length l->R' l)->Le m1 m'->ah R' m' d x->aJ R' m' (a9 lev elt) (ag cl elt (env++[some x]) m') (am cd elt (de++[some d])):=
   λR' m' d x hR l k=>xw H elt R' m' _ _ ((q.right.left.up (λl h=>hR l (.inl h)) (l1.trans l)).push k)
  have hl:∀ds,a9 lev (.comp elt it cond) (.lst ds)=if ds.all (λx=>a9 lev elt x == .full)then .full else .top:=λds=>by simp[ax]
  have acc0:cE m1 m1 (a9 lev elt) [] []:=λ_=>⟨[],.nil,QK,by simp⟩;cases d with
  |tup ds=>
   obtain⟨xs,rfl,k2⟩:=af.mp k1;exact(wI hc he ds xs [] [] m1 (Le.refl _) (k2.up _ (Le.refl _)) .nil acc0).sim hl
  |scr ns=>
   rw[bj.mp k1];exact(wI hc he (ns.map .int) (ns.map .int) [] [] m1 (Le.refl _) (en ns) .nil acc0).sim hl
  |lst ds=>
   obtain⟨l,xs,rfl,_,hm,k2⟩:=aw.mp k1;simp only[cI];by_cases z:ds.length<=aq
   .rw[Mk z];have hl':=k2.len;exact(v8 hm hc he ds 0 (aq+1) [] [] m1 (Le.refl _) (by simpa using (k2.up _ (Le.refl _))) (by lia) (by lia) .nil acc0).sim hl
   .rw[Ml z];exact aJ.no
  |_=>exact aJ.no
 |.compP k elt a b cond,R,m,de,env,q=>by
  refine(za H.r a R m de env q.left).bindO λd w m1 l1 k1=>?_;refine(za H.r b _ m1 de env (q.right.left.up (λl h=>.inl h) l1)).bindO λd' w' m2 l2 k2=>?_;have hc:∀(R':Nat->Prop) m' (p:Dat×Dat) x y,(∀l,Rf (Rf R m.length) m1.length l->R' l)->Le m2 m'->ah R' m' p.1 x->ah R' m' p.2 y->ae R' m' (ag cl cond (env++[some x]++[some y]) m') (am cd cond (de++[some p.1]++[some p.2])):=
   λR' m' d x y hR l k k'=>za H.r cond R' m' _ _ (((q.right.right.right.up (λl h=>hR l (.inl (.inl h))) ((l1.trans l2).trans l)).push k).push k')
  have he:∀(R':Nat->Prop) m' (p:Dat×Dat) x y,(∀l,Rf (Rf R m.length) m1.length l->R' l)->Le m2 m'->ah R' m' p.1 x->ah R' m' p.2 y->aJ R' m' (a9 lev elt) (ag cl elt (env++[some x]++[some y]) m') (am cd elt (de++[some p.1]++[some p.2])):=
   λR' m' d x y hR l k k'=>xw H elt R' m' _ _ (((q.right.right.left.up (λl h=>hR l (.inl (.inl h))) ((l1.trans l2).trans l)).push k).push k')
  have hl:∀ds,a9 lev (.compP k elt a b cond) (.lst ds)=if ds.all (λx=>a9 lev elt x == .full)then .full else .top:=λds=>by simp[ax]
  have acc0:cE m2 m2 (a9 lev elt) [] []:=λ_=>⟨[],.nil,QK,by simp⟩;cases e:yw k d d' with
  |none=>exact aJ.no
  |some ps=>
   obtain⟨pr,hln⟩:=wH e ((k1.up _ l2).up m2.length (Le.refl _)) (k2.up m2.length (Le.refl _));exact(v9 pr hc he ps 0 (aq+1) [] [] m2 (Le.refl _) (by simp) (by simp) (by lia) .nil acc0).sim hl
 |.var i,R,m,de,env,q=>(za H.r _ R m de env q).own λd=>rfl
 |.lit w,R,m,de,env,q=>(za H.r _ R m de env q).own λd=>rfl
 |.neg a,R,m,de,env,q=>(za H.r _ R m de env q).own λd=>rfl
 |.not a,R,m,de,env,q=>(za H.r _ R m de env q).own λd=>rfl
 |.and a b,R,m,de,env,q=>(za H.r _ R m de env q).own λd=>rfl
 |.or a b,R,m,de,env,q=>(za H.r _ R m de env q).own λd=>rfl
 |.cmp op a b,R,m,de,env,q=>(za H.r _ R m de env q).own λd=>rfl
 |.chain o p a b c,R,m,de,env,q=>(za H.r _ R m de env q).own λd=>rfl
 |.ife c a b,R,m,de,env,q=>(za H.r _ R m de env q).own λd=>rfl
 |.unit,R,m,de,env,q=>(za H.r _ R m de env q).own λd=>rfl
 |.isi t a,R,m,de,env,q=>(za H.r _ R m de env q).own λd=>rfl
 |.dict0,R,m,de,env,q=>⟨_,_,[m.length],rfl,Le.app m _,bT.mpr ⟨_,[],[],rfl,rfl,by simp,.nil⟩,by simp,by simp⟩
 |.dget a b,R,m,de,env,q=>(za H.r _ R m de env q).own λd=>rfl
 |.dop _ _ _ _,R,m,de,env,q=>(za H.r _ R m de env q).own λd=>rfl
 |.idx a b,R,m,de,env,q=>(za H.r _ R m de env q).own λd=>rfl
 |.meth _ _ _,R,m,de,env,q=>(za H.r _ R m de env q).own λd=>rfl
 |.rng a b c,R,m,de,env,q=>(za H.r _ R m de env q).own λd=>rfl
set_option genInjectivity false in
inductive bX where
 |next (de:aU) (lv:List Lv)|ret (d:Dat) (l:Lv)|brk (de:aU) (lv:List Lv)|cont (de:aU) (lv:List Lv)|exc (c:Nat) (d:Dat)|no
deriving Inhabited
noncomputable def Rd.bindS(r:Rd)(f:Dat->bX):bX:=match r with
 |.ok d=>f d
 |.exc c d=>.exc c d
 |.no=>.no
def Rd.okS(r:Rd)(f:Dat->bX):bX:=match r with
 |.ok d=>f d
 |_=>.no
noncomputable def bo:List Nat->List Lv->List Lv
 |[],lv=>lv
 |i::vs,lv=>bo vs (lv.set i .no)
noncomputable def ci(de:aU)(j:Nat)(lv:List Lv):List Lv:=match de[j]?,lv[j]? with
 |some (some (.lst _)),some .full=>lv.set j .top
 |some (some (.lst _)),some .top=>lv.set j .top
 |_,_=>lv.set j .no
noncomputable def xC(e:Ex)(de:aU)(lv:List Lv):List Lv:=match e with
 |.idx (.var j) b=>ci de j (bo (zh b) lv)
 |.dget (.var i) (.idx (.var _) (.neg (.lit _)))=>bo [i] lv
 |e=>bo (zh e) lv
mutual
noncomputable def dL:Dat->Nat
 |.lst xs=>cR xs+1
 |.dct _ xs=>cR xs+1
 |.tup xs=>cR xs+1
 |.non=>0
 |.bl _=>0
 |.int _=>0
 |.str _=>0
 |.scr _=>0
noncomputable def cR:List Dat->Nat
 |[]=>0
 |d::ds=>max (dL d) (cR ds)
end
noncomputable def yx(lv:List Lv)(j:Nat):Bool:=match lv[j]? with
 |some .top=>true
 |some .full=>true
 |_=>false
noncomputable def gb(lev:Nat->Lv)(e:Ex)(d:Dat)(j:Nat)(de:aU)(lv:List Lv):Option (aU×List Lv):=
 if yx lv j=false then none
 else if a9 lev e d=.full then some (de,lv)
 else if j∈zh e then none
 else match e with
  |.var i=>if lv[i]?=some .full/\lv[j]?=some .full then some (de.set i none,lv)else some (de,(bo [i] lv).set j .top)
  |e=>some (de,(xC e de lv).set j .top)
noncomputable def zr{α:Type}(body:α->aU->List Lv->bX):List α->aU->List Lv->bX
 |[],de,lv=>.next de lv
 |x::xs,de,lv=>match body x de lv with
  |.next d1 l1=>zr body xs d1 l1
  |.cont d1 l1=>zr body xs d1 l1
  |.brk d1 l1=>.next d1 l1
  |r=>r
def br(d:Dat):Lv:=if ax d then .full else .no
noncomputable def eG(lev:Nat->Lv)(e:Ex)(d:Dat)(lv:List Lv):Lv:=if ax d then .full else match e with
 |.var i=>(lv[i]?).getD .no
 |.tup (.pair (.var a) (.pair (.var b) .unit))=>if a≠b/\lv[a]?=some .full/\lv[b]?=some .full then .full else .no
 |.blt .sorted (.pair (.idx (.var j) (.var _)) .unit)=>if lv[j]?=some .full then .full else .no
 |e=>a9 lev e d
noncomputable def ql(de:aU)(j:Nat):Option (List Dat):=match de[j]? with
 |some (some (.lst ds))=>some ds
 |_=>none
noncomputable def xi(lev:Nat->Lv)(i:Nat)(e:Ex)(d:Dat)(de:aU)(lv:List Lv):bX:=
 if a9 lev e d=.full then .next (de.set i (some d)) (lv.set i .full)else .next (de.set i (some d)) ((xC e de lv).set i (a9 lev e d))
noncomputable def yi(s t:Sm):Option (Nat×Nat×Ex×Ex×Ex×Ex):=match t with
 |.dput j k2 e=>match s with
  |.asg i (.dop .get (.var j2) k e0)=>if j2=j/\i≠j then some (i,j,k,e0,k2,e)else none
  |_=>none
 |_=>none
noncomputable def Ak(lev:Nat->Lv)(cl:Nat->List Dat->Rd)(e:Ex)(de:aU)(lv:List Lv):bX:=match e with
  |.meth .append (.var j) (.pair e .unit)=>(am cl e de).okS λd=>match ql de j with
   |some ds=>if ds.length<aq then match gb lev e d j de lv with
    |some (de1,lv1)=>.next (de1.set j (some (.lst (ds++[d])))) lv1
    |none=>.no
    else .no
   |none=>.no
  |.meth .reverse (.var j) .unit=>match ql de j with
   |some ds=>if yx lv j then .next (de.set j (some (.lst ds.reverse))) lv else .no
   |none=>.no
  |.meth _ _ _=>.no
  |e=>(am cl e de).bindS λ_=>.next de lv
noncomputable def iL(lev:Nat->Lv)(cl:Nat->List Dat->Rd)(t:Nat×Nat×Ex×Ex×Ex×Ex)(de:aU)(lv:List Lv):bX:=match t with
 |(i,j,k,e0,k2,e)=>(am cl (.dop .get (.var j) k e0) de).okS λg=>(am cl e (de.set i (some g))).okS λd=>(am cl k2 (de.set i (some g))).okS λq=>match de[j]?,xf q with
  |some (some (.dct ks ds)),some q=>if lv[j]?=some .full/\a9 lev e d=.full/\ks.length<aq/\i<de.length then .next ((de.set j (some (.dct (xp ks q) (zL ks ds q d)))).set i none) (lv.set i .full)else .no
  |_,_=>.no
def zE(q:List Int):Dat:=.tup (q.map Dat.int)
noncomputable def aR(lev:Nat->Lv)(cl:Nat->List Dat->Rd):Sm->aU->List Lv->bX
 |.skip,de,lv=>.next de lv
 |.seq a b,de,lv=>match yi a b with
  |some t=>iL lev cl t de lv
  |none=>match aR lev cl a de lv with
   |.next d1 l1=>aR lev cl b d1 l1
   |r=>r
 |.asg i e,de,lv=>(am cl e de).bindS λd=>xi lev i e d de lv
 |.aug i op e,de,lv=>match de[i]? with
  |some (some (.int a))=>(am cl e de).okS λy=>match y with
   |.int b=>(yn op (.int a) (.int b)).okS λz=>.next (de.set i (some z)) (lv.set i .full)
   |_=>.no
  |_=>.no
 |.ite c a b,de,lv=>(am cl c de).bindS λx=>match x with
  |.bl true=>aR lev cl a de lv
  |.bl false=>aR lev cl b de lv
  |_=>.no
 |.forv i it body,de,lv=>(am cl it de).bindS λd=>match cI d with
  |some xs=>zr (λx de lv=>aR lev cl body (de.set i (some x)) (lv.set i (br x))) xs de (if ax d then lv else xC it de lv)
  |none=>.no
 |.fort i j it body,de,lv=>(am cl it de).bindS λd=>match cI d with
  |some xs=>zr (λx de lv=>match x with
    |.tup [a,b]=>aR lev cl body ((de.set i (some a)).set j (some b)) ((lv.set i (br a)).set j (br b))
    |_=>.no) xs de (if ax d then lv else xC it de lv)
  |none=>.no
 |.ret e,de,lv=>(am cl e de).bindS λd=>.ret d (eG lev e d lv)
 |.expr e,de,lv=>Ak lev cl e de lv
 |.forZ i j a b body,de,lv=>(am cl a de).okS λx=>(am cl b de).okS λy=>match yw .zip x y with
  |some ps=>zr (λ(p:Dat×Dat) de lv=>aR lev cl body ((de.set i (some p.1)).set j (some p.2)) ((lv.set i (br p.1)).set j (br p.2))) ps de (bo (zh a++zh b) lv)
  |none=>.no
 |.dput j k e,de,lv=>(am cl e de).okS λd=>(am cl k de).okS λq=>match de[j]?,xf q with
  |some (some (.dct ks ds)),some q=>if lv[j]?=some .full/\a9 lev e d=.full/\ks.length<aq then .next (de.set j (some (.dct (xp ks q) (zL ks ds q d)))) lv else .no
  |_,_=>.no
 |.forD i x body,de,lv=>match de[x]? with
  |some (some (.dct ks _))=>if ks.length<=aq then zr (λx de lv=>aR lev cl body (de.set i (some x)) (lv.set i (br x))) (ks.map zE) de (lv.set x .no)else .no
  |_=>.no
 |.forI i j x body,de,lv=>match de[x]? with
  |some (some (.dct ks ds))=>if ks.length<=aq/\ks.length=ds.length then zr (λ(p:Dat×Dat) de lv=>aR lev cl body ((de.set i (some p.1)).set j (some p.2)) ((lv.set i (br p.1)).set j (br p.2))) ((ks.map zE).zip ds) de (lv.set x .no)else .no
  |_=>.no
 |.never,_,_=>.no
def qm{lev:Nat->Lv}{cl:Nat->List Dat->Rd}{a b:Sm}{de:aU}{lv:List Lv}:aR lev cl (.seq a b) de lv=match yi a b with
  |some t=>iL lev cl t de lv
  |none=>match aR lev cl a de lv with
   |.next d1 l1=>aR lev cl b d1 l1
   |r=>r:=rfl
noncomputable def yy(fn:Fn)(ds:List Dat):aU:=ds.map some++Qg (fn.sz-ds.length) none
noncomputable def yI(fn:Fn)(ds:List Dat):List Lv:=ds.map br++Qg (fn.sz-ds.length) .full
noncomputable def qo:Lv->Lv->Bool
 |_,.no=>true
 |.full,.full=>true
 |.top,.top=>true
 |_,_=>false
noncomputable def xF(l:Lv):bX->Rd
 |.next _ _=>.ok .non
 |.ret d k=>if ax d || qo k l then .ok d else .no
 |.exc c d=>.exc c d
 |_=>.no
noncomputable def yW(lev:Nat->Lv)(cl:Nat->List Dat->Rd)(k:Nat)(fn:Fn)(ds:List Dat):Rd:=
 if ds.length=fn.ar then xF (lev k) (aR lev cl fn.body (yy fn ds) (yI fn ds))else .no
noncomputable def jx(lev:Nat->Lv)(T:List Fn):Nat->Nat->List Dat->Rd
 |0,_,_=>.no
 |d+1,k,ds=>match T[k]? with
  |some fn=>yW lev (jx lev T d) k fn ds
  |none=>.no
def zN(RR:Nat->Prop)(A:Nat->List Nat):Nat->Prop:=λl=>RR l/\∀i,l∉A i
structure Inv(lo:Nat)(RR:Nat->Prop)(m:Me)(de:aU)(lv:List Lv)(env:En)(A:Nat->List Nat):Prop where
 len:de.length=env.length
 lvl:lv.length=de.length
 rr:∀l,lo<=l->RR l
 lom:lo<=m.length
 slot:∀i d l,de[i]?=some (some d)->lv[i]?=some l->∃w,env[i]?=some (some w)/\bz (zN RR A) m l d w (A i)
 nd:∀i,(A i).Nodup
 dj:∀i j a,a∈A i->a∈A j->i=j
 bd:∀i a,a∈A i->lo<=a/\a<m.length
def bh(A:Nat->List Nat)(m:Me)(A':Nat->List Nat)(m':Me):Prop:=(∀(l:Nat) o,(∀i,l∉A i)->m[l]?=some o->(∀i,l∉A' i)/\m'[l]?=some o)/\m.length<=m'.length
def bh.refl(A:Nat->List Nat)(m:Me):bh A m A m:=⟨λ_ _ h k=>⟨h,k⟩,Qh _⟩
def bh.trans{A B C:Nat->List Nat}{m m1 m2:Me}(h:bh A m B m1)(k:bh B m1 C m2):bh A m C m2:=
 ⟨λl o a b=>k.1 l o (h.1 l o a b).1 (h.1 l o a b).2,Qr h.2 k.2⟩
def bh.rep (h:bh A m A' m')(q:ah (zN RR A) m d w):ah (zN RR A') m' d w:=
 ah.frame (λl o r z=>⟨⟨r.1,(h.1 l o r.2 z).1⟩,(h.1 l o r.2 z).2⟩) d w q
def bh.repL (h:bh A m A' m')(q:aa (zN RR A) m d w):aa (zN RR A') m' d w:=
 aa.frame (λl o r z=>⟨⟨r.1,(h.1 l o r.2 z).1⟩,(h.1 l o r.2 z).2⟩) d w q
def Inv.getlv (I:Inv lo RR m de lv env A){i:Nat}(h:de[i]?=some o):∃l,lv[i]?=some l:=by
 obtain⟨hi,_⟩:=Qa.mp h;exact⟨_,Qw (by rw[I.lvl];exact hi)⟩
def Inv.envR (I:Inv lo RR m de lv env A)(vs:List Nat):bN RR m vs de env:=
 ⟨I.len,λi _ d h=>by
  obtain⟨l,hl⟩:=I.getlv h;obtain⟨w,a,b⟩:=I.slot i d l h hl;exact⟨w,a,b.rep (λ_ z=>z.1) (λa ha=>I.rr a (I.bd i a ha).1)⟩⟩
def Inv.ext{lo:Nat}{RR:Nat->Prop}{m m':Me}{de:aU}{lv:List Lv}{env:En}{A:Nat->List Nat}(I:Inv lo RR m de lv env A)(h:Le m m'):Inv lo RR m' de lv env A:=
 ⟨I.len,I.lvl,I.rr,Qr I.lom h.len,λi d l a b=>by
  obtain⟨w,p,q⟩:=I.slot i d l a b;exact⟨w,p,q.frame (λl o r z=>⟨r,h l o z⟩) (λl _ o z=>h l o z)⟩,I.nd,I.dj,λi a ha=>⟨(I.bd i a ha).1,Ql (I.bd i a ha).2 h.len⟩⟩
def kI (h:Le m m'):bh A m A m':=⟨λl o a b=>⟨a,h l o b⟩,h.len⟩
noncomputable def aI(A:Nat->List Nat)(i:Nat)(B:List Nat):Nat->List Nat:=λk=>if k=i then B else A k
def ze:aI A i B i=B:=by simp[aI]
def zd (h:k≠i):aI A i B k=A k:=by simp[aI,h]
set_option tactic.hygienic true in
def Inv.store{lo:Nat}{RR:Nat->Prop}{m m':Me}{de:aU}{lv:List Lv}{env:En}{A:Nat->List Nat}(I:Inv lo RR m de lv env A)(h:Le m m')(i:Nat){d:Dat}{l:Lv}{w:Wd}{B:List Nat}
  (q:bz (λl=>(zN RR A l\/m.length<=l)/\l∉B) m' l d w B) (nd:B.Nodup) (hB:∀b∈B,m.length<=b) :
  Inv lo RR m' (de.set i (some d)) (lv.set i l) (env.set i (some w)) (aI A i B)/\bh A m (aI A i B) m':=by
 have hlt:=q.lt;have fr:∀(x:Nat) (o:Ob),(∀k,x∉A k)->m[x]?=some o->∀k,x∉aI A i B k:=by
  intro x o hx hm k;by_cases e:k=i
  .subst e;rw[ze];intro hb;have:=hB x hb;have:=(Qa.mp hm).1;lia
  .rw[zd e];exact hx k
 refine⟨⟨by simp[I.len],by simp[I.lvl],I.rr,Qr I.lom h.len,?_,?_,?_,?_⟩,⟨λx o hx hm=>⟨fr x o hx hm,h x o hm⟩,h.len⟩⟩
 .intro k e l' h1 h2;by_cases z:k=i
  .rw[z]at h1 h2 ⊢;rw[QO]at h1 h2;rw[Mk rfl]at h1 h2;split at h1
   .split at h2
    .next q1 q2=>
     cases h1;cases h2;refine⟨w,by rw[QO,Mk rfl,Mk (by rw[<-I.len];exact q1)],?_⟩;rw[ze];refine q.frame (λx o r hm=>⟨⟨?_,λk=>?_⟩,hm⟩) (λ_ _ _ z=>z)
     .rcases r.1 with r1|r1
      .exact r1.1
      .exact I.rr x (Qr I.lom r1)
     .by_cases e:k=i
      .subst e;rw[ze];exact r.2
      .rw[zd e];rcases r.1 with r1|r1
       .exact r1.2 k
       .intro ha;have:=(I.bd k x ha).2;lia
    .cases h2
   .cases h1
  .rw[QD (Ne.symm z)]at h1 h2;obtain⟨w',a,b⟩:=I.slot k e l' h1 h2;refine⟨w',by rw[QD (Ne.symm z)];exact a,?_⟩;rw[zd z];exact b.frame (λx o r hm=>⟨⟨r.1,fr x o r.2 hm⟩,h x o hm⟩) (λx _ o hm=>h x o hm)
 .intro k;by_cases e:k=i
  .subst e;rw[ze];exact nd
  .rw[zd e];exact I.nd k
 .intro k j a ha hb;by_cases e:k=i
  .subst e;rw[ze]at ha;by_cases f:j=k
   .exact f.symm
   .rw[zd f]at hb;have:=hB a ha;have:=(I.bd j a hb).2;lia
  .rw[zd e]at ha;by_cases f:j=i
   .subst f;rw[ze]at hb;have:=hB a hb;have:=(I.bd k a ha).2;lia
   .rw[zd f]at hb;exact I.dj k j a ha hb
 .intro k a ha;by_cases e:k=i
  .subst e;rw[ze]at ha;exact⟨Qr I.lom (hB a ha),hlt a ha⟩
  .rw[zd e]at ha;exact⟨(I.bd k a ha).1,Ql (I.bd k a ha).2 h.len⟩
def Inv.weak{lo:Nat}{RR:Nat->Prop}{m:Me}{de:aU}{lv:List Lv}{env:En}{A:Nat->List Nat}(I:Inv lo RR m de lv env A)(i:Nat){l:Lv}{B:List Nat}
  (hB:∀b∈B,b∈A i) (nd:B.Nodup) (q:∀d w,de[i]?=some (some d)->env[i]?=some (some w)->bz (zN RR (aI A i B)) m l d w B) :
  Inv lo RR m de (lv.set i l) env (aI A i B)/\bh A m (aI A i B) m:=by
 have fr:∀x,(∀k,x∉A k)->∀k,x∉aI A i B k:=by
  intro x hx k;by_cases e:k=i
  .subst e;rw[ze];intro hb;exact hx _ (hB x hb)
  .rw[zd e];exact hx k
 have sub:∀k a,a∈aI A i B k->a∈A k:=by
  intro k a ha;by_cases e:k=i
  .subst e;rw[ze]at ha;exact hB a ha
  .rw[zd e]at ha;exact ha
 refine⟨⟨I.len,by simp[I.lvl],I.rr,I.lom,?_,?_,λk j a ha hb=>I.dj k j a (sub k a ha) (sub j a hb),λk a ha=>I.bd k a (sub k a ha)⟩,⟨λx o hx hm=>⟨fr x hx,hm⟩,Qh _⟩⟩
 .intro k e l' h1 h2;by_cases z:k=i
  .subst z;rw[QO,Mk rfl]at h2;split at h2
   .cases h2;obtain⟨l0,hl0⟩:=I.getlv h1;obtain⟨w,a,_⟩:=I.slot k e l0 h1 hl0;refine⟨w,a,?_⟩;rw[ze];exact q e w h1 a
   .cases h2
  .rw[QD (Ne.symm z)]at h2;obtain⟨w',a,b⟩:=I.slot k e l' h1 h2;refine⟨w',a,?_⟩;rw[zd z];exact b.frame (λx o r hm=>⟨⟨r.1,fr x r.2⟩,hm⟩) (λx _ o hm=>hm)
 .intro k;by_cases e:k=i
  .subst e;rw[ze];exact nd
  .rw[zd e];exact I.nd k
def Inv.down{lo:Nat}{RR:Nat->Prop}{m:Me}{de:aU}{lv:List Lv}{env:En}{A:Nat->List Nat}(I:Inv lo RR m de lv env A)(i:Nat):
  Inv lo RR m de (lv.set i .no) env (aI A i [])/\bh A m (aI A i []) m:=by
 refine I.weak i (by simp) QK λd w h1 h2=>⟨?_,rfl⟩;obtain⟨l,hl⟩:=I.getlv h1;obtain⟨w',a,b⟩:=I.slot i d l h1 hl;rw[h2]at a;cases a;refine b.rep (λx r=>⟨r.1,λk=>?_⟩) (λx hx=>⟨I.rr x (I.bd i x hx).1,λk=>?_⟩)
 .by_cases e:k=i
  .subst e;rw[ze];simp
  .rw[zd e];exact r.2 k
 .by_cases e:k=i
  .subst e;rw[ze];simp
  .rw[zd e];intro ha;exact e (I.dj k i x ha hx)
theorem yJ:∀(vs:List Nat) (lv:List Lv) (k:Nat),(bo vs lv)[k]?=if k∈vs/\k<lv.length then some .no else lv[k]?
 |[],lv,k=>by simp[bo]
 |i::vs,lv,k=>by
  unfold bo;rw[yJ vs (lv.set i .no) k];rw[Vp,QO];by_cases a:k∈vs/\k<lv.length
  .rw[Mk a,Mk ⟨Qk _ a.1,a.2⟩]
  .rw[Ml a];by_cases e:i=k
   .subst e;by_cases b:i<lv.length
    .simp[b]
    .simp[b]
   .rw[Ml e];by_cases c:k∈vs
    .have:¬k<lv.length:=λz=>a ⟨c,z⟩;rw[Ml (λz=>this z.2)]
    .rw[Ml (λz=>by rcases Qn.mp z.1 with z1|z1;exact e z1.symm;exact c z1)]
theorem Inv.downs:∀(vs:List Nat) {lv:List Lv}{A:Nat->List Nat},Inv lo RR m de lv env A ->
  ∃A',Inv lo RR m de (bo vs lv) env A'/\bh A m A' m/\(∀i∈vs,A' i=[])/\(∀i,A' i=A i\/A' i=[])/\∀i,i∉vs->A' i=A i
 |[],lv,A,I=>⟨A,I,bh.refl A m,by simp,λi=>.inl rfl,λ_ _=>rfl⟩
 |j::vs,lv,A,I=>by
  obtain⟨I1,K1⟩:=I.down j;obtain⟨A',I2,K2,h1,h2,h3⟩:=Inv.downs vs I1;refine⟨A',I2,K1.trans K2,λi hi=>?_,λi=>?_,λi hi=>?_⟩
  .by_cases q:i∈vs
   .exact h1 i q
   .rw[h3 i q];rcases Qn.mp hi with rfl|hi
    .exact ze
    .exact Mm hi q
  .rcases h2 i with z|z
   .rw[z];by_cases e:i=j
    .subst e;right;exact ze
    .left;exact zd e
   .exact .inr z
  .have:i≠j:=λe=>hi (by rw[e];simp);rw[h3 i (λz=>hi (Qk _ z)),zd this]
theorem Inv.top (I:Inv lo RR m de lv env A)(j:Nat)(hd:de[j]?=some (some (.lst ds)))(hj:yx lv j=true):
  ∃l xs A',Inv lo RR m de (lv.set j .top) env A'/\bh A m A' m/\A' j=[l]/\(∀i,i≠j->A' i=A i)/\env[j]?=some (some (.ref l))/\m[l]?=some (.lst xs)/\aa (zN RR A') m ds xs/\l∈A j:=by
 unfold yx at hj;obtain⟨lj,hl⟩:=I.getlv hd;obtain⟨w,a,b⟩:=I.slot j _ lj hd hl;rw[hl]at hj;have key:∃l xs,w=.ref l/\l∈A j/\m[l]?=some (.lst xs)/\aa (zN RR (aI A j [l])) m ds xs:=by
  cases lj with
  |no=>simp at hj
  |top=>
   obtain⟨es,l,xs,e,rfl,hA,hm,r⟩:=b;cases e;refine⟨l,xs,rfl,by rw[hA];simp,hm,aa.frame (λx o r z=>⟨⟨r.1,λk=>?_⟩,z⟩) _ _ r⟩;by_cases e:k=j
   .subst e;rw[ze,<-hA];exact r.2 k
   .rw[zd e];exact r.2 k
  |full=>
   obtain⟨l,xs,B,rfl,hA,hm,r⟩:=bn.mp b;refine⟨l,xs,rfl,by rw[hA];simp,hm,ao.rep ds xs B (λx hx=>⟨I.rr x (I.bd j x (by rw[hA];exact Qk _ hx)).1,λk=>?_⟩) r⟩;have nd:=I.nd j;rw[hA]at nd;by_cases e:k=j
   .subst e;rw[ze];intro z;rw[Qq.mp z]at hx;exact(QR.mp nd).1 hx
   .rw[zd e];intro z;exact e (I.dj k j x z (by rw[hA];exact Qk _ hx))
 obtain⟨l,xs,rfl,hA,hm,r⟩:=key;obtain⟨I',K⟩:=I.weak j (l:=.top) (B:=[l]) (by intro b hb;rw[Qq.mp hb];exact hA) (by simp) λd w h1 h2=>by
  rw[hd]at h1;cases h1;rw[a]at h2;cases h2;exact⟨ds,l,xs,rfl,rfl,rfl,hm,r⟩
 exact⟨l,xs,_,I',K,ze,λi hi=>zd hi,a,hm,r,hA⟩
def yo {m:Me}(h:l≠x):(m.set l o)[x]?=m[x]?:=QD h
def xj {m:Me}(h:m[l]?=some p):(m.set l o)[l]?=some o:=by
 rw[QO,Mk rfl,Mk (Qa.mp h).1]
def Inv.putO{lo:Nat}{RR:Nat->Prop}{m m1:Me}{de:aU}{lv:List Lv}{env:En}{A:Nat->List Nat}(I:Inv lo RR m de lv env A)(le:Le m m1){j l:Nat}{ob:Ob}(hl:l∈A j)(A1:Nat->List Nat)
  (h3:∀k a,a∈A1 k->(∃k',a∈A k')\/m.length<=a) (nd1:∀k,(A1 k).Nodup) (dj1:∀i k a,a∈A1 i->a∈A1 k->i=k) (bd1:∀k a,a∈A1 k->lo<=a/\a<m1.length)
  {de1:aU}{lv1:List Lv}(len1:de1.length=de.length) (lvl1:lv1.length=lv.length)
  (live:∀k d lk,k≠j->de1[k]?=some (some d)->lv1[k]?=some lk->de[k]?=some (some d)/\lv[k]?=some lk/\A1 k=A k)
  (sj:∀d lj,de1[j]?=some (some d)->lv1[j]?=some lj->∃w,env[j]?=some (some w)/\bz (zN RR A1) (m1.set l ob) lj d w (A1 j)) :
  Inv lo RR (m1.set l ob) de1 lv1 env A1/\bh A m A1 (m1.set l ob):=by
 have fr:∀(x:Nat) (o:Ob),(∀k,x∉A k)->m[x]?=some o->(∀k,x∉A1 k)/\(m1.set l ob)[x]?=some o:=by
  intro x o hx hm;refine⟨λk ha=>?_,?_⟩
  .rcases h3 k x ha with⟨k',z⟩|z
   .exact hx k' z
   .have:=(Qa.mp hm).1;lia
  .rw[yo (l:=l) (x:=x) (λe=>hx j (by rw[<-e];exact hl))];exact le x o hm
 refine⟨⟨len1.trans I.len,by rw[lvl1,I.lvl,len1],I.rr,by rw[Vp];exact Qr I.lom le.len,?_,nd1,dj1,λk a ha=>by rw[Vp];exact bd1 k a ha⟩,⟨λx o hx hm=>fr x o hx hm,by rw[Vp];exact le.len⟩⟩;intro k d lk h1 h2;by_cases e:k=j
 .subst e;exact sj d lk h1 h2
 .obtain ⟨a,b,c⟩:=live k d lk e h1 h2;obtain⟨w,p,q⟩:=I.slot k d lk a b;refine⟨w,p,?_⟩;rw[c];refine q.frame (λx o r hm=>⟨⟨r.1,(fr x o r.2 hm).1⟩,(fr x o r.2 hm).2⟩) (λx hx o hm=>?_);rw[yo (l:=l) (x:=x) (λz=>e (I.dj k j x hx (by rw[<-z];exact hl)))];exact le x o hm
def Inv.put{lo:Nat}{RR:Nat->Prop}{m m1:Me}{de:aU}{lv:List Lv}{env:En}{A:Nat->List Nat}(I:Inv lo RR m de lv env A)(le:Le m m1){j l:Nat}{xs ys:List Wd}(hl:l∈A j)(A1:Nat->List Nat)
  (h3:∀k a,a∈A1 k->(∃k',a∈A k')\/m.length<=a) (nd1:∀k,(A1 k).Nodup) (dj1:∀i k a,a∈A1 i->a∈A1 k->i=k) (bd1:∀k a,a∈A1 k->lo<=a/\a<m1.length)
  {de1:aU}{lv1:List Lv}(len1:de1.length=de.length) (lvl1:lv1.length=lv.length)
  (live:∀k d lk,k≠j->de1[k]?=some (some d)->lv1[k]?=some lk->de[k]?=some (some d)/\lv[k]?=some lk/\A1 k=A k)
  (sj:∀d lj,de1[j]?=some (some d)->lv1[j]?=some lj->∃w,env[j]?=some (some w)/\bz (zN RR A1) (m1.set l (.lst ys)) lj d w (A1 j)) :
  Inv lo RR (m1.set l (.lst ys)) de1 lv1 env A1/\bh A m A1 (m1.set l (.lst ys)):=I.putO le hl A1 h3 nd1 dj1 bd1 len1 lvl1 live sj
def ou(m m1:Me)(ds:List Dat)(xs:List Wd)(ds':List Dat)(ys:List Wd):Prop:=
 ∀B,B.Nodup->ao m ds xs B->∃B',ao m1 ds' ys B'/\B'.Nodup/\∀b∈B',b∈B\/m.length<=b
def nG(RR:Nat->Prop)(A:Nat->List Nat)(m m1:Me)(ds:List Dat)(xs:List Wd)(ds':List Dat)(ys:List Wd):Prop:=
 aa (zN RR A) m ds xs->aa (λx=>zN RR A x\/m.length<=x) m1 ds' ys
def ii(RR:Nat->Prop)(A:Nat->List Nat)(m m1:Me)(ds:List Dat)(xs:List Wd)(ds':List Dat)(ys:List Wd):Prop:=
 (∀B,B.Nodup->ao m ds xs B->∃B',ao m1 ds' ys B'/\B'.Nodup/\∀b∈B',b∈B\/m.length<=b)/\(aa (zN RR A) m ds xs->aa (λx=>zN RR A x\/m.length<=x) m1 ds' ys)
def Inv.mut (I:Inv lo RR m de lv env A)(hd:de[j]?=some (some (.lst ds)))(hj:yx lv j=true):
  ∃l xs,env[j]?=some (some (.ref l))/\m[l]?=some (.lst xs)/\aa RR m ds xs/\∀(m1:Me) (ds':List Dat) (ys:List Wd),Le m m1->(lv[j]?=some .full->ou m m1 ds xs ds' ys)->(lv[j]?=some .top->nG RR A m m1 ds xs ds' ys) ->
   ∃A1,Inv lo RR (m1.set l (.lst ys)) (de.set j (some (.lst ds'))) lv env A1/\bh A m A1 (m1.set l (.lst ys)):=by
 unfold yx at hj;obtain⟨lj,hl⟩:=I.getlv hd;obtain⟨w,a,b⟩:=I.slot j _ lj hd hl;rw[hl]at hj;have hjl:j<de.length:=(Qa.mp hd).1;have live:∀(A1:Nat->List Nat),(∀k,k≠j->A1 k=A k)->∀(ds':List Dat) k d lk,k≠j->(de.set j (some (.lst ds')))[k]?=some (some d)->lv[k]?=some lk->de[k]?=some (some d)/\lv[k]?=some lk/\A1 k=A k:=by
  intro A1 h ds' k d lk e h1 h2;rw[QD (Ne.symm e)]at h1;exact⟨h1,h2,h k e⟩
 cases lj with
 |no=>simp at hj
 |top=>
  obtain⟨es,l,xs,e,rfl,hA,hm,r⟩:=b;cases e;refine⟨l,xs,a,hm,aa.frame (λ_ _ r z=>⟨r.1,z⟩) _ _ r,λm1 ds' ys le _ c=>⟨A,?_⟩⟩;have hlm:=(Qa.mp hm).1;refine I.put le (j:=j) (l:=l) (xs:=xs) (by rw[hA];simp) A (λk a ha=>.inl ⟨k,ha⟩) I.nd I.dj (λk a ha=>⟨(I.bd k a ha).1,Ql (I.bd k a ha).2 le.len⟩) (by simp) rfl (live A (λ_ _=>rfl) ds') ?_;intro d lj h1 h2;rw[QO,Mk rfl,Mk hjl]at h1;cases h1;rw[hl]at h2;cases h2;refine⟨_,a,ds',l,ys,rfl,rfl,hA,xj (le l _ hm),aa.frame (λx o r z=>?_) _ _ (c hl r)⟩;rcases r with r|r
  .exact ⟨r,by rw[yo (l:=l) (x:=x) (λe=>r.2 j (by rw[hA,e];simp))];exact z⟩
  .exact ⟨⟨I.rr x (Qr I.lom r),λk hk=>by have:=(I.bd k x hk).2;lia⟩,by rw[yo (l:=l) (x:=x) (by lia)];exact z⟩
 |full=>
  obtain⟨l,xs,B,rfl,hA,hm,r⟩:=bn.mp b;have hlm:=(Qa.mp hm).1;have nd:=I.nd j;rw[hA]at nd;refine⟨l,xs,a,hm,ao.rep ds xs B (λx hx=>I.rr x (I.bd j x (by rw[hA];exact Qk _ hx)).1) r,λm1 ds' ys le c _=>?_⟩;obtain⟨B',o,nb,hB⟩:=c hl B (QR.mp nd).2 r;have hlB:l∉B':=λz=>by
   rcases hB l z with z|z
   .exact (QR.mp nd).1 z
   .lia
  have sub:∀x∈l::B',x∈A j\/m.length<=x:=by
   intro x hx;rcases Qn.mp hx with rfl|hx
   .left;rw[hA];simp
   .rcases hB x hx with z|z
    .left;rw[hA];exact Qk _ z
    .exact .inr z
  refine⟨aI A j (l::B'),?_⟩;refine I.put le (j:=j) (l:=l) (xs:=xs) (by rw[hA];simp) _ ?_ ?_ ?_ ?_ (by simp) rfl (live _ (λk hk=>zd hk) ds') ?_
  .intro k x hx;by_cases e:k=j
   .subst e;rw[ze]at hx;rcases sub x hx with z|z
    .exact .inl ⟨k,z⟩
    .exact .inr z
   .rw[zd e]at hx;exact .inl ⟨k,hx⟩
  .intro k;by_cases e:k=j
   .subst e;rw[ze];exact QR.mpr ⟨hlB,nb⟩
   .rw[zd e];exact I.nd k
  .intro i k x h1 h2;by_cases e:i=j
   .by_cases f:k=j
    .rw[e,f]
    .rw[e,ze]at h1;rw[zd f]at h2;rcases sub x h1 with z|z
     .rw[e];exact I.dj j k x z h2
     .have:=(I.bd k x h2).2;lia
   .rw[zd e]at h1;by_cases f:k=j
    .rw[f,ze]at h2;rcases sub x h2 with z|z
     .rw[f];exact I.dj i j x h1 z
     .have:=(I.bd i x h1).2;lia
    .rw[zd f]at h2;exact I.dj i k x h1 h2
  .intro k x hx;by_cases e:k=j
   .rw[e,ze]at hx;rcases Qn.mp hx with rfl|hx
    .exact ⟨(I.bd j _ (by rw[hA];simp)).1,Ql hlm le.len⟩
    .refine ⟨?_,ao.lt ds' ys B' o x hx⟩;rcases hB x hx with z|z
     .exact (I.bd j x (by rw[hA];exact Qk _ z)).1
     .exact Qr I.lom z
   .rw[zd e]at hx;exact⟨(I.bd k x hx).1,Ql (I.bd k x hx).2 le.len⟩
  .intro d lj h1 h2;rw[QO,Mk rfl,Mk hjl]at h1;cases h1;rw[hl]at h2;cases h2;refine⟨_,a,?_⟩;rw[ze];exact bn.mpr ⟨l,ys,B',rfl,rfl,xj (le l _ hm),ao.frame ds' ys B' (λx hx o z=>by rw[yo (l:=l) (x:=x) (λe=>hlB (by rw[e];exact hx))];exact z) o⟩
theorem ao.item:∀{ds:List Dat}{xs:List Wd}{A:List Nat}{p:Nat}{d:Dat},ao m ds xs A->ds[p]?=some d->∃x B,(xs[p]?=some x/\bi m d x B)/\∀b∈B,b∈A
 |[],xs,A,p,d,h,z=>by simp at z
 |e::ds,xs,A,0,d,h,z=>by
  obtain⟨x,r,B,C,rfl,rfl,a,b⟩:=h.cons_inv;simp at z;subst z;exact⟨x,B,⟨rfl,a⟩,λb hb=>Wc _ hb⟩
 |e::ds,xs,A,p+1,d,h,z=>by
  obtain⟨x,r,B,C,rfl,rfl,a,b⟩:=h.cons_inv;obtain⟨y,D,h1,h2⟩:=ao.item b (by simpa using z);exact⟨y,D,by simpa using h1,λb hb=>QC _ (h2 b hb)⟩
theorem ao.split:∀{ds:List Dat}{xs:List Wd}{A:List Nat}{p:Nat}{d:Dat},ao m ds xs A->ds[p]?=some d ->
  ∃x B1 Bp B2,xs[p]?=some x/\A=B1++(Bp++B2)/\bi m d x Bp/\(∀(i:Nat) e y,i≠p->ds[i]?=some e->xs[i]?=some y->∃Bi,bi m e y Bi/\∀b∈Bi,b∈B1\/b∈B2)/\∀(m':Me) (d':Dat) (x':Wd) (B':List Nat),(∀l,l∈B1\/l∈B2->∀o,m[l]?=some o->m'[l]?=some o)->bi m' d' x' B'->ao m' (ds.set p d') (xs.set p x') (B1++(B'++B2))
 |[],xs,A,p,d,h,z=>by simp at z
 |e::ds,xs,A,0,d,h,z=>by
  obtain⟨x,r,B,C,rfl,rfl,a,b⟩:=h.cons_inv;simp at z;subst z;refine⟨x,[],B,C,rfl,rfl,a,λi e y hi h1 h2=>?_,λm' d' x' B' fr o=>?_⟩
  .cases i with
   |zero=>exact Mm rfl hi
   |succ i=>
    simp at h1 h2;obtain⟨y',Bi,o,hB⟩:=ao.item b h1;rw[h2]at o;obtain⟨o1,o2⟩:=o;cases o1;exact⟨Bi,o2,λz hz=>.inr (hB z hz)⟩
  show ao m' (d'::ds) (x'::r) (B'++C);exact ao.cons o (ao.frame ds r C (λl hl=>fr l (.inr hl)) b)
 |e::ds,xs,A,p+1,d,h,z=>by
  obtain⟨x,r,B,C,rfl,rfl,a,b⟩:=h.cons_inv;obtain⟨y,B1,Bp,B2,h1,rfl,h3,h5,h4⟩:=ao.split b (by simpa using z);refine⟨y,B++B1,Bp,B2,by simpa using h1,by simp[Qj],h3,λi e' y' hi g1 g2=>?_,λm' d' x' B' fr o=>?_⟩
  .cases i with
   |zero=>simp at g1 g2;subst g1;subst g2;exact⟨B,a,λz hz=>.inl (Wc _ hz)⟩
   |succ i=>
    simp at g1 g2;obtain⟨Bi,o,hB⟩:=h5 i e' y' (by lia) g1 g2;exact⟨Bi,o,λz hz=>by rcases hB z hz with q|q;exact .inl (QC _ q);exact .inr q⟩
  rw[Qj];exact ao.cons (bi.frame e x B (λl hl=>fr l (.inl (Wc _ hl))) a) (h4 m' d' x' B' (λl hl=>fr l (by rcases hl with hl|hl;exact .inl (QC _ hl);exact .inr hl)) o)
def se (le:Le m m1)(o:bi m1 d w B0)(nd:B0.Nodup)(hB:∀b∈B0,m.length<=b):ii RR A m m1 ds xs (ds++[d]) (xs++[w]):=by
 refine⟨λB nb q=>⟨B++(B0++[]),(ao.frame ds xs B (λl _ o z=>le l o z) q).app (.cons o .nil),?_,?_⟩,λq=>?_⟩
 .rw[QZ];refine QN.mpr ⟨nb,nd,λx hx y hy e=>?_⟩;have:=ao.lt ds xs B q x hx;have:=hB y hy;lia
 .intro b hb;rw[QZ]at hb;rcases Qx.mp hb with z|z
  .exact .inl z
  .exact .inr (hB b z)
 .exact (aa.frame (λl o r z=>⟨.inl r,le l o z⟩) _ _ q).app (.cons (bi.rep d w B0 (λb hb=>.inr (hB b hb)) o) .nil)
def DQ (p:Nat)(le:Le m m1)(o:bi m1 d w B0)(nd:B0.Nodup)(hB:∀b∈B0,m.length<=b):ii RR A m m1 ds xs (ds.set p d) (xs.set p w):=by
 refine⟨λB nb q=>?_,λq=>?_⟩
 .cases hp:ds[p]? with
  |none=>
   have h1:ds.length<=p:=Wf.mp hp;rw[VX h1,VX (by rw[<-q.len];exact h1)];exact⟨B,ao.frame ds xs B (λl _ o z=>le l o z) q,nb,λb hb=>.inl hb⟩
  |some e=>
   obtain⟨y,B1,Bp,B2,h1,rfl,h3,_,h4⟩:=ao.split q hp;refine⟨B1++(B0++B2),h4 m1 d w B0 (λl _ o z=>le l o z) o,?_,?_⟩
   .have hlt:=ao.lt ds xs _ q;rw[QN]at nb ⊢;obtain⟨n1,n2,n3⟩:=nb;rw[QN]at n2 ⊢;obtain⟨n4,n5,n6⟩:=n2;refine⟨n1,⟨nd,n5,λx hx y hy e=>?_⟩,λx hx y hy e=>?_⟩
    .have:=hB x hx;have:=hlt y (by simp[hy]);lia
    .rcases Qx.mp hy with hy|hy
     .have:=hB y hy;have:=hlt x (by simp[hx]);lia
     .exact n3 x hx y (QC _ hy) e
   .intro b hb;simp only[Qx]at hb ⊢;rcases hb with z|z|z
    .exact .inl (.inl z)
    .exact .inr (hB b z)
    .exact .inl (.inr (.inr z))
 .exact (aa.frame (λl o r z=>⟨.inl r,le l o z⟩) _ _ q).set p (bi.rep d w B0 (λb hb=>.inr (hB b hb)) o)
theorem ao.rev:∀{ds:List Dat}{xs:List Wd}{A:List Nat},A.Nodup->ao m ds xs A->∃B,ao m ds.reverse xs.reverse B/\B.Nodup/\∀b∈B,b∈A
 |[],xs,A,nd,h=>by rw[h.nil_inv.1];exact⟨[],.nil,QK,by simp⟩
 |d::ds,xs,A,nd,h=>by
  obtain⟨x,r,B,C,rfl,rfl,a,b⟩:=h.cons_inv;obtain⟨n1,n2,n3⟩:=QN.mp nd;obtain⟨D,o,nD,hD⟩:=ao.rev n2 b;rw[Wr,Wr];refine⟨D++(B++[]),o.app (.cons a .nil),?_,?_⟩
  .rw[QZ];exact QN.mpr ⟨nD,n1,λx hx y hy e=>n3 y hy x (hD x hx) e.symm⟩
  .intro b hb;simp only[QZ,Qx]at hb ⊢;rcases hb with z|z
   .exact .inr (hD b z)
   .exact .inl z
def dr:ii RR A m m ds xs ds.reverse xs.reverse:=by
 refine⟨λB nb q=>?_,λq=>(aa.frame (λl o r z=>⟨.inl r,z⟩) _ _ q).rev⟩;obtain⟨D,o,nD,hD⟩:=ao.rev nb q;exact⟨D,o,nD,λb hb=>.inl (hD b hb)⟩
def D9 (h:aa R m ds xs)(hm:m[l]?=some (.lst xs))(b:ah R m e y):ae R m (kA (.ref l) y m) (xB (.lst ds) e):=by
 cases e with
 |int i=>
  rw[ab.mp b];simp only[xB,kA,yH,yq,zj,hm];cases z:(ix ds.length i).bind λj=>ds[j]? with
  |none=>exact ae.no
  |some v=>
   obtain⟨j,h1,h2⟩:=Qy.mp z;obtain⟨x,h3,p⟩:=h.get h2;rw[h.len]at h1;simp only[h1,Q9,h3];exact cS p
 |_=>exact ae.no
def wJ (I:Inv lo RR m de lv env A)(h:∀i∈vs,∀l,lv[i]?=some l->l=.no):bN (zN RR A) m vs de env:=
 ⟨I.len,λi hi d hd=>by
  obtain⟨l,hl⟩:=I.getlv hd;obtain⟨w,a,b⟩:=I.slot i d l hd hl;rw[h i hi l hl]at b;exact⟨w,a,b.1⟩⟩
def sd (de:aU)(j:Nat)(lv:List Lv)(h:k≠j):(ci de j lv)[k]?=lv[k]?:=by
 have q:∃l,ci de j lv=lv.set j l:=by
  unfold ci;generalize de[j]?=p;generalize lv[j]?=q;cases p with
  |none=>exact⟨_,rfl⟩
  |some o=>
   cases o with
   |none=>exact⟨_,rfl⟩
   |some d=>
    cases d with
    |lst ds=>
     cases q with
     |none=>exact⟨_,rfl⟩
     |some l=>cases l<;>exact⟨_,rfl⟩
    |_=>exact⟨_,rfl⟩
 obtain⟨l,e⟩:=q;rw[e];exact QD (Ne.symm h)
set_option tactic.hygienic true in
def DP (e:Ex)(de:aU)(lv:List Lv)(h:k∉zh e):(xC e de lv)[k]?=lv[k]?:=by
 have gen:∀vs,k∉vs->(bo vs lv)[k]?=lv[k]?:=λvs h=>by rw[yJ,Ml (λz=>h z.1)]
 cases e with
 |idx o b=>
  cases o with
  |var j=>
   replace h:k∉j::zh b:=h
   rw[Qn,not_or]at h;show(ci de j (bo (zh b) lv))[k]?=_;rw[sd _ _ _ h.1,gen _ h.2]
  |_=>exact gen _ h
 |dget o b=>
  by_cases q:∃j i w,o=.var j/\b=.idx (.var i) (.neg (.lit w))
  .obtain ⟨j,i,w,rfl,rfl⟩:=q;exact gen [j] (by
    replace h:k∉j::zh (.idx (.var i) (.neg (.lit w))):=h
    rw[Qn,not_or]at h;simpa using h.1)
  .have:xC (.dget o b) de lv=bo (zh (.dget o b)) lv:=by
    unfold xC;split
    .next e=>cases e
    .next e=>cases e;exact Mm ⟨_,_,_,rfl,rfl⟩ q
    .rfl
   rw[this];exact gen _ h
 |_=>exact gen _ h
set_option tactic.hygienic true in
def Inv.topD (I:Inv lo RR m de lv env A)(j:Nat):
  ∃A',Inv lo RR m de (ci de j lv) env A'/\bh A m A' m/\(∀i,i≠j->A' i=A i)/\((∃ds l xs,de[j]?=some (some (.lst ds))/\A' j=[l]/\env[j]?=some (some (.ref l))/\m[l]?=some (.lst xs)/\aa (zN RR A') m ds xs)\/((Vl.ci de j lv)[j]?=some .no\/lv.length<=j)):=by
 by_cases h:(∃ds,de[j]?=some (some (.lst ds)))/\yx lv j=true
 .obtain ⟨⟨ds,hd⟩,ho⟩:=h;obtain⟨l,xs,A',I',K,h1,h2,h3,h4,h5,_⟩:=I.top j hd ho;have:Vl.ci de j lv=lv.set j .top:=by
   unfold Vl.ci;rw[hd];unfold yx at ho;cases z:lv[j]? with
   |none=>rw[z]at ho;simp at ho
   |some l=>rw[z]at ho;cases l<;>simp at ho ⊢
  rw[this];exact⟨A',I',K,h2,.inl ⟨ds,l,xs,hd,h1,h3,h4,h5⟩⟩
 .obtain ⟨I',K⟩:=I.down j;have:Vl.ci de j lv=lv.set j .no:=by
   unfold Vl.ci;split
   .next ds hd hl=>exact Mm ⟨⟨ds,hd⟩,by unfold yx;rw[hl]⟩ h
   .next ds hd hl=>exact Mm ⟨⟨ds,hd⟩,by unfold yx;rw[hl]⟩ h
   .rfl
  rw[this];refine⟨_,I',K,λi hi=>zd hi,.inr ?_⟩;by_cases z:j<lv.length
  .left;rw[QO,Mk rfl,Mk z]
  .right;lia
set_option tactic.hygienic true in
def Inv.relEv (H:bG lev cl cd)(I:Inv lo RR m de lv env A)(e:Ex):
  ∃A',Inv lo RR m de (xC e de lv) env A'/\bh A m A' m/\(∀k,k∉zh e->A' k=A k)/\aJ (zN RR A') m (a9 lev e) (ag cl e env m) (am cd e de):=by
 have gen:xC e de lv=Vl.bo (zh e) lv->∃A',Inv lo RR m de (xC e de lv) env A'/\bh A m A' m/\(∀k,k∉zh e->A' k=A k)/\aJ (zN RR A') m (a9 lev e) (ag cl e env m) (am cd e de):=by
  intro h;rw[h];obtain⟨A',I',K,h1,_,h3⟩:=Inv.downs (zh e) I;refine⟨A',I',K,h3,xw H e _ m de env (wJ I' λi hi l hl=>?_)⟩;rw[yJ]at hl;split at hl
  .cases hl;rfl
  .next z=>rw[QE (by have:¬i<lv.length:=λq=>z ⟨hi,q⟩;lia)]at hl;cases hl
 cases e with
 |dget a b=>
  by_cases q:∃j i w,a=.var j/\b=.idx (.var i) (.neg (.lit w))
  .obtain ⟨j,i0,w0,rfl,rfl⟩:=q;show ∃A',Inv lo RR m de (Vl.bo [j] lv) env A'/\_;obtain⟨A1,I1,K1,h1,_,h3⟩:=Inv.downs [j] I;refine⟨A1,I1,K1,λk hk=>h3 k (λz=>hk (by
    have z:k=j:=by simpa using z
    subst z;show k∈k::zh (.idx (.var i0) (.neg (.lit w0)))
    simp)),ae.own ?_ (λd=>rfl)⟩
   show ae _ m ((ag cl (.var j) env m).bind λx m1=>(ag cl (.idx (.var i0) (.neg (.lit w0))) env m1).bind λy m2=>jX x y m2) ((am cd (.var j) de).bind λx=>(am cd (.idx (.var i0) (.neg (.lit w0))) de).bind λy=>vJ x y);refine(za H.r (.var j) _ m de env (wJ I1 λi hi l hl=>?_)).bind λd w m1 l1 r1=>?_
   .have hi:i=j:=by simpa using hi
    subst hi;rw[yJ]at hl;split at hl
    .cases hl;rfl
    .next z=>rw[QE (by have:¬i<lv.length:=λq=>z ⟨by simp,q⟩;lia)]at hl;cases hl
   .have hb:=za H.r (.idx (.var i0) (.neg (.lit w0))) RR m1 de env ((I1.ext l1).envR _);cases z2:am cd (.idx (.var i0) (.neg (.lit w0))) de with
    |no=>trivial
    |exc c d2=>
     exfalso;have hx:∀(x y:Dat) (c:Nat) (d:Dat),xB x y≠.exc c d:=λx y c d z=>by
      unfold xB at z
      repeat' split at z
      all_goals cases z
     have:(am cd (.var i0) de).bind (λx=>(am cd (.neg (.lit w0)) de).bind λy=>xB x y)=.exc c d2:=z2;cases e1:am cd (.var i0) de with
     |no=>rw[e1]at this;cases this
     |exc _ _=>
      have e1:(match de[i0]? with|some (some d)=>Rd.ok d|_=>.no)=_:=e1;split at e1<;>cases e1
     |ok x=>
      rw[e1]at this;cases e2:am cd (.neg (.lit w0)) de with
      |no=>
       have this:(am cd (.neg (.lit w0)) de).bind (λy=>xB x y)=.exc c d2:=this;rw[e2]at this;cases this
      |exc _ _=>
       have e2:(am cd (.lit w0) de).bind (λx=>match x with |.int i=>Rd.ok (.int (-i))|_=>.no)=_:=e2;cases e3:am cd (.lit w0) de with
       |no=>rw[e3]at e2;cases e2
       |exc _ _=>
        have e3:(match oh w0 with|some d=>Rd.ok d|none=>.no)=_:=e3;split at e3<;>cases e3
       |ok z=>
        rw[e3]at e2;have e2:(match z with |.int i=>Rd.ok (.int (-i))|_=>.no)=_:=e2;split at e2<;>cases e2
      |ok y=>
       have this:(am cd (.neg (.lit w0)) de).bind (λy=>xB x y)=.exc c d2:=this;rw[e2]at this;exact hx x y c d2 this
    |ok d2=>
     rw[z2]at hb;obtain⟨w2,m2,e2,l2,r2⟩:=hb;rw[e2];cases hk:xf d2 with
     |none=>
      have:vJ d d2=.no:=by
       cases d with
       |dct ks ds=>show(match (xf d2).bind (cq ks ds)with|some v=>Rd.ok v|none=>.no)=_;rw[hk];rfl
       |_=>rfl
      show ae _ _ _ (vJ d d2);rw[this];trivial
     |some k=>
      have fl:ax d2=true:=by
       cases d2 with
       |tup ds=>
        have hk:zC ds=some k:=hk;show aW ds=true;clear r2 z2
        induction ds generalizing k with
        |nil=>rfl
        |cons x r ih=>
         cases x with
         |int i=>
          obtain⟨k',e,rfl⟩:=QJ.mp (show(zC r).map (i::·)=some k from hk);show(ax (.int i)&&aW r)=true;rw[ih _ e e];rfl
         |_=>cases hk
       |_=>cases hk
      have r3:ah (λ_=>False) m2 d2 w2:=bi.rep d2 w2 [] (by simp) (ah.flat (m':=m2) d2 w2 fl r2);exact ae.lift l2 (sC (ah.frame (λl o r z=>⟨.inl r,l2 l o z⟩) _ _ r1) (ah.frame (λl o r z=>⟨.inl (by cases r),z⟩) _ _ r3))
  .refine gen ?_;unfold xC;split
   .next e=>cases e
   .next e=>cases e;exact Mm ⟨_,_,_,rfl,rfl⟩ q
   .rfl
 |idx a b=>
  cases a with
  |var j=>
   show ∃A',Inv lo RR m de (Vl.ci de j (Vl.bo (zh b) lv)) env A'/\_;obtain⟨A1,I1,K1,h1,h2,h3⟩:=Inv.downs (zh b) I;obtain⟨A2,I2,K2,g1,g2⟩:=I1.topD j;have hne:∀k,k∉zh (.idx (.var j) b)->A2 k=A k:=by
    intro k hk
    replace hk:k∉j::zh b:=hk
    rw[Qn,not_or]at hk;rw[g1 k hk.1,h3 k hk.2]
   refine⟨A2,I2,K1.trans K2,hne,?_⟩;have lvno:∀i,i∈zh b->i≠j->∀l,(Vl.ci de j (Vl.bo (zh b) lv))[i]?=some l->l=.no:=by
    intro i hi hij l hl;rw[sd _ _ _ hij,yJ]at hl;split at hl
    .cases hl;rfl
    .next z=>rw[QE (by have:¬i<lv.length:=λq=>z ⟨hi,q⟩;lia)]at hl;cases hl
   rcases g2 with⟨ds,l,xs,hd,hA,he,hm,hr⟩|g2
   .have hjb:j∉zh b:=λz=>by
     have h0:=h1 j z;have hx:l∈A1 j:=by
      have i1:=I1;by_cases q:l∈A1 j
      .exact q
      .exfalso;have:=(K2.1 l _ (λk hk=>?_) hm).1 j
       .rw[hA]at this;exact this (by simp)
       .by_cases ek:k=j
        .rw[ek]at hk;exact q hk
        .have e1:=g1 k ek;rw[<-e1]at hk;exact ek (I2.dj k j l hk (by rw[hA];simp))
     rw[h0]at hx;cases hx
    refine ae.own ?_ (λd=>rfl);show ae _ m ((ag cl (.var j) env m).bind λx m1=>(ag cl b env m1).bind λy m2=>kA x y m2) ((am cd (.var j) de).bind λx=>(am cd b de).bind λy=>xB x y);have e1:ag cl (.var j) env m=.ok (.ref l) m:=wm he m;have e2:am cd (.var j) de=.ok (.lst ds):=xO hd;rw[e1,e2];simp only[Rz.bind,Rd.bind];refine(za H.r b _ m de env (wJ I2 λi hi=>lvno i hi (λe=>hjb (by rw[<-e];exact hi)))).bind λd2 w2 m2 l2 k2=>?_;exact D9 (hr.up _ l2) (l2 l _ hm) k2
   .refine xw H _ _ m de env (wJ I2 λi hi l hl=>?_)
    replace hi:i∈j::zh b:=hi
    rw[Qn]at hi;by_cases e:i=j
    .rw[e]at hl;rcases g2 with g2|g2
     .rw[g2]at hl;cases hl;rfl
     .have:(Vl.ci de j (Vl.bo (zh b) lv)).length=(Vl.bo (zh b) lv).length:=by rw[I2.lvl,I1.lvl]
      rw[QE (by lia)]at hl;cases hl
    .rcases hi with z|z
     .exact Mm z e
     .exact lvno i z e l hl
  |_=>exact gen rfl
 |_=>exact gen rfl
def aA(lo:Nat)(RR:Nat->Prop)(A:Nat->List Nat)(m:Me)(r:Rs)(rd:bX):Prop:=match rd with
 |.next de lv=>∃env m' A',r=.next env m'/\Inv lo RR m' de lv env A'/\bh A m A' m'
 |.brk de lv=>∃env m' A',r=.brk env m'/\Inv lo RR m' de lv env A'/\bh A m A' m'
 |.cont de lv=>∃env m' A',r=.cont env m'/\Inv lo RR m' de lv env A'/\bh A m A' m'
 |.ret d l=>∃w m' B,r=.ret w m'/\((∀(x:Nat) o,(∀i,x∉A i)->m[x]?=some o->m'[x]?=some o)/\m.length<=m'.length)/\bz (λx=>RR x/\x∉B) m' l d w B/\B.Nodup/\∀b∈B,lo<=b
 |.exc c d=>∃w e m',r=.exc c w e m'/\((∀(x:Nat) o,(∀i,x∉A i)->m[x]?=some o->m'[x]?=some o)/\m.length<=m'.length)/\ah RR m' d w
 |.no=>True
set_option tactic.hygienic true in
def aA.keep{lo:Nat}{RR:Nat->Prop}{A A1:Nat->List Nat}{m m1:Me}{r:Rs}{rd:bX}(K:bh A m A1 m1)(h:aA lo RR A1 m1 r rd):aA lo RR A m r rd:=by
 cases rd with
 |next de lv=>obtain⟨e,m',A',h,I,k⟩:=h;exact⟨e,m',A',h,I,K.trans k⟩
 |brk de lv=>obtain⟨e,m',A',h,I,k⟩:=h;exact⟨e,m',A',h,I,K.trans k⟩
 |cont de lv=>obtain⟨e,m',A',h,I,k⟩:=h;exact⟨e,m',A',h,I,K.trans k⟩
 |ret d l=>obtain⟨w,m',B,h,k,z⟩:=h;exact⟨w,m',B,h,⟨λx o a b=>k.1 x o (K.1 x o a b).1 (K.1 x o a b).2,Qr K.2 k.2⟩,z⟩
 |exc c d=>obtain⟨w,e,m',h,k,z⟩:=h;exact⟨w,e,m',h,⟨λx o a b=>k.1 x o (K.1 x o a b).1 (K.1 x o a b).2,Qr K.2 k.2⟩,z⟩
 |no=>trivial
def Inv.rf (I:Inv lo RR m de lv env A)(h:ah (Rf RR m.length) m' d w):ah RR m' d w:=
 ah.frame (λx o r z=>⟨by rcases r with r|r;exact r;exact I.rr x (Qr I.lom r),z⟩) d w h
def Inv.bindE (H:bx cl cd)(I:Inv lo RR m de lv env A)(e:Ex)(k:∀d w m1,am cd e de=.ok d->ag cl e env m=.ok w m1->Le m m1->ah RR m1 d w->aA lo RR A m1 (f w m1) (g d)):aA lo RR A m ((ag cl e env m).bindS env f) ((am cd e de).bindS g):=by
 have h:=za H e RR m de env (I.envR _);cases z:am cd e de with
 |no=>trivial
 |exc c d=>
  rw[z]at h;obtain⟨w,m',h,l,r⟩:=h;rw[h];exact⟨w,env,m',rfl,⟨λx o _ b=>l x o b,l.len⟩,I.rf r⟩
 |ok d=>
  rw[z]at h;obtain⟨w,m',h,l,r⟩:=h;have:=k d w m' z h l (I.rf r);rw[h];exact aA.keep (kI l) this
def Inv.own (H:bG lev cl cd)(I:Inv lo RR m de lv env A)(h1:am cd e de=.ok d)(h2:ag cl e env m=.ok w m1):
  ∃B,bz (λx=>RR x/\x∉B) m1 (a9 lev e d) d w B/\B.Nodup/\∀b∈B,m.length<=b:=by
 have h:=xw H e RR m de env (I.envR _);rw[h1]at h;obtain⟨w',m',B,h3,l,r,nd,hB⟩:=h;rw[h2]at h3;cases h3;exact⟨B,r.frame (λx o r z=>⟨⟨by rcases r.1 with r|r;exact r;exact I.rr x (Qr I.lom r),r.2⟩,z⟩) (λ_ _ _ z=>z),nd,hB⟩
section
variable{lev:Nat->Lv}{cl:Nat->List Wd->Me->Rz}{cd:Nat->List Dat->Rd}{lo:Nat}{RR:Nat->Prop}{m:Me}{de:aU}{lv:List Lv}{env:En}{A:Nat->List Nat}
set_option tactic.hygienic true in
def qp (h:ql de j=some ds):de[j]?=some (some (.lst ds)):=by
 unfold ql at h;split at h
 .next z=>cases h;exact z
 .cases h
def wV (h:env[j]?=some (some w))(m:Me):ag cl (.var j) env m=.ok w m:=by
 exact wm h m
def DO(H:bG lev cl cd)(I:Inv lo RR m de lv env A)(i:Nat)(e:Ex):aA lo RR A m (bD cl (.asg i e) env m) (aR lev cd (.asg i e) de lv):=by
 have h:aA lo RR A m ((ag cl e env m).bindS env λw m1=>.next (env.set i (some w)) m1) ((am cd e de).bindS λd=>xi lev i e d de lv):=by
  cases z:am cd e de with
  |no=>trivial
  |exc c d=>
   have:=I.bindE H.r e (f:=λw m1=>.next (env.set i (some w)) m1) (g:=λd=>.no) (λ_ _ _ _ _ _ _=>trivial);rw[z]at this;exact this
  |ok d=>
   show aA lo RR A m _ (xi lev i e d de lv);unfold xi;by_cases f:a9 lev e d=.full
   .rw[Mk f];have h:=xw H e RR m de env (I.envR _);rw[z]at h;obtain⟨w,m1,B,h2,l,r,nd,hB⟩:=h;rw[h2];rw[f]at r;obtain⟨I',K⟩:=I.store l i (l:=.full) (d:=d) (w:=w) (B:=B) r nd hB;exact⟨_,_,_,rfl,I',K⟩
   .rw[Ml f];obtain⟨A1,I1,K1,_,h⟩:=I.relEv H e;rw[z]at h;obtain⟨w,m1,B,h2,l,r,nd,hB⟩:=h;rw[h2];obtain⟨I',K⟩:=I1.store l i (l:=a9 lev e d) (d:=d) (w:=w) (B:=B) r nd hB;exact⟨_,_,_,rfl,I',K1.trans K⟩
 exact h
set_option tactic.hygienic true in
def D8 (H:bG lev cl cd)(I:Inv lo RR m de lv env A)(hd:de[j]?=some (some (.lst ds)))(h1:am cd e de=.ok d)(h2:ag cl e env m=.ok w m1)(l1:Le m m1)(l2:Le m1 m2)(g:gb lev e d j de lv=some (de1,lv1))(F:List Dat->Dat->List Dat)(G:List Wd->Wd->List Wd)(cF:∀(m m1:Me) (A:Nat->List Nat) (ds:List Dat) (xs:List Wd) (d:Dat) (w:Wd) (B0:List Nat),Le m m1->bi m1 d w B0->B0.Nodup->(∀b∈B0,m.length<=b)->ii RR A m m1 ds xs (F ds d) (G xs w))(cM:∀(m:Me) (ds:List Dat) (xs:List Wd) (d:Dat) (w:Wd) (B B0:List Nat),(B++B0).Nodup->ao m ds xs B->bi m d w B0->∃B',ao m (F ds d) (G xs w) B'/\B'.Nodup/\∀b∈B',b∈B\/b∈B0)(cT:∀(R:Nat->Prop) (m:Me) (ds:List Dat) (xs:List Wd) (d:Dat) (w:Wd),aa R m ds xs->ah R m d w->aa R m (F ds d) (G xs w)):
  ∃l xs,env[j]?=some (some (.ref l))/\m2[l]?=some (.lst xs)/\ds.length=xs.length/\∃A',Inv lo RR (m2.set l (.lst (G xs w))) (de1.set j (some (.lst (F ds d)))) lv1 env A'/\bh A m A' (m2.set l (.lst (G xs w))):=by
 have l12:=l1.trans l2;unfold gb at g;split at g
 .cases g
 .next ho=>
  have ho:yx lv j=true:=by simpa using ho
  split at g
  .next f=>
   cases g;obtain⟨B,r,nd,hB⟩:=I.own H h1 h2;rw[f]at r;obtain⟨l,xs,he,hm,hr,put⟩:=I.mut hd ho;have r':bi m2 d w B:=bi.frame d w B (λx _ o z=>l2 x o z) r;refine⟨l,xs,he,l12 l _ hm,hr.len,put m2 _ _ l12 (λ_=>(cF m m2 A ds xs d w B l12 r' nd hB).1) (λ_=>(cF m m2 A ds xs d w B l12 r' nd hB).2)⟩
  .next f=>
   split at g
   .cases g
   .next hj=>
    have share:lv1=(xC e de lv).set j .top->de1=de->∃l xs,env[j]?=some (some (.ref l))/\m2[l]?=some (.lst xs)/\ds.length=xs.length/\∃A',Inv lo RR (m2.set l (.lst (G xs w))) (de1.set j (some (.lst (F ds d)))) lv1 env A'/\bh A m A' (m2.set l (.lst (G xs w))):=by
     rintro rfl rfl;obtain⟨A1,I1,K1,hA1,h⟩:=I.relEv H e;rw[h1]at h;have ho1:yx (xC e de1 lv) j=true:=by unfold yx;rw[DP e _ _ hj];exact ho
     obtain⟨l,xs,A2,I2,K2,g1,g2,he,hm,hr,hlA⟩:=I1.top j hd ho1;have hs:=h.sim;obtain⟨w',m',h3,_,rw0⟩:=hs;rw[h2]at h3;cases h3;have hjl:j<(xC e de1 lv).length:=by rw[I1.lvl];exact(Qa.mp hd).1
     have ho2:yx ((xC e de1 lv).set j .top) j=true:=by unfold yx;rw[QO,Mk rfl,Mk hjl]
     have hlv:((xC e de1 lv).set j .top)[j]?=some .top:=by rw[QO,Mk rfl,Mk hjl]
     obtain⟨l',xs',he',hm',_,put⟩:=I2.mut hd ho2;rw[he]at he';cases he';rw[hm]at hm';cases hm';obtain⟨A3,I3,K3⟩:=put m2 (F ds d) (G xs w) l12 (λz=>by rw[hlv]at z;cases z) (λ_ q=>by
      refine cT _ m2 ds xs d w (aa.frame (λx o r z=>⟨.inl r,l12 x o z⟩) _ _ q) (ah.frame (λx o r z=>⟨?_,l2 x o z⟩) _ _ rw0);rcases r with r|r
      .left
       refine⟨r.1,λk hk=>?_⟩;by_cases ek:k=j
       .rw[ek,g1]at hk;rw[Qq.mp hk]at r;exact r.2 j hlA
       .rw[g2 k ek]at hk;exact r.2 k hk
      .exact .inr r)
     exact⟨l,xs,he,l12 l _ hm,hr.len,A3,I3,(K1.trans K2).trans K3⟩
    split at g
    .next i=>
     split at g
     .next hfull=>
      cases g;have hij:i≠j:=λe=>hj (by rw[e];exact Qq.mpr rfl)
      -- the move
      have hdi:de[i]?=some (some d):=by
       exact kF h1
      obtain⟨wi,hei,ri⟩:=I.slot i d .full hdi hfull.1;have:ag cl (.var i) env m=.ok wi m:=wV hei m;rw[this]at h2;cases h2;obtain⟨wj,hej,rj⟩:=I.slot j _ .full hd hfull.2;obtain⟨l,xs,B,rfl,hA,hm,r⟩:=bn.mp rj;have hlm:=(Qa.mp hm).1;have nd:=I.nd j;rw[hA]at nd;obtain⟨n0,n1⟩:=QR.mp nd;have nBi:(B++A i).Nodup:=QN.mpr ⟨n1,I.nd i,λx hx y hy e=>by
       subst e;exact hij (I.dj i j x hy (by rw[hA];exact Qk _ hx))⟩
      obtain⟨B',o,nB',hB'⟩:=cM m ds xs d w B (A i) nBi r ri;have lB':l∉B':=λz=>by
       rcases hB' l z with q|q
       .exact n0 q
       .exact hij (I.dj i j l q (by rw[hA];simp))
      have sub:∀x∈l::B',x∈A j\/x∈A i:=by
       intro x hx;rcases Qn.mp hx with rfl|hx
       .left;rw[hA];simp
       .rcases hB' x hx with q|q
        .left;rw[hA];exact Qk _ q
        .exact .inr q
      have hjl:j<de.length:=(Qa.mp hd).1;have hil:i<de.length:=(Qa.mp hdi).1;have ui:aI (aI A i []) j (l::B') i=[]:=by rw[zd hij,ze]
      have uo:∀k,k≠i->k≠j->aI (aI A i []) j (l::B') k=A k:=λk a b=>by rw[zd b,zd a]
      have ll2:=l2.len;refine⟨l,xs,hej,l2 l _ hm,r.len,aI (aI A i []) j (l::B'),?_⟩;refine I.put l2 (j:=j) (l:=l) (xs:=xs) (by rw[hA];simp) _ ?_ ?_ ?_ ?_ (by simp) rfl ?_ ?_
      .intro k x hx
       left
       by_cases e:k=j
       .rw[e,ze]at hx;rcases sub x hx with q|q
        .exact ⟨j,q⟩
        .exact ⟨i,q⟩
       .by_cases f:k=i
        .rw[f,ui]at hx;cases hx
        .rw[uo k f e]at hx;exact⟨k,hx⟩
      .intro k;by_cases e:k=j
       .rw[e,ze];exact QR.mpr ⟨lB',nB'⟩
       .by_cases f:k=i
        .rw[f,ui];simp
        .rw[uo k f e];exact I.nd k
      .have main:∀k x,k≠j->x∈l::B'->x∈aI (aI A i []) j (l::B') k->False:=by
        intro k x e hx hk;by_cases f:k=i
        .rw[f,ui]at hk;cases hk
        .rw[uo k f e]at hk;rcases sub x hx with q|q
         .exact e (I.dj k j x hk q)
         .exact f (I.dj k i x hk q)
       intro a b x ha hb;by_cases e:a=j
       .by_cases f:b=j
        .rw[e,f]
        .rw[e,ze]at ha;exact(main b x f ha hb).elim
       .by_cases f:b=j
        .rw[f,ze]at hb;exact(main a x e hb ha).elim
        .by_cases g:a=i
         .rw[g,ui]at ha;cases ha
         .by_cases h:b=i
          .rw[h,ui]at hb;cases hb
          .rw[uo a g e]at ha;rw[uo b h f]at hb;exact I.dj a b x ha hb
      .intro k x hx;by_cases e:k=j
       .rw[e,ze]at hx;rcases sub x hx with q|q
        .exact ⟨(I.bd j x q).1,Ql (I.bd j x q).2 ll2⟩
        .exact ⟨(I.bd i x q).1,Ql (I.bd i x q).2 ll2⟩
       .by_cases f:k=i
        .rw[f,ui]at hx;cases hx
        .rw[uo k f e]at hx;exact⟨(I.bd k x hx).1,Ql (I.bd k x hx).2 ll2⟩
      .intro k d' lk e g1 g2;rw[QD (Ne.symm e)]at g1;by_cases f:k=i
       .rw[f,QO,Mk rfl,Mk hil]at g1;cases g1
       .rw[QD (Ne.symm f)]at g1;exact⟨g1,g2,uo k f e⟩
      .intro d' lj g1 g2;rw[QO,Mk rfl,Mk (by simpa using hjl)]at g1;cases g1;rw[hfull.2]at g2;cases g2;refine⟨_,hej,?_⟩;rw[ze];exact bn.mpr ⟨l,_,B',rfl,rfl,xj (l2 l _ hm),ao.frame _ _ B' (λx hx o z=>by rw[yo (l:=l) (x:=x) (λe=>lB' (by rw[e];exact hx))];exact l2 x o z) o⟩
     .cases g;exact share rfl rfl
    .cases g;exact share rfl rfl
end
section
variable{lev:Nat->Lv}{cl:Nat->List Wd->Me->Rz}{cd:Nat->List Dat->Rd}{lo:Nat}{RR:Nat->Prop}{m:Me}{de:aU}{lv:List Lv}{env:En}{A:Nat->List Nat}
def AG (h1:ag cl o env m=.ok x m1)(h2:ag cl e env m1=.ok w m2)(hl:yC x m1=true:=by simp only[yC,aX];simp_all):ag cl (.meth n o (.pair e .unit)) env m=du n x [w] m2:=by
 show(ag cl o env m).bind (λx m1=>match yC x m1 with|true=>((ag cl e env m1).bind λa m2=>.ok (.tup [a]) m2).bind λy m2=>du n x (zy y) m2|false=>.no)=_;rw[h1];show(match yC x m1 with|true=>((ag cl e env m1).bind λa m2=>.ok (.tup [a]) m2).bind λy m2=>du n x (zy y) m2|false=>.no)=_;rw[hl,h2];rfl
def DN (h1:ag cl o env m=.ok x m1)(hl:yC x m1=true:=by simp only[yC,aX];simp_all):ag cl (.meth n o .unit) env m=du n x [] m1:=by
 show(ag cl o env m).bind (λx m1=>match yC x m1 with|true=>du n x [] m1|false=>.no)=_;rw[h1];show(match yC x m1 with|true=>du n x [] m1|false=>.no)=_;rw[hl]
def CI (n:(B++B0).Nodup)(a:ao m ds xs B)(b:bi m d w B0):∃B',ao m (ds++[d]) (xs++[w]) B'/\B'.Nodup/\∀b∈B',b∈B\/b∈B0:=
 ⟨B++(B0++[]),a.app (.cons b .nil),by simpa using n,λx hx=>by simpa using hx⟩
theorem aA.okS{r:Rs}{rd:Rd}{g:Dat->bX}(h:∀d,rd=.ok d->aA lo RR A m r (g d)):aA lo RR A m r (rd.okS g):=by
 cases rd with
 |ok d=>exact h d rfl
 |_=>trivial
theorem Inv.ok (H:bx cl cd)(I:Inv lo RR m de lv env A)(h:am cd e de=.ok d)(l:Le m m1):∃w m2,ag cl e env m1=.ok w m2/\Le m1 m2/\ah RR m2 d w:=by
 have q:=za H e RR m1 de env ((I.ext l).envR _);rw[h]at q;obtain⟨w,m2,a,b,c⟩:=q;exact⟨w,m2,a,b,(I.ext l).rf c⟩
def Inv.isRef (I:Inv lo RR m de lv env A){j:Nat}(hd:de[j]?=some (some (.lst ds)))(he:env[j]?=some (some w)):yC w m=true:=by
 obtain⟨lj,hl⟩:=I.getlv hd;obtain⟨w',a,b⟩:=I.slot j _ lj hd hl;rw[he]at a;cases a;obtain⟨l,xs,rfl,_,hm,_⟩:=aw.mp (b.rep (R':=λ_=>True) (λ_ _=>trivial) (λ_ _=>trivial));simp[yC,aX,hm]
set_option tactic.hygienic true in
def D7(H:bG lev cl cd)(I:Inv lo RR m de lv env A)(j:Nat)(e:Ex):aA lo RR A m (bD cl (.expr (.meth .append (.var j) (.pair e .unit))) env m) (aR lev cd (.expr (.meth .append (.var j) (.pair e .unit))) de lv):=by
 show aA _ _ _ _ ((ag cl _ env m).bindS env _) _;refine aA.okS λd h1=>?_;split
 .next ds hl=>
  split
  .next hlim=>
   split
   .next de1 lv1 g=>
    obtain⟨w,m1,h2,l1,r1⟩:=I.ok H.r h1 (Le.refl m);obtain⟨l,xs,he,hm,hlen,A',I',K⟩:=D8 H I (qp hl) h1 h2 l1 (Le.refl m1) g (λds d=>ds++[d]) (λxs w=>xs++[w])
     (λ_ _ _ _ _ _ _ _ le o nd hB=>se le o nd hB) (λ_ _ _ _ _ _ _ n a b=>CI n a b) (λ_ _ _ _ _ _ a b=>a.app (.cons b .nil))
    rw[AG (wV he m) h2 (I.isRef (qp hl) he)];have:du .append (.ref l) [w] m1=.ok .non (m1.set l (.lst (xs++[w]))):=by
     simp only[du,hm];rw[Mk (by lia)]
    rw[this];exact⟨_,_,A',rfl,I',K⟩
   .trivial
  .trivial
 .trivial
set_option tactic.hygienic true in
def D6(I:Inv lo RR m de lv env A)(j:Nat):aA lo RR A m (bD cl (.expr (.meth .reverse (.var j) .unit)) env m) (aR lev cd (.expr (.meth .reverse (.var j) .unit)) de lv):=by
 show aA _ _ _ _ ((ag cl _ env m).bindS env _) (match ql de j with
   |some ds=>if yx lv j then .next (de.set j (some (.lst ds.reverse))) lv else .no
   |none=>.no)
 split
 .next ds hl=>
  split
  .next ho=>
   obtain⟨l,xs,he,hm,hr,put⟩:=I.mut (qp hl) ho;obtain⟨A',I',K⟩:=put m ds.reverse xs.reverse (Le.refl m) (λ_=>(dr (RR:=RR) (A:=A)).1) (λ_=>dr.2);rw[DN (wV he m)];have:du .reverse (.ref l) [] m=.ok .non (m.set l (.lst xs.reverse)):=by simp only[du,hm]
   rw[this];exact⟨_,_,A',rfl,I',K⟩
  .trivial
 .trivial
set_option tactic.hygienic true in
def CH(H:bG lev cl cd)(I:Inv lo RR m de lv env A)(i:Nat)(op:Bo)(e:Ex):aA lo RR A m (bD cl (.aug i op e) env m) (aR lev cd (.aug i op e) de lv):=by
 show aA _ _ _ _ _ (match de[i]? with
  |some (some (.int a))=>(am cd e de).okS λy=>match y with
   |.int b=>(yn op (.int a) (.int b)).okS λz=>.next (de.set i (some z)) (lv.set i .full)
   |_=>.no
  |_=>.no)
 split
 .next a ha=>
  refine aA.okS λy hy=>?_;split
  .next b=>
   refine aA.okS λz hz=>?_;obtain⟨la,hla⟩:=I.getlv ha;obtain⟨wa,hea,ra⟩:=I.slot i _ la ha hla;have ra':=ra.rep (R':=RR) (λ_ z=>z.1) (λx hx=>I.rr x (I.bd i x hx).1);rw[ab.mp ra']at hea;show aA _ _ _ _ (match env[i]? with
    |some (some x)=>(ag cl e env m).bindS env λy m1=>fK op x y m1 env λz m2=>.next (env.set i (some z)) m2
    |_=>.no) _
   rw[hea];obtain⟨w,m1,h2,l1,r1⟩:=I.ok H.r hy (Le.refl m);rw[ab.mp r1]at h2;simp only[h2,Rz.bindS,fK];have hs:=qf (R:=RR) (m:=m1) op (d:=.int a) (e:=.int b) (ab.mpr rfl) (ab.mpr rfl);rw[hz]at hs;obtain⟨w3,m3,h3,l3,r3⟩:=hs;rw[h3];have fz:ax z=true:=by
    cases op<;>simp only[yn]at hz
    .cases hz;rfl
    .cases hz;rfl
    all_goals (split at hz<;>(cases hz;try rfl))
   obtain⟨I',K⟩:=I.store (l1.trans l3) i (l:=.full) (d:=z) (w:=w3) (B:=[]) (r3.flat z w3 fz) QK (by simp);exact⟨_,_,_,rfl,I',K⟩
  .trivial
 .trivial
end
section
variable{m:Me}
mutual
theorem ah.avoid{R R':Nat->Prop}{m:Me}{D:Dat}{l:Nat}(hD:ah R' m D (.ref l)):∀(d:Dat) (w:Wd),dL d<dL D->ah R m d w->ah (λx=>R x/\x≠l) m d w
 |.non,w,h,q=>az.mpr (az.mp q)
 |.bl _,w,h,q=>ai.mpr (ai.mp q)
 |.int _,w,h,q=>ab.mpr (ab.mp q)
 |.str _,w,h,q=>aD.mpr (aD.mp q)
 |.scr _,w,h,q=>bj.mpr (bj.mp q)
 |.tup ds,w,h,q=>by
  obtain⟨xs,rfl,q1⟩:=af.mp q;exact af.mpr ⟨xs,rfl,aa.avoid hD ds xs (by rw[show dL (.tup ds)=cR ds+1 from by simp[dL]]at h;lia) q1⟩
 |.lst ds,w,h,q=>by
  obtain⟨k,xs,rfl,r,hm,q1⟩:=aw.mp q;refine aw.mpr ⟨k,xs,rfl,⟨r,λe=>?_⟩,hm,aa.avoid hD ds xs (by rw[show dL (.lst ds)=cR ds+1 from by simp[dL]]at h;lia) q1⟩;subst e;have:=ah.det _ _ _ q hD;rw[this]at h;lia
 |.dct ks ds,w,h,q=>by
  obtain⟨k,xs,rfl,r,hm,q1⟩:=aT.mp q;refine aT.mpr ⟨k,xs,rfl,⟨r,λe=>?_⟩,hm,aa.avoid hD ds xs (by rw[show dL (.dct ks ds)=cR ds+1 from by simp[dL]]at h;lia) q1⟩;subst e;have:=ah.det _ _ _ q hD;rw[this]at h;lia
theorem aa.avoid{R R':Nat->Prop}{m:Me}{D:Dat}{l:Nat}(hD:ah R' m D (.ref l)):∀(ds:List Dat) (xs:List Wd),cR ds<dL D->aa R m ds xs->aa (λx=>R x/\x≠l) m ds xs
 |[],xs,h,q=>by rw[q.nil_inv];exact .nil
 |d::ds,xs,h,q=>by
  obtain⟨x,r,rfl,a,b⟩:=q.cons_inv;unfold cR at h;exact .cons (ah.avoid hD d x (by lia) a) (aa.avoid hD ds r (by lia) b)
end
end
section
variable{cl:Nat->List Wd->Me->Rz}{cd:Nat->List Dat->Rd}{lo:Nat}{RR:Nat->Prop}{m:Me}{de:aU}{lv:List Lv}{env:En}{A:Nat->List Nat}
def AF (H:bx cl cd)(q:bN R m (zh e) de env)(h:am cd e de=.ok d)(hR:∀l,m.length<=l->R l):∃w m2,ag cl e env m=.ok w m2/\Le m m2/\ah R m2 d w:=by
 have q:=za H e R m de env q;rw[h]at q;obtain⟨w,m2,a,b,c⟩:=q;exact⟨w,m2,a,b,ah.frame (λx o r z=>⟨by rcases r with r|r;exact r;exact hR x r,z⟩) d w c⟩
def Inv.forget(I:Inv lo RR m de lv env A)(i:Nat)(w:Wd):Inv lo RR m (de.set i none) (lv.set i .full) (env.set i (some w)) A:=by
 refine⟨by simp[I.len],by simp[I.lvl],I.rr,I.lom,λk d l h1 h2=>?_,I.nd,I.dj,I.bd⟩;by_cases e:i=k
 .subst e;rw[QO,Mk rfl]at h1;split at h1
  .cases h1
  .cases h1
 .rw[QD e]at h1 h2;obtain⟨w',a,b⟩:=I.slot k d l h1 h2;exact⟨w',by rw[QD e];exact a,b⟩
end
theorem kr(q:List Int):∀(ks:List (List Int)) (n:Nat),(∃p,∀(α:Type) (zs:List α) (v:α),zs.length=n->zL ks zs q v=zs.set p v)\/∀(α:Type) (zs:List α) (v:α),zs.length=n->zL ks zs q v=zs++[v]
 |[],n=>.inr λα zs v _=>by cases zs<;>rfl
 |k::ks,0=>.inr λα zs v h=>by
  cases zs with
  |nil=>rfl
  |cons _ _=>cases h
 |k::ks,n+1=>by
  by_cases e:k=q
  .refine .inl ⟨0,λα zs v h=>?_⟩;cases zs with
   |nil=>cases h
   |cons z zs=>show(if k=q then v::zs else _)=_;rw[Mk e];rfl
  .rcases kr q ks n with⟨p,h⟩|h
   .refine .inl ⟨p+1,λα zs v hz=>?_⟩;cases zs with
    |nil=>cases hz
    |cons z zs=>show(if k=q then _ else z::zL ks zs q v)=_;rw[Ml e,h α zs v (by simpa using hz)];rfl
   .refine .inr λα zs v hz=>?_;cases zs with
    |nil=>cases hz
    |cons z zs=>show(if k=q then _ else z::zL ks zs q v)=_;rw[Ml e,h α zs v (by simpa using hz)];rfl
def r9 (ks:List (List Int))(q:List Int)(hlen:ds.length=xs.length)(le:Le m m1)(o:bi m1 d w B0)(nd:B0.Nodup)(hB:∀b∈B0,m.length<=b):ii RR A m m1 ds xs (zL ks ds q d) (zL ks xs q w):=by
 rcases kr q ks ds.length with⟨p,h⟩|h
 .rw[h _ ds d rfl,h _ xs w hlen.symm];exact DQ p le o nd hB
 .rw[h _ ds d rfl,h _ xs w hlen.symm];exact se le o nd hB
def Inv.mutD (I:Inv lo RR m de lv env A)(hd:de[j]?=some (some (.dct ks ds)))(hl:lv[j]?=some .full):
  ∃l xs,env[j]?=some (some (.ref l))/\m[l]?=some (.dct ks xs)/\ds.length=xs.length/\∀(m1:Me) (ks':List (List Int)) (ds':List Dat) (ys:List Wd),Le m m1->ou m m1 ds xs ds' ys ->
   ∃A1,Inv lo RR (m1.set l (.dct ks' ys)) (de.set j (some (.dct ks' ds'))) lv env A1/\bh A m A1 (m1.set l (.dct ks' ys)):=by
 obtain⟨w,a,b⟩:=I.slot j _ .full hd hl;have hjl:j<de.length:=(Qa.mp hd).1;obtain⟨l,xs,B,rfl,hA,hm,r⟩:=bT.mp b;have hlm:=(Qa.mp hm).1;have nd:=I.nd j;rw[hA]at nd;refine⟨l,xs,a,hm,r.len,λm1 ks' ds' ys le c=>?_⟩;obtain⟨B',o,nb,hB⟩:=c B (QR.mp nd).2 r;have hlB:l∉B':=λz=>by
  rcases hB l z with z|z
  .exact (QR.mp nd).1 z
  .lia
 have sub:∀x∈l::B',x∈A j\/m.length<=x:=by
  intro x hx;rcases Qn.mp hx with rfl|hx
  .left;rw[hA];simp
  .rcases hB x hx with z|z
   .left;rw[hA];exact Qk _ z
   .exact .inr z
 refine⟨aI A j (l::B'),?_⟩;refine I.putO le (j:=j) (l:=l) (by rw[hA];simp) _ ?_ ?_ ?_ ?_ (by simp) rfl ?_ ?_
 .intro k x hx;by_cases e:k=j
  .subst e;rw[ze]at hx;rcases sub x hx with z|z
   .exact .inl ⟨k,z⟩
   .exact .inr z
  .rw[zd e]at hx;exact .inl ⟨k,hx⟩
 .intro k;by_cases e:k=j
  .subst e;rw[ze];exact QR.mpr ⟨hlB,nb⟩
  .rw[zd e];exact I.nd k
 .intro i k x h1 h2;by_cases e:i=j
  .by_cases f:k=j
   .rw[e,f]
   .rw[e,ze]at h1;rw[zd f]at h2;rcases sub x h1 with z|z
    .rw[e];exact I.dj j k x z h2
    .have:=(I.bd k x h2).2;lia
  .rw[zd e]at h1;by_cases f:k=j
   .rw[f,ze]at h2;rcases sub x h2 with z|z
    .rw[f];exact I.dj i j x h1 z
    .have:=(I.bd i x h1).2;lia
   .rw[zd f]at h2;exact I.dj i k x h1 h2
 .intro k x hx;by_cases e:k=j
  .rw[e,ze]at hx;rcases Qn.mp hx with rfl|hx
   .exact ⟨(I.bd j _ (by rw[hA];simp)).1,Ql hlm le.len⟩
   .refine ⟨?_,ao.lt ds' ys B' o x hx⟩;rcases hB x hx with z|z
    .exact (I.bd j x (by rw[hA];exact Qk _ z)).1
    .exact Qr I.lom z
  .rw[zd e]at hx;exact⟨(I.bd k x hx).1,Ql (I.bd k x hx).2 le.len⟩
 .intro k d lk e h1 h2;rw[QD (Ne.symm e)]at h1;exact⟨h1,h2,zd e⟩
 .intro d lj h1 h2;rw[QO,Mk rfl,Mk hjl]at h1;cases h1;rw[hl]at h2;cases h2;refine⟨_,a,?_⟩;rw[ze];exact bT.mpr ⟨l,ys,B',rfl,rfl,xj (le l _ hm),ao.frame ds' ys B' (λx hx o z=>by rw[yo (l:=l) (x:=x) (λe=>hlB (by rw[e];exact hx))];exact z) o⟩
section
variable{lev:Nat->Lv}{cl:Nat->List Wd->Me->Rz}{cd:Nat->List Dat->Rd}{lo:Nat}{RR:Nat->Prop}{m:Me}{de:aU}{lv:List Lv}{env:En}{A:Nat->List Nat}
set_option tactic.hygienic true in
def D5(H:bG lev cl cd)(I:Inv lo RR m de lv env A)(j:Nat)(k e:Ex):aA lo RR A m (bD cl (.dput j k e) env m) (aR lev cd (.dput j k e) de lv):=by
 show aA _ _ _ _ ((ag cl e env m).bindS env _) _;refine aA.okS λd h1=>aA.okS λkv hk=>?_;split
 .next ks ds q hd hq=>
  split
  .next c=>
   obtain⟨c1,c2,c3⟩:=c;obtain⟨w,m1,h2,l1,r1⟩:=I.ok H.r h1 (Le.refl m);obtain⟨wk,m2,h3,l2,r3⟩:=I.ok H.r hk l1;obtain⟨B,ro,nd,hB⟩:=I.own H h1 h2;rw[c2]at ro;have ro:bi m1 d w B:=ro;obtain⟨l,xs,he,hm,hlen,put⟩:=I.mutD hd c1;obtain⟨A1,I1,K1⟩:=put m2 (xp ks q) (zL ks ds q d) (zL ks xs q w) (l1.trans l2) (r9 (RR:=RR) (A:=A) ks q hlen (l1.trans l2) (bi.frame d w B (λx _ o z=>l2 x o z) ro) nd hB).1;rw[h2];show aA _ _ _ _ ((ag cl (.var j) env m1).bindS env _) _;rw[wV he m1];show aA _ _ _ _ ((ag cl k env m1).bindS env _) _;rw[h3];have e2:vt (.ref l) wk w m2=.ok .non (m2.set l (.dct (xp ks q) (zL ks xs q w))):=by
    unfold vt;simp only[(l1.trans l2) l _ hm,wn r3 hq,Mk c3]
   show aA _ _ _ _ ((vt (.ref l) wk w m2).bindS env _) _;rw[e2];exact⟨env,_,A1,rfl,I1,K1⟩
  .trivial
 .trivial
end
section
variable{lev:Nat->Lv}{cl:Nat->List Wd->Me->Rz}{cd:Nat->List Dat->Rd}{lo:Nat}{RR:Nat->Prop}
def cy (q:List Int):ah R m (zE q) (.tup (q.map Wd.int)):=af.mpr ⟨_,rfl,en q⟩
set_option tactic.hygienic true in
theorem kc (hb:∀x w m de lv env A,Inv lo RR m de lv env A->ah (zN RR A) m x w->aA lo RR A m (bw w env m) (bd x de lv)):
  ∀(qs:List (List Int)) (i k:Nat) (m:Me) (de:aU) (lv:List Lv) (env:En) (A:Nat->List Nat),Inv lo RR m de lv env A->(∀k,l∉A k)->m[l]?=some (.dct ks ws)->qs=ks.drop i->i+qs.length=ks.length->qs.length<k->aA lo RR A m (xq bw l ks.length k i env m) (zr bd (qs.map zE) de lv)
 |[],i,0,m,de,lv,env,A,I,hl,hm,r,hi,hk=>by simp at hk
 |d::ds,i,0,m,de,lv,env,A,I,hl,hm,r,hi,hk=>by simp at hk
 |[],i,k+1,m,de,lv,env,A,I,hl,hm,r,hi,hk=>by
  unfold xq zr;rw[hm];simp only[if_true];rw[QE (by simp at hi;lia)];exact⟨env,m,A,rfl,I,bh.refl A m⟩
 |q::qs,i,k+1,m,de,lv,env,A,I,hl,hm,r,hi,hk=>by
  have hx:ks[i]?=some q:=by
   have:(ks.drop i)[0]?=some q:=by rw[<-r];rfl
   simpa using this
  have hr:qs=ks.drop (i+1):=by
   have:(ks.drop i).drop 1=qs:=by rw[<-r];rfl
   rw[<-this,Wy]
  have hi':i+1+qs.length=ks.length:=by simp at hi;lia
  have hk':qs.length<k:=by simp at hk;lia
  have h:=hb (zE q) _ m de lv env A I (cy q);unfold xq;rw[QM];unfold zr;rw[hm];simp only[if_true];rw[hx];simp only;cases z:bd (zE q) de lv with
  |next d1 l1=>
   rw[z]at h;obtain⟨e1,m1,A1,h1,I1,K1⟩:=h;rw[h1];exact aA.keep K1 (kc hb qs (i+1) k m1 d1 l1 e1 A1 I1 (K1.1 l _ hl hm).1 (K1.1 l _ hl hm).2 hr hi' hk')
  |cont d1 l1=>
   rw[z]at h;obtain⟨e1,m1,A1,h1,I1,K1⟩:=h;rw[h1];exact aA.keep K1 (kc hb qs (i+1) k m1 d1 l1 e1 A1 I1 (K1.1 l _ hl hm).1 (K1.1 l _ hl hm).2 hr hi' hk')
  |brk d1 l1=>
   rw[z]at h;obtain⟨e1,m1,A1,h1,I1,K1⟩:=h;rw[h1];exact⟨e1,m1,A1,rfl,I1,K1⟩
  |ret d l=>
   rw[z]at h;obtain⟨w,m1,B,h1,k⟩:=h;rw[h1];exact⟨w,m1,B,rfl,k⟩
  |exc c d=>
   rw[z]at h;obtain⟨w,e,m1,h1,k⟩:=h;rw[h1];exact⟨w,e,m1,rfl,k⟩
  |no=>trivial
set_option tactic.hygienic true in
def gc (hb:∀(p:Dat×Dat) w1 w2 m de lv env A,Inv lo RR m de lv env A->ah (zN RR A) m p.1 w1->ah (zN RR A) m p.2 w2->aA lo RR A m (bw (.tup [w1,w2]) env m) (bd p de lv)){all:List (Dat×Dat)}{P:Me->(Nat->List Nat)->Prop}(hP:∀m A m1 A1,P m A->bh A m A1 m1->P m1 A1)(hg:∀m A,P m A->(∀(i:Nat) p,all[i]?=some p->∃w1 w2,g i m=some (some (w1,w2))/\ah (zN RR A) m p.1 w1/\ah (zN RR A) m p.2 w2)/\g all.length m=some none)(ps:List (Dat×Dat)):
  ∀(i k:Nat) (m:Me) (de:aU) (lv:List Lv) (env:En) (A:Nat->List Nat),Inv lo RR m de lv env A->P m A->ps=all.drop i->i+ps.length=all.length->ps.length<k->aA lo RR A m (yz bw g k i env m) (zr bd ps de lv):=by
 induction ps with
 |nil=>
  intro i k m de lv env A I hp hps hi hk;obtain⟨k,rfl⟩:∃q,k=q+1:=⟨k-1,by simp at hk;lia⟩;have e:=(hg m A hp).2;rw[show all.length=i by simp at hi;lia]at e;unfold yz zr;rw[e];exact⟨env,m,A,rfl,I,bh.refl A m⟩
 |cons p ps ih=>
  intro i k m de lv env A I hp hps hi hk;obtain⟨k,rfl⟩:∃q,k=q+1:=⟨k-1,by simp at hk;lia⟩;have hx:all[i]?=some p:=by
   have:(all.drop i)[0]?=some p:=by rw[<-hps];rfl
   simpa using this
  have hr:ps=all.drop (i+1):=by
   have:(all.drop i).drop 1=ps:=by rw[<-hps];rfl
   rw[<-this,Wy]
  obtain⟨w1,w2,e,a2,b2⟩:=(hg m A hp).1 i p hx;have hi':i+1+ps.length=all.length:=by simp only[QH]at hi;lia
  have hk':ps.length<k:=by simp only[QH]at hk;lia
  have h:=hb p w1 w2 m de lv env A I a2 b2;unfold yz zr;rw[e];simp only;cases z:bd p de lv with
  |next d1 l1=>
   rw[z]at h;obtain⟨e1,m1,A1,h1,I1,K1⟩:=h;rw[h1];exact aA.keep K1 (ih (i+1) k m1 d1 l1 e1 A1 I1 (hP _ _ _ _ hp K1) hr hi' hk')
  |cont d1 l1=>
   rw[z]at h;obtain⟨e1,m1,A1,h1,I1,K1⟩:=h;rw[h1];exact aA.keep K1 (ih (i+1) k m1 d1 l1 e1 A1 I1 (hP _ _ _ _ hp K1) hr hi' hk')
  |brk d1 l1=>
   rw[z]at h;obtain⟨e1,m1,A1,h1,I1,K1⟩:=h;rw[h1];exact⟨e1,m1,A1,rfl,I1,K1⟩
  |ret d l=>
   rw[z]at h;obtain⟨w,m1,B,h1,k⟩:=h;rw[h1];exact⟨w,m1,B,rfl,k⟩
  |exc c d=>
   rw[z]at h;obtain⟨w,e,m1,h1,k⟩:=h;rw[h1];exact⟨w,e,m1,rfl,k⟩
  |no=>trivial
set_option tactic.hygienic true in
def gd (I:Inv lo RR m de lv env A)(hd:de[x]?=some (some (.dct ks ds))):
  ∃A1 l ws,Inv lo RR m de (lv.set x .no) env A1/\bh A m A1 m/\env[x]?=some (some (.ref l))/\(∀k,l∉A1 k)/\m[l]?=some (.dct ks ws)/\aa (zN RR A1) m ds ws:=by
 obtain⟨A1,I1,K1,hA,_,_⟩:=Inv.downs [x] I;have hno:∀i∈[x],∀l,(bo [x] lv)[i]?=some l->l=.no:=λi hi l hl=>by
  rw[yJ]at hl;split at hl
  .exact (Option.some.inj hl).symm
  .next q=>
   have:i<lv.length:=(Qa.mp hl).1;exact Mm ⟨hi,this⟩ q
 have E:=wJ I1 hno;obtain⟨w,hw,r⟩:=E.2 x (by simp) _ hd;obtain⟨l,ws,rfl,fr,hm,q⟩:=aT.mp r;exact⟨A1,l,ws,I1,K1,hw,fr.2,hm,q⟩
set_option tactic.hygienic true in
def D4{bw:Wd->En->Me->Rs}{bd:Dat->aU->List Lv->bX}(hb:∀x w m de lv env A,Inv lo RR m de lv env A->ah (zN RR A) m x w->aA lo RR A m (bw w env m) (bd x de lv)){m:Me}{de:aU}{lv:List Lv}{env:En}{A:Nat->List Nat}(I:Inv lo RR m de lv env A)(x:Nat):
  aA lo RR A m ((ag cl (.var x) env m).bindS env λw m1=>match w with
   |.ref l=>xq bw l (xa m1 l) (aq+1) 0 env m1
   |_=>.no) (match de[x]? with
   |some (some (.dct ks _))=>if ks.length<=aq then zr bd (ks.map zE) de (lv.set x .no)else .no
   |_=>.no):=by
 split
 .next ks ds hd=>
  split
  .next hz=>
   obtain⟨A1,l,ws,I1,K1,hw,fr,hm,q⟩:=gd I hd;rw[wm hw m];have e:xa m l=ks.length:=by unfold xa;rw[hm]
   show aA _ _ _ _ (xq bw l (xa m l) (aq+1) 0 env m) _;rw[e];exact aA.keep K1 (kc hb ks 0 (aq+1) m de _ env A1 I1 fr hm rfl (by simp) (by lia))
  .trivial
 .trivial
set_option tactic.hygienic true in
def D3{bw:Wd->En->Me->Rs}{bd:Dat×Dat->aU->List Lv->bX}(hb:∀(p:Dat×Dat) w1 w2 m de lv env A,Inv lo RR m de lv env A->ah (zN RR A) m p.1 w1->ah (zN RR A) m p.2 w2->aA lo RR A m (bw (.tup [w1,w2]) env m) (bd p de lv)){m:Me}{de:aU}{lv:List Lv}{env:En}{A:Nat->List Nat}(I:Inv lo RR m de lv env A)(x:Nat):
  aA lo RR A m ((ag cl (.var x) env m).bindS env λw m1=>match w with
   |.ref l=>yz bw (xr l (xa m1 l)) (aq+1) 0 env m1
   |_=>.no) (match de[x]? with
   |some (some (.dct ks ds))=>if ks.length<=aq/\ks.length=ds.length then zr bd ((ks.map zE).zip ds) de (lv.set x .no)else .no
   |_=>.no):=by
 split
 .next ks ds hd=>
  split
  .next hz=>
   obtain⟨A1,l,ws,I1,K1,hw,fr,hm,q⟩:=gd I hd;rw[wm hw m];have e:xa m l=ks.length:=by unfold xa;rw[hm]
   show aA _ _ _ _ (yz bw (xr l (xa m l)) (aq+1) 0 env m) _;rw[e];have lz:((ks.map zE).zip ds).length=ks.length:=by simp;lia
   refine aA.keep K1 (gc hb (g:=xr l ks.length) (all:=(ks.map zE).zip ds) (P:=λm A=>(∀k,l∉A k)/\m[l]?=some (.dct ks ws)/\aa (zN RR A) m ds ws) (λm A m1 A1 h K=>⟨(K.1 l _ h.1 h.2.1).1,(K.1 l _ h.1 h.2.1).2,K.repL h.2.2⟩) (λm A h=>?_) _ 0 (aq+1) m de _ env A1 I1 ⟨fr,hm,q⟩ rfl (by simp) (by rw[lz];lia));obtain⟨h1,h2,h3⟩:=h;refine⟨λi p hp=>?_,?_⟩
   .obtain ⟨z1,z2⟩:=kH hp;rw[Qs]at z1;obtain⟨k0,hk0,e0⟩:=QJ.mp z1;obtain⟨w,b1,b2⟩:=h3.get z2;refine⟨.tup (k0.map Wd.int),w,?_,by rw[<-e0];exact cy k0,b2⟩;unfold xr;rw[h2];simp only[if_true,hk0,b1]
   .unfold xr;rw[h2];simp only[if_true];rw[lz,QE (Qh _)]
  .trivial
 .trivial
set_option tactic.hygienic true in
def FF (h:yi s t=some (i,j,k,e0,k2,e)):s=.asg i (.dop .get (.var j) k e0)/\t=.dput j k2 e/\i≠j:=by
 unfold yi at h;split at h
 .next j' k2' e'=>
  split at h
  .next i' j2 k' e0'=>
   split at h
   .next c=>
    cases h;exact⟨by rw[c.1],rfl,c.2⟩
   .cases h
  .cases h
 .cases h
set_option tactic.hygienic true in
def AE (H:bG lev cl cd)(I:Inv lo RR m de lv env A)(hij:i≠j):
  aA lo RR A m (bD cl (.seq (.asg i (.dop .get (.var j) k e0)) (.dput j k2 e)) env m) (iL lev cd (i,j,k,e0,k2,e) de lv):=by
 unfold iL;refine aA.okS λg hg=>aA.okS λd hd2=>aA.okS λq hq=>?_;split
 .next ks ds q' hd hk=>
  split
  .next c=>
   obtain⟨c1,c2,c3,hi0⟩:=c;obtain⟨w,m1,e1,l1,r1⟩:=I.ok H.r hg (Le.refl m);have hi:i<env.length:=by rw[<-I.len];exact hi0
   have envI:∀(m':Me),Le m1 m'->∀vs,bN RR m' vs (de.set i (some g)) (env.set i (some w)):=by
    intro m' lm vs;refine⟨by simp[I.len],λk _ d hk=>?_⟩;by_cases ek:i=k
    .subst ek;rw[QO,Mk rfl,Mk hi0]at hk;cases hk;exact⟨w,by rw[QO,Mk rfl,Mk hi],ah.frame (λx o r z=>⟨r,lm x o z⟩) _ _ r1⟩
    .rw[QD ek]at hk ⊢;exact((I.ext (l1.trans lm)).envR vs).2 k (by assumption) d hk
   have hR:∀{m':Me},Le m m'->∀x,m'.length<=x->RR x:=λlm x hx=>I.rr x (Qr I.lom (Qr lm.len hx));have ho:=xw H e RR m1 (de.set i (some g)) (env.set i (some w)) (envI m1 (Le.refl m1) _);rw[hd2]at ho;obtain⟨we,m2,B,e2,l2,ro,nd,hB⟩:=ho;rw[c2]at ro;have ro:bi m2 d we B:=ro;obtain⟨wk,m3,e3,l3,r3⟩:=AF H.r (envI m2 l2 _) hq (hR (l1.trans l2));obtain⟨l,xs,he,hm,hlen,put⟩:=I.mutD hd c1;have l123:=(l1.trans l2).trans l3;have hB':∀b∈B,m.length<=b:=λb hb=>Qr l1.len (hB b hb);obtain⟨A1,I1,K1⟩:=put m3 (xp ks q') (zL ks ds q' d) (zL ks xs q' we) l123 (r9 (RR:=RR) (A:=A) ks q' hlen l123 (bi.frame d we B (λx _ o z=>l3 x o z) ro) nd hB').1;have s1:bD cl (.asg i (.dop .get (.var j) k e0)) env m=.next (env.set i (some w)) m1:=by
    show(ag cl (.dop .get (.var j) k e0) env m).bindS env _=_;rw[e1];rfl
   have he':(env.set i (some w))[j]?=some (some (.ref l)):=by rw[QD hij];exact he
   have e4:vt (.ref l) wk we m3=.ok .non (m3.set l (.dct (xp ks q') (zL ks xs q' we))):=by
    unfold vt;simp only[l123 l _ hm,wn r3 hk,Mk c3]
   show aA _ _ _ _ (match bD cl (.asg i (.dop .get (.var j) k e0)) env m with
    |.next e1 m1=>bD cl (.dput j k2 e) e1 m1
    |r=>r) _
   rw[s1];show aA _ _ _ _ ((ag cl e (env.set i (some w)) m1).bindS (env.set i (some w)) _) _;rw[e2];show aA _ _ _ _ ((ag cl (.var j) (env.set i (some w)) m2).bindS (env.set i (some w)) _) _;rw[wV he' m2];show aA _ _ _ _ ((ag cl k2 (env.set i (some w)) m2).bindS (env.set i (some w)) _) _;rw[e3];show aA _ _ _ _ ((vt (.ref l) wk we m3).bindS (env.set i (some w)) _) _;rw[e4];exact⟨_,_,A1,rfl,I1.forget i w,K1⟩
  .trivial
 .trivial
end
section
variable{lev:Nat->Lv}{cl:Nat->List Wd->Me->Rz}{cd:Nat->List Dat->Rd}{lo:Nat}{RR:Nat->Prop}
set_option tactic.hygienic true in
def Inv.bindSlot{m:Me}{de:aU}{lv:List Lv}{env:En}{A:Nat->List Nat}(I:Inv lo RR m de lv env A)(i:Nat){d:Dat}{w:Wd}(h:ah (zN RR A) m d w):Inv lo RR m (de.set i (some d)) (lv.set i (br d)) (env.set i (some w)) (aI A i [])/\bh A m (aI A i []) m:=by
 refine I.store (Le.refl m) i (B:=[]) ?_ QK (by simp);unfold br;split
 .next f=>exact h.flat d w f
 .exact ⟨ah.frame (λx o r z=>⟨⟨.inl r,by simp⟩,z⟩) _ _ h,rfl⟩
set_option tactic.hygienic true in
theorem wK (hb:∀x w m de lv env A,Inv lo RR m de lv env A->ah (zN RR A) m x w->aA lo RR A m (bw w env m) (bd x de lv)):
  ∀(ds:List Dat) (xs:List Wd) (m:Me) (de:aU) (lv:List Lv) (env:En) (A:Nat->List Nat),Inv lo RR m de lv env A->aa (zN RR A) m ds xs->aA lo RR A m (wT bw xs env m) (zr bd ds de lv)
 |[],xs,m,de,lv,env,A,I,r=>by
  rw[r.nil_inv];exact⟨env,m,A,rfl,I,bh.refl A m⟩
 |d::ds,xs,m,de,lv,env,A,I,r=>by
  obtain⟨x,xs,rfl,a,b⟩:=r.cons_inv;have h:=hb d x m de lv env A I a;unfold wT zr;cases z:bd d de lv with
  |next d1 l1=>
   rw[z]at h;obtain⟨e1,m1,A1,h1,I1,K1⟩:=h;rw[h1];exact aA.keep K1 (wK hb ds xs m1 d1 l1 e1 A1 I1 (K1.repL b))
  |cont d1 l1=>
   rw[z]at h;obtain⟨e1,m1,A1,h1,I1,K1⟩:=h;rw[h1];exact aA.keep K1 (wK hb ds xs m1 d1 l1 e1 A1 I1 (K1.repL b))
  |brk d1 l1=>
   rw[z]at h;obtain⟨e1,m1,A1,h1,I1,K1⟩:=h;rw[h1];exact⟨e1,m1,A1,rfl,I1,K1⟩
  |ret d l=>
   rw[z]at h;obtain⟨w,m1,B,h1,k⟩:=h;rw[h1];exact⟨w,m1,B,rfl,k⟩
  |exc c d=>
   rw[z]at h;obtain⟨w,e,m1,h1,k⟩:=h;rw[h1];exact⟨w,e,m1,rfl,k⟩
  |no=>trivial
set_option tactic.hygienic true in
theorem ke (hb:∀x w m de lv env A,Inv lo RR m de lv env A->ah (zN RR A) m x w->aA lo RR A m (bw w env m) (bd x de lv)):
  ∀(ds:List Dat) (i k:Nat) (m:Me) (de:aU) (lv:List Lv) (env:En) (A:Nat->List Nat),Inv lo RR m de lv env A->(∀k,l∉A k)->m[l]?=some (.lst xs0)->aa (zN RR A) m ds (xs0.drop i)->i+ds.length=xs0.length->ds.length<k->aA lo RR A m (x5 bw l k i env m) (zr bd ds de lv)
 |[],i,0,m,de,lv,env,A,I,hl,hm,r,hi,hk=>by simp at hk
 |d::ds,i,0,m,de,lv,env,A,I,hl,hm,r,hi,hk=>by simp at hk
 |[],i,k+1,m,de,lv,env,A,I,hl,hm,r,hi,hk=>by
  unfold x5 zr zj;rw[hm];simp only;rw[QE (by simp at hi;lia)];exact⟨env,m,A,rfl,I,bh.refl A m⟩
 |d::ds,i,k+1,m,de,lv,env,A,I,hl,hm,r,hi,hk=>by
  obtain⟨x,q,e0,a,b⟩:=r.cons_inv;have hx:xs0[i]?=some x:=by
   have:(xs0.drop i)[0]?=some x:=by rw[e0];rfl
   simpa using this
  have hr:q=xs0.drop (i+1):=by
   have:(xs0.drop i).drop 1=q:=by rw[e0];rfl
   rw[<-this,Wy]
  rw[hr]at b;have hi':i+1+ds.length=xs0.length:=by simp at hi;lia
  have hk':ds.length<k:=by simp at hk;lia
  have h:=hb d x m de lv env A I a;unfold x5 zr zj;rw[hm];simp only;rw[hx];simp only;cases z:bd d de lv with
  |next d1 l1=>
   rw[z]at h;obtain⟨e1,m1,A1,h1,I1,K1⟩:=h;rw[h1];exact aA.keep K1 (ke hb ds (i+1) k m1 d1 l1 e1 A1 I1 (K1.1 l _ hl hm).1 (K1.1 l _ hl hm).2 (K1.repL b) hi' hk')
  |cont d1 l1=>
   rw[z]at h;obtain⟨e1,m1,A1,h1,I1,K1⟩:=h;rw[h1];exact aA.keep K1 (ke hb ds (i+1) k m1 d1 l1 e1 A1 I1 (K1.1 l _ hl hm).1 (K1.1 l _ hl hm).2 (K1.repL b) hi' hk')
  |brk d1 l1=>
   rw[z]at h;obtain⟨e1,m1,A1,h1,I1,K1⟩:=h;rw[h1];exact⟨e1,m1,A1,rfl,I1,K1⟩
  |ret d l=>
   rw[z]at h;obtain⟨w,m1,B,h1,k⟩:=h;rw[h1];exact⟨w,m1,B,rfl,k⟩
  |exc c d=>
   rw[z]at h;obtain⟨w,e,m1,h1,k⟩:=h;rw[h1];exact⟨w,e,m1,rfl,k⟩
  |no=>trivial
set_option tactic.hygienic true in
def r6{bw:Wd->En->Me->Rs}{bd:Dat->aU->List Lv->bX}(H:bG lev cl cd)(hb:∀x w m de lv env A,Inv lo RR m de lv env A->ah (zN RR A) m x w->aA lo RR A m (bw w env m) (bd x de lv)){m:Me}{de:aU}{lv:List Lv}{env:En}{A:Nat->List Nat}(I:Inv lo RR m de lv env A)(it:Ex):
  aA lo RR A m ((ag cl it env m).bindS env λw m1=>fw bw w env m1) ((am cd it de).bindS λd=>match cI d with
   |some xs=>zr bd xs de (if ax d then lv else xC it de lv)
   |none=>.no):=by
 have run:∀(d:Dat) (w:Wd) (m1:Me) (xs:List Dat) (lv1:List Lv) (A1:Nat->List Nat),cI d=some xs->Inv lo RR m1 de lv1 env A1->ah (zN RR A1) m1 d w->aA lo RR A1 m1 (fw bw w env m1) (zr bd xs de lv1):=by
  intro d w m1 xs lv1 A1 hi I1 r;cases d with
  |tup ds=>cases hi;obtain⟨ys,rfl,r1⟩:=af.mp r;exact wK hb _ _ _ _ _ _ _ I1 r1
  |scr ns=>cases hi;rw[bj.mp r];exact wK hb _ _ _ _ _ _ _ I1 (en ns)
  |lst ds=>
   simp only[cI]at hi;split at hi
   .next z=>
    cases hi;obtain⟨l,ys,rfl,hR,hm,r1⟩:=aw.mp r;have:=r1.len;exact ke hb _ 0 (aq+1) m1 de lv1 env A1 I1 hR.2 hm (by simpa using r1) (by lia) (by lia)
   .cases hi
  |_=>cases hi
 cases z:am cd it de with
 |no=>trivial
 |exc c d=>
  have:=I.bindE H.r it (f:=λw m1=>fw bw w env m1) (g:=λd=>.no) (λ_ _ _ _ _ _ _=>trivial);rw[z]at this;exact this
 |ok d=>
  show aA lo RR A m _ (match cI d with
   |some xs=>zr bd xs de (if ax d then lv else xC it de lv)
   |none=>.no)
  cases hi:cI d with
  |none=>trivial
  |some xs=>
   simp only;split
   .next f=>
    obtain⟨w,m1,h2,l1,r1⟩:=I.ok H.r z (Le.refl m);rw[h2];exact aA.keep (kI l1) (run d w m1 xs lv A hi (I.ext l1) (bi.rep d w [] (by simp) (r1.flat d w f)))
   .obtain ⟨A1,I1,K1,_,h⟩:=I.relEv H it;rw[z]at h;obtain⟨w,m1,h2,l1,r1⟩:=h.sim;rw[h2];refine aA.keep (K1.trans (kI l1)) (run d w m1 xs _ A1 hi (I1.ext l1) (ah.frame (λx o r z=>⟨?_,z⟩) _ _ r1));rcases r with r|r
    .exact r
    .exact ⟨I.rr x (Qr I.lom r),λk hk=>by have:=(I1.bd k x hk).2;lia⟩
set_option tactic.hygienic true in
def D1(H:bG lev cl cd){bw:Wd->En->Me->Rs}{bd:Dat×Dat->aU->List Lv->bX}(hb:∀(p:Dat×Dat) w1 w2 m de lv env A,Inv lo RR m de lv env A->ah (zN RR A) m p.1 w1->ah (zN RR A) m p.2 w2->aA lo RR A m (bw (.tup [w1,w2]) env m) (bd p de lv)){m:Me}{de:aU}{lv:List Lv}{env:En}{A:Nat->List Nat}(I:Inv lo RR m de lv env A)(a b:Ex):
  aA lo RR A m ((ag cl a env m).bindS env λx m1=>(ag cl b env m1).bindS env λy m2=>yz bw (zB .zip x y) (aq+1) 0 env m2) ((am cd a de).okS λx=>(am cd b de).okS λy=>match yw .zip x y with
   |some ps=>zr bd ps de (bo (zh a++zh b) lv)
   |none=>.no):=by
 obtain⟨A1,I1,K1,hA,_,_⟩:=Inv.downs (zh a++zh b) I;have hno:∀i∈zh a++zh b,∀l,(bo (zh a++zh b) lv)[i]?=some l->l=.no:=λi hi l hl=>by
  rw[yJ]at hl;split at hl
  .exact (Option.some.inj hl).symm
  .next q=>
   have:i<lv.length:=(Qa.mp hl).1;exact Mm ⟨hi,this⟩ q
 have E:=wJ I1 hno;have hR:∀{n:Nat}{x:Nat},m.length<=n->Rf (zN RR A1) n x->zN RR A1 x:=λ{n x} hn r=>by
  rcases r with r|r
  .exact r
  .exact ⟨I1.rr x (Qr I1.lom (Qr hn r)),λk hk=>by have:=(I1.bd k x hk).2;lia⟩
 refine aA.okS λx hx=>aA.okS λy hy=>?_;cases hp:yw .zip x y with
 |none=>trivial
 |some ps=>
  have ha:=za H.r a (zN RR A1) m de env E.left;rw[hx]at ha;obtain⟨w1,m1,e1,l1,r1⟩:=ha;have r1':ah (zN RR A1) m1 x w1:=ah.frame (λl o r z=>⟨hR (Qh _) r,z⟩) _ _ r1;have hb2:=za H.r b (zN RR A1) m1 de env (E.right.up (λ_ h=>h) l1);rw[hy]at hb2;obtain⟨w2,m2,e2,l2,r2⟩:=hb2;have r2':ah (zN RR A1) m2 y w2:=ah.frame (λl o r z=>⟨hR l1.len r,z⟩) _ _ r2;have r1'':ah (zN RR A1) m2 x w1:=ah.frame (λl o r z=>⟨r,l2 l o z⟩) _ _ r1';rw[e1];simp only[Rz.bindS];rw[e2];simp only;have hz:=(wH hp r1'' r2').2;refine aA.keep (K1.trans (kI (l1.trans l2))) (gc hb (g:=zB .zip w1 w2) (all:=ps) (P:=λm A=>ah (zN RR A) m x w1/\ah (zN RR A) m y w2) (λm A m1 A1 h K=>⟨K.rep h.1,K.rep h.2⟩) (λm A h=>?_) ps 0 (aq+1) m2 de _ env A1 (I1.ext (l1.trans l2)) ⟨r1'',r2'⟩ rfl (by simp) (by lia));have q:=(wH hp h.1 h.2).1 m (Le.refl m);exact⟨q.1,q.2 _ (Qh _)⟩
def Inv.drop{m:Me}{de:aU}{lv:List Lv}{env:En}{A:Nat->List Nat}(I:Inv lo RR m de lv env A)(i:Nat)(hi:i<de.length):Inv lo RR m (de.set i none) (lv.set i .full) env A:=by
 refine⟨by simp[I.len],by simp[I.lvl],I.rr,I.lom,λk d l h1 h2=>?_,I.nd,I.dj,I.bd⟩;by_cases e:i=k
 .subst e;rw[QO,Mk rfl]at h1;split at h1
  .cases h1
  .cases h1
 .rw[QD e]at h1 h2;exact I.slot k d l h1 h2
set_option tactic.hygienic true in
def CG {ds:List Dat}(o:bi m d w A)(nd:A.Nodup)(e:xB d (.int i)=.ok v)(hv:ax v=false):
  ∃x B,kA w (.int i) m=.ok x m/\bi m v x B/\B.Nodup/\∀b∈B,b∈A:=by
 have go:∀(ds:List Dat) (xs:List Wd) (C:List Nat),yH d=some ds->yq m w=some xs->ao m ds xs C->C.Nodup->(∀b∈C,b∈A)->∃x B,kA w (.int i) m=.ok x m/\bi m v x B/\B.Nodup/\∀b∈B,b∈A:=by
  intro ds xs C h1 h2 r nC hC;simp only[xB,h1]at e;have hlen:=ao.len r;cases h3:(ix ds.length i).bind λj=>ds[j]? with
  |none=>rw[h3]at e;cases e
  |some v'=>
   rw[h3]at e;cases e;obtain⟨p,h4,h5⟩:=Qy.mp h3;obtain⟨x,B1,Bp,B2,g1,g2,g3,g4,g5⟩:=r.split h5;rw[hlen]at h4;refine⟨x,Bp,?_,g3,?_,λb hb=>hC b ?_⟩
   .simp only[kA,h2,h4,Q9,g1]
   .rw[g2]at nC;exact(QN.mp (QN.mp nC).2.1).1
   .rw[g2];simp[hb]
 cases d with
 |lst ds=>
  obtain⟨l,xs,B,rfl,rfl,hm,r⟩:=bn.mp o;exact go ds xs B rfl (by show zj m l=some xs;unfold zj;rw[hm]) r (QR.mp nd).2 (λb hb=>Qk _ hb)
 |tup ds=>
  obtain⟨xs,rfl,r⟩:=bC.mp o;exact go ds xs A rfl rfl r nd (λb hb=>hb)
 |scr ns=>
  simp only[xB,yH]at e;cases h3:(ix (ns.map Dat.int).length i).bind λj=>(ns.map Dat.int)[j]? with
  |none=>rw[h3]at e;cases e
  |some v'=>
   rw[h3]at e;cases e;obtain⟨p,h4,h5⟩:=Qy.mp h3;rw[Qs]at h5;cases hn:ns[p]? with
   |none=>rw[hn]at h5;cases h5
   |some n=>rw[hn]at h5;cases h5;cases hv
 |_=>cases e
theorem rp (a:bi m d x B):∀{ps:List (List Int×Dat)}{qs:List (List Int×Wd)}{C:List Nat},ps.map Prod.fst=qs.map Prod.fst->ao m (ps.map Prod.snd) (qs.map Prod.snd) C ->
  (zz (k,d) ps).map Prod.fst=(zz (k,x) qs).map Prod.fst/\∃D,ao m ((zz (k,d) ps).map Prod.snd) ((zz (k,x) qs).map Prod.snd) D/\D.Perm (B++C)
 |[],[],C,_,r=>⟨rfl,_,.cons a r,.refl _⟩
 |[],_::_,_,h,_=>by cases h
 |_::_,[],_,h,_=>by cases h
 |p::ps,q::qs,C,h,r=>by
  obtain⟨h1,h2⟩:=List.cons.inj (show p.1::ps.map Prod.fst=q.1::qs.map Prod.fst from h);show(if bZ k p.1 then(k,d)::p::ps else p::zz (k,d) ps).map Prod.fst=(if bZ k q.1 then(k,x)::q::qs else q::zz (k,x) qs).map Prod.fst/\∃D,ao m ((if bZ k p.1 then(k,d)::p::ps else p::zz (k,d) ps).map Prod.snd) ((if bZ k q.1 then(k,x)::q::qs else q::zz (k,x) qs).map Prod.snd) D/\D.Perm (B++C);rw[h1];cases bZ k q.1 with
  |true=>exact⟨Mn (k::·) h,_,.cons a r,.refl _⟩
  |false=>
   obtain⟨_,_,B1,C1,e,rfl,r1,r2⟩:=ao.cons_inv (show ao m (p.2::ps.map Prod.snd) (q.2::qs.map Prod.snd) C from r);cases e;obtain⟨i1,D,i2,i3⟩:=rp a h2 r2;refine⟨by show p.1::(zz (k,d) ps).map Prod.fst=q.1::(zz (k,x) qs).map Prod.fst;rw[h1,i1],_,.cons r1 i2,?_⟩;refine(i3.append_left B1).trans ?_;rw[<-Qj,<-Qj];exact Wp.append_right C1
theorem tz:∀{ks:List (List Int)}{ds:List Dat}{xs:List Wd}{C:List Nat},ks.length=ds.length->ao m ds xs C ->
  (zA (ks.zip ds)).map Prod.fst=(zA (ks.zip xs)).map Prod.fst/\∃D,ao m ((zA (ks.zip ds)).map Prod.snd) ((zA (ks.zip xs)).map Prod.snd) D/\D.Perm C
 |[],[],_,_,_,r=>by obtain⟨rfl,rfl⟩:=r.nil_inv;exact⟨rfl,[],.nil,.refl _⟩
 |[],_::_,_,_,h,_=>by cases h
 |_::_,[],_,_,h,_=>by cases h
 |k::ks,d::ds,xs,C,h,r=>by
  obtain⟨x,us,B1,C1,rfl,rfl,r1,r2⟩:=r.cons_inv;obtain⟨i1,D,i2,i3⟩:=tz (ks:=ks) (Nat.succ.inj h) r2;obtain⟨j1,D2,j2,j3⟩:=rp (k:=k) r1 i1 i2;rw[Wu,Wu,yr,yr];exact⟨j1,D2,j2,j3.trans (i3.append_left B1)⟩
theorem gf:∀{ds:List Dat}{ks:List (List Int)},xc ds=some ks->ks.length=ds.length
 |[],_,h=>by cases h;rfl
 |d::ds,ks,h=>by
  cases d with
  |lst es=>
   have h':(match eO es,xc ds with
    |some k,some ks=>some (k::ks)
    |_,_=>none)=some ks:=h
   cases e1:eO es with
   |none=>simp only[e1]at h';cases h'
   |some k=>
    cases e2:xc ds with
    |none=>simp only[e1,e2]at h';cases h'
    |some ks'=>
     simp only[e1,e2]at h';cases h';exact Mn (·+1) (gf e2)
  |_=>cases h
def F3 (I:Inv lo RR m de lv env A)(hj:lv[j]?=some .full)(z:am cd (.blt .sorted (.pair (.idx (.var j) (.var k)) .unit)) de=.ok d)(h2:ag cl (.blt .sorted (.pair (.idx (.var j) (.var k)) .unit)) env m=.ok w m1):∃B,bz (λx=>RR x/\x∉B) m1 .full d w B/\B.Nodup/\∀b∈B,lo<=b:=by
 have z':((((am cd (.var j) de).bind λx=>(am cd (.var k) de).bind λy=>xB x y).bind λx=>(Rd.ok (.tup [])).bind λy=>.ok (.tup (x::zD y))).bind λx=>yu .sorted (zD x))=.ok d:=z;have h':((((ag cl (.var j) env m).bind λx m1=>(ag cl (.var k) env m1).bind λy m2=>kA x y m2).bind λx m1=>(Rz.ok (.tup []) m1).bind λy m2=>.ok (.tup (x::zy y)) m2).bind λx m1=>vq .sorted (zy x) m1)=.ok w m1:=h2;cases q1:am cd (.var j) de with
 |no=>rw[q1]at z';cases z'
 |exc _ _=>rw[q1]at z';cases z'
 |ok dj=>
  cases q2:am cd (.var k) de with
  |no=>rw[q1,q2]at z';cases z'
  |exc _ _=>rw[q1,q2]at z';cases z'
  |ok dk=>
   rw[q1,q2]at z';simp only[Rd.bind]at z';have g1:=kF q1;have g2:=kF q2;cases dk with
   |int i=>
    cases q3:xB dj (.int i)with
    |no=>rw[q3]at z';cases z'
    |exc _ _=>rw[q3]at z';cases z'
    |ok v=>
     rw[q3]at z';simp only[zD]at z';cases v with
     |lst es=>
      have z2:(match (xc es).bind λks=>yS Dat ks es with|some i=>bu i|none=>.no)=.ok d:=z';cases q4:(xc es).bind λks=>yS Dat ks es with
      |none=>rw[q4]at z2;cases z2
      |some es'=>
       rw[q4]at z2;obtain⟨ks,k1,k2⟩:=Qy.mp q4;obtain⟨lk,hlk⟩:=I.getlv g2;obtain⟨wj,ej,oj⟩:=I.slot j dj .full g1 hj;obtain⟨wk,ek,ok⟩:=I.slot k _ lk g2 hlk;have rk:ah (λ_=>True) m (.int i) wk:=bz.rep (λ_ _=>trivial) (λ_ _=>trivial) ok;obtain rfl:=ab.mp rk;obtain⟨x,B,hx,ox,nB,hB⟩:=CG (ds:=[]) oj (I.nd j) q3 rfl;obtain⟨l2,us,B2,rfl,rfl,hm2,r2⟩:=bn.mp ox;rw[wV ej m]at h';simp only[Rz.bind]at h';rw[wV ek m]at h';simp only[Rz.bind,hx,zy]at h';have rr:aa (λ_=>True) m es us:=ao.rep es us B2 (λ_ _=>trivial) r2;obtain⟨ys,h3,_⟩:=sy rr k2;have e3:zj m l2=some us:=by unfold zj;rw[hm2]
       have e4:((wd m us).bind λks=>yS Wd ks us)=some ys:=by rw[ju rr k1];exact h3
       simp only[vq,e3,e4]at h';have nB2:=(QR.mp nB).2;obtain⟨B3,r3,n3,s3⟩:∃B3,ao m es' ys B3/\B3.Nodup/\∀b∈B3,b∈B2:=by
        obtain⟨e1,D,r3,n3⟩:=tz (gf k1) r2;rw[wf]at k2 h3;have k2':(if y7 ((zA (ks.zip es)).map Prod.fst)then some ((zA (ks.zip es)).map Prod.snd)else none)=some es':=k2;have h3':(if y7 ((zA (ks.zip us)).map Prod.fst)then some ((zA (ks.zip us)).map Prod.snd)else none)=some ys:=h3;rw[e1]at k2';cases c:y7 ((zA (ks.zip us)).map Prod.fst)with
        |false=>rw[c]at k2';cases k2'
        |true=>rw[c]at k2' h3';cases k2';cases h3';exact⟨D,r3,n3.nodup_iff.mpr nB2,λb hb=>n3.mem_iff.mp hb⟩
       have hlen:=ao.len r3;have z3:(if es'.length<=aq then Rd.ok (.lst es')else .no)=.ok d:=z2;unfold alloc at h';by_cases c:es'.length<=aq
       .rw[Mk c]at z3;rw[Mk (by lia)]at h';cases z3;cases h';have hlt:=ao.lt es' ys B3 r3;refine⟨m.length::B3,bn.mpr ⟨_,ys,B3,rfl,rfl,by simp,ao.frame es' ys B3 (λl hl o q=>Le.app m _ l o q) r3⟩,QR.mpr ⟨λq=>by have:=hlt _ q;lia,n3⟩,λb hb=>?_⟩;rcases Qn.mp hb with rfl|hb
        .exact I.lom
        .exact (I.bd j b (hB b (Qk _ (s3 b hb)))).1
       .rw[Ml c]at z3;cases z3
     |_=>cases z'
   |_=>cases z'
set_option tactic.hygienic true in
def CF (H:bG lev cl cd)(I:Inv lo RR m de lv env A)(e:Ex):aA lo RR A m (bD cl (.ret e) env m) (aR lev cd (.ret e) de lv):=by
 show aA _ _ _ _ ((ag cl e env m).bindS env _) ((am cd e de).bindS _);cases z:am cd e de with
 |no=>trivial
 |exc c d=>
  have:=I.bindE H.r e (f:=λw m1=>.ret w m1) (g:=λd=>.no) (λ_ _ _ _ _ _ _=>trivial);rw[z]at this;exact this
 |ok d=>
  obtain⟨w,m1,h2,l1,r1⟩:=I.ok H.r z (Le.refl m);rw[h2];show aA lo RR A m (.ret w m1) (.ret d (eG lev e d lv));have kp:(∀(x:Nat) o,(∀i,x∉A i)->m[x]?=some o->m1[x]?=some o)/\m.length<=m1.length:=⟨λx o _ b=>l1 x o b,l1.len⟩;have no:bz (λx=>RR x/\x∉([]:List Nat)) m1 .no d w []:=⟨ah.frame (λx o r z=>⟨⟨r,by simp⟩,z⟩) _ _ r1,rfl⟩;by_cases f:ax d=true
  .refine ⟨w,m1,[],rfl,kp,?_,QK,by simp⟩;unfold eG;rw[Mk f];exact r1.flat d w f
  .unfold eG;rw[Ml f];split
   .next i=>
    have hdi:de[i]?=some (some d):=by
     exact kF z
    obtain⟨l,hl⟩:=I.getlv hdi;obtain⟨w',he,ro⟩:=I.slot i d l hdi hl;rw[wV he m]at h2;cases h2;rw[hl];refine⟨_,_,A i,rfl,kp,?_,I.nd i,λb hb=>(I.bd i b hb).1⟩;exact ro.frame (λx o r z=>⟨⟨r.1,r.2 i⟩,z⟩) (λ_ _ _ z=>z)
   .next a b=>
    split
    .next c=>
     obtain⟨hab,ha,hb⟩:=c;have:∃da db,de[a]?=some (some da)/\de[b]?=some (some db)/\d=.tup [da,db]:=by
      have hz:am cd (.tup (.pair (.var a) (.pair (.var b) .unit))) de=((am cd (.var a) de).bind λx=>((am cd (.var b) de).bind λy=>.ok (.tup [y])).bind λy=>.ok (.tup (x::zD y))).bind λx=>if(zD x).length<=aq then .ok (.tup (zD x))else .no:=rfl;rw[hz]at z;cases q1:de[a]? with
      |none=>rw[yV (.inl q1)]at z;cases z
      |some o=>cases o with
       |none=>rw[yV (.inr q1)]at z;cases z
       |some da=>
        rw[xO q1]at z;cases q2:de[b]? with
        |none=>rw[yV (.inl q2)]at z;cases z
        |some o=>cases o with
         |none=>rw[yV (.inr q2)]at z;cases z
         |some db=>
          rw[xO q2]at z;simp[Rd.bind,zD,aq]at z;exact⟨da,db,rfl,rfl,z.symm⟩
     obtain⟨da,db,h3,h4,rfl⟩:=this;obtain⟨wa,ea,oa⟩:=I.slot a da .full h3 ha;obtain⟨wb,eb,ob⟩:=I.slot b db .full h4 hb;have hw:ag cl (.tup (.pair (.var a) (.pair (.var b) .unit))) env m=.ok (.tup [wa,wb]) m:=by
      show(((ag cl (.var a) env m).bind λx m1=>((ag cl (.var b) env m1).bind λy m2=>.ok (.tup [y]) m2).bind λy m2=>.ok (.tup (x::zy y)) m2).bind λx m1=>if(zy x).length<=aq then .ok (.tup (zy x)) m1 else .no)=_;rw[wV ea m];simp only[Rz.bind];rw[wV eb m];simp[zy,aq]
     rw[hw]at h2;cases h2;refine⟨_,_,A a++(A b++[]),rfl,kp,bC.mpr ⟨_,rfl,.cons oa (.cons ob .nil)⟩,?_,?_⟩
     .rw[QZ];exact QN.mpr ⟨I.nd a,I.nd b,λx hx y hy e=>hab (I.dj a b x hx (by rw[e];exact hy))⟩
     .intro x hx;rw[QZ]at hx;rcases Qx.mp hx with q|q
      .exact (I.bd a x q).1
      .exact (I.bd b x q).1
    .exact ⟨w,m1,[],rfl,kp,no,QK,by simp⟩
   .next j k=>
    split
    .next hj=>
     obtain⟨B,ro,nd,hB⟩:=F3 I hj z h2;exact⟨w,m1,B,rfl,kp,ro,nd,hB⟩
    .exact ⟨w,m1,[],rfl,kp,no,QK,by simp⟩
   .obtain ⟨B,ro,nd,hB⟩:=I.own H z h2;exact⟨w,m1,B,rfl,kp,ro,nd,λb hb=>Qr I.lom (hB b hb)⟩
set_option tactic.hygienic true in
theorem xG(H:bG lev cl cd):∀(s:Sm) (m:Me) (de:aU) (lv:List Lv) (env:En) (A:Nat->List Nat),Inv lo RR m de lv env A->aA lo RR A m (bD cl s env m) (aR lev cd s de lv)
 |.skip,m,de,lv,env,A,I=>by show aA _ _ _ _ (.next env m) (.next de lv);exact⟨env,m,A,rfl,I,bh.refl A m⟩
 |.seq a b,m,de,lv,env,A,I=>by
  cases hv:yi a b with
  |some t=>
   obtain⟨i,j,k,e0,k2,e⟩:=t;obtain⟨rfl,rfl,hij⟩:=FF hv;rw[qm,hv];exact AE H I hij
  |none=>
   have h:=xG H a m de lv env A I;rw[qm,hv];show aA _ _ _ _ (match bD cl a env m with
    |.next e1 m1=>bD cl b e1 m1
    |r=>r) _
   cases z:aR lev cd a de lv with
   |next d1 l1=>
    rw[z]at h;obtain⟨e1,m1,A1,h1,I1,K1⟩:=h;rw[h1];exact aA.keep K1 (xG H b m1 d1 l1 e1 A1 I1)
   |cont d1 l1=>
    rw[z]at h;obtain⟨e1,m1,A1,h1,I1,K1⟩:=h;rw[h1];exact⟨e1,m1,A1,rfl,I1,K1⟩
   |brk d1 l1=>
    rw[z]at h;obtain⟨e1,m1,A1,h1,I1,K1⟩:=h;rw[h1];exact⟨e1,m1,A1,rfl,I1,K1⟩
   |ret d l=>
    rw[z]at h;obtain⟨w,m1,B,h1,k⟩:=h;rw[h1];exact⟨w,m1,B,rfl,k⟩
   |exc c d=>
    rw[z]at h;obtain⟨w,e,m1,h1,k⟩:=h;rw[h1];exact⟨w,e,m1,rfl,k⟩
   |no=>trivial
 |.asg i e,m,de,lv,env,A,I=>DO H I i e
 |.dput j k e,m,de,lv,env,A,I=>D5 H I j k e
 |.forD i x body,m,de,lv,env,A,I=>D4 (cl:=cl) (bw:=λx e m=>bD cl body (e.set i (some x)) m) (bd:=λx de lv=>aR lev cd body (de.set i (some x)) (lv.set i (br x))) (λx w m de lv env A I r=>by
   obtain⟨I1,K1⟩:=I.bindSlot i r;exact aA.keep K1 (xG H body m _ _ _ _ I1)) I x
 |.forI i j x body,m,de,lv,env,A,I=>D3 (cl:=cl) (bw:=zJ (cw i j) (bD cl body)) (bd:=λ(p:Dat×Dat) de lv=>aR lev cd body ((de.set i (some p.1)).set j (some p.2)) ((lv.set i (br p.1)).set j (br p.2))) (λp w1 w2 m de lv env A I r1 r2=>by
   obtain⟨I1,K1⟩:=I.bindSlot i r1;obtain⟨I2,K2⟩:=I1.bindSlot j (K1.rep r2);exact aA.keep (K1.trans K2) (xG H body m _ _ _ _ I2)) I x
 |.aug i op e,m,de,lv,env,A,I=>CH H I i op e
 |.ite c a b,m,de,lv,env,A,I=>by
  refine I.bindE H.r c λd w m1 _ _ l1 r1=>?_;cases d with
  |bl t=>
   rw[ai.mp r1];cases t with
   |true=>exact xG H a m1 de lv env A (I.ext l1)
   |false=>exact xG H b m1 de lv env A (I.ext l1)
  |_=>trivial
 |.forv i it body,m,de,lv,env,A,I=>by
  refine r6 H (λx w m de lv env A I r=>?_) I it;obtain⟨I1,K1⟩:=I.bindSlot i r;exact aA.keep K1 (xG H body _ _ _ _ _ I1)
 |.fort i j it body,m,de,lv,env,A,I=>by
  refine r6 H (λx w m de lv env A I r=>?_) I it;split
  .next a b=>
   obtain⟨xs,rfl,r1⟩:=af.mp r;obtain⟨x,r2,rfl,ra,rb⟩:=r1.cons_inv;obtain⟨y,r3,rfl,rb,rn⟩:=rb.cons_inv;rw[rn.nil_inv];obtain⟨I1,K1⟩:=I.bindSlot i ra;obtain⟨I2,K2⟩:=I1.bindSlot j (K1.rep rb);exact aA.keep (K1.trans K2) (xG H body _ _ _ _ _ I2)
  .trivial
 |.forZ i j a b body,m,de,lv,env,A,I=>by
  refine D1 H (λp w1 w2 m de lv env A I ra rb=>?_) I a b;obtain⟨I1,K1⟩:=I.bindSlot i ra;obtain⟨I2,K2⟩:=I1.bindSlot j (K1.rep rb);exact aA.keep (K1.trans K2) (xG H body _ _ _ _ _ I2)
 |.ret e,m,de,lv,env,A,I=>CF H I e
 |.expr e,m,de,lv,env,A,I=>by
  have dflt:aA lo RR A m (bD cl (.expr e) env m) ((am cd e de).bindS λ_=>.next de lv):=by
   exact I.bindE H.r e λd w m1 _ _ l1 _=>⟨env,m1,A,rfl,I.ext l1,bh.refl A m1⟩
  cases e with
  |meth n o a=>
   cases n with
   |append=>
    cases o with
    |var j=>
     cases a with
     |pair e u=>cases u with
      |unit=>exact D7 H I j e
      |_=>exact trivial
     |_=>exact trivial
    |_=>exact trivial
   |reverse=>
    cases o with
    |var j=>
     cases a with
     |unit=>exact D6 (cl:=cl) (cd:=cd) (lev:=lev) I j
     |_=>exact trivial
    |_=>exact trivial
   |_=>exact trivial
  |_=>exact dflt
 |.never,m,de,lv,env,A,I=>by exact trivial
end
def gh{α β:Type}(f:α->β)(z:β)(xs:List α)(n i:Nat):(xs.map f++Qg n z)[i]?=if i<xs.length then(xs[i]?).map f else if i<xs.length+n then some z else none:=by
 rw[List.getElem?_append,Qo];split
 .rw[Qs]
 .rw[Vh];by_cases h:i-xs.length<n
  .rw[Mk h,Mk (by lia)]
  .rw[Ml h,Ml (by lia)]
set_option tactic.hygienic true in
def FE (fn:Fn)(h:aa R m ds ws):Inv m.length (Rf R m.length) m (yy fn ds) (yI fn ds) (xU fn ws) (λ_=>[]):=by
 have hl:=h.len;refine⟨?_,?_,λl hl=>.inr hl,Qh _,?_,λ_=>QK,(λ_ _ _ h=>by cases h),(λ_ _ h=>by cases h)⟩
 .simp[yy,xU,hl]
 .simp[yy,yI]
 .intro i d l h1 h2;unfold yy at h1;unfold yI at h2;rw[gh]at h1 h2;by_cases hi:i<ds.length
  .rw[Mk hi]at h1 h2;obtain⟨d',e1,e2⟩:=QJ.mp h1;cases e2;rw[e1]at h2;cases h2;obtain⟨w,hw,r⟩:=h.get e1;refine⟨w,?_,?_⟩
   .unfold xU;rw[gh,Mk (by lia),hw];rfl
   .unfold br;split
    .next f=>exact r.flat d w f
    .exact ⟨ah.frame (λx o r z=>⟨⟨.inl r,λ_ h=>by cases h⟩,z⟩) _ _ r,rfl⟩
  .rw[Ml hi]at h1;split at h1<;>cases h1
set_option tactic.hygienic true in
def CC (H:bG lev cl cd)(k:Nat)(fn:Fn)(ds:List Dat)(ws:List Wd)(R:Nat->Prop)(m:Me)(h:aa R m ds ws):aJ R m (wq lev k) (gK cl fn ws m) (yW lev cd k fn ds):=by
 unfold gK yW;rw[h.len];split
 .have s:=xG H fn.body m _ _ _ _ (FE fn h);cases z:aR lev cd fn.body (yy fn ds) (yI fn ds)with
  |next d1 l1=>
   rw[z]at s;obtain⟨e1,m1,A1,h1,I1,K1⟩:=s;rw[h1];refine⟨.non,m1,[],rfl,λl o q=>(K1.1 l o (λ_ h=>by cases h) q).2,?_,QK,by simp⟩;unfold wq bz bi;simp[ax]
  |ret d l=>
   rw[z]at s;obtain⟨w,m1,B,h1,⟨kp,_⟩,ro,nd,hB⟩:=s;rw[h1];have le:Le m m1:=λl o q=>kp l o (λ_ h=>by cases h) q;show aJ R m (wq lev k) (.ok w m1) (if ax d || qo l (lev k)then .ok d else .no);split
   .next c=>
    by_cases f:ax d=true
    .refine ⟨w,m1,[],rfl,le,?_,QK,by simp⟩;unfold wq;rw[Mk f];exact(ro.rep (R':=λ_=>True) (λ_ _=>trivial) (λ_ _=>trivial)).flat d w f
    .have g:qo l (lev k)=true:=by simpa [f]using c
     unfold aJ wq;simp only[Ml f];cases e:lev k with
     |no=>
      refine⟨w,m1,[],rfl,le,⟨?_,rfl⟩,QK,by simp⟩;exact ro.rep (λx r=>⟨r.1,by simp⟩) (λb hb=>⟨.inr (hB b hb),by simp⟩)
     |top=>
      rw[e]at g;cases l with
      |top=>exact⟨w,m1,B,rfl,le,ro,nd,hB⟩
      |no=>cases g
      |full=>cases g
     |full=>
      rw[e]at g;cases l with
      |full=>exact⟨w,m1,B,rfl,le,ro,nd,hB⟩
      |no=>cases g
      |top=>cases g
   .trivial
  |exc c d=>
   rw[z]at s;obtain⟨w,e,m1,h1,⟨kp,_⟩,r⟩:=s;rw[h1];exact⟨w,m1,rfl,λl o q=>kp l o (λ_ h=>by cases h) q,r⟩
  |brk _ _=>trivial
  |cont _ _=>trivial
  |no=>trivial
 .trivial
theorem tx(lev:Nat->Lv)(T:List Fn):∀d:Nat,bG lev (xb T d) (jx lev T d)
 |0=>λk ds ws R m h=>trivial
 |d+1=>λk ds ws R m h=>by
  unfold xb jx;cases T[k]? with
  |none=>trivial
  |some fn=>exact CC (tx lev T d) k fn ds ws R m h
def CB(lev:Nat->Lv)(T:List Fn)(d i:Nat)(ns:List Int)(h:jx lev T d i [.scr ns]=.ok (.bl true)):∃m,xb T d i [.rol (ns.map Wd.int)] []=.ok (.bl true) m:=by
 have s:=tx lev T d i [.scr ns] [.rol (ns.map Wd.int)] (λ_=>True) [] (.cons (bj.mpr rfl) .nil);rw[h]at s;obtain⟨w,m',h1,_,r⟩:=s.sim;rw[ai.mp r]at h1;exact⟨m',h1⟩
section
variable(lev:Nat->Lv)(cl:Nat->List Dat->Rd)(de:aU)(lv:List Lv)
@[simp]theorem bO(d:Dat)(f:Dat->Rd):(Rd.ok d).bind f=f d:=rfl
@[simp]theorem cn(d:Dat)(f:Dat->bX):(Rd.ok d).bindS f=f d:=rfl
@[simp]theorem iV(d:Dat)(f:Dat->bX):(Rd.ok d).okS f=f d:=rfl
@[simp]theorem zI(i:Int):am cl (.lit (.int i)) de=.ok (.int i):=rfl
@[simp]theorem JD(i:Bool):am cl (.lit (.bl i)) de=.ok (.bl i):=rfl
@[simp]theorem JA:am cl (.lit .non) de=.ok .non:=rfl
@[simp]theorem Jz(s:List Nat):am cl (.lit (.str s)) de=.ok (.str s):=rfl
@[simp]theorem lA(op:Bo)(a b:Ex):am cl (.bin op a b) de=(am cl a de).bind λx=>(am cl b de).bind λy=>yn op x y:=rfl
@[simp]theorem pk(op:Co)(a b:Ex):am cl (.cmp op a b) de=(am cl a de).bind λx=>(am cl b de).bind λy=>wQ op x y:=rfl
@[simp]theorem zK:am cl .unit de=.ok (.tup []):=rfl
@[simp]theorem zG(a b:Ex):am cl (.pair a b) de=(am cl a de).bind λx=>(am cl b de).bind λy=>.ok (.tup (x::zD y)):=rfl
@[simp]theorem xZ(k:Nat)(a:Ex):am cl (.call k a) de=(am cl a de).bind λx=>cl k (zD x):=rfl
@[simp]theorem wr(b:dR)(a:Ex):am cl (.blt b a) de=(am cl a de).bind λx=>yu b (zD x):=rfl
@[simp]theorem IA(t:Tg)(a:Ex):am cl (.isi t a) de=(am cl a de).bind λx=>.ok (.bl (hZ t x)):=rfl
@[simp]theorem AD(a b:Ex):am cl (.idx a b) de=(am cl a de).bind λx=>(am cl b de).bind λy=>xB x y:=rfl
@[simp]theorem vf(a:Ex):am cl (.lst a) de=(am cl a de).bind λx=>bu (zD x):=rfl
@[simp]theorem pi(a:Ex):am cl (.tup a) de=(am cl a de).bind λx=>if(zD x).length<=aq then .ok (.tup (zD x))else .no:=rfl
@[simp]theorem vg(a b c:Ex):am cl (.rng a b c) de=(am cl a de).bind λx=>(am cl b de).bind λy=>(am cl c de).bind λz=>eM x y z:=rfl
def AC(i:Nat)(d:Dat)(h:de[i]?=some (some d)):am cl (.var i) de=.ok d:=xO h
@[simp]theorem zq(d:Dat)(r:aU):am cl (.var 0) (some d::r)=.ok d:=rfl
@[simp]theorem zu(i:Nat)(d:Option Dat)(r:aU):am cl (.var (i+1)) (d::r)=am cl (.var i) r:=rfl
@[simp]theorem Iz(a:Ex):am cl (.neg a) de=(am cl a de).bind λx=>match x with
  |.int i=>.ok (.int (-i))
  |_=>.no:=rfl
@[simp]theorem Iy(a:Ex):am cl (.not a) de=(am cl a de).bind λx=>match x with
  |.bl b=>.ok (.bl (! b))
  |_=>.no:=rfl
@[simp]theorem ph(a b:Ex):am cl (.and a b) de=(am cl a de).bind λx=>match x with
  |.bl true=>am cl b de
  |.bl false=>.ok (.bl false)
  |_=>.no:=rfl
@[simp]theorem uy(a b:Ex):am cl (.or a b) de=(am cl a de).bind λx=>match x with
  |.bl false=>am cl b de
  |.bl true=>.ok (.bl true)
  |_=>.no:=rfl
@[simp]theorem Jv(p q:Co)(a b c:Ex):am cl (.chain p q a b c) de=(am cl a de).bind λx=>(am cl b de).bind λy=>(wQ p x y).bind λz=>match z with
  |.bl true=>(am cl c de).bind λu=>wQ q y u
  |.bl false=>.ok (.bl false)
  |_=>.no:=rfl
@[simp]theorem Ix(c a b:Ex):am cl (.ife c a b) de=(am cl c de).bind λx=>match x with
  |.bl true=>am cl a de
  |.bl false=>am cl b de
  |_=>.no:=rfl
@[simp]theorem Iw(a lo:Ex):am cl (.slL a lo) de=(am cl a de).bind λx=>(am cl lo de).bind λy=>match y with
  |.int i=>eD x (some i) none
  |_=>.no:=rfl
def vK(elt it cond:Ex):am cl (.comp elt it cond) de=(am cl it de).bind λx=>match cI x with
  |some xs=>zM (λx=>am cl cond (de++[some x])) (λx=>am cl elt (de++[some x])) xs []
  |none=>.no:=rfl
def jy(k:Kd)(elt a b cond:Ex):am cl (.compP k elt a b cond) de=(am cl a de).bind λx=>(am cl b de).bind λy=>match yw k x y with
  |some ps=>zM (λp=>am cl cond (de++[some p.1]++[some p.2])) (λp=>am cl elt (de++[some p.1]++[some p.2])) ps []
  |none=>.no:=rfl
@[simp]theorem Iv(a b:Int):dh (.int a) (.int b)=decide (a=b):=rfl
@[simp]theorem Je(a b:Bool):dh (.bl a) (.bl b)=(a==b):=rfl
@[simp]theorem Jd(a b:List Nat):dh (.str a) (.str b)=decide (a=b):=rfl
@[simp]theorem Jc(a b:List Dat):dh (.tup a) (.tup b)=cr a b:=rfl
@[simp]theorem Jb(a b:List Dat):dh (.lst a) (.lst b)=cr a b:=rfl
@[simp]theorem Ju(k:Nat)(a:Int):xA (k+1) (.int a)=true:=rfl
@[simp]theorem Ih(k:Nat)(a:Bool):xA (k+1) (.bl a)=true:=rfl
@[simp]theorem Jt(k:Nat)(a:List Nat):xA (k+1) (.str a)=true:=rfl
@[simp]theorem Js(k:Nat):xA (k+1) .non=true:=rfl
@[simp]theorem Jr(k:Nat)(a:List Dat):xA (k+1) (.tup a)=bF k a:=rfl
@[simp]theorem Jq(k:Nat)(a:List Dat):xA (k+1) (.lst a)=bF k a:=rfl
@[simp]theorem JC(k:Nat):bF k []=true:=rfl
@[simp]theorem Jy(k:Nat)(d:Dat)(a:List Dat):bF k (d::a)=(xA k d&&bF k a):=rfl
@[simp]theorem Ig:yB=11+1:=rfl
@[simp]theorem uR(i j:Int):wQ .lt (.int i) (.int j)=.ok (.bl (decide (i<j))):=rfl
@[simp]theorem oN(i j:Int):wQ .le (.int i) (.int j)=.ok (.bl (decide (i<=j))):=rfl
@[simp]theorem uS(i j:Int):wQ .gt (.int i) (.int j)=.ok (.bl (decide (j<i))):=rfl
@[simp]theorem oM(i j:Int):wQ .ge (.int i) (.int j)=.ok (.bl (decide (j<=i))):=rfl
@[simp]theorem uT(i j:Int):wQ .eq (.int i) (.int j)=.ok (.bl (decide (i=j))):=rfl
@[simp]theorem uQ(i j:Int):wQ .ne (.int i) (.int j)=.ok (.bl (! decide (i=j))):=rfl
@[simp]theorem Ja(i j:Bool):wQ .eq (.bl i) (.bl j)=.ok (.bl (i==j)):=rfl
@[simp]theorem I0(i j:Bool):wQ .ne (.bl i) (.bl j)=.ok (.bl (!(i==j))):=rfl
@[simp]theorem IZ(i j:Int):yn .add (.int i) (.int j)=.ok (.int (i+j)):=rfl
@[simp]theorem IY(i j:Int):yn .sub (.int i) (.int j)=.ok (.int (i-j)):=rfl
def CA(i j:Int)(h:small i=true):yn .mul (.int i) (.int j)=.ok (.int (i*j)):=by simp[yn,h]
def Cz(i j:Int)(h:0<j)(k:j<1073741824):yn .fdiv (.int i) (.int j)=.ok (.int (i/j)):=by simp[yn,h,k]
def qr(i j:Int)(h:0<j):yn .mod (.int i) (.int j)=.ok (.int (i%j)):=by simp[yn,h]
@[simp]theorem zw(xs:List Dat):zD (.tup xs)=xs:=rfl
@[simp]theorem Ie(xs:List Dat):yu .len [.lst xs]=.ok (.int xs.length):=rfl
@[simp]theorem Ic(xs:List Dat):yu .len [.tup xs]=.ok (.int xs.length):=rfl
@[simp]theorem Ib(ns:List Int):yu .len [.scr ns]=.ok (.int ns.length):=by simp[yu,yH]
@[simp]theorem IX(b:Bool):yu .int [.bl b]=.ok (.int (b2i b)):=rfl
def yK (h:xs.length<=aq):bu xs=.ok (.lst xs):=by unfold bu;rw[Mk h]
def pf (h:i<n):ix n (i:Int)=some i:=by unfold ix;rw[Mk (by lia),Mk (by lia)];simp
def Cy {i:Nat}(h:xs[i]?=some d):xB (.lst xs) (.int (i:Int))=.ok d:=by
 have:=(Qa.mp h).1;simp[xB,yH,pf this,h]
def pd {a b:Int}(h:-aq<=a/\a<=aq/\-aq<=b/\b<=aq/\(c=1\/c=-1)):eM (.int a) (.int b) (.int c)=.ok (.tup (yh a c (fy a b c))):=by
 simp only[eM];rw[Mk h]
@[simp]theorem wt(a c:Int)(n:Nat):(yh a c n).length=n:=by simp[yh]
@[simp]theorem wL(a c:Int):∀(n:Nat),aW (yh a c n)=true:=by
 intro n;unfold yh;generalize QU n=l
 induction l with
 |nil=>rfl
 |cons x l ih=>simp[aW,ax,ih]
@[simp]theorem vL(xs:List Dat):ax (.tup xs)=aW xs:=by rw[ax]
@[simp]theorem D0(xs:List Dat):ax (.lst xs)=false:=by rw[ax]
@[simp]theorem Jp(i:Int):ax (.int i)=true:=by rw[ax]
@[simp]theorem Ia(i:Bool):ax (.bl i)=true:=by rw[ax]
@[simp]theorem Jo:ax .non=true:=by rw[ax]
@[simp]theorem Jn(s:List Nat):ax (.str s)=true:=by rw[ax]
@[simp]theorem Iu(s:List Int):ax (.scr s)=true:=by rw[ax]
@[simp]theorem JB:aW []=true:=by rw[aW]
@[simp]theorem Jx(d:Dat)(ds:List Dat):aW (d::ds)=(ax d&&aW ds):=by rw[aW]
def FD(a b:List Dat):aW (a++b)=(aW a&&aW b):=by
 induction a with
 |nil=>simp
 |cons x a ih=>simp[ih,Bool.and_assoc]
@[simp]theorem Jw(l:List Int):aW (l.map Dat.int)=true:=by
 induction l with
 |nil=>rfl
 |cons x l ih=>simp[ih]
@[simp]theorem vh(xs:List Dat):cI (.tup xs)=some xs:=rfl
@[simp]theorem IW(xs:List Int):cI (.scr xs)=some (xs.map .int):=rfl
def vj (h:xs.length<=aq):cI (.lst xs)=some xs:=by simp[cI,h]
@[simp]theorem IV:aR lev cl .skip de lv=.next de lv:=rfl
@[simp]theorem kf(e:Ex):aR lev cl (.ret e) de lv=(am cl e de).bindS λd=>.ret d (eG lev e d lv):=rfl
@[simp]theorem yL(i:Nat)(e:Ex):aR lev cl (.asg i e) de lv=(am cl e de).bindS λd=>xi lev i e d de lv:=rfl
@[simp]theorem pc(c:Ex)(a b:Sm):aR lev cl (.ite c a b) de lv=(am cl c de).bindS λx=>match x with
  |.bl true=>aR lev cl a de lv
  |.bl false=>aR lev cl b de lv
  |_=>.no:=rfl
def wu {lev:Nat->Lv}{de:aU}{lv:List Lv}(h:a9 lev e d=.full):xi lev i e d de lv=.next (de.set i (some d)) (lv.set i .full):=by
 unfold xi;rw[Mk h]
theorem jz:∀(xs:List α) (acc:List Dat),(∀x∈xs,c x=.ok (.bl true))->(∀x∈xs,e x=.ok (g x))->acc.length+xs.length<=aq->zM c e xs acc=.ok (.lst (acc++xs.map g))
 |[],acc,_,_,h=>by unfold zM;rw[yK (by simpa using h)];simp
 |x::xs,acc,hc,he,h=>by
  unfold zM;simp only[QH]at h;rw[hc x (by simp)];simp only[bO];rw[he x (by simp)];simp only[bO];rw[Mk (by lia),jz xs (acc++[g x]) (λy hy=>hc y (by simp[hy])) (λy hy=>he y (by simp[hy])) (by simp;lia)];simp
end
namespace Lib
section
variable{lev:Nat->Lv}{cl:Nat->List Dat->Rd}{k:Nat}
def isInt:Dat->Bool
 |.int _=>true
 |_=>false
def qt:Fn:=⟨1,1,(.ret (.and (.isi .int (.var 0)) (.not (.isi .bool (.var 0)))))⟩
def FC(d:Dat):yW lev cl k qt [d]=.ok (.bl (isInt d)):=by
 cases d<;>simp[yW,qt,yy,yI,xF,hZ,isInt,eG]
end
end Lib
section
variable(lev:Nat->Lv)(cl:Nat->List Dat->Rd)(de:aU)(lv:List Lv)
@[simp]theorem H0(i:Nat)(op:Bo)(e:Ex):aR lev cl (.aug i op e) de lv=match de[i]? with
  |some (some (.int a))=>(am cl e de).okS λy=>match y with
   |.int b=>(yn op (.int a) (.int b)).okS λz=>.next (de.set i (some z)) (lv.set i .full)
   |_=>.no
  |_=>.no:=rfl
@[simp]theorem rm(j:Nat)(e:Ex):aR lev cl (.expr (.meth .append (.var j) (.pair e .unit))) de lv=(am cl e de).okS λd=>match ql de j with
   |some ds=>if ds.length<aq then match gb lev e d j de lv with
    |some (de1,lv1)=>.next (de1.set j (some (.lst (ds++[d])))) lv1
    |none=>.no
    else .no
   |none=>.no:=rfl
@[simp]theorem IU(j:Nat):aR lev cl (.expr (.meth .reverse (.var j) .unit)) de lv=match ql de j with
   |some ds=>if yx lv j then .next (de.set j (some (.lst ds.reverse))) lv else .no
   |none=>.no:=rfl
def wv(i:Nat)(it:Ex)(body:Sm):aR lev cl (.forv i it body) de lv=(am cl it de).bindS λd=>match cI d with
  |some xs=>zr (λx de lv=>aR lev cl body (de.set i (some x)) (lv.set i (br x))) xs de (if ax d then lv else xC it de lv)
  |none=>.no:=rfl
def Cw(i j:Nat)(it:Ex)(body:Sm):aR lev cl (.fort i j it body) de lv=(am cl it de).bindS λd=>match cI d with
  |some xs=>zr (λx de lv=>match x with
    |.tup [a,b]=>aR lev cl body ((de.set i (some a)).set j (some b)) ((lv.set i (br a)).set j (br b))
    |_=>.no) xs de (if ax d then lv else xC it de lv)
  |none=>.no:=rfl
def bX.then(r:bX)(f:aU->List Lv->bX):bX:=match r with
 |.next d l=>f d l
 |r=>r
@[simp]theorem zt(d:aU)(l:List Lv)(f:aU->List Lv->bX):(bX.next d l).then f=f d l:=rfl
@[simp]theorem Is(d:Dat)(l:Lv)(f:aU->List Lv->bX):(bX.ret d l).then f=.ret d l:=rfl
def zY (h:yi a b=none):aR lev cl (.seq a b) de lv=(aR lev cl a de lv).then (aR lev cl b):=by
 rw[qm,h];cases aR lev cl a de lv<;>rfl
def DZ(a:Sm)(c d:Sm):yi a (.seq c d)=none:=rfl
@[simp]theorem xx(a:Sm)(c d:Sm):aR lev cl (.seq a (.seq c d)) de lv=(aR lev cl a de lv).then (aR lev cl (.seq c d)):=zY lev cl de lv (DZ a c d)
def DY(a:Sm)(e:Ex):yi a (.ret e)=none:=rfl
@[simp]theorem jA(a:Sm)(e:Ex):aR lev cl (.seq a (.ret e)) de lv=(aR lev cl a de lv).then (aR lev cl (.ret e)):=zY lev cl de lv (DY a e)
def DX(a:Sm)(c:Ex)(x y:Sm):yi a (.ite c x y)=none:=rfl
@[simp]theorem pK(a:Sm)(c:Ex)(x y:Sm):aR lev cl (.seq a (.ite c x y)) de lv=(aR lev cl a de lv).then (aR lev cl (.ite c x y)):=zY lev cl de lv (DX a c x y)
def FB(a:Sm)(i:Nat)(e:Ex)(x:Sm):yi a (.forv i e x)=none:=rfl
@[simp]theorem IT(a:Sm)(i:Nat)(e:Ex)(x:Sm):aR lev cl (.seq a (.forv i e x)) de lv=(aR lev cl a de lv).then (aR lev cl (.forv i e x)):=zY lev cl de lv (FB a i e x)
def FA(a:Sm)(i j:Nat)(e:Ex)(x:Sm):yi a (.fort i j e x)=none:=rfl
@[simp]theorem IS(a:Sm)(i j:Nat)(e:Ex)(x:Sm):aR lev cl (.seq a (.fort i j e x)) de lv=(aR lev cl a de lv).then (aR lev cl (.fort i j e x)):=zY lev cl de lv (FA a i j e x)
def Eu(a:Sm)(i:Nat)(e:Ex):yi a (.asg i e)=none:=rfl
@[simp]theorem HZ(a:Sm)(i:Nat)(e:Ex):aR lev cl (.seq a (.asg i e)) de lv=(aR lev cl a de lv).then (aR lev cl (.asg i e)):=zY lev cl de lv (Eu a i e)
def Et(a:Sm)(i:Nat)(op:Bo)(e:Ex):yi a (.aug i op e)=none:=rfl
@[simp]theorem HY(a:Sm)(i:Nat)(op:Bo)(e:Ex):aR lev cl (.seq a (.aug i op e)) de lv=(aR lev cl a de lv).then (aR lev cl (.aug i op e)):=zY lev cl de lv (Et a i op e)
def Fz(a:Sm)(e:Ex):yi a (.expr e)=none:=rfl
@[simp]theorem IR(a:Sm)(e:Ex):aR lev cl (.seq a (.expr e)) de lv=(aR lev cl a de lv).then (aR lev cl (.expr e)):=zY lev cl de lv (Fz a e)
def FZ(a:Sm): yi a .skip=none:=rfl
@[simp]theorem IQ(a:Sm): aR lev cl (.seq a .skip) de lv=(aR lev cl a de lv).then (aR lev cl .skip):=zY lev cl de lv (FZ a)
def F2(a:Sm): yi a .never=none:=rfl
@[simp]theorem Ir(a:Sm): aR lev cl (.seq a .never) de lv=(aR lev cl a de lv).then (aR lev cl .never):=zY lev cl de lv (F2 a)
end
namespace Lib
section
def aL(r:List Int):Dat:=.lst (r.map .int)
def aP(R:List (List Int)):Dat:=.lst (R.map aL)
end
end Lib
namespace Lib
section
noncomputable def S(R:List (List Int))(r c:Nat):Int:=((R.take r).map (λx=>x.getD c 0)).sum
noncomputable def ac(R:List (List Int))(r c:Nat):Int:=((R.getD r []).take c).sum
def Cv {c:Nat}(h:x[c]?=some v):xB (aL x) (.int (c:Int))=.ok (.int v):=Cy (by simp[h])
end
end Lib
namespace Lib
section
variable{lev:Nat->Lv}{cl:Nat->List Dat->Rd}{k:Nat}
noncomputable def fW:Fn:=⟨2,2,(.seq (.ite (.cmp .lt (.var 1) (.blt .len (.pair (.var 0) .unit))) (.ret (.idx (.var 0) (.var 1))) .skip) (.ret (.bin .add (.bin .mul (.lit (.int 2)) (.var 1)) (.lit (.int 1)))))⟩
def Es(ns:List Int)(i:Nat):∃c:Int,yW lev cl k fW [.scr ns,.int i]=.ok (.int c):=by
 by_cases h:i<ns.length
 .refine ⟨ns[i],?_⟩;have h1:xB (.scr ns) (.int (i:Int))=.ok (.int ns[i]):=by simp[xB,yH,pf h,h]
  simp[yW,fW,yy,yI,xF,eG,h,h1]
 .refine ⟨2*i+1,?_⟩;simp[yW,fW,yy,yI,xF,eG,h,CA 2 i (by decide)]
def uY(x:List Int):Prop:=∀i,i+1<x.length->x.getD i 0<x.getD (i+1) 0
def nO(fb sm:List Int):Prop:=fb.length=sm.length+1/\∀i,i<sm.length->fb.getD i 0<=sm.getD i 0/\sm.getD i 0<=fb.getD (i+1) 0
def AB {x:List Int}(h:i<x.length):x[i]?=some (x.getD i 0):=by
 rw[Qu,Qw h];rfl
end
end Lib
namespace Lib
section
def pJ(n:Nat):List Int:=(QU n).map λ(i:Nat)=>(i:Int)
structure HQ(n:Nat)(L:List (List Int)):Prop where
 first:L.getD 0 []=pJ n
 len:∀j,j<L.length->(L.getD j []).length+j=n
 inc:∀j,j<L.length->uY (L.getD j [])
 bd:∀j,j<L.length->∀i,i<(L.getD j []).length->0<=(L.getD j []).getD i 0/\(L.getD j []).getD i 0<n
 lace:∀j,j+1<L.length->nO (L.getD j []) (L.getD (j+1) [])
end
end Lib
namespace Lib
section
theorem yM {c e:β->Rd}{α:Type}(f:α->β)(g:α->Dat):∀(xs:List α) (acc:List Dat),(∀x∈xs,c (f x)=.ok (.bl true))->(∀x∈xs,e (f x)=.ok (g x))->acc.length+xs.length<=aq->zM c e (xs.map f) acc=.ok (.lst (acc++xs.map g))
 |[],acc,_,_,h=>by unfold zM;rw[List.map_nil];simp only;rw[yK (by simpa using h)];simp
 |x::xs,acc,hc,he,h=>by
  rw[QM];unfold zM;simp only[QH]at h;rw[hc x (by simp)];simp only[bO];rw[he x (by simp)];simp only[bO];rw[Mk (by lia),yM f g xs (acc++[g x]) (λy hy=>hc y (by simp[hy])) (λy hy=>he y (by simp[hy])) (by simp;lia)];simp
def Er (a s:Int)(n:Nat)(g:Nat->Dat)(hc:∀i,i<n->c (.int (a+s*(i:Int)))=.ok (.bl true))(he:∀i,i<n->e (.int (a+s*(i:Int)))=.ok (g i))(h:n<=aq):zM c e (yh a s n) []=.ok (.lst ((QU n).map g)):=by
 unfold yh;rw[yM (λ(i:Nat)=>Dat.int (a+s*(i:Int))) g (QU n) [] (λi hi=>hc i (by simpa using hi)) (λi hi=>he i (by simpa using hi)) (by simpa using h)];simp
def mem(x:List Int)(c:Int):Bool:=x.any (λv=>decide (v=c))
end
end Lib
namespace Lib
structure JJ(n:Nat)(X:List (List Int)):Prop where
 len:X.length=n
 rlen:∀j,j<n->(X.getD j []).length=j+1
 inc:∀j,j<n->uY (X.getD j [])
 bd:∀j,j<n->∀i,i<j+1->0<=(X.getD j []).getD i 0/\(X.getD j []).getD i 0<n
 lace:∀j,j+1<n->nO (X.getD (j+1) []) (X.getD j [])
 last:X.getD (n-1) []=pJ n
def getD_mem {x:List Int}(h:i<x.length):x.getD i 0∈x:=by
 rw[Qu,Qw h];exact VL h
def iI(x:List Int)(c:Nat):Int:=(x.map λ(v:Int)=>b2i (decide (v<(c:Int)))).sum
end Lib
namespace Lib
section
variable{lev:Nat->Lv}
def x4(R:List (List Int))(i:Nat):List Int:=(QU R.length).map λc=>S R i c
def GB(R:List (List Int)):List (List Int):=(QU (R.length+1)).map (x4 R)
def Cu(a b:List Int):yw .zip (aL a) (aL b)=if a.length<=aq/\b.length<=aq then some ((a.zip b).map λp=>(Dat.int p.1,Dat.int p.2))else none:=by
 simp only[yw,eT,aL,Qo];rw[List.zip_map];rfl
def Ep(e:Ex)(x:List Int)(he:∀i:Int,a9 lev e (.int i)=.full):(x.map Dat.int).all (λd=>a9 lev e d == .full)=true:=by
 rw[V0,QV];intro v _;simp[he]
end
end Lib
namespace Lib
section
variable{lev:Nat->Lv}{cl:Nat->List Dat->Rd}{k:Nat}
noncomputable def dz:List Int->Bool
 |i::r=>decide (0<=yY i r)&&decide (xo i r<=1)
 |[]=>false
abbrev vk:=List (List Int)×List Int
noncomputable def yX(t:List (List Int))(s:List Int):List (List Int)->List vk
 |[]=>[]
 |l::cs=>if dz (QT (·+·) s l)then(t++[l],QT (·+·) s l)::yX t s cs else yX t s cs
noncomputable def ww(cs:List (List Int)):List vk->List vk
 |[]=>[]
 |p::ps=>yX p.1 p.2 cs++ww cs ps
noncomputable def ku(cs:List (List Int)):Nat->List vk->List vk
 |0,ps=>ps
 |k+1,ps=>ku cs k (ww cs ps)
noncomputable def pD(p:vk):Dat:=.tup [aP p.1,aL p.2]
noncomputable def wZ:Ex:=.compP .zip (.bin .add (.var 9) (.var 10)) (.var 6) (.var 7) (.lit (.bl true))
noncomputable def wB:Sm:=.seq (.asg 8 wZ) (.ite (.and (.cmp .ge (.blt .minS (.pair (.var 8) .unit)) (.lit (.int 0))) (.cmp .le (.blt .maxS (.pair (.var 8) .unit)) (.lit (.int 1)))) (.expr (.meth .append (.var 4) (.pair (.tup (.pair (.bin .add (.var 5) (.lst (.pair (.var 7) .unit))) (.pair (.var 8) .unit))) .unit))) .skip)
theorem xy:∀k:List Int,zC (k.map Dat.int)=some k
 |[]=>rfl
 |x::k=>by show(zC (k.map Dat.int)).map (x::·)=_;rw[xy k];rfl
def Ct(i:Int)(r:List Int):yu .minS [aL (i::r)]=.ok (.int (yY i r)):=by
 show(match (some ((i::r).map Dat.int)).bind zC with|some (i::r)=>Rd.ok (.int (yY i r))|_=>.no)=_;rw[Q9,xy]
def Cs(i:Int)(r:List Int):yu .maxS [aL (i::r)]=.ok (.int (xo i r)):=by
 show(match (some ((i::r).map Dat.int)).bind zC with|some (i::r)=>Rd.ok (.int (xo i r))|_=>.no)=_;rw[Q9,xy]
def AA(d0 d1 d2 d3 o8:Option Dat)(L:List Dat)(t:List (List Int))(s l:List Int)(l0 l1 l2 l3 l4 l5 l6 l7 l8:Lv)(h4:l4=.top\/l4=.full)(hs:s≠[])(hl:l≠[])(hs1:s.length<=100)(hl1:l.length<=100)(hL:L.length<aq)(ht:t.length<=100):
  ∃l4' l5' l7' l8',(l4'=.top\/l4'=.full)/\aR lev cl wB [d0,d1,d2,d3,some (.lst L),some (aP t),some (aL s),some (aL l),o8] [l0,l1,l2,l3,l4,l5,l6,l7,l8] =
   .next [d0,d1,d2,d3,some (.lst (L++((yX t s [l]).map pD))),some (aP t),some (aL s),some (aL l),some (aL (QT (·+·) s l))] [l0,l1,l2,l3,l4',l5',l6,l7',l8']:=by
 have hev:am cl wZ [d0,d1,d2,d3,some (.lst L),some (aP t),some (aL s),some (aL l),o8]=.ok (aL (QT (·+·) s l)):=by
  unfold wZ;rw[jy];simp only[zq,zu,bO,Cu];rw[Mk (by unfold aq;lia)];simp only;rw[yM (λ(p:Int×Int)=>(Dat.int p.1,Dat.int p.2)) (λp=>.int (p.1+p.2)) _ [] (λp _=>by simp) (λp _=>by simp) (by rw[Vo];simp;unfold aq;lia)];simp[aL,List.zip,List.map_zipWith]
 have hlv:a9 lev wZ (aL (QT (·+·) s l))=.full:=by
  unfold aL wZ;rw[Ea];simp only[D0,QX,if_false];rw[Mk (Ep _ _ λi=>by simp)]
 unfold wB;rw[pK,yL,hev];simp only[cn];rw[wu hlv];simp only[zt,Q6,Q5];have e:yX t s [l]=if dz (QT (·+·) s l)then[(t++[l],QT (·+·) s l)]else[]:=rfl;rw[e];obtain⟨i,r,hz⟩:∃i r,QT (·+·) s l=i::r:=by
  cases s with
  |nil=>exact Mm rfl hs
  |cons a s=>cases l with
   |nil=>exact Mm rfl hl
   |cons b l=>exact⟨_,_,rfl⟩
 rw[hz]at *
 have hc:am cl (.and (.cmp .ge (.blt .minS (.pair (.var 8) .unit)) (.lit (.int 0))) (.cmp .le (.blt .maxS (.pair (.var 8) .unit)) (.lit (.int 1)))) [d0,d1,d2,d3,some (.lst L),some (aP t),some (aL s),some (aL l),some (aL (i::r))]=.ok (.bl (dz (i::r))):=by
  simp only[ph,pk,wr,zG,zK,zI,zu,zq,bO,zw,Ct,Cs,oM,oN];show _=Rd.ok (.bl (decide (0<=yY i r)&&decide (xo i r<=1)));cases decide (0<=yY i r)<;>rfl
 rw[pc,hc];simp only[cn];cases dz (i::r)with
 |false=>
  refine⟨l4,l5,l7,.full,h4,?_⟩;simp
 |true=>
  refine⟨.top,.no,.no,.no,.inl rfl,?_⟩;have ha:yn .add (aP t) (.lst [aL l])=.ok (aP (t++[l])):=by
   show bu (t.map aL++[aL l])=_;rw[yK (by simp;unfold aq;lia)];simp[aP]
  have hn:bu [aL l]=.ok (.lst [aL l]):=yK (by unfold aq;simp);have hv:am cl (.tup (.pair (.bin .add (.var 5) (.lst (.pair (.var 7) .unit))) (.pair (.var 8) .unit))) [d0,d1,d2,d3,some (.lst L),some (aP t),some (aL s),some (aL l),some (aL (i::r))]=.ok (pD (t++[l],i::r)):=by
   simp only[pi,zG,zK,lA,vf,zu,zq,bO,zw,hn,ha];exact Mk (show 2<=aq by unfold aq;lia)
  simp only;rw[rm,hv];simp only[iV];have hls:ql [d0,d1,d2,d3,some (.lst L),some (aP t),some (aL s),some (aL l),some (aL (i::r))] 4=some L:=rfl;rw[hls];simp only;rw[Mk hL];have ho:yx [l0,l1,l2,l3,l4,l5,l6,l7,.full] 4=true:=by
   rcases h4 with rfl|rfl<;>rfl
  have hf:a9 lev (.tup (.pair (.bin .add (.var 5) (.lst (.pair (.var 7) .unit))) (.pair (.var 8) .unit))) (pD (t++[l],i::r))=.no:=by
   simp[pD,aP,aL]
  simp only[gb,ho,hf];simp[bo,xC]
def jB(t:List (List Int))(s l:List Int)(cs:List (List Int)):yX t s (l::cs)=yX t s [l]++yX t s cs:=by
 show(if dz _ then _ else _)=(if dz _ then[_]else[])++_;split<;>rfl
theorem kg(t:List (List Int))(s:List Int):∀cs:List (List Int),(yX t s cs).length<=cs.length
 |[]=>Qh _
 |l::cs=>by
  have:=kg t s cs;show(if dz _ then _ else _:List vk).length<=_;split<;>simp<;>lia
def qu(n:Nat)(cs:List (List Int)):Prop:=cs.length<=90/\∀l∈cs,l.length=n
def eL(n i:Nat)(ps:List vk):Prop:=∀p∈ps,p.2.length=n/\p.1.length<=i
theorem tw (hs:s.length=n)(ht:t.length<=i):∀{cs:List (List Int)},(∀l∈cs,l.length=n)->eL n (i+1) (yX t s cs)
 |[],_=>λp hp=>by cases hp
 |l::cs,h=>λp hp=>by
  rw[jB]at hp;rcases Qx.mp hp with hp|hp
  .have hp':p∈(if dz (QT (·+·) s l)then[(t++[l],QT (·+·) s l)]else[]:List vk):=hp;split at hp'
   .rw[Qq]at hp';subst hp';exact⟨by simp[hs,h l (by simp)],by simp;lia⟩
   .cases hp'
  .exact tw hs ht (λl hl=>h l (by simp[hl])) p hp
theorem tu (hc:∀l∈cs,l.length=n):∀{ps:List vk},eL n i ps->eL n (i+1) (ww cs ps)
 |[],_=>λp hp=>by cases hp
 |p::ps,h=>λq hq=>by
  have hq':q∈yX p.1 p.2 cs++ww cs ps:=hq;rcases Qx.mp hq' with hq|hq
  .exact tw (h p (by simp)).1 (h p (by simp)).2 hc q hq
  .exact tu hc (λp hp=>h p (by simp[hp])) q hq
theorem oK(d0 d1 d2 d3:Option Dat)(t:List (List Int))(s:List Int)(l0 l1 l2 l3 l6:Lv)(hs:s≠[])(hs1:s.length<=100)(ht:t.length<=100):∀(cs:List (List Int)) (L:List Dat) (o7 o8:Option Dat) (l4 l5 l7 l8:Lv),(l4=.top\/l4=.full)->(∀l∈cs,l≠[]/\l.length<=100)->L.length+cs.length<aq ->
  ∃o7' o8' l4' l5' l7' l8',(l4'=.top\/l4'=.full)/\zr (λx de lv=>aR lev cl wB (de.set 7 (some x)) (lv.set 7 (br x))) (cs.map aL) [d0,d1,d2,d3,some (.lst L),some (aP t),some (aL s),o7,o8] [l0,l1,l2,l3,l4,l5,l6,l7,l8] =
   .next [d0,d1,d2,d3,some (.lst (L++(yX t s cs).map pD)),some (aP t),some (aL s),o7',o8'] [l0,l1,l2,l3,l4',l5',l6,l7',l8']
 |[],L,o7,o8,l4,l5,l7,l8,h4,_,_=>⟨o7,o8,l4,l5,l7,l8,h4,by simp[zr,yX]⟩
 |l::cs,L,o7,o8,l4,l5,l7,l8,h4,hc,hL=>by
  rw[QH]at hL;obtain⟨hl,hl1⟩:=hc l (by simp);obtain⟨l4',l5',l7',l8',h4',e⟩:=AA (lev:=lev) (cl:=cl) d0 d1 d2 d3 o8 L t s l l0 l1 l2 l3 l4 l5 l6 (br (aL l)) l8 h4 hs hl hs1 hl1 (by lia) ht;have hn:=kg t s [l];obtain⟨o7'',o8'',a4,a5,a7,a8,ha,e'⟩:=oK d0 d1 d2 d3 t s l0 l1 l2 l3 l6 hs hs1 ht cs (L++(yX t s [l]).map pD) (some (aL l)) (some (aL (QT (·+·) s l))) l4' l5' l7' l8' h4' (λq hq=>hc q (by simp[hq])) (by simp at hn ⊢;lia);refine⟨o7'',o8'',a4,a5,a7,a8,ha,?_⟩;rw[QM];unfold zr;simp only[Q6,Q5,e];rw[e',jB t s l cs,WF,Qj]
noncomputable def wF(lev:Nat->Lv)(cl:Nat->List Dat->Rd):Dat->aU->List Lv->bX:=λx de lv=>match x with
 |.tup [a,b]=>aR lev cl (.forv 7 (.var 2) wB) ((de.set 5 (some a)).set 6 (some b)) ((lv.set 5 (br a)).set 6 (br b))
 |_=>.no
def wM {l:List Int}(hn:0<n)(h:l.length=n):l≠[]:=by
 rintro rfl;simp at h;lia
theorem oJ (hn:0<n)(hn1:n<=100)(d0 d1 d3:Option Dat)(hc:qu n cs)(l0 l1 l3:Lv):∀(ps:List vk) (L:List Dat) (o5 o6 o7 o8:Option Dat) (l2 l4 l5 l6 l7 l8:Lv),(l4=.top\/l4=.full)->eL n 100 ps->L.length+ps.length*cs.length<aq ->
  ∃o5' o6' o7' o8' l2' l4' l5' l6' l7' l8',(l4'=.top\/l4'=.full)/\zr (wF lev cl) (ps.map pD) [d0,d1,some (aP cs),d3,some (.lst L),o5,o6,o7,o8] [l0,l1,l2,l3,l4,l5,l6,l7,l8] =
   .next [d0,d1,some (aP cs),d3,some (.lst (L++(ww cs ps).map pD)),o5',o6',o7',o8'] [l0,l1,l2',l3,l4',l5',l6',l7',l8']
 |[],L,o5,o6,o7,o8,l2,l4,l5,l6,l7,l8,h4,_,_=>⟨o5,o6,o7,o8,l2,l4,l5,l6,l7,l8,h4,by simp[zr,ww]⟩
 |p::ps,L,o5,o6,o7,o8,l2,l4,l5,l6,l7,l8,h4,hp,hL=>by
  rw[QH,VH]at hL;obtain⟨p1,p2⟩:=hp p (by simp);obtain⟨o7',o8',l4',l5',l7',l8',h4',e⟩:=oK (lev:=lev) (cl:=cl) d0 d1 (some (aP cs)) d3 p.1 p.2 l0 l1 .no l3 (br (aL p.2)) (wM hn p1) (by lia) p2 cs L o7 o8 l4 (br (aP p.1)) l7 l8 h4 (λl hl=>⟨wM hn (hc.2 l hl),by rw[hc.2 l hl];exact hn1⟩) (by lia);have hq:=kg p.1 p.2 cs;obtain⟨a5,a6,a7,a8,b2,b4,b5,b6,b7,b8,hb,e'⟩:=oJ hn hn1 d0 d1 d3 hc l0 l1 l3 ps (L++(yX p.1 p.2 cs).map pD) (some (aP p.1)) (some (aL p.2)) o7' o8' .no l4' l5' (br (aL p.2)) l7' l8' h4' (λq hq=>hp q (by simp[hq])) (by simp;lia);refine⟨a5,a6,a7,a8,b2,b4,b5,b6,b7,b8,hb,?_⟩;rw[QM];unfold zr;have hb:wF lev cl (pD p) [d0,d1,some (aP cs),d3,some (.lst L),o5,o6,o7,o8] [l0,l1,l2,l3,l4,l5,l6,l7,l8]=.next [d0,d1,some (aP cs),d3,some (.lst (L++(yX p.1 p.2 cs).map pD)),some (aP p.1),some (aL p.2),o7',o8'] [l0,l1,.no,l3,l4',l5',br (aL p.2),l7',l8']:=by
   show aR lev cl (.forv 7 (.var 2) wB) [d0,d1,some (aP cs),d3,some (.lst L),some (aP p.1),some (aL p.2),o7,o8] [l0,l1,l2,l3,l4,br (aP p.1),br (aL p.2),l7,l8]=_;rw[wv];simp only[zu,zq,cn];rw[show cI (aP cs)=some (cs.map aL)from vj (by rw[Qo];unfold aq;have:=hc.1;lia)];exact e
  rw[hb];simp only;rw[e',show ww cs (p::ps)=yX p.1 p.2 cs++ww cs ps from rfl,WF,Qj]
noncomputable def oB:Sm:=.seq (.asg 4 (.lst .unit)) (.seq (.fort 5 6 (.var 1) (.forv 7 (.var 2) wB)) (.asg 1 (.var 4)))
def Az (hn:0<n)(hn1:n<=100)(d0 d3:Option Dat)(hc:qu n cs)(hp:eL n 100 ps)(hz:ps.length<=1000)(o4 o5 o6 o7 o8:Option Dat)(l0 l1 l2 l3 l4 l5 l6 l7 l8:Lv):
  ∃o4' o5' o6' o7' o8' l0' l1' l2' l3' l4' l5' l6' l7' l8',aR lev cl oB [d0,some (.lst (ps.map pD)),some (aP cs),d3,o4,o5,o6,o7,o8] [l0,l1,l2,l3,l4,l5,l6,l7,l8] =
   .next [d0,some (.lst ((ww cs ps).map pD)),some (aP cs),d3,o4',o5',o6',o7',o8'] [l0',l1',l2',l3',l4',l5',l6',l7',l8']:=by
 have hc1:=hc.1;have hm:ps.length*cs.length<=1000*90:=Nat.mul_le_mul hz hc1;obtain⟨a5,a6,a7,a8,b2,b4,b5,b6,b7,b8,hb,e⟩:=oJ (lev:=lev) (cl:=cl) hn hn1 d0 (some (.lst (ps.map pD))) d3 hc l0 .no l3 ps [] o5 o6 o7 o8 l2 .full l5 l6 l7 l8 (.inr rfl) hp (by simp;unfold aq;lia);have h1:aR lev cl (.asg 4 (.lst .unit)) [d0,some (.lst (ps.map pD)),some (aP cs),d3,o4,o5,o6,o7,o8] [l0,l1,l2,l3,l4,l5,l6,l7,l8]=.next [d0,some (.lst (ps.map pD)),some (aP cs),d3,some (.lst []),o5,o6,o7,o8] [l0,l1,l2,l3,.full,l5,l6,l7,l8]:=by
  rw[yL];simp only[vf,zK,bO,zw];rw[yK (by simp)];simp only[cn];rw[wu (by simp)];rfl
 have h2:aR lev cl (.fort 5 6 (.var 1) (.forv 7 (.var 2) wB)) [d0,some (.lst (ps.map pD)),some (aP cs),d3,some (.lst []),o5,o6,o7,o8] [l0,l1,l2,l3,.full,l5,l6,l7,l8]=.next [d0,some (.lst (ps.map pD)),some (aP cs),d3,some (.lst ((ww cs ps).map pD)),a5,a6,a7,a8] [l0,.no,b2,l3,b4,b5,b6,b7,b8]:=by
  rw[Cw];simp only[zu,zq,cn];rw[vj (by rw[Qo];unfold aq;lia)];exact e
 unfold oB;rw[xx,h1,zt,zY lev cl _ _ rfl,h2,zt,yL];simp only[zu,zq,cn];unfold xi;split
 .exact ⟨_,_,_,_,_,_,_,_,_,_,_,_,_,_,rfl⟩
 .exact ⟨_,_,_,_,_,_,_,_,_,_,_,_,_,_,rfl⟩
theorem oI (hn:0<n)(hn1:n<=90)(d0:Option Dat)(hc:qu n cs):∀(xs:List Dat) (i:Nat) (ps:List vk) (o3 o4 o5 o6 o7 o8:Option Dat) (l0 l1 l2 l3 l4 l5 l6 l7 l8:Lv),i+xs.length<=100->eL n i ps->(∀j,j<=xs.length->(ku cs j ps).length<=1000) ->
  ∃o3' o4' o5' o6' o7' o8' lv',zr (λx de lv=>aR lev cl oB (de.set 3 (some x)) (lv.set 3 (br x))) xs [d0,some (.lst (ps.map pD)),some (aP cs),o3,o4,o5,o6,o7,o8] [l0,l1,l2,l3,l4,l5,l6,l7,l8] =
   .next [d0,some (.lst ((ku cs xs.length ps).map pD)),some (aP cs),o3',o4',o5',o6',o7',o8'] lv'
 |[],i,ps,o3,o4,o5,o6,o7,o8,l0,l1,l2,l3,l4,l5,l6,l7,l8,_,_,_=>⟨o3,o4,o5,o6,o7,o8,_,rfl⟩
 |x::xs,i,ps,o3,o4,o5,o6,o7,o8,l0,l1,l2,l3,l4,l5,l6,l7,l8,hi,hp,hz=>by
  rw[QH]at hi;have hp':eL n 100 ps:=λp q=>⟨(hp p q).1,by have:=(hp p q).2;lia⟩;obtain⟨a4,a5,a6,a7,a8,b0,b1,b2,b3,b4,b5,b6,b7,b8,e⟩:=Az (lev:=lev) (cl:=cl) hn (by lia) d0 (some x) hc hp' (hz 0 (by simp)) o4 o5 o6 o7 o8 l0 l1 l2 (br x) l4 l5 l6 l7 l8;obtain⟨c3,c4,c5,c6,c7,c8,lv',e'⟩:=oI hn hn1 d0 hc xs (i+1) (ww cs ps) (some x) a4 a5 a6 a7 a8 b0 b1 b2 b3 b4 b5 b6 b7 b8 (by lia) (tu hc.2 hp) (λj hj=>hz (j+1) (by rw[QH];lia));refine⟨c3,c4,c5,c6,c7,c8,lv',?_⟩;unfold zr;simp only[Q6,Q5,e];exact e'
noncomputable def iH:Ex:=.blt .sorted (.pair (.compP .prs (.var 9) (.var 1) (.lit (.int 0)) (.lit (.bl true))) .unit)
noncomputable def oH(ka:Nat):Fn:=⟨1,9,(.seq (.asg 1 (.lst (.pair (.tup (.pair (.lst .unit) (.pair (.comp (.lit (.int 0)) (.rng (.lit (.int 0)) (.var 0) (.lit (.int 1))) (.lit (.bl true))) .unit))) .unit))) (.seq (.asg 2 (.call ka (.pair (.var 0) .unit))) (.seq (.forv 3 (.rng (.lit (.int 0)) (.var 0) (.lit (.int 1))) oB) (.ret iH))))⟩
def fC{n:Nat}(hn:n<=1000):eM (.int 0) (.int n) (.int 1)=.ok (.tup (yh 0 1 n)):=by
 rw[pd (by unfold aq;lia)];congr 3
def Eo (hn:0<n)(hn1:n<=90)(hc:qu n cs)(h:cl ka [.int n]=.ok (aP cs))(hz:∀j,j<=n->(ku cs j [([],Qg n 0)]).length<=1000)(hs:yu .sorted [.lst ((ku cs n [([],Qg n 0)]).map λp=>aP p.1)]=.ok (.lst ss))(hlev:lev k=.no):yW lev cl k (oH ka) [.int n]=.ok (.lst ss):=by
 have hr:am cl (.rng (.lit (.int 0)) (.var 0) (.lit (.int 1))) [some (.int n),none,none,none,none,none,none,none,none]=.ok (.tup (yh 0 1 n)):=by
  simp only[vg,zI,zq,bO,fC (show n<=1000 by lia)]
 have h1:am cl (.lst (.pair (.tup (.pair (.lst .unit) (.pair (.comp (.lit (.int 0)) (.rng (.lit (.int 0)) (.var 0) (.lit (.int 1))) (.lit (.bl true))) .unit))) .unit)) [some (.int n),none,none,none,none,none,none,none,none]=.ok (.lst ([([],Qg n 0)].map pD)):=by
  have hz0:am cl (.comp (.lit (.int 0)) (.rng (.lit (.int 0)) (.var 0) (.lit (.int 1))) (.lit (.bl true))) [some (.int n),none,none,none,none,none,none,none,none]=.ok (aL (Qg n 0)):=by
   rw[vK,hr];simp only[bO,vh];rw[jz (g:=λ_=>.int 0) (yh 0 1 n) [] (λx _=>by rfl) (λx _=>by rfl) (by simp;unfold aq;lia)];simp[aL,List.map_const']
  have ht:am cl (.tup (.pair (.lst .unit) (.pair (.comp (.lit (.int 0)) (.rng (.lit (.int 0)) (.var 0) (.lit (.int 1))) (.lit (.bl true))) .unit))) [some (.int n),none,none,none,none,none,none,none,none]=.ok (pD ([],Qg n 0)):=by
   rw[pi,zG,zG,hz0,vf];simp only[zK,bO,zw];rw[yK (show([]:List Dat).length<=aq by simp)];show(if 2<=aq then Rd.ok (Dat.tup [Dat.lst [],aL (Qg n 0)])else .no)=_;rw[Mk (show 2<=aq by unfold aq;lia)];rfl
  rw[vf,zG,ht];simp only[zK,bO,zw];exact yK (show 1<=aq by unfold aq;lia)
 unfold yW;rw[Mk (by rfl),hlev];show xF .no (aR lev cl (.seq (.asg 1 _) (.seq (.asg 2 _) (.seq (.forv 3 _ oB) (.ret iH)))) [some (.int n),none,none,none,none,none,none,none,none] [br (.int n),.full,.full,.full,.full,.full,.full,.full,.full])=_;rw[xx,yL,h1];simp only[cn];obtain⟨l0,l1,l2,l3,l4,l5,l6,l7,l8,e1⟩:∃l0 l1 l2 l3 l4 l5 l6 l7 l8,xi lev 1 (.lst (.pair (.tup (.pair (.lst .unit) (.pair (.comp (.lit (.int 0)) (.rng (.lit (.int 0)) (.var 0) (.lit (.int 1))) (.lit (.bl true))) .unit))) .unit)) (.lst ([([],Qg n 0)].map pD)) [some (.int n),none,none,none,none,none,none,none,none] [br (.int n),.full,.full,.full,.full,.full,.full,.full,.full]=.next [some (.int n),some (.lst ([([],Qg n 0)].map pD)),none,none,none,none,none,none,none] [l0,l1,l2,l3,l4,l5,l6,l7,l8]:=by
  unfold xi;split
  .exact ⟨_,_,_,_,_,_,_,_,_,rfl⟩
  .exact ⟨_,_,_,_,_,_,_,_,_,rfl⟩
 rw[e1,zt,xx,yL];simp only[xZ,zG,zK,zq,bO,zw,h,cn];obtain⟨k0,k1,k2,k3,k4,k5,k6,k7,k8,e2⟩:∃k0 k1 k2 k3 k4 k5 k6 k7 k8,xi lev 2 (.call ka (.pair (.var 0) .unit)) (aP cs) [some (.int n),some (.lst ([([],Qg n 0)].map pD)),none,none,none,none,none,none,none] [l0,l1,l2,l3,l4,l5,l6,l7,l8]=.next [some (.int n),some (.lst ([([],Qg n 0)].map pD)),some (aP cs),none,none,none,none,none,none] [k0,k1,k2,k3,k4,k5,k6,k7,k8]:=by
  unfold xi;split
  .exact ⟨_,_,_,_,_,_,_,_,_,rfl⟩
  .exact ⟨_,_,_,_,_,_,_,_,_,rfl⟩
 rw[e2,zt,jA,wv];have hr2:am cl (.rng (.lit (.int 0)) (.var 0) (.lit (.int 1))) [some (.int n),some (.lst ([([],Qg n 0)].map pD)),some (aP cs),none,none,none,none,none,none]=.ok (.tup (yh 0 1 n)):=by
  simp only[vg,zI,zq,bO,fC (show n<=1000 by lia)]
 rw[hr2];simp only[cn,vh,vL,wL,if_true];obtain⟨c3,c4,c5,c6,c7,c8,lv',e3⟩:=oI (lev:=lev) (cl:=cl) hn hn1 (some (.int n)) hc (yh 0 1 n) 0 [([],Qg n 0)] none none none none none none k0 k1 k2 k3 k4 k5 k6 k7 k8 (by simp;lia) (λp hp=>by simp at hp;subst hp;simp) (λj hj=>hz j (by simpa using hj));rw[e3,zt,wt];have hw:=hz n (Qh _);generalize ku cs n [([],Qg n 0)]=W at *
 have hp:∀W:List vk,eo (W.map pD)=some (W.map λp=>(aP p.1,aL p.2)):=by
  intro W
  induction W with
  |nil=>rfl
  |cons p W ih=>
   show(eo (W.map pD)).map ((aP p.1,aL p.2)::·)=_;rw[ih];rfl
 have hv:am cl iH [some (.int n),some (.lst (W.map pD)),some (aP cs),c3,c4,c5,c6,c7,c8]=.ok (.lst ss):=by
  unfold iH;simp only[wr,zG,zK];rw[jy];simp only[zu,zq,zI,bO];rw[show yw .prs (.lst (W.map pD)) (.int 0)=some (W.map λp=>(aP p.1,aL p.2))from by
   show(if(W.map pD).length<=aq then eo (W.map pD)else none)=_;rw[Mk (by rw[Qo];unfold aq;lia),hp]]
  simp only;rw[yM (λ(p:vk)=>(aP p.1,aL p.2)) (λp=>aP p.1) W [] (λp _=>rfl) (λp _=>rfl) (by simp;unfold aq;lia)];simp only[bO,zw,Ws];exact hs
 rw[kf,hv];simp[xF,qo]
end
end Lib
namespace Lib
section
variable{cl:Nat->List Dat->Rd}
theorem bP:∀(x:List Int),cr (x.map Dat.int) (x.map Dat.int)=true
 |[]=>rfl
 |v::x=>by simp[cr,bP x]
theorem tt:∀(x:List Int),vI (x.map Dat.int)=some x.sum
 |[]=>rfl
 |v::x=>by simp[vI,tt x]
def x3 (hn:R.length<=100)(hr:∀r∈R,r.length<=100)(de:aU)(i j:Nat)(hj:de.length=j)(hd:am cl (.var i) de=.ok (aP R)):am cl (.comp (.blt .list (.pair (.var j) .unit)) (.var i) (.lit (.bl true))) de=.ok (aP R):=by
 have hlim:(R.map aL).length<=aq:=by simp;unfold aq;lia
 rw[vK,hd];simp only[bO,aP,vj hlim];rw[yM aL aL R [] (λx _=>by simp) (λx hx=>?_) (by simpa using hlim)]
 .simp
 .have:am cl (.var j) (de++[some (aL x)])=.ok (aL x):=AC cl _ _ _ (by rw[<-hj];simp);simp only[wr,zG,zK,this,bO,zw];have:=hr x hx;simp only[yu,aL,yH];rw[yK (by simp;unfold aq;lia)]
end
end Lib
namespace Lib
end Lib
namespace Lib
section
def Cr(x:List Int):yu .sum [aL x]=.ok (.int x.sum):=by
 simp only[yu,aL,dD,Q9,tt]
end
end Lib
namespace Lib
section
variable{lev:Nat->Lv}{cl:Nat->List Dat->Rd}{k:Nat}
def yc(ts:List (List (List Int))):Dat:=.lst (ts.map aP)
def qw(t:List (List Int))(c:Nat):List Int:=t.map λr=>r.getD c 0
def yk(n:Nat)(t:List (List Int)):List Int:=(QU n).map λc=>(qw t c).sum
noncomputable def tJ:List Int->Int->List (List Int)
 |[],a=>if a=1 then[[]]else[]
 |s::ss,a=>([-1,0,1]:List Int).flatMap λg=>if(a+g=0\/a+g=1)/\(s+g=0\/s+g=1)then(tJ ss (a+g)).map (g::·)else[]
def di(ss:List Int):List (List Int):=tJ ss 0
noncomputable def vm(n:Nat):List (List (List Int))->List (List (List Int))
 |[]=>[]
 |t::ts=>(di (yk n t)).map (λr=>t++[r])++vm n ts
noncomputable def iW:Fn:=⟨2,2,(.ret (.comp (.idx (.var 2) (.var 1)) (.var 0) (.lit (.bl true))))⟩
def Cq {c:Nat}(ht:t.length<=100)(hc:∀r∈t,c<r.length)(hlev:lev k=.no):yW lev cl k iW [aP t,.int c]=.ok (aL (qw t c)):=by
 have hv:am cl (.comp (.idx (.var 2) (.var 1)) (.var 0) (.lit (.bl true))) [some (aP t),some (.int c)]=.ok (aL (qw t c)):=by
  rw[vK];simp only[zq,bO,aP,vj (show(t.map aL).length<=aq from by simp;unfold aq;lia)];rw[yM aL (λx=>.int (x.getD c 0)) t [] (λ_ _=>by simp) (λx hx=>?_) (by simp;unfold aq;lia)]
  .simp only[aL,qw,WM,Ws];rfl
  .simp only[Wz,Ws,AD,zq,zu,bO];exact Cv (AB (hc x hx))
 unfold yW;rw[Mk (by rfl),hlev];show xF .no (aR lev cl (.ret _) [some (aP t),some (.int c)] _)=_;rw[kf,hv];simp[xF,qo]
noncomputable def sE:Ex:=.comp (.blt .sum (.pair (.call 3 (.pair (.var 3) (.pair (.var 5) .unit))) .unit)) (.rng (.lit (.int 0)) (.var 1) (.lit (.int 1))) (.lit (.bl true))
noncomputable def aE:Ex:=.bin .add (.comp (.blt .list (.pair (.var 5) .unit)) (.var 3) (.lit (.bl true))) (.lst (.pair (.var 4) .unit))
def aB:Sm:=.expr (.meth .append (.var 2) (.pair aE .unit))
def gk:Sm:=.forv 4 (.call 5 (.pair sE .unit)) aB
noncomputable def ue:Fn:=⟨2,5,(.seq (.asg 2 (.lst .unit)) (.seq (.forv 3 (.var 0) gk) (.ret (.var 2))))⟩
def Ay (d0 d1:Option Dat)(L:List Dat)(ht:t.length<=100)(htr:∀x∈t,x.length<=100)(r:List Int)(hL:L.length<aq)(l0 l1 l2 l3 l4:Lv)(h2:l2=.top\/l2=.full):
  ∃l2' l3' l4',(l2'=.top\/l2'=.full)/\aR lev cl aB [d0,d1,some (.lst L),some (aP t),some (aL r)] [l0,l1,l2,l3,l4]=.next [d0,d1,some (.lst (L++[aP (t++[r])])),some (aP t),some (aL r)] [l0,l1,l2',l3',l4']:=by
 have hc:=x3 (cl:=cl) ht htr [d0,d1,some (.lst L),some (aP t),some (aL r)] 3 5 rfl (by simp);have ha:yn .add (aP t) (.lst [aL r])=.ok (aP (t++[r])):=by
  show bu (t.map aL++[aL r])=_;rw[yK (by simp;unfold aq;lia)];simp[aP]
 have hn:bu [aL r]=.ok (.lst [aL r]):=yK (by unfold aq;simp);have hv:am cl aE [d0,d1,some (.lst L),some (aP t),some (aL r)]=.ok (aP (t++[r])):=by
  unfold aE;rw[lA,hc];simp only[vf,zG,zK,zu,zq,bO,zw,hn,ha]
 have ho:yx [l0,l1,l2,l3,l4] 2=true:=by
  rcases h2 with rfl|rfl<;>rfl
 have hf:a9 lev aE (aP (t++[r]))=.top:=by
  simp[aE,a9,aP,aL,FD]
 unfold aB;rw[rm,hv];simp only[iV];rw[show ql [d0,d1,some (.lst L),some (aP t),some (aL r)] 2=some L from rfl];simp only;rw[Mk hL];refine⟨.top,.no,.no,.inl rfl,?_⟩;simp only[gb,ho,hf];simp[aE,bo,xC,zh]
theorem oG (d0 d1:Option Dat)(ht:t.length<=100)(htr:∀x∈t,x.length<=100)(l0 l1:Lv):∀(rs:List (List Int)) (L:List Dat) (o4:Option Dat) (l2 l3 l4:Lv),(l2=.top\/l2=.full)->L.length+rs.length<aq ->
  ∃o4' l2' l3' l4',(l2'=.top\/l2'=.full)/\zr (λx de lv=>aR lev cl aB (de.set 4 (some x)) (lv.set 4 (br x))) (rs.map aL) [d0,d1,some (.lst L),some (aP t),o4] [l0,l1,l2,l3,l4] =
   .next [d0,d1,some (.lst (L++rs.map λr=>aP (t++[r]))),some (aP t),o4'] [l0,l1,l2',l3',l4']
 |[],L,o4,l2,l3,l4,h2,_=>⟨o4,l2,l3,l4,h2,by simp[zr]⟩
 |r::rs,L,o4,l2,l3,l4,h2,hL=>by
  rw[QH]at hL;obtain⟨a2,a3,a4,h2',e⟩:=Ay (lev:=lev) (cl:=cl) d0 d1 L ht htr r (by lia) l0 l1 l2 l3 (br (aL r)) h2;obtain⟨o4',b2,b3,b4,hb,e'⟩:=oG d0 d1 ht htr l0 l1 rs (L++[aP (t++[r])]) (some (aL r)) a2 a3 a4 h2' (by simp;lia);refine⟨o4',b2,b3,b4,hb,?_⟩;rw[QM];unfold zr;simp only[Q6,Q5,e];rw[e',QM,Qj];rfl
def nN(n i:Nat)(ts:List (List (List Int))):Prop:=∀t∈ts,t.length<=i/\∀r∈t,r.length=n
def u9 {n:Nat}(hn:n<=100)(hcol:∀c,c<n->cl 3 [aP t,.int (c:Int)]=.ok (aL (qw t c)))(d0 d2 d4:Option Dat):am cl sE [d0,some (.int n),d2,some (aP t),d4]=.ok (aL (yk n t)):=by
 unfold sE;rw[vK];simp only[vg,zI,zq,zu,bO,fC (show n<=1000 by lia),vh];rw[Er 0 1 n (λc=>.int (qw t c).sum) (λc _=>by simp) (λc hc=>?_) (by unfold aq;lia)]
 .simp only[aL,yk,WM];rfl
 .rw[show(0+1*(c:Int))=(c:Int) by lia];simp only[Wz,Ws,wr,xZ,zG,zK,zq,zu,bO,zw,hcol c hc,Cr]
theorem oF (hn:n<=100)(hcol:∀t:List (List Int),t.length<=100->(∀r∈t,r.length=n)->∀c,c<n->cl 3 [aP t,.int (c:Int)]=.ok (aL (qw t c)))(d0:Option Dat):
  ∀(ts:List (List (List Int))) (L:List Dat) (o3 o4:Option Dat) (l0 l1 l2 l3 l4:Lv),(l2=.top\/l2=.full)->nN n 100 ts->(∀t∈ts,cl 5 [aL (yk n t)]=.ok (aP (di (yk n t)))/\(di (yk n t)).length<=50)->L.length+ts.length*50<aq ->
  ∃o3' o4' l0' l1' l2' l3' l4',(l2'=.top\/l2'=.full)/\zr (λx de lv=>aR lev cl gk (de.set 3 (some x)) (lv.set 3 (br x))) (ts.map aP) [d0,some (.int n),some (.lst L),o3,o4] [l0,l1,l2,l3,l4] =
   .next [d0,some (.int n),some (.lst (L++(vm n ts).map aP)),o3',o4'] [l0',l1',l2',l3',l4']
 |[],L,o3,o4,l0,l1,l2,l3,l4,h2,_,_,_=>⟨o3,o4,l0,l1,l2,l3,l4,h2,by simp[zr,vm]⟩
 |t::ts,L,o3,o4,l0,l1,l2,l3,l4,h2,hk,hr,hL=>by
  rw[QH]at hL;obtain⟨k1,k2⟩:=hk t (by simp);obtain⟨r1,r2⟩:=hr t (by simp);obtain⟨o4',a2,a3,a4,ha,e⟩:=oG (lev:=lev) (cl:=cl) d0 (some (.int n)) k1 (λx hx=>by rw[k2 x hx];exact hn) l0 .no (di (yk n t)) L o4 l2 .no l4 h2 (by lia);have hb:aR lev cl gk [d0,some (.int n),some (.lst L),some (aP t),o4] [l0,l1,l2,br (aP t),l4]=.next [d0,some (.int n),some (.lst (L++(di (yk n t)).map λr=>aP (t++[r]))),some (aP t),o4'] [l0,.no,a2,a3,a4]:=by
   unfold gk;rw[wv];simp only[xZ,zG,zK,u9 hn (hcol t k1 k2),bO,zw,r1,cn];rw[show cI (aP (di (yk n t)))=some ((di (yk n t)).map aL)from vj (by rw[Qo];unfold aq;lia)];exact e
  obtain⟨p3,p4,c0,c1,c2,c3,c4,hc,e'⟩:=oF hn hcol d0 ts (L++(di (yk n t)).map λr=>aP (t++[r])) (some (aP t)) o4' l0 .no a2 a3 a4 ha (λq hq=>hk q (by simp[hq])) (λq hq=>hr q (by simp[hq])) (by simp;lia);refine⟨p3,p4,c0,c1,c2,c3,c4,hc,?_⟩;rw[QM];unfold zr;simp only[Q6,Q5,hb];rw[e',show vm n (t::ts)=(di (yk n t)).map (λr=>t++[r])++vm n ts from rfl,WF,WM,Qj];rfl
def Ax (hn:n<=100)(hcol:∀t:List (List Int),t.length<=100->(∀r∈t,r.length=n)->∀c,c<n->cl 3 [aP t,.int (c:Int)]=.ok (aL (qw t c)))(hk:nN n 100 ts)(hz:ts.length<=1000)(hr:∀t∈ts,cl 5 [aL (yk n t)]=.ok (aP (di (yk n t)))/\(di (yk n t)).length<=50)(hlev:lev k=.no):yW lev cl k ue [yc ts,.int n]=.ok (yc (vm n ts)):=by
 obtain⟨p3,p4,c0,c1,c2,c3,c4,hc,e⟩:=oF (lev:=lev) (cl:=cl) hn hcol (some (yc ts)) ts [] none none .no .full .full .full .full (.inr rfl) hk hr (by simp;unfold aq;lia);have h1:aR lev cl (.asg 2 (.lst .unit)) [some (yc ts),some (.int n),none,none,none] [.no,.full,.full,.full,.full]=.next [some (yc ts),some (.int n),some (.lst []),none,none] [.no,.full,.full,.full,.full]:=by
  rw[yL];simp only[vf,zK,bO,zw];rw[yK (by simp)];simp only[cn];rw[wu (by simp)];rfl
 have h2:aR lev cl (.forv 3 (.var 0) gk) [some (yc ts),some (.int n),some (.lst []),none,none] [.no,.full,.full,.full,.full]=.next [some (yc ts),some (.int n),some (.lst ((vm n ts).map aP)),p3,p4] [c0,c1,c2,c3,c4]:=by
  rw[wv];simp only[zq,cn];rw[show cI (yc ts)=some (ts.map aP)from vj (by rw[Qo];unfold aq;lia)];exact e
 unfold yW;rw[Mk (by rfl),hlev];show xF .no (aR lev cl (.seq (.asg 2 (.lst .unit)) (.seq (.forv 3 (.var 0) gk) (.ret (.var 2)))) [some (yc ts),some (.int n),none,none,none] [br (yc ts),br (.int n),.full,.full,.full])=_;rw[show br (yc ts)=.no from by simp[br,yc],show br (.int (n:Int))=.full from by simp[br],xx,h1,zt,jA,h2,zt,kf];simp only[zu,zq,cn];simp[xF,qo,yc]
noncomputable def cG(n:Nat):Nat->List (List (List Int))->List (List (List Int))
 |0,ts=>ts
 |k+1,ts=>cG n k (vm n ts)
noncomputable def rl:Fn:=⟨1,3,(.seq (.expr (.call 2 (.pair (.var 0) (.pair (.lit (.int 5)) .unit)))) (.seq (.asg 1 (.lst (.pair (.lst .unit) .unit))) (.seq (.forv 2 (.rng (.lit (.int 0)) (.var 0) (.lit (.int 1))) (.asg 1 (.call 6 (.pair (.var 1) (.pair (.var 0) .unit))))) (.ret (.blt .sorted (.pair (.var 1) .unit))))))⟩
theorem oE:∀(xs:List Dat) (ts:List (List (List Int))) (o2:Option Dat) (lv:List Lv),(∀j,j<xs.length->cl 6 [yc (cG n j ts),.int n]=.ok (yc (cG n (j+1) ts))) ->
  ∃o2' lv',zr (λx de lv=>aR lev cl (.asg 1 (.call 6 (.pair (.var 1) (.pair (.var 0) .unit)))) (de.set 2 (some x)) (lv.set 2 (br x))) xs [some (.int n),some (yc ts),o2] lv=.next [some (.int n),some (yc (cG n xs.length ts)),o2'] lv'
 |[],ts,o2,lv,_=>⟨o2,lv,rfl⟩
 |x::xs,ts,o2,lv,h=>by
  have h0:cl 6 [yc ts,.int n]=.ok (yc (vm n ts)):=h 0 (by simp);obtain⟨lv1,e1⟩:∃lv',xi lev 1 (.call 6 (.pair (.var 1) (.pair (.var 0) .unit))) (yc (vm n ts)) [some (.int n),some (yc ts),some x] (lv.set 2 (br x))=.next [some (.int n),some (yc (vm n ts)),some x] lv':=by
   unfold xi;split
   .exact ⟨_,rfl⟩
   .exact ⟨_,rfl⟩
  obtain⟨o2',lv2,e2⟩:=oE xs (vm n ts) (some x) lv1 (λj hj=>h (j+1) (by rw[QH];lia));refine⟨o2',lv2,?_⟩;unfold zr;simp only[Q6,Q5,yL,xZ,zG,zK,zu,zq,bO,zw,h0,cn,e1];exact e2
def F1 {n:Nat}(hn:n<=100)(h2:cl 2 [.int n,.int 5]=.ok .non)(h6:∀j,j<n->cl 6 [yc (cG n j [[]]),.int n]=.ok (yc (cG n (j+1) [[]])))(hs:yu .sorted [yc (cG n n [[]])]=.ok (.lst ss))(hlev:lev k=.no):yW lev cl k rl [.int n]=.ok (.lst ss):=by
 obtain⟨lv1,e1⟩:∃lv',xi lev 1 (.lst (.pair (.lst .unit) .unit)) (yc [[]]) [some (.int n),none,none] [br (.int n),.full,.full]=.next [some (.int n),some (yc [[]]),none] lv':=by
  unfold xi;split
  .exact ⟨_,rfl⟩
  .exact ⟨_,rfl⟩
 obtain⟨o2,lv2,e2⟩:=oE (lev:=lev) (cl:=cl) (n:=n) (yh 0 1 n) [[]] none lv1 (λj hj=>h6 j (by simpa using hj));rw[wt]at e2;unfold yW;rw[Mk (by rfl),hlev];show xF .no (aR lev cl (.seq (.expr (.call 2 (.pair (.var 0) (.pair (.lit (.int 5)) .unit)))) (.seq (.asg 1 (.lst (.pair (.lst .unit) .unit))) (.seq (.forv 2 (.rng (.lit (.int 0)) (.var 0) (.lit (.int 1))) (.asg 1 (.call 6 (.pair (.var 1) (.pair (.var 0) .unit))))) (.ret (.blt .sorted (.pair (.var 1) .unit)))))) [some (.int n),none,none] [br (.int n),.full,.full])=_;have s0:aR lev cl (.expr (.call 2 (.pair (.var 0) (.pair (.lit (.int 5)) .unit)))) [some (.int n),none,none] [br (.int n),.full,.full]=.next [some (.int n),none,none] [br (.int n),.full,.full]:=by
  show(am cl (.call 2 (.pair (.var 0) (.pair (.lit (.int 5)) .unit))) [some (.int n),none,none]).bindS _=_;simp only[xZ,zG,zK,zI,zq,bO,zw,h2,cn]
 have s1:am cl (.lst (.pair (.lst .unit) .unit)) [some (.int n),none,none]=.ok (yc [[]]):=by
  simp only[vf,zG,zK,bO,zw];rw[yK (show([]:List Dat).length<=aq by simp)];simp only[bO,zw];exact yK (show([.lst []]:List Dat).length<=aq by unfold aq;simp)
 rw[xx,s0,zt,xx,yL,s1];simp only[cn,e1,zt];rw[jA,wv];simp only[vg,zI,zq,bO,fC (show n<=1000 by lia),cn,vh,vL,wL,if_true];rw[e2,zt,kf];simp only[wr,zG,zK,zu,zq,bO,zw,hs,cn];simp[xF,qo]
end
end Lib
namespace Lib
section
variable{lev:Nat->Lv}{cl:Nat->List Dat->Rd}
def aZ:Ex:=.compP .zip (.bin .add (.var 9) (.var 10)) (.var 5) (.var 7) (.lit (.bl true))
noncomputable def aC:Ex:=.and (.cmp .ge (.blt .minS (.pair (.var 8) .unit)) (.lit (.int 0))) (.cmp .le (.blt .maxS (.pair (.var 8) .unit)) (.lit (.int 1)))
noncomputable def aQ:Ex:=.bin .add (.dop .get (.var 4) (.var 8) (.lit (.int 0))) (.var 6)
noncomputable def aY:Sm:=.seq (.asg 8 (.blt .tuple (.pair aZ .unit))) (.ite aC (.dput 4 (.var 8) aQ) .skip)
abbrev DI:=List (List Int×Int)
noncomputable def dI(D:DI):Dat:=.dct (D.map (·.1)) (D.map λp=>.int p.2)
noncomputable def vM:DI->List Int->Int->DI
 |[],q,v=>[(q,v)]
 |p::D,q,v=>if p.1=q then(p.1,p.2+v)::D else p::vM D q v
noncomputable def jM:DI->List Int->Int
 |[],_=>0
 |p::D,q=>if p.1=q then p.2 else jM D q
theorem gl(q:List Int)(v:Int):∀D:DI,(vM D q v).map (·.1)=xp (D.map (·.1)) q
 |[]=>rfl
 |p::D=>by
  have ih:=gl q v D;show((if p.1=q then(p.1,p.2+v)::D else p::vM D q v:DI)).map (·.1)=(if q∈p.1::D.map (·.1)then p.1::D.map (·.1)else(p.1::D.map (·.1))++[q]);by_cases c:p.1=q
  .simp[c]
  .have c':¬q=p.1:=λe=>c e.symm;rw[Ml c,QM,ih];unfold xp;by_cases m:q∈D.map (·.1)
   .rw[Mk m,Mk (Qk _ m)]
   .rw[Ml m,Ml (λz=>(Qn.mp z).elim c' m)];rfl
theorem gm(q:List Int)(v:Int):∀D:DI,((vM D q v).map λp=>Dat.int p.2)=zL (D.map (·.1)) (D.map λp=>Dat.int p.2) q (.int (jM D q+v))
 |[]=>by simp[vM,zL,jM]
 |p::D=>by
  have ih:=gm q v D;simp only[QM];unfold vM zL jM;by_cases c:p.1=q
  .simp[c]
  .simp only[Ml c,QM,ih]
theorem rh(q:List Int):∀D:DI,(match cq (D.map (·.1)) (D.map λp=>Dat.int p.2) q with|some v=>Rd.ok v|none=>Rd.ok (.int 0))=.ok (.int (jM D q))
 |[]=>rfl
 |p::D=>by
  have ih:=rh q D;simp only[QM];unfold cq jM;by_cases c:p.1=q
  .simp[c]
  .simp only[Ml c,ih]
theorem tq(q:List Int)(v:Int):∀D:DI,(vM D q v).length<=D.length+1
 |[]=>Qh _
 |p::D=>by
  have:=tq q v D;unfold vM;split<;>simp<;>lia
def Cp(i:Int)(r:List Int):yu .minS [zE (i::r)]=.ok (.int (yY i r)):=by
 show(match (some ((i::r).map Dat.int)).bind zC with|some (i::r)=>Rd.ok (.int (yY i r))|_=>.no)=_;rw[Q9,xy]
def Cn(i:Int)(r:List Int):yu .maxS [zE (i::r)]=.ok (.int (xo i r)):=by
 show(match (some ((i::r).map Dat.int)).bind zC with|some (i::r)=>Rd.ok (.int (xo i r))|_=>.no)=_;rw[Q9,xy]
def Cm(a b:List Int)(ha:a.length<=aq)(hb:b.length<=aq):yw .zip (zE a) (aL b)=some ((a.zip b).map λp=>(Dat.int p.1,Dat.int p.2)):=by
 simp only[yw,eT,aL,zE,Qo];rw[List.zip_map,Mk ⟨ha,hb⟩];rfl
noncomputable def xQ(s:List Int)(v:Int)(l:List Int)(D:DI):DI:=if dz (QT (·+·) s l)then vM D (QT (·+·) s l) v else D
def Aw(d0 d1 d2 d3 o8:Option Dat)(D:DI)(s l:List Int)(v:Int)(l0 l1 l2 l3 l5 l6 l7 l8:Lv)(hs:s≠[])(hl:l≠[])(hs1:s.length<=100)(hl1:l.length<=100)(hD:D.length<aq):
  aR lev cl aY [d0,d1,d2,d3,some (dI D),some (zE s),some (.int v),some (aL l),o8] [l0,l1,l2,l3,.full,l5,l6,l7,l8] =
   .next [d0,d1,d2,d3,some (dI (xQ s v l D)),some (zE s),some (.int v),some (aL l),some (zE (QT (·+·) s l))] [l0,l1,l2,l3,.full,l5,l6,l7,.full]:=by
 have hev:am cl aZ [d0,d1,d2,d3,some (dI D),some (zE s),some (.int v),some (aL l),o8]=.ok (aL (QT (·+·) s l)):=by
  unfold aZ;rw[jy];simp only[zq,zu,bO];rw[Cm s l (by unfold aq;lia) (by unfold aq;lia)];simp only;rw[yM (λ(p:Int×Int)=>(Dat.int p.1,Dat.int p.2)) (λp=>.int (p.1+p.2)) _ [] (λp _=>by simp) (λp _=>by simp) (by rw[Vo];simp;unfold aq;lia)];simp[aL,List.zip,List.map_zipWith]
 have hev2:am cl (.blt .tuple (.pair aZ .unit)) [d0,d1,d2,d3,some (dI D),some (zE s),some (.int v),some (aL l),o8]=.ok (zE (QT (·+·) s l)):=by
  rw[wr,zG,hev];rfl
 have hlv:a9 lev (.blt .tuple (.pair aZ .unit)) (zE (QT (·+·) s l))=.full:=by
  generalize QT (·+·) s l=z;unfold zE;simp
 unfold aY;rw[pK,yL,hev2];simp only[cn];rw[wu hlv];simp only[zt,Q6,Q5];unfold xQ;obtain⟨i,r,hz⟩:∃i r,QT (·+·) s l=i::r:=by
  cases s with
  |nil=>exact Mm rfl hs
  |cons a s=>cases l with
   |nil=>exact Mm rfl hl
   |cons b l=>exact⟨_,_,rfl⟩
 rw[hz]at *
 have hc:am cl aC [d0,d1,d2,d3,some (dI D),some (zE s),some (.int v),some (aL l),some (zE (i::r))]=.ok (.bl (dz (i::r))):=by
  unfold aC;simp only[ph,pk,wr,zG,zK,zI,zu,zq,bO,zw,Cp,Cn,oM,oN];show _=Rd.ok (.bl (decide (0<=yY i r)&&decide (xo i r<=1)));cases decide (0<=yY i r)<;>rfl
 rw[pc,hc];simp only[cn];cases dz (i::r)with
 |false=>rfl
 |true=>
  have hk:xf (zE (i::r))=some (i::r):=xy (i::r);have hg:am cl (.dop .get (.var 4) (.var 8) (.lit (.int 0))) [d0,d1,d2,d3,some (dI D),some (zE s),some (.int v),some (aL l),some (zE (i::r))]=.ok (.int (jM D (i::r))):=by
   show(match xf (zE (i::r))with
    |some q=>match cq (D.map λ(p:List Int×Int)=>p.1) (D.map λ(p:List Int×Int)=>Dat.int p.2) q with
     |some v=>Rd.ok v
     |none=>Rd.ok (.int 0)
    |none=>.no)=_
   rw[hk];exact rh _ D
  have he:am cl aQ [d0,d1,d2,d3,some (dI D),some (zE s),some (.int v),some (aL l),some (zE (i::r))]=.ok (.int (jM D (i::r)+v)):=by
   unfold aQ;rw[lA,hg];rfl
  have hl:a9 lev aQ (.int (jM D (i::r)+v))=.full:=by unfold aQ;simp
  show(am cl aQ [d0,d1,d2,d3,some (dI D),some (zE s),some (.int v),some (aL l),some (zE (i::r))]).okS (λd=>(am cl (.var 8) [d0,d1,d2,d3,some (dI D),some (zE s),some (.int v),some (aL l),some (zE (i::r))]).okS λq=>match some (some (dI D)),xf q with
   |some (some (.dct ks ds)),some q=>if some Lv.full=some .full/\a9 lev aQ d=.full/\ks.length<aq then .next [d0,d1,d2,d3,some (.dct (xp ks q) (zL ks ds q d)),some (zE s),some (.int v),some (aL l),some (zE (i::r))] [l0,l1,l2,l3,.full,l5,l6,l7,.full]else .no
   |_,_=>.no)=_
  rw[he];simp only[iV,zu,zq,hk];show(if True/\a9 lev aQ (.int (jM D (i::r)+v))=.full/\(D.map λ(p:List Int×Int)=>p.1).length<aq then _ else _)=_;simp only[hl,Qo,hD,and_self,if_true];unfold dI;rw[gl,gm]
noncomputable def x6(s:List Int)(v:Int):List (List Int)->DI->DI
 |[],D=>D
 |l::cs,D=>x6 s v cs (xQ s v l D)
def gn(s:List Int)(v:Int)(l:List Int)(D:DI):(xQ s v l D).length<=D.length+1:=by
 unfold xQ;split
 .exact tq _ _ D
 .lia
theorem gp(s:List Int)(v:Int):∀(cs:List (List Int)) (D:DI),(x6 s v cs D).length<=D.length+cs.length
 |[],D=>Qh _
 |l::cs,D=>by
  have h1:=gn s v l D;have h2:=gp s v cs (xQ s v l D);show(x6 s v cs (xQ s v l D)).length<=_;rw[QH];lia
theorem pI(d0 d1 d2 d3:Option Dat)(s:List Int)(v:Int)(l0 l1 l2 l3 l5 l6:Lv)(hs:s≠[])(hs1:s.length<=100):∀(cs:List (List Int)) (D:DI) (o7 o8:Option Dat) (l7 l8:Lv),(∀l∈cs,l≠[]/\l.length<=100)->D.length+cs.length<aq ->
  ∃o7' o8' l7' l8',zr (λx de lv=>aR lev cl aY (de.set 7 (some x)) (lv.set 7 (br x))) (cs.map aL) [d0,d1,d2,d3,some (dI D),some (zE s),some (.int v),o7,o8] [l0,l1,l2,l3,.full,l5,l6,l7,l8] =
   .next [d0,d1,d2,d3,some (dI (x6 s v cs D)),some (zE s),some (.int v),o7',o8'] [l0,l1,l2,l3,.full,l5,l6,l7',l8']
 |[],D,o7,o8,l7,l8,_,_=>⟨o7,o8,l7,l8,rfl⟩
 |l::cs,D,o7,o8,l7,l8,hc,hD=>by
  rw[QH]at hD;obtain⟨hl,hl1⟩:=hc l (by simp);have e:=Aw (lev:=lev) (cl:=cl) d0 d1 d2 d3 o8 D s l v l0 l1 l2 l3 l5 l6 (br (aL l)) l8 hs hl hs1 hl1 (by lia);have hn:=gn s v l D;obtain⟨o7',o8',a7,a8,e'⟩:=pI d0 d1 d2 d3 s v l0 l1 l2 l3 l5 l6 hs hs1 cs (xQ s v l D) (some (aL l)) (some (zE (QT (·+·) s l))) (br (aL l)) .full (λq hq=>hc q (by simp[hq])) (by lia);refine⟨o7',o8',a7,a8,?_⟩;rw[QM];unfold zr;simp only[Q6,Q5,e];exact e'
noncomputable def vN(cs:List (List Int)):DI->DI->DI
 |[],E=>E
 |p::ps,E=>vN cs ps (x6 p.1 p.2 cs E)
def dJ(n:Nat)(D:DI):Prop:=∀p∈D,p.1.length=n
theorem rg (hq:q.length=n):∀{D:DI},dJ n D->dJ n (vM D q v)
 |[],_=>λp hp=>by rw[show vM [] q v=[(q,v)]from rfl,Qq]at hp;subst hp;exact hq
 |p::D,h=>λx hx=>by
  unfold vM at hx;split at hx
  .rcases Qn.mp hx with rfl|hx
   .exact h p (by simp)
   .exact h x (by simp[hx])
  .rcases Qn.mp hx with rfl|hx
   .exact h _ (by simp)
   .exact rg hq (λy hy=>h y (by simp[hy])) x hx
theorem tm (hs:s.length=n):∀{cs:List (List Int)}{D:DI},(∀l∈cs,l.length=n)->dJ n D->dJ n (x6 s v cs D)
 |[],D,_,h=>h
 |l::cs,D,hc,h=>by
  have h1:dJ n (xQ s v l D):=by
   unfold xQ;split
   .exact rg (by simp[hs,hc l (by simp)]) h
   .exact h
  exact tm (D:=xQ s v l D) hs (λq hq=>hc q (by simp[hq])) h1
theorem tj (hc:∀l∈cs,l.length=n):∀{ps E:DI},dJ n ps->dJ n E->dJ n (vN cs ps E)
 |[],E,_,h=>h
 |p::ps,E,hp,h=>tj (E:=x6 p.1 p.2 cs E) hc (λq hq=>hp q (by simp[hq])) (tm (hp p (by simp)) hc h)
theorem pH (hn:0<n)(hn1:n<=100)(d0 d1 d3:Option Dat)(hc:qu n cs)(l0 l1 l3:Lv):∀(ps E:DI) (o5 o6 o7 o8:Option Dat) (l2 l5 l6 l7 l8:Lv),dJ n ps->E.length+ps.length*cs.length<aq ->
  ∃o5' o6' o7' o8' l2' l5' l6' l7' l8',zr (λ(p:Dat×Dat) de lv=>aR lev cl (.forv 7 (.var 2) aY) ((de.set 5 (some p.1)).set 6 (some p.2)) ((lv.set 5 (br p.1)).set 6 (br p.2))) (ps.map λp=>(zE p.1,Dat.int p.2)) [d0,d1,some (aP cs),d3,some (dI E),o5,o6,o7,o8] [l0,l1,l2,l3,.full,l5,l6,l7,l8] =
   .next [d0,d1,some (aP cs),d3,some (dI (vN cs ps E)),o5',o6',o7',o8'] [l0,l1,l2',l3,.full,l5',l6',l7',l8']
 |[],E,o5,o6,o7,o8,l2,l5,l6,l7,l8,_,_=>⟨o5,o6,o7,o8,l2,l5,l6,l7,l8,rfl⟩
 |p::ps,E,o5,o6,o7,o8,l2,l5,l6,l7,l8,hp,hL=>by
  rw[QH,VH]at hL;have p1:=hp p (by simp);obtain⟨o7',o8',l7',l8',e⟩:=pI (lev:=lev) (cl:=cl) d0 d1 (some (aP cs)) d3 p.1 p.2 l0 l1 .no l3 (br (zE p.1)) (br (.int p.2)) (wM hn p1) (by lia) cs E o7 o8 l7 l8 (λl hl=>⟨wM hn (hc.2 l hl),by rw[hc.2 l hl];exact hn1⟩) (by lia);have hq:=gp p.1 p.2 cs E;obtain⟨a5,a6,a7,a8,b2,b5,b6,b7,b8,e'⟩:=pH hn hn1 d0 d1 d3 hc l0 l1 l3 ps (x6 p.1 p.2 cs E) (some (zE p.1)) (some (.int p.2)) o7' o8' .no (br (zE p.1)) (br (.int p.2)) l7' l8' (λq hq=>hp q (by simp[hq])) (by lia);refine⟨a5,a6,a7,a8,b2,b5,b6,b7,b8,?_⟩;rw[QM];unfold zr;have hb:aR lev cl (.forv 7 (.var 2) aY) [d0,d1,some (aP cs),d3,some (dI E),some (zE p.1),some (.int p.2),o7,o8] [l0,l1,l2,l3,.full,br (zE p.1),br (.int p.2),l7,l8]=.next [d0,d1,some (aP cs),d3,some (dI (x6 p.1 p.2 cs E)),some (zE p.1),some (.int p.2),o7',o8'] [l0,l1,.no,l3,.full,br (zE p.1),br (.int p.2),l7',l8']:=by
   rw[wv];simp only[zu,zq,cn];rw[show cI (aP cs)=some (cs.map aL)from vj (by rw[Qo];unfold aq;have:=hc.1;lia)];exact e
  simp only[Q6,Q5,hb];exact e'
end
end Lib
namespace Lib
section
variable{lev:Nat->Lv}{cl:Nat->List Dat->Rd}{k:Nat}
noncomputable def kw(cs:List (List Int)):Nat->DI->DI
 |0,D=>D
 |k+1,D=>kw cs k (vN cs D [])
noncomputable def aO:Sm:=.seq (.asg 4 .dict0) (.seq (.forI 5 6 1 (.forv 7 (.var 2) aY)) (.asg 1 (.var 4)))
def A9(D:DI):((D.map (·.1)).map zE).zip (D.map λp=>Dat.int p.2)=D.map λp=>(zE p.1,Dat.int p.2):=by
 induction D with
 |nil=>rfl
 |cons p D ih=>simp only[QM,Wu,ih]
def A8 (hn:0<n)(hn1:n<=100)(d0 d3:Option Dat)(hc:qu n cs)(hp:dJ n ps)(hz:ps.length<=1000)(o4 o5 o6 o7 o8:Option Dat)(l0 l1 l2 l3 l4 l5 l6 l7 l8:Lv):
  ∃o4' o5' o6' o7' o8' l0' l1' l2' l3' l4' l5' l6' l7' l8',aR lev cl aO [d0,some (dI ps),some (aP cs),d3,o4,o5,o6,o7,o8] [l0,l1,l2,l3,l4,l5,l6,l7,l8] =
   .next [d0,some (dI (vN cs ps [])),some (aP cs),d3,o4',o5',o6',o7',o8'] [l0',l1',l2',l3',l4',l5',l6',l7',l8']:=by
 have hc1:=hc.1;have hm:ps.length*cs.length<=1000*90:=Nat.mul_le_mul hz hc1;obtain⟨a5,a6,a7,a8,b2,b5,b6,b7,b8,e⟩:=pH (lev:=lev) (cl:=cl) hn hn1 d0 (some (dI ps)) d3 hc l0 .no l3 ps [] o5 o6 o7 o8 l2 l5 l6 l7 l8 hp (by simp;unfold aq;lia);have h1:aR lev cl (.asg 4 .dict0) [d0,some (dI ps),some (aP cs),d3,o4,o5,o6,o7,o8] [l0,l1,l2,l3,l4,l5,l6,l7,l8]=.next [d0,some (dI ps),some (aP cs),d3,some (dI []),o5,o6,o7,o8] [l0,l1,l2,l3,.full,l5,l6,l7,l8]:=by
  show(Rd.ok (.dct [] [])).bindS (λd=>xi lev 4 .dict0 d _ _)=_;rw[cn,wu (by simp[a9])];rfl
 have h2:aR lev cl (.forI 5 6 1 (.forv 7 (.var 2) aY)) [d0,some (dI ps),some (aP cs),d3,some (dI []),o5,o6,o7,o8] [l0,l1,l2,l3,.full,l5,l6,l7,l8]=.next [d0,some (dI ps),some (aP cs),d3,some (dI (vN cs ps [])),a5,a6,a7,a8] [l0,.no,b2,l3,.full,b5,b6,b7,b8]:=by
  show(if(ps.map λ(p:List Int×Int)=>p.1).length<=aq/\(ps.map λ(p:List Int×Int)=>p.1).length=(ps.map λ(p:List Int×Int)=>Dat.int p.2).length then zr _ (((ps.map λ(p:List Int×Int)=>p.1).map zE).zip (ps.map λ(p:List Int×Int)=>Dat.int p.2)) _ _ else .no)=_;rw[Mk ⟨by rw[Qo];unfold aq;lia,by simp⟩,A9];exact e
 unfold aO;rw[xx,h1,zt,zY lev cl _ _ rfl,h2,zt,yL];simp only[zu,zq,cn];unfold xi;split
 .exact ⟨_,_,_,_,_,_,_,_,_,_,_,_,_,_,rfl⟩
 .exact ⟨_,_,_,_,_,_,_,_,_,_,_,_,_,_,rfl⟩
theorem pG (hn:0<n)(hn1:n<=90)(d0:Option Dat)(hc:qu n cs):∀(xs:List Dat) (ps:DI) (o3 o4 o5 o6 o7 o8:Option Dat) (l0 l1 l2 l3 l4 l5 l6 l7 l8:Lv),dJ n ps->(∀j,j<=xs.length->(kw cs j ps).length<=1000) ->
  ∃o3' o4' o5' o6' o7' o8' lv',zr (λx de lv=>aR lev cl aO (de.set 3 (some x)) (lv.set 3 (br x))) xs [d0,some (dI ps),some (aP cs),o3,o4,o5,o6,o7,o8] [l0,l1,l2,l3,l4,l5,l6,l7,l8] =
   .next [d0,some (dI (kw cs xs.length ps)),some (aP cs),o3',o4',o5',o6',o7',o8'] lv'
 |[],ps,o3,o4,o5,o6,o7,o8,l0,l1,l2,l3,l4,l5,l6,l7,l8,_,_=>⟨o3,o4,o5,o6,o7,o8,_,rfl⟩
 |x::xs,ps,o3,o4,o5,o6,o7,o8,l0,l1,l2,l3,l4,l5,l6,l7,l8,hp,hz=>by
  obtain⟨a4,a5,a6,a7,a8,b0,b1,b2,b3,b4,b5,b6,b7,b8,e⟩:=A8 (lev:=lev) (cl:=cl) hn (by lia) d0 (some x) hc hp (hz 0 (by simp)) o4 o5 o6 o7 o8 l0 l1 l2 (br x) l4 l5 l6 l7 l8;obtain⟨c3,c4,c5,c6,c7,c8,lv',e'⟩:=pG hn hn1 d0 hc xs (vN cs ps []) (some x) a4 a5 a6 a7 a8 b0 b1 b2 b3 b4 b5 b6 b7 b8 (tj hc.2 hp λ_ h=>by cases h) (λj hj=>hz (j+1) (by rw[QH];lia));refine⟨c3,c4,c5,c6,c7,c8,lv',?_⟩;unfold zr;simp only[Q6,Q5,e];exact e'
noncomputable def aN:Ex:=.blt .tuple (.pair (.comp (.lit (.int 0)) (.rng (.lit (.int 0)) (.var 0) (.lit (.int 1))) (.lit (.bl true))) .unit)
noncomputable def pF(ka:Nat):Fn:=⟨1,9,(.seq (.asg 1 (.dop .one .unit aN (.lit (.int 1)))) (.seq (.asg 2 (.call ka (.pair (.var 0) .unit))) (.seq (.forv 3 (.rng (.lit (.int 0)) (.var 0) (.lit (.int 1))) aO) (.ret (.dop .sum (.var 1) .unit .unit)))))⟩
noncomputable def eK:DI->Int
 |[]=>0
 |p::D=>p.2+eK D
theorem p9:∀D:DI,vI (D.map λp=>Dat.int p.2)=some (eK D)
 |[]=>rfl
 |p::D=>by
  have ih:=p9 D;rw[QM];unfold vI;rw[ih];rfl
def FY (hn:0<n)(hn1:n<=90)(hc:qu n cs)(h:cl ka [.int n]=.ok (aP cs))(hz:∀j,j<=n->(kw cs j [(Qg n 0,1)]).length<=1000)(hlev:lev k=.no):
  yW lev cl k (pF ka) [.int n]=.ok (.int (eK (kw cs n [(Qg n 0,1)]))):=by
 have hr:am cl (.rng (.lit (.int 0)) (.var 0) (.lit (.int 1))) [some (.int n),none,none,none,none,none,none,none,none]=.ok (.tup (yh 0 1 n)):=by
  simp only[vg,zI,zq,bO,fC (show n<=1000 by lia)]
 have hz0:am cl (.comp (.lit (.int 0)) (.rng (.lit (.int 0)) (.var 0) (.lit (.int 1))) (.lit (.bl true))) [some (.int n),none,none,none,none,none,none,none,none]=.ok (aL (Qg n 0)):=by
  rw[vK,hr];simp only[bO,vh];rw[jz (g:=λ_=>.int 0) (yh 0 1 n) [] (λx _=>by rfl) (λx _=>by rfl) (by simp;unfold aq;lia)];simp[aL,List.map_const']
 have hN:am cl aN [some (.int n),none,none,none,none,none,none,none,none]=.ok (zE (Qg n 0)):=by
  unfold aN;rw[wr,zG,hz0];rfl
 have h1:am cl (.dop .one .unit aN (.lit (.int 1))) [some (.int n),none,none,none,none,none,none,none,none]=.ok (dI [(Qg n 0,1)]):=by
  show(am cl aN [some (.int n),none,none,none,none,none,none,none,none]).bind (λy=>(am cl (.lit (.int 1)) [some (.int n),none,none,none,none,none,none,none,none]).bind λz=>qc .one (.tup []) y z)=_;rw[hN,bO,zI,bO];show(match xf (zE (Qg n 0))with|some q=>Rd.ok (.dct [q] [.int 1])|none=>.no)=_;rw[show xf (zE (Qg n 0))=some (Qg n 0)from xy _];rfl
 unfold yW;rw[Mk (by rfl),hlev];show xF .no (aR lev cl (.seq (.asg 1 (.dop .one .unit aN (.lit (.int 1)))) (.seq (.asg 2 (.call ka (.pair (.var 0) .unit))) (.seq (.forv 3 (.rng (.lit (.int 0)) (.var 0) (.lit (.int 1))) aO) (.ret (.dop .sum (.var 1) .unit .unit))))) [some (.int n),none,none,none,none,none,none,none,none] [br (.int n),.full,.full,.full,.full,.full,.full,.full,.full])=_;rw[xx,yL,h1];simp only[cn];obtain⟨l0,l1,l2,l3,l4,l5,l6,l7,l8,e1⟩:∃l0 l1 l2 l3 l4 l5 l6 l7 l8,xi lev 1 (.dop .one .unit aN (.lit (.int 1))) (dI [(Qg n 0,1)]) [some (.int n),none,none,none,none,none,none,none,none] [br (.int n),.full,.full,.full,.full,.full,.full,.full,.full]=.next [some (.int n),some (dI [(Qg n 0,1)]),none,none,none,none,none,none,none] [l0,l1,l2,l3,l4,l5,l6,l7,l8]:=by
  unfold xi;split
  .exact ⟨_,_,_,_,_,_,_,_,_,rfl⟩
  .exact ⟨_,_,_,_,_,_,_,_,_,rfl⟩
 rw[e1,zt,xx,yL];simp only[xZ,zG,zK,zq,bO,zw,h,cn];obtain⟨k0,k1,k2,k3,k4,k5,k6,k7,k8,e2⟩:∃k0 k1 k2 k3 k4 k5 k6 k7 k8,xi lev 2 (.call ka (.pair (.var 0) .unit)) (aP cs) [some (.int n),some (dI [(Qg n 0,1)]),none,none,none,none,none,none,none] [l0,l1,l2,l3,l4,l5,l6,l7,l8]=.next [some (.int n),some (dI [(Qg n 0,1)]),some (aP cs),none,none,none,none,none,none] [k0,k1,k2,k3,k4,k5,k6,k7,k8]:=by
  unfold xi;split
  .exact ⟨_,_,_,_,_,_,_,_,_,rfl⟩
  .exact ⟨_,_,_,_,_,_,_,_,_,rfl⟩
 rw[e2,zt,jA,wv];have hr2:am cl (.rng (.lit (.int 0)) (.var 0) (.lit (.int 1))) [some (.int n),some (dI [(Qg n 0,1)]),some (aP cs),none,none,none,none,none,none]=.ok (.tup (yh 0 1 n)):=by
  simp only[vg,zI,zq,bO,fC (show n<=1000 by lia)]
 rw[hr2];simp only[cn,vh,vL,wL,if_true];obtain⟨c3,c4,c5,c6,c7,c8,lv',e3⟩:=pG (lev:=lev) (cl:=cl) hn hn1 (some (.int n)) hc (yh 0 1 n) [(Qg n 0,1)] none none none none none none k0 k1 k2 k3 k4 k5 k6 k7 k8 (λp hp=>by simp at hp;subst hp;simp) (λj hj=>hz j (by simpa using hj));rw[e3,zt,wt];generalize kw cs n [(Qg n 0,1)]=W at *
 have hv:am cl (.dop .sum (.var 1) .unit .unit) [some (.int n),some (dI W),some (aP cs),c3,c4,c5,c6,c7,c8]=.ok (.int (eK W)):=by
  show(match vI (W.map λ(p:List Int×Int)=>Dat.int p.2)with|some i=>Rd.ok (.int i)|none=>.no)=_;rw[p9]
 rw[kf,hv];simp[xF,qo]
end
end Lib
namespace Lib
section
variable{lev:Nat->Lv}{cl:Nat->List Dat->Rd}{k:Nat}
noncomputable def iG:Sm:=.expr (.call 2 (.pair (.var 0) (.pair (.lit (.int 7)) .unit)))
noncomputable def iF:Sm:=.dput 1 (.tup (.pair (.var 2) .unit)) (.comp (.ife (.cmp .eq (.var 4) (.var 2)) (.lit (.int 1)) (.lit (.int 0))) (.rng (.lit (.int 0)) (.var 0) (.lit (.int 1))) (.lit (.bl true)))
noncomputable def fY:Sm:=.seq iG (.seq (.asg 1 .dict0) (.forv 2 (.rng (.lit (.int 0)) (.var 0) (.lit (.int 1))) iF))
def eS:Sm:=.asg 1 (.call 11 (.pair (.var 1) (.pair (.var 0) .unit)))
def fX:Ex:=.dget (.var 1) (.dop .trg (.var 0) .unit .unit)
noncomputable def oD:Fn:=⟨1,4,(.seq iG (.seq (.asg 1 .dict0) (.seq (.forv 2 (.rng (.lit (.int 0)) (.var 0) (.lit (.int 1))) iF) (.seq (.forv 3 (.rng (.lit (.int 1)) (.var 0) (.lit (.int 1))) eS) (.ret fX)))))⟩
def FX(r:bX)(f g:aU->List Lv->bX):(r.then f).then g=r.then λd l=>(f d l).then g:=by cases r<;>rfl
theorem pE{n:Nat}{W:Nat->Dat}(o2:Option Dat):∀(xs:List Dat) (j:Nat) (o3:Option Dat) (l0 l1 l2 l3:Lv),(∀i,j<=i->i<j+xs.length->cl 11 [W i,.int n]=.ok (W (i+1))) ->
  ∃o3' lv',zr (λx de lv=>aR lev cl eS (de.set 3 (some x)) (lv.set 3 (br x))) xs [some (.int n),some (W j),o2,o3] [l0,l1,l2,l3]=.next [some (.int n),some (W (j+xs.length)),o2,o3'] lv'
 |[],j,o3,l0,l1,l2,l3,_=>⟨o3,_,rfl⟩
 |x::xs,j,o3,l0,l1,l2,l3,h=>by
  have h0:=h j (Qh _) (by rw[QH];lia);obtain⟨k0,k1,k2,k3,e⟩:∃k0 k1 k2 k3,aR lev cl eS [some (.int n),some (W j),o2,some x] [l0,l1,l2,br x]=.next [some (.int n),some (W (j+1)),o2,some x] [k0,k1,k2,k3]:=by
   unfold eS;rw[yL];simp only[xZ,zG,zK,zu,zq,bO,zw,h0,cn];unfold xi;split
   .exact ⟨_,_,_,_,rfl⟩
   .exact ⟨_,_,_,_,rfl⟩
  obtain⟨o3',lv',e'⟩:=pE o2 xs (j+1) (some x) k0 k1 k2 k3 λi h1 h2=>h i (by lia) (by rw[QH];lia);refine⟨o3',lv',?_⟩;unfold zr;simp only[Q6,Q5,e];rw[e',QH,show j+1+xs.length=j+(xs.length+1) by lia]
def Em {n:Nat}(hn:0<n)(hn1:n<=7){W:Nat->Dat}(h0:aR lev cl fY [some (.int n),none,none,none] [br (.int n),.full,.full,.full]=.next [some (.int n),some (W 1),o2,none] [l0,l1,l2,l3])(h1:∀i,1<=i->i<n->cl 11 [W i,.int n]=.ok (W (i+1)))(h2:vJ (W n) (.tup (yh 0 1 n))=.ok r)(hlev:lev k=.no):yW lev cl k oD [.int n]=.ok r:=by
 unfold yW;rw[Mk (by rfl),hlev];show xF .no (aR lev cl (.seq iG (.seq (.asg 1 .dict0) (.seq (.forv 2 (.rng (.lit (.int 0)) (.var 0) (.lit (.int 1))) iF) (.seq (.forv 3 (.rng (.lit (.int 1)) (.var 0) (.lit (.int 1))) eS) (.ret fX))))) [some (.int n),none,none,none] [br (.int n),.full,.full,.full])=_;have key:aR lev cl (.seq iG (.seq (.asg 1 .dict0) (.seq (.forv 2 (.rng (.lit (.int 0)) (.var 0) (.lit (.int 1))) iF) (.seq (.forv 3 (.rng (.lit (.int 1)) (.var 0) (.lit (.int 1))) eS) (.ret fX))))) [some (.int n),none,none,none] [br (.int n),.full,.full,.full]=(aR lev cl fY [some (.int n),none,none,none] [br (.int n),.full,.full,.full]).then (aR lev cl (.seq (.forv 3 (.rng (.lit (.int 1)) (.var 0) (.lit (.int 1))) eS) (.ret fX))):=by
  unfold fY;rw[xx,xx,FX];congr 1
 rw[key,h0,zt,jA,wv];have hr:am cl (.rng (.lit (.int 1)) (.var 0) (.lit (.int 1))) [some (.int n),some (W 1),o2,none]=.ok (.tup (yh 1 1 (n-1))):=by
  simp only[vg,zI,zq,bO];rw[pd (by unfold aq;lia)];congr 3;unfold fy;rw[Mk rfl];lia
 rw[hr];simp only[cn,vh,vL,wL,if_true];obtain⟨o3',lv',e⟩:=pE (lev:=lev) (cl:=cl) (n:=n) (W:=W) o2 (yh 1 1 (n-1)) 1 none l0 l1 l2 l3 λi i1 i2=>h1 i i1 (by rw[wt]at i2;lia);rw[e,zt,wt,show 1+(n-1)=n by lia,kf];have hv:am cl fX [some (.int n),some (W n),o2,o3']=.ok r:=by
  have ht:qc .trg (.int n) (.tup []) (.tup [])=.ok (.tup (yh 0 1 n)):=by
   show(if -(aq:Int)<=(n:Int)/\(n:Int)<=aq then Rd.ok (.tup (yh 0 1 ((n:Int).toNat)))else .no)=_;rw[Mk (by unfold aq;lia),Wl]
  show(qc .trg (.int n) (.tup []) (.tup [])).bind (λy=>vJ (W n) y)=_;rw[ht];exact h2
 rw[hv];simp[xF,qo]
end
end Lib
end Vl
end Mini
namespace Mini
open PySem
end Mini
namespace R68
open PySem L2 Mini
noncomputable def f0:Fn:=⟨1,1,(.ret (.and (.isi .int (.var 0)) (.not (.isi .bool (.var 0)))))⟩
noncomputable abbrev qdd(a:Str)(i:Nat)(N:List Str)(k:Nat)(f:Fn):bK:=⟨a,top i,N,N.take k,f,a⟩
noncomputable abbrev d0:=qdd "is_whole" 4 ["thing"] 1 f0
noncomputable def f1:Fn:=⟨2,2,(.ret (.and (.call 0 (.pair (.var 0) .unit)) (.chain .le .le (.lit (.int 1)) (.var 0) (.var 1))))⟩
abbrev d1:=qdd "is_size_to" 5 ["thing","most"] 2 f1
noncomputable def f2:Fn:=⟨2,2,(.ite (.not (.call 1 (.pair (.var 0) (.pair (.var 1) .unit)))) .never .skip)⟩
noncomputable abbrev d2:=qdd "need_size_to" 6 ["n","most"] 2 f2
def f3:Fn:=Mini.Vl.Lib.iW
abbrev d3:=qdd "column_of" 8 ["state","c"] 2 f3
noncomputable def f4:Fn:=⟨2,5,(.seq (.asg 2 (.lst .unit)) (.seq (.forv 3 (.var 0) (.forv 4 (.tup (.pair (.neg (.lit (.int 1))) (.pair (.lit (.int 0)) (.pair (.lit (.int 1)) .unit)))) (.ite (.and (.cmp .isin (.bin .add (.blt .sum (.pair (.var 3) .unit)) (.var 4)) (.tup (.pair (.lit (.int 0)) (.pair (.lit (.int 1)) .unit)))) (.cmp .isin (.bin .add (.var 1) (.var 4)) (.tup (.pair (.lit (.int 0)) (.pair (.lit (.int 1)) .unit))))) (.expr (.meth .append (.var 2) (.pair (.bin .add (.var 3) (.lst (.pair (.var 4) .unit))) .unit))) .skip))) (.ret (.var 2))))⟩
noncomputable abbrev d4:=qdd "longer_rows" 11 ["rows","total","told","row","sign"] 2 f4
noncomputable def f5:Fn:=⟨1,3,(.seq (.asg 1 (.lst (.pair (.lst .unit) .unit))) (.seq (.forv 2 (.var 0) (.asg 1 (.call 4 (.pair (.var 1) (.pair (.var 2) .unit))))) (.ret (.comp (.var 3) (.var 1) (.cmp .eq (.blt .sum (.pair (.var 3) .unit)) (.lit (.int 1)))))))⟩
noncomputable abbrev d5:=qdd "rows_below" 12 ["sums","rows","total"] 1 f5
noncomputable def f6:Fn:=⟨2,5,(.seq (.asg 2 (.lst .unit)) (.seq (.forv 3 (.var 0) (.forv 4 (.call 5 (.pair (.comp (.blt .sum (.pair (.call 3 (.pair (.var 3) (.pair (.var 5) .unit))) .unit)) (.rng (.lit (.int 0)) (.var 1) (.lit (.int 1))) (.lit (.bl true))) .unit)) (.expr (.meth .append (.var 2) (.pair (.bin .add (.comp (.blt .list (.pair (.var 5) .unit)) (.var 3) (.lit (.bl true))) (.lst (.pair (.var 4) .unit))) .unit))))) (.ret (.var 2))))⟩
noncomputable abbrev d6:=qdd "longer_tables" 13 ["tables","n","told","table","row"] 2 f6
def f7:Fn:=⟨1,3,(.seq (.expr (.call 2 (.pair (.var 0) (.pair (.lit (.int 5)) .unit)))) (.seq (.asg 1 (.lst (.pair (.lst .unit) .unit))) (.seq (.forv 2 (.rng (.lit (.int 0)) (.var 0) (.lit (.int 1))) (.asg 1 (.call 6 (.pair (.var 1) (.pair (.var 0) .unit))))) (.ret (.blt .sorted (.pair (.var 1) .unit))))))⟩
noncomputable abbrev d7:=qdd "states" 14 ["n","tables","r"] 1 f7
def f8:Fn:=⟨1,1,(.ret (.blt .len (.pair (.call 7 (.pair (.var 0) .unit)) .unit)))⟩
abbrev d8:=qdd "by_walking" 18 ["n"] 1 f8
noncomputable def f9:Fn:=⟨3,6,(.seq (.asg 3 (.lst .unit)) (.seq (.forv 4 (.var 0) (.forv 5 (.rng (.var 1) (.bin .add (.var 2) (.lit (.int 1))) (.lit (.int 1))) (.ite (.or (.cmp .eq (.var 4) (.tup .unit)) (.cmp .gt (.var 5) (.idx (.var 4) (.neg (.lit (.int 1)))))) (.expr (.meth .append (.var 3) (.pair (.bin .add (.var 4) (.tup (.pair (.var 5) .unit))) .unit))) .skip))) (.ret (.var 3))))⟩
noncomputable abbrev d9:=qdd "longer_lists" 19 ["lists","low","high","told","columns","column"] 3 f9
noncomputable def ux:Fn:=⟨2,6,(.seq (.asg 2 (.bin .add (.bin .add (.tup (.pair (.lit (.int 0)) .unit)) (.var 0)) (.tup (.pair (.bin .sub (.var 1) (.lit (.int 1))) .unit)))) (.seq (.asg 3 (.lst (.pair (.tup .unit) .unit))) (.seq (.forZ 4 5 (.var 2) (.slL (.var 2) (.lit (.int 1))) (.asg 3 (.call 9 (.pair (.var 3) (.pair (.var 4) (.pair (.var 5) .unit)))))) (.ret (.var 3)))))⟩
noncomputable abbrev uP:=qdd "lists_behind" 20 ["columns","n","bounds","told","low","high"] 2 ux
noncomputable def uw:Fn:=⟨2,6,(.seq (.asg 2 .dict0) (.seq (.forD 3 0 (.forv 4 (.call 10 (.pair (.var 3) (.pair (.var 1) .unit))) (.seq (.asg 5 (.dop .get (.var 2) (.var 4) (.bin .mul (.lst (.pair (.lit (.int 0)) .unit)) (.var 1)))) (.dput 2 (.var 4) (.compP .zip (.bin .add (.var 6) (.var 7)) (.var 5) (.dget (.var 0) (.var 3)) (.lit (.bl true))))))) (.ret (.var 2))))⟩
noncomputable abbrev uO:=qdd "stepped" 21 ["ways","n","further","columns","behind","so_far"] 2 uw
noncomputable def uv:Fn:=⟨1,4,(.seq (.expr (.call 2 (.pair (.var 0) (.pair (.lit (.int 7)) .unit)))) (.seq (.asg 1 .dict0) (.seq (.forv 2 (.rng (.lit (.int 0)) (.var 0) (.lit (.int 1))) (.dput 1 (.tup (.pair (.var 2) .unit)) (.comp (.ife (.cmp .eq (.var 4) (.var 2)) (.lit (.int 1)) (.lit (.int 0))) (.rng (.lit (.int 0)) (.var 0) (.lit (.int 1))) (.lit (.bl true))))) (.seq (.forv 3 (.rng (.lit (.int 1)) (.var 0) (.lit (.int 1))) (.asg 1 (.call 11 (.pair (.var 1) (.pair (.var 0) .unit))))) (.ret (.dget (.var 1) (.dop .trg (.var 0) .unit .unit)))))))⟩
noncomputable abbrev uN:=qdd "tops_by_steps" 22 ["n","ways","c","k"] 1 uv
noncomputable def iN:Fn:=⟨1,1,(.ret (.blt .sum (.pair (.call 12 (.pair (.var 0) .unit)) .unit)))⟩
abbrev uM:=qdd "by_steps" 23 ["n"] 1 iN
noncomputable def uu:Fn:=⟨2,4,(.seq (.asg 2 (.lit (.int 1))) (.seq (.forv 3 (.rng (.bin .add (.var 0) (.lit (.int 1))) (.bin .add (.var 1) (.lit (.int 1))) (.lit (.int 1))) (.aug 2 .mulB (.var 3))) (.ret (.var 2))))⟩
noncomputable abbrev uL:=qdd "product_above" 24 ["low","high","told","factor"] 2 uu
noncomputable def ut:Fn:=⟨2,5,(.seq (.asg 2 (.lit (.int 1))) (.seq (.asg 3 (.lit (.int 1))) (.seq (.forv 4 (.rng (.lit (.int 0)) (.var 1) (.lit (.int 1))) (.seq (.aug 2 .mulB (.call 14 (.pair (.bin .add (.var 0) (.var 4)) (.pair (.bin .add (.bin .mul (.lit (.int 3)) (.var 4)) (.lit (.int 1))) .unit)))) (.aug 3 .mulB (.call 14 (.pair (.bin .add (.bin .mul (.lit (.int 3)) (.var 4)) (.lit (.int 1))) (.pair (.bin .add (.var 0) (.var 4)) .unit)))))) (.ret (.tup (.pair (.var 2) (.pair (.var 3) .unit)))))))⟩
noncomputable abbrev uK:=qdd "fraction_to" 25 ["n","factors","over","under","j"] 2 ut
noncomputable def ur:Fn:=⟨1,2,(.seq (.expr (.call 2 (.pair (.var 0) (.pair (.lit (.int 30)) .unit)))) (.seq (.asg 1 (.call 15 (.pair (.var 0) (.pair (.var 0) .unit)))) (.ret (.bin .fdivB (.idx (.var 1) (.lit (.int 0))) (.idx (.var 1) (.lit (.int 1)))))))⟩
noncomputable abbrev uJ:=qdd "by_product" 26 ["n","fraction"] 1 ur
def uq:Fn:=Mini.Vl.Lib.fW
abbrev uI:=qdd "_law_cell_at" 28 ["_law_script","_law_k"] 2 uq
def um:Fn:=Mini.Vl.Lib.qt
abbrev uH:=qdd "_law_whole" 29 ["_law_thing"] 1 um
noncomputable def h9:Fn:=⟨1,1,(.seq (.ite (.cmp .eq (.bin .mod (.var 0) (.lit (.int 16))) (.lit (.int 5))) (.ret (.lit (.int 5))) .skip) (.ret (.bin .add (.lit (.int 1)) (.bin .mod (.bin .fdiv (.var 0) (.lit (.int 16))) (.lit (.int 4))))))⟩
abbrev uG:=qdd "_law_small_by" 30 ["_law_cell"] 1 h9
noncomputable def ul:Fn:=⟨1,6,(.seq (.asg 1 (.lst .unit)) (.seq (.forv 2 (.rng (.lit (.int 0)) (.call 21 (.pair (.var 0) .unit)) (.lit (.int 1))) (.seq (.asg 3 (.lst .unit)) (.seq (.asg 4 (.lit (.int 1))) (.seq (.forv 5 (.rng (.lit (.int 0)) (.var 0) (.lit (.int 1))) (.ite (.cmp .eq (.bin .band (.bin .shr (.var 2) (.var 5)) (.lit (.int 1))) (.lit (.int 1))) (.seq (.expr (.meth .append (.var 3) (.pair (.var 4) .unit))) (.asg 4 (.bin .sub (.lit (.int 0)) (.var 4)))) (.expr (.meth .append (.var 3) (.pair (.lit (.int 0)) .unit))))) (.ite (.cmp .eq (.blt .sum (.pair (.var 3) .unit)) (.lit (.int 1))) (.expr (.meth .append (.var 1) (.pair (.var 3) .unit))) .skip))))) (.ret (.var 1))))⟩
noncomputable abbrev uF:=qdd "_law_alternating" 31 ["_law_n","_law_found","_law_many","_law_line","_law_sign","_law_c"] 1 ul
noncomputable def uk:Fn:=⟨1,3,(.seq (.asg 1 (.lit (.int 1))) (.seq (.forv 2 (.rng (.lit (.int 0)) (.var 0) (.lit (.int 1))) (.asg 1 (.bin .mul (.var 1) (.lit (.int 2))))) (.ret (.var 1))))⟩
noncomputable abbrev uE:=qdd "_law_power" 32 ["_law_n","_law_made","_law_k"] 1 uk
noncomputable def uj:Fn:=⟨1,9,(.seq (.asg 1 (.lst (.pair (.tup (.pair (.lst .unit) (.pair (.comp (.lit (.int 0)) (.rng (.lit (.int 0)) (.var 0) (.lit (.int 1))) (.lit (.bl true))) .unit))) .unit))) (.seq (.asg 2 (.call 20 (.pair (.var 0) .unit))) (.seq (.forv 3 (.rng (.lit (.int 0)) (.var 0) (.lit (.int 1))) (.seq (.asg 4 (.lst .unit)) (.seq (.fort 5 6 (.var 1) (.forv 7 (.var 2) (.seq (.asg 8 (.compP .zip (.bin .add (.var 9) (.var 10)) (.var 6) (.var 7) (.lit (.bl true)))) (.ite (.and (.cmp .ge (.blt .minS (.pair (.var 8) .unit)) (.lit (.int 0))) (.cmp .le (.blt .maxS (.pair (.var 8) .unit)) (.lit (.int 1)))) (.expr (.meth .append (.var 4) (.pair (.tup (.pair (.bin .add (.var 5) (.lst (.pair (.var 7) .unit))) (.pair (.var 8) .unit))) .unit))) .skip)))) (.asg 1 (.var 4))))) (.ret (.blt .sorted (.pair (.compP .prs (.var 9) (.var 1) (.lit (.int 0)) (.lit (.bl true))) .unit))))))⟩
noncomputable abbrev uD:=qdd "_law_walked" 33 ["_law_n","_law_piles","_law_choices","_law_r","_law_longer","_law_lines","_law_sums","_law_line","_law_below"] 1 uj
noncomputable def uh:Fn:=⟨1,3,(.seq (.asg 1 (.lit (.int 1))) (.seq (.forv 2 (.rng (.lit (.int 2)) (.bin .add (.var 0) (.lit (.int 1))) (.lit (.int 1))) (.asg 1 (.bin .mulB (.var 1) (.var 2)))) (.ret (.var 1))))⟩
noncomputable abbrev uC:=qdd "_law_factorial" 34 ["_law_m","_law_made","_law_number"] 1 uh
noncomputable def ug:Fn:=⟨1,9,(.seq (.asg 1 (.dop .one .unit (.blt .tuple (.pair (.comp (.lit (.int 0)) (.rng (.lit (.int 0)) (.var 0) (.lit (.int 1))) (.lit (.bl true))) .unit)) (.lit (.int 1)))) (.seq (.asg 2 (.call 20 (.pair (.var 0) .unit))) (.seq (.forv 3 (.rng (.lit (.int 0)) (.var 0) (.lit (.int 1))) (.seq (.asg 4 .dict0) (.seq (.forI 5 6 1 (.forv 7 (.var 2) (.seq (.asg 8 (.blt .tuple (.pair (.compP .zip (.bin .add (.var 9) (.var 10)) (.var 5) (.var 7) (.lit (.bl true))) .unit))) (.ite (.and (.cmp .ge (.blt .minS (.pair (.var 8) .unit)) (.lit (.int 0))) (.cmp .le (.blt .maxS (.pair (.var 8) .unit)) (.lit (.int 1)))) (.dput 4 (.var 8) (.bin .add (.dop .get (.var 4) (.var 8) (.lit (.int 0))) (.var 6))) .skip)))) (.asg 1 (.var 4))))) (.ret (.dop .sum (.var 1) .unit .unit)))))⟩
noncomputable abbrev uB:=qdd "_law_from_above" 35 ["_law_n","_law_ways","_law_choices","_law_r","_law_found","_law_sums","_law_many","_law_line","_law_below"] 1 ug
noncomputable def uf:Fn:=⟨2,5,(.seq (.asg 2 (.lit (.int 1))) (.seq (.asg 3 (.lit (.int 1))) (.seq (.forv 4 (.rng (.lit (.int 0)) (.var 1) (.lit (.int 1))) (.seq (.asg 2 (.bin .mulB (.var 2) (.call 23 (.pair (.bin .add (.bin .mul (.lit (.int 3)) (.var 4)) (.lit (.int 1))) .unit)))) (.asg 3 (.bin .mulB (.var 3) (.call 23 (.pair (.bin .add (.var 1) (.var 4)) .unit)))))) (.ret (.and (.call 18 (.pair (.var 0) .unit)) (.cmp .eq (.bin .mulB (.var 0) (.var 3)) (.var 2)))))))⟩
noncomputable abbrev uA:=qdd "_law_is_product" 36 ["_law_found","_law_n","_law_top","_law_bottom","_law_j"] 2 uf
noncomputable def iM:Fn:=⟨1,5,(.seq (.asg 1 (.call 19 (.pair (.call 17 (.pair (.var 0) (.pair (.lit (.int 0)) .unit))) .unit))) (.seq (.asg 2 (.bin .add (.lit (.int 1)) (.bin .mod (.call 17 (.pair (.var 0) (.pair (.lit (.int 1)) .unit))) (.lit (.int 7))))) (.seq (.asg 3 (.bin .add (.lit (.int 1)) (.bin .mod (.call 17 (.pair (.var 0) (.pair (.lit (.int 2)) .unit))) (.lit (.int 30))))) (.seq (.asg 4 (.call 8 (.pair (.var 1) .unit))) (.seq (.ite (.or (.not (.call 18 (.pair (.var 4) .unit))) (.or (.cmp .ne (.var 4) (.blt .len (.pair (.call 22 (.pair (.var 1) .unit)) .unit))) (.cmp .ne (.var 4) (.call 13 (.pair (.var 1) .unit))))) (.ret (.lit (.bl false))) .skip) (.seq (.asg 4 (.call 13 (.pair (.var 2) .unit))) (.seq (.ite (.or (.not (.call 18 (.pair (.var 4) .unit))) (.or (.cmp .ne (.var 4) (.call 24 (.pair (.var 2) .unit))) (.not (.call 25 (.pair (.var 4) (.pair (.var 2) .unit)))))) (.ret (.lit (.bl false))) .skip) (.ret (.and (.call 25 (.pair (.call 16 (.pair (.var 3) .unit)) (.pair (.var 3) .unit))) (.cmp .eq (.call 16 (.pair (.var 2) .unit)) (.var 4)))))))))))⟩
noncomputable abbrev nn:=qdd "law" 37 ["_law_script","_law_small","_law_middle","_law_great","_law_told"] 1 iM
noncomputable def D:List bK:=[d0,d1,d2,d3,d4,d5,d6,d7,d8,d9,uP,uO,uN,uM,uL,uK,uJ,uI,uH,uG,uF,uE,uD,uC,uB,uA,nn]
noncomputable def C:Mini.Ctx:=⟨["is_whole","is_size_to","need_size_to","column_of","longer_rows","rows_below","longer_tables","states","by_walking","longer_lists","lists_behind","stepped","tops_by_steps","by_steps","product_above","fraction_to","by_product","_law_cell_at","_law_whole","_law_small_by","_law_alternating","_law_power","_law_walked","_law_factorial","_law_from_above","_law_is_product","law"],[("GREATEST_WALKED",5),("GREATEST_STEPPED",7),("GREATEST_PRODUCT",30)],[]⟩
def ac {P:bK->Prop}(h:P a)(t:∀d∈l,P d):∀d∈a::l,P d:=Vx.mpr ⟨h,t⟩
set_option maxHeartbeats 0 in
def u8:∀d∈D,iS C d:=by
 unfold D;repeat' refine Vx.2 ⟨?_,?_⟩
 all_goals first|exact λ_ h=>(WY h).elim|(refine⟨by decide +kernel,rfl,rfl,?_⟩;repeat' first|exact .v|exact .int|exact .unit|refine .pair rfl rfl ?_ ?_|refine .one ?_|refine .seq ?_ ?_|refine .bin rfl ?_ rfl ?_|refine .call rfl ?_ ?_ rfl ?_|refine .ret rfl ?_|refine .forv rfl ?_ rfl ?_ ?_|refine .cmp rfl rfl ?_ rfl ?_|refine .lst ?_|refine .blt rfl ?_ ?_ rfl ?_|refine .rng1 ?_ rfl rfl ?_|refine .tup ?_|refine .ite rfl rfl ?_ ?_ ?_|exact .skip0|refine .expr rfl rfl ?_|refine .and2 rfl rfl ?_ rfl rfl ?_|refine .meth rfl rfl ?_ rfl rfl ?_ ?_|refine .not rfl rfl ?_|refine .comp0 rfl ?_ ?_ rfl ?_|refine .isi ?_ ?_ rfl rfl ?_|refine .rng2 ?_ rfl rfl rfl ?_ rfl ?_|refine .con ?_ ?_ ?_|refine .or2 rfl rfl ?_ rfl rfl ?_|exact .dict0|refine .dput rfl ?_ rfl ?_ rfl ?_|refine .aug rfl ?_ rfl rfl ?_|refine .neg rfl ?_|refine .dgetM rfl rfl rfl rfl rfl ?_ rfl ?_ rfl ?_|refine .dget rfl rfl ?_ rfl ?_|refine .compZ0 ?_ ?_ rfl rfl rfl ?_ rfl ?_ rfl ?_|refine .orN rfl rfl ?_ rfl ?_|exact .bl|refine .chain rfl rfl ?_ rfl ?_ rfl ?_|exact .never|refine .comp1 rfl ?_ ?_ rfl rfl ?_ rfl ?_|refine .slL rfl ?_ rfl ?_|refine .forZ rfl ?_ rfl ?_ ?_ rfl rfl rfl ?_ rfl ?_ ?_|refine .forD rfl ?_ ?_ ?_|refine .ife rfl rfl ?_ rfl ?_ rfl ?_|refine .dtrg ?_ ?_ rfl rfl ?_|refine .asgCZ0 rfl ?_ ?_ ?_ rfl rfl rfl ?_ rfl ?_ rfl ?_|refine .fort rfl ?_ rfl ?_ rfl ?_ ?_|refine .compT0 rfl ?_ ?_ rfl ?_|refine .done1 rfl ?_ rfl ?_|refine .forI rfl ?_ rfl ?_ rfl ?_ ?_|refine .dsum ?_ rfl rfl rfl ?_|refine .asg rfl rfl ?_ rfl ?_|refine .idx rfl rfl ?_ rfl ?_|kernel_rfl|decide)
set_option maxHeartbeats 0 in
def HP:∀d∈D,nH d:=by
 unfold D;repeat' refine Vx.2 ⟨?_,?_⟩
 all_goals first|exact λ_ _ _ _ _ _=>tF (λ_=>rfl)|exact λ_ _ _ _ _ _=>tE (λ_ _=>rfl)|exact λ_ _ _ _ _ _=>Gu (λ_ _ _=>rfl)|exact λ_ h=>(WY h).elim
def dk {K:Qb}(X:K.In h)(G:h.Ns JU mg){sl:Array (Option Value)}{kV:Value}(g:Ve K JU d.nm=some (some (.ref a)))(l:K.lookup a=some ⟨oc,od,.func (WI d.on d.on (xS d.st) (xg d.st) (zQ d.st) .none kV dc pm an cd ct),sl⟩)(c:Vm K cd d.on=true)(k:WT K (.ref a)=true):jt K mg d:=⟨a,_,B5 l c k,Vv X G g⟩
def mk {K:Qb}(X:K.In h)(G:h.Ns JU mg)(hD:∀e∈D,jt K mg e)(e0:Ve K JU "GREATEST_WALKED"=some (some (.int 5 t0)))(e1:Ve K JU "GREATEST_STEPPED"=some (some (.int 7 t1)))(e2:Ve K JU "GREATEST_PRODUCT"=some (some (.int 30 t2)))(z:∀nm∈zp,Ve K JU nm=some none): (∀e∈D,jt K mg e)/\fT K w mg C/\∀nm∈zp,mg nm=none:=by
 refine⟨λd hd=>?_,⟨λnm i hi=>?_,λnm qq hi=>?_⟩,λnm hn=>?_⟩
 .exact hD d hd
 .unfold C at hi;rw[Q0]at hi;cases q0:nm==("GREATEST_WALKED":Str)with
  |true=>
   rw[q0]at hi;cases hi;rw[beq_iff_eq.mp q0];exact⟨t0,Vv X G e0⟩
  |false=>
  rw[q0]at hi;rw[Q0]at hi;cases q1:nm==("GREATEST_STEPPED":Str)with
  |true=>
   rw[q1]at hi;cases hi;rw[beq_iff_eq.mp q1];exact⟨t1,Vv X G e1⟩
  |false=>
  rw[q1]at hi;rw[Q0]at hi;cases q2:nm==("GREATEST_PRODUCT":Str)with
  |true=>
   rw[q2]at hi;cases hi;rw[beq_iff_eq.mp q2];exact⟨t2,Vv X G e2⟩
  |false=>
  rw[q2]at hi;cases hi
 .cases hi
 .exact PySem.W.mg_none_of X G (z nm hn)
end R68
namespace R68
open Mini
noncomputable def T:List Fn:=[f0,f1,f2,f3,f4,f5,f6,f7,f8,f9,ux,uw,uv,iN,uu,ut,ur,uq,um,h9,ul,uk,uj,uh,ug,uf,iM]
open Vl Vl.Lib
def fB:Nat->Lv:=λ_=>.no
noncomputable abbrev CD(d:Nat):=jx fB T d
def x8 (h:T[k]?=some f)(ds:List Dat):CD (d+1) k ds=yW fB (CD d) k f ds:=by
 show jx fB T (d+1) k ds=_;unfold jx;rw[h]
def A7 (h:a≠b)(h1:bZ a b=false):bZ b a=true:=by
 rw[jf]at *
 cases e:HT.lexLt b a with
 |true=>rfl
 |false=>exact Mm (L2.xK a b h1 e) h
def ly (h1:bZ a b=true):bZ b a=false:=by
 rw[jf]at *
 cases e:HT.lexLt b a with
 |false=>rfl
 |true=>have:=L2.yE a b a h1 e;rw[L2.yD]at this;cases this
theorem jC {p q:List Int×α}(hpq:bZ p.1 q.1=true):∀l:List (List Int×α),zz p (zz q l)=zz q (zz p l)
 |[]=>by
  show(if bZ p.1 q.1 then[p,q]else _)=(if bZ q.1 p.1 then _ else p::zz q []);rw[hpq,ly hpq];rfl
 |r::l=>by
  have e1:∀x:List Int×α,zz x (r::l)=if bZ x.1 r.1 then x::r::l else r::zz x l:=λx=>rfl;have e2:∀(x y:List Int×α) (l:List (List Int×α)),zz x (y::l)=if bZ x.1 y.1 then x::y::l else y::zz x l:=λ_ _ _=>rfl;rw[e1 q,e1 p];cases hq:bZ q.1 r.1 with
  |true=>
   have hp:bZ p.1 r.1=true:=by
    rw[jf]at *
    exact L2.yE _ _ _ hpq hq
   rw[hp,Mk rfl,Mk rfl,e2 p q,hpq,Mk rfl,e2 q p,ly hpq,Ml Qz,e1 q,hq,Mk rfl]
  |false=>
   rw[Ml Qz,e2 p r];cases hp:bZ p.1 r.1 with
   |true=>rw[Mk rfl,Mk rfl,e2 q p,ly hpq,Ml Qz,e1 q,hq,Ml Qz]
   |false=>rw[Ml Qz,Ml Qz,e2 q r,hq,Ml Qz,jC hpq l]
def Ck {p q:List Int×α}(h:p.1≠q.1)(l:List (List Int×α)):zz p (zz q l)=zz q (zz p l):=by
 cases e:bZ p.1 q.1 with
 |true=>exact jC e l
 |false=>exact(jC (A7 h e) l).symm
noncomputable def vO{α:Type}:List (List Int×α)->List (List Int×α)->List (List Int×α)
 |acc,[]=>acc
 |acc,p::r=>kQ (zz p acc) λa=>vO a r
noncomputable def eB{α:Type}(acc:List (List Int×α)):List (List Int×α)->List (List Int×α)
 |[]=>acc
 |p::r=>zz p (eB acc r)
theorem gq:∀z:List (List Int×α),eB [] z=zA z
 |[]=>rfl
 |p::r=>by rw[yr,<-gq r];rfl
theorem tf:∀{z:List (List Int×α)}(acc:List (List Int×α)),(∀q∈z,p.1≠q.1)->eB (zz p acc) z=zz p (eB acc z)
 |[],_,_=>rfl
 |q::z,acc,h=>by
  show zz q (eB (zz p acc) z)=zz p (zz q (eB acc z));rw[tf acc λx hx=>h x (by simp[hx]),Ck (h q (by simp))]
theorem sZ:∀(z acc:List (List Int×α)),(z.map Prod.fst).Nodup->vO acc z=eB acc z
 |[],_,_=>rfl
 |p::z,acc,h=>by
  rw[QM,QR]at h;show kQ (zz p acc) (λa=>vO a z)=zz p (eB acc z);rw[xh,sZ z _ h.2,tf acc λq hq e=>h.1 (by rw[e];exact WL.mpr ⟨q,hq,rfl⟩)]
theorem jD:∀(z acc:List (List Int×α)),(vO acc z).Perm (z++acc)
 |[],acc=>.refl _
 |p::z,acc=>by
  show(kQ (zz p acc) λa=>vO a z).Perm _;rw[xh];refine(jD z _).trans ?_;exact((jg p acc).append_left z).trans List.perm_middle
noncomputable def iu(ks:List (List Int))(xs:List Dat):Option (List Dat):=kl ks λks=>kQ (ks.zip xs) λz=>kQ (vO [] z) λs=>if y7 (s.map Prod.fst)then some (s.map Prod.snd)else none
def El (h:iu ks xs=some ys):yS Dat ks xs=some ys:=by
 unfold iu at h;rw[kR,xh,xh]at h;rw[wf];cases z:y7 ((vO [] (ks.zip xs)).map Prod.fst)with
 |false=>rw[z]at h;cases h
 |true=>
  have nd:((ks.zip xs).map Prod.fst).Nodup:=by
   have e:((vO [] (ks.zip xs)).map Prod.fst).Nodup:=by
    unfold List.Nodup;rw[WV];refine(gT z).1.imp λ{a b} c e=>?_;rw[e,L2.yD]at c;cases c
   have p:=jD (ks.zip xs) [];rw[QZ]at p;exact(p.map Prod.fst).nodup_iff.mp e
  have e:zA (ks.zip xs)=vO [] (ks.zip xs):=by rw[sZ _ _ nd,gq]
  rw[e];exact h
noncomputable def xk(ds:List Dat):Rd:=match (xc ds).bind λks=>iu ks ds with
 |some es=>bu es
 |none=>.no
def F0 (h:xk ds=.ok y):yu .sorted [.lst ds]=.ok y:=by
 unfold xk at h;show(match (xc ds).bind λks=>yS Dat ks ds with|some es=>bu es|none=>.no)=_;cases e:(xc ds).bind λks=>iu ks ds with
 |none=>rw[e]at h;cases h
 |some es=>
  rw[e]at h;obtain⟨ks,k1,k2⟩:=Qy.mp e;have e2:((xc ds).bind λks=>yS Dat ks ds)=some es:=by rw[k1];exact El k2
  rw[e2];exact h
noncomputable def eR:List Dat->Option (List (List Int))
 |[]=>some []
 |.lst xs::r=>match zC xs,eR r with
  |some k,some ks=>some (k::ks)
  |_,_=>none
 |_=>none
noncomputable def dY:List Int->List Int->Bool
 |[],[]=>true
 |x::xs,y::ys=>decide (x=y)&&dY xs ys
 |_,_=>false
noncomputable def eA:List (List Int)->List (List Int)->Bool
 |[],[]=>true
 |x::xs,y::ys=>dY x y&&eA xs ys
 |_,_=>false
def cN:Rd->Bool
 |.ok (.bl b)=>b
 |_=>false
noncomputable def lZ:Nat->Int->Nat->List Int
 |_,_,0=>[]
 |m,s,c+1=>if m%2=1 then s::lZ (m/2) (-s) c else 0::lZ (m/2) s c
def tI:List Int->Int
 |[]=>0
 |x::l=>x+tI l
noncomputable def yf(n:Nat):List (List Int):=kl (((QU (2^n)).map λm=>lZ m 1 n).filter λl=>decide (tI l=1)) id
noncomputable def b9:Nat->Nat
 |1=>1
 |2=>2
 |3=>7
 |4=>42
 |5=>429
 |6=>7436
 |_=>218348
noncomputable def eQ(n:Nat):List Dat:=(ku (yf n) n [([],Qg n 0)]).map λp=>aP p.1
noncomputable def wR(r:Rd)(n:Nat):Bool:=match r with
 |.ok (.lst a)=>decide (a.length=n)
 |_=>false
def jE(n:Nat):Bool:=(QU (n+1)).all λj=>decide ((ku (yf n) j [([],Qg n 0)]).length<=1000)
noncomputable def ik:Nat->List (List Int)
 |0=>[[]]
 |n+1=>(ik n).flatMap λv=>[0::v,1::v]
noncomputable def dn(r:Rd)(x:List (List Int)):Bool:=match r with
 |.ok (.lst l)=>match eR l with
  |some y=>eA y x
  |none=>false
 |_=>false
def eC(n:Nat):Bool:=(ik n).all λs=>dn (CD 4 5 [aL s]) (di s)
noncomputable def tG(n:Nat)(t:List (List Int)):Bool:=decide (t.length<=5)&&t.all (λr=>decide (r.length=n))&&(yk n t).all (λs=>decide (s=0) || decide (s=1))&&decide ((di (yk n t)).length<=50)
def et(n:Nat):Bool:=(QU n).all λj=>(cG n j [[]]).all (tG n)&&decide ((cG n j [[]]).length<=1000)
theorem p8:∀{xs:List Dat}{k:List Int},zC xs=some k->xs=k.map Dat.int
 |[],k,h=>by cases h;rfl
 |d::xs,k,h=>by
  cases d with
  |int i=>
   have h':(zC xs).map (i::·)=some k:=h;obtain⟨k',e,rfl⟩:=QJ.mp h';rw[p8 e];rfl
  |_=>cases h
theorem qx:∀{xs:List Dat}{k:List (List Int)},eR xs=some k->xs=k.map aL
 |[],k,h=>by cases h;rfl
 |d::xs,k,h=>by
  cases d with
  |lst es=>
   have h':(match zC es,eR xs with
    |some k,some ks=>some (k::ks)
    |_,_=>none)=some k:=h
   cases e1:zC es with
   |none=>simp only[e1]at h';cases h'
   |some a=>
    cases e2:eR xs with
    |none=>simp only[e1,e2]at h';cases h'
    |some b=>
     simp only[e1,e2]at h';cases h';rw[p8 e1,qx e2];rfl
  |_=>cases h
theorem lx:∀{x y:List Int},dY x y=true->x=y
 |[],[],_=>rfl
 |[],_::_,h=>by cases h
 |_::_,[],h=>by cases h
 |a::x,b::y,h=>by
  have h':(decide (a=b)&&dY x y)=true:=h;rw[Qm]at h';rw[Mp h'.1,lx h'.2]
theorem wN:∀{x y:List (List Int)},eA x y=true->x=y
 |[],[],_=>rfl
 |[],_::_,h=>by cases h
 |_::_,[],h=>by cases h
 |a::x,b::y,h=>by
  have h':(dY a b&&eA x y)=true:=h;rw[Qm]at h';rw[lx h'.1,wN h'.2]
def A6 (h:cN r=true):r=.ok (.bl true):=by
 unfold cN at h;split at h
 .rw[h]
 .cases h
theorem sY:∀(n:Nat) (s:List Int),s.length=n->(∀x∈s,x=0\/x=1)->s∈ik n
 |0,s,h,_=>by
  cases s with
  |nil=>exact Qq.mpr rfl
  |cons _ _=>cases h
 |n+1,s,h,hx=>by
  cases s with
  |nil=>cases h
  |cons x s=>
   have:=sY n s (Nat.succ.inj h) λy hy=>hx y (by simp[hy]);show x::s∈(ik n).flatMap λv=>[0::v,1::v];rw[List.mem_flatMap];refine⟨s,this,?_⟩;rcases hx x (by simp)with rfl|rfl
   .simp
   .simp
set_option tactic.hygienic true in
def pC (h:dn r x=true):r=.ok (aP x):=by
 unfold dn at h;split at h
 .next l=>
  split at h
  .next y ey=>rw[qx ey,wN h];rfl
  .cases h
 .cases h
def H3 (d:Nat)(t:List (List Int))(ht:t.length<=100)(hr:∀r∈t,r.length=n)(c:Nat)(hc:c<n):CD (d+1) 3 [aP t,.int (c:Int)]=.ok (aL (qw t c)):=by
 rw[x8 (f:=iW) rfl];exact Cq ht (λr q=>by rw[hr r q];exact hc) rfl
def H7 (hn:n<=5)(hv:eC n=true)(ht:et n=true)(h2:CD 5 2 [.int n,.int 5]=.ok .non)(hs:yu .sorted [yc (cG n n [[]])]=.ok (.lst ss)):CD 6 7 [.int n]=.ok (.lst ss):=by
 rw[x8 (d:=5) (f:=rl) rfl];refine F1 (by lia) h2 (λj hj=>?_) hs rfl;have q:=QV.mp ht j (Vw.mpr hj);rw[Qm,QV]at q;obtain⟨q1,q2⟩:=q;have hj':cG n (j+1) [[]]=vm n (cG n j [[]]):=by
  have:∀(j:Nat) (ts:List (List (List Int))),cG n (j+1) ts=vm n (cG n j ts):=by
   intro j
   induction j with
   |zero=>intro ts;rfl
   |succ j ih=>intro ts;exact ih (vm n ts)
  exact this j _
 rw[hj',x8 (d:=4) (f:=ue) rfl];have key:∀t∈cG n j [[]],(t.length<=100/\∀r∈t,r.length=n)/\CD 4 5 [aL (yk n t)]=.ok (aP (di (yk n t)))/\(di (yk n t)).length<=50:=λt htt=>by
  have z:=q1 t htt;unfold tG at z;rw[Qm,Qm,Qm,QV,QV]at z;obtain⟨⟨⟨z1,z2⟩,z3⟩,z4⟩:=z;refine⟨⟨by have:=Mp z1;lia,λr hr=>Mp (z2 r hr)⟩,?_,Mp z4⟩;refine pC (QV.mp hv _ (sY n _ (by simp[yk]) λx hx=>?_));have:=z3 x hx;rw[WS]at this;exact this.imp Mp Mp
 exact Ax (by lia) (λt t1 t2 c hc=>H3 3 t t1 t2 c hc) (λt htt=>(key t htt).1) (Mp q2) (λt htt=>(key t htt).2) rfl
def pB (h:wR r n=true):∃a,r=.ok (.lst a)/\a.length=n:=by
 unfold wR at h;split at h
 .exact ⟨_,rfl,Mp h⟩
 .cases h
noncomputable def kh(n:Nat)(cs:List (List Int)):Bool:=decide (cs.length<=90)&&cs.all λl=>decide (l.length=n)
def sX (h:kh n cs=true):qu n cs:=by
 unfold kh at h;rw[Qm,QV]at h;exact⟨Mp h.1,λl hl=>Mp (h.2 l hl)⟩
noncomputable def ij:DI->List Int->Int->DI
 |[],q,v=>[(q,v)]
 |p::D,q,v=>if dY p.1 q then io (p.2+v) λw=>(p.1,w)::D else p::ij D q v
def tM:List Int->Bool
 |[]=>false
 |i::r=>(i::r).all λx=>decide (0<=x)&&decide (x<=1)
noncomputable def gs(s:List Int)(v:Int):List (List Int)->DI->DI
 |[],D=>D
 |l::cs,D=>if tM (QT (·+·) s l)then fj (QT (·+·) s l) λq=>gs s v cs (ij D q v)else gs s v cs D
noncomputable def fV(cs:List (List Int)):DI->DI->DI
 |[],E=>E
 |p::ps,E=>fV cs ps (gs p.1 p.2 cs E)
noncomputable def kB(cs:List (List Int))(t:Int):Nat->DI->Bool
 |0,D=>decide (D.length<=1000)&&decide (eK D=t)
 |k+1,D=>decide (D.length<=1000)&&kB cs t k (fV cs D [])
theorem sW:∀x:List Int,dY x x=true
 |[]=>rfl
 |a::x=>by show(decide (a=a)&&dY x x)=true;rw[sW x];simp
theorem p7(q:List Int)(v:Int):∀D:DI,ij D q v=vM D q v
 |[]=>rfl
 |p::D=>by
  unfold ij vM;rw[rW,p7 q v D];by_cases c:p.1=q
  .rw[Mk c,c,sW,Mk rfl]
  .rw[Ml c,Ml λz=>c (lx z)]
def A5:∀z:List Int,tM z=dz z
 |[]=>rfl
 |i::r=>by
  show((i::r).all λx=>decide (0<=x)&&decide (x<=1))=(decide (0<=yY i r)&&decide (xo i r<=1));obtain⟨a1,a2,a3⟩:=gW r i;obtain⟨b1,b2,b3⟩:=gX r i;rw[W3,QV,Qm,decide_eq_true_iff,decide_eq_true_iff];constructor
  .intro h;have h1:=h _ a3;have h2:=h _ b3;simp only[Qm,decide_eq_true_iff]at h1 h2;exact⟨h1.1,h2.2⟩
  .rintro ⟨h1,h2⟩ x hx;simp only[Qm,decide_eq_true_iff];rcases Qn.mp hx with rfl|hx
   .lia
   .have:=a2 x hx;have:=b2 x hx;lia
theorem jF(s:List Int)(v:Int):∀(cs:List (List Int)) (D:DI),gs s v cs D=x6 s v cs D
 |[],_=>rfl
 |l::cs,D=>by
  unfold gs;show _=x6 s v cs (xQ s v l D);unfold xQ;rw[A5,gJ,p7,jF s v cs,jF s v cs];split<;>rfl
theorem sS(cs:List (List Int)):∀ps E:DI,fV cs ps E=vN cs ps E
 |[],_=>rfl
 |p::ps,E=>by
  show fV cs ps (gs p.1 p.2 cs E)=vN cs ps (x6 p.1 p.2 cs E);rw[jF,sS cs ps]
theorem p6(cs:List (List Int))(t:Int):∀(k:Nat) (D:DI),kB cs t k D=true->(∀j,j<=k->(kw cs j D).length<=1000)/\eK (kw cs k D)=t
 |0,D,h=>by
  have h':(decide (D.length<=1000)&&decide (eK D=t))=true:=h;rw[Qm]at h';exact⟨λj hj=>by rw[Nat.le_zero.mp hj];exact Mp h'.1,Mp h'.2⟩
 |k+1,D,h=>by
  have h':(decide (D.length<=1000)&&kB cs t k (fV cs D []))=true:=h;rw[Qm,sS]at h';obtain⟨q1,q2⟩:=p6 cs t k _ h'.2;refine⟨λj hj=>?_,q2⟩;cases j with
  |zero=>exact Mp h'.1
  |succ j=>exact q1 j (by lia)
abbrev DL:=List (List Int×List Int)
noncomputable def nM:List Int->List (List Int)->List (List Int)
 |lo::hi::r,ts=>nM (hi::r) (ts.flatMap λt=>((QU (hi-lo+1).toNat).filterMap λi=>if t.getLast?.all λx=>decide (x<lo+i)then some (t++[lo+i])else none))
 |_,ts=>ts
noncomputable def nL:DL->List Int->List Int->DL
 |[],q,v=>[(q,v)]
 |p::D,q,v=>if dY p.1 q then(p.1,QT (·+·) p.2 v)::D else p::nL D q v
noncomputable def iX(n:Int):DL->DL->DL
 |[],E=>E
 |p::D,E=>iX n D ((nM (0::p.1++[n-1]) [[]]).foldl (λE q=>nL E q p.2) E)
def np(n:Nat):DL:=(QU n).map λ(c:Nat)=>([(c:Int)],(QU n).map λ(t:Nat)=>if t=c then(1:Int)else 0)
noncomputable def wP(n:Nat):Nat->DL
 |0=>[]
 |1=>np n
 |k+2=>kl ((iX n (wP n (k+1)) []).map (·.1)) λks=>kl ((iX n (wP n (k+1)) []).map (·.2)) λvs=>ks.zip vs
noncomputable def W(n k:Nat):Dat:=.dct ((wP n k).map (·.1)) ((wP n k).map λp=>aL p.2)
noncomputable def zZ(n k:Nat):Bool:=match CD 5 11 [W n k,.int n]with
 |.ok (.dct ks ds)=>eA ks ((wP n (k+1)).map (·.1))&&(match eR ds with
  |some y=>eA y ((wP n (k+1)).map (·.2))
  |none=>false)
 |_=>false
set_option tactic.hygienic true in
def Cj (h:zZ n k=true):CD 5 11 [W n k,.int n]=.ok (W n (k+1)):=by
 unfold zZ at h;split at h
 .next ks ds e=>
  rw[Qm]at h;obtain⟨h1,h2⟩:=h;split at h2
  .next y ey=>
   rw[e,qx ey,wN h1,wN h2];unfold W;rw[WM];rfl
  .cases h2
 .cases h
noncomputable def wA(n:Nat):Bool:=match aR fB (CD 5) fY [some (.int n),none,none,none] [br (.int n),.full,.full,.full]with
 |.next [some (.int m),some (.dct ks ds),_,none] [_,_,_,_]=>decide (m=n)&&eA ks ((wP n 1).map (·.1))&&(match eR ds with
  |some y=>eA y ((wP n 1).map (·.2))
  |none=>false)
 |_=>false
set_option tactic.hygienic true in
def Ci (h:wA n=true):∃o2 l0 l1 l2 l3,aR fB (CD 5) fY [some (.int n),none,none,none] [br (.int n),.full,.full,.full]=.next [some (.int n),some (W n 1),o2,none] [l0,l1,l2,l3]:=by
 unfold wA at h;split at h
 .next m ks ds o2 l0 l1 l2 l3 e=>
  rw[Qm,Qm]at h;obtain⟨⟨h0,h1⟩,h2⟩:=h;split at h2
  .next y ey=>
   refine⟨o2,l0,l1,l2,l3,?_⟩;rw[e,Mp h0,qx ey,wN h1,wN h2];unfold W;rw[WM];rfl
  .cases h2
 .cases h
noncomputable def iJ(r:Rd)(i:Nat):Bool:=match r with
 |.ok (.int j)=>decide (j=i)
 |_=>false
def pA (h:iJ r i=true):r=.ok (.int i):=by
 unfold iJ at h;split at h
 .rw[Mp h]
 .cases h
noncomputable def wW(n:Nat):Bool:=match vJ (W n n) (.tup (yh 0 1 n))with
 |.ok d=>iJ (yu .sum [d]) (b9 n)
 |_=>false
set_option tactic.hygienic true in
def HW (hn:0<n)(hn1:n<=7)(hb:wA n=true)(hs:∀i,1<=i->i<n->zZ n i=true)(he:wW n=true):CD 7 13 [.int n]=.ok (.int (b9 n)):=by
 obtain⟨o2,l0,l1,l2,l3,h0⟩:=Ci hb;unfold wW at he;split at he
 .next r er=>
  have h12:CD 6 12 [.int n]=.ok r:=by
   rw[x8 (d:=5) (f:=oD) rfl];exact Em hn hn1 (W:=W n) h0 (λi i1 i2=>Cj (hs i i1 i2)) er rfl
  rw[x8 (d:=6) (f:=iN) rfl];simp[yW,iN,yy,yI,xF,h12,pA he]
 .cases he
def uZ{n:Nat}(h:dn (CD 6 20 [.int n]) (yf n)=true):CD 6 20 [.int n]=.ok (aP (yf n)):=pC h
def HR{n:Nat}(hn:0<n)(hn1:n<=7)(ha:dn (CD 6 20 [.int n]) (yf n)=true)(hc:kh n (yf n)=true)(hb:kB (yf n) (b9 n) n [(Qg n 0,1)]=true):CD 7 24 [.int n]=.ok (.int (b9 n)):=by
 obtain⟨q1,q2⟩:=p6 _ _ _ _ hb;rw[x8 (d:=6) (f:=pF 20) rfl,FY hn (by lia) (sX hc) (uZ ha) q1 rfl,q2]
def H8 (hn:n<=5)(hv:eC n=true)(ht:et n=true)(h2:CD 5 2 [.int n,.int 5]=.ok .non)(hs:wR (yu .sorted [yc (cG n n [[]])]) (b9 n)=true):CD 7 8 [.int n]=.ok (.int (b9 n)):=by
 obtain⟨a,e,el⟩:=pB hs;rw[x8 (d:=6) (f:=f8) rfl];simp[yW,f8,yy,yI,xF,H7 hn hv ht h2 e,el]
def HS{n:Nat}(hn:0<n)(hn1:n<=7)(ha:dn (CD 6 20 [.int n]) (yf n)=true)(hc:kh n (yf n)=true)(hb:jE n=true)(hs:wR (xk (eQ n)) (b9 n)=true):∃ss,CD 7 22 [.int n]=.ok (.lst ss)/\ss.length=b9 n:=by
 obtain⟨a,e,el⟩:=pB hs;refine⟨a,?_,el⟩;rw[x8 (d:=6) (f:=oH 20) rfl];refine Eo hn (by lia) (sX hc) (uZ ha) (λj hj=>?_) (F0 e) rfl;have:=QV.mp hb j (Vw.mpr (by lia));exact Mp this
def HV(d:Nat)(x:Dat):CD (d+1) 18 [x]=.ok (.bl (isInt x)):=by rw[x8 (f:=qt) rfl];exact FC x
def nA(d:Nat)(ns:List Int)(i:Nat):∃c:Int,CD (d+1) 17 [.scr ns,.int i]=.ok (.int c):=by rw[x8 (f:=fW) rfl];exact Es ns i
def HU(d:Nat)(c:Int):∃n:Nat,1<=n/\n<=5/\CD (d+1) 19 [.int c]=.ok (.int n):=by
 rw[x8 (f:=h9) rfl];have e1:yn .mod (.int c) (.int 16)=.ok (.int (c%16)):=qr _ _ (by decide);have e2:yn .fdiv (.int c) (.int 16)=.ok (.int (c/16)):=Cz _ _ (by decide) (by decide);have e3:yn .mod (.int (c/16)) (.int 4)=.ok (.int (c/16%4)):=qr _ _ (by decide);by_cases q:c%16=5
 .exact ⟨5,by lia,by lia,by simp[yW,h9,yy,yI,xF,e1,q]⟩
 .refine ⟨(1+c/16%4).toNat,by lia,by lia,?_⟩;have:(((1+c/16%4).toNat:Nat):Int)=1+c/16%4:=by lia
  rw[this];simp[yW,h9,yy,yI,xF,e1,e2,e3,q]
noncomputable def cf(n:Nat):Bool:=match CD 7 16 [.int n]with
 |.ok (.int i)=>cN (CD 7 25 [.int i,.int n])
 |_=>false
def Gr(n:Nat):Prop:=∃i:Int,CD 7 16 [.int n]=.ok (.int i)/\CD 7 25 [.int i,.int n]=.ok (.bl true)
set_option tactic.hygienic true in
def zm (h:cf n=true):Gr n:=by
 unfold cf at h;split at h
 .next i e=>exact⟨i,e,A6 h⟩
 .cases h
def Md(n:Nat):Prop:=CD 7 13 [.int n]=.ok (.int (b9 n))/\CD 7 24 [.int n]=.ok (.int (b9 n))/\CD 7 16 [.int n]=.ok (.int (b9 n))/\CD 7 25 [.int (b9 n),.int n]=.ok (.bl true)
def Sl(n:Nat):Prop:=CD 7 8 [.int n]=.ok (.int (b9 n))/\∃ss,CD 7 22 [.int n]=.ok (.lst ss)/\ss.length=b9 n
noncomputable def eF(n:Nat):Bool:=iJ (CD 7 16 [.int n]) (b9 n)
def tY:dn (CD 6 20 [.int (1:Nat)]) (yf 1)=true:=by kernel_rfl
def tS:kh 1 (yf 1)=true:=by kernel_rfl
def HI:kB (yf 1) (b9 1) 1 [(Qg 1 0,1)]=true:=by kernel_rfl
def Ha:wA 1=true:=by kernel_rfl
def Hw:wW 1=true:=by kernel_rfl
def Hh:eF 1=true:=by kernel_rfl
def tX:dn (CD 6 20 [.int (2:Nat)]) (yf 2)=true:=by kernel_rfl
def tR:kh 2 (yf 2)=true:=by kernel_rfl
def HH:kB (yf 2) (b9 2) 2 [(Qg 2 0,1)]=true:=by kernel_rfl
def G9:wA 2=true:=by kernel_rfl
def Hv:wW 2=true:=by kernel_rfl
def Hg:eF 2=true:=by kernel_rfl
def mH:zZ 2 1=true:=by kernel_rfl
def tW:dn (CD 6 20 [.int (3:Nat)]) (yf 3)=true:=by kernel_rfl
def tQ:kh 3 (yf 3)=true:=by kernel_rfl
def HG:kB (yf 3) (b9 3) 3 [(Qg 3 0,1)]=true:=by kernel_rfl
def G8:wA 3=true:=by kernel_rfl
def Hu:wW 3=true:=by kernel_rfl
def Hf:eF 3=true:=by kernel_rfl
def mG:zZ 3 1=true:=by kernel_rfl
def mF:zZ 3 2=true:=by kernel_rfl
def tV:dn (CD 6 20 [.int (4:Nat)]) (yf 4)=true:=by kernel_rfl
def tP:kh 4 (yf 4)=true:=by kernel_rfl
def HF:kB (yf 4) (b9 4) 4 [(Qg 4 0,1)]=true:=by kernel_rfl
def G7:wA 4=true:=by kernel_rfl
def Ht:wW 4=true:=by kernel_rfl
def He:eF 4=true:=by kernel_rfl
def mE:zZ 4 1=true:=by kernel_rfl
def mD:zZ 4 2=true:=by kernel_rfl
def mC:zZ 4 3=true:=by kernel_rfl
def tT:dn (CD 6 20 [.int (5:Nat)]) (yf 5)=true:=by kernel_rfl
def tO:kh 5 (yf 5)=true:=by kernel_rfl
def HE:kB (yf 5) (b9 5) 5 [(Qg 5 0,1)]=true:=by kernel_rfl
def G6:wA 5=true:=by kernel_rfl
def Hs:wW 5=true:=by kernel_rfl
def Hd:eF 5=true:=by kernel_rfl
def mz:zZ 5 1=true:=by kernel_rfl
def my:zZ 5 2=true:=by kernel_rfl
def mx:zZ 5 3=true:=by kernel_rfl
def mw:zZ 5 4=true:=by kernel_rfl
def G0:dn (CD 6 20 [.int (6:Nat)]) (yf 6)=true:=by kernel_rfl
def GP:kh 6 (yf 6)=true:=by kernel_rfl
def HD:kB (yf 6) (b9 6) 6 [(Qg 6 0,1)]=true:=by kernel_rfl
def G5:wA 6=true:=by kernel_rfl
def Hr:wW 6=true:=by kernel_rfl
def Hc:eF 6=true:=by kernel_rfl
def mv:zZ 6 1=true:=by kernel_rfl
def mq:zZ 6 2=true:=by kernel_rfl
def mo:zZ 6 3=true:=by kernel_rfl
def mn:zZ 6 4=true:=by kernel_rfl
def mm:zZ 6 5=true:=by kernel_rfl
def GZ:dn (CD 6 20 [.int (7:Nat)]) (yf 7)=true:=by kernel_rfl
def GO:kh 7 (yf 7)=true:=by kernel_rfl
def HC:kB (yf 7) (b9 7) 7 [(Qg 7 0,1)]=true:=by kernel_rfl
def G4:wA 7=true:=by kernel_rfl
def Hq:wW 7=true:=by kernel_rfl
def Hb:eF 7=true:=by kernel_rfl
def ml:zZ 7 1=true:=by kernel_rfl
def mj:zZ 7 2=true:=by kernel_rfl
def mi:zZ 7 3=true:=by kernel_rfl
def mh:zZ 7 4=true:=by kernel_rfl
def mf:zZ 7 5=true:=by kernel_rfl
def me:zZ 7 6=true:=by kernel_rfl
def GU:eC 1=true:=by kernel_rfl
def GY:et 1=true:=by kernel_rfl
def GI:CD 5 2 [.int (1:Nat),.int 5]=.ok .non:=by kernel_rfl
def Hm:jE 1=true:=by kernel_rfl
def HB:wR (yu .sorted [yc (cG 1 1 [[]])]) (b9 1)=true:=by kernel_rfl
def GN:wR (xk (eQ 1)) (b9 1)=true:=by kernel_rfl
def GT:eC 2=true:=by kernel_rfl
def ma:et 2=true:=by kernel_rfl
def GH:CD 5 2 [.int (2:Nat),.int 5]=.ok .non:=by kernel_rfl
def Hl:jE 2=true:=by kernel_rfl
def HA:wR (yu .sorted [yc (cG 2 2 [[]])]) (b9 2)=true:=by kernel_rfl
def GM:wR (xk (eQ 2)) (b9 2)=true:=by kernel_rfl
def GS:eC 3=true:=by kernel_rfl
def GX:et 3=true:=by kernel_rfl
def GG:CD 5 2 [.int (3:Nat),.int 5]=.ok .non:=by kernel_rfl
def Hk:jE 3=true:=by kernel_rfl
def Hz:wR (yu .sorted [yc (cG 3 3 [[]])]) (b9 3)=true:=by kernel_rfl
def GL:wR (xk (eQ 3)) (b9 3)=true:=by kernel_rfl
def GR:eC 4=true:=by kernel_rfl
def GW:et 4=true:=by kernel_rfl
def GF:CD 5 2 [.int (4:Nat),.int 5]=.ok .non:=by kernel_rfl
def Hj:jE 4=true:=by kernel_rfl
def Hy:wR (yu .sorted [yc (cG 4 4 [[]])]) (b9 4)=true:=by kernel_rfl
def GK:wR (xk (eQ 4)) (b9 4)=true:=by kernel_rfl
def GQ:eC 5=true:=by kernel_rfl
def GV:et 5=true:=by kernel_rfl
def GE:CD 5 2 [.int (5:Nat),.int 5]=.ok .non:=by kernel_rfl
def Hi:jE 5=true:=by kernel_rfl
def Hx:wR (yu .sorted [yc (cG 5 5 [[]])]) (b9 5)=true:=by kernel_rfl
def GJ:wR (xk (eQ 5)) (b9 5)=true:=by kernel_rfl
def ua:cf 1=true:=by kernel_rfl
def t9:cf 2=true:=by kernel_rfl
def t7:cf 3=true:=by kernel_rfl
def t6:cf 4=true:=by kernel_rfl
def t5:cf 5=true:=by kernel_rfl
def t4:cf 6=true:=by kernel_rfl
def tZ:cf 7=true:=by kernel_rfl
def Ho:cf 8=true:=by kernel_rfl
def Hn:cf 9=true:=by kernel_rfl
def nc:cf 10=true:=by kernel_rfl
def m9:cf 11=true:=by kernel_rfl
def m6:cf 12=true:=by kernel_rfl
def mZ:cf 13=true:=by kernel_rfl
def mY:cf 14=true:=by kernel_rfl
def mX:cf 15=true:=by kernel_rfl
def mW:cf 16=true:=by kernel_rfl
def mV:cf 17=true:=by kernel_rfl
def mU:cf 18=true:=by kernel_rfl
def mT:cf 19=true:=by kernel_rfl
def mS:cf 20=true:=by kernel_rfl
def mR:cf 21=true:=by kernel_rfl
def mQ:cf 22=true:=by kernel_rfl
def mP:cf 23=true:=by kernel_rfl
def mO:cf 24=true:=by kernel_rfl
def mN:cf 25=true:=by kernel_rfl
def mM:cf 26=true:=by kernel_rfl
def mL:cf 27=true:=by kernel_rfl
def mK:cf 28=true:=by kernel_rfl
def mJ:cf 29=true:=by kernel_rfl
def mI:cf 30=true:=by kernel_rfl
def jG{n:Nat}(hn:0<n)(hn1:n<=7)(hr:dn (CD 6 20 [.int n]) (yf n)=true)(hw:kh n (yf n)=true)(hb:kB (yf n) (b9 n) n [(Qg n 0,1)]=true)(ho:wA n=true)(hs:∀i,1<=i->i<n->zZ n i=true)(he:wW n=true)(hm:eF n=true)(hg:Gr n):Md n:=by
 obtain⟨i,g1,g2⟩:=hg;have h16:=pA hm;rw[h16]at g1;cases g1;exact⟨HW hn hn1 ho hs he,HR hn hn1 hr hw hb,h16,g2⟩
def md(n:Nat)(h1:1<=n)(h7:n<=7):Md n:=by
 rcases(by lia:n=1\/n=2\/n=3\/n=4\/n=5\/n=6\/n=7)with rfl|rfl|rfl|rfl|rfl|rfl|rfl
 .exact jG (by lia) (by lia) tY tS HI Ha (λi i1 i2=>by lia) Hw Hh (zm ua)
 .exact jG (by lia) (by lia) tX tR HH G9 (λi i1 i2=>(show i=1 by lia)▸mH) Hv Hg (zm t9)
 .exact jG (by lia) (by lia) tW tQ HG G8 (λi i1 i2=>by
   rcases(by lia:i=1\/i=2)with rfl|rfl
   .exact mG
   .exact mF
   ) Hu Hf (zm t7)
 .exact jG (by lia) (by lia) tV tP HF G7 (λi i1 i2=>by
   rcases(by lia:i=1\/i=2\/i=3)with rfl|rfl|rfl
   .exact mE
   .exact mD
   .exact mC
   ) Ht He (zm t6)
 .exact jG (by lia) (by lia) tT tO HE G6 (λi i1 i2=>by
   rcases(by lia:i=1\/i=2\/i=3\/i=4)with rfl|rfl|rfl|rfl
   .exact mz
   .exact my
   .exact mx
   .exact mw
   ) Hs Hd (zm t5)
 .exact jG (by lia) (by lia) G0 GP HD G5 (λi i1 i2=>by
   rcases(by lia:i=1\/i=2\/i=3\/i=4\/i=5)with rfl|rfl|rfl|rfl|rfl
   .exact mv
   .exact mq
   .exact mo
   .exact mn
   .exact mm
   ) Hr Hc (zm t4)
 .exact jG (by lia) (by lia) GZ GO HC G4 (λi i1 i2=>by
   rcases(by lia:i=1\/i=2\/i=3\/i=4\/i=5\/i=6)with rfl|rfl|rfl|rfl|rfl|rfl
   .exact ml
   .exact mj
   .exact mi
   .exact mh
   .exact mf
   .exact me
   ) Hq Hb (zm tZ)
def fU{n:Nat}(hn:0<n)(hn1:n<=5)(hr:dn (CD 6 20 [.int n]) (yf n)=true)(hw:kh n (yf n)=true)(hv:eC n=true)(ht:et n=true)(h2:CD 5 2 [.int n,.int 5]=.ok .non)(hb:jE n=true)(hc:wR (yu .sorted [yc (cG n n [[]])]) (b9 n)=true)(hd:wR (xk (eQ n)) (b9 n)=true):Sl n:=
 ⟨H8 hn1 hv ht h2 hc,HS hn (by lia) hr hw hb hd⟩
def sl(n:Nat)(h1:1<=n)(h5:n<=5):Sl n:=by
 rcases(by lia:n=1\/n=2\/n=3\/n=4\/n=5)with rfl|rfl|rfl|rfl|rfl
 .exact fU (by lia) (by lia) tY tS GU GY GI Hm HB GN
 .exact fU (by lia) (by lia) tX tR GT ma GH Hl HA GM
 .exact fU (by lia) (by lia) tW tQ GS GX GG Hk Hz GL
 .exact fU (by lia) (by lia) tV tP GR GW GF Hj Hy GK
 .exact fU (by lia) (by lia) tT tO GQ GV GE Hi Hx GJ
def gr:∀n:Nat,1<=n->n<=30->Gr n
 |1,_,_=>zm ua
 |2,_,_=>zm t9
 |3,_,_=>zm t7
 |4,_,_=>zm t6
 |5,_,_=>zm t5
 |6,_,_=>zm t4
 |7,_,_=>zm tZ
 |8,_,_=>zm Ho
 |9,_,_=>zm Hn
 |10,_,_=>zm nc
 |11,_,_=>zm m9
 |12,_,_=>zm m6
 |13,_,_=>zm mZ
 |14,_,_=>zm mY
 |15,_,_=>zm mX
 |16,_,_=>zm mW
 |17,_,_=>zm mV
 |18,_,_=>zm mU
 |19,_,_=>zm mT
 |20,_,_=>zm mS
 |21,_,_=>zm mR
 |22,_,_=>zm mQ
 |23,_,_=>zm mP
 |24,_,_=>zm mO
 |25,_,_=>zm mN
 |26,_,_=>zm mM
 |27,_,_=>zm mL
 |28,_,_=>zm mK
 |29,_,_=>zm mJ
 |30,_,_=>zm mI
 |0,h,_=>Mm h (by lia)
 |n+31,_,h=>Mm h (by lia)
set_option tactic.hygienic true in
def Ek(ns:List Int):CD 8 26 [.scr ns]=.ok (.bl true):=by
 obtain⟨c0,h0⟩:=nA 6 ns 0;obtain⟨c1,h1⟩:=nA 6 ns 1;obtain⟨c2,h2⟩:=nA 6 ns 2;obtain⟨n,n1,n5,hn⟩:=HU 6 c0;obtain⟨s1,ss,s2,s3⟩:=sl n n1 n5;obtain⟨q1,-⟩:=md n n1 (by lia);have e1:yn .mod (.int c1) (.int 7)=.ok (.int (c1%7)):=qr _ _ (by decide);have e2:yn .mod (.int c2) (.int 30)=.ok (.int (c2%30)):=qr _ _ (by decide);obtain⟨m,hm⟩:∃m:Nat,1+c1%7=m:=⟨(1+c1%7).toNat,by lia⟩;obtain⟨g,hg⟩:∃g:Nat,1+c2%30=g:=⟨(1+c2%30).toNat,by lia⟩;obtain⟨m1,m2,m3,m4⟩:=md m (by lia) (by lia);obtain⟨i,g1,g2⟩:=gr g (by lia) (by lia);have h0:CD 7 17 [.scr ns,.int 0]=.ok (.int c0):=h0;have h1:CD 7 17 [.scr ns,.int 1]=.ok (.int c1):=h1;have h2:CD 7 17 [.scr ns,.int 2]=.ok (.int c2):=h2;rw[x8 (d:=7) (f:=iM) rfl];simp[yW,iM,yy,yI,xF,xi,h0,h1,h2,hn,e1,e2,hm,hg,s1,s2,s3,q1,m1,m2,m3,m4,g1,g2,HV 6,isInt]
def pure(ns:List Int)(_:ns.length<=63):∃m,xb (D.map (·.fn)) 8 26 [.rol (ns.map Wd.int)] []=.ok (.bl true) m:=CB fB T 8 26 ns (Ek ns)
end R68
namespace Mini
open PySem PySem.Spec PyProof.Rows L2
def u7 {run:Value->List Value->Sem Value}{K:JL->Qb}(e:∀P,as=(K P).map (·.1))(h:VT q loose XP (λw h=>(K w.params).In h) r d kwd run):PySem.W.WalkX q loose XP (PySem.W.X.obsZ as) (PySem.W.X.valZ K n t) r d kwd run:=
 λw s₀ s₁ mg mb G y a o pm cd doc dV kV h1 h2 h3 h4 h5 h6 args vals as' L p1 p2 p3 p4 p5=>h w s₀ s₁ mg mb G (PySem.W.InK.keeps (K:=K) w _ _ (PySem.W.X.z_facts e y).2.1 L.keeps) a o pm cd doc dV kV h1 h2 h3 h4 h5 h6 args vals as' p1 p2 p3 p4 p5
end Mini
namespace R68
open PySem L2 Mini PySem.W
def HN (X:(K P).In h)(G:h.Ns JU mg)(g:nsIn (K P) JU d.nm=some (some (.ref a)))(l:(K P).lookup a=some (fO d.on d.st m c))(k:codeIn (K P) (.ref c) d.on=true):jt (K P) mg d:=
 dk X G g l k (by show(match (K P).lookup a with|some ⟨_,_,.func _,_⟩=>true|some ⟨_,_,.cls _,_⟩=>_|_=>false)=true;rw[l];rfl)
def HM (X:(K P).In h)(G:h.Ns JU mg){l:List (bK×Addr×Addr×Value)}(e:l.map (λx=>(nsIn (K P) JU x.1.nm,(K P).lookup x.2.1,codeIn (K P) (.ref x.2.2.1) x.1.on))=l.map λx=>(some (some (.ref x.2.1)),some (fO x.1.on x.1.st x.2.2.2 x.2.2.1),true)):∀d∈l.map (·.1),jt (K P) mg d:=λd hd=>by
 obtain⟨x,hx,rfl⟩:=WL.mp hd;have q:=List.map_inj_left.mp e x hx;exact HN X G (Mn (·.1) q) (Mn (·.2.1) q) (Mn (·.2.2) q)
noncomputable def lD:List (bK×Addr×Addr×Value):=[(d0,46,45,m0),(d1,53,52,m0),(d2,60,59,m0),(d3,65,64,m1),(d4,72,71,m2),(d5,77,76,m2),(d6,82,81,m2),(d7,89,88,m2),(d8,96,95,m3),(d9,103,102,m3),(uP,110,109,m3),(uO,115,114,m3),(uN,120,119,m3),(uM,127,126,m3),(uL,134,133,m3),(uK,141,140,m3),(uJ,148,147,m3),(uI,155,154,m4),(uH,162,161,m4),(uG,169,168,m4),(uF,176,175,m4),(uE,183,182,m4),(uD,188,187,m4),(uC,195,194,m4),(uB,200,199,m4),(uA,207,206,m4),(nn,214,213,m4)]
section
variable(P:JL)
def zb:∀nm∈zp,nsIn (K P) JU nm=some none:=(List.map_inj_left (g:=λ_=>some none)).1 (by kernel_rfl)
end
end R68
open PySem PySem.W PyProof.Rows
set_option maxRecDepth 100000 in
theorem PySem.Challenge.cw_loopgyre_k68_counts_alike_holds : PySem.Challenge.rw_loopgyre_k68_counts_alike.Holds := by
 w_on;o_law
 refine holds_openX (q:=R68.qv) (loose:=R68.fF) (Xt:=R68.Xt) (XP:=XL R68.qv []) (Yf:=X.obsZ R68.as) (Ya:=X.valZ R68.K 215 465) (N:=2698) R68.hl (λs e=>xl_of s (QL.mp e).1) XL.keeps (by rfl) (by rfl) (by rfl) (λs e=>recFacts_of (QL.mp e).2) (by rfl) (by assumption) (by decide +kernel) ⟨rfl,rfl,rfl,rfl,rfl,by decide +kernel⟩ ?hw ?hc
 case hw=>w_witness2
 refine Mini.u7 (K:=R68.K) (λ_=>rfl) ?_;refine Mini.Al (l:=PySem.Challenge.rw_loopgyre_k68_counts_alike) (D:=R68.D) (C:=R68.C) (k:=8) (i:=26) (dl:=R68.nn) (x:="_law_script") (n:=63) rfl (by decide) rfl ⟨rfl,by decide,by decide⟩ (λw h Y=>Y) rfl R68.u8 R68.HP rfl rfl rfl ?F R68.pure
 case F=>
  intro w mg fa h KX G hmg;exact R68.mk KX G (t0:=258) (t1:=294) (t2:=296) (R68.HM KX G (l:=R68.lD) (by kernel_rfl)) (by kernel_rfl) (by kernel_rfl) (by kernel_rfl) (R68.zb w.params)
