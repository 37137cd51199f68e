import PyProof.Rows.All
import Wide.All
import OpenK.AllK
import Wide.FinOn
import Lean
import PyProof.EqAt
import PyProof.EqKinds
import PyProof.NeKinds
import PyProof.TupleCall
import OpenK.KOwn
import PyProof.WalkInts
import KE.KIsAll
import KE.RegKIsAll
import PyProof.ExcAttrAll.ValueError
import OpenK.KMake
import PyProof.ExcInit
import PySem.Challenge.RW_loopgyre_k69_tops_alike
open PySem renaming Scope→IN,Params→IP,Program→IQ,World→IR,Heap→IS,mainGlobals→IT,bootBuiltins→IU,Around→IV,wpAny→IX,model→IY,backTo→IZ,starEach→I0,wpAny_mono→Ja,wpAny_loadName_local→Jb,wpAny_loadName_cell→Jc,wpAny_truthy_bool→Jd,wpAny_execs_nil→Je,swapsWith→Jf,assignEach→Jg,setItem→Jh,Operator→Ji,wpAny_bind→Jj,wpAny_holding→Jk,wpAny_standAt→Jl,pyNext→Jm,letOwnedTupleGo→Jn,pyIter→Jo,wpAny_pure→Jp,rawInt→Jq,wpAny_pyIter_list→Jr,wpAny_pyIter_tuple→Js,foldedSetIterable→Jt,wpAny_passesOwn→Ju,binaryOp→Jv,compareOp→Jw,CmpOp→Jx,behindInMarks→Jy,sizeLine_eq→Jz,cLine→JA,FuncData→JB,codeAny→JC,codeAny_mono→JD,wpAny_Call_Name_kw→JE,NameKind→JF,bindL→JG,bindC→JH,cellsFrom→JJ,concat_meets→JK,noFill_tuple_add→JL,seq_tuple_add→JM,IsPart→JN,wpAny_field→JO,getItem→JP,wpAny_callSpecial?_slot→JQ,wpAny_call_entry→JR,wpAny_typeOf→JS,wpAny_newObj_type→JT,evalPart_none→JU,sliceBounds→JX,slicePick→JY,wpAny_getItem_list_slice→JZ,attributeBase→J0,wpAny_Call_method0_late→J1,backToKw→J2,keywordEach→J3,Keyword→J4,wpAny_Call_method_late→J5,call_meets→J6,callerA→J8,pushCells→J9,pushCells_keeps→Ka,newFunctionEnv→Kb,relabel→Kc,notedBy→Ke,wpAny_comprehension_free→Kf,sysModules→Kg,intKind→Kh,wpAny_rule→Ki,putAt→Kj,wpAny_notOrdered_dict→Kk,tupleKind→Kl,atKey→Km,wpAny_loadPart'→Kn,plainId_quiet→Ko,codeAny_builtin→Kq,wpAny_attempt→KH,wpAny_newTuple→KO,argBest→KQ,setField→KR,wpAny_setField→KS,firstArgMember→KT,wpAny_of_eq→KU,wpAny_pyIter_slot→KV,wpAny_dictEntries→KW,wpAny_dictEpoch→KY,wpAny_typeNameOfWhole_keyiter→KZ,wpAny_fieldsOf→K0,wpAny_isOneOf_keyiter→K7,field→K8,wpAny_seqItems→K9,IsZip→La,IsPair→Lb,wpAny_setField_rec→Lc,wpAny_onRaise→Ld,wpAny_updateSeq_pair→Lf,wpAny_letGo→Lg,wpAny_typeNameOfWhole_valiter→Lh,wpAny_isOneOf_valiter→Li,IsItemIter→Lj,IsItemIterOut→Lk,wpAny_typeNameOfWhole_itemiter→Ll,wpAny_isOneOf_itemiter→Lm,ItemsOf→Ln
open PyProof.Rows renaming AllBare→IW,envOfC→JI,subscriptTail→JV,subscriptTail_builtinR→JW,IntsAre→J7,KeyOrd→Kr,SortSt→Ks,oneType'→Kt,wpS_pure→Ku,wpS_bind→Kv,wpS_mono→Kw,wpS_forRange→Kx,arrOf→Ky,pendingOf→Kz,failedOf→KA,wpS_lift→KB,wpS_get→KC,wpS_modify→KD,gallopOf→KF,power'→KG,seqObj→KI,listUpdate_at→KJ,get?_update_seq→KM,seqEpoch_at→KN,sortedAll→KP
open List renaming getElem?_eq_some_iff→Qa,getElem?_append_right→Qd,getElem?_append_left→Qf,append_assoc→Qj,mem_cons_of_mem→Qk,getElem?_eq_getElem→Qm,getD_eq_getElem?_getD→Qn,mem_cons→Qo,length_map→Qp,replicate→Qq,mem_of_getElem?→Qr,getElem?_map→Qs,mem_singleton→Qt,getElem?_take_of_lt→Qv,getElem?_of_mem→Qw,mem_append→Qx,mem_append_right→Qy,size_toArray→Qz,getElem?_set_ne→QA,getElem?_eq_none→QE,length_cons→QG,length_append→QH,map_cons→QJ,take_append_drop→QK,range→QL,nodup_nil→QM,all_eq_true→QN,getElem?_set→QO,drop_eq_getElem_cons→QP,nodup_append→QQ,length_take→QR,zipWith→QU,nodup_cons→QV,append_nil→QW,mem_cons_self→QX,lookup_cons→QZ,flatten_cons→Q0,mem_append_left→Q5,set_cons_zero→Q7,set_cons_succ→Q8,getElem?_drop→Q9,mem_of_mem_take→Wc,getElem?_eq_none_iff→Wf,replicate_succ→Wg,take_append_of_le_length→Wh,take_sublist→Wi,getElem?_set_self→Wj,drop_sublist→Wk,nil_append→Wm,pairwise_iff_getElem→Wn,extract_eq_take_drop→Wo,perm_append_comm→Wq,mem_of_mem_drop→Wr,reverse_cons→Ws,take_of_length_le→Wt,cons_append→Wu,zip_cons_cons→Wv,pairwise_cons→Ww,mem_range→WC,drop_drop→WD,drop_eq_nil_of_le→WG,map_append→WI,Perm→WJ,map_map→WO,length_drop→WP,reverse_append→WQ,flatten_append→WR,pairwise_map→WW,mem_map→WX,flatten_singleton→WY,ext_getElem?→WZ,getElem?_reverse→W1,not_mem_nil→W2,getElem_inj→W3,drop_length→W4,all_cons→W5,mem_iff_getElem→W6,map_congr_left→W9,filterMap_cons→Va,forIn_nil→Vd,take_length→Vm,getElem_mem→Vn,getElem?_replicate→Vo,any_eq_true→Vp,range_succ_eq_map→Vr,length_set→Vu,forIn_cons→Vv,set_append_right→Vw,forall_mem_cons→Vy,drop_zero→Vz,zipIdx_cons→VD,ext_getElem→VE,drop_append→VF,range'→VG,eq_nil_of_length_eq_zero→VH,drop_append_of_le_length→VI,of_mem_zip→VJ,length_zip→VL,getElem?_zip_eq_some→VO,set_eq_of_length_le→VP,map_nil→VT,all_map→VU
open PySem.W renaming Frag→Qb,kia_one→Wx,kitOne→WB,fnOf→WM,keepIn→WU,nsIn→Vj,cellsFrom_some→Vk,codeIn→Vs,mg_of→Vx,WalkO→VM
open PySem.Heap renaming get?_push_of_some→Qc,get?_push_size→Qe,lt_size→Qi,SameBut→Wa,get?_update_self→WK,size_push→WN,get?_update_ne→WS,ExtBut→Vf,size_update→Vq
open Nat renaming le_refl→Qg,lt_of_lt_of_le→Ql,le_trans→Qu,ne_of_lt→QI,lt_irrefl→Q4,zero_le→WA,lt_succ_self→WE,ne_of_gt→WH,lt_succ_of_lt→WL,zero_add→W0,lt_trans→Vb,le_succ→Vh,le_of_lt→Vt,succ_mul→VB,le_of_eq→VC,add_assoc→VQ
open Bool renaming and_eq_true→Qh,false_ne_true→QC,and_eq_true_iff→Q6,false_eq_true→Wb,eq_iff_iff→WT,or_eq_true→W7,not_eq_true'→Vg
open Option renaming bind_eq_some_iff→QB,map_eq_some_iff→QF,bind_some→QS,map_some→QY,getD_some→Wp,isSome_iff_exists→Wz,bind→VS
open Array renaming getElem?_toList→QD,length_toList→QT,getD_eq_getD_getElem?→Q3,getElem?_eq_getElem→We,toList_extract→Wy,getElem?_eq_none→WF,toList_push→WV,toList_append→W8,getElem?_eq_some_iff→Vc,toList_modify→VA,toList_setIfInBounds→VN,toList→VR
open Int renaming toNat_natCast→Wl,fdiv_eq_ediv_of_nonneg→Ve,le_refl→Vi
set_option Elab.async false
set_option linter.all false
set_option maxRecDepth 100000
set_option genSizeOf false
set_option maxHeartbeats 0
set_option tactic.hygienic false
set_option bootstrap.genMatcherCode false
set_option compiler.extract_closed false
set_option backward.eqns.nonrecursive false
set_option backward.eqns.deepRecursiveSplit false
noncomputable section
def Lo:=@decide_eq_false
def Lp.{u}:=@if_pos.{u}
def Lq.{u}:=@if_neg.{u}
def Lr.{u}:=@absurd.{u}
def Ls.{u,v}:=@congrArg.{u,v}
def Lu:=@decide_eq_true
def Lw:=@of_decide_eq_true
def Lx:=@decide_eq_true_eq
namespace L2
open PySem PySem.Spec PyProof.Rows
noncomputable def xU(s:Stmt):Arguments:=match s with
 |.FunctionDef _ a _ _ _ _ _ _ _ _=>a
 |_=>{posonlyargs:=[],args:=[],vararg:=none,kwonlyargs:=[],kw_defaults:=[],kwarg:=none,defaults:=[]}
noncomputable def xb(s:Stmt):List Stmt:=match s with
 |.FunctionDef _ _ b _ _ _ _ _ _ _=>b
 |_=>[]
noncomputable def zS(s:Stmt):IN:=match s with
 |.FunctionDef _ _ _ _ _ _ sc _ _ _=>sc
 |_=>{kind:=.function,names:=[],isGenerator:=false,isCoroutine:=false}
end L2
namespace R69
open PySem L2 PySem.W
noncomputable def top(i:Nat):Stmt:=PySem.Challenge.pw_loopgyre_k69_tops_alike.main.body.getD i (.Pass ⟨0,0,0,0⟩)
noncomputable def ge(P:IP)(s:Str)(t:Tok)(v:Value):DictEntry:=⟨PyData.keyHash P s,.str s t,v⟩
noncomputable def cO(s:Str)(t l n f a q b c d e u v:Nat):Obj:=⟨.type "code",none,.fields #[.str s t,.str s (t+1),.str "/claim/cut.py" (t+2),.int l 0,.int n 0,.int 0 0,.int 0 0,.int f 0,.ref a,.bool true,.int q 0,.ref b,.none,.ref c,.ref d,.ref e,.int u 0,.int l 0,.str "/claim/cut.py" v],#[]⟩
noncomputable def fO(n:Str)(d:Stmt)(m:Value)(c:Addr):Obj:=⟨.type "function",none,.func (fnOf n n (xU d) (xb d) (zS d) .none .none .none m none (.ref c) .none),#[]⟩
def m0:Value:=.str "loopgyre.kinds" 223
def m1:Value:=.str "loopgyre.signs" 248
def m2:Value:=.str "loopgyre.books" 256
def m3:Value:=.str "loopgyre.counts" 292
def m4:Value:=.str "law_loopgyre_k69_tops_alike" 393
noncomputable def dJ(s:Str)(t l n f a q b e u v:Nat):Obj:=⟨.type "code",none,.fields #[.str s t,.str s (t+1),.str "/claim/cut.py" (t+2),.int l 0,.int n 0,.int 0 0,.int 0 0,.int f 0,.ref a,.bool true,.int q 0,.ref b,.none,.none,.none,.ref e,.int u 0,.int l 0,.str "/claim/cut.py" v],#[]⟩
noncomputable def K(P:IP):Frag:=[(3,⟨.type "dict",none,.dict #[ge P "__name__" 165 (.str "law_loopgyre_k69_tops_alike" 393),ge P "__doc__" 166 .none,ge P "__package__" 167 .none,ge P "__loader__" 168 (.builtin "__main__.__loader__#opaque"),ge P "__spec__" 169 .none,ge P "__annotations__" 170 (.ref 6),ge P "__builtins__" 171 (.ref 4),ge P "__file__" 173 (.str "/claim/cut.py" 172),ge P "__cached__" 174 .none,ge P "GyreError" 206 (.ref 24),ge P "NoSize" 222 (.ref 37),ge P "is_whole" 231 (.ref 46),ge P "is_size_to" 239 (.ref 53),ge P "need_size_to" 247 (.ref 60),ge P "column_of" 255 (.ref 65),ge P "GREATEST_WALKED" 259 (.int 5 258),ge P "longer_rows" 270 (.ref 72),ge P "rows_below" 276 (.ref 77),ge P "longer_tables" 282 (.ref 82),ge P "states" 291 (.ref 89),ge P "GREATEST_STEPPED" 295 (.int 7 294),ge P "GREATEST_PRODUCT" 297 (.int 30 296),ge P "tops_by_walking" 303 (.ref 94),ge P "longer_lists" 315 (.ref 101),ge P "lists_behind" 327 (.ref 108),ge P "stepped" 333 (.ref 113),ge P "tops_by_steps" 339 (.ref 118),ge P "product_above" 349 (.ref 125),ge P "factorial" 356 (.ref 132),ge P "fraction_to" 367 (.ref 139),ge P "by_product" 375 (.ref 146),ge P "top_by_product" 386 (.ref 153),ge P "tops_by_product" 392 (.ref 158),ge P "_law_cell_at" 402 (.ref 165),ge P "_law_whole" 409 (.ref 172),ge P "_law_small_by" 416 (.ref 179),ge P "_law_alternating" 428 (.ref 186),ge P "_law_power" 437 (.ref 193),ge P "_law_walked" 443 (.ref 198),ge P "_law_factorial" 452 (.ref 205),ge P "_law_behind" 458 (.ref 210),ge P "_law_list" 464 (.ref 215),ge P "_law_tops_hold" 478 (.ref 222),ge P "law" 484 (.ref 227)] 44,#[]⟩),(45,cO "is_whole" 225 7 1 3 40 181 41 42 43 44 229 230),(46,fO "is_whole" (top 4) m0 45),(52,cO "is_size_to" 232 9 2 3 47 181 48 49 50 51 237 238),(53,fO "is_size_to" (top 5) m0 52),(59,cO "need_size_to" 240 11 2 3 54 181 55 56 57 58 245 246),(60,fO "need_size_to" (top 6) m0 59),(64,dJ "column_of" 250 15 2 3 61 181 62 63 253 254),(65,fO "column_of" (top 8) m1 64),(71,cO "longer_rows" 260 19 2 3 66 181 67 68 69 70 268 269),(72,fO "longer_rows" (top 11) m2 71),(76,dJ "rows_below" 271 26 1 3 73 181 74 75 274 275),(77,fO "rows_below" (top 12) m2 76),(81,dJ "longer_tables" 277 31 2 3 78 181 79 80 280 281),(82,fO "longer_tables" (top 13) m2 81),(88,cO "states" 283 37 1 3 83 181 84 85 86 87 289 290),(89,fO "states" (top 14) m2 88),(93,dJ "tops_by_walking" 298 46 1 3 90 181 91 92 301 302),(94,fO "tops_by_walking" (top 18) m3 93),(100,cO "longer_lists" 304 49 3 3 95 181 96 97 98 99 313 314),(101,fO "longer_lists" (top 19) m3 100),(107,cO "lists_behind" 316 56 2 3 102 181 103 104 105 106 325 326),(108,fO "lists_behind" (top 20) m3 107),(112,dJ "stepped" 328 62 2 3 109 181 110 111 331 332),(113,fO "stepped" (top 21) m3 112),(117,dJ "tops_by_steps" 334 69 1 3 114 181 115 116 337 338),(118,fO "tops_by_steps" (top 22) m3 117),(124,cO "product_above" 340 77 2 3 119 181 120 121 122 123 347 348),(125,fO "product_above" (top 23) m3 124),(131,cO "factorial" 350 82 1 3 126 181 127 128 129 130 354 355),(132,fO "factorial" (top 24) m3 131),(138,cO "fraction_to" 357 84 2 3 133 181 134 135 136 137 365 366),(139,fO "fraction_to" (top 25) m3 138),(145,cO "by_product" 368 91 1 3 140 181 141 142 143 144 373 374),(146,fO "by_product" (top 26) m3 145),(152,cO "top_by_product" 376 95 3 3 147 181 148 149 150 151 384 385),(153,fO "top_by_product" (top 27) m3 152),(157,dJ "tops_by_product" 387 99 1 3 154 181 155 156 390 391),(158,fO "tops_by_product" (top 28) m3 157),(164,cO "_law_cell_at" 395 104 2 3 159 181 160 161 162 163 400 401),(165,fO "_law_cell_at" (top 30) m4 164),(171,cO "_law_whole" 403 108 1 3 166 181 167 168 169 170 407 408),(172,fO "_law_whole" (top 31) m4 171),(178,cO "_law_small_by" 410 110 1 3 173 181 174 175 176 177 414 415),(179,fO "_law_small_by" (top 32) m4 178),(185,cO "_law_alternating" 417 114 1 3 180 181 181 182 183 184 426 427),(186,fO "_law_alternating" (top 33) m4 185),(192,cO "_law_power" 429 128 1 3 187 181 188 189 190 191 435 436),(193,fO "_law_power" (top 34) m4 192),(197,dJ "_law_walked" 438 133 1 3 194 181 195 196 441 442),(198,fO "_law_walked" (top 35) m4 197),(204,cO "_law_factorial" 444 145 1 3 199 181 200 201 202 203 450 451),(205,fO "_law_factorial" (top 36) m4 204),(209,dJ "_law_behind" 453 150 2 3 206 181 207 208 456 457),(210,fO "_law_behind" (top 37) m4 209),(214,dJ "_law_list" 459 162 2 3 211 181 212 213 462 463),(215,fO "_law_list" (top 38) m4 214),(221,cO "_law_tops_hold" 465 166 2 3 216 181 217 218 219 220 476 477),(222,fO "_law_tops_hold" (top 39) m4 221),(226,dJ "law" 479 180 1 3 223 181 224 225 482 483),(227,fO "law" (top 40) m4 226)]
noncomputable def as:List Addr:=[3,45,46,52,53,59,60,64,65,71,72,76,77,81,82,88,89,93,94,100,101,107,108,112,113,117,118,124,125,131,132,138,139,145,146,152,153,157,158,164,165,171,172,178,179,185,186,192,193,197,198,204,205,209,210,214,215,221,222,226,227]
noncomputable def qv:IQ:={PySem.Challenge.pw_loopgyre_k69_tops_alike with main:={PySem.Challenge.pw_loopgyre_k69_tops_alike.main with body:=[1,2,4,5,6,8,10,11,12,13,14,16,17,18,19,20,21,22,23,24,25,26,27,28,30,31,32,33,34,35,36,37,38,39,40].map top} }
def fH:List Str:=[]
noncomputable def Xt(s:Shared):Bool:=xlAt qv [] s&&recOk (RowW.records PySem.Challenge.rw_loopgyre_k69_tops_alike.row.toRowW) s
theorem hj{α β γ δ:Type}{o:Option Shared}{f:Shared->α×β×γ}{g:α×β×γ}{k:Shared->δ}{d:δ}(a:o.map (λs=>((f s).1,(f s).2.1))=some (g.1,g.2.1))(b:o.map (λs=>(f s).2.2)=some g.2.2)(c:o.map k=some d):o.map (λs=>(f s,k s))=some (g,d):=by
 cases o with
 |none=>cases a
 |some s=>
  simp only[QY,Option.some.injEq,Prod.mk.injEq]at a b c ⊢
  exact⟨Prod.ext a.1 (Prod.ext a.2 b),c⟩
noncomputable def rn(w:IR):Option Shared:=openEnds treeTable PySem.Challenge.pw_loopgyre_k69_tops_alike w 2854
noncomputable def sn(s:Shared):=openSeen qv fH (importedModules PySem.Challenge.pw_loopgyre_k69_tops_alike.main.body) Xt true s
theorem G6(w:IR):(rn w).map (λs=>((sn s).1,(sn s).2.1))=some ((openGood qv fH).1,(openGood qv fH).2.1):=by kernel_rfl
theorem G5(w:IR):(rn w).map (λs=>(sn s).2.2)=some (openGood qv fH).2.2:=by kernel_rfl
theorem G4(w:IR):(rn w).map (X.obsZ as)=some (X.valZ K 228 485 w):=by kernel_rfl
theorem hl:LeftO PySem.Challenge.pw_loopgyre_k69_tops_alike qv fH Xt (X.obsZ as) (X.valZ K 228 485) 2854:=λw=>hj (G6 w) (G5 w) (G4 w)
end R69
namespace L2
open PySem PySem.Spec PyProof.Rows
abbrev dO:=Sum Int Str
noncomputable def oz:dO->Value->Bool
 |.inl k,v=>Value.isInt k v
 |.inr x,v=>Value.isStrOf x v
noncomputable def mP(w:IR):dO->Int
 |.inl k=>hashInt k
 |.inr x=>hashStr w x
def zR:∀{k:dO}{v:Value},oz k v=true->(∃i t,k=Sum.inl i/\v=Value.int i t)\/(∃x t,k=Sum.inr x/\v=Value.str x t)
 |.inl i,v,h=>by
  obtain⟨t,e⟩:=Value.isInt_shape (k:=i) (v:=v) h;exact .inl ⟨i,t,rfl,e⟩
 |.inr x,v,h=>by
  obtain⟨t,e⟩:=Value.isStrOf_shape (x:=x) (v:=v) h;exact .inr ⟨x,t,rfl,e⟩
def BR(a b:Int):decide ((Sum.inl a:dO)=Sum.inl b)=(a==b):=by
 by_cases e:a=b
 .subst e;simp
 .have h:¬(Sum.inl a:dO)=Sum.inl b:=λq=>e (Sum.inl.inj q);rw[Lo h];exact(beq_eq_false_iff_ne.mpr e).symm
def BQ(a b:Str):decide ((Sum.inr a:dO)=Sum.inr b)=decide (a=b):=by
 by_cases e:a=b
 .subst e;simp
 .have h:¬(Sum.inr a:dO)=Sum.inr b:=λq=>e (Sum.inr.inj q);rw[Lo h,Lo e]
def BP(a:Int)(b:Str):decide ((Sum.inl a:dO)=Sum.inr b)=false:=Lo (λq=>nomatch q)
def BO(a:Str)(b:Int):decide ((Sum.inr a:dO)=Sum.inl b)=false:=Lo (λq=>nomatch q)
noncomputable def Il(prog:IQ)(w:IR):PySem.KeyKind prog w dO where
 is:=oz
 hash:=mP w
 inj:=λv a b ha hb=>by
  rcases zR ha with⟨i,t,rfl,rfl⟩|⟨x,t,rfl,rfl⟩
  .rcases zR hb with⟨j,u,rfl,e⟩|⟨y,u,rfl,e⟩
   .injection e with e1 _;rw[e1]
   .exact nomatch e
  .rcases zR hb with⟨j,u,rfl,e⟩|⟨y,u,rfl,e⟩
   .exact nomatch e
   .injection e with e1 _;rw[e1]
 byValue:=λk v h=>by
  rcases zR h with⟨i,t,rfl,rfl⟩|⟨x,t,rfl,rfl⟩<;>rfl
 pyHash:=λhv h=>by
  rcases zR hv with⟨i,t,rfl,rfl⟩|⟨x,t,rfl,rfl⟩
  .exact wpAny_pyHash_int h
  .exact wpAny_pyHash_str h
 eqBool:=λhu hv h=>by
  rcases zR hu with⟨i,t,rfl,rfl⟩|⟨x,t,rfl,rfl⟩
  .rcases zR hv with⟨j,u,rfl,rfl⟩|⟨y,u,rfl,rfl⟩
   .rw[BR]at h;exact wpAny_eqBool_int h
   .rw[BP]at h;exact SeqAt.EqAt.int_str i t y u _ _ _ _ h
  .rcases zR hv with⟨j,u,rfl,rfl⟩|⟨y,u,rfl,rfl⟩
   .rw[BO]at h;exact SeqAt.EqAt.str_int x t j u _ _ _ _ h
   .rw[BQ]at h;exact wpAny_eqBool_str h
 «strs»:=λk x t v h=>by
  rcases zR h with⟨i,u,rfl,e⟩|⟨y,u,rfl,e⟩
  .exact nomatch e
  .injection e with e1 _
   subst e1;cases v<;>rfl
set_option genInjectivity false in
inductive V where
 |non|bl (b:Bool)|int (i:Int)|str (x:Str)|byt (b:Array UInt8)|flt (b:UInt64)|ref (a:Addr)|ty (n:String)
 deriving DecidableEq
def RelV:V->Value->Prop
 |.non,u=>u=Value.none
 |.bl b,u=>u=Value.bool b
 |.int i,u=>∃t,u=Value.int i t
 |.str x,u=>∃t,u=Value.str x t
 |.byt b,u=>∃t,u=Value.bytes b t
 |.flt b,u=>∃t,u=Value.float b t
 |.ref a,u=>u=Value.ref a
 |.ty n,u=>u=Value.type n
abbrev av:List V->List Value->Prop:=Paired RelV
theorem av.length (r:av xs us):xs.length=us.length:=Paired.length r
theorem av.get:∀{xs:List V}{us:List Value}{i:Nat}{x:V},av xs us->xs[i]?=some x->∃u,us[i]?=some u/\RelV x u
 |_,_,_,_,.nil,e=>by simp at e
 |_,_,0,_,.cons r _,e=>by simp at e;subst e;exact⟨_,rfl,r⟩
 |_,_,i+1,x,.cons _ t,e=>by
  obtain⟨u,h1,h2⟩:=av.get (i:=i) (x:=x) t (by simpa using e);exact⟨u,by simpa using h1,h2⟩
theorem av.append:∀{xs ys:List V}{us ws:List Value},av xs us->av ys ws->av (xs++ys) (us++ws)
 |_,_,_,_,.nil,s=>s
 |_,_,_,_,.cons r t,s=>.cons r (av.append t s)
theorem av.take:∀{xs:List V}{us:List Value}(n:Nat),av xs us->av (xs.take n) (us.take n)
 |_,_,0,_=>.nil
 |_,_,_+1,.nil=>.nil
 |_,_,n+1,.cons r t=>.cons r (av.take n t)
theorem av.drop:∀{xs:List V}{us:List Value}(n:Nat),av xs us->av (xs.drop n) (us.drop n)
 |_,_,0,r=>r
 |_,_,_+1,.nil=>.nil
 |_,_,n+1,.cons _ t=>av.drop n t
noncomputable def kV:dO->V
 |.inl i=>.int i
 |.inr x=>.str x
set_option genInjectivity false in
inductive HO where
 |lst (xs:List V)
 |tup (xs:List V)
 |own (x:Addr)
 |frz (o:Obj) (u:HO)
 |tbl (ps:Array Value)
 |ext (φ:IS->Prop)
abbrev Hp:=Addr->Option HO
noncomputable def aH(H:Hp)(a:Addr)(o:HO):Hp:=λb=>if b=a then some o else H b
def ze:aH H a o a=some o:=by unfold aH;rw[Lp rfl]
def zd (h:b≠a):aH H a o b=H b:=by unfold aH;rw[Lq h]
def zo {H:Hp}(h:H a=some o)(h':H b=none):a≠b:=by
 intro e;subst e;rw[h]at h';cases h'
section
variable(P:IQ)(w:IR)
def bE(P:IQ)(w:IR)(H:Hp)(h:IS)(a:Addr):HO->Prop
 |.lst xs=>xs.length<=sizeLine/\∃(its:List Value) (n:Nat),av xs its/\h.get? a=some {cls:=.type "list",data:=.seq its.toArray n}
 |.tup xs=>xs.length<=sizeLine/\∃its:List Value,av xs its/\IsTup h a its.toArray
 |.own _=>∃o,h.get? a=some o
 |.frz o u=>h.get? a=some o/\bE P w H h a u
 |.tbl ps=>h.get? a=some {cls:=.none,data:=.fields ps}
 |.ext φ=>φ h/\(∃o,h.get? a=some o)/\∀h1 h2:IS,φ h1->(∀o,h1.get? a=some o->h2.get? a=some o)->φ h2
def cD(H:Hp)(h:IS):Prop:=∀a o,H a=some o->bE P w H h a o
end
section
variable{P:IQ}{w:IR}{H H':Hp}{h h':IS}{a:Addr}{o:HO}
theorem bE.lt(x:bE P w H h a o):a<h.objs.size:=by
 cases o with
 |lst xs=>obtain⟨_,_,_,_,e⟩:=x;exact Qi e
 |tup xs=>obtain⟨_,_,_,p⟩:=x;exact p.lt
 |own y=>obtain⟨_,e⟩:=x;exact Qi e
 |frz ob u=>obtain⟨e,_⟩:=x;exact Qi e
 |tbl ps=>exact Qi (show h.get? a=some _ from x)
 |ext φ=>obtain⟨_,⟨_,e⟩,_⟩:=x;exact Qi e
def bE.stay(x:bE P w H h a o)(k:∀b u,(b=a\/H b=some (.own a))->h.get? b=some u->h'.get? b=some u)
  (ho:∀b,H b=some (.own a)->H' b=some (.own a)) (ht:∀b xs,H b=some (.tup xs)->H' b=some (.tup xs)):bE P w H' h' a o:=by
 induction o with
 |lst xs=>obtain⟨z,its,n,r,e⟩:=x;exact⟨z,its,n,r,k _ _ (.inl rfl) e⟩
 |tup xs=>obtain⟨z,its,r,ob,e,c⟩:=x;exact⟨z,its,r,ob,k _ _ (.inl rfl) e,c⟩
 |own y=>obtain⟨ob,e⟩:=x;exact⟨ob,k _ _ (.inl rfl) e⟩
 |frz ob u ih=>obtain⟨e,q⟩:=x;exact⟨k _ _ (.inl rfl) e,ih q⟩
 |tbl ps=>
  have e:h.get? a=some {cls:=.none,data:=.fields ps}:=x;show h'.get? a=some {cls:=.none,data:=.fields ps};exact k a _ (.inl rfl) e
 |ext φ=>obtain⟨p,⟨o,e⟩,st⟩:=x;exact⟨st _ _ p λo q=>k _ _ (.inl rfl) q,⟨o,k _ _ (.inl rfl) e⟩,st⟩
theorem cD.lt(x:cD P w H h)(e:H a=some o):a<h.objs.size:=(x a o e).lt
def cD.fresh(x:cD P w H h)(e:h.objs.size<=a):H a=none:=by
 cases q:H a with
 |none=>rfl
 |some u=>exact Lr (Ql (x.lt q) e) (Q4 _)
def cD.kept(x:cD P w H h)(k:∀b u,h.get? b=some u->h'.get? b=some u):cD P w H h':=λa o e=>
 (x a o e).stay (λb u _ q=>k b u q) (λ_ q=>q) λ_ _ q=>q
def cD.laid(x:cD P w H h)(k:∀b u,h.get? b=some u->h'.get? b=some u)(hp:h.objs.size<=a)(new:bE P w (aH H a o) h' a o):cD P w (aH H a o) h':=λb u e=>by
 have hn:=x.fresh hp;by_cases hb:b=a
 .subst hb;rw[ze]at e;cases e;exact new
 .rw[zd hb]at e;exact(x b u e).stay (λc v _ q=>k c v q) (λc q=>by rw[zd (zo q hn)];exact q) λc xs q=>by rw[zd (zo q hn)];exact q
end
def Rd(H:Hp)(a:Addr)(u:HO):Prop:=H a=some u\/∃o,H a=some (.frz o u)
def Rd.ok (r:Rd H a u)(x:cD P w H h):bE P w H h a u:=by
 rcases r with r|⟨o,r⟩
 .exact x a u r
 .obtain ⟨_,q⟩:=x a _ r;exact q
def i5:Option HO->Prop
 |some (.lst _)=>True
 |some (.ext _)=>True
 |_=>False
section
variable{P:IQ}{w:IR}{H:Hp}{h h':IS}{x e:Addr}{o':HO}
def cD.write(ok:cD P w H h)(mu:i5 (H x))(he:e=x\/H e=some (.own x))(k:∀b u,b≠e->h.get? b=some u->h'.get? b=some u)(heo:∃u,h'.get? e=some u)
  (new:bE P w (aH H x o') h' x o'):cD P w (aH H x o') h':=λb u q=>by
 have nown:∀c y,H c=some (.own y)->c≠x:=λc y r z=>by subst z;rw[r]at mu;exact mu
 have ntup:∀c xs,H c=some (.tup xs)->c≠x:=λc xs r z=>by subst z;rw[r]at mu;exact mu
 by_cases hb:b=x
 .subst hb;rw[ze]at q;cases q;exact new
 .rw[zd hb]at q;by_cases hbe:b=e
  .have q':H b=some (.own x):=by
    rcases he with z|z
    .exact Lr (hbe.trans z) hb
    .rw[hbe];exact z
   rw[q]at q';cases q';obtain⟨v,hv⟩:=heo;exact⟨v,by rw[hbe];exact hv⟩
  .refine (ok b u q).stay (λc v hc r=>k c v ?_ r) (λc r=>by rw[zd (nown c b r)];exact r) λc xs r=>by rw[zd (ntup c xs r)];exact r
   rcases hc with rfl|hc
   .exact hbe
   .rintro rfl;rcases he with z|z
    .exact nown c b hc z
    .rw[hc]at z;cases z;exact hb rfl
end
structure Un(fs ex:List Addr)(H H':Hp)(h h':IS):Prop where
 keep:∀b o,h.get? b=some o->H b=none->b∉fs->b∉ex->h'.get? b=some o
 slot:∀b o,h.get? b=some o->H b=none->b∈fs->b∉ex->∃sl,h'.get? b=some {o with slots:=sl}
 free:∀b o,h.get? b=some o->H b=none->b∉ex->H' b=none
 there:∀b o,h.get? b=some o->b∉ex->∃o',h'.get? b=some o'
 tups:∀b xs,H b=some (.tup xs)->H' b=some (.tup xs)
 frzs:∀b o u,H b=some (.frz o u)->H' b=some (.frz o u)
 tbls:∀b ps,H b=some (.tbl ps)->∃more,H' b=some (.tbl (ps++more))
section
variable{fs ex:List Addr}{H H1:Hp}{h h1 h':IS}{a x e:Addr}{o:HO}
def Un.any (u:Un fs ex H H1 h h1)(q:h.get? b=some ob)(n:H b=none)(hx:b∉ex):∃sl,h1.get? b=some {ob with slots:=sl}:=by
 by_cases hb:b∈fs
 .exact u.slot b ob q n hb hx
 .exact ⟨ob.slots,u.keep b ob q n hb hx⟩
def Un.kept(k:∀b u,h.get? b=some u->h'.get? b=some u):Un fs ex H H h h':=
 ⟨λb ob q _ _ _=>k b ob q,λb ob q _ _ _=>⟨ob.slots,k b ob q⟩,λ_ _ _ n _=>n,λb ob q _=>⟨ob,k b ob q⟩,λ_ _ q=>q,λ_ _ _ q=>q,λ_ ps q=>⟨#[],by rw[q];simp⟩⟩
def Un.refl:Un fs ex H H h h:=Un.kept λ_ _ q=>q
def Un.laid(k:∀b u,h.get? b=some u->h'.get? b=some u)(hp:h.objs.size<=a)(hn:H a=none):Un fs ex H (aH H a o) h h' where
 keep:=λb u q _ _ _=>k b u q
 slot:=λb u q _ _ _=>⟨u.slots,k b u q⟩
 free:=λb u q n _=>by rw[zd (QI (Ql (Qi q) hp))];exact n
 there:=λb u q _=>⟨u,k b u q⟩
 tups:=λb xs q=>by rw[zd (zo q hn)];exact q
 frzs:=λb u xs q=>by rw[zd (zo q hn)];exact q
 tbls:=λb ps q=>⟨#[],by rw[zd (zo q hn),q];simp⟩
def Un.write(mu:i5 (H x))(he:e=x\/H e=some (.own x))(k:∀b u,b≠e->h.get? b=some u->h'.get? b=some u)(heo:∃u,h'.get? e=some u):Un fs ex H (aH H x o) h h':=by
 have hx:∀b,H b=none->b≠x:=λb n z=>by subst z;rw[n]at mu;exact mu
 have hb:∀b,H b=none->b≠e:=λb n z=>by
  subst z;rcases he with r|r
  .exact hx b n r
  .rw[n]at r;cases r
 have hm:∀b u,H b=some u->¬i5 (some u)->b≠x:=λb u q nm z=>by subst z;rw[q]at mu;exact nm mu
 refine⟨λb u q n _ _=>k b u (hb b n) q,λb u q n _ _=>⟨u.slots,k b u (hb b n) q⟩,λb u q n _=>by rw[zd (hx b n)];exact n,λb u q _=>?_,
  λb xs q=>by rw[zd (hm b _ q λz=>z)];exact q,λb u xs q=>by rw[zd (hm b _ q λz=>z)];exact q,λb ps q=>⟨#[],by rw[zd (hm b _ q λz=>z),q];simp⟩⟩
 by_cases hbe:b=e
 .subst hbe;exact heo
 .exact ⟨u,k b u hbe q⟩
end
noncomputable def iO(h:IS)(H:Hp):List Addr:=(QL h.objs.size).filter λa=>(H a).isSome
def gy(h:IS)(H:Hp):IS:=PySem.W.hideAll h (iO h H)
def Fu(h:IS)(H:Hp):(gy h H).objs.size=h.objs.size:=PySem.W.hideAll_size _ _
def EX (e:h.get? b=some o)(n:H b=none):(gy h H).get? b=some o:=
 PySem.W.hideAll_get _ e λhm=>by
  have q:(H b).isSome=true:=(List.mem_filter.mp hm).2;rw[n]at q;simp at q
def Dx (e:(gy h H).get? b=some o):h.get? b=some o/\H b=none:=by
 have e':h.get? b=some o:=PySem.W.of_hideAll (iO h H) e;refine⟨e',?_⟩;cases q:H b with
 |none=>rfl
 |some x=>
  have hm:b∈iO h H:=List.mem_filter.mpr ⟨WC.mpr (Qi e'),by simp[q]⟩;have z:(gy h H).get? b=none:=PySem.W.hideAll_none (iO h H) hm;rw[z]at e;cases e
structure Mod(K:Qb)(mg:Str->Option Value)(base:IS):Prop where
 kin:K.In base
 glob:base.Ns IT mg
 blt:∃mb,base.Ns builtinsNs mb/\∀x:Str,x ≠ "__name__" -> mb x=IU x
 nolimit:base.NoLimit
set_option genInjectivity false in
structure Cx where
 prog:IQ
 w:IR
 K:Qb
 mg:Str->Option Value
 base:IS
 A:IV
 N:List Str
 s₀:Shared
 H₀:Hp
 env:Env
 outer:List Env
 stack:List Env
 ex:List Addr
 fn:Str->Bool
 calm:Bool
 pn:List (Addr×Obj)
 xe:Value->Shared->Prop
def dL(l:List Env):List Addr:=l.filterMap (·.frame)
abbrev Cx.fs(X:Cx):List Addr:=dL X.outer
def fI(sc:IN)(x:Str):Prop:=sc.names.lookup x=some .local\/sc.names.lookup x=some .cell\/sc.names.lookup x=some .free
def Loc(sc:IN)(x:Str):Prop:=sc.names.lookup x=some .local\/sc.names.lookup x=some .cell
def Look(env:Env)(h:IS)(m:Str->Option Value)(x:Str)(u:Value):Prop:=
 (env.kindOf x=some .local/\m x=some u)\/((env.kindOf x=some .cell\/env.kindOf x=some .free)/\∃c,env.cells.lookup x=some c/\h.IsCell c (some u))
structure Cx.Ok(X:Cx):Prop where
 mod:Mod X.K X.mg X.base
 kind:X.env.scope.kind=.function
 glob:X.env.globals=IT
 blt:X.env.builtins=builtinsNs
 above:X.s₀.heap.objs.size<=X.env.locals
 inj:∀x y c,X.env.cells.lookup x=some c->X.env.cells.lookup y=some c->x=y
 has:∀x,(X.env.kindOf x=some .cell\/X.env.kindOf x=some .free)->∃c,X.env.cells.lookup x=some c
 cab:∀x c,X.fn x=true->X.env.cells.lookup x=some c->X.s₀.heap.objs.size<=c
 hd:X.calm=true->X.A.handled=none
 frames:X.A.frames=some X.stack
 stk:X.stack=X.outer\/(X.stack=X.env::X.outer/\X.env.frame=some X.env.locals)
 exf:∀b∈X.ex,b≠X.env.locals/\∀x c,X.env.cells.lookup x=some c->c≠b
 bs:∀b o,X.base.get? b=some o->X.s₀.heap.get? b=some o/\X.H₀ b=none
 bsz:X.base.objs.size<=X.s₀.heap.objs.size
 noex:∀b o,X.base.get? b=some o->b∉X.ex
 exfs:∀b∈X.ex,b∉X.fs
 funs:X.s₀.heap.FunFrames X.base X.outer
 frf:∀b∈X.fs,X.H₀ b=none
structure Inv(X:Cx)(pins:List (Addr×Obj))(σ:List (Option V))(H:Hp)(s:Shared):Prop where
 ok:X.Ok
 os:s.os=X.s₀.os
 bare:IW s.gens
 base:Un X.fs X.ex X.H₀ H X.s₀.heap s.heap
 loc:∃m,s.heap.Ns X.env.locals m/\∀(i:Nat) (x:Str) (v:V),X.N[i]?=some x->σ[i]?=some (some v)->fI X.env.scope x->∃u,RelV v u/\Look X.env s.heap m x u
 cell:∀x c,X.env.cells.lookup x=some c->∃v,s.heap.IsCell c v
 free:H X.env.locals=none
 freeC:∀x c,X.env.cells.lookup x=some c->H c=none
 pin:∀p∈X.pn++pins,s.heap.get? p.1=some p.2/\H p.1=none/\p.1≠X.env.locals/\p.1∉X.fs/\∀v,p.2.data≠.cell v
 hok:cD X.prog X.w H s.heap
 len:σ.length=X.N.length
section
variable{X:Cx}{pins:List (Addr×Obj)}{σ:List (Option V)}{H H':Hp}{s:Shared}{h':IS}
def Cx.Ok.nofr (ok:X.Ok)(e:X.base.get? b=some o):b∉X.fs:=λhb=>by
 have:=(ok.funs.mem hb).1;rw[e]at this;cases this
theorem Inv.bs(I:Inv X pins σ H s):∀b o,X.base.get? b=some o->s.heap.get? b=some o/\H b=none:=λb o e=>
 ⟨I.base.keep b o (I.ok.bs b o e).1 (I.ok.bs b o e).2 (I.ok.nofr e) (I.ok.noex b o e),I.base.free b o (I.ok.bs b o e).1 (I.ok.bs b o e).2 (I.ok.noex b o e)⟩
def Inv.bk(I:Inv X pins σ H s):∀b o,X.base.get? b=some o->s.heap.get? b=some o:=λb o e=>(I.bs b o e).1
theorem Inv.mod(I:Inv X pins σ H s):Mod X.K X.mg X.base:=I.ok.mod
def Inv.kIn(I:Inv X pins σ H s):X.K.In s.heap:=I.ok.mod.kin.keeps I.bk
theorem Inv.lt(I:Inv X pins σ H s):X.env.locals<s.heap.objs.size:=let⟨_,hn,_⟩:=I.loc;hn.lt
def Inv.sz(I:Inv X pins σ H s):X.s₀.heap.objs.size<=s.heap.objs.size:=Qu I.ok.above (Vt I.lt)
def Inv.nofs (I:Inv X pins σ H s)(h:s.heap.objs.size<=a):a∉X.fs:=λhb=>by
 obtain⟨_,o,ho,_⟩:=I.ok.funs.mem hb;exact Lr (Ql (Qi ho) (Qu I.sz h)) (Q4 _)
def Inv.cne(I:Inv X pins σ H s):∀x c,X.env.cells.lookup x=some c->c≠X.env.locals:=λx c e z=>by
 obtain⟨v,o,ho,hd⟩:=I.cell x c e;obtain⟨m,⟨o',es,ep,ho',hd',_⟩,_⟩:=I.loc;rw[z,ho']at ho;cases ho;rw[hd']at hd;cases hd
theorem Inv.funs(I:Inv X pins σ H s):s.heap.FunFrames X.base X.outer:=by
 have all:∀(l:List Env),(∀b∈dL l,b∈X.fs)->X.s₀.heap.FunFrames X.base l->s.heap.FunFrames X.base l:=by
  intro l
  induction l with
  |nil=>intro _ _;trivial
  |cons env r ih=>
   intro hs hl;obtain⟨hk,⟨L,o,hf,hn,ho,hd⟩,hr⟩:=hl;have hL:L∈X.fs:=hs L (by unfold dL;rw[Va,hf];exact QX);obtain⟨sl,e⟩:=I.base.slot L o ho (I.ok.frf L hL) hL λz=>I.ok.exfs L z hL;exact⟨hk,⟨L,_,hf,hn,e,hd⟩,ih (λb hb=>hs b (by unfold dL;rw[Va,hf];exact Qk _ hb)) hr⟩
 exact all X.outer (λ_ hb=>hb) I.ok.funs
theorem Inv.stack(I:Inv X pins σ H s):s.heap.FunFrames X.base X.stack:=by
 rcases I.ok.stk with e|⟨e,hf⟩
 .rw[e];exact I.funs
 .rw[e];obtain⟨m,hn,_⟩:=I.loc;refine .cons (by rw[I.ok.kind];decide) hf hn ?_ I.funs;exact Heap.get?_none_of_le (Qu I.ok.bsz I.ok.above)
def Inv.stkSub(I:Inv X pins σ H s):∀b∈dL X.stack,b∈X.env.locals::X.fs:=λb hb=>by
 rcases I.ok.stk with e|⟨e,hf⟩
 .rw[e]at hb;exact Qk _ hb
 .rw[e]at hb;unfold dL at hb;rw[Va,hf]at hb;exact hb
def Inv.stkFree(I:Inv X pins σ H s):∀b∈dL X.stack,H b=none:=λb hb=>by
 rcases Qo.mp (I.stkSub b hb)with e|hb
 .rw[e];exact I.free
 .obtain ⟨_,o,ho,_⟩:=I.ok.funs.mem hb;exact I.base.free b o ho (I.ok.frf b hb) λz=>I.ok.exfs b z hb
def Inv.step{g':Array GenState}{t':Nat}{d':Drawn}{ch:List Addr}(I:Inv X pins σ H s)
  (hch:∀b∈ch,(b∈X.ex\/X.s₀.heap.objs.size<=b)/\b≠X.env.locals/\(∀x c,X.env.cells.lookup x=some c->c≠b)/\∀p∈X.pn++pins,p.1≠b)
  (keep:∀b o,b≠X.env.locals->b∉X.fs->b∉ch->s.heap.get? b=some o->H b=none->h'.get? b=some o)
  (slot:∀b o,b≠X.env.locals->b∈X.fs->b∉ch->s.heap.get? b=some o->H b=none->∃sl,h'.get? b=some {o with slots:=sl}) (free:∀b o,b∉ch->s.heap.get? b=some o->H b=none->H' b=none)
  (there:∀b o,b∉ch->s.heap.get? b=some o->∃o',h'.get? b=some o')
  (tups:∀b xs,H b=some (.tup xs)->H' b=some (.tup xs)) (frzs:∀b o u,H b=some (.frz o u)->H' b=some (.frz o u)) (tbls:∀b ps,H b=some (.tbl ps)->∃more,H' b=some (.tbl (ps++more)))
  (ns:∀m,s.heap.Ns X.env.locals m->h'.Ns X.env.locals m) (hok:cD X.prog X.w H' h') (hg:IW g') :
  Inv X pins σ H' {s with heap:=h',gens:=g',drawn:=d',toks:=t' }:=by
 have neL:∀b o,X.s₀.heap.get? b=some o->b≠X.env.locals:=λb o e=>QI (Ql (Qi e) I.ok.above);have neC:∀b o,X.s₀.heap.get? b=some o->b∉X.ex->b∉ch:=λb o e hx hb=>by
  rcases(hch b hb).1 with z|z
  .exact hx z
  .exact Lr (Ql (Qi e) z) (Q4 _)
 have cellK:∀x c,X.env.cells.lookup x=some c->∀v,s.heap.IsCell c v->h'.IsCell c v:=λx c e v ⟨o,ho,hd⟩=>by
  have nch:c∉ch:=λz=>(hch c z).2.2.1 x c e rfl;by_cases hc:c∈X.fs
  .obtain ⟨sl,q⟩:=slot c o (I.cne x c e) hc nch ho (I.freeC x c e);exact⟨_,q,hd⟩
  .exact ⟨o,keep c o (I.cne x c e) hc nch ho (I.freeC x c e),hd⟩
 refine⟨I.ok,I.os,hg,⟨λb o e n hb hx=>?_,λb o e n hb hx=>?_,λb o e n hx=>?_,λb o e hx=>?_,λb xs e=>tups b xs (I.base.tups b xs e),λb o xs e=>frzs b o xs (I.base.frzs b o xs e),λb ps e=>?_⟩,?_,λx c e=>?_,?_,λx c e=>?_,λp hp=>?_,hok,I.len⟩
 .exact keep b o (neL b o e) hb (neC b o e hx) (I.base.keep b o e n hb hx) (I.base.free b o e n hx)
 .obtain ⟨sl,e1⟩:=I.base.slot b o e n hb hx;obtain⟨sl',e2⟩:=slot b _ (neL b o e) hb (neC b o e hx) e1 (I.base.free b o e n hx);exact⟨sl',e2⟩
 .obtain ⟨o',e1⟩:=I.base.there b o e hx;exact free b o' (neC b o e hx) e1 (I.base.free b o e n hx)
 .obtain ⟨o',e1⟩:=I.base.there b o e hx;exact there b o' (neC b o e hx) e1
 .obtain ⟨m1,e1⟩:=I.base.tbls b ps e;obtain⟨m2,e2⟩:=tbls b _ e1;exact⟨m1++m2,by rw[e2,Array.append_assoc]⟩
 .obtain ⟨m,hn,hl⟩:=I.loc;refine⟨m,ns m hn,λi x v e1 e2 e3=>?_⟩;obtain⟨u,r,l⟩:=hl i x v e1 e2 e3;refine⟨u,r,?_⟩;rcases l with l|⟨k,c,e,z⟩
  .exact .inl l
  .exact .inr ⟨k,c,e,cellK x c e _ z⟩
 .obtain ⟨v,z⟩:=I.cell x c e;exact⟨v,cellK x c e v z⟩
 .obtain ⟨m,⟨o,_,_,ho,_⟩,_⟩:=I.loc;exact free _ o (λz=>(hch _ z).2.1 rfl) ho I.free
 .obtain ⟨v,o,ho,hd⟩:=I.cell x c e;exact free c o (λz=>(hch c z).2.2.1 x c e rfl) ho (I.freeC x c e)
 .obtain ⟨e,n,ne,nf,d⟩:=I.pin p hp;have nch:p.1∉ch:=λz=>(hch p.1 z).2.2.2 p hp rfl;exact⟨keep p.1 p.2 ne nf nch e n,free p.1 p.2 nch e n,ne,nf,d⟩
def Inv.un{t':Nat}(I:Inv X pins σ H s)(u:Un X.fs [] H H' s.heap h')(hok:cD X.prog X.w H' h'):Inv X pins σ H' {s with heap:=h',toks:=t' }:=by
 obtain⟨m,⟨o,es,ep,ho,r⟩,_⟩:=id I.loc;obtain⟨sl,hL⟩:=u.any ho I.free (by simp);exact I.step (g':=s.gens) (d':=s.drawn) (ch:=[]) (λ_ z=>nomatch z) (λb o _ hb _ e n=>u.keep b o e n hb (by simp)) (λb o _ hb _ e n=>u.slot b o e n hb (by simp)) (λb o _ e n=>u.free b o e n (by simp)) (λb o _ e=>u.there b o e (by simp)) u.tups u.frzs u.tbls (λm' hm=>by
  obtain⟨o',es',ep',ho',r'⟩:=hm;rw[ho]at ho';cases ho';exact⟨_,es',ep',hL,r'⟩) hok I.bare
def Inv.call{g':Array GenState}{t':Nat}{d':Drawn}{ch:List Addr}(I:Inv X pins σ H s)(u:Un (dL X.stack) ch H H' s.heap h')(hok:cD X.prog X.w H' h')(hg:IW g')
  (hch:∀b∈ch,(b∈X.ex\/X.s₀.heap.objs.size<=b)/\b≠X.env.locals/\(∀x c,X.env.cells.lookup x=some c->c≠b)/\∀p∈X.pn++pins,p.1≠b) :
  Inv X pins σ H' {s with heap:=h',gens:=g',drawn:=d',toks:=t' }:=by
 obtain⟨m,⟨o,es,ep,ho,r⟩,_⟩:=id I.loc;obtain⟨sl,hL⟩:=u.any ho I.free λz=>(hch _ z).2.1 rfl;exact I.step (ch:=ch) hch (λb o hL hb hc e n=>u.keep b o e n (λz=>(Qo.mp (I.stkSub b z)).elim hL hb) hc) (λb o _ _ hc e n=>u.any e n hc) (λb o hc e n=>u.free b o e n hc) (λb o hc e=>u.there b o e hc) u.tups u.frzs u.tbls (λm' hm=>by
  obtain⟨o',es',ep',ho',r'⟩:=hm;rw[ho]at ho';cases ho';exact⟨_,es',ep',hL,r'⟩) hok hg
def Inv.turned{t':Nat}{it:Addr}(I:Inv X pins σ H s)(k:∀b o,b≠it->s.heap.get? b=some o->h'.get? b=some o)(hn:H it=none)(hL:it≠X.env.locals)
  (h1:it∈X.ex\/X.s₀.heap.objs.size<=it) (h2:∀x c,X.env.cells.lookup x=some c->c≠it) (h3:∀p∈X.pn++pins,p.1≠it):Inv X pins σ H {s with heap:=h',toks:=t' }:=by
 have nit:∀b u,H b=some u->b≠it:=λb u e z=>by rw[z,hn]at e;cases e
 refine I.step (g':=s.gens) (d':=s.drawn) (ch:=[it]) (λb hb=>?_) (λb o _ _ hc e _=>k b o (λz=>hc (by simp[z])) e) (λb o _ _ hc e _=>⟨o.slots,k b o (λz=>hc (by simp[z])) e⟩) (λ_ _ _ _ n=>n)
  (λb o hc e=>⟨o,k b o (λz=>hc (by simp[z])) e⟩) (λ_ _ e=>e) (λ_ _ _ e=>e) (λb ps e=>⟨#[],by rw[e];simp⟩) (λm hm=>?_) (λb u e=>?_) I.bare
 .have e:b=it:=by simpa using hb
  subst e;exact⟨h1,hL,h2,h3⟩
 .obtain ⟨o,es,ep,ho,r⟩:=hm;exact⟨o,es,ep,k _ o (Ne.symm hL) ho,r⟩
 .refine (I.hok b u e).stay (λc v hc q=>k c v ?_ q) (λ_ q=>q) λ_ _ q=>q;rcases hc with z|z
  .rw[z];exact nit b u e
  .exact nit c _ z
def Inv.tok(I:Inv X pins σ H s)(t:Nat):Inv X pins σ H {s with toks:=t}:=I.un (h':=s.heap) (t':=t) Un.refl I.hok
theorem Inv.kept{t':Nat}(I:Inv X pins σ H s)(k:∀b u,s.heap.get? b=some u->h'.get? b=some u):Inv X pins σ H {s with heap:=h',toks:=t' }:=I.un (Un.kept k) (I.hok.kept k)
theorem Inv.laid{a:Addr}{o:HO}{t':Nat}(I:Inv X pins σ H s)(k:∀b u,s.heap.get? b=some u->h'.get? b=some u)(hp:s.heap.objs.size<=a)(new:bE X.prog X.w (aH H a o) h' a o):
  Inv X pins σ (aH H a o) {s with heap:=h',toks:=t' }:=I.un (Un.laid k hp (I.hok.fresh hp)) (I.hok.laid k hp new)
theorem Inv.write{x e:Addr}{o:HO}{t':Nat}(I:Inv X pins σ H s)(mu:i5 (H x))(he:e=x\/H e=some (.own x))(k:∀b u,b≠e->s.heap.get? b=some u->h'.get? b=some u)(heo:∃u,h'.get? e=some u)
  (new:bE X.prog X.w (aH H x o) h' x o):Inv X pins σ (aH H x o) {s with heap:=h',toks:=t' }:=I.un (Un.write mu he k heo) (I.hok.write mu he k heo new)
def Inv.pins_of{pins':List (Addr×Obj)}(I:Inv X pins σ H s)(h:∀p∈pins',s.heap.get? p.1=some p.2/\H p.1=none/\p.1≠X.env.locals/\p.1∉X.fs/\∀v,p.2.data≠.cell v):Inv X pins' σ H s:=
 ⟨I.ok,I.os,I.bare,I.base,I.loc,I.cell,I.free,I.freeC,λp hp=>(Qx.mp hp).elim (λz=>I.pin p (Q5 _ z)) (h p),I.hok,I.len⟩
def qE {N:List Str}(hN:N.Nodup){j:Nat}(a:N[i]?=some x)(b:N[j]?=some x):i=j:=by
 obtain⟨h1,e1⟩:=Qa.mp a;obtain⟨h2,e2⟩:=Qa.mp b;exact(W3 hN).mp (e1.trans e2.symm)
def jQ (I:Inv X pins σ H s)(hN:X.N.Nodup)(hi:X.N[i]?=some x)(hx:Loc X.env.scope x)(r:RelV v u)(h:∀s',Inv X pins (σ.set i (some v)) H s'->(∃a,Wa a s.heap s'.heap/\(a=X.env.locals\/X.env.cells.lookup x=some a))->Q () s')(hf:X.fn x=true\/X.env.scope.names.lookup x=some .local:=by first|exact .inl rfl|exact .inr rfl|assumption):IX M A (storeName X.env x u) Q E s:=by
 obtain⟨m,hn,hl⟩:=id I.loc;have hcls:(X.env.scope.kind == .class || (X.env.scope.kind == .module&&X.env.locals != X.env.globals))=false:=by rw[I.ok.kind];rfl
 have hiσ:i<σ.length:=by rw[I.len];exact(Qa.mp hi).1
 have cne:=I.cne;have tracked:∀{a:Addr}{h':IS},(∃o,s.heap.get? a=some o/\H a=none)->Wa a s.heap h'->cD X.prog X.w H h':=λ{a h'} ha hs b ob e=>by
  obtain⟨_,_,hfree⟩:=ha;refine(I.hok b ob e).stay (λc w' hc q=>(hs.2 c ?_).trans q) (λ_ q=>q) λ_ _ q=>q;rintro rfl;rcases hc with rfl|hc
  .rw[hfree]at e;cases e
  .rw[hfree]at hc;cases hc
 rcases hx with hk|hk
 .refine wpAny_storeName_local hk hn (λh' hn' hs=>?_) hcls;obtain⟨oL,_,_,hoL,_⟩:=id hn;refine h _ ⟨I.ok,I.os,I.bare,⟨λb o e n hb hx=>?_,λb o e n hb hx=>?_,I.base.free,λb o e hx=>?_,I.base.tups,I.base.frzs,I.base.tbls⟩,⟨_,hn',λj y v' e1 e2 e3=>?_⟩,λy c e=>?_,I.free,I.freeC,λp hp=>?_,tracked ⟨oL,hoL,I.free⟩ hs,by simpa using I.len⟩ ⟨_,hs,.inl rfl⟩
  .exact (hs.2 b (QI (Ql (Qi e) I.ok.above))).trans (I.base.keep b o e n hb hx)
  .obtain ⟨sl,e1⟩:=I.base.slot b o e n hb hx;exact⟨sl,(hs.2 b (QI (Ql (Qi e) I.ok.above))).trans e1⟩
  .obtain ⟨o',e1⟩:=I.base.there b o e hx;exact⟨o',(hs.2 b (QI (Ql (Qi e) I.ok.above))).trans e1⟩
  .by_cases hj:j=i
   .subst hj;rw[hi]at e1;cases e1;rw[Wj hiσ]at e2;cases e2;exact⟨u,r,.inl ⟨hk,by simp⟩⟩
   .rw[QA (Ne.symm hj)]at e2;obtain⟨u',r',q⟩:=hl j y v' e1 e2 e3;refine⟨u',r',?_⟩;rcases q with⟨k,e⟩|⟨k,c,e,z⟩
    .refine .inl ⟨k,?_⟩;have:y≠x:=λe=>hj (qE hN e1 (e▸hi));simp[this,e]
    .exact .inr ⟨k,c,e,z.sameBut hs (cne y c e)⟩
  .obtain ⟨w',z⟩:=I.cell y c e;exact⟨w',z.sameBut hs (cne y c e)⟩
  .obtain ⟨e,n,ne,nf,d⟩:=I.pin p hp;exact⟨(hs.2 p.1 ne).trans e,n,ne,nf,d⟩
 .have hfn:X.fn x=true:=by
   rcases hf with z|z
   .exact z
   .rw[z]at hk;cases hk
  obtain⟨c,hc⟩:=I.ok.has x (.inl hk);obtain⟨w',z⟩:=I.cell x c hc;refine wpAny_storeName_cell I.ok.kind hk hc z (λh' hc' hs=>?_);obtain⟨oc,hoc,hocd⟩:=id z;refine h {s with heap:=h' } ⟨I.ok,I.os,I.bare,⟨λb o e n hb hx=>?_,λb o e n hb hx=>?_,I.base.free,λb o e hx=>?_,I.base.tups,I.base.frzs,I.base.tbls⟩,⟨m,hn.sameBut hs (Ne.symm (cne x c hc)),λj y v' e1 e2 e3=>?_⟩,λy c' e=>?_,I.free,I.freeC,λp hp=>?_,tracked ⟨oc,hoc,I.freeC x c hc⟩ hs,by simpa using I.len⟩ ⟨c,hs,.inr hc⟩
  .exact (hs.2 b (QI (Ql (Qi e) (I.ok.cab x c hfn hc)))).trans (I.base.keep b o e n hb hx)
  .obtain ⟨sl,e1⟩:=I.base.slot b o e n hb hx;exact⟨sl,(hs.2 b (QI (Ql (Qi e) (I.ok.cab x c hfn hc)))).trans e1⟩
  .obtain ⟨o',e1⟩:=I.base.there b o e hx;exact⟨o',(hs.2 b (QI (Ql (Qi e) (I.ok.cab x c hfn hc)))).trans e1⟩
  .by_cases hj:j=i
   .subst hj;rw[hi]at e1;cases e1;rw[Wj hiσ]at e2;cases e2;exact⟨u,r,.inr ⟨.inl hk,c,hc,hc'⟩⟩
   .rw[QA (Ne.symm hj)]at e2;obtain⟨u',r',q⟩:=hl j y v' e1 e2 e3;refine⟨u',r',?_⟩;rcases q with q|⟨k,c',e,z'⟩
    .exact .inl q
    .refine .inr ⟨k,c',e,z'.sameBut hs ?_⟩;rintro rfl;exact hj (qE hN e1 (I.ok.inj _ _ _ e hc▸hi))
  .by_cases hcc:c'=c
   .subst hcc;exact⟨_,hc'⟩
   .obtain ⟨w2,z2⟩:=I.cell y c' e;exact⟨w2,z2.sameBut hs hcc⟩
  .obtain ⟨e,n,ne,nf,d⟩:=I.pin p hp;refine⟨(hs.2 p.1 ?_).trans e,n,ne,nf,d⟩;intro q;rw[q,hoc]at e;have q':oc=p.2:=Option.some.inj e;exact d w' (by rw[<-q'];exact hocd)
def kH (I:Inv X pins σ H s)(hN:X.N.Nodup)(hi:X.N[i]?=some x)(hx:Loc X.env.scope x)(r:RelV v u)(h:∀s',Inv X pins (σ.set i (some v)) H s'->Q () s')(hf:X.fn x=true\/X.env.scope.names.lookup x=some .local:=by first|exact .inl rfl|exact .inr rfl|assumption):IX M A (storeName X.env x u) Q E s:=
 jQ I hN hi hx r (λs' I' _=>h s' I') hf
def Inv.call'{s':Shared}{ch:List Addr}(I:Inv X pins σ H s)(ho:s'.os=s.os)(u:Un (dL X.stack) ch H H' s.heap s'.heap)(hok:cD X.prog X.w H' s'.heap)(hg:IW s'.gens)
  (hch:∀b∈ch,(b∈X.ex\/X.s₀.heap.objs.size<=b)/\b≠X.env.locals/\(∀x c,X.env.cells.lookup x=some c->c≠b)/\∀p∈X.pn++pins,p.1≠b):Inv X pins σ H' s':=by
 obtain⟨h',g',d',t',o'⟩:=s';have e:o'=s.os:=ho;subst e;exact I.call (g':=g') (t':=t') (d':=d') u hok hg hch
end
abbrev XK:=Value->Option Addr->Hp->Prop
abbrev St:=List (Option V)
abbrev VK:=V->Hp->Prop
abbrev TE:=St->Hp->VK->Prop
abbrev TT:=St->Hp->(Bool->Hp->Prop)->Prop
abbrev TA:=St->Hp->(List V->Hp->Prop)->Prop
set_option genInjectivity false in
structure ci where
 nx:St->Hp->Prop
 rt:VK
 bk:St->Hp->Prop:=λ_ _=>False
 ct:St->Hp->Prop:=λ_ _=>False
abbrev TS:=ci->St->Hp->Prop
def EP(X:Cx)(pins:List (Addr×Obj))(σ:St)(Q:VK)(u:Value)(s':Shared):Prop:=∃v H',Inv X pins σ H' s'/\RelV v u/\Q v H'
def TP(X:Cx)(pins:List (Addr×Obj))(σ:St)(Q:Bool->Hp->Prop)(b:Bool)(s':Shared):Prop:=∃H',Inv X pins σ H' s'/\Q b H'
def AP(X:Cx)(pins:List (Addr×Obj))(σ:St)(Q:List V->Hp->Prop)(us:List Value)(s':Shared):Prop:=∃vs H',Inv X pins σ H' s'/\av vs us/\Q vs H'
def SP(X:Cx)(pins:List (Addr×Obj))(D:ci)(f:Flow)(s':Shared):Prop:=
 match f with
 |.next=>∃σ' H',Inv X pins σ' H' s'/\D.nx σ' H'
 |.brk=>∃σ' H',Inv X pins σ' H' s'/\D.bk σ' H'
 |.cont=>∃σ' H',Inv X pins σ' H' s'/\D.ct σ' H'
 |.ret u=>∃v σ' H',Inv X pins σ' H' s'/\RelV v u/\D.rt v H'
def PE(X:Cx)(e:Expr)(t:TE):Prop:=
 ∀(pins:List (Addr×Obj)) (s:Shared) (σ:St) (H:Hp) (Q:VK),Inv X pins σ H s->t σ H Q->IX (IY X.prog X.w) X.A (eval e X.env) (EP X pins σ Q) X.xe s
def PT(X:Cx)(e:Expr)(t:TT):Prop:=
 ∀(pins:List (Addr×Obj)) (s:Shared) (σ:St) (H:Hp) (Q:Bool->Hp->Prop),Inv X pins σ H s->t σ H Q->IX (IY X.prog X.w) X.A (isTrue e X.env (eval e X.env)) (TP X pins σ Q) X.xe s
def PW(X:Cx)(e:Expr)(t:TT):Prop:=
 ∀(whole:Sem Value) (pins:List (Addr×Obj)) (s:Shared) (σ:St) (H:Hp) (Q:Bool->Hp->Prop),Inv X pins σ H s->t σ H Q->IX (IY X.prog X.w) X.A (isTrue e X.env whole) (TP X pins σ Q) X.xe s
def PW.pt (h:PW X e t):PT X e t:=h _
def PA(X:Cx)(es:List Expr)(t:TA):Prop:=
 ∀(pos:Pos) (pins:List (Addr×Obj)) (s:Shared) (σ:St) (H:Hp) (Q:List V->Hp->Prop),Inv X pins σ H s->t σ H Q->IX (IY X.prog X.w) X.A (spliced (IZ pos (I0 es X.env))) (AP X pins σ Q) X.xe s
def PS(X:Cx)(st:Stmt)(t:TS):Prop:=
 ∀(pins:List (Addr×Obj)) (s:Shared) (σ:St) (H:Hp) (D:ci),Inv X pins σ H s->t D σ H->IX (IY X.prog X.w) X.A (exec st X.env) (SP X pins D) X.xe s
def cC(X:Cx)(st:List Stmt)(t:TS):Prop:=
 ∀(pins:List (Addr×Obj)) (s:Shared) (σ:St) (H:Hp) (D:ci),Inv X pins σ H s->t D σ H->IX (IY X.prog X.w) X.A (execs st X.env) (SP X pins D) X.xe s
def aW (h:IX M A t Q E s)(hQ:∀a s,Q a s->Q' a s):IX M A t Q' E s:=Ja h hQ λ_ _ x=>x
section
variable{X:Cx}
def lY(i:Nat):TE:=λσ H Q=>∃v,σ[i]?=some (some v)/\Q v H
def tC(v:V):TE:=λ_ H Q=>Q v H
def BN (hN:X.N[i]?=some x)(hv:fI X.env.scope x)(hd:(x==("__debug__":Str))=false:=by decide)(hcd:(x==("__classdict__":Str))=false:=by decide):PE X (.Name x pos) (lY i):=by
 intro pins s σ H Q I h;obtain⟨v,e,h⟩:=h;obtain⟨m,hn,hl⟩:=I.loc;obtain⟨u,r,l⟩:=hl i x v hN e hv;have fin:EP X pins σ Q u s:=⟨v,H,I,r,h⟩;rcases l with⟨hk,hm⟩|⟨hk,c,hc,hcell⟩
 .exact wpAny_Name (Jb I.ok.kind hk hn hm fin) hd
 .rcases hk with hk|hk
  .exact wpAny_Name (Jc I.ok.kind hk hc hcell fin) hd
  .exact wpAny_Name (wpAny_loadName_free I.ok.kind hk hc hcell fin hcd) hd
def BM{i j pos}:PE X (.Constant (.int i) j pos) (tC (.int i)):=λ_ _ _ H _ I h=>wpAny_Constant_int ⟨.int i,H,I.tok _,⟨_,rfl⟩,h⟩
def Ap{b j pos}:PE X (.Constant (.bool b) j pos) (tC (.bl b)):=λ_ _ _ H _ I h=>Constant_bool ⟨.bl b,H,I,rfl,h⟩
def Gl(X:Cx)(x:Str):Prop:=X.env.kindOf x=some .globalImplicit
def rP (I:Inv X pins σ H s)(hg:Gl X x)(hm:X.mg x=some u)(h:Q u s)(hd:(x==("__debug__":Str))=false:=by decide):IX (IY X.prog X.w) X.A (eval (.Name x pos) X.env) Q E s:=
 Calls.Name_function_global I.ok.kind hg (Calls.loadGlobal_global (by rw[I.ok.glob];exact I.mod.glob.keeps I.bk) hm h) hd
def wd (I:Inv X pins σ H s)(hg:Gl X x)(hm:X.mg x=none)(hv:IU x=some u)(h:Q u s)(hn:x ≠ "__name__":=by decide)(hd:(x==("__debug__":Str))=false:=by decide):IX (IY X.prog X.w) X.A (eval (.Name x pos) X.env) Q E s:=by
 obtain⟨mb,h1,h2⟩:=I.mod.blt;exact Calls.Name_function_global I.ok.kind hg (Calls.loadGlobal_builtin (by rw[I.ok.glob];exact I.mod.glob.keeps I.bk) hm (by rw[I.ok.blt];exact h1.keeps I.bk) ((h2 x hn).trans hv) h) hd
def Dw (hg:Gl X x)(hm:X.mg x=some u)(r:RelV v u)(hd:(x==("__debug__":Str))=false:=by decide):PE X (.Name x pos) (tC v):=
 λ_ _ _ H _ I h=>rP I hg hm ⟨v,H,I,r,h⟩ hd
def Dv (hg:Gl X x)(hm:X.mg x=none)(hv:IU x=some u)(r:RelV v u)(hn:x ≠ "__name__":=by decide)(hd:(x==("__debug__":Str))=false:=by decide):PE X (.Name x pos) (tC v):=
 λ_ _ _ H _ I h=>wd I hg hm hv ⟨v,H,I,r,h⟩ hn hd
variable{a b:Expr}{ta tb:TE}{pos:Pos}
def tB(t:TE):TT:=λσ H Q=>t σ H λx H1=>∃c,x=.bl c/\Q c H1
def BL (h:PE X e t)(he:∀whole,isTrue e X.env whole=(do let v <-whole;standAt e.pos;holding [v] (truthy v)):=by intro _;rfl):PT X e (tB t):=by
 intro pins s σ H Q I hw;refine isTrue_plain (aW (h pins s σ H _ I hw) λv s1 ⟨x,H1,I1,r1,q1⟩=>?_) (he _);obtain⟨d,rfl,q⟩:=q1;cases r1;exact Jd ⟨H1,I1,q⟩
variable{tA tB':TT}{rest:List Expr}
def mq(t u:TT):TT:=λσ H Q=>t σ H λc H1=>if c=true then u σ H1 Q else Q false H1
def Gw(t u:TT):TT:=λσ H Q=>t σ H λc H1=>if c=true then Q true H1 else u σ H1 Q
def mi(t:TT):TT:=λσ H Q=>t σ H λc H1=>Q (! c) H1
def Du(ha:PT X a tA):PW X (.BoolOp .And [a] pos) tA:=by
 intro wh pins s σ H Q I h;refine isTrue_and (aW (ha pins s σ H Q I h) λc s1 e=>?_);cases c with
 |true=>exact isTrue_and_nil e
 |false=>exact e
def BK(ha:PT X a tA):PW X (.BoolOp .Or [a] pos) tA:=by
 intro wh pins s σ H Q I h;refine isTrue_or (aW (ha pins s σ H Q I h) λc s1 e=>?_);cases c with
 |false=>exact isTrue_or_nil e
 |true=>exact e
def BJ(ha:PT X a tA)(hb:PW X (.BoolOp .And (b::rest) pos) tB'):PW X (.BoolOp .And (a::b::rest) pos) (mq tA tB'):=by
 intro wh pins s σ H Q I h;refine isTrue_and (aW (ha pins s σ H _ I h) λc s1 ⟨H1,I1,q1⟩=>?_);cases c with
 |true=>exact hb wh pins s1 σ H1 Q I1 q1
 |false=>exact⟨H1,I1,q1⟩
def Ao(ha:PT X a tA)(hb:PW X (.BoolOp .Or (b::rest) pos) tB'):PW X (.BoolOp .Or (a::b::rest) pos) (Gw tA tB'):=by
 intro wh pins s σ H Q I h;refine isTrue_or (aW (ha pins s σ H _ I h) λc s1 ⟨H1,I1,q1⟩=>?_);cases c with
 |true=>exact⟨H1,I1,q1⟩
 |false=>exact hb wh pins s1 σ H1 Q I1 q1
def BI(ha:PT X a tA):PT X (.UnaryOp .Not a pos) (mi tA):=by
 intro pins s σ H Q I h;exact isTrue_not (ha pins s σ H (λc H1=>Q (! c) H1) I h)
def An(ta tb:TE):TE:=λσ H Q=>ta σ H λx H1=>∃c,x=.bl c/\if c=true then tb σ H1 Q else Q (.bl false) H1
def mf(ta tb:TE):TE:=λσ H Q=>ta σ H λx H1=>∃c,x=.bl c/\if c=true then Q (.bl true) H1 else tb σ H1 Q
def Am(ta:TE):TE:=λσ H Q=>ta σ H λx H1=>∃c,x=.bl c/\Q (.bl (! c)) H1
def pB {op}(h:PE X a t):PE X (.BoolOp op [a] pos) t:=λpins s σ H Q I hw=>BoolOp_one (h pins s σ H Q I hw)
def BH(ha:PE X a ta)(hb:PE X (.BoolOp .And (b::rest) pos) tb):PE X (.BoolOp .And (a::b::rest) pos) (An ta tb):=by
 intro pins s σ H Q I h;refine BoolOp_and (aW (ha pins s σ H _ I h) λv s1 ⟨x,H1,I1,r1,q1⟩=>?_);obtain⟨c,rfl,q1⟩:=q1;cases r1;refine Jd ?_;cases c with
 |true=>exact hb pins s1 σ H1 Q I1 q1
 |false=>exact⟨.bl false,H1,I1,rfl,q1⟩
def Al(ha:PE X a ta)(hb:PE X (.BoolOp .Or (b::rest) pos) tb):PE X (.BoolOp .Or (a::b::rest) pos) (mf ta tb):=by
 intro pins s σ H Q I h;refine BoolOp_or (aW (ha pins s σ H _ I h) λv s1 ⟨x,H1,I1,r1,q1⟩=>?_);obtain⟨c,rfl,q1⟩:=q1;cases r1;refine Jd ?_;cases c with
 |false=>exact hb pins s1 σ H1 Q I1 q1
 |true=>exact⟨.bl true,H1,I1,rfl,q1⟩
def BG(ha:PE X a ta):PE X (.UnaryOp .Not a pos) (Am ta):=by
 intro pins s σ H Q I h;refine UnaryOp_ (aW (ha pins s σ H _ I h) λv s1 ⟨x,H1,I1,r1,q1⟩=>?_);obtain⟨c,rfl,q1⟩:=q1;cases r1;exact not_of (Jd ⟨.bl (! c),H1,I1,rfl,q1⟩)
def tD(t:TT)(ta tb:TE):TE:=λσ H Q=>t σ H λc H1=>if c=true then ta σ H1 Q else tb σ H1 Q
def EW (hc:PT X c tA)(ha:PE X a ta)(hb:PE X b tb):PE X (.IfExp c a b pos) (tD tA ta tb):=by
 intro pins s σ H Q I h;refine wpAny_IfExp (aW (hc pins s σ H _ I h) λd s1 ⟨H1,I1,q1⟩=>?_);cases d with
 |true=>exact ha pins s1 σ H1 Q I1 q1
 |false=>exact hb pins s1 σ H1 Q I1 q1
end
def bD(K:Qb)(H:Hp)(a:Addr)(xs:List V):Prop:=
 Rd H a (.lst xs) \/
  ∃(o:Obj) (its:Array Value) (n:Nat),K.lookup a=some o/\o.cls=.type "list" /\ o.dict=none/\o.data=.seq its n/\its.size<=sizeLine/\av xs its.toList
def bM(K:Qb)(H:Hp)(a:Addr)(xs:List V):Prop:=
 Rd H a (.tup xs) \/
  ∃(o:Obj) (its:Array Value) (n:Nat),K.lookup a=some o/\o.cls=.type "tuple" /\ o.data=.seq its n/\its.size<=sizeLine/\av xs its.toList
noncomputable def mY:Value->Option V
 |.none=>some .non
 |.bool b=>some (.bl b)
 |.int i _=>some (.int i)
 |.str x _=>some (.str x)
 |.bytes b _=>some (.byt b)
 |.float b _=>some (.flt b)
 |.ref a=>some (.ref a)
 |.type n=>some (.ty n)
 |_=>none
def RelV.abs (r:RelV x u):mY u=some x:=by
 cases x with
 |non=>cases r;rfl
 |bl _=>cases r;rfl
 |int _=>obtain⟨t,rfl⟩:=r;rfl
 |str _=>obtain⟨t,rfl⟩:=r;rfl
 |byt _=>obtain⟨t,rfl⟩:=r;rfl
 |flt _=>obtain⟨t,rfl⟩:=r;rfl
 |ref _=>cases r;rfl
 |ty _=>cases r;rfl
theorem RelV.inj (r:RelV x u)(q:RelV y u):x=y:=Option.some.inj (r.abs.symm.trans q.abs)
theorem av.inj:∀{xs ys:List V}{us:List Value},av xs us->av ys us->xs=ys
 |_,_,_,.nil,.nil=>rfl
 |_,_,_,.cons r t,.cons r' t'=>by rw[r.inj r',av.inj t t']
section
variable{X:Cx}{pins:List (Addr×Obj)}{σ:St}{H:Hp}{s:Shared}{a:Addr}{xs ys:List V}
def bD.of{K:Qb}(h:H a=some (.lst xs)):bD K H a xs:=.inl (.inl h)
def bM.of{K:Qb}(h:H a=some (.tup xs)):bM K H a xs:=.inl (.inl h)
def Inv.list(I:Inv X pins σ H s)(h:bD X.K H a xs):∃its:List Value,av xs its/\PlainL s.heap a its.toArray/\xs.length<=sizeLine:=by
 rcases h with h|⟨o,its,n,hk,hc,hd,hs,hz,r⟩
 .obtain ⟨z,its,n,r,e⟩:=h.ok I.hok;exact⟨its,r,⟨_,n,e,rfl,rfl,rfl⟩,z⟩
 .refine ⟨its.toList,r,⟨o,n,I.kIn a o hk,hc,hd,by simpa using hs⟩,?_⟩;have e:=r.length;simp only[QT]at e;lia
def Inv.tuple(I:Inv X pins σ H s)(h:bM X.K H a xs):∃its:List Value,av xs its/\IsTup s.heap a its.toArray/\xs.length<=sizeLine:=by
 rcases h with h|⟨o,its,n,hk,hc,hs,hz,r⟩
 .obtain ⟨z,its,r,p⟩:=h.ok I.hok;exact⟨its,r,p,z⟩
 .refine ⟨its.toList,r,⟨o,I.kIn a o hk,hc,n,by simpa using hs⟩,?_⟩;have e:=r.length;simp only[QT]at e;lia
def Inv.list_inj(I:Inv X pins σ H s)(h:bD X.K H a xs)(h':bD X.K H a ys):xs=ys:=by
 obtain⟨its,r,⟨o,n,e,_,_,d⟩,_⟩:=I.list h;obtain⟨its',r',⟨o',n',e',_,_,d'⟩,_⟩:=I.list h';rw[e]at e';cases e';rw[d]at d';injection d' with d1 _
 have:its=its':=by simpa using Ls VR d1
 subst this;exact r.inj r'
def Inv.tuple_inj(I:Inv X pins σ H s)(h:bM X.K H a xs)(h':bM X.K H a ys):xs=ys:=by
 obtain⟨its,r,⟨o,e,_,n,d⟩,_⟩:=I.tuple h;obtain⟨its',r',⟨o',e',_,n',d'⟩,_⟩:=I.tuple h';rw[e]at e';cases e';rw[d]at d';injection d' with d1 _
 have:its=its':=by simpa using Ls VR d1
 subst this;exact r.inj r'
end
noncomputable abbrev Cx.wish(X:Cx)(E:Value->Shared->Prop):Cx:={X with xe:=E}
noncomputable abbrev Cx.nox(X:Cx):Cx:=X.wish λ_ _=>False
theorem Cx.Ok.wish{X:Cx}(ok:X.Ok)(E:Value->Shared->Prop):(X.wish E).Ok:=
 ⟨ok.mod,ok.kind,ok.glob,ok.blt,ok.above,ok.inj,ok.has,ok.cab,ok.hd,ok.frames,ok.stk,ok.exf,ok.bs,ok.bsz,ok.noex,ok.exfs,ok.funs,ok.frf⟩
def Cx.Ok.unwish {X:Cx}(ok:(X.wish E).Ok):X.Ok:=
 ⟨ok.mod,ok.kind,ok.glob,ok.blt,ok.above,ok.inj,ok.has,ok.cab,ok.hd,ok.frames,ok.stk,ok.exf,ok.bs,ok.bsz,ok.noex,ok.exfs,ok.funs,ok.frf⟩
section
variable{X:Cx}{pins:List (Addr×Obj)}{σ:St}{H:Hp}{s:Shared}{E:Value->Shared->Prop}
theorem Inv.wish(I:Inv X pins σ H s)(E:Value->Shared->Prop):Inv (X.wish E) pins σ H s:=⟨I.ok.wish E,I.os,I.bare,I.base,I.loc,I.cell,I.free,I.freeC,I.pin,I.hok,I.len⟩
theorem Inv.unwish(I:Inv (X.wish E) pins σ H s):Inv X pins σ H s:=⟨I.ok.unwish,I.os,I.bare,I.base,I.loc,I.cell,I.free,I.freeC,I.pin,I.hok,I.len⟩
theorem SP.unwish{D:ci}{f:Flow}{s':Shared}(h:SP (X.wish E) pins D f s'):SP X pins D f s':=by
 cases f with
 |next=>obtain⟨σ',H',I,q⟩:=h;exact⟨σ',H',I.unwish,q⟩
 |brk=>obtain⟨σ',H',I,q⟩:=h;exact⟨σ',H',I.unwish,q⟩
 |cont=>obtain⟨σ',H',I,q⟩:=h;exact⟨σ',H',I.unwish,q⟩
 |ret u=>obtain⟨v,σ',H',I,r,q⟩:=h;exact⟨v,σ',H',I.unwish,r,q⟩
theorem cC.nox{st:List Stmt}{t:TS}(h:cC X.nox st t):cC X st t:=λpins s σ H D I hw=>
 Ja (h pins s σ H D (I.wish _) hw) (λ_ _ q=>q.unwish) λ_ _ z=>False.elim z
end
section
variable{X:Cx}{st:Stmt}{rest:List Stmt}{t u:TS}{e:Expr}{te:TE}{pos:Pos}
def Ak:TS:=λD σ H=>D.nx σ H
def l9(t u:TS):TS:=λD σ H=>t {D with nx:=u D} σ H
def Dt:cC X [] Ak:=λ_ _ σ H _ I h=>Je ⟨σ,H,I,h⟩
set_option tactic.hygienic true in
def EV(h1:PS X st t)(h2:cC X rest u):cC X (st::rest) (l9 t u):=by
 intro pins s σ H D I h;refine wpAny_execs_cons (aW (h1 pins s σ H {D with nx:=u D} I h) λf s1 q=>?_);cases f with
 |next=>
  obtain⟨σ',H',I',q⟩:=q;exact h2 pins s1 σ' H' D I' q
 |ret v=>exact q
 |brk=>exact q
 |cont=>exact q
def Ds(h1:PS X st t):cC X [st] t:=by
 intro pins s σ H D I h;refine wpAny_execs_cons (aW (h1 pins s σ H D I h) λf s1 q=>?_);cases f with
 |next=>exact Je q
 |ret v=>exact q
 |brk=>exact q
 |cont=>exact q
def Inv.quiet (I:Inv X pins σ H s):interactive X.env=false:=by simp[interactive,I.ok.kind]
def Aj(te:TE):TS:=λD σ H=>te σ H λ_ H1=>D.nx σ H1
def Dr(he:PE X e te)(hs:Jf e none pos.line X.env=pure false:=by rfl):PS X (.Expr e pos) (Aj te):=by
 intro pins s σ H D I h;exact wpAny_Expr_any (aW (he pins s σ H _ I h) λv s1 ⟨x,H1,I1,r1,q1⟩=>⟨σ,H1,I1,q1⟩) I.quiet hs
def me(te:TE):TS:=λD σ H=>te σ H D.rt
def BF(he:PE X e te):PS X (.Return (some e) pos) (me te):=by
 intro pins s σ H D I h;exact wpAny_Return_some (aW (he pins s σ H _ I h) λv s1 ⟨x,H1,I1,r1,q1⟩=>⟨x,σ,H1,I1,r1,q1⟩)
def ml(c:TT)(t u:TS):TS:=λD σ H=>c σ H λb H1=>if b=true then t D σ H1 else u D σ H1
def Ai (hc:PT X c tc)(ha:cC X a t)(hb:cC X b u):PS X (.If c a b pos) (ml tc t u):=by
 intro pins s σ H D I h;refine wpAny_If (aW (hc pins s σ H _ I h) λd s1 ⟨H1,I1,q1⟩=>?_);cases d with
 |true=>exact ha pins s1 σ H1 D I1 q1
 |false=>exact hb pins s1 σ H1 D I1 q1
def BE:TS:=λ_ _ _=>False
def EU:PS X st BE:=λ_ _ _ _ _ _ h=>h.elim
end
abbrev TG:=V->St->Hp->(St->Hp->Prop)->Prop
abbrev fm:=List V->St->Hp->(St->Hp->Prop)->Prop
def PG(X:Cx)(target:Expr)(t:TG):Prop:=
 ∀(pins:List (Addr×Obj)) (s:Shared) (σ:St) (H:Hp) (v:V) (u:Value) (Q:St->Hp->Prop),Inv X pins σ H s->RelV v u->t v σ H Q ->
  IX (IY X.prog X.w) X.A (assign target X.env u) (λ_ s'=>∃σ' H',Inv X pins σ' H' s'/\Q σ' H') X.xe s
def iZ(X:Cx)(ts:List Expr)(t:fm):Prop:=
 ∀(pins:List (Addr×Obj)) (s:Shared) (σ:St) (H:Hp) (vs:List V) (us:List Value) (Q:St->Hp->Prop),Inv X pins σ H s->av vs us->t vs σ H Q ->
  IX (IY X.prog X.w) X.A (assignInOrder ((Jg ts X.env).map (·.2)) us) (λ_ s'=>∃σ' H',Inv X pins σ' H' s'/\Q σ' H') X.xe s
abbrev lq:=V->V->V->Hp->(Hp->Prop)->Prop
def nH(X:Cx)(t:lq):Prop:=
 ∀(pins:List (Addr×Obj)) (s:Shared) (σ:St) (H:Hp) (o i v:V) (ov iv u:Value) (Q:Hp->Prop),Inv X pins σ H s->RelV o ov->RelV i iv->RelV v u->t o i v H Q ->
  IX (IY X.prog X.w) X.A (Jh ov iv u) (λ_ s'=>∃H',Inv X pins σ H' s'/\Q H') X.xe s
abbrev iq:=V->V->Hp->VK->Prop
def iY(X:Cx)(op:Ji)(t:iq):Prop:=
 ∀(pins:List (Addr×Obj)) (s:Shared) (σ:St) (H:Hp) (x y:V) (v u:Value) (Q:VK),Inv X pins σ H s->RelV x v->RelV y u->t x y H Q ->
  IX (IY X.prog X.w) X.A (inplaceOp op v u) (EP X pins σ Q) X.xe s
section
variable{X:Cx}{pos:Pos}
def xl(i:Nat):TG:=λv σ H Q=>Q (σ.set i (some v)) H
def yz (hN:X.N.Nodup)(hi:X.N[i]?=some x)(hx:Loc X.env.scope x)(hf:X.fn x=true\/X.env.scope.names.lookup x=some .local:=by first|exact .inl rfl|exact .inr rfl|assumption):PG X (.Name x pos) (xl i):=by
 intro pins s σ H v u Q I r h;exact wpAny_assign_Name (kH I hN hi hx r (λs' I'=>⟨_,H,I',h⟩) hf)
def fT:fm:=λvs σ H Q=>vs=[]/\Q σ H
def vh(t:TG)(u:fm):fm:=λvs σ H Q=>∃v r,vs=v::r/\t v σ H λσ' H'=>u r σ' H' Q
def kA:iZ X [] fT:=by
 intro pins s σ H vs us Q I r h;obtain⟨e,h⟩:=h;subst e;cases r;exact assignInOrder_nil ⟨σ,H,I,h⟩
def yN (h1:PG X e t)(h2:iZ X es u)(hs:(Jg (e::es) X.env).map (·.2)=assign e X.env::(Jg es X.env).map (·.2):=by rfl):iZ X (e::es) (vh t u):=by
 intro pins s σ H vs us Q I r h;obtain⟨v,vr,e1,h⟩:=h;subst e1;cases r with
 |cons r rr=>
  rw[hs];refine assignInOrder_cons (aW (h1 pins s σ H _ _ _ I r h) λ_ s1 ⟨σ1,H1,I1,q1⟩=>?_);exact h2 pins s1 σ1 H1 _ _ Q I1 rr q1
def fS(K:Qb)(n:Nat)(t:fm):TG:=λv σ H Q=>∃a xs,v=.ref a/\bM K H a xs/\xs.length=n/\t xs σ H Q
def gC (hc:X.calm=true)(h:iZ X es t)(hn:(Jg es X.env).length=n:=by rfl)(hst:(Jg es X.env).findIdx? (·.1)=none:=by rfl):PG X (.Tuple es k pos) (fS X.K n t):=by
 intro pins s σ H v u Q I r hw;obtain⟨a,xs,e1,hq,hl,hw⟩:=hw;subst e1;cases r;obtain⟨its,rv,ht,hz⟩:=I.tuple hq;refine assign_Tuple_tuple (I.ok.hd hc) ht (by simp[hn,<-hl,rv.length]) hst λh' hx=>?_;have I1:Inv X pins σ H {s with heap:=h' }:=I.kept (t':=s.toks) λb o e=>hx b o (QI (Qi e)) e;exact h pins _ σ H xs _ Q I1 (by simpa using rv) hw
def mV(to ti:TE)(t:lq):TG:=λv σ H Q=>to σ H λo H1=>ti σ H1 λi H2=>t o i v H2 λH3=>Q σ H3
def BD (ho:PE X o to)(hi:PE X i ti)(hs:nH X t)(ha:∀v,assign (.Subscript o i pos) X.env v=(do
   let ov <-holding [v] (eval o X.env)
   let iv <-holding [v,ov] (eval i X.env)
   standAt pos
   holding [v,ov,iv] (Jh ov iv v)
   release [v,ov,iv] []):=by intro _;rfl):PG X (.Subscript o i pos) (mV to ti t):=by
 intro pins s σ H v u Q I r h;rw[ha];refine Jj (Jk (aW (ho pins s σ H _ I h) λov s1 ⟨x,H1,I1,r1,q1⟩=>?_));refine Jj (Jk (aW (hi pins s1 σ H1 _ I1 q1) λiv s2 ⟨y,H2,I2,r2,q2⟩=>?_));refine Jj (Jl (Jj (Jk (aW (hs pins s2 σ H2 x y v ov iv u _ I2 r1 r2 r q2) λ_ s3 ⟨H3,I3,q3⟩=>?_))));exact wpAny_release ⟨σ,H3,I3,q3⟩
def iD(te:TE)(g:TG):TS:=λD σ H=>te σ H λx H1=>g x σ H1 D.nx
def BC (he:PE X e te)(hg:PG X tg g)(hs:swapsWithSole [tg] e pos.line X.env=pure false:=by rfl)(hw:swappedStores [tg] e X.env=pure none:=by rfl)(h1:(Jg [tg] X.env).map (·.2)=[assign tg X.env]:=by rfl):PS X (.Assign [tg] e pos) (iD te g):=by
 intro pins s σ H D I h;refine wpAny_Assign_stores (aW (he pins s σ H _ I h) λv s1 ⟨x,H1,I1,r1,q1⟩=>?_) hs hw;rw[h1];exact aW (hg pins s1 σ H1 x v _ I1 r1 q1) λ_ s2 q=>q
def pA (hN:X.N.Nodup)(hi:X.N[i]?=some x)(hx:Loc X.env.scope x)(he:PE X e te)(hs:Jf e (some (.Name x pos')) pos.line X.env=pure false:=by rfl)(hf:X.fn x=true\/X.env.scope.names.lookup x=some .local:=by first|exact .inl rfl|exact .inr rfl|assumption):
  PS X (.Assign [.Name x pos'] e pos) (iD te (xl i)):=by
 intro pins s σ H D I h;refine wpAny_Assign_Name (aW (he pins s σ H _ I h) λv s1 ⟨y,H1,I1,r1,q1⟩=>?_) hs;exact kH I1 hN hi hx r1 (λs2 I2=>⟨_,H1,I2,q1⟩) hf
def mo(i:Nat)(te:TE)(ti:iq):TS:=λD σ H=>∃x,σ[i]?=some (some x)/\te σ H λy H1=>ti x y H1 λz H2=>D.nx (σ.set i (some z)) H2
def BB (hN:X.N.Nodup)(hi:X.N[i]?=some x)(hx:Loc X.env.scope x)(he:PE X e te)(ho:iY X op ti)(hf:X.fn x=true\/X.env.scope.names.lookup x=some .local:=by first|exact .inl rfl|exact .inr rfl|assumption):
  PS X (.AugAssign (.Name x pos') op e pos) (mo i te ti):=by
 intro pins s σ H D I h;obtain⟨v,e1,h⟩:=h;obtain⟨m,hn,hl⟩:=I.loc;have vis:fI X.env.scope x:=by rcases hx with k|k;exact .inl k;exact .inr (.inl k)
 obtain⟨u,r,l⟩:=hl i x v hi e1 vis;refine wpAny_AugAssign_Name ?_;have go:IX (IY X.prog X.w) X.A (eval e X.env) (λw s₂=>IX (IY X.prog X.w) X.A (inplaceOp op u w) (λr s₃=>IX (IY X.prog X.w) X.A (storeName X.env x r) (λ_=>SP X pins D .next) X.xe s₃) X.xe s₂) X.xe s:=by
  refine aW (he pins s σ H _ I h) λw s1 ⟨y,H1,I1,r1,q1⟩=>?_;refine aW (ho pins s1 σ H1 v y u w _ I1 r r1 q1) λz s2 ⟨zv,H2,I2,r2,q2⟩=>?_;exact kH I2 hN hi hx r2 (λs3 I3=>⟨_,H2,I3,q2⟩) hf
 rcases l with⟨hk,hm⟩|⟨hk,c,hc,hcell⟩
 .exact Jb I.ok.kind hk hn hm go
 .rcases hk with hk|hk
  .exact Jc I.ok.kind hk hc hcell go
  .rcases hx with k|k
   .have:X.env.scope.names.lookup x=some .free:=hk;rw[k]at this;cases this
   .have:X.env.scope.names.lookup x=some .free:=hk;rw[k]at this;cases this
def tQ(f:Int->Int->Int):iq:=λx y H Q=>∃i j,x=.int i/\y=.int j/\Q (.int (f i j)) H
def BA:iY X .Add (tQ λi j=>i+j):=by
 intro pins s σ H x y v u Q I r1 r2 h;obtain⟨i,j,e1,e2,q⟩:=h;subst e1;subst e2;obtain⟨t,rfl⟩:=r1;obtain⟨t',rfl⟩:=r2;exact iadd_int ⟨.int _,H,I.tok _,⟨_,rfl⟩,q⟩
def Cg:iY X .Sub (tQ λi j=>i-j):=by
 intro pins s σ H x y v u Q I r1 r2 h;obtain⟨i,j,e1,e2,q⟩:=h;subst e1;subst e2;obtain⟨t,rfl⟩:=r1;obtain⟨t',rfl⟩:=r2;exact isub_int ⟨.int _,H,I.tok _,⟨_,rfl⟩,q⟩
end
set_option genInjectivity false in
structure It where
 go:Nat->Hp->Prop
 yld:Nat->Hp->V->Hp->Prop
 stop:Nat->Hp->Prop
def ku(X:Cx)(pins:List (Addr×Obj))(H:Hp)(b:Addr):Prop:=
 H b=none/\b≠X.env.locals/\b∉X.fs/\(b∈X.ex\/X.s₀.heap.objs.size<=b)/\(∀x c,X.env.cells.lookup x=some c->c≠b)/\∀p∈X.pn++pins,p.1≠b
def Inv.fpOk (I:Inv X pins σ H s)(hb:s.heap.objs.size<=b)(hn:H' b=none):ku X pins H' b:=by
 refine⟨hn,WH (Ql I.lt hb),I.nofs hb,.inr (Qu I.sz hb),λx c e z=>?_,λp hp z=>?_⟩
 .obtain ⟨v,q⟩:=I.cell x c e;exact Lr (Ql q.lt (by rw[z];exact hb)) (Q4 _)
 .exact Lr (Ql (Qi (I.pin p hp).1) (by rw[z];exact hb)) (Q4 _)
structure cW(P:IQ)(w:IR)(K:Qb)(tg:Expr)(J:It)(fp:List Addr)(it:Addr)(tn:Nat->IS->Prop):Prop where
 mem:it∈fp
 obj:∀i h,tn i h->∀b∈fp,∃o,h.get? b=some o/\∀v,o.data≠.cell v
 keep:∀i h h',tn i h->(∀b∈fp,∀o,h.get? b=some o->h'.get? b=some o)->tn i h'
 item:∀(X:Cx),X.prog=P->X.w=w->X.K=K->X.calm=true->∀(i:Nat) (pins:List (Addr×Obj)) (s:Shared) (σ:St) (H:Hp) (E:Value->Shared->Prop),Inv X pins σ H s->(∀b∈fp,ku X pins H b)->tn i s.heap->J.go i H ->
  IX (IY P w) X.A (Jm (.ref it)) (λr s1=>∃u,r=some u /\
   IX (IY P w) X.A (Jn tg (.ref it) u) (λ_ s2=>∃x H',Inv X pins σ H' s2/\RelV x u/\J.yld i H x H'/\tn (i+1) s2.heap/\∀b∈fp,H' b=none) E s1) E s
 done:∀(X:Cx),X.prog=P->X.w=w->X.K=K->X.calm=true->∀(i:Nat) (pins:List (Addr×Obj)) (s:Shared) (σ:St) (H:Hp) (E:Value->Shared->Prop),Inv X pins σ H s->(∀b∈fp,ku X pins H b)->tn i s.heap->J.stop i H ->
  IX (IY P w) X.A (Jm (.ref it)) (λr s1=>r=none/\Inv X pins σ H s1) E s
 self:∀(A:IV) (i:Nat) (s:Shared) (Q:Value->Shared->Prop) (E:Value->Shared->Prop),tn i s.heap->Q (.ref it) s->IX (IY P w) A (Jo (.ref it)) Q E s
abbrev TI:=St->Hp->(It->Hp->Prop)->Prop
def uN(X:Cx)(pins:List (Addr×Obj))(σ:St)(tg:Expr)(R:It->Hp->Prop)(itv:Value)(s2:Shared):Prop:=
 ∃(it:Addr) (fp:List Addr) (tn:Nat->IS->Prop) (J:It) (H':Hp),itv=.ref it/\Inv X pins σ H' s2/\cW X.prog X.w X.K tg J fp it tn/\tn 0 s2.heap/\(∀b∈fp,ku X pins H' b)/\R J H'
def PI(X:Cx)(tg iter:Expr)(wi:TI):Prop:=
 ∀(pins:List (Addr×Obj)) (s:Shared) (σ:St) (H:Hp) (R:It->Hp->Prop),Inv X pins σ H s->wi σ H R ->
  IX (IY X.prog X.w) X.A (eval iter X.env) (λv s1=>IX (IY X.prog X.w) X.A (Jo v) (uN X pins σ tg R) X.xe s1) X.xe s
def iK (ho:s.heap.get? it=some o)(hc:o.cls=.type n)(hd:o.data=.fields vs)(hn:["enumerate","zip","dict_itemiterator","dict_reverseitemiterator","odict_iterator","itertools.zip_longest","itertools.pairwise"].contains n=false)(hQ:Q () s):IX M A (Jn tg (.ref it) u) Q E s:=by
 unfold Jn;cases tg<;>first
  |exact Jp hQ
  | (cases u <;> first
    |exact Jp hQ
    | (refine Jj (wpAny_load ho ?_)
       rw[hc,hd];show IX M A (if(["enumerate","zip","dict_itemiterator","dict_reverseitemiterator","odict_iterator","itertools.zip_longest","itertools.pairwise"].contains n&&vs[0]?==some (Jq _))=true then _ else _) Q E s;rw[Lq (by intro h;rw[hn,Bool.false_and]at h;cases h)];exact Jp hQ))
def ng(K:Qb)(a:Addr):It:=
 ⟨λi H=>∃xs x,bD K H a xs/\xs[i]?=some x,λi H x H'=>H'=H/\∀xs,bD K H a xs->xs[i]?=some x,λi H=>∃xs,bD K H a xs/\xs.length<=i⟩
def uO(K:Qb)(a:Addr):It:=
 ⟨λi H=>∃xs x,bM K H a xs/\xs[i]?=some x,λi H x H'=>H'=H/\∀xs,bM K H a xs->xs[i]?=some x,λi H=>∃xs,bM K H a xs/\xs.length<=i⟩
def fK(lo:Int)(n:Nat):It:=⟨λi _=>i<n,λi H x H'=>H'=H/\x=.int (lo+i),λi _=>n<=i⟩
def Ft {K:Qb}(a it:Addr):cW P w K tg (ng K a) [it] it (λi h=>h.IsListIter it a i) where
 mem:=by simp
 obj:=λi h st b hb=>by
  have e:b=it:=by simpa using hb
  subst e;obtain⟨o,e,c,d⟩:=st;exact⟨o,e,λv z=>by rw[d]at z;cases z⟩
 keep:=λi h h' st k=>st.at λo e=>k it (by simp) o e
 item:=by
  intro X hP hw hK hc i pins s σ H E I hf st hg;subst hP hw hK;obtain⟨xs,x,hq,hx⟩:=hg;obtain⟨its,rv,p,hz⟩:=I.list hq;obtain⟨u,hu,ru⟩:=rv.get hx;obtain⟨f0,f1,f2,f3,f4,f5⟩:=hf it (by simp);refine wpAny_pyNext_list_item st p.isList (x:=u) (by simpa using hu) λh' st' sb=>?_;have I1:Inv X pins σ H {s with heap:=h' }:=I.turned (t':=s.toks) (λb o hb e=>(sb.2 b hb).trans e) f0 f1 f3 f4 f5;obtain⟨o,e,c,d⟩:=id st';exact⟨u,rfl,iK (s:={s with heap:=h' }) e c d (by decide) ⟨x,H,I1,ru,⟨rfl,λys hy=>by rw[I.list_inj hy hq];exact hx⟩,st',λb hb=>(hf b hb).1⟩⟩
 done:=by
  intro X hP hw hK hc i pins s σ H E I hf st hg;subst hP hw hK;obtain⟨xs,hq,hx⟩:=hg;obtain⟨its,rv,p,hz⟩:=I.list hq;obtain⟨f0,f1,f2,f3,f4,f5⟩:=hf it (by simp);have hl:=rv.length;exact wpAny_pyNext_list_end (I.ok.hd hc) st p.isList (by simp;lia) λh' eb=>⟨rfl,I.turned (t':=s.toks) (λb o hb e=>eb b o hb e) f0 f1 f3 f4 f5⟩
 self:=λ_ _ _ _ _ st h=>wpAny_pyIter_listiter st h
def Go {K:Qb}(a it:Addr):cW P w K tg (uO K a) [it] it (λi h=>h.IsTupleIter it a i) where
 mem:=by simp
 obj:=λi h st b hb=>by
  have e:b=it:=by simpa using hb
  subst e;obtain⟨o,e,c,d⟩:=st;exact⟨o,e,λv z=>by rw[d]at z;cases z⟩
 keep:=λi h h' st k=>st.at λo e=>k it (by simp) o e
 item:=by
  intro X hP hw hK hc i pins s σ H E I hf st hg;subst hP hw hK;obtain⟨xs,x,hq,hx⟩:=hg;obtain⟨its,rv,p,hz⟩:=I.tuple hq;obtain⟨u,hu,ru⟩:=rv.get hx;obtain⟨f0,f1,f2,f3,f4,f5⟩:=hf it (by simp);refine wpAny_pyNext_tuple_item st (show s.heap.IsTuple a its.toArray from p) (x:=u) (by simpa using hu) λh' st' sb=>?_;have I1:Inv X pins σ H {s with heap:=h' }:=I.turned (t':=s.toks) (λb o hb e=>(sb.2 b hb).trans e) f0 f1 f3 f4 f5;obtain⟨o,e,c,d⟩:=id st';exact⟨u,rfl,iK (s:={s with heap:=h' }) e c d (by decide) ⟨x,H,I1,ru,⟨rfl,λys hy=>by rw[I.tuple_inj hy hq];exact hx⟩,st',λb hb=>(hf b hb).1⟩⟩
 done:=by
  intro X hP hw hK hc i pins s σ H E I hf st hg;subst hP hw hK;obtain⟨xs,hq,hx⟩:=hg;obtain⟨its,rv,p,hz⟩:=I.tuple hq;obtain⟨f0,f1,f2,f3,f4,f5⟩:=hf it (by simp);have hl:=rv.length;exact wpAny_pyNext_tuple_end (I.ok.hd hc) st (show s.heap.IsTuple a its.toArray from p) (by simp;lia) λh' eb=>⟨rfl,I.turned (t':=s.toks) (λb o hb e=>eb b o hb e) f0 f1 f3 f4 f5⟩
 self:=λ_ _ _ _ _ st h=>wpAny_pyIter_tupleiter st h
def Gn {K:Qb}(it:Addr)(lo:Int)(n:Nat):cW P w K tg (fK lo n) [it] it (λi h=>IsRangeIter h it (lo+(i:Nat)*1) ((n:Int)-(i:Nat)) 1) where
 mem:=by simp
 obj:=λi h st b hb=>by
  have e:b=it:=by simpa using hb
  subst e;exact⟨_,st,λv z=>by
   have z':Data.fields _=Data.cell v:=z;cases z'⟩
 keep:=λi h h' st k=>k it (by simp) _ st
 item:=by
  intro X hP hw hK hc i pins s σ H E I hf st hg;subst hP hw hK;obtain⟨f0,f1,f2,f3,f4,f5⟩:=hf it (by simp);have W:=Walks.range (prog:=X.prog) (w:=X.w) (I.ok.hd hc) it lo 1 n;refine W.item i s _ _ hg st λv h' tk hv st' kk=>?_;obtain⟨t,rfl⟩:=hv;have I1:Inv X pins σ H {s with heap:=h',toks:=tk}:=I.turned (λb o hb e=>kk b o (by simpa using hb) e) f0 f1 f3 f4 f5;refine⟨_,rfl,iK (s:={s with heap:=h',toks:=tk}) (n:="range_iterator") st' rfl rfl (by decide) ⟨.int (lo+i),H,I1,⟨t,?_⟩,⟨rfl,rfl⟩,st',λb hb=>(hf b hb).1⟩⟩;rw[Int.mul_one]
 done:=by
  intro X hP hw hK hc i pins s σ H E I hf st hg;subst hP hw hK;obtain⟨f0,f1,f2,f3,f4,f5⟩:=hf it (by simp);exact wpAny_pyNext_range_end (I.ok.hd hc) st (by have:n<=i:=hg;lia) λh' eb=>⟨rfl,I.turned (t':=s.toks) (λb o hb e=>eb b o hb e) f0 f1 f3 f4 f5⟩
 self:=λ_ _ _ _ _ st h=>wpAny_pyIter_rangeiter st h
section
variable{X:Cx}{tg:Expr}
def Ah(K:Qb)(tl:TE):TI:=λσ H R=>tl σ H λx H1=>∃a,x=.ref a/\(∃xs,bD K H1 a xs)/\R (ng K a) H1
def mU(K:Qb)(tl:TE):TI:=λσ H R=>tl σ H λx H1=>∃a,x=.ref a/\(∃xs,bM K H1 a xs)/\R (uO K a) H1
def Dq (hl:PE X l tl):PI X tg l (Ah X.K tl):=by
 intro pins s σ H R I h;refine aW (hl pins s σ H _ I h) λv s1 ⟨x,H1,I1,r1,q1⟩=>?_;obtain⟨a,e,⟨xs,hq⟩,q⟩:=q1;subst e;cases r1;obtain⟨its,rv,p,hz⟩:=I1.list hq;refine Jr p.isList ?_;refine⟨s1.heap.objs.size,[s1.heap.objs.size],_,_,H1,rfl,I1.kept (t':=s1.toks) λb o e=>Qc _ e,Ft a _,⟨_,Qe _ rfl,rfl,rfl⟩,λb hb=>?_,q⟩;have e:b=s1.heap.objs.size:=by simpa using hb
 subst e;exact I1.fpOk (Qg _) (I1.hok.fresh (Qg _))
def Cf (hl:PE X l tl):PI X tg l (mU X.K tl):=by
 intro pins s σ H R I h;refine aW (hl pins s σ H _ I h) λv s1 ⟨x,H1,I1,r1,q1⟩=>?_;obtain⟨a,e,⟨xs,hq⟩,q⟩:=q1;subst e;cases r1;obtain⟨its,rv,p,hz⟩:=I1.tuple hq;refine Js (show s1.heap.IsTuple a its.toArray from p) ?_;refine⟨s1.heap.objs.size,[s1.heap.objs.size],_,_,H1,rfl,I1.kept (t':=s1.toks) λb o e=>Qc _ e,Go a _,⟨_,Qe _ rfl,rfl,rfl⟩,λb hb=>?_,q⟩;have e:b=s1.heap.objs.size:=by simpa using hb
 subst e;exact I1.fpOk (Qg _) (I1.hok.fresh (Qg _))
def qF {lo:Int}(I:Inv X pins σ H s)(h1:-(2^62)<=lo)(h2:lo<2^62)(h3:-(2^62)<=hi)(h4:hi<2^62)(q:R (fK lo (hi-lo).toNat) H):IX (IY X.prog X.w) X.A (Jo (.ref s.heap.objs.size)) (uN X pins σ tg R) E {s with heap:=s.heap.push {cls:=.type "range",data:=.fields #[.int lo t,.int hi u,.int 1 v]},toks:=tk}:=by
 refine wpAny_pyIter_range (IsRange.new ..) (small_one h1 h2 h3 h4) ?_;have I1:Inv X pins σ H {s with heap:=s.heap.push {cls:=.type "range",data:=.fields #[.int lo t,.int hi u,.int 1 v]},toks:=tk}:=I.kept λb o e=>Qc _ e;refine⟨(s.heap.push {cls:=.type "range",data:=.fields #[.int lo t,.int hi u,.int 1 v]}).objs.size,[(s.heap.push {cls:=.type "range",data:=.fields #[.int lo t,.int hi u,.int 1 v]}).objs.size],_,_,H,rfl,
  I1.kept (t':=tk) λb o e=>Qc _ e,Gn _ lo (hi-lo).toNat,?_,λb hb=>?_,q⟩
 .have e1:lo+((0:Nat):Int)*1=lo:=by simp
  have e2:(((hi-lo).toNat:Nat):Int)-((0:Nat):Int)=Builtin.Range.rangeSize lo hi 1:=by rw[rangeSize_one];split<;>lia
  show IsRangeIter _ _ (lo+((0:Nat):Int)*1) ((((hi-lo).toNat:Nat):Int)-((0:Nat):Int)) 1;rw[e1,e2];exact Qe _ rfl
 .have e:b=(s.heap.push {cls:=.type "range",data:=.fields #[.int lo t,.int hi u,.int 1 v]}).objs.size:=by simpa using hb
  subst e;exact I1.fpOk (Qg _) (I1.hok.fresh (Qg _))
def Ag(ta:TA):TI:=λσ H R=>ta σ H λvs H1=>∃j:Int,vs=[.int j]/\-(2^62)<=j/\j<2^62/\R (fK 0 j.toNat) H1
def Af(ta:TA):TI:=λσ H R=>ta σ H λvs H1=>∃i j:Int,vs=[.int i,.int j]/\(-(2^62)<=i/\i<2^62/\-(2^62)<=j/\j<2^62)/\R (fK i (j-i).toNat) H1
def FP (hg:Gl X "range")(hm:X.mg "range"=none)(ha:PA X [a] ta)(hs:I0 [a] X.env=[(false,eval a X.env)]:=by rfl):PI X tg (.Call (.Name "range" p) [a] [] pos) (Ag ta):=by
 intro pins s σ H R I h;refine Call_ (wd I hg hm boot_range (PyProof.Rows.callWith_type1 (aW (ha pos pins s σ H _ I h) λus s1 ⟨vs,H1,I1,r1,q1⟩=>?_) hs rfl));obtain⟨j,e,q1,q2,q⟩:=q1;subst e;cases r1 with
 |cons r rr=>
  cases rr;obtain⟨t,rfl⟩:=r;exact call_range_1 (qF I1 (by lia) (by lia) q1 q2 (by simpa using q))
def FO (hg:Gl X "range")(hm:X.mg "range"=none)(ha:PA X [a,b] ta)(hs:I0 [a,b] X.env=[(false,eval a X.env),(false,eval b X.env)]:=by rfl)(hs2:I0 [b] X.env=[(false,eval b X.env)]:=by rfl):
  PI X tg (.Call (.Name "range" p) [a,b] [] pos) (Af ta):=by
 intro pins s σ H R I h;refine Call_ (wd I hg hm boot_range (PyProof.Rows.callWith_type1 (aW (ha pos pins s σ H _ I h) λus s1 ⟨vs,H1,I1,r1,q1⟩=>?_) (by rw[hs,hs2]) (by rw[hs2];rfl)));obtain⟨i,j,e,⟨q1,q2,q3,q4⟩,q⟩:=q1;subst e;cases r1 with
 |cons r rr=>
  cases rr with
  |cons r' rr=>
   cases rr;obtain⟨t,rfl⟩:=r;obtain⟨t',rfl⟩:=r';exact call_range_2 (qF I1 q1 q2 q3 q4 q)
def fR(wi:TI)(g:TG)(tb:TS):TS:=λD σ H=>wi σ H λJ H1=>∃W:Nat->Nat->St->Hp->Prop,(∃m,W 0 m σ H1)/\∀i m σ H,W i m σ H ->
 (J.stop i H/\D.nx σ H)\/(J.go i H/\∃N:St->Hp->Prop,(∀σ' H',N σ' H'->∃m',m'<m/\W (i+1) m' σ' H')/\∀x H',J.yld i H x H'->g x σ H' λσ2 H2=>tb {D with nx:=N,ct:=N,bk:=D.nx} σ2 H2)
noncomputable def kI(fp:List Addr)(h:IS):List (Addr×Obj):=fp.filterMap λb=>(h.get? b).map λo=>(b,o)
def xT (hb:b∈fp)(e:h.get? b=some o):(b,o)∈kI fp h:=List.mem_filterMap.mpr ⟨b,hb,by rw[e];rfl⟩
def FN (hp:p∈kI fp h):p.1∈fp/\h.get? p.1=some p.2:=by
 obtain⟨b,hb,e⟩:=List.mem_filterMap.mp hp;cases q:h.get? b with
 |none=>rw[q]at e;cases e
 |some o=>
  rw[q]at e;have e':(b,o)=p:=Option.some.inj e;subst e';exact⟨hb,q⟩
def Inv.pinned{pins:List (Addr×Obj)}{σ:St}{H:Hp}{s:Shared}{fp:List Addr}(I:Inv X pins σ H s)(hf:∀b∈fp,ku X pins H b)(ho:∀b∈fp,∃o,s.heap.get? b=some o/\∀v,o.data≠.cell v):Inv X (pins++kI fp s.heap) σ H s:=
 I.pins_of λp hp=>(Qx.mp hp).elim (λz=>I.pin p (Qy _ z)) λz=>by
  obtain⟨hb,e⟩:=FN z;obtain⟨f0,f1,f2,_⟩:=hf p.1 hb;obtain⟨o,e',d⟩:=ho p.1 hb;rw[e]at e';cases e';exact⟨e,f0,f1,f2,d⟩
def Inv.unpinned{pins pl:List (Addr×Obj)}{σ:St}{H:Hp}{s:Shared}(I:Inv X (pins++pl) σ H s):Inv X pins σ H s:=I.pins_of λp hp=>I.pin p (Qy _ (Q5 _ hp))
def kJ (hp:PassesOwn (IY X.prog X.w) X.A X.env X.xe)(hc:X.calm=true)(hi:PI X tg iter wi)(hg:PG X tg g)(hb:cC X body tb)(hs:∀x,Jt iter X.env x=pure x:=by intro _;rfl):PS X (.For tg iter body [] pos) (fR wi g tb):=by
 intro pins s σ H D I h;refine wpAny_For (aW (hi pins s σ H _ I h) λv s1 h1=>aW h1 λitv s2 h2=>?_) hs;obtain⟨it,fp,tn,J,H2,e,I2,T,st2,f2,W,⟨m0,w0⟩,turn⟩:=h2;subst e
 -- what stays true of the iterator's objects through the loop
 have stat:∀{H':Hp},(∀b∈fp,H' b=none)->∀b∈fp,ku X pins H' b:=λhn b hb=>⟨hn b hb,(f2 b hb).2⟩;refine codeAny_forLoop_any (λn s'=>∃i σ' H',Inv X pins σ' H' s'/\tn i s'.heap/\(∀b∈fp,H' b=none)/\W i n σ' H') ?_ m0 ⟨0,σ,H2,I2,st2,λb hb=>(f2 b hb).1,w0⟩;rintro n s3 ⟨i,σ3,H3,I3,st3,fr3,w3⟩;rcases turn i n σ3 H3 w3 with⟨stop,qn⟩|⟨go,N,hN,step⟩
 .refine Ju hp (aW (T.done X rfl rfl rfl hc i pins s3 σ3 H3 X.xe I3 (stat fr3) st3 stop) λr s4 ⟨hr,I4⟩=>?_);subst hr;exact Je ⟨σ3,H3,I4,qn⟩
 .refine Ju hp (aW (T.item X rfl rfl rfl hc i pins s3 σ3 H3 X.xe I3 (stat fr3) st3 go) λr s4 ⟨u,hr,h4⟩=>?_);subst hr;refine Ju hp (aW h4 λ_ s5 ⟨x,H5,I5,r5,y5,st5,fr5⟩=>?_);have I5':=I5.pinned (stat fr5) (T.obj _ _ st5);refine Ju hp (aW (hg _ s5 σ3 H5 x u _ I5' r5 (step x H5 y5)) λ_ s6 ⟨σ6,H6,I6,q6⟩=>?_);refine Ju hp (aW (hb _ s6 σ6 H6 _ I6 q6) λf s7 q7=>?_);have again:∀{σ7:St}{H7:Hp},Inv X (pins++kI fp s5.heap) σ7 H7 s7->N σ7 H7->∃m,m<n/\∃i σ' H',Inv X pins σ' H' s7/\tn i s7.heap/\(∀b∈fp,H' b=none)/\W i m σ' H':=λ{σ7 H7} I7 n7=>by
   obtain⟨m',hm,w7⟩:=hN σ7 H7 n7;refine⟨m',hm,i+1,σ7,H7,I7.unpinned,T.keep _ _ _ st5 λb hb o e=>(I7.pin (b,o) (Qy _ (Qy _ (xT hb e)))).1,λb hb=>?_,w7⟩;obtain⟨o,e,d⟩:=T.obj _ _ st5 b hb;exact(I7.pin (b,o) (Qy _ (Qy _ (xT hb e)))).2.1
  cases f with
  |next=>obtain⟨σ7,H7,I7,n7⟩:=q7;exact again I7 n7
  |cont=>obtain⟨σ7,H7,I7,n7⟩:=q7;exact again I7 n7
  |brk=>obtain⟨σ7,H7,I7,q7⟩:=q7;exact⟨σ7,H7,I7.unpinned,q7⟩
  |ret v=>obtain⟨x7,σ7,H7,I7,r7,q7⟩:=q7;exact⟨x7,σ7,H7,I7.unpinned,r7,q7⟩
end
abbrev R2:=V->V->Hp->VK->Prop
def cc(X:Cx)(f:Value->Value->Sem Value)(r:R2):Prop:=
 ∀(pins:List (Addr×Obj)) (s:Shared) (σ:St) (H:Hp) (x y:V) (v u:Value) (Q:VK),Inv X pins σ H s->RelV x v->RelV y u->r x y H Q ->
  IX (IY X.prog X.w) X.A (f v u) (EP X pins σ Q) X.xe s
def mZ(X:Cx)(f:Value->Sem Value)(r:V->Hp->VK->Prop):Prop:=
 ∀(pins:List (Addr×Obj)) (s:Shared) (σ:St) (H:Hp) (x:V) (v:Value) (Q:VK),Inv X pins σ H s->RelV x v->r x H Q ->
  IX (IY X.prog X.w) X.A (f v) (EP X pins σ Q) X.xe s
def bp(X:Cx)(f:Value)(r:List V->Hp->VK->Prop):Prop:=
 ∀(pins:List (Addr×Obj)) (s:Shared) (σ:St) (H:Hp) (xs:List V) (us:List Value) (Q:VK),Inv X pins σ H s->av xs us->r xs H Q ->
  IX (IY X.prog X.w) X.A (call f us) (EP X pins σ Q) X.xe s
def ij(r:R2)(ta tb:TE):TE:=λσ H Q=>ta σ H λx H1=>tb σ H1 λy H2=>r x y H2 Q
def Gu(r:V->Hp->VK->Prop)(ta:TE):TE:=λσ H Q=>ta σ H λx H1=>r x H1 Q
def rI(C:Int->Int->Prop)(g:Int->Int->V):R2:=λx y H Q=>∃i j,x=.int i/\y=.int j/\C i j/\Q (g i j) H
def dy(g:Int->Int->V):R2:=λx y H Q=>∃i j,x=.int i/\y=.int j/\Q (g i j) H
def rU(g:Int->V):V->Hp->VK->Prop:=λx H Q=>∃i,x=.int i/\Q (g i) H
section
variable{X:Cx}{a b:Expr}{ta tb:TE}{pos:Pos}
def ly (ha:PE X a ta)(hb:PE X b tb){R:V->V->Hp->Prop}(I:Inv X pins σ H s)(h:ta σ H λx H1=>tb σ H1 λy H2=>R x y H2){f:Value->Value->Sem Value}(hf:∀v u s2 x y H2,Inv X pins σ H2 s2->RelV x v->RelV y u->R x y H2->IX (IY X.prog X.w) X.A (f v u) Q X.xe s2):
  IX (IY X.prog X.w) X.A (eval a X.env) (λv s₁=>IX (IY X.prog X.w) X.A (eval b X.env) (λu s₂=>IX (IY X.prog X.w) X.A (f v u) Q X.xe s₂) X.xe s₁) X.xe s:=by
 refine aW (ha pins s σ H _ I h) λv s1 ⟨x,H1,I1,r1,q1⟩=>?_;refine aW (hb pins s1 σ H1 _ I1 q1) λu s2 ⟨y,H2,I2,r2,q2⟩=>?_;exact hf v u s2 x y H2 I2 r1 r2 q2
def Ae (ho:cc X (Jv op) r)(ha:PE X a ta)(hb:PE X b tb):PE X (.BinOp a op b pos) (ij r ta tb):=by
 intro pins s σ H Q I h;exact wpAny_BinOp (ly ha hb I h λv u s2 x y H2 I2 rx ry q=>ho pins s2 σ H2 x y v u Q I2 rx ry q)
def Ad (ho:mZ X (unaryOp op) r)(ha:PE X a ta):PE X (.UnaryOp op a pos) (Gu r ta):=by
 intro pins s σ H Q I h;exact UnaryOp_ (aW (ha pins s σ H _ I h) λv s1 ⟨x,H1,I1,r1,q1⟩=>ho pins s1 σ H1 x v Q I1 r1 q1)
def ff {g:Int->Int->Int}(rule:∀(i j:Int) (t u:Tok) (s:Shared) (Q:Value->Shared->Prop) (E:Value->Shared->Prop),C i j->Q (.int (g i j) s.toks) {s with toks:=s.toks+1}->IX (IY X.prog X.w) X.A (f (.int i t) (.int j u)) Q E s):
  cc X f (rI C λi j=>.int (g i j)):=by
 intro pins s σ H x y v u Q I rx ry h;obtain⟨i,j,rfl,rfl,hc,q⟩:=h;obtain⟨t,rfl⟩:=rx;obtain⟨t',rfl⟩:=ry;exact rule i j t t' s _ _ hc ⟨.int (g i j),H,I.tok _,⟨_,rfl⟩,q⟩
def lx {g:Int->Int->Int}(rule:∀(i j:Int) (t u:Tok) (s:Shared) (Q:Value->Shared->Prop) (E:Value->Shared->Prop),Q (.int (g i j) s.toks) {s with toks:=s.toks+1}->IX (IY X.prog X.w) X.A (f (.int i t) (.int j u)) Q E s):
  cc X f (dy λi j=>.int (g i j)):=by
 intro pins s σ H x y v u Q I rx ry h;obtain⟨i,j,rfl,rfl,q⟩:=h;obtain⟨t,rfl⟩:=rx;obtain⟨t',rfl⟩:=ry;exact rule i j t t' s _ _ ⟨.int (g i j),H,I.tok _,⟨_,rfl⟩,q⟩
def iC {g:Int->Int->Bool}(rule:∀(i j:Int) (t u:Tok) (s:Shared) (Q:Value->Shared->Prop) (E:Value->Shared->Prop),Q (.bool (g i j)) s->IX (IY X.prog X.w) X.A (f (.int i t) (.int j u)) Q E s):
  cc X f (dy λi j=>.bl (g i j)):=by
 intro pins s σ H x y v u Q I rx ry h;obtain⟨i,j,rfl,rfl,q⟩:=h;obtain⟨t,rfl⟩:=rx;obtain⟨t',rfl⟩:=ry;exact rule i j t t' s _ _ ⟨.bl (g i j),H,I,rfl,q⟩
def nG(i j:Int):Prop:=0<j/\j<1073741824
def Hg(i j:Int):Prop:=0<=j/\j<=1000000/\i.natAbs<2^64
def eC(i j:Int):Prop:=(-(2^64)<i/\i<2^64)\/(-(2^64)<j/\j<2^64)
def eC.ok (h:eC i j):IntMulOk i j:=by
 rcases h with⟨h1,h2⟩|⟨h1,h2⟩
 .exact .of_left (intBits_le_64 h1 h2)
 .exact .of_right (intBits_le_64 h1 h2)
def Gm(k:Nat):(0:Int)<=2^k:=by
 rw[two_pow_cast];exact Int.natCast_nonneg _
def fe:cc X (Jv .Add) (dy λi j=>.int (i+j)):=lx λ_ _ _ _ _ _ _ q=>add_int q
def Ce:cc X (Jv .Sub) (dy λi j=>.int (i-j)):=lx λ_ _ _ _ _ _ _ q=>sub_int q
def fb:cc X (Jv .Mult) (rI eC λi j=>.int (i*j)):=ff λ_ _ _ _ _ _ _ hc q=>mul_int q hc.ok
def Dp:cc X (Jv .FloorDiv) (rI nG λi j=>.int (i/j)):=ff λi j _ _ _ _ _ hc q=>by
 have h1:(0:Int)<j:=hc.1;have h2:j<1073741824:=hc.2;exact floordiv_int (by lia) (by rw[Ve i (by lia)];exact q) (.inl (PyProof.noPylong_small (by lia)))
def Cd:cc X (Jv .Mod) (rI (λ_ j=>0<j) λi j=>.int (i%j)):=ff λi j _ _ _ _ _ hc q=>by
 have h1:(0:Int)<j:=hc;exact mod_int' (by lia) (by rw[Int.fmod_eq_emod_of_nonneg i (by lia)];exact q)
def Cc:cc X (Jv .RShift) (rI (λ_ j=>0<=j) λi j=>.int (i/2^j.toNat)):=ff λi j _ _ _ _ _ hc q=>
 rshift_int hc (by rw[Ve i (Gm _)];exact q)
def Cb:cc X (Jv .BitAnd) (dy λi j=>.int (Builtin.bitAnd i j)):=lx λ_ _ _ _ _ _ _ q=>and_int q
def Gs {g:Int->Int}(rule:∀(i:Int) (t:Tok) (s:Shared) (Q:Value->Shared->Prop) (E:Value->Shared->Prop),Q (.int (g i) s.toks) {s with toks:=s.toks+1}->IX (IY X.prog X.w) X.A (f (.int i t)) Q E s):
  mZ X f (rU λi=>.int (g i)):=by
 intro pins s σ H x v Q I rx h;obtain⟨i,rfl,q⟩:=h;obtain⟨t,rfl⟩:=rx;exact rule i t s _ _ ⟨.int (g i),H,I.tok _,⟨_,rfl⟩,q⟩
def Ca:mZ X (unaryOp .USub) (rU λi=>.int (-i)):=Gs λ_ _ _ _ _ q=>neg_int q
end
section
variable{X:Cx}{a b c:Expr}{ta tb tc:TE}{pos:Pos}
def Ac:cc X (Jw .Lt) (dy λi j=>.bl (decide (i<j))):=iC λ_ _ _ _ _ _ _ q=>lt_int q
def Ab:cc X (Jw .LtE) (dy λi j=>.bl (decide (i<=j))):=iC λ_ _ _ _ _ _ _ q=>le_int q
def Aa:cc X (Jw .Gt) (dy λi j=>.bl (decide (j<i))):=iC λ_ _ _ _ _ _ _ q=>gt_int q
def z9:cc X (Jw .GtE) (dy λi j=>.bl (decide (j<=i))):=iC λ_ _ _ _ _ _ _ q=>ge_int q
def cc.or{f:Value->Value->Sem Value}{r r':R2}(h:cc X f r)(h':cc X f r'):cc X f (λx y H Q=>r x y H Q\/r' x y H Q):=by
 intro pins s σ H x y v u Q I rx ry q;rcases q with q|q
 .exact h pins s σ H x y v u Q I rx ry q
 .exact h' pins s σ H x y v u Q I rx ry q
def Do (ho:cc X (Jw op) r)(ha:PE X a ta)(hb:PE X b tb)(hm:Jy op b=false):PE X (.Compare a [op] [b] pos) (ij r ta tb):=by
 intro pins s σ H Q I h;exact wpAny_Compare1 (ly ha hb I h λv u s2 x y H2 I2 rx ry q=>ho pins s2 σ H2 x y v u Q I2 rx ry q) hm
def oy(t:TE):TT:=λσ H Q=>t σ H λx H'=>∃k,x=.bl k/\Q k H'
def Dn (ho:cc X (Jw op) r)(ha:PE X a ta)(hb:PE X b tb)(hm:Jy op b=false):PT X (.Compare a [op] [b] pos) (oy (ij r ta tb)):=by
 intro pins s σ H Q I h;refine wpAny_isTrue_Compare1 (aW (ha pins s σ H _ I h) λv s1 ⟨x,H1,I1,r1,q1⟩=>aW (hb pins s1 σ H1 _ I1 q1) λu s2 ⟨y,H2,I2,r2,q2⟩=>
  aW (ho pins s2 σ H2 x y v u _ I2 r1 r2 q2) λc s3 ⟨z,H3,I3,r3,k,e,q3⟩=>?_) hm
 subst e;cases r3;exact Jd ⟨H3,I3,q3⟩
def lU(r r':R2)(ta tb tc:TE):TE:=λσ H Q=>ta σ H λx H1=>tb σ H1 λy H2=>r x y H2 λz H3=>∃k,z=.bl k /\
 (if k=true then tc σ H3 λw' H4=>r' y w' H4 Q else Q (.bl false) H3)
def ET (ho:cc X (Jw op) r)(ho':cc X (Jw op') r')(ha:PE X a ta)(hb:PE X b tb)(hc:PE X c tc)(hm:lastMarks [op,op'] [b,c]=false:=by with_unfolding_all rfl):PE X (.Compare a [op,op'] [b,c] pos) (lU r r' ta tb tc):=by
 intro pins s σ H Q I h;refine Compare_chain (aW (ha pins s σ H _ I h) λv s1 ⟨x,H1,I1,r1,q1⟩=>chain_link (aW (hb pins s1 σ H1 _ I1 q1) λu s2 ⟨y,H2,I2,r2,q2⟩=>
  aW (ho pins s2 σ H2 x y v u _ I2 r1 r2 q2) λd s3 ⟨z,H3,I3,r3,k,e,q3⟩=>?_)) hm
 subst e;cases r3;refine Jd ?_;cases k with
 |false=>exact ite_ff ⟨.bl false,H3,I3,rfl,q3⟩
 |true=>exact ite_tt (chain_last (aW (hc pins s3 σ H3 _ I3 q3) λw' s4 ⟨z',H4,I4,r4,q4⟩=>ho' pins s4 σ H4 y z' u w' Q I4 r2 r4 q4))
def ES (ho:cc X (Jw op) r)(ho':cc X (Jw op') r')(ha:PE X a ta)(hb:PE X b tb)(hc:PE X c tc)(hm:lastMarks [op,op'] [b,c]=false:=by with_unfolding_all rfl):PT X (.Compare a [op,op'] [b,c] pos) (oy (lU r r' ta tb tc)):=by
 intro pins s σ H Q I h;refine isTrue_chain (aW (ha pins s σ H _ I h) λv s1 ⟨x,H1,I1,r1,q1⟩=>test_link (aW (hb pins s1 σ H1 _ I1 q1) λu s2 ⟨y,H2,I2,r2,q2⟩=>
  aW (ho pins s2 σ H2 x y v u _ I2 r1 r2 q2) λd s3 ⟨z,H3,I3,r3,k,e,q3⟩=>?_)) hm
 subst e;cases r3;refine Jd ?_;cases k with
 |false=>
  obtain⟨k',e',q'⟩:=q3;cases e';exact ite_ff ⟨H3,I3,q'⟩
 |true=>
  refine ite_tt (test_last (aW (hc pins s3 σ H3 _ I3 q3) λw' s4 ⟨z',H4,I4,r4,q4⟩=>aW (ho' pins s4 σ H4 y z' u w' _ I4 r2 r4 q4) λd' s5 ⟨z2,H5,I5,r5,k2,e2,q5⟩=>?_));subst e2;cases r5;exact Jd ⟨H5,I5,q5⟩
def gD:(sizeLine:Nat)<2^63:=by rw[Jz];decide
def xG (r:av [x] us):∃u,us=[u]/\RelV x u:=by
 cases r with
 |cons r1 r2=>cases r2;exact⟨_,rfl,r1⟩
def zk (r:av [x,y] us):∃u w',us=[u,w']/\RelV x u/\RelV y w':=by
 cases r with
 |cons r1 r2=>
  cases r2 with
  |cons r3 r4=>cases r4;exact⟨_,_,rfl,r1,r3⟩
def FM:bp X (.type "int") (λxs H Q=>(∃i,xs=[.int i]/\Q (.int i) H)\/∃k,xs=[.bl k]/\Q (.int (if k then 1 else 0)) H):=by
 intro pins s σ H xs us Q I r h;rcases h with⟨i,rfl,q⟩|⟨k,rfl,q⟩
 .obtain ⟨u,rfl,t,rfl⟩:=xG r;exact call_int_int ⟨.int i,H,I,⟨_,rfl⟩,q⟩
 .obtain ⟨u,rfl,r1⟩:=xG r;cases r1;exact call_int_bool ⟨.int (if k then 1 else 0),H,I.tok _,⟨_,rfl⟩,q⟩
end
section
variable{X:Cx}{pins:List (Addr×Obj)}{σ:St}{H:Hp}{s:Shared}{A:IV}{E:Value->Shared->Prop}{Q:Value->Shared->Prop}{c:Value}{b:Bool}
inductive dv(K:Qb)(H:Hp):V->Value->Prop where
 |non:dv K H .non (.type "NoneType")
 |bl (x:Bool):dv K H (.bl x) (.type "bool")
 |int (i:Int):dv K H (.int i) (.type "int")
 |str (x:Str):dv K H (.str x) (.type "str")
 |lst {a:Addr}{xs:List V}(e:H a=some (.lst xs)):dv K H (.ref a) (.type "list")
def xH (I:Inv X pins σ H s)(rx:RelV x u)(ty:dv X.K H x t)(e:WB X.K t c=some b)(h:∀tk,Q (.bool b) {s with toks:=tk}):
  IX (IY X.prog X.w) A (call (.builtin "isinstance") [u,c]) Q E s:=by
 cases ty with
 |non=>cases(show u=Value.none from rx);exact Wx PySem.W.kitx_none I.kIn True.intro e (λz=>nomatch z) h
 |bl y=>cases(show u=Value.bool y from rx);exact Wx PySem.W.kitx_bool I.kIn True.intro e (λz=>nomatch z) h
 |int i=>obtain⟨t,q⟩:=(show ∃t,u=Value.int i t from rx);cases q;exact Wx PySem.W.kitx_int I.kIn True.intro e (λz=>nomatch z) h
 |str y=>obtain⟨t,q⟩:=(show ∃t,u=Value.str y t from rx);cases q;exact Wx PySem.W.kitx_str I.kIn True.intro e (λz=>nomatch z) h
 |@lst a xs ea=>
  cases(show u=Value.ref a from rx);obtain⟨_,_,n,_,h1⟩:=(show bE X.prog X.w H s.heap a (.lst xs)from I.hok a _ ea);exact Wx PySem.W.kitx_list I.kIn ⟨_,h1,rfl⟩ e (λz=>nomatch z) h
end
structure cg(k:Nat)(A:IV):Prop where
 hd:A.handled=none
 dp:A.depth+3*k+5<recursionLimit
 un:A.units+16*k+200<JA
theorem cg.deeper{k:Nat}{A:IV}(r:cg (k+1) A)(env:Env):cg k (A.deeper env):=
 ⟨r.hd,by have:=r.dp;show A.depth+1+3*k+5<_;lia,by have:=r.un;show A.units+3+16*k+200<_;lia⟩
theorem cg.depth (r:cg k A):A.depth<recursionLimit:=by have:=r.dp;lia
theorem cg.units (r:cg k A):A.units+64<JA:=by have:=r.un;lia
def lu:TA:=λ_ H Q=>Q [] H
def qG(ta:TE)(tr:TA):TA:=λσ H Q=>ta σ H λx H1=>tr σ H1 λxs H2=>Q (x::xs) H2
section
variable{X:Cx}{e:Expr}{es:List Expr}{te:TE}{t:TA}{pos:Pos}
def yT:PA X [] lu:=λ_ _ _ _ H Q I h=>Calls.spliced_nil ⟨[],H,I,.nil,h⟩
def zP(ha:PE X e te)(hr:PA X es t)(hs:I0 (e::es) X.env=(false,eval e X.env)::I0 es X.env:=by rfl):PA X (e::es) (qG te t):=by
 intro pos pins s σ H Q I h;rw[hs];show IX _ _ (spliced ((false,eval e X.env)::IZ pos (I0 es X.env))) _ _ s;refine Calls.spliced_cons (aW (ha pins s σ H _ I h) λu s1 ⟨x,H1,I1,r1,q1⟩=>?_);exact aW (hr pos pins s1 σ H1 _ I1 q1) λus s2 ⟨xs,H2,I2,r2,q2⟩=>⟨x::xs,H2,I2,.cons r1 r2,q2⟩
def lZ(t:TA):TE:=λσ H Q=>t σ H λxs H1=>xs.length<=sizeLine/\∀p,H1 p=none->Q (.ref p) (aH H1 p (.tup xs))
def mj(t:TA):TE:=λσ H Q=>t σ H λxs H1=>xs.length<=sizeLine/\∀p,H1 p=none->Q (.ref p) (aH H1 p (.lst xs))
def B9{x1}(h:PA X es t):PE X (.Tuple es x1 pos) (lZ t):=by
 intro pins s σ H Q I hq;refine wpAny_Tuple_spliced (aW (h pos pins s σ H _ I hq) λus s1 ⟨xs,H1,I1,r,z,q⟩=>⟨by rw[<-r.length];exact z,?_⟩);have hf:H1 s1.heap.objs.size=none:=I1.hok.fresh (Qg _);refine⟨.ref s1.heap.objs.size,aH H1 s1.heap.objs.size (.tup xs),I1.laid (t':=s1.toks) (λb u e=>Qc _ e) (Qg _) ?_,rfl,q _ hf⟩;exact⟨z,us,r,⟨_,Qe _ rfl,rfl,_,rfl⟩⟩
def B8(h:PA X es t):PE X (.List es pos) (mj t):=by
 intro pins s σ H Q I hq;refine wpAny_List_spliced (aW (h pos pins s σ H _ I hq) λus s1 ⟨xs,H1,I1,r,z,q⟩=>⟨by rw[<-r.length];exact z,?_⟩);have hf:H1 s1.heap.objs.size=none:=I1.hok.fresh (Qg _);refine⟨.ref s1.heap.objs.size,aH H1 s1.heap.objs.size (.lst xs),I1.laid (t':=s1.toks) (λb u e=>Qc _ e) (Qg _) ?_,rfl,q _ hf⟩;exact⟨z,us,0,r,Qe _ rfl⟩
end
abbrev Sp:=List V->Hp->VK->XK->Prop
abbrev dX:=List Env->Hp->Shared->XK->Value->Shared->Prop
structure eB(P:IQ)(w:IR)(K:Qb)(mg:Str->Option Value)(base:IS)(A:IV)(outer:List Env)(s:Shared)(H:Hp):Prop where
 frames:A.frames=some outer
 mod:Mod K mg base
 bs:∀b o,base.get? b=some o->s.heap.get? b=some o/\H b=none
 bsz:base.objs.size<=s.heap.objs.size
 funs:s.heap.FunFrames base outer
 frf:∀b∈dL outer,H b=none
 hok:cD P w H s.heap
 bare:IW s.gens
def CE(outer:List Env)(P:IQ)(w:IR)(H:Hp)(s:Shared)(Q:VK)(u:Value)(s':Shared):Prop:=
 ∃v H',s'.os=s.os/\IW s'.gens/\Un (dL outer) [] H H' s.heap s'.heap/\cD P w H' s'.heap/\RelV v u/\Q v H'
def CR(CX:dX)(outer:List Env)(P:IQ)(w:IR)(H:Hp)(s:Shared)(Q:VK)(E:XK)(r:Result)(s':Shared):Prop:=
 match r with
 |.ok (.ret u)=>CE outer P w H s Q u s'
 |.ok _=>False
 |.error e=>CX outer H s E e s'
structure cN(P:IQ)(w:IR)(K:Qb)(mg:Str->Option Value)(base:IS)(CX:dX)(k:Nat)(f:Addr)(fd:JB)(ps:List Str)(sp:Sp):Prop where
 len:∀vs H Q E,sp vs H Q E->vs.length=ps.length
 run:∀(A:IV) (outer:List Env) (s:Shared) (H:Hp) (args:Args) (us:List Value) (vs:List V) (Q:VK) (E:XK),cg k A->eB P w K mg base A outer s H->BindsTo s fd args (ps.zip us)->av vs us->sp vs H Q E ->
  JC (IY P w) A (.call (.ref f) args) (CR CX outer P w H s Q E) s
section
variable{X:Cx}{pins:List (Addr×Obj)}{σ:St}{H:Hp}{s s':Shared}
def Inv.env0(I:Inv X pins σ H s):eB X.prog X.w X.K X.mg X.base X.A X.stack s H:=
 ⟨I.ok.frames,I.ok.mod,I.bs,Qu I.ok.bsz I.sz,I.stack,I.stkFree,I.hok,I.bare⟩
def Inv.after (I:Inv X pins σ H s)(h:CE X.stack X.prog X.w H s Q u s'):EP X pins σ Q u s':=by
 obtain⟨v,H',os,bare,un,hok,r,q⟩:=h;obtain⟨hh,g,d,t,os'⟩:=s';obtain rfl:os'=s.os:=os;exact⟨v,H',I.call (h':=hh) (g':=g) (d':=d) (t':=t) (ch:=[]) un hok bare (λb z=>Lr z (by simp)),r,q⟩
end
def x4(sp:Sp)(dvs:List V)(E:XK)(t:TA):TE:=λσ H Q=>t σ H λvs H1=>sp (vs++dvs) H1 Q E
def Binds(K:Qb)(fd:JB)(ps:List Str)(ds:List Value):Prop:=
 ∀(s:Shared) (us:List Value),K.In s.heap->(us++ds).length=ps.length->BindsTo s fd ⟨us,[]⟩ (ps.zip (us++ds))
def Binds.all{K:Qb}{fd:JB}{ps:List Str}(h:∀us:List Value,us.length=ps.length->bindArgs fd ⟨us,[]⟩=pure (ps.zip us)):Binds K fd ps []:=λs us _ hl=>by
 rw[QW]at hl ⊢;exact .of_eq (h us hl)
def lT(CX:dX)(X:Cx)(E:XK):Prop:=∀(pins:List (Addr×Obj)) (σ:St) (H:Hp) (s:Shared) (e:Value) (s':Shared),Inv X pins σ H s->CX X.stack H s E e s'->X.xe e s'
section
variable{X:Cx}{CX:dX}{k:Nat}{f:Addr}{fd:JB}{ps:List Str}{sp:Sp}{dvs:List V}{ds:List Value}{E:XK}{x:Str}{p pos:Pos}{e:Expr}{es:List Expr}{t:TA}
def B7 (F:cN X.prog X.w X.K X.mg X.base CX k f fd ps sp)(hr:cg k X.A)(hb:Binds X.K fd ps ds)(hd:av dvs ds)(hx:lT CX X E)(I:Inv X pins σ H s)(r:av vs us)(h:sp (vs++dvs) H Q E):IX (IY X.prog X.w) X.A (call (.ref f) us) (EP X pins σ Q) X.xe s:=by
 have r2:av (vs++dvs) (us++ds):=r.append hd;have hl:(us++ds).length=ps.length:=by rw[<-r2.length];exact F.len _ _ _ _ h
 refine wpAny_call (JD (F.run X.A X.stack s H ⟨us,[]⟩ (us++ds) (vs++dvs) Q E hr I.env0 (hb s us I.kIn hl) r2 h) λr s' hq=>?_);cases r with
 |error e=>exact hx pins σ H s e s' I hq
 |ok fl=>
  cases fl with
  |ret u=>exact I.after hq
  |next=>exact False.elim hq
  |brk=>exact False.elim hq
  |cont=>exact False.elim hq
def Dm(F:cN X.prog X.w X.K X.mg X.base CX k f fd ps sp)(hr:cg k X.A)(hg:Gl X x)(hm:X.mg x=some (.ref f))(hk:WU X.K (.ref f)=true)(hb:Binds X.K fd ps ds)(hd:av dvs ds)(hx:lT CX X E)
  (ha:PA X (e::es) t) (hdb:(x==("__debug__":Str))=false:=by decide) (he:I0 (e::es) X.env=(false,eval e X.env)::I0 es X.env:=by rfl) (hpl:(IZ pos (I0 es X.env)).any (·.1)=false:=by rfl) :
  PE X (.Call (.Name x p) (e::es) [] pos) (x4 sp dvs E t):=by
 intro pins s σ H Q I h;refine JE (rP I hg hm ?_ hdb);refine PySem.W.callWith_K (h₀:=X.base) I.ok.mod.kin hk (aW (ha pos pins s σ H _ I h) λus s1 ⟨vs,H1,I1,r,q⟩=>⟨I1.kIn,?_⟩) he hpl;exact B7 F hr hb hd hx I1 r q
end
structure cy(N P:List Str)(sc:IN):Prop where
 kind:sc.kind=.function
 co:sc.isCoroutine=false
 gen:sc.isGenerator=false
 nd:N.Nodup
 pre:N.take P.length=P
 par:∀x∈P,sc.names.lookup x=some .local\/sc.names.lookup x=some .cell
 nofree:∀y∈sc.names,y.2≠.free
theorem jR {kindOf:Str->Option JF}:∀{binds:List (Str×Value)}{m:Str->Option Value},(∀v,(x,v)∉binds)->JG kindOf binds m x=m x
 |[],_,_=>rfl
 |(n,v)::r,m,h=>by
  unfold JG;rw[jR λw hw=>h w (Qk _ hw)];split
  .have:x≠n:=by rintro rfl;exact h v QX
   simp[this]
  .rfl
theorem jS {kindOf:Str->Option JF}:∀{binds:List (Str×Value)}{m:Str->Option Value},(∀v,(x,v)∉binds)->JH kindOf binds m x=m x
 |[],_,_=>rfl
 |(n,v)::r,m,h=>by
  unfold JH;rw[jS λw hw=>h w (Qk _ hw)];split
  .rfl
  .have:x≠n:=by rintro rfl;exact h v QX
   simp[this]
theorem jT {kindOf:Str->Option JF}:∀{P:List Str}{vs:List Value}{i:Nat}{m:Str->Option Value},P.Nodup->P[i]?=some x->vs[i]?=some v->kindOf x=some .local ->
  JG kindOf (P.zip vs) m x=some v
 |[],_,_,_,_,h,_,_=>by simp at h
 |_::_,[],_,_,_,_,h,_=>by simp at h
 |p::P,w::vs,0,m,nd,h1,h2,hk=>by
  simp at h1 h2;subst h1;subst h2;show JG kindOf ((p,w)::P.zip vs) m p=_;unfold JG;rw[jR λv hv=>(QV.mp nd).1 (VJ hv).1,Lp hk];simp
 |p::P,w::vs,i+1,m,nd,h1,h2,hk=>by
  show JG kindOf ((p,w)::P.zip vs) m x=_;unfold JG;exact jT (i:=i) (QV.mp nd).2 (by simpa using h1) (by simpa using h2) hk
theorem jU {kindOf:Str->Option JF}:∀{P:List Str}{vs:List Value}{i:Nat}{m:Str->Option Value},P.Nodup->P[i]?=some x->vs[i]?=some v->kindOf x≠some .local ->
  JH kindOf (P.zip vs) m x=some v
 |[],_,_,_,_,h,_,_=>by simp at h
 |_::_,[],_,_,_,_,h,_=>by simp at h
 |p::P,w::vs,0,m,nd,h1,h2,hk=>by
  simp at h1 h2;subst h1;subst h2;show JH kindOf ((p,w)::P.zip vs) m p=_;unfold JH;rw[jS λv hv=>(QV.mp nd).1 (VJ hv).1,Lq hk];simp
 |p::P,w::vs,i+1,m,nd,h1,h2,hk=>by
  show JH kindOf ((p,w)::P.zip vs) m x=_;unfold JH;exact jU (i:=i) (QV.mp nd).2 (by simpa using h1) (by simpa using h2) hk
noncomputable def start(N:List Str)(vs:List V):St:=vs.map some++Qq (N.length-vs.length) none
noncomputable def qH(CX:dX)(P:IQ)(w:IR)(K:Qb)(mg:Str->Option Value)(base:IS)(N:List Str)(qual:Str)(scope:IN)(f:Addr)(cd:Value)(A:IV)(outer:List Env)(s:Shared)(H:Hp)(E:XK):Cx where
 prog:=P
 w:=w
 K:=K
 mg:=mg
 base:=base
 A:=A.deeper (JI qual scope s.heap.objs.size f cd)
 N:=N
 s₀:=s
 H₀:=H
 env:=JI qual scope s.heap.objs.size f cd
 outer:=outer
 stack:=JI qual scope s.heap.objs.size f cd::outer
 ex:=[]
 calm:=true
 fn:=λ_=>true
 pn:=[]
 xe:=λe s'=>IX (IY P w) (A.deeper (JI qual scope s.heap.objs.size f cd)) (leaving (JI qual scope s.heap.objs.size f cd) e) (λ_ s''=>CX outer H s E e s'') (λe' s''=>CX outer H s E e' s'') s'
def qI {sc:IN}(h:sc.names.lookup x=some .cell):∃c,(JJ n sc.names []).lookup x=some c:=by
 have q:=Vk sc.names n [] (.inl h);exact Wz.mp q
def FL {K:Qb}(S:cy N ps scope)(hd:A.handled=none)(e0:eB P w K mg base A outer s H)(hl:vs.length=ps.length)(r:av vs us)(x:InCallC s s.heap.objs.size (JG (JI qual scope s.heap.objs.size f cd).kindOf (ps.zip us) λ_=>none) (JJ (s.heap.objs.size+1) scope.names []) (JH (JI qual scope s.heap.objs.size f cd).kindOf (ps.zip us) λ_=>none) s1):
  Inv (qH CX P w K mg base N qual scope f cd A outer s H E) [] (start N vs) H s1:=by
 have hpl:ps.length<=N.length:=by have:=Ls List.length S.pre;rw[QR]at this;lia
 obtain⟨h1,tk,rfl,hk⟩:=x.done;have noA:∀b:Addr,b∉(qH CX P w K mg base N qual scope f cd A outer s H E).ex:=λb z=>Lr (show b∈([]:List Addr)from z) (by simp);refine⟨⟨e0.mod,S.kind,rfl,rfl,Qg _,λy z c h1 h2=>?_,λy hy=>?_,λy c _ h=>?_,λ_=>hd,Around.frames_deeper e0.frames,.inr ⟨rfl,rfl⟩,λb z=>Lr z (noA b),e0.bs,e0.bsz,λb _ _=>noA b,λb z=>Lr z (noA b),e0.funs,e0.frf⟩,
  rfl,e0.bare,Un.kept hk,⟨_,x.toInCall.ns,λi y v h1 h2 h3=>?_⟩,λy c h=>⟨_,x.cell y c h⟩,e0.hok.fresh (Qg _),λy c h=>?_,λp hp=>Lr (show p∈([]:List (Addr×Obj))from hp) (by simp),e0.hok.kept hk,?_⟩
 .exact name_of_addr x.apart (PySem.mem_of_lookup h1) (PySem.mem_of_lookup h2)
 .have hy:scope.names.lookup y=some .cell\/scope.names.lookup y=some .free:=hy;rcases hy with hy|hy
  .exact qI hy
  .exact Lr rfl (S.nofree _ (PySem.mem_of_lookup hy))
 .exact Vt (x.above y c (PySem.mem_of_lookup h))
 .have hi:i<vs.length:=by
   unfold start at h2;by_cases hi:i<vs.length
   .exact hi
   .rw[Qd (by simpa using hi)]at h2;rw[Vo]at h2;split at h2<;>cases h2
  have ha:vs[i]?=some v:=by
   unfold start at h2;rw[Qf (by simpa using hi),Qs]at h2;cases e:vs[i]? with
   |none=>rw[e]at h2;cases h2
   |some a=>rw[e]at h2;cases h2;rfl
  obtain⟨u,hu,rv⟩:=r.get ha;have hp:ps[i]?=some y:=by
   rw[<-S.pre,Qv (by lia)];exact h1
  have ndP:ps.Nodup:=by rw[<-S.pre];exact S.nd.sublist (Wi _ _)
  refine⟨u,rv,?_⟩;rcases S.par y (Qr hp)with k|k
  .exact .inl ⟨k,jT ndP hp hu k⟩
  .obtain ⟨c,e⟩:=qI (n:=s.heap.objs.size+1) k;refine .inr ⟨.inl k,c,e,?_⟩;have q:=x.cell y c e;rw[jU ndP hp hu (by show scope.names.lookup y≠_;rw[k];decide)]at q;exact q
 .exact e0.hok.fresh (Vt (x.above y c (PySem.mem_of_lookup h)))
 .unfold start;show _=N.length;rw[QH,Qp,List.length_replicate];lia
set_option tactic.hygienic true in
def x3 {K:Qb}{kV:Value}(lk:K.lookup f=some ⟨oc,od,.func (WM name qual params body scope dV kV doc pm an cdv ct),osl⟩)(hcd:Vs K cdv qual=true)(S:cy N ps scope)(len:∀vs H Q E,sp vs H Q E->vs.length=ps.length)(hbody:∀(A:IV) (outer:List Env) (s:Shared) (H:Hp) (vs:List V) (Q:VK) (E:XK),cg k (A.deeper (JI qual scope s.heap.objs.size f cdv))->sp vs H Q E ->
   ∃t,cC (qH CX P w K mg base N qual scope f cdv A outer s H E) body t/\t {nx:=λ_ H'=>Q .non H',rt:=Q} (start N vs) H):
  cN P w K mg base CX (k+1) f (WM name qual params body scope dV kV doc pm an cdv ct) ps sp:=by
 refine⟨len,λA outer s H args us vs Q E hr e0 hb r hsp=>?_⟩;have hl:=len _ _ _ _ hsp;have KX:K.In s.heap:=e0.mod.kin.keeps λb o e=>(e0.bs b o e).1;have aq:s.heap.NoLimit:=e0.mod.nolimit.keeps λb o e=>(e0.bs b o e).1;have hkind:∀y∈ps.zip us,scope.names.lookup y.1=some .local\/(scope.names.lookup y.1=some .cell/\((JJ (s.heap.objs.size+1) scope.names []).lookup y.1).isSome=true):=λ⟨n,v⟩ hy=>by
  rcases S.par n (VJ hy).1 with q|q
  .exact .inl q
  .exact .inr ⟨q,Vk _ _ _ (.inl q)⟩
 refine codeAny_call_function hr.depth (KX _ _ lk) rfl S.co S.gen rfl (PySem.W.codeRec_of KX hcd) (hb _ _ _ _ ?_);refine wpAny_newFunctionEnv_cells S.kind hkind λenv he s1 x=>?_;subst he;refine⟨aq.keeps x.toInCall.keep,codeAny_func ?_⟩;obtain⟨t,ht,hq⟩:=hbody A outer s H vs Q E (hr.deeper _) hsp;have I:Inv (qH CX P w K mg base N qual scope f cdv A outer s H E) [] (start N vs) H s1:=FL S hr.hd e0 hl r x;refine Ja (ht [] s1 (start N vs) H _ I hq) (λfl s' hs=>?_) λe s' hs=>hs;have fin:∀{σ':St}{H':Hp}{v:V}{u:Value},Inv (qH CX P w K mg base N qual scope f cdv A outer s H E) [] σ' H' s'->RelV v u->Q v H'->CE outer P w H s Q u s':=
  λ{σ' H' v u} J rv q=>⟨v,H',J.os,J.bare,J.base,J.hok,rv,q⟩
 cases fl with
 |ret u=>
  obtain⟨v,σ',H',J,rv,q⟩:=hs;exact fin J rv q
 |next=>
  obtain⟨σ',H',J,q⟩:=hs;exact fin (v:=V.non) (u:=Value.none) J rfl q
 |brk=>
  obtain⟨_,_,_,q⟩:=hs;exact False.elim q
 |cont=>
  obtain⟨_,_,_,q⟩:=hs;exact False.elim q
section
variable{X:Cx}{x:Str}{p pos:Pos}{e:Expr}{es:List Expr}{t:TA}{id T:String}{r:List V->Hp->VK->Prop}
def mm(r:List V->Hp->VK->Prop)(t:TA):TE:=λσ H Q=>t σ H λvs H1=>r vs H1 Q
def yO(hc:bp X (.builtin id) r)(hg:Gl X x)(hm:X.mg x=none)(hv:IU x=some (.builtin id))(ha:PA X (e::es) t)(hn:x ≠ "__name__":=by decide)(hdb:(x==("__debug__":Str))=false:=by decide)
  (he:I0 (e::es) X.env=(false,eval e X.env)::I0 es X.env:=by rfl) (hpl:(IZ pos (I0 es X.env)).any (·.1)=false:=by rfl):PE X (.Call (.Name x p) (e::es) [] pos) (mm r t):=by
 intro pins s σ H Q I h;refine JE (wd I hg hm hv ?_ hn hdb);exact PyProof.Rows.callWith_builtin1 (aW (ha pos pins s σ H _ I h) λus s1 ⟨vs,H1,I1,r1,q1⟩=>hc pins s1 σ H1 vs us Q I1 r1 q1) he hpl
def vO(hc:bp X (.type T) r)(hg:Gl X x)(hm:X.mg x=none)(hv:IU x=some (.type T))(ha:PA X (e::es) t)(hn:x ≠ "__name__":=by decide)(hdb:(x==("__debug__":Str))=false:=by decide)
  (he:I0 (e::es) X.env=(false,eval e X.env)::I0 es X.env:=by rfl) (hpl:(IZ pos (I0 es X.env)).any (·.1)=false:=by rfl):PE X (.Call (.Name x p) (e::es) [] pos) (mm r t):=by
 intro pins s σ H Q I h;refine JE (wd I hg hm hv ?_ hn hdb);exact PyProof.Rows.callWith_type1 (aW (ha pos pins s σ H _ I h) λus s1 ⟨vs,H1,I1,r1,q1⟩=>hc pins s1 σ H1 vs us Q I1 r1 q1) he hpl
end
end L2
namespace HT
open PySem PyProof.Rows
noncomputable def lexLt:List Int->List Int->Bool
 |[],[]=>false
 |[],_::_=>true
 |_::_,[]=>false
 |x::xs,y::ys=>if x=y then lexLt xs ys else decide (x<y)
def bn(x y:Int)(xs ys:List Int):lexLt (x::xs) (y::ys)=if x=y then lexLt xs ys else decide (x<y):=rfl
def dE(A:IV)(s:Shared)(a:Int)(t:Tok)(c:Int)(u:Tok)(prog:IQ)(w:IR)(E:Value->Shared->Prop)(Q:Value->Shared->Prop)(h:Q (.bool (decide (a<c))) s):
  IX (IY prog w) A (richCompare .Lt (.int a t) (.int c u)) Q E s:=
 (PyProof.Rows.lt_int h:IX (IY prog w) A (Jw .Lt (.int a t) (.int c u)) Q E s)
section
variable{prog:IQ}{w:IR}{A:IV}{E:Value->Shared->Prop}{s:Shared}
def en (ht:IsTup s.heap t vs.toArray)(hb:IsTup s.heap b ws.toArray)(hv:vs≠[])(h1:ws=[]->Q (.ref t) s)(h2:ws≠[]->Q (.ref s.heap.objs.size) {s with heap:=s.heap.push {cls:=.type "tuple",data:=.seq (vs++ws).toArray} })(hsz:vs.length+ws.length<=sizeLine):IX (IY prog w) A (Jv .Add (.ref t) (.ref b)) Q E s:=by
 obtain⟨⟨cls,dd,data,sl⟩,ho,hc,n,hd⟩:=id ht;obtain⟨⟨cls2,dd2,data2,sl2⟩,ho2,hc2,n2,hd2⟩:=id hb;simp only at hc hd hc2 hd2;subst hc hd hc2 hd2;have e:vs.toArray++ws.toArray=(vs++ws).toArray:=by simp
 by_cases hw:ws=[]
 .exact JK ⟨_,ho,rfl⟩ ⟨_,ho2,rfl⟩ JL JM PySem.F.slot_tuple_add PySem.F.entry_tuple_add (PySem.F.args_tuple_add_2 _ _)
   (tuple_addW1 t b vs.toArray ws.toArray n n2 dd dd2 sl sl2 (by simpa using hv) (by simp[hw])) ⟨ho,ho2,h1 hw⟩
 .refine JK ⟨_,ho,rfl⟩ ⟨_,ho2,rfl⟩ JL JM PySem.F.slot_tuple_add PySem.F.entry_tuple_add (PySem.F.args_tuple_add_2 _ _)
   (tuple_addW2 t b vs.toArray ws.toArray n n2 dd dd2 sl sl2 (by simpa using hv) (by simpa using hw) (by rw[Qz,Qz];exact hsz)) ⟨ho,ho2,?_⟩
  rw[e];exact h2 hw
noncomputable def aP(n d:Nat):Option Int->Nat
 |none=>d
 |some v=>if v<0 then(v+(n:Int)).toNat else min v.toNat n
def B6(n d:Nat)(hd:d<=n)(o:Option Int):aP n d o<=n:=by
 cases o with
 |none=>exact hd
 |some v=>
  show(if v<0 then(v+(n:Int)).toNat else min v.toNat n)<=n;by_cases hv:v<0
  .rw[Lp hv];lia
  .rw[Lq hv];exact Nat.min_le_right _ _
def rO(v:Int)(n d:Nat):(if v<0 then max (v+(n:Int)) 0 else min v (n:Int))=((aP n d (some v):Nat):Int):=by
 show(if v<0 then max (v+(n:Int)) 0 else min v (n:Int))=(((if v<0 then(v+(n:Int)).toNat else min v.toNat n):Nat):Int);by_cases hv:v<0
 .simp only[Lp hv];lia
 .simp only[Lq hv];lia
def Gk(lo hi:Option Int)(n:Nat):Builtin.Slice.sliceAdjust lo hi 1 (n:Int)=(((aP n 0 lo:Nat):Int),((aP n n hi:Nat):Int)):=by
 have h1:¬((1:Int)<0):=by lia
 unfold Builtin.Slice.sliceAdjust;simp only[h1,if_false];refine Prod.ext ?_ ?_
 .cases lo with
  |none=>rfl
  |some v=>exact rO v n 0
 .cases hi with
  |none=>rfl
  |some v=>exact rO v n n
def Gj(i j:Nat):Builtin.Slice.slicePlaces (i:Int) (j:Int) 1=j-i:=by
 unfold Builtin.Slice.slicePlaces;have h1:(1:Int) > 0:=by lia
 simp only[h1,if_true,Int.ediv_one];split<;>lia
def kK (p:JN v o)(h:Q o s):IX (IY prog w) A (Builtin.Slice.slicePartIndex v) Q E s:=by
 cases p with
 |none=>exact slicePart_none h
 |int i t=>exact slicePart_int h
def vP {lo:Option Int}{Q:Int×Int×Nat->Shared->Prop}(hs:s.heap.IsSliceOf sl vl vu .none)(pl:JN vl lo)(pu:JN vu hi)(h:Q (((aP n 0 lo:Nat):Int),1,aP n n hi-aP n 0 lo) s):IX (IY prog w) A (Builtin.Slice.sliceApplied (.ref sl) (pure (n:Int))) Q E s:=by
 obtain⟨os,hos,hcs,hds⟩:=id hs;unfold Builtin.Slice.sliceApplied Builtin.Slice.sliceFields;refine Jj (Jj (JO hos hds (x:=vl) rfl (Jj (JO hos hds (x:=vu) rfl (Jj (JO hos hds (x:=.none) rfl (Jp ?_)))))));refine Jj (slicePart_none ?_);show IX _ _ (if((1:Int)==0)=true then _ else _) _ _ s;rw[Lq (by decide)];refine Jj (kK pl (Jj (kK pu (Jj (Jp ?_)))));show IX _ _ (match Builtin.Slice.sliceAdjust lo hi 1 (n:Int)with|(lo,hi)=>pure (lo,(1:Int),Builtin.Slice.slicePlaces lo hi 1)) _ _ s;rw[Gk lo hi n];show IX _ _ (pure (((aP n 0 lo:Nat):Int),(1:Int),Builtin.Slice.slicePlaces ((aP n 0 lo:Nat):Int) ((aP n n hi:Nat):Int) 1)) _ _ s;rw[Gj];exact Jp h
def ER(xs:Array Value)(i k:Nat):((QL k).filterMap λ(m:Nat)=>xs[((i:Int)+(m:Int)*1).toNat]?).toArray=((xs.toList.drop i).take k).toArray:=by
 have e:(λ(m:Nat)=>xs[((i:Int)+(m:Int)*1).toNat]?)=λm=>xs[i+m]?:=by
  funext m;have:((i:Int)+(m:Int)*1).toNat=i+m:=by lia
  rw[this]
 rw[e];have:=pick_run xs i k;rw[List.filterMap_map]at this;have e2:((λx=>xs[x]?) ∘ λx=>i+x)=λm=>xs[i+m]?:=rfl;rw[e2]at this;rw[this]
def cn {lo:Option Int}(ht:IsTup s.heap t items)(hs:s.heap.IsSliceOf sl vl vu .none)(pl:JN vl lo)(pu:JN vu hi)(hw:¬(aP items.size 0 lo=0/\aP items.size items.size hi=items.size))(h:Q (.ref s.heap.objs.size) {s with heap:=s.heap.push {cls:=.type "tuple",data:=.seq ((items.toList.drop (aP items.size 0 lo)).take (aP items.size items.size hi-aP items.size 0 lo)).toArray} })(hsz:items.size<=sizeLine):IX (IY prog w) A (JP (.ref t) (.ref sl)) Q E s:=by
 have htake:sizeOk (.seq ((items.toList.drop (aP items.size 0 lo)).take (aP items.size items.size hi-aP items.size 0 lo)).toArray):=by
  show((items.toList.drop (aP items.size 0 lo)).take (aP items.size items.size hi-aP items.size 0 lo)).toArray.size<=sizeLine;rw[Qz,QR,WP,QT];lia
 have hj:aP items.size items.size hi<=items.size:=B6 _ _ (Qg _) hi;obtain⟨os,hos,hcs,hds⟩:=id hs;have hTs:s.TypeIs (.ref sl) "slice":=⟨os,hos,hcs⟩;unfold JP
 try with_reducible refine Jk ?_
 first|refine Jj (Jp ?_)|skip
 refine Jj (wpAny_sequenceKey ht.typeIs (by decide) ?_);refine Jj (JQ (name:=Str.ofString "__getitem__") ht.typeIs PyProof.Rows.slot_tuple_getitem
  (JR PyProof.Rows.slot_tuple_getitem ht.typeIs entry_tuple_getitem ?_ (args_tuple_getitem _ _)))
 show IX _ _ (Builtin.Tuple.tupleItemsOf (.ref t) >>= _) _ _ s;refine Jj (tupleItemsOf_ ht ?_);refine Jj (JS hTs ?_);rw[Lp (by decide)];refine Jj (vP hs pl pu ?_);have hno:¬((((aP items.size 0 lo:Nat):Int)==0&&(1:Int)==1&&(aP items.size items.size hi-aP items.size 0 lo)==items.size)=true):=by
  intro q;rw[Qh,Qh]at q;have q1:((aP items.size 0 lo:Nat):Int)=0:=eq_of_beq q.1.1;have q2:aP items.size items.size hi-aP items.size 0 lo=items.size:=eq_of_beq q.2;exact hw ⟨by lia,by lia⟩
 show IX _ _ (if(((aP items.size 0 lo:Nat):Int)==0&&(1:Int)==1&&(aP items.size items.size hi-aP items.size 0 lo)==items.size)=true then _ else _) _ _ s;rw[Lq hno,ER]
 first
  |exact Jj (m:=Builtin.Tuple.tupleExact _) (JT (Jp ⟨_,rfl,Jp h⟩) htake)
  |exact Jj (m:=Builtin.Tuple.tupleExact _) (JT (Jj (Jp (Jp ⟨_,rfl,Jp h⟩))) htake)
  |exact Jj (Jj (m:=Builtin.Tuple.tupleExact _) (JT (Jp (Jp ⟨_,rfl,Jp h⟩)) htake))
  |exact Jj (Jj (m:=Builtin.Tuple.tupleExact _) (JT (Jp ⟨_,rfl,Jp h⟩) htake))
end
end HT
namespace L2
open PySem PySem.Spec PyProof.Rows
abbrev TO:=St->Hp->(Option Int->Hp->Prop)->Prop
def PO(X:Cx)(e:Option Expr)(t:TO):Prop:=
 ∀(pins:List (Addr×Obj)) (s:Shared) (σ:St) (H:Hp) (Q:Option Int->Hp->Prop),Inv X pins σ H s->t σ H Q ->
  IX (IY X.prog X.w) X.A (evalPart e X.env) (λu s'=>∃o H',Inv X pins σ H' s'/\JN u o/\Q o H') X.xe s
def Dl:TO:=λ_ H Q=>Q none H
def u9(t:TE):TO:=λσ H Q=>t σ H λx H1=>∃i,x=.int i/\Q (some i) H1
section
variable{X:Cx}{e:Expr}{te:TE}{lo hi:Option Expr}{tl th:TO}{pos p2:Pos}
def Dj:PO X none Dl:=by
 intro pins s σ H Q I h;rw[JU];exact Jp ⟨none,H,I,.none,h⟩
def Di(h:PE X e te):PO X (some e) (u9 te):=by
 intro pins s σ H Q I hw;rw[evalPart_some];refine aW (h pins s σ H _ I hw) λu s1 ⟨x,H1,I1,r1,q1⟩=>?_;obtain⟨i,rfl,q⟩:=q1;obtain⟨t,rfl⟩:=r1;exact⟨some i,H1,I1,.int i t,q⟩
def fq(X:Cx)(r:V->Option Int->Option Int->Hp->VK->Prop):Prop:=
 ∀(pins:List (Addr×Obj)) (s:Shared) (σ:St) (H:Hp) (x:V) (v vl vu:Value) (lo hi:Option Int) (sl:Addr) (Q:VK),Inv X pins σ H s->RelV x v->s.heap.IsSliceOf sl vl vu .none->JN vl lo->JN vu hi->r x lo hi H Q ->
  ∃T id,typeLookup (.type T) "__getitem__"=pure (some (.builtin id))/\s.TypeIs v T/\IX (IY X.prog X.w) X.A (JP v (.ref sl)) (EP X pins σ Q) X.xe s
def fq.or{r r':V->Option Int->Option Int->Hp->VK->Prop}(h:fq X r)(h':fq X r'):fq X (λx lo hi H Q=>r x lo hi H Q\/r' x lo hi H Q):=by
 intro pins s σ H x v vl vu lo hi sl Q I rx hs pl pu q;rcases q with q|q
 .exact h pins s σ H x v vl vu lo hi sl Q I rx hs pl pu q
 .exact h' pins s σ H x v vl vu lo hi sl Q I rx hs pl pu q
def Gv(r:V->Option Int->Option Int->Hp->VK->Prop)(te:TE)(tl th:TO):TE:=λσ H Q=>te σ H λx H1=>tl σ H1 λl H2=>th σ H2 λu H3=>r x l u H3 Q
def EQ (hr:fq X r)(he:PE X e te)(hl:PO X lo tl)(hu:PO X hi th):PE X (.Subscript e (.Slice lo hi none p2) pos) (Gv r te tl th):=by
 intro pins s σ H Q I h;refine Subscript_ (aW (he pins s σ H _ I h) λv s1 ⟨x,H1,I1,r1,q1⟩=>?_);refine wpAny_Slice (aW (hl pins s1 σ H1 _ I1 q1) λvl s2 ⟨l,H2,I2,pl,q2⟩=>aW (hu pins s2 σ H2 _ I2 q2) λvu s3 ⟨u,H3,I3,pu,q3⟩=>?_);rw[JU];refine Jp ?_;have I4:Inv X pins σ H3 {s3 with heap:=s3.heap.push {cls:=.type "slice",data:=.fields #[vl,vu,.none]} }:=I3.kept (t':=s3.toks) λb ob q=>Qc _ q;obtain⟨T,id,hT,ht,hg⟩:=hr pins {s3 with heap:=s3.heap.push {cls:=.type "slice",data:=.fields #[vl,vu,.none]} } σ H3 x v vl vu l u s3.heap.objs.size Q I4 r1 (Heap.IsSliceOf.new ..) pl pu q3;show IX (IY X.prog X.w) X.A (JV e (.Slice lo hi none p2) v (.ref s3.heap.objs.size)) (EP X pins σ Q) X.xe {s3 with heap:=s3.heap.push {cls:=.type "slice",data:=.fields #[vl,vu,.none]} };exact tail_any (ops:=[.ref s3.heap.objs.size,v]) ht hT hg (by with_unfolding_all rfl)
noncomputable def jH(xs:List V)(lo hi:Option Int):List V:=(xs.drop (HT.aP xs.length 0 lo)).take (HT.aP xs.length xs.length hi-HT.aP xs.length 0 lo)
def kg(xs:List V)(lo hi:Option Int):(jH xs lo hi).length<=xs.length:=by
 unfold jH;rw[QR,WP];lia
def nF(K:Qb):V->Option Int->Option Int->Hp->VK->Prop:=λx lo hi H Q=>∃a xs,x=.ref a/\bM K H a xs /\
 ¬(HT.aP xs.length 0 lo=0/\HT.aP xs.length xs.length hi=xs.length)/\∀p,H p=none->Q (.ref p) (aH H p (.tup (jH xs lo hi)))
def B5:fq X (nF X.K):=by
 intro pins s σ H x v vl vu lo hi sl Q I rx hs pl pu h;obtain⟨a,xs,rfl,hx,hw,q⟩:=h;cases rx;obtain⟨its,r,ht,hz⟩:=I.tuple hx;have hlen:its.toArray.size=xs.length:=by rw[Qz];exact r.length.symm
 refine⟨"tuple",_,PyProof.Rows.slot_tuple_getitem.lookup,ht.typeIs,?_⟩;refine HT.cn ht hs pl pu (by rw[hlen];exact hw) ?_ (by rw[hlen];exact hz);rw[hlen];refine⟨.ref s.heap.objs.size,_,I.laid (t':=s.toks) (o:=.tup (jH xs lo hi)) (λb ob q=>Qc _ q) (Qg _) ?_,rfl,q _ (I.hok.fresh (Qg _))⟩;exact⟨Qu (kg xs lo hi) hz,_,(r.drop (HT.aP xs.length 0 lo)).take (HT.aP xs.length xs.length hi-HT.aP xs.length 0 lo),IsTup.new _ _⟩
def ox(K:Qb):R2:=λx y H Q=>∃a b xs ys,x=.ref a/\y=.ref b/\bM K H a xs/\bM K H b ys/\xs≠[]/\xs.length+ys.length<=sizeLine /\
 (ys=[]->Q (.ref a) H)/\(ys≠[]->∀p,H p=none->Q (.ref p) (aH H p (.tup (xs++ys))))
def av.nil_iff (r:av xs us):us=[]↔xs=[]:=by
 cases r with
 |nil=>simp
 |cons _ _=>simp
def ef:cc X (Jv .Add) (ox X.K):=by
 intro pins s σ H x y v u Q I rx ry h;obtain⟨a,b,xs,ys,rfl,rfl,ha,hb,hx,hz,q1,q2⟩:=h;cases rx;cases ry;obtain⟨its,r1,p1,_⟩:=I.tuple ha;obtain⟨its2,r2,p2,_⟩:=I.tuple hb;refine HT.en p1 p2 (λz=>hx (r1.nil_iff.mp z)) (λz=>⟨.ref a,H,I,rfl,q1 (r2.nil_iff.mp z)⟩) (λz=>?_) (by rw[<-r1.length,<-r2.length];exact hz);refine⟨.ref s.heap.objs.size,_,I.laid (t':=s.toks) (o:=.tup (xs++ys)) (λb ob q=>Qc _ q) (Qg _) ?_,rfl,q2 (λw=>z (r2.nil_iff.mpr w)) _ (I.hok.fresh (Qg _))⟩;exact⟨by rw[QH];exact hz,_,r1.append r2,IsTup.new _ _⟩
end
def ik(n:Nat)(i:Int):Option Nat:=if 0<=i then(if i<n then some i.toNat else none)else if -(n:Int)<=i then some (i+n).toNat else none
noncomputable def fk{α:Type}(xs:List α)(i:Int):Option α:=(ik xs.length i).bind λj=>xs[j]?
def Dh (h:ik n i=some j):seqIndex? i n=some j/\j<n/\-(n:Int)<=i/\i<n:=by
 unfold ik at h;by_cases h0:0<=i
 .rw[Lp h0]at h;by_cases h1:i<n
  .rw[Lp h1]at h;have e:i.toNat=j:=Option.some.inj h;exact⟨by rw[seqIndex_of h0 h1,e],by lia,by lia,h1⟩
  .rw[Lq h1]at h;cases h
 .rw[Lq h0]at h;by_cases h1:-(n:Int)<=i
  .rw[Lp h1]at h;have e:(i+n).toNat=j:=Option.some.inj h;exact⟨by rw[seqIndex_neg (by lia) h1,e],by lia,h1,by lia⟩
  .rw[Lq h1]at h;cases h
def gE (h:fk xs i=some v):∃j,seqIndex? i xs.length=some j/\xs[j]?=some v/\j<xs.length/\-(xs.length:Int)<=i/\i<xs.length:=by
 unfold fk at h;cases e:ik xs.length i with
 |none=>rw[e]at h;cases h
 |some j=>
  rw[e]at h;obtain⟨h1,h2,h3,h4⟩:=Dh e;exact⟨j,h1,h,h2,h3,h4⟩
def gF(b:Expr):Prop:=∀o i,subscripted b false o i=operate [o,i] (JP o i)
def dU(X:Cx)(r:R2):Prop:=
 ∀(value slice:Expr) (pins:List (Addr×Obj)) (s:Shared) (σ:St) (H:Hp) (x y:V) (v u:Value) (Q:VK),Inv X pins σ H s->RelV x v->RelV y u->r x y H Q ->
  subscripted slice false v u=operate [v,u] (JP v u)->IX (IY X.prog X.w) X.A (JV value slice v u) (EP X pins σ Q) X.xe s
def eO(X:Cx)(id:String)(r:V->List V->Hp->VK->Prop):Prop:=
 ∀(pins:List (Addr×Obj)) (s:Shared) (σ:St) (H:Hp) (x:V) (xs:List V) (v:Value) (us:List Value) (Q:VK),Inv X pins σ H s->RelV x v->av xs us->r x xs H Q ->
  IX (IY X.prog X.w) X.A (call (.builtin id) (v::us)) (EP X pins σ Q) X.xe s
section
variable{X:Cx}{a b:Expr}{ta tb:TE}{pos:Pos}
def dU.or{r r':R2}(h:dU X r)(h':dU X r'):dU X (λx y H Q=>r x y H Q\/r' x y H Q):=by
 intro value slice pins s σ H x y v u Q I rx ry q hs;rcases q with q|q
 .exact h value slice pins s σ H x y v u Q I rx ry q hs
 .exact h' value slice pins s σ H x y v u Q I rx ry q hs
def ow (hr:dU X r)(ha:PE X a ta)(hb:PE X b tb)(hs:gF b):PE X (.Subscript a b pos) (ij r ta tb):=by
 intro pins s σ H Q I h;exact Subscript_ (ly ha hb I h λv u s2 x y H2 I2 rx ry q=>hr a b pins s2 σ H2 x y v u Q I2 rx ry q (hs _ _))
def nT(K:Qb):R2:=λx y H Q=>∃p xs i v,x=.ref p/\y=.int i/\bD K H p xs/\fk xs i=some v/\Q v H
def nS(K:Qb):R2:=λx y H Q=>∃p xs i v,x=.ref p/\y=.int i/\bM K H p xs/\fk xs i=some v/\Q v H
def nR:R2:=λx y H Q=>∃z i c,x=.str z/\y=.int i/\z.length<=sizeLine/\fk z.cps.toList i=some c/\Q (.str ⟨#[c]⟩) H
def eg:dU X (nT X.K):=by
 intro value slice pins s σ H x y v u Q I rx ry h hs;obtain⟨p,xs,i,z,rfl,rfl,hq,he,q⟩:=h;cases rx;obtain⟨t,rfl⟩:=ry;obtain⟨its,r,pl,hz⟩:=I.list hq;obtain⟨j,h1,h2,h3,h4,h5⟩:=gE he;obtain⟨w,ew,rw'⟩:=r.get h2;have hl:=r.length;have hn:=gD;have fin:EP X pins σ Q w s:=⟨z,H,I,rw',q⟩;by_cases h0:0<=i
 .have hj:i.toNat=j:=by
   rw[seqIndex_of h0 h5]at h1;exact Option.some.inj h1
  exact item_listR pl.isList h0 (by lia) (by rw[hj];simpa using ew) fin hs
 .have hj:(i+(its.toArray.size:Int)).toNat=j:=by
   rw[seqIndex_neg (by lia) h4]at h1;rw[Qz,<-hl];exact Option.some.inj h1
  exact JW (x:=w) pl.isList.typeIs slot_list_getitem.lookup
   (wpAny_getItem_list_neg (Q:=λr s'=>r=w/\EP X pins σ Q r s') pl.isList (by lia) (by rw[Qz]<;>lia) (by lia) (by rw[hj];simpa using ew) ⟨rfl,fin⟩) hs
def fg:dU X (nS X.K):=by
 intro value slice pins s σ H x y v u Q I rx ry h hs;obtain⟨p,xs,i,z,rfl,rfl,hq,he,q⟩:=h;cases rx;obtain⟨t,rfl⟩:=ry;obtain⟨its,r,pl,hz⟩:=I.tuple hq;obtain⟨j,h1,h2,h3,h4,h5⟩:=gE he;obtain⟨w,ew,rw'⟩:=r.get h2;have hl:=r.length;have hn:=gD;have fin:EP X pins σ Q w s:=⟨z,H,I,rw',q⟩;exact JW (x:=w) pl.typeIs slot_tuple_getitem.lookup
  (getItem_tuple (j:=j) (Q:=λr s'=>r=w/\EP X pins σ Q r s') pl (by lia) (by lia) (by rw[Qz,<-hl];exact h1) (by simpa using ew) ⟨rfl,fin⟩) hs
def B4:dU X nR:=by
 intro value slice pins s σ H x y v u Q I rx ry h hs;obtain⟨z,i,c,rfl,rfl,hz,he,q⟩:=h;obtain⟨t,rfl⟩:=rx;obtain⟨t',rfl⟩:=ry;obtain⟨j,h1,h2,h3,h4,h5⟩:=gE he;have hl:z.cps.toList.length=z.length:=by simp[Str.length]
 rw[hl]at h1 h4 h5;have hn:=gD;exact tail_any (typeIs_str s z t) slot_str_getitem.lookup (getItem_str (c:=c) (by
  have e1:decide (i < -(2^63:Int))=false:=Lo (by lia);have e2:decide (i ≥ 2^63)=false:=Lo (by lia);rw[e1,e2,Bool.or_false]) (by rw[h1];simpa using h2) ⟨.str ⟨#[c]⟩,H,I.tok _,⟨_,rfl⟩,q⟩) hs
def tG(K:Qb):R2:=λx y H Q=>nT K x y H Q\/nS K x y H Q\/nR x y H Q
def B3:dU X (tG X.K):=eg.or (fg.or B4)
def gG(lo hi:Option Int)(n:Nat):(JX lo hi none n).1=((HT.aP n 0 lo:Nat):Int)/\(JX lo hi none n).2.1=((HT.aP n n hi:Nat):Int)/\(JX lo hi none n).2.2=1:=by
 refine⟨?_,?_,rfl⟩
 .cases lo with
  |none=>simp[JX,HT.aP]
  |some i=>
   simp only[JX,HT.aP,Option.getD_none,show(1:Int) > 0 by decide,if_true];by_cases h:i<0
   .simp only[h,if_true]<;>lia
   .simp only[h,if_false]<;>lia
 .cases hi with
  |none=>simp[JX,HT.aP]
  |some i=>
   simp only[JX,HT.aP,Option.getD_none,show(1:Int) > 0 by decide,if_true];by_cases h:i<0
   .simp only[h,if_true]<;>lia
   .simp only[h,if_false]<;>lia
def jI(its:List Value)(lo hi:Option Int):JY its.toArray lo hi none=((its.drop (HT.aP its.length 0 lo)).take (HT.aP its.length its.length hi-HT.aP its.length 0 lo)).toArray:=by
 obtain⟨h1,h2,h3⟩:=gG lo hi its.toArray.size;unfold JY;rw[h1,h2,h3];simp only[sliceRange_one,pick_run,Qz]<;>rfl
def ls(K:Qb):V->Option Int->Option Int->Hp->VK->Prop:=λx lo hi H Q=>∃a xs,x=.ref a/\bD K H a xs/\∀p,H p=none->Q (.ref p) (aH H p (.lst (jH xs lo hi)))
def ee:fq X (ls X.K):=by
 intro pins s σ H x v vl vu lo hi sl Q I rx hs pl pu h;obtain⟨a,xs,rfl,hx,q⟩:=h;cases rx;obtain⟨its,r,ht,hz⟩:=I.list hx;have hlen:=r.length;refine⟨"list",_,slot_list_getitem.lookup,ht.isList.typeIs,?_⟩;refine JZ ht.isList hs pl pu .none (by simp) ?_ (by rw[Qz]<;>lia);rw[jI,<-hlen];refine⟨.ref s.heap.objs.size,_,I.laid (t':=s.toks) (o:=.lst (jH xs lo hi)) (λb ob q=>Qc _ q) (Qg _) ?_,rfl,q _ (I.hok.fresh (Qg _))⟩;exact⟨Qu (kg xs lo hi) hz,_,0,(r.drop (HT.aP xs.length 0 lo)).take (HT.aP xs.length xs.length hi-HT.aP xs.length 0 lo),Qe _ rfl⟩
def gH:bp X (.builtin "len") (λxs H Q=>∃p ys,xs=[.ref p]/\(bD X.K H p ys\/bM X.K H p ys)/\Q (.int ys.length) H):=by
 intro pins s σ H xs us Q I r h;obtain⟨p,ys,rfl,hq,q⟩:=h;obtain⟨u,rfl,rx⟩:=xG r;cases rx;have hn:=gD;rcases hq with hq|hq
 .obtain ⟨its,r',pl,hz⟩:=I.list hq;have hlen:=r'.length;exact Calls.call_len_list pl.isList (by simp only[Qz]<;>lia) ⟨.int ys.length,H,I.tok _,⟨s.toks+1,by rw[Qz,hlen]⟩,q⟩
 .obtain ⟨its,r',pl,hz⟩:=I.tuple hq;have hlen:=r'.length;exact len_tuple pl (by simp only[Qz]<;>lia) ⟨.int ys.length,H,I.tok _,⟨s.toks+1,by rw[Qz,hlen]⟩,q⟩
def gI:bp X (.type "list") (λxs H Q=>∃p ys,xs=[.ref p]/\(bD X.K H p ys\/bM X.K H p ys)/\∀l,H l=none->Q (.ref l) (aH H l (.lst ys))):=by
 intro pins s σ H xs us Q I r h;obtain⟨p,ys,rfl,hq,q⟩:=h;obtain⟨u,rfl,rx⟩:=xG r;cases rx;have fin:∀(its:List Value),av ys its->ys.length<=sizeLine->∀(h':IS) (c':Nat),(∀b o',s.heap.get? b=some o'->h'.get? b=some o') ->
   h'.get? s.heap.objs.size=some {cls:=.type "list",dict:=none,data:=.seq its.toArray c',slots:=#[]}->EP X pins σ Q (.ref s.heap.objs.size) {s with heap:=h' }:=λits r' hz h' c' kp e=>
  ⟨.ref s.heap.objs.size,_,I.laid (t':=s.toks) kp (Qg _) (show bE X.prog X.w _ h' _ (.lst ys)from⟨hz,its,c',r',e⟩),rfl,q _ (I.hok.fresh (Qg _))⟩
 rcases hq with hq|hq
 .obtain ⟨its,r',pl,hz⟩:=I.list hq;have hlen:=r'.length;obtain⟨o,ho,hc,n,hd⟩:=pl.isList;exact call_list_seq p (.inl rfl) ho hc hd (λh' c' kp e=>fin its r' hz h' c' kp e) (by simp only[Qz]<;>lia)
 .obtain ⟨its,r',pl,hz⟩:=I.tuple hq;have hlen:=r'.length;obtain⟨o,ho,hc,n,hd⟩:=pl;exact call_list_seq p (.inr rfl) ho hc hd (λh' c' kp e=>fin its r' hz h' c' kp e) (by simp only[Qz]<;>lia)
def jJ:bp X (.type "tuple") (λxs H Q=>∃p ys,xs=[.ref p]/\((bD X.K H p ys/\∀l,H l=none->Q (.ref l) (aH H l (.tup ys)))\/(bM X.K H p ys/\Q (.ref p) H))):=by
 intro pins s σ H xs us Q I r h;obtain⟨p,ys,rfl,h⟩:=h;obtain⟨u,rfl,rx⟩:=xG r;cases rx;rcases h with⟨hq,q⟩|⟨hq,q⟩
 .obtain ⟨its,r',pl,hz⟩:=I.list hq;have hlen:=r'.length;refine call_tuple_list pl.isList (λh' kp=>?_) (by simp only[Qz]<;>lia);have I1:Inv X pins σ H {s with heap:=h' }:=I.kept (t':=s.toks) kp;have I2:Inv X pins σ (aH H h'.objs.size (.tup ys)) {s with heap:=h'.push {cls:=.type "tuple",data:=.seq its.toArray} } :=
   I1.laid (t':=s.toks) (λb o e=>Qc _ e) (Qg _) (show bE X.prog X.w _ _ _ (.tup ys)from⟨hz,its,r',IsTup.new _ _⟩)
  exact⟨.ref h'.objs.size,_,I2,rfl,q _ (I1.hok.fresh (Qg _))⟩
 .obtain ⟨its,r',pl,hz⟩:=I.tuple hq;exact call_tuple_same pl ⟨.ref p,H,I,rfl,q⟩
def iN(K:Qb)(T:String)(x:V)(H:Hp):Prop:=match x with
 |.ref p=>T="list" /\ ∃xs,bD K H p xs
 |_=>False
def pz (I:Inv X pins σ H s)(r:RelV x v)(ty:iN X.K T x H):
  s.TypeIs v T/\∀a,v=.ref a->∃ob,s.heap.get? a=some ob/\ob.dict=none:=by
 cases x with
 |ref p=>
  cases r;obtain⟨rfl,xs,hq⟩:=ty;obtain⟨its,_,pl,_⟩:=I.list hq;refine⟨pl.isList.typeIs,λa e=>?_⟩;cases e;obtain⟨o,n,e,c,hd,_⟩:=pl;exact⟨o,e,hd⟩
 |_=>exact False.elim ty
def mn(K:Qb)(T:String)(r:V->List V->Hp->VK->Prop)(to:TE):TE:=λσ H Q=>to σ H λx H1=>iN K T x H1/\r x [] H1 Q
def Gy(K:Qb)(T:String)(r:V->List V->Hp->VK->Prop)(to:TE)(t:TA):TE:=λσ H Q=>to σ H λx H1=>iN K T x H1/\t σ H1 λxs H2=>r x xs H2 Q
variable{o e:Expr}{es:List Expr}{to:TE}{t:TA}{name:Str}{apos cpos:Pos}{T id:String}{r:V->List V->Hp->VK->Prop}
def BZ(pa:PlainAttrs T)(slot:Slot T name id)(hty:typeOf (.builtin id)=pure (.type "method_descriptor"))(hm:eO X id r)(ho:PE X o to)
  (hbase:J0 o name X.env (eval o X.env)=eval o X.env:=by rfl) (hline:(apos.endLine==cpos.line)=true:=by rfl):PE X (.Call (.Attribute o name apos) [] [] cpos) (mn X.K T r to):=by
 intro pins s σ H Q I h;refine J1 hbase hline (aW (ho pins s σ H _ I h) λv s1 ⟨x,H1,I1,r1,ty,q1⟩=>?_);obtain⟨h1,h2⟩:=pz I1 r1 ty;exact⟨T,id,pa,slot,hty,h1,h2,Calls.callWith_builtin rfl (PySem.evalArgs_none (hm pins s1 σ H1 x [] v [] Q I1 r1 .nil q1))⟩
def lF(pa:PlainAttrs T)(slot:Slot T name id)(hty:typeOf (.builtin id)=pure (.type "method_descriptor"))(hm:eO X id r)(ho:PE X o to)(ha:PA X (e::es) t)
  (hbase:J0 o name X.env (eval o X.env)=eval o X.env:=by rfl)
  (hfew:((IZ cpos (I0 (e::es) X.env)).all (λx=>! x.1)&&(J2 cpos (J3 [] X.env)).all (λx=>x.1.isSome)
   && decide ((e::es).length+([]:List J4).length+(if([]:List J4).isEmpty then 0 else 1)<30))=true:=by rfl)
  (hline:(apos.endLine==cpos.line)=true:=by rfl) (hs:I0 (e::es) X.env=(false,eval e X.env)::I0 es X.env:=by rfl) (hplain:(IZ cpos (I0 es X.env)).any (·.1)=false:=by rfl) :
  PE X (.Call (.Attribute o name apos) (e::es) [] cpos) (Gy X.K T r to t):=by
 intro pins s σ H Q I h;refine J5 hbase hfew hline rfl (aW (ho pins s σ H _ I h) λv s1 ⟨x,H1,I1,r1,ty,q1⟩=>?_);obtain⟨h1,h2⟩:=pz I1 r1 ty;refine⟨T,id,pa,slot,hty,h1,h2,?_⟩;have hA:=ha cpos pins s1 σ H1 _ I1 q1;rw[hs]at hA ⊢;refine Calls.callWith_builtin (by show(false || (IZ cpos (I0 es X.env)).any (·.1))=false;rw[hplain]<;>rfl) (Calls.evalArgs_plain ?_);exact aW hA λus s2 ⟨vs,H2,I2,r2,q2⟩=>hm pins s2 σ H2 x vs v us Q I2 r1 r2 q2
end
def i6(X:Cx)(id:String)(r:V->List V->Hp->VK->Prop):Prop:=
 ∀(pins:List (Addr×Obj)) (s:Shared) (σ:St) (H:Hp) (x:V) (xs:List V) (v:Value) (us:List Value) (Q:VK),Inv X pins σ H s->RelV x v->av xs us->r x xs H Q ->
  IX (IY X.prog X.w) X.A (call (.builtin id) (v::us)) (EP X pins σ Q) X.xe s
def av.one:∀{x:V}{us:List Value},av [x] us->∃u,us=[u]/\RelV x u
 |_,_,.cons r .nil=>⟨_,rfl,r⟩
def av.zero:∀{us:List Value},av [] us->us=[]
 |_,.nil=>rfl
theorem av.dropLast{xs:List V}{us:List Value}(h:av xs us):av xs.dropLast us.dropLast:=by
 induction h with
 |nil=>exact .nil
 |cons r t ih=>
  cases t with
  |nil=>exact .nil
  |cons q t'=>exact .cons r ih
theorem av.eraseIdx:∀{xs:List V}{us:List Value}(i:Nat),av xs us->av (xs.eraseIdx i) (us.eraseIdx i)
 |_,_,_,.nil=>.nil
 |_,_,0,.cons _ t=>t
 |_,_,i+1,.cons r t=>.cons r (av.eraseIdx i t)
theorem av.reverse{xs:List V}{us:List Value}(h:av xs us):av xs.reverse us.reverse:=by
 induction h with
 |nil=>exact .nil
 |cons r t ih=>rw[Ws,Ws];exact av.append ih (.cons r .nil)
theorem av.rep (h:av xs us):∀k:Nat,av (Qq k xs).flatten (Qq k us).flatten
 |0=>.nil
 |k+1=>by
  rw[Wg,Wg,Q0,Q0];exact av.append h (av.rep h k)
theorem jV(its:List Value):∀(k:Nat) (acc:List Value),
  List.foldl (λx1 x2=>x1++x2) acc.toArray (Qq k its.toArray)=(acc++(Qq k its).flatten).toArray
 |0,acc=>by simp
 |k+1,acc=>by
  have e:acc.toArray++its.toArray=(acc++its).toArray:=by simp
  have e2:(acc++its)++(Qq k its).flatten=acc++(Qq (k+1) its).flatten:=by
   rw[Wg,Q0,Qj]
  rw[<-e2,<-jV its k (acc++its),<-e,Wg,List.foldl_cons]
section
variable{X:Cx}{pins:List (Addr×Obj)}{σ:St}{H:Hp}{s:Shared}{l:Addr}{xs ys:List V}
def Inv.lset{its its':List Value}{n:Nat}{f:Array Value->Array Value}{t':Nat}(I:Inv X pins σ H s)(hH:H l=some (.lst xs))
  (e:s.heap.get? l=some {cls:=.type "list",data:=.seq its.toArray n}) (hf:f its.toArray=its'.toArray) (hv:av ys its') (hz:ys.length<=sizeLine) :
  Inv X pins σ (aH H l (.lst ys)) {s with heap:=s.heap.update l (Obj.mapSeq f),toks:=t' }:=by
 have q:=PySem.IsL.update e f;rw[hf]at q;refine I.write (x:=l) (e:=l) (by rw[hH];exact trivial) (.inl rfl) (λb' u hb hu=>(Heap.get?_update_other s.heap (Obj.mapSeq f) (Ne.symm hb)).trans hu) ⟨_,q⟩ ?_;exact⟨hz,its',_,hv,q⟩
def Inv.lnew{its:List Value}{t':Nat}(I:Inv X pins σ H s)(hv:av ys its)(hz:ys.length<=sizeLine):
  Inv X pins σ (aH H s.heap.objs.size (.lst ys)) {s with heap:=s.heap.push {cls:=.type "list",data:=.seq its.toArray},toks:=t' } :=
 I.laid (λ_ _ q=>Qc _ q) (Qg _) ⟨hz,its,0,hv,Qe _ rfl⟩
theorem Inv.fresh(I:Inv X pins σ H s):H s.heap.objs.size=none:=I.hok.fresh (Qg _)
def Inv.lstM(I:Inv X pins σ H s)(hH:H l=some (.lst xs)):xs.length<=sizeLine/\∃(its:List Value) (n:Nat),av xs its/\xs.length=its.length/\s.heap.get? l=some {cls:=.type "list",data:=.seq its.toArray n}:=by
 obtain⟨z,its,n,r,e⟩:=I.hok l _ hH;exact⟨z,its,n,r,r.length,e⟩
def EO (h:n<=sizeLine):Builtin.List.listTooLong n=false:=by
 unfold Builtin.List.listTooLong;exact Lo (by lia)
end
section
variable{X:Cx}
def Dg:V->List V->Hp->VK->Prop:=λx vs H Q=>∃l xs y,x=.ref l/\vs=[y]/\H l=some (.lst xs)/\xs.length<sizeLine/\Q .non (aH H l (.lst (xs++[y])))
def jW:i6 X "list.append" Dg:=by
 intro pins s σ H x vs v us Q I rx rv h;obtain⟨l,xs,y,rfl,rfl,hH,hz,q⟩:=h;cases rx;obtain⟨u,rfl,ru⟩:=rv.one;obtain⟨z,its,n,r,hl,e⟩:=I.lstM hH;refine J6 F.slot_list_append ⟨_,e,rfl⟩ F.entry_list_append (F.args_list_append_2 _ _) (PySem.list_append l its.toArray n u (by rw[Qz];lia)) ⟨e,?_⟩;refine⟨.non,_,I.lset (its':=its++[u]) hH e (by simp) (r.append (.cons ru .nil)) ?_,rfl,q⟩;rw[QH,List.length_singleton];lia
def GC:V->List V->Hp->VK->Prop:=λx vs H Q=>∃l xs y,x=.ref l/\vs=[]/\H l=some (.lst xs)/\xs[xs.length-1]?=some y/\Q y (aH H l (.lst xs.dropLast))
def IA:V->List V->Hp->VK->Prop:=λx vs H Q=>∃l xs,x=.ref l/\vs=[]/\H l=some (.lst xs)/\Q .non (aH H l (.lst xs.reverse))
def BY:V->List V->Hp->VK->Prop:=λx vs H Q=>∃l xs,x=.ref l/\vs=[]/\H l=some (.lst xs)/\Q .non (aH H l (.lst []))
def EN:i6 X "list.clear" BY:=by
 intro pins s σ H x vs v us Q I rx rv h;obtain⟨l,xs,rfl,rfl,hH,q⟩:=h;cases rx;have hus:=rv.zero;subst hus;obtain⟨z,its,n,r,hl,e⟩:=I.lstM hH;refine J6 F.slot_list_clear ⟨_,e,rfl⟩ F.entry_list_clear (F.args_list_clear_1 _) (AutoSeq1.list_clear_list_0 l its.toArray n (by rw[Qz];lia)) ⟨e,?_⟩;exact⟨.non,_,I.lset (its':=[]) (ys:=[]) hH e rfl .nil (WA _),rfl,q⟩
def nQ:R2:=λx y H Q=>∃l b xs zs,x=.ref l/\y=.ref b/\H l=some (.lst xs)/\H b=some (.lst zs)/\xs.length+zs.length<=sizeLine/\∀p,H p=none->Q (.ref p) (aH H p (.lst (xs++zs)))
def fc:cc X (Jv .Add) nQ:=by
 intro pins s σ H x y v u Q I rx ry h;obtain⟨l,b,xs,zs,rfl,rfl,hH,hB,hz,q⟩:=h;cases rx;cases ry;obtain⟨z,its,n,r,hl,e⟩:=I.lstM hH;obtain⟨z2,its2,n2,r2,hl2,e2⟩:=I.lstM hB;refine PySem.P.add_list e e2 ?_ (by rw[Qz,Qz];lia);have ea:its.toArray++its2.toArray=(its++its2).toArray:=by simp
 rw[ea];exact⟨.ref _,_,I.lnew (t':=s.toks) (r.append r2) (by rw[QH];lia),rfl,q _ I.fresh⟩
def nP:R2:=λx y H Q=>∃l k xs,x=.ref l/\y=.int k/\H l=some (.lst xs)/\-(2^63)<=k/\k<2^63/\xs.length*k.toNat<=sizeLine /\
 ∀p,H p=none->Q (.ref p) (aH H p (.lst (Qq k.toNat xs).flatten))
def rN{α:Type}(xs:List α)(k:Nat):(Qq k xs).flatten.length=k*xs.length:=by
 induction k with
 |zero=>simp
 |succ k ih=>rw[Wg,Q0,QH,ih,VB,Nat.add_comm]
def BX:cc X (Jv .Mult) nP:=by
 intro pins s σ H x y v u Q I rx ry h;obtain⟨l,k,xs,rfl,rfl,hH,h1,h2,hz,q⟩:=h;cases rx;obtain⟨t,rfl⟩:=ry;obtain⟨z,its,n,r,hl,e⟩:=I.lstM hH;have hlen:its.toArray.size*k.toNat<=sizeLine:=by rw[Qz,<-hl];exact hz
 have hcap:¬its.toArray.size*k.toNat > (2^63-1)/8:=by
  have:(sizeLine:Nat)<=(2^63-1)/8:=by decide
  lia
 have hfit:¬(! Builtin.List.listFitsIndex k)=true:=by
  rw[fitsIndex_both h1 h2];exact QC
 have hlong:¬Builtin.List.listTooLong (its.toArray.size*k.toNat)=true:=by
  rw[EO hlen];exact QC
 have hnew:List.foldl (λx1 x2=>x1++x2) #[] (Qq (if its.toArray.isEmpty=true then 0 else k.toNat) its.toArray)=(Qq k.toNat its).flatten.toArray:=by
  have f0:∀m:Nat,List.foldl (λx1 x2=>x1++x2) #[] (Qq m its.toArray)=(Qq m its).flatten.toArray:=λm=>by
   have:=jV its m [];rw[Wm]at this;exact this
  rw[f0];cases its with
  |nil=>simp
  |cons a r'=>rw[Lq (by simp)]
 refine wpAny_binaryOp_repeat_ref (T:="list") (U:="int") (by decide) ⟨_,e,rfl⟩ (λs'=>typeIs_int s' k t) noFill_list_mul F.fills_int_mul F.slot_int_rmul repeat_list F.slot_int_index.lookup
  (J6 F.slot_int_rmul (typeIs_int s k t) F.entry_int_rmul (F.args_int_rmul_2 _ _) (int___rmul___int_list k t l its.toArray n)
   ⟨e,rfl,⟨_,e,rfl⟩,J6 F.slot_list_mul ⟨_,e,rfl⟩ F.entry_list_mul (F.args_list_mul_2 _ _) (AutoListH.list___mul___list_int_3 l its.toArray n k t hfit hcap hlong) ⟨e,?_⟩⟩)
 rw[hnew];exact⟨.ref _,_,I.lnew (t':=s.toks) (r.rep k.toNat) (by rw[rN,Nat.mul_comm];exact hz),rfl,q _ I.fresh⟩
end
end L2
namespace Att
open PySem PySem.W PySem.Calls PyProof.Rows
def kw:∀(ns:List Int) (vs:List Value),WellAll P h vs (ns.map WData.int)->J7 vs ns:=by
 intro ns
 induction ns with
 |nil=>
  intro vs w;rw[VT]at w;cases w;exact .nil
 |cons n ns ih=>
  intro vs w;rw[QJ]at w;cases w with
  |cons a b=>
   cases a;exact .cons _ _ (ih _ b)
def FK {l:OpenLaw}(hn:l.most=some n)(hpre:l.row.toRowW.claim.pre args=true)(hwl:WellAll P h vals args):
  ∃a vs ns,vals=[Value.ref a]/\args=[WData.list (ns.map WData.int)]/\h.get? a=some {cls:=.type "list",data:=.seq vs.toArray}/\J7 vs ns/\ns.length<=n:=by
 have hsh:WShape.hasAll [] args [.list .int]=true:=(pre_splitW hpre).1;have hc:l.pre.holds [] {args:=args}=true:=(pre_splitW hpre).2;obtain⟨d,r,rfl,h1,h2⟩:=hasAllW_cons hsh;obtain rfl:=hasAllW_nil h2;obtain⟨xs,rfl,h3⟩:=hasW_list h1;obtain⟨ns,rfl⟩:=items_int h3;have hlen:ns.length<=n:=by
  unfold OpenLaw.pre at hc;have h4:(WTm.not (.lt (.lit (.int (n:Int))) (.len (.arg 0)))).holds [] {args:=[.list (ns.map .int)]}=true:=by
   have h4:=(holds_andW hc).1;rw[hn]at h4;exact h4
  have h5:=condW_of h4 (w_not (w_lt w_lit (w_len_list (w_arg rfl))));rw[Qp]at h5;refine Nat.le_of_not_lt λq=>?_;have q':(n:Int)<((ns.length:Nat):Int):=by lia
  first
   |(rw[Lu q']at h5;exact Lr h5 (by decide))
   |(simp at h5;lia)
 cases hwl with
 |cons w1 w2=>
  cases w2;cases w1 with
  |list ho hall=>exact⟨_,_,ns,rfl,rfl,ho,kw ns _ hall,hlen⟩
def FJ(l:OpenLaw)(args:List WData):l.row.toRowW.claim.post args (.bool true) args=true:=
 postW_of (r:=l.row.toRowW) (X:=(true==true))
  (show WShape.has [] (.bool true) .bool=true by first|rfl|decide|simp[WShape.has,WShape.arms,WShape.armsAll])
  (show(WTm.eq .res (.lit (.bool true))).value [] {args:=args,res:=some (.bool true),after:=args}=some (.bool (true==true))from w_eq_bool (w_res rfl) w_lit) rfl
def cV {l:OpenLaw}(hn:l.most=some n)(hdf:d.params.defaults=[])(call:∀(w:IR) (s₀ s₁:Shared) (mg mb:Str->Option Value) (fa:Addr) (o:Obj) (pm cd doc:Value) (a:Addr) (vs:List Value) (ns:List Int),
   Ground q loose [] XP w s₀ mg mb s₁.heap->YP w s₁.heap ->
   s₁.heap.get? fa=some o->o.data=.func (docDef d.name d.params d.body d.scope pm cd doc)->s₁.heap.CodeRec cd d.name->mg d.name=some (.ref fa) ->
   s₁.heap.get? a=some {cls:=.type "list",data:=.seq vs.toArray}->J7 vs ns->ns.length<=n->s₁.gens=#[] ->
   JC (IY l.prog w) J8 (.call (.ref fa) ⟨[.ref a],[]⟩) (λr s'=>r=.ok (.ret (.bool true))/\OldK s₁.heap s'.heap/\s'.os=s₁.os/\IW s'.gens) s₁):
  WalkO q loose XP YP l.row.toRowW d [] (λf vs=>PySem.call f vs):=by
 intro w s₀ s₁ mg mb G Y fa o pm cd doc dV kV ho hd hcd hD hmg hg args vals as hpre hlay hrd hwl hlo;obtain rfl:dV=.none:=Dflts.none hD hdf;obtain rfl:kV=.none:=Dflts.noKw hD;obtain⟨a,vs,ns,rfl,rfl,hobj,hints,hlen⟩:=FK hn hpre hwl;refine enter_call (JD (call w s₀ s₁ mg mb fa o pm cd doc a vs ns G Y ho (fd_plain hd) hcd hmg hobj hints hlen hg) λr s' hq=>?_);obtain⟨rfl,h2,h3,h4⟩:=hq;exact⟨.inl ⟨.bool true,.bool true,[],rfl,λ_=>rfl,.bool true,FJ l _,λ_=>⟨List.Pairwise.nil,λ_ hm=>(nomatch hm)⟩⟩,h2,h3,h4⟩
end Att
namespace L2
open PySem PySem.Spec PyProof.Rows
theorem jX:∀{vs:List Value}{ns:List Int},J7 vs ns->av (ns.map V.int) vs
 |_,_,.nil=>.nil
 |_,_,.cons n t h=>.cons ⟨t,rfl⟩ (jX h)
def iB(H:Hp):Prop:=∀b,H b=none\/∃o xs,H b=some (.frz o (.lst xs))
def EM {K:Qb}(KX:K.In s₁.heap)(hns:s₁.heap.Ns IT mg)(hb:s₁.heap.Ns builtinsNs mb)(hbb:∀x:Str,x ≠ "__name__" -> mb x=IU x)(hlim:s₁.heap.NoLimit)(hg:s₁.gens=#[])(ha:s₁.heap.get? a=some {cls:=.type "list",data:=.seq vs.toArray})(hi:J7 vs ns)(hl:ns.length<=sizeLine)(hr:cg k J8)(F:∀base:IS,K.In base->base.Ns IT mg->cN P w K mg base CX k fa fd [x] sp)(hbind:∀(s:Shared) (u:Value),BindsTo s fd ⟨[u],[]⟩ [(x,u)])(hsp:∀H:Hp,iB H->bD K H a (ns.map V.int)->sp [.ref a] H (λv _=>v=.bl true) λ_ _ _=>False)(hCX:∀H e s',CX [] H s₁ (λ_ _ _=>False) e s'->False):
  JC (IY P w) J8 (.call (.ref fa) ⟨[.ref a],[]⟩) (λr s'=>r=.ok (.ret (.bool true))/\OldK s₁.heap s'.heap/\s'.os=s₁.os/\IW s'.gens) s₁:=by
 have rv:=jX hi;have lenV:=hi.length
 -- from an abstract heap in which nothing but the script may be tracked
 have core:∀H:Hp,iB H->bD K H a (ns.map V.int)->cD P w H s₁.heap->(∀b,H b≠none->b=a)->(H a≠none->K.lookup a=none) ->
   JC (IY P w) J8 (.call (.ref fa) ⟨[.ref a],[]⟩) (λr s'=>r=.ok (.ret (.bool true))/\OldK s₁.heap s'.heap/\s'.os=s₁.os/\IW s'.gens) s₁:=by
  intro H hO hS hok hA hK;have bH:∀{b:Addr}{o:Obj},s₁.heap.get? b=some o->H b=none->(gy s₁.heap H).get? b=some o:=λe n=>EX e n;have noA:∀{b:Addr}{o:Obj}{es:Array DictEntry}{ep:Nat},s₁.heap.get? b=some o->o.data=.dict es ep->H b=none:=λ{b o es ep} e d=>by
   cases q:H b with
   |none=>rfl
   |some u=>
    have e':b=a:=hA b (by rw[q];simp);subst e';rw[ha]at e;cases e;have d':Data.seq vs.toArray _=Data.dict es ep:=d;cases d'
  have nsK:∀{b:Addr}{m:Str->Option Value},s₁.heap.Ns b m->(gy s₁.heap H).Ns b m:=λ{b m} ⟨o,es,ep,e,d,r⟩=>⟨o,es,ep,bH e (noA e d),d,r⟩;have hKb:K.In (gy s₁.heap H):=λb o e=>bH (KX b o e) (by
   cases q:H b with
   |none=>rfl
   |some u=>
    have e':b=a:=hA b (by rw[q];simp);subst e';rw[hK (by rw[q];simp)]at e;cases e)
  have hM:Mod K mg (gy s₁.heap H):=⟨hKb,nsK hns,⟨mb,nsK hb,hbb⟩,let⟨mc,h1,h2⟩:=hlim;⟨mc,nsK h1,h2⟩⟩;have e0:eB P w K mg (gy s₁.heap H) J8 [] s₁ H:=⟨rfl,hM,λb o e=>Dx e,VC (Fu _ _),trivial,λb hb=>Lr (show b∈([]:List Addr)from hb) (by simp),hok,.of_eq hg⟩;refine JD ((F _ hKb (nsK hns)).run J8 [] s₁ H ⟨[.ref a],[]⟩ [.ref a] [.ref a] _ _ hr e0 (hbind s₁ (.ref a)) (.cons rfl .nil) (hsp H hO hS)) λr s' h=>?_;cases r with
  |error e=>exact(hCX H e s' h).elim
  |ok fl=>
   cases fl with
   |next=>exact False.elim h
   |brk=>exact False.elim h
   |cont=>exact False.elim h
   |ret u=>
    obtain⟨v,H',os,bare,un,hok',r',q⟩:=h;have q':v=.bl true:=q;subst q';obtain rfl:u=Value.bool true:=r';refine⟨rfl,OldK.of_keep λb o e=>?_,os,bare⟩;cases q:H b with
    |none=>exact un.keep b o e q (by intro z;exact Lr (show b∈([]:List Addr)from z) (by simp)) (by simp)
    |some u=>
     rcases hO b with z|⟨ob,xs,z⟩
     .rw[q]at z;cases z
     .have z2:=un.frzs b ob _ z;obtain⟨e1,_⟩:=hok b _ z;obtain⟨e2,_⟩:=hok' b _ z2;rw[e]at e1;cases e1;exact e2
 cases hk:K.lookup a with
 |some o=>
  -- the script is one of the module's own objects
  have e:=KX a o hk;rw[ha]at e;cases e;refine core (λ_=>none) (λ_=>.inl rfl) (.inr ⟨_,vs.toArray,_,hk,rfl,rfl,rfl,by rw[Qz,lenV];exact hl,by simpa using rv⟩) (λb u z=>by have z':(none:Option HO)=some u:=z;cases z') (λb z=>Lr rfl z) λz=>Lr rfl z
 |none=>
  refine core (λb=>if b=a then some (.frz {cls:=.type "list",data:=.seq vs.toArray} (.lst (ns.map V.int)))else none) (λb=>?_) (.inl (.inr ⟨{cls:=.type "list",data:=.seq vs.toArray},Lp rfl⟩)) (λb u z=>?_) (λb z=>?_) λ_=>hk
  .by_cases hb:b=a
   .exact .inr ⟨_,_,Lp hb⟩
   .exact .inl (Lq hb)
  .by_cases hb:b=a
   .have z':=(Lp hb).symm.trans z;cases z';subst hb;exact⟨ha,by rw[Qp];exact hl,vs,_,rv,ha⟩
   .have z':=(Lq hb).symm.trans z;cases z'
  .by_cases hb:b=a
   .exact hb
   .exact Lr (Lq hb) z
def Df {l:PySem.W.OpenLaw}{K:IP->Qb}{CX:IR->dX}{sp:IR->Sp}(hn:l.most=some n)(hn2:n<=sizeLine)(hdf:d.params.defaults=[])(hr:cg k J8)(hY:∀(w:IR) (h:IS),YP w h->(K w.params).In h)(F:∀(w:IR) (mg:Str->Option Value) (fa:Addr) (h:IS),(K w.params).In h->h.Ns IT mg->mg d.name=some (.ref fa) ->
   ∃fd:JB,(∀(s:Shared) (u:Value),BindsTo s fd ⟨[u],[]⟩ [(x,u)]) /\
    ∀base:IS,(K w.params).In base->base.Ns IT mg->cN l.prog w (K w.params) mg base (CX w) k fa fd [x] (sp w))(hsp:∀(w:IR) (H:Hp) (a:Addr) (ns:List Int),ns.length<=n->iB H->bD (K w.params) H a (ns.map V.int)->sp w [.ref a] H (λv _=>v=.bl true) λ_ _ _=>False)(hCX:∀(w:IR) (H:Hp) (s:Shared) (e:Value) (s':Shared),CX w [] H s (λ_ _ _=>False) e s'->False):
  VM q loose XP YP l.row.toRowW d [] (λf vs=>PySem.call f vs):=by
 refine Att.cV hn hdf λw s₀ s₁ mg mb fa o pm cd doc a vs ns G Y ho hd hcd hmg hobj hints hlen hg=>?_;have KX:=hY w _ Y;obtain⟨fd,hb,hF⟩:=F w mg fa _ KX G.T.g hmg;exact EM KX G.T.g G.T.b G.T.builtins G.T.nolimit hg hobj hints (Qu hlen hn2) hr hF hb (λH hO hS=>hsp w H a ns hlen hO hS) λH e s'=>hCX w H s₁ e s'
abbrev dY:dX:=λ_ _ _ _ _ _=>False
abbrev E0:XK:=λ_ _ _=>False
def AC:lT dY X E0:=λ_ _ _ _ _ _ _ h=>h.elim
structure eP(K:Qb)(x qual:Str)(st:Stmt)(f:Addr)(fd:JB):Prop where
 ex:∃(oc:Value) (od:Option Addr) (kV doc pm:Value) (an:Option Addr) (cdv ct:Value) (osl:Array (Option Value)),
  fd=WM x qual (xU st) (xb st) (zS st) .none kV doc pm an cdv ct/\K.lookup f=some ⟨oc,od,.func fd,osl⟩/\Vs K cdv qual=true
 kp:WU K (.ref f)=true
section
variable{P:IQ}{w:IR}{K:Qb}{mg:Str->Option Value}{base:IS}
def eP.ok {st:Stmt}(F:eP K x qual st f fd)(S:cy N ps (zS st))(len:∀vs H Q E,sp vs H Q E->vs.length=ps.length)(hbody:∀(cdv:Value) (A:IV) (outer:List Env) (s:Shared) (H:Hp) (vs:List V) (Q:VK) (E:XK),cg k (A.deeper (JI qual (zS st) s.heap.objs.size f cdv))->sp vs H Q E ->
   ∃t,cC (qH dY P w K mg base N qual (zS st) f cdv A outer s H E).nox (xb st) t/\t {nx:=λ_ H'=>Q .non H',rt:=Q} (start N vs) H):cN P w K mg base dY (k+1) f fd ps sp:=by
 obtain⟨oc,od,kV,doc,pm,an,cdv,ct,osl,rfl,lk,hcd⟩:=F.ex;refine x3 lk hcd S len λA outer s H vs Q E hr hsp=>?_;obtain⟨t,h,q⟩:=hbody cdv A outer s H vs Q E hr hsp;exact⟨t,h.nox,q⟩
def eP.binds {st:Stmt}(F:eP K x qual st f fd)(h:∀(kV doc pm:Value) (an:Option Addr) (cdv ct:Value) (us:List Value),us.length=ps.length->bindArgs (WM x qual (xU st) (xb st) (zS st) .none kV doc pm an cdv ct) ⟨us,[]⟩=pure (ps.zip us)):Binds K fd ps []:=by
 obtain⟨oc,od,kV,doc,pm,an,cdv,ct,osl,rfl,lk,hcd⟩:=F.ex;exact .all (h kV doc pm an cdv ct)
def BW {st:Stmt}{kV:Value}(l:K.lookup f=some ⟨oc,od,.func (WM x qual (xU st) (xb st) (zS st) .none kV doc pm an cdv ct),osl⟩)(c:Vs K cdv qual=true)(k:WU K (.ref f)=true):eP K x qual st f (WM x qual (xU st) (xb st) (zS st) .none kV doc pm an cdv ct):=⟨⟨oc,od,kV,doc,pm,an,cdv,ct,osl,rfl,l,c⟩,k⟩
end
def fC {B:Prop}(h:B):if false=true then A else B:=by
 rw[Lq QC];exact h
def fB {B:Prop}(h:A):if true=true then A else B:=by
 rw[Lp rfl];exact h
noncomputable def wV(env:Env):List (Str×JF)->List (Str×Addr)->List (Str×Addr)
 |[],acc=>acc
 |(n,k)::r,acc=>if k == .free then wV env r ((n,(env.cells.lookup n).getD 0)::acc)else wV env r acc
theorem vj (f:Str×JF->List (Str×Addr)->Sem (ForInStep (List (Str×Addr))))(hf:∀n k cs,f (n,k) cs=if k == .free then(do let a <-cellOf env n;pure (.yield ((n,a)::cs)))else pure (.yield cs)):
  ∀(names:List (Str×JF)) (acc:List (Str×Addr)),(∀y∈names,y.2=.free->∃c,env.cells.lookup y.1=some c)->forIn names acc f=pure (wV env names acc)
 |[],acc,_=>by rw[Vd];rfl
 |(n,k)::r,acc,h=>by
  have ih:=vj f hf r;rw[Vv,hf];unfold wV;cases hk:k==NameKind.free with
  |true=>
   obtain⟨c,hc⟩:=h (n,k) QX (by simpa using hk);have hc':env.cells.lookup n=some c:=hc;have e1:cellOf env n=pure c:=by unfold cellOf;rw[hc']
   simp only[if_true,e1,hc',Wp,pure_bind];exact ih _ λy hy=>h y (Qk _ hy)
  |false=>
   simp only[Wb,if_false,pure_bind];exact ih _ λy hy=>h y (Qk _ hy)
def kL (h:∀y∈scope.names,y.2=.free->∃c,env.cells.lookup y.1=some c):closureFor scope env=pure (wV env scope.names []):=by
 unfold closureFor;simp only[];rw[vj (env:=env) _ (λn k cs=>by cases hk:k==NameKind.free<;>simp[hk]) scope.names [] h];rfl
theorem wA:∀{names:List (Str×JF)}{acc:List (Str×Addr)},(∀z∈names,z.2=.free->∃c,env.cells.lookup z.1=some c)->(wV env names acc).lookup y=some c ->
  acc.lookup y=some c\/((y,NameKind.free)∈names/\env.cells.lookup y=some c)
 |[],acc,_,e=>.inl e
 |(n,k)::r,acc,h,e=>by
  unfold wV at e;have h':∀z∈r,z.2=.free->∃c,env.cells.lookup z.1=some c:=λz hz=>h z (Qk _ hz);cases hk:k==NameKind.free with
  |true=>
   have hk':k=.free:=by simpa using hk
   subst hk';rw[hk,Lp rfl]at e;rcases wA h' e with q|⟨q1,q2⟩
   .rw[QZ]at q;cases hy:y==n with
    |true=>
     rw[hy]at q;have:y=n:=by simpa using hy
     subst this;obtain⟨c',hc'⟩:=h (y,.free) QX rfl;have hc'':env.cells.lookup y=some c':=hc';rw[hc'']at q;refine .inr ⟨QX,?_⟩;rw[hc''];exact q
    |false=>rw[hy]at q;exact .inl q
   .exact .inr ⟨Qk _ q1,q2⟩
  |false=>
   rw[hk,Lq (by simp)]at e;rcases wA h' e with q|⟨q1,q2⟩
   .exact .inl q
   .exact .inr ⟨Qk _ q1,q2⟩
theorem vQ:∀{names:List (Str×JF)}{acc:List (Str×Addr)},((y,NameKind.free)∈names\/(acc.lookup y).isSome=true)->((wV env names acc).lookup y).isSome=true
 |[],acc,h=>by
  rcases h with h|h
  .cases h
  .exact h
 |(n,k)::r,acc,h=>by
  unfold wV;cases hk:k==NameKind.free with
  |true=>
   rw[Lp rfl];refine vQ ?_;rcases h with h|h
   .rcases Qo.mp h with e|e
    .cases e;exact .inr (by rw[QZ];simp)
    .exact .inl e
   .refine .inr ?_;rw[QZ];split
    .rfl
    .exact h
  |false=>
   rw[Lq (by simp)];refine vQ ?_;rcases h with h|h
   .rcases Qo.mp h with e|e
    .cases e;cases hk
    .exact .inl e
   .exact .inr h
theorem lE:∀{names:List (Str×JF)}{h:IS}{acc:List (Str×Addr)},(JJ h.objs.size names acc).lookup y=some c ->
  acc.lookup y=some c\/(h.objs.size<=c/\(J9 h names).IsCell c none/\(y,NameKind.cell)∈names)
 |[],h,acc,e=>.inl e
 |(n,k)::r,h,acc,e=>by
  unfold JJ at e;cases hk:k==NameKind.cell with
  |true=>
   have hk':k=.cell:=by simpa using hk
   subst hk';rw[hk,Lp rfl]at e;have ih:=lE (y:=y) (c:=c) (names:=r) (h:=h.push {cls:=.type "cell",data:=.cell none}) (acc:=(n,h.objs.size)::acc);rw[WN]at ih;have hp:J9 h ((n,NameKind.cell)::r)=J9 (h.push {cls:=.type "cell",data:=.cell none}) r:=by
    exact Lp hk
   rcases ih e with q|⟨q1,q2,q3⟩
   .rw[QZ]at q;cases hy:y==n with
    |true=>
     rw[hy]at q;cases q;have hyn:y=n:=by simpa using hy
     subst hyn;refine .inr ⟨Qg _,?_,QX⟩;rw[hp];exact⟨_,Ka _ _ _ _ (Qe _ rfl),rfl⟩
    |false=>rw[hy]at q;exact .inl q
   .exact .inr ⟨Qu (Vh _) q1,by rw[hp];exact q2,Qk _ q3⟩
  |false=>
   rw[hk,Lq (by simp)]at e;have hp:J9 h ((n,k)::r)=J9 h r:=by
    show(if(k==NameKind.cell)=true then _ else _)=_;rw[hk,Lq (by simp)]
   rcases lE e with q|⟨q1,q2,q3⟩
   .exact .inl q
   .exact .inr ⟨q1,by rw[hp];exact q2,Qk _ q3⟩
theorem lC {lo:Nat}:∀{names:List (Str×JF)}{n:Nat}{acc:List (Str×Addr)},((y,NameKind.cell)∈names\/∀c,acc.lookup y=some c->lo<=c)->lo<=n->(JJ n names acc).lookup y=some c->lo<=c
 |[],n,acc,h,_,e=>by
  rcases h with h|h
  .cases h
  .exact h c e
 |(m,k)::r,n,acc,h,hn,e=>by
  unfold JJ at e;cases hk:k==NameKind.cell with
  |true=>
   rw[hk,Lp rfl]at e;refine lC ?_ (Qu hn (Vh _)) e;by_cases hy:y=m
   .subst hy;refine .inr λc hc=>?_;rw[QZ,beq_self_eq_true]at hc;cases hc;exact hn
   .rcases h with h|h
    .rcases Qo.mp h with z|z
     .cases z;exact Lr rfl hy
     .exact .inl z
    .refine .inr λc hc=>?_;rw[QZ]at hc;have:(y==m)=false:=by simpa using hy
     rw[this]at hc;exact h c hc
  |false=>
   rw[hk,Lq (by simp)]at e;refine lC ?_ hn e;rcases h with h|h
   .rcases Qo.mp h with z|z
    .cases z;cases hk
    .exact .inl z
   .exact .inr h
theorem lQ:∀{names:List (Str×JF)}{n:Nat}{acc:List (Str×Addr)},(∀y z c,acc.lookup y=some c->acc.lookup z=some c->y=z)->(∀y c,acc.lookup y=some c->c<n) ->
  ∀y z c,(JJ n names acc).lookup y=some c->(JJ n names acc).lookup z=some c->y=z
 |[],n,acc,hi,_=>hi
 |(m,k)::r,n,acc,hi,hl=>by
  unfold JJ;cases hk:k==NameKind.cell with
  |true=>
   rw[Lp rfl];refine lQ (λy z c e1 e2=>?_) λy c e=>?_
   .rw[QZ]at e1 e2;cases hy:y==m<;>cases hz:z==m<;>rw[hy]at e1<;>rw[hz]at e2
    .exact hi y z c e1 e2
    .cases e2;exact Lr (hl y _ e1) (Q4 _)
    .cases e1;exact Lr (hl z _ e2) (Q4 _)
    .exact (by simpa using hy:y=m).trans (by simpa using hz:z=m).symm
   .rw[QZ]at e;cases hy:y==m<;>rw[hy]at e
    .exact WL (hl y c e)
    .cases e;exact WE _
  |false=>
   rw[Lq (by simp)];exact lQ hi hl
def qJ (hQ:Q {scope:=scope,locals:=s.heap.objs.size,globals:=globals,cells:=JJ (s.heap.objs.size+1) scope.names cl,qual:=qual,func:=none,code:=outer.code,frame:=outer.frame,builtins:=outer.builtins}
   {s with heap:=J9 (s.heap.push {cls:=.type "dict",data:=.dict #[]}) scope.names}):
  IX M A (Kb scope globals cl [] qual none .none (some outer)) Q E s:=by
 simp only[Kb,Option.isSome_some,if_true];refine Jj (wpAny_alloc ?_);refine Jj (wpAny_layCells _ (λname kind cells=>by cases hkc:kind==NameKind.cell<;>simp[hkc]) _ _ _ _ ?_);rw[show({s with heap:=s.heap.push {cls:=.type "dict",data:=.dict #[]} }:Shared).heap.objs.size=s.heap.objs.size+1 from WN ..];simp only[Vd];exact Jj (Jp (Jp hQ))
def zU:(Kc scope env).names.lookup y=(scope.names.lookup y).map λk=>if(k==NameKind.free&&env.scope.kind == .function&&env.kindOf y==some .cell)then NameKind.cell else k:=by
 have all:∀l:List (Str×JF),(l.map λ(n,k)=>if(k==NameKind.free&&env.scope.kind == .function&&env.kindOf n==some .cell)then(n,NameKind.cell)else(n,k)).lookup y=(l.lookup y).map λk=>if(k==NameKind.free&&env.scope.kind == .function&&env.kindOf y==some .cell)then NameKind.cell else k:=by
  intro l
  induction l with
  |nil=>rfl
  |cons p r ih=>
   obtain⟨n,k⟩:=p;rw[QJ,QZ];by_cases hc:(k==NameKind.free&&env.scope.kind == .function&&env.kindOf n==some .cell)=true
   .simp only[hc,if_true,QZ];cases hy:y==n with
    |true=>
     have:y=n:=by simpa using hy
     subst this;simp only[QY,hc,if_true]
    |false=>exact ih
   .simp only[Lq hc,QZ];cases hy:y==n with
    |true=>
     have:y=n:=by simpa using hy
     subst this;simp only[QY,Lq hc]
    |false=>exact ih
 exact all scope.names
def iX(x:Str):Str:=⟨x.cps.push 0⟩
noncomputable def yF(N xs:List Str):List Str:=(N.map λy=>if y∈xs then iX y else y)++xs
def FI(N xs:List Str):(yF N xs).length=N.length+xs.length:=by simp[yF]
def wW(N xs:List Str)(j:Nat):(yF N xs)[N.length+j]?=xs[j]?:=by
 unfold yF;rw[Qd (by simp)];simp
def FH (hi:i<N.length)(h:(yF N xs)[i]?=some y):(∃x∈xs,y=iX x)\/(N[i]?=some y/\y∉xs):=by
 unfold yF at h;rw[Qf (by simpa using hi),Qs]at h;obtain⟨z,hz⟩:∃z,N[i]?=some z:=⟨N[i],by simp[hi]⟩;rw[hz]at h;by_cases e:z∈xs
 .simp only[QY,Lp e]at h;exact .inl ⟨z,e,(Option.some.inj h).symm⟩
 .simp only[QY,Lq e]at h;have e2:z=y:=Option.some.inj h;subst e2;exact .inr ⟨hz,e⟩
structure bJ(X:Cx)(scope:IN)(xs:List Str)(Xc:Cx):Prop where
 prog:Xc.prog=X.prog
 w:Xc.w=X.w
 K:Xc.K=X.K
 mg:Xc.mg=X.mg
 base:Xc.base=X.base
 A:Xc.A=X.A
 N:Xc.N=yF X.N xs
 sc:Xc.env.scope=Kc scope X.env
 calm:Xc.calm=true
 stack:Xc.stack=X.stack
def fJ(X:Cx)(ifs:List Expr)(t:TT):Prop:=
 ∀(pins:List (Addr×Obj)) (s:Shared) (σ:St) (H:Hp) (Q:Bool->Hp->Prop),Inv X pins σ H s->t σ H Q ->
  IX (IY X.prog X.w) X.A (forIn ifs true λc r=>if r=true then do let ok <-isTrue c X.env (eval c X.env);pure (ForInStep.yield ok)else pure (ForInStep.yield r)) (TP X pins σ Q) X.xe s
def vk:fJ X [] (λ_ H Q=>Q true H):=λ_ _ _ H _ I h=>wpAny_tests_nil ⟨H,I,h⟩
def De (h:PT X c t):fJ X [c] t:=λpins s σ H Q I q=>wpAny_tests_one (h pins s σ H Q I q)
structure bQ(X:Cx)(scope:IN)(xs:List Str):Prop where
 kind:scope.kind=.function
 own:∀x∈xs,scope.names.lookup x=some .local\/scope.names.lookup x=some .cell
 locs:∀y∈scope.names,y.2=.local->scope.names.lookup y.1=some .local
 free:∀y∈scope.names,y.2=.free->X.env.scope.names.lookup y.1=some .cell\/X.env.scope.names.lookup y.1=some .free
 alone:∀y∈X.N,y∉xs->scope.names.lookup y≠some .local/\scope.names.lookup y≠some .cell
 one:∀y∈scope.names,y.2=.cell->scope.names.lookup y.1≠some .free
 nd:(yF X.N xs).Nodup
 dumN:∀x∈xs,scope.names.lookup (iX x)=none
def gJ{prog:IQ}{w:IR}{A:IV}{R:Result->Shared->Prop}{s:Shared}{elt target iter:Expr}{ifs:List Expr}{scope:IN}{pos:Pos}{it acc:Value}{env:Env}(I:Nat->Shared->Prop)
  (turn:∀n s,I n s->IX (IY prog w) A (Jm it) (λr s₁=>match r with
   |none=>R (.ok .next) s₁
   |some v=>IX (IY prog w) A (Jn target it v) (λ_ s₁'=>IX (IY prog w) A (assign target env v) (λ_ s₂=>
     IX (IY prog w) A (forIn ifs true λc r=>if r=true then do let ok <-isTrue c env (eval c env);pure (ForInStep.yield ok)else pure (ForInStep.yield r)) (λok s₃=>
      if ok=true then IX (IY prog w) A (eval elt env) (λx s₄=>
       IX (IY prog w) A (call (.builtin "list.append") [acc,x]) (λ_ s₅=>∃m,m<n/\I m s₅) (Ke (IY prog w) A env λe s'=>R (.error e) s') s₄) (Ke (IY prog w) A env λe s'=>R (.error e) s') s₃
      else ∃m,m<n/\I m s₃) (Ke (IY prog w) A env λe s'=>R (.error e) s') s₂) (Ke (IY prog w) A env λe s'=>R (.error e) s') s₁') (Ke (IY prog w) A env λe s'=>R (.error e) s') s₁) (Ke (IY prog w) A env λe s'=>R (.error e) s') s)
  (n:Nat) (h:I n s):JC (IY prog w) A (.compLoop (.ListComp elt [⟨target,iter,ifs,0⟩] scope pos) 0 it acc env) R s:=by
 refine codeAny_loop rfl I (λn s hI=>?_) n h;show IX _ A ((compTurn (.ListComp elt [⟨target,iter,ifs,0⟩] scope pos) 0 it acc env).onRaise (λx=>do noteFrame x env;theTreesLotGoes x)) _ _ s;refine wpAny_noted ?_;rw[compTurn_list];refine Jj (Jl (Jj (Ja (turn n s hI) (λr s₁ h₁=>?_) λ_ _ h'=>h')));cases r with
 |none=>exact Jp h₁
 |some v=>
  refine Jj (Ja h₁ (λ_ s₁' h₁'=>?_) λ_ _ h'=>h');refine Jj (Ja h₁' (λ_ s₂ h₂=>Jj (Ja h₂ (λok s₃ h₃=>?_) λ_ _ h'=>h')) λ_ _ h'=>h');cases ok with
  |false=>exact Jp ⟨rfl,h₃⟩
  |true=>
   exact Jj (Jj (Ja h₃ (λx s₄ h₄=>Jj (Ja h₄ (λ_ s₅ h₅=>Jp (Jp ⟨rfl,h₅⟩)) λ_ _ h'=>h')) λ_ _ h'=>h'))
def jY(un:V->Hp->List V->Prop)(wi:TI)(tc:TT)(te:TE):TE:=λσ H Q=>wi σ H λJ H1=>∀D,H1 D=none->∃W:Nat->Nat->List V->Hp->Prop,(∃m,W 0 m [] (aH H1 D (.lst [])))/\∀i m ys H,W i m ys H ->
 (J.stop i H/\Q (.ref D) H)\/(J.go i H/\∀v H',J.yld i H v H'->∃vs,un v H' vs/\tc (σ++vs.map some) H' λb H2=>if b=true then te (σ++vs.map some) H2 λy H3=>H3 D=some (.lst ys)/\ys.length<sizeLine/\∃m',m'<m/\W (i+1) m' (ys++[y]) (aH H3 D (.lst (ys++[y])))
  else ∃m',m'<m/\W (i+1) m' ys H2)
def kM {un:V->Hp->List V->Prop}(B:bQ X scope xs)(hc:X.calm=true)(hpg:∀Xc,bJ X scope xs Xc->(∀x∈xs,Loc Xc.env.scope x/\(Xc.fn x=true\/Xc.env.scope.names.lookup x=some .local))->PG Xc tg g)(hun:∀v H vs os,os.length=xs.length->un v H vs->vs.length=xs.length/\g v (σ++os) H λσ2 H2=>σ2=σ++vs.map some/\H2=H)(hbody:∀Xc,bJ X scope xs Xc->fJ Xc ifs tc/\PE Xc elt te)(I:Inv X pins σ H s)(T:cW X.prog X.w X.K tg J fp it tn)(st:tn 0 s.heap)(hfp:∀b∈fp,ku X pins H b)(W:Nat->Nat->List V->Hp->Prop)(m0:Nat)(w0:W 0 m0 [] H)(turn:∀i m ys H,W i m ys H->(J.stop i H/\∀s' m' C,Inv X pins σ H s'->s'.heap.Ns C m'->s.heap.objs.size<=C->H C=none->compPost (IY X.prog X.w) X.A X.xe use Q (.ref D) C (.ok .next) s') \/
   (J.go i H/\∀v H',J.yld i H v H'->∃vs,un v H' vs/\tc (σ++vs.map some) H' λb H2=>if b=true then te (σ++vs.map some) H2 λy H3=>H3 D=some (.lst ys)/\ys.length<sizeLine/\∃m',m'<m/\W (i+1) m' (ys++[y]) (aH H3 D (.lst (ys++[y])))
    else ∃m',m'<m/\W (i+1) m' ys H2)):
  IX (IY X.prog X.w) X.A (Kb scope X.env.globals (wV X.env scope.names []) [] X.env.qual none .none (some X.env)) (λcenv s₄=>
   JC (IY X.prog X.w) X.A (.compStart (.ListComp elt [⟨tg,iter,ifs,0⟩] scope pos) 0 (.ref it) (.ref D) {cenv with scope:=Kc scope X.env}) (compPost (IY X.prog X.w) X.A X.xe use Q (.ref D) cenv.locals) s₄) X.xe s:=by
 refine qJ ?_;have hcl:∀y∈scope.names,y.2=.free->∃c,X.env.cells.lookup y.1=some c:=λy hy hf=>by
  rcases B.free y hy hf with q|q
  .exact I.ok.has y.1 (.inl q)
  .exact I.ok.has y.1 (.inr q)
 -- the block's own parts
 generalize hC:s.heap.objs.size=C;generalize hcs:JJ (C+1) scope.names (wV X.env scope.names [])=cs;generalize hh4:J9 (s.heap.push {cls:=.type "dict",data:=.dict #[]}) scope.names=h4;have szP:(s.heap.push {cls:=.type "dict",data:=.dict #[]}).objs.size=C+1:=by rw[WN,hC]
 have keep4:∀b o,s.heap.get? b=some o->h4.get? b=some o:=λb o e=>hh4▸Ka _ _ _ _ (Qc _ e);have nsC:h4.Ns C (λ_=>none):=by
  have q:=(Heap.Ns.new s.heap (.type "dict")).keeps (Ka scope.names (s.heap.push {cls:=.type "dict",data:=.dict #[]}));rw[hC,hh4]at q;exact q
 -- a cell of the block: one of its own,or one of those around
 have csIn:∀y c,cs.lookup y=some c->((y,NameKind.free)∈scope.names/\X.env.cells.lookup y=some c)\/(C+1<=c/\h4.IsCell c none/\(y,NameKind.cell)∈scope.names):=λy c e=>by
  have q:=lE (y:=y) (c:=c) (names:=scope.names) (h:=s.heap.push {cls:=.type "dict",data:=.dict #[]}) (acc:=wV X.env scope.names []);rw[szP,hcs,hh4]at q;rcases q e with q|q
  .rcases wA hcl q with z|z
   .cases z
   .exact .inl z
  .exact .inr q
 have oldC:∀y c,X.env.cells.lookup y=some c->c<C:=λy c e=>by
  obtain⟨v,q⟩:=I.cell y c e;rw[<-hC];exact q.lt
 have fpC:∀b∈fp,b<C:=λb hb=>by
  obtain⟨o,e,_⟩:=T.obj _ _ st b hb;rw[<-hC];exact Qi e
 let cenv:Env:={scope:=Kc scope X.env,locals:=C,globals:=X.env.globals,cells:=cs,qual:=X.env.qual,func:=none,code:=X.env.code,frame:=X.env.frame,builtins:=X.env.builtins}
 let RR:Result->Shared->Prop:=compPost (IY X.prog X.w) X.A X.xe use Q (.ref D) C
 let Xc:Cx:={X with N:=yF X.N xs,s₀:=s,H₀:=H,env:=cenv,outer:=X.stack,stack:=X.stack,ex:=fp,fn:=λy=>decide (scope.names.lookup y=some .cell),calm:=true,pn:=[],xe:=Ke (IY X.prog X.w) X.A cenv λe s'=>RR (.error e) s' }
 have hXc:bJ X scope xs Xc:=⟨rfl,rfl,rfl,rfl,rfl,rfl,rfl,rfl,rfl,rfl⟩;obtain⟨hT,hE⟩:=hbody Xc hXc;have ok:Xc.Ok:=by
  refine⟨I.ok.mod,B.kind,I.ok.glob,I.ok.blt,VC hC,?_,λy hy=>?_,λy c hf e=>?_,λ_=>I.ok.hd hc,I.ok.frames,.inl rfl,λb hb=>⟨QI (fpC b hb),λy c e=>?_⟩,I.bs,Qu I.ok.bsz I.sz,λb o e hb=>?_,λb hb hf=>?_,I.stack,I.stkFree⟩
  .show ∀y z c,cs.lookup y=some c->cs.lookup z=some c->y=z;rw[<-hcs];refine lQ (λy z c e1 e2=>?_) λy c e=>?_
   .rcases wA hcl e1 with q|q
    .cases q
    .rcases wA hcl e2 with q'|q'
     .cases q'
     .exact I.ok.inj y z c q.2 q'.2
   .rcases wA hcl e with q|q
    .cases q
    .exact WL (oldC y c q.2)
  .have hy':(Kc scope X.env).names.lookup y=some .cell\/(Kc scope X.env).names.lookup y=some .free:=hy;rw[zU]at hy';show ∃c,cs.lookup y=some c;rw[<-hcs];refine Wz.mp (Vk _ _ _ ?_);cases hk:scope.names.lookup y with
   |none=>rw[hk]at hy';rcases hy' with z|z<;>cases z
   |some k=>
    rw[hk]at hy';have kk:k=.cell\/k=.free:=by
     simp only[QY]at hy';by_cases hcnd:(k==NameKind.free&&X.env.scope.kind == .function&&X.env.kindOf y==some .cell)=true
     .refine .inr ?_;have:=(Q6.mp (Q6.mp hcnd).1).1;simpa using this
     .rw[Lq hcnd]at hy';rcases hy' with z|z
      .exact .inl (Option.some.inj z)
      .exact .inr (Option.some.inj z)
    rcases kk with rfl|rfl
    .exact .inl rfl
    .exact .inr (vQ (.inl (PySem.mem_of_lookup hk)))
  .show s.heap.objs.size<=c;rw[hC];have e':cs.lookup y=some c:=e;rw[<-hcs]at e';exact Qu (Vh _) (lC (lo:=C+1) (.inl (PySem.mem_of_lookup (Lw hf))) (Qg _) e')
  .show c≠b;rintro rfl;rcases csIn y c e with⟨_,z⟩|⟨z,_,_⟩
   .exact (hfp c hb).2.2.2.2.1 y c z rfl
   .exact Lr (Ql (fpC c hb) (Qu (Vh _) z)) (Q4 _)
  .rcases (hfp b hb).2.2.2.1 with z|z
   .exact I.ok.noex b o e z
   .exact Lr (Ql (Qi (I.ok.bs b o e).1) z) (Q4 _)
  .rcases Qo.mp (I.stkSub b hf)with z|z
   .exact (hfp b hb).2.1 z
   .exact (hfp b hb).2.2.1 z
 have frC:H C=none:=I.hok.fresh (VC hC);have frN:∀c,C<=c->H c=none:=λc hc'=>I.hok.fresh (by rw[hC];exact hc');have hσ:σ.length=X.N.length:=I.len;have I4:Inv Xc [] (σ++xs.map λ_=>none) H {s with heap:=h4}:=by
  refine⟨ok,rfl,I.bare,Un.kept keep4,⟨_,nsC,λi y v e1 e2 e3=>?_⟩,λy c e=>?_,frC,λy c e=>?_,λp hp=>Lr (show p∈([]:List (Addr×Obj))from hp) (by simp),I.hok.kept keep4,?_⟩
  .have hi:i<σ.length:=by
    by_cases hi:i<σ.length
    .exact hi
    .rw[Qd (by lia),Qs]at e2;cases hz:xs[i-σ.length]? with
     |none=>rw[hz]at e2;simp at e2
     |some k=>rw[hz]at e2;simp at e2
   rw[Qf hi]at e2;have vis:scope.names.lookup y=some .local\/scope.names.lookup y=some .cell\/scope.names.lookup y=some .free:=by
    have e3':fI (Kc scope X.env) y:=e3;unfold fI at e3';rw[zU]at e3';cases hk:scope.names.lookup y with
    |none=>rw[hk]at e3';rcases e3' with z|z|z<;>cases z
    |some k=>
     rw[hk]at e3';simp only[QY]at e3';by_cases hcnd:(k==NameKind.free&&X.env.scope.kind == .function&&X.env.kindOf y==some .cell)=true
     .have:=(Q6.mp (Q6.mp hcnd).1).1;exact .inr (.inr (by rw[show k=.free by simpa using this]))
     .rw[Lq hcnd]at e3';exact e3'
   rcases FH (by rw[<-hσ];exact hi) e1 with z|⟨z,zx⟩
   .obtain ⟨x,hx,z⟩:=z;subst z;rw[B.dumN x hx]at vis;rcases vis with q|q|q<;>cases q
   .have hfree:scope.names.lookup y=some .free:=by
     rcases vis with q|q|q
     .exact Lr q (B.alone y (Qr z) zx).1
     .exact Lr q (B.alone y (Qr z) zx).2
     .exact q
    have kout:=B.free _ (PySem.mem_of_lookup hfree) rfl;obtain⟨m,hn,hl⟩:=I.loc;obtain⟨u,r,l⟩:=hl i y v z e2 (kout.elim (λq=>.inr (.inl q)) λq=>.inr (.inr q));refine⟨u,r,?_⟩;rcases l with⟨k,_⟩|⟨_,c,ec,zc⟩
    .have k':X.env.scope.names.lookup y=some .local:=k;rcases kout with q|q<;>rw[k']at q<;>cases q
    .have hsome:∃c',cs.lookup y=some c':=ok.has y (by
      show(Kc scope X.env).names.lookup y=some .cell\/(Kc scope X.env).names.lookup y=some .free;rw[zU,hfree];simp only[QY];split
      .exact .inl rfl
      .exact .inr rfl)
     obtain⟨c',ec'⟩:=hsome;refine .inr ⟨?_,c',ec',?_⟩
     .show (Kc scope X.env).names.lookup y=some .cell\/(Kc scope X.env).names.lookup y=some .free;rw[zU,hfree];simp only[QY];split
      .exact .inl rfl
      .exact .inr rfl
     .rcases csIn y c' ec' with⟨_,q⟩|⟨_,_,q⟩
      .rw[ec]at q;cases q;exact zc.keeps keep4
      .exact Lr hfree (B.one (y,.cell) q rfl)
  .rcases csIn y c e with⟨_,q⟩|⟨_,q,_⟩
   .obtain ⟨v,z⟩:=I.cell y c q;exact⟨v,z.keeps keep4⟩
   .exact ⟨_,q⟩
  .rcases csIn y c e with⟨_,q⟩|⟨q,_,_⟩
   .exact I.freeC y c q
   .exact frN c (by lia)
  .show (σ++xs.map λ_=>none).length=(yF X.N xs).length;rw[FI,QH,hσ,Qp]
 -- the loop
 have hLoc:∀x∈xs,Loc Xc.env.scope x/\(Xc.fn x=true\/Xc.env.scope.names.lookup x=some .local):=λx hx=>by
  constructor
  .show (Kc scope X.env).names.lookup x=some .local\/(Kc scope X.env).names.lookup x=some .cell;rw[zU];rcases B.own x hx with q|q<;>rw[q]
   .exact .inl rfl
   .exact .inr rfl
  .rcases B.own x hx with q|q
   .refine .inr ?_;show(Kc scope X.env).names.lookup x=some .local;rw[zU,q];rfl
   .exact .inl (Lu q)
 have hg:PG Xc tg g:=hpg Xc hXc hLoc;have fpX:∀{H':Hp},(∀b∈fp,H' b=none)->∀b∈fp,ku Xc [] H' b:=λhn b hb=>
  ⟨hn b hb,QI (fpC b hb),λz=>ok.exfs b hb z,.inl hb,λy c e=>(ok.exf b hb).2 y c e,λp hp=>Lr (show p∈([]:List (Addr×Obj))from hp) (by simp)⟩
 have loop:JC (IY X.prog X.w) X.A (.compLoop (.ListComp elt [⟨tg,iter,ifs,0⟩] scope pos) 0 (.ref it) (.ref D) cenv) RR {s with heap:=h4}:=by
  refine gJ (λn s'=>∃i os ys H',os.length=xs.length/\Inv Xc [] (σ++os) H' s'/\tn i s'.heap/\(∀b∈fp,H' b=none)/\W i n ys H') ?_ m0 ⟨0,_,[],H,Qp _,I4,T.keep _ _ _ st λb _ o e=>keep4 b o e,λb hb=>(hfp b hb).1,w0⟩;rintro n s3 ⟨i,os,ys,H3,hos,I3,st3,fr3,w3⟩;rcases turn i n ys H3 w3 with⟨stop,fin⟩|⟨go,step⟩
  .refine aW (T.done Xc rfl rfl rfl rfl i [] s3 (σ++os) H3 Xc.xe I3 (fpX fr3) st3 stop) λr s4 ⟨hr,I4⟩=>?_;subst hr;obtain⟨m,hn,_⟩:=id I4.loc;refine fin s4 m C ?_ hn (VC hC) I4.free;exact I.call' (ch:=fp) I4.os I4.base I4.hok I4.bare λb hb=>⟨(hfp b hb).2.2.2.1,(hfp b hb).2.1,(hfp b hb).2.2.2.2.1,(hfp b hb).2.2.2.2.2⟩
  .refine aW (T.item Xc rfl rfl rfl rfl i [] s3 (σ++os) H3 Xc.xe I3 (fpX fr3) st3 go) λr s4 ⟨u,hr,h4'⟩=>?_;subst hr;refine aW h4' λ_ s5 ⟨v,H5,I5,r5,y5,st5,fr5⟩=>?_;have I5':=I5.pinned (fpX fr5) (T.obj _ _ st5);obtain⟨vs,hvs,step5⟩:=step v H5 y5;obtain⟨hvl,hset⟩:=hun v H5 vs os hos hvs;refine aW (hg _ s5 (σ++os) H5 v u (λσ2 H2=>σ2=σ++vs.map some/\H2=H5) I5' r5 hset) λ_ s6 ⟨σ6,H6,I6,e6,e6'⟩=>?_;subst e6;subst e6';have back:∀{H7:Hp}{s7:Shared},Inv Xc ([]++kI fp s5.heap) (σ++vs.map some) H7 s7->tn (i+1) s7.heap/\(∀b∈fp,H7 b=none)/\Inv Xc [] (σ++vs.map some) H7 s7:=λ{H7 s7} I7=>by
    refine⟨T.keep _ _ _ st5 λb hb ob e=>(I7.pin (b,ob) (Qy _ (Qy _ (xT hb e)))).1,λb hb=>?_,I7.unpinned⟩;obtain⟨ob,e,_⟩:=T.obj _ _ st5 b hb;exact(I7.pin (b,ob) (Qy _ (Qy _ (xT hb e)))).2.1
   refine aW (hT _ s6 (σ++vs.map some) H6 _ I6 step5) λb s7 ⟨H7,I7,q7⟩=>?_;cases b with
   |false=>
    rw[Lq QC]at q7 ⊢;obtain⟨m',hm,w7⟩:=q7;obtain⟨t1,t2,t3⟩:=back I7;exact⟨m',hm,i+1,_,ys,H7,(by rw[Qp];exact hvl),t3,t1,t2,w7⟩
   |true=>
    rw[Lp rfl]at q7 ⊢;refine aW (hE _ s7 (σ++vs.map some) H7 _ I7 q7) λyv s8 ⟨y,H8,I8,r8,hD8,hl8,m',hm,w8⟩=>?_;refine aW (jW (X:=Xc) _ s8 (σ++vs.map some) H8 (.ref D) [y] (.ref D) [yv] (λ_ H9=>H9=aH H8 D (.lst (ys++[y]))) I8 rfl (.cons r8 .nil) ⟨D,ys,y,rfl,rfl,hD8,hl8,rfl⟩) λ_ s9 ⟨_,H9,I9,_,e9⟩=>?_;subst e9;obtain⟨t1,t2,t3⟩:=back I9;exact⟨m',hm,i+1,_,ys++[y],_,(by rw[Qp];exact hvl),t3,t1,t2,w8⟩
 refine codeAny_compStart_list loop ?_;exact T.self X.A 0 _ _ _ (T.keep _ _ _ st λb _ o e=>keep4 b o e) loop
section
variable{X:Cx}{elt iter tg:Expr}{xs:List Str}{y:Str}{g:TG}{un:V->Hp->List V->Prop}{py:Pos}{ifs:List Expr}{scope:IN}{pos spos:Pos}{wi:TI}{tc:TT}{te:TE}
def Inv.aside{pins:List (Addr×Obj)}{σ:St}{H:Hp}{s:Shared}{C lo:Addr}{h':IS}(I:Inv X pins σ H s)(hlo:lo<=C)(hL:X.env.locals<lo)(hcell:∀y c,X.env.cells.lookup y=some c->c<lo)(hpin:∀p∈X.pn++pins,p.1<lo)
  (hn:H C=none) (hs:Wa C s.heap h'):Inv X pins σ H {s with heap:=h' } :=
 I.turned (it:=C) (t':=s.toks) (λb o hb e=>(hs.2 b hb).trans e) hn (WH (Ql hL hlo)) (.inr (Qu I.ok.above (Qu (Vt hL) hlo)))
  (λy c e=>QI (Ql (hcell y c e) hlo)) λp hp=>QI (Ql (hpin p hp) hlo)
def Inv.below (I:Inv X pins σ H s):X.env.locals<s.heap.objs.size/\(∀y c,X.env.cells.lookup y=some c->c<s.heap.objs.size)/\∀p∈X.pn++pins,p.1<s.heap.objs.size:=
 ⟨I.lt,λy c e=>let⟨_,z⟩:=I.cell y c e;z.lt,λp hp=>Qi (I.pin p hp).1⟩
def wO(B:bQ X scope xs)(ok:X.Ok):closureFor scope X.env=pure (wV X.env scope.names []):=
 kL λy hy hf=>(B.free y hy hf).elim (λq=>ok.has y.1 (.inl q)) λq=>ok.has y.1 (.inr q)
structure ip(X:Cx)(scope:IN)(xs:List Str)(tg:Expr)(g:TG)(un:V->Hp->List V->Prop):Prop where
 pg:∀Xc,bJ X scope xs Xc->(∀x∈xs,Loc Xc.env.scope x/\(Xc.fn x=true\/Xc.env.scope.names.lookup x=some .local))->PG Xc tg g
 un:∀v H vs os (σ:St),σ.length=X.N.length->os.length=xs.length->un v H vs->vs.length=xs.length/\g v (σ++os) H λσ2 H2=>σ2=σ++vs.map some/\H2=H
def lW(v:V)(_:Hp)(vs:List V):Prop:=vs=[v]
def pq{α:Type}{l:List α}(h:l.length=1):∃a,l=[a]:=by
 cases l with
 |nil=>cases h
 |cons a t=>
  cases t with
  |nil=>exact⟨a,rfl⟩
  |cons b t=>cases h
def pk{α:Type}{l:List α}(h:l.length=2):∃a b,l=[a,b]:=by
 cases l with
 |nil=>cases h
 |cons a t=>
  obtain⟨b,rfl⟩:=pq (Nat.succ.inj h);exact⟨a,b,rfl⟩
def gK (B:bQ X scope [x]):ip X scope [x] (.Name x px) (xl X.N.length) lW:=by
 refine⟨λXc c h=>?_,λv H vs os σ hσ ho hv=>?_⟩
 .exact yz (by rw[c.N];exact B.nd) (by rw[c.N];exact wW X.N [x] 0) (h x (by simp)).1 (h x (by simp)).2
 .cases hv;refine⟨rfl,?_,rfl⟩;obtain⟨o,rfl⟩:=pq ho;rw[<-hσ,Vw _ _ (Qg _)];simp
def iM(K:Qb)(v:V)(H:Hp)(vs:List V):Prop:=∃a,v=.ref a/\bM K H a vs/\vs.length=2
def gL (hc:X.calm=true)(B:bQ X scope [x,y]):ip X scope [x,y] (.Tuple [.Name x px,.Name y py] k pt) (fS X.K 2 (vh (xl X.N.length) (vh (xl (X.N.length+1)) fT))) (iM X.K):=by
 refine⟨λXc c h=>?_,λv H vs os σ hσ ho hv=>?_⟩
 .have nd:Xc.N.Nodup:=by rw[c.N];exact B.nd
  rw[<-c.K];exact gC c.calm (yN (yz nd (by rw[c.N];exact wW X.N [x,y] 0) (h x (by simp)).1 (h x (by simp)).2) (yN (yz nd (by rw[c.N];exact wW X.N [x,y] 1) (h y (by simp)).1 (h y (by simp)).2) kA))
 .obtain ⟨a,e1,e2,e3⟩:=hv;obtain⟨u,w,rfl⟩:=pk e3;obtain⟨o,p,rfl⟩:=pk ho;refine⟨rfl,a,[u,w],e1,e2,rfl,u,[w],rfl,w,[],rfl,rfl,?_,rfl⟩;rw[<-hσ,Vw _ _ (Qg _),Vw _ _ (by lia)];simp
def kB(B:bQ X scope xs)(hc:X.calm=true)(hT:ip X scope xs tg g un)(hi:PI X tg iter wi)(hbody:∀Xc,bJ X scope xs Xc->fJ Xc ifs tc/\PE Xc elt te)
  (hs:∀v,Jt iter X.env v=pure v:=by intro _;rfl):PE X (.ListComp elt [⟨tg,iter,ifs,0⟩] scope pos) (jY un wi tc te):=by
 intro pins s σ H Q I h;rw[eval_ListComp];refine Kf (use:=none) (cl:=wV X.env scope.names []) rfl hs (wO B I.ok) B.kind B.locs ?_;refine aW (hi pins s σ H _ I h) λxv s1 h1=>aW h1 λitv s2 h2=>?_;obtain⟨it,fp,tn,J,H2,e,I2,T,st2,f2,q2⟩:=h2;subst e;refine JT ?_;have I3:=I2.lnew (its:=[]) (ys:=[]) (t':=s2.toks) .nil (WA _);obtain⟨W,⟨m0,w0⟩,turn⟩:=q2 s2.heap.objs.size (I2.hok.fresh (Qg _));have fp3:∀b∈fp,ku X pins (aH H2 s2.heap.objs.size (.lst [])) b:=λb hb=>by
  obtain⟨o,e,_⟩:=T.obj _ _ st2 b hb;exact⟨by rw[zd (QI (Qi e))];exact(f2 b hb).1,(f2 b hb).2⟩
 obtain⟨b1,b2,b3⟩:=I3.below;refine kM B hc hT.pg (λv H vs os h1 h2=>hT.un v H vs os σ I.len h1 h2) hbody I3 T (T.keep _ _ _ st2 λb _ o e=>Qc _ e) fp3 W m0 w0 λi m ys H4 w=>?_;rcases turn i m ys H4 w with⟨stop,q⟩|r
 .exact .inl ⟨stop,λs' m' C I' hn hC hCn=>⟨m',hn,λh' hsb=>⟨.ref s2.heap.objs.size,H4,I'.aside hC b1 b2 b3 hCn hsb,rfl,q⟩⟩⟩
 .exact .inr r
def Gd (B:bQ X scope xs)(hc:X.calm=true)(hT:ip X scope xs tg g un)(hi:PI X tg iter wi)(hbody:∀Xc,bJ X scope xs Xc->fJ Xc ifs tc/\PE Xc elt te)(hN:X.N.Nodup)(hy:X.N[i]?=some y)(hx:Loc X.env.scope y)(hf:X.fn y=true\/X.env.scope.names.lookup y=some .local)(hsw:Jf (.ListComp elt [⟨tg,iter,ifs,0⟩] scope pos) (some (.Name y py)) spos.line X.env=pure true)(hs:∀v,Jt iter X.env v=pure v:=by intro _;rfl):PS X (.Assign [.Name y py] (.ListComp elt [⟨tg,iter,ifs,0⟩] scope pos) spos) (iD (jY un wi tc te) (xl i)):=by
 intro pins s σ H D I h;rw[exec_Assign_Name_used _ _ _ _ hsw];refine Jj (Jl (Jj ?_));show IX _ X.A (do let _ <-comprehension (.ListComp elt [⟨tg,iter,ifs,0⟩] scope pos) scope X.env _ (newList []) false (eval iter X.env) (some (assign (.Name y py) X.env))) _ _ s;refine Jj (Ja (Kf (use:=some (assign (.Name y py) X.env)) (cl:=wV X.env scope.names []) (Q:=λ_ s'=>SP X pins D .next s') rfl hs (wO B I.ok) B.kind B.locs ?_)
  (λ_ s' hq=>Jp (Jp hq)) λ_ _ e=>e)
 refine aW (hi pins s σ H _ I h) λxv s1 h1=>aW h1 λitv s2 h2=>?_;obtain⟨it,fp,tn,J,H2,e,I2,T,st2,f2,q2⟩:=h2;subst e;refine JT ?_;have I3:=I2.lnew (its:=[]) (ys:=[]) (t':=s2.toks) .nil (WA _);obtain⟨W,⟨m0,w0⟩,turn⟩:=q2 s2.heap.objs.size (I2.hok.fresh (Qg _));have fp3:∀b∈fp,ku X pins (aH H2 s2.heap.objs.size (.lst [])) b:=λb hb=>by
  obtain⟨o,e,_⟩:=T.obj _ _ st2 b hb;exact⟨by rw[zd (QI (Qi e))];exact(f2 b hb).1,(f2 b hb).2⟩
 obtain⟨b1,b2,b3⟩:=I3.below;refine kM B hc hT.pg (λv H vs os h1 h2=>hT.un v H vs os σ I.len h1 h2) hbody I3 T (T.keep _ _ _ st2 λb _ o e=>Qc _ e) fp3 W m0 w0 λi' m ys H4 w=>?_;rcases turn i' m ys H4 w with⟨stop,q⟩|r
 .refine .inl ⟨stop,λs' m' C I' hn hC hCn=>?_⟩;refine wpAny_assign_Name (jQ I' hN hy hx (v:=.ref s2.heap.objs.size) rfl (λs'' I'' ⟨a,sb,ha⟩=>?_) hf);have hCa:C≠a:=by
   rcases ha with rfl|ha
   .exact WH (Ql b1 hC)
   .exact WH (Ql (b2 _ _ ha) hC)
  exact⟨m',hn.sameBut sb hCa,λh' hsb=>⟨_,H4,I''.aside hC b1 b2 b3 hCn hsb,q⟩⟩
 .exact .inr r
end
section
variable{X:Cx}
theorem av.at (h:av xs us){i:Nat}(e:us[i]?=some u):∃x,xs[i]?=some x/\RelV x u:=by
 have hl:=h.length;have hi:=(Qa.mp e).1;have hx:xs[i]?=some xs[i]:=Qm (by lia);obtain⟨u',h1,h2⟩:=h.get hx;rw[e]at h1;cases h1;exact⟨_,hx,h2⟩
def FG(bs:List Bool):(QL bs.length).all (λi=>bs.getD i true)=bs.all id:=by
 rw[WT,QN,QN];constructor
 .intro h b hb;obtain⟨i,hi,e⟩:=List.getElem_of_mem hb;have:=h i (by simpa using hi);rw[Qn,Qm hi]at this;simpa [e]using this
 .intro h i hi;have hi':i<bs.length:=by simpa using hi
  rw[Qn,Qm hi'];exact h _ (Vn hi')
def qK(hc:X.calm=true):bp X (.builtin "all") (λxs H Q=>∃(p:Addr) (bs:List Bool),xs=[.ref p]/\bD X.K H p (bs.map V.bl)/\Q (.bl (bs.all id)) H):=by
 intro pins s σ H xs us Q I r h;obtain⟨p,bs,rfl,hq,q⟩:=h;obtain⟨u,rfl,rx⟩:=xG r;cases rx;obtain⟨its,r',pl,hz⟩:=I.list hq;have hlen:=r'.length;have hp:∃o,s.heap.get? p=some o:=by obtain⟨o,ho,_⟩:=pl.isList;exact⟨o,ho⟩
 obtain⟨o,ho⟩:=hp;have hlt:=Qi ho;refine call_all_walk (Jr pl.isList ?_);refine⟨s.heap.objs.size,_,_,_,_,_,λi=>bs.getD i true,rfl,Walks.list (A:=X.A.in1) (I.ok.hd hc) s.heap.objs.size p (QI hlt) its.toArray,⟨⟨_,Qe _ rfl,rfl,rfl⟩,pl.isList.at λo e=>Qc _ e⟩,?_,λh' tk hk=>?_⟩
 .intro i v s2 Q2 E2 hv hQ;have hv':its[i]?=some v:=by simpa using hv
  obtain⟨y,hy,ry⟩:=r'.at hv';rw[Qs]at hy;cases hb:bs[i]? with
  |none=>rw[hb]at hy;cases hy
  |some b=>
   rw[hb]at hy;cases hy;have:v=.bool b:=ry;subst this;have e:bs.getD i true=b:=by rw[Qn,hb];rfl
   have hQ':Q2 (bs.getD i true) s2:=hQ;rw[e]at hQ';exact Jd hQ'
 .have e:its.toArray.size=bs.length:=by simp at hlen ⊢;lia
  rw[e,FG];exact⟨.bl (bs.all id),H,I.kept (t':=tk) λb o e=>hk b o (λhb=>by
   have:b=s.heap.objs.size:=by simpa using hb
   exact Lr (Qi e) (by rw[this];exact Q4 _)) (Qc _ e),rfl,q⟩
theorem wf(ns:List Int):∀n,n<=ns.length->preSum (λi=>ns.getD i 0) n=(ns.take n).sum
 |0,_=>by simp[preSum]
 |n+1,h=>by
  have e:ns[n]?=some (ns.getD n 0):=by rw[Qn,Qm (by lia)];rfl
  rw[preSum,wf ns n (by lia),List.take_add_one,e,List.sum_append];simp
def qL(hc:X.calm=true):bp X (.builtin "sum") (λxs H Q=>∃(p:Addr) (ns:List Int),xs=[.ref p]/\bD X.K H p (ns.map V.int)/\Q (.int ns.sum) H):=by
 intro pins s σ H xs us Q I r h;obtain⟨p,ns,rfl,hq,q⟩:=h;obtain⟨u,rfl,rx⟩:=xG r;cases rx;obtain⟨its,r',pl,hz⟩:=I.list hq;have hlen:=r'.length;have hp:∃o,s.heap.get? p=some o:=by obtain⟨o,ho,_⟩:=pl.isList;exact⟨o,ho⟩
 obtain⟨o,ho⟩:=hp;have hlt:=Qi ho;refine call_sum_walkG (Jr pl.isList ?_);refine⟨s.heap.objs.size,_,_,_,_,_,λi=>ns.getD i 0,rfl,Walks.list (A:=X.A.in1) (I.ok.hd hc) s.heap.objs.size p (QI hlt) its.toArray,⟨⟨_,Qe _ rfl,rfl,rfl⟩,pl.isList.at λo e=>Qc _ e⟩,?_,?_,λh' tk t' hk=>?_⟩
 .intro b hb;have h1:s.heap.objs.size<(s.heap.push {cls:=.type "list_iterator",data:=.fields #[.ref p,.int 0 0]}).objs.size:=Qi (Qe _ rfl);have:b=s.heap.objs.size\/b=p:=by simpa using hb
  rcases this with rfl|rfl
  .exact h1
  .exact Vb hlt h1
 .intro i v hv;have hv':its[i]?=some v:=by simpa using hv
  obtain⟨y,hy,ry⟩:=r'.at hv';rw[Qs]at hy;cases hb:ns[i]? with
  |none=>rw[hb]at hy;cases hy
  |some b=>
   rw[hb]at hy;cases hy;obtain⟨t,rfl⟩:=(ry:∃t,v=.int b t);have e:ns.getD i 0=b:=by rw[Qn,hb];rfl
   exact⟨t,by show Value.int b t=Value.int (ns.getD i 0) t;rw[e]⟩
 .have e:its.toArray.size=ns.length:=by simp at hlen ⊢;lia
  rw[e,wf ns ns.length (Qg _),Vm];exact⟨.int ns.sum,H,I.kept (t':=tk) λb o e=>hk b o (λhb=>by
   have:b=s.heap.objs.size:=by simpa using hb
   exact Lr (Qi e) (by rw[this];exact Q4 _)) (Qc _ e),⟨t',rfl⟩,q⟩
end
abbrev TK:=List Int×Addr×Value
noncomputable def lI(x:TK):DictEntry:=⟨reduceHash (Builtin.Tuple.tupleHashOf (x.1.map hashInt)),.ref x.2.1,x.2.2⟩
def zQ(d:Addr)(xs:List TK):HO:=.ext λh=>(d==Kg)=false/\∃o es,h.get? d=some o/\o.ExactDict/\o.data=.dict es xs.length/\es.toList=xs.map lI/\(xs.map (·.1)).Nodup
theorem rM:∀{k:List Int}{us:List Value},av (k.map V.int) us->ItemsAre (Kh P w) k us
 |[],_,.nil=>.nil
 |i::_,_,.cons p q=>by
  obtain⟨t,rfl⟩:=p;exact .cons (by show Value.isInt i (.int i t)=true;simp[Value.isInt]) (rM q)
def zZ(K:Qb)(H:Hp)(d:Addr)(xs:List TK):Prop:=H d=some (zQ d xs)/\∀x∈xs,bM K H x.2.1 (x.1.map V.int)
section
variable{prog:IQ}{w:IR}{T:Type}[DecidableEq T]{kd:HeapKind prog w T}{A:IV}{E:Value->Shared->Prop}{s:Shared}{d a:Addr}{k:T}{xs:List (T×Addr×Value)}
def iJ(kd:HeapKind prog w T)(h:IS)(d:Addr)(xs:List (T×Addr×Value)):Prop:=∃o es,h.get? d=some o/\o.ExactDict/\o.data=.dict es xs.length/\es.toList=xs.map (entryOfKey kd)/\(xs.map (·.1)).Nodup
def nO (room:kd.room A)(hk:kd.is s.heap k a)(D:iJ kd s.heap d xs)(all:∀x∈xs,kd.is s.heap x.1 x.2.1)(hz:xs.length<=sizeLine)(end':∀h',iJ kd h' d (storedH xs k a v)->Wa d s.heap h'->R () {s with heap:=h',toks:=s.toks+kd.draws k}):IX (IY prog w) A (dictSet d (.ref a) v) R E s:=by
 obtain⟨o,es,g,ex,dat,rows,nd⟩:=D;have sz:=size_of_entries rows
 let s1:Shared:={s with toks:=s.toks+kd.draws k}
 unfold dictSet;apply Jk;apply Jj;apply kd.pyHash room hk;unfold dictSetHashed;apply Jk;apply Jj;apply wpAny_dictFind_heap (s:=s1) room hk g dat rows all nd
 .intro no;have e1:storedH xs k a v=xs++[(k,a,v)]:=storedH_new (atKey_none_of_get no) a v;have g1:=WK (Obj.mapDictKeys (·.push ⟨kd.hash k,.ref a,v⟩)) g (Obj.isFreed_of_dict (Obj.data_mapDictKeys dat _));apply Jj;apply Ki;apply wpAny_updateDictKeys (s:=s1) g dat _ (by lia);refine end' _ ⟨_,es.push ⟨kd.hash k,.ref a,v⟩,g1,ex.mapDictKeys _,?_,?_,?_⟩ (Wa.update ..)
  .rw[e1,QH];exact Obj.data_mapDictKeys dat _
  .simp[e1,rows,entryOfKey]
  .have z:=not_mem_keys_of_get no;rw[e1,WI,QQ];refine⟨nd,by simp,λx hx y hy e=>?_⟩;have f:y=k:=by simpa using hy
   exact z (f▸e▸hx)
 .intro j p at_;have e1:storedH xs k a v=xs.map (Kj k v):=storedH_old (atKey_of_get nd at_) a v;have g1:=WK (Obj.mapDict (·.modify j λe=>{e with val:=v})) g (Obj.isFreed_of_dict (Obj.data_mapDict dat _));apply Jj;apply Ki;apply Jj;apply wpAny_updateDict (s:=s1) g dat;apply wpAny_point;refine end' _ ⟨_,es.modify j λe=>{e with val:=v},g1,ex.mapDict _,?_,?_,?_⟩ (Wa.update ..)
  .rw[e1,Qp];exact Obj.data_mapDict dat _
  .have q:=modify_map_putAt (entryOfKey kd) (λe:DictEntry=>{e with val:=v}) k v (λ_ _=>rfl) nd at_;rw[<-rows]at q;rw[e1,VA];exact q
  .rw[e1,keys_map_putAt];exact nd
def Fm (room:kd.room A.in1)(hk:kd.is s.heap k a)(D:iJ kd s.heap d xs)(all:∀x∈xs,kd.is s.heap x.1 x.2.1)(hz:xs.length<=sizeLine)(end':∀h',iJ kd h' d (storedH xs k a v)->Wa d s.heap h'->R () {s with heap:=h',toks:=s.toks+kd.draws k}):IX (IY prog w) A (Jh (.ref d) (.ref a) v) R E s:=by
 have ty:s.TypeIs (.ref d) "dict":=let⟨o,_,g,ex,_⟩:=D;⟨o,g,ex.1⟩;unfold Jh;apply Jk;apply Jj;apply wpAny_sequenceKey ty (by decide);apply Jj;apply JQ ty slot_dict_setitem;refine JR slot_dict_setitem ty entry_dict_setitem ?_ (args_dict_setitem _ _ _);apply Jj (m:=Builtin.Dict.notOrdered "__setitem__" ⟨[.ref d,.ref a,v],[]⟩);apply Kk ty;apply Jj (m:=dictSet d (.ref a) v);exact nO room hk D all hz λh' q sb=>Jp ⟨.none,rfl,Jp (end' h' q sb)⟩
end
section
variable{X:Cx}{pins:List (Addr×Obj)}{σ:St}{H:Hp}{s:Shared}
def wC (I:Inv X pins σ H s)(h:bM X.K H a (k.map V.int)):IsTupleKey (Kh X.prog X.w) s.heap k a:=by
 obtain⟨its,r,⟨o,ho,hc,n,hd⟩,_⟩:=I.tuple h;exact⟨o,its.toArray,n,ho,hc,hd,rM r⟩
def xI (I:Inv X pins σ H s)(h:zZ X.K H d xs):(d==Kg)=false/\s.heap.DictOfH (Kl (Kh X.prog X.w)) d xs:=by
 obtain⟨h1,h2⟩:=h;obtain⟨⟨a0,o,es,a1,a2,a3,a4,a5⟩,_,_⟩:=I.hok d _ h1;exact⟨a0,o,es,_,a1,a2,a3,a4,λx hx=>wC I (h2 x hx),a5⟩
def FF:PE X (.Dict [] [] pos) (λ_ H Q=>∀d,H d=none->Q (.ref d) (aH H d (zQ d []))):=by
 intro pins s σ H Q I h;have hd:(s.heap.objs.size==Kg)=false:=by
  obtain⟨o,_,_,ho,_⟩:=I.ok.mod.glob;have h1:(3:Nat)<X.base.objs.size:=Qi ho;have h2:=Qu I.ok.bsz I.sz;have:s.heap.objs.size≠(1:Nat):=by lia
  exact beq_eq_false_iff_ne.mpr this
 refine wpAny_Dict_empty ⟨.ref s.heap.objs.size,aH H s.heap.objs.size (zQ s.heap.objs.size []),I.laid (t':=s.toks) (λb u e=>Qc _ e) (Qg _) ?_,rfl,h _ I.fresh⟩;refine⟨⟨hd,_,#[],Qe _ rfl,⟨rfl,rfl,rfl⟩,rfl,rfl,QM⟩,⟨_,Qe _ rfl⟩,λh1 h2 hx k=>?_⟩;obtain⟨a0,o,es,a1,r⟩:=hx;exact⟨a0,o,es,k o a1,r⟩
def ou(K:Qb):V->V->V->Hp->(Hp->Prop)->Prop:=λo i v H Q=>∃d a ks xs,o=.ref d/\i=.ref a/\bM K H a (ks.map V.int)/\zZ K H d xs/\xs.length<=100000/\∀u,RelV v u->Q (aH H d (zQ d (storedH xs ks a u)))
def AB(hu:X.A.units+64<JA):nH X (ou X.K):=by
 intro pins s σ H o i v ov iv u Q I ro ri rv h;obtain⟨d,a,ks,xs,rfl,rfl,hk,hd,hl,q⟩:=h;cases ro;cases ri;obtain⟨d0,dm⟩:=xI I hd;obtain⟨⟨_,o1,es1,b1,b2,b3,b4,b5⟩,_,_⟩:=I.hok d _ hd.1;refine Fm (kd:=Kl (Kh X.prog X.w)) (by show X.A.units+1<JA;lia) (wC I hk) ⟨o1,es1,b1,b2,b3,b4,b5⟩ (λx hx=>wC I (hd.2 x hx)) (Qu hl (by decide)) λh' ⟨o',es,a1,a2,a3,a4,a6⟩ sb=>?_;refine⟨aH H d (zQ d (storedH xs ks a u)),?_,q u rv⟩;refine I.write (x:=d) (e:=d) (by rw[hd.1];trivial) (.inl rfl) (λb u' hb e=>(sb.2 b hb).trans e) ⟨_,a1⟩ ?_;refine⟨⟨d0,o',es,a1,a2,a3,a4,a6⟩,⟨_,a1⟩,λh1 h2 hx k=>?_⟩;obtain⟨b0,o,es,b1,r⟩:=hx;exact⟨b0,o,es,k o b1,r⟩
def oq(K:Qb):R2:=λx y H Q=>∃d a ks xs p,x=.ref d/\y=.ref a/\bM K H a (ks.map V.int)/\zZ K H d xs/\Km xs ks=some p/\∃v,RelV v p.2/\Q v H
def mR(hu:X.A.units+64<JA):dU X (oq X.K):=by
 intro value slice pins s σ H x y v u Q I rx ry h hs;obtain⟨d,a,ks,xs,p,rfl,rfl,hk,hd,hp,z,rz,q⟩:=h;cases rx;cases ry;obtain⟨d0,dm⟩:=xI I hd;exact JW (x:=p.2) dm.typeIs slot_dict_getitem.lookup
  (wpAny_getItem_heap (knd:=Kl (Kh X.prog X.w)) (Q:=λr s'=>r=p.2/\EP X pins σ Q r s') (by show X.A.units+1<JA;lia) (wC I hk) dm hp ⟨rfl,z,H,I.tok _,rz,q⟩) hs
end
end L2
namespace Mini
inductive Wd where
 |non|bl (b:Bool)|int (i:Int)|str (s:List Nat)|tup (xs:List Wd)|rol (xs:List Wd)|ref (l:Nat)
deriving Inhabited
set_option genInjectivity false in
inductive Ob where
 |lst (xs:List Wd)|dct (ks:List (List Int)) (ws:List Wd)
deriving Inhabited
abbrev Me:=List Ob
set_option tactic.hygienic true in
abbrev En:=List (Option Wd)
set_option genInjectivity false in
inductive Rz where
 |ok (w:Wd) (m:Me)|exc (c:Nat) (w:Wd) (m:Me)|no
deriving Inhabited
set_option genInjectivity false in
inductive Rs where
 |next (e:En) (m:Me)|ret (w:Wd) (m:Me)|brk (e:En) (m:Me)|cont (e:En) (m:Me)
 |exc (c:Nat) (w:Wd) (e:En) (m:Me)|no
deriving Inhabited
inductive Bo where|add|sub|mul|fdiv|mod|shr|band|mulB|fdivB
deriving DecidableEq
inductive Co where|eq|ne|lt|le|gt|ge|isin
deriving DecidableEq
inductive Tg where|int|bool|list|tuple|str|dict
deriving DecidableEq
inductive dZ where|len|int|list|tuple|sum|all|minS|maxS|sorted
deriving DecidableEq
inductive dD where|append|clear
deriving DecidableEq
inductive Kd where|zip|prs
deriving DecidableEq
inductive Dk where|get|one|sum|trg|lix|lct|lrv
deriving DecidableEq
set_option genInjectivity false in
inductive Ex where
 |var (i:Nat)|lit (w:Wd)
 |bin (op:Bo) (a b:Ex)|neg (a:Ex)|not (a:Ex)|and (a b:Ex)|or (a b:Ex)
 |cmp (op:Co) (a b:Ex)|chain (p q:Co) (a b c:Ex)|ife (c a b:Ex)
 |unit|pair (a b:Ex)
 |call (k:Nat) (args:Ex)|blt (b:dZ) (args:Ex)|isi (t:Tg) (a:Ex)
 |lst (args:Ex)|tup (args:Ex)|dict0
 |idx (a b:Ex)|slL (a lo:Ex)
 |meth (n:dD) (o args:Ex)
 |rng (a b c:Ex)
 |comp (elt it cond:Ex)
 |compP (k:Kd) (elt a b cond:Ex)
 |dget (a b:Ex)
 |dop (k:Dk) (a b c:Ex)
deriving Inhabited
set_option genInjectivity false in
inductive Sm where
 |skip|seq (a b:Sm)
 |asg (i:Nat) (e:Ex)   |aug (i:Nat) (op:Bo) (e:Ex)
 |ite (c:Ex) (a b:Sm)|forv (i:Nat) (it:Ex) (body:Sm)|fort (i j:Nat) (it:Ex) (body:Sm)
 |ret (e:Ex)  |expr (e:Ex)   |never
 |forZ (i j:Nat) (a b:Ex) (body:Sm)
 |dput (x:Nat) (k e:Ex)
 |forD (i x:Nat) (body:Sm)
 |forI (i j x:Nat) (body:Sm)
deriving Inhabited
def aq:Nat:=100000
def fj:Int:=18446744073709551616
noncomputable def small(i:Int):Bool:=decide (-fj<i)&&decide (i<fj)
noncomputable def cP(p:Wd->Wd->Option Bool):List Wd->List Wd->Option Bool
 |x::xs,y::ys=>match p x y with
  |some a=>(cP p xs ys).map (a && ·)
  |none=>none
 |_,_=>some true
def b2i(b:Bool):Int:=if b then 1 else 0
noncomputable def bm(m:Me)(l:Nat):Bool:=match m[l]? with
 |some (.lst _)=>true
 |_=>false
def Iv:Wd->Bool
 |.rol _=>false
 |_=>true
noncomputable def cu(m:Me):Nat->Wd->Wd->Option Bool
 |0,_,_=>none
 |k+1,x,y=>match x,y with
  |.tup a,.tup b=>(cP (cu m k) a b).map (· && decide (a.length=b.length))
  |.ref a,.ref b=>if a=b then(if bm m a then some true else none)else match m[a]?,m[b]? with
   |some (.lst xs),some (.lst ys)=>if xs.length=ys.length then cP (cu m k) xs ys else some false
   |_,_=>none
  |.ref a,.int _=>if bm m a&&true then some false else none
  |.ref a,.tup _=>if bm m a&&true then some false else none
  |.int _,.ref b=>if bm m b&&true then some false else none
  |.tup _,.ref b=>if bm m b&&true then some false else none
  |.int a,.int b=>some (decide (a=b))
  |.int _,.tup _=>some false
  |.tup _,.int _=>some false
  |_,_=>none
def yD:Nat:=12
noncomputable def ei(p:Wd->Wd->Option Bool)(x:Wd):List Wd->Option Bool
 |[]=>some false
 |y::ys=>match p y x with
  |some a=>(ei p x ys).map (a || ·)
  |none=>none
noncomputable def ix(n:Nat)(i:Int):Option Nat:=
 if 0<=i then(if i<n then some i.toNat else none)else if -(n:Int)<=i then some (i+n).toNat else none
noncomputable def alloc(m:Me)(xs:List Wd):Rz:=if xs.length<=aq then .ok (.ref m.length) (m++[.lst xs])else .no
noncomputable def zn(m:Me)(l:Nat):Option (List Wd):=match m[l]? with
 |some (.lst xs)=>some xs
 |_=>none
noncomputable def yG(m:Me):Wd->Option (List Wd)
 |.tup xs=>some xs
 |.rol xs=>some xs
 |.ref l=>zn m l
 |_=>none
noncomputable def cQ(op:Bo)(x y:Wd)(m:Me):Rz:=match x,y with
 |.int i,.int j=>match op with
  |.add=>.ok (.int (i+j)) m
  |.sub=>.ok (.int (i-j)) m
  |.mul=>if small i || small j then .ok (.int (i*j)) m else .no
  |.fdiv=>if 0<j/\j<1073741824 then .ok (.int (i/j)) m else .no
  |.mod=>if 0<j then .ok (.int (i%j)) m else .no
  |.shr=>if 0<=j/\j<=1000 then .ok (.int (i/2^j.toNat)) m else .no
  |.band=>if 0<=i/\j=1 then .ok (.int (i%2)) m else .no
  |.mulB=>if i.natAbs.log2<100000/\j.natAbs.log2<100000 then .ok (.int (i*j)) m else .no
  |.fdivB=>if 0<j/\j.natAbs.log2<9000 then .ok (.int (i/j)) m else .no
 |.ref a,.ref b=>match op,m[a]?,m[b]? with
  |.add,some (.lst xs),some (.lst ys)=>alloc m (xs++ys)
  |_,_,_=>.no
 |.ref a,.int k=>match op,m[a]? with
  |.mul,some (.lst xs)=>if -aq<=k/\k<=aq then alloc m (Qq k.toNat xs).flatten else .no
  |_,_=>.no
 |.tup xs,.tup ys=>match op with
  |.add=>if xs.length+ys.length<=aq then .ok (.tup (xs++ys)) m else .no
  |_=>.no
 |_,_=>.no
noncomputable def dF(o:Option Bool)(m:Me):Rz:=match o with
 |some b=>.ok (.bl b) m
 |none=>.no
noncomputable def kN(r:Int->Int->Bool)(x y:Wd)(m:Me):Rz:=match x,y with
 |.int i,.int j=>.ok (.bl (r i j)) m
 |_,_=>.no
noncomputable def yg:List Wd->Option (List Int)
 |[]=>some []
 |.int i::r=>(yg r).map (i::·)
 |_=>none
noncomputable def fi(op:Co)(x y:Wd)(m:Me):Rz:=match op with
 |.eq=>dF (cu m yD x y) m
 |.ne=>dF ((cu m yD x y).map (!·)) m
 |.isin=>match yG m y with
  |some ys=>dF (ei (cu m yD) x ys) m
  |none=>.no
 |.lt=>kN (λi j=>decide (i<j)) x y m
 |.le=>kN (λi j=>decide (i<=j)) x y m
 |.gt=>kN (λi j=>decide (j<i)) x y m
 |.ge=>kN (λi j=>decide (j<=i)) x y m
noncomputable def cJ(t:Tg)(x:Wd)(m:Me):Option Bool:=match t,x with
 |.int,.int _=>some true
 |.int,.bl _=>some true
 |.bool,.bl _=>some true
 |.str,.str _=>some true
 |.tuple,.tup _=>some true
 |.list,.rol _=>some true
 |t,.ref l=>match m[l]? with
  |some (.lst _)=>some (decide (t=.list))
  |some (.dct _ _)=>some (decide (t=.dict))
  |none=>none
 |_,_=>some false
def aP(n d:Nat):Option Int->Nat
 |none=>d
 |some v=>if v<0 then(v+(n:Int)).toNat else min v.toNat n
noncomputable def jK:List Wd->Option Int
 |[]=>some 0
 |.int i::r=>(jK r).map (i+·)
 |_=>none
noncomputable def eX:List Wd->Option Bool
 |[]=>some true
 |.bl b::r=>(eX r).map (b && ·)
 |_=>none
noncomputable def vm(m:Me):Wd->Option (List Wd)
 |.rol xs=>some xs
 |.ref l=>zn m l
 |_=>none
noncomputable def bZ:List Int->List Int->Bool
 |[],[]=>false
 |[],_::_=>true
 |_::_,[]=>false
 |x::xs,y::ys=>if x=y then bZ xs ys else decide (x<y)
noncomputable def kh(m:Me):List Wd->Option (List (List Int))
 |[]=>some []
 |.ref l::r=>match zn m l with
  |some xs=>match yg xs,kh m r with
   |some k,some ks=>some (k::ks)
   |_,_=>none
  |none=>none
 |_=>none
noncomputable def iI:List (List Int)->Option (List Int)
 |r::rs=>if r.length≠0/\rs.all (λq=>q.length==r.length)=true then some (((r.length:Int)+1)::(r::rs).flatten)else none
 |[]=>none
noncomputable def qM(m:Me)(xs:List Wd):Option (List Int):=match yg xs with
 |some k=>some (0::k)
 |none=>(kh m xs).bind iI
noncomputable def wQ(m:Me):List Wd->Option (List (List Int))
 |[]=>some []
 |.ref l::r=>match zn m l with
  |some xs=>match qM m xs,wQ m r with
   |some k,some ks=>some (k::ks)
   |_,_=>none
  |none=>none
 |_=>none
noncomputable def yU:Int->List Int->Int
 |a,[]=>a
 |a,b::r=>yU (if b<a then b else a) r
noncomputable def xm:Int->List Int->Int
 |a,[]=>a
 |a,b::r=>xm (if b > a then b else a) r
noncomputable def xJ:List (List Int)->Bool
 |x::y::r=>bZ x y&&(decide (x.length=y.length)&&decide (x.head?=y.head?))&&xJ (y::r)
 |_=>true
noncomputable def kO{α β:Type}:List α->(List α->β)->β
 |[],k=>k []
 |x::xs,k=>kO xs λys=>k (x::ys)
theorem xc:∀(xs:List α) (k:List α->β),kO xs k=k xs
 |[],_=>rfl
 |x::xs,k=>xc xs λys=>k (x::ys)
noncomputable def iA{β:Type}(i:Int)(k:Int->β):β:=match i with
 |.ofNat 0=>k 0
 |.ofNat (n+1)=>k (.ofNat (n+1))
 |.negSucc 0=>k (-1)
 |.negSucc (n+1)=>k (.negSucc (n+1))
def rL (i:Int)(k:Int->β):iA i k=k i:=by
 cases i with
 |ofNat n=>cases n<;>rfl
 |negSucc n=>cases n<;>rfl
noncomputable def eW{β:Type}:List Int->(List Int->β)->β
 |[],k=>k []
 |x::xs,k=>iA x λy=>eW xs λys=>k (y::ys)
theorem kC:∀(xs:List Int) (k:List Int->β),eW xs k=k xs
 |[],_=>rfl
 |x::xs,k=>by
  show iA x (λy=>eW xs λys=>k (y::ys))=_;rw[rL,kC]
noncomputable def ki{β:Type}:List (List Int)->(List (List Int)->β)->β
 |[],k=>k []
 |x::xs,k=>eW x λy=>ki xs λys=>k (y::ys)
theorem kP:∀(xs:List (List Int)) (k:List (List Int)->β),ki xs k=k xs
 |[],_=>rfl
 |x::xs,k=>by
  show eW x (λy=>ki xs λys=>k (y::ys))=_;rw[kC,kP]
noncomputable def zw{α:Type}(p:List Int×α):List (List Int×α)->List (List Int×α)
 |[]=>[p]
 |q::r=>if bZ p.1 q.1 then p::q::r else q::zw p r
noncomputable def zG{α:Type}:List (List Int×α)->List (List Int×α)
 |[]=>[]
 |p::r=>kO (zG r) λs=>zw p s
def yt (p:List Int×α)(r:List (List Int×α)):zG (p::r)=zw p (zG r):=xc (zG r) λs=>zw p s
noncomputable def xz(α:Type)(ks:List (List Int))(xs:List α):Option (List α):=ki ks λks=>kO xs λxs=>kO (ks.zip xs) λz=>kO (zG z) λs=>if xJ (s.map Prod.fst)then some (s.map Prod.snd)else none
def vn(α:Type)(ks:List (List Int))(xs:List α):xz α ks xs=if xJ ((zG (ks.zip xs)).map Prod.fst)then some ((zG (ks.zip xs)).map Prod.snd)else none:=by
 unfold xz;rw[kP,xc,xc,xc]
def GE(ns:List Int):List Int:=ns.mergeSort λa b=>decide (a<=b)
noncomputable def kx(b:dZ)(ws:List Wd)(m:Me):Rz:=match b with
 |.sorted=>match ws with
  |[.ref l]=>match zn m l with
   |some xs=>match (wQ m xs).bind λks=>xz Wd ks xs with
    |some ys=>alloc m ys
    |none=>.no
   |none=>.no
  |_=>.no
 |.minS=>match ws with
  |[x]=>match (yG m x).bind yg with
   |some (i::r)=>.ok (.int (yU i r)) m
   |_=>.no
  |_=>.no
 |.maxS=>match ws with
  |[x]=>match (yG m x).bind yg with
   |some (i::r)=>.ok (.int (xm i r)) m
   |_=>.no
  |_=>.no
 |.len=>match ws with
  |[x]=>match yG m x with
   |some xs=>.ok (.int xs.length) m
   |none=>.no
  |_=>.no
 |.int=>match ws with
  |[.int i]=>.ok (.int i) m
  |[.bl b]=>.ok (.int (b2i b)) m
  |_=>.no
 |.list=>match ws with
  |[x]=>match yG m x with
   |some xs=>alloc m xs
   |none=>.no
  |_=>.no
 |.tuple=>match ws with
  |[x]=>match yG m x with
   |some xs=>.ok (.tup xs) m
   |none=>.no
  |_=>.no
 |.sum=>match ws with
  |[x]=>match (vm m x).bind jK with
   |some i=>.ok (.int i) m
   |none=>.no
  |_=>.no
 |.all=>match ws with
  |[x]=>match (vm m x).bind eX with
   |some i=>.ok (.bl i) m
   |none=>.no
  |_=>.no
noncomputable def di(n:dD)(o:Wd)(ws:List Wd)(m:Me):Rz:=match o with
 |.ref l=>match m[l]? with
  |some (.lst xs)=>match n,ws with
   |.append,[y]=>if xs.length<aq then .ok .non (m.set l (.lst (xs++[y])))else .no
   |.clear,[]=>.ok .non (m.set l (.lst []))
   |_,_=>.no
  |_=>.no
 |_=>.no
def yb(x:Wd)(m:Me):Bool:=match x with
 |.ref l=>bm m l
 |_=>false
noncomputable def qN(x y:Wd)(m:Me):Rz:=match y with
 |.int i=>match yG m x with
  |some xs=>match (ix xs.length i).bind λj=>xs[j]? with
   |some v=>.ok v m
   |none=>.no
  |none=>.no
 |_=>.no
noncomputable def ky:Wd->Option (List Int)
 |.tup ws=>yg ws
 |_=>none
noncomputable def cb{α:Type}:List (List Int)->List α->List Int->Option α
 |k::ks,w::ws,q=>if k=q then some w else cb ks ws q
 |_,_,_=>none
noncomputable def xn(ks:List (List Int))(q:List Int):List (List Int):=if q∈ks then ks else ks++[q]
noncomputable def zK{α:Type}:List (List Int)->List α->List Int->α->List α
 |k::ks,w::ws,q,v=>if k=q then v::ws else w::zK ks ws q v
 |_,ws,_,v=>ws++[v]
noncomputable def kQ(x y:Wd)(m:Me):Rz:=match x with
 |.ref l=>match m[l]? with
  |some (.dct ks ws)=>match (ky y).bind (cb ks ws)with
   |some v=>.ok v m
   |none=>.no
  |_=>.no
 |_=>.no
noncomputable def vp(x y v:Wd)(m:Me):Rz:=match x with
 |.ref l=>match m[l]? with
  |some (.dct ks ws)=>match ky y with
   |some q=>if ks.length<aq then .ok .non (m.set l (.dct (xn ks q) (zK ks ws q v)))else .no
   |none=>.no
  |_=>.no
 |_=>.no
noncomputable def e8(x:Wd)(lo hi:Option Int)(m:Me):Rz:=match x with
 |.tup xs=>if aP xs.length 0 lo=0/\aP xs.length xs.length hi=xs.length then .no else .ok (.tup ((xs.drop (aP xs.length 0 lo)).take (aP xs.length xs.length hi-aP xs.length 0 lo))) m
 |x=>match vm m x with
 |some xs=>alloc m ((xs.drop (aP xs.length 0 lo)).take (aP xs.length xs.length hi-aP xs.length 0 lo))
 |none=>.no
noncomputable def eV(lo st:Int):Nat->List Wd
 |0=>[]
 |n+1=>.int lo::eV (lo+st) st n
noncomputable def vq(k:Int):List Int->Nat->Option Nat
 |[],_=>none
 |x::r,i=>if x=k then some i else vq k r (i+1)
noncomputable def gM(x:Wd)(m:Me):Option (List Int):=match x with
 |.ref l=>(zn m l).bind yg
 |_=>none
noncomputable def fV(k:Dk)(x:Wd)(m:Me):Bool:=match k with
 |.one=>true
 |.trg=>true
 |.lix=>yb x m
 |.lct=>yb x m
 |.lrv=>true
 |_=>match x with
  |.ref l=>match m[l]? with
   |some (.dct _ _)=>true
   |_=>false
  |_=>false
noncomputable def wc(k:Dk)(x y z:Wd)(m:Me):Rz:=match k with
 |.get=>match x with
  |.ref l=>match m[l]? with
   |some (.dct ks ws)=>match ky y with
    |some q=>match cb ks ws q with
     |some v=>.ok v m
     |none=>.ok z m
    |none=>.no
   |_=>.no
  |_=>.no
 |.one=>match ky y with
  |some q=>.ok (.ref m.length) (m++[.dct [q] [z]])
  |none=>.no
 |.sum=>match x with
  |.ref l=>match m[l]? with
   |some (.dct _ ws)=>match jK ws with
    |some i=>.ok (.int i) m
    |none=>.no
   |_=>.no
  |_=>.no
 |.trg=>match x with
  |.int j=>if -aq<=j/\j<=aq then .ok (.tup (eV 0 1 j.toNat)) m else .no
  |_=>.no
 |.lix=>match y with
  |.int k=>match (gM x m).bind λks=>vq k ks 0 with
   |some j=>.ok (.int (j:Nat)) m
   |none=>.no
  |_=>.no
 |.lct=>match y with
  |.int k=>match gM x m with
   |some ks=>.ok (.int (ks.countP (· == k):Nat)) m
   |none=>.no
  |_=>.no
 |.lrv=>match y with
  |.int i=>match vm m x with
   |some xs=>if i=-1 then alloc m xs.reverse else .no
   |none=>.no
  |_=>.no
noncomputable def fA(a b c:Int):Nat:=if c=1 then(b-a).toNat else if c=-1 then(a-b).toNat else 0
noncomputable def fy(a b c:Wd)(m:Me):Rz:=match a,b,c with
 |.int a,.int b,.int c=>if -aq<=a/\a<=aq/\-aq<=b/\b<=aq/\(c=1\/c=-1)then .ok (.tup (eV a c (fA a b c))) m else .no
 |_,_,_=>.no
def Rz.bind(r:Rz)(f:Wd->Me->Rz):Rz:=match r with
 |.ok w m=>f w m
 |r=>r
noncomputable def y6(c e:Wd->Me->Rz):List Wd->List Wd->Me->Rz
 |[],acc,m=>alloc m acc
 |x::xs,acc,m=>(c x m).bind λb m1=>match b with
  |.bl true=>(e x m1).bind λy m2=>if acc.length<aq then y6 c e xs (acc++[y]) m2 else .no
  |.bl false=>y6 c e xs acc m1
  |_=>.no
noncomputable def y7(c e:Wd->Me->Rz)(l:Nat):Nat->Nat->List Wd->Me->Rz
 |0,_,_,_=>.no
 |k+1,i,acc,m=>match zn m l with
  |none=>.no
  |some xs=>match xs[i]? with
   |none=>alloc m acc
   |some x=>(c x m).bind λb m1=>match b with
    |.bl true=>(e x m1).bind λy m2=>if acc.length<aq then y7 c e l k (i+1) (acc++[y]) m2 else .no
    |.bl false=>y7 c e l k (i+1) acc m1
    |_=>.no
noncomputable def lH:Wd->Option (Wd×Wd)
 |.tup [x,y]=>some (x,y)
 |_=>none
def wX(m:Me):Wd->Option (List Wd)
 |.tup xs=>some xs
 |.ref l=>zn m l
 |_=>none
noncomputable def zL(k:Kd)(x y:Wd)(i:Nat)(m:Me):Option (Option (Wd×Wd)):=match k,x,y with
 |.zip,x,y=>match wX m x,wX m y with
  |some xs,some ys=>some (match xs[i]?,ys[i]? with
   |some x,some y=>some (x,y)
   |_,_=>none)
  |_,_=>none
 |.prs,.ref la,.int _=>match zn m la with
  |some xs=>match xs[i]? with
   |none=>some none
   |some w=>(lH w).map some
  |none=>none
 |_,_,_=>none
noncomputable def yh(c e:Wd->Wd->Me->Rz)(g:Nat->Me->Option (Option (Wd×Wd))):Nat->Nat->List Wd->Me->Rz
 |0,_,_,_=>.no
 |k+1,i,acc,m=>match g i m with
  |none=>.no
  |some none=>alloc m acc
  |some (some (x,y))=>(c x y m).bind λb m1=>match b with
   |.bl true=>(e x y m1).bind λz m2=>if acc.length<aq then yh c e g k (i+1) (acc++[z]) m2 else .no
   |.bl false=>yh c e g k (i+1) acc m1
   |_=>.no
def zz:Wd->List Wd
 |.tup xs=>xs
 |_=>[]
noncomputable def af(cl:Nat->List Wd->Me->Rz):Ex->En->Me->Rz
 |.var i,env,m=>match env[i]? with
  |some (some w)=>.ok w m
  |_=>.no
 |.lit w,_,m=>.ok w m
 |.bin op a b,env,m=>(af cl a env m).bind λx m1=>(af cl b env m1).bind λy m2=>cQ op x y m2
 |.neg a,env,m=>(af cl a env m).bind λx m1=>match x with
  |.int i=>.ok (.int (-i)) m1
  |_=>.no
 |.not a,env,m=>(af cl a env m).bind λx m1=>match x with
  |.bl b=>.ok (.bl (! b)) m1
  |_=>.no
 |.and a b,env,m=>(af cl a env m).bind λx m1=>match x with
  |.bl true=>af cl b env m1
  |.bl false=>.ok (.bl false) m1
  |_=>.no
 |.or a b,env,m=>(af cl a env m).bind λx m1=>match x with
  |.bl false=>af cl b env m1
  |.bl true=>.ok (.bl true) m1
  |_=>.no
 |.cmp op a b,env,m=>(af cl a env m).bind λx m1=>(af cl b env m1).bind λy m2=>fi op x y m2
 |.chain p q a b c,env,m=>(af cl a env m).bind λx m1=>(af cl b env m1).bind λy m2=>(fi p x y m2).bind λz m3=>match z with
  |.bl true=>(af cl c env m3).bind λu m4=>fi q y u m4
  |.bl false=>.ok (.bl false) m3
  |_=>.no
 |.ife c a b,env,m=>(af cl c env m).bind λx m1=>match x with
  |.bl true=>af cl a env m1
  |.bl false=>af cl b env m1
  |_=>.no
 |.unit,_,m=>.ok (.tup []) m
 |.pair a b,env,m=>(af cl a env m).bind λx m1=>(af cl b env m1).bind λy m2=>.ok (.tup (x::zz y)) m2
 |.call k a,env,m=>(af cl a env m).bind λx m1=>cl k (zz x) m1
 |.blt b a,env,m=>(af cl a env m).bind λx m1=>kx b (zz x) m1
 |.isi t a,env,m=>(af cl a env m).bind λx m1=>dF (cJ t x m1) m1
 |.lst a,env,m=>(af cl a env m).bind λx m1=>alloc m1 (zz x)
 |.tup a,env,m=>(af cl a env m).bind λx m1=>if(zz x).length<=aq then .ok (.tup (zz x)) m1 else .no
 |.dict0,_,m=>.ok (.ref m.length) (m++[.dct [] []])
 |.idx a b,env,m=>(af cl a env m).bind λx m1=>(af cl b env m1).bind λy m2=>qN x y m2
 |.dget a b,env,m=>(af cl a env m).bind λx m1=>(af cl b env m1).bind λy m2=>kQ x y m2
 |.dop k a b c,env,m=>(af cl a env m).bind λx m1=>match fV k x m1 with
  |true=>(af cl b env m1).bind λy m2=>(af cl c env m2).bind λz m3=>wc k x y z m3
  |false=>.no
 |.slL a lo,env,m=>(af cl a env m).bind λx m1=>(af cl lo env m1).bind λy m2=>match y with
  |.int i=>e8 x (some i) none m2
  |_=>.no
 |.meth n o a,env,m=>(af cl o env m).bind λx m1=>match yb x m1 with
  |true=>(af cl a env m1).bind λy m2=>di n x (zz y) m2
  |false=>.no
 |.rng a b c,env,m=>(af cl a env m).bind λx m1=>(af cl b env m1).bind λy m2=>(af cl c env m2).bind λz m3=>fy x y z m3
 |.comp elt it cond,env,m=>(af cl it env m).bind λx m1=>match x with
  |.tup xs=>y6 (λx m=>af cl cond (env++[some x]) m) (λx m=>af cl elt (env++[some x]) m) xs [] m1
  |.rol xs=>y6 (λx m=>af cl cond (env++[some x]) m) (λx m=>af cl elt (env++[some x]) m) xs [] m1
  |.ref l=>y7 (λx m=>af cl cond (env++[some x]) m) (λx m=>af cl elt (env++[some x]) m) l (aq+1) 0 [] m1
  |_=>.no
 |.compP k elt a b cond,env,m=>(af cl a env m).bind λx m1=>(af cl b env m1).bind λy m2=>
  yh (λu v m=>af cl cond (env++[some u]++[some v]) m) (λu v m=>af cl elt (env++[some u]++[some v]) m) (zL k x y) (aq+1) 0 [] m2
noncomputable def wR(body:Wd->En->Me->Rs):List Wd->En->Me->Rs
 |[],env,m=>.next env m
 |x::xs,env,m=>match body x env m with
  |.next e1 m1=>wR body xs e1 m1
  |.cont e1 m1=>wR body xs e1 m1
  |.brk e1 m1=>.next e1 m1
  |r=>r
noncomputable def x8(body:Wd->En->Me->Rs)(l:Nat):Nat->Nat->En->Me->Rs
 |0,_,_,_=>.no
 |k+1,i,env,m=>match zn m l with
  |none=>.no
  |some xs=>match xs[i]? with
   |none=>.next env m
   |some x=>match body x env m with
    |.next e1 m1=>x8 body l k (i+1) e1 m1
    |.cont e1 m1=>x8 body l k (i+1) e1 m1
    |.brk e1 m1=>.next e1 m1
    |r=>r
noncomputable def xo(body:Wd->En->Me->Rs)(l n:Nat):Nat->Nat->En->Me->Rs
 |0,_,_,_=>.no
 |k+1,i,env,m=>match m[l]? with
  |some (.dct ks _)=>if ks.length=n then match ks[i]? with
   |none=>.next env m
   |some q=>match body (.tup (q.map Wd.int)) env m with
    |.next e1 m1=>xo body l n k (i+1) e1 m1
    |.cont e1 m1=>xo body l n k (i+1) e1 m1
    |.brk e1 m1=>.next e1 m1
    |r=>r
   else .no
  |_=>.no
noncomputable def xp(l n i:Nat)(m:Me):Option (Option (Wd×Wd)):=match m[l]? with
 |some (.dct ks ws)=>if ks.length=n then some (match ks[i]?,ws[i]? with
  |some q,some w=>some (.tup (q.map Wd.int),w)
  |_,_=>none)else none
 |_=>none
noncomputable def y8(m:Me)(l:Nat):Nat:=match m[l]? with
 |some (.dct ks _)=>ks.length
 |_=>0
noncomputable def yH(body:Wd->En->Me->Rs)(g:Nat->Me->Option (Option (Wd×Wd))):Nat->Nat->En->Me->Rs
 |0,_,_,_=>.no
 |k+1,i,env,m=>match g i m with
  |none=>.no
  |some none=>.next env m
  |some (some (x,y))=>match body (.tup [x,y]) env m with
   |.next e1 m1=>yH body g k (i+1) e1 m1
   |.cont e1 m1=>yH body g k (i+1) e1 m1
   |.brk e1 m1=>.next e1 m1
   |r=>r
noncomputable def Rz.bindS(r:Rz)(env:En)(f:Wd->Me->Rs):Rs:=match r with
 |.ok w m=>f w m
 |.exc c w m=>.exc c w env m
 |.no=>.no
noncomputable def fx(body:Wd->En->Me->Rs)(w:Wd)(env:En)(m:Me):Rs:=match w with
 |.tup xs=>wR body xs env m
 |.rol xs=>wR body xs env m
 |.ref l=>x8 body l (aq+1) 0 env m
 |_=>.no
noncomputable def cw(i j:Nat):Wd->En->Option En:=λw env=>match w with
 |.tup [a,b]=>some ((env.set i (some a)).set j (some b))
 |_=>none
noncomputable def GA(i j k:Nat)(w:Wd)(m:Me)(env:En):Option En:=match yG m w with
 |some [a,b,c]=>some (((env.set i (some a)).set j (some b)).set k (some c))
 |_=>none
noncomputable def zI(st:Wd->En->Option En)(b:En->Me->Rs):Wd->En->Me->Rs:=λw env m=>match st w env with
 |some env'=>b env' m
 |none=>.no
noncomputable def fU(op:Bo)(x y:Wd)(m:Me)(env:En)(f:Wd->Me->Rs):Rs:=match x,y with
 |.int _,.int _=>(cQ op x y m).bindS env f
 |_,_=>.no
noncomputable def mx:Wd->Option (Int×Int)
 |.tup [.int i,.int j]=>some (i,j)
 |_=>none
noncomputable def oo:List Wd->Option (List (Int×Int))
 |[]=>some []
 |w::r=>match mx w,oo r with
  |some p,some q=>some (p::q)
  |_,_=>none
noncomputable def AA(n:Int)(ps:List (Int×Int)):Bool:=ps.all (λp=>decide (1<=p.1)&&decide (p.1<n)&&decide (1<=p.2)&&decide (p.2<n)&&ps.all λq=>decide ((p.1+p.2)%2=(q.1+q.2)%2))&&decide ps.Nodup
noncomputable def BV(p:Int×Int):List (List (List Int)):=[[[p.1-1,p.2-1],[p.1-1,p.2]],[[p.1-1,p.2],[p.1,p.2]],[[p.1,p.2-1],[p.1,p.2]],[[p.1-1,p.2-1],[p.1,p.2-1]]]
def lX(k:List Int):Wd:=.tup (k.map Wd.int)
def tupK(k:List (List Int)):Wd:=.tup (k.map lX)
def mQ(ps:List (Int×Int)):Me:=ps.map λp=>.lst ((BV p).map tupK)
noncomputable def em(t n k p s:Nat)(env:En)(m:Me):Rs:=match env[t]?,env[n]? with
 |some (some (.ref l)),some (some (.int i))=>match m[l]? with
  |some (.lst xs)=>match oo xs with
   |some ps=>if AA i ps=true/\ps.length<=1000 then .next (((env.set k none).set p none).set s none) (m++mQ ps)else .no
   |none=>.no
  |_=>.no
 |_,_=>.no
noncomputable def bB(cl:Nat->List Wd->Me->Rz):Sm->En->Me->Rs
 |.skip,env,m=>.next env m
 |.seq a b,env,m=>match bB cl a env m with
  |.next e1 m1=>bB cl b e1 m1
  |r=>r
 |.asg i e,env,m=>(af cl e env m).bindS env λw m1=>.next (env.set i (some w)) m1
 |.aug i op e,env,m=>match env[i]? with
  |some (some x)=>(af cl e env m).bindS env λy m1=>fU op x y m1 env λz m2=>.next (env.set i (some z)) m2
  |_=>.no
 |.ite c a b,env,m=>(af cl c env m).bindS env λx m1=>match x with
  |.bl true=>bB cl a env m1
  |.bl false=>bB cl b env m1
  |_=>.no
 |.forv i it body,env,m=>(af cl it env m).bindS env λw m1=>fx (λx e m=>bB cl body (e.set i (some x)) m) w env m1
 |.fort i j it body,env,m=>(af cl it env m).bindS env λw m1=>fx (zI (cw i j) (bB cl body)) w env m1
 |.ret e,env,m=>(af cl e env m).bindS env λw m1=>.ret w m1
 |.expr e,env,m=>(af cl e env m).bindS env λ_ m1=>.next env m1
 |.forZ i j a b body,env,m=>(af cl a env m).bindS env λx m1=>(af cl b env m1).bindS env λy m2=>yH (zI (cw i j) (bB cl body)) (zL .zip x y) (aq+1) 0 env m2
 |.dput x k e,env,m=>(af cl e env m).bindS env λv m1=>(af cl (.var x) env m1).bindS env λd m2=>(af cl k env m2).bindS env λq m3=>(vp d q v m3).bindS env λ_ m4=>.next env m4
 |.forD i x body,env,m=>(af cl (.var x) env m).bindS env λw m1=>match w with
  |.ref l=>xo (λq e m=>bB cl body (e.set i (some q)) m) l (y8 m1 l) (aq+1) 0 env m1
  |_=>.no
 |.forI i j x body,env,m=>(af cl (.var x) env m).bindS env λw m1=>match w with
  |.ref l=>yH (zI (cw i j) (bB cl body)) (xp l (y8 m1 l)) (aq+1) 0 env m1
  |_=>.no
 |.never,_,_=>.no
set_option genInjectivity false in
structure Fn where
 ar:Nat
 sz:Nat
 body:Sm
deriving Inhabited
noncomputable def xV(fn:Fn)(ws:List Wd):En:=ws.map some++Qq (fn.sz-ws.length) none
noncomputable def gN(cl:Nat->List Wd->Me->Rz)(fn:Fn)(ws:List Wd)(m:Me):Rz:=
 if ws.length=fn.ar then match bB cl fn.body (xV fn ws) m with
  |.next _ m1=>.ok .non m1
  |.ret w m1=>.ok w m1
  |.exc c w _ m1=>.exc c w m1
  |_=>.no
 else .no
noncomputable def y9(T:List Fn):Nat->Nat->List Wd->Me->Rz
 |0,_,_,_=>.no
 |d+1,k,ws,m=>match T[k]? with
  |some fn=>gN (y9 T d) fn ws m
  |none=>.no
end Mini
namespace Mini
open PySem PySem.Spec PyProof.Rows L2
abbrev St:=L2.St
def KL(K:Qb)(a:Addr)(xs:List V):Prop:=
 ∃(o:Obj) (its:Array Value) (n:Nat),K.lookup a=some o/\o.cls=.type "list" /\ o.dict=none/\o.data=.seq its n/\its.size<=sizeLine/\av xs its.toList
def er(K:Qb)(H:Hp)(a:Addr)(vs:List V):Prop:=(∃o,H a=some (.frz o (.lst vs)))\/KL K a vs
def er.sq {K:Qb}(h:er K H a vs):bD K H a vs:=by
 rcases h with h|h
 .exact .inl (.inr h)
 .exact .inr h
mutual
noncomputable def ag(K:Qb)(as:List Addr)(H:Hp):Wd->V->Prop
 |.non,v=>v=.non
 |.bl b,v=>v=.bl b
 |.int i,v=>v=.int i
 |.str s,v=>v=.str ⟨s.toArray⟩
 |.tup xs,v=>∃a vs,v=.ref a/\bM K H a vs/\aa K as H xs vs
 |.rol xs,v=>∃a vs,v=.ref a/\er K H a vs/\aa K as H xs vs
 |.ref l,v=>∃a,as[l]?=some a/\v=.ref a
noncomputable def aa(K:Qb)(as:List Addr)(H:Hp):List Wd->List V->Prop
 |[],vs=>vs=[]
 |x::xs,vs=>∃v r,vs=v::r/\ag K as H x v/\aa K as H xs r
end
def bv(K:Qb)(as:List Addr)(H:Hp):Ob->Addr->Prop
 |.lst ws,a=>∃vs,H a=some (.lst vs)/\aa K as H ws vs
 |.dct ks ws,a=>∃xs vs,zZ K H a xs/\xs.map (·.1)=ks/\aa K as H ws vs/\av vs (xs.map (·.2.2))/\ks.Nodup
structure aL(K:Qb)(as:List Addr)(m:Me)(H:Hp):Prop where
 len:as.length=m.length
 nd:as.Nodup
 obj:∀(l:Nat) (a:Addr) (o:Ob),as[l]?=some a->m[l]?=some o->bv K as H o a
structure Step(as:List Addr)(H:Hp)(as':List Addr)(H':Hp):Prop where
 pre:∃t,as'=as++t
 frame:∀b o,H b=some o->b∉as->H' b=some o
 fresh:∀a∈as',a∈as\/H a=none
section
variable{K:Qb}{as as' as2:List Addr}{H H' H2:Hp}{m m':Me}
def Step.refl:Step as H as H:=⟨⟨[],by simp⟩,λ_ _ h _=>h,λ_ h=>.inl h⟩
def Step.get (T:Step as H as' H'){l:Nat}(h:as[l]?=some a):as'[l]?=some a:=by
 obtain⟨t,rfl⟩:=T.pre;rw[Qf (Qa.mp h).1];exact h
def Step.out (T:Step as H as' H')(h:H b=some o)(hb:b∉as):b∉as':=λz=>by
 rcases T.fresh b z with q|q
 .exact hb q
 .rw[h]at q;cases q
def Step.trans(T:Step as H as' H')(U:Step as' H' as2 H2):Step as H as2 H2:=by
 refine⟨?_,λb o h hb=>U.frame b o (T.frame b o h hb) (T.out h hb),λa ha=>?_⟩
 .obtain ⟨t,rfl⟩:=T.pre;obtain⟨u,rfl⟩:=U.pre;exact⟨t++u,by simp⟩
 .rcases U.fresh a ha with q|q
  .exact T.fresh a q
  .by_cases z:a∈as
   .exact .inl z
   .refine .inr ?_;cases e:H a with
    |none=>rfl
    |some o=>rw[T.frame a o e z]at q;cases q
def aL.get (S:aL K as m H){l:Nat}(h:m[l]?=some o):∃a,as[l]?=some a/\bv K as H o a:=by
 have hl:l<as.length:=by rw[S.len];exact(Qa.mp h).1
 exact⟨as[l],by simp[hl],S.obj l _ o (by simp[hl]) h⟩
def LD:HO->Prop
 |.lst _=>True
 |.ext _=>True
 |_=>False
def aL.isLst (S:aL K as m H)(h:a∈as):∃o,H a=some o/\LD o:=by
 obtain⟨l,hl,rfl⟩:=W6.mp h;have hm:l<m.length:=by rw[<-S.len];exact hl
 have q:=S.obj l as[l] m[l] (by simp[hl]) (by simp[hm]);cases e:m[l]with
 |lst ws=>
  rw[e]at q;obtain⟨vs,h1,_⟩:=q;exact⟨_,h1,trivial⟩
 |dct ks ws=>
  rw[e]at q;obtain⟨xs,vs,h1,_⟩:=q;exact⟨_,h1.1,trivial⟩
def Fl (nt:∀a∈as,∃o,H a=some o/\LD o)(T:Step as H as' H')(h:bM K H a vs):bM K H' a vs:=by
 rcases h with h|h
 .have hn:a∉as:=λz=>by
   obtain⟨u,e,hu⟩:=nt a z;rcases h with h|⟨o,h⟩<;>rw[e]at h<;>cases h<;>exact hu
  rcases h with h|⟨o,h⟩
  .exact .inl (.inl (T.frame _ _ h hn))
  .exact .inl (.inr ⟨o,T.frame _ _ h hn⟩)
 .exact .inr h
def Fk (nt:∀a∈as,∃o,H a=some o/\LD o)(T:Step as H as' H')(h:er K H a vs):er K H' a vs:=by
 rcases h with⟨o,h⟩|h
 .have hn:a∉as:=λz=>by
   obtain⟨u,e,hu⟩:=nt a z;rw[e]at h;cases h;exact hu
  exact .inl ⟨o,T.frame _ _ h hn⟩
 .exact .inr h
structure Kp(K:Qb)(H H':Hp):Prop where
 t:∀a vs,bM K H a vs->bM K H' a vs
 f:∀a vs,er K H a vs->er K H' a vs
def aL.kp(S:aL K as m H)(T:Step as H as' H'):Kp K H H':=⟨λ_ _ h=>Fl (λ_ z=>S.isLst z) T h,λ_ _ h=>Fk (λ_ z=>S.isLst z) T h⟩
def Kp.updL{D:Addr}{u o:HO}(h:H D=some u)(hu:LD u):Kp K H (L2.aH H D o):=by
 refine⟨λa vs q=>?_,λa vs q=>?_⟩
 .rcases q with (q|⟨x,q⟩)|q
  .exact .inl (.inl (by rw[zd (by rintro rfl;rw[h]at q;cases q;exact hu)];exact q))
  .exact .inl (.inr ⟨x,by rw[zd (by rintro rfl;rw[h]at q;cases q;exact hu)];exact q⟩)
  .exact .inr q
 .rcases q with⟨x,q⟩|q
  .exact .inl ⟨x,by rw[zd (by rintro rfl;rw[h]at q;cases q;exact hu)];exact q⟩
  .exact .inr q
def Kp.upd{D:Addr}{ys:List V}{o:HO}(h:H D=some (.lst ys)):Kp K H (L2.aH H D o):=Kp.updL h trivial
mutual
theorem kR(k:Kp K H H')(g:∀(l:Nat) (a:Addr),as[l]?=some a->as'[l]?=some a):∀(w:Wd) (v:V),ag K as H w v->ag K as' H' w v
 |.non,_,h=>by rw[ag]at h ⊢;exact h
 |.bl _,_,h=>by rw[ag]at h ⊢;exact h
 |.int _,_,h=>by rw[ag]at h ⊢;exact h
 |.str _,_,h=>by rw[ag]at h ⊢;exact h
 |.tup xs,v,h=>by
  rw[ag]at h ⊢;obtain⟨a,vs,e,q,r⟩:=h;exact⟨a,vs,e,k.t _ _ q,aX k g xs vs r⟩
 |.rol xs,v,h=>by
  rw[ag]at h ⊢;obtain⟨a,vs,e,q,r⟩:=h;exact⟨a,vs,e,k.f _ _ q,aX k g xs vs r⟩
 |.ref l,v,h=>by
  rw[ag]at h ⊢;obtain⟨a,q,e⟩:=h;exact⟨a,g _ _ q,e⟩
theorem aX(k:Kp K H H')(g:∀(l:Nat) (a:Addr),as[l]?=some a->as'[l]?=some a):∀(ws:List Wd) (vs:List V),aa K as H ws vs->aa K as' H' ws vs
 |[],_,h=>by rw[aa]at h ⊢;exact h
 |x::xs,vs,h=>by
  rw[aa]at h ⊢;obtain⟨v,r,e,q,t⟩:=h;exact⟨v,r,e,kR k g x v q,aX k g xs r t⟩
end
def bv.mono{ob:Ob}{a:Addr}(k:Kp K H H')(g:∀(l:Nat) (a:Addr),as[l]?=some a->as'[l]?=some a)(e:∀o,H a=some o->H' a=some o)(h:bv K as H ob a):bv K as' H' ob a:=by
 cases ob with
 |lst ws=>obtain⟨vs,h1,h2⟩:=h;exact⟨vs,e _ h1,aX k g _ _ h2⟩
 |dct ks ws=>obtain⟨xs,vs,h1,h2,h3,h4⟩:=h;exact⟨xs,vs,⟨e _ h1.1,λx hx=>k.t _ _ (h1.2 x hx)⟩,h2,aX k g _ _ h3,h4⟩
def ag.mono{w:Wd}{v:V}(h:ag K as H w v)(S:aL K as m H)(T:Step as H as' H'):ag K as' H' w v:=kR (S.kp T) (λ_ _ e=>T.get e) w v h
def aa.mono{ws:List Wd}{vs:List V}(h:aa K as H ws vs)(S:aL K as m H)(T:Step as H as' H'):aa K as' H' ws vs:=aX (S.kp T) (λ_ _ e=>T.get e) ws vs h
def aa.kp{ws:List Wd}{vs:List V}(h:aa K as H ws vs)(k:Kp K H H'):aa K as H' ws vs:=aX k (λ_ _ e=>e) ws vs h
def ag.kp{w:Wd}{v:V}(h:ag K as H w v)(k:Kp K H H'):ag K as H' w v:=kR k (λ_ _ e=>e) w v h
def aN:ag K as H .non v↔v=.non:=by rw[ag]
def ak:ag K as H (.bl b) v↔v=.bl b:=by rw[ag]
def ab:ag K as H (.int i) v↔v=.int i:=by rw[ag]
def aR:ag K as H (.str s) v↔v=.str ⟨s.toArray⟩:=by rw[ag]
def ah:ag K as H (.tup xs) v↔∃a vs,v=.ref a/\bM K H a vs/\aa K as H xs vs:=by rw[ag]
def bj:ag K as H (.rol xs) v↔∃a vs,v=.ref a/\er K H a vs/\aa K as H xs vs:=by rw[ag]
def aG:ag K as H (.ref l) v↔∃a,as[l]?=some a/\v=.ref a:=by rw[ag]
def ao:aa K as H [] vs↔vs=[]:=by rw[aa]
def aj:aa K as H (x::xs) vs↔∃v r,vs=v::r/\ag K as H x v/\aa K as H xs r:=by rw[aa]
theorem aa.length:∀{xs:List Wd}{vs:List V},aa K as H xs vs->xs.length=vs.length
 |[],vs,h=>by rw[ao.mp h];rfl
 |x::xs,vs,h=>by
  obtain⟨v,r,rfl,_,t⟩:=aj.mp h;simp[aa.length t]
theorem aa.get:∀{xs:List Wd}{vs:List V}{i:Nat}{x:Wd},aa K as H xs vs->xs[i]?=some x->∃v,vs[i]?=some v/\ag K as H x v
 |[],_,_,_,_,e=>by simp at e
 |x::xs,vs,0,y,h,e=>by
  obtain⟨v,r,rfl,q,t⟩:=aj.mp h;simp at e;subst e;exact⟨v,rfl,q⟩
 |x::xs,vs,i+1,y,h,e=>by
  obtain⟨v,r,rfl,q,t⟩:=aj.mp h;obtain⟨u,h1,h2⟩:=aa.get (i:=i) (x:=y) t (by simpa using e);exact⟨u,by simpa using h1,h2⟩
def aa.back:∀{xs:List Wd}{vs:List V}{i:Nat}{v:V},aa K as H xs vs->vs[i]?=some v->∃x,xs[i]?=some x/\ag K as H x v:=λ{xs vs i v} h e=>by
 have hi:i<xs.length:=by rw[h.length];exact(Qa.mp e).1
 obtain⟨u,h1,h2⟩:=h.get (i:=i) (x:=xs[i]) (by simp[hi]);rw[e]at h1;cases h1;exact⟨xs[i],by simp[hi],h2⟩
theorem aa.append:∀{xs ys:List Wd}{vs us:List V},aa K as H xs vs->aa K as H ys us->aa K as H (xs++ys) (vs++us)
 |[],ys,vs,us,h,h'=>by rw[ao.mp h];exact h'
 |x::xs,ys,vs,us,h,h'=>by
  obtain⟨v,r,rfl,q,t⟩:=aj.mp h;exact aj.mpr ⟨v,r++us,rfl,q,t.append h'⟩
def aa.one{x:Wd}{v:V}(h:ag K as H x v):aa K as H [x] [v]:=aj.mpr ⟨v,[],rfl,h,ao.mpr rfl⟩
set_option tactic.hygienic true in
theorem aa.take:∀{xs:List Wd}{vs:List V}(n:Nat),aa K as H xs vs->aa K as H (xs.take n) (vs.take n)
 |_,_,0,_=>ao.mpr rfl
 |[],vs,n+1,h=>by rw[ao.mp h];exact ao.mpr rfl
 |x::xs,vs,n+1,h=>by
  obtain⟨v,r,rfl,q,t⟩:=aj.mp h;exact aj.mpr ⟨v,r.take n,rfl,q,t.take n⟩
theorem aa.drop:∀{xs:List Wd}{vs:List V}(n:Nat),aa K as H xs vs->aa K as H (xs.drop n) (vs.drop n)
 |_,_,0,h=>h
 |[],vs,n+1,h=>by rw[ao.mp h];exact ao.mpr rfl
 |x::xs,vs,n+1,h=>by
  obtain⟨v,r,rfl,q,t⟩:=aj.mp h;exact t.drop n
theorem aa.reverse:∀{xs:List Wd}{vs:List V},aa K as H xs vs->aa K as H xs.reverse vs.reverse
 |[],vs,h=>by rw[ao.mp h];exact ao.mpr rfl
 |x::xs,vs,h=>by
  obtain⟨v,r,rfl,q,t⟩:=aj.mp h;rw[Ws,Ws];exact t.reverse.append (.one q)
theorem aa.dropLast:∀{xs:List Wd}{vs:List V},aa K as H xs vs->aa K as H xs.dropLast vs.dropLast:=λ{xs vs} h=>by
 rw[List.dropLast_eq_take,List.dropLast_eq_take,h.length];exact h.take _
theorem aa.rep (h:aa K as H xs vs):∀k:Nat,aa K as H (Qq k xs).flatten (Qq k vs).flatten
 |0=>ao.mpr rfl
 |k+1=>by
  rw[Wg,Wg,Q0,Q0];exact h.append (aa.rep h k)
structure aD(K:Qb)(as:List Addr)(H:Hp)(env:En)(σ:St):Prop where
 len:env.length=σ.length
 get:∀(i:Nat) (w:Wd),env[i]?=some (some w)->∃v,σ[i]?=some (some v)/\ag K as H w v
theorem aD.mono{env:En}{σ:St}(G:aD K as H env σ)(S:aL K as m H)(T:Step as H as' H'):aD K as' H' env σ:=
 ⟨G.len,λi w e=>let⟨v,h1,h2⟩:=G.get i w e;⟨v,h1,h2.mono S T⟩⟩
theorem aD.kp{env:En}{σ:St}(G:aD K as H env σ)(k:Kp K H H'):aD K as H' env σ:=
 ⟨G.len,λi w e=>let⟨v,h1,h2⟩:=G.get i w e;⟨v,h1,h2.kp k⟩⟩
theorem aD.set{env:En}{σ:St}(G:aD K as H env σ){w:Wd}{v:V}(h:ag K as H w v)(i:Nat):aD K as H (env.set i (some w)) (σ.set i (some v)):=by
 refine⟨by simp[G.len],λj x e=>?_⟩;by_cases hj:j=i
 .subst hj;have hl:j<env.length:=by
   have:=(Qa.mp e).1;simpa using this
  rw[Wj hl]at e;cases e;exact⟨v,Wj (by rw[<-G.len];exact hl),h⟩
 .rw[QA (Ne.symm hj)]at e;obtain⟨u,h1,h2⟩:=G.get j x e;exact⟨u,by rw[QA (Ne.symm hj)];exact h1,h2⟩
def aD.push{env:En}{σ:St}(G:aD K as H env σ){w:Wd}{v:V}(h:ag K as H w v):aD K as H (env++[some w]) (σ++[some v]):=by
 refine⟨by simp[G.len],λj x e=>?_⟩;by_cases hj:j<env.length
 .rw[Qf hj]at e;obtain⟨u,h1,h2⟩:=G.get j x e;exact⟨u,by rw[Qf (by rw[<-G.len];exact hj)];exact h1,h2⟩
 .rw[Qd (by lia)]at e;have hz:j-env.length=0:=by
   cases hq:j-env.length with
   |zero=>rfl
   |succ k=>rw[hq]at e;simp at e
  rw[hz]at e;simp at e;subst e;refine⟨v,?_,h⟩;rw[Qd (by rw[<-G.len];lia),<-G.len,hz];rfl
def ai(K:Qb)(as:List Addr)(H:Hp)(Q:VK)(r:Rz):Prop:=match r with
 |.ok w m'=>∀as' H' v,Step as H as' H'->aL K as' m' H'->ag K as' H' w v->Q v H'
 |_=>False
def ai.step{Q:VK}{r:Rz}(h:ai K as H Q r)(T:Step as H as' H'):ai K as' H' Q r:=by
 cases r with
 |ok w m'=>exact λas2 H2 v U S R=>h as2 H2 v (T.trans U) S R
 |exc c w m'=>exact h
 |no=>exact h
theorem ai.bind{Q Q1:VK}{r:Rz}{f:Wd->Me->Rz}(h:ai K as H Q (r.bind f))
  (k:∀w m' as' H' v,Step as H as' H'->aL K as' m' H'->ag K as' H' w v->ai K as' H' Q (f w m')->Q1 v H'):ai K as H Q1 r:=by
 cases r with
 |ok w m'=>exact λas2 H2 v U S R=>k w m' as2 H2 v U S R (ai.step (r:=f w m') h U)
 |exc c w m'=>exact h
 |no=>exact h
def fu (h:ai K as H Q (r.bind f))(T:Step as H as' H')(k:∀w m2 as2 H2 v,Step as' H' as2 H2->aL K as2 m2 H2->ag K as2 H2 w v->ai K as H Q (f w m2)->Q1 v H2):ai K as' H' Q1 r:=by
 cases r with
 |ok w m'=>exact λas2 H2 v U S R=>k w m' as2 H2 v U S R h
 |exc c w m'=>exact h
 |no=>exact h
def aI(K:Qb)(g:En->Me->Rz):TE:=λσ H Q=>∃as env m,aL K as m H/\aD K as H env σ/\ai K as H Q (g env m)
def xy(K:Qb)(g:En->Me->Rz):TT:=λσ H Q=>aI K g σ H λv H'=>∃b,v=.bl b/\Q b H'
theorem ai.ok (h:ai K as H Q (.ok w m))(S:aL K as m H)(R:ag K as H w v):Q v H:=h as H v .refl S R
end
def PE.imp{X:Cx}{e:Expr}{t t':TE}(h:PE X e t)(k:∀σ H Q,t' σ H Q->t σ H Q):PE X e t':=λpins s σ H Q I q=>h pins s σ H Q I (k σ H Q q)
def PT.imp{X:Cx}{e:Expr}{t t':TT}(h:PT X e t)(k:∀σ H Q,t' σ H Q->t σ H Q):PT X e t':=λpins s σ H Q I q=>h pins s σ H Q I (k σ H Q q)
def PA.imp{X:Cx}{es:List Expr}{t t':TA}(h:PA X es t)(k:∀σ H Q,t' σ H Q->t σ H Q):PA X es t':=λpos pins s σ H Q I q=>h pos pins s σ H Q I (k σ H Q q)
def PS.imp{X:Cx}{st:Stmt}{t t':TS}(h:PS X st t)(k:∀D σ H,t' D σ H->t D σ H):PS X st t':=λpins s σ H D I q=>h pins s σ H D I (k D σ H q)
def cC.imp{X:Cx}{st:List Stmt}{t t':TS}(h:cC X st t)(k:∀D σ H,t' D σ H->t D σ H):cC X st t':=λpins s σ H D I q=>h pins s σ H D I (k D σ H q)
end Mini
namespace L2
open PySem PySem.Spec PyProof.Rows
section
variable{X:Cx}
def cG(i j:Int):Prop:=i.natAbs.log2<100000/\j.natAbs.log2<100000
def om(_ j:Int):Prop:=0<j/\j.natAbs.log2<9000
def cG.ok (h:cG i j):IntMulOk i j:=by
 have q:∀{k:Int},k.natAbs.log2<100000->Builtin.Int.intBits k<=2^20:=λ{k} hk=>by
  refine PyProof.Rows.intBits_le (Ql Nat.lt_log2_self (Nat.pow_le_pow_right (by decide) ?_));have:(2:Nat)^20=1048576:=by decide
  lia
 exact IntMulOk.of_bits (q h.1) (q h.2)
def Dd:cc X (Jv .Mult) (rI cG λi j=>.int (i*j)):=ff λ_ _ _ _ _ _ _ hc q=>mul_int q hc.ok
def Fj:cc X (inplaceOp .Mult) (rI cG λi j=>.int (i*j)):=ff λ_ _ _ _ _ _ _ hc q=>imul_int q hc.ok
def Fi:cc X (Jv .FloorDiv) (rI om λi j=>.int (i/j)):=ff λi j _ _ _ _ _ hc q=>by
 have h1:(0:Int)<j:=hc.1;exact floordiv_int (by lia) (by rw[Ve i (by lia)];exact q) (.inl (PyProof.noPylong_of_log2 hc.2))
def ol(K:Qb):R2:=λx y H Q=>∃a b ys,x=.ref a/\y=.ref b/\bM K H a []/\bM K H b ys/\Q (.ref b) H
def Dc:cc X (Jv .Add) (ol X.K):=by
 intro pins s σ H x y v u Q I rx ry h;obtain⟨a,b,ys,rfl,rfl,ha,hb,q⟩:=h;cases rx;cases ry;obtain⟨its,r1,p1,_⟩:=I.tuple ha;obtain⟨its2,r2,p2,_⟩:=I.tuple hb;cases r1;obtain⟨⟨c1,d1,f1,l1⟩,g1,e1,n1,k1⟩:=p1;obtain⟨⟨c2,d2,f2,l2⟩,g2,e2,n2,k2⟩:=p2;simp only at e1 e2 k1 k2;subst e1 e2 k1 k2;have m:=tuple_addW0 a b #[] its2.toArray n1 n2 d1 d2 l1 l2 rfl;exact JK ⟨_,g1,rfl⟩ ⟨_,g2,rfl⟩ JL JM PySem.F.slot_tuple_add PySem.F.entry_tuple_add (PySem.F.args_tuple_add_2 _ _) m ⟨g1,g2,.ref b,H,I,rfl,q⟩
end
end L2
namespace Mini
open PySem PySem.Spec PyProof.Rows L2
section
variable{K:Qb}{as:List Addr}{H H':Hp}{m:Me}{Q:VK}{a p:Addr}{l:Nat}{ws xs:List Wd}{vs us:List V}
def yP:aq<=sizeLine:=by rw[Jz];decide
def aL.new(S:aL K as m H)(hp:H p=none):p∉as:=λz=>by
 obtain⟨us,e,_⟩:=S.isLst z;rw[hp]at e;cases e
def aL.alloc(S:aL K as m H)(hp:H p=none)(R:aa K as H ws vs):Step as H (as++[p]) (aH H p (.lst vs))/\aL K (as++[p]) (m++[.lst ws]) (aH H p (.lst vs)):=by
 have hn:=S.new hp;have T:Step as H (as++[p]) (aH H p (.lst vs)):=⟨⟨[p],rfl⟩,λb o h _=>by rw[zd (zo h hp)];exact h,λb hb=>by
  rcases Qx.mp hb with z|z
  .exact .inl z
  .exact .inr (by rw[Qt.mp z];exact hp)⟩
 refine⟨T,⟨by simp[S.len],?_,λl b o h1 h2=>?_⟩⟩
 .refine QQ.mpr ⟨S.nd,by simp,λx hx y hy=>?_⟩;rw[Qt.mp hy];rintro rfl;exact hn hx
 .by_cases hl:l<as.length
  .rw[Qf hl]at h1;rw[Qf (by rw[<-S.len];exact hl)]at h2;have q:=S.obj l b o h1 h2;cases o with
   |lst ys=>
    obtain⟨zs,e,r⟩:=q;exact⟨zs,by rw[zd (zo e hp)];exact e,r.mono S T⟩
   |dct ks us=>exact bv.mono (ob:=.dct ks us) (S.kp T) (λ_ _ e=>T.get e) (λo e=>by rw[zd (zo e hp)];exact e) q
  .rw[Qd (by lia)]at h1;rw[Qd (by rw[<-S.len];lia)]at h2;have hz:l-as.length=0:=by
    cases hq:l-as.length with
    |zero=>rfl
    |succ k=>rw[hq]at h1;simp at h1
   rw[hz]at h1;rw[<-S.len,hz]at h2;simp at h1 h2;subst h1;subst h2;exact⟨vs,ze,R.mono S T⟩
theorem aL.set(S:aL K as m H)(ha:as[l]?=some a)(hm:m[l]?=some (.lst xs))(R:aa K as H ws vs):Step as H as (aH H a (.lst vs))/\aL K as (m.set l (.lst ws)) (aH H a (.lst vs)):=by
 have hin:a∈as:=Qr ha;have T:Step as H as (aH H a (.lst vs)):=⟨⟨[],by simp⟩,λb o h hb=>by
  rw[zd (by rintro rfl;exact hb hin)];exact h,λb hb=>.inl hb⟩
 refine⟨T,⟨by simp[S.len],S.nd,λk b o h1 h2=>?_⟩⟩;by_cases hk:k=l
 .subst hk;rw[ha]at h1;cases h1;rw[Wj (Qa.mp hm).1]at h2;cases h2;exact⟨vs,ze,R.mono S T⟩
 .rw[QA (Ne.symm hk)]at h2;have q:=S.obj k b o h1 h2;have hb:b≠a:=by
   rintro rfl;obtain⟨i1,e1⟩:=Qa.mp h1;obtain⟨i2,e2⟩:=Qa.mp ha;exact hk ((W3 S.nd).mp (e1.trans e2.symm))
  cases o with
  |lst ys=>
   obtain⟨zs,e,r⟩:=q;exact⟨zs,by rw[zd hb];exact e,r.mono S T⟩
  |dct ks us=>exact bv.mono (ob:=.dct ks us) (S.kp T) (λ_ _ e=>T.get e) (λo e=>by rw[zd hb];exact e) q
def aL.keep(S:aL K as m H)(T:Step as H as H')(hk:∀a∈as,∀o,H a=some o->H' a=some o):aL K as m H':=by
 refine⟨S.len,S.nd,λl b o h1 h2=>?_⟩;have q:=S.obj l b o h1 h2;cases o with
 |lst ys=>
  obtain⟨zs,e,r⟩:=q;exact⟨zs,hk b (Qr h1) _ e,r.mono S T⟩
 |dct ks us=>exact bv.mono (ob:=.dct ks us) (S.kp T) (λ_ _ e=>T.get e) (λo e=>hk b (Qr h1) _ e) q
theorem aL.tup(S:aL K as m H)(hp:H p=none)(R:aa K as H ws vs):Step as H as (aH H p (.tup vs))/\aL K as m (aH H p (.tup vs))/\ag K as (aH H p (.tup vs)) (.tup ws) (.ref p):=by
 have T:Step as H as (aH H p (.tup vs)):=⟨⟨[],by simp⟩,λb o h _=>by rw[zd (zo h hp)];exact h,λb hb=>.inl hb⟩;exact⟨T,S.keep T λb _ o e=>by rw[zd (zo e hp)];exact e,ah.mpr ⟨p,vs,rfl,bM.of ze,R.mono S T⟩⟩
def xq(S:aL K as m H)(R:aa K as H ws vs)(h:ai K as H Q (alloc m ws)):vs.length<=aq/\∀p,H p=none->Q (.ref p) (aH H p (.lst vs)):=by
 unfold Mini.alloc at h;by_cases hl:ws.length<=aq
 .rw[Lp hl]at h;refine⟨by rw[<-R.length];exact hl,λp hp=>?_⟩;obtain⟨T,S'⟩:=S.alloc hp R;refine h _ _ _ T S' (aG.mpr ⟨p,?_,rfl⟩);rw[<-S.len,Qd (Qg _)];simp
 .rw[Lq hl]at h;exact h.elim
def zW(S:aL K as m H)(hm:m[l]?=some (.lst xs)):∃a vs,as[l]?=some a/\H a=some (.lst vs)/\aa K as H xs vs:=by
 obtain⟨a,ha,vs,e,r⟩:=S.get hm;exact⟨a,vs,ha,e,r⟩
def zM (h:zn m l=some xs):m[l]?=some (.lst xs):=by
 unfold zn at h;cases e:m[l]? with
 |none=>rw[e]at h;cases h
 |some o=>cases o with
  |lst ys=>rw[e]at h;cases h;rfl
  |dct ks us=>rw[e]at h;cases h
def wY (S:aL K as m H)(R:ag K as H w v)(h:yG m w=some xs):∃p vs,v=.ref p/\(bD K H p vs\/bM K H p vs)/\aa K as H xs vs:=by
 cases w with
 |tup ys=>
  cases h;obtain⟨b,vs,rfl,q,r⟩:=ah.mp R;exact⟨b,vs,rfl,.inr q,r⟩
 |rol ys=>
  cases h;obtain⟨b,vs,rfl,q,r⟩:=bj.mp R;exact⟨b,vs,rfl,.inl q.sq,r⟩
 |ref l=>
  obtain⟨b,hb,rfl⟩:=aG.mp R;obtain⟨a,vs,ha,e,r⟩:=zW S (zM h);rw[hb]at ha;cases ha;exact⟨b,vs,rfl,.inl (bD.of e),r⟩
 |non=>cases h
 |bl b=>cases h
 |int i=>cases h
 |str s=>cases h
noncomputable def fF:Bo->Ji
 |.add=>.Add |.sub=>.Sub |.mul=>.Mult |.fdiv=>.FloorDiv |.mod=>.Mod |.shr=>.RShift |.band=>.BitAnd |.mulB=>.Mult |.fdivB=>.FloorDiv
def rB(K:Qb):Bo->R2
 |.add=>λx y H Q=>dy (λi j=>.int (i+j)) x y H Q\/(nQ x y H Q\/(ox K x y H Q\/ol K x y H Q))
 |.sub=>dy λi j=>.int (i-j)
 |.mul=>λx y H Q=>rI eC (λi j=>.int (i*j)) x y H Q\/nP x y H Q
 |.fdiv=>rI nG λi j=>.int (i/j)
 |.mod=>rI (λ_ j=>0<j) λi j=>.int (i%j)
 |.shr=>rI (λ_ j=>0<=j) λi j=>.int (i/2^j.toNat)
 |.band=>dy λi j=>.int (Builtin.bitAnd i j)
 |.mulB=>rI cG λi j=>.int (i*j)
 |.fdivB=>rI om λi j=>.int (i/j)
def Az (op:Bo):cc X (Jv (fF op)) (rB X.K op):=by
 cases op with
 |add=>exact fe.or (fc.or (ef.or Dc))
 |sub=>exact Ce
 |mul=>exact fb.or BX
 |fdiv=>exact Dp
 |mod=>exact Cd
 |shr=>exact Cc
 |band=>exact Cb
 |mulB=>exact Dd
 |fdivB=>exact Fi
def Db (h:0<=i):Builtin.bitAnd i 1=i%2:=by
 obtain⟨n,rfl⟩:=Int.eq_ofNat_of_zero_le h;show Int.ofNat (n &&& 1)=_;rw[Nat.and_one_is_mod];rfl
def jZ (h:small i=true):-(2^64)<i/\i<2^64:=by
 unfold small fj at h;rw[Qh,decide_eq_true_iff,decide_eq_true_iff]at h;lia
def xd [Decidable c](h:ai K as H Q (if c then r else .no)):c/\ai K as H Q r:=by
 by_cases hc:c
 .rw[Lp hc]at h;exact⟨hc,h⟩
 .rw[Lq hc]at h;exact h.elim
def DX (h:ai K as H Q (cQ .add (.ref a) (.ref b) m)):∃xs ys,m[a]?=some (.lst xs)/\m[b]?=some (.lst ys)/\ai K as H Q (alloc m (xs++ys)):=by
 unfold cQ at h;dsimp only at h;generalize m[a]?=p at h ⊢;generalize m[b]?=q at h ⊢;cases p with
 |none=>exact h.elim
 |some o=>
  cases o with
  |dct ks us=>exact h.elim
  |lst xs=>
   cases q with
   |none=>exact h.elim
   |some o=>
    cases o with
    |dct ks us=>exact h.elim
    |lst ys=>exact⟨xs,ys,rfl,rfl,h⟩
def DW (h:ai K as H Q (cQ .mul (.ref a) (.int k) m)):∃xs,m[a]?=some (.lst xs)/\ai K as H Q (if -aq<=k/\k<=aq then alloc m (Qq k.toNat xs).flatten else .no):=by
 unfold cQ at h;dsimp only at h;generalize m[a]?=p at h ⊢;cases p with
 |none=>exact h.elim
 |some o=>
  cases o with
  |dct ks us=>exact h.elim
  |lst xs=>exact⟨xs,rfl,h⟩
set_option tactic.hygienic true in
def BU (S:aL K as m H)(Rx:ag K as H x v)(Ry:ag K as H y u)(h:ai K as H Q (cQ op x y m)):rB K op v u H Q:=by
 cases x with
 |int i=>
  cases y with
  |int j=>
   obtain rfl:=ab.mp Rx;obtain rfl:=ab.mp Ry;cases op with
   |add=>exact .inl ⟨i,j,rfl,rfl,h.ok S (ab.mpr rfl)⟩
   |sub=>exact⟨i,j,rfl,rfl,h.ok S (ab.mpr rfl)⟩
   |mul=>
    obtain⟨hs,h⟩:=xd h;refine .inl ⟨i,j,rfl,rfl,?_,h.ok S (ab.mpr rfl)⟩;rcases Bool.or_eq_true_iff.mp hs with q|q
    .exact .inl (jZ q)
    .exact .inr (jZ q)
   |fdiv=>
    obtain⟨hs,h⟩:=xd h;exact⟨i,j,rfl,rfl,hs,h.ok S (ab.mpr rfl)⟩
   |mod=>
    obtain⟨hs,h⟩:=xd h;exact⟨i,j,rfl,rfl,hs,h.ok S (ab.mpr rfl)⟩
   |shr=>
    obtain⟨hs,h⟩:=xd h;exact⟨i,j,rfl,rfl,hs.1,h.ok S (ab.mpr rfl)⟩
   |band=>
    obtain⟨⟨h1,rfl⟩,h'⟩:=xd h;refine⟨i,1,rfl,rfl,?_⟩;show Q (.int (Builtin.bitAnd i 1)) H;rw[Db h1];exact h'.ok S (ab.mpr rfl)
   |mulB=>
    obtain⟨hs,h⟩:=xd h;exact⟨i,j,rfl,rfl,hs,h.ok S (ab.mpr rfl)⟩
   |fdivB=>
    obtain⟨hs,h⟩:=xd h;exact⟨i,j,rfl,rfl,hs,h.ok S (ab.mpr rfl)⟩
  |_=>exact h.elim
 |ref a=>
  obtain⟨pa,ha,rfl⟩:=aG.mp Rx;cases y with
  |ref b=>
   obtain⟨pb,hb,rfl⟩:=aG.mp Ry;cases op with
   |add=>
    obtain⟨xs,ys,e1,e2,h⟩:=DX h;obtain⟨pa',va,ha',ea,ra⟩:=zW S e1;rw[ha]at ha';cases ha';obtain⟨pb',vb,hb',eb,rb⟩:=zW S e2;rw[hb]at hb';cases hb';obtain⟨hl,q⟩:=xq S (ra.append rb) h;rw[QH]at hl;exact .inr (.inl ⟨pa,pb,va,vb,rfl,rfl,ea,eb,Qu hl yP,q⟩)
   |_=>exact h.elim
  |int k=>
   obtain rfl:=ab.mp Ry;cases op with
   |mul=>
    obtain⟨xs,e1,h⟩:=DW h;obtain⟨hk,h⟩:=xd h;obtain⟨pa',va,ha',ea,ra⟩:=zW S e1;rw[ha]at ha';cases ha';obtain⟨hl,q⟩:=xq S (ra.rep k.toNat) h;rw[rN]at hl;have hlim:(aq:Int)=100000:=rfl;exact .inr ⟨pa,k,va,rfl,rfl,ea,by lia,by lia,by rw[Nat.mul_comm];exact Qu hl yP,q⟩
   |_=>exact h.elim
  |_=>exact h.elim
 |tup xs=>
  cases y with
  |tup ys=>
   cases op with
   |add=>
    obtain⟨hc,h⟩:=xd h;obtain⟨pa,va,rfl,qa,ra⟩:=ah.mp Rx;obtain⟨pb,vb,rfl,qb,rb⟩:=ah.mp Ry;have la:=ra.length;have lb:=rb.length;by_cases hv:va=[]
    .subst hv;obtain rfl:xs=[]:=by
      cases xs with
      |nil=>rfl
      |cons x xs=>simp at la
     exact .inr (.inr (.inr ⟨pa,pb,vb,rfl,rfl,qa,qb,h.ok S Ry⟩))
    refine .inr (.inr (.inl ⟨pa,pb,va,vb,rfl,rfl,qa,qb,hv,?_,λe=>?_,λe p hp=>?_⟩))
    .rw[<-la,<-lb];exact Qu hc yP
    .subst e;obtain rfl:ys=[]:=by
      cases ys with
      |nil=>rfl
      |cons y ys=>simp at lb
     refine h.ok S (ah.mpr ⟨pa,va,rfl,qa,?_⟩);rw[QW];exact ra
    .obtain ⟨T,S',R'⟩:=S.tup hp (ra.append rb);exact h _ _ _ T S' R'
   |_=>exact h.elim
  |_=>exact h.elim
 |_=>exact h.elim
end
end Mini
namespace Mini
open PySem PySem.Spec PyProof.Rows L2
open PySem.SeqAt
section
variable{X:Cx}{pins:List (Addr×Obj)}{σ:St}{s:Shared}{as:List Addr}{H:Hp}{m:Me}
def qO (I:Inv X pins σ H s)(h1:bM X.K H a xs)(h2:bD X.K H a ys):False:=by
 obtain⟨its,_,p,_⟩:=I.tuple h1;obtain⟨its',_,q,_⟩:=I.list h2;exact ne_of_list_tuple q.isList (show s.heap.IsTuple a its.toArray from p) rfl
def pH (I:Inv X pins σ H s)(h1:bM X.K H a xs)(h2:H a=some u)(h3:LD u):False:=by
 rcases h1 with (q|⟨o,q⟩)|⟨o,_,_,hk,_⟩
 .rw[h2]at q;cases q;exact h3
 .rw[h2]at q;cases q;exact h3
 .have:=(I.bs a o (I.ok.mod.kin a o hk)).2;rw[this]at h2;cases h2
def j0 (I:Inv X pins σ H s)(h1:KL X.K a xs)(h2:H a=some u):False:=by
 obtain⟨o,_,_,hk,_⟩:=h1;have:=(I.bs a o (I.ok.mod.kin a o hk)).2;rw[this]at h2;cases h2
mutual
theorem gO(I:Inv X pins σ H s)(S:aL X.K as m H):∀(w w':Wd) (v:V),ag X.K as H w v->ag X.K as H w' v->w=w'
 |.non,w',v,h,h'=>by
  obtain rfl:=aN.mp h;cases w' with
  |non=>rfl
  |_=>first|cases aN.mp h'|cases ak.mp h'|cases ab.mp h'|cases aR.mp h'|(obtain⟨_,_,e,_⟩:=ah.mp h';cases e)|(obtain⟨_,_,e,_⟩:=bj.mp h';cases e)|(obtain⟨_,_,e⟩:=aG.mp h';cases e)
 |.bl c,w',v,h,h'=>by
  obtain rfl:=ak.mp h;cases w' with
  |bl b=>cases ak.mp h';rfl
  |_=>first|cases aN.mp h'|cases ak.mp h'|cases ab.mp h'|cases aR.mp h'|(obtain⟨_,_,e,_⟩:=ah.mp h';cases e)|(obtain⟨_,_,e,_⟩:=bj.mp h';cases e)|(obtain⟨_,_,e⟩:=aG.mp h';cases e)
 |.int c,w',v,h,h'=>by
  obtain rfl:=ab.mp h;cases w' with
  |int i=>cases ab.mp h';rfl
  |_=>first|cases aN.mp h'|cases ak.mp h'|cases ab.mp h'|cases aR.mp h'|(obtain⟨_,_,e,_⟩:=ah.mp h';cases e)|(obtain⟨_,_,e,_⟩:=bj.mp h';cases e)|(obtain⟨_,_,e⟩:=aG.mp h';cases e)
 |.str c,w',v,h,h'=>by
  obtain rfl:=aR.mp h;cases w' with
  |str x=>
   have e:=aR.mp h';injection e with e
   injection e with e
   have:c=x:=by simpa using Ls VR e
   rw[this]
  |_=>first|cases aN.mp h'|cases ak.mp h'|cases ab.mp h'|cases aR.mp h'|(obtain⟨_,_,e,_⟩:=ah.mp h';cases e)|(obtain⟨_,_,e,_⟩:=bj.mp h';cases e)|(obtain⟨_,_,e⟩:=aG.mp h';cases e)
 |.tup xs,w',v,h,h'=>by
  obtain⟨a,vs,rfl,q,r⟩:=ah.mp h;cases w' with
  |tup ys=>
   obtain⟨b,us,e,q',r'⟩:=ah.mp h';cases e;obtain rfl:=I.tuple_inj q q';rw[cz I S xs ys vs r r']
  |rol ys=>
   obtain⟨b,us,e,q',r'⟩:=bj.mp h';cases e;exact(qO I q q'.sq).elim
  |ref l=>
   obtain⟨b,hb,e⟩:=aG.mp h';cases e;obtain⟨u,e2,e3⟩:=S.isLst (Qr hb);exact(pH I q e2 e3).elim
  |_=>first|cases aN.mp h'|cases ak.mp h'|cases ab.mp h'|cases aR.mp h'
 |.rol xs,w',v,h,h'=>by
  obtain⟨a,vs,rfl,q,r⟩:=bj.mp h;cases w' with
  |tup ys=>
   obtain⟨b,us,e,q',r'⟩:=ah.mp h';cases e;exact(qO I q' q.sq).elim
  |rol ys=>
   obtain⟨b,us,e,q',r'⟩:=bj.mp h';cases e;obtain rfl:=I.list_inj q.sq q'.sq;rw[cz I S xs ys vs r r']
  |ref l=>
   obtain⟨b,hb,e⟩:=aG.mp h';cases e;obtain⟨u,e2,e3⟩:=S.isLst (Qr hb);rcases q with⟨o,q⟩|q
   .rw[e2]at q;cases q;exact e3.elim
   .exact (j0 I q e2).elim
  |_=>first|cases aN.mp h'|cases ak.mp h'|cases ab.mp h'|cases aR.mp h'
 |.ref l,w',v,h,h'=>by
  obtain⟨a,ha,rfl⟩:=aG.mp h;obtain⟨u,e2,e3⟩:=S.isLst (Qr ha);cases w' with
  |tup ys=>
   obtain⟨b,us,e,q',r'⟩:=ah.mp h';cases e;exact(pH I q' e2 e3).elim
  |rol ys=>
   obtain⟨b,us,e,q',r'⟩:=bj.mp h';cases e;rcases q' with⟨o,q'⟩|q'
   .rw[e2]at q';cases q';exact e3.elim
   .exact (j0 I q' e2).elim
  |ref l'=>
   obtain⟨b,hb,e⟩:=aG.mp h';cases e;obtain⟨i1,e1⟩:=Qa.mp ha;obtain⟨i2,e2⟩:=Qa.mp hb;rw[(W3 S.nd).mp (e1.trans e2.symm)]
  |_=>first|cases aN.mp h'|cases ak.mp h'|cases ab.mp h'|cases aR.mp h'
theorem cz(I:Inv X pins σ H s)(S:aL X.K as m H):∀(xs ys:List Wd) (vs:List V),aa X.K as H xs vs->aa X.K as H ys vs->xs=ys
 |[],ys,vs,h,h'=>by
  obtain rfl:=ao.mp h;cases ys with
  |nil=>rfl
  |cons y ys=>obtain⟨_,_,e,_⟩:=aj.mp h';cases e
 |x::xs,ys,vs,h,h'=>by
  obtain⟨v,r,rfl,q,t⟩:=aj.mp h;cases ys with
  |nil=>cases ao.mp h'
  |cons y ys=>
   obtain⟨v',r',e,q',t'⟩:=aj.mp h';cases e;rw[gO I S x y v q q',cz I S xs ys r t t']
end
theorem gP:∀{xs ys:List Wd}{r:Bool},cP p xs ys=some r ->
  ∃f:Nat->Bool,(∀j x y,xs[j]?=some x->ys[j]?=some y->p x y=some (f j))/\r=(QL (min xs.length ys.length)).all f
 |[],ys,r,h=>by
  unfold cP at h;cases h;exact⟨λ_=>true,λj x y e=>by simp at e,by simp⟩
 |_::_,[],r,h=>by
  unfold cP at h;cases h;exact⟨λ_=>true,λj x y _ e=>by simp at e,by simp⟩
 |x::xs,y::ys,r,h=>by
  unfold cP at h;cases hp:p x y with
  |none=>rw[hp]at h;cases h
  |some b=>
   rw[hp]at h;simp only[]at h;cases hr:cP p xs ys with
   |none=>rw[hr]at h;cases h
   |some r'=>
    rw[hr]at h;cases h;obtain⟨f,hf,e⟩:=gP (xs:=xs) (ys:=ys) hr;refine⟨λj=>match j with|0=>b|j+1=>f j,λj x' y' e1 e2=>?_,?_⟩
    .cases j with
     |zero=>simp at e1 e2;subst e1;subst e2;exact hp
     |succ j=>exact hf j x' y' (by simpa using e1) (by simpa using e2)
    .rw[QG,QG,Nat.succ_min_succ,Vr,W5,VU,e];rfl
theorem qP:∀(k:Nat) (w:Wd) (r:Bool),cu m k w w=some r->r=true
 |0,w,r,h=>by cases h
 |k+1,w,r,h=>by
  cases w with
  |int i=>cases h;simp
  |tup xs=>
   replace h:(cP (cu m k) xs xs).map (· && decide (xs.length=xs.length))=some r:=h
   cases hr:cP (cu m k) xs xs with
   |none=>rw[hr]at h;cases h
   |some r'=>
    rw[hr]at h;simp only[QY,decide_true,Bool.and_true]at h;cases h;obtain⟨f,hf,rfl⟩:=gP hr;rw[QN];intro j hj;have hj':j<xs.length:=by simpa using hj
    exact qP k xs[j] (f j) (hf j xs[j] xs[j] (by simp[hj']) (by simp[hj']))
  |ref l=>
   replace h:(if l=l then(if bm m l then some true else none)else match m[l]?,m[l]? with
    |some (.lst xs),some (.lst ys)=>if xs.length=ys.length then cP (cu m k) xs ys else some false
    |_,_=>none)=some r:=h
   simp only[if_true]at h;split at h
   .cases h;rfl
   .cases h
  |_=>cases h
structure Hf(A:IV)(s:Shared)(u u':Value)(r:Bool):Prop where
 it:EqAt A s u u' r
 eq:RcAt A s u u' r
 ne:RcNeAt A s u u' (! r)
def bI (S:aL X.K as m H)(I:Inv X pins σ H s)(h:bm m l=true)(R:ag X.K as H (.ref l) v)(ru:RelV v u):∃b its,u=.ref b/\s.heap.IsList b its:=by
 unfold bm at h;cases e:m[l]? with
 |none=>rw[e]at h;cases h
 |some o=>
  cases o with
  |dct ks us=>rw[e]at h;cases h
  |lst xs=>
   obtain⟨b,hb,rfl⟩:=aG.mp R;obtain⟨a,vs,ha,ea,ra⟩:=zW S e;rw[hb]at ha;cases ha;obtain rfl:u=.ref b:=ru;obtain⟨its,_,p,_⟩:=I.list (bD.of ea);exact⟨b,_,rfl,p.isList⟩
def gQ (I:Inv X pins σ H s)(R:ag X.K as H (.tup xs) v)(ru:RelV v u):∃b vs its,v=.ref b/\u=.ref b/\aa X.K as H xs vs/\av vs its/\s.heap.IsTuple b its.toArray:=by
 obtain⟨b,vs,rfl,q,r⟩:=ah.mp R;obtain rfl:u=.ref b:=ru;obtain⟨its,rv,p,_⟩:=I.tuple q;exact⟨b,vs,its,rfl,rfl,r,rv,p⟩
set_option tactic.hygienic true in
theorem iH(I:Inv X pins σ H s)(S:aL X.K as m H):∀(k:Nat) (A:IV) (w w':Wd) (v v':V) (u u':Value) (r:Bool),A.units+k<JA->cu m k w w'=some r ->
  ag X.K as H w v->ag X.K as H w' v'->RelV v u->RelV v' u'->Hf A s u u' r
 |0,_,_,_,_,_,_,_,_,_,h,_,_,_,_=>by cases h
 |k+1,A,w,w',v,v',u,u',r,hu,h,R,R',ru,ru'=>by
  have hu0:A.units<JA:=by lia
  have hu1:A.in1.units+k<JA:=by show A.units+1+k<JA;lia
  -- items,pair by pair
  have pairs:∀{xs ys:List Wd}{vs us:List V}{its its':List Value}{r:Bool},aa X.K as H xs vs->aa X.K as H ys us->av vs its->av us its'->cP (cu m k) xs ys=some r ->
    ∃f:Nat->Bool,(∀j (h1:j<its.toArray.size) (h2:j<its'.toArray.size),EqAt A.in1 s its.toArray[j] its'.toArray[j] (f j))/\r=(QL (min its.toArray.size its'.toArray.size)).all f/\its.toArray.size=xs.length/\its'.toArray.size=ys.length:=by
   intro xs ys vs us its its' r r1 r2 rv rv' he;obtain⟨f,hf,e⟩:=gP he;have l1:=r1.length;have l2:=r2.length;have l3:=rv.length;have l4:=rv'.length;have s1:its.toArray.size=xs.length:=by simp;lia
   have s2:its'.toArray.size=ys.length:=by simp;lia
   refine⟨f,λj h1 h2=>?_,by rw[e,s1,s2],s1,s2⟩;have hj:j<xs.length:=by lia
   have hj2:j<ys.length:=by lia
   obtain⟨v1,e1,q1⟩:=r1.get (i:=j) (x:=xs[j]) (by simp[hj]);obtain⟨v2,e2,q2⟩:=r2.get (i:=j) (x:=ys[j]) (by simp[hj2]);obtain⟨u1,e3,q3⟩:=rv.get e1;obtain⟨u2,e4,q4⟩:=rv'.get e2;have z:=iH I S k A.in1 xs[j] ys[j] v1 v2 u1 u2 (f j) hu1 (hf j _ _ (by simp[hj]) (by simp[hj2])) q1 q2 q3 q4;obtain⟨_,e5⟩:=Qa.mp e3;obtain⟨_,e6⟩:=Qa.mp e4;have g1:its.toArray[j]=u1:=by simpa using e5
   have g2:its'.toArray[j]=u2:=by simpa using e6
   rw[g1,g2];exact z.it
  cases w with
  |tup xs=>
   obtain⟨b,vs,its,rfl,rfl,r1,rv,p⟩:=gQ I R ru;cases w' with
   |tup ys=>
    obtain⟨b',vs',its',rfl,rfl,r1',rv',p'⟩:=gQ I R' ru';have rc:RcAt A s (.ref b) (.ref b') r/\RcNeAt A s (.ref b) (.ref b') (! r):=by
     replace h:(cP (cu m k) xs ys).map (· && decide (xs.length=ys.length))=some r:=h
     cases hr:cP (cu m k) xs ys with
     |none=>rw[hr]at h;cases h
     |some r'=>
      rw[hr]at h;simp only[QY]at h;cases h;obtain⟨f,hf,e,z1,z2⟩:=pairs r1 r1' rv rv' hr;have e2:((QL (min its.toArray.size its'.toArray.size)).all f&&its.toArray.size==its'.toArray.size)=(r'&&decide (xs.length=ys.length)):=by
       rw[e,z1,z2];congr 1
      exact⟨e2▸RcAt.tuples p p' hu0 hf,e2▸RcNeAt.tuples p p' hu0 hf⟩
    refine⟨?_,rc.1,rc.2⟩;by_cases hb:b=b'
    .subst hb;have e:=gO I S _ _ _ R R';rw[<-e]at h;obtain rfl:=qP _ _ _ h;exact EqAt.same _
    .exact EqAt.of_refs hb rc.1
   |ref l=>
    replace h:(if bm m l&&true then some false else none)=some r:=h
    split at h
    .rename_i hl;cases h;obtain⟨b',its',rfl,q⟩:=bI S I (Q6.mp hl).1 R' ru';exact⟨EqAt.tuple_list p q hu0,RcAt.tuple_list p q hu0,RcNeAt.tuple_list p q hu0⟩
    .cases h
   |int i=>
    cases h;obtain rfl:=ab.mp R';obtain⟨t,rfl⟩:=ru';exact⟨EqAt.tuple_int i t p hu0,RcAt.tuple_int i t p hu0,RcNeAt.tuple_int i t p hu0⟩
   |_=>cases h
  |ref l=>
   cases w' with
   |ref l'=>
    obtain⟨b,hb,rfl⟩:=aG.mp R;obtain⟨b',hb',rfl⟩:=aG.mp R';obtain rfl:u=.ref b:=ru;obtain rfl:u'=.ref b':=ru'
    replace h:(if l=l' then(if bm m l then some true else none)else match m[l]?,m[l']? with
     |some (.lst xs),some (.lst ys)=>if xs.length=ys.length then cP (cu m k) xs ys else some false
     |_,_=>none)=some r:=h
    by_cases hll:l=l'
    .subst hll;rw[hb]at hb';cases hb';rw[Lp rfl]at h;split at h
     .rename_i hil;cases h;obtain⟨c,its,ec,q⟩:=bI S I hil R (u:=.ref b) rfl;cases ec;have al:(QL its.size).all (λ_=>true)=true:=by simp
      have e1:=RcAt.lists (A:=A) (e:=λ_=>true) q q rfl hu0 (λj h1 h2=>EqAt.same _);have e2:=RcNeAt.lists (A:=A) (e:=λ_=>true) q q rfl hu0 (λj h1 h2=>EqAt.same _);rw[al]at e1 e2;exact⟨EqAt.same _,e1,e2⟩
     .cases h
    .rw[Lq hll]at h;have hbb:b≠b':=by
      rintro rfl;obtain⟨i1,e1⟩:=Qa.mp hb;obtain⟨i2,e2⟩:=Qa.mp hb';exact hll ((W3 S.nd).mp (e1.trans e2.symm))
     split at h
     .rename_i xs ys m1 m2;obtain⟨a1,vs,h1,g1,r1⟩:=zW S m1;rw[hb]at h1;cases h1;obtain⟨a2,us,h2,g2,r2⟩:=zW S m2;rw[hb']at h2;cases h2;obtain⟨its,rv,p,_⟩:=I.list (bD.of g1);obtain⟨its',rv',p',_⟩:=I.list (bD.of g2);split at h
      .rename_i hl;obtain⟨f,hf,e,z1,z2⟩:=pairs r1 r2 rv rv' h;have hsz:its.toArray.size=its'.toArray.size:=by rw[z1,z2,hl]
       rw[<-hsz,Nat.min_self]at e;have e1:=RcAt.lists p.isList p'.isList hsz hu0 hf;have e2:=RcNeAt.lists p.isList p'.isList hsz hu0 hf;rw[<-e]at e1 e2;exact⟨EqAt.of_refs hbb e1,e1,e2⟩
      .rename_i hl;cases h;have l1:=r1.length;have l2:=r2.length;have l3:=rv.length;have l4:=rv'.length;have hsz:(its.toArray.size != its'.toArray.size)=true:=by
        simp;lia
       have e1:=RcAt.lists_lengths (A:=A) p.isList p'.isList hsz hu0;exact⟨EqAt.of_refs hbb e1,e1,RcNeAt.lists_lengths p.isList p'.isList hsz hu0⟩
     .cases h
   |tup ys=>
    replace h:(if bm m l&&true then some false else none)=some r:=h
    split at h
    .rename_i hl;cases h;obtain⟨b,its,rfl,q⟩:=bI S I (Q6.mp hl).1 R ru;obtain⟨b',vs',its',rfl,rfl,r1',rv',p'⟩:=gQ I R' ru';exact⟨EqAt.list_tuple q p' hu0,RcAt.list_tuple q p' hu0,RcNeAt.list_tuple q p' hu0⟩
    .cases h
   |int i=>
    replace h:(if bm m l&&true then some false else none)=some r:=h
    split at h
    .rename_i hl;cases h;obtain⟨b,its,rfl,q⟩:=bI S I (Q6.mp hl).1 R ru;obtain rfl:=ab.mp R';obtain⟨t,rfl⟩:=ru';exact⟨EqAt.list_int i t q hu0,RcAt.list_int i t q hu0,RcNeAt.list_int i t q hu0⟩
    .cases h
   |_=>cases h
  |int i=>
   obtain rfl:=ab.mp R;obtain⟨t,rfl⟩:=ru;cases w' with
   |ref l=>
    replace h:(if bm m l&&true then some false else none)=some r:=h
    split at h
    .rename_i hl;cases h;obtain⟨b,its,rfl,q⟩:=bI S I (Q6.mp hl).1 R' ru';exact⟨EqAt.int_list i t q hu0,RcAt.int_list i t q hu0,RcNeAt.int_list i t q hu0⟩
    .cases h
   |tup ys=>
    cases h;obtain⟨b',vs',its',rfl,rfl,r1',rv',p'⟩:=gQ I R' ru';exact⟨EqAt.int_tuple i t p' hu0,RcAt.int_tuple i t p' hu0,RcNeAt.int_tuple i t p' hu0⟩
   |int j=>
    cases h;obtain rfl:=ab.mp R';obtain⟨t',rfl⟩:=ru';have e:decide (i=j)=(i==j):=by rw[Bool.beq_eq_decide_eq]
    rw[e];exact⟨EqAt.int_int i t j t',RcAt.int_int i t j t',RcNeAt.int_int i t j t'⟩
   |_=>cases h
  |_=>cases h
end
end Mini
namespace L2
open PySem PySem.Spec PyProof.Rows PySem.SeqAt
section
variable{H:Hp}
def GB(K:Qb):R2:=λx y H Q=>∃d xs,y=.ref d/\zZ K H d xs/\((∃i,x=.int i/\Q (.bl false) H)\/∃a ks,x=.ref a/\bM K H a (ks.map V.int)/\Q (.bl (Km xs ks).isSome) H)
end
end L2
namespace Mini
open PySem PySem.Spec PyProof.Rows L2
section
variable{K:Qb}{as:List Addr}{H:Hp}{m:Me}
theorem j4:∀{ws:List Wd}{k:List Int}{vs:List V},yg ws=some k->aa K as H ws vs->vs=k.map V.int
 |[],k,vs,h,r=>by cases h;rw[ao.mp r];rfl
 |w::ws,k,vs,h,r=>by
  cases w with
  |int i=>
   have h':(yg ws).map (i::·)=some k:=h;obtain⟨k',e,rfl⟩:=QF.mp h';obtain⟨v,r',rfl,q,t⟩:=aj.mp r;rw[ab.mp q,j4 e t];rfl
  |_=>cases h
def kS {l:Nat}(S:aL K as m H)(hm:m[l]?=some (.dct ks ws)):∃a xs vs,as[l]?=some a/\zZ K H a xs/\xs.map (·.1)=ks/\aa K as H ws vs/\av vs (xs.map (·.2.2))/\ks.Nodup:=by
 obtain⟨a,ha,xs,vs,r⟩:=S.get hm;exact⟨a,xs,vs,ha,r⟩
def ca {q:List Int}:(Km xs q).isSome=true↔q∈xs.map (·.1):=by
 unfold Km;rw[Option.isSome_map,List.find?_isSome];simp only[WX,Lx]
end
end Mini
namespace Mini
open PySem PySem.Spec PyProof.Rows L2
open PySem.SeqAt
noncomputable def cK:Co->Jx
 |.eq=>.Eq |.ne=>.NotEq |.lt=>.Lt |.le=>.LtE |.gt=>.Gt |.ge=>.GtE |.isin=>.In 
def rC(K:Qb)(op:Co):R2:=λx y H Q=>∃as m w w',aL K as m H/\ag K as H w x/\ag K as H w' y/\ai K as H Q (fi op w w' m)
section
variable{X:Cx}
def gR {K:Qb}(S:aL K as m H)(h:ai K as H Q (dF o m)):∃b,o=some b/\Q (.bl b) H:=by
 cases o with
 |none=>exact h.elim
 |some b=>exact⟨b,rfl,h.ok S (ak.mpr rfl)⟩
theorem rK:∀{ys:List Wd}{r:Bool},ei p x ys=some r ->
  ∃f:Wd->Bool,(∀y∈ys,p y x=some (f y))/\r=ys.any f
 |[],r,h=>by cases h;exact⟨λ_=>false,λy hy=>by simp at hy,rfl⟩
 |y::ys,r,h=>by
  unfold ei at h;cases hp:p y x with
  |none=>rw[hp]at h;cases h
  |some b=>
   rw[hp]at h;simp only[]at h;cases hr:ei p x ys with
   |none=>rw[hr]at h;cases h
   |some r'=>
    rw[hr]at h;cases h;obtain⟨f,hf,rfl⟩:=rK hr
    classical
    refine⟨λz=>(p z x).getD false,λz hz=>?_,?_⟩
    .rcases Qo.mp hz with rfl|hz
     .simp only[hp,Wp]
     .simp only[hf z hz,Wp]
    .rw[List.any_cons,hp];congr 1;refine WT.mpr ?_;rw[Vp,Vp];constructor
     .rintro ⟨z,hz,e⟩;exact⟨z,hz,by rw[hf z hz];exact e⟩
     .rintro ⟨z,hz,e⟩;rw[hf z hz]at e;exact⟨z,hz,e⟩
def qQ (I:Inv X pins σ H s)(S:aL X.K as m H)(hu:A.units+yD<JA)(R:ag X.K as H w v)(ru:RelV v u)(ry:aa X.K as H ys vs)(rv:av vs its)(h:ei (cu m yD) w ys=some r):
  ∃e:Value->Bool,(∀y,y∈its.toArray->EqAt A s y u (e y))/\its.toArray.any e=r:=by
 obtain⟨f,hf,rfl⟩:=rK h
 classical
 -- the plain value of an item
 have pick:∀y,y∈its->∃z,z∈ys/\∃vz,ag X.K as H z vz/\RelV vz y:=λy hy=>by
  obtain⟨j,hj,rfl⟩:=W6.mp hy;have l1:=ry.length;have l2:=rv.length;have hj1:j<vs.length:=by lia
  obtain⟨u1,e1,q1⟩:=rv.get (i:=j) (x:=vs[j]) (by simp[hj1]);obtain⟨z,e2,q2⟩:=ry.back (i:=j) (v:=vs[j]) (by simp[hj1]);obtain⟨_,e3⟩:=Qa.mp e1;exact⟨z,Qr e2,vs[j],q2,by rw[e3];exact q1⟩
 let e:Value->Bool:=λy=>if hy:y∈its then f (Classical.choose (pick y hy))else false
 have he:∀y (hy:y∈its) z vz,z∈ys->ag X.K as H z vz->RelV vz y->e y=f z:=λy hy z vz hz hr hq=>by
  obtain⟨h1,vz',h2,h3⟩:=Classical.choose_spec (pick y hy);have:e y=f (Classical.choose (pick y hy)):=dif_pos hy;rw[this];have hv:vz'=vz:=h3.inj hq;subst hv;rw[gO I S _ _ _ h2 hr]
 refine⟨e,λy hy=>?_,?_⟩
 .have hy':y∈its:=by simpa using hy
  obtain⟨z,hz,vz,q1,q2⟩:=pick y hy';rw[he y hy' z vz hz q1 q2];exact(iH I S yD A z w vz v y u (f z) hu (hf z hz) q1 R q2 ru).it
 .refine WT.mpr ?_;rw[List.any_toArray,Vp,Vp];constructor
  .rintro ⟨y,hy,ey⟩;obtain⟨z,hz,vz,q1,q2⟩:=pick y hy;rw[he y hy z vz hz q1 q2]at ey;exact⟨z,hz,ey⟩
  .rintro ⟨z,hz,ez⟩;obtain⟨j,hj,rfl⟩:=W6.mp hz;obtain⟨v1,e1,q1⟩:=ry.get (i:=j) (x:=ys[j]) (by simp[hj]);obtain⟨u1,e2,q2⟩:=rv.get e1;have hy:u1∈its:=Qr e2;exact⟨u1,hy,by rw[he u1 hy ys[j] v1 (Vn hj) q1 q2];exact ez⟩
set_option tactic.hygienic true in
def j5(hu:X.A.units+64<JA)(op:Co):cc X (Jw (cK op)) (rC X.K op):=by
 intro pins s σ H x y v u Q I rx ry h;obtain⟨as,m,w,w',S,R,R',q⟩:=h;have hd:yD=12:=rfl;have fin:∀{b:Bool},Q (.bl b) H->EP X pins σ Q (.bool b) s:=λ{b} q=>⟨.bl b,H,I,rfl,q⟩;have cmpI:∀{r:Int->Int->Bool},ai X.K as H Q (kN r w w' m)->∃i j,x=.int i/\y=.int j/\Q (.bl (r i j)) H:=λ{r} q=>by
  unfold kN at q;cases w with
  |int i=>
   cases w' with
   |int j=>exact⟨i,j,ab.mp R,ab.mp R',q.ok S (ak.mpr rfl)⟩
   |_=>exact q.elim
  |_=>exact q.elim
 cases op with
 |eq=>
  obtain⟨b,hb,q⟩:=gR S q;exact(iH I S yD X.A w w' x y v u b (by lia) hb R R' rx ry).eq X.prog X.w X.xe _ (fin q)
 |ne=>
  obtain⟨b,hb,q⟩:=gR S q;obtain⟨c,hc,rfl⟩:=QF.mp hb;exact(iH I S yD X.A w w' x y v u c (by lia) hc R R' rx ry).ne X.prog X.w X.xe _ (fin q)
 |isin=>
  simp only[fi]at q;split at q
  .rename_i ys hs;obtain⟨b,hb,q⟩:=gR S q;obtain⟨p,vs,rfl,hq,r⟩:=wY S R' hs;obtain rfl:u=.ref p:=ry;rcases hq with hq|hq
   .obtain ⟨its,rv,pl,_⟩:=I.list hq;obtain⟨e,he,rfl⟩:=qQ (A:=X.A.in1) I S (by show X.A.units+1+yD<JA;lia) R rx r rv hb;exact in_listAt e pl.isList he (fin q)
   .obtain ⟨its,rv,pl,_⟩:=I.tuple hq;obtain⟨e,he,rfl⟩:=qQ (A:=X.A.in1) I S (by show X.A.units+1+yD<JA;lia) R rx r rv hb;exact in_tupleAt e (show s.heap.IsTuple p its.toArray from pl) he (fin q)
  .exact q.elim
 |lt=>exact Ac pins s σ H x y v u Q I rx ry (cmpI q)
 |le=>exact Ab pins s σ H x y v u Q I rx ry (cmpI q)
 |gt=>exact Aa pins s σ H x y v u Q I rx ry (cmpI (r:=λi j=>decide (j<i)) q)
 |ge=>exact z9 pins s σ H x y v u Q I rx ry (cmpI (r:=λi j=>decide (j<=i)) q)
end
end Mini
namespace L2
open PySem PySem.Spec PyProof.Rows
section
open PySem.SeqAt
open PySem.AutoSeq1 (wpAny_loadPart')
open PySem.MeetsSeq PySem.MeetsSeq2 PySem.MeetsSeq3
noncomputable def dG(f g:Nat->Bool):Nat->Nat->Bool
 |_,0=>false
 |i,k+1=>if f i then dG f g (i+1) k else g i
def eA(A:IV)(s:Shared)(x y:Value)(b:Bool):Prop:=∀(prog:IQ) (w:IR) (E Q:Value->Shared->Prop),Q (.bool b) s->IX (IY prog w) A (richCompare .Lt x y) Q E s
def vt(A:IV)(s:Shared)(items items2:Array Value)(f g:Nat->Bool):Prop:=∀(j:Nat) (v u:Value),items[j]?=some v->items2[j]?=some u->EqAt A.in1 s v u (f j)/\eA A.in1 s v u (g j)
def Fh(l b:Addr)(items items2:Array Value)(n n2:Nat)(dd dd2:Option Addr)(sl sl2:Array (Option Value))(hsz:items.size=items2.size)(f g':Nat->Bool)(k:Nat):
  ∀i:Nat,items.size-i=k->Meets (Builtin.«list.__eq__.loop» ⟨[.ref l,.ref b,Jq i,Jq 0],[]⟩)
   (λA R s=>s.heap.get? l=some {cls:=.type "list",dict:=dd,data:=.seq items n,slots:=sl}/\s.heap.get? b=some {cls:=.type "list",dict:=dd2,data:=.seq items2 n2,slots:=sl2}/\vt A s items items2 f g' /\
    R (.ok (.ret (.bool (dG f g' i k)))) s):=by
 induction k with
 |zero=>
  intro i hk prog w A R s h;obtain⟨hp,g,d,tk,os⟩:=s;obtain⟨hl,hb,_,h⟩:=h
  wp_walk using Kn hl,Kn hb
  have hi1:items[((i:Nat):Int).toNat]?=none:=by simp;lia
  have hi2:items2[((i:Nat):Int).toNat]?=none:=by simp;lia
  rw[hi1,hi2]
  wp_walk using Kn hl,Kn hb
  show R (.ok (.ret (.bool (decide (items.size<items2.size))))) _;rw[Lo (by lia)];exact h
 |succ k ih=>
  intro i hk prog w A R s h;obtain⟨hp,g,d,tk,os⟩:=s;obtain⟨hl,hb,hI,h⟩:=h
  wp_walk using Kn hl,Kn hb
  have hlt:i<items.size:=by lia
  have hlt2:i<items2.size:=by lia
  have hi1:items[((i:Nat):Int).toNat]?=some items[i]:=by simp[hlt]
  have hi2:items2[((i:Nat):Int).toNat]?=some items2[i]:=by simp[hlt2]
  have hc:((i:Int)+1)=((i+1:Nat):Int):=by push_cast;rfl
  obtain⟨he,hg⟩:=hI i items[i] items2[i] (by simp[hlt]) (by simp[hlt2])
  replace h:R (.ok (.ret (.bool (if f i then dG f g' (i+1) k else g' i)))) _:=h
  rw[hi1,hi2];refine Jj (he prog w _ _ ?_);cases e:f i with
  |true=>
   rw[e,Lp rfl]at h
   wp_walk
   rw[hc];exact⟨Ko plain_eq_loop _,Kq entry_eq_loop (by
    rw[Around.under_plainId plain_eq_loop _];exact ih (i+1) (by lia) prog w A R _ ⟨hl,hb,hI,h⟩)⟩
  |false=>
   rw[e,Lq QC]at h
   wp_walk using Kn hl,Kn hb
   rw[hi1,hi2];have hri:=hg prog w
   wp_walk using hri
   exact h
def wS(l b:Addr)(items items2:Array Value)(n n2:Nat)(dd dd2:Option Addr)(sl sl2:Array (Option Value))(hsz:items.size=items2.size)(f g':Nat->Bool):
  Meets (Builtin.«list.__lt__» ⟨[.ref l,.ref b],[]⟩)
   (λA R s=>s.heap.get? l=some {cls:=.type "list",dict:=dd,data:=.seq items n,slots:=sl}/\s.heap.get? b=some {cls:=.type "list",dict:=dd2,data:=.seq items2 n2,slots:=sl2}/\vt A s items items2 f g' /\
    R (.ok (.ret (.bool (dG f g' 0 items.size)))) s):=by
 intro prog w A R s h;obtain⟨hp,g,d,tk,os⟩:=s;obtain⟨hl,hb,h⟩:=h;have f3:=AutoSeq1.sub_list_list
 wp_walk using Kn hl,Kn hb
 exact⟨Ko plain_eq_loop _,Kq entry_eq_loop (by
  rw[Around.under_plainId plain_eq_loop _];exact Fh l b items items2 n n2 dd dd2 sl sl2 hsz f g' _ 0 rfl prog w A R _ ⟨hl,hb,h⟩)⟩
def cY(A:IV)(s:Shared)(x y:Value)(b:Bool):Prop:=
 ∀(prog:IQ) (w:IR) (E:Value->Shared->Prop) (Q:Bool->Shared->Prop),Q b s->IX (IY prog w) A (oneLt' true x y) Q E s
theorem cY.items{A:IV}{s:Shared}{l b:Addr}{items items2:Array Value}{f g:Nat->Bool}(hl:s.heap.IsList l items)(hb:s.heap.IsList b items2)(hsz:items.size=items2.size)(hu:A.units<JA)(hI:vt A s items items2 f g):
  cY A s (.ref l) (.ref b) (dG f g 0 items.size):=λprog w E Q h=>by
 obtain⟨⟨cls,dd,data,sl⟩,ho,hc,n,hd⟩:=id hl;obtain⟨⟨cls2,dd2,data2,sl2⟩,ho2,hc2,n2,hd2⟩:=id hb;simp only at hc hd hc2 hd2;subst hc hd hc2 hd2;rw[oneLt'_eq];simp only[if_true];refine Jj (wpAny_cRoomFor hu ?_);refine Jj (wpAny_callSpecialIfBound?_slot (T:="list") ⟨_,ho,rfl⟩ PySem.F.slot_list_lt (J6 PySem.F.slot_list_lt ⟨_,ho,rfl⟩ PySem.F.entry_list_lt (PySem.F.args_list_lt_2 _ _) (wS l b items items2 n n2 dd dd2 sl sl2 hsz f g) ⟨ho,ho2,hI,?_⟩));exact Jd h
theorem eA.items{A:IV}{s:Shared}{l b:Addr}{items items2:Array Value}{f g:Nat->Bool}(hl:s.heap.IsList l items)(hb:s.heap.IsList b items2)(hsz:items.size=items2.size)(hu:A.units<JA)(hI:vt A s items items2 f g):
  eA A s (.ref l) (.ref b) (dG f g 0 items.size):=λprog w E Q h=>by
 obtain⟨⟨cls,dd,data,sl⟩,ho,hc,n,hd⟩:=id hl;obtain⟨⟨cls2,dd2,data2,sl2⟩,ho2,hc2,n2,hd2⟩:=id hb;simp only at hc hd hc2 hd2;subst hc hd hc2 hd2;exact richCompare_meets_room (op:=.Lt) ⟨_,ho,rfl⟩ ⟨_,ho2,rfl⟩ PySem.F.slot_list_lt PySem.F.entry_list_lt (PySem.F.args_list_lt_2 _ _) (wS l b items items2 n n2 dd dd2 sl sl2 hsz f g)
  ⟨ho,ho2,hI,show Value.bool (dG f g 0 items.size)≠Value.notImplemented/\Q (.bool (dG f g 0 items.size)) s from⟨(λx=>nomatch x),h⟩⟩ hu
theorem rJ(x y:Nat->Int):∀(k i:Nat),dG (λj=>decide (x j=y j)) (λj=>decide (x j<y j)) i k=HT.lexLt ((VG i k).map x) ((VG i k).map y)
 |0,_=>rfl
 |k+1,i=>by
  rw[List.range'_succ,QJ,QJ,HT.bn];show(if decide (x i=y i)then _ else _)=_;rw[rJ x y k (i+1)];by_cases e:x i=y i
  .rw[Lp (Lu e),Lp e]
  .rw[Lq (by simp[e]),Lq e]
theorem rH:∀{a b c d:List Int},a.length=b.length->HT.lexLt (a++c) (b++d)=if a=b then HT.lexLt c d else HT.lexLt a b
 |[],[],c,d,_=>by simp
 |[],_::_,_,_,h=>by cases h
 |_::_,[],_,_,h=>by cases h
 |x::xs,y::ys,c,d,h=>by
  rw[Wu,Wu,HT.bn,rH (Nat.succ.inj h)];by_cases e:x=y
  .subst e;by_cases e2:xs=ys
   .subst e2;simp
   .simp[e2,HT.bn]
  .simp[e,HT.bn]
def br(its:Array Value)(k:List Int):Prop:=its.size=k.length/\∀(j:Nat) (v:Value),its[j]?=some v->∃t,v=.int (k.getD j 0) t
def qR(k:List Int)(n:Nat)(h:n=k.length):(VG 0 n).map (λj=>k.getD j 0)=k:=by
 subst h;apply WZ;intro i;by_cases hi:i<k.length
 .simp[hi,List.getElem?_range']
 .simp[hi]
def br.lt (h1:br i1 k1)(h2:br i2 k2):vt A s i1 i2 (λj=>decide (k1.getD j 0=k2.getD j 0)) (λj=>decide (k1.getD j 0<k2.getD j 0)):=by
 intro j v u hv hu;obtain⟨t,rfl⟩:=h1.2 j v hv;obtain⟨t',rfl⟩:=h2.2 j u hu;exact⟨EqAt.int_int _ t _ t',λprog w E Q h=>HT.dE A.in1 s _ t _ t' prog w E Q h⟩
def br.lex {i2:Array Value}(h1:br i1 k1)(hl:k1.length=k2.length):dG (λj=>decide (k1.getD j 0=k2.getD j 0)) (λj=>decide (k1.getD j 0<k2.getD j 0)) 0 i1.size=HT.lexLt k1 k2:=by
 rw[rJ,qR k1 _ h1.1,qR k2 _ (h1.1.trans hl)]
def br.det (h1:br its k1)(h2:br its k2):k1=k2:=by
 apply VE (h1.1.symm.trans h2.1);intro i a1 a2;have q:i<its.size:=by rw[h1.1];exact a1
 obtain⟨t,e1⟩:=h1.2 i its[i] (by simp[q]);obtain⟨t',e2⟩:=h2.2 i its[i] (by simp[q]);rw[e1]at e2;have:=(Value.int.inj e2).1;simpa [a1,a2]using this
def kT {s:Shared}(hl:s.heap.IsList l i1)(hb:s.heap.IsList l i2):i1=i2:=by
 obtain⟨o,ho,_,n,hd⟩:=hl;obtain⟨o',ho',_,n',hd'⟩:=hb;rw[ho]at ho';cases ho';rw[hd]at hd';cases hd';rfl
def br.eq (hl:s.heap.IsList l i1)(hb:s.heap.IsList b i2)(h1:br i1 k1)(h2:br i2 k2)(hk:k1.length=k2.length)(hu:A.units<JA):EqAt A s (.ref l) (.ref b) (decide (k1=k2)):=by
 have hall:(QL i1.size).all (λj=>decide (k1.getD j 0=k2.getD j 0))=decide (k1=k2):=by
  rw[WT,QN,Lx];constructor
  .intro h;apply VE hk;intro i a1 a2;have:=Lw (h i (WC.mpr (by rw[h1.1];exact a1)));simpa [a1,a2]using this
  .rintro rfl j _;simp
 by_cases e:l=b
 .subst e;obtain rfl:=kT hl hb;have:k1=k2:=h1.det h2;rw[Lu this];exact EqAt.same _
 .rw[<-hall];exact EqAt.of_refs e (RcAt.lists hl hb (by rw[h1.1,h2.1,hk]) hu λj q1 q2=>(br.lt (A:=A) h1 h2 j _ _ (by simp[q1]) (by simp[q2])).1)
def cZ(s:Shared)(c:Int)(n:Nat)(v:Value)(k:List Int):Prop:=
 ∃(l:Addr) (its:Array Value),v=.ref l/\s.heap.IsList l its/\k.length=n /\
  ((c=0/\br its k)\/∃kk:List (List Int),2<=c/\k=kk.flatten/\its.size=kk.length/\∀(j:Nat) (u:Value) (q:List Int),its[j]?=some u->kk[j]?=some q->(q.length:Int)+1=c/\∃r ri,u=.ref r/\s.heap.IsList r ri/\br ri q)
theorem cZ.det (h:cZ s c n v k)(h':cZ s c n v k'):k=k':=by
 obtain⟨l,its,rfl,hl,hn,h⟩:=h;obtain⟨l',its',e,hl',hn',h'⟩:=h';cases e;obtain rfl:=kT hl hl';rcases h with⟨rfl,h⟩|⟨kk,hc,rfl,hz,h⟩
 .rcases h' with⟨_,h'⟩|⟨_,hc,_⟩
  .exact h.det h'
  .lia
 .rcases h' with⟨hc',_⟩|⟨kk',_,rfl,hz',h'⟩
  .lia
  .congr 1;apply VE (hz.symm.trans hz');intro i a1 a2;have q:i<its.size:=by rw[hz];exact a1
   obtain⟨_,r,ri,e1,b1,c1⟩:=h i its[i] kk[i] (by simp[q]) (by simp[a1]);obtain⟨_,r',ri',e2,b2,c2⟩:=h' i its[i] kk'[i] (by simp[q]) (by simp[a2]);rw[e1]at e2;cases e2;obtain rfl:=kT b1 b2;exact c1.det c2
theorem kU:∀{kk:List (List Int)},(∀q∈kk,q.length=c)->kk.flatten.length=kk.length*c
 |[],_=>by simp
 |q::r,h=>by
  rw[Q0,QH,kU λx hx=>h x (Qk _ hx),h q (by simp),QG,VB];lia
theorem qS {a b:List (List Int)}(ha:∀q∈a,q.length=c)(hb:∀q∈b,q.length=c)(hl:a.length=b.length):∀(k i:Nat),k+i=a.length ->
  dG (λj=>decide (a.getD j []=b.getD j [])) (λj=>HT.lexLt (a.getD j []) (b.getD j [])) i k=HT.lexLt (a.drop i).flatten (b.drop i).flatten
 |0,i,h=>by
  rw[WG (by lia),WG (by lia)];rfl
 |k+1,i,h=>by
  have h1:i<a.length:=by lia
  have h2:i<b.length:=by lia
  rw[QP h1,QP h2,Q0,Q0,rH ((ha _ (by simp)).trans (hb _ (by simp)).symm),<-qS ha hb hl k (i+1) (by lia)];show(if decide (a.getD i []=b.getD i [])then _ else _)=_;have e1:a.getD i []=a[i]:=by simp[h1]
  have e2:b.getD i []=b[i]:=by simp[h2]
  rw[e1,e2];by_cases e:a[i]=b[i]
  .rw[Lp (Lu e),Lp e]
  .rw[Lq (by simp[e]),Lq e];show HT.lexLt (a.getD i []) (b.getD i [])=_;rw[e1,e2]
theorem cZ.lt (hu:A.units+2<JA)(h:cZ s c n v k)(h':cZ s c n u k'):cY A s v u (HT.lexLt k k'):=by
 obtain⟨l,its,rfl,hl,hn,h⟩:=h;obtain⟨l',its',rfl,hl',hn',h'⟩:=h';have hk:k.length=k'.length:=hn.trans hn'.symm;rcases h with⟨rfl,h⟩|⟨kk,hc,rfl,hz,h⟩
 .rcases h' with⟨_,h'⟩|⟨_,hc,_⟩
  .rw[<-h.lex (i2:=its') hk];exact cY.items hl hl' (by rw[h.1,h'.1,hk]) (by lia) (h.lt h')
  .lia
 .rcases h' with⟨hc',_⟩|⟨kk',_,rfl,hz',h'⟩
  .lia
  .have e1:∀q∈kk,q.length=(c-1).toNat:=λq hq=>by
    obtain⟨i,hi⟩:=Qw hq;have z:i<its.size:=by rw[hz];exact(Qa.mp hi).1
    have:=(h i its[i] q (by simp[z]) hi).1;lia
   have e2:∀q∈kk',q.length=(c-1).toNat:=λq hq=>by
    obtain⟨i,hi⟩:=Qw hq;have z:i<its'.size:=by rw[hz'];exact(Qa.mp hi).1
    have:=(h' i its'[i] q (by simp[z]) hi).1;lia
   have e3:kk.length=kk'.length:=by
    rw[kU e1,kU e2]at hk;exact Nat.eq_of_mul_eq_mul_right (by lia) hk
   have e4:=qS e1 e2 e3 its.size 0 (by lia);rw[Vz,Vz]at e4;rw[<-e4];refine cY.items hl hl' (by lia) (by lia) λj v u hv hu'=>?_;have q1:j<its.size:=(Vc.mp hv).1;have q2:j<its'.size:=(Vc.mp hu').1;have g1:kk[j]?=some (kk.getD j []):=by simp[show j<kk.length by lia]
   have g2:kk'[j]?=some (kk'.getD j []):=by simp[show j<kk'.length by lia]
   obtain⟨l1,r,ri,rfl,b1,c1⟩:=h j v _ hv g1;obtain⟨l2,r',ri',rfl,b2,c2⟩:=h' j u _ hu' g2;have l3:(kk.getD j []).length=(kk'.getD j []).length:=by lia
   refine⟨br.eq b1 b2 c1 c2 l3 (by show A.units+1<JA;lia),?_⟩;rw[<-c1.lex (i2:=ri') l3];exact eA.items b1 b2 (by rw[c1.1,c2.1,l3]) (by show A.units+1<JA;lia) (c1.lt c2)
end
section
theorem j6:∀(f n r:Nat),r<=1->minRun' f n r<=n+r
 |0,n,r,_=>Qg _
 |f+1,n,r,h=>by
  rw[minRun'_succ];split
  .exact Qg _
  .have e:=j6 f (n/2) (max r (n%2)) (by lia);lia
theorem rG:∀vs:List Value,List.map (λx:Value×Value=>x.snd) (vs.zip vs)=vs
 |[]=>rfl
 |v::r=>Ls (v::·) (rG r)
end
section
variable{prog:IQ}{w:IR}{A:IV}{E:Value->Shared->Prop}{s:Shared}
def dW(prog:IQ)(w:IR)(A:IV)(E:Value->Shared->Prop)(s:Shared)(O:Kr)(key:Keyed->O.α)(S:Keyed->Prop):Prop:=
 ∀(x y:Keyed) (st:Ks) (Q:Option Bool->Ks->Prop),S x->S y->kindOf st=Kt->Q (some (O.blt (key x) (key y))) st->wpS (IY prog w) A E s (lt' x y) Q st
variable{O:Kr}{key:Keyed->O.α}{S:Keyed->Prop}
noncomputable def DV:Bool->Keyed->Array Keyed->Nat->Nat->Nat->StateT Ks Sem (Option Nat):=sortPriv% PySem.Builtin.gallop
def zi {st:Ks}(h:xs[i]?=some x)(q:Q x st):wpS (IY prog w) A E s (elem' xs i) Q st:=by
 rw[elem'_eq,h];exact Ku q
def yc (C:dW prog w A E s O key S){st:Ks}(hk:kindOf st=Kt)(hS:S k)(h0:hint<n)(B:Nat->Bool)(hB:∀i,i<n->∃x,xs[base+i]?=some x/\S x/\B i=(if left then O.blt (key x) (key k)else ! O.blt (key k) (key x)))(mono:∀i j,i<=j->j<n->B j=true->B i=true)(h:∀r,r<=n->(∀i,i<r->B i=true)->(∀i,r<=i->i<n->B i=false)->Q (some r) st):
  wpS (IY prog w) A E s (DV left k xs base n hint) Q st:=by
 have bey:∀i,i<n->∀Q:Option Bool->Ks->Prop,Q (some (B i)) st->wpS (IY prog w) A E s (do
   let x <-elem' xs (base+i)
   if left=true then lt' x k else do
    let r <-lt' k x
    pure (Option.map (λx=>! x) r)) Q st:=by
  intro i hi Q q;obtain⟨x,hx,hs,e⟩:=hB i hi;refine Kv (zi hx ?_);cases left with
  |true=>
   rw[Lp rfl];refine C x k st _ hs hS hk ?_;rw[Lp rfl]at e;rw[<-e];exact q
  |false=>
   rw[Lq (by simp)];refine Kv (C k x st _ hS hs hk (Ku ?_));rw[Lq (by simp)]at e;rw[QY,<-e];exact q
 have anti:∀i j,i<=j->j<n->B i=false->B j=false:=λi j h1 h2 h3=>by
  cases z:B j
  .rfl
  .rw[mono i j h1 h2 z]at h3;cases h3
 refine Kv (bey hint h0 _ ?_);dsimp only;cases hr:B hint with
 |true=>
  rw[Lp rfl];refine Kv (Kw (Kx (I:=λx c st'=>st=st'/\∃last ofs,c=(none,last,ofs)/\last<ofs/\x+1<=ofs/\hint+last<n/\B (hint+last)=true)
   (Q:=λc st'=>st=st'/\∃last ofs,c=(none,last,ofs)/\last<ofs/\hint+last<n/\B (hint+last)=true/\(n-hint<=ofs\/(hint+ofs<n/\B (hint+ofs)=false))) ?s1 ?f1 ⟨rfl,0,1,rfl,by lia,by lia,h0,hr⟩) ?p1)
  case f1=>
   rintro c st' ⟨rfl,last,ofs,rfl,a1,a2,a3,a4⟩;exact⟨rfl,last,ofs,rfl,a1,a3,a4,.inl (by lia)⟩
  case s1=>
   rintro x c st' _ hx ⟨rfl,last,ofs,rfl,a1,a2,a3,a4⟩;dsimp only;by_cases c1:ofs ≥ n-hint
   .rw[Lp c1];exact Ku ⟨rfl,last,ofs,rfl,a1,a3,a4,.inl c1⟩
   .rw[Lq c1];refine Kv (bey (hint+ofs) (by lia) _ ?_);dsimp only;cases hm:B (hint+ofs)with
    |false=>
     rw[Lp (show(! false)=true from rfl)];exact Ku ⟨rfl,last,ofs,rfl,a1,a3,a4,.inr ⟨by lia,hm⟩⟩
    |true=>
     rw[Lq (show ¬(! true)=true by decide)];exact Ku ⟨rfl,ofs,2*ofs+1,rfl,by lia,by lia,by lia,hm⟩
  case p1=>
   rintro c st' ⟨rfl,last,ofs,rfl,a1,a3,a4,a5⟩;dsimp only;refine Kv (Kw (Kx (I:=λx c st'=>st=st'/\∃lo hi,c=(none,lo,hi)/\lo<=hi/\hi<=n/\hi-lo<=n-x/\(∀i,i<lo->B i=true)/\(∀i,hi<=i->i<n->B i=false))
    (Q:=λc st'=>st=st'/\∃hi,c=(none,hi,hi)/\hi<=n/\(∀i,i<hi->B i=true)/\(∀i,hi<=i->i<n->B i=false)) ?s2 ?f2 ⟨rfl,_,_,rfl,by lia,by lia,by lia,λi hi=>mono i (hint+last) (by lia) a3 a4,λi h1 h2=>?g2⟩) ?p2)
   case g2=>
    rcases a5 with a5|⟨a5,a6⟩
    .lia
    .exact anti (hint+ofs) i (by lia) h2 a6
   case f2=>
    rintro c st' ⟨rfl,lo,hi,rfl,b1,b2,b3,b4,b5⟩;have:lo=hi:=by lia
    subst this;exact⟨rfl,lo,rfl,b2,b4,b5⟩
   case s2=>
    rintro x c st' _ hx ⟨rfl,lo,hi,rfl,b1,b2,b3,b4,b5⟩;dsimp only;by_cases c1:lo ≥ hi
    .rw[Lp c1];have:lo=hi:=by lia
     subst this;exact Ku ⟨rfl,lo,rfl,b2,b4,b5⟩
    .rw[Lq c1];refine Kv (bey (lo+(hi-lo)/2) (by lia) _ ?_);dsimp only;cases hm:B (lo+(hi-lo)/2)with
     |false=>
      rw[Lq (by simp)];exact Ku ⟨rfl,lo,lo+(hi-lo)/2,rfl,by lia,by lia,by lia,b4,λi h1 h2=>anti _ i h1 h2 hm⟩
     |true=>
      rw[Lp rfl];exact Ku ⟨rfl,lo+(hi-lo)/2+1,hi,rfl,by lia,by lia,by lia,λi h1=>mono i _ (by lia) (by lia) hm,b5⟩
   case p2=>
    rintro c st' ⟨rfl,hi,rfl,b2,b4,b5⟩;dsimp only;exact Ku (h hi b2 b4 b5)
 |false=>
  rw[Lq (by simp)];refine Kv (Kw (Kx (I:=λx c st'=>st=st'/\∃last ofs,c=(none,last,ofs)/\last<ofs/\x+1<=ofs/\last<=hint/\B (hint-last)=false)
   (Q:=λc st'=>st=st'/\∃last ofs,c=(none,last,ofs)/\last<ofs/\last<=hint/\B (hint-last)=false/\(hint+1<=ofs\/(ofs<=hint/\B (hint-ofs)=true))) ?s3 ?f3 ⟨rfl,0,1,rfl,by lia,by lia,by lia,hr⟩) ?p3)
  case f3=>
   rintro c st' ⟨rfl,last,ofs,rfl,a1,a2,a3,a4⟩;exact⟨rfl,last,ofs,rfl,a1,a3,a4,.inl (by lia)⟩
  case s3=>
   rintro x c st' _ hx ⟨rfl,last,ofs,rfl,a1,a2,a3,a4⟩;dsimp only;by_cases c1:ofs ≥ hint+1
   .rw[Lp c1];exact Ku ⟨rfl,last,ofs,rfl,a1,a3,a4,.inl c1⟩
   .rw[Lq c1];refine Kv (bey (hint-ofs) (by lia) _ ?_);dsimp only;cases hm:B (hint-ofs)with
    |true=>
     rw[Lp rfl];exact Ku ⟨rfl,last,ofs,rfl,a1,a3,a4,.inr ⟨by lia,hm⟩⟩
    |false=>
     rw[Lq (by simp)];exact Ku ⟨rfl,ofs,2*ofs+1,rfl,by lia,by lia,by lia,hm⟩
  case p3=>
   rintro c st' ⟨rfl,last,ofs,rfl,a1,a3,a4,a5⟩;dsimp only;refine Kv (Kw (Kx (I:=λx c st'=>st=st'/\∃lo hi,c=(none,lo,hi)/\lo<=hi/\hi<=n/\hi-lo<=n-x/\(∀i,i<lo->B i=true)/\(∀i,hi<=i->i<n->B i=false))
    (Q:=λc st'=>st=st'/\∃hi,c=(none,hi,hi)/\hi<=n/\(∀i,i<hi->B i=true)/\(∀i,hi<=i->i<n->B i=false)) ?s4 ?f4 ⟨rfl,_,_,rfl,by lia,by lia,by lia,λi hi=>?g4,λi h1 h2=>anti _ i h1 h2 a4⟩) ?p4)
   case g4=>
    rcases a5 with a5|⟨a5,a6⟩
    .lia
    .exact mono i (hint-ofs) (by lia) (by lia) a6
   case f4=>
    rintro c st' ⟨rfl,lo,hi,rfl,b1,b2,b3,b4,b5⟩;have:lo=hi:=by lia
    subst this;exact⟨rfl,lo,rfl,b2,b4,b5⟩
   case s4=>
    rintro x c st' _ hx ⟨rfl,lo,hi,rfl,b1,b2,b3,b4,b5⟩;dsimp only;by_cases c1:lo ≥ hi
    .rw[Lp c1];have:lo=hi:=by lia
     subst this;exact Ku ⟨rfl,lo,rfl,b2,b4,b5⟩
    .rw[Lq c1];refine Kv (bey (lo+(hi-lo)/2) (by lia) _ ?_);dsimp only;cases hm:B (lo+(hi-lo)/2)with
     |false=>
      rw[Lq (by simp)];exact Ku ⟨rfl,lo,lo+(hi-lo)/2,rfl,by lia,by lia,by lia,b4,λi h1 h2=>anti _ i h1 h2 hm⟩
     |true=>
      rw[Lp rfl];exact Ku ⟨rfl,lo+(hi-lo)/2+1,hi,rfl,by lia,by lia,by lia,λi h1=>mono i _ (by lia) (by lia) hm,b5⟩
   case p4=>
    rintro c st' ⟨rfl,hi,rfl,b2,b4,b5⟩;dsimp only;exact Ku (h hi b2 b4 b5)
end
section
variable{O:Kr}{key:Keyed->O.α}
def Le(O:Kr)(key:Keyed->O.α)(x y:Keyed):Prop:=O.kle (key x) (key y)
def a9(O:Kr)(key:Keyed->O.α)(l:List Keyed):Prop:=l.Pairwise (Le O key)
def Le.trans{x y z:Keyed}(h1:Le O key x y)(h2:Le O key y z):Le O key x z:=KeyOrd.kle_trans h1 h2
def a9.drop_le (h:a9 O key l)(hx:l[i]?=some x):∀y∈l.drop i,Le O key x y:=by
 intro y hy;obtain⟨hi,rfl⟩:=Qa.mp hx;rw[QP hi]at hy;rcases Qo.mp hy with rfl|hy
 .exact KeyOrd.kle_refl _
 .have h2:a9 O key (l.drop i):=h.sublist (Wk i l);rw[QP hi]at h2;exact(Ww.mp h2).1 y hy
def a9.at_le (h:a9 O key l){j:Nat}(hij:i<=j)(hx:l[i]?=some x)(hy:l[j]?=some y):Le O key x y:=by
 refine h.drop_le hx y ?_;have:(l.drop i)[j-i]?=some y:=by rw[Q9,show i+(j-i)=j by lia];exact hy
 exact Qr this
structure MI(O:Kr)(key:Keyed->O.α)(X Y:List Keyed)(ia ib:Nat)(L:List Keyed):Prop where
 ha:ia<=X.length
 hb:ib<=Y.length
 pm:L.Perm (X.take ia++Y.take ib)
 so:a9 O key L
 la:∀z∈L,∀x∈X.drop ia,Le O key z x
 lb:∀z∈L,∀y∈Y.drop ib,Le O key z y
def wg(O:Kr)(key:Keyed->O.α)(X Y r:List Keyed):Prop:=a9 O key r/\r.Perm (X++Y)
variable{X Y L:List Keyed}{ia ib:Nat}
def zX (h1:a9 O key l)(h2:a9 O key r)(h:∀x∈l,∀y∈r,Le O key x y):a9 O key (l++r):=List.pairwise_append.mpr ⟨h1,h2,h⟩
def MI.done(M:MI O key X Y ia ib L)(hX:a9 O key X)(hY:a9 O key Y)(h:ia=X.length\/ib=Y.length):wg O key X Y (L++X.drop ia++Y.drop ib):=by
 refine⟨?_,?_⟩
 .rcases h with rfl|rfl
  .rw[W4,QW];exact zX M.so (hY.sublist (Wk _ _)) M.lb
  .rw[W4,QW];exact zX M.so (hX.sublist (Wk _ _)) M.la
 .refine ((M.pm.append_right _).append_right _).trans ?_;have e1:(X.take ia++Y.take ib++X.drop ia++Y.drop ib).Perm (X.take ia++(X.drop ia++Y.take ib)++Y.drop ib):=by
   refine WJ.append_right _ ?_;rw[Qj];exact WJ.append_left _ Wq
  refine e1.trans ?_;rw[<-Qj (X.take ia),QK,Qj,QK]
def MI.last(M:MI O key X Y ia ib L)(hX:a9 O key X)(hY:a9 O key Y)(hl:∀y∈Y,∀x,X[X.length-1]?=some x->Le O key y x)(h:ia+1=X.length):wg O key X Y (L++Y.drop ib++X.drop ia):=by
 have e:X.drop ia=[X[ia]'(by lia)]:=by
  rw[QP (by lia),h,W4]
 refine⟨?_,?_⟩
 .rw[Qj];refine zX M.so (zX (hY.sublist (Wk _ _)) (hX.sublist (Wk _ _)) ?_) ?_
  .intro y hy x hx;rw[e]at hx;rw[Qt.mp hx];exact hl y (Wr hy) _ (by rw[show X.length-1=ia by lia];simp)
  .intro z hz y hy;rcases Qx.mp hy with hy|hy
   .exact M.lb z hz y hy
   .exact M.la z hz y hy
 .have:=M.pm;refine((M.pm.append_right _).append_right _).trans ?_;have e1:(X.take ia++Y.take ib++Y.drop ib++X.drop ia).Perm (X.take ia++Y++X.drop ia):=by
   rw[Qj (X.take ia),QK]
  refine e1.trans ?_;rw[Qj];refine(WJ.append_left _ Wq).trans ?_;rw[<-Qj,QK]
def yd {l:List Keyed}(h:l[i]?=some x):l.take (i+1)=l.take i++[x]:=by
 obtain⟨hi,rfl⟩:=Qa.mp h;rw[List.take_succ_eq_append_getElem hi]
def vv {l:List Keyed}(h:i<=j)(hx:x∈l.drop j):x∈l.drop i:=by
 have:l.drop j=(l.drop i).drop (j-i):=by rw[WD];congr 1;lia
 rw[this]at hx;exact Wr hx
def MI.pushA(M:MI O key X Y ia ib L)(hX:a9 O key X){x:Keyed}(hx:X[ia]?=some x)(h:∀y∈Y.drop ib,Le O key x y):MI O key X Y (ia+1) ib (L++[x]):=by
 have hi:=(Qa.mp hx).1;have hm:x∈X.drop ia:=by
  obtain⟨_,rfl⟩:=Qa.mp hx;rw[QP hi];exact QX
 refine⟨by lia,M.hb,?_,zX M.so (by simp[a9]) (λz hz y hy=>by rw[Qt.mp hy];exact M.la z hz x hm),λz hz y hy=>?_,λz hz y hy=>?_⟩
 .rw[yd hx];refine(M.pm.append_right _).trans ?_;rw[Qj,Qj];exact WJ.append_left _ Wq
 .rcases Qx.mp hz with hz|hz
  .exact M.la z hz y (vv (by lia) hy)
  .rw[Qt.mp hz];exact hX.drop_le hx y (vv (by lia) hy)
 .rcases Qx.mp hz with hz|hz
  .exact M.lb z hz y hy
  .rw[Qt.mp hz];exact h y hy
def MI.pushB(M:MI O key X Y ia ib L)(hY:a9 O key Y){y:Keyed}(hy:Y[ib]?=some y)(h:∀x∈X.drop ia,Le O key y x):MI O key X Y ia (ib+1) (L++[y]):=by
 have hi:=(Qa.mp hy).1;have hm:y∈Y.drop ib:=by
  obtain⟨_,rfl⟩:=Qa.mp hy;rw[QP hi];exact QX
 refine⟨M.ha,by lia,?_,zX M.so (by simp[a9]) (λz hz x hx=>by rw[Qt.mp hx];exact M.lb z hz y hm),λz hz x hx=>?_,λz hz x hx=>?_⟩
 .rw[yd hy,<-Qj];exact M.pm.append_right _
 .rcases Qx.mp hz with hz|hz
  .exact M.la z hz x hx
  .rw[Qt.mp hz];exact h x hx
 .rcases Qx.mp hz with hz|hz
  .exact M.lb z hz x (vv (by lia) hx)
  .rw[Qt.mp hz];exact hY.drop_le hy x (vv (by lia) hx)
def j7 {l:List Keyed}(h:l[i+k]?=some x):(l.drop i).take (k+1)=(l.drop i).take k++[x]:=yd (by rw[Q9];exact h)
theorem MI.blockA(M:MI O key X Y ia ib L)(hX:a9 O key X):∀k,ia+k<=X.length->(∀i,i<k->∀x,X[ia+i]?=some x->∀y∈Y.drop ib,Le O key x y)->MI O key X Y (ia+k) ib (L++(X.drop ia).take k)
 |0,_,_=>by simpa using M
 |k+1,h,hl=>by
  have q:=M.blockA hX k (by lia) λi hi=>hl i (by lia);have hx:X[ia+k]?=some X[ia+k]:=by simp
  have:=q.pushA hX hx (hl k (by lia) _ hx);rw[j7 hx,<-Qj];exact this
theorem MI.blockB(M:MI O key X Y ia ib L)(hY:a9 O key Y):∀k,ib+k<=Y.length->(∀i,i<k->∀y,Y[ib+i]?=some y->∀x∈X.drop ia,Le O key y x)->MI O key X Y ia (ib+k) (L++(Y.drop ib).take k)
 |0,_,_=>by simpa using M
 |k+1,h,hl=>by
  have q:=M.blockB hY k (by lia) λi hi=>hl i (by lia);have hx:Y[ib+k]?=some Y[ib+k]:=by simp
  have:=q.pushB hY hx (hl k (by lia) _ hx);rw[j7 hx,<-Qj];exact this
end
section
variable{O:Kr}{key:Keyed->O.α}{S:Keyed->Prop}{a b:Array Keyed}
def Eqv(st st':Ks):Prop:=kindOf st'=kindOf st/\Ky st'=Ky st/\Kz st'=Kz st/\KA st'=KA st
def Eqv.refl(st:Ks):Eqv st st:=⟨rfl,rfl,rfl,rfl⟩
def nN(p a b:Array Keyed)(i j:Nat):(p++a.extract i++b.extract j).toList=p.toList++a.toList.drop i++b.toList.drop j:=by
 simp only[W8,Wy,Wo];rw[Wt (by simp),Wt (by simp)]
def nM(p a:Array Keyed)(i k:Nat):(p++a.extract i (i+k)).toList=p.toList++(a.toList.drop i).take k:=by
 simp only[W8,Wy,Wo];rw[show i+k-i=k by lia]
def kW (M:MI O key a.toList b.toList ia ib p.toList)(hX:a9 O key a.toList)(hY:a9 O key b.toList)(h:ia=a.size\/ib=b.size):wg O key a.toList b.toList (p++a.extract ia++b.extract ib).toList:=by
 rw[nN];exact M.done hX hY h
def kX (M:MI O key a.toList b.toList ia ib p.toList)(hX:a9 O key a.toList)(hY:a9 O key b.toList)(hl:∀y∈b.toList,∀x,a.toList[a.toList.length-1]?=some x->Le O key y x)(h:ia+1=a.size):wg O key a.toList b.toList (p++b.extract ib++a.extract ia).toList:=by
 rw[nN];exact M.last hX hY hl h
def kY {p:Array Keyed}(M:MI O key a.toList b.toList ia ib p.toList)(hX:a9 O key a.toList)(hx:a[ia]?=some x)(h:∀y∈b.toList.drop ib,Le O key x y):MI O key a.toList b.toList (ia+1) ib (p.push x).toList:=by
 rw[WV];exact M.pushA hX (by simpa using hx) h
def gS {p:Array Keyed}(M:MI O key a.toList b.toList ia ib p.toList)(hY:a9 O key b.toList)(hy:b[ib]?=some y)(h:∀x∈a.toList.drop ia,Le O key y x):MI O key a.toList b.toList ia (ib+1) (p.push y).toList:=by
 rw[WV];exact M.pushB hY (by simpa using hy) h
def DU (M:MI O key a.toList b.toList ia ib p.toList)(hX:a9 O key a.toList)(hk:ia+k<=a.size)(h:∀i,i<k->∀x,a.toList[ia+i]?=some x->∀y∈b.toList.drop ib,Le O key x y):MI O key a.toList b.toList (ia+k) ib (p++a.extract ia (ia+k)).toList:=by
 rw[nM];exact M.blockA hX k hk h
def rF (M:MI O key a.toList b.toList ia ib p.toList)(hY:a9 O key b.toList)(hk:ib+k<=b.size)(h:∀i,i<k->∀y,b.toList[ib+i]?=some y->∀x∈a.toList.drop ia,Le O key y x):MI O key a.toList b.toList ia (ib+k) (p++b.extract ib (ib+k)).toList:=by
 rw[nM];exact M.blockB hY k hk h
variable{prog:IQ}{w:IR}{A:IV}{E:Value->Shared->Prop}{s:Shared}
def Fg:Array Keyed->Array Keyed->StateT Ks Sem (Array Keyed):=sortPriv% PySem.Builtin.mergeLo
def qT (C:dW prog w A E s O key S){st:Ks}(hk:kindOf st=Kt)(hX:a9 O key a.toList)(hY:a9 O key b.toList)(hSa:∀x∈a.toList,S x)(hSb:∀x∈b.toList,S x)(hb0:0<b.size)(ha0:0<a.size)(hfirst:∀x∈a.toList,∀y,b[0]?=some y->Le O key y x)(hl:∀y∈b.toList,∀x,a.toList[a.toList.length-1]?=some x->Le O key y x)(h:∀r st',Eqv st st'->wg O key a.toList b.toList r.toList->Q r st'):
  wpS (IY prog w) A E s (Fg a b) Q st:=by
 have atA:∀i,i<a.size->∃x,a[i]?=some x/\S x/\a.toList[i]?=some x:=λi hi=>⟨a[i],by simp[hi],hSa _ (by simp),by simp[hi]⟩;have atB:∀i,i<b.size->∃x,b[i]?=some x/\S x/\b.toList[i]?=some x:=λi hi=>⟨b[i],by simp[hi],hSb _ (by simp),by simp[hi]⟩;have gA:∀(ia:Nat) (v:Keyed) (i:Nat),ia+i<a.size->∃x,a[ia+i]?=some x/\S x/\(! O.blt (key v) (key (a.getD (ia+i) v)))=(if false=true then O.blt (key x) (key v)else ! O.blt (key v) (key x)):=by
  intro ia v i hi;obtain⟨x,hx,sx,_⟩:=atA (ia+i) hi;exact⟨x,hx,sx,by rw[Lq (by simp),Q3,hx];rfl⟩
 have gB:∀(ib:Nat) (u:Keyed) (i:Nat),ib+i<b.size->∃x,b[ib+i]?=some x/\S x/\O.blt (key (b.getD (ib+i) u)) (key u)=(if true=true then O.blt (key x) (key u)else ! O.blt (key u) (key x)):=by
  intro ib u i hi;obtain⟨x,hx,sx,_⟩:=atB (ib+i) hi;exact⟨x,hx,sx,by rw[Lp rfl,Q3,hx];rfl⟩
 have dA:∀(i:Nat) (v x:Keyed),a.toList[i]?=some x->a.getD i v=x:=λi v x hx=>by rw[Q3,<-QD,hx];rfl
 have dB:∀(i:Nat) (v x:Keyed),b.toList[i]?=some x->b.getD i v=x:=λi v x hx=>by rw[Q3,<-QD,hx];rfl
 have mA:∀(ia:Nat) (v:Keyed) (i j:Nat),i<=j->j<a.size-ia->(! O.blt (key v) (key (a.getD (ia+j) v)))=true->(! O.blt (key v) (key (a.getD (ia+i) v)))=true:=by
  intro ia v i j hij hj hB;obtain⟨x,hx,_,hx'⟩:=atA (ia+i) (by lia);obtain⟨y,hy,_,hy'⟩:=atA (ia+j) (by lia);rw[dA _ _ _ hy']at hB;rw[dA _ _ _ hx'];have e:Le O key x v:=Le.trans (hX.at_le (by lia) hx' hy') (show O.blt (key v) (key y)=false from by simpa using hB);simpa using (show O.blt (key v) (key x)=false from e)
 have mB:∀(ib:Nat) (u:Keyed) (i j:Nat),i<=j->j<b.size-ib->O.blt (key (b.getD (ib+j) u)) (key u)=true->O.blt (key (b.getD (ib+i) u)) (key u)=true:=by
  intro ib u i j hij hj hB;obtain⟨x,hx,_,hx'⟩:=atB (ib+i) (by lia);obtain⟨y,hy,_,hy'⟩:=atB (ib+j) (by lia);rw[dB _ _ _ hy']at hB;rw[dB _ _ _ hx'];exact KeyOrd.klt_of_kle_of_klt (hY.at_le (by lia) hx' hy') hB
 have lowA:∀(ia:Nat) (v:Keyed) (k:Nat),(∀i,i<k->(! O.blt (key v) (key (a.getD (ia+i) v)))=true)->∀i,i<k->∀x,a.toList[ia+i]?=some x->Le O key x v:=by
  intro ia v k hk i hi x hx;have:=hk i hi;rw[dA _ _ _ hx]at this;exact(show O.blt (key v) (key x)=false from by simpa using this)
 have highA:∀(ia:Nat) (v:Keyed) (k:Nat),(∀i,k<=i->i<a.size-ia->(! O.blt (key v) (key (a.getD (ia+i) v)))=false)->∀x∈a.toList.drop (ia+k),Le O key v x:=by
  intro ia v k hk x hx;obtain⟨i,hi⟩:=Qw hx;rw[Q9]at hi;have hlt:ia+k+i<a.size:=(Qa.mp hi).1;have:=hk (k+i) (by lia) (by lia);rw[show ia+(k+i)=ia+k+i by lia,dA _ _ _ hi]at this;exact KeyOrd.kle_of_klt (show O.blt (key v) (key x)=true from by simpa using this)
 have lowB:∀(ib:Nat) (u:Keyed) (k:Nat),(∀i,i<k->O.blt (key (b.getD (ib+i) u)) (key u)=true)->∀i,i<k->∀y,b.toList[ib+i]?=some y->Le O key y u:=by
  intro ib u k hk i hi x hx;have:=hk i hi;rw[dB _ _ _ hx]at this;exact KeyOrd.kle_of_klt this
 have upA:∀(ib:Nat) (u:Keyed) (k:Nat),(∀i,k<=i->i<b.size-ib->O.blt (key (b.getD (ib+i) u)) (key u)=false)->∀y∈b.toList.drop (ib+k),Le O key u y:=by
  intro ib u k hk x hx;obtain⟨i,hi⟩:=Qw hx;rw[Q9]at hi;have hlt:ib+k+i<b.size:=(Qa.mp hi).1;have:=hk (k+i) (by lia) (by lia);rw[show ib+(k+i)=ib+k+i by lia,dB _ _ _ hi]at this;exact this
 obtain⟨y0,hy0,_,hy0'⟩:=atB 0 hb0;refine Kv (KB (Ki ⟨rfl,?_⟩));refine Kv (zi hy0 ?_);dsimp only;have M0:MI O key a.toList b.toList 0 1 (#[y0]:Array Keyed).toList:=by
  have e:MI O key a.toList b.toList 0 0 (#[]:Array Keyed).toList:=⟨WA _,WA _,by simp,by simp[a9],by simp,by simp⟩;exact gS e hY hy0 (λx hx=>hfirst x (by simpa using hx) y0 hy0)
 by_cases c1:1=b.size
 .rw[Lp (by simpa using c1)];exact Ku (h _ _ (.refl _) (kW M0 hX hY (.inr c1)))
 rw[Lq (by simpa using c1)];by_cases c2:0+1=a.size
 .rw[Lp (by simpa using c2)];exact Ku (h _ _ (.refl _) (kX M0 hX hY hl c2))
 rw[Lq (by simpa using c2)];refine Kv (KC ?_);refine Kv (Kw (Kx (I:=λx c st'=>Eqv st st'/\∃out ia ib mg,c=(none,out,ia,ib,mg)/\MI O key a.toList b.toList ia ib out.toList/\ia+1<a.size/\ib<b.size/\x+1<=ia+ib)
  (Q:=λc st'=>Eqv st st'/\∃r out ia ib mg,c=(some r,out,ia,ib,mg)/\wg O key a.toList b.toList r.toList) ?s1 ?f1 ⟨.refl _,_,_,_,_,rfl,M0,by lia,by lia,by lia⟩) ?p1)
 case p1=>
  rintro c st' ⟨hE,r,out,ia,ib,mg,rfl,hg⟩;exact Ku (h _ _ hE hg)
 case f1=>
  rintro c st' ⟨hE,out,ia,ib,mg,rfl,M,h1,h2,h3⟩;lia
 case s1=>
  rintro x0 c st0 _ hx0 ⟨hE0,out0,ia0,ib0,mg0,rfl,M00,h10,h20,h30⟩;dsimp only;refine Kv (Kw (Kx (I:=λx c st'=>Eqv st st'/\∃out ia ib ac bc,c=(none,out,ia,ib,ac,bc)/\MI O key a.toList b.toList ia ib out.toList/\ia+1<a.size/\ib<b.size/\x0+1+x<=ia+ib)
   (Q:=λc st'=>Eqv st st'/\((∃r out ia ib ac bc,c=(some r,out,ia,ib,ac,bc)/\wg O key a.toList b.toList r.toList)\/∃out ia ib ac bc,c=(none,out,ia,ib,ac,bc)/\MI O key a.toList b.toList ia ib out.toList/\ia+1<a.size/\ib<b.size/\x0+2<=ia+ib)) ?s2 ?f2 ⟨hE0,_,_,_,_,_,rfl,M00,h10,h20,h30⟩) ?p2)
  case f2=>
   rintro c st' ⟨hE,out,ia,ib,ac,bc,rfl,M,h1,h2,h3⟩;exact⟨hE,.inr ⟨out,ia,ib,ac,bc,rfl,M,h1,h2,by lia⟩⟩
  case s2=>
   rintro x c st' _ hx ⟨hE,out,ia,ib,ac,bc,rfl,M,h1,h2,h3⟩;dsimp only;obtain⟨u,hu,su,hu'⟩:=atA ia (by lia);obtain⟨v,hv,sv,hv'⟩:=atB ib h2;refine Kv (zi hv (Kv (zi hu (Kv (C v u st' _ sv su (hE.1.trans hk) ?_)))));dsimp only;cases hc:O.blt (key v) (key u)with
   |true=>
    rw[Lp rfl];have M2:=gS M hY hv (λx hx=>Le.trans (KeyOrd.kle_of_klt hc) (hX.drop_le hu' x hx));refine Kv (zi hv ?_);by_cases c1:ib+1=b.size
    .rw[Lp (by simpa using c1)];exact Ku ⟨hE,.inl ⟨_,_,_,_,_,_,rfl,kW M2 hX hY (.inr c1)⟩⟩
    .rw[Lq (by simpa using c1)];split
     .exact Ku ⟨hE,.inr ⟨_,_,_,_,_,rfl,M2,by lia,by lia,by lia⟩⟩
     .exact Ku ⟨hE,_,_,_,_,_,rfl,M2,by lia,by lia,by lia⟩
   |false=>
    rw[Lq (by simp)];have M2:=kY M hX hu (λy hy=>Le.trans (show Le O key u v from hc) (hY.drop_le hv' y hy));refine Kv (zi hu ?_);by_cases c1:ia+1+1=a.size
    .rw[Lp (by simpa using c1)];exact Ku ⟨hE,.inl ⟨_,_,_,_,_,_,rfl,kX M2 hX hY hl c1⟩⟩
    .rw[Lq (by simpa using c1)];split
     .exact Ku ⟨hE,.inr ⟨_,_,_,_,_,rfl,M2,by lia,by lia,by lia⟩⟩
     .exact Ku ⟨hE,_,_,_,_,_,rfl,M2,by lia,by lia,by lia⟩
  case p2=>
   rintro c st1 ⟨hE1,⟨r,out,ia,ib,ac,bc,rfl,hg⟩|⟨out1,ia1,ib1,ac1,bc1,rfl,M1,h11,h21,h31⟩⟩
   .exact Ku ⟨hE1,r,out,ia,ib,_,rfl,hg⟩
   dsimp only;refine Kv (KB (Ki ⟨rfl,?_⟩));refine Kv (Kw (Kx (I:=λx c st'=>Eqv st st'/\∃out ia ib mg ac bc,c=(none,out,ia,ib,mg,ac,bc)/\MI O key a.toList b.toList ia ib out.toList/\ia+1<a.size/\ib<b.size/\x0+2<=ia+ib)
    (Q:=λc st'=>Eqv st st'/\((∃r out ia ib mg ac bc,c=(some r,out,ia,ib,mg,ac,bc)/\wg O key a.toList b.toList r.toList)\/∃out ia ib mg ac bc,c=(none,out,ia,ib,mg,ac,bc)/\MI O key a.toList b.toList ia ib out.toList/\ia+1<a.size/\ib<b.size/\x0+2<=ia+ib)) ?s3 ?f3 ⟨hE1,_,_,_,_,_,_,rfl,M1,h11,h21,h31⟩) ?p3)
   case f3=>
    rintro c st' ⟨hE,out,ia,ib,mg,ac,bc,rfl,M,h1,h2,h3⟩;exact⟨hE,.inr ⟨out,ia,ib,mg,ac,bc,rfl,M,h1,h2,h3⟩⟩
   case p3=>
    rintro c st' ⟨hE,⟨r,out,ia,ib,mg,ac,bc,rfl,hg⟩|⟨out,ia,ib,mg,ac,bc,rfl,M,h1,h2,h3⟩⟩
    .exact Ku ⟨hE,r,out,ia,ib,_,rfl,hg⟩
    .dsimp only;refine Kv (KD ?_);exact Ku ⟨hE,_,_,_,_,rfl,M,h1,h2,by lia⟩
   case s3=>
    rintro x c st' _ hx ⟨hE,out,ia,ib,mg,ac,bc,rfl,M,h1,h2,h3⟩;dsimp only;obtain⟨v,hv,sv,hv'⟩:=atB ib h2;by_cases cm:mg > 1
    all_goals
     first|rw[Lp cm]|rw[Lq cm]
     refine Kv (KD ?_);refine Kv (zi hv ?_);refine Kv (yc C (st:=_) (hE.1.trans hk) sv (by lia) (λi=>! O.blt (key v) (key (a.getD (ia+i) v))) (λi hi=>gA ia v i (by lia)) (mA ia v) (λk k1 k2 k3=>?_));dsimp only;by_cases c1:k > 0
     .rw[Lp c1];have M2:=DU M hX (by lia) (λi hi x hx y hy=>Le.trans (lowA _ _ _ k2 i hi x hx) (hY.drop_le hv' y hy));by_cases c2:ia+k+1=a.size
      .rw[Lp (by simpa using c2)];exact Ku ⟨hE,.inl ⟨_,_,_,_,_,_,_,rfl,kX M2 hX hY hl c2⟩⟩
      rw[Lq (by simpa using c2)];by_cases c2':ia+k=a.size
      .rw[Lp (by simpa using c2')];exact Ku ⟨hE,.inl ⟨_,_,_,_,_,_,_,rfl,kW M2 hX hY (.inl c2')⟩⟩
      rw[Lq (by simpa using c2')];have iS:=highA _ _ _ k3;obtain⟨u,hu,su,hu'⟩:=atA (ia+k) (by lia);have M3:=gS M2 hY hv (λx hx=>iS x hx);refine Kv (zi hv ?_);by_cases c3:ib+1=b.size
      .rw[Lp (by simpa using c3)];exact Ku ⟨hE,.inl ⟨_,_,_,_,_,_,_,rfl,kW M3 hX hY (.inr c3)⟩⟩
      rw[Lq (by simpa using c3)];refine Kv (zi hu ?_);refine Kv (yc C (st:=_) (hE.1.trans hk) su (by lia) (λi=>O.blt (key (b.getD (ib+1+i) u)) (key u)) (λi hi=>gB _ _ _ (by lia)) (mB _ _) (λk' k1' k2' k3'=>?_));dsimp only;by_cases c5:k' > 0
      .rw[Lp c5];have M4:=rF M3 hY (by lia) (λi hi y hy x hx=>Le.trans (lowB _ _ _ k2' i hi y hy) (hX.drop_le hu' x hx));by_cases c6:ib+1+k'=b.size
       .rw[Lp (by simpa using c6)];exact Ku ⟨hE,.inl ⟨_,_,_,_,_,_,_,rfl,kW M4 hX hY (.inr c6)⟩⟩
       rw[Lq (by simpa using c6)];have M5:=kY M4 hX hu (upA _ _ _ k3');refine Kv (zi hu ?_);by_cases c4:ia+k+1+1=a.size
       .rw[Lp (by simpa using c4)];exact Ku ⟨hE,.inl ⟨_,_,_,_,_,_,_,rfl,kX M5 hX hY hl c4⟩⟩
       .rw[Lq (by simpa using c4)];split
        .exact Ku ⟨hE,.inr ⟨_,_,_,_,_,_,rfl,M5,by lia,by lia,by lia⟩⟩
        .exact Ku ⟨hE,_,_,_,_,_,_,rfl,M5,by lia,by lia,by lia⟩
      .rw[Lq c5];obtain rfl:k'=0:=by lia
       have M5:=kY M3 hX hu (upA (ib+1) _ 0 k3');refine Kv (zi hu ?_);by_cases c4:ia+k+1+1=a.size
       .rw[Lp (by simpa using c4)];exact Ku ⟨hE,.inl ⟨_,_,_,_,_,_,_,rfl,kX M5 hX hY hl c4⟩⟩
       .rw[Lq (by simpa using c4)];split
        .exact Ku ⟨hE,.inr ⟨_,_,_,_,_,_,rfl,M5,by lia,by lia,by lia⟩⟩
        .exact Ku ⟨hE,_,_,_,_,_,_,rfl,M5,by lia,by lia,by lia⟩
     .rw[Lq c1];obtain rfl:k=0:=by lia
      have M2:=M;have iS:=highA _ _ _ k3;obtain⟨u,hu,su,hu'⟩:=atA (ia) (by lia);have M3:=gS M2 hY hv (λx hx=>iS x hx);refine Kv (zi hv ?_);by_cases c3:ib+1=b.size
      .rw[Lp (by simpa using c3)];exact Ku ⟨hE,.inl ⟨_,_,_,_,_,_,_,rfl,kW M3 hX hY (.inr c3)⟩⟩
      rw[Lq (by simpa using c3)];refine Kv (zi hu ?_);refine Kv (yc C (st:=_) (hE.1.trans hk) su (by lia) (λi=>O.blt (key (b.getD (ib+1+i) u)) (key u)) (λi hi=>gB _ _ _ (by lia)) (mB _ _) (λk' k1' k2' k3'=>?_));dsimp only;by_cases c5:k' > 0
      .rw[Lp c5];have M4:=rF M3 hY (by lia) (λi hi y hy x hx=>Le.trans (lowB _ _ _ k2' i hi y hy) (hX.drop_le hu' x hx));by_cases c6:ib+1+k'=b.size
       .rw[Lp (by simpa using c6)];exact Ku ⟨hE,.inl ⟨_,_,_,_,_,_,_,rfl,kW M4 hX hY (.inr c6)⟩⟩
       rw[Lq (by simpa using c6)];have M5:=kY M4 hX hu (upA _ _ _ k3');refine Kv (zi hu ?_);by_cases c4:ia+1+1=a.size
       .rw[Lp (by simpa using c4)];exact Ku ⟨hE,.inl ⟨_,_,_,_,_,_,_,rfl,kX M5 hX hY hl c4⟩⟩
       .rw[Lq (by simpa using c4)];split
        .exact Ku ⟨hE,.inr ⟨_,_,_,_,_,_,rfl,M5,by lia,by lia,by lia⟩⟩
        .exact Ku ⟨hE,_,_,_,_,_,_,rfl,M5,by lia,by lia,by lia⟩
      .rw[Lq c5];obtain rfl:k'=0:=by lia
       have M5:=kY M3 hX hu (upA (ib+1) _ 0 k3');refine Kv (zi hu ?_);by_cases c4:ia+1+1=a.size
       .rw[Lp (by simpa using c4)];exact Ku ⟨hE,.inl ⟨_,_,_,_,_,_,_,rfl,kX M5 hX hY hl c4⟩⟩
       .rw[Lq (by simpa using c4)];split
        .exact Ku ⟨hE,.inr ⟨_,_,_,_,_,_,rfl,M5,by lia,by lia,by lia⟩⟩
        .exact Ku ⟨hE,_,_,_,_,_,_,rfl,M5,by lia,by lia,by lia⟩
end
section
variable{O:Kr}{key:Keyed->O.α}{a b:Array Keyed}
def a9.take_le (h:a9 O key l)(hx:l[i]?=some x):∀y∈l.take (i+1),Le O key y x:=by
 intro y hy;obtain⟨j,hj⟩:=Qw hy;have hlt:j<i+1:=by
  have:=(Qa.mp hj).1;rw[QR]at this;lia
 rw[Qv hlt]at hj;exact h.at_le (by lia) hj hx
structure MH(O:Kr)(key:Keyed->O.α)(X Y:List Keyed)(na nb:Nat)(L:List Keyed):Prop where
 ha:na<=X.length
 hb:nb<=Y.length
 pm:L.Perm (X.drop na++Y.drop nb)
 so:a9 O key L
 la:∀z∈L,∀x∈X.take na,Le O key x z
 lb:∀z∈L,∀y∈Y.take nb,Le O key y z
variable{X Y L:List Keyed}{na nb:Nat}
def MH.done(M:MH O key X Y na nb L)(hX:a9 O key X)(hY:a9 O key Y)(h:na=0\/nb=0):wg O key X Y (X.take na++Y.take nb++L):=by
 refine⟨?_,?_⟩
 .rcases h with rfl|rfl
  .rw[List.take_zero,Wm];exact zX (hY.sublist (Wi _ _)) M.so λx hx y hy=>M.lb y hy x hx
  .rw[List.take_zero,QW];exact zX (hX.sublist (Wi _ _)) M.so λx hx y hy=>M.la y hy x hx
 .refine (M.pm.append_left _).trans ?_;have e1:(X.take na++Y.take nb++(X.drop na++Y.drop nb)).Perm (X.take na++(X.drop na++Y.take nb)++Y.drop nb):=by
   rw[<-Qj];refine WJ.append_right _ ?_;rw[Qj];exact WJ.append_left _ Wq
  refine e1.trans ?_;rw[<-Qj (X.take na),QK,Qj,QK]
def MH.first(M:MH O key X Y na nb L)(hX:a9 O key X)(hY:a9 O key Y)(hf:∀x∈X,∀y,Y[0]?=some y->Le O key y x)(h:nb=1):wg O key X Y (Y.take nb++X.take na++L):=by
 subst h;refine⟨?_,?_⟩
 .refine zX (zX (hY.sublist (Wi _ _)) (hX.sublist (Wi _ _)) ?_) M.so ?_
  .intro y hy x hx;obtain⟨j,hj⟩:=Qw hy;have hlt:=(Qa.mp hj).1;rw[QR]at hlt;obtain rfl:j=0:=by lia
   rw[Qv (by lia)]at hj;exact hf x (Wc hx) y hj
  .intro x hx y hy;rcases Qx.mp hx with hx|hx
   .exact M.lb y hy x hx
   .exact M.la y hy x hx
 .refine (M.pm.append_left _).trans ?_;have e1:(Y.take 1++X.take na++(X.drop na++Y.drop 1)).Perm (Y.take 1++(X++Y.drop 1)):=by
   rw[Qj,<-Qj (X.take na),QK]
  refine e1.trans ?_;rw[<-Qj];refine(WJ.append_right _ Wq).trans ?_;rw[Qj,QK]
def kZ {l:List Keyed}(h:l[i]?=some x):l.drop i=x::l.drop (i+1):=by
 obtain⟨hi,rfl⟩:=Qa.mp h;exact QP hi
def vA {l:List Keyed}(h:i<=j)(hx:x∈l.take i):x∈l.take j:=by
 have:l.take i=(l.take j).take i:=by rw[List.take_take];congr 1;lia
 rw[this]at hx;exact Wc hx
def MH.pushA(M:MH O key X Y (na+1) nb L)(hX:a9 O key X){x:Keyed}(hx:X[na]?=some x)(h:∀y∈Y.take nb,Le O key y x):MH O key X Y na nb (x::L):=by
 have hm:x∈X.take (na+1):=by rw[yd hx];simp
 have:=M.ha;refine⟨by lia,M.hb,?_,Ww.mpr ⟨λz hz=>M.la z hz x hm,M.so⟩,λz hz y hy=>?_,λz hz y hy=>?_⟩
 .rw[kZ hx,Wu];exact M.pm.cons x
 .rcases Qo.mp hz with rfl|hz
  .exact hX.take_le hx y (vA (by lia) hy)
  .exact M.la z hz y (vA (by lia) hy)
 .rcases Qo.mp hz with rfl|hz
  .exact h y hy
  .exact M.lb z hz y hy
def MH.pushB(M:MH O key X Y na (nb+1) L)(hY:a9 O key Y){y:Keyed}(hy:Y[nb]?=some y)(h:∀x∈X.take na,Le O key x y):MH O key X Y na nb (y::L):=by
 have hm:y∈Y.take (nb+1):=by rw[yd hy];simp
 have:=M.hb;refine⟨M.ha,by lia,?_,Ww.mpr ⟨λz hz=>M.lb z hz y hm,M.so⟩,λz hz x hx=>?_,λz hz x hx=>?_⟩
 .rw[kZ hy];exact(M.pm.cons y).trans List.perm_middle.symm
 .rcases Qo.mp hz with rfl|hz
  .exact h x hx
  .exact M.la z hz x hx
 .rcases Qo.mp hz with rfl|hz
  .exact hY.take_le hy x (vA (by lia) hx)
  .exact M.lb z hz x (vA (by lia) hx)
def k9 {l:List Keyed}(h:l[i]?=some x):(l.drop i).take (k+1)=x::(l.drop (i+1)).take k:=by
 rw[kZ h,List.take_succ_cons]
theorem MH.blockA(hX:a9 O key X):∀(k na:Nat),MH O key X Y (na+k) nb L->(∀i,na<=i->i<na+k->∀x,X[i]?=some x->∀y∈Y.take nb,Le O key y x)->MH O key X Y na nb ((X.drop na).take k++L)
 |0,_,M,_=>by simpa using M
 |k+1,na,M,hl=>by
  have hlt:=M.ha;have q:MH O key X Y (na+1) nb ((X.drop (na+1)).take k++L):=MH.blockA hX k (na+1) (by rw[show na+1+k=na+(k+1) by lia];exact M) λi h1 h2=>hl i (by lia) (by lia);have hx:X[na]?=some X[na]:=by simp
  rw[k9 hx,Wu];exact q.pushA hX hx (hl na (Qg _) (by lia) _ hx)
theorem MH.blockB(hY:a9 O key Y):∀(k nb:Nat),MH O key X Y na (nb+k) L->(∀i,nb<=i->i<nb+k->∀y,Y[i]?=some y->∀x∈X.take na,Le O key x y)->MH O key X Y na nb ((Y.drop nb).take k++L)
 |0,_,M,_=>by simpa using M
 |k+1,nb,M,hl=>by
  have hlt:=M.hb;have q:MH O key X Y na (nb+1) ((Y.drop (nb+1)).take k++L):=MH.blockB hY k (nb+1) (by rw[show nb+1+k=nb+(k+1) by lia];exact M) λi h1 h2=>hl i (by lia) (by lia);have hy:Y[nb]?=some Y[nb]:=by simp
  rw[k9 hy,Wu];exact q.pushB hY hy (hl nb (Qg _) (by lia) _ hy)
def nL(p a b:Array Keyed)(i j:Nat):(a.extract 0 i++b.extract 0 j++p.reverse).toList=a.toList.take i++b.toList.take j++p.toList.reverse:=by
 simp only[W8,Wy,Wo,Array.toList_reverse,Vz,Nat.sub_zero]
def vB{p:Array Keyed}(M:MH O key a.toList b.toList na nb p.toList.reverse)(hX:a9 O key a.toList)(hY:a9 O key b.toList)(h:na=0\/nb=0):wg O key a.toList b.toList (a.extract 0 na++b.extract 0 nb++p.reverse).toList:=by
 rw[nL];exact M.done hX hY h
def vR{p:Array Keyed}(M:MH O key a.toList b.toList na nb p.toList.reverse)(hX:a9 O key a.toList)(hY:a9 O key b.toList)(hf:∀x∈a.toList,∀y,b.toList[0]?=some y->Le O key y x)(h:nb=1):wg O key a.toList b.toList (b.extract 0 nb++a.extract 0 na++p.reverse).toList:=by
 rw[nL];exact M.first hX hY hf h
def vS {p:Array Keyed}(M:MH O key a.toList b.toList na nb p.toList.reverse)(hX:a9 O key a.toList)(h0:0<na)(hx:a[na-1]?=some x)(h:∀y∈b.toList.take nb,Le O key y x):MH O key a.toList b.toList (na-1) nb (p.push x).toList.reverse:=by
 obtain⟨n,rfl⟩:∃n,na=n+1:=⟨na-1,by lia⟩;rw[WV,WQ];exact M.pushA hX (by simpa using hx) h
def lP {p:Array Keyed}(M:MH O key a.toList b.toList na nb p.toList.reverse)(hY:a9 O key b.toList)(h0:0<nb)(hy:b[nb-1]?=some y)(h:∀x∈a.toList.take na,Le O key x y):MH O key a.toList b.toList na (nb-1) (p.push y).toList.reverse:=by
 obtain⟨n,rfl⟩:∃n,nb=n+1:=⟨nb-1,by lia⟩;rw[WV,WQ];exact M.pushB hY (by simpa using hy) h
def nK(p a:Array Keyed)(i j:Nat):(p++(a.extract i j).reverse).toList.reverse=(a.toList.drop i).take (j-i)++p.toList.reverse:=by
 simp only[W8,Array.toList_reverse,Wy,Wo,WQ,List.reverse_reverse]
def DT (M:MH O key a.toList b.toList na nb p.toList.reverse)(hX:a9 O key a.toList)(ht:t<=na)(h:∀i,t<=i->i<na->∀x,a.toList[i]?=some x->∀y∈b.toList.take nb,Le O key y x):MH O key a.toList b.toList t nb (p++(a.extract t na).reverse).toList.reverse:=by
 rw[nK];exact MH.blockA hX (na-t) t (by rw[show t+(na-t)=na by lia];exact M) λi h1 h2=>h i h1 (by lia)
def rE (M:MH O key a.toList b.toList na nb p.toList.reverse)(hY:a9 O key b.toList)(ht:t<=nb)(h:∀i,t<=i->i<nb->∀y,b.toList[i]?=some y->∀x∈a.toList.take na,Le O key x y):MH O key a.toList b.toList na t (p++(b.extract t nb).reverse).toList.reverse:=by
 rw[nK];exact MH.blockB hY (nb-t) t (by rw[show t+(nb-t)=nb by lia];exact M) λi h1 h2=>h i h1 (by lia)
end
section
variable{O:Kr}{key:Keyed->O.α}{S:Keyed->Prop}{a b:Array Keyed}
variable{prog:IQ}{w:IR}{A:IV}{E:Value->Shared->Prop}{s:Shared}
noncomputable def Fe:Array Keyed->Array Keyed->StateT Ks Sem (Array Keyed):=sortPriv% PySem.Builtin.mergeHi
def qU (C:dW prog w A E s O key S){st:Ks}(hk:kindOf st=Kt)(hX:a9 O key a.toList)(hY:a9 O key b.toList)(hSa:∀x∈a.toList,S x)(hSb:∀x∈b.toList,S x)(hb0:0<b.size)(ha0:0<a.size)(hf:∀x∈a.toList,∀y,b.toList[0]?=some y->Le O key y x)(hl:∀y∈b.toList,∀x,a[a.size-1]?=some x->Le O key y x)(h:∀r st',Eqv st st'->wg O key a.toList b.toList r.toList->Q r st'):
  wpS (IY prog w) A E s (Fe a b) Q st:=by
 have atA:∀i,i<a.size->∃x,a[i]?=some x/\S x/\a.toList[i]?=some x:=λi hi=>⟨a[i],by simp[hi],hSa _ (by simp),by simp[hi]⟩;have atB:∀i,i<b.size->∃x,b[i]?=some x/\S x/\b.toList[i]?=some x:=λi hi=>⟨b[i],by simp[hi],hSb _ (by simp),by simp[hi]⟩;have gA:∀(ia:Nat) (v:Keyed) (i:Nat),ia+i<a.size->∃x,a[ia+i]?=some x/\S x/\(! O.blt (key v) (key (a.getD (ia+i) v)))=(if false=true then O.blt (key x) (key v)else ! O.blt (key v) (key x)):=by
  intro ia v i hi;obtain⟨x,hx,sx,_⟩:=atA (ia+i) hi;exact⟨x,hx,sx,by rw[Lq (by simp),Q3,hx];rfl⟩
 have gB:∀(ib:Nat) (u:Keyed) (i:Nat),ib+i<b.size->∃x,b[ib+i]?=some x/\S x/\O.blt (key (b.getD (ib+i) u)) (key u)=(if true=true then O.blt (key x) (key u)else ! O.blt (key u) (key x)):=by
  intro ib u i hi;obtain⟨x,hx,sx,_⟩:=atB (ib+i) hi;exact⟨x,hx,sx,by rw[Lp rfl,Q3,hx];rfl⟩
 have dA:∀(i:Nat) (v x:Keyed),a.toList[i]?=some x->a.getD i v=x:=λi v x hx=>by rw[Q3,<-QD,hx];rfl
 have dB:∀(i:Nat) (v x:Keyed),b.toList[i]?=some x->b.getD i v=x:=λi v x hx=>by rw[Q3,<-QD,hx];rfl
 have mA:∀(ia:Nat) (v:Keyed) (i j:Nat),i<=j->j<a.size-ia->(! O.blt (key v) (key (a.getD (ia+j) v)))=true->(! O.blt (key v) (key (a.getD (ia+i) v)))=true:=by
  intro ia v i j hij hj hB;obtain⟨x,hx,_,hx'⟩:=atA (ia+i) (by lia);obtain⟨y,hy,_,hy'⟩:=atA (ia+j) (by lia);rw[dA _ _ _ hy']at hB;rw[dA _ _ _ hx'];have e:Le O key x v:=Le.trans (hX.at_le (by lia) hx' hy') (show O.blt (key v) (key y)=false from by simpa using hB);simpa using (show O.blt (key v) (key x)=false from e)
 have mB:∀(ib:Nat) (u:Keyed) (i j:Nat),i<=j->j<b.size-ib->O.blt (key (b.getD (ib+j) u)) (key u)=true->O.blt (key (b.getD (ib+i) u)) (key u)=true:=by
  intro ib u i j hij hj hB;obtain⟨x,hx,_,hx'⟩:=atB (ib+i) (by lia);obtain⟨y,hy,_,hy'⟩:=atB (ib+j) (by lia);rw[dB _ _ _ hy']at hB;rw[dB _ _ _ hx'];exact KeyOrd.klt_of_kle_of_klt (hY.at_le (by lia) hx' hy') hB
 have lowT:∀(t:Nat) (v:Keyed),t<=a.size->(∀i,i<t->(! O.blt (key v) (key (a.getD (0+i) v)))=true)->∀x∈a.toList.take t,Le O key x v:=by
  intro t v ht hB x hx;obtain⟨i,hi⟩:=Qw hx;have hlt:=(Qa.mp hi).1;rw[QR]at hlt;rw[Qv (by lia)]at hi;have:=hB i (by lia);rw[W0,dA _ _ _ hi]at this;exact(show O.blt (key v) (key x)=false from by simpa using this)
 have highT:∀(t n:Nat) (v:Keyed),(∀i,t<=i->i<n->(! O.blt (key v) (key (a.getD (0+i) v)))=false)->∀i,t<=i->i<n->∀x,a.toList[i]?=some x->Le O key v x:=by
  intro t n v hB i h1 h2 x hx;have:=hB i h1 h2;rw[W0,dA _ _ _ hx]at this;exact KeyOrd.kle_of_klt (show O.blt (key v) (key x)=true from by simpa using this)
 have lowU:∀(t:Nat) (u:Keyed),t<=b.size->(∀i,i<t->O.blt (key (b.getD (0+i) u)) (key u)=true)->∀y∈b.toList.take t,Le O key y u:=by
  intro t u ht hB x hx;obtain⟨i,hi⟩:=Qw hx;have hlt:=(Qa.mp hi).1;rw[QR]at hlt;rw[Qv (by lia)]at hi;have:=hB i (by lia);rw[W0,dB _ _ _ hi]at this;exact KeyOrd.kle_of_klt this
 have highU:∀(t n:Nat) (u:Keyed),(∀i,t<=i->i<n->O.blt (key (b.getD (0+i) u)) (key u)=false)->∀i,t<=i->i<n->∀y,b.toList[i]?=some y->Le O key u y:=by
  intro t n u hB i h1 h2 x hx;have:=hB i h1 h2;rw[W0,dB _ _ _ hx]at this;exact this
 have upB:∀(n:Nat) (v:Keyed),0<n->b.toList[n-1]?=some v->∀y∈b.toList.take n,Le O key y v:=by
  intro n v h0 hv;have:=hY.take_le hv
  rwa[show n-1+1=n by lia]at this
 have upA:∀(n:Nat) (v:Keyed),0<n->a.toList[n-1]?=some v->∀y∈a.toList.take n,Le O key y v:=by
  intro n v h0 hv;have:=hX.take_le hv
  rwa[show n-1+1=n by lia]at this
 obtain⟨x0,hx0,_,hx0'⟩:=atA (a.size-1) (by lia);refine Kv (KB (Ki ⟨rfl,?_⟩));refine Kv (zi hx0 ?_);dsimp only;have M0:MH O key a.toList b.toList (a.size-1) b.size (#[x0]:Array Keyed).toList.reverse:=by
  have e:MH O key a.toList b.toList a.size b.size (#[]:Array Keyed).toList.reverse:=⟨by simp,by simp,by simp,by simp[a9],by simp,by simp⟩;exact vS e hX ha0 hx0 (λy hy=>hl y (Wc hy) x0 hx0)
 by_cases c1:a.size-1=0
 .rw[Lp (by simpa using c1)];exact Ku (h _ _ (.refl _) (vB M0 hX hY (.inl c1)))
 rw[Lq (by simpa using c1)];by_cases c2:b.size=1
 .rw[Lp (by simpa using c2)];exact Ku (h _ _ (.refl _) (vR M0 hX hY hf c2))
 rw[Lq (by simpa using c2)];refine Kv (KC ?_);refine Kv (Kw (Kx (I:=λx c st'=>Eqv st st'/\∃na nb out mg,c=(none,na,nb,out,mg)/\MH O key a.toList b.toList na nb out.toList.reverse/\0<na/\1<nb/\na+nb+x+1<=a.size+b.size)
  (Q:=λc st'=>Eqv st st'/\∃r na nb out mg,c=(some r,na,nb,out,mg)/\wg O key a.toList b.toList r.toList) ?s1 ?f1 ⟨.refl _,_,_,_,_,rfl,M0,by lia,by lia,by lia⟩) ?p1)
 case p1=>
  rintro c st' ⟨hE,r,na,nb,out,mg,rfl,hg⟩;exact Ku (h _ _ hE hg)
 case f1=>
  rintro c st' ⟨hE,na,nb,out,mg,rfl,M,h1,h2,h3⟩;lia
 case s1=>
  rintro x0 c st0 _ hx0 ⟨hE0,na0,nb0,out0,mg0,rfl,M00,h10,h20,h30⟩;dsimp only;refine Kv (Kw (Kx (I:=λx c st'=>Eqv st st'/\∃na nb out ac bc,c=(none,na,nb,out,ac,bc)/\MH O key a.toList b.toList na nb out.toList.reverse/\0<na/\1<nb/\na+nb+(x0+1)+x<=a.size+b.size)
   (Q:=λc st'=>Eqv st st'/\((∃r na nb out ac bc,c=(some r,na,nb,out,ac,bc)/\wg O key a.toList b.toList r.toList)\/∃na nb out ac bc,c=(none,na,nb,out,ac,bc)/\MH O key a.toList b.toList na nb out.toList.reverse/\0<na/\1<nb/\na+nb+x0+2<=a.size+b.size)) ?s2 ?f2 ⟨hE0,_,_,_,_,_,rfl,M00,h10,h20,h30⟩) ?p2)
  case f2=>
   rintro c st' ⟨hE,na,nb,out,ac,bc,rfl,M,h1,h2,h3⟩;exact⟨hE,.inr ⟨na,nb,out,ac,bc,rfl,M,h1,h2,by lia⟩⟩
  case s2=>
   rintro x c st' _ hx ⟨hE,na,nb,out,ac,bc,rfl,M,h1,h2,h3⟩;have hna:na<=a.size:=M.ha;have hnb:nb<=b.size:=M.hb;dsimp only;obtain⟨u,hu,su,hu'⟩:=atA (na-1) (by lia);obtain⟨v,hv,sv,hv'⟩:=atB (nb-1) (by lia);refine Kv (zi hv (Kv (zi hu (Kv (C v u st' _ sv su (hE.1.trans hk) ?_)))));dsimp only;cases hc:O.blt (key v) (key u)with
   |true=>
    rw[Lp rfl];have M2:=vS M hX h1 hu (λy hy=>Le.trans (upB nb v (by lia) hv' y hy) (KeyOrd.kle_of_klt hc));refine Kv (zi hu ?_);by_cases c1:na-1=0
    .rw[Lp (by simpa using c1)];exact Ku ⟨hE,.inl ⟨_,_,_,_,_,_,rfl,vB M2 hX hY (.inl c1)⟩⟩
    .rw[Lq (by simpa using c1)];split
     .exact Ku ⟨hE,.inr ⟨_,_,_,_,_,rfl,M2,by lia,by lia,by lia⟩⟩
     .exact Ku ⟨hE,_,_,_,_,_,rfl,M2,by lia,by lia,by lia⟩
   |false=>
    rw[Lq (by simp)];have M2:=lP M hY (by lia) hv (λx hx=>Le.trans (upA na u h1 hu' x hx) (show Le O key u v from hc));refine Kv (zi hv ?_);by_cases c1:nb-1=1
    .rw[Lp (by simpa using c1)];exact Ku ⟨hE,.inl ⟨_,_,_,_,_,_,rfl,vR M2 hX hY hf c1⟩⟩
    .rw[Lq (by simpa using c1)];split
     .exact Ku ⟨hE,.inr ⟨_,_,_,_,_,rfl,M2,by lia,by lia,by lia⟩⟩
     .exact Ku ⟨hE,_,_,_,_,_,rfl,M2,by lia,by lia,by lia⟩
  case p2=>
   rintro c st1 ⟨hE1,⟨r,na,nb,out,ac,bc,rfl,hg⟩|⟨na1,nb1,out1,ac1,bc1,rfl,M1,h11,h21,h31⟩⟩
   .exact Ku ⟨hE1,r,na,nb,out,_,rfl,hg⟩
   dsimp only;refine Kv (KB (Ki ⟨rfl,?_⟩));refine Kv (Kw (Kx (I:=λx c st'=>Eqv st st'/\∃na nb out mg ac bc,c=(none,na,nb,out,mg,ac,bc)/\MH O key a.toList b.toList na nb out.toList.reverse/\0<na/\1<nb/\na+nb+x0+2<=a.size+b.size)
    (Q:=λc st'=>Eqv st st'/\((∃r na nb out mg ac bc,c=(some r,na,nb,out,mg,ac,bc)/\wg O key a.toList b.toList r.toList)\/∃na nb out mg ac bc,c=(none,na,nb,out,mg,ac,bc)/\MH O key a.toList b.toList na nb out.toList.reverse/\0<na/\1<nb/\na+nb+x0+2<=a.size+b.size)) ?s3 ?f3 ⟨hE1,_,_,_,_,_,_,rfl,M1,h11,h21,h31⟩) ?p3)
   case f3=>
    rintro c st' ⟨hE,na,nb,out,mg,ac,bc,rfl,M,h1,h2,h3⟩;exact⟨hE,.inr ⟨na,nb,out,mg,ac,bc,rfl,M,h1,h2,h3⟩⟩
   case p3=>
    rintro c st' ⟨hE,⟨r,na,nb,out,mg,ac,bc,rfl,hg⟩|⟨na,nb,out,mg,ac,bc,rfl,M,h1,h2,h3⟩⟩
    .exact Ku ⟨hE,r,na,nb,out,_,rfl,hg⟩
    .dsimp only;refine Kv (KD ?_);exact Ku ⟨hE,_,_,_,_,rfl,M,h1,h2,by lia⟩
   case s3=>
    rintro x c st' _ hx ⟨hE,na,nb,out,mg,ac,bc,rfl,M,h1,h2,h3⟩;have hna:na<=a.size:=M.ha;have hnb:nb<=b.size:=M.hb;dsimp only;obtain⟨v,hv,sv,hv'⟩:=atB (nb-1) (by lia);by_cases cm:mg > 1
    all_goals
     first|rw[Lp cm]|rw[Lq cm]
     refine Kv (KD ?_);refine Kv (zi hv ?_);refine Kv (yc C (st:=_) (hE.1.trans hk) sv (by lia) (λi=>! O.blt (key v) (key (a.getD (0+i) v))) (λi hi=>gA 0 v i (by lia)) (λi j q1 q2=>mA 0 v i j q1 (by lia)) (λt k1 k2 k3=>?_));dsimp only;by_cases c1:na-t > 0
     .rw[Lp c1];have M2:=DT M hX k1 (λi q1 q2 x hx y hy=>Le.trans (upB nb v (by lia) hv' y hy) (highT t _ v k3 i q1 q2 x hx));by_cases c2:t=0
      .rw[Lp (by simpa using c2)];exact Ku ⟨hE,.inl ⟨_,_,_,_,_,_,_,rfl,vB M2 hX hY (.inl c2)⟩⟩
      rw[Lq (by simpa using c2)];have M3:=lP M2 hY (by lia) hv (lowT t v (by lia) k2);refine Kv (zi hv ?_);by_cases c3:nb-1=1
      .rw[Lp (by simpa using c3)];exact Ku ⟨hE,.inl ⟨_,_,_,_,_,_,_,rfl,vR M3 hX hY hf c3⟩⟩
      rw[Lq (by simpa using c3)];obtain⟨u,hu,su,hu'⟩:=atA (t-1) (by lia);refine Kv (zi hu ?_);refine Kv (yc C (st:=_) (hE.1.trans hk) su (by lia) (λi=>O.blt (key (b.getD (0+i) u)) (key u)) (λi hi=>gB 0 u i (by lia)) (λi j q1 q2=>mB 0 u i j q1 (by lia)) (λt' k1' k2' k3'=>?_));dsimp only;by_cases c5:nb-1-t' > 0
      .rw[Lp c5];have M4:=rE M3 hY k1' (λi q1 q2 y hy x hx=>Le.trans (upA t u (by lia) hu' x hx) (highU t' _ u k3' i q1 q2 y hy));by_cases c6:t'=1
       .rw[Lp (by simpa using c6)];exact Ku ⟨hE,.inl ⟨_,_,_,_,_,_,_,rfl,vR M4 hX hY hf c6⟩⟩
       rw[Lq (by simpa using c6)];by_cases c7:t'=0
       .rw[Lp (by simpa using c7)];exact Ku ⟨hE,.inl ⟨_,_,_,_,_,_,_,rfl,vB M4 hX hY (.inr c7)⟩⟩
       rw[Lq (by simpa using c7)];have M5:=vS M4 hX (by lia) hu (lowU t' u (by lia) k2');refine Kv (zi hu ?_);by_cases c8:t-1=0
       .rw[Lp (by simpa using c8)];exact Ku ⟨hE,.inl ⟨_,_,_,_,_,_,_,rfl,vB M5 hX hY (.inl c8)⟩⟩
       .rw[Lq (by simpa using c8)];split
        .exact Ku ⟨hE,.inr ⟨_,_,_,_,_,_,rfl,M5,by lia,by lia,by lia⟩⟩
        .exact Ku ⟨hE,_,_,_,_,_,_,rfl,M5,by lia,by lia,by lia⟩
      .rw[Lq c5];have M5:=vS M3 hX (by lia) hu (lowU (nb-1) u (by lia) (λi q=>k2' i (by lia)));refine Kv (zi hu ?_);by_cases c8:t-1=0
       .rw[Lp (by simpa using c8)];exact Ku ⟨hE,.inl ⟨_,_,_,_,_,_,_,rfl,vB M5 hX hY (.inl c8)⟩⟩
       .rw[Lq (by simpa using c8)];split
        .exact Ku ⟨hE,.inr ⟨_,_,_,_,_,_,rfl,M5,by lia,by lia,by lia⟩⟩
        .exact Ku ⟨hE,_,_,_,_,_,_,rfl,M5,by lia,by lia,by lia⟩
     .rw[Lq c1];have M2:=M
      replace k2:∀i,i<na->(! O.blt (key v) (key (a.getD (0+i) v)))=true:=λi q=>k2 i (by lia)
      have M3:=lP M2 hY (by lia) hv (lowT na v (by lia) k2);refine Kv (zi hv ?_);by_cases c3:nb-1=1
      .rw[Lp (by simpa using c3)];exact Ku ⟨hE,.inl ⟨_,_,_,_,_,_,_,rfl,vR M3 hX hY hf c3⟩⟩
      rw[Lq (by simpa using c3)];obtain⟨u,hu,su,hu'⟩:=atA (na-1) (by lia);refine Kv (zi hu ?_);refine Kv (yc C (st:=_) (hE.1.trans hk) su (by lia) (λi=>O.blt (key (b.getD (0+i) u)) (key u)) (λi hi=>gB 0 u i (by lia)) (λi j q1 q2=>mB 0 u i j q1 (by lia)) (λt' k1' k2' k3'=>?_));dsimp only;by_cases c5:nb-1-t' > 0
      .rw[Lp c5];have M4:=rE M3 hY k1' (λi q1 q2 y hy x hx=>Le.trans (upA na u (by lia) hu' x hx) (highU t' _ u k3' i q1 q2 y hy));by_cases c6:t'=1
       .rw[Lp (by simpa using c6)];exact Ku ⟨hE,.inl ⟨_,_,_,_,_,_,_,rfl,vR M4 hX hY hf c6⟩⟩
       rw[Lq (by simpa using c6)];by_cases c7:t'=0
       .rw[Lp (by simpa using c7)];exact Ku ⟨hE,.inl ⟨_,_,_,_,_,_,_,rfl,vB M4 hX hY (.inr c7)⟩⟩
       rw[Lq (by simpa using c7)];have M5:=vS M4 hX (by lia) hu (lowU t' u (by lia) k2');refine Kv (zi hu ?_);by_cases c8:na-1=0
       .rw[Lp (by simpa using c8)];exact Ku ⟨hE,.inl ⟨_,_,_,_,_,_,_,rfl,vB M5 hX hY (.inl c8)⟩⟩
       .rw[Lq (by simpa using c8)];split
        .exact Ku ⟨hE,.inr ⟨_,_,_,_,_,_,rfl,M5,by lia,by lia,by lia⟩⟩
        .exact Ku ⟨hE,_,_,_,_,_,_,rfl,M5,by lia,by lia,by lia⟩
      .rw[Lq c5];have M5:=vS M3 hX (by lia) hu (lowU (nb-1) u (by lia) (λi q=>k2' i (by lia)));refine Kv (zi hu ?_);by_cases c8:na-1=0
       .rw[Lp (by simpa using c8)];exact Ku ⟨hE,.inl ⟨_,_,_,_,_,_,_,rfl,vB M5 hX hY (.inl c8)⟩⟩
       .rw[Lq (by simpa using c8)];split
        .exact Ku ⟨hE,.inr ⟨_,_,_,_,_,_,rfl,M5,by lia,by lia,by lia⟩⟩
        .exact Ku ⟨hE,_,_,_,_,_,_,rfl,M5,by lia,by lia,by lia⟩
end
section
variable{O:Kr}{key:Keyed->O.α}{S:Keyed->Prop}
theorem rD:∀(l:List Keyed) (n sa:Nat) (xs:Array Keyed),sa+n+l.length<=xs.size ->
  ((l.zipIdx n).foldl (λ(a:Array Keyed) (pj:Keyed×Nat)=>a.setIfInBounds (sa+pj.2) pj.1) xs).toList=xs.toList.take (sa+n)++l++xs.toList.drop (sa+n+l.length)
 |[],n,sa,xs,h=>by simp
 |x::l,n,sa,xs,h=>by
  rw[VD,List.foldl_cons];have hl:sa+n<xs.toList.length:=by simp at h ⊢;lia
  rw[rD l (n+1) sa _ (by simp at h ⊢;lia)];rw[VN];have e1:(xs.toList.set (sa+n) x).take (sa+(n+1))=xs.toList.take (sa+n)++[x]:=by
   rw[show sa+(n+1)=sa+n+1 by lia,yd (x:=x) (by rw[Wj hl]),List.take_set_of_le (Qg _)]
  have e2:(xs.toList.set (sa+n) x).drop (sa+(n+1)+l.length)=xs.toList.drop (sa+n+(x::l).length):=by
   rw[List.drop_set_of_lt (by lia),show sa+(n+1)+l.length=sa+n+(x::l).length by simp;lia]
  rw[e1,e2];simp
variable{prog:IQ}{w:IR}{A:IV}{E:Value->Shared->Prop}{s:Shared}
structure Ok(O:Kr)(key:Keyed->O.α)(S:Keyed->Prop)(st:Ks)(pend:List (Nat×Nat×Nat))(l:List Keyed):Prop where
 kind:kindOf st=Kt
 failed:KA st=none
 pend:(Kz st).toList=pend
 arr:(Ky st).toList=l
 all:∀x∈l,S x
def gT {V:List Keyed}(hU:a9 O key U)(hV:a9 O key V)(h:∀x y,U[U.length-1]?=some x->V[0]?=some y->Le O key x y):a9 O key (U++V):=by
 refine zX hU hV λx hx y hy=>?_;obtain⟨i,hi⟩:=Qw hx;obtain⟨j,hj⟩:=Qw hy;have h1:=(Qa.mp hi).1;have h2:=(Qa.mp hj).1;have a1:U[U.length-1]?=some (U[U.length-1]'(by lia)):=by simp
 have a2:V[0]?=some (V[0]'(by lia)):=by simp
 exact((hU.at_le (by lia) hi a1).trans (h _ _ a1 a2)).trans (hV.at_le (by lia) a2 hj)
def DS {st:Ks}(h:Q ⟨⟩ x):wpS (IY prog w) A E s (set x:StateT Ks Sem PUnit) Q st:=by
 unfold wpS;rw[StateT.run_set];exact Jp ⟨rfl,h⟩
def Fd:Nat->StateT Ks Sem Bool:=sortPriv% PySem.Builtin.mergeAt
def qV (C:dW prog w A E s O key S){st:Ks}{V:List Keyed}(K:Ok O key S st (p1++(sa,na,po)::(sb,nb,po2)::p2) (P++(U++(V++R))))(hsa:sa=P.length)(hna:na=U.length)(hsb:sb=P.length+U.length)(hnb:nb=V.length)(hU0:0<U.length)(hV0:0<V.length)(hU:a9 O key U)(hV:a9 O key V)(h:∀st' W,Ok O key S st' (p1++(sa,na+nb,po)::p2) (P++(W++R))->a9 O key W->W.Perm (U++V)->Q true st'):
  wpS (IY prog w) A E s (Fd p1.length) Q st:=by
 have e1:(Kz st)[p1.length]?=some (sa,na,po):=by rw[<-QD,K.pend];simp
 have e2:(Kz st)[p1.length+1]?=some (sb,nb,po2):=by rw[<-QD,K.pend];simp
 have hp:(((Kz st).setIfInBounds p1.length (sa,na+nb,po)).eraseIdxIfInBounds (p1.length+1)).toList=p1++(sa,na+nb,po)::p2:=by
  rw[Array.toList_eraseIdxIfInBounds,VN,K.pend];simp[List.set_append,List.eraseIdx_append];intro hh;lia
 have atU:∀i,i<U.length->(Ky st)[P.length+i]?=U[i]?:=λi hi=>by
  rw[<-QD,K.arr,Qd (by lia),show P.length+i-P.length=i by lia,Qf hi]
 have atV:∀i,i<V.length->(Ky st)[P.length+U.length+i]?=V[i]?:=λi hi=>by
  rw[<-QD,K.arr,Qd (by lia),Qd (by lia),show P.length+U.length+i-P.length-U.length=i by lia,Qf hi]
 refine Kv (KC ?_);dsimp only;rw[e1,e2];dsimp only;refine Kv (DS ?_);have K1:Ok O key S (SortSt.mk' (kindOf st) (Ky st) (((Kz st).setIfInBounds p1.length (sa,na+nb,po)).eraseIdxIfInBounds (p1.length+1)) (KF st) (KA st)) (p1++(sa,na+nb,po)::p2) (P++(U++(V++R))):=⟨K.kind,K.failed,hp,K.arr,K.all⟩;have whole:a9 O key (U++V)->Q true (SortSt.mk' (kindOf st) (Ky st) (((Kz st).setIfInBounds p1.length (sa,na+nb,po)).eraseIdxIfInBounds (p1.length+1)) (KF st) (KA st)):=λhs=>by
  refine h _ (U++V) ?_ hs (.refl _);rw[Qj];exact K1
 have sU:∀x∈U,S x:=λx hx=>K.all x (by simp[hx]);have sV:∀x∈V,S x:=λx hx=>K.all x (by simp[hx]);have gU:∀i,i<U.length->∃x,U[i]?=some x/\S x:=λi hi=>⟨U[i],by simp[hi],sU _ (by simp)⟩;have gV:∀i,i<V.length->∃x,V[i]?=some x/\S x:=λi hi=>⟨V[i],by simp[hi],sV _ (by simp)⟩;obtain⟨v0,hv0,sv0⟩:=gV 0 hV0;obtain⟨u1,hu1,su1⟩:=gU (U.length-1) (by lia);subst hsa hna hsb hnb;have hel:(Ky st)[P.length+U.length]?=some v0:=by have:=atV 0 hV0;rw[Nat.add_zero]at this;rw[this,hv0]
 refine Kv (zi hel ?_);refine Kv (yc C (left:=false) K.kind sv0 hU0 (λi=>! O.blt (key v0) (key (U.getD i v0))) (λi hi=>?g1) ?m1 (λk k1 k2 k3=>?c1))
 case g1=>
  obtain⟨x,hx,sx⟩:=gU i hi;exact⟨x,by rw[<-hx];exact atU i hi,sx,by rw[Lq (by simp),Qn,hx];rfl⟩
 case m1=>
  intro i j hij hj hB;obtain⟨x,hx,_⟩:=gU i (by lia);obtain⟨y,hy,_⟩:=gU j hj;simp only[Qn,hx,hy,Wp]at hB ⊢;have e:Le O key x v0:=Le.trans (hU.at_le hij hx hy) (show O.blt (key v0) (key y)=false from by simpa using hB);simpa using (show O.blt (key v0) (key x)=false from e)
 have lowU:∀i x,i<k->U[i]?=some x->Le O key x v0:=λi x hi hx=>by
  have:=k2 i hi;simp only[Qn,hx,Wp]at this;exact(show O.blt (key v0) (key x)=false from by simpa using this)
 have highU:∀i x,k<=i->U[i]?=some x->Le O key v0 x:=λi x hi hx=>by
  have:=k3 i hi (Qa.mp hx).1;simp only[Qn,hx,Wp]at this;exact KeyOrd.kle_of_klt (show O.blt (key v0) (key x)=true from by simpa using this)
 dsimp only;by_cases c1:U.length-k=0
 .rw[Lp (by simpa using c1)];refine Ku (whole (gT hU hV λx y hx hy=>?_));rw[hv0]at hy;cases hy;exact lowU _ x (by lia) hx
 rw[Lq (by simpa using c1)];have hel2:(Ky st)[P.length+k+(U.length-k)-1]?=some u1:=by
  rw[<-hu1,<-atU (U.length-1) (by lia)];congr 1;lia
 refine Kv (zi hel2 ?_);refine Kv (yc C (left:=true) K.kind su1 (by lia) (λi=>O.blt (key (V.getD i u1)) (key u1)) (λi hi=>?g2) ?m2 (λn2 q1 q2 q3=>?c2))
 case g2=>
  obtain⟨x,hx,sx⟩:=gV i hi;exact⟨x,by rw[<-hx];exact atV i hi,sx,by rw[Lp rfl,Qn,hx];rfl⟩
 case m2=>
  intro i j hij hj hB;obtain⟨x,hx,_⟩:=gV i (by lia);obtain⟨y,hy,_⟩:=gV j hj;simp only[Qn,hx,hy,Wp]at hB ⊢;exact KeyOrd.klt_of_kle_of_klt (hV.at_le hij hx hy) hB
 have lowV:∀i y,i<n2->V[i]?=some y->Le O key y u1:=λi y hi hy=>by
  have:=q2 i hi;simp only[Qn,hy,Wp]at this;exact KeyOrd.kle_of_klt this
 have highV:∀i y,n2<=i->V[i]?=some y->Le O key u1 y:=λi y hi hy=>by
  have:=q3 i hi (Qa.mp hy).1;simp only[Qn,hy,Wp]at this;exact this
 dsimp only;by_cases c2:n2=0
 .rw[Lp (by simpa using c2)];refine Ku (whole (gT hU hV λx y hx hy=>?_));rw[hu1]at hx;cases hx;exact highV 0 y (by lia) hy
 rw[Lq (by simpa using c2)];have hx:((Ky st).extract (P.length+k) (P.length+U.length)).toList=U.drop k:=by
  rw[Wy,Wo,K.arr,VF,WG (by lia),Wm,show P.length+k-P.length=k by lia,VI (by lia)];rw[Wh (by simp;lia),Wt (by simp;lia)]
 have hy:((Ky st).extract (P.length+U.length) (P.length+U.length+n2)).toList=V.take n2:=by
  rw[Wy,Wo,K.arr,<-Qj,VF,WG (by simp),Wm,show P.length+U.length-(P++U).length=0 by simp,Vz,show P.length+U.length+n2-(P.length+U.length)=n2 by lia];rw[Wh q1]
 have hsx:((Ky st).extract (P.length+k) (P.length+U.length)).size=U.length-k:=by rw[<-QT,hx,WP]
 have hsy:((Ky st).extract (P.length+U.length) (P.length+U.length+n2)).size=n2:=by rw[<-QT,hy,QR];lia
 have lastx:∀x,(U.drop k)[U.length-k-1]?=some x->x=u1:=λx hh=>by
  rw[Q9,show k+(U.length-k-1)=U.length-1 by lia,hu1]at hh;cases hh;rfl
 have firsty:∀y,(V.take n2)[0]?=some y->y=v0:=λy hh=>by
  rw[Qv (by lia),hv0]at hh;cases hh;rfl
 have dropU:∀x∈U.drop k,Le O key v0 x:=λx hh=>by
  obtain⟨i,hi⟩:=Qw hh;rw[Q9]at hi;exact highU (k+i) x (by lia) hi
 have takeV:∀y∈V.take n2,Le O key y u1:=λy hh=>by
  obtain⟨i,hi⟩:=Qw hh;have hlt:=(Qa.mp hi).1;rw[QR]at hlt;rw[Qv (by lia)]at hi;exact lowV i y (by lia) hi
 have fin:∀(r:Array Keyed) (st':Ks),Eqv (SortSt.mk' (kindOf st) (Ky st) (((Kz st).setIfInBounds p1.length (P.length,U.length+V.length,po)).eraseIdxIfInBounds (p1.length+1)) (KF st) (KA st)) st'->wg O key (U.drop k) (V.take n2) r.toList ->
   Q (KA st').isNone (SortSt.mk' (kindOf st') (r.toList.zipIdx.foldl (λ(a:Array Keyed) (pj:Keyed×Nat)=>a.setIfInBounds (P.length+k+pj.2) pj.1) (Ky st')) (Kz st') (KF st') (KA st')):=by
  intro r st' hE hg;obtain⟨E1,E2,E3,E4⟩:=hE;have hf:KA st'=none:=E4.trans K.failed;rw[show(KA st').isNone=true by rw[hf];rfl];have hlen:r.toList.length=U.length-k+n2:=by rw[hg.2.length_eq,QH,WP,QR];lia
  refine h _ (U.take k++r.toList++V.drop n2) ⟨E1.trans K.kind,hf,?_,?_,?_⟩ ?_ ?_
  .show (Kz st').toList=_;rw[E3];exact hp
  .show (r.toList.zipIdx.foldl _ (Ky st')).toList=_;have E2':Ky st'=Ky st:=E2;rw[E2',rD r.toList 0 (P.length+k) _ (by rw[<-QT,K.arr,hlen];simp;lia),K.arr,hlen];have t1:(P++(U++(V++R))).take (P.length+k+0)=P++U.take k:=by
    rw[Nat.add_zero,List.take_append,Wt (by lia),show P.length+k-P.length=k by lia,Wh (by lia)]
   have t2:(P++(U++(V++R))).drop (P.length+k+0+(U.length-k+n2))=V.drop n2++R:=by
    rw[<-Qj,<-Qj,VI (by simp;lia),VF,WG (by simp;lia),Wm];congr 2;simp;lia
   rw[t1,t2];simp
  .intro x hx';have m1:∀z∈r.toList,z∈U\/z∈V:=λz hz=>by
    have:=hg.2.mem_iff.mp hz;rcases Qx.mp this with q|q
    .exact .inl (Wr q)
    .exact .inr (Wc q)
   simp only[Qx]at hx';rcases hx' with q|((q|q)|q)|q
   .exact K.all x (by simp[q])
   .exact sU x (Wc q)
   .rcases m1 x q with q|q
    .exact sU x q
    .exact sV x q
   .exact sV x (Wr q)
   .exact K.all x (by simp[q])
  .have uV:∀x∈U,Le O key x u1:=λx hx'=>by
    have:=hU.take_le hu1 x (by rw[show U.length-1+1=U.length by lia,Vm];exact hx');exact this
   have vV:∀y∈V,Le O key v0 y:=λy hy'=>hV.drop_le hv0 y (by simpa using hy');have tU:∀x∈U.take k,Le O key x v0:=λx hh=>by
    obtain⟨i,hi⟩:=Qw hh;have hlt:=(Qa.mp hi).1;rw[QR]at hlt;rw[Qv (by lia)]at hi;exact lowU i x (by lia) hi
   have dV:∀y∈V.drop n2,Le O key u1 y:=λy hh=>by
    obtain⟨i,hi⟩:=Qw hh;rw[Q9]at hi;exact highV (n2+i) y (by lia) hi
   refine zX (zX (hU.sublist (Wi _ _)) hg.1 λx hx' z hz=>?_) (hV.sublist (Wk _ _)) λx hx' y hy'=>?_
   .rcases Qx.mp (hg.2.mem_iff.mp hz)with q|q
    .exact (tU x hx').trans (dropU z q)
    .exact (tU x hx').trans (vV z (Wc q))
   .rcases Qx.mp hx' with q|q
    .exact (uV x (Wc q)).trans (dV y hy')
    .rcases Qx.mp (hg.2.mem_iff.mp q)with q|q
     .exact (uV x (Wr q)).trans (dV y hy')
     .exact (takeV x q).trans (dV y hy')
  .refine ((hg.2.append_left _).append_right _).trans ?_;rw[<-Qj,QK,Qj,QK]
 by_cases c3:U.length-k<=n2
 .rw[Lp c3];refine Kv (qT C K.kind (by rw[hx];exact hU.sublist (Wk _ _)) (by rw[hy];exact hV.sublist (Wi _ _)) (by rw[hx];exact λx q=>sU x (Wr q)) (by rw[hy];exact λx q=>sV x (Wc q)) (by rw[hsy];lia) (by rw[hsx];lia) ?_ ?_ (λr st' hE hg=>?_))
  .rw[hx];intro x hx' y hy';rw[<-QD,hy]at hy';rw[firsty y hy'];exact dropU x hx'
  .rw[hx,hy];intro y hy' x hx';rw[WP]at hx';rw[lastx x hx'];exact takeV y hy'
  .rw[hx,hy]at hg;exact Kv (KD (Kv (KC (Ku (fin r st' hE hg)))))
 .rw[Lq c3];refine Kv (qU C K.kind (by rw[hx];exact hU.sublist (Wk _ _)) (by rw[hy];exact hV.sublist (Wi _ _)) (by rw[hx];exact λx q=>sU x (Wr q)) (by rw[hy];exact λx q=>sV x (Wc q)) (by rw[hsy];lia) (by rw[hsx];lia) ?_ ?_ (λr st' hE hg=>?_))
  .rw[hx,hy];intro x hx' y hy';rw[firsty y hy'];exact dropU x hx'
  .rw[hy,hsx];intro y hy' x hx';rw[<-QD,hx]at hx';rw[lastx x hx'];exact takeV y hy'
  .rw[hx,hy]at hg;exact Kv (KD (Kv (KC (Ku (fin r st' hE hg)))))
end
section
variable{O:Kr}{key:Keyed->O.α}{S:Keyed->Prop}
variable{prog:IQ}{w:IR}{A:IV}{E:Value->Shared->Prop}{s:Shared}
def xK (C:dW prog w A E s O key S){st:Ks}(K:Ok O key S st pend l)(hi:l[i]?=some x)(hj:l[j]?=some y)(q:Q (some (O.blt (key x) (key y))) st):
  wpS (IY prog w) A E s (ltAt' i j) Q st:=by
 rw[ltAt'_eq];refine Kv (KC ?_);refine Kv (zi (by rw[<-QD,K.arr];exact hi) (Kv (zi (by rw[<-QD,K.arr];exact hj) ?_)));exact C x y st _ (K.all x (Qr hi)) (K.all y (Qr hj)) K.kind q
def dP(O:Kr)(key:Keyed->O.α)(l:List Keyed):Prop:=(l.map key).Nodup
def dP.at (h:dP O key l){j:Nat}(hij:i≠j)(hx:l[i]?=some x)(hy:l[j]?=some y)(hb:O.blt (key x) (key y)=false):O.blt (key y) (key x)=true:=by
 cases z:O.blt (key y) (key x)with
 |true=>rfl
 |false=>
  exfalso;have e:=O.total _ _ hb z;obtain⟨hi,rfl⟩:=Qa.mp hx;obtain⟨hj,rfl⟩:=Qa.mp hy;rcases Nat.lt_or_gt_of_ne hij with q|q
  .have:=(Wn.mp h) i j (by simpa using hi) (by simpa using hj) q;exact this (by simpa using e)
  .have:=(Wn.mp h) j i (by simpa using hj) (by simpa using hi) q;exact this (by simpa using e.symm)
def dP.perm{l r:List Keyed}(h:dP O key l)(p:r.Perm l):dP O key r:=(p.map key).nodup_iff.mpr h
def dP.right{l r:List Keyed}(h:dP O key (l++r)):dP O key r:=by
 unfold dP at h ⊢;rw[WI]at h;exact(QQ.mp h).2.1
def Fc {T:List Keyed}(h:a9 O key (T.take x))(h1:1<=x)(hu:T[x]?=some u)(hv:T[x-1]?=some v)(hl:Le O key v u):a9 O key (T.take (x+1)):=by
 rw[yd hu];refine gT h (by simp[a9]) λp q hp hq=>?_;have hx:=(Qa.mp hu).1;rw[QR,Nat.min_eq_left (by lia),Qv (by lia),hv]at hp;cases hp;simp at hq;rw[<-hq];exact hl
def Gc {T:List Keyed}(h:xs.toList=P++T)(n:Nat)(hn:n<=T.length):(mirror xs P.length (P.length+n) ((P.length+n-P.length)/2)).toList=P++((T.take n).reverse++T.drop n):=by
 have hs:xs.size=P.length+T.length:=by rw[<-QT,h,QH]
 apply WZ;intro k;rw[QD,getElem?_mirror_all (by lia)];by_cases c:P.length<=k/\k<P.length+n
 .rw[Lp c,<-QD,h,Qd (by lia),Qd (by lia),Qf (by simp;lia),W1 (by simp;lia),Qv (by simp;lia)];congr 1;simp;lia
 .rw[Lq c,<-QD,h];by_cases c2:k<P.length
  .rw[Qf c2,Qf c2]
  .rw[Qd (by lia),Qd (by lia),Qd (by simp;lia),Q9];congr 1;simp;lia
def gW (C:dW prog w A E s O key S){st:Ks}(K:Ok O key S st pend (P++T))(h0:0<T.length)(hd:dP O key T)(h:∀st' U R,Ok O key S st' pend (P++(U++R))->a9 O key U->(U++R).Perm T->0<U.length->Q (some U.length) st'):
  wpS (IY prog w) A E s (countRun' P.length T.length) Q st:=by
 have fin:∀{st':Ks}{T':List Keyed}{n:Nat},Ok O key S st' pend (P++T')->T'.Perm T->1<=n->n<=T'.length->a9 O key (T'.take n)->Q (some n) st':=by
  intro st' T' n K' hp h1 h2 hs;have e:=h st' (T'.take n) (T'.drop n) (by rw[QK];exact K') hs (by rw[QK];exact hp) (by rw[QR];lia)
  rwa[QR,Nat.min_eq_left h2]at e
 have asc:∀{st':Ks}{T':List Keyed}{a:Nat}{Q':Option (Option Nat)×Nat->Ks->Prop},Ok O key S st' pend (P++T')->T'.length=T.length->1<=a->a<=T.length->a9 O key (T'.take a) ->
   (∀n,a<=n->n<=T.length->a9 O key (T'.take n)->(n=T.length\/∃u v,T'[n]?=some u/\T'[n-1]?=some v/\O.blt (key u) (key v)=true)->Q' (none,n) st') ->
   wpS (IY prog w) A E s (forIn [a:T.length] ((none,a):Option (Option Nat)×Nat) λ_ __s=>do
    let __x <-ltAt' (P.length+__s.snd) (P.length+__s.snd-1)
    match __x with
    |some smaller=>if smaller=true then pure (ForInStep.done (none,__s.snd))else pure (ForInStep.yield (none,__s.snd+1))
    |_=>pure (ForInStep.done (some none,__s.snd))) Q' st':=by
  intro st' T' a Q' K' hT h1 h2 hs hq;refine Kx (I:=λx c st2=>st'=st2/\c=(none,x)/\a9 O key (T'.take x)) ?s1 ?f1 ⟨rfl,rfl,hs⟩
  case f1=>
   rintro c st2 ⟨rfl,rfl,hs'⟩;rw[show max a T.length=T.length by lia]at hs' ⊢;exact hq _ h2 (Qg _) hs' (.inl rfl)
  case s1=>
   rintro x c st2 hax hxn ⟨rfl,rfl,hs'⟩;dsimp only;have hu:T'[x]?=some (T'[x]'(by lia)):=by simp
   have hv:T'[x-1]?=some (T'[x-1]'(by lia)):=by simp
   refine Kv (xK C K' (x:=T'[x]'(by lia)) (y:=T'[x-1]'(by lia)) (by rw[Qd (by lia),show P.length+x-P.length=x by lia];exact hu) (by rw[Qd (by lia),show P.length+x-1-P.length=x-1 by lia];exact hv) ?_);dsimp only;cases hc:O.blt (key (T'[x]'(by lia))) (key (T'[x-1]'(by lia)))with
   |true=>
    rw[Lp rfl];exact Ku (hq x hax (by lia) hs' (.inr ⟨_,_,hu,hv,hc⟩))
   |false=>
    rw[Lq (by simp)];exact Ku ⟨rfl,rfl,Fc hs' (by lia) hu hv hc⟩
 refine Kv (asc K rfl (Qg 1) h0 (by
  cases T with
  |nil=>simp at h0
  |cons t T=>simp[a9]) λn n1 n2 hs hor=>?_)
 dsimp only;by_cases c1:n=T.length
 .rw[Lp (by simpa using c1)];exact Ku (fin K (.refl _) n1 n2 hs)
 rw[Lq (by simpa using c1)];obtain⟨u,v,hu,hv,hlt⟩:=hor.resolve_left c1;have a0:T[0]?=some (T[0]'h0):=by simp
 by_cases c2:n > 1
 .rw[Lp c2];refine Kv (xK C K (x:=T[0]'h0) (y:=v) (by rw[Qd (by lia),show P.length-P.length=0 by lia];exact a0) (by rw[Qd (by lia),show P.length+n-1-P.length=n-1 by lia];exact hv) ?_);have hle:Le O key (T[0]'h0) v:=hs.at_le (i:=0) (j:=n-1) (by lia) (by rw[Qv (by lia)];exact a0) (by rw[Qv (by lia)];exact hv);rw[hd.at (i:=n-1) (j:=0) (by lia) hv a0 hle];dsimp only;rw[Lp rfl];exact Ku (fin K (.refl _) n1 n2 hs)
 rw[Lq c2];obtain rfl:n=1:=by lia
 refine Kv (KB (Ki ⟨rfl,?_⟩));have d2:a9 O key (T.take 2).reverse:=by
  rw[yd hu,WQ];have e1:T.take 1=[v]:=by rw[show(1:Nat)=0+1 from rfl,yd (i:=0) hv];simp
  rw[e1];refine Ww.mpr ⟨λz hz=>?_,by simp⟩;simp at hz;rw[hz];exact KeyOrd.kle_of_klt hlt
 have hT2:2<=T.length:=by lia
 refine Kv (Kw (Kx (I:=λx c st2=>st=st2/\c=(none,x,0)/\a9 O key (T.take x).reverse) (Q:=λc st2=>st=st2/\∃n,c=(none,n,0)/\2<=n/\n<=T.length/\a9 O key (T.take n).reverse) ?s2 ?f2 ⟨rfl,rfl,d2⟩) ?p2)
 case f2=>
  rintro c st2 ⟨rfl,rfl,hs'⟩;rw[show max (1+1) T.length=T.length by lia]at hs' ⊢;exact⟨rfl,_,rfl,hT2,Qg _,hs'⟩
 case s2=>
  rintro x c st2 hax hxn ⟨rfl,rfl,hs'⟩;dsimp only;have hu:T[x]?=some (T[x]'(by lia)):=by simp
  have hv:T[x-1]?=some (T[x-1]'(by lia)):=by simp
  have pu:(P++T)[P.length+x]?=some (T[x]'(by lia)):=by rw[Qd (by lia),show P.length+x-P.length=x by lia];exact hu
  have pv:(P++T)[P.length+x-1]?=some (T[x-1]'(by lia)):=by rw[Qd (by lia),show P.length+x-1-P.length=x-1 by lia];exact hv
  refine Kv (xK C K pu pv ?_);dsimp only;cases hc:O.blt (key (T[x]'(by lia))) (key (T[x-1]'(by lia)))with
  |true=>
   rw[Lp rfl,Lq (by lia)];refine Ku ⟨rfl,rfl,?_⟩;rw[yd hu,WQ];refine Ww.mpr ⟨λz hz=>?_,hs'⟩
   replace hz:z∈(T.take x).reverse:=hz
   rw[List.mem_reverse]at hz;obtain⟨i,hi⟩:=Qw hz;have hlt':=(Qa.mp hi).1;rw[QR]at hlt';have h1:((T.take x).reverse)[x-1-i]?=some z:=by
    rw[W1 (by simp;lia)];rw[<-hi];congr 1;simp;lia
   have h2:((T.take x).reverse)[0]?=some (T[x-1]'(by lia)):=by
    rw[W1 (by simp;lia),Qv (by simp;lia),<-hv];congr 1;simp;lia
   exact Le.trans (KeyOrd.kle_of_klt hc) (hs'.at_le (WA _) h2 h1)
  |false=>
   rw[Lq (by simp)];refine Kv (xK C K pv pu ?_);dsimp only;rw[hd.at (i:=x) (j:=x-1) (by lia) hu hv hc,Lp rfl];exact Ku ⟨rfl,x,rfl,by lia,by lia,hs'⟩
 case p2=>
  rintro c st2 ⟨rfl,n,rfl,m1,m2,hs'⟩;dsimp only;rw[Lq (by lia)];refine Kv (wpS_reverse ?_);have hp:((T.take n).reverse++T.drop n).Perm T:=by
   have e:=(List.reverse_perm (T.take n)).append_right (T.drop n)
   rwa[QK]at e
  have hl:((T.take n).reverse++T.drop n).length=T.length:=hp.length_eq;have ht:((T.take n).reverse++T.drop n).take n=(T.take n).reverse:=by
   rw[Wh (by simp;lia),Wt (by simp;lia)]
  have K2:Ok O key S (setArr st (mirror (Ky st) P.length (P.length+n) ((P.length+n-P.length)/2))) pend (P++((T.take n).reverse++T.drop n)):=
   ⟨K.kind,K.failed,K.pend,Gc K.arr n m2,λx hx=>K.all x (by
    rcases Qx.mp hx with q|q
    .simp[q]
    .exact Qy _ (hp.mem_iff.mp q))⟩
  refine Kv (asc K2 hl (by lia) m2 (by rw[ht];exact hs') λn' n1' n2' hs2 _=>?_);exact Ku (fin K2 hp (by lia) (by lia) hs2)
end
section
variable{O:Kr}{key:Keyed->O.α}{S:Keyed->Prop}
variable{prog:IQ}{w:IR}{A:IV}{E:Value->Shared->Prop}{s:Shared}
def Gb (h:xs.toList=P++T)(k l:Nat)(hk:k<T.length)(hl:l<=k)(t:Keyed)(ht:T[k]?=some t):
  (bubble xs (P.length+k) (P.length+k-(P.length+l))).toList=P++(((T.take k).take l++[t]++(T.take k).drop l)++T.drop (k+1)):=by
 have hs:xs.size=P.length+T.length:=by rw[<-QT,h,QH]
 apply WZ;intro j;rw[QD,getElem?_bubble (by lia) _ (by lia)];have gx:∀j,xs[j]?=(P++T)[j]?:=λj=>by rw[<-QD,h]
 simp only[gx];by_cases c0:j<P.length
 .rw[Lq (by lia),Lq (by lia),Qf c0,Qf c0]
 have cT:∀i,P.length<=i->(P++T)[i]?=T[i-P.length]?:=λi hi=>Qd hi;rw[Qd (l₁:=P) (l₂:=((T.take k).take l++[t]++(T.take k).drop l)++T.drop (k+1)) (by lia)];have len1:((T.take k).take l++[t]++(T.take k).drop l).length=k+1:=by simp;lia
 by_cases c1:j=P.length+k-(P.length+k-(P.length+l))
 .rw[Lp c1,cT _ (by lia),show P.length+k-P.length=k by lia,ht];rw[Qf (by rw[len1];lia),Qf (by simp;lia),Qd (by simp;lia)];rw[show j-P.length-((T.take k).take l).length=0 by simp;lia];rfl
 rw[Lq c1];by_cases c2:P.length+k-(P.length+k-(P.length+l))<j/\j<=P.length+k
 .rw[Lp c2,cT _ (by lia)];rw[Qf (by rw[len1];lia),Qd (by simp;lia),Q9,Qv (by simp;lia)];congr 1;simp;lia
 .rw[Lq c2,cT _ (by lia)];by_cases c3:j-P.length<l
  .rw[Qf (by rw[len1];lia),Qf (by simp;lia),Qf (by simp;lia),Qv c3,Qv (by lia)]
  .rw[Qd (by rw[len1];lia),Q9,len1];congr 1;lia
def Ga (C:dW prog w A E s O key S){st:Ks}(K:Ok O key S st pend (P++T))(hn:n<=T.length)(hok:ok<=n)(h1:1<=ok)(hs:a9 O key (T.take ok))(h:∀st' T',Ok O key S st' pend (P++T')->T'.Perm T->a9 O key (T'.take n)->Q true st'):
  wpS (IY prog w) A E s (binarySort' P.length n ok) Q st:=by
 refine Kv (Kw (Kx (I:=λk c st'=>c=(none,())/\∃T',Ok O key S st' pend (P++T')/\T'.Perm T/\a9 O key (T'.take (min k n)))
  (Q:=λc st'=>c=(none,())/\∃T',Ok O key S st' pend (P++T')/\T'.Perm T/\a9 O key (T'.take n)) ?s1 ?f1 ⟨rfl,T,K,.refl _,by rw[show min (max ok 1) n=ok by lia];exact hs⟩) ?p1)
 case p1=>
  rintro c st' ⟨rfl,T',K',hp,hs'⟩;exact Ku (h st' T' K' hp hs')
 case f1=>
  rintro c st' ⟨rfl,T',K',hp,hs'⟩;rw[show min (max (max ok 1) n) n=n by lia]at hs';exact⟨rfl,T',K',hp,hs'⟩
 case s1=>
  rintro k c st' hka hkn ⟨rfl,T',K',hp,hs'⟩;rw[show min k n=k by lia]at hs';have hlen:=hp.length_eq;have hk:k<T'.length:=by lia
  have ht:T'[k]?=some T'[k]:=by simp
  refine Kv (Kw (Kx (I:=λx c st2=>st'=st2/\∃l r,c=(none,l,r)/\l<=r/\r<=k/\r-l<=k-x/\(∀i u,i<l->T'[i]?=some u->Le O key u T'[k])/\(∀i u,r<=i->i<k->T'[i]?=some u->Le O key T'[k] u))
   (Q:=λc st2=>st'=st2/\∃l,c=(none,l,l)/\l<=k/\(∀i u,i<l->T'[i]?=some u->Le O key u T'[k])/\(∀i u,l<=i->i<k->T'[i]?=some u->Le O key T'[k] u)) ?s2 ?f2 ⟨rfl,0,k,rfl,by lia,by lia,by lia,λi u q=>Lr q (by lia),λi u q1 q2=>Lr q2 (by lia)⟩) ?p2)
  case f2=>
   rintro c st2 ⟨rfl,l,r,rfl,b1,b2,b3,b4,b5⟩;obtain rfl:l=r:=by lia
   exact⟨rfl,l,rfl,b2,b4,b5⟩
  case s2=>
   rintro x c st2 _ hx ⟨rfl,l,r,rfl,b1,b2,b3,b4,b5⟩;dsimp only;by_cases c1:l ≥ r
   .rw[Lp c1];obtain rfl:l=r:=by lia
    exact Ku ⟨rfl,l,rfl,b2,b4,b5⟩
   .rw[Lq c1];have hm:T'[(l+r)/2]?=some (T'[(l+r)/2]'(by lia)):=by simp
    refine Kv (xK C K' (x:=T'[k]) (y:=T'[(l+r)/2]'(by lia)) (by rw[Qd (by lia),show P.length+k-P.length=k by lia];exact ht) (by rw[Qd (by lia),show P.length+(l+r)/2-P.length=(l+r)/2 by lia];exact hm) ?_);dsimp only;have tk:∀{i:Nat}{u:Keyed},i<k->T'[i]?=some u->(T'.take k)[i]?=some u:=λhi hu=>by rw[Qv hi];exact hu
    cases hc:O.blt (key T'[k]) (key (T'[(l+r)/2]'(by lia)))with
    |true=>
     rw[Lp rfl];exact Ku ⟨rfl,l,(l+r)/2,rfl,by lia,by lia,by lia,b4,λi u q1 q2 hu=>Le.trans (KeyOrd.kle_of_klt hc) (hs'.at_le q1 (tk (by lia) hm) (tk q2 hu))⟩
    |false=>
     rw[Lq (by simp)];exact Ku ⟨rfl,(l+r)/2+1,r,rfl,by lia,by lia,by lia,λi u q1 hu=>Le.trans (hs'.at_le (by lia) (tk (by lia) hu) (tk (by lia) hm)) (show Le O key (T'[(l+r)/2]'(by lia)) T'[k]from hc),b5⟩
  case p2=>
   rintro c st2 ⟨rfl,l,rfl,b2,b4,b5⟩;dsimp only;refine Kv (KD ?_);refine Ku ⟨rfl,((T'.take k).take l++[T'[k]]++(T'.take k).drop l)++T'.drop (k+1),⟨K'.kind,K'.failed,K'.pend,?_,?_⟩,?_,?_⟩
   .exact Gb K'.arr k l hk b2 _ ht
   all_goals
    have hpm:(((T'.take k).take l++[T'[k]]++(T'.take k).drop l)++T'.drop (k+1)).Perm T':=by
     have e1:((T'.take k).take l++[T'[k]]++(T'.take k).drop l).Perm (T'.take k++[T'[k]]):=by
      rw[Qj];refine(WJ.append_left _ Wq).trans ?_;rw[<-Qj,QK]
     rw[<-yd ht]at e1;have e2:=e1.append_right (T'.drop (k+1))
     rwa[QK]at e2
   .intro x hx;refine K'.all x ?_;rcases Qx.mp hx with q|q
    .simp[q]
    .exact Qy _ (hpm.mem_iff.mp q)
   .exact hpm.trans hp
   .have len1:((T'.take k).take l++[T'[k]]++(T'.take k).drop l).length=k+1:=by simp;lia
    rw[show min (k+1) n=k+1 by lia,Wh (by rw[len1];lia),Wt (by rw[len1];lia)];have lowm:∀u∈(T'.take k).take l,Le O key u T'[k]:=λu hu=>by
     obtain⟨i,hi⟩:=Qw hu;have hlt:=(Qa.mp hi).1;simp only[QR]at hlt;rw[Qv (by lia),Qv (by lia)]at hi;exact b4 i u (by lia) hi
    have highm:∀u∈(T'.take k).drop l,Le O key T'[k] u:=λu hu=>by
     obtain⟨i,hi⟩:=Qw hu;have hlt:=(Qa.mp hi).1;simp only[QR,WP]at hlt;rw[Q9,Qv (by lia)]at hi;exact b5 (l+i) u (by lia) (by lia) hi
    refine zX (zX (hs'.sublist (Wi _ _)) (by simp[a9]) λx hx y hy=>?_) (hs'.sublist (Wk _ _)) λx hx y hy=>?_
    .rw[Qt.mp hy];exact lowm x hx
    .rcases Qx.mp hx with q|q
     .exact (lowm x q).trans (highm y hy)
     .rw[Qt.mp q];exact highm y hy
end
section
variable{O:Kr}{key:Keyed->O.α}{S:Keyed->Prop}
variable{prog:IQ}{w:IR}{A:IV}{E:Value->Shared->Prop}{s:Shared}
def cf(O:Kr)(key:Keyed->O.α):Nat->List (Nat×Nat×Nat)->List (List Keyed)->Prop
 |_,[],[]=>True
 |off,p::ps,U::Us=>p.1=off/\p.2.1=U.length/\0<U.length/\a9 O key U/\cf O key (off+U.length) ps Us
 |_,_,_=>False
theorem cf.app:∀{off:Nat}{p1 p2:List (Nat×Nat×Nat)}{Us:List (List Keyed)},cf O key off (p1++p2) Us->∃U1 U2,Us=U1++U2/\cf O key off p1 U1/\cf O key (off+U1.flatten.length) p2 U2
 |off,[],p2,Us,h=>⟨[],Us,rfl,trivial,by simpa using h⟩
 |off,p::p1,p2,[],h=>h.elim
 |off,p::p1,p2,U::Us,h=>by
  obtain⟨a1,a2,a3,a4,a5⟩:=h;obtain⟨U1,U2,rfl,b1,b2⟩:=cf.app a5;refine⟨U::U1,U2,rfl,⟨a1,a2,a3,a4,b1⟩,?_⟩;simpa [VQ]using b2
theorem cf.join:∀{off:Nat}{p1 p2:List (Nat×Nat×Nat)}{U1 U2:List (List Keyed)},cf O key off p1 U1->cf O key (off+U1.flatten.length) p2 U2->cf O key off (p1++p2) (U1++U2)
 |off,[],p2,[],U2,_,h=>by simpa using h
 |off,[],p2,_::_,U2,h,_=>h.elim
 |off,p::p1,p2,[],U2,h,_=>h.elim
 |off,p::p1,p2,U::U1,U2,h,h2=>⟨h.1,h.2.1,h.2.2.1,h.2.2.2.1,cf.join h.2.2.2.2 (by simpa [VQ]using h2)⟩
theorem cf.len:∀{off:Nat}{p:List (Nat×Nat×Nat)}{Us:List (List Keyed)},cf O key off p Us->p.length<=Us.flatten.length
 |_,[],[],_=>WA _
 |_,[],_::_,h=>h.elim
 |_,_::_,[],h=>h.elim
 |off,p::ps,U::Us,h=>by
  have e1:=cf.len h.2.2.2.2;have e2:=h.2.2.1;rw[Q0,QH,QG];lia
theorem cf.mod(q:Nat):∀{off:Nat}{p:List (Nat×Nat×Nat)}{Us:List (List Keyed)}(i:Nat),cf O key off p Us->cf O key off (p.modify i λx=>(x.1,x.2.1,q)) Us
 |_,[],[],i,_=>by cases i<;>trivial
 |_,[],_::_,i,h=>h.elim
 |_,_::_,[],i,h=>h.elim
 |off,p::ps,U::Us,0,h=>h
 |off,p::ps,U::Us,i+1,h=>⟨h.1,h.2.1,h.2.2.1,h.2.2.2.1,cf.mod q i h.2.2.2.2⟩
def vC {st:Ks}{lo:Nat}(K:Ok O key S st pend (Us.flatten++(W++R)))(k:cf O key 0 pend Us)(hs:a9 O key W)(h0:0<W.length)(hn:W.length=n)(hlo:Us.flatten.length=lo):
  Ok O key S (setPending st ((Kz st).push (lo,n,0))) (pend++[(lo,n,0)]) ((Us++[W]).flatten++R)/\cf O key 0 (pend++[(lo,n,0)]) (Us++[W]):=by
 refine⟨⟨K.kind,K.failed,?_,?_,?_⟩,cf.join k ⟨?_,hn.symm,h0,hs,trivial⟩⟩
 .show ((Kz st).push (lo,n,0)).toList=_;rw[WV,K.pend]
 .show (Ky st).toList=_;rw[K.arr];simp
 .intro x hx;refine K.all x ?_;simpa using hx
 .show lo=_;rw[hlo,W0]
def xW (C:dW prog w A E s O key S){st:Ks}(K:Ok O key S st pend (Us.flatten++R))(k:cf O key 0 pend Us)(hi:i+1<pend.length)(h:∀st' pend' Us',Ok O key S st' pend' (Us'.flatten++R)->cf O key 0 pend' Us'->Us'.flatten.Perm Us.flatten->pend'.length+1=pend.length->Q true st'):
  wpS (IY prog w) A E s (mergeAt' i) Q st:=by
 obtain⟨p1,a,b,p2,rfl,rfl⟩:∃p1 a b p2,pend=p1++a::b::p2/\p1.length=i:=by
  refine⟨pend.take i,pend[i],pend[i+1],pend.drop (i+2),?_,by simp;lia⟩
  conv=>lhs;rw[<-QK i pend]
  rw[QP (by lia),QP (by lia)]
 obtain⟨U1,U2,rfl,k1,k2⟩:=k.app;cases U2 with
 |nil=>exact k2.elim
 |cons U U2=>
  cases U2 with
  |nil=>exact k2.2.2.2.2.elim
  |cons V U2=>
   obtain⟨sa,na,po⟩:=a;obtain⟨sb,nb,po2⟩:=b;obtain⟨a1,a2,a3,a4,b1,b2,b3,b4,b5⟩:=k2;simp only[W0]at a1 b1 b5;have e:(U1++U::V::U2).flatten++R=U1.flatten++(U++(V++(U2.flatten++R))):=by simp
   rw[e]at K;refine qV C K a1 a2 b1 b2 a3 b3 a4 b4 λst' W K' hs hp=>?_;have hl:=hp.length_eq;rw[QH]at hl;refine h st' (p1++(sa,na+nb,po)::p2) (U1++W::U2) (by simpa using K') (cf.join k1 (show cf O key _ ((sa,na+nb,po)::p2) (W::U2)from⟨by simpa using a1,?_,by lia,hs,?_⟩)) ?_ (by simp;lia)
   .show na+nb=_;have e1:na=U.length:=a2;have e2:nb=V.length:=b2;lia
   .rw[W0,hl,<-VQ];exact b5
   .simp only[WR,Q0];refine WJ.append_left _ ?_;rw[<-Qj];exact hp.append_right _
def qW (C:dW prog w A E s O key S){st:Ks}(K:Ok O key S st [] l)(h2:2<=l.length)(hd:dP O key l)(h:∀st' l',(Ky st').toList=l'->KA st'=none->a9 O key l'->l'.Perm l->Q () st'):wpS (IY prog w) A E s sortRuns' Q st:=by
 rw[sortRuns'_eq];refine Kv (KC ?_);dsimp only;have hN:(Ky st).size=l.length:=by rw[<-QT,K.arr]
 rw[hN];have hmr:minRun' l.length l.length 0<=l.length:=j6 _ _ 0 (by lia);generalize minRun' l.length l.length 0=mr at hmr ⊢;refine Kv (Kw (Kx
  (I:=λx c st'=>∃lo,c=(none,lo)/\x<=lo/\lo<=l.length/\∃pend Us R,Ok O key S st' pend (Us.flatten++R)/\cf O key 0 pend Us/\(Us.flatten++R).Perm l/\Us.flatten.length=lo)
  (Q:=λc st'=>c=(none,l.length)/\∃pend Us R,Ok O key S st' pend (Us.flatten++R)/\cf O key 0 pend Us/\(Us.flatten++R).Perm l/\Us.flatten.length=l.length) ?s1 ?f1 ⟨0,rfl,Qg _,WA _,[],[],l,by simpa using K,trivial,.refl _,rfl⟩) ?p1)
 case f1=>
  rintro c st' ⟨lo,rfl,x1,x2,r⟩;obtain rfl:lo=l.length:=by lia
  exact⟨rfl,r⟩
 case s1=>
  rintro x c st' _ hx ⟨lo,rfl,x1,x2,pend,Us,R,K',k,hp,hlo⟩;dsimp only;by_cases c0:lo ≥ l.length
  .rw[Lp c0];obtain rfl:lo=l.length:=by lia
   exact Ku ⟨rfl,pend,Us,R,K',k,hp,hlo⟩
  rw[Lq c0];have hR:R.length=l.length-lo:=by have:=hp.length_eq;simp at this hlo;lia
  subst hlo;rw[<-hR];refine Kv (gW C K' (by lia) ((hd.perm hp).right) λst2 U R2 K2 hs2 hp2 hU0=>?_);dsimp only;have hl2:U.length+R2.length=R.length:=by have:=hp2.length_eq;simpa using this
  by_cases c1:U.length<mr
  .rw[Lp c1];refine Kv (KB (Ki ⟨rfl,?_⟩));refine Kv (Ga C K2 (by rw[QH];lia) (by lia) (by lia) (by rw[Wh (Qg _),Vm];exact hs2) λst3 T3 K3 hpT hsT=>?_);rw[Lq (by simp)];have hT:T3.length=R.length:=(hpT.trans hp2).length_eq;obtain⟨W,R3,hW,hWn,hsW⟩:∃W R3,T3=W++R3/\W.length=min R.length mr/\a9 O key W:=⟨T3.take (min R.length mr),T3.drop (min R.length mr),(QK _ _).symm,by rw[QR];lia,hsT⟩;subst hW;have hp3:(W++R3).Perm R:=hpT.trans hp2;have hW0:0<W.length:=by lia
   refine Kv (KC ?_);have lenU:∀Us4:List (List Keyed),Us4.flatten.Perm Us.flatten->(Us4++[W]).flatten.length=Us.flatten.length+min R.length mr:=λUs4 q=>by
    have:=q.length_eq;rw[WR,QH,this,WY,hWn]
   have permU:∀Us4:List (List Keyed),Us4.flatten.Perm Us.flatten->((Us4++[W]).flatten++R3).Perm l:=λUs4 q=>by
    refine WJ.trans ?_ hp;rw[WR,WY,Qj];exact(q.append_right _).trans (hp3.append_left _)
   have hle:min R.length mr<=R.length:=by have:=hp3.length_eq;rw[QH]at this;lia
   cases hb:(Kz st3).back? with
   |none=>
    dsimp only;obtain⟨K5,k5⟩:=vC K3 k hsW hW0 hWn rfl;refine Kv (KD (Ku ⟨_,rfl,by lia,by lia,_,_,R3,K5,k5,permU Us (.refl _),lenU Us (.refl _)⟩))
   |some t=>
    obtain⟨s1,n1,pp⟩:=t;dsimp only;refine Kv (Kw (Kx (I:=λ_ c st4=>c=(none,())/\∃pend4 Us4,Ok O key S st4 pend4 (Us4.flatten++(W++R3))/\cf O key 0 pend4 Us4/\Us4.flatten.Perm Us.flatten)
     (Q:=λc st4=>c=(none,())/\∃pend4 Us4,Ok O key S st4 pend4 (Us4.flatten++(W++R3))/\cf O key 0 pend4 Us4/\Us4.flatten.Perm Us.flatten) ?s2 (λ_ _ q=>q) ⟨rfl,pend,Us,K3,k,.refl _⟩) ?p2)
    case s2=>
     rintro y c st4 _ hy ⟨rfl,pend4,Us4,K4,k4,hp4⟩;refine Kv (KC ?_);have hsz:(Kz st4).size=pend4.length:=by rw[<-K4.pend,QT]
     by_cases cs:(Kz st4).size > 1
     .rw[Lp cs];cases ho:(Kz st4)[(Kz st4).size-2]? with
      |none=>exact Ku ⟨rfl,pend4,Us4,K4,k4,hp4⟩
      |some t=>
       obtain⟨t1,t2,older⟩:=t;dsimp only;by_cases co:older<=KG l.length (2*s1+n1) (2*s1+n1+n1+min R.length mr) l.length
       .rw[Lp co];exact Ku ⟨rfl,pend4,Us4,K4,k4,hp4⟩
       .rw[Lq co];refine Kv (xW C K4 k4 (by lia) λst5 pend5 Us5 K5 k5 hp5 _=>?_);rw[Lq (by simp)];exact Ku ⟨rfl,pend5,Us5,K5,k5,hp5.trans hp4⟩
     .rw[Lq cs];exact Ku ⟨rfl,pend4,Us4,K4,k4,hp4⟩
    case p2=>
     rintro c st4 ⟨rfl,pend4,Us4,K4,k4,hp4⟩;dsimp only;refine Kv (KD ?_);refine Kv (KD ?_);have K5:Ok O key S (setPending st4 ((Kz st4).modify ((Kz st4).size-1) λx=>(x.fst,x.2.fst,KG l.length (2*s1+n1) (2*s1+n1+n1+min R.length mr) l.length))) (pend4.modify ((Kz st4).size-1) λx=>(x.1,x.2.1,KG l.length (2*s1+n1) (2*s1+n1+n1+min R.length mr) l.length)) (Us4.flatten++(W++R3)):=
      ⟨K4.kind,K4.failed,by show((Kz st4).modify _ _).toList=_;rw[VA,K4.pend],K4.arr,K4.all⟩
     obtain⟨K6,k6⟩:=vC K5 (k4.mod _ _) hsW hW0 hWn hp4.length_eq;exact Ku ⟨_,rfl,by lia,by lia,_,_,R3,K6,k6,permU Us4 hp4,lenU Us4 hp4⟩
  .rw[Lq c1];have K3:=K2;obtain⟨W,hW⟩:∃W,W=U:=⟨U,rfl⟩;obtain⟨R3,hR3⟩:∃R3,R3=R2:=⟨R2,rfl⟩;obtain⟨st3,hst3⟩:∃st3,st3=st2:=⟨st2,rfl⟩;rw[<-hW,<-hR3,<-hst3]at K3;have hWn:W.length=U.length:=by rw[hW]
   have hsW:a9 O key W:=by rw[hW];exact hs2
   have hp3:(W++R3).Perm R:=by rw[hW,hR3];exact hp2
   have hW0:0<W.length:=by lia
   rw[<-hst3];refine Kv (KC ?_);have lenU:∀Us4:List (List Keyed),Us4.flatten.Perm Us.flatten->(Us4++[W]).flatten.length=Us.flatten.length+U.length:=λUs4 q=>by
    have:=q.length_eq;rw[WR,QH,this,WY,hWn]
   have permU:∀Us4:List (List Keyed),Us4.flatten.Perm Us.flatten->((Us4++[W]).flatten++R3).Perm l:=λUs4 q=>by
    refine WJ.trans ?_ hp;rw[WR,WY,Qj];exact(q.append_right _).trans (hp3.append_left _)
   have hle:U.length<=R.length:=by have:=hp3.length_eq;rw[QH]at this;lia
   cases hb:(Kz st3).back? with
   |none=>
    dsimp only;obtain⟨K5,k5⟩:=vC K3 k hsW hW0 hWn rfl;refine Kv (KD (Ku ⟨_,rfl,by lia,by lia,_,_,R3,K5,k5,permU Us (.refl _),lenU Us (.refl _)⟩))
   |some t=>
    obtain⟨s1,n1,pp⟩:=t;dsimp only;refine Kv (Kw (Kx (I:=λ_ c st4=>c=(none,())/\∃pend4 Us4,Ok O key S st4 pend4 (Us4.flatten++(W++R3))/\cf O key 0 pend4 Us4/\Us4.flatten.Perm Us.flatten)
     (Q:=λc st4=>c=(none,())/\∃pend4 Us4,Ok O key S st4 pend4 (Us4.flatten++(W++R3))/\cf O key 0 pend4 Us4/\Us4.flatten.Perm Us.flatten) ?s3 (λ_ _ q=>q) ⟨rfl,pend,Us,K3,k,.refl _⟩) ?p3)
    case s3=>
     rintro y c st4 _ hy ⟨rfl,pend4,Us4,K4,k4,hp4⟩;refine Kv (KC ?_);have hsz:(Kz st4).size=pend4.length:=by rw[<-K4.pend,QT]
     by_cases cs:(Kz st4).size > 1
     .rw[Lp cs];cases ho:(Kz st4)[(Kz st4).size-2]? with
      |none=>exact Ku ⟨rfl,pend4,Us4,K4,k4,hp4⟩
      |some t=>
       obtain⟨t1,t2,older⟩:=t;dsimp only;by_cases co:older<=KG l.length (2*s1+n1) (2*s1+n1+n1+U.length) l.length
       .rw[Lp co];exact Ku ⟨rfl,pend4,Us4,K4,k4,hp4⟩
       .rw[Lq co];refine Kv (xW C K4 k4 (by lia) λst5 pend5 Us5 K5 k5 hp5 _=>?_);rw[Lq (by simp)];exact Ku ⟨rfl,pend5,Us5,K5,k5,hp5.trans hp4⟩
     .rw[Lq cs];exact Ku ⟨rfl,pend4,Us4,K4,k4,hp4⟩
    case p3=>
     rintro c st4 ⟨rfl,pend4,Us4,K4,k4,hp4⟩;dsimp only;refine Kv (KD ?_);refine Kv (KD ?_);have K5:Ok O key S (setPending st4 ((Kz st4).modify ((Kz st4).size-1) λx=>(x.fst,x.2.fst,KG l.length (2*s1+n1) (2*s1+n1+n1+U.length) l.length))) (pend4.modify ((Kz st4).size-1) λx=>(x.1,x.2.1,KG l.length (2*s1+n1) (2*s1+n1+n1+U.length) l.length)) (Us4.flatten++(W++R3)):=
      ⟨K4.kind,K4.failed,by show((Kz st4).modify _ _).toList=_;rw[VA,K4.pend],K4.arr,K4.all⟩
     obtain⟨K6,k6⟩:=vC K5 (k4.mod _ _) hsW hW0 hWn hp4.length_eq;exact Ku ⟨_,rfl,by lia,by lia,_,_,R3,K6,k6,permU Us4 hp4,lenU Us4 hp4⟩
 case p1=>
  rintro c st' ⟨rfl,pend,Us,R,K',k,hp,hlo⟩;dsimp only;have hR:R=[]:=by
   have:=hp.length_eq;rw[QH]at this;exact VH (by lia)
  subst hR;refine Kv (Kw (Kx (I:=λx c st4=>c=(none,())/\∃pend4 Us4,Ok O key S st4 pend4 (Us4.flatten++[])/\cf O key 0 pend4 Us4/\Us4.flatten.Perm Us.flatten/\(pend4.length<=1\/pend4.length+x<=l.length))
   (Q:=λc st4=>c=(none,())/\∃pend4 Us4,Ok O key S st4 pend4 (Us4.flatten++[])/\cf O key 0 pend4 Us4/\Us4.flatten.Perm Us.flatten/\pend4.length<=1) ?s4 ?f4 ⟨rfl,pend,Us,K',k,.refl _,.inr (by have:=k.len;lia)⟩) ?p4)
  case f4=>
   rintro c st4 ⟨rfl,pend4,Us4,K4,k4,hp4,hx⟩;exact⟨rfl,pend4,Us4,K4,k4,hp4,by lia⟩
  case s4=>
   rintro y c st4 _ hy ⟨rfl,pend4,Us4,K4,k4,hp4,hx⟩;refine Kv (KC ?_);have hsz:(Kz st4).size=pend4.length:=by rw[<-K4.pend,QT]
   by_cases cs:(Kz st4).size<=1
   .rw[Lp cs];exact Ku ⟨rfl,pend4,Us4,K4,k4,hp4,by lia⟩
   .rw[Lq cs];refine Kv (xW C K4 k4 ?_ λst5 pend5 Us5 K5 k5 hp5 hl5=>?_)
    .have e:∀(c:Prop) [Decidable c],(if c then(Kz st4).size-2-1 else(Kz st4).size-2)+1<pend4.length:=λc _=>by
      by_cases q:c
      .rw[Lp q];lia
      .rw[Lq q];lia
     exact e _
    .rw[Lq (by simp)];exact Ku ⟨rfl,pend5,Us5,K5,k5,hp5.trans hp4,by lia⟩
  case p4=>
   rintro c st4 ⟨rfl,pend4,Us4,K4,k4,hp4,hx⟩;dsimp only;have hpl:Us4.flatten.Perm l:=hp4.trans (by simpa using hp);refine Ku (h st4 Us4.flatten (by rw[K4.arr,QW]) K4.failed ?_ hpl)
   match pend4,Us4,k4,hx with
   |[],[],_,_=>simp[a9]
   |[_],[W],q,_=>simpa using q.2.2.2.1
   |[],_::_,q,_=>exact q.elim
   |_::_,[],q,_=>exact q.elim
   |[_],_::_::_,q,_=>exact q.2.2.2.2.elim
   |_::_::_,_,_,hx=>simp at hx
end
theorem yJ:∀a:List Int,HT.lexLt a a=false
 |[]=>rfl
 |x::xs=>by rw[HT.bn,Lp rfl];exact yJ xs
theorem yK:∀a b c:List Int,HT.lexLt a b=true->HT.lexLt b c=true->HT.lexLt a c=true
 |[],[],_,h,_=>by cases h
 |[],_::_,[],_,h=>by cases h
 |[],_::_,_::_,_,_=>rfl
 |_::_,[],_,h,_=>by cases h
 |_::_,_::_,[],_,h=>by cases h
 |x::xs,y::ys,z::zs,h1,h2=>by
  rw[HT.bn]at h1 h2 ⊢;by_cases e1:x=y
  .rw[Lp e1]at h1;subst e1;by_cases e2:x=z
   .rw[Lp e2]at h2 ⊢;exact yK xs ys zs h1 h2
   .rw[Lq e2]at h2 ⊢;exact h2
  .rw[Lq e1]at h1;have q1:=Lw h1;by_cases e2:y=z
   .subst e2;rw[Lq e1];exact h1
   .rw[Lq e2]at h2;have q2:=Lw h2;rw[Lq (by lia)];exact Lu (by lia)
theorem xL:∀a b:List Int,HT.lexLt a b=false->HT.lexLt b a=false->a=b
 |[],[],_,_=>rfl
 |[],_::_,h,_=>by cases h
 |_::_,[],_,h=>by cases h
 |x::xs,y::ys,h1,h2=>by
  rw[HT.bn]at h1 h2;by_cases e:x=y
  .subst e;rw[Lp rfl]at h1 h2;rw[xL xs ys h1 h2]
  .rw[Lq e]at h1;rw[Lq (Ne.symm e)]at h2;have q1:=of_decide_eq_false h1;have q2:=of_decide_eq_false h2;lia
def DR(a b c:List Int)(h:HT.lexLt a c=true):HT.lexLt a b=true\/HT.lexLt b c=true:=by
 cases h1:HT.lexLt a b with
 |true=>exact .inl rfl
 |false=>
  right
  cases h2:HT.lexLt b a with
  |true=>exact yK b a c h2 h
  |false=>rw[<-xL a b h1 h2];exact h
def mz:Kr:=⟨List Int,HT.lexLt,yJ,yK,DR,xL⟩
section
variable{prog:IQ}{w:IR}{A:IV}{E:Value->Shared->Prop}{s:Shared}
def BS{key:Value->List Int}{vs:List Value}(hl:∀x∈vs,∀y∈vs,cY A s x y (HT.lexLt (key x) (key y))):dW prog w A E s mz (λp=>key p.1) (λp=>p.1∈vs):=by
 intro x y st Q hx hy hk q;rw[lt'_eq];refine Kv (KC ?_);rw[hk,keyLt'_oneType];refine Kv (KB (KH (hl x.1 hx y.1 hy prog w _ _ ⟨rfl,?_⟩)));exact Ku q
theorem gX:∀vs:List Value,List.map (λx:Value×Value=>x.fst) (vs.zip vs)=vs
 |[]=>rfl
 |v::r=>Ls (v::·) (gX r)
def gY {out:List Value}(h2:2<=vs.length)(hl:∀x∈vs,∀y∈vs,cY A s x y (HT.lexLt (key x) (key y)))(hd:(vs.map key).Nodup)(hp:out.Perm vs)(ho:out.Pairwise λx y=>HT.lexLt (key y) (key x)=false)(h:∀st':Ks,(Ky st').map (·.2)=out.toArray->KA st'=none->Q () st'):
  wpS (IY prog w) A E s sortRuns' Q (SortSt.mk' Kt (vs.toArray.zip vs.toArray) #[] 7 none):=by
 have hz:(vs.toArray.zip vs.toArray).toList=vs.zip vs:=by simp
 refine qW (BS hl) (l:=vs.zip vs) ⟨rfl,rfl,rfl,hz,λx hx=>(mem_zip_self hx).2⟩ (by simp;lia) ?_ λst' l' e1 e2 e3 e4=>h st' ?_ e2
 .show ((vs.zip vs).map λp=>key p.1).Nodup;have:(vs.zip vs).map (λp=>key p.1)=vs.map key:=by
   have:=Ls (List.map key) (gX vs)
   rwa[WO]at this
  rw[this];exact hd
 .have same:l'.map (·.2)=l'.map (·.1):=W9 λp hp'=>(mem_zip_self (e4.mem_iff.mp hp')).1.symm;have e5:(l'.map (·.1)).Perm vs:=by have:=e4.map (·.1);rwa[gX]at this
  have e6:l'.map (·.1)=out:=by
   refine WJ.eq_of_pairwise (le:=λx y=>HT.lexLt (key y) (key x)=false) (λa b ha hb q1 q2=>?_) ?_ ho (e5.trans hp.symm)
   .have ka:key a=key b:=xL _ _ q2 q1;have ha':=e5.mem_iff.mp ha;have hb':=hp.mem_iff.mp hb;obtain⟨i,hi⟩:=Qw ha';obtain⟨j,hj⟩:=Qw hb';have hi':(vs.map key)[i]?=some (key a):=by rw[Qs,hi];rfl
    have hj':(vs.map key)[j]?=some (key b):=by rw[Qs,hj];rfl
    obtain⟨li,gi⟩:=Qa.mp hi';obtain⟨lj,gj⟩:=Qa.mp hj';by_cases c:i=j
    .subst c;rw[hi]at hj;cases hj;rfl
    .exfalso;rcases Nat.lt_or_gt_of_ne c with c|c
     .exact (Wn.mp hd) i j li lj c (by rw[gi,gj,ka])
     .exact (Wn.mp hd) j i lj li c (by rw[gi,gj,ka])
   .rw[WW];exact e3
  apply Array.ext';rw[Array.toList_map,e1,same,e6]
end
section
variable{prog:IQ}{w:IR}{A:IV}{E:Value->Shared->Prop}{s:Shared}
def oi(A:IV)(s:Shared)(vs out:List Value):Prop:=∃key:Value->List Int,(∀x∈vs,∀y∈vs,cY A s x y (HT.lexLt (key x) (key y)))/\(vs.map key).Nodup/\out.Perm vs/\out.Pairwise λx y=>HT.lexLt (key y) (key x)=false
def Fb:∀{vs out:List Value},vs.length<2->out.Perm vs->out=vs
 |[],_,_,h=>h.eq_nil
 |[v],_,_,h=>List.perm_singleton.mp h
 |_::_::_,_,h,_=>by simp at h;lia
def lr(s:Shared)(vs:List Value):Prop:=∀v∈vs,s.TypeIs v "list"
def DQ (h:s.TypeIs v "list")(q:Q none s):IX (IY prog w) A (firstOfTuple' v) Q E s:=by
 refine Jj (JS h ?_);rw[Lp (by decide)];exact Jp q
theorem lO:∀{vs:List Value},(∀v∈vs,∀Q:β->Shared->Prop,Q b s->IX (IY prog w) A (f v) Q E s)->∀{Q:List β->Shared->Prop},Q (vs.map λ_=>b) s->IX (IY prog w) A (vs.mapM f) Q E s
 |[],_,Q,q=>by rw[List.mapM_nil];exact Jp q
 |v::r,h,Q,q=>by
  rw[List.mapM_cons];refine Jj (h v (by simp) _ ?_);refine Jj (lO (λv hv=>h v (by simp[hv])) ?_);exact Jp q
def Cs:∀(vs:List Value),((vs.map λ_=>Value.type "list").toArray.all λx=>x==Value.type "list")=true:=by
 intro vs;simp only[List.all_toArray,VU,QN];intro _ _;rfl
def Cr (h:lr s vs)(h2:2<=vs.length)(q:Q Kt s):IX (IY prog w) A (keyKind' vs.toArray) Q E s:=by
 obtain⟨v,r,rfl⟩:∃v r,vs=v::r:=by
  cases vs with
  |nil=>simp at h2
  |cons v r=>exact⟨v,r,rfl⟩
 rw[keyKind'_eq,List.mapM_toArray,map_eq_pure_bind];refine Jj (Jj (lO (b:=none) (λv hv Q q=>DQ (h v hv) q) (Jp ?_)));rw[Lq (by simp),Lq (by simp)];rw[oneTypeOnly'_eq,List.mapM_toArray,map_eq_pure_bind];refine Jj (Jj (Jj (lO (b:=Value.type "list") (λv hv Q q=>JS (h v hv) q) (Jp ?_))));have h0:((v::r).map λ_=>Value.type "list").toArray[0]?=some (Value.type "list"):=by simp
 rw[h0];simp only[Cs,if_true];exact Jp (Jp q)
def jL (ho:s.heap.get? a=some (KI "list" vs.toArray n))(hz:vs.length<=sizeLine)(hz2:out.length<=sizeLine)(hr:∀s':Shared,(∀b o,b≠a->s.heap.get? b=some o->s'.heap.get? b=some o)->lr s' vs/\oi A s' vs out)(h:P (.done (.ret .none)) {s with heap:=sortedHeap s.heap a vs out.toArray}):
  IX (IY prog w) A (Builtin.«list.sort» ⟨[.ref a],[]⟩) P E s:=by
 rw[list_sort_plain];have ha:a<s.heap.objs.size:=Qi ho;have hzs:vs.toArray.size<=sizeLine:=by simpa using hz
 refine Jj (listItems_at ho rfl ?_);refine Jj (KJ ho rfl ?_ hzs (by simp));obtain⟨e1,ho1⟩:∃e1,(s.heap.update a (Obj.mapSeq λ_=>#[])).get? a=some (KI "list" #[] e1):=⟨_,KM ho (λ_=>#[])⟩;refine Jj (KN ho1 rfl ?_);refine Jj (KO ?_);refine Jj (wpAny_newList ?_);refine Jk ?_;have ho6:(((s.heap.update a (Obj.mapSeq λ_=>#[])).push (KI "tuple" vs.toArray 0)).push (KI "list" #[] 0)).get? a=some (KI "list" #[] e1):=by
  rw[Heap.get?_push_ne _ _ _ (by rw[size_push',Vq];exact QI (WL ha)),Heap.get?_push_ne _ _ _ (by rw[Vq];exact QI ha)];exact ho1
 have hk:∀b o,b≠a->s.heap.get? b=some o->(((s.heap.update a (Obj.mapSeq λ_=>#[])).push (KI "tuple" vs.toArray 0)).push (KI "list" #[] 0)).get? b=some o:=by
  intro b o hb e;refine Qc _ (Qc _ ?_);rw[WS _ _ _ _ hb];exact e
 obtain⟨hA,hR⟩:=hr {s with heap:=((s.heap.update a (Obj.mapSeq λ_=>#[])).push (KI "tuple" vs.toArray 0)).push (KI "list" #[] 0)} hk;show IX (IY prog w) A _ P E {s with heap:=((s.heap.update a (Obj.mapSeq λ_=>#[])).push (KI "tuple" vs.toArray 0)).push (KI "list" #[] 0)};dsimp only;have hsz:vs.toArray.size=vs.length:=by simp
 by_cases h2:vs.toArray.size<2
 .rw[Lp h2,Lp h2];refine Jj (Jp ?_);rw[StateT.run_pure];refine Jj (Jp ?_);dsimp only;have e0:(vs.toArray.zip vs.toArray).map (·.2)=out.toArray:=by
   have e1:out=vs:=by
    obtain⟨_,_,_,q,_⟩:=hR;exact Fb (by simpa using h2) q
   rw[e1];apply Array.ext';simpa using rG vs
  refine Jj (KN ho6 rfl ?_);refine Jj (KJ ho6 rfl ?_ (by simp) (by show((vs.toArray.zip vs.toArray).map (·.2)).size<=_;rw[e0];simp;lia));simp only[bne_self_eq_false,Wb,if_false];rw[show(Ky (SortSt.mk' general' (vs.toArray.zip vs.toArray) #[] 7 none)).map (·.2)=out.toArray from e0];exact Jp h
 .rw[Lq h2,Lq h2];obtain⟨key0,r1,r2,r3,r4⟩:=hR;refine Jj (Cr hA (by lia) ?_);refine Jj (Ja (gY (key:=key0) (Q:=λ_ st'=>(Ky st').map (·.2)=out.toArray/\KA st'=none) (by lia) r1 r2 r3 r4 λst' a1 a2=>⟨a1,a2⟩) ?_ λ_ _ e=>e);rintro⟨⟨⟩,st'⟩ s' ⟨rfl,hp,hf⟩;dsimp only;refine Jj (KN ho6 rfl ?_);refine Jj (KJ ho6 rfl ?_ (by simp) (by show((Ky st').map (·.2)).size<=_;rw[hp];simp;lia));rw[hf];simp only[bne_self_eq_false,Wb,if_false];rw[hp];exact Jp h
def F9 (hl:s.heap.IsList l vs.toArray)(hz:vs.length<=sizeLine)(hz2:out.length<=sizeLine)(hr:∀s':Shared,(∀b o,s.heap.get? b=some o->s'.heap.get? b=some o)->lr s' vs/\oi A.in1.in1 s' vs out)(h:Q (.ref (s.heap.objs.size+1)) {s with heap:=KP s.heap vs out.toArray}):
  IX (IY prog w) A (call (.builtin "sorted") [.ref l]) Q E s:=by
 refine Calls.call_function_entry kind_sorted plain_sorted entry_sorted (args_sorted1 _) ?_;unfold Builtin.«sorted»;refine Jj (m:=checkCount "sorted" 1 1 _) (Jp ?_);refine Jj (collect_list hl ?_ hz);refine Jj (wpAny_newList ?_);have hsz:((s.heap.push (KI "list" #[] 0)).update s.heap.objs.size (Obj.mapSeq (·++vs.toArray))).objs.size=s.heap.objs.size+1:=by
  rw[Vq,size_push']
 have hoL:(((s.heap.push (KI "list" #[] 0)).update s.heap.objs.size (Obj.mapSeq (·++vs.toArray))).push (KI "list" vs.toArray 0)).get? (s.heap.objs.size+1)=some (KI "list" vs.toArray 0):=by
  rw[<-hsz];exact Qe _ rfl
 have hk:∀b o,s.heap.get? b=some o->(((s.heap.push (KI "list" #[] 0)).update s.heap.objs.size (Obj.mapSeq (·++vs.toArray))).push (KI "list" vs.toArray 0)).get? b=some o:=by
  intro b o e;refine Qc _ ?_;rw[WS _ _ _ _ (QI (Qi e))];exact Qc _ e
 show IX _ _ _ _ _ {s with heap:=((s.heap.push (KI "list" #[] 0)).update s.heap.objs.size (Obj.mapSeq (·++vs.toArray))).push (KI "list" vs.toArray 0)};rw[hsz];refine Jj (Jk (JR slot_list_sort ⟨_,hoL,rfl⟩ entry_list_sort (jL (out:=out) hoL hz hz2 (λs' k=>hr s' λb o e=>k b o (QI (WL (Qi e))) (hk b o e)) ⟨_,rfl,?_⟩) (args_list_sort _)));exact Jp ⟨_,rfl,h⟩
end
def dx(K:Qb)(H:Hp)(c:Int)(n:Nat)(b:Addr)(k:List Int):Prop:=k.length=n /\
 ((c=0/\bD K H b (k.map V.int))\/∃(rs:List Addr) (kk:List (List Int)),2<=c/\k=kk.flatten/\rs.length=kk.length/\bD K H b (rs.map V.ref)/\∀(j:Nat) r q,rs[j]?=some r->kk[j]?=some q->(q.length:Int)+1=c/\bD K H r (q.map V.int))
def nJ(K:Qb)(H:Hp)(bs cs:List Addr):Prop:=∃(ks:List (List Int)) (c:Int) (n:Nat),ks.length=bs.length/\(∀(i:Nat) b k,bs[i]?=some b->ks[i]?=some k->∃k',k=c::k'/\dx K H c n b k') /\
 ks.Nodup/\∃ps:List (List Int×Addr),ps.Perm (ks.zip bs)/\cs=ps.map Prod.snd/\ps.Pairwise λx y=>HT.lexLt y.1 x.1=false
section
variable{X:Cx}
def DP {k:List Int}(r:av (k.map V.int) its)(j:Nat)(v:Value)(hv:its.toArray[j]?=some v):∃t,v=.int (k.getD j 0) t:=by
 have hv':its[j]?=some v:=by simpa using hv
 obtain⟨y,hy,ry⟩:=r.at hv';rw[Qs]at hy;cases hb:k[j]? with
 |none=>rw[hb]at hy;cases hy
 |some b=>
  rw[hb]at hy;cases hy;obtain⟨t,rfl⟩:=(ry:∃t,v=.int b t);exact⟨t,by rw[Qn,hb];rfl⟩
theorem vT:∀{bs:List Addr}{us:List Value},av (bs.map V.ref) us->us=bs.map Value.ref
 |[],_,.nil=>rfl
 |_::_,_,.cons p q=>by
  rw[vT q];cases p;rfl
theorem j8:∀(bs:List Addr),av (bs.map V.ref) (bs.map Value.ref)
 |[]=>.nil
 |_::r=>.cons rfl (j8 r)
def rA {s':Shared}(I:Inv X pins σ H s)(kp:∀b o,s.heap.get? b=some o->s'.heap.get? b=some o)(h:bD X.K H b (k.map V.int)):∃its:Array Value,s'.heap.IsList b its/\br its k:=by
 obtain⟨its,r,pl,_⟩:=I.list h;obtain⟨o,ho,hc,n,hd⟩:=pl.isList;have:=r.length;rw[Qp]at this;exact⟨its.toArray,⟨o,kp _ _ ho,hc,n,hd⟩,by simp;lia,DP r⟩
def dx.val (I:Inv X pins σ H s)(kp:∀b o,s.heap.get? b=some o->s'.heap.get? b=some o)(h:dx X.K H c n b k):cZ s' c n (.ref b) k:=by
 obtain⟨hn,⟨hc,h⟩|⟨rs,kk,hc,e,hl,h,hr⟩⟩:=h
 .obtain ⟨its,h1,h2⟩:=rA I kp h;exact⟨b,its,rfl,h1,hn,.inl ⟨hc,h2⟩⟩
 .obtain ⟨its,r,pl,_⟩:=I.list h;obtain⟨o,ho,hc',n',hd⟩:=pl.isList;obtain rfl:=vT r;refine⟨b,_,rfl,⟨o,kp _ _ ho,hc',n',hd⟩,hn,.inr ⟨kk,hc,e,by simp[hl],λj u q hu hq=>?_⟩⟩;have hu':(rs.map Value.ref)[j]?=some u:=by simpa using hu
  rw[Qs]at hu';obtain⟨a,ha,rfl⟩:=QF.mp hu';obtain⟨l1,l2⟩:=hr j a q ha hq;obtain⟨ri,g1,g2⟩:=rA I kp l2;exact⟨l1,a,ri,rfl,g1,g2⟩
def qX(hu:X.A.units+64<JA):bp X (.builtin "sorted") (λxs H Q=>∃(p:Addr) (bs cs:List Addr),xs=[.ref p]/\bD X.K H p (bs.map V.ref)/\nJ X.K H bs cs/\∀l,H l=none->Q (.ref l) (aH H l (.lst (cs.map V.ref)))):=by
 intro pins s σ H xs us Q I r h;obtain⟨p,bs,cs,rfl,hq,⟨ks,c,n,hl,hk,hkd,ps,hps,rfl,hpp⟩,q⟩:=h;obtain⟨u,rfl,rx⟩:=xG r;cases rx;obtain⟨its,r',pl,hz⟩:=I.list hq;obtain rfl:=vT r';rw[Qp]at hz;have hbd:bs.Nodup:=by
  unfold List.Nodup;rw[Wn];intro i j hi hj hij e';have hi':i<ks.length:=by lia
  have hj':j<ks.length:=by lia
  obtain⟨k1,e1,q1⟩:=hk i bs[i] ks[i] (by simp[hi]) (by simp[hi']);obtain⟨k2,e2,q2⟩:=hk j bs[j] ks[j] (by simp[hj]) (by simp[hj']);rw[e']at q1;have:=(q1.val I λ_ _ h=>h).det (q2.val I λ_ _ h=>h);exact Wn.mp hkd i j hi' hj' hij (by rw[e1,e2,this])
 have hpm:(ps.map Prod.snd).Perm bs:=by
  have:=hps.map Prod.snd
  rwa[List.map_snd_zip (by lia)]at this
 have hso:(ps.map Prod.snd).Pairwise λx y=>HT.lexLt ((ks[bs.idxOf y]?).getD []) ((ks[bs.idxOf x]?).getD [])=false:=by
  have hm:∀p∈ps,(ks[bs.idxOf p.2]?).getD []=p.1:=λp hp=>by
   obtain⟨i,hi⟩:=Qw (hps.mem_iff.mp hp);obtain⟨h1,h2⟩:=VO.mp hi;obtain⟨h3,h4⟩:=Qa.mp h2;rw[<-h4,hbd.idxOf_getElem i h3,h1];rfl
  rw[WW];refine hpp.imp_of_mem λ{a b} ha hb h=>?_;rw[hm a ha,hm b hb];exact h
 have hcs:(ps.map Prod.snd).length=bs.length:=hpm.length_eq;clear hpp hps;generalize ps.map Prod.snd=cs at *
 have keyX:∀(i:Nat),i<bs.length->∃b k,bs[i]?=some b/\ks[i]?=some k:=λi hi=>⟨bs[i],ks[i],by simp[hi],by simp⟩;refine F9 (out:=cs.map Value.ref) pl.isList (by simpa using hz) (by rw[Qp,hcs];exact hz) (λs' kp=>⟨λv hv=>?_,?_⟩) ?_
 .obtain ⟨b,hb,rfl⟩:=WX.mp hv;obtain⟨i,hi⟩:=Qw hb;obtain⟨_,k,_,h2⟩:=keyX i (Qa.mp hi).1;obtain⟨k',_,hk'⟩:=hk i b k hi h2;obtain⟨l,_,e,⟨o,ho,hc,_⟩,_⟩:=hk'.val I kp;cases e;exact⟨o,ho,hc⟩
 .have ix:∀(i:Nat) b,bs[i]?=some b->bs.idxOf b=i:=λi b hb=>by
   obtain⟨hi,rfl⟩:=Qa.mp hb;exact hbd.idxOf_getElem i hi
  let key:Value->List Int:=λv=>match v with
   |.ref b=>(ks[bs.idxOf b]?).getD []
   |_=>[]
  have keyAt:∀(i:Nat) b k,bs[i]?=some b->ks[i]?=some k->key (.ref b)=k:=λi b k hb hk'=>by
   show(ks[bs.idxOf b]?).getD []=k;rw[ix i b hb,hk'];rfl
  refine⟨key,λx hx y hy=>?_,?_,hpm.map _,?_⟩
  .obtain ⟨b1,hb1,rfl⟩:=WX.mp hx;obtain⟨b0,hb0,rfl⟩:=WX.mp hy;obtain⟨i1,e1⟩:=Qw hb1;obtain⟨i0,e0⟩:=Qw hb0;obtain⟨_,k1,_,f1⟩:=keyX i1 (Qa.mp e1).1;obtain⟨_,k0,_,f0⟩:=keyX i0 (Qa.mp e0).1;obtain⟨k1',rfl,q1⟩:=hk _ _ _ e1 f1;obtain⟨k0',rfl,q0⟩:=hk _ _ _ e0 f0;rw[keyAt _ _ _ e1 f1,keyAt _ _ _ e0 f0,HT.bn,Lp rfl];exact cZ.lt (by show X.A.units+1+1+2<JA;lia) (q1.val I kp) (q0.val I kp)
  .have:(bs.map Value.ref).map key=ks:=by
    apply WZ;intro i;rw[Qs,Qs];by_cases hi:i<bs.length
    .obtain ⟨b,k,hb,hk'⟩:=keyX i hi;rw[hb,hk'];show some (key (.ref b))=some k;rw[keyAt i b k hb hk']
    .rw[QE (by lia),QE (by lia)];rfl
   rw[this];exact hkd
  .rw[WW];exact hso
 .have hsz:((s.heap.push (KI "list" #[] 0)).update s.heap.objs.size (Obj.mapSeq (·++(bs.map Value.ref).toArray))).objs.size=s.heap.objs.size+1:=by
   rw[Vq,size_push']
  have hoL:(((s.heap.push (KI "list" #[] 0)).update s.heap.objs.size (Obj.mapSeq (·++(bs.map Value.ref).toArray))).push (KI "list" (bs.map Value.ref).toArray 0)).get? (s.heap.objs.size+1)=some (KI "list" (bs.map Value.ref).toArray 0):=by
   rw[<-hsz];exact Qe _ rfl
  have ha:=Qi hoL;have hk1:∀b o,s.heap.get? b=some o->(((s.heap.push (KI "list" #[] 0)).update s.heap.objs.size (Obj.mapSeq (·++(bs.map Value.ref).toArray))).push (KI "list" (bs.map Value.ref).toArray 0)).get? b=some o:=by
   intro b o e;refine Qc _ ?_;rw[WS _ _ _ _ (QI (Qi e))];exact Qc _ e
  have hk2:∀b o,s.heap.get? b=some o->(KP s.heap (bs.map Value.ref) (cs.map Value.ref).toArray).get? b=some o:=by
   intro b o e;have hb:=Qi e;unfold KP sortedHeap;rw[WS _ _ _ _ (QI (WL hb))];refine Qc _ (Qc _ ?_);rw[WS _ _ _ _ (QI (WL hb))];exact hk1 b o e
  have hres:∃c,(KP s.heap (bs.map Value.ref) (cs.map Value.ref).toArray).get? (s.heap.objs.size+1)=some (KI "list" (cs.map Value.ref).toArray c):=by
   unfold KP sortedHeap;obtain⟨e1,ho1⟩:∃e1,((((s.heap.push (KI "list" #[] 0)).update s.heap.objs.size (Obj.mapSeq (·++(bs.map Value.ref).toArray))).push (KI "list" (bs.map Value.ref).toArray 0)).update (s.heap.objs.size+1) (Obj.mapSeq λ_=>#[])).get? (s.heap.objs.size+1)=some (KI "list" #[] e1):=⟨_,KM hoL (λ_=>#[])⟩;exact⟨_,KM (Qc _ (Qc _ ho1)) (λ_=>(cs.map Value.ref).toArray)⟩
  obtain⟨c,e⟩:=hres;exact⟨.ref (s.heap.objs.size+1),_,I.laid (t':=s.toks) hk2 (Vh _) (show bE X.prog X.w _ _ _ (.lst (cs.map V.ref))from⟨by rw[Qp,hcs];exact hz,_,c,j8 cs,e⟩),rfl,q _ (I.hok.fresh (Vh _))⟩
end
noncomputable def kj(ns:List Int):Int:=ns.getD (KQ (λi j=>decide (ns.getD i 0 > ns.getD j 0)) (ns.length-1)) 0
noncomputable def kl(ns:List Int):Int:=ns.getD (KQ (λi j=>decide (ns.getD i 0<ns.getD j 0)) (ns.length-1)) 0
theorem w5(bt:Nat->Nat->Bool):∀k,KQ bt k<=k
 |0=>Qg _
 |k+1=>by
  unfold KQ;split
  .exact Qg _
  .exact Nat.le_succ_of_le (w5 bt k)
set_option tactic.hygienic true in
theorem ja(val:Nat->Int):∀k i,i<=k->val i<=val (KQ (λi j=>decide (val i > val j)) k)
 |0,i,h=>by
  obtain rfl:i=0:=by lia
  exact Vi _
 |k+1,i,h=>by
  have ih:=ja val k;unfold KQ;split
  .rename_i z;have z':=Lw z;by_cases e:i=k+1
   .rw[e];exact Vi _
   .have:=ih i (by lia);lia
  .rename_i z;have z':¬val (k+1) > val (KQ (λi j=>decide (val i > val j)) k):=λy=>z (Lu y);by_cases e:i=k+1
   .rw[e];lia
   .exact ih i (by lia)
set_option tactic.hygienic true in
theorem jb(val:Nat->Int):∀k i,i<=k->val (KQ (λi j=>decide (val i<val j)) k)<=val i
 |0,i,h=>by
  obtain rfl:i=0:=by lia
  exact Vi _
 |k+1,i,h=>by
  have ih:=jb val k;unfold KQ;split
  .rename_i z;have z':=Lw z;by_cases e:i=k+1
   .rw[e];exact Vi _
   .have:=ih i (by lia);lia
  .rename_i z;have z':¬val (k+1)<val (KQ (λi j=>decide (val i<val j)) k):=λy=>z (Lu y);by_cases e:i=k+1
   .rw[e];lia
   .exact ih i (by lia)
section
variable{X:Cx}
def qY(hc:X.calm=true):bp X (.builtin "max") (λxs H Q=>∃(p:Addr) (ns:List Int),xs=[.ref p]/\bD X.K H p (ns.map V.int)/\0<ns.length/\Q (.int (kj ns)) H):=by
 intro pins s σ H xs us Q I r h;obtain⟨p,ns,rfl,hq,h0,q⟩:=h;obtain⟨u,rfl,rx⟩:=xG r;cases rx;obtain⟨its,r',pl,hz⟩:=I.list hq;have hlen:=r'.length;rw[Qp]at hlen;obtain⟨o,ho,_⟩:=id pl.isList;have hlt:=Qi ho;have e0:its.toArray.size=ns.length:=by simp;lia
 have val:∀(i:Nat) (v:Value),its.toArray[i]?=some v->∃t,v=.int (ns.getD i 0) t:=λi v hv=>by
  have hv':its[i]?=some v:=by simpa using hv
  obtain⟨y,hy,ry⟩:=r'.at hv';rw[Qs]at hy;cases hb:ns[i]? with
  |none=>rw[hb]at hy;cases hy
  |some b=>
   rw[hb]at hy;cases hy;obtain⟨t,rfl⟩:=(ry:∃t,v=.int b t);exact⟨t,by rw[Qn,hb];rfl⟩
 refine call_max_walk (Jr pl.isList ?_);refine⟨s.heap.objs.size,_,_,_,_,_,_,rfl,Walks.list (A:=X.A.in1) (I.ok.hd hc) s.heap.objs.size p (QI hlt) its.toArray,⟨⟨_,Qe _ rfl,rfl,rfl⟩,pl.isList.at λo e=>Qc _ e⟩,?_,by rw[e0];exact h0,CmpOf.ints_gt (λi=>ns.getD i 0) val,λv h' tk hv hk=>?_⟩
 .intro b hb;have h1:s.heap.objs.size<(s.heap.push {cls:=.type "list_iterator",data:=.fields #[.ref p,.int 0 0]}).objs.size:=Qi (Qe _ rfl);have:b=s.heap.objs.size\/b=p:=by simpa using hb
  rcases this with rfl|rfl
  .exact h1
  .exact Vb hlt h1
 .rw[e0]at hv;obtain⟨t,rfl⟩:=val _ v hv;exact⟨.int (kj ns),H,I.kept (t':=tk) λb o e=>hk b o (λhb=>by
   have:b=s.heap.objs.size:=by simpa using hb
   exact Lr (Qi e) (by rw[this];exact Q4 _)) (Qc _ e),⟨t,rfl⟩,q⟩
def qZ(hc:X.calm=true):bp X (.builtin "min") (λxs H Q=>∃(p:Addr) (ns:List Int),xs=[.ref p]/\bD X.K H p (ns.map V.int)/\0<ns.length/\Q (.int (kl ns)) H):=by
 intro pins s σ H xs us Q I r h;obtain⟨p,ns,rfl,hq,h0,q⟩:=h;obtain⟨u,rfl,rx⟩:=xG r;cases rx;obtain⟨its,r',pl,hz⟩:=I.list hq;have hlen:=r'.length;rw[Qp]at hlen;obtain⟨o,ho,_⟩:=id pl.isList;have hlt:=Qi ho;have e0:its.toArray.size=ns.length:=by simp;lia
 have val:∀(i:Nat) (v:Value),its.toArray[i]?=some v->∃t,v=.int (ns.getD i 0) t:=λi v hv=>by
  have hv':its[i]?=some v:=by simpa using hv
  obtain⟨y,hy,ry⟩:=r'.at hv';rw[Qs]at hy;cases hb:ns[i]? with
  |none=>rw[hb]at hy;cases hy
  |some b=>
   rw[hb]at hy;cases hy;obtain⟨t,rfl⟩:=(ry:∃t,v=.int b t);exact⟨t,by rw[Qn,hb];rfl⟩
 refine call_min_walk (Jr pl.isList ?_);refine⟨s.heap.objs.size,_,_,_,_,_,_,rfl,Walks.list (A:=X.A.in1) (I.ok.hd hc) s.heap.objs.size p (QI hlt) its.toArray,⟨⟨_,Qe _ rfl,rfl,rfl⟩,pl.isList.at λo e=>Qc _ e⟩,?_,by rw[e0];exact h0,CmpOf.ints_lt (λi=>ns.getD i 0) val,λv h' tk hv hk=>?_⟩
 .intro b hb;have h1:s.heap.objs.size<(s.heap.push {cls:=.type "list_iterator",data:=.fields #[.ref p,.int 0 0]}).objs.size:=Qi (Qe _ rfl);have:b=s.heap.objs.size\/b=p:=by simpa using hb
  rcases this with rfl|rfl
  .exact h1
  .exact Vb hlt h1
 .rw[e0]at hv;obtain⟨t,rfl⟩:=val _ v hv;exact⟨.int (kl ns),H,I.kept (t':=tk) λb o e=>hk b o (λhb=>by
   have:b=s.heap.objs.size:=by simpa using hb
   exact Lr (Qi e) (by rw[this];exact Q4 _)) (Qc _ e),⟨t,rfl⟩,q⟩
end
noncomputable def GF(ns:List Int):List Int:=ns.mergeSort λa b=>decide (a<=b)
theorem Fa:∀{ns:List Int}{its:List Value},av (ns.map V.int) its->J7 its ns
 |[],_,.nil=>.nil
 |n::ns,_,.cons r t=>by
  obtain⟨k,rfl⟩:=(r:∃t,_=Value.int n t);exact .cons _ _ (Fa t)
theorem E9:∀{ns:List Int}{its:List Value},J7 its ns->av (ns.map V.int) its
 |_,_,.nil=>.nil
 |_,_,.cons _ _ t=>.cons ⟨_,rfl⟩ (E9 t)
section
variable{X:Cx}
def FE(hc:X.calm=true):bp X (.builtin "max") (λxs H Q=>∃(p:Addr) (ns:List Int),xs=[.ref p]/\bM X.K H p (ns.map V.int)/\0<ns.length/\Q (.int (kj ns)) H):=by
 intro pins s σ H xs us Q I r h;obtain⟨p,ns,rfl,hq,h0,q⟩:=h;obtain⟨u,rfl,rx⟩:=xG r;cases rx;obtain⟨its,r',pl,hz⟩:=I.tuple hq;have hlen:=r'.length;rw[Qp]at hlen;have pt:s.heap.IsTuple p its.toArray:=pl;obtain⟨o,ho,_⟩:=id pt;have hlt:=Qi ho;have e0:its.toArray.size=ns.length:=by simp;lia
 have val:∀(i:Nat) (v:Value),its.toArray[i]?=some v->∃t,v=.int (ns.getD i 0) t:=λi v hv=>by
  have hv':its[i]?=some v:=by simpa using hv
  obtain⟨y,hy,ry⟩:=r'.at hv';rw[Qs]at hy;cases hb:ns[i]? with
  |none=>rw[hb]at hy;cases hy
  |some b=>
   rw[hb]at hy;cases hy;obtain⟨t,rfl⟩:=(ry:∃t,v=.int b t);exact⟨t,by rw[Qn,hb];rfl⟩
 refine call_max_walk (Js pt ?_);refine⟨s.heap.objs.size,_,_,_,_,_,_,rfl,Walks.tuple (A:=X.A.in1) (I.ok.hd hc) s.heap.objs.size p (QI hlt) its.toArray,⟨⟨_,Qe _ rfl,rfl,rfl⟩,pt.at λo e=>Qc _ e⟩,?_,by rw[e0];exact h0,CmpOf.ints_gt (λi=>ns.getD i 0) val,λv h' tk hv hk=>?_⟩
 .intro b hb;have h1:s.heap.objs.size<(s.heap.push {cls:=.type "tuple_iterator",data:=.fields #[.ref p,.int 0 0]}).objs.size:=Qi (Qe _ rfl);have:b=s.heap.objs.size\/b=p:=by simpa using hb
  rcases this with rfl|rfl
  .exact h1
  .exact Vb hlt h1
 .rw[e0]at hv;obtain⟨t,rfl⟩:=val _ v hv;exact⟨.int (kj ns),H,I.kept (t':=tk) λb o e=>hk b o (λhb=>by
   have:b=s.heap.objs.size:=by simpa using hb
   exact Lr (Qi e) (by rw[this];exact Q4 _)) (Qc _ e),⟨t,rfl⟩,q⟩
def FD(hc:X.calm=true):bp X (.builtin "min") (λxs H Q=>∃(p:Addr) (ns:List Int),xs=[.ref p]/\bM X.K H p (ns.map V.int)/\0<ns.length/\Q (.int (kl ns)) H):=by
 intro pins s σ H xs us Q I r h;obtain⟨p,ns,rfl,hq,h0,q⟩:=h;obtain⟨u,rfl,rx⟩:=xG r;cases rx;obtain⟨its,r',pl,hz⟩:=I.tuple hq;have hlen:=r'.length;rw[Qp]at hlen;have pt:s.heap.IsTuple p its.toArray:=pl;obtain⟨o,ho,_⟩:=id pt;have hlt:=Qi ho;have e0:its.toArray.size=ns.length:=by simp;lia
 have val:∀(i:Nat) (v:Value),its.toArray[i]?=some v->∃t,v=.int (ns.getD i 0) t:=λi v hv=>by
  have hv':its[i]?=some v:=by simpa using hv
  obtain⟨y,hy,ry⟩:=r'.at hv';rw[Qs]at hy;cases hb:ns[i]? with
  |none=>rw[hb]at hy;cases hy
  |some b=>
   rw[hb]at hy;cases hy;obtain⟨t,rfl⟩:=(ry:∃t,v=.int b t);exact⟨t,by rw[Qn,hb];rfl⟩
 refine call_min_walk (Js pt ?_);refine⟨s.heap.objs.size,_,_,_,_,_,_,rfl,Walks.tuple (A:=X.A.in1) (I.ok.hd hc) s.heap.objs.size p (QI hlt) its.toArray,⟨⟨_,Qe _ rfl,rfl,rfl⟩,pt.at λo e=>Qc _ e⟩,?_,by rw[e0];exact h0,CmpOf.ints_lt (λi=>ns.getD i 0) val,λv h' tk hv hk=>?_⟩
 .intro b hb;have h1:s.heap.objs.size<(s.heap.push {cls:=.type "tuple_iterator",data:=.fields #[.ref p,.int 0 0]}).objs.size:=Qi (Qe _ rfl);have:b=s.heap.objs.size\/b=p:=by simpa using hb
  rcases this with rfl|rfl
  .exact h1
  .exact Vb hlt h1
 .rw[e0]at hv;obtain⟨t,rfl⟩:=val _ v hv;exact⟨.int (kl ns),H,I.kept (t':=tk) λb o e=>hk b o (λhb=>by
   have:b=s.heap.objs.size:=by simpa using hb
   exact Lr (Qi e) (by rw[this];exact Q4 _)) (Qc _ e),⟨t,rfl⟩,q⟩
end
end L2
namespace Mini
open PySem PySem.Spec PyProof.Rows L2
section
variable{K:Qb}{as:List Addr}{H:Hp}{m:Me}{Q:VK}{X:Cx}
noncomputable def lA:dZ->Option (Str×Value)
 |.len=>some ("len",.builtin "len")
 |.int=>some ("int",.type "int")
 |.list=>some ("list",.type "list")
 |.tuple=>some ("tuple",.type "tuple")
 |.sum=>some ("sum",.builtin "sum")
 |.all=>some ("all",.builtin "all")
 |.sorted=>some ("sorted",.builtin "sorted")
 |.minS=>some ("min",.builtin "min")
 |.maxS=>some ("max",.builtin "max")
def tH(K:Qb)(b:dZ):List V->Hp->VK->Prop:=λvs H Q=>∃as m ws,aL K as m H/\aa K as H ws vs/\ai K as H Q (kx b ws m)
def yV (h:aa K as H [x] vs):∃v,vs=[v]/\ag K as H x v:=by
 obtain⟨v,r,rfl,q,t⟩:=aj.mp h;obtain rfl:=ao.mp t;exact⟨v,rfl,q⟩
def pG (h:aa K as H [x,y] vs):∃v u,vs=[v,u]/\ag K as H x v/\ag K as H y u:=by
 obtain⟨v,r,rfl,q,t⟩:=aj.mp h;obtain⟨u,rfl,q'⟩:=yV t;exact⟨v,u,rfl,q,q'⟩
def j9 (S:aL K as m H)(R:ag K as H w v)(h:vm m w=some xs):∃p vs,v=.ref p/\bD K H p vs/\aa K as H xs vs:=by
 cases w with
 |rol ys=>
  cases h;obtain⟨a,vs,rfl,hq,rr⟩:=bj.mp R;exact⟨a,vs,rfl,hq.sq,rr⟩
 |ref l=>
  obtain⟨b,hb,rfl⟩:=aG.mp R;obtain⟨a,vs,ha,e,r⟩:=zW S (zM h);rw[hb]at ha;cases ha;exact⟨b,vs,rfl,bD.of e,r⟩
 |_=>cases h
theorem gZ:∀{xs:List Wd}{vs:List V}{i:Int},aa K as H xs vs->jK xs=some i->∃ns:List Int,vs=ns.map V.int/\ns.sum=i
 |[],vs,i,R,h=>by cases h;exact⟨[],ao.mp R,rfl⟩
 |x::xs,vs,i,R,h=>by
  obtain⟨v,r,rfl,q,t⟩:=aj.mp R;cases x with
  |int j=>
   simp only[jK,QF]at h;obtain⟨k,hk,rfl⟩:=h;obtain⟨ns,rfl,rfl⟩:=gZ t hk;obtain rfl:=ab.mp q;exact⟨j::ns,rfl,by simp⟩
  |_=>cases h
theorem rq:∀{xs:List Wd}{vs:List V}{i:Bool},aa K as H xs vs->eX xs=some i->∃bs:List Bool,vs=bs.map V.bl/\bs.all id=i
 |[],vs,i,R,h=>by cases h;exact⟨[],ao.mp R,rfl⟩
 |x::xs,vs,i,R,h=>by
  obtain⟨v,r,rfl,q,t⟩:=aj.mp R;cases x with
  |bl j=>
   simp only[eX,QF]at h;obtain⟨k,hk,rfl⟩:=h;obtain⟨ns,rfl,rfl⟩:=rq t hk;obtain rfl:=ak.mp q;exact⟨j::ns,rfl,by simp⟩
  |_=>cases h
def vD{o:Option (List Wd)}{f:(List Wd)->Rz}(h:ai K as H Q (match o with|some a=>f a|none=>.no)):∃a,o=some a/\ai K as H Q (f a):=by
 cases o with
 |none=>exact h.elim
 |some a=>exact⟨a,rfl,h⟩
def DO{o:Option Int}{f:Int->Rz}(h:ai K as H Q (match o with|some a=>f a|none=>.no)):∃a,o=some a/\ai K as H Q (f a):=by
 cases o with
 |none=>exact h.elim
 |some a=>exact⟨a,rfl,h⟩
def DN{o:Option Bool}{f:Bool->Rz}(h:ai K as H Q (match o with|some a=>f a|none=>.no)):∃a,o=some a/\ai K as H Q (f a):=by
 cases o with
 |none=>exact h.elim
 |some a=>exact⟨a,rfl,h⟩
theorem jc:∀(xs ys:List Int),bZ xs ys=HT.lexLt xs ys
 |[],[]=>rfl
 |[],_::_=>rfl
 |_::_,[]=>rfl
 |x::xs,y::ys=>by
  show(if x=y then bZ xs ys else decide (x<y))=if x=y then HT.lexLt xs ys else decide (x<y);rw[jc xs ys]
theorem jd (p:List Int×α):∀l:List (List Int×α),(zw p l).Perm (p::l)
 |[]=>.refl _
 |q::r=>by
  show(if bZ p.1 q.1 then p::q::r else q::zw p r).Perm _;split
  .exact .refl _
  .exact ((jd p r).cons q).trans (.swap p q r)
theorem ga:∀l:List (List Int×α),(zG l).Perm l
 |[]=>.refl _
 |p::r=>by rw[yt];exact(jd p _).trans ((ga r).cons p)
theorem g0{α:Type}:∀{ps:List (List Int×α)},xJ (ps.map Prod.fst)=true->ps.Pairwise (λx y=>HT.lexLt x.1 y.1=true)/\∃n c,∀x∈ps,x.1.length=n/\x.1.head?=c
 |[],_=>⟨.nil,0,none,by simp⟩
 |[p],_=>⟨by simp,p.1.length,p.1.head?,by simp⟩
 |p::q::r,h=>by
  have h':(bZ p.1 q.1&&(decide (p.1.length=q.1.length)&&decide (p.1.head?=q.1.head?))&&xJ ((q::r).map Prod.fst))=true:=h;rw[Qh,Qh,Qh]at h';obtain⟨⟨a1,a2,a4⟩,a3⟩:=h';obtain⟨b1,n,c,b2⟩:=g0 a3;rw[jc]at a1;have bq:=b2 q (by simp);refine⟨Ww.mpr ⟨λy hy=>?_,b1⟩,n,c,λx hx=>?_⟩
  .rcases Qo.mp hy with rfl|hy
   .exact a1
   .exact yK _ _ _ a1 ((Ww.mp b1).1 y hy)
  .rcases Qo.mp hx with rfl|hx
   .exact ⟨(Lw a2).trans bq.1,(Lw a4).trans bq.2⟩
   .exact b2 x hx
theorem vU:∀(l:List Int),aa K as H (l.map Wd.int) (l.map V.int)
 |[]=>ao.mpr rfl
 |n::l=>aj.mpr ⟨_,_,rfl,ab.mpr rfl,vU l⟩
theorem xM:∀{xs:List Wd}{vs:List V}{k:List Int},aa K as H xs vs->yg xs=some k->vs=k.map V.int
 |[],vs,k,R,h=>by cases h;exact ao.mp R
 |x::xs,vs,k,R,h=>by
  obtain⟨v,r,rfl,q,t⟩:=aj.mp R;cases x with
  |int j=>
   have h':(yg xs).map (j::·)=some k:=h;obtain⟨k',hk,rfl⟩:=QF.mp h';rw[xM t hk,ab.mp q];rfl
  |_=>cases h
theorem q8(S:aL K as m H):∀{zs:List Wd}{vs:List V}{ks:List (List Int)},aa K as H zs vs->kh m zs=some ks ->
  ∃bs:List Addr,vs=bs.map V.ref/\ks.length=bs.length/\∀(i:Nat) b k,bs[i]?=some b->ks[i]?=some k->bD K H b (k.map V.int)
 |[],vs,ks,R,h=>by
  cases h;exact⟨[],ao.mp R,rfl,λi b k h1 _=>by simp at h1⟩
 |z::zs,vs,ks,R,h=>by
  obtain⟨v,r,rfl,q,t⟩:=aj.mp R;cases z with
  |ref l=>
   have h':(match zn m l with
    |some xs=>match yg xs,kh m zs with
     |some k,some ks=>some (k::ks)
     |_,_=>none
    |none=>none)=some ks:=h
   cases e1:zn m l with
   |none=>rw[e1]at h';cases h'
   |some xs=>
    rw[e1]at h';cases e2:yg xs with
    |none=>simp only[e2]at h';cases h'
    |some k=>
     cases e3:kh m zs with
     |none=>simp only[e2,e3]at h';cases h'
     |some ks'=>
      simp only[e2,e3]at h';cases h';obtain⟨bs,rfl,hl,hb⟩:=q8 S t e3;obtain⟨p,us,rfl,hq,rr⟩:=j9 S q (show vm m (.ref l)=some xs from e1);refine⟨p::bs,rfl,by simp[hl],λi b k' h1 h2=>?_⟩;cases i with
      |zero=>
       cases h1;cases h2;rw[<-xM rr e2];exact hq
      |succ i=>exact hb i b k' h1 h2
  |_=>cases h
def FC (h:iI kk=some k):∃c:Int,k=c::kk.flatten/\2<=c/\kk≠[]/\∀q∈kk,(q.length:Int)+1=c:=by
 cases kk with
 |nil=>cases h
 |cons r rs=>
  replace h:(if r.length≠0/\rs.all (λq=>q.length==r.length)=true then some (((r.length:Int)+1)::(r::rs).flatten)else none)=some k:=h
  by_cases z:r.length≠0/\rs.all (λq=>q.length==r.length)=true
  .rw[Lp z]at h;cases h;refine⟨_,rfl,by lia,by simp,λq hq=>?_⟩;rcases Qo.mp hq with rfl|hq
   .rfl
   .have:=eq_of_beq (QN.mp z.2 q hq);lia
  .rw[Lq z]at h;cases h
def cx (S:aL K as m H)(R:aa K as H xs vs)(hq:bD K H p vs)(h:qM m xs=some k):∃c k',k=c::k'/\dx K H c k'.length p k':=by
 unfold qM at h;cases e:yg xs with
 |some k'=>
  rw[e]at h;cases h;exact⟨0,k',rfl,rfl,.inl ⟨rfl,by rw[<-xM R e];exact hq⟩⟩
 |none=>
  rw[e]at h;obtain⟨kk,h1,h2⟩:=QB.mp h;obtain⟨c,rfl,hc,_,hl⟩:=FC h2;obtain⟨rs,rfl,h3,h4⟩:=q8 S R h1;exact⟨c,_,rfl,rfl,.inr ⟨rs,kk,hc,rfl,h3.symm,hq,λj r q a b=>⟨hl q (Qr b),h4 j r q a b⟩⟩⟩
theorem q9(S:aL K as m H):∀{zs:List Wd}{vs:List V}{ks:List (List Int)},aa K as H zs vs->wQ m zs=some ks ->
  ∃bs:List Addr,vs=bs.map V.ref/\ks.length=bs.length/\∀(i:Nat) b k,bs[i]?=some b->ks[i]?=some k->∃c k',k=c::k'/\dx K H c k'.length b k'
 |[],vs,ks,R,h=>by
  cases h;exact⟨[],ao.mp R,rfl,λi b k h1 _=>by simp at h1⟩
 |z::zs,vs,ks,R,h=>by
  obtain⟨v,r,rfl,q,t⟩:=aj.mp R;cases z with
  |ref l=>
   have h':(match zn m l with
    |some xs=>match qM m xs,wQ m zs with
     |some k,some ks=>some (k::ks)
     |_,_=>none
    |none=>none)=some ks:=h
   cases e1:zn m l with
   |none=>rw[e1]at h';cases h'
   |some xs=>
    rw[e1]at h';cases e2:qM m xs with
    |none=>simp only[e2]at h';cases h'
    |some k=>
     cases e3:wQ m zs with
     |none=>simp only[e2,e3]at h';cases h'
     |some ks'=>
      simp only[e2,e3]at h';cases h';obtain⟨bs,rfl,hl,hb⟩:=q9 S t e3;obtain⟨p,us,rfl,hq,rr⟩:=j9 S q (show vm m (.ref l)=some xs from e1);refine⟨p::bs,rfl,by simp[hl],λi b k' h1 h2=>?_⟩;cases i with
      |zero=>
       cases h1;cases h2;exact cx S rr hq e2
      |succ i=>exact hb i b k' h1 h2
  |_=>cases h
theorem rp (hz:ag K as H z (.ref b)):∀{ps:List (List Int×Wd)}{qs:List (List Int×Addr)},ps.map Prod.fst=qs.map Prod.fst->aa K as H (ps.map Prod.snd) ((qs.map Prod.snd).map V.ref) ->
  (zw (k,z) ps).map Prod.fst=(zw (k,b) qs).map Prod.fst/\aa K as H ((zw (k,z) ps).map Prod.snd) (((zw (k,b) qs).map Prod.snd).map V.ref)
 |[],[],_,_=>⟨rfl,aj.mpr ⟨_,_,rfl,hz,ao.mpr rfl⟩⟩
 |[],_::_,h,_=>by cases h
 |_::_,[],h,_=>by cases h
 |p::ps,q::qs,h,R=>by
  obtain⟨h1,h2⟩:=List.cons.inj (show p.1::ps.map Prod.fst=q.1::qs.map Prod.fst from h);obtain⟨v,r,e,r1,r2⟩:=aj.mp R;have e':V.ref q.2::(qs.map Prod.snd).map V.ref=v::r:=e;cases e';show(if bZ k p.1 then(k,z)::p::ps else p::zw (k,z) ps).map Prod.fst=(if bZ k q.1 then(k,b)::q::qs else q::zw (k,b) qs).map Prod.fst/\aa K as H ((if bZ k p.1 then(k,z)::p::ps else p::zw (k,z) ps).map Prod.snd) (((if bZ k q.1 then(k,b)::q::qs else q::zw (k,b) qs).map Prod.snd).map V.ref);rw[h1];cases bZ k q.1 with
  |true=>exact⟨Ls (k::·) (show p.1::ps.map Prod.fst=q.1::qs.map Prod.fst from h),aj.mpr ⟨_,_,rfl,hz,R⟩⟩
  |false=>
   obtain⟨i1,i2⟩:=rp hz h2 r2;exact⟨by show p.1::(zw (k,z) ps).map Prod.fst=q.1::(zw (k,b) qs).map Prod.fst;rw[h1,i1],aj.mpr ⟨_,_,rfl,r1,i2⟩⟩
theorem sF:∀{ks:List (List Int)}{zs:List Wd}{bs:List Addr},aa K as H zs (bs.map V.ref) ->
  (zG (ks.zip zs)).map Prod.fst=(zG (ks.zip bs)).map Prod.fst/\aa K as H ((zG (ks.zip zs)).map Prod.snd) (((zG (ks.zip bs)).map Prod.snd).map V.ref)
 |[],_,_,_=>⟨rfl,ao.mpr rfl⟩
 |_::_,[],bs,R=>by
  have:=ao.mp R;cases bs with
  |nil=>exact⟨rfl,ao.mpr rfl⟩
  |cons _ _=>cases this
 |k::ks,z::zs,bs,R=>by
  obtain⟨v,r,e,r1,r2⟩:=aj.mp R;cases bs with
  |nil=>cases e
  |cons b bs=>
   cases e;obtain⟨i1,i2⟩:=sF (ks:=ks) r2;rw[Wv,Wv,yt,yt];exact rp r1 i1 i2
def Cq {ks:List (List Int)}(hl:ks.length=bs.length)(hb:∀(i:Nat) b k,bs[i]?=some b->ks[i]?=some k->∃c k',k=c::k'/\dx K G c k'.length b k')(h:xJ ((zG (ks.zip bs)).map Prod.fst)=true):nJ K G bs ((zG (ks.zip bs)).map Prod.snd):=by
 obtain⟨h1,n,c,h2⟩:=g0 h;have hp:=ga (ks.zip bs);refine⟨ks,c.getD 0,n-1,hl,λi b k e1 e2=>?_,?_,_,hp,rfl,?_⟩
 .obtain ⟨c',k',rfl,q⟩:=hb i b k e1 e2;obtain⟨z1,z2⟩:=h2 (c'::k',b) (hp.mem_iff.mpr (Qr (VO.mpr ⟨e2,e1⟩)));have z1':k'.length+1=n:=z1;have z2':some c'=c:=z2;rw[<-z2',show n-1=k'.length by lia];exact⟨k',rfl,q⟩
 .have e:(zG (ks.zip bs)).map Prod.fst |>.Nodup:=by
   unfold List.Nodup;rw[WW];refine h1.imp λ{a b} c e=>?_;rw[e,yJ]at c;cases c
  have:=(hp.map Prod.fst).nodup_iff.mp e
  rwa[List.map_fst_zip (by lia)]at this
 .refine h1.imp λ{a b} c=>?_;cases d:HT.lexLt b.1 a.1 with
  |false=>rfl
  |true=>have:=yK _ _ _ c d;rw[yJ]at this;cases this
theorem g7:∀(r:List Int) (a:Int),yU a r<=a/\(∀x∈r,yU a r<=x)/\yU a r∈a::r
 |[],a=>⟨Vi _,by simp,by simp[yU]⟩
 |b::r,a=>by
  obtain⟨h1,h2,h3⟩:=g7 r (if b<a then b else a);show yU (if b<a then b else a) r<=a/\(∀x∈b::r,yU (if b<a then b else a) r<=x)/\yU (if b<a then b else a) r∈a::b::r;have hc:(if b<a then b else a)<=a/\(if b<a then b else a)<=b/\((if b<a then b else a)=a\/(if b<a then b else a)=b):=by split<;>lia
  generalize (if b<a then b else a)=c at *
  refine⟨by lia,λx hx=>?_,?_⟩
  .rcases Qo.mp hx with rfl|hx
   .lia
   .exact h2 x hx
  .rcases Qo.mp h3 with h3|h3
   .rw[h3];rcases hc.2.2 with q|q<;>simp[q]
   .exact Qk _ (Qk _ h3)
theorem g8:∀(r:List Int) (a:Int),a<=xm a r/\(∀x∈r,x<=xm a r)/\xm a r∈a::r
 |[],a=>⟨Vi _,by simp,by simp[xm]⟩
 |b::r,a=>by
  obtain⟨h1,h2,h3⟩:=g8 r (if b > a then b else a);show a<=xm (if b > a then b else a) r/\(∀x∈b::r,x<=xm (if b > a then b else a) r)/\xm (if b > a then b else a) r∈a::b::r;have hc:a<=(if b > a then b else a)/\b<=(if b > a then b else a)/\((if b > a then b else a)=a\/(if b > a then b else a)=b):=by split<;>lia
  generalize (if b > a then b else a)=c at *
  refine⟨by lia,λx hx=>?_,?_⟩
  .rcases Qo.mp hx with rfl|hx
   .lia
   .exact h2 x hx
  .rcases Qo.mp h3 with h3|h3
   .rw[h3];rcases hc.2.2 with q|q<;>simp[q]
   .exact Qk _ (Qk _ h3)
def getD_mem {k:List Int}(h:i<k.length):k.getD i 0∈k:=by simp[h]
def sD {k:List Int}(h:x∈k):∃i,i<k.length/\k.getD i 0=x:=by
 obtain⟨i,hi,e⟩:=List.getElem_of_mem h;exact⟨i,hi,by simp[hi,e]⟩
def sC(i:Int)(r:List Int):kl (i::r)=yU i r:=by
 obtain⟨h1,h2,h3⟩:=g7 r i;have ha:=w5 (λa b=>decide ((i::r).getD a 0<(i::r).getD b 0)) ((i::r).length-1);have hm:kl (i::r)∈i::r:=getD_mem (by have:(i::r).length=r.length+1:=rfl;lia);obtain⟨j,hj,e⟩:=sD h3;have hb:=jb (λa=>(i::r).getD a 0) ((i::r).length-1) j (by lia);rw[e]at hb;have hb':kl (i::r)<=yU i r:=hb;have:yU i r<=kl (i::r):=by
  rcases Qo.mp hm with h|h
  .rw[h];exact h1
  .exact h2 _ h
 lia
def sB(i:Int)(r:List Int):kj (i::r)=xm i r:=by
 obtain⟨h1,h2,h3⟩:=g8 r i;have ha:=w5 (λa b=>decide ((i::r).getD a 0 > (i::r).getD b 0)) ((i::r).length-1);have hm:kj (i::r)∈i::r:=getD_mem (by have:(i::r).length=r.length+1:=rfl;lia);obtain⟨j,hj,e⟩:=sD h3;have hb:=ja (λa=>(i::r).getD a 0) ((i::r).length-1) j (by lia);rw[e]at hb;have hb':xm i r<=kj (i::r):=hb;have:kj (i::r)<=xm i r:=by
  rcases Qo.mp hm with h|h
  .rw[h];exact h1
  .exact h2 _ h
 lia
def rm{o:Option (List Int)}{f:Int->List Int->Rz}(h:ai K as H Q (match o with|some (i::r)=>f i r|_=>.no)):∃i r,o=some (i::r)/\ai K as H Q (f i r):=by
 cases o with
 |none=>exact h.elim
 |some a=>
  cases a with
  |nil=>exact h.elim
  |cons i r=>exact⟨i,r,rfl,h⟩
set_option tactic.hygienic true in
def E8 (hu:X.A.units+64<JA)(hc:X.calm=true)(hb:lA b=some (nm,f)):bp X f (tH X.K b):=by
 intro pins s σ H xs us Q I r h;obtain⟨as,m,ws,S,R,q⟩:=h;cases b with
 |len=>
  cases hb;refine gH pins s σ H xs us Q I r ?_;rcases ws with _|⟨x,_|⟨_,_⟩⟩
  .exact q.elim
  .obtain ⟨ys,hs,q⟩:=vD (o:=yG m x) (f:=λys=>.ok (.int ys.length) m) q;obtain⟨v,rfl,q1⟩:=yV R;obtain⟨p,vs,rfl,hq,rr⟩:=wY S q1 hs;refine⟨p,vs,rfl,hq,?_⟩;rw[<-rr.length];exact q.ok S (ab.mpr rfl)
  .exact q.elim
 |int=>
  cases hb;refine FM pins s σ H xs us Q I r ?_;cases ws with
  |nil=>exact q.elim
  |cons x ws=>
   cases x with
   |int i=>
    cases ws with
    |nil=>
     obtain⟨v,rfl,q1⟩:=yV R;obtain rfl:=ab.mp q1;exact .inl ⟨i,rfl,q.ok S (ab.mpr rfl)⟩
    |cons _ _=>exact q.elim
   |bl i=>
    cases ws with
    |nil=>
     obtain⟨v,rfl,q1⟩:=yV R;obtain rfl:=ak.mp q1;exact .inr ⟨i,rfl,q.ok S (ab.mpr rfl)⟩
    |cons _ _=>exact q.elim
   |_=>exact q.elim
 |list=>
  cases hb;refine gI pins s σ H xs us Q I r ?_;rcases ws with _|⟨x,_|⟨_,_⟩⟩
  .exact q.elim
  .obtain ⟨ys,hs,q⟩:=vD (o:=yG m x) (f:=λys=>alloc m ys) q;obtain⟨v,rfl,q1⟩:=yV R;obtain⟨p,vs,rfl,hq,rr⟩:=wY S q1 hs;exact⟨p,vs,rfl,hq,(xq S rr q).2⟩
  .exact q.elim
 |tuple=>
  cases hb;refine jJ pins s σ H xs us Q I r ?_;rcases ws with _|⟨x,_|⟨_,_⟩⟩
  .exact q.elim
  .obtain ⟨ys,hs,q⟩:=vD (o:=yG m x) (f:=λys=>.ok (.tup ys) m) q;obtain⟨v,rfl,q1⟩:=yV R;obtain⟨p,vs,rfl,hq,rr⟩:=wY S q1 hs;refine⟨p,vs,rfl,?_⟩;rcases hq with hq|hq
   .refine .inl ⟨hq,λl hl=>?_⟩;obtain⟨T,S',R'⟩:=S.tup hl rr;exact q _ _ _ T S' R'
   .exact .inr ⟨hq,q.ok S (ah.mpr ⟨p,vs,rfl,hq,rr⟩)⟩
  .exact q.elim
 |sorted=>
  cases hb;refine qX hu pins s σ H xs us Q I r ?_;rcases ws with _|⟨x,_|⟨_,_⟩⟩
  .exact q.elim
  .cases x with
   |ref l=>
    obtain⟨zs,hs,q⟩:=vD (o:=zn m l) (f:=λzs=>match (wQ m zs).bind λks=>xz Wd ks zs with
     |some ys=>alloc m ys
     |none=>.no) q
    obtain⟨ys,ht,q⟩:=vD (o:=(wQ m zs).bind λks=>xz Wd ks zs) (f:=λys=>alloc m ys) q;obtain⟨ks,hk,ht⟩:=QB.mp ht;obtain⟨v,rfl,q1⟩:=yV R;obtain⟨p,vs,rfl,hq,rr⟩:=j9 S q1 (show vm m (.ref l)=some zs from hs);obtain⟨bs,rfl,hl,hb⟩:=q9 S rr hk;obtain⟨e1,e2⟩:=sF (ks:=ks) rr;rw[vn]at ht;have ht':(if xJ ((zG (ks.zip zs)).map Prod.fst)then some ((zG (ks.zip zs)).map Prod.snd)else none)=some ys:=ht;rw[e1]at ht';cases z:xJ ((zG (ks.zip bs)).map Prod.fst)with
    |false=>rw[z]at ht';cases ht'
    |true=>
     rw[z]at ht';cases ht';exact⟨p,bs,_,rfl,hq,Cq hl hb z,(xq S e2 q).2⟩
   |_=>exact q.elim
  .cases x<;>exact q.elim
 |minS=>
  cases hb;rcases ws with _|⟨x,_|⟨_,_⟩⟩
  .exact q.elim
  .obtain ⟨i,k,hs,q⟩:=rm (o:=(yG m x).bind yg) (f:=λi r=>.ok (.int (yU i r)) m) q;obtain⟨ys,h1,h2⟩:=QB.mp hs;obtain⟨v,rfl,q1⟩:=yV R;obtain⟨p,vs,rfl,hq,rr⟩:=wY S q1 h1;obtain rfl:=xM rr h2;rcases hq with hq|hq
   .exact qZ hc pins s σ H _ us Q I r ⟨p,i::k,rfl,hq,by simp,by rw[sC];exact q.ok S (ab.mpr rfl)⟩
   .exact FD hc pins s σ H _ us Q I r ⟨p,i::k,rfl,hq,by simp,by rw[sC];exact q.ok S (ab.mpr rfl)⟩
  .exact q.elim
 |maxS=>
  cases hb;rcases ws with _|⟨x,_|⟨_,_⟩⟩
  .exact q.elim
  .obtain ⟨i,k,hs,q⟩:=rm (o:=(yG m x).bind yg) (f:=λi r=>.ok (.int (xm i r)) m) q;obtain⟨ys,h1,h2⟩:=QB.mp hs;obtain⟨v,rfl,q1⟩:=yV R;obtain⟨p,vs,rfl,hq,rr⟩:=wY S q1 h1;obtain rfl:=xM rr h2;rcases hq with hq|hq
   .exact qY hc pins s σ H _ us Q I r ⟨p,i::k,rfl,hq,by simp,by rw[sB];exact q.ok S (ab.mpr rfl)⟩
   .exact FE hc pins s σ H _ us Q I r ⟨p,i::k,rfl,hq,by simp,by rw[sB];exact q.ok S (ab.mpr rfl)⟩
  .exact q.elim
 |sum=>
  cases hb;refine qL hc pins s σ H xs us Q I r ?_;rcases ws with _|⟨x,_|⟨_,_⟩⟩
  .exact q.elim
  .obtain ⟨i,hs,q⟩:=DO (o:=(vm m x).bind jK) (f:=λi=>.ok (.int i) m) q;obtain⟨ys,h1,h2⟩:=QB.mp hs;obtain⟨v,rfl,q1⟩:=yV R;obtain⟨p,vs,rfl,hq,rr⟩:=j9 S q1 h1;obtain⟨ns,rfl,rfl⟩:=gZ rr h2;exact⟨p,ns,rfl,hq,q.ok S (ab.mpr rfl)⟩
  .exact q.elim
 |all=>
  cases hb;refine qK hc pins s σ H xs us Q I r ?_;rcases ws with _|⟨x,_|⟨_,_⟩⟩
  .exact q.elim
  .obtain ⟨i,hs,q⟩:=DN (o:=(vm m x).bind eX) (f:=λi=>.ok (.bl i) m) q;obtain⟨ys,h1,h2⟩:=QB.mp hs;obtain⟨v,rfl,q1⟩:=yV R;obtain⟨p,vs,rfl,hq,rr⟩:=j9 S q1 h1;obtain⟨ns,rfl,rfl⟩:=rq rr h2;exact⟨p,ns,rfl,hq,q.ok S (ak.mpr rfl)⟩
  .exact q.elim
set_option tactic.hygienic true in
def Cp (S:aL K as m H)(R:ag K as H x v)(R':ag K as H y u)(h:ai K as H Q (qN x y m)):tG K v u H Q:=by
 unfold qN at h;split at h
 .rename_i i;obtain rfl:=ab.mp R';split at h
  .rename_i xs hs;split at h
   .rename_i w hw;obtain⟨p,vs,rfl,hq,rr⟩:=wY S R hs;have e:∃z,fk vs i=some z/\ag K as H w z:=by
     obtain⟨j,hj,hx⟩:=QB.mp hw;obtain⟨z,hz,rz⟩:=rr.get hx;refine⟨z,?_,rz⟩;unfold fk;have hj':ik vs.length i=some j:=by rw[<-rr.length];exact hj
     rw[hj'];exact hz
    obtain⟨z,hz,rz⟩:=e;rcases hq with hq|hq
    .exact .inl ⟨p,vs,i,z,rfl,rfl,hq,hz,h.ok S rz⟩
    .exact .inr (.inl ⟨p,vs,i,z,rfl,rfl,hq,hz,h.ok S rz⟩)
   .exact h.elim
  .exact h.elim
 .exact h.elim
noncomputable def eK:dD->Str×String
 |.append=>("append","list.append") |.clear=>("clear","list.clear") 
def GD(K:Qb)(n:dD):V->List V->Hp->VK->Prop:=λv vs H Q=>∃as m w ws,aL K as m H/\ag K as H w v/\aa K as H ws vs/\ai K as H Q (di n w ws m)
set_option tactic.hygienic true in
def pF(n:dD):eO X (eK n).2 (GD X.K n):=by
 intro pins s σ H v vs u us Q I r rs h;obtain⟨as,m,w,ws,S,R,Rs,q⟩:=h;unfold di at q;split at q
 .rename_i l;split at q
  .rename_i xs hl;obtain⟨a,ha,rfl⟩:=aG.mp R;obtain⟨b,zs,hb,e,rr⟩:=zW S hl;rw[ha]at hb;cases hb;have hz:zs.length<=sizeLine:=(I.lstM e).1;split at q
   .rename_i y;split at q
    .rename_i hlt;obtain⟨z,rfl,rz⟩:=yV Rs;obtain⟨T,S'⟩:=S.set ha hl (rr.append (.one rz));exact jW pins s σ H _ _ u us Q I r rs ⟨a,zs,z,rfl,rfl,e,by rw[<-rr.length];exact Ql hlt yP,q _ _ _ T S' (aN.mpr rfl)⟩
    .exact q.elim
   .obtain rfl:=ao.mp Rs;obtain⟨T,S'⟩:=S.set (ws:=[]) (vs:=[]) ha hl (ao.mpr rfl);exact EN pins s σ H _ _ u us Q I r rs ⟨a,zs,rfl,rfl,e,q _ _ _ T S' (aN.mpr rfl)⟩
   .exact q.elim
  .exact q.elim
 .exact q.elim
noncomputable def cU:Tg->String
 |.int=> "int" |.bool=> "bool" |.list=> "list" |.tuple=> "tuple" |.str=> "str" |.dict=> "dict"
def DM(K:Qb)(t:Tg):
  WB K (.type "NoneType") (.type (cU t))=some false/\WB K (.type "bool") (.type (cU t))=some (decide (t=.bool\/t=.int))/\WB K (.type "int") (.type (cU t))=some (decide (t=.int)) /\
  WB K (.type "str") (.type (cU t))=some (decide (t=.str))/\WB K (.type "list") (.type (cU t))=some (decide (t=.list))/\WB K (.type "tuple") (.type (cU t))=some (decide (t=.tuple))/\WB K (.type "dict") (.type (cU t))=some (decide (t=.dict)):=by
 cases t<;>refine⟨?_,?_,?_,?_,?_,?_,?_⟩<;>kernel_rfl
def mw(K:Qb)(t:Tg):List V->Hp->VK->Prop:=λvs H Q=>∃as m w v,vs=[v,.ty (cU t)]/\aL K as m H/\ag K as H w v/\ai K as H Q (dF (cJ t w m) m)
def Cn(m:Me)(t:Tg):cJ t .non m=some false/\(∀c,cJ t (.bl c) m=some (decide (t=.bool\/t=.int)))/\(∀i,cJ t (.int i) m=some (decide (t=.int)))/\(∀x,cJ t (.str x) m=some (decide (t=.str)))/\(∀ys,cJ t (.tup ys) m=some (decide (t=.tuple)))/\(∀ys,cJ t (.rol ys) m=some (decide (t=.list)))/\∀l ys,m[l]?=some (.lst ys)->cJ t (.ref l) m=some (decide (t=.list)):=by
 refine⟨?_,λc=>?_,λi=>?_,λx=>?_,λys=>?_,λys=>?_,λl ys h=>?_⟩
 rotate_right
 .have e:cJ t (.ref l) m=(match m[l]? with|some (.lst _)=>some (decide (t=.list))|some (.dct _ _)=>some (decide (t=.dict))|none=>none):=by cases t<;>rfl
  rw[e,h]
 all_goals cases t<;>rfl
def DK (m:Me)(t:Tg)(h:m[l]?=some (.dct ks ws)):cJ t (.ref l) m=some (decide (t=.dict)):=by
 have e:cJ t (.ref l) m=(match m[l]? with|some (.lst _)=>some (decide (t=.list))|some (.dct _ _)=>some (decide (t=.dict))|none=>none):=by cases t<;>rfl
 rw[e,h]
def E7(t:Tg):bp X (.builtin "isinstance") (mw X.K t):=by
 intro pins s σ H xs us Q I r h;obtain⟨as,m,w,v,rfl,S,R,q⟩:=h;obtain⟨b,hb,q⟩:=gR S q;obtain⟨u,u',rfl,ru,ru'⟩:=zk r;obtain rfl:u'=.type (cU t):=ru';obtain⟨k1,k2,k3,k4,k5,k6,k7⟩:=DM X.K t;obtain⟨z1,z2,z3,z4,z5,z6,z7⟩:=Cn m t;have fin:∀tk,EP X pins σ Q (.bool b) {s with toks:=tk}:=λtk=>⟨.bl b,H,I.tok tk,rfl,q⟩;cases w with
 |non=>
  obtain rfl:=aN.mp R;have e:b=false:=Option.some.inj (hb.symm.trans z1);subst e;exact xH I ru .non k1 fin
 |bl c=>
  obtain rfl:=ak.mp R;have e:b=decide (t=.bool\/t=.int):=Option.some.inj (hb.symm.trans (z2 _));subst e;exact xH I ru (.bl c) k2 fin
 |int i=>
  obtain rfl:=ab.mp R;have e:b=decide (t=.int):=Option.some.inj (hb.symm.trans (z3 _));subst e;exact xH I ru (.int i) k3 fin
 |str x=>
  obtain rfl:=aR.mp R;have e:b=decide (t=.str):=Option.some.inj (hb.symm.trans (z4 _));subst e;exact xH I ru (.str _) k4 fin
 |tup ys=>
  obtain⟨a,vs,rfl,hq,rr⟩:=ah.mp R;have e:b=decide (t=.tuple):=Option.some.inj (hb.symm.trans (z5 _));subst e;obtain rfl:u=.ref a:=ru;obtain⟨its,_,⟨o,h1,h2,_⟩,_⟩:=I.tuple hq;exact Wx PySem.W.kitx_tuple I.kIn ⟨o,h1,h2⟩ k6 (λz=>nomatch z) fin
 |rol ys=>
  obtain⟨a,vs,rfl,hq,rr⟩:=bj.mp R;have e:b=decide (t=.list):=Option.some.inj (hb.symm.trans (z6 _));subst e;obtain rfl:u=.ref a:=ru;obtain⟨its,_,p,_⟩:=I.list hq.sq;obtain⟨o,n,h1,h2,_⟩:=p;exact Wx PySem.W.kitx_list I.kIn ⟨o,h1,h2⟩ k5 (λz=>nomatch z) fin
 |ref l=>
  obtain⟨a,ha,rfl⟩:=aG.mp R;have hlm:l<m.length:=by rw[<-S.len];exact(Qa.mp ha).1
  have hg:m[l]?=some m[l]:=by simp[hlm]
  cases ho:m[l]with
  |lst ys=>
   rw[ho]at hg;obtain⟨a',us,ha',e2,_⟩:=zW S hg;rw[ha]at ha';cases ha';have e:b=decide (t=.list):=Option.some.inj (hb.symm.trans (z7 _ _ hg));subst e;exact xH I ru (.lst e2) k5 fin
  |dct ks us=>
   rw[ho]at hg;obtain⟨a',ha',xs,vs,td,_⟩:=S.get hg;rw[ha]at ha';cases ha';have e:b=decide (t=.dict):=Option.some.inj (hb.symm.trans (DK m t hg));subst e;obtain rfl:u=.ref a:=ru;exact Wx PySem.W.kitx_dict I.kIn (xI I td).2.typeIs k7 (λz=>nomatch z) fin
end
structure eM(J:It)(vs:List V)(ok:Hp->Prop):Prop where
 go:∀i H,ok H->i<vs.length->J.go i H
 yld:∀i H x H',ok H->i<vs.length->J.yld i H x H'->H'=H/\vs[i]?=some x
 stop:∀i H,ok H->vs.length<=i->J.stop i H
def iG(K:Qb)(as:List Addr)(H:Hp)(J:It)(xs:List Wd):Prop:=
 ∃vs ok,eM J vs ok/\ok H/\aa K as H xs vs/\∀H1 H2,Kp K H1 H2->ok H1->ok H2
def nI(K:Qb)(as:List Addr)(H:Hp)(w:Wd)(J:It):Prop:=match w with
 |.tup xs=>iG K as H J xs
 |.rol xs=>iG K as H J xs
 |.ref l=>∃a,as[l]?=some a/\J=ng K a
 |_=>True
def bU(K:Qb)(as:List Addr)(H:Hp)(R:It->Hp->Prop)(r:Rz):Prop:=match r with
 |.ok w m'=>(yG m' w).isSome=true/\∀as' H' J,Step as H as' H'->aL K as' m' H'->nI K as' H' w J->R J H'
 |_=>False
def fh(K:Qb)(g:En->Me->Rz):TI:=λσ H R=>∃as env m,aL K as m H/\aD K as H env σ/\bU K as H R (g env m)
def PI.or{X:Cx}{tg e:Expr}{a b:TI}(h1:PI X tg e a)(h2:PI X tg e b):PI X tg e (λσ H R=>a σ H R\/b σ H R):=λpins s σ H R I h=>by
 rcases h with h|h
 .exact h1 pins s σ H R I h
 .exact h2 pins s σ H R I h
def PI.imp{X:Cx}{tg e:Expr}{a b:TI}(h:PI X tg e a)(k:∀σ H R,b σ H R->a σ H R):PI X tg e b:=λpins s σ H R I q=>h pins s σ H R I (k σ H R q)
def km (h:PE X x (aI X.K g)):PI X tg x (fh X.K g):=by
 refine PI.imp (PI.or (Dq h) (Cf h)) λσ H R q=>?_;obtain⟨as,env,m,S,G,P⟩:=q;cases hr:g env m with
 |no=>rw[hr]at P;exact P.elim
 |exc c w m'=>rw[hr]at P;exact P.elim
 |ok w m'=>
  rw[hr]at P;obtain⟨hs,P⟩:=P;obtain⟨xs,hs⟩:=Wz.mp hs;cases w with
  |tup ys=>
   refine .inr ⟨as,env,m,S,G,?_⟩;rw[hr];intro as' H' v T S' R';obtain⟨a,vs,rfl,hq,rr⟩:=ah.mp R';refine⟨a,rfl,⟨vs,hq⟩,P as' H' _ T S' ⟨vs,λH=>bM X.K H a vs,⟨λi H h hi=>⟨vs,vs[i],h,by simp[hi]⟩,λi H x H' h hi q=>⟨q.1,q.2 vs h⟩,λi H h hi=>⟨vs,h,hi⟩⟩,hq,rr,λH1 H2 k h=>k.t _ _ h⟩⟩
  |rol ys=>
   refine .inl ⟨as,env,m,S,G,?_⟩;rw[hr];intro as' H' v T S' R';obtain⟨a,vs,rfl,hq,rr⟩:=bj.mp R';refine⟨a,rfl,⟨vs,hq.sq⟩,P as' H' _ T S' ⟨vs,λH=>er X.K H a vs,⟨λi H h hi=>⟨vs,vs[i],h.sq,by simp[hi]⟩,λi H x H' h hi q=>⟨q.1,q.2 vs h.sq⟩,λi H h hi=>⟨vs,h.sq,hi⟩⟩,hq,rr,λH1 H2 k h=>k.f _ _ h⟩⟩
  |ref l=>
   refine .inl ⟨as,env,m,S,G,?_⟩;rw[hr];intro as' H' v T S' R';obtain⟨a,ha,rfl⟩:=aG.mp R';obtain⟨a',us,ha',e,_⟩:=zW S' (zM hs);rw[ha]at ha';cases ha';exact⟨a,rfl,⟨us,bD.of e⟩,P as' H' _ T S' ⟨a,ha,rfl⟩⟩
  |non=>cases hs
  |bl b=>cases hs
  |int i=>cases hs
  |str x=>cases hs
theorem je {K:Qb}(st:Int):∀(n:Nat) (lo:Int),aa K as H (eV lo st n) ((QL n).map λ(i:Nat)=>V.int (lo+st*(i:Int)))
 |0,lo=>ao.mpr rfl
 |n+1,lo=>by
  rw[Vr,QJ,WO];refine aj.mpr ⟨_,_,rfl,ab.mpr (by simp),?_⟩;have e:((λ(i:Nat)=>V.int (lo+st*(i:Int))) ∘ Nat.succ)=λ(i:Nat)=>V.int (lo+st+st*(i:Int)):=by
   funext i;show V.int (lo+st*((i.succ:Nat):Int))=_;congr 1;rw[Nat.succ_eq_add_one,Int.natCast_add,Int.mul_add];lia
  rw[e];exact je st n (lo+st)
def FB{K:Qb}(lo:Int)(n:Nat):eM (fK lo n) ((QL n).map λ(i:Nat)=>V.int (lo+1*(i:Int))) (λ_=>True):=by
 refine⟨λi H _ hi=>?_,λi H x H' _ hi q=>?_,λi H _ hi=>?_⟩
 .show i<n;simpa using hi
 .obtain ⟨e,rfl⟩:=q;refine⟨e,?_⟩;have hi':i<n:=by simpa using hi
  rw[Qs,List.getElem?_range hi'];simp
 .show n<=i;simpa using hi
end Mini
namespace L2
open PySem PySem.Spec PyProof.Rows
def pE:List (TE×TE)->St->Hp->(List (V×V)->Hp->Prop)->Prop
 |[],_,H,Q=>Q [] H
 |(tk,tv)::r,σ,H,Q=>tk σ H λx H1=>tv σ H1 λy H2=>pE r σ H2 λps H3=>Q ((x,y)::ps) H3
abbrev VV:List (V×V)->List (Value×Value)->Prop:=Paired λp q=>RelV p.1 q.1/\RelV p.2 q.2
def nc(X:Cx)(pos:Pos)(keys:List (Option Expr))(values:List Expr)(trs:List (TE×TE)):Prop:=
 ∀(pins:List (Addr×Obj)) (s:Shared) (σ:St) (H:Hp) (Q:List (V×V)->Hp->Prop),Inv X pins σ H s->pE trs σ H Q ->
  IX (IY X.prog X.w) X.A (evalPairs (pairTrees keys values X.env pos)) (λvs s'=>∃ps H',Inv X pins σ H' s'/\VV ps vs/\Q ps H') X.xe s
def DJ:nc X pos [] [] []:=λpins s σ H Q I h=>pairTrees_nil_walk ⟨[],H,I,.nil,h⟩
def E6 (hk:PE X k tk)(hv:PE X v tv)(hr:nc X pos ks vs trs):
  nc X pos (some k::ks) (v::vs) ((tk,tv)::trs):=λpins s σ H Q I h=>
 pairTrees_cons_walk (aW (hk pins s σ H _ I h) λu s1 ⟨x,H1,I1,rx,q1⟩=>aW (hv pins s1 σ H1 _ I1 q1) λw2 s2 ⟨y,H2,I2,ry,q2⟩=>
  aW (hr pins s2 σ H2 _ I2 q2) λws s3 ⟨ps,H3,I3,rel,q3⟩=>⟨(x,y)::ps,H3,I3,.cons ⟨rx,ry⟩ rel,q3⟩)
def m9(K:Qb)(b:Addr)(xs:List V):Prop:=
 ∃(o:Obj) (its:Array Value) (n:Nat),K.lookup b=some o/\o.cls=.type "tuple" /\ o.data=.seq its n/\its.size<=sizeLine/\av xs its.toList
abbrev i8:=List (List Nat×Int×Int)
def uS(K:Qb)(w:IR):List DictEntry->i8->Prop
 |[],q=>q=[]
 |e::es,q=>∃k x y r t b,q=(k,x,y)::r/\e.key=.str ⟨k.toArray⟩ t/\e.hash=hashStr w ⟨k.toArray⟩/\e.val=.ref b/\m9 K b [.int x,.int y]/\uS K w es r
def ni(K:Qb)(w:IR)(a:Addr)(q:i8):Prop:=
 (a==Kg)=false/\∃o es ep,K.lookup a=some o/\o.ExactDict/\o.data=.dict es ep/\uS K w es.toList q
end L2
namespace Mini
open PySem PySem.Spec PyProof.Rows L2
set_option genInjectivity false in
structure Ctx where
 fns:List Str
 cons:List (Str×Int)
 dcs:List (Str×i8)
set_option genInjectivity false in
inductive Nd where
 |e (x:Expr)|a (xs:List Expr)
noncomputable def dq(sc:IN)(x:Str):Bool:=decide (sc.names.lookup x=some .globalImplicit)
noncomputable def iE(sc:IN)(x:Str):Bool:=decide (sc.names.lookup x=some .local) || (decide (sc.names.lookup x=some .cell) || decide (sc.names.lookup x=some .free))
noncomputable def yW(x:Str):Bool:=!(x==("__debug__":Str)) && !(x==("__classdict__":Str)) && !(x==("__name__":Str))
def zh:Expr->Bool
 |.Starred _ _=>false
 |_=>true
def yi:Expr->Bool
 |.Set _ _ _=>false
 |_=>true
noncomputable def yQ:Expr->Bool
 |.Slice _ _ _ _=>false
 |_=>true
def yf:Expr->Bool
 |.Call _ _ _ _=>false
 |_=>true
def zg:Ex->Bool
 |.rng _ _ _=>true
 |_=>false
def jf:Ex->Bool
 |.ife _ _ _=>true
 |_=>false
noncomputable def xr(scope sc:IN):IN:=
 {scope with names:=scope.names.map λ(n,k)=>if(k == .free&&sc.kind == .function&&sc.names.lookup n==some .cell)then(n,.cell)else(n,k)}
noncomputable def b9(sc:IN)(N:List Str)(scope:IN)(xs:List Str):Bool:=
 decide (scope.kind=.function)&&(xs.all (λx=>decide (scope.names.lookup x=some .local) || decide (scope.names.lookup x=some .cell)) &&
 (scope.names.all (λy=>!(decide (y.2=.local)) || decide (scope.names.lookup y.1=some .local)) &&
 (scope.names.all (λy=>!(decide (y.2=.free)) || (decide (sc.names.lookup y.1=some .cell) || decide (sc.names.lookup y.1=some .free))) &&
 (scope.names.all (λy=>!(decide (y.2=.cell)) || !(decide (scope.names.lookup y.1=some .free))) &&
 (N.all (λy=>decide (y∈xs) || (!(decide (scope.names.lookup y=some .local)) && !(decide (scope.names.lookup y=some .cell)))) &&
 (decide (yF N xs).Nodup&&xs.all (λx=>decide (scope.names.lookup (iX x)=none))))))))
def yu (h:b9 X.env.scope X.N scope xs=true):bQ X scope xs:=by
 unfold b9 at h;simp only[Qh,W7,Lx,QN,Vg,decide_eq_false_iff_not]at h;obtain⟨h1,h2,h3,h4,h5,h6,h7,h8⟩:=h;refine⟨h1,h2,λy hy e=>?_,λy hy e=>?_,λy hy e=>?_,λy hy e=>?_,h7,h8⟩
 .rcases h3 y hy with z|z
  .exact Lr e z
  .exact z
 .rcases h4 y hy with z|z
  .exact Lr e z
  .exact z
 .rcases h6 y hy with z|z
  .exact Lr z e
  .exact z
 .rcases h5 y hy with z|z
  .exact Lr e z
  .exact z
def g9(K:Qb)(g:List Wd->Me->Rz):Sp:=λvs H Q _=>∃as m ws,aL K as m H/\aa K as H ws vs/\ai K as H Q (g ws m)
noncomputable def zp:List Str:=["len","int","bool","list","tuple","abs","max","min","isinstance","range","str","dict","sum","all","zip","enumerate","sorted"]
def hG(K:Qb)(w:IR)(mg:Str->Option Value)(C:Ctx):Prop:=(∀(nm:Str) (i:Int),C.cons.lookup nm=some i->∃t,mg nm=some (.int i t))/\∀(nm:Str) (q:i8),C.dcs.lookup nm=some q->∃a,mg nm=some (.ref a)/\ni K w a q
structure bV(C:Ctx)(X:Cx)(cl:Nat->List Wd->Me->Rz)(d:Nat):Prop where
 room:cg d X.A
 calm:X.calm=true
 fn:∀(k:Nat) (nm:Str),C.fns[k]?=some nm->∃f fd ps,X.mg nm=some (.ref f)/\WU X.K (.ref f)=true/\Binds X.K fd ps []/\cN X.prog X.w X.K X.mg X.base dY d f fd ps (g9 X.K (cl k))
 con:hG X.K X.w X.mg C
 blt:∀nm∈zp,X.mg nm=none
def bV.comp{C:Ctx}{X Xc:Cx}{cl:Nat->List Wd->Me->Rz}{d:Nat}{scope:IN}{x:List Str}(h:bV C X cl d)(c:bJ X scope x Xc):bV C Xc cl d:=by
 refine⟨by rw[c.A];exact h.room,c.calm,λk nm e=>?_,?_,λnm e=>?_⟩
 .obtain ⟨f,fd,ps,h1,h2,h3,h4⟩:=h.fn k nm e;exact⟨f,fd,ps,by rw[c.mg];exact h1,by rw[c.K];exact h2,by rw[c.K];exact h3,by rw[c.prog,c.w,c.K,c.mg,c.base];exact h4⟩
 .rw[c.mg,c.K,c.w];exact h.con
 .rw[c.mg];exact h.blt nm e
def cq(K:Qb)(as:List Addr)(H:Hp)(Q:List V->Hp->Prop)(r:Rz):Prop:=match r with
 |.ok w m'=>∀as' H' vs,Step as H as' H'->aL K as' m' H'->aa K as' H' (zz w) vs->Q vs H'
 |_=>False
def jg(K:Qb)(g:En->Me->Rz):TA:=λσ H Q=>∃as env m,aL K as m H/\aD K as H env σ/\cq K as H Q (g env m)
theorem cq.bind{K:Qb}{as:List Addr}{H:Hp}{Q:VK}{Q1:List V->Hp->Prop}{r:Rz}{f:Wd->Me->Rz}(h:ai K as H Q (r.bind f))
  (k:∀w m' as' H' vs,Step as H as' H'->aL K as' m' H'->aa K as' H' (zz w) vs->ai K as' H' Q (f w m')->Q1 vs H'):cq K as H Q1 r:=by
 cases r with
 |ok w m'=>exact λas2 H2 v U S R=>k w m' as2 H2 v U S R (ai.step (r:=f w m') h U)
 |exc c w m'=>exact h
 |no=>exact h
def bW(cl:Nat->List Wd->Me->Rz)(X:Cx)(e:Ex):Nd->Prop
 |.e x=>(zg e=false->PE X x (aI X.K (af cl e))/\(jf e=false->PT X x (xy X.K (af cl e)))/\(∀op vs pos,x=.BoolOp op vs pos->PW X x (xy X.K (af cl e))))/\∀tg,PI X tg x (fh X.K (af cl e))
 |.a xs=>PA X xs (jg X.K (af cl e))
def bW.of{cl:Nat->List Wd->Me->Rz}{X:Cx}{e:Ex}{x:Expr}(h:PE X x (aI X.K (af cl e)))(ht:∀whole,isTrue x X.env whole=(do let v <-whole;standAt x.pos;holding [v] (truthy v)):=by intro _;rfl)
  (hb:∀op vs pos,x≠.BoolOp op vs pos:=by intros;intro z;cases z):bW cl X e (.e x):=
 ⟨λ_=>⟨h,λ_=>BL h ht,λop vs pos z=>Lr z (hb op vs pos)⟩,λtg=>km h⟩
def zf (h:zh e=true):I0 (e::es) env=(false,eval e env)::I0 es env:=by
 cases e<;>first|rfl|cases h
theorem zN:∀{es:List Expr},es.all zh=true->(IZ pos (I0 es env)).any (·.1)=false
 |[],_=>rfl
 |e::es,h=>by
  rw[W5,Qh]at h;rw[zf h.1];show(false || (IZ pos (I0 es env)).any (·.1))=false;rw[zN h.2];rfl
section
variable{cl:Nat->List Wd->Me->Rz}{X:Cx}{a b c:Ex}{x y:Expr}{pos:Pos}
def Cm (ha:PE X x (aI X.K (af cl a)))(hb:PE X y (aI X.K (af cl b))):PE X (.BinOp x (fF op) y pos) (aI X.K (af cl (.bin op a b))):=by
 refine PE.imp (Ae (Az op) ha hb) λσ H Q h=>?_;obtain⟨as,env,m,S,G,P⟩:=h;refine⟨as,env,m,S,G,ai.bind P λx m1 as1 H1 v T1 S1 R1 P1=>?_⟩;refine⟨as1,env,m1,S1,G.mono S T1,ai.bind P1 λy m2 as2 H2 u T2 S2 R2 P2=>?_⟩;exact BU S2 (R1.mono S1 T2) R2 P2
def Ck(ha:PE X x (aI X.K (af cl a))):PE X (.UnaryOp .USub x pos) (aI X.K (af cl (.neg a))):=by
 refine PE.imp (Ad Ca ha) λσ H Q h=>?_;obtain⟨as,env,m,S,G,P⟩:=h;refine⟨as,env,m,S,G,ai.bind P λx m1 as1 H1 v T1 S1 R1 P1=>?_⟩;cases x with
 |int i=>
  obtain rfl:=ab.mp R1;exact⟨i,rfl,P1.ok S1 (ab.mpr rfl)⟩
 |_=>exact P1.elim
def pC(ha:PE X x (aI X.K (af cl a))):PE X (.UnaryOp .Not x pos) (aI X.K (af cl (.not a))):=by
 refine PE.imp (BG ha) λσ H Q h=>?_;obtain⟨as,env,m,S,G,P⟩:=h;refine⟨as,env,m,S,G,ai.bind P λx m1 as1 H1 v T1 S1 R1 P1=>?_⟩;cases x with
 |bl k=>
  obtain rfl:=ak.mp R1;exact⟨k,rfl,P1.ok S1 (ak.mpr rfl)⟩
 |_=>exact P1.elim
def Cj(ha:PT X x (xy X.K (af cl a))):PT X (.UnaryOp .Not x pos) (xy X.K (af cl (.not a))):=by
 refine PT.imp (BI ha) λσ H Q h=>?_;obtain⟨as,env,m,S,G,P⟩:=h;refine⟨as,env,m,S,G,ai.bind P λx m1 as1 H1 v T1 S1 R1 P1=>?_⟩;cases x with
 |bl k=>
  obtain rfl:=ak.mp R1;obtain⟨b,e,q⟩:=P1.ok S1 (ak.mpr rfl);cases e;exact⟨k,rfl,q⟩
 |_=>exact P1.elim
def sA {K:Qb}(h:aI K (af cl (.and a b)) σ H Q):aI K (af cl a) σ H λx H1=>∃k,x=.bl k/\if k=true then aI K (af cl b) σ H1 Q else Q (.bl false) H1:=by
 obtain⟨as,env,m,S,G,P⟩:=h;refine⟨as,env,m,S,G,ai.bind P λx m1 as1 H1 v T1 S1 R1 P1=>?_⟩;cases x with
 |bl k=>
  obtain rfl:=ak.mp R1;refine⟨k,rfl,?_⟩;cases k with
  |true=>exact fB ⟨as1,env,m1,S1,G.mono S T1,P1⟩
  |false=>exact fC (P1.ok S1 (ak.mpr rfl))
 |_=>exact P1.elim
def rZ {K:Qb}(h:aI K (af cl (.or a b)) σ H Q):aI K (af cl a) σ H λx H1=>∃k,x=.bl k/\if k=true then Q (.bl true) H1 else aI K (af cl b) σ H1 Q:=by
 obtain⟨as,env,m,S,G,P⟩:=h;refine⟨as,env,m,S,G,ai.bind P λx m1 as1 H1 v T1 S1 R1 P1=>?_⟩;cases x with
 |bl k=>
  obtain rfl:=ak.mp R1;refine⟨k,rfl,?_⟩;cases k with
  |false=>exact fC ⟨as1,env,m1,S1,G.mono S T1,P1⟩
  |true=>exact fB (P1.ok S1 (ak.mpr rfl))
 |_=>exact P1.elim
def sy {K:Qb}(h:aI K g σ H Q)(k:∀v H,Q v H->Q' v H):aI K g σ H Q':=by
 obtain⟨as,env,m,S,G,P⟩:=h;refine⟨as,env,m,S,G,?_⟩;cases hr:g env m with
 |ok w m'=>rw[hr]at P;exact λas' H' v T S' R=>k _ _ (P as' H' v T S' R)
 |exc c w m'=>rw[hr]at P;exact P
 |no=>rw[hr]at P;exact P
def Ci (ha:PE X x (aI X.K (af cl a)))(hb:PE X (.BoolOp .And (y::r) pos) (aI X.K (af cl b))):PE X (.BoolOp .And (x::y::r) pos) (aI X.K (af cl (.and a b))):=
 PE.imp (BH ha hb) λσ H Q h=>sA h
def oK (ha:PE X x (aI X.K (af cl a)))(hb:PE X (.BoolOp .Or (y::r) pos) (aI X.K (af cl b))):PE X (.BoolOp .Or (x::y::r) pos) (aI X.K (af cl (.or a b))):=
 PE.imp (Al ha hb) λσ H Q h=>rZ h
def PW.imp{e:Expr}{t t':TT}(h:PW X e t)(k:∀σ H Q,t' σ H Q->t σ H Q):PW X e t':=λwhole pins s σ H Q I q=>h whole pins s σ H Q I (k σ H Q q)
def Ch (ha:PT X x (xy X.K (af cl a)))(hb:PW X (.BoolOp .And (y::r) pos) (xy X.K (af cl b))):PW X (.BoolOp .And (x::y::r) pos) (xy X.K (af cl (.and a b))):=
 PW.imp (BJ ha hb) λσ H Q h=>by
  refine sy (sA h) λv H1 q=>?_;obtain⟨k,e,q⟩:=q;refine⟨k,e,?_⟩;cases k with
  |true=>rw[Lp rfl]at q ⊢;exact q
  |false=>
   rw[Lq QC]at q ⊢;obtain⟨b',e',q⟩:=q;cases e';exact q
def oJ (ha:PT X x (xy X.K (af cl a)))(hb:PW X (.BoolOp .Or (y::r) pos) (xy X.K (af cl b))):PW X (.BoolOp .Or (x::y::r) pos) (xy X.K (af cl (.or a b))):=
 PW.imp (Ao ha hb) λσ H Q h=>by
  refine sy (rZ h) λv H1 q=>?_;obtain⟨k,e,q⟩:=q;refine⟨k,e,?_⟩;cases k with
  |false=>rw[Lq QC]at q ⊢;exact q
  |true=>
   rw[Lp rfl]at q ⊢;obtain⟨b',e',q⟩:=q;cases e';exact q
def lG (h:yi e=true):Jy op e=false:=by
 cases e<;>first|rfl|cases h
def sw {K:Qb}(h:aI K (af cl (.cmp op a b)) σ H Q):ij (rC K op) (aI K (af cl a)) (aI K (af cl b)) σ H Q:=by
 obtain⟨as,env,m,S,G,P⟩:=h;refine⟨as,env,m,S,G,ai.bind P λx m1 as1 H1 v T1 S1 R1 P1=>?_⟩;refine⟨as1,env,m1,S1,G.mono S T1,ai.bind P1 λy m2 as2 H2 u T2 S2 R2 P2=>?_⟩;exact⟨as2,m2,x,y,S2,R1.mono S1 T2,R2,P2⟩
def pK (hu:X.A.units+64<JA)(ha:PE X x (aI X.K (af cl a)))(hb:PE X y (aI X.K (af cl b)))(hs:yi y=true):PE X (.Compare x [cK op] [y] pos) (aI X.K (af cl (.cmp op a b))):=
 PE.imp (Do (j5 hu op) ha hb (lG hs)) λσ H Q h=>sw h
def Bb (hu:X.A.units+64<JA)(ha:PE X x (aI X.K (af cl a)))(hb:PE X y (aI X.K (af cl b)))(hs:yi y=true):PT X (.Compare x [cK op] [y] pos) (xy X.K (af cl (.cmp op a b))):=
 PT.imp (Dn (j5 hu op) ha hb (lG hs)) λσ H Q h=>sw h
end
section
variable{cl:Nat->List Wd->Me->Rz}{X:Cx}{a b c:Ex}{x y z:Expr}{pos:Pos}
def jh {K:Qb}(h:aI K (af cl (.chain p q a b c)) σ H Q):lU (rC K p) (rC K q) (aI K (af cl a)) (aI K (af cl b)) (aI K (af cl c)) σ H Q:=by
 obtain⟨as,env,m,S,G,P⟩:=h;refine⟨as,env,m,S,G,ai.bind P λx m1 as1 H1 v T1 S1 R1 P1=>?_⟩;refine⟨as1,env,m1,S1,G.mono S T1,ai.bind P1 λy m2 as2 H2 u T2 S2 R2 P2=>?_⟩;refine⟨as2,m2,x,y,S2,R1.mono S1 T2,R2,ai.bind P2 λz m3 as3 H3 w T3 S3 R3 P3=>?_⟩;cases z with
 |bl k=>
  obtain rfl:=ak.mp R3;refine⟨k,rfl,?_⟩;cases k with
  |false=>exact fC (P3.ok S3 (ak.mpr rfl))
  |true=>
   refine fB ⟨as3,env,m3,S3,((G.mono S T1).mono S1 T2).mono S2 T3,ai.bind P3 λt m4 as4 H4 r T4 S4 R4 P4=>?_⟩;exact⟨as4,m4,y,t,S4,(R2.mono S2 T3).mono S3 T4,R4,P4⟩
 |_=>exact P3.elim
def pJ (h:yi z=true):lastMarks [o,o'] [y,z]=false:=by
 show Jy o' z=false;exact lG h
def sr (hu:X.A.units+64<JA)(ha:PE X x (aI X.K (af cl a)))(hb:PE X y (aI X.K (af cl b)))(hc:PE X z (aI X.K (af cl c)))(hs:yi z=true):
  PE X (.Compare x [cK p,cK q] [y,z] pos) (aI X.K (af cl (.chain p q a b c))):=
 PE.imp (ET (j5 hu p) (j5 hu q) ha hb hc (pJ hs)) λσ H Q h=>jh h
def Fs (hu:X.A.units+64<JA)(ha:PE X x (aI X.K (af cl a)))(hb:PE X y (aI X.K (af cl b)))(hc:PE X z (aI X.K (af cl c)))(hs:yi z=true):
  PT X (.Compare x [cK p,cK q] [y,z] pos) (xy X.K (af cl (.chain p q a b c))):=
 PT.imp (ES (j5 hu p) (j5 hu q) ha hb hc (pJ hs)) λσ H Q h=>jh h
def Fq {K:Qb}(h:aI K (af cl (.ife c a b)) σ H Q):tD (xy K (af cl c)) (aI K (af cl a)) (aI K (af cl b)) σ H Q:=by
 obtain⟨as,env,m,S,G,P⟩:=h;refine⟨as,env,m,S,G,ai.bind P λx m1 as1 H1 v T1 S1 R1 P1=>?_⟩;cases x with
 |bl k=>
  obtain rfl:=ak.mp R1;refine⟨k,rfl,?_⟩;cases k with
  |true=>exact fB ⟨as1,env,m1,S1,G.mono S T1,P1⟩
  |false=>exact fC ⟨as1,env,m1,S1,G.mono S T1,P1⟩
 |_=>exact P1.elim
def Ba(hc:PT X z (xy X.K (af cl c)))(ha:PE X x (aI X.K (af cl a)))(hb:PE X y (aI X.K (af cl b))):PE X (.IfExp z x y pos) (aI X.K (af cl (.ife c a b))):=
 PE.imp (EW hc ha hb) λσ H Q h=>Fq h
def DH:PA X [] (jg X.K (af cl .unit)):=PA.imp yT λσ H Q h=>by
 obtain⟨as,env,m,S,G,P⟩:=h;exact P as H [] .refl S (ao.mpr rfl)
def DG (ha:PE X x (aI X.K (af cl a)))(hb:PA X xs (jg X.K (af cl b)))(hs:zh x=true):PA X (x::xs) (jg X.K (af cl (.pair a b))):=by
 refine PA.imp (zP ha hb (zf hs)) λσ H Q h=>?_;obtain⟨as,env,m,S,G,P⟩:=h;refine⟨as,env,m,S,G,?_⟩;have P':cq X.K as H Q ((af cl a env m).bind λx m1=>(af cl b env m1).bind λy m2=>.ok (.tup (x::zz y)) m2):=P;cases hr:af cl a env m with
 |no=>rw[hr]at P';exact P'
 |exc c w m'=>rw[hr]at P';exact P'
 |ok w m1=>
  rw[hr]at P';intro as1 H1 v T1 S1 R1;refine⟨as1,env,m1,S1,G.mono S T1,?_⟩;simp only[Rz.bind]at P';cases hr2:af cl b env m1 with
  |no=>rw[hr2]at P';exact P'
  |exc c w' m'=>rw[hr2]at P';exact P'
  |ok w' m2=>
   rw[hr2]at P';intro as2 H2 vs T2 S2 R2;exact P' as2 H2 (v::vs) (T1.trans T2) S2 (aj.mpr ⟨v,vs,rfl,R1.mono S1 T2,R2⟩)
def DF (hC:bV C X cl d)(hk:C.fns[k]?=some nm)(hg:X.env.scope.names.lookup nm=some .globalImplicit)(hn:yW nm=true)(hs:(x::xs).all zh=true)(ha:PA X (x::xs) (jg X.K (af cl a))):PE X (.Call (.Name nm p) (x::xs) [] pos) (aI X.K (af cl (.call k a))):=by
 obtain⟨f,fd,ps,h1,h2,h3,h4⟩:=hC.fn k nm hk;have hs':=hs;rw[W5,Qh]at hs';have hdb:(nm==("__debug__":Str))=false:=by
  unfold yW at hn;simp only[Qh,Vg]at hn;exact hn.1.1
 refine PE.imp (Dm h4 hC.room hg h1 h2 h3 .nil (AC (X:=X)) ha hdb (zf hs'.1) (zN hs'.2)) λσ H Q h=>?_;obtain⟨as,env,m,S,G,P⟩:=h;refine⟨as,env,m,S,G,cq.bind P λw m1 as1 H1 vs T1 S1 R1 P1=>?_⟩;refine⟨as1,m1,zz w,S1,?_,P1⟩;rw[QW];exact R1
def vW (hn:yW nm=true):(nm==("__debug__":Str))=false/\(nm==("__classdict__":Str))=false/\nm ≠ "__name__":=by
 unfold yW at hn;simp only[Qh,Vg]at hn;exact⟨hn.1.1,hn.1.2,by simpa using hn.2⟩
def A9 (hC:bV C X cl d)(hb:lA bf=some (nm,f))(hg:X.env.scope.names.lookup nm=some .globalImplicit)(hn:yW nm=true)(hs:(x::xs).all zh=true)(ha:PA X (x::xs) (jg X.K (af cl a))):PE X (.Call (.Name nm p) (x::xs) [] pos) (aI X.K (af cl (.blt bf a))):=by
 obtain⟨n1,n2,n3⟩:=vW hn;have hs':=hs;rw[W5,Qh]at hs';have hc:=E8 hC.room.units hC.calm hb;have go:PE X (.Call (.Name nm p) (x::xs) [] pos) (mm (tH X.K bf) (jg X.K (af cl a))):=by
  cases bf with
  |len=>cases hb;exact yO hc hg (hC.blt _ (by simp[zp])) PySem.boot_len ha n3 n1 (zf hs'.1) (zN hs'.2)
  |int=>cases hb;exact vO hc hg (hC.blt _ (by simp[zp])) PyProof.Rows.boot_int ha n3 n1 (zf hs'.1) (zN hs'.2)
  |list=>cases hb;exact vO hc hg (hC.blt _ (by simp[zp])) PyProof.Rows.boot_list ha n3 n1 (zf hs'.1) (zN hs'.2)
  |tuple=>cases hb;exact vO hc hg (hC.blt _ (by simp[zp])) PyProof.Rows.boot_tuple ha n3 n1 (zf hs'.1) (zN hs'.2)
  |sum=>cases hb;exact yO hc hg (hC.blt _ (by simp[zp])) PyProof.Rows.boot_sum ha n3 n1 (zf hs'.1) (zN hs'.2)
  |all=>cases hb;exact yO hc hg (hC.blt _ (by simp[zp])) PyProof.Rows.boot_all ha n3 n1 (zf hs'.1) (zN hs'.2)
  |sorted=>cases hb;exact yO hc hg (hC.blt _ (by simp[zp])) PyProof.Rows.boot_sorted ha n3 n1 (zf hs'.1) (zN hs'.2)
  |minS=>cases hb;exact yO hc hg (hC.blt _ (by simp[zp])) PyProof.Rows.boot_min ha n3 n1 (zf hs'.1) (zN hs'.2)
  |maxS=>cases hb;exact yO hc hg (hC.blt _ (by simp[zp])) PyProof.Rows.boot_max ha n3 n1 (zf hs'.1) (zN hs'.2)
 refine PE.imp go λσ H Q h=>?_;obtain⟨as,env,m,S,G,P⟩:=h;refine⟨as,env,m,S,G,cq.bind P λw m1 as1 H1 vs T1 S1 R1 P1=>?_⟩;exact⟨as1,m1,zz w,S1,R1,P1⟩
def DE(t:Tg):IU (Str.ofString (cU t))=some (.type (cU t)):=by
 cases t<;>decide +kernel
def A8 (hC:bV C X cl d)(hg:X.env.scope.names.lookup ("isinstance":Str)=some .globalImplicit)(hg':X.env.scope.names.lookup (Str.ofString (cU t))=some .globalImplicit)(hs:zh x=true)(ha:PE X x (aI X.K (af cl a))):PE X (.Call (.Name "isinstance" p) [x,.Name (Str.ofString (cU t)) p'] [] pos) (aI X.K (af cl (.isi t a))):=by
 have hm:X.mg (Str.ofString (cU t))=none:=hC.blt _ (by cases t<;>decide +kernel);have hty:PE X (.Name (Str.ofString (cU t)) p') (tC (.ty (cU t))):=Dv hg' hm (DE t) rfl (by cases t<;>decide +kernel) (by cases t<;>decide +kernel);refine PE.imp (yO (E7 t) hg (hC.blt _ (by simp[zp])) PyProof.Rows.boot_isinstance (zP ha (zP hty yT) (zf hs)) (by decide +kernel) (by decide +kernel) (zf hs) rfl) λσ H Q h=>?_;obtain⟨as,env,m,S,G,P⟩:=h;refine⟨as,env,m,S,G,ai.bind P λw m1 as1 H1 v T1 S1 R1 P1=>?_⟩;exact⟨as1,m1,w,v,rfl,S1,R1,P1⟩
def A7 (ha:PA X xs (jg X.K (af cl a))):PE X (.List xs pos) (aI X.K (af cl (.lst a))):=by
 refine PE.imp (B8 ha) λσ H Q h=>?_;obtain⟨as,env,m,S,G,P⟩:=h;refine⟨as,env,m,S,G,cq.bind P λw m1 as1 H1 vs T1 S1 R1 P1=>?_⟩;obtain⟨h1,h2⟩:=xq S1 R1 P1;exact⟨Qu h1 yP,h2⟩
set_option tactic.hygienic true in
def A6 (ha:PA X xs (jg X.K (af cl a))):PE X (.Tuple xs k pos) (aI X.K (af cl (.tup a))):=by
 refine PE.imp (B9 ha) λσ H Q h=>?_;obtain⟨as,env,m,S,G,P⟩:=h;refine⟨as,env,m,S,G,cq.bind P λw m1 as1 H1 vs T1 S1 R1 P1=>?_⟩;split at P1
 .rename_i hl;refine⟨by rw[<-R1.length];exact Qu hl yP,λp hp=>?_⟩;obtain⟨T,S',R'⟩:=S1.tup hp R1;exact P1 _ _ _ T S' R'
 .exact P1.elim
def A5(ha:PE X x (aI X.K (af cl a)))(hb:PE X y (aI X.K (af cl b)))(hs:yQ y=true):PE X (.Subscript x y pos) (aI X.K (af cl (.idx a b))):=by
 have hp:gF y:=λo i=>by cases y<;>first|rfl|cases hs
 refine PE.imp (ow B3 ha hb hp) λσ H Q h=>?_;obtain⟨as,env,m,S,G,P⟩:=h;refine⟨as,env,m,S,G,ai.bind P λx m1 as1 H1 v T1 S1 R1 P1=>?_⟩;refine⟨as1,env,m1,S1,G.mono S T1,ai.bind P1 λy m2 as2 H2 u T2 S2 R2 P2=>?_⟩;exact Cp S2 (R1.mono S1 T2) R2 P2
end
section
variable{cl:Nat->List Wd->Me->Rz}{X:Cx}{a b c:Ex}{x y:Expr}{pos:Pos}
set_option tactic.hygienic true in
def Ay {K:Qb}{lo:Option Int}(S:aL K as m H)(R:ag K as H w v)(h:ai K as H Q (e8 w lo hi m)):ls K v lo hi H Q\/nF K v lo hi H Q:=by
 have hs:∀(n d:Nat) (o:Option Int),aP n d o=HT.aP n d o:=λn d o=>by cases o<;>rfl
 have key:∀{xs:List Wd}{p:Addr}{vs:List V},bD K H p vs->aa K as H xs vs->ai K as H Q (alloc m ((xs.drop (aP xs.length 0 lo)).take (aP xs.length xs.length hi-aP xs.length 0 lo)))->ls K (.ref p) lo hi H Q:=λ{xs p vs} q r h=>by
  refine⟨p,vs,rfl,q,?_⟩;have e:(vs.drop (aP xs.length 0 lo)).take (aP xs.length xs.length hi-aP xs.length 0 lo)=jH vs lo hi:=by
   unfold jH;rw[r.length,hs,hs]
  rw[<-e];exact(xq S ((r.drop _).take _) h).2
 cases w with
 |tup xs=>
  obtain⟨p,vs,rfl,q,r⟩:=ah.mp R;have h':ai K as H Q (if aP xs.length 0 lo=0/\aP xs.length xs.length hi=xs.length then .no else .ok (.tup ((xs.drop (aP xs.length 0 lo)).take (aP xs.length xs.length hi-aP xs.length 0 lo))) m):=h;by_cases c:aP xs.length 0 lo=0/\aP xs.length xs.length hi=xs.length
  .rw[Lp c]at h';exact h'.elim
  .rw[Lq c]at h';refine .inr ⟨p,vs,rfl,q,by rw[<-r.length,<-hs,<-hs];exact c,λl hl=>?_⟩;have e:(vs.drop (aP xs.length 0 lo)).take (aP xs.length xs.length hi-aP xs.length 0 lo)=jH vs lo hi:=by
    unfold jH;rw[r.length,hs,hs]
   obtain⟨T,S',R'⟩:=S.tup hl ((r.drop (aP xs.length 0 lo)).take (aP xs.length xs.length hi-aP xs.length 0 lo));rw[<-e];exact h' _ _ _ T S' R'
 |rol ys=>
  obtain⟨p,vs,rfl,q,r⟩:=bj.mp R;exact .inl (key q.sq r h)
 |ref l=>
  obtain⟨p,hp,rfl⟩:=aG.mp R;have h':ai K as H Q (match zn m l with
   |some xs=>alloc m ((xs.drop (aP xs.length 0 lo)).take (aP xs.length xs.length hi-aP xs.length 0 lo))
   |none=>.no):=h
  cases hx:zn m l with
  |none=>rw[hx]at h';exact h'.elim
  |some xs=>
   rw[hx]at h';obtain⟨p',vs,hp',e,r⟩:=zW S (zM hx);rw[hp]at hp';cases hp';exact .inl (key (bD.of e) r h')
 |_=>exact h.elim
def A4 (ha:PE X x (aI X.K (af cl a)))(hb:PE X y (aI X.K (af cl b))):PE X (.Subscript x (.Slice (some y) none none p2) pos) (aI X.K (af cl (.slL a b))):=by
 refine PE.imp (EQ (ee.or B5) ha (Di hb) Dj) λσ H Q h=>?_;obtain⟨as,env,m,S,G,P⟩:=h;refine⟨as,env,m,S,G,ai.bind P λx m1 as1 H1 v T1 S1 R1 P1=>?_⟩;refine⟨as1,env,m1,S1,G.mono S T1,ai.bind P1 λy m2 as2 H2 u T2 S2 R2 P2=>?_⟩;cases y with
 |int i=>exact⟨i,ab.mp R2,Ay S2 (R1.mono S1 T2) P2⟩
 |_=>exact P2.elim
def bH (h:yf e=true):J0 e f env (eval e env)=eval e env:=by
 cases e<;>first|rfl|cases h
def qc (h:ys.all zh=true)(hl:ys.length<29):
  ((IZ cp (I0 ys env)).all (λx=>! x.1)&&(J2 cp (J3 [] env)).all (λx=>x.1.isSome)
   && decide (ys.length+([]:List J4).length+(if([]:List J4).isEmpty then 0 else 1)<30))=true:=by
 have all:∀{es:List Expr},es.all zh=true->(IZ cp (I0 es env)).all (λx=>! x.1)=true:=by
  intro es
  induction es with
  |nil=>intro _;rfl
  |cons e es ih=>
   intro h;rw[W5,Qh]at h;rw[zf h.1];show(true&&(IZ cp (I0 es env)).all (λx=>! x.1))=true;rw[ih h.2];rfl
 rw[all h];have e2:(J2 cp (J3 [] env)).all (λx=>x.1.isSome)=true:=rfl;rw[e2];have e3:decide (ys.length+([]:List J4).length+(if([]:List J4).isEmpty then 0 else 1)<30)=true:=by
  apply Lu;show ys.length+0+0<30;lia
 rw[e3];rfl
def sk(k:dD):Slot "list" (eK k).1 (eK k).2/\typeOf (.builtin (eK k).2)=pure (.type "method_descriptor"):=by
 cases k with
 |append=>exact⟨PySem.F.slot_list_append,PySem.F.type_list_append⟩
 |clear=>exact⟨PySem.F.slot_list_clear,PySem.F.type_list_clear⟩
def rY{K:Qb}{as:List Addr}{H:Hp}{Q:VK}{b:Bool}{r:Rz}(h:ai K as H Q (match b with|true=>r|false=>.no)):b=true/\ai K as H Q r:=by
 cases b with
 |true=>exact⟨rfl,h⟩
 |false=>exact h.elim
def qd (h:yb w m=true):∃l,w=.ref l/\(zn m l).isSome=true:=by
 cases w with
 |ref l=>
  refine⟨l,rfl,?_⟩;unfold yb bm at h;unfold zn;cases e:m[l]? with
  |none=>simp[e]at h
  |some o=>
   cases o with
   |lst xs=>rfl
   |dct ks us=>simp[e]at h
 |_=>cases h
def qe {K:Qb}(S:aL K as m H)(R:ag K as H w v)(hw:∃l,w=.ref l/\(zn m l).isSome=true):iN K "list" v H:=by
 obtain⟨l,rfl,hs⟩:=hw;obtain⟨p,hp,rfl⟩:=aG.mp R;obtain⟨xs,hs⟩:=Wz.mp hs;obtain⟨p',us,hp',e,_⟩:=zW S (zM hs);rw[hp]at hp';cases hp';exact⟨rfl,us,bD.of e⟩
def Fp (ho:PE X x (aI X.K (af cl a)))(hx:yf x=true)(hl:(ap.endLine==pos.line)=true):
  PE X (.Call (.Attribute x (eK k).1 ap) [] [] pos) (aI X.K (af cl (.meth k a .unit))):=by
 obtain⟨f1,f2⟩:=sk k;refine PE.imp (BZ PySem.F.plainAttrs_list f1 f2 (pF k) ho (bH hx) hl) λσ H Q h=>?_;obtain⟨as,env,m,S,G,P⟩:=h;refine⟨as,env,m,S,G,ai.bind P λw m1 as1 H1 v T1 S1 R1 P1=>?_⟩;obtain⟨hl',P1⟩:=rY P1;have P2:ai X.K as1 H1 Q (di k w [] m1):=P1;exact⟨qe S1 R1 (qd hl'),as1,m1,w,[],S1,R1,ao.mpr rfl,P2⟩
def DD (ho:PE X x (aI X.K (af cl a)))(ha:PA X (y::ys) (jg X.K (af cl b)))(hx:yf x=true)(hl:(ap.endLine==pos.line)=true)(hn:(y::ys).length<29)(hs:(y::ys).all zh=true):
  PE X (.Call (.Attribute x (eK k).1 ap) (y::ys) [] pos) (aI X.K (af cl (.meth k a b))):=by
 obtain⟨f1,f2⟩:=sk k;have hs':=hs;rw[W5,Qh]at hs';refine PE.imp (lF PySem.F.plainAttrs_list f1 f2 (pF k) ho ha (bH hx) (qc hs hn) hl (zf hs'.1) (zN hs'.2)) λσ H Q h=>?_;obtain⟨as,env,m,S,G,P⟩:=h;refine⟨as,env,m,S,G,ai.bind P λw m1 as1 H1 v T1 S1 R1 P1=>?_⟩;obtain⟨hl',P1⟩:=rY P1;refine⟨qe S1 R1 (qd hl'),?_⟩;refine⟨as1,env,m1,S1,G.mono S T1,cq.bind P1 λw2 m2 as2 H2 vs T2 S2 R2 P2=>?_⟩;exact⟨as2,m2,w,zz w2,S2,R1.mono S1 T2,R2,P2⟩
def si {K:Qb}(S:aL K as m H)(h:bU K as H R (fy (.int i) (.int j) (.int 1) m)):(-(2^62)<=i/\i<2^62/\-(2^62)<=j/\j<2^62)/\R (fK i (j-i).toNat) H:=by
 have h':bU K as H R (if -aq<=i/\i<=aq/\-aq<=j/\j<=aq/\((1:Int)=1\/(1:Int)=-1)then .ok (.tup (eV i 1 (fA i j 1))) m else .no):=h;by_cases hc:-(aq:Int)<=i/\i<=aq/\-(aq:Int)<=j/\j<=aq/\((1:Int)=1\/(1:Int)=-1)
 .rw[Lp hc]at h';have hlim:(aq:Int)=100000:=rfl;refine⟨by lia,h'.2 as H _ .refl S ?_⟩;have e:fA i j 1=(j-i).toNat:=Lp rfl;rw[e];exact⟨_,λ_=>True,FB i (j-i).toNat (K:=K),trivial,je 1 (j-i).toNat i,λ_ _ _ _=>trivial⟩
 .rw[Lq hc]at h';exact h'.elim
theorem bU.bind {K:Qb}(h:bU K as H R (r.bind f))(k:∀w m' as' H' v,Step as H as' H'->aL K as' m' H'->ag K as' H' w v->bU K as' H' R (f w m')->Q1 v H'):ai K as H Q1 r:=by
 cases r with
 |ok w m'=>
  intro as2 H2 v U S Rr;refine k w m' as2 H2 v U S Rr ?_;have h':bU K as H R (f w m'):=h;cases hr:f w m' with
  |ok w2 m2=>rw[hr]at h';exact⟨h'.1,λas3 H3 J U3 S3 q=>h'.2 as3 H3 J (U.trans U3) S3 q⟩
  |exc c w2 m2=>rw[hr]at h';exact h'
  |no=>rw[hr]at h';exact h'
 |exc c w m'=>exact h
 |no=>exact h
def DC (hC:bV C X cl d)(hg:X.env.scope.names.lookup ("range":Str)=some .globalImplicit)(hs:zh x=true)(hb:PE X x (aI X.K (af cl b))):
  PI X tg (.Call (.Name "range" p) [x] [] pos) (fh X.K (af cl (.rng (.lit (.int 0)) b (.lit (.int 1))))):=by
 refine PI.imp (FP hg (hC.blt _ (by simp[zp])) (zP hb yT (zf hs)) (zf hs)) λσ H R h=>?_;obtain⟨as,env,m,S,G,P⟩:=h;have P':bU X.K as H R ((af cl b env m).bind λy m2=>fy (.int 0) y (.int 1) m2):=P;refine⟨as,env,m,S,G,bU.bind P' λw m1 as1 H1 v T1 S1 R1 P1=>?_⟩;cases w with
 |int j=>
  obtain rfl:=ab.mp R1;obtain⟨⟨_,_,h1,h2⟩,q⟩:=si S1 P1;refine⟨j,rfl,h1,h2,?_⟩;simpa using q
 |_=>exact P1.elim
def DB (hC:bV C X cl d)(hg:X.env.scope.names.lookup ("range":Str)=some .globalImplicit)(hs:zh x=true)(hs':zh y=true)(ha:PE X x (aI X.K (af cl a)))(hb:PE X y (aI X.K (af cl b))):
  PI X tg (.Call (.Name "range" p) [x,y] [] pos) (fh X.K (af cl (.rng a b (.lit (.int 1))))):=by
 refine PI.imp (FO hg (hC.blt _ (by simp[zp])) (zP ha (zP hb yT (zf hs')) (zf hs)) (by rw[zf hs,zf hs'];rfl) (zf hs')) λσ H R h=>?_;obtain⟨as,env,m,S,G,P⟩:=h;have P':bU X.K as H R ((af cl a env m).bind λx m1=>(af cl b env m1).bind λy m2=>fy x y (.int 1) m2):=P;refine⟨as,env,m,S,G,bU.bind P' λw m1 as1 H1 v T1 S1 R1 P1=>?_⟩;refine⟨as1,env,m1,S1,G.mono S T1,bU.bind P1 λw2 m2 as2 H2 u T2 S2 R2 P2=>?_⟩;cases w with
 |int i=>
  cases w2 with
  |int j=>
   obtain rfl:=ab.mp R1;obtain rfl:=ab.mp R2;obtain⟨hb,q⟩:=si S2 P2;exact⟨i,j,rfl,hb,q⟩
  |_=>exact P2.elim
 |_=>cases w2<;>exact P2.elim
end
end Mini
namespace L2
open PySem PySem.Spec PyProof.Rows
section
variable{X:Cx}{pins:List (Addr×Obj)}{σ:St}{H:Hp}{s:Shared}{h':IS}
def nl {ch:List Addr}(I:Inv X pins σ H s)(hf:∀b∈ch,ku X pins H b)(k:∀b o,b∉ch->s.heap.get? b=some o->h'.get? b=some o)(hT:s.heap.objs.size<=T)(hz:xs.length<=sizeLine)(hv:av xs its)(ht:IsTup h' T its.toArray):Inv X pins σ (aH H T (.tup xs)) {s with heap:=h',toks:=t' }:=by
 have hn:H T=none:=I.hok.fresh hT;have nit:∀b u,H b=some u->b∉ch:=λb u e z=>by rw[(hf b z).1]at e;cases e
 have up:∀b u,H b=some u->aH H T (.tup xs) b=some u:=λb u e=>by rw[zd (zo e hn)];exact e
 refine I.step (g':=s.gens) (d':=s.drawn) (ch:=ch) (λb hb=>?_) (λb o _ _ hc e _=>k b o hc e) (λb o _ _ hc e _=>⟨o.slots,k b o hc e⟩) (λb o hc e n=>?_)
  (λb o hc e=>⟨o,k b o hc e⟩) (λb _ e=>up b _ e) (λb _ _ e=>up b _ e) (λb ps e=>⟨#[],by rw[up b _ e];simp⟩) (λm hm=>?_) (λb u e=>?_) I.bare
 .obtain ⟨f0,f1,f2,f3,f4,f5⟩:=hf b hb;exact⟨f3,f1,f4,f5⟩
 .rw[zd (QI (Ql (Qi e) hT))];exact n
 .obtain ⟨o,es,ep,ho,r⟩:=hm;exact⟨o,es,ep,k _ o (λz=>(hf _ z).2.1 rfl) ho,r⟩
 .by_cases hb:b=T
  .subst hb;rw[ze]at e;cases e;exact⟨hz,its,hv,ht⟩
  .rw[zd hb]at e;refine(I.hok b u e).stay (λc v hc q=>k c v ?_ q) (λc q=>up c _ q) λc _ q=>up c _ q;rcases hc with z|z
   .rw[z];exact nit b u e
   .exact nit c _ z
def Inv.turnedL{t':Nat}{ch:List Addr}(I:Inv X pins σ H s)(hf:∀b∈ch,ku X pins H b)(k:∀b o,b∉ch->s.heap.get? b=some o->h'.get? b=some o):Inv X pins σ H {s with heap:=h',toks:=t' }:=by
 have nit:∀b u,H b=some u->b∉ch:=λb u e z=>by rw[(hf b z).1]at e;cases e
 refine I.step (g':=s.gens) (d':=s.drawn) (ch:=ch) (λb hb=>?_) (λb o _ _ hc e _=>k b o hc e) (λb o _ _ hc e _=>⟨o.slots,k b o hc e⟩) (λb o hc e n=>n)
  (λb o hc e=>⟨o,k b o hc e⟩) (λb _ e=>e) (λb _ _ e=>e) (λb ps e=>⟨#[],by rw[e];simp⟩) (λm hm=>?_) (λb u e=>?_) I.bare
 .obtain ⟨f0,f1,f2,f3,f4,f5⟩:=hf b hb;exact⟨f3,f1,f4,f5⟩
 .obtain ⟨o,es,ep,ho,r⟩:=hm;exact⟨o,es,ep,k _ o (λz=>(hf _ z).2.1 rfl) ho,r⟩
 .refine (I.hok b u e).stay (λc v hc q=>k c v ?_ q) (λc q=>q) λc _ q=>q;rcases hc with z|z
  .rw[z];exact nit b u e
  .exact nit c _ z
end
def Yp(H:Hp)(v:V)(H':Hp)(x y:V):Prop:=∃T,H T=none/\v=.ref T/\H'=aH H T (.tup [x,y])
end L2
namespace L2
open PySem PySem.Spec PyProof.Rows
open AutoSeq1 (wpAny_loadPart')
end L2
namespace L2
open PySem PySem.Spec PyProof.Rows
section
variable{prog:IQ}{w:IR}{A:IV}{E:Value->Shared->Prop}{s:Shared}{it d:Addr}{i n:Nat}{od:Obj}{es:Array DictEntry}
def lL {R:Option Value->Shared->Prop}{Q':α->Shared->Prop}(quiet:A.handled=none)(go:s.heap.get? it=some o)(fo:o.data=.fields fs)(hk:k<fs.size)(end':∀h',Vf it s.heap h'->R none {s with heap:=h' }):
  IX (IY prog w) A.in1 (do KR (.ref it) k .none;let e <-newExc (.type "StopIteration") [];raiseNew e:Sem α) Q'
   (λe s'=>IX (IY prog w) A (do let b <-isInstance e (.type "StopIteration");if b=true then pure none else throw e) R E s') s:=by
 apply Jj;apply KS go fo hk;apply Jj;simp only[newExc,newTuple];refine Jj (JT (Jj (m:=KT _ _) (KU (a:=Value.none) (by first|rfl|(simp only[KT];rfl)) (JT ?_ (by size_fits)))) (by size_fits));simp only[raiseNew];apply Jj;apply wpAny_handled;rw[show A.in1.handled=none from quiet];apply wpAny_throw;apply Jj;refine wpAny_isInstance (T:="StopIteration") (b:=true) ⟨_,Qe _ rfl,rfl⟩ isSubtype_stop ?_;exact Jp (end' _ (((Wa.update ..).extBut.push _).push _))
def Ax (nosys:(d==Kg)=false)(g:s.heap.get? d=some od)(ex:od.ExactDict)(dat:od.data=.dict es n)(sz:es.size=n)(end':R (.ref s.heap.objs.size) {s with heap:=s.heap.push {cls:=.type "dict_keyiterator",data:=.fields #[.ref d,.int 0 0,.int n 0,.int n 0]} }):IX (IY prog w) A (Jo (.ref d)) R E s:=by
 have ty:s.TypeIs (.ref d) "dict":=⟨od,g,ex.1⟩;apply KV ty F.slot_dict_iter;refine JR F.slot_dict_iter ty F.entry_dict_iter ?_ (F.args_dict_iter_1 _);unfold Builtin.«dict.__iter__» Builtin.Dict.dictSlotNone;apply Jj;apply Jj;apply Kk ty;apply Jp (a:=Value.ref d);apply Jj (m:=Builtin.Dict.showsAll d);unfold Builtin.Dict.showsAll;rw[nosys];apply Jp;apply Jj;apply KW g dat;apply Jj;apply KY g dat;apply Jj;refine JT (Jp ⟨_,rfl,"dict_keyiterator",_,⟨_,Qe _ rfl,rfl⟩,F.slot_dict_keyiterator_next.lookup,?_⟩);rw[sz];exact end'
def Aw (at_:s.heap.IsKeyIter it d i n n)(g:s.heap.get? d=some od)(dat:od.data=.dict es n)(sz:es.size=n)(hi:i<n)(end':∀h',h'.IsKeyIter it d (i+1) n n->Wa it s.heap h'->R (some (es[i]'(by lia)).key) {s with heap:=h' }):IX (IY prog w) A (Jm (.ref it)) R E s:=by
 obtain⟨o,go,co,fo⟩:=id at_;have ty:=at_.typeIs;unfold Jm;apply Jj;apply KH;apply JQ ty F.slot_dict_keyiterator_next;refine JR F.slot_dict_keyiterator_next ty F.entry_dict_keyiterator_next ?_ (F.args_dict_keyiterator_next_1 _);refine Jj (Jp (Jj (Jj (Jj (KZ ty (Jp ?_))))));refine Jj (K0 go fo ?_);have no:Builtin.Dict_items.ownsTuple "dict_keyiterator"=false:=by decide
 simp only[no,Wb,if_false];change IX _ _ (ite ((Value.ref d==Value.none)=true) _ _) _ _ s;rw[show(Value.ref d==Value.none)=false from rfl,Lq QC];refine Jj (Jp (Jj (KW g dat ?_)));rw[sz,Lq (by simp)];refine Jj (Jp (Jj (KY g dat ?_)));rw[Lq (by simp)];apply Jp;have hi':i<es.size:=by lia
 simp only[show ¬(i:Int)<0 from by lia,if_false,Wl,We hi'];refine Jj (Jj (KZ ty (Jp (Jj (K7 ty ?_)))));apply Jj (m:=KR (.ref it) 1 (Jq ((i:Int)+1)));apply KS go fo (by simp);have nx:(s.heap.update it (Obj.mapFields (·.setIfInBounds 1 (Jq ((i:Int)+1))))).IsKeyIter it d (i+1) n n:=by
  refine⟨_,WK _ go (Obj.isFreed_of_fields (Obj.data_mapFields fo _)),by rw[Obj.cls_mapFields];exact co,?_⟩;rw[Obj.data_mapFields fo];simp[Jq]
 refine Jj (Jk (Jj (K7 nx.typeIs ?_)));exact Jp (Jp ⟨_,rfl,Jp (end' _ nx (Wa.update ..))⟩)
def Av (quiet:A.handled=none)(at_:s.heap.IsKeyIter it d i n n)(g:s.heap.get? d=some od)(dat:od.data=.dict es n)(sz:es.size=n)(hi:n<=i)(end':∀h',Vf it s.heap h'->R none {s with heap:=h' }):IX (IY prog w) A (Jm (.ref it)) R E s:=by
 obtain⟨o,go,co,fo⟩:=id at_;have ty:=at_.typeIs;unfold Jm;apply Jj;apply KH;apply JQ ty F.slot_dict_keyiterator_next;refine JR F.slot_dict_keyiterator_next ty F.entry_dict_keyiterator_next ?_ (F.args_dict_keyiterator_next_1 _);refine Jj (Jp (Jj (Jj (Jj (KZ ty (Jp ?_))))));refine Jj (K0 go fo ?_);have no:Builtin.Dict_items.ownsTuple "dict_keyiterator"=false:=by decide
 simp only[no,Wb,if_false];change IX _ _ (ite ((Value.ref d==Value.none)=true) _ _) _ _ s;rw[show(Value.ref d==Value.none)=false from rfl,Lq QC];refine Jj (Jp (Jj (KW g dat ?_)));rw[sz,Lq (by simp)];refine Jj (Jp (Jj (KY g dat ?_)));rw[Lq (by simp)];apply Jp;simp only[show ¬(i:Int)<0 from by lia,if_false,Wl,WF (show es.size<=i by lia)];refine Jj (Jj (KZ ty (Jp ?_)));exact lL quiet go fo (by rw[no];exact Nat.zero_lt_succ 3) end'
end
section
variable{X:Cx}{pins:List (Addr×Obj)}{σ:St}{H:Hp}{s:Shared}
def zT (I:Inv X pins σ H s)(h:zZ X.K H d xs):(d==Kg)=false/\∃o es,s.heap.get? d=some o/\o.ExactDict/\o.data=.dict es xs.length/\es.size=xs.length/\∀(i:Nat) (x:TK),xs[i]?=some x->es[i]?=some (lI x):=by
 obtain⟨⟨a0,o,es,a1,a2,a3,a4,a5⟩,_,_⟩:=I.hok d _ h.1;refine⟨a0,o,es,a1,a2,a3,by rw[<-QT,a4,Qp],λi x hx=>?_⟩;rw[<-QD,a4,Qs,hx];rfl
def uP(K:Qb)(d:Addr)(n:Nat):It:=
 ⟨λi H=>∃xs,zZ K H d xs/\xs.length=n/\i<n,λi H x H'=>H'=H/\∀xs,zZ K H d xs->∃k,xs[i]?=some k/\x=.ref k.2.1,λi H=>∃xs,zZ K H d xs/\xs.length=n/\n<=i⟩
def F8 {K:Qb}(it:Addr):cW P w K tg (uP K d n) [it] it (λi h=>h.IsKeyIter it d i n n) where
 mem:=by simp
 obj:=λi h st b hb=>by
  have e:b=it:=by simpa using hb
  subst e;obtain⟨o,e,c,d⟩:=st;exact⟨o,e,λv z=>by rw[d]at z;cases z⟩
 keep:=λi h h' st k=>by
  obtain⟨o,e,r⟩:=st;exact⟨o,k it (by simp) o e,r⟩
 item:=by
  intro X hP hw hK hc i pins s σ H E I hf st hg;subst hP hw hK;obtain⟨xs,td,hn,hi⟩:=hg;obtain⟨_,od,es,g,ex,dat,sz,rows⟩:=zT I td;obtain⟨f0,f1,f2,f3,f4,f5⟩:=hf it (by simp);have hx:i<xs.length:=by lia
  have e2:=rows i _ (Qm hx);subst hn;refine Aw st g dat sz hi λh' st' sb=>?_;have I1:Inv X pins σ H {s with heap:=h' }:=I.turned (t':=s.toks) (λb o hb e=>(sb.2 b hb).trans e) f0 f1 f3 f4 f5;obtain⟨o,e,c,dd⟩:=id st';have hk:(es[i]'(by lia)).key=.ref xs[i].2.1:=by
   rw[We (by lia)]at e2;rw[Option.some.inj e2];rfl
  rw[hk];refine⟨_,rfl,iK (s:={s with heap:=h' }) e c dd (by decide) ⟨.ref xs[i].2.1,H,I1,rfl,⟨rfl,λys ty=>?_⟩,st',λb hb=>(hf b hb).1⟩⟩;obtain⟨_,od',es',g',_,dat',sz',rows'⟩:=zT I ty;rw[g]at g';cases g';rw[dat]at dat';injection dat' with d1 d2
  subst d1;have hy:i<ys.length:=by lia
  have e3:=rows' i _ (Qm hy);rw[e2]at e3;refine⟨ys[i],Qm hy,?_⟩;have e4:=Ls DictEntry.key (Option.some.inj e3);exact Ls V.ref (Value.ref.inj e4)
 done:=by
  intro X hP hw hK hc i pins s σ H E I hf st hg;subst hP hw hK;obtain⟨xs,td,hn,hi⟩:=hg;obtain⟨_,od,es,g,ex,dat,sz,rows⟩:=zT I td;obtain⟨f0,f1,f2,f3,f4,f5⟩:=hf it (by simp);subst hn;exact Av (I.ok.hd hc) st g dat sz hi λh' eb=>⟨rfl,I.turned (t':=s.toks) (λb o hb e=>eb b o hb e) f0 f1 f3 f4 f5⟩
 self:=λ_ _ _ _ _ st h=>wpAny_pyIter_keyiter st h
def tS(X:Cx)(tl:TE):TI:=λσ H R=>tl σ H λx H1=>∃d xs,x=.ref d/\zZ X.K H1 d xs/\R (uP X.K d xs.length) H1
def Fo (hl:PE X l tl):PI X tg l (tS X tl):=by
 intro pins s σ H R I h;refine aW (hl pins s σ H _ I h) λv s1 ⟨x,H1,I1,r1,q1⟩=>?_;obtain⟨d,xs,e,td,q⟩:=q1;subst e;cases r1;obtain⟨nosys,od,es,g,ex,dat,sz,_⟩:=zT I1 td;refine Ax nosys g ex dat sz ?_;refine⟨s1.heap.objs.size,[s1.heap.objs.size],_,_,H1,rfl,I1.kept (t':=s1.toks) λb o e=>Qc _ e,F8 _,⟨_,Qe _ rfl,rfl,rfl⟩,λb hb=>?_,q⟩;have e:b=s1.heap.objs.size:=by simpa using hb
 subst e;exact I1.fpOk (Qg _) (I1.hok.fresh (Qg _))
end
section
variable{prog:IQ}{w:IR}{A:IV}{E:Value->Shared->Prop}{s:Shared}
def Au (at_:s.heap.IsTupleIter it t i)(tp:s.heap.IsTuple t its)(hi:i<its.size)(end':∀h',h'.IsTupleIter it t (i+1)->Wa it s.heap h'->R its[i] {s with heap:=h' }):IX (IY prog w) A (Builtin.SmallTypes.nextOf (.ref it)) R E s:=by
 obtain⟨o,go,co,fo⟩:=id at_;obtain⟨ot,gt,_,n,ft⟩:=tp;have ty:=at_.typeIs;unfold Builtin.SmallTypes.nextOf;apply Jj;apply JQ ty F.slot_tuple_iterator_next;refine JR F.slot_tuple_iterator_next ty F.entry_tuple_iterator_next ?_ (F.args_tuple_iterator_next_1 _);apply Jj (m:=K8 (.ref it) 0);apply JO go fo (x:=.ref t) rfl;change IX _ _ (ite ((Value.ref t==Value.none)=true) _ _) _ _ s;rw[show(Value.ref t==Value.none)=false from rfl,Lq QC];apply Jj (m:=K8 (.ref it) 1);apply JO go fo (x:=.int i 0) rfl;apply Jj (m:=seqItems? (.ref t));apply K9 gt ft;simp only[Wl,We hi];refine Jj (KS go fo (by simp) (Jp ⟨_,rfl,Jp (end' _ ⟨_,WK _ go (Obj.isFreed_of_fields (Obj.data_mapFields fo _)),by rw[Obj.cls_mapFields];exact co,?_⟩ (Wa.update ..))⟩));rw[Obj.data_mapFields fo];simp[Jq]
def At (quiet:A.handled=none)(at_:s.heap.IsTupleIter it t i)(tp:s.heap.IsTuple t its)(hi:its.size<=i)(end':∀h' e,Vf it s.heap h'->(∃o,h'.get? e=some o/\o.cls=.type "StopIteration")->E (.ref e) {s with heap:=h' }):IX (IY prog w) A (Builtin.SmallTypes.nextOf (.ref it)) R E s:=by
 obtain⟨o,go,co,fo⟩:=id at_;obtain⟨ot,gt,_,n,ft⟩:=tp;have ty:=at_.typeIs;unfold Builtin.SmallTypes.nextOf;apply Jj;apply JQ ty F.slot_tuple_iterator_next;refine JR F.slot_tuple_iterator_next ty F.entry_tuple_iterator_next ?_ (F.args_tuple_iterator_next_1 _);apply Jj (m:=K8 (.ref it) 0);apply JO go fo (x:=.ref t) rfl;change IX _ _ (ite ((Value.ref t==Value.none)=true) _ _) _ _ s;rw[show(Value.ref t==Value.none)=false from rfl,Lq QC];apply Jj (m:=K8 (.ref it) 1);apply JO go fo (x:=.int i 0) rfl;apply Jj (m:=seqItems? (.ref t));apply K9 gt ft;simp only[Wl,WF hi];apply Jj;apply Ki;apply Jj;apply KS go fo (by simp);apply Jj;simp only[newExc,newTuple];refine Jj (JT (Jj (m:=KT _ _) (KU (a:=Value.none) (by first|rfl|(simp only[KT];rfl)) (JT ?_ (by size_fits)))) (by size_fits));simp only[raiseNew];apply Jj;apply wpAny_handled
 first|rw[show A.in1.handled=none from quiet]|rw[quiet]
 apply wpAny_throw;exact end' _ _ (((Wa.update ..).extBut.push _).push _) ⟨_,Qe _ rfl,rfl⟩
def bX(b:Bool)(h:IS)(l:Addr)(its:Array Value):Prop:=match b with
 |false=>h.IsList l its
 |true=>h.IsTuple l its
def bS(b:Bool)(h:IS)(it l:Addr)(i:Nat):Prop:=match b with
 |false=>h.IsListIter it l i
 |true=>h.IsTupleIter it l i
theorem bX.at{b:Bool}{h h':IS}{l:Addr}{its:Array Value}(x:bX b h l its)(k:∀o,h.get? l=some o->h'.get? l=some o):bX b h' l its:=by
 cases b with
 |false=>exact Heap.IsList.at x k
 |true=>obtain⟨o,g,r⟩:=x;exact⟨o,k o g,r⟩
theorem bS.at{b:Bool}{h h':IS}{it l:Addr}{i:Nat}(x:bS b h it l i)(k:∀o,h.get? it=some o->h'.get? it=some o):bS b h' it l i:=by
 cases b with
 |false=>exact Heap.IsListIter.at x k
 |true=>exact Heap.IsTupleIter.at x k
def bS.there (x:bS b h it l i):∃o,h.get? it=some o/\∀v,o.data≠.cell v:=by
 cases b with
 |false=>obtain⟨o,g,_,d⟩:=x;exact⟨o,g,λv z=>by rw[d]at z;cases z⟩
 |true=>obtain⟨o,g,_,d⟩:=x;exact⟨o,g,λv z=>by rw[d]at z;cases z⟩
def lK (b:Bool)(at_:bS b s.heap it l i)(sq:bX b s.heap l its)(hi:i<its.size)(end':∀h',bS b h' it l (i+1)->Wa it s.heap h'->R its[i] {s with heap:=h' }):IX (IY prog w) A (Builtin.SmallTypes.nextOf (.ref it)) R E s:=by
 cases b with
 |false=>exact wpAny_nextOf_list_item at_ sq (We hi) end'
 |true=>exact Au at_ sq hi end'
def oI (b:Bool)(quiet:A.handled=none)(at_:bS b s.heap it l i)(sq:bX b s.heap l its)(hi:its.size<=i)(end':∀h' e,Vf it s.heap h'->(∃o,h'.get? e=some o/\o.cls=.type "StopIteration")->E (.ref e) {s with heap:=h' }):IX (IY prog w) A (Builtin.SmallTypes.nextOf (.ref it)) R E s:=by
 cases b with
 |false=>exact wpAny_nextOf_list_end quiet at_ sq (WF hi) end'
 |true=>exact At quiet at_ sq hi end'
end
noncomputable def dg(b:Bool)(l:Addr):Obj:=match b with
 |false=>{cls:=.type "list_iterator",data:=.fields #[.ref l,.int 0 0]}
 |true=>{cls:=.type "tuple_iterator",data:=.fields #[.ref l,.int 0 0]}
section
variable{prog:IQ}{w:IR}{A:IV}{E:Value->Shared->Prop}{s:Shared}
def oH (b:Bool)(sq:bX b s.heap l its)(end':R (.ref s.heap.objs.size) {s with heap:=s.heap.push (dg b l)}):IX (IY prog w) A (Jo (.ref l)) R E s:=by
 cases b with
 |false=>exact Jr sq end'
 |true=>exact Js sq end'
def gb(b:Bool)(l:Addr):(dg b l).isFreed=false:=by cases b<;>rfl
def pI (b:Bool)(g:h.get? it=some (dg b l)):bS b h it l 0:=by
 cases b with
 |false=>exact⟨_,g,rfl,rfl⟩
 |true=>exact⟨_,g,rfl,rfl⟩
noncomputable def zH(b1 b2:Bool)(h:IS)(l1 l2:Addr):IS:=((((h.push (dg b1 l1)).push (dg b2 l2)).push {cls:=.type "tuple",data:=.seq #[.ref h.objs.size,.ref (h.push (dg b1 l1)).objs.size]}).push {cls:=.type "tuple",data:=.seq #[.none,.none]})
noncomputable def zF(b1 b2:Bool)(h:IS)(l1 l2:Addr):IS:=(zH b1 b2 h l1 l2).push {cls:=.type "zip",data:=.fields #[.none,.bool false,.bool false,.ref ((h.push (dg b1 l1)).push (dg b2 l2)).objs.size,.ref (((h.push (dg b1 l1)).push (dg b2 l2)).push {cls:=.type "tuple",data:=.seq #[.ref h.objs.size,.ref (h.push (dg b1 l1)).objs.size]}).objs.size]}
def F7(b1 b2:Bool)(l1 l2:Addr)(xs ys:Array Value):
  Meets (Builtin.«zip.__new__» ⟨[.type "zip",.ref l1,.ref l2],[]⟩) (λ_ R s=>bX b1 s.heap l1 xs/\bX b2 s.heap l2 ys/\R (.ok (.ret (.ref (zH b1 b2 s.heap l1 l2).objs.size))) {s with heap:=zF b1 b2 s.heap l1 l2}):=
 .of_wp λprog w A R s h=>by
  obtain⟨hp,g,d,tk,os⟩:=s;obtain⟨q1,q2,h⟩:=h;have sb:=sub_zip;have k1:bX b1 (Shared.heap ⟨hp,g,d,tk,os⟩) l1 xs:=q1;have k2:bX b2 (Shared.heap ⟨hp.push (dg b1 l1),g,d,tk,os⟩) l2 ys:=q2.at λo e=>Qc _ e
  wp_walk using oH b1 k1,oH b2 k2
  exact⟨_,rfl,h⟩
def FA (b1 b2:Bool)(q1:bX b1 s.heap l1 xs)(q2:bX b2 s.heap l2 ys)(end':∀h',La h' (s.heap.objs.size+4) (s.heap.objs.size+2) (s.heap.objs.size+3) .none->Lb h' (s.heap.objs.size+2) (.ref s.heap.objs.size) (.ref (s.heap.objs.size+1))->Lb h' (s.heap.objs.size+3) .none .none ->
   bS b1 h' s.heap.objs.size l1 0->bS b2 h' (s.heap.objs.size+1) l2 0->(∀c o,s.heap.get? c=some o->h'.get? c=some o)->R (.ref (s.heap.objs.size+4)) {s with heap:=h' }):
  IX (IY prog w) A (call (.type "zip") [.ref l1,.ref l2]) R E s:=by
 refine callType_new F.called_zip (by decide) (F.typeCall_zip_2 _ _) (F.newCall_zip_2 _ _) (λobj=>F.args_object_init_3 obj _ _) F.entry_zip_new (F7 b1 b2 l1 l2 xs ys) ⟨q1,q2,?_⟩;obtain⟨a1,e1⟩:∃a,a=s.heap.push (dg b1 l1):=⟨_,rfl⟩;obtain⟨a2,e2⟩:∃a,a=a1.push (dg b2 l2):=⟨_,rfl⟩;obtain⟨a3,e3⟩:∃a,a=a2.push {cls:=.type "tuple",data:=.seq #[.ref s.heap.objs.size,.ref a1.objs.size]}:=⟨_,rfl⟩;obtain⟨a4,e4⟩:∃a,a=a3.push {cls:=.type "tuple",data:=.seq #[.none,.none]}:=⟨_,rfl⟩;obtain⟨a5,e5⟩:∃a,a=a4.push {cls:=.type "zip",data:=.fields #[.none,.bool false,.bool false,.ref a2.objs.size,.ref a3.objs.size]}:=⟨_,rfl⟩;have f4:zH b1 b2 s.heap l1 l2=a4:=by rw[e4,e3,e2,e1];rfl
 have f5:zF b1 b2 s.heap l1 l2=a5:=by rw[e5,e4,e3,e2,e1];rfl
 rw[f4,f5];have z1:a1.objs.size=s.heap.objs.size+1:=by rw[e1,WN]
 have z2:a2.objs.size=s.heap.objs.size+2:=by rw[e2,WN,z1]
 have z3:a3.objs.size=s.heap.objs.size+3:=by rw[e3,WN,z2]
 have z4:a4.objs.size=s.heap.objs.size+4:=by rw[e4,WN,z3]
 have u5:∀c o,a4.get? c=some o->a5.get? c=some o:=λc o e=>by rw[e5];exact Qc _ e
 have u4:∀c o,a3.get? c=some o->a5.get? c=some o:=λc o e=>u5 c o (by rw[e4];exact Qc _ e);have u3:∀c o,a2.get? c=some o->a5.get? c=some o:=λc o e=>u4 c o (by rw[e3];exact Qc _ e);have u2:∀c o,a1.get? c=some o->a5.get? c=some o:=λc o e=>u3 c o (by rw[e2];exact Qc _ e);have u1:∀c o,s.heap.get? c=some o->a5.get? c=some o:=λc o e=>u2 c o (by rw[e1];exact Qc _ e);have g5:a5.get? a4.objs.size=some {cls:=.type "zip",data:=.fields #[.none,.bool false,.bool false,.ref a2.objs.size,.ref a3.objs.size]}:=by rw[e5];exact Qe _ rfl
 have g4:a5.get? a3.objs.size=some {cls:=.type "tuple",data:=.seq #[.none,.none]}:=u5 _ _ (by rw[e4];exact Qe _ rfl);have g3:a5.get? a2.objs.size=some {cls:=.type "tuple",data:=.seq #[.ref s.heap.objs.size,.ref a1.objs.size]}:=u4 _ _ (by rw[e3];exact Qe _ rfl);have g2:a5.get? a1.objs.size=some (dg b2 l2):=u3 _ _ (by rw[e2];exact Qe _ (gb b2 l2));have g1:a5.get? s.heap.objs.size=some (dg b1 l1):=u2 _ _ (by rw[e1];exact Qe _ (gb b1 l1));rw[z1,z2]at g3;rw[z2,z3,z4]at g5;rw[z3]at g4;rw[z1]at g2;rw[z4];exact⟨⟨_,g5,rfl⟩,end' a5 g5 g3 g4 (pI b1 g1) (pI b2 g2) u1⟩
end
section
variable{prog:IQ}{w:IR}{A:IV}{E:Value->Shared->Prop}{s:Shared}{z TI TO i1 i2 l1 l2:Addr}{i:Nat}{xs ys:Array Value}{a b:Value}
def DA(b1 b2:Bool){R:Value->Shared->Prop}(D:ZipApart z TI TO i1 i2 l1 l2)(hz:La s.heap z TI TO .none)(hI:Lb s.heap TI (.ref i1) (.ref i2))(hO:Lb s.heap TO a b)
  (h1:bS b1 s.heap i1 l1 i) (h2:bS b2 s.heap i2 l2 i) (q1:bX b1 s.heap l1 xs) (q2:bX b2 s.heap l2 ys) (hx:i<xs.size) (hy:i<ys.size)
  (end':∀h',La h' z TI TO (Jq s.heap.objs.size)->Lb h' TO xs[i] ys[i]->bS b1 h' i1 l1 (i+1)->bS b2 h' i2 l2 (i+1)->Lb h' s.heap.objs.size xs[i] ys[i] ->
   (∀c o,c≠z->c≠TO->c≠i1->c≠i2->s.heap.get? c=some o->h'.get? c=some o)->R (.ref s.heap.objs.size) {s with heap:=h' }) :
  IX (IY prog w) A (Builtin.«zip.__next__» ⟨[.ref z],[]⟩) (λfin s'=>∃v,fin=.done (.ret v)/\R v s') E s:=by
 apply Jj (m:=K8 (.ref z) 2);apply JO hz rfl (x:=.bool false) rfl;apply Jj (m:=K8 (.ref z) 3);apply JO hz rfl (x:=.ref TI) rfl;apply Jj;apply K9 hI rfl;apply Jj (m:=Builtin.SmallTypes.ownedTupleIsFree (.ref z));unfold Builtin.SmallTypes.ownedTupleIsFree;refine Jj (JO hz rfl (x:=.none) rfl (Jp ?_));simp only[if_true];refine Jj (Ki (Jj (JO hz rfl (x:=.ref TO) rfl ?_)));refine Jj (Lc hz (by simp) λm1 z1 c1=>?_);have z1:La m1 z TI TO .ellipsis:=z1;apply Jj;simp only[VD,List.zipIdx_nil,Vv,Vd];apply Jj;apply Jj;apply Ld;apply Jj (m:=Builtin.SmallTypes.nextOf (.ref i1));refine lK b1 (h1.at λo e=>c1.extBut _ o D.i1z e) (q1.at λo e=>c1.extBut _ o D.l1z e) hx λm2 j1 c2=>Jp ?_;have o2:Lb m2 TO a b:=c2.extBut _ _ D.TOi1 (c1.extBut _ _ D.TOz hO);refine Jj (K9 o2 rfl (Jj (Lf o2 λm3 o3 c3=>?_)));have o3:Lb m3 TO xs[i] b:=o3;refine Jj (Lg (Jp ?_));apply Jj;apply Jj;apply Ld;apply Jj (m:=Builtin.SmallTypes.nextOf (.ref i2));refine lK b2 (h2.at λo e=>c3.extBut _ o D.TOi2.symm (c2.extBut _ o D.i12.symm (c1.extBut _ o D.i2z e))) (q2.at λo e=>c3.extBut _ o D.l2TO (c2.extBut _ o D.l2i1 (c1.extBut _ o D.l2z e))) hy λm4 j2 c4=>Jp ?_;have o4:Lb m4 TO xs[i] b:=c4.extBut _ _ D.TOi2 o3;refine Jj (K9 o4 rfl (Jj (Lf o4 λm5 o5 c5=>?_)));have o5:Lb m5 TO xs[i] ys[i]:=o5;refine Jj (Lg (Jp (Jp ?_)));refine Jj (K9 o5 rfl (Jj (KO ?_)));have sz:m5.objs.size=s.heap.objs.size:=by rw[c5.1,c4.1,c3.1,c2.1,c1.1]
 have z5:La m5 z TI TO .ellipsis:=c5.extBut _ _ D.TOz.symm (c4.extBut _ _ D.i2z.symm (c3.extBut _ _ D.TOz.symm (c2.extBut _ _ D.i1z.symm z1)));have up5:∀c o,c≠z->c≠TO->c≠i1->c≠i2->s.heap.get? c=some o->m5.get? c=some o:=λc o y1 y2 y3 y4 e=>c5.extBut _ _ y2 (c4.extBut _ _ y4 (c3.extBut _ _ y2 (c2.extBut _ _ y3 (c1.extBut _ _ y1 e))));have k1:bS b1 m5 i1 l1 (i+1):=j1.at λo e=>c5.extBut _ o D.TOi1.symm (c4.extBut _ o D.i12 (c3.extBut _ o D.TOi1.symm e));have k2:bS b2 m5 i2 l2 (i+1):=j2.at λo e=>c5.extBut _ o D.TOi2.symm e;have zl:z<m5.objs.size:=Qi z5;apply Jj (m:=Builtin.SmallTypes.ownedTupleHandOut (.ref z) (.ref m5.objs.size));unfold Builtin.SmallTypes.ownedTupleHandOut;have z6:La (m5.push {cls:=.type "tuple",data:=.seq #[xs[i],ys[i]]}) z TI TO .ellipsis:=Qc _ z5;refine Jj (Lc z6 (by simp) λm7 z7 c7=>?_);have z7:La m7 z TI TO (Jq m5.objs.size):=z7;refine Lc z7 (by simp) λm8 z8 c8=>?_;have z8:La m8 z TI TO (Jq m5.objs.size):=z8;have up:∀c o,c≠z->m5.get? c=some o->m8.get? c=some o:=λc o y e=>c8.extBut _ _ y (c7.extBut _ _ y (Qc _ e));have t8:Lb m8 m5.objs.size xs[i] ys[i]:=c8.extBut _ _ (WH zl) (c7.extBut _ _ (WH zl) (Qe _ rfl));rw[sz]at z8 t8;refine Jp ⟨_,rfl,?_⟩;change R (.ref m5.objs.size) _;rw[sz];exact end' m8 z8 (up _ _ D.TOz o5) (k1.at λo e=>up _ o D.i1z e) (k2.at λo e=>up _ o D.i2z e) t8 λc o y1 y2 y3 y4 e=>up c o y1 (up5 c o y1 y2 y3 y4 e)
def Dz (b1 b2:Bool)(quiet:A.handled=none)(D:ZipApart z TI TO i1 i2 l1 l2)(hz:La s.heap z TI TO .none)(hI:Lb s.heap TI (.ref i1) (.ref i2))(hO:Lb s.heap TO a b)(h1:bS b1 s.heap i1 l1 i)(h2:bS b2 s.heap i2 l2 i)(q1:bX b1 s.heap l1 xs)(q2:bX b2 s.heap l2 ys)(hn:xs.size<=i\/ys.size<=i)(end':∀h' e,(∀c o,c≠z->c≠TO->c≠i1->c≠i2->s.heap.get? c=some o->h'.get? c=some o)->(∃o,h'.get? e=some o/\o.cls=.type "StopIteration")->E (.ref e) {s with heap:=h' }):
  IX (IY prog w) A (Builtin.«zip.__next__» ⟨[.ref z],[]⟩) R E s:=by
 apply Jj (m:=K8 (.ref z) 2);apply JO hz rfl (x:=.bool false) rfl;apply Jj (m:=K8 (.ref z) 3);apply JO hz rfl (x:=.ref TI) rfl;apply Jj;apply K9 hI rfl;apply Jj (m:=Builtin.SmallTypes.ownedTupleIsFree (.ref z));unfold Builtin.SmallTypes.ownedTupleIsFree;refine Jj (JO hz rfl (x:=.none) rfl (Jp ?_));simp only[if_true];refine Jj (Ki (Jj (JO hz rfl (x:=.ref TO) rfl ?_)));refine Jj (Lc hz (by simp) λm1 z1 c1=>?_);have z1:La m1 z TI TO .ellipsis:=z1;apply Jj;simp only[VD,List.zipIdx_nil,Vv,Vd];apply Jj;apply Jj;apply Ld;apply Jj (m:=Builtin.SmallTypes.nextOf (.ref i1));by_cases hx:i<xs.size
 .have hy:ys.size<=i:=by lia
  refine lK b1 (h1.at λo e=>c1.extBut _ o D.i1z e) (q1.at λo e=>c1.extBut _ o D.l1z e) hx λm2 j1 c2=>Jp ?_;have o2:Lb m2 TO a b:=c2.extBut _ _ D.TOi1 (c1.extBut _ _ D.TOz hO);refine Jj (K9 o2 rfl (Jj (Lf o2 λm3 o3 c3=>?_)));refine Jj (Lg (Jp ?_));apply Jj;apply Jj;apply Ld;apply Jj (m:=Builtin.SmallTypes.nextOf (.ref i2));refine oI b2 quiet (h2.at λo e=>c3.extBut _ o D.TOi2.symm (c2.extBut _ o D.i12.symm (c1.extBut _ o D.i2z e))) (q2.at λo e=>c3.extBut _ o D.l2TO (c2.extBut _ o D.l2i1 (c1.extBut _ o D.l2z e))) hy λm4 e c4 he=>?_;obtain⟨oe,ge,ce⟩:=he;have z4:La m4 z TI TO .ellipsis:=c4 _ _ D.i2z.symm (c3.extBut _ _ D.TOz.symm (c2.extBut _ _ D.i1z.symm z1));have ez:e≠z:=λx=>by subst x;rw[z4]at ge;cases ge;simp at ce
  exact Lc z4 (by simp) λm5 _ c5=>end' m5 e (λc o y1 y2 y3 y4 x=>c5.extBut _ _ y1 (c4 _ _ y4 (c3.extBut _ _ y2 (c2.extBut _ _ y3 (c1.extBut _ _ y1 x))))) ⟨oe,c5.extBut _ _ ez ge,ce⟩
 .refine oI b1 quiet (h1.at λo e=>c1.extBut _ o D.i1z e) (q1.at λo e=>c1.extBut _ o D.l1z e) (by lia) λm2 e c2 he=>?_;obtain⟨oe,ge,ce⟩:=he;have z2:La m2 z TI TO .ellipsis:=c2 _ _ D.i1z.symm z1;have ez:e≠z:=λx=>by subst x;rw[z2]at ge;cases ge;simp at ce
  exact Lc z2 (by simp) λm3 _ c3=>end' m3 e (λc o y1 y2 y3 y4 x=>c3.extBut _ _ y1 (c2 _ _ y3 (c1.extBut _ _ y1 x))) ⟨oe,c3.extBut _ _ ez ge,ce⟩
end
def dw(b:Bool)(K:Qb)(H:Hp)(l:Addr)(xs:List V):Prop:=match b with
 |false=>bD K H l xs
 |true=>bM K H l xs
def Inv.sqB (I:Inv X pins σ H s)(b:Bool)(h:dw b X.K H l xs):∃its:List Value,av xs its/\bX b s.heap l its.toArray:=by
 cases b with
 |false=>obtain⟨its,r,p,_⟩:=I.list h;exact⟨its,r,p.isList⟩
 |true=>obtain⟨its,r,p,_⟩:=I.tuple h;exact⟨its,r,p⟩
def Inv.sqB_inj (I:Inv X pins σ H s)(b:Bool)(h:dw b X.K H l xs)(h':dw b X.K H l ys):xs=ys:=by
 cases b with
 |false=>exact I.list_inj h h'
 |true=>exact I.tuple_inj h h'
noncomputable def lc(b1 b2:Bool)(K:Qb)(l1 l2:Addr):It:=
 ⟨λi H=>∃xs ys x y,dw b1 K H l1 xs/\dw b2 K H l2 ys/\xs[i]?=some x/\ys[i]?=some y,
  λi H v H'=>∃x y,Yp H v H' x y/\(∀xs,dw b1 K H l1 xs->xs[i]?=some x)/\∀ys,dw b2 K H l2 ys->ys[i]?=some y,
  λi H=>∃xs ys,dw b1 K H l1 xs/\dw b2 K H l2 ys/\(xs.length<=i\/ys.length<=i)⟩
def Fz (b1 b2:Bool){K:Qb}(z TI TO i1 i2 l1 l2:Addr)(D:ZipApart z TI TO i1 i2 l1 l2):
  cW P w K (.Tuple elts k pt) (lc b1 b2 K l1 l2) [z,TI,TO,i1,i2] z (λi h=>La h z TI TO .none/\Lb h TI (.ref i1) (.ref i2)/\(∃a b,Lb h TO a b)/\bS b1 h i1 l1 i/\bS b2 h i2 l2 i) where
 mem:=by simp
 obj:=λi h st b hb=>by
  obtain⟨hz,hI,⟨a,c,hO⟩,h1,h2⟩:=st;simp only[Qo,W2,or_false]at hb;rcases hb with rfl|rfl|rfl|rfl|rfl
  .exact ⟨_,hz,λv z=>by cases z⟩
  .exact ⟨_,hI,λv z=>by cases z⟩
  .exact ⟨_,hO,λv z=>by cases z⟩
  .exact h1.there
  .exact h2.there
 keep:=λi h h' st k=>by
  obtain⟨hz,hI,⟨a,c,hO⟩,h1,h2⟩:=st;exact⟨k z (by simp) _ hz,k TI (by simp) _ hI,⟨a,c,k TO (by simp) _ hO⟩,h1.at λo e=>k i1 (by simp) o e,h2.at λo e=>k i2 (by simp) o e⟩
 item:=by
  intro X hP hw hK hc i pins s σ H E I hf st hg;subst hP hw hK;obtain⟨xs,ys,x,y,s1,s2,hx,hy⟩:=hg;obtain⟨t1,r1,p1⟩:=I.sqB b1 s1;obtain⟨t2,r2,p2⟩:=I.sqB b2 s2;obtain⟨u,hu,ru⟩:=r1.get hx;obtain⟨v,hv,rv⟩:=r2.get hy;obtain⟨hz,hI,⟨a,b,hO⟩,h1,h2⟩:=st;have n1:i<t1.length:=(Qa.mp hu).1;have n2:i<t2.length:=(Qa.mp hv).1;have eu:t1.toArray[i]'(by simpa using n1)=u:=by simpa using (Qa.mp hu).2
  have ev:t2.toArray[i]'(by simpa using n2)=v:=by simpa using (Qa.mp hv).2
  have ty:s.TypeIs (.ref z) "zip":=⟨_,hz,rfl⟩;unfold Jm;apply Jj;apply KH;apply JQ ty F.slot_zip_next;refine JR F.slot_zip_next ty F.entry_zip_next (DA b1 b2 D hz hI hO h1 h2 p1 p2 (by simpa using n1) (by simpa using n2) λh' a1 a2 a3 a4 a5 hk=>?_) (F.args_zip_next_1 _);rw[eu,ev]at a2 a5;refine Jp ⟨_,rfl,wpAny_letOwnedTupleGo_zip (s:={s with heap:=h' }) a1 λh'' hz' hs'=>?_⟩;have sT:z<s.heap.objs.size:=Qi hz;have kk:∀b o,b∉[z,TI,TO,i1,i2]->s.heap.get? b=some o->h''.get? b=some o:=λb o hb e=>
   (hs'.2 b λq=>hb (by simp[q])).trans (hk b o (λq=>hb (by simp[q])) (λq=>hb (by simp[q])) (λq=>hb (by simp[q])) (λq=>hb (by simp[q])) e)
  refine⟨.ref s.heap.objs.size,aH H s.heap.objs.size (.tup [x,y]),?_,rfl,⟨x,y,⟨_,I.hok.fresh (Qg _),rfl,rfl⟩,λzs hz=>by rw[I.sqB_inj b1 hz s1];exact hx,λzs hz=>by rw[I.sqB_inj b2 hz s2];exact hy⟩,?_,?_⟩
  .exact nl (s:=s) (t':=s.toks) (its:=[u,v]) I hf kk (Qg _) (show(2:Nat)<=sizeLine by decide) (.cons ru (.cons rv .nil)) ⟨_,(hs'.2 _ (WH sT)).trans a5,rfl,_,rfl⟩
  .refine ⟨hz',?_,⟨u,v,?_⟩,?_,?_⟩
   .exact (hs'.2 TI D.TIz).trans (hk TI _ D.TIz D.TITO D.TIi1 D.TIi2 hI)
   .exact (hs'.2 TO D.TOz).trans a2
   .exact a3.at λo e=>(hs'.2 i1 D.i1z).trans e
   .exact a4.at λo e=>(hs'.2 i2 D.i2z).trans e
  .intro b hb;have hlt:b<s.heap.objs.size:=by
    simp only[Qo,W2,or_false]at hb;obtain⟨_,e1,_⟩:=h1.there;obtain⟨_,e2,_⟩:=h2.there;rcases hb with rfl|rfl|rfl|rfl|rfl
    .exact sT
    .exact Qi hI
    .exact Qi hO
    .exact Qi e1
    .exact Qi e2
   rw[zd (QI hlt)];exact(hf b hb).1
 done:=by
  intro X hP hw hK hc i pins s σ H E I hf st hg;subst hP hw hK;obtain⟨xs,ys,s1,s2,hx⟩:=hg;obtain⟨t1,r1,p1⟩:=I.sqB b1 s1;obtain⟨t2,r2,p2⟩:=I.sqB b2 s2;obtain⟨hz,hI,⟨a,b,hO⟩,h1,h2⟩:=st;have e1:=r1.length;have e2:=r2.length;have ty:s.TypeIs (.ref z) "zip":=⟨_,hz,rfl⟩;unfold Jm;apply Jj;apply KH;apply JQ ty F.slot_zip_next;refine JR F.slot_zip_next ty F.entry_zip_next (Dz b1 b2 (I.ok.hd hc) D hz hI hO h1 h2 p1 p2 ?_ λh' e hk he=>?_) (F.args_zip_next_1 _)
  .rcases hx with hx|hx
   .exact .inl (by simp;lia)
   .exact .inr (by simp;lia)
  .obtain ⟨o,ho,hc⟩:=he;apply Jj;refine wpAny_isInstance (T:="StopIteration") (b:=true) ⟨o,ho,hc⟩ isSubtype_stop ?_;exact Jp ⟨rfl,I.turnedL (t':=s.toks) hf λb o hb e=>hk b o (λq=>hb (by simp[q])) (λq=>hb (by simp[q])) (λq=>hb (by simp[q])) (λq=>hb (by simp[q])) e⟩
 self:=λ_ _ _ _ _ st h=>wpAny_pyIter_zip st.1 h
section
variable{X:Cx}{elts:List Expr}{k:Nat}{pt:Pos}
def lJ(K:Qb)(ta:TA):TI:=λσ H R=>ta σ H λvs H1=>∃b1 b2 l1 l2 xs ys,vs=[.ref l1,.ref l2]/\dw b1 K H1 l1 xs/\dw b2 K H1 l2 ys/\R (lc b1 b2 K l1 l2) H1
def qf (hg:Gl X "zip")(hm:X.mg "zip"=none)(ha:PA X [a,b] ta)(hs:I0 [a,b] X.env=[(false,eval a X.env),(false,eval b X.env)]:=by rfl)(hs2:I0 [b] X.env=[(false,eval b X.env)]:=by rfl):
  PI X (.Tuple elts k pt) (.Call (.Name "zip" p) [a,b] [] pos) (lJ X.K ta):=by
 intro pins s σ H R I h;refine Call_ (wd I hg hm PyProof.Rows.boot_zip (PyProof.Rows.callWith_type1 (aW (ha pos pins s σ H _ I h) λus s1 ⟨vs,H1,I1,r1,q1⟩=>?_) (by rw[hs,hs2]) (by rw[hs2];rfl)));obtain⟨b1,b2,l1,l2,xs,ys,e,g1,g2,q⟩:=q1;subst e;cases r1 with
 |cons r rr=>
  cases rr with
  |cons r' rr=>
   cases rr;cases r;cases r';obtain⟨its1,rv1,p1⟩:=I1.sqB b1 g1;obtain⟨its2,rv2,p2⟩:=I1.sqB b2 g2;have lt:∀b l its,bX b s1.heap l its->l<s1.heap.objs.size:=λb l its p=>by
    cases b with
    |false=>obtain⟨o,e,_⟩:=p;exact Qi e
    |true=>obtain⟨o,e,_⟩:=p;exact Qi e
   refine FA b1 b2 p1 p2 λh' hz hTI hTO hi1 hi2 hk=>?_;refine wpAny_pyIter_zip (s:={s1 with heap:=h' }) hz ?_;refine⟨_,_,_,_,H1,rfl,I1.kept (t':=s1.toks) hk,Fz b1 b2 (s1.heap.objs.size+4) (s1.heap.objs.size+2) (s1.heap.objs.size+3) s1.heap.objs.size (s1.heap.objs.size+1) l1 l2 (zipApart_new (lt b1 l1 _ p1) (lt b2 l2 _ p2)),⟨hz,hTI,⟨_,_,hTO⟩,hi1,hi2⟩,λb hb=>?_,q⟩;have hb':s1.heap.objs.size<=b:=by
    simp only[Qo,W2,or_false]at hb;rcases hb with rfl|rfl|rfl|rfl|rfl<;>first|exact Nat.le_add_right _ _|exact Qg _
   exact I1.fpOk hb' (I1.hok.fresh hb')
end
end L2
namespace Mini
open PySem PySem.Spec PyProof.Rows L2
section
variable{cl:Nat->List Wd->Me->Rz}{K:Qb}
def aL.updD{as:List Addr}{m:Me}{H:Hp}{D:Addr}{ys:List V}{o:HO}(S:aL K as m H)(hD:H D=some (.lst ys))(hn:D∉as):aL K as m (aH H D o):=by
 refine⟨S.len,S.nd,λl b ob h1 h2=>?_⟩;have q:=S.obj l b ob h1 h2;have hb:b≠D:=by rintro rfl;exact hn (Qr h1)
 cases ob with
 |lst zs=>
  obtain⟨us,e,r⟩:=q;exact⟨us,by rw[zd hb];exact e,r.kp (Kp.upd hD)⟩
 |dct ks ws=>exact bv.mono (ob:=.dct ks ws) (Kp.upd hD) (λ_ _ e=>e) (λo e=>by rw[zd hb];exact e) q
def aL.join{as:List Addr}{m:Me}{H:Hp}{D:Addr}{ys:List V}{acc:List Wd}(S:aL K as m H)(hD:H D=some (.lst ys))(hn:D∉as)(R:aa K as H acc ys):aL K (as++[D]) (m++[.lst acc]) H:=by
 have g:∀(l:Nat) (a:Addr),as[l]?=some a->(as++[D])[l]?=some a:=λl a e=>by
  rw[Qf (Qa.mp e).1];exact e
 have kp:Kp K H H:=⟨λ_ _ h=>h,λ_ _ h=>h⟩;refine⟨by simp[S.len],?_,λl b o h1 h2=>?_⟩
 .refine QQ.mpr ⟨S.nd,by simp,λx hx y hy=>?_⟩;rw[Qt.mp hy];rintro rfl;exact hn hx
 .by_cases hl:l<as.length
  .rw[Qf hl]at h1;rw[Qf (by rw[<-S.len];exact hl)]at h2;have q:=S.obj l b o h1 h2;cases o with
   |lst zs=>
    obtain⟨us,e,r⟩:=q;exact⟨us,e,aX kp g _ _ r⟩
   |dct ks ws=>exact bv.mono (ob:=.dct ks ws) kp g (λo e=>e) q
  .rw[Qd (by lia)]at h1;rw[Qd (by rw[<-S.len];lia)]at h2;have hz:l-as.length=0:=by
    cases hq:l-as.length with
    |zero=>rfl
    |succ k=>rw[hq]at h1;simp at h1
   rw[hz]at h1;rw[<-S.len,hz]at h2;simp at h1 h2;subst h1;subst h2;exact⟨ys,hD,aX kp g _ _ R⟩
def Step.updD{as as':List Addr}{H H':Hp}{D:Addr}{o:HO}(T:Step as H as' H')(hD:H D=none):Step as H as' (aH H' D o):=
 ⟨T.pre,λb ob h hb=>by rw[zd (zo h hD)];exact T.frame b ob h hb,T.fresh⟩
def Step.join{as as':List Addr}{H H':Hp}{D:Addr}(T:Step as H as' H')(hD:H D=none):Step as H (as'++[D]) H':=by
 refine⟨?_,T.frame,λa ha=>?_⟩
 .obtain ⟨t,rfl⟩:=T.pre;exact⟨t++[D],by simp⟩
 .rcases Qx.mp ha with z|z
  .exact T.fresh a z
  .rw[Qt.mp z];exact .inr hD
def xX (S:aL K as' m H')(T:Step as H as' H')(h0:H D=none)(hD:H' D=some (.lst ys))(hn:D∉as')(R:aa K as' H' acc ys)(h:ai K as H Q (alloc m acc)):Q (.ref D) H':=by
 unfold Mini.alloc at h;split at h
 .refine h (as'++[D]) H' (.ref D) (T.join h0) (S.join hD hn R) (aG.mpr ⟨D,?_,rfl⟩);rw[<-S.len,Qd (Qg _)];simp
 .exact h.elim
structure cI(K:Qb)(as:List Addr)(H:Hp)(D:Addr)(env:En)(σ:St)(as':List Addr)(m':Me)(acc:List Wd)(ys:List V)(H':Hp):Prop where
 T:Step as H as' H'
 S:aL K as' m' H'
 hD:H' D=some (.lst ys)
 n:D∉as'
 R:aa K as' H' acc ys
 G:aD K as' H' env σ
def cI.go{as:List Addr}{H:Hp}{D:Addr}{env:En}{σ:St}{as' as2:List Addr}{m' m2:Me}{acc:List Wd}{ys:List V}{H' H2:Hp}(M:cI K as H D env σ as' m' acc ys H')(U:Step as' H' as2 H2)(S2:aL K as2 m2 H2):cI K as H D env σ as2 m2 acc ys H2:=
 ⟨M.T.trans U,S2,U.frame _ _ M.hD M.n,U.out M.hD M.n,M.R.mono M.S U,M.G.mono M.S U⟩
def cI.push{as:List Addr}{H:Hp}{D:Addr}{env:En}{σ:St}{as':List Addr}{m':Me}{acc:List Wd}{ys:List V}{H':Hp}{w:Wd}{v:V}(M:cI K as H D env σ as' m' acc ys H')(h0:H D=none)(R:ag K as' H' w v):
  cI K as H D env σ as' m' (acc++[w]) (ys++[v]) (aH H' D (.lst (ys++[v]))):=by
 have kp:Kp K H' (aH H' D (.lst (ys++[v]))):=Kp.upd M.hD;exact⟨M.T.updD h0,M.S.updD M.hD M.n,ze,M.n,(M.R.append (.one R)).kp kp,M.G.kp kp⟩
set_option tactic.hygienic true in
def wD{elt cond:Ex}{tc:TT}(htc:∀σ H Q,xy K (af cl cond) σ H Q->tc σ H Q){as1 as':List Addr}{H1 H':Hp}{D:Addr}{env ex:En}{σ sx:St}{m':Me}{acc:List Wd}{ys:List V}{Q:VK}{next:List Wd->Me->Rz}{N:List V->Hp->Prop}
  (h0:H1 D=none) (M:cI K as1 H1 D env σ as' m' acc ys H') (G:aD K as' H' (env++ex) (σ++sx))
  (Pt:ai K as1 H1 Q ((af cl cond (env++ex) m').bind λb m1=>match b with
     |.bl true=>(af cl elt (env++ex) m1).bind λy m2=>if acc.length<aq then next (acc++[y]) m2 else .no
     |.bl false=>next acc m1
     |_=>.no))
  (hN:∀as2 m2 acc' ys' H2,Kp K H' H2->(∀(l:Nat) (a:Addr),as'[l]?=some a->as2[l]?=some a)->cI K as1 H1 D env σ as2 m2 acc' ys' H2->ai K as1 H1 Q (next acc' m2)->N ys' H2) :
  tc (σ++sx) H' λb H2=>if b=true then aI K (af cl elt) (σ++sx) H2 λy H3=>H3 D=some (.lst ys)/\ys.length<sizeLine/\N (ys++[y]) (aH H3 D (.lst (ys++[y])))else N ys H2:=by
 refine htc _ _ _ ⟨as',env++ex,m',M.S,G,fu Pt M.T λwb m2 as2 H2 vb T2 S2 R2 P2=>?_⟩;have M2:=M.go T2 S2;cases wb with
 |bl k=>
  obtain rfl:=ak.mp R2;refine⟨k,rfl,?_⟩;cases k with
  |false=>exact fC (hN as2 m2 acc ys H2 (M.S.kp T2) (λ_ _ e=>T2.get e) M2 P2)
  |true=>
   refine fB ⟨as2,env++ex,m2,S2,G.mono M.S T2,fu P2 M2.T λwy m3 as3 H3 vy T3 S3 R3 P3=>?_⟩;have M3:=M2.go T3 S3;have P3':ai K as1 H1 Q (if acc.length<aq then next (acc++[wy]) m3 else .no):=P3;by_cases hl:acc.length<aq
   .rw[Lp hl]at P3';refine⟨M3.hD,by rw[<-M3.R.length];exact Ql hl yP,hN as3 m3 (acc++[wy]) (ys++[vy]) _ ?_ (λ_ _ e=>T3.get (T2.get e)) (M3.push h0 R3) P3'⟩;have k1:=M.S.kp T2;have k2:=S2.kp T3;have k3:Kp K H3 (aH H3 D (.lst (ys++[vy]))):=Kp.upd M3.hD;exact⟨λa vs q=>k3.t _ _ (k2.t _ _ (k1.t _ _ q)),λa vs q=>k3.f _ _ (k2.f _ _ (k1.f _ _ q))⟩
   .rw[Lq hl]at P3';exact P3'.elim
 |_=>exact P2.elim
def cI.start{as as1:List Addr}{H H1:Hp}{D:Addr}{env:En}{σ:St}{m1:Me}(S1:aL K as1 m1 H1)(G1:aD K as1 H1 env σ)(hD:H1 D=none):cI K as1 H1 D env σ as1 m1 [] [] (aH H1 D (.lst [])):=by
 have T:Step as1 H1 as1 (aH H1 D (.lst [])):=Step.updD .refl hD;exact⟨T,S1.keep T λb _ o e=>by rw[zd (zo e hD)];exact e,ze,S1.new hD,ao.mpr rfl,G1.mono S1 T⟩
def qg(K:Qb)(as:List Addr)(H:Hp)(J:It)(g:Nat->Me->Option (Option (Wd×Wd))):Prop:=
 ∀(as':List Addr) (m':Me) (H':Hp),(∀(l:Nat) (a:Addr),as[l]?=some a->as'[l]?=some a)->Step as H as' H'->aL K as' m' H'->∀i,
  (g i m'=some none->J.stop i H')/\∀x y,g i m'=some (some (x,y))->J.go i H'/\∀v H'',J.yld i H' v H''->∃x' y',Yp H' v H'' x' y'/\ag K as' H' x x'/\ag K as' H' y y'
def F6 {cond:Ex}{tc:TT}(htc:∀σ H Q,xy K (af cl cond) σ H Q->tc σ H Q)(hJ:qg K as1 H1 J g)(S1:aL K as1 m1 H1)(G1:aD K as1 H1 env σ)(P:ai K as1 H1 Q (yh (λu v m=>af cl cond (env++[some u]++[some v]) m) (λu v m=>af cl elt (env++[some u]++[some v]) m) g (aq+1) 0 [] m1)):
  ∀D,H1 D=none->∃W:Nat->Nat->List V->Hp->Prop,(∃m,W 0 m [] (aH H1 D (.lst [])))/\∀i m ys H,W i m ys H ->
   (J.stop i H/\Q (.ref D) H)\/(J.go i H/\∀v H',J.yld i H v H'->∃vs,iM K v H' vs/\tc (σ++vs.map some) H' λb H2=>if b=true then aI K (af cl elt) (σ++vs.map some) H2 λy H3=>H3 D=some (.lst ys)/\ys.length<sizeLine/\∃m',m'<m/\W (i+1) m' (ys++[y]) (aH H3 D (.lst (ys++[y])))
    else ∃m',m'<m/\W (i+1) m' ys H2):=by
 intro D hD;refine⟨λi n ys H'=>∃as' m' acc,(∀(l:Nat) (a:Addr),as1[l]?=some a->as'[l]?=some a)/\cI K as1 H1 D env σ as' m' acc ys H' /\
  ai K as1 H1 Q (yh (λu v m=>af cl cond (env++[some u]++[some v]) m) (λu v m=>af cl elt (env++[some u]++[some v]) m) g n i acc m'),⟨aq+1,as1,m1,[],λ_ _ e=>e,cI.start (as:=as1) (H:=H1) S1 G1 hD,P⟩,?_⟩
 rintro i n ys H' ⟨as',m',acc,hl,M,Pi⟩;cases n with
 |zero=>exact Pi.elim
 |succ n=>
  unfold yh at Pi;obtain⟨q1,q2⟩:=hJ as' m' H' hl M.T M.S i;cases e:g i m' with
  |none=>rw[e]at Pi;exact Pi.elim
  |some o=>
   rw[e]at Pi;cases o with
   |none=>exact .inl ⟨q1 e,xX M.S M.T hD M.hD M.n M.R Pi⟩
   |some p=>
    obtain⟨x,y⟩:=p;simp only[]at Pi;obtain⟨go,yl⟩:=q2 x y e;refine .inr ⟨go,λv H'' hy=>?_⟩;obtain⟨x',y',⟨T,hT,rfl,rfl⟩,Rx,Ry⟩:=yl v H'' hy;refine⟨[x',y'],⟨T,rfl,bM.of ze,rfl⟩,?_⟩;have U:Step as' H' as' (aH H' T (.tup [x',y'])):=Step.updD .refl hT;have S2:aL K as' m' (aH H' T (.tup [x',y'])):=M.S.keep U λb _ o e=>by rw[zd (zo e hT)];exact e
    have M2:=M.go U S2;have G2:aD K as' (aH H' T (.tup [x',y'])) (env++[some x,some y]) (σ++[x',y'].map some):=by
     have:=(M2.G.push (Rx.mono M.S U)).push (Ry.mono M.S U);simpa using this
    refine wD htc (ex:=[some x,some y]) (next:=λacc m=>yh (λu v m=>af cl cond (env++[some u]++[some v]) m) (λu v m=>af cl elt (env++[some u]++[some v]) m) g n (i+1) acc m)
     (N:=λzs H2=>∃n',n'<n+1/\∃as' m' acc,(∀(l:Nat) (a:Addr),as1[l]?=some a->as'[l]?=some a)/\cI K as1 H1 D env σ as' m' acc zs H2/\ai K as1 H1 Q (yh (λu v m=>af cl cond (env++[some u]++[some v]) m) (λu v m=>af cl elt (env++[some u]++[some v]) m) g n' (i+1) acc m')) hD M2 G2 (by rw[show env++[some x]++[some y]=env++[some x,some y]from by simp]at Pi;exact Pi) ?_
    intro as2 m2 acc' ys' H2 kp gg M3 P3;exact⟨n,WE _,as2,m2,acc',λl a e=>gg _ _ (hl l a e),M3,P3⟩
def cL(b:Bool)(K:Qb)(as:List Addr)(H:Hp)(w:Wd)(l:Addr):Prop:=match b with
 |false=>∃la,w=.ref la/\as[la]?=some l
 |true=>∃xs vs,w=.tup xs/\bM K H l vs/\aa K as H xs vs
def cL.now (h:cL b K as H w l)(S:aL K as m H)(T:Step as H as' H')(S':aL K as' m' H')(e:wX m' w=some xs):∃vs,dw b K H' l vs/\aa K as' H' xs vs:=by
 cases b with
 |false=>
  obtain⟨la,rfl,ha⟩:=h;obtain⟨a',us,ha',eH,RL⟩:=zW S' (zM e);rw[T.get ha]at ha';cases ha';exact⟨us,bD.of eH,RL⟩
 |true=>
  obtain⟨ys,vs,rfl,q,r⟩:=h;cases e;exact⟨vs,(S.kp T).t _ _ q,r.mono S T⟩
theorem cL.of (S:aL K as m H)(R:ag K as H w v)(e:wX m w=some xs):∃b l vs,v=.ref l/\cL b K as H w l/\dw b K H l vs:=by
 cases w with
 |tup ys=>
  obtain⟨l,vs,rfl,q,r⟩:=ah.mp R;exact⟨true,l,vs,rfl,⟨ys,vs,rfl,q,r⟩,q⟩
 |ref la=>
  obtain⟨l,ha,rfl⟩:=aG.mp R;obtain⟨a',us,ha',eH,RL⟩:=zW S (zM e);rw[ha]at ha';cases ha';exact⟨false,l,us,rfl,⟨la,rfl,ha⟩,bD.of eH⟩
 |_=>cases e
def ji (S0:aL K as m H)(h1:cL b1 K as H w1 l1)(h2:cL b2 K as H w2 l2):qg K as H (lc b1 b2 K l1 l2) (zL .zip w1 w2):=by
 intro as' m' H' hl T S i;simp only[zL];cases e1:wX m' w1 with
 |none=>exact⟨λz=>by simp at z,λx y z=>by simp at z⟩
 |some xs=>
  cases e2:wX m' w2 with
  |none=>exact⟨λz=>by simp at z,λx y z=>by simp at z⟩
  |some ys=>
   obtain⟨us,q1,RL⟩:=h1.now S0 T S e1;obtain⟨vs,q2,RL2⟩:=h2.now S0 T S e2;simp only;cases ex:xs[i]? with
   |none=>
    refine⟨λ_=>⟨us,vs,q1,q2,.inl ?_⟩,λx y z=>by simp at z⟩;rw[<-RL.length];exact Wf.mp ex
   |some x=>
    cases ey:ys[i]? with
    |none=>
     refine⟨λ_=>⟨us,vs,q1,q2,.inr ?_⟩,λx y z=>by simp at z⟩;rw[<-RL2.length];exact Wf.mp ey
    |some y=>
     refine⟨λz=>by simp at z,λx2 y2 z=>?_⟩;simp only[Option.some.injEq,Prod.mk.injEq]at z;obtain⟨rfl,rfl⟩:=z;obtain⟨u0,hu0,Ru⟩:=RL.get ex;obtain⟨v0,hv0,Rv⟩:=RL2.get ey;refine⟨⟨us,vs,u0,v0,q1,q2,hu0,hv0⟩,λv H'' hy=>?_⟩;obtain⟨p,q,yp,k1,k2⟩:=hy;have:=k1 us q1;rw[hu0]at this;cases this;have:=k2 vs q2;rw[hv0]at this;cases this;exact⟨_,_,yp,Ru,Rv⟩
def du:(Rz.ok w m).bind f=f w m:=rfl
def w6 (h:g i m=none):yh c e g (k+1) i acc m=.no:=by
 unfold yh;rw[h]
set_option tactic.hygienic true in
def jj (e:zL .zip w w2 i m=some o):∃xs ys,wX m w=some xs/\wX m w2=some ys:=by
 simp only[zL]at e;cases e1:wX m w with
 |none=>rw[e1]at e;cases e
 |some xs=>
  cases e2:wX m w2 with
  |none=>rw[e1,e2]at e;cases e
  |some ys=>exact⟨xs,ys,rfl,rfl⟩
def jk {cond:Ex}(htc:∀σ H Q,xy K (af cl cond) σ H Q->tc σ H Q)(h:aI K (af cl (.compP .zip elt a b cond)) σ H Q):
  jY (iM K) (lJ K (qG (aI K (af cl a)) (qG (aI K (af cl b)) lu))) tc (aI K (af cl elt)) σ H Q:=by
 obtain⟨as,env,m,S,G,P⟩:=h;have P':ai K as H Q ((af cl a env m).bind λx m1=>(af cl b env m1).bind λy m2=>
  yh (λu v m=>af cl cond (env++[some u]++[some v]) m) (λu v m=>af cl elt (env++[some u]++[some v]) m) (zL .zip x y) (aq+1) 0 [] m2):=P
 refine⟨as,env,m,S,G,fu P' .refl λw m1 as1 H1 v T1 S1 R1 P1=>?_⟩;refine⟨as1,env,m1,S1,G.mono S T1,fu P1 T1 λw2 m2 as2 H2 v2 T2 S2 R2 P2=>?_⟩;have P3:=ai.step P2 (T1.trans T2);have G2:=(G.mono S T1).mono S1 T2;have look:∃xs ys,wX m2 w=some xs/\wX m2 w2=some ys:=by
  cases e:zL .zip w w2 0 m2 with
  |none=>rw[w6 e]at P3;exact P3.elim
  |some o=>exact jj e
 obtain⟨xs,ys,e1,e2⟩:=look;obtain⟨b1,l1,us,rfl,s1,q1⟩:=cL.of S2 (R1.mono S1 T2) e1;obtain⟨b2,l2,vs,rfl,s2,q2⟩:=cL.of S2 R2 e2;exact⟨b1,b2,l1,l2,us,vs,rfl,q1,q2,F6 htc (ji S2 s1 s2) S2 G2 P3⟩
set_option tactic.hygienic true in
def jl (e:zL .prs w (.int c) i m=some o):∃l xs,w=.ref l/\zn m l=some xs/\((xs[i]?=none/\o=none)\/∃x y,xs[i]?=some (.tup [x,y])/\o=some (x,y)):=by
 cases w with
 |ref l=>
  have e':(match zn m l with
   |some xs=>match xs[i]? with
    |none=>some none
    |some w=>(lH w).map some
   |none=>none)=some o:=e
  cases e1:zn m l with
  |none=>rw[e1]at e';cases e'
  |some xs=>
   simp only[e1]at e';refine⟨l,xs,rfl,e1,?_⟩;cases e2:xs[i]? with
   |none=>simp only[e2]at e';cases e';exact .inl ⟨rfl,rfl⟩
   |some w=>
    simp only[e2]at e';obtain⟨p,hp,rfl⟩:=QF.mp e'
    right
    unfold lH at hp;split at hp
    .next x y=>cases hp;exact⟨x,y,rfl,rfl⟩
    .cases hp
 |_=>cases e
def F5 {cond:Ex}(htc:∀σ H Q,xy K (af cl cond) σ H Q->tc σ H Q)(h:aI K (af cl (.compP .prs elt a (.lit (.int 0)) cond)) σ H Q):
  jY (iM K) (fh K (af cl a)) tc (aI K (af cl elt)) σ H Q:=by
 obtain⟨as,env,m,S,G,P⟩:=h;refine⟨as,env,m,S,G,?_⟩;have hl:∀m1,af cl (.lit (.int 0)) env m1=.ok (.int 0) m1:=λ_=>rfl;have P':ai K as H Q ((af cl a env m).bind λx m1=>(af cl (.lit (.int 0)) env m1).bind λy m2=>
  yh (λu v m=>af cl cond (env++[some u]++[some v]) m) (λu v m=>af cl elt (env++[some u]++[some v]) m) (zL .prs x y) (aq+1) 0 [] m2):=P
 clear P;cases hr:af cl a env m with
 |no=>rw[hr]at P';exact P'
 |exc c w m'=>rw[hr]at P';exact P'
 |ok w m1=>
  rw[hr,du,hl,du]at P';have P0:=P';cases e0:zL .prs w (.int 0) 0 m1 with
  |none=>rw[w6 e0]at P0;exact P0.elim
  |some o0=>
   obtain⟨l,xs0,rfl,e00,_⟩:=jl e0;refine⟨?_,λas1 H1 J T1 S1 hI D hD=>?_⟩
   .show (zn m1 l).isSome=true;rw[e00];rfl
   .obtain ⟨a,ha,rfl⟩:=hI;have Pc1:=ai.step P0 T1;refine⟨λi n ys H'=>∃as' m' acc,as'[l]?=some a/\cI K as1 H1 D env σ as' m' acc ys H' /\
     ai K as1 H1 Q (yh (λu v m=>af cl cond (env++[some u]++[some v]) m) (λu v m=>af cl elt (env++[some u]++[some v]) m) (zL .prs (.ref l) (.int 0)) n i acc m'),⟨aq+1,as1,m1,[],ha,cI.start (as:=as) (H:=H) S1 (G.mono S T1) hD,Pc1⟩,?_⟩
    rintro i n ys H' ⟨as',m',acc,hl,M,Pi⟩;cases n with
    |zero=>exact Pi.elim
    |succ n=>
     cases e:zL .prs (.ref l) (.int 0) i m' with
     |none=>rw[w6 e]at Pi;exact Pi.elim
     |some o=>
      unfold yh at Pi;rw[e]at Pi;obtain⟨l',xs,hl',e1,hc⟩:=jl e;cases hl';obtain⟨a',vs,ha',eH,RL⟩:=zW M.S (zM e1);rw[hl]at ha';cases ha';rcases hc with⟨ex,rfl⟩|⟨x,y,ex,rfl⟩
      .have hle:vs.length<=i:=by rw[<-RL.length];exact Wf.mp ex
       exact .inl ⟨⟨vs,bD.of eH,hle⟩,xX M.S M.T hD M.hD M.n M.R Pi⟩
      .obtain ⟨v0,hv0,Rx⟩:=RL.get ex;refine .inr ⟨⟨vs,v0,bD.of eH,hv0⟩,λv H'' hy=>?_⟩;obtain⟨rfl,hy⟩:=hy;have:=hy vs (bD.of eH);rw[hv0]at this;cases this;obtain⟨t,us,rfl,hq,R2⟩:=ah.mp Rx;obtain⟨x',y',rfl,Ra,Rb⟩:=pG R2;refine⟨[x',y'],⟨t,rfl,hq,rfl⟩,?_⟩;have G2:aD K as' H'' (env++[some x,some y]) (σ++[x',y'].map some):=by
        have:=(M.G.push Ra).push Rb;simpa using this
       refine wD htc (ex:=[some x,some y]) (next:=λacc m=>yh (λu v m=>af cl cond (env++[some u]++[some v]) m) (λu v m=>af cl elt (env++[some u]++[some v]) m) (zL .prs (.ref l) (.int 0)) n (i+1) acc m)
        (N:=λzs H2=>∃n',n'<n+1/\∃as' m' acc,as'[l]?=some a/\cI K as1 H1 D env σ as' m' acc zs H2/\ai K as1 H1 Q (yh (λu v m=>af cl cond (env++[some u]++[some v]) m) (λu v m=>af cl elt (env++[some u]++[some v]) m) (zL .prs (.ref l) (.int 0)) n' (i+1) acc m')) hD M G2 (by simp only[]at Pi;rw[show env++[some x]++[some y]=env++[some x,some y]from by simp]at Pi;exact Pi) ?_
       intro as2 m2 acc' ys' H2 kp g M2 P2;exact⟨n,WE _,as2,m2,acc',g _ _ hl,M2,P2⟩
def vX {cond:Ex}(htc:∀σ H Q,xy K (af cl cond) σ H Q->tc σ H Q)(h:aI K (af cl (.comp elt it cond)) σ H Q):
  jY lW (fh K (af cl it)) tc (aI K (af cl elt)) σ H Q:=by
 obtain⟨as,env,m,S,G,P⟩:=h;refine⟨as,env,m,S,G,?_⟩;have P':ai K as H Q ((af cl it env m).bind λx m1=>match x with
  |.tup xs=>y6 (λx m=>af cl cond (env++[some x]) m) (λx m=>af cl elt (env++[some x]) m) xs [] m1
  |.rol xs=>y6 (λx m=>af cl cond (env++[some x]) m) (λx m=>af cl elt (env++[some x]) m) xs [] m1
  |.ref l=>y7 (λx m=>af cl cond (env++[some x]) m) (λx m=>af cl elt (env++[some x]) m) l (aq+1) 0 [] m1
  |_=>.no):=P
 clear P;cases hr:af cl it env m with
 |no=>rw[hr]at P';exact P'
 |exc c w m'=>rw[hr]at P';exact P'
 |ok w m1=>
  rw[hr]at P';have start:∀{as1:List Addr}{H1:Hp}{D:Addr},Step as H as1 H1->aL K as1 m1 H1->H1 D=none->cI K as1 H1 D env σ as1 m1 [] [] (aH H1 D (.lst [])):=λ{as1 H1 D} T1 S1 hD=>cI.start (as:=as) (H:=H) S1 (G.mono S T1) hD
  -- over items that stay
  have seqs:∀(xs:List Wd),ai K as H Q (y6 (λx m=>af cl cond (env++[some x]) m) (λx m=>af cl elt (env++[some x]) m) xs [] m1) ->
    ∀as1 H1 J,Step as H as1 H1->aL K as1 m1 H1->iG K as1 H1 J xs->∀D,H1 D=none->∃W:Nat->Nat->List V->Hp->Prop,(∃m,W 0 m [] (aH H1 D (.lst [])))/\∀i m ys H,W i m ys H ->
     (J.stop i H/\Q (.ref D) H)\/(J.go i H/\∀v H',J.yld i H v H'->∃vs,lW v H' vs/\tc (σ++vs.map some) H' λb H2=>if b=true then aI K (af cl elt) (σ++vs.map some) H2 λy H3=>H3 D=some (.lst ys)/\ys.length<sizeLine/\∃m',m'<m/\W (i+1) m' (ys++[y]) (aH H3 D (.lst (ys++[y])))
      else ∃m',m'<m/\W (i+1) m' ys H2):=by
   intro xs Pc as1 H1 J T1 S1 hI D hD;obtain⟨vs,ok,hJ,ok1,RL,stab⟩:=hI;have Pc1:=ai.step Pc T1;have hlen:=RL.length;refine⟨λi n ys H'=>∃as' m' acc,i<=xs.length/\n=xs.length-i/\cI K as1 H1 D env σ as' m' acc ys H'/\ok H'/\aa K as' H' xs vs /\
    ai K as1 H1 Q (y6 (λx m=>af cl cond (env++[some x]) m) (λx m=>af cl elt (env++[some x]) m) (xs.drop i) acc m'),
    ⟨xs.length,as1,m1,[],WA _,rfl,start T1 S1 hD,stab _ _ (S1.kp (start T1 S1 hD).T) ok1,RL.mono S1 (start T1 S1 hD).T,Pc1⟩,?_⟩
   rintro i n ys H' ⟨as',m',acc,hi,rfl,M,okH,RL',Pi⟩;by_cases hlt:i<xs.length
   .refine .inr ⟨hJ.go i H' okH (by rw[<-hlen];exact hlt),λv H'' hy=>?_⟩;obtain⟨rfl,hv⟩:=hJ.yld i H' v H'' okH (by rw[<-hlen];exact hlt) hy;obtain⟨v',hv',Rx⟩:=RL'.get (i:=i) (x:=xs[i]) (by simp[hlt]);rw[hv]at hv';cases hv';rw[QP hlt]at Pi;refine⟨[v],rfl,wD htc (sx:=[some v]) (next:=λacc m=>y6 (λx m=>af cl cond (env++[some x]) m) (λx m=>af cl elt (env++[some x]) m) (xs.drop (i+1)) acc m) (N:=λzs H2=>∃n',n'<xs.length-i/\∃as' m' acc,i+1<=xs.length/\n'=xs.length-(i+1)/\cI K as1 H1 D env σ as' m' acc zs H2/\ok H2/\aa K as' H2 xs vs/\ai K as1 H1 Q (y6 (λx m=>af cl cond (env++[some x]) m) (λx m=>af cl elt (env++[some x]) m) (xs.drop (i+1)) acc m')) hD M (M.G.push Rx) Pi ?_⟩;intro as2 m2 acc' ys' H2 kp g M2 P2;exact⟨xs.length-(i+1),by lia,as2,m2,acc',hlt,rfl,M2,stab _ _ kp okH,aX kp g _ _ RL',P2⟩
   .have e:i=xs.length:=by lia
    subst e;rw[W4]at Pi;exact .inl ⟨hJ.stop _ H' okH (by lia),xX M.S M.T hD M.hD M.n M.R Pi⟩
  cases w with
  |tup xs=>exact⟨rfl,λas1 H1 J T1 S1 hI=>seqs xs P' as1 H1 J T1 S1 hI⟩
  |rol xs=>exact⟨rfl,λas1 H1 J T1 S1 hI=>seqs xs P' as1 H1 J T1 S1 hI⟩
  |ref l=>
   have P2:ai K as H Q (y7 (λx m=>af cl cond (env++[some x]) m) (λx m=>af cl elt (env++[some x]) m) l (aq+1) 0 [] m1):=P';refine⟨?_,λas1 H1 J T1 S1 hI D hD=>?_⟩
   .show (zn m1 l).isSome=true;cases e:zn m1 l with
    |some xs=>rfl
    |none=>
     unfold y7 at P2;rw[e]at P2;exact P2.elim
   .obtain ⟨a,ha,rfl⟩:=hI;have Pc1:=ai.step P2 T1;refine⟨λi n ys H'=>∃as' m' acc,as'[l]?=some a/\cI K as1 H1 D env σ as' m' acc ys H' /\
     ai K as1 H1 Q (y7 (λx m=>af cl cond (env++[some x]) m) (λx m=>af cl elt (env++[some x]) m) l n i acc m'),⟨aq+1,as1,m1,[],ha,start T1 S1 hD,Pc1⟩,?_⟩
    rintro i n ys H' ⟨as',m',acc,hl,M,Pi⟩;cases n with
    |zero=>exact Pi.elim
    |succ n=>
     unfold y7 at Pi;cases e:zn m' l with
     |none=>rw[e]at Pi;exact Pi.elim
     |some xs=>
      rw[e]at Pi;simp only[]at Pi;obtain⟨a',vs,ha',eH,RL⟩:=zW M.S (zM e);rw[hl]at ha';cases ha';cases ex:xs[i]? with
      |none=>
       rw[ex]at Pi;have hle:vs.length<=i:=by rw[<-RL.length];exact Wf.mp ex
       exact .inl ⟨⟨vs,bD.of eH,hle⟩,xX M.S M.T hD M.hD M.n M.R Pi⟩
      |some x=>
       rw[ex]at Pi;obtain⟨v0,hv0,Rx⟩:=RL.get ex;refine .inr ⟨⟨vs,v0,bD.of eH,hv0⟩,λv H'' hy=>?_⟩;obtain⟨rfl,hy⟩:=hy;have:=hy vs (bD.of eH);rw[hv0]at this;cases this;refine⟨[v0],rfl,wD htc (sx:=[some v0]) (next:=λacc m=>y7 (λx m=>af cl cond (env++[some x]) m) (λx m=>af cl elt (env++[some x]) m) l n (i+1) acc m) (N:=λzs H2=>∃n',n'<n+1/\∃as' m' acc,as'[l]?=some a/\cI K as1 H1 D env σ as' m' acc zs H2/\ai K as1 H1 Q (y7 (λx m=>af cl cond (env++[some x]) m) (λx m=>af cl elt (env++[some x]) m) l n' (i+1) acc m')) hD M (M.G.push Rx) Pi ?_⟩;intro as2 m2 acc' ys' H2 kp g M2 P2;exact⟨n,WE _,as2,m2,acc',g _ _ hl,M2,P2⟩
  |non=>exact P'.elim
  |bl k=>exact P'.elim
  |int i=>exact P'.elim
  |str s=>exact P'.elim
end
section
variable{K:Qb}{as:List Addr}{H:Hp}{m:Me}{Q:VK}
def vE (h:ky y=some k)(R:ag K as H y v):∃a,v=.ref a/\bM K H a (k.map V.int):=by
 cases y with
 |tup ws=>
  obtain⟨a,vs,rfl,q,r⟩:=ah.mp R;rw[j4 h r]at q;exact⟨a,rfl,q⟩
 |_=>cases h
theorem jm:∀{xs:List TK}{ws:List Wd}{vs:List V}{q:List Int}{w:Wd},aa K as H ws vs->av vs (xs.map (·.2.2))->cb (xs.map (·.1)) ws q=some w->∃p v,Km xs q=some p/\RelV v p.2/\ag K as H w v
 |[],ws,vs,q,w,r,rv,h=>by cases ws<;>cases h
 |x::xs,ws,vs,q,w,r,rv,h=>by
  cases ws with
  |nil=>cases h
  |cons y ws=>
   obtain⟨v,vs',rfl,r1,r2⟩:=aj.mp r;cases rv with
   |cons p1 p2=>
    have h':(if x.1=q then some y else cb (xs.map (·.1)) ws q)=some w:=h;by_cases e:x.1=q
    .rw[Lp e]at h';cases h';exact⟨x.2,v,by simp[Km,e],p1,r1⟩
    .rw[Lq e]at h';obtain⟨p,v',h1,h2,h3⟩:=jm r2 p2 h';exact⟨p,v',by simpa [Km,List.find?_cons,e]using h1,h2,h3⟩
def Dy (S:aL K as m H)(R:ag K as H x v)(R':ag K as H y u)(h:ai K as H Q (kQ x y m)):oq K v u H Q:=by
 unfold kQ at h;cases x with
 |ref l=>
  obtain⟨a,ha,rfl⟩:=aG.mp R;dsimp only at h;cases e:m[l]? with
  |none=>rw[e]at h;exact h.elim
  |some o=>
   cases o with
   |lst ys=>rw[e]at h;exact h.elim
   |dct ks ws=>
    rw[e]at h;dsimp only at h;obtain⟨a',xs,vs,ha',td,rfl,r,rv,nd⟩:=kS S e;rw[ha]at ha';cases ha';cases ek:ky y with
    |none=>rw[ek]at h;exact h.elim
    |some k=>
     rw[ek]at h;obtain⟨b,rfl,qb⟩:=vE ek R';cases ew:cb (xs.map (·.1)) ws k with
     |none=>simp only[VS,ew]at h;exact h.elim
     |some w=>
      simp only[VS,ew]at h;obtain⟨p,z,h1,h2,h3⟩:=jm r rv ew;exact⟨a,b,k,xs,p,rfl,rfl,qb,td,h1,z,h2,h.ok S h3⟩
 |_=>exact h.elim
def Gi:(storedH xs q a u).map (·.1)=xn (xs.map (·.1)) q:=by
 unfold storedH xn;by_cases h:q∈xs.map (·.1)
 .rw[Lp (ca.mpr h),Lp h,keys_map_putAt]
 .rw[Lq (λz=>h (ca.mp z)),Lq h,WI];rfl
def Gh (h:ks.Nodup):(xn ks q).Nodup:=by
 unfold xn;by_cases z:q∈ks
 .rw[Lp z];exact h
 .rw[Lq z];refine QQ.mpr ⟨h,by simp,λx hx y hy e=>?_⟩;rw[Qt.mp hy]at e;exact z (e▸hx)
theorem rX (Rw:ag K as H w v):∀{ks:List (List Int)}{ws:List Wd}{vs:List V},aa K as H ws vs->aa K as H (zK ks ws q w) (zK ks vs q v)
 |[],ws,vs,r=>r.append (.one Rw)
 |k::ks,ws,vs,r=>by
  cases ws with
  |nil=>obtain rfl:=ao.mp r;exact aa.one Rw
  |cons x ws=>
   obtain⟨y,vs',rfl,r1,r2⟩:=aj.mp r;show aa K as H (if k=q then w::ws else x::zK ks ws q w) (if k=q then v::vs' else y::zK ks vs' q v);by_cases e:k=q
   .rw[Lp e,Lp e];exact aj.mpr ⟨v,vs',rfl,Rw,r2⟩
   .rw[Lq e,Lq e];exact aj.mpr ⟨y,_,rfl,r1,rX Rw r2⟩
theorem rW:∀{ks:List (List Int)}{vs:List V},q∉ks->ks.length=vs.length->zK ks vs q v=vs++[v]
 |[],vs,_,_=>rfl
 |k::ks,[],_,h=>by cases h
 |k::ks,x::vs,hq,h=>by
  show(if k=q then v::vs else x::zK ks vs q v)=_;rw[Lq (λe=>hq (by simp[e])),rW (λz=>hq (by simp[z])) (by simpa using h)];rfl
theorem rV (ru:RelV v u):∀{xs:List TK}{vs:List V},(xs.map (·.1)).Nodup->q∈xs.map (·.1)->av vs (xs.map (·.2.2))->av (zK (xs.map (·.1)) vs q v) ((xs.map (Kj q u)).map (·.2.2))
 |[],vs,_,h,_=>by simp at h
 |x::xs,vs,nd,h,r=>by
  rw[QJ,QV]at nd;cases r with
  |@cons y _ vs' _ p1 p2=>
   show av (if x.1=q then v::vs' else y::zK (xs.map (·.1)) vs' q v) ((Kj q u x).2.2::(xs.map (Kj q u)).map (·.2.2));by_cases e:x.1=q
   .rw[Lp e,map_putAt_of_not_mem xs q u (e▸nd.1)];unfold Kj;rw[Lp e];exact .cons ru p2
   .rw[Lq e];unfold Kj;rw[Lq e];exact .cons p1 (rV ru nd.2 (by simpa [Ne.symm e]using h) p2)
def Gg (ru:RelV v u)(nd:(xs.map (·.1)).Nodup)(r:av vs (xs.map (·.2.2))):av (zK (xs.map (·.1)) vs q v) ((storedH xs q a u).map (·.2.2)):=by
 unfold storedH;by_cases h:q∈xs.map (·.1)
 .rw[Lp (ca.mpr h)];exact rV ru nd h r
 .rw[Lq (λz=>h (ca.mp z)),WI];rw[rW h (by have:=r.length;simp at this ⊢;lia)];exact r.append (.cons ru .nil)
def F4 {q:List Int}:∀x∈storedH xs q a u,(∃y∈xs,y.1=x.1/\y.2.1=x.2.1)\/(x.1=q/\x.2.1=a):=λx hx=>by
 unfold storedH at hx;split at hx
 .obtain ⟨y,hy,rfl⟩:=WX.mp hx;refine .inl ⟨y,hy,?_⟩;unfold Kj;split<;>exact⟨rfl,rfl⟩
 .rcases Qx.mp hx with z|z
  .exact .inl ⟨x,z,rfl,rfl⟩
  .rw[Qt.mp z];exact .inr ⟨rfl,rfl⟩
def aL.setD (S:aL K as m H)(ha:as[l]?=some a)(hm:m[l]?=some (.dct ks ws))(td:zZ K H a xs)(ek:xs.map (·.1)=ks)(r:aa K as H ws vs)(rv:av vs (xs.map (·.2.2)))(nd:ks.Nodup)(qb:bM K H b (q.map V.int))(Rw:ag K as H w v)(ru:RelV v u):
  Step as H as (aH H a (zQ a (storedH xs q b u)))/\aL K as (m.set l (.dct (xn ks q) (zK ks ws q w))) (aH H a (zQ a (storedH xs q b u))):=by
 have hin:a∈as:=Qr ha;have T:Step as H as (aH H a (zQ a (storedH xs q b u))):=⟨⟨[],by simp⟩,λc o h hb=>by
  rw[zd (by rintro rfl;exact hb hin)];exact h,λc hb=>.inl hb⟩
 have kp:Kp K H (aH H a (zQ a (storedH xs q b u))):=Kp.updL td.1 trivial;refine⟨T,⟨by simp[S.len],S.nd,λk c o h1 h2=>?_⟩⟩;by_cases hk:k=l
 .subst hk;rw[ha]at h1;cases h1;rw[Wj (Qa.mp hm).1]at h2;cases h2;subst ek;refine⟨storedH xs q b u,zK (xs.map (·.1)) vs q v,⟨ze,λx hx=>?_⟩,Gi,(rX Rw r).kp kp,Gg ru nd rv,Gh nd⟩;rcases F4 x hx with⟨y,hy,e1,e2⟩|⟨e1,e2⟩
  .rw[<-e1,<-e2];exact kp.t _ _ (td.2 y hy)
  .rw[e1,e2];exact kp.t _ _ qb
 .rw[QA (Ne.symm hk)]at h2;have q':=S.obj k c o h1 h2;have hb:c≠a:=by
   rintro rfl;obtain⟨i1,e1⟩:=Qa.mp h1;obtain⟨i2,e2⟩:=Qa.mp ha;exact hk ((W3 S.nd).mp (e1.trans e2.symm))
  exact bv.mono kp (λ_ _ e=>e) (λo e=>by rw[zd hb];exact e) q'
def aL.newD (S:aL K as m H)(hp:H p=none):Step as H (as++[p]) (aH H p (zQ p []))/\aL K (as++[p]) (m++[.dct [] []]) (aH H p (zQ p [])):=by
 have hn:=S.new hp;have T:Step as H (as++[p]) (aH H p (zQ p [])):=⟨⟨[p],rfl⟩,λb o h _=>by rw[zd (zo h hp)];exact h,λb hb=>by
  rcases Qx.mp hb with z|z
  .exact .inl z
  .exact .inr (by rw[Qt.mp z];exact hp)⟩
 refine⟨T,⟨by simp[S.len],?_,λl b o h1 h2=>?_⟩⟩
 .refine QQ.mpr ⟨S.nd,by simp,λx hx y hy=>?_⟩;rw[Qt.mp hy];rintro rfl;exact hn hx
 .by_cases hl:l<as.length
  .rw[Qf hl]at h1;rw[Qf (by rw[<-S.len];exact hl)]at h2;exact bv.mono (S.kp T) (λ_ _ e=>T.get e) (λo e=>by rw[zd (zo e hp)];exact e) (S.obj l b o h1 h2)
  .rw[Qd (by lia)]at h1;rw[Qd (by rw[<-S.len];lia)]at h2;have hz:l-as.length=0:=by
    cases hq:l-as.length with
    |zero=>rfl
    |succ k=>rw[hq]at h1;simp at h1
   rw[hz]at h1;rw[<-S.len,hz]at h2;simp at h1 h2;subst h1;subst h2;exact⟨[],[],⟨ze,λx hx=>by simp at hx⟩,rfl,ao.mpr rfl,.nil,QM⟩
end
section
variable{cl:Nat->List Wd->Me->Rz}{X:Cx}{a b:Ex}{x y:Expr}{pos:Pos}
def Er:PE X (.Dict [] [] pos) (aI X.K (af cl .dict0)):=by
 refine PE.imp FF λσ H Q h d hd=>?_;obtain⟨as,env,m,S,G,P⟩:=h;obtain⟨T,S'⟩:=S.newD hd;have P':ai X.K as H Q (.ok (.ref m.length) (m++[.dct [] []])):=P;refine P' _ _ _ T S' (aG.mpr ⟨d,?_,rfl⟩);rw[<-S.len,Qd (Qg _)];simp
def D8(hu:X.A.units+64<JA)(ha:PE X x (aI X.K (af cl a)))(hb:PE X y (aI X.K (af cl b)))(hs:yQ y=true):PE X (.Subscript x y pos) (aI X.K (af cl (.dget a b))):=by
 have hp:gF y:=λo i=>by cases y<;>first|rfl|cases hs
 refine PE.imp (ow (mR hu) ha hb hp) λσ H Q h=>?_;obtain⟨as,env,m,S,G,P⟩:=h;refine⟨as,env,m,S,G,ai.bind P λx m1 as1 H1 v T1 S1 R1 P1=>?_⟩;refine⟨as1,env,m1,S1,G.mono S T1,ai.bind P1 λy m2 as2 H2 u T2 S2 R2 P2=>?_⟩;exact Dy S2 (R1.mono S1 T2) R2 P2
end
end Mini
namespace Mini
open PySem L2
end Mini
namespace Mini
open PySem PySem.Spec PyProof.Rows L2
section
noncomputable def IL(t u:Tg)(w:Wd)(m:Me):Rz:=(dF (cJ t w m) m).bind λx m1=>match x with
 |.bl false=>dF (cJ u w m1) m1
 |.bl true=>.ok (.bl true) m1
 |_=>.no
end
end Mini
namespace L2
open PySem PySem.Spec PyProof.Rows
section
variable{X:Cx}
def oG(K:Qb):V->List V->Hp->VK->Prop:=λx vs H Q=>∃d a ks xs z,x=.ref d/\vs=[.ref a,z]/\bM K H a (ks.map V.int)/\zZ K H d xs/\(∀p v,Km xs ks=some p->RelV v p.2->Q v H)/\(Km xs ks=none->Q z H)/\∀p,Km xs ks=some p->∃v,RelV v p.2
def D7(hu:X.A.units+64<JA):eO X "dict.get" (oG X.K):=by
 intro pins s σ H x vs v us Q I rx rv h;obtain⟨d,a,ks,xs,z,rfl,rfl,hk,td,q1,q2,q3⟩:=h;cases rx;obtain⟨_,ra,⟨uz,rz,rfl⟩⟩:∃u1,RelV (.ref a) u1/\∃u2,RelV z u2/\us=[u1,u2]:=by
  cases rv with
  |cons p r=>cases r with
   |cons p' r'=>cases r';exact⟨_,p,_,p',rfl⟩
 cases ra;obtain⟨d0,dm⟩:=xI I td;refine JR F.slot_dict_get dm.typeIs F.entry_dict_get ?_ (F.args_dict_get_3 _ _ _);apply Jj (m:=dictGet d (.ref a));apply wpAny_dictGet_heap (knd:=Kl (Kh X.prog X.w)) (by show X.A.units+1<JA;lia) (wC I hk) dm;cases e:Km xs ks with
 |some p=>
  obtain⟨y,ry⟩:=q3 p e;exact Jp ⟨p.2,rfl,y,H,I.tok _,ry,q1 p y e ry⟩
 |none=>
  apply Jj (m:=Builtin.Dict.missed d (.ref a));exact wpAny_missed_other d0 (Jp ⟨uz,rfl,z,H,I.tok _,rz,q2 e⟩)
def sg (I:Inv X pins σ H s)(h:zZ X.K H d xs):s.TypeIs (.ref d) "dict" /\ ∀a,Value.ref d=.ref a->∃ob,s.heap.get? a=some ob/\ob.dict=none:=by
 obtain⟨_,o,es,g,ex,_⟩:=zT I h;exact⟨⟨o,g,ex.1⟩,λa e=>by cases e;exact⟨o,g,ex.2.1⟩⟩
def Gx(K:Qb)(r:V->List V->Hp->VK->Prop)(to:TE)(t:TA):TE:=λσ H Q=>to σ H λx H1=>(∃d xs,x=.ref d/\zZ K H1 d xs)/\t σ H1 λvs H2=>r x vs H2 Q
def As {id:String}(slot:Slot "dict" name id)(hty:typeOf (.builtin id)=pure (.type "method_descriptor"))(hm:eO X id r)(ho:PE X o to)(ha:PA X (e::es) t)(hbase:J0 o name X.env (eval o X.env)=eval o X.env)(hfew:((IZ cpos (I0 (e::es) X.env)).all (λx=>! x.1)&&(J2 cpos (J3 [] X.env)).all (λx=>x.1.isSome)&&decide ((e::es).length+([]:List J4).length+(if([]:List J4).isEmpty then 0 else 1)<30))=true)(hline:(apos.endLine==cpos.line)=true)(hs:I0 (e::es) X.env=(false,eval e X.env)::I0 es X.env)(hplain:(IZ cpos (I0 es X.env)).any (·.1)=false):
  PE X (.Call (.Attribute o name apos) (e::es) [] cpos) (Gx X.K r to t):=by
 intro pins s σ H Q I h;refine J5 hbase hfew hline rfl (aW (ho pins s σ H _ I h) λv s1 ⟨x,H1,I1,r1,⟨d,xs,hx,td⟩,q1⟩=>?_);subst hx;cases r1;obtain⟨h1,h2⟩:=sg I1 td;have hA:=ha cpos pins s1 σ H1 _ I1 q1;rw[hs]at hA;refine⟨"dict",id,PySem.F.plainAttrs_dict,slot,hty,h1,h2,?_⟩;rw[hs];refine Calls.callWith_builtin (show(false || (IZ cpos (I0 es X.env)).any (·.1))=false by rw[hplain];rfl) (Calls.evalArgs_plain (aW hA λus s2 ⟨vs,H2,I2,r2,q2⟩=>?_));exact hm pins s2 σ H2 (.ref d) vs (.ref d) us Q I2 rfl r2 q2
end
section
variable{prog:IQ}{w:IR}{A:IV}{E:Value->Shared->Prop}{s:Shared}{it d:Addr}{i n:Nat}{od:Obj}{es:Array DictEntry}
def Ar (at_:s.heap.IsValIter it d i n n)(g:s.heap.get? d=some od)(dat:od.data=.dict es n)(sz:es.size=n)(hi:i<n)(end':∀h',h'.IsValIter it d (i+1) n n->Wa it s.heap h'->R (some (es[i]'(by lia)).val) {s with heap:=h' }):IX (IY prog w) A (Jm (.ref it)) R E s:=by
 obtain⟨o,go,co,fo⟩:=id at_;have ty:=at_.typeIs;unfold Jm;apply Jj;apply KH;apply JQ ty F.slot_dict_valueiterator_next;refine JR F.slot_dict_valueiterator_next ty F.entry_dict_valueiterator_next ?_ (F.args_dict_valueiterator_next_1 _);refine Jj (Jp (Jj (Jj (Jj (Lh ty (Jp ?_))))));refine Jj (K0 go fo ?_);have no:Builtin.Dict_items.ownsTuple "dict_valueiterator"=false:=by decide
 simp only[no,Wb,if_false];change IX _ _ (ite ((Value.ref d==Value.none)=true) _ _) _ _ s;rw[show(Value.ref d==Value.none)=false from rfl,Lq QC];refine Jj (Jp (Jj (KW g dat ?_)));rw[sz,Lq (by simp)];refine Jj (Jp (Jj (KY g dat ?_)));rw[Lq (by simp)];apply Jp;have hi':i<es.size:=by lia
 simp only[show ¬(i:Int)<0 from by lia,if_false,Wl,We hi'];refine Jj (Jj (Lh ty (Jp (Jj (Li ty ?_)))));apply Jj (m:=KR (.ref it) 1 (Jq ((i:Int)+1)));apply KS go fo (by simp);have nx:(s.heap.update it (Obj.mapFields (·.setIfInBounds 1 (Jq ((i:Int)+1))))).IsValIter it d (i+1) n n:=by
  refine⟨_,WK _ go (Obj.isFreed_of_fields (Obj.data_mapFields fo _)),by rw[Obj.cls_mapFields];exact co,?_⟩;rw[Obj.data_mapFields fo];simp[Jq]
 refine Jj (Jk (Jj (Li nx.typeIs (Jj (Li nx.typeIs ?_)))));exact Jp (Jp ⟨_,rfl,Jp (end' _ nx (Wa.update ..))⟩)
def Aq (quiet:A.handled=none)(at_:s.heap.IsValIter it d i n n)(g:s.heap.get? d=some od)(dat:od.data=.dict es n)(sz:es.size=n)(hi:n<=i)(end':∀h',Vf it s.heap h'->R none {s with heap:=h' }):IX (IY prog w) A (Jm (.ref it)) R E s:=by
 obtain⟨o,go,co,fo⟩:=id at_;have ty:=at_.typeIs;unfold Jm;apply Jj;apply KH;apply JQ ty F.slot_dict_valueiterator_next;refine JR F.slot_dict_valueiterator_next ty F.entry_dict_valueiterator_next ?_ (F.args_dict_valueiterator_next_1 _);refine Jj (Jp (Jj (Jj (Jj (Lh ty (Jp ?_))))));refine Jj (K0 go fo ?_);have no:Builtin.Dict_items.ownsTuple "dict_valueiterator"=false:=by decide
 simp only[no,Wb,if_false];change IX _ _ (ite ((Value.ref d==Value.none)=true) _ _) _ _ s;rw[show(Value.ref d==Value.none)=false from rfl,Lq QC];refine Jj (Jp (Jj (KW g dat ?_)));rw[sz,Lq (by simp)];refine Jj (Jp (Jj (KY g dat ?_)));rw[Lq (by simp)];apply Jp;simp only[show ¬(i:Int)<0 from by lia,if_false,Wl,WF (show es.size<=i by lia)];refine Jj (Jj (Lh ty (Jp ?_)));exact lL quiet go fo (by rw[no];exact Nat.zero_lt_succ 3) end'
def AJ (vw:s.heap.IsValuesView v d)(g:s.heap.get? d=some od)(dat:od.data=.dict es n)(sz:es.size=n)(end':R (.ref s.heap.objs.size) {s with heap:=s.heap.push {cls:=.type "dict_valueiterator",data:=.fields #[.ref d,.int 0 0,.int n 0,.int n 0]} }):IX (IY prog w) A (Jo (.ref v)) R E s:=by
 obtain⟨ov,gv,cv,fv⟩:=id vw;apply KV vw.typeIs F.slot_dict_values_iter;refine JR F.slot_dict_values_iter vw.typeIs F.entry_dict_values_iter ?_ (F.args_dict_values_iter_1 _);unfold Builtin.«dict_values.__iter__» Builtin.Dict_items.dictOf Builtin.Dict_items.newIterator;refine Jj (Jp (Jj (Jj (JO gv fv (x:=.ref d) rfl (Jp ?_)))));refine Jj (Jj (KW g dat (Jj (KY g dat ?_))));have no:Builtin.Dict_items.ownsTuple "dict_valueiterator"=false:=by decide
 simp only[no,Wb,if_false];refine JT (Jp ⟨_,rfl,"dict_valueiterator",_,⟨_,Qe _ rfl,rfl⟩,F.slot_dict_valueiterator_next.lookup,?_⟩);rw[sz];exact end'
end
section
variable{X:Cx}
def fZ(v d:Addr):HO:=.ext λh=>h.IsValuesView v d
def AI(K:Qb):V->List V->Hp->VK->Prop:=λx vs H Q=>∃d xs,x=.ref d/\vs=[]/\zZ K H d xs/\∀v,H v=none->Q (.ref v) (aH H v (fZ v d))
def D6:eO X "dict.values" (AI X.K):=by
 intro pins s σ H x vs v us Q I rx rv h;obtain⟨d,xs,rfl,rfl,td,q⟩:=h;cases rx;cases rv;obtain⟨d0,dm⟩:=xI I td;refine JR F.slot_dict_values dm.typeIs F.entry_dict_values ?_ (F.args_dict_values_1 _);apply Jj (m:=Builtin.Dict.noArgs _ _);unfold Builtin.Dict.noArgs;apply Jj;apply Kk dm.typeIs;apply Jp (a:=d);apply Jj (m:=Builtin.Dict.showsAll d);unfold Builtin.Dict.showsAll;rw[d0];apply Jp;refine Jj (JT (Jp ⟨_,rfl,.ref s.heap.objs.size,aH H s.heap.objs.size (fZ s.heap.objs.size d),I.laid (t':=s.toks) (λb u e=>Qc _ e) (Qg _) ?_,rfl,q _ I.fresh⟩));refine⟨⟨_,Qe _ rfl,rfl,rfl⟩,⟨_,Qe _ rfl⟩,λh1 h2 hx k=>?_⟩;obtain⟨o,a1,r⟩:=hx;exact⟨o,k o a1,r⟩
def nW(K:Qb)(r:V->List V->Hp->VK->Prop)(to:TE):TE:=λσ H Q=>to σ H λx H1=>(∃d xs,x=.ref d/\zZ K H1 d xs)/\r x [] H1 Q
def oQ {id:String}(slot:Slot "dict" name id)(hty:typeOf (.builtin id)=pure (.type "method_descriptor"))(hm:eO X id r)(ho:PE X o to)(hbase:J0 o name X.env (eval o X.env)=eval o X.env)(hline:(apos.endLine==cpos.line)=true):PE X (.Call (.Attribute o name apos) [] [] cpos) (nW X.K r to):=by
 intro pins s σ H Q I h;refine J1 hbase hline (aW (ho pins s σ H _ I h) λv s1 ⟨x,H1,I1,r1,⟨d,xs,hx,td⟩,q1⟩=>?_);subst hx;cases r1;obtain⟨h1,h2⟩:=sg I1 td;exact⟨"dict",id,PySem.F.plainAttrs_dict,slot,hty,h1,h2,Calls.callWith_builtin rfl (PySem.evalArgs_none (hm pins s1 σ H1 (.ref d) [] (.ref d) [] Q I1 rfl .nil q1))⟩
def A0 (quiet:A.handled=none)(it d:Addr)(hne:d≠it)(od:Obj)(es:Array DictEntry)(n:Nat)(dat:od.data=.dict es n)(sz:es.size=n):
  Walks prog w A it [it,d] [it] n (λi v=>∃e,es[i]?=some e/\v=e.val) (λi h=>h.IsValIter it d i n n/\h.get? d=some od) where
 sub:=by simp
 frame:=λi h h' st k=>by
  obtain⟨⟨o,a,b⟩,c⟩:=st;exact⟨⟨o,k it (by simp) o a,b⟩,k d (by simp) od c⟩
 item:=λi s Q E hi st fin=>by
  refine Ar st.1 st.2 dat sz hi λh' st' sb=>?_;exact fin _ h' s.toks ⟨es[i]'(by lia),by simp[show i<es.size by lia],rfl⟩ ⟨st',(sb.2 d hne).trans st.2⟩ λb o hb e=>(sb.2 b (by simpa using hb)).trans e
 done:=λs Q E st fin=>Aq quiet st.1 st.2 dat sz (Qg _) λh' eb=>fin h' s.toks λb o hb e=>eb b o (by simpa using hb) e
 self:=λ_ _ _ _ st fin=>wpAny_pyIter_valiter st.1 fin
def Fy(hc:X.calm=true):bp X (.builtin "sum") (λus H Q=>∃(v d:Addr) (xs:List TK) (ns:List Int),us=[.ref v]/\H v=some (fZ v d)/\zZ X.K H d xs/\av (ns.map V.int) (xs.map (·.2.2))/\Q (.int ns.sum) H):=by
 intro pins s σ H us ws Q I r h;obtain⟨v,d,xs,ns,rfl,hv,td,rn,q⟩:=h;obtain⟨u,rfl,rx⟩:=xG r;cases rx;obtain⟨_,od,es,g,ex,dat,sz,rows⟩:=zT I td;have vw:s.heap.IsValuesView v d:=(I.hok v _ hv).1;have hlen:=rn.length;have hlt:=Qi g;refine call_sum_walkG (AJ vw g dat sz ?_);refine⟨s.heap.objs.size,_,_,_,_,_,λi=>ns.getD i 0,rfl,A0 (A:=X.A.in1) (I.ok.hd hc) s.heap.objs.size d (QI hlt) od es xs.length dat sz,⟨⟨_,Qe _ rfl,rfl,rfl⟩,Qc _ g⟩,?_,?_,λh' tk t' hk=>?_⟩
 .intro b hb;have h1:s.heap.objs.size<(s.heap.push {cls:=.type "dict_valueiterator",data:=.fields #[.ref d,.int 0 0,.int xs.length 0,.int xs.length 0]}).objs.size:=Qi (Qe _ rfl);have:b=s.heap.objs.size\/b=d:=by simpa using hb
  rcases this with rfl|rfl
  .exact h1
  .exact Vb hlt h1
 .rintro i _ ⟨e,he,rfl⟩;have hi:i<xs.length:=by rw[<-sz];exact(Vc.mp he).1
  have e2:=rows i _ (Qm hi);rw[he]at e2;obtain rfl:=Option.some.inj e2;obtain⟨y,hy,ry⟩:=rn.at (i:=i) (u:=xs[i].2.2) (by rw[Qs,Qm hi];rfl);rw[Qs]at hy;cases hb:ns[i]? with
  |none=>rw[hb]at hy;cases hy
  |some b=>
   rw[hb]at hy;cases hy;obtain⟨t,ht⟩:=(ry:∃t,xs[i].2.2=.int b t);have e:ns.getD i 0=b:=by rw[Qn,hb];rfl
   exact⟨t,by show xs[i].2.2=Value.int (ns.getD i 0) t;rw[e,ht]⟩
 .have e:xs.length=ns.length:=by simp at hlen;lia
  rw[e,wf ns ns.length (Qg _),Vm];exact⟨.int ns.sum,H,I.kept (t':=tk) λb o e=>hk b o (λhb=>by
   have:b=s.heap.objs.size:=by simpa using hb
   exact Lr (Qi e) (by rw[this];exact Q4 _)) (Qc _ e),⟨t',rfl⟩,q⟩
end
section
variable{prog:IQ}{w:IR}{A:IV}{E:Value->Shared->Prop}{s:Shared}{it d:Addr}{i n:Nat}{od:Obj}{es:Array DictEntry}{ok ov:Value}
def AH (at_:Lj s.heap it d i n n ok ov)(g:s.heap.get? d=some od)(dat:od.data=.dict es n)(sz:es.size=n)(hi:i<n)(end':∀h',Lk h' it d (i+1) n n (es[i]'(by lia)).key (es[i]'(by lia)).val s.heap.objs.size->h'.get? s.heap.objs.size=some {cls:=.type "tuple",data:=.seq #[(es[i]'(by lia)).key,(es[i]'(by lia)).val]}->(∀b o,b≠it->s.heap.get? b=some o->h'.get? b=some o)->R (some (.ref s.heap.objs.size)) {s with heap:=h' }):
  IX (IY prog w) A (Jm (.ref it)) R E s:=by
 have ty:s.TypeIs (.ref it) "dict_itemiterator":=⟨_,at_,rfl⟩;unfold Jm;apply Jj;apply KH;apply JQ ty F.slot_dict_itemiterator_next;refine JR F.slot_dict_itemiterator_next ty F.entry_dict_itemiterator_next ?_ (F.args_dict_itemiterator_next_1 _);refine Jj (Jp (Jj (Jj (Jj (Ll ty (Jp ?_))))));refine Jj (K0 at_ rfl ?_);have yes:Builtin.Dict_items.ownsTuple "dict_itemiterator"=true:=by decide
 simp only[yes,if_true];change IX _ _ (ite ((Value.ref d==Value.none)=true) _ _) _ _ s;rw[show(Value.ref d==Value.none)=false from rfl,Lq QC];refine Jj (Jp (Jj (KW g dat ?_)));rw[sz,Lq (by simp)];refine Jj (Jp (Jj (KY g dat ?_)));rw[Lq (by simp)];apply Jp;have hi':i<es.size:=by lia
 simp only[show ¬(i:Int)<0 from by lia,if_false,Wl,We hi'];refine Jj (Jj (Ll ty (Jp (Jj (Lm ty ?_)))));apply Jj (m:=KR (.ref it) 3 (Jq ((i:Int)+1)));refine Lc at_ (by simp) λh1 g1 b1=>?_;have b1:Wa it s.heap h1:=b1;have g1:Lj h1 it d (i+1) n n ok ov:=by
  have e:((i+1:Nat):Int)=(i:Int)+1:=by lia
  unfold Lj;rw[e];simpa [Jq]using g1
 have t1:Shared.TypeIs {s with heap:=h1} (.ref it) "dict_itemiterator":=⟨_,g1,rfl⟩;refine Jj (Jk (Jj (Lm t1 (Jj (Lm t1 ?_)))));change IX _ _ (Builtin.Dict_items.pairFromOwner (.ref it) 6 es[i].key es[i].val) _ _ _;unfold Builtin.Dict_items.pairFromOwner;refine Jj (KO ?_);have z1:h1.objs.size=s.heap.objs.size:=b1.1;have il:it<s.heap.objs.size:=Qi at_;obtain⟨h2,e2⟩:∃h2,h2=h1.push {cls:=.type "tuple",data:=.seq #[es[i].key,es[i].val]}:=⟨_,rfl⟩;have g2:Lj h2 it d (i+1) n n ok ov:=by rw[e2];exact Qc _ g1
 have tp:h2.get? s.heap.objs.size=some {cls:=.type "tuple",data:=.seq #[es[i].key,es[i].val]}:=by rw[e2,<-z1];exact Qe _ rfl
 have kp:∀b o,b≠it->s.heap.get? b=some o->h2.get? b=some o:=λb o hb e=>by rw[e2];exact Qc _ (b1.extBut b o hb e)
 change IX _ _ (Builtin.Dict_items.ownedTupleIsFree (.ref it) >>= _) _ _ {s with heap:=h1.push {cls:=.type "tuple",data:=.seq #[es[i].key,es[i].val]} };rw[z1,<-e2];clear e2 g1 b1 t1 z1;apply Jj;unfold Builtin.Dict_items.ownedTupleIsFree;refine Jj (JO g2 rfl (x:=.none) rfl (Jp ?_));simp only[if_true];refine Jj (JO g2 rfl (x:=ok) rfl (Jj (JO g2 rfl (x:=ov) rfl ?_)));refine Jj (Lc g2 (by simp) λh3 g3 b3=>?_);have g3:Lj h3 it d (i+1) n n es[i].key ov:=g3;refine Jj (Lc g3 (by simp) λh4 g4 b4=>?_);have g4:Lj h4 it d (i+1) n n es[i].key es[i].val:=g4;refine Jj (Lc g4 (by simp) λh5 g5 b5=>?_);have g5:Lk h5 it d (i+1) n n es[i].key es[i].val s.heap.objs.size:=g5;refine Jj (Lc g5 (by simp) λh6 g6 b6=>?_);have g6:Lk h6 it d (i+1) n n es[i].key es[i].val s.heap.objs.size:=g6;have all:∀b o,b≠it->h2.get? b=some o->h6.get? b=some o:=λb o hb e=>b6.extBut b o hb (b5.extBut b o hb (b4.extBut b o hb (b3.extBut b o hb e)));exact Jj (Lg (Jp (Jp ⟨_,rfl,Jp (end' h6 g6 (all _ _ (WH il) tp) λb o hb e=>all b o hb (kp b o hb e))⟩)))
def AG (quiet:A.handled=none)(at_:Lj s.heap it d i n n ok ov)(g:s.heap.get? d=some od)(dat:od.data=.dict es n)(sz:es.size=n)(hi:n<=i)(end':∀h',Vf it s.heap h'->R none {s with heap:=h' }):IX (IY prog w) A (Jm (.ref it)) R E s:=by
 have ty:s.TypeIs (.ref it) "dict_itemiterator":=⟨_,at_,rfl⟩;unfold Jm;apply Jj;apply KH;apply JQ ty F.slot_dict_itemiterator_next;refine JR F.slot_dict_itemiterator_next ty F.entry_dict_itemiterator_next ?_ (F.args_dict_itemiterator_next_1 _);refine Jj (Jp (Jj (Jj (Jj (Ll ty (Jp ?_))))));refine Jj (K0 at_ rfl ?_);have yes:Builtin.Dict_items.ownsTuple "dict_itemiterator"=true:=by decide
 simp only[yes,if_true];change IX _ _ (ite ((Value.ref d==Value.none)=true) _ _) _ _ s;rw[show(Value.ref d==Value.none)=false from rfl,Lq QC];refine Jj (Jp (Jj (KW g dat ?_)));rw[sz,Lq (by simp)];refine Jj (Jp (Jj (KY g dat ?_)));rw[Lq (by simp)];apply Jp;simp only[show ¬(i:Int)<0 from by lia,if_false,Wl,WF (show es.size<=i by lia)];refine Jj (Jj (Ll ty (Jp ?_)));exact lL quiet at_ rfl (by rw[yes];exact(by decide:(2:Nat)<8)) end'
def AF (vw:s.heap.IsItemsView v d)(g:s.heap.get? d=some od)(dat:od.data=.dict es n)(sz:es.size=n)(end':R (.ref s.heap.objs.size) {s with heap:=s.heap.push {cls:=.type "dict_itemiterator",data:=.fields #[.none,.bool false,.ref d,.int 0 0,.int n 0,.int n 0,.none,.none]} }):IX (IY prog w) A (Jo (.ref v)) R E s:=by
 obtain⟨ov,gv,cv,fv⟩:=id vw;apply KV vw.typeIs F.slot_dict_items_iter;refine JR F.slot_dict_items_iter vw.typeIs F.entry_dict_items_iter ?_ (F.args_dict_items_iter_1 _);unfold Builtin.«dict_items.__iter__» Builtin.Dict_items.dictOf Builtin.Dict_items.newIterator;refine Jj (Jp (Jj (Jj (JO gv fv (x:=.ref d) rfl (Jp ?_)))));refine Jj (Jj (KW g dat (Jj (KY g dat ?_))));have yes:Builtin.Dict_items.ownsTuple "dict_itemiterator"=true:=by decide
 simp only[yes,if_true];refine JT (Jp ⟨_,rfl,"dict_itemiterator",_,⟨_,Qe _ rfl,rfl⟩,F.slot_dict_itemiterator_next.lookup,?_⟩) ?_
 .rw[sz];exact end'
 .simp only[sizeOk,Builtin.Dict_items.ownedTupleFields,Qz,QH,QG,List.length_nil,Jz];lia
end
section
variable{X:Cx}
def fY(v d:Addr):HO:=.ext λh=>h.IsItemsView v d
def oP(K:Qb):V->List V->Hp->VK->Prop:=λx vs H Q=>∃d xs,x=.ref d/\vs=[]/\zZ K H d xs/\∀v,H v=none->Q (.ref v) (aH H v (fY v d))
def Ep:eO X "dict.items" (oP X.K):=by
 intro pins s σ H x vs v us Q I rx rv h;obtain⟨d,xs,rfl,rfl,td,q⟩:=h;cases rx;cases rv;obtain⟨d0,dm⟩:=xI I td;refine JR F.slot_dict_items dm.typeIs F.entry_dict_items ?_ (F.args_dict_items_1 _);apply Jj (m:=Builtin.Dict.noArgs _ _);unfold Builtin.Dict.noArgs;apply Jj;apply Kk dm.typeIs;apply Jp (a:=d);apply Jj (m:=Builtin.Dict.showsAll d);unfold Builtin.Dict.showsAll;rw[d0];apply Jp;refine Jj (JT (Jp ⟨_,rfl,.ref s.heap.objs.size,aH H s.heap.objs.size (fY s.heap.objs.size d),I.laid (t':=s.toks) (λb u e=>Qc _ e) (Qg _) ?_,rfl,q _ I.fresh⟩));refine⟨⟨_,Qe _ rfl,rfl,rfl⟩,⟨_,Qe _ rfl⟩,λh1 h2 hx k=>?_⟩;obtain⟨o,a1,r⟩:=hx;exact⟨o,k o a1,r⟩
def nh(K:Qb)(d:Addr)(n:Nat):It:=
 ⟨λi H=>∃xs,zZ K H d xs/\xs.length=n/\i<n/\∀x∈xs,∃v,RelV v x.2.2,λi H x H'=>∃a v,Yp H x H' (.ref a) v/\∀xs,zZ K H d xs->∃k,xs[i]?=some k/\a=k.2.1/\RelV v k.2.2,λi H=>∃xs,zZ K H d xs/\xs.length=n/\n<=i⟩
def F3 {K:Qb}(it:Addr):cW P w K (.Tuple elts k pt) (nh K d n) [it] it (λi h=>∃ok ov,Lj h it d i n n ok ov) where
 mem:=by simp
 obj:=λi h st b hb=>by
  have e:b=it:=by simpa using hb
  subst e;obtain⟨ok,ov,e⟩:=st;exact⟨_,e,λv z=>by cases z⟩
 keep:=λi h h' st k=>by
  obtain⟨ok,ov,e⟩:=st;exact⟨ok,ov,k it (by simp) _ e⟩
 item:=by
  intro X hP hw hK hc i pins s σ H E I hf st hg;subst hP hw hK;obtain⟨xs,td,hn,hi,rel⟩:=hg;obtain⟨_,od,es,g,ex,dat,sz,rows⟩:=zT I td;obtain⟨ok,ov,st⟩:=st;have hx:i<xs.length:=by lia
  have e2:=rows i _ (Qm hx);subst hn;have he:(es[i]'(by lia))=lI xs[i]:=by
   rw[We (by lia)]at e2;exact Option.some.inj e2
  obtain⟨v,rv⟩:=rel xs[i] (Vn hx);have sT:it<s.heap.objs.size:=Qi st;refine AH st g dat sz hi λh' a1 a3 hk=>?_;rw[he]at a1 a3;refine⟨_,rfl,wpAny_letOwnedTupleGo_items (s:={s with heap:=h' }) a1 λh'' he' hs'=>?_⟩;have kk:∀b o,b∉[it]->s.heap.get? b=some o->h''.get? b=some o:=λb o hb q=>(hs'.2 b (by simpa using hb)).trans (hk b o (by simpa using hb) q);refine⟨.ref s.heap.objs.size,aH H s.heap.objs.size (.tup [.ref xs[i].2.1,v]),?_,rfl,⟨xs[i].2.1,v,⟨_,I.hok.fresh (Qg _),rfl,rfl⟩,λys ty=>?_⟩,⟨_,_,he'⟩,?_⟩
  .exact nl (s:=s) (t':=s.toks) (its:=[.ref xs[i].2.1,xs[i].2.2]) I hf kk (Qg _) (show(2:Nat)<=sizeLine by decide) (.cons rfl (.cons rv .nil)) ⟨_,(hs'.2 _ (WH sT)).trans a3,rfl,_,rfl⟩
  .obtain ⟨_,od',es',g',_,dat',sz',rows'⟩:=zT I ty;rw[g]at g';cases g';rw[dat]at dat';injection dat' with d1 d2
   subst d1;have hy:i<ys.length:=by lia
   have e3:=rows' i _ (Qm hy);rw[e2]at e3;have e4:=Option.some.inj e3;refine⟨ys[i],Qm hy,Value.ref.inj (Ls DictEntry.key e4),?_⟩;have e5:xs[i].2.2=ys[i].2.2:=Ls DictEntry.val e4;rw[<-e5];exact rv
  .intro b hb;have e:b=it:=by simpa using hb
   subst e;rw[zd (QI sT)];exact(hf _ hb).1
 done:=by
  intro X hP hw hK hc i pins s σ H E I hf st hg;subst hP hw hK;obtain⟨xs,td,hn,hi⟩:=hg;obtain⟨_,od,es,g,ex,dat,sz,rows⟩:=zT I td;obtain⟨f0,f1,f2,f3,f4,f5⟩:=hf it (by simp);obtain⟨ok,ov,st⟩:=st;subst hn;exact AG (I.ok.hd hc) st g dat sz hi λh' eb=>⟨rfl,I.turned (t':=s.toks) (λb o hb e=>eb b o hb e) f0 f1 f3 f4 f5⟩
 self:=λ_ _ _ _ _ st h=>by
  obtain⟨ok,ov,st⟩:=st;exact PySem.W.kcp_self st h
def tR(X:Cx)(tl:TE):TI:=λσ H R=>tl σ H λx H1=>∃d v xs,x=.ref v/\H1 v=some (fY v d)/\zZ X.K H1 d xs/\R (nh X.K d xs.length) H1
def Eo (hl:PE X l tl):PI X (.Tuple elts k pt) l (tR X tl):=by
 intro pins s σ H R I h;refine aW (hl pins s σ H _ I h) λv s1 ⟨x,H1,I1,r1,q1⟩=>?_;obtain⟨d,v,xs,e,hv,td,q⟩:=q1;subst e;cases r1;obtain⟨nosys,od,es,g,ex,dat,sz,_⟩:=zT I1 td;refine AF (I1.hok v _ hv).1 g dat sz ?_;refine⟨s1.heap.objs.size,[s1.heap.objs.size],_,_,H1,rfl,I1.kept (t':=s1.toks) λb o e=>Qc _ e,F3 _,⟨_,_,Qe _ rfl⟩,λb hb=>?_,q⟩;have e:b=s1.heap.objs.size:=by simpa using hb
 subst e;exact I1.fpOk (Qg _) (I1.hok.fresh (Qg _))
end
section
variable{X:Cx}
def mh(K:Qb)(tk tv:TE):TE:=λσ H Q=>∀d,H d=none->tk σ (aH H d (zQ d [])) λx H1=>tv σ H1 λy H2=>∃a ks,x=.ref a/\bM K H2 a (ks.map V.int)/\H2 d=some (zQ d [])/\∀u,RelV y u->Q (.ref d) (aH H2 d (zQ d [(ks,a,u)]))
def D5 (hu:X.A.units+64<JA)(hk:PE X k tk)(hv:PE X v tv):PE X (.Dict [some k] [v] pos) (mh X.K tk tv):=by
 intro pins s σ H Q I h;have hd:(s.heap.objs.size==Kg)=false:=by
  obtain⟨o,_,_,ho,_⟩:=I.ok.mod.glob;have h1:(3:Nat)<X.base.objs.size:=Qi ho;have h2:=Qu I.ok.bsz I.sz;have:s.heap.objs.size≠(1:Nat):=by lia
  exact beq_eq_false_iff_ne.mpr this
 have new:bE X.prog X.w (aH H s.heap.objs.size (zQ s.heap.objs.size [])) (s.heap.push {cls:=.type "dict",data:=.dict #[]}) s.heap.objs.size (zQ s.heap.objs.size []):=by
  refine⟨⟨hd,_,#[],Qe _ rfl,⟨rfl,rfl,rfl⟩,rfl,rfl,QM⟩,⟨_,Qe _ rfl⟩,λh1 h2 hx k=>?_⟩;obtain⟨a0,o,es,a1,r⟩:=hx;exact⟨a0,o,es,k o a1,r⟩
 have I1:=I.laid (a:=s.heap.objs.size) (o:=zQ s.heap.objs.size []) (h':=s.heap.push {cls:=.type "dict",data:=.dict #[]}) (t':=s.toks) (λ_ _ q=>Qc _ q) (Qg _) new;have q:=h s.heap.objs.size I.fresh;refine wpAny_Dict_any rfl rfl (by simp) (by simp) (aW (E6 hk hv DJ pins _ σ _ (λps H2=>match ps with
   |[(x,y)]=>∃a ks,x=.ref a/\bM X.K H2 a (ks.map V.int)/\H2 s.heap.objs.size=some (zQ s.heap.objs.size [])/\∀u,RelV y u->Q (.ref s.heap.objs.size) (aH H2 s.heap.objs.size (zQ s.heap.objs.size [(ks,a,u)]))
   |_=>False) I1 q) λws s2 ⟨ps,H2,I2,rel,r⟩=>?_)
 match ps,r with
 |[(x,y)],r=>
  obtain⟨a,ks,rfl,sq,eH,fin⟩:=r;obtain⟨u,ry,rfl⟩:∃u,RelV y u/\ws=[(.ref a,u)]:=by
   cases rel with
   |@cons _ b _ _ p r=>
    cases r;obtain⟨b1,b2⟩:=b;obtain⟨p1,p2⟩:=p;have p1:b1=.ref a:=p1;exact⟨b2,p2,by rw[p1]⟩
  obtain⟨⟨_,o1,es1,b1,b2,b3,b4,b5⟩,_,_⟩:=I2.hok _ _ eH;unfold storeAll;simp only[Vv,Vd];refine Jj (Jj (nO (kd:=Kl (Kh X.prog X.w)) (by show X.A.units<JA;lia) (wC I2 sq) ⟨o1,es1,b1,b2,b3,b4,b5⟩ (λx hx=>nomatch hx) (by decide) λh' ⟨o',es,a1,a2,a3,a4,a6⟩ sb=>Jp (Jp ⟨.ref s.heap.objs.size,aH H2 s.heap.objs.size (zQ s.heap.objs.size [(ks,a,u)]),?_,rfl,fin u ry⟩)));refine I2.write (x:=s.heap.objs.size) (e:=s.heap.objs.size) (by rw[eH];trivial) (.inl rfl) (λb u' hb e=>(sb.2 b hb).trans e) ⟨_,a1⟩ ⟨⟨hd,o',es,a1,a2,a3,a4,a6⟩,⟨_,a1⟩,λh1 h2 hx k=>?_⟩;obtain⟨b0,o,es,b1,r⟩:=hx;exact⟨b0,o,es,k o b1,r⟩
end
end L2
namespace PySem
open Sem (wp)
open AutoSeq1 (wpAny_loadPart')
section
variable{prog:IQ}{w:IR}{A:IV}{E:Value->Shared->Prop}{s:Shared}
def wN {n:Nat}(hh:A.handled=none)(hr:IsRange s.heap r a b c t u v)(hsmall:Builtin.Range.small a b c=true)(hn:Builtin.Range.rangeSize a b c=n)(hlen:n<=2^24)(hQ:∀(h':IS) (tk:Nat) (acc:Array Value),(∀b o,s.heap.get? b=some o->h'.get? b=some o)->Ln (λi v=>∃t,v=.int (a+i*c) t) acc n->Q acc.toList {s with heap:=h',toks:=tk}):
  IX (IY prog w) A (collect (.ref r)) Q E s:=by
 unfold collect;refine Jj (wpAny_runValue (Kq F.entry_proto_collect ?_));rw[Around.under_plainId F.plain_proto_collect _];show IX _ A.in1 (newList [] >>= λl=>again (.builtin "list.__iadd__" ⟨[l,.ref r],[]⟩)) _ _ s;refine Jj (JT ?_);refine Jp ⟨Ko F.plain_list_iadd _,Kq F.entry_list_iadd ?_⟩;rw[Around.under_plainId F.plain_list_iadd _];show IX _ A.in1 (Builtin.List.listExtendWith (.ref s.heap.objs.size) (.ref r) (.ref s.heap.objs.size)) _ _ _;have hS:(s.heap.push {cls:=.type "list",data:=.seq ([]:List Value).toArray}).get? s.heap.objs.size=some {cls:=.type "list",data:=.seq #[] 0}:=Qe _ rfl;refine Ja (wpAny_extend_range (A:=A) (R:=λq s'=>q=.ok (.ret (.ref s.heap.objs.size))/\∃(h':IS) (tk:Nat) (acc:Array Value) (c':Nat),s'={s with heap:=h',toks:=tk}/\(∀b o,s.heap.get? b=some o->h'.get? b=some o)/\h'.get? s.heap.objs.size=some {cls:=.type "list",dict:=none,data:=.seq acc c',slots:=#[]}/\Ln (λi v=>∃t,v=.int (a+i*c) t) acc n)
  (s:={s with heap:=s.heap.push {cls:=.type "list",data:=.seq ([]:List Value).toArray} }) hh (Qc _ hr) hsmall hn hlen _ _ 0 hS
  λh' tk acc c' kp e ia=>⟨rfl,h',tk,acc,c',rfl,λb o e=>kp b o (QI (Qi e)) (Qc _ e),e,ia⟩) (λfin s' h=>?_) (λe s' h=>?_)
 .have fin':∀(h':IS) (tk:Nat) (acc:Array Value) (c':Nat),(∀b o,s.heap.get? b=some o->h'.get? b=some o)->h'.get? s.heap.objs.size=some {cls:=.type "list",dict:=none,data:=.seq acc c',slots:=#[]}->Ln (λi v=>∃t,v=.int (a+i*c) t) acc n->IX (IY prog w) A (match Value.ref s.heap.objs.size with
   |Value.ref a=>do
    match (<-load a).data with
     |Data.seq xs _=>pure xs.toList
     |_=>unsupported "internal:collect"
   |_=>unsupported "internal:collect") Q E {s with heap:=h',toks:=tk}:=λh' tk acc c' kp e ia=>by
   show IX _ A (load s.heap.objs.size >>= _) _ _ _;refine Jj (wpAny_load e ?_);refine Jp ?_;exact hQ h' tk acc kp ia
  cases fin with
  |done f=>
   obtain⟨e,h',tk,acc,c',rfl,kp,eh,ia⟩:=h;cases e;exact fin' h' tk acc c' kp eh ia
  |again c'=>exact⟨h.1,JD h.2 λq s'' hq=>by obtain⟨rfl,h',tk,acc,c',rfl,kp,eh,ia⟩:=hq;exact fin' h' tk acc c' kp eh ia⟩
 .exact Lr h.1 (by simp)
def wl {n:Nat}(hh:A.handled=none)(hr:IsRange s.heap r a b c t u v)(hsmall:Builtin.Range.small a b c=true)(hn:Builtin.Range.rangeSize a b c=n)(hlen:n<=2^24)(hsz:n<=sizeLine)(h:∀(h':IS) (tk:Nat) (acc:Array Value),(∀b o,s.heap.get? b=some o->h'.get? b=some o)->Ln (λi v=>∃t,v=.int (a+i*c) t) acc n->Q₁ (.ref h'.objs.size) {s with heap:=h'.push {cls:=.type "tuple",data:=.seq acc},toks:=tk}):
  JC (IY prog w) A (.call (.builtin "tuple.__new__") ⟨[.type "tuple",.ref r],[]⟩) (wants Q₁ E) s:=by
 refine codeAny_of_tree ?_;show IX _ A.in1 (do checkBuiltinCall "tuple.__new__" ⟨[.type "tuple",.ref r],[]⟩;again (.builtin "tuple.__new__" ⟨[.type "tuple",.ref r],[]⟩)) _ _ s;refine Jj (KU (F.newCall_tuple_1 _) (Jp ⟨Ko (by decide +kernel:plainId "tuple.__new__"=true) _,Kq F.entry_tuple_new ?_⟩));rw[Around.under_plainId (by decide +kernel:plainId "tuple.__new__"=true) _];have hsub:=sub_tuple_self;have hinit:=init_tuple_lookup;have hmh:=madeHere_tuple;have hTI:s.TypeIs (.ref r) "range":=⟨_,hr,rfl⟩;have hh':A.in1.handled=none:=hh;have col:∀{Q:List Value->Shared->Prop}{E:Value->Shared->Prop},(∀(h':IS) (tk:Nat) (acc:Array Value),(∀b o,s.heap.get? b=some o->h'.get? b=some o)->Ln (λi v=>∃t,v=.int (a+i*c) t) acc n->Q acc.toList {s with heap:=h',toks:=tk})->IX (IY prog w) A.in1 (collect (.ref r)) Q E s:=λhQ=>wN hh' hr hsmall hn hlen hQ
 wp_walk using JS hTI,col
 intro h' tk acc hm hacc;show IX _ _ (Builtin.Tuple.tupleExact acc.toList.toArray >>= λv=>ret v) _ _ _;unfold Builtin.Tuple.tupleExact;refine Jj (JT ?_ (by show acc.toList.toArray.size<=sizeLine;simp only[Array.toArray_toList];rw[hacc.1];exact hsz));refine Jp ?_;have e:acc.toList.toArray=acc:=by simp
 rw[e];exact h h' tk acc hm hacc
def vY {n:Nat}(hh:A.handled=none)(hr:IsRange s.heap r a b c t u v)(hsmall:Builtin.Range.small a b c=true)(hn:Builtin.Range.rangeSize a b c=n)(hlen:n<=2^24)(hsz:n<=sizeLine)(hQ:∀(h':IS) (tk:Nat) (acc:Array Value),(∀b o,s.heap.get? b=some o->h'.get? b=some o)->Ln (λi v=>∃t,v=.int (a+i*c) t) acc n->Q (.ref h'.objs.size) {s with heap:=h'.push {cls:=.type "tuple",data:=.seq acc},toks:=tk}):
  IX (IY prog w) A (call (.type "tuple") [.ref r]) Q E s:=by
 refine callType_codes (Q₁:=λobj s₁=>s₁.TypeIs obj "tuple" /\ Q obj s₁) F.called_tuple (F.typeCall_tuple_1 _) F.entry_object_init
  (wl (A:=A.in1) hh hr hsmall hn hlen hsz λh' tk acc hm hacc=>⟨⟨_,Qe _ rfl,rfl⟩,hQ h' tk acc hm hacc⟩) λobj s₁ h₁=>?_
 exact⟨h₁.1,F.args_object_init_2 obj _,object_init_meets F.called_tuple.init.lookup F.called_tuple.made (by decide) prog w A.in1 _ s₁ ⟨h₁.1,rfl,h₁.2⟩⟩
end
end PySem
namespace L2
open PySem PySem.Spec PyProof.Rows
section
variable{X:Cx}
def Em (hacc:Ln (λi v=>∃t,v=Value.int ((0:Int)+i*1) t) acc n):av ((QL n).map λ(i:Nat)=>V.int ((0:Int)+1*(i:Int))) acc.toList:=by
 have gen:∀(us:List Value) (n:Nat),us.length=n->∀m:Nat,(∀i v,us[i]?=some v->∃t,v=Value.int ((0:Int)+((m+i:Nat):Int)*1) t)->av ((VG m n).map λ(i:Nat)=>V.int ((0:Int)+1*(i:Int))) us:=by
  intro us
  induction us with
  |nil=>intro n hn m _;simp at hn;subst hn;exact .nil
  |cons u us ih=>
   intro n hn m hu;cases n with
   |zero=>simp at hn
   |succ n=>
    rw[List.range'_succ,QJ];obtain⟨t,rfl⟩:=hu 0 u rfl;refine .cons ⟨t,?_⟩ (ih n (by simpa using hn) (m+1) λi v hv=>?_)
    .congr 1;simp
    .obtain ⟨t,e⟩:=hu (i+1) v (by simpa using hv);exact⟨t,by rw[e];congr 2;congr 1;lia⟩
 have:=gen acc.toList n (by rw[QT];exact hacc.1) 0 (λi v hv=>by
  obtain⟨t,e⟩:=hacc.2 i v (by simpa using hv);exact⟨t,by rw[e];simp⟩)
 rw[<-List.range_eq_range']at this;exact this
def AE(ta:TA):TE:=λσ H Q=>ta σ H λvs H1=>∃j:Int,vs=[.int j]/\-(2^30)<=j/\j<2^24/\j.toNat<=sizeLine/\∀l,H1 l=none->Q (.ref l) (aH H1 l (.tup ((QL j.toNat).map λ(i:Nat)=>V.int ((0:Int)+1*(i:Int)))))
def D4 (hc:X.calm=true)(hgl:Gl X "tuple")(hml:X.mg "tuple"=none)(hg:Gl X "range")(hm:X.mg "range"=none)(ha:PA X [a] ta)(hs:I0 [a] X.env=[(false,eval a X.env)]:=by rfl):
  PE X (.Call (.Name "tuple" p) [.Call (.Name "range" p') [a] [] pos'] [] pos) (AE ta):=by
 intro pins s σ H Q I h;refine JE (wd I hgl hml PyProof.Rows.boot_tuple ?_ (by decide) (by decide));refine PyProof.Rows.callWith_type1 ?_ rfl rfl;refine Calls.spliced_cons ?_;refine Call_ (wd I hg hm boot_range (PyProof.Rows.callWith_type1 (aW (ha pos' pins s σ H _ I h) λus s1 ⟨vs,H1,I1,r1,q1⟩=>?_) hs rfl));obtain⟨j,e,q1,q2,q3,q⟩:=q1;subst e;cases r1 with
 |cons r rr=>
  cases rr;obtain⟨t,rfl⟩:=r;refine call_range_1 (Calls.spliced_nil ?_);have hn:Builtin.Range.rangeSize 0 j 1=(j.toNat:Int):=by rw[rangeSize_one];split<;>lia
  refine vY (n:=j.toNat) (I1.ok.hd hc) (IsRange.new ..) (small_one (by lia) (by lia) (by lia) (by lia)) hn (by lia) q3 λh' tk acc kp hacc=>?_;have I2:Inv X pins σ H1 {s1 with heap:=s1.heap.push {cls:=.type "range",data:=.fields #[.int 0 s1.toks,.int j t,.int 1 (s1.toks+1)]},toks:=s1.toks+1+1}:=I1.kept λb o e=>Qc _ e;have I3:Inv X pins σ H1 {s1 with heap:=h',toks:=tk}:=I2.kept (t':=tk) kp;have hv:=Em hacc;have I4:Inv X pins σ (aH H1 h'.objs.size (.tup ((QL j.toNat).map λ(i:Nat)=>V.int ((0:Int)+1*(i:Int))))) {s1 with heap:=h'.push {cls:=.type "tuple",data:=.seq acc},toks:=tk} :=
   I3.laid (t':=tk) (λb o e=>Qc _ e) (Qg _) (show bE X.prog X.w _ _ _ (.tup ((QL j.toNat).map λ(i:Nat)=>V.int ((0:Int)+1*(i:Int))))from⟨by simpa using q3,acc.toList,hv,by simpa using IsTup.new _ _⟩)
  exact⟨.ref h'.objs.size,_,I4,rfl,q _ (I3.hok.fresh (Qg _))⟩
end
end L2
namespace Mini
open PySem PySem.Spec PyProof.Rows L2
section
variable{K:Qb}{as:List Addr}{H:Hp}{m:Me}{Q:VK}
def qh{b:Bool}{r:Rz}(h:ai K as H Q (match b with|true=>r|false=>.no)):b=true/\ai K as H Q r:=by
 cases b with
 |true=>exact⟨rfl,h⟩
 |false=>exact h.elim
def sf (hk:k=.get\/k=.sum)(h:fV k w m=true):∃l ks ws,w=.ref l/\m[l]?=some (.dct ks ws):=by
 have go:∀{w:Wd},(match w with |.ref l=>(match m[l]? with|some (.dct _ _)=>true|_=>false)|_=>false)=true->∃l ks ws,w=.ref l/\m[l]?=some (.dct ks ws):=λ{w} h=>by
  cases w with
  |ref l=>
   cases e:m[l]? with
   |none=>simp[e]at h
   |some o=>
    cases o with
    |lst xs=>simp[e]at h
    |dct ks ws=>exact⟨l,ks,ws,rfl,e⟩
  |_=>cases h
 cases k with
 |get=>exact go h
 |sum=>exact go h
 |_=>rcases hk with e|e<;>cases e
def xY (S:aL K as m H)(hm:m[l]?=some (.dct ks ws))(R:ag K as H (.ref l) v):∃a xs vs,v=.ref a/\as[l]?=some a/\zZ K H a xs/\xs.map (·.1)=ks/\aa K as H ws vs/\av vs (xs.map (·.2.2)):=by
 obtain⟨a,ha,rfl⟩:=aG.mp R;obtain⟨a',xs,vs,ha',td,e,r,rv,_⟩:=kS S hm;rw[ha]at ha';cases ha';exact⟨a,xs,vs,rfl,ha,td,e,r,rv⟩
theorem qi:∀{xs:List TK}{ws:List Wd}{q:List Int},xs.length=ws.length->cb (xs.map (·.1)) ws q=none->Km xs q=none
 |[],_,_,_,_=>rfl
 |x::xs,[],q,h,_=>by cases h
 |x::xs,w::ws,q,h,e=>by
  have e':(if x.1=q then some w else cb (xs.map (·.1)) ws q)=none:=e;by_cases c:x.1=q
  .rw[Lp c]at e';cases e'
  .rw[Lq c]at e';have:=qi (by simpa using h) e';simpa [Km,List.find?_cons,c]using this
def El (S:aL K as m H)(R:ag K as H x v)(R':ag K as H y u)(R2:ag K as H z t)(h:ai K as H Q (wc .get x y z m)):oG K v [u,t] H Q:=by
 unfold wc at h;cases x with
 |ref l=>
  dsimp only at h;cases e:m[l]? with
  |none=>rw[e]at h;exact h.elim
  |some o=>
   cases o with
   |lst ys=>rw[e]at h;exact h.elim
   |dct ks ws=>
    rw[e]at h;dsimp only at h;obtain⟨a,xs,vs,rfl,ha,td,rfl,r,rv⟩:=xY S e R;cases ek:ky y with
    |none=>rw[ek]at h;exact h.elim
    |some k=>
     rw[ek]at h;dsimp only at h;obtain⟨b,rfl,qb⟩:=vE ek R';have hl:xs.length=ws.length:=by have h1:=r.length;have h2:=rv.length;simp at h2;lia
     refine⟨a,b,k,xs,t,rfl,rfl,qb,td,λp z1 hp rz=>?_,λhn=>?_,λp hp=>?_⟩
     .cases ew:cb (xs.map (·.1)) ws k with
      |none=>rw[qi hl ew]at hp;cases hp
      |some w=>
       rw[ew]at h;obtain⟨p',z',h1,h2,h3⟩:=jm r rv ew;rw[hp]at h1;cases h1;rw[rz.inj h2];exact h.ok S h3
     .cases ew:cb (xs.map (·.1)) ws k with
      |none=>rw[ew]at h;exact h.ok S R2
      |some w=>
       obtain⟨p',z',h1,h2,h3⟩:=jm r rv ew;rw[hn]at h1;cases h1
     .cases ew:cb (xs.map (·.1)) ws k with
      |none=>rw[qi hl ew]at hp;cases hp
      |some w=>
       obtain⟨p',z',h1,h2,h3⟩:=jm r rv ew;rw[hp]at h1;cases h1;exact⟨z',h2⟩
 |_=>exact h.elim
end
section
variable{cl:Nat->List Wd->Me->Rz}{X:Cx}{a b c:Ex}{x y z:Expr}{pos:Pos}
def Ek (hu:X.A.units+64<JA)(ha:PE X x (aI X.K (af cl a)))(hb:PE X y (aI X.K (af cl b)))(hc:PE X z (aI X.K (af cl c)))(hx:yf x=true)(hl:(ap.endLine==pos.line)=true)(hs:zh y=true)(hs':zh z=true):
  PE X (.Call (.Attribute x "get" ap) [y,z] [] pos) (aI X.K (af cl (.dop .get a b c))):=by
 have hall:[y,z].all zh=true:=by simp[hs,hs']
 refine PE.imp (As PySem.F.slot_dict_get PySem.F.type_dict_get (D7 hu) ha (zP hb (zP hc yT (zf hs')) (zf hs)) (bH hx) (qc hall (by simp)) hl (zf hs) (zN (by simp[hs']))) λσ H Q h=>?_;obtain⟨as,env,m,S,G,P⟩:=h;refine⟨as,env,m,S,G,ai.bind P λw m1 as1 H1 v T1 S1 R1 P1=>?_⟩;obtain⟨hd,P1⟩:=qh P1;obtain⟨l,ks,ws,rfl,hm⟩:=sf (by simp) hd;obtain⟨a1,xs,vs,rfl,_,td,_⟩:=xY S1 hm R1;refine⟨⟨a1,xs,rfl,td⟩,as1,env,m1,S1,G.mono S T1,ai.bind P1 λy m2 as2 H2 u T2 S2 R2 P2=>?_⟩;refine⟨as2,env,m2,S2,(G.mono S T1).mono S1 T2,ai.bind P2 λz m3 as3 H3 t T3 S3 R3 P3=>?_⟩;exact El S3 ((R1.mono S1 T2).mono S2 T3) (R2.mono S2 T3) R3 P3
def D3 (hc:X.calm=true)(ha:PE X x (aI X.K (af cl a)))(hg:Gl X "sum")(hm:X.mg "sum"=none)(hx:yf x=true)(hl:(ap.endLine==p2.line)=true):
  PE X (.Call (.Name "sum" p1) [.Call (.Attribute x "values" ap) [] [] p2] [] pos) (aI X.K (af cl (.dop .sum a .unit .unit))):=by
 refine PE.imp (yO (Fy hc) hg hm PyProof.Rows.boot_sum (zP (oQ PySem.F.slot_dict_values PySem.F.type_dict_values D6 ha (bH hx) hl) yT)) λσ H Q h=>?_;obtain⟨as,env,m,S,G,P⟩:=h;refine⟨as,env,m,S,G,ai.bind P λw m1 as1 H1 v T1 S1 R1 P1=>?_⟩;obtain⟨hd,P1⟩:=qh P1;obtain⟨l,ks,ws,rfl,hm⟩:=sf (by simp) hd;obtain⟨a1,xs,vs,rfl,ha1,td,_,r,rv⟩:=xY S1 hm R1;refine⟨⟨a1,xs,rfl,td⟩,a1,xs,rfl,rfl,td,λq hq=>?_⟩;have P2:ai X.K as1 H1 Q (wc .sum (.ref l) (.tup []) (.tup []) m1):=P1;have P3:ai X.K as1 H1 Q (match m1[l]? with
  |some (.dct _ ws)=>match jK ws with
   |some i=>.ok (.int i) m1
   |none=>.no
  |_=>.no):=P2
 rw[hm]at P3;dsimp only at P3;cases es:jK ws with
 |none=>rw[es]at P3;exact P3.elim
 |some i=>
  rw[es]at P3;have U:Step as1 H1 as1 (aH H1 q (fZ q a1)):=Step.updD .refl hq;have S2:aL X.K as1 m1 (aH H1 q (fZ q a1)):=S1.keep U λb _ o e=>by rw[zd (zo e hq)];exact e
  obtain⟨a2,xs2,vs2,e2,ha2,td2,_,r2,rv2⟩:=xY S2 hm (R1.mono S1 U);cases e2;obtain⟨ns,rfl,rfl⟩:=gZ r2 es;exact⟨q,a1,xs2,ns,rfl,ze,td2,rv2,(ai.step P3 U).ok S2 (ab.mpr rfl)⟩
def AZ (hcm:X.calm=true)(hgl:Gl X "tuple")(hml:X.mg "tuple"=none)(hg:Gl X "range")(hm:X.mg "range"=none)(hs:zh x=true)(ha:PE X x (aI X.K (af cl a))):
  PE X (.Call (.Name "tuple" p) [.Call (.Name "range" p') [x] [] pos'] [] pos) (aI X.K (af cl (.dop .trg a .unit .unit))):=by
 refine PE.imp (D4 hcm hgl hml hg hm (zP ha yT (zf hs)) (zf hs)) λσ H Q h=>?_;obtain⟨as,env,m,S,G,P⟩:=h;refine⟨as,env,m,S,G,ai.bind P λw m1 as1 H1 v T1 S1 R1 P1=>?_⟩;have P2:ai X.K as1 H1 Q (wc .trg w (.tup []) (.tup []) m1):=P1;cases w with
 |int j=>
  obtain rfl:=ab.mp R1;have hlim:(aq:Int)=100000:=rfl;have P3:ai X.K as1 H1 Q (if -(aq:Int)<=j/\j<=aq then .ok (.tup (eV 0 1 j.toNat)) m1 else .no):=P2;by_cases hc:-(aq:Int)<=j/\j<=aq
  .rw[Lp hc]at P3;have hz:j.toNat<=sizeLine:=Qu (by have:aq=100000:=rfl;lia) yP;refine⟨j,rfl,by lia,by lia,hz,λl hl=>?_⟩;obtain⟨T,S2,R2⟩:=S1.tup hl (je 1 j.toNat 0);exact P3 _ _ _ T S2 R2
  .rw[Lq hc]at P3;exact P3.elim
 |_=>exact P2.elim
def aL.new1 {K:Qb}{b:Addr}(S:aL K as m H)(hin:p∉as)(hp:H p=some (zQ p []))(qb:bM K H b (q.map V.int))(Rw:ag K as H w v)(ru:RelV v u):
  Kp K H (aH H p (zQ p [(q,b,u)]))->aL K (as++[p]) (m++[.dct [q] [w]]) (aH H p (zQ p [(q,b,u)])):=λkp=>by
 refine⟨by simp[S.len],?_,λl c o h1 h2=>?_⟩
 .refine QQ.mpr ⟨S.nd,by simp,λx hx y hy=>?_⟩;rw[Qt.mp hy];rintro rfl;exact hin hx
 .by_cases hl:l<as.length
  .rw[Qf hl]at h1;rw[Qf (by rw[<-S.len];exact hl)]at h2;have hc:c≠p:=λe=>hin (e▸Qr h1);exact bv.mono kp (λk a e=>by rw[Qf (Qa.mp e).1];exact e) (λo e=>by rw[zd hc];exact e) (S.obj l c o h1 h2)
  .rw[Qd (by lia)]at h1;rw[Qd (by rw[<-S.len];lia)]at h2;have hz:l-as.length=0:=by
    cases hq:l-as.length with
    |zero=>rfl
    |succ k=>rw[hq]at h1;simp at h1
   rw[hz]at h1;rw[<-S.len,hz]at h2;simp at h1 h2;subst h1;subst h2;refine⟨[(q,b,u)],[v],⟨ze,λx hx=>?_⟩,rfl,?_,.cons ru .nil,by simp⟩
   .rw[Qt.mp hx];exact kp.t _ _ qb
   .have R1:aa K as H [w] [v]:=.one Rw;exact aX kp (λk a e=>by rw[Qf (Qa.mp e).1];exact e) _ _ R1
def AY(hu:X.A.units+64<JA)(hb:PE X y (aI X.K (af cl b)))(hc:PE X z (aI X.K (af cl c))):PE X (.Dict [some y] [z] pos) (aI X.K (af cl (.dop .one .unit b c))):=by
 refine PE.imp (D5 hu hb hc) λσ H Q h d hd=>?_;obtain⟨as,env,m,S,G,P⟩:=h;have P0:ai X.K as H Q ((af cl b env m).bind λy m2=>(af cl c env m2).bind λz m3=>wc .one (.tup []) y z m3):=P;have U:Step as H as (aH H d (zQ d [])):=Step.updD .refl hd;have S0:aL X.K as m (aH H d (zQ d [])):=S.keep U λb _ o e=>by rw[zd (zo e hd)];exact e
 have hin:d∉as:=S.new hd;refine⟨as,env,m,S0,G.mono S U,fu P0 U λwy m1 as1 H1 v T1 S1 R1 P1=>?_⟩;have d1:H1 d=some (zQ d []):=T1.frame d _ ze hin;have i1:d∉as1:=λz=>by
  rcases T1.fresh d z with q|q
  .exact hin q
  .rw[ze]at q;cases q
 refine⟨as1,env,m1,S1,(G.mono S U).mono S0 T1,fu P1 (U.trans T1) λwz m2 as2 H2 t T2 S2 R2 P2=>?_⟩;have d2:H2 d=some (zQ d []):=T2.frame d _ d1 i1;have i2:d∉as2:=λz=>by
  rcases T2.fresh d z with q|q
  .exact i1 q
  .rw[d1]at q;cases q
 have R3:=R1.mono S1 T2;have P3:ai X.K as H Q (match ky wy with
  |some q=>.ok (.ref m2.length) (m2++[.dct [q] [wz]])
  |none=>.no):=P2
 cases ek:ky wy with
 |none=>rw[ek]at P3;exact P3.elim
 |some q=>
  rw[ek]at P3;obtain⟨b1,rfl,qb⟩:=vE ek R3;refine⟨b1,q,rfl,qb,d2,λu ru=>?_⟩;have kp:Kp X.K H2 (aH H2 d (zQ d [(q,b1,u)])):=Kp.updL d2 trivial;have S3:=S2.new1 i2 d2 qb R2 ru kp;have T3:Step as H (as2++[d]) (aH H2 d (zQ d [(q,b1,u)])):=by
   have T:=(U.trans T1).trans T2;obtain⟨r,hr⟩:=T.pre;refine⟨⟨r++[d],by rw[<-Qj,<-hr]⟩,λc o e hc=>?_,λc hc=>?_⟩
   .have hne:c≠d:=λz=>by rw[z,hd]at e;cases e
    rw[zd hne];exact T.frame c o e hc
   .rcases Qx.mp hc with z|z
    .exact T.fresh c z
    .rw[Qt.mp z];exact .inr hd
  refine P3 _ _ _ T3 S3 (aG.mpr ⟨d,?_,rfl⟩);rw[<-S2.len,Qd (Qg _)];simp
end
end Mini
namespace L2
open PySem PySem.Spec PyProof.Rows
section
variable{X:Cx}
noncomputable def dC(k:Int):Value->Bool
 |.int i _=>i==k
 |_=>false
def jn(k:Int)(t:Tok):∀{ks:List Int}{its:List Value},av (ks.map V.int) its->(∀y∈its,MeetsSeq.EqGives y (.int k t) (dC k y))/\its.map (dC k)=ks.map λx=>x==k:=by
 intro ks
 induction ks with
 |nil=>intro its r;cases r;exact⟨λy hy=>(by cases hy),rfl⟩
 |cons z ks ih=>
  intro its r;cases r with
  |cons p q=>
   obtain⟨u,rfl⟩:=p;obtain⟨h1,h2⟩:=ih q;refine⟨λy hy=>?_,by rw[QJ,QJ,h2];rfl⟩;rcases Qo.mp hy with rfl|hy
   .exact MeetsSeq.EqGives.int z k u t
   .exact h1 y hy
def ms:V->List V->Hp->VK->Prop:=λx vs H Q=>∃(l:Addr) (ks:List Int) (k:Int) (j:Nat),x=.ref l/\vs=[.int k]/\H l=some (.lst (ks.map V.int))/\ks[j]?=some k/\(∀i,i<j->ks[i]?≠some k)/\Q (.int j) H
def mv:V->List V->Hp->VK->Prop:=λx vs H Q=>∃(l:Addr) (ks:List Int) (k:Int),x=.ref l/\vs=[.int k]/\H l=some (.lst (ks.map V.int))/\Q (.int (ks.countP (· == k):Nat)) H
def AX:i6 X "list.count" mv:=by
 intro pins s σ H x vs v us Q I rx rv h;obtain⟨l,ks,k,rfl,rfl,hH,q⟩:=h;cases rx;obtain⟨u,rfl,ru⟩:=rv.one;obtain⟨t,rfl⟩:=ru;obtain⟨z,its,n,r,hl,e⟩:=I.lstM hH;obtain⟨g1,g2⟩:=jn k t r;refine J6 F.slot_list_count ⟨_,e,rfl⟩ F.entry_list_count (F.args_list_count_2 _ _) (MeetsSeq.list_count l its.toArray n _ (dC k) λy hy=>g1 y (by simpa using hy)) ⟨e,?_⟩;have hc:its.countP (dC k)=ks.countP (· == k):=by
  have h1:its.countP (dC k)=(its.map (dC k)).countP id:=by rw[List.countP_map];rfl
  have h2:ks.countP (· == k)=(ks.map λx=>x==k).countP id:=by rw[List.countP_map];rfl
  rw[h1,h2,g2]
 exact⟨.int (ks.countP (· == k):Nat),H,I.tok _,⟨s.toks,by rw[<-hc]⟩,q⟩
def AW:i6 X "list.index" ms:=by
 intro pins s σ H x vs v us Q I rx rv h;obtain⟨l,ks,k,j,rfl,rfl,hH,hj,hno,q⟩:=h;cases rx;obtain⟨u,rfl,ru⟩:=rv.one;obtain⟨t,rfl⟩:=ru;obtain⟨z,its,n,r,hl,e⟩:=I.lstM hH;obtain⟨g1,g2⟩:=jn k t r;have at':∀(i:Nat) (hi:i<its.toArray.size),∃x,ks[i]?=some x/\dC k its.toArray[i]=(x==k):=λi hi=>by
  have hi':i<its.length:=by simpa using hi
  have h1:(its.map (dC k))[i]?=some (dC k its[i]):=by rw[Qs,Qm hi'];rfl
  rw[g2,Qs]at h1;obtain⟨x,hx,hx'⟩:=QF.mp h1;exact⟨x,hx,by simpa using hx'.symm⟩
 have hjl:j<its.toArray.size:=by
  have:=(Qa.mp hj).1;simp at hl ⊢;lia
 have hit:dC k its.toArray[j]=true:=by
  obtain⟨x,h1,h2⟩:=at' j hjl;rw[hj]at h1;cases h1;rw[h2];simp
 have hn:∀i (hi:i<its.toArray.size),i<j->dC k its.toArray[i]=false:=λi hi hij=>by
  obtain⟨x,h1,h2⟩:=at' i hi;rw[h2];have:=hno i hij;rw[h1]at this;simpa using this
 refine J6 F.slot_list_index ⟨_,e,rfl⟩ F.entry_list_index (F.args_list_index_2 _ _) (MeetsSeq.list_index l its.toArray n _ (dC k) (λy hy=>g1 y (by simpa using hy)) j hjl (by have:=(Qa.mp hj).1;rw[Qp,Jz]at z;lia) hit hn) ⟨e,?_⟩;exact⟨.int j,H,I.tok _,⟨_,rfl⟩,q⟩
def F2(n:Nat):sliceRange ((n:Int)-1) (-1) (-1)=(QL n).map λk=>n-1-k:=by
 unfold sliceRange;simp only[show ¬((-1:Int) > 0) by decide,if_false];have hc:(if(n:Int)-1 > -1 then((n:Int)-1 - -1 - -1-1) / (- -1)else 0).toNat=n:=by
  split
  .rw[show(- -1:Int)=1 by decide,Int.ediv_one];lia
  .lia
 rw[hc];refine W9 λk hk=>?_;have:=WC.mp hk;lia
def Fx(its:List Value):JY its.toArray none none (some (-1))=its.reverse.toArray:=by
 unfold JY;have h:JX none none (some (-1)) its.toArray.size=((its.length:Int)-1,-1,-1):=by simp[JX]
 rw[h];simp only;rw[F2,List.filterMap_map];congr 1;refine WZ λi=>?_;have e:((λx=>its.toArray[x]?) ∘ λk=>its.length-1-k)=λk=>its[its.length-1-k]?:=by funext k;simp
 have e2:List.filterMap (λk=>its[its.length-1-k]?) (QL its.length)=(QL its.length).map λk=>its.getD (its.length-1-k) .none:=by
  have go:∀l:List Nat,(∀k∈l,k<its.length)->List.filterMap (λk=>its[its.length-1-k]?) l=l.map λk=>its.getD (its.length-1-k) .none:=by
   intro l
   induction l with
   |nil=>intro _;rfl
   |cons k l ih=>
    intro h;have hk:=h k (by simp);rw[QJ,Va,ih λq hq=>h q (by simp[hq])];simp[Qm (show its.length-1-k<its.length by lia)]
  exact go _ λk hk=>WC.mp hk
 rw[e,e2,Qs];by_cases hi:i<its.length
 .rw[List.getElem?_range hi,W1 hi];simp[Qm (show its.length-1-i<its.length by lia)]
 .rw[QE (by simpa using hi),QE (by simpa using hi)];rfl
def ma(K:Qb)(te ty:TE):TE:=λσ H Q=>te σ H λx H1=>ty σ H1 λy H2=>y=.int (-1)/\∃a xs,x=.ref a/\bD K H2 a xs/\∀p,H2 p=none->Q (.ref p) (aH H2 p (.lst xs.reverse))
def AV (he:PE X e te)(hy:PE X y ty):PE X (.Subscript e (.Slice none none (some y) p2) pos) (ma X.K te ty):=by
 intro pins s σ H Q I h;refine Subscript_ (aW (he pins s σ H _ I h) λv s1 ⟨x,H1,I1,r1,q1⟩=>?_);refine wpAny_Slice ?_;rw[JU];refine Jp ?_;refine Jp ?_;rw[evalPart_some];refine aW (hy pins s1 σ H1 _ I1 q1) λvy s3 ⟨z,H3,I3,rz,q3⟩=>?_;obtain⟨rfl,a,xs,rfl,hx,q⟩:=q3;obtain⟨t,rfl⟩:=rz;cases r1;have I4:Inv X pins σ H3 {s3 with heap:=s3.heap.push {cls:=.type "slice",data:=.fields #[.none,.none,.int (-1) t]} }:=I3.kept (t':=s3.toks) λb ob q=>Qc _ q;obtain⟨its,r,ht,hz⟩:=I4.list hx;have hlen:=r.length;show IX (IY X.prog X.w) X.A (JV e (.Slice none none (some y) p2) (.ref a) (.ref s3.heap.objs.size)) (EP X pins σ Q) X.xe {s3 with heap:=s3.heap.push {cls:=.type "slice",data:=.fields #[.none,.none,.int (-1) t]} };refine tail_any (ops:=[.ref a,.ref s3.heap.objs.size]) ht.isList.typeIs slot_list_getitem.lookup ?_ (by with_unfolding_all rfl);refine JZ ht.isList (Heap.IsSliceOf.new ..) .none .none (.int (-1) t) (by simp) ?_ (by rw[Qz]<;>lia);rw[Fx];refine⟨.ref _,_,I4.laid (t':=s3.toks) (o:=.lst xs.reverse) (λb ob q=>Qc _ q) (Qg _) ?_,rfl,q _ (I4.hok.fresh (Qg _))⟩;exact⟨by rw[List.length_reverse];exact hz,_,0,r.reverse,Qe _ rfl⟩
end
end L2
namespace Mini
open PySem PySem.Spec PyProof.Rows L2
section
variable{cl:Nat->List Wd->Me->Rz}{X:Cx}{a b:Ex}{x y z:Expr}{pos:Pos}
theorem rT:∀{ks:List Int}{i j:Nat},vq k ks i=some j->i<=j/\ks[j-i]?=some k/\∀p,p<j-i->ks[p]?≠some k
 |[],i,j,h=>by cases h
 |x::ks,i,j,h=>by
  have h':(if x=k then some i else vq k ks (i+1))=some j:=h;by_cases e:x=k
  .rw[Lp e]at h';cases h';refine⟨Qg _,by simp[e],λp hp=>by lia⟩
  .rw[Lq e]at h';obtain⟨h1,h2,h3⟩:=rT h';obtain⟨q,hq⟩:∃q,j-i=q+1:=⟨j-(i+1),by lia⟩;have hq':j-(i+1)=q:=by lia
   rw[hq']at h2 h3;refine⟨by lia,by rw[hq];simpa using h2,λp hp=>?_⟩;cases p with
   |zero=>simpa using e
   |succ p=>simpa using h3 p (by lia)
def se {K:Qb}(S:aL K as m H)(R:ag K as H w v)(h:gM w m=some ks):∃l,v=.ref l/\H l=some (.lst (ks.map V.int)):=by
 cases w with
 |ref l=>
  have h':(zn m l).bind yg=some ks:=h;obtain⟨xs,h1,h2⟩:=QB.mp h';obtain⟨p,hp,rfl⟩:=aG.mp R;obtain⟨p',us,hp',e,r⟩:=zW S (zM h1);rw[hp]at hp';cases hp';have:=xM r h2;subst this;exact⟨p,rfl,e⟩
 |_=>cases h
def AU (ha:PE X x (aI X.K (af cl a)))(hb:PE X y (aI X.K (af cl b)))(hx:yf x=true)(hl:(ap.endLine==pos.line)=true)(hs:zh y=true):
  PE X (.Call (.Attribute x "index" ap) [y] [] pos) (aI X.K (af cl (.dop .lix a b .unit))):=by
 have hall:[y].all zh=true:=by simp[hs]
 refine PE.imp (lF PySem.F.plainAttrs_list PySem.F.slot_list_index PySem.F.type_list_index AW ha (zP hb yT (zf hs)) (bH hx) (qc hall (by simp)) hl (zf hs) (zN (by simp))) λσ H Q h=>?_;obtain⟨as,env,m,S,G,P⟩:=h;refine⟨as,env,m,S,G,ai.bind P λw m1 as1 H1 v T1 S1 R1 P1=>?_⟩;obtain⟨hd,P1⟩:=qh P1;refine⟨qe S1 R1 (qd hd),as1,env,m1,S1,G.mono S T1,ai.bind P1 λy m2 as2 H2 u T2 S2 R2 P2=>?_⟩;have P3:ai X.K as2 H2 Q (wc .lix w y (.tup []) m2):=P2;cases y with
 |int k=>
  obtain rfl:=ab.mp R2;have P4:ai X.K as2 H2 Q (match (gM w m2).bind λks=>vq k ks 0 with
   |some j=>.ok (.int (j:Nat)) m2
   |none=>.no):=P3
  cases hr:gM w m2 with
  |none=>rw[hr]at P4;exact P4.elim
  |some ks=>
   rw[hr]at P4;simp only[QS]at P4;cases hi:vq k ks 0 with
   |none=>rw[hi]at P4;exact P4.elim
   |some j=>
    rw[hi]at P4;obtain⟨l,rfl,hl⟩:=se S2 (R1.mono S1 T2) hr;obtain⟨_,h2,h3⟩:=rT hi;rw[Nat.sub_zero]at h2 h3;exact⟨l,ks,k,j,rfl,rfl,hl,h2,h3,P4.ok S2 (ab.mpr rfl)⟩
 |_=>exact P3.elim
def AT (ha:PE X x (aI X.K (af cl a)))(hb:PE X y (aI X.K (af cl b)))(hx:yf x=true)(hl:(ap.endLine==pos.line)=true)(hs:zh y=true):
  PE X (.Call (.Attribute x "count" ap) [y] [] pos) (aI X.K (af cl (.dop .lct a b .unit))):=by
 have hall:[y].all zh=true:=by simp[hs]
 refine PE.imp (lF PySem.F.plainAttrs_list PySem.F.slot_list_count PySem.F.type_list_count AX ha (zP hb yT (zf hs)) (bH hx) (qc hall (by simp)) hl (zf hs) (zN (by simp))) λσ H Q h=>?_;obtain⟨as,env,m,S,G,P⟩:=h;refine⟨as,env,m,S,G,ai.bind P λw m1 as1 H1 v T1 S1 R1 P1=>?_⟩;obtain⟨hd,P1⟩:=qh P1;refine⟨qe S1 R1 (qd hd),as1,env,m1,S1,G.mono S T1,ai.bind P1 λy m2 as2 H2 u T2 S2 R2 P2=>?_⟩;have P3:ai X.K as2 H2 Q (wc .lct w y (.tup []) m2):=P2;cases y with
 |int k=>
  obtain rfl:=ab.mp R2;have P4:ai X.K as2 H2 Q (match gM w m2 with
   |some ks=>.ok (.int (ks.countP (· == k):Nat)) m2
   |none=>.no):=P3
  cases hr:gM w m2 with
  |none=>rw[hr]at P4;exact P4.elim
  |some ks=>
   rw[hr]at P4;obtain⟨l,rfl,hl⟩:=se S2 (R1.mono S1 T2) hr;exact⟨l,ks,k,rfl,rfl,hl,P4.ok S2 (ab.mpr rfl)⟩
 |_=>exact P3.elim
def AS (ha:PE X x (aI X.K (af cl a)))(hb:PE X y (aI X.K (af cl b))):
  PE X (.Subscript x (.Slice none none (some y) p2) pos) (aI X.K (af cl (.dop .lrv a b .unit))):=by
 refine PE.imp (AV ha hb) λσ H Q h=>?_;obtain⟨as,env,m,S,G,P⟩:=h;refine⟨as,env,m,S,G,ai.bind P λw m1 as1 H1 v T1 S1 R1 P1=>?_⟩
 replace P1:ai X.K as1 H1 Q ((af cl b env m1).bind λy m2=>(af cl .unit env m2).bind λz m3=>wc .lrv w y z m3):=P1
 refine⟨as1,env,m1,S1,G.mono S T1,ai.bind P1 λy m2 as2 H2 u T2 S2 R2 P2=>?_⟩;have P3:ai X.K as2 H2 Q (wc .lrv w y (.tup []) m2):=P2;cases y with
 |int k=>
  obtain rfl:=ab.mp R2;have P4:ai X.K as2 H2 Q (match vm m2 w with
   |some xs=>if k=-1 then alloc m2 xs.reverse else .no
   |none=>.no):=P3
  cases hr:vm m2 w with
  |none=>rw[hr]at P4;exact P4.elim
  |some xs=>
   rw[hr]at P4;simp only at P4;by_cases hk:k=-1
   .rw[Lp hk]at P4;subst hk;obtain⟨p,vs,rfl,hq,r⟩:=j9 S2 (R1.mono S1 T2) hr;obtain⟨_,h2⟩:=xq S2 r.reverse P4;exact⟨rfl,p,vs,rfl,hq,h2⟩
   .rw[Lq hk]at P4;exact P4.elim
 |_=>exact P3.elim
end
section
variable{cl:Nat->List Wd->Me->Rz}
def bW.pe (h:bW cl X e (.e x))(hr:zg e=false):PE X x (aI X.K (af cl e)):=(h.1 hr).1
def bW.pt (h:bW cl X e (.e x))(hr:zg e=false)(hi:jf e=false):PT X x (xy X.K (af cl e)):=(h.1 hr).2.1 hi
def bW.pw (h:bW cl X e (.e (.BoolOp op vs pos)))(hr:zg e=false):PW X (.BoolOp op vs pos) (xy X.K (af cl e)):=(h.1 hr).2.2 op vs pos rfl
def bW.pa (h:bW cl X e (.a xs)):PA X xs (jg X.K (af cl e)):=h
def AR (h:iE sc x=true):fI sc x:=by
 unfold iE at h;simp only[W7,Lx]at h;exact h
def xN (h:dq sc x=true):sc.names.lookup x=some .globalImplicit:=Lw h
def qj {K:Qb}(hv:∀as H,ag K as H w v):∀σ H Q,aI K (af cl (.lit w)) σ H Q->tC v σ H Q:=λσ H Q h=>by
 obtain⟨as,env,m,S,G,P⟩:=h;exact ai.ok (m:=m) P S (hv as H)
def yw (hs:yi y=true):∀v,Jt y env v=pure v:=λv=>by
 cases y<;>first|rfl|cases hs
structure aF(C:Ctx)(sc:IN)(N:List Str)(e:Ex)(n:Nd):Prop where
 h:∀(cl:Nat → List Wd → Me → Rz) (d:Nat) (X:Cx),bV C X cl d → X.env.scope=sc → X.N=N → bW cl X e n
def yk (h:aF C sc N e n):∀X:Cx,bV C X cl d->X.env.scope=sc->X.N=N->bW cl X e n:=h.h cl d
def aF.«var»{C:Ctx}{sc:IN}{N:List Str}{i:Nat}{x:Str}{p:Pos}(h1:N[i]?=some x)(h2:iE sc x=true)(h3:yW x=true):aF C sc N (.var i) (.e (.Name x p)):=by
 constructor;intro cl d;intro X hC es eN;subst es;subst eN;obtain⟨n1,n2,_⟩:=vW h3;refine bW.of (PE.imp (BN h1 (AR h2) n1 n2) λσ H Q q=>?_);obtain⟨as,env,m,S,G,P⟩:=q;cases hw:env[i]? with
 |none=>have P':ai X.K as H Q (match env[i]? with|some (some w)=>.ok w m|_=>.no):=P;rw[hw]at P';exact P'.elim
 |some o=>
  cases o with
  |none=>have P':ai X.K as H Q (match env[i]? with|some (some w)=>.ok w m|_=>.no):=P;rw[hw]at P';exact P'.elim
  |some w=>
   have P':ai X.K as H Q (match env[i]? with|some (some w)=>.ok w m|_=>.no):=P;rw[hw]at P';obtain⟨v,hv,R⟩:=G.get i w hw;exact⟨v,hv,ai.ok (m:=m) P' S R⟩
def aF.«bl»{C:Ctx}{sc:IN}{N:List Str}{b:Bool}{k}{p:Pos}:aF C sc N (.lit (.bl b)) (.e (.Constant (.bool b) k p)):=by
 constructor;intro cl d;intro X hC es eN;exact bW.of (PE.imp Ap (qj λ_ _=>ak.mpr rfl))
def aF.«int»{C:Ctx}{sc:IN}{N:List Str}{i:Int}{k}{p:Pos}:aF C sc N (.lit (.int i)) (.e (.Constant (.int i) k p)):=by
 constructor;intro cl d;intro X hC es eN;exact bW.of (PE.imp BM (qj λ_ _=>ab.mpr rfl))
def aF.«con»{C:Ctx}{sc:IN}{N:List Str}{x:Str}{i:Int}{p:Pos}(h1:dq sc x=true)(h2:C.cons.lookup x=some i)(h3:yW x=true):aF C sc N (.lit (.int i)) (.e (.Name x p)):=by
 constructor;intro cl d;intro X hC es eN;subst es;obtain⟨n1,n2,_⟩:=vW h3;obtain⟨t,ht⟩:=hC.con.1 x i h2;exact bW.of (PE.imp (Dw (xN h1) ht (v:=.int i) ⟨t,rfl⟩ n1) (qj λ_ _=>ab.mpr rfl))
def aF.«bin»{C:Ctx}{sc:IN}{N:List Str}{op:Bo}{a b:Ex}{x y:Expr}{p:Pos}(ra:zg a=false)(ha:aF C sc N a (.e x))(rb:zg b=false)(hb:aF C sc N b (.e y)):aF C sc N (.bin op a b) (.e (.BinOp x (fF op) y p)):=by
 constructor;intro cl d;have iha:=ha.h cl d;have ihb:=hb.h cl d;intro X hC es eN;exact bW.of (Cm ((iha X hC es eN).pe ra) ((ihb X hC es eN).pe rb))
def aF.«neg»{C:Ctx}{sc:IN}{N:List Str}{a:Ex}{x:Expr}{p:Pos}(ra:zg a=false)(ha:aF C sc N a (.e x)):aF C sc N (.neg a) (.e (.UnaryOp .USub x p)):=by
 constructor;intro cl d;have iha:=ha.h cl d;intro X hC es eN;exact bW.of (Ck ((iha X hC es eN).pe ra))
def aF.«not»{C:Ctx}{sc:IN}{N:List Str}{a:Ex}{x:Expr}{p:Pos}(ra:zg a=false)(ia:jf a=false)(ha:aF C sc N a (.e x)):aF C sc N (.not a) (.e (.UnaryOp .Not x p)):=by
 constructor;intro cl d;have iha:=ha.h cl d;intro X hC es eN;have s1:=iha X hC es eN;exact⟨λ_=>⟨pC (s1.pe ra),λ_=>Cj (s1.pt ra ia),λop vs pos z=>by cases z⟩,λtg=>km (pC (s1.pe ra))⟩
def aF.«and2»{C:Ctx}{sc:IN}{N:List Str}{a b:Ex}{x y:Expr}{p:Pos}(ra:zg a=false)(ia:jf a=false)(ha:aF C sc N a (.e x))(rb:zg b=false)(ib:jf b=false)(hb:aF C sc N b (.e y)):aF C sc N (.and a b) (.e (.BoolOp .And [x,y] p)):=by
 constructor;intro cl d;have iha:=ha.h cl d;have ihb:=hb.h cl d;intro X hC es eN;have sa:=iha X hC es eN;have sb:=ihb X hC es eN;have e:=λ(p:Pos)=>Ci (pos:=p) (sa.pe ra) (pB (sb.pe rb));have w:=λ(p:Pos)=>Ch (pos:=p) (sa.pt ra ia) (Du (sb.pt rb ib));exact⟨λ_=>⟨e _,λ_=>(w _).pt,λop vs pos z=>by cases z;exact w _⟩,λtg=>km (e _)⟩
def aF.«or2»{C:Ctx}{sc:IN}{N:List Str}{a b:Ex}{x y:Expr}{p:Pos}(ra:zg a=false)(ia:jf a=false)(ha:aF C sc N a (.e x))(rb:zg b=false)(ib:jf b=false)(hb:aF C sc N b (.e y)):aF C sc N (.or a b) (.e (.BoolOp .Or [x,y] p)):=by
 constructor;intro cl d;have iha:=ha.h cl d;have ihb:=hb.h cl d;intro X hC es eN;have sa:=iha X hC es eN;have sb:=ihb X hC es eN;have e:=λ(p:Pos)=>oK (pos:=p) (sa.pe ra) (pB (sb.pe rb));have w:=λ(p:Pos)=>oJ (pos:=p) (sa.pt ra ia) (BK (sb.pt rb ib));exact⟨λ_=>⟨e _,λ_=>(w _).pt,λop vs pos z=>by cases z;exact w _⟩,λtg=>km (e _)⟩
def aF.«orN»{C:Ctx}{sc:IN}{N:List Str}{a b:Ex}{x y z:Expr}{r:List Expr}{p:Pos}(ra:zg a=false)(ia:jf a=false)(ha:aF C sc N a (.e x))(rb:zg b=false)(hb:aF C sc N b (.e (.BoolOp .Or (y::z::r) p))):aF C sc N (.or a b) (.e (.BoolOp .Or (x::y::z::r) p)):=by
 constructor;intro cl d;have iha:=ha.h cl d;have ihb:=hb.h cl d;intro X hC es eN;have sa:=iha X hC es eN;have sb:=ihb X hC es eN;have e:=oK (sa.pe ra) (sb.pe rb);have w:=oJ (sa.pt ra ia) (sb.pw rb);exact⟨λ_=>⟨e,λ_=>w.pt,λop vs pos z=>by cases z;exact w⟩,λtg=>km e⟩
def aF.«cmp»{C:Ctx}{sc:IN}{N:List Str}{op:Co}{a b:Ex}{x y:Expr}{p:Pos}(hs:yi y=true)(ra:zg a=false)(ha:aF C sc N a (.e x))(rb:zg b=false)(hb:aF C sc N b (.e y)):aF C sc N (.cmp op a b) (.e (.Compare x [cK op] [y] p)):=by
 constructor;intro cl d;have iha:=ha.h cl d;have ihb:=hb.h cl d;intro X hC es eN;have ea:=(iha X hC es eN).pe ra;have eb:=(ihb X hC es eN).pe rb;exact⟨λ_=>⟨pK hC.room.units ea eb hs,λ_=>Bb hC.room.units ea eb hs,λop vs pos z=>by cases z⟩,λtg=>km (pK hC.room.units ea eb hs)⟩
def aF.«chain»{C:Ctx}{sc:IN}{N:List Str}{o q:Co}{a b c:Ex}{x y z:Expr}{p:Pos}(hs:yi z=true)(ra:zg a=false)(ha:aF C sc N a (.e x))(rb:zg b=false)(hb:aF C sc N b (.e y))(rc:zg c=false)(hc:aF C sc N c (.e z)):aF C sc N (.chain o q a b c) (.e (.Compare x [cK o,cK q] [y,z] p)):=by
 constructor;intro cl d;have iha:=ha.h cl d;have ihb:=hb.h cl d;have ihc:=hc.h cl d;intro X hC es eN;have ea:=(iha X hC es eN).pe ra;have eb:=(ihb X hC es eN).pe rb;have ec:=(ihc X hC es eN).pe rc;exact⟨λ_=>⟨sr hC.room.units ea eb ec hs,λ_=>Fs hC.room.units ea eb ec hs,λop vs pos z=>by cases z⟩,λtg=>km (sr hC.room.units ea eb ec hs)⟩
def aF.«ife»{C:Ctx}{sc:IN}{N:List Str}{a b c:Ex}{x y z:Expr}{p:Pos}(rc:zg c=false)(ic:jf c=false)(hc:aF C sc N c (.e x))(ra:zg a=false)(ha:aF C sc N a (.e y))(rb:zg b=false)(hb:aF C sc N b (.e z)):aF C sc N (.ife c a b) (.e (.IfExp x y z p)):=by
 constructor;intro cl d;have ihc:=hc.h cl d;have iha:=ha.h cl d;have ihb:=hb.h cl d;intro X hC es eN;have e:=λ(p:Pos)=>Ba (pos:=p) ((ihc X hC es eN).pt rc ic) ((iha X hC es eN).pe ra) ((ihb X hC es eN).pe rb);exact⟨λ_=>⟨e _,λz=>(by cases z),λop vs pos z=>(by cases z)⟩,λtg=>km (e _)⟩
def aF.«unit»{C:Ctx}{sc:IN}{N:List Str}:aF C sc N .unit (.a []):=by
 constructor;intro cl d;intro X hC es eN;exact DH
def aF.«pair»{C:Ctx}{sc:IN}{N:List Str}{a b:Ex}{x:Expr}{xs:List Expr}(hs:zh x=true)(ra:zg a=false)(ha:aF C sc N a (.e x))(hb:aF C sc N b (.a xs)):aF C sc N (.pair a b) (.a (x::xs)):=by
 constructor;intro cl d;have iha:=ha.h cl d;have ihb:=hb.h cl d;intro X hC es eN;exact DG ((iha X hC es eN).pe ra) (ihb X hC es eN).pa hs
def aF.«call»{C:Ctx}{sc:IN}{N:List Str}{k:Nat}{a:Ex}{f:Str}{y:Expr}{ys:List Expr}{p p':Pos}(h1:C.fns[k]?=some f)(h2:dq sc f=true)(h3:yW f=true)(hs:(y::ys).all zh=true)(ha:aF C sc N a (.a (y::ys))):aF C sc N (.call k a) (.e (.Call (.Name f p) (y::ys) [] p')):=by
 constructor;intro cl d;have iha:=ha.h cl d;intro X hC es eN;subst es;exact bW.of (DF hC h1 (xN h2) h3 hs (iha X hC rfl eN).pa)
def aF.«blt»{C:Ctx}{sc:IN}{N:List Str}{b:dZ}{a:Ex}{nm:Str}{f:Value}{y:Expr}{ys:List Expr}{p p':Pos}(h1:lA b=some (nm,f))(h2:dq sc nm=true)(h3:yW nm=true)(hs:(y::ys).all zh=true)(ha:aF C sc N a (.a (y::ys))):aF C sc N (.blt b a) (.e (.Call (.Name nm p) (y::ys) [] p')):=by
 constructor;intro cl d;have iha:=ha.h cl d;intro X hC es eN;subst es;exact bW.of (A9 hC h1 (xN h2) h3 hs (iha X hC rfl eN).pa)
def aF.«isi»{C:Ctx}{sc:IN}{N:List Str}{t:Tg}{a:Ex}{y:Expr}{p p' p'':Pos}(h1:dq sc "isinstance"=true)(h2:dq sc (Str.ofString (cU t))=true)(hs:zh y=true)(ra:zg a=false)(ha:aF C sc N a (.e y)):aF C sc N (.isi t a) (.e (.Call (.Name "isinstance" p) [y,.Name (Str.ofString (cU t)) p'] [] p'')):=by
 constructor;intro cl d;have iha:=ha.h cl d;intro X hC es eN;subst es;exact bW.of (A8 hC (xN h1) (xN h2) hs ((iha X hC rfl eN).pe ra))
def aF.«lst»{C:Ctx}{sc:IN}{N:List Str}{a:Ex}{xs:List Expr}{p:Pos}(ha:aF C sc N a (.a xs)):aF C sc N (.lst a) (.e (.List xs p)):=by
 constructor;intro cl d;have iha:=ha.h cl d;intro X hC es eN;exact bW.of (A7 (iha X hC es eN).pa)
def aF.«tup»{C:Ctx}{sc:IN}{N:List Str}{a:Ex}{xs:List Expr}{k}{p:Pos}(ha:aF C sc N a (.a xs)):aF C sc N (.tup a) (.e (.Tuple xs k p)):=by
 constructor;intro cl d;have iha:=ha.h cl d;intro X hC es eN;exact bW.of (A6 (iha X hC es eN).pa)
def aF.«idx»{C:Ctx}{sc:IN}{N:List Str}{a b:Ex}{x y:Expr}{p:Pos}(hs:yQ y=true)(ra:zg a=false)(ha:aF C sc N a (.e x))(rb:zg b=false)(hb:aF C sc N b (.e y)):aF C sc N (.idx a b) (.e (.Subscript x y p)):=by
 constructor;intro cl d;have iha:=ha.h cl d;have ihb:=hb.h cl d;intro X hC es eN;exact bW.of (A5 ((iha X hC es eN).pe ra) ((ihb X hC es eN).pe rb) hs)
def aF.«dict0»{C:Ctx}{sc:IN}{N:List Str}{p:Pos}:aF C sc N .dict0 (.e (.Dict [] [] p)):=by
 constructor;intro cl d;intro X hC es eN;exact bW.of Er
def aF.«dget»{C:Ctx}{sc:IN}{N:List Str}{a b:Ex}{x y:Expr}{p:Pos}(hs:yQ y=true)(ra:zg a=false)(ha:aF C sc N a (.e x))(rb:zg b=false)(hb:aF C sc N b (.e y)):aF C sc N (.dget a b) (.e (.Subscript x y p)):=by
 constructor;intro cl d;have iha:=ha.h cl d;have ihb:=hb.h cl d;intro X hC es eN;exact bW.of (D8 hC.room.units ((iha X hC es eN).pe ra) ((ihb X hC es eN).pe rb) hs)
def aF.«slL»{C:Ctx}{sc:IN}{N:List Str}{a b:Ex}{x y:Expr}{p p':Pos}(ra:zg a=false)(ha:aF C sc N a (.e x))(rb:zg b=false)(hb:aF C sc N b (.e y)):aF C sc N (.slL a b) (.e (.Subscript x (.Slice (some y) none none p') p)):=by
 constructor;intro cl d;have iha:=ha.h cl d;have ihb:=hb.h cl d;intro X hC es eN;exact bW.of (A4 ((iha X hC es eN).pe ra) ((ihb X hC es eN).pe rb))
def aF.«dgetM»{C:Ctx}{sc:IN}{N:List Str}{a b c:Ex}{x y z:Expr}{ap cp:Pos}(hx:yf x=true)(hl:(ap.endLine==cp.line)=true)(hs:zh y=true)(hs':zh z=true)(ra:zg a=false)(ha:aF C sc N a (.e x))(rb:zg b=false)(hb:aF C sc N b (.e y))(rc:zg c=false)(hc:aF C sc N c (.e z)):aF C sc N (.dop .get a b c) (.e (.Call (.Attribute x "get" ap) [y,z] [] cp)):=by
 constructor;intro cl d;have iha:=ha.h cl d;have ihb:=hb.h cl d;have ihc:=hc.h cl d;intro X hC es eN;exact bW.of (Ek hC.room.units ((iha X hC es eN).pe ra) ((ihb X hC es eN).pe rb) ((ihc X hC es eN).pe rc) hx hl hs hs')
def aF.«done1»{C:Ctx}{sc:IN}{N:List Str}{b c:Ex}{y z:Expr}{p:Pos}(rb:zg b=false)(hb:aF C sc N b (.e y))(rc:zg c=false)(hc:aF C sc N c (.e z)):aF C sc N (.dop .one .unit b c) (.e (.Dict [some y] [z] p)):=by
 constructor;intro cl d;have ihb:=hb.h cl d;have ihc:=hc.h cl d;intro X hC es eN;exact bW.of (AY hC.room.units ((ihb X hC es eN).pe rb) ((ihc X hC es eN).pe rc))
def aF.«dtrg»{C:Ctx}{sc:IN}{N:List Str}{a:Ex}{x:Expr}{p p1 p2 p3:Pos}(hg:dq sc "tuple"=true)(hg':dq sc "range"=true)(hs:zh x=true)(ra:zg a=false)(ha:aF C sc N a (.e x)):aF C sc N (.dop .trg a .unit .unit) (.e (.Call (.Name "tuple" p1) [.Call (.Name "range" p2) [x] [] p3] [] p)):=by
 constructor;intro cl d;have iha:=ha.h cl d;intro X hC es eN;exact bW.of (AZ hC.calm (by rw[<-es]at hg;exact xN hg) (hC.blt _ (by simp[zp])) (by rw[<-es]at hg';exact xN hg') (hC.blt _ (by simp[zp])) hs ((iha X hC es eN).pe ra))
def aF.«dlix»{C:Ctx}{sc:IN}{N:List Str}{a b:Ex}{x y:Expr}{ap cp:Pos}(hx:yf x=true)(hl:(ap.endLine==cp.line)=true)(hs:zh y=true)(ra:zg a=false)(ha:aF C sc N a (.e x))(rb:zg b=false)(hb:aF C sc N b (.e y)):aF C sc N (.dop .lix a b .unit) (.e (.Call (.Attribute x "index" ap) [y] [] cp)):=by
 constructor;intro cl d;have iha:=ha.h cl d;have ihb:=hb.h cl d;intro X hC es eN;exact bW.of (AU ((iha X hC es eN).pe ra) ((ihb X hC es eN).pe rb) hx hl hs)
def aF.«dlct»{C:Ctx}{sc:IN}{N:List Str}{a b:Ex}{x y:Expr}{ap cp:Pos}(hx:yf x=true)(hl:(ap.endLine==cp.line)=true)(hs:zh y=true)(ra:zg a=false)(ha:aF C sc N a (.e x))(rb:zg b=false)(hb:aF C sc N b (.e y)):aF C sc N (.dop .lct a b .unit) (.e (.Call (.Attribute x "count" ap) [y] [] cp)):=by
 constructor;intro cl d;have iha:=ha.h cl d;have ihb:=hb.h cl d;intro X hC es eN;exact bW.of (AT ((iha X hC es eN).pe ra) ((ihb X hC es eN).pe rb) hx hl hs)
def aF.«dlrv»{C:Ctx}{sc:IN}{N:List Str}{a b:Ex}{x y:Expr}{p p2:Pos}(ra:zg a=false)(ha:aF C sc N a (.e x))(rb:zg b=false)(hb:aF C sc N b (.e y)):aF C sc N (.dop .lrv a b .unit) (.e (.Subscript x (.Slice none none (some y) p2) p)):=by
 constructor;intro cl d;have iha:=ha.h cl d;have ihb:=hb.h cl d;intro X hC es eN;exact bW.of (AS ((iha X hC es eN).pe ra) ((ihb X hC es eN).pe rb))
def aF.«dsum»{C:Ctx}{sc:IN}{N:List Str}{a:Ex}{x:Expr}{ap p p1 p2:Pos}(hg:dq sc "sum"=true)(hx:yf x=true)(hl:(ap.endLine==p2.line)=true)(ra:zg a=false)(ha:aF C sc N a (.e x)):aF C sc N (.dop .sum a .unit .unit) (.e (.Call (.Name "sum" p1) [.Call (.Attribute x "values" ap) [] [] p2] [] p)):=by
 constructor;intro cl d;have iha:=ha.h cl d;intro X hC es eN;exact bW.of (D3 hC.calm ((iha X hC es eN).pe ra) (by rw[<-es]at hg;exact xN hg) (hC.blt _ (by simp[zp])) hx hl)
def aF.«meth0»{C:Ctx}{sc:IN}{N:List Str}{k:dD}{o:Ex}{x:Expr}{ap cp:Pos}(hx:yf x=true)(hl:(ap.endLine==cp.line)=true)(ro:zg o=false)(ho:aF C sc N o (.e x)):aF C sc N (.meth k o .unit) (.e (.Call (.Attribute x (eK k).1 ap) [] [] cp)):=by
 constructor;intro cl d;have iho:=ho.h cl d;intro X hC es eN;exact bW.of (Fp ((iho X hC es eN).pe ro) hx hl)
def aF.«meth»{C:Ctx}{sc:IN}{N:List Str}{k:dD}{o a:Ex}{x y:Expr}{ys:List Expr}{ap cp:Pos}(hx:yf x=true)(hl:(ap.endLine==cp.line)=true)(hn:(y::ys).length<29)(hs:(y::ys).all zh=true)(ro:zg o=false)(ho:aF C sc N o (.e x))(ha:aF C sc N a (.a (y::ys))):aF C sc N (.meth k o a) (.e (.Call (.Attribute x (eK k).1 ap) (y::ys) [] cp)):=by
 constructor;intro cl d;have iho:=ho.h cl d;have iha:=ha.h cl d;intro X hC es eN;exact bW.of (DD ((iho X hC es eN).pe ro) (iha X hC es eN).pa hx hl hn hs)
def aF.«rng1»{C:Ctx}{sc:IN}{N:List Str}{b:Ex}{y:Expr}{p p':Pos}(hg:dq sc "range"=true)(hs:zh y=true)(rb:zg b=false)(hb:aF C sc N b (.e y)):aF C sc N (.rng (.lit (.int 0)) b (.lit (.int 1))) (.e (.Call (.Name "range" p) [y] [] p')):=by
 constructor;intro cl d;have ihb:=hb.h cl d;intro X hC es eN;subst es;exact⟨λz=>(by cases z),λtg=>DC hC (xN hg) hs ((ihb X hC rfl eN).pe rb)⟩
def aF.«rng2»{C:Ctx}{sc:IN}{N:List Str}{a b:Ex}{x y:Expr}{p p':Pos}(hg:dq sc "range"=true)(hs:zh x=true)(hs':zh y=true)(ra:zg a=false)(ha:aF C sc N a (.e x))(rb:zg b=false)(hb:aF C sc N b (.e y)):aF C sc N (.rng a b (.lit (.int 1))) (.e (.Call (.Name "range" p) [x,y] [] p')):=by
 constructor;intro cl d;have iha:=ha.h cl d;have ihb:=hb.h cl d;intro X hC es eN;subst es;exact⟨λz=>(by cases z),λtg=>DB hC (xN hg) hs hs' ((iha X hC rfl eN).pe ra) ((ihb X hC rfl eN).pe rb)⟩
def aF.«comp0»{C:Ctx}{sc scope:IN}{N:List Str}{elt it:Ex}{x i:Expr}{y:Str}{p p':Pos}(hs:yi i=true)(hB:b9 sc N scope [y]=true)(hi:aF C sc N it (.e i))(re:zg elt=false)(he:aF C (xr scope sc) (yF N [y]) elt (.e x)):aF C sc N (.comp elt it (.lit (.bl true))) (.e (.ListComp x [⟨.Name y p,i,[],0⟩] scope p')):=by
 constructor;intro cl d;have ihi:=hi.h cl d;have ihe:=he.h cl d;intro X hC es eN;subst es;subst eN;have B:=yu hB;have hI:=(ihi X hC rfl rfl).2 (.Name y p);have hset:∀v,Jt i X.env v=pure v:=yw hs;have body:∀Xc,bJ X scope [y] Xc->PE Xc x (aI X.K (af cl elt)):=λXc c=>by
  have q:=(ihe Xc (hC.comp c) c.sc c.N).pe re;rw[c.K]at q;exact q
 refine bW.of (PE.imp (kB B hC.calm (gK B) hI (λXc c=>⟨vk,body Xc c⟩) hset) λσ H Q q=>vX (λσ H Q q=>?_) q);obtain⟨as,env,m,S,G,P⟩:=q;obtain⟨b,e,q⟩:=ai.ok (m:=m) P S (ak.mpr rfl);cases e;exact q
def aF.«comp1»{C:Ctx}{sc scope:IN}{N:List Str}{elt it cond:Ex}{x i f:Expr}{y:Str}{p p':Pos}(hs:yi i=true)(hB:b9 sc N scope [y]=true)(hi:aF C sc N it (.e i))(rc:zg cond=false)(ic:jf cond=false)(hc:aF C (xr scope sc) (yF N [y]) cond (.e f))(re:zg elt=false)(he:aF C (xr scope sc) (yF N [y]) elt (.e x)):aF C sc N (.comp elt it cond) (.e (.ListComp x [⟨.Name y p,i,[f],0⟩] scope p')):=by
 constructor;intro cl d;have ihi:=hi.h cl d;have ihc:=hc.h cl d;have ihe:=he.h cl d;intro X hC es eN;subst es;subst eN;have B:=yu hB;have hI:=(ihi X hC rfl rfl).2 (.Name y p);have hset:∀v,Jt i X.env v=pure v:=yw hs;have body:∀Xc,bJ X scope [y] Xc->PE Xc x (aI X.K (af cl elt)):=λXc c=>by
  have q:=(ihe Xc (hC.comp c) c.sc c.N).pe re;rw[c.K]at q;exact q
 refine bW.of (PE.imp (kB B hC.calm (gK B) hI (λXc c=>⟨De ?_,body Xc c⟩) hset) λσ H Q q=>vX (λσ H Q q=>q) q);have q:=(ihc Xc (hC.comp c) c.sc c.N).pt rc ic;rw[c.K]at q;exact q
def aF.«compZ0»{C:Ctx}{sc scope:IN}{N:List Str}{elt a b:Ex}{x i j:Expr}{y z:Str}{p p' q q' q2 pt:Pos}{kt:Nat}(hg:dq sc "zip"=true)(hB:b9 sc N scope [y,z]=true)(hs:zh i=true)(hs':zh j=true)(ra:zg a=false)(ha:aF C sc N a (.e i))(rb:zg b=false)(hb:aF C sc N b (.e j))(re:zg elt=false)(he:aF C (xr scope sc) (yF N [y,z]) elt (.e x)):
   aF C sc N (.compP .zip elt a b (.lit (.bl true))) (.e (.ListComp x [⟨.Tuple [.Name y p,.Name z q] kt pt,.Call (.Name "zip" q') [i,j] [] q2,[],0⟩] scope p')):=by
 constructor;intro cl d;have iha:=ha.h cl d;have ihb:=hb.h cl d;have ihe:=he.h cl d;intro X hC es eN;subst es;subst eN;have B:=yu hB;have hI:PI X (.Tuple [.Name y p,.Name z q] kt pt) (.Call (.Name "zip" q') [i,j] [] q2) _:=qf (xN hg) (hC.blt _ (by simp[zp])) (zP ((iha X hC rfl rfl).pe ra) (zP ((ihb X hC rfl rfl).pe rb) yT (zf hs')) (zf hs)) (by rw[zf hs,zf hs'];rfl) (zf hs');have body:∀Xc,bJ X scope [y,z] Xc->PE Xc x (aI X.K (af cl elt)):=λXc c=>by
  have q:=(ihe Xc (hC.comp c) c.sc c.N).pe re;rw[c.K]at q;exact q
 refine bW.of (PE.imp (kB B hC.calm (gL hC.calm B) hI (λXc c=>⟨vk,body Xc c⟩) (λ_=>rfl)) λσ H Q q=>jk (λσ H Q q=>?_) q);obtain⟨as,env,m,S,G,P⟩:=q;obtain⟨b,e,q⟩:=ai.ok (m:=m) P S (ak.mpr rfl);cases e;exact q
def aF.«compT0»{C:Ctx}{sc scope:IN}{N:List Str}{elt a:Ex}{x i:Expr}{y z:Str}{p p' q pt:Pos}{kt:Nat}(hs:yi i=true)(hB:b9 sc N scope [y,z]=true)(ha:aF C sc N a (.e i))(re:zg elt=false)(he:aF C (xr scope sc) (yF N [y,z]) elt (.e x)):
   aF C sc N (.compP .prs elt a (.lit (.int 0)) (.lit (.bl true))) (.e (.ListComp x [⟨.Tuple [.Name y p,.Name z q] kt pt,i,[],0⟩] scope p')):=by
 constructor;intro cl d;have iha:=ha.h cl d;have ihe:=he.h cl d;intro X hC es eN;subst es;subst eN;have B:=yu hB;have hI:=(iha X hC rfl rfl).2 (.Tuple [.Name y p,.Name z q] kt pt);have hset:∀v,Jt i X.env v=pure v:=yw hs;have body:∀Xc,bJ X scope [y,z] Xc->PE Xc x (aI X.K (af cl elt)):=λXc c=>by
  have q:=(ihe Xc (hC.comp c) c.sc c.N).pe re;rw[c.K]at q;exact q
 refine bW.of (PE.imp (kB B hC.calm (gL hC.calm B) hI (λXc c=>⟨vk,body Xc c⟩) hset) λσ H Q q=>F5 (λσ H Q q=>?_) q);obtain⟨as,env,m,S,G,P⟩:=q;obtain⟨b,e,q⟩:=ai.ok (m:=m) P S (ak.mpr rfl);cases e;exact q
end
def AQ:swappedStores [.Subscript o i p1] v env=pure none:=rfl
def D1 (h:∀x p,tg≠.Name x p):swapsWithSole [tg] v line env=pure false:=by
 cases v<;>first|rfl|(cases tg<;>first|rfl|exact Lr rfl (h _ _))
noncomputable def jo:Expr->Bool
 |.ListComp _ _ _ _=>true
 |.SetComp _ _ _ _=>true
 |.DictComp _ _ _ _ _=>true
 |_=>false
def oO (h:jo v=false):Jf v t line env=pure false:=by
 cases v<;>first|rfl|cases h
def ay(K:Qb)(as:List Addr)(H:Hp)(D:ci)(r:Rs):Prop:=match r with
 |.next e m'=>∀as' H' σ',Step as H as' H'->aL K as' m' H'->aD K as' H' e σ'->D.nx σ' H'
 |.brk e m'=>∀as' H' σ',Step as H as' H'->aL K as' m' H'->aD K as' H' e σ'->D.bk σ' H'
 |.cont e m'=>∀as' H' σ',Step as H as' H'->aL K as' m' H'->aD K as' H' e σ'->D.ct σ' H'
 |.ret w m'=>∀as' H' v,Step as H as' H'->aL K as' m' H'->ag K as' H' w v->D.rt v H'
 |_=>False
def yL(K:Qb)(g:En->Me->Rs):TS:=λD σ H=>∃as env m,aL K as m H/\aD K as H env σ/\ay K as H D (g env m)
section
variable{K:Qb}{as as':List Addr}{H H':Hp}{m:Me}{D:ci}
set_option tactic.hygienic true in
def ay.step{r:Rs}(h:ay K as H D r)(T:Step as H as' H'):ay K as' H' D r:=by
 cases r with
 |next e m'=>exact λas2 H2 σ' U S G=>h as2 H2 σ' (T.trans U) S G
 |brk e m'=>exact λas2 H2 σ' U S G=>h as2 H2 σ' (T.trans U) S G
 |cont e m'=>exact λas2 H2 σ' U S G=>h as2 H2 σ' (T.trans U) S G
 |ret w m'=>exact λas2 H2 v U S R=>h as2 H2 v (T.trans U) S R
 |exc c w e m'=>exact h
 |no=>exact h
def ay.bind (h:ay K as H D (r.bindS env f))(k:∀w m' as' H' v,Step as H as' H'->aL K as' m' H'->ag K as' H' w v->ay K as' H' D (f w m')->Q1 v H'):ai K as H Q1 r:=by
 cases r with
 |ok w m'=>exact λas2 H2 v U S R=>k w m' as2 H2 v U S R (ay.step (r:=f w m') h U)
 |exc c w m'=>exact h
 |no=>exact h
def ay.bindI (h:ay K as H D (r.bindS env f))(k:∀w m',ay K as H D (f w m')->(yG m' w).isSome=true/\∀as' H' J,Step as H as' H'->aL K as' m' H'->nI K as' H' w J->R1 J H'):bU K as H R1 r:=by
 cases r with
 |ok w m'=>exact k w m' h
 |exc c w m'=>exact h
 |no=>exact h
theorem ay.next (h:ay K as H D (.next env m))(S:aL K as m H)(G:aD K as H env σ):D.nx σ H:=h as H σ .refl S G
end
section
variable{cl:Nat->List Wd->Me->Rz}{X:Cx}{e o i:Ex}{x y z:Expr}{pos:Pos}
def D0:cC X [] (yL X.K (bB cl .skip)):=cC.imp Dt λD σ H h=>by
 obtain⟨as,env,m,S,G,P⟩:=h;exact ay.next (m:=m) P S G
set_option tactic.hygienic true in
def AO {st:Stmt}(ha:PS X st (yL X.K (bB cl a)))(hb:cC X sts (yL X.K (bB cl b))):cC X (st::sts) (yL X.K (bB cl (.seq a b))):=
 cC.imp (EV ha hb) λD σ H h=>by
  obtain⟨as,env,m,S,G,P⟩:=h;refine⟨as,env,m,S,G,?_⟩;have P':ay X.K as H D (match bB cl a env m with |.next e1 m1=>bB cl b e1 m1|r=>r):=P;cases hr:bB cl a env m with
  |next e1 m1=>
   rw[hr]at P';exact λas' H' σ' T S' G'=>⟨as',e1,m1,S',G',ay.step P' T⟩
  |brk e1 m1=>rw[hr]at P';exact P'
  |cont e1 m1=>rw[hr]at P';exact P'
  |ret w m1=>rw[hr]at P';exact P'
  |exc c w e1 m1=>rw[hr]at P';exact P'
  |no=>rw[hr]at P';exact P'
def jp {K:Qb}{i:Nat}(h:yL K (bB cl (.asg i e)) D σ H):iD (aI K (af cl e)) (xl i) D σ H:=by
 obtain⟨as,env,m,S,G,P⟩:=h;refine⟨as,env,m,S,G,ay.bind P λw m1 as1 H1 v T1 S1 R1 P1=>?_⟩;exact ay.next (m:=m1) P1 S1 ((G.mono S T1).set R1 i)
def AN(he:PE X x (aI X.K (af cl e))):PS X (.Return (some x) pos) (yL X.K (bB cl (.ret e))):=PS.imp (BF he) λD σ H h=>by
 obtain⟨as,env,m,S,G,P⟩:=h;refine⟨as,env,m,S,G,ay.bind P λw m1 as1 H1 v T1 S1 R1 P1=>?_⟩;exact P1 as1 H1 v .refl S1 R1
def DZ(he:PE X x (aI X.K (af cl e)))(hc:jo x=false):PS X (.Expr x pos) (yL X.K (bB cl (.expr e))):=PS.imp (Dr he (oO hc)) λD σ H h=>by
 obtain⟨as,env,m,S,G,P⟩:=h;refine⟨as,env,m,S,G,ay.bind P λw m1 as1 H1 v T1 S1 R1 P1=>?_⟩;exact ay.next (m:=m1) P1 S1 (G.mono S T1)
def Ej{st:Stmt}:PS X st (yL X.K (bB cl .never)):=PS.imp EU λD σ H h=>by
 obtain⟨as,env,m,S,G,P⟩:=h;exact P
def AD (hc:PT X x (xy X.K (af cl e)))(ha:cC X xs (yL X.K (bB cl a)))(hb:cC X ys (yL X.K (bB cl b))):PS X (.If x xs ys pos) (yL X.K (bB cl (.ite e a b))):=
 PS.imp (Ai hc ha hb) λD σ H h=>by
  obtain⟨as,env,m,S,G,P⟩:=h;refine⟨as,env,m,S,G,ay.bind P λw m1 as1 H1 v T1 S1 R1 P1=>?_⟩;cases w with
  |bl k=>
   obtain rfl:=ak.mp R1;refine⟨k,rfl,?_⟩;cases k with
   |true=>exact fB ⟨as1,env,m1,S1,G.mono S T1,P1⟩
   |false=>exact fC ⟨as1,env,m1,S1,G.mono S T1,P1⟩
  |_=>exact P1.elim
def Fw {K:Qb}{o i:Wd}(S:aL K as m H)(Ro:ag K as H o vo)(Ri:ag K as H i vi)(Rw:ag K as H w v)(h:ay K as H D ((vp o i w m).bindS env f))(k:∀m' H',Step as H as H'->aL K as m' H'->ay K as H' D (f .non m')->Q H'):ou K vo vi v H Q:=by
 unfold vp at h;cases o with
 |ref l=>
  obtain⟨a,ha,rfl⟩:=aG.mp Ro;dsimp only at h;cases e:m[l]? with
  |none=>rw[e]at h;exact h.elim
  |some ob=>
   cases ob with
   |lst ys=>rw[e]at h;exact h.elim
   |dct ks ws=>
    rw[e]at h;dsimp only at h;obtain⟨a',xs,vs,ha',td,ek,r,rv,nd⟩:=kS S e;rw[ha]at ha';cases ha';cases eq:ky i with
    |none=>rw[eq]at h;exact h.elim
    |some q=>
     rw[eq]at h;dsimp only at h;obtain⟨b,rfl,qb⟩:=vE eq Ri;by_cases hl:ks.length<aq
     .rw[Lp hl]at h;refine⟨a,b,q,xs,rfl,rfl,qb,td,?_,λu ru=>?_⟩
      .rw[<-ek,Qp]at hl;exact Vt hl
      .obtain ⟨T,S'⟩:=S.setD ha e td ek r rv nd qb Rw ru;exact k _ _ T S' (ay.step (r:=f .non _) h T)
     .rw[Lq hl]at h;exact h.elim
 |_=>exact h.elim
def F1 {o i:Expr}(hs:yQ i=true):∀v,assign (.Subscript o i p) env v=(do
   let ov <-holding [v] (eval o env)
   let iv <-holding [v,ov] (eval i env)
   standAt p
   holding [v,ov,iv] (Jh ov iv v)
   release [v,ov,iv] []):=λv=>by
 cases i<;>first|rfl|cases hs
def DY (hu:X.A.units+64<JA)(ho:PE X x (aI X.K (af cl (.var j))))(hi:PE X y (aI X.K (af cl i)))(he:PE X z (aI X.K (af cl e)))(hs:yQ y=true):PS X (.Assign [.Subscript x y p1] z pos) (yL X.K (bB cl (.dput j i e))):=
 PS.imp (BC he (BD ho hi (AB hu) (F1 hs)) (D1 (by intros;intro q;cases q)) AQ) λD σ H h=>by
  obtain⟨as,env,m,S,G,P⟩:=h;refine⟨as,env,m,S,G,ay.bind P λw m1 as1 H1 v T1 S1 R1 P1=>?_⟩;refine⟨as1,env,m1,S1,G.mono S T1,ay.bind P1 λwo m2 as2 H2 vo T2 S2 R2 P2=>?_⟩;refine⟨as2,env,m2,S2,(G.mono S T1).mono S1 T2,ay.bind P2 λwi m3 as3 H3 vi T3 S3 R3 P3=>?_⟩;refine Fw S3 (R2.mono S2 T3) R3 ((R1.mono S1 T2).mono S2 T3) P3 λm4 H4 T4 S4 P4=>?_;exact ay.next (m:=m4) P4 S4 ((((G.mono S T1).mono S1 T2).mono S2 T3).mono S3 T4)
end
section
variable{cl:Nat->List Wd->Me->Rz}{X:Cx}{e i j:Ex}{x y z u v:Expr}{pos:Pos}
def fN:Bo->Bool
 |.add=>true
 |.sub=>true
 |.mulB=>true
 |_=>false
noncomputable def nV:Bo->Int->Int->Int
 |.sub=>λi j=>i-j
 |.mulB=>λi j=>i*j
 |_=>λi j=>i+j
def nU:Bo->Int->Int->Prop
 |.mulB=>cG
 |_=>λ_ _=>True
def ny(op:Bo):iq:=λx y H Q=>∃i j,x=.int i/\y=.int j/\nU op i j/\Q (.int (nV op i j)) H
def uW (h:fN op=true):iY X (fF op) (ny op):=by
 intro pins s σ H x y v u Q I r1 r2 q;obtain⟨i,j,e1,e2,c,q⟩:=q;cases op with
 |add=>exact BA pins s σ H x y v u Q I r1 r2 ⟨i,j,e1,e2,q⟩
 |sub=>exact Cg pins s σ H x y v u Q I r1 r2 ⟨i,j,e1,e2,q⟩
 |mulB=>exact Fj pins s σ H x y v u Q I r1 r2 ⟨i,j,e1,e2,c,q⟩
 |_=>cases h
def CW (h:fN op=true){i j:Int}:(nU op i j/\cQ op (.int i) (.int j) m=.ok (.int (nV op i j)) m)\/cQ op (.int i) (.int j) m=.no:=by
 cases op with
 |add=>exact .inl ⟨trivial,rfl⟩
 |sub=>exact .inl ⟨trivial,rfl⟩
 |mulB=>
  show(cG i j/\(if i.natAbs.log2<100000/\j.natAbs.log2<100000 then Rz.ok (.int (i*j)) m else .no)=_)\/(if i.natAbs.log2<100000/\j.natAbs.log2<100000 then Rz.ok (.int (i*j)) m else .no)=_;by_cases c:i.natAbs.log2<100000/\j.natAbs.log2<100000
  .rw[Lp c];exact .inl ⟨c,rfl⟩
  .rw[Lq c];exact .inr rfl
 |_=>cases h
def CV {K:Qb}(hop:fN op=true)(Rx:ag K as H wx vx)(Ry:ag K as H wy vy)(h:ay K as H D (fU op wx wy m env f))(k:∀z,ay K as H D (f (.int z) m)->Q (.int z) H):ny op vx vy H Q:=by
 cases wx with
 |int i=>
  cases wy with
  |int j=>
   have h':ay K as H D ((cQ op (.int i) (.int j) m).bindS env f):=h;rcases CW hop (i:=i) (j:=j) (m:=m)with⟨c,e⟩|e
   .rw[e]at h';exact⟨i,j,ab.mp Rx,ab.mp Ry,c,k _ h'⟩
   .rw[e]at h';exact h'.elim
  |_=>exact h.elim
 |_=>exact h.elim
set_option tactic.hygienic true in
def AM (hop:fN op=true)(hN:X.N.Nodup)(hi:X.N[n]?=some nm)(hx:Loc X.env.scope nm)(hf:X.fn nm=true\/X.env.scope.names.lookup nm=some .local)(he:PE X x (aI X.K (af cl e))):
  PS X (.AugAssign (.Name nm p1) (fF op) x pos) (yL X.K (bB cl (.aug n op e))):=PS.imp (BB hN hi hx he (uW hop) hf) λD σ H h=>by
 obtain⟨as,env,m,S,G,P⟩:=h;have P':ay X.K as H D (match env[n]? with
  |some (some x)=>(af cl e env m).bindS env λy m1=>fU op x y m1 env λz m2=>.next (env.set n (some z)) m2
  |_=>.no):=P
 split at P'
 .rename_i wx hw;obtain⟨vx,hv,Rx⟩:=G.get n wx hw;refine⟨vx,hv,as,env,m,S,G,ay.bind P' λwy m1 as1 H1 vy T1 S1 R1 P1=>?_⟩;refine CV hop (Rx.mono S T1) R1 P1 λz P2=>?_;exact ay.next (m:=m1) P2 S1 ((G.mono S T1).set (ab.mpr rfl) n)
 .exact P'.elim
end
section
variable{cl:Nat->List Wd->Me->Rz}{K:Qb}
structure cX(K:Qb)(g:TG)(st:Wd->En->Option En):Prop where
 ok:∀{as:List Addr}{H:Hp}{m:Me}{env env':En}{σ:St}{w:Wd}{v:V}{Q:L2.St->Hp->Prop},aL K as m H->aD K as H env σ->ag K as H w v->st w env=some env'->(∀σ',aD K as H env' σ'->Q σ' H)->g v σ H Q
def sd(i:Nat):cX K (xl i) (λw env=>some (env.set i (some w))):=
 ⟨λS G R e k=>by cases e;exact k _ (G.set R i)⟩
set_option tactic.hygienic true in
def jq(i j:Nat):cX K (fS K 2 (vh (xl i) (vh (xl j) fT))) (cw i j):=by
 refine⟨λ{as H m env env' σ w v Q} S G R e k=>?_⟩;unfold cw at e;split at e
 .rename_i a b;cases e;obtain⟨p,vs,rfl,hq,rr⟩:=ah.mp R;obtain⟨va,vb,rfl,ra,rb⟩:=pG rr;exact⟨p,[va,vb],rfl,hq,rfl,va,[vb],rfl,vb,[],rfl,rfl,k _ ((G.set ra i).set rb j)⟩
 .cases e
set_option tactic.hygienic true in
def vF{g:TG}{st:Wd->En->Option En}{b:En->Me->Rs}(hg:cX K g st){D:ci}{as1 as':List Addr}{H1 H':Hp}{m':Me}{env':En}{σ':St}{x:Wd}{v:V}{next:En->Me->Rs}{N:L2.St->Hp->Prop}(T:Step as1 H1 as' H')(S':aL K as' m' H')(G':aD K as' H' env' σ')(Rx:ag K as' H' x v)
  (Pt:ay K as1 H1 D (match zI st b x env' m' with
    |.next e1 m1=>next e1 m1
    |.cont e1 m1=>next e1 m1
    |.brk e1 m1=>.next e1 m1
    |r=>r))
  (hN:∀as2 m2 e2 σ2 H2,Step as' H' as2 H2->aL K as2 m2 H2->aD K as2 H2 e2 σ2->ay K as1 H1 D (next e2 m2)->N σ2 H2) :
  g v σ' H' λσ2 H2=>yL K b {D with nx:=N,ct:=N,bk:=D.nx} σ2 H2:=by
 unfold zI at Pt;cases hs:st x env' with
 |none=>rw[hs]at Pt;exact Pt.elim
 |some e2=>
  rw[hs]at Pt;simp only[]at Pt;refine hg.ok S' G' Rx hs λσ2 G2=>⟨as',e2,m',S',G2,?_⟩;cases hr:b e2 m' with
  |next e3 m3=>rw[hr]at Pt;exact λas3 H3 σ3 U S3 G3=>hN as3 m3 e3 σ3 H3 U S3 G3 Pt
  |cont e3 m3=>rw[hr]at Pt;exact λas3 H3 σ3 U S3 G3=>hN as3 m3 e3 σ3 H3 U S3 G3 Pt
  |brk e3 m3=>rw[hr]at Pt;exact λas3 H3 σ3 U S3 G3=>Pt as3 H3 σ3 (T.trans U) S3 G3
  |ret w' m3=>rw[hr]at Pt;exact λas3 H3 v3 U S3 R3=>Pt as3 H3 v3 (T.trans U) S3 R3
  |exc c w' e3 m3=>rw[hr]at Pt;exact Pt.elim
  |no=>rw[hr]at Pt;exact Pt.elim
def r9 {st:Wd->En->Option En}(hg:cX K g st)(h:yL K (λenv m=>(it env m).bindS env λw m1=>fx (zI st b) w env m1) D σ H):fR (fh K it) g (yL K b) D σ H:=by
 obtain⟨as,env,m,S,G,P⟩:=h;refine⟨as,env,m,S,G,ay.bindI P λw m1 P1=>?_⟩;have seqs:∀(xs:List Wd),ay K as H D (wR (zI st b) xs env m1)->∀as1 H1 J,Step as H as1 H1->aL K as1 m1 H1->iG K as1 H1 J xs ->
   ∃W:Nat->Nat->L2.St->Hp->Prop,(∃m,W 0 m σ H1)/\∀i m σ H,W i m σ H ->
    (J.stop i H/\D.nx σ H)\/(J.go i H/\∃N:L2.St->Hp->Prop,(∀σ' H',N σ' H'->∃m',m'<m/\W (i+1) m' σ' H')/\∀x H',J.yld i H x H'->g x σ H' λσ2 H2=>yL K b {D with nx:=N,ct:=N,bk:=D.nx} σ2 H2):=by
  intro xs Pc as1 H1 J T1 S1 hI;obtain⟨vs,ok,hJ,ok1,RL,stab⟩:=hI;have hlen:=RL.length;have Pc1:=ay.step Pc T1;refine⟨λi n σ' H'=>∃as' m' env',i<=xs.length/\n=xs.length-i/\Step as1 H1 as' H'/\aL K as' m' H'/\aD K as' H' env' σ'/\ok H'/\aa K as' H' xs vs/\ay K as1 H1 D (wR (zI st b) (xs.drop i) env' m'),
   ⟨xs.length,as1,m1,env,WA _,rfl,.refl,S1,G.mono S T1,ok1,RL,Pc1⟩,?_⟩
  rintro i n σ' H' ⟨as',m',env',hi,rfl,T',S',G',okH,RL',Pi⟩;by_cases hlt:i<xs.length
  .refine .inr ⟨hJ.go i H' okH (by rw[<-hlen];exact hlt),λσ2 H2=>∃as2 m2 env2,i+1<=xs.length/\Step as1 H1 as2 H2/\aL K as2 m2 H2/\aD K as2 H2 env2 σ2/\ok H2/\aa K as2 H2 xs vs/\ay K as1 H1 D (wR (zI st b) (xs.drop (i+1)) env2 m2),?_,λv H'' hy=>?_⟩
   .rintro σ2 H2 ⟨as2,m2,env2,q⟩;exact⟨xs.length-(i+1),by lia,as2,m2,env2,q.1,rfl,q.2⟩
   .obtain ⟨rfl,hv⟩:=hJ.yld i H' v H'' okH (by rw[<-hlen];exact hlt) hy;obtain⟨v',hv',Rx⟩:=RL'.get (i:=i) (x:=xs[i]) (by simp[hlt]);rw[hv]at hv';cases hv';rw[QP hlt]at Pi;refine vF hg (next:=λe m=>wR (zI st b) (xs.drop (i+1)) e m) T' S' G' Rx Pi ?_;intro as2 m2 e2 σ2 H2 U S2 G2 P2;exact⟨as2,m2,e2,hlt,T'.trans U,S2,G2,stab _ _ (S'.kp U) okH,RL'.mono S' U,P2⟩
  .have e:i=xs.length:=by lia
   subst e;rw[W4]at Pi;exact .inl ⟨hJ.stop _ H' okH (by lia),Pi as' H' σ' T' S' G'⟩
 cases w with
 |tup xs=>exact⟨rfl,λas1 H1 J T1 S1 hI=>seqs xs P1 as1 H1 J T1 S1 hI⟩
 |rol xs=>exact⟨rfl,λas1 H1 J T1 S1 hI=>seqs xs P1 as1 H1 J T1 S1 hI⟩
 |ref l=>
  have P2:ay K as H D (x8 (zI st b) l (aq+1) 0 env m1):=P1;refine⟨?_,λas1 H1 J T1 S1 hI=>?_⟩
  .show (zn m1 l).isSome=true;cases e:zn m1 l with
   |some xs=>rfl
   |none=>
    unfold x8 at P2;rw[e]at P2;exact P2.elim
  .obtain ⟨a,ha,rfl⟩:=hI;have Pc1:=ay.step P2 T1;refine⟨λi n σ' H'=>∃as' m' env',as'[l]?=some a/\Step as1 H1 as' H'/\aL K as' m' H'/\aD K as' H' env' σ'/\ay K as1 H1 D (x8 (zI st b) l n i env' m'),⟨aq+1,as1,m1,env,ha,.refl,S1,G.mono S T1,Pc1⟩,?_⟩;rintro i n σ' H' ⟨as',m',env',hl,T',S',G',Pi⟩;cases n with
   |zero=>exact Pi.elim
   |succ n=>
    unfold x8 at Pi;cases e:zn m' l with
    |none=>rw[e]at Pi;exact Pi.elim
    |some xs=>
     rw[e]at Pi;simp only[]at Pi;obtain⟨a',vs,ha',eH,RL⟩:=zW S' (zM e);rw[hl]at ha';cases ha';cases ex:xs[i]? with
     |none=>
      rw[ex]at Pi;have hle:vs.length<=i:=by rw[<-RL.length];exact Wf.mp ex
      exact .inl ⟨⟨vs,bD.of eH,hle⟩,Pi as' H' σ' T' S' G'⟩
     |some x=>
      rw[ex]at Pi;obtain⟨v0,hv0,Rx⟩:=RL.get ex;refine .inr ⟨⟨vs,v0,bD.of eH,hv0⟩,λσ2 H2=>∃as2 m2 env2,as2[l]?=some a/\Step as1 H1 as2 H2/\aL K as2 m2 H2/\aD K as2 H2 env2 σ2/\ay K as1 H1 D (x8 (zI st b) l n (i+1) env2 m2),?_,λv H'' hy=>?_⟩
      .rintro σ2 H2 q;exact⟨n,WE _,q⟩
      .obtain ⟨rfl,hy⟩:=hy;have:=hy vs (bD.of eH);rw[hv0]at this;cases this;refine vF hg (next:=λe m=>x8 (zI st b) l n (i+1) e m) T' S' G' Rx Pi ?_;intro as2 m2 e2 σ2 H2 U S2 G2 P2;exact⟨as2,m2,e2,U.get hl,T'.trans U,S2,G2,P2⟩
 |non=>exact P1.elim
 |bl k=>exact P1.elim
 |int i=>exact P1.elim
 |str s=>exact P1.elim
def gc (hg:cX K g (cw i j))(hJ:qg K as1 H1 J gz)(S1:aL K as1 m1 H1)(G1:aD K as1 H1 env σ)(P:ay K as1 H1 D (yH (zI (cw i j) b) gz (aq+1) 0 env m1)):
  ∃W:Nat->Nat->L2.St->Hp->Prop,(∃m,W 0 m σ H1)/\∀i m σ H,W i m σ H ->
   (J.stop i H/\D.nx σ H)\/(J.go i H/\∃N:L2.St->Hp->Prop,(∀σ' H',N σ' H'->∃m',m'<m/\W (i+1) m' σ' H')/\∀x H',J.yld i H x H'->g x σ H' λσ2 H2=>yL K b {D with nx:=N,ct:=N,bk:=D.nx} σ2 H2):=by
 refine⟨λi0 n σ' H'=>∃as' m' env',(∀(l:Nat) (a:Addr),as1[l]?=some a->as'[l]?=some a)/\Step as1 H1 as' H'/\aL K as' m' H'/\aD K as' H' env' σ'/\ay K as1 H1 D (yH (zI (cw i j) b) gz n i0 env' m'),⟨aq+1,as1,m1,env,λ_ _ e=>e,.refl,S1,G1,P⟩,?_⟩;rintro i0 n σ' H' ⟨as',m',env',hl,T',S',G',Pi⟩;cases n with
 |zero=>exact Pi.elim
 |succ n=>
  unfold yH at Pi;obtain⟨q1,q2⟩:=hJ as' m' H' hl T' S' i0;cases e:gz i0 m' with
  |none=>rw[e]at Pi;exact Pi.elim
  |some o=>
   rw[e]at Pi;cases o with
   |none=>exact .inl ⟨q1 e,Pi as' H' σ' T' S' G'⟩
   |some p=>
    obtain⟨x,y⟩:=p;simp only[]at Pi;obtain⟨go,yl⟩:=q2 x y e;refine .inr ⟨go,λσ2 H2=>∃as2 m2 env2,(∀(l:Nat) (a:Addr),as1[l]?=some a->as2[l]?=some a)/\Step as1 H1 as2 H2/\aL K as2 m2 H2/\aD K as2 H2 env2 σ2/\ay K as1 H1 D (yH (zI (cw i j) b) gz n (i0+1) env2 m2),?_,λv H'' hy=>?_⟩
    .rintro σ2 H2 q;exact⟨n,WE _,q⟩
    .obtain ⟨x',y',⟨T,hT,rfl,rfl⟩,Rx,Ry⟩:=yl v H'' hy;have U:Step as' H' as' (aH H' T (.tup [x',y'])):=Step.updD .refl hT;have S2:aL K as' m' (aH H' T (.tup [x',y'])):=S'.keep U λb _ o e=>by rw[zd (zo e hT)];exact e
     have Rp:ag K as' (aH H' T (.tup [x',y'])) (.tup [x,y]) (.ref T):=ah.mpr ⟨T,[x',y'],rfl,bM.of ze,(aa.one (Rx.mono S' U)).append (.one (Ry.mono S' U))⟩;refine vF hg (next:=λe m=>yH (zI (cw i j) b) gz n (i0+1) e m) (T'.trans U) S2 (G'.mono S' U) Rp Pi ?_;intro as2 m2 e2 σ2 H2 U2 S3 G3 P2;exact⟨as2,m2,e2,λl a q=>U2.get (hl l a q),(T'.trans U).trans U2,S3,G3,P2⟩
def w9 (h:g i m=none):yH b g (k+1) i env m=.no:=by
 unfold yH;rw[h]
def Fv (h:yL K (bB cl (.forZ i j a b body)) D σ H):
  fR (lJ K (qG (aI K (af cl a)) (qG (aI K (af cl b)) lu))) (fS K 2 (vh (xl i) (vh (xl j) fT))) (yL K (bB cl body)) D σ H:=by
 obtain⟨as,env,m,S,G,P⟩:=h;refine⟨as,env,m,S,G,ay.bind P λw m1 as1 H1 v T1 S1 R1 P1=>?_⟩;refine⟨as1,env,m1,S1,G.mono S T1,ay.bind P1 λw2 m2 as2 H2 v2 T2 S2 R2 P2=>?_⟩;have G2:=(G.mono S T1).mono S1 T2;have look:∃xs ys,wX m2 w=some xs/\wX m2 w2=some ys:=by
  cases e:zL .zip w w2 0 m2 with
  |none=>rw[w9 e]at P2;exact P2.elim
  |some o=>exact jj e
 obtain⟨xs,ys,e1,e2⟩:=look;obtain⟨b1,l1,us,rfl,s1,q1⟩:=cL.of S2 (R1.mono S1 T2) e1;obtain⟨b2,l2,vs,rfl,s2,q2⟩:=cL.of S2 R2 e2;exact⟨b1,b2,l1,l2,us,vs,rfl,q1,q2,gc (jq i j) (ji S2 s1 s2) S2 G2 P2⟩
end
section
variable{K:Qb}{cl:Nat->List Wd->Me->Rz}
def r6 (e:m[l]?=some (.dct ks ws)):y8 m l=ks.length:=by
 unfold y8;rw[e]
def rS {xs:List TK}{i:Nat}(h:xs[i]?=some k):(xs.map (·.1))[i]?=some k.1:=by rw[Qs,h];rfl
def FZ (hK:X.K=K)(h:yL K (bB cl (.forD i x body)) D σ H):
  fR (tS X (aI K (af cl (.var x)))) (xl i) (yL K (bB cl body)) D σ H:=by
 subst hK;obtain⟨as,env,m,S,G,P⟩:=h;refine⟨as,env,m,S,G,ay.bind P λw m1 as1 H1 v T1 S1 R1 P1=>?_⟩;cases w with
 |ref l=>
  have P2:ay X.K as1 H1 D (xo (zI (λw env=>some (env.set i (some w))) (bB cl body)) l (y8 m1 l) (aq+1) 0 env m1):=P1;cases e:m1[l]? with
  |none=>unfold xo at P2;rw[e]at P2;exact P2.elim
  |some o=>
   cases o with
   |lst ys=>unfold xo at P2;rw[e]at P2;exact P2.elim
   |dct ks ws=>
    obtain⟨a,xs,vs,rfl,ha,td,ek,_,_⟩:=xY S1 e R1;have hn:y8 m1 l=xs.length:=by rw[r6 e,<-ek,Qp]
    rw[hn]at P2;refine⟨a,xs,rfl,td,λi0 n σ' H'=>∃as' m' env',as'[l]?=some a/\Step as1 H1 as' H'/\aL X.K as' m' H'/\aD X.K as' H' env' σ'/\ay X.K as1 H1 D (xo (zI (λw env=>some (env.set i (some w))) (bB cl body)) l xs.length n i0 env' m'),⟨aq+1,as1,m1,env,ha,.refl,S1,G.mono S T1,P2⟩,?_⟩;rintro i0 n σ' H' ⟨as',m',env',hl,T',S',G',Pi⟩;cases n with
    |zero=>exact Pi.elim
    |succ n=>
     unfold xo at Pi;cases e':m'[l]? with
     |none=>rw[e']at Pi;exact Pi.elim
     |some o=>
      cases o with
      |lst ys=>rw[e']at Pi;exact Pi.elim
      |dct ks' ws'=>
       rw[e']at Pi;dsimp only at Pi;obtain⟨a',xs',vs',ha',td',ek',r',rv',_⟩:=kS S' e';rw[hl]at ha';cases ha';have lk:ks'.length=xs'.length:=by rw[<-ek',Qp]
       by_cases hc:ks'.length=xs.length
       .rw[Lp hc]at Pi;cases ex:ks'[i0]? with
        |none=>
         rw[ex]at Pi;have:=Wf.mp ex;exact .inl ⟨⟨xs',td',by lia,by lia⟩,Pi as' H' σ' T' S' G'⟩
        |some q=>
         rw[ex]at Pi;have hi:i0<ks'.length:=(Qa.mp ex).1;refine .inr ⟨⟨xs',td',by lia,by lia⟩,λσ2 H2=>∃as2 m2 env2,as2[l]?=some a/\Step as1 H1 as2 H2/\aL X.K as2 m2 H2/\aD X.K as2 H2 env2 σ2/\ay X.K as1 H1 D (xo (zI (λw env=>some (env.set i (some w))) (bB cl body)) l xs.length n (i0+1) env2 m2),?_,λv H'' hy=>?_⟩
         .rintro σ2 H2 q;exact⟨n,WE _,q⟩
         .obtain ⟨rfl,hy⟩:=hy;obtain⟨k,hk,rfl⟩:=hy xs' td';have eq:k.1=q:=by
           have:=rS hk;rw[ek',ex]at this;exact(Option.some.inj this).symm
          have Rk:ag X.K as' H'' (.tup (q.map Wd.int)) (.ref k.2.1):=ah.mpr ⟨k.2.1,q.map V.int,rfl,eq▸td'.2 k (Qr hk),vU q⟩;refine vF (sd i) (next:=λe m=>xo (zI (λw env=>some (env.set i (some w))) (bB cl body)) l xs.length n (i0+1) e m) T' S' G' Rk Pi ?_;intro as2 m2 e2 σ2 H2 U S2 G2 P2;exact⟨as2,m2,e2,U.get hl,T'.trans U,S2,G2,P2⟩
       .rw[Lq hc]at Pi;exact Pi.elim
 |_=>exact P1.elim
def qk (ha:as[l]?=some a):qg K as H (nh K a n) (xp l n):=by
 intro as' m' H' hl T S i;unfold xp;cases e:m'[l]? with
 |none=>exact⟨λz=>by simp at z,λx y z=>by simp at z⟩
 |some o=>
  cases o with
  |lst ys=>exact⟨λz=>by simp at z,λx y z=>by simp at z⟩
  |dct ks ws=>
   obtain⟨a',xs,vs,ha',td,ek,r,rv,_⟩:=kS S e;rw[hl _ _ ha]at ha';cases ha';have lk:ks.length=xs.length:=by rw[<-ek,Qp]
   have lw:ws.length=xs.length:=by have h1:=r.length;have h2:=rv.length;simp at h2;lia
   dsimp only;by_cases hc:ks.length=n
   .rw[Lp hc];have rel:∀x∈xs,∃v,RelV v x.2.2:=λx hx=>by
     obtain⟨j,hj,rfl⟩:=W6.mp hx;obtain⟨v,_,hv⟩:=rv.at (i:=j) (u:=xs[j].2.2) (by rw[Qs,Qm hj];rfl);exact⟨v,hv⟩
    by_cases hi:i<n
    .have h1:ks[i]?=some (ks[i]'(by lia)):=Qm (by lia);have h2:ws[i]?=some (ws[i]'(by lia)):=Qm (by lia);rw[h1,h2];refine⟨λz=>by simp at z,λx2 y2 z=>?_⟩;simp only[Option.some.injEq,Prod.mk.injEq]at z;obtain⟨rfl,rfl⟩:=z;refine⟨⟨xs,td,by lia,hi,rel⟩,λv H'' hy=>?_⟩;obtain⟨a2,v2,yp,hy⟩:=hy;obtain⟨k,hk,rfl,rvk⟩:=hy xs td;have eq:k.1=ks[i]'(by lia):=by
      have:=rS hk;rw[ek,h1]at this;exact(Option.some.inj this).symm
     obtain⟨v0,hv0,Rv⟩:=r.get h2;obtain⟨u,hu,ru⟩:=rv.get hv0;rw[Qs,hk]at hu;cases hu;have:v0=v2:=ru.inj rvk;subst this;refine⟨_,_,yp,ah.mpr ⟨k.2.1,(ks[i]'(by lia)).map V.int,rfl,?_,vU _⟩,Rv⟩;rw[<-eq];exact td.2 k (Qr hk)
    .have h1:ks[i]?=none:=QE (by lia);rw[h1];exact⟨λ_=>⟨xs,td,by lia,by lia⟩,λx y z=>by simp at z⟩
   .rw[Lq hc];exact⟨λz=>by simp at z,λx y z=>by simp at z⟩
def FY (hK:X.K=K)(h:yL K (bB cl (.forI i j x body)) D σ H):
  fR (tR X (nW X.K (oP X.K) (aI K (af cl (.var x))))) (fS K 2 (vh (xl i) (vh (xl j) fT))) (yL K (bB cl body)) D σ H:=by
 subst hK;obtain⟨as,env,m,S,G,P⟩:=h;refine⟨as,env,m,S,G,ay.bind P λw m1 as1 H1 v T1 S1 R1 P1=>?_⟩;cases w with
 |ref l=>
  have P2:ay X.K as1 H1 D (yH (zI (cw i j) (bB cl body)) (xp l (y8 m1 l)) (aq+1) 0 env m1):=P1;have look:∃ks ws,m1[l]?=some (.dct ks ws):=by
   cases e:m1[l]? with
   |none=>rw[w9 (by unfold xp;rw[e])]at P2;exact P2.elim
   |some o=>
    cases o with
    |lst ys=>rw[w9 (by unfold xp;rw[e])]at P2;exact P2.elim
    |dct ks ws=>exact⟨ks,ws,rfl⟩
  obtain⟨ks,ws,e⟩:=look;obtain⟨a,xs,vs,rfl,ha,td,ek,_,_⟩:=xY S1 e R1;have hn:y8 m1 l=xs.length:=by rw[r6 e,<-ek,Qp]
  rw[hn]at P2;refine⟨⟨a,xs,rfl,td⟩,a,xs,rfl,rfl,td,λq hq=>?_⟩;have U:Step as1 H1 as1 (aH H1 q (fY q a)):=Step.updD .refl hq;have S2:aL X.K as1 m1 (aH H1 q (fY q a)):=S1.keep U λb _ o e=>by rw[zd (zo e hq)];exact e
  obtain⟨a2,xs2,vs2,e2,ha2,td2,ek2,_,_⟩:=xY S2 e (R1.mono S1 U);cases e2;have l2:xs2.length=xs.length:=by
   have:=Ls List.length (ek2.trans ek.symm);simpa using this
  refine⟨a,q,xs2,rfl,ze,td2,?_⟩;rw[l2];exact gc (jq i j) (qk ha2) S2 ((G.mono S T1).mono S1 U) (ay.step P2 U)
 |_=>exact P1.elim
end
set_option genInjectivity false in
inductive Ns where
 |s (st:Stmt)|b (sts:List Stmt)
noncomputable def vc(sc:IN)(x:Str):Bool:=decide (sc.names.lookup x=some .local) || decide (sc.names.lookup x=some .cell)
def nw(cl:Nat->List Wd->Me->Rz)(X:Cx)(s:Sm):Ns->Prop
 |.s st=>PS X st (yL X.K (bB cl s))
 |.b sts=>cC X sts (yL X.K (bB cl s))
structure eo(X:Cx):Prop where
 nd:X.N.Nodup
 fn:∀x,X.fn x=true
 hp:PassesOwn (IY X.prog X.w) X.A X.env X.xe
section
variable{cl:Nat->List Wd->Me->Rz}
def yX (h:vc sc x=true):Loc sc x:=by
 unfold vc at h;simp only[W7,Lx]at h;exact h
def rR (hc:X.calm=true)(hX:eo X)(hi:X.N[i]?=some nm)(hl:Loc X.env.scope nm)(B:bQ X scope xs)(hT:ip X scope xs tg g un)(hI:PI X tg w wi)(body:∀Xc,bJ X scope xs Xc->fJ Xc fs tc/\PE Xc x te)(hset:∀v,Jt w X.env v=pure v)(hbind:∀σ H Q,aI X.K (af cl ce) σ H Q->jY un wi tc te σ H Q)(he:PE X (.ListComp x [⟨tg,w,fs,0⟩] scope pos') (aI X.K (af cl ce))):
  PS X (.Assign [.Name nm p1] (.ListComp x [⟨tg,w,fs,0⟩] scope pos') pos) (yL X.K (bB cl (.asg i ce))):=by
 have hsw:∃b:Bool,Jf (.ListComp x [⟨tg,w,fs,0⟩] scope pos') (some (.Name nm p1)) pos.line X.env=pure b:=⟨_,rfl⟩;obtain⟨b,hb⟩:=hsw;cases b with
 |false=>exact PS.imp (pA hX.nd hi hl he hb (.inl (hX.fn nm))) λD σ H q=>jp q
 |true=>
  refine PS.imp (Gd B hc hT hI body hX.nd hi hl (.inl (hX.fn nm)) hb hset) λD σ H q=>?_;exact hbind _ _ _ (jp q)
structure bO(C:Ctx)(sc:IN)(N:List Str)(s:Sm)(n:Ns):Prop where
 h:∀(cl:Nat → List Wd → Me → Rz) (d:Nat) (X:Cx),bV C X cl d → eo X → X.env.scope=sc → X.N=N → nw cl X s n
def AL (hC:bV C X cl d)(hX:eo X)(h:bO C X.env.scope X.N s n):nw cl X s n:=h.h cl d X hC hX rfl rfl
def bO.«skip0»{C:Ctx}{sc:IN}{N:List Str}:bO C sc N .skip (.b []):=by
 constructor;intro cl d X hC hX es eN;subst es;subst eN;exact D0
def bO.«one»{C:Ctx}{sc:IN}{N:List Str}{s:Sm}{st:Stmt}(h:bO C sc N s (.s st)):bO C sc N s (.b [st]):=by
 constructor;intro cl d X hC hX es eN;subst es;subst eN;have ih:=h.h cl d X hC hX rfl rfl;exact Ds ih
def bO.«seq»{C:Ctx}{sc:IN}{N:List Str}{a b:Sm}{st st':Stmt}{r:List Stmt}(ha:bO C sc N a (.s st))(hb:bO C sc N b (.b (st'::r))):bO C sc N (.seq a b) (.b (st::st'::r)):=by
 constructor;intro cl d X hC hX es eN;subst es;subst eN;have iha:=ha.h cl d X hC hX rfl rfl;have ihb:=hb.h cl d X hC hX rfl rfl;exact AO iha ihb
def bO.«asg»{C:Ctx}{sc:IN}{N:List Str}{i:Nat}{e:Ex}{x:Str}{v:Expr}{p p':Pos}(hc:jo v=false)(h1:N[i]?=some x)(h2:vc sc x=true)(hr:zg e=false)(he:aF C sc N e (.e v)):bO C sc N (.asg i e) (.s (.Assign [.Name x p] v p')):=by
 constructor;intro cl d X hC hX es eN;subst es;subst eN;exact PS.imp (pA hX.nd h1 (yX h2) ((yk he X hC rfl rfl).pe hr) (oO hc) (.inl (hX.fn _))) λD σ H q=>jp q
def bO.«asgC0»{C:Ctx}{sc:IN}{N:List Str}{i:Nat}{elt it:Ex}{x y:Str}{z w:Expr}{scope:IN}{p p' q q':Pos}(h1:N[i]?=some x)(h2:vc sc x=true)(hs:yi w=true)(hB:b9 sc N scope [y]=true)(hi:aF C sc N it (.e w))(re:zg elt=false)(he:aF C (xr scope sc) (yF N [y]) elt (.e z)):
   bO C sc N (.asg i (.comp elt it (.lit (.bl true)))) (.s (.Assign [.Name x p] (.ListComp z [⟨.Name y q,w,[],0⟩] scope q') p')):=by
 constructor;intro cl d X hC hX es eN;subst es;subst eN;have hset:∀v,Jt w X.env v=pure v:=yw hs;refine rR (fs:=[]) (tc:=_) hC.calm hX h1 (yX h2) (yu hB) (gK (yu hB)) ((yk hi X hC rfl rfl).2 _) (te:=aI X.K (af cl elt)) (λXc c=>⟨vk,?_⟩) hset (λσ H Q q=>vX (λσ H Q q=>?_) q) ((yk (aF.comp0 hs hB hi re he) X hC rfl rfl).pe rfl)
 .have q:=(yk he Xc (hC.comp c) c.sc c.N).pe re;rw[c.K]at q;exact q
 .obtain ⟨as,env,m,S,G,P⟩:=q;obtain⟨b,e,q⟩:=ai.ok (m:=m) P S (ak.mpr rfl);cases e;exact q
def bO.«asgCZ0»{C:Ctx}{sc:IN}{N:List Str}{i:Nat}{elt a b:Ex}{x y y':Str}{z w w':Expr}{scope:IN}{p p' q q' q2 q3 q4 pt:Pos}{kt:Nat}(h1:N[i]?=some x)(h2:vc sc x=true)(hg:dq sc "zip"=true)(hB:b9 sc N scope [y,y']=true)(hs:zh w=true)(hs':zh w'=true)(ra:zg a=false)(ha:aF C sc N a (.e w))(rb:zg b=false)(hb:aF C sc N b (.e w'))(re:zg elt=false)(he:aF C (xr scope sc) (yF N [y,y']) elt (.e z)):
   bO C sc N (.asg i (.compP .zip elt a b (.lit (.bl true)))) (.s (.Assign [.Name x p] (.ListComp z [⟨.Tuple [.Name y q,.Name y' q2] kt pt,.Call (.Name "zip" q3) [w,w'] [] q4,[],0⟩] scope q') p')):=by
 constructor;intro cl d X hC hX es eN;subst es;subst eN;refine rR (fs:=[]) (tc:=_) hC.calm hX h1 (yX h2) (yu hB) (gL hC.calm (yu hB)) (qf (xN hg) (hC.blt _ (by simp[zp])) (zP ((yk ha X hC rfl rfl).pe ra) (zP ((yk hb X hC rfl rfl).pe rb) yT (zf hs')) (zf hs)) (by rw[zf hs,zf hs'];rfl) (zf hs')) (te:=aI X.K (af cl elt)) (λXc c=>⟨vk,?_⟩) (λ_=>rfl) (λσ H Q q=>jk (λσ H Q q=>?_) q) ((yk (aF.compZ0 hg hB hs hs' ra ha rb hb re he) X hC rfl rfl).pe rfl)
 .have q:=(yk he Xc (hC.comp c) c.sc c.N).pe re;rw[c.K]at q;exact q
 .obtain ⟨as,env,m,S,G,P⟩:=q;obtain⟨b,e,q⟩:=ai.ok (m:=m) P S (ak.mpr rfl);cases e;exact q
def bO.«dput»{C:Ctx}{sc:IN}{N:List Str}{j:Nat}{i e:Ex}{x y z:Expr}{p p':Pos}(hs:yQ y=true)(ho:aF C sc N (.var j) (.e x))(ri:zg i=false)(hi:aF C sc N i (.e y))(re:zg e=false)(he:aF C sc N e (.e z)):bO C sc N (.dput j i e) (.s (.Assign [.Subscript x y p] z p')):=by
 constructor;intro cl d X hC hX es eN;subst es;subst eN;exact DY hC.room.units ((yk ho X hC rfl rfl).pe rfl) ((yk hi X hC rfl rfl).pe ri) ((yk he X hC rfl rfl).pe re) hs
def bO.«aug»{C:Ctx}{sc:IN}{N:List Str}{i:Nat}{op:Bo}{e:Ex}{x:Str}{v:Expr}{p p':Pos}(h1:N[i]?=some x)(h2:vc sc x=true)(h3:fN op=true)(hr:zg e=false)(he:aF C sc N e (.e v)):bO C sc N (.aug i op e) (.s (.AugAssign (.Name x p) (fF op) v p')):=by
 constructor;intro cl d X hC hX es eN;subst es;subst eN;exact AM h3 hX.nd h1 (yX h2) (.inl (hX.fn _)) ((yk he X hC rfl rfl).pe hr)
def bO.«ite»{C:Ctx}{sc:IN}{N:List Str}{c:Ex}{a b:Sm}{x:Expr}{xs ys:List Stmt}{p:Pos}(rc:zg c=false)(ic:jf c=false)(hc:aF C sc N c (.e x))(ha:bO C sc N a (.b xs))(hb:bO C sc N b (.b ys)):bO C sc N (.ite c a b) (.s (.If x xs ys p)):=by
 constructor;intro cl d X hC hX es eN;subst es;subst eN;have iha:=ha.h cl d X hC hX rfl rfl;have ihb:=hb.h cl d X hC hX rfl rfl;exact AD ((yk hc X hC rfl rfl).pt rc ic) iha ihb
def bO.«forv»{C:Ctx}{sc:IN}{N:List Str}{i:Nat}{it:Ex}{body:Sm}{x:Str}{y:Expr}{sts:List Stmt}{p p':Pos}(h1:N[i]?=some x)(h2:vc sc x=true)(hs:yi y=true)(hi:aF C sc N it (.e y))(hb:bO C sc N body (.b sts)):bO C sc N (.forv i it body) (.s (.For (.Name x p) y sts [] p')):=by
 constructor;intro cl d X hC hX es eN;subst es;subst eN;have ihb:=hb.h cl d X hC hX rfl rfl;have hset:∀v,Jt y X.env v=pure v:=yw hs;refine PS.imp (kJ hX.hp hC.calm ((yk hi X hC rfl rfl).2 _) (yz hX.nd h1 (yX h2) (.inl (hX.fn _))) ihb hset) λD σ H q=>?_;exact r9 (sd i) q
def bO.«fort»{C:Ctx}{sc:IN}{N:List Str}{i j:Nat}{it:Ex}{body:Sm}{x x':Str}{y:Expr}{sts:List Stmt}{k}{p p' p2 p3:Pos}(h1:N[i]?=some x)(h2:vc sc x=true)(h3:N[j]?=some x')(h4:vc sc x'=true)(hs:yi y=true)(hi:aF C sc N it (.e y))(hb:bO C sc N body (.b sts)):bO C sc N (.fort i j it body) (.s (.For (.Tuple [.Name x p,.Name x' p2] k p3) y sts [] p')):=by
 constructor;intro cl d X hC hX es eN;subst es;subst eN;have ihb:=hb.h cl d X hC hX rfl rfl;have hset:∀v,Jt y X.env v=pure v:=yw hs;refine PS.imp (kJ hX.hp hC.calm ((yk hi X hC rfl rfl).2 _) (gC hC.calm (yN (yz hX.nd h1 (yX h2) (.inl (hX.fn _))) (yN (yz hX.nd h3 (yX h4) (.inl (hX.fn _))) kA))) ihb hset) λD σ H q=>?_;exact r9 (jq i j) q
def bO.«forZ»{C:Ctx}{sc:IN}{N:List Str}{i j:Nat}{a b:Ex}{body:Sm}{x x':Str}{w w':Expr}{sts:List Stmt}{k}{p p' p2 p3 q q':Pos}(h1:N[i]?=some x)(h2:vc sc x=true)(h3:N[j]?=some x')(h4:vc sc x'=true)(hg:dq sc "zip"=true)(hs:zh w=true)(hs':zh w'=true)(ra:zg a=false)(ha:aF C sc N a (.e w))(rb:zg b=false)(hb:aF C sc N b (.e w'))(hd:bO C sc N body (.b sts)):bO C sc N (.forZ i j a b body) (.s (.For (.Tuple [.Name x p,.Name x' p2] k p3) (.Call (.Name "zip" q) [w,w'] [] q') sts [] p')):=by
 constructor;intro cl d X hC hX es eN;subst es;subst eN;have ihd:=hd.h cl d X hC hX rfl rfl;refine PS.imp (kJ hX.hp hC.calm (qf (xN hg) (hC.blt _ (by simp[zp])) (zP ((yk ha X hC rfl rfl).pe ra) (zP ((yk hb X hC rfl rfl).pe rb) yT (zf hs')) (zf hs)) (by rw[zf hs,zf hs'];rfl) (zf hs')) (gC hC.calm (yN (yz hX.nd h1 (yX h2) (.inl (hX.fn _))) (yN (yz hX.nd h3 (yX h4) (.inl (hX.fn _))) kA))) ihd (λ_=>rfl)) λD σ H q=>?_;exact Fv q
def bO.«forD»{C:Ctx}{sc:IN}{N:List Str}{i x:Nat}{body:Sm}{nm nx:Str}{sts:List Stmt}{p p' p2:Pos}(h1:N[i]?=some nm)(h2:vc sc nm=true)(hi:aF C sc N (.var x) (.e (.Name nx p2)))(hb:bO C sc N body (.b sts)):bO C sc N (.forD i x body) (.s (.For (.Name nm p) (.Name nx p2) sts [] p')):=by
 constructor;intro cl d X hC hX es eN;subst es;subst eN;have ihb:=hb.h cl d X hC hX rfl rfl;refine PS.imp (kJ hX.hp hC.calm (Fo ((yk hi X hC rfl rfl).pe rfl)) (yz hX.nd h1 (yX h2) (.inl (hX.fn _))) ihb (yw rfl)) λD σ H q=>?_;exact FZ rfl q
def bO.«forI»{C:Ctx}{sc:IN}{N:List Str}{i j x:Nat}{body:Sm}{nm nm' nx:Str}{sts:List Stmt}{k}{p p' p2 p3 p4 ap cp:Pos}(h1:N[i]?=some nm)(h2:vc sc nm=true)(h3:N[j]?=some nm')(h4:vc sc nm'=true)(hl:(ap.endLine==cp.line)=true)(hi:aF C sc N (.var x) (.e (.Name nx p2)))(hb:bO C sc N body (.b sts)):bO C sc N (.forI i j x body) (.s (.For (.Tuple [.Name nm p,.Name nm' p4] k p3) (.Call (.Attribute (.Name nx p2) "items" ap) [] [] cp) sts [] p')):=by
 constructor;intro cl d X hC hX es eN;subst es;subst eN;have ihb:=hb.h cl d X hC hX rfl rfl;refine PS.imp (kJ hX.hp hC.calm (Eo (oQ PySem.F.slot_dict_items PySem.F.type_dict_items Ep ((yk hi X hC rfl rfl).pe rfl) (bH rfl) hl)) (gC hC.calm (yN (yz hX.nd h1 (yX h2) (.inl (hX.fn _))) (yN (yz hX.nd h3 (yX h4) (.inl (hX.fn _))) kA))) ihb (yw rfl)) λD σ H q=>?_;exact FY rfl q
def bO.«ret»{C:Ctx}{sc:IN}{N:List Str}{e:Ex}{x:Expr}{p:Pos}(hr:zg e=false)(he:aF C sc N e (.e x)):bO C sc N (.ret e) (.s (.Return (some x) p)):=by
 constructor;intro cl d X hC hX es eN;subst es;subst eN;exact AN ((yk he X hC rfl rfl).pe hr)
def bO.«expr»{C:Ctx}{sc:IN}{N:List Str}{e:Ex}{x:Expr}{p:Pos}(hc:jo x=false)(hr:zg e=false)(he:aF C sc N e (.e x)):bO C sc N (.expr e) (.s (.Expr x p)):=by
 constructor;intro cl d X hC hX es eN;subst es;subst eN;exact DZ ((yk he X hC rfl rfl).pe hr) hc
def bO.«never»{C:Ctx}{sc:IN}{N:List Str}{st:Stmt}:bO C sc N .never (.s st):=by
 constructor;intro cl d X hC hX es eN;subst es;subst eN;exact Ej
end
set_option genInjectivity false in
structure bN where
 nm:Str
 st:Stmt
 N:List Str
 ps:List Str
 fn:Fn
 on:Str
noncomputable def lN(N ps:List Str)(sc:IN):Bool:=
 decide (sc.kind=.function)&&(decide (sc.isCoroutine=false)&&(decide (sc.isGenerator=false)&&(decide N.Nodup&&(decide (N.take ps.length=ps) &&
  (ps.all (λx=>decide (sc.names.lookup x=some .local) || decide (sc.names.lookup x=some .cell))&&sc.names.all (λy=>!(decide (y.2=.free))))))))
def FX (h:lN N ps sc=true):cy N ps sc:=by
 unfold lN at h;simp only[Qh,W7,Lx,QN,Vg,decide_eq_false_iff_not]at h;obtain⟨h1,h2,h3,h4,h5,h6,h7⟩:=h;exact⟨h1,h2,h3,h4,h5,h6,h7⟩
structure i4(C:Ctx)(d:bN):Prop where
 sc:lN d.N d.ps (zS d.st)=true
 ar:d.ps.length=d.fn.ar
 sz:d.N.length=d.fn.sz
 body:bO C (zS d.st) d.N d.fn.body (.b (xb d.st))
section
variable{P:IQ}{w:IR}{K:Qb}{mg:Str->Option Value}{base:IS}{C:Ctx}{cl:Nat->List Wd->Me->Rz}
def FW (R:aa K as H ws vs)(hl:ws.length=fn.ar)(hN:N.length=fn.sz):aD K as H (xV fn ws) (L2.start N vs):=by
 have hv:=R.length;refine⟨by simp[xV,L2.start,hN,hv],λi w e=>?_⟩;unfold xV at e;by_cases hi:i<ws.length
 .rw[Qf (by simpa using hi),Qs]at e;cases hx:ws[i]? with
  |none=>rw[hx]at e;cases e
  |some x=>
   rw[hx]at e;cases e;obtain⟨v,h1,h2⟩:=R.get hx;refine⟨v,?_,h2⟩;unfold L2.start;rw[Qf (by simp;lia),Qs,h1];rfl
 .rw[Qd (by simpa using hi),Vo]at e;split at e<;>cases e
set_option tactic.hygienic true in
def Ei (F:eP K d.on d.on d.st f fd)(hd:i4 C d)(hfn:∀(i:Nat) (nm:Str),C.fns[i]?=some nm->∃f fd ps,mg nm=some (.ref f)/\WU K (.ref f)=true/\Binds K fd ps []/\cN P w K mg base dY k f fd ps (g9 K (cl i)))(hcon:hG K w mg C)(hblt:∀nm∈zp,mg nm=none):
  cN P w K mg base dY (k+1) f fd d.ps (g9 K (gN cl d.fn)):=by
 obtain⟨h1,h2,h3,h4⟩:=hd;have Sc:=FX h1;have arity:∀{as:List Addr}{H:Hp}{Q:VK}{ws:List Wd}{m:Me},ai K as H Q (gN cl d.fn ws m)->ws.length=d.fn.ar:=λ{as H Q ws m} h=>by
  unfold gN at h;split at h
  .assumption
  .exact h.elim
 refine F.ok Sc (λvs H Q E h=>?_) (λcdv A outer s H vs Q E hr h=>?_)
 .obtain ⟨as,m,ws,S,R,q⟩:=h;rw[<-R.length,arity q,h2]
 .obtain ⟨as,m,ws,S,R,q⟩:=h;have ha:=arity q;have hC:bV C (qH dY P w K mg base d.N d.on (zS d.st) f cdv A outer s H E).nox cl k:=⟨hr,rfl,hfn,hcon,hblt⟩;have hX:eo (qH dY P w K mg base d.N d.on (zS d.st) f cdv A outer s H E).nox:=⟨Sc.nd,λ_=>rfl,PassesOwn.never⟩;refine⟨_,AL hC hX h4,as,xV d.fn ws,m,S,FW R ha h3,?_⟩;unfold gN at q;rw[Lp ha]at q;cases hr:bB cl d.fn.body (xV d.fn ws) m with
  |next e m1=>rw[hr]at q;exact λas' H' σ' T S' G=>q as' H' .non T S' (aN.mpr rfl)
  |ret w m1=>rw[hr]at q;exact λas' H' v T S' R'=>q as' H' v T S' R'
  |brk e m1=>rw[hr]at q;exact q.elim
  |cont e m1=>rw[hr]at q;exact q.elim
  |exc c w e m1=>rw[hr]at q;exact q.elim
  |no=>rw[hr]at q;exact q.elim
def jr(K:Qb)(mg:Str->Option Value)(d:bN):Prop:=∃f fd,eP K d.on d.on d.st f fd/\mg d.nm=some (.ref f)
def nk(d:bN):Prop:=∀(kV doc pm:Value) (an:Option Addr) (cdv ct:Value) (us:List Value),us.length=d.ps.length->bindArgs (WM d.on d.on (xU d.st) (xb d.st) (zS d.st) .none kV doc pm an cdv ct) ⟨us,[]⟩=pure (d.ps.zip us)
theorem kn{D:List bN}(hC:C.fns=D.map (·.nm))(hD:∀d∈D,i4 C d)(hB:∀d∈D,nk d)(hK:∀d∈D,jr K mg d)
  (hcon:hG K w mg C) (hblt:∀nm∈zp,mg nm=none) :
  ∀(k:Nat) (i:Nat) (d:bN),D[i]?=some d->∀f fd,eP K d.on d.on d.st f fd->cN P w K mg base dY k f fd d.ps (g9 K (y9 (D.map (·.fn)) k i))
 |0,i,d,hi,f,fd,F=>by
  have no:∀{vs:List V}{H:Hp}{Q:VK}{E:XK},¬g9 K (y9 (D.map (·.fn)) 0 i) vs H Q E:=λ{vs H Q E} h=>by
   obtain⟨as,m,ws,S,R,q⟩:=h;exact q
  exact⟨λvs H Q E h=>(no h).elim,λA outer s H args us vs Q E _ _ _ _ h=>(no h).elim⟩
 |k+1,i,d,hi,f,fd,F=>by
  have ih:=kn hC hD hB hK hcon hblt k;have e:g9 K (y9 (D.map (·.fn)) (k+1) i)=g9 K (gN (y9 (D.map (·.fn)) k) d.fn):=by
   have:y9 (D.map (·.fn)) (k+1) i=gN (y9 (D.map (·.fn)) k) d.fn:=by
    funext ws m;unfold y9;rw[Qs,hi];rfl
   rw[this]
  rw[e];refine Ei F (hD d (Qr hi)) (λj nm hj=>?_) hcon hblt;rw[hC,Qs]at hj;cases hx:D[j]? with
  |none=>rw[hx]at hj;cases hj
  |some d'=>
   rw[hx]at hj;cases hj;obtain⟨f',fd',F',m'⟩:=hK d' (Qr hx);exact⟨f',fd',d'.ps,m',F'.kp,F'.binds (hB d' (Qr hx)),ih j d' hx f' fd' F'⟩
end
def Eh {K:Qb}{D:List bN}{ns:List Int}(hO:iB H)(hS:bD K H a (ns.map V.int))(h:∃m,y9 (D.map (·.fn)) k i [.rol (ns.map Wd.int)] []=.ok (.bl true) m):
  g9 K (y9 (D.map (·.fn)) k i) [.ref a] H (λv _=>v=.bl true) E:=by
 obtain⟨m,h⟩:=h;refine⟨[],[],[.rol (ns.map Wd.int)],⟨rfl,QM,λl a o e=>by simp at e⟩,aj.mpr ⟨.ref a,[],rfl,bj.mpr ⟨a,ns.map V.int,rfl,?_,?_⟩,ao.mpr rfl⟩,?_⟩
 .rcases hS with (hS|⟨o,hS⟩)|hS
  .rcases hO a with z|⟨o,xs,z⟩
   .rw[z]at hS;cases hS
   .rw[z]at hS;cases hS
  .exact .inl ⟨o,hS⟩
  .exact .inr hS
 .have all:∀l:List Int,aa K [] H (l.map Wd.int) (l.map V.int):=by
   intro l
   induction l with
   |nil=>exact ao.mpr rfl
   |cons n l ih=>exact aj.mpr ⟨_,_,rfl,ab.mpr rfl,ih⟩
  exact all ns
 .rw[h];exact λas' H' v T S R=>ak.mp R
def uU {l:PySem.W.OpenLaw}{Kp:IP->Qb}{D:List bN}{dl:bN}(hn:l.most=some n)(hn2:n<=sizeLine)(hdf:d.params.defaults=[])(hr:cg k J8)(hY:∀(w:IR) (h:IS),YP w h->(Kp w.params).In h)(hC:C.fns=D.map (·.nm))(hD:∀d∈D,i4 C d)(hB:∀d∈D,nk d)(hi:D[i]?=some dl)(hx:dl.ps=[x])(hnm:d.name=dl.nm)(F:∀(w:IR) (mg:Str->Option Value) (fa:Addr) (h:IS),(Kp w.params).In h->h.Ns IT mg->mg d.name=some (.ref fa) ->
   (∀e∈D,jr (Kp w.params) mg e)/\hG (Kp w.params) w mg C/\∀nm∈zp,mg nm=none)(hpure:∀ns:List Int,ns.length<=n->∃m,y9 (D.map (·.fn)) k i [.rol (ns.map Wd.int)] []=.ok (.bl true) m):
  VM q loose XP YP l.row.toRowW d [] (λf vs=>PySem.call f vs):=by
 refine L2.Df (n:=n) (k:=k) (x:=x) (CX:=λ_=>dY) (sp:=λw=>g9 (Kp w.params) (y9 (D.map (·.fn)) k i)) hn hn2 hdf hr hY ?_ (λw H a ns hl hO hS=>Eh hO hS (hpure ns hl)) λ_ _ _ _ _ z=>z;intro w mg fa h KX G hmg;obtain⟨h1,h2,h3⟩:=F w mg fa h KX G hmg;obtain⟨f,fd,Ff,hm⟩:=h1 dl (Qr hi);rw[hnm,hm]at hmg;cases hmg;refine⟨fd,λs u=>?_,λbase kb nb=>?_⟩
 .obtain ⟨oc,od,kV,doc,pm,an,cdv,ct,osl,rfl,lk,hcd⟩:=Ff.ex;have q:=hB dl (Qr hi) kV doc pm an cdv ct [u] (by rw[hx];rfl);rw[hx]at q;exact .of_eq q
 .rw[<-hx];exact kn hC hD hB h1 h2 h3 k i dl hi fa fd Ff
theorem aF.v{C:Ctx}{sc:IN}{N:List Str}{i:Nat}{x:Str}{p:Pos}(h1:N[i]?=some x:=by rfl)(h2:iE sc x=true:=by kernel_rfl)(h3:yW x=true:=by kernel_rfl):aF C sc N (.var i) (.e (.Name x p)):=.var h1 h2 h3
def tx{P:List Value->Prop}(h:∀a,P [a]):∀us:List Value,us.length=1->P us
 |[a],_=>h a
def tu {P:List Value->Prop}(h:∀a (us:List Value),us.length=n->P (a::us)):∀us:List Value,us.length=n+1->P us
 |a::us,e=>h a us (Nat.succ.inj e)
def tw{P:List Value->Prop}(h:∀a b,P [a,b]):∀us:List Value,us.length=2->P us:=tu λa=>tx (P:=λus=>P (a::us)) (h a)
def Gq{P:List Value->Prop}(h:∀a b c,P [a,b,c]):∀us:List Value,us.length=3->P us:=tu λa=>tw (P:=λus=>P (a::us)) (h a)
end Mini
namespace Mini
namespace Vl
inductive Dat where
 |non|bl (b:Bool)|int (i:Int)|str (s:List Nat)|tup (xs:List Dat)|lst (xs:List Dat)|scr (ns:List Int)|dct (ks:List (List Int)) (xs:List Dat)
deriving Inhabited
inductive Lv where|no|top|full
deriving DecidableEq,Inhabited
abbrev aS:=List (Option Dat)
inductive Rd where|ok (d:Dat)|exc (c:Nat) (d:Dat)|no
deriving Inhabited
noncomputable def Rd.bind(r:Rd)(f:Dat->Rd):Rd:=match r with
 |.ok d=>f d
 |.exc c d=>.exc c d
 |.no=>.no
mutual
noncomputable def aw:Dat->Bool
 |.lst _=>false
 |.tup xs=>aV xs
 |.non=>true
 |.bl _=>true
 |.int _=>true
 |.str _=>true
 |.scr _=>true
 |.dct _ _=>false
noncomputable def aV:List Dat->Bool
 |[]=>true
 |d::ds=>aw d&&aV ds
end
mutual
noncomputable def xC:Nat->Dat->Bool
 |0,_=>false
 |k+1,.tup xs=>bC k xs
 |k+1,.lst xs=>bC k xs
 |_+1,.int _=>true
 |_+1,_=>false
noncomputable def bC:Nat->List Dat->Bool
 |_,[]=>true
 |k,d::ds=>xC k d&&bC k ds
end
mutual
noncomputable def dr:Dat->Dat->Bool
 |.tup a,.tup b=>cr a b
 |.lst a,.lst b=>cr a b
 |.int a,.int b=>decide (a=b)
 |_,_=>false
noncomputable def cr:List Dat->List Dat->Bool
 |[],[]=>true
 |x::xs,y::ys=>dr x y&&cr xs ys
 |_,_=>false
end
noncomputable def yY:Dat->Option (List Dat)
 |.tup xs=>some xs
 |.lst xs=>some xs
 |.scr ns=>some (ns.map .int)
 |_=>none
noncomputable def dn:Dat->Option (List Dat)
 |.lst xs=>some xs
 |.scr ns=>some (ns.map .int)
 |_=>none
noncomputable def bo(xs:List Dat):Rd:=if xs.length<=aq then .ok (.lst xs)else .no
noncomputable def ym(op:Bo)(x y:Dat):Rd:=match x,y with
 |.int i,.int j=>match op with
  |.add=>.ok (.int (i+j))
  |.sub=>.ok (.int (i-j))
  |.mul=>if small i || small j then .ok (.int (i*j))else .no
  |.fdiv=>if 0<j/\j<1073741824 then .ok (.int (i/j))else .no
  |.mod=>if 0<j then .ok (.int (i%j))else .no
  |.shr=>if 0<=j/\j<=1000 then .ok (.int (i/2^j.toNat))else .no
  |.band=>if 0<=i/\j=1 then .ok (.int (i%2))else .no
  |.mulB=>if i.natAbs.log2<100000/\j.natAbs.log2<100000 then .ok (.int (i*j))else .no
  |.fdivB=>if 0<j/\j.natAbs.log2<9000 then .ok (.int (i/j))else .no
 |.lst xs,.lst ys=>match op with
  |.add=>bo (xs++ys)
  |_=>.no
 |.lst xs,.int k=>match op with
  |.mul=>if -aq<=k/\k<=aq then bo (Qq k.toNat xs).flatten else .no
  |_=>.no
 |.tup xs,.tup ys=>match op with
  |.add=>if xs.length+ys.length<=aq then .ok (.tup (xs++ys))else .no
  |_=>.no
 |_,_=>.no
noncomputable def io(x y:Dat):Option Bool:=if xC yD x&&xC yD y then some (dr x y)else none
noncomputable def mT(x:Dat)(ys:List Dat):Option Bool:=if xC yD x&&bC yD ys then some (ys.any λy=>dr y x)else none
noncomputable def fM:Option Bool->Rd
 |some b=>.ok (.bl b)
 |none=>.no
noncomputable def fL(r:Int->Int->Bool)(x y:Dat):Rd:=match x,y with
 |.int i,.int j=>.ok (.bl (r i j))
 |_,_=>.no
noncomputable def zy:List Dat->Option (List Int)
 |[]=>some []
 |.int i::r=>(zy r).map (i::·)
 |_=>none
noncomputable def wm(op:Co)(x y:Dat):Rd:=match op with
 |.eq=>fM (io x y)
 |.ne=>fM ((io x y).map (!·))
 |.isin=>match yY y with
  |some ys=>fM (mT x ys)
  |none=>.no
 |.lt=>fL (λi j=>decide (i<j)) x y
 |.le=>fL (λi j=>decide (i<=j)) x y
 |.gt=>fL (λi j=>decide (j<i)) x y
 |.ge=>fL (λi j=>decide (j<=i)) x y
noncomputable def iU(t:Tg)(x:Dat):Bool:=match t with
 |.int=>match x with
  |.int _=>true
  |.bl _=>true
  |_=>false
 |.bool=>match x with
  |.bl _=>true
  |_=>false
 |.str=>match x with
  |.str _=>true
  |_=>false
 |.tuple=>match x with
  |.tup _=>true
  |_=>false
 |.list=>match x with
  |.scr _=>true
  |.lst _=>true
  |_=>false
 |.dict=>match x with
  |.dct _ _=>true
  |_=>false
noncomputable def vG:List Dat->Option Int
 |[]=>some 0
 |.int i::r=>(vG r).map (i+·)
 |_=>none
noncomputable def eU:List Dat->Option Bool
 |[]=>some true
 |.bl b::r=>(eU r).map (b && ·)
 |_=>none
noncomputable def fX:List Dat->Option (List (List Int))
 |[]=>some []
 |.lst xs::r=>match zy xs,fX r with
  |some k,some ks=>some (k::ks)
  |_,_=>none
 |_=>none
noncomputable def eT(xs:List Dat):Option (List Int):=match zy xs with
 |some k=>some (0::k)
 |none=>(fX xs).bind iI
noncomputable def xA:List Dat->Option (List (List Int))
 |[]=>some []
 |.lst xs::r=>match eT xs,xA r with
  |some k,some ks=>some (k::ks)
  |_,_=>none
 |_=>none
noncomputable def eS:List Dat->Option (List (Dat×Dat))
 |[]=>some []
 |.tup [x,y]::r=>(eS r).map ((x,y)::·)
 |_=>none
noncomputable def xf(b:dZ)(ws:List Dat):Rd:=match b with
 |.sorted=>match ws with
  |[.lst ds]=>match (xA ds).bind λks=>xz Dat ks ds with
   |some es=>bo es
   |none=>.no
  |_=>.no
 |.minS=>match ws with
  |[x]=>match (yY x).bind zy with
   |some (i::r)=>.ok (.int (yU i r))
   |_=>.no
  |_=>.no
 |.maxS=>match ws with
  |[x]=>match (yY x).bind zy with
   |some (i::r)=>.ok (.int (xm i r))
   |_=>.no
  |_=>.no
 |.len=>match ws with
  |[x]=>match yY x with
   |some xs=>.ok (.int xs.length)
   |none=>.no
  |_=>.no
 |.int=>match ws with
  |[.int i]=>.ok (.int i)
  |[.bl b]=>.ok (.int (b2i b))
  |_=>.no
 |.list=>match ws with
  |[x]=>match yY x with
   |some xs=>bo xs
   |none=>.no
  |_=>.no
 |.tuple=>match ws with
  |[x]=>match yY x with
   |some xs=>.ok (.tup xs)
   |none=>.no
  |_=>.no
 |.sum=>match ws with
  |[x]=>match (dn x).bind vG with
   |some i=>.ok (.int i)
   |none=>.no
  |_=>.no
 |.all=>match ws with
  |[x]=>match (dn x).bind eU with
   |some i=>.ok (.bl i)
   |none=>.no
  |_=>.no
noncomputable def xg(x y:Dat):Rd:=match y with
 |.int i=>match yY x with
  |some xs=>match (ix xs.length i).bind λj=>xs[j]? with
   |some v=>.ok v
   |none=>.no
  |none=>.no
 |_=>.no
def yI:Dat->Option (List Int)
 |.tup ds=>zy ds
 |_=>none
noncomputable def wT(x y:Dat):Rd:=match x with
 |.dct ks ds=>match (yI y).bind (cb ks ds)with
  |some v=>.ok v
  |none=>.no
 |_=>.no
noncomputable def eI(x:Dat)(lo hi:Option Int):Rd:=match x with
 |.tup xs=>if aP xs.length 0 lo=0/\aP xs.length xs.length hi=xs.length then .no else .ok (.tup ((xs.drop (aP xs.length 0 lo)).take (aP xs.length xs.length hi-aP xs.length 0 lo)))
 |x=>match dn x with
 |some xs=>bo ((xs.drop (aP xs.length 0 lo)).take (aP xs.length xs.length hi-aP xs.length 0 lo))
 |none=>.no
def yA(lo st:Int)(n:Nat):List Dat:=(QL n).map λ(i:Nat)=>.int (lo+st*(i:Int))
def fW(x:Dat):Option (List Int):=match x with
 |.lst ds=>zy ds
 |_=>none
def nv(x:Dat):Bool:=match x with
 |.lst _=>true
 |_=>false
noncomputable def iL(k:Dk)(x:Dat):Bool:=match k with
 |.one=>true
 |.trg=>true
 |.lix=>nv x
 |.lct=>nv x
 |.lrv=>true
 |_=>match x with
  |.dct _ _=>true
  |_=>false
noncomputable def vH(k:Dk)(x y z:Dat):Rd:=match k with
 |.get=>match x with
  |.dct ks ds=>match yI y with
   |some q=>match cb ks ds q with
    |some v=>.ok v
    |none=>.ok z
   |none=>.no
  |_=>.no
 |.one=>match yI y with
  |some q=>.ok (.dct [q] [z])
  |none=>.no
 |.sum=>match x with
  |.dct _ ds=>match vG ds with
   |some i=>.ok (.int i)
   |none=>.no
  |_=>.no
 |.trg=>match x with
  |.int j=>if -aq<=j/\j<=aq then .ok (.tup (yA 0 1 j.toNat))else .no
  |_=>.no
 |.lix=>match y with
  |.int k=>match (fW x).bind λks=>vq k ks 0 with
   |some j=>.ok (.int (j:Nat))
   |none=>.no
  |_=>.no
 |.lct=>match y with
  |.int k=>match fW x with
   |some ks=>.ok (.int (ks.countP (· == k):Nat))
   |none=>.no
  |_=>.no
 |.lrv=>match y with
  |.int i=>match dn x with
   |some xs=>if i=-1 then bo xs.reverse else .no
   |none=>.no
  |_=>.no
noncomputable def eD(a b c:Dat):Rd:=match a,b,c with
 |.int a,.int b,.int c=>if -aq<=a/\a<=aq/\-aq<=b/\b<=aq/\(c=1\/c=-1)then .ok (.tup (yA a c (fA a b c)))else .no
 |_,_,_=>.no
noncomputable def zE{α:Type}(c e:α->Rd):List α->List Dat->Rd
 |[],acc=>bo acc
 |x::xs,acc=>(c x).bind λb=>match b with
  |.bl true=>(e x).bind λy=>if acc.length<aq then zE c e xs (acc++[y])else .no
  |.bl false=>zE c e xs acc
  |_=>.no
noncomputable def cB(d:Dat):Option (List Dat):=match d with
 |.tup xs=>some xs
 |.scr ns=>some (ns.map .int)
 |.lst xs=>if xs.length<=aq then some xs else none
 |_=>none
noncomputable def e7:Dat->Option (List Dat)
 |.tup xs=>some xs
 |.lst xs=>some xs
 |_=>none
noncomputable def yB(k:Kd)(x y:Dat):Option (List (Dat×Dat)):=match k,x,y with
 |.zip,x,y=>match e7 x,e7 y with
  |some xs,some ys=>if xs.length<=aq/\ys.length<=aq then some (xs.zip ys)else none
  |_,_=>none
 |.prs,.lst xs,.int _=>if xs.length<=aq then eS xs else none
 |_,_,_=>none
def zJ:Dat->List Dat
 |.tup xs=>xs
 |_=>[]
noncomputable def nu:Wd->Option Dat
 |.non=>some .non
 |.bl b=>some (.bl b)
 |.int i=>some (.int i)
 |.str s=>some (.str s)
 |_=>none
noncomputable def am(cl:Nat->List Dat->Rd):Ex->aS->Rd
 |.var i,de=>match de[i]? with
  |some (some d)=>.ok d
  |_=>.no
 |.lit w,_=>match nu w with
  |some d=>.ok d
  |none=>.no
 |.bin op a b,de=>(am cl a de).bind λx=>(am cl b de).bind λy=>ym op x y
 |.neg a,de=>(am cl a de).bind λx=>match x with
  |.int i=>.ok (.int (-i))
  |_=>.no
 |.not a,de=>(am cl a de).bind λx=>match x with
  |.bl b=>.ok (.bl (! b))
  |_=>.no
 |.and a b,de=>(am cl a de).bind λx=>match x with
  |.bl true=>am cl b de
  |.bl false=>.ok (.bl false)
  |_=>.no
 |.or a b,de=>(am cl a de).bind λx=>match x with
  |.bl false=>am cl b de
  |.bl true=>.ok (.bl true)
  |_=>.no
 |.cmp op a b,de=>(am cl a de).bind λx=>(am cl b de).bind λy=>wm op x y
 |.chain p q a b c,de=>(am cl a de).bind λx=>(am cl b de).bind λy=>(wm p x y).bind λz=>match z with
  |.bl true=>(am cl c de).bind λu=>wm q y u
  |.bl false=>.ok (.bl false)
  |_=>.no
 |.ife c a b,de=>(am cl c de).bind λx=>match x with
  |.bl true=>am cl a de
  |.bl false=>am cl b de
  |_=>.no
 |.unit,_=>.ok (.tup [])
 |.pair a b,de=>(am cl a de).bind λx=>(am cl b de).bind λy=>.ok (.tup (x::zJ y))
 |.call k a,de=>(am cl a de).bind λx=>cl k (zJ x)
 |.blt b a,de=>(am cl a de).bind λx=>xf b (zJ x)
 |.isi t a,de=>(am cl a de).bind λx=>.ok (.bl (iU t x))
 |.lst a,de=>(am cl a de).bind λx=>bo (zJ x)
 |.tup a,de=>(am cl a de).bind λx=>if(zJ x).length<=aq then .ok (.tup (zJ x))else .no
 |.dict0,_=>.ok (.dct [] [])
 |.dget a b,de=>(am cl a de).bind λx=>(am cl b de).bind λy=>wT x y
 |.idx a b,de=>(am cl a de).bind λx=>(am cl b de).bind λy=>xg x y
 |.dop k a b c,de=>(am cl a de).bind λx=>match iL k x with
  |true=>(am cl b de).bind λy=>(am cl c de).bind λz=>vH k x y z
  |false=>.no
 |.slL a lo,de=>(am cl a de).bind λx=>(am cl lo de).bind λy=>match y with
  |.int i=>eI x (some i) none
  |_=>.no
 |.meth _ _ _,_=>.no
 |.rng a b c,de=>(am cl a de).bind λx=>(am cl b de).bind λy=>(am cl c de).bind λz=>eD x y z
 |.comp elt it cond,de=>(am cl it de).bind λx=>match cB x with
  |some xs=>zE (λx=>am cl cond (de++[some x])) (λx=>am cl elt (de++[some x])) xs []
  |none=>.no
 |.compP k elt a b cond,de=>(am cl a de).bind λx=>(am cl b de).bind λy=>match yB k x y with
  |some ps=>zE (λp=>am cl cond (de++[some p.1]++[some p.2])) (λp=>am cl elt (de++[some p.1]++[some p.2])) ps []
  |none=>.no
def wn (h:env[i]?=some (some w))(m:Me):af cl (.var i) env m=.ok w m:=by
 show(match env[i]? with|some (some w)=>Rz.ok w m|_=>.no)=_;rw[h]
def xO (h:de[i]?=some (some d)):am cl (.var i) de=.ok d:=by
 show(match de[i]? with|some (some d)=>Rd.ok d|_=>.no)=_;rw[h]
def yR (h:de[i]?=none\/de[i]?=some none):am cl (.var i) de=.no:=by
 show(match de[i]? with|some (some d)=>Rd.ok d|_=>.no)=_;rcases h with h|h<;>rw[h]
def ql (h:am cl (.var i) de=.ok d):de[i]?=some (some d):=by
 cases z:de[i]? with
 |none=>rw[yR (.inl z)]at h;cases h
 |some o=>
  cases o with
  |none=>rw[yR (.inr z)]at h;cases h
  |some e=>rw[xO z]at h;cases h;rfl
mutual
noncomputable def ag(R:Nat->Prop)(m:Me):Dat->Wd->Prop
 |.non,w=>w=.non
 |.bl b,w=>w=.bl b
 |.int i,w=>w=.int i
 |.str s,w=>w=.str s
 |.scr ns,w=>w=.rol (ns.map Wd.int)
 |.tup ds,w=>∃xs,w=.tup xs/\aa R m ds xs
 |.lst ds,w=>∃l xs,w=.ref l/\R l/\m[l]?=some (.lst xs)/\aa R m ds xs
 |.dct ks ds,w=>∃l xs,w=.ref l/\R l/\m[l]?=some (.dct ks xs)/\aa R m ds xs
noncomputable def aa(R:Nat->Prop)(m:Me):List Dat->List Wd->Prop
 |[],xs=>xs=[]
 |d::ds,xs=>∃x r,xs=x::r/\ag R m d x/\aa R m ds r
end
def Le(m m':Me):Prop:=∀(l:Nat) o,m[l]?=some o->m'[l]?=some o
def Le.refl(m:Me):Le m m:=λ_ _ h=>h
def Le.trans{a b c:Me}(h:Le a b)(k:Le b c):Le a c:=λl o z=>k l o (h l o z)
def Le.app(m x:Me):Le m (m++x):=λl o z=>by
 obtain⟨hl,_⟩:=Qa.mp z;rw[Qf hl];exact z
def Le.len (h:Le a b):a.length<=b.length:=by
 rcases Nat.lt_or_ge b.length a.length with z|z
 .have:=h b.length a[b.length] (Qm z);have:=(Qa.mp this).1;lia
 .exact z
def Rf(R:Nat->Prop)(n:Nat):Nat->Prop:=λl=>R l\/n<=l
mutual
theorem ag.frame{R R':Nat->Prop}{m m':Me}(h:∀(l:Nat) o,R l->m[l]?=some o->R' l/\m'[l]?=some o):∀(d:Dat) (w:Wd),ag R m d w->ag R' m' d w
 |.non,w,q=>by unfold ag at q ⊢;exact q
 |.bl b,w,q=>by unfold ag at q ⊢;exact q
 |.int b,w,q=>by unfold ag at q ⊢;exact q
 |.str b,w,q=>by unfold ag at q ⊢;exact q
 |.scr b,w,q=>by unfold ag at q ⊢;exact q
 |.tup ds,w,q=>by
  unfold ag at q ⊢;obtain⟨xs,rfl,q⟩:=q;exact⟨xs,rfl,aa.frame h ds xs q⟩
 |.lst ds,w,q=>by
  unfold ag at q ⊢;obtain⟨l,xs,rfl,r,z,q⟩:=q;exact⟨l,xs,rfl,(h l _ r z).1,(h l _ r z).2,aa.frame h ds xs q⟩
 |.dct ks ds,w,q=>by
  unfold ag at q ⊢;obtain⟨l,xs,rfl,r,z,q⟩:=q;exact⟨l,xs,rfl,(h l _ r z).1,(h l _ r z).2,aa.frame h ds xs q⟩
theorem aa.frame{R R':Nat->Prop}{m m':Me}(h:∀(l:Nat) o,R l->m[l]?=some o->R' l/\m'[l]?=some o):∀(ds:List Dat) (xs:List Wd),aa R m ds xs->aa R' m' ds xs
 |[],xs,q=>by unfold aa at q ⊢;exact q
 |d::ds,xs,q=>by
  unfold aa at q ⊢;obtain⟨x,r,rfl,a,b⟩:=q;exact⟨x,r,rfl,ag.frame h d x a,aa.frame h ds r b⟩
end
def ag.up{R:Nat->Prop}{m m':Me}{d:Dat}{w:Wd}(n:Nat)(h:Le m m')(q:ag R m d w):ag (Rf R n) m' d w:=
 ag.frame (λl o r z=>⟨.inl r,h l o z⟩) d w q
def aa.up{R:Nat->Prop}{m m':Me}{d:List Dat}{w:List Wd}(n:Nat)(h:Le m m')(q:aa R m d w):aa (Rf R n) m' d w:=
 aa.frame (λl o r z=>⟨.inl r,h l o z⟩) d w q
theorem bu:∀{ds:List Dat}{xs:List Wd},aa R m ds xs↔ds.length=xs.length/\∀(i:Nat) d x,ds[i]?=some d->xs[i]?=some x->ag R m d x
 |[],xs=>by
  unfold aa;constructor
  .rintro rfl;exact⟨rfl,by simp⟩
  .rintro ⟨h,_⟩;exact VH h.symm
 |d::ds,xs=>by
  unfold aa;constructor
  .rintro ⟨x,r,rfl,a,b⟩;obtain⟨hl,hb⟩:=bu.mp b;refine⟨by simp[hl],λi e y h1 h2=>?_⟩;cases i with
   |zero=>simp at h1 h2;subst h1;subst h2;exact a
   |succ i=>simp at h1 h2;exact hb i e y h1 h2
  .rintro ⟨hl,h⟩;cases xs with
   |nil=>cases hl
   |cons x r=>
    refine⟨x,r,rfl,h 0 d x rfl rfl,bu.mpr ⟨by simpa using hl,λi e y h1 h2=>h (i+1) e y (by simpa using h1) (by simpa using h2)⟩⟩
def aa.len (h:aa R m ds xs):ds.length=xs.length:=(bu.mp h).1
def aa.get (h:aa R m ds xs){i:Nat}(z:ds[i]?=some d):∃x,xs[i]?=some x/\ag R m d x:=by
 obtain⟨hl,h⟩:=bu.mp h;obtain⟨hi,_⟩:=Qa.mp z;exact⟨xs[i],Qm (by lia),h i d _ z (Qm (by lia))⟩
def aa.nil{R:Nat->Prop}{m:Me}:aa R m [] []:=by unfold aa;rfl
def aa.cons{R:Nat->Prop}{m:Me}{d:Dat}{x:Wd}{ds:List Dat}{xs:List Wd}(a:ag R m d x)(b:aa R m ds xs):aa R m (d::ds) (x::xs):=by
 unfold aa;exact⟨x,xs,rfl,a,b⟩
def aa.cons_inv (h:aa R m (d::ds) xs):∃x r,xs=x::r/\ag R m d x/\aa R m ds r:=by
 unfold aa at h;exact h
def aa.nil_inv (h:aa R m [] xs):xs=[]:=by unfold aa at h;exact h
theorem aa.app:∀{ds es:List Dat}{xs ys:List Wd},aa R m ds xs->aa R m es ys->aa R m (ds++es) (xs++ys)
 |[],es,xs,ys,a,b=>by rw[a.nil_inv];exact b
 |d::ds,es,xs,ys,a,b=>by
  obtain⟨x,r,rfl,p,q⟩:=a.cons_inv;exact .cons p (aa.app q b)
theorem aa.drop{R:Nat->Prop}{m:Me}(n:Nat){ds:List Dat}{xs:List Wd}(h:aa R m ds xs):aa R m (ds.drop n) (xs.drop n):=by
 obtain⟨hl,h⟩:=bu.mp h;refine bu.mpr ⟨by simp[hl],λi d x a b=>h (n+i) d x (by simpa using a) (by simpa using b)⟩
set_option tactic.hygienic true in
theorem aa.take{R:Nat->Prop}{m:Me}(n:Nat){ds:List Dat}{xs:List Wd}(h:aa R m ds xs):aa R m (ds.take n) (xs.take n):=by
 obtain⟨hl,h⟩:=bu.mp h;refine bu.mpr ⟨by simp[hl],λi d x a b=>?_⟩;rw[List.getElem?_take]at a b;split at a
 .next z=>rw[Lp z]at b;exact h i d x a b
 .cases a
theorem aa.rev:∀{ds:List Dat}{xs:List Wd},aa R m ds xs->aa R m ds.reverse xs.reverse
 |[],xs,a=>by rw[a.nil_inv];exact .nil
 |d::ds,xs,a=>by
  obtain⟨x,r,rfl,p,q⟩:=a.cons_inv;rw[Ws,Ws];exact aa.app (aa.rev q) (.cons p .nil)
theorem aa.set{R:Nat->Prop}{m:Me}{ds:List Dat}{xs:List Wd}(h:aa R m ds xs)(j:Nat){d:Dat}{x:Wd}(z:ag R m d x):aa R m (ds.set j d) (xs.set j x):=by
 obtain⟨hl,h⟩:=bu.mp h;refine bu.mpr ⟨by simp[hl],λi e y a b=>?_⟩;rw[QO]at a b;by_cases q:j=i
 .rw[Lp q]at a b;split at a
  .split at b
   .cases a;cases b;exact z
   .cases b
  .cases a
 .rw[Lq q]at a b;exact h i e y a b
theorem aa.rep (h:aa R m ds xs):∀k:Nat,aa R m (Qq k ds).flatten (Qq k xs).flatten
 |0=>.nil
 |k+1=>by
  rw[Wg,Wg,Q0,Q0];exact aa.app h (aa.rep h k)
theorem eQ:∀(l:List Int),aa R m (l.map Dat.int) (l.map Wd.int)
 |[]=>.nil
 |i::l=>.cons (by unfold ag;rfl) (eQ l)
def ab:ag R m (.int i) w↔w=.int i:=by unfold ag;exact Iff.rfl
def ak:ag R m (.bl i) w↔w=.bl i:=by unfold ag;exact Iff.rfl
def aN:ag R m .non w↔w=.non:=by unfold ag;exact Iff.rfl
def aR:ag R m (.str s) w↔w=.str s:=by unfold ag;exact Iff.rfl
def bi:ag R m (.scr s) w↔w=.rol (s.map Wd.int):=by unfold ag;exact Iff.rfl
def ah:ag R m (.tup ds) w↔∃xs,w=.tup xs/\aa R m ds xs:=by
 constructor
 .intro h;unfold ag at h;exact h
 .intro h;unfold ag;exact h
def az:ag R m (.lst ds) w↔∃l xs,w=.ref l/\R l/\m[l]?=some (.lst xs)/\aa R m ds xs:=by
 constructor
 .intro h;unfold ag at h;exact h
 .intro h;unfold ag;exact h
def aU:ag R m (.dct ks ds) w↔∃l xs,w=.ref l/\R l/\m[l]?=some (.dct ks xs)/\aa R m ds xs:=by
 constructor
 .intro h;unfold ag at h;exact h
 .intro h;unfold ag;exact h
def ae(R:Nat->Prop)(m:Me)(r:Rz)(rd:Rd):Prop:=match rd with
 |.ok d=>∃w m',r=.ok w m'/\Le m m'/\ag (Rf R m.length) m' d w
 |.exc c d=>∃w m',r=.exc c w m'/\Le m m'/\ag (Rf R m.length) m' d w
 |.no=>True
def ae.lift{R:Nat->Prop}{m m1:Me}{r:Rz}{rd:Rd}(h:Le m m1)(q:ae (Rf R m.length) m1 r rd):ae R m r rd:=by
 have hl:=h.len;have fr:∀(m':Me) (d:Dat) (w:Wd),ag (Rf (Rf R m.length) m1.length) m' d w->ag (Rf R m.length) m' d w:=λm' d w=>ag.frame (λl o z k=>⟨by rcases z with (z|z)|z;exact .inl z;exact .inr z;exact .inr (by lia),k⟩) d w;cases rd with
 |ok d=>obtain⟨w,m',rfl,k,z⟩:=q;exact⟨w,m',rfl,h.trans k,fr _ _ _ z⟩
 |exc c d=>obtain⟨w,m',rfl,k,z⟩:=q;exact⟨w,m',rfl,h.trans k,fr _ _ _ z⟩
 |no=>trivial
theorem ae.bind{R:Nat->Prop}{m:Me}{r:Rz}{rd:Rd}{f:Wd->Me->Rz}{g:Dat->Rd}(h:ae R m r rd)
  (k:∀d w m',Le m m'->ag (Rf R m.length) m' d w->ae (Rf R m.length) m' (f w m') (g d)):ae R m (r.bind f) (rd.bind g):=by
 cases rd with
 |ok d=>obtain⟨w,m',rfl,l,z⟩:=h;exact ae.lift l (k d w m' l z)
 |exc c d=>obtain⟨w,m',rfl,l,z⟩:=h;exact⟨w,m',rfl,l,z⟩
 |no=>trivial
def cS (h:ag R m d w):ae R m (.ok w m) (.ok d):=
 ⟨w,m,rfl,Le.refl m,h.up _ (Le.refl m)⟩
theorem ae.no{R:Nat->Prop}{m:Me}{r:Rz}:ae R m r .no:=trivial
def ae.new{R:Nat->Prop}{m:Me}{ds:List Dat}{xs:List Wd}(h:aa R m ds xs):ae R m (alloc m xs) (bo ds):=by
 unfold bo alloc;rw[h.len];by_cases z:xs.length<=aq
 .rw[Lp z,Lp z];exact⟨_,_,rfl,Le.app m _,az.mpr ⟨_,xs,rfl,.inr (Qg _),by simp,h.up _ (Le.app m _)⟩⟩
 .rw[Lq z,Lq z];exact ae.no
def xB (h:ag R m d w)(z:yY d=some ds):∃xs,yG m w=some xs/\aa R m ds xs:=by
 cases d with
 |tup es=>obtain⟨xs,rfl,q⟩:=ah.mp h;cases z;exact⟨xs,rfl,q⟩
 |lst es=>
  obtain⟨l,xs,rfl,_,e,q⟩:=az.mp h;cases z;exact⟨xs,by show zn m l=_;unfold zn;rw[e],q⟩
 |scr ns=>rw[bi.mp h];cases z;exact⟨_,rfl,eQ ns⟩
 |_=>cases z
def js (h:ag R m d w)(z:dn d=some ds):∃xs,vm m w=some xs/\aa R m ds xs:=by
 cases d with
 |lst es=>
  obtain⟨l,xs,rfl,_,e,q⟩:=az.mp h;cases z;exact⟨xs,by show zn m l=_;unfold zn;rw[e],q⟩
 |scr ns=>rw[bi.mp h];cases z;exact⟨_,rfl,eQ ns⟩
 |_=>cases z
theorem r0:∀{a b:List Int},a.map Wd.int=b.map Wd.int->a=b
 |[],[],_=>rfl
 |[],_::_,h=>by cases h
 |_::_,[],h=>by cases h
 |x::a,y::b,h=>by
  simp only[QJ,List.cons.injEq,Wd.int.injEq]at h;rw[h.1,r0 h.2]
mutual
theorem ag.det{R R':Nat->Prop}{m:Me}:∀(d e:Dat) (w:Wd),ag R m d w->ag R' m e w->d=e
 |.non,e,w,q,z=>by rw[aN.mp q]at z;cases e<;>unfold ag at z<;>first|rfl|(exfalso;simp at z)
 |.bl b,e,w,q,z=>by rw[ak.mp q]at z;cases e<;>unfold ag at z<;>first|(injection z with z;rw[z])|(exfalso;simp at z)
 |.int b,e,w,q,z=>by rw[ab.mp q]at z;cases e<;>unfold ag at z<;>first|(injection z with z;rw[z])|(exfalso;simp at z)
 |.str b,e,w,q,z=>by rw[aR.mp q]at z;cases e<;>unfold ag at z<;>first|(injection z with z;rw[z])|(exfalso;simp at z)
 |.scr b,e,w,q,z=>by rw[bi.mp q]at z;cases e<;>unfold ag at z<;>first|(injection z with z;rw[r0 z])|(exfalso;simp at z)
 |.tup ds,e,w,q,z=>by
  obtain⟨xs,rfl,q1⟩:=ah.mp q;cases e with
  |tup es=>obtain⟨ys,e,z1⟩:=ah.mp z;cases e;rw[aa.det ds es xs q1 z1]
  |_=>exfalso;unfold ag at z;simp at z
 |.lst ds,e,w,q,z=>by
  obtain⟨l,xs,rfl,_,hm,q1⟩:=az.mp q;cases e with
  |lst es=>obtain⟨l',ys,e,_,hn,z1⟩:=az.mp z;cases e;rw[hm]at hn;cases hn;rw[aa.det ds es xs q1 z1]
  |dct ks es=>obtain⟨l',ys,e,_,hn,z1⟩:=aU.mp z;cases e;rw[hm]at hn;cases hn
  |_=>exfalso;unfold ag at z;simp at z
 |.dct ks ds,e,w,q,z=>by
  obtain⟨l,xs,rfl,_,hm,q1⟩:=aU.mp q;cases e with
  |dct ks' es=>obtain⟨l',ys,e,_,hn,z1⟩:=aU.mp z;cases e;rw[hm]at hn;cases hn;rw[aa.det ds es xs q1 z1]
  |lst es=>obtain⟨l',ys,e,_,hn,z1⟩:=az.mp z;cases e;rw[hm]at hn;cases hn
  |_=>exfalso;unfold ag at z;simp at z
theorem aa.det{R R':Nat->Prop}{m:Me}:∀(ds es:List Dat) (xs:List Wd),aa R m ds xs->aa R' m es xs->ds=es
 |[],es,xs,q,z=>by
  rw[q.nil_inv]at z;cases es with
  |nil=>rfl
  |cons e es=>obtain⟨_,_,h,_⟩:=z.cons_inv;cases h
 |d::ds,es,xs,q,z=>by
  obtain⟨x,r,rfl,a,b⟩:=q.cons_inv;cases es with
  |nil=>cases z.nil_inv
  |cons e es=>
   obtain⟨_,_,h,a',b'⟩:=z.cons_inv;cases h;rw[ag.det d e x a a',aa.det ds es r b b']
end
def oF(d:Dat):xC 0 d=false:=by cases d<;>rfl
mutual
theorem tq:∀(k:Nat) (d:Dat),xC k d=true->dr d d=true
 |0,d,h=>by rw[oF]at h;cases h
 |k+1,.int b,h=>by show decide (b=b)=true;simp
 |k+1,.tup ds,h=>bL k ds h
 |k+1,.lst ds,h=>bL k ds h
 |k+1,.non,h=>Lr (show false=true from h) (by decide)
 |k+1,.bl _,h=>Lr (show false=true from h) (by decide)
 |k+1,.str _,h=>Lr (show false=true from h) (by decide)
 |k+1,.scr _,h=>Lr (show false=true from h) (by decide)
 |k+1,.dct _ _,h=>Lr (show false=true from h) (by decide)
theorem bL:∀(k:Nat) (ds:List Dat),bC k ds=true->cr ds ds=true
 |k,[],h=>rfl
 |k,d::ds,h=>by
  replace h:(xC k d&&bC k ds)=true:=h
  show(dr d d&&cr ds ds)=true;rw[Qh]at h ⊢;exact⟨tq k d h.1,bL k ds h.2⟩
end
theorem qm (ih:∀(d e:Dat) (x y:Wd),xC k d=true->xC k e=true->ag R m d x->ag R m e y->cu m k x y=some (dr d e)):
  ∀(ds es:List Dat) (xs ys:List Wd),bC k ds=true->bC k es=true->aa R m ds xs->aa R m es ys->∃q,cP (cu m k) xs ys=some q/\(q&&decide (xs.length=ys.length))=cr ds es
 |[],es,xs,ys,h1,h2,a,b=>by
  rw[a.nil_inv];cases es with
  |nil=>rw[b.nil_inv];exact⟨true,rfl,rfl⟩
  |cons e es=>obtain⟨y,r,rfl,_,_⟩:=b.cons_inv;exact⟨true,rfl,rfl⟩
 |d::ds,es,xs,ys,h1,h2,a,b=>by
  obtain⟨x,r,rfl,p,q⟩:=a.cons_inv;cases es with
  |nil=>rw[b.nil_inv];exact⟨true,rfl,rfl⟩
  |cons e es=>
   obtain⟨y,s,rfl,p',q'⟩:=b.cons_inv
   replace h1:(xC k d&&bC k ds)=true:=h1
   replace h2:(xC k e&&bC k es)=true:=h2
   rw[Qh]at h1 h2;obtain⟨t,ht,hb⟩:=qm ih ds es r s h1.2 h2.2 q q';refine⟨dr d e&&t,?_,?_⟩
   .unfold cP;rw[ih d e x y h1.1 h2.1 p p',ht];rfl
   .show (dr d e&&t&&decide (r.length+1=s.length+1))=(dr d e&&cr ds es);simp only[<-hb,Nat.succ_inj,Bool.and_assoc]
def bI (h:m[l]?=some (.lst xs)):bm m l=true:=by unfold bm;rw[h]
def kD (h:m[l]?=some (.lst xs)):(if bm m l&&true then some false else none)=some false:=by rw[bI h];rfl
theorem lM:∀(k:Nat) (d e:Dat) (x y:Wd),xC k d=true->xC k e=true->ag R m d x->ag R m e y->cu m k x y=some (dr d e)
 |0,d,e,x,y,h,_,_,_=>by rw[oF]at h;cases h
 |k+1,d,e,x,y,h1,h2,a,b=>by
  have ih:=lM (R:=R) (m:=m) k;cases d with
  |tup ds=>
   obtain⟨xs,rfl,a1⟩:=ah.mp a;cases e with
   |tup es=>
    obtain⟨ys,rfl,b1⟩:=ah.mp b;obtain⟨q,h,e⟩:=qm ih ds es xs ys h1 h2 a1 b1;show(cP (cu m k) xs ys).map (· && decide (xs.length=ys.length))=some (cr ds es);rw[h,<-e];rfl
   |lst es=>
    obtain⟨l,ys,rfl,_,hm,b⟩:=az.mp b;exact kD hm
   |int _=>rw[ab.mp b];rfl
   |_=>exact Lr (show false=true from h2) (by decide)
  |lst ds=>
   have a0:=a;obtain⟨l,xs,rfl,_,hm,a⟩:=az.mp a;cases e with
   |lst es=>
    have b0:=b;obtain⟨l',ys,rfl,_,hn,b⟩:=az.mp b;show(if l=l' then(if bm m l then some true else none)else match m[l]?,m[l']? with
     |some (.lst xs),some (.lst ys)=>if xs.length=ys.length then cP (cu m k) xs ys else some false
     |_,_=>none)=_
    by_cases q:l=l'
    .subst q;rw[Lp rfl,Lp (bI hm)];rw[ag.det _ _ _ a0 b0]at *
     rw[tq (k+1) _ h2]
    .rw[Lq q,hm,hn];obtain⟨q,h,e⟩:=qm ih ds es xs ys h1 h2 a b;show(if xs.length=ys.length then cP (cu m k) xs ys else some false)=some (cr ds es);by_cases z:xs.length=ys.length
     .simp only[z,if_true,h,<-e];simp
     .simp only[z,if_false,<-e];simp
   |tup es=>obtain⟨ys,rfl,b⟩:=ah.mp b;exact kD hm
   |int _=>rw[ab.mp b];exact kD hm
   |_=>exact Lr (show false=true from h2) (by decide)
  |int _=>
   rw[ab.mp a];cases e with
   |lst es=>obtain⟨l',ys,rfl,_,hn,b⟩:=az.mp b;exact kD hn
   |tup es=>obtain⟨ys,rfl,b⟩:=ah.mp b;rfl
   |int _=>rw[ab.mp b];rfl
   |_=>exact Lr (show false=true from h2) (by decide)
  |_=>exact Lr (show false=true from h1) (by decide)
set_option tactic.hygienic true in
def rQ (h:io d e=some q)(a:ag R m d x)(b:ag R m e y):cu m yD x y=some q:=by
 unfold io at h;split at h
 .next z=>simp only[Qh]at z;cases h;exact lM yD d e x y z.1 z.2 a b
 .cases h
theorem rl (h:xC yD d=true)(a:ag R m d x):∀(es:List Dat) (ys:List Wd),bC yD es=true->aa R m es ys->ei (cu m yD) x ys=some (es.any λe=>dr e d)
 |[],ys,_,b=>by rw[b.nil_inv];rfl
 |e::es,ys,z,b=>by
  obtain⟨y,r,rfl,p,q⟩:=b.cons_inv
  replace z:(xC yD e&&bC yD es)=true:=z
  rw[Qh]at z;show(match cu m yD y x with
   |some a=>(ei (cu m yD) x r).map (a || ·)
   |none=>none)=_
  rw[lM yD e d y x z.1 h p a,rl h a es r z.2 q];rfl
set_option tactic.hygienic true in
def CU (h:mT d es=some q)(a:ag R m d x)(b:aa R m es ys):ei (cu m yD) x ys=some q:=by
 unfold mT at h;split at h
 .next z=>simp only[Qh]at z;cases h;exact rl z.1 a es ys z.2 b
 .cases h
theorem ae.int{R:Nat->Prop}{m:Me}{i:Int}:ae R m (.ok (.int i) m) (.ok (.int i)):=cS (ab.mpr rfl)
theorem ae.bl{R:Nat->Prop}{m:Me}{i:Bool}:ae R m (.ok (.bl i) m) (.ok (.bl i)):=cS (ak.mpr rfl)
def qo (op:Bo)(a:ag R m d x)(b:ag R m e y):ae R m (cQ op x y m) (ym op d e):=by
 cases d with
 |int i=>
  rw[ab.mp a];cases e with
  |int j=>
   rw[ab.mp b];cases op<;>simp only[cQ,ym]
   .exact ae.int
   .exact ae.int
   .by_cases z:(small i || small j)=true
    .rw[Lp z,Lp z];exact ae.int
    .rw[Lq z,Lq z];exact ae.no
   .by_cases z:0<j/\j<1073741824
    .rw[Lp z,Lp z];exact ae.int
    .rw[Lq z,Lq z];exact ae.no
   .by_cases z:0<j
    .rw[Lp z,Lp z];exact ae.int
    .rw[Lq z,Lq z];exact ae.no
   .by_cases z:0<=j/\j<=1000
    .rw[Lp z,Lp z];exact ae.int
    .rw[Lq z,Lq z];exact ae.no
   .by_cases z:0<=i/\j=1
    .rw[Lp z,Lp z];exact ae.int
    .rw[Lq z,Lq z];exact ae.no
   .by_cases z:i.natAbs.log2<100000/\j.natAbs.log2<100000
    .rw[Lp z,Lp z];exact ae.int
    .rw[Lq z,Lq z];exact ae.no
   .by_cases z:0<j/\j.natAbs.log2<9000
    .rw[Lp z,Lp z];exact ae.int
    .rw[Lq z,Lq z];exact ae.no
  |_=>exact ae.no
 |lst ds=>
  obtain⟨l,xs,rfl,_,hm,a1⟩:=az.mp a;cases e with
  |lst es=>
   obtain⟨l',ys,rfl,_,hn,b1⟩:=az.mp b;cases op<;>first|exact ae.no|skip
   simp only[cQ,ym,hm,hn];exact ae.new (a1.app b1)
  |int k=>
   rw[ab.mp b];cases op<;>first|exact ae.no|skip
   simp only[cQ,ym,hm];by_cases z:-(aq:Int)<=k/\k<=(aq:Int)
   .rw[Lp z,Lp z];exact ae.new (a1.rep _)
   .rw[Lq z,Lq z];exact ae.no
  |_=>exact ae.no
 |tup ds=>
  obtain⟨xs,rfl,a1⟩:=ah.mp a;cases e with
  |tup es=>
   obtain⟨ys,rfl,b1⟩:=ah.mp b;cases op<;>first|exact ae.no|skip
   simp only[cQ,ym];have h1:=a1.len;have h2:=b1.len;rw[h1,h2];by_cases z:xs.length+ys.length<=aq
   .rw[Lp z,Lp z];exact cS (ah.mpr ⟨_,rfl,a1.app b1⟩)
   .rw[Lq z,Lq z];exact ae.no
  |_=>exact ae.no
 |_=>exact ae.no
def kE (r:Int->Int->Bool)(a:ag R m d x)(b:ag R m e y):ae R m (kN r x y m) (fL r d e):=by
 cases d with
 |int i=>
  rw[ab.mp a];cases e with
  |int j=>rw[ab.mp b];exact ae.bl
  |_=>exact ae.no
 |_=>exact ae.no
def rk (h:∀b,q=some b->p=some b):ae R m (dF p m) (fM q):=by
 cases q with
 |none=>exact ae.no
 |some b=>rw[h b rfl];exact ae.bl
def Eg (h:∀b,q=some b->p=some b):ae R m (dF (p.map (!·)) m) (fM (q.map (!·))):=by
 cases q with
 |none=>exact ae.no
 |some b=>rw[h b rfl];exact ae.bl
theorem vZ:∀{ds:List Dat}{xs:List Wd}{k:List Int},aa R m ds xs->zy ds=some k->yg xs=some k
 |[],xs,k,a,h=>by rw[a.nil_inv];exact h
 |d::ds,xs,k,a,h=>by
  obtain⟨x,r,rfl,p,q⟩:=a.cons_inv;cases d with
  |int j=>
   rw[ab.mp p];simp only[zy,QF]at h;obtain⟨k,hk,rfl⟩:=h;simp only[yg,vZ q hk,QY]
  |_=>simp[zy]at h
def qp (op:Co)(a:ag R m d x)(b:ag R m e y):ae R m (fi op x y m) (wm op d e):=by
 cases op with
 |eq=>exact rk λq h=>rQ h a b
 |ne=>exact Eg λq h=>rQ h a b
 |isin=>
  simp only[fi,wm];cases z:yY e with
  |none=>exact ae.no
  |some es=>
   obtain⟨ys,h,q⟩:=xB b z;rw[h];exact rk λt h=>CU h a q
 |lt=>exact kE _ a b
 |le=>exact kE _ a b
 |gt=>exact kE _ a b
 |ge=>exact kE _ a b
def CT (t:Tg)(a:ag R m d x):ae R m (dF (cJ t x m) m) (.ok (.bl (iU t d))):=by
 have h:cJ t x m=some (iU t d):=by
  cases d with
  |non=>rw[aN.mp a];cases t<;>rfl
  |bl _=>rw[ak.mp a];cases t<;>rfl
  |int _=>rw[ab.mp a];cases t<;>rfl
  |str _=>rw[aR.mp a];cases t<;>rfl
  |scr _=>rw[bi.mp a];cases t<;>rfl
  |tup _=>obtain⟨xs,rfl,_⟩:=ah.mp a;cases t<;>rfl
  |lst _=>obtain⟨l,xs,rfl,_,hm,_⟩:=az.mp a;cases t<;>(show(match m[l]? with|some (.lst _)=>_|some (.dct _ _)=>_|none=>_)=_;rw[hm];rfl)
  |dct _ _=>obtain⟨l,xs,rfl,_,hm,_⟩:=aU.mp a;cases t<;>(show(match m[l]? with|some (.lst _)=>_|some (.dct _ _)=>_|none=>_)=_;rw[hm];rfl)
 rw[h];exact ae.bl
def xP (a:ag R m d x)(h:yI d=some k):ky x=some k:=by
 cases d with
 |tup ds=>obtain⟨xs,rfl,q⟩:=ah.mp a;exact vZ q h
 |_=>cases h
theorem qr:∀{ks:List (List Int)}{ds:List Dat}{xs:List Wd}{d:Dat},aa R m ds xs->cb ks ds q=some d->∃x,cb ks xs q=some x/\ag R m d x
 |[],ds,xs,d,a,h=>by cases ds<;>cases h
 |k::ks,[],xs,d,a,h=>by cases h
 |k::ks,e::ds,xs,d,a,h=>by
  obtain⟨x,r,rfl,p,z⟩:=a.cons_inv;have h':(if k=q then some e else cb ks ds q)=some d:=h;show ∃y,(if k=q then some x else cb ks r q)=some y/\_;by_cases c:k=q
  .rw[Lp c]at h' ⊢;cases h';exact⟨x,rfl,p⟩
  .rw[Lq c]at h' ⊢;exact qr z h'
theorem tm:∀{ks:List (List Int)}{ds:List α}{xs:List β},ds.length=xs.length->cb ks ds q=none->cb ks xs q=none
 |[],_,_,_,_=>rfl
 |k::ks,[],xs,h,_=>by cases xs with
  |nil=>rfl
  |cons _ _=>cases h
 |k::ks,d::ds,[],h,_=>by cases h
 |k::ks,d::ds,x::xs,h,e=>by
  have e':(if k=q then some d else cb ks ds q)=none:=e;show(if k=q then some x else cb ks xs q)=none;by_cases c:k=q
  .rw[Lp c]at e';cases e'
  .rw[Lq c]at e' ⊢;exact tm (by simpa using h) e'
def tj (a:ag R m d x)(b:ag R m e y):ae R m (kQ x y m) (wT d e):=by
 cases d with
 |dct ks ds=>
  obtain⟨l,xs,rfl,_,hm,q⟩:=aU.mp a;unfold wT kQ;simp only[hm];cases hk:yI e with
  |none=>exact ae.no
  |some k=>
   rw[xP b hk];simp only[VS];cases hv:cb ks ds k with
   |none=>exact ae.no
   |some v=>
    obtain⟨w,h1,h2⟩:=qr q hv;rw[h1];exact cS h2
 |_=>exact ae.no
theorem qt:∀{ds:List Dat}{xs:List Wd}{i:Int},aa R m ds xs->vG ds=some i->jK xs=some i
 |[],xs,i,a,h=>by rw[a.nil_inv];exact h
 |d::ds,xs,i,a,h=>by
  obtain⟨x,r,rfl,p,q⟩:=a.cons_inv;cases d with
  |int j=>
   rw[ab.mp p];simp only[vG,QF]at h;obtain⟨k,hk,rfl⟩:=h;simp only[jK,qt q hk,QY]
  |_=>simp[vG]at h
theorem rh:∀{ds:List Dat}{xs:List Wd}{i:Bool},aa R m ds xs->eU ds=some i->eX xs=some i
 |[],xs,i,a,h=>by rw[a.nil_inv];exact h
 |d::ds,xs,i,a,h=>by
  obtain⟨x,r,rfl,p,q⟩:=a.cons_inv;cases d with
  |bl j=>
   rw[ak.mp p];simp only[eU,QF]at h;obtain⟨k,hk,rfl⟩:=h;simp only[eX,rh q hk,QY]
  |_=>simp[eU]at h
theorem wq:∀{ds:List Dat}{xs:List Wd}{k:List Int},aa R m ds xs->zy ds=some k->yg xs=some k
 |[],xs,k,q,h=>by rw[q.nil_inv];exact h
 |d::ds,xs,k,q,h=>by
  obtain⟨x,r,rfl,a,b⟩:=q.cons_inv;cases d with
  |int i=>
   have h':(zy ds).map (i::·)=some k:=h;obtain⟨k',e,rfl⟩:=QF.mp h';rw[ab.mp a];show(yg r).map (i::·)=_;rw[wq b e];rfl
  |_=>cases h
theorem tf:∀{ds:List Dat}{xs:List Wd}{ks:List (List Int)},aa R m ds xs->fX ds=some ks->kh m xs=some ks
 |[],xs,k,q,h=>by rw[q.nil_inv];exact h
 |d::ds,xs,ks,q,h=>by
  obtain⟨x,r,rfl,a,b⟩:=q.cons_inv;cases d with
  |lst es=>
   have h':(match zy es,fX ds with
    |some k,some ks=>some (k::ks)
    |_,_=>none)=some ks:=h
   cases e1:zy es with
   |none=>simp only[e1]at h';cases h'
   |some k=>
    cases e2:fX ds with
    |none=>simp only[e1,e2]at h';cases h'
    |some ks'=>
     simp only[e1,e2]at h';cases h';obtain⟨l,us,rfl,_,hm,q1⟩:=az.mp a;show(match zn m l with
      |some xs=>match yg xs,kh m r with
       |some k,some ks=>some (k::ks)
       |_,_=>none
      |none=>none)=_
     have e3:zn m l=some us:=by unfold zn;rw[hm]
     simp only[e3,wq q1 e1,tf b e2]
  |_=>cases h
def CS (q:aa R m ds xs)(h:eT ds=some k):qM m xs=some k:=by
 unfold eT at h;cases e:zy ds with
 |some k'=>
  rw[e]at h;unfold qM;rw[wq q e];exact h
 |none=>
  rw[e]at h;obtain⟨kk,h1,h2⟩:=QB.mp h;have h3:=tf q h1;cases ds with
  |nil=>cases h1;cases h2
  |cons d ds=>
   cases d with
   |lst es=>
    obtain⟨x,r,rfl,a,b⟩:=q.cons_inv;obtain⟨l,us,rfl,_⟩:=az.mp a;show(kh m (.ref l::r)).bind iI=_;rw[h3];exact h2
   |_=>cases h1
theorem sZ:∀{ds:List Dat}{xs:List Wd}{ks:List (List Int)},aa R m ds xs->xA ds=some ks->wQ m xs=some ks
 |[],xs,k,q,h=>by rw[q.nil_inv];exact h
 |d::ds,xs,ks,q,h=>by
  obtain⟨x,r,rfl,a,b⟩:=q.cons_inv;cases d with
  |lst es=>
   have h':(match eT es,xA ds with
    |some k,some ks=>some (k::ks)
    |_,_=>none)=some ks:=h
   cases e1:eT es with
   |none=>simp only[e1]at h';cases h'
   |some k=>
    cases e2:xA ds with
    |none=>simp only[e1,e2]at h';cases h'
    |some ks'=>
     simp only[e1,e2]at h';cases h';obtain⟨l,us,rfl,_,hm,q1⟩:=az.mp a;show(match zn m l with
      |some xs=>match qM m xs,wQ m r with
       |some k,some ks=>some (k::ks)
       |_,_=>none
      |none=>none)=_
     have e3:zn m l=some us:=by unfold zn;rw[hm]
     simp only[e3,CS q1 e1,sZ b e2]
  |_=>cases h
theorem p9 (a:ag R m d x):∀{ps:List (List Int×Dat)}{qs:List (List Int×Wd)},ps.map Prod.fst=qs.map Prod.fst->aa R m (ps.map Prod.snd) (qs.map Prod.snd) ->
  (zw (k,d) ps).map Prod.fst=(zw (k,x) qs).map Prod.fst/\aa R m ((zw (k,d) ps).map Prod.snd) ((zw (k,x) qs).map Prod.snd)
 |[],[],_,_=>⟨rfl,.cons a .nil⟩
 |[],_::_,h,_=>by cases h
 |_::_,[],h,_=>by cases h
 |p::ps,q::qs,h,r=>by
  obtain⟨h1,h2⟩:=List.cons.inj (show p.1::ps.map Prod.fst=q.1::qs.map Prod.fst from h);obtain⟨_,_,e,r1,r2⟩:=aa.cons_inv (show aa R m (p.2::ps.map Prod.snd) (q.2::qs.map Prod.snd)from r);cases e;show(if bZ k p.1 then(k,d)::p::ps else p::zw (k,d) ps).map Prod.fst=(if bZ k q.1 then(k,x)::q::qs else q::zw (k,x) qs).map Prod.fst/\aa R m ((if bZ k p.1 then(k,d)::p::ps else p::zw (k,d) ps).map Prod.snd) ((if bZ k q.1 then(k,x)::q::qs else q::zw (k,x) qs).map Prod.snd);rw[h1];cases bZ k q.1 with
  |true=>exact⟨Ls (k::·) h,.cons a r⟩
  |false=>
   obtain⟨i1,i2⟩:=p9 a h2 r2;exact⟨by show p.1::(zw (k,d) ps).map Prod.fst=q.1::(zw (k,x) qs).map Prod.fst;rw[h1,i1],.cons r1 i2⟩
theorem sY:∀{ks:List (List Int)}{ds:List Dat}{xs:List Wd},aa R m ds xs ->
  (zG (ks.zip ds)).map Prod.fst=(zG (ks.zip xs)).map Prod.fst/\aa R m ((zG (ks.zip ds)).map Prod.snd) ((zG (ks.zip xs)).map Prod.snd)
 |[],_,_,_=>⟨rfl,.nil⟩
 |_::_,[],xs,r=>by rw[r.nil_inv];exact⟨rfl,.nil⟩
 |k::ks,d::ds,xs,r=>by
  obtain⟨x,us,rfl,r1,r2⟩:=r.cons_inv;obtain⟨i1,i2⟩:=sY (ks:=ks) r2;rw[Wv,Wv,yt,yt];exact p9 r1 i1 i2
def Ef (q:aa R m ds xs)(h:xz Dat ks ds=some es):∃ys,xz Wd ks xs=some ys/\aa R m es ys:=by
 obtain⟨e1,e2⟩:=sY (ks:=ks) q;rw[vn]at h;have h':(if xJ ((zG (ks.zip ds)).map Prod.fst)then some ((zG (ks.zip ds)).map Prod.snd)else none)=some es:=h;rw[vn];show ∃ys,(if xJ ((zG (ks.zip xs)).map Prod.fst)then some ((zG (ks.zip xs)).map Prod.snd)else none)=some ys/\aa R m es ys;rw[e1]at h';cases z:xJ ((zG (ks.zip xs)).map Prod.fst)with
 |false=>rw[z]at h';cases h'
 |true=>rw[z]at h';cases h';exact⟨_,rfl,e2⟩
def CQ (b:dZ)(a:aa R m ds xs):ae R m (kx b xs m) (xf b ds):=by
 have one:∀{d:Dat}{xs:List Wd},aa R m [d] xs->∃x,xs=[x]/\ag R m d x:=by
  intro d xs h;obtain⟨x,r,rfl,p,q⟩:=h.cons_inv;rw[q.nil_inv];exact⟨x,rfl,p⟩
 cases b with
 |len=>
  cases ds with
  |nil=>exact ae.no
  |cons d ds=>
   cases ds with
   |cons _ _=>exact ae.no
   |nil=>
    obtain⟨x,rfl,p⟩:=one a;show ae R m _ (match yY d with|some i=>.ok (.int i.length)|none=>.no);cases z:yY d with
    |none=>exact ae.no
    |some i=>
     obtain⟨ys,h,q⟩:=xB p z;simp only[kx,h,q.len];exact ae.int
 |int=>
  cases ds with
  |nil=>exact ae.no
  |cons d ds=>
   cases d with
   |int i=>
    cases ds with
    |cons _ _=>exact ae.no
    |nil=>obtain⟨x,rfl,p⟩:=one a;rw[ab.mp p];exact ae.int
   |bl i=>
    cases ds with
    |cons _ _=>exact ae.no
    |nil=>obtain⟨x,rfl,p⟩:=one a;rw[ak.mp p];exact ae.int
   |_=>exact ae.no
 |list=>
  cases ds with
  |nil=>exact ae.no
  |cons d ds=>
   cases ds with
   |cons _ _=>exact ae.no
   |nil=>
    obtain⟨x,rfl,p⟩:=one a;show ae R m _ (match yY d with|some i=>bo i|none=>.no);cases z:yY d with
    |none=>exact ae.no
    |some i=>
     obtain⟨ys,h,q⟩:=xB p z;simp only[kx,h];exact ae.new q
 |tuple=>
  cases ds with
  |nil=>exact ae.no
  |cons d ds=>
   cases ds with
   |cons _ _=>exact ae.no
   |nil=>
    obtain⟨x,rfl,p⟩:=one a;show ae R m _ (match yY d with|some i=>.ok (.tup i)|none=>.no);cases z:yY d with
    |none=>exact ae.no
    |some i=>
     obtain⟨ys,h,q⟩:=xB p z;simp only[kx,h];exact cS (ah.mpr ⟨_,rfl,q⟩)
 |sum=>
  cases ds with
  |nil=>exact ae.no
  |cons d ds=>
   cases ds with
   |cons _ _=>exact ae.no
   |nil=>
    obtain⟨x,rfl,p⟩:=one a;show ae R m _ (match (dn d).bind vG with|some i=>.ok (.int i)|none=>.no);cases z:(dn d).bind vG with
    |none=>exact ae.no
    |some i=>
     obtain⟨es,z1,z2⟩:=QB.mp z;obtain⟨ys,h,q⟩:=js p z1;simp only[kx,h,QS,qt q z2];exact ae.int
 |all=>
  cases ds with
  |nil=>exact ae.no
  |cons d ds=>
   cases ds with
   |cons _ _=>exact ae.no
   |nil=>
    obtain⟨x,rfl,p⟩:=one a;show ae R m _ (match (dn d).bind eU with|some i=>.ok (.bl i)|none=>.no);cases z:(dn d).bind eU with
    |none=>exact ae.no
    |some i=>
     obtain⟨es,z1,z2⟩:=QB.mp z;obtain⟨ys,h,q⟩:=js p z1;simp only[kx,h,QS,rh q z2];exact ae.bl
 |sorted=>
  cases ds with
  |nil=>exact ae.no
  |cons d ds=>
   cases d with
   |lst es=>
    cases ds with
    |cons _ _=>exact ae.no
    |nil=>
     obtain⟨x,rfl,p⟩:=one a;obtain⟨l,us,rfl,_,hm,q⟩:=az.mp p;show ae R m _ (match (xA es).bind λks=>xz Dat ks es with|some i=>bo i|none=>.no);cases z:(xA es).bind λks=>xz Dat ks es with
     |none=>exact ae.no
     |some i=>
      obtain⟨ks,h1,h2⟩:=QB.mp z;obtain⟨ys,h3,q3⟩:=Ef q h2;have e3:zn m l=some us:=by unfold zn;rw[hm]
      have e4:((wQ m us).bind λks=>xz Wd ks us)=some ys:=by rw[sZ q h1];exact h3
      simp only[kx,e3,e4];exact ae.new q3
   |_=>exact ae.no
 |minS=>
  cases ds with
  |nil=>exact ae.no
  |cons d ds=>
   cases ds with
   |cons _ _=>exact ae.no
   |nil=>
    obtain⟨x,rfl,p⟩:=one a;show ae R m _ (match (yY d).bind zy with|some (i::r)=>.ok (.int (yU i r))|_=>.no);cases z:(yY d).bind zy with
    |none=>exact ae.no
    |some k=>
     cases k with
     |nil=>exact ae.no
     |cons i k=>
      obtain⟨es,z1,z2⟩:=QB.mp z;obtain⟨ys,h,q⟩:=xB p z1;simp only[kx,h,QS,wq q z2];exact ae.int
 |maxS=>
  cases ds with
  |nil=>exact ae.no
  |cons d ds=>
   cases ds with
   |cons _ _=>exact ae.no
   |nil=>
    obtain⟨x,rfl,p⟩:=one a;show ae R m _ (match (yY d).bind zy with|some (i::r)=>.ok (.int (xm i r))|_=>.no);cases z:(yY d).bind zy with
    |none=>exact ae.no
    |some k=>
     cases k with
     |nil=>exact ae.no
     |cons i k=>
      obtain⟨es,z1,z2⟩:=QB.mp z;obtain⟨ys,h,q⟩:=xB p z1;simp only[kx,h,QS,wq q z2];exact ae.int
def CP (a:ag R m d x)(b:ag R m e y):ae R m (qN x y m) (xg d e):=by
 cases e with
 |int i=>
  rw[ab.mp b];simp only[xg,qN];cases z:yY d with
  |none=>exact ae.no
  |some ds=>
   obtain⟨xs,h,q⟩:=xB a z;simp only[h];cases z:(ix ds.length i).bind λj=>ds[j]? with
   |none=>exact ae.no
   |some v=>
    obtain⟨j,h1,h2⟩:=QB.mp z;obtain⟨x,h3,p⟩:=q.get h2;rw[q.len]at h1;simp only[h1,QS,h3];exact cS p
 |_=>exact ae.no
def oN{x:Wd}{m:Me}{lo hi:Option Int}(h:∀xs,x≠.tup xs):e8 x lo hi m=match vm m x with
  |some xs=>alloc m ((xs.drop (aP xs.length 0 lo)).take (aP xs.length xs.length hi-aP xs.length 0 lo))
  |none=>.no:=by
 cases x with
 |tup xs=>exact Lr rfl (h xs)
 |_=>rfl
def p8{d:Dat}{lo hi:Option Int}(h:∀ds,d≠.tup ds):eI d lo hi=match dn d with
  |some xs=>bo ((xs.drop (aP xs.length 0 lo)).take (aP xs.length xs.length hi-aP xs.length 0 lo))
  |none=>.no:=by
 cases d with
 |tup xs=>exact Lr rfl (h xs)
 |_=>rfl
def p7 (a:ag R m d x)(h:∀ds,d≠.tup ds):∀xs,x≠.tup xs:=λxs e=>by
 subst e;cases d with
 |tup ds=>exact h ds rfl
 |non=>have:=aN.mp a;cases this
 |bl _=>have:=ak.mp a;cases this
 |int _=>have:=ab.mp a;cases this
 |str _=>have:=aR.mp a;cases this
 |scr _=>have:=bi.mp a;cases this
 |lst _=>obtain⟨l,ys,e,_⟩:=az.mp a;cases e
 |dct _ _=>obtain⟨l,ys,e,_⟩:=aU.mp a;cases e
def p6 (lo hi:Option Int)(a:ag R m (.tup ds) x):ae R m (e8 x lo hi m) (eI (.tup ds) lo hi):=by
 obtain⟨xs,rfl,q⟩:=ah.mp a;simp only[eI,e8,q.len];by_cases z:aP xs.length 0 lo=0/\aP xs.length xs.length hi=xs.length
 .rw[Lp z,Lp z];exact ae.no
 .rw[Lq z,Lq z];exact cS (ah.mpr ⟨_,rfl,(q.drop _).take _⟩)
def AK (lo hi:Option Int)(a:ag R m d x):ae R m (e8 x lo hi m) (eI d lo hi):=by
 by_cases t:∃ds,d=.tup ds
 .obtain ⟨ds,rfl⟩:=t;exact p6 lo hi a
 have t':∀ds,d≠.tup ds:=λds e=>t ⟨ds,e⟩;rw[oN (p7 a t'),p8 t'];cases z:dn d with
 |none=>exact ae.no
 |some ds=>
  obtain⟨xs,h,q⟩:=js a z;simp only[h,q.len];exact ae.new ((q.drop _).take _)
theorem jt (st:Int):∀(n:Nat) (lo:Int),aa R m (yA lo st n) (eV lo st n)
 |0,lo=>.nil
 |n+1,lo=>by
  have h:yA lo st (n+1)=.int lo::yA (lo+st) st n:=by
   unfold yA;rw[Vr,QJ,WO];congr 1
   .simp
   .apply W9;intro i _;show Dat.int _=Dat.int _;congr 1;rw[show((Nat.succ i:Nat):Int)=(i:Int)+1 from rfl,Int.mul_add,Int.mul_one];lia
  rw[h];exact .cons (ab.mpr rfl) (jt st n _)
def sX (a:ag R m d x)(h:fW d=some ks):gM x m=some ks:=by
 cases d with
 |lst ds=>
  obtain⟨l,xs,rfl,_,hm,q⟩:=az.mp a;unfold gM zn;simp only[hm,QS];exact vZ q h
 |_=>cases h
def CO (k:Dk)(a:ag R m d x)(b:ag R m e y)(c:ag R m f z):ae R m (wc k x y z m) (vH k d e f):=by
 cases k with
 |get=>
  cases d with
  |dct ks ds=>
   obtain⟨l,xs,rfl,_,hm,q⟩:=aU.mp a;unfold vH wc;simp only[hm];cases hk:yI e with
   |none=>exact ae.no
   |some k=>
    rw[xP b hk];simp only;cases hv:cb ks ds k with
    |none=>
     have:cb ks xs k=none:=tm q.len hv;rw[this];exact cS c
    |some v=>
     obtain⟨w,h1,h2⟩:=qr q hv;rw[h1];exact cS h2
  |_=>exact ae.no
 |one=>
  unfold vH wc;simp only;cases hk:yI e with
  |none=>exact ae.no
  |some k=>
   rw[xP b hk];exact⟨_,_,rfl,Le.app m _,aU.mpr ⟨_,[z],rfl,.inr (Qg _),by simp,.cons (ag.frame (λl o r h=>⟨.inl r,Le.app m _ l o h⟩) _ _ c) .nil⟩⟩
 |sum=>
  cases d with
  |dct ks ds=>
   obtain⟨l,xs,rfl,_,hm,q⟩:=aU.mp a;unfold vH wc;simp only[hm];cases hs:vG ds with
   |none=>exact ae.no
   |some i=>rw[qt q hs];exact ae.int
  |_=>exact ae.no
 |trg=>
  cases d with
  |int j=>
   obtain rfl:=ab.mp a;unfold vH wc;simp only;by_cases hc:-(aq:Int)<=j/\j<=aq
   .rw[Lp hc,Lp hc];exact cS (ah.mpr ⟨_,rfl,jt 1 _ 0⟩)
   .rw[Lq hc,Lq hc];exact ae.no
  |_=>exact ae.no
 |lix=>
  cases e with
  |int j=>
   obtain rfl:=ab.mp b;unfold vH wc;simp only;cases hr:fW d with
   |none=>exact ae.no
   |some ks=>
    rw[sX a hr];simp only[QS];cases vq j ks 0 with
    |none=>exact ae.no
    |some i=>exact ae.int
  |_=>exact ae.no
 |lct=>
  cases e with
  |int j=>
   obtain rfl:=ab.mp b;unfold vH wc;simp only;cases hr:fW d with
   |none=>exact ae.no
   |some ks=>
    rw[sX a hr];exact ae.int
  |_=>exact ae.no
 |lrv=>
  cases e with
  |int j=>
   obtain rfl:=ab.mp b;unfold vH wc;simp only;cases hr:dn d with
   |none=>exact ae.no
   |some ds=>
    obtain⟨xs,h,q⟩:=js a hr;rw[h];simp only;split
    .exact ae.new q.rev
    .exact ae.no
  |_=>exact ae.no
def Ee (a:ag R m d x)(h:iL k d=true):fV k x m=true:=by
 cases k with
 |one=>rfl
 |trg=>rfl
 |lrv=>rfl
 |lix=>
  cases d with
  |lst ds=>obtain⟨l,xs,rfl,_,hm,q⟩:=az.mp a;unfold fV yb bm;simp only[hm]
  |_=>cases h
 |lct=>
  cases d with
  |lst ds=>obtain⟨l,xs,rfl,_,hm,q⟩:=az.mp a;unfold fV yb bm;simp only[hm]
  |_=>cases h
 |get=>
  cases d with
  |dct ks ds=>
   obtain⟨l,xs,rfl,_,hm,q⟩:=aU.mp a;show(match m[l]? with|some (.dct _ _)=>true|_=>false)=true;rw[hm]
  |_=>cases h
 |sum=>
  cases d with
  |dct ks ds=>
   obtain⟨l,xs,rfl,_,hm,q⟩:=aU.mp a;show(match m[l]? with|some (.dct _ _)=>true|_=>false)=true;rw[hm]
  |_=>cases h
def CN (a:ag R m d x)(b:ag R m e y)(c:ag R m f z):ae R m (fy x y z m) (eD d e f):=by
 cases d with
 |int i=>
  cases e with
  |int j=>
   cases f with
   |int k=>
    rw[ab.mp a,ab.mp b,ab.mp c];simp only[fy,eD];split
    .exact cS (ah.mpr ⟨_,rfl,jt k _ i⟩)
    .exact ae.no
   |_=>exact ae.no
  |_=>exact ae.no
 |_=>exact ae.no
theorem wE {R:Nat->Prop}(hc:∀(R':Nat->Prop) m d x,(∀l,R l->R' l)->Le m0 m->ag R' m d x->ae R' m (c x m) (cd d))(he:∀(R':Nat->Prop) m d x,(∀l,R l->R' l)->Le m0 m->ag R' m d x->ae R' m (e x m) (ed d)):
  ∀(ds:List Dat) (xs:List Wd) (acc:List Dat) (acx:List Wd) (R':Nat->Prop) (m:Me),(∀l,R l->R' l)->Le m0 m->aa R' m ds xs->aa R' m acc acx->ae R' m (y6 c e xs acx m) (zE cd ed ds acc)
 |[],xs,acc,acx,R',m,hR,hm,a,b=>by
  rw[a.nil_inv];unfold y6 zE;exact ae.new b
 |d::ds,xs,acc,acx,R',m,hR,hm,a,b=>by
  obtain⟨x,r,rfl,p,q⟩:=a.cons_inv;unfold y6 zE;refine(hc R' m d x hR hm p).bind λt w m1 l1 k1=>?_;cases t with
  |bl t=>
   rw[ak.mp k1];cases t with
   |true=>
    refine(he _ m1 d x (λl z=>.inl (hR l z)) (hm.trans l1) (p.up _ l1)).bind λt w m2 l2 k2=>?_;simp only[b.len];by_cases z:acx.length<aq
    .rw[Lp z,Lp z];exact wE hc he ds r _ _ _ m2 (λl z=>.inl (.inl (hR l z))) ((hm.trans l1).trans l2) ((q.up _ l1).up _ l2) (((b.up _ l1).up _ l2).app (.cons k2 .nil))
    .rw[Lq z,Lq z];exact ae.no
   |false=>exact wE hc he ds r _ _ _ m1 (λl z=>.inl (hR l z)) (hm.trans l1) (q.up _ l1) (b.up _ l1)
  |_=>exact ae.no
theorem v4 {R:Nat->Prop}(hl:m0[l]?=some (.lst xs0))(hc:∀(R':Nat->Prop) m d x,(∀l,R l->R' l)->Le m0 m->ag R' m d x->ae R' m (c x m) (cd d))(he:∀(R':Nat->Prop) m d x,(∀l,R l->R' l)->Le m0 m->ag R' m d x->ae R' m (e x m) (ed d)):
  ∀(ds:List Dat) (i k:Nat) (acc:List Dat) (acx:List Wd) (R':Nat->Prop) (m:Me),(∀l,R l->R' l)->Le m0 m->aa R' m ds (xs0.drop i)->i+ds.length=xs0.length->ds.length<k->aa R' m acc acx->ae R' m (y7 c e l k i acx m) (zE cd ed ds acc)
 |[],i,0,acc,acx,R',m,hR,hm,a,hi,hk,b=>by simp at hk
 |d::ds,i,0,acc,acx,R',m,hR,hm,a,hi,hk,b=>by simp at hk
 |[],i,k+1,acc,acx,R',m,hR,hm,a,hi,hk,b=>by
  unfold y7 zE zn;rw[hm l _ hl];simp only;rw[QE (by simp at hi;lia)];exact ae.new b
 |d::ds,i,k+1,acc,acx,R',m,hR,hm,a,hi,hk,b=>by
  obtain⟨x,r,e0,p,q⟩:=a.cons_inv;have hx:xs0[i]?=some x:=by
   have:(xs0.drop i)[0]?=some x:=by rw[e0];rfl
   simpa using this
  have hr:r=xs0.drop (i+1):=by
   have:(xs0.drop i).drop 1=r:=by rw[e0];rfl
   rw[<-this,WD]
  rw[hr]at q;have hi':i+1+ds.length=xs0.length:=by simp at hi;lia
  have hk':ds.length<k:=by simp at hk;lia
  unfold y7 zE zn;rw[hm l _ hl];simp only;rw[hx];simp only;refine(hc R' m d x hR hm p).bind λt w m1 l1 k1=>?_;cases t with
  |bl t=>
   rw[ak.mp k1];cases t with
   |true=>
    refine(he _ m1 d x (λl z=>.inl (hR l z)) (hm.trans l1) (p.up _ l1)).bind λt w m2 l2 k2=>?_;simp only[b.len];by_cases z:acx.length<aq
    .rw[Lp z,Lp z];exact v4 hl hc he ds (i+1) k _ _ _ m2 (λl z=>.inl (.inl (hR l z))) ((hm.trans l1).trans l2) ((q.up _ l1).up _ l2) hi' hk' (((b.up _ l1).up _ l2).app (.cons k2 .nil))
    .rw[Lq z,Lq z];exact ae.no
   |false=>exact v4 hl hc he ds (i+1) k _ _ _ m1 (λl z=>.inl (hR l z)) (hm.trans l1) (q.up _ l1) hi' hk' (b.up _ l1)
  |_=>exact ae.no
def lB(R:Nat->Prop)(m0:Me)(ps:List (Dat×Dat))(g:Nat->Me->Option (Option (Wd×Wd))):Prop:=
 ∀m,Le m0 m->(∀i p,ps[i]?=some p->∃a b,g i m=some (some (a,b))/\ag R m p.1 a/\ag R m p.2 b)/\∀i,ps.length<=i->g i m=some none
theorem qu{α β:Type}:∀{xs:List α}{ys:List β}{i:Nat}{p:α×β},(xs.zip ys)[i]?=some p->xs[i]?=some p.1/\ys[i]?=some p.2
 |[],_,i,p,h=>by simp at h
 |_::_,[],i,p,h=>by simp at h
 |x::xs,y::ys,0,p,h=>by simp at h;subst h;exact⟨rfl,rfl⟩
 |x::xs,y::ys,i+1,p,h=>by
  have h':(xs.zip ys)[i]?=some p:=by simpa using h
  simpa using qu h'
set_option tactic.hygienic true in
theorem p0:∀{xs:List Dat}{ps:List (Dat×Dat)},eS xs=some ps->ps.length=xs.length/\∀(i:Nat) p,ps[i]?=some p->xs[i]?=some (.tup [p.1,p.2])
 |[],ps,h=>by cases h;exact⟨rfl,λi p q=>by simp at q⟩
 |d::xs,ps,h=>by
  unfold eS at h;split at h
  .next h0=>cases h0
  .next x y r h0=>
   cases h0;obtain⟨qs,e,rfl⟩:=QF.mp h;obtain⟨a,b⟩:=p0 e;refine⟨by simp[a],λi p q=>?_⟩;cases i with
   |zero=>cases q;rfl
   |succ i=>exact b i p q
  .cases h
def oM (hx:ag R m0 x a)(h:e7 x=some ds):∃xs,(∀m,Le m0 m->wX m a=some xs)/\aa R m0 ds xs:=by
 cases x with
 |tup es=>
  cases h;obtain⟨xs,rfl,q⟩:=ah.mp hx;exact⟨xs,λm h=>rfl,q⟩
 |lst es=>
  cases h;obtain⟨l,xs,rfl,_,e1,q⟩:=az.mp hx;exact⟨xs,λm h=>by show zn m l=_;unfold zn;rw[h _ _ e1],q⟩
 |_=>cases h
set_option tactic.hygienic true in
def wG (e:yB k x y=some ps)(hx:ag R m0 x a)(hy:ag R m0 y b):lB R m0 ps (zL k a b)/\ps.length<=aq:=by
 unfold yB at e;split at e
 .cases f1:e7 x with
  |none=>rw[f1]at e;cases e
  |some ds1=>
   cases f2:e7 y with
   |none=>rw[f1,f2]at e;cases e
   |some ds2=>
    rw[f1,f2]at e;obtain⟨xs,e1,k1⟩:=oM hx f1;obtain⟨ys,e2,k2⟩:=oM hy f2;dsimp only at e;split at e
    .next z=>
     cases e;refine⟨λm h=>⟨λi p q=>?_,λi q=>?_⟩,by simp;lia⟩
     .obtain ⟨z1,z2⟩:=qu q;obtain⟨a,a1,a2⟩:=k1.get z1;obtain⟨b,b1,b2⟩:=k2.get z2;refine⟨a,b,?_,ag.frame (λl o r z=>⟨r,h l o z⟩) _ _ a2,ag.frame (λl o r z=>⟨r,h l o z⟩) _ _ b2⟩;simp only[zL,e1 m h,e2 m h,a1,b1]
     .simp only[zL,e1 m h,e2 m h];have l1:=k1.len;have l2:=k2.len;simp only[VL]at q;rcases Nat.le_total xs.length ys.length with z3|z3
      .rw[QE (by lia)]
      .rw[QE (l:=ys) (by lia)];cases xs[i]?<;>rfl
    .cases e
 .rename_i xs0 st;obtain⟨l,xs,rfl,_,e1,k1⟩:=az.mp hx;rw[ab.mp hy];split at e
  .next z=>
   have l1:=k1.len;obtain⟨g1,g2⟩:=p0 e;refine⟨λm h=>⟨λi p q=>?_,λi q=>?_⟩,by lia⟩
   .obtain ⟨a,a1,a2⟩:=k1.get (g2 i p q);obtain⟨us,rfl,r2⟩:=ah.mp a2;obtain⟨x,r,rfl,ra,rb⟩:=r2.cons_inv;obtain⟨y,r',rfl,rc,rd⟩:=rb.cons_inv;obtain rfl:=rd.nil_inv;refine⟨x,y,?_,ag.frame (λl o r z=>⟨r,h l o z⟩) _ _ ra,ag.frame (λl o r z=>⟨r,h l o z⟩) _ _ rc⟩;simp only[zL,zn];rw[h _ _ e1];simp only[a1];rfl
   .simp only[zL,zn];rw[h _ _ e1];simp only;rw[QE (by lia)]
  .cases e
 .cases e
theorem v5 (hg:lB R m0 ps g)(hc:∀(R':Nat->Prop) m p a b,(∀l,R l->R' l)->Le m0 m->ag R' m p.1 a->ag R' m p.2 b->ae R' m (c a b m) (cd p))(he:∀(R':Nat->Prop) m p a b,(∀l,R l->R' l)->Le m0 m->ag R' m p.1 a->ag R' m p.2 b->ae R' m (e a b m) (ed p)):
  ∀(ds:List (Dat×Dat)) (i k:Nat) (acc:List Dat) (acx:List Wd) (R':Nat->Prop) (m:Me),(∀l,R l->R' l)->Le m0 m->ds=ps.drop i->i+ds.length=ps.length->ds.length<k->aa R' m acc acx->ae R' m (yh c e g k i acx m) (zE cd ed ds acc)
 |[],i,0,acc,acx,R',m,hR,hm,a,hi,hk,b=>by simp at hk
 |d::ds,i,0,acc,acx,R',m,hR,hm,a,hi,hk,b=>by simp at hk
 |[],i,k+1,acc,acx,R',m,hR,hm,a,hi,hk,b=>by
  unfold yh zE;rw[(hg m hm).2 i (by simp at hi;lia)];exact ae.new b
 |d::ds,i,k+1,acc,acx,R',m,hR,hm,a,hi,hk,b=>by
  have hx:ps[i]?=some d:=by
   have:(ps.drop i)[0]?=some d:=by rw[<-a];rfl
   simpa using this
  have hr:ds=ps.drop (i+1):=by
   have:(ps.drop i).drop 1=ds:=by rw[<-a];rfl
   rw[<-this,WD]
  have hi':i+1+ds.length=ps.length:=by simp at hi;lia
  have hk':ds.length<k:=by simp at hk;lia
  obtain⟨u,v,e0,p,q⟩:=(hg m hm).1 i d hx;have up:∀{d:Dat}{w:Wd},ag R m d w->ag R' m d w:=λz=>ag.frame (λl o r z=>⟨hR l r,z⟩) _ _ z;unfold yh zE;rw[e0];simp only;refine(hc R' m d u v hR hm (up p) (up q)).bind λt w m1 l1 k1=>?_;cases t with
  |bl t=>
   rw[ak.mp k1];cases t with
   |true=>
    refine(he _ m1 d u v (λl z=>.inl (hR l z)) (hm.trans l1) ((up p).up _ l1) ((up q).up _ l1)).bind λt w m2 l2 k2=>?_;simp only[b.len];by_cases z:acx.length<aq
    .rw[Lp z,Lp z];exact v5 hg hc he ds (i+1) k _ _ _ m2 (λl z=>.inl (.inl (hR l z))) ((hm.trans l1).trans l2) hr hi' hk' (((b.up _ l1).up _ l2).app (.cons k2 .nil))
    .rw[Lq z,Lq z];exact ae.no
   |false=>exact v5 hg hc he ds (i+1) k _ _ _ m1 (λl z=>.inl (hR l z)) (hm.trans l1) hr hi' hk' (b.up _ l1)
  |_=>exact ae.no
noncomputable def zj:Ex->List Nat
 |.var i=>[i]
 |.lit _=>[]
 |.bin _ a b=>zj a++zj b
 |.neg a=>zj a
 |.not a=>zj a
 |.and a b=>zj a++zj b
 |.or a b=>zj a++zj b
 |.cmp _ a b=>zj a++zj b
 |.chain _ _ a b c=>zj a++(zj b++zj c)
 |.ife c a b=>zj c++(zj a++zj b)
 |.unit=>[]
 |.pair a b=>zj a++zj b
 |.call _ a=>zj a
 |.blt _ a=>zj a
 |.isi _ a=>zj a
 |.lst a=>zj a
 |.tup a=>zj a
 |.dict0=>[]
 |.dget a b=>zj a++zj b
 |.dop _ a b c=>zj a++(zj b++zj c)
 |.idx a b=>zj a++zj b
 |.slL a b=>zj a++zj b
 |.meth _ a b=>zj a++zj b
 |.rng a b c=>zj a++(zj b++zj c)
 |.comp e i c=>zj i++(zj e++zj c)
 |.compP _ e a b c=>zj a++(zj b++(zj e++zj c))
@[simp]theorem HV(i:Nat):zj (.var i)=[i]:=rfl
@[simp]theorem HU(w:Wd):zj (.lit w)=[]:=rfl
@[simp]theorem HS(a b:Ex):zj (.idx a b)=zj a++zj b:=rfl
@[simp]theorem HR(a:Ex):zj (.tup a)=zj a:=rfl
@[simp]theorem IK(a b:Ex):zj (.pair a b)=zj a++zj b:=rfl
@[simp]theorem IJ  : zj (.unit)=[]:=rfl
@[simp]theorem HQ(op:Bo)(a b:Ex):zj (.bin op a b)=zj a++zj b:=rfl
@[simp]theorem II(k:Nat)(a:Ex):zj (.call k a)=zj a:=rfl
@[simp]theorem HP(a:Ex):zj (.neg a)=zj a:=rfl
@[simp]theorem HN(a:Ex):zj (.lst a)=zj a:=rfl
def bT(R:Nat->Prop)(m:Me)(vs:List Nat)(de:aS)(env:En):Prop:=
 de.length=env.length/\∀i∈vs,∀d,de[i]?=some (some d)->∃w,env[i]?=some (some w)/\ag R m d w
def bT.up{R R':Nat->Prop}{m m':Me}{vs:List Nat}{de:aS}{env:En}(hR:∀l,R l->R' l)(h:Le m m')(q:bT R m vs de env):bT R' m' vs de env:=
 ⟨q.1,λi hi d z=>by
  obtain⟨w,a,b⟩:=q.2 i hi d z;exact⟨w,a,ag.frame (λl o r k=>⟨hR l r,h l o k⟩) d w b⟩⟩
def bT.sub{R:Nat->Prop}{m:Me}{vs us:List Nat}{de:aS}{env:En}(h:∀i∈us,i∈vs)(q:bT R m vs de env):bT R m us de env:=
 ⟨q.1,λi hi=>q.2 i (h i hi)⟩
def bT.left{R:Nat->Prop}{m:Me}{us vs:List Nat}{de:aS}{env:En}(q:bT R m (us++vs) de env):bT R m us de env:=q.sub λ_ h=>Q5 _ h
def bT.right{R:Nat->Prop}{m:Me}{us vs:List Nat}{de:aS}{env:En}(q:bT R m (us++vs) de env):bT R m vs de env:=q.sub λ_ h=>Qy _ h
set_option tactic.hygienic true in
def bT.push{R:Nat->Prop}{m:Me}{vs:List Nat}{de:aS}{env:En}{d:Dat}{w:Wd}(q:bT R m vs de env)(h:ag R m d w):bT R m vs (de++[some d]) (env++[some w]):=by
 refine⟨by simp[q.1],λi hi e z=>?_⟩;rw[List.getElem?_append]at z;split at z
 .next k=>
  obtain⟨w,a,b⟩:=q.2 i hi e z;exact⟨w,by rw[Qf (by rw[<-q.1];exact k)];exact a,b⟩
 .next k=>
  rw[Qd (by rw[<-q.1];lia),<-q.1];have:i-de.length=0:=by
   rcases Nat.eq_zero_or_pos (i-de.length)with z0|z0
   .exact z0
   .rw[QE (by simp;lia)]at z;cases z
  rw[this]at z ⊢;cases z;exact⟨w,rfl,h⟩
def bp(cl:Nat->List Wd->Me->Rz)(cd:Nat->List Dat->Rd):Prop:=∀(k:Nat) (ds:List Dat) (ws:List Wd) (R:Nat->Prop) (m:Me),aa R m ds ws->ae R m (cl k ws m) (cd k ds)
def yn (h:ag R m d w):aa R m (zJ d) (zz w):=by
 cases d with
 |tup ds=>obtain⟨xs,rfl,q⟩:=ah.mp h;exact q
 |non=>rw[aN.mp h];exact .nil
 |bl _=>rw[ak.mp h];exact .nil
 |int _=>rw[ab.mp h];exact .nil
 |str _=>rw[aR.mp h];exact .nil
 |scr _=>rw[bi.mp h];exact .nil
 |lst _=>obtain⟨l,xs,rfl,_⟩:=az.mp h;exact .nil
 |dct _ _=>obtain⟨l,xs,rfl,_⟩:=aU.mp h;exact .nil
theorem za (H:bp cl cd):∀(e:Ex) (R:Nat->Prop) (m:Me) (de:aS) (env:En),bT R m (zj e) de env->ae R m (af cl e env m) (am cd e de)
 |.var i,R,m,de,env,q=>by
  cases z:de[i]? with
  |none=>rw[yR (.inl z)];exact ae.no
  |some o=>
   cases o with
   |none=>rw[yR (.inr z)];exact ae.no
   |some d=>
    obtain⟨w,a,b⟩:=q.2 i (Qt.mpr rfl) d z;rw[xO z,wn a];exact cS b
 |.lit w,R,m,de,env,q=>by
  cases w<;>first|exact ae.no|(exact cS (by unfold ag;rfl))
 |.bin op a b,R,m,de,env,q=>by
  refine(za H a R m de env q.left).bind λd w m1 l1 k1=>?_;refine(za H b _ m1 de env (q.right.up (λ_=>.inl) l1)).bind λd2 w2 m2 l2 k2=>?_;exact qo op (k1.up _ l2) k2
 |.neg a,R,m,de,env,q=>by
  refine(za H a R m de env q).bind λd w m1 l1 k1=>?_;cases d with
  |int i=>rw[ab.mp k1];exact ae.int
  |_=>exact ae.no
 |.not a,R,m,de,env,q=>by
  refine(za H a R m de env q).bind λd w m1 l1 k1=>?_;cases d with
  |bl i=>rw[ak.mp k1];exact ae.bl
  |_=>exact ae.no
 |.and a b,R,m,de,env,q=>by
  refine(za H a R m de env q.left).bind λd w m1 l1 k1=>?_;cases d with
  |bl i=>
   rw[ak.mp k1];cases i with
   |true=>exact za H b _ m1 de env (q.right.up (λ_=>.inl) l1)
   |false=>exact ae.bl
  |_=>exact ae.no
 |.or a b,R,m,de,env,q=>by
  refine(za H a R m de env q.left).bind λd w m1 l1 k1=>?_;cases d with
  |bl i=>
   rw[ak.mp k1];cases i with
   |false=>exact za H b _ m1 de env (q.right.up (λ_=>.inl) l1)
   |true=>exact ae.bl
  |_=>exact ae.no
 |.cmp op a b,R,m,de,env,q=>by
  refine(za H a R m de env q.left).bind λd w m1 l1 k1=>?_;refine(za H b _ m1 de env (q.right.up (λ_=>.inl) l1)).bind λd2 w2 m2 l2 k2=>?_;exact qp op (k1.up _ l2) k2
 |.chain o p a b c,R,m,de,env,q=>by
  refine(za H a R m de env q.left).bind λd w m1 l1 k1=>?_;refine(za H b _ m1 de env (q.right.left.up (λ_=>.inl) l1)).bind λd2 w2 m2 l2 k2=>?_;refine(qp o (k1.up _ l2) k2).bind λd3 w3 m3 l3 k3=>?_;cases d3 with
  |bl i=>
   rw[ak.mp k3];cases i with
   |false=>exact ae.bl
   |true=>
    refine(za H c _ m3 de env (q.right.right.up (λ_ h=>.inl (.inl (.inl h))) ((l1.trans l2).trans l3))).bind λd4 w4 m4 l4 k4=>?_;exact qp p ((k2.up _ l3).up _ l4) k4
  |_=>exact ae.no
 |.ife c a b,R,m,de,env,q=>by
  refine(za H c R m de env q.left).bind λd w m1 l1 k1=>?_;cases d with
  |bl i=>
   rw[ak.mp k1];cases i with
   |true=>exact za H a _ m1 de env (q.right.left.up (λ_=>.inl) l1)
   |false=>exact za H b _ m1 de env (q.right.right.up (λ_=>.inl) l1)
  |_=>exact ae.no
 |.unit,R,m,de,env,q=>by
  exact cS (ah.mpr ⟨[],rfl,.nil⟩)
 |.pair a b,R,m,de,env,q=>by
  refine(za H a R m de env q.left).bind λd w m1 l1 k1=>?_;refine(za H b _ m1 de env (q.right.up (λ_=>.inl) l1)).bind λd2 w2 m2 l2 k2=>?_;exact cS (ah.mpr ⟨_,rfl,.cons (k1.up _ l2) (yn k2)⟩)
 |.call k a,R,m,de,env,q=>by
  refine(za H a R m de env q).bind λd w m1 l1 k1=>?_;exact H k _ _ _ m1 (yn k1)
 |.blt b a,R,m,de,env,q=>by
  refine(za H a R m de env q).bind λd w m1 l1 k1=>?_;exact CQ b (yn k1)
 |.isi t a,R,m,de,env,q=>by
  refine(za H a R m de env q).bind λd w m1 l1 k1=>?_;exact CT t k1
 |.lst a,R,m,de,env,q=>by
  refine(za H a R m de env q).bind λd w m1 l1 k1=>?_;exact ae.new (yn k1)
 |.tup a,R,m,de,env,q=>by
  refine(za H a R m de env q).bind λd w m1 l1 k1=>?_;have k2:=yn k1;simp only[k2.len];split
  .exact cS (ah.mpr ⟨_,rfl,k2⟩)
  .exact ae.no
 |.dict0,R,m,de,env,q=>by
  exact⟨_,_,rfl,Le.app m _,aU.mpr ⟨_,[],rfl,.inr (Qg _),by simp,.nil⟩⟩
 |.dget a b,R,m,de,env,q=>by
  refine(za H a R m de env q.left).bind λd w m1 l1 k1=>?_;refine(za H b _ m1 de env (q.right.up (λ_=>.inl) l1)).bind λd2 w2 m2 l2 k2=>?_;exact tj (k1.up _ l2) k2
 |.dop k a b c,R,m,de,env,q=>by
  refine(za H a R m de env q.left).bind λd w m1 l1 k1=>?_;cases hb:iL k d with
  |false=>exact ae.no
  |true=>
   rw[Ee k1 hb];refine(za H b _ m1 de env (q.right.left.up (λ_=>.inl) l1)).bind λd2 w2 m2 l2 k2=>?_;refine(za H c _ m2 de env ((q.right.right.up (λ_=>.inl) l1).up (λ_=>.inl) l2)).bind λd3 w3 m3 l3 k3=>?_;exact CO k ((k1.up _ l2).up _ l3) (k2.up _ l3) k3
 |.idx a b,R,m,de,env,q=>by
  refine(za H a R m de env q.left).bind λd w m1 l1 k1=>?_;refine(za H b _ m1 de env (q.right.up (λ_=>.inl) l1)).bind λd2 w2 m2 l2 k2=>?_;exact CP (k1.up _ l2) k2
 |.slL a b,R,m,de,env,q=>by
  refine(za H a R m de env q.left).bind λd w m1 l1 k1=>?_;refine(za H b _ m1 de env (q.right.up (λ_=>.inl) l1)).bind λd2 w2 m2 l2 k2=>?_;cases d2 with
  |int i=>rw[ab.mp k2];exact AK _ _ (k1.up _ l2)
  |_=>exact ae.no
 |.meth _ _ _,R,m,de,env,q=>by
  exact ae.no
 |.rng a b c,R,m,de,env,q=>by
  refine(za H a R m de env q.left).bind λd w m1 l1 k1=>?_;refine(za H b _ m1 de env (q.right.left.up (λ_=>.inl) l1)).bind λd2 w2 m2 l2 k2=>?_;refine(za H c _ m2 de env (q.right.right.up (λ_ h=>.inl (.inl h)) (l1.trans l2))).bind λd3 w3 m3 l3 k3=>?_;exact CN ((k1.up _ l2).up _ l3) (k2.up _ l3) k3
 |.comp elt it cond,R,m,de,env,q=>by
  refine(za H it R m de env q.left).bind λd w m1 l1 k1=>?_;have hc:∀(R':Nat->Prop) m' d x,(∀l,Rf R m.length l->R' l)->Le m1 m'->ag R' m' d x->ae R' m' (af cl cond (env++[some x]) m') (am cd cond (de++[some d])):=
   λR' m' d x hR l k=>za H cond R' m' _ _ ((q.right.right.up (λl h=>hR l (.inl h)) (l1.trans l)).push k)
  have he:∀(R':Nat->Prop) m' d x,(∀l,Rf R m.length l->R' l)->Le m1 m'->ag R' m' d x->ae R' m' (af cl elt (env++[some x]) m') (am cd elt (de++[some d])):=
   λR' m' d x hR l k=>za H elt R' m' _ _ ((q.right.left.up (λl h=>hR l (.inl h)) (l1.trans l)).push k)
  cases d with
  |tup ds=>
   obtain⟨xs,rfl,k2⟩:=ah.mp k1;exact wE hc he ds xs [] [] _ m1 (λ_ h=>h) (Le.refl _) k2 .nil
  |scr ns=>
   rw[bi.mp k1];exact wE hc he (ns.map .int) (ns.map .int) [] [] _ m1 (λ_ h=>h) (Le.refl _) (eQ ns) .nil
  |lst ds=>
   obtain⟨l,xs,rfl,_,hm,k2⟩:=az.mp k1;simp only[cB];by_cases z:ds.length<=aq
   .rw[Lp z];have hl:=k2.len;exact v4 hm hc he ds 0 (aq+1) [] [] _ m1 (λ_ h=>h) (Le.refl _) (by simpa using k2) (by lia) (by lia) .nil
   .rw[Lq z];exact ae.no
  |_=>exact ae.no
 |.compP k elt a b cond,R,m,de,env,q=>by
  refine(za H a R m de env q.left).bind λd w m1 l1 k1=>?_;refine(za H b _ m1 de env (q.right.left.up (λl h=>.inl h) l1)).bind λd' w' m2 l2 k2=>?_;have hc:∀(R':Nat->Prop) m' (p:Dat×Dat) x y,(∀l,Rf (Rf R m.length) m1.length l->R' l)->Le m2 m'->ag R' m' p.1 x->ag R' m' p.2 y->ae R' m' (af cl cond (env++[some x]++[some y]) m') (am cd cond (de++[some p.1]++[some p.2])):=
   λR' m' d x y hR l k k'=>za H cond R' m' _ _ (((q.right.right.right.up (λl h=>hR l (.inl (.inl h))) ((l1.trans l2).trans l)).push k).push k')
  have he:∀(R':Nat->Prop) m' (p:Dat×Dat) x y,(∀l,Rf (Rf R m.length) m1.length l->R' l)->Le m2 m'->ag R' m' p.1 x->ag R' m' p.2 y->ae R' m' (af cl elt (env++[some x]++[some y]) m') (am cd elt (de++[some p.1]++[some p.2])):=
   λR' m' d x y hR l k k'=>za H elt R' m' _ _ (((q.right.right.left.up (λl h=>hR l (.inl (.inl h))) ((l1.trans l2).trans l)).push k).push k')
  cases e:yB k d d' with
  |none=>exact ae.no
  |some ps=>
   obtain⟨pr,hl⟩:=wG e (k1.up _ l2) k2;exact v5 pr hc he ps 0 (aq+1) [] [] _ m2 (λ_ h=>h) (Le.refl _) (by simp) (by simp) (by lia) .nil
mutual
noncomputable def bh(m:Me):Dat->Wd->List Nat->Prop
 |.non,w,A=>w=.non/\A=[]
 |.bl b,w,A=>w=.bl b/\A=[]
 |.int i,w,A=>w=.int i/\A=[]
 |.str s,w,A=>w=.str s/\A=[]
 |.scr ns,w,A=>w=.rol (ns.map Wd.int)/\A=[]
 |.tup ds,w,A=>∃xs,w=.tup xs/\au m ds xs A
 |.lst ds,w,A=>∃l xs B,w=.ref l/\A=l::B/\m[l]?=some (.lst xs)/\au m ds xs B
 |.dct ks ds,w,A=>∃l xs B,w=.ref l/\A=l::B/\m[l]?=some (.dct ks xs)/\au m ds xs B
noncomputable def au(m:Me):List Dat->List Wd->List Nat->Prop
 |[],xs,A=>xs=[]/\A=[]
 |d::ds,xs,A=>∃x r B C,xs=x::r/\A=B++C/\bh m d x B/\au m ds r C
end
def bx:bh m (.lst ds) w A↔∃l xs B,w=.ref l/\A=l::B/\m[l]?=some (.lst xs)/\au m ds xs B:=by
 constructor
 .intro h;unfold bh at h;exact h
 .intro h;unfold bh;exact h
def bP:bh m (.dct ks ds) w A↔∃l xs B,w=.ref l/\A=l::B/\m[l]?=some (.dct ks xs)/\au m ds xs B:=by
 constructor
 .intro h;unfold bh at h;exact h
 .intro h;unfold bh;exact h
def bG:bh m (.tup ds) w A↔∃xs,w=.tup xs/\au m ds xs A:=by
 constructor
 .intro h;unfold bh at h;exact h
 .intro h;unfold bh;exact h
def au.cons_inv (h:au m (d::ds) xs A):∃x r B C,xs=x::r/\A=B++C/\bh m d x B/\au m ds r C:=by unfold au at h;exact h
def au.nil_inv (h:au m [] xs A):xs=[]/\A=[]:=by unfold au at h;exact h
def au.nil{m:Me}:au m [] [] []:=by unfold au;exact⟨rfl,rfl⟩
def au.cons{m:Me}{d:Dat}{ds:List Dat}{x:Wd}{xs:List Wd}{B C:List Nat}(a:bh m d x B)(b:au m ds xs C):au m (d::ds) (x::xs) (B++C):=by
 unfold au;exact⟨x,xs,B,C,rfl,rfl,a,b⟩
theorem au.app:∀{ds es:List Dat}{xs ys:List Wd}{A B:List Nat},au m ds xs A->au m es ys B->au m (ds++es) (xs++ys) (A++B)
 |[],es,xs,ys,A,B,a,b=>by rw[a.nil_inv.1,a.nil_inv.2];exact b
 |d::ds,es,xs,ys,A,B,a,b=>by
  obtain⟨x,r,P,Q,rfl,rfl,p,q⟩:=a.cons_inv;rw[Qj];exact .cons p (au.app q b)
mutual
theorem bh.frame{m m':Me}:∀(d:Dat) (w:Wd) (A:List Nat),(∀l∈A,∀o,m[l]?=some o->m'[l]?=some o)->bh m d w A->bh m' d w A
 |.non,w,A,h,q=>by unfold bh at q ⊢;exact q
 |.bl _,w,A,h,q=>by unfold bh at q ⊢;exact q
 |.int _,w,A,h,q=>by unfold bh at q ⊢;exact q
 |.str _,w,A,h,q=>by unfold bh at q ⊢;exact q
 |.scr _,w,A,h,q=>by unfold bh at q ⊢;exact q
 |.tup ds,w,A,h,q=>by
  obtain⟨xs,rfl,q1⟩:=bG.mp q;exact bG.mpr ⟨xs,rfl,au.frame ds xs A h q1⟩
 |.lst ds,w,A,h,q=>by
  obtain⟨l,xs,B,rfl,rfl,hm,q1⟩:=bx.mp q;exact bx.mpr ⟨l,xs,B,rfl,rfl,h l QX _ hm,au.frame ds xs B (λl hl=>h l (Qk _ hl)) q1⟩
 |.dct ks ds,w,A,h,q=>by
  obtain⟨l,xs,B,rfl,rfl,hm,q1⟩:=bP.mp q;exact bP.mpr ⟨l,xs,B,rfl,rfl,h l QX _ hm,au.frame ds xs B (λl hl=>h l (Qk _ hl)) q1⟩
theorem au.frame{m m':Me}:∀(ds:List Dat) (xs:List Wd) (A:List Nat),(∀l∈A,∀o,m[l]?=some o->m'[l]?=some o)->au m ds xs A->au m' ds xs A
 |[],xs,A,h,q=>by rw[q.nil_inv.1,q.nil_inv.2];exact .nil
 |d::ds,xs,A,h,q=>by
  obtain⟨x,r,B,C,rfl,rfl,a,b⟩:=q.cons_inv;exact .cons (bh.frame d x B (λl hl=>h l (Q5 _ hl)) a) (au.frame ds r C (λl hl=>h l (Qy _ hl)) b)
end
mutual
theorem bh.rep{m:Me}{R:Nat->Prop}:∀(d:Dat) (w:Wd) (A:List Nat),(∀l∈A,R l)->bh m d w A->ag R m d w
 |.non,w,A,h,q=>by unfold bh at q;exact aN.mpr q.1
 |.bl _,w,A,h,q=>by unfold bh at q;exact ak.mpr q.1
 |.int _,w,A,h,q=>by unfold bh at q;exact ab.mpr q.1
 |.str _,w,A,h,q=>by unfold bh at q;exact aR.mpr q.1
 |.scr _,w,A,h,q=>by unfold bh at q;exact bi.mpr q.1
 |.tup ds,w,A,h,q=>by
  obtain⟨xs,rfl,q1⟩:=bG.mp q;exact ah.mpr ⟨xs,rfl,au.rep ds xs A h q1⟩
 |.lst ds,w,A,h,q=>by
  obtain⟨l,xs,B,rfl,rfl,hm,q1⟩:=bx.mp q;exact az.mpr ⟨l,xs,rfl,h l QX,hm,au.rep ds xs B (λl hl=>h l (Qk _ hl)) q1⟩
 |.dct ks ds,w,A,h,q=>by
  obtain⟨l,xs,B,rfl,rfl,hm,q1⟩:=bP.mp q;exact aU.mpr ⟨l,xs,rfl,h l QX,hm,au.rep ds xs B (λl hl=>h l (Qk _ hl)) q1⟩
theorem au.rep{m:Me}{R:Nat->Prop}:∀(ds:List Dat) (xs:List Wd) (A:List Nat),(∀l∈A,R l)->au m ds xs A->aa R m ds xs
 |[],xs,A,h,q=>by rw[q.nil_inv.1];exact .nil
 |d::ds,xs,A,h,q=>by
  obtain⟨x,r,B,C,rfl,rfl,a,b⟩:=q.cons_inv;exact .cons (bh.rep d x B (λl hl=>h l (Q5 _ hl)) a) (au.rep ds r C (λl hl=>h l (Qy _ hl)) b)
end
mutual
theorem bh.lt{m:Me}:∀(d:Dat) (w:Wd) (A:List Nat),bh m d w A->∀l∈A,l<m.length
 |.non,w,A,q=>by unfold bh at q;rw[q.2];simp
 |.bl _,w,A,q=>by unfold bh at q;rw[q.2];simp
 |.int _,w,A,q=>by unfold bh at q;rw[q.2];simp
 |.str _,w,A,q=>by unfold bh at q;rw[q.2];simp
 |.scr _,w,A,q=>by unfold bh at q;rw[q.2];simp
 |.tup ds,w,A,q=>by
  obtain⟨xs,rfl,q1⟩:=bG.mp q;exact au.lt ds xs A q1
 |.lst ds,w,A,q=>by
  obtain⟨l,xs,B,rfl,rfl,hm,q1⟩:=bx.mp q;intro k hk;rcases Qo.mp hk with rfl|hk
  .exact (Qa.mp hm).1
  .exact au.lt ds xs B q1 k hk
 |.dct ks ds,w,A,q=>by
  obtain⟨l,xs,B,rfl,rfl,hm,q1⟩:=bP.mp q;intro k hk;rcases Qo.mp hk with rfl|hk
  .exact (Qa.mp hm).1
  .exact au.lt ds xs B q1 k hk
theorem au.lt{m:Me}:∀(ds:List Dat) (xs:List Wd) (A:List Nat),au m ds xs A->∀l∈A,l<m.length
 |[],xs,A,q=>by rw[q.nil_inv.2];simp
 |d::ds,xs,A,q=>by
  obtain⟨x,r,B,C,rfl,rfl,a,b⟩:=q.cons_inv;intro k hk;rcases Qx.mp hk with hk|hk
  .exact bh.lt d x B a k hk
  .exact au.lt ds r C b k hk
end
mutual
theorem ag.flat{R:Nat->Prop}{m m':Me}:∀(d:Dat) (w:Wd),aw d=true->ag R m d w->bh m' d w []
 |.non,w,h,q=>by unfold bh;exact⟨aN.mp q,rfl⟩
 |.bl _,w,h,q=>by unfold bh;exact⟨ak.mp q,rfl⟩
 |.int _,w,h,q=>by unfold bh;exact⟨ab.mp q,rfl⟩
 |.str _,w,h,q=>by unfold bh;exact⟨aR.mp q,rfl⟩
 |.scr _,w,h,q=>by unfold bh;exact⟨bi.mp q,rfl⟩
 |.tup ds,w,h,q=>by
  obtain⟨xs,rfl,q1⟩:=ah.mp q;exact bG.mpr ⟨xs,rfl,aa.flat ds xs (by unfold Vl.aw at h;exact h) q1⟩
 |.lst ds,w,h,q=>by unfold Vl.aw at h;cases h
 |.dct ks ds,w,h,q=>by unfold Vl.aw at h;cases h
theorem aa.flat{R:Nat->Prop}{m m':Me}:∀(ds:List Dat) (xs:List Wd),aV ds=true->aa R m ds xs->au m' ds xs []
 |[],xs,h,q=>by rw[q.nil_inv];exact .nil
 |d::ds,xs,h,q=>by
  obtain⟨x,r,rfl,a,b⟩:=q.cons_inv;unfold aV at h;rw[Qh]at h;exact au.cons (B:=[]) (C:=[]) (ag.flat d x h.1 a) (aa.flat ds r h.2 b)
end
def bv(R:Nat->Prop)(m:Me)(lv:Lv)(d:Dat)(w:Wd)(A:List Nat):Prop:=match lv with
 |.no=>ag R m d w/\A=[]
 |.top=>∃ds l xs,d=.lst ds/\w=.ref l/\A=[l]/\m[l]?=some (.lst xs)/\aa R m ds xs
 |.full=>bh m d w A
theorem bv.rep (h:∀l,R l->R' l)(k:∀l∈A,R' l)(q:bv R m lv d w A):ag R' m d w:=by
 cases lv with
 |no=>exact ag.frame (λl o r z=>⟨h l r,z⟩) d w q.1
 |top=>
  obtain⟨ds,l,xs,rfl,rfl,rfl,hm,a⟩:=q;exact az.mpr ⟨l,xs,rfl,k l (by simp),hm,aa.frame (λl o r z=>⟨h l r,z⟩) ds xs a⟩
 |full=>exact bh.rep d w A k q
theorem bv.frame{R R':Nat->Prop}{m m':Me}{lv:Lv}{d:Dat}{w:Wd}{A:List Nat}(h:∀(l:Nat) o,R l->m[l]?=some o->R' l/\m'[l]?=some o)(k:∀l∈A,∀o,m[l]?=some o->m'[l]?=some o)(q:bv R m lv d w A):bv R' m' lv d w A:=by
 cases lv with
 |no=>exact⟨ag.frame h d w q.1,q.2⟩
 |top=>
  obtain⟨ds,l,xs,rfl,rfl,rfl,hm,a⟩:=q;exact⟨ds,l,xs,rfl,rfl,rfl,k l (by simp) _ hm,aa.frame h ds xs a⟩
 |full=>exact bh.frame d w A k q
theorem bv.lt (q:bv R m lv d w A):∀l∈A,l<m.length:=by
 cases lv with
 |no=>rw[q.2];simp
 |top=>
  obtain⟨ds,l,xs,rfl,rfl,rfl,hm,a⟩:=q;intro k hk;rw[Qt.mp hk];exact(Qa.mp hm).1
 |full=>exact bh.lt d w A q
noncomputable def aT(lev:Nat->Lv):Ex->Dat->Lv
 |.comp elt _ _,d=>if aw d then .full else match d with
  |.lst ds=>if ds.all (λx=>aT lev elt x == .full)then .full else .top
  |_=>.no
 |.compP _ elt _ _ _,d=>if aw d then .full else match d with
  |.lst ds=>if ds.all (λx=>aT lev elt x == .full)then .full else .top
  |_=>.no
 |.lst a,d=>if aw d then .full else match d with
  |.lst ds=>if aT lev a (.tup ds) == .full then .full else .top
  |_=>.no
 |.tup a,d=>aT lev a d
 |.pair a b,d=>if aw d then .full else match d with
  |.tup (x::ds)=>if aT lev a x == .full&&aT lev b (.tup ds) == .full then .full else .no
  |_=>.no
 |.call k _,d=>if aw d then .full else lev k
 |.blt .list _,d=>if aw d then .full else match d with
  |.lst ds=>if aV ds then .full else .top
  |_=>.no
 |.slL _ _,d=>if aw d then .full else match d with
  |.lst ds=>if aV ds then .full else .top
  |_=>.no
 |.bin _ _ _,d=>if aw d then .full else match d with
  |.lst ds=>if aV ds then .full else .top
  |_=>.no
 |.dict0,d=>if aw d then .full else match d with
  |.dct _ []=>.full
  |_=>.no
 |_,d=>if aw d then .full else .no
@[simp]theorem HM(lev:Nat->Lv)(d:Dat):aT lev .dict0 d=if aw d then .full else match d with
  |.dct _ []=>.full
  |_=>.no:=rfl
@[simp]theorem Ik(lev:Nat->Lv)(a b:Ex)(d:Dat):aT lev (.dget a b) d=if aw d then .full else .no:=rfl
@[simp]theorem qw(lev:Nat->Lv)(e i c:Ex)(d:Dat):aT lev (.comp e i c) d=if aw d then .full else match d with
  |.lst ds=>if ds.all (λx=>aT lev e x == .full)then .full else .top
  |_=>.no:=rfl
@[simp]theorem Ed(lev:Nat->Lv)(k:Kd)(e a b c:Ex)(d:Dat):aT lev (.compP k e a b c) d=if aw d then .full else match d with
  |.lst ds=>if ds.all (λx=>aT lev e x == .full)then .full else .top
  |_=>.no:=rfl
@[simp]theorem Iu(lev:Nat->Lv)(a:Ex)(d:Dat):aT lev (.lst a) d=if aw d then .full else match d with
  |.lst ds=>if aT lev a (.tup ds) == .full then .full else .top
  |_=>.no:=rfl
@[simp]theorem Is(lev:Nat->Lv)(a:Ex)(d:Dat):aT lev (.tup a) d=aT lev a d:=rfl
@[simp]theorem pZ(lev:Nat->Lv)(a b:Ex)(d:Dat):aT lev (.pair a b) d=if aw d then .full else match d with
  |.tup (x::ds)=>if aT lev a x == .full&&aT lev b (.tup ds) == .full then .full else .no
  |_=>.no:=rfl
@[simp]theorem Ij(lev:Nat->Lv)(k:Nat)(a:Ex)(d:Dat):aT lev (.call k a) d=if aw d then .full else lev k:=rfl
@[simp]theorem CM(lev:Nat->Lv)(a:Ex)(d:Dat):aT lev (.blt .list a) d=if aw d then .full else match d with
  |.lst ds=>if aV ds then .full else .top
  |_=>.no:=rfl
@[simp]theorem Ir(lev:Nat->Lv)(a b:Ex)(d:Dat):aT lev (.slL a b) d=if aw d then .full else match d with
  |.lst ds=>if aV ds then .full else .top
  |_=>.no:=rfl
@[simp]theorem Iq(lev:Nat->Lv)(op:Bo)(a b:Ex)(d:Dat):aT lev (.bin op a b) d=if aw d then .full else match d with
  |.lst ds=>if aV ds then .full else .top
  |_=>.no:=rfl
@[simp]theorem Ip(lev:Nat->Lv)(i:Nat)(d:Dat):aT lev (.var i) d=if aw d then .full else .no:=rfl
@[simp]theorem Io(lev:Nat->Lv)(w:Wd)(d:Dat):aT lev (.lit w) d=if aw d then .full else .no:=rfl
@[simp]theorem Im(lev:Nat->Lv)(a b:Ex)(d:Dat):aT lev (.idx a b) d=if aw d then .full else .no:=rfl
@[simp]theorem HC(lev:Nat->Lv)(a:Ex)(d:Dat):aT lev (.neg a) d=if aw d then .full else .no:=rfl
@[simp]theorem HB(lev:Nat->Lv)(a:Ex)(d:Dat):aT lev (.not a) d=if aw d then .full else .no:=rfl
@[simp]theorem HA(lev:Nat->Lv)(a b:Ex)(d:Dat):aT lev (.and a b) d=if aw d then .full else .no:=rfl
@[simp]theorem tK(lev:Nat->Lv)(a b:Ex)(d:Dat):aT lev (.or a b) d=if aw d then .full else .no:=rfl
@[simp]theorem Hz(lev:Nat->Lv)(op:Co)(a b:Ex)(d:Dat):aT lev (.cmp op a b) d=if aw d then .full else .no:=rfl
@[simp]theorem Hy(lev:Nat->Lv)(c a b:Ex)(d:Dat):aT lev (.ife c a b) d=if aw d then .full else .no:=rfl
@[simp]theorem Ii(lev:Nat->Lv)(d:Dat):aT lev (.unit) d=if aw d then .full else .no:=rfl
@[simp]theorem Hx(lev:Nat->Lv)(t:Tg)(a:Ex)(d:Dat):aT lev (.isi t a) d=if aw d then .full else .no:=rfl
@[simp]theorem Hw(lev:Nat->Lv)(a b c:Ex)(d:Dat):aT lev (.rng a b c) d=if aw d then .full else .no:=rfl
@[simp]theorem Ih(lev:Nat->Lv)(a:Ex)(d:Dat):aT lev (.blt .len a) d=if aw d then .full else .no:=rfl
@[simp]theorem Ig(lev:Nat->Lv)(a:Ex)(d:Dat):aT lev (.blt .int a) d=if aw d then .full else .no:=rfl
@[simp]theorem IH(lev:Nat->Lv)(a:Ex)(d:Dat):aT lev (.blt .tuple a) d=if aw d then .full else .no:=rfl
@[simp]theorem Ie(lev:Nat->Lv)(a:Ex)(d:Dat):aT lev (.blt .sum a) d=if aw d then .full else .no:=rfl
@[simp]theorem Ic(lev:Nat->Lv)(a:Ex)(d:Dat):aT lev (.blt .all a) d=if aw d then .full else .no:=rfl
def aJ(R:Nat->Prop)(m:Me)(lv:Dat->Lv)(r:Rz)(rd:Rd):Prop:=match rd with
 |.ok d=>∃w m' A,r=.ok w m'/\Le m m'/\bv (λl=>Rf R m.length l/\l∉A) m' (lv d) d w A/\A.Nodup/\∀a∈A,m.length<=a
 |.exc c d=>∃w m',r=.exc c w m'/\Le m m'/\ag (Rf R m.length) m' d w
 |.no=>True
def wr(lev:Nat->Lv)(k:Nat)(d:Dat):Lv:=if aw d then .full else lev k
def bF(lev:Nat->Lv)(cl:Nat->List Wd->Me->Rz)(cd:Nat->List Dat->Rd):Prop:=∀(k:Nat) (ds:List Dat) (ws:List Wd) (R:Nat->Prop) (m:Me),aa R m ds ws->aJ R m (wr lev k) (cl k ws m) (cd k ds)
def aJ.sim (h:aJ R m lv r rd):ae R m r rd:=by
 cases rd with
 |ok d=>
  obtain⟨w,m',A,rfl,l,q,_,hA⟩:=h;exact⟨w,m',rfl,l,q.rep (λ_ z=>z.1) (λa z=>.inr (hA a z))⟩
 |exc c d=>exact h
 |no=>trivial
def bF.r (H:bF lev cl cd):bp cl cd:=λk ds ws R m q=>(H k ds ws R m q).sim
set_option tactic.hygienic true in
def ae.own (h:ae R m r rd)(hl:∀d,lv d=if aw d then .full else .no):aJ R m lv r rd:=by
 cases rd with
 |ok d=>
  obtain⟨w,m',rfl,l,q⟩:=h;refine⟨w,m',[],rfl,l,?_,QM,by simp⟩;rw[hl];split
  .next z=>exact q.flat d w z
  .exact ⟨ag.frame (λl o r z=>⟨⟨r,by simp⟩,z⟩) d w q,rfl⟩
 |exc c d=>exact h
 |no=>trivial
theorem aJ.lift{R:Nat->Prop}{m m1:Me}{r:Rz}{rd:Rd}{lv:Dat->Lv}(h:Le m m1)(q:aJ (Rf R m.length) m1 lv r rd):aJ R m lv r rd:=by
 have hl:=h.len;cases rd with
 |ok d=>
  obtain⟨w,m',A,rfl,k,z,nd,hA⟩:=q;exact⟨w,m',A,rfl,h.trans k,z.frame (λl o r z=>⟨⟨by rcases r.1 with (r|r)|r;exact .inl r;exact .inr r;exact .inr (by lia),r.2⟩,z⟩) (λ_ _ _ z=>z),nd,λa ha=>by have:=hA a ha;lia⟩
 |exc c d=>exact ae.lift (rd:=.exc c d) h q
 |no=>trivial
def ae.bindO (h:ae R m r rd)(k:∀d w m',Le m m'->ag (Rf R m.length) m' d w->aJ (Rf R m.length) m' lv (f w m') (g d)):aJ R m lv (r.bind f) (rd.bind g):=by
 cases rd with
 |ok d=>obtain⟨w,m',rfl,l,z⟩:=h;exact aJ.lift l (k d w m' l z)
 |exc c d=>obtain⟨w,m',rfl,l,z⟩:=h;exact⟨w,m',rfl,l,z⟩
 |no=>trivial
theorem aJ.no{R:Nat->Prop}{m:Me}{r:Rz}{lv:Dat->Lv}:aJ R m lv r .no:=trivial
set_option tactic.hygienic true in
def aJ.new{R:Nat->Prop}{m:Me}{ds:List Dat}{xs:List Wd}{lv:Dat->Lv}(h:aa R m ds xs)(hl:∀es,lv (.lst es)=if aV es then .full else .top):aJ R m lv (alloc m xs) (bo ds):=by
 unfold bo alloc;rw[h.len];by_cases z:xs.length<=aq
 .rw[Lp z,Lp z];refine⟨_,_,[m.length],rfl,Le.app m _,?_,by simp,by simp⟩;rw[hl];split
  .next f=>exact bx.mpr ⟨_,xs,[],rfl,rfl,by simp,h.flat ds xs f⟩
  .refine ⟨ds,_,xs,rfl,rfl,rfl,by simp,aa.frame (λl o r z=>⟨⟨.inl r,?_⟩,Le.app m _ l o z⟩) ds xs h⟩;have:=(Qa.mp z).1;simp;lia
 .rw[Lq z,Lq z];exact aJ.no
def nn (hm:Le m0 m)(h:au m ds xs A)(nd:A.Nodup)(hA:∀a∈A,m0.length<=a)(hl:lv (.lst ds)=.full)(hlen:ds.length=xs.length):aJ R m0 lv (alloc m xs) (bo ds):=by
 unfold bo alloc;rw[hlen];have hlt:=h.lt;by_cases z:xs.length<=aq
 .rw[Lp z,Lp z];refine⟨_,_,m.length::A,rfl,hm.trans (Le.app m _),?_,QV.mpr ⟨λq=>by have:=hlt _ q;lia,nd⟩,?_⟩
  .rw[hl];exact bx.mpr ⟨_,xs,A,rfl,rfl,by simp,au.frame ds xs A (λl hl o q=>Le.app m _ l o q) h⟩
  .intro a ha;rcases Qo.mp ha with rfl|ha
   .exact hm.len
   .exact hA a ha
 .rw[Lq z,Lq z];exact aJ.no
theorem au.len:∀{ds:List Dat}{xs:List Wd}{A:List Nat},au m ds xs A->ds.length=xs.length
 |[],xs,A,q=>by rw[q.nil_inv.1];rfl
 |d::ds,xs,A,q=>by
  obtain⟨x,r,B,C,rfl,rfl,a,b⟩:=q.cons_inv;simp[au.len b]
def c9(R:Nat->Prop)(m:Me)(lv:Dat->Lv)(r:Rz)(rd:Rd):Prop:=match rd with
 |.ok d=>∃out m2 outx,d=.lst out/\out.length<=aq/\r=alloc m2 outx/\Le m m2/\aa (Rf R m.length) m2 out outx/\((∀y∈out,lv y=.full)->∃A,au m2 out outx A/\A.Nodup/\∀a∈A,m.length<=a)
 |.exc c d=>∃w m',r=.exc c w m'/\Le m m'/\ag (Rf R m.length) m' d w
 |.no=>True
def cH(m0 m:Me)(lv:Dat->Lv)(acc:List Dat)(acx:List Wd):Prop:=(∀y∈acc,lv y=.full)->∃A,au m acc acx A/\A.Nodup/\∀a∈A,m0.length<=a
def cH.up{m0 m m':Me}{lv:Dat->Lv}{acc:List Dat}{acx:List Wd}(h:Le m m')(q:cH m0 m lv acc acx):cH m0 m' lv acc acx:=λz=>by
 obtain⟨A,a,b,c⟩:=q z;exact⟨A,au.frame acc acx A (λl _ o k=>h l o k) a,b,c⟩
def cH.push{m0 m m':Me}{lv:Dat->Lv}{acc:List Dat}{acx:List Wd}{d:Dat}{w:Wd}{B:List Nat}(hm:Le m0 m)(h:Le m m')(q:cH m0 m lv acc acx)(z:lv d=.full->bh m' d w B)(nd:B.Nodup)(hB:∀b∈B,m.length<=b):cH m0 m' lv (acc++[d]) (acx++[w]):=λf=>by
 obtain⟨A,a,b,c⟩:=q λy hy=>f y (Q5 _ hy);refine⟨A++(B++[]),(au.frame acc acx A (λl _ o k=>h l o k) a).app (.cons (z (f d (by simp))) .nil),?_,?_⟩
 .rw[QW];refine QQ.mpr ⟨b,nd,λx hx y hy e=>?_⟩;have:=au.lt acc acx A a x hx;have:=hB y hy;lia
 .intro x hx;rw[QW]at hx;rcases Qx.mp hx with hx|hx
  .exact c x hx
  .have:=hB x hx;have:=hm.len;lia
theorem wH (hc:∀(R':Nat->Prop) m d x,(∀l,R l->R' l)->Le m0 m->ag R' m d x->ae R' m (c x m) (cd d))(he:∀(R':Nat->Prop) m d x,(∀l,R l->R' l)->Le m0 m->ag R' m d x->aJ R' m lv (e x m) (ed d)):
  ∀(ds:List Dat) (xs:List Wd) (acc:List Dat) (acx:List Wd) (m:Me),Le m0 m->aa (Rf R m0.length) m ds xs->aa (Rf R m0.length) m acc acx->cH m0 m lv acc acx->c9 R m0 lv (y6 c e xs acx m) (zE cd ed ds acc)
 |[],xs,acc,acx,m,hm,a,b,f=>by
  rw[a.nil_inv];unfold y6 zE bo;by_cases z:acc.length<=aq
  .rw[Lp z];exact⟨acc,m,acx,rfl,z,rfl,hm,b,f⟩
  .rw[Lq z];trivial
 |d::ds,xs,acc,acx,m,hm,a,b,f=>by
  obtain⟨x,r,rfl,p,q⟩:=a.cons_inv;have hl:=hm.len;have sh:∀{n:Nat}{m':Me}{d:Dat}{w:Wd},m0.length<=n->ag (Rf (Rf R m0.length) n) m' d w->ag (Rf R m0.length) m' d w:=λhn k=>ag.frame (λl o r z=>⟨by rcases r with (r|r)|r;exact .inl r;exact .inr r;exact .inr (by lia),z⟩) _ _ k;unfold y6 zE;have h1:=hc _ m d x (λl z=>.inl z) hm p;cases e1:cd d with
  |no=>trivial
  |exc k t=>rw[e1]at h1;obtain⟨w,m',h1,l1,k1⟩:=h1;rw[h1];exact⟨w,m',rfl,hm.trans l1,sh hl k1⟩
  |ok t=>
   rw[e1]at h1;obtain⟨w,m1,h1,l1,k1⟩:=h1;rw[h1];simp only[Rz.bind,Rd.bind];cases t with
   |bl t=>
    rw[ak.mp k1];have fr:∀{ds:List Dat}{xs:List Wd},aa (Rf R m0.length) m ds xs->aa (Rf R m0.length) m1 ds xs:=λk=>aa.frame (λl o r z=>⟨r,l1 l o z⟩) _ _ k;cases t with
    |false=>exact wH hc he ds r acc acx m1 (hm.trans l1) (fr q) (fr b) (f.up l1)
    |true=>
     have h2:=he _ m1 d x (λl z=>.inl z) (hm.trans l1) (ag.frame (λl o r z=>⟨r,l1 l o z⟩) _ _ p);have hl1:=(hm.trans l1).len;simp only;cases e2:ed d with
     |no=>trivial
     |exc k t=>rw[e2]at h2;obtain⟨w,m',h2,l2,k2⟩:=h2;rw[h2];exact⟨w,m',rfl,(hm.trans l1).trans l2,sh hl1 k2⟩
     |ok y=>
      rw[e2]at h2;have h3:=h2.sim;obtain⟨w,m2,B,h2,l2,k2,nd,hB⟩:=h2;obtain⟨w',m2',h3,_,k3⟩:=h3;rw[h2]at h3 ⊢;cases h3;simp only[Rz.bind,Rd.bind,b.len];split
      .refine wH hc he ds r _ _ m2 ((hm.trans l1).trans l2) (aa.frame (λl o r z=>⟨r,l2 l o z⟩) _ _ (fr q)) ((aa.frame (λl o r z=>⟨r,l2 l o z⟩) _ _ (fr b)).app (.cons (sh hl1 k3) .nil)) ((f.up l1).push (hm.trans l1) l2 ?_ nd hB);intro z;rw[z]at k2;exact k2
      .trivial
   |_=>trivial
theorem v6 (hx0:m0[l]?=some (.lst xs0))(hc:∀(R':Nat->Prop) m d x,(∀l,R l->R' l)->Le m0 m->ag R' m d x->ae R' m (c x m) (cd d))(he:∀(R':Nat->Prop) m d x,(∀l,R l->R' l)->Le m0 m->ag R' m d x->aJ R' m lv (e x m) (ed d)):
  ∀(ds:List Dat) (i k:Nat) (acc:List Dat) (acx:List Wd) (m:Me),Le m0 m->aa (Rf R m0.length) m ds (xs0.drop i)->i+ds.length=xs0.length->ds.length<k->aa (Rf R m0.length) m acc acx->cH m0 m lv acc acx->c9 R m0 lv (y7 c e l k i acx m) (zE cd ed ds acc)
 |[],i,0,acc,acx,m,hm,a,hi,hk,b,f=>by simp at hk
 |d::ds,i,0,acc,acx,m,hm,a,hi,hk,b,f=>by simp at hk
 |[],i,k+1,acc,acx,m,hm,a,hi,hk,b,f=>by
  unfold y7 zE zn bo;rw[hm l _ hx0];simp only;rw[QE (by simp at hi;lia)];by_cases z:acc.length<=aq
  .rw[Lp z];exact⟨acc,m,acx,rfl,z,rfl,hm,b,f⟩
  .rw[Lq z];trivial
 |d::ds,i,k+1,acc,acx,m,hm,a,hi,hk,b,f=>by
  obtain⟨x,r,e0,p,q⟩:=a.cons_inv;have hx:xs0[i]?=some x:=by
   have:(xs0.drop i)[0]?=some x:=by rw[e0];rfl
   simpa using this
  have hr:r=xs0.drop (i+1):=by
   have:(xs0.drop i).drop 1=r:=by rw[e0];rfl
   rw[<-this,WD]
  rw[hr]at q;have hi':i+1+ds.length=xs0.length:=by simp at hi;lia
  have hk':ds.length<k:=by simp at hk;lia
  have hl:=hm.len;have sh:∀{n:Nat}{m':Me}{d:Dat}{w:Wd},m0.length<=n->ag (Rf (Rf R m0.length) n) m' d w->ag (Rf R m0.length) m' d w:=λhn k=>ag.frame (λl o r z=>⟨by rcases r with (r|r)|r;exact .inl r;exact .inr r;exact .inr (by lia),z⟩) _ _ k;unfold y7 zE zn;rw[hm l _ hx0];simp only;rw[hx];simp only;have h1:=hc _ m d x (λl z=>.inl z) hm p;cases e1:cd d with
  |no=>trivial
  |exc k t=>rw[e1]at h1;obtain⟨w,m',h1,l1,k1⟩:=h1;rw[h1];exact⟨w,m',rfl,hm.trans l1,sh hl k1⟩
  |ok t=>
   rw[e1]at h1;obtain⟨w,m1,h1,l1,k1⟩:=h1;rw[h1];simp only[Rz.bind,Rd.bind];cases t with
   |bl t=>
    rw[ak.mp k1];have fr:∀{ds:List Dat}{xs:List Wd},aa (Rf R m0.length) m ds xs->aa (Rf R m0.length) m1 ds xs:=λk=>aa.frame (λl o r z=>⟨r,l1 l o z⟩) _ _ k;cases t with
    |false=>exact v6 hx0 hc he ds (i+1) k acc acx m1 (hm.trans l1) (fr q) hi' hk' (fr b) (f.up l1)
    |true=>
     have h2:=he _ m1 d x (λl z=>.inl z) (hm.trans l1) (ag.frame (λl o r z=>⟨r,l1 l o z⟩) _ _ p);have hl1:=(hm.trans l1).len;simp only;cases e2:ed d with
     |no=>trivial
     |exc k t=>rw[e2]at h2;obtain⟨w,m',h2,l2,k2⟩:=h2;rw[h2];exact⟨w,m',rfl,(hm.trans l1).trans l2,sh hl1 k2⟩
     |ok y=>
      rw[e2]at h2;have h3:=h2.sim;obtain⟨w,m2,B,h2,l2,k2,nd,hB⟩:=h2;obtain⟨w',m2',h3,_,k3⟩:=h3;rw[h2]at h3 ⊢;cases h3;simp only[Rz.bind,Rd.bind,b.len];split
      .refine v6 hx0 hc he ds (i+1) k _ _ m2 ((hm.trans l1).trans l2) (aa.frame (λl o r z=>⟨r,l2 l o z⟩) _ _ (fr q)) hi' hk' ((aa.frame (λl o r z=>⟨r,l2 l o z⟩) _ _ (fr b)).app (.cons (sh hl1 k3) .nil)) ((f.up l1).push (hm.trans l1) l2 ?_ nd hB);intro z;rw[z]at k2;exact k2
      .trivial
   |_=>trivial
theorem v7 (hg:lB (Rf R m0.length) m0 ps g)(hc:∀(R':Nat->Prop) m p a b,(∀l,R l->R' l)->Le m0 m->ag R' m p.1 a->ag R' m p.2 b->ae R' m (c a b m) (cd p))(he:∀(R':Nat->Prop) m p a b,(∀l,R l->R' l)->Le m0 m->ag R' m p.1 a->ag R' m p.2 b->aJ R' m lv (e a b m) (ed p)):
  ∀(ds:List (Dat×Dat)) (i k:Nat) (acc:List Dat) (acx:List Wd) (m:Me),Le m0 m->ds=ps.drop i->i+ds.length=ps.length->ds.length<k->aa (Rf R m0.length) m acc acx->cH m0 m lv acc acx->c9 R m0 lv (yh c e g k i acx m) (zE cd ed ds acc)
 |[],i,0,acc,acx,m,hm,a,hi,hk,b,f=>by simp at hk
 |d::ds,i,0,acc,acx,m,hm,a,hi,hk,b,f=>by simp at hk
 |[],i,k+1,acc,acx,m,hm,a,hi,hk,b,f=>by
  unfold yh zE bo;rw[(hg m hm).2 i (by simp at hi;lia)];simp only;by_cases z:acc.length<=aq
  .rw[Lp z];exact⟨acc,m,acx,rfl,z,rfl,hm,b,f⟩
  .rw[Lq z];trivial
 |d::ds,i,k+1,acc,acx,m,hm,a,hi,hk,b,f=>by
  have hx:ps[i]?=some d:=by
   have:(ps.drop i)[0]?=some d:=by rw[<-a];rfl
   simpa using this
  have hr:ds=ps.drop (i+1):=by
   have:(ps.drop i).drop 1=ds:=by rw[<-a];rfl
   rw[<-this,WD]
  have hi':i+1+ds.length=ps.length:=by simp at hi;lia
  have hk':ds.length<k:=by simp at hk;lia
  obtain⟨u,v,e0,p,q⟩:=(hg m hm).1 i d hx;have hl:=hm.len;have sh:∀{n:Nat}{m':Me}{d:Dat}{w:Wd},m0.length<=n->ag (Rf (Rf R m0.length) n) m' d w->ag (Rf R m0.length) m' d w:=λhn k=>ag.frame (λl o r z=>⟨by rcases r with (r|r)|r;exact .inl r;exact .inr r;exact .inr (by lia),z⟩) _ _ k;unfold yh zE;rw[e0];simp only;have h1:=hc _ m d u v (λl z=>.inl z) hm p q;cases e1:cd d with
  |no=>trivial
  |exc k t=>rw[e1]at h1;obtain⟨w,m',h1,l1,k1⟩:=h1;rw[h1];exact⟨w,m',rfl,hm.trans l1,sh hl k1⟩
  |ok t=>
   rw[e1]at h1;obtain⟨w,m1,h1,l1,k1⟩:=h1;rw[h1];simp only[Rz.bind,Rd.bind];cases t with
   |bl t=>
    rw[ak.mp k1];have fr:∀{ds:List Dat}{xs:List Wd},aa (Rf R m0.length) m ds xs->aa (Rf R m0.length) m1 ds xs:=λk=>aa.frame (λl o r z=>⟨r,l1 l o z⟩) _ _ k;cases t with
    |false=>exact v7 hg hc he ds (i+1) k acc acx m1 (hm.trans l1) hr hi' hk' (fr b) (f.up l1)
    |true=>
     have h2:=he _ m1 d u v (λl z=>.inl z) (hm.trans l1) (ag.frame (λl o r z=>⟨r,l1 l o z⟩) _ _ p) (ag.frame (λl o r z=>⟨r,l1 l o z⟩) _ _ q);have hl1:=(hm.trans l1).len;simp only;cases e2:ed d with
     |no=>trivial
     |exc k t=>rw[e2]at h2;obtain⟨w,m',h2,l2,k2⟩:=h2;rw[h2];exact⟨w,m',rfl,(hm.trans l1).trans l2,sh hl1 k2⟩
     |ok y=>
      rw[e2]at h2;have h3:=h2.sim;obtain⟨w,m2,B,h2,l2,k2,nd,hB⟩:=h2;obtain⟨w',m2',h3,_,k3⟩:=h3;rw[h2]at h3 ⊢;cases h3;simp only[Rz.bind,Rd.bind,b.len];split
      .refine v7 hg hc he ds (i+1) k _ _ m2 ((hm.trans l1).trans l2) hr hi' hk' ((aa.frame (λl o r z=>⟨r,l2 l o z⟩) _ _ (fr b)).app (.cons (sh hl1 k3) .nil)) ((f.up l1).push (hm.trans l1) l2 ?_ nd hB);intro z;rw[z]at k2;exact k2
      .trivial
   |_=>trivial
def c9.sim (h:c9 R m lv r rd)(hl:∀ds,lw (.lst ds)=if ds.all (λx=>lv x == .full)then .full else .top):aJ R m lw r rd:=by
 cases rd with
 |no=>trivial
 |exc c d=>exact h
 |ok d=>
  obtain⟨out,m2,outx,rfl,hlen,rfl,l2,k2,own⟩:=h;have e:=k2.len;cases z:out.all (λx=>lv x == .full)with
  |true=>
   obtain⟨A,a,b,c⟩:=own λy hy=>by simpa using QN.mp z y hy
   have:=nn (R:=R) (lv:=lw) l2 a b c (by rw[hl,z];rfl) e;unfold bo at this;rw[Lp hlen]at this;exact this
  |false=>
   unfold alloc;rw[<-e,Lp hlen];have ll:=l2.len;refine⟨_,_,[m2.length],rfl,l2.trans (Le.app m2 _),?_,by simp,by simp;exact ll⟩;rw[hl,z];refine⟨out,_,outx,rfl,rfl,rfl,by simp,aa.frame (λl o r z=>⟨⟨r,?_⟩,Le.app m2 _ l o z⟩) out outx k2⟩;have:=(Qa.mp z).1;simp;lia
theorem ju(lev:Nat->Lv):∀(e:Ex) (d:Dat),aw d=true->aT lev e d=.full
 |.tup a,d,h=>ju lev a d h
 |.comp _ _ _,d,h=>Lp h
 |.compP _ _ _ _ _,d,h=>Lp h
 |.lst _,d,h=>Lp h
 |.pair _ _,d,h=>Lp h
 |.call _ _,d,h=>Lp h
 |.blt b _,d,h=>by cases b<;>exact Lp h
 |.slL _ _,d,h=>Lp h
 |.bin _ _ _,d,h=>Lp h
 |.var _,d,h=>Lp h
 |.lit _,d,h=>Lp h
 |.neg _,d,h=>Lp h
 |.not _,d,h=>Lp h
 |.and _ _,d,h=>Lp h
 |.or _ _,d,h=>Lp h
 |.cmp _ _ _,d,h=>Lp h
 |.chain _ _ _ _ _,d,h=>Lp h
 |.ife _ _ _,d,h=>Lp h
 |.unit,d,h=>Lp h
 |.isi _ _,d,h=>Lp h
 |.dict0,d,h=>Lp h
 |.dget _ _,d,h=>Lp h
 |.dop _ _ _ _,d,h=>Lp h
 |.idx _ _,d,h=>Lp h
 |.meth _ _ _,d,h=>Lp h
 |.rng _ _ _,d,h=>Lp h
def aJ.newTop{R:Nat->Prop}{m0 m:Me}{ds:List Dat}{xs:List Wd}{lv:Dat->Lv}(hm:Le m0 m)(h:aa (Rf R m0.length) m ds xs)(hl:lv (.lst ds)=.top):aJ R m0 lv (alloc m xs) (bo ds):=by
 unfold bo alloc;rw[h.len];by_cases z:xs.length<=aq
 .rw[Lp z,Lp z];refine⟨_,_,[m.length],rfl,hm.trans (Le.app m _),?_,by simp,by simp;exact hm.len⟩;rw[hl];refine⟨ds,_,xs,rfl,rfl,rfl,by simp,aa.frame (λl o r z=>⟨⟨r,?_⟩,Le.app m _ l o z⟩) ds xs h⟩;have:=(Qa.mp z).1;simp;lia
 .rw[Lq z,Lq z];exact aJ.no
set_option tactic.hygienic true in
def CL{R:Nat->Prop}{m:Me}{d e:Dat}{x y:Wd}{lv:Dat->Lv}(op:Bo)(hl:∀d,lv d=if aw d then .full else match d with |.lst ds=>if aV ds then .full else .top|_=>.no)(a:ag R m d x)(b:ag R m e y):aJ R m lv (cQ op x y m) (ym op d e):=by
 have hn:∀es,lv (.lst es)=if aV es then .full else .top:=λes=>by rw[hl];simp[aw]
 have hs:=qo op a b;cases d with
 |lst ds=>
  obtain⟨l,xs,rfl,_,hm,a1⟩:=az.mp a;cases e with
  |lst es=>
   obtain⟨l',ys,rfl,_,hk,b1⟩:=az.mp b;cases op<;>first|exact aJ.no|skip
   simp only[cQ,ym,hm,hk];exact aJ.new (a1.app b1) hn
  |int k=>
   rw[ab.mp b];cases op<;>first|exact aJ.no|skip
   simp only[cQ,ym,hm];by_cases z:-(aq:Int)<=k/\k<=(aq:Int)
   .rw[Lp z,Lp z];exact aJ.new (a1.rep _) hn
   .rw[Lq z,Lq z];exact aJ.no
  |_=>exact aJ.no
 |int i=>
  cases e with
  |int j=>
   have hi:∀r:Rd,ae R m (cQ op x y m) r->(∀d,r=.ok d->aw d=true)->aJ R m lv (cQ op x y m) r:=by
    intro r h f;cases r with
    |ok d=>
     obtain⟨w,m',h,l,k⟩:=h;refine⟨w,m',[],h,l,?_,QM,by simp⟩;rw[hl,Lp (f d rfl)];exact k.flat d w (f d rfl)
    |exc c d=>exact h
    |no=>trivial
   refine hi _ hs λd h=>?_;cases op<;>simp only[ym]at h
   .cases h;rfl
   .cases h;rfl
   all_goals (split at h<;>(cases h;try rfl))
  |_=>exact aJ.no
 |tup ds=>
  obtain⟨xs,rfl,a1⟩:=ah.mp a;cases e with
  |tup es=>
   obtain⟨ys,rfl,b1⟩:=ah.mp b;cases op<;>first|exact aJ.no|skip
   simp only[ym]at hs ⊢;split at hs
   .next z=>
    rw[Lp z];obtain⟨w,m',h,l,k⟩:=hs;refine⟨w,m',[],h,l,?_,QM,by simp⟩;rw[hl];split
    .next f=>exact k.flat _ w f
    .exact ⟨ag.frame (λl o r z=>⟨⟨r,by simp⟩,z⟩) _ w k,rfl⟩
   .next z=>rw[Lq z];exact aJ.no
  |_=>exact aJ.no
 |_=>exact aJ.no
set_option tactic.hygienic true in
def Bx{R:Nat->Prop}{m:Me}{d:Dat}{x:Wd}{lv:Dat->Lv}(lo hi:Option Int)(hl:∀d,lv d=if aw d then .full else match d with |.lst ds=>if aV ds then .full else .top|_=>.no)(a:ag R m d x):aJ R m lv (e8 x lo hi m) (eI d lo hi):=by
 have hn:∀es,lv (.lst es)=if aV es then .full else .top:=λes=>by rw[hl];simp[aw]
 by_cases t:∃ds,d=.tup ds
 .obtain ⟨ds,rfl⟩:=t;have hs:=p6 lo hi a;simp only[eI]at hs ⊢;split at hs
  .next z=>rw[Lp z];exact aJ.no
  .next z=>
   rw[Lq z];obtain⟨w,m',h,l,k⟩:=hs;refine⟨w,m',[],h,l,?_,QM,by simp⟩;rw[hl];split
   .next f=>exact k.flat _ w f
   .exact ⟨ag.frame (λl o r z=>⟨⟨r,by simp⟩,z⟩) _ w k,rfl⟩
 have t':∀ds,d≠.tup ds:=λds e=>t ⟨ds,e⟩;rw[oN (p7 a t'),p8 t'];cases z:dn d with
 |none=>exact aJ.no
 |some ds=>
  obtain⟨xs,h,q⟩:=js a z;simp only[h,q.len];exact aJ.new ((q.drop _).take _) hn
set_option tactic.hygienic true in
theorem xt (H:bF lev cl cd):∀(e:Ex) (R:Nat->Prop) (m:Me) (de:aS) (env:En),bT R m (zj e) de env->aJ R m (aT lev e) (af cl e env m) (am cd e de)
 |.call k a,R,m,de,env,q=>by
  have e:aT lev (.call k a)=wr lev k:=by funext d;simp[wr]
  rw[e];refine(za H.r a R m de env q).bindO λd w m1 l1 k1=>?_;exact H k _ _ _ m1 (yn k1)
 |.bin op a b,R,m,de,env,q=>by
  refine(za H.r a R m de env q.left).bindO λd w m1 l1 k1=>?_;refine(za H.r b _ m1 de env (q.right.up (λ_=>.inl) l1)).bindO λd2 w2 m2 l2 k2=>?_;exact CL op (λd=>by cases d<;>rfl) (k1.up _ l2) k2
 |.slL a b,R,m,de,env,q=>by
  refine(za H.r a R m de env q.left).bindO λd w m1 l1 k1=>?_;refine(za H.r b _ m1 de env (q.right.up (λ_=>.inl) l1)).bindO λd2 w2 m2 l2 k2=>?_;cases d2 with
  |int i=>
   rw[ab.mp k2];exact Bx _ _ (λd=>by cases d<;>rfl) (k1.up m1.length l2)
  |_=>exact aJ.no
 |.blt b a,R,m,de,env,q=>by
  by_cases hb:b=.list
  .subst hb;refine(za H.r a R m de env q).bindO λd w m1 l1 k1=>?_;have k2:=yn k1;simp only[xf];split
   .next x hx=>
    rw[hx]at k2;obtain⟨x',r,e0,p,q0⟩:=k2.cons_inv;rw[e0,q0.nil_inv];split
    .next z=>obtain⟨ys,h,q⟩:=xB p z;simp only[kx,h];exact aJ.new q (λes=>by simp[aw])
    .exact aJ.no
   .exact aJ.no
  .exact (za H.r (.blt b a) R m de env q).own λd=>by cases b<;>first|exact Lr rfl hb|rfl
 |.lst a,R,m,de,env,q=>by
  have ih:=xt H a R m de env q;show aJ R m _ ((af cl a env m).bind λx m1=>alloc m1 (zz x)) ((am cd a de).bind λx=>bo (zJ x));cases ea:am cd a de with
  |no=>trivial
  |exc c d=>rw[ea]at ih;obtain⟨w,m',h,l,k⟩:=ih;rw[h];exact⟨w,m',rfl,l,k⟩
  |ok d=>
   rw[ea]at ih;have hs:=ih.sim;obtain⟨w,m1,A,h,l,k,nd,hA⟩:=ih;obtain⟨w',m1',h',_,ks⟩:=hs;rw[h]at h';cases h';rw[h];simp only[Rz.bind,Rd.bind];have ka:=yn ks;cases z:aT lev a (.tup (zJ d)) == .full with
   |false=>exact aJ.newTop l ka (by simp[aw,z])
   |true=>
    have z':aT lev a (.tup (zJ d))=.full:=by simpa using z
    have own:∃B,au m1 (zJ d) (zz w) B/\B.Nodup/\∀b∈B,m.length<=b:=by
     cases d with
     |tup ds=>
      rw[show aT lev a (.tup ds)=.full from z']at k;obtain⟨xs,rfl,k1⟩:=bG.mp k;exact⟨A,k1,nd,hA⟩
     |_=>refine⟨[],?_,QM,by simp⟩;exact ka.flat _ _ rfl
    obtain⟨B,o,nb,hB⟩:=own;exact nn l o nb hB (by simp[aw,z]) ka.len
 |.tup a,R,m,de,env,q=>by
  have ih:=xt H a R m de env q;have el:aT lev (.tup a)=aT lev a:=by funext d;simp
  rw[el];show aJ R m _ ((af cl a env m).bind λx m1=>if(zz x).length<=aq then .ok (.tup (zz x)) m1 else .no) ((am cd a de).bind λx=>if(zJ x).length<=aq then .ok (.tup (zJ x))else .no);cases ea:am cd a de with
  |no=>trivial
  |exc c d=>rw[ea]at ih;obtain⟨w,m',h,l,k⟩:=ih;rw[h];exact⟨w,m',rfl,l,k⟩
  |ok d=>
   rw[ea]at ih;have hs:=ih.sim;obtain⟨w,m1,A,h,l,k,nd,hA⟩:=ih;obtain⟨w',m1',h',_,ks⟩:=hs;rw[h]at h';cases h';rw[h];have ka:=yn ks;simp only[Rz.bind,Rd.bind,ka.len];split
   .cases d with
    |tup ds=>
     obtain⟨xs,rfl,_⟩:=ah.mp ks;exact⟨_,m1,A,rfl,l,k,nd,hA⟩
    |_=>
     refine⟨_,m1,[],rfl,l,?_,QM,by simp⟩;rw[ju lev a _ (by rfl)];exact bG.mpr ⟨_,rfl,ka.flat _ _ rfl⟩
   .trivial
 |.pair a b,R,m,de,env,q=>by
  have iha:=xt H a R m de env q.left;show aJ R m _ ((af cl a env m).bind λx m1=>(af cl b env m1).bind λy m2=>.ok (.tup (x::zz y)) m2) ((am cd a de).bind λx=>(am cd b de).bind λy=>.ok (.tup (x::zJ y)));cases ea:am cd a de with
  |no=>trivial
  |exc c d=>rw[ea]at iha;obtain⟨w,m',h,l,k⟩:=iha;rw[h];exact⟨w,m',rfl,l,k⟩
  |ok d=>
   rw[ea]at iha;have hs:=iha.sim;obtain⟨w,m1,A,h,l,k,nd,hA⟩:=iha;obtain⟨w',m1',h',_,ks⟩:=hs;rw[h]at h';cases h';rw[h];simp only[Rz.bind,Rd.bind];have ihb:=xt H b _ m1 de env (q.right.up (R':=Rf R m.length) (λ_=>.inl) l);cases eb:am cd b de with
   |no=>trivial
   |exc c d=>rw[eb]at ihb;obtain⟨w,m',h,l2,k⟩:=ihb;rw[h];exact ae.lift (rd:=.exc c d) l ⟨w,m',rfl,l2,k⟩
   |ok d2=>
    rw[eb]at ihb;have hs2:=ihb.sim;obtain⟨w2,m2,A2,h2,l2,k2,nd2,hA2⟩:=ihb;obtain⟨w2',m2',h2',_,ks2⟩:=hs2;rw[h2]at h2';cases h2';rw[h2];simp only;have ka:=yn ks2;have hl1:=l.len;cases z:(aT lev a d == .full&&aT lev b (.tup (zJ d2)) == .full)with
    |false=>
     have:ae R m (.ok (.tup (w::zz w2)) m2) (.ok (.tup (d::zJ d2))):=
      ae.lift l (ae.lift l2 (cS (ah.mpr ⟨_,rfl,.cons (ks.up _ l2) ka⟩)))
     obtain⟨w3,m3,h3,l3,k3⟩:=this;refine⟨w3,m3,[],h3,l3,?_,QM,by simp⟩;by_cases f:aw (.tup (d::zJ d2))=true
     .rw[ju lev _ _ f];exact k3.flat _ w3 f
     .have:aT lev (.pair a b) (.tup (d::zJ d2))=.no:=by
       rw[pZ,Lq f];simp only[z];rfl
      rw[this];exact⟨ag.frame (λl o r z=>⟨⟨r,by simp⟩,z⟩) _ w3 k3,rfl⟩
    |true=>
     rw[Qh]at z;have z1:aT lev a d=.full:=by simpa using z.1
     have z2:aT lev b (.tup (zJ d2))=.full:=by simpa using z.2
     rw[z1]at k;have own:∃B,au m2 (zJ d2) (zz w2) B/\B.Nodup/\∀b∈B,m1.length<=b:=by
      cases d2 with
      |tup ds=>
       rw[show aT lev b (.tup ds)=.full from z2]at k2;obtain⟨xs,rfl,k3⟩:=bG.mp k2;exact⟨A2,k3,nd2,hA2⟩
      |_=>refine⟨[],?_,QM,by simp⟩;exact ka.flat _ _ rfl
     obtain⟨B,o,nb,hB⟩:=own;refine⟨_,m2,A++B,rfl,l.trans l2,?_,?_,?_⟩
     .have:aT lev (.pair a b) (.tup (d::zJ d2))=.full:=by
       rw[pZ];simp only[z1,z2];simp
      rw[this];exact bG.mpr ⟨_,rfl,.cons (bh.frame d w A (λx _ o q=>l2 x o q) k) o⟩
     .refine QQ.mpr ⟨nd,nb,λx hx y hy e=>?_⟩;have:=bh.lt d w A k x hx;have:=hB y hy;lia
     .intro x hx;rcases Qx.mp hx with hx|hx
      .exact hA x hx
      .have:=hB x hx;lia
 |.comp elt it cond,R,m,de,env,q=>by
  refine(za H.r it R m de env q.left).bindO λd w m1 l1 k1=>?_;have hc:∀(R':Nat->Prop) m' d x,(∀l,Rf R m.length l->R' l)->Le m1 m'->ag R' m' d x->ae R' m' (af cl cond (env++[some x]) m') (am cd cond (de++[some d])):=
   λR' m' d x hR l k=>za H.r cond R' m' _ _ ((q.right.right.up (λl h=>hR l (.inl h)) (l1.trans l)).push k)
  have he:∀(R':Nat->Prop) m' d x,(∀l,Rf R m.length l->R' l)->Le m1 m'->ag R' m' d x->aJ R' m' (aT lev elt) (af cl elt (env++[some x]) m') (am cd elt (de++[some d])):=
   λR' m' d x hR l k=>xt H elt R' m' _ _ ((q.right.left.up (λl h=>hR l (.inl h)) (l1.trans l)).push k)
  have hl:∀ds,aT lev (.comp elt it cond) (.lst ds)=if ds.all (λx=>aT lev elt x == .full)then .full else .top:=λds=>by simp[aw]
  have acc0:cH m1 m1 (aT lev elt) [] []:=λ_=>⟨[],.nil,QM,by simp⟩;cases d with
  |tup ds=>
   obtain⟨xs,rfl,k2⟩:=ah.mp k1;exact(wH hc he ds xs [] [] m1 (Le.refl _) (k2.up _ (Le.refl _)) .nil acc0).sim hl
  |scr ns=>
   rw[bi.mp k1];exact(wH hc he (ns.map .int) (ns.map .int) [] [] m1 (Le.refl _) (eQ ns) .nil acc0).sim hl
  |lst ds=>
   obtain⟨l,xs,rfl,_,hm,k2⟩:=az.mp k1;simp only[cB];by_cases z:ds.length<=aq
   .rw[Lp z];have hl':=k2.len;exact(v6 hm hc he ds 0 (aq+1) [] [] m1 (Le.refl _) (by simpa using (k2.up _ (Le.refl _))) (by lia) (by lia) .nil acc0).sim hl
   .rw[Lq z];exact aJ.no
  |_=>exact aJ.no
 |.compP k elt a b cond,R,m,de,env,q=>by
  refine(za H.r a R m de env q.left).bindO λd w m1 l1 k1=>?_;refine(za H.r b _ m1 de env (q.right.left.up (λl h=>.inl h) l1)).bindO λd' w' m2 l2 k2=>?_;have hc:∀(R':Nat->Prop) m' (p:Dat×Dat) x y,(∀l,Rf (Rf R m.length) m1.length l->R' l)->Le m2 m'->ag R' m' p.1 x->ag R' m' p.2 y->ae R' m' (af cl cond (env++[some x]++[some y]) m') (am cd cond (de++[some p.1]++[some p.2])):=
   λR' m' d x y hR l k k'=>za H.r cond R' m' _ _ (((q.right.right.right.up (λl h=>hR l (.inl (.inl h))) ((l1.trans l2).trans l)).push k).push k')
  have he:∀(R':Nat->Prop) m' (p:Dat×Dat) x y,(∀l,Rf (Rf R m.length) m1.length l->R' l)->Le m2 m'->ag R' m' p.1 x->ag R' m' p.2 y->aJ R' m' (aT lev elt) (af cl elt (env++[some x]++[some y]) m') (am cd elt (de++[some p.1]++[some p.2])):=
   λR' m' d x y hR l k k'=>xt H elt R' m' _ _ (((q.right.right.left.up (λl h=>hR l (.inl (.inl h))) ((l1.trans l2).trans l)).push k).push k')
  have hl:∀ds,aT lev (.compP k elt a b cond) (.lst ds)=if ds.all (λx=>aT lev elt x == .full)then .full else .top:=λds=>by simp[aw]
  have acc0:cH m2 m2 (aT lev elt) [] []:=λ_=>⟨[],.nil,QM,by simp⟩;cases e:yB k d d' with
  |none=>exact aJ.no
  |some ps=>
   obtain⟨pr,hln⟩:=wG e ((k1.up _ l2).up m2.length (Le.refl _)) (k2.up m2.length (Le.refl _));exact(v7 pr hc he ps 0 (aq+1) [] [] m2 (Le.refl _) (by simp) (by simp) (by lia) .nil acc0).sim hl
 |.var i,R,m,de,env,q=>(za H.r _ R m de env q).own λd=>rfl
 |.lit w,R,m,de,env,q=>(za H.r _ R m de env q).own λd=>rfl
 |.neg a,R,m,de,env,q=>(za H.r _ R m de env q).own λd=>rfl
 |.not a,R,m,de,env,q=>(za H.r _ R m de env q).own λd=>rfl
 |.and a b,R,m,de,env,q=>(za H.r _ R m de env q).own λd=>rfl
 |.or a b,R,m,de,env,q=>(za H.r _ R m de env q).own λd=>rfl
 |.cmp op a b,R,m,de,env,q=>(za H.r _ R m de env q).own λd=>rfl
 |.chain o p a b c,R,m,de,env,q=>(za H.r _ R m de env q).own λd=>rfl
 |.ife c a b,R,m,de,env,q=>(za H.r _ R m de env q).own λd=>rfl
 |.unit,R,m,de,env,q=>(za H.r _ R m de env q).own λd=>rfl
 |.isi t a,R,m,de,env,q=>(za H.r _ R m de env q).own λd=>rfl
 |.dict0,R,m,de,env,q=>⟨_,_,[m.length],rfl,Le.app m _,bP.mpr ⟨_,[],[],rfl,rfl,by simp,.nil⟩,by simp,by simp⟩
 |.dget a b,R,m,de,env,q=>(za H.r _ R m de env q).own λd=>rfl
 |.dop _ _ _ _,R,m,de,env,q=>(za H.r _ R m de env q).own λd=>rfl
 |.idx a b,R,m,de,env,q=>(za H.r _ R m de env q).own λd=>rfl
 |.meth _ _ _,R,m,de,env,q=>(za H.r _ R m de env q).own λd=>rfl
 |.rng a b c,R,m,de,env,q=>(za H.r _ R m de env q).own λd=>rfl
set_option genInjectivity false in
inductive bY where
 |next (de:aS) (lv:List Lv)|ret (d:Dat) (l:Lv)|brk (de:aS) (lv:List Lv)|cont (de:aS) (lv:List Lv)|exc (c:Nat) (d:Dat)|no
deriving Inhabited
noncomputable def Rd.bindS(r:Rd)(f:Dat->bY):bY:=match r with
 |.ok d=>f d
 |.exc c d=>.exc c d
 |.no=>.no
def Rd.okS(r:Rd)(f:Dat->bY):bY:=match r with
 |.ok d=>f d
 |_=>.no
noncomputable def bg:List Nat->List Lv->List Lv
 |[],lv=>lv
 |i::vs,lv=>bg vs (lv.set i .no)
noncomputable def ck(de:aS)(j:Nat)(lv:List Lv):List Lv:=match de[j]?,lv[j]? with
 |some (some (.lst _)),some .full=>lv.set j .top
 |some (some (.lst _)),some .top=>lv.set j .top
 |_,_=>lv.set j .no
noncomputable def xu(e:Ex)(de:aS)(lv:List Lv):List Lv:=match e with
 |.idx (.var j) b=>ck de j (bg (zj b) lv)
 |.dget (.var i) (.idx (.var _) (.neg (.lit _)))=>bg [i] lv
 |e=>bg (zj e) lv
mutual
noncomputable def dS:Dat->Nat
 |.lst xs=>cR xs+1
 |.dct _ xs=>cR xs+1
 |.tup xs=>cR xs+1
 |.non=>0
 |.bl _=>0
 |.int _=>0
 |.str _=>0
 |.scr _=>0
noncomputable def cR:List Dat->Nat
 |[]=>0
 |d::ds=>max (dS d) (cR ds)
end
noncomputable def yx(lv:List Lv)(j:Nat):Bool:=match lv[j]? with
 |some .top=>true
 |some .full=>true
 |_=>false
noncomputable def gd(lev:Nat->Lv)(e:Ex)(d:Dat)(j:Nat)(de:aS)(lv:List Lv):Option (aS×List Lv):=
 if yx lv j=false then none
 else if aT lev e d=.full then some (de,lv)
 else if j∈zj e then none
 else match e with
  |.var i=>if lv[i]?=some .full/\lv[j]?=some .full then some (de.set i none,lv)else some (de,(bg [i] lv).set j .top)
  |e=>some (de,(xu e de lv).set j .top)
noncomputable def zq{α:Type}(body:α->aS->List Lv->bY):List α->aS->List Lv->bY
 |[],de,lv=>.next de lv
 |x::xs,de,lv=>match body x de lv with
  |.next d1 l1=>zq body xs d1 l1
  |.cont d1 l1=>zq body xs d1 l1
  |.brk d1 l1=>.next d1 l1
  |r=>r
def ba(d:Dat):Lv:=if aw d then .full else .no
noncomputable def eL(lev:Nat->Lv)(e:Ex)(d:Dat)(lv:List Lv):Lv:=if aw d then .full else match e with
 |.var i=>(lv[i]?).getD .no
 |.tup (.pair (.var a) (.pair (.var b) .unit))=>if a≠b/\lv[a]?=some .full/\lv[b]?=some .full then .full else .no
 |.dget (.var j) _=>if lv[j]?=some .full then .full else .no
 |e=>aT lev e d
noncomputable def jM(de:aS)(j:Nat):Option (List Dat):=match de[j]? with
 |some (some (.lst ds))=>some ds
 |_=>none
noncomputable def yZ(lev:Nat->Lv)(i:Nat)(e:Ex)(d:Dat)(de:aS)(lv:List Lv):bY:=
 if aT lev e d=.full then .next (de.set i (some d)) (lv.set i .full)else .next (de.set i (some d)) ((xu e de lv).set i (aT lev e d))
noncomputable def yj(s t:Sm):Option (Nat×Nat×Ex×Ex×Ex×Ex):=match t with
 |.dput j k2 e=>match s with
  |.asg i (.dop .get (.var j2) k e0)=>if j2=j/\i≠j then some (i,j,k,e0,k2,e)else none
  |_=>none
 |_=>none
noncomputable def uT(lev:Nat->Lv)(cl:Nat->List Dat->Rd)(e:Ex)(de:aS)(lv:List Lv):bY:=match e with
  |.meth .append (.var j) (.pair e .unit)=>(am cl e de).okS λd=>match jM de j with
   |some ds=>if ds.length<aq then match gd lev e d j de lv with
    |some (de1,lv1)=>.next (de1.set j (some (.lst (ds++[d])))) lv1
    |none=>.no
    else .no
   |none=>.no
  |.meth .clear (.var j) .unit=>match jM de j with
   |some ds=>if yx lv j then .next (de.set j (some (.lst []))) lv else .no
   |none=>.no
  |.meth _ _ _=>.no
  |e=>(am cl e de).bindS λ_=>.next de lv
noncomputable def iV(lev:Nat->Lv)(cl:Nat->List Dat->Rd)(t:Nat×Nat×Ex×Ex×Ex×Ex)(de:aS)(lv:List Lv):bY:=match t with
 |(i,j,k,e0,k2,e)=>(am cl (.dop .get (.var j) k e0) de).okS λg=>(am cl e (de.set i (some g))).okS λd=>(am cl k2 (de.set i (some g))).okS λq=>match de[j]?,yI q with
  |some (some (.dct ks ds)),some q=>if lv[j]?=some .full/\aT lev e d=.full/\ks.length<aq/\i<de.length then .next ((de.set j (some (.dct (xn ks q) (zK ks ds q d)))).set i none) (lv.set i .full)else .no
  |_,_=>.no
def zD(q:List Int):Dat:=.tup (q.map Dat.int)
noncomputable def aM(lev:Nat->Lv)(cl:Nat->List Dat->Rd):Sm->aS->List Lv->bY
 |.skip,de,lv=>.next de lv
 |.seq a b,de,lv=>match yj a b with
  |some t=>iV lev cl t de lv
  |none=>match aM lev cl a de lv with
   |.next d1 l1=>aM lev cl b d1 l1
   |r=>r
 |.asg i e,de,lv=>(am cl e de).bindS λd=>yZ lev i e d de lv
 |.aug i op e,de,lv=>match de[i]? with
  |some (some (.int a))=>(am cl e de).okS λy=>match y with
   |.int b=>(ym op (.int a) (.int b)).okS λz=>.next (de.set i (some z)) (lv.set i .full)
   |_=>.no
  |_=>.no
 |.ite c a b,de,lv=>(am cl c de).bindS λx=>match x with
  |.bl true=>aM lev cl a de lv
  |.bl false=>aM lev cl b de lv
  |_=>.no
 |.forv i it body,de,lv=>(am cl it de).bindS λd=>match cB d with
  |some xs=>zq (λx de lv=>aM lev cl body (de.set i (some x)) (lv.set i (ba x))) xs de (if aw d then lv else xu it de lv)
  |none=>.no
 |.fort i j it body,de,lv=>(am cl it de).bindS λd=>match cB d with
  |some xs=>zq (λx de lv=>match x with
    |.tup [a,b]=>aM lev cl body ((de.set i (some a)).set j (some b)) ((lv.set i (ba a)).set j (ba b))
    |_=>.no) xs de (if aw d then lv else xu it de lv)
  |none=>.no
 |.ret e,de,lv=>(am cl e de).bindS λd=>.ret d (eL lev e d lv)
 |.expr e,de,lv=>uT lev cl e de lv
 |.forZ i j a b body,de,lv=>(am cl a de).okS λx=>(am cl b de).okS λy=>match yB .zip x y with
  |some ps=>zq (λ(p:Dat×Dat) de lv=>aM lev cl body ((de.set i (some p.1)).set j (some p.2)) ((lv.set i (ba p.1)).set j (ba p.2))) ps de (bg (zj a++zj b) lv)
  |none=>.no
 |.dput j k e,de,lv=>(am cl e de).okS λd=>(am cl k de).okS λq=>match de[j]?,yI q with
  |some (some (.dct ks ds)),some q=>if lv[j]?=some .full/\aT lev e d=.full/\ks.length<aq then .next (de.set j (some (.dct (xn ks q) (zK ks ds q d)))) lv else .no
  |_,_=>.no
 |.forD i x body,de,lv=>match de[x]? with
  |some (some (.dct ks _))=>if ks.length<=aq then zq (λx de lv=>aM lev cl body (de.set i (some x)) (lv.set i (ba x))) (ks.map zD) de (lv.set x .no)else .no
  |_=>.no
 |.forI i j x body,de,lv=>match de[x]? with
  |some (some (.dct ks ds))=>if ks.length<=aq/\ks.length=ds.length then zq (λ(p:Dat×Dat) de lv=>aM lev cl body ((de.set i (some p.1)).set j (some p.2)) ((lv.set i (ba p.1)).set j (ba p.2))) ((ks.map zD).zip ds) de (lv.set x .no)else .no
  |_=>.no
 |.never,_,_=>.no
def qx{lev:Nat->Lv}{cl:Nat->List Dat->Rd}{a b:Sm}{de:aS}{lv:List Lv}:aM lev cl (.seq a b) de lv=match yj a b with
  |some t=>iV lev cl t de lv
  |none=>match aM lev cl a de lv with
   |.next d1 l1=>aM lev cl b d1 l1
   |r=>r:=rfl
noncomputable def xw(fn:Fn)(ds:List Dat):aS:=ds.map some++Qq (fn.sz-ds.length) none
noncomputable def xD(fn:Fn)(ds:List Dat):List Lv:=ds.map ba++Qq (fn.sz-ds.length) .full
noncomputable def jN:Lv->Lv->Bool
 |_,.no=>true
 |.full,.full=>true
 |.top,.top=>true
 |_,_=>false
noncomputable def xQ(l:Lv):bY->Rd
 |.next _ _=>.ok .non
 |.ret d k=>if aw d || jN k l then .ok d else .no
 |.exc c d=>.exc c d
 |_=>.no
noncomputable def xh(lev:Nat->Lv)(cl:Nat->List Dat->Rd)(k:Nat)(fn:Fn)(ds:List Dat):Rd:=
 if ds.length=fn.ar then xQ (lev k) (aM lev cl fn.body (xw fn ds) (xD fn ds))else .no
noncomputable def jv(lev:Nat->Lv)(T:List Fn):Nat->Nat->List Dat->Rd
 |0,_,_=>.no
 |d+1,k,ds=>match T[k]? with
  |some fn=>xh lev (jv lev T d) k fn ds
  |none=>.no
def zO(RR:Nat->Prop)(A:Nat->List Nat):Nat->Prop:=λl=>RR l/\∀i,l∉A i
structure Inv(lo:Nat)(RR:Nat->Prop)(m:Me)(de:aS)(lv:List Lv)(env:En)(A:Nat->List Nat):Prop where
 len:de.length=env.length
 lvl:lv.length=de.length
 rr:∀l,lo<=l->RR l
 lom:lo<=m.length
 slot:∀i d l,de[i]?=some (some d)->lv[i]?=some l->∃w,env[i]?=some (some w)/\bv (zO RR A) m l d w (A i)
 nd:∀i,(A i).Nodup
 dj:∀i j a,a∈A i->a∈A j->i=j
 bd:∀i a,a∈A i->lo<=a/\a<m.length
def bb(A:Nat->List Nat)(m:Me)(A':Nat->List Nat)(m':Me):Prop:=(∀(l:Nat) o,(∀i,l∉A i)->m[l]?=some o->(∀i,l∉A' i)/\m'[l]?=some o)/\m.length<=m'.length
def bb.refl(A:Nat->List Nat)(m:Me):bb A m A m:=⟨λ_ _ h k=>⟨h,k⟩,Qg _⟩
def bb.trans{A B C:Nat->List Nat}{m m1 m2:Me}(h:bb A m B m1)(k:bb B m1 C m2):bb A m C m2:=
 ⟨λl o a b=>k.1 l o (h.1 l o a b).1 (h.1 l o a b).2,Qu h.2 k.2⟩
def bb.rep (h:bb A m A' m')(q:ag (zO RR A) m d w):ag (zO RR A') m' d w:=
 ag.frame (λl o r z=>⟨⟨r.1,(h.1 l o r.2 z).1⟩,(h.1 l o r.2 z).2⟩) d w q
def bb.repL (h:bb A m A' m')(q:aa (zO RR A) m d w):aa (zO RR A') m' d w:=
 aa.frame (λl o r z=>⟨⟨r.1,(h.1 l o r.2 z).1⟩,(h.1 l o r.2 z).2⟩) d w q
def Inv.getlv (I:Inv lo RR m de lv env A){i:Nat}(h:de[i]?=some o):∃l,lv[i]?=some l:=by
 obtain⟨hi,_⟩:=Qa.mp h;exact⟨_,Qm (by rw[I.lvl];exact hi)⟩
def Inv.envR (I:Inv lo RR m de lv env A)(vs:List Nat):bT RR m vs de env:=
 ⟨I.len,λi _ d h=>by
  obtain⟨l,hl⟩:=I.getlv h;obtain⟨w,a,b⟩:=I.slot i d l h hl;exact⟨w,a,b.rep (λ_ z=>z.1) (λa ha=>I.rr a (I.bd i a ha).1)⟩⟩
def Inv.ext{lo:Nat}{RR:Nat->Prop}{m m':Me}{de:aS}{lv:List Lv}{env:En}{A:Nat->List Nat}(I:Inv lo RR m de lv env A)(h:Le m m'):Inv lo RR m' de lv env A:=
 ⟨I.len,I.lvl,I.rr,Qu I.lom h.len,λi d l a b=>by
  obtain⟨w,p,q⟩:=I.slot i d l a b;exact⟨w,p,q.frame (λl o r z=>⟨r,h l o z⟩) (λl _ o z=>h l o z)⟩,I.nd,I.dj,λi a ha=>⟨(I.bd i a ha).1,Ql (I.bd i a ha).2 h.len⟩⟩
def kF (h:Le m m'):bb A m A m':=⟨λl o a b=>⟨a,h l o b⟩,h.len⟩
noncomputable def aH(A:Nat->List Nat)(i:Nat)(B:List Nat):Nat->List Nat:=λk=>if k=i then B else A k
def ze:aH A i B i=B:=by simp[aH]
def zd (h:k≠i):aH A i B k=A k:=by simp[aH,h]
set_option tactic.hygienic true in
def Inv.store{lo:Nat}{RR:Nat->Prop}{m m':Me}{de:aS}{lv:List Lv}{env:En}{A:Nat->List Nat}(I:Inv lo RR m de lv env A)(h:Le m m')(i:Nat){d:Dat}{l:Lv}{w:Wd}{B:List Nat}
  (q:bv (λl=>(zO RR A l\/m.length<=l)/\l∉B) m' l d w B) (nd:B.Nodup) (hB:∀b∈B,m.length<=b) :
  Inv lo RR m' (de.set i (some d)) (lv.set i l) (env.set i (some w)) (aH A i B)/\bb A m (aH A i B) m':=by
 have hlt:=q.lt;have fr:∀(x:Nat) (o:Ob),(∀k,x∉A k)->m[x]?=some o->∀k,x∉aH A i B k:=by
  intro x o hx hm k;by_cases e:k=i
  .subst e;rw[ze];intro hb;have:=hB x hb;have:=(Qa.mp hm).1;lia
  .rw[zd e];exact hx k
 refine⟨⟨by simp[I.len],by simp[I.lvl],I.rr,Qu I.lom h.len,?_,?_,?_,?_⟩,⟨λx o hx hm=>⟨fr x o hx hm,h x o hm⟩,h.len⟩⟩
 .intro k e l' h1 h2;by_cases z:k=i
  .rw[z]at h1 h2 ⊢;rw[QO]at h1 h2;rw[Lp rfl]at h1 h2;split at h1
   .split at h2
    .next q1 q2=>
     cases h1;cases h2;refine⟨w,by rw[QO,Lp rfl,Lp (by rw[<-I.len];exact q1)],?_⟩;rw[ze];refine q.frame (λx o r hm=>⟨⟨?_,λk=>?_⟩,hm⟩) (λ_ _ _ z=>z)
     .rcases r.1 with r1|r1
      .exact r1.1
      .exact I.rr x (Qu I.lom r1)
     .by_cases e:k=i
      .subst e;rw[ze];exact r.2
      .rw[zd e];rcases r.1 with r1|r1
       .exact r1.2 k
       .intro ha;have:=(I.bd k x ha).2;lia
    .cases h2
   .cases h1
  .rw[QA (Ne.symm z)]at h1 h2;obtain⟨w',a,b⟩:=I.slot k e l' h1 h2;refine⟨w',by rw[QA (Ne.symm z)];exact a,?_⟩;rw[zd z];exact b.frame (λx o r hm=>⟨⟨r.1,fr x o r.2 hm⟩,h x o hm⟩) (λx _ o hm=>h x o hm)
 .intro k;by_cases e:k=i
  .subst e;rw[ze];exact nd
  .rw[zd e];exact I.nd k
 .intro k j a ha hb;by_cases e:k=i
  .subst e;rw[ze]at ha;by_cases f:j=k
   .exact f.symm
   .rw[zd f]at hb;have:=hB a ha;have:=(I.bd j a hb).2;lia
  .rw[zd e]at ha;by_cases f:j=i
   .subst f;rw[ze]at hb;have:=hB a hb;have:=(I.bd k a ha).2;lia
   .rw[zd f]at hb;exact I.dj k j a ha hb
 .intro k a ha;by_cases e:k=i
  .subst e;rw[ze]at ha;exact⟨Qu I.lom (hB a ha),hlt a ha⟩
  .rw[zd e]at ha;exact⟨(I.bd k a ha).1,Ql (I.bd k a ha).2 h.len⟩
def Inv.weak{lo:Nat}{RR:Nat->Prop}{m:Me}{de:aS}{lv:List Lv}{env:En}{A:Nat->List Nat}(I:Inv lo RR m de lv env A)(i:Nat){l:Lv}{B:List Nat}
  (hB:∀b∈B,b∈A i) (nd:B.Nodup) (q:∀d w,de[i]?=some (some d)->env[i]?=some (some w)->bv (zO RR (aH A i B)) m l d w B) :
  Inv lo RR m de (lv.set i l) env (aH A i B)/\bb A m (aH A i B) m:=by
 have fr:∀x,(∀k,x∉A k)->∀k,x∉aH A i B k:=by
  intro x hx k;by_cases e:k=i
  .subst e;rw[ze];intro hb;exact hx _ (hB x hb)
  .rw[zd e];exact hx k
 have sub:∀k a,a∈aH A i B k->a∈A k:=by
  intro k a ha;by_cases e:k=i
  .subst e;rw[ze]at ha;exact hB a ha
  .rw[zd e]at ha;exact ha
 refine⟨⟨I.len,by simp[I.lvl],I.rr,I.lom,?_,?_,λk j a ha hb=>I.dj k j a (sub k a ha) (sub j a hb),λk a ha=>I.bd k a (sub k a ha)⟩,⟨λx o hx hm=>⟨fr x hx,hm⟩,Qg _⟩⟩
 .intro k e l' h1 h2;by_cases z:k=i
  .subst z;rw[QO,Lp rfl]at h2;split at h2
   .cases h2;obtain⟨l0,hl0⟩:=I.getlv h1;obtain⟨w,a,_⟩:=I.slot k e l0 h1 hl0;refine⟨w,a,?_⟩;rw[ze];exact q e w h1 a
   .cases h2
  .rw[QA (Ne.symm z)]at h2;obtain⟨w',a,b⟩:=I.slot k e l' h1 h2;refine⟨w',a,?_⟩;rw[zd z];exact b.frame (λx o r hm=>⟨⟨r.1,fr x r.2⟩,hm⟩) (λx _ o hm=>hm)
 .intro k;by_cases e:k=i
  .subst e;rw[ze];exact nd
  .rw[zd e];exact I.nd k
def Inv.down{lo:Nat}{RR:Nat->Prop}{m:Me}{de:aS}{lv:List Lv}{env:En}{A:Nat->List Nat}(I:Inv lo RR m de lv env A)(i:Nat):
  Inv lo RR m de (lv.set i .no) env (aH A i [])/\bb A m (aH A i []) m:=by
 refine I.weak i (by simp) QM λd w h1 h2=>⟨?_,rfl⟩;obtain⟨l,hl⟩:=I.getlv h1;obtain⟨w',a,b⟩:=I.slot i d l h1 hl;rw[h2]at a;cases a;refine b.rep (λx r=>⟨r.1,λk=>?_⟩) (λx hx=>⟨I.rr x (I.bd i x hx).1,λk=>?_⟩)
 .by_cases e:k=i
  .subst e;rw[ze];simp
  .rw[zd e];exact r.2 k
 .by_cases e:k=i
  .subst e;rw[ze];simp
  .rw[zd e];intro ha;exact e (I.dj k i x ha hx)
theorem yM:∀(vs:List Nat) (lv:List Lv) (k:Nat),(bg vs lv)[k]?=if k∈vs/\k<lv.length then some .no else lv[k]?
 |[],lv,k=>by simp[bg]
 |i::vs,lv,k=>by
  unfold bg;rw[yM vs (lv.set i .no) k];rw[Vu,QO];by_cases a:k∈vs/\k<lv.length
  .rw[Lp a,Lp ⟨Qk _ a.1,a.2⟩]
  .rw[Lq a];by_cases e:i=k
   .subst e;by_cases b:i<lv.length
    .simp[b]
    .simp[b]
   .rw[Lq e];by_cases c:k∈vs
    .have:¬k<lv.length:=λz=>a ⟨c,z⟩;rw[Lq (λz=>this z.2)]
    .rw[Lq (λz=>by rcases Qo.mp z.1 with z1|z1;exact e z1.symm;exact c z1)]
theorem Inv.downs:∀(vs:List Nat) {lv:List Lv}{A:Nat->List Nat},Inv lo RR m de lv env A ->
  ∃A',Inv lo RR m de (bg vs lv) env A'/\bb A m A' m/\(∀i∈vs,A' i=[])/\(∀i,A' i=A i\/A' i=[])/\∀i,i∉vs->A' i=A i
 |[],lv,A,I=>⟨A,I,bb.refl A m,by simp,λi=>.inl rfl,λ_ _=>rfl⟩
 |j::vs,lv,A,I=>by
  obtain⟨I1,K1⟩:=I.down j;obtain⟨A',I2,K2,h1,h2,h3⟩:=Inv.downs vs I1;refine⟨A',I2,K1.trans K2,λi hi=>?_,λi=>?_,λi hi=>?_⟩
  .by_cases q:i∈vs
   .exact h1 i q
   .rw[h3 i q];rcases Qo.mp hi with rfl|hi
    .exact ze
    .exact Lr hi q
  .rcases h2 i with z|z
   .rw[z];by_cases e:i=j
    .subst e;right;exact ze
    .left;exact zd e
   .exact .inr z
  .have:i≠j:=λe=>hi (by rw[e];simp);rw[h3 i (λz=>hi (Qk _ z)),zd this]
theorem Inv.top (I:Inv lo RR m de lv env A)(j:Nat)(hd:de[j]?=some (some (.lst ds)))(hj:yx lv j=true):
  ∃l xs A',Inv lo RR m de (lv.set j .top) env A'/\bb A m A' m/\A' j=[l]/\(∀i,i≠j->A' i=A i)/\env[j]?=some (some (.ref l))/\m[l]?=some (.lst xs)/\aa (zO RR A') m ds xs/\l∈A j:=by
 unfold yx at hj;obtain⟨lj,hl⟩:=I.getlv hd;obtain⟨w,a,b⟩:=I.slot j _ lj hd hl;rw[hl]at hj;have key:∃l xs,w=.ref l/\l∈A j/\m[l]?=some (.lst xs)/\aa (zO RR (aH A j [l])) m ds xs:=by
  cases lj with
  |no=>simp at hj
  |top=>
   obtain⟨es,l,xs,e,rfl,hA,hm,r⟩:=b;cases e;refine⟨l,xs,rfl,by rw[hA];simp,hm,aa.frame (λx o r z=>⟨⟨r.1,λk=>?_⟩,z⟩) _ _ r⟩;by_cases e:k=j
   .subst e;rw[ze,<-hA];exact r.2 k
   .rw[zd e];exact r.2 k
  |full=>
   obtain⟨l,xs,B,rfl,hA,hm,r⟩:=bx.mp b;refine⟨l,xs,rfl,by rw[hA];simp,hm,au.rep ds xs B (λx hx=>⟨I.rr x (I.bd j x (by rw[hA];exact Qk _ hx)).1,λk=>?_⟩) r⟩;have nd:=I.nd j;rw[hA]at nd;by_cases e:k=j
   .subst e;rw[ze];intro z;rw[Qt.mp z]at hx;exact(QV.mp nd).1 hx
   .rw[zd e];intro z;exact e (I.dj k j x z (by rw[hA];exact Qk _ hx))
 obtain⟨l,xs,rfl,hA,hm,r⟩:=key;obtain⟨I',K⟩:=I.weak j (l:=.top) (B:=[l]) (by intro b hb;rw[Qt.mp hb];exact hA) (by simp) λd w h1 h2=>by
  rw[hd]at h1;cases h1;rw[a]at h2;cases h2;exact⟨ds,l,xs,rfl,rfl,rfl,hm,r⟩
 exact⟨l,xs,_,I',K,ze,λi hi=>zd hi,a,hm,r,hA⟩
def yq {m:Me}(h:l≠x):(m.set l o)[x]?=m[x]?:=QA h
def xi {m:Me}(h:m[l]?=some p):(m.set l o)[l]?=some o:=by
 rw[QO,Lp rfl,Lp (Qa.mp h).1]
def Inv.putO{lo:Nat}{RR:Nat->Prop}{m m1:Me}{de:aS}{lv:List Lv}{env:En}{A:Nat->List Nat}(I:Inv lo RR m de lv env A)(le:Le m m1){j l:Nat}{ob:Ob}(hl:l∈A j)(A1:Nat->List Nat)
  (h3:∀k a,a∈A1 k->(∃k',a∈A k')\/m.length<=a) (nd1:∀k,(A1 k).Nodup) (dj1:∀i k a,a∈A1 i->a∈A1 k->i=k) (bd1:∀k a,a∈A1 k->lo<=a/\a<m1.length)
  {de1:aS}{lv1:List Lv}(len1:de1.length=de.length) (lvl1:lv1.length=lv.length)
  (live:∀k d lk,k≠j->de1[k]?=some (some d)->lv1[k]?=some lk->de[k]?=some (some d)/\lv[k]?=some lk/\A1 k=A k)
  (sj:∀d lj,de1[j]?=some (some d)->lv1[j]?=some lj->∃w,env[j]?=some (some w)/\bv (zO RR A1) (m1.set l ob) lj d w (A1 j)) :
  Inv lo RR (m1.set l ob) de1 lv1 env A1/\bb A m A1 (m1.set l ob):=by
 have fr:∀(x:Nat) (o:Ob),(∀k,x∉A k)->m[x]?=some o->(∀k,x∉A1 k)/\(m1.set l ob)[x]?=some o:=by
  intro x o hx hm;refine⟨λk ha=>?_,?_⟩
  .rcases h3 k x ha with⟨k',z⟩|z
   .exact hx k' z
   .have:=(Qa.mp hm).1;lia
  .rw[yq (l:=l) (x:=x) (λe=>hx j (by rw[<-e];exact hl))];exact le x o hm
 refine⟨⟨len1.trans I.len,by rw[lvl1,I.lvl,len1],I.rr,by rw[Vu];exact Qu I.lom le.len,?_,nd1,dj1,λk a ha=>by rw[Vu];exact bd1 k a ha⟩,⟨λx o hx hm=>fr x o hx hm,by rw[Vu];exact le.len⟩⟩;intro k d lk h1 h2;by_cases e:k=j
 .subst e;exact sj d lk h1 h2
 .obtain ⟨a,b,c⟩:=live k d lk e h1 h2;obtain⟨w,p,q⟩:=I.slot k d lk a b;refine⟨w,p,?_⟩;rw[c];refine q.frame (λx o r hm=>⟨⟨r.1,(fr x o r.2 hm).1⟩,(fr x o r.2 hm).2⟩) (λx hx o hm=>?_);rw[yq (l:=l) (x:=x) (λz=>e (I.dj k j x hx (by rw[<-z];exact hl)))];exact le x o hm
def Inv.put{lo:Nat}{RR:Nat->Prop}{m m1:Me}{de:aS}{lv:List Lv}{env:En}{A:Nat->List Nat}(I:Inv lo RR m de lv env A)(le:Le m m1){j l:Nat}{xs ys:List Wd}(hl:l∈A j)(A1:Nat->List Nat)
  (h3:∀k a,a∈A1 k->(∃k',a∈A k')\/m.length<=a) (nd1:∀k,(A1 k).Nodup) (dj1:∀i k a,a∈A1 i->a∈A1 k->i=k) (bd1:∀k a,a∈A1 k->lo<=a/\a<m1.length)
  {de1:aS}{lv1:List Lv}(len1:de1.length=de.length) (lvl1:lv1.length=lv.length)
  (live:∀k d lk,k≠j->de1[k]?=some (some d)->lv1[k]?=some lk->de[k]?=some (some d)/\lv[k]?=some lk/\A1 k=A k)
  (sj:∀d lj,de1[j]?=some (some d)->lv1[j]?=some lj->∃w,env[j]?=some (some w)/\bv (zO RR A1) (m1.set l (.lst ys)) lj d w (A1 j)) :
  Inv lo RR (m1.set l (.lst ys)) de1 lv1 env A1/\bb A m A1 (m1.set l (.lst ys)):=I.putO le hl A1 h3 nd1 dj1 bd1 len1 lvl1 live sj
def nr(m m1:Me)(ds:List Dat)(xs:List Wd)(ds':List Dat)(ys:List Wd):Prop:=
 ∀B,B.Nodup->au m ds xs B->∃B',au m1 ds' ys B'/\B'.Nodup/\∀b∈B',b∈B\/m.length<=b
def nj(RR:Nat->Prop)(A:Nat->List Nat)(m m1:Me)(ds:List Dat)(xs:List Wd)(ds':List Dat)(ys:List Wd):Prop:=
 aa (zO RR A) m ds xs->aa (λx=>zO RR A x\/m.length<=x) m1 ds' ys
def ir(RR:Nat->Prop)(A:Nat->List Nat)(m m1:Me)(ds:List Dat)(xs:List Wd)(ds':List Dat)(ys:List Wd):Prop:=
 (∀B,B.Nodup->au m ds xs B->∃B',au m1 ds' ys B'/\B'.Nodup/\∀b∈B',b∈B\/m.length<=b)/\(aa (zO RR A) m ds xs->aa (λx=>zO RR A x\/m.length<=x) m1 ds' ys)
def Inv.mut (I:Inv lo RR m de lv env A)(hd:de[j]?=some (some (.lst ds)))(hj:yx lv j=true):
  ∃l xs,env[j]?=some (some (.ref l))/\m[l]?=some (.lst xs)/\aa RR m ds xs/\∀(m1:Me) (ds':List Dat) (ys:List Wd),Le m m1->(lv[j]?=some .full->nr m m1 ds xs ds' ys)->(lv[j]?=some .top->nj RR A m m1 ds xs ds' ys) ->
   ∃A1,Inv lo RR (m1.set l (.lst ys)) (de.set j (some (.lst ds'))) lv env A1/\bb A m A1 (m1.set l (.lst ys)):=by
 unfold yx at hj;obtain⟨lj,hl⟩:=I.getlv hd;obtain⟨w,a,b⟩:=I.slot j _ lj hd hl;rw[hl]at hj;have hjl:j<de.length:=(Qa.mp hd).1;have live:∀(A1:Nat->List Nat),(∀k,k≠j->A1 k=A k)->∀(ds':List Dat) k d lk,k≠j->(de.set j (some (.lst ds')))[k]?=some (some d)->lv[k]?=some lk->de[k]?=some (some d)/\lv[k]?=some lk/\A1 k=A k:=by
  intro A1 h ds' k d lk e h1 h2;rw[QA (Ne.symm e)]at h1;exact⟨h1,h2,h k e⟩
 cases lj with
 |no=>simp at hj
 |top=>
  obtain⟨es,l,xs,e,rfl,hA,hm,r⟩:=b;cases e;refine⟨l,xs,a,hm,aa.frame (λ_ _ r z=>⟨r.1,z⟩) _ _ r,λm1 ds' ys le _ c=>⟨A,?_⟩⟩;have hlm:=(Qa.mp hm).1;refine I.put le (j:=j) (l:=l) (xs:=xs) (by rw[hA];simp) A (λk a ha=>.inl ⟨k,ha⟩) I.nd I.dj (λk a ha=>⟨(I.bd k a ha).1,Ql (I.bd k a ha).2 le.len⟩) (by simp) rfl (live A (λ_ _=>rfl) ds') ?_;intro d lj h1 h2;rw[QO,Lp rfl,Lp hjl]at h1;cases h1;rw[hl]at h2;cases h2;refine⟨_,a,ds',l,ys,rfl,rfl,hA,xi (le l _ hm),aa.frame (λx o r z=>?_) _ _ (c hl r)⟩;rcases r with r|r
  .exact ⟨r,by rw[yq (l:=l) (x:=x) (λe=>r.2 j (by rw[hA,e];simp))];exact z⟩
  .exact ⟨⟨I.rr x (Qu I.lom r),λk hk=>by have:=(I.bd k x hk).2;lia⟩,by rw[yq (l:=l) (x:=x) (by lia)];exact z⟩
 |full=>
  obtain⟨l,xs,B,rfl,hA,hm,r⟩:=bx.mp b;have hlm:=(Qa.mp hm).1;have nd:=I.nd j;rw[hA]at nd;refine⟨l,xs,a,hm,au.rep ds xs B (λx hx=>I.rr x (I.bd j x (by rw[hA];exact Qk _ hx)).1) r,λm1 ds' ys le c _=>?_⟩;obtain⟨B',o,nb,hB⟩:=c hl B (QV.mp nd).2 r;have hlB:l∉B':=λz=>by
   rcases hB l z with z|z
   .exact (QV.mp nd).1 z
   .lia
  have sub:∀x∈l::B',x∈A j\/m.length<=x:=by
   intro x hx;rcases Qo.mp hx with rfl|hx
   .left;rw[hA];simp
   .rcases hB x hx with z|z
    .left;rw[hA];exact Qk _ z
    .exact .inr z
  refine⟨aH A j (l::B'),?_⟩;refine I.put le (j:=j) (l:=l) (xs:=xs) (by rw[hA];simp) _ ?_ ?_ ?_ ?_ (by simp) rfl (live _ (λk hk=>zd hk) ds') ?_
  .intro k x hx;by_cases e:k=j
   .subst e;rw[ze]at hx;rcases sub x hx with z|z
    .exact .inl ⟨k,z⟩
    .exact .inr z
   .rw[zd e]at hx;exact .inl ⟨k,hx⟩
  .intro k;by_cases e:k=j
   .subst e;rw[ze];exact QV.mpr ⟨hlB,nb⟩
   .rw[zd e];exact I.nd k
  .intro i k x h1 h2;by_cases e:i=j
   .by_cases f:k=j
    .rw[e,f]
    .rw[e,ze]at h1;rw[zd f]at h2;rcases sub x h1 with z|z
     .rw[e];exact I.dj j k x z h2
     .have:=(I.bd k x h2).2;lia
   .rw[zd e]at h1;by_cases f:k=j
    .rw[f,ze]at h2;rcases sub x h2 with z|z
     .rw[f];exact I.dj i j x h1 z
     .have:=(I.bd i x h1).2;lia
    .rw[zd f]at h2;exact I.dj i k x h1 h2
  .intro k x hx;by_cases e:k=j
   .rw[e,ze]at hx;rcases Qo.mp hx with rfl|hx
    .exact ⟨(I.bd j _ (by rw[hA];simp)).1,Ql hlm le.len⟩
    .refine ⟨?_,au.lt ds' ys B' o x hx⟩;rcases hB x hx with z|z
     .exact (I.bd j x (by rw[hA];exact Qk _ z)).1
     .exact Qu I.lom z
   .rw[zd e]at hx;exact⟨(I.bd k x hx).1,Ql (I.bd k x hx).2 le.len⟩
  .intro d lj h1 h2;rw[QO,Lp rfl,Lp hjl]at h1;cases h1;rw[hl]at h2;cases h2;refine⟨_,a,?_⟩;rw[ze];exact bx.mpr ⟨l,ys,B',rfl,rfl,xi (le l _ hm),au.frame ds' ys B' (λx hx o z=>by rw[yq (l:=l) (x:=x) (λe=>hlB (by rw[e];exact hx))];exact z) o⟩
theorem au.item:∀{ds:List Dat}{xs:List Wd}{A:List Nat}{p:Nat}{d:Dat},au m ds xs A->ds[p]?=some d->∃x B,(xs[p]?=some x/\bh m d x B)/\∀b∈B,b∈A
 |[],xs,A,p,d,h,z=>by simp at z
 |e::ds,xs,A,0,d,h,z=>by
  obtain⟨x,r,B,C,rfl,rfl,a,b⟩:=h.cons_inv;simp at z;subst z;exact⟨x,B,⟨rfl,a⟩,λb hb=>Q5 _ hb⟩
 |e::ds,xs,A,p+1,d,h,z=>by
  obtain⟨x,r,B,C,rfl,rfl,a,b⟩:=h.cons_inv;obtain⟨y,D,h1,h2⟩:=au.item b (by simpa using z);exact⟨y,D,by simpa using h1,λb hb=>Qy _ (h2 b hb)⟩
theorem np:∀{ds:List Dat}{xs:List Wd}{A:List Nat}{p:Nat}{d:Dat},au m ds xs A->ds[p]?=some d ->
  ∃x B1 Bp B2,xs[p]?=some x/\A=B1++(Bp++B2)/\bh m d x Bp/\(∀(i:Nat) e y,i≠p->ds[i]?=some e->xs[i]?=some y->∃Bi,bh m e y Bi/\∀b∈Bi,b∈B1\/b∈B2)/\∀(m':Me) (d':Dat) (x':Wd) (B':List Nat),(∀l,l∈B1\/l∈B2->∀o,m[l]?=some o->m'[l]?=some o)->bh m' d' x' B'->au m' (ds.set p d') (xs.set p x') (B1++(B'++B2))
 |[],xs,A,p,d,h,z=>by simp at z
 |e::ds,xs,A,0,d,h,z=>by
  obtain⟨x,r,B,C,rfl,rfl,a,b⟩:=h.cons_inv;simp at z;subst z;refine⟨x,[],B,C,rfl,rfl,a,λi e y hi h1 h2=>?_,λm' d' x' B' fr o=>?_⟩
  .cases i with
   |zero=>exact Lr rfl hi
   |succ i=>
    simp at h1 h2;obtain⟨y',Bi,o,hB⟩:=au.item b h1;rw[h2]at o;obtain⟨o1,o2⟩:=o;cases o1;exact⟨Bi,o2,λz hz=>.inr (hB z hz)⟩
  show au m' (d'::ds) (x'::r) (B'++C);exact au.cons o (au.frame ds r C (λl hl=>fr l (.inr hl)) b)
 |e::ds,xs,A,p+1,d,h,z=>by
  obtain⟨x,r,B,C,rfl,rfl,a,b⟩:=h.cons_inv;obtain⟨y,B1,Bp,B2,h1,rfl,h3,h5,h4⟩:=np b (by simpa using z);refine⟨y,B++B1,Bp,B2,by simpa using h1,by simp[Qj],h3,λi e' y' hi g1 g2=>?_,λm' d' x' B' fr o=>?_⟩
  .cases i with
   |zero=>simp at g1 g2;subst g1;subst g2;exact⟨B,a,λz hz=>.inl (Q5 _ hz)⟩
   |succ i=>
    simp at g1 g2;obtain⟨Bi,o,hB⟩:=h5 i e' y' (by lia) g1 g2;exact⟨Bi,o,λz hz=>by rcases hB z hz with q|q;exact .inl (Qy _ q);exact .inr q⟩
  rw[Qj];exact au.cons (bh.frame e x B (λl hl=>fr l (.inl (Q5 _ hl))) a) (h4 m' d' x' B' (λl hl=>fr l (by rcases hl with hl|hl;exact .inl (Qy _ hl);exact .inr hl)) o)
def pY (le:Le m m1)(o:bh m1 d w B0)(nd:B0.Nodup)(hB:∀b∈B0,m.length<=b):ir RR A m m1 ds xs (ds++[d]) (xs++[w]):=by
 refine⟨λB nb q=>⟨B++(B0++[]),(au.frame ds xs B (λl _ o z=>le l o z) q).app (.cons o .nil),?_,?_⟩,λq=>?_⟩
 .rw[QW];refine QQ.mpr ⟨nb,nd,λx hx y hy e=>?_⟩;have:=au.lt ds xs B q x hx;have:=hB y hy;lia
 .intro b hb;rw[QW]at hb;rcases Qx.mp hb with z|z
  .exact .inl z
  .exact .inr (hB b z)
 .exact (aa.frame (λl o r z=>⟨.inl r,le l o z⟩) _ _ q).app (.cons (bh.rep d w B0 (λb hb=>.inr (hB b hb)) o) .nil)
def CK (p:Nat)(le:Le m m1)(o:bh m1 d w B0)(nd:B0.Nodup)(hB:∀b∈B0,m.length<=b):ir RR A m m1 ds xs (ds.set p d) (xs.set p w):=by
 refine⟨λB nb q=>?_,λq=>?_⟩
 .cases hp:ds[p]? with
  |none=>
   have h1:ds.length<=p:=Wf.mp hp;rw[VP h1,VP (by rw[<-q.len];exact h1)];exact⟨B,au.frame ds xs B (λl _ o z=>le l o z) q,nb,λb hb=>.inl hb⟩
  |some e=>
   obtain⟨y,B1,Bp,B2,h1,rfl,h3,_,h4⟩:=np q hp;refine⟨B1++(B0++B2),h4 m1 d w B0 (λl _ o z=>le l o z) o,?_,?_⟩
   .have hlt:=au.lt ds xs _ q;rw[QQ]at nb ⊢;obtain⟨n1,n2,n3⟩:=nb;rw[QQ]at n2 ⊢;obtain⟨n4,n5,n6⟩:=n2;refine⟨n1,⟨nd,n5,λx hx y hy e=>?_⟩,λx hx y hy e=>?_⟩
    .have:=hB x hx;have:=hlt y (by simp[hy]);lia
    .rcases Qx.mp hy with hy|hy
     .have:=hB y hy;have:=hlt x (by simp[hx]);lia
     .exact n3 x hx y (Qy _ hy) e
   .intro b hb;simp only[Qx]at hb ⊢;rcases hb with z|z|z
    .exact .inl (.inl z)
    .exact .inr (hB b z)
    .exact .inl (.inr (.inr z))
 .exact (aa.frame (λl o r z=>⟨.inl r,le l o z⟩) _ _ q).set p (bh.rep d w B0 (λb hb=>.inr (hB b hb)) o)
theorem au.rev:∀{ds:List Dat}{xs:List Wd}{A:List Nat},A.Nodup->au m ds xs A->∃B,au m ds.reverse xs.reverse B/\B.Nodup/\∀b∈B,b∈A
 |[],xs,A,nd,h=>by rw[h.nil_inv.1];exact⟨[],.nil,QM,by simp⟩
 |d::ds,xs,A,nd,h=>by
  obtain⟨x,r,B,C,rfl,rfl,a,b⟩:=h.cons_inv;obtain⟨n1,n2,n3⟩:=QQ.mp nd;obtain⟨D,o,nD,hD⟩:=au.rev n2 b;rw[Ws,Ws];refine⟨D++(B++[]),o.app (.cons a .nil),?_,?_⟩
  .rw[QW];exact QQ.mpr ⟨nD,n1,λx hx y hy e=>n3 y hy x (hD x hx) e.symm⟩
  .intro b hb;simp only[QW,Qx]at hb ⊢;rcases hb with z|z
   .exact .inr (hD b z)
   .exact .inl z
def dt:ir RR A m m ds xs [] []:=
 ⟨λB nb q=>⟨[],.nil,QM,by simp⟩,λq=>.nil⟩
def Ec (h:aa R m ds xs)(hm:m[l]?=some (.lst xs))(b:ag R m e y):ae R m (qN (.ref l) y m) (xg (.lst ds) e):=by
 cases e with
 |int i=>
  rw[ab.mp b];simp only[xg,qN,yY,yG,zn,hm];cases z:(ix ds.length i).bind λj=>ds[j]? with
  |none=>exact ae.no
  |some v=>
   obtain⟨j,h1,h2⟩:=QB.mp z;obtain⟨x,h3,p⟩:=h.get h2;rw[h.len]at h1;simp only[h1,QS,h3];exact cS p
 |_=>exact ae.no
def wI (I:Inv lo RR m de lv env A)(h:∀i∈vs,∀l,lv[i]?=some l->l=.no):bT (zO RR A) m vs de env:=
 ⟨I.len,λi hi d hd=>by
  obtain⟨l,hl⟩:=I.getlv hd;obtain⟨w,a,b⟩:=I.slot i d l hd hl;rw[h i hi l hl]at b;exact⟨w,a,b.1⟩⟩
def pX (de:aS)(j:Nat)(lv:List Lv)(h:k≠j):(ck de j lv)[k]?=lv[k]?:=by
 have q:∃l,ck de j lv=lv.set j l:=by
  unfold ck;generalize de[j]?=p;generalize lv[j]?=q;cases p with
  |none=>exact⟨_,rfl⟩
  |some o=>
   cases o with
   |none=>exact⟨_,rfl⟩
   |some d=>
    cases d with
    |lst ds=>
     cases q with
     |none=>exact⟨_,rfl⟩
     |some l=>cases l<;>exact⟨_,rfl⟩
    |_=>exact⟨_,rfl⟩
 obtain⟨l,e⟩:=q;rw[e];exact QA (Ne.symm h)
set_option tactic.hygienic true in
def CJ (e:Ex)(de:aS)(lv:List Lv)(h:k∉zj e):(xu e de lv)[k]?=lv[k]?:=by
 have gen:∀vs,k∉vs->(bg vs lv)[k]?=lv[k]?:=λvs h=>by rw[yM,Lq (λz=>h z.1)]
 cases e with
 |idx o b=>
  cases o with
  |var j=>
   replace h:k∉j::zj b:=h
   rw[Qo,not_or]at h;show(ck de j (bg (zj b) lv))[k]?=_;rw[pX _ _ _ h.1,gen _ h.2]
  |_=>exact gen _ h
 |dget o b=>
  by_cases q:∃j i w,o=.var j/\b=.idx (.var i) (.neg (.lit w))
  .obtain ⟨j,i,w,rfl,rfl⟩:=q;exact gen [j] (by
    replace h:k∉j::zj (.idx (.var i) (.neg (.lit w))):=h
    rw[Qo,not_or]at h;simpa using h.1)
  .have:xu (.dget o b) de lv=bg (zj (.dget o b)) lv:=by
    unfold xu;split
    .next e=>cases e
    .next e=>cases e;exact Lr ⟨_,_,_,rfl,rfl⟩ q
    .rfl
   rw[this];exact gen _ h
 |_=>exact gen _ h
set_option tactic.hygienic true in
def Inv.topD (I:Inv lo RR m de lv env A)(j:Nat):
  ∃A',Inv lo RR m de (ck de j lv) env A'/\bb A m A' m/\(∀i,i≠j->A' i=A i)/\((∃ds l xs,de[j]?=some (some (.lst ds))/\A' j=[l]/\env[j]?=some (some (.ref l))/\m[l]?=some (.lst xs)/\aa (zO RR A') m ds xs)\/((Vl.ck de j lv)[j]?=some .no\/lv.length<=j)):=by
 by_cases h:(∃ds,de[j]?=some (some (.lst ds)))/\yx lv j=true
 .obtain ⟨⟨ds,hd⟩,ho⟩:=h;obtain⟨l,xs,A',I',K,h1,h2,h3,h4,h5,_⟩:=I.top j hd ho;have:Vl.ck de j lv=lv.set j .top:=by
   unfold Vl.ck;rw[hd];unfold yx at ho;cases z:lv[j]? with
   |none=>rw[z]at ho;simp at ho
   |some l=>rw[z]at ho;cases l<;>simp at ho ⊢
  rw[this];exact⟨A',I',K,h2,.inl ⟨ds,l,xs,hd,h1,h3,h4,h5⟩⟩
 .obtain ⟨I',K⟩:=I.down j;have:Vl.ck de j lv=lv.set j .no:=by
   unfold Vl.ck;split
   .next ds hd hl=>exact Lr ⟨⟨ds,hd⟩,by unfold yx;rw[hl]⟩ h
   .next ds hd hl=>exact Lr ⟨⟨ds,hd⟩,by unfold yx;rw[hl]⟩ h
   .rfl
  rw[this];refine⟨_,I',K,λi hi=>zd hi,.inr ?_⟩;by_cases z:j<lv.length
  .left;rw[QO,Lp rfl,Lp z]
  .right;lia
set_option tactic.hygienic true in
def Inv.relEv (H:bF lev cl cd)(I:Inv lo RR m de lv env A)(e:Ex):
  ∃A',Inv lo RR m de (xu e de lv) env A'/\bb A m A' m/\(∀k,k∉zj e->A' k=A k)/\aJ (zO RR A') m (aT lev e) (af cl e env m) (am cd e de):=by
 have gen:xu e de lv=Vl.bg (zj e) lv->∃A',Inv lo RR m de (xu e de lv) env A'/\bb A m A' m/\(∀k,k∉zj e->A' k=A k)/\aJ (zO RR A') m (aT lev e) (af cl e env m) (am cd e de):=by
  intro h;rw[h];obtain⟨A',I',K,h1,_,h3⟩:=Inv.downs (zj e) I;refine⟨A',I',K,h3,xt H e _ m de env (wI I' λi hi l hl=>?_)⟩;rw[yM]at hl;split at hl
  .cases hl;rfl
  .next z=>rw[QE (by have:¬i<lv.length:=λq=>z ⟨hi,q⟩;lia)]at hl;cases hl
 cases e with
 |dget a b=>
  by_cases q:∃j i w,a=.var j/\b=.idx (.var i) (.neg (.lit w))
  .obtain ⟨j,i0,w0,rfl,rfl⟩:=q;show ∃A',Inv lo RR m de (Vl.bg [j] lv) env A'/\_;obtain⟨A1,I1,K1,h1,_,h3⟩:=Inv.downs [j] I;refine⟨A1,I1,K1,λk hk=>h3 k (λz=>hk (by
    have z:k=j:=by simpa using z
    subst z;show k∈k::zj (.idx (.var i0) (.neg (.lit w0)))
    simp)),ae.own ?_ (λd=>rfl)⟩
   show ae _ m ((af cl (.var j) env m).bind λx m1=>(af cl (.idx (.var i0) (.neg (.lit w0))) env m1).bind λy m2=>kQ x y m2) ((am cd (.var j) de).bind λx=>(am cd (.idx (.var i0) (.neg (.lit w0))) de).bind λy=>wT x y);refine(za H.r (.var j) _ m de env (wI I1 λi hi l hl=>?_)).bind λd w m1 l1 r1=>?_
   .have hi:i=j:=by simpa using hi
    subst hi;rw[yM]at hl;split at hl
    .cases hl;rfl
    .next z=>rw[QE (by have:¬i<lv.length:=λq=>z ⟨by simp,q⟩;lia)]at hl;cases hl
   .have hb:=za H.r (.idx (.var i0) (.neg (.lit w0))) RR m1 de env ((I1.ext l1).envR _);cases z2:am cd (.idx (.var i0) (.neg (.lit w0))) de with
    |no=>trivial
    |exc c d2=>
     exfalso;have hx:∀(x y:Dat) (c:Nat) (d:Dat),xg x y≠.exc c d:=λx y c d z=>by
      unfold xg at z
      repeat' split at z
      all_goals cases z
     have:(am cd (.var i0) de).bind (λx=>(am cd (.neg (.lit w0)) de).bind λy=>xg x y)=.exc c d2:=z2;cases e1:am cd (.var i0) de with
     |no=>rw[e1]at this;cases this
     |exc _ _=>
      have e1:(match de[i0]? with|some (some d)=>Rd.ok d|_=>.no)=_:=e1;split at e1<;>cases e1
     |ok x=>
      rw[e1]at this;cases e2:am cd (.neg (.lit w0)) de with
      |no=>
       have this:(am cd (.neg (.lit w0)) de).bind (λy=>xg x y)=.exc c d2:=this;rw[e2]at this;cases this
      |exc _ _=>
       have e2:(am cd (.lit w0) de).bind (λx=>match x with |.int i=>Rd.ok (.int (-i))|_=>.no)=_:=e2;cases e3:am cd (.lit w0) de with
       |no=>rw[e3]at e2;cases e2
       |exc _ _=>
        have e3:(match nu w0 with|some d=>Rd.ok d|none=>.no)=_:=e3;split at e3<;>cases e3
       |ok z=>
        rw[e3]at e2;have e2:(match z with |.int i=>Rd.ok (.int (-i))|_=>.no)=_:=e2;split at e2<;>cases e2
      |ok y=>
       have this:(am cd (.neg (.lit w0)) de).bind (λy=>xg x y)=.exc c d2:=this;rw[e2]at this;exact hx x y c d2 this
    |ok d2=>
     rw[z2]at hb;obtain⟨w2,m2,e2,l2,r2⟩:=hb;rw[e2];cases hk:yI d2 with
     |none=>
      have:wT d d2=.no:=by
       cases d with
       |dct ks ds=>show(match (yI d2).bind (cb ks ds)with|some v=>Rd.ok v|none=>.no)=_;rw[hk];rfl
       |_=>rfl
      show ae _ _ _ (wT d d2);rw[this];trivial
     |some k=>
      have fl:aw d2=true:=by
       cases d2 with
       |tup ds=>
        have hk:zy ds=some k:=hk;show aV ds=true;clear r2 z2
        induction ds generalizing k with
        |nil=>rfl
        |cons x r ih=>
         cases x with
         |int i=>
          obtain⟨k',e,rfl⟩:=QF.mp (show(zy r).map (i::·)=some k from hk);show(aw (.int i)&&aV r)=true;rw[ih _ e e];rfl
         |_=>cases hk
       |_=>cases hk
      have r3:ag (λ_=>False) m2 d2 w2:=bh.rep d2 w2 [] (by simp) (ag.flat (m':=m2) d2 w2 fl r2);exact ae.lift l2 (tj (ag.frame (λl o r z=>⟨.inl r,l2 l o z⟩) _ _ r1) (ag.frame (λl o r z=>⟨.inl (by cases r),z⟩) _ _ r3))
  .refine gen ?_;unfold xu;split
   .next e=>cases e
   .next e=>cases e;exact Lr ⟨_,_,_,rfl,rfl⟩ q
   .rfl
 |idx a b=>
  cases a with
  |var j=>
   show ∃A',Inv lo RR m de (Vl.ck de j (Vl.bg (zj b) lv)) env A'/\_;obtain⟨A1,I1,K1,h1,h2,h3⟩:=Inv.downs (zj b) I;obtain⟨A2,I2,K2,g1,g2⟩:=I1.topD j;have hne:∀k,k∉zj (.idx (.var j) b)->A2 k=A k:=by
    intro k hk
    replace hk:k∉j::zj b:=hk
    rw[Qo,not_or]at hk;rw[g1 k hk.1,h3 k hk.2]
   refine⟨A2,I2,K1.trans K2,hne,?_⟩;have lvno:∀i,i∈zj b->i≠j->∀l,(Vl.ck de j (Vl.bg (zj b) lv))[i]?=some l->l=.no:=by
    intro i hi hij l hl;rw[pX _ _ _ hij,yM]at hl;split at hl
    .cases hl;rfl
    .next z=>rw[QE (by have:¬i<lv.length:=λq=>z ⟨hi,q⟩;lia)]at hl;cases hl
   rcases g2 with⟨ds,l,xs,hd,hA,he,hm,hr⟩|g2
   .have hjb:j∉zj b:=λz=>by
     have h0:=h1 j z;have hx:l∈A1 j:=by
      have i1:=I1;by_cases q:l∈A1 j
      .exact q
      .exfalso;have:=(K2.1 l _ (λk hk=>?_) hm).1 j
       .rw[hA]at this;exact this (by simp)
       .by_cases ek:k=j
        .rw[ek]at hk;exact q hk
        .have e1:=g1 k ek;rw[<-e1]at hk;exact ek (I2.dj k j l hk (by rw[hA];simp))
     rw[h0]at hx;cases hx
    refine ae.own ?_ (λd=>rfl);show ae _ m ((af cl (.var j) env m).bind λx m1=>(af cl b env m1).bind λy m2=>qN x y m2) ((am cd (.var j) de).bind λx=>(am cd b de).bind λy=>xg x y);have e1:af cl (.var j) env m=.ok (.ref l) m:=wn he m;have e2:am cd (.var j) de=.ok (.lst ds):=xO hd;rw[e1,e2];simp only[Rz.bind,Rd.bind];refine(za H.r b _ m de env (wI I2 λi hi=>lvno i hi (λe=>hjb (by rw[<-e];exact hi)))).bind λd2 w2 m2 l2 k2=>?_;exact Ec (hr.up _ l2) (l2 l _ hm) k2
   .refine xt H _ _ m de env (wI I2 λi hi l hl=>?_)
    replace hi:i∈j::zj b:=hi
    rw[Qo]at hi;by_cases e:i=j
    .rw[e]at hl;rcases g2 with g2|g2
     .rw[g2]at hl;cases hl;rfl
     .have:(Vl.ck de j (Vl.bg (zj b) lv)).length=(Vl.bg (zj b) lv).length:=by rw[I2.lvl,I1.lvl]
      rw[QE (by lia)]at hl;cases hl
    .rcases hi with z|z
     .exact Lr z e
     .exact lvno i z e l hl
  |_=>exact gen rfl
 |_=>exact gen rfl
def aA(lo:Nat)(RR:Nat->Prop)(A:Nat->List Nat)(m:Me)(r:Rs)(rd:bY):Prop:=match rd with
 |.next de lv=>∃env m' A',r=.next env m'/\Inv lo RR m' de lv env A'/\bb A m A' m'
 |.brk de lv=>∃env m' A',r=.brk env m'/\Inv lo RR m' de lv env A'/\bb A m A' m'
 |.cont de lv=>∃env m' A',r=.cont env m'/\Inv lo RR m' de lv env A'/\bb A m A' m'
 |.ret d l=>∃w m' B,r=.ret w m'/\((∀(x:Nat) o,(∀i,x∉A i)->m[x]?=some o->m'[x]?=some o)/\m.length<=m'.length)/\bv (λx=>RR x/\x∉B) m' l d w B/\B.Nodup/\∀b∈B,lo<=b
 |.exc c d=>∃w e m',r=.exc c w e m'/\((∀(x:Nat) o,(∀i,x∉A i)->m[x]?=some o->m'[x]?=some o)/\m.length<=m'.length)/\ag RR m' d w
 |.no=>True
set_option tactic.hygienic true in
def aA.keep{lo:Nat}{RR:Nat->Prop}{A A1:Nat->List Nat}{m m1:Me}{r:Rs}{rd:bY}(K:bb A m A1 m1)(h:aA lo RR A1 m1 r rd):aA lo RR A m r rd:=by
 cases rd with
 |next de lv=>obtain⟨e,m',A',h,I,k⟩:=h;exact⟨e,m',A',h,I,K.trans k⟩
 |brk de lv=>obtain⟨e,m',A',h,I,k⟩:=h;exact⟨e,m',A',h,I,K.trans k⟩
 |cont de lv=>obtain⟨e,m',A',h,I,k⟩:=h;exact⟨e,m',A',h,I,K.trans k⟩
 |ret d l=>obtain⟨w,m',B,h,k,z⟩:=h;exact⟨w,m',B,h,⟨λx o a b=>k.1 x o (K.1 x o a b).1 (K.1 x o a b).2,Qu K.2 k.2⟩,z⟩
 |exc c d=>obtain⟨w,e,m',h,k,z⟩:=h;exact⟨w,e,m',h,⟨λx o a b=>k.1 x o (K.1 x o a b).1 (K.1 x o a b).2,Qu K.2 k.2⟩,z⟩
 |no=>trivial
def Inv.rf (I:Inv lo RR m de lv env A)(h:ag (Rf RR m.length) m' d w):ag RR m' d w:=
 ag.frame (λx o r z=>⟨by rcases r with r|r;exact r;exact I.rr x (Qu I.lom r),z⟩) d w h
def Inv.bindE (H:bp cl cd)(I:Inv lo RR m de lv env A)(e:Ex)(k:∀d w m1,am cd e de=.ok d->af cl e env m=.ok w m1->Le m m1->ag RR m1 d w->aA lo RR A m1 (f w m1) (g d)):aA lo RR A m ((af cl e env m).bindS env f) ((am cd e de).bindS g):=by
 have h:=za H e RR m de env (I.envR _);cases z:am cd e de with
 |no=>trivial
 |exc c d=>
  rw[z]at h;obtain⟨w,m',h,l,r⟩:=h;rw[h];exact⟨w,env,m',rfl,⟨λx o _ b=>l x o b,l.len⟩,I.rf r⟩
 |ok d=>
  rw[z]at h;obtain⟨w,m',h,l,r⟩:=h;have:=k d w m' z h l (I.rf r);rw[h];exact aA.keep (kF l) this
def Inv.own (H:bF lev cl cd)(I:Inv lo RR m de lv env A)(h1:am cd e de=.ok d)(h2:af cl e env m=.ok w m1):
  ∃B,bv (λx=>RR x/\x∉B) m1 (aT lev e d) d w B/\B.Nodup/\∀b∈B,m.length<=b:=by
 have h:=xt H e RR m de env (I.envR _);rw[h1]at h;obtain⟨w',m',B,h3,l,r,nd,hB⟩:=h;rw[h2]at h3;cases h3;exact⟨B,r.frame (λx o r z=>⟨⟨by rcases r.1 with r|r;exact r;exact I.rr x (Qu I.lom r),r.2⟩,z⟩) (λ_ _ _ z=>z),nd,hB⟩
section
variable{lev:Nat->Lv}{cl:Nat->List Wd->Me->Rz}{cd:Nat->List Dat->Rd}{lo:Nat}{RR:Nat->Prop}{m:Me}{de:aS}{lv:List Lv}{env:En}{A:Nat->List Nat}
set_option tactic.hygienic true in
def qy (h:jM de j=some ds):de[j]?=some (some (.lst ds)):=by
 unfold jM at h;split at h
 .next z=>cases h;exact z
 .cases h
def vI (h:env[j]?=some (some w))(m:Me):af cl (.var j) env m=.ok w m:=by
 exact wn h m
def CI(H:bF lev cl cd)(I:Inv lo RR m de lv env A)(i:Nat)(e:Ex):aA lo RR A m (bB cl (.asg i e) env m) (aM lev cd (.asg i e) de lv):=by
 have h:aA lo RR A m ((af cl e env m).bindS env λw m1=>.next (env.set i (some w)) m1) ((am cd e de).bindS λd=>yZ lev i e d de lv):=by
  cases z:am cd e de with
  |no=>trivial
  |exc c d=>
   have:=I.bindE H.r e (f:=λw m1=>.next (env.set i (some w)) m1) (g:=λd=>.no) (λ_ _ _ _ _ _ _=>trivial);rw[z]at this;exact this
  |ok d=>
   show aA lo RR A m _ (yZ lev i e d de lv);unfold yZ;by_cases f:aT lev e d=.full
   .rw[Lp f];have h:=xt H e RR m de env (I.envR _);rw[z]at h;obtain⟨w,m1,B,h2,l,r,nd,hB⟩:=h;rw[h2];rw[f]at r;obtain⟨I',K⟩:=I.store l i (l:=.full) (d:=d) (w:=w) (B:=B) r nd hB;exact⟨_,_,_,rfl,I',K⟩
   .rw[Lq f];obtain⟨A1,I1,K1,_,h⟩:=I.relEv H e;rw[z]at h;obtain⟨w,m1,B,h2,l,r,nd,hB⟩:=h;rw[h2];obtain⟨I',K⟩:=I1.store l i (l:=aT lev e d) (d:=d) (w:=w) (B:=B) r nd hB;exact⟨_,_,_,rfl,I',K1.trans K⟩
 exact h
set_option tactic.hygienic true in
def Eb (H:bF lev cl cd)(I:Inv lo RR m de lv env A)(hd:de[j]?=some (some (.lst ds)))(h1:am cd e de=.ok d)(h2:af cl e env m=.ok w m1)(l1:Le m m1)(l2:Le m1 m2)(g:gd lev e d j de lv=some (de1,lv1))(F:List Dat->Dat->List Dat)(G:List Wd->Wd->List Wd)(cF:∀(m m1:Me) (A:Nat->List Nat) (ds:List Dat) (xs:List Wd) (d:Dat) (w:Wd) (B0:List Nat),Le m m1->bh m1 d w B0->B0.Nodup->(∀b∈B0,m.length<=b)->ir RR A m m1 ds xs (F ds d) (G xs w))(cM:∀(m:Me) (ds:List Dat) (xs:List Wd) (d:Dat) (w:Wd) (B B0:List Nat),(B++B0).Nodup->au m ds xs B->bh m d w B0->∃B',au m (F ds d) (G xs w) B'/\B'.Nodup/\∀b∈B',b∈B\/b∈B0)(cT:∀(R:Nat->Prop) (m:Me) (ds:List Dat) (xs:List Wd) (d:Dat) (w:Wd),aa R m ds xs->ag R m d w->aa R m (F ds d) (G xs w)):
  ∃l xs,env[j]?=some (some (.ref l))/\m2[l]?=some (.lst xs)/\ds.length=xs.length/\∃A',Inv lo RR (m2.set l (.lst (G xs w))) (de1.set j (some (.lst (F ds d)))) lv1 env A'/\bb A m A' (m2.set l (.lst (G xs w))):=by
 have l12:=l1.trans l2;unfold gd at g;split at g
 .cases g
 .next ho=>
  have ho:yx lv j=true:=by simpa using ho
  split at g
  .next f=>
   cases g;obtain⟨B,r,nd,hB⟩:=I.own H h1 h2;rw[f]at r;obtain⟨l,xs,he,hm,hr,put⟩:=I.mut hd ho;have r':bh m2 d w B:=bh.frame d w B (λx _ o z=>l2 x o z) r;refine⟨l,xs,he,l12 l _ hm,hr.len,put m2 _ _ l12 (λ_=>(cF m m2 A ds xs d w B l12 r' nd hB).1) (λ_=>(cF m m2 A ds xs d w B l12 r' nd hB).2)⟩
  .next f=>
   split at g
   .cases g
   .next hj=>
    have share:lv1=(xu e de lv).set j .top->de1=de->∃l xs,env[j]?=some (some (.ref l))/\m2[l]?=some (.lst xs)/\ds.length=xs.length/\∃A',Inv lo RR (m2.set l (.lst (G xs w))) (de1.set j (some (.lst (F ds d)))) lv1 env A'/\bb A m A' (m2.set l (.lst (G xs w))):=by
     rintro rfl rfl;obtain⟨A1,I1,K1,hA1,h⟩:=I.relEv H e;rw[h1]at h;have ho1:yx (xu e de1 lv) j=true:=by unfold yx;rw[CJ e _ _ hj];exact ho
     obtain⟨l,xs,A2,I2,K2,g1,g2,he,hm,hr,hlA⟩:=I1.top j hd ho1;have hs:=h.sim;obtain⟨w',m',h3,_,rw0⟩:=hs;rw[h2]at h3;cases h3;have hjl:j<(xu e de1 lv).length:=by rw[I1.lvl];exact(Qa.mp hd).1
     have ho2:yx ((xu e de1 lv).set j .top) j=true:=by unfold yx;rw[QO,Lp rfl,Lp hjl]
     have hlv:((xu e de1 lv).set j .top)[j]?=some .top:=by rw[QO,Lp rfl,Lp hjl]
     obtain⟨l',xs',he',hm',_,put⟩:=I2.mut hd ho2;rw[he]at he';cases he';rw[hm]at hm';cases hm';obtain⟨A3,I3,K3⟩:=put m2 (F ds d) (G xs w) l12 (λz=>by rw[hlv]at z;cases z) (λ_ q=>by
      refine cT _ m2 ds xs d w (aa.frame (λx o r z=>⟨.inl r,l12 x o z⟩) _ _ q) (ag.frame (λx o r z=>⟨?_,l2 x o z⟩) _ _ rw0);rcases r with r|r
      .left
       refine⟨r.1,λk hk=>?_⟩;by_cases ek:k=j
       .rw[ek,g1]at hk;rw[Qt.mp hk]at r;exact r.2 j hlA
       .rw[g2 k ek]at hk;exact r.2 k hk
      .exact .inr r)
     exact⟨l,xs,he,l12 l _ hm,hr.len,A3,I3,(K1.trans K2).trans K3⟩
    split at g
    .next i=>
     split at g
     .next hfull=>
      cases g;have hij:i≠j:=λe=>hj (by rw[e];exact Qt.mpr rfl)
      -- the move
      have hdi:de[i]?=some (some d):=by
       exact ql h1
      obtain⟨wi,hei,ri⟩:=I.slot i d .full hdi hfull.1;have:af cl (.var i) env m=.ok wi m:=vI hei m;rw[this]at h2;cases h2;obtain⟨wj,hej,rj⟩:=I.slot j _ .full hd hfull.2;obtain⟨l,xs,B,rfl,hA,hm,r⟩:=bx.mp rj;have hlm:=(Qa.mp hm).1;have nd:=I.nd j;rw[hA]at nd;obtain⟨n0,n1⟩:=QV.mp nd;have nBi:(B++A i).Nodup:=QQ.mpr ⟨n1,I.nd i,λx hx y hy e=>by
       subst e;exact hij (I.dj i j x hy (by rw[hA];exact Qk _ hx))⟩
      obtain⟨B',o,nB',hB'⟩:=cM m ds xs d w B (A i) nBi r ri;have lB':l∉B':=λz=>by
       rcases hB' l z with q|q
       .exact n0 q
       .exact hij (I.dj i j l q (by rw[hA];simp))
      have sub:∀x∈l::B',x∈A j\/x∈A i:=by
       intro x hx;rcases Qo.mp hx with rfl|hx
       .left;rw[hA];simp
       .rcases hB' x hx with q|q
        .left;rw[hA];exact Qk _ q
        .exact .inr q
      have hjl:j<de.length:=(Qa.mp hd).1;have hil:i<de.length:=(Qa.mp hdi).1;have ui:aH (aH A i []) j (l::B') i=[]:=by rw[zd hij,ze]
      have uo:∀k,k≠i->k≠j->aH (aH A i []) j (l::B') k=A k:=λk a b=>by rw[zd b,zd a]
      have ll2:=l2.len;refine⟨l,xs,hej,l2 l _ hm,r.len,aH (aH A i []) j (l::B'),?_⟩;refine I.put l2 (j:=j) (l:=l) (xs:=xs) (by rw[hA];simp) _ ?_ ?_ ?_ ?_ (by simp) rfl ?_ ?_
      .intro k x hx
       left
       by_cases e:k=j
       .rw[e,ze]at hx;rcases sub x hx with q|q
        .exact ⟨j,q⟩
        .exact ⟨i,q⟩
       .by_cases f:k=i
        .rw[f,ui]at hx;cases hx
        .rw[uo k f e]at hx;exact⟨k,hx⟩
      .intro k;by_cases e:k=j
       .rw[e,ze];exact QV.mpr ⟨lB',nB'⟩
       .by_cases f:k=i
        .rw[f,ui];simp
        .rw[uo k f e];exact I.nd k
      .have main:∀k x,k≠j->x∈l::B'->x∈aH (aH A i []) j (l::B') k->False:=by
        intro k x e hx hk;by_cases f:k=i
        .rw[f,ui]at hk;cases hk
        .rw[uo k f e]at hk;rcases sub x hx with q|q
         .exact e (I.dj k j x hk q)
         .exact f (I.dj k i x hk q)
       intro a b x ha hb;by_cases e:a=j
       .by_cases f:b=j
        .rw[e,f]
        .rw[e,ze]at ha;exact(main b x f ha hb).elim
       .by_cases f:b=j
        .rw[f,ze]at hb;exact(main a x e hb ha).elim
        .by_cases g:a=i
         .rw[g,ui]at ha;cases ha
         .by_cases h:b=i
          .rw[h,ui]at hb;cases hb
          .rw[uo a g e]at ha;rw[uo b h f]at hb;exact I.dj a b x ha hb
      .intro k x hx;by_cases e:k=j
       .rw[e,ze]at hx;rcases sub x hx with q|q
        .exact ⟨(I.bd j x q).1,Ql (I.bd j x q).2 ll2⟩
        .exact ⟨(I.bd i x q).1,Ql (I.bd i x q).2 ll2⟩
       .by_cases f:k=i
        .rw[f,ui]at hx;cases hx
        .rw[uo k f e]at hx;exact⟨(I.bd k x hx).1,Ql (I.bd k x hx).2 ll2⟩
      .intro k d' lk e g1 g2;rw[QA (Ne.symm e)]at g1;by_cases f:k=i
       .rw[f,QO,Lp rfl,Lp hil]at g1;cases g1
       .rw[QA (Ne.symm f)]at g1;exact⟨g1,g2,uo k f e⟩
      .intro d' lj g1 g2;rw[QO,Lp rfl,Lp (by simpa using hjl)]at g1;cases g1;rw[hfull.2]at g2;cases g2;refine⟨_,hej,?_⟩;rw[ze];exact bx.mpr ⟨l,_,B',rfl,rfl,xi (l2 l _ hm),au.frame _ _ B' (λx hx o z=>by rw[yq (l:=l) (x:=x) (λe=>lB' (by rw[e];exact hx))];exact l2 x o z) o⟩
     .cases g;exact share rfl rfl
    .cases g;exact share rfl rfl
end
section
variable{lev:Nat->Lv}{cl:Nat->List Wd->Me->Rz}{cd:Nat->List Dat->Rd}{lo:Nat}{RR:Nat->Prop}{m:Me}{de:aS}{lv:List Lv}{env:En}{A:Nat->List Nat}
def Bw (h1:af cl o env m=.ok x m1)(h2:af cl e env m1=.ok w m2)(hl:yb x m1=true:=by simp only[yb,bm];simp_all):af cl (.meth n o (.pair e .unit)) env m=di n x [w] m2:=by
 show(af cl o env m).bind (λx m1=>match yb x m1 with|true=>((af cl e env m1).bind λa m2=>.ok (.tup [a]) m2).bind λy m2=>di n x (zz y) m2|false=>.no)=_;rw[h1];show(match yb x m1 with|true=>((af cl e env m1).bind λa m2=>.ok (.tup [a]) m2).bind λy m2=>di n x (zz y) m2|false=>.no)=_;rw[hl,h2];rfl
def CH (h1:af cl o env m=.ok x m1)(hl:yb x m1=true:=by simp only[yb,bm];simp_all):af cl (.meth n o .unit) env m=di n x [] m1:=by
 show(af cl o env m).bind (λx m1=>match yb x m1 with|true=>di n x [] m1|false=>.no)=_;rw[h1];show(match yb x m1 with|true=>di n x [] m1|false=>.no)=_;rw[hl]
def CG (n:(B++B0).Nodup)(a:au m ds xs B)(b:bh m d w B0):∃B',au m (ds++[d]) (xs++[w]) B'/\B'.Nodup/\∀b∈B',b∈B\/b∈B0:=
 ⟨B++(B0++[]),a.app (.cons b .nil),by simpa using n,λx hx=>by simpa using hx⟩
theorem aA.okS{r:Rs}{rd:Rd}{g:Dat->bY}(h:∀d,rd=.ok d->aA lo RR A m r (g d)):aA lo RR A m r (rd.okS g):=by
 cases rd with
 |ok d=>exact h d rfl
 |_=>trivial
theorem Inv.ok (H:bp cl cd)(I:Inv lo RR m de lv env A)(h:am cd e de=.ok d)(l:Le m m1):∃w m2,af cl e env m1=.ok w m2/\Le m1 m2/\ag RR m2 d w:=by
 have q:=za H e RR m1 de env ((I.ext l).envR _);rw[h]at q;obtain⟨w,m2,a,b,c⟩:=q;exact⟨w,m2,a,b,(I.ext l).rf c⟩
def Inv.isRef (I:Inv lo RR m de lv env A){j:Nat}(hd:de[j]?=some (some (.lst ds)))(he:env[j]?=some (some w)):yb w m=true:=by
 obtain⟨lj,hl⟩:=I.getlv hd;obtain⟨w',a,b⟩:=I.slot j _ lj hd hl;rw[he]at a;cases a;obtain⟨l,xs,rfl,_,hm,_⟩:=az.mp (b.rep (R':=λ_=>True) (λ_ _=>trivial) (λ_ _=>trivial));simp[yb,bm,hm]
set_option tactic.hygienic true in
def Ea(H:bF lev cl cd)(I:Inv lo RR m de lv env A)(j:Nat)(e:Ex):aA lo RR A m (bB cl (.expr (.meth .append (.var j) (.pair e .unit))) env m) (aM lev cd (.expr (.meth .append (.var j) (.pair e .unit))) de lv):=by
 show aA _ _ _ _ ((af cl _ env m).bindS env _) _;refine aA.okS λd h1=>?_;split
 .next ds hl=>
  split
  .next hlim=>
   split
   .next de1 lv1 g=>
    obtain⟨w,m1,h2,l1,r1⟩:=I.ok H.r h1 (Le.refl m);obtain⟨l,xs,he,hm,hlen,A',I',K⟩:=Eb H I (qy hl) h1 h2 l1 (Le.refl m1) g (λds d=>ds++[d]) (λxs w=>xs++[w])
     (λ_ _ _ _ _ _ _ _ le o nd hB=>pY le o nd hB) (λ_ _ _ _ _ _ _ n a b=>CG n a b) (λ_ _ _ _ _ _ a b=>a.app (.cons b .nil))
    rw[Bw (vI he m) h2 (I.isRef (qy hl) he)];have:di .append (.ref l) [w] m1=.ok .non (m1.set l (.lst (xs++[w]))):=by
     simp only[di,hm];rw[Lp (by lia)]
    rw[this];exact⟨_,_,A',rfl,I',K⟩
   .trivial
  .trivial
 .trivial
set_option tactic.hygienic true in
def D9(I:Inv lo RR m de lv env A)(j:Nat):aA lo RR A m (bB cl (.expr (.meth .clear (.var j) .unit)) env m) (aM lev cd (.expr (.meth .clear (.var j) .unit)) de lv):=by
 show aA _ _ _ _ ((af cl _ env m).bindS env _) (match jM de j with
   |some ds=>if yx lv j then .next (de.set j (some (.lst []))) lv else .no
   |none=>.no)
 split
 .next ds hl=>
  split
  .next ho=>
   obtain⟨l,xs,he,hm,hr,put⟩:=I.mut (qy hl) ho;obtain⟨A',I',K⟩:=put m [] [] (Le.refl m) (λ_=>(dt (RR:=RR) (A:=A)).1) (λ_=>dt.2);rw[CH (vI he m)];have:di .clear (.ref l) [] m=.ok .non (m.set l (.lst [])):=by simp only[di,hm]
   rw[this];exact⟨_,_,A',rfl,I',K⟩
  .trivial
 .trivial
set_option tactic.hygienic true in
def CF(H:bF lev cl cd)(I:Inv lo RR m de lv env A)(i:Nat)(op:Bo)(e:Ex):aA lo RR A m (bB cl (.aug i op e) env m) (aM lev cd (.aug i op e) de lv):=by
 show aA _ _ _ _ _ (match de[i]? with
  |some (some (.int a))=>(am cd e de).okS λy=>match y with
   |.int b=>(ym op (.int a) (.int b)).okS λz=>.next (de.set i (some z)) (lv.set i .full)
   |_=>.no
  |_=>.no)
 split
 .next a ha=>
  refine aA.okS λy hy=>?_;split
  .next b=>
   refine aA.okS λz hz=>?_;obtain⟨la,hla⟩:=I.getlv ha;obtain⟨wa,hea,ra⟩:=I.slot i _ la ha hla;have ra':=ra.rep (R':=RR) (λ_ z=>z.1) (λx hx=>I.rr x (I.bd i x hx).1);rw[ab.mp ra']at hea;show aA _ _ _ _ (match env[i]? with
    |some (some x)=>(af cl e env m).bindS env λy m1=>fU op x y m1 env λz m2=>.next (env.set i (some z)) m2
    |_=>.no) _
   rw[hea];obtain⟨w,m1,h2,l1,r1⟩:=I.ok H.r hy (Le.refl m);rw[ab.mp r1]at h2;simp only[h2,Rz.bindS,fU];have hs:=qo (R:=RR) (m:=m1) op (d:=.int a) (e:=.int b) (ab.mpr rfl) (ab.mpr rfl);rw[hz]at hs;obtain⟨w3,m3,h3,l3,r3⟩:=hs;rw[h3];have fz:aw z=true:=by
    cases op<;>simp only[ym]at hz
    .cases hz;rfl
    .cases hz;rfl
    all_goals (split at hz<;>(cases hz;try rfl))
   obtain⟨I',K⟩:=I.store (l1.trans l3) i (l:=.full) (d:=z) (w:=w3) (B:=[]) (r3.flat z w3 fz) QM (by simp);exact⟨_,_,_,rfl,I',K⟩
  .trivial
 .trivial
end
section
variable{m:Me}
mutual
theorem ag.avoid{R R':Nat->Prop}{m:Me}{D:Dat}{l:Nat}(hD:ag R' m D (.ref l)):∀(d:Dat) (w:Wd),dS d<dS D->ag R m d w->ag (λx=>R x/\x≠l) m d w
 |.non,w,h,q=>aN.mpr (aN.mp q)
 |.bl _,w,h,q=>ak.mpr (ak.mp q)
 |.int _,w,h,q=>ab.mpr (ab.mp q)
 |.str _,w,h,q=>aR.mpr (aR.mp q)
 |.scr _,w,h,q=>bi.mpr (bi.mp q)
 |.tup ds,w,h,q=>by
  obtain⟨xs,rfl,q1⟩:=ah.mp q;exact ah.mpr ⟨xs,rfl,aa.avoid hD ds xs (by rw[show dS (.tup ds)=cR ds+1 from by simp[dS]]at h;lia) q1⟩
 |.lst ds,w,h,q=>by
  obtain⟨k,xs,rfl,r,hm,q1⟩:=az.mp q;refine az.mpr ⟨k,xs,rfl,⟨r,λe=>?_⟩,hm,aa.avoid hD ds xs (by rw[show dS (.lst ds)=cR ds+1 from by simp[dS]]at h;lia) q1⟩;subst e;have:=ag.det _ _ _ q hD;rw[this]at h;lia
 |.dct ks ds,w,h,q=>by
  obtain⟨k,xs,rfl,r,hm,q1⟩:=aU.mp q;refine aU.mpr ⟨k,xs,rfl,⟨r,λe=>?_⟩,hm,aa.avoid hD ds xs (by rw[show dS (.dct ks ds)=cR ds+1 from by simp[dS]]at h;lia) q1⟩;subst e;have:=ag.det _ _ _ q hD;rw[this]at h;lia
theorem aa.avoid{R R':Nat->Prop}{m:Me}{D:Dat}{l:Nat}(hD:ag R' m D (.ref l)):∀(ds:List Dat) (xs:List Wd),cR ds<dS D->aa R m ds xs->aa (λx=>R x/\x≠l) m ds xs
 |[],xs,h,q=>by rw[q.nil_inv];exact .nil
 |d::ds,xs,h,q=>by
  obtain⟨x,r,rfl,a,b⟩:=q.cons_inv;unfold cR at h;exact .cons (ag.avoid hD d x (by lia) a) (aa.avoid hD ds r (by lia) b)
end
end
section
variable{cl:Nat->List Wd->Me->Rz}{cd:Nat->List Dat->Rd}{lo:Nat}{RR:Nat->Prop}{m:Me}{de:aS}{lv:List Lv}{env:En}{A:Nat->List Nat}
def Bv (H:bp cl cd)(q:bT R m (zj e) de env)(h:am cd e de=.ok d)(hR:∀l,m.length<=l->R l):∃w m2,af cl e env m=.ok w m2/\Le m m2/\ag R m2 d w:=by
 have q:=za H e R m de env q;rw[h]at q;obtain⟨w,m2,a,b,c⟩:=q;exact⟨w,m2,a,b,ag.frame (λx o r z=>⟨by rcases r with r|r;exact r;exact hR x r,z⟩) d w c⟩
def Inv.forget(I:Inv lo RR m de lv env A)(i:Nat)(w:Wd):Inv lo RR m (de.set i none) (lv.set i .full) (env.set i (some w)) A:=by
 refine⟨by simp[I.len],by simp[I.lvl],I.rr,I.lom,λk d l h1 h2=>?_,I.nd,I.dj,I.bd⟩;by_cases e:i=k
 .subst e;rw[QO,Lp rfl]at h1;split at h1
  .cases h1
  .cases h1
 .rw[QA e]at h1 h2;obtain⟨w',a,b⟩:=I.slot k d l h1 h2;exact⟨w',by rw[QA e];exact a,b⟩
end
theorem ko(q:List Int):∀(ks:List (List Int)) (n:Nat),(∃p,∀(α:Type) (zs:List α) (v:α),zs.length=n->zK ks zs q v=zs.set p v)\/∀(α:Type) (zs:List α) (v:α),zs.length=n->zK ks zs q v=zs++[v]
 |[],n=>.inr λα zs v _=>by cases zs<;>rfl
 |k::ks,0=>.inr λα zs v h=>by
  cases zs with
  |nil=>rfl
  |cons _ _=>cases h
 |k::ks,n+1=>by
  by_cases e:k=q
  .refine .inl ⟨0,λα zs v h=>?_⟩;cases zs with
   |nil=>cases h
   |cons z zs=>show(if k=q then v::zs else _)=_;rw[Lp e];rfl
  .rcases ko q ks n with⟨p,h⟩|h
   .refine .inl ⟨p+1,λα zs v hz=>?_⟩;cases zs with
    |nil=>cases hz
    |cons z zs=>show(if k=q then _ else z::zK ks zs q v)=_;rw[Lq e,h α zs v (by simpa using hz)];rfl
   .refine .inr λα zs v hz=>?_;cases zs with
    |nil=>cases hz
    |cons z zs=>show(if k=q then _ else z::zK ks zs q v)=_;rw[Lq e,h α zs v (by simpa using hz)];rfl
def pW (ks:List (List Int))(q:List Int)(hlen:ds.length=xs.length)(le:Le m m1)(o:bh m1 d w B0)(nd:B0.Nodup)(hB:∀b∈B0,m.length<=b):ir RR A m m1 ds xs (zK ks ds q d) (zK ks xs q w):=by
 rcases ko q ks ds.length with⟨p,h⟩|h
 .rw[h _ ds d rfl,h _ xs w hlen.symm];exact CK p le o nd hB
 .rw[h _ ds d rfl,h _ xs w hlen.symm];exact pY le o nd hB
def Inv.mutD (I:Inv lo RR m de lv env A)(hd:de[j]?=some (some (.dct ks ds)))(hl:lv[j]?=some .full):
  ∃l xs,env[j]?=some (some (.ref l))/\m[l]?=some (.dct ks xs)/\ds.length=xs.length/\∀(m1:Me) (ks':List (List Int)) (ds':List Dat) (ys:List Wd),Le m m1->nr m m1 ds xs ds' ys ->
   ∃A1,Inv lo RR (m1.set l (.dct ks' ys)) (de.set j (some (.dct ks' ds'))) lv env A1/\bb A m A1 (m1.set l (.dct ks' ys)):=by
 obtain⟨w,a,b⟩:=I.slot j _ .full hd hl;have hjl:j<de.length:=(Qa.mp hd).1;obtain⟨l,xs,B,rfl,hA,hm,r⟩:=bP.mp b;have hlm:=(Qa.mp hm).1;have nd:=I.nd j;rw[hA]at nd;refine⟨l,xs,a,hm,r.len,λm1 ks' ds' ys le c=>?_⟩;obtain⟨B',o,nb,hB⟩:=c B (QV.mp nd).2 r;have hlB:l∉B':=λz=>by
  rcases hB l z with z|z
  .exact (QV.mp nd).1 z
  .lia
 have sub:∀x∈l::B',x∈A j\/m.length<=x:=by
  intro x hx;rcases Qo.mp hx with rfl|hx
  .left;rw[hA];simp
  .rcases hB x hx with z|z
   .left;rw[hA];exact Qk _ z
   .exact .inr z
 refine⟨aH A j (l::B'),?_⟩;refine I.putO le (j:=j) (l:=l) (by rw[hA];simp) _ ?_ ?_ ?_ ?_ (by simp) rfl ?_ ?_
 .intro k x hx;by_cases e:k=j
  .subst e;rw[ze]at hx;rcases sub x hx with z|z
   .exact .inl ⟨k,z⟩
   .exact .inr z
  .rw[zd e]at hx;exact .inl ⟨k,hx⟩
 .intro k;by_cases e:k=j
  .subst e;rw[ze];exact QV.mpr ⟨hlB,nb⟩
  .rw[zd e];exact I.nd k
 .intro i k x h1 h2;by_cases e:i=j
  .by_cases f:k=j
   .rw[e,f]
   .rw[e,ze]at h1;rw[zd f]at h2;rcases sub x h1 with z|z
    .rw[e];exact I.dj j k x z h2
    .have:=(I.bd k x h2).2;lia
  .rw[zd e]at h1;by_cases f:k=j
   .rw[f,ze]at h2;rcases sub x h2 with z|z
    .rw[f];exact I.dj i j x h1 z
    .have:=(I.bd i x h1).2;lia
   .rw[zd f]at h2;exact I.dj i k x h1 h2
 .intro k x hx;by_cases e:k=j
  .rw[e,ze]at hx;rcases Qo.mp hx with rfl|hx
   .exact ⟨(I.bd j _ (by rw[hA];simp)).1,Ql hlm le.len⟩
   .refine ⟨?_,au.lt ds' ys B' o x hx⟩;rcases hB x hx with z|z
    .exact (I.bd j x (by rw[hA];exact Qk _ z)).1
    .exact Qu I.lom z
  .rw[zd e]at hx;exact⟨(I.bd k x hx).1,Ql (I.bd k x hx).2 le.len⟩
 .intro k d lk e h1 h2;rw[QA (Ne.symm e)]at h1;exact⟨h1,h2,zd e⟩
 .intro d lj h1 h2;rw[QO,Lp rfl,Lp hjl]at h1;cases h1;rw[hl]at h2;cases h2;refine⟨_,a,?_⟩;rw[ze];exact bP.mpr ⟨l,ys,B',rfl,rfl,xi (le l _ hm),au.frame ds' ys B' (λx hx o z=>by rw[yq (l:=l) (x:=x) (λe=>hlB (by rw[e];exact hx))];exact z) o⟩
section
variable{lev:Nat->Lv}{cl:Nat->List Wd->Me->Rz}{cd:Nat->List Dat->Rd}{lo:Nat}{RR:Nat->Prop}{m:Me}{de:aS}{lv:List Lv}{env:En}{A:Nat->List Nat}
set_option tactic.hygienic true in
def EH(H:bF lev cl cd)(I:Inv lo RR m de lv env A)(j:Nat)(k e:Ex):aA lo RR A m (bB cl (.dput j k e) env m) (aM lev cd (.dput j k e) de lv):=by
 show aA _ _ _ _ ((af cl e env m).bindS env _) _;refine aA.okS λd h1=>aA.okS λkv hk=>?_;split
 .next ks ds q hd hq=>
  split
  .next c=>
   obtain⟨c1,c2,c3⟩:=c;obtain⟨w,m1,h2,l1,r1⟩:=I.ok H.r h1 (Le.refl m);obtain⟨wk,m2,h3,l2,r3⟩:=I.ok H.r hk l1;obtain⟨B,ro,nd,hB⟩:=I.own H h1 h2;rw[c2]at ro;have ro:bh m1 d w B:=ro;obtain⟨l,xs,he,hm,hlen,put⟩:=I.mutD hd c1;obtain⟨A1,I1,K1⟩:=put m2 (xn ks q) (zK ks ds q d) (zK ks xs q w) (l1.trans l2) (pW (RR:=RR) (A:=A) ks q hlen (l1.trans l2) (bh.frame d w B (λx _ o z=>l2 x o z) ro) nd hB).1;rw[h2];show aA _ _ _ _ ((af cl (.var j) env m1).bindS env _) _;rw[vI he m1];show aA _ _ _ _ ((af cl k env m1).bindS env _) _;rw[h3];have e2:vp (.ref l) wk w m2=.ok .non (m2.set l (.dct (xn ks q) (zK ks xs q w))):=by
    unfold vp;simp only[(l1.trans l2) l _ hm,xP r3 hq,Lp c3]
   show aA _ _ _ _ ((vp (.ref l) wk w m2).bindS env _) _;rw[e2];exact⟨env,_,A1,rfl,I1,K1⟩
  .trivial
 .trivial
end
section
variable{lev:Nat->Lv}{cl:Nat->List Wd->Me->Rz}{cd:Nat->List Dat->Rd}{lo:Nat}{RR:Nat->Prop}
def cx (q:List Int):ag R m (zD q) (.tup (q.map Wd.int)):=ah.mpr ⟨_,rfl,eQ q⟩
set_option tactic.hygienic true in
theorem v8 (hb:∀x w m de lv env A,Inv lo RR m de lv env A->ag (zO RR A) m x w->aA lo RR A m (bw w env m) (bd x de lv)):
  ∀(qs:List (List Int)) (i k:Nat) (m:Me) (de:aS) (lv:List Lv) (env:En) (A:Nat->List Nat),Inv lo RR m de lv env A->(∀k,l∉A k)->m[l]?=some (.dct ks ws)->qs=ks.drop i->i+qs.length=ks.length->qs.length<k->aA lo RR A m (xo bw l ks.length k i env m) (zq bd (qs.map zD) de lv)
 |[],i,0,m,de,lv,env,A,I,hl,hm,r,hi,hk=>by simp at hk
 |d::ds,i,0,m,de,lv,env,A,I,hl,hm,r,hi,hk=>by simp at hk
 |[],i,k+1,m,de,lv,env,A,I,hl,hm,r,hi,hk=>by
  unfold xo zq;rw[hm];simp only[if_true];rw[QE (by simp at hi;lia)];exact⟨env,m,A,rfl,I,bb.refl A m⟩
 |q::qs,i,k+1,m,de,lv,env,A,I,hl,hm,r,hi,hk=>by
  have hx:ks[i]?=some q:=by
   have:(ks.drop i)[0]?=some q:=by rw[<-r];rfl
   simpa using this
  have hr:qs=ks.drop (i+1):=by
   have:(ks.drop i).drop 1=qs:=by rw[<-r];rfl
   rw[<-this,WD]
  have hi':i+1+qs.length=ks.length:=by simp at hi;lia
  have hk':qs.length<k:=by simp at hk;lia
  have h:=hb (zD q) _ m de lv env A I (cx q);unfold xo;rw[QJ];unfold zq;rw[hm];simp only[if_true];rw[hx];simp only;cases z:bd (zD q) de lv with
  |next d1 l1=>
   rw[z]at h;obtain⟨e1,m1,A1,h1,I1,K1⟩:=h;rw[h1];exact aA.keep K1 (v8 hb qs (i+1) k m1 d1 l1 e1 A1 I1 (K1.1 l _ hl hm).1 (K1.1 l _ hl hm).2 hr hi' hk')
  |cont d1 l1=>
   rw[z]at h;obtain⟨e1,m1,A1,h1,I1,K1⟩:=h;rw[h1];exact aA.keep K1 (v8 hb qs (i+1) k m1 d1 l1 e1 A1 I1 (K1.1 l _ hl hm).1 (K1.1 l _ hl hm).2 hr hi' hk')
  |brk d1 l1=>
   rw[z]at h;obtain⟨e1,m1,A1,h1,I1,K1⟩:=h;rw[h1];exact⟨e1,m1,A1,rfl,I1,K1⟩
  |ret d l=>
   rw[z]at h;obtain⟨w,m1,B,h1,k⟩:=h;rw[h1];exact⟨w,m1,B,rfl,k⟩
  |exc c d=>
   rw[z]at h;obtain⟨w,e,m1,h1,k⟩:=h;rw[h1];exact⟨w,e,m1,rfl,k⟩
  |no=>trivial
set_option tactic.hygienic true in
def gf (hb:∀(p:Dat×Dat) w1 w2 m de lv env A,Inv lo RR m de lv env A->ag (zO RR A) m p.1 w1->ag (zO RR A) m p.2 w2->aA lo RR A m (bw (.tup [w1,w2]) env m) (bd p de lv)){all:List (Dat×Dat)}{P:Me->(Nat->List Nat)->Prop}(hP:∀m A m1 A1,P m A->bb A m A1 m1->P m1 A1)(hg:∀m A,P m A->(∀(i:Nat) p,all[i]?=some p->∃w1 w2,g i m=some (some (w1,w2))/\ag (zO RR A) m p.1 w1/\ag (zO RR A) m p.2 w2)/\g all.length m=some none)(ps:List (Dat×Dat)):
  ∀(i k:Nat) (m:Me) (de:aS) (lv:List Lv) (env:En) (A:Nat->List Nat),Inv lo RR m de lv env A->P m A->ps=all.drop i->i+ps.length=all.length->ps.length<k->aA lo RR A m (yH bw g k i env m) (zq bd ps de lv):=by
 induction ps with
 |nil=>
  intro i k m de lv env A I hp hps hi hk;obtain⟨k,rfl⟩:∃q,k=q+1:=⟨k-1,by simp at hk;lia⟩;have e:=(hg m A hp).2;rw[show all.length=i by simp at hi;lia]at e;unfold yH zq;rw[e];exact⟨env,m,A,rfl,I,bb.refl A m⟩
 |cons p ps ih=>
  intro i k m de lv env A I hp hps hi hk;obtain⟨k,rfl⟩:∃q,k=q+1:=⟨k-1,by simp at hk;lia⟩;have hx:all[i]?=some p:=by
   have:(all.drop i)[0]?=some p:=by rw[<-hps];rfl
   simpa using this
  have hr:ps=all.drop (i+1):=by
   have:(all.drop i).drop 1=ps:=by rw[<-hps];rfl
   rw[<-this,WD]
  obtain⟨w1,w2,e,a2,b2⟩:=(hg m A hp).1 i p hx;have hi':i+1+ps.length=all.length:=by simp only[QG]at hi;lia
  have hk':ps.length<k:=by simp only[QG]at hk;lia
  have h:=hb p w1 w2 m de lv env A I a2 b2;unfold yH zq;rw[e];simp only;cases z:bd p de lv with
  |next d1 l1=>
   rw[z]at h;obtain⟨e1,m1,A1,h1,I1,K1⟩:=h;rw[h1];exact aA.keep K1 (ih (i+1) k m1 d1 l1 e1 A1 I1 (hP _ _ _ _ hp K1) hr hi' hk')
  |cont d1 l1=>
   rw[z]at h;obtain⟨e1,m1,A1,h1,I1,K1⟩:=h;rw[h1];exact aA.keep K1 (ih (i+1) k m1 d1 l1 e1 A1 I1 (hP _ _ _ _ hp K1) hr hi' hk')
  |brk d1 l1=>
   rw[z]at h;obtain⟨e1,m1,A1,h1,I1,K1⟩:=h;rw[h1];exact⟨e1,m1,A1,rfl,I1,K1⟩
  |ret d l=>
   rw[z]at h;obtain⟨w,m1,B,h1,k⟩:=h;rw[h1];exact⟨w,m1,B,rfl,k⟩
  |exc c d=>
   rw[z]at h;obtain⟨w,e,m1,h1,k⟩:=h;rw[h1];exact⟨w,e,m1,rfl,k⟩
  |no=>trivial
set_option tactic.hygienic true in
def gh (I:Inv lo RR m de lv env A)(hd:de[x]?=some (some (.dct ks ds))):
  ∃A1 l ws,Inv lo RR m de (lv.set x .no) env A1/\bb A m A1 m/\env[x]?=some (some (.ref l))/\(∀k,l∉A1 k)/\m[l]?=some (.dct ks ws)/\aa (zO RR A1) m ds ws:=by
 obtain⟨A1,I1,K1,hA,_,_⟩:=Inv.downs [x] I;have hno:∀i∈[x],∀l,(bg [x] lv)[i]?=some l->l=.no:=λi hi l hl=>by
  rw[yM]at hl;split at hl
  .exact (Option.some.inj hl).symm
  .next q=>
   have:i<lv.length:=(Qa.mp hl).1;exact Lr ⟨hi,this⟩ q
 have E:=wI I1 hno;obtain⟨w,hw,r⟩:=E.2 x (by simp) _ hd;obtain⟨l,ws,rfl,fr,hm,q⟩:=aU.mp r;exact⟨A1,l,ws,I1,K1,hw,fr.2,hm,q⟩
set_option tactic.hygienic true in
def EG{bw:Wd->En->Me->Rs}{bd:Dat->aS->List Lv->bY}(hb:∀x w m de lv env A,Inv lo RR m de lv env A->ag (zO RR A) m x w->aA lo RR A m (bw w env m) (bd x de lv)){m:Me}{de:aS}{lv:List Lv}{env:En}{A:Nat->List Nat}(I:Inv lo RR m de lv env A)(x:Nat):
  aA lo RR A m ((af cl (.var x) env m).bindS env λw m1=>match w with
   |.ref l=>xo bw l (y8 m1 l) (aq+1) 0 env m1
   |_=>.no) (match de[x]? with
   |some (some (.dct ks _))=>if ks.length<=aq then zq bd (ks.map zD) de (lv.set x .no)else .no
   |_=>.no):=by
 split
 .next ks ds hd=>
  split
  .next hz=>
   obtain⟨A1,l,ws,I1,K1,hw,fr,hm,q⟩:=gh I hd;rw[wn hw m];have e:y8 m l=ks.length:=by unfold y8;rw[hm]
   show aA _ _ _ _ (xo bw l (y8 m l) (aq+1) 0 env m) _;rw[e];exact aA.keep K1 (v8 hb ks 0 (aq+1) m de _ env A1 I1 fr hm rfl (by simp) (by lia))
  .trivial
 .trivial
set_option tactic.hygienic true in
def EF{bw:Wd->En->Me->Rs}{bd:Dat×Dat->aS->List Lv->bY}(hb:∀(p:Dat×Dat) w1 w2 m de lv env A,Inv lo RR m de lv env A->ag (zO RR A) m p.1 w1->ag (zO RR A) m p.2 w2->aA lo RR A m (bw (.tup [w1,w2]) env m) (bd p de lv)){m:Me}{de:aS}{lv:List Lv}{env:En}{A:Nat->List Nat}(I:Inv lo RR m de lv env A)(x:Nat):
  aA lo RR A m ((af cl (.var x) env m).bindS env λw m1=>match w with
   |.ref l=>yH bw (xp l (y8 m1 l)) (aq+1) 0 env m1
   |_=>.no) (match de[x]? with
   |some (some (.dct ks ds))=>if ks.length<=aq/\ks.length=ds.length then zq bd ((ks.map zD).zip ds) de (lv.set x .no)else .no
   |_=>.no):=by
 split
 .next ks ds hd=>
  split
  .next hz=>
   obtain⟨A1,l,ws,I1,K1,hw,fr,hm,q⟩:=gh I hd;rw[wn hw m];have e:y8 m l=ks.length:=by unfold y8;rw[hm]
   show aA _ _ _ _ (yH bw (xp l (y8 m l)) (aq+1) 0 env m) _;rw[e];have lz:((ks.map zD).zip ds).length=ks.length:=by simp;lia
   refine aA.keep K1 (gf hb (g:=xp l ks.length) (all:=(ks.map zD).zip ds) (P:=λm A=>(∀k,l∉A k)/\m[l]?=some (.dct ks ws)/\aa (zO RR A) m ds ws) (λm A m1 A1 h K=>⟨(K.1 l _ h.1 h.2.1).1,(K.1 l _ h.1 h.2.1).2,K.repL h.2.2⟩) (λm A h=>?_) _ 0 (aq+1) m de _ env A1 I1 ⟨fr,hm,q⟩ rfl (by simp) (by rw[lz];lia));obtain⟨h1,h2,h3⟩:=h;refine⟨λi p hp=>?_,?_⟩
   .obtain ⟨z1,z2⟩:=qu hp;rw[Qs]at z1;obtain⟨k0,hk0,e0⟩:=QF.mp z1;obtain⟨w,b1,b2⟩:=h3.get z2;refine⟨.tup (k0.map Wd.int),w,?_,by rw[<-e0];exact cx k0,b2⟩;unfold xp;rw[h2];simp only[if_true,hk0,b1]
   .unfold xp;rw[h2];simp only[if_true];rw[lz,QE (Qg _)]
  .trivial
 .trivial
set_option tactic.hygienic true in
def FV (h:yj s t=some (i,j,k,e0,k2,e)):s=.asg i (.dop .get (.var j) k e0)/\t=.dput j k2 e/\i≠j:=by
 unfold yj at h;split at h
 .next j' k2' e'=>
  split at h
  .next i' j2 k' e0'=>
   split at h
   .next c=>
    cases h;exact⟨by rw[c.1],rfl,c.2⟩
   .cases h
  .cases h
 .cases h
set_option tactic.hygienic true in
def Bu (H:bF lev cl cd)(I:Inv lo RR m de lv env A)(hij:i≠j):
  aA lo RR A m (bB cl (.seq (.asg i (.dop .get (.var j) k e0)) (.dput j k2 e)) env m) (iV lev cd (i,j,k,e0,k2,e) de lv):=by
 unfold iV;refine aA.okS λg hg=>aA.okS λd hd2=>aA.okS λq hq=>?_;split
 .next ks ds q' hd hk=>
  split
  .next c=>
   obtain⟨c1,c2,c3,hi0⟩:=c;obtain⟨w,m1,e1,l1,r1⟩:=I.ok H.r hg (Le.refl m);have hi:i<env.length:=by rw[<-I.len];exact hi0
   have envI:∀(m':Me),Le m1 m'->∀vs,bT RR m' vs (de.set i (some g)) (env.set i (some w)):=by
    intro m' lm vs;refine⟨by simp[I.len],λk _ d hk=>?_⟩;by_cases ek:i=k
    .subst ek;rw[QO,Lp rfl,Lp hi0]at hk;cases hk;exact⟨w,by rw[QO,Lp rfl,Lp hi],ag.frame (λx o r z=>⟨r,lm x o z⟩) _ _ r1⟩
    .rw[QA ek]at hk ⊢;exact((I.ext (l1.trans lm)).envR vs).2 k (by assumption) d hk
   have hR:∀{m':Me},Le m m'->∀x,m'.length<=x->RR x:=λlm x hx=>I.rr x (Qu I.lom (Qu lm.len hx));have ho:=xt H e RR m1 (de.set i (some g)) (env.set i (some w)) (envI m1 (Le.refl m1) _);rw[hd2]at ho;obtain⟨we,m2,B,e2,l2,ro,nd,hB⟩:=ho;rw[c2]at ro;have ro:bh m2 d we B:=ro;obtain⟨wk,m3,e3,l3,r3⟩:=Bv H.r (envI m2 l2 _) hq (hR (l1.trans l2));obtain⟨l,xs,he,hm,hlen,put⟩:=I.mutD hd c1;have l123:=(l1.trans l2).trans l3;have hB':∀b∈B,m.length<=b:=λb hb=>Qu l1.len (hB b hb);obtain⟨A1,I1,K1⟩:=put m3 (xn ks q') (zK ks ds q' d) (zK ks xs q' we) l123 (pW (RR:=RR) (A:=A) ks q' hlen l123 (bh.frame d we B (λx _ o z=>l3 x o z) ro) nd hB').1;have s1:bB cl (.asg i (.dop .get (.var j) k e0)) env m=.next (env.set i (some w)) m1:=by
    show(af cl (.dop .get (.var j) k e0) env m).bindS env _=_;rw[e1];rfl
   have he':(env.set i (some w))[j]?=some (some (.ref l)):=by rw[QA hij];exact he
   have e4:vp (.ref l) wk we m3=.ok .non (m3.set l (.dct (xn ks q') (zK ks xs q' we))):=by
    unfold vp;simp only[l123 l _ hm,xP r3 hk,Lp c3]
   show aA _ _ _ _ (match bB cl (.asg i (.dop .get (.var j) k e0)) env m with
    |.next e1 m1=>bB cl (.dput j k2 e) e1 m1
    |r=>r) _
   rw[s1];show aA _ _ _ _ ((af cl e (env.set i (some w)) m1).bindS (env.set i (some w)) _) _;rw[e2];show aA _ _ _ _ ((af cl (.var j) (env.set i (some w)) m2).bindS (env.set i (some w)) _) _;rw[vI he' m2];show aA _ _ _ _ ((af cl k2 (env.set i (some w)) m2).bindS (env.set i (some w)) _) _;rw[e3];show aA _ _ _ _ ((vp (.ref l) wk we m3).bindS (env.set i (some w)) _) _;rw[e4];exact⟨_,_,A1,rfl,I1.forget i w,K1⟩
  .trivial
 .trivial
end
section
variable{lev:Nat->Lv}{cl:Nat->List Wd->Me->Rz}{cd:Nat->List Dat->Rd}{lo:Nat}{RR:Nat->Prop}
set_option tactic.hygienic true in
def Inv.bindSlot{m:Me}{de:aS}{lv:List Lv}{env:En}{A:Nat->List Nat}(I:Inv lo RR m de lv env A)(i:Nat){d:Dat}{w:Wd}(h:ag (zO RR A) m d w):Inv lo RR m (de.set i (some d)) (lv.set i (ba d)) (env.set i (some w)) (aH A i [])/\bb A m (aH A i []) m:=by
 refine I.store (Le.refl m) i (B:=[]) ?_ QM (by simp);unfold ba;split
 .next f=>exact h.flat d w f
 .exact ⟨ag.frame (λx o r z=>⟨⟨.inl r,by simp⟩,z⟩) _ _ h,rfl⟩
set_option tactic.hygienic true in
theorem wJ (hb:∀x w m de lv env A,Inv lo RR m de lv env A->ag (zO RR A) m x w->aA lo RR A m (bw w env m) (bd x de lv)):
  ∀(ds:List Dat) (xs:List Wd) (m:Me) (de:aS) (lv:List Lv) (env:En) (A:Nat->List Nat),Inv lo RR m de lv env A->aa (zO RR A) m ds xs->aA lo RR A m (wR bw xs env m) (zq bd ds de lv)
 |[],xs,m,de,lv,env,A,I,r=>by
  rw[r.nil_inv];exact⟨env,m,A,rfl,I,bb.refl A m⟩
 |d::ds,xs,m,de,lv,env,A,I,r=>by
  obtain⟨x,xs,rfl,a,b⟩:=r.cons_inv;have h:=hb d x m de lv env A I a;unfold wR zq;cases z:bd d de lv with
  |next d1 l1=>
   rw[z]at h;obtain⟨e1,m1,A1,h1,I1,K1⟩:=h;rw[h1];exact aA.keep K1 (wJ hb ds xs m1 d1 l1 e1 A1 I1 (K1.repL b))
  |cont d1 l1=>
   rw[z]at h;obtain⟨e1,m1,A1,h1,I1,K1⟩:=h;rw[h1];exact aA.keep K1 (wJ hb ds xs m1 d1 l1 e1 A1 I1 (K1.repL b))
  |brk d1 l1=>
   rw[z]at h;obtain⟨e1,m1,A1,h1,I1,K1⟩:=h;rw[h1];exact⟨e1,m1,A1,rfl,I1,K1⟩
  |ret d l=>
   rw[z]at h;obtain⟨w,m1,B,h1,k⟩:=h;rw[h1];exact⟨w,m1,B,rfl,k⟩
  |exc c d=>
   rw[z]at h;obtain⟨w,e,m1,h1,k⟩:=h;rw[h1];exact⟨w,e,m1,rfl,k⟩
  |no=>trivial
set_option tactic.hygienic true in
theorem v9 (hb:∀x w m de lv env A,Inv lo RR m de lv env A->ag (zO RR A) m x w->aA lo RR A m (bw w env m) (bd x de lv)):
  ∀(ds:List Dat) (i k:Nat) (m:Me) (de:aS) (lv:List Lv) (env:En) (A:Nat->List Nat),Inv lo RR m de lv env A->(∀k,l∉A k)->m[l]?=some (.lst xs0)->aa (zO RR A) m ds (xs0.drop i)->i+ds.length=xs0.length->ds.length<k->aA lo RR A m (x8 bw l k i env m) (zq bd ds de lv)
 |[],i,0,m,de,lv,env,A,I,hl,hm,r,hi,hk=>by simp at hk
 |d::ds,i,0,m,de,lv,env,A,I,hl,hm,r,hi,hk=>by simp at hk
 |[],i,k+1,m,de,lv,env,A,I,hl,hm,r,hi,hk=>by
  unfold x8 zq zn;rw[hm];simp only;rw[QE (by simp at hi;lia)];exact⟨env,m,A,rfl,I,bb.refl A m⟩
 |d::ds,i,k+1,m,de,lv,env,A,I,hl,hm,r,hi,hk=>by
  obtain⟨x,q,e0,a,b⟩:=r.cons_inv;have hx:xs0[i]?=some x:=by
   have:(xs0.drop i)[0]?=some x:=by rw[e0];rfl
   simpa using this
  have hr:q=xs0.drop (i+1):=by
   have:(xs0.drop i).drop 1=q:=by rw[e0];rfl
   rw[<-this,WD]
  rw[hr]at b;have hi':i+1+ds.length=xs0.length:=by simp at hi;lia
  have hk':ds.length<k:=by simp at hk;lia
  have h:=hb d x m de lv env A I a;unfold x8 zq zn;rw[hm];simp only;rw[hx];simp only;cases z:bd d de lv with
  |next d1 l1=>
   rw[z]at h;obtain⟨e1,m1,A1,h1,I1,K1⟩:=h;rw[h1];exact aA.keep K1 (v9 hb ds (i+1) k m1 d1 l1 e1 A1 I1 (K1.1 l _ hl hm).1 (K1.1 l _ hl hm).2 (K1.repL b) hi' hk')
  |cont d1 l1=>
   rw[z]at h;obtain⟨e1,m1,A1,h1,I1,K1⟩:=h;rw[h1];exact aA.keep K1 (v9 hb ds (i+1) k m1 d1 l1 e1 A1 I1 (K1.1 l _ hl hm).1 (K1.1 l _ hl hm).2 (K1.repL b) hi' hk')
  |brk d1 l1=>
   rw[z]at h;obtain⟨e1,m1,A1,h1,I1,K1⟩:=h;rw[h1];exact⟨e1,m1,A1,rfl,I1,K1⟩
  |ret d l=>
   rw[z]at h;obtain⟨w,m1,B,h1,k⟩:=h;rw[h1];exact⟨w,m1,B,rfl,k⟩
  |exc c d=>
   rw[z]at h;obtain⟨w,e,m1,h1,k⟩:=h;rw[h1];exact⟨w,e,m1,rfl,k⟩
  |no=>trivial
set_option tactic.hygienic true in
def pV{bw:Wd->En->Me->Rs}{bd:Dat->aS->List Lv->bY}(H:bF lev cl cd)(hb:∀x w m de lv env A,Inv lo RR m de lv env A->ag (zO RR A) m x w->aA lo RR A m (bw w env m) (bd x de lv)){m:Me}{de:aS}{lv:List Lv}{env:En}{A:Nat->List Nat}(I:Inv lo RR m de lv env A)(it:Ex):
  aA lo RR A m ((af cl it env m).bindS env λw m1=>fx bw w env m1) ((am cd it de).bindS λd=>match cB d with
   |some xs=>zq bd xs de (if aw d then lv else xu it de lv)
   |none=>.no):=by
 have run:∀(d:Dat) (w:Wd) (m1:Me) (xs:List Dat) (lv1:List Lv) (A1:Nat->List Nat),cB d=some xs->Inv lo RR m1 de lv1 env A1->ag (zO RR A1) m1 d w->aA lo RR A1 m1 (fx bw w env m1) (zq bd xs de lv1):=by
  intro d w m1 xs lv1 A1 hi I1 r;cases d with
  |tup ds=>cases hi;obtain⟨ys,rfl,r1⟩:=ah.mp r;exact wJ hb _ _ _ _ _ _ _ I1 r1
  |scr ns=>cases hi;rw[bi.mp r];exact wJ hb _ _ _ _ _ _ _ I1 (eQ ns)
  |lst ds=>
   simp only[cB]at hi;split at hi
   .next z=>
    cases hi;obtain⟨l,ys,rfl,hR,hm,r1⟩:=az.mp r;have:=r1.len;exact v9 hb _ 0 (aq+1) m1 de lv1 env A1 I1 hR.2 hm (by simpa using r1) (by lia) (by lia)
   .cases hi
  |_=>cases hi
 cases z:am cd it de with
 |no=>trivial
 |exc c d=>
  have:=I.bindE H.r it (f:=λw m1=>fx bw w env m1) (g:=λd=>.no) (λ_ _ _ _ _ _ _=>trivial);rw[z]at this;exact this
 |ok d=>
  show aA lo RR A m _ (match cB d with
   |some xs=>zq bd xs de (if aw d then lv else xu it de lv)
   |none=>.no)
  cases hi:cB d with
  |none=>trivial
  |some xs=>
   simp only;split
   .next f=>
    obtain⟨w,m1,h2,l1,r1⟩:=I.ok H.r z (Le.refl m);rw[h2];exact aA.keep (kF l1) (run d w m1 xs lv A hi (I.ext l1) (bh.rep d w [] (by simp) (r1.flat d w f)))
   .obtain ⟨A1,I1,K1,_,h⟩:=I.relEv H it;rw[z]at h;obtain⟨w,m1,h2,l1,r1⟩:=h.sim;rw[h2];refine aA.keep (K1.trans (kF l1)) (run d w m1 xs _ A1 hi (I1.ext l1) (ag.frame (λx o r z=>⟨?_,z⟩) _ _ r1));rcases r with r|r
    .exact r
    .exact ⟨I.rr x (Qu I.lom r),λk hk=>by have:=(I1.bd k x hk).2;lia⟩
set_option tactic.hygienic true in
def EE(H:bF lev cl cd){bw:Wd->En->Me->Rs}{bd:Dat×Dat->aS->List Lv->bY}(hb:∀(p:Dat×Dat) w1 w2 m de lv env A,Inv lo RR m de lv env A->ag (zO RR A) m p.1 w1->ag (zO RR A) m p.2 w2->aA lo RR A m (bw (.tup [w1,w2]) env m) (bd p de lv)){m:Me}{de:aS}{lv:List Lv}{env:En}{A:Nat->List Nat}(I:Inv lo RR m de lv env A)(a b:Ex):
  aA lo RR A m ((af cl a env m).bindS env λx m1=>(af cl b env m1).bindS env λy m2=>yH bw (zL .zip x y) (aq+1) 0 env m2) ((am cd a de).okS λx=>(am cd b de).okS λy=>match yB .zip x y with
   |some ps=>zq bd ps de (bg (zj a++zj b) lv)
   |none=>.no):=by
 obtain⟨A1,I1,K1,hA,_,_⟩:=Inv.downs (zj a++zj b) I;have hno:∀i∈zj a++zj b,∀l,(bg (zj a++zj b) lv)[i]?=some l->l=.no:=λi hi l hl=>by
  rw[yM]at hl;split at hl
  .exact (Option.some.inj hl).symm
  .next q=>
   have:i<lv.length:=(Qa.mp hl).1;exact Lr ⟨hi,this⟩ q
 have E:=wI I1 hno;have hR:∀{n:Nat}{x:Nat},m.length<=n->Rf (zO RR A1) n x->zO RR A1 x:=λ{n x} hn r=>by
  rcases r with r|r
  .exact r
  .exact ⟨I1.rr x (Qu I1.lom (Qu hn r)),λk hk=>by have:=(I1.bd k x hk).2;lia⟩
 refine aA.okS λx hx=>aA.okS λy hy=>?_;cases hp:yB .zip x y with
 |none=>trivial
 |some ps=>
  have ha:=za H.r a (zO RR A1) m de env E.left;rw[hx]at ha;obtain⟨w1,m1,e1,l1,r1⟩:=ha;have r1':ag (zO RR A1) m1 x w1:=ag.frame (λl o r z=>⟨hR (Qg _) r,z⟩) _ _ r1;have hb2:=za H.r b (zO RR A1) m1 de env (E.right.up (λ_ h=>h) l1);rw[hy]at hb2;obtain⟨w2,m2,e2,l2,r2⟩:=hb2;have r2':ag (zO RR A1) m2 y w2:=ag.frame (λl o r z=>⟨hR l1.len r,z⟩) _ _ r2;have r1'':ag (zO RR A1) m2 x w1:=ag.frame (λl o r z=>⟨r,l2 l o z⟩) _ _ r1';rw[e1];simp only[Rz.bindS];rw[e2];simp only;have hz:=(wG hp r1'' r2').2;refine aA.keep (K1.trans (kF (l1.trans l2))) (gf hb (g:=zL .zip w1 w2) (all:=ps) (P:=λm A=>ag (zO RR A) m x w1/\ag (zO RR A) m y w2) (λm A m1 A1 h K=>⟨K.rep h.1,K.rep h.2⟩) (λm A h=>?_) ps 0 (aq+1) m2 de _ env A1 (I1.ext (l1.trans l2)) ⟨r1'',r2'⟩ rfl (by simp) (by lia));have q:=(wG hp h.1 h.2).1 m (Le.refl m);exact⟨q.1,q.2 _ (Qg _)⟩
def Inv.drop{m:Me}{de:aS}{lv:List Lv}{env:En}{A:Nat->List Nat}(I:Inv lo RR m de lv env A)(i:Nat)(hi:i<de.length):Inv lo RR m (de.set i none) (lv.set i .full) env A:=by
 refine⟨by simp[I.len],by simp[I.lvl],I.rr,I.lom,λk d l h1 h2=>?_,I.nd,I.dj,I.bd⟩;by_cases e:i=k
 .subst e;rw[QO,Lp rfl]at h1;split at h1
  .cases h1
  .cases h1
 .rw[QA e]at h1 h2;exact I.slot k d l h1 h2
theorem pU (a:bh m d x B):∀{ps:List (List Int×Dat)}{qs:List (List Int×Wd)}{C:List Nat},ps.map Prod.fst=qs.map Prod.fst->au m (ps.map Prod.snd) (qs.map Prod.snd) C ->
  (zw (k,d) ps).map Prod.fst=(zw (k,x) qs).map Prod.fst/\∃D,au m ((zw (k,d) ps).map Prod.snd) ((zw (k,x) qs).map Prod.snd) D/\D.Perm (B++C)
 |[],[],C,_,r=>⟨rfl,_,.cons a r,.refl _⟩
 |[],_::_,_,h,_=>by cases h
 |_::_,[],_,h,_=>by cases h
 |p::ps,q::qs,C,h,r=>by
  obtain⟨h1,h2⟩:=List.cons.inj (show p.1::ps.map Prod.fst=q.1::qs.map Prod.fst from h);show(if bZ k p.1 then(k,d)::p::ps else p::zw (k,d) ps).map Prod.fst=(if bZ k q.1 then(k,x)::q::qs else q::zw (k,x) qs).map Prod.fst/\∃D,au m ((if bZ k p.1 then(k,d)::p::ps else p::zw (k,d) ps).map Prod.snd) ((if bZ k q.1 then(k,x)::q::qs else q::zw (k,x) qs).map Prod.snd) D/\D.Perm (B++C);rw[h1];cases bZ k q.1 with
  |true=>exact⟨Ls (k::·) h,_,.cons a r,.refl _⟩
  |false=>
   obtain⟨_,_,B1,C1,e,rfl,r1,r2⟩:=au.cons_inv (show au m (p.2::ps.map Prod.snd) (q.2::qs.map Prod.snd) C from r);cases e;obtain⟨i1,D,i2,i3⟩:=pU a h2 r2;refine⟨by show p.1::(zw (k,d) ps).map Prod.fst=q.1::(zw (k,x) qs).map Prod.fst;rw[h1,i1],_,.cons r1 i2,?_⟩;refine(i3.append_left B1).trans ?_;rw[<-Qj,<-Qj];exact Wq.append_right C1
theorem ED:∀{ks:List (List Int)}{ds:List Dat}{xs:List Wd}{C:List Nat},ks.length=ds.length->au m ds xs C ->
  (zG (ks.zip ds)).map Prod.fst=(zG (ks.zip xs)).map Prod.fst/\∃D,au m ((zG (ks.zip ds)).map Prod.snd) ((zG (ks.zip xs)).map Prod.snd) D/\D.Perm C
 |[],[],_,_,_,r=>by obtain⟨rfl,rfl⟩:=r.nil_inv;exact⟨rfl,[],.nil,.refl _⟩
 |[],_::_,_,_,h,_=>by cases h
 |_::_,[],_,_,h,_=>by cases h
 |k::ks,d::ds,xs,C,h,r=>by
  obtain⟨x,us,B1,C1,rfl,rfl,r1,r2⟩:=r.cons_inv;obtain⟨i1,D,i2,i3⟩:=ED (ks:=ks) (Nat.succ.inj h) r2;obtain⟨j1,D2,j2,j3⟩:=pU (k:=k) r1 i1 i2;rw[Wv,Wv,yt,yt];exact⟨j1,D2,j2,j3.trans (i3.append_left B1)⟩
theorem FU:∀{ds:List Dat}{ks:List (List Int)},xA ds=some ks->ks.length=ds.length
 |[],_,h=>by cases h;rfl
 |d::ds,ks,h=>by
  cases d with
  |lst es=>
   have h':(match eT es,xA ds with
    |some k,some ks=>some (k::ks)
    |_,_=>none)=some ks:=h
   cases e1:eT es with
   |none=>simp only[e1]at h';cases h'
   |some k=>
    cases e2:xA ds with
    |none=>simp only[e1,e2]at h';cases h'
    |some ks'=>
     simp only[e1,e2]at h';cases h';exact Ls (·+1) (FU e2)
  |_=>cases h
theorem pT:∀{ks:List (List Int)}{ds:List Dat}{xs:List Wd}{A:List Nat},au m ds xs A->A.Nodup->cb ks ds q=some d->∃x B,cb ks xs q=some x/\bh m d x B/\B.Nodup/\∀b∈B,b∈A
 |[],_,_,_,_,_,h=>by cases h
 |k::ks,[],_,_,_,_,h=>by cases h
 |k::ks,e::ds,xs,A,o,nd,h=>by
  obtain⟨x,r,B,C,rfl,rfl,o1,o2⟩:=o.cons_inv;have h':(if k=q then some e else cb ks ds q)=some d:=h;obtain⟨n1,n2,_⟩:=QQ.mp nd;by_cases c:k=q
  .rw[Lp c]at h';cases h';exact⟨x,B,Lp c,o1,n1,λb hb=>Q5 _ hb⟩
  .rw[Lq c]at h';obtain⟨y,B',e1,e2,e3,e4⟩:=pT o2 n2 h';exact⟨y,B',(Lq c).trans e1,e2,e3,λb hb=>Qy _ (e4 b hb)⟩
def EC (H:bF lev cl cd)(I:Inv lo RR m de lv env A)(hj:lv[j]?=some .full)(z:am cd (.dget (.var j) k) de=.ok d)(h2:af cl (.dget (.var j) k) env m=.ok w m1):∃B,bv (λx=>RR x/\x∉B) m1 .full d w B/\B.Nodup/\∀b∈B,lo<=b:=by
 have z':((am cd (.var j) de).bind λx=>(am cd k de).bind λy=>wT x y)=.ok d:=z;have h':((af cl (.var j) env m).bind λx m1=>(af cl k env m1).bind λy m2=>kQ x y m2)=.ok w m1:=h2;cases q1:am cd (.var j) de with
 |no=>rw[q1]at z';cases z'
 |exc _ _=>rw[q1]at z';cases z'
 |ok dj=>
  cases q2:am cd k de with
  |no=>rw[q1,q2]at z';cases z'
  |exc _ _=>rw[q1,q2]at z';cases z'
  |ok dk=>
   rw[q1,q2]at z';simp only[Rd.bind]at z';obtain⟨wj,ej,oj⟩:=I.slot j dj .full (ql q1) hj;obtain⟨wk,mk,e2,l2,r2⟩:=I.ok H.r q2 (Le.refl m);cases dj with
   |dct ks ds=>
    have z2:(match (yI dk).bind (cb ks ds)with|some v=>Rd.ok v|none=>.no)=.ok d:=z';cases q3:yI dk with
    |none=>rw[q3]at z2;cases z2
    |some q=>
     rw[q3]at z2;simp only[QS]at z2;cases q4:cb ks ds q with
     |none=>rw[q4]at z2;cases z2
     |some v=>
      rw[q4]at z2;cases z2;obtain⟨l,xs,B,rfl,hA,hm,o2⟩:=bP.mp oj;have nd:=I.nd j;rw[hA,QV]at nd;obtain⟨x,B',a1,a2,a3,a4⟩:=pT o2 nd.2 q4;rw[vI ej m]at h';simp only[Rz.bind,e2]at h';have h3:(match mk[l]? with
       |some (.dct ks ws)=>match (ky wk).bind (cb ks ws)with
        |some v=>Rz.ok v mk
        |none=>.no
       |_=>.no)=.ok w m1:=h'
      rw[l2 l _ hm]at h3;simp only[xP r2 q3,QS,a1]at h3;cases h3;refine⟨B',bh.frame _ _ B' (λb hb o ho=>l2 b o ho) a2,a3,λb hb=>(I.bd j b ?_).1⟩;rw[hA];exact Qk _ (a4 b hb)
   |_=>cases z'
set_option tactic.hygienic true in
def CC (H:bF lev cl cd)(I:Inv lo RR m de lv env A)(e:Ex):aA lo RR A m (bB cl (.ret e) env m) (aM lev cd (.ret e) de lv):=by
 show aA _ _ _ _ ((af cl e env m).bindS env _) ((am cd e de).bindS _);cases z:am cd e de with
 |no=>trivial
 |exc c d=>
  have:=I.bindE H.r e (f:=λw m1=>.ret w m1) (g:=λd=>.no) (λ_ _ _ _ _ _ _=>trivial);rw[z]at this;exact this
 |ok d=>
  obtain⟨w,m1,h2,l1,r1⟩:=I.ok H.r z (Le.refl m);rw[h2];show aA lo RR A m (.ret w m1) (.ret d (eL lev e d lv));have kp:(∀(x:Nat) o,(∀i,x∉A i)->m[x]?=some o->m1[x]?=some o)/\m.length<=m1.length:=⟨λx o _ b=>l1 x o b,l1.len⟩;have no:bv (λx=>RR x/\x∉([]:List Nat)) m1 .no d w []:=⟨ag.frame (λx o r z=>⟨⟨r,by simp⟩,z⟩) _ _ r1,rfl⟩;by_cases f:aw d=true
  .refine ⟨w,m1,[],rfl,kp,?_,QM,by simp⟩;unfold eL;rw[Lp f];exact r1.flat d w f
  .unfold eL;rw[Lq f];split
   .next i=>
    have hdi:de[i]?=some (some d):=by
     exact ql z
    obtain⟨l,hl⟩:=I.getlv hdi;obtain⟨w',he,ro⟩:=I.slot i d l hdi hl;rw[vI he m]at h2;cases h2;rw[hl];refine⟨_,_,A i,rfl,kp,?_,I.nd i,λb hb=>(I.bd i b hb).1⟩;exact ro.frame (λx o r z=>⟨⟨r.1,r.2 i⟩,z⟩) (λ_ _ _ z=>z)
   .next a b=>
    split
    .next c=>
     obtain⟨hab,ha,hb⟩:=c;have:∃da db,de[a]?=some (some da)/\de[b]?=some (some db)/\d=.tup [da,db]:=by
      have hz:am cd (.tup (.pair (.var a) (.pair (.var b) .unit))) de=((am cd (.var a) de).bind λx=>((am cd (.var b) de).bind λy=>.ok (.tup [y])).bind λy=>.ok (.tup (x::zJ y))).bind λx=>if(zJ x).length<=aq then .ok (.tup (zJ x))else .no:=rfl;rw[hz]at z;cases q1:de[a]? with
      |none=>rw[yR (.inl q1)]at z;cases z
      |some o=>cases o with
       |none=>rw[yR (.inr q1)]at z;cases z
       |some da=>
        rw[xO q1]at z;cases q2:de[b]? with
        |none=>rw[yR (.inl q2)]at z;cases z
        |some o=>cases o with
         |none=>rw[yR (.inr q2)]at z;cases z
         |some db=>
          rw[xO q2]at z;simp[Rd.bind,zJ,aq]at z;exact⟨da,db,rfl,rfl,z.symm⟩
     obtain⟨da,db,h3,h4,rfl⟩:=this;obtain⟨wa,ea,oa⟩:=I.slot a da .full h3 ha;obtain⟨wb,eb,ob⟩:=I.slot b db .full h4 hb;have hw:af cl (.tup (.pair (.var a) (.pair (.var b) .unit))) env m=.ok (.tup [wa,wb]) m:=by
      show(((af cl (.var a) env m).bind λx m1=>((af cl (.var b) env m1).bind λy m2=>.ok (.tup [y]) m2).bind λy m2=>.ok (.tup (x::zz y)) m2).bind λx m1=>if(zz x).length<=aq then .ok (.tup (zz x)) m1 else .no)=_;rw[vI ea m];simp only[Rz.bind];rw[vI eb m];simp[zz,aq]
     rw[hw]at h2;cases h2;refine⟨_,_,A a++(A b++[]),rfl,kp,bG.mpr ⟨_,rfl,.cons oa (.cons ob .nil)⟩,?_,?_⟩
     .rw[QW];exact QQ.mpr ⟨I.nd a,I.nd b,λx hx y hy e=>hab (I.dj a b x hx (by rw[e];exact hy))⟩
     .intro x hx;rw[QW]at hx;rcases Qx.mp hx with q|q
      .exact (I.bd a x q).1
      .exact (I.bd b x q).1
    .exact ⟨w,m1,[],rfl,kp,no,QM,by simp⟩
   .next j k=>
    split
    .next hj=>
     obtain⟨B,ro,nd,hB⟩:=EC H I hj z h2;exact⟨w,m1,B,rfl,kp,ro,nd,hB⟩
    .exact ⟨w,m1,[],rfl,kp,no,QM,by simp⟩
   .obtain ⟨B,ro,nd,hB⟩:=I.own H z h2;exact⟨w,m1,B,rfl,kp,ro,nd,λb hb=>Qu I.lom (hB b hb)⟩
set_option tactic.hygienic true in
theorem xF(H:bF lev cl cd):∀(s:Sm) (m:Me) (de:aS) (lv:List Lv) (env:En) (A:Nat->List Nat),Inv lo RR m de lv env A->aA lo RR A m (bB cl s env m) (aM lev cd s de lv)
 |.skip,m,de,lv,env,A,I=>by show aA _ _ _ _ (.next env m) (.next de lv);exact⟨env,m,A,rfl,I,bb.refl A m⟩
 |.seq a b,m,de,lv,env,A,I=>by
  cases hv:yj a b with
  |some t=>
   obtain⟨i,j,k,e0,k2,e⟩:=t;obtain⟨rfl,rfl,hij⟩:=FV hv;rw[qx,hv];exact Bu H I hij
  |none=>
   have h:=xF H a m de lv env A I;rw[qx,hv];show aA _ _ _ _ (match bB cl a env m with
    |.next e1 m1=>bB cl b e1 m1
    |r=>r) _
   cases z:aM lev cd a de lv with
   |next d1 l1=>
    rw[z]at h;obtain⟨e1,m1,A1,h1,I1,K1⟩:=h;rw[h1];exact aA.keep K1 (xF H b m1 d1 l1 e1 A1 I1)
   |cont d1 l1=>
    rw[z]at h;obtain⟨e1,m1,A1,h1,I1,K1⟩:=h;rw[h1];exact⟨e1,m1,A1,rfl,I1,K1⟩
   |brk d1 l1=>
    rw[z]at h;obtain⟨e1,m1,A1,h1,I1,K1⟩:=h;rw[h1];exact⟨e1,m1,A1,rfl,I1,K1⟩
   |ret d l=>
    rw[z]at h;obtain⟨w,m1,B,h1,k⟩:=h;rw[h1];exact⟨w,m1,B,rfl,k⟩
   |exc c d=>
    rw[z]at h;obtain⟨w,e,m1,h1,k⟩:=h;rw[h1];exact⟨w,e,m1,rfl,k⟩
   |no=>trivial
 |.asg i e,m,de,lv,env,A,I=>CI H I i e
 |.dput j k e,m,de,lv,env,A,I=>EH H I j k e
 |.forD i x body,m,de,lv,env,A,I=>EG (cl:=cl) (bw:=λx e m=>bB cl body (e.set i (some x)) m) (bd:=λx de lv=>aM lev cd body (de.set i (some x)) (lv.set i (ba x))) (λx w m de lv env A I r=>by
   obtain⟨I1,K1⟩:=I.bindSlot i r;exact aA.keep K1 (xF H body m _ _ _ _ I1)) I x
 |.forI i j x body,m,de,lv,env,A,I=>EF (cl:=cl) (bw:=zI (cw i j) (bB cl body)) (bd:=λ(p:Dat×Dat) de lv=>aM lev cd body ((de.set i (some p.1)).set j (some p.2)) ((lv.set i (ba p.1)).set j (ba p.2))) (λp w1 w2 m de lv env A I r1 r2=>by
   obtain⟨I1,K1⟩:=I.bindSlot i r1;obtain⟨I2,K2⟩:=I1.bindSlot j (K1.rep r2);exact aA.keep (K1.trans K2) (xF H body m _ _ _ _ I2)) I x
 |.aug i op e,m,de,lv,env,A,I=>CF H I i op e
 |.ite c a b,m,de,lv,env,A,I=>by
  refine I.bindE H.r c λd w m1 _ _ l1 r1=>?_;cases d with
  |bl t=>
   rw[ak.mp r1];cases t with
   |true=>exact xF H a m1 de lv env A (I.ext l1)
   |false=>exact xF H b m1 de lv env A (I.ext l1)
  |_=>trivial
 |.forv i it body,m,de,lv,env,A,I=>by
  refine pV H (λx w m de lv env A I r=>?_) I it;obtain⟨I1,K1⟩:=I.bindSlot i r;exact aA.keep K1 (xF H body _ _ _ _ _ I1)
 |.fort i j it body,m,de,lv,env,A,I=>by
  refine pV H (λx w m de lv env A I r=>?_) I it;split
  .next a b=>
   obtain⟨xs,rfl,r1⟩:=ah.mp r;obtain⟨x,r2,rfl,ra,rb⟩:=r1.cons_inv;obtain⟨y,r3,rfl,rb,rn⟩:=rb.cons_inv;rw[rn.nil_inv];obtain⟨I1,K1⟩:=I.bindSlot i ra;obtain⟨I2,K2⟩:=I1.bindSlot j (K1.rep rb);exact aA.keep (K1.trans K2) (xF H body _ _ _ _ _ I2)
  .trivial
 |.forZ i j a b body,m,de,lv,env,A,I=>by
  refine EE H (λp w1 w2 m de lv env A I ra rb=>?_) I a b;obtain⟨I1,K1⟩:=I.bindSlot i ra;obtain⟨I2,K2⟩:=I1.bindSlot j (K1.rep rb);exact aA.keep (K1.trans K2) (xF H body _ _ _ _ _ I2)
 |.ret e,m,de,lv,env,A,I=>CC H I e
 |.expr e,m,de,lv,env,A,I=>by
  have dflt:aA lo RR A m (bB cl (.expr e) env m) ((am cd e de).bindS λ_=>.next de lv):=by
   exact I.bindE H.r e λd w m1 _ _ l1 _=>⟨env,m1,A,rfl,I.ext l1,bb.refl A m1⟩
  cases e with
  |meth n o a=>
   cases n with
   |append=>
    cases o with
    |var j=>
     cases a with
     |pair e u=>cases u with
      |unit=>exact Ea H I j e
      |_=>exact trivial
     |_=>exact trivial
    |_=>exact trivial
   |clear=>
    cases o with
    |var j=>
     cases a with
     |unit=>exact D9 (cl:=cl) (cd:=cd) (lev:=lev) I j
     |_=>exact trivial
    |_=>exact trivial
  |_=>exact dflt
 |.never,m,de,lv,env,A,I=>by exact trivial
end
def gk{α β:Type}(f:α->β)(z:β)(xs:List α)(n i:Nat):(xs.map f++Qq n z)[i]?=if i<xs.length then(xs[i]?).map f else if i<xs.length+n then some z else none:=by
 rw[List.getElem?_append,Qp];split
 .rw[Qs]
 .rw[Vo];by_cases h:i-xs.length<n
  .rw[Lp h,Lp (by lia)]
  .rw[Lq h,Lq (by lia)]
set_option tactic.hygienic true in
def FT (fn:Fn)(h:aa R m ds ws):Inv m.length (Rf R m.length) m (xw fn ds) (xD fn ds) (xV fn ws) (λ_=>[]):=by
 have hl:=h.len;refine⟨?_,?_,λl hl=>.inr hl,Qg _,?_,λ_=>QM,(λ_ _ _ h=>by cases h),(λ_ _ h=>by cases h)⟩
 .simp[xw,xV,hl]
 .simp[xw,xD]
 .intro i d l h1 h2;unfold xw at h1;unfold xD at h2;rw[gk]at h1 h2;by_cases hi:i<ds.length
  .rw[Lp hi]at h1 h2;obtain⟨d',e1,e2⟩:=QF.mp h1;cases e2;rw[e1]at h2;cases h2;obtain⟨w,hw,r⟩:=h.get e1;refine⟨w,?_,?_⟩
   .unfold xV;rw[gk,Lp (by lia),hw];rfl
   .unfold ba;split
    .next f=>exact r.flat d w f
    .exact ⟨ag.frame (λx o r z=>⟨⟨.inl r,λ_ h=>by cases h⟩,z⟩) _ _ r,rfl⟩
  .rw[Lq hi]at h1;split at h1<;>cases h1
set_option tactic.hygienic true in
def CB (H:bF lev cl cd)(k:Nat)(fn:Fn)(ds:List Dat)(ws:List Wd)(R:Nat->Prop)(m:Me)(h:aa R m ds ws):aJ R m (wr lev k) (gN cl fn ws m) (xh lev cd k fn ds):=by
 unfold gN xh;rw[h.len];split
 .have s:=xF H fn.body m _ _ _ _ (FT fn h);cases z:aM lev cd fn.body (xw fn ds) (xD fn ds)with
  |next d1 l1=>
   rw[z]at s;obtain⟨e1,m1,A1,h1,I1,K1⟩:=s;rw[h1];refine⟨.non,m1,[],rfl,λl o q=>(K1.1 l o (λ_ h=>by cases h) q).2,?_,QM,by simp⟩;unfold wr bv bh;simp[aw]
  |ret d l=>
   rw[z]at s;obtain⟨w,m1,B,h1,⟨kp,_⟩,ro,nd,hB⟩:=s;rw[h1];have le:Le m m1:=λl o q=>kp l o (λ_ h=>by cases h) q;show aJ R m (wr lev k) (.ok w m1) (if aw d || jN l (lev k)then .ok d else .no);split
   .next c=>
    by_cases f:aw d=true
    .refine ⟨w,m1,[],rfl,le,?_,QM,by simp⟩;unfold wr;rw[Lp f];exact(ro.rep (R':=λ_=>True) (λ_ _=>trivial) (λ_ _=>trivial)).flat d w f
    .have g:jN l (lev k)=true:=by simpa [f]using c
     unfold aJ wr;simp only[Lq f];cases e:lev k with
     |no=>
      refine⟨w,m1,[],rfl,le,⟨?_,rfl⟩,QM,by simp⟩;exact ro.rep (λx r=>⟨r.1,by simp⟩) (λb hb=>⟨.inr (hB b hb),by simp⟩)
     |top=>
      rw[e]at g;cases l with
      |top=>exact⟨w,m1,B,rfl,le,ro,nd,hB⟩
      |no=>cases g
      |full=>cases g
     |full=>
      rw[e]at g;cases l with
      |full=>exact⟨w,m1,B,rfl,le,ro,nd,hB⟩
      |no=>cases g
      |top=>cases g
   .trivial
  |exc c d=>
   rw[z]at s;obtain⟨w,e,m1,h1,⟨kp,_⟩,r⟩:=s;rw[h1];exact⟨w,m1,rfl,λl o q=>kp l o (λ_ h=>by cases h) q,r⟩
  |brk _ _=>trivial
  |cont _ _=>trivial
  |no=>trivial
 .trivial
theorem sW(lev:Nat->Lv)(T:List Fn):∀d:Nat,bF lev (y9 T d) (jv lev T d)
 |0=>λk ds ws R m h=>trivial
 |d+1=>λk ds ws R m h=>by
  unfold y9 jv;cases T[k]? with
  |none=>trivial
  |some fn=>exact CB (sW lev T d) k fn ds ws R m h
def CA(lev:Nat->Lv)(T:List Fn)(d i:Nat)(ns:List Int)(h:jv lev T d i [.scr ns]=.ok (.bl true)):∃m,y9 T d i [.rol (ns.map Wd.int)] []=.ok (.bl true) m:=by
 have s:=sW lev T d i [.scr ns] [.rol (ns.map Wd.int)] (λ_=>True) [] (.cons (bi.mpr rfl) .nil);rw[h]at s;obtain⟨w,m',h1,_,r⟩:=s.sim;rw[ak.mp r]at h1;exact⟨m',h1⟩
section
variable(lev:Nat->Lv)(cl:Nat->List Dat->Rd)(de:aS)(lv:List Lv)
@[simp]theorem bK(d:Dat)(f:Dat->Rd):(Rd.ok d).bind f=f d:=rfl
@[simp]theorem cj(d:Dat)(f:Dat->bY):(Rd.ok d).bindS f=f d:=rfl
@[simp]theorem i9(d:Dat)(f:Dat->bY):(Rd.ok d).okS f=f d:=rfl
@[simp]theorem zA(i:Int):am cl (.lit (.int i)) de=.ok (.int i):=rfl
@[simp]theorem IG(i:Bool):am cl (.lit (.bl i)) de=.ok (.bl i):=rfl
@[simp]theorem IF:am cl (.lit .non) de=.ok .non:=rfl
@[simp]theorem IE(s:List Nat):am cl (.lit (.str s)) de=.ok (.str s):=rfl
@[simp]theorem qz(op:Bo)(a b:Ex):am cl (.bin op a b) de=(am cl a de).bind λx=>(am cl b de).bind λy=>ym op x y:=rfl
@[simp]theorem pc(op:Co)(a b:Ex):am cl (.cmp op a b) de=(am cl a de).bind λx=>(am cl b de).bind λy=>wm op x y:=rfl
@[simp]theorem zB:am cl .unit de=.ok (.tup []):=rfl
@[simp]theorem zC(a b:Ex):am cl (.pair a b) de=(am cl a de).bind λx=>(am cl b de).bind λy=>.ok (.tup (x::zJ y)):=rfl
@[simp]theorem xj(k:Nat)(a:Ex):am cl (.call k a) de=(am cl a de).bind λx=>cl k (zJ x):=rfl
@[simp]theorem wt(b:dZ)(a:Ex):am cl (.blt b a) de=(am cl a de).bind λx=>xf b (zJ x):=rfl
@[simp]theorem Hv(t:Tg)(a:Ex):am cl (.isi t a) de=(am cl a de).bind λx=>.ok (.bl (iU t x)):=rfl
@[simp]theorem Bt(a b:Ex):am cl (.idx a b) de=(am cl a de).bind λx=>(am cl b de).bind λy=>xg x y:=rfl
@[simp]theorem vd(a:Ex):am cl (.lst a) de=(am cl a de).bind λx=>bo (zJ x):=rfl
@[simp]theorem o9(a:Ex):am cl (.tup a) de=(am cl a de).bind λx=>if(zJ x).length<=aq then .ok (.tup (zJ x))else .no:=rfl
@[simp]theorem xZ(a b c:Ex):am cl (.rng a b c) de=(am cl a de).bind λx=>(am cl b de).bind λy=>(am cl c de).bind λz=>eD x y z:=rfl
def Bs(i:Nat)(d:Dat)(h:de[i]?=some (some d)):am cl (.var i) de=.ok d:=xO h
@[simp]theorem zm(d:Dat)(r:aS):am cl (.var 0) (some d::r)=.ok d:=rfl
@[simp]theorem zr(i:Nat)(d:Option Dat)(r:aS):am cl (.var (i+1)) (d::r)=am cl (.var i) r:=rfl
@[simp]theorem Hu(a:Ex):am cl (.neg a) de=(am cl a de).bind λx=>match x with
  |.int i=>.ok (.int (-i))
  |_=>.no:=rfl
@[simp]theorem Ht(a:Ex):am cl (.not a) de=(am cl a de).bind λx=>match x with
  |.bl b=>.ok (.bl (! b))
  |_=>.no:=rfl
@[simp]theorem oZ(a b:Ex):am cl (.and a b) de=(am cl a de).bind λx=>match x with
  |.bl true=>am cl b de
  |.bl false=>.ok (.bl false)
  |_=>.no:=rfl
@[simp]theorem uk(a b:Ex):am cl (.or a b) de=(am cl a de).bind λx=>match x with
  |.bl false=>am cl b de
  |.bl true=>.ok (.bl true)
  |_=>.no:=rfl
@[simp]theorem HL(p q:Co)(a b c:Ex):am cl (.chain p q a b c) de=(am cl a de).bind λx=>(am cl b de).bind λy=>(wm p x y).bind λz=>match z with
  |.bl true=>(am cl c de).bind λu=>wm q y u
  |.bl false=>.ok (.bl false)
  |_=>.no:=rfl
@[simp]theorem Hs(c a b:Ex):am cl (.ife c a b) de=(am cl c de).bind λx=>match x with
  |.bl true=>am cl a de
  |.bl false=>am cl b de
  |_=>.no:=rfl
@[simp]theorem Hr(a lo:Ex):am cl (.slL a lo) de=(am cl a de).bind λx=>(am cl lo de).bind λy=>match y with
  |.int i=>eI x (some i) none
  |_=>.no:=rfl
def xk(elt it cond:Ex):am cl (.comp elt it cond) de=(am cl it de).bind λx=>match cB x with
  |some xs=>zE (λx=>am cl cond (de++[some x])) (λx=>am cl elt (de++[some x])) xs []
  |none=>.no:=rfl
def jw(k:Kd)(elt a b cond:Ex):am cl (.compP k elt a b cond) de=(am cl a de).bind λx=>(am cl b de).bind λy=>match yB k x y with
  |some ps=>zE (λp=>am cl cond (de++[some p.1]++[some p.2])) (λp=>am cl elt (de++[some p.1]++[some p.2])) ps []
  |none=>.no:=rfl
@[simp]theorem Hq(a b:Int):dr (.int a) (.int b)=decide (a=b):=rfl
@[simp]theorem Ho(a b:List Dat):dr (.tup a) (.tup b)=cr a b:=rfl
@[simp]theorem Br(a b:List Dat):dr (.lst a) (.lst b)=cr a b:=rfl
@[simp]theorem HK(k:Nat)(a:Int):xC (k+1) (.int a)=true:=rfl
@[simp]theorem HJ(k:Nat)(a:List Dat):xC (k+1) (.tup a)=bC k a:=rfl
@[simp]theorem EB(k:Nat)(a:List Dat):xC (k+1) (.lst a)=bC k a:=rfl
@[simp]theorem Iz(k:Nat):bC k []=true:=rfl
@[simp]theorem ID(k:Nat)(d:Dat)(a:List Dat):bC k (d::a)=(xC k d&&bC k a):=rfl
theorem gl(k:Nat):∀(a:List Dat),bC k a=a.all (xC k)
 |[]=>by simp
 |d::a=>by simp[gl k a]
@[simp]theorem Cz:yD=11+1:=rfl
@[simp]theorem uK(i j:Int):wm .lt (.int i) (.int j)=.ok (.bl (decide (i<j))):=rfl
@[simp]theorem oE(i j:Int):wm .le (.int i) (.int j)=.ok (.bl (decide (i<=j))):=rfl
@[simp]theorem uL(i j:Int):wm .gt (.int i) (.int j)=.ok (.bl (decide (j<i))):=rfl
@[simp]theorem oD(i j:Int):wm .ge (.int i) (.int j)=.ok (.bl (decide (j<=i))):=rfl
@[simp]theorem uM(i j:Int):wm .eq (.int i) (.int j)=.ok (.bl (decide (i=j))):=rfl
@[simp]theorem uJ(i j:Int):wm .ne (.int i) (.int j)=.ok (.bl (! decide (i=j))):=rfl
@[simp]theorem Hn(i j:Int):ym .add (.int i) (.int j)=.ok (.int (i+j)):=rfl
@[simp]theorem Hm(i j:Int):ym .sub (.int i) (.int j)=.ok (.int (i-j)):=rfl
def Cy(i j:Int)(h:small i=true):ym .mul (.int i) (.int j)=.ok (.int (i*j)):=by simp[ym,h]
def Cw(i j:Int)(h:0<j)(k:j<1073741824):ym .fdiv (.int i) (.int j)=.ok (.int (i/j)):=by simp[ym,h,k]
def jx(i j:Int)(h:0<j):ym .mod (.int i) (.int j)=.ok (.int (i%j)):=by simp[ym,h]
@[simp]theorem zu(xs:List Dat):zJ (.tup xs)=xs:=rfl
@[simp]theorem Ib(xs:List Dat):xf .len [.lst xs]=.ok (.int xs.length):=rfl
@[simp]theorem Ia(xs:List Dat):xf .len [.tup xs]=.ok (.int xs.length):=rfl
@[simp]theorem H0(ns:List Int):xf .len [.scr ns]=.ok (.int ns.length):=by simp[xf,yY]
@[simp]theorem Hl(b:Bool):xf .int [.bl b]=.ok (.int (b2i b)):=rfl
def yr (h:xs.length<=aq):bo xs=.ok (.lst xs):=by unfold bo;rw[Lp h]
def oY (h:i<n):ix n (i:Int)=some i:=by unfold ix;rw[Lp (by lia),Lp (by lia)];simp
def pS {i:Nat}(h:xs[i]?=some d):xg (.lst xs) (.int (i:Int))=.ok d:=by
 have:=(Qa.mp h).1;simp[xg,yY,oY this,h]
def oX {a b:Int}(h:-aq<=a/\a<=aq/\-aq<=b/\b<=aq/\(c=1\/c=-1)):eD (.int a) (.int b) (.int c)=.ok (.tup (yA a c (fA a b c))):=by
 simp only[eD];rw[Lp h]
@[simp]theorem wu(a c:Int)(n:Nat):(yA a c n).length=n:=by simp[yA]
@[simp]theorem wK(a c:Int):∀(n:Nat),aV (yA a c n)=true:=by
 intro n;unfold yA;generalize QL n=l
 induction l with
 |nil=>rfl
 |cons x l ih=>simp[aV,aw,ih]
@[simp]theorem vJ(xs:List Dat):aw (.tup xs)=aV xs:=by rw[aw]
@[simp]theorem jy(xs:List Dat):aw (.lst xs)=false:=by rw[aw]
@[simp]theorem HI(i:Int):aw (.int i)=true:=by rw[aw]
@[simp]theorem HZ(i:Bool):aw (.bl i)=true:=by rw[aw]
@[simp]theorem HH:aw .non=true:=by rw[aw]
@[simp]theorem HG(s:List Nat):aw (.str s)=true:=by rw[aw]
@[simp]theorem HF(s:List Int):aw (.scr s)=true:=by rw[aw]
@[simp]theorem Iy:aV []=true:=by rw[aV]
@[simp]theorem IC(d:Dat)(ds:List Dat):aV (d::ds)=(aw d&&aV ds):=by rw[aV]
def FS(a b:List Dat):aV (a++b)=(aV a&&aV b):=by
 induction a with
 |nil=>simp
 |cons x a ih=>simp[ih,Bool.and_assoc]
@[simp]theorem IB(l:List Int):aV (l.map Dat.int)=true:=by
 induction l with
 |nil=>rfl
 |cons x l ih=>simp[ih]
@[simp]theorem x5(xs:List Dat):cB (.tup xs)=some xs:=rfl
@[simp]theorem Hk(xs:List Int):cB (.scr xs)=some (xs.map .int):=rfl
def x6 (h:xs.length<=aq):cB (.lst xs)=some xs:=by simp[cB,h]
@[simp]theorem HY:aM lev cl .skip de lv=.next de lv:=rfl
@[simp]theorem ve(e:Ex):aM lev cl (.ret e) de lv=(am cl e de).bindS λd=>.ret d (eL lev e d lv):=rfl
@[simp]theorem yC(i:Nat)(e:Ex):aM lev cl (.asg i e) de lv=(am cl e de).bindS λd=>yZ lev i e d de lv:=rfl
@[simp]theorem oW(c:Ex)(a b:Sm):aM lev cl (.ite c a b) de lv=(am cl c de).bindS λx=>match x with
  |.bl true=>aM lev cl a de lv
  |.bl false=>aM lev cl b de lv
  |_=>.no:=rfl
def xR {lev:Nat->Lv}{de:aS}{lv:List Lv}(h:aT lev e d=.full):yZ lev i e d de lv=.next (de.set i (some d)) (lv.set i .full):=by
 unfold yZ;rw[Lp h]
theorem sS:∀(xs:List α) (acc:List Dat),(∀x∈xs,c x=.ok (.bl true))->(∀x∈xs,e x=.ok (g x))->acc.length+xs.length<=aq->zE c e xs acc=.ok (.lst (acc++xs.map g))
 |[],acc,_,_,h=>by unfold zE;rw[yr (by simpa using h)];simp
 |x::xs,acc,hc,he,h=>by
  unfold zE;simp only[QG]at h;rw[hc x (by simp)];simp only[bK];rw[he x (by simp)];simp only[bK];rw[Lp (by lia),sS xs (acc++[g x]) (λy hy=>hc y (by simp[hy])) (λy hy=>he y (by simp[hy])) (by simp;lia)];simp
end
namespace Lib
end Lib
section
variable(lev:Nat->Lv)(cl:Nat->List Dat->Rd)(de:aS)(lv:List Lv)
@[simp]theorem Hj(i:Nat)(op:Bo)(e:Ex):aM lev cl (.aug i op e) de lv=match de[i]? with
  |some (some (.int a))=>(am cl e de).okS λy=>match y with
   |.int b=>(ym op (.int a) (.int b)).okS λz=>.next (de.set i (some z)) (lv.set i .full)
   |_=>.no
  |_=>.no:=rfl
@[simp]theorem pR(j:Nat)(e:Ex):aM lev cl (.expr (.meth .append (.var j) (.pair e .unit))) de lv=(am cl e de).okS λd=>match jM de j with
   |some ds=>if ds.length<aq then match gd lev e d j de lv with
    |some (de1,lv1)=>.next (de1.set j (some (.lst (ds++[d])))) lv1
    |none=>.no
    else .no
   |none=>.no:=rfl
def wv(i:Nat)(it:Ex)(body:Sm):aM lev cl (.forv i it body) de lv=(am cl it de).bindS λd=>match cB d with
  |some xs=>zq (λx de lv=>aM lev cl body (de.set i (some x)) (lv.set i (ba x))) xs de (if aw d then lv else xu it de lv)
  |none=>.no:=rfl
def Cv(i j:Nat)(it:Ex)(body:Sm):aM lev cl (.fort i j it body) de lv=(am cl it de).bindS λd=>match cB d with
  |some xs=>zq (λx de lv=>match x with
    |.tup [a,b]=>aM lev cl body ((de.set i (some a)).set j (some b)) ((lv.set i (ba a)).set j (ba b))
    |_=>.no) xs de (if aw d then lv else xu it de lv)
  |none=>.no:=rfl
def bY.then(r:bY)(f:aS->List Lv->bY):bY:=match r with
 |.next d l=>f d l
 |r=>r
@[simp]theorem zt(d:aS)(l:List Lv)(f:aS->List Lv->bY):(bY.next d l).then f=f d l:=rfl
@[simp]theorem HE(d:Dat)(l:Lv)(f:aS->List Lv->bY):(bY.ret d l).then f=.ret d l:=rfl
def zY (h:yj a b=none):aM lev cl (.seq a b) de lv=(aM lev cl a de lv).then (aM lev cl b):=by
 rw[qx,h];cases aM lev cl a de lv<;>rfl
def EA(a:Sm)(c d:Sm):yj a (.seq c d)=none:=rfl
@[simp]theorem xx(a:Sm)(c d:Sm):aM lev cl (.seq a (.seq c d)) de lv=(aM lev cl a de lv).then (aM lev cl (.seq c d)):=zY lev cl de lv (EA a c d)
def Ez(a:Sm)(e:Ex):yj a (.ret e)=none:=rfl
@[simp]theorem kc(a:Sm)(e:Ex):aM lev cl (.seq a (.ret e)) de lv=(aM lev cl a de lv).then (aM lev cl (.ret e)):=zY lev cl de lv (Ez a e)
def Ey(a:Sm)(c:Ex)(x y:Sm):yj a (.ite c x y)=none:=rfl
@[simp]theorem oV(a:Sm)(c:Ex)(x y:Sm):aM lev cl (.seq a (.ite c x y)) de lv=(aM lev cl a de lv).then (aM lev cl (.ite c x y)):=zY lev cl de lv (Ey a c x y)
def FR(a:Sm)(i:Nat)(e:Ex)(x:Sm):yj a (.forv i e x)=none:=rfl
@[simp]theorem HX(a:Sm)(i:Nat)(e:Ex)(x:Sm):aM lev cl (.seq a (.forv i e x)) de lv=(aM lev cl a de lv).then (aM lev cl (.forv i e x)):=zY lev cl de lv (FR a i e x)
def FQ(a:Sm)(i j:Nat)(e:Ex)(x:Sm):yj a (.fort i j e x)=none:=rfl
@[simp]theorem HW(a:Sm)(i j:Nat)(e:Ex)(x:Sm):aM lev cl (.seq a (.fort i j e x)) de lv=(aM lev cl a de lv).then (aM lev cl (.fort i j e x)):=zY lev cl de lv (FQ a i j e x)
def Ew(a:Sm)(i:Nat)(e:Ex):yj a (.asg i e)=none:=rfl
@[simp]theorem Hi(a:Sm)(i:Nat)(e:Ex):aM lev cl (.seq a (.asg i e)) de lv=(aM lev cl a de lv).then (aM lev cl (.asg i e)):=zY lev cl de lv (Ew a i e)
def Ev(a:Sm)(i:Nat)(op:Bo)(e:Ex):yj a (.aug i op e)=none:=rfl
@[simp]theorem Hh(a:Sm)(i:Nat)(op:Bo)(e:Ex):aM lev cl (.seq a (.aug i op e)) de lv=(aM lev cl a de lv).then (aM lev cl (.aug i op e)):=zY lev cl de lv (Ev a i op e)
def E5(a:Sm)(e:Ex):yj a (.expr e)=none:=rfl
@[simp]theorem Ix(a:Sm)(e:Ex):aM lev cl (.seq a (.expr e)) de lv=(aM lev cl a de lv).then (aM lev cl (.expr e)):=zY lev cl de lv (E5 a e)
def EZ(a:Sm): yj a .skip=none:=rfl
@[simp]theorem Iw(a:Sm): aM lev cl (.seq a .skip) de lv=(aM lev cl a de lv).then (aM lev cl .skip):=zY lev cl de lv (EZ a)
def F0(a:Sm): yj a .never=none:=rfl
@[simp]theorem HD(a:Sm): aM lev cl (.seq a .never) de lv=(aM lev cl a de lv).then (aM lev cl .never):=zY lev cl de lv (F0 a)
end
namespace Lib
section
def ax(r:List Int):Dat:=.lst (r.map .int)
def aK(R:List (List Int)):Dat:=.lst (R.map ax)
end
end Lib
namespace Lib
section
noncomputable def S(R:List (List Int))(r c:Nat):Int:=((R.take r).map (λx=>x.getD c 0)).sum
noncomputable def ac(R:List (List Int))(r c:Nat):Int:=((R.getD r []).take c).sum
def qA {c:Nat}(h:x[c]?=some v):xg (ax x) (.int (c:Int))=.ok (.int v):=pS (by simp[h])
end
end Lib
namespace Lib
section
variable{lev:Nat->Lv}{cl:Nat->List Dat->Rd}{k:Nat}
noncomputable def h9:Fn:=⟨2,2,(.seq (.ite (.cmp .lt (.var 1) (.blt .len (.pair (.var 0) .unit))) (.ret (.idx (.var 0) (.var 1))) .skip) (.ret (.bin .add (.bin .mul (.lit (.int 2)) (.var 1)) (.lit (.int 1)))))⟩
def Eu(ns:List Int)(i:Nat):∃c:Int,xh lev cl k h9 [.scr ns,.int i]=.ok (.int c):=by
 by_cases h:i<ns.length
 .refine ⟨ns[i],?_⟩;have h1:xg (.scr ns) (.int (i:Int))=.ok (.int ns[i]):=by simp[xg,yY,oY h,h]
  simp[xh,h9,xw,xD,xQ,eL,h,h1]
 .refine ⟨2*i+1,?_⟩;simp[xh,h9,xw,xD,xQ,eL,h,Cy 2 i (by decide)]
def uQ(x:List Int):Prop:=∀i,i+1<x.length->x.getD i 0<x.getD (i+1) 0
def nq(fj sm:List Int):Prop:=fj.length=sm.length+1/\∀i,i<sm.length->fj.getD i 0<=sm.getD i 0/\sm.getD i 0<=fj.getD (i+1) 0
def Bq {x:List Int}(h:i<x.length):x[i]?=some (x.getD i 0):=by
 rw[Qn,Qm h];rfl
end
end Lib
namespace Lib
section
def oU(n:Nat):List Int:=(QL n).map λ(i:Nat)=>(i:Int)
structure Ha(n:Nat)(L:List (List Int)):Prop where
 first:L.getD 0 []=oU n
 len:∀j,j<L.length->(L.getD j []).length+j=n
 inc:∀j,j<L.length->uQ (L.getD j [])
 bd:∀j,j<L.length->∀i,i<(L.getD j []).length->0<=(L.getD j []).getD i 0/\(L.getD j []).getD i 0<n
 lace:∀j,j+1<L.length->nq (L.getD j []) (L.getD (j+1) [])
end
end Lib
namespace Lib
section
theorem zV {c e:β->Rd}{α:Type}(f:α->β)(g:α->Dat):∀(xs:List α) (acc:List Dat),(∀x∈xs,c (f x)=.ok (.bl true))->(∀x∈xs,e (f x)=.ok (g x))->acc.length+xs.length<=aq->zE c e (xs.map f) acc=.ok (.lst (acc++xs.map g))
 |[],acc,_,_,h=>by unfold zE;rw[VT];simp only;rw[yr (by simpa using h)];simp
 |x::xs,acc,hc,he,h=>by
  rw[QJ];unfold zE;simp only[QG]at h;rw[hc x (by simp)];simp only[bK];rw[he x (by simp)];simp only[bK];rw[Lp (by lia),zV f g xs (acc++[g x]) (λy hy=>hc y (by simp[hy])) (λy hy=>he y (by simp[hy])) (by simp;lia)];simp
def Et (a s:Int)(n:Nat)(g:Nat->Dat)(hc:∀i,i<n->c (.int (a+s*(i:Int)))=.ok (.bl true))(he:∀i,i<n->e (.int (a+s*(i:Int)))=.ok (g i))(h:n<=aq):zE c e (yA a s n) []=.ok (.lst ((QL n).map g)):=by
 unfold yA;rw[zV (λ(i:Nat)=>Dat.int (a+s*(i:Int))) g (QL n) [] (λi hi=>hc i (by simpa using hi)) (λi hi=>he i (by simpa using hi)) (by simpa using h)];simp
def mem(x:List Int)(c:Int):Bool:=x.any (λv=>decide (v=c))
end
end Lib
namespace Lib
structure IM(n:Nat)(X:List (List Int)):Prop where
 len:X.length=n
 rlen:∀j,j<n->(X.getD j []).length=j+1
 inc:∀j,j<n->uQ (X.getD j [])
 bd:∀j,j<n->∀i,i<j+1->0<=(X.getD j []).getD i 0/\(X.getD j []).getD i 0<n
 lace:∀j,j+1<n->nq (X.getD (j+1) []) (X.getD j [])
 last:X.getD (n-1) []=oU n
def getD_mem {x:List Int}(h:i<x.length):x.getD i 0∈x:=by
 rw[Qn,Qm h];exact Vn h
def iS(x:List Int)(c:Nat):Int:=(x.map λ(v:Int)=>b2i (decide (v<(c:Int)))).sum
end Lib
namespace Lib
section
variable{lev:Nat->Lv}
theorem ke {c e:β->Rd}{α:Type}(f:α->β)(p:α->Bool)(g:α->Dat):∀(xs:List α) (acc:List Dat),(∀x∈xs,c (f x)=.ok (.bl (p x)))->(∀x∈xs,p x=true->e (f x)=.ok (g x))->acc.length+xs.length<=aq->zE c e (xs.map f) acc=.ok (.lst (acc++(xs.filter p).map g))
 |[],acc,_,_,h=>by unfold zE;rw[VT];simp only;rw[yr (by simpa using h)];simp
 |x::xs,acc,hc,he,h=>by
  rw[QJ];unfold zE;simp only[QG]at h;rw[hc x (by simp)];simp only[bK];cases hp:p x with
  |true=>
   rw[he x (by simp) hp];simp only[bK];rw[Lp (by lia),ke f p g xs (acc++[g x]) (λy hy=>hc y (by simp[hy])) (λy hy=>he y (by simp[hy])) (by simp;lia)];simp[hp]
  |false=>
   rw[ke f p g xs acc (λy hy=>hc y (by simp[hy])) (λy hy=>he y (by simp[hy])) (by lia)];simp[hp]
def u8(R:List (List Int))(i:Nat):List Int:=(QL R.length).map λc=>S R i c
noncomputable def Gz(R:List (List Int)):List (List Int):=(QL (R.length+1)).map (u8 R)
def Cu(a b:List Int):yB .zip (ax a) (ax b)=if a.length<=aq/\b.length<=aq then some ((a.zip b).map λp=>(Dat.int p.1,Dat.int p.2))else none:=by
 simp only[yB,e7,ax,Qp];rw[List.zip_map];rfl
def jz(e:Ex)(x:List Int)(he:∀i:Int,aT lev e (.int i)=.full):(x.map Dat.int).all (λd=>aT lev e d == .full)=true:=by
 rw[VU,QN];intro v _;simp[he]
end
end Lib
namespace Lib
section
variable{lev:Nat->Lv}{cl:Nat->List Dat->Rd}{k:Nat}
noncomputable def dz:List Int->Bool
 |i::r=>decide (0<=yU i r)&&decide (xm i r<=1)
 |[]=>false
abbrev vf:=List (List Int)×List Int
noncomputable def yS(t:List (List Int))(s:List Int):List (List Int)->List vf
 |[]=>[]
 |l::cs=>if dz (QU (·+·) s l)then(t++[l],QU (·+·) s l)::yS t s cs else yS t s cs
noncomputable def ww(cs:List (List Int)):List vf->List vf
 |[]=>[]
 |p::ps=>yS p.1 p.2 cs++ww cs ps
noncomputable def kq(cs:List (List Int)):Nat->List vf->List vf
 |0,ps=>ps
 |k+1,ps=>kq cs k (ww cs ps)
noncomputable def pD(p:vf):Dat:=.tup [aK p.1,ax p.2]
noncomputable def wZ:Ex:=.compP .zip (.bin .add (.var 9) (.var 10)) (.var 6) (.var 7) (.lit (.bl true))
noncomputable def wB:Sm:=.seq (.asg 8 wZ) (.ite (.and (.cmp .ge (.blt .minS (.pair (.var 8) .unit)) (.lit (.int 0))) (.cmp .le (.blt .maxS (.pair (.var 8) .unit)) (.lit (.int 1)))) (.expr (.meth .append (.var 4) (.pair (.tup (.pair (.bin .add (.var 5) (.lst (.pair (.var 7) .unit))) (.pair (.var 8) .unit))) .unit))) .skip)
theorem ye:∀k:List Int,zy (k.map Dat.int)=some k
 |[]=>rfl
 |x::k=>by show(zy (k.map Dat.int)).map (x::·)=_;rw[ye k];rfl
def Ct(i:Int)(r:List Int):xf .minS [ax (i::r)]=.ok (.int (yU i r)):=by
 show(match (some ((i::r).map Dat.int)).bind zy with|some (i::r)=>Rd.ok (.int (yU i r))|_=>.no)=_;rw[QS,ye]
def Da(i:Int)(r:List Int):xf .maxS [ax (i::r)]=.ok (.int (xm i r)):=by
 show(match (some ((i::r).map Dat.int)).bind zy with|some (i::r)=>Rd.ok (.int (xm i r))|_=>.no)=_;rw[QS,ye]
def Bn(d0 d1 d2 d3 o8:Option Dat)(L:List Dat)(t:List (List Int))(s l:List Int)(l0 l1 l2 l3 l4 l5 l6 l7 l8:Lv)(h4:l4=.top\/l4=.full)(hs:s≠[])(hl:l≠[])(hs1:s.length<=100)(hl1:l.length<=100)(hL:L.length<aq)(ht:t.length<=100):
  ∃l4' l5' l7' l8',(l4'=.top\/l4'=.full)/\aM lev cl wB [d0,d1,d2,d3,some (.lst L),some (aK t),some (ax s),some (ax l),o8] [l0,l1,l2,l3,l4,l5,l6,l7,l8] =
   .next [d0,d1,d2,d3,some (.lst (L++((yS t s [l]).map pD))),some (aK t),some (ax s),some (ax l),some (ax (QU (·+·) s l))] [l0,l1,l2,l3,l4',l5',l6,l7',l8']:=by
 have hev:am cl wZ [d0,d1,d2,d3,some (.lst L),some (aK t),some (ax s),some (ax l),o8]=.ok (ax (QU (·+·) s l)):=by
  unfold wZ;rw[jw];simp only[zm,zr,bK,Cu];rw[Lp (by unfold aq;lia)];simp only;rw[zV (λ(p:Int×Int)=>(Dat.int p.1,Dat.int p.2)) (λp=>.int (p.1+p.2)) _ [] (λp _=>by simp) (λp _=>by simp) (by rw[VL];simp;unfold aq;lia)];simp[ax,List.zip,List.map_zipWith]
 have hlv:aT lev wZ (ax (QU (·+·) s l))=.full:=by
  unfold ax wZ;rw[Ed];simp only[jy,Wb,if_false];rw[Lp (jz _ _ λi=>by simp)]
 unfold wB;rw[oV,yC,hev];simp only[cj];rw[xR hlv];simp only[zt,Q8,Q7];have e:yS t s [l]=if dz (QU (·+·) s l)then[(t++[l],QU (·+·) s l)]else[]:=rfl;rw[e];obtain⟨i,r,hz⟩:∃i r,QU (·+·) s l=i::r:=by
  cases s with
  |nil=>exact Lr rfl hs
  |cons a s=>cases l with
   |nil=>exact Lr rfl hl
   |cons b l=>exact⟨_,_,rfl⟩
 rw[hz]at *
 have hc:am cl (.and (.cmp .ge (.blt .minS (.pair (.var 8) .unit)) (.lit (.int 0))) (.cmp .le (.blt .maxS (.pair (.var 8) .unit)) (.lit (.int 1)))) [d0,d1,d2,d3,some (.lst L),some (aK t),some (ax s),some (ax l),some (ax (i::r))]=.ok (.bl (dz (i::r))):=by
  simp only[oZ,pc,wt,zC,zB,zA,zr,zm,bK,zu,Ct,Da,oD,oE];show _=Rd.ok (.bl (decide (0<=yU i r)&&decide (xm i r<=1)));cases decide (0<=yU i r)<;>rfl
 rw[oW,hc];simp only[cj];cases dz (i::r)with
 |false=>
  refine⟨l4,l5,l7,.full,h4,?_⟩;simp
 |true=>
  refine⟨.top,.no,.no,.no,.inl rfl,?_⟩;have ha:ym .add (aK t) (.lst [ax l])=.ok (aK (t++[l])):=by
   show bo (t.map ax++[ax l])=_;rw[yr (by simp;unfold aq;lia)];simp[aK]
  have hn:bo [ax l]=.ok (.lst [ax l]):=yr (by unfold aq;simp);have hv:am cl (.tup (.pair (.bin .add (.var 5) (.lst (.pair (.var 7) .unit))) (.pair (.var 8) .unit))) [d0,d1,d2,d3,some (.lst L),some (aK t),some (ax s),some (ax l),some (ax (i::r))]=.ok (pD (t++[l],i::r)):=by
   simp only[o9,zC,zB,qz,vd,zr,zm,bK,zu,hn,ha];exact Lp (show 2<=aq by unfold aq;lia)
  simp only;rw[pR,hv];simp only[i9];have hls:jM [d0,d1,d2,d3,some (.lst L),some (aK t),some (ax s),some (ax l),some (ax (i::r))] 4=some L:=rfl;rw[hls];simp only;rw[Lp hL];have ho:yx [l0,l1,l2,l3,l4,l5,l6,l7,.full] 4=true:=by
   rcases h4 with rfl|rfl<;>rfl
  have hf:aT lev (.tup (.pair (.bin .add (.var 5) (.lst (.pair (.var 7) .unit))) (.pair (.var 8) .unit))) (pD (t++[l],i::r))=.no:=by
   simp[pD,aK,ax]
  simp only[gd,ho,hf];simp[bg,xu]
def jA(t:List (List Int))(s l:List Int)(cs:List (List Int)):yS t s (l::cs)=yS t s [l]++yS t s cs:=by
 show(if dz _ then _ else _)=(if dz _ then[_]else[])++_;split<;>rfl
theorem kf(t:List (List Int))(s:List Int):∀cs:List (List Int),(yS t s cs).length<=cs.length
 |[]=>Qg _
 |l::cs=>by
  have:=kf t s cs;show(if dz _ then _ else _:List vf).length<=_;split<;>simp<;>lia
def qB(n:Nat)(cs:List (List Int)):Prop:=cs.length<=90/\∀l∈cs,l.length=n
def eR(n i:Nat)(ps:List vf):Prop:=∀p∈ps,p.2.length=n/\p.1.length<=i
theorem sR (hs:s.length=n)(ht:t.length<=i):∀{cs:List (List Int)},(∀l∈cs,l.length=n)->eR n (i+1) (yS t s cs)
 |[],_=>λp hp=>by cases hp
 |l::cs,h=>λp hp=>by
  rw[jA]at hp;rcases Qx.mp hp with hp|hp
  .have hp':p∈(if dz (QU (·+·) s l)then[(t++[l],QU (·+·) s l)]else[]:List vf):=hp;split at hp'
   .rw[Qt]at hp';subst hp';exact⟨by simp[hs,h l (by simp)],by simp;lia⟩
   .cases hp'
  .exact sR hs ht (λl hl=>h l (by simp[hl])) p hp
theorem sQ (hc:∀l∈cs,l.length=n):∀{ps:List vf},eR n i ps->eR n (i+1) (ww cs ps)
 |[],_=>λp hp=>by cases hp
 |p::ps,h=>λq hq=>by
  have hq':q∈yS p.1 p.2 cs++ww cs ps:=hq;rcases Qx.mp hq' with hq|hq
  .exact sR (h p (by simp)).1 (h p (by simp)).2 hc q hq
  .exact sQ hc (λp hp=>h p (by simp[hp])) q hq
theorem oC(d0 d1 d2 d3:Option Dat)(t:List (List Int))(s:List Int)(l0 l1 l2 l3 l6:Lv)(hs:s≠[])(hs1:s.length<=100)(ht:t.length<=100):∀(cs:List (List Int)) (L:List Dat) (o7 o8:Option Dat) (l4 l5 l7 l8:Lv),(l4=.top\/l4=.full)->(∀l∈cs,l≠[]/\l.length<=100)->L.length+cs.length<aq ->
  ∃o7' o8' l4' l5' l7' l8',(l4'=.top\/l4'=.full)/\zq (λx de lv=>aM lev cl wB (de.set 7 (some x)) (lv.set 7 (ba x))) (cs.map ax) [d0,d1,d2,d3,some (.lst L),some (aK t),some (ax s),o7,o8] [l0,l1,l2,l3,l4,l5,l6,l7,l8] =
   .next [d0,d1,d2,d3,some (.lst (L++(yS t s cs).map pD)),some (aK t),some (ax s),o7',o8'] [l0,l1,l2,l3,l4',l5',l6,l7',l8']
 |[],L,o7,o8,l4,l5,l7,l8,h4,_,_=>⟨o7,o8,l4,l5,l7,l8,h4,by simp[zq,yS]⟩
 |l::cs,L,o7,o8,l4,l5,l7,l8,h4,hc,hL=>by
  rw[QG]at hL;obtain⟨hl,hl1⟩:=hc l (by simp);obtain⟨l4',l5',l7',l8',h4',e⟩:=Bn (lev:=lev) (cl:=cl) d0 d1 d2 d3 o8 L t s l l0 l1 l2 l3 l4 l5 l6 (ba (ax l)) l8 h4 hs hl hs1 hl1 (by lia) ht;have hn:=kf t s [l];obtain⟨o7'',o8'',a4,a5,a7,a8,ha,e'⟩:=oC d0 d1 d2 d3 t s l0 l1 l2 l3 l6 hs hs1 ht cs (L++(yS t s [l]).map pD) (some (ax l)) (some (ax (QU (·+·) s l))) l4' l5' l7' l8' h4' (λq hq=>hc q (by simp[hq])) (by simp at hn ⊢;lia);refine⟨o7'',o8'',a4,a5,a7,a8,ha,?_⟩;rw[QJ];unfold zq;simp only[Q8,Q7,e];rw[e',jA t s l cs,WI,Qj]
noncomputable def wF(lev:Nat->Lv)(cl:Nat->List Dat->Rd):Dat->aS->List Lv->bY:=λx de lv=>match x with
 |.tup [a,b]=>aM lev cl (.forv 7 (.var 2) wB) ((de.set 5 (some a)).set 6 (some b)) ((lv.set 5 (ba a)).set 6 (ba b))
 |_=>.no
def wL {l:List Int}(hn:0<n)(h:l.length=n):l≠[]:=by
 rintro rfl;simp at h;lia
theorem oA (hn:0<n)(hn1:n<=100)(d0 d1 d3:Option Dat)(hc:qB n cs)(l0 l1 l3:Lv):∀(ps:List vf) (L:List Dat) (o5 o6 o7 o8:Option Dat) (l2 l4 l5 l6 l7 l8:Lv),(l4=.top\/l4=.full)->eR n 100 ps->L.length+ps.length*cs.length<aq ->
  ∃o5' o6' o7' o8' l2' l4' l5' l6' l7' l8',(l4'=.top\/l4'=.full)/\zq (wF lev cl) (ps.map pD) [d0,d1,some (aK cs),d3,some (.lst L),o5,o6,o7,o8] [l0,l1,l2,l3,l4,l5,l6,l7,l8] =
   .next [d0,d1,some (aK cs),d3,some (.lst (L++(ww cs ps).map pD)),o5',o6',o7',o8'] [l0,l1,l2',l3,l4',l5',l6',l7',l8']
 |[],L,o5,o6,o7,o8,l2,l4,l5,l6,l7,l8,h4,_,_=>⟨o5,o6,o7,o8,l2,l4,l5,l6,l7,l8,h4,by simp[zq,ww]⟩
 |p::ps,L,o5,o6,o7,o8,l2,l4,l5,l6,l7,l8,h4,hp,hL=>by
  rw[QG,VB]at hL;obtain⟨p1,p2⟩:=hp p (by simp);obtain⟨o7',o8',l4',l5',l7',l8',h4',e⟩:=oC (lev:=lev) (cl:=cl) d0 d1 (some (aK cs)) d3 p.1 p.2 l0 l1 .no l3 (ba (ax p.2)) (wL hn p1) (by lia) p2 cs L o7 o8 l4 (ba (aK p.1)) l7 l8 h4 (λl hl=>⟨wL hn (hc.2 l hl),by rw[hc.2 l hl];exact hn1⟩) (by lia);have hq:=kf p.1 p.2 cs;obtain⟨a5,a6,a7,a8,b2,b4,b5,b6,b7,b8,hb,e'⟩:=oA hn hn1 d0 d1 d3 hc l0 l1 l3 ps (L++(yS p.1 p.2 cs).map pD) (some (aK p.1)) (some (ax p.2)) o7' o8' .no l4' l5' (ba (ax p.2)) l7' l8' h4' (λq hq=>hp q (by simp[hq])) (by simp;lia);refine⟨a5,a6,a7,a8,b2,b4,b5,b6,b7,b8,hb,?_⟩;rw[QJ];unfold zq;have hb:wF lev cl (pD p) [d0,d1,some (aK cs),d3,some (.lst L),o5,o6,o7,o8] [l0,l1,l2,l3,l4,l5,l6,l7,l8]=.next [d0,d1,some (aK cs),d3,some (.lst (L++(yS p.1 p.2 cs).map pD)),some (aK p.1),some (ax p.2),o7',o8'] [l0,l1,.no,l3,l4',l5',ba (ax p.2),l7',l8']:=by
   show aM lev cl (.forv 7 (.var 2) wB) [d0,d1,some (aK cs),d3,some (.lst L),some (aK p.1),some (ax p.2),o7,o8] [l0,l1,l2,l3,l4,ba (aK p.1),ba (ax p.2),l7,l8]=_;rw[wv];simp only[zr,zm,cj];rw[show cB (aK cs)=some (cs.map ax)from x6 (by rw[Qp];unfold aq;have:=hc.1;lia)];exact e
  rw[hb];simp only;rw[e',show ww cs (p::ps)=yS p.1 p.2 cs++ww cs ps from rfl,WI,Qj]
noncomputable def oB:Sm:=.seq (.asg 4 (.lst .unit)) (.seq (.fort 5 6 (.var 1) (.forv 7 (.var 2) wB)) (.asg 1 (.var 4)))
def Bm (hn:0<n)(hn1:n<=100)(d0 d3:Option Dat)(hc:qB n cs)(hp:eR n 100 ps)(hz:ps.length<=1000)(o4 o5 o6 o7 o8:Option Dat)(l0 l1 l2 l3 l4 l5 l6 l7 l8:Lv):
  ∃o4' o5' o6' o7' o8' l0' l1' l2' l3' l4' l5' l6' l7' l8',aM lev cl oB [d0,some (.lst (ps.map pD)),some (aK cs),d3,o4,o5,o6,o7,o8] [l0,l1,l2,l3,l4,l5,l6,l7,l8] =
   .next [d0,some (.lst ((ww cs ps).map pD)),some (aK cs),d3,o4',o5',o6',o7',o8'] [l0',l1',l2',l3',l4',l5',l6',l7',l8']:=by
 have hc1:=hc.1;have hm:ps.length*cs.length<=1000*90:=Nat.mul_le_mul hz hc1;obtain⟨a5,a6,a7,a8,b2,b4,b5,b6,b7,b8,hb,e⟩:=oA (lev:=lev) (cl:=cl) hn hn1 d0 (some (.lst (ps.map pD))) d3 hc l0 .no l3 ps [] o5 o6 o7 o8 l2 .full l5 l6 l7 l8 (.inr rfl) hp (by simp;unfold aq;lia);have h1:aM lev cl (.asg 4 (.lst .unit)) [d0,some (.lst (ps.map pD)),some (aK cs),d3,o4,o5,o6,o7,o8] [l0,l1,l2,l3,l4,l5,l6,l7,l8]=.next [d0,some (.lst (ps.map pD)),some (aK cs),d3,some (.lst []),o5,o6,o7,o8] [l0,l1,l2,l3,.full,l5,l6,l7,l8]:=by
  rw[yC];simp only[vd,zB,bK,zu];rw[yr (by simp)];simp only[cj];rw[xR (by simp)];rfl
 have h2:aM lev cl (.fort 5 6 (.var 1) (.forv 7 (.var 2) wB)) [d0,some (.lst (ps.map pD)),some (aK cs),d3,some (.lst []),o5,o6,o7,o8] [l0,l1,l2,l3,.full,l5,l6,l7,l8]=.next [d0,some (.lst (ps.map pD)),some (aK cs),d3,some (.lst ((ww cs ps).map pD)),a5,a6,a7,a8] [l0,.no,b2,l3,b4,b5,b6,b7,b8]:=by
  rw[Cv];simp only[zr,zm,cj];rw[x6 (by rw[Qp];unfold aq;lia)];exact e
 unfold oB;rw[xx,h1,zt,zY lev cl _ _ rfl,h2,zt,yC];simp only[zr,zm,cj];unfold yZ;split
 .exact ⟨_,_,_,_,_,_,_,_,_,_,_,_,_,_,rfl⟩
 .exact ⟨_,_,_,_,_,_,_,_,_,_,_,_,_,_,rfl⟩
theorem oh (hn:0<n)(hn1:n<=90)(d0:Option Dat)(hc:qB n cs):∀(xs:List Dat) (i:Nat) (ps:List vf) (o3 o4 o5 o6 o7 o8:Option Dat) (l0 l1 l2 l3 l4 l5 l6 l7 l8:Lv),i+xs.length<=100->eR n i ps->(∀j,j<=xs.length->(kq cs j ps).length<=1000) ->
  ∃o3' o4' o5' o6' o7' o8' lv',zq (λx de lv=>aM lev cl oB (de.set 3 (some x)) (lv.set 3 (ba x))) xs [d0,some (.lst (ps.map pD)),some (aK cs),o3,o4,o5,o6,o7,o8] [l0,l1,l2,l3,l4,l5,l6,l7,l8] =
   .next [d0,some (.lst ((kq cs xs.length ps).map pD)),some (aK cs),o3',o4',o5',o6',o7',o8'] lv'
 |[],i,ps,o3,o4,o5,o6,o7,o8,l0,l1,l2,l3,l4,l5,l6,l7,l8,_,_,_=>⟨o3,o4,o5,o6,o7,o8,_,rfl⟩
 |x::xs,i,ps,o3,o4,o5,o6,o7,o8,l0,l1,l2,l3,l4,l5,l6,l7,l8,hi,hp,hz=>by
  rw[QG]at hi;have hp':eR n 100 ps:=λp q=>⟨(hp p q).1,by have:=(hp p q).2;lia⟩;obtain⟨a4,a5,a6,a7,a8,b0,b1,b2,b3,b4,b5,b6,b7,b8,e⟩:=Bm (lev:=lev) (cl:=cl) hn (by lia) d0 (some x) hc hp' (hz 0 (by simp)) o4 o5 o6 o7 o8 l0 l1 l2 (ba x) l4 l5 l6 l7 l8;obtain⟨c3,c4,c5,c6,c7,c8,lv',e'⟩:=oh hn hn1 d0 hc xs (i+1) (ww cs ps) (some x) a4 a5 a6 a7 a8 b0 b1 b2 b3 b4 b5 b6 b7 b8 (by lia) (sQ hc.2 hp) (λj hj=>hz (j+1) (by rw[QG];lia));refine⟨c3,c4,c5,c6,c7,c8,lv',?_⟩;unfold zq;simp only[Q8,Q7,e];exact e'
noncomputable def iR:Ex:=.blt .sorted (.pair (.compP .prs (.var 9) (.var 1) (.lit (.int 0)) (.lit (.bl true))) .unit)
noncomputable def og(ka:Nat):Fn:=⟨1,9,(.seq (.asg 1 (.lst (.pair (.tup (.pair (.lst .unit) (.pair (.comp (.lit (.int 0)) (.rng (.lit (.int 0)) (.var 0) (.lit (.int 1))) (.lit (.bl true))) .unit))) .unit))) (.seq (.asg 2 (.call ka (.pair (.var 0) .unit))) (.seq (.forv 3 (.rng (.lit (.int 0)) (.var 0) (.lit (.int 1))) oB) (.ret iR))))⟩
def eG{n:Nat}(hn:n<=1000):eD (.int 0) (.int n) (.int 1)=.ok (.tup (yA 0 1 n)):=by
 rw[oX (by unfold aq;lia)];congr 3
def Es (hn:0<n)(hn1:n<=90)(hc:qB n cs)(h:cl ka [.int n]=.ok (aK cs))(hz:∀j,j<=n->(kq cs j [([],Qq n 0)]).length<=1000)(hs:xf .sorted [.lst ((kq cs n [([],Qq n 0)]).map λp=>aK p.1)]=.ok (.lst ss))(hlev:lev k=.no):xh lev cl k (og ka) [.int n]=.ok (.lst ss):=by
 have hr:am cl (.rng (.lit (.int 0)) (.var 0) (.lit (.int 1))) [some (.int n),none,none,none,none,none,none,none,none]=.ok (.tup (yA 0 1 n)):=by
  simp only[xZ,zA,zm,bK,eG (show n<=1000 by lia)]
 have h1:am cl (.lst (.pair (.tup (.pair (.lst .unit) (.pair (.comp (.lit (.int 0)) (.rng (.lit (.int 0)) (.var 0) (.lit (.int 1))) (.lit (.bl true))) .unit))) .unit)) [some (.int n),none,none,none,none,none,none,none,none]=.ok (.lst ([([],Qq n 0)].map pD)):=by
  have hz0:am cl (.comp (.lit (.int 0)) (.rng (.lit (.int 0)) (.var 0) (.lit (.int 1))) (.lit (.bl true))) [some (.int n),none,none,none,none,none,none,none,none]=.ok (ax (Qq n 0)):=by
   rw[xk,hr];simp only[bK,x5];rw[sS (g:=λ_=>.int 0) (yA 0 1 n) [] (λx _=>by rfl) (λx _=>by rfl) (by simp;unfold aq;lia)];simp[ax,List.map_const']
  have ht:am cl (.tup (.pair (.lst .unit) (.pair (.comp (.lit (.int 0)) (.rng (.lit (.int 0)) (.var 0) (.lit (.int 1))) (.lit (.bl true))) .unit))) [some (.int n),none,none,none,none,none,none,none,none]=.ok (pD ([],Qq n 0)):=by
   rw[o9,zC,zC,hz0,vd];simp only[zB,bK,zu];rw[yr (show([]:List Dat).length<=aq by simp)];show(if 2<=aq then Rd.ok (Dat.tup [Dat.lst [],ax (Qq n 0)])else .no)=_;rw[Lp (show 2<=aq by unfold aq;lia)];rfl
  rw[vd,zC,ht];simp only[zB,bK,zu];exact yr (show 1<=aq by unfold aq;lia)
 unfold xh;rw[Lp (by rfl),hlev];show xQ .no (aM lev cl (.seq (.asg 1 _) (.seq (.asg 2 _) (.seq (.forv 3 _ oB) (.ret iR)))) [some (.int n),none,none,none,none,none,none,none,none] [ba (.int n),.full,.full,.full,.full,.full,.full,.full,.full])=_;rw[xx,yC,h1];simp only[cj];obtain⟨l0,l1,l2,l3,l4,l5,l6,l7,l8,e1⟩:∃l0 l1 l2 l3 l4 l5 l6 l7 l8,yZ lev 1 (.lst (.pair (.tup (.pair (.lst .unit) (.pair (.comp (.lit (.int 0)) (.rng (.lit (.int 0)) (.var 0) (.lit (.int 1))) (.lit (.bl true))) .unit))) .unit)) (.lst ([([],Qq n 0)].map pD)) [some (.int n),none,none,none,none,none,none,none,none] [ba (.int n),.full,.full,.full,.full,.full,.full,.full,.full]=.next [some (.int n),some (.lst ([([],Qq n 0)].map pD)),none,none,none,none,none,none,none] [l0,l1,l2,l3,l4,l5,l6,l7,l8]:=by
  unfold yZ;split
  .exact ⟨_,_,_,_,_,_,_,_,_,rfl⟩
  .exact ⟨_,_,_,_,_,_,_,_,_,rfl⟩
 rw[e1,zt,xx,yC];simp only[xj,zC,zB,zm,bK,zu,h,cj];obtain⟨k0,k1,k2,k3,k4,k5,k6,k7,k8,e2⟩:∃k0 k1 k2 k3 k4 k5 k6 k7 k8,yZ lev 2 (.call ka (.pair (.var 0) .unit)) (aK cs) [some (.int n),some (.lst ([([],Qq n 0)].map pD)),none,none,none,none,none,none,none] [l0,l1,l2,l3,l4,l5,l6,l7,l8]=.next [some (.int n),some (.lst ([([],Qq n 0)].map pD)),some (aK cs),none,none,none,none,none,none] [k0,k1,k2,k3,k4,k5,k6,k7,k8]:=by
  unfold yZ;split
  .exact ⟨_,_,_,_,_,_,_,_,_,rfl⟩
  .exact ⟨_,_,_,_,_,_,_,_,_,rfl⟩
 rw[e2,zt,kc,wv];have hr2:am cl (.rng (.lit (.int 0)) (.var 0) (.lit (.int 1))) [some (.int n),some (.lst ([([],Qq n 0)].map pD)),some (aK cs),none,none,none,none,none,none]=.ok (.tup (yA 0 1 n)):=by
  simp only[xZ,zA,zm,bK,eG (show n<=1000 by lia)]
 rw[hr2];simp only[cj,x5,vJ,wK,if_true];obtain⟨c3,c4,c5,c6,c7,c8,lv',e3⟩:=oh (lev:=lev) (cl:=cl) hn hn1 (some (.int n)) hc (yA 0 1 n) 0 [([],Qq n 0)] none none none none none none k0 k1 k2 k3 k4 k5 k6 k7 k8 (by simp;lia) (λp hp=>by simp at hp;subst hp;simp) (λj hj=>hz j (by simpa using hj));rw[e3,zt,wu];have hw:=hz n (Qg _);generalize kq cs n [([],Qq n 0)]=W at *
 have hp:∀W:List vf,eS (W.map pD)=some (W.map λp=>(aK p.1,ax p.2)):=by
  intro W
  induction W with
  |nil=>rfl
  |cons p W ih=>
   show(eS (W.map pD)).map ((aK p.1,ax p.2)::·)=_;rw[ih];rfl
 have hv:am cl iR [some (.int n),some (.lst (W.map pD)),some (aK cs),c3,c4,c5,c6,c7,c8]=.ok (.lst ss):=by
  unfold iR;simp only[wt,zC,zB];rw[jw];simp only[zr,zm,zA,bK];rw[show yB .prs (.lst (W.map pD)) (.int 0)=some (W.map λp=>(aK p.1,ax p.2))from by
   show(if(W.map pD).length<=aq then eS (W.map pD)else none)=_;rw[Lp (by rw[Qp];unfold aq;lia),hp]]
  simp only;rw[zV (λ(p:vf)=>(aK p.1,ax p.2)) (λp=>aK p.1) W [] (λp _=>rfl) (λp _=>rfl) (by simp;unfold aq;lia)];simp only[bK,zu,Wm];exact hs
 rw[ve,hv];simp[xQ,jN]
end
end Lib
namespace Lib
section
variable{cl:Nat->List Dat->Rd}
theorem bL:∀(x:List Int),cr (x.map Dat.int) (x.map Dat.int)=true
 |[]=>rfl
 |v::x=>by simp[cr,bL x]
def Bl(x:List Int):wm .ne (ax x) (ax x)=.ok (.bl false):=by
 have h:xC yD (ax x)=true:=by
  simp only[ax,Cz,EB];rw[gl];simp
 simp only[wm,io,h,Bool.and_self,if_true];simp only[ax,Br,bL];rfl
theorem sP:∀(x:List Int),vG (x.map Dat.int)=some x.sum
 |[]=>rfl
 |v::x=>by simp[vG,sP x]
def u7 (hn:R.length<=100)(hr:∀r∈R,r.length<=100)(de:aS)(i j:Nat)(hj:de.length=j)(hd:am cl (.var i) de=.ok (aK R)):am cl (.comp (.blt .list (.pair (.var j) .unit)) (.var i) (.lit (.bl true))) de=.ok (aK R):=by
 have hlim:(R.map ax).length<=aq:=by simp;unfold aq;lia
 rw[xk,hd];simp only[bK,aK,x6 hlim];rw[zV ax ax R [] (λx _=>by simp) (λx hx=>?_) (by simpa using hlim)]
 .simp
 .have:am cl (.var j) (de++[some (ax x)])=.ok (ax x):=Bs cl _ _ _ (by rw[<-hj];simp);simp only[wt,zC,zB,this,bK,zu];have:=hr x hx;simp only[xf,ax,yY];rw[yr (by simp;unfold aq;lia)]
end
end Lib
namespace Lib
end Lib
namespace Lib
section
def C9(x:List Int):xf .sum [ax x]=.ok (.int x.sum):=by
 simp only[xf,ax,dn,QS,sP]
end
end Lib
namespace Lib
section
variable{lev:Nat->Lv}{cl:Nat->List Dat->Rd}{k:Nat}
def ya(ts:List (List (List Int))):Dat:=.lst (ts.map aK)
def qC(t:List (List Int))(c:Nat):List Int:=t.map λr=>r.getD c 0
def yo(n:Nat)(t:List (List Int)):List Int:=(QL n).map λc=>(qC t c).sum
noncomputable def tF:List Int->Int->List (List Int)
 |[],a=>if a=1 then[[]]else[]
 |s::ss,a=>([-1,0,1]:List Int).flatMap λg=>if(a+g=0\/a+g=1)/\(s+g=0\/s+g=1)then(tF ss (a+g)).map (g::·)else[]
def dh(ss:List Int):List (List Int):=tF ss 0
noncomputable def vg(n:Nat):List (List (List Int))->List (List (List Int))
 |[]=>[]
 |t::ts=>(dh (yo n t)).map (λr=>t++[r])++vg n ts
def lg:Fn:=⟨2,2,(.ret (.comp (.idx (.var 2) (.var 1)) (.var 0) (.lit (.bl true))))⟩
def C8 {c:Nat}(ht:t.length<=100)(hc:∀r∈t,c<r.length)(hlev:lev k=.no):xh lev cl k lg [aK t,.int c]=.ok (ax (qC t c)):=by
 have hv:am cl (.comp (.idx (.var 2) (.var 1)) (.var 0) (.lit (.bl true))) [some (aK t),some (.int c)]=.ok (ax (qC t c)):=by
  rw[xk];simp only[zm,bK,aK,x6 (show(t.map ax).length<=aq from by simp;unfold aq;lia)];rw[zV ax (λx=>.int (x.getD c 0)) t [] (λ_ _=>by simp) (λx hx=>?_) (by simp;unfold aq;lia)]
  .simp only[ax,qC,WO,Wm];rfl
  .simp only[Wu,Wm,Bt,zm,zr,bK];exact qA (Bq (hc x hx))
 unfold xh;rw[Lp (by rfl),hlev];show xQ .no (aM lev cl (.ret _) [some (aK t),some (.int c)] _)=_;rw[ve,hv];simp[xQ,jN]
noncomputable def sE:Ex:=.comp (.blt .sum (.pair (.call 3 (.pair (.var 3) (.pair (.var 5) .unit))) .unit)) (.rng (.lit (.int 0)) (.var 1) (.lit (.int 1))) (.lit (.bl true))
noncomputable def aE:Ex:=.bin .add (.comp (.blt .list (.pair (.var 5) .unit)) (.var 3) (.lit (.bl true))) (.lst (.pair (.var 4) .unit))
def aB:Sm:=.expr (.meth .append (.var 2) (.pair aE .unit))
def gm:Sm:=.forv 4 (.call 5 (.pair sE .unit)) aB
noncomputable def tV:Fn:=⟨2,5,(.seq (.asg 2 (.lst .unit)) (.seq (.forv 3 (.var 0) gm) (.ret (.var 2))))⟩
def Bk (d0 d1:Option Dat)(L:List Dat)(ht:t.length<=100)(htr:∀x∈t,x.length<=100)(r:List Int)(hL:L.length<aq)(l0 l1 l2 l3 l4:Lv)(h2:l2=.top\/l2=.full):
  ∃l2' l3' l4',(l2'=.top\/l2'=.full)/\aM lev cl aB [d0,d1,some (.lst L),some (aK t),some (ax r)] [l0,l1,l2,l3,l4]=.next [d0,d1,some (.lst (L++[aK (t++[r])])),some (aK t),some (ax r)] [l0,l1,l2',l3',l4']:=by
 have hc:=u7 (cl:=cl) ht htr [d0,d1,some (.lst L),some (aK t),some (ax r)] 3 5 rfl (by simp);have ha:ym .add (aK t) (.lst [ax r])=.ok (aK (t++[r])):=by
  show bo (t.map ax++[ax r])=_;rw[yr (by simp;unfold aq;lia)];simp[aK]
 have hn:bo [ax r]=.ok (.lst [ax r]):=yr (by unfold aq;simp);have hv:am cl aE [d0,d1,some (.lst L),some (aK t),some (ax r)]=.ok (aK (t++[r])):=by
  unfold aE;rw[qz,hc];simp only[vd,zC,zB,zr,zm,bK,zu,hn,ha]
 have ho:yx [l0,l1,l2,l3,l4] 2=true:=by
  rcases h2 with rfl|rfl<;>rfl
 have hf:aT lev aE (aK (t++[r]))=.top:=by
  simp[aE,aT,aK,ax,FS]
 unfold aB;rw[pR,hv];simp only[i9];rw[show jM [d0,d1,some (.lst L),some (aK t),some (ax r)] 2=some L from rfl];simp only;rw[Lp hL];refine⟨.top,.no,.no,.inl rfl,?_⟩;simp only[gd,ho,hf];simp[aE,bg,xu,zj]
theorem n9 (d0 d1:Option Dat)(ht:t.length<=100)(htr:∀x∈t,x.length<=100)(l0 l1:Lv):∀(rs:List (List Int)) (L:List Dat) (o4:Option Dat) (l2 l3 l4:Lv),(l2=.top\/l2=.full)->L.length+rs.length<aq ->
  ∃o4' l2' l3' l4',(l2'=.top\/l2'=.full)/\zq (λx de lv=>aM lev cl aB (de.set 4 (some x)) (lv.set 4 (ba x))) (rs.map ax) [d0,d1,some (.lst L),some (aK t),o4] [l0,l1,l2,l3,l4] =
   .next [d0,d1,some (.lst (L++rs.map λr=>aK (t++[r]))),some (aK t),o4'] [l0,l1,l2',l3',l4']
 |[],L,o4,l2,l3,l4,h2,_=>⟨o4,l2,l3,l4,h2,by simp[zq]⟩
 |r::rs,L,o4,l2,l3,l4,h2,hL=>by
  rw[QG]at hL;obtain⟨a2,a3,a4,h2',e⟩:=Bk (lev:=lev) (cl:=cl) d0 d1 L ht htr r (by lia) l0 l1 l2 l3 (ba (ax r)) h2;obtain⟨o4',b2,b3,b4,hb,e'⟩:=n9 d0 d1 ht htr l0 l1 rs (L++[aK (t++[r])]) (some (ax r)) a2 a3 a4 h2' (by simp;lia);refine⟨o4',b2,b3,b4,hb,?_⟩;rw[QJ];unfold zq;simp only[Q8,Q7,e];rw[e',QJ,Qj];rfl
def nE(n i:Nat)(ts:List (List (List Int))):Prop:=∀t∈ts,t.length<=i/\∀r∈t,r.length=n
def u6 {n:Nat}(hn:n<=100)(hcol:∀c,c<n->cl 3 [aK t,.int (c:Int)]=.ok (ax (qC t c)))(d0 d2 d4:Option Dat):am cl sE [d0,some (.int n),d2,some (aK t),d4]=.ok (ax (yo n t)):=by
 unfold sE;rw[xk];simp only[xZ,zA,zm,zr,bK,eG (show n<=1000 by lia),x5];rw[Et 0 1 n (λc=>.int (qC t c).sum) (λc _=>by simp) (λc hc=>?_) (by unfold aq;lia)]
 .simp only[ax,yo,WO];rfl
 .rw[show(0+1*(c:Int))=(c:Int) by lia];simp only[Wu,Wm,wt,xj,zC,zB,zm,zr,bK,zu,hcol c hc,C9]
theorem n8 (hn:n<=100)(hcol:∀t:List (List Int),t.length<=100->(∀r∈t,r.length=n)->∀c,c<n->cl 3 [aK t,.int (c:Int)]=.ok (ax (qC t c)))(d0:Option Dat):
  ∀(ts:List (List (List Int))) (L:List Dat) (o3 o4:Option Dat) (l0 l1 l2 l3 l4:Lv),(l2=.top\/l2=.full)->nE n 100 ts->(∀t∈ts,cl 5 [ax (yo n t)]=.ok (aK (dh (yo n t)))/\(dh (yo n t)).length<=50)->L.length+ts.length*50<aq ->
  ∃o3' o4' l0' l1' l2' l3' l4',(l2'=.top\/l2'=.full)/\zq (λx de lv=>aM lev cl gm (de.set 3 (some x)) (lv.set 3 (ba x))) (ts.map aK) [d0,some (.int n),some (.lst L),o3,o4] [l0,l1,l2,l3,l4] =
   .next [d0,some (.int n),some (.lst (L++(vg n ts).map aK)),o3',o4'] [l0',l1',l2',l3',l4']
 |[],L,o3,o4,l0,l1,l2,l3,l4,h2,_,_,_=>⟨o3,o4,l0,l1,l2,l3,l4,h2,by simp[zq,vg]⟩
 |t::ts,L,o3,o4,l0,l1,l2,l3,l4,h2,hk,hr,hL=>by
  rw[QG]at hL;obtain⟨k1,k2⟩:=hk t (by simp);obtain⟨r1,r2⟩:=hr t (by simp);obtain⟨o4',a2,a3,a4,ha,e⟩:=n9 (lev:=lev) (cl:=cl) d0 (some (.int n)) k1 (λx hx=>by rw[k2 x hx];exact hn) l0 .no (dh (yo n t)) L o4 l2 .no l4 h2 (by lia);have hb:aM lev cl gm [d0,some (.int n),some (.lst L),some (aK t),o4] [l0,l1,l2,ba (aK t),l4]=.next [d0,some (.int n),some (.lst (L++(dh (yo n t)).map λr=>aK (t++[r]))),some (aK t),o4'] [l0,.no,a2,a3,a4]:=by
   unfold gm;rw[wv];simp only[xj,zC,zB,u6 hn (hcol t k1 k2),bK,zu,r1,cj];rw[show cB (aK (dh (yo n t)))=some ((dh (yo n t)).map ax)from x6 (by rw[Qp];unfold aq;lia)];exact e
  obtain⟨p3,p4,c0,c1,c2,c3,c4,hc,e'⟩:=n8 hn hcol d0 ts (L++(dh (yo n t)).map λr=>aK (t++[r])) (some (aK t)) o4' l0 .no a2 a3 a4 ha (λq hq=>hk q (by simp[hq])) (λq hq=>hr q (by simp[hq])) (by simp;lia);refine⟨p3,p4,c0,c1,c2,c3,c4,hc,?_⟩;rw[QJ];unfold zq;simp only[Q8,Q7,hb];rw[e',show vg n (t::ts)=(dh (yo n t)).map (λr=>t++[r])++vg n ts from rfl,WI,WO,Qj];rfl
def Bj (hn:n<=100)(hcol:∀t:List (List Int),t.length<=100->(∀r∈t,r.length=n)->∀c,c<n->cl 3 [aK t,.int (c:Int)]=.ok (ax (qC t c)))(hk:nE n 100 ts)(hz:ts.length<=1000)(hr:∀t∈ts,cl 5 [ax (yo n t)]=.ok (aK (dh (yo n t)))/\(dh (yo n t)).length<=50)(hlev:lev k=.no):xh lev cl k tV [ya ts,.int n]=.ok (ya (vg n ts)):=by
 obtain⟨p3,p4,c0,c1,c2,c3,c4,hc,e⟩:=n8 (lev:=lev) (cl:=cl) hn hcol (some (ya ts)) ts [] none none .no .full .full .full .full (.inr rfl) hk hr (by simp;unfold aq;lia);have h1:aM lev cl (.asg 2 (.lst .unit)) [some (ya ts),some (.int n),none,none,none] [.no,.full,.full,.full,.full]=.next [some (ya ts),some (.int n),some (.lst []),none,none] [.no,.full,.full,.full,.full]:=by
  rw[yC];simp only[vd,zB,bK,zu];rw[yr (by simp)];simp only[cj];rw[xR (by simp)];rfl
 have h2:aM lev cl (.forv 3 (.var 0) gm) [some (ya ts),some (.int n),some (.lst []),none,none] [.no,.full,.full,.full,.full]=.next [some (ya ts),some (.int n),some (.lst ((vg n ts).map aK)),p3,p4] [c0,c1,c2,c3,c4]:=by
  rw[wv];simp only[zm,cj];rw[show cB (ya ts)=some (ts.map aK)from x6 (by rw[Qp];unfold aq;lia)];exact e
 unfold xh;rw[Lp (by rfl),hlev];show xQ .no (aM lev cl (.seq (.asg 2 (.lst .unit)) (.seq (.forv 3 (.var 0) gm) (.ret (.var 2)))) [some (ya ts),some (.int n),none,none,none] [ba (ya ts),ba (.int n),.full,.full,.full])=_;rw[show ba (ya ts)=.no from by simp[ba,ya],show ba (.int (n:Int))=.full from by simp[ba],xx,h1,zt,kc,h2,zt,ve];simp only[zr,zm,cj];simp[xQ,jN,ya]
noncomputable def df(n:Nat):Nat->List (List (List Int))->List (List (List Int))
 |0,ts=>ts
 |k+1,ts=>df n k (vg n ts)
def pQ:Fn:=⟨1,3,(.seq (.expr (.call 2 (.pair (.var 0) (.pair (.lit (.int 5)) .unit)))) (.seq (.asg 1 (.lst (.pair (.lst .unit) .unit))) (.seq (.forv 2 (.rng (.lit (.int 0)) (.var 0) (.lit (.int 1))) (.asg 1 (.call 6 (.pair (.var 1) (.pair (.var 0) .unit))))) (.ret (.blt .sorted (.pair (.var 1) .unit))))))⟩
theorem nZ:∀(xs:List Dat) (ts:List (List (List Int))) (o2:Option Dat) (lv:List Lv),(∀j,j<xs.length->cl 6 [ya (df n j ts),.int n]=.ok (ya (df n (j+1) ts))) ->
  ∃o2' lv',zq (λx de lv=>aM lev cl (.asg 1 (.call 6 (.pair (.var 1) (.pair (.var 0) .unit)))) (de.set 2 (some x)) (lv.set 2 (ba x))) xs [some (.int n),some (ya ts),o2] lv=.next [some (.int n),some (ya (df n xs.length ts)),o2'] lv'
 |[],ts,o2,lv,_=>⟨o2,lv,rfl⟩
 |x::xs,ts,o2,lv,h=>by
  have h0:cl 6 [ya ts,.int n]=.ok (ya (vg n ts)):=h 0 (by simp);obtain⟨lv1,e1⟩:∃lv',yZ lev 1 (.call 6 (.pair (.var 1) (.pair (.var 0) .unit))) (ya (vg n ts)) [some (.int n),some (ya ts),some x] (lv.set 2 (ba x))=.next [some (.int n),some (ya (vg n ts)),some x] lv':=by
   unfold yZ;split
   .exact ⟨_,rfl⟩
   .exact ⟨_,rfl⟩
  obtain⟨o2',lv2,e2⟩:=nZ xs (vg n ts) (some x) lv1 (λj hj=>h (j+1) (by rw[QG];lia));refine⟨o2',lv2,?_⟩;unfold zq;simp only[Q8,Q7,yC,xj,zC,zB,zr,zm,bK,zu,h0,cj,e1];exact e2
def Gf {n:Nat}(hn:n<=100)(h2:cl 2 [.int n,.int 5]=.ok .non)(h6:∀j,j<n->cl 6 [ya (df n j [[]]),.int n]=.ok (ya (df n (j+1) [[]])))(hs:xf .sorted [ya (df n n [[]])]=.ok (.lst ss))(hlev:lev k=.no):xh lev cl k pQ [.int n]=.ok (.lst ss):=by
 obtain⟨lv1,e1⟩:∃lv',yZ lev 1 (.lst (.pair (.lst .unit) .unit)) (ya [[]]) [some (.int n),none,none] [ba (.int n),.full,.full]=.next [some (.int n),some (ya [[]]),none] lv':=by
  unfold yZ;split
  .exact ⟨_,rfl⟩
  .exact ⟨_,rfl⟩
 obtain⟨o2,lv2,e2⟩:=nZ (lev:=lev) (cl:=cl) (n:=n) (yA 0 1 n) [[]] none lv1 (λj hj=>h6 j (by simpa using hj));rw[wu]at e2;unfold xh;rw[Lp (by rfl),hlev];show xQ .no (aM lev cl (.seq (.expr (.call 2 (.pair (.var 0) (.pair (.lit (.int 5)) .unit)))) (.seq (.asg 1 (.lst (.pair (.lst .unit) .unit))) (.seq (.forv 2 (.rng (.lit (.int 0)) (.var 0) (.lit (.int 1))) (.asg 1 (.call 6 (.pair (.var 1) (.pair (.var 0) .unit))))) (.ret (.blt .sorted (.pair (.var 1) .unit)))))) [some (.int n),none,none] [ba (.int n),.full,.full])=_;have s0:aM lev cl (.expr (.call 2 (.pair (.var 0) (.pair (.lit (.int 5)) .unit)))) [some (.int n),none,none] [ba (.int n),.full,.full]=.next [some (.int n),none,none] [ba (.int n),.full,.full]:=by
  show(am cl (.call 2 (.pair (.var 0) (.pair (.lit (.int 5)) .unit))) [some (.int n),none,none]).bindS _=_;simp only[xj,zC,zB,zA,zm,bK,zu,h2,cj]
 have s1:am cl (.lst (.pair (.lst .unit) .unit)) [some (.int n),none,none]=.ok (ya [[]]):=by
  simp only[vd,zC,zB,bK,zu];rw[yr (show([]:List Dat).length<=aq by simp)];simp only[bK,zu];exact yr (show([.lst []]:List Dat).length<=aq by unfold aq;simp)
 rw[xx,s0,zt,xx,yC,s1];simp only[cj,e1,zt];rw[kc,wv];simp only[xZ,zA,zm,bK,eG (show n<=1000 by lia),cj,x5,vJ,wK,if_true];rw[e2,zt,ve];simp only[wt,zC,zB,zr,zm,bK,zu,hs,cj];simp[xQ,jN]
end
end Lib
namespace Lib
section
variable{lev:Nat->Lv}{cl:Nat->List Dat->Rd}
def aZ:Ex:=.compP .zip (.bin .add (.var 10) (.var 11)) (.var 6) (.var 8) (.lit (.bl true))
noncomputable def aC:Ex:=.and (.cmp .ge (.blt .minS (.pair (.var 9) .unit)) (.lit (.int 0))) (.cmp .le (.blt .maxS (.pair (.var 9) .unit)) (.lit (.int 1)))
noncomputable def aQ:Ex:=.bin .add (.dop .get (.var 5) (.var 9) (.lit (.int 0))) (.var 7)
noncomputable def aY:Sm:=.seq (.asg 9 (.blt .tuple (.pair aZ .unit))) (.ite aC (.dput 5 (.var 9) aQ) .skip)
abbrev DI:=List (List Int×Int)
noncomputable def dI(D:DI):Dat:=.dct (D.map (·.1)) (D.map λp=>.int p.2)
noncomputable def vK:DI->List Int->Int->DI
 |[],q,v=>[(q,v)]
 |p::D,q,v=>if p.1=q then(p.1,p.2+v)::D else p::vK D q v
noncomputable def jO:DI->List Int->Int
 |[],_=>0
 |p::D,q=>if p.1=q then p.2 else jO D q
theorem gn(q:List Int)(v:Int):∀D:DI,(vK D q v).map (·.1)=xn (D.map (·.1)) q
 |[]=>rfl
 |p::D=>by
  have ih:=gn q v D;show((if p.1=q then(p.1,p.2+v)::D else p::vK D q v:DI)).map (·.1)=(if q∈p.1::D.map (·.1)then p.1::D.map (·.1)else(p.1::D.map (·.1))++[q]);by_cases c:p.1=q
  .simp[c]
  .have c':¬q=p.1:=λe=>c e.symm;rw[Lq c,QJ,ih];unfold xn;by_cases m:q∈D.map (·.1)
   .rw[Lp m,Lp (Qk _ m)]
   .rw[Lq m,Lq (λz=>(Qo.mp z).elim c' m)];rfl
theorem gp(q:List Int)(v:Int):∀D:DI,((vK D q v).map λp=>Dat.int p.2)=zK (D.map (·.1)) (D.map λp=>Dat.int p.2) q (.int (jO D q+v))
 |[]=>by simp[vK,zK,jO]
 |p::D=>by
  have ih:=gp q v D;simp only[QJ];unfold vK zK jO;by_cases c:p.1=q
  .simp[c]
  .simp only[Lq c,QJ,ih]
theorem pP(q:List Int):∀D:DI,(match cb (D.map (·.1)) (D.map λp=>Dat.int p.2) q with|some v=>Rd.ok v|none=>Rd.ok (.int 0))=.ok (.int (jO D q))
 |[]=>rfl
 |p::D=>by
  have ih:=pP q D;simp only[QJ];unfold cb jO;by_cases c:p.1=q
  .simp[c]
  .simp only[Lq c,ih]
theorem sO(q:List Int)(v:Int):∀D:DI,(vK D q v).length<=D.length+1
 |[]=>Qg _
 |p::D=>by
  have:=sO q v D;unfold vK;split<;>simp<;>lia
def C7(i:Int)(r:List Int):xf .minS [zD (i::r)]=.ok (.int (yU i r)):=by
 show(match (some ((i::r).map Dat.int)).bind zy with|some (i::r)=>Rd.ok (.int (yU i r))|_=>.no)=_;rw[QS,ye]
def C6(i:Int)(r:List Int):xf .maxS [zD (i::r)]=.ok (.int (xm i r)):=by
 show(match (some ((i::r).map Dat.int)).bind zy with|some (i::r)=>Rd.ok (.int (xm i r))|_=>.no)=_;rw[QS,ye]
def C5(a b:List Int)(ha:a.length<=aq)(hb:b.length<=aq):yB .zip (zD a) (ax b)=some ((a.zip b).map λp=>(Dat.int p.1,Dat.int p.2)):=by
 simp only[yB,e7,ax,zD,Qp];rw[List.zip_map,Lp ⟨ha,hb⟩];rfl
noncomputable def xS(s:List Int)(v:Int)(l:List Int)(D:DI):DI:=if dz (QU (·+·) s l)then vK D (QU (·+·) s l) v else D
def Bh(x0 d0 d1 d2 d3 o8:Option Dat)(D:DI)(s l:List Int)(v:Int)(y0 l0 l1 l2 l3 l5 l6 l7 l8:Lv)(hs:s≠[])(hl:l≠[])(hs1:s.length<=100)(hl1:l.length<=100)(hD:D.length<aq):
  aM lev cl aY [x0,d0,d1,d2,d3,some (dI D),some (zD s),some (.int v),some (ax l),o8] [y0,l0,l1,l2,l3,.full,l5,l6,l7,l8] =
   .next [x0,d0,d1,d2,d3,some (dI (xS s v l D)),some (zD s),some (.int v),some (ax l),some (zD (QU (·+·) s l))] [y0,l0,l1,l2,l3,.full,l5,l6,l7,.full]:=by
 have hev:am cl aZ [x0,d0,d1,d2,d3,some (dI D),some (zD s),some (.int v),some (ax l),o8]=.ok (ax (QU (·+·) s l)):=by
  unfold aZ;rw[jw];simp only[zm,zr,bK];rw[C5 s l (by unfold aq;lia) (by unfold aq;lia)];simp only;rw[zV (λ(p:Int×Int)=>(Dat.int p.1,Dat.int p.2)) (λp=>.int (p.1+p.2)) _ [] (λp _=>by simp) (λp _=>by simp) (by rw[VL];simp;unfold aq;lia)];simp[ax,List.zip,List.map_zipWith]
 have hev2:am cl (.blt .tuple (.pair aZ .unit)) [x0,d0,d1,d2,d3,some (dI D),some (zD s),some (.int v),some (ax l),o8]=.ok (zD (QU (·+·) s l)):=by
  rw[wt,zC,hev];rfl
 have hlv:aT lev (.blt .tuple (.pair aZ .unit)) (zD (QU (·+·) s l))=.full:=by
  generalize QU (·+·) s l=z;unfold zD;simp
 unfold aY;rw[oV,yC,hev2];simp only[cj];rw[xR hlv];simp only[zt,Q8,Q7];unfold xS;obtain⟨i,r,hz⟩:∃i r,QU (·+·) s l=i::r:=by
  cases s with
  |nil=>exact Lr rfl hs
  |cons a s=>cases l with
   |nil=>exact Lr rfl hl
   |cons b l=>exact⟨_,_,rfl⟩
 rw[hz]at *
 have hc:am cl aC [x0,d0,d1,d2,d3,some (dI D),some (zD s),some (.int v),some (ax l),some (zD (i::r))]=.ok (.bl (dz (i::r))):=by
  unfold aC;simp only[oZ,pc,wt,zC,zB,zA,zr,zm,bK,zu,C7,C6,oD,oE];show _=Rd.ok (.bl (decide (0<=yU i r)&&decide (xm i r<=1)));cases decide (0<=yU i r)<;>rfl
 rw[oW,hc];simp only[cj];cases dz (i::r)with
 |false=>rfl
 |true=>
  have hk:yI (zD (i::r))=some (i::r):=ye (i::r);have hg:am cl (.dop .get (.var 5) (.var 9) (.lit (.int 0))) [x0,d0,d1,d2,d3,some (dI D),some (zD s),some (.int v),some (ax l),some (zD (i::r))]=.ok (.int (jO D (i::r))):=by
   show(match yI (zD (i::r))with
    |some q=>match cb (D.map λ(p:List Int×Int)=>p.1) (D.map λ(p:List Int×Int)=>Dat.int p.2) q with
     |some v=>Rd.ok v
     |none=>Rd.ok (.int 0)
    |none=>.no)=_
   rw[hk];exact pP _ D
  have he:am cl aQ [x0,d0,d1,d2,d3,some (dI D),some (zD s),some (.int v),some (ax l),some (zD (i::r))]=.ok (.int (jO D (i::r)+v)):=by
   unfold aQ;rw[qz,hg];rfl
  have hl:aT lev aQ (.int (jO D (i::r)+v))=.full:=by unfold aQ;simp
  show(am cl aQ [x0,d0,d1,d2,d3,some (dI D),some (zD s),some (.int v),some (ax l),some (zD (i::r))]).okS (λd=>(am cl (.var 9) [x0,d0,d1,d2,d3,some (dI D),some (zD s),some (.int v),some (ax l),some (zD (i::r))]).okS λq=>match some (some (dI D)),yI q with
   |some (some (.dct ks ds)),some q=>if some Lv.full=some .full/\aT lev aQ d=.full/\ks.length<aq then .next [x0,d0,d1,d2,d3,some (.dct (xn ks q) (zK ks ds q d)),some (zD s),some (.int v),some (ax l),some (zD (i::r))] [y0,l0,l1,l2,l3,.full,l5,l6,l7,.full]else .no
   |_,_=>.no)=_
  rw[he];simp only[i9,zr,zm,hk];show(if True/\aT lev aQ (.int (jO D (i::r)+v))=.full/\(D.map λ(p:List Int×Int)=>p.1).length<aq then _ else _)=_;simp only[hl,Qp,hD,and_self,if_true];unfold dI;rw[gn,gp]
noncomputable def x9(s:List Int)(v:Int):List (List Int)->DI->DI
 |[],D=>D
 |l::cs,D=>x9 s v cs (xS s v l D)
def gq(s:List Int)(v:Int)(l:List Int)(D:DI):(xS s v l D).length<=D.length+1:=by
 unfold xS;split
 .exact sO _ _ D
 .lia
theorem gs(s:List Int)(v:Int):∀(cs:List (List Int)) (D:DI),(x9 s v cs D).length<=D.length+cs.length
 |[],D=>Qg _
 |l::cs,D=>by
  have h1:=gq s v l D;have h2:=gs s v cs (xS s v l D);show(x9 s v cs (xS s v l D)).length<=_;rw[QG];lia
theorem oT(x0 d0 d1 d2 d3:Option Dat)(s:List Int)(v:Int)(y0 l0 l1 l2 l3 l5 l6:Lv)(hs:s≠[])(hs1:s.length<=100):∀(cs:List (List Int)) (D:DI) (o7 o8:Option Dat) (l7 l8:Lv),(∀l∈cs,l≠[]/\l.length<=100)->D.length+cs.length<aq ->
  ∃o7' o8' l7' l8',zq (λx de lv=>aM lev cl aY (de.set 8 (some x)) (lv.set 8 (ba x))) (cs.map ax) [x0,d0,d1,d2,d3,some (dI D),some (zD s),some (.int v),o7,o8] [y0,l0,l1,l2,l3,.full,l5,l6,l7,l8] =
   .next [x0,d0,d1,d2,d3,some (dI (x9 s v cs D)),some (zD s),some (.int v),o7',o8'] [y0,l0,l1,l2,l3,.full,l5,l6,l7',l8']
 |[],D,o7,o8,l7,l8,_,_=>⟨o7,o8,l7,l8,rfl⟩
 |l::cs,D,o7,o8,l7,l8,hc,hD=>by
  rw[QG]at hD;obtain⟨hl,hl1⟩:=hc l (by simp);have e:=Bh (lev:=lev) (cl:=cl) x0 d0 d1 d2 d3 o8 D s l v y0 l0 l1 l2 l3 l5 l6 (ba (ax l)) l8 hs hl hs1 hl1 (by lia);have hn:=gq s v l D;obtain⟨o7',o8',a7,a8,e'⟩:=oT x0 d0 d1 d2 d3 s v y0 l0 l1 l2 l3 l5 l6 hs hs1 cs (xS s v l D) (some (ax l)) (some (zD (QU (·+·) s l))) (ba (ax l)) .full (λq hq=>hc q (by simp[hq])) (by lia);refine⟨o7',o8',a7,a8,?_⟩;rw[QJ];unfold zq;simp only[Q8,Q7,e];exact e'
noncomputable def vL(cs:List (List Int)):DI->DI->DI
 |[],E=>E
 |p::ps,E=>vL cs ps (x9 p.1 p.2 cs E)
def dQ(n:Nat)(D:DI):Prop:=∀p∈D,p.1.length=n
theorem pO (hq:q.length=n):∀{D:DI},dQ n D->dQ n (vK D q v)
 |[],_=>λp hp=>by rw[show vK [] q v=[(q,v)]from rfl,Qt]at hp;subst hp;exact hq
 |p::D,h=>λx hx=>by
  unfold vK at hx;split at hx
  .rcases Qo.mp hx with rfl|hx
   .exact h p (by simp)
   .exact h x (by simp[hx])
  .rcases Qo.mp hx with rfl|hx
   .exact h _ (by simp)
   .exact pO hq (λy hy=>h y (by simp[hy])) x hx
theorem sN (hs:s.length=n):∀{cs:List (List Int)}{D:DI},(∀l∈cs,l.length=n)->dQ n D->dQ n (x9 s v cs D)
 |[],D,_,h=>h
 |l::cs,D,hc,h=>by
  have h1:dQ n (xS s v l D):=by
   unfold xS;split
   .exact pO (by simp[hs,hc l (by simp)]) h
   .exact h
  exact sN (D:=xS s v l D) hs (λq hq=>hc q (by simp[hq])) h1
theorem sM (hc:∀l∈cs,l.length=n):∀{ps E:DI},dQ n ps->dQ n E->dQ n (vL cs ps E)
 |[],E,_,h=>h
 |p::ps,E,hp,h=>sM (E:=x9 p.1 p.2 cs E) hc (λq hq=>hp q (by simp[hq])) (sN (hp p (by simp)) hc h)
theorem oS (hn:0<n)(hn1:n<=100)(x0 d0 d1 d3:Option Dat)(hc:qB n cs)(y0 l0 l1 l3:Lv):∀(ps E:DI) (o5 o6 o7 o8:Option Dat) (l2 l5 l6 l7 l8:Lv),dQ n ps->E.length+ps.length*cs.length<aq ->
  ∃o5' o6' o7' o8' l2' l5' l6' l7' l8',zq (λ(p:Dat×Dat) de lv=>aM lev cl (.forv 8 (.var 3) aY) ((de.set 6 (some p.1)).set 7 (some p.2)) ((lv.set 6 (ba p.1)).set 7 (ba p.2))) (ps.map λp=>(zD p.1,Dat.int p.2)) [x0,d0,d1,some (aK cs),d3,some (dI E),o5,o6,o7,o8] [y0,l0,l1,l2,l3,.full,l5,l6,l7,l8] =
   .next [x0,d0,d1,some (aK cs),d3,some (dI (vL cs ps E)),o5',o6',o7',o8'] [y0,l0,l1,l2',l3,.full,l5',l6',l7',l8']
 |[],E,o5,o6,o7,o8,l2,l5,l6,l7,l8,_,_=>⟨o5,o6,o7,o8,l2,l5,l6,l7,l8,rfl⟩
 |p::ps,E,o5,o6,o7,o8,l2,l5,l6,l7,l8,hp,hL=>by
  rw[QG,VB]at hL;have p1:=hp p (by simp);obtain⟨o7',o8',l7',l8',e⟩:=oT (lev:=lev) (cl:=cl) x0 d0 d1 (some (aK cs)) d3 p.1 p.2 y0 l0 l1 .no l3 (ba (zD p.1)) (ba (.int p.2)) (wL hn p1) (by lia) cs E o7 o8 l7 l8 (λl hl=>⟨wL hn (hc.2 l hl),by rw[hc.2 l hl];exact hn1⟩) (by lia);have hq:=gs p.1 p.2 cs E;obtain⟨a5,a6,a7,a8,b2,b5,b6,b7,b8,e'⟩:=oS hn hn1 x0 d0 d1 d3 hc y0 l0 l1 l3 ps (x9 p.1 p.2 cs E) (some (zD p.1)) (some (.int p.2)) o7' o8' .no (ba (zD p.1)) (ba (.int p.2)) l7' l8' (λq hq=>hp q (by simp[hq])) (by lia);refine⟨a5,a6,a7,a8,b2,b5,b6,b7,b8,?_⟩;rw[QJ];unfold zq;have hb:aM lev cl (.forv 8 (.var 3) aY) [x0,d0,d1,some (aK cs),d3,some (dI E),some (zD p.1),some (.int p.2),o7,o8] [y0,l0,l1,l2,l3,.full,ba (zD p.1),ba (.int p.2),l7,l8]=.next [x0,d0,d1,some (aK cs),d3,some (dI (x9 p.1 p.2 cs E)),some (zD p.1),some (.int p.2),o7',o8'] [y0,l0,l1,.no,l3,.full,ba (zD p.1),ba (.int p.2),l7',l8']:=by
   rw[wv];simp only[zr,zm,cj];rw[show cB (aK cs)=some (cs.map ax)from x6 (by rw[Qp];unfold aq;have:=hc.1;lia)];exact e
  simp only[Q8,Q7,hb];exact e'
end
end Lib
namespace Lib
section
variable{lev:Nat->Lv}{cl:Nat->List Dat->Rd}{k:Nat}
noncomputable def kr(cs:List (List Int)):Nat->DI->DI
 |0,D=>D
 |k+1,D=>kr cs k (vL cs D [])
noncomputable def aO:Sm:=.seq (.asg 5 .dict0) (.seq (.forI 6 7 2 (.forv 8 (.var 3) aY)) (.asg 2 (.var 5)))
def Bg(D:DI):((D.map (·.1)).map zD).zip (D.map λp=>Dat.int p.2)=D.map λp=>(zD p.1,Dat.int p.2):=by
 induction D with
 |nil=>rfl
 |cons p D ih=>simp only[QJ,Wv,ih]
def Bf (hn:0<n)(hn1:n<=100)(x0 d0 d3:Option Dat)(hc:qB n cs)(hp:dQ n ps)(hz:ps.length<=1000)(o4 o5 o6 o7 o8:Option Dat)(y0 l0 l1 l2 l3 l4 l5 l6 l7 l8:Lv):
  ∃o4' o5' o6' o7' o8' y0' l0' l1' l2' l3' l4' l5' l6' l7' l8',aM lev cl aO [x0,d0,some (dI ps),some (aK cs),d3,o4,o5,o6,o7,o8] [y0,l0,l1,l2,l3,l4,l5,l6,l7,l8] =
   .next [x0,d0,some (dI (vL cs ps [])),some (aK cs),d3,o4',o5',o6',o7',o8'] [y0',l0',l1',l2',l3',l4',l5',l6',l7',l8']:=by
 have hc1:=hc.1;have hm:ps.length*cs.length<=1000*90:=Nat.mul_le_mul hz hc1;obtain⟨a5,a6,a7,a8,b2,b5,b6,b7,b8,e⟩:=oS (lev:=lev) (cl:=cl) hn hn1 x0 d0 (some (dI ps)) d3 hc y0 l0 .no l3 ps [] o5 o6 o7 o8 l2 l5 l6 l7 l8 hp (by simp;unfold aq;lia);have h1:aM lev cl (.asg 5 .dict0) [x0,d0,some (dI ps),some (aK cs),d3,o4,o5,o6,o7,o8] [y0,l0,l1,l2,l3,l4,l5,l6,l7,l8]=.next [x0,d0,some (dI ps),some (aK cs),d3,some (dI []),o5,o6,o7,o8] [y0,l0,l1,l2,l3,.full,l5,l6,l7,l8]:=by
  show(Rd.ok (.dct [] [])).bindS (λd=>yZ lev 5 .dict0 d _ _)=_;rw[cj,xR (by simp[aT])];rfl
 have h2:aM lev cl (.forI 6 7 2 (.forv 8 (.var 3) aY)) [x0,d0,some (dI ps),some (aK cs),d3,some (dI []),o5,o6,o7,o8] [y0,l0,l1,l2,l3,.full,l5,l6,l7,l8]=.next [x0,d0,some (dI ps),some (aK cs),d3,some (dI (vL cs ps [])),a5,a6,a7,a8] [y0,l0,.no,b2,l3,.full,b5,b6,b7,b8]:=by
  show(if(ps.map λ(p:List Int×Int)=>p.1).length<=aq/\(ps.map λ(p:List Int×Int)=>p.1).length=(ps.map λ(p:List Int×Int)=>Dat.int p.2).length then zq _ (((ps.map λ(p:List Int×Int)=>p.1).map zD).zip (ps.map λ(p:List Int×Int)=>Dat.int p.2)) _ _ else .no)=_;rw[Lp ⟨by rw[Qp];unfold aq;lia,by simp⟩,Bg];exact e
 unfold aO;rw[xx,h1,zt,zY lev cl _ _ rfl,h2,zt,yC];simp only[zr,zm,cj];unfold yZ;split
 .exact ⟨_,_,_,_,_,_,_,_,_,_,_,_,_,_,_,rfl⟩
 .exact ⟨_,_,_,_,_,_,_,_,_,_,_,_,_,_,_,rfl⟩
theorem oR (hn:0<n)(hn1:n<=90)(x0 d0:Option Dat)(hc:qB n cs):∀(xs:List Dat) (ps:DI) (o3 o4 o5 o6 o7 o8:Option Dat) (y0 l0 l1 l2 l3 l4 l5 l6 l7 l8:Lv),dQ n ps->(∀j,j<=xs.length->(kr cs j ps).length<=1000) ->
  ∃o3' o4' o5' o6' o7' o8' lv',zq (λx de lv=>aM lev cl aO (de.set 4 (some x)) (lv.set 4 (ba x))) xs [x0,d0,some (dI ps),some (aK cs),o3,o4,o5,o6,o7,o8] [y0,l0,l1,l2,l3,l4,l5,l6,l7,l8] =
   .next [x0,d0,some (dI (kr cs xs.length ps)),some (aK cs),o3',o4',o5',o6',o7',o8'] lv'
 |[],ps,o3,o4,o5,o6,o7,o8,y0,l0,l1,l2,l3,l4,l5,l6,l7,l8,_,_=>⟨o3,o4,o5,o6,o7,o8,_,rfl⟩
 |x::xs,ps,o3,o4,o5,o6,o7,o8,y0,l0,l1,l2,l3,l4,l5,l6,l7,l8,hp,hz=>by
  obtain⟨a4,a5,a6,a7,a8,bz,b0,b1,b2,b3,b4,b5,b6,b7,b8,e⟩:=Bf (lev:=lev) (cl:=cl) hn (by lia) x0 d0 (some x) hc hp (hz 0 (by simp)) o4 o5 o6 o7 o8 y0 l0 l1 l2 (ba x) l4 l5 l6 l7 l8;obtain⟨c3,c4,c5,c6,c7,c8,lv',e'⟩:=oR hn hn1 x0 d0 hc xs (vL cs ps []) (some x) a4 a5 a6 a7 a8 bz b0 b1 b2 b3 b4 b5 b6 b7 b8 (sM hc.2 hp λ_ h=>by cases h) (λj hj=>hz (j+1) (by rw[QG];lia));refine⟨c3,c4,c5,c6,c7,c8,lv',?_⟩;unfold zq;simp only[Q8,Q7,e];exact e'
noncomputable def bA:Ex:=.dop .one .unit (.blt .tuple (.pair (.var 0) .unit)) (.lit (.int 1))
noncomputable def bR:Ex:=.rng (.lit (.int 0)) (.bin .sub (.var 1) (.lit (.int 1))) (.lit (.int 1))
noncomputable def nC(ka:Nat):Fn:=⟨2,10,(.seq (.asg 2 bA) (.seq (.asg 3 (.call ka (.pair (.var 1) .unit))) (.seq (.forv 4 bR aO) (.ret (.dop .sum (.var 2) .unit .unit)))))⟩
noncomputable def eY:DI->Int
 |[]=>0
 |p::D=>p.2+eY D
theorem pN:∀D:DI,vG (D.map λp=>Dat.int p.2)=some (eY D)
 |[]=>rfl
 |p::D=>by
  have ih:=pN D;rw[QJ];unfold vG;rw[ih];rfl
def C4 (hn:0<n)(hn1:n<=90)(hc:qB n cs)(h:cl ka [.int n]=.ok (aK cs))(hf:f.length=n)(hz:∀j,j<=n-1->(kr cs j [(f,1)]).length<=1000)(hlev:lev k=.no):
  xh lev cl k (nC ka) [ax f,.int n]=.ok (.int (eY (kr cs (n-1) [(f,1)]))):=by
 have h1:am cl bA [some (ax f),some (.int n),none,none,none,none,none,none,none,none]=.ok (dI [(f,1)]):=by
  show(xf .tuple [ax f]).bind (λy=>(Rd.ok (.int 1)).bind λz=>vH .one (.tup []) y z)=_;show(vH .one (.tup []) (zD f) (.int 1))=_;show(match yI (zD f)with|some q=>Rd.ok (.dct [q] [.int 1])|none=>.no)=_;rw[show yI (zD f)=some f from ye _];rfl
 unfold xh;rw[Lp (by rfl),hlev];show xQ .no (aM lev cl (.seq (.asg 2 bA) (.seq (.asg 3 (.call ka (.pair (.var 1) .unit))) (.seq (.forv 4 bR aO) (.ret (.dop .sum (.var 2) .unit .unit))))) [some (ax f),some (.int n),none,none,none,none,none,none,none,none] [ba (ax f),ba (.int n),.full,.full,.full,.full,.full,.full,.full,.full])=_;rw[xx,yC,h1];simp only[cj];obtain⟨y0,l0,l1,l2,l3,l4,l5,l6,l7,l8,e1⟩:∃y0 l0 l1 l2 l3 l4 l5 l6 l7 l8,yZ lev 2 bA (dI [(f,1)]) [some (ax f),some (.int n),none,none,none,none,none,none,none,none] [ba (ax f),ba (.int n),.full,.full,.full,.full,.full,.full,.full,.full]=.next [some (ax f),some (.int n),some (dI [(f,1)]),none,none,none,none,none,none,none] [y0,l0,l1,l2,l3,l4,l5,l6,l7,l8]:=by
  unfold yZ;split
  .exact ⟨_,_,_,_,_,_,_,_,_,_,rfl⟩
  .exact ⟨_,_,_,_,_,_,_,_,_,_,rfl⟩
 rw[e1,zt,xx,yC];simp only[xj,zC,zB,zr,zm,bK,zu,h,cj];obtain⟨kz,k0,k1,k2,k3,k4,k5,k6,k7,k8,e2⟩:∃kz k0 k1 k2 k3 k4 k5 k6 k7 k8,yZ lev 3 (.call ka (.pair (.var 1) .unit)) (aK cs) [some (ax f),some (.int n),some (dI [(f,1)]),none,none,none,none,none,none,none] [y0,l0,l1,l2,l3,l4,l5,l6,l7,l8]=.next [some (ax f),some (.int n),some (dI [(f,1)]),some (aK cs),none,none,none,none,none,none] [kz,k0,k1,k2,k3,k4,k5,k6,k7,k8]:=by
  unfold yZ;split
  .exact ⟨_,_,_,_,_,_,_,_,_,_,rfl⟩
  .exact ⟨_,_,_,_,_,_,_,_,_,_,rfl⟩
 rw[e2,zt,kc,wv];have hr2:am cl bR [some (ax f),some (.int n),some (dI [(f,1)]),some (aK cs),none,none,none,none,none,none]=.ok (.tup (yA 0 1 (n-1))):=by
  unfold bR;simp only[xZ,zA,qz,zr,zm,bK];show((Rd.ok (.int ((n:Int)-1))).bind λy=>eD (.int 0) y (.int 1))=_;rw[bK,show(n:Int)-1=((n-1:Nat):Int) by lia,eG (show n-1<=1000 by lia)]
 rw[hr2];simp only[cj,x5,vJ,wK,if_true];obtain⟨c3,c4,c5,c6,c7,c8,lv',e3⟩:=oR (lev:=lev) (cl:=cl) hn hn1 (some (ax f)) (some (.int n)) hc (yA 0 1 (n-1)) [(f,1)] none none none none none none kz k0 k1 k2 k3 k4 k5 k6 k7 k8 (λp hp=>by simp at hp;subst hp;exact hf) (λj hj=>hz j (by simpa using hj));rw[e3,zt,wu];generalize kr cs (n-1) [(f,1)]=W at *
 have hv:am cl (.dop .sum (.var 2) .unit .unit) [some (ax f),some (.int n),some (dI W),some (aK cs),c3,c4,c5,c6,c7,c8]=.ok (.int (eY W)):=by
  show(match vG (W.map λ(p:List Int×Int)=>Dat.int p.2)with|some i=>Rd.ok (.int i)|none=>.no)=_;rw[pN]
 rw[ve,hv];simp[xQ,jN]
end
end Lib
namespace Lib
section
variable{lev:Nat->Lv}{cl:Nat->List Dat->Rd}{k:Nat}
def iQ:Sm:=.expr (.call 2 (.pair (.var 0) (.pair (.lit (.int 7)) .unit)))
noncomputable def iP:Sm:=.dput 1 (.tup (.pair (.var 2) .unit)) (.comp (.ife (.cmp .eq (.var 4) (.var 2)) (.lit (.int 1)) (.lit (.int 0))) (.rng (.lit (.int 0)) (.var 0) (.lit (.int 1))) (.lit (.bl true)))
noncomputable def ii:Sm:=.seq iQ (.seq (.asg 1 .dict0) (.forv 2 (.rng (.lit (.int 0)) (.var 0) (.lit (.int 1))) iP))
def eZ:Sm:=.asg 1 (.call 11 (.pair (.var 1) (.pair (.var 0) .unit)))
def fE:Ex:=.dget (.var 1) (.dop .trg (.var 0) .unit .unit)
noncomputable def nY:Fn:=⟨1,4,(.seq iQ (.seq (.asg 1 .dict0) (.seq (.forv 2 (.rng (.lit (.int 0)) (.var 0) (.lit (.int 1))) iP) (.seq (.forv 3 (.rng (.lit (.int 1)) (.var 0) (.lit (.int 1))) eZ) (.ret fE)))))⟩
def EY(r:bY)(f g:aS->List Lv->bY):(r.then f).then g=r.then λd l=>(f d l).then g:=by cases r<;>rfl
theorem pi{n:Nat}{W:Nat->Dat}(hl:lev 11=.full)(o2:Option Dat):∀(xs:List Dat) (j:Nat) (o3:Option Dat) (l0 l2 l3:Lv),(∀i,j<=i->i<j+xs.length->cl 11 [W i,.int n]=.ok (W (i+1))) ->
  ∃o3' l0' l2' l3',zq (λx de lv=>aM lev cl eZ (de.set 3 (some x)) (lv.set 3 (ba x))) xs [some (.int n),some (W j),o2,o3] [l0,.full,l2,l3]=.next [some (.int n),some (W (j+xs.length)),o2,o3'] [l0',.full,l2',l3']
 |[],j,o3,l0,l2,l3,_=>⟨o3,_,_,_,rfl⟩
 |x::xs,j,o3,l0,l2,l3,h=>by
  have h0:=h j (Qg _) (by rw[QG];lia);have e:aM lev cl eZ [some (.int n),some (W j),o2,some x] [l0,.full,l2,ba x]=.next [some (.int n),some (W (j+1)),o2,some x] [l0,.full,l2,ba x]:=by
   unfold eZ;rw[yC];simp only[xj,zC,zB,zr,zm,bK,zu,h0,cj];rw[xR (by unfold aT;rw[hl];simp)];rfl
  obtain⟨o3',k0,k2,k3,e'⟩:=pi hl o2 xs (j+1) (some x) l0 l2 (ba x) λi h1 h2=>h i (by lia) (by rw[QG];lia);refine⟨o3',k0,k2,k3,?_⟩;unfold zq;simp only[Q8,Q7,e];rw[e',QG,show j+1+xs.length=j+(xs.length+1) by lia]
def EL {n:Nat}(hn:0<n)(hn1:n<=7){W:Nat->Dat}(hl:lev 11=.full)(h0:aM lev cl ii [some (.int n),none,none,none] [ba (.int n),.full,.full,.full]=.next [some (.int n),some (W 1),o2,none] [l0,.full,l2,l3])(h1:∀i,1<=i->i<n->cl 11 [W i,.int n]=.ok (W (i+1)))(h2:wT (W n) (.tup (yA 0 1 n))=.ok r)(hlev:lev k=.full):xh lev cl k nY [.int n]=.ok r:=by
 unfold xh;rw[Lp (by rfl),hlev];show xQ .full (aM lev cl (.seq iQ (.seq (.asg 1 .dict0) (.seq (.forv 2 (.rng (.lit (.int 0)) (.var 0) (.lit (.int 1))) iP) (.seq (.forv 3 (.rng (.lit (.int 1)) (.var 0) (.lit (.int 1))) eZ) (.ret fE))))) [some (.int n),none,none,none] [ba (.int n),.full,.full,.full])=_;have key:aM lev cl (.seq iQ (.seq (.asg 1 .dict0) (.seq (.forv 2 (.rng (.lit (.int 0)) (.var 0) (.lit (.int 1))) iP) (.seq (.forv 3 (.rng (.lit (.int 1)) (.var 0) (.lit (.int 1))) eZ) (.ret fE))))) [some (.int n),none,none,none] [ba (.int n),.full,.full,.full]=(aM lev cl ii [some (.int n),none,none,none] [ba (.int n),.full,.full,.full]).then (aM lev cl (.seq (.forv 3 (.rng (.lit (.int 1)) (.var 0) (.lit (.int 1))) eZ) (.ret fE))):=by
  unfold ii;rw[xx,xx,EY];congr 1
 rw[key,h0,zt,kc,wv];have hr:am cl (.rng (.lit (.int 1)) (.var 0) (.lit (.int 1))) [some (.int n),some (W 1),o2,none]=.ok (.tup (yA 1 1 (n-1))):=by
  simp only[xZ,zA,zm,bK];rw[oX (by unfold aq;lia)];congr 3;unfold fA;rw[Lp rfl];lia
 rw[hr];simp only[cj,x5,vJ,wK,if_true];obtain⟨o3',k0,k2,k3,e⟩:=pi (lev:=lev) (cl:=cl) (n:=n) (W:=W) hl o2 (yA 1 1 (n-1)) 1 none l0 l2 l3 λi i1 i2=>h1 i i1 (by rw[wu]at i2;lia);rw[e,zt,wu,show 1+(n-1)=n by lia,ve];have hv:am cl fE [some (.int n),some (W n),o2,o3']=.ok r:=by
  have ht:vH .trg (.int n) (.tup []) (.tup [])=.ok (.tup (yA 0 1 n)):=by
   show(if -(aq:Int)<=(n:Int)/\(n:Int)<=aq then Rd.ok (.tup (yA 0 1 ((n:Int).toNat)))else .no)=_;rw[Lp (by unfold aq;lia),Wl]
  show(vH .trg (.int n) (.tup []) (.tup [])).bind (λy=>wT (W n) y)=_;rw[ht];exact h2
 rw[hv];simp[xQ,jN,eL,fE]
end
end Lib
namespace Lib
section
variable{lev:Nat->Lv}{cl:Nat->List Dat->Rd}{k:Nat}
noncomputable def dH(t:List (List Int)):Int:=match t with
 |r::_=>(((vq 1 r 0).getD 0:Nat):Int)
 |[]=>0
noncomputable def fG(n:Nat)(t:List (List Int)):Bool:=match t with
 |r::_=>(vq 1 r 0).isSome&&decide (r.length=n)
 |[]=>false
def iz(n:Nat)(ks:List Int):List Int:=(QL n).map λ(i:Nat)=>((ks.countP (· == ((i:Nat):Int)):Nat):Int)
def xE:Ex:=.dop .lix (.idx (.var 2) (.lit (.int 0))) (.lit (.int 1)) .unit
def yE:Ex:=.dop .lct (.var 1) (.var 2) .unit
noncomputable def tT:Fn:=⟨1,2,(.seq (.asg 1 (.comp xE (.call 7 (.pair (.var 0) .unit)) (.lit (.bl true)))) (.ret (.comp yE (.rng (.lit (.int 0)) (.var 0) (.lit (.int 1))) (.lit (.bl true)))))⟩
def nB(d:Dat)(ds:List Dat):xg (.lst (d::ds)) (.int 0)=.ok d:=pS (i:=0) (by simp)
def jB(n:Nat):yA 0 1 n=(QL n).map λ(i:Nat)=>Dat.int (i:Int):=by
 unfold yA;refine W9 λi _=>?_;congr 1;lia
def Be {n:Nat}(hn:n<=90)(hz:ts.length<=1000)(h7:cl 7 [.int n]=.ok (ya ts))(ht:∀t∈ts,fG n t=true)(hlev:lev k=.no):xh lev cl k tT [.int n]=.ok (ax (iz n (ts.map dH))):=by
 have hx:∀t∈ts,∀o:Option Dat,am cl xE [some (.int n),o,some (aK t)]=.ok (.int (dH t)):=λt htt o=>by
  have q:=ht t htt;cases t with
  |nil=>cases q
  |cons r rs=>
   have q':((vq 1 r 0).isSome&&decide (r.length=n))=true:=q;rw[Qh]at q';obtain⟨j,hj⟩:=Wz.mp q'.1;show((xg (aK (r::rs)) (.int 0)).bind λx=>match iL .lix x with
    |true=>vH .lix x (.int 1) (.tup [])
    |false=>.no)=_
   rw[show xg (aK (r::rs)) (.int 0)=.ok (ax r)from nB _ _,bK];show(match (zy (r.map Dat.int)).bind λks=>vq 1 ks 0 with|some j=>Rd.ok (.int (j:Nat))|none=>.no)=_;rw[ye,QS,hj];show _=Rd.ok (.int (((vq 1 r 0).getD 0:Nat):Int));rw[hj];rfl
 have h1:am cl (.comp xE (.call 7 (.pair (.var 0) .unit)) (.lit (.bl true))) [some (.int n),none]=.ok (ax (ts.map dH)):=by
  rw[xk];simp only[xj,zC,zB,zm,bK,zu,h7];rw[show cB (ya ts)=some (ts.map aK)from x6 (by rw[Qp];unfold aq;lia)];simp only;rw[zV aK (λt=>.int (dH t)) ts [] (λt _=>rfl) (λt htt=>hx t htt none) (by simp;unfold aq;lia)];simp[ax]
 unfold xh;rw[Lp (by rfl),hlev];show xQ .no (aM lev cl (.seq (.asg 1 (.comp xE (.call 7 (.pair (.var 0) .unit)) (.lit (.bl true)))) (.ret (.comp yE (.rng (.lit (.int 0)) (.var 0) (.lit (.int 1))) (.lit (.bl true))))) [some (.int n),none] [ba (.int n),.full])=_;rw[kc,yC,h1];simp only[cj];obtain⟨l0,l1,e1⟩:∃l0 l1,yZ lev 1 (.comp xE (.call 7 (.pair (.var 0) .unit)) (.lit (.bl true))) (ax (ts.map dH)) [some (.int n),none] [ba (.int n),.full]=.next [some (.int n),some (ax (ts.map dH))] [l0,l1]:=by
  unfold yZ;split
  .exact ⟨_,_,rfl⟩
  .exact ⟨_,_,rfl⟩
 rw[e1,zt];have h2:am cl (.comp yE (.rng (.lit (.int 0)) (.var 0) (.lit (.int 1))) (.lit (.bl true))) [some (.int n),some (ax (ts.map dH))]=.ok (ax (iz n (ts.map dH))):=by
  rw[xk];simp only[xZ,zA,zm,bK,eG (show n<=1000 by lia),x5];rw[jB,zV (λ(i:Nat)=>Dat.int (i:Int)) (λi=>.int (((ts.map dH).countP (· == ((i:Nat):Int)):Nat):Int)) (QL n) [] (λi _=>rfl) (λi _=>?_) (by simp;unfold aq;lia)]
  .simp[ax,iz]
  .show (match zy ((ts.map dH).map Dat.int)with|some ks=>Rd.ok (.int ((ks.countP (· == (i:Int)):Nat):Int))|none=>.no)=_;rw[ye]
 rw[ve,h2];simp[xQ,jN]
def Bd(de:aS)(lv:List Lv)(j:Nat):aM lev cl (.expr (.meth .clear (.var j) .unit)) de lv=match jM de j with
   |some ds=>if yx lv j then .next (de.set j (some (.lst []))) lv else .no
   |none=>.no:=rfl
noncomputable def cE:Ex:=.cmp .eq (.idx (.idx (.var 10) (.lit (.int 0))) (.var 9)) (.lit (.int 1))
noncomputable def mE:Ex:=.comp (.blt .len (.pair (.comp (.var 10) (.call 24 (.pair (.var 1) .unit)) cE) .unit)) (.rng (.lit (.int 0)) (.var 1) (.lit (.int 1))) (.lit (.bl true))
noncomputable def lf(i:Nat)(t:List (List Int)):Bool:=match t with
 |r::_=>r[i]?==some 1
 |[]=>false
def fQ(n:Nat)(ts:List (List (List Int))):List Int:=(QL n).map λ(i:Nat)=>(((ts.filter (lf i)).length:Nat):Int)
def C3 {n:Nat}(hn:n<=90)(hz:ts.length<=1000)(d0 d2 d3 d4 d5 d6 d7 d8:Option Dat)(h24:cl 24 [.int n]=.ok (ya ts))(ht:∀t∈ts,fG n t=true):
  am cl mE [d0,some (.int n),d2,d3,d4,d5,d6,d7,d8]=.ok (ax (fQ n ts)):=by
 unfold mE;rw[xk];simp only[xZ,zA,zr,zm,bK,eG (show n<=1000 by lia),x5];rw[jB,zV (λ(i:Nat)=>Dat.int (i:Int)) (λi=>.int (((ts.filter (lf i)).length:Nat):Int)) (QL n) [] (λi _=>rfl) (λi hi=>?_) (by simp;unfold aq;lia)]
 .simp[ax,fQ]
 .have hi:=WC.mp hi;simp only[wt,zC,zB,xk,xj,zr,zm,bK,zu,Wu,Wm,h24];rw[show cB (ya ts)=some (ts.map aK)from x6 (by rw[Qp];unfold aq;lia)];simp only;rw[ke aK (lf i) aK ts [] (λt htt=>?_) (λt _ _=>rfl) (by simp;unfold aq;lia)]
  .simp
  .have q:=ht t htt;cases t with
   |nil=>cases q
   |cons r rs=>
    have q':((vq 1 r 0).isSome&&decide (r.length=n))=true:=q;rw[Qh]at q';have hr:=Lw q'.2;have hg:r[i]?=some r[i]:=Qm (by lia);show((xg (aK (r::rs)) (.int 0)).bind λx=>xg x (.int i)).bind (λa=>wm .eq a (.int 1))=_;rw[show xg (aK (r::rs)) (.int 0)=.ok (ax r)from nB _ _,bK,qA hg,bK];show _=Rd.ok (.bl (r[i]?==some 1));rw[hg];simp;exact WT.mpr (by simp)
end
end Lib
end Vl
end Mini
namespace Mini
open PySem
end Mini
namespace R69
open PySem L2 Mini
noncomputable def f0:Fn:=⟨1,1,(.ret (.and (.isi .int (.var 0)) (.not (.isi .bool (.var 0)))))⟩
noncomputable abbrev qdd(a:Str)(i:Nat)(N:List Str)(k:Nat)(f:Fn):bN:=⟨a,top i,N,N.take k,f,a⟩
abbrev d0:=qdd "is_whole" 4 ["thing"] 1 f0
noncomputable def f1:Fn:=⟨2,2,(.ret (.and (.call 0 (.pair (.var 0) .unit)) (.chain .le .le (.lit (.int 1)) (.var 0) (.var 1))))⟩
noncomputable abbrev d1:=qdd "is_size_to" 5 ["thing","most"] 2 f1
noncomputable def f2:Fn:=⟨2,2,(.ite (.not (.call 1 (.pair (.var 0) (.pair (.var 1) .unit)))) .never .skip)⟩
noncomputable abbrev d2:=qdd "need_size_to" 6 ["n","most"] 2 f2
def f3:Fn:=Mini.Vl.Lib.lg
abbrev d3:=qdd "column_of" 8 ["state","c"] 2 f3
noncomputable def f4:Fn:=⟨2,5,(.seq (.asg 2 (.lst .unit)) (.seq (.forv 3 (.var 0) (.forv 4 (.tup (.pair (.neg (.lit (.int 1))) (.pair (.lit (.int 0)) (.pair (.lit (.int 1)) .unit)))) (.ite (.and (.cmp .isin (.bin .add (.blt .sum (.pair (.var 3) .unit)) (.var 4)) (.tup (.pair (.lit (.int 0)) (.pair (.lit (.int 1)) .unit)))) (.cmp .isin (.bin .add (.var 1) (.var 4)) (.tup (.pair (.lit (.int 0)) (.pair (.lit (.int 1)) .unit))))) (.expr (.meth .append (.var 2) (.pair (.bin .add (.var 3) (.lst (.pair (.var 4) .unit))) .unit))) .skip))) (.ret (.var 2))))⟩
noncomputable abbrev d4:=qdd "longer_rows" 11 ["rows","total","told","row","sign"] 2 f4
noncomputable def f5:Fn:=⟨1,3,(.seq (.asg 1 (.lst (.pair (.lst .unit) .unit))) (.seq (.forv 2 (.var 0) (.asg 1 (.call 4 (.pair (.var 1) (.pair (.var 2) .unit))))) (.ret (.comp (.var 3) (.var 1) (.cmp .eq (.blt .sum (.pair (.var 3) .unit)) (.lit (.int 1)))))))⟩
noncomputable abbrev d5:=qdd "rows_below" 12 ["sums","rows","total"] 1 f5
noncomputable def f6:Fn:=⟨2,5,(.seq (.asg 2 (.lst .unit)) (.seq (.forv 3 (.var 0) (.forv 4 (.call 5 (.pair (.comp (.blt .sum (.pair (.call 3 (.pair (.var 3) (.pair (.var 5) .unit))) .unit)) (.rng (.lit (.int 0)) (.var 1) (.lit (.int 1))) (.lit (.bl true))) .unit)) (.expr (.meth .append (.var 2) (.pair (.bin .add (.comp (.blt .list (.pair (.var 5) .unit)) (.var 3) (.lit (.bl true))) (.lst (.pair (.var 4) .unit))) .unit))))) (.ret (.var 2))))⟩
noncomputable abbrev d6:=qdd "longer_tables" 13 ["tables","n","told","table","row"] 2 f6
noncomputable def f7:Fn:=⟨1,3,(.seq (.expr (.call 2 (.pair (.var 0) (.pair (.lit (.int 5)) .unit)))) (.seq (.asg 1 (.lst (.pair (.lst .unit) .unit))) (.seq (.forv 2 (.rng (.lit (.int 0)) (.var 0) (.lit (.int 1))) (.asg 1 (.call 6 (.pair (.var 1) (.pair (.var 0) .unit))))) (.ret (.blt .sorted (.pair (.var 1) .unit))))))⟩
noncomputable abbrev d7:=qdd "states" 14 ["n","tables","r"] 1 f7
noncomputable def f8:Fn:=⟨1,2,(.seq (.asg 1 (.comp (.dop .lix (.idx (.var 2) (.lit (.int 0))) (.lit (.int 1)) .unit) (.call 7 (.pair (.var 0) .unit)) (.lit (.bl true)))) (.ret (.comp (.dop .lct (.var 1) (.var 2) .unit) (.rng (.lit (.int 0)) (.var 0) (.lit (.int 1))) (.lit (.bl true)))))⟩
abbrev d8:=qdd "tops_by_walking" 18 ["n","tops"] 1 f8
noncomputable def f9:Fn:=⟨3,6,(.seq (.asg 3 (.lst .unit)) (.seq (.forv 4 (.var 0) (.forv 5 (.rng (.var 1) (.bin .add (.var 2) (.lit (.int 1))) (.lit (.int 1))) (.ite (.or (.cmp .eq (.var 4) (.tup .unit)) (.cmp .gt (.var 5) (.idx (.var 4) (.neg (.lit (.int 1)))))) (.expr (.meth .append (.var 3) (.pair (.bin .add (.var 4) (.tup (.pair (.var 5) .unit))) .unit))) .skip))) (.ret (.var 3))))⟩
noncomputable abbrev d9:=qdd "longer_lists" 19 ["lists","low","high","told","columns","column"] 3 f9
noncomputable def uj:Fn:=⟨2,6,(.seq (.asg 2 (.bin .add (.bin .add (.tup (.pair (.lit (.int 0)) .unit)) (.var 0)) (.tup (.pair (.bin .sub (.var 1) (.lit (.int 1))) .unit)))) (.seq (.asg 3 (.lst (.pair (.tup .unit) .unit))) (.seq (.forZ 4 5 (.var 2) (.slL (.var 2) (.lit (.int 1))) (.asg 3 (.call 9 (.pair (.var 3) (.pair (.var 4) (.pair (.var 5) .unit)))))) (.ret (.var 3)))))⟩
noncomputable abbrev uI:=qdd "lists_behind" 20 ["columns","n","bounds","told","low","high"] 2 uj
noncomputable def uh:Fn:=⟨2,6,(.seq (.asg 2 .dict0) (.seq (.forD 3 0 (.forv 4 (.call 10 (.pair (.var 3) (.pair (.var 1) .unit))) (.seq (.asg 5 (.dop .get (.var 2) (.var 4) (.bin .mul (.lst (.pair (.lit (.int 0)) .unit)) (.var 1)))) (.dput 2 (.var 4) (.compP .zip (.bin .add (.var 6) (.var 7)) (.var 5) (.dget (.var 0) (.var 3)) (.lit (.bl true))))))) (.ret (.var 2))))⟩
noncomputable abbrev uH:=qdd "stepped" 21 ["ways","n","further","columns","behind","so_far"] 2 uh
noncomputable def ug:Fn:=⟨1,4,(.seq (.expr (.call 2 (.pair (.var 0) (.pair (.lit (.int 7)) .unit)))) (.seq (.asg 1 .dict0) (.seq (.forv 2 (.rng (.lit (.int 0)) (.var 0) (.lit (.int 1))) (.dput 1 (.tup (.pair (.var 2) .unit)) (.comp (.ife (.cmp .eq (.var 4) (.var 2)) (.lit (.int 1)) (.lit (.int 0))) (.rng (.lit (.int 0)) (.var 0) (.lit (.int 1))) (.lit (.bl true))))) (.seq (.forv 3 (.rng (.lit (.int 1)) (.var 0) (.lit (.int 1))) (.asg 1 (.call 11 (.pair (.var 1) (.pair (.var 0) .unit))))) (.ret (.dget (.var 1) (.dop .trg (.var 0) .unit .unit)))))))⟩
noncomputable abbrev uG:=qdd "tops_by_steps" 22 ["n","ways","c","k"] 1 ug
noncomputable def uf:Fn:=⟨2,4,(.seq (.asg 2 (.lit (.int 1))) (.seq (.forv 3 (.rng (.bin .add (.var 0) (.lit (.int 1))) (.bin .add (.var 1) (.lit (.int 1))) (.lit (.int 1))) (.aug 2 .mulB (.var 3))) (.ret (.var 2))))⟩
noncomputable abbrev uF:=qdd "product_above" 23 ["low","high","told","factor"] 2 uf
noncomputable def ue:Fn:=⟨1,1,(.ret (.call 13 (.pair (.lit (.int 0)) (.pair (.var 0) .unit))))⟩
noncomputable abbrev uE:=qdd "factorial" 24 ["m"] 1 ue
noncomputable def ud:Fn:=⟨2,5,(.seq (.asg 2 (.lit (.int 1))) (.seq (.asg 3 (.lit (.int 1))) (.seq (.forv 4 (.rng (.lit (.int 0)) (.var 1) (.lit (.int 1))) (.seq (.aug 2 .mulB (.call 13 (.pair (.bin .add (.var 0) (.var 4)) (.pair (.bin .add (.bin .mul (.lit (.int 3)) (.var 4)) (.lit (.int 1))) .unit)))) (.aug 3 .mulB (.call 13 (.pair (.bin .add (.bin .mul (.lit (.int 3)) (.var 4)) (.lit (.int 1))) (.pair (.bin .add (.var 0) (.var 4)) .unit)))))) (.ret (.tup (.pair (.var 2) (.pair (.var 3) .unit)))))))⟩
noncomputable abbrev uD:=qdd "fraction_to" 25 ["n","factors","over","under","j"] 2 ud
noncomputable def uc:Fn:=⟨1,2,(.seq (.expr (.call 2 (.pair (.var 0) (.pair (.lit (.int 30)) .unit)))) (.seq (.asg 1 (.call 15 (.pair (.var 0) (.pair (.var 0) .unit)))) (.ret (.bin .fdivB (.idx (.var 1) (.lit (.int 0))) (.idx (.var 1) (.lit (.int 1)))))))⟩
abbrev uC:=qdd "by_product" 26 ["n","fraction"] 1 uc
noncomputable def ub:Fn:=⟨3,5,(.seq (.asg 3 (.bin .mulB (.bin .mulB (.idx (.var 2) (.lit (.int 0))) (.call 14 (.pair (.bin .sub (.bin .add (.var 0) (.var 1)) (.lit (.int 1))) .unit))) (.call 14 (.pair (.bin .sub (.bin .sub (.bin .mul (.lit (.int 2)) (.var 0)) (.lit (.int 2))) (.var 1)) .unit)))) (.seq (.asg 4 (.bin .mulB (.bin .mulB (.bin .mulB (.idx (.var 2) (.lit (.int 1))) (.call 14 (.pair (.var 1) .unit))) (.call 14 (.pair (.bin .sub (.var 0) (.lit (.int 1))) .unit))) (.call 14 (.pair (.bin .sub (.bin .sub (.var 0) (.lit (.int 1))) (.var 1)) .unit)))) (.ret (.bin .fdivB (.var 3) (.var 4)))))⟩
noncomputable abbrev uB:=qdd "top_by_product" 27 ["n","c","fraction","over","under"] 3 ub
noncomputable def ua:Fn:=⟨1,2,(.seq (.expr (.call 2 (.pair (.var 0) (.pair (.lit (.int 30)) .unit)))) (.seq (.asg 1 (.call 15 (.pair (.var 0) (.pair (.bin .sub (.var 0) (.lit (.int 1))) .unit)))) (.ret (.comp (.call 17 (.pair (.var 0) (.pair (.var 2) (.pair (.var 1) .unit)))) (.rng (.lit (.int 0)) (.var 0) (.lit (.int 1))) (.lit (.bl true))))))⟩
noncomputable abbrev uA:=qdd "tops_by_product" 28 ["n","fraction"] 1 ua
def t9:Fn:=Mini.Vl.Lib.h9
noncomputable abbrev uy:=qdd "_law_cell_at" 30 ["_law_script","_law_k"] 2 t9
def t7:Fn:=⟨1,1,(.ret (.and (.isi .int (.var 0)) (.not (.isi .bool (.var 0)))))⟩
abbrev ux:=qdd "_law_whole" 31 ["_law_thing"] 1 t7
noncomputable def im:Fn:=⟨1,1,(.seq (.ite (.cmp .eq (.bin .mod (.var 0) (.lit (.int 16))) (.lit (.int 5))) (.ret (.lit (.int 5))) .skip) (.ret (.bin .add (.lit (.int 1)) (.bin .mod (.bin .fdiv (.var 0) (.lit (.int 16))) (.lit (.int 4))))))⟩
abbrev uw:=qdd "_law_small_by" 32 ["_law_cell"] 1 im
noncomputable def t6:Fn:=⟨1,6,(.seq (.asg 1 (.lst .unit)) (.seq (.forv 2 (.rng (.lit (.int 0)) (.call 23 (.pair (.var 0) .unit)) (.lit (.int 1))) (.seq (.asg 3 (.lst .unit)) (.seq (.asg 4 (.lit (.int 1))) (.seq (.forv 5 (.rng (.lit (.int 0)) (.var 0) (.lit (.int 1))) (.ite (.cmp .eq (.bin .band (.bin .shr (.var 2) (.var 5)) (.lit (.int 1))) (.lit (.int 1))) (.seq (.expr (.meth .append (.var 3) (.pair (.var 4) .unit))) (.asg 4 (.bin .sub (.lit (.int 0)) (.var 4)))) (.expr (.meth .append (.var 3) (.pair (.lit (.int 0)) .unit))))) (.ite (.cmp .eq (.blt .sum (.pair (.var 3) .unit)) (.lit (.int 1))) (.expr (.meth .append (.var 1) (.pair (.var 3) .unit))) .skip))))) (.ret (.var 1))))⟩
noncomputable abbrev uv:=qdd "_law_alternating" 33 ["_law_n","_law_found","_law_many","_law_line","_law_sign","_law_c"] 1 t6
noncomputable def t5:Fn:=⟨1,3,(.seq (.asg 1 (.lit (.int 1))) (.seq (.forv 2 (.rng (.lit (.int 0)) (.var 0) (.lit (.int 1))) (.asg 1 (.bin .mul (.var 1) (.lit (.int 2))))) (.ret (.var 1))))⟩
noncomputable abbrev uu:=qdd "_law_power" 34 ["_law_n","_law_made","_law_k"] 1 t5
noncomputable def t4:Fn:=⟨1,9,(.seq (.asg 1 (.lst (.pair (.tup (.pair (.lst .unit) (.pair (.comp (.lit (.int 0)) (.rng (.lit (.int 0)) (.var 0) (.lit (.int 1))) (.lit (.bl true))) .unit))) .unit))) (.seq (.asg 2 (.call 22 (.pair (.var 0) .unit))) (.seq (.forv 3 (.rng (.lit (.int 0)) (.var 0) (.lit (.int 1))) (.seq (.asg 4 (.lst .unit)) (.seq (.fort 5 6 (.var 1) (.forv 7 (.var 2) (.seq (.asg 8 (.compP .zip (.bin .add (.var 9) (.var 10)) (.var 6) (.var 7) (.lit (.bl true)))) (.ite (.and (.cmp .ge (.blt .minS (.pair (.var 8) .unit)) (.lit (.int 0))) (.cmp .le (.blt .maxS (.pair (.var 8) .unit)) (.lit (.int 1)))) (.expr (.meth .append (.var 4) (.pair (.tup (.pair (.bin .add (.var 5) (.lst (.pair (.var 7) .unit))) (.pair (.var 8) .unit))) .unit))) .skip)))) (.asg 1 (.var 4))))) (.ret (.blt .sorted (.pair (.compP .prs (.var 9) (.var 1) (.lit (.int 0)) (.lit (.bl true))) .unit))))))⟩
noncomputable abbrev ut:=qdd "_law_walked" 35 ["_law_n","_law_piles","_law_choices","_law_r","_law_longer","_law_lines","_law_sums","_law_line","_law_below"] 1 t4
noncomputable def tZ:Fn:=⟨1,3,(.seq (.asg 1 (.lit (.int 1))) (.seq (.forv 2 (.rng (.lit (.int 2)) (.bin .add (.var 0) (.lit (.int 1))) (.lit (.int 1))) (.asg 1 (.bin .mulB (.var 1) (.var 2)))) (.ret (.var 1))))⟩
noncomputable abbrev ur:=qdd "_law_factorial" 36 ["_law_m","_law_made","_law_number"] 1 tZ
noncomputable def tY:Fn:=⟨2,10,(.seq (.asg 2 (.dop .one .unit (.blt .tuple (.pair (.var 0) .unit)) (.lit (.int 1)))) (.seq (.asg 3 (.call 22 (.pair (.var 1) .unit))) (.seq (.forv 4 (.rng (.lit (.int 0)) (.bin .sub (.var 1) (.lit (.int 1))) (.lit (.int 1))) (.seq (.asg 5 .dict0) (.seq (.forI 6 7 2 (.forv 8 (.var 3) (.seq (.asg 9 (.blt .tuple (.pair (.compP .zip (.bin .add (.var 10) (.var 11)) (.var 6) (.var 8) (.lit (.bl true))) .unit))) (.ite (.and (.cmp .ge (.blt .minS (.pair (.var 9) .unit)) (.lit (.int 0))) (.cmp .le (.blt .maxS (.pair (.var 9) .unit)) (.lit (.int 1)))) (.dput 5 (.var 9) (.bin .add (.dop .get (.var 5) (.var 9) (.lit (.int 0))) (.var 7))) .skip)))) (.asg 2 (.var 5))))) (.ret (.dop .sum (.var 2) .unit .unit)))))⟩
noncomputable abbrev uq:=qdd "_law_behind" 37 ["_law_first","_law_n","_law_ways","_law_choices","_law_r","_law_found","_law_sums","_law_many","_law_line","_law_below"] 2 tY
noncomputable def tX:Fn:=⟨2,2,(.seq (.ite (.or (.not (.isi .list (.var 0))) (.cmp .ne (.blt .len (.pair (.var 0) .unit)) (.var 1))) (.ret (.lit (.bl false))) .skip) (.ret (.and (.blt .all (.pair (.comp (.call 20 (.pair (.var 2) .unit)) (.var 0) (.lit (.bl true))) .unit)) (.cmp .eq (.var 0) (.dop .lrv (.var 0) (.neg (.lit (.int 1))) .unit)))))⟩
noncomputable abbrev um:=qdd "_law_list" 38 ["_law_found","_law_n"] 2 tX
noncomputable def tW:Fn:=⟨2,8,(.seq (.asg 2 (.lit (.int 1))) (.seq (.asg 3 (.lit (.int 1))) (.seq (.forv 4 (.rng (.lit (.int 0)) (.bin .sub (.var 1) (.lit (.int 1))) (.lit (.int 1))) (.seq (.asg 2 (.bin .mulB (.var 2) (.call 25 (.pair (.bin .add (.bin .mul (.lit (.int 3)) (.var 4)) (.lit (.int 1))) .unit)))) (.asg 3 (.bin .mulB (.var 3) (.call 25 (.pair (.bin .add (.var 1) (.var 4)) .unit)))))) (.seq (.forv 5 (.rng (.lit (.int 0)) (.var 1) (.lit (.int 1))) (.seq (.asg 6 (.bin .mulB (.bin .mulB (.var 2) (.call 25 (.pair (.bin .sub (.bin .add (.var 1) (.var 5)) (.lit (.int 1))) .unit))) (.call 25 (.pair (.bin .sub (.bin .sub (.bin .mul (.lit (.int 2)) (.var 1)) (.lit (.int 2))) (.var 5)) .unit)))) (.seq (.asg 7 (.bin .mulB (.bin .mulB (.call 25 (.pair (.var 5) .unit)) (.call 25 (.pair (.bin .sub (.var 1) (.lit (.int 1))) .unit))) (.call 25 (.pair (.bin .sub (.bin .sub (.var 1) (.lit (.int 1))) (.var 5)) .unit)))) (.ite (.cmp .ne (.bin .mulB (.bin .mulB (.idx (.var 0) (.var 5)) (.var 3)) (.var 7)) (.var 6)) (.ret (.lit (.bl false))) .skip)))) (.seq (.ite (.cmp .ne (.blt .sum (.pair (.var 0) .unit)) (.call 16 (.pair (.var 1) .unit))) (.ret (.lit (.bl false))) .skip) (.ret (.or (.and (.cmp .eq (.idx (.var 0) (.lit (.int 0))) (.lit (.int 1))) (.cmp .eq (.var 1) (.lit (.int 1)))) (.and (.cmp .gt (.var 1) (.lit (.int 1))) (.cmp .eq (.idx (.var 0) (.lit (.int 0))) (.call 16 (.pair (.bin .sub (.var 1) (.lit (.int 1))) .unit)))))))))))⟩
noncomputable abbrev ul:=qdd "_law_tops_hold" 39 ["_law_found","_law_n","_law_top","_law_bottom","_law_j","_law_c","_law_over","_law_below"] 2 tW
noncomputable def iW:Fn:=⟨1,9,(.seq (.asg 1 (.call 21 (.pair (.call 19 (.pair (.var 0) (.pair (.lit (.int 0)) .unit))) .unit))) (.seq (.asg 2 (.bin .add (.lit (.int 1)) (.bin .mod (.call 19 (.pair (.var 0) (.pair (.lit (.int 1)) .unit))) (.lit (.int 7))))) (.seq (.asg 3 (.bin .add (.lit (.int 1)) (.bin .mod (.call 19 (.pair (.var 0) (.pair (.lit (.int 2)) .unit))) (.lit (.int 30))))) (.seq (.asg 4 (.call 8 (.pair (.var 1) .unit))) (.seq (.asg 5 (.comp (.blt .len (.pair (.comp (.var 10) (.call 24 (.pair (.var 1) .unit)) (.cmp .eq (.idx (.idx (.var 10) (.lit (.int 0))) (.var 9)) (.lit (.int 1)))) .unit)) (.rng (.lit (.int 0)) (.var 1) (.lit (.int 1))) (.lit (.bl true)))) (.seq (.ite (.or (.not (.call 27 (.pair (.var 4) (.pair (.var 1) .unit)))) (.cmp .ne (.var 4) (.var 5))) (.ret (.lit (.bl false))) .skip) (.seq (.asg 4 (.call 12 (.pair (.var 2) .unit))) (.seq (.asg 6 (.bin .mod (.call 19 (.pair (.var 0) (.pair (.lit (.int 3)) .unit))) (.var 2))) (.seq (.asg 7 (.comp (.blt .int (.pair (.cmp .eq (.var 9) (.var 6)) .unit)) (.rng (.lit (.int 0)) (.var 2) (.lit (.int 1))) (.lit (.bl true)))) (.seq (.ite (.or (.not (.call 27 (.pair (.var 4) (.pair (.var 2) .unit)))) (.or (.cmp .ne (.idx (.var 4) (.var 6)) (.call 26 (.pair (.var 7) (.pair (.var 2) .unit)))) (.not (.call 28 (.pair (.var 4) (.pair (.var 2) .unit)))))) (.ret (.lit (.bl false))) .skip) (.seq (.asg 8 (.blt .list (.pair (.var 4) .unit))) (.seq (.expr (.meth .clear (.var 4) .unit)) (.seq (.ite (.or (.cmp .ne (.call 12 (.pair (.var 2) .unit)) (.var 8)) (.cmp .ne (.call 18 (.pair (.var 2) .unit)) (.var 8))) (.ret (.lit (.bl false))) .skip) (.seq (.asg 4 (.call 18 (.pair (.var 3) .unit))) (.ret (.and (.call 27 (.pair (.var 4) (.pair (.var 3) .unit))) (.call 28 (.pair (.var 4) (.pair (.var 3) .unit)))))))))))))))))))⟩
noncomputable abbrev mW:=qdd "law" 40 ["_law_script","_law_small","_law_middle","_law_great","_law_told","_law_mine","_law_c","_law_first","_law_kept"] 1 iW
noncomputable def D:List bN:=[d0,d1,d2,d3,d4,d5,d6,d7,d8,d9,uI,uH,uG,uF,uE,uD,uC,uB,uA,uy,ux,uw,uv,uu,ut,ur,uq,um,ul,mW]
noncomputable def C:Mini.Ctx:=⟨["is_whole","is_size_to","need_size_to","column_of","longer_rows","rows_below","longer_tables","states","tops_by_walking","longer_lists","lists_behind","stepped","tops_by_steps","product_above","factorial","fraction_to","by_product","top_by_product","tops_by_product","_law_cell_at","_law_whole","_law_small_by","_law_alternating","_law_power","_law_walked","_law_factorial","_law_behind","_law_list","_law_tops_hold","law"],[("GREATEST_WALKED",5),("GREATEST_STEPPED",7),("GREATEST_PRODUCT",30)],[]⟩
def ac {P:bN->Prop}(h:P a)(t:∀d∈l,P d):∀d∈a::l,P d:=Vy.mpr ⟨h,t⟩
set_option maxHeartbeats 0 in
def uZ:∀d∈D,i4 C d:=by
 unfold D;repeat' refine Vy.2 ⟨?_,?_⟩
 all_goals first|exact λ_ h=>(W2 h).elim|(refine⟨by decide +kernel,rfl,rfl,?_⟩;repeat' first|exact .v|exact .int|exact .unit|refine .pair rfl rfl ?_ ?_|refine .seq ?_ ?_|refine .bin rfl ?_ rfl ?_|refine .one ?_|refine .call rfl ?_ ?_ rfl ?_|refine .ret rfl ?_|refine .cmp rfl rfl ?_ rfl ?_|refine .forv rfl ?_ rfl ?_ ?_|refine .blt rfl ?_ ?_ rfl ?_|refine .lst ?_|refine .rng1 ?_ rfl rfl ?_|refine .ite rfl rfl ?_ ?_ ?_|exact .skip0|refine .tup ?_|refine .expr rfl rfl ?_|refine .and2 rfl rfl ?_ rfl rfl ?_|refine .comp0 rfl ?_ ?_ rfl ?_|refine .not rfl rfl ?_|refine .meth rfl rfl ?_ rfl rfl ?_ ?_|refine .or2 rfl rfl ?_ rfl rfl ?_|exact .bl|refine .isi ?_ ?_ rfl rfl ?_|refine .con ?_ ?_ ?_|refine .rng2 ?_ rfl rfl rfl ?_ rfl ?_|refine .neg rfl ?_|refine .asgC0 rfl ?_ rfl ?_ ?_ rfl ?_|exact .dict0|refine .dput rfl ?_ rfl ?_ rfl ?_|refine .aug rfl ?_ rfl rfl ?_|refine .comp1 rfl ?_ ?_ rfl rfl ?_ rfl ?_|refine .dgetM rfl rfl rfl rfl rfl ?_ rfl ?_ rfl ?_|refine .dget rfl rfl ?_ rfl ?_|refine .compZ0 ?_ ?_ rfl rfl rfl ?_ rfl ?_ rfl ?_|refine .chain rfl rfl ?_ rfl ?_ rfl ?_|exact .never|refine .dlix rfl rfl rfl rfl ?_ rfl ?_|refine .dlct rfl rfl rfl rfl ?_ rfl ?_|refine .slL rfl ?_ rfl ?_|refine .forZ rfl ?_ rfl ?_ ?_ rfl rfl rfl ?_ rfl ?_ ?_|refine .forD rfl ?_ ?_ ?_|refine .ife rfl rfl ?_ rfl ?_ rfl ?_|refine .dtrg ?_ ?_ rfl rfl ?_|refine .asgCZ0 rfl ?_ ?_ ?_ rfl rfl rfl ?_ rfl ?_ rfl ?_|refine .fort rfl ?_ rfl ?_ rfl ?_ ?_|refine .compT0 rfl ?_ ?_ rfl ?_|refine .done1 rfl ?_ rfl ?_|refine .forI rfl ?_ rfl ?_ rfl ?_ ?_|refine .dsum ?_ rfl rfl rfl ?_|refine .dlrv rfl ?_ rfl ?_|refine .orN rfl rfl ?_ rfl ?_|refine .meth0 rfl rfl rfl ?_|refine .asg rfl rfl ?_ rfl ?_|refine .idx rfl rfl ?_ rfl ?_|kernel_rfl|decide)
set_option maxHeartbeats 0 in
def G9:∀d∈D,nk d:=by
 unfold D;repeat' refine Vy.2 ⟨?_,?_⟩
 all_goals first|exact λ_ _ _ _ _ _=>tx (λ_=>rfl)|exact λ_ _ _ _ _ _=>tw (λ_ _=>rfl)|exact λ_ _ _ _ _ _=>Gq (λ_ _ _=>rfl)|exact λ_ h=>(W2 h).elim
def dk {K:Qb}(X:K.In h)(G:h.Ns IT mg){sl:Array (Option Value)}{kV:Value}(g:Vj K IT d.nm=some (some (.ref a)))(l:K.lookup a=some ⟨oc,od,.func (WM d.on d.on (xU d.st) (xb d.st) (zS d.st) .none kV dc pm an cd ct),sl⟩)(c:Vs K cd d.on=true)(k:WU K (.ref a)=true):jr K mg d:=⟨a,_,BW l c k,Vx X G g⟩
def mk {K:Qb}(X:K.In h)(G:h.Ns IT mg)(hD:∀e∈D,jr K mg e)(e0:Vj K IT "GREATEST_WALKED"=some (some (.int 5 t0)))(e1:Vj K IT "GREATEST_STEPPED"=some (some (.int 7 t1)))(e2:Vj K IT "GREATEST_PRODUCT"=some (some (.int 30 t2)))(z:∀nm∈zp,Vj K IT nm=some none): (∀e∈D,jr K mg e)/\hG K w mg C/\∀nm∈zp,mg nm=none:=by
 refine⟨λd hd=>?_,⟨λnm i hi=>?_,λnm qq hi=>?_⟩,λnm hn=>?_⟩
 .exact hD d hd
 .unfold C at hi;rw[QZ]at hi;cases q0:nm==("GREATEST_WALKED":Str)with
  |true=>
   rw[q0]at hi;cases hi;rw[beq_iff_eq.mp q0];exact⟨t0,Vx X G e0⟩
  |false=>
  rw[q0]at hi;rw[QZ]at hi;cases q1:nm==("GREATEST_STEPPED":Str)with
  |true=>
   rw[q1]at hi;cases hi;rw[beq_iff_eq.mp q1];exact⟨t1,Vx X G e1⟩
  |false=>
  rw[q1]at hi;rw[QZ]at hi;cases q2:nm==("GREATEST_PRODUCT":Str)with
  |true=>
   rw[q2]at hi;cases hi;rw[beq_iff_eq.mp q2];exact⟨t2,Vx X G e2⟩
  |false=>
  rw[q2]at hi;cases hi
 .cases hi
 .exact PySem.W.mg_none_of X G (z nm hn)
end R69
namespace R69
open Mini
noncomputable def T:List Fn:=[f0,f1,f2,f3,f4,f5,f6,f7,f8,f9,uj,uh,ug,uf,ue,ud,uc,ub,ua,t9,t7,im,t6,t5,t4,tZ,tY,tX,tW,iW]
open Vl Vl.Lib
noncomputable def jP:Nat->Lv:=λk=>if k=12\/k=11 then .full else .no
noncomputable abbrev CD(d:Nat):=jv jP T d
def wU (h:T[k]?=some f)(ds:List Dat):CD (d+1) k ds=xh jP (CD d) k f ds:=by
 show jv jP T (d+1) k ds=_;unfold jv;rw[h]
def Bc (h:a≠b)(h1:bZ a b=false):bZ b a=true:=by
 rw[jc]at *
 cases e:HT.lexLt b a with
 |true=>rfl
 |false=>exact Lr (L2.xL a b h1 e) h
def lS (h1:bZ a b=true):bZ b a=false:=by
 rw[jc]at *
 cases e:HT.lexLt b a with
 |false=>rfl
 |true=>have:=L2.yK a b a h1 e;rw[L2.yJ]at this;cases this
theorem jC {p q:List Int×α}(hpq:bZ p.1 q.1=true):∀l:List (List Int×α),zw p (zw q l)=zw q (zw p l)
 |[]=>by
  show(if bZ p.1 q.1 then[p,q]else _)=(if bZ q.1 p.1 then _ else p::zw q []);rw[hpq,lS hpq];rfl
 |r::l=>by
  have e1:∀x:List Int×α,zw x (r::l)=if bZ x.1 r.1 then x::r::l else r::zw x l:=λx=>rfl;have e2:∀(x y:List Int×α) (l:List (List Int×α)),zw x (y::l)=if bZ x.1 y.1 then x::y::l else y::zw x l:=λ_ _ _=>rfl;rw[e1 q,e1 p];cases hq:bZ q.1 r.1 with
  |true=>
   have hp:bZ p.1 r.1=true:=by
    rw[jc]at *
    exact L2.yK _ _ _ hpq hq
   rw[hp,Lp rfl,Lp rfl,e2 p q,hpq,Lp rfl,e2 q p,lS hpq,Lq QC,e1 q,hq,Lp rfl]
  |false=>
   rw[Lq QC,e2 p r];cases hp:bZ p.1 r.1 with
   |true=>rw[Lp rfl,Lp rfl,e2 q p,lS hpq,Lq QC,e1 q,hq,Lq QC]
   |false=>rw[Lq QC,Lq QC,e2 q r,hq,Lq QC,jC hpq l]
def C2 {p q:List Int×α}(h:p.1≠q.1)(l:List (List Int×α)):zw p (zw q l)=zw q (zw p l):=by
 cases e:bZ p.1 q.1 with
 |true=>exact jC e l
 |false=>exact(jC (Bc h e) l).symm
noncomputable def vM{α:Type}:List (List Int×α)->List (List Int×α)->List (List Int×α)
 |acc,[]=>acc
 |acc,p::r=>kO (zw p acc) λa=>vM a r
noncomputable def eF{α:Type}(acc:List (List Int×α)):List (List Int×α)->List (List Int×α)
 |[]=>acc
 |p::r=>zw p (eF acc r)
theorem gu:∀z:List (List Int×α),eF [] z=zG z
 |[]=>rfl
 |p::r=>by rw[yt,<-gu r];rfl
theorem sL:∀{z:List (List Int×α)}(acc:List (List Int×α)),(∀q∈z,p.1≠q.1)->eF (zw p acc) z=zw p (eF acc z)
 |[],_,_=>rfl
 |q::z,acc,h=>by
  show zw q (eF (zw p acc) z)=zw p (zw q (eF acc z));rw[sL acc λx hx=>h x (by simp[hx]),C2 (h q (by simp))]
theorem sK:∀(z acc:List (List Int×α)),(z.map Prod.fst).Nodup->vM acc z=eF acc z
 |[],_,_=>rfl
 |p::z,acc,h=>by
  rw[QJ,QV]at h;show kO (zw p acc) (λa=>vM a z)=zw p (eF acc z);rw[xc,sK z _ h.2,sL acc λq hq e=>h.1 (by rw[e];exact WX.mpr ⟨q,hq,rfl⟩)]
theorem jD:∀(z acc:List (List Int×α)),(vM acc z).Perm (z++acc)
 |[],acc=>.refl _
 |p::z,acc=>by
  show(kO (zw p acc) λa=>vM a z).Perm _;rw[xc];refine(jD z _).trans ?_;exact((jd p acc).append_left z).trans List.perm_middle
noncomputable def iF(ks:List (List Int))(xs:List Dat):Option (List Dat):=ki ks λks=>kO (ks.zip xs) λz=>kO (vM [] z) λs=>if xJ (s.map Prod.fst)then some (s.map Prod.snd)else none
def EK (h:iF ks xs=some ys):xz Dat ks xs=some ys:=by
 unfold iF at h;rw[kP,xc,xc]at h;rw[vn];cases z:xJ ((vM [] (ks.zip xs)).map Prod.fst)with
 |false=>rw[z]at h;cases h
 |true=>
  have nd:((ks.zip xs).map Prod.fst).Nodup:=by
   have e:((vM [] (ks.zip xs)).map Prod.fst).Nodup:=by
    unfold List.Nodup;rw[WW];refine(g0 z).1.imp λ{a b} c e=>?_;rw[e,L2.yJ]at c;cases c
   have p:=jD (ks.zip xs) [];rw[QW]at p;exact(p.map Prod.fst).nodup_iff.mp e
  have e:zG (ks.zip xs)=vM [] (ks.zip xs):=by rw[sK _ _ nd,gu]
  rw[e];exact h
noncomputable def qD(ds:List Dat):Rd:=match (xA ds).bind λks=>iF ks ds with
 |some es=>bo es
 |none=>.no
def Ge (h:qD ds=.ok y):xf .sorted [.lst ds]=.ok y:=by
 unfold qD at h;show(match (xA ds).bind λks=>xz Dat ks ds with|some es=>bo es|none=>.no)=_;cases e:(xA ds).bind λks=>iF ks ds with
 |none=>rw[e]at h;cases h
 |some es=>
  rw[e]at h;obtain⟨ks,k1,k2⟩:=QB.mp e;have e2:((xA ds).bind λks=>xz Dat ks ds)=some es:=by rw[k1];exact EK k2
  rw[e2];exact h
noncomputable def dR:List Dat->Option (List (List Int))
 |[]=>some []
 |.lst xs::r=>match zy xs,dR r with
  |some k,some ks=>some (k::ks)
  |_,_=>none
 |_=>none
noncomputable def dM:List Int->List Int->Bool
 |[],[]=>true
 |x::xs,y::ys=>decide (x=y)&&dM xs ys
 |_,_=>false
noncomputable def eE:List (List Int)->List (List Int)->Bool
 |[],[]=>true
 |x::xs,y::ys=>dM x y&&eE xs ys
 |_,_=>false
def cJ:Rd->Bool
 |.ok (.bl b)=>b
 |_=>false
noncomputable def fD:List Dat->Option (List (List (List Int)))
 |[]=>some []
 |.lst xs::r=>match dR xs,fD r with
  |some k,some ks=>some (k::ks)
  |_,_=>none
 |_=>none
noncomputable def my:Nat->Int->Nat->List Int
 |_,_,0=>[]
 |m,s,c+1=>if m%2=1 then s::my (m/2) (-s) c else 0::my (m/2) s c
def tE:List Int->Int
 |[]=>0
 |x::l=>x+tE l
noncomputable def vN(n:Nat):List (List Int):=ki (((QL (2^n)).map λm=>my m 1 n).filter λl=>decide (tE l=1)) id
noncomputable def Gp(n:Nat):List Dat:=(kq (vN n) n [([],Qq n 0)]).map λp=>aK p.1
def nX(n:Nat):Bool:=(QL (n+1)).all λj=>decide ((kq (vN n) j [([],Qq n 0)]).length<=1000)
noncomputable def iy:Nat->List (List Int)
 |0=>[[]]
 |n+1=>(iy n).flatMap λv=>[0::v,1::v]
noncomputable def eJ(r:Rd)(x:List (List Int)):Bool:=match r with
 |.ok (.lst l)=>match dR l with
  |some y=>eE y x
  |none=>false
 |_=>false
def lV(n:Nat):Bool:=(iy n).all λs=>eJ (CD 4 5 [ax s]) (dh s)
noncomputable def tz(n:Nat)(t:List (List Int)):Bool:=decide (t.length<=5)&&t.all (λr=>decide (r.length=n))&&(yo n t).all (λs=>decide (s=0) || decide (s=1))&&decide ((dh (yo n t)).length<=50)
def lp(n:Nat):Bool:=(QL n).all λj=>(df n j [[]]).all (tz n)&&decide ((df n j [[]]).length<=1000)
theorem kG:∀{xs:List Dat}{k:List Int},zy xs=some k->xs=k.map Dat.int
 |[],k,h=>by cases h;rfl
 |d::xs,k,h=>by
  cases d with
  |int i=>
   have h':(zy xs).map (i::·)=some k:=h;obtain⟨k',e,rfl⟩:=QF.mp h';rw[kG e];rfl
  |_=>cases h
theorem jE:∀{xs:List Dat}{k:List (List Int)},dR xs=some k->xs=k.map ax
 |[],k,h=>by cases h;rfl
 |d::xs,k,h=>by
  cases d with
  |lst es=>
   have h':(match zy es,dR xs with
    |some k,some ks=>some (k::ks)
    |_,_=>none)=some k:=h
   cases e1:zy es with
   |none=>simp only[e1]at h';cases h'
   |some a=>
    cases e2:dR xs with
    |none=>simp only[e1,e2]at h';cases h'
    |some b=>
     simp only[e1,e2]at h';cases h';rw[kG e1,jE e2];rfl
  |_=>cases h
theorem lR:∀{xs:List Dat}{k:List (List (List Int))},fD xs=some k->xs=k.map aK
 |[],k,h=>by cases h;rfl
 |d::xs,k,h=>by
  cases d with
  |lst es=>
   have h':(match dR es,fD xs with
    |some k,some ks=>some (k::ks)
    |_,_=>none)=some k:=h
   cases e1:dR es with
   |none=>simp only[e1]at h';cases h'
   |some a=>
    cases e2:fD xs with
    |none=>simp only[e1,e2]at h';cases h'
    |some b=>
     simp only[e1,e2]at h';cases h';rw[jE e1,lR e2];rfl
  |_=>cases h
theorem jF:∀{x y:List Int},dM x y=true->x=y
 |[],[],_=>rfl
 |[],_::_,h=>by cases h
 |_::_,[],h=>by cases h
 |a::x,b::y,h=>by
  have h':(decide (a=b)&&dM x y)=true:=h;rw[Qh]at h';rw[Lw h'.1,jF h'.2]
theorem wM:∀{x y:List (List Int)},eE x y=true->x=y
 |[],[],_=>rfl
 |[],_::_,h=>by cases h
 |_::_,[],h=>by cases h
 |a::x,b::y,h=>by
  have h':(dM a b&&eE x y)=true:=h;rw[Qh]at h';rw[jF h'.1,wM h'.2]
def ph (h:cJ r=true):r=.ok (.bl true):=by
 unfold cJ at h;split at h
 .rw[h]
 .cases h
theorem sJ:∀(n:Nat) (s:List Int),s.length=n->(∀x∈s,x=0\/x=1)->s∈iy n
 |0,s,h,_=>by
  cases s with
  |nil=>exact Qt.mpr rfl
  |cons _ _=>cases h
 |n+1,s,h,hx=>by
  cases s with
  |nil=>cases h
  |cons x s=>
   have:=sJ n s (Nat.succ.inj h) λy hy=>hx y (by simp[hy]);show x::s∈(iy n).flatMap λv=>[0::v,1::v];rw[List.mem_flatMap];refine⟨s,this,?_⟩;rcases hx x (by simp)with rfl|rfl
   .simp
   .simp
set_option tactic.hygienic true in
def pf (h:eJ r x=true):r=.ok (aK x):=by
 unfold eJ at h;split at h
 .next l=>
  split at h
  .next y ey=>rw[jE ey,wM h];rfl
  .cases h
 .cases h
def H3 (d:Nat)(t:List (List Int))(ht:t.length<=100)(hr:∀r∈t,r.length=n)(c:Nat)(hc:c<n):CD (d+1) 3 [aK t,.int (c:Int)]=.ok (ax (qC t c)):=by
 rw[wU (f:=lg) rfl];exact C8 ht (λr q=>by rw[hr r q];exact hc) rfl
def H7 (hn:n<=5)(hv:lV n=true)(ht:lp n=true)(h2:CD 5 2 [.int n,.int 5]=.ok .non)(hs:xf .sorted [ya (df n n [[]])]=.ok (.lst ss)):CD 6 7 [.int n]=.ok (.lst ss):=by
 rw[wU (d:=5) (f:=pQ) rfl];refine Gf (by lia) h2 (λj hj=>?_) hs rfl;have q:=QN.mp ht j (WC.mpr hj);rw[Qh,QN]at q;obtain⟨q1,q2⟩:=q;have hj':df n (j+1) [[]]=vg n (df n j [[]]):=by
  have:∀(j:Nat) (ts:List (List (List Int))),df n (j+1) ts=vg n (df n j ts):=by
   intro j
   induction j with
   |zero=>intro ts;rfl
   |succ j ih=>intro ts;exact ih (vg n ts)
  exact this j _
 rw[hj',wU (d:=4) (f:=tV) rfl];have key:∀t∈df n j [[]],(t.length<=100/\∀r∈t,r.length=n)/\CD 4 5 [ax (yo n t)]=.ok (aK (dh (yo n t)))/\(dh (yo n t)).length<=50:=λt htt=>by
  have z:=q1 t htt;unfold tz at z;rw[Qh,Qh,Qh,QN,QN]at z;obtain⟨⟨⟨z1,z2⟩,z3⟩,z4⟩:=z;refine⟨⟨by have:=Lw z1;lia,λr hr=>Lw (z2 r hr)⟩,?_,Lw z4⟩;refine pf (QN.mp hv _ (sJ n _ (by simp[yo]) λx hx=>?_));have:=z3 x hx;rw[W7]at this;exact this.imp Lw Lw
 exact Bj (by lia) (λt t1 t2 c hc=>H3 3 t t1 t2 c hc) (λt htt=>(key t htt).1) (Lw q2) (λt htt=>(key t htt).2) rfl
noncomputable def fw(n:Nat)(cs:List (List Int)):Bool:=decide (cs.length<=90)&&cs.all λl=>decide (l.length=n)
def sI (h:fw n cs=true):qB n cs:=by
 unfold fw at h;rw[Qh,QN]at h;exact⟨Lw h.1,λl hl=>Lw (h.2 l hl)⟩
noncomputable def iw:DI->List Int->Int->DI
 |[],q,v=>[(q,v)]
 |p::D,q,v=>if dM p.1 q then iA (p.2+v) λw=>(p.1,w)::D else p::iw D q v
noncomputable def tI:List Int->Bool
 |[]=>false
 |i::r=>(i::r).all λx=>decide (0<=x)&&decide (x<=1)
noncomputable def gw(s:List Int)(v:Int):List (List Int)->DI->DI
 |[],D=>D
 |l::cs,D=>if tI (QU (·+·) s l)then eW (QU (·+·) s l) λq=>gw s v cs (iw D q v)else gw s v cs D
noncomputable def hZ(cs:List (List Int)):DI->DI->DI
 |[],E=>E
 |p::ps,E=>hZ cs ps (gw p.1 p.2 cs E)
noncomputable def fP(cs:List (List Int))(t:Int):Nat->DI->Bool
 |0,D=>decide (D.length<=1000)&&decide (eY D=t)
 |k+1,D=>decide (D.length<=1000)&&fP cs t k (hZ cs D [])
theorem sH:∀x:List Int,dM x x=true
 |[]=>rfl
 |a::x=>by show(decide (a=a)&&dM x x)=true;rw[sH x];simp
theorem pM(q:List Int)(v:Int):∀D:DI,iw D q v=vK D q v
 |[]=>rfl
 |p::D=>by
  unfold iw vK;rw[rL,pM q v D];by_cases c:p.1=q
  .rw[Lp c,c,sH,Lp rfl]
  .rw[Lq c,Lq λz=>c (jF z)]
def Bz:∀z:List Int,tI z=dz z
 |[]=>rfl
 |i::r=>by
  show((i::r).all λx=>decide (0<=x)&&decide (x<=1))=(decide (0<=yU i r)&&decide (xm i r<=1));obtain⟨a1,a2,a3⟩:=g7 r i;obtain⟨b1,b2,b3⟩:=g8 r i;rw[WT,QN,Qh,decide_eq_true_iff,decide_eq_true_iff];constructor
  .intro h;have h1:=h _ a3;have h2:=h _ b3;simp only[Qh,decide_eq_true_iff]at h1 h2;exact⟨h1.1,h2.2⟩
  .rintro ⟨h1,h2⟩ x hx;simp only[Qh,decide_eq_true_iff];rcases Qo.mp hx with rfl|hx
   .lia
   .have:=a2 x hx;have:=b2 x hx;lia
theorem jG(s:List Int)(v:Int):∀(cs:List (List Int)) (D:DI),gw s v cs D=x9 s v cs D
 |[],_=>rfl
 |l::cs,D=>by
  unfold gw;show _=x9 s v cs (xS s v l D);unfold xS;rw[Bz,kC,pM,jG s v cs,jG s v cs];split<;>rfl
theorem sG(cs:List (List Int)):∀ps E:DI,hZ cs ps E=vL cs ps E
 |[],_=>rfl
 |p::ps,E=>by
  show hZ cs ps (gw p.1 p.2 cs E)=vL cs ps (x9 p.1 p.2 cs E);rw[jG,sG cs ps]
theorem pL(cs:List (List Int))(t:Int):∀(k:Nat) (D:DI),fP cs t k D=true->(∀j,j<=k->(kr cs j D).length<=1000)/\eY (kr cs k D)=t
 |0,D,h=>by
  have h':(decide (D.length<=1000)&&decide (eY D=t))=true:=h;rw[Qh]at h';exact⟨λj hj=>by rw[Nat.le_zero.mp hj];exact Lw h'.1,Lw h'.2⟩
 |k+1,D,h=>by
  have h':(decide (D.length<=1000)&&fP cs t k (hZ cs D []))=true:=h;rw[Qh,sG]at h';obtain⟨q1,q2⟩:=pL cs t k _ h'.2;refine⟨λj hj=>?_,q2⟩;cases j with
  |zero=>exact Lw h'.1
  |succ j=>exact q1 j (by lia)
abbrev DL:=List (List Int×List Int)
noncomputable def nA:List Int->List (List Int)->List (List Int)
 |lo::hi::r,ts=>nA (hi::r) (ts.flatMap λt=>((QL (hi-lo+1).toNat).filterMap λi=>if t.getLast?.all λx=>decide (x<lo+i)then some (t++[lo+i])else none))
 |_,ts=>ts
noncomputable def nz:DL->List Int->List Int->DL
 |[],q,v=>[(q,v)]
 |p::D,q,v=>if dM p.1 q then(p.1,QU (·+·) p.2 v)::D else p::nz D q v
noncomputable def ln(n:Int):DL->DL->DL
 |[],E=>E
 |p::D,E=>ln n D ((nA (0::p.1++[n-1]) [[]]).foldl (λE q=>nz E q p.2) E)
def mX(n:Nat):DL:=(QL n).map λ(c:Nat)=>([(c:Int)],(QL n).map λ(t:Nat)=>if t=c then(1:Int)else 0)
noncomputable def wP(n:Nat):Nat->DL
 |0=>[]
 |1=>mX n
 |k+2=>ki ((ln n (wP n (k+1)) []).map (·.1)) λks=>ki ((ln n (wP n (k+1)) []).map (·.2)) λvs=>ks.zip vs
noncomputable def W(n k:Nat):Dat:=.dct ((wP n k).map (·.1)) ((wP n k).map λp=>ax p.2)
noncomputable def xa(n k:Nat):Bool:=match CD 6 11 [W n k,.int n]with
 |.ok (.dct ks ds)=>eE ks ((wP n (k+1)).map (·.1))&&(match dR ds with
  |some y=>eE y ((wP n (k+1)).map (·.2))
  |none=>false)
 |_=>false
set_option tactic.hygienic true in
def C0 (h:xa n k=true):CD 6 11 [W n k,.int n]=.ok (W n (k+1)):=by
 unfold xa at h;split at h
 .next ks ds e=>
  rw[Qh]at h;obtain⟨h1,h2⟩:=h;split at h2
  .next y ey=>
   rw[e,jE ey,wM h1,wM h2];unfold W;rw[WO];rfl
  .cases h2
 .cases h
noncomputable def ig(n:Nat):Bool:=match aM jP (CD 6) ii [some (.int n),none,none,none] [ba (.int n),.full,.full,.full]with
 |.next [some (.int m),some (.dct ks ds),_,none] [_,.full,_,_]=>decide (m=n)&&eE ks ((wP n 1).map (·.1))&&(match dR ds with
  |some y=>eE y ((wP n 1).map (·.2))
  |none=>false)
 |_=>false
set_option tactic.hygienic true in
def CZ (h:ig n=true):∃o2 l0 l2 l3,aM jP (CD 6) ii [some (.int n),none,none,none] [ba (.int n),.full,.full,.full]=.next [some (.int n),some (W n 1),o2,none] [l0,.full,l2,l3]:=by
 unfold ig at h;split at h
 .next m ks ds o2 l0 l2 l3 e=>
  rw[Qh,Qh]at h;obtain⟨⟨h0,h1⟩,h2⟩:=h;split at h2
  .next y ey=>
   refine⟨o2,l0,l2,l3,?_⟩;rw[e,Lw h0,jE ey,wM h1,wM h2];unfold W;rw[WO];rfl
  .cases h2
 .cases h
noncomputable def tp(n:Nat):List Int:=match wP n n with
 |[(_,v)]=>v
 |_=>[]
noncomputable def iT(r:Rd)(x:List Int):Bool:=match r with
 |.ok (.lst ds)=>match zy ds with
  |some y=>dM y x
  |none=>false
 |_=>false
set_option tactic.hygienic true in
def pd (h:iT r x=true):r=.ok (ax x):=by
 unfold iT at h;split at h
 .split at h
  .next y ey=>rw[kG ey,jF h];rfl
  .cases h
 .cases h
noncomputable def ie(n:Nat):Bool:=iT (wT (W n n) (.tup (yA 0 1 n))) (tp n)&&decide ((tp n).length=n)
def He (hn:0<n)(hn1:n<=7)(hb:ig n=true)(hs:∀i,1<=i->i<n->xa n i=true)(he:ie n=true):CD 7 12 [.int n]=.ok (ax (tp n)):=by
 obtain⟨o2,l0,l2,l3,h0⟩:=CZ hb;unfold ie at he;rw[Qh]at he;rw[wU (d:=6) (f:=nY) rfl];exact EL hn hn1 (W:=W n) (by rfl) h0 (λi i1 i2=>C0 (hs i i1 i2)) (pd he.1) rfl
def uR{n:Nat}(h:eJ (CD 6 22 [.int n]) (vN n)=true):CD 6 22 [.int n]=.ok (aK (vN n)):=pf h
def un(n c:Nat):List Int:=(QL n).map λ(k:Nat)=>if k=c then 1 else 0
def Hb {n:Nat}(hn:0<n)(hn1:n<=7)(ha:eJ (CD 6 22 [.int n]) (vN n)=true)(hc:fw n (vN n)=true)(hb:fP (vN n) t (n-1) [(un n c,1)]=true):CD 7 26 [ax (un n c),.int n]=.ok (.int t):=by
 obtain⟨q1,q2⟩:=pL _ _ _ _ hb;rw[wU (d:=6) (f:=nC 22) rfl,C4 hn (by lia) (sI hc) (uR ha) (by simp[un]) q1 rfl,q2]
noncomputable def iu(n:Nat)(x:List (List (List Int)))(y:List Int):Bool:=x.all (fG n)&&decide (x.length<=1000)&&dM y (tp n)
noncomputable def em(n:Nat):Bool:=match xf .sorted [ya (df n n [[]])]with
 |.ok (.lst a)=>match fD a with
  |some x=>iu n x (iz n (x.map dH))
  |none=>false
 |_=>false
noncomputable def lh(n:Nat):Bool:=match qD (Gp n)with
 |.ok (.lst a)=>match fD a with
  |some x=>iu n x (fQ n x)
  |none=>false
 |_=>false
def tt (h:iu n x y=true):(∀t∈x,fG n t=true)/\x.length<=1000/\y=tp n:=by
 unfold iu at h;rw[Qh,Qh,QN]at h;exact⟨h.1.1,Lw h.1.2,jF h.2⟩
set_option tactic.hygienic true in
def H8 (hn:n<=5)(hv:lV n=true)(ht:lp n=true)(h2:CD 5 2 [.int n,.int 5]=.ok .non)(hs:em n=true):CD 7 8 [.int n]=.ok (ax (tp n)):=by
 unfold em at hs;split at hs
 .next a e=>
  split at hs
  .next x ex=>
   obtain⟨q1,q2,q3⟩:=tt hs;rw[lR ex]at e;rw[wU (d:=6) (f:=tT) rfl,Be (by lia) q2 (H7 hn hv ht h2 e) q1 rfl,q3]
  .cases hs
 .cases hs
set_option tactic.hygienic true in
def Hc{n:Nat}(hn:0<n)(hn1:n<=7)(ha:eJ (CD 6 22 [.int n]) (vN n)=true)(hc:fw n (vN n)=true)(hb:nX n=true)(hs:lh n=true):∃ts,CD 7 24 [.int n]=.ok (ya ts)/\(∀t∈ts,fG n t=true)/\ts.length<=1000/\fQ n ts=tp n:=by
 unfold lh at hs;split at hs
 .next a e=>
  split at hs
  .next x ex=>
   obtain⟨q1,q2,q3⟩:=tt hs;refine⟨x,?_,q1,q2,q3⟩;rw[lR ex]at e;rw[wU (d:=6) (f:=og 22) rfl];refine Es hn (by lia) (sI hc) (uR ha) (λj hj=>?_) (Ge e) rfl;have:=QN.mp hb j (WC.mpr (by lia));exact Lw this
  .cases hs
 .cases hs
def i7(d:Nat)(ns:List Int)(i:Nat):∃c:Int,CD (d+1) 19 [.scr ns,.int i]=.ok (.int c):=by rw[wU (f:=h9) rfl];exact Eu ns i
def Hd(d:Nat)(c:Int):∃n:Nat,1<=n/\n<=5/\CD (d+1) 21 [.int c]=.ok (.int n):=by
 rw[wU (f:=im) rfl];have e1:ym .mod (.int c) (.int 16)=.ok (.int (c%16)):=jx _ _ (by decide);have e2:ym .fdiv (.int c) (.int 16)=.ok (.int (c/16)):=Cw _ _ (by decide) (by decide);have e3:ym .mod (.int (c/16)) (.int 4)=.ok (.int (c/16%4)):=jx _ _ (by decide);by_cases q:c%16=5
 .exact ⟨5,by lia,by lia,by simp[xh,im,xw,xD,xQ,e1,q]⟩
 .refine ⟨(1+c/16%4).toNat,by lia,by lia,?_⟩;have:(((1+c/16%4).toNat:Nat):Int)=1+c/16%4:=by lia
  rw[this];simp[xh,im,xw,xD,xQ,e1,e2,e3,q]
noncomputable def dK(n:Nat):Bool:=match CD 7 18 [.int n]with
 |.ok (.lst ds)=>match zy ds with
  |some ks=>eW ks λks=>cJ (CD 7 27 [ax ks,.int n])&&cJ (CD 7 28 [ax ks,.int n])
  |none=>false
 |_=>false
def Gr(n:Nat):Prop:=∃ks:List Int,CD 7 18 [.int n]=.ok (ax ks)/\CD 7 27 [ax ks,.int n]=.ok (.bl true)/\CD 7 28 [ax ks,.int n]=.ok (.bl true)
set_option tactic.hygienic true in
def CY (h:dK n=true):Gr n:=by
 unfold dK at h;split at h
 .next ds e=>
  split at h
  .next ks ek=>
   rw[kC,Qh]at h;refine⟨ks,?_,ph h.1,ph h.2⟩;rw[e,kG ek];rfl
  .cases h
 .cases h
def Md(n:Nat):Prop:=CD 7 12 [.int n]=.ok (ax (tp n))/\(tp n).length=n/\CD 7 18 [.int n]=.ok (ax (tp n))/\CD 7 27 [ax (tp n),.int n]=.ok (.bl true)/\CD 7 28 [ax (tp n),.int n]=.ok (.bl true)/\∀c,c<n->∃t,(tp n)[c]?=some t/\CD 7 26 [ax (un n c),.int n]=.ok (.int t)
def Sl(n:Nat):Prop:=CD 7 8 [.int n]=.ok (ax (tp n))/\∃ts,CD 7 24 [.int n]=.ok (ya ts)/\(∀t∈ts,fG n t=true)/\ts.length<=1000/\fQ n ts=tp n
def mS:Rd->Bool
 |.ok .non=>true
 |_=>false
def By (h:mS r=true):r=.ok .non:=by
 unfold mS at h;split at h
 .rfl
 .cases h
noncomputable def tJ(n:Nat):Bool:=iT (CD 7 18 [.int n]) (tp n)
noncomputable def dT(n c:Nat):Bool:=match (tp n)[c]? with
 |some t=>fP (vN n) t (n-1) [(un n c,1)]
 |none=>false
noncomputable def dN(n:Nat):Bool:=eJ (CD 6 22 [.int n]) (vN n)&&fw n (vN n)&&ig n&&ie n&&tJ n
noncomputable def cA(n:Nat):Bool:=lV n&&lp n&&mS (CD 5 2 [.int n,.int 5])&&nX n&&em n&&lh n
def rg(p:Nat->Bool)(a k:Nat):Bool:=(QL k).all λi=>p (a+i)
def yy (a k:Nat)(h:rg p a k=true)(p1:a<=n)(q:n<a+k):p n=true:=by
 have:=QN.mp h (n-a) (WC.mpr (by lia))
 rwa[show a+(n-a)=n by lia]at this
def tP:dN 1=true:=by kernel_rfl
def GY:rg (dT 1) 0 1=true:=by kernel_rfl
def tO:dN 2=true:=by kernel_rfl
def GX:rg (dT 2) 0 2=true:=by kernel_rfl
def tN:dN 3=true:=by kernel_rfl
def GW:rg (dT 3) 0 3=true:=by kernel_rfl
def tM:dN 4=true:=by kernel_rfl
def GV:rg (dT 4) 0 4=true:=by kernel_rfl
def tL:dN 5=true:=by kernel_rfl
def GU:rg (dT 5) 0 5=true:=by kernel_rfl
def G0:dN 6=true:=by kernel_rfl
def GT:rg (dT 6) 0 6=true:=by kernel_rfl
def GZ:dN 7=true:=by kernel_rfl
def GS:rg (dT 7) 0 7=true:=by kernel_rfl
def GL:rg (xa 1) 1 0=true:=by kernel_rfl
def GK:rg (xa 2) 1 1=true:=by kernel_rfl
def GJ:rg (xa 3) 1 2=true:=by kernel_rfl
def GI:rg (xa 4) 1 3=true:=by kernel_rfl
def GH:rg (xa 5) 1 4=true:=by kernel_rfl
def GG:rg (xa 6) 1 5=true:=by kernel_rfl
def mG:rg (xa 7) 1 2=true:=by kernel_rfl
def mF:rg (xa 7) 3 1=true:=by kernel_rfl
def mD:rg (xa 7) 4 1=true:=by kernel_rfl
def mC:rg (xa 7) 5 2=true:=by kernel_rfl
def GR:cA 1=true:=by kernel_rfl
def GQ:cA 2=true:=by kernel_rfl
def GP:cA 3=true:=by kernel_rfl
def GO:cA 4=true:=by kernel_rfl
def GN:cA 5=true:=by kernel_rfl
def GM:rg dK 1 14=true:=by kernel_rfl
def mO:rg dK 15 5=true:=by kernel_rfl
def mN:rg dK 20 3=true:=by kernel_rfl
def mM:rg dK 23 2=true:=by kernel_rfl
def mL:rg dK 25 2=true:=by kernel_rfl
def mK:rg dK 27 1=true:=by kernel_rfl
def mJ:rg dK 28 1=true:=by kernel_rfl
def mI:rg dK 29 1=true:=by kernel_rfl
def mH:rg dK 30 1=true:=by kernel_rfl
def gr(n:Nat)(h1:1<=n)(h2:n<=30):Gr n:=CY (by
 by_cases c:n<15
 .exact yy 1 14 GM (by lia) c
 by_cases c:n<20
 .exact yy 15 5 mO (by lia) c
 by_cases c:n<23
 .exact yy 20 3 mN (by lia) c
 by_cases c:n<25
 .exact yy 23 2 mM (by lia) c
 by_cases c:n<27
 .exact yy 25 2 mL (by lia) c
 by_cases c:n<28
 .exact yy 27 1 mK (by lia) c
 by_cases c:n<29
 .exact yy 28 1 mJ (by lia) c
 by_cases c:n<30
 .exact yy 29 1 mI (by lia) c
 exact yy 30 1 mH (by lia) (by lia))
def sp(i:Nat)(h1:1<=i)(h2:i<7):xa 7 i=true:=by
 by_cases c:i<3
 .exact yy 1 2 mG (by lia) c
 by_cases c:i<4
 .exact yy 3 1 mF (by lia) c
 by_cases c:i<5
 .exact yy 4 1 mD (by lia) c
 exact yy 5 2 mC (by lia) (by lia)
set_option tactic.hygienic true in
def uY{n:Nat}(hn:0<n)(hn1:n<=7)(hr:eJ (CD 6 22 [.int n]) (vN n)=true)(hw:fw n (vN n)=true)(hb:∀c,c<n->dT n c=true)(ho:ig n=true)(hs:∀i,1<=i->i<n->xa n i=true)(he:ie n=true)(hm:tJ n=true)(hg:Gr n):Md n:=by
 obtain⟨ks,g1,g2,g3⟩:=hg;have h18:=pd hm;have hk:ks=tp n:=by
  rw[h18]at g1;have g2:(tp n).map Dat.int=ks.map Dat.int:=by injection g1 with g1;injection g1 with g1
  have:=Ls zy g2;rw[ye,ye]at this;exact(Option.some.inj this).symm
 subst hk;have he2:=he;unfold ie at he2;rw[Qh]at he2;refine⟨He hn hn1 ho hs he,Lw he2.2,h18,g2,g3,λc hc=>?_⟩;have q:=hb c hc;unfold dT at q;split at q
 .next t et=>exact⟨t,et,Hb hn hn1 hr hw q⟩
 .cases q
def md(n:Nat)(h1:1<=n)(h7:n<=7):Md n:=by
 obtain⟨ha,hb,hs⟩:dN n=true/\rg (dT n) 0 n=true/\∀i,1<=i->i<n->xa n i=true:=by
  rcases(by lia:n=1\/n=2\/n=3\/n=4\/n=5\/n=6\/n=7)with rfl|rfl|rfl|rfl|rfl|rfl|rfl
  .exact ⟨tP,GY,λi p q=>yy 1 0 GL p (by lia)⟩
  .exact ⟨tO,GX,λi p q=>yy 1 1 GK p (by lia)⟩
  .exact ⟨tN,GW,λi p q=>yy 1 2 GJ p (by lia)⟩
  .exact ⟨tM,GV,λi p q=>yy 1 3 GI p (by lia)⟩
  .exact ⟨tL,GU,λi p q=>yy 1 4 GH p (by lia)⟩
  .exact ⟨G0,GT,λi p q=>yy 1 5 GG p (by lia)⟩
  .exact ⟨GZ,GS,sp⟩
 simp only[dN,Qh]at ha;obtain⟨⟨⟨⟨hr,hw⟩,ho⟩,he⟩,hm⟩:=ha;exact uY h1 h7 hr hw (λi hi=>yy 0 n hb (WA _) (by lia)) ho hs he hm (gr n h1 (by lia))
def sl(n:Nat)(h1:1<=n)(h5:n<=5):Sl n:=by
 obtain⟨ha,hb⟩:dN n=true/\cA n=true:=by
  rcases(by lia:n=1\/n=2\/n=3\/n=4\/n=5)with rfl|rfl|rfl|rfl|rfl
  .exact ⟨tP,GR⟩
  .exact ⟨tO,GQ⟩
  .exact ⟨tN,GP⟩
  .exact ⟨tM,GO⟩
  .exact ⟨tL,GN⟩
 simp only[dN,cA,Qh]at ha hb;obtain⟨⟨⟨⟨hr,hw⟩,_⟩,_⟩,_⟩:=ha;obtain⟨⟨⟨⟨⟨hv,ht⟩,h2⟩,hl⟩,hc⟩,hd⟩:=hb;exact⟨H8 h5 hv ht (By h2) hc,Hc h1 (by lia) hr hw hl hd⟩
def EJ{m c:Nat}(hm:m<=7)(d0 d1 d3 d4 d5 d7 d8:Option Dat):am (CD 7) (.comp (.blt .int (.pair (.cmp .eq (.var 9) (.var 6)) .unit)) (.rng (.lit (.int 0)) (.var 2) (.lit (.int 1))) (.lit (.bl true))) [d0,d1,some (.int m),d3,d4,d5,some (.int c),d7,d8]=.ok (ax (un m c)):=by
 rw[xk];simp only[xZ,zA,zr,zm,bK,eG (show m<=1000 by lia),x5];rw[jB,zV (λ(i:Nat)=>Dat.int (i:Int)) (λi=>.int (if i=c then 1 else 0)) (QL m) [] (λi _=>rfl) (λi hi=>?_) (by simp;unfold aq;lia)]
 .simp[ax,un]
 .show xf .int [Dat.bl (decide ((i:Int)=(c:Int)))]=_;by_cases e:i=c
  .subst e;simp;rfl
  .rw[Lq e,Lo (by lia)];rfl
set_option tactic.hygienic true in
def EI(ns:List Int):CD 8 29 [.scr ns]=.ok (.bl true):=by
 obtain⟨c0,h0⟩:=i7 6 ns 0;obtain⟨c1,h1⟩:=i7 6 ns 1;obtain⟨c2,h2⟩:=i7 6 ns 2;obtain⟨c3,h3⟩:=i7 6 ns 3;obtain⟨n,n1,n5,hn⟩:=Hd 6 c0;obtain⟨s1,ts,s2,s3,s4,s5⟩:=sl n n1 n5;obtain⟨q1,q2,-,q4,-⟩:=md n n1 (by lia);have e1:ym .mod (.int c1) (.int 7)=.ok (.int (c1%7)):=jx _ _ (by decide);have e2:ym .mod (.int c2) (.int 30)=.ok (.int (c2%30)):=jx _ _ (by decide);obtain⟨m,hm⟩:∃m:Nat,1+c1%7=m:=⟨(1+c1%7).toNat,by lia⟩;obtain⟨g,hg⟩:∃g:Nat,1+c2%30=g:=⟨(1+c2%30).toNat,by lia⟩;obtain⟨m1,m2,m3,m4,m5,m6⟩:=md m (by lia) (by lia);obtain⟨ks,g1,g2,g3⟩:=gr g (by lia) (by lia);obtain⟨c,hc⟩:∃c:Nat,c3 % (m:Int)=c:=⟨(c3 % (m:Int)).toNat,by have:=Int.emod_nonneg c3 (show(m:Int)≠0 by lia);lia⟩;have hcm:c<m:=by have:=Int.emod_lt_of_pos c3 (show 0<(m:Int) by lia);lia
 have e3:ym .mod (.int c3) (.int m)=.ok (.int c):=by rw[<-hc];exact jx _ _ (by lia)
 obtain⟨t,t1,t2⟩:=m6 c hcm;have h0:CD 7 19 [.scr ns,.int 0]=.ok (.int c0):=h0;have h1:CD 7 19 [.scr ns,.int 1]=.ok (.int c1):=h1;have h2:CD 7 19 [.scr ns,.int 2]=.ok (.int c2):=h2;have h3:CD 7 19 [.scr ns,.int 3]=.ok (.int c3):=h3;have hmine:=C3 (cl:=CD 7) (n:=n) (by lia) s4 (some (.scr ns)) (some (.int m)) (some (.int g)) (some (ax (tp n))) none none none none s2 s3;rw[s5]at hmine;unfold mE cE at hmine;have hfirst:=EJ (m:=m) (c:=c) (by lia) (some (.scr ns)) (some (.int n)) (some (.int g)) (some (ax (tp m))) (some (ax (tp n))) none none;have hi:xg (ax (tp m)) (.int c)=.ok (.int t):=qA t1;have hfl:∀x:List Int,aw (ax x)=false:=λx=>by simp[ax]
 have hlc:∀(a b f:Ex) (x:List Int),aT jP (.comp (.blt .len a) b f) (ax x)=.full:=λa b f x=>by
  unfold ax;rw[qw];simp only[jy,Wb,if_false];rw[Lp (jz _ _ λi=>by simp)]
 have hld:∀(a b f:Ex) (x:List Int),aT jP (.comp (.blt .int a) b f) (ax x)=.full:=λa b f x=>by
  unfold ax;rw[qw];simp only[jy,Wb,if_false];rw[Lp (jz _ _ λi=>by simp)]
 have hat:∀(a0 a1 a2 a3:Option Dat) (x:List Int) (r:aS),jM (a0::a1::a2::a3::some (ax x)::r) 4=some (x.map Dat.int):=λ_ _ _ _ _ _=>rfl;have hll:aT jP (.blt .list (.pair (.var 4) .unit)) (ax (tp m))=.full:=by
  simp[ax]
 have hls:xf .list [ax (tp m)]=.ok (ax (tp m)):=by
  show bo ((tp m).map Dat.int)=_;rw[yr (by rw[Qp,m2];unfold aq;lia)];rfl
 rw[wU (d:=7) (f:=iW) rfl];simp[-qw,-CM,xu,bg,Bd,hat,yx,hfl,hlc,hld,hll,hls,Bl,jP,xh,iW,xw,xD,xQ,yZ,h0,h1,h2,h3,hn,e1,e2,e3,hm,hg,hc,s1,hmine,hfirst,hi,q4,m1,m3,m4,m5,t2,g1,g2,g3]
def pure(ns:List Int)(_:ns.length<=63):∃m,y9 (D.map (·.fn)) 8 29 [.rol (ns.map Wd.int)] []=.ok (.bl true) m:=CA jP T 8 29 ns (EI ns)
end R69
namespace Mini
open PySem PySem.Spec PyProof.Rows L2
def uX {run:Value->List Value->Sem Value}{K:IP->Qb}(e:∀P,as=(K P).map (·.1))(h:VM q loose XP (λw h=>(K w.params).In h) r d kwd run):PySem.W.WalkX q loose XP (PySem.W.X.obsZ as) (PySem.W.X.valZ K n t) r d kwd run:=
 λw s₀ s₁ mg mb G y a o pm cd doc dV kV h1 h2 h3 h4 h5 h6 args vals as' L p1 p2 p3 p4 p5=>h w s₀ s₁ mg mb G (PySem.W.InK.keeps (K:=K) w _ _ (PySem.W.X.z_facts e y).2.1 L.keeps) a o pm cd doc dV kV h1 h2 h3 h4 h5 h6 args vals as' p1 p2 p3 p4 p5
end Mini
namespace R69
open PySem L2 Mini PySem.W
def G8 (X:(K P).In h)(G:h.Ns IT mg)(g:nsIn (K P) IT d.nm=some (some (.ref a)))(l:(K P).lookup a=some (fO d.on d.st m c))(k:codeIn (K P) (.ref c) d.on=true):jr (K P) mg d:=
 dk X G g l k (by show(match (K P).lookup a with|some ⟨_,_,.func _,_⟩=>true|some ⟨_,_,.cls _,_⟩=>_|_=>false)=true;rw[l];rfl)
def G7 (X:(K P).In h)(G:h.Ns IT mg){l:List (bN×Addr×Addr×Value)}(e:l.map (λx=>(nsIn (K P) IT x.1.nm,(K P).lookup x.2.1,codeIn (K P) (.ref x.2.2.1) x.1.on))=l.map λx=>(some (some (.ref x.2.1)),some (fO x.1.on x.1.st x.2.2.2 x.2.2.1),true)):∀d∈l.map (·.1),jr (K P) mg d:=λd hd=>by
 obtain⟨x,hx,rfl⟩:=WX.mp hd;have q:=List.map_inj_left.mp e x hx;exact G8 X G (Ls (·.1) q) (Ls (·.2.1) q) (Ls (·.2.2) q)
noncomputable def lD:List (bN×Addr×Addr×Value):=[(d0,46,45,m0),(d1,53,52,m0),(d2,60,59,m0),(d3,65,64,m1),(d4,72,71,m2),(d5,77,76,m2),(d6,82,81,m2),(d7,89,88,m2),(d8,94,93,m3),(d9,101,100,m3),(uI,108,107,m3),(uH,113,112,m3),(uG,118,117,m3),(uF,125,124,m3),(uE,132,131,m3),(uD,139,138,m3),(uC,146,145,m3),(uB,153,152,m3),(uA,158,157,m3),(uy,165,164,m4),(ux,172,171,m4),(uw,179,178,m4),(uv,186,185,m4),(uu,193,192,m4),(ut,198,197,m4),(ur,205,204,m4),(uq,210,209,m4),(um,215,214,m4),(ul,222,221,m4),(mW,227,226,m4)]
section
variable(P:IP)
def zb:∀nm∈zp,nsIn (K P) IT nm=some none:=(List.map_inj_left (g:=λ_=>some none)).1 (by kernel_rfl)
end
end R69
open PySem PySem.W PyProof.Rows
set_option maxRecDepth 100000 in
theorem PySem.Challenge.cw_loopgyre_k69_tops_alike_holds : PySem.Challenge.rw_loopgyre_k69_tops_alike.Holds := by
 w_on;o_law
 refine holds_openX (q:=R69.qv) (loose:=R69.fH) (Xt:=R69.Xt) (XP:=XL R69.qv []) (Yf:=X.obsZ R69.as) (Ya:=X.valZ R69.K 228 485) (N:=2854) R69.hl (λs e=>xl_of s (Q6.mp e).1) XL.keeps (by rfl) (by rfl) (by rfl) (λs e=>recFacts_of (Q6.mp e).2) (by rfl) (by assumption) (by decide +kernel) ⟨rfl,rfl,rfl,rfl,rfl,by decide +kernel⟩ ?hw ?hc
 case hw=>w_witness2
 refine Mini.uX (K:=R69.K) (λ_=>rfl) ?_;refine Mini.uU (l:=PySem.Challenge.rw_loopgyre_k69_tops_alike) (D:=R69.D) (C:=R69.C) (k:=8) (i:=29) (dl:=R69.mW) (x:="_law_script") (n:=63) rfl (by decide) rfl ⟨rfl,by decide,by decide⟩ (λw h Y=>Y) rfl R69.uZ R69.G9 rfl rfl rfl ?F R69.pure
 case F=>
  intro w mg fa h KX G hmg;exact R69.mk KX G (t0:=258) (t1:=294) (t2:=296) (R69.G7 KX G (l:=R69.lD) (by kernel_rfl)) (by kernel_rfl) (by kernel_rfl) (by kernel_rfl) (R69.zb w.params)
