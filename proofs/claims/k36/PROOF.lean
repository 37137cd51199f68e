import PyProof.Rows.All
import Wide.All
import OpenK.AllK
import Wide.FinOn
import Lean
import PyProof.EqAt
import PyProof.EqKinds
import PyProof.NeKinds
import PyProof.TupleCall
import OpenK.KOwn
import PyProof.WalkInts
import KE.KIsAll
import KE.RegKIsAll
import PyProof.ExcAttrAll.ValueError
import OpenK.KMake
import PyProof.ExcInit
import PySem.Challenge.RW_loopgyre_k36_whole_fewest_turns
open PySem renaming Scope→HP,Params→HQ,DictEntry→HR,Program→HS,World→HU,Heap→HV,mainGlobals→HW,bootBuiltins→HX,Around→HY,GenState→Ia,Model→Ib,wpAny→Ic,model→Ie,backTo→Ig,starEach→Ih,wpAny_mono→Ii,CmpOp→Ij,compareOp→Ik,behindInMarks→Il,wpAny_truthy_bool→Im,wpAny_execs_nil→Io,wpAny_execs_cons→Ip,swapsWith→Iq,wpAny_Expr_any→Ir,assignEach→Is,wpAny_bind→Iu,wpAny_holding→Iv,wpAny_standAt→Iw,wpAny_passesOwn→Ix,pyNext→Iy,letOwnedTupleGo→Iz,wpAny_pure→IA,wpAny_pyNext_list_item→IB,wpAny_pyNext_list_end→IC,IsRangeIter→ID,wpAny_pyNext_range_end→IE,wpAny_pyIter_rangeiter→IF,wpAny_pyIter_list→IG,rangeSize_one→IH,foldedSetIterable→II,binaryOp→IJ,sizeLine_eq→IK,cLine→IL,Result→IM,FuncData→IN,BindsTo→IP,codeAny→IQ,codeAny_mono→IR,wpAny_Call_Name_kw→IS,NameKind→IT,bindL→IU,bindC→IV,cellsFrom→IW,concat_meets→IX,noFill_tuple_add→IY,seq_tuple_add→IZ,seqIndex_of→Ja,seqIndex_neg→Jb,attributeBase→Jd,keywordEach→Je,Keyword→Jf,call_meets→Jg,callerA→Ji,pushCells→Jj,pushCells_keeps→Jk,newFunctionEnv→Jl,relabel→Jm,notedBy→Jn,wpAny_comprehension_free→Jo,wpAny_newObj_type→Jp,wpAny_specialOf→Jq,wpAny_rule→JC,wpAny_attempt→JH,argBest→JM,wpAny_nextOf_list_end→JN,wpAny_callSpecial?_slot→JO,wpAny_call_entry→JP,field→JQ,wpAny_field→JR,wpAny_seqItems→JS,IsZip→JT,IsPair→JU,wpAny_setField_rec→JV,wpAny_onRaise→JW,wpAny_updateSeq_pair→JX,wpAny_letGo→JY,builtinLookup_eq_fast→J1,codeAny_call_builtin→J3,wpAny_loadPart_at→J6,excClassObj→J7,wpAny_isSubtype_exc→J8
open PyProof.Rows renaming AllBare→HZ,subscriptTail_builtinR→Jc,IntsAre→Jh,SortKind→Jr,KeyOrd→Js,SortSt→Jt,wpS_pure→Ju,wpS_bind→Jv,wpS_mono→Jw,wpS_forRange→Jx,arrOf→Jy,pendingOf→Jz,failedOf→JA,wpS_lift→JB,wpS_get→JD,wpS_modify→JE,gallopOf→JF,power'→JG,sortedAll→JI,seqObj→JJ,size_push'→JK,get?_update_seq→JL,listUpdate_at→JZ,seqEpoch_at→J0
open PySem.W renaming mroIn→J2,findIn→J4,looks_findIn→J5
open List renaming getElem?_eq_some_iff→Qa,mem_cons→Qc,getElem?_append_right→Qd,set_cons_zero→Qf,set_cons_succ→Qg,getD_eq_getElem?_getD→Qh,getElem?_append_left→Qi,getElem?_map→Ql,getElem?_eq_none→Qm,append_assoc→Qn,mem_cons_of_mem→Qp,getElem?_eq_getElem→Qq,range→Qr,getElem?_take_of_lt→Qs,mem_of_getElem?→Qt,mem_append→Qu,length_map→Qv,mem_append_right→Qy,replicate→Qz,getElem?_set_ne→QA,getElem?_of_mem→QB,length_append→QC,nodup_append→QF,mem_singleton→QH,getElem?_set→QI,take_append_drop→QJ,size_toArray→QK,take_of_length_le→QL,drop_eq_getElem_cons→QM,nodup_nil→QP,mem_cons_self→QQ,nodup_cons→QS,mem_range→QT,length_take→QU,append_nil→QV,replicate_succ→QW,take_add_one→QY,map_congr_left→Q4,mem_append_left→Q5,pairwise_cons→Q6,ext_getElem?→Q8,getElem?_set_self→Wa,getElem?_drop→Wb,lookup_cons→Wc,pairwise_map→Wf,flatten_cons→Wg,mem_of_mem_take→Wi,pairwise_iff_getElem→Wj,getElem?_eq_none_iff→Wk,take_append_of_le_length→Wl,map_cons→Wm,map_map→Wn,take_sublist→Wo,reverse_cons→Wp,mem_map→Wq,drop_sublist→Wr,extract_eq_take_drop→Ws,all_eq_true→Wv,mem_of_mem_drop→Ww,nil_append→Wx,set_append_right→WB,perm_append_comm→WC,getElem?_zip_eq_some→WD,length_set→WE,length_range→WG,not_mem_nil→WL,length_cons→WM,eq_nil_of_length_eq_zero→WO,range_succ_eq_map→WQ,all_cons→WS,Perm→WT,pairwise_reverse→WU,getElem?_reverse→WV,drop_length→W0,reverse_append→W3,getElem?_range→W4,flatten_append→W5,set_eq_of_length_le→W7,sum_append→W8,map_append→W9,getElem?_replicate→Va,flatten_singleton→Vd,drop_drop→Ve,all_map→Vf,map_reverse→Vh,cons_append→Vi,any_eq_true→Vj,range_succ→Vm,filterMap_cons→Vo,reverse_perm→Vq,sum_cons→Vr,mem_reverse→Vt,mem_flatMap→Vu,length_drop→Vv,getElem_mem→Vw,getElem_inj→Vx,drop_eq_nil_of_le→Vz,Nodup→VA,mem_iff_getElem→VG,forIn_nil→VH,length_reverse→VI,getD_cons_zero→VJ,mem_filterMap→VM,any_eq_false→VO,zipIdx_cons→VQ,take_length→VR,nodup_range→VS,drop_append→VT,drop_append_of_le_length→VV,of_mem_zip→VX,mem_filter→VY,length_zip→VZ,forIn_cons→V0,take_zero→V4,drop_zero→V5,map_nil→Ud
open PySem.W renaming Frag→Qb,kitOne→QN,mg_of→QX,keepIn→Wh,nsIn→Wu,mroIn→Wy,kia_one→WN,excIn→WP,fnOf→WX,cellsFrom_some→Vs,codeIn→VC,findIn→VU,WalkO→V2,hideAll_get→Uc
open PySem.Heap renaming get?_push_of_some→Qe,lt_size→Qj,get?_push_size→Qw,SameBut→WH,size_push→WY,get?_update_ne→W6,size_update→Vy,get?_update_other→VB,get?_update_self→VE,ExtBut→VW
open Nat renaming lt_of_lt_of_le→Qk,le_refl→Qo,le_trans→QD,ne_of_lt→QE,lt_irrefl→We,ne_of_gt→WA,zero_le→WI,lt_succ_of_lt→WJ,lt_succ_self→W1,le_succ→Vb,zero_add→Vg,le_of_lt→VD,eq_zero_or_pos→VN,le_of_eq→VP,add_assoc→V9
open Bool renaming and_eq_true→Qx,false_ne_true→QZ,false_eq_true→Q0,and_eq_true_iff→Q9,or_eq_true→WR,not_eq_true'→WW,not_true→Vk,and_self→VL,eq_iff_iff→V1,false_or→V8
open Array renaming getElem?_toList→QG,length_toList→Q3,getD_eq_getD_getElem?→Q7,toList_extract→WF,toList_push→Vc,toList_append→Vn,toList_reverse→VF,toList_setIfInBounds→V3,getElem?_eq_getElem→V6,toList→Ua,getElem?_eq_none→Ub
open Option renaming map_eq_some_iff→QO,map_some→QR,bind_eq_some_iff→Q2,getD_some→Wt,bind_some→Wz,isSome_iff_exists→W2,toList_some→Vp
open Int renaming toNat_natCast→WK,le_refl→WZ,fdiv_eq_ediv_of_nonneg→V7
set_option Elab.async false
set_option linter.all false
set_option maxRecDepth 100000
set_option genSizeOf false
set_option maxHeartbeats 0
set_option tactic.hygienic false
set_option bootstrap.genMatcherCode false
set_option compiler.extract_closed false
set_option backward.eqns.nonrecursive false
set_option backward.eqns.deepRecursiveSplit false
noncomputable section
noncomputable def J9:=@decide_eq_false
noncomputable def Ka.{u}:=@if_pos.{u}
noncomputable def Kb.{u}:=@if_neg.{u}
noncomputable def Kc.{u}:=@absurd.{u}
noncomputable def Ke.{u,v}:=@congrArg.{u,v}
noncomputable def Kf:=@decide_eq_true
noncomputable def Kg:=@of_decide_eq_true
noncomputable def Kh:=@decide_eq_true_eq
namespace L2
open PySem PySem.Spec PyProof.Rows
noncomputable def wd(s:Stmt):Arguments:=match s with
 |.FunctionDef _ a _ _ _ _ _ _ _ _=>a
 |_=>{posonlyargs:=[],args:=[],vararg:=none,kwonlyargs:=[],kw_defaults:=[],kwarg:=none,defaults:=[]}
noncomputable def yJ(s:Stmt):List Stmt:=match s with
 |.FunctionDef _ _ b _ _ _ _ _ _ _=>b
 |_=>[]
noncomputable def zy(s:Stmt):HP:=match s with
 |.FunctionDef _ _ _ _ _ _ sc _ _ _=>sc
 |_=>{kind:=.function,names:=[],isGenerator:=false,isCoroutine:=false}
end L2
namespace R36
open PySem L2 PySem.W
noncomputable def top(i:Nat):Stmt:=PySem.Challenge.pw_loopgyre_k36_whole_fewest_turns.main.body.getD i (.Pass ⟨0,0,0,0⟩)
noncomputable def ge(P:HQ)(s:Str)(t:Tok)(v:Value):HR:=⟨PyData.keyHash P s,.str s t,v⟩
noncomputable def cO(s:Str)(t l n f a q b c d e u v:Nat):Obj:=⟨.type "code",none,.fields #[.str s t,.str s (t+1),.str "/claim/cut.py" (t+2),.int l 0,.int n 0,.int 0 0,.int 0 0,.int f 0,.ref a,.bool true,.int q 0,.ref b,.none,.ref c,.ref d,.ref e,.int u 0,.int l 0,.str "/claim/cut.py" v],#[]⟩
noncomputable def fO(n:Str)(d:Stmt)(m:Value)(c:Addr):Obj:=⟨.type "function",none,.func (fnOf n n (wd d) (yJ d) (zy d) .none .none .none m none (.ref c) .none),#[]⟩
noncomputable def m0:Value:=.str "loopgyre.kinds" 344
noncomputable def m1:Value:=.str "loopgyre.signs" 354
noncomputable def m2:Value:=.str "loopgyre.heights" 362
noncomputable def m3:Value:=.str "loopgyre.turns" 380
noncomputable def m4:Value:=.str "law_loopgyre_k36_whole_fewest_turns" 398
noncomputable def fj(s:Str)(t l n f a q b e u v:Nat):Obj:=⟨.type "code",none,.fields #[.str s t,.str s (t+1),.str "/claim/cut.py" (t+2),.int l 0,.int n 0,.int 0 0,.int 0 0,.int f 0,.ref a,.bool true,.int q 0,.ref b,.none,.none,.none,.ref e,.int u 0,.int l 0,.str "/claim/cut.py" v],#[]⟩
noncomputable def fi(P:HQ)(t u l x:Nat):Obj:=⟨.type "dict",none,.dict #[ge P "__module__" t (.str "loopgyre.errors" u),ge P "__firstlineno__" (t+4) (.int l (t+3)),ge P "__static_attributes__" (t+5) (.ref x),ge P "__doc__" (t+6) .none] 2,#[]⟩
noncomputable def eP(s:Str)(g a d r t:Nat):Obj:=⟨.type "type",none,.cls ⟨s,[.ref g],[.ref a,.ref g,.type "ValueError",.type "Exception",.type "BaseException",.type "object"],d,s,true,[],[],false,none,false⟩,#[some (.ref r),none,some (.str s t),some (.str s (t+8)),some (.builtin "ValueError.__new__"),some (.bool true)]⟩
noncomputable def K(P:HQ):Frag:=[(3,⟨.type "dict",none,.dict #[ge P "__name__" 165 (.str "law_loopgyre_k36_whole_fewest_turns" 398),ge P "__doc__" 166 .none,ge P "__package__" 167 .none,ge P "__loader__" 168 (.builtin "__main__.__loader__#opaque"),ge P "__spec__" 169 .none,ge P "__annotations__" 170 (.ref 6),ge P "__builtins__" 171 (.ref 4),ge P "__file__" 173 (.str "/claim/cut.py" 172),ge P "__cached__" 174 .none,ge P "GyreError" 206 (.ref 24),ge P "NoState" 231 (.ref 44),ge P "NoSquare" 247 (.ref 56),ge P "NoTurn" 263 (.ref 68),ge P "Unlike" 279 (.ref 80),ge P "NoRoad" 295 (.ref 92),ge P "NoSize" 311 (.ref 104),ge P "NoText" 327 (.ref 116),ge P "NoName" 343 (.ref 128),ge P "need_alike" 353 (.ref 137),ge P "column_sums" 361 (.ref 142),ge P "height_row" 373 (.ref 149),ge P "heights_of" 379 (.ref 154),ge P "falls" 387 (.ref 159),ge P "turns_between" 397 (.ref 166),ge P "_law_cell_at" 407 (.ref 173),ge P "_law_mixed" 416 (.ref 180),ge P "_law_size" 423 (.ref 187),ge P "_law_drawn" 429 (.ref 192),ge P "_law_heights" 441 (.ref 199),ge P "_law_level" 451 (.ref 206),ge P "_law_copy" 457 (.ref 211),ge P "_law_two" 463 (.ref 216),ge P "_law_apart" 469 (.ref 221),ge P "_law_is_point" 478 (.ref 228),ge P "_law_leads" 492 (.ref 235),ge P "_law_refused" 501 (.ref 242),ge P "law" 516 (.ref 249)] 37,#[]⟩),(23,⟨.type "dict",none,.dict #[ge P "__module__" 196 (.str "loopgyre.errors" 187),ge P "__firstlineno__" 200 (.int 2 199),ge P "__static_attributes__" 201 (.ref 22),ge P "__weakref__" 203 (.ref 25),ge P "__doc__" 204 .none] 3,#[]⟩),(24,⟨.type "type",none,.cls ⟨"GyreError",[(.type "ValueError")],[(.ref 24),(.type "ValueError"),(.type "Exception"),(.type "BaseException"),(.type "object")],23,"GyreError",true,[],[(.ref 44),(.ref 56),(.ref 68),(.ref 80),(.ref 92),(.ref 104),(.ref 116),(.ref 128)],false,none,false⟩,#[(some (.ref 15)),none,(some (.str "GyreError" 189)),(some (.str "GyreError" 197)),(some (.builtin "ValueError.__new__")),(some (.bool true))]⟩),(43,⟨.type "dict",none,.dict #[ge P "__module__" 214 (.str "loopgyre.errors" 187),ge P "__firstlineno__" 218 (.int 4 217),ge P "__init__" 226 (.ref 41),ge P "__static_attributes__" 228 (.ref 42),ge P "__doc__" 229 .none] 2,#[]⟩),(44,eP "NoState" 24 44 43 28 207),(55,fi P 239 187 8 54),(56,eP "NoSquare" 24 56 55 47 232),(67,fi P 255 187 10 66),(68,eP "NoTurn" 24 68 67 59 248),(79,fi P 271 187 12 78),(80,eP "Unlike" 24 80 79 71 264),(91,fi P 287 187 14 90),(92,eP "NoRoad" 24 92 91 83 280),(103,fi P 303 187 16 102),(104,eP "NoSize" 24 104 103 95 296),(115,fi P 319 187 18 114),(116,eP "NoText" 24 116 115 107 312),(127,fi P 335 187 20 126),(128,eP "NoName" 24 128 127 119 328),(136,cO "need_alike" 346 23 2 3 131 181 132 133 134 135 351 352),(137,fO "need_alike" (top 11) m0 136),(141,fj "column_sums" 356 27 1 3 138 181 139 140 359 360),(142,fO "column_sums" (top 13) m1 141),(148,cO "height_row" 364 35 2 3 143 181 144 145 146 147 371 372),(149,fO "height_row" (top 15) m2 148),(153,fj "heights_of" 374 40 1 3 150 181 151 152 377 378),(154,fO "heights_of" (top 16) m2 153),(158,fj "falls" 382 43 2 3 155 181 156 157 385 386),(159,fO "falls" (top 18) m3 158),(165,cO "turns_between" 388 50 2 3 160 181 161 162 163 164 395 396),(166,fO "turns_between" (top 19) m3 165),(172,cO "_law_cell_at" 400 56 2 3 167 181 168 169 170 171 405 406),(173,fO "_law_cell_at" (top 21) m4 172),(179,cO "_law_mixed" 408 60 2 3 174 181 175 176 177 178 414 415),(180,fO "_law_mixed" (top 22) m4 179),(186,cO "_law_size" 417 63 1 3 181 181 182 183 184 185 421 422),(187,fO "_law_size" (top 23) m4 186),(191,fj "_law_drawn" 424 67 2 3 188 181 189 190 427 428),(192,fO "_law_drawn" (top 24) m4 191),(198,cO "_law_heights" 430 90 1 3 193 181 194 195 196 197 439 440),(199,fO "_law_heights" (top 25) m4 198),(205,cO "_law_level" 442 100 3 3 200 181 201 202 203 204 449 450),(206,fO "_law_level" (top 26) m4 205),(210,fj "_law_copy" 452 103 1 3 207 181 208 209 455 456),(211,fO "_law_copy" (top 27) m4 210),(215,fj "_law_two" 458 105 1 3 212 181 213 214 461 462),(216,fO "_law_two" (top 28) m4 215),(220,fj "_law_apart" 464 111 2 3 217 181 218 219 467 468),(221,fO "_law_apart" (top 29) m4 220),(227,cO "_law_is_point" 470 116 2 3 222 181 223 224 225 226 476 477),(228,fO "_law_is_point" (top 30) m4 227),(234,cO "_law_leads" 479 123 4 3 229 181 230 231 232 233 490 491),(235,fO "_law_leads" (top 31) m4 234),(241,cO "_law_refused" 493 133 2 3 236 181 237 238 239 240 499 500),(242,fO "_law_refused" (top 32) m4 241),(248,cO "law" 502 141 1 3 243 181 244 245 246 247 514 515),(249,fO "law" (top 33) m4 248)]
noncomputable def as:List Addr:=[3,23,24,43,44,55,56,67,68,79,80,91,92,103,104,115,116,127,128,136,137,141,142,148,149,153,154,158,159,165,166,172,173,179,180,186,187,191,192,198,199,205,206,210,211,215,216,220,221,227,228,234,235,241,242,248,249]
noncomputable def qv:HS:={PySem.Challenge.pw_loopgyre_k36_whole_fewest_turns with main:={PySem.Challenge.pw_loopgyre_k36_whole_fewest_turns.main with body:=[1,2,3,4,5,6,7,8,9,11,13,15,16,18,19,21,22,23,24,25,26,27,28,29,30,31,32,33].map top} }
noncomputable def fK:List Str:=[]
noncomputable def Xt(s:Shared):Bool:=xlAt qv [] s&&recOk (RowW.records PySem.Challenge.rw_loopgyre_k36_whole_fewest_turns.row.toRowW) s
theorem hj{α β γ δ:Type}{o:Option Shared}{f:Shared->α×β×γ}{g:α×β×γ}{k:Shared->δ}{d:δ}(a:o.map (λs=>((f s).1,(f s).2.1))=some (g.1,g.2.1))(b:o.map (λs=>(f s).2.2)=some g.2.2)(c:o.map k=some d):o.map (λs=>(f s,k s))=some (g,d):=by
 cases o with
 |none=>cases a
 |some s=>
  simp only[QR,Option.some.injEq,Prod.mk.injEq]at a b c ⊢
  exact⟨Prod.ext a.1 (Prod.ext a.2 b),c⟩
noncomputable def rn(w:HU):Option Shared:=openEnds treeTable PySem.Challenge.pw_loopgyre_k36_whole_fewest_turns w 5212
noncomputable def sn(s:Shared):=openSeen qv fK (importedModules PySem.Challenge.pw_loopgyre_k36_whole_fewest_turns.main.body) Xt true s
theorem Gi(w:HU):(rn w).map (λs=>((sn s).1,(sn s).2.1))=some ((openGood qv fK).1,(openGood qv fK).2.1):=by kernel_rfl
theorem Gh(w:HU):(rn w).map (λs=>(sn s).2.2)=some (openGood qv fK).2.2:=by kernel_rfl
theorem Gg(w:HU):(rn w).map (X.obsZ as)=some (X.valZ K 250 517 w):=by kernel_rfl
theorem hl:LeftO PySem.Challenge.pw_loopgyre_k36_whole_fewest_turns qv fK Xt (X.obsZ as) (X.valZ K 250 517) 5212:=λw=>hj (Gi w) (Gh w) (Gg w)
end R36
namespace L2
open PySem PySem.Spec PyProof.Rows
abbrev dN:=Sum Int Str
noncomputable def oZ:dN->Value->Bool
 |.inl k,v=>Value.isInt k v
 |.inr x,v=>Value.isStrOf x v
noncomputable def nj(w:HU):dN->Int
 |.inl k=>hashInt k
 |.inr x=>hashStr w x
def zU:∀{k:dN}{v:Value},oZ k v=true->(∃i t,k=Sum.inl i/\v=Value.int i t)\/(∃x t,k=Sum.inr x/\v=Value.str x t)
 |.inl i,v,h=>by
  obtain⟨t,e⟩:=Value.isInt_shape (k:=i) (v:=v) h;exact .inl ⟨i,t,rfl,e⟩
 |.inr x,v,h=>by
  obtain⟨t,e⟩:=Value.isStrOf_shape (x:=x) (v:=v) h;exact .inr ⟨x,t,rfl,e⟩
def AK(a b:Int):decide ((Sum.inl a:dN)=Sum.inl b)=(a==b):=by
 by_cases e:a=b
 .subst e;simp
 .have h:¬(Sum.inl a:dN)=Sum.inl b:=λq=>e (Sum.inl.inj q);rw[J9 h];exact(beq_eq_false_iff_ne.mpr e).symm
def AJ(a b:Str):decide ((Sum.inr a:dN)=Sum.inr b)=decide (a=b):=by
 by_cases e:a=b
 .subst e;simp
 .have h:¬(Sum.inr a:dN)=Sum.inr b:=λq=>e (Sum.inr.inj q);rw[J9 h,J9 e]
def AI(a:Int)(b:Str):decide ((Sum.inl a:dN)=Sum.inr b)=false:=J9 (λq=>nomatch q)
def AH(a:Str)(b:Int):decide ((Sum.inr a:dN)=Sum.inl b)=false:=J9 (λq=>nomatch q)
noncomputable def GU(prog:HS)(w:HU):PySem.KeyKind prog w dN where
 is:=oZ
 hash:=nj w
 inj:=λv a b ha hb=>by
  rcases zU ha with⟨i,t,rfl,rfl⟩|⟨x,t,rfl,rfl⟩
  .rcases zU hb with⟨j,u,rfl,e⟩|⟨y,u,rfl,e⟩
   .injection e with e1 _;rw[e1]
   .exact nomatch e
  .rcases zU hb with⟨j,u,rfl,e⟩|⟨y,u,rfl,e⟩
   .exact nomatch e
   .injection e with e1 _;rw[e1]
 byValue:=λk v h=>by
  rcases zU h with⟨i,t,rfl,rfl⟩|⟨x,t,rfl,rfl⟩<;>rfl
 pyHash:=λhv h=>by
  rcases zU hv with⟨i,t,rfl,rfl⟩|⟨x,t,rfl,rfl⟩
  .exact wpAny_pyHash_int h
  .exact wpAny_pyHash_str h
 eqBool:=λhu hv h=>by
  rcases zU hu with⟨i,t,rfl,rfl⟩|⟨x,t,rfl,rfl⟩
  .rcases zU hv with⟨j,u,rfl,rfl⟩|⟨y,u,rfl,rfl⟩
   .rw[AK]at h;exact wpAny_eqBool_int h
   .rw[AI]at h;exact SeqAt.EqAt.int_str i t y u _ _ _ _ h
  .rcases zU hv with⟨j,u,rfl,rfl⟩|⟨y,u,rfl,rfl⟩
   .rw[AH]at h;exact SeqAt.EqAt.str_int x t j u _ _ _ _ h
   .rw[AJ]at h;exact wpAny_eqBool_str h
 «strs»:=λk x t v h=>by
  rcases zU h with⟨i,u,rfl,e⟩|⟨y,u,rfl,e⟩
  .exact nomatch e
  .injection e with e1 _
   subst e1;cases v<;>rfl
set_option genInjectivity false in
inductive V where
 |non|bl (b:Bool)|int (i:Int)|str (x:Str)|byt (b:Array UInt8)|flt (b:UInt64)|ref (a:Addr)|ty (n:String)
 deriving DecidableEq
noncomputable def RelV:V->Value->Prop
 |.non,u=>u=Value.none
 |.bl b,u=>u=Value.bool b
 |.int i,u=>∃t,u=Value.int i t
 |.str x,u=>∃t,u=Value.str x t
 |.byt b,u=>∃t,u=Value.bytes b t
 |.flt b,u=>∃t,u=Value.float b t
 |.ref a,u=>u=Value.ref a
 |.ty n,u=>u=Value.type n
abbrev aw:List V->List Value->Prop:=Paired RelV
theorem aw.length (r:aw xs us):xs.length=us.length:=Paired.length r
theorem aw.get:∀{xs:List V}{us:List Value}{i:Nat}{x:V},aw xs us->xs[i]?=some x->∃u,us[i]?=some u/\RelV x u
 |_,_,_,_,.nil,e=>by simp at e
 |_,_,0,_,.cons r _,e=>by simp at e;subst e;exact⟨_,rfl,r⟩
 |_,_,i+1,x,.cons _ t,e=>by
  obtain⟨u,h1,h2⟩:=aw.get (i:=i) (x:=x) t (by simpa using e);exact⟨u,by simpa using h1,h2⟩
theorem aw.set (r:RelV x u):∀{xs:List V}{us:List Value}(i:Nat),aw xs us->aw (xs.set i x) (us.set i u)
 |_,_,_,.nil=>.nil
 |_,_,0,.cons _ t=>.cons r t
 |_,_,i+1,.cons q t=>.cons q (aw.set r i t)
theorem aw.append:∀{xs ys:List V}{us ws:List Value},aw xs us->aw ys ws->aw (xs++ys) (us++ws)
 |_,_,_,_,.nil,s=>s
 |_,_,_,_,.cons r t,s=>.cons r (aw.append t s)
noncomputable def kV:dN->V
 |.inl i=>.int i
 |.inr x=>.str x
set_option genInjectivity false in
inductive HO where
 |lst (xs:List V)
 |tup (xs:List V)
 |own (x:Addr)
 |frz (o:Obj) (u:HO)
 |tbl (ps:Array Value)
 |ext (φ:HV->Prop)
abbrev Hp:=Addr->Option HO
noncomputable def aI(H:Hp)(a:Addr)(o:HO):Hp:=λb=>if b=a then some o else H b
def zf:aI H a o a=some o:=by unfold aI;rw[Ka rfl]
def zg (h:b≠a):aI H a o b=H b:=by unfold aI;rw[Kb h]
def zA {H:Hp}(h:H a=some o)(h':H b=none):a≠b:=by
 intro e;subst e;rw[h]at h';cases h'
section
variable(P:HS)(w:HU)
noncomputable def br(P:HS)(w:HU)(H:Hp)(h:HV)(a:Addr):HO->Prop
 |.lst xs=>xs.length<=sizeLine/\∃(its:List Value) (n:Nat),aw xs its/\h.get? a=some {cls:=.type "list",data:=.seq its.toArray n}
 |.tup xs=>xs.length<=sizeLine/\∃its:List Value,aw xs its/\IsTup h a its.toArray
 |.own _=>∃o,h.get? a=some o
 |.frz o u=>h.get? a=some o/\br P w H h a u
 |.tbl ps=>h.get? a=some {cls:=.none,data:=.fields ps}
 |.ext φ=>φ h/\(∃o,h.get? a=some o)/\∀h1 h2:HV,φ h1->(∀o,h1.get? a=some o->h2.get? a=some o)->φ h2
noncomputable def cj(H:Hp)(h:HV):Prop:=∀a o,H a=some o->br P w H h a o
end
section
variable{P:HS}{w:HU}{H H':Hp}{h h':HV}{a:Addr}{o:HO}
theorem br.lt(x:br P w H h a o):a<h.objs.size:=by
 cases o with
 |lst xs=>obtain⟨_,_,_,_,e⟩:=x;exact Qj e
 |tup xs=>obtain⟨_,_,_,p⟩:=x;exact p.lt
 |own y=>obtain⟨_,e⟩:=x;exact Qj e
 |frz ob u=>obtain⟨e,_⟩:=x;exact Qj e
 |tbl ps=>exact Qj (show h.get? a=some _ from x)
 |ext φ=>obtain⟨_,⟨_,e⟩,_⟩:=x;exact Qj e
def br.stay(x:br P w H h a o)(k:∀b u,(b=a\/H b=some (.own a))->h.get? b=some u->h'.get? b=some u)
  (ho:∀b,H b=some (.own a)->H' b=some (.own a)) (ht:∀b xs,H b=some (.tup xs)->H' b=some (.tup xs)):br P w H' h' a o:=by
 induction o with
 |lst xs=>obtain⟨z,its,n,r,e⟩:=x;exact⟨z,its,n,r,k _ _ (.inl rfl) e⟩
 |tup xs=>obtain⟨z,its,r,ob,e,c⟩:=x;exact⟨z,its,r,ob,k _ _ (.inl rfl) e,c⟩
 |own y=>obtain⟨ob,e⟩:=x;exact⟨ob,k _ _ (.inl rfl) e⟩
 |frz ob u ih=>obtain⟨e,q⟩:=x;exact⟨k _ _ (.inl rfl) e,ih q⟩
 |tbl ps=>
  have e:h.get? a=some {cls:=.none,data:=.fields ps}:=x;show h'.get? a=some {cls:=.none,data:=.fields ps};exact k a _ (.inl rfl) e
 |ext φ=>obtain⟨p,⟨o,e⟩,st⟩:=x;exact⟨st _ _ p λo q=>k _ _ (.inl rfl) q,⟨o,k _ _ (.inl rfl) e⟩,st⟩
theorem cj.lt(x:cj P w H h)(e:H a=some o):a<h.objs.size:=(x a o e).lt
def cj.fresh(x:cj P w H h)(e:h.objs.size<=a):H a=none:=by
 cases q:H a with
 |none=>rfl
 |some u=>exact Kc (Qk (x.lt q) e) (We _)
def cj.kept(x:cj P w H h)(k:∀b u,h.get? b=some u->h'.get? b=some u):cj P w H h':=λa o e=>
 (x a o e).stay (λb u _ q=>k b u q) (λ_ q=>q) λ_ _ q=>q
def cj.laid(x:cj P w H h)(k:∀b u,h.get? b=some u->h'.get? b=some u)(hp:h.objs.size<=a)(new:br P w (aI H a o) h' a o):cj P w (aI H a o) h':=λb u e=>by
 have hn:=x.fresh hp;by_cases hb:b=a
 .subst hb;rw[zf]at e;cases e;exact new
 .rw[zg hb]at e;exact(x b u e).stay (λc v _ q=>k c v q) (λc q=>by rw[zg (zA q hn)];exact q) λc xs q=>by rw[zg (zA q hn)];exact q
end
noncomputable def Rd(H:Hp)(a:Addr)(u:HO):Prop:=H a=some u\/∃o,H a=some (.frz o u)
def Rd.ok (r:Rd H a u)(x:cj P w H h):br P w H h a u:=by
 rcases r with r|⟨o,r⟩
 .exact x a u r
 .obtain ⟨_,q⟩:=x a _ r;exact q
noncomputable def i9:Option HO->Prop
 |some (.lst _)=>True
 |some (.ext _)=>True
 |_=>False
section
variable{P:HS}{w:HU}{H:Hp}{h h':HV}{x e:Addr}{o':HO}
def cj.write(ok:cj P w H h)(mu:i9 (H x))(he:e=x\/H e=some (.own x))(k:∀b u,b≠e->h.get? b=some u->h'.get? b=some u)(heo:∃u,h'.get? e=some u)
  (new:br P w (aI H x o') h' x o'):cj P w (aI H x o') h':=λb u q=>by
 have nown:∀c y,H c=some (.own y)->c≠x:=λc y r z=>by subst z;rw[r]at mu;exact mu
 have ntup:∀c xs,H c=some (.tup xs)->c≠x:=λc xs r z=>by subst z;rw[r]at mu;exact mu
 by_cases hb:b=x
 .subst hb;rw[zf]at q;cases q;exact new
 .rw[zg hb]at q;by_cases hbe:b=e
  .have q':H b=some (.own x):=by
    rcases he with z|z
    .exact Kc (hbe.trans z) hb
    .rw[hbe];exact z
   rw[q]at q';cases q';obtain⟨v,hv⟩:=heo;exact⟨v,by rw[hbe];exact hv⟩
  .refine (ok b u q).stay (λc v hc r=>k c v ?_ r) (λc r=>by rw[zg (nown c b r)];exact r) λc xs r=>by rw[zg (ntup c xs r)];exact r
   rcases hc with rfl|hc
   .exact hbe
   .rintro rfl;rcases he with z|z
    .exact nown c b hc z
    .rw[hc]at z;cases z;exact hb rfl
end
structure Un(fs ex:List Addr)(H H':Hp)(h h':HV):Prop where
 keep:∀b o,h.get? b=some o->H b=none->b∉fs->b∉ex->h'.get? b=some o
 slot:∀b o,h.get? b=some o->H b=none->b∈fs->b∉ex->∃sl,h'.get? b=some {o with slots:=sl}
 free:∀b o,h.get? b=some o->H b=none->b∉ex->H' b=none
 there:∀b o,h.get? b=some o->b∉ex->∃o',h'.get? b=some o'
 tups:∀b xs,H b=some (.tup xs)->H' b=some (.tup xs)
 frzs:∀b o u,H b=some (.frz o u)->H' b=some (.frz o u)
 tbls:∀b ps,H b=some (.tbl ps)->∃more,H' b=some (.tbl (ps++more))
section
variable{fs ex:List Addr}{H H1:Hp}{h h1 h':HV}{a x e:Addr}{o:HO}
def Un.any (u:Un fs ex H H1 h h1)(q:h.get? b=some ob)(n:H b=none)(hx:b∉ex):∃sl,h1.get? b=some {ob with slots:=sl}:=by
 by_cases hb:b∈fs
 .exact u.slot b ob q n hb hx
 .exact ⟨ob.slots,u.keep b ob q n hb hx⟩
def Un.kept(k:∀b u,h.get? b=some u->h'.get? b=some u):Un fs ex H H h h':=
 ⟨λb ob q _ _ _=>k b ob q,λb ob q _ _ _=>⟨ob.slots,k b ob q⟩,λ_ _ _ n _=>n,λb ob q _=>⟨ob,k b ob q⟩,λ_ _ q=>q,λ_ _ _ q=>q,λ_ ps q=>⟨#[],by rw[q];simp⟩⟩
def Un.refl:Un fs ex H H h h:=Un.kept λ_ _ q=>q
def Un.laid(k:∀b u,h.get? b=some u->h'.get? b=some u)(hp:h.objs.size<=a)(hn:H a=none):Un fs ex H (aI H a o) h h' where
 keep:=λb u q _ _ _=>k b u q
 slot:=λb u q _ _ _=>⟨u.slots,k b u q⟩
 free:=λb u q n _=>by rw[zg (QE (Qk (Qj q) hp))];exact n
 there:=λb u q _=>⟨u,k b u q⟩
 tups:=λb xs q=>by rw[zg (zA q hn)];exact q
 frzs:=λb u xs q=>by rw[zg (zA q hn)];exact q
 tbls:=λb ps q=>⟨#[],by rw[zg (zA q hn),q];simp⟩
def Un.write(mu:i9 (H x))(he:e=x\/H e=some (.own x))(k:∀b u,b≠e->h.get? b=some u->h'.get? b=some u)(heo:∃u,h'.get? e=some u):Un fs ex H (aI H x o) h h':=by
 have hx:∀b,H b=none->b≠x:=λb n z=>by subst z;rw[n]at mu;exact mu
 have hb:∀b,H b=none->b≠e:=λb n z=>by
  subst z;rcases he with r|r
  .exact hx b n r
  .rw[n]at r;cases r
 have hm:∀b u,H b=some u->¬i9 (some u)->b≠x:=λb u q nm z=>by subst z;rw[q]at mu;exact nm mu
 refine⟨λb u q n _ _=>k b u (hb b n) q,λb u q n _ _=>⟨u.slots,k b u (hb b n) q⟩,λb u q n _=>by rw[zg (hx b n)];exact n,λb u q _=>?_,
  λb xs q=>by rw[zg (hm b _ q λz=>z)];exact q,λb u xs q=>by rw[zg (hm b _ q λz=>z)];exact q,λb ps q=>⟨#[],by rw[zg (hm b _ q λz=>z),q];simp⟩⟩
 by_cases hbe:b=e
 .subst hbe;exact heo
 .exact ⟨u,k b u hbe q⟩
end
noncomputable def iN(h:HV)(H:Hp):List Addr:=(Qr h.objs.size).filter λa=>(H a).isSome
noncomputable def gl(h:HV)(H:Hp):HV:=PySem.W.hideAll h (iN h H)
def ES(h:HV)(H:Hp):(gl h H).objs.size=h.objs.size:=PySem.W.hideAll_size _ _
def D9 (e:h.get? b=some o)(n:H b=none):(gl h H).get? b=some o:=
 Uc _ e λhm=>by
  have q:(H b).isSome=true:=(VY.mp hm).2;rw[n]at q;simp at q
def Cs (e:(gl h H).get? b=some o):h.get? b=some o/\H b=none:=by
 have e':h.get? b=some o:=PySem.W.of_hideAll (iN h H) e;refine⟨e',?_⟩;cases q:H b with
 |none=>rfl
 |some x=>
  have hm:b∈iN h H:=VY.mpr ⟨QT.mpr (Qj e'),by simp[q]⟩;have z:(gl h H).get? b=none:=PySem.W.hideAll_none (iN h H) hm;rw[z]at e;cases e
structure Mod(K:Qb)(mg:Str->Option Value)(base:HV):Prop where
 kin:K.In base
 glob:base.Ns HW mg
 blt:∃mb,base.Ns builtinsNs mb/\∀x:Str,x ≠ "__name__" -> mb x=HX x
 nolimit:base.NoLimit
set_option genInjectivity false in
structure Cx where
 prog:HS
 w:HU
 K:Qb
 mg:Str->Option Value
 base:HV
 A:HY
 N:List Str
 s₀:Shared
 H₀:Hp
 env:Env
 outer:List Env
 stack:List Env
 ex:List Addr
 fn:Str->Bool
 calm:Bool
 pn:List (Addr×Obj)
 xe:Value->Shared->Prop
noncomputable def bG(l:List Env):List Addr:=l.filterMap (·.frame)
abbrev Cx.fs(X:Cx):List Addr:=bG X.outer
noncomputable def fm(sc:HP)(x:Str):Prop:=sc.names.lookup x=some .local\/sc.names.lookup x=some .cell\/sc.names.lookup x=some .free
noncomputable def Loc(sc:HP)(x:Str):Prop:=sc.names.lookup x=some .local\/sc.names.lookup x=some .cell
noncomputable def Look(env:Env)(h:HV)(m:Str->Option Value)(x:Str)(u:Value):Prop:=
 (env.kindOf x=some .local/\m x=some u)\/((env.kindOf x=some .cell\/env.kindOf x=some .free)/\∃c,env.cells.lookup x=some c/\h.IsCell c (some u))
structure Cx.Ok(X:Cx):Prop where
 mod:Mod X.K X.mg X.base
 kind:X.env.scope.kind=.function
 glob:X.env.globals=HW
 blt:X.env.builtins=builtinsNs
 above:X.s₀.heap.objs.size<=X.env.locals
 inj:∀x y c,X.env.cells.lookup x=some c->X.env.cells.lookup y=some c->x=y
 has:∀x,(X.env.kindOf x=some .cell\/X.env.kindOf x=some .free)->∃c,X.env.cells.lookup x=some c
 cab:∀x c,X.fn x=true->X.env.cells.lookup x=some c->X.s₀.heap.objs.size<=c
 hd:X.calm=true->X.A.handled=none
 frames:X.A.frames=some X.stack
 stk:X.stack=X.outer\/(X.stack=X.env::X.outer/\X.env.frame=some X.env.locals)
 exf:∀b∈X.ex,b≠X.env.locals/\∀x c,X.env.cells.lookup x=some c->c≠b
 bs:∀b o,X.base.get? b=some o->X.s₀.heap.get? b=some o/\X.H₀ b=none
 bsz:X.base.objs.size<=X.s₀.heap.objs.size
 noex:∀b o,X.base.get? b=some o->b∉X.ex
 exfs:∀b∈X.ex,b∉X.fs
 funs:X.s₀.heap.FunFrames X.base X.outer
 frf:∀b∈X.fs,X.H₀ b=none
structure Inv(X:Cx)(pins:List (Addr×Obj))(σ:List (Option V))(H:Hp)(s:Shared):Prop where
 ok:X.Ok
 os:s.os=X.s₀.os
 bare:HZ s.gens
 base:Un X.fs X.ex X.H₀ H X.s₀.heap s.heap
 loc:∃m,s.heap.Ns X.env.locals m/\∀(i:Nat) (x:Str) (v:V),X.N[i]?=some x->σ[i]?=some (some v)->fm X.env.scope x->∃u,RelV v u/\Look X.env s.heap m x u
 cell:∀x c,X.env.cells.lookup x=some c->∃v,s.heap.IsCell c v
 free:H X.env.locals=none
 freeC:∀x c,X.env.cells.lookup x=some c->H c=none
 pin:∀p∈X.pn++pins,s.heap.get? p.1=some p.2/\H p.1=none/\p.1≠X.env.locals/\p.1∉X.fs/\∀v,p.2.data≠.cell v
 hok:cj X.prog X.w H s.heap
 len:σ.length=X.N.length
section
variable{X:Cx}{pins:List (Addr×Obj)}{σ:List (Option V)}{H H':Hp}{s:Shared}{h':HV}
def Cx.Ok.nofr (ok:X.Ok)(e:X.base.get? b=some o):b∉X.fs:=λhb=>by
 have:=(ok.funs.mem hb).1;rw[e]at this;cases this
theorem Inv.bs(I:Inv X pins σ H s):∀b o,X.base.get? b=some o->s.heap.get? b=some o/\H b=none:=λb o e=>
 ⟨I.base.keep b o (I.ok.bs b o e).1 (I.ok.bs b o e).2 (I.ok.nofr e) (I.ok.noex b o e),I.base.free b o (I.ok.bs b o e).1 (I.ok.bs b o e).2 (I.ok.noex b o e)⟩
def Inv.bk(I:Inv X pins σ H s):∀b o,X.base.get? b=some o->s.heap.get? b=some o:=λb o e=>(I.bs b o e).1
theorem Inv.mod(I:Inv X pins σ H s):Mod X.K X.mg X.base:=I.ok.mod
def Inv.kIn(I:Inv X pins σ H s):X.K.In s.heap:=I.ok.mod.kin.keeps I.bk
theorem Inv.lt(I:Inv X pins σ H s):X.env.locals<s.heap.objs.size:=let⟨_,hn,_⟩:=I.loc;hn.lt
def Inv.sz(I:Inv X pins σ H s):X.s₀.heap.objs.size<=s.heap.objs.size:=QD I.ok.above (VD I.lt)
def Inv.nofs (I:Inv X pins σ H s)(h:s.heap.objs.size<=a):a∉X.fs:=λhb=>by
 obtain⟨_,o,ho,_⟩:=I.ok.funs.mem hb;exact Kc (Qk (Qj ho) (QD I.sz h)) (We _)
def Inv.cne(I:Inv X pins σ H s):∀x c,X.env.cells.lookup x=some c->c≠X.env.locals:=λx c e z=>by
 obtain⟨v,o,ho,hd⟩:=I.cell x c e;obtain⟨m,⟨o',es,ep,ho',hd',_⟩,_⟩:=I.loc;rw[z,ho']at ho;cases ho;rw[hd']at hd;cases hd
theorem Inv.funs(I:Inv X pins σ H s):s.heap.FunFrames X.base X.outer:=by
 have all:∀(l:List Env),(∀b∈bG l,b∈X.fs)->X.s₀.heap.FunFrames X.base l->s.heap.FunFrames X.base l:=by
  intro l
  induction l with
  |nil=>intro _ _;trivial
  |cons env r ih=>
   intro hs hl;obtain⟨hk,⟨L,o,hf,hn,ho,hd⟩,hr⟩:=hl;have hL:L∈X.fs:=hs L (by unfold bG;rw[Vo,hf];exact QQ);obtain⟨sl,e⟩:=I.base.slot L o ho (I.ok.frf L hL) hL λz=>I.ok.exfs L z hL;exact⟨hk,⟨L,_,hf,hn,e,hd⟩,ih (λb hb=>hs b (by unfold bG;rw[Vo,hf];exact Qp _ hb)) hr⟩
 exact all X.outer (λ_ hb=>hb) I.ok.funs
theorem Inv.stack(I:Inv X pins σ H s):s.heap.FunFrames X.base X.stack:=by
 rcases I.ok.stk with e|⟨e,hf⟩
 .rw[e];exact I.funs
 .rw[e];obtain⟨m,hn,_⟩:=I.loc;refine .cons (by rw[I.ok.kind];decide) hf hn ?_ I.funs;exact Heap.get?_none_of_le (QD I.ok.bsz I.ok.above)
def Inv.stkSub(I:Inv X pins σ H s):∀b∈bG X.stack,b∈X.env.locals::X.fs:=λb hb=>by
 rcases I.ok.stk with e|⟨e,hf⟩
 .rw[e]at hb;exact Qp _ hb
 .rw[e]at hb;unfold bG at hb;rw[Vo,hf]at hb;exact hb
def Inv.stkFree(I:Inv X pins σ H s):∀b∈bG X.stack,H b=none:=λb hb=>by
 rcases Qc.mp (I.stkSub b hb)with e|hb
 .rw[e];exact I.free
 .obtain ⟨_,o,ho,_⟩:=I.ok.funs.mem hb;exact I.base.free b o ho (I.ok.frf b hb) λz=>I.ok.exfs b z hb
def Inv.step{g':Array Ia}{t':Nat}{d':Drawn}{ch:List Addr}(I:Inv X pins σ H s)
  (hch:∀b∈ch,(b∈X.ex\/X.s₀.heap.objs.size<=b)/\b≠X.env.locals/\(∀x c,X.env.cells.lookup x=some c->c≠b)/\∀p∈X.pn++pins,p.1≠b)
  (keep:∀b o,b≠X.env.locals->b∉X.fs->b∉ch->s.heap.get? b=some o->H b=none->h'.get? b=some o)
  (slot:∀b o,b≠X.env.locals->b∈X.fs->b∉ch->s.heap.get? b=some o->H b=none->∃sl,h'.get? b=some {o with slots:=sl}) (free:∀b o,b∉ch->s.heap.get? b=some o->H b=none->H' b=none)
  (there:∀b o,b∉ch->s.heap.get? b=some o->∃o',h'.get? b=some o')
  (tups:∀b xs,H b=some (.tup xs)->H' b=some (.tup xs)) (frzs:∀b o u,H b=some (.frz o u)->H' b=some (.frz o u)) (tbls:∀b ps,H b=some (.tbl ps)->∃more,H' b=some (.tbl (ps++more)))
  (ns:∀m,s.heap.Ns X.env.locals m->h'.Ns X.env.locals m) (hok:cj X.prog X.w H' h') (hg:HZ g') :
  Inv X pins σ H' {s with heap:=h',gens:=g',drawn:=d',toks:=t' }:=by
 have neL:∀b o,X.s₀.heap.get? b=some o->b≠X.env.locals:=λb o e=>QE (Qk (Qj e) I.ok.above);have neC:∀b o,X.s₀.heap.get? b=some o->b∉X.ex->b∉ch:=λb o e hx hb=>by
  rcases(hch b hb).1 with z|z
  .exact hx z
  .exact Kc (Qk (Qj e) z) (We _)
 have cellK:∀x c,X.env.cells.lookup x=some c->∀v,s.heap.IsCell c v->h'.IsCell c v:=λx c e v ⟨o,ho,hd⟩=>by
  have nch:c∉ch:=λz=>(hch c z).2.2.1 x c e rfl;by_cases hc:c∈X.fs
  .obtain ⟨sl,q⟩:=slot c o (I.cne x c e) hc nch ho (I.freeC x c e);exact⟨_,q,hd⟩
  .exact ⟨o,keep c o (I.cne x c e) hc nch ho (I.freeC x c e),hd⟩
 refine⟨I.ok,I.os,hg,⟨λb o e n hb hx=>?_,λb o e n hb hx=>?_,λb o e n hx=>?_,λb o e hx=>?_,λb xs e=>tups b xs (I.base.tups b xs e),λb o xs e=>frzs b o xs (I.base.frzs b o xs e),λb ps e=>?_⟩,?_,λx c e=>?_,?_,λx c e=>?_,λp hp=>?_,hok,I.len⟩
 .exact keep b o (neL b o e) hb (neC b o e hx) (I.base.keep b o e n hb hx) (I.base.free b o e n hx)
 .obtain ⟨sl,e1⟩:=I.base.slot b o e n hb hx;obtain⟨sl',e2⟩:=slot b _ (neL b o e) hb (neC b o e hx) e1 (I.base.free b o e n hx);exact⟨sl',e2⟩
 .obtain ⟨o',e1⟩:=I.base.there b o e hx;exact free b o' (neC b o e hx) e1 (I.base.free b o e n hx)
 .obtain ⟨o',e1⟩:=I.base.there b o e hx;exact there b o' (neC b o e hx) e1
 .obtain ⟨m1,e1⟩:=I.base.tbls b ps e;obtain⟨m2,e2⟩:=tbls b _ e1;exact⟨m1++m2,by rw[e2,Array.append_assoc]⟩
 .obtain ⟨m,hn,hl⟩:=I.loc;refine⟨m,ns m hn,λi x v e1 e2 e3=>?_⟩;obtain⟨u,r,l⟩:=hl i x v e1 e2 e3;refine⟨u,r,?_⟩;rcases l with l|⟨k,c,e,z⟩
  .exact .inl l
  .exact .inr ⟨k,c,e,cellK x c e _ z⟩
 .obtain ⟨v,z⟩:=I.cell x c e;exact⟨v,cellK x c e v z⟩
 .obtain ⟨m,⟨o,_,_,ho,_⟩,_⟩:=I.loc;exact free _ o (λz=>(hch _ z).2.1 rfl) ho I.free
 .obtain ⟨v,o,ho,hd⟩:=I.cell x c e;exact free c o (λz=>(hch c z).2.2.1 x c e rfl) ho (I.freeC x c e)
 .obtain ⟨e,n,ne,nf,d⟩:=I.pin p hp;have nch:p.1∉ch:=λz=>(hch p.1 z).2.2.2 p hp rfl;exact⟨keep p.1 p.2 ne nf nch e n,free p.1 p.2 nch e n,ne,nf,d⟩
def Inv.un{t':Nat}(I:Inv X pins σ H s)(u:Un X.fs [] H H' s.heap h')(hok:cj X.prog X.w H' h'):Inv X pins σ H' {s with heap:=h',toks:=t' }:=by
 obtain⟨m,⟨o,es,ep,ho,r⟩,_⟩:=id I.loc;obtain⟨sl,hL⟩:=u.any ho I.free (by simp);exact I.step (g':=s.gens) (d':=s.drawn) (ch:=[]) (λ_ z=>nomatch z) (λb o _ hb _ e n=>u.keep b o e n hb (by simp)) (λb o _ hb _ e n=>u.slot b o e n hb (by simp)) (λb o _ e n=>u.free b o e n (by simp)) (λb o _ e=>u.there b o e (by simp)) u.tups u.frzs u.tbls (λm' hm=>by
  obtain⟨o',es',ep',ho',r'⟩:=hm;rw[ho]at ho';cases ho';exact⟨_,es',ep',hL,r'⟩) hok I.bare
def Inv.call{g':Array Ia}{t':Nat}{d':Drawn}{ch:List Addr}(I:Inv X pins σ H s)(u:Un (bG X.stack) ch H H' s.heap h')(hok:cj X.prog X.w H' h')(hg:HZ g')
  (hch:∀b∈ch,(b∈X.ex\/X.s₀.heap.objs.size<=b)/\b≠X.env.locals/\(∀x c,X.env.cells.lookup x=some c->c≠b)/\∀p∈X.pn++pins,p.1≠b) :
  Inv X pins σ H' {s with heap:=h',gens:=g',drawn:=d',toks:=t' }:=by
 obtain⟨m,⟨o,es,ep,ho,r⟩,_⟩:=id I.loc;obtain⟨sl,hL⟩:=u.any ho I.free λz=>(hch _ z).2.1 rfl;exact I.step (ch:=ch) hch (λb o hL hb hc e n=>u.keep b o e n (λz=>(Qc.mp (I.stkSub b z)).elim hL hb) hc) (λb o _ _ hc e n=>u.any e n hc) (λb o hc e n=>u.free b o e n hc) (λb o hc e=>u.there b o e hc) u.tups u.frzs u.tbls (λm' hm=>by
  obtain⟨o',es',ep',ho',r'⟩:=hm;rw[ho]at ho';cases ho';exact⟨_,es',ep',hL,r'⟩) hok hg
def Inv.turned{t':Nat}{it:Addr}(I:Inv X pins σ H s)(k:∀b o,b≠it->s.heap.get? b=some o->h'.get? b=some o)(hn:H it=none)(hL:it≠X.env.locals)
  (h1:it∈X.ex\/X.s₀.heap.objs.size<=it) (h2:∀x c,X.env.cells.lookup x=some c->c≠it) (h3:∀p∈X.pn++pins,p.1≠it):Inv X pins σ H {s with heap:=h',toks:=t' }:=by
 have nit:∀b u,H b=some u->b≠it:=λb u e z=>by rw[z,hn]at e;cases e
 refine I.step (g':=s.gens) (d':=s.drawn) (ch:=[it]) (λb hb=>?_) (λb o _ _ hc e _=>k b o (λz=>hc (by simp[z])) e) (λb o _ _ hc e _=>⟨o.slots,k b o (λz=>hc (by simp[z])) e⟩) (λ_ _ _ _ n=>n)
  (λb o hc e=>⟨o,k b o (λz=>hc (by simp[z])) e⟩) (λ_ _ e=>e) (λ_ _ _ e=>e) (λb ps e=>⟨#[],by rw[e];simp⟩) (λm hm=>?_) (λb u e=>?_) I.bare
 .have e:b=it:=by simpa using hb
  subst e;exact⟨h1,hL,h2,h3⟩
 .obtain ⟨o,es,ep,ho,r⟩:=hm;exact⟨o,es,ep,k _ o (Ne.symm hL) ho,r⟩
 .refine (I.hok b u e).stay (λc v hc q=>k c v ?_ q) (λ_ q=>q) λ_ _ q=>q;rcases hc with z|z
  .rw[z];exact nit b u e
  .exact nit c _ z
def Inv.tok(I:Inv X pins σ H s)(t:Nat):Inv X pins σ H {s with toks:=t}:=I.un (h':=s.heap) (t':=t) Un.refl I.hok
theorem Inv.kept{t':Nat}(I:Inv X pins σ H s)(k:∀b u,s.heap.get? b=some u->h'.get? b=some u):Inv X pins σ H {s with heap:=h',toks:=t' }:=I.un (Un.kept k) (I.hok.kept k)
theorem Inv.laid{a:Addr}{o:HO}{t':Nat}(I:Inv X pins σ H s)(k:∀b u,s.heap.get? b=some u->h'.get? b=some u)(hp:s.heap.objs.size<=a)(new:br X.prog X.w (aI H a o) h' a o):
  Inv X pins σ (aI H a o) {s with heap:=h',toks:=t' }:=I.un (Un.laid k hp (I.hok.fresh hp)) (I.hok.laid k hp new)
theorem Inv.write{x e:Addr}{o:HO}{t':Nat}(I:Inv X pins σ H s)(mu:i9 (H x))(he:e=x\/H e=some (.own x))(k:∀b u,b≠e->s.heap.get? b=some u->h'.get? b=some u)(heo:∃u,h'.get? e=some u)
  (new:br X.prog X.w (aI H x o) h' x o):Inv X pins σ (aI H x o) {s with heap:=h',toks:=t' }:=I.un (Un.write mu he k heo) (I.hok.write mu he k heo new)
def Inv.pins_of{pins':List (Addr×Obj)}(I:Inv X pins σ H s)(h:∀p∈pins',s.heap.get? p.1=some p.2/\H p.1=none/\p.1≠X.env.locals/\p.1∉X.fs/\∀v,p.2.data≠.cell v):Inv X pins' σ H s:=
 ⟨I.ok,I.os,I.bare,I.base,I.loc,I.cell,I.free,I.freeC,λp hp=>(Qu.mp hp).elim (λz=>I.pin p (Q5 _ z)) (h p),I.hok,I.len⟩
def qk {N:List Str}(hN:N.Nodup){j:Nat}(a:N[i]?=some x)(b:N[j]?=some x):i=j:=by
 obtain⟨h1,e1⟩:=Qa.mp a;obtain⟨h2,e2⟩:=Qa.mp b;exact(Vx hN).mp (e1.trans e2.symm)
def jJ (I:Inv X pins σ H s)(hN:X.N.Nodup)(hi:X.N[i]?=some x)(hx:Loc X.env.scope x)(r:RelV v u)(h:∀s',Inv X pins (σ.set i (some v)) H s'->(∃a,WH a s.heap s'.heap/\(a=X.env.locals\/X.env.cells.lookup x=some a))->Q () s')(hf:X.fn x=true\/X.env.scope.names.lookup x=some .local:=by first|exact .inl rfl|exact .inr rfl|assumption):Ic M A (storeName X.env x u) Q E s:=by
 obtain⟨m,hn,hl⟩:=id I.loc;have hcls:(X.env.scope.kind == .class || (X.env.scope.kind == .module&&X.env.locals != X.env.globals))=false:=by rw[I.ok.kind];rfl
 have hiσ:i<σ.length:=by rw[I.len];exact(Qa.mp hi).1
 have cne:=I.cne;have tracked:∀{a:Addr}{h':HV},(∃o,s.heap.get? a=some o/\H a=none)->WH a s.heap h'->cj X.prog X.w H h':=λ{a h'} ha hs b ob e=>by
  obtain⟨_,_,hfree⟩:=ha;refine(I.hok b ob e).stay (λc w' hc q=>(hs.2 c ?_).trans q) (λ_ q=>q) λ_ _ q=>q;rintro rfl;rcases hc with rfl|hc
  .rw[hfree]at e;cases e
  .rw[hfree]at hc;cases hc
 rcases hx with hk|hk
 .refine wpAny_storeName_local hk hn (λh' hn' hs=>?_) hcls;obtain⟨oL,_,_,hoL,_⟩:=id hn;refine h _ ⟨I.ok,I.os,I.bare,⟨λb o e n hb hx=>?_,λb o e n hb hx=>?_,I.base.free,λb o e hx=>?_,I.base.tups,I.base.frzs,I.base.tbls⟩,⟨_,hn',λj y v' e1 e2 e3=>?_⟩,λy c e=>?_,I.free,I.freeC,λp hp=>?_,tracked ⟨oL,hoL,I.free⟩ hs,by simpa using I.len⟩ ⟨_,hs,.inl rfl⟩
  .exact (hs.2 b (QE (Qk (Qj e) I.ok.above))).trans (I.base.keep b o e n hb hx)
  .obtain ⟨sl,e1⟩:=I.base.slot b o e n hb hx;exact⟨sl,(hs.2 b (QE (Qk (Qj e) I.ok.above))).trans e1⟩
  .obtain ⟨o',e1⟩:=I.base.there b o e hx;exact⟨o',(hs.2 b (QE (Qk (Qj e) I.ok.above))).trans e1⟩
  .by_cases hj:j=i
   .subst hj;rw[hi]at e1;cases e1;rw[Wa hiσ]at e2;cases e2;exact⟨u,r,.inl ⟨hk,by simp⟩⟩
   .rw[QA (Ne.symm hj)]at e2;obtain⟨u',r',q⟩:=hl j y v' e1 e2 e3;refine⟨u',r',?_⟩;rcases q with⟨k,e⟩|⟨k,c,e,z⟩
    .refine .inl ⟨k,?_⟩;have:y≠x:=λe=>hj (qk hN e1 (e▸hi));simp[this,e]
    .exact .inr ⟨k,c,e,z.sameBut hs (cne y c e)⟩
  .obtain ⟨w',z⟩:=I.cell y c e;exact⟨w',z.sameBut hs (cne y c e)⟩
  .obtain ⟨e,n,ne,nf,d⟩:=I.pin p hp;exact⟨(hs.2 p.1 ne).trans e,n,ne,nf,d⟩
 .have hfn:X.fn x=true:=by
   rcases hf with z|z
   .exact z
   .rw[z]at hk;cases hk
  obtain⟨c,hc⟩:=I.ok.has x (.inl hk);obtain⟨w',z⟩:=I.cell x c hc;refine wpAny_storeName_cell I.ok.kind hk hc z (λh' hc' hs=>?_);obtain⟨oc,hoc,hocd⟩:=id z;refine h {s with heap:=h' } ⟨I.ok,I.os,I.bare,⟨λb o e n hb hx=>?_,λb o e n hb hx=>?_,I.base.free,λb o e hx=>?_,I.base.tups,I.base.frzs,I.base.tbls⟩,⟨m,hn.sameBut hs (Ne.symm (cne x c hc)),λj y v' e1 e2 e3=>?_⟩,λy c' e=>?_,I.free,I.freeC,λp hp=>?_,tracked ⟨oc,hoc,I.freeC x c hc⟩ hs,by simpa using I.len⟩ ⟨c,hs,.inr hc⟩
  .exact (hs.2 b (QE (Qk (Qj e) (I.ok.cab x c hfn hc)))).trans (I.base.keep b o e n hb hx)
  .obtain ⟨sl,e1⟩:=I.base.slot b o e n hb hx;exact⟨sl,(hs.2 b (QE (Qk (Qj e) (I.ok.cab x c hfn hc)))).trans e1⟩
  .obtain ⟨o',e1⟩:=I.base.there b o e hx;exact⟨o',(hs.2 b (QE (Qk (Qj e) (I.ok.cab x c hfn hc)))).trans e1⟩
  .by_cases hj:j=i
   .subst hj;rw[hi]at e1;cases e1;rw[Wa hiσ]at e2;cases e2;exact⟨u,r,.inr ⟨.inl hk,c,hc,hc'⟩⟩
   .rw[QA (Ne.symm hj)]at e2;obtain⟨u',r',q⟩:=hl j y v' e1 e2 e3;refine⟨u',r',?_⟩;rcases q with q|⟨k,c',e,z'⟩
    .exact .inl q
    .refine .inr ⟨k,c',e,z'.sameBut hs ?_⟩;rintro rfl;exact hj (qk hN e1 (I.ok.inj _ _ _ e hc▸hi))
  .by_cases hcc:c'=c
   .subst hcc;exact⟨_,hc'⟩
   .obtain ⟨w2,z2⟩:=I.cell y c' e;exact⟨w2,z2.sameBut hs hcc⟩
  .obtain ⟨e,n,ne,nf,d⟩:=I.pin p hp;refine⟨(hs.2 p.1 ?_).trans e,n,ne,nf,d⟩;intro q;rw[q,hoc]at e;have q':oc=p.2:=Option.some.inj e;exact d w' (by rw[<-q'];exact hocd)
def kJ (I:Inv X pins σ H s)(hN:X.N.Nodup)(hi:X.N[i]?=some x)(hx:Loc X.env.scope x)(r:RelV v u)(h:∀s',Inv X pins (σ.set i (some v)) H s'->Q () s')(hf:X.fn x=true\/X.env.scope.names.lookup x=some .local:=by first|exact .inl rfl|exact .inr rfl|assumption):Ic M A (storeName X.env x u) Q E s:=
 jJ I hN hi hx r (λs' I' _=>h s' I') hf
def Inv.call'{s':Shared}{ch:List Addr}(I:Inv X pins σ H s)(ho:s'.os=s.os)(u:Un (bG X.stack) ch H H' s.heap s'.heap)(hok:cj X.prog X.w H' s'.heap)(hg:HZ s'.gens)
  (hch:∀b∈ch,(b∈X.ex\/X.s₀.heap.objs.size<=b)/\b≠X.env.locals/\(∀x c,X.env.cells.lookup x=some c->c≠b)/\∀p∈X.pn++pins,p.1≠b):Inv X pins σ H' s':=by
 obtain⟨h',g',d',t',o'⟩:=s';have e:o'=s.os:=ho;subst e;exact I.call (g':=g') (t':=t') (d':=d') u hok hg hch
end
abbrev XK:=Value->Option Addr->Hp->Prop
abbrev St:=List (Option V)
abbrev VK:=V->Hp->Prop
abbrev TE:=St->Hp->VK->Prop
abbrev TT:=St->Hp->(Bool->Hp->Prop)->Prop
abbrev TA:=St->Hp->(List V->Hp->Prop)->Prop
set_option genInjectivity false in
structure bT where
 nx:St->Hp->Prop
 rt:VK
 bk:St->Hp->Prop:=λ_ _=>False
 ct:St->Hp->Prop:=λ_ _=>False
abbrev TS:=bT->St->Hp->Prop
noncomputable def EP(X:Cx)(pins:List (Addr×Obj))(σ:St)(Q:VK)(u:Value)(s':Shared):Prop:=∃v H',Inv X pins σ H' s'/\RelV v u/\Q v H'
noncomputable def TP(X:Cx)(pins:List (Addr×Obj))(σ:St)(Q:Bool->Hp->Prop)(b:Bool)(s':Shared):Prop:=∃H',Inv X pins σ H' s'/\Q b H'
noncomputable def AP(X:Cx)(pins:List (Addr×Obj))(σ:St)(Q:List V->Hp->Prop)(us:List Value)(s':Shared):Prop:=∃vs H',Inv X pins σ H' s'/\aw vs us/\Q vs H'
noncomputable def SP(X:Cx)(pins:List (Addr×Obj))(D:bT)(f:Flow)(s':Shared):Prop:=
 match f with
 |.next=>∃σ' H',Inv X pins σ' H' s'/\D.nx σ' H'
 |.brk=>∃σ' H',Inv X pins σ' H' s'/\D.bk σ' H'
 |.cont=>∃σ' H',Inv X pins σ' H' s'/\D.ct σ' H'
 |.ret u=>∃v σ' H',Inv X pins σ' H' s'/\RelV v u/\D.rt v H'
noncomputable def PE(X:Cx)(e:Expr)(t:TE):Prop:=
 ∀(pins:List (Addr×Obj)) (s:Shared) (σ:St) (H:Hp) (Q:VK),Inv X pins σ H s->t σ H Q->Ic (Ie X.prog X.w) X.A (eval e X.env) (EP X pins σ Q) X.xe s
noncomputable def PT(X:Cx)(e:Expr)(t:TT):Prop:=
 ∀(pins:List (Addr×Obj)) (s:Shared) (σ:St) (H:Hp) (Q:Bool->Hp->Prop),Inv X pins σ H s->t σ H Q->Ic (Ie X.prog X.w) X.A (isTrue e X.env (eval e X.env)) (TP X pins σ Q) X.xe s
noncomputable def PW(X:Cx)(e:Expr)(t:TT):Prop:=
 ∀(whole:Sem Value) (pins:List (Addr×Obj)) (s:Shared) (σ:St) (H:Hp) (Q:Bool->Hp->Prop),Inv X pins σ H s->t σ H Q->Ic (Ie X.prog X.w) X.A (isTrue e X.env whole) (TP X pins σ Q) X.xe s
def PW.pt (h:PW X e t):PT X e t:=h _
noncomputable def PA(X:Cx)(es:List Expr)(t:TA):Prop:=
 ∀(pos:Pos) (pins:List (Addr×Obj)) (s:Shared) (σ:St) (H:Hp) (Q:List V->Hp->Prop),Inv X pins σ H s->t σ H Q->Ic (Ie X.prog X.w) X.A (spliced (Ig pos (Ih es X.env))) (AP X pins σ Q) X.xe s
noncomputable def PS(X:Cx)(st:Stmt)(t:TS):Prop:=
 ∀(pins:List (Addr×Obj)) (s:Shared) (σ:St) (H:Hp) (D:bT),Inv X pins σ H s->t D σ H->Ic (Ie X.prog X.w) X.A (exec st X.env) (SP X pins D) X.xe s
noncomputable def bZ(X:Cx)(st:List Stmt)(t:TS):Prop:=
 ∀(pins:List (Addr×Obj)) (s:Shared) (σ:St) (H:Hp) (D:bT),Inv X pins σ H s->t D σ H->Ic (Ie X.prog X.w) X.A (execs st X.env) (SP X pins D) X.xe s
def aT (h:Ic M A t Q E s)(hQ:∀a s,Q a s->Q' a s):Ic M A t Q' E s:=Ii h hQ λ_ _ x=>x
section
variable{X:Cx}
def bin (ha:PE X a ta)(hb:PE X b tb){R:V->V->Hp->Prop}(I:Inv X pins σ H s)(h:ta σ H λx H1=>tb σ H1 λy H2=>R x y H2){Q:α->Shared->Prop}{f:Value->Value->Sem α}(hf:∀v u s2 x y H2,Inv X pins σ H2 s2->RelV x v->RelV y u->R x y H2->Ic (Ie X.prog X.w) X.A (f v u) Q X.xe s2):
  Ic (Ie X.prog X.w) X.A (eval a X.env) (λv s₁=>Ic (Ie X.prog X.w) X.A (eval b X.env) (λu s₂=>Ic (Ie X.prog X.w) X.A (f v u) Q X.xe s₂) X.xe s₁) X.xe s:=by
 refine aT (ha pins s σ H _ I h) λv s1 ⟨x,H1,I1,r1,q1⟩=>?_;refine aT (hb pins s1 σ H1 _ I1 q1) λu s2 ⟨y,H2,I2,r2,q2⟩=>?_;exact hf v u s2 x y H2 I2 r1 r2 q2
noncomputable def hZ(i:Nat):TE:=λσ H Q=>∃v,σ[i]?=some (some v)/\Q v H
noncomputable def tC(v:V):TE:=λ_ H Q=>Q v H
def kK (hN:X.N[i]?=some x)(hv:fm X.env.scope x)(hd:(x==("__debug__":Str))=false:=by decide)(hcd:(x==("__classdict__":Str))=false:=by decide):PE X (.Name x pos) (hZ i):=by
 intro pins s σ H Q I h;obtain⟨v,e,h⟩:=h;obtain⟨m,hn,hl⟩:=I.loc;obtain⟨u,r,l⟩:=hl i x v hN e hv;have fin:EP X pins σ Q u s:=⟨v,H,I,r,h⟩;rcases l with⟨hk,hm⟩|⟨hk,c,hc,hcell⟩
 .exact wpAny_Name (wpAny_loadName_local I.ok.kind hk hn hm fin) hd
 .rcases hk with hk|hk
  .exact wpAny_Name (wpAny_loadName_cell I.ok.kind hk hc hcell fin) hd
  .exact wpAny_Name (wpAny_loadName_free I.ok.kind hk hc hcell fin hcd) hd
def AG{i j pos}:PE X (.Constant (.int i) j pos) (tC (.int i)):=λ_ _ _ H _ I h=>wpAny_Constant_int ⟨.int i,H,I.tok _,⟨_,rfl⟩,h⟩
def oY{b j pos}:PE X (.Constant (.bool b) j pos) (tC (.bl b)):=λ_ _ _ H _ I h=>Constant_bool ⟨.bl b,H,I,rfl,h⟩
def AF{x j pos}:PE X (.Constant (.str x) j pos) (tC (.str x)):=λ_ _ _ H _ I h=>Calls.Constant_str ⟨.str x,H,I.tok _,⟨_,rfl⟩,h⟩
noncomputable def Gl(X:Cx)(x:Str):Prop:=X.env.kindOf x=some .globalImplicit
def kE (I:Inv X pins σ H s)(hg:Gl X x)(hm:X.mg x=some u)(h:Q u s)(hd:(x==("__debug__":Str))=false:=by decide):Ic (Ie X.prog X.w) X.A (eval (.Name x pos) X.env) Q E s:=
 Calls.Name_function_global I.ok.kind hg (Calls.loadGlobal_global (by rw[I.ok.glob];exact I.mod.glob.keeps I.bk) hm h) hd
def xf (I:Inv X pins σ H s)(hg:Gl X x)(hm:X.mg x=none)(hv:HX x=some u)(h:Q u s)(hn:x ≠ "__name__":=by decide)(hd:(x==("__debug__":Str))=false:=by decide):Ic (Ie X.prog X.w) X.A (eval (.Name x pos) X.env) Q E s:=by
 obtain⟨mb,h1,h2⟩:=I.mod.blt;exact Calls.Name_function_global I.ok.kind hg (Calls.loadGlobal_builtin (by rw[I.ok.glob];exact I.mod.glob.keeps I.bk) hm (by rw[I.ok.blt];exact h1.keeps I.bk) ((h2 x hn).trans hv) h) hd
def sf (hg:Gl X x)(hm:X.mg x=some u)(r:RelV v u)(hd:(x==("__debug__":Str))=false:=by decide):PE X (.Name x pos) (tC v):=
 λ_ _ _ H _ I h=>kE I hg hm ⟨v,H,I,r,h⟩ hd
def se (hg:Gl X x)(hm:X.mg x=none)(hv:HX x=some u)(r:RelV v u)(hn:x ≠ "__name__":=by decide)(hd:(x==("__debug__":Str))=false:=by decide):PE X (.Name x pos) (tC v):=
 λ_ _ _ H _ I h=>xf I hg hm hv ⟨v,H,I,r,h⟩ hn hd
noncomputable def F8(ta tb:TE)(k:Int->Int->Hp->Prop):St->Hp->Prop:=λσ H=>ta σ H λx H1=>tb σ H1 λy H2=>∃i j,x=.int i/\y=.int j/\k i j H2
variable{a b:Expr}{ta tb:TE}{pos:Pos}
noncomputable def PC(X:Cx)(op:Ij)(a b:Expr)(t:TE):Prop:=
 ∀(pins:List (Addr×Obj)) (s:Shared) (σ:St) (H:Hp) (Q:VK),Inv X pins σ H s->t σ H Q ->
  Ic (Ie X.prog X.w) X.A (eval a X.env) (λv s₁=>Ic (Ie X.prog X.w) X.A (eval b X.env) (λu s₂=>Ic (Ie X.prog X.w) X.A (Ik op v u) (EP X pins σ Q) X.xe s₂) X.xe s₁) X.xe s
def D8 (b:Expr)(h:op≠.In)(h2:op≠.NotIn):Il op b=false:=by
 have e1:(op==CmpOp.In)=false:=by cases op<;>first|rfl|exact Kc rfl h
 have e2:(op==CmpOp.NotIn)=false:=by cases op<;>first|rfl|exact Kc rfl h2
 cases b<;>simp[Il,e1,e2]
noncomputable def oG(p:Int->Int->Bool)(ta tb:TE):TE:=λσ H Q=>F8 ta tb (λi j H2=>Q (.bl (p i j)) H2) σ H
abbrev mL:TE->TE->TE:=oG λi j=>decide (i=j)
def AE (ha:PE X a ta)(hb:PE X b tb)(rule:∀(i j:Int) (t u:Tok) (Q:Value->Shared->Prop) (s:Shared),Q (.bool (p i j)) s->Ic (Ie X.prog X.w) X.A (Ik op (.int i t) (.int j u)) Q X.xe s):PC X op a b (oG p ta tb):=by
 intro pins s σ H Q I h;refine bin ha hb I h λv u s2 x y H2 I2 rx ry q=>?_;obtain⟨i,j,rfl,rfl,q⟩:=q;obtain⟨t,rfl⟩:=rx;obtain⟨t',rfl⟩:=ry;exact rule i j t t' _ s2 ⟨.bl _,H2,I2,rfl,q⟩
def AD(ha:PE X a ta)(hb:PE X b tb):PC X .Eq a b (mL ta tb):=AE ha hb λ_ _ _ _ _ _ h=>eq_int (by rw[Bool.beq_eq_decide_eq];exact h)
noncomputable def tB(t:TE):TT:=λσ H Q=>t σ H λx H1=>∃c,x=.bl c/\Q c H1
def AC (h:PC X op a b t)(h1:Il op b=false:=by first|exact D8 _ (by decide) (by decide)|rfl):PE X (.Compare a [op] [b] pos) t:=λpins s σ H Q I hw=>wpAny_Compare1 (h pins s σ H Q I hw) h1
def rp (h:PE X e t)(he:∀whole,isTrue e X.env whole=(do let v <-whole;standAt e.pos;holding [v] (truthy v)):=by intro _;rfl):PT X e (tB t):=by
 intro pins s σ H Q I hw;refine isTrue_plain (aT (h pins s σ H _ I hw) λv s1 ⟨x,H1,I1,r1,q1⟩=>?_) (he _);obtain⟨d,rfl,q⟩:=q1;cases r1;exact Im ⟨H1,I1,q⟩
variable{tA tB':TT}{rest:List Expr}
noncomputable def mP(t u:TT):TT:=λσ H Q=>t σ H λc H1=>if c=true then u σ H1 Q else Q false H1
noncomputable def F6(t u:TT):TT:=λσ H Q=>t σ H λc H1=>if c=true then Q true H1 else u σ H1 Q
noncomputable def mG(t:TT):TT:=λσ H Q=>t σ H λc H1=>Q (! c) H1
def Cr(ha:PT X a tA):PW X (.BoolOp .And [a] pos) tA:=by
 intro wh pins s σ H Q I h;refine isTrue_and (aT (ha pins s σ H Q I h) λc s1 e=>?_);cases c with
 |true=>exact isTrue_and_nil e
 |false=>exact e
def AB(ha:PT X a tA):PW X (.BoolOp .Or [a] pos) tA:=by
 intro wh pins s σ H Q I h;refine isTrue_or (aT (ha pins s σ H Q I h) λc s1 e=>?_);cases c with
 |false=>exact isTrue_or_nil e
 |true=>exact e
def AA(ha:PT X a tA)(hb:PW X (.BoolOp .And (b::rest) pos) tB'):PW X (.BoolOp .And (a::b::rest) pos) (mP tA tB'):=by
 intro wh pins s σ H Q I h;refine isTrue_and (aT (ha pins s σ H _ I h) λc s1 ⟨H1,I1,q1⟩=>?_);cases c with
 |true=>exact hb wh pins s1 σ H1 Q I1 q1
 |false=>exact⟨H1,I1,q1⟩
def Ax(ha:PT X a tA)(hb:PW X (.BoolOp .Or (b::rest) pos) tB'):PW X (.BoolOp .Or (a::b::rest) pos) (F6 tA tB'):=by
 intro wh pins s σ H Q I h;refine isTrue_or (aT (ha pins s σ H _ I h) λc s1 ⟨H1,I1,q1⟩=>?_);cases c with
 |true=>exact⟨H1,I1,q1⟩
 |false=>exact hb wh pins s1 σ H1 Q I1 q1
def Az(ha:PT X a tA):PT X (.UnaryOp .Not a pos) (mG tA):=by
 intro pins s σ H Q I h;exact isTrue_not (ha pins s σ H (λc H1=>Q (! c) H1) I h)
noncomputable def Aw(ta tb:TE):TE:=λσ H Q=>ta σ H λx H1=>∃c,x=.bl c/\if c=true then tb σ H1 Q else Q (.bl false) H1
noncomputable def mF(ta tb:TE):TE:=λσ H Q=>ta σ H λx H1=>∃c,x=.bl c/\if c=true then Q (.bl true) H1 else tb σ H1 Q
noncomputable def Av(ta:TE):TE:=λσ H Q=>ta σ H λx H1=>∃c,x=.bl c/\Q (.bl (! c)) H1
def l9 {op}(h:PE X a t):PE X (.BoolOp op [a] pos) t:=λpins s σ H Q I hw=>BoolOp_one (h pins s σ H Q I hw)
def rm(ha:PE X a ta)(hb:PE X (.BoolOp .And (b::rest) pos) tb):PE X (.BoolOp .And (a::b::rest) pos) (Aw ta tb):=by
 intro pins s σ H Q I h;refine BoolOp_and (aT (ha pins s σ H _ I h) λv s1 ⟨x,H1,I1,r1,q1⟩=>?_);obtain⟨c,rfl,q1⟩:=q1;cases r1;refine Im ?_;cases c with
 |true=>exact hb pins s1 σ H1 Q I1 q1
 |false=>exact⟨.bl false,H1,I1,rfl,q1⟩
def uE(ha:PE X a ta)(hb:PE X (.BoolOp .Or (b::rest) pos) tb):PE X (.BoolOp .Or (a::b::rest) pos) (mF ta tb):=by
 intro pins s σ H Q I h;refine BoolOp_or (aT (ha pins s σ H _ I h) λv s1 ⟨x,H1,I1,r1,q1⟩=>?_);obtain⟨c,rfl,q1⟩:=q1;cases r1;refine Im ?_;cases c with
 |false=>exact hb pins s1 σ H1 Q I1 q1
 |true=>exact⟨.bl true,H1,I1,rfl,q1⟩
def Ay(ha:PE X a ta):PE X (.UnaryOp .Not a pos) (Av ta):=by
 intro pins s σ H Q I h;refine UnaryOp_ (aT (ha pins s σ H _ I h) λv s1 ⟨x,H1,I1,r1,q1⟩=>?_);obtain⟨c,rfl,q1⟩:=q1;cases r1;exact not_of (Im ⟨.bl (! c),H1,I1,rfl,q1⟩)
end
noncomputable def bp(K:Qb)(H:Hp)(a:Addr)(xs:List V):Prop:=
 Rd H a (.lst xs) \/
  ∃(o:Obj) (its:Array Value) (n:Nat),K.lookup a=some o/\o.cls=.type "list" /\ o.dict=none/\o.data=.seq its n/\its.size<=sizeLine/\aw xs its.toList
noncomputable def bN(K:Qb)(H:Hp)(a:Addr)(xs:List V):Prop:=
 Rd H a (.tup xs) \/
  ∃(o:Obj) (its:Array Value) (n:Nat),K.lookup a=some o/\o.cls=.type "tuple" /\ o.data=.seq its n/\its.size<=sizeLine/\aw xs its.toList
noncomputable def nB:Value->Option V
 |.none=>some .non
 |.bool b=>some (.bl b)
 |.int i _=>some (.int i)
 |.str x _=>some (.str x)
 |.bytes b _=>some (.byt b)
 |.float b _=>some (.flt b)
 |.ref a=>some (.ref a)
 |.type n=>some (.ty n)
 |_=>none
def RelV.abs (r:RelV x u):nB u=some x:=by
 cases x with
 |non=>cases r;rfl
 |bl _=>cases r;rfl
 |int _=>obtain⟨t,rfl⟩:=r;rfl
 |str _=>obtain⟨t,rfl⟩:=r;rfl
 |byt _=>obtain⟨t,rfl⟩:=r;rfl
 |flt _=>obtain⟨t,rfl⟩:=r;rfl
 |ref _=>cases r;rfl
 |ty _=>cases r;rfl
theorem RelV.inj (r:RelV x u)(q:RelV y u):x=y:=Option.some.inj (r.abs.symm.trans q.abs)
theorem aw.inj:∀{xs ys:List V}{us:List Value},aw xs us->aw ys us->xs=ys
 |_,_,_,.nil,.nil=>rfl
 |_,_,_,.cons r t,.cons r' t'=>by rw[r.inj r',aw.inj t t']
section
variable{X:Cx}{pins:List (Addr×Obj)}{σ:St}{H:Hp}{s:Shared}{a:Addr}{xs ys:List V}
def bp.of{K:Qb}(h:H a=some (.lst xs)):bp K H a xs:=.inl (.inl h)
def bN.of{K:Qb}(h:H a=some (.tup xs)):bN K H a xs:=.inl (.inl h)
def Inv.list(I:Inv X pins σ H s)(h:bp X.K H a xs):∃its:List Value,aw xs its/\PlainL s.heap a its.toArray/\xs.length<=sizeLine:=by
 rcases h with h|⟨o,its,n,hk,hc,hd,hs,hz,r⟩
 .obtain ⟨z,its,n,r,e⟩:=h.ok I.hok;exact⟨its,r,⟨_,n,e,rfl,rfl,rfl⟩,z⟩
 .refine ⟨its.toList,r,⟨o,n,I.kIn a o hk,hc,hd,by simpa using hs⟩,?_⟩;have e:=r.length;simp only[Q3]at e;lia
def Inv.tuple(I:Inv X pins σ H s)(h:bN X.K H a xs):∃its:List Value,aw xs its/\IsTup s.heap a its.toArray/\xs.length<=sizeLine:=by
 rcases h with h|⟨o,its,n,hk,hc,hs,hz,r⟩
 .obtain ⟨z,its,r,p⟩:=h.ok I.hok;exact⟨its,r,p,z⟩
 .refine ⟨its.toList,r,⟨o,I.kIn a o hk,hc,n,by simpa using hs⟩,?_⟩;have e:=r.length;simp only[Q3]at e;lia
def Inv.list_inj(I:Inv X pins σ H s)(h:bp X.K H a xs)(h':bp X.K H a ys):xs=ys:=by
 obtain⟨its,r,⟨o,n,e,_,_,d⟩,_⟩:=I.list h;obtain⟨its',r',⟨o',n',e',_,_,d'⟩,_⟩:=I.list h';rw[e]at e';cases e';rw[d]at d';injection d' with d1 _
 have:its=its':=by simpa using Ke Ua d1
 subst this;exact r.inj r'
def Inv.tuple_inj(I:Inv X pins σ H s)(h:bN X.K H a xs)(h':bN X.K H a ys):xs=ys:=by
 obtain⟨its,r,⟨o,e,_,n,d⟩,_⟩:=I.tuple h;obtain⟨its',r',⟨o',e',_,n',d'⟩,_⟩:=I.tuple h';rw[e]at e';cases e';rw[d]at d';injection d' with d1 _
 have:its=its':=by simpa using Ke Ua d1
 subst this;exact r.inj r'
end
abbrev Cx.wish(X:Cx)(E:Value->Shared->Prop):Cx:={X with xe:=E}
abbrev Cx.nox(X:Cx):Cx:=X.wish λ_ _=>False
theorem Cx.Ok.wish{X:Cx}(ok:X.Ok)(E:Value->Shared->Prop):(X.wish E).Ok:=
 ⟨ok.mod,ok.kind,ok.glob,ok.blt,ok.above,ok.inj,ok.has,ok.cab,ok.hd,ok.frames,ok.stk,ok.exf,ok.bs,ok.bsz,ok.noex,ok.exfs,ok.funs,ok.frf⟩
def Cx.Ok.unwish {X:Cx}(ok:(X.wish E).Ok):X.Ok:=
 ⟨ok.mod,ok.kind,ok.glob,ok.blt,ok.above,ok.inj,ok.has,ok.cab,ok.hd,ok.frames,ok.stk,ok.exf,ok.bs,ok.bsz,ok.noex,ok.exfs,ok.funs,ok.frf⟩
section
variable{X:Cx}{pins:List (Addr×Obj)}{σ:St}{H:Hp}{s:Shared}{E:Value->Shared->Prop}
theorem Inv.wish(I:Inv X pins σ H s)(E:Value->Shared->Prop):Inv (X.wish E) pins σ H s:=⟨I.ok.wish E,I.os,I.bare,I.base,I.loc,I.cell,I.free,I.freeC,I.pin,I.hok,I.len⟩
theorem Inv.unwish(I:Inv (X.wish E) pins σ H s):Inv X pins σ H s:=⟨I.ok.unwish,I.os,I.bare,I.base,I.loc,I.cell,I.free,I.freeC,I.pin,I.hok,I.len⟩
theorem SP.unwish{D:bT}{f:Flow}{s':Shared}(h:SP (X.wish E) pins D f s'):SP X pins D f s':=by
 cases f with
 |next=>obtain⟨σ',H',I,q⟩:=h;exact⟨σ',H',I.unwish,q⟩
 |brk=>obtain⟨σ',H',I,q⟩:=h;exact⟨σ',H',I.unwish,q⟩
 |cont=>obtain⟨σ',H',I,q⟩:=h;exact⟨σ',H',I.unwish,q⟩
 |ret u=>obtain⟨v,σ',H',I,r,q⟩:=h;exact⟨v,σ',H',I.unwish,r,q⟩
theorem bZ.nox{st:List Stmt}{t:TS}(h:bZ X.nox st t):bZ X st t:=λpins s σ H D I hw=>
 Ii (h pins s σ H D (I.wish _) hw) (λ_ _ q=>q.unwish) λ_ _ z=>False.elim z
end
section
variable{X:Cx}{st:Stmt}{rest:List Stmt}{t u:TS}{e:Expr}{te:TE}{pos:Pos}
noncomputable def uD:TS:=λD σ H=>D.nx σ H
noncomputable def mD(t u:TS):TS:=λD σ H=>t {D with nx:=u D} σ H
def sd:bZ X [] uD:=λ_ _ σ H _ I h=>Io ⟨σ,H,I,h⟩
set_option tactic.hygienic true in
def vk(h1:PS X st t)(h2:bZ X rest u):bZ X (st::rest) (mD t u):=by
 intro pins s σ H D I h;refine Ip (aT (h1 pins s σ H {D with nx:=u D} I h) λf s1 q=>?_);cases f with
 |next=>
  obtain⟨σ',H',I',q⟩:=q;exact h2 pins s1 σ' H' D I' q
 |ret v=>exact q
 |brk=>exact q
 |cont=>exact q
def vl(h1:PS X st t):bZ X [st] t:=by
 intro pins s σ H D I h;refine Ip (aT (h1 pins s σ H D I h) λf s1 q=>?_);cases f with
 |next=>exact Io q
 |ret v=>exact q
 |brk=>exact q
 |cont=>exact q
def Inv.quiet (I:Inv X pins σ H s):interactive X.env=false:=by simp[interactive,I.ok.kind]
noncomputable def uC(te:TE):TS:=λD σ H=>te σ H λ_ H1=>D.nx σ H1
def Cq(he:PE X e te)(hs:Iq e none pos.line X.env=pure false:=by rfl):PS X (.Expr e pos) (uC te):=by
 intro pins s σ H D I h;exact Ir (aT (he pins s σ H _ I h) λv s1 ⟨x,H1,I1,r1,q1⟩=>⟨σ,H1,I1,q1⟩) I.quiet hs
noncomputable def mE(te:TE):TS:=λD σ H=>te σ H D.rt
def gm(he:PE X e te):PS X (.Return (some e) pos) (mE te):=by
 intro pins s σ H D I h;exact wpAny_Return_some (aT (he pins s σ H _ I h) λv s1 ⟨x,H1,I1,r1,q1⟩=>⟨x,σ,H1,I1,r1,q1⟩)
noncomputable def mK(c:TT)(t u:TS):TS:=λD σ H=>c σ H λb H1=>if b=true then t D σ H1 else u D σ H1
def lS (hc:PT X c tc)(ha:bZ X a t)(hb:bZ X b u):PS X (.If c a b pos) (mK tc t u):=by
 intro pins s σ H D I h;refine wpAny_If (aT (hc pins s σ H _ I h) λd s1 ⟨H1,I1,q1⟩=>?_);cases d with
 |true=>exact ha pins s1 σ H1 D I1 q1
 |false=>exact hb pins s1 σ H1 D I1 q1
noncomputable def rh:TS:=λ_ _ _=>False
def D7:PS X st rh:=λ_ _ _ _ _ _ h=>h.elim
def vQ:bZ X sts rh:=λ_ _ _ _ _ _ h=>h.elim
end
abbrev TG:=V->St->Hp->(St->Hp->Prop)->Prop
abbrev dL:=List V->St->Hp->(St->Hp->Prop)->Prop
noncomputable def PG(X:Cx)(target:Expr)(t:TG):Prop:=
 ∀(pins:List (Addr×Obj)) (s:Shared) (σ:St) (H:Hp) (v:V) (u:Value) (Q:St->Hp->Prop),Inv X pins σ H s->RelV v u->t v σ H Q ->
  Ic (Ie X.prog X.w) X.A (assign target X.env u) (λ_ s'=>∃σ' H',Inv X pins σ' H' s'/\Q σ' H') X.xe s
noncomputable def fS(X:Cx)(ts:List Expr)(t:dL):Prop:=
 ∀(pins:List (Addr×Obj)) (s:Shared) (σ:St) (H:Hp) (vs:List V) (us:List Value) (Q:St->Hp->Prop),Inv X pins σ H s->aw vs us->t vs σ H Q ->
  Ic (Ie X.prog X.w) X.A (assignInOrder ((Is ts X.env).map (·.2)) us) (λ_ s'=>∃σ' H',Inv X pins σ' H' s'/\Q σ' H') X.xe s
abbrev lE:=V->V->V->Hp->(Hp->Prop)->Prop
noncomputable def nZ(X:Cx)(t:lE):Prop:=
 ∀(pins:List (Addr×Obj)) (s:Shared) (σ:St) (H:Hp) (o i v:V) (ov iv u:Value) (Q:Hp->Prop),Inv X pins σ H s->RelV o ov->RelV i iv->RelV v u->t o i v H Q ->
  Ic (Ie X.prog X.w) X.A (setItem ov iv u) (λ_ s'=>∃H',Inv X pins σ H' s'/\Q H') X.xe s
section
variable{X:Cx}{pos:Pos}
noncomputable def yA(i:Nat):TG:=λv σ H Q=>Q (σ.set i (some v)) H
def ym (hN:X.N.Nodup)(hi:X.N[i]?=some x)(hx:Loc X.env.scope x)(hf:X.fn x=true\/X.env.scope.names.lookup x=some .local:=by first|exact .inl rfl|exact .inr rfl|assumption):PG X (.Name x pos) (yA i):=by
 intro pins s σ H v u Q I r h;exact wpAny_assign_Name (kJ I hN hi hx r (λs' I'=>⟨_,H,I',h⟩) hf)
noncomputable def eW:dL:=λvs σ H Q=>vs=[]/\Q σ H
noncomputable def xk(t:TG)(u:dL):dL:=λvs σ H Q=>∃v r,vs=v::r/\t v σ H λσ' H'=>u r σ' H' Q
def vm:fS X [] eW:=by
 intro pins s σ H vs us Q I r h;obtain⟨e,h⟩:=h;subst e;cases r;exact assignInOrder_nil ⟨σ,H,I,h⟩
def yi (h1:PG X e t)(h2:fS X es u)(hs:(Is (e::es) X.env).map (·.2)=assign e X.env::(Is es X.env).map (·.2):=by rfl):fS X (e::es) (xk t u):=by
 intro pins s σ H vs us Q I r h;obtain⟨v,vr,e1,h⟩:=h;subst e1;cases r with
 |cons r rr=>
  rw[hs];refine assignInOrder_cons (aT (h1 pins s σ H _ _ _ I r h) λ_ s1 ⟨σ1,H1,I1,q1⟩=>?_);exact h2 pins s1 σ1 H1 _ _ Q I1 rr q1
noncomputable def fC(K:Qb)(n:Nat)(t:dL):TG:=λv σ H Q=>∃a xs,v=.ref a/\bN K H a xs/\xs.length=n/\t xs σ H Q
def kL (hc:X.calm=true)(h:fS X es t)(hn:(Is es X.env).length=n:=by rfl)(hst:(Is es X.env).findIdx? (·.1)=none:=by rfl):PG X (.Tuple es k pos) (fC X.K n t):=by
 intro pins s σ H v u Q I r hw;obtain⟨a,xs,e1,hq,hl,hw⟩:=hw;subst e1;cases r;obtain⟨its,rv,ht,hz⟩:=I.tuple hq;refine assign_Tuple_tuple (I.ok.hd hc) ht (by simp[hn,<-hl,rv.length]) hst λh' hx=>?_;have I1:Inv X pins σ H {s with heap:=h' }:=I.kept (t':=s.toks) λb o e=>hx b o (QE (Qj e)) e;exact h pins _ σ H xs _ Q I1 (by simpa using rv) hw
noncomputable def nl(to ti:TE)(t:lE):TG:=λv σ H Q=>to σ H λo H1=>ti σ H1 λi H2=>t o i v H2 λH3=>Q σ H3
def Bc (ho:PE X o to)(hi:PE X i ti)(hs:nZ X t)(ha:∀v,assign (.Subscript o i pos) X.env v=(do
   let ov <-holding [v] (eval o X.env)
   let iv <-holding [v,ov] (eval i X.env)
   standAt pos
   holding [v,ov,iv] (setItem ov iv v)
   release [v,ov,iv] []):=by intro _;rfl):PG X (.Subscript o i pos) (nl to ti t):=by
 intro pins s σ H v u Q I r h;rw[ha];refine Iu (Iv (aT (ho pins s σ H _ I h) λov s1 ⟨x,H1,I1,r1,q1⟩=>?_));refine Iu (Iv (aT (hi pins s1 σ H1 _ I1 q1) λiv s2 ⟨y,H2,I2,r2,q2⟩=>?_));refine Iu (Iw (Iu (Iv (aT (hs pins s2 σ H2 x y v ov iv u _ I2 r1 r2 r q2) λ_ s3 ⟨H3,I3,q3⟩=>?_))));exact wpAny_release ⟨σ,H3,I3,q3⟩
noncomputable def fB(te:TE)(g:TG):TS:=λD σ H=>te σ H λx H1=>g x σ H1 D.nx
def l8 (he:PE X e te)(hg:PG X tg g)(hs:swapsWithSole [tg] e pos.line X.env=pure false:=by rfl)(hw:swappedStores [tg] e X.env=pure none:=by rfl)(h1:(Is [tg] X.env).map (·.2)=[assign tg X.env]:=by rfl):PS X (.Assign [tg] e pos) (fB te g):=by
 intro pins s σ H D I h;refine wpAny_Assign_stores (aT (he pins s σ H _ I h) λv s1 ⟨x,H1,I1,r1,q1⟩=>?_) hs hw;rw[h1];exact aT (hg pins s1 σ H1 x v _ I1 r1 q1) λ_ s2 q=>q
def rg (hN:X.N.Nodup)(hi:X.N[i]?=some x)(hx:Loc X.env.scope x)(he:PE X e te)(hs:Iq e (some (.Name x pos')) pos.line X.env=pure false:=by rfl)(hf:X.fn x=true\/X.env.scope.names.lookup x=some .local:=by first|exact .inl rfl|exact .inr rfl|assumption):
  PS X (.Assign [.Name x pos'] e pos) (fB te (yA i)):=by
 intro pins s σ H D I h;refine wpAny_Assign_Name (aT (he pins s σ H _ I h) λv s1 ⟨y,H1,I1,r1,q1⟩=>?_) hs;exact kJ I1 hN hi hx r1 (λs2 I2=>⟨_,H1,I2,q1⟩) hf
end
section
variable{X:Cx}{pos:Pos}
noncomputable def pZ(c:TT)(tb:TS):TS:=λD σ H=>∃W:Nat->St->Hp->Prop,(∃m,W m σ H)/\∀m σ H,W m σ H ->
 c σ H λb H1=>if b=true then ∃N:St->Hp->Prop,(∀σ' H',N σ' H'->∃m',m'<m/\W m' σ' H')/\tb {D with nx:=N,ct:=N,bk:=D.nx} σ H1 else D.nx σ H1
set_option tactic.hygienic true in
def D6 (hp:PassesOwn (Ie X.prog X.w) X.A X.env X.xe)(hc:PT X c tc)(hb:bZ X body tb):PS X (.While c body [] pos) (pZ tc tb):=by
 intro pins s σ H D I h;obtain⟨W,⟨m0,w0⟩,turn⟩:=h;refine wpAny_While (codeAny_whileLoop (λn s'=>∃σ' H',Inv X pins σ' H' s'/\W n σ' H') ?_ m0 ⟨σ,H,I,w0⟩);rintro n s1 ⟨σ1,H1,I1,w1⟩;refine Ix hp (aT (hc pins s1 σ1 H1 _ I1 (turn n σ1 H1 w1)) λb s2 ⟨H2,I2,q2⟩=>?_);cases b with
 |true=>
  obtain⟨N,hN,q2⟩:=q2;rw[Ka rfl];refine Ix hp (aT (hb pins s2 σ1 H2 _ I2 q2) λf s3 q3=>?_);cases f with
  |next=>
   obtain⟨σ3,H3,I3,n3⟩:=q3;obtain⟨m',hm,w3⟩:=hN σ3 H3 n3;exact⟨m',hm,σ3,H3,I3,w3⟩
  |cont=>
   obtain⟨σ3,H3,I3,n3⟩:=q3;obtain⟨m',hm,w3⟩:=hN σ3 H3 n3;exact⟨m',hm,σ3,H3,I3,w3⟩
  |brk=>exact q3
  |ret v=>exact q3
 |false=>
  rw[Kb QZ];exact Io ⟨σ1,H2,I2,q2⟩
end
set_option genInjectivity false in
structure It where
 go:Nat->Hp->Prop
 yld:Nat->Hp->V->Hp->Prop
 stop:Nat->Hp->Prop
noncomputable def kB(X:Cx)(pins:List (Addr×Obj))(H:Hp)(b:Addr):Prop:=
 H b=none/\b≠X.env.locals/\b∉X.fs/\(b∈X.ex\/X.s₀.heap.objs.size<=b)/\(∀x c,X.env.cells.lookup x=some c->c≠b)/\∀p∈X.pn++pins,p.1≠b
def Inv.fpOk (I:Inv X pins σ H s)(hb:s.heap.objs.size<=b)(hn:H' b=none):kB X pins H' b:=by
 refine⟨hn,WA (Qk I.lt hb),I.nofs hb,.inr (QD I.sz hb),λx c e z=>?_,λp hp z=>?_⟩
 .obtain ⟨v,q⟩:=I.cell x c e;exact Kc (Qk q.lt (by rw[z];exact hb)) (We _)
 .exact Kc (Qk (Qj (I.pin p hp).1) (by rw[z];exact hb)) (We _)
structure cY(P:HS)(w:HU)(K:Qb)(tg:Expr)(J:It)(fp:List Addr)(it:Addr)(tn:Nat->HV->Prop):Prop where
 mem:it∈fp
 obj:∀i h,tn i h->∀b∈fp,∃o,h.get? b=some o/\∀v,o.data≠.cell v
 keep:∀i h h',tn i h->(∀b∈fp,∀o,h.get? b=some o->h'.get? b=some o)->tn i h'
 item:∀(X:Cx),X.prog=P->X.w=w->X.K=K->X.calm=true->∀(i:Nat) (pins:List (Addr×Obj)) (s:Shared) (σ:St) (H:Hp) (E:Value->Shared->Prop),Inv X pins σ H s->(∀b∈fp,kB X pins H b)->tn i s.heap->J.go i H ->
  Ic (Ie P w) X.A (Iy (.ref it)) (λr s1=>∃u,r=some u /\
   Ic (Ie P w) X.A (Iz tg (.ref it) u) (λ_ s2=>∃x H',Inv X pins σ H' s2/\RelV x u/\J.yld i H x H'/\tn (i+1) s2.heap/\∀b∈fp,H' b=none) E s1) E s
 done:∀(X:Cx),X.prog=P->X.w=w->X.K=K->X.calm=true->∀(i:Nat) (pins:List (Addr×Obj)) (s:Shared) (σ:St) (H:Hp) (E:Value->Shared->Prop),Inv X pins σ H s->(∀b∈fp,kB X pins H b)->tn i s.heap->J.stop i H ->
  Ic (Ie P w) X.A (Iy (.ref it)) (λr s1=>r=none/\Inv X pins σ H s1) E s
 self:∀(A:HY) (i:Nat) (s:Shared) (Q:Value->Shared->Prop) (E:Value->Shared->Prop),tn i s.heap->Q (.ref it) s->Ic (Ie P w) A (pyIter (.ref it)) Q E s
abbrev TI:=St->Hp->(It->Hp->Prop)->Prop
noncomputable def t6(X:Cx)(pins:List (Addr×Obj))(σ:St)(tg:Expr)(R:It->Hp->Prop)(itv:Value)(s2:Shared):Prop:=
 ∃(it:Addr) (fp:List Addr) (tn:Nat->HV->Prop) (J:It) (H':Hp),itv=.ref it/\Inv X pins σ H' s2/\cY X.prog X.w X.K tg J fp it tn/\tn 0 s2.heap/\(∀b∈fp,kB X pins H' b)/\R J H'
noncomputable def PI(X:Cx)(tg iter:Expr)(wi:TI):Prop:=
 ∀(pins:List (Addr×Obj)) (s:Shared) (σ:St) (H:Hp) (R:It->Hp->Prop),Inv X pins σ H s->wi σ H R ->
  Ic (Ie X.prog X.w) X.A (eval iter X.env) (λv s1=>Ic (Ie X.prog X.w) X.A (pyIter v) (t6 X pins σ tg R) X.xe s1) X.xe s
def iI (ho:s.heap.get? it=some o)(hc:o.cls=.type n)(hd:o.data=.fields vs)(hn:["enumerate","zip","dict_itemiterator","dict_reverseitemiterator","odict_iterator","itertools.zip_longest","itertools.pairwise"].contains n=false)(hQ:Q () s):Ic M A (Iz tg (.ref it) u) Q E s:=by
 unfold Iz;cases tg<;>first
  |exact IA hQ
  | (cases u <;> first
    |exact IA hQ
    | (refine Iu (wpAny_load ho ?_)
       rw[hc,hd];show Ic M A (if(["enumerate","zip","dict_itemiterator","dict_reverseitemiterator","odict_iterator","itertools.zip_longest","itertools.pairwise"].contains n&&vs[0]?==some (rawInt _))=true then _ else _) Q E s;rw[Kb (by intro h;rw[hn,Bool.false_and]at h;cases h)];exact IA hQ))
noncomputable def nH(K:Qb)(a:Addr):It:=
 ⟨λi H=>∃xs x,bp K H a xs/\xs[i]?=some x,λi H x H'=>H'=H/\∀xs,bp K H a xs->xs[i]?=some x,λi H=>∃xs,bp K H a xs/\xs.length<=i⟩
noncomputable def t9(K:Qb)(a:Addr):It:=
 ⟨λi H=>∃xs x,bN K H a xs/\xs[i]?=some x,λi H x H'=>H'=H/\∀xs,bN K H a xs->xs[i]?=some x,λi H=>∃xs,bN K H a xs/\xs.length<=i⟩
noncomputable def iy(lo:Int)(n:Nat):It:=⟨λi _=>i<n,λi H x H'=>H'=H/\x=.int (lo+i),λi _=>n<=i⟩
def ER {K:Qb}(a it:Addr):cY P w K tg (nH K a) [it] it (λi h=>h.IsListIter it a i) where
 mem:=by simp
 obj:=λi h st b hb=>by
  have e:b=it:=by simpa using hb
  subst e;obtain⟨o,e,c,d⟩:=st;exact⟨o,e,λv z=>by rw[d]at z;cases z⟩
 keep:=λi h h' st k=>st.at λo e=>k it (by simp) o e
 item:=by
  intro X hP hw hK hc i pins s σ H E I hf st hg;subst hP hw hK;obtain⟨xs,x,hq,hx⟩:=hg;obtain⟨its,rv,p,hz⟩:=I.list hq;obtain⟨u,hu,ru⟩:=rv.get hx;obtain⟨f0,f1,f2,f3,f4,f5⟩:=hf it (by simp);refine IB st p.isList (x:=u) (by simpa using hu) λh' st' sb=>?_;have I1:Inv X pins σ H {s with heap:=h' }:=I.turned (t':=s.toks) (λb o hb e=>(sb.2 b hb).trans e) f0 f1 f3 f4 f5;obtain⟨o,e,c,d⟩:=id st';exact⟨u,rfl,iI (s:={s with heap:=h' }) e c d (by decide) ⟨x,H,I1,ru,⟨rfl,λys hy=>by rw[I.list_inj hy hq];exact hx⟩,st',λb hb=>(hf b hb).1⟩⟩
 done:=by
  intro X hP hw hK hc i pins s σ H E I hf st hg;subst hP hw hK;obtain⟨xs,hq,hx⟩:=hg;obtain⟨its,rv,p,hz⟩:=I.list hq;obtain⟨f0,f1,f2,f3,f4,f5⟩:=hf it (by simp);have hl:=rv.length;exact IC (I.ok.hd hc) st p.isList (by simp;lia) λh' eb=>⟨rfl,I.turned (t':=s.toks) (λb o hb e=>eb b o hb e) f0 f1 f3 f4 f5⟩
 self:=λ_ _ _ _ _ st h=>wpAny_pyIter_listiter st h
def FD {K:Qb}(a it:Addr):cY P w K tg (t9 K a) [it] it (λi h=>h.IsTupleIter it a i) where
 mem:=by simp
 obj:=λi h st b hb=>by
  have e:b=it:=by simpa using hb
  subst e;obtain⟨o,e,c,d⟩:=st;exact⟨o,e,λv z=>by rw[d]at z;cases z⟩
 keep:=λi h h' st k=>st.at λo e=>k it (by simp) o e
 item:=by
  intro X hP hw hK hc i pins s σ H E I hf st hg;subst hP hw hK;obtain⟨xs,x,hq,hx⟩:=hg;obtain⟨its,rv,p,hz⟩:=I.tuple hq;obtain⟨u,hu,ru⟩:=rv.get hx;obtain⟨f0,f1,f2,f3,f4,f5⟩:=hf it (by simp);refine wpAny_pyNext_tuple_item st (show s.heap.IsTuple a its.toArray from p) (x:=u) (by simpa using hu) λh' st' sb=>?_;have I1:Inv X pins σ H {s with heap:=h' }:=I.turned (t':=s.toks) (λb o hb e=>(sb.2 b hb).trans e) f0 f1 f3 f4 f5;obtain⟨o,e,c,d⟩:=id st';exact⟨u,rfl,iI (s:={s with heap:=h' }) e c d (by decide) ⟨x,H,I1,ru,⟨rfl,λys hy=>by rw[I.tuple_inj hy hq];exact hx⟩,st',λb hb=>(hf b hb).1⟩⟩
 done:=by
  intro X hP hw hK hc i pins s σ H E I hf st hg;subst hP hw hK;obtain⟨xs,hq,hx⟩:=hg;obtain⟨its,rv,p,hz⟩:=I.tuple hq;obtain⟨f0,f1,f2,f3,f4,f5⟩:=hf it (by simp);have hl:=rv.length;exact wpAny_pyNext_tuple_end (I.ok.hd hc) st (show s.heap.IsTuple a its.toArray from p) (by simp;lia) λh' eb=>⟨rfl,I.turned (t':=s.toks) (λb o hb e=>eb b o hb e) f0 f1 f3 f4 f5⟩
 self:=λ_ _ _ _ _ st h=>wpAny_pyIter_tupleiter st h
def FC {K:Qb}(it:Addr)(lo:Int)(n:Nat):cY P w K tg (iy lo n) [it] it (λi h=>ID h it (lo+(i:Nat)*1) ((n:Int)-(i:Nat)) 1) where
 mem:=by simp
 obj:=λi h st b hb=>by
  have e:b=it:=by simpa using hb
  subst e;exact⟨_,st,λv z=>by
   have z':Data.fields _=Data.cell v:=z;cases z'⟩
 keep:=λi h h' st k=>k it (by simp) _ st
 item:=by
  intro X hP hw hK hc i pins s σ H E I hf st hg;subst hP hw hK;obtain⟨f0,f1,f2,f3,f4,f5⟩:=hf it (by simp);have W:=Walks.range (prog:=X.prog) (w:=X.w) (I.ok.hd hc) it lo 1 n;refine W.item i s _ _ hg st λv h' tk hv st' kk=>?_;obtain⟨t,rfl⟩:=hv;have I1:Inv X pins σ H {s with heap:=h',toks:=tk}:=I.turned (λb o hb e=>kk b o (by simpa using hb) e) f0 f1 f3 f4 f5;refine⟨_,rfl,iI (s:={s with heap:=h',toks:=tk}) (n:="range_iterator") st' rfl rfl (by decide) ⟨.int (lo+i),H,I1,⟨t,?_⟩,⟨rfl,rfl⟩,st',λb hb=>(hf b hb).1⟩⟩;rw[Int.mul_one]
 done:=by
  intro X hP hw hK hc i pins s σ H E I hf st hg;subst hP hw hK;obtain⟨f0,f1,f2,f3,f4,f5⟩:=hf it (by simp);exact IE (I.ok.hd hc) st (by have:n<=i:=hg;lia) λh' eb=>⟨rfl,I.turned (t':=s.toks) (λb o hb e=>eb b o hb e) f0 f1 f3 f4 f5⟩
 self:=λ_ _ _ _ _ st h=>IF st h
section
variable{X:Cx}{tg:Expr}
noncomputable def uB(K:Qb)(tl:TE):TI:=λσ H R=>tl σ H λx H1=>∃a,x=.ref a/\(∃xs,bp K H1 a xs)/\R (nH K a) H1
noncomputable def nk(K:Qb)(tl:TE):TI:=λσ H R=>tl σ H λx H1=>∃a,x=.ref a/\(∃xs,bN K H1 a xs)/\R (t9 K a) H1
def r9 (hl:PE X l tl):PI X tg l (uB X.K tl):=by
 intro pins s σ H R I h;refine aT (hl pins s σ H _ I h) λv s1 ⟨x,H1,I1,r1,q1⟩=>?_;obtain⟨a,e,⟨xs,hq⟩,q⟩:=q1;subst e;cases r1;obtain⟨its,rv,p,hz⟩:=I1.list hq;refine IG p.isList ?_;refine⟨s1.heap.objs.size,[s1.heap.objs.size],_,_,H1,rfl,I1.kept (t':=s1.toks) λb o e=>Qe _ e,ER a _,⟨_,Qw _ rfl,rfl,rfl⟩,λb hb=>?_,q⟩;have e:b=s1.heap.objs.size:=by simpa using hb
 subst e;exact I1.fpOk (Qo _) (I1.hok.fresh (Qo _))
def Bb (hl:PE X l tl):PI X tg l (nk X.K tl):=by
 intro pins s σ H R I h;refine aT (hl pins s σ H _ I h) λv s1 ⟨x,H1,I1,r1,q1⟩=>?_;obtain⟨a,e,⟨xs,hq⟩,q⟩:=q1;subst e;cases r1;obtain⟨its,rv,p,hz⟩:=I1.tuple hq;refine wpAny_pyIter_tuple (show s1.heap.IsTuple a its.toArray from p) ?_;refine⟨s1.heap.objs.size,[s1.heap.objs.size],_,_,H1,rfl,I1.kept (t':=s1.toks) λb o e=>Qe _ e,FD a _,⟨_,Qw _ rfl,rfl,rfl⟩,λb hb=>?_,q⟩;have e:b=s1.heap.objs.size:=by simpa using hb
 subst e;exact I1.fpOk (Qo _) (I1.hok.fresh (Qo _))
def D5 {lo:Int}(I:Inv X pins σ H s)(h1:-(2^62)<=lo)(h2:lo<2^62)(h3:-(2^62)<=hi)(h4:hi<2^62)(q:R (iy lo (hi-lo).toNat) H):Ic (Ie X.prog X.w) X.A (pyIter (.ref s.heap.objs.size)) (t6 X pins σ tg R) E {s with heap:=s.heap.push {cls:=.type "range",data:=.fields #[.int lo t,.int hi u,.int 1 v]},toks:=tk}:=by
 refine wpAny_pyIter_range (IsRange.new ..) (small_one h1 h2 h3 h4) ?_;have I1:Inv X pins σ H {s with heap:=s.heap.push {cls:=.type "range",data:=.fields #[.int lo t,.int hi u,.int 1 v]},toks:=tk}:=I.kept λb o e=>Qe _ e;refine⟨(s.heap.push {cls:=.type "range",data:=.fields #[.int lo t,.int hi u,.int 1 v]}).objs.size,[(s.heap.push {cls:=.type "range",data:=.fields #[.int lo t,.int hi u,.int 1 v]}).objs.size],_,_,H,rfl,
  I1.kept (t':=tk) λb o e=>Qe _ e,FC _ lo (hi-lo).toNat,?_,λb hb=>?_,q⟩
 .have e1:lo+((0:Nat):Int)*1=lo:=by simp
  have e2:(((hi-lo).toNat:Nat):Int)-((0:Nat):Int)=Builtin.Range.rangeSize lo hi 1:=by rw[IH];split<;>lia
  show ID _ _ (lo+((0:Nat):Int)*1) ((((hi-lo).toNat:Nat):Int)-((0:Nat):Int)) 1;rw[e1,e2];exact Qw _ rfl
 .have e:b=(s.heap.push {cls:=.type "range",data:=.fields #[.int lo t,.int hi u,.int 1 v]}).objs.size:=by simpa using hb
  subst e;exact I1.fpOk (Qo _) (I1.hok.fresh (Qo _))
noncomputable def uA(ta:TA):TI:=λσ H R=>ta σ H λvs H1=>∃j:Int,vs=[.int j]/\-(2^62)<=j/\j<2^62/\R (iy 0 j.toNat) H1
def EQ (hg:Gl X "range")(hm:X.mg "range"=none)(ha:PA X [a] ta)(hs:Ih [a] X.env=[(false,eval a X.env)]:=by rfl):PI X tg (.Call (.Name "range" p) [a] [] pos) (uA ta):=by
 intro pins s σ H R I h;refine Call_ (xf I hg hm boot_range (PyProof.Rows.callWith_type1 (aT (ha pos pins s σ H _ I h) λus s1 ⟨vs,H1,I1,r1,q1⟩=>?_) hs rfl));obtain⟨j,e,q1,q2,q⟩:=q1;subst e;cases r1 with
 |cons r rr=>
  cases rr;obtain⟨t,rfl⟩:=r;exact call_range_1 (D5 I1 (by lia) (by lia) q1 q2 (by simpa using q))
noncomputable def nY(wi:TI)(g:TG)(tb:TS):TS:=λD σ H=>wi σ H λJ H1=>∃W:Nat->Nat->St->Hp->Prop,(∃m,W 0 m σ H1)/\∀i m σ H,W i m σ H ->
 (J.stop i H/\D.nx σ H)\/(J.go i H/\∃N:St->Hp->Prop,(∀σ' H',N σ' H'->∃m',m'<m/\W (i+1) m' σ' H')/\∀x H',J.yld i H x H'->g x σ H' λσ2 H2=>tb {D with nx:=N,ct:=N,bk:=D.nx} σ2 H2)
noncomputable def kM(fp:List Addr)(h:HV):List (Addr×Obj):=fp.filterMap λb=>(h.get? b).map λo=>(b,o)
def wc (hb:b∈fp)(e:h.get? b=some o):(b,o)∈kM fp h:=VM.mpr ⟨b,hb,by rw[e];rfl⟩
def EO (hp:p∈kM fp h):p.1∈fp/\h.get? p.1=some p.2:=by
 obtain⟨b,hb,e⟩:=VM.mp hp;cases q:h.get? b with
 |none=>rw[q]at e;cases e
 |some o=>
  rw[q]at e;have e':(b,o)=p:=Option.some.inj e;subst e';exact⟨hb,q⟩
def Inv.pinned{pins:List (Addr×Obj)}{σ:St}{H:Hp}{s:Shared}{fp:List Addr}(I:Inv X pins σ H s)(hf:∀b∈fp,kB X pins H b)(ho:∀b∈fp,∃o,s.heap.get? b=some o/\∀v,o.data≠.cell v):Inv X (pins++kM fp s.heap) σ H s:=
 I.pins_of λp hp=>(Qu.mp hp).elim (λz=>I.pin p (Qy _ z)) λz=>by
  obtain⟨hb,e⟩:=EO z;obtain⟨f0,f1,f2,_⟩:=hf p.1 hb;obtain⟨o,e',d⟩:=ho p.1 hb;rw[e]at e';cases e';exact⟨e,f0,f1,f2,d⟩
def Inv.unpinned{pins pl:List (Addr×Obj)}{σ:St}{H:Hp}{s:Shared}(I:Inv X (pins++pl) σ H s):Inv X pins σ H s:=I.pins_of λp hp=>I.pin p (Qy _ (Q5 _ hp))
def pY (hp:PassesOwn (Ie X.prog X.w) X.A X.env X.xe)(hc:X.calm=true)(hi:PI X tg iter wi)(hg:PG X tg g)(hb:bZ X body tb)(hs:∀x,II iter X.env x=pure x:=by intro _;rfl):PS X (.For tg iter body [] pos) (nY wi g tb):=by
 intro pins s σ H D I h;refine wpAny_For (aT (hi pins s σ H _ I h) λv s1 h1=>aT h1 λitv s2 h2=>?_) hs;obtain⟨it,fp,tn,J,H2,e,I2,T,st2,f2,W,⟨m0,w0⟩,turn⟩:=h2;subst e
 -- what stays true of the iterator's objects through the loop
 have stat:∀{H':Hp},(∀b∈fp,H' b=none)->∀b∈fp,kB X pins H' b:=λhn b hb=>⟨hn b hb,(f2 b hb).2⟩;refine codeAny_forLoop_any (λn s'=>∃i σ' H',Inv X pins σ' H' s'/\tn i s'.heap/\(∀b∈fp,H' b=none)/\W i n σ' H') ?_ m0 ⟨0,σ,H2,I2,st2,λb hb=>(f2 b hb).1,w0⟩;rintro n s3 ⟨i,σ3,H3,I3,st3,fr3,w3⟩;rcases turn i n σ3 H3 w3 with⟨stop,qn⟩|⟨go,N,hN,step⟩
 .refine Ix hp (aT (T.done X rfl rfl rfl hc i pins s3 σ3 H3 X.xe I3 (stat fr3) st3 stop) λr s4 ⟨hr,I4⟩=>?_);subst hr;exact Io ⟨σ3,H3,I4,qn⟩
 .refine Ix hp (aT (T.item X rfl rfl rfl hc i pins s3 σ3 H3 X.xe I3 (stat fr3) st3 go) λr s4 ⟨u,hr,h4⟩=>?_);subst hr;refine Ix hp (aT h4 λ_ s5 ⟨x,H5,I5,r5,y5,st5,fr5⟩=>?_);have I5':=I5.pinned (stat fr5) (T.obj _ _ st5);refine Ix hp (aT (hg _ s5 σ3 H5 x u _ I5' r5 (step x H5 y5)) λ_ s6 ⟨σ6,H6,I6,q6⟩=>?_);refine Ix hp (aT (hb _ s6 σ6 H6 _ I6 q6) λf s7 q7=>?_);have again:∀{σ7:St}{H7:Hp},Inv X (pins++kM fp s5.heap) σ7 H7 s7->N σ7 H7->∃m,m<n/\∃i σ' H',Inv X pins σ' H' s7/\tn i s7.heap/\(∀b∈fp,H' b=none)/\W i m σ' H':=λ{σ7 H7} I7 n7=>by
   obtain⟨m',hm,w7⟩:=hN σ7 H7 n7;refine⟨m',hm,i+1,σ7,H7,I7.unpinned,T.keep _ _ _ st5 λb hb o e=>(I7.pin (b,o) (Qy _ (Qy _ (wc hb e)))).1,λb hb=>?_,w7⟩;obtain⟨o,e,d⟩:=T.obj _ _ st5 b hb;exact(I7.pin (b,o) (Qy _ (Qy _ (wc hb e)))).2.1
  cases f with
  |next=>obtain⟨σ7,H7,I7,n7⟩:=q7;exact again I7 n7
  |cont=>obtain⟨σ7,H7,I7,n7⟩:=q7;exact again I7 n7
  |brk=>obtain⟨σ7,H7,I7,q7⟩:=q7;exact⟨σ7,H7,I7.unpinned,q7⟩
  |ret v=>obtain⟨x7,σ7,H7,I7,r7,q7⟩:=q7;exact⟨x7,σ7,H7,I7.unpinned,r7,q7⟩
end
abbrev R2:=V->V->Hp->VK->Prop
noncomputable def cb(X:Cx)(f:Value->Value->Sem Value)(r:R2):Prop:=
 ∀(pins:List (Addr×Obj)) (s:Shared) (σ:St) (H:Hp) (x y:V) (v u:Value) (Q:VK),Inv X pins σ H s->RelV x v->RelV y u->r x y H Q ->
  Ic (Ie X.prog X.w) X.A (f v u) (EP X pins σ Q) X.xe s
noncomputable def nC(X:Cx)(f:Value->Sem Value)(r:V->Hp->VK->Prop):Prop:=
 ∀(pins:List (Addr×Obj)) (s:Shared) (σ:St) (H:Hp) (x:V) (v:Value) (Q:VK),Inv X pins σ H s->RelV x v->r x H Q ->
  Ic (Ie X.prog X.w) X.A (f v) (EP X pins σ Q) X.xe s
noncomputable def bu(X:Cx)(f:Value)(r:List V->Hp->VK->Prop):Prop:=
 ∀(pins:List (Addr×Obj)) (s:Shared) (σ:St) (H:Hp) (xs:List V) (us:List Value) (Q:VK),Inv X pins σ H s->aw xs us->r xs H Q ->
  Ic (Ie X.prog X.w) X.A (call f us) (EP X pins σ Q) X.xe s
noncomputable def ik(r:R2)(ta tb:TE):TE:=λσ H Q=>ta σ H λx H1=>tb σ H1 λy H2=>r x y H2 Q
noncomputable def F5(r:V->Hp->VK->Prop)(ta:TE):TE:=λσ H Q=>ta σ H λx H1=>r x H1 Q
noncomputable def rI(C:Int->Int->Prop)(g:Int->Int->V):R2:=λx y H Q=>∃i j,x=.int i/\y=.int j/\C i j/\Q (g i j) H
noncomputable def dT(g:Int->Int->V):R2:=λx y H Q=>∃i j,x=.int i/\y=.int j/\Q (g i j) H
noncomputable def rU(g:Int->V):V->Hp->VK->Prop:=λx H Q=>∃i,x=.int i/\Q (g i) H
section
variable{X:Cx}{a b:Expr}{ta tb:TE}{pos:Pos}
def lC (ha:PE X a ta)(hb:PE X b tb){R:V->V->Hp->Prop}(I:Inv X pins σ H s)(h:ta σ H λx H1=>tb σ H1 λy H2=>R x y H2){f:Value->Value->Sem Value}(hf:∀v u s2 x y H2,Inv X pins σ H2 s2->RelV x v->RelV y u->R x y H2->Ic (Ie X.prog X.w) X.A (f v u) Q X.xe s2):
  Ic (Ie X.prog X.w) X.A (eval a X.env) (λv s₁=>Ic (Ie X.prog X.w) X.A (eval b X.env) (λu s₂=>Ic (Ie X.prog X.w) X.A (f v u) Q X.xe s₂) X.xe s₁) X.xe s:=by
 refine aT (ha pins s σ H _ I h) λv s1 ⟨x,H1,I1,r1,q1⟩=>?_;refine aT (hb pins s1 σ H1 _ I1 q1) λu s2 ⟨y,H2,I2,r2,q2⟩=>?_;exact hf v u s2 x y H2 I2 r1 r2 q2
def uz (ho:cb X (IJ op) r)(ha:PE X a ta)(hb:PE X b tb):PE X (.BinOp a op b pos) (ik r ta tb):=by
 intro pins s σ H Q I h;exact wpAny_BinOp (lC ha hb I h λv u s2 x y H2 I2 rx ry q=>ho pins s2 σ H2 x y v u Q I2 rx ry q)
def uy (ho:nC X (unaryOp op) r)(ha:PE X a ta):PE X (.UnaryOp op a pos) (F5 r ta):=by
 intro pins s σ H Q I h;exact UnaryOp_ (aT (ha pins s σ H _ I h) λv s1 ⟨x,H1,I1,r1,q1⟩=>ho pins s1 σ H1 x v Q I1 r1 q1)
def il {g:Int->Int->Int}(rule:∀(i j:Int) (t u:Tok) (s:Shared) (Q:Value->Shared->Prop) (E:Value->Shared->Prop),C i j->Q (.int (g i j) s.toks) {s with toks:=s.toks+1}->Ic (Ie X.prog X.w) X.A (f (.int i t) (.int j u)) Q E s):
  cb X f (rI C λi j=>.int (g i j)):=by
 intro pins s σ H x y v u Q I rx ry h;obtain⟨i,j,rfl,rfl,hc,q⟩:=h;obtain⟨t,rfl⟩:=rx;obtain⟨t',rfl⟩:=ry;exact rule i j t t' s _ _ hc ⟨.int (g i j),H,I.tok _,⟨_,rfl⟩,q⟩
def lB {g:Int->Int->Int}(rule:∀(i j:Int) (t u:Tok) (s:Shared) (Q:Value->Shared->Prop) (E:Value->Shared->Prop),Q (.int (g i j) s.toks) {s with toks:=s.toks+1}->Ic (Ie X.prog X.w) X.A (f (.int i t) (.int j u)) Q E s):
  cb X f (dT λi j=>.int (g i j)):=by
 intro pins s σ H x y v u Q I rx ry h;obtain⟨i,j,rfl,rfl,q⟩:=h;obtain⟨t,rfl⟩:=rx;obtain⟨t',rfl⟩:=ry;exact rule i j t t' s _ _ ⟨.int (g i j),H,I.tok _,⟨_,rfl⟩,q⟩
def nX {g:Int->Int->Bool}(rule:∀(i j:Int) (t u:Tok) (s:Shared) (Q:Value->Shared->Prop) (E:Value->Shared->Prop),Q (.bool (g i j)) s->Ic (Ie X.prog X.w) X.A (f (.int i t) (.int j u)) Q E s):
  cb X f (dT λi j=>.bl (g i j)):=by
 intro pins s σ H x y v u Q I rx ry h;obtain⟨i,j,rfl,rfl,q⟩:=h;obtain⟨t,rfl⟩:=rx;obtain⟨t',rfl⟩:=ry;exact rule i j t t' s _ _ ⟨.bl (g i j),H,I,rfl,q⟩
noncomputable def nW(i j:Int):Prop:=0<j/\j<1073741824
noncomputable def nV(i j:Int):Prop:=0<=j/\j<=1000000/\i.natAbs<2^64
noncomputable def eJ(i j:Int):Prop:=(-(2^64)<i/\i<2^64)\/(-(2^64)<j/\j<2^64)
def eJ.ok (h:eJ i j):IntMulOk i j:=by
 rcases h with⟨h1,h2⟩|⟨h1,h2⟩
 .exact .of_left (intBits_le_64 h1 h2)
 .exact .of_right (intBits_le_64 h1 h2)
def FA(k:Nat):(0:Int)<=2^k:=by
 rw[two_pow_cast];exact Int.natCast_nonneg _
def fe:cb X (IJ .Add) (dT λi j=>.int (i+j)):=lB λ_ _ _ _ _ _ _ q=>add_int q
def Ba:cb X (IJ .Sub) (dT λi j=>.int (i-j)):=lB λ_ _ _ _ _ _ _ q=>sub_int q
def fb:cb X (IJ .Mult) (rI eJ λi j=>.int (i*j)):=il λ_ _ _ _ _ _ _ hc q=>mul_int q hc.ok
def Cp:cb X (IJ .FloorDiv) (rI nW λi j=>.int (i/j)):=il λi j _ _ _ _ _ hc q=>by
 have h1:(0:Int)<j:=hc.1;have h2:j<1073741824:=hc.2;exact floordiv_int (by lia) (by rw[V7 i (by lia)];exact q) (.inl (PyProof.noPylong_small (by lia)))
def A9:cb X (IJ .Mod) (rI (λ_ j=>0<j) λi j=>.int (i%j)):=il λi j _ _ _ _ _ hc q=>by
 have h1:(0:Int)<j:=hc;exact mod_int' (by lia) (by rw[Int.fmod_eq_emod_of_nonneg i (by lia)];exact q)
def A8:cb X (IJ .Pow) (rI nV λi j=>.int (i^j.toNat)):=il λ_ _ _ _ _ _ _ hc q=>pow_int_small hc.1 hc.2.1 hc.2.2 q
def A7:cb X (IJ .RShift) (rI (λ_ j=>0<=j) λi j=>.int (i/2^j.toNat)):=il λi j _ _ _ _ _ hc q=>
 rshift_int hc (by rw[V7 i (FA _)];exact q)
def A6:cb X (IJ .BitAnd) (dT λi j=>.int (Builtin.bitAnd i j)):=lB λ_ _ _ _ _ _ _ q=>and_int q
def F3 {g:Int->Int}(rule:∀(i:Int) (t:Tok) (s:Shared) (Q:Value->Shared->Prop) (E:Value->Shared->Prop),Q (.int (g i) s.toks) {s with toks:=s.toks+1}->Ic (Ie X.prog X.w) X.A (f (.int i t)) Q E s):
  nC X f (rU λi=>.int (g i)):=by
 intro pins s σ H x v Q I rx h;obtain⟨i,rfl,q⟩:=h;obtain⟨t,rfl⟩:=rx;exact rule i t s _ _ ⟨.int (g i),H,I.tok _,⟨_,rfl⟩,q⟩
def A5:nC X (unaryOp .USub) (rU λi=>.int (-i)):=F3 λ_ _ _ _ _ q=>neg_int q
end
section
variable{X:Cx}{a b c:Expr}{ta tb tc:TE}{pos:Pos}
def ux:cb X (Ik .Lt) (dT λi j=>.bl (decide (i<j))):=nX λ_ _ _ _ _ _ _ q=>lt_int q
def uw:cb X (Ik .LtE) (dT λi j=>.bl (decide (i<=j))):=nX λ_ _ _ _ _ _ _ q=>le_int q
def cb.or{f:Value->Value->Sem Value}{r r':R2}(h:cb X f r)(h':cb X f r'):cb X f (λx y H Q=>r x y H Q\/r' x y H Q):=by
 intro pins s σ H x y v u Q I rx ry q;rcases q with q|q
 .exact h pins s σ H x y v u Q I rx ry q
 .exact h' pins s σ H x y v u Q I rx ry q
def C9 (ho:cb X (Ik op) r)(ha:PE X a ta)(hb:PE X b tb)(hm:Il op b=false):PE X (.Compare a [op] [b] pos) (ik r ta tb):=by
 intro pins s σ H Q I h;exact wpAny_Compare1 (lC ha hb I h λv u s2 x y H2 I2 rx ry q=>ho pins s2 σ H2 x y v u Q I2 rx ry q) hm
noncomputable def oX(t:TE):TT:=λσ H Q=>t σ H λx H'=>∃k,x=.bl k/\Q k H'
def C8 (ho:cb X (Ik op) r)(ha:PE X a ta)(hb:PE X b tb)(hm:Il op b=false):PT X (.Compare a [op] [b] pos) (oX (ik r ta tb)):=by
 intro pins s σ H Q I h;refine wpAny_isTrue_Compare1 (aT (ha pins s σ H _ I h) λv s1 ⟨x,H1,I1,r1,q1⟩=>aT (hb pins s1 σ H1 _ I1 q1) λu s2 ⟨y,H2,I2,r2,q2⟩=>
  aT (ho pins s2 σ H2 x y v u _ I2 r1 r2 q2) λc s3 ⟨z,H3,I3,r3,k,e,q3⟩=>?_) hm
 subst e;cases r3;exact Im ⟨H3,I3,q3⟩
noncomputable def l7(r r':R2)(ta tb tc:TE):TE:=λσ H Q=>ta σ H λx H1=>tb σ H1 λy H2=>r x y H2 λz H3=>∃k,z=.bl k /\
 (if k=true then tc σ H3 λw' H4=>r' y w' H4 Q else Q (.bl false) H3)
def D4 (ho:cb X (Ik op) r)(ho':cb X (Ik op') r')(ha:PE X a ta)(hb:PE X b tb)(hc:PE X c tc)(hm:lastMarks [op,op'] [b,c]=false:=by with_unfolding_all rfl):PE X (.Compare a [op,op'] [b,c] pos) (l7 r r' ta tb tc):=by
 intro pins s σ H Q I h;refine Compare_chain (aT (ha pins s σ H _ I h) λv s1 ⟨x,H1,I1,r1,q1⟩=>chain_link (aT (hb pins s1 σ H1 _ I1 q1) λu s2 ⟨y,H2,I2,r2,q2⟩=>
  aT (ho pins s2 σ H2 x y v u _ I2 r1 r2 q2) λd s3 ⟨z,H3,I3,r3,k,e,q3⟩=>?_)) hm
 subst e;cases r3;refine Im ?_;cases k with
 |false=>exact ite_ff ⟨.bl false,H3,I3,rfl,q3⟩
 |true=>exact ite_tt (chain_last (aT (hc pins s3 σ H3 _ I3 q3) λw' s4 ⟨z',H4,I4,r4,q4⟩=>ho' pins s4 σ H4 y z' u w' Q I4 r2 r4 q4))
def D3 (ho:cb X (Ik op) r)(ho':cb X (Ik op') r')(ha:PE X a ta)(hb:PE X b tb)(hc:PE X c tc)(hm:lastMarks [op,op'] [b,c]=false:=by with_unfolding_all rfl):PT X (.Compare a [op,op'] [b,c] pos) (oX (l7 r r' ta tb tc)):=by
 intro pins s σ H Q I h;refine isTrue_chain (aT (ha pins s σ H _ I h) λv s1 ⟨x,H1,I1,r1,q1⟩=>test_link (aT (hb pins s1 σ H1 _ I1 q1) λu s2 ⟨y,H2,I2,r2,q2⟩=>
  aT (ho pins s2 σ H2 x y v u _ I2 r1 r2 q2) λd s3 ⟨z,H3,I3,r3,k,e,q3⟩=>?_)) hm
 subst e;cases r3;refine Im ?_;cases k with
 |false=>
  obtain⟨k',e',q'⟩:=q3;cases e';exact ite_ff ⟨H3,I3,q'⟩
 |true=>
  refine ite_tt (test_last (aT (hc pins s3 σ H3 _ I3 q3) λw' s4 ⟨z',H4,I4,r4,q4⟩=>aT (ho' pins s4 σ H4 y z' u w' _ I4 r2 r4 q4) λd' s5 ⟨z2,H5,I5,r5,k2,e2,q5⟩=>?_));subst e2;cases r5;exact Im ⟨H5,I5,q5⟩
def kN:(sizeLine:Nat)<2^63:=by rw[IK];decide
def ko (r:aw [x] us):∃u,us=[u]/\RelV x u:=by
 cases r with
 |cons r1 r2=>cases r2;exact⟨_,rfl,r1⟩
def oW (r:aw [x,y] us):∃u w',us=[u,w']/\RelV x u/\RelV y w':=by
 cases r with
 |cons r1 r2=>
  cases r2 with
  |cons r3 r4=>cases r4;exact⟨_,_,rfl,r1,r3⟩
def D2:bu X (.builtin "abs") (λxs H Q=>∃i,xs=[.int i]/\Q (.int (if i<0 then -i else i)) H):=by
 intro pins s σ H xs us Q I r h;obtain⟨i,rfl,q⟩:=h;obtain⟨u,rfl,t,rfl⟩:=ko r;exact call_abs_int λu tk=>⟨.int (if i<0 then -i else i),H,I.tok _,⟨_,rfl⟩,q⟩
def EN(hc:X.calm=true):bu X (.builtin "max") (λxs H Q=>∃i j,xs=[.int i,.int j]/\Q (.int (if j > i then j else i)) H):=by
 intro pins s σ H xs us Q I r h;obtain⟨i,j,rfl,q⟩:=h;obtain⟨u,w',rfl,⟨t,rfl⟩,⟨t',rfl⟩⟩:=oW r;refine max_two_ints (I.ok.hd hc) λh' tk k=>⟨_,H,I.kept k,?_,q⟩;by_cases hj:j > i
 .rw[Ka hj,Ka hj];exact⟨_,rfl⟩
 .rw[Kb hj,Kb hj];exact⟨_,rfl⟩
def EM:bu X (.type "int") (λxs H Q=>(∃i,xs=[.int i]/\Q (.int i) H)\/∃k,xs=[.bl k]/\Q (.int (if k then 1 else 0)) H):=by
 intro pins s σ H xs us Q I r h;rcases h with⟨i,rfl,q⟩|⟨k,rfl,q⟩
 .obtain ⟨u,rfl,t,rfl⟩:=ko r;exact call_int_int ⟨.int i,H,I,⟨_,rfl⟩,q⟩
 .obtain ⟨u,rfl,r1⟩:=ko r;cases r1;exact call_int_bool ⟨.int (if k then 1 else 0),H,I.tok _,⟨_,rfl⟩,q⟩
end
section
variable{X:Cx}{pins:List (Addr×Obj)}{σ:St}{H:Hp}{s:Shared}{A:HY}{E:Value->Shared->Prop}{Q:Value->Shared->Prop}{c:Value}{b:Bool}
inductive dD(K:Qb)(H:Hp):V->Value->Prop where
 |non:dD K H .non (.type "NoneType")
 |bl (x:Bool):dD K H (.bl x) (.type "bool")
 |int (i:Int):dD K H (.int i) (.type "int")
 |str (x:Str):dD K H (.str x) (.type "str")
 |lst {a:Addr}{xs:List V}(e:H a=some (.lst xs)):dD K H (.ref a) (.type "list")
def xQ (I:Inv X pins σ H s)(rx:RelV x u)(ty:dD X.K H x t)(e:QN X.K t c=some b)(h:∀tk,Q (.bool b) {s with toks:=tk}):
  Ic (Ie X.prog X.w) A (call (.builtin "isinstance") [u,c]) Q E s:=by
 cases ty with
 |non=>cases(show u=Value.none from rx);exact WN PySem.W.kitx_none I.kIn True.intro e (λz=>nomatch z) h
 |bl y=>cases(show u=Value.bool y from rx);exact WN PySem.W.kitx_bool I.kIn True.intro e (λz=>nomatch z) h
 |int i=>obtain⟨t,q⟩:=(show ∃t,u=Value.int i t from rx);cases q;exact WN PySem.W.kitx_int I.kIn True.intro e (λz=>nomatch z) h
 |str y=>obtain⟨t,q⟩:=(show ∃t,u=Value.str y t from rx);cases q;exact WN PySem.W.kitx_str I.kIn True.intro e (λz=>nomatch z) h
 |@lst a xs ea=>
  cases(show u=Value.ref a from rx);obtain⟨_,_,n,_,h1⟩:=(show br X.prog X.w H s.heap a (.lst xs)from I.hok a _ ea);exact WN PySem.W.kitx_list I.kIn ⟨_,h1,rfl⟩ e (λz=>nomatch z) h
end
structure bP(k:Nat)(A:HY):Prop where
 hd:A.handled=none
 dp:A.depth+3*k+5<recursionLimit
 un:A.units+16*k+200<IL
theorem bP.deeper{k:Nat}{A:HY}(r:bP (k+1) A)(env:Env):bP k (A.deeper env):=
 ⟨r.hd,by have:=r.dp;show A.depth+1+3*k+5<_;lia,by have:=r.un;show A.units+3+16*k+200<_;lia⟩
theorem bP.depth (r:bP k A):A.depth<recursionLimit:=by have:=r.dp;lia
theorem bP.units (r:bP k A):A.units+64<IL:=by have:=r.un;lia
noncomputable def fZ:TA:=λ_ H Q=>Q [] H
noncomputable def kO(ta:TE)(tr:TA):TA:=λσ H Q=>ta σ H λx H1=>tr σ H1 λxs H2=>Q (x::xs) H2
section
variable{X:Cx}{e:Expr}{es:List Expr}{te:TE}{t:TA}{pos:Pos}
def yo:PA X [] fZ:=λ_ _ _ _ H Q I h=>Calls.spliced_nil ⟨[],H,I,.nil,h⟩
def zB(ha:PE X e te)(hr:PA X es t)(hs:Ih (e::es) X.env=(false,eval e X.env)::Ih es X.env:=by rfl):PA X (e::es) (kO te t):=by
 intro pos pins s σ H Q I h;rw[hs];show Ic _ _ (spliced ((false,eval e X.env)::Ig pos (Ih es X.env))) _ _ s;refine Calls.spliced_cons (aT (ha pins s σ H _ I h) λu s1 ⟨x,H1,I1,r1,q1⟩=>?_);exact aT (hr pos pins s1 σ H1 _ I1 q1) λus s2 ⟨xs,H2,I2,r2,q2⟩=>⟨x::xs,H2,I2,.cons r1 r2,q2⟩
noncomputable def nU(t:TA):TE:=λσ H Q=>t σ H λxs H1=>xs.length<=sizeLine/\∀p,H1 p=none->Q (.ref p) (aI H1 p (.tup xs))
noncomputable def mI(t:TA):TE:=λσ H Q=>t σ H λxs H1=>xs.length<=sizeLine/\∀p,H1 p=none->Q (.ref p) (aI H1 p (.lst xs))
def mi{x1}(h:PA X es t):PE X (.Tuple es x1 pos) (nU t):=by
 intro pins s σ H Q I hq;refine wpAny_Tuple_spliced (aT (h pos pins s σ H _ I hq) λus s1 ⟨xs,H1,I1,r,z,q⟩=>⟨by rw[<-r.length];exact z,?_⟩);have hf:H1 s1.heap.objs.size=none:=I1.hok.fresh (Qo _);refine⟨.ref s1.heap.objs.size,aI H1 s1.heap.objs.size (.tup xs),I1.laid (t':=s1.toks) (λb u e=>Qe _ e) (Qo _) ?_,rfl,q _ hf⟩;exact⟨z,us,r,⟨_,Qw _ rfl,rfl,_,rfl⟩⟩
def A4(h:PA X es t):PE X (.List es pos) (mI t):=by
 intro pins s σ H Q I hq;refine wpAny_List_spliced (aT (h pos pins s σ H _ I hq) λus s1 ⟨xs,H1,I1,r,z,q⟩=>⟨by rw[<-r.length];exact z,?_⟩);have hf:H1 s1.heap.objs.size=none:=I1.hok.fresh (Qo _);refine⟨.ref s1.heap.objs.size,aI H1 s1.heap.objs.size (.lst xs),I1.laid (t':=s1.toks) (λb u e=>Qe _ e) (Qo _) ?_,rfl,q _ hf⟩;exact⟨z,us,0,r,Qw _ rfl⟩
end
abbrev Sp:=List V->Hp->VK->XK->Prop
abbrev dQ:=List Env->Hp->Shared->XK->Value->Shared->Prop
structure eI(P:HS)(w:HU)(K:Qb)(mg:Str->Option Value)(base:HV)(A:HY)(outer:List Env)(s:Shared)(H:Hp):Prop where
 frames:A.frames=some outer
 mod:Mod K mg base
 bs:∀b o,base.get? b=some o->s.heap.get? b=some o/\H b=none
 bsz:base.objs.size<=s.heap.objs.size
 funs:s.heap.FunFrames base outer
 frf:∀b∈bG outer,H b=none
 hok:cj P w H s.heap
 bare:HZ s.gens
noncomputable def CE(outer:List Env)(P:HS)(w:HU)(H:Hp)(s:Shared)(Q:VK)(u:Value)(s':Shared):Prop:=
 ∃v H',s'.os=s.os/\HZ s'.gens/\Un (bG outer) [] H H' s.heap s'.heap/\cj P w H' s'.heap/\RelV v u/\Q v H'
noncomputable def CR(CX:dQ)(outer:List Env)(P:HS)(w:HU)(H:Hp)(s:Shared)(Q:VK)(E:XK)(r:IM)(s':Shared):Prop:=
 match r with
 |.ok (.ret u)=>CE outer P w H s Q u s'
 |.ok _=>False
 |.error e=>CX outer H s E e s'
structure bL(P:HS)(w:HU)(K:Qb)(mg:Str->Option Value)(base:HV)(CX:dQ)(k:Nat)(f:Addr)(fd:IN)(ps:List Str)(sp:Sp):Prop where
 len:∀vs H Q E,sp vs H Q E->vs.length=ps.length
 run:∀(A:HY) (outer:List Env) (s:Shared) (H:Hp) (args:Args) (us:List Value) (vs:List V) (Q:VK) (E:XK),bP k A->eI P w K mg base A outer s H->IP s fd args (ps.zip us)->aw vs us->sp vs H Q E ->
  IQ (Ie P w) A (.call (.ref f) args) (CR CX outer P w H s Q E) s
section
variable{X:Cx}{pins:List (Addr×Obj)}{σ:St}{H:Hp}{s s':Shared}
def Inv.env0(I:Inv X pins σ H s):eI X.prog X.w X.K X.mg X.base X.A X.stack s H:=
 ⟨I.ok.frames,I.ok.mod,I.bs,QD I.ok.bsz I.sz,I.stack,I.stkFree,I.hok,I.bare⟩
def Inv.after (I:Inv X pins σ H s)(h:CE X.stack X.prog X.w H s Q u s'):EP X pins σ Q u s':=by
 obtain⟨v,H',os,bare,un,hok,r,q⟩:=h;obtain⟨hh,g,d,t,os'⟩:=s';obtain rfl:os'=s.os:=os;exact⟨v,H',I.call (h':=hh) (g':=g) (d':=d) (t':=t) (ch:=[]) un hok bare (λb z=>Kc z (by simp)),r,q⟩
end
noncomputable def uv(sp:Sp)(dvs:List V)(E:XK)(t:TA):TE:=λσ H Q=>t σ H λvs H1=>sp (vs++dvs) H1 Q E
noncomputable def Binds(K:Qb)(fd:IN)(ps:List Str)(ds:List Value):Prop:=
 ∀(s:Shared) (us:List Value),K.In s.heap->(us++ds).length=ps.length->IP s fd ⟨us,[]⟩ (ps.zip (us++ds))
def Binds.all{K:Qb}{fd:IN}{ps:List Str}(h:∀us:List Value,us.length=ps.length->bindArgs fd ⟨us,[]⟩=pure (ps.zip us)):Binds K fd ps []:=λs us _ hl=>by
 rw[QV]at hl ⊢;exact .of_eq (h us hl)
noncomputable def kP(CX:dQ)(X:Cx)(E:XK):Prop:=∀(pins:List (Addr×Obj)) (σ:St) (H:Hp) (s:Shared) (e:Value) (s':Shared),Inv X pins σ H s->CX X.stack H s E e s'->X.xe e s'
section
variable{X:Cx}{CX:dQ}{k:Nat}{f:Addr}{fd:IN}{ps:List Str}{sp:Sp}{dvs:List V}{ds:List Value}{E:XK}{x:Str}{p pos:Pos}{e:Expr}{es:List Expr}{t:TA}
def AZ (F:bL X.prog X.w X.K X.mg X.base CX k f fd ps sp)(hr:bP k X.A)(hb:Binds X.K fd ps ds)(hd:aw dvs ds)(hx:kP CX X E)(I:Inv X pins σ H s)(r:aw vs us)(h:sp (vs++dvs) H Q E):Ic (Ie X.prog X.w) X.A (call (.ref f) us) (EP X pins σ Q) X.xe s:=by
 have r2:aw (vs++dvs) (us++ds):=r.append hd;have hl:(us++ds).length=ps.length:=by rw[<-r2.length];exact F.len _ _ _ _ h
 refine wpAny_call (IR (F.run X.A X.stack s H ⟨us,[]⟩ (us++ds) (vs++dvs) Q E hr I.env0 (hb s us I.kIn hl) r2 h) λr s' hq=>?_);cases r with
 |error e=>exact hx pins σ H s e s' I hq
 |ok fl=>
  cases fl with
  |ret u=>exact I.after hq
  |next=>exact False.elim hq
  |brk=>exact False.elim hq
  |cont=>exact False.elim hq
def C7(F:bL X.prog X.w X.K X.mg X.base CX k f fd ps sp)(hr:bP k X.A)(hg:Gl X x)(hm:X.mg x=some (.ref f))(hk:Wh X.K (.ref f)=true)(hb:Binds X.K fd ps ds)(hd:aw dvs ds)(hx:kP CX X E)
  (ha:PA X (e::es) t) (hdb:(x==("__debug__":Str))=false:=by decide) (he:Ih (e::es) X.env=(false,eval e X.env)::Ih es X.env:=by rfl) (hpl:(Ig pos (Ih es X.env)).any (·.1)=false:=by rfl) :
  PE X (.Call (.Name x p) (e::es) [] pos) (uv sp dvs E t):=by
 intro pins s σ H Q I h;refine IS (kE I hg hm ?_ hdb);refine PySem.W.callWith_K (h₀:=X.base) I.ok.mod.kin hk (aT (ha pos pins s σ H _ I h) λus s1 ⟨vs,H1,I1,r,q⟩=>⟨I1.kIn,?_⟩) he hpl;exact AZ F hr hb hd hx I1 r q
end
structure cz(N P:List Str)(sc:HP):Prop where
 kind:sc.kind=.function
 co:sc.isCoroutine=false
 gen:sc.isGenerator=false
 nd:N.Nodup
 pre:N.take P.length=P
 par:∀x∈P,sc.names.lookup x=some .local\/sc.names.lookup x=some .cell
 nofree:∀y∈sc.names,y.2≠.free
theorem jK {kindOf:Str->Option IT}:∀{binds:List (Str×Value)}{m:Str->Option Value},(∀v,(x,v)∉binds)->IU kindOf binds m x=m x
 |[],_,_=>rfl
 |(n,v)::r,m,h=>by
  unfold IU;rw[jK λw hw=>h w (Qp _ hw)];split
  .have:x≠n:=by rintro rfl;exact h v QQ
   simp[this]
  .rfl
theorem jL {kindOf:Str->Option IT}:∀{binds:List (Str×Value)}{m:Str->Option Value},(∀v,(x,v)∉binds)->IV kindOf binds m x=m x
 |[],_,_=>rfl
 |(n,v)::r,m,h=>by
  unfold IV;rw[jL λw hw=>h w (Qp _ hw)];split
  .rfl
  .have:x≠n:=by rintro rfl;exact h v QQ
   simp[this]
theorem jM {kindOf:Str->Option IT}:∀{P:List Str}{vs:List Value}{i:Nat}{m:Str->Option Value},P.Nodup->P[i]?=some x->vs[i]?=some v->kindOf x=some .local ->
  IU kindOf (P.zip vs) m x=some v
 |[],_,_,_,_,h,_,_=>by simp at h
 |_::_,[],_,_,_,_,h,_=>by simp at h
 |p::P,w::vs,0,m,nd,h1,h2,hk=>by
  simp at h1 h2;subst h1;subst h2;show IU kindOf ((p,w)::P.zip vs) m p=_;unfold IU;rw[jK λv hv=>(QS.mp nd).1 (VX hv).1,Ka hk];simp
 |p::P,w::vs,i+1,m,nd,h1,h2,hk=>by
  show IU kindOf ((p,w)::P.zip vs) m x=_;unfold IU;exact jM (i:=i) (QS.mp nd).2 (by simpa using h1) (by simpa using h2) hk
theorem jN {kindOf:Str->Option IT}:∀{P:List Str}{vs:List Value}{i:Nat}{m:Str->Option Value},P.Nodup->P[i]?=some x->vs[i]?=some v->kindOf x≠some .local ->
  IV kindOf (P.zip vs) m x=some v
 |[],_,_,_,_,h,_,_=>by simp at h
 |_::_,[],_,_,_,_,h,_=>by simp at h
 |p::P,w::vs,0,m,nd,h1,h2,hk=>by
  simp at h1 h2;subst h1;subst h2;show IV kindOf ((p,w)::P.zip vs) m p=_;unfold IV;rw[jL λv hv=>(QS.mp nd).1 (VX hv).1,Kb hk];simp
 |p::P,w::vs,i+1,m,nd,h1,h2,hk=>by
  show IV kindOf ((p,w)::P.zip vs) m x=_;unfold IV;exact jN (i:=i) (QS.mp nd).2 (by simpa using h1) (by simpa using h2) hk
noncomputable def start(N:List Str)(vs:List V):St:=vs.map some++Qz (N.length-vs.length) none
noncomputable def vn(CX:dQ)(P:HS)(w:HU)(K:Qb)(mg:Str->Option Value)(base:HV)(N:List Str)(qual:Str)(scope:HP)(f:Addr)(cd:Value)(A:HY)(outer:List Env)(s:Shared)(H:Hp)(E:XK):Cx where
 prog:=P
 w:=w
 K:=K
 mg:=mg
 base:=base
 A:=A.deeper (envOfC qual scope s.heap.objs.size f cd)
 N:=N
 s₀:=s
 H₀:=H
 env:=envOfC qual scope s.heap.objs.size f cd
 outer:=outer
 stack:=envOfC qual scope s.heap.objs.size f cd::outer
 ex:=[]
 calm:=true
 fn:=λ_=>true
 pn:=[]
 xe:=λe s'=>Ic (Ie P w) (A.deeper (envOfC qual scope s.heap.objs.size f cd)) (leaving (envOfC qual scope s.heap.objs.size f cd) e) (λ_ s''=>CX outer H s E e s'') (λe' s''=>CX outer H s E e' s'') s'
def ql {sc:HP}(h:sc.names.lookup x=some .cell):∃c,(IW n sc.names []).lookup x=some c:=by
 have q:=Vs sc.names n [] (.inl h);exact W2.mp q
def EL {K:Qb}(S:cz N ps scope)(hd:A.handled=none)(e0:eI P w K mg base A outer s H)(hl:vs.length=ps.length)(r:aw vs us)(x:InCallC s s.heap.objs.size (IU (envOfC qual scope s.heap.objs.size f cd).kindOf (ps.zip us) λ_=>none) (IW (s.heap.objs.size+1) scope.names []) (IV (envOfC qual scope s.heap.objs.size f cd).kindOf (ps.zip us) λ_=>none) s1):
  Inv (vn CX P w K mg base N qual scope f cd A outer s H E) [] (start N vs) H s1:=by
 have hpl:ps.length<=N.length:=by have:=Ke List.length S.pre;rw[QU]at this;lia
 obtain⟨h1,tk,rfl,hk⟩:=x.done;have noA:∀b:Addr,b∉(vn CX P w K mg base N qual scope f cd A outer s H E).ex:=λb z=>Kc (show b∈([]:List Addr)from z) (by simp);refine⟨⟨e0.mod,S.kind,rfl,rfl,Qo _,λy z c h1 h2=>?_,λy hy=>?_,λy c _ h=>?_,λ_=>hd,Around.frames_deeper e0.frames,.inr ⟨rfl,rfl⟩,λb z=>Kc z (noA b),e0.bs,e0.bsz,λb _ _=>noA b,λb z=>Kc z (noA b),e0.funs,e0.frf⟩,
  rfl,e0.bare,Un.kept hk,⟨_,x.toInCall.ns,λi y v h1 h2 h3=>?_⟩,λy c h=>⟨_,x.cell y c h⟩,e0.hok.fresh (Qo _),λy c h=>?_,λp hp=>Kc (show p∈([]:List (Addr×Obj))from hp) (by simp),e0.hok.kept hk,?_⟩
 .exact name_of_addr x.apart (PySem.mem_of_lookup h1) (PySem.mem_of_lookup h2)
 .have hy:scope.names.lookup y=some .cell\/scope.names.lookup y=some .free:=hy;rcases hy with hy|hy
  .exact ql hy
  .exact Kc rfl (S.nofree _ (PySem.mem_of_lookup hy))
 .exact VD (x.above y c (PySem.mem_of_lookup h))
 .have hi:i<vs.length:=by
   unfold start at h2;by_cases hi:i<vs.length
   .exact hi
   .rw[Qd (by simpa using hi)]at h2;rw[Va]at h2;split at h2<;>cases h2
  have ha:vs[i]?=some v:=by
   unfold start at h2;rw[Qi (by simpa using hi),Ql]at h2;cases e:vs[i]? with
   |none=>rw[e]at h2;cases h2
   |some a=>rw[e]at h2;cases h2;rfl
  obtain⟨u,hu,rv⟩:=r.get ha;have hp:ps[i]?=some y:=by
   rw[<-S.pre,Qs (by lia)];exact h1
  have ndP:ps.Nodup:=by rw[<-S.pre];exact S.nd.sublist (Wo _ _)
  refine⟨u,rv,?_⟩;rcases S.par y (Qt hp)with k|k
  .exact .inl ⟨k,jM ndP hp hu k⟩
  .obtain ⟨c,e⟩:=ql (n:=s.heap.objs.size+1) k;refine .inr ⟨.inl k,c,e,?_⟩;have q:=x.cell y c e;rw[jN ndP hp hu (by show scope.names.lookup y≠_;rw[k];decide)]at q;exact q
 .exact e0.hok.fresh (VD (x.above y c (PySem.mem_of_lookup h)))
 .unfold start;show _=N.length;rw[QC,Qv,List.length_replicate];lia
set_option tactic.hygienic true in
def oV {K:Qb}{kV:Value}(lk:K.lookup f=some ⟨oc,od,.func (WX name qual params body scope dV kV doc pm an cdv ct),osl⟩)(hcd:VC K cdv qual=true)(S:cz N ps scope)(len:∀vs H Q E,sp vs H Q E->vs.length=ps.length)(hbody:∀(A:HY) (outer:List Env) (s:Shared) (H:Hp) (vs:List V) (Q:VK) (E:XK),bP k (A.deeper (envOfC qual scope s.heap.objs.size f cdv))->sp vs H Q E ->
   ∃t,bZ (vn CX P w K mg base N qual scope f cdv A outer s H E) body t/\t {nx:=λ_ H'=>Q .non H',rt:=Q} (start N vs) H):
  bL P w K mg base CX (k+1) f (WX name qual params body scope dV kV doc pm an cdv ct) ps sp:=by
 refine⟨len,λA outer s H args us vs Q E hr e0 hb r hsp=>?_⟩;have hl:=len _ _ _ _ hsp;have KX:K.In s.heap:=e0.mod.kin.keeps λb o e=>(e0.bs b o e).1;have av:s.heap.NoLimit:=e0.mod.nolimit.keeps λb o e=>(e0.bs b o e).1;have hkind:∀y∈ps.zip us,scope.names.lookup y.1=some .local\/(scope.names.lookup y.1=some .cell/\((IW (s.heap.objs.size+1) scope.names []).lookup y.1).isSome=true):=λ⟨n,v⟩ hy=>by
  rcases S.par n (VX hy).1 with q|q
  .exact .inl q
  .exact .inr ⟨q,Vs _ _ _ (.inl q)⟩
 refine codeAny_call_function hr.depth (KX _ _ lk) rfl S.co S.gen rfl (PySem.W.codeRec_of KX hcd) (hb _ _ _ _ ?_);refine wpAny_newFunctionEnv_cells S.kind hkind λenv he s1 x=>?_;subst he;refine⟨av.keeps x.toInCall.keep,codeAny_func ?_⟩;obtain⟨t,ht,hq⟩:=hbody A outer s H vs Q E (hr.deeper _) hsp;have I:Inv (vn CX P w K mg base N qual scope f cdv A outer s H E) [] (start N vs) H s1:=EL S hr.hd e0 hl r x;refine Ii (ht [] s1 (start N vs) H _ I hq) (λfl s' hs=>?_) λe s' hs=>hs;have fin:∀{σ':St}{H':Hp}{v:V}{u:Value},Inv (vn CX P w K mg base N qual scope f cdv A outer s H E) [] σ' H' s'->RelV v u->Q v H'->CE outer P w H s Q u s':=
  λ{σ' H' v u} J rv q=>⟨v,H',J.os,J.bare,J.base,J.hok,rv,q⟩
 cases fl with
 |ret u=>
  obtain⟨v,σ',H',J,rv,q⟩:=hs;exact fin J rv q
 |next=>
  obtain⟨σ',H',J,q⟩:=hs;exact fin (v:=V.non) (u:=Value.none) J rfl q
 |brk=>
  obtain⟨_,_,_,q⟩:=hs;exact False.elim q
 |cont=>
  obtain⟨_,_,_,q⟩:=hs;exact False.elim q
section
variable{X:Cx}{x:Str}{p pos:Pos}{e:Expr}{es:List Expr}{t:TA}{id T:String}{r:List V->Hp->VK->Prop}
noncomputable def mM(r:List V->Hp->VK->Prop)(t:TA):TE:=λσ H Q=>t σ H λvs H1=>r vs H1 Q
def yB(hc:bu X (.builtin id) r)(hg:Gl X x)(hm:X.mg x=none)(hv:HX x=some (.builtin id))(ha:PA X (e::es) t)(hn:x ≠ "__name__":=by decide)(hdb:(x==("__debug__":Str))=false:=by decide)
  (he:Ih (e::es) X.env=(false,eval e X.env)::Ih es X.env:=by rfl) (hpl:(Ig pos (Ih es X.env)).any (·.1)=false:=by rfl):PE X (.Call (.Name x p) (e::es) [] pos) (mM r t):=by
 intro pins s σ H Q I h;refine IS (xf I hg hm hv ?_ hn hdb);exact PyProof.Rows.callWith_builtin1 (aT (ha pos pins s σ H _ I h) λus s1 ⟨vs,H1,I1,r1,q1⟩=>hc pins s1 σ H1 vs us Q I1 r1 q1) he hpl
def jO(hc:bu X (.type T) r)(hg:Gl X x)(hm:X.mg x=none)(hv:HX x=some (.type T))(ha:PA X (e::es) t)(hn:x ≠ "__name__":=by decide)(hdb:(x==("__debug__":Str))=false:=by decide)
  (he:Ih (e::es) X.env=(false,eval e X.env)::Ih es X.env:=by rfl) (hpl:(Ig pos (Ih es X.env)).any (·.1)=false:=by rfl):PE X (.Call (.Name x p) (e::es) [] pos) (mM r t):=by
 intro pins s σ H Q I h;refine IS (xf I hg hm hv ?_ hn hdb);exact PyProof.Rows.callWith_type1 (aT (ha pos pins s σ H _ I h) λus s1 ⟨vs,H1,I1,r1,q1⟩=>hc pins s1 σ H1 vs us Q I1 r1 q1) he hpl
end
end L2
namespace HT
open PySem PyProof.Rows
noncomputable def lexLt:List Int->List Int->Bool
 |[],[]=>false
 |[],_::_=>true
 |_::_,[]=>false
 |x::xs,y::ys=>if x=y then lexLt xs ys else decide (x<y)
def bi(x y:Int)(xs ys:List Int):lexLt (x::xs) (y::ys)=if x=y then lexLt xs ys else decide (x<y):=rfl
def dH(A:HY)(s:Shared)(a:Int)(t:Tok)(c:Int)(u:Tok)(prog:HS)(w:HU)(E:Value->Shared->Prop)(Q:Value->Shared->Prop)(h:Q (.bool (decide (a<c))) s):
  Ic (Ie prog w) A (richCompare .Lt (.int a t) (.int c u)) Q E s:=
 (PyProof.Rows.lt_int h:Ic (Ie prog w) A (Ik .Lt (.int a t) (.int c u)) Q E s)
section
variable{prog:HS}{w:HU}{A:HY}{E:Value->Shared->Prop}{s:Shared}
def eA (ht:IsTup s.heap t vs.toArray)(hb:IsTup s.heap b ws.toArray)(hv:vs≠[])(h1:ws=[]->Q (.ref t) s)(h2:ws≠[]->Q (.ref s.heap.objs.size) {s with heap:=s.heap.push {cls:=.type "tuple",data:=.seq (vs++ws).toArray} })(hsz:vs.length+ws.length<=sizeLine):Ic (Ie prog w) A (IJ .Add (.ref t) (.ref b)) Q E s:=by
 obtain⟨⟨cls,dd,data,sl⟩,ho,hc,n,hd⟩:=id ht;obtain⟨⟨cls2,dd2,data2,sl2⟩,ho2,hc2,n2,hd2⟩:=id hb;simp only at hc hd hc2 hd2;subst hc hd hc2 hd2;have e:vs.toArray++ws.toArray=(vs++ws).toArray:=by simp
 by_cases hw:ws=[]
 .exact IX ⟨_,ho,rfl⟩ ⟨_,ho2,rfl⟩ IY IZ PySem.F.slot_tuple_add PySem.F.entry_tuple_add (PySem.F.args_tuple_add_2 _ _)
   (tuple_addW1 t b vs.toArray ws.toArray n n2 dd dd2 sl sl2 (by simpa using hv) (by simp[hw])) ⟨ho,ho2,h1 hw⟩
 .refine IX ⟨_,ho,rfl⟩ ⟨_,ho2,rfl⟩ IY IZ PySem.F.slot_tuple_add PySem.F.entry_tuple_add (PySem.F.args_tuple_add_2 _ _)
   (tuple_addW2 t b vs.toArray ws.toArray n n2 dd dd2 sl sl2 (by simpa using hv) (by simpa using hw) (by rw[QK,QK];exact hsz)) ⟨ho,ho2,?_⟩
  rw[e];exact h2 hw
noncomputable def F9(n d:Nat):Option Int->Nat
 |none=>d
 |some v=>if v<0 then(v+(n:Int)).toNat else min v.toNat n
end
end HT
namespace L2
open PySem PySem.Spec PyProof.Rows
abbrev TO:=St->Hp->(Option Int->Hp->Prop)->Prop
section
variable{X:Cx}{p2:Pos}
noncomputable def oU(K:Qb):R2:=λx y H Q=>∃a b xs ys,x=.ref a/\y=.ref b/\bN K H a xs/\bN K H b ys/\xs≠[]/\xs.length+ys.length<=sizeLine /\
 (ys=[]->Q (.ref a) H)/\(ys≠[]->∀p,H p=none->Q (.ref p) (aI H p (.tup (xs++ys))))
def aw.nil_iff (r:aw xs us):us=[]↔xs=[]:=by
 cases r with
 |nil=>simp
 |cons _ _=>simp
def ee:cb X (IJ .Add) (oU X.K):=by
 intro pins s σ H x y v u Q I rx ry h;obtain⟨a,b,xs,ys,rfl,rfl,ha,hb,hx,hz,q1,q2⟩:=h;cases rx;cases ry;obtain⟨its,r1,p1,_⟩:=I.tuple ha;obtain⟨its2,r2,p2,_⟩:=I.tuple hb;refine HT.eA p1 p2 (λz=>hx (r1.nil_iff.mp z)) (λz=>⟨.ref a,H,I,rfl,q1 (r2.nil_iff.mp z)⟩) (λz=>?_) (by rw[<-r1.length,<-r2.length];exact hz);refine⟨.ref s.heap.objs.size,_,I.laid (t':=s.toks) (o:=.tup (xs++ys)) (λb ob q=>Qe _ q) (Qo _) ?_,rfl,q2 (λw=>z (r2.nil_iff.mpr w)) _ (I.hok.fresh (Qo _))⟩;exact⟨by rw[QC];exact hz,_,r1.append r2,IsTup.new _ _⟩
end
noncomputable def fL(n:Nat)(i:Int):Option Nat:=if 0<=i then(if i<n then some i.toNat else none)else if -(n:Int)<=i then some (i+n).toNat else none
noncomputable def fk{α:Type}(xs:List α)(i:Int):Option α:=(fL xs.length i).bind λj=>xs[j]?
def rZ (h:fL n i=some j):seqIndex? i n=some j/\j<n/\-(n:Int)<=i/\i<n:=by
 unfold fL at h;by_cases h0:0<=i
 .rw[Ka h0]at h;by_cases h1:i<n
  .rw[Ka h1]at h;have e:i.toNat=j:=Option.some.inj h;exact⟨by rw[Ja h0 h1,e],by lia,by lia,h1⟩
  .rw[Kb h1]at h;cases h
 .rw[Kb h0]at h;by_cases h1:-(n:Int)<=i
  .rw[Ka h1]at h;have e:(i+n).toNat=j:=Option.some.inj h;exact⟨by rw[Jb (by lia) h1,e],by lia,h1,by lia⟩
  .rw[Kb h1]at h;cases h
def gp (h:fk xs i=some v):∃j,seqIndex? i xs.length=some j/\xs[j]?=some v/\j<xs.length/\-(xs.length:Int)<=i/\i<xs.length:=by
 unfold fk at h;cases e:fL xs.length i with
 |none=>rw[e]at h;cases h
 |some j=>
  rw[e]at h;obtain⟨h1,h2,h3,h4⟩:=rZ e;exact⟨j,h1,h,h2,h3,h4⟩
noncomputable def rY(b:Expr):Prop:=∀o i,subscripted b false o i=operate [o,i] (getItem o i)
noncomputable def eE(X:Cx)(r:R2):Prop:=
 ∀(value slice:Expr) (pins:List (Addr×Obj)) (s:Shared) (σ:St) (H:Hp) (x y:V) (v u:Value) (Q:VK),Inv X pins σ H s->RelV x v->RelV y u->r x y H Q ->
  subscripted slice false v u=operate [v,u] (getItem v u)->Ic (Ie X.prog X.w) X.A (subscriptTail value slice v u) (EP X pins σ Q) X.xe s
noncomputable def nF(X:Cx)(id:String)(r:V->List V->Hp->VK->Prop):Prop:=
 ∀(pins:List (Addr×Obj)) (s:Shared) (σ:St) (H:Hp) (x:V) (xs:List V) (v:Value) (us:List Value) (Q:VK),Inv X pins σ H s->RelV x v->aw xs us->r x xs H Q ->
  Ic (Ie X.prog X.w) X.A (call (.builtin id) (v::us)) (EP X pins σ Q) X.xe s
section
variable{X:Cx}{a b:Expr}{ta tb:TE}{pos:Pos}
def eE.or{r r':R2}(h:eE X r)(h':eE X r'):eE X (λx y H Q=>r x y H Q\/r' x y H Q):=by
 intro value slice pins s σ H x y v u Q I rx ry q hs;rcases q with q|q
 .exact h value slice pins s σ H x y v u Q I rx ry q hs
 .exact h' value slice pins s σ H x y v u Q I rx ry q hs
def uu (hr:eE X r)(ha:PE X a ta)(hb:PE X b tb)(hs:rY b):PE X (.Subscript a b pos) (ik r ta tb):=by
 intro pins s σ H Q I h;exact Subscript_ (lC ha hb I h λv u s2 x y H2 I2 rx ry q=>hr a b pins s2 σ H2 x y v u Q I2 rx ry q (hs _ _))
noncomputable def nT(K:Qb):R2:=λx y H Q=>∃p xs i v,x=.ref p/\y=.int i/\bp K H p xs/\fk xs i=some v/\Q v H
noncomputable def nS(K:Qb):R2:=λx y H Q=>∃p xs i v,x=.ref p/\y=.int i/\bN K H p xs/\fk xs i=some v/\Q v H
noncomputable def nR:R2:=λx y H Q=>∃z i c,x=.str z/\y=.int i/\z.length<=sizeLine/\fk z.cps.toList i=some c/\Q (.str ⟨#[c]⟩) H
def ef:eE X (nT X.K):=by
 intro value slice pins s σ H x y v u Q I rx ry h hs;obtain⟨p,xs,i,z,rfl,rfl,hq,he,q⟩:=h;cases rx;obtain⟨t,rfl⟩:=ry;obtain⟨its,r,pl,hz⟩:=I.list hq;obtain⟨j,h1,h2,h3,h4,h5⟩:=gp he;obtain⟨w,ew,rw'⟩:=r.get h2;have hl:=r.length;have hn:=kN;have fin:EP X pins σ Q w s:=⟨z,H,I,rw',q⟩;by_cases h0:0<=i
 .have hj:i.toNat=j:=by
   rw[Ja h0 h5]at h1;exact Option.some.inj h1
  exact item_listR pl.isList h0 (by lia) (by rw[hj];simpa using ew) fin hs
 .have hj:(i+(its.toArray.size:Int)).toNat=j:=by
   rw[Jb (by lia) h4]at h1;rw[QK,<-hl];exact Option.some.inj h1
  exact Jc (x:=w) pl.isList.typeIs slot_list_getitem.lookup
   (wpAny_getItem_list_neg (Q:=λr s'=>r=w/\EP X pins σ Q r s') pl.isList (by lia) (by rw[QK]<;>lia) (by lia) (by rw[hj];simpa using ew) ⟨rfl,fin⟩) hs
def fg:eE X (nS X.K):=by
 intro value slice pins s σ H x y v u Q I rx ry h hs;obtain⟨p,xs,i,z,rfl,rfl,hq,he,q⟩:=h;cases rx;obtain⟨t,rfl⟩:=ry;obtain⟨its,r,pl,hz⟩:=I.tuple hq;obtain⟨j,h1,h2,h3,h4,h5⟩:=gp he;obtain⟨w,ew,rw'⟩:=r.get h2;have hl:=r.length;have hn:=kN;have fin:EP X pins σ Q w s:=⟨z,H,I,rw',q⟩;exact Jc (x:=w) pl.typeIs slot_tuple_getitem.lookup
  (getItem_tuple (j:=j) (Q:=λr s'=>r=w/\EP X pins σ Q r s') pl (by lia) (by lia) (by rw[QK,<-hl];exact h1) (by simpa using ew) ⟨rfl,fin⟩) hs
def AY:eE X nR:=by
 intro value slice pins s σ H x y v u Q I rx ry h hs;obtain⟨z,i,c,rfl,rfl,hz,he,q⟩:=h;obtain⟨t,rfl⟩:=rx;obtain⟨t',rfl⟩:=ry;obtain⟨j,h1,h2,h3,h4,h5⟩:=gp he;have hl:z.cps.toList.length=z.length:=by simp[Str.length]
 rw[hl]at h1 h4 h5;have hn:=kN;exact tail_any (typeIs_str s z t) slot_str_getitem.lookup (getItem_str (c:=c) (by
  have e1:decide (i < -(2^63:Int))=false:=J9 (by lia);have e2:decide (i ≥ 2^63)=false:=J9 (by lia);rw[e1,e2,Bool.or_false]) (by rw[h1];simpa using h2) ⟨.str ⟨#[c]⟩,H,I.tok _,⟨_,rfl⟩,q⟩) hs
noncomputable def tO(K:Qb):R2:=λx y H Q=>nT K x y H Q\/nS K x y H Q\/nR x y H Q
def AX:eE X (tO X.K):=ef.or (fg.or AY)
def FW(its:List Value)(n j:Nat)(u:Value):Obj.mapSeq (·.setIfInBounds j u) {cls:=.type "list",data:=.seq its.toArray n}={cls:=.type "list",data:=.seq (its.set j u).toArray n}:=by
 simp[Obj.mapSeq]
theorem Inv.lst (I:Inv X pins σ H s)(h:H p=some (.lst xs)):
  ∃(its:List Value) (n:Nat),aw xs its/\s.heap.get? p=some {cls:=.type "list",data:=.seq its.toArray n}/\xs.length<=sizeLine:=by
 obtain⟨z,its,n,r,e⟩:=I.hok p _ h;exact⟨its,n,r,e,z⟩
def Inv.lstUpd{pins:List (Addr×Obj)}{σ:St}{H:Hp}{s:Shared}{p:Addr}{xs ys:List V}{its its':List Value}{n n':Nat}{f:Obj->Obj}(I:Inv X pins σ H s)(h:H p=some (.lst xs))
  (ho:s.heap.get? p=some {cls:=.type "list",data:=.seq its.toArray n}) (hf:f {cls:=.type "list",data:=.seq its.toArray n}={cls:=.type "list",data:=.seq its'.toArray n' }) (r:aw ys its') (hz:ys.length<=sizeLine) (t:Nat) :
  Inv X pins σ (aI H p (.lst ys)) {s with heap:=s.heap.update p f,toks:=t}:=by
 have e:(s.heap.update p f).get? p=some {cls:=.type "list",data:=.seq its'.toArray n' }:=by
  rw[VE f ho (by rw[hf]<;>rfl),hf]
 refine I.write (x:=p) (e:=p) (by rw[h];trivial) (.inl rfl) (λb u hb q=>(VB _ _ (Ne.symm hb)).trans q) ⟨_,e⟩ ?_;exact⟨hz,its',n',r,e⟩
noncomputable def lR:V->V->V->Hp->(Hp->Prop)->Prop:=λo i v H Q=>∃p xs k j,o=.ref p/\i=.int k/\H p=some (.lst xs)/\fL xs.length k=some j/\Q (aI H p (.lst (xs.set j v)))
def D1:nZ X lR:=by
 intro pins s σ H o i v ov iv u Q I ro ri rv h;obtain⟨p,xs,k,j,rfl,rfl,hp,hj,q⟩:=h;cases ro;obtain⟨t,rfl⟩:=ri;obtain⟨its,n,r,ho,hz⟩:=I.lst hp;obtain⟨h1,h2,h3,h4⟩:=rZ hj;have hl:=r.length;have hn:=kN;have I':Inv X pins σ (aI H p (.lst (xs.set j v))) {s with heap:=s.heap.update p (Obj.mapSeq (·.setIfInBounds j u))} :=
  I.lstUpd hp ho (FW its n j u) (r.set rv j) (by rw[WE];exact hz) s.toks
 by_cases h0:0<=k
 .have hk:k.toNat=j:=by
   rw[Ja h0 h4]at h1;exact Option.some.inj h1
  exact PySem.W.ki_setAt ho h0 (by lia) (by rw[QK,<-hl];exact h4) (by rw[hk];exact⟨_,I',q⟩)
 .have hk:(k+(its.toArray.size:Int)).toNat=j:=by
   rw[Jb (by lia) h3]at h1;rw[QK,<-hl];exact Option.some.inj h1
  exact PySem.W.ki_setBack ho (by lia) (by rw[QK,<-hl];exact h3) (by lia) (by rw[hk];exact⟨_,I',q⟩)
def gq:bu X (.builtin "len") (λxs H Q=>∃p ys,xs=[.ref p]/\(bp X.K H p ys\/bN X.K H p ys)/\Q (.int ys.length) H):=by
 intro pins s σ H xs us Q I r h;obtain⟨p,ys,rfl,hq,q⟩:=h;obtain⟨u,rfl,rx⟩:=ko r;cases rx;have hn:=kN;rcases hq with hq|hq
 .obtain ⟨its,r',pl,hz⟩:=I.list hq;have hlen:=r'.length;exact Calls.call_len_list pl.isList (by simp only[QK]<;>lia) ⟨.int ys.length,H,I.tok _,⟨s.toks+1,by rw[QK,hlen]⟩,q⟩
 .obtain ⟨its,r',pl,hz⟩:=I.tuple hq;have hlen:=r'.length;exact len_tuple pl (by simp only[QK]<;>lia) ⟨.int ys.length,H,I.tok _,⟨s.toks+1,by rw[QK,hlen]⟩,q⟩
def gr:bu X (.type "list") (λxs H Q=>∃p ys,xs=[.ref p]/\(bp X.K H p ys\/bN X.K H p ys)/\∀l,H l=none->Q (.ref l) (aI H l (.lst ys))):=by
 intro pins s σ H xs us Q I r h;obtain⟨p,ys,rfl,hq,q⟩:=h;obtain⟨u,rfl,rx⟩:=ko r;cases rx;have fin:∀(its:List Value),aw ys its->ys.length<=sizeLine->∀(h':HV) (c':Nat),(∀b o',s.heap.get? b=some o'->h'.get? b=some o') ->
   h'.get? s.heap.objs.size=some {cls:=.type "list",dict:=none,data:=.seq its.toArray c',slots:=#[]}->EP X pins σ Q (.ref s.heap.objs.size) {s with heap:=h' }:=λits r' hz h' c' kp e=>
  ⟨.ref s.heap.objs.size,_,I.laid (t':=s.toks) kp (Qo _) (show br X.prog X.w _ h' _ (.lst ys)from⟨hz,its,c',r',e⟩),rfl,q _ (I.hok.fresh (Qo _))⟩
 rcases hq with hq|hq
 .obtain ⟨its,r',pl,hz⟩:=I.list hq;have hlen:=r'.length;obtain⟨o,ho,hc,n,hd⟩:=pl.isList;exact call_list_seq p (.inl rfl) ho hc hd (λh' c' kp e=>fin its r' hz h' c' kp e) (by simp only[QK]<;>lia)
 .obtain ⟨its,r',pl,hz⟩:=I.tuple hq;have hlen:=r'.length;obtain⟨o,ho,hc,n,hd⟩:=pl;exact call_list_seq p (.inr rfl) ho hc hd (λh' c' kp e=>fin its r' hz h' c' kp e) (by simp only[QK]<;>lia)
noncomputable def iM(K:Qb)(T:String)(x:V)(H:Hp):Prop:=match x with
 |.ref p=>T="list" /\ ∃xs,bp K H p xs
 |_=>False
def pX (I:Inv X pins σ H s)(r:RelV x v)(ty:iM X.K T x H):
  s.TypeIs v T/\∀a,v=.ref a->∃ob,s.heap.get? a=some ob/\ob.dict=none:=by
 cases x with
 |ref p=>
  cases r;obtain⟨rfl,xs,hq⟩:=ty;obtain⟨its,_,pl,_⟩:=I.list hq;refine⟨pl.isList.typeIs,λa e=>?_⟩;cases e;obtain⟨o,n,e,c,hd,_⟩:=pl;exact⟨o,e,hd⟩
 |_=>exact False.elim ty
noncomputable def mO(K:Qb)(T:String)(r:V->List V->Hp->VK->Prop)(to:TE):TE:=λσ H Q=>to σ H λx H1=>iM K T x H1/\r x [] H1 Q
noncomputable def F7(K:Qb)(T:String)(r:V->List V->Hp->VK->Prop)(to:TE)(t:TA):TE:=λσ H Q=>to σ H λx H1=>iM K T x H1/\t σ H1 λxs H2=>r x xs H2 Q
variable{o e:Expr}{es:List Expr}{to:TE}{t:TA}{name:Str}{apos cpos:Pos}{T id:String}{r:V->List V->Hp->VK->Prop}
def AW(pa:PlainAttrs T)(slot:Slot T name id)(hty:typeOf (.builtin id)=pure (.type "method_descriptor"))(hm:nF X id r)(ho:PE X o to)
  (hbase:Jd o name X.env (eval o X.env)=eval o X.env:=by rfl) (hline:(apos.endLine==cpos.line)=true:=by rfl):PE X (.Call (.Attribute o name apos) [] [] cpos) (mO X.K T r to):=by
 intro pins s σ H Q I h;refine wpAny_Call_method0_late hbase hline (aT (ho pins s σ H _ I h) λv s1 ⟨x,H1,I1,r1,ty,q1⟩=>?_);obtain⟨h1,h2⟩:=pX I1 r1 ty;exact⟨T,id,pa,slot,hty,h1,h2,Calls.callWith_builtin rfl (PySem.evalArgs_none (hm pins s1 σ H1 x [] v [] Q I1 r1 .nil q1))⟩
def ut(pa:PlainAttrs T)(slot:Slot T name id)(hty:typeOf (.builtin id)=pure (.type "method_descriptor"))(hm:nF X id r)(ho:PE X o to)(ha:PA X (e::es) t)
  (hbase:Jd o name X.env (eval o X.env)=eval o X.env:=by rfl)
  (hfew:((Ig cpos (Ih (e::es) X.env)).all (λx=>! x.1)&&(backToKw cpos (Je [] X.env)).all (λx=>x.1.isSome)
   && decide ((e::es).length+([]:List Jf).length+(if([]:List Jf).isEmpty then 0 else 1)<30))=true:=by rfl)
  (hline:(apos.endLine==cpos.line)=true:=by rfl) (hs:Ih (e::es) X.env=(false,eval e X.env)::Ih es X.env:=by rfl) (hplain:(Ig cpos (Ih es X.env)).any (·.1)=false:=by rfl) :
  PE X (.Call (.Attribute o name apos) (e::es) [] cpos) (F7 X.K T r to t):=by
 intro pins s σ H Q I h;refine wpAny_Call_method_late hbase hfew hline rfl (aT (ho pins s σ H _ I h) λv s1 ⟨x,H1,I1,r1,ty,q1⟩=>?_);obtain⟨h1,h2⟩:=pX I1 r1 ty;refine⟨T,id,pa,slot,hty,h1,h2,?_⟩;have hA:=ha cpos pins s1 σ H1 _ I1 q1;rw[hs]at hA ⊢;refine Calls.callWith_builtin (by show(false || (Ig cpos (Ih es X.env)).any (·.1))=false;rw[hplain]<;>rfl) (Calls.evalArgs_plain ?_);exact aT hA λus s2 ⟨vs,H2,I2,r2,q2⟩=>hm pins s2 σ H2 x vs v us Q I2 r1 r2 q2
end
noncomputable def t7(X:Cx)(id:String)(r:V->List V->Hp->VK->Prop):Prop:=
 ∀(pins:List (Addr×Obj)) (s:Shared) (σ:St) (H:Hp) (x:V) (xs:List V) (v:Value) (us:List Value) (Q:VK),Inv X pins σ H s->RelV x v->aw xs us->r x xs H Q ->
  Ic (Ie X.prog X.w) X.A (call (.builtin id) (v::us)) (EP X pins σ Q) X.xe s
def aw.one:∀{x:V}{us:List Value},aw [x] us->∃u,us=[u]/\RelV x u
 |_,_,.cons r .nil=>⟨_,rfl,r⟩
def aw.zero:∀{us:List Value},aw [] us->us=[]
 |_,.nil=>rfl
theorem aw.dropLast{xs:List V}{us:List Value}(h:aw xs us):aw xs.dropLast us.dropLast:=by
 induction h with
 |nil=>exact .nil
 |cons r t ih=>
  cases t with
  |nil=>exact .nil
  |cons q t'=>exact .cons r ih
theorem aw.eraseIdx:∀{xs:List V}{us:List Value}(i:Nat),aw xs us->aw (xs.eraseIdx i) (us.eraseIdx i)
 |_,_,_,.nil=>.nil
 |_,_,0,.cons _ t=>t
 |_,_,i+1,.cons r t=>.cons r (aw.eraseIdx i t)
theorem aw.reverse{xs:List V}{us:List Value}(h:aw xs us):aw xs.reverse us.reverse:=by
 induction h with
 |nil=>exact .nil
 |cons r t ih=>rw[Wp,Wp];exact aw.append ih (.cons r .nil)
theorem aw.rep (h:aw xs us):∀k:Nat,aw (Qz k xs).flatten (Qz k us).flatten
 |0=>.nil
 |k+1=>by
  rw[QW,QW,Wg,Wg];exact aw.append h (aw.rep h k)
theorem jP(its:List Value):∀(k:Nat) (acc:List Value),
  List.foldl (λx1 x2=>x1++x2) acc.toArray (Qz k its.toArray)=(acc++(Qz k its).flatten).toArray
 |0,acc=>by simp
 |k+1,acc=>by
  have e:acc.toArray++its.toArray=(acc++its).toArray:=by simp
  have e2:(acc++its)++(Qz k its).flatten=acc++(Qz (k+1) its).flatten:=by
   rw[QW,Wg,Qn]
  rw[<-e2,<-jP its k (acc++its),<-e,QW,List.foldl_cons]
section
variable{X:Cx}{pins:List (Addr×Obj)}{σ:St}{H:Hp}{s:Shared}{l:Addr}{xs ys:List V}
def Inv.lset{its its':List Value}{n:Nat}{f:Array Value->Array Value}{t':Nat}(I:Inv X pins σ H s)(hH:H l=some (.lst xs))
  (e:s.heap.get? l=some {cls:=.type "list",data:=.seq its.toArray n}) (hf:f its.toArray=its'.toArray) (hv:aw ys its') (hz:ys.length<=sizeLine) :
  Inv X pins σ (aI H l (.lst ys)) {s with heap:=s.heap.update l (Obj.mapSeq f),toks:=t' }:=by
 have q:=PySem.IsL.update e f;rw[hf]at q;refine I.write (x:=l) (e:=l) (by rw[hH];exact trivial) (.inl rfl) (λb' u hb hu=>(VB s.heap (Obj.mapSeq f) (Ne.symm hb)).trans hu) ⟨_,q⟩ ?_;exact⟨hz,its',_,hv,q⟩
def Inv.lnew{its:List Value}{t':Nat}(I:Inv X pins σ H s)(hv:aw ys its)(hz:ys.length<=sizeLine):
  Inv X pins σ (aI H s.heap.objs.size (.lst ys)) {s with heap:=s.heap.push {cls:=.type "list",data:=.seq its.toArray},toks:=t' } :=
 I.laid (λ_ _ q=>Qe _ q) (Qo _) ⟨hz,its,0,hv,Qw _ rfl⟩
theorem Inv.fresh(I:Inv X pins σ H s):H s.heap.objs.size=none:=I.hok.fresh (Qo _)
def Inv.lstM(I:Inv X pins σ H s)(hH:H l=some (.lst xs)):xs.length<=sizeLine/\∃(its:List Value) (n:Nat),aw xs its/\xs.length=its.length/\s.heap.get? l=some {cls:=.type "list",data:=.seq its.toArray n}:=by
 obtain⟨z,its,n,r,e⟩:=I.hok l _ hH;exact⟨z,its,n,r,r.length,e⟩
def D0 (h:n<=sizeLine):Builtin.List.listTooLong n=false:=by
 unfold Builtin.List.listTooLong;exact J9 (by lia)
end
section
variable{X:Cx}
noncomputable def C6:V->List V->Hp->VK->Prop:=λx vs H Q=>∃l xs y,x=.ref l/\vs=[y]/\H l=some (.lst xs)/\xs.length<sizeLine/\Q .non (aI H l (.lst (xs++[y])))
def jQ:t7 X "list.append" C6:=by
 intro pins s σ H x vs v us Q I rx rv h;obtain⟨l,xs,y,rfl,rfl,hH,hz,q⟩:=h;cases rx;obtain⟨u,rfl,ru⟩:=rv.one;obtain⟨z,its,n,r,hl,e⟩:=I.lstM hH;refine Jg F.slot_list_append ⟨_,e,rfl⟩ F.entry_list_append (F.args_list_append_2 _ _) (PySem.list_append l its.toArray n u (by rw[QK];lia)) ⟨e,?_⟩;refine⟨.non,_,I.lset (its':=its++[u]) hH e (by simp) (r.append (.cons ru .nil)) ?_,rfl,q⟩;rw[QC,List.length_singleton];lia
noncomputable def Gb:V->List V->Hp->VK->Prop:=λx vs H Q=>∃l xs y,x=.ref l/\vs=[]/\H l=some (.lst xs)/\xs[xs.length-1]?=some y/\Q y (aI H l (.lst xs.dropLast))
noncomputable def DZ:V->List V->Hp->VK->Prop:=λx vs H Q=>∃l xs,x=.ref l/\vs=[]/\H l=some (.lst xs)/\Q .non (aI H l (.lst xs.reverse))
def FV:t7 X "list.reverse" DZ:=by
 intro pins s σ H x vs v us Q I rx rv h;obtain⟨l,xs,rfl,rfl,hH,q⟩:=h;cases rx;have hus:=rv.zero;subst hus;obtain⟨z,its,n,r,hl,e⟩:=I.lstM hH;refine Jg F.slot_list_reverse ⟨_,e,rfl⟩ F.entry_list_reverse (F.args_list_reverse_1 _) (AutoSeq1.list_reverse_list_0 l its.toArray n (by rw[QK];lia)) ⟨e,?_⟩;refine⟨.non,_,I.lset (its':=its.reverse) hH e (by simp) r.reverse ?_,rfl,q⟩;rw[VI];lia
noncomputable def nQ:R2:=λx y H Q=>∃l b xs zs,x=.ref l/\y=.ref b/\H l=some (.lst xs)/\H b=some (.lst zs)/\xs.length+zs.length<=sizeLine/\∀p,H p=none->Q (.ref p) (aI H p (.lst (xs++zs)))
def fc:cb X (IJ .Add) nQ:=by
 intro pins s σ H x y v u Q I rx ry h;obtain⟨l,b,xs,zs,rfl,rfl,hH,hB,hz,q⟩:=h;cases rx;cases ry;obtain⟨z,its,n,r,hl,e⟩:=I.lstM hH;obtain⟨z2,its2,n2,r2,hl2,e2⟩:=I.lstM hB;refine PySem.P.add_list e e2 ?_ (by rw[QK,QK];lia);have ea:its.toArray++its2.toArray=(its++its2).toArray:=by simp
 rw[ea];exact⟨.ref _,_,I.lnew (t':=s.toks) (r.append r2) (by rw[QC];lia),rfl,q _ I.fresh⟩
noncomputable def nP:R2:=λx y H Q=>∃l k xs,x=.ref l/\y=.int k/\H l=some (.lst xs)/\-(2^63)<=k/\k<2^63/\xs.length*k.toNat<=sizeLine /\
 ∀p,H p=none->Q (.ref p) (aI H p (.lst (Qz k.toNat xs).flatten))
def rX{α:Type}(xs:List α)(k:Nat):(Qz k xs).flatten.length=k*xs.length:=by
 induction k with
 |zero=>simp
 |succ k ih=>rw[QW,Wg,QC,ih,Nat.succ_mul,Nat.add_comm]
def AV:cb X (IJ .Mult) nP:=by
 intro pins s σ H x y v u Q I rx ry h;obtain⟨l,k,xs,rfl,rfl,hH,h1,h2,hz,q⟩:=h;cases rx;obtain⟨t,rfl⟩:=ry;obtain⟨z,its,n,r,hl,e⟩:=I.lstM hH;have hlen:its.toArray.size*k.toNat<=sizeLine:=by rw[QK,<-hl];exact hz
 have hcap:¬its.toArray.size*k.toNat > (2^63-1)/8:=by
  have:(sizeLine:Nat)<=(2^63-1)/8:=by decide
  lia
 have hfit:¬(! Builtin.List.listFitsIndex k)=true:=by
  rw[fitsIndex_both h1 h2];exact QZ
 have hlong:¬Builtin.List.listTooLong (its.toArray.size*k.toNat)=true:=by
  rw[D0 hlen];exact QZ
 have hnew:List.foldl (λx1 x2=>x1++x2) #[] (Qz (if its.toArray.isEmpty=true then 0 else k.toNat) its.toArray)=(Qz k.toNat its).flatten.toArray:=by
  have f0:∀m:Nat,List.foldl (λx1 x2=>x1++x2) #[] (Qz m its.toArray)=(Qz m its).flatten.toArray:=λm=>by
   have:=jP its m [];rw[Wx]at this;exact this
  rw[f0];cases its with
  |nil=>simp
  |cons a r'=>rw[Kb (by simp)]
 refine wpAny_binaryOp_repeat_ref (T:="list") (U:="int") (by decide) ⟨_,e,rfl⟩ (λs'=>typeIs_int s' k t) noFill_list_mul F.fills_int_mul F.slot_int_rmul repeat_list F.slot_int_index.lookup
  (Jg F.slot_int_rmul (typeIs_int s k t) F.entry_int_rmul (F.args_int_rmul_2 _ _) (int___rmul___int_list k t l its.toArray n)
   ⟨e,rfl,⟨_,e,rfl⟩,Jg F.slot_list_mul ⟨_,e,rfl⟩ F.entry_list_mul (F.args_list_mul_2 _ _) (AutoListH.list___mul___list_int_3 l its.toArray n k t hfit hcap hlong) ⟨e,?_⟩⟩)
 rw[hnew];exact⟨.ref _,_,I.lnew (t':=s.toks) (r.rep k.toNat) (by rw[rX,Nat.mul_comm];exact hz),rfl,q _ I.fresh⟩
end
end L2
namespace Att
open PySem PySem.W PySem.Calls PyProof.Rows
def kC:∀(ns:List Int) (vs:List Value),WellAll P h vs (ns.map WData.int)->Jh vs ns:=by
 intro ns
 induction ns with
 |nil=>
  intro vs w;rw[Ud]at w;cases w;exact .nil
 |cons n ns ih=>
  intro vs w;rw[Wm]at w;cases w with
  |cons a b=>
   cases a;exact .cons _ _ (ih _ b)
def EK {l:OpenLaw}(hn:l.most=some n)(hpre:l.row.toRowW.claim.pre args=true)(hwl:WellAll P h vals args):
  ∃a vs ns,vals=[Value.ref a]/\args=[WData.list (ns.map WData.int)]/\h.get? a=some {cls:=.type "list",data:=.seq vs.toArray}/\Jh vs ns/\ns.length<=n:=by
 have hsh:WShape.hasAll [] args [.list .int]=true:=(pre_splitW hpre).1;have hc:l.pre.holds [] {args:=args}=true:=(pre_splitW hpre).2;obtain⟨d,r,rfl,h1,h2⟩:=hasAllW_cons hsh;obtain rfl:=hasAllW_nil h2;obtain⟨xs,rfl,h3⟩:=hasW_list h1;obtain⟨ns,rfl⟩:=items_int h3;have hlen:ns.length<=n:=by
  unfold OpenLaw.pre at hc;have h4:(WTm.not (.lt (.lit (.int (n:Int))) (.len (.arg 0)))).holds [] {args:=[.list (ns.map .int)]}=true:=by
   have h4:=(holds_andW hc).1;rw[hn]at h4;exact h4
  have h5:=condW_of h4 (w_not (w_lt w_lit (w_len_list (w_arg rfl))));rw[Qv]at h5;refine Nat.le_of_not_lt λq=>?_;have q':(n:Int)<((ns.length:Nat):Int):=by lia
  first
   |(rw[Kf q']at h5;exact Kc h5 (by decide))
   |(simp at h5;lia)
 cases hwl with
 |cons w1 w2=>
  cases w2;cases w1 with
  |list ho hall=>exact⟨_,_,ns,rfl,rfl,ho,kC ns _ hall,hlen⟩
def EJ(l:OpenLaw)(args:List WData):l.row.toRowW.claim.post args (.bool true) args=true:=
 postW_of (r:=l.row.toRowW) (X:=(true==true))
  (show WShape.has [] (.bool true) .bool=true by first|rfl|decide|simp[WShape.has,WShape.arms,WShape.armsAll])
  (show(WTm.eq .res (.lit (.bool true))).value [] {args:=args,res:=some (.bool true),after:=args}=some (.bool (true==true))from w_eq_bool (w_res rfl) w_lit) rfl
def cX {l:OpenLaw}(hn:l.most=some n)(hdf:d.params.defaults=[])(call:∀(w:HU) (s₀ s₁:Shared) (mg mb:Str->Option Value) (fa:Addr) (o:Obj) (pm cd doc:Value) (a:Addr) (vs:List Value) (ns:List Int),
   Ground q loose [] XP w s₀ mg mb s₁.heap->YP w s₁.heap ->
   s₁.heap.get? fa=some o->o.data=.func (docDef d.name d.params d.body d.scope pm cd doc)->s₁.heap.CodeRec cd d.name->mg d.name=some (.ref fa) ->
   s₁.heap.get? a=some {cls:=.type "list",data:=.seq vs.toArray}->Jh vs ns->ns.length<=n->s₁.gens=#[] ->
   IQ (Ie l.prog w) Ji (.call (.ref fa) ⟨[.ref a],[]⟩) (λr s'=>r=.ok (.ret (.bool true))/\OldK s₁.heap s'.heap/\s'.os=s₁.os/\HZ s'.gens) s₁):
  WalkO q loose XP YP l.row.toRowW d [] (λf vs=>PySem.call f vs):=by
 intro w s₀ s₁ mg mb G Y fa o pm cd doc dV kV ho hd hcd hD hmg hg args vals as hpre hlay hrd hwl hlo;obtain rfl:dV=.none:=Dflts.none hD hdf;obtain rfl:kV=.none:=Dflts.noKw hD;obtain⟨a,vs,ns,rfl,rfl,hobj,hints,hlen⟩:=EK hn hpre hwl;refine enter_call (IR (call w s₀ s₁ mg mb fa o pm cd doc a vs ns G Y ho (fd_plain hd) hcd hmg hobj hints hlen hg) λr s' hq=>?_);obtain⟨rfl,h2,h3,h4⟩:=hq;exact⟨.inl ⟨.bool true,.bool true,[],rfl,λ_=>rfl,.bool true,EJ l _,λ_=>⟨List.Pairwise.nil,λ_ hm=>(nomatch hm)⟩⟩,h2,h3,h4⟩
end Att
namespace L2
open PySem PySem.Spec PyProof.Rows
theorem jR:∀{vs:List Value}{ns:List Int},Jh vs ns->aw (ns.map V.int) vs
 |_,_,.nil=>.nil
 |_,_,.cons n t h=>.cons ⟨t,rfl⟩ (jR h)
noncomputable def fY(H:Hp):Prop:=∀b,H b=none\/∃o xs,H b=some (.frz o (.lst xs))
def DY {K:Qb}(KX:K.In s₁.heap)(hns:s₁.heap.Ns HW mg)(hb:s₁.heap.Ns builtinsNs mb)(hbb:∀x:Str,x ≠ "__name__" -> mb x=HX x)(hlim:s₁.heap.NoLimit)(hg:s₁.gens=#[])(ha:s₁.heap.get? a=some {cls:=.type "list",data:=.seq vs.toArray})(hi:Jh vs ns)(hl:ns.length<=sizeLine)(hr:bP k Ji)(F:∀base:HV,K.In base->base.Ns HW mg->bL P w K mg base CX k fa fd [x] sp)(hbind:∀(s:Shared) (u:Value),IP s fd ⟨[u],[]⟩ [(x,u)])(hsp:∀H:Hp,fY H->bp K H a (ns.map V.int)->sp [.ref a] H (λv _=>v=.bl true) λ_ _ _=>False)(hCX:∀H e s',CX [] H s₁ (λ_ _ _=>False) e s'->False):
  IQ (Ie P w) Ji (.call (.ref fa) ⟨[.ref a],[]⟩) (λr s'=>r=.ok (.ret (.bool true))/\OldK s₁.heap s'.heap/\s'.os=s₁.os/\HZ s'.gens) s₁:=by
 have rv:=jR hi;have lenV:=hi.length
 -- from an abstract heap in which nothing but the script may be tracked
 have core:∀H:Hp,fY H->bp K H a (ns.map V.int)->cj P w H s₁.heap->(∀b,H b≠none->b=a)->(H a≠none->K.lookup a=none) ->
   IQ (Ie P w) Ji (.call (.ref fa) ⟨[.ref a],[]⟩) (λr s'=>r=.ok (.ret (.bool true))/\OldK s₁.heap s'.heap/\s'.os=s₁.os/\HZ s'.gens) s₁:=by
  intro H hO hS hok hA hK;have cc:∀{b:Addr}{o:Obj},s₁.heap.get? b=some o->H b=none->(gl s₁.heap H).get? b=some o:=λe n=>D9 e n;have noA:∀{b:Addr}{o:Obj}{es:Array HR}{ep:Nat},s₁.heap.get? b=some o->o.data=.dict es ep->H b=none:=λ{b o es ep} e d=>by
   cases q:H b with
   |none=>rfl
   |some u=>
    have e':b=a:=hA b (by rw[q];simp);subst e';rw[ha]at e;cases e;have d':Data.seq vs.toArray _=Data.dict es ep:=d;cases d'
  have nsK:∀{b:Addr}{m:Str->Option Value},s₁.heap.Ns b m->(gl s₁.heap H).Ns b m:=λ{b m} ⟨o,es,ep,e,d,r⟩=>⟨o,es,ep,cc e (noA e d),d,r⟩;have hKb:K.In (gl s₁.heap H):=λb o e=>cc (KX b o e) (by
   cases q:H b with
   |none=>rfl
   |some u=>
    have e':b=a:=hA b (by rw[q];simp);subst e';rw[hK (by rw[q];simp)]at e;cases e)
  have hM:Mod K mg (gl s₁.heap H):=⟨hKb,nsK hns,⟨mb,nsK hb,hbb⟩,let⟨mc,h1,h2⟩:=hlim;⟨mc,nsK h1,h2⟩⟩;have e0:eI P w K mg (gl s₁.heap H) Ji [] s₁ H:=⟨rfl,hM,λb o e=>Cs e,VP (ES _ _),trivial,λb hb=>Kc (show b∈([]:List Addr)from hb) (by simp),hok,.of_eq hg⟩;refine IR ((F _ hKb (nsK hns)).run Ji [] s₁ H ⟨[.ref a],[]⟩ [.ref a] [.ref a] _ _ hr e0 (hbind s₁ (.ref a)) (.cons rfl .nil) (hsp H hO hS)) λr s' h=>?_;cases r with
  |error e=>exact(hCX H e s' h).elim
  |ok fl=>
   cases fl with
   |next=>exact False.elim h
   |brk=>exact False.elim h
   |cont=>exact False.elim h
   |ret u=>
    obtain⟨v,H',os,bare,un,hok',r',q⟩:=h;have q':v=.bl true:=q;subst q';obtain rfl:u=Value.bool true:=r';refine⟨rfl,OldK.of_keep λb o e=>?_,os,bare⟩;cases q:H b with
    |none=>exact un.keep b o e q (by intro z;exact Kc (show b∈([]:List Addr)from z) (by simp)) (by simp)
    |some u=>
     rcases hO b with z|⟨ob,xs,z⟩
     .rw[q]at z;cases z
     .have z2:=un.frzs b ob _ z;obtain⟨e1,_⟩:=hok b _ z;obtain⟨e2,_⟩:=hok' b _ z2;rw[e]at e1;cases e1;exact e2
 cases hk:K.lookup a with
 |some o=>
  -- the script is one of the module's own objects
  have e:=KX a o hk;rw[ha]at e;cases e;refine core (λ_=>none) (λ_=>.inl rfl) (.inr ⟨_,vs.toArray,_,hk,rfl,rfl,rfl,by rw[QK,lenV];exact hl,by simpa using rv⟩) (λb u z=>by have z':(none:Option HO)=some u:=z;cases z') (λb z=>Kc rfl z) λz=>Kc rfl z
 |none=>
  refine core (λb=>if b=a then some (.frz {cls:=.type "list",data:=.seq vs.toArray} (.lst (ns.map V.int)))else none) (λb=>?_) (.inl (.inr ⟨{cls:=.type "list",data:=.seq vs.toArray},Ka rfl⟩)) (λb u z=>?_) (λb z=>?_) λ_=>hk
  .by_cases hb:b=a
   .exact .inr ⟨_,_,Ka hb⟩
   .exact .inl (Kb hb)
  .by_cases hb:b=a
   .have z':=(Ka hb).symm.trans z;cases z';subst hb;exact⟨ha,by rw[Qv];exact hl,vs,_,rv,ha⟩
   .have z':=(Kb hb).symm.trans z;cases z'
  .by_cases hb:b=a
   .exact hb
   .exact Kc (Kb hb) z
def C5 {l:PySem.W.OpenLaw}{K:HQ->Qb}{CX:HU->dQ}{sp:HU->Sp}(hn:l.most=some n)(hn2:n<=sizeLine)(hdf:d.params.defaults=[])(hr:bP k Ji)(hY:∀(w:HU) (h:HV),YP w h->(K w.params).In h)(F:∀(w:HU) (mg:Str->Option Value) (fa:Addr) (h:HV),(K w.params).In h->h.Ns HW mg->mg d.name=some (.ref fa) ->
   ∃fd:IN,(∀(s:Shared) (u:Value),IP s fd ⟨[u],[]⟩ [(x,u)]) /\
    ∀base:HV,(K w.params).In base->base.Ns HW mg->bL l.prog w (K w.params) mg base (CX w) k fa fd [x] (sp w))(hsp:∀(w:HU) (H:Hp) (a:Addr) (ns:List Int),ns.length<=n->fY H->bp (K w.params) H a (ns.map V.int)->sp w [.ref a] H (λv _=>v=.bl true) λ_ _ _=>False)(hCX:∀(w:HU) (H:Hp) (s:Shared) (e:Value) (s':Shared),CX w [] H s (λ_ _ _=>False) e s'->False):
  V2 q loose XP YP l.row.toRowW d [] (λf vs=>PySem.call f vs):=by
 refine Att.cX hn hdf λw s₀ s₁ mg mb fa o pm cd doc a vs ns G Y ho hd hcd hmg hobj hints hlen hg=>?_;have KX:=hY w _ Y;obtain⟨fd,hb,hF⟩:=F w mg fa _ KX G.T.g hmg;exact DY KX G.T.g G.T.b G.T.builtins G.T.nolimit hg hobj hints (QD hlen hn2) hr hF hb (λH hO hS=>hsp w H a ns hlen hO hS) λH e s'=>hCX w H s₁ e s'
abbrev cQ:dQ:=λ_ _ _ _ _ _=>False
abbrev E0:XK:=λ_ _ _=>False
def ur:kP cQ X E0:=λ_ _ _ _ _ _ _ h=>h.elim
structure dO(K:Qb)(x qual:Str)(st:Stmt)(f:Addr)(fd:IN):Prop where
 ex:∃(oc:Value) (od:Option Addr) (kV doc pm:Value) (an:Option Addr) (cdv ct:Value) (osl:Array (Option Value)),
  fd=WX x qual (wd st) (yJ st) (zy st) .none kV doc pm an cdv ct/\K.lookup f=some ⟨oc,od,.func fd,osl⟩/\VC K cdv qual=true
 kp:Wh K (.ref f)=true
section
variable{P:HS}{w:HU}{K:Qb}{mg:Str->Option Value}{base:HV}
def dO.ok {st:Stmt}(F:dO K x qual st f fd)(S:cz N ps (zy st))(len:∀vs H Q E,sp vs H Q E->vs.length=ps.length)(hbody:∀(cdv:Value) (A:HY) (outer:List Env) (s:Shared) (H:Hp) (vs:List V) (Q:VK) (E:XK),bP k (A.deeper (envOfC qual (zy st) s.heap.objs.size f cdv))->sp vs H Q E ->
   ∃t,bZ (vn cQ P w K mg base N qual (zy st) f cdv A outer s H E).nox (yJ st) t/\t {nx:=λ_ H'=>Q .non H',rt:=Q} (start N vs) H):bL P w K mg base cQ (k+1) f fd ps sp:=by
 obtain⟨oc,od,kV,doc,pm,an,cdv,ct,osl,rfl,lk,hcd⟩:=F.ex;refine oV lk hcd S len λA outer s H vs Q E hr hsp=>?_;obtain⟨t,h,q⟩:=hbody cdv A outer s H vs Q E hr hsp;exact⟨t,h.nox,q⟩
def dO.binds {st:Stmt}(F:dO K x qual st f fd)(h:∀(kV doc pm:Value) (an:Option Addr) (cdv ct:Value) (us:List Value),us.length=ps.length->bindArgs (WX x qual (wd st) (yJ st) (zy st) .none kV doc pm an cdv ct) ⟨us,[]⟩=pure (ps.zip us)):Binds K fd ps []:=by
 obtain⟨oc,od,kV,doc,pm,an,cdv,ct,osl,rfl,lk,hcd⟩:=F.ex;exact .all (h kV doc pm an cdv ct)
def AU {st:Stmt}{kV:Value}(l:K.lookup f=some ⟨oc,od,.func (WX x qual (wd st) (yJ st) (zy st) .none kV doc pm an cdv ct),osl⟩)(c:VC K cdv qual=true)(k:Wh K (.ref f)=true):dO K x qual st f (WX x qual (wd st) (yJ st) (zy st) .none kV doc pm an cdv ct):=⟨⟨oc,od,kV,doc,pm,an,cdv,ct,osl,rfl,l,c⟩,k⟩
end
def EI (h:n<=1000):n<sizeLine:=Nat.lt_of_le_of_lt h (by decide)
def fA {B:Prop}(h:B):if false=true then A else B:=by
 rw[Kb QZ];exact h
def qm {B:Prop}(h:A):if true=true then A else B:=by
 rw[Ka rfl];exact h
noncomputable def wZ(env:Env):List (Str×IT)->List (Str×Addr)->List (Str×Addr)
 |[],acc=>acc
 |(n,k)::r,acc=>if k == .free then wZ env r ((n,(env.cells.lookup n).getD 0)::acc)else wZ env r acc
theorem vp (f:Str×IT->List (Str×Addr)->Sem (ForInStep (List (Str×Addr))))(hf:∀n k cs,f (n,k) cs=if k == .free then(do let a <-cellOf env n;pure (.yield ((n,a)::cs)))else pure (.yield cs)):
  ∀(names:List (Str×IT)) (acc:List (Str×Addr)),(∀y∈names,y.2=.free->∃c,env.cells.lookup y.1=some c)->forIn names acc f=pure (wZ env names acc)
 |[],acc,_=>by rw[VH];rfl
 |(n,k)::r,acc,h=>by
  have ih:=vp f hf r;rw[V0,hf];unfold wZ;cases hk:k==NameKind.free with
  |true=>
   obtain⟨c,hc⟩:=h (n,k) QQ (by simpa using hk);have hc':env.cells.lookup n=some c:=hc;have e1:cellOf env n=pure c:=by unfold cellOf;rw[hc']
   simp only[if_true,e1,hc',Wt,pure_bind];exact ih _ λy hy=>h y (Qp _ hy)
  |false=>
   simp only[Q0,if_false,pure_bind];exact ih _ λy hy=>h y (Qp _ hy)
def kQ (h:∀y∈scope.names,y.2=.free->∃c,env.cells.lookup y.1=some c):closureFor scope env=pure (wZ env scope.names []):=by
 unfold closureFor;simp only[];rw[vp (env:=env) _ (λn k cs=>by cases hk:k==NameKind.free<;>simp[hk]) scope.names [] h];rfl
theorem wI:∀{names:List (Str×IT)}{acc:List (Str×Addr)},(∀z∈names,z.2=.free->∃c,env.cells.lookup z.1=some c)->(wZ env names acc).lookup y=some c ->
  acc.lookup y=some c\/((y,NameKind.free)∈names/\env.cells.lookup y=some c)
 |[],acc,_,e=>.inl e
 |(n,k)::r,acc,h,e=>by
  unfold wZ at e;have h':∀z∈r,z.2=.free->∃c,env.cells.lookup z.1=some c:=λz hz=>h z (Qp _ hz);cases hk:k==NameKind.free with
  |true=>
   have hk':k=.free:=by simpa using hk
   subst hk';rw[hk,Ka rfl]at e;rcases wI h' e with q|⟨q1,q2⟩
   .rw[Wc]at q;cases hy:y==n with
    |true=>
     rw[hy]at q;have:y=n:=by simpa using hy
     subst this;obtain⟨c',hc'⟩:=h (y,.free) QQ rfl;have hc'':env.cells.lookup y=some c':=hc';rw[hc'']at q;refine .inr ⟨QQ,?_⟩;rw[hc''];exact q
    |false=>rw[hy]at q;exact .inl q
   .exact .inr ⟨Qp _ q1,q2⟩
  |false=>
   rw[hk,Kb (by simp)]at e;rcases wI h' e with q|⟨q1,q2⟩
   .exact .inl q
   .exact .inr ⟨Qp _ q1,q2⟩
theorem vR:∀{names:List (Str×IT)}{acc:List (Str×Addr)},((y,NameKind.free)∈names\/(acc.lookup y).isSome=true)->((wZ env names acc).lookup y).isSome=true
 |[],acc,h=>by
  rcases h with h|h
  .cases h
  .exact h
 |(n,k)::r,acc,h=>by
  unfold wZ;cases hk:k==NameKind.free with
  |true=>
   rw[Ka rfl];refine vR ?_;rcases h with h|h
   .rcases Qc.mp h with e|e
    .cases e;exact .inr (by rw[Wc];simp)
    .exact .inl e
   .refine .inr ?_;rw[Wc];split
    .rfl
    .exact h
  |false=>
   rw[Kb (by simp)];refine vR ?_;rcases h with h|h
   .rcases Qc.mp h with e|e
    .cases e;cases hk
    .exact .inl e
   .exact .inr h
theorem lQ:∀{names:List (Str×IT)}{h:HV}{acc:List (Str×Addr)},(IW h.objs.size names acc).lookup y=some c ->
  acc.lookup y=some c\/(h.objs.size<=c/\(Jj h names).IsCell c none/\(y,NameKind.cell)∈names)
 |[],h,acc,e=>.inl e
 |(n,k)::r,h,acc,e=>by
  unfold IW at e;cases hk:k==NameKind.cell with
  |true=>
   have hk':k=.cell:=by simpa using hk
   subst hk';rw[hk,Ka rfl]at e;have ih:=lQ (y:=y) (c:=c) (names:=r) (h:=h.push {cls:=.type "cell",data:=.cell none}) (acc:=(n,h.objs.size)::acc);rw[WY]at ih;have hp:Jj h ((n,NameKind.cell)::r)=Jj (h.push {cls:=.type "cell",data:=.cell none}) r:=by
    exact Ka hk
   rcases ih e with q|⟨q1,q2,q3⟩
   .rw[Wc]at q;cases hy:y==n with
    |true=>
     rw[hy]at q;cases q;have hyn:y=n:=by simpa using hy
     subst hyn;refine .inr ⟨Qo _,?_,QQ⟩;rw[hp];exact⟨_,Jk _ _ _ _ (Qw _ rfl),rfl⟩
    |false=>rw[hy]at q;exact .inl q
   .exact .inr ⟨QD (Vb _) q1,by rw[hp];exact q2,Qp _ q3⟩
  |false=>
   rw[hk,Kb (by simp)]at e;have hp:Jj h ((n,k)::r)=Jj h r:=by
    show(if(k==NameKind.cell)=true then _ else _)=_;rw[hk,Kb (by simp)]
   rcases lQ e with q|⟨q1,q2,q3⟩
   .exact .inl q
   .exact .inr ⟨q1,by rw[hp];exact q2,Qp _ q3⟩
theorem lP {lo:Nat}:∀{names:List (Str×IT)}{n:Nat}{acc:List (Str×Addr)},((y,NameKind.cell)∈names\/∀c,acc.lookup y=some c->lo<=c)->lo<=n->(IW n names acc).lookup y=some c->lo<=c
 |[],n,acc,h,_,e=>by
  rcases h with h|h
  .cases h
  .exact h c e
 |(m,k)::r,n,acc,h,hn,e=>by
  unfold IW at e;cases hk:k==NameKind.cell with
  |true=>
   rw[hk,Ka rfl]at e;refine lP ?_ (QD hn (Vb _)) e;by_cases hy:y=m
   .subst hy;refine .inr λc hc=>?_;rw[Wc,beq_self_eq_true]at hc;cases hc;exact hn
   .rcases h with h|h
    .rcases Qc.mp h with z|z
     .cases z;exact Kc rfl hy
     .exact .inl z
    .refine .inr λc hc=>?_;rw[Wc]at hc;have:(y==m)=false:=by simpa using hy
     rw[this]at hc;exact h c hc
  |false=>
   rw[hk,Kb (by simp)]at e;refine lP ?_ hn e;rcases h with h|h
   .rcases Qc.mp h with z|z
    .cases z;cases hk
    .exact .inl z
   .exact .inr h
theorem mh:∀{names:List (Str×IT)}{n:Nat}{acc:List (Str×Addr)},(∀y z c,acc.lookup y=some c->acc.lookup z=some c->y=z)->(∀y c,acc.lookup y=some c->c<n) ->
  ∀y z c,(IW n names acc).lookup y=some c->(IW n names acc).lookup z=some c->y=z
 |[],n,acc,hi,_=>hi
 |(m,k)::r,n,acc,hi,hl=>by
  unfold IW;cases hk:k==NameKind.cell with
  |true=>
   rw[Ka rfl];refine mh (λy z c e1 e2=>?_) λy c e=>?_
   .rw[Wc]at e1 e2;cases hy:y==m<;>cases hz:z==m<;>rw[hy]at e1<;>rw[hz]at e2
    .exact hi y z c e1 e2
    .cases e2;exact Kc (hl y _ e1) (We _)
    .cases e1;exact Kc (hl z _ e2) (We _)
    .exact (by simpa using hy:y=m).trans (by simpa using hz:z=m).symm
   .rw[Wc]at e;cases hy:y==m<;>rw[hy]at e
    .exact WJ (hl y c e)
    .cases e;exact W1 _
  |false=>
   rw[Kb (by simp)];exact mh hi hl
def qo (hQ:Q {scope:=scope,locals:=s.heap.objs.size,globals:=globals,cells:=IW (s.heap.objs.size+1) scope.names cl,qual:=qual,func:=none,code:=outer.code,frame:=outer.frame,builtins:=outer.builtins}
   {s with heap:=Jj (s.heap.push {cls:=.type "dict",data:=.dict #[]}) scope.names}):
  Ic M A (Jl scope globals cl [] qual none .none (some outer)) Q E s:=by
 simp only[Jl,Option.isSome_some,if_true];refine Iu (wpAny_alloc ?_);refine Iu (wpAny_layCells _ (λname kind cells=>by cases hkc:kind==NameKind.cell<;>simp[hkc]) _ _ _ _ ?_);rw[show({s with heap:=s.heap.push {cls:=.type "dict",data:=.dict #[]} }:Shared).heap.objs.size=s.heap.objs.size+1 from WY ..];simp only[VH];exact Iu (IA (IA hQ))
def ya:(Jm scope env).names.lookup y=(scope.names.lookup y).map λk=>if(k==NameKind.free&&env.scope.kind == .function&&env.kindOf y==some .cell)then NameKind.cell else k:=by
 have all:∀l:List (Str×IT),(l.map λ(n,k)=>if(k==NameKind.free&&env.scope.kind == .function&&env.kindOf n==some .cell)then(n,NameKind.cell)else(n,k)).lookup y=(l.lookup y).map λk=>if(k==NameKind.free&&env.scope.kind == .function&&env.kindOf y==some .cell)then NameKind.cell else k:=by
  intro l
  induction l with
  |nil=>rfl
  |cons p r ih=>
   obtain⟨n,k⟩:=p;rw[Wm,Wc];by_cases hc:(k==NameKind.free&&env.scope.kind == .function&&env.kindOf n==some .cell)=true
   .simp only[hc,if_true,Wc];cases hy:y==n with
    |true=>
     have:y=n:=by simpa using hy
     subst this;simp only[QR,hc,if_true]
    |false=>exact ih
   .simp only[Kb hc,Wc];cases hy:y==n with
    |true=>
     have:y=n:=by simpa using hy
     subst this;simp only[QR,Kb hc]
    |false=>exact ih
 exact all scope.names
noncomputable def iW(x:Str):Str:=⟨x.cps.push 0⟩
noncomputable def xw(N xs:List Str):List Str:=(N.map λy=>if y∈xs then iW y else y)++xs
def EH(N xs:List Str):(xw N xs).length=N.length+xs.length:=by simp[xw]
def yq(N xs:List Str)(j:Nat):(xw N xs)[N.length+j]?=xs[j]?:=by
 unfold xw;rw[Qd (by simp)];simp
def EG (hi:i<N.length)(h:(xw N xs)[i]?=some y):(∃x∈xs,y=iW x)\/(N[i]?=some y/\y∉xs):=by
 unfold xw at h;rw[Qi (by simpa using hi),Ql]at h;obtain⟨z,hz⟩:∃z,N[i]?=some z:=⟨N[i],by simp[hi]⟩;rw[hz]at h;by_cases e:z∈xs
 .simp only[QR,Ka e]at h;exact .inl ⟨z,e,(Option.some.inj h).symm⟩
 .simp only[QR,Kb e]at h;have e2:z=y:=Option.some.inj h;subst e2;exact .inr ⟨hz,e⟩
structure bB(X:Cx)(scope:HP)(xs:List Str)(Xc:Cx):Prop where
 prog:Xc.prog=X.prog
 w:Xc.w=X.w
 K:Xc.K=X.K
 mg:Xc.mg=X.mg
 base:Xc.base=X.base
 A:Xc.A=X.A
 N:Xc.N=xw X.N xs
 sc:Xc.env.scope=Jm scope X.env
 calm:Xc.calm=true
 stack:Xc.stack=X.stack
noncomputable def ir(X:Cx)(ifs:List Expr)(t:TT):Prop:=
 ∀(pins:List (Addr×Obj)) (s:Shared) (σ:St) (H:Hp) (Q:Bool->Hp->Prop),Inv X pins σ H s->t σ H Q ->
  Ic (Ie X.prog X.w) X.A (forIn ifs true λc r=>if r=true then do let ok <-isTrue c X.env (eval c X.env);pure (ForInStep.yield ok)else pure (ForInStep.yield r)) (TP X pins σ Q) X.xe s
def vq:ir X [] (λ_ H Q=>Q true H):=λ_ _ _ H _ I h=>wpAny_tests_nil ⟨H,I,h⟩
structure bz(X:Cx)(scope:HP)(xs:List Str):Prop where
 kind:scope.kind=.function
 own:∀x∈xs,scope.names.lookup x=some .local\/scope.names.lookup x=some .cell
 locs:∀y∈scope.names,y.2=.local->scope.names.lookup y.1=some .local
 free:∀y∈scope.names,y.2=.free->X.env.scope.names.lookup y.1=some .cell\/X.env.scope.names.lookup y.1=some .free
 alone:∀y∈X.N,y∉xs->scope.names.lookup y≠some .local/\scope.names.lookup y≠some .cell
 one:∀y∈scope.names,y.2=.cell->scope.names.lookup y.1≠some .free
 nd:(xw X.N xs).Nodup
 dumN:∀x∈xs,scope.names.lookup (iW x)=none
def gs{prog:HS}{w:HU}{A:HY}{R:IM->Shared->Prop}{s:Shared}{elt target iter:Expr}{ifs:List Expr}{scope:HP}{pos:Pos}{it acc:Value}{env:Env}(I:Nat->Shared->Prop)
  (turn:∀n s,I n s->Ic (Ie prog w) A (Iy it) (λr s₁=>match r with
   |none=>R (.ok .next) s₁
   |some v=>Ic (Ie prog w) A (Iz target it v) (λ_ s₁'=>Ic (Ie prog w) A (assign target env v) (λ_ s₂=>
     Ic (Ie prog w) A (forIn ifs true λc r=>if r=true then do let ok <-isTrue c env (eval c env);pure (ForInStep.yield ok)else pure (ForInStep.yield r)) (λok s₃=>
      if ok=true then Ic (Ie prog w) A (eval elt env) (λx s₄=>
       Ic (Ie prog w) A (call (.builtin "list.append") [acc,x]) (λ_ s₅=>∃m,m<n/\I m s₅) (Jn (Ie prog w) A env λe s'=>R (.error e) s') s₄) (Jn (Ie prog w) A env λe s'=>R (.error e) s') s₃
      else ∃m,m<n/\I m s₃) (Jn (Ie prog w) A env λe s'=>R (.error e) s') s₂) (Jn (Ie prog w) A env λe s'=>R (.error e) s') s₁') (Jn (Ie prog w) A env λe s'=>R (.error e) s') s₁) (Jn (Ie prog w) A env λe s'=>R (.error e) s') s)
  (n:Nat) (h:I n s):IQ (Ie prog w) A (.compLoop (.ListComp elt [⟨target,iter,ifs,0⟩] scope pos) 0 it acc env) R s:=by
 refine codeAny_loop rfl I (λn s hI=>?_) n h;show Ic _ A ((compTurn (.ListComp elt [⟨target,iter,ifs,0⟩] scope pos) 0 it acc env).onRaise (λx=>do noteFrame x env;theTreesLotGoes x)) _ _ s;refine wpAny_noted ?_;rw[compTurn_list];refine Iu (Iw (Iu (Ii (turn n s hI) (λr s₁ h₁=>?_) λ_ _ h'=>h')));cases r with
 |none=>exact IA h₁
 |some v=>
  refine Iu (Ii h₁ (λ_ s₁' h₁'=>?_) λ_ _ h'=>h');refine Iu (Ii h₁' (λ_ s₂ h₂=>Iu (Ii h₂ (λok s₃ h₃=>?_) λ_ _ h'=>h')) λ_ _ h'=>h');cases ok with
  |false=>exact IA ⟨rfl,h₃⟩
  |true=>
   exact Iu (Iu (Ii h₃ (λx s₄ h₄=>Iu (Ii h₄ (λ_ s₅ h₅=>IA (IA ⟨rfl,h₅⟩)) λ_ _ h'=>h')) λ_ _ h'=>h'))
noncomputable def jS(un:V->Hp->List V->Prop)(wi:TI)(tc:TT)(te:TE):TE:=λσ H Q=>wi σ H λJ H1=>∀D,H1 D=none->∃W:Nat->Nat->List V->Hp->Prop,(∃m,W 0 m [] (aI H1 D (.lst [])))/\∀i m ys H,W i m ys H ->
 (J.stop i H/\Q (.ref D) H)\/(J.go i H/\∀v H',J.yld i H v H'->∃vs,un v H' vs/\tc (σ++vs.map some) H' λb H2=>if b=true then te (σ++vs.map some) H2 λy H3=>H3 D=some (.lst ys)/\ys.length<sizeLine/\∃m',m'<m/\W (i+1) m' (ys++[y]) (aI H3 D (.lst (ys++[y])))
  else ∃m',m'<m/\W (i+1) m' ys H2)
def kR {un:V->Hp->List V->Prop}(B:bz X scope xs)(hc:X.calm=true)(hpg:∀Xc,bB X scope xs Xc->(∀x∈xs,Loc Xc.env.scope x/\(Xc.fn x=true\/Xc.env.scope.names.lookup x=some .local))->PG Xc tg g)(hun:∀v H vs os,os.length=xs.length->un v H vs->vs.length=xs.length/\g v (σ++os) H λσ2 H2=>σ2=σ++vs.map some/\H2=H)(hbody:∀Xc,bB X scope xs Xc->ir Xc ifs tc/\PE Xc elt te)(I:Inv X pins σ H s)(T:cY X.prog X.w X.K tg J fp it tn)(st:tn 0 s.heap)(hfp:∀b∈fp,kB X pins H b)(W:Nat->Nat->List V->Hp->Prop)(m0:Nat)(w0:W 0 m0 [] H)(turn:∀i m ys H,W i m ys H->(J.stop i H/\∀s' m' C,Inv X pins σ H s'->s'.heap.Ns C m'->s.heap.objs.size<=C->H C=none->compPost (Ie X.prog X.w) X.A X.xe use Q (.ref D) C (.ok .next) s') \/
   (J.go i H/\∀v H',J.yld i H v H'->∃vs,un v H' vs/\tc (σ++vs.map some) H' λb H2=>if b=true then te (σ++vs.map some) H2 λy H3=>H3 D=some (.lst ys)/\ys.length<sizeLine/\∃m',m'<m/\W (i+1) m' (ys++[y]) (aI H3 D (.lst (ys++[y])))
    else ∃m',m'<m/\W (i+1) m' ys H2)):
  Ic (Ie X.prog X.w) X.A (Jl scope X.env.globals (wZ X.env scope.names []) [] X.env.qual none .none (some X.env)) (λcenv s₄=>
   IQ (Ie X.prog X.w) X.A (.compStart (.ListComp elt [⟨tg,iter,ifs,0⟩] scope pos) 0 (.ref it) (.ref D) {cenv with scope:=Jm scope X.env}) (compPost (Ie X.prog X.w) X.A X.xe use Q (.ref D) cenv.locals) s₄) X.xe s:=by
 refine qo ?_;have hcl:∀y∈scope.names,y.2=.free->∃c,X.env.cells.lookup y.1=some c:=λy hy hf=>by
  rcases B.free y hy hf with q|q
  .exact I.ok.has y.1 (.inl q)
  .exact I.ok.has y.1 (.inr q)
 -- the block's own parts
 generalize hC:s.heap.objs.size=C;generalize hcs:IW (C+1) scope.names (wZ X.env scope.names [])=cs;generalize hh4:Jj (s.heap.push {cls:=.type "dict",data:=.dict #[]}) scope.names=h4;have szP:(s.heap.push {cls:=.type "dict",data:=.dict #[]}).objs.size=C+1:=by rw[WY,hC]
 have keep4:∀b o,s.heap.get? b=some o->h4.get? b=some o:=λb o e=>hh4▸Jk _ _ _ _ (Qe _ e);have nsC:h4.Ns C (λ_=>none):=by
  have q:=(Heap.Ns.new s.heap (.type "dict")).keeps (Jk scope.names (s.heap.push {cls:=.type "dict",data:=.dict #[]}));rw[hC,hh4]at q;exact q
 -- a cell of the block: one of its own,or one of those around
 have csIn:∀y c,cs.lookup y=some c->((y,NameKind.free)∈scope.names/\X.env.cells.lookup y=some c)\/(C+1<=c/\h4.IsCell c none/\(y,NameKind.cell)∈scope.names):=λy c e=>by
  have q:=lQ (y:=y) (c:=c) (names:=scope.names) (h:=s.heap.push {cls:=.type "dict",data:=.dict #[]}) (acc:=wZ X.env scope.names []);rw[szP,hcs,hh4]at q;rcases q e with q|q
  .rcases wI hcl q with z|z
   .cases z
   .exact .inl z
  .exact .inr q
 have oldC:∀y c,X.env.cells.lookup y=some c->c<C:=λy c e=>by
  obtain⟨v,q⟩:=I.cell y c e;rw[<-hC];exact q.lt
 have fpC:∀b∈fp,b<C:=λb hb=>by
  obtain⟨o,e,_⟩:=T.obj _ _ st b hb;rw[<-hC];exact Qj e
 let cenv:Env:={scope:=Jm scope X.env,locals:=C,globals:=X.env.globals,cells:=cs,qual:=X.env.qual,func:=none,code:=X.env.code,frame:=X.env.frame,builtins:=X.env.builtins}
 let RR:IM->Shared->Prop:=compPost (Ie X.prog X.w) X.A X.xe use Q (.ref D) C
 let Xc:Cx:={X with N:=xw X.N xs,s₀:=s,H₀:=H,env:=cenv,outer:=X.stack,stack:=X.stack,ex:=fp,fn:=λy=>decide (scope.names.lookup y=some .cell),calm:=true,pn:=[],xe:=Jn (Ie X.prog X.w) X.A cenv λe s'=>RR (.error e) s' }
 have hXc:bB X scope xs Xc:=⟨rfl,rfl,rfl,rfl,rfl,rfl,rfl,rfl,rfl,rfl⟩;obtain⟨hT,hE⟩:=hbody Xc hXc;have ok:Xc.Ok:=by
  refine⟨I.ok.mod,B.kind,I.ok.glob,I.ok.blt,VP hC,?_,λy hy=>?_,λy c hf e=>?_,λ_=>I.ok.hd hc,I.ok.frames,.inl rfl,λb hb=>⟨QE (fpC b hb),λy c e=>?_⟩,I.bs,QD I.ok.bsz I.sz,λb o e hb=>?_,λb hb hf=>?_,I.stack,I.stkFree⟩
  .show ∀y z c,cs.lookup y=some c->cs.lookup z=some c->y=z;rw[<-hcs];refine mh (λy z c e1 e2=>?_) λy c e=>?_
   .rcases wI hcl e1 with q|q
    .cases q
    .rcases wI hcl e2 with q'|q'
     .cases q'
     .exact I.ok.inj y z c q.2 q'.2
   .rcases wI hcl e with q|q
    .cases q
    .exact WJ (oldC y c q.2)
  .have hy':(Jm scope X.env).names.lookup y=some .cell\/(Jm scope X.env).names.lookup y=some .free:=hy;rw[ya]at hy';show ∃c,cs.lookup y=some c;rw[<-hcs];refine W2.mp (Vs _ _ _ ?_);cases hk:scope.names.lookup y with
   |none=>rw[hk]at hy';rcases hy' with z|z<;>cases z
   |some k=>
    rw[hk]at hy';have kk:k=.cell\/k=.free:=by
     simp only[QR]at hy';by_cases hcnd:(k==NameKind.free&&X.env.scope.kind == .function&&X.env.kindOf y==some .cell)=true
     .refine .inr ?_;have:=(Q9.mp (Q9.mp hcnd).1).1;simpa using this
     .rw[Kb hcnd]at hy';rcases hy' with z|z
      .exact .inl (Option.some.inj z)
      .exact .inr (Option.some.inj z)
    rcases kk with rfl|rfl
    .exact .inl rfl
    .exact .inr (vR (.inl (PySem.mem_of_lookup hk)))
  .show s.heap.objs.size<=c;rw[hC];have e':cs.lookup y=some c:=e;rw[<-hcs]at e';exact QD (Vb _) (lP (lo:=C+1) (.inl (PySem.mem_of_lookup (Kg hf))) (Qo _) e')
  .show c≠b;rintro rfl;rcases csIn y c e with⟨_,z⟩|⟨z,_,_⟩
   .exact (hfp c hb).2.2.2.2.1 y c z rfl
   .exact Kc (Qk (fpC c hb) (QD (Vb _) z)) (We _)
  .rcases (hfp b hb).2.2.2.1 with z|z
   .exact I.ok.noex b o e z
   .exact Kc (Qk (Qj (I.ok.bs b o e).1) z) (We _)
  .rcases Qc.mp (I.stkSub b hf)with z|z
   .exact (hfp b hb).2.1 z
   .exact (hfp b hb).2.2.1 z
 have frC:H C=none:=I.hok.fresh (VP hC);have frN:∀c,C<=c->H c=none:=λc hc'=>I.hok.fresh (by rw[hC];exact hc');have hσ:σ.length=X.N.length:=I.len;have I4:Inv Xc [] (σ++xs.map λ_=>none) H {s with heap:=h4}:=by
  refine⟨ok,rfl,I.bare,Un.kept keep4,⟨_,nsC,λi y v e1 e2 e3=>?_⟩,λy c e=>?_,frC,λy c e=>?_,λp hp=>Kc (show p∈([]:List (Addr×Obj))from hp) (by simp),I.hok.kept keep4,?_⟩
  .have hi:i<σ.length:=by
    by_cases hi:i<σ.length
    .exact hi
    .rw[Qd (by lia),Ql]at e2;cases hz:xs[i-σ.length]? with
     |none=>rw[hz]at e2;simp at e2
     |some k=>rw[hz]at e2;simp at e2
   rw[Qi hi]at e2;have vis:scope.names.lookup y=some .local\/scope.names.lookup y=some .cell\/scope.names.lookup y=some .free:=by
    have e3':fm (Jm scope X.env) y:=e3;unfold fm at e3';rw[ya]at e3';cases hk:scope.names.lookup y with
    |none=>rw[hk]at e3';rcases e3' with z|z|z<;>cases z
    |some k=>
     rw[hk]at e3';simp only[QR]at e3';by_cases hcnd:(k==NameKind.free&&X.env.scope.kind == .function&&X.env.kindOf y==some .cell)=true
     .have:=(Q9.mp (Q9.mp hcnd).1).1;exact .inr (.inr (by rw[show k=.free by simpa using this]))
     .rw[Kb hcnd]at e3';exact e3'
   rcases EG (by rw[<-hσ];exact hi) e1 with z|⟨z,zx⟩
   .obtain ⟨x,hx,z⟩:=z;subst z;rw[B.dumN x hx]at vis;rcases vis with q|q|q<;>cases q
   .have hfree:scope.names.lookup y=some .free:=by
     rcases vis with q|q|q
     .exact Kc q (B.alone y (Qt z) zx).1
     .exact Kc q (B.alone y (Qt z) zx).2
     .exact q
    have kout:=B.free _ (PySem.mem_of_lookup hfree) rfl;obtain⟨m,hn,hl⟩:=I.loc;obtain⟨u,r,l⟩:=hl i y v z e2 (kout.elim (λq=>.inr (.inl q)) λq=>.inr (.inr q));refine⟨u,r,?_⟩;rcases l with⟨k,_⟩|⟨_,c,ec,zc⟩
    .have k':X.env.scope.names.lookup y=some .local:=k;rcases kout with q|q<;>rw[k']at q<;>cases q
    .have hsome:∃c',cs.lookup y=some c':=ok.has y (by
      show(Jm scope X.env).names.lookup y=some .cell\/(Jm scope X.env).names.lookup y=some .free;rw[ya,hfree];simp only[QR];split
      .exact .inl rfl
      .exact .inr rfl)
     obtain⟨c',ec'⟩:=hsome;refine .inr ⟨?_,c',ec',?_⟩
     .show (Jm scope X.env).names.lookup y=some .cell\/(Jm scope X.env).names.lookup y=some .free;rw[ya,hfree];simp only[QR];split
      .exact .inl rfl
      .exact .inr rfl
     .rcases csIn y c' ec' with⟨_,q⟩|⟨_,_,q⟩
      .rw[ec]at q;cases q;exact zc.keeps keep4
      .exact Kc hfree (B.one (y,.cell) q rfl)
  .rcases csIn y c e with⟨_,q⟩|⟨_,q,_⟩
   .obtain ⟨v,z⟩:=I.cell y c q;exact⟨v,z.keeps keep4⟩
   .exact ⟨_,q⟩
  .rcases csIn y c e with⟨_,q⟩|⟨q,_,_⟩
   .exact I.freeC y c q
   .exact frN c (by lia)
  .show (σ++xs.map λ_=>none).length=(xw X.N xs).length;rw[EH,QC,hσ,Qv]
 -- the loop
 have hLoc:∀x∈xs,Loc Xc.env.scope x/\(Xc.fn x=true\/Xc.env.scope.names.lookup x=some .local):=λx hx=>by
  constructor
  .show (Jm scope X.env).names.lookup x=some .local\/(Jm scope X.env).names.lookup x=some .cell;rw[ya];rcases B.own x hx with q|q<;>rw[q]
   .exact .inl rfl
   .exact .inr rfl
  .rcases B.own x hx with q|q
   .refine .inr ?_;show(Jm scope X.env).names.lookup x=some .local;rw[ya,q];rfl
   .exact .inl (Kf q)
 have hg:PG Xc tg g:=hpg Xc hXc hLoc;have fpX:∀{H':Hp},(∀b∈fp,H' b=none)->∀b∈fp,kB Xc [] H' b:=λhn b hb=>
  ⟨hn b hb,QE (fpC b hb),λz=>ok.exfs b hb z,.inl hb,λy c e=>(ok.exf b hb).2 y c e,λp hp=>Kc (show p∈([]:List (Addr×Obj))from hp) (by simp)⟩
 have loop:IQ (Ie X.prog X.w) X.A (.compLoop (.ListComp elt [⟨tg,iter,ifs,0⟩] scope pos) 0 (.ref it) (.ref D) cenv) RR {s with heap:=h4}:=by
  refine gs (λn s'=>∃i os ys H',os.length=xs.length/\Inv Xc [] (σ++os) H' s'/\tn i s'.heap/\(∀b∈fp,H' b=none)/\W i n ys H') ?_ m0 ⟨0,_,[],H,Qv _,I4,T.keep _ _ _ st λb _ o e=>keep4 b o e,λb hb=>(hfp b hb).1,w0⟩;rintro n s3 ⟨i,os,ys,H3,hos,I3,st3,fr3,w3⟩;rcases turn i n ys H3 w3 with⟨stop,fin⟩|⟨go,step⟩
  .refine aT (T.done Xc rfl rfl rfl rfl i [] s3 (σ++os) H3 Xc.xe I3 (fpX fr3) st3 stop) λr s4 ⟨hr,I4⟩=>?_;subst hr;obtain⟨m,hn,_⟩:=id I4.loc;refine fin s4 m C ?_ hn (VP hC) I4.free;exact I.call' (ch:=fp) I4.os I4.base I4.hok I4.bare λb hb=>⟨(hfp b hb).2.2.2.1,(hfp b hb).2.1,(hfp b hb).2.2.2.2.1,(hfp b hb).2.2.2.2.2⟩
  .refine aT (T.item Xc rfl rfl rfl rfl i [] s3 (σ++os) H3 Xc.xe I3 (fpX fr3) st3 go) λr s4 ⟨u,hr,h4'⟩=>?_;subst hr;refine aT h4' λ_ s5 ⟨v,H5,I5,r5,y5,st5,fr5⟩=>?_;have I5':=I5.pinned (fpX fr5) (T.obj _ _ st5);obtain⟨vs,hvs,step5⟩:=step v H5 y5;obtain⟨hvl,hset⟩:=hun v H5 vs os hos hvs;refine aT (hg _ s5 (σ++os) H5 v u (λσ2 H2=>σ2=σ++vs.map some/\H2=H5) I5' r5 hset) λ_ s6 ⟨σ6,H6,I6,e6,e6'⟩=>?_;subst e6;subst e6';have back:∀{H7:Hp}{s7:Shared},Inv Xc ([]++kM fp s5.heap) (σ++vs.map some) H7 s7->tn (i+1) s7.heap/\(∀b∈fp,H7 b=none)/\Inv Xc [] (σ++vs.map some) H7 s7:=λ{H7 s7} I7=>by
    refine⟨T.keep _ _ _ st5 λb hb ob e=>(I7.pin (b,ob) (Qy _ (Qy _ (wc hb e)))).1,λb hb=>?_,I7.unpinned⟩;obtain⟨ob,e,_⟩:=T.obj _ _ st5 b hb;exact(I7.pin (b,ob) (Qy _ (Qy _ (wc hb e)))).2.1
   refine aT (hT _ s6 (σ++vs.map some) H6 _ I6 step5) λb s7 ⟨H7,I7,q7⟩=>?_;cases b with
   |false=>
    rw[Kb QZ]at q7 ⊢;obtain⟨m',hm,w7⟩:=q7;obtain⟨t1,t2,t3⟩:=back I7;exact⟨m',hm,i+1,_,ys,H7,(by rw[Qv];exact hvl),t3,t1,t2,w7⟩
   |true=>
    rw[Ka rfl]at q7 ⊢;refine aT (hE _ s7 (σ++vs.map some) H7 _ I7 q7) λyv s8 ⟨y,H8,I8,r8,hD8,hl8,m',hm,w8⟩=>?_;refine aT (jQ (X:=Xc) _ s8 (σ++vs.map some) H8 (.ref D) [y] (.ref D) [yv] (λ_ H9=>H9=aI H8 D (.lst (ys++[y]))) I8 rfl (.cons r8 .nil) ⟨D,ys,y,rfl,rfl,hD8,hl8,rfl⟩) λ_ s9 ⟨_,H9,I9,_,e9⟩=>?_;subst e9;obtain⟨t1,t2,t3⟩:=back I9;exact⟨m',hm,i+1,_,ys++[y],_,(by rw[Qv];exact hvl),t3,t1,t2,w8⟩
 refine codeAny_compStart_list loop ?_;exact T.self X.A 0 _ _ _ (T.keep _ _ _ st λb _ o e=>keep4 b o e) loop
section
variable{X:Cx}{elt iter tg:Expr}{xs:List Str}{y:Str}{g:TG}{un:V->Hp->List V->Prop}{py:Pos}{ifs:List Expr}{scope:HP}{pos spos:Pos}{wi:TI}{tc:TT}{te:TE}
def Inv.aside{pins:List (Addr×Obj)}{σ:St}{H:Hp}{s:Shared}{C lo:Addr}{h':HV}(I:Inv X pins σ H s)(hlo:lo<=C)(hL:X.env.locals<lo)(hcell:∀y c,X.env.cells.lookup y=some c->c<lo)(hpin:∀p∈X.pn++pins,p.1<lo)
  (hn:H C=none) (hs:WH C s.heap h'):Inv X pins σ H {s with heap:=h' } :=
 I.turned (it:=C) (t':=s.toks) (λb o hb e=>(hs.2 b hb).trans e) hn (WA (Qk hL hlo)) (.inr (QD I.ok.above (QD (VD hL) hlo)))
  (λy c e=>QE (Qk (hcell y c e) hlo)) λp hp=>QE (Qk (hpin p hp) hlo)
def Inv.below (I:Inv X pins σ H s):X.env.locals<s.heap.objs.size/\(∀y c,X.env.cells.lookup y=some c->c<s.heap.objs.size)/\∀p∈X.pn++pins,p.1<s.heap.objs.size:=
 ⟨I.lt,λy c e=>let⟨_,z⟩:=I.cell y c e;z.lt,λp hp=>Qj (I.pin p hp).1⟩
def wX(B:bz X scope xs)(ok:X.Ok):closureFor scope X.env=pure (wZ X.env scope.names []):=
 kQ λy hy hf=>(B.free y hy hf).elim (λq=>ok.has y.1 (.inl q)) λq=>ok.has y.1 (.inr q)
structure fR(X:Cx)(scope:HP)(xs:List Str)(tg:Expr)(g:TG)(un:V->Hp->List V->Prop):Prop where
 pg:∀Xc,bB X scope xs Xc->(∀x∈xs,Loc Xc.env.scope x/\(Xc.fn x=true\/Xc.env.scope.names.lookup x=some .local))->PG Xc tg g
 un:∀v H vs os (σ:St),σ.length=X.N.length->os.length=xs.length->un v H vs->vs.length=xs.length/\g v (σ++os) H λσ2 H2=>σ2=σ++vs.map some/\H2=H
noncomputable def mC(v:V)(_:Hp)(vs:List V):Prop:=vs=[v]
def rJ{α:Type}{l:List α}(h:l.length=1):∃a,l=[a]:=by
 cases l with
 |nil=>cases h
 |cons a t=>
  cases t with
  |nil=>exact⟨a,rfl⟩
  |cons b t=>cases h
def rH{α:Type}{l:List α}(h:l.length=2):∃a b,l=[a,b]:=by
 cases l with
 |nil=>cases h
 |cons a t=>
  obtain⟨b,rfl⟩:=rJ (Nat.succ.inj h);exact⟨a,b,rfl⟩
def C4 (B:bz X scope [x]):fR X scope [x] (.Name x px) (yA X.N.length) mC:=by
 refine⟨λXc c h=>?_,λv H vs os σ hσ ho hv=>?_⟩
 .exact ym (by rw[c.N];exact B.nd) (by rw[c.N];exact yq X.N [x] 0) (h x (by simp)).1 (h x (by simp)).2
 .cases hv;refine⟨rfl,?_,rfl⟩;obtain⟨o,rfl⟩:=rJ ho;rw[<-hσ,WB _ _ (Qo _)];simp
noncomputable def iL(K:Qb)(v:V)(H:Hp)(vs:List V):Prop:=∃a,v=.ref a/\bN K H a vs/\vs.length=2
def gu (hc:X.calm=true)(B:bz X scope [x,y]):fR X scope [x,y] (.Tuple [.Name x px,.Name y py] k pt) (fC X.K 2 (xk (yA X.N.length) (xk (yA (X.N.length+1)) eW))) (iL X.K):=by
 refine⟨λXc c h=>?_,λv H vs os σ hσ ho hv=>?_⟩
 .have nd:Xc.N.Nodup:=by rw[c.N];exact B.nd
  rw[<-c.K];exact kL c.calm (yi (ym nd (by rw[c.N];exact yq X.N [x,y] 0) (h x (by simp)).1 (h x (by simp)).2) (yi (ym nd (by rw[c.N];exact yq X.N [x,y] 1) (h y (by simp)).1 (h y (by simp)).2) vm))
 .obtain ⟨a,e1,e2,e3⟩:=hv;obtain⟨u,w,rfl⟩:=rH e3;obtain⟨o,p,rfl⟩:=rH ho;refine⟨rfl,a,[u,w],e1,e2,rfl,u,[w],rfl,w,[],rfl,rfl,?_,rfl⟩;rw[<-hσ,WB _ _ (Qo _),WB _ _ (by lia)];simp
def kF(B:bz X scope xs)(hc:X.calm=true)(hT:fR X scope xs tg g un)(hi:PI X tg iter wi)(hbody:∀Xc,bB X scope xs Xc->ir Xc ifs tc/\PE Xc elt te)
  (hs:∀v,II iter X.env v=pure v:=by intro _;rfl):PE X (.ListComp elt [⟨tg,iter,ifs,0⟩] scope pos) (jS un wi tc te):=by
 intro pins s σ H Q I h;rw[eval_ListComp];refine Jo (use:=none) (cl:=wZ X.env scope.names []) rfl hs (wX B I.ok) B.kind B.locs ?_;refine aT (hi pins s σ H _ I h) λxv s1 h1=>aT h1 λitv s2 h2=>?_;obtain⟨it,fp,tn,J,H2,e,I2,T,st2,f2,q2⟩:=h2;subst e;refine Jp ?_;have I3:=I2.lnew (its:=[]) (ys:=[]) (t':=s2.toks) .nil (WI _);obtain⟨W,⟨m0,w0⟩,turn⟩:=q2 s2.heap.objs.size (I2.hok.fresh (Qo _));have fp3:∀b∈fp,kB X pins (aI H2 s2.heap.objs.size (.lst [])) b:=λb hb=>by
  obtain⟨o,e,_⟩:=T.obj _ _ st2 b hb;exact⟨by rw[zg (QE (Qj e))];exact(f2 b hb).1,(f2 b hb).2⟩
 obtain⟨b1,b2,b3⟩:=I3.below;refine kR B hc hT.pg (λv H vs os h1 h2=>hT.un v H vs os σ I.len h1 h2) hbody I3 T (T.keep _ _ _ st2 λb _ o e=>Qe _ e) fp3 W m0 w0 λi m ys H4 w=>?_;rcases turn i m ys H4 w with⟨stop,q⟩|r
 .exact .inl ⟨stop,λs' m' C I' hn hC hCn=>⟨m',hn,λh' hsb=>⟨.ref s2.heap.objs.size,H4,I'.aside hC b1 b2 b3 hCn hsb,rfl,q⟩⟩⟩
 .exact .inr r
def FU (B:bz X scope xs)(hc:X.calm=true)(hT:fR X scope xs tg g un)(hi:PI X tg iter wi)(hbody:∀Xc,bB X scope xs Xc->ir Xc ifs tc/\PE Xc elt te)(hN:X.N.Nodup)(hy:X.N[i]?=some y)(hx:Loc X.env.scope y)(hf:X.fn y=true\/X.env.scope.names.lookup y=some .local)(hsw:Iq (.ListComp elt [⟨tg,iter,ifs,0⟩] scope pos) (some (.Name y py)) spos.line X.env=pure true)(hs:∀v,II iter X.env v=pure v:=by intro _;rfl):PS X (.Assign [.Name y py] (.ListComp elt [⟨tg,iter,ifs,0⟩] scope pos) spos) (fB (jS un wi tc te) (yA i)):=by
 intro pins s σ H D I h;rw[exec_Assign_Name_used _ _ _ _ hsw];refine Iu (Iw (Iu ?_));show Ic _ X.A (do let _ <-comprehension (.ListComp elt [⟨tg,iter,ifs,0⟩] scope pos) scope X.env _ (newList []) false (eval iter X.env) (some (assign (.Name y py) X.env))) _ _ s;refine Iu (Ii (Jo (use:=some (assign (.Name y py) X.env)) (cl:=wZ X.env scope.names []) (Q:=λ_ s'=>SP X pins D .next s') rfl hs (wX B I.ok) B.kind B.locs ?_)
  (λ_ s' hq=>IA (IA hq)) λ_ _ e=>e)
 refine aT (hi pins s σ H _ I h) λxv s1 h1=>aT h1 λitv s2 h2=>?_;obtain⟨it,fp,tn,J,H2,e,I2,T,st2,f2,q2⟩:=h2;subst e;refine Jp ?_;have I3:=I2.lnew (its:=[]) (ys:=[]) (t':=s2.toks) .nil (WI _);obtain⟨W,⟨m0,w0⟩,turn⟩:=q2 s2.heap.objs.size (I2.hok.fresh (Qo _));have fp3:∀b∈fp,kB X pins (aI H2 s2.heap.objs.size (.lst [])) b:=λb hb=>by
  obtain⟨o,e,_⟩:=T.obj _ _ st2 b hb;exact⟨by rw[zg (QE (Qj e))];exact(f2 b hb).1,(f2 b hb).2⟩
 obtain⟨b1,b2,b3⟩:=I3.below;refine kR B hc hT.pg (λv H vs os h1 h2=>hT.un v H vs os σ I.len h1 h2) hbody I3 T (T.keep _ _ _ st2 λb _ o e=>Qe _ e) fp3 W m0 w0 λi' m ys H4 w=>?_;rcases turn i' m ys H4 w with⟨stop,q⟩|r
 .refine .inl ⟨stop,λs' m' C I' hn hC hCn=>?_⟩;refine wpAny_assign_Name (jJ I' hN hy hx (v:=.ref s2.heap.objs.size) rfl (λs'' I'' ⟨a,sb,ha⟩=>?_) hf);have hCa:C≠a:=by
   rcases ha with rfl|ha
   .exact WA (Qk b1 hC)
   .exact WA (Qk (b2 _ _ ha) hC)
  exact⟨m',hn.sameBut sb hCa,λh' hsb=>⟨_,H4,I''.aside hC b1 b2 b3 hCn hsb,q⟩⟩
 .exact .inr r
end
section
variable{X:Cx}
theorem aw.at (h:aw xs us){i:Nat}(e:us[i]?=some u):∃x,xs[i]?=some x/\RelV x u:=by
 have hl:=h.length;have hi:=(Qa.mp e).1;have hx:xs[i]?=some xs[i]:=Qq (by lia);obtain⟨u',h1,h2⟩:=h.get hx;rw[e]at h1;cases h1;exact⟨_,hx,h2⟩
theorem kq(ns:List Int):∀n,n<=ns.length->preSum (λi=>ns.getD i 0) n=(ns.take n).sum
 |0,_=>by simp[preSum]
 |n+1,h=>by
  have e:ns[n]?=some (ns.getD n 0):=by rw[Qh,Qq (by lia)];rfl
  rw[preSum,kq ns n (by lia),QY,e,W8];simp
def qp(hc:X.calm=true):bu X (.builtin "sum") (λxs H Q=>∃(p:Addr) (ns:List Int),xs=[.ref p]/\bp X.K H p (ns.map V.int)/\Q (.int ns.sum) H):=by
 intro pins s σ H xs us Q I r h;obtain⟨p,ns,rfl,hq,q⟩:=h;obtain⟨u,rfl,rx⟩:=ko r;cases rx;obtain⟨its,r',pl,hz⟩:=I.list hq;have hlen:=r'.length;have hp:∃o,s.heap.get? p=some o:=by obtain⟨o,ho,_⟩:=pl.isList;exact⟨o,ho⟩
 obtain⟨o,ho⟩:=hp;have hlt:=Qj ho;refine call_sum_walkG (IG pl.isList ?_);refine⟨s.heap.objs.size,_,_,_,_,_,λi=>ns.getD i 0,rfl,Walks.list (A:=X.A.in1) (I.ok.hd hc) s.heap.objs.size p (QE hlt) its.toArray,⟨⟨_,Qw _ rfl,rfl,rfl⟩,pl.isList.at λo e=>Qe _ e⟩,?_,?_,λh' tk t' hk=>?_⟩
 .intro b hb;have h1:s.heap.objs.size<(s.heap.push {cls:=.type "list_iterator",data:=.fields #[.ref p,.int 0 0]}).objs.size:=Qj (Qw _ rfl);have:b=s.heap.objs.size\/b=p:=by simpa using hb
  rcases this with rfl|rfl
  .exact h1
  .exact Nat.lt_trans hlt h1
 .intro i v hv;have hv':its[i]?=some v:=by simpa using hv
  obtain⟨y,hy,ry⟩:=r'.at hv';rw[Ql]at hy;cases hb:ns[i]? with
  |none=>rw[hb]at hy;cases hy
  |some b=>
   rw[hb]at hy;cases hy;obtain⟨t,rfl⟩:=(ry:∃t,v=.int b t);have e:ns.getD i 0=b:=by rw[Qh,hb];rfl
   exact⟨t,by show Value.int b t=Value.int (ns.getD i 0) t;rw[e]⟩
 .have e:its.toArray.size=ns.length:=by simp at hlen ⊢;lia
  rw[e,kq ns ns.length (Qo _),VR];exact⟨.int ns.sum,H,I.kept (t':=tk) λb o e=>hk b o (λhb=>by
   have:b=s.heap.objs.size:=by simpa using hb
   exact Kc (Qj e) (by rw[this];exact We _)) (Qe _ e),⟨t',rfl⟩,q⟩
noncomputable def iE(lo st:Int)(n:Nat):It:=⟨λi _=>i<n,λi H x H'=>H'=H/\x=.int (lo+(i:Nat)*st),λi _=>n<=i⟩
def qr {K:Qb}(it:Addr)(lo st:Int)(n:Nat):cY P w K tg (iE lo st n) [it] it (λi h=>ID h it (lo+(i:Nat)*st) ((n:Int)-(i:Nat)) st) where
 mem:=by simp
 obj:=λi h st b hb=>by
  have e:b=it:=by simpa using hb
  subst e;exact⟨_,st,λv z=>by
   have z':Data.fields _=Data.cell v:=z;cases z'⟩
 keep:=λi h h' st k=>k it (by simp) _ st
 item:=by
  intro X hP hw hK hc i pins s σ H E I hf st0 hg;subst hP hw hK;obtain⟨f0,f1,f2,f3,f4,f5⟩:=hf it (by simp);have W:=Walks.range (prog:=X.prog) (w:=X.w) (I.ok.hd hc) it lo st n;refine W.item i s _ _ hg st0 λv h' tk hv st' kk=>?_;obtain⟨t,rfl⟩:=hv;have I1:Inv X pins σ H {s with heap:=h',toks:=tk}:=I.turned (λb o hb e=>kk b o (by simpa using hb) e) f0 f1 f3 f4 f5;exact⟨_,rfl,iI (s:={s with heap:=h',toks:=tk}) (n:="range_iterator") st' rfl rfl (by decide) ⟨.int (lo+(i:Nat)*st),H,I1,⟨t,rfl⟩,⟨rfl,rfl⟩,st',λb hb=>(hf b hb).1⟩⟩
 done:=by
  intro X hP hw hK hc i pins s σ H E I hf st0 hg;subst hP hw hK;obtain⟨f0,f1,f2,f3,f4,f5⟩:=hf it (by simp);exact IE (I.ok.hd hc) st0 (by have:n<=i:=hg;lia) λh' eb=>⟨rfl,I.turned (t':=s.toks) (λb o hb e=>eb b o hb e) f0 f1 f3 f4 f5⟩
 self:=λ_ _ _ _ _ st h=>IF st h
def wu(a b:Int):Builtin.Range.rangeSize a b (-1)=if b<a then a-b else 0:=by
 unfold Builtin.Range.rangeSize;simp only[show ¬((-1:Int) > 0) by decide,if_false];split<;>(simp;try lia)
def FT (ha:-(2^62)<=a)(ha':a<2^62)(hb:-(2^62)<=b)(hb':b<2^62):Builtin.Range.small a b (-1)=true:=by
 unfold Builtin.Range.small;rw[wu];simp only[Builtin.Range.rangeFitsLong,Qx,WR,Kh,beq_iff_eq,show ¬((-1:Int) > 0) by decide,if_false];split<;>lia
def wv(a b:Int):Builtin.Range.rangeSize a b (-2)=if b<a then(a-b-1)/2+1 else 0:=by
 unfold Builtin.Range.rangeSize;simp only[show ¬((-2:Int) > 0) by decide,if_false];rfl
def FS (ha:-(2^62)<=a)(ha':a<2^62)(hb:-(2^62)<=b)(hb':b<2^62):Builtin.Range.small a b (-2)=true:=by
 unfold Builtin.Range.small;rw[wv];simp only[Builtin.Range.rangeFitsLong,Qx,WR,Kh,beq_iff_eq,show ¬((-2:Int) > 0) by decide,if_false];split<;>lia
noncomputable def kD(i j k:Int):Nat:=if k=1 then(j-i).toNat else if k=-1 then(i-j).toNat else((i-j+1)/2).toNat
def Ep (hk:k=1\/k=-1\/k=-2):Builtin.Range.rangeSize i j k=(kD i j k:Int):=by
 rcases hk with rfl|rfl|rfl
 .rw[IH];unfold kD;rw[Ka rfl];split<;>lia
 .have e:kD i j (-1)=(i-j).toNat:=rfl;rw[wu,e];split<;>lia
 .have e:kD i j (-2)=((i-j+1)/2).toNat:=rfl;rw[wv,e];split<;>lia
noncomputable def um(ta:TA):TI:=λσ H R=>ta σ H λvs H1=>∃i j k:Int,vs=[.int i,.int j,.int k]/\(-(2^30)<=i/\i<2^30/\-(2^30)<=j/\j<2^30)/\(k=1\/k=-1\/k=-2)/\R (iE i k (kD i j k)) H1
def EF (hg:Gl X "range")(hm:X.mg "range"=none)(ha:PA X [a,b,c] ta)(hs:Ih [a,b,c] X.env=[(false,eval a X.env),(false,eval b X.env),(false,eval c X.env)]:=by rfl)(hs2:Ih [b,c] X.env=[(false,eval b X.env),(false,eval c X.env)]:=by rfl):
  PI X tg (.Call (.Name "range" p) [a,b,c] [] pos) (um ta):=by
 intro pins s σ H R I h;refine Call_ (xf I hg hm boot_range (PyProof.Rows.callWith_type1 (aT (ha pos pins s σ H _ I h) λus s1 ⟨vs,H1,I1,r1,q1⟩=>?_) (by rw[hs,hs2]) (by rw[hs2];rfl)));obtain⟨i,j,k,e,⟨q1,q2,q3,q4⟩,hk,q⟩:=q1;subst e;cases r1 with
 |cons r rr=>
  cases rr with
  |cons r' rr=>
   cases rr with
   |cons r'' rr=>
   cases rr;obtain⟨t,rfl⟩:=r;obtain⟨t',rfl⟩:=r';obtain⟨t'',rfl⟩:=r'';refine call_range_3 (by lia) ?_ (.inl (PyProof.noPylong_small (by lia)));refine wpAny_pyIter_range (IsRange.new ..) (by rcases hk with rfl|rfl|rfl;exact small_one (by lia) (by lia) (by lia) (by lia);exact FT (by lia) (by lia) (by lia) (by lia);exact FS (by lia) (by lia) (by lia) (by lia)) ?_;have I2:Inv X pins σ H1 {s1 with heap:=s1.heap.push {cls:=.type "range",data:=.fields #[.int i t,.int j t',.int k t'']},toks:=s1.toks}:=I1.kept λb o e=>Qe _ e;refine⟨(s1.heap.push {cls:=.type "range",data:=.fields #[.int i t,.int j t',.int k t'']}).objs.size,[(s1.heap.push {cls:=.type "range",data:=.fields #[.int i t,.int j t',.int k t'']}).objs.size],_,_,H1,rfl,
    I2.kept (t':=s1.toks) λb o e=>Qe _ e,qr _ i k (kD i j k),?_,λb hb=>?_,q⟩
   .have e1:i+((0:Nat):Int)*k=i:=by simp
    show ID _ _ (i+((0:Nat):Int)*k) (((kD i j k:Nat):Int)-((0:Nat):Int)) k;rw[e1,<-Ep hk,show(Builtin.Range.rangeSize i j k)-((0:Nat):Int)=Builtin.Range.rangeSize i j k by simp];exact Qw _ rfl
   .have e:b=(s1.heap.push {cls:=.type "range",data:=.fields #[.int i t,.int j t',.int k t'']}).objs.size:=by simpa using hb
    subst e;exact I2.fpOk (Qo _) (I2.hok.fresh (Qo _))
noncomputable def ul(ta:TA):TE:=λσ H Q=>ta σ H λvs H1=>∃j:Int,vs=[.int j]/\-(2^30)<=j/\j<2^24/\j.toNat<=sizeLine/\∀l,H1 l=none->Q (.ref l) (aI H1 l (.lst ((Qr j.toNat).map λ(i:Nat)=>V.int ((0:Int)+1*(i:Int)))))
def C3 (hc:X.calm=true)(hgl:Gl X "list")(hml:X.mg "list"=none)(hg:Gl X "range")(hm:X.mg "range"=none)(ha:PA X [a] ta)(hs:Ih [a] X.env=[(false,eval a X.env)]:=by rfl):
  PE X (.Call (.Name "list" p) [.Call (.Name "range" p') [a] [] pos'] [] pos) (ul ta):=by
 intro pins s σ H Q I h;refine IS (xf I hgl hml PyProof.Rows.boot_list ?_ (by decide) (by decide));refine PyProof.Rows.callWith_type1 ?_ rfl rfl;refine Calls.spliced_cons ?_;refine Call_ (xf I hg hm boot_range (PyProof.Rows.callWith_type1 (aT (ha pos' pins s σ H _ I h) λus s1 ⟨vs,H1,I1,r1,q1⟩=>?_) hs rfl));obtain⟨j,e,q1,q2,q3,q⟩:=q1;subst e;cases r1 with
 |cons r rr=>
  cases rr;obtain⟨t,rfl⟩:=r;refine call_range_1 (Calls.spliced_nil ?_);have hn:Builtin.Range.rangeSize 0 j 1=(j.toNat:Int):=by rw[IH];split<;>lia
  refine call_list_range (n:=j.toNat) (I1.ok.hd hc) (IsRange.new ..) (small_one (by lia) (by lia) (by lia) (by lia)) hn (by lia) λh' tk acc' c' kp e hacc=>?_;have I2:Inv X pins σ H1 {s1 with heap:=s1.heap.push {cls:=.type "range",data:=.fields #[.int 0 s1.toks,.int j t,.int 1 (s1.toks+1)]},toks:=s1.toks+1+1}:=I1.kept λb o e=>Qe _ e;have hv:aw ((Qr j.toNat).map λ(i:Nat)=>V.int ((0:Int)+1*(i:Int))) acc'.toList:=by
   have gen:∀(us:List Value) (n:Nat),us.length=n->∀m:Nat,(∀i v,us[i]?=some v->∃t,v=Value.int ((0:Int)+((m+i:Nat):Int)*1) t)->aw ((List.range' m n).map λ(i:Nat)=>V.int ((0:Int)+1*(i:Int))) us:=by
    intro us
    induction us with
    |nil=>intro n hn m _;simp at hn;subst hn;exact .nil
    |cons u us ih=>
     intro n hn m hu;cases n with
     |zero=>simp at hn
     |succ n=>
      rw[List.range'_succ,Wm];obtain⟨t,rfl⟩:=hu 0 u rfl;refine .cons ⟨t,?_⟩ (ih n (by simpa using hn) (m+1) λi v hv=>?_)
      .congr 1;simp
      .obtain ⟨t,e⟩:=hu (i+1) v (by simpa using hv);exact⟨t,by rw[e];congr 2;congr 1;lia⟩
   have:=gen acc'.toList j.toNat (by rw[Q3];exact hacc.1) 0 (λi v hv=>by
    obtain⟨t,e⟩:=hacc.2 i v (by simpa using hv);exact⟨t,by rw[e];simp⟩)
   rw[<-List.range_eq_range']at this;exact this
  refine⟨.ref _,_,I2.laid (t':=tk) kp (Qo _) (show br X.prog X.w _ h' _ (.lst ((Qr j.toNat).map λ(i:Nat)=>V.int ((0:Int)+1*(i:Int))))from⟨by simpa using q3,acc'.toList,c',hv,by simpa using e⟩),rfl,q _ (I2.hok.fresh (Qo _))⟩
end
section
variable{prog:HS}{w:HU}{A:HY}{E:Value->Shared->Prop}
def Eo (ne:l≠it):∀(n i:Nat) (s:Shared) (Q:List Value->Shared->Prop),s.heap.IsListIter it l i->s.heap.IsList l its->i+n<=its.size ->
  (∀h',h'.IsListIter it l (i+n)->WH it s.heap h'->Q ((its.toList.drop i).take n) {s with heap:=h' })->Ic (Ie prog w) A (draw (.ref it) n) Q E s:=by
 intro n
 induction n with
 |zero=>
  intro i s Q h1 _ _ k;exact IA (by simpa using k s.heap h1 (WH.refl ..))
 |succ n ih=>
  intro i s Q h1 h2 hle k;have lt:i<its.size:=by lia
  show Ic _ _ (Iy (.ref it) >>= _) Q E s;refine Iu (IB h1 h2 (x:=its[i]) (by simp[lt]) λhA pA qA=>?_);refine Iu (Iv (ih (i+1) _ _ pA (h2.extBut qA.extBut ne) (by lia) λhB pB qB=>IA ?_));have z:=k hB (by rw[show i+(n+1)=i+1+n by lia];exact pB) (qA.trans qB);rw[show its.toList.drop i=its[i]::its.toList.drop (i+1)from by simp[QM,lt],List.take_succ_cons]at z;exact z
def EE (hh:A.handled=none)(p:s.heap.IsList l its)(k:∀h',VW s.heap.objs.size s.heap h'->Q its.toList {s with heap:=h' }):Ic (Ie prog w) A (unpackItems (.ref l) its.size none) Q E s:=by
 have ne:l≠s.heap.objs.size:=by obtain⟨o,e,_⟩:=p;exact QE (Qj e)
 unfold unpackItems notIterableAtAll;refine Iu (Iu (Jq p.typeIs slot_list_iter.lookup (IA ?_)));simp only[Q0,if_false];refine Iu (Iv (IG p (Iu (Iv (Eo ne its.size 0 _ _ ⟨_,Qw _ rfl,rfl,rfl⟩ (p.push _) (by lia) λhA pA qA=>?_)))));rw[show List.take its.size (List.drop 0 its.toList)=its.toList from by rw[V5];exact QL (by simp),Kb (by simp)];refine Iu (Iv (IC hh pA ((p.push _).extBut qA.extBut ne) (by simp) λhB qB=>?_));simp only[Option.isSome_none,Q0,if_false];exact IA (k hB λb o hb e=>qB b o hb (qA.extBut b o hb (Qe _ e)))
def FR {k}(hh:A.handled=none)(p:s.heap.IsList l its)(hn:(Is es env).length=its.size)(hst:(Is es env).findIdx? (·.1)=none)(h:∀h',VW s.heap.objs.size s.heap h'->Ic (Ie prog w) A (assignInOrder ((Is es env).map (·.2)) its.toList) Q E {s with heap:=h' }):
  Ic (Ie prog w) A (assign (.Tuple es k pos) env (.ref l)) Q E s:=by
 rw[PyProof.Rows.assign_Tuple];refine Iu (Iw ?_);unfold unpack;rw[hn,hst];exact Iu (Iv (EE hh p h))
end
section
variable{X:Cx}{pos:Pos}
noncomputable def oD(K:Qb)(n:Nat)(t:dL):TG:=λv σ H Q=>∃a xs,v=.ref a/\bp K H a xs/\xs.length=n/\t xs σ H Q
def AT (hc:X.calm=true)(h:fS X es t)(hn:(Is es X.env).length=n)(hst:(Is es X.env).findIdx? (·.1)=none):PG X (.Tuple es k pos) (oD X.K n t):=by
 intro pins s σ H v u Q I r hw;obtain⟨a,xs,rfl,hq,hl,hw⟩:=hw;cases r;obtain⟨its,rv,p,hz⟩:=I.list hq;refine FR (I.ok.hd hc) p.isList (by simp[hn,<-hl,rv.length]) hst λh' hx=>?_;exact h pins _ σ H xs _ Q (I.kept (t':=s.toks) λb o e=>hx b o (QE (Qj e)) e) (by simpa using rv) hw
noncomputable def oC(K:Qb)(n:Nat)(t:dL):TG:=λv σ H Q=>fC K n t v σ H Q\/oD K n t v σ H Q
def AS (hc:X.calm=true)(h:fS X es t)(hn:(Is es X.env).length=n:=by rfl)(hst:(Is es X.env).findIdx? (·.1)=none:=by rfl):PG X (.Tuple es k pos) (oC X.K n t):=by
 intro pins s σ H v u Q I r hw;rcases hw with hw|hw
 .exact kL hc h hn hst pins s σ H v u Q I r hw
 .exact AT hc h hn hst pins s σ H v u Q I r hw
end
abbrev TK:=List Int×Addr×Value
noncomputable def uN(x:TK):HR:=⟨reduceHash (Builtin.Tuple.tupleHashOf (x.1.map hashInt)),.ref x.2.1,x.2.2⟩
noncomputable def uM(d:Addr)(xs:List TK):HO:=.ext λh=>(d==sysModules)=false/\∃o es,h.get? d=some o/\o.ExactDict/\o.data=.dict es xs.length/\es.toList=xs.map uN/\(xs.map (·.1)).Nodup
theorem C2:∀{k:List Int}{us:List Value},aw (k.map V.int) us->ItemsAre (intKind P w) k us
 |[],_,.nil=>.nil
 |i::_,_,.cons p q=>by
  obtain⟨t,rfl⟩:=p;exact .cons (by show Value.isInt i (.int i t)=true;simp[Value.isInt]) (C2 q)
noncomputable def uL(K:Qb)(H:Hp)(d:Addr)(xs:List TK):Prop:=H d=some (uM d xs)/\∀x∈xs,bN K H x.2.1 (x.1.map V.int)
end L2
namespace Mini
inductive Wd where
 |non|bl (b:Bool)|int (i:Int)|str (s:List Nat)|tup (xs:List Wd)|rol (xs:List Wd)|ref (l:Nat)
deriving Inhabited
set_option genInjectivity false in
inductive Ob where
 |lst (xs:List Wd)
deriving Inhabited
abbrev Me:=List Ob
set_option tactic.hygienic true in
abbrev En:=List (Option Wd)
set_option genInjectivity false in
inductive Rz where
 |ok (w:Wd) (m:Me)|exc (c:Nat) (w:Wd) (m:Me)|no
deriving Inhabited
set_option genInjectivity false in
inductive Rs where
 |next (e:En) (m:Me)|ret (w:Wd) (m:Me)|brk (e:En) (m:Me)|cont (e:En) (m:Me)
 |exc (c:Nat) (w:Wd) (e:En) (m:Me)|no
deriving Inhabited
inductive Bo where|add|sub|mul|fdiv|mod|pow|shr|band
deriving DecidableEq
inductive Co where|eq|ne|lt|le|isin
deriving DecidableEq
inductive Tg where|int|bool|list|tuple|str|dict
deriving DecidableEq
inductive dZ where|len|int|list|sum|abs|max2
deriving DecidableEq
inductive dG where|append|reverse
deriving DecidableEq
inductive Kd where|zip|enum|prs|ptp
deriving DecidableEq
inductive Dk where|srt|rvl
deriving DecidableEq
set_option genInjectivity false in
inductive Ex where
 |var (i:Nat)|lit (w:Wd)
 |bin (op:Bo) (a b:Ex)|neg (a:Ex)|not (a:Ex)|and (a b:Ex)|or (a b:Ex)
 |cmp (op:Co) (a b:Ex)|chain (p q:Co) (a b c:Ex)
 |unit|pair (a b:Ex)
 |call (k:Nat) (args:Ex)|blt (b:dZ) (args:Ex)|isi (t:Tg) (a:Ex)
 |lst (args:Ex)|tup (args:Ex)
 |idx (a b:Ex)
 |meth (n:dG) (o args:Ex)
 |rng (a b c:Ex)
 |comp (elt it cond:Ex)
 |lrng (a:Ex)
 |compP (k:Kd) (elt a b cond:Ex)
 |dop (k:Dk) (a b c:Ex)
deriving Inhabited
set_option genInjectivity false in
inductive Sm where
 |skip|seq (a b:Sm)
 |asg (i:Nat) (e:Ex)|asgS (o i e:Ex)
 |ite (c:Ex) (a b:Sm)|forv (i:Nat) (it:Ex) (body:Sm)|fort (i j:Nat) (it:Ex) (body:Sm)|while (c:Ex) (body:Sm)
 |ret (e:Ex)  |expr (e:Ex)   |never
 |unp3 (i j k:Nat) (e:Ex)
deriving Inhabited
noncomputable def av:Nat:=100000
noncomputable def cq:Int:=18446744073709551616
noncomputable def small(i:Int):Bool:=decide (-cq<i)&&decide (i<cq)
noncomputable def cL(p:Wd->Wd->Option Bool):List Wd->List Wd->Option Bool
 |x::xs,y::ys=>match p x y with
  |some a=>(cL p xs ys).map (a && ·)
  |none=>none
 |_,_=>some true
noncomputable def b2i(b:Bool):Int:=if b then 1 else 0
noncomputable def bb(m:Me)(l:Nat):Bool:=match m[l]? with
 |some (.lst _)=>true
 |_=>false
noncomputable def Hk:Wd->Bool
 |.rol _=>false
 |_=>true
noncomputable def cv(m:Me):Nat->Wd->Wd->Option Bool
 |0,_,_=>none
 |k+1,x,y=>match x,y with
  |.tup a,.tup b=>(cL (cv m k) a b).map (· && decide (a.length=b.length))
  |.ref a,.ref b=>if a=b then(if bb m a then some true else none)else match m[a]?,m[b]? with
   |some (.lst xs),some (.lst ys)=>if xs.length=ys.length then cL (cv m k) xs ys else some false
   |_,_=>none
  |.ref a,.int _=>if bb m a&&true then some false else none
  |.ref a,.tup _=>if bb m a&&true then some false else none
  |.int _,.ref b=>if bb m b&&true then some false else none
  |.tup _,.ref b=>if bb m b&&true then some false else none
  |.int a,.int b=>some (decide (a=b))
  |.int _,.tup _=>some false
  |.tup _,.int _=>some false
  |_,_=>none
noncomputable def yL:Nat:=12
noncomputable def eg(p:Wd->Wd->Option Bool)(x:Wd):List Wd->Option Bool
 |[]=>some false
 |y::ys=>match p y x with
  |some a=>(eg p x ys).map (a || ·)
  |none=>none
noncomputable def ix(n:Nat)(i:Int):Option Nat:=
 if 0<=i then(if i<n then some i.toNat else none)else if -(n:Int)<=i then some (i+n).toNat else none
noncomputable def alloc(m:Me)(xs:List Wd):Rz:=if xs.length<=av then .ok (.ref m.length) (m++[.lst xs])else .no
noncomputable def zC(m:Me)(l:Nat):Option (List Wd):=match m[l]? with
 |some (.lst xs)=>some xs
 |_=>none
noncomputable def yW(m:Me):Wd->Option (List Wd)
 |.tup xs=>some xs
 |.rol xs=>some xs
 |.ref l=>zC m l
 |_=>none
noncomputable def di(op:Bo)(x y:Wd)(m:Me):Rz:=match x,y with
 |.int i,.int j=>match op with
  |.add=>.ok (.int (i+j)) m
  |.sub=>.ok (.int (i-j)) m
  |.mul=>if small i || small j then .ok (.int (i*j)) m else .no
  |.fdiv=>if 0<j/\j<1073741824 then .ok (.int (i/j)) m else .no
  |.mod=>if 0<j then .ok (.int (i%j)) m else .no
  |.pow=>if 0<=j/\j<=1000000/\small i=true then .ok (.int (i^j.toNat)) m else .no
  |.shr=>if 0<=j/\j<=1000 then .ok (.int (i/2^j.toNat)) m else .no
  |.band=>if 0<=i/\j=1 then .ok (.int (i%2)) m else .no
 |.ref a,.ref b=>match op,m[a]?,m[b]? with
  |.add,some (.lst xs),some (.lst ys)=>alloc m (xs++ys)
  |_,_,_=>.no
 |.ref a,.int k=>match op,m[a]? with
  |.mul,some (.lst xs)=>if -av<=k/\k<=av then alloc m (Qz k.toNat xs).flatten else .no
  |_,_=>.no
 |.tup xs,.tup ys=>match op with
  |.add=>if xs.length+ys.length<=av then .ok (.tup (xs++ys)) m else .no
  |_=>.no
 |_,_=>.no
noncomputable def dI(o:Option Bool)(m:Me):Rz:=match o with
 |some b=>.ok (.bl b) m
 |none=>.no
noncomputable def qt(r:Int->Int->Bool)(x y:Wd)(m:Me):Rz:=match x,y with
 |.int i,.int j=>.ok (.bl (r i j)) m
 |_,_=>.no
noncomputable def ww:List Wd->Option (List Int)
 |[]=>some []
 |.int i::r=>(ww r).map (i::·)
 |_=>none
noncomputable def cV(op:Co)(x y:Wd)(m:Me):Rz:=match op with
 |.eq=>dI (cv m yL x y) m
 |.ne=>dI ((cv m yL x y).map (!·)) m
 |.isin=>match yW m y with
  |some ys=>dI (eg (cv m yL) x ys) m
  |none=>.no
 |.lt=>qt (λi j=>decide (i<j)) x y m
 |.le=>qt (λi j=>decide (i<=j)) x y m
noncomputable def dw(t:Tg)(x:Wd)(m:Me):Option Bool:=match t,x with
 |.int,.int _=>some true
 |.int,.bl _=>some true
 |.bool,.bl _=>some true
 |.str,.str _=>some true
 |.tuple,.tup _=>some true
 |.list,.rol _=>some true
 |t,.ref l=>match m[l]? with
  |some (.lst _)=>some (decide (t=.list))
  |none=>none
 |_,_=>some false
noncomputable def F9(n d:Nat):Option Int->Nat
 |none=>d
 |some v=>if v<0 then(v+(n:Int)).toNat else min v.toNat n
noncomputable def vS:List Wd->Option Int
 |[]=>some 0
 |.int i::r=>(vS r).map (i+·)
 |_=>none
noncomputable def kS(m:Me):Wd->Option (List Wd)
 |.rol xs=>some xs
 |.ref l=>zC m l
 |_=>none
noncomputable def dJ:List Int->List Int->Bool
 |[],[]=>false
 |[],_::_=>true
 |_::_,[]=>false
 |x::xs,y::ys=>if x=y then dJ xs ys else decide (x<y)
noncomputable def kr:List (List Int)->Bool
 |x::y::r=>dJ x y&&(decide (x.length=y.length)&&decide (x.head?=y.head?))&&kr (y::r)
 |_=>true
noncomputable def fy{α β:Type}:List α->(List α->β)->β
 |[],k=>k []
 |x::xs,k=>fy xs λys=>k (x::ys)
theorem vt:∀(xs:List α) (k:List α->β),fy xs k=k xs
 |[],_=>rfl
 |x::xs,k=>vt xs λys=>k (x::ys)
noncomputable def lA{β:Type}(i:Int)(k:Int->β):β:=match i with
 |.ofNat 0=>k 0
 |.ofNat (n+1)=>k (.ofNat (n+1))
 |.negSucc 0=>k (-1)
 |.negSucc (n+1)=>k (.negSucc (n+1))
def C1 (i:Int)(k:Int->β):lA i k=k i:=by
 cases i with
 |ofNat n=>cases n<;>rfl
 |negSucc n=>cases n<;>rfl
noncomputable def ig{β:Type}:List Int->(List Int->β)->β
 |[],k=>k []
 |x::xs,k=>lA x λy=>ig xs λys=>k (y::ys)
theorem rW:∀(xs:List Int) (k:List Int->β),ig xs k=k xs
 |[],_=>rfl
 |x::xs,k=>by
  show lA x (λy=>ig xs λys=>k (y::ys))=_;rw[C1,rW]
noncomputable def iH{β:Type}:List (List Int)->(List (List Int)->β)->β
 |[],k=>k []
 |x::xs,k=>ig x λy=>iH xs λys=>k (y::ys)
theorem qu:∀(xs:List (List Int)) (k:List (List Int)->β),iH xs k=k xs
 |[],_=>rfl
 |x::xs,k=>by
  show ig x (λy=>iH xs λys=>k (y::ys))=_;rw[rW,qu]
noncomputable def kT{α:Type}(p:List Int×α):List (List Int×α)->List (List Int×α)
 |[]=>[p]
 |q::r=>if dJ p.1 q.1 then p::q::r else q::kT p r
noncomputable def xb{α:Type}:List (List Int×α)->List (List Int×α)
 |[]=>[]
 |p::r=>fy (xb r) λs=>kT p s
def wJ (p:List Int×α)(r:List (List Int×α)):xb (p::r)=kT p (xb r):=vt (xb r) λs=>kT p s
noncomputable def wx(α:Type)(ks:List (List Int))(xs:List α):Option (List α):=iH ks λks=>fy xs λxs=>fy (ks.zip xs) λz=>fy (xb z) λs=>if kr (s.map Prod.fst)then some (s.map Prod.snd)else none
def qw(α:Type)(ks:List (List Int))(xs:List α):wx α ks xs=if kr ((xb (ks.zip xs)).map Prod.fst)then some ((xb (ks.zip xs)).map Prod.snd)else none:=by
 unfold wx;rw[qu,vt,vt,vt]
noncomputable def Gd(ns:List Int):List Int:=ns.mergeSort λa b=>decide (a<=b)
noncomputable def w5(b:dZ)(ws:List Wd)(m:Me):Rz:=match b with
 |.len=>match ws with
  |[x]=>match yW m x with
   |some xs=>.ok (.int xs.length) m
   |none=>.no
  |_=>.no
 |.int=>match ws with
  |[.int i]=>.ok (.int i) m
  |[.bl b]=>.ok (.int (b2i b)) m
  |_=>.no
 |.list=>match ws with
  |[x]=>match yW m x with
   |some xs=>alloc m xs
   |none=>.no
  |_=>.no
 |.sum=>match ws with
  |[x]=>match (kS m x).bind vS with
   |some i=>.ok (.int i) m
   |none=>.no
  |_=>.no
 |.abs=>match ws with
  |[.int i]=>.ok (.int (if i<0 then -i else i)) m
  |_=>.no
 |.max2=>match ws with
  |[.int i,.int j]=>.ok (.int (if j > i then j else i)) m
  |_=>.no
noncomputable def du(n:dG)(o:Wd)(ws:List Wd)(m:Me):Rz:=match o with
 |.ref l=>match m[l]? with
  |some (.lst xs)=>match n,ws with
   |.append,[y]=>if xs.length<av then .ok .non (m.set l (.lst (xs++[y])))else .no
   |.reverse,[]=>.ok .non (m.set l (.lst xs.reverse))
   |_,_=>.no
  |_=>.no
 |_=>.no
noncomputable def yY(x:Wd)(m:Me):Bool:=match x with
 |.ref l=>bb m l
 |_=>false
noncomputable def gv(o i v:Wd)(m:Me):Rz:=match o,i with
 |.ref l,.int k=>match m[l]? with
  |some (.lst xs)=>match ix xs.length k with
   |some j=>.ok .non (m.set l (.lst (xs.set j v)))
   |none=>.no
  |_=>.no
 |_,_=>.no
noncomputable def vu(x y:Wd)(m:Me):Rz:=match y with
 |.int i=>match yW m x with
  |some xs=>match (ix xs.length i).bind λj=>xs[j]? with
   |some v=>.ok v m
   |none=>.no
  |none=>.no
 |_=>.no
noncomputable def qx(lo st:Int):Nat->List Wd
 |0=>[]
 |n+1=>.int lo::qx (lo+st) st n
noncomputable def qy:List Wd->Option (List (List Int))
 |[]=>some []
 |.tup ws::r=>match ww ws,qy r with
  |some [a,b,c],some ks=>some ([a,b,c]::ks)
  |_,_=>none
 |_=>none
noncomputable def ie(x:Wd)(m:Me):Option (List (List Int)):=match x with
 |.ref l=>(zC m l).bind qy
 |_=>none
noncomputable def oB(k:Dk)(x:Wd)(m:Me):Bool:=match k with
 |.srt=>true
 |.rvl=>true
noncomputable def fx(k:Dk)(x y z:Wd)(m:Me):Rz:=match k with
 |.srt=>match ie x m with
  |some ks=>match wx (List Int) (ks.map (0::·)) ks with
   |some es=>alloc m (es.reverse.map λk=>.tup [.int (k.getD 1 0),.int (k.getD 2 0)])
   |none=>.no
  |none=>.no
 |.rvl=>match kS m x with
  |some xs=>alloc m xs.reverse
  |none=>.no
noncomputable def wV(a b c:Int):Nat:=if c=1 then(b-a).toNat else if c=-1 then(a-b).toNat else if c=-2 then((a-b+1)/2).toNat else 0
noncomputable def fw(a b c:Wd)(m:Me):Rz:=match a,b,c with
 |.int a,.int b,.int c=>if -av<=a/\a<=av/\-av<=b/\b<=av/\(c=1\/c=-1\/c=-2)then .ok (.tup (qx a c (wV a b c))) m else .no
 |_,_,_=>.no
noncomputable def Rz.bind(r:Rz)(f:Wd->Me->Rz):Rz:=match r with
 |.ok w m=>f w m
 |r=>r
noncomputable def xl(c e:Wd->Me->Rz):List Wd->List Wd->Me->Rz
 |[],acc,m=>alloc m acc
 |x::xs,acc,m=>(c x m).bind λb m1=>match b with
  |.bl true=>(e x m1).bind λy m2=>if acc.length<av then xl c e xs (acc++[y]) m2 else .no
  |.bl false=>xl c e xs acc m1
  |_=>.no
noncomputable def xm(c e:Wd->Me->Rz)(l:Nat):Nat->Nat->List Wd->Me->Rz
 |0,_,_,_=>.no
 |k+1,i,acc,m=>match zC m l with
  |none=>.no
  |some xs=>match xs[i]? with
   |none=>alloc m acc
   |some x=>(c x m).bind λb m1=>match b with
    |.bl true=>(e x m1).bind λy m2=>if acc.length<av then xm c e l k (i+1) (acc++[y]) m2 else .no
    |.bl false=>xm c e l k (i+1) acc m1
    |_=>.no
noncomputable def oT:Wd->Option (Wd×Wd)
 |.tup [x,y]=>some (x,y)
 |_=>none
noncomputable def vT(m:Me):Wd->Option (List Wd)
 |.tup xs=>some xs
 |.ref l=>zC m l
 |_=>none
noncomputable def zT(k:Kd)(x y:Wd)(i:Nat)(m:Me):Option (Option (Wd×Wd)):=match k,x,y with
 |.zip,x,y=>match vT m x,vT m y with
  |some xs,some ys=>some (match xs[i]?,ys[i]? with
   |some x,some y=>some (x,y)
   |_,_=>none)
  |_,_=>none
 |.enum,.ref la,.int s=>match zC m la with
  |some xs=>some (xs[i]?.map λx=>(.int (s+(i:Int)),x))
  |none=>none
 |.prs,.ref la,.int _=>match zC m la with
  |some xs=>match xs[i]? with
   |none=>some none
   |some w=>(oT w).map some
  |none=>none
 |.ptp,.tup xs,.int _=>match xs[i]? with
  |none=>some none
  |some w=>(oT w).map some
 |_,_,_=>none
noncomputable def yX(c e:Wd->Wd->Me->Rz)(g:Nat->Me->Option (Option (Wd×Wd))):Nat->Nat->List Wd->Me->Rz
 |0,_,_,_=>.no
 |k+1,i,acc,m=>match g i m with
  |none=>.no
  |some none=>alloc m acc
  |some (some (x,y))=>(c x y m).bind λb m1=>match b with
   |.bl true=>(e x y m1).bind λz m2=>if acc.length<av then yX c e g k (i+1) (acc++[z]) m2 else .no
   |.bl false=>yX c e g k (i+1) acc m1
   |_=>.no
noncomputable def zt:Wd->List Wd
 |.tup xs=>xs
 |_=>[]
noncomputable def ah(cl:Nat->List Wd->Me->Rz):Ex->En->Me->Rz
 |.var i,env,m=>match env[i]? with
  |some (some w)=>.ok w m
  |_=>.no
 |.lit w,_,m=>.ok w m
 |.bin op a b,env,m=>(ah cl a env m).bind λx m1=>(ah cl b env m1).bind λy m2=>di op x y m2
 |.neg a,env,m=>(ah cl a env m).bind λx m1=>match x with
  |.int i=>.ok (.int (-i)) m1
  |_=>.no
 |.not a,env,m=>(ah cl a env m).bind λx m1=>match x with
  |.bl b=>.ok (.bl (! b)) m1
  |_=>.no
 |.and a b,env,m=>(ah cl a env m).bind λx m1=>match x with
  |.bl true=>ah cl b env m1
  |.bl false=>.ok (.bl false) m1
  |_=>.no
 |.or a b,env,m=>(ah cl a env m).bind λx m1=>match x with
  |.bl false=>ah cl b env m1
  |.bl true=>.ok (.bl true) m1
  |_=>.no
 |.cmp op a b,env,m=>(ah cl a env m).bind λx m1=>(ah cl b env m1).bind λy m2=>cV op x y m2
 |.chain p q a b c,env,m=>(ah cl a env m).bind λx m1=>(ah cl b env m1).bind λy m2=>(cV p x y m2).bind λz m3=>match z with
  |.bl true=>(ah cl c env m3).bind λu m4=>cV q y u m4
  |.bl false=>.ok (.bl false) m3
  |_=>.no
 |.unit,_,m=>.ok (.tup []) m
 |.pair a b,env,m=>(ah cl a env m).bind λx m1=>(ah cl b env m1).bind λy m2=>.ok (.tup (x::zt y)) m2
 |.call k a,env,m=>(ah cl a env m).bind λx m1=>cl k (zt x) m1
 |.blt b a,env,m=>(ah cl a env m).bind λx m1=>w5 b (zt x) m1
 |.isi t a,env,m=>(ah cl a env m).bind λx m1=>dI (dw t x m1) m1
 |.lst a,env,m=>(ah cl a env m).bind λx m1=>alloc m1 (zt x)
 |.tup a,env,m=>(ah cl a env m).bind λx m1=>if(zt x).length<=av then .ok (.tup (zt x)) m1 else .no
 |.idx a b,env,m=>(ah cl a env m).bind λx m1=>(ah cl b env m1).bind λy m2=>vu x y m2
 |.dop k a b c,env,m=>(ah cl a env m).bind λx m1=>match oB k x m1 with
  |true=>(ah cl b env m1).bind λy m2=>(ah cl c env m2).bind λz m3=>fx k x y z m3
  |false=>.no
 |.meth n o a,env,m=>(ah cl o env m).bind λx m1=>match yY x m1 with
  |true=>(ah cl a env m1).bind λy m2=>du n x (zt y) m2
  |false=>.no
 |.rng a b c,env,m=>(ah cl a env m).bind λx m1=>(ah cl b env m1).bind λy m2=>(ah cl c env m2).bind λz m3=>fw x y z m3
 |.comp elt it cond,env,m=>(ah cl it env m).bind λx m1=>match x with
  |.tup xs=>xl (λx m=>ah cl cond (env++[some x]) m) (λx m=>ah cl elt (env++[some x]) m) xs [] m1
  |.rol xs=>xl (λx m=>ah cl cond (env++[some x]) m) (λx m=>ah cl elt (env++[some x]) m) xs [] m1
  |.ref l=>xm (λx m=>ah cl cond (env++[some x]) m) (λx m=>ah cl elt (env++[some x]) m) l (av+1) 0 [] m1
  |_=>.no
 |.compP k elt a b cond,env,m=>(ah cl a env m).bind λx m1=>(ah cl b env m1).bind λy m2=>
  yX (λu v m=>ah cl cond (env++[some u]++[some v]) m) (λu v m=>ah cl elt (env++[some u]++[some v]) m) (zT k x y) (av+1) 0 [] m2
 |.lrng a,env,m=>(ah cl a env m).bind λx m1=>match x with
  |.int j=>if -av<=j/\j<=av then alloc m1 (qx 0 1 j.toNat)else .no
  |_=>.no
noncomputable def wr(body:Wd->En->Me->Rs):List Wd->En->Me->Rs
 |[],env,m=>.next env m
 |x::xs,env,m=>match body x env m with
  |.next e1 m1=>wr body xs e1 m1
  |.cont e1 m1=>wr body xs e1 m1
  |.brk e1 m1=>.next e1 m1
  |r=>r
noncomputable def wt(body:Wd->En->Me->Rs)(l:Nat):Nat->Nat->En->Me->Rs
 |0,_,_,_=>.no
 |k+1,i,env,m=>match zC m l with
  |none=>.no
  |some xs=>match xs[i]? with
   |none=>.next env m
   |some x=>match body x env m with
    |.next e1 m1=>wt body l k (i+1) e1 m1
    |.cont e1 m1=>wt body l k (i+1) e1 m1
    |.brk e1 m1=>.next e1 m1
    |r=>r
noncomputable def ku(c:En->Me->Rz)(body:En->Me->Rs):Nat->En->Me->Rs
 |0,_,_=>.no
 |k+1,env,m=>match c env m with
  |.ok (.bl true) m1=>match body env m1 with
   |.next e1 m2=>ku c body k e1 m2
   |.cont e1 m2=>ku c body k e1 m2
   |.brk e1 m2=>.next e1 m2
   |r=>r
  |.ok (.bl false) m1=>.next env m1
  |.exc c w m1=>.exc c w env m1
  |_=>.no
noncomputable def Rz.bindS(r:Rz)(env:En)(f:Wd->Me->Rs):Rs:=match r with
 |.ok w m=>f w m
 |.exc c w m=>.exc c w env m
 |.no=>.no
noncomputable def eY(body:Wd->En->Me->Rs)(w:Wd)(env:En)(m:Me):Rs:=match w with
 |.tup xs=>wr body xs env m
 |.rol xs=>wr body xs env m
 |.ref l=>wt body l (av+1) 0 env m
 |_=>.no
noncomputable def cP(i j:Nat):Wd->En->Option En:=λw env=>match w with
 |.tup [a,b]=>some ((env.set i (some a)).set j (some b))
 |_=>none
noncomputable def cW(i j k:Nat)(w:Wd)(m:Me)(env:En):Option En:=match yW m w with
 |some [a,b,c]=>some (((env.set i (some a)).set j (some b)).set k (some c))
 |_=>none
noncomputable def yM(st:Wd->En->Option En)(b:En->Me->Rs):Wd->En->Me->Rs:=λw env m=>match st w env with
 |some env'=>b env' m
 |none=>.no
noncomputable def aX(cl:Nat->List Wd->Me->Rz):Sm->En->Me->Rs
 |.skip,env,m=>.next env m
 |.seq a b,env,m=>match aX cl a env m with
  |.next e1 m1=>aX cl b e1 m1
  |r=>r
 |.asg i e,env,m=>(ah cl e env m).bindS env λw m1=>.next (env.set i (some w)) m1
 |.asgS o i e,env,m=>(ah cl e env m).bindS env λw m1=>(ah cl o env m1).bindS env λx m2=>(ah cl i env m2).bindS env λy m3=>(gv x y w m3).bindS env λ_ m4=>.next env m4
 |.ite c a b,env,m=>(ah cl c env m).bindS env λx m1=>match x with
  |.bl true=>aX cl a env m1
  |.bl false=>aX cl b env m1
  |_=>.no
 |.forv i it body,env,m=>(ah cl it env m).bindS env λw m1=>eY (λx e m=>aX cl body (e.set i (some x)) m) w env m1
 |.fort i j it body,env,m=>(ah cl it env m).bindS env λw m1=>eY (yM (cP i j) (aX cl body)) w env m1
 |.while c body,env,m=>ku (ah cl c) (aX cl body) 1000000 env m
 |.ret e,env,m=>(ah cl e env m).bindS env λw m1=>.ret w m1
 |.expr e,env,m=>(ah cl e env m).bindS env λ_ m1=>.next env m1
 |.unp3 i j k e,env,m=>(ah cl e env m).bindS env λw m1=>match cW i j k w m1 env with
  |some e1=>.next e1 m1
  |none=>.no
 |.never,_,_=>.no
set_option genInjectivity false in
structure Fn where
 ar:Nat
 sz:Nat
 body:Sm
deriving Inhabited
noncomputable def yr(fn:Fn)(ws:List Wd):En:=ws.map some++Qz (fn.sz-ws.length) none
noncomputable def xH(cl:Nat->List Wd->Me->Rz)(fn:Fn)(ws:List Wd)(m:Me):Rz:=
 if ws.length=fn.ar then match aX cl fn.body (yr fn ws) m with
  |.next _ m1=>.ok .non m1
  |.ret w m1=>.ok w m1
  |.exc c w _ m1=>.exc c w m1
  |_=>.no
 else .no
noncomputable def yC(T:List Fn):Nat->Nat->List Wd->Me->Rz
 |0,_,_,_=>.no
 |d+1,k,ws,m=>match T[k]? with
  |some fn=>xH (yC T d) fn ws m
  |none=>.no
end Mini
namespace Mini
open PySem PySem.Spec PyProof.Rows L2
abbrev St:=L2.St
noncomputable def KL(K:Qb)(a:Addr)(xs:List V):Prop:=
 ∃(o:Obj) (its:Array Value) (n:Nat),K.lookup a=some o/\o.cls=.type "list" /\ o.dict=none/\o.data=.seq its n/\its.size<=sizeLine/\aw xs its.toList
noncomputable def eD(K:Qb)(H:Hp)(a:Addr)(vs:List V):Prop:=(∃o,H a=some (.frz o (.lst vs)))\/KL K a vs
def eD.sq {K:Qb}(h:eD K H a vs):bp K H a vs:=by
 rcases h with h|h
 .exact .inl (.inr h)
 .exact .inr h
mutual
noncomputable def ai(K:Qb)(as:List Addr)(H:Hp):Wd->V->Prop
 |.non,v=>v=.non
 |.bl b,v=>v=.bl b
 |.int i,v=>v=.int i
 |.str s,v=>v=.str ⟨s.toArray⟩
 |.tup xs,v=>∃a vs,v=.ref a/\bN K H a vs/\ae K as H xs vs
 |.rol xs,v=>∃a vs,v=.ref a/\eD K H a vs/\ae K as H xs vs
 |.ref l,v=>∃a,as[l]?=some a/\v=.ref a
noncomputable def ae(K:Qb)(as:List Addr)(H:Hp):List Wd->List V->Prop
 |[],vs=>vs=[]
 |x::xs,vs=>∃v r,vs=v::r/\ai K as H x v/\ae K as H xs r
end
noncomputable def bK(K:Qb)(as:List Addr)(H:Hp):Ob->Addr->Prop
 |.lst ws,a=>∃vs,H a=some (.lst vs)/\ae K as H ws vs
structure aK(K:Qb)(as:List Addr)(m:Me)(H:Hp):Prop where
 len:as.length=m.length
 nd:as.Nodup
 obj:∀(l:Nat) (a:Addr) (o:Ob),as[l]?=some a->m[l]?=some o->bK K as H o a
structure Step(as:List Addr)(H:Hp)(as':List Addr)(H':Hp):Prop where
 pre:∃t,as'=as++t
 frame:∀b o,H b=some o->b∉as->H' b=some o
 fresh:∀a∈as',a∈as\/H a=none
section
variable{K:Qb}{as as' as2:List Addr}{H H' H2:Hp}{m m':Me}
def Step.refl:Step as H as H:=⟨⟨[],by simp⟩,λ_ _ h _=>h,λ_ h=>.inl h⟩
def Step.get (T:Step as H as' H'){l:Nat}(h:as[l]?=some a):as'[l]?=some a:=by
 obtain⟨t,rfl⟩:=T.pre;rw[Qi (Qa.mp h).1];exact h
def Step.out (T:Step as H as' H')(h:H b=some o)(hb:b∉as):b∉as':=λz=>by
 rcases T.fresh b z with q|q
 .exact hb q
 .rw[h]at q;cases q
def Step.trans(T:Step as H as' H')(U:Step as' H' as2 H2):Step as H as2 H2:=by
 refine⟨?_,λb o h hb=>U.frame b o (T.frame b o h hb) (T.out h hb),λa ha=>?_⟩
 .obtain ⟨t,rfl⟩:=T.pre;obtain⟨u,rfl⟩:=U.pre;exact⟨t++u,by simp⟩
 .rcases U.fresh a ha with q|q
  .exact T.fresh a q
  .by_cases z:a∈as
   .exact .inl z
   .refine .inr ?_;cases e:H a with
    |none=>rfl
    |some o=>rw[T.frame a o e z]at q;cases q
def aK.get (S:aK K as m H){l:Nat}(h:m[l]?=some o):∃a,as[l]?=some a/\bK K as H o a:=by
 have hl:l<as.length:=by rw[S.len];exact(Qa.mp h).1
 exact⟨as[l],by simp[hl],S.obj l _ o (by simp[hl]) h⟩
noncomputable def LD:HO->Prop
 |.lst _=>True
 |.ext _=>True
 |_=>False
def aK.isLst (S:aK K as m H)(h:a∈as):∃o,H a=some o/\LD o:=by
 obtain⟨l,hl,rfl⟩:=VG.mp h;have hm:l<m.length:=by rw[<-S.len];exact hl
 have q:=S.obj l as[l] m[l] (by simp[hl]) (by simp[hm]);cases e:m[l]with
 |lst ws=>
  rw[e]at q;obtain⟨vs,h1,_⟩:=q;exact⟨_,h1,trivial⟩
def Em (nt:∀a∈as,∃o,H a=some o/\LD o)(T:Step as H as' H')(h:bN K H a vs):bN K H' a vs:=by
 rcases h with h|h
 .have hn:a∉as:=λz=>by
   obtain⟨u,e,hu⟩:=nt a z;rcases h with h|⟨o,h⟩<;>rw[e]at h<;>cases h<;>exact hu
  rcases h with h|⟨o,h⟩
  .exact .inl (.inl (T.frame _ _ h hn))
  .exact .inl (.inr ⟨o,T.frame _ _ h hn⟩)
 .exact .inr h
def El (nt:∀a∈as,∃o,H a=some o/\LD o)(T:Step as H as' H')(h:eD K H a vs):eD K H' a vs:=by
 rcases h with⟨o,h⟩|h
 .have hn:a∉as:=λz=>by
   obtain⟨u,e,hu⟩:=nt a z;rw[e]at h;cases h;exact hu
  exact .inl ⟨o,T.frame _ _ h hn⟩
 .exact .inr h
structure Kp(K:Qb)(H H':Hp):Prop where
 t:∀a vs,bN K H a vs->bN K H' a vs
 f:∀a vs,eD K H a vs->eD K H' a vs
def aK.kp(S:aK K as m H)(T:Step as H as' H'):Kp K H H':=⟨λ_ _ h=>Em (λ_ z=>S.isLst z) T h,λ_ _ h=>El (λ_ z=>S.isLst z) T h⟩
def Kp.updL{D:Addr}{u o:HO}(h:H D=some u)(hu:LD u):Kp K H (L2.aI H D o):=by
 refine⟨λa vs q=>?_,λa vs q=>?_⟩
 .rcases q with (q|⟨x,q⟩)|q
  .exact .inl (.inl (by rw[zg (by rintro rfl;rw[h]at q;cases q;exact hu)];exact q))
  .exact .inl (.inr ⟨x,by rw[zg (by rintro rfl;rw[h]at q;cases q;exact hu)];exact q⟩)
  .exact .inr q
 .rcases q with⟨x,q⟩|q
  .exact .inl ⟨x,by rw[zg (by rintro rfl;rw[h]at q;cases q;exact hu)];exact q⟩
  .exact .inr q
def Kp.upd{D:Addr}{ys:List V}{o:HO}(h:H D=some (.lst ys)):Kp K H (L2.aI H D o):=Kp.updL h trivial
mutual
theorem kU(k:Kp K H H')(g:∀(l:Nat) (a:Addr),as[l]?=some a->as'[l]?=some a):∀(w:Wd) (v:V),ai K as H w v->ai K as' H' w v
 |.non,_,h=>by rw[ai]at h ⊢;exact h
 |.bl _,_,h=>by rw[ai]at h ⊢;exact h
 |.int _,_,h=>by rw[ai]at h ⊢;exact h
 |.str _,_,h=>by rw[ai]at h ⊢;exact h
 |.tup xs,v,h=>by
  rw[ai]at h ⊢;obtain⟨a,vs,e,q,r⟩:=h;exact⟨a,vs,e,k.t _ _ q,bj k g xs vs r⟩
 |.rol xs,v,h=>by
  rw[ai]at h ⊢;obtain⟨a,vs,e,q,r⟩:=h;exact⟨a,vs,e,k.f _ _ q,bj k g xs vs r⟩
 |.ref l,v,h=>by
  rw[ai]at h ⊢;obtain⟨a,q,e⟩:=h;exact⟨a,g _ _ q,e⟩
theorem bj(k:Kp K H H')(g:∀(l:Nat) (a:Addr),as[l]?=some a->as'[l]?=some a):∀(ws:List Wd) (vs:List V),ae K as H ws vs->ae K as' H' ws vs
 |[],_,h=>by rw[ae]at h ⊢;exact h
 |x::xs,vs,h=>by
  rw[ae]at h ⊢;obtain⟨v,r,e,q,t⟩:=h;exact⟨v,r,e,kU k g x v q,bj k g xs r t⟩
end
def ai.mono{w:Wd}{v:V}(h:ai K as H w v)(S:aK K as m H)(T:Step as H as' H'):ai K as' H' w v:=kU (S.kp T) (λ_ _ e=>T.get e) w v h
def ae.mono{ws:List Wd}{vs:List V}(h:ae K as H ws vs)(S:aK K as m H)(T:Step as H as' H'):ae K as' H' ws vs:=bj (S.kp T) (λ_ _ e=>T.get e) ws vs h
def ae.kp{ws:List Wd}{vs:List V}(h:ae K as H ws vs)(k:Kp K H H'):ae K as H' ws vs:=bj k (λ_ _ e=>e) ws vs h
def ai.kp{w:Wd}{v:V}(h:ai K as H w v)(k:Kp K H H'):ai K as H' w v:=kU k (λ_ _ e=>e) w v h
def aG:ai K as H .non v↔v=.non:=by rw[ai]
def am:ai K as H (.bl b) v↔v=.bl b:=by rw[ai]
def aa:ai K as H (.int i) v↔v=.int i:=by rw[ai]
def aM:ai K as H (.str s) v↔v=.str ⟨s.toArray⟩:=by rw[ai]
def aj:ai K as H (.tup xs) v↔∃a vs,v=.ref a/\bN K H a vs/\ae K as H xs vs:=by rw[ai]
def aV:ai K as H (.rol xs) v↔∃a vs,v=.ref a/\eD K H a vs/\ae K as H xs vs:=by rw[ai]
def aD:ai K as H (.ref l) v↔∃a,as[l]?=some a/\v=.ref a:=by rw[ai]
def ay:ae K as H [] vs↔vs=[]:=by rw[ae]
def ak:ae K as H (x::xs) vs↔∃v r,vs=v::r/\ai K as H x v/\ae K as H xs r:=by rw[ae]
theorem ae.length:∀{xs:List Wd}{vs:List V},ae K as H xs vs->xs.length=vs.length
 |[],vs,h=>by rw[ay.mp h];rfl
 |x::xs,vs,h=>by
  obtain⟨v,r,rfl,_,t⟩:=ak.mp h;simp[ae.length t]
theorem ae.get:∀{xs:List Wd}{vs:List V}{i:Nat}{x:Wd},ae K as H xs vs->xs[i]?=some x->∃v,vs[i]?=some v/\ai K as H x v
 |[],_,_,_,_,e=>by simp at e
 |x::xs,vs,0,y,h,e=>by
  obtain⟨v,r,rfl,q,t⟩:=ak.mp h;simp at e;subst e;exact⟨v,rfl,q⟩
 |x::xs,vs,i+1,y,h,e=>by
  obtain⟨v,r,rfl,q,t⟩:=ak.mp h;obtain⟨u,h1,h2⟩:=ae.get (i:=i) (x:=y) t (by simpa using e);exact⟨u,by simpa using h1,h2⟩
def ae.back:∀{xs:List Wd}{vs:List V}{i:Nat}{v:V},ae K as H xs vs->vs[i]?=some v->∃x,xs[i]?=some x/\ai K as H x v:=λ{xs vs i v} h e=>by
 have hi:i<xs.length:=by rw[h.length];exact(Qa.mp e).1
 obtain⟨u,h1,h2⟩:=h.get (i:=i) (x:=xs[i]) (by simp[hi]);rw[e]at h1;cases h1;exact⟨xs[i],by simp[hi],h2⟩
theorem ae.append:∀{xs ys:List Wd}{vs us:List V},ae K as H xs vs->ae K as H ys us->ae K as H (xs++ys) (vs++us)
 |[],ys,vs,us,h,h'=>by rw[ay.mp h];exact h'
 |x::xs,ys,vs,us,h,h'=>by
  obtain⟨v,r,rfl,q,t⟩:=ak.mp h;exact ak.mpr ⟨v,r++us,rfl,q,t.append h'⟩
def ae.one{x:Wd}{v:V}(h:ai K as H x v):ae K as H [x] [v]:=ak.mpr ⟨v,[],rfl,h,ay.mpr rfl⟩
theorem ae.set:∀{xs:List Wd}{vs:List V}{x:Wd}{v:V}(i:Nat),ae K as H xs vs->ai K as H x v->ae K as H (xs.set i x) (vs.set i v)
 |[],vs,_,_,_,h,_=>by rw[ay.mp h];exact ay.mpr rfl
 |y::xs,vs,x,v,0,h,hx=>by
  obtain⟨u,r,rfl,q,t⟩:=ak.mp h;exact ak.mpr ⟨v,r,rfl,hx,t⟩
 |y::xs,vs,x,v,i+1,h,hx=>by
  obtain⟨u,r,rfl,q,t⟩:=ak.mp h;exact ak.mpr ⟨u,r.set i v,rfl,q,t.set i hx⟩
set_option tactic.hygienic true in
theorem ae.take:∀{xs:List Wd}{vs:List V}(n:Nat),ae K as H xs vs->ae K as H (xs.take n) (vs.take n)
 |_,_,0,_=>ay.mpr rfl
 |[],vs,n+1,h=>by rw[ay.mp h];exact ay.mpr rfl
 |x::xs,vs,n+1,h=>by
  obtain⟨v,r,rfl,q,t⟩:=ak.mp h;exact ak.mpr ⟨v,r.take n,rfl,q,t.take n⟩
theorem ae.reverse:∀{xs:List Wd}{vs:List V},ae K as H xs vs->ae K as H xs.reverse vs.reverse
 |[],vs,h=>by rw[ay.mp h];exact ay.mpr rfl
 |x::xs,vs,h=>by
  obtain⟨v,r,rfl,q,t⟩:=ak.mp h;rw[Wp,Wp];exact t.reverse.append (.one q)
theorem ae.dropLast:∀{xs:List Wd}{vs:List V},ae K as H xs vs->ae K as H xs.dropLast vs.dropLast:=λ{xs vs} h=>by
 rw[List.dropLast_eq_take,List.dropLast_eq_take,h.length];exact h.take _
theorem ae.rep (h:ae K as H xs vs):∀k:Nat,ae K as H (Qz k xs).flatten (Qz k vs).flatten
 |0=>ay.mpr rfl
 |k+1=>by
  rw[QW,QW,Wg,Wg];exact h.append (ae.rep h k)
structure aB(K:Qb)(as:List Addr)(H:Hp)(env:En)(σ:St):Prop where
 len:env.length=σ.length
 get:∀(i:Nat) (w:Wd),env[i]?=some (some w)->∃v,σ[i]?=some (some v)/\ai K as H w v
theorem aB.mono{env:En}{σ:St}(G:aB K as H env σ)(S:aK K as m H)(T:Step as H as' H'):aB K as' H' env σ:=
 ⟨G.len,λi w e=>let⟨v,h1,h2⟩:=G.get i w e;⟨v,h1,h2.mono S T⟩⟩
theorem aB.kp{env:En}{σ:St}(G:aB K as H env σ)(k:Kp K H H'):aB K as H' env σ:=
 ⟨G.len,λi w e=>let⟨v,h1,h2⟩:=G.get i w e;⟨v,h1,h2.kp k⟩⟩
theorem aB.set{env:En}{σ:St}(G:aB K as H env σ){w:Wd}{v:V}(h:ai K as H w v)(i:Nat):aB K as H (env.set i (some w)) (σ.set i (some v)):=by
 refine⟨by simp[G.len],λj x e=>?_⟩;by_cases hj:j=i
 .subst hj;have hl:j<env.length:=by
   have:=(Qa.mp e).1;simpa using this
  rw[Wa hl]at e;cases e;exact⟨v,Wa (by rw[<-G.len];exact hl),h⟩
 .rw[QA (Ne.symm hj)]at e;obtain⟨u,h1,h2⟩:=G.get j x e;exact⟨u,by rw[QA (Ne.symm hj)];exact h1,h2⟩
def aB.push{env:En}{σ:St}(G:aB K as H env σ){w:Wd}{v:V}(h:ai K as H w v):aB K as H (env++[some w]) (σ++[some v]):=by
 refine⟨by simp[G.len],λj x e=>?_⟩;by_cases hj:j<env.length
 .rw[Qi hj]at e;obtain⟨u,h1,h2⟩:=G.get j x e;exact⟨u,by rw[Qi (by rw[<-G.len];exact hj)];exact h1,h2⟩
 .rw[Qd (by lia)]at e;have hz:j-env.length=0:=by
   cases hq:j-env.length with
   |zero=>rfl
   |succ k=>rw[hq]at e;simp at e
  rw[hz]at e;simp at e;subst e;refine⟨v,?_,h⟩;rw[Qd (by rw[<-G.len];lia),<-G.len,hz];rfl
noncomputable def ao(K:Qb)(as:List Addr)(H:Hp)(Q:VK)(r:Rz):Prop:=match r with
 |.ok w m'=>∀as' H' v,Step as H as' H'->aK K as' m' H'->ai K as' H' w v->Q v H'
 |_=>False
def ao.step{Q:VK}{r:Rz}(h:ao K as H Q r)(T:Step as H as' H'):ao K as' H' Q r:=by
 cases r with
 |ok w m'=>exact λas2 H2 v U S R=>h as2 H2 v (T.trans U) S R
 |exc c w m'=>exact h
 |no=>exact h
theorem ao.bind{Q Q1:VK}{r:Rz}{f:Wd->Me->Rz}(h:ao K as H Q (r.bind f))
  (k:∀w m' as' H' v,Step as H as' H'->aK K as' m' H'->ai K as' H' w v->ao K as' H' Q (f w m')->Q1 v H'):ao K as H Q1 r:=by
 cases r with
 |ok w m'=>exact λas2 H2 v U S R=>k w m' as2 H2 v U S R (ao.step (r:=f w m') h U)
 |exc c w m'=>exact h
 |no=>exact h
def fU (h:ao K as H Q (r.bind f))(T:Step as H as' H')(k:∀w m2 as2 H2 v,Step as' H' as2 H2->aK K as2 m2 H2->ai K as2 H2 w v->ao K as H Q (f w m2)->Q1 v H2):ao K as' H' Q1 r:=by
 cases r with
 |ok w m'=>exact λas2 H2 v U S R=>k w m' as2 H2 v U S R h
 |exc c w m'=>exact h
 |no=>exact h
noncomputable def aL(K:Qb)(g:En->Me->Rz):TE:=λσ H Q=>∃as env m,aK K as m H/\aB K as H env σ/\ao K as H Q (g env m)
noncomputable def xI(K:Qb)(g:En->Me->Rz):TT:=λσ H Q=>aL K g σ H λv H'=>∃b,v=.bl b/\Q b H'
theorem ao.ok (h:ao K as H Q (.ok w m))(S:aK K as m H)(R:ai K as H w v):Q v H:=h as H v .refl S R
end
def PE.imp{X:Cx}{e:Expr}{t t':TE}(h:PE X e t)(k:∀σ H Q,t' σ H Q->t σ H Q):PE X e t':=λpins s σ H Q I q=>h pins s σ H Q I (k σ H Q q)
def PT.imp{X:Cx}{e:Expr}{t t':TT}(h:PT X e t)(k:∀σ H Q,t' σ H Q->t σ H Q):PT X e t':=λpins s σ H Q I q=>h pins s σ H Q I (k σ H Q q)
def PA.imp{X:Cx}{es:List Expr}{t t':TA}(h:PA X es t)(k:∀σ H Q,t' σ H Q->t σ H Q):PA X es t':=λpos pins s σ H Q I q=>h pos pins s σ H Q I (k σ H Q q)
def PS.imp{X:Cx}{st:Stmt}{t t':TS}(h:PS X st t)(k:∀D σ H,t' D σ H->t D σ H):PS X st t':=λpins s σ H D I q=>h pins s σ H D I (k D σ H q)
def bZ.imp{X:Cx}{st:List Stmt}{t t':TS}(h:bZ X st t)(k:∀D σ H,t' D σ H->t D σ H):bZ X st t':=λpins s σ H D I q=>h pins s σ H D I (k D σ H q)
end Mini
namespace L2
open PySem PySem.Spec PyProof.Rows
section
variable{X:Cx}
noncomputable def oS(K:Qb):R2:=λx y H Q=>∃a b ys,x=.ref a/\y=.ref b/\bN K H a []/\bN K H b ys/\Q (.ref b) H
def C0:cb X (IJ .Add) (oS X.K):=by
 intro pins s σ H x y v u Q I rx ry h;obtain⟨a,b,ys,rfl,rfl,ha,hb,q⟩:=h;cases rx;cases ry;obtain⟨its,r1,p1,_⟩:=I.tuple ha;obtain⟨its2,r2,p2,_⟩:=I.tuple hb;cases r1;obtain⟨⟨c1,d1,f1,l1⟩,g1,e1,n1,k1⟩:=p1;obtain⟨⟨c2,d2,f2,l2⟩,g2,e2,n2,k2⟩:=p2;simp only at e1 e2 k1 k2;subst e1 e2 k1 k2;have m:=tuple_addW0 a b #[] its2.toArray n1 n2 d1 d2 l1 l2 rfl;exact IX ⟨_,g1,rfl⟩ ⟨_,g2,rfl⟩ IY IZ PySem.F.slot_tuple_add PySem.F.entry_tuple_add (PySem.F.args_tuple_add_2 _ _) m ⟨g1,g2,.ref b,H,I,rfl,q⟩
end
end L2
namespace Mini
open PySem PySem.Spec PyProof.Rows L2
section
variable{K:Qb}{as:List Addr}{H H':Hp}{m:Me}{Q:VK}{a p:Addr}{l:Nat}{ws xs:List Wd}{vs us:List V}
def yR:av<=sizeLine:=by rw[IK];decide
def aK.new(S:aK K as m H)(hp:H p=none):p∉as:=λz=>by
 obtain⟨us,e,_⟩:=S.isLst z;rw[hp]at e;cases e
def aK.alloc(S:aK K as m H)(hp:H p=none)(R:ae K as H ws vs):Step as H (as++[p]) (aI H p (.lst vs))/\aK K (as++[p]) (m++[.lst ws]) (aI H p (.lst vs)):=by
 have hn:=S.new hp;have T:Step as H (as++[p]) (aI H p (.lst vs)):=⟨⟨[p],rfl⟩,λb o h _=>by rw[zg (zA h hp)];exact h,λb hb=>by
  rcases Qu.mp hb with z|z
  .exact .inl z
  .exact .inr (by rw[QH.mp z];exact hp)⟩
 refine⟨T,⟨by simp[S.len],?_,λl b o h1 h2=>?_⟩⟩
 .refine QF.mpr ⟨S.nd,by simp,λx hx y hy=>?_⟩;rw[QH.mp hy];rintro rfl;exact hn hx
 .by_cases hl:l<as.length
  .rw[Qi hl]at h1;rw[Qi (by rw[<-S.len];exact hl)]at h2;have q:=S.obj l b o h1 h2;cases o with
   |lst ys=>
    obtain⟨zs,e,r⟩:=q;exact⟨zs,by rw[zg (zA e hp)];exact e,r.mono S T⟩
  .rw[Qd (by lia)]at h1;rw[Qd (by rw[<-S.len];lia)]at h2;have hz:l-as.length=0:=by
    cases hq:l-as.length with
    |zero=>rfl
    |succ k=>rw[hq]at h1;simp at h1
   rw[hz]at h1;rw[<-S.len,hz]at h2;simp at h1 h2;subst h1;subst h2;exact⟨vs,zf,R.mono S T⟩
theorem aK.set(S:aK K as m H)(ha:as[l]?=some a)(hm:m[l]?=some (.lst xs))(R:ae K as H ws vs):Step as H as (aI H a (.lst vs))/\aK K as (m.set l (.lst ws)) (aI H a (.lst vs)):=by
 have hin:a∈as:=Qt ha;have T:Step as H as (aI H a (.lst vs)):=⟨⟨[],by simp⟩,λb o h hb=>by
  rw[zg (by rintro rfl;exact hb hin)];exact h,λb hb=>.inl hb⟩
 refine⟨T,⟨by simp[S.len],S.nd,λk b o h1 h2=>?_⟩⟩;by_cases hk:k=l
 .subst hk;rw[ha]at h1;cases h1;rw[Wa (Qa.mp hm).1]at h2;cases h2;exact⟨vs,zf,R.mono S T⟩
 .rw[QA (Ne.symm hk)]at h2;have q:=S.obj k b o h1 h2;have hb:b≠a:=by
   rintro rfl;obtain⟨i1,e1⟩:=Qa.mp h1;obtain⟨i2,e2⟩:=Qa.mp ha;exact hk ((Vx S.nd).mp (e1.trans e2.symm))
  cases o with
  |lst ys=>
   obtain⟨zs,e,r⟩:=q;exact⟨zs,by rw[zg hb];exact e,r.mono S T⟩
def aK.keep(S:aK K as m H)(T:Step as H as H')(hk:∀a∈as,∀o,H a=some o->H' a=some o):aK K as m H':=by
 refine⟨S.len,S.nd,λl b o h1 h2=>?_⟩;have q:=S.obj l b o h1 h2;cases o with
 |lst ys=>
  obtain⟨zs,e,r⟩:=q;exact⟨zs,hk b (Qt h1) _ e,r.mono S T⟩
theorem aK.tup(S:aK K as m H)(hp:H p=none)(R:ae K as H ws vs):Step as H as (aI H p (.tup vs))/\aK K as m (aI H p (.tup vs))/\ai K as (aI H p (.tup vs)) (.tup ws) (.ref p):=by
 have T:Step as H as (aI H p (.tup vs)):=⟨⟨[],by simp⟩,λb o h _=>by rw[zg (zA h hp)];exact h,λb hb=>.inl hb⟩;exact⟨T,S.keep T λb _ o e=>by rw[zg (zA e hp)];exact e,aj.mpr ⟨p,vs,rfl,bN.of zf,R.mono S T⟩⟩
def xR(S:aK K as m H)(R:ae K as H ws vs)(h:ao K as H Q (alloc m ws)):vs.length<=av/\∀p,H p=none->Q (.ref p) (aI H p (.lst vs)):=by
 unfold Mini.alloc at h;by_cases hl:ws.length<=av
 .rw[Ka hl]at h;refine⟨by rw[<-R.length];exact hl,λp hp=>?_⟩;obtain⟨T,S'⟩:=S.alloc hp R;refine h _ _ _ T S' (aD.mpr ⟨p,?_,rfl⟩);rw[<-S.len,Qd (Qo _)];simp
 .rw[Kb hl]at h;exact h.elim
def zW(S:aK K as m H)(hm:m[l]?=some (.lst xs)):∃a vs,as[l]?=some a/\H a=some (.lst vs)/\ae K as H xs vs:=by
 obtain⟨a,ha,vs,e,r⟩:=S.get hm;exact⟨a,vs,ha,e,r⟩
def zN (h:zC m l=some xs):m[l]?=some (.lst xs):=by
 unfold zC at h;cases e:m[l]? with
 |none=>rw[e]at h;cases h
 |some o=>cases o with
  |lst ys=>rw[e]at h;cases h;rfl
def gw (S:aK K as m H)(R:ai K as H w v)(h:yW m w=some xs):∃p vs,v=.ref p/\(bp K H p vs\/bN K H p vs)/\ae K as H xs vs:=by
 cases w with
 |tup ys=>
  cases h;obtain⟨b,vs,rfl,q,r⟩:=aj.mp R;exact⟨b,vs,rfl,.inr q,r⟩
 |rol ys=>
  cases h;obtain⟨b,vs,rfl,q,r⟩:=aV.mp R;exact⟨b,vs,rfl,.inl q.sq,r⟩
 |ref l=>
  obtain⟨b,hb,rfl⟩:=aD.mp R;obtain⟨a,vs,ha,e,r⟩:=zW S (zN h);rw[hb]at ha;cases ha;exact⟨b,vs,rfl,.inl (bp.of e),r⟩
 |non=>cases h
 |bl b=>cases h
 |int i=>cases h
 |str s=>cases h
noncomputable def mU:Bo->Operator
 |.add=>.Add |.sub=>.Sub |.mul=>.Mult |.fdiv=>.FloorDiv |.mod=>.Mod |.pow=>.Pow |.shr=>.RShift |.band=>.BitAnd
noncomputable def rB(K:Qb):Bo->R2
 |.add=>λx y H Q=>dT (λi j=>.int (i+j)) x y H Q\/(nQ x y H Q\/(oU K x y H Q\/oS K x y H Q))
 |.sub=>dT λi j=>.int (i-j)
 |.mul=>λx y H Q=>rI eJ (λi j=>.int (i*j)) x y H Q\/nP x y H Q
 |.fdiv=>rI nW λi j=>.int (i/j)
 |.mod=>rI (λ_ j=>0<j) λi j=>.int (i%j)
 |.pow=>rI nV λi j=>.int (i^j.toNat)
 |.shr=>rI (λ_ j=>0<=j) λi j=>.int (i/2^j.toNat)
 |.band=>dT λi j=>.int (Builtin.bitAnd i j)
def uK (op:Bo):cb X (IJ (mU op)) (rB X.K op):=by
 cases op with
 |add=>exact fe.or (fc.or (ee.or C0))
 |sub=>exact Ba
 |mul=>exact fb.or AV
 |fdiv=>exact Cp
 |mod=>exact A9
 |pow=>exact A8
 |shr=>exact A7
 |band=>exact A6
def CZ (h:0<=i):Builtin.bitAnd i 1=i%2:=by
 obtain⟨n,rfl⟩:=Int.eq_ofNat_of_zero_le h;show Int.ofNat (n &&& 1)=_;rw[Nat.and_one_is_mod];rfl
def vU (h:small i=true):-(2^64)<i/\i<2^64:=by
 unfold small cq at h;rw[Qx,decide_eq_true_iff,decide_eq_true_iff]at h;lia
def xD [Decidable c](h:ao K as H Q (if c then r else .no)):c/\ao K as H Q r:=by
 by_cases hc:c
 .rw[Ka hc]at h;exact⟨hc,h⟩
 .rw[Kb hc]at h;exact h.elim
def CY (h:ao K as H Q (di .add (.ref a) (.ref b) m)):∃xs ys,m[a]?=some (.lst xs)/\m[b]?=some (.lst ys)/\ao K as H Q (alloc m (xs++ys)):=by
 unfold di at h;dsimp only at h;generalize m[a]?=p at h ⊢;generalize m[b]?=q at h ⊢;cases p with
 |none=>exact h.elim
 |some o=>
  cases o with
  |lst xs=>
   cases q with
   |none=>exact h.elim
   |some o=>
    cases o with
    |lst ys=>exact⟨xs,ys,rfl,rfl,h⟩
def CW (h:ao K as H Q (di .mul (.ref a) (.int k) m)):∃xs,m[a]?=some (.lst xs)/\ao K as H Q (if -av<=k/\k<=av then alloc m (Qz k.toNat xs).flatten else .no):=by
 unfold di at h;dsimp only at h;generalize m[a]?=p at h ⊢;cases p with
 |none=>exact h.elim
 |some o=>
  cases o with
  |lst xs=>exact⟨xs,rfl,h⟩
set_option tactic.hygienic true in
def AQ (S:aK K as m H)(Rx:ai K as H x v)(Ry:ai K as H y u)(h:ao K as H Q (di op x y m)):rB K op v u H Q:=by
 cases x with
 |int i=>
  cases y with
  |int j=>
   obtain rfl:=aa.mp Rx;obtain rfl:=aa.mp Ry;cases op with
   |add=>exact .inl ⟨i,j,rfl,rfl,h.ok S (aa.mpr rfl)⟩
   |sub=>exact⟨i,j,rfl,rfl,h.ok S (aa.mpr rfl)⟩
   |mul=>
    obtain⟨hs,h⟩:=xD h;refine .inl ⟨i,j,rfl,rfl,?_,h.ok S (aa.mpr rfl)⟩;rcases Bool.or_eq_true_iff.mp hs with q|q
    .exact .inl (vU q)
    .exact .inr (vU q)
   |fdiv=>
    obtain⟨hs,h⟩:=xD h;exact⟨i,j,rfl,rfl,hs,h.ok S (aa.mpr rfl)⟩
   |mod=>
    obtain⟨hs,h⟩:=xD h;exact⟨i,j,rfl,rfl,hs,h.ok S (aa.mpr rfl)⟩
   |pow=>
    obtain⟨⟨h1,h2,h3⟩,h⟩:=xD h;have h4:=vU h3;exact⟨i,j,rfl,rfl,⟨h1,h2,by lia⟩,h.ok S (aa.mpr rfl)⟩
   |shr=>
    obtain⟨hs,h⟩:=xD h;exact⟨i,j,rfl,rfl,hs.1,h.ok S (aa.mpr rfl)⟩
   |band=>
    obtain⟨⟨h1,rfl⟩,h'⟩:=xD h;refine⟨i,1,rfl,rfl,?_⟩;show Q (.int (Builtin.bitAnd i 1)) H;rw[CZ h1];exact h'.ok S (aa.mpr rfl)
  |_=>exact h.elim
 |ref a=>
  obtain⟨pa,ha,rfl⟩:=aD.mp Rx;cases y with
  |ref b=>
   obtain⟨pb,hb,rfl⟩:=aD.mp Ry;cases op with
   |add=>
    obtain⟨xs,ys,e1,e2,h⟩:=CY h;obtain⟨pa',va,ha',ea,ra⟩:=zW S e1;rw[ha]at ha';cases ha';obtain⟨pb',vb,hb',eb,rb⟩:=zW S e2;rw[hb]at hb';cases hb';obtain⟨hl,q⟩:=xR S (ra.append rb) h;rw[QC]at hl;exact .inr (.inl ⟨pa,pb,va,vb,rfl,rfl,ea,eb,QD hl yR,q⟩)
   |_=>exact h.elim
  |int k=>
   obtain rfl:=aa.mp Ry;cases op with
   |mul=>
    obtain⟨xs,e1,h⟩:=CW h;obtain⟨hk,h⟩:=xD h;obtain⟨pa',va,ha',ea,ra⟩:=zW S e1;rw[ha]at ha';cases ha';obtain⟨hl,q⟩:=xR S (ra.rep k.toNat) h;rw[rX]at hl;have hlim:(av:Int)=100000:=rfl;exact .inr ⟨pa,k,va,rfl,rfl,ea,by lia,by lia,by rw[Nat.mul_comm];exact QD hl yR,q⟩
   |_=>exact h.elim
  |_=>exact h.elim
 |tup xs=>
  cases y with
  |tup ys=>
   cases op with
   |add=>
    obtain⟨hc,h⟩:=xD h;obtain⟨pa,va,rfl,qa,ra⟩:=aj.mp Rx;obtain⟨pb,vb,rfl,qb,rb⟩:=aj.mp Ry;have la:=ra.length;have lb:=rb.length;by_cases hv:va=[]
    .subst hv;obtain rfl:xs=[]:=by
      cases xs with
      |nil=>rfl
      |cons x xs=>simp at la
     exact .inr (.inr (.inr ⟨pa,pb,vb,rfl,rfl,qa,qb,h.ok S Ry⟩))
    refine .inr (.inr (.inl ⟨pa,pb,va,vb,rfl,rfl,qa,qb,hv,?_,λe=>?_,λe p hp=>?_⟩))
    .rw[<-la,<-lb];exact QD hc yR
    .subst e;obtain rfl:ys=[]:=by
      cases ys with
      |nil=>rfl
      |cons y ys=>simp at lb
     refine h.ok S (aj.mpr ⟨pa,va,rfl,qa,?_⟩);rw[QV];exact ra
    .obtain ⟨T,S',R'⟩:=S.tup hp (ra.append rb);exact h _ _ _ T S' R'
   |_=>exact h.elim
  |_=>exact h.elim
 |_=>exact h.elim
end
end Mini
namespace Mini
open PySem PySem.Spec PyProof.Rows L2
open PySem.SeqAt
section
variable{X:Cx}{pins:List (Addr×Obj)}{σ:St}{s:Shared}{as:List Addr}{H:Hp}{m:Me}
def qz (I:Inv X pins σ H s)(h1:bN X.K H a xs)(h2:bp X.K H a ys):False:=by
 obtain⟨its,_,p,_⟩:=I.tuple h1;obtain⟨its',_,q,_⟩:=I.list h2;exact ne_of_list_tuple q.isList (show s.heap.IsTuple a its.toArray from p) rfl
def rG (I:Inv X pins σ H s)(h1:bN X.K H a xs)(h2:H a=some u)(h3:LD u):False:=by
 rcases h1 with (q|⟨o,q⟩)|⟨o,_,_,hk,_⟩
 .rw[h2]at q;cases q;exact h3
 .rw[h2]at q;cases q;exact h3
 .have:=(I.bs a o (I.ok.mod.kin a o hk)).2;rw[this]at h2;cases h2
def jT (I:Inv X pins σ H s)(h1:KL X.K a xs)(h2:H a=some u):False:=by
 obtain⟨o,_,_,hk,_⟩:=h1;have:=(I.bs a o (I.ok.mod.kin a o hk)).2;rw[this]at h2;cases h2
mutual
theorem gz(I:Inv X pins σ H s)(S:aK X.K as m H):∀(w w':Wd) (v:V),ai X.K as H w v->ai X.K as H w' v->w=w'
 |.non,w',v,h,h'=>by
  obtain rfl:=aG.mp h;cases w' with
  |non=>rfl
  |_=>first|cases aG.mp h'|cases am.mp h'|cases aa.mp h'|cases aM.mp h'|(obtain⟨_,_,e,_⟩:=aj.mp h';cases e)|(obtain⟨_,_,e,_⟩:=aV.mp h';cases e)|(obtain⟨_,_,e⟩:=aD.mp h';cases e)
 |.bl c,w',v,h,h'=>by
  obtain rfl:=am.mp h;cases w' with
  |bl b=>cases am.mp h';rfl
  |_=>first|cases aG.mp h'|cases am.mp h'|cases aa.mp h'|cases aM.mp h'|(obtain⟨_,_,e,_⟩:=aj.mp h';cases e)|(obtain⟨_,_,e,_⟩:=aV.mp h';cases e)|(obtain⟨_,_,e⟩:=aD.mp h';cases e)
 |.int c,w',v,h,h'=>by
  obtain rfl:=aa.mp h;cases w' with
  |int i=>cases aa.mp h';rfl
  |_=>first|cases aG.mp h'|cases am.mp h'|cases aa.mp h'|cases aM.mp h'|(obtain⟨_,_,e,_⟩:=aj.mp h';cases e)|(obtain⟨_,_,e,_⟩:=aV.mp h';cases e)|(obtain⟨_,_,e⟩:=aD.mp h';cases e)
 |.str c,w',v,h,h'=>by
  obtain rfl:=aM.mp h;cases w' with
  |str x=>
   have e:=aM.mp h';injection e with e
   injection e with e
   have:c=x:=by simpa using Ke Ua e
   rw[this]
  |_=>first|cases aG.mp h'|cases am.mp h'|cases aa.mp h'|cases aM.mp h'|(obtain⟨_,_,e,_⟩:=aj.mp h';cases e)|(obtain⟨_,_,e,_⟩:=aV.mp h';cases e)|(obtain⟨_,_,e⟩:=aD.mp h';cases e)
 |.tup xs,w',v,h,h'=>by
  obtain⟨a,vs,rfl,q,r⟩:=aj.mp h;cases w' with
  |tup ys=>
   obtain⟨b,us,e,q',r'⟩:=aj.mp h';cases e;obtain rfl:=I.tuple_inj q q';rw[cA I S xs ys vs r r']
  |rol ys=>
   obtain⟨b,us,e,q',r'⟩:=aV.mp h';cases e;exact(qz I q q'.sq).elim
  |ref l=>
   obtain⟨b,hb,e⟩:=aD.mp h';cases e;obtain⟨u,e2,e3⟩:=S.isLst (Qt hb);exact(rG I q e2 e3).elim
  |_=>first|cases aG.mp h'|cases am.mp h'|cases aa.mp h'|cases aM.mp h'
 |.rol xs,w',v,h,h'=>by
  obtain⟨a,vs,rfl,q,r⟩:=aV.mp h;cases w' with
  |tup ys=>
   obtain⟨b,us,e,q',r'⟩:=aj.mp h';cases e;exact(qz I q' q.sq).elim
  |rol ys=>
   obtain⟨b,us,e,q',r'⟩:=aV.mp h';cases e;obtain rfl:=I.list_inj q.sq q'.sq;rw[cA I S xs ys vs r r']
  |ref l=>
   obtain⟨b,hb,e⟩:=aD.mp h';cases e;obtain⟨u,e2,e3⟩:=S.isLst (Qt hb);rcases q with⟨o,q⟩|q
   .rw[e2]at q;cases q;exact e3.elim
   .exact (jT I q e2).elim
  |_=>first|cases aG.mp h'|cases am.mp h'|cases aa.mp h'|cases aM.mp h'
 |.ref l,w',v,h,h'=>by
  obtain⟨a,ha,rfl⟩:=aD.mp h;obtain⟨u,e2,e3⟩:=S.isLst (Qt ha);cases w' with
  |tup ys=>
   obtain⟨b,us,e,q',r'⟩:=aj.mp h';cases e;exact(rG I q' e2 e3).elim
  |rol ys=>
   obtain⟨b,us,e,q',r'⟩:=aV.mp h';cases e;rcases q' with⟨o,q'⟩|q'
   .rw[e2]at q';cases q';exact e3.elim
   .exact (jT I q' e2).elim
  |ref l'=>
   obtain⟨b,hb,e⟩:=aD.mp h';cases e;obtain⟨i1,e1⟩:=Qa.mp ha;obtain⟨i2,e2⟩:=Qa.mp hb;rw[(Vx S.nd).mp (e1.trans e2.symm)]
  |_=>first|cases aG.mp h'|cases am.mp h'|cases aa.mp h'|cases aM.mp h'
theorem cA(I:Inv X pins σ H s)(S:aK X.K as m H):∀(xs ys:List Wd) (vs:List V),ae X.K as H xs vs->ae X.K as H ys vs->xs=ys
 |[],ys,vs,h,h'=>by
  obtain rfl:=ay.mp h;cases ys with
  |nil=>rfl
  |cons y ys=>obtain⟨_,_,e,_⟩:=ak.mp h';cases e
 |x::xs,ys,vs,h,h'=>by
  obtain⟨v,r,rfl,q,t⟩:=ak.mp h;cases ys with
  |nil=>cases ay.mp h'
  |cons y ys=>
   obtain⟨v',r',e,q',t'⟩:=ak.mp h';cases e;rw[gz I S x y v q q',cA I S xs ys r t t']
end
theorem gC:∀{xs ys:List Wd}{r:Bool},cL p xs ys=some r ->
  ∃f:Nat->Bool,(∀j x y,xs[j]?=some x->ys[j]?=some y->p x y=some (f j))/\r=(Qr (min xs.length ys.length)).all f
 |[],ys,r,h=>by
  unfold cL at h;cases h;exact⟨λ_=>true,λj x y e=>by simp at e,by simp⟩
 |_::_,[],r,h=>by
  unfold cL at h;cases h;exact⟨λ_=>true,λj x y _ e=>by simp at e,by simp⟩
 |x::xs,y::ys,r,h=>by
  unfold cL at h;cases hp:p x y with
  |none=>rw[hp]at h;cases h
  |some b=>
   rw[hp]at h;simp only[]at h;cases hr:cL p xs ys with
   |none=>rw[hr]at h;cases h
   |some r'=>
    rw[hr]at h;cases h;obtain⟨f,hf,e⟩:=gC (xs:=xs) (ys:=ys) hr;refine⟨λj=>match j with|0=>b|j+1=>f j,λj x' y' e1 e2=>?_,?_⟩
    .cases j with
     |zero=>simp at e1 e2;subst e1;subst e2;exact hp
     |succ j=>exact hf j x' y' (by simpa using e1) (by simpa using e2)
    .rw[WM,WM,Nat.succ_min_succ,WQ,WS,Vf,e];rfl
theorem qC:∀(k:Nat) (w:Wd) (r:Bool),cv m k w w=some r->r=true
 |0,w,r,h=>by cases h
 |k+1,w,r,h=>by
  cases w with
  |int i=>cases h;simp
  |tup xs=>
   replace h:(cL (cv m k) xs xs).map (· && decide (xs.length=xs.length))=some r:=h
   cases hr:cL (cv m k) xs xs with
   |none=>rw[hr]at h;cases h
   |some r'=>
    rw[hr]at h;simp only[QR,decide_true,Bool.and_true]at h;cases h;obtain⟨f,hf,rfl⟩:=gC hr;rw[Wv];intro j hj;have hj':j<xs.length:=by simpa using hj
    exact qC k xs[j] (f j) (hf j xs[j] xs[j] (by simp[hj']) (by simp[hj']))
  |ref l=>
   replace h:(if l=l then(if bb m l then some true else none)else match m[l]?,m[l]? with
    |some (.lst xs),some (.lst ys)=>if xs.length=ys.length then cL (cv m k) xs ys else some false
    |_,_=>none)=some r:=h
   simp only[if_true]at h;split at h
   .cases h;rfl
   .cases h
  |_=>cases h
structure GG(A:HY)(s:Shared)(u u':Value)(r:Bool):Prop where
 it:EqAt A s u u' r
 eq:RcAt A s u u' r
 ne:RcNeAt A s u u' (! r)
def bA (S:aK X.K as m H)(I:Inv X pins σ H s)(h:bb m l=true)(R:ai X.K as H (.ref l) v)(ru:RelV v u):∃b its,u=.ref b/\s.heap.IsList b its:=by
 unfold bb at h;cases e:m[l]? with
 |none=>rw[e]at h;cases h
 |some o=>
  cases o with
  |lst xs=>
   obtain⟨b,hb,rfl⟩:=aD.mp R;obtain⟨a,vs,ha,ea,ra⟩:=zW S e;rw[hb]at ha;cases ha;obtain rfl:u=.ref b:=ru;obtain⟨its,_,p,_⟩:=I.list (bp.of ea);exact⟨b,_,rfl,p.isList⟩
def gD (I:Inv X pins σ H s)(R:ai X.K as H (.tup xs) v)(ru:RelV v u):∃b vs its,v=.ref b/\u=.ref b/\ae X.K as H xs vs/\aw vs its/\s.heap.IsTuple b its.toArray:=by
 obtain⟨b,vs,rfl,q,r⟩:=aj.mp R;obtain rfl:u=.ref b:=ru;obtain⟨its,rv,p,_⟩:=I.tuple q;exact⟨b,vs,its,rfl,rfl,r,rv,p⟩
set_option tactic.hygienic true in
theorem iG(I:Inv X pins σ H s)(S:aK X.K as m H):∀(k:Nat) (A:HY) (w w':Wd) (v v':V) (u u':Value) (r:Bool),A.units+k<IL->cv m k w w'=some r ->
  ai X.K as H w v->ai X.K as H w' v'->RelV v u->RelV v' u'->GG A s u u' r
 |0,_,_,_,_,_,_,_,_,_,h,_,_,_,_=>by cases h
 |k+1,A,w,w',v,v',u,u',r,hu,h,R,R',ru,ru'=>by
  have hu0:A.units<IL:=by lia
  have hu1:A.in1.units+k<IL:=by show A.units+1+k<IL;lia
  -- items,pair by pair
  have pairs:∀{xs ys:List Wd}{vs us:List V}{its its':List Value}{r:Bool},ae X.K as H xs vs->ae X.K as H ys us->aw vs its->aw us its'->cL (cv m k) xs ys=some r ->
    ∃f:Nat->Bool,(∀j (h1:j<its.toArray.size) (h2:j<its'.toArray.size),EqAt A.in1 s its.toArray[j] its'.toArray[j] (f j))/\r=(Qr (min its.toArray.size its'.toArray.size)).all f/\its.toArray.size=xs.length/\its'.toArray.size=ys.length:=by
   intro xs ys vs us its its' r r1 r2 rv rv' he;obtain⟨f,hf,e⟩:=gC he;have l1:=r1.length;have l2:=r2.length;have l3:=rv.length;have l4:=rv'.length;have s1:its.toArray.size=xs.length:=by simp;lia
   have s2:its'.toArray.size=ys.length:=by simp;lia
   refine⟨f,λj h1 h2=>?_,by rw[e,s1,s2],s1,s2⟩;have hj:j<xs.length:=by lia
   have hj2:j<ys.length:=by lia
   obtain⟨v1,e1,q1⟩:=r1.get (i:=j) (x:=xs[j]) (by simp[hj]);obtain⟨v2,e2,q2⟩:=r2.get (i:=j) (x:=ys[j]) (by simp[hj2]);obtain⟨u1,e3,q3⟩:=rv.get e1;obtain⟨u2,e4,q4⟩:=rv'.get e2;have z:=iG I S k A.in1 xs[j] ys[j] v1 v2 u1 u2 (f j) hu1 (hf j _ _ (by simp[hj]) (by simp[hj2])) q1 q2 q3 q4;obtain⟨_,e5⟩:=Qa.mp e3;obtain⟨_,e6⟩:=Qa.mp e4;have g1:its.toArray[j]=u1:=by simpa using e5
   have g2:its'.toArray[j]=u2:=by simpa using e6
   rw[g1,g2];exact z.it
  cases w with
  |tup xs=>
   obtain⟨b,vs,its,rfl,rfl,r1,rv,p⟩:=gD I R ru;cases w' with
   |tup ys=>
    obtain⟨b',vs',its',rfl,rfl,r1',rv',p'⟩:=gD I R' ru';have rc:RcAt A s (.ref b) (.ref b') r/\RcNeAt A s (.ref b) (.ref b') (! r):=by
     replace h:(cL (cv m k) xs ys).map (· && decide (xs.length=ys.length))=some r:=h
     cases hr:cL (cv m k) xs ys with
     |none=>rw[hr]at h;cases h
     |some r'=>
      rw[hr]at h;simp only[QR]at h;cases h;obtain⟨f,hf,e,z1,z2⟩:=pairs r1 r1' rv rv' hr;have e2:((Qr (min its.toArray.size its'.toArray.size)).all f&&its.toArray.size==its'.toArray.size)=(r'&&decide (xs.length=ys.length)):=by
       rw[e,z1,z2];congr 1
      exact⟨e2▸RcAt.tuples p p' hu0 hf,e2▸RcNeAt.tuples p p' hu0 hf⟩
    refine⟨?_,rc.1,rc.2⟩;by_cases hb:b=b'
    .subst hb;have e:=gz I S _ _ _ R R';rw[<-e]at h;obtain rfl:=qC _ _ _ h;exact EqAt.same _
    .exact EqAt.of_refs hb rc.1
   |ref l=>
    replace h:(if bb m l&&true then some false else none)=some r:=h
    split at h
    .rename_i hl;cases h;obtain⟨b',its',rfl,q⟩:=bA S I (Q9.mp hl).1 R' ru';exact⟨EqAt.tuple_list p q hu0,RcAt.tuple_list p q hu0,RcNeAt.tuple_list p q hu0⟩
    .cases h
   |int i=>
    cases h;obtain rfl:=aa.mp R';obtain⟨t,rfl⟩:=ru';exact⟨EqAt.tuple_int i t p hu0,RcAt.tuple_int i t p hu0,RcNeAt.tuple_int i t p hu0⟩
   |_=>cases h
  |ref l=>
   cases w' with
   |ref l'=>
    obtain⟨b,hb,rfl⟩:=aD.mp R;obtain⟨b',hb',rfl⟩:=aD.mp R';obtain rfl:u=.ref b:=ru;obtain rfl:u'=.ref b':=ru'
    replace h:(if l=l' then(if bb m l then some true else none)else match m[l]?,m[l']? with
     |some (.lst xs),some (.lst ys)=>if xs.length=ys.length then cL (cv m k) xs ys else some false
     |_,_=>none)=some r:=h
    by_cases hll:l=l'
    .subst hll;rw[hb]at hb';cases hb';rw[Ka rfl]at h;split at h
     .rename_i hil;cases h;obtain⟨c,its,ec,q⟩:=bA S I hil R (u:=.ref b) rfl;cases ec;have al:(Qr its.size).all (λ_=>true)=true:=by simp
      have e1:=RcAt.lists (A:=A) (e:=λ_=>true) q q rfl hu0 (λj h1 h2=>EqAt.same _);have e2:=RcNeAt.lists (A:=A) (e:=λ_=>true) q q rfl hu0 (λj h1 h2=>EqAt.same _);rw[al]at e1 e2;exact⟨EqAt.same _,e1,e2⟩
     .cases h
    .rw[Kb hll]at h;have hbb:b≠b':=by
      rintro rfl;obtain⟨i1,e1⟩:=Qa.mp hb;obtain⟨i2,e2⟩:=Qa.mp hb';exact hll ((Vx S.nd).mp (e1.trans e2.symm))
     split at h
     .rename_i xs ys m1 m2;obtain⟨a1,vs,h1,g1,r1⟩:=zW S m1;rw[hb]at h1;cases h1;obtain⟨a2,us,h2,g2,r2⟩:=zW S m2;rw[hb']at h2;cases h2;obtain⟨its,rv,p,_⟩:=I.list (bp.of g1);obtain⟨its',rv',p',_⟩:=I.list (bp.of g2);split at h
      .rename_i hl;obtain⟨f,hf,e,z1,z2⟩:=pairs r1 r2 rv rv' h;have hsz:its.toArray.size=its'.toArray.size:=by rw[z1,z2,hl]
       rw[<-hsz,Nat.min_self]at e;have e1:=RcAt.lists p.isList p'.isList hsz hu0 hf;have e2:=RcNeAt.lists p.isList p'.isList hsz hu0 hf;rw[<-e]at e1 e2;exact⟨EqAt.of_refs hbb e1,e1,e2⟩
      .rename_i hl;cases h;have l1:=r1.length;have l2:=r2.length;have l3:=rv.length;have l4:=rv'.length;have hsz:(its.toArray.size != its'.toArray.size)=true:=by
        simp;lia
       have e1:=RcAt.lists_lengths (A:=A) p.isList p'.isList hsz hu0;exact⟨EqAt.of_refs hbb e1,e1,RcNeAt.lists_lengths p.isList p'.isList hsz hu0⟩
     .cases h
   |tup ys=>
    replace h:(if bb m l&&true then some false else none)=some r:=h
    split at h
    .rename_i hl;cases h;obtain⟨b,its,rfl,q⟩:=bA S I (Q9.mp hl).1 R ru;obtain⟨b',vs',its',rfl,rfl,r1',rv',p'⟩:=gD I R' ru';exact⟨EqAt.list_tuple q p' hu0,RcAt.list_tuple q p' hu0,RcNeAt.list_tuple q p' hu0⟩
    .cases h
   |int i=>
    replace h:(if bb m l&&true then some false else none)=some r:=h
    split at h
    .rename_i hl;cases h;obtain⟨b,its,rfl,q⟩:=bA S I (Q9.mp hl).1 R ru;obtain rfl:=aa.mp R';obtain⟨t,rfl⟩:=ru';exact⟨EqAt.list_int i t q hu0,RcAt.list_int i t q hu0,RcNeAt.list_int i t q hu0⟩
    .cases h
   |_=>cases h
  |int i=>
   obtain rfl:=aa.mp R;obtain⟨t,rfl⟩:=ru;cases w' with
   |ref l=>
    replace h:(if bb m l&&true then some false else none)=some r:=h
    split at h
    .rename_i hl;cases h;obtain⟨b,its,rfl,q⟩:=bA S I (Q9.mp hl).1 R' ru';exact⟨EqAt.int_list i t q hu0,RcAt.int_list i t q hu0,RcNeAt.int_list i t q hu0⟩
    .cases h
   |tup ys=>
    cases h;obtain⟨b',vs',its',rfl,rfl,r1',rv',p'⟩:=gD I R' ru';exact⟨EqAt.int_tuple i t p' hu0,RcAt.int_tuple i t p' hu0,RcNeAt.int_tuple i t p' hu0⟩
   |int j=>
    cases h;obtain rfl:=aa.mp R';obtain⟨t',rfl⟩:=ru';have e:decide (i=j)=(i==j):=by rw[Bool.beq_eq_decide_eq]
    rw[e];exact⟨EqAt.int_int i t j t',RcAt.int_int i t j t',RcNeAt.int_int i t j t'⟩
   |_=>cases h
  |_=>cases h
end
end Mini
namespace L2
open PySem PySem.Spec PyProof.Rows PySem.SeqAt
section
variable{H:Hp}
noncomputable def Ga(K:Qb):R2:=λx y H Q=>∃d xs,y=.ref d/\uL K H d xs/\((∃i,x=.int i/\Q (.bl false) H)\/∃a ks,x=.ref a/\bN K H a (ks.map V.int)/\Q (.bl (atKey xs ks).isSome) H)
end
end L2
namespace Mini
open PySem PySem.Spec PyProof.Rows L2
section
variable{K:Qb}{as:List Addr}{H:Hp}
theorem jU:∀{ws:List Wd}{k:List Int}{vs:List V},ww ws=some k->ae K as H ws vs->vs=k.map V.int
 |[],k,vs,h,r=>by cases h;rw[ay.mp r];rfl
 |w::ws,k,vs,h,r=>by
  cases w with
  |int i=>
   have h':(ww ws).map (i::·)=some k:=h;obtain⟨k',e,rfl⟩:=QO.mp h';obtain⟨v,r',rfl,q,t⟩:=ak.mp r;rw[aa.mp q,jU e t];rfl
  |_=>cases h
end
end Mini
namespace Mini
open PySem PySem.Spec PyProof.Rows L2
open PySem.SeqAt
noncomputable def cK:Co->Ij
 |.eq=>.Eq |.ne=>.NotEq |.lt=>.Lt |.le=>.LtE |.isin=>.In 
noncomputable def rC(K:Qb)(op:Co):R2:=λx y H Q=>∃as m w w',aK K as m H/\ai K as H w x/\ai K as H w' y/\ao K as H Q (cV op w w' m)
section
variable{X:Cx}
def gE {K:Qb}(S:aK K as m H)(h:ao K as H Q (dI o m)):∃b,o=some b/\Q (.bl b) H:=by
 cases o with
 |none=>exact h.elim
 |some b=>exact⟨b,rfl,h.ok S (am.mpr rfl)⟩
theorem rV:∀{ys:List Wd}{r:Bool},eg p x ys=some r ->
  ∃f:Wd->Bool,(∀y∈ys,p y x=some (f y))/\r=ys.any f
 |[],r,h=>by cases h;exact⟨λ_=>false,λy hy=>by simp at hy,rfl⟩
 |y::ys,r,h=>by
  unfold eg at h;cases hp:p y x with
  |none=>rw[hp]at h;cases h
  |some b=>
   rw[hp]at h;simp only[]at h;cases hr:eg p x ys with
   |none=>rw[hr]at h;cases h
   |some r'=>
    rw[hr]at h;cases h;obtain⟨f,hf,rfl⟩:=rV hr
    classical
    refine⟨λz=>(p z x).getD false,λz hz=>?_,?_⟩
    .rcases Qc.mp hz with rfl|hz
     .simp only[hp,Wt]
     .simp only[hf z hz,Wt]
    .rw[List.any_cons,hp];congr 1;refine V1.mpr ?_;rw[Vj,Vj];constructor
     .rintro ⟨z,hz,e⟩;exact⟨z,hz,by rw[hf z hz];exact e⟩
     .rintro ⟨z,hz,e⟩;rw[hf z hz]at e;exact⟨z,hz,e⟩
def qD (I:Inv X pins σ H s)(S:aK X.K as m H)(hu:A.units+yL<IL)(R:ai X.K as H w v)(ru:RelV v u)(ry:ae X.K as H ys vs)(rv:aw vs its)(h:eg (cv m yL) w ys=some r):
  ∃e:Value->Bool,(∀y,y∈its.toArray->EqAt A s y u (e y))/\its.toArray.any e=r:=by
 obtain⟨f,hf,rfl⟩:=rV h
 classical
 -- the plain value of an item
 have pick:∀y,y∈its->∃z,z∈ys/\∃vz,ai X.K as H z vz/\RelV vz y:=λy hy=>by
  obtain⟨j,hj,rfl⟩:=VG.mp hy;have l1:=ry.length;have l2:=rv.length;have hj1:j<vs.length:=by lia
  obtain⟨u1,e1,q1⟩:=rv.get (i:=j) (x:=vs[j]) (by simp[hj1]);obtain⟨z,e2,q2⟩:=ry.back (i:=j) (v:=vs[j]) (by simp[hj1]);obtain⟨_,e3⟩:=Qa.mp e1;exact⟨z,Qt e2,vs[j],q2,by rw[e3];exact q1⟩
 let e:Value->Bool:=λy=>if hy:y∈its then f (Classical.choose (pick y hy))else false
 have he:∀y (hy:y∈its) z vz,z∈ys->ai X.K as H z vz->RelV vz y->e y=f z:=λy hy z vz hz hr hq=>by
  obtain⟨h1,vz',h2,h3⟩:=Classical.choose_spec (pick y hy);have:e y=f (Classical.choose (pick y hy)):=dif_pos hy;rw[this];have hv:vz'=vz:=h3.inj hq;subst hv;rw[gz I S _ _ _ h2 hr]
 refine⟨e,λy hy=>?_,?_⟩
 .have hy':y∈its:=by simpa using hy
  obtain⟨z,hz,vz,q1,q2⟩:=pick y hy';rw[he y hy' z vz hz q1 q2];exact(iG I S yL A z w vz v y u (f z) hu (hf z hz) q1 R q2 ru).it
 .refine V1.mpr ?_;rw[List.any_toArray,Vj,Vj];constructor
  .rintro ⟨y,hy,ey⟩;obtain⟨z,hz,vz,q1,q2⟩:=pick y hy;rw[he y hy z vz hz q1 q2]at ey;exact⟨z,hz,ey⟩
  .rintro ⟨z,hz,ez⟩;obtain⟨j,hj,rfl⟩:=VG.mp hz;obtain⟨v1,e1,q1⟩:=ry.get (i:=j) (x:=ys[j]) (by simp[hj]);obtain⟨u1,e2,q2⟩:=rv.get e1;have hy:u1∈its:=Qt e2;exact⟨u1,hy,by rw[he u1 hy ys[j] v1 (Vw hj) q1 q2];exact ez⟩
set_option tactic.hygienic true in
def jV(hu:X.A.units+64<IL)(op:Co):cb X (Ik (cK op)) (rC X.K op):=by
 intro pins s σ H x y v u Q I rx ry h;obtain⟨as,m,w,w',S,R,R',q⟩:=h;have hd:yL=12:=rfl;have fin:∀{b:Bool},Q (.bl b) H->EP X pins σ Q (.bool b) s:=λ{b} q=>⟨.bl b,H,I,rfl,q⟩;have cmpI:∀{r:Int->Int->Bool},ao X.K as H Q (qt r w w' m)->∃i j,x=.int i/\y=.int j/\Q (.bl (r i j)) H:=λ{r} q=>by
  unfold qt at q;cases w with
  |int i=>
   cases w' with
   |int j=>exact⟨i,j,aa.mp R,aa.mp R',q.ok S (am.mpr rfl)⟩
   |_=>exact q.elim
  |_=>exact q.elim
 cases op with
 |eq=>
  obtain⟨b,hb,q⟩:=gE S q;exact(iG I S yL X.A w w' x y v u b (by lia) hb R R' rx ry).eq X.prog X.w X.xe _ (fin q)
 |ne=>
  obtain⟨b,hb,q⟩:=gE S q;obtain⟨c,hc,rfl⟩:=QO.mp hb;exact(iG I S yL X.A w w' x y v u c (by lia) hc R R' rx ry).ne X.prog X.w X.xe _ (fin q)
 |isin=>
  simp only[cV]at q;split at q
  .rename_i ys hs;obtain⟨b,hb,q⟩:=gE S q;obtain⟨p,vs,rfl,hq,r⟩:=gw S R' hs;obtain rfl:u=.ref p:=ry;rcases hq with hq|hq
   .obtain ⟨its,rv,pl,_⟩:=I.list hq;obtain⟨e,he,rfl⟩:=qD (A:=X.A.in1) I S (by show X.A.units+1+yL<IL;lia) R rx r rv hb;exact in_listAt e pl.isList he (fin q)
   .obtain ⟨its,rv,pl,_⟩:=I.tuple hq;obtain⟨e,he,rfl⟩:=qD (A:=X.A.in1) I S (by show X.A.units+1+yL<IL;lia) R rx r rv hb;exact in_tupleAt e (show s.heap.IsTuple p its.toArray from pl) he (fin q)
  .exact q.elim
 |lt=>exact ux pins s σ H x y v u Q I rx ry (cmpI q)
 |le=>exact uw pins s σ H x y v u Q I rx ry (cmpI q)
end
end Mini
namespace L2
open PySem PySem.Spec PyProof.Rows
section
theorem jW:∀(f n r:Nat),r<=1->minRun' f n r<=n+r
 |0,n,r,_=>Qo _
 |f+1,n,r,h=>by
  rw[minRun'_succ];split
  .exact Qo _
  .have e:=jW f (n/2) (max r (n%2)) (by lia);lia
theorem rT:∀vs:List Value,List.map (λx:Value×Value=>x.snd) (vs.zip vs)=vs
 |[]=>rfl
 |v::r=>Ke (v::·) (rT r)
end
section
variable{κ:Jr}{prog:HS}{w:HU}{A:HY}{E:Value->Shared->Prop}{s:Shared}
noncomputable def dX(κ:Jr)(prog:HS)(w:HU)(A:HY)(E:Value->Shared->Prop)(s:Shared)(O:Js)(key:Keyed->O.α)(S:Keyed->Prop):Prop:=
 ∀(x y:Keyed) (st:Jt) (Q:Option Bool->Jt->Prop),S x->S y->kindOf st=κ->Q (some (O.blt (key x) (key y))) st->wpS (Ie prog w) A E s (lt' x y) Q st
variable{O:Js}{key:Keyed->O.α}{S:Keyed->Prop}
noncomputable def CV:Bool->Keyed->Array Keyed->Nat->Nat->Nat->StateT Jt Sem (Option Nat):=sortPriv% PySem.Builtin.gallop
def zq {st:Jt}(h:xs[i]?=some x)(q:Q x st):wpS (Ie prog w) A E s (elem' xs i) Q st:=by
 rw[elem'_eq,h];exact Ju q
def yt (C:dX κ prog w A E s O key S){st:Jt}(hk:kindOf st=κ)(hS:S k)(h0:hint<n)(B:Nat->Bool)(hB:∀i,i<n->∃x,xs[base+i]?=some x/\S x/\B i=(if left then O.blt (key x) (key k)else ! O.blt (key k) (key x)))(mono:∀i j,i<=j->j<n->B j=true->B i=true)(h:∀r,r<=n->(∀i,i<r->B i=true)->(∀i,r<=i->i<n->B i=false)->Q (some r) st):
  wpS (Ie prog w) A E s (CV left k xs base n hint) Q st:=by
 have bey:∀i,i<n->∀Q:Option Bool->Jt->Prop,Q (some (B i)) st->wpS (Ie prog w) A E s (do
   let x <-elem' xs (base+i)
   if left=true then lt' x k else do
    let r <-lt' k x
    pure (Option.map (λx=>! x) r)) Q st:=by
  intro i hi Q q;obtain⟨x,hx,hs,e⟩:=hB i hi;refine Jv (zq hx ?_);cases left with
  |true=>
   rw[Ka rfl];refine C x k st _ hs hS hk ?_;rw[Ka rfl]at e;rw[<-e];exact q
  |false=>
   rw[Kb (by simp)];refine Jv (C k x st _ hS hs hk (Ju ?_));rw[Kb (by simp)]at e;rw[QR,<-e];exact q
 have anti:∀i j,i<=j->j<n->B i=false->B j=false:=λi j h1 h2 h3=>by
  cases z:B j
  .rfl
  .rw[mono i j h1 h2 z]at h3;cases h3
 refine Jv (bey hint h0 _ ?_);dsimp only;cases hr:B hint with
 |true=>
  rw[Ka rfl];refine Jv (Jw (Jx (I:=λx c st'=>st=st'/\∃last ofs,c=(none,last,ofs)/\last<ofs/\x+1<=ofs/\hint+last<n/\B (hint+last)=true)
   (Q:=λc st'=>st=st'/\∃last ofs,c=(none,last,ofs)/\last<ofs/\hint+last<n/\B (hint+last)=true/\(n-hint<=ofs\/(hint+ofs<n/\B (hint+ofs)=false))) ?s1 ?f1 ⟨rfl,0,1,rfl,by lia,by lia,h0,hr⟩) ?p1)
  case f1=>
   rintro c st' ⟨rfl,last,ofs,rfl,a1,a2,a3,a4⟩;exact⟨rfl,last,ofs,rfl,a1,a3,a4,.inl (by lia)⟩
  case s1=>
   rintro x c st' _ hx ⟨rfl,last,ofs,rfl,a1,a2,a3,a4⟩;dsimp only;by_cases c1:ofs ≥ n-hint
   .rw[Ka c1];exact Ju ⟨rfl,last,ofs,rfl,a1,a3,a4,.inl c1⟩
   .rw[Kb c1];refine Jv (bey (hint+ofs) (by lia) _ ?_);dsimp only;cases hm:B (hint+ofs)with
    |false=>
     rw[Ka (show(! false)=true from rfl)];exact Ju ⟨rfl,last,ofs,rfl,a1,a3,a4,.inr ⟨by lia,hm⟩⟩
    |true=>
     rw[Kb (show ¬(! true)=true by decide)];exact Ju ⟨rfl,ofs,2*ofs+1,rfl,by lia,by lia,by lia,hm⟩
  case p1=>
   rintro c st' ⟨rfl,last,ofs,rfl,a1,a3,a4,a5⟩;dsimp only;refine Jv (Jw (Jx (I:=λx c st'=>st=st'/\∃lo hi,c=(none,lo,hi)/\lo<=hi/\hi<=n/\hi-lo<=n-x/\(∀i,i<lo->B i=true)/\(∀i,hi<=i->i<n->B i=false))
    (Q:=λc st'=>st=st'/\∃hi,c=(none,hi,hi)/\hi<=n/\(∀i,i<hi->B i=true)/\(∀i,hi<=i->i<n->B i=false)) ?s2 ?f2 ⟨rfl,_,_,rfl,by lia,by lia,by lia,λi hi=>mono i (hint+last) (by lia) a3 a4,λi h1 h2=>?g2⟩) ?p2)
   case g2=>
    rcases a5 with a5|⟨a5,a6⟩
    .lia
    .exact anti (hint+ofs) i (by lia) h2 a6
   case f2=>
    rintro c st' ⟨rfl,lo,hi,rfl,b1,b2,b3,b4,b5⟩;have:lo=hi:=by lia
    subst this;exact⟨rfl,lo,rfl,b2,b4,b5⟩
   case s2=>
    rintro x c st' _ hx ⟨rfl,lo,hi,rfl,b1,b2,b3,b4,b5⟩;dsimp only;by_cases c1:lo ≥ hi
    .rw[Ka c1];have:lo=hi:=by lia
     subst this;exact Ju ⟨rfl,lo,rfl,b2,b4,b5⟩
    .rw[Kb c1];refine Jv (bey (lo+(hi-lo)/2) (by lia) _ ?_);dsimp only;cases hm:B (lo+(hi-lo)/2)with
     |false=>
      rw[Kb (by simp)];exact Ju ⟨rfl,lo,lo+(hi-lo)/2,rfl,by lia,by lia,by lia,b4,λi h1 h2=>anti _ i h1 h2 hm⟩
     |true=>
      rw[Ka rfl];exact Ju ⟨rfl,lo+(hi-lo)/2+1,hi,rfl,by lia,by lia,by lia,λi h1=>mono i _ (by lia) (by lia) hm,b5⟩
   case p2=>
    rintro c st' ⟨rfl,hi,rfl,b2,b4,b5⟩;dsimp only;exact Ju (h hi b2 b4 b5)
 |false=>
  rw[Kb (by simp)];refine Jv (Jw (Jx (I:=λx c st'=>st=st'/\∃last ofs,c=(none,last,ofs)/\last<ofs/\x+1<=ofs/\last<=hint/\B (hint-last)=false)
   (Q:=λc st'=>st=st'/\∃last ofs,c=(none,last,ofs)/\last<ofs/\last<=hint/\B (hint-last)=false/\(hint+1<=ofs\/(ofs<=hint/\B (hint-ofs)=true))) ?s3 ?f3 ⟨rfl,0,1,rfl,by lia,by lia,by lia,hr⟩) ?p3)
  case f3=>
   rintro c st' ⟨rfl,last,ofs,rfl,a1,a2,a3,a4⟩;exact⟨rfl,last,ofs,rfl,a1,a3,a4,.inl (by lia)⟩
  case s3=>
   rintro x c st' _ hx ⟨rfl,last,ofs,rfl,a1,a2,a3,a4⟩;dsimp only;by_cases c1:ofs ≥ hint+1
   .rw[Ka c1];exact Ju ⟨rfl,last,ofs,rfl,a1,a3,a4,.inl c1⟩
   .rw[Kb c1];refine Jv (bey (hint-ofs) (by lia) _ ?_);dsimp only;cases hm:B (hint-ofs)with
    |true=>
     rw[Ka rfl];exact Ju ⟨rfl,last,ofs,rfl,a1,a3,a4,.inr ⟨by lia,hm⟩⟩
    |false=>
     rw[Kb (by simp)];exact Ju ⟨rfl,ofs,2*ofs+1,rfl,by lia,by lia,by lia,hm⟩
  case p3=>
   rintro c st' ⟨rfl,last,ofs,rfl,a1,a3,a4,a5⟩;dsimp only;refine Jv (Jw (Jx (I:=λx c st'=>st=st'/\∃lo hi,c=(none,lo,hi)/\lo<=hi/\hi<=n/\hi-lo<=n-x/\(∀i,i<lo->B i=true)/\(∀i,hi<=i->i<n->B i=false))
    (Q:=λc st'=>st=st'/\∃hi,c=(none,hi,hi)/\hi<=n/\(∀i,i<hi->B i=true)/\(∀i,hi<=i->i<n->B i=false)) ?s4 ?f4 ⟨rfl,_,_,rfl,by lia,by lia,by lia,λi hi=>?g4,λi h1 h2=>anti _ i h1 h2 a4⟩) ?p4)
   case g4=>
    rcases a5 with a5|⟨a5,a6⟩
    .lia
    .exact mono i (hint-ofs) (by lia) (by lia) a6
   case f4=>
    rintro c st' ⟨rfl,lo,hi,rfl,b1,b2,b3,b4,b5⟩;have:lo=hi:=by lia
    subst this;exact⟨rfl,lo,rfl,b2,b4,b5⟩
   case s4=>
    rintro x c st' _ hx ⟨rfl,lo,hi,rfl,b1,b2,b3,b4,b5⟩;dsimp only;by_cases c1:lo ≥ hi
    .rw[Ka c1];have:lo=hi:=by lia
     subst this;exact Ju ⟨rfl,lo,rfl,b2,b4,b5⟩
    .rw[Kb c1];refine Jv (bey (lo+(hi-lo)/2) (by lia) _ ?_);dsimp only;cases hm:B (lo+(hi-lo)/2)with
     |false=>
      rw[Kb (by simp)];exact Ju ⟨rfl,lo,lo+(hi-lo)/2,rfl,by lia,by lia,by lia,b4,λi h1 h2=>anti _ i h1 h2 hm⟩
     |true=>
      rw[Ka rfl];exact Ju ⟨rfl,lo+(hi-lo)/2+1,hi,rfl,by lia,by lia,by lia,λi h1=>mono i _ (by lia) (by lia) hm,b5⟩
   case p4=>
    rintro c st' ⟨rfl,hi,rfl,b2,b4,b5⟩;dsimp only;exact Ju (h hi b2 b4 b5)
end
section
variable{O:Js}{key:Keyed->O.α}
noncomputable def Le(O:Js)(key:Keyed->O.α)(x y:Keyed):Prop:=O.kle (key x) (key y)
noncomputable def aP(O:Js)(key:Keyed->O.α)(l:List Keyed):Prop:=l.Pairwise (Le O key)
def Le.trans{x y z:Keyed}(h1:Le O key x y)(h2:Le O key y z):Le O key x z:=KeyOrd.kle_trans h1 h2
def aP.drop_le (h:aP O key l)(hx:l[i]?=some x):∀y∈l.drop i,Le O key x y:=by
 intro y hy;obtain⟨hi,rfl⟩:=Qa.mp hx;rw[QM hi]at hy;rcases Qc.mp hy with rfl|hy
 .exact KeyOrd.kle_refl _
 .have h2:aP O key (l.drop i):=h.sublist (Wr i l);rw[QM hi]at h2;exact(Q6.mp h2).1 y hy
def aP.at_le (h:aP O key l){j:Nat}(hij:i<=j)(hx:l[i]?=some x)(hy:l[j]?=some y):Le O key x y:=by
 refine h.drop_le hx y ?_;have:(l.drop i)[j-i]?=some y:=by rw[Wb,show i+(j-i)=j by lia];exact hy
 exact Qt this
structure MI(O:Js)(key:Keyed->O.α)(X Y:List Keyed)(ia ib:Nat)(L:List Keyed):Prop where
 ha:ia<=X.length
 hb:ib<=Y.length
 pm:L.Perm (X.take ia++Y.take ib)
 so:aP O key L
 la:∀z∈L,∀x∈X.drop ia,Le O key z x
 lb:∀z∈L,∀y∈Y.drop ib,Le O key z y
noncomputable def wz(O:Js)(key:Keyed->O.α)(X Y r:List Keyed):Prop:=aP O key r/\r.Perm (X++Y)
variable{X Y L:List Keyed}{ia ib:Nat}
def ye (h1:aP O key l)(h2:aP O key r)(h:∀x∈l,∀y∈r,Le O key x y):aP O key (l++r):=List.pairwise_append.mpr ⟨h1,h2,h⟩
def MI.done(M:MI O key X Y ia ib L)(hX:aP O key X)(hY:aP O key Y)(h:ia=X.length\/ib=Y.length):wz O key X Y (L++X.drop ia++Y.drop ib):=by
 refine⟨?_,?_⟩
 .rcases h with rfl|rfl
  .rw[W0,QV];exact ye M.so (hY.sublist (Wr _ _)) M.lb
  .rw[W0,QV];exact ye M.so (hX.sublist (Wr _ _)) M.la
 .refine ((M.pm.append_right _).append_right _).trans ?_;have e1:(X.take ia++Y.take ib++X.drop ia++Y.drop ib).Perm (X.take ia++(X.drop ia++Y.take ib)++Y.drop ib):=by
   refine WT.append_right _ ?_;rw[Qn];exact WT.append_left _ WC
  refine e1.trans ?_;rw[<-Qn (X.take ia),QJ,Qn,QJ]
def MI.last(M:MI O key X Y ia ib L)(hX:aP O key X)(hY:aP O key Y)(hl:∀y∈Y,∀x,X[X.length-1]?=some x->Le O key y x)(h:ia+1=X.length):wz O key X Y (L++Y.drop ib++X.drop ia):=by
 have e:X.drop ia=[X[ia]'(by lia)]:=by
  rw[QM (by lia),h,W0]
 refine⟨?_,?_⟩
 .rw[Qn];refine ye M.so (ye (hY.sublist (Wr _ _)) (hX.sublist (Wr _ _)) ?_) ?_
  .intro y hy x hx;rw[e]at hx;rw[QH.mp hx];exact hl y (Ww hy) _ (by rw[show X.length-1=ia by lia];simp)
  .intro z hz y hy;rcases Qu.mp hy with hy|hy
   .exact M.lb z hz y hy
   .exact M.la z hz y hy
 .have:=M.pm;refine((M.pm.append_right _).append_right _).trans ?_;have e1:(X.take ia++Y.take ib++Y.drop ib++X.drop ia).Perm (X.take ia++Y++X.drop ia):=by
   rw[Qn (X.take ia),QJ]
  refine e1.trans ?_;rw[Qn];refine(WT.append_left _ WC).trans ?_;rw[<-Qn,QJ]
def yu {l:List Keyed}(h:l[i]?=some x):l.take (i+1)=l.take i++[x]:=by
 obtain⟨hi,rfl⟩:=Qa.mp h;rw[List.take_succ_eq_append_getElem hi]
def vv {l:List Keyed}(h:i<=j)(hx:x∈l.drop j):x∈l.drop i:=by
 have:l.drop j=(l.drop i).drop (j-i):=by rw[Ve];congr 1;lia
 rw[this]at hx;exact Ww hx
def MI.pushA(M:MI O key X Y ia ib L)(hX:aP O key X){x:Keyed}(hx:X[ia]?=some x)(h:∀y∈Y.drop ib,Le O key x y):MI O key X Y (ia+1) ib (L++[x]):=by
 have hi:=(Qa.mp hx).1;have hm:x∈X.drop ia:=by
  obtain⟨_,rfl⟩:=Qa.mp hx;rw[QM hi];exact QQ
 refine⟨by lia,M.hb,?_,ye M.so (by simp[aP]) (λz hz y hy=>by rw[QH.mp hy];exact M.la z hz x hm),λz hz y hy=>?_,λz hz y hy=>?_⟩
 .rw[yu hx];refine(M.pm.append_right _).trans ?_;rw[Qn,Qn];exact WT.append_left _ WC
 .rcases Qu.mp hz with hz|hz
  .exact M.la z hz y (vv (by lia) hy)
  .rw[QH.mp hz];exact hX.drop_le hx y (vv (by lia) hy)
 .rcases Qu.mp hz with hz|hz
  .exact M.lb z hz y hy
  .rw[QH.mp hz];exact h y hy
def MI.pushB(M:MI O key X Y ia ib L)(hY:aP O key Y){y:Keyed}(hy:Y[ib]?=some y)(h:∀x∈X.drop ia,Le O key y x):MI O key X Y ia (ib+1) (L++[y]):=by
 have hi:=(Qa.mp hy).1;have hm:y∈Y.drop ib:=by
  obtain⟨_,rfl⟩:=Qa.mp hy;rw[QM hi];exact QQ
 refine⟨M.ha,by lia,?_,ye M.so (by simp[aP]) (λz hz x hx=>by rw[QH.mp hx];exact M.lb z hz y hm),λz hz x hx=>?_,λz hz x hx=>?_⟩
 .rw[yu hy,<-Qn];exact M.pm.append_right _
 .rcases Qu.mp hz with hz|hz
  .exact M.la z hz x hx
  .rw[QH.mp hz];exact h x hx
 .rcases Qu.mp hz with hz|hz
  .exact M.lb z hz x (vv (by lia) hx)
  .rw[QH.mp hz];exact hY.drop_le hy x (vv (by lia) hx)
def jX {l:List Keyed}(h:l[i+k]?=some x):(l.drop i).take (k+1)=(l.drop i).take k++[x]:=yu (by rw[Wb];exact h)
theorem MI.blockA(M:MI O key X Y ia ib L)(hX:aP O key X):∀k,ia+k<=X.length->(∀i,i<k->∀x,X[ia+i]?=some x->∀y∈Y.drop ib,Le O key x y)->MI O key X Y (ia+k) ib (L++(X.drop ia).take k)
 |0,_,_=>by simpa using M
 |k+1,h,hl=>by
  have q:=M.blockA hX k (by lia) λi hi=>hl i (by lia);have hx:X[ia+k]?=some X[ia+k]:=by simp
  have:=q.pushA hX hx (hl k (by lia) _ hx);rw[jX hx,<-Qn];exact this
theorem MI.blockB(M:MI O key X Y ia ib L)(hY:aP O key Y):∀k,ib+k<=Y.length->(∀i,i<k->∀y,Y[ib+i]?=some y->∀x∈X.drop ia,Le O key y x)->MI O key X Y ia (ib+k) (L++(Y.drop ib).take k)
 |0,_,_=>by simpa using M
 |k+1,h,hl=>by
  have q:=M.blockB hY k (by lia) λi hi=>hl i (by lia);have hx:Y[ib+k]?=some Y[ib+k]:=by simp
  have:=q.pushB hY hx (hl k (by lia) _ hx);rw[jX hx,<-Qn];exact this
end
section
variable{O:Js}{key:Keyed->O.α}{S:Keyed->Prop}{a b:Array Keyed}
noncomputable def Eqv(st st':Jt):Prop:=kindOf st'=kindOf st/\Jy st'=Jy st/\Jz st'=Jz st/\JA st'=JA st
def Eqv.refl(st:Jt):Eqv st st:=⟨rfl,rfl,rfl,rfl⟩
def oA(p a b:Array Keyed)(i j:Nat):(p++a.extract i++b.extract j).toList=p.toList++a.toList.drop i++b.toList.drop j:=by
 simp only[Vn,WF,Ws];rw[QL (by simp),QL (by simp)]
def oz(p a:Array Keyed)(i k:Nat):(p++a.extract i (i+k)).toList=p.toList++(a.toList.drop i).take k:=by
 simp only[Vn,WF,Ws];rw[show i+k-i=k by lia]
def kW (M:MI O key a.toList b.toList ia ib p.toList)(hX:aP O key a.toList)(hY:aP O key b.toList)(h:ia=a.size\/ib=b.size):wz O key a.toList b.toList (p++a.extract ia++b.extract ib).toList:=by
 rw[oA];exact M.done hX hY h
def kX (M:MI O key a.toList b.toList ia ib p.toList)(hX:aP O key a.toList)(hY:aP O key b.toList)(hl:∀y∈b.toList,∀x,a.toList[a.toList.length-1]?=some x->Le O key y x)(h:ia+1=a.size):wz O key a.toList b.toList (p++b.extract ib++a.extract ia).toList:=by
 rw[oA];exact M.last hX hY hl h
def kY {p:Array Keyed}(M:MI O key a.toList b.toList ia ib p.toList)(hX:aP O key a.toList)(hx:a[ia]?=some x)(h:∀y∈b.toList.drop ib,Le O key x y):MI O key a.toList b.toList (ia+1) ib (p.push x).toList:=by
 rw[Vc];exact M.pushA hX (by simpa using hx) h
def gF {p:Array Keyed}(M:MI O key a.toList b.toList ia ib p.toList)(hY:aP O key b.toList)(hy:b[ib]?=some y)(h:∀x∈a.toList.drop ia,Le O key y x):MI O key a.toList b.toList ia (ib+1) (p.push y).toList:=by
 rw[Vc];exact M.pushB hY (by simpa using hy) h
def CU (M:MI O key a.toList b.toList ia ib p.toList)(hX:aP O key a.toList)(hk:ia+k<=a.size)(h:∀i,i<k->∀x,a.toList[ia+i]?=some x->∀y∈b.toList.drop ib,Le O key x y):MI O key a.toList b.toList (ia+k) ib (p++a.extract ia (ia+k)).toList:=by
 rw[oz];exact M.blockA hX k hk h
def rS (M:MI O key a.toList b.toList ia ib p.toList)(hY:aP O key b.toList)(hk:ib+k<=b.size)(h:∀i,i<k->∀y,b.toList[ib+i]?=some y->∀x∈a.toList.drop ia,Le O key y x):MI O key a.toList b.toList ia (ib+k) (p++b.extract ib (ib+k)).toList:=by
 rw[oz];exact M.blockB hY k hk h
variable{κ:Jr}{prog:HS}{w:HU}{A:HY}{E:Value->Shared->Prop}{s:Shared}
noncomputable def Ek:Array Keyed->Array Keyed->StateT Jt Sem (Array Keyed):=sortPriv% PySem.Builtin.mergeLo
def qE (C:dX κ prog w A E s O key S){st:Jt}(hk:kindOf st=κ)(hX:aP O key a.toList)(hY:aP O key b.toList)(hSa:∀x∈a.toList,S x)(hSb:∀x∈b.toList,S x)(hb0:0<b.size)(ha0:0<a.size)(hfirst:∀x∈a.toList,∀y,b[0]?=some y->Le O key y x)(hl:∀y∈b.toList,∀x,a.toList[a.toList.length-1]?=some x->Le O key y x)(h:∀r st',Eqv st st'->wz O key a.toList b.toList r.toList->Q r st'):
  wpS (Ie prog w) A E s (Ek a b) Q st:=by
 have atA:∀i,i<a.size->∃x,a[i]?=some x/\S x/\a.toList[i]?=some x:=λi hi=>⟨a[i],by simp[hi],hSa _ (by simp),by simp[hi]⟩;have atB:∀i,i<b.size->∃x,b[i]?=some x/\S x/\b.toList[i]?=some x:=λi hi=>⟨b[i],by simp[hi],hSb _ (by simp),by simp[hi]⟩;have gA:∀(ia:Nat) (v:Keyed) (i:Nat),ia+i<a.size->∃x,a[ia+i]?=some x/\S x/\(! O.blt (key v) (key (a.getD (ia+i) v)))=(if false=true then O.blt (key x) (key v)else ! O.blt (key v) (key x)):=by
  intro ia v i hi;obtain⟨x,hx,sx,_⟩:=atA (ia+i) hi;exact⟨x,hx,sx,by rw[Kb (by simp),Q7,hx];rfl⟩
 have gB:∀(ib:Nat) (u:Keyed) (i:Nat),ib+i<b.size->∃x,b[ib+i]?=some x/\S x/\O.blt (key (b.getD (ib+i) u)) (key u)=(if true=true then O.blt (key x) (key u)else ! O.blt (key u) (key x)):=by
  intro ib u i hi;obtain⟨x,hx,sx,_⟩:=atB (ib+i) hi;exact⟨x,hx,sx,by rw[Ka rfl,Q7,hx];rfl⟩
 have dA:∀(i:Nat) (v x:Keyed),a.toList[i]?=some x->a.getD i v=x:=λi v x hx=>by rw[Q7,<-QG,hx];rfl
 have dB:∀(i:Nat) (v x:Keyed),b.toList[i]?=some x->b.getD i v=x:=λi v x hx=>by rw[Q7,<-QG,hx];rfl
 have mA:∀(ia:Nat) (v:Keyed) (i j:Nat),i<=j->j<a.size-ia->(! O.blt (key v) (key (a.getD (ia+j) v)))=true->(! O.blt (key v) (key (a.getD (ia+i) v)))=true:=by
  intro ia v i j hij hj hB;obtain⟨x,hx,_,hx'⟩:=atA (ia+i) (by lia);obtain⟨y,hy,_,hy'⟩:=atA (ia+j) (by lia);rw[dA _ _ _ hy']at hB;rw[dA _ _ _ hx'];have e:Le O key x v:=Le.trans (hX.at_le (by lia) hx' hy') (show O.blt (key v) (key y)=false from by simpa using hB);simpa using (show O.blt (key v) (key x)=false from e)
 have mB:∀(ib:Nat) (u:Keyed) (i j:Nat),i<=j->j<b.size-ib->O.blt (key (b.getD (ib+j) u)) (key u)=true->O.blt (key (b.getD (ib+i) u)) (key u)=true:=by
  intro ib u i j hij hj hB;obtain⟨x,hx,_,hx'⟩:=atB (ib+i) (by lia);obtain⟨y,hy,_,hy'⟩:=atB (ib+j) (by lia);rw[dB _ _ _ hy']at hB;rw[dB _ _ _ hx'];exact KeyOrd.klt_of_kle_of_klt (hY.at_le (by lia) hx' hy') hB
 have lowA:∀(ia:Nat) (v:Keyed) (k:Nat),(∀i,i<k->(! O.blt (key v) (key (a.getD (ia+i) v)))=true)->∀i,i<k->∀x,a.toList[ia+i]?=some x->Le O key x v:=by
  intro ia v k hk i hi x hx;have:=hk i hi;rw[dA _ _ _ hx]at this;exact(show O.blt (key v) (key x)=false from by simpa using this)
 have highA:∀(ia:Nat) (v:Keyed) (k:Nat),(∀i,k<=i->i<a.size-ia->(! O.blt (key v) (key (a.getD (ia+i) v)))=false)->∀x∈a.toList.drop (ia+k),Le O key v x:=by
  intro ia v k hk x hx;obtain⟨i,hi⟩:=QB hx;rw[Wb]at hi;have hlt:ia+k+i<a.size:=(Qa.mp hi).1;have:=hk (k+i) (by lia) (by lia);rw[show ia+(k+i)=ia+k+i by lia,dA _ _ _ hi]at this;exact KeyOrd.kle_of_klt (show O.blt (key v) (key x)=true from by simpa using this)
 have lowB:∀(ib:Nat) (u:Keyed) (k:Nat),(∀i,i<k->O.blt (key (b.getD (ib+i) u)) (key u)=true)->∀i,i<k->∀y,b.toList[ib+i]?=some y->Le O key y u:=by
  intro ib u k hk i hi x hx;have:=hk i hi;rw[dB _ _ _ hx]at this;exact KeyOrd.kle_of_klt this
 have upA:∀(ib:Nat) (u:Keyed) (k:Nat),(∀i,k<=i->i<b.size-ib->O.blt (key (b.getD (ib+i) u)) (key u)=false)->∀y∈b.toList.drop (ib+k),Le O key u y:=by
  intro ib u k hk x hx;obtain⟨i,hi⟩:=QB hx;rw[Wb]at hi;have hlt:ib+k+i<b.size:=(Qa.mp hi).1;have:=hk (k+i) (by lia) (by lia);rw[show ib+(k+i)=ib+k+i by lia,dB _ _ _ hi]at this;exact this
 obtain⟨y0,hy0,_,hy0'⟩:=atB 0 hb0;refine Jv (JB (JC ⟨rfl,?_⟩));refine Jv (zq hy0 ?_);dsimp only;have M0:MI O key a.toList b.toList 0 1 (#[y0]:Array Keyed).toList:=by
  have e:MI O key a.toList b.toList 0 0 (#[]:Array Keyed).toList:=⟨WI _,WI _,by simp,by simp[aP],by simp,by simp⟩;exact gF e hY hy0 (λx hx=>hfirst x (by simpa using hx) y0 hy0)
 by_cases c1:1=b.size
 .rw[Ka (by simpa using c1)];exact Ju (h _ _ (.refl _) (kW M0 hX hY (.inr c1)))
 rw[Kb (by simpa using c1)];by_cases c2:0+1=a.size
 .rw[Ka (by simpa using c2)];exact Ju (h _ _ (.refl _) (kX M0 hX hY hl c2))
 rw[Kb (by simpa using c2)];refine Jv (JD ?_);refine Jv (Jw (Jx (I:=λx c st'=>Eqv st st'/\∃out ia ib mg,c=(none,out,ia,ib,mg)/\MI O key a.toList b.toList ia ib out.toList/\ia+1<a.size/\ib<b.size/\x+1<=ia+ib)
  (Q:=λc st'=>Eqv st st'/\∃r out ia ib mg,c=(some r,out,ia,ib,mg)/\wz O key a.toList b.toList r.toList) ?s1 ?f1 ⟨.refl _,_,_,_,_,rfl,M0,by lia,by lia,by lia⟩) ?p1)
 case p1=>
  rintro c st' ⟨hE,r,out,ia,ib,mg,rfl,hg⟩;exact Ju (h _ _ hE hg)
 case f1=>
  rintro c st' ⟨hE,out,ia,ib,mg,rfl,M,h1,h2,h3⟩;lia
 case s1=>
  rintro x0 c st0 _ hx0 ⟨hE0,out0,ia0,ib0,mg0,rfl,M00,h10,h20,h30⟩;dsimp only;refine Jv (Jw (Jx (I:=λx c st'=>Eqv st st'/\∃out ia ib ac bc,c=(none,out,ia,ib,ac,bc)/\MI O key a.toList b.toList ia ib out.toList/\ia+1<a.size/\ib<b.size/\x0+1+x<=ia+ib)
   (Q:=λc st'=>Eqv st st'/\((∃r out ia ib ac bc,c=(some r,out,ia,ib,ac,bc)/\wz O key a.toList b.toList r.toList)\/∃out ia ib ac bc,c=(none,out,ia,ib,ac,bc)/\MI O key a.toList b.toList ia ib out.toList/\ia+1<a.size/\ib<b.size/\x0+2<=ia+ib)) ?s2 ?f2 ⟨hE0,_,_,_,_,_,rfl,M00,h10,h20,h30⟩) ?p2)
  case f2=>
   rintro c st' ⟨hE,out,ia,ib,ac,bc,rfl,M,h1,h2,h3⟩;exact⟨hE,.inr ⟨out,ia,ib,ac,bc,rfl,M,h1,h2,by lia⟩⟩
  case s2=>
   rintro x c st' _ hx ⟨hE,out,ia,ib,ac,bc,rfl,M,h1,h2,h3⟩;dsimp only;obtain⟨u,hu,su,hu'⟩:=atA ia (by lia);obtain⟨v,hv,sv,hv'⟩:=atB ib h2;refine Jv (zq hv (Jv (zq hu (Jv (C v u st' _ sv su (hE.1.trans hk) ?_)))));dsimp only;cases hc:O.blt (key v) (key u)with
   |true=>
    rw[Ka rfl];have M2:=gF M hY hv (λx hx=>Le.trans (KeyOrd.kle_of_klt hc) (hX.drop_le hu' x hx));refine Jv (zq hv ?_);by_cases c1:ib+1=b.size
    .rw[Ka (by simpa using c1)];exact Ju ⟨hE,.inl ⟨_,_,_,_,_,_,rfl,kW M2 hX hY (.inr c1)⟩⟩
    .rw[Kb (by simpa using c1)];split
     .exact Ju ⟨hE,.inr ⟨_,_,_,_,_,rfl,M2,by lia,by lia,by lia⟩⟩
     .exact Ju ⟨hE,_,_,_,_,_,rfl,M2,by lia,by lia,by lia⟩
   |false=>
    rw[Kb (by simp)];have M2:=kY M hX hu (λy hy=>Le.trans (show Le O key u v from hc) (hY.drop_le hv' y hy));refine Jv (zq hu ?_);by_cases c1:ia+1+1=a.size
    .rw[Ka (by simpa using c1)];exact Ju ⟨hE,.inl ⟨_,_,_,_,_,_,rfl,kX M2 hX hY hl c1⟩⟩
    .rw[Kb (by simpa using c1)];split
     .exact Ju ⟨hE,.inr ⟨_,_,_,_,_,rfl,M2,by lia,by lia,by lia⟩⟩
     .exact Ju ⟨hE,_,_,_,_,_,rfl,M2,by lia,by lia,by lia⟩
  case p2=>
   rintro c st1 ⟨hE1,⟨r,out,ia,ib,ac,bc,rfl,hg⟩|⟨out1,ia1,ib1,ac1,bc1,rfl,M1,h11,h21,h31⟩⟩
   .exact Ju ⟨hE1,r,out,ia,ib,_,rfl,hg⟩
   dsimp only;refine Jv (JB (JC ⟨rfl,?_⟩));refine Jv (Jw (Jx (I:=λx c st'=>Eqv st st'/\∃out ia ib mg ac bc,c=(none,out,ia,ib,mg,ac,bc)/\MI O key a.toList b.toList ia ib out.toList/\ia+1<a.size/\ib<b.size/\x0+2<=ia+ib)
    (Q:=λc st'=>Eqv st st'/\((∃r out ia ib mg ac bc,c=(some r,out,ia,ib,mg,ac,bc)/\wz O key a.toList b.toList r.toList)\/∃out ia ib mg ac bc,c=(none,out,ia,ib,mg,ac,bc)/\MI O key a.toList b.toList ia ib out.toList/\ia+1<a.size/\ib<b.size/\x0+2<=ia+ib)) ?s3 ?f3 ⟨hE1,_,_,_,_,_,_,rfl,M1,h11,h21,h31⟩) ?p3)
   case f3=>
    rintro c st' ⟨hE,out,ia,ib,mg,ac,bc,rfl,M,h1,h2,h3⟩;exact⟨hE,.inr ⟨out,ia,ib,mg,ac,bc,rfl,M,h1,h2,h3⟩⟩
   case p3=>
    rintro c st' ⟨hE,⟨r,out,ia,ib,mg,ac,bc,rfl,hg⟩|⟨out,ia,ib,mg,ac,bc,rfl,M,h1,h2,h3⟩⟩
    .exact Ju ⟨hE,r,out,ia,ib,_,rfl,hg⟩
    .dsimp only;refine Jv (JE ?_);exact Ju ⟨hE,_,_,_,_,rfl,M,h1,h2,by lia⟩
   case s3=>
    rintro x c st' _ hx ⟨hE,out,ia,ib,mg,ac,bc,rfl,M,h1,h2,h3⟩;dsimp only;obtain⟨v,hv,sv,hv'⟩:=atB ib h2;by_cases cm:mg > 1
    all_goals
     first|rw[Ka cm]|rw[Kb cm]
     refine Jv (JE ?_);refine Jv (zq hv ?_);refine Jv (yt C (st:=_) (hE.1.trans hk) sv (by lia) (λi=>! O.blt (key v) (key (a.getD (ia+i) v))) (λi hi=>gA ia v i (by lia)) (mA ia v) (λk k1 k2 k3=>?_));dsimp only;by_cases c1:k > 0
     .rw[Ka c1];have M2:=CU M hX (by lia) (λi hi x hx y hy=>Le.trans (lowA _ _ _ k2 i hi x hx) (hY.drop_le hv' y hy));by_cases c2:ia+k+1=a.size
      .rw[Ka (by simpa using c2)];exact Ju ⟨hE,.inl ⟨_,_,_,_,_,_,_,rfl,kX M2 hX hY hl c2⟩⟩
      rw[Kb (by simpa using c2)];by_cases c2':ia+k=a.size
      .rw[Ka (by simpa using c2')];exact Ju ⟨hE,.inl ⟨_,_,_,_,_,_,_,rfl,kW M2 hX hY (.inl c2')⟩⟩
      rw[Kb (by simpa using c2')];have low:=highA _ _ _ k3;obtain⟨u,hu,su,hu'⟩:=atA (ia+k) (by lia);have M3:=gF M2 hY hv (λx hx=>low x hx);refine Jv (zq hv ?_);by_cases c3:ib+1=b.size
      .rw[Ka (by simpa using c3)];exact Ju ⟨hE,.inl ⟨_,_,_,_,_,_,_,rfl,kW M3 hX hY (.inr c3)⟩⟩
      rw[Kb (by simpa using c3)];refine Jv (zq hu ?_);refine Jv (yt C (st:=_) (hE.1.trans hk) su (by lia) (λi=>O.blt (key (b.getD (ib+1+i) u)) (key u)) (λi hi=>gB _ _ _ (by lia)) (mB _ _) (λk' k1' k2' k3'=>?_));dsimp only;by_cases c5:k' > 0
      .rw[Ka c5];have M4:=rS M3 hY (by lia) (λi hi y hy x hx=>Le.trans (lowB _ _ _ k2' i hi y hy) (hX.drop_le hu' x hx));by_cases c6:ib+1+k'=b.size
       .rw[Ka (by simpa using c6)];exact Ju ⟨hE,.inl ⟨_,_,_,_,_,_,_,rfl,kW M4 hX hY (.inr c6)⟩⟩
       rw[Kb (by simpa using c6)];have M5:=kY M4 hX hu (upA _ _ _ k3');refine Jv (zq hu ?_);by_cases c4:ia+k+1+1=a.size
       .rw[Ka (by simpa using c4)];exact Ju ⟨hE,.inl ⟨_,_,_,_,_,_,_,rfl,kX M5 hX hY hl c4⟩⟩
       .rw[Kb (by simpa using c4)];split
        .exact Ju ⟨hE,.inr ⟨_,_,_,_,_,_,rfl,M5,by lia,by lia,by lia⟩⟩
        .exact Ju ⟨hE,_,_,_,_,_,_,rfl,M5,by lia,by lia,by lia⟩
      .rw[Kb c5];obtain rfl:k'=0:=by lia
       have M5:=kY M3 hX hu (upA (ib+1) _ 0 k3');refine Jv (zq hu ?_);by_cases c4:ia+k+1+1=a.size
       .rw[Ka (by simpa using c4)];exact Ju ⟨hE,.inl ⟨_,_,_,_,_,_,_,rfl,kX M5 hX hY hl c4⟩⟩
       .rw[Kb (by simpa using c4)];split
        .exact Ju ⟨hE,.inr ⟨_,_,_,_,_,_,rfl,M5,by lia,by lia,by lia⟩⟩
        .exact Ju ⟨hE,_,_,_,_,_,_,rfl,M5,by lia,by lia,by lia⟩
     .rw[Kb c1];obtain rfl:k=0:=by lia
      have M2:=M;have low:=highA _ _ _ k3;obtain⟨u,hu,su,hu'⟩:=atA (ia) (by lia);have M3:=gF M2 hY hv (λx hx=>low x hx);refine Jv (zq hv ?_);by_cases c3:ib+1=b.size
      .rw[Ka (by simpa using c3)];exact Ju ⟨hE,.inl ⟨_,_,_,_,_,_,_,rfl,kW M3 hX hY (.inr c3)⟩⟩
      rw[Kb (by simpa using c3)];refine Jv (zq hu ?_);refine Jv (yt C (st:=_) (hE.1.trans hk) su (by lia) (λi=>O.blt (key (b.getD (ib+1+i) u)) (key u)) (λi hi=>gB _ _ _ (by lia)) (mB _ _) (λk' k1' k2' k3'=>?_));dsimp only;by_cases c5:k' > 0
      .rw[Ka c5];have M4:=rS M3 hY (by lia) (λi hi y hy x hx=>Le.trans (lowB _ _ _ k2' i hi y hy) (hX.drop_le hu' x hx));by_cases c6:ib+1+k'=b.size
       .rw[Ka (by simpa using c6)];exact Ju ⟨hE,.inl ⟨_,_,_,_,_,_,_,rfl,kW M4 hX hY (.inr c6)⟩⟩
       rw[Kb (by simpa using c6)];have M5:=kY M4 hX hu (upA _ _ _ k3');refine Jv (zq hu ?_);by_cases c4:ia+1+1=a.size
       .rw[Ka (by simpa using c4)];exact Ju ⟨hE,.inl ⟨_,_,_,_,_,_,_,rfl,kX M5 hX hY hl c4⟩⟩
       .rw[Kb (by simpa using c4)];split
        .exact Ju ⟨hE,.inr ⟨_,_,_,_,_,_,rfl,M5,by lia,by lia,by lia⟩⟩
        .exact Ju ⟨hE,_,_,_,_,_,_,rfl,M5,by lia,by lia,by lia⟩
      .rw[Kb c5];obtain rfl:k'=0:=by lia
       have M5:=kY M3 hX hu (upA (ib+1) _ 0 k3');refine Jv (zq hu ?_);by_cases c4:ia+1+1=a.size
       .rw[Ka (by simpa using c4)];exact Ju ⟨hE,.inl ⟨_,_,_,_,_,_,_,rfl,kX M5 hX hY hl c4⟩⟩
       .rw[Kb (by simpa using c4)];split
        .exact Ju ⟨hE,.inr ⟨_,_,_,_,_,_,rfl,M5,by lia,by lia,by lia⟩⟩
        .exact Ju ⟨hE,_,_,_,_,_,_,rfl,M5,by lia,by lia,by lia⟩
end
section
variable{O:Js}{key:Keyed->O.α}{a b:Array Keyed}
def aP.take_le (h:aP O key l)(hx:l[i]?=some x):∀y∈l.take (i+1),Le O key y x:=by
 intro y hy;obtain⟨j,hj⟩:=QB hy;have hlt:j<i+1:=by
  have:=(Qa.mp hj).1;rw[QU]at this;lia
 rw[Qs hlt]at hj;exact h.at_le (by lia) hj hx
structure MH(O:Js)(key:Keyed->O.α)(X Y:List Keyed)(na nb:Nat)(L:List Keyed):Prop where
 ha:na<=X.length
 hb:nb<=Y.length
 pm:L.Perm (X.drop na++Y.drop nb)
 so:aP O key L
 la:∀z∈L,∀x∈X.take na,Le O key x z
 lb:∀z∈L,∀y∈Y.take nb,Le O key y z
variable{X Y L:List Keyed}{na nb:Nat}
def MH.done(M:MH O key X Y na nb L)(hX:aP O key X)(hY:aP O key Y)(h:na=0\/nb=0):wz O key X Y (X.take na++Y.take nb++L):=by
 refine⟨?_,?_⟩
 .rcases h with rfl|rfl
  .rw[V4,Wx];exact ye (hY.sublist (Wo _ _)) M.so λx hx y hy=>M.lb y hy x hx
  .rw[V4,QV];exact ye (hX.sublist (Wo _ _)) M.so λx hx y hy=>M.la y hy x hx
 .refine (M.pm.append_left _).trans ?_;have e1:(X.take na++Y.take nb++(X.drop na++Y.drop nb)).Perm (X.take na++(X.drop na++Y.take nb)++Y.drop nb):=by
   rw[<-Qn];refine WT.append_right _ ?_;rw[Qn];exact WT.append_left _ WC
  refine e1.trans ?_;rw[<-Qn (X.take na),QJ,Qn,QJ]
def MH.first(M:MH O key X Y na nb L)(hX:aP O key X)(hY:aP O key Y)(hf:∀x∈X,∀y,Y[0]?=some y->Le O key y x)(h:nb=1):wz O key X Y (Y.take nb++X.take na++L):=by
 subst h;refine⟨?_,?_⟩
 .refine ye (ye (hY.sublist (Wo _ _)) (hX.sublist (Wo _ _)) ?_) M.so ?_
  .intro y hy x hx;obtain⟨j,hj⟩:=QB hy;have hlt:=(Qa.mp hj).1;rw[QU]at hlt;obtain rfl:j=0:=by lia
   rw[Qs (by lia)]at hj;exact hf x (Wi hx) y hj
  .intro x hx y hy;rcases Qu.mp hx with hx|hx
   .exact M.lb y hy x hx
   .exact M.la y hy x hx
 .refine (M.pm.append_left _).trans ?_;have e1:(Y.take 1++X.take na++(X.drop na++Y.drop 1)).Perm (Y.take 1++(X++Y.drop 1)):=by
   rw[Qn,<-Qn (X.take na),QJ]
  refine e1.trans ?_;rw[<-Qn];refine(WT.append_right _ WC).trans ?_;rw[Qn,QJ]
def kZ {l:List Keyed}(h:l[i]?=some x):l.drop i=x::l.drop (i+1):=by
 obtain⟨hi,rfl⟩:=Qa.mp h;exact QM hi
def vw {l:List Keyed}(h:i<=j)(hx:x∈l.take i):x∈l.take j:=by
 have:l.take i=(l.take j).take i:=by rw[List.take_take];congr 1;lia
 rw[this]at hx;exact Wi hx
def MH.pushA(M:MH O key X Y (na+1) nb L)(hX:aP O key X){x:Keyed}(hx:X[na]?=some x)(h:∀y∈Y.take nb,Le O key y x):MH O key X Y na nb (x::L):=by
 have hm:x∈X.take (na+1):=by rw[yu hx];simp
 have:=M.ha;refine⟨by lia,M.hb,?_,Q6.mpr ⟨λz hz=>M.la z hz x hm,M.so⟩,λz hz y hy=>?_,λz hz y hy=>?_⟩
 .rw[kZ hx,Vi];exact M.pm.cons x
 .rcases Qc.mp hz with rfl|hz
  .exact hX.take_le hx y (vw (by lia) hy)
  .exact M.la z hz y (vw (by lia) hy)
 .rcases Qc.mp hz with rfl|hz
  .exact h y hy
  .exact M.lb z hz y hy
def MH.pushB(M:MH O key X Y na (nb+1) L)(hY:aP O key Y){y:Keyed}(hy:Y[nb]?=some y)(h:∀x∈X.take na,Le O key x y):MH O key X Y na nb (y::L):=by
 have hm:y∈Y.take (nb+1):=by rw[yu hy];simp
 have:=M.hb;refine⟨M.ha,by lia,?_,Q6.mpr ⟨λz hz=>M.lb z hz y hm,M.so⟩,λz hz x hx=>?_,λz hz x hx=>?_⟩
 .rw[kZ hy];exact(M.pm.cons y).trans List.perm_middle.symm
 .rcases Qc.mp hz with rfl|hz
  .exact h x hx
  .exact M.la z hz x hx
 .rcases Qc.mp hz with rfl|hz
  .exact hY.take_le hy x (vw (by lia) hx)
  .exact M.lb z hz x (vw (by lia) hx)
def k8 {l:List Keyed}(h:l[i]?=some x):(l.drop i).take (k+1)=x::(l.drop (i+1)).take k:=by
 rw[kZ h,List.take_succ_cons]
theorem MH.blockA(hX:aP O key X):∀(k na:Nat),MH O key X Y (na+k) nb L->(∀i,na<=i->i<na+k->∀x,X[i]?=some x->∀y∈Y.take nb,Le O key y x)->MH O key X Y na nb ((X.drop na).take k++L)
 |0,_,M,_=>by simpa using M
 |k+1,na,M,hl=>by
  have hlt:=M.ha;have q:MH O key X Y (na+1) nb ((X.drop (na+1)).take k++L):=MH.blockA hX k (na+1) (by rw[show na+1+k=na+(k+1) by lia];exact M) λi h1 h2=>hl i (by lia) (by lia);have hx:X[na]?=some X[na]:=by simp
  rw[k8 hx,Vi];exact q.pushA hX hx (hl na (Qo _) (by lia) _ hx)
theorem MH.blockB(hY:aP O key Y):∀(k nb:Nat),MH O key X Y na (nb+k) L->(∀i,nb<=i->i<nb+k->∀y,Y[i]?=some y->∀x∈X.take na,Le O key x y)->MH O key X Y na nb ((Y.drop nb).take k++L)
 |0,_,M,_=>by simpa using M
 |k+1,nb,M,hl=>by
  have hlt:=M.hb;have q:MH O key X Y na (nb+1) ((Y.drop (nb+1)).take k++L):=MH.blockB hY k (nb+1) (by rw[show nb+1+k=nb+(k+1) by lia];exact M) λi h1 h2=>hl i (by lia) (by lia);have hy:Y[nb]?=some Y[nb]:=by simp
  rw[k8 hy,Vi];exact q.pushB hY hy (hl nb (Qo _) (by lia) _ hy)
def ow(p a b:Array Keyed)(i j:Nat):(a.extract 0 i++b.extract 0 j++p.reverse).toList=a.toList.take i++b.toList.take j++p.toList.reverse:=by
 simp only[Vn,WF,Ws,VF,V5,Nat.sub_zero]
def vx{p:Array Keyed}(M:MH O key a.toList b.toList na nb p.toList.reverse)(hX:aP O key a.toList)(hY:aP O key b.toList)(h:na=0\/nb=0):wz O key a.toList b.toList (a.extract 0 na++b.extract 0 nb++p.reverse).toList:=by
 rw[ow];exact M.done hX hY h
def vW{p:Array Keyed}(M:MH O key a.toList b.toList na nb p.toList.reverse)(hX:aP O key a.toList)(hY:aP O key b.toList)(hf:∀x∈a.toList,∀y,b.toList[0]?=some y->Le O key y x)(h:nb=1):wz O key a.toList b.toList (b.extract 0 nb++a.extract 0 na++p.reverse).toList:=by
 rw[ow];exact M.first hX hY hf h
def vX {p:Array Keyed}(M:MH O key a.toList b.toList na nb p.toList.reverse)(hX:aP O key a.toList)(h0:0<na)(hx:a[na-1]?=some x)(h:∀y∈b.toList.take nb,Le O key y x):MH O key a.toList b.toList (na-1) nb (p.push x).toList.reverse:=by
 obtain⟨n,rfl⟩:∃n,na=n+1:=⟨na-1,by lia⟩;rw[Vc,W3];exact M.pushA hX (by simpa using hx) h
def mf {p:Array Keyed}(M:MH O key a.toList b.toList na nb p.toList.reverse)(hY:aP O key b.toList)(h0:0<nb)(hy:b[nb-1]?=some y)(h:∀x∈a.toList.take na,Le O key x y):MH O key a.toList b.toList na (nb-1) (p.push y).toList.reverse:=by
 obtain⟨n,rfl⟩:∃n,nb=n+1:=⟨nb-1,by lia⟩;rw[Vc,W3];exact M.pushB hY (by simpa using hy) h
def ou(p a:Array Keyed)(i j:Nat):(p++(a.extract i j).reverse).toList.reverse=(a.toList.drop i).take (j-i)++p.toList.reverse:=by
 simp only[Vn,VF,WF,Ws,W3,List.reverse_reverse]
def CT (M:MH O key a.toList b.toList na nb p.toList.reverse)(hX:aP O key a.toList)(ht:t<=na)(h:∀i,t<=i->i<na->∀x,a.toList[i]?=some x->∀y∈b.toList.take nb,Le O key y x):MH O key a.toList b.toList t nb (p++(a.extract t na).reverse).toList.reverse:=by
 rw[ou];exact MH.blockA hX (na-t) t (by rw[show t+(na-t)=na by lia];exact M) λi h1 h2=>h i h1 (by lia)
def rR (M:MH O key a.toList b.toList na nb p.toList.reverse)(hY:aP O key b.toList)(ht:t<=nb)(h:∀i,t<=i->i<nb->∀y,b.toList[i]?=some y->∀x∈a.toList.take na,Le O key x y):MH O key a.toList b.toList na t (p++(b.extract t nb).reverse).toList.reverse:=by
 rw[ou];exact MH.blockB hY (nb-t) t (by rw[show t+(nb-t)=nb by lia];exact M) λi h1 h2=>h i h1 (by lia)
end
section
variable{O:Js}{key:Keyed->O.α}{S:Keyed->Prop}{a b:Array Keyed}
variable{κ:Jr}{prog:HS}{w:HU}{A:HY}{E:Value->Shared->Prop}{s:Shared}
noncomputable def Ej:Array Keyed->Array Keyed->StateT Jt Sem (Array Keyed):=sortPriv% PySem.Builtin.mergeHi
def qF (C:dX κ prog w A E s O key S){st:Jt}(hk:kindOf st=κ)(hX:aP O key a.toList)(hY:aP O key b.toList)(hSa:∀x∈a.toList,S x)(hSb:∀x∈b.toList,S x)(hb0:0<b.size)(ha0:0<a.size)(hf:∀x∈a.toList,∀y,b.toList[0]?=some y->Le O key y x)(hl:∀y∈b.toList,∀x,a[a.size-1]?=some x->Le O key y x)(h:∀r st',Eqv st st'->wz O key a.toList b.toList r.toList->Q r st'):
  wpS (Ie prog w) A E s (Ej a b) Q st:=by
 have atA:∀i,i<a.size->∃x,a[i]?=some x/\S x/\a.toList[i]?=some x:=λi hi=>⟨a[i],by simp[hi],hSa _ (by simp),by simp[hi]⟩;have atB:∀i,i<b.size->∃x,b[i]?=some x/\S x/\b.toList[i]?=some x:=λi hi=>⟨b[i],by simp[hi],hSb _ (by simp),by simp[hi]⟩;have gA:∀(ia:Nat) (v:Keyed) (i:Nat),ia+i<a.size->∃x,a[ia+i]?=some x/\S x/\(! O.blt (key v) (key (a.getD (ia+i) v)))=(if false=true then O.blt (key x) (key v)else ! O.blt (key v) (key x)):=by
  intro ia v i hi;obtain⟨x,hx,sx,_⟩:=atA (ia+i) hi;exact⟨x,hx,sx,by rw[Kb (by simp),Q7,hx];rfl⟩
 have gB:∀(ib:Nat) (u:Keyed) (i:Nat),ib+i<b.size->∃x,b[ib+i]?=some x/\S x/\O.blt (key (b.getD (ib+i) u)) (key u)=(if true=true then O.blt (key x) (key u)else ! O.blt (key u) (key x)):=by
  intro ib u i hi;obtain⟨x,hx,sx,_⟩:=atB (ib+i) hi;exact⟨x,hx,sx,by rw[Ka rfl,Q7,hx];rfl⟩
 have dA:∀(i:Nat) (v x:Keyed),a.toList[i]?=some x->a.getD i v=x:=λi v x hx=>by rw[Q7,<-QG,hx];rfl
 have dB:∀(i:Nat) (v x:Keyed),b.toList[i]?=some x->b.getD i v=x:=λi v x hx=>by rw[Q7,<-QG,hx];rfl
 have mA:∀(ia:Nat) (v:Keyed) (i j:Nat),i<=j->j<a.size-ia->(! O.blt (key v) (key (a.getD (ia+j) v)))=true->(! O.blt (key v) (key (a.getD (ia+i) v)))=true:=by
  intro ia v i j hij hj hB;obtain⟨x,hx,_,hx'⟩:=atA (ia+i) (by lia);obtain⟨y,hy,_,hy'⟩:=atA (ia+j) (by lia);rw[dA _ _ _ hy']at hB;rw[dA _ _ _ hx'];have e:Le O key x v:=Le.trans (hX.at_le (by lia) hx' hy') (show O.blt (key v) (key y)=false from by simpa using hB);simpa using (show O.blt (key v) (key x)=false from e)
 have mB:∀(ib:Nat) (u:Keyed) (i j:Nat),i<=j->j<b.size-ib->O.blt (key (b.getD (ib+j) u)) (key u)=true->O.blt (key (b.getD (ib+i) u)) (key u)=true:=by
  intro ib u i j hij hj hB;obtain⟨x,hx,_,hx'⟩:=atB (ib+i) (by lia);obtain⟨y,hy,_,hy'⟩:=atB (ib+j) (by lia);rw[dB _ _ _ hy']at hB;rw[dB _ _ _ hx'];exact KeyOrd.klt_of_kle_of_klt (hY.at_le (by lia) hx' hy') hB
 have lowT:∀(t:Nat) (v:Keyed),t<=a.size->(∀i,i<t->(! O.blt (key v) (key (a.getD (0+i) v)))=true)->∀x∈a.toList.take t,Le O key x v:=by
  intro t v ht hB x hx;obtain⟨i,hi⟩:=QB hx;have hlt:=(Qa.mp hi).1;rw[QU]at hlt;rw[Qs (by lia)]at hi;have:=hB i (by lia);rw[Vg,dA _ _ _ hi]at this;exact(show O.blt (key v) (key x)=false from by simpa using this)
 have highT:∀(t n:Nat) (v:Keyed),(∀i,t<=i->i<n->(! O.blt (key v) (key (a.getD (0+i) v)))=false)->∀i,t<=i->i<n->∀x,a.toList[i]?=some x->Le O key v x:=by
  intro t n v hB i h1 h2 x hx;have:=hB i h1 h2;rw[Vg,dA _ _ _ hx]at this;exact KeyOrd.kle_of_klt (show O.blt (key v) (key x)=true from by simpa using this)
 have lowU:∀(t:Nat) (u:Keyed),t<=b.size->(∀i,i<t->O.blt (key (b.getD (0+i) u)) (key u)=true)->∀y∈b.toList.take t,Le O key y u:=by
  intro t u ht hB x hx;obtain⟨i,hi⟩:=QB hx;have hlt:=(Qa.mp hi).1;rw[QU]at hlt;rw[Qs (by lia)]at hi;have:=hB i (by lia);rw[Vg,dB _ _ _ hi]at this;exact KeyOrd.kle_of_klt this
 have highU:∀(t n:Nat) (u:Keyed),(∀i,t<=i->i<n->O.blt (key (b.getD (0+i) u)) (key u)=false)->∀i,t<=i->i<n->∀y,b.toList[i]?=some y->Le O key u y:=by
  intro t n u hB i h1 h2 x hx;have:=hB i h1 h2;rw[Vg,dB _ _ _ hx]at this;exact this
 have upB:∀(n:Nat) (v:Keyed),0<n->b.toList[n-1]?=some v->∀y∈b.toList.take n,Le O key y v:=by
  intro n v h0 hv;have:=hY.take_le hv
  rwa[show n-1+1=n by lia]at this
 have upA:∀(n:Nat) (v:Keyed),0<n->a.toList[n-1]?=some v->∀y∈a.toList.take n,Le O key y v:=by
  intro n v h0 hv;have:=hX.take_le hv
  rwa[show n-1+1=n by lia]at this
 obtain⟨x0,hx0,_,hx0'⟩:=atA (a.size-1) (by lia);refine Jv (JB (JC ⟨rfl,?_⟩));refine Jv (zq hx0 ?_);dsimp only;have M0:MH O key a.toList b.toList (a.size-1) b.size (#[x0]:Array Keyed).toList.reverse:=by
  have e:MH O key a.toList b.toList a.size b.size (#[]:Array Keyed).toList.reverse:=⟨by simp,by simp,by simp,by simp[aP],by simp,by simp⟩;exact vX e hX ha0 hx0 (λy hy=>hl y (Wi hy) x0 hx0)
 by_cases c1:a.size-1=0
 .rw[Ka (by simpa using c1)];exact Ju (h _ _ (.refl _) (vx M0 hX hY (.inl c1)))
 rw[Kb (by simpa using c1)];by_cases c2:b.size=1
 .rw[Ka (by simpa using c2)];exact Ju (h _ _ (.refl _) (vW M0 hX hY hf c2))
 rw[Kb (by simpa using c2)];refine Jv (JD ?_);refine Jv (Jw (Jx (I:=λx c st'=>Eqv st st'/\∃na nb out mg,c=(none,na,nb,out,mg)/\MH O key a.toList b.toList na nb out.toList.reverse/\0<na/\1<nb/\na+nb+x+1<=a.size+b.size)
  (Q:=λc st'=>Eqv st st'/\∃r na nb out mg,c=(some r,na,nb,out,mg)/\wz O key a.toList b.toList r.toList) ?s1 ?f1 ⟨.refl _,_,_,_,_,rfl,M0,by lia,by lia,by lia⟩) ?p1)
 case p1=>
  rintro c st' ⟨hE,r,na,nb,out,mg,rfl,hg⟩;exact Ju (h _ _ hE hg)
 case f1=>
  rintro c st' ⟨hE,na,nb,out,mg,rfl,M,h1,h2,h3⟩;lia
 case s1=>
  rintro x0 c st0 _ hx0 ⟨hE0,na0,nb0,out0,mg0,rfl,M00,h10,h20,h30⟩;dsimp only;refine Jv (Jw (Jx (I:=λx c st'=>Eqv st st'/\∃na nb out ac bc,c=(none,na,nb,out,ac,bc)/\MH O key a.toList b.toList na nb out.toList.reverse/\0<na/\1<nb/\na+nb+(x0+1)+x<=a.size+b.size)
   (Q:=λc st'=>Eqv st st'/\((∃r na nb out ac bc,c=(some r,na,nb,out,ac,bc)/\wz O key a.toList b.toList r.toList)\/∃na nb out ac bc,c=(none,na,nb,out,ac,bc)/\MH O key a.toList b.toList na nb out.toList.reverse/\0<na/\1<nb/\na+nb+x0+2<=a.size+b.size)) ?s2 ?f2 ⟨hE0,_,_,_,_,_,rfl,M00,h10,h20,h30⟩) ?p2)
  case f2=>
   rintro c st' ⟨hE,na,nb,out,ac,bc,rfl,M,h1,h2,h3⟩;exact⟨hE,.inr ⟨na,nb,out,ac,bc,rfl,M,h1,h2,by lia⟩⟩
  case s2=>
   rintro x c st' _ hx ⟨hE,na,nb,out,ac,bc,rfl,M,h1,h2,h3⟩;have hna:na<=a.size:=M.ha;have hnb:nb<=b.size:=M.hb;dsimp only;obtain⟨u,hu,su,hu'⟩:=atA (na-1) (by lia);obtain⟨v,hv,sv,hv'⟩:=atB (nb-1) (by lia);refine Jv (zq hv (Jv (zq hu (Jv (C v u st' _ sv su (hE.1.trans hk) ?_)))));dsimp only;cases hc:O.blt (key v) (key u)with
   |true=>
    rw[Ka rfl];have M2:=vX M hX h1 hu (λy hy=>Le.trans (upB nb v (by lia) hv' y hy) (KeyOrd.kle_of_klt hc));refine Jv (zq hu ?_);by_cases c1:na-1=0
    .rw[Ka (by simpa using c1)];exact Ju ⟨hE,.inl ⟨_,_,_,_,_,_,rfl,vx M2 hX hY (.inl c1)⟩⟩
    .rw[Kb (by simpa using c1)];split
     .exact Ju ⟨hE,.inr ⟨_,_,_,_,_,rfl,M2,by lia,by lia,by lia⟩⟩
     .exact Ju ⟨hE,_,_,_,_,_,rfl,M2,by lia,by lia,by lia⟩
   |false=>
    rw[Kb (by simp)];have M2:=mf M hY (by lia) hv (λx hx=>Le.trans (upA na u h1 hu' x hx) (show Le O key u v from hc));refine Jv (zq hv ?_);by_cases c1:nb-1=1
    .rw[Ka (by simpa using c1)];exact Ju ⟨hE,.inl ⟨_,_,_,_,_,_,rfl,vW M2 hX hY hf c1⟩⟩
    .rw[Kb (by simpa using c1)];split
     .exact Ju ⟨hE,.inr ⟨_,_,_,_,_,rfl,M2,by lia,by lia,by lia⟩⟩
     .exact Ju ⟨hE,_,_,_,_,_,rfl,M2,by lia,by lia,by lia⟩
  case p2=>
   rintro c st1 ⟨hE1,⟨r,na,nb,out,ac,bc,rfl,hg⟩|⟨na1,nb1,out1,ac1,bc1,rfl,M1,h11,h21,h31⟩⟩
   .exact Ju ⟨hE1,r,na,nb,out,_,rfl,hg⟩
   dsimp only;refine Jv (JB (JC ⟨rfl,?_⟩));refine Jv (Jw (Jx (I:=λx c st'=>Eqv st st'/\∃na nb out mg ac bc,c=(none,na,nb,out,mg,ac,bc)/\MH O key a.toList b.toList na nb out.toList.reverse/\0<na/\1<nb/\na+nb+x0+2<=a.size+b.size)
    (Q:=λc st'=>Eqv st st'/\((∃r na nb out mg ac bc,c=(some r,na,nb,out,mg,ac,bc)/\wz O key a.toList b.toList r.toList)\/∃na nb out mg ac bc,c=(none,na,nb,out,mg,ac,bc)/\MH O key a.toList b.toList na nb out.toList.reverse/\0<na/\1<nb/\na+nb+x0+2<=a.size+b.size)) ?s3 ?f3 ⟨hE1,_,_,_,_,_,_,rfl,M1,h11,h21,h31⟩) ?p3)
   case f3=>
    rintro c st' ⟨hE,na,nb,out,mg,ac,bc,rfl,M,h1,h2,h3⟩;exact⟨hE,.inr ⟨na,nb,out,mg,ac,bc,rfl,M,h1,h2,h3⟩⟩
   case p3=>
    rintro c st' ⟨hE,⟨r,na,nb,out,mg,ac,bc,rfl,hg⟩|⟨na,nb,out,mg,ac,bc,rfl,M,h1,h2,h3⟩⟩
    .exact Ju ⟨hE,r,na,nb,out,_,rfl,hg⟩
    .dsimp only;refine Jv (JE ?_);exact Ju ⟨hE,_,_,_,_,rfl,M,h1,h2,by lia⟩
   case s3=>
    rintro x c st' _ hx ⟨hE,na,nb,out,mg,ac,bc,rfl,M,h1,h2,h3⟩;have hna:na<=a.size:=M.ha;have hnb:nb<=b.size:=M.hb;dsimp only;obtain⟨v,hv,sv,hv'⟩:=atB (nb-1) (by lia);by_cases cm:mg > 1
    all_goals
     first|rw[Ka cm]|rw[Kb cm]
     refine Jv (JE ?_);refine Jv (zq hv ?_);refine Jv (yt C (st:=_) (hE.1.trans hk) sv (by lia) (λi=>! O.blt (key v) (key (a.getD (0+i) v))) (λi hi=>gA 0 v i (by lia)) (λi j q1 q2=>mA 0 v i j q1 (by lia)) (λt k1 k2 k3=>?_));dsimp only;by_cases c1:na-t > 0
     .rw[Ka c1];have M2:=CT M hX k1 (λi q1 q2 x hx y hy=>Le.trans (upB nb v (by lia) hv' y hy) (highT t _ v k3 i q1 q2 x hx));by_cases c2:t=0
      .rw[Ka (by simpa using c2)];exact Ju ⟨hE,.inl ⟨_,_,_,_,_,_,_,rfl,vx M2 hX hY (.inl c2)⟩⟩
      rw[Kb (by simpa using c2)];have M3:=mf M2 hY (by lia) hv (lowT t v (by lia) k2);refine Jv (zq hv ?_);by_cases c3:nb-1=1
      .rw[Ka (by simpa using c3)];exact Ju ⟨hE,.inl ⟨_,_,_,_,_,_,_,rfl,vW M3 hX hY hf c3⟩⟩
      rw[Kb (by simpa using c3)];obtain⟨u,hu,su,hu'⟩:=atA (t-1) (by lia);refine Jv (zq hu ?_);refine Jv (yt C (st:=_) (hE.1.trans hk) su (by lia) (λi=>O.blt (key (b.getD (0+i) u)) (key u)) (λi hi=>gB 0 u i (by lia)) (λi j q1 q2=>mB 0 u i j q1 (by lia)) (λt' k1' k2' k3'=>?_));dsimp only;by_cases c5:nb-1-t' > 0
      .rw[Ka c5];have M4:=rR M3 hY k1' (λi q1 q2 y hy x hx=>Le.trans (upA t u (by lia) hu' x hx) (highU t' _ u k3' i q1 q2 y hy));by_cases c6:t'=1
       .rw[Ka (by simpa using c6)];exact Ju ⟨hE,.inl ⟨_,_,_,_,_,_,_,rfl,vW M4 hX hY hf c6⟩⟩
       rw[Kb (by simpa using c6)];by_cases c7:t'=0
       .rw[Ka (by simpa using c7)];exact Ju ⟨hE,.inl ⟨_,_,_,_,_,_,_,rfl,vx M4 hX hY (.inr c7)⟩⟩
       rw[Kb (by simpa using c7)];have M5:=vX M4 hX (by lia) hu (lowU t' u (by lia) k2');refine Jv (zq hu ?_);by_cases c8:t-1=0
       .rw[Ka (by simpa using c8)];exact Ju ⟨hE,.inl ⟨_,_,_,_,_,_,_,rfl,vx M5 hX hY (.inl c8)⟩⟩
       .rw[Kb (by simpa using c8)];split
        .exact Ju ⟨hE,.inr ⟨_,_,_,_,_,_,rfl,M5,by lia,by lia,by lia⟩⟩
        .exact Ju ⟨hE,_,_,_,_,_,_,rfl,M5,by lia,by lia,by lia⟩
      .rw[Kb c5];have M5:=vX M3 hX (by lia) hu (lowU (nb-1) u (by lia) (λi q=>k2' i (by lia)));refine Jv (zq hu ?_);by_cases c8:t-1=0
       .rw[Ka (by simpa using c8)];exact Ju ⟨hE,.inl ⟨_,_,_,_,_,_,_,rfl,vx M5 hX hY (.inl c8)⟩⟩
       .rw[Kb (by simpa using c8)];split
        .exact Ju ⟨hE,.inr ⟨_,_,_,_,_,_,rfl,M5,by lia,by lia,by lia⟩⟩
        .exact Ju ⟨hE,_,_,_,_,_,_,rfl,M5,by lia,by lia,by lia⟩
     .rw[Kb c1];have M2:=M
      replace k2:∀i,i<na->(! O.blt (key v) (key (a.getD (0+i) v)))=true:=λi q=>k2 i (by lia)
      have M3:=mf M2 hY (by lia) hv (lowT na v (by lia) k2);refine Jv (zq hv ?_);by_cases c3:nb-1=1
      .rw[Ka (by simpa using c3)];exact Ju ⟨hE,.inl ⟨_,_,_,_,_,_,_,rfl,vW M3 hX hY hf c3⟩⟩
      rw[Kb (by simpa using c3)];obtain⟨u,hu,su,hu'⟩:=atA (na-1) (by lia);refine Jv (zq hu ?_);refine Jv (yt C (st:=_) (hE.1.trans hk) su (by lia) (λi=>O.blt (key (b.getD (0+i) u)) (key u)) (λi hi=>gB 0 u i (by lia)) (λi j q1 q2=>mB 0 u i j q1 (by lia)) (λt' k1' k2' k3'=>?_));dsimp only;by_cases c5:nb-1-t' > 0
      .rw[Ka c5];have M4:=rR M3 hY k1' (λi q1 q2 y hy x hx=>Le.trans (upA na u (by lia) hu' x hx) (highU t' _ u k3' i q1 q2 y hy));by_cases c6:t'=1
       .rw[Ka (by simpa using c6)];exact Ju ⟨hE,.inl ⟨_,_,_,_,_,_,_,rfl,vW M4 hX hY hf c6⟩⟩
       rw[Kb (by simpa using c6)];by_cases c7:t'=0
       .rw[Ka (by simpa using c7)];exact Ju ⟨hE,.inl ⟨_,_,_,_,_,_,_,rfl,vx M4 hX hY (.inr c7)⟩⟩
       rw[Kb (by simpa using c7)];have M5:=vX M4 hX (by lia) hu (lowU t' u (by lia) k2');refine Jv (zq hu ?_);by_cases c8:na-1=0
       .rw[Ka (by simpa using c8)];exact Ju ⟨hE,.inl ⟨_,_,_,_,_,_,_,rfl,vx M5 hX hY (.inl c8)⟩⟩
       .rw[Kb (by simpa using c8)];split
        .exact Ju ⟨hE,.inr ⟨_,_,_,_,_,_,rfl,M5,by lia,by lia,by lia⟩⟩
        .exact Ju ⟨hE,_,_,_,_,_,_,rfl,M5,by lia,by lia,by lia⟩
      .rw[Kb c5];have M5:=vX M3 hX (by lia) hu (lowU (nb-1) u (by lia) (λi q=>k2' i (by lia)));refine Jv (zq hu ?_);by_cases c8:na-1=0
       .rw[Ka (by simpa using c8)];exact Ju ⟨hE,.inl ⟨_,_,_,_,_,_,_,rfl,vx M5 hX hY (.inl c8)⟩⟩
       .rw[Kb (by simpa using c8)];split
        .exact Ju ⟨hE,.inr ⟨_,_,_,_,_,_,rfl,M5,by lia,by lia,by lia⟩⟩
        .exact Ju ⟨hE,_,_,_,_,_,_,rfl,M5,by lia,by lia,by lia⟩
end
section
variable{O:Js}{key:Keyed->O.α}{S:Keyed->Prop}
theorem rQ:∀(l:List Keyed) (n sa:Nat) (xs:Array Keyed),sa+n+l.length<=xs.size ->
  ((l.zipIdx n).foldl (λ(a:Array Keyed) (pj:Keyed×Nat)=>a.setIfInBounds (sa+pj.2) pj.1) xs).toList=xs.toList.take (sa+n)++l++xs.toList.drop (sa+n+l.length)
 |[],n,sa,xs,h=>by simp
 |x::l,n,sa,xs,h=>by
  rw[VQ,List.foldl_cons];have hl:sa+n<xs.toList.length:=by simp at h ⊢;lia
  rw[rQ l (n+1) sa _ (by simp at h ⊢;lia)];rw[V3];have e1:(xs.toList.set (sa+n) x).take (sa+(n+1))=xs.toList.take (sa+n)++[x]:=by
   rw[show sa+(n+1)=sa+n+1 by lia,yu (x:=x) (by rw[Wa hl]),List.take_set_of_le (Qo _)]
  have e2:(xs.toList.set (sa+n) x).drop (sa+(n+1)+l.length)=xs.toList.drop (sa+n+(x::l).length):=by
   rw[List.drop_set_of_lt (by lia),show sa+(n+1)+l.length=sa+n+(x::l).length by simp;lia]
  rw[e1,e2];simp
variable{κ:Jr}{prog:HS}{w:HU}{A:HY}{E:Value->Shared->Prop}{s:Shared}
structure Ok(κ:Jr)(O:Js)(key:Keyed->O.α)(S:Keyed->Prop)(st:Jt)(pend:List (Nat×Nat×Nat))(l:List Keyed):Prop where
 kind:kindOf st=κ
 failed:JA st=none
 pend:(Jz st).toList=pend
 arr:(Jy st).toList=l
 all:∀x∈l,S x
def gG {V:List Keyed}(hU:aP O key U)(hV:aP O key V)(h:∀x y,U[U.length-1]?=some x->V[0]?=some y->Le O key x y):aP O key (U++V):=by
 refine ye hU hV λx hx y hy=>?_;obtain⟨i,hi⟩:=QB hx;obtain⟨j,hj⟩:=QB hy;have h1:=(Qa.mp hi).1;have h2:=(Qa.mp hj).1;have a1:U[U.length-1]?=some (U[U.length-1]'(by lia)):=by simp
 have a2:V[0]?=some (V[0]'(by lia)):=by simp
 exact((hU.at_le (by lia) hi a1).trans (h _ _ a1 a2)).trans (hV.at_le (by lia) a2 hj)
def CS {st:Jt}(h:Q ⟨⟩ x):wpS (Ie prog w) A E s (set x:StateT Jt Sem PUnit) Q st:=by
 unfold wpS;rw[StateT.run_set];exact IA ⟨rfl,h⟩
noncomputable def Ei:Nat->StateT Jt Sem Bool:=sortPriv% PySem.Builtin.mergeAt
def qG (C:dX κ prog w A E s O key S){st:Jt}{V:List Keyed}(K:Ok κ O key S st (p1++(sa,na,po)::(sb,nb,po2)::p2) (P++(U++(V++R))))(hsa:sa=P.length)(hna:na=U.length)(hsb:sb=P.length+U.length)(hnb:nb=V.length)(hU0:0<U.length)(hV0:0<V.length)(hU:aP O key U)(hV:aP O key V)(h:∀st' W,Ok κ O key S st' (p1++(sa,na+nb,po)::p2) (P++(W++R))->aP O key W->W.Perm (U++V)->Q true st'):
  wpS (Ie prog w) A E s (Ei p1.length) Q st:=by
 have e1:(Jz st)[p1.length]?=some (sa,na,po):=by rw[<-QG,K.pend];simp
 have e2:(Jz st)[p1.length+1]?=some (sb,nb,po2):=by rw[<-QG,K.pend];simp
 have hp:(((Jz st).setIfInBounds p1.length (sa,na+nb,po)).eraseIdxIfInBounds (p1.length+1)).toList=p1++(sa,na+nb,po)::p2:=by
  rw[Array.toList_eraseIdxIfInBounds,V3,K.pend];simp[List.set_append,List.eraseIdx_append];intro hh;lia
 have atU:∀i,i<U.length->(Jy st)[P.length+i]?=U[i]?:=λi hi=>by
  rw[<-QG,K.arr,Qd (by lia),show P.length+i-P.length=i by lia,Qi hi]
 have atV:∀i,i<V.length->(Jy st)[P.length+U.length+i]?=V[i]?:=λi hi=>by
  rw[<-QG,K.arr,Qd (by lia),Qd (by lia),show P.length+U.length+i-P.length-U.length=i by lia,Qi hi]
 refine Jv (JD ?_);dsimp only;rw[e1,e2];dsimp only;refine Jv (CS ?_);have K1:Ok κ O key S (SortSt.mk' (kindOf st) (Jy st) (((Jz st).setIfInBounds p1.length (sa,na+nb,po)).eraseIdxIfInBounds (p1.length+1)) (JF st) (JA st)) (p1++(sa,na+nb,po)::p2) (P++(U++(V++R))):=⟨K.kind,K.failed,hp,K.arr,K.all⟩;have whole:aP O key (U++V)->Q true (SortSt.mk' (kindOf st) (Jy st) (((Jz st).setIfInBounds p1.length (sa,na+nb,po)).eraseIdxIfInBounds (p1.length+1)) (JF st) (JA st)):=λhs=>by
  refine h _ (U++V) ?_ hs (.refl _);rw[Qn];exact K1
 have sU:∀x∈U,S x:=λx hx=>K.all x (by simp[hx]);have sV:∀x∈V,S x:=λx hx=>K.all x (by simp[hx]);have gU:∀i,i<U.length->∃x,U[i]?=some x/\S x:=λi hi=>⟨U[i],by simp[hi],sU _ (by simp)⟩;have gV:∀i,i<V.length->∃x,V[i]?=some x/\S x:=λi hi=>⟨V[i],by simp[hi],sV _ (by simp)⟩;obtain⟨v0,hv0,sv0⟩:=gV 0 hV0;obtain⟨u1,hu1,su1⟩:=gU (U.length-1) (by lia);subst hsa hna hsb hnb;have hel:(Jy st)[P.length+U.length]?=some v0:=by have:=atV 0 hV0;rw[Nat.add_zero]at this;rw[this,hv0]
 refine Jv (zq hel ?_);refine Jv (yt C (left:=false) K.kind sv0 hU0 (λi=>! O.blt (key v0) (key (U.getD i v0))) (λi hi=>?g1) ?m1 (λk k1 k2 k3=>?c1))
 case g1=>
  obtain⟨x,hx,sx⟩:=gU i hi;exact⟨x,by rw[<-hx];exact atU i hi,sx,by rw[Kb (by simp),Qh,hx];rfl⟩
 case m1=>
  intro i j hij hj hB;obtain⟨x,hx,_⟩:=gU i (by lia);obtain⟨y,hy,_⟩:=gU j hj;simp only[Qh,hx,hy,Wt]at hB ⊢;have e:Le O key x v0:=Le.trans (hU.at_le hij hx hy) (show O.blt (key v0) (key y)=false from by simpa using hB);simpa using (show O.blt (key v0) (key x)=false from e)
 have lowU:∀i x,i<k->U[i]?=some x->Le O key x v0:=λi x hi hx=>by
  have:=k2 i hi;simp only[Qh,hx,Wt]at this;exact(show O.blt (key v0) (key x)=false from by simpa using this)
 have highU:∀i x,k<=i->U[i]?=some x->Le O key v0 x:=λi x hi hx=>by
  have:=k3 i hi (Qa.mp hx).1;simp only[Qh,hx,Wt]at this;exact KeyOrd.kle_of_klt (show O.blt (key v0) (key x)=true from by simpa using this)
 dsimp only;by_cases c1:U.length-k=0
 .rw[Ka (by simpa using c1)];refine Ju (whole (gG hU hV λx y hx hy=>?_));rw[hv0]at hy;cases hy;exact lowU _ x (by lia) hx
 rw[Kb (by simpa using c1)];have hel2:(Jy st)[P.length+k+(U.length-k)-1]?=some u1:=by
  rw[<-hu1,<-atU (U.length-1) (by lia)];congr 1;lia
 refine Jv (zq hel2 ?_);refine Jv (yt C (left:=true) K.kind su1 (by lia) (λi=>O.blt (key (V.getD i u1)) (key u1)) (λi hi=>?g2) ?m2 (λn2 q1 q2 q3=>?c2))
 case g2=>
  obtain⟨x,hx,sx⟩:=gV i hi;exact⟨x,by rw[<-hx];exact atV i hi,sx,by rw[Ka rfl,Qh,hx];rfl⟩
 case m2=>
  intro i j hij hj hB;obtain⟨x,hx,_⟩:=gV i (by lia);obtain⟨y,hy,_⟩:=gV j hj;simp only[Qh,hx,hy,Wt]at hB ⊢;exact KeyOrd.klt_of_kle_of_klt (hV.at_le hij hx hy) hB
 have lowV:∀i y,i<n2->V[i]?=some y->Le O key y u1:=λi y hi hy=>by
  have:=q2 i hi;simp only[Qh,hy,Wt]at this;exact KeyOrd.kle_of_klt this
 have highV:∀i y,n2<=i->V[i]?=some y->Le O key u1 y:=λi y hi hy=>by
  have:=q3 i hi (Qa.mp hy).1;simp only[Qh,hy,Wt]at this;exact this
 dsimp only;by_cases c2:n2=0
 .rw[Ka (by simpa using c2)];refine Ju (whole (gG hU hV λx y hx hy=>?_));rw[hu1]at hx;cases hx;exact highV 0 y (by lia) hy
 rw[Kb (by simpa using c2)];have hx:((Jy st).extract (P.length+k) (P.length+U.length)).toList=U.drop k:=by
  rw[WF,Ws,K.arr,VT,Vz (by lia),Wx,show P.length+k-P.length=k by lia,VV (by lia)];rw[Wl (by simp;lia),QL (by simp;lia)]
 have hy:((Jy st).extract (P.length+U.length) (P.length+U.length+n2)).toList=V.take n2:=by
  rw[WF,Ws,K.arr,<-Qn,VT,Vz (by simp),Wx,show P.length+U.length-(P++U).length=0 by simp,V5,show P.length+U.length+n2-(P.length+U.length)=n2 by lia];rw[Wl q1]
 have hsx:((Jy st).extract (P.length+k) (P.length+U.length)).size=U.length-k:=by rw[<-Q3,hx,Vv]
 have hsy:((Jy st).extract (P.length+U.length) (P.length+U.length+n2)).size=n2:=by rw[<-Q3,hy,QU];lia
 have lastx:∀x,(U.drop k)[U.length-k-1]?=some x->x=u1:=λx hh=>by
  rw[Wb,show k+(U.length-k-1)=U.length-1 by lia,hu1]at hh;cases hh;rfl
 have firsty:∀y,(V.take n2)[0]?=some y->y=v0:=λy hh=>by
  rw[Qs (by lia),hv0]at hh;cases hh;rfl
 have dropU:∀x∈U.drop k,Le O key v0 x:=λx hh=>by
  obtain⟨i,hi⟩:=QB hh;rw[Wb]at hi;exact highU (k+i) x (by lia) hi
 have takeV:∀y∈V.take n2,Le O key y u1:=λy hh=>by
  obtain⟨i,hi⟩:=QB hh;have hlt:=(Qa.mp hi).1;rw[QU]at hlt;rw[Qs (by lia)]at hi;exact lowV i y (by lia) hi
 have fin:∀(r:Array Keyed) (st':Jt),Eqv (SortSt.mk' (kindOf st) (Jy st) (((Jz st).setIfInBounds p1.length (P.length,U.length+V.length,po)).eraseIdxIfInBounds (p1.length+1)) (JF st) (JA st)) st'->wz O key (U.drop k) (V.take n2) r.toList ->
   Q (JA st').isNone (SortSt.mk' (kindOf st') (r.toList.zipIdx.foldl (λ(a:Array Keyed) (pj:Keyed×Nat)=>a.setIfInBounds (P.length+k+pj.2) pj.1) (Jy st')) (Jz st') (JF st') (JA st')):=by
  intro r st' hE hg;obtain⟨E1,E2,E3,E4⟩:=hE;have hf:JA st'=none:=E4.trans K.failed;rw[show(JA st').isNone=true by rw[hf];rfl];have hlen:r.toList.length=U.length-k+n2:=by rw[hg.2.length_eq,QC,Vv,QU];lia
  refine h _ (U.take k++r.toList++V.drop n2) ⟨E1.trans K.kind,hf,?_,?_,?_⟩ ?_ ?_
  .show (Jz st').toList=_;rw[E3];exact hp
  .show (r.toList.zipIdx.foldl _ (Jy st')).toList=_;have E2':Jy st'=Jy st:=E2;rw[E2',rQ r.toList 0 (P.length+k) _ (by rw[<-Q3,K.arr,hlen];simp;lia),K.arr,hlen];have t1:(P++(U++(V++R))).take (P.length+k+0)=P++U.take k:=by
    rw[Nat.add_zero,List.take_append,QL (by lia),show P.length+k-P.length=k by lia,Wl (by lia)]
   have t2:(P++(U++(V++R))).drop (P.length+k+0+(U.length-k+n2))=V.drop n2++R:=by
    rw[<-Qn,<-Qn,VV (by simp;lia),VT,Vz (by simp;lia),Wx];congr 2;simp;lia
   rw[t1,t2];simp
  .intro x hx';have m1:∀z∈r.toList,z∈U\/z∈V:=λz hz=>by
    have:=hg.2.mem_iff.mp hz;rcases Qu.mp this with q|q
    .exact .inl (Ww q)
    .exact .inr (Wi q)
   simp only[Qu]at hx';rcases hx' with q|((q|q)|q)|q
   .exact K.all x (by simp[q])
   .exact sU x (Wi q)
   .rcases m1 x q with q|q
    .exact sU x q
    .exact sV x q
   .exact sV x (Ww q)
   .exact K.all x (by simp[q])
  .have uV:∀x∈U,Le O key x u1:=λx hx'=>by
    have:=hU.take_le hu1 x (by rw[show U.length-1+1=U.length by lia,VR];exact hx');exact this
   have vV:∀y∈V,Le O key v0 y:=λy hy'=>hV.drop_le hv0 y (by simpa using hy');have tU:∀x∈U.take k,Le O key x v0:=λx hh=>by
    obtain⟨i,hi⟩:=QB hh;have hlt:=(Qa.mp hi).1;rw[QU]at hlt;rw[Qs (by lia)]at hi;exact lowU i x (by lia) hi
   have dV:∀y∈V.drop n2,Le O key u1 y:=λy hh=>by
    obtain⟨i,hi⟩:=QB hh;rw[Wb]at hi;exact highV (n2+i) y (by lia) hi
   refine ye (ye (hU.sublist (Wo _ _)) hg.1 λx hx' z hz=>?_) (hV.sublist (Wr _ _)) λx hx' y hy'=>?_
   .rcases Qu.mp (hg.2.mem_iff.mp hz)with q|q
    .exact (tU x hx').trans (dropU z q)
    .exact (tU x hx').trans (vV z (Wi q))
   .rcases Qu.mp hx' with q|q
    .exact (uV x (Wi q)).trans (dV y hy')
    .rcases Qu.mp (hg.2.mem_iff.mp q)with q|q
     .exact (uV x (Ww q)).trans (dV y hy')
     .exact (takeV x q).trans (dV y hy')
  .refine ((hg.2.append_left _).append_right _).trans ?_;rw[<-Qn,QJ,Qn,QJ]
 by_cases c3:U.length-k<=n2
 .rw[Ka c3];refine Jv (qE C K.kind (by rw[hx];exact hU.sublist (Wr _ _)) (by rw[hy];exact hV.sublist (Wo _ _)) (by rw[hx];exact λx q=>sU x (Ww q)) (by rw[hy];exact λx q=>sV x (Wi q)) (by rw[hsy];lia) (by rw[hsx];lia) ?_ ?_ (λr st' hE hg=>?_))
  .rw[hx];intro x hx' y hy';rw[<-QG,hy]at hy';rw[firsty y hy'];exact dropU x hx'
  .rw[hx,hy];intro y hy' x hx';rw[Vv]at hx';rw[lastx x hx'];exact takeV y hy'
  .rw[hx,hy]at hg;exact Jv (JE (Jv (JD (Ju (fin r st' hE hg)))))
 .rw[Kb c3];refine Jv (qF C K.kind (by rw[hx];exact hU.sublist (Wr _ _)) (by rw[hy];exact hV.sublist (Wo _ _)) (by rw[hx];exact λx q=>sU x (Ww q)) (by rw[hy];exact λx q=>sV x (Wi q)) (by rw[hsy];lia) (by rw[hsx];lia) ?_ ?_ (λr st' hE hg=>?_))
  .rw[hx,hy];intro x hx' y hy';rw[firsty y hy'];exact dropU x hx'
  .rw[hy,hsx];intro y hy' x hx';rw[<-QG,hx]at hx';rw[lastx x hx'];exact takeV y hy'
  .rw[hx,hy]at hg;exact Jv (JE (Jv (JD (Ju (fin r st' hE hg)))))
end
section
variable{O:Js}{key:Keyed->O.α}{S:Keyed->Prop}
variable{κ:Jr}{prog:HS}{w:HU}{A:HY}{E:Value->Shared->Prop}{s:Shared}
def xS (C:dX κ prog w A E s O key S){st:Jt}(K:Ok κ O key S st pend l)(hi:l[i]?=some x)(hj:l[j]?=some y)(q:Q (some (O.blt (key x) (key y))) st):
  wpS (Ie prog w) A E s (ltAt' i j) Q st:=by
 rw[ltAt'_eq];refine Jv (JD ?_);refine Jv (zq (by rw[<-QG,K.arr];exact hi) (Jv (zq (by rw[<-QG,K.arr];exact hj) ?_)));exact C x y st _ (K.all x (Qt hi)) (K.all y (Qt hj)) K.kind q
noncomputable def dP(O:Js)(key:Keyed->O.α)(l:List Keyed):Prop:=(l.map key).Nodup
def dP.at (h:dP O key l){j:Nat}(hij:i≠j)(hx:l[i]?=some x)(hy:l[j]?=some y)(hb:O.blt (key x) (key y)=false):O.blt (key y) (key x)=true:=by
 cases z:O.blt (key y) (key x)with
 |true=>rfl
 |false=>
  exfalso;have e:=O.total _ _ hb z;obtain⟨hi,rfl⟩:=Qa.mp hx;obtain⟨hj,rfl⟩:=Qa.mp hy;rcases Nat.lt_or_gt_of_ne hij with q|q
  .have:=(Wj.mp h) i j (by simpa using hi) (by simpa using hj) q;exact this (by simpa using e)
  .have:=(Wj.mp h) j i (by simpa using hj) (by simpa using hi) q;exact this (by simpa using e.symm)
def dP.perm{l r:List Keyed}(h:dP O key l)(p:r.Perm l):dP O key r:=(p.map key).nodup_iff.mpr h
def dP.right{l r:List Keyed}(h:dP O key (l++r)):dP O key r:=by
 unfold dP at h ⊢;rw[W9]at h;exact(QF.mp h).2.1
def Eg {T:List Keyed}(h:aP O key (T.take x))(h1:1<=x)(hu:T[x]?=some u)(hv:T[x-1]?=some v)(hl:Le O key v u):aP O key (T.take (x+1)):=by
 rw[yu hu];refine gG h (by simp[aP]) λp q hp hq=>?_;have hx:=(Qa.mp hu).1;rw[QU,Nat.min_eq_left (by lia),Qs (by lia),hv]at hp;cases hp;simp at hq;rw[<-hq];exact hl
def FQ {T:List Keyed}(h:xs.toList=P++T)(n:Nat)(hn:n<=T.length):(mirror xs P.length (P.length+n) ((P.length+n-P.length)/2)).toList=P++((T.take n).reverse++T.drop n):=by
 have hs:xs.size=P.length+T.length:=by rw[<-Q3,h,QC]
 apply Q8;intro k;rw[QG,getElem?_mirror_all (by lia)];by_cases c:P.length<=k/\k<P.length+n
 .rw[Ka c,<-QG,h,Qd (by lia),Qd (by lia),Qi (by simp;lia),WV (by simp;lia),Qs (by simp;lia)];congr 1;simp;lia
 .rw[Kb c,<-QG,h];by_cases c2:k<P.length
  .rw[Qi c2,Qi c2]
  .rw[Qd (by lia),Qd (by lia),Qd (by simp;lia),Wb];congr 1;simp;lia
def gH (C:dX κ prog w A E s O key S){st:Jt}(K:Ok κ O key S st pend (P++T))(h0:0<T.length)(hd:dP O key T)(h:∀st' U R,Ok κ O key S st' pend (P++(U++R))->aP O key U->(U++R).Perm T->0<U.length->Q (some U.length) st'):
  wpS (Ie prog w) A E s (countRun' P.length T.length) Q st:=by
 have fin:∀{st':Jt}{T':List Keyed}{n:Nat},Ok κ O key S st' pend (P++T')->T'.Perm T->1<=n->n<=T'.length->aP O key (T'.take n)->Q (some n) st':=by
  intro st' T' n K' hp h1 h2 hs;have e:=h st' (T'.take n) (T'.drop n) (by rw[QJ];exact K') hs (by rw[QJ];exact hp) (by rw[QU];lia)
  rwa[QU,Nat.min_eq_left h2]at e
 have asc:∀{st':Jt}{T':List Keyed}{a:Nat}{Q':Option (Option Nat)×Nat->Jt->Prop},Ok κ O key S st' pend (P++T')->T'.length=T.length->1<=a->a<=T.length->aP O key (T'.take a) ->
   (∀n,a<=n->n<=T.length->aP O key (T'.take n)->(n=T.length\/∃u v,T'[n]?=some u/\T'[n-1]?=some v/\O.blt (key u) (key v)=true)->Q' (none,n) st') ->
   wpS (Ie prog w) A E s (forIn [a:T.length] ((none,a):Option (Option Nat)×Nat) λ_ __s=>do
    let __x <-ltAt' (P.length+__s.snd) (P.length+__s.snd-1)
    match __x with
    |some smaller=>if smaller=true then pure (ForInStep.done (none,__s.snd))else pure (ForInStep.yield (none,__s.snd+1))
    |_=>pure (ForInStep.done (some none,__s.snd))) Q' st':=by
  intro st' T' a Q' K' hT h1 h2 hs hq;refine Jx (I:=λx c st2=>st'=st2/\c=(none,x)/\aP O key (T'.take x)) ?s1 ?f1 ⟨rfl,rfl,hs⟩
  case f1=>
   rintro c st2 ⟨rfl,rfl,hs'⟩;rw[show max a T.length=T.length by lia]at hs' ⊢;exact hq _ h2 (Qo _) hs' (.inl rfl)
  case s1=>
   rintro x c st2 hax hxn ⟨rfl,rfl,hs'⟩;dsimp only;have hu:T'[x]?=some (T'[x]'(by lia)):=by simp
   have hv:T'[x-1]?=some (T'[x-1]'(by lia)):=by simp
   refine Jv (xS C K' (x:=T'[x]'(by lia)) (y:=T'[x-1]'(by lia)) (by rw[Qd (by lia),show P.length+x-P.length=x by lia];exact hu) (by rw[Qd (by lia),show P.length+x-1-P.length=x-1 by lia];exact hv) ?_);dsimp only;cases hc:O.blt (key (T'[x]'(by lia))) (key (T'[x-1]'(by lia)))with
   |true=>
    rw[Ka rfl];exact Ju (hq x hax (by lia) hs' (.inr ⟨_,_,hu,hv,hc⟩))
   |false=>
    rw[Kb (by simp)];exact Ju ⟨rfl,rfl,Eg hs' (by lia) hu hv hc⟩
 refine Jv (asc K rfl (Qo 1) h0 (by
  cases T with
  |nil=>simp at h0
  |cons t T=>simp[aP]) λn n1 n2 hs hor=>?_)
 dsimp only;by_cases c1:n=T.length
 .rw[Ka (by simpa using c1)];exact Ju (fin K (.refl _) n1 n2 hs)
 rw[Kb (by simpa using c1)];obtain⟨u,v,hu,hv,hlt⟩:=hor.resolve_left c1;have a0:T[0]?=some (T[0]'h0):=by simp
 by_cases c2:n > 1
 .rw[Ka c2];refine Jv (xS C K (x:=T[0]'h0) (y:=v) (by rw[Qd (by lia),show P.length-P.length=0 by lia];exact a0) (by rw[Qd (by lia),show P.length+n-1-P.length=n-1 by lia];exact hv) ?_);have hle:Le O key (T[0]'h0) v:=hs.at_le (i:=0) (j:=n-1) (by lia) (by rw[Qs (by lia)];exact a0) (by rw[Qs (by lia)];exact hv);rw[hd.at (i:=n-1) (j:=0) (by lia) hv a0 hle];dsimp only;rw[Ka rfl];exact Ju (fin K (.refl _) n1 n2 hs)
 rw[Kb c2];obtain rfl:n=1:=by lia
 refine Jv (JB (JC ⟨rfl,?_⟩));have d2:aP O key (T.take 2).reverse:=by
  rw[yu hu,W3];have e1:T.take 1=[v]:=by rw[show(1:Nat)=0+1 from rfl,yu (i:=0) hv];simp
  rw[e1];refine Q6.mpr ⟨λz hz=>?_,by simp⟩;simp at hz;rw[hz];exact KeyOrd.kle_of_klt hlt
 have hT2:2<=T.length:=by lia
 refine Jv (Jw (Jx (I:=λx c st2=>st=st2/\c=(none,x,0)/\aP O key (T.take x).reverse) (Q:=λc st2=>st=st2/\∃n,c=(none,n,0)/\2<=n/\n<=T.length/\aP O key (T.take n).reverse) ?s2 ?f2 ⟨rfl,rfl,d2⟩) ?p2)
 case f2=>
  rintro c st2 ⟨rfl,rfl,hs'⟩;rw[show max (1+1) T.length=T.length by lia]at hs' ⊢;exact⟨rfl,_,rfl,hT2,Qo _,hs'⟩
 case s2=>
  rintro x c st2 hax hxn ⟨rfl,rfl,hs'⟩;dsimp only;have hu:T[x]?=some (T[x]'(by lia)):=by simp
  have hv:T[x-1]?=some (T[x-1]'(by lia)):=by simp
  have pu:(P++T)[P.length+x]?=some (T[x]'(by lia)):=by rw[Qd (by lia),show P.length+x-P.length=x by lia];exact hu
  have pv:(P++T)[P.length+x-1]?=some (T[x-1]'(by lia)):=by rw[Qd (by lia),show P.length+x-1-P.length=x-1 by lia];exact hv
  refine Jv (xS C K pu pv ?_);dsimp only;cases hc:O.blt (key (T[x]'(by lia))) (key (T[x-1]'(by lia)))with
  |true=>
   rw[Ka rfl,Kb (by lia)];refine Ju ⟨rfl,rfl,?_⟩;rw[yu hu,W3];refine Q6.mpr ⟨λz hz=>?_,hs'⟩
   replace hz:z∈(T.take x).reverse:=hz
   rw[Vt]at hz;obtain⟨i,hi⟩:=QB hz;have hlt':=(Qa.mp hi).1;rw[QU]at hlt';have h1:((T.take x).reverse)[x-1-i]?=some z:=by
    rw[WV (by simp;lia)];rw[<-hi];congr 1;simp;lia
   have h2:((T.take x).reverse)[0]?=some (T[x-1]'(by lia)):=by
    rw[WV (by simp;lia),Qs (by simp;lia),<-hv];congr 1;simp;lia
   exact Le.trans (KeyOrd.kle_of_klt hc) (hs'.at_le (WI _) h2 h1)
  |false=>
   rw[Kb (by simp)];refine Jv (xS C K pv pu ?_);dsimp only;rw[hd.at (i:=x) (j:=x-1) (by lia) hu hv hc,Ka rfl];exact Ju ⟨rfl,x,rfl,by lia,by lia,hs'⟩
 case p2=>
  rintro c st2 ⟨rfl,n,rfl,m1,m2,hs'⟩;dsimp only;rw[Kb (by lia)];refine Jv (wpS_reverse ?_);have hp:((T.take n).reverse++T.drop n).Perm T:=by
   have e:=(Vq (T.take n)).append_right (T.drop n)
   rwa[QJ]at e
  have hl:((T.take n).reverse++T.drop n).length=T.length:=hp.length_eq;have ht:((T.take n).reverse++T.drop n).take n=(T.take n).reverse:=by
   rw[Wl (by simp;lia),QL (by simp;lia)]
  have K2:Ok κ O key S (setArr st (mirror (Jy st) P.length (P.length+n) ((P.length+n-P.length)/2))) pend (P++((T.take n).reverse++T.drop n)):=
   ⟨K.kind,K.failed,K.pend,FQ K.arr n m2,λx hx=>K.all x (by
    rcases Qu.mp hx with q|q
    .simp[q]
    .exact Qy _ (hp.mem_iff.mp q))⟩
  refine Jv (asc K2 hl (by lia) m2 (by rw[ht];exact hs') λn' n1' n2' hs2 _=>?_);exact Ju (fin K2 hp (by lia) (by lia) hs2)
end
section
variable{O:Js}{key:Keyed->O.α}{S:Keyed->Prop}
variable{κ:Jr}{prog:HS}{w:HU}{A:HY}{E:Value->Shared->Prop}{s:Shared}
def FP (h:xs.toList=P++T)(k l:Nat)(hk:k<T.length)(hl:l<=k)(t:Keyed)(ht:T[k]?=some t):
  (bubble xs (P.length+k) (P.length+k-(P.length+l))).toList=P++(((T.take k).take l++[t]++(T.take k).drop l)++T.drop (k+1)):=by
 have hs:xs.size=P.length+T.length:=by rw[<-Q3,h,QC]
 apply Q8;intro j;rw[QG,getElem?_bubble (by lia) _ (by lia)];have gx:∀j,xs[j]?=(P++T)[j]?:=λj=>by rw[<-QG,h]
 simp only[gx];by_cases c0:j<P.length
 .rw[Kb (by lia),Kb (by lia),Qi c0,Qi c0]
 have cT:∀i,P.length<=i->(P++T)[i]?=T[i-P.length]?:=λi hi=>Qd hi;rw[Qd (l₁:=P) (l₂:=((T.take k).take l++[t]++(T.take k).drop l)++T.drop (k+1)) (by lia)];have len1:((T.take k).take l++[t]++(T.take k).drop l).length=k+1:=by simp;lia
 by_cases c1:j=P.length+k-(P.length+k-(P.length+l))
 .rw[Ka c1,cT _ (by lia),show P.length+k-P.length=k by lia,ht];rw[Qi (by rw[len1];lia),Qi (by simp;lia),Qd (by simp;lia)];rw[show j-P.length-((T.take k).take l).length=0 by simp;lia];rfl
 rw[Kb c1];by_cases c2:P.length+k-(P.length+k-(P.length+l))<j/\j<=P.length+k
 .rw[Ka c2,cT _ (by lia)];rw[Qi (by rw[len1];lia),Qd (by simp;lia),Wb,Qs (by simp;lia)];congr 1;simp;lia
 .rw[Kb c2,cT _ (by lia)];by_cases c3:j-P.length<l
  .rw[Qi (by rw[len1];lia),Qi (by simp;lia),Qi (by simp;lia),Qs c3,Qs (by lia)]
  .rw[Qd (by rw[len1];lia),Wb,len1];congr 1;lia
def FO (C:dX κ prog w A E s O key S){st:Jt}(K:Ok κ O key S st pend (P++T))(hn:n<=T.length)(hok:ok<=n)(h1:1<=ok)(hs:aP O key (T.take ok))(h:∀st' T',Ok κ O key S st' pend (P++T')->T'.Perm T->aP O key (T'.take n)->Q true st'):
  wpS (Ie prog w) A E s (binarySort' P.length n ok) Q st:=by
 refine Jv (Jw (Jx (I:=λk c st'=>c=(none,())/\∃T',Ok κ O key S st' pend (P++T')/\T'.Perm T/\aP O key (T'.take (min k n)))
  (Q:=λc st'=>c=(none,())/\∃T',Ok κ O key S st' pend (P++T')/\T'.Perm T/\aP O key (T'.take n)) ?s1 ?f1 ⟨rfl,T,K,.refl _,by rw[show min (max ok 1) n=ok by lia];exact hs⟩) ?p1)
 case p1=>
  rintro c st' ⟨rfl,T',K',hp,hs'⟩;exact Ju (h st' T' K' hp hs')
 case f1=>
  rintro c st' ⟨rfl,T',K',hp,hs'⟩;rw[show min (max (max ok 1) n) n=n by lia]at hs';exact⟨rfl,T',K',hp,hs'⟩
 case s1=>
  rintro k c st' hka hkn ⟨rfl,T',K',hp,hs'⟩;rw[show min k n=k by lia]at hs';have hlen:=hp.length_eq;have hk:k<T'.length:=by lia
  have ht:T'[k]?=some T'[k]:=by simp
  refine Jv (Jw (Jx (I:=λx c st2=>st'=st2/\∃l r,c=(none,l,r)/\l<=r/\r<=k/\r-l<=k-x/\(∀i u,i<l->T'[i]?=some u->Le O key u T'[k])/\(∀i u,r<=i->i<k->T'[i]?=some u->Le O key T'[k] u))
   (Q:=λc st2=>st'=st2/\∃l,c=(none,l,l)/\l<=k/\(∀i u,i<l->T'[i]?=some u->Le O key u T'[k])/\(∀i u,l<=i->i<k->T'[i]?=some u->Le O key T'[k] u)) ?s2 ?f2 ⟨rfl,0,k,rfl,by lia,by lia,by lia,λi u q=>Kc q (by lia),λi u q1 q2=>Kc q2 (by lia)⟩) ?p2)
  case f2=>
   rintro c st2 ⟨rfl,l,r,rfl,b1,b2,b3,b4,b5⟩;obtain rfl:l=r:=by lia
   exact⟨rfl,l,rfl,b2,b4,b5⟩
  case s2=>
   rintro x c st2 _ hx ⟨rfl,l,r,rfl,b1,b2,b3,b4,b5⟩;dsimp only;by_cases c1:l ≥ r
   .rw[Ka c1];obtain rfl:l=r:=by lia
    exact Ju ⟨rfl,l,rfl,b2,b4,b5⟩
   .rw[Kb c1];have hm:T'[(l+r)/2]?=some (T'[(l+r)/2]'(by lia)):=by simp
    refine Jv (xS C K' (x:=T'[k]) (y:=T'[(l+r)/2]'(by lia)) (by rw[Qd (by lia),show P.length+k-P.length=k by lia];exact ht) (by rw[Qd (by lia),show P.length+(l+r)/2-P.length=(l+r)/2 by lia];exact hm) ?_);dsimp only;have tk:∀{i:Nat}{u:Keyed},i<k->T'[i]?=some u->(T'.take k)[i]?=some u:=λhi hu=>by rw[Qs hi];exact hu
    cases hc:O.blt (key T'[k]) (key (T'[(l+r)/2]'(by lia)))with
    |true=>
     rw[Ka rfl];exact Ju ⟨rfl,l,(l+r)/2,rfl,by lia,by lia,by lia,b4,λi u q1 q2 hu=>Le.trans (KeyOrd.kle_of_klt hc) (hs'.at_le q1 (tk (by lia) hm) (tk q2 hu))⟩
    |false=>
     rw[Kb (by simp)];exact Ju ⟨rfl,(l+r)/2+1,r,rfl,by lia,by lia,by lia,λi u q1 hu=>Le.trans (hs'.at_le (by lia) (tk (by lia) hu) (tk (by lia) hm)) (show Le O key (T'[(l+r)/2]'(by lia)) T'[k]from hc),b5⟩
  case p2=>
   rintro c st2 ⟨rfl,l,rfl,b2,b4,b5⟩;dsimp only;refine Jv (JE ?_);refine Ju ⟨rfl,((T'.take k).take l++[T'[k]]++(T'.take k).drop l)++T'.drop (k+1),⟨K'.kind,K'.failed,K'.pend,?_,?_⟩,?_,?_⟩
   .exact FP K'.arr k l hk b2 _ ht
   all_goals
    have hpm:(((T'.take k).take l++[T'[k]]++(T'.take k).drop l)++T'.drop (k+1)).Perm T':=by
     have e1:((T'.take k).take l++[T'[k]]++(T'.take k).drop l).Perm (T'.take k++[T'[k]]):=by
      rw[Qn];refine(WT.append_left _ WC).trans ?_;rw[<-Qn,QJ]
     rw[<-yu ht]at e1;have e2:=e1.append_right (T'.drop (k+1))
     rwa[QJ]at e2
   .intro x hx;refine K'.all x ?_;rcases Qu.mp hx with q|q
    .simp[q]
    .exact Qy _ (hpm.mem_iff.mp q)
   .exact hpm.trans hp
   .have len1:((T'.take k).take l++[T'[k]]++(T'.take k).drop l).length=k+1:=by simp;lia
    rw[show min (k+1) n=k+1 by lia,Wl (by rw[len1];lia),QL (by rw[len1];lia)];have lowm:∀u∈(T'.take k).take l,Le O key u T'[k]:=λu hu=>by
     obtain⟨i,hi⟩:=QB hu;have hlt:=(Qa.mp hi).1;simp only[QU]at hlt;rw[Qs (by lia),Qs (by lia)]at hi;exact b4 i u (by lia) hi
    have highm:∀u∈(T'.take k).drop l,Le O key T'[k] u:=λu hu=>by
     obtain⟨i,hi⟩:=QB hu;have hlt:=(Qa.mp hi).1;simp only[QU,Vv]at hlt;rw[Wb,Qs (by lia)]at hi;exact b5 (l+i) u (by lia) (by lia) hi
    refine ye (ye (hs'.sublist (Wo _ _)) (by simp[aP]) λx hx y hy=>?_) (hs'.sublist (Wr _ _)) λx hx y hy=>?_
    .rw[QH.mp hy];exact lowm x hx
    .rcases Qu.mp hx with q|q
     .exact (lowm x q).trans (highm y hy)
     .rw[QH.mp q];exact highm y hy
end
section
variable{O:Js}{key:Keyed->O.α}{S:Keyed->Prop}
variable{κ:Jr}{prog:HS}{w:HU}{A:HY}{E:Value->Shared->Prop}{s:Shared}
noncomputable def bU(O:Js)(key:Keyed->O.α):Nat->List (Nat×Nat×Nat)->List (List Keyed)->Prop
 |_,[],[]=>True
 |off,p::ps,U::Us=>p.1=off/\p.2.1=U.length/\0<U.length/\aP O key U/\bU O key (off+U.length) ps Us
 |_,_,_=>False
theorem bU.app:∀{off:Nat}{p1 p2:List (Nat×Nat×Nat)}{Us:List (List Keyed)},bU O key off (p1++p2) Us->∃U1 U2,Us=U1++U2/\bU O key off p1 U1/\bU O key (off+U1.flatten.length) p2 U2
 |off,[],p2,Us,h=>⟨[],Us,rfl,trivial,by simpa using h⟩
 |off,p::p1,p2,[],h=>h.elim
 |off,p::p1,p2,U::Us,h=>by
  obtain⟨a1,a2,a3,a4,a5⟩:=h;obtain⟨U1,U2,rfl,b1,b2⟩:=bU.app a5;refine⟨U::U1,U2,rfl,⟨a1,a2,a3,a4,b1⟩,?_⟩;simpa [V9]using b2
theorem bU.join:∀{off:Nat}{p1 p2:List (Nat×Nat×Nat)}{U1 U2:List (List Keyed)},bU O key off p1 U1->bU O key (off+U1.flatten.length) p2 U2->bU O key off (p1++p2) (U1++U2)
 |off,[],p2,[],U2,_,h=>by simpa using h
 |off,[],p2,_::_,U2,h,_=>h.elim
 |off,p::p1,p2,[],U2,h,_=>h.elim
 |off,p::p1,p2,U::U1,U2,h,h2=>⟨h.1,h.2.1,h.2.2.1,h.2.2.2.1,bU.join h.2.2.2.2 (by simpa [V9]using h2)⟩
theorem bU.len:∀{off:Nat}{p:List (Nat×Nat×Nat)}{Us:List (List Keyed)},bU O key off p Us->p.length<=Us.flatten.length
 |_,[],[],_=>WI _
 |_,[],_::_,h=>h.elim
 |_,_::_,[],h=>h.elim
 |off,p::ps,U::Us,h=>by
  have e1:=bU.len h.2.2.2.2;have e2:=h.2.2.1;rw[Wg,QC,WM];lia
theorem bU.mod(q:Nat):∀{off:Nat}{p:List (Nat×Nat×Nat)}{Us:List (List Keyed)}(i:Nat),bU O key off p Us->bU O key off (p.modify i λx=>(x.1,x.2.1,q)) Us
 |_,[],[],i,_=>by cases i<;>trivial
 |_,[],_::_,i,h=>h.elim
 |_,_::_,[],i,h=>h.elim
 |off,p::ps,U::Us,0,h=>h
 |off,p::ps,U::Us,i+1,h=>⟨h.1,h.2.1,h.2.2.1,h.2.2.2.1,bU.mod q i h.2.2.2.2⟩
def vA {st:Jt}{lo:Nat}(K:Ok κ O key S st pend (Us.flatten++(W++R)))(k:bU O key 0 pend Us)(hs:aP O key W)(h0:0<W.length)(hn:W.length=n)(hlo:Us.flatten.length=lo):
  Ok κ O key S (setPending st ((Jz st).push (lo,n,0))) (pend++[(lo,n,0)]) ((Us++[W]).flatten++R)/\bU O key 0 (pend++[(lo,n,0)]) (Us++[W]):=by
 refine⟨⟨K.kind,K.failed,?_,?_,?_⟩,bU.join k ⟨?_,hn.symm,h0,hs,trivial⟩⟩
 .show ((Jz st).push (lo,n,0)).toList=_;rw[Vc,K.pend]
 .show (Jy st).toList=_;rw[K.arr];simp
 .intro x hx;refine K.all x ?_;simpa using hx
 .show lo=_;rw[hlo,Vg]
def we (C:dX κ prog w A E s O key S){st:Jt}(K:Ok κ O key S st pend (Us.flatten++R))(k:bU O key 0 pend Us)(hi:i+1<pend.length)(h:∀st' pend' Us',Ok κ O key S st' pend' (Us'.flatten++R)->bU O key 0 pend' Us'->Us'.flatten.Perm Us.flatten->pend'.length+1=pend.length->Q true st'):
  wpS (Ie prog w) A E s (mergeAt' i) Q st:=by
 obtain⟨p1,a,b,p2,rfl,rfl⟩:∃p1 a b p2,pend=p1++a::b::p2/\p1.length=i:=by
  refine⟨pend.take i,pend[i],pend[i+1],pend.drop (i+2),?_,by simp;lia⟩
  conv=>lhs;rw[<-QJ i pend]
  rw[QM (by lia),QM (by lia)]
 obtain⟨U1,U2,rfl,k1,k2⟩:=k.app;cases U2 with
 |nil=>exact k2.elim
 |cons U U2=>
  cases U2 with
  |nil=>exact k2.2.2.2.2.elim
  |cons V U2=>
   obtain⟨sa,na,po⟩:=a;obtain⟨sb,nb,po2⟩:=b;obtain⟨a1,a2,a3,a4,b1,b2,b3,b4,b5⟩:=k2;simp only[Vg]at a1 b1 b5;have e:(U1++U::V::U2).flatten++R=U1.flatten++(U++(V++(U2.flatten++R))):=by simp
   rw[e]at K;refine qG C K a1 a2 b1 b2 a3 b3 a4 b4 λst' W K' hs hp=>?_;have hl:=hp.length_eq;rw[QC]at hl;refine h st' (p1++(sa,na+nb,po)::p2) (U1++W::U2) (by simpa using K') (bU.join k1 (show bU O key _ ((sa,na+nb,po)::p2) (W::U2)from⟨by simpa using a1,?_,by lia,hs,?_⟩)) ?_ (by simp;lia)
   .show na+nb=_;have e1:na=U.length:=a2;have e2:nb=V.length:=b2;lia
   .rw[Vg,hl,<-V9];exact b5
   .simp only[W5,Wg];refine WT.append_left _ ?_;rw[<-Qn];exact hp.append_right _
def qH (C:dX κ prog w A E s O key S){st:Jt}(K:Ok κ O key S st [] l)(h2:2<=l.length)(hd:dP O key l)(h:∀st' l',(Jy st').toList=l'->JA st'=none->aP O key l'->l'.Perm l->Q () st'):wpS (Ie prog w) A E s sortRuns' Q st:=by
 rw[sortRuns'_eq];refine Jv (JD ?_);dsimp only;have hN:(Jy st).size=l.length:=by rw[<-Q3,K.arr]
 rw[hN];have hmr:minRun' l.length l.length 0<=l.length:=jW _ _ 0 (by lia);generalize minRun' l.length l.length 0=mr at hmr ⊢;refine Jv (Jw (Jx
  (I:=λx c st'=>∃lo,c=(none,lo)/\x<=lo/\lo<=l.length/\∃pend Us R,Ok κ O key S st' pend (Us.flatten++R)/\bU O key 0 pend Us/\(Us.flatten++R).Perm l/\Us.flatten.length=lo)
  (Q:=λc st'=>c=(none,l.length)/\∃pend Us R,Ok κ O key S st' pend (Us.flatten++R)/\bU O key 0 pend Us/\(Us.flatten++R).Perm l/\Us.flatten.length=l.length) ?s1 ?f1 ⟨0,rfl,Qo _,WI _,[],[],l,by simpa using K,trivial,.refl _,rfl⟩) ?p1)
 case f1=>
  rintro c st' ⟨lo,rfl,x1,x2,r⟩;obtain rfl:lo=l.length:=by lia
  exact⟨rfl,r⟩
 case s1=>
  rintro x c st' _ hx ⟨lo,rfl,x1,x2,pend,Us,R,K',k,hp,hlo⟩;dsimp only;by_cases c0:lo ≥ l.length
  .rw[Ka c0];obtain rfl:lo=l.length:=by lia
   exact Ju ⟨rfl,pend,Us,R,K',k,hp,hlo⟩
  rw[Kb c0];have hR:R.length=l.length-lo:=by have:=hp.length_eq;simp at this hlo;lia
  subst hlo;rw[<-hR];refine Jv (gH C K' (by lia) ((hd.perm hp).right) λst2 U R2 K2 hs2 hp2 hU0=>?_);dsimp only;have hl2:U.length+R2.length=R.length:=by have:=hp2.length_eq;simpa using this
  by_cases c1:U.length<mr
  .rw[Ka c1];refine Jv (JB (JC ⟨rfl,?_⟩));refine Jv (FO C K2 (by rw[QC];lia) (by lia) (by lia) (by rw[Wl (Qo _),VR];exact hs2) λst3 T3 K3 hpT hsT=>?_);rw[Kb (by simp)];have hT:T3.length=R.length:=(hpT.trans hp2).length_eq;obtain⟨W,R3,hW,hWn,hsW⟩:∃W R3,T3=W++R3/\W.length=min R.length mr/\aP O key W:=⟨T3.take (min R.length mr),T3.drop (min R.length mr),(QJ _ _).symm,by rw[QU];lia,hsT⟩;subst hW;have hp3:(W++R3).Perm R:=hpT.trans hp2;have hW0:0<W.length:=by lia
   refine Jv (JD ?_);have lenU:∀Us4:List (List Keyed),Us4.flatten.Perm Us.flatten->(Us4++[W]).flatten.length=Us.flatten.length+min R.length mr:=λUs4 q=>by
    have:=q.length_eq;rw[W5,QC,this,Vd,hWn]
   have permU:∀Us4:List (List Keyed),Us4.flatten.Perm Us.flatten->((Us4++[W]).flatten++R3).Perm l:=λUs4 q=>by
    refine WT.trans ?_ hp;rw[W5,Vd,Qn];exact(q.append_right _).trans (hp3.append_left _)
   have hle:min R.length mr<=R.length:=by have:=hp3.length_eq;rw[QC]at this;lia
   cases hb:(Jz st3).back? with
   |none=>
    dsimp only;obtain⟨K5,k5⟩:=vA K3 k hsW hW0 hWn rfl;refine Jv (JE (Ju ⟨_,rfl,by lia,by lia,_,_,R3,K5,k5,permU Us (.refl _),lenU Us (.refl _)⟩))
   |some t=>
    obtain⟨s1,n1,pp⟩:=t;dsimp only;refine Jv (Jw (Jx (I:=λ_ c st4=>c=(none,())/\∃pend4 Us4,Ok κ O key S st4 pend4 (Us4.flatten++(W++R3))/\bU O key 0 pend4 Us4/\Us4.flatten.Perm Us.flatten)
     (Q:=λc st4=>c=(none,())/\∃pend4 Us4,Ok κ O key S st4 pend4 (Us4.flatten++(W++R3))/\bU O key 0 pend4 Us4/\Us4.flatten.Perm Us.flatten) ?s2 (λ_ _ q=>q) ⟨rfl,pend,Us,K3,k,.refl _⟩) ?p2)
    case s2=>
     rintro y c st4 _ hy ⟨rfl,pend4,Us4,K4,k4,hp4⟩;refine Jv (JD ?_);have hsz:(Jz st4).size=pend4.length:=by rw[<-K4.pend,Q3]
     by_cases cs:(Jz st4).size > 1
     .rw[Ka cs];cases ho:(Jz st4)[(Jz st4).size-2]? with
      |none=>exact Ju ⟨rfl,pend4,Us4,K4,k4,hp4⟩
      |some t=>
       obtain⟨t1,t2,older⟩:=t;dsimp only;by_cases co:older<=JG l.length (2*s1+n1) (2*s1+n1+n1+min R.length mr) l.length
       .rw[Ka co];exact Ju ⟨rfl,pend4,Us4,K4,k4,hp4⟩
       .rw[Kb co];refine Jv (we C K4 k4 (by lia) λst5 pend5 Us5 K5 k5 hp5 _=>?_);rw[Kb (by simp)];exact Ju ⟨rfl,pend5,Us5,K5,k5,hp5.trans hp4⟩
     .rw[Kb cs];exact Ju ⟨rfl,pend4,Us4,K4,k4,hp4⟩
    case p2=>
     rintro c st4 ⟨rfl,pend4,Us4,K4,k4,hp4⟩;dsimp only;refine Jv (JE ?_);refine Jv (JE ?_);have K5:Ok κ O key S (setPending st4 ((Jz st4).modify ((Jz st4).size-1) λx=>(x.fst,x.2.fst,JG l.length (2*s1+n1) (2*s1+n1+n1+min R.length mr) l.length))) (pend4.modify ((Jz st4).size-1) λx=>(x.1,x.2.1,JG l.length (2*s1+n1) (2*s1+n1+n1+min R.length mr) l.length)) (Us4.flatten++(W++R3)):=
      ⟨K4.kind,K4.failed,by show((Jz st4).modify _ _).toList=_;rw[Array.toList_modify,K4.pend],K4.arr,K4.all⟩
     obtain⟨K6,k6⟩:=vA K5 (k4.mod _ _) hsW hW0 hWn hp4.length_eq;exact Ju ⟨_,rfl,by lia,by lia,_,_,R3,K6,k6,permU Us4 hp4,lenU Us4 hp4⟩
  .rw[Kb c1];have K3:=K2;obtain⟨W,hW⟩:∃W,W=U:=⟨U,rfl⟩;obtain⟨R3,hR3⟩:∃R3,R3=R2:=⟨R2,rfl⟩;obtain⟨st3,hst3⟩:∃st3,st3=st2:=⟨st2,rfl⟩;rw[<-hW,<-hR3,<-hst3]at K3;have hWn:W.length=U.length:=by rw[hW]
   have hsW:aP O key W:=by rw[hW];exact hs2
   have hp3:(W++R3).Perm R:=by rw[hW,hR3];exact hp2
   have hW0:0<W.length:=by lia
   rw[<-hst3];refine Jv (JD ?_);have lenU:∀Us4:List (List Keyed),Us4.flatten.Perm Us.flatten->(Us4++[W]).flatten.length=Us.flatten.length+U.length:=λUs4 q=>by
    have:=q.length_eq;rw[W5,QC,this,Vd,hWn]
   have permU:∀Us4:List (List Keyed),Us4.flatten.Perm Us.flatten->((Us4++[W]).flatten++R3).Perm l:=λUs4 q=>by
    refine WT.trans ?_ hp;rw[W5,Vd,Qn];exact(q.append_right _).trans (hp3.append_left _)
   have hle:U.length<=R.length:=by have:=hp3.length_eq;rw[QC]at this;lia
   cases hb:(Jz st3).back? with
   |none=>
    dsimp only;obtain⟨K5,k5⟩:=vA K3 k hsW hW0 hWn rfl;refine Jv (JE (Ju ⟨_,rfl,by lia,by lia,_,_,R3,K5,k5,permU Us (.refl _),lenU Us (.refl _)⟩))
   |some t=>
    obtain⟨s1,n1,pp⟩:=t;dsimp only;refine Jv (Jw (Jx (I:=λ_ c st4=>c=(none,())/\∃pend4 Us4,Ok κ O key S st4 pend4 (Us4.flatten++(W++R3))/\bU O key 0 pend4 Us4/\Us4.flatten.Perm Us.flatten)
     (Q:=λc st4=>c=(none,())/\∃pend4 Us4,Ok κ O key S st4 pend4 (Us4.flatten++(W++R3))/\bU O key 0 pend4 Us4/\Us4.flatten.Perm Us.flatten) ?s3 (λ_ _ q=>q) ⟨rfl,pend,Us,K3,k,.refl _⟩) ?p3)
    case s3=>
     rintro y c st4 _ hy ⟨rfl,pend4,Us4,K4,k4,hp4⟩;refine Jv (JD ?_);have hsz:(Jz st4).size=pend4.length:=by rw[<-K4.pend,Q3]
     by_cases cs:(Jz st4).size > 1
     .rw[Ka cs];cases ho:(Jz st4)[(Jz st4).size-2]? with
      |none=>exact Ju ⟨rfl,pend4,Us4,K4,k4,hp4⟩
      |some t=>
       obtain⟨t1,t2,older⟩:=t;dsimp only;by_cases co:older<=JG l.length (2*s1+n1) (2*s1+n1+n1+U.length) l.length
       .rw[Ka co];exact Ju ⟨rfl,pend4,Us4,K4,k4,hp4⟩
       .rw[Kb co];refine Jv (we C K4 k4 (by lia) λst5 pend5 Us5 K5 k5 hp5 _=>?_);rw[Kb (by simp)];exact Ju ⟨rfl,pend5,Us5,K5,k5,hp5.trans hp4⟩
     .rw[Kb cs];exact Ju ⟨rfl,pend4,Us4,K4,k4,hp4⟩
    case p3=>
     rintro c st4 ⟨rfl,pend4,Us4,K4,k4,hp4⟩;dsimp only;refine Jv (JE ?_);refine Jv (JE ?_);have K5:Ok κ O key S (setPending st4 ((Jz st4).modify ((Jz st4).size-1) λx=>(x.fst,x.2.fst,JG l.length (2*s1+n1) (2*s1+n1+n1+U.length) l.length))) (pend4.modify ((Jz st4).size-1) λx=>(x.1,x.2.1,JG l.length (2*s1+n1) (2*s1+n1+n1+U.length) l.length)) (Us4.flatten++(W++R3)):=
      ⟨K4.kind,K4.failed,by show((Jz st4).modify _ _).toList=_;rw[Array.toList_modify,K4.pend],K4.arr,K4.all⟩
     obtain⟨K6,k6⟩:=vA K5 (k4.mod _ _) hsW hW0 hWn hp4.length_eq;exact Ju ⟨_,rfl,by lia,by lia,_,_,R3,K6,k6,permU Us4 hp4,lenU Us4 hp4⟩
 case p1=>
  rintro c st' ⟨rfl,pend,Us,R,K',k,hp,hlo⟩;dsimp only;have hR:R=[]:=by
   have:=hp.length_eq;rw[QC]at this;exact WO (by lia)
  subst hR;refine Jv (Jw (Jx (I:=λx c st4=>c=(none,())/\∃pend4 Us4,Ok κ O key S st4 pend4 (Us4.flatten++[])/\bU O key 0 pend4 Us4/\Us4.flatten.Perm Us.flatten/\(pend4.length<=1\/pend4.length+x<=l.length))
   (Q:=λc st4=>c=(none,())/\∃pend4 Us4,Ok κ O key S st4 pend4 (Us4.flatten++[])/\bU O key 0 pend4 Us4/\Us4.flatten.Perm Us.flatten/\pend4.length<=1) ?s4 ?f4 ⟨rfl,pend,Us,K',k,.refl _,.inr (by have:=k.len;lia)⟩) ?p4)
  case f4=>
   rintro c st4 ⟨rfl,pend4,Us4,K4,k4,hp4,hx⟩;exact⟨rfl,pend4,Us4,K4,k4,hp4,by lia⟩
  case s4=>
   rintro y c st4 _ hy ⟨rfl,pend4,Us4,K4,k4,hp4,hx⟩;refine Jv (JD ?_);have hsz:(Jz st4).size=pend4.length:=by rw[<-K4.pend,Q3]
   by_cases cs:(Jz st4).size<=1
   .rw[Ka cs];exact Ju ⟨rfl,pend4,Us4,K4,k4,hp4,by lia⟩
   .rw[Kb cs];refine Jv (we C K4 k4 ?_ λst5 pend5 Us5 K5 k5 hp5 hl5=>?_)
    .have e:∀(c:Prop) [Decidable c],(if c then(Jz st4).size-2-1 else(Jz st4).size-2)+1<pend4.length:=λc _=>by
      by_cases q:c
      .rw[Ka q];lia
      .rw[Kb q];lia
     exact e _
    .rw[Kb (by simp)];exact Ju ⟨rfl,pend5,Us5,K5,k5,hp5.trans hp4,by lia⟩
  case p4=>
   rintro c st4 ⟨rfl,pend4,Us4,K4,k4,hp4,hx⟩;dsimp only;have hpl:Us4.flatten.Perm l:=hp4.trans (by simpa using hp);refine Ju (h st4 Us4.flatten (by rw[K4.arr,QV]) K4.failed ?_ hpl)
   match pend4,Us4,k4,hx with
   |[],[],_,_=>simp[aP]
   |[_],[W],q,_=>simpa using q.2.2.2.1
   |[],_::_,q,_=>exact q.elim
   |_::_,[],q,_=>exact q.elim
   |[_],_::_::_,q,_=>exact q.2.2.2.2.elim
   |_::_::_,_,_,hx=>simp at hx
end
theorem xx:∀a:List Int,HT.lexLt a a=false
 |[]=>rfl
 |x::xs=>by rw[HT.bi,Ka rfl];exact xx xs
theorem yZ:∀a b c:List Int,HT.lexLt a b=true->HT.lexLt b c=true->HT.lexLt a c=true
 |[],[],_,h,_=>by cases h
 |[],_::_,[],_,h=>by cases h
 |[],_::_,_::_,_,_=>rfl
 |_::_,[],_,h,_=>by cases h
 |_::_,_::_,[],_,h=>by cases h
 |x::xs,y::ys,z::zs,h1,h2=>by
  rw[HT.bi]at h1 h2 ⊢;by_cases e1:x=y
  .rw[Ka e1]at h1;subst e1;by_cases e2:x=z
   .rw[Ka e2]at h2 ⊢;exact yZ xs ys zs h1 h2
   .rw[Kb e2]at h2 ⊢;exact h2
  .rw[Kb e1]at h1;have q1:=Kg h1;by_cases e2:y=z
   .subst e2;rw[Kb e1];exact h1
   .rw[Kb e2]at h2;have q2:=Kg h2;rw[Kb (by lia)];exact Kf (by lia)
theorem xT:∀a b:List Int,HT.lexLt a b=false->HT.lexLt b a=false->a=b
 |[],[],_,_=>rfl
 |[],_::_,h,_=>by cases h
 |_::_,[],_,h=>by cases h
 |x::xs,y::ys,h1,h2=>by
  rw[HT.bi]at h1 h2;by_cases e:x=y
  .subst e;rw[Ka rfl]at h1 h2;rw[xT xs ys h1 h2]
  .rw[Kb e]at h1;rw[Kb (Ne.symm e)]at h2;have q1:=of_decide_eq_false h1;have q2:=of_decide_eq_false h2;lia
def CQ(a b c:List Int)(h:HT.lexLt a c=true):HT.lexLt a b=true\/HT.lexLt b c=true:=by
 cases h1:HT.lexLt a b with
 |true=>exact .inl rfl
 |false=>
  right
  cases h2:HT.lexLt b a with
  |true=>exact yZ b a c h2 h
  |false=>rw[<-xT a b h1 h2];exact h
noncomputable def ng:Js:=⟨List Int,HT.lexLt,xx,yZ,CQ,xT⟩
noncomputable def fT(κ:Jr)(A:HY)(s:Shared)(x y:Value)(b:Bool):Prop:=
 ∀(prog:HS) (w:HU) (E:Value->Shared->Prop) (Q:Bool->Shared->Prop),Q b s->Ic (Ie prog w) A (keyLt' κ x y) Q E s
section
variable{κ:Jr}{prog:HS}{w:HU}{A:HY}{E:Value->Shared->Prop}{s:Shared}
def AO{key:Value->List Int}{vs:List Value}(hl:∀x∈vs,∀y∈vs,fT κ A s x y (HT.lexLt (key x) (key y))):dX κ prog w A E s ng (λp=>key p.1) (λp=>p.1∈vs):=by
 intro x y st Q hx hy hk q;rw[lt'_eq];refine Jv (JD ?_);rw[hk];refine Jv (JB (JH (hl x.1 hx y.1 hy prog w _ _ ⟨rfl,?_⟩)));exact Ju q
theorem gJ:∀vs:List Value,List.map (λx:Value×Value=>x.fst) (vs.zip vs)=vs
 |[]=>rfl
 |v::r=>Ke (v::·) (gJ r)
def gK {out:List Value}(h2:2<=vs.length)(hl:∀x∈vs,∀y∈vs,fT κ A s x y (HT.lexLt (key x) (key y)))(hd:(vs.map key).Nodup)(hp:out.Perm vs)(ho:out.Pairwise λx y=>HT.lexLt (key y) (key x)=false)(h:∀st':Jt,(Jy st').map (·.2)=out.toArray->JA st'=none->Q () st'):
  wpS (Ie prog w) A E s sortRuns' Q (SortSt.mk' κ (vs.toArray.zip vs.toArray) #[] 7 none):=by
 have hz:(vs.toArray.zip vs.toArray).toList=vs.zip vs:=by simp
 refine qH (AO hl) (l:=vs.zip vs) ⟨rfl,rfl,rfl,hz,λx hx=>(mem_zip_self hx).2⟩ (by simp;lia) ?_ λst' l' e1 e2 e3 e4=>h st' ?_ e2
 .show ((vs.zip vs).map λp=>key p.1).Nodup;have:(vs.zip vs).map (λp=>key p.1)=vs.map key:=by
   have:=Ke (List.map key) (gJ vs)
   rwa[Wn]at this
  rw[this];exact hd
 .have same:l'.map (·.2)=l'.map (·.1):=Q4 λp hp'=>(mem_zip_self (e4.mem_iff.mp hp')).1.symm;have e5:(l'.map (·.1)).Perm vs:=by have:=e4.map (·.1);rwa[gJ]at this
  have e6:l'.map (·.1)=out:=by
   refine WT.eq_of_pairwise (le:=λx y=>HT.lexLt (key y) (key x)=false) (λa b ha hb q1 q2=>?_) ?_ ho (e5.trans hp.symm)
   .have ka:key a=key b:=xT _ _ q2 q1;have ha':=e5.mem_iff.mp ha;have hb':=hp.mem_iff.mp hb;obtain⟨i,hi⟩:=QB ha';obtain⟨j,hj⟩:=QB hb';have hi':(vs.map key)[i]?=some (key a):=by rw[Ql,hi];rfl
    have hj':(vs.map key)[j]?=some (key b):=by rw[Ql,hj];rfl
    obtain⟨li,gi⟩:=Qa.mp hi';obtain⟨lj,gj⟩:=Qa.mp hj';by_cases c:i=j
    .subst c;rw[hi]at hj;cases hj;rfl
    .exfalso;rcases Nat.lt_or_gt_of_ne c with c|c
     .exact (Wj.mp hd) i j li lj c (by rw[gi,gj,ka])
     .exact (Wj.mp hd) j i lj li c (by rw[gi,gj,ka])
   .rw[Wf];exact e3
  apply Array.ext';rw[Array.toList_map,e1,same,e6]
end
section
def Ef:∀{vs out:List Value},vs.length<2->out.Perm vs->out=vs
 |[],_,_,h=>h.eq_nil
 |[v],_,_,h=>List.perm_singleton.mp h
 |_::_::_,_,h,_=>by simp at h;lia
end
section
variable{X:Cx}
theorem jY:∀{bs:List Addr}{us:List Value},aw (bs.map V.ref) us->us=bs.map Value.ref
 |[],_,.nil=>rfl
 |_::_,_,.cons p q=>by
  rw[jY q];cases p;rfl
theorem jZ:∀(bs:List Addr),aw (bs.map V.ref) (bs.map Value.ref)
 |[]=>.nil
 |_::r=>.cons rfl (jZ r)
def FN {bs cs:List Addr}(I:Inv X pins σ H s)(hz:cs.length<=sizeLine)(q:∀l,H l=none->Q (.ref l) (aI H l (.lst (cs.map V.ref)))):
  EP X pins σ Q (.ref (s.heap.objs.size+1)) {s with heap:=JI s.heap (bs.map Value.ref) (cs.map Value.ref).toArray}:=by
 have hsz:((s.heap.push (JJ "list" #[] 0)).update s.heap.objs.size (Obj.mapSeq (·++(bs.map Value.ref).toArray))).objs.size=s.heap.objs.size+1:=by
  rw[Vy,JK]
 have hoL:(((s.heap.push (JJ "list" #[] 0)).update s.heap.objs.size (Obj.mapSeq (·++(bs.map Value.ref).toArray))).push (JJ "list" (bs.map Value.ref).toArray 0)).get? (s.heap.objs.size+1)=some (JJ "list" (bs.map Value.ref).toArray 0):=by
  rw[<-hsz];exact Qw _ rfl
 have ha:=Qj hoL;have hk1:∀b o,s.heap.get? b=some o->(((s.heap.push (JJ "list" #[] 0)).update s.heap.objs.size (Obj.mapSeq (·++(bs.map Value.ref).toArray))).push (JJ "list" (bs.map Value.ref).toArray 0)).get? b=some o:=by
  intro b o e;refine Qe _ ?_;rw[W6 _ _ _ _ (QE (Qj e))];exact Qe _ e
 have hk2:∀b o,s.heap.get? b=some o->(JI s.heap (bs.map Value.ref) (cs.map Value.ref).toArray).get? b=some o:=by
  intro b o e;have hb:=Qj e;unfold JI sortedHeap;rw[W6 _ _ _ _ (QE (WJ hb))];refine Qe _ (Qe _ ?_);rw[W6 _ _ _ _ (QE (WJ hb))];exact hk1 b o e
 have hres:∃c,(JI s.heap (bs.map Value.ref) (cs.map Value.ref).toArray).get? (s.heap.objs.size+1)=some (JJ "list" (cs.map Value.ref).toArray c):=by
  unfold JI sortedHeap;obtain⟨e1,ho1⟩:∃e1,((((s.heap.push (JJ "list" #[] 0)).update s.heap.objs.size (Obj.mapSeq (·++(bs.map Value.ref).toArray))).push (JJ "list" (bs.map Value.ref).toArray 0)).update (s.heap.objs.size+1) (Obj.mapSeq λ_=>#[])).get? (s.heap.objs.size+1)=some (JJ "list" #[] e1):=⟨_,JL hoL (λ_=>#[])⟩;exact⟨_,JL (Qe _ (Qe _ ho1)) (λ_=>(cs.map Value.ref).toArray)⟩
 obtain⟨c,e⟩:=hres;exact⟨.ref (s.heap.objs.size+1),_,I.laid (t':=s.toks) hk2 (Vb _) (show br X.prog X.w _ _ _ (.lst (cs.map V.ref))from⟨by rw[Qv];exact hz,_,c,jZ cs,e⟩),rfl,q _ (I.hok.fresh (Vb _))⟩
end
noncomputable def xU(ns:List Int):Int:=ns.getD (JM (λi j=>decide (ns.getD i 0 > ns.getD j 0)) (ns.length-1)) 0
noncomputable def xW(ns:List Int):Int:=ns.getD (JM (λi j=>decide (ns.getD i 0<ns.getD j 0)) (ns.length-1)) 0
theorem w6(bt:Nat->Nat->Bool):∀k,JM bt k<=k
 |0=>Qo _
 |k+1=>by
  unfold JM;split
  .exact Qo _
  .exact Nat.le_succ_of_le (w6 bt k)
set_option tactic.hygienic true in
theorem k9(val:Nat->Int):∀k i,i<=k->val i<=val (JM (λi j=>decide (val i > val j)) k)
 |0,i,h=>by
  obtain rfl:i=0:=by lia
  exact WZ _
 |k+1,i,h=>by
  have ih:=k9 val k;unfold JM;split
  .rename_i z;have z':=Kg z;by_cases e:i=k+1
   .rw[e];exact WZ _
   .have:=ih i (by lia);lia
  .rename_i z;have z':¬val (k+1) > val (JM (λi j=>decide (val i > val j)) k):=λy=>z (Kf y);by_cases e:i=k+1
   .rw[e];lia
   .exact ih i (by lia)
set_option tactic.hygienic true in
theorem ja(val:Nat->Int):∀k i,i<=k->val (JM (λi j=>decide (val i<val j)) k)<=val i
 |0,i,h=>by
  obtain rfl:i=0:=by lia
  exact WZ _
 |k+1,i,h=>by
  have ih:=ja val k;unfold JM;split
  .rename_i z;have z':=Kg z;by_cases e:i=k+1
   .rw[e];exact WZ _
   .have:=ih i (by lia);lia
  .rename_i z;have z':¬val (k+1)<val (JM (λi j=>decide (val i<val j)) k):=λy=>z (Kf y);by_cases e:i=k+1
   .rw[e];lia
   .exact ih i (by lia)
section
variable{X:Cx}
def qI(hc:X.calm=true):bu X (.builtin "max") (λxs H Q=>∃(p:Addr) (ns:List Int),xs=[.ref p]/\bp X.K H p (ns.map V.int)/\0<ns.length/\Q (.int (xU ns)) H):=by
 intro pins s σ H xs us Q I r h;obtain⟨p,ns,rfl,hq,h0,q⟩:=h;obtain⟨u,rfl,rx⟩:=ko r;cases rx;obtain⟨its,r',pl,hz⟩:=I.list hq;have hlen:=r'.length;rw[Qv]at hlen;obtain⟨o,ho,_⟩:=id pl.isList;have hlt:=Qj ho;have e0:its.toArray.size=ns.length:=by simp;lia
 have val:∀(i:Nat) (v:Value),its.toArray[i]?=some v->∃t,v=.int (ns.getD i 0) t:=λi v hv=>by
  have hv':its[i]?=some v:=by simpa using hv
  obtain⟨y,hy,ry⟩:=r'.at hv';rw[Ql]at hy;cases hb:ns[i]? with
  |none=>rw[hb]at hy;cases hy
  |some b=>
   rw[hb]at hy;cases hy;obtain⟨t,rfl⟩:=(ry:∃t,v=.int b t);exact⟨t,by rw[Qh,hb];rfl⟩
 refine call_max_walk (IG pl.isList ?_);refine⟨s.heap.objs.size,_,_,_,_,_,_,rfl,Walks.list (A:=X.A.in1) (I.ok.hd hc) s.heap.objs.size p (QE hlt) its.toArray,⟨⟨_,Qw _ rfl,rfl,rfl⟩,pl.isList.at λo e=>Qe _ e⟩,?_,by rw[e0];exact h0,CmpOf.ints_gt (λi=>ns.getD i 0) val,λv h' tk hv hk=>?_⟩
 .intro b hb;have h1:s.heap.objs.size<(s.heap.push {cls:=.type "list_iterator",data:=.fields #[.ref p,.int 0 0]}).objs.size:=Qj (Qw _ rfl);have:b=s.heap.objs.size\/b=p:=by simpa using hb
  rcases this with rfl|rfl
  .exact h1
  .exact Nat.lt_trans hlt h1
 .rw[e0]at hv;obtain⟨t,rfl⟩:=val _ v hv;exact⟨.int (xU ns),H,I.kept (t':=tk) λb o e=>hk b o (λhb=>by
   have:b=s.heap.objs.size:=by simpa using hb
   exact Kc (Qj e) (by rw[this];exact We _)) (Qe _ e),⟨t,rfl⟩,q⟩
def qJ(hc:X.calm=true):bu X (.builtin "min") (λxs H Q=>∃(p:Addr) (ns:List Int),xs=[.ref p]/\bp X.K H p (ns.map V.int)/\0<ns.length/\Q (.int (xW ns)) H):=by
 intro pins s σ H xs us Q I r h;obtain⟨p,ns,rfl,hq,h0,q⟩:=h;obtain⟨u,rfl,rx⟩:=ko r;cases rx;obtain⟨its,r',pl,hz⟩:=I.list hq;have hlen:=r'.length;rw[Qv]at hlen;obtain⟨o,ho,_⟩:=id pl.isList;have hlt:=Qj ho;have e0:its.toArray.size=ns.length:=by simp;lia
 have val:∀(i:Nat) (v:Value),its.toArray[i]?=some v->∃t,v=.int (ns.getD i 0) t:=λi v hv=>by
  have hv':its[i]?=some v:=by simpa using hv
  obtain⟨y,hy,ry⟩:=r'.at hv';rw[Ql]at hy;cases hb:ns[i]? with
  |none=>rw[hb]at hy;cases hy
  |some b=>
   rw[hb]at hy;cases hy;obtain⟨t,rfl⟩:=(ry:∃t,v=.int b t);exact⟨t,by rw[Qh,hb];rfl⟩
 refine call_min_walk (IG pl.isList ?_);refine⟨s.heap.objs.size,_,_,_,_,_,_,rfl,Walks.list (A:=X.A.in1) (I.ok.hd hc) s.heap.objs.size p (QE hlt) its.toArray,⟨⟨_,Qw _ rfl,rfl,rfl⟩,pl.isList.at λo e=>Qe _ e⟩,?_,by rw[e0];exact h0,CmpOf.ints_lt (λi=>ns.getD i 0) val,λv h' tk hv hk=>?_⟩
 .intro b hb;have h1:s.heap.objs.size<(s.heap.push {cls:=.type "list_iterator",data:=.fields #[.ref p,.int 0 0]}).objs.size:=Qj (Qw _ rfl);have:b=s.heap.objs.size\/b=p:=by simpa using hb
  rcases this with rfl|rfl
  .exact h1
  .exact Nat.lt_trans hlt h1
 .rw[e0]at hv;obtain⟨t,rfl⟩:=val _ v hv;exact⟨.int (xW ns),H,I.kept (t':=tk) λb o e=>hk b o (λhb=>by
   have:b=s.heap.objs.size:=by simpa using hb
   exact Kc (Qj e) (by rw[this];exact We _)) (Qe _ e),⟨t,rfl⟩,q⟩
def CP(a b c d:Int):decide (xW [a,b,c,d]=xU [a,b,c,d])=(decide (a=b)&&(decide (a=c)&&decide (a=d))):=by
 have g:=k9 (λi=>[a,b,c,d].getD i 0) 3;have l:=ja (λi=>[a,b,c,d].getD i 0) 3;have g0:a<=xU [a,b,c,d]:=g 0 (by decide);have g1:b<=xU [a,b,c,d]:=g 1 (by decide);have g2:c<=xU [a,b,c,d]:=g 2 (by decide);have g3:d<=xU [a,b,c,d]:=g 3 (by decide);have l0:xW [a,b,c,d]<=a:=l 0 (by decide);have l1:xW [a,b,c,d]<=b:=l 1 (by decide);have l2:xW [a,b,c,d]<=c:=l 2 (by decide);have l3:xW [a,b,c,d]<=d:=l 3 (by decide);have mem:∀k:Nat,k<=3->[a,b,c,d].getD k 0=a\/[a,b,c,d].getD k 0=b\/[a,b,c,d].getD k 0=c\/[a,b,c,d].getD k 0=d:=λk hk=>by
  match k,hk with
  |0,_=>exact .inl rfl
  |1,_=>exact .inr (.inl rfl)
  |2,_=>exact .inr (.inr (.inl rfl))
  |3,_=>exact .inr (.inr (.inr rfl))
 have mg:xU [a,b,c,d]=a\/xU [a,b,c,d]=b\/xU [a,b,c,d]=c\/xU [a,b,c,d]=d:=mem _ (w6 _ 3);have ml:xW [a,b,c,d]=a\/xW [a,b,c,d]=b\/xW [a,b,c,d]=c\/xW [a,b,c,d]=d:=mem _ (w6 _ 3);generalize xU [a,b,c,d]=x at *
 generalize xW [a,b,c,d]=y at *
 rw[V1];simp only[Qx,Kh];constructor
 .intro h;refine⟨?_,?_,?_⟩<;>lia
 .rintro ⟨h1,h2,h3⟩;lia
end
noncomputable def Ge(ns:List Int):List Int:=ns.mergeSort λa b=>decide (a<=b)
theorem Ee:∀{ns:List Int}{its:List Value},aw (ns.map V.int) its->Jh its ns
 |[],_,.nil=>.nil
 |n::ns,_,.cons r t=>by
  obtain⟨k,rfl⟩:=(r:∃t,_=Value.int n t);exact .cons _ _ (Ee t)
theorem Ed:∀{ns:List Int}{its:List Value},Jh its ns->aw (ns.map V.int) its
 |_,_,.nil=>.nil
 |_,_,.cons _ _ t=>.cons ⟨_,rfl⟩ (Ed t)
end L2
namespace Mini
open PySem PySem.Spec PyProof.Rows L2
section
variable{K:Qb}{as:List Addr}{H H':Hp}{m m':Me}{Q:VK}{X:Cx}
noncomputable def lI:dZ->Option (Str×Value)
 |.len=>some ("len",.builtin "len")
 |.int=>some ("int",.type "int")
 |.list=>some ("list",.type "list")
 |.abs=>some ("abs",.builtin "abs")
 |.max2=>some ("max",.builtin "max")
 |.sum=>some ("sum",.builtin "sum")
noncomputable def tP(K:Qb)(b:dZ):List V->Hp->VK->Prop:=λvs H Q=>∃as m ws,aK K as m H/\ae K as H ws vs/\ao K as H Q (w5 b ws m)
def wA (h:ae K as H [x] vs):∃v,vs=[v]/\ai K as H x v:=by
 obtain⟨v,r,rfl,q,t⟩:=ak.mp h;obtain rfl:=ay.mp t;exact⟨v,rfl,q⟩
def rF (h:ae K as H [x,y] vs):∃v u,vs=[v,u]/\ai K as H x v/\ai K as H y u:=by
 obtain⟨v,r,rfl,q,t⟩:=ak.mp h;obtain⟨u,rfl,q'⟩:=wA t;exact⟨v,u,rfl,q,q'⟩
def lU (S:aK K as m H)(R:ai K as H w v)(h:kS m w=some xs):∃p vs,v=.ref p/\bp K H p vs/\ae K as H xs vs:=by
 cases w with
 |rol ys=>
  cases h;obtain⟨a,vs,rfl,hq,rr⟩:=aV.mp R;exact⟨a,vs,rfl,hq.sq,rr⟩
 |ref l=>
  obtain⟨b,hb,rfl⟩:=aD.mp R;obtain⟨a,vs,ha,e,r⟩:=zW S (zN h);rw[hb]at ha;cases ha;exact⟨b,vs,rfl,bp.of e,r⟩
 |_=>cases h
theorem rP:∀{xs:List Wd}{vs:List V}{i:Int},ae K as H xs vs->vS xs=some i->∃ns:List Int,vs=ns.map V.int/\ns.sum=i
 |[],vs,i,R,h=>by cases h;exact⟨[],ay.mp R,rfl⟩
 |x::xs,vs,i,R,h=>by
  obtain⟨v,r,rfl,q,t⟩:=ak.mp R;cases x with
  |int j=>
   simp only[vS,QO]at h;obtain⟨k,hk,rfl⟩:=h;obtain⟨ns,rfl,rfl⟩:=rP t hk;obtain rfl:=aa.mp q;exact⟨j::ns,rfl,by simp⟩
  |_=>cases h
def rO{o:Option (List Wd)}{f:(List Wd)->Rz}(h:ao K as H Q (match o with|some a=>f a|none=>.no)):∃a,o=some a/\ao K as H Q (f a):=by
 cases o with
 |none=>exact h.elim
 |some a=>exact⟨a,rfl,h⟩
def CO{o:Option Int}{f:Int->Rz}(h:ao K as H Q (match o with|some a=>f a|none=>.no)):∃a,o=some a/\ao K as H Q (f a):=by
 cases o with
 |none=>exact h.elim
 |some a=>exact⟨a,rfl,h⟩
theorem gL:∀(xs ys:List Int),dJ xs ys=HT.lexLt xs ys
 |[],[]=>rfl
 |[],_::_=>rfl
 |_::_,[]=>rfl
 |x::xs,y::ys=>by
  show(if x=y then dJ xs ys else decide (x<y))=if x=y then HT.lexLt xs ys else decide (x<y);rw[gL xs ys]
theorem jb (p:List Int×α):∀l:List (List Int×α),(kT p l).Perm (p::l)
 |[]=>.refl _
 |q::r=>by
  show(if dJ p.1 q.1 then p::q::r else q::kT p r).Perm _;split
  .exact .refl _
  .exact ((jb p r).cons q).trans (.swap p q r)
theorem xr:∀l:List (List Int×α),(xb l).Perm l
 |[]=>.refl _
 |p::r=>by rw[wJ];exact(jb p _).trans ((xr r).cons p)
theorem rN{α:Type}:∀{ps:List (List Int×α)},kr (ps.map Prod.fst)=true->ps.Pairwise (λx y=>HT.lexLt x.1 y.1=true)/\∃n c,∀x∈ps,x.1.length=n/\x.1.head?=c
 |[],_=>⟨.nil,0,none,by simp⟩
 |[p],_=>⟨by simp,p.1.length,p.1.head?,by simp⟩
 |p::q::r,h=>by
  have h':(dJ p.1 q.1&&(decide (p.1.length=q.1.length)&&decide (p.1.head?=q.1.head?))&&kr ((q::r).map Prod.fst))=true:=h;rw[Qx,Qx,Qx]at h';obtain⟨⟨a1,a2,a4⟩,a3⟩:=h';obtain⟨b1,n,c,b2⟩:=rN a3;rw[gL]at a1;have bq:=b2 q (by simp);refine⟨Q6.mpr ⟨λy hy=>?_,b1⟩,n,c,λx hx=>?_⟩
  .rcases Qc.mp hy with rfl|hy
   .exact a1
   .exact yZ _ _ _ a1 ((Q6.mp b1).1 y hy)
  .rcases Qc.mp hx with rfl|hx
   .exact ⟨(Kg a2).trans bq.1,(Kg a4).trans bq.2⟩
   .exact b2 x hx
theorem ED:∀(l:List Int),ae K as H (l.map Wd.int) (l.map V.int)
 |[]=>ay.mpr rfl
 |n::l=>ak.mpr ⟨_,_,rfl,aa.mpr rfl,ED l⟩
theorem Ec:∀{xs:List Wd}{vs:List V}{k:List Int},ae K as H xs vs->ww xs=some k->vs=k.map V.int
 |[],vs,k,R,h=>by cases h;exact ay.mp R
 |x::xs,vs,k,R,h=>by
  obtain⟨v,r,rfl,q,t⟩:=ak.mp R;cases x with
  |int j=>
   have h':(ww xs).map (j::·)=some k:=h;obtain⟨k',hk,rfl⟩:=QO.mp h';rw[Ec t hk,aa.mp q];rfl
  |_=>cases h
set_option tactic.hygienic true in
def Eb (hu:X.A.units+64<IL)(hc:X.calm=true)(hb:lI b=some (nm,f)):bu X f (tP X.K b):=by
 intro pins s σ H xs us Q I r h;obtain⟨as,m,ws,S,R,q⟩:=h;cases b with
 |len=>
  cases hb;refine gq pins s σ H xs us Q I r ?_;rcases ws with _|⟨x,_|⟨_,_⟩⟩
  .exact q.elim
  .obtain ⟨ys,hs,q⟩:=rO (o:=yW m x) (f:=λys=>.ok (.int ys.length) m) q;obtain⟨v,rfl,q1⟩:=wA R;obtain⟨p,vs,rfl,hq,rr⟩:=gw S q1 hs;refine⟨p,vs,rfl,hq,?_⟩;rw[<-rr.length];exact q.ok S (aa.mpr rfl)
  .exact q.elim
 |int=>
  cases hb;refine EM pins s σ H xs us Q I r ?_;cases ws with
  |nil=>exact q.elim
  |cons x ws=>
   cases x with
   |int i=>
    cases ws with
    |nil=>
     obtain⟨v,rfl,q1⟩:=wA R;obtain rfl:=aa.mp q1;exact .inl ⟨i,rfl,q.ok S (aa.mpr rfl)⟩
    |cons _ _=>exact q.elim
   |bl i=>
    cases ws with
    |nil=>
     obtain⟨v,rfl,q1⟩:=wA R;obtain rfl:=am.mp q1;exact .inr ⟨i,rfl,q.ok S (aa.mpr rfl)⟩
    |cons _ _=>exact q.elim
   |_=>exact q.elim
 |list=>
  cases hb;refine gr pins s σ H xs us Q I r ?_;rcases ws with _|⟨x,_|⟨_,_⟩⟩
  .exact q.elim
  .obtain ⟨ys,hs,q⟩:=rO (o:=yW m x) (f:=λys=>alloc m ys) q;obtain⟨v,rfl,q1⟩:=wA R;obtain⟨p,vs,rfl,hq,rr⟩:=gw S q1 hs;exact⟨p,vs,rfl,hq,(xR S rr q).2⟩
  .exact q.elim
 |abs=>
  cases hb;refine D2 pins s σ H xs us Q I r ?_;cases ws with
  |nil=>exact q.elim
  |cons x ws=>
   cases x with
   |int i=>
    cases ws with
    |nil=>
     obtain⟨v,rfl,q1⟩:=wA R;obtain rfl:=aa.mp q1;exact⟨i,rfl,q.ok S (aa.mpr rfl)⟩
    |cons _ _=>exact q.elim
   |_=>exact q.elim
 |sum=>
  cases hb;refine qp hc pins s σ H xs us Q I r ?_;rcases ws with _|⟨x,_|⟨_,_⟩⟩
  .exact q.elim
  .obtain ⟨i,hs,q⟩:=CO (o:=(kS m x).bind vS) (f:=λi=>.ok (.int i) m) q;obtain⟨ys,h1,h2⟩:=Q2.mp hs;obtain⟨v,rfl,q1⟩:=wA R;obtain⟨p,vs,rfl,hq,rr⟩:=lU S q1 h1;obtain⟨ns,rfl,rfl⟩:=rP rr h2;exact⟨p,ns,rfl,hq,q.ok S (aa.mpr rfl)⟩
  .exact q.elim
 |max2=>
  cases hb;refine EN hc pins s σ H xs us Q I r ?_;cases ws with
  |nil=>exact q.elim
  |cons x ws=>
   cases x with
   |int i=>
    cases ws with
    |nil=>exact q.elim
    |cons y ws=>
     cases y with
     |int j=>
      cases ws with
      |nil=>
       obtain⟨v,u,rfl,q1,q2⟩:=rF R;obtain rfl:=aa.mp q1;obtain rfl:=aa.mp q2;exact⟨i,j,rfl,q.ok S (aa.mpr rfl)⟩
      |cons _ _=>exact q.elim
     |_=>exact q.elim
   |_=>exact q.elim
set_option tactic.hygienic true in
def AN (S:aK K as m H)(R:ai K as H x v)(R':ai K as H y u)(h:ao K as H Q (vu x y m)):tO K v u H Q:=by
 unfold vu at h;split at h
 .rename_i i;obtain rfl:=aa.mp R';split at h
  .rename_i xs hs;split at h
   .rename_i w hw;obtain⟨p,vs,rfl,hq,rr⟩:=gw S R hs;have e:∃z,fk vs i=some z/\ai K as H w z:=by
     obtain⟨j,hj,hx⟩:=Q2.mp hw;obtain⟨z,hz,rz⟩:=rr.get hx;refine⟨z,?_,rz⟩;unfold fk;have hj':fL vs.length i=some j:=by rw[<-rr.length];exact hj
     rw[hj'];exact hz
    obtain⟨z,hz,rz⟩:=e;rcases hq with hq|hq
    .exact .inl ⟨p,vs,i,z,rfl,rfl,hq,hz,h.ok S rz⟩
    .exact .inr (.inl ⟨p,vs,i,z,rfl,rfl,hq,hz,h.ok S rz⟩)
   .exact h.elim
  .exact h.elim
 .exact h.elim
set_option tactic.hygienic true in
def AM {Q:Hp->Prop}(S:aK K as m H)(R:ai K as H o vo)(R':ai K as H i vi)(R2:ai K as H w v)(h:∀m',gv o i w m=.ok .non m'->∀H',Step as H as H'->aK K as m' H'->Q H')(hne:∃m',gv o i w m=.ok .non m'):lR vo vi v H Q:=by
 obtain⟨m',hm'⟩:=hne;have h:=h m' hm';unfold gv at hm';split at hm'
 .rename_i l k;split at hm'
  .rename_i xs hl;split at hm'
   .rename_i j hj;cases hm';obtain⟨a,ha,rfl⟩:=aD.mp R;obtain rfl:=aa.mp R';obtain⟨b,vs,hb,e,rr⟩:=zW S hl;rw[ha]at hb;cases hb;obtain⟨T,S'⟩:=S.set ha hl (rr.set j R2);refine⟨a,vs,k,j,rfl,rfl,e,?_,h _ T S'⟩;rw[<-rr.length];exact hj
   .cases hm'
  .cases hm'
 .cases hm'
noncomputable def eO:dG->Str×String
 |.append=>("append","list.append") |.reverse=>("reverse","list.reverse") 
noncomputable def Gc(K:Qb)(n:dG):V->List V->Hp->VK->Prop:=λv vs H Q=>∃as m w ws,aK K as m H/\ai K as H w v/\ae K as H ws vs/\ao K as H Q (du n w ws m)
set_option tactic.hygienic true in
def rE(n:dG):nF X (eO n).2 (Gc X.K n):=by
 intro pins s σ H v vs u us Q I r rs h;obtain⟨as,m,w,ws,S,R,Rs,q⟩:=h;unfold du at q;split at q
 .rename_i l;split at q
  .rename_i xs hl;obtain⟨a,ha,rfl⟩:=aD.mp R;obtain⟨b,zs,hb,e,rr⟩:=zW S hl;rw[ha]at hb;cases hb;have hz:zs.length<=sizeLine:=(I.lstM e).1;split at q
   .rename_i y;split at q
    .rename_i hlt;obtain⟨z,rfl,rz⟩:=wA Rs;obtain⟨T,S'⟩:=S.set ha hl (rr.append (.one rz));exact jQ pins s σ H _ _ u us Q I r rs ⟨a,zs,z,rfl,rfl,e,by rw[<-rr.length];exact Qk hlt yR,q _ _ _ T S' (aG.mpr rfl)⟩
    .exact q.elim
   .obtain rfl:=ay.mp Rs;obtain⟨T,S'⟩:=S.set ha hl rr.reverse;exact FV pins s σ H _ _ u us Q I r rs ⟨a,zs,rfl,rfl,e,q _ _ _ T S' (aG.mpr rfl)⟩
   .exact q.elim
  .exact q.elim
 .exact q.elim
noncomputable def cS:Tg->String
 |.int=> "int" |.bool=> "bool" |.list=> "list" |.tuple=> "tuple" |.str=> "str" |.dict=> "dict"
def CN(K:Qb)(t:Tg):
  QN K (.type "NoneType") (.type (cS t))=some false/\QN K (.type "bool") (.type (cS t))=some (decide (t=.bool\/t=.int))/\QN K (.type "int") (.type (cS t))=some (decide (t=.int)) /\
  QN K (.type "str") (.type (cS t))=some (decide (t=.str))/\QN K (.type "list") (.type (cS t))=some (decide (t=.list))/\QN K (.type "tuple") (.type (cS t))=some (decide (t=.tuple))/\QN K (.type "dict") (.type (cS t))=some (decide (t=.dict)):=by
 cases t<;>refine⟨?_,?_,?_,?_,?_,?_,?_⟩<;>kernel_rfl
noncomputable def mS(K:Qb)(t:Tg):List V->Hp->VK->Prop:=λvs H Q=>∃as m w v,vs=[v,.ty (cS t)]/\aK K as m H/\ai K as H w v/\ao K as H Q (dI (dw t w m) m)
def AL(m:Me)(t:Tg):dw t .non m=some false/\(∀c,dw t (.bl c) m=some (decide (t=.bool\/t=.int)))/\(∀i,dw t (.int i) m=some (decide (t=.int)))/\(∀x,dw t (.str x) m=some (decide (t=.str)))/\(∀ys,dw t (.tup ys) m=some (decide (t=.tuple)))/\(∀ys,dw t (.rol ys) m=some (decide (t=.list)))/\∀l ys,m[l]?=some (.lst ys)->dw t (.ref l) m=some (decide (t=.list)):=by
 refine⟨?_,λc=>?_,λi=>?_,λx=>?_,λys=>?_,λys=>?_,λl ys h=>?_⟩
 rotate_right
 .have e:dw t (.ref l) m=(match m[l]? with|some (.lst _)=>some (decide (t=.list))|none=>none):=by cases t<;>rfl
  rw[e,h]
 all_goals cases t<;>rfl
def Ea(t:Tg):bu X (.builtin "isinstance") (mS X.K t):=by
 intro pins s σ H xs us Q I r h;obtain⟨as,m,w,v,rfl,S,R,q⟩:=h;obtain⟨b,hb,q⟩:=gE S q;obtain⟨u,u',rfl,ru,ru'⟩:=oW r;obtain rfl:u'=.type (cS t):=ru';obtain⟨k1,k2,k3,k4,k5,k6,k7⟩:=CN X.K t;obtain⟨z1,z2,z3,z4,z5,z6,z7⟩:=AL m t;have fin:∀tk,EP X pins σ Q (.bool b) {s with toks:=tk}:=λtk=>⟨.bl b,H,I.tok tk,rfl,q⟩;cases w with
 |non=>
  obtain rfl:=aG.mp R;have e:b=false:=Option.some.inj (hb.symm.trans z1);subst e;exact xQ I ru .non k1 fin
 |bl c=>
  obtain rfl:=am.mp R;have e:b=decide (t=.bool\/t=.int):=Option.some.inj (hb.symm.trans (z2 _));subst e;exact xQ I ru (.bl c) k2 fin
 |int i=>
  obtain rfl:=aa.mp R;have e:b=decide (t=.int):=Option.some.inj (hb.symm.trans (z3 _));subst e;exact xQ I ru (.int i) k3 fin
 |str x=>
  obtain rfl:=aM.mp R;have e:b=decide (t=.str):=Option.some.inj (hb.symm.trans (z4 _));subst e;exact xQ I ru (.str _) k4 fin
 |tup ys=>
  obtain⟨a,vs,rfl,hq,rr⟩:=aj.mp R;have e:b=decide (t=.tuple):=Option.some.inj (hb.symm.trans (z5 _));subst e;obtain rfl:u=.ref a:=ru;obtain⟨its,_,⟨o,h1,h2,_⟩,_⟩:=I.tuple hq;exact WN PySem.W.kitx_tuple I.kIn ⟨o,h1,h2⟩ k6 (λz=>nomatch z) fin
 |rol ys=>
  obtain⟨a,vs,rfl,hq,rr⟩:=aV.mp R;have e:b=decide (t=.list):=Option.some.inj (hb.symm.trans (z6 _));subst e;obtain rfl:u=.ref a:=ru;obtain⟨its,_,p,_⟩:=I.list hq.sq;obtain⟨o,n,h1,h2,_⟩:=p;exact WN PySem.W.kitx_list I.kIn ⟨o,h1,h2⟩ k5 (λz=>nomatch z) fin
 |ref l=>
  obtain⟨a,ha,rfl⟩:=aD.mp R;have hlm:l<m.length:=by rw[<-S.len];exact(Qa.mp ha).1
  have hg:m[l]?=some m[l]:=by simp[hlm]
  cases ho:m[l]with
  |lst ys=>
   rw[ho]at hg;obtain⟨a',us,ha',e2,_⟩:=zW S hg;rw[ha]at ha';cases ha';have e:b=decide (t=.list):=Option.some.inj (hb.symm.trans (z7 _ _ hg));subst e;exact xQ I ru (.lst e2) k5 fin
end
structure dM(J:It)(vs:List V)(ok:Hp->Prop):Prop where
 go:∀i H,ok H->i<vs.length->J.go i H
 yld:∀i H x H',ok H->i<vs.length->J.yld i H x H'->H'=H/\vs[i]?=some x
 stop:∀i H,ok H->vs.length<=i->J.stop i H
noncomputable def iF(K:Qb)(as:List Addr)(H:Hp)(J:It)(xs:List Wd):Prop:=
 ∃vs ok,dM J vs ok/\ok H/\ae K as H xs vs/\∀H1 H2,Kp K H1 H2->ok H1->ok H2
noncomputable def oq(K:Qb)(as:List Addr)(H:Hp)(w:Wd)(J:It):Prop:=match w with
 |.tup xs=>iF K as H J xs
 |.rol xs=>iF K as H J xs
 |.ref l=>∃a,as[l]?=some a/\J=nH K a
 |_=>True
noncomputable def bE(K:Qb)(as:List Addr)(H:Hp)(R:It->Hp->Prop)(r:Rz):Prop:=match r with
 |.ok w m'=>(yW m' w).isSome=true/\∀as' H' J,Step as H as' H'->aK K as' m' H'->oq K as' H' w J->R J H'
 |_=>False
noncomputable def fM(K:Qb)(g:En->Me->Rz):TI:=λσ H R=>∃as env m,aK K as m H/\aB K as H env σ/\bE K as H R (g env m)
def PI.or{X:Cx}{tg e:Expr}{a b:TI}(h1:PI X tg e a)(h2:PI X tg e b):PI X tg e (λσ H R=>a σ H R\/b σ H R):=λpins s σ H R I h=>by
 rcases h with h|h
 .exact h1 pins s σ H R I h
 .exact h2 pins s σ H R I h
def PI.imp{X:Cx}{tg e:Expr}{a b:TI}(h:PI X tg e a)(k:∀σ H R,b σ H R->a σ H R):PI X tg e b:=λpins s σ H R I q=>h pins s σ H R I (k σ H R q)
def jc (h:PE X x (aL X.K g)):PI X tg x (fM X.K g):=by
 refine PI.imp (PI.or (r9 h) (Bb h)) λσ H R q=>?_;obtain⟨as,env,m,S,G,P⟩:=q;cases hr:g env m with
 |no=>rw[hr]at P;exact P.elim
 |exc c w m'=>rw[hr]at P;exact P.elim
 |ok w m'=>
  rw[hr]at P;obtain⟨hs,P⟩:=P;obtain⟨xs,hs⟩:=W2.mp hs;cases w with
  |tup ys=>
   refine .inr ⟨as,env,m,S,G,?_⟩;rw[hr];intro as' H' v T S' R';obtain⟨a,vs,rfl,hq,rr⟩:=aj.mp R';refine⟨a,rfl,⟨vs,hq⟩,P as' H' _ T S' ⟨vs,λH=>bN X.K H a vs,⟨λi H h hi=>⟨vs,vs[i],h,by simp[hi]⟩,λi H x H' h hi q=>⟨q.1,q.2 vs h⟩,λi H h hi=>⟨vs,h,hi⟩⟩,hq,rr,λH1 H2 k h=>k.t _ _ h⟩⟩
  |rol ys=>
   refine .inl ⟨as,env,m,S,G,?_⟩;rw[hr];intro as' H' v T S' R';obtain⟨a,vs,rfl,hq,rr⟩:=aV.mp R';refine⟨a,rfl,⟨vs,hq.sq⟩,P as' H' _ T S' ⟨vs,λH=>eD X.K H a vs,⟨λi H h hi=>⟨vs,vs[i],h.sq,by simp[hi]⟩,λi H x H' h hi q=>⟨q.1,q.2 vs h.sq⟩,λi H h hi=>⟨vs,h.sq,hi⟩⟩,hq,rr,λH1 H2 k h=>k.f _ _ h⟩⟩
  |ref l=>
   refine .inl ⟨as,env,m,S,G,?_⟩;rw[hr];intro as' H' v T S' R';obtain⟨a,ha,rfl⟩:=aD.mp R';obtain⟨a',us,ha',e,_⟩:=zW S' (zN hs);rw[ha]at ha';cases ha';exact⟨a,rfl,⟨us,bp.of e⟩,P as' H' _ T S' ⟨a,ha,rfl⟩⟩
  |non=>cases hs
  |bl b=>cases hs
  |int i=>cases hs
  |str x=>cases hs
theorem vB {K:Qb}(st:Int):∀(n:Nat) (lo:Int),ae K as H (qx lo st n) ((Qr n).map λ(i:Nat)=>V.int (lo+st*(i:Int)))
 |0,lo=>ay.mpr rfl
 |n+1,lo=>by
  rw[WQ,Wm,Wn];refine ak.mpr ⟨_,_,rfl,aa.mpr (by simp),?_⟩;have e:((λ(i:Nat)=>V.int (lo+st*(i:Int))) ∘ Nat.succ)=λ(i:Nat)=>V.int (lo+st+st*(i:Int)):=by
   funext i;show V.int (lo+st*((i.succ:Nat):Int))=_;congr 1;rw[Nat.succ_eq_add_one,Int.natCast_add,Int.mul_add];lia
  rw[e];exact vB st n (lo+st)
def EC{K:Qb}(lo:Int)(n:Nat):dM (iy lo n) ((Qr n).map λ(i:Nat)=>V.int (lo+1*(i:Int))) (λ_=>True):=by
 refine⟨λi H _ hi=>?_,λi H x H' _ hi q=>?_,λi H _ hi=>?_⟩
 .show i<n;simpa using hi
 .obtain ⟨e,rfl⟩:=q;refine⟨e,?_⟩;have hi':i<n:=by simpa using hi
  rw[Ql,W4 hi'];simp
 .show n<=i;simpa using hi
end Mini
namespace L2
open PySem PySem.Spec PyProof.Rows
noncomputable def nE(K:Qb)(b:Addr)(xs:List V):Prop:=
 ∃(o:Obj) (its:Array Value) (n:Nat),K.lookup b=some o/\o.cls=.type "tuple" /\ o.data=.seq its n/\its.size<=sizeLine/\aw xs its.toList
abbrev lg:=List (List Nat×Int×Int)
noncomputable def ud(K:Qb)(w:HU):List HR->lg->Prop
 |[],q=>q=[]
 |e::es,q=>∃k x y r t b,q=(k,x,y)::r/\e.key=.str ⟨k.toArray⟩ t/\e.hash=hashStr w ⟨k.toArray⟩/\e.val=.ref b/\nE K b [.int x,.int y]/\ud K w es r
noncomputable def nJ(K:Qb)(w:HU)(a:Addr)(q:lg):Prop:=
 (a==sysModules)=false/\∃o es ep,K.lookup a=some o/\o.ExactDict/\o.data=.dict es ep/\ud K w es.toList q
end L2
namespace Mini
open PySem PySem.Spec PyProof.Rows L2
set_option genInjectivity false in
structure Ctx where
 fns:List Str
 cons:List (Str×Int)
 dcs:List (Str×lg)
set_option genInjectivity false in
inductive Nd where
 |e (x:Expr)|a (xs:List Expr)
noncomputable def cn(sc:HP)(x:Str):Bool:=decide (sc.names.lookup x=some .globalImplicit)
noncomputable def qK(sc:HP)(x:Str):Bool:=decide (sc.names.lookup x=some .local) || (decide (sc.names.lookup x=some .cell) || decide (sc.names.lookup x=some .free))
noncomputable def zL(x:Str):Bool:=!(x==("__debug__":Str)) && !(x==("__classdict__":Str)) && !(x==("__name__":Str))
noncomputable def zu:Expr->Bool
 |.Starred _ _=>false
 |_=>true
noncomputable def y6:Expr->Bool
 |.Set _ _ _=>false
 |_=>true
noncomputable def xX:Expr->Bool
 |.Slice _ _ _ _=>false
 |_=>true
noncomputable def vC:Expr->Bool
 |.Call _ _ _ _=>false
 |_=>true
noncomputable def zw:Ex->Bool
 |.rng _ _ _=>true
 |_=>false
noncomputable def jd:Ex->Bool
 |_=>false
noncomputable def xY(scope sc:HP):HP:=
 {scope with names:=scope.names.map λ(n,k)=>if(k == .free&&sc.kind == .function&&sc.names.lookup n==some .cell)then(n,.cell)else(n,k)}
noncomputable def bX(sc:HP)(N:List Str)(scope:HP)(xs:List Str):Bool:=
 decide (scope.kind=.function)&&(xs.all (λx=>decide (scope.names.lookup x=some .local) || decide (scope.names.lookup x=some .cell)) &&
 (scope.names.all (λy=>!(decide (y.2=.local)) || decide (scope.names.lookup y.1=some .local)) &&
 (scope.names.all (λy=>!(decide (y.2=.free)) || (decide (sc.names.lookup y.1=some .cell) || decide (sc.names.lookup y.1=some .free))) &&
 (scope.names.all (λy=>!(decide (y.2=.cell)) || !(decide (scope.names.lookup y.1=some .free))) &&
 (N.all (λy=>decide (y∈xs) || (!(decide (scope.names.lookup y=some .local)) && !(decide (scope.names.lookup y=some .cell)))) &&
 (decide (xw N xs).Nodup&&xs.all (λx=>decide (scope.names.lookup (iW x)=none))))))))
def xt (h:bX X.env.scope X.N scope xs=true):bz X scope xs:=by
 unfold bX at h;simp only[Qx,WR,Kh,Wv,WW,decide_eq_false_iff_not]at h;obtain⟨h1,h2,h3,h4,h5,h6,h7,h8⟩:=h;refine⟨h1,h2,λy hy e=>?_,λy hy e=>?_,λy hy e=>?_,λy hy e=>?_,h7,h8⟩
 .rcases h3 y hy with z|z
  .exact Kc e z
  .exact z
 .rcases h4 y hy with z|z
  .exact Kc e z
  .exact z
 .rcases h6 y hy with z|z
  .exact Kc z e
  .exact z
 .rcases h5 y hy with z|z
  .exact Kc e z
  .exact z
noncomputable def w9(K:Qb)(g:List Wd->Me->Rz):Sp:=λvs H Q _=>∃as m ws,aK K as m H/\ae K as H ws vs/\ao K as H Q (g ws m)
noncomputable def zr:List Str:=["len","int","bool","list","tuple","abs","max","min","isinstance","range","str","dict","sum","all","zip","enumerate","sorted","reversed"]
noncomputable def kw(K:Qb)(w:HU)(mg:Str->Option Value)(C:Ctx):Prop:=(∀(nm:Str) (i:Int),C.cons.lookup nm=some i->∃t,mg nm=some (.int i t))/\∀(nm:Str) (q:lg),C.dcs.lookup nm=some q->∃a,mg nm=some (.ref a)/\nJ K w a q
structure aY(C:Ctx)(X:Cx)(cl:Nat->List Wd->Me->Rz)(d:Nat):Prop where
 room:bP d X.A
 calm:X.calm=true
 fn:∀(k:Nat) (nm:Str),C.fns[k]?=some nm->∃f fd ps,X.mg nm=some (.ref f)/\Wh X.K (.ref f)=true/\Binds X.K fd ps []/\bL X.prog X.w X.K X.mg X.base cQ d f fd ps (w9 X.K (cl k))
 con:kw X.K X.w X.mg C
 blt:∀nm∈zr,X.mg nm=none
def aY.comp{C:Ctx}{X Xc:Cx}{cl:Nat->List Wd->Me->Rz}{d:Nat}{scope:HP}{x:List Str}(h:aY C X cl d)(c:bB X scope x Xc):aY C Xc cl d:=by
 refine⟨by rw[c.A];exact h.room,c.calm,λk nm e=>?_,?_,λnm e=>?_⟩
 .obtain ⟨f,fd,ps,h1,h2,h3,h4⟩:=h.fn k nm e;exact⟨f,fd,ps,by rw[c.mg];exact h1,by rw[c.K];exact h2,by rw[c.K];exact h3,by rw[c.prog,c.w,c.K,c.mg,c.base];exact h4⟩
 .rw[c.mg,c.K,c.w];exact h.con
 .rw[c.mg];exact h.blt nm e
noncomputable def bS(K:Qb)(as:List Addr)(H:Hp)(Q:List V->Hp->Prop)(r:Rz):Prop:=match r with
 |.ok w m'=>∀as' H' vs,Step as H as' H'->aK K as' m' H'->ae K as' H' (zt w) vs->Q vs H'
 |_=>False
noncomputable def vY(K:Qb)(g:En->Me->Rz):TA:=λσ H Q=>∃as env m,aK K as m H/\aB K as H env σ/\bS K as H Q (g env m)
theorem bS.bind{K:Qb}{as:List Addr}{H:Hp}{Q:VK}{Q1:List V->Hp->Prop}{r:Rz}{f:Wd->Me->Rz}(h:ao K as H Q (r.bind f))
  (k:∀w m' as' H' vs,Step as H as' H'->aK K as' m' H'->ae K as' H' (zt w) vs->ao K as' H' Q (f w m')->Q1 vs H'):bS K as H Q1 r:=by
 cases r with
 |ok w m'=>exact λas2 H2 v U S R=>k w m' as2 H2 v U S R (ao.step (r:=f w m') h U)
 |exc c w m'=>exact h
 |no=>exact h
noncomputable def bY(cl:Nat->List Wd->Me->Rz)(X:Cx)(e:Ex):Nd->Prop
 |.e x=>(zw e=false->PE X x (aL X.K (ah cl e))/\(jd e=false->PT X x (xI X.K (ah cl e)))/\(∀op vs pos,x=.BoolOp op vs pos->PW X x (xI X.K (ah cl e))))/\∀tg,PI X tg x (fM X.K (ah cl e))
 |.a xs=>PA X xs (vY X.K (ah cl e))
def bY.of{cl:Nat->List Wd->Me->Rz}{X:Cx}{e:Ex}{x:Expr}(h:PE X x (aL X.K (ah cl e)))(ht:∀whole,isTrue x X.env whole=(do let v <-whole;standAt x.pos;holding [v] (truthy v)):=by intro _;rfl)
  (hb:∀op vs pos,x≠.BoolOp op vs pos:=by intros;intro z;cases z):bY cl X e (.e x):=
 ⟨λ_=>⟨h,λ_=>rp h ht,λop vs pos z=>Kc z (hb op vs pos)⟩,λtg=>jc h⟩
def zm (h:zu e=true):Ih (e::es) env=(false,eval e env)::Ih es env:=by
 cases e<;>first|rfl|cases h
theorem yw:∀{es:List Expr},es.all zu=true->(Ig pos (Ih es env)).any (·.1)=false
 |[],_=>rfl
 |e::es,h=>by
  rw[WS,Qx]at h;rw[zm h.1];show(false || (Ig pos (Ih es env)).any (·.1))=false;rw[yw h.2];rfl
section
variable{cl:Nat->List Wd->Me->Rz}{X:Cx}{a b c:Ex}{x y:Expr}{pos:Pos}
def Br (ha:PE X x (aL X.K (ah cl a)))(hb:PE X y (aL X.K (ah cl b))):PE X (.BinOp x (mU op) y pos) (aL X.K (ah cl (.bin op a b))):=by
 refine PE.imp (uz (uK op) ha hb) λσ H Q h=>?_;obtain⟨as,env,m,S,G,P⟩:=h;refine⟨as,env,m,S,G,ao.bind P λx m1 as1 H1 v T1 S1 R1 P1=>?_⟩;refine⟨as1,env,m1,S1,G.mono S T1,ao.bind P1 λy m2 as2 H2 u T2 S2 R2 P2=>?_⟩;exact AQ S2 (R1.mono S1 T2) R2 P2
def Bm(ha:PE X x (aL X.K (ah cl a))):PE X (.UnaryOp .USub x pos) (aL X.K (ah cl (.neg a))):=by
 refine PE.imp (uy A5 ha) λσ H Q h=>?_;obtain⟨as,env,m,S,G,P⟩:=h;refine⟨as,env,m,S,G,ao.bind P λx m1 as1 H1 v T1 S1 R1 P1=>?_⟩;cases x with
 |int i=>
  obtain rfl:=aa.mp R1;exact⟨i,rfl,P1.ok S1 (aa.mpr rfl)⟩
 |_=>exact P1.elim
def rD(ha:PE X x (aL X.K (ah cl a))):PE X (.UnaryOp .Not x pos) (aL X.K (ah cl (.not a))):=by
 refine PE.imp (Ay ha) λσ H Q h=>?_;obtain⟨as,env,m,S,G,P⟩:=h;refine⟨as,env,m,S,G,ao.bind P λx m1 as1 H1 v T1 S1 R1 P1=>?_⟩;cases x with
 |bl k=>
  obtain rfl:=am.mp R1;exact⟨k,rfl,P1.ok S1 (am.mpr rfl)⟩
 |_=>exact P1.elim
def Bl(ha:PT X x (xI X.K (ah cl a))):PT X (.UnaryOp .Not x pos) (xI X.K (ah cl (.not a))):=by
 refine PT.imp (Az ha) λσ H Q h=>?_;obtain⟨as,env,m,S,G,P⟩:=h;refine⟨as,env,m,S,G,ao.bind P λx m1 as1 H1 v T1 S1 R1 P1=>?_⟩;cases x with
 |bl k=>
  obtain rfl:=am.mp R1;obtain⟨b,e,q⟩:=P1.ok S1 (am.mpr rfl);cases e;exact⟨k,rfl,q⟩
 |_=>exact P1.elim
def qL {K:Qb}(h:aL K (ah cl (.and a b)) σ H Q):aL K (ah cl a) σ H λx H1=>∃k,x=.bl k/\if k=true then aL K (ah cl b) σ H1 Q else Q (.bl false) H1:=by
 obtain⟨as,env,m,S,G,P⟩:=h;refine⟨as,env,m,S,G,ao.bind P λx m1 as1 H1 v T1 S1 R1 P1=>?_⟩;cases x with
 |bl k=>
  obtain rfl:=am.mp R1;refine⟨k,rfl,?_⟩;cases k with
  |true=>exact qm ⟨as1,env,m1,S1,G.mono S T1,P1⟩
  |false=>exact fA (P1.ok S1 (am.mpr rfl))
 |_=>exact P1.elim
def sW {K:Qb}(h:aL K (ah cl (.or a b)) σ H Q):aL K (ah cl a) σ H λx H1=>∃k,x=.bl k/\if k=true then Q (.bl true) H1 else aL K (ah cl b) σ H1 Q:=by
 obtain⟨as,env,m,S,G,P⟩:=h;refine⟨as,env,m,S,G,ao.bind P λx m1 as1 H1 v T1 S1 R1 P1=>?_⟩;cases x with
 |bl k=>
  obtain rfl:=am.mp R1;refine⟨k,rfl,?_⟩;cases k with
  |false=>exact fA ⟨as1,env,m1,S1,G.mono S T1,P1⟩
  |true=>exact qm (P1.ok S1 (am.mpr rfl))
 |_=>exact P1.elim
def qM {K:Qb}(h:aL K g σ H Q)(k:∀v H,Q v H->Q' v H):aL K g σ H Q':=by
 obtain⟨as,env,m,S,G,P⟩:=h;refine⟨as,env,m,S,G,?_⟩;cases hr:g env m with
 |ok w m'=>rw[hr]at P;exact λas' H' v T S' R=>k _ _ (P as' H' v T S' R)
 |exc c w m'=>rw[hr]at P;exact P
 |no=>rw[hr]at P;exact P
def Bk (ha:PE X x (aL X.K (ah cl a)))(hb:PE X (.BoolOp .And (y::r) pos) (aL X.K (ah cl b))):PE X (.BoolOp .And (x::y::r) pos) (aL X.K (ah cl (.and a b))):=
 PE.imp (rm ha hb) λσ H Q h=>qL h
def oR (ha:PE X x (aL X.K (ah cl a)))(hb:PE X (.BoolOp .Or (y::r) pos) (aL X.K (ah cl b))):PE X (.BoolOp .Or (x::y::r) pos) (aL X.K (ah cl (.or a b))):=
 PE.imp (uE ha hb) λσ H Q h=>sW h
def PW.imp{e:Expr}{t t':TT}(h:PW X e t)(k:∀σ H Q,t' σ H Q->t σ H Q):PW X e t':=λwhole pins s σ H Q I q=>h whole pins s σ H Q I (k σ H Q q)
def Bj (ha:PT X x (xI X.K (ah cl a)))(hb:PW X (.BoolOp .And (y::r) pos) (xI X.K (ah cl b))):PW X (.BoolOp .And (x::y::r) pos) (xI X.K (ah cl (.and a b))):=
 PW.imp (AA ha hb) λσ H Q h=>by
  refine qM (qL h) λv H1 q=>?_;obtain⟨k,e,q⟩:=q;refine⟨k,e,?_⟩;cases k with
  |true=>rw[Ka rfl]at q ⊢;exact q
  |false=>
   rw[Kb QZ]at q ⊢;obtain⟨b',e',q⟩:=q;cases e';exact q
def oQ (ha:PT X x (xI X.K (ah cl a)))(hb:PW X (.BoolOp .Or (y::r) pos) (xI X.K (ah cl b))):PW X (.BoolOp .Or (x::y::r) pos) (xI X.K (ah cl (.or a b))):=
 PW.imp (Ax ha hb) λσ H Q h=>by
  refine qM (sW h) λv H1 q=>?_;obtain⟨k,e,q⟩:=q;refine⟨k,e,?_⟩;cases k with
  |false=>rw[Kb QZ]at q ⊢;exact q
  |true=>
   rw[Ka rfl]at q ⊢;obtain⟨b',e',q⟩:=q;cases e';exact q
def lT (h:y6 e=true):Il op e=false:=by
 cases e<;>first|rfl|cases h
def qN {K:Qb}(h:aL K (ah cl (.cmp op a b)) σ H Q):ik (rC K op) (aL K (ah cl a)) (aL K (ah cl b)) σ H Q:=by
 obtain⟨as,env,m,S,G,P⟩:=h;refine⟨as,env,m,S,G,ao.bind P λx m1 as1 H1 v T1 S1 R1 P1=>?_⟩;refine⟨as1,env,m1,S1,G.mono S T1,ao.bind P1 λy m2 as2 H2 u T2 S2 R2 P2=>?_⟩;exact⟨as2,m2,x,y,S2,R1.mono S1 T2,R2,P2⟩
def rA (hu:X.A.units+64<IL)(ha:PE X x (aL X.K (ah cl a)))(hb:PE X y (aL X.K (ah cl b)))(hs:y6 y=true):PE X (.Compare x [cK op] [y] pos) (aL X.K (ah cl (.cmp op a b))):=
 PE.imp (C9 (jV hu op) ha hb (lT hs)) λσ H Q h=>qN h
def Bh (hu:X.A.units+64<IL)(ha:PE X x (aL X.K (ah cl a)))(hb:PE X y (aL X.K (ah cl b)))(hs:y6 y=true):PT X (.Compare x [cK op] [y] pos) (xI X.K (ah cl (.cmp op a b))):=
 PT.imp (C8 (jV hu op) ha hb (lT hs)) λσ H Q h=>qN h
end
section
variable{cl:Nat->List Wd->Me->Rz}{X:Cx}{a b c:Ex}{x y z:Expr}{pos:Pos}
def je {K:Qb}(h:aL K (ah cl (.chain p q a b c)) σ H Q):l7 (rC K p) (rC K q) (aL K (ah cl a)) (aL K (ah cl b)) (aL K (ah cl c)) σ H Q:=by
 obtain⟨as,env,m,S,G,P⟩:=h;refine⟨as,env,m,S,G,ao.bind P λx m1 as1 H1 v T1 S1 R1 P1=>?_⟩;refine⟨as1,env,m1,S1,G.mono S T1,ao.bind P1 λy m2 as2 H2 u T2 S2 R2 P2=>?_⟩;refine⟨as2,m2,x,y,S2,R1.mono S1 T2,R2,ao.bind P2 λz m3 as3 H3 w T3 S3 R3 P3=>?_⟩;cases z with
 |bl k=>
  obtain rfl:=am.mp R3;refine⟨k,rfl,?_⟩;cases k with
  |false=>exact fA (P3.ok S3 (am.mpr rfl))
  |true=>
   refine qm ⟨as3,env,m3,S3,((G.mono S T1).mono S1 T2).mono S2 T3,ao.bind P3 λt m4 as4 H4 r T4 S4 R4 P4=>?_⟩;exact⟨as4,m4,y,t,S4,(R2.mono S2 T3).mono S3 T4,R4,P4⟩
 |_=>exact P3.elim
def rq (h:y6 z=true):lastMarks [o,o'] [y,z]=false:=by
 show Il o' z=false;exact lT h
def qO (hu:X.A.units+64<IL)(ha:PE X x (aL X.K (ah cl a)))(hb:PE X y (aL X.K (ah cl b)))(hc:PE X z (aL X.K (ah cl c)))(hs:y6 z=true):
  PE X (.Compare x [cK p,cK q] [y,z] pos) (aL X.K (ah cl (.chain p q a b c))):=
 PE.imp (D4 (jV hu p) (jV hu q) ha hb hc (rq hs)) λσ H Q h=>je h
def Ew (hu:X.A.units+64<IL)(ha:PE X x (aL X.K (ah cl a)))(hb:PE X y (aL X.K (ah cl b)))(hc:PE X z (aL X.K (ah cl c)))(hs:y6 z=true):
  PT X (.Compare x [cK p,cK q] [y,z] pos) (xI X.K (ah cl (.chain p q a b c))):=
 PT.imp (D3 (jV hu p) (jV hu q) ha hb hc (rq hs)) λσ H Q h=>je h
def CM:PA X [] (vY X.K (ah cl .unit)):=PA.imp yo λσ H Q h=>by
 obtain⟨as,env,m,S,G,P⟩:=h;exact P as H [] .refl S (ay.mpr rfl)
def CL (ha:PE X x (aL X.K (ah cl a)))(hb:PA X xs (vY X.K (ah cl b)))(hs:zu x=true):PA X (x::xs) (vY X.K (ah cl (.pair a b))):=by
 refine PA.imp (zB ha hb (zm hs)) λσ H Q h=>?_;obtain⟨as,env,m,S,G,P⟩:=h;refine⟨as,env,m,S,G,?_⟩;have P':bS X.K as H Q ((ah cl a env m).bind λx m1=>(ah cl b env m1).bind λy m2=>.ok (.tup (x::zt y)) m2):=P;cases hr:ah cl a env m with
 |no=>rw[hr]at P';exact P'
 |exc c w m'=>rw[hr]at P';exact P'
 |ok w m1=>
  rw[hr]at P';intro as1 H1 v T1 S1 R1;refine⟨as1,env,m1,S1,G.mono S T1,?_⟩;simp only[Rz.bind]at P';cases hr2:ah cl b env m1 with
  |no=>rw[hr2]at P';exact P'
  |exc c w' m'=>rw[hr2]at P';exact P'
  |ok w' m2=>
   rw[hr2]at P';intro as2 H2 vs T2 S2 R2;exact P' as2 H2 (v::vs) (T1.trans T2) S2 (ak.mpr ⟨v,vs,rfl,R1.mono S1 T2,R2⟩)
def CK (hC:aY C X cl d)(hk:C.fns[k]?=some nm)(hg:X.env.scope.names.lookup nm=some .globalImplicit)(hn:zL nm=true)(hs:(x::xs).all zu=true)(ha:PA X (x::xs) (vY X.K (ah cl a))):PE X (.Call (.Name nm p) (x::xs) [] pos) (aL X.K (ah cl (.call k a))):=by
 obtain⟨f,fd,ps,h1,h2,h3,h4⟩:=hC.fn k nm hk;have hs':=hs;rw[WS,Qx]at hs';have hdb:(nm==("__debug__":Str))=false:=by
  unfold zL at hn;simp only[Qx,WW]at hn;exact hn.1.1
 refine PE.imp (C7 h4 hC.room hg h1 h2 h3 .nil (ur (X:=X)) ha hdb (zm hs'.1) (yw hs'.2)) λσ H Q h=>?_;obtain⟨as,env,m,S,G,P⟩:=h;refine⟨as,env,m,S,G,bS.bind P λw m1 as1 H1 vs T1 S1 R1 P1=>?_⟩;refine⟨as1,m1,zt w,S1,?_,P1⟩;rw[QV];exact R1
def wK (hn:zL nm=true):(nm==("__debug__":Str))=false/\(nm==("__classdict__":Str))=false/\nm ≠ "__name__":=by
 unfold zL at hn;simp only[Qx,WW]at hn;exact⟨hn.1.1,hn.1.2,by simpa using hn.2⟩
def Bg (hC:aY C X cl d)(hb:lI bf=some (nm,f))(hg:X.env.scope.names.lookup nm=some .globalImplicit)(hn:zL nm=true)(hs:(x::xs).all zu=true)(ha:PA X (x::xs) (vY X.K (ah cl a))):PE X (.Call (.Name nm p) (x::xs) [] pos) (aL X.K (ah cl (.blt bf a))):=by
 obtain⟨n1,n2,n3⟩:=wK hn;have hs':=hs;rw[WS,Qx]at hs';have hc:=Eb hC.room.units hC.calm hb;have go:PE X (.Call (.Name nm p) (x::xs) [] pos) (mM (tP X.K bf) (vY X.K (ah cl a))):=by
  cases bf with
  |len=>cases hb;exact yB hc hg (hC.blt _ (by simp[zr])) PySem.boot_len ha n3 n1 (zm hs'.1) (yw hs'.2)
  |int=>cases hb;exact jO hc hg (hC.blt _ (by simp[zr])) PyProof.Rows.boot_int ha n3 n1 (zm hs'.1) (yw hs'.2)
  |list=>cases hb;exact jO hc hg (hC.blt _ (by simp[zr])) PyProof.Rows.boot_list ha n3 n1 (zm hs'.1) (yw hs'.2)
  |abs=>cases hb;exact yB hc hg (hC.blt _ (by simp[zr])) PyProof.Rows.boot_abs ha n3 n1 (zm hs'.1) (yw hs'.2)
  |max2=>cases hb;exact yB hc hg (hC.blt _ (by simp[zr])) PyProof.Rows.boot_max ha n3 n1 (zm hs'.1) (yw hs'.2)
  |sum=>cases hb;exact yB hc hg (hC.blt _ (by simp[zr])) PyProof.Rows.boot_sum ha n3 n1 (zm hs'.1) (yw hs'.2)
 refine PE.imp go λσ H Q h=>?_;obtain⟨as,env,m,S,G,P⟩:=h;refine⟨as,env,m,S,G,bS.bind P λw m1 as1 H1 vs T1 S1 R1 P1=>?_⟩;exact⟨as1,m1,zt w,S1,R1,P1⟩
def Dj(t:Tg):HX (Str.ofString (cS t))=some (.type (cS t)):=by
 cases t<;>decide +kernel
def Bf (hC:aY C X cl d)(hg:X.env.scope.names.lookup ("isinstance":Str)=some .globalImplicit)(hg':X.env.scope.names.lookup (Str.ofString (cS t))=some .globalImplicit)(hs:zu x=true)(ha:PE X x (aL X.K (ah cl a))):PE X (.Call (.Name "isinstance" p) [x,.Name (Str.ofString (cS t)) p'] [] pos) (aL X.K (ah cl (.isi t a))):=by
 have hm:X.mg (Str.ofString (cS t))=none:=hC.blt _ (by cases t<;>decide +kernel);have hty:PE X (.Name (Str.ofString (cS t)) p') (tC (.ty (cS t))):=se hg' hm (Dj t) rfl (by cases t<;>decide +kernel) (by cases t<;>decide +kernel);refine PE.imp (yB (Ea t) hg (hC.blt _ (by simp[zr])) PyProof.Rows.boot_isinstance (zB ha (zB hty yo) (zm hs)) (by decide +kernel) (by decide +kernel) (zm hs) rfl) λσ H Q h=>?_;obtain⟨as,env,m,S,G,P⟩:=h;refine⟨as,env,m,S,G,ao.bind P λw m1 as1 H1 v T1 S1 R1 P1=>?_⟩;exact⟨as1,m1,w,v,rfl,S1,R1,P1⟩
def Be (ha:PA X xs (vY X.K (ah cl a))):PE X (.List xs pos) (aL X.K (ah cl (.lst a))):=by
 refine PE.imp (A4 ha) λσ H Q h=>?_;obtain⟨as,env,m,S,G,P⟩:=h;refine⟨as,env,m,S,G,bS.bind P λw m1 as1 H1 vs T1 S1 R1 P1=>?_⟩;obtain⟨h1,h2⟩:=xR S1 R1 P1;exact⟨QD h1 yR,h2⟩
set_option tactic.hygienic true in
def Bd (ha:PA X xs (vY X.K (ah cl a))):PE X (.Tuple xs k pos) (aL X.K (ah cl (.tup a))):=by
 refine PE.imp (mi ha) λσ H Q h=>?_;obtain⟨as,env,m,S,G,P⟩:=h;refine⟨as,env,m,S,G,bS.bind P λw m1 as1 H1 vs T1 S1 R1 P1=>?_⟩;split at P1
 .rename_i hl;refine⟨by rw[<-R1.length];exact QD hl yR,λp hp=>?_⟩;obtain⟨T,S',R'⟩:=S1.tup hp R1;exact P1 _ _ _ T S' R'
 .exact P1.elim
def Ad(ha:PE X x (aL X.K (ah cl a)))(hb:PE X y (aL X.K (ah cl b)))(hs:xX y=true):PE X (.Subscript x y pos) (aL X.K (ah cl (.idx a b))):=by
 have hp:rY y:=λo i=>by cases y<;>first|rfl|cases hs
 refine PE.imp (uu AX ha hb hp) λσ H Q h=>?_;obtain⟨as,env,m,S,G,P⟩:=h;refine⟨as,env,m,S,G,ao.bind P λx m1 as1 H1 v T1 S1 R1 P1=>?_⟩;refine⟨as1,env,m1,S1,G.mono S T1,ao.bind P1 λy m2 as2 H2 u T2 S2 R2 P2=>?_⟩;exact AN S2 (R1.mono S1 T2) R2 P2
end
section
variable{cl:Nat->List Wd->Me->Rz}{X:Cx}{a b c:Ex}{x y z:Expr}{pos:Pos}
def cc (h:vC e=true):Jd e f env (eval e env)=eval e env:=by
 cases e<;>first|rfl|cases h
def Ac (h:ys.all zu=true)(hl:ys.length<29):
  ((Ig cp (Ih ys env)).all (λx=>! x.1)&&(backToKw cp (Je [] env)).all (λx=>x.1.isSome)
   && decide (ys.length+([]:List Jf).length+(if([]:List Jf).isEmpty then 0 else 1)<30))=true:=by
 have all:∀{es:List Expr},es.all zu=true->(Ig cp (Ih es env)).all (λx=>! x.1)=true:=by
  intro es
  induction es with
  |nil=>intro _;rfl
  |cons e es ih=>
   intro h;rw[WS,Qx]at h;rw[zm h.1];show(true&&(Ig cp (Ih es env)).all (λx=>! x.1))=true;rw[ih h.2];rfl
 rw[all h];have e2:(backToKw cp (Je [] env)).all (λx=>x.1.isSome)=true:=rfl;rw[e2];have e3:decide (ys.length+([]:List Jf).length+(if([]:List Jf).isEmpty then 0 else 1)<30)=true:=by
  apply Kf;show ys.length+0+0<30;lia
 rw[e3];rfl
def qP(k:dG):Slot "list" (eO k).1 (eO k).2/\typeOf (.builtin (eO k).2)=pure (.type "method_descriptor"):=by
 cases k with
 |append=>exact⟨PySem.F.slot_list_append,PySem.F.type_list_append⟩
 |reverse=>exact⟨PySem.F.slot_list_reverse,PySem.F.type_list_reverse⟩
def sS{K:Qb}{as:List Addr}{H:Hp}{Q:VK}{b:Bool}{r:Rz}(h:ao K as H Q (match b with|true=>r|false=>.no)):b=true/\ao K as H Q r:=by
 cases b with
 |true=>exact⟨rfl,h⟩
 |false=>exact h.elim
def rM (h:yY w m=true):∃l,w=.ref l/\(zC m l).isSome=true:=by
 cases w with
 |ref l=>
  refine⟨l,rfl,?_⟩;unfold yY bb at h;unfold zC;cases e:m[l]? with
  |none=>simp[e]at h
  |some o=>
   cases o with
   |lst xs=>rfl
 |_=>cases h
def rL {K:Qb}(S:aK K as m H)(R:ai K as H w v)(hw:∃l,w=.ref l/\(zC m l).isSome=true):iM K "list" v H:=by
 obtain⟨l,rfl,hs⟩:=hw;obtain⟨p,hp,rfl⟩:=aD.mp R;obtain⟨xs,hs⟩:=W2.mp hs;obtain⟨p',us,hp',e,_⟩:=zW S (zN hs);rw[hp]at hp';cases hp';exact⟨rfl,us,bp.of e⟩
def Ev (ho:PE X x (aL X.K (ah cl a)))(hx:vC x=true)(hl:(ap.endLine==pos.line)=true):
  PE X (.Call (.Attribute x (eO k).1 ap) [] [] pos) (aL X.K (ah cl (.meth k a .unit))):=by
 obtain⟨f1,f2⟩:=qP k;refine PE.imp (AW PySem.F.plainAttrs_list f1 f2 (rE k) ho (cc hx) hl) λσ H Q h=>?_;obtain⟨as,env,m,S,G,P⟩:=h;refine⟨as,env,m,S,G,ao.bind P λw m1 as1 H1 v T1 S1 R1 P1=>?_⟩;obtain⟨hl',P1⟩:=sS P1;have P2:ao X.K as1 H1 Q (du k w [] m1):=P1;exact⟨rL S1 R1 (rM hl'),as1,m1,w,[],S1,R1,ay.mpr rfl,P2⟩
def Di (ho:PE X x (aL X.K (ah cl a)))(ha:PA X (y::ys) (vY X.K (ah cl b)))(hx:vC x=true)(hl:(ap.endLine==pos.line)=true)(hn:(y::ys).length<29)(hs:(y::ys).all zu=true):
  PE X (.Call (.Attribute x (eO k).1 ap) (y::ys) [] pos) (aL X.K (ah cl (.meth k a b))):=by
 obtain⟨f1,f2⟩:=qP k;have hs':=hs;rw[WS,Qx]at hs';refine PE.imp (ut PySem.F.plainAttrs_list f1 f2 (rE k) ho ha (cc hx) (Ac hs hn) hl (zm hs'.1) (yw hs'.2)) λσ H Q h=>?_;obtain⟨as,env,m,S,G,P⟩:=h;refine⟨as,env,m,S,G,ao.bind P λw m1 as1 H1 v T1 S1 R1 P1=>?_⟩;obtain⟨hl',P1⟩:=sS P1;refine⟨rL S1 R1 (rM hl'),?_⟩;refine⟨as1,env,m1,S1,G.mono S T1,bS.bind P1 λw2 m2 as2 H2 vs T2 S2 R2 P2=>?_⟩;exact⟨as2,m2,w,zt w2,S2,R1.mono S1 T2,R2,P2⟩
def Eu {K:Qb}(S:aK K as m H)(h:bE K as H R (fw (.int i) (.int j) (.int 1) m)):(-(2^62)<=i/\i<2^62/\-(2^62)<=j/\j<2^62)/\R (iy i (j-i).toNat) H:=by
 have h':bE K as H R (if -av<=i/\i<=av/\-av<=j/\j<=av/\((1:Int)=1\/(1:Int)=-1\/(1:Int)=-2)then .ok (.tup (qx i 1 (wV i j 1))) m else .no):=h;by_cases hc:-(av:Int)<=i/\i<=av/\-(av:Int)<=j/\j<=av/\((1:Int)=1\/(1:Int)=-1\/(1:Int)=-2)
 .rw[Ka hc]at h';have hlim:(av:Int)=100000:=rfl;refine⟨by lia,h'.2 as H _ .refl S ?_⟩;have e:wV i j 1=(j-i).toNat:=Ka rfl;rw[e];exact⟨_,λ_=>True,EC i (j-i).toNat (K:=K),trivial,vB 1 (j-i).toNat i,λ_ _ _ _=>trivial⟩
 .rw[Kb hc]at h';exact h'.elim
theorem bE.bind {K:Qb}(h:bE K as H R (r.bind f))(k:∀w m' as' H' v,Step as H as' H'->aK K as' m' H'->ai K as' H' w v->bE K as' H' R (f w m')->Q1 v H'):ao K as H Q1 r:=by
 cases r with
 |ok w m'=>
  intro as2 H2 v U S Rr;refine k w m' as2 H2 v U S Rr ?_;have h':bE K as H R (f w m'):=h;cases hr:f w m' with
  |ok w2 m2=>rw[hr]at h';exact⟨h'.1,λas3 H3 J U3 S3 q=>h'.2 as3 H3 J (U.trans U3) S3 q⟩
  |exc c w2 m2=>rw[hr]at h';exact h'
  |no=>rw[hr]at h';exact h'
 |exc c w m'=>exact h
 |no=>exact h
def Dh (hC:aY C X cl d)(hg:X.env.scope.names.lookup ("range":Str)=some .globalImplicit)(hs:zu x=true)(hb:PE X x (aL X.K (ah cl b))):
  PI X tg (.Call (.Name "range" p) [x] [] pos) (fM X.K (ah cl (.rng (.lit (.int 0)) b (.lit (.int 1))))):=by
 refine PI.imp (EQ hg (hC.blt _ (by simp[zr])) (zB hb yo (zm hs)) (zm hs)) λσ H R h=>?_;obtain⟨as,env,m,S,G,P⟩:=h;have P':bE X.K as H R ((ah cl b env m).bind λy m2=>fw (.int 0) y (.int 1) m2):=P;refine⟨as,env,m,S,G,bE.bind P' λw m1 as1 H1 v T1 S1 R1 P1=>?_⟩;cases w with
 |int j=>
  obtain rfl:=aa.mp R1;obtain⟨⟨_,_,h1,h2⟩,q⟩:=Eu S1 P1;refine⟨j,rfl,h1,h2,?_⟩;simpa using q
 |_=>exact P1.elim
def FM{K:Qb}(lo st:Int)(n:Nat):dM (iE lo st n) ((Qr n).map λ(i:Nat)=>V.int (lo+st*(i:Int))) (λ_=>True):=by
 refine⟨λi H _ hi=>?_,λi H x H' _ hi q=>?_,λi H _ hi=>?_⟩
 .show i<n;simpa using hi
 .obtain ⟨e1,e2⟩:=q;have hi':i<n:=by simpa using hi
  refine⟨e1,?_⟩;rw[e2];simp[hi',Int.mul_comm]
 .show n<=i;simpa using hi
def EB {K:Qb}(S:aK K as m H)(h:bE K as H R (fw (.int i) (.int j) (.int k) m)):(-(2^30)<=i/\i<2^30/\-(2^30)<=j/\j<2^30)/\(k=1\/k=-1\/k=-2)/\R (iE i k (kD i j k)) H:=by
 have h':bE K as H R (if -av<=i/\i<=av/\-av<=j/\j<=av/\(k=1\/k=-1\/k=-2)then .ok (.tup (qx i k (wV i j k))) m else .no):=h;by_cases hc:-(av:Int)<=i/\i<=av/\-(av:Int)<=j/\j<=av/\(k=1\/k=-1\/k=-2)
 .rw[Ka hc]at h';have hlim:(av:Int)=100000:=rfl;refine⟨by lia,hc.2.2.2.2,h'.2 as H _ .refl S ?_⟩;have e:wV i j k=kD i j k:=by
   unfold wV kD;rcases hc.2.2.2.2 with rfl|rfl|rfl
   .rfl
   .rfl
   .rfl
  rw[e];exact⟨_,λ_=>True,FM i k (kD i j k) (K:=K),trivial,vB k (kD i j k) i,λ_ _ _ _=>trivial⟩
 .rw[Kb hc]at h';exact h'.elim
def Dg (hC:aY C X cl d)(hg:X.env.scope.names.lookup ("range":Str)=some .globalImplicit)(hs:zu x=true)(hs':zu y=true)(hs2:zu z=true)(ha:PE X x (aL X.K (ah cl a)))(hb:PE X y (aL X.K (ah cl b)))(hc:PE X z (aL X.K (ah cl c))):
  PI X tg (.Call (.Name "range" p) [x,y,z] [] pos) (fM X.K (ah cl (.rng a b c))):=by
 refine PI.imp (EF hg (hC.blt _ (by simp[zr])) (zB ha (zB hb (zB hc yo (zm hs2)) (zm hs')) (zm hs)) (by rw[zm hs,zm hs',zm hs2];rfl) (by rw[zm hs',zm hs2];rfl)) λσ H R h=>?_;obtain⟨as,env,m,S,G,P⟩:=h;refine⟨as,env,m,S,G,bE.bind P λw m1 as1 H1 v T1 S1 R1 P1=>?_⟩;refine⟨as1,env,m1,S1,G.mono S T1,bE.bind P1 λw2 m2 as2 H2 u T2 S2 R2 P2=>?_⟩;refine⟨as2,env,m2,S2,(G.mono S T1).mono S1 T2,bE.bind P2 λw3 m3 as3 H3 u3 T3 S3 R3 P3=>?_⟩;cases w with
 |int i=>
  cases w2 with
  |int j=>
   cases w3 with
   |int k=>
    obtain rfl:=aa.mp R1;obtain rfl:=aa.mp R2;obtain rfl:=aa.mp R3;obtain⟨h1,h2,q⟩:=EB S3 P3;exact⟨i,j,k,rfl,h1,h2,q⟩
   |_=>exact P3.elim
  |_=>exact P3.elim
 |_=>exact P3.elim
def Df (hC:aY C X cl d)(hgl:X.env.scope.names.lookup ("list":Str)=some .globalImplicit)(hg:X.env.scope.names.lookup ("range":Str)=some .globalImplicit)(hs:zu x=true)(ha:PE X x (aL X.K (ah cl a))):
  PE X (.Call (.Name "list" p) [.Call (.Name "range" p') [x] [] pos'] [] pos) (aL X.K (ah cl (.lrng a))):=by
 refine PE.imp (C3 hC.calm hgl (hC.blt _ (by simp[zr])) hg (hC.blt _ (by simp[zr])) (zB ha yo (zm hs)) (zm hs)) λσ H Q h=>?_;obtain⟨as,env,m,S,G,P⟩:=h;refine⟨as,env,m,S,G,ao.bind P λw m1 as1 H1 v T1 S1 R1 P1=>?_⟩;cases w with
 |int j=>
  obtain rfl:=aa.mp R1;have hlim:(av:Int)=100000:=rfl;have P1':ao X.K as1 H1 Q (if -(av:Int)<=j/\j<=av then alloc m1 (qx 0 1 j.toNat)else .no):=P1;by_cases hc:-(av:Int)<=j/\j<=av
  .rw[Ka hc]at P1';obtain⟨h1,h2⟩:=xR S1 (vB 1 j.toNat 0) P1';have hz:j.toNat<=sizeLine:=QD (by have:av=100000:=rfl;lia) yR;exact⟨j,rfl,by lia,by lia,hz,h2⟩
  .rw[Kb hc]at P1';exact P1'.elim
 |_=>exact P1.elim
end
end Mini
namespace L2
open PySem PySem.Spec PyProof.Rows
section
variable{X:Cx}{pins:List (Addr×Obj)}{σ:St}{H:Hp}{s:Shared}{h':HV}
def nO {ch:List Addr}(I:Inv X pins σ H s)(hf:∀b∈ch,kB X pins H b)(k:∀b o,b∉ch->s.heap.get? b=some o->h'.get? b=some o)(hT:s.heap.objs.size<=T)(hz:xs.length<=sizeLine)(hv:aw xs its)(ht:IsTup h' T its.toArray):Inv X pins σ (aI H T (.tup xs)) {s with heap:=h',toks:=t' }:=by
 have hn:H T=none:=I.hok.fresh hT;have nit:∀b u,H b=some u->b∉ch:=λb u e z=>by rw[(hf b z).1]at e;cases e
 have up:∀b u,H b=some u->aI H T (.tup xs) b=some u:=λb u e=>by rw[zg (zA e hn)];exact e
 refine I.step (g':=s.gens) (d':=s.drawn) (ch:=ch) (λb hb=>?_) (λb o _ _ hc e _=>k b o hc e) (λb o _ _ hc e _=>⟨o.slots,k b o hc e⟩) (λb o hc e n=>?_)
  (λb o hc e=>⟨o,k b o hc e⟩) (λb _ e=>up b _ e) (λb _ _ e=>up b _ e) (λb ps e=>⟨#[],by rw[up b _ e];simp⟩) (λm hm=>?_) (λb u e=>?_) I.bare
 .obtain ⟨f0,f1,f2,f3,f4,f5⟩:=hf b hb;exact⟨f3,f1,f4,f5⟩
 .rw[zg (QE (Qk (Qj e) hT))];exact n
 .obtain ⟨o,es,ep,ho,r⟩:=hm;exact⟨o,es,ep,k _ o (λz=>(hf _ z).2.1 rfl) ho,r⟩
 .by_cases hb:b=T
  .subst hb;rw[zf]at e;cases e;exact⟨hz,its,hv,ht⟩
  .rw[zg hb]at e;refine(I.hok b u e).stay (λc v hc q=>k c v ?_ q) (λc q=>up c _ q) λc _ q=>up c _ q;rcases hc with z|z
   .rw[z];exact nit b u e
   .exact nit c _ z
def Inv.turnedL{t':Nat}{ch:List Addr}(I:Inv X pins σ H s)(hf:∀b∈ch,kB X pins H b)(k:∀b o,b∉ch->s.heap.get? b=some o->h'.get? b=some o):Inv X pins σ H {s with heap:=h',toks:=t' }:=by
 have nit:∀b u,H b=some u->b∉ch:=λb u e z=>by rw[(hf b z).1]at e;cases e
 refine I.step (g':=s.gens) (d':=s.drawn) (ch:=ch) (λb hb=>?_) (λb o _ _ hc e _=>k b o hc e) (λb o _ _ hc e _=>⟨o.slots,k b o hc e⟩) (λb o hc e n=>n)
  (λb o hc e=>⟨o,k b o hc e⟩) (λb _ e=>e) (λb _ _ e=>e) (λb ps e=>⟨#[],by rw[e];simp⟩) (λm hm=>?_) (λb u e=>?_) I.bare
 .obtain ⟨f0,f1,f2,f3,f4,f5⟩:=hf b hb;exact⟨f3,f1,f4,f5⟩
 .obtain ⟨o,es,ep,ho,r⟩:=hm;exact⟨o,es,ep,k _ o (λz=>(hf _ z).2.1 rfl) ho,r⟩
 .refine (I.hok b u e).stay (λc v hc q=>k c v ?_ q) (λc q=>q) λc _ q=>q;rcases hc with z|z
  .rw[z];exact nit b u e
  .exact nit c _ z
end
noncomputable def Yp(H:Hp)(v:V)(H':Hp)(x y:V):Prop:=∃T,H T=none/\v=.ref T/\H'=aI H T (.tup [x,y])
noncomputable def nI(K:Qb)(c:Nat)(l:Addr):It:=
 ⟨λi H=>∃xs x,bp K H l xs/\xs[i]?=some x,
  λi H v H'=>∃x,Yp H v H' (.int ((i+c:Nat):Int)) x/\∀xs,bp K H l xs->xs[i]?=some x,
  λi H=>∃xs,bp K H l xs/\xs.length<=i⟩
def EA (hh:A.handled=none)(it l:Addr)(hne:l≠it)(items:Array Value)(c:Nat):
  Draws prog w A it [it,l] (items.size+c) (λi x=>∃j,i=j+c/\items[j]?=some x) (λi h=>∃j,i=j+c/\h.IsListIter it l j/\h.IsList l items):=by
 have D:=Draws.list (prog:=prog) (w:=w) hh it l hne items;refine⟨λi h st=>?_,λi h h' st k=>?_,λi s Q E hi st hQ=>?_,λs Q E st hE=>?_⟩
 .obtain ⟨j,_,h1,h2⟩:=st;exact D.live j h ⟨h1,h2⟩
 .obtain ⟨j,e,h1,h2⟩:=st;obtain⟨q1,q2⟩:=D.frame j h h' ⟨h1,h2⟩ k;exact⟨j,e,q1,q2⟩
 .obtain ⟨j,rfl,h1,h2⟩:=st;refine D.item j s Q E (by lia) ⟨h1,h2⟩ λx h' tk p q sb=>hQ x h' tk ⟨j,rfl,p⟩ ⟨j+1,by lia,q.1,q.2⟩ sb
 .obtain ⟨j,e,h1,h2⟩:=st;have e':j=items.size:=by lia
  subst e';exact D.done s Q E ⟨h1,h2⟩ hE
def Et (hh:A.handled=none)(it l:Addr)(items:Array Value)(hi:items[i]?=none):
  Draws prog w A it [it,l] 0 (λ_ _=>True) (λk h=>k=0/\h.IsListIter it l i/\h.IsList l items):=by
 refine⟨λk h st=>?_,λk h h' st q=>?_,λk s Q E hk st hQ=>Kc hk (Nat.not_lt_zero _),λs Q E st hE=>?_⟩
 .obtain ⟨o,ho,_⟩:=st.2.1;exact⟨o,ho⟩
 .exact ⟨st.1,st.2.1.at λo e=>q it (by simp) o e,st.2.2.at λo e=>q l (by simp) o e⟩
 .exact JN hh st.2.1 st.2.2 hi hE
def Ez {K:Qb}(c:Nat)(e it l:Addr)(hei:e≠it)(hle:l≠e)(hli:l≠it):
  cY P w K (.Tuple elts k pt) (nI K c l) [e,it] e (λi h=>(∃old,IsEnum h e it ((i+c:Nat):Int) old)/\h.IsListIter it l i) where
 mem:=by simp
 obj:=λi h st b hb=>by
  obtain⟨⟨old,he⟩,o1,e1,c1,d1⟩:=st;simp only[Qc,WL,or_false]at hb;rcases hb with rfl|rfl
  .exact ⟨_,he,λv z=>by cases z⟩
  .exact ⟨_,e1,λv z=>by rw[d1]at z;cases z⟩
 keep:=λi h h' st k=>by
  obtain⟨⟨old,he⟩,h1⟩:=st;exact⟨⟨old,k e (by simp) _ he⟩,h1.at λo q=>k it (by simp) o q⟩
 item:=by
  intro X hP hw hK hc i pins s σ H E I hf st hg;subst hP hw hK;obtain⟨xs,x,hq1,hx⟩:=hg;obtain⟨its1,rv1,p1,_⟩:=I.list hq1;obtain⟨u,hu,ru⟩:=rv1.get hx;obtain⟨⟨old,he⟩,h1⟩:=st;have hil:i<its1.length:=(Qa.mp hu).1;have D:=EA (prog:=X.prog) (w:=X.w) (A:=X.A.in1) (I.ok.hd hc) it l hli its1.toArray c;refine wpAny_pyNext_enum_itemD D he ⟨i,rfl,h1,p1.isList⟩ (by simp;lia) hei (by simp[hei,Ne.symm hle]) λx' h' tk px a1 st' a3 a4 hk=>?_;obtain⟨j,ej,hj⟩:=px;have ej':i=j:=by lia
  subst ej';have hxu:x'=u:=by
   have:its1[i]?=some x':=by simpa using hj
   rw[hu]at this;cases this;rfl
  subst hxu;obtain⟨j',ej',a2,_⟩:=st';have e2:j'=i+1:=by lia
  subst e2;refine⟨_,rfl,wpAny_letOwnedTupleGo_enum (s:={s with heap:=h',toks:=tk+1}) a1 λh'' he' hs'=>?_⟩;have sT:e<s.heap.objs.size:=Qj he;have kk:∀b o,b∉[e,it]->s.heap.get? b=some o->h''.get? b=some o:=λb o hb q=>
   (hs'.2 b λz=>hb (by simp[z])).trans (hk b o (λz=>hb (by simp[z])) (λz=>hb (by simp[z])) q)
  refine⟨.ref s.heap.objs.size,aI H s.heap.objs.size (.tup [.int ((i+c:Nat):Int),x]),?_,rfl,⟨x,⟨_,I.hok.fresh (Qo _),rfl,rfl⟩,λzs hz=>by rw[I.list_inj hz hq1];exact hx⟩,?_,?_⟩
  .have I1:Inv X pins σ (aI H s.heap.objs.size (.tup [.int ((i+c:Nat):Int),x])) {s with heap:=h'',toks:=tk+1}:=nO (s:=s) (its:=[.int ((i+c:Nat):Int) tk,x']) I hf kk (Qo _) (show(2:Nat)<=sizeLine by decide) (.cons ⟨_,rfl⟩ (.cons ru .nil)) ⟨_,(hs'.2 _ (WA sT)).trans a3,rfl,_,rfl⟩;exact I1
  .refine ⟨⟨x',?_⟩,a2.at λo q=>(hs'.2 it hei.symm).trans q⟩;have:((i+1+c:Nat):Int)=((i+c:Nat):Int)+1:=by lia
   rw[this];exact he'
  .intro b hb;have hlt:b<s.heap.objs.size:=by
    simp only[Qc,WL,or_false]at hb;obtain⟨_,e1,_⟩:=h1;rcases hb with rfl|rfl
    .exact sT
    .exact Qj e1
   rw[zg (QE hlt)];exact(hf b hb).1
 done:=by
  intro X hP hw hK hc i pins s σ H E I hf st hg;subst hP hw hK;obtain⟨xs,hq1,hx⟩:=hg;obtain⟨its1,rv1,p1,_⟩:=I.list hq1;obtain⟨⟨old,he⟩,h1⟩:=st;have l1:=rv1.length;have D:=Et (prog:=X.prog) (w:=X.w) (A:=X.A.in1) (I.ok.hd hc) it l its1.toArray (i:=i) (by simp;lia);refine wpAny_pyNext_enum_endD D he ⟨rfl,h1,p1.isList⟩ λh' hk=>⟨rfl,?_⟩;exact I.turnedL (t':=s.toks) hf λb o hb q=>hk b o (λz=>hb (by simp[z])) q
 self:=λ_ _ _ _ _ st h=>by
  obtain⟨⟨old,he⟩,_⟩:=st;exact wpAny_pyIter_enum he h
section
variable{X:Cx}{elts:List Expr}{k:Nat}{pt:Pos}
noncomputable def oP(K:Qb)(c:Nat)(ta:TA):TI:=λσ H R=>ta σ H λvs H1=>∃l xs,vs=[.ref l]/\bp K H1 l xs/\R (nI K c l) H1
def De (hg:Gl X "enumerate")(hm:X.mg "enumerate"=none)(ha:PA X [a] ta)(hs:Ih [a] X.env=[(false,eval a X.env)]:=by rfl):
  PI X (.Tuple elts k pt) (.Call (.Name "enumerate" p) [a] [] pos) (oP X.K 0 ta):=by
 intro pins s σ H R I h;refine Call_ (xf I hg hm PyProof.Rows.boot_enumerate (PyProof.Rows.callWith_type1 (aT (ha pos pins s σ H _ I h) λus s1 ⟨vs,H1,I1,r1,q1⟩=>?_) hs rfl));obtain⟨l,xs,e,g1,q⟩:=q1;subst e;cases r1 with
 |cons r rr=>
  cases rr;cases r;obtain⟨its1,rv1,p1,_⟩:=I1.list g1;have t1:l<s1.heap.objs.size:=by obtain⟨o,e,_⟩:=p1.isList;exact Qj e
  refine call_enumerate_list p1.isList λh' he hi hsz hk=>?_;refine wpAny_pyIter_enum (s:={s1 with heap:=h' }) he ?_;refine⟨_,_,_,_,H1,rfl,I1.kept (t':=s1.toks) hk,Ez 0 (s1.heap.objs.size+1) s1.heap.objs.size l (Nat.succ_ne_self _) (QE (WJ t1)) (QE t1),⟨⟨_,he⟩,hi⟩,λb hb=>?_,q⟩;have hb':s1.heap.objs.size<=b:=by
   simp only[Qc,WL,or_false]at hb;rcases hb with rfl|rfl
   .exact Nat.le_add_right _ _
   .exact Qo _
  exact I1.fpOk hb' (I1.hok.fresh hb')
end
end L2
namespace L2
open PySem PySem.Spec PyProof.Rows
open AutoSeq1 (wpAny_loadPart')
end L2
namespace L2
open PySem PySem.Spec PyProof.Rows
section
variable{prog:HS}{w:HU}{A:HY}{E:Value->Shared->Prop}{s:Shared}
def uJ (at_:s.heap.IsTupleIter it t i)(tp:s.heap.IsTuple t its)(hi:i<its.size)(end':∀h',h'.IsTupleIter it t (i+1)->WH it s.heap h'->R its[i] {s with heap:=h' }):Ic (Ie prog w) A (Builtin.SmallTypes.nextOf (.ref it)) R E s:=by
 obtain⟨o,go,co,fo⟩:=id at_;obtain⟨ot,gt,_,n,ft⟩:=tp;have ty:=at_.typeIs;unfold Builtin.SmallTypes.nextOf;apply Iu;apply JO ty F.slot_tuple_iterator_next;refine JP F.slot_tuple_iterator_next ty F.entry_tuple_iterator_next ?_ (F.args_tuple_iterator_next_1 _);apply Iu (m:=JQ (.ref it) 0);apply JR go fo (x:=.ref t) rfl;change Ic _ _ (ite ((Value.ref t==Value.none)=true) _ _) _ _ s;rw[show(Value.ref t==Value.none)=false from rfl,Kb QZ];apply Iu (m:=JQ (.ref it) 1);apply JR go fo (x:=.int i 0) rfl;apply Iu (m:=seqItems? (.ref t));apply JS gt ft;simp only[WK,V6 hi];refine Iu (wpAny_setField go fo (by simp) (IA ⟨_,rfl,IA (end' _ ⟨_,VE _ go (Obj.isFreed_of_fields (Obj.data_mapFields fo _)),by rw[Obj.cls_mapFields];exact co,?_⟩ (WH.update ..))⟩));rw[Obj.data_mapFields fo];simp[rawInt]
def uI (quiet:A.handled=none)(at_:s.heap.IsTupleIter it t i)(tp:s.heap.IsTuple t its)(hi:its.size<=i)(end':∀h' e,VW it s.heap h'->(∃o,h'.get? e=some o/\o.cls=.type "StopIteration")->E (.ref e) {s with heap:=h' }):Ic (Ie prog w) A (Builtin.SmallTypes.nextOf (.ref it)) R E s:=by
 obtain⟨o,go,co,fo⟩:=id at_;obtain⟨ot,gt,_,n,ft⟩:=tp;have ty:=at_.typeIs;unfold Builtin.SmallTypes.nextOf;apply Iu;apply JO ty F.slot_tuple_iterator_next;refine JP F.slot_tuple_iterator_next ty F.entry_tuple_iterator_next ?_ (F.args_tuple_iterator_next_1 _);apply Iu (m:=JQ (.ref it) 0);apply JR go fo (x:=.ref t) rfl;change Ic _ _ (ite ((Value.ref t==Value.none)=true) _ _) _ _ s;rw[show(Value.ref t==Value.none)=false from rfl,Kb QZ];apply Iu (m:=JQ (.ref it) 1);apply JR go fo (x:=.int i 0) rfl;apply Iu (m:=seqItems? (.ref t));apply JS gt ft;simp only[WK,Ub hi];apply Iu;apply JC;apply Iu;apply wpAny_setField go fo (by simp);apply Iu;simp only[newExc,newTuple];refine Iu (Jp (Iu (m:=firstArgMember _ _) (wpAny_of_eq (a:=Value.none) (by first|rfl|(simp only[firstArgMember];rfl)) (Jp ?_ (by size_fits)))) (by size_fits));simp only[raiseNew];apply Iu;apply wpAny_handled
 first|rw[show A.in1.handled=none from quiet]|rw[quiet]
 apply wpAny_throw;exact end' _ _ (((WH.update ..).extBut.push _).push _) ⟨_,Qw _ rfl,rfl⟩
noncomputable def bQ(b:Bool)(h:HV)(l:Addr)(its:Array Value):Prop:=match b with
 |false=>h.IsList l its
 |true=>h.IsTuple l its
noncomputable def bH(b:Bool)(h:HV)(it l:Addr)(i:Nat):Prop:=match b with
 |false=>h.IsListIter it l i
 |true=>h.IsTupleIter it l i
theorem bQ.at{b:Bool}{h h':HV}{l:Addr}{its:Array Value}(x:bQ b h l its)(k:∀o,h.get? l=some o->h'.get? l=some o):bQ b h' l its:=by
 cases b with
 |false=>exact Heap.IsList.at x k
 |true=>obtain⟨o,g,r⟩:=x;exact⟨o,k o g,r⟩
theorem bH.at{b:Bool}{h h':HV}{it l:Addr}{i:Nat}(x:bH b h it l i)(k:∀o,h.get? it=some o->h'.get? it=some o):bH b h' it l i:=by
 cases b with
 |false=>exact Heap.IsListIter.at x k
 |true=>exact Heap.IsTupleIter.at x k
def bH.there (x:bH b h it l i):∃o,h.get? it=some o/\∀v,o.data≠.cell v:=by
 cases b with
 |false=>obtain⟨o,g,_,d⟩:=x;exact⟨o,g,λv z=>by rw[d]at z;cases z⟩
 |true=>obtain⟨o,g,_,d⟩:=x;exact⟨o,g,λv z=>by rw[d]at z;cases z⟩
def lV (b:Bool)(at_:bH b s.heap it l i)(sq:bQ b s.heap l its)(hi:i<its.size)(end':∀h',bH b h' it l (i+1)->WH it s.heap h'->R its[i] {s with heap:=h' }):Ic (Ie prog w) A (Builtin.SmallTypes.nextOf (.ref it)) R E s:=by
 cases b with
 |false=>exact wpAny_nextOf_list_item at_ sq (V6 hi) end'
 |true=>exact uJ at_ sq hi end'
def oO (b:Bool)(quiet:A.handled=none)(at_:bH b s.heap it l i)(sq:bQ b s.heap l its)(hi:its.size<=i)(end':∀h' e,VW it s.heap h'->(∃o,h'.get? e=some o/\o.cls=.type "StopIteration")->E (.ref e) {s with heap:=h' }):Ic (Ie prog w) A (Builtin.SmallTypes.nextOf (.ref it)) R E s:=by
 cases b with
 |false=>exact JN quiet at_ sq (Ub hi) end'
 |true=>exact uI quiet at_ sq hi end'
end
noncomputable def dh(b:Bool)(l:Addr):Obj:=match b with
 |false=>{cls:=.type "list_iterator",data:=.fields #[.ref l,.int 0 0]}
 |true=>{cls:=.type "tuple_iterator",data:=.fields #[.ref l,.int 0 0]}
section
variable{prog:HS}{w:HU}{A:HY}{E:Value->Shared->Prop}{s:Shared}
def oN (b:Bool)(sq:bQ b s.heap l its)(end':R (.ref s.heap.objs.size) {s with heap:=s.heap.push (dh b l)}):Ic (Ie prog w) A (pyIter (.ref l)) R E s:=by
 cases b with
 |false=>exact IG sq end'
 |true=>exact wpAny_pyIter_tuple sq end'
def j4(b:Bool)(l:Addr):(dh b l).isFreed=false:=by cases b<;>rfl
def rK (b:Bool)(g:h.get? it=some (dh b l)):bH b h it l 0:=by
 cases b with
 |false=>exact⟨_,g,rfl,rfl⟩
 |true=>exact⟨_,g,rfl,rfl⟩
noncomputable def zH(b1 b2:Bool)(h:HV)(l1 l2:Addr):HV:=((((h.push (dh b1 l1)).push (dh b2 l2)).push {cls:=.type "tuple",data:=.seq #[.ref h.objs.size,.ref (h.push (dh b1 l1)).objs.size]}).push {cls:=.type "tuple",data:=.seq #[.none,.none]})
noncomputable def zF(b1 b2:Bool)(h:HV)(l1 l2:Addr):HV:=(zH b1 b2 h l1 l2).push {cls:=.type "zip",data:=.fields #[.none,.bool false,.bool false,.ref ((h.push (dh b1 l1)).push (dh b2 l2)).objs.size,.ref (((h.push (dh b1 l1)).push (dh b2 l2)).push {cls:=.type "tuple",data:=.seq #[.ref h.objs.size,.ref (h.push (dh b1 l1)).objs.size]}).objs.size]}
def FL(b1 b2:Bool)(l1 l2:Addr)(xs ys:Array Value):
  Meets (Builtin.«zip.__new__» ⟨[.type "zip",.ref l1,.ref l2],[]⟩) (λ_ R s=>bQ b1 s.heap l1 xs/\bQ b2 s.heap l2 ys/\R (.ok (.ret (.ref (zH b1 b2 s.heap l1 l2).objs.size))) {s with heap:=zF b1 b2 s.heap l1 l2}):=
 .of_wp λprog w A R s h=>by
  obtain⟨hp,g,d,tk,os⟩:=s;obtain⟨q1,q2,h⟩:=h;have sb:=sub_zip;have k1:bQ b1 (Shared.heap ⟨hp,g,d,tk,os⟩) l1 xs:=q1;have k2:bQ b2 (Shared.heap ⟨hp.push (dh b1 l1),g,d,tk,os⟩) l2 ys:=q2.at λo e=>Qe _ e
  wp_walk using oN b1 k1,oN b2 k2
  exact⟨_,rfl,h⟩
def Ey (b1 b2:Bool)(q1:bQ b1 s.heap l1 xs)(q2:bQ b2 s.heap l2 ys)(end':∀h',JT h' (s.heap.objs.size+4) (s.heap.objs.size+2) (s.heap.objs.size+3) .none->JU h' (s.heap.objs.size+2) (.ref s.heap.objs.size) (.ref (s.heap.objs.size+1))->JU h' (s.heap.objs.size+3) .none .none ->
   bH b1 h' s.heap.objs.size l1 0->bH b2 h' (s.heap.objs.size+1) l2 0->(∀c o,s.heap.get? c=some o->h'.get? c=some o)->R (.ref (s.heap.objs.size+4)) {s with heap:=h' }):
  Ic (Ie prog w) A (call (.type "zip") [.ref l1,.ref l2]) R E s:=by
 refine callType_new F.called_zip (by decide) (F.typeCall_zip_2 _ _) (F.newCall_zip_2 _ _) (λobj=>F.args_object_init_3 obj _ _) F.entry_zip_new (FL b1 b2 l1 l2 xs ys) ⟨q1,q2,?_⟩;obtain⟨a1,e1⟩:∃a,a=s.heap.push (dh b1 l1):=⟨_,rfl⟩;obtain⟨a2,e2⟩:∃a,a=a1.push (dh b2 l2):=⟨_,rfl⟩;obtain⟨a3,e3⟩:∃a,a=a2.push {cls:=.type "tuple",data:=.seq #[.ref s.heap.objs.size,.ref a1.objs.size]}:=⟨_,rfl⟩;obtain⟨a4,e4⟩:∃a,a=a3.push {cls:=.type "tuple",data:=.seq #[.none,.none]}:=⟨_,rfl⟩;obtain⟨a5,e5⟩:∃a,a=a4.push {cls:=.type "zip",data:=.fields #[.none,.bool false,.bool false,.ref a2.objs.size,.ref a3.objs.size]}:=⟨_,rfl⟩;have f4:zH b1 b2 s.heap l1 l2=a4:=by rw[e4,e3,e2,e1];rfl
 have f5:zF b1 b2 s.heap l1 l2=a5:=by rw[e5,e4,e3,e2,e1];rfl
 rw[f4,f5];have z1:a1.objs.size=s.heap.objs.size+1:=by rw[e1,WY]
 have z2:a2.objs.size=s.heap.objs.size+2:=by rw[e2,WY,z1]
 have z3:a3.objs.size=s.heap.objs.size+3:=by rw[e3,WY,z2]
 have z4:a4.objs.size=s.heap.objs.size+4:=by rw[e4,WY,z3]
 have u5:∀c o,a4.get? c=some o->a5.get? c=some o:=λc o e=>by rw[e5];exact Qe _ e
 have u4:∀c o,a3.get? c=some o->a5.get? c=some o:=λc o e=>u5 c o (by rw[e4];exact Qe _ e);have u3:∀c o,a2.get? c=some o->a5.get? c=some o:=λc o e=>u4 c o (by rw[e3];exact Qe _ e);have u2:∀c o,a1.get? c=some o->a5.get? c=some o:=λc o e=>u3 c o (by rw[e2];exact Qe _ e);have u1:∀c o,s.heap.get? c=some o->a5.get? c=some o:=λc o e=>u2 c o (by rw[e1];exact Qe _ e);have g5:a5.get? a4.objs.size=some {cls:=.type "zip",data:=.fields #[.none,.bool false,.bool false,.ref a2.objs.size,.ref a3.objs.size]}:=by rw[e5];exact Qw _ rfl
 have g4:a5.get? a3.objs.size=some {cls:=.type "tuple",data:=.seq #[.none,.none]}:=u5 _ _ (by rw[e4];exact Qw _ rfl);have g3:a5.get? a2.objs.size=some {cls:=.type "tuple",data:=.seq #[.ref s.heap.objs.size,.ref a1.objs.size]}:=u4 _ _ (by rw[e3];exact Qw _ rfl);have g2:a5.get? a1.objs.size=some (dh b2 l2):=u3 _ _ (by rw[e2];exact Qw _ (j4 b2 l2));have g1:a5.get? s.heap.objs.size=some (dh b1 l1):=u2 _ _ (by rw[e1];exact Qw _ (j4 b1 l1));rw[z1,z2]at g3;rw[z2,z3,z4]at g5;rw[z3]at g4;rw[z1]at g2;rw[z4];exact⟨⟨_,g5,rfl⟩,end' a5 g5 g3 g4 (rK b1 g1) (rK b2 g2) u1⟩
end
section
variable{prog:HS}{w:HU}{A:HY}{E:Value->Shared->Prop}{s:Shared}{z TI TO i1 i2 l1 l2:Addr}{i:Nat}{xs ys:Array Value}{a b:Value}
def Dd(b1 b2:Bool){R:Value->Shared->Prop}(D:ZipApart z TI TO i1 i2 l1 l2)(hz:JT s.heap z TI TO .none)(hI:JU s.heap TI (.ref i1) (.ref i2))(hO:JU s.heap TO a b)
  (h1:bH b1 s.heap i1 l1 i) (h2:bH b2 s.heap i2 l2 i) (q1:bQ b1 s.heap l1 xs) (q2:bQ b2 s.heap l2 ys) (hx:i<xs.size) (hy:i<ys.size)
  (end':∀h',JT h' z TI TO (rawInt s.heap.objs.size)->JU h' TO xs[i] ys[i]->bH b1 h' i1 l1 (i+1)->bH b2 h' i2 l2 (i+1)->JU h' s.heap.objs.size xs[i] ys[i] ->
   (∀c o,c≠z->c≠TO->c≠i1->c≠i2->s.heap.get? c=some o->h'.get? c=some o)->R (.ref s.heap.objs.size) {s with heap:=h' }) :
  Ic (Ie prog w) A (Builtin.«zip.__next__» ⟨[.ref z],[]⟩) (λfin s'=>∃v,fin=.done (.ret v)/\R v s') E s:=by
 apply Iu (m:=JQ (.ref z) 2);apply JR hz rfl (x:=.bool false) rfl;apply Iu (m:=JQ (.ref z) 3);apply JR hz rfl (x:=.ref TI) rfl;apply Iu;apply JS hI rfl;apply Iu (m:=Builtin.SmallTypes.ownedTupleIsFree (.ref z));unfold Builtin.SmallTypes.ownedTupleIsFree;refine Iu (JR hz rfl (x:=.none) rfl (IA ?_));simp only[if_true];refine Iu (JC (Iu (JR hz rfl (x:=.ref TO) rfl ?_)));refine Iu (JV hz (by simp) λm1 z1 c1=>?_);have z1:JT m1 z TI TO .ellipsis:=z1;apply Iu;simp only[VQ,List.zipIdx_nil,V0,VH];apply Iu;apply Iu;apply JW;apply Iu (m:=Builtin.SmallTypes.nextOf (.ref i1));refine lV b1 (h1.at λo e=>c1.extBut _ o D.i1z e) (q1.at λo e=>c1.extBut _ o D.l1z e) hx λm2 j1 c2=>IA ?_;have o2:JU m2 TO a b:=c2.extBut _ _ D.TOi1 (c1.extBut _ _ D.TOz hO);refine Iu (JS o2 rfl (Iu (JX o2 λm3 o3 c3=>?_)));have o3:JU m3 TO xs[i] b:=o3;refine Iu (JY (IA ?_));apply Iu;apply Iu;apply JW;apply Iu (m:=Builtin.SmallTypes.nextOf (.ref i2));refine lV b2 (h2.at λo e=>c3.extBut _ o D.TOi2.symm (c2.extBut _ o D.i12.symm (c1.extBut _ o D.i2z e))) (q2.at λo e=>c3.extBut _ o D.l2TO (c2.extBut _ o D.l2i1 (c1.extBut _ o D.l2z e))) hy λm4 j2 c4=>IA ?_;have o4:JU m4 TO xs[i] b:=c4.extBut _ _ D.TOi2 o3;refine Iu (JS o4 rfl (Iu (JX o4 λm5 o5 c5=>?_)));have o5:JU m5 TO xs[i] ys[i]:=o5;refine Iu (JY (IA (IA ?_)));refine Iu (JS o5 rfl (Iu (wpAny_newTuple ?_)));have sz:m5.objs.size=s.heap.objs.size:=by rw[c5.1,c4.1,c3.1,c2.1,c1.1]
 have z5:JT m5 z TI TO .ellipsis:=c5.extBut _ _ D.TOz.symm (c4.extBut _ _ D.i2z.symm (c3.extBut _ _ D.TOz.symm (c2.extBut _ _ D.i1z.symm z1)));have up5:∀c o,c≠z->c≠TO->c≠i1->c≠i2->s.heap.get? c=some o->m5.get? c=some o:=λc o y1 y2 y3 y4 e=>c5.extBut _ _ y2 (c4.extBut _ _ y4 (c3.extBut _ _ y2 (c2.extBut _ _ y3 (c1.extBut _ _ y1 e))));have k1:bH b1 m5 i1 l1 (i+1):=j1.at λo e=>c5.extBut _ o D.TOi1.symm (c4.extBut _ o D.i12 (c3.extBut _ o D.TOi1.symm e));have k2:bH b2 m5 i2 l2 (i+1):=j2.at λo e=>c5.extBut _ o D.TOi2.symm e;have zl:z<m5.objs.size:=Qj z5;apply Iu (m:=Builtin.SmallTypes.ownedTupleHandOut (.ref z) (.ref m5.objs.size));unfold Builtin.SmallTypes.ownedTupleHandOut;have z6:JT (m5.push {cls:=.type "tuple",data:=.seq #[xs[i],ys[i]]}) z TI TO .ellipsis:=Qe _ z5;refine Iu (JV z6 (by simp) λm7 z7 c7=>?_);have z7:JT m7 z TI TO (rawInt m5.objs.size):=z7;refine JV z7 (by simp) λm8 z8 c8=>?_;have z8:JT m8 z TI TO (rawInt m5.objs.size):=z8;have up:∀c o,c≠z->m5.get? c=some o->m8.get? c=some o:=λc o y e=>c8.extBut _ _ y (c7.extBut _ _ y (Qe _ e));have t8:JU m8 m5.objs.size xs[i] ys[i]:=c8.extBut _ _ (WA zl) (c7.extBut _ _ (WA zl) (Qw _ rfl));rw[sz]at z8 t8;refine IA ⟨_,rfl,?_⟩;change R (.ref m5.objs.size) _;rw[sz];exact end' m8 z8 (up _ _ D.TOz o5) (k1.at λo e=>up _ o D.i1z e) (k2.at λo e=>up _ o D.i2z e) t8 λc o y1 y2 y3 y4 e=>up c o y1 (up5 c o y1 y2 y3 y4 e)
def Dc (b1 b2:Bool)(quiet:A.handled=none)(D:ZipApart z TI TO i1 i2 l1 l2)(hz:JT s.heap z TI TO .none)(hI:JU s.heap TI (.ref i1) (.ref i2))(hO:JU s.heap TO a b)(h1:bH b1 s.heap i1 l1 i)(h2:bH b2 s.heap i2 l2 i)(q1:bQ b1 s.heap l1 xs)(q2:bQ b2 s.heap l2 ys)(hn:xs.size<=i\/ys.size<=i)(end':∀h' e,(∀c o,c≠z->c≠TO->c≠i1->c≠i2->s.heap.get? c=some o->h'.get? c=some o)->(∃o,h'.get? e=some o/\o.cls=.type "StopIteration")->E (.ref e) {s with heap:=h' }):
  Ic (Ie prog w) A (Builtin.«zip.__next__» ⟨[.ref z],[]⟩) R E s:=by
 apply Iu (m:=JQ (.ref z) 2);apply JR hz rfl (x:=.bool false) rfl;apply Iu (m:=JQ (.ref z) 3);apply JR hz rfl (x:=.ref TI) rfl;apply Iu;apply JS hI rfl;apply Iu (m:=Builtin.SmallTypes.ownedTupleIsFree (.ref z));unfold Builtin.SmallTypes.ownedTupleIsFree;refine Iu (JR hz rfl (x:=.none) rfl (IA ?_));simp only[if_true];refine Iu (JC (Iu (JR hz rfl (x:=.ref TO) rfl ?_)));refine Iu (JV hz (by simp) λm1 z1 c1=>?_);have z1:JT m1 z TI TO .ellipsis:=z1;apply Iu;simp only[VQ,List.zipIdx_nil,V0,VH];apply Iu;apply Iu;apply JW;apply Iu (m:=Builtin.SmallTypes.nextOf (.ref i1));by_cases hx:i<xs.size
 .have hy:ys.size<=i:=by lia
  refine lV b1 (h1.at λo e=>c1.extBut _ o D.i1z e) (q1.at λo e=>c1.extBut _ o D.l1z e) hx λm2 j1 c2=>IA ?_;have o2:JU m2 TO a b:=c2.extBut _ _ D.TOi1 (c1.extBut _ _ D.TOz hO);refine Iu (JS o2 rfl (Iu (JX o2 λm3 o3 c3=>?_)));refine Iu (JY (IA ?_));apply Iu;apply Iu;apply JW;apply Iu (m:=Builtin.SmallTypes.nextOf (.ref i2));refine oO b2 quiet (h2.at λo e=>c3.extBut _ o D.TOi2.symm (c2.extBut _ o D.i12.symm (c1.extBut _ o D.i2z e))) (q2.at λo e=>c3.extBut _ o D.l2TO (c2.extBut _ o D.l2i1 (c1.extBut _ o D.l2z e))) hy λm4 e c4 he=>?_;obtain⟨oe,ge,ce⟩:=he;have z4:JT m4 z TI TO .ellipsis:=c4 _ _ D.i2z.symm (c3.extBut _ _ D.TOz.symm (c2.extBut _ _ D.i1z.symm z1));have ez:e≠z:=λx=>by subst x;rw[z4]at ge;cases ge;simp at ce
  exact JV z4 (by simp) λm5 _ c5=>end' m5 e (λc o y1 y2 y3 y4 x=>c5.extBut _ _ y1 (c4 _ _ y4 (c3.extBut _ _ y2 (c2.extBut _ _ y3 (c1.extBut _ _ y1 x))))) ⟨oe,c5.extBut _ _ ez ge,ce⟩
 .refine oO b1 quiet (h1.at λo e=>c1.extBut _ o D.i1z e) (q1.at λo e=>c1.extBut _ o D.l1z e) (by lia) λm2 e c2 he=>?_;obtain⟨oe,ge,ce⟩:=he;have z2:JT m2 z TI TO .ellipsis:=c2 _ _ D.i1z.symm z1;have ez:e≠z:=λx=>by subst x;rw[z2]at ge;cases ge;simp at ce
  exact JV z2 (by simp) λm3 _ c3=>end' m3 e (λc o y1 y2 y3 y4 x=>c3.extBut _ _ y1 (c2 _ _ y3 (c1.extBut _ _ y1 x))) ⟨oe,c3.extBut _ _ ez ge,ce⟩
end
noncomputable def dE(b:Bool)(K:Qb)(H:Hp)(l:Addr)(xs:List V):Prop:=match b with
 |false=>bp K H l xs
 |true=>bN K H l xs
def Inv.sqB (I:Inv X pins σ H s)(b:Bool)(h:dE b X.K H l xs):∃its:List Value,aw xs its/\bQ b s.heap l its.toArray:=by
 cases b with
 |false=>obtain⟨its,r,p,_⟩:=I.list h;exact⟨its,r,p.isList⟩
 |true=>obtain⟨its,r,p,_⟩:=I.tuple h;exact⟨its,r,p⟩
def Inv.sqB_inj (I:Inv X pins σ H s)(b:Bool)(h:dE b X.K H l xs)(h':dE b X.K H l ys):xs=ys:=by
 cases b with
 |false=>exact I.list_inj h h'
 |true=>exact I.tuple_inj h h'
noncomputable def lr(b1 b2:Bool)(K:Qb)(l1 l2:Addr):It:=
 ⟨λi H=>∃xs ys x y,dE b1 K H l1 xs/\dE b2 K H l2 ys/\xs[i]?=some x/\ys[i]?=some y,
  λi H v H'=>∃x y,Yp H v H' x y/\(∀xs,dE b1 K H l1 xs->xs[i]?=some x)/\∀ys,dE b2 K H l2 ys->ys[i]?=some y,
  λi H=>∃xs ys,dE b1 K H l1 xs/\dE b2 K H l2 ys/\(xs.length<=i\/ys.length<=i)⟩
def Fm (b1 b2:Bool){K:Qb}(z TI TO i1 i2 l1 l2:Addr)(D:ZipApart z TI TO i1 i2 l1 l2):
  cY P w K (.Tuple elts k pt) (lr b1 b2 K l1 l2) [z,TI,TO,i1,i2] z (λi h=>JT h z TI TO .none/\JU h TI (.ref i1) (.ref i2)/\(∃a b,JU h TO a b)/\bH b1 h i1 l1 i/\bH b2 h i2 l2 i) where
 mem:=by simp
 obj:=λi h st b hb=>by
  obtain⟨hz,hI,⟨a,c,hO⟩,h1,h2⟩:=st;simp only[Qc,WL,or_false]at hb;rcases hb with rfl|rfl|rfl|rfl|rfl
  .exact ⟨_,hz,λv z=>by cases z⟩
  .exact ⟨_,hI,λv z=>by cases z⟩
  .exact ⟨_,hO,λv z=>by cases z⟩
  .exact h1.there
  .exact h2.there
 keep:=λi h h' st k=>by
  obtain⟨hz,hI,⟨a,c,hO⟩,h1,h2⟩:=st;exact⟨k z (by simp) _ hz,k TI (by simp) _ hI,⟨a,c,k TO (by simp) _ hO⟩,h1.at λo e=>k i1 (by simp) o e,h2.at λo e=>k i2 (by simp) o e⟩
 item:=by
  intro X hP hw hK hc i pins s σ H E I hf st hg;subst hP hw hK;obtain⟨xs,ys,x,y,s1,s2,hx,hy⟩:=hg;obtain⟨t1,r1,p1⟩:=I.sqB b1 s1;obtain⟨t2,r2,p2⟩:=I.sqB b2 s2;obtain⟨u,hu,ru⟩:=r1.get hx;obtain⟨v,hv,rv⟩:=r2.get hy;obtain⟨hz,hI,⟨a,b,hO⟩,h1,h2⟩:=st;have n1:i<t1.length:=(Qa.mp hu).1;have n2:i<t2.length:=(Qa.mp hv).1;have eu:t1.toArray[i]'(by simpa using n1)=u:=by simpa using (Qa.mp hu).2
  have ev:t2.toArray[i]'(by simpa using n2)=v:=by simpa using (Qa.mp hv).2
  have ty:s.TypeIs (.ref z) "zip":=⟨_,hz,rfl⟩;unfold Iy;apply Iu;apply JH;apply JO ty F.slot_zip_next;refine JP F.slot_zip_next ty F.entry_zip_next (Dd b1 b2 D hz hI hO h1 h2 p1 p2 (by simpa using n1) (by simpa using n2) λh' a1 a2 a3 a4 a5 hk=>?_) (F.args_zip_next_1 _);rw[eu,ev]at a2 a5;refine IA ⟨_,rfl,wpAny_letOwnedTupleGo_zip (s:={s with heap:=h' }) a1 λh'' hz' hs'=>?_⟩;have sT:z<s.heap.objs.size:=Qj hz;have kk:∀b o,b∉[z,TI,TO,i1,i2]->s.heap.get? b=some o->h''.get? b=some o:=λb o hb e=>
   (hs'.2 b λq=>hb (by simp[q])).trans (hk b o (λq=>hb (by simp[q])) (λq=>hb (by simp[q])) (λq=>hb (by simp[q])) (λq=>hb (by simp[q])) e)
  refine⟨.ref s.heap.objs.size,aI H s.heap.objs.size (.tup [x,y]),?_,rfl,⟨x,y,⟨_,I.hok.fresh (Qo _),rfl,rfl⟩,λzs hz=>by rw[I.sqB_inj b1 hz s1];exact hx,λzs hz=>by rw[I.sqB_inj b2 hz s2];exact hy⟩,?_,?_⟩
  .exact nO (s:=s) (t':=s.toks) (its:=[u,v]) I hf kk (Qo _) (show(2:Nat)<=sizeLine by decide) (.cons ru (.cons rv .nil)) ⟨_,(hs'.2 _ (WA sT)).trans a5,rfl,_,rfl⟩
  .refine ⟨hz',?_,⟨u,v,?_⟩,?_,?_⟩
   .exact (hs'.2 TI D.TIz).trans (hk TI _ D.TIz D.TITO D.TIi1 D.TIi2 hI)
   .exact (hs'.2 TO D.TOz).trans a2
   .exact a3.at λo e=>(hs'.2 i1 D.i1z).trans e
   .exact a4.at λo e=>(hs'.2 i2 D.i2z).trans e
  .intro b hb;have hlt:b<s.heap.objs.size:=by
    simp only[Qc,WL,or_false]at hb;obtain⟨_,e1,_⟩:=h1.there;obtain⟨_,e2,_⟩:=h2.there;rcases hb with rfl|rfl|rfl|rfl|rfl
    .exact sT
    .exact Qj hI
    .exact Qj hO
    .exact Qj e1
    .exact Qj e2
   rw[zg (QE hlt)];exact(hf b hb).1
 done:=by
  intro X hP hw hK hc i pins s σ H E I hf st hg;subst hP hw hK;obtain⟨xs,ys,s1,s2,hx⟩:=hg;obtain⟨t1,r1,p1⟩:=I.sqB b1 s1;obtain⟨t2,r2,p2⟩:=I.sqB b2 s2;obtain⟨hz,hI,⟨a,b,hO⟩,h1,h2⟩:=st;have e1:=r1.length;have e2:=r2.length;have ty:s.TypeIs (.ref z) "zip":=⟨_,hz,rfl⟩;unfold Iy;apply Iu;apply JH;apply JO ty F.slot_zip_next;refine JP F.slot_zip_next ty F.entry_zip_next (Dc b1 b2 (I.ok.hd hc) D hz hI hO h1 h2 p1 p2 ?_ λh' e hk he=>?_) (F.args_zip_next_1 _)
  .rcases hx with hx|hx
   .exact .inl (by simp;lia)
   .exact .inr (by simp;lia)
  .obtain ⟨o,ho,hc⟩:=he;apply Iu;refine wpAny_isInstance (T:="StopIteration") (b:=true) ⟨o,ho,hc⟩ isSubtype_stop ?_;exact IA ⟨rfl,I.turnedL (t':=s.toks) hf λb o hb e=>hk b o (λq=>hb (by simp[q])) (λq=>hb (by simp[q])) (λq=>hb (by simp[q])) (λq=>hb (by simp[q])) e⟩
 self:=λ_ _ _ _ _ st h=>wpAny_pyIter_zip st.1 h
section
variable{X:Cx}{elts:List Expr}{k:Nat}{pt:Pos}
noncomputable def oM(K:Qb)(ta:TA):TI:=λσ H R=>ta σ H λvs H1=>∃b1 b2 l1 l2 xs ys,vs=[.ref l1,.ref l2]/\dE b1 K H1 l1 xs/\dE b2 K H1 l2 ys/\R (lr b1 b2 K l1 l2) H1
def sR (hg:Gl X "zip")(hm:X.mg "zip"=none)(ha:PA X [a,b] ta)(hs:Ih [a,b] X.env=[(false,eval a X.env),(false,eval b X.env)]:=by rfl)(hs2:Ih [b] X.env=[(false,eval b X.env)]:=by rfl):
  PI X (.Tuple elts k pt) (.Call (.Name "zip" p) [a,b] [] pos) (oM X.K ta):=by
 intro pins s σ H R I h;refine Call_ (xf I hg hm PyProof.Rows.boot_zip (PyProof.Rows.callWith_type1 (aT (ha pos pins s σ H _ I h) λus s1 ⟨vs,H1,I1,r1,q1⟩=>?_) (by rw[hs,hs2]) (by rw[hs2];rfl)));obtain⟨b1,b2,l1,l2,xs,ys,e,g1,g2,q⟩:=q1;subst e;cases r1 with
 |cons r rr=>
  cases rr with
  |cons r' rr=>
   cases rr;cases r;cases r';obtain⟨its1,rv1,p1⟩:=I1.sqB b1 g1;obtain⟨its2,rv2,p2⟩:=I1.sqB b2 g2;have lt:∀b l its,bQ b s1.heap l its->l<s1.heap.objs.size:=λb l its p=>by
    cases b with
    |false=>obtain⟨o,e,_⟩:=p;exact Qj e
    |true=>obtain⟨o,e,_⟩:=p;exact Qj e
   refine Ey b1 b2 p1 p2 λh' hz hTI hTO hi1 hi2 hk=>?_;refine wpAny_pyIter_zip (s:={s1 with heap:=h' }) hz ?_;refine⟨_,_,_,_,H1,rfl,I1.kept (t':=s1.toks) hk,Fm b1 b2 (s1.heap.objs.size+4) (s1.heap.objs.size+2) (s1.heap.objs.size+3) s1.heap.objs.size (s1.heap.objs.size+1) l1 l2 (zipApart_new (lt b1 l1 _ p1) (lt b2 l2 _ p2)),⟨hz,hTI,⟨_,_,hTO⟩,hi1,hi2⟩,λb hb=>?_,q⟩;have hb':s1.heap.objs.size<=b:=by
    simp only[Qc,WL,or_false]at hb;rcases hb with rfl|rfl|rfl|rfl|rfl<;>first|exact Nat.le_add_right _ _|exact Qo _
   exact I1.fpOk hb' (I1.hok.fresh hb')
end
end L2
namespace Mini
open PySem PySem.Spec PyProof.Rows L2
section
variable{cl:Nat->List Wd->Me->Rz}{K:Qb}
def aK.updD{as:List Addr}{m:Me}{H:Hp}{D:Addr}{ys:List V}{o:HO}(S:aK K as m H)(hD:H D=some (.lst ys))(hn:D∉as):aK K as m (aI H D o):=by
 refine⟨S.len,S.nd,λl b ob h1 h2=>?_⟩;have q:=S.obj l b ob h1 h2;have hb:b≠D:=by rintro rfl;exact hn (Qt h1)
 cases ob with
 |lst zs=>
  obtain⟨us,e,r⟩:=q;exact⟨us,by rw[zg hb];exact e,r.kp (Kp.upd hD)⟩
def aK.join{as:List Addr}{m:Me}{H:Hp}{D:Addr}{ys:List V}{acc:List Wd}(S:aK K as m H)(hD:H D=some (.lst ys))(hn:D∉as)(R:ae K as H acc ys):aK K (as++[D]) (m++[.lst acc]) H:=by
 have g:∀(l:Nat) (a:Addr),as[l]?=some a->(as++[D])[l]?=some a:=λl a e=>by
  rw[Qi (Qa.mp e).1];exact e
 have kp:Kp K H H:=⟨λ_ _ h=>h,λ_ _ h=>h⟩;refine⟨by simp[S.len],?_,λl b o h1 h2=>?_⟩
 .refine QF.mpr ⟨S.nd,by simp,λx hx y hy=>?_⟩;rw[QH.mp hy];rintro rfl;exact hn hx
 .by_cases hl:l<as.length
  .rw[Qi hl]at h1;rw[Qi (by rw[<-S.len];exact hl)]at h2;have q:=S.obj l b o h1 h2;cases o with
   |lst zs=>
    obtain⟨us,e,r⟩:=q;exact⟨us,e,bj kp g _ _ r⟩
  .rw[Qd (by lia)]at h1;rw[Qd (by rw[<-S.len];lia)]at h2;have hz:l-as.length=0:=by
    cases hq:l-as.length with
    |zero=>rfl
    |succ k=>rw[hq]at h1;simp at h1
   rw[hz]at h1;rw[<-S.len,hz]at h2;simp at h1 h2;subst h1;subst h2;exact⟨ys,hD,bj kp g _ _ R⟩
def Step.updD{as as':List Addr}{H H':Hp}{D:Addr}{o:HO}(T:Step as H as' H')(hD:H D=none):Step as H as' (aI H' D o):=
 ⟨T.pre,λb ob h hb=>by rw[zg (zA h hD)];exact T.frame b ob h hb,T.fresh⟩
def Step.join{as as':List Addr}{H H':Hp}{D:Addr}(T:Step as H as' H')(hD:H D=none):Step as H (as'++[D]) H':=by
 refine⟨?_,T.frame,λa ha=>?_⟩
 .obtain ⟨t,rfl⟩:=T.pre;exact⟨t++[D],by simp⟩
 .rcases Qu.mp ha with z|z
  .exact T.fresh a z
  .rw[QH.mp z];exact .inr hD
def wf (S:aK K as' m H')(T:Step as H as' H')(h0:H D=none)(hD:H' D=some (.lst ys))(hn:D∉as')(R:ae K as' H' acc ys)(h:ao K as H Q (alloc m acc)):Q (.ref D) H':=by
 unfold Mini.alloc at h;split at h
 .refine h (as'++[D]) H' (.ref D) (T.join h0) (S.join hD hn R) (aD.mpr ⟨D,?_,rfl⟩);rw[<-S.len,Qd (Qo _)];simp
 .exact h.elim
structure cI(K:Qb)(as:List Addr)(H:Hp)(D:Addr)(env:En)(σ:St)(as':List Addr)(m':Me)(acc:List Wd)(ys:List V)(H':Hp):Prop where
 T:Step as H as' H'
 S:aK K as' m' H'
 hD:H' D=some (.lst ys)
 n:D∉as'
 R:ae K as' H' acc ys
 G:aB K as' H' env σ
def cI.go{as:List Addr}{H:Hp}{D:Addr}{env:En}{σ:St}{as' as2:List Addr}{m' m2:Me}{acc:List Wd}{ys:List V}{H' H2:Hp}(M:cI K as H D env σ as' m' acc ys H')(U:Step as' H' as2 H2)(S2:aK K as2 m2 H2):cI K as H D env σ as2 m2 acc ys H2:=
 ⟨M.T.trans U,S2,U.frame _ _ M.hD M.n,U.out M.hD M.n,M.R.mono M.S U,M.G.mono M.S U⟩
def cI.push{as:List Addr}{H:Hp}{D:Addr}{env:En}{σ:St}{as':List Addr}{m':Me}{acc:List Wd}{ys:List V}{H':Hp}{w:Wd}{v:V}(M:cI K as H D env σ as' m' acc ys H')(h0:H D=none)(R:ai K as' H' w v):
  cI K as H D env σ as' m' (acc++[w]) (ys++[v]) (aI H' D (.lst (ys++[v]))):=by
 have kp:Kp K H' (aI H' D (.lst (ys++[v]))):=Kp.upd M.hD;exact⟨M.T.updD h0,M.S.updD M.hD M.n,zf,M.n,(M.R.append (.one R)).kp kp,M.G.kp kp⟩
set_option tactic.hygienic true in
def vZ{elt cond:Ex}{tc:TT}(htc:∀σ H Q,xI K (ah cl cond) σ H Q->tc σ H Q){as1 as':List Addr}{H1 H':Hp}{D:Addr}{env ex:En}{σ sx:St}{m':Me}{acc:List Wd}{ys:List V}{Q:VK}{next:List Wd->Me->Rz}{N:List V->Hp->Prop}
  (h0:H1 D=none) (M:cI K as1 H1 D env σ as' m' acc ys H') (G:aB K as' H' (env++ex) (σ++sx))
  (Pt:ao K as1 H1 Q ((ah cl cond (env++ex) m').bind λb m1=>match b with
     |.bl true=>(ah cl elt (env++ex) m1).bind λy m2=>if acc.length<av then next (acc++[y]) m2 else .no
     |.bl false=>next acc m1
     |_=>.no))
  (hN:∀as2 m2 acc' ys' H2,Kp K H' H2->(∀(l:Nat) (a:Addr),as'[l]?=some a->as2[l]?=some a)->cI K as1 H1 D env σ as2 m2 acc' ys' H2->ao K as1 H1 Q (next acc' m2)->N ys' H2) :
  tc (σ++sx) H' λb H2=>if b=true then aL K (ah cl elt) (σ++sx) H2 λy H3=>H3 D=some (.lst ys)/\ys.length<sizeLine/\N (ys++[y]) (aI H3 D (.lst (ys++[y])))else N ys H2:=by
 refine htc _ _ _ ⟨as',env++ex,m',M.S,G,fU Pt M.T λwb m2 as2 H2 vb T2 S2 R2 P2=>?_⟩;have M2:=M.go T2 S2;cases wb with
 |bl k=>
  obtain rfl:=am.mp R2;refine⟨k,rfl,?_⟩;cases k with
  |false=>exact fA (hN as2 m2 acc ys H2 (M.S.kp T2) (λ_ _ e=>T2.get e) M2 P2)
  |true=>
   refine qm ⟨as2,env++ex,m2,S2,G.mono M.S T2,fU P2 M2.T λwy m3 as3 H3 vy T3 S3 R3 P3=>?_⟩;have M3:=M2.go T3 S3;have P3':ao K as1 H1 Q (if acc.length<av then next (acc++[wy]) m3 else .no):=P3;by_cases hl:acc.length<av
   .rw[Ka hl]at P3';refine⟨M3.hD,by rw[<-M3.R.length];exact Qk hl yR,hN as3 m3 (acc++[wy]) (ys++[vy]) _ ?_ (λ_ _ e=>T3.get (T2.get e)) (M3.push h0 R3) P3'⟩;have k1:=M.S.kp T2;have k2:=S2.kp T3;have k3:Kp K H3 (aI H3 D (.lst (ys++[vy]))):=Kp.upd M3.hD;exact⟨λa vs q=>k3.t _ _ (k2.t _ _ (k1.t _ _ q)),λa vs q=>k3.f _ _ (k2.f _ _ (k1.f _ _ q))⟩
   .rw[Kb hl]at P3';exact P3'.elim
 |_=>exact P2.elim
def cI.start{as as1:List Addr}{H H1:Hp}{D:Addr}{env:En}{σ:St}{m1:Me}(S1:aK K as1 m1 H1)(G1:aB K as1 H1 env σ)(hD:H1 D=none):cI K as1 H1 D env σ as1 m1 [] [] (aI H1 D (.lst [])):=by
 have T:Step as1 H1 as1 (aI H1 D (.lst [])):=Step.updD .refl hD;exact⟨T,S1.keep T λb _ o e=>by rw[zg (zA e hD)];exact e,zf,S1.new hD,ay.mpr rfl,G1.mono S1 T⟩
noncomputable def me(K:Qb)(as:List Addr)(H:Hp)(J:It)(g:Nat->Me->Option (Option (Wd×Wd))):Prop:=
 ∀(as':List Addr) (m':Me) (H':Hp),(∀(l:Nat) (a:Addr),as[l]?=some a->as'[l]?=some a)->Step as H as' H'->aK K as' m' H'->∀i,
  (g i m'=some none->J.stop i H')/\∀x y,g i m'=some (some (x,y))->J.go i H'/\∀v H'',J.yld i H' v H''->∃x' y',Yp H' v H'' x' y'/\ai K as' H' x x'/\ai K as' H' y y'
def jf {cond:Ex}{tc:TT}(htc:∀σ H Q,xI K (ah cl cond) σ H Q->tc σ H Q)(hJ:me K as1 H1 J g)(S1:aK K as1 m1 H1)(G1:aB K as1 H1 env σ)(P:ao K as1 H1 Q (yX (λu v m=>ah cl cond (env++[some u]++[some v]) m) (λu v m=>ah cl elt (env++[some u]++[some v]) m) g (av+1) 0 [] m1)):
  ∀D,H1 D=none->∃W:Nat->Nat->List V->Hp->Prop,(∃m,W 0 m [] (aI H1 D (.lst [])))/\∀i m ys H,W i m ys H ->
   (J.stop i H/\Q (.ref D) H)\/(J.go i H/\∀v H',J.yld i H v H'->∃vs,iL K v H' vs/\tc (σ++vs.map some) H' λb H2=>if b=true then aL K (ah cl elt) (σ++vs.map some) H2 λy H3=>H3 D=some (.lst ys)/\ys.length<sizeLine/\∃m',m'<m/\W (i+1) m' (ys++[y]) (aI H3 D (.lst (ys++[y])))
    else ∃m',m'<m/\W (i+1) m' ys H2):=by
 intro D hD;refine⟨λi n ys H'=>∃as' m' acc,(∀(l:Nat) (a:Addr),as1[l]?=some a->as'[l]?=some a)/\cI K as1 H1 D env σ as' m' acc ys H' /\
  ao K as1 H1 Q (yX (λu v m=>ah cl cond (env++[some u]++[some v]) m) (λu v m=>ah cl elt (env++[some u]++[some v]) m) g n i acc m'),⟨av+1,as1,m1,[],λ_ _ e=>e,cI.start (as:=as1) (H:=H1) S1 G1 hD,P⟩,?_⟩
 rintro i n ys H' ⟨as',m',acc,hl,M,Pi⟩;cases n with
 |zero=>exact Pi.elim
 |succ n=>
  unfold yX at Pi;obtain⟨q1,q2⟩:=hJ as' m' H' hl M.T M.S i;cases e:g i m' with
  |none=>rw[e]at Pi;exact Pi.elim
  |some o=>
   rw[e]at Pi;cases o with
   |none=>exact .inl ⟨q1 e,wf M.S M.T hD M.hD M.n M.R Pi⟩
   |some p=>
    obtain⟨x,y⟩:=p;simp only[]at Pi;obtain⟨go,yl⟩:=q2 x y e;refine .inr ⟨go,λv H'' hy=>?_⟩;obtain⟨x',y',⟨T,hT,rfl,rfl⟩,Rx,Ry⟩:=yl v H'' hy;refine⟨[x',y'],⟨T,rfl,bN.of zf,rfl⟩,?_⟩;have U:Step as' H' as' (aI H' T (.tup [x',y'])):=Step.updD .refl hT;have S2:aK K as' m' (aI H' T (.tup [x',y'])):=M.S.keep U λb _ o e=>by rw[zg (zA e hT)];exact e
    have M2:=M.go U S2;have G2:aB K as' (aI H' T (.tup [x',y'])) (env++[some x,some y]) (σ++[x',y'].map some):=by
     have:=(M2.G.push (Rx.mono M.S U)).push (Ry.mono M.S U);simpa using this
    refine vZ htc (ex:=[some x,some y]) (next:=λacc m=>yX (λu v m=>ah cl cond (env++[some u]++[some v]) m) (λu v m=>ah cl elt (env++[some u]++[some v]) m) g n (i+1) acc m)
     (N:=λzs H2=>∃n',n'<n+1/\∃as' m' acc,(∀(l:Nat) (a:Addr),as1[l]?=some a->as'[l]?=some a)/\cI K as1 H1 D env σ as' m' acc zs H2/\ao K as1 H1 Q (yX (λu v m=>ah cl cond (env++[some u]++[some v]) m) (λu v m=>ah cl elt (env++[some u]++[some v]) m) g n' (i+1) acc m')) hD M2 G2 (by rw[show env++[some x]++[some y]=env++[some x,some y]from by simp]at Pi;exact Pi) ?_
    intro as2 m2 acc' ys' H2 kp gg M3 P3;exact⟨n,W1 _,as2,m2,acc',λl a e=>gg _ _ (hl l a e),M3,P3⟩
noncomputable def c9(b:Bool)(K:Qb)(as:List Addr)(H:Hp)(w:Wd)(l:Addr):Prop:=match b with
 |false=>∃la,w=.ref la/\as[la]?=some l
 |true=>∃xs vs,w=.tup xs/\bN K H l vs/\ae K as H xs vs
def c9.now (h:c9 b K as H w l)(S:aK K as m H)(T:Step as H as' H')(S':aK K as' m' H')(e:vT m' w=some xs):∃vs,dE b K H' l vs/\ae K as' H' xs vs:=by
 cases b with
 |false=>
  obtain⟨la,rfl,ha⟩:=h;obtain⟨a',us,ha',eH,RL⟩:=zW S' (zN e);rw[T.get ha]at ha';cases ha';exact⟨us,bp.of eH,RL⟩
 |true=>
  obtain⟨ys,vs,rfl,q,r⟩:=h;cases e;exact⟨vs,(S.kp T).t _ _ q,r.mono S T⟩
theorem c9.of (S:aK K as m H)(R:ai K as H w v)(e:vT m w=some xs):∃b l vs,v=.ref l/\c9 b K as H w l/\dE b K H l vs:=by
 cases w with
 |tup ys=>
  obtain⟨l,vs,rfl,q,r⟩:=aj.mp R;exact⟨true,l,vs,rfl,⟨ys,vs,rfl,q,r⟩,q⟩
 |ref la=>
  obtain⟨l,ha,rfl⟩:=aD.mp R;obtain⟨a',us,ha',eH,RL⟩:=zW S (zN e);rw[ha]at ha';cases ha';exact⟨false,l,us,rfl,⟨la,rfl,ha⟩,bp.of eH⟩
 |_=>cases e
def FK (S0:aK K as m H)(h1:c9 b1 K as H w1 l1)(h2:c9 b2 K as H w2 l2):me K as H (lr b1 b2 K l1 l2) (zT .zip w1 w2):=by
 intro as' m' H' hl T S i;simp only[zT];cases e1:vT m' w1 with
 |none=>exact⟨λz=>by simp at z,λx y z=>by simp at z⟩
 |some xs=>
  cases e2:vT m' w2 with
  |none=>exact⟨λz=>by simp at z,λx y z=>by simp at z⟩
  |some ys=>
   obtain⟨us,q1,RL⟩:=h1.now S0 T S e1;obtain⟨vs,q2,RL2⟩:=h2.now S0 T S e2;simp only;cases ex:xs[i]? with
   |none=>
    refine⟨λ_=>⟨us,vs,q1,q2,.inl ?_⟩,λx y z=>by simp at z⟩;rw[<-RL.length];exact Wk.mp ex
   |some x=>
    cases ey:ys[i]? with
    |none=>
     refine⟨λ_=>⟨us,vs,q1,q2,.inr ?_⟩,λx y z=>by simp at z⟩;rw[<-RL2.length];exact Wk.mp ey
    |some y=>
     refine⟨λz=>by simp at z,λx2 y2 z=>?_⟩;simp only[Option.some.injEq,Prod.mk.injEq]at z;obtain⟨rfl,rfl⟩:=z;obtain⟨u0,hu0,Ru⟩:=RL.get ex;obtain⟨v0,hv0,Rv⟩:=RL2.get ey;refine⟨⟨us,vs,u0,v0,q1,q2,hu0,hv0⟩,λv H'' hy=>?_⟩;obtain⟨p,q,yp,k1,k2⟩:=hy;have:=k1 us q1;rw[hu0]at this;cases this;have:=k2 vs q2;rw[hv0]at this;cases this;exact⟨_,_,yp,Ru,Rv⟩
def qQ (ha:as[la]?=some a):me K as H (nI K c a) (zT .enum (.ref la) (.int (c:Int))):=by
 intro as' m' H' hl T S i;simp only[zT];cases e1:zC m' la with
 |none=>exact⟨λz=>by simp at z,λx y z=>by simp at z⟩
 |some xs=>
  obtain⟨a',us,ha',eH,RL⟩:=zW S (zN e1);rw[hl _ _ ha]at ha';cases ha';simp only;cases ex:xs[i]? with
  |none=>
   refine⟨λ_=>⟨us,bp.of eH,?_⟩,λx y z=>by simp at z⟩;rw[<-RL.length];exact Wk.mp ex
  |some x=>
   refine⟨λz=>by simp at z,λx2 y2 z=>?_⟩;simp only[QR,Option.some.injEq,Prod.mk.injEq]at z;obtain⟨rfl,rfl⟩:=z;obtain⟨u0,hu0,Ru⟩:=RL.get ex;refine⟨⟨us,u0,bp.of eH,hu0⟩,λv H'' hy=>?_⟩;obtain⟨p,yp,k1⟩:=hy;have:=k1 us (bp.of eH);rw[hu0]at this;cases this;exact⟨_,_,yp,aa.mpr (by congr 1;lia),Ru⟩
def eB:(Rz.ok w m).bind f=f w m:=rfl
def jg (h:g i m=none):yX c e g (k+1) i acc m=.no:=by
 unfold yX;rw[h]
set_option tactic.hygienic true in
def FJ (e:zT .zip w w2 i m=some o):∃xs ys,vT m w=some xs/\vT m w2=some ys:=by
 simp only[zT]at e;cases e1:vT m w with
 |none=>rw[e1]at e;cases e
 |some xs=>
  cases e2:vT m w2 with
  |none=>rw[e1,e2]at e;cases e
  |some ys=>exact⟨xs,ys,rfl,rfl⟩
set_option tactic.hygienic true in
def qR (e:zT .enum w w2 i m=some o):∃la xs,w=.ref la/\zC m la=some xs:=by
 unfold zT at e;split at e
 .next h=>cases h
 .next la s _=>
  split at e
  .next xs e1=>exact⟨la,xs,rfl,e1⟩
  .cases e
 .contradiction
 .contradiction
 .cases e
def jh {cond:Ex}(htc:∀σ H Q,xI K (ah cl cond) σ H Q->tc σ H Q)(h:aL K (ah cl (.compP .zip elt a b cond)) σ H Q):
  jS (iL K) (oM K (kO (aL K (ah cl a)) (kO (aL K (ah cl b)) fZ))) tc (aL K (ah cl elt)) σ H Q:=by
 obtain⟨as,env,m,S,G,P⟩:=h;have P':ao K as H Q ((ah cl a env m).bind λx m1=>(ah cl b env m1).bind λy m2=>
  yX (λu v m=>ah cl cond (env++[some u]++[some v]) m) (λu v m=>ah cl elt (env++[some u]++[some v]) m) (zT .zip x y) (av+1) 0 [] m2):=P
 refine⟨as,env,m,S,G,fU P' .refl λw m1 as1 H1 v T1 S1 R1 P1=>?_⟩;refine⟨as1,env,m1,S1,G.mono S T1,fU P1 T1 λw2 m2 as2 H2 v2 T2 S2 R2 P2=>?_⟩;have P3:=ao.step P2 (T1.trans T2);have G2:=(G.mono S T1).mono S1 T2;have look:∃xs ys,vT m2 w=some xs/\vT m2 w2=some ys:=by
  cases e:zT .zip w w2 0 m2 with
  |none=>rw[jg e]at P3;exact P3.elim
  |some o=>exact FJ e
 obtain⟨xs,ys,e1,e2⟩:=look;obtain⟨b1,l1,us,rfl,s1,q1⟩:=c9.of S2 (R1.mono S1 T2) e1;obtain⟨b2,l2,vs,rfl,s2,q2⟩:=c9.of S2 R2 e2;exact⟨b1,b2,l1,l2,us,vs,rfl,q1,q2,jf htc (FK S2 s1 s2) S2 G2 P3⟩
def FI {c:Nat}(hz:z=(c:Int)){cond:Ex}(htc:∀σ H Q,xI K (ah cl cond) σ H Q->tc σ H Q)(h:aL K (ah cl (.compP .enum elt a (.lit (.int z)) cond)) σ H Q):
  jS (iL K) (oP K c (kO (aL K (ah cl a)) fZ)) tc (aL K (ah cl elt)) σ H Q:=by
 subst hz;obtain⟨as,env,m,S,G,P⟩:=h;have hl:∀m1,ah cl (.lit (.int (c:Int))) env m1=.ok (.int (c:Int)) m1:=λ_=>rfl;have P':ao K as H Q ((ah cl a env m).bind λx m1=>(ah cl (.lit (.int (c:Int))) env m1).bind λy m2=>
  yX (λu v m=>ah cl cond (env++[some u]++[some v]) m) (λu v m=>ah cl elt (env++[some u]++[some v]) m) (zT .enum x y) (av+1) 0 [] m2):=P
 refine⟨as,env,m,S,G,fU P' .refl λw m1 as1 H1 v T1 S1 R1 P1=>?_⟩;rw[hl,eB]at P1;have P3:=ao.step P1 T1;have look:∃la xs,w=.ref la/\zC m1 la=some xs:=by
  cases e:zT .enum w (.int (c:Int)) 0 m1 with
  |none=>rw[jg e]at P3;exact P3.elim
  |some o=>exact qR e
 obtain⟨la,xs,rfl,e1⟩:=look;obtain⟨a1,ha1,rfl⟩:=aD.mp R1;obtain⟨a',us,ha',eH,RL⟩:=zW S1 (zN e1);rw[ha1]at ha';cases ha';exact⟨a1,us,rfl,bp.of eH,jf htc (qQ ha1) S1 (G.mono S T1) P3⟩
def Fl {cond:Ex}(htc:∀σ H Q,xI K (ah cl cond) σ H Q->tc σ H Q)(h:aL K (ah cl (.comp elt it cond)) σ H Q):
  jS mC (fM K (ah cl it)) tc (aL K (ah cl elt)) σ H Q:=by
 obtain⟨as,env,m,S,G,P⟩:=h;refine⟨as,env,m,S,G,?_⟩;have P':ao K as H Q ((ah cl it env m).bind λx m1=>match x with
  |.tup xs=>xl (λx m=>ah cl cond (env++[some x]) m) (λx m=>ah cl elt (env++[some x]) m) xs [] m1
  |.rol xs=>xl (λx m=>ah cl cond (env++[some x]) m) (λx m=>ah cl elt (env++[some x]) m) xs [] m1
  |.ref l=>xm (λx m=>ah cl cond (env++[some x]) m) (λx m=>ah cl elt (env++[some x]) m) l (av+1) 0 [] m1
  |_=>.no):=P
 clear P;cases hr:ah cl it env m with
 |no=>rw[hr]at P';exact P'
 |exc c w m'=>rw[hr]at P';exact P'
 |ok w m1=>
  rw[hr]at P';have start:∀{as1:List Addr}{H1:Hp}{D:Addr},Step as H as1 H1->aK K as1 m1 H1->H1 D=none->cI K as1 H1 D env σ as1 m1 [] [] (aI H1 D (.lst [])):=λ{as1 H1 D} T1 S1 hD=>cI.start (as:=as) (H:=H) S1 (G.mono S T1) hD
  -- over items that stay
  have seqs:∀(xs:List Wd),ao K as H Q (xl (λx m=>ah cl cond (env++[some x]) m) (λx m=>ah cl elt (env++[some x]) m) xs [] m1) ->
    ∀as1 H1 J,Step as H as1 H1->aK K as1 m1 H1->iF K as1 H1 J xs->∀D,H1 D=none->∃W:Nat->Nat->List V->Hp->Prop,(∃m,W 0 m [] (aI H1 D (.lst [])))/\∀i m ys H,W i m ys H ->
     (J.stop i H/\Q (.ref D) H)\/(J.go i H/\∀v H',J.yld i H v H'->∃vs,mC v H' vs/\tc (σ++vs.map some) H' λb H2=>if b=true then aL K (ah cl elt) (σ++vs.map some) H2 λy H3=>H3 D=some (.lst ys)/\ys.length<sizeLine/\∃m',m'<m/\W (i+1) m' (ys++[y]) (aI H3 D (.lst (ys++[y])))
      else ∃m',m'<m/\W (i+1) m' ys H2):=by
   intro xs Pc as1 H1 J T1 S1 hI D hD;obtain⟨vs,ok,hJ,ok1,RL,stab⟩:=hI;have Pc1:=ao.step Pc T1;have hlen:=RL.length;refine⟨λi n ys H'=>∃as' m' acc,i<=xs.length/\n=xs.length-i/\cI K as1 H1 D env σ as' m' acc ys H'/\ok H'/\ae K as' H' xs vs /\
    ao K as1 H1 Q (xl (λx m=>ah cl cond (env++[some x]) m) (λx m=>ah cl elt (env++[some x]) m) (xs.drop i) acc m'),
    ⟨xs.length,as1,m1,[],WI _,rfl,start T1 S1 hD,stab _ _ (S1.kp (start T1 S1 hD).T) ok1,RL.mono S1 (start T1 S1 hD).T,Pc1⟩,?_⟩
   rintro i n ys H' ⟨as',m',acc,hi,rfl,M,okH,RL',Pi⟩;by_cases hlt:i<xs.length
   .refine .inr ⟨hJ.go i H' okH (by rw[<-hlen];exact hlt),λv H'' hy=>?_⟩;obtain⟨rfl,hv⟩:=hJ.yld i H' v H'' okH (by rw[<-hlen];exact hlt) hy;obtain⟨v',hv',Rx⟩:=RL'.get (i:=i) (x:=xs[i]) (by simp[hlt]);rw[hv]at hv';cases hv';rw[QM hlt]at Pi;refine⟨[v],rfl,vZ htc (sx:=[some v]) (next:=λacc m=>xl (λx m=>ah cl cond (env++[some x]) m) (λx m=>ah cl elt (env++[some x]) m) (xs.drop (i+1)) acc m) (N:=λzs H2=>∃n',n'<xs.length-i/\∃as' m' acc,i+1<=xs.length/\n'=xs.length-(i+1)/\cI K as1 H1 D env σ as' m' acc zs H2/\ok H2/\ae K as' H2 xs vs/\ao K as1 H1 Q (xl (λx m=>ah cl cond (env++[some x]) m) (λx m=>ah cl elt (env++[some x]) m) (xs.drop (i+1)) acc m')) hD M (M.G.push Rx) Pi ?_⟩;intro as2 m2 acc' ys' H2 kp g M2 P2;exact⟨xs.length-(i+1),by lia,as2,m2,acc',hlt,rfl,M2,stab _ _ kp okH,bj kp g _ _ RL',P2⟩
   .have e:i=xs.length:=by lia
    subst e;rw[W0]at Pi;exact .inl ⟨hJ.stop _ H' okH (by lia),wf M.S M.T hD M.hD M.n M.R Pi⟩
  cases w with
  |tup xs=>exact⟨rfl,λas1 H1 J T1 S1 hI=>seqs xs P' as1 H1 J T1 S1 hI⟩
  |rol xs=>exact⟨rfl,λas1 H1 J T1 S1 hI=>seqs xs P' as1 H1 J T1 S1 hI⟩
  |ref l=>
   have P2:ao K as H Q (xm (λx m=>ah cl cond (env++[some x]) m) (λx m=>ah cl elt (env++[some x]) m) l (av+1) 0 [] m1):=P';refine⟨?_,λas1 H1 J T1 S1 hI D hD=>?_⟩
   .show (zC m1 l).isSome=true;cases e:zC m1 l with
    |some xs=>rfl
    |none=>
     unfold xm at P2;rw[e]at P2;exact P2.elim
   .obtain ⟨a,ha,rfl⟩:=hI;have Pc1:=ao.step P2 T1;refine⟨λi n ys H'=>∃as' m' acc,as'[l]?=some a/\cI K as1 H1 D env σ as' m' acc ys H' /\
     ao K as1 H1 Q (xm (λx m=>ah cl cond (env++[some x]) m) (λx m=>ah cl elt (env++[some x]) m) l n i acc m'),⟨av+1,as1,m1,[],ha,start T1 S1 hD,Pc1⟩,?_⟩
    rintro i n ys H' ⟨as',m',acc,hl,M,Pi⟩;cases n with
    |zero=>exact Pi.elim
    |succ n=>
     unfold xm at Pi;cases e:zC m' l with
     |none=>rw[e]at Pi;exact Pi.elim
     |some xs=>
      rw[e]at Pi;simp only[]at Pi;obtain⟨a',vs,ha',eH,RL⟩:=zW M.S (zN e);rw[hl]at ha';cases ha';cases ex:xs[i]? with
      |none=>
       rw[ex]at Pi;have hle:vs.length<=i:=by rw[<-RL.length];exact Wk.mp ex
       exact .inl ⟨⟨vs,bp.of eH,hle⟩,wf M.S M.T hD M.hD M.n M.R Pi⟩
      |some x=>
       rw[ex]at Pi;obtain⟨v0,hv0,Rx⟩:=RL.get ex;refine .inr ⟨⟨vs,v0,bp.of eH,hv0⟩,λv H'' hy=>?_⟩;obtain⟨rfl,hy⟩:=hy;have:=hy vs (bp.of eH);rw[hv0]at this;cases this;refine⟨[v0],rfl,vZ htc (sx:=[some v0]) (next:=λacc m=>xm (λx m=>ah cl cond (env++[some x]) m) (λx m=>ah cl elt (env++[some x]) m) l n (i+1) acc m) (N:=λzs H2=>∃n',n'<n+1/\∃as' m' acc,as'[l]?=some a/\cI K as1 H1 D env σ as' m' acc zs H2/\ao K as1 H1 Q (xm (λx m=>ah cl cond (env++[some x]) m) (λx m=>ah cl elt (env++[some x]) m) l n' (i+1) acc m')) hD M (M.G.push Rx) Pi ?_⟩;intro as2 m2 acc' ys' H2 kp g M2 P2;exact⟨n,W1 _,as2,m2,acc',g _ _ hl,M2,P2⟩
  |non=>exact P'.elim
  |bl k=>exact P'.elim
  |int i=>exact P'.elim
  |str s=>exact P'.elim
end
end Mini
namespace Mini
open PySem L2
end Mini
namespace Mini
open PySem PySem.Spec PyProof.Rows L2
section
noncomputable def HN(t u:Tg)(w:Wd)(m:Me):Rz:=(dI (dw t w m) m).bind λx m1=>match x with
 |.bl false=>dI (dw u w m1) m1
 |.bl true=>.ok (.bl true) m1
 |_=>.no
end
end Mini
namespace L2
open PySem PySem.Spec PyProof.Rows
end L2
namespace PySem
open Sem (wp)
open AutoSeq1 (wpAny_loadPart')
end PySem
namespace L2
open PySem PySem.Spec PyProof.Rows
end L2
namespace Mini
open PySem PySem.Spec PyProof.Rows L2
end Mini
namespace L2
open PySem PySem.Spec PyProof.Rows
end L2
namespace Mini
open PySem PySem.Spec PyProof.Rows L2
end Mini
namespace L2
open PySem PySem.Spec PyProof.Rows
open PySem.W (KatTups KatLex KatGo kat_lt kat_cons kat_nil kat_go kat_yes kat_no kat_kind)
section
variable{prog:HS}{w:HU}{A:HY}{E:Value->Shared->Prop}{s:Shared}
noncomputable def oo(A:HY)(s:Shared)(vs out:List Value):Prop:=∃key:Value->List Int,(∀x∈vs,∀y∈vs,fT (tuples' true) A s x y (HT.lexLt (key x) (key y)))/\(vs.map key).Nodup/\out.Perm vs/\out.Pairwise λx y=>HT.lexLt (key x) (key y)=false
noncomputable def lq(s:Shared)(vs:List Value):Prop:=∃fs:List Value,KatTups s.heap vs fs/\fs.length=vs.length/\∀v∈fs,∃i t,v=.int i t
def Ab (h:lq s vs)(h2:2<=vs.length)(q:Q (tuples' true) s):Ic (Ie prog w) A (keyKind' vs.toArray) Q E s:=by
 obtain⟨fs,t,hl,hi⟩:=h;refine kat_kind (T:=.type "int") t (by lia) (λv hv=>?_) (by decide) (by
  have:(Value.type "int" != Value.type "tuple")=true:=by decide
  rw[this];exact q)
 obtain⟨i,k,rfl⟩:=hi v hv;exact .of_pure rfl
theorem ji:∀vs:List Value,vs.zip vs=vs.map λx=>(x,x)
 |[]=>rfl
 |v::r=>Ke ((v,v)::·) (ji r)
def Db(vs:List Value):(vs.toArray.zip vs.toArray).reverse=vs.reverse.toArray.zip vs.reverse.toArray:=by
 apply Array.ext';rw[VF,Array.toList_zip,Array.toList_zip];rw[ji,ji,Vh]
def jj (ho:s.heap.get? a=some (JJ "list" vs.toArray n))(hz:vs.length<=sizeLine)(hr:∀s':Shared,(∀b o,b≠a->s.heap.get? b=some o->s'.heap.get? b=some o)->lq s' vs/\oo A s' vs out)(h:P (.done (.ret .none)) {s with heap:=sortedHeap s.heap a vs out.toArray}):
  Ic (Ie prog w) A (Builtin.«list.sort» ⟨[.ref a],[(Str.ofString "reverse",.bool true)]⟩) P E s:=by
 rw[list_sort_rev];have ha:a<s.heap.objs.size:=Qj ho;have hzs:vs.toArray.size<=sizeLine:=by simpa using hz
 refine Iu (listItems_at ho rfl ?_);refine Iu (JZ ho rfl ?_ hzs (by simp));obtain⟨e1,ho1⟩:∃e1,(s.heap.update a (Obj.mapSeq λ_=>#[])).get? a=some (JJ "list" #[] e1):=⟨_,JL ho (λ_=>#[])⟩;refine Iu (J0 ho1 rfl (Iu (wpAny_newTuple (Iu (wpAny_newList (Iv ?_))))));have ho6:(((s.heap.update a (Obj.mapSeq λ_=>#[])).push (JJ "tuple" vs.toArray 0)).push (JJ "list" #[] 0)).get? a=some (JJ "list" #[] e1):=by
  rw[Heap.get?_push_ne _ _ _ (by rw[JK,Vy];exact QE (WJ ha)),Heap.get?_push_ne _ _ _ (by rw[Vy];exact QE ha)];exact ho1
 obtain⟨hA,hR⟩:=hr {s with heap:=((s.heap.update a (Obj.mapSeq λ_=>#[])).push (JJ "tuple" vs.toArray 0)).push (JJ "list" #[] 0)} λb o hb e=>by
  refine Qe _ (Qe _ ?_);rw[W6 _ _ _ _ hb];exact e
 show Ic (Ie prog w) A _ P E {s with heap:=((s.heap.update a (Obj.mapSeq λ_=>#[])).push (JJ "tuple" vs.toArray 0)).push (JJ "list" #[] 0)};simp only[if_true];refine Iu (JC ?_);obtain⟨key,r1,r2,r3,r4⟩:=hR;have hol:out.length=vs.length:=r3.length_eq;rw[Db];by_cases h2:vs.toArray.size<2
 .rw[Ka h2,Ka h2];refine Iu (IA ?_);rw[StateT.run_pure];refine Iu (IA ?_);dsimp only;have e0:((vs.reverse.toArray.zip vs.reverse.toArray).map (·.2)).reverse=out.toArray:=by
   rw[Ef (by simpa using h2) r3];apply Array.ext';have:=Ke List.reverse (rT vs.reverse);simpa using this
  refine Iu (J0 ho6 rfl ?_);refine Iu (JZ ho6 rfl ?_ (by simp) (by show(((vs.reverse.toArray.zip vs.reverse.toArray).map (·.2)).reverse).size<=_;rw[e0];simp;lia));simp only[bne_self_eq_false,Q0,if_false];rw[show((Jy (SortSt.mk' general' (vs.reverse.toArray.zip vs.reverse.toArray) #[] 7 none)).map (·.2)).reverse=out.toArray from e0];exact IA h
 .rw[Kb h2,Kb h2];have hm:∀{x},x∈vs.reverse->x∈vs:=λh=>Vt.mp h;refine Iu (Ab hA (by simp at h2;lia) ?_);refine Iu (Ii (gK (key:=key) (vs:=vs.reverse) (out:=out.reverse) (Q:=λ_ st'=>(Jy st').map (·.2)=out.reverse.toArray/\JA st'=none) (by simp at h2 ⊢;lia) (λx hx y hy=>r1 x (hm hx) y (hm hy)) (by rw[Vh];exact WU.mpr (r2.imp Ne.symm)) ((Vq _).trans (r3.trans (Vq _).symm)) (WU.mpr r4) λst' a1 a2=>⟨a1,a2⟩) ?_ λ_ _ e=>e);rintro⟨⟨⟩,st'⟩ s' ⟨rfl,hp,hf⟩;have hp':((Jy st').map (·.2)).reverse=out.toArray:=by rw[hp];simp
  dsimp only;refine Iu (J0 ho6 rfl ?_);refine Iu (JZ ho6 rfl ?_ (by simp) (by show((Jy st').map (·.2)).reverse.size<=_;rw[hp'];simp;lia));rw[hf];simp only[bne_self_eq_false,Q0,if_false];rw[hp'];exact IA h
def qS (hl:s.heap.IsList l vs.toArray)(hz:vs.length<=sizeLine)(hr:∀s':Shared,(∀b o,s.heap.get? b=some o->s'.heap.get? b=some o)->lq s' vs/\oo A.in1.in1 s' vs out)(h:Q (.ref (s.heap.objs.size+1)) {s with heap:=JI s.heap vs out.toArray}):
  Ic (Ie prog w) A (call (.builtin "sorted") [.ref l] [(Str.ofString "reverse",.bool true)]) Q E s:=by
 refine call_function_entry_kw kind_sorted plain_sorted entry_sorted (args_sorted_rev _ _) ?_;unfold Builtin.«sorted»;refine Iu (m:=checkCount "sorted" 1 1 _) (IA ?_);refine Iu (collect_list hl ?_ hz);refine Iu (wpAny_newList ?_);have hsz:((s.heap.push (JJ "list" #[] 0)).update s.heap.objs.size (Obj.mapSeq (·++vs.toArray))).objs.size=s.heap.objs.size+1:=by
  rw[Vy,JK]
 have hoL:(((s.heap.push (JJ "list" #[] 0)).update s.heap.objs.size (Obj.mapSeq (·++vs.toArray))).push (JJ "list" vs.toArray 0)).get? (s.heap.objs.size+1)=some (JJ "list" vs.toArray 0):=by
  rw[<-hsz];exact Qw _ rfl
 have hk:∀b o,s.heap.get? b=some o->(((s.heap.push (JJ "list" #[] 0)).update s.heap.objs.size (Obj.mapSeq (·++vs.toArray))).push (JJ "list" vs.toArray 0)).get? b=some o:=by
  intro b o e;refine Qe _ ?_;rw[W6 _ _ _ _ (QE (Qj e))];exact Qe _ e
 show Ic _ _ _ _ _ {s with heap:=((s.heap.push (JJ "list" #[] 0)).update s.heap.objs.size (Obj.mapSeq (·++vs.toArray))).push (JJ "list" vs.toArray 0)};rw[hsz];refine Iu (Iv (wpAny_call_entry_kw slot_list_sort ⟨_,hoL,rfl⟩ entry_list_sort (jj (out:=out) hoL hz (λs' k=>hr s' λb o e=>k b o (QE (WJ (Qj e))) (hk b o e)) ⟨_,rfl,?_⟩) (args_list_sort_rev _ _)));exact IA ⟨_,rfl,h⟩
end
end L2
namespace L2
open PySem PySem.Spec PyProof.Rows
open PySem.SeqAt PySem.MeetsSeq PySem.MeetsSeq2 PySem.MeetsSeq3
open PySem.W (KatTups KatLex KatGo kat_lt kat_cons kat_nil kat_go kat_yes kat_no)
theorem oK:∀(k1 k2:List Int) (l1 l2:List Value) (i:Nat),k1.length=k2.length->aw (k1.map V.int) l1->aw (k2.map V.int) l2->Q (HT.lexLt k1 k2) s->KatLex prog w A true false Q (l1.zip l2) i s
 |[],[],_,_,_,_,.nil,.nil,q=>kat_nil q
 |[],_::_,_,_,_,h,_,_,_=>by cases h
 |_::_,[],_,_,_,h,_,_,_=>by cases h
 |a::k1,b::k2,_,_,i,h,.cons (l₂:=l1) ⟨t,e1⟩ p1,.cons (l₂:=l2) ⟨u,e2⟩ p2,q=>by
  subst e1 e2;rw[HT.bi]at q;refine kat_cons (EqAt.int_int a t b u prog w _ _ ?_);by_cases e:a=b
  .rw[Ka e]at q;rw[show(a==b)=true by simp[e]];exact kat_yes (oK k1 k2 l1 l2 (i+1) (Nat.succ.inj h) p1 p2 q)
  .rw[Kb e]at q;rw[show(a==b)=false by simp[e]];refine kat_no ?_;cases i with
   |zero=>exact oneLt_int q
   |succ i=>
    rw[show(true&&i+1==0)=false by simp,oneLt'_eq];simp only[Q0,if_false];exact Iu (HT.dH A s a t b u prog w _ _ (Im q))
def fT.tup{A:HY}{s:Shared}{x y:Addr}{l1 l2:List Value}{k1 k2:List Int}(hx:s.heap.IsTuple x l1.toArray)(hy:s.heap.IsTuple y l2.toArray)(h1:aw (k1.map V.int) l1)(h2:aw (k2.map V.int) l2)(hl:k1.length=k2.length):
  fT (tuples' true) A s (.ref x) (.ref y) (HT.lexLt k1 k2):=λprog w E Q q=>by
 obtain⟨o,ho,_,n,hd⟩:=hx;obtain⟨o',ho',_,n',hd'⟩:=hy;have e1:=h1.length;have e2:=h2.length;rw[Qv]at e1 e2;refine kat_lt ho hd ho' hd' ?_;rw[show decide (l1.toArray.size<l2.toArray.size)=false by simp;lia];exact oK k1 k2 l1 l2 0 hl h1 h2 q
end L2
namespace L2
open PySem PySem.Spec PyProof.Rows
noncomputable def om(K:Qb)(H:Hp)(bs cs:List Addr):Prop:=∃(ks:List (List Int)) (n:Nat),0<n/\ks.length=bs.length/\(∀(i:Nat) b k,bs[i]?=some b->ks[i]?=some k->k.length=n/\bN K H b (k.map V.int)) /\
 ks.Nodup/\∃ps:List (List Int×Addr),ps.Perm (ks.zip bs)/\cs=ps.map Prod.snd/\ps.Pairwise λx y=>HT.lexLt x.1 y.1=false
section
variable{X:Cx}
def Es (r:aw ((a::l).map V.int) its):∃t us,its=.int a t::us:=by
 cases r with
 |cons p q=>obtain⟨t,rfl⟩:=p;exact⟨t,_,rfl⟩
theorem ol{s:Shared}:∀{bs:List Addr}{f:Addr->Value},(∀b∈bs,∃o xs n,s.heap.get? b=some o/\o.cls=.type "tuple" /\ o.data=.seq xs n/\xs[0]?=some (f b))->PySem.W.KatTups s.heap (bs.map Value.ref) (bs.map f)
 |[],_,_=>.nil
 |b::bs,f,h=>by
  obtain⟨o,xs,n,h1,h2,h3,h4⟩:=h b (by simp);exact .cons h1 h2 h3 h4 (ol λc hc=>h c (by simp[hc]))
def Er (I:Inv X pins σ H s)(hq:bp X.K H p (bs.map V.ref))(hr:om X.K H bs cs)(q:∀l,H l=none->Q (.ref l) (aI H l (.lst (cs.map V.ref)))):
  Ic (Ie X.prog X.w) X.A (call (.builtin "sorted") [.ref p] [(Str.ofString "reverse",.bool true)]) (EP X pins σ Q) X.xe s:=by
 obtain⟨ks,n,hn0,hl,hk,hkd,ps,hps,rfl,hpp⟩:=hr;obtain⟨its,r',pl,hz⟩:=I.list hq;obtain rfl:=jY r';rw[Qv]at hz;have hbd:bs.Nodup:=by
  unfold VA;rw[Wj];intro i j hi hj hij e';have hi':i<ks.length:=by lia
  have hj':j<ks.length:=by lia
  obtain⟨_,q1⟩:=hk i bs[i] ks[i] (by simp[hi]) (by simp[hi']);obtain⟨_,q2⟩:=hk j bs[j] ks[j] (by simp[hj]) (by simp[hj']);rw[e']at q1;have:=I.tuple_inj q1 q2;have e:ks[i]=ks[j]:=(List.map_inj_right λa b h=>by cases h;rfl).mp this;exact Wj.mp hkd i j hi' hj' hij e
 have hpm:(ps.map Prod.snd).Perm bs:=by
  have:=hps.map Prod.snd
  rwa[List.map_snd_zip (by lia)]at this
 have hso:(ps.map Prod.snd).Pairwise λx y=>HT.lexLt ((ks[bs.idxOf x]?).getD []) ((ks[bs.idxOf y]?).getD [])=false:=by
  have hm:∀p∈ps,(ks[bs.idxOf p.2]?).getD []=p.1:=λp hp=>by
   obtain⟨i,hi⟩:=QB (hps.mem_iff.mp hp);obtain⟨h1,h2⟩:=WD.mp hi;obtain⟨h3,h4⟩:=Qa.mp h2;rw[<-h4,hbd.idxOf_getElem i h3,h1];rfl
  rw[Wf];refine hpp.imp_of_mem λ{a b} ha hb h=>?_;rw[hm a ha,hm b hb];exact h
 have hcs:(ps.map Prod.snd).length=bs.length:=hpm.length_eq;clear hpp hps;generalize ps.map Prod.snd=cs at *
 have at':∀b∈bs,∃(i:Nat) (k:List Int),bs[i]?=some b/\ks[i]?=some k/\(ks[bs.idxOf b]?).getD []=k/\k.length=n/\bN X.K H b (k.map V.int):=λb hb=>by
  obtain⟨i,hi⟩:=QB hb;obtain⟨h3,h4⟩:=Qa.mp hi;have hk':ks[i]?=some (ks[i]'(by lia)):=by simp
  obtain⟨g1,g2⟩:=hk i b _ hi hk';exact⟨i,_,hi,hk',by rw[<-h4,hbd.idxOf_getElem i h3,hk'];rfl,g1,g2⟩
 refine qS (out:=cs.map Value.ref) pl.isList (by simpa using hz) (λs' kp=>?_) ?_
 .have tp:∀b∈bs,∃its:List Value,aw (((ks[bs.idxOf b]?).getD []).map V.int) its/\s'.heap.IsTuple b its.toArray:=λb hb=>by
   obtain⟨i,k,_,_,e,_,g⟩:=at' b hb;obtain⟨its,r,p,_⟩:=I.tuple g;obtain⟨o,ho,hc,m,hd⟩:=(show s.heap.IsTuple b its.toArray from p);exact⟨its,by rw[e];exact r,o,kp _ _ ho,hc,m,hd⟩
  have fst:∀b∈bs,∃t,∃o xs n,s'.heap.get? b=some o/\o.cls=.type "tuple" /\ o.data=.seq xs n/\xs[0]?=some (Value.int (((ks[bs.idxOf b]?).getD []).getD 0 0) t):=λb hb=>by
   obtain⟨its,r,o,ho,hc,m,hd⟩:=tp b hb;obtain⟨i,k,_,_,e,g1,_⟩:=at' b hb;rw[e]at r ⊢;cases k with
   |nil=>simp at g1;lia
   |cons a l=>
    obtain⟨t,us,rfl⟩:=Es r;exact⟨t,o,_,m,ho,hc,hd,by simp⟩
  classical
  refine⟨⟨bs.map λb=>if h:b∈bs then Value.int (((ks[bs.idxOf b]?).getD []).getD 0 0) (Classical.choose (fst b h))else .none,ol λb hb=>?_,by simp,λv hv=>?_⟩,λv=>match v with
   |.ref b=>(ks[bs.idxOf b]?).getD []
   |_=>[],λx hx y hy=>?_,?_,hpm.map _,by rw[Wf];exact hso⟩
  .rw[dif_pos hb];exact Classical.choose_spec (fst b hb)
  .obtain ⟨b,hb,rfl⟩:=Wq.mp hv;exact⟨_,_,dif_pos hb⟩
  .obtain ⟨b1,hb1,rfl⟩:=Wq.mp hx;obtain⟨b0,hb0,rfl⟩:=Wq.mp hy;obtain⟨i1,r1,p1⟩:=tp b1 hb1;obtain⟨i0,r0,p0⟩:=tp b0 hb0;obtain⟨_,_,_,_,e1,g1,_⟩:=at' b1 hb1;obtain⟨_,_,_,_,e0,g0,_⟩:=at' b0 hb0;exact fT.tup p1 p0 r1 r0 (show((ks[bs.idxOf b1]?).getD []).length=((ks[bs.idxOf b0]?).getD []).length by rw[e1,e0,g1,g0])
  .rw[Wn];have:bs.map (λb=>(ks[bs.idxOf b]?).getD [])=ks:=by
    apply Q8;intro i;rw[Ql];by_cases hi:i<bs.length
    .have hb:bs[i]?=some bs[i]:=by simp[hi]
     rw[hb];show some ((ks[bs.idxOf bs[i]]?).getD [])=_;rw[hbd.idxOf_getElem i hi];simp[show i<ks.length by lia]
    .rw[Qm (by lia),Qm (by lia)];rfl
   exact(show(bs.map λb=>(ks[bs.idxOf b]?).getD []).Nodup by rw[this];exact hkd)
 .exact FN I (by rw[hcs];exact hz) q
noncomputable def uH(K:Qb)(te:TE):TE:=λσ H Q=>te σ H λx H1=>∃p bs cs,x=.ref p/\bp K H1 p (bs.map V.ref)/\om K H1 bs cs/\∀l,H1 l=none->Q (.ref l) (aI H1 l (.lst (cs.map V.ref)))
def Da (hg:Gl X "sorted")(hm:X.mg "sorted"=none)(he:PE X e te)(hs:Ih [e] X.env=[(false,eval e X.env)]:=by rfl):
  PE X (.Call (.Name "sorted" p) [e] [⟨some "reverse",.Constant (.bool true) k pc,pk⟩] pos) (uH X.K te):=by
 intro pins s σ H Q I h;refine IS (xf I hg hm boot_sorted ?_);refine PyProof.Rows.callWith_kw ?_ (by rw[hs];rfl) (by rw[hs];rfl);rw[hs];refine Calls.spliced_cons (aT (he pins s σ H _ I h) λv s1 ⟨x,H1,I1,r1,q1⟩=>?_);obtain⟨p,bs,cs,rfl,hq,hr,q⟩:=q1;cases r1;refine Calls.spliced_nil (kws_cons (wpAny_Constant_bool (kws_nil ?_)));exact Er I1 hq hr q
end
end L2
namespace PySem
section
def Fk:typeLookup (.type "list_reverseiterator") "__len__"=pure none:=by rw[typeLookup_type,J1];kernel_rfl
def DA:typeLookup (.type "list_reverseiterator") "__length_hint__"=pure (some (.builtin "list_reverseiterator.__length_hint__")):=by rw[typeLookup_type,J1];kernel_rfl
variable{prog:HS}{w:HU}{A:HY}{s:Shared}{R:IM->Shared->Prop}{I l:Addr}{items:Array Value}
abbrev lp(items:Array Value):Nat->Value->Prop:=λi v=>items[items.size-1-i]?=some v
def FH(hh:A.in1.handled=none)(hne:l≠I)(hit:s.heap.IsRevIter I l ((items.size:Int)-1))(hl:s.heap.IsList l items)(S:Addr)(res:Value)(c₀:Nat)(hS1:S≠I)(hS2:S≠l)
  (hS:s.heap.get? S=some {cls:=.type "list",data:=.seq #[] c₀})
  (hR:∀(s':Shared) acc c',Moved [S,I] (λa b=>b=a) s s'->s'.heap.get? S=some {cls:=.type "list",dict:=none,data:=.seq acc c',slots:=#[]}->ItemsOf (lp items) acc items.size->R (.ok (.ret res)) s') (hn:items.size<=sizeLine) :
  Ic (Ie prog w) A.in1 (Builtin.List.listExtendWith (.ref S) (.ref I) res)
   (λfin s'=>match fin with |.done f=>R (.ok f) s' |.again c'=>c'.quiet=true/\IQ (Ie prog w) A c' R s') (λe s'=>R (.error e) s') s:=by
 have W:=(Walks.listRev (prog:=prog) (w:=w) hh I l hne items).toS;have hst:(0:Nat)<=items.size/\s.heap.IsRevIter I l ((items.size:Int)-1-((0:Nat):Int))/\s.heap.IsList l items:=⟨WI _,by simpa using hit,hl⟩;have h1:Builtin.List.listSameRef (.ref S) (.ref I)=false:=by simp[Builtin.List.listSameRef,hS1]
 unfold Builtin.List.listExtendWith;refine Iu (wpAny_typeOf hit.typeIs ?_);rw[Kb (by rw[h1];decide)];refine Iu (W.self 0 _ _ _ hst (Iu (Iv ?_)));unfold Builtin.List.listLengthHint;refine Iu (Jq hit.typeIs Fk ?_);show Ic _ A.in1 (specialOf (Value.ref I) (Str.ofString "__length_hint__") >>= _) _ _ _;refine Iu (Jq hit.typeIs DA ?_);generalize hid:("list_reverseiterator.__length_hint__":String)=id0
 wp_delta
 rw[show splitId id0=some ("list_reverseiterator","__length_hint__")from by subst hid;decide +kernel];subst hid;refine Iu (wpAny_isInstance (b:=true) hit.typeIs (by rw[isSubtype_type];kernel_rfl) (IA ?_));rw[Kb (by decide)];refine IA ⟨plainId_quiet F.plain_extend_loop _,codeAny_extend_loopS W hn S (by simp[hS1,hS2]) _ items.size 0 _ _ _ rfl (WI _) hst hS (ItemsOf.nil _) λs' acc' c' hm hS' hacc=>?_⟩;exact hR s' acc' c' hm hS' hacc
def jF (hh:A.handled=none)(hne:l≠I)(hit:s.heap.IsRevIter I l ((items.size:Int)-1))(hl:s.heap.IsList l items)(hn:items.size<=sizeLine)(hQ:∀(h':HV) (tk:Nat) acc c',(∀b o,b≠I->s.heap.get? b=some o->h'.get? b=some o)->h'.get? s.heap.objs.size=some {cls:=.type "list",dict:=none,data:=.seq acc c',slots:=#[]}->ItemsOf (lp items) acc items.size->Q (.ref s.heap.objs.size) {s with heap:=h',toks:=tk}):
  Ic (Ie prog w) A (call (.type "list") [.ref I]) Q E s:=by
 have hI:I<s.heap.objs.size:=by obtain⟨o,ho,_⟩:=hit;exact Qj ho
 have hL:l<s.heap.objs.size:=by obtain⟨o,ho,_⟩:=hl;exact Qj ho
 refine callType_codes (Q₁:=λobj s₁=>obj=.ref s.heap.objs.size/\s₁={s with heap:=s.heap.push {cls:=.type "list",data:=.seq #[]} }) F.called_list (F.typeCall_list_1 _) F.entry_list_init
  (code_list_new _ ⟨rfl,rfl⟩) λobj s₁ h₁=>?_
 obtain⟨rfl,rfl⟩:=h₁;have hS:(s.heap.push {cls:=.type "list",data:=.seq #[]}).get? s.heap.objs.size=some {cls:=.type "list",data:=.seq #[]}:=Qw _ rfl;refine⟨⟨_,hS,rfl⟩,F.args_list_init_2 _ _,?_⟩;show Ic _ _ (do let old <-Builtin.List.listItems (.ref s.heap.objs.size);Builtin.List.listUpdate (.ref s.heap.objs.size) (λ_=>#[]);letGo old.toList.reverse;Builtin.List.listExtendWith (.ref s.heap.objs.size) (.ref I) .none) _ _ _;refine Iu ?_;unfold Builtin.List.listItems;refine Iu (JS hS rfl (IA ?_));show Ic _ _ (updateSeq s.heap.objs.size (λ_=>#[]) >>= λ_=>letGo (#[]:Array Value).toList.reverse >>= λ_=>Builtin.List.listExtendWith (.ref s.heap.objs.size) (.ref I) .none) _ _ _;refine Iu (wpAny_updateSeq hS rfl ?_);have hS₂:=VE (Obj.mapSeq (λ_=>(#[]:Array Value))) hS rfl;have oth:∀b o,s.heap.get? b=some o->((s.heap.push {cls:=.type "list",data:=.seq #[]}).update s.heap.objs.size (Obj.mapSeq (λ_=>(#[]:Array Value)))).get? b=some o:=
  λb o e=>(VB _ _ (WA (Qj e))).trans (Qe _ e)
 refine Iu (JY ?_);refine FH (A:=A.in1) hh hne (hit.at λo e=>oth _ _ e) (hl.at λo e=>oth _ _ e) _ .none _ (WA hI) (WA hL) hS₂ (λs' acc c' hm hS' hacc=>?_) hn;obtain⟨h',g',d',tk,os'⟩:=s';obtain⟨m1,m2,m3,m4,_⟩:=hm;simp only at m1 m2 m3 m4;subst m2 m3 m4;exact⟨rfl,hQ h' tk acc c' (λb o hb e=>m1 b o (by simp[hb,QE (Qj e)]) (oth b o e)) hS' hacc⟩
end
end PySem
namespace L2
open PySem PySem.Spec PyProof.Rows
section
variable{X:Cx}
noncomputable def mJ(K:Qb)(ta:TA):TE:=λσ H Q=>ta σ H λvs H1=>∃a xs,vs=[.ref a]/\bp K H1 a xs/\∀l,H1 l=none->Q (.ref l) (aI H1 l (.lst xs.reverse))
def Fj {its:List Value}(h:ItemsOf (lp its.toArray) acc its.toArray.size):acc.toList=its.reverse:=by
 have hz:acc.size=its.length:=by simpa using h.1
 apply Q8;intro i;by_cases hi:i<its.length
 .have h1:acc[i]?=some acc[i]:=by simp[hz,hi]
  have h2:=h.2 i acc[i] h1;rw[WV hi,QG,h1,<-h2];simp
 .rw[Qm (by simp;lia),Qm (by simp;lia)]
def Aa (hc:X.calm=true)(hgl:Gl X "list")(hml:X.mg "list"=none)(hg:Gl X "reversed")(hm:X.mg "reversed"=none)(ha:PA X [a] ta)(hs:Ih [a] X.env=[(false,eval a X.env)]:=by rfl):
  PE X (.Call (.Name "list" p) [.Call (.Name "reversed" p') [a] [] pos'] [] pos) (mJ X.K ta):=by
 intro pins s σ H Q I h;refine IS (xf I hgl hml PyProof.Rows.boot_list ?_ (by decide) (by decide));refine PyProof.Rows.callWith_type1 ?_ rfl rfl;refine Calls.spliced_cons ?_;refine Call_ (xf I hg hm boot_reversed (PyProof.Rows.callWith_type1 (aT (ha pos' pins s σ H _ I h) λus s1 ⟨vs,H1,I1,r1,q1⟩=>?_) hs rfl));obtain⟨a,xs,rfl,hx,q⟩:=q1;obtain⟨u,rfl,ru⟩:=r1.one;cases ru;obtain⟨its,r,pl,hz⟩:=I1.list hx;have hlen:=r.length;refine call_reversed_list pl.isList (Calls.spliced_nil ?_);have I2:Inv X pins σ H1 {s1 with heap:=s1.heap.push (revObj a ((its.toArray.size:Int)-1))}:=I1.kept (t':=s1.toks) λb o e=>Qe _ e;have hlt:a<s1.heap.objs.size:=by obtain⟨o,ho,_⟩:=pl.isList;exact Qj ho
 refine jF (I1.ok.hd hc) (QE hlt) ⟨_,Qw _ rfl,rfl,rfl⟩ (pl.isList.at λo e=>Qe _ e) (by simp;lia) λh' tk acc c' kp e hacc=>?_;have I3:=I1.laid (h':=h') (t':=tk) (a:=(s1.heap.push (revObj a ((its.toArray.size:Int)-1))).objs.size) (λb o e=>kp b o (QE (Qj e)) (Qe _ e)) (by rw[JK];exact Vb _) (show br X.prog X.w _ h' _ (.lst xs.reverse)from⟨by rw[VI];exact hz,acc.toList,c',by rw[Fj hacc];exact r.reverse,by simpa using e⟩);exact⟨.ref _,_,I3,rfl,q _ (I1.hok.fresh (by rw[JK];exact Vb _))⟩
end
noncomputable def F4(K:Qb)(v:V)(H:Hp)(vs:List V):Prop:=∃a,v=.ref a/\bN K H a vs/\vs.length=3
def jk{α:Type}{l:List α}(h:l.length=3):∃a b c,l=[a,b,c]:=by
 match l,h with
 |[a,b,c],_=>exact⟨a,b,c,rfl⟩
def Fi (hc:X.calm=true)(B:bz X scope [x,y,z]):fR X scope [x,y,z] (.Tuple [.Name x px,.Name y py,.Name z pz] k pt) (fC X.K 3 (xk (yA X.N.length) (xk (yA (X.N.length+1)) (xk (yA (X.N.length+2)) eW)))) (F4 X.K):=by
 refine⟨λXc c h=>?_,λv H vs os σ hσ ho hv=>?_⟩
 .have nd:Xc.N.Nodup:=by rw[c.N];exact B.nd
  rw[<-c.K];exact kL c.calm (yi (ym nd (by rw[c.N];exact yq X.N [x,y,z] 0) (h x (by simp)).1 (h x (by simp)).2) (yi (ym nd (by rw[c.N];exact yq X.N [x,y,z] 1) (h y (by simp)).1 (h y (by simp)).2) (yi (ym nd (by rw[c.N];exact yq X.N [x,y,z] 2) (h z (by simp)).1 (h z (by simp)).2) vm)))
 .obtain ⟨a,e1,e2,e3⟩:=hv;obtain⟨u,w,t,rfl⟩:=jk e3;obtain⟨o,p,q,rfl⟩:=jk ho;refine⟨rfl,a,[u,w,t],e1,e2,rfl,u,[w,t],rfl,w,[t],rfl,t,[],rfl,rfl,?_,rfl⟩;rw[<-hσ,WB _ _ (Qo _),WB _ _ (by lia),WB _ _ (by lia)];simp
end L2
namespace Mini
open PySem PySem.Spec PyProof.Rows L2
section
variable{cl:Nat->List Wd->Me->Rz}{X:Cx}{K:Qb}{a:Ex}{x:Expr}{pos:Pos}{as:List Addr}{H:Hp}{m:Me}
def z9 (hc:X.calm=true)(hgl:Gl X "list")(hml:X.mg "list"=none)(hg:Gl X "reversed")(hm:X.mg "reversed"=none)(hs:zu x=true)(ha:PE X x (aL X.K (ah cl a))):
  PE X (.Call (.Name "list" p) [.Call (.Name "reversed" p') [x] [] pos'] [] pos) (aL X.K (ah cl (.dop .rvl a .unit .unit))):=by
 refine PE.imp (Aa hc hgl hml hg hm (zB ha yo (zm hs)) (zm hs)) λσ H Q h=>?_;obtain⟨as,env,m,S,G,P⟩:=h;refine⟨as,env,m,S,G,ao.bind P λw m1 as1 H1 v T1 S1 R1 P1=>?_⟩;have P2:ao X.K as1 H1 Q (fx .rvl w (.tup []) (.tup []) m1):=P1;have P4:ao X.K as1 H1 Q (match kS m1 w with
  |some xs=>alloc m1 xs.reverse
  |none=>.no):=P2
 cases hr:kS m1 w with
 |none=>rw[hr]at P4;exact P4.elim
 |some xs=>
  rw[hr]at P4;obtain⟨p,vs,rfl,hq,r⟩:=lU S1 R1 hr;obtain⟨_,h2⟩:=xR S1 r.reverse P4;exact⟨p,vs,rfl,hq,h2⟩
set_option tactic.hygienic true in
theorem sQ:∀{ws:List Wd}{ks:List (List Int)}{vs:List V},qy ws=some ks->ae K as H ws vs->∃bs:List Addr,vs=bs.map V.ref/\ks.length=bs.length/\∀(i:Nat) b k,bs[i]?=some b->ks[i]?=some k->k.length=3/\bN K H b (k.map V.int)
 |[],ks,vs,h,r=>by
  cases h;rw[ay.mp r];exact⟨[],rfl,rfl,λi b k e=>by simp at e⟩
 |w::ws,ks,vs,h,r=>by
  obtain⟨v,r',rfl,q,t⟩:=ak.mp r;cases w with
  |tup us=>
   unfold qy at h;cases e1:ww us with
   |none=>simp only[e1]at h;cases h
   |some k=>
    cases e2:qy ws with
    |none=>simp only[e1,e2]at h;cases h
    |some ks'=>
     obtain⟨bs,rfl,hl,hb⟩:=sQ e2 t;simp only[e1,e2]at h;split at h
     .next z1 z2=>
      cases z1;cases z2;cases h;obtain⟨c,cs,rfl,hq,hr⟩:=aj.mp q;have:=jU e1 hr;subst this;refine⟨c::bs,rfl,by simp[hl],λi b k e e'=>?_⟩;cases i with
      |zero=>simp at e e';subst e;subst e';exact⟨rfl,hq⟩
      |succ i=>exact hb i b k (by simpa using e) (by simpa using e')
     .cases h
  |_=>cases h
end
theorem sP (f:α->β)(p:List Int×α):∀l:List (List Int×α),(kT p l).map (λq=>(q.1,f q.2))=kT (p.1,f p.2) (l.map λq=>(q.1,f q.2))
 |[]=>rfl
 |q::r=>by
  show(if dJ p.1 q.1 then p::q::r else q::kT p r).map _=if dJ p.1 q.1 then _ else _;split
  .rfl
  .rw[Wm,sP f p r]
theorem qT (f:α->β):∀l:List (List Int×α),(xb l).map (λq=>(q.1,f q.2))=xb (l.map λq=>(q.1,f q.2))
 |[]=>rfl
 |p::r=>by rw[Wm,wJ,wJ,sP,qT f r]
def Dz (hl:ks.length=bs.length)(h:wx (List Int) (ks.map (0::·)) ks=some es):
  ∃ps:List (List Int×Addr),ps.Perm (ks.zip bs)/\ps.map Prod.fst=es.reverse/\(ps.Pairwise λx y=>HT.lexLt x.1 y.1=false)/\ks.Nodup:=by
 rw[qw]at h;have e1:(xb (((ks.map (0::·)).zip (ks.zip bs)))).map (λq=>(q.1,q.2.1))=xb ((ks.map (0::·)).zip ks):=by
  rw[qT];congr 1;clear h
  induction ks generalizing bs with
  |nil=>rfl
  |cons k ks ih=>
   cases bs with
   |nil=>cases hl
   |cons b bs=>exact Ke ((0::k,k)::·) (ih (Nat.succ.inj hl))
 rw[<-e1]at h;have hk:∀q∈xb ((ks.map (0::·)).zip (ks.zip bs)),q.1=0::q.2.1:=λq hq=>by
  obtain⟨i,hi⟩:=QB ((xr _).mem_iff.mp hq);obtain⟨a1,a2⟩:=WD.mp hi;obtain⟨a3,_⟩:=WD.mp a2;rw[Ql,a3]at a1;exact(Option.some.inj a1).symm
 have hp:=xr ((ks.map (0::·)).zip (ks.zip bs));generalize xb ((ks.map (0::·)).zip (ks.zip bs))=Z at *
 cases hr:kr ((Z.map λq=>(q.1,q.2.1)).map Prod.fst)with
 |false=>rw[hr,Kb QZ]at h;cases h
 |true=>
  rw[hr,Ka rfl]at h;cases h;have pw:=(rN hr).1;rw[Wf]at pw;have hs:((ks.map (0::·)).zip (ks.zip bs)).map Prod.snd=ks.zip bs:=List.map_snd_zip (by simp;lia);have lt:∀{x y:List Int×(List Int×Addr)},x∈Z->y∈Z->HT.lexLt x.1 y.1=true->HT.lexLt x.2.1 y.2.1=true:=λ{x y} hx hy q=>by
   rw[hk x hx,hk y hy,HT.bi,Ka rfl]at q;exact q
  have q1:=hp.map Prod.snd;rw[hs]at q1;refine⟨(Z.map Prod.snd).reverse,(Vq _).trans q1,?_,?_,?_⟩
  .rw[Vh,Wn,Wn];rfl
  .rw[WU,Wf];refine pw.imp_of_mem λ{x y} hx hy q=>?_;have q':=lt hx hy q;cases e:HT.lexLt y.2.1 x.2.1 with
   |false=>rfl
   |true=>have:=yZ _ _ _ q' e;rw[xx]at this;cases this
  .have nd:(Z.map λq=>q.2.1).Nodup:=by
    unfold VA;rw[Wf];refine pw.imp_of_mem λ{x y} hx hy q e=>?_;have q':=lt hx hy q;rw[e,xx]at q';cases q'
   have:=q1.map Prod.fst;rw[Wn,List.map_fst_zip (by lia)]at this;exact this.nodup_iff.mp nd
section
variable{cl:Nat->List Wd->Me->Rz}{X:Cx}{a:Ex}{x:Expr}{pos:Pos}
noncomputable def fJ(k:List Int):Wd:=.tup [.int (k.getD 1 0),.int (k.getD 2 0)]
set_option tactic.hygienic true in
def zk (hc:X.calm=true)(hg:Gl X "sorted")(hm:X.mg "sorted"=none)(B:bz X scope [h,i,j])(vi:fm (Jm scope X.env) i)(vj:fm (Jm scope X.env) j)(oi:zL i=true)(oj:zL j=true)(hs:zu x=true)(ha:PE X x (aL X.K (ah cl a))):
  PE X (.ListComp (.Tuple [.Name i pi',.Name j pj'] kt' pt') [⟨.Tuple [.Name h ph,.Name i pi,.Name j pj] kt pt,.Call (.Name "sorted" q) [x] [⟨some "reverse",.Constant (.bool true) ck cp,kp⟩] q2,[],0⟩] scope pos) (aL X.K (ah cl (.dop .srt a .unit .unit))):=by
 obtain⟨n1,n2,_⟩:=wK oi;obtain⟨m1,m2,_⟩:=wK oj;have body:∀Xc,bB X scope [h,i,j] Xc->PE Xc (.Tuple [.Name i pi',.Name j pj'] kt' pt') (nU (kO (hZ (X.N.length+1)) (kO (hZ (X.N.length+2)) fZ))):=λXc c=>
  mi (zB (kK (by rw[c.N];exact yq X.N [h,i,j] 1) (by rw[c.sc];exact vi) n1 n2) (zB (kK (by rw[c.N];exact yq X.N [h,i,j] 2) (by rw[c.sc];exact vj) m1 m2) yo))
 intro pins s σ H Q I h;refine kF B hc (Fi hc B) (r9 (Da hg hm ha (zm hs))) (λXc c=>⟨vq,body Xc c⟩) (λ_=>rfl) pins s σ H Q I ?_;have hσ:σ.length=X.N.length:=I.len;obtain⟨as,env,m,S,G,P⟩:=h;refine⟨as,env,m,S,G,ao.bind P λw m1 as1 H1 v T1 S1 R1 P1=>?_⟩;have P2:ao X.K as1 H1 Q (fx .srt w (.tup []) (.tup []) m1):=P1;have P4:ao X.K as1 H1 Q (match ie w m1 with
  |some ks=>match wx (List Int) (ks.map (0::·)) ks with
   |some es=>alloc m1 (es.reverse.map fJ)
   |none=>.no
  |none=>.no):=P2
 clear P P1 P2;cases hr:ie w m1 with
 |none=>rw[hr]at P4;exact P4.elim
 |some ks=>
  rw[hr]at P4;simp only at P4;cases ht:wx (List Int) (ks.map (0::·)) ks with
  |none=>rw[ht]at P4;exact P4.elim
  |some es=>
   rw[ht]at P4;simp only at P4;cases w with
   |ref l=>
    have hr':(zC m1 l).bind qy=some ks:=hr;obtain⟨xs,h1,h2⟩:=Q2.mp hr';obtain⟨p,hp,rfl⟩:=aD.mp R1;obtain⟨p',us,hp',e,r⟩:=zW S1 (zN h1);rw[hp]at hp';cases hp';obtain⟨bs,rfl,hl,hb⟩:=sQ h2 r;obtain⟨ps,hps,hpe,hpp,hnd⟩:=Dz hl ht;refine⟨p,bs,ps.map Prod.snd,rfl,bp.of e,⟨ks,3,by lia,hl,hb,hnd,ps,hps,rfl,hpp⟩,λl' hl'=>⟨l',rfl,⟨_,bp.of zf⟩,λD hD=>?_⟩⟩;have tri:∀(i:Nat) p,ps[i]?=some p->∃x y z,p.1=[x,y,z]/\bN X.K H1 p.2 [.int x,.int y,.int z]:=λi p hi=>by
     obtain⟨n,hn⟩:=QB (hps.mem_iff.mp (Qt hi));obtain⟨z1,z2⟩:=WD.mp hn;obtain⟨z3,z4⟩:=hb n _ _ z2 z1;obtain⟨x,y,z,e⟩:=jk z3;rw[e]at z4;exact⟨x,y,z,e,z4⟩
    have hlen:ps.length<=av:=by
     have e3:ps.length=es.length:=by have:=Ke List.length hpe;simpa using this
     unfold Mini.alloc at P4;split at P4
     .next z=>simp at z;lia
     .exact P4.elim
    have hlD:l'≠D:=by rintro rfl;rw[zf]at hD;cases hD
    have T0:Step as1 H1 as1 (aI H1 l' (.lst ((ps.map Prod.snd).map V.ref))):=Step.updD .refl hl';have S0:=S1.keep T0 λb _ o e=>by rw[zg (zA e hl')];exact e
    have hD1:H1 D=none:=by rw[zg (Ne.symm hlD)]at hD;exact hD
    refine⟨λi n ys H'=>n+i=ps.length/\H' l'=some (.lst ((ps.map Prod.snd).map V.ref))/\cI X.K as1 H1 D env σ as1 m1 ((ps.take i).map λp=>fJ p.1) ys H',⟨ps.length,by lia,by rw[zg hlD];exact zf,?_⟩,?_⟩
    .have M:=cI.start (as:=as1) (H:=H1) S0 (G.mono S (T1.trans T0)) hD;exact⟨T0.trans M.T,M.S,M.hD,M.n,M.R,M.G⟩
    .rintro i n ys H' ⟨hn,hH,M⟩;cases n with
     |zero=>
      refine .inl ⟨⟨_,bp.of hH,by simp;lia⟩,wf M.S M.T hD1 M.hD M.n M.R ?_⟩;rw[QL (by lia)];rw[show ps.map (λp=>fJ p.1)=es.reverse.map fJ by rw[<-hpe,Wn];rfl];exact P4
     |succ n=>
      obtain⟨p,hp⟩:∃p,ps[i]?=some p:=⟨ps[i]'(by lia),by simp⟩;obtain⟨x,y,z,e1,e2⟩:=tri i p hp;have hpi:((ps.map Prod.snd).map V.ref)[i]?=some (.ref p.2):=by rw[Ql,Ql,hp];rfl
      refine .inr ⟨⟨_,_,bp.of hH,hpi⟩,λv H'' hy=>?_⟩;obtain⟨rfl,hy⟩:=hy;have:=hy _ (bp.of hH);rw[hpi]at this;cases this;refine⟨[.int x,.int y,.int z],⟨p.2,rfl,(S1.kp M.T).t _ _ e2,rfl⟩,?_⟩;refine qm ⟨.int y,by rw[Qd (by lia),hσ];simp,.int z,by rw[Qd (by lia),hσ];simp,by simp[IK],λt ht=>?_⟩;obtain⟨T2,S2,R2⟩:=M.S.tup ht ((ae.one (aa.mpr rfl)).append (.one (aa.mpr rfl)):ae X.K as1 H'' [.int y,.int z] [.int y,.int z]);have M2:=M.go T2 S2;have hlt:l'≠t:=by rintro rfl;rw[ht]at hH;cases hH
      refine⟨M2.hD,?_,n,W1 _,by lia,by rw[zg hlD,zg hlt];exact hH,?_⟩
      .have:=M.R.length;have hz:=yR;simp at this;lia
      .have M3:=M2.push hD1 R2;rw[QY,hp,W9];rw[show(some p).toList.map (λp=>fJ p.1)=[Wd.tup [.int y,.int z]] by simp[fJ,e1]];exact M3
   |_=>cases hr
end
section
variable{cl:Nat->List Wd->Me->Rz}
def bY.pe (h:bY cl X e (.e x))(hr:zw e=false):PE X x (aL X.K (ah cl e)):=(h.1 hr).1
def bY.pt (h:bY cl X e (.e x))(hr:zw e=false)(hi:jd e=false):PT X x (xI X.K (ah cl e)):=(h.1 hr).2.1 hi
def bY.pw (h:bY cl X e (.e (.BoolOp op vs pos)))(hr:zw e=false):PW X (.BoolOp op vs pos) (xI X.K (ah cl e)):=(h.1 hr).2.2 op vs pos rfl
def bY.pa (h:bY cl X e (.a xs)):PA X xs (vY X.K (ah cl e)):=h
def gM (h:qK sc x=true):fm sc x:=by
 unfold qK at h;simp only[WR,Kh]at h;exact h
def yn (h:cn sc x=true):sc.names.lookup x=some .globalImplicit:=Kg h
def sO {K:Qb}(hv:∀as H,ai K as H w v):∀σ H Q,aL K (ah cl (.lit w)) σ H Q->tC v σ H Q:=λσ H Q h=>by
 obtain⟨as,env,m,S,G,P⟩:=h;exact ao.ok (m:=m) P S (hv as H)
def v4 (hs:y6 y=true):∀v,II y env v=pure v:=λv=>by
 cases y<;>first|rfl|cases hs
structure aF(C:Ctx)(sc:HP)(N:List Str)(e:Ex)(n:Nd):Prop where
 h:∀(cl:Nat → List Wd → Me → Rz) (d:Nat) (X:Cx),aY C X cl d → X.env.scope=sc → X.N=N → bY cl X e n
def yS (h:aF C sc N e n):∀X:Cx,aY C X cl d->X.env.scope=sc->X.N=N->bY cl X e n:=h.h cl d
def aF.«var»{C:Ctx}{sc:HP}{N:List Str}{i:Nat}{x:Str}{p:Pos}(h1:N[i]?=some x)(h2:qK sc x=true)(h3:zL x=true):aF C sc N (.var i) (.e (.Name x p)):=by
 constructor;intro cl d;intro X hC es eN;subst es;subst eN;obtain⟨n1,n2,_⟩:=wK h3;refine bY.of (PE.imp (kK h1 (gM h2) n1 n2) λσ H Q q=>?_);obtain⟨as,env,m,S,G,P⟩:=q;cases hw:env[i]? with
 |none=>have P':ao X.K as H Q (match env[i]? with|some (some w)=>.ok w m|_=>.no):=P;rw[hw]at P';exact P'.elim
 |some o=>
  cases o with
  |none=>have P':ao X.K as H Q (match env[i]? with|some (some w)=>.ok w m|_=>.no):=P;rw[hw]at P';exact P'.elim
  |some w=>
   have P':ao X.K as H Q (match env[i]? with|some (some w)=>.ok w m|_=>.no):=P;rw[hw]at P';obtain⟨v,hv,R⟩:=G.get i w hw;exact⟨v,hv,ao.ok (m:=m) P' S R⟩
def aF.«bl»{C:Ctx}{sc:HP}{N:List Str}{b:Bool}{k}{p:Pos}:aF C sc N (.lit (.bl b)) (.e (.Constant (.bool b) k p)):=by
 constructor;intro cl d;intro X hC es eN;exact bY.of (PE.imp oY (sO λ_ _=>am.mpr rfl))
def aF.«int»{C:Ctx}{sc:HP}{N:List Str}{i:Int}{k}{p:Pos}:aF C sc N (.lit (.int i)) (.e (.Constant (.int i) k p)):=by
 constructor;intro cl d;intro X hC es eN;exact bY.of (PE.imp AG (sO λ_ _=>aa.mpr rfl))
def aF.«bin»{C:Ctx}{sc:HP}{N:List Str}{op:Bo}{a b:Ex}{x y:Expr}{p:Pos}(ra:zw a=false)(ha:aF C sc N a (.e x))(rb:zw b=false)(hb:aF C sc N b (.e y)):aF C sc N (.bin op a b) (.e (.BinOp x (mU op) y p)):=by
 constructor;intro cl d;have iha:=ha.h cl d;have ihb:=hb.h cl d;intro X hC es eN;exact bY.of (Br ((iha X hC es eN).pe ra) ((ihb X hC es eN).pe rb))
def aF.«neg»{C:Ctx}{sc:HP}{N:List Str}{a:Ex}{x:Expr}{p:Pos}(ra:zw a=false)(ha:aF C sc N a (.e x)):aF C sc N (.neg a) (.e (.UnaryOp .USub x p)):=by
 constructor;intro cl d;have iha:=ha.h cl d;intro X hC es eN;exact bY.of (Bm ((iha X hC es eN).pe ra))
def aF.«not»{C:Ctx}{sc:HP}{N:List Str}{a:Ex}{x:Expr}{p:Pos}(ra:zw a=false)(ia:jd a=false)(ha:aF C sc N a (.e x)):aF C sc N (.not a) (.e (.UnaryOp .Not x p)):=by
 constructor;intro cl d;have iha:=ha.h cl d;intro X hC es eN;have s1:=iha X hC es eN;exact⟨λ_=>⟨rD (s1.pe ra),λ_=>Bl (s1.pt ra ia),λop vs pos z=>by cases z⟩,λtg=>jc (rD (s1.pe ra))⟩
def aF.«and2»{C:Ctx}{sc:HP}{N:List Str}{a b:Ex}{x y:Expr}{p:Pos}(ra:zw a=false)(ia:jd a=false)(ha:aF C sc N a (.e x))(rb:zw b=false)(ib:jd b=false)(hb:aF C sc N b (.e y)):aF C sc N (.and a b) (.e (.BoolOp .And [x,y] p)):=by
 constructor;intro cl d;have iha:=ha.h cl d;have ihb:=hb.h cl d;intro X hC es eN;have sa:=iha X hC es eN;have sb:=ihb X hC es eN;have e:=λ(p:Pos)=>Bk (pos:=p) (sa.pe ra) (l9 (sb.pe rb));have w:=λ(p:Pos)=>Bj (pos:=p) (sa.pt ra ia) (Cr (sb.pt rb ib));exact⟨λ_=>⟨e _,λ_=>(w _).pt,λop vs pos z=>by cases z;exact w _⟩,λtg=>jc (e _)⟩
def aF.«or2»{C:Ctx}{sc:HP}{N:List Str}{a b:Ex}{x y:Expr}{p:Pos}(ra:zw a=false)(ia:jd a=false)(ha:aF C sc N a (.e x))(rb:zw b=false)(ib:jd b=false)(hb:aF C sc N b (.e y)):aF C sc N (.or a b) (.e (.BoolOp .Or [x,y] p)):=by
 constructor;intro cl d;have iha:=ha.h cl d;have ihb:=hb.h cl d;intro X hC es eN;have sa:=iha X hC es eN;have sb:=ihb X hC es eN;have e:=λ(p:Pos)=>oR (pos:=p) (sa.pe ra) (l9 (sb.pe rb));have w:=λ(p:Pos)=>oQ (pos:=p) (sa.pt ra ia) (AB (sb.pt rb ib));exact⟨λ_=>⟨e _,λ_=>(w _).pt,λop vs pos z=>by cases z;exact w _⟩,λtg=>jc (e _)⟩
def aF.«orN»{C:Ctx}{sc:HP}{N:List Str}{a b:Ex}{x y z:Expr}{r:List Expr}{p:Pos}(ra:zw a=false)(ia:jd a=false)(ha:aF C sc N a (.e x))(rb:zw b=false)(hb:aF C sc N b (.e (.BoolOp .Or (y::z::r) p))):aF C sc N (.or a b) (.e (.BoolOp .Or (x::y::z::r) p)):=by
 constructor;intro cl d;have iha:=ha.h cl d;have ihb:=hb.h cl d;intro X hC es eN;have sa:=iha X hC es eN;have sb:=ihb X hC es eN;have e:=oR (sa.pe ra) (sb.pe rb);have w:=oQ (sa.pt ra ia) (sb.pw rb);exact⟨λ_=>⟨e,λ_=>w.pt,λop vs pos z=>by cases z;exact w⟩,λtg=>jc e⟩
def aF.«cmp»{C:Ctx}{sc:HP}{N:List Str}{op:Co}{a b:Ex}{x y:Expr}{p:Pos}(hs:y6 y=true)(ra:zw a=false)(ha:aF C sc N a (.e x))(rb:zw b=false)(hb:aF C sc N b (.e y)):aF C sc N (.cmp op a b) (.e (.Compare x [cK op] [y] p)):=by
 constructor;intro cl d;have iha:=ha.h cl d;have ihb:=hb.h cl d;intro X hC es eN;have ea:=(iha X hC es eN).pe ra;have eb:=(ihb X hC es eN).pe rb;exact⟨λ_=>⟨rA hC.room.units ea eb hs,λ_=>Bh hC.room.units ea eb hs,λop vs pos z=>by cases z⟩,λtg=>jc (rA hC.room.units ea eb hs)⟩
def aF.«chain»{C:Ctx}{sc:HP}{N:List Str}{o q:Co}{a b c:Ex}{x y z:Expr}{p:Pos}(hs:y6 z=true)(ra:zw a=false)(ha:aF C sc N a (.e x))(rb:zw b=false)(hb:aF C sc N b (.e y))(rc:zw c=false)(hc:aF C sc N c (.e z)):aF C sc N (.chain o q a b c) (.e (.Compare x [cK o,cK q] [y,z] p)):=by
 constructor;intro cl d;have iha:=ha.h cl d;have ihb:=hb.h cl d;have ihc:=hc.h cl d;intro X hC es eN;have ea:=(iha X hC es eN).pe ra;have eb:=(ihb X hC es eN).pe rb;have ec:=(ihc X hC es eN).pe rc;exact⟨λ_=>⟨qO hC.room.units ea eb ec hs,λ_=>Ew hC.room.units ea eb ec hs,λop vs pos z=>by cases z⟩,λtg=>jc (qO hC.room.units ea eb ec hs)⟩
def aF.«unit»{C:Ctx}{sc:HP}{N:List Str}:aF C sc N .unit (.a []):=by
 constructor;intro cl d;intro X hC es eN;exact CM
def aF.«pair»{C:Ctx}{sc:HP}{N:List Str}{a b:Ex}{x:Expr}{xs:List Expr}(hs:zu x=true)(ra:zw a=false)(ha:aF C sc N a (.e x))(hb:aF C sc N b (.a xs)):aF C sc N (.pair a b) (.a (x::xs)):=by
 constructor;intro cl d;have iha:=ha.h cl d;have ihb:=hb.h cl d;intro X hC es eN;exact CL ((iha X hC es eN).pe ra) (ihb X hC es eN).pa hs
def aF.«call»{C:Ctx}{sc:HP}{N:List Str}{k:Nat}{a:Ex}{f:Str}{y:Expr}{ys:List Expr}{p p':Pos}(h1:C.fns[k]?=some f)(h2:cn sc f=true)(h3:zL f=true)(hs:(y::ys).all zu=true)(ha:aF C sc N a (.a (y::ys))):aF C sc N (.call k a) (.e (.Call (.Name f p) (y::ys) [] p')):=by
 constructor;intro cl d;have iha:=ha.h cl d;intro X hC es eN;subst es;exact bY.of (CK hC h1 (yn h2) h3 hs (iha X hC rfl eN).pa)
def aF.«blt»{C:Ctx}{sc:HP}{N:List Str}{b:dZ}{a:Ex}{nm:Str}{f:Value}{y:Expr}{ys:List Expr}{p p':Pos}(h1:lI b=some (nm,f))(h2:cn sc nm=true)(h3:zL nm=true)(hs:(y::ys).all zu=true)(ha:aF C sc N a (.a (y::ys))):aF C sc N (.blt b a) (.e (.Call (.Name nm p) (y::ys) [] p')):=by
 constructor;intro cl d;have iha:=ha.h cl d;intro X hC es eN;subst es;exact bY.of (Bg hC h1 (yn h2) h3 hs (iha X hC rfl eN).pa)
def aF.«isi»{C:Ctx}{sc:HP}{N:List Str}{t:Tg}{a:Ex}{y:Expr}{p p' p'':Pos}(h1:cn sc "isinstance"=true)(h2:cn sc (Str.ofString (cS t))=true)(hs:zu y=true)(ra:zw a=false)(ha:aF C sc N a (.e y)):aF C sc N (.isi t a) (.e (.Call (.Name "isinstance" p) [y,.Name (Str.ofString (cS t)) p'] [] p'')):=by
 constructor;intro cl d;have iha:=ha.h cl d;intro X hC es eN;subst es;exact bY.of (Bf hC (yn h1) (yn h2) hs ((iha X hC rfl eN).pe ra))
def aF.«lst»{C:Ctx}{sc:HP}{N:List Str}{a:Ex}{xs:List Expr}{p:Pos}(ha:aF C sc N a (.a xs)):aF C sc N (.lst a) (.e (.List xs p)):=by
 constructor;intro cl d;have iha:=ha.h cl d;intro X hC es eN;exact bY.of (Be (iha X hC es eN).pa)
def aF.«tup»{C:Ctx}{sc:HP}{N:List Str}{a:Ex}{xs:List Expr}{k}{p:Pos}(ha:aF C sc N a (.a xs)):aF C sc N (.tup a) (.e (.Tuple xs k p)):=by
 constructor;intro cl d;have iha:=ha.h cl d;intro X hC es eN;exact bY.of (Bd (iha X hC es eN).pa)
def aF.«idx»{C:Ctx}{sc:HP}{N:List Str}{a b:Ex}{x y:Expr}{p:Pos}(hs:xX y=true)(ra:zw a=false)(ha:aF C sc N a (.e x))(rb:zw b=false)(hb:aF C sc N b (.e y)):aF C sc N (.idx a b) (.e (.Subscript x y p)):=by
 constructor;intro cl d;have iha:=ha.h cl d;have ihb:=hb.h cl d;intro X hC es eN;exact bY.of (Ad ((iha X hC es eN).pe ra) ((ihb X hC es eN).pe rb) hs)
def aF.«drvl»{C:Ctx}{sc:HP}{N:List Str}{a:Ex}{x:Expr}{p p1 p2 p3:Pos}(hg:cn sc "list"=true)(hg':cn sc "reversed"=true)(hs:zu x=true)(ra:zw a=false)(ha:aF C sc N a (.e x)):aF C sc N (.dop .rvl a .unit .unit) (.e (.Call (.Name "list" p1) [.Call (.Name "reversed" p2) [x] [] p3] [] p)):=by
 constructor;intro cl d;have iha:=ha.h cl d;intro X hC es eN;exact bY.of (z9 hC.calm (by rw[<-es]at hg;exact yn hg) (hC.blt _ (by simp[zr])) (by rw[<-es]at hg';exact yn hg') (hC.blt _ (by simp[zr])) hs ((iha X hC es eN).pe ra))
def aF.«dsrt»{C:Ctx}{sc scope:HP}{N:List Str}{a:Ex}{x:Expr}{h i j:Str}{p ph pi pj pi' pj' pt pt' q q2 kp cp:Pos}{kt kt' ck:Nat}(hg:cn sc "sorted"=true)(hB:bX sc N scope [h,i,j]=true)(vi:qK (xY scope sc) i=true)(vj:qK (xY scope sc) j=true)(oi:zL i=true)(oj:zL j=true)(hs:zu x=true)(ra:zw a=false)(ha:aF C sc N a (.e x)):
   aF C sc N (.dop .srt a .unit .unit) (.e (.ListComp (.Tuple [.Name i pi',.Name j pj'] kt' pt') [⟨.Tuple [.Name h ph,.Name i pi,.Name j pj] kt pt,.Call (.Name "sorted" q) [x] [⟨some "reverse",.Constant (.bool true) ck cp,kp⟩] q2,[],0⟩] scope p)):=by
 constructor;intro cl d;have iha:=ha.h cl d;intro X hC es eN;subst es;subst eN;exact bY.of (zk hC.calm (yn hg) (hC.blt _ (by simp[zr])) (xt hB) (gM vi) (gM vj) oi oj hs ((iha X hC rfl rfl).pe ra))
def aF.«meth0»{C:Ctx}{sc:HP}{N:List Str}{k:dG}{o:Ex}{x:Expr}{ap cp:Pos}(hx:vC x=true)(hl:(ap.endLine==cp.line)=true)(ro:zw o=false)(ho:aF C sc N o (.e x)):aF C sc N (.meth k o .unit) (.e (.Call (.Attribute x (eO k).1 ap) [] [] cp)):=by
 constructor;intro cl d;have iho:=ho.h cl d;intro X hC es eN;exact bY.of (Ev ((iho X hC es eN).pe ro) hx hl)
def aF.«meth»{C:Ctx}{sc:HP}{N:List Str}{k:dG}{o a:Ex}{x y:Expr}{ys:List Expr}{ap cp:Pos}(hx:vC x=true)(hl:(ap.endLine==cp.line)=true)(hn:(y::ys).length<29)(hs:(y::ys).all zu=true)(ro:zw o=false)(ho:aF C sc N o (.e x))(ha:aF C sc N a (.a (y::ys))):aF C sc N (.meth k o a) (.e (.Call (.Attribute x (eO k).1 ap) (y::ys) [] cp)):=by
 constructor;intro cl d;have iho:=ho.h cl d;have iha:=ha.h cl d;intro X hC es eN;exact bY.of (Di ((iho X hC es eN).pe ro) (iha X hC es eN).pa hx hl hn hs)
def aF.«rng1»{C:Ctx}{sc:HP}{N:List Str}{b:Ex}{y:Expr}{p p':Pos}(hg:cn sc "range"=true)(hs:zu y=true)(rb:zw b=false)(hb:aF C sc N b (.e y)):aF C sc N (.rng (.lit (.int 0)) b (.lit (.int 1))) (.e (.Call (.Name "range" p) [y] [] p')):=by
 constructor;intro cl d;have ihb:=hb.h cl d;intro X hC es eN;subst es;exact⟨λz=>(by cases z),λtg=>Dh hC (yn hg) hs ((ihb X hC rfl eN).pe rb)⟩
def aF.«rng3»{C:Ctx}{sc:HP}{N:List Str}{a b c:Ex}{x y z:Expr}{p p':Pos}(hg:cn sc "range"=true)(hs:zu x=true)(hs':zu y=true)(hs2:zu z=true)(ra:zw a=false)(ha:aF C sc N a (.e x))(rb:zw b=false)(hb:aF C sc N b (.e y))(rc:zw c=false)(hc:aF C sc N c (.e z)):aF C sc N (.rng a b c) (.e (.Call (.Name "range" p) [x,y,z] [] p')):=by
 constructor;intro cl d;have iha:=ha.h cl d;have ihb:=hb.h cl d;have ihc:=hc.h cl d;intro X hC es eN;subst es;exact⟨λz=>(by cases z),λtg=>Dg hC (yn hg) hs hs' hs2 ((iha X hC rfl eN).pe ra) ((ihb X hC rfl eN).pe rb) ((ihc X hC rfl eN).pe rc)⟩
def aF.«lrng»{C:Ctx}{sc:HP}{N:List Str}{a:Ex}{y:Expr}{p p' q q':Pos}(hl:cn sc "list"=true)(hg:cn sc "range"=true)(hs:zu y=true)(ra:zw a=false)(ha:aF C sc N a (.e y)):aF C sc N (.lrng a) (.e (.Call (.Name "list" p) [.Call (.Name "range" q) [y] [] q'] [] p')):=by
 constructor;intro cl d;have iha:=ha.h cl d;intro X hC es eN;subst es;exact bY.of (Df hC (yn hl) (yn hg) hs ((iha X hC rfl eN).pe ra))
def aF.«comp0»{C:Ctx}{sc scope:HP}{N:List Str}{elt it:Ex}{x i:Expr}{y:Str}{p p':Pos}(hs:y6 i=true)(hB:bX sc N scope [y]=true)(hi:aF C sc N it (.e i))(re:zw elt=false)(he:aF C (xY scope sc) (xw N [y]) elt (.e x)):aF C sc N (.comp elt it (.lit (.bl true))) (.e (.ListComp x [⟨.Name y p,i,[],0⟩] scope p')):=by
 constructor;intro cl d;have ihi:=hi.h cl d;have ihe:=he.h cl d;intro X hC es eN;subst es;subst eN;have B:=xt hB;have hI:=(ihi X hC rfl rfl).2 (.Name y p);have hset:∀v,II i X.env v=pure v:=v4 hs;have body:∀Xc,bB X scope [y] Xc->PE Xc x (aL X.K (ah cl elt)):=λXc c=>by
  have q:=(ihe Xc (hC.comp c) c.sc c.N).pe re;rw[c.K]at q;exact q
 refine bY.of (PE.imp (kF B hC.calm (C4 B) hI (λXc c=>⟨vq,body Xc c⟩) hset) λσ H Q q=>Fl (λσ H Q q=>?_) q);obtain⟨as,env,m,S,G,P⟩:=q;obtain⟨b,e,q⟩:=ao.ok (m:=m) P S (am.mpr rfl);cases e;exact q
def aF.«compZ0»{C:Ctx}{sc scope:HP}{N:List Str}{elt a b:Ex}{x i j:Expr}{y z:Str}{p p' q q' q2 pt:Pos}{kt:Nat}(hg:cn sc "zip"=true)(hB:bX sc N scope [y,z]=true)(hs:zu i=true)(hs':zu j=true)(ra:zw a=false)(ha:aF C sc N a (.e i))(rb:zw b=false)(hb:aF C sc N b (.e j))(re:zw elt=false)(he:aF C (xY scope sc) (xw N [y,z]) elt (.e x)):
   aF C sc N (.compP .zip elt a b (.lit (.bl true))) (.e (.ListComp x [⟨.Tuple [.Name y p,.Name z q] kt pt,.Call (.Name "zip" q') [i,j] [] q2,[],0⟩] scope p')):=by
 constructor;intro cl d;have iha:=ha.h cl d;have ihb:=hb.h cl d;have ihe:=he.h cl d;intro X hC es eN;subst es;subst eN;have B:=xt hB;have hI:PI X (.Tuple [.Name y p,.Name z q] kt pt) (.Call (.Name "zip" q') [i,j] [] q2) _:=sR (yn hg) (hC.blt _ (by simp[zr])) (zB ((iha X hC rfl rfl).pe ra) (zB ((ihb X hC rfl rfl).pe rb) yo (zm hs')) (zm hs)) (by rw[zm hs,zm hs'];rfl) (zm hs');have body:∀Xc,bB X scope [y,z] Xc->PE Xc x (aL X.K (ah cl elt)):=λXc c=>by
  have q:=(ihe Xc (hC.comp c) c.sc c.N).pe re;rw[c.K]at q;exact q
 refine bY.of (PE.imp (kF B hC.calm (gu hC.calm B) hI (λXc c=>⟨vq,body Xc c⟩) (λ_=>rfl)) λσ H Q q=>jh (λσ H Q q=>?_) q);obtain⟨as,env,m,S,G,P⟩:=q;obtain⟨b,e,q⟩:=ao.ok (m:=m) P S (am.mpr rfl);cases e;exact q
def aF.«compE0»{C:Ctx}{sc scope:HP}{N:List Str}{elt a:Ex}{x i:Expr}{y z:Str}{p p' q q' q2 pt:Pos}{kt:Nat}(hg:cn sc "enumerate"=true)(hB:bX sc N scope [y,z]=true)(hs:zu i=true)(ra:zw a=false)(ha:aF C sc N a (.e i))(re:zw elt=false)(he:aF C (xY scope sc) (xw N [y,z]) elt (.e x)):
   aF C sc N (.compP .enum elt a (.lit (.int 0)) (.lit (.bl true))) (.e (.ListComp x [⟨.Tuple [.Name y p,.Name z q] kt pt,.Call (.Name "enumerate" q') [i] [] q2,[],0⟩] scope p')):=by
 constructor;intro cl d;have iha:=ha.h cl d;have ihe:=he.h cl d;intro X hC es eN;subst es;subst eN;have B:=xt hB;have hI:PI X (.Tuple [.Name y p,.Name z q] kt pt) (.Call (.Name "enumerate" q') [i] [] q2) _:=De (yn hg) (hC.blt _ (by simp[zr])) (zB ((iha X hC rfl rfl).pe ra) yo (zm hs)) (zm hs);have body:∀Xc,bB X scope [y,z] Xc->PE Xc x (aL X.K (ah cl elt)):=λXc c=>by
  have q:=(ihe Xc (hC.comp c) c.sc c.N).pe re;rw[c.K]at q;exact q
 refine bY.of (PE.imp (kF B hC.calm (gu hC.calm B) hI (λXc c=>⟨vq,body Xc c⟩) (λ_=>rfl)) λσ H Q q=>FI (c:=0) rfl (λσ H Q q=>?_) q);obtain⟨as,env,m,S,G,P⟩:=q;obtain⟨b,e,q⟩:=ao.ok (m:=m) P S (am.mpr rfl);cases e;exact q
end
def x4:swappedStores [.Subscript o i p1] v env=pure none:=rfl
def gN (h:∀x p,tg≠.Name x p):swapsWithSole [tg] v line env=pure false:=by
 cases v<;>first|rfl|(cases tg<;>first|rfl|exact Kc rfl (h _ _))
noncomputable def jl:Expr->Bool
 |.ListComp _ _ _ _=>true
 |.SetComp _ _ _ _=>true
 |.DictComp _ _ _ _ _=>true
 |_=>false
def gO (h:jl v=false):Iq v t line env=pure false:=by
 cases v<;>first|rfl|cases h
noncomputable def az(K:Qb)(as:List Addr)(H:Hp)(D:bT)(r:Rs):Prop:=match r with
 |.next e m'=>∀as' H' σ',Step as H as' H'->aK K as' m' H'->aB K as' H' e σ'->D.nx σ' H'
 |.brk e m'=>∀as' H' σ',Step as H as' H'->aK K as' m' H'->aB K as' H' e σ'->D.bk σ' H'
 |.cont e m'=>∀as' H' σ',Step as H as' H'->aK K as' m' H'->aB K as' H' e σ'->D.ct σ' H'
 |.ret w m'=>∀as' H' v,Step as H as' H'->aK K as' m' H'->ai K as' H' w v->D.rt v H'
 |_=>False
noncomputable def y7(K:Qb)(g:En->Me->Rs):TS:=λD σ H=>∃as env m,aK K as m H/\aB K as H env σ/\az K as H D (g env m)
section
variable{K:Qb}{as as':List Addr}{H H':Hp}{m:Me}{D:bT}
set_option tactic.hygienic true in
def az.step{r:Rs}(h:az K as H D r)(T:Step as H as' H'):az K as' H' D r:=by
 cases r with
 |next e m'=>exact λas2 H2 σ' U S G=>h as2 H2 σ' (T.trans U) S G
 |brk e m'=>exact λas2 H2 σ' U S G=>h as2 H2 σ' (T.trans U) S G
 |cont e m'=>exact λas2 H2 σ' U S G=>h as2 H2 σ' (T.trans U) S G
 |ret w m'=>exact λas2 H2 v U S R=>h as2 H2 v (T.trans U) S R
 |exc c w e m'=>exact h
 |no=>exact h
def az.bind (h:az K as H D (r.bindS env f))(k:∀w m' as' H' v,Step as H as' H'->aK K as' m' H'->ai K as' H' w v->az K as' H' D (f w m')->Q1 v H'):ao K as H Q1 r:=by
 cases r with
 |ok w m'=>exact λas2 H2 v U S R=>k w m' as2 H2 v U S R (az.step (r:=f w m') h U)
 |exc c w m'=>exact h
 |no=>exact h
def az.bindI (h:az K as H D (r.bindS env f))(k:∀w m',az K as H D (f w m')->(yW m' w).isSome=true/\∀as' H' J,Step as H as' H'->aK K as' m' H'->oq K as' H' w J->R1 J H'):bE K as H R1 r:=by
 cases r with
 |ok w m'=>exact k w m' h
 |exc c w m'=>exact h
 |no=>exact h
theorem az.next (h:az K as H D (.next env m))(S:aK K as m H)(G:aB K as H env σ):D.nx σ H:=h as H σ .refl S G
end
section
variable{cl:Nat->List Wd->Me->Rz}{X:Cx}{e o i:Ex}{x y z:Expr}{pos:Pos}
def BQ:bZ X [] (y7 X.K (aX cl .skip)):=bZ.imp sd λD σ H h=>by
 obtain⟨as,env,m,S,G,P⟩:=h;exact az.next (m:=m) P S G
set_option tactic.hygienic true in
def pM {st:Stmt}(ha:PS X st (y7 X.K (aX cl a)))(hb:bZ X sts (y7 X.K (aX cl b))):bZ X (st::sts) (y7 X.K (aX cl (.seq a b))):=
 bZ.imp (vk ha hb) λD σ H h=>by
  obtain⟨as,env,m,S,G,P⟩:=h;refine⟨as,env,m,S,G,?_⟩;have P':az X.K as H D (match aX cl a env m with |.next e1 m1=>aX cl b e1 m1|r=>r):=P;cases hr:aX cl a env m with
  |next e1 m1=>
   rw[hr]at P';exact λas' H' σ' T S' G'=>⟨as',e1,m1,S',G',az.step P' T⟩
  |brk e1 m1=>rw[hr]at P';exact P'
  |cont e1 m1=>rw[hr]at P';exact P'
  |ret w m1=>rw[hr]at P';exact P'
  |exc c w e1 m1=>rw[hr]at P';exact P'
  |no=>rw[hr]at P';exact P'
def jm {K:Qb}{i:Nat}(h:y7 K (aX cl (.asg i e)) D σ H):fB (aL K (ah cl e)) (yA i) D σ H:=by
 obtain⟨as,env,m,S,G,P⟩:=h;refine⟨as,env,m,S,G,az.bind P λw m1 as1 H1 v T1 S1 R1 P1=>?_⟩;exact az.next (m:=m1) P1 S1 ((G.mono S T1).set R1 i)
def u9(he:PE X x (aL X.K (ah cl e))):PS X (.Return (some x) pos) (y7 X.K (aX cl (.ret e))):=PS.imp (gm he) λD σ H h=>by
 obtain⟨as,env,m,S,G,P⟩:=h;refine⟨as,env,m,S,G,az.bind P λw m1 as1 H1 v T1 S1 R1 P1=>?_⟩;exact P1 as1 H1 v .refl S1 R1
def BP(he:PE X x (aL X.K (ah cl e)))(hc:jl x=false):PS X (.Expr x pos) (y7 X.K (aX cl (.expr e))):=PS.imp (Cq he (gO hc)) λD σ H h=>by
 obtain⟨as,env,m,S,G,P⟩:=h;refine⟨as,env,m,S,G,az.bind P λw m1 as1 H1 v T1 S1 R1 P1=>?_⟩;exact az.next (m:=m1) P1 S1 (G.mono S T1)
def Dy{st:Stmt}:PS X st (y7 X.K (aX cl .never)):=PS.imp D7 λD σ H h=>by
 obtain⟨as,env,m,S,G,P⟩:=h;exact P
def uG (hc:PT X x (xI X.K (ah cl e)))(ha:bZ X xs (y7 X.K (aX cl a)))(hb:bZ X ys (y7 X.K (aX cl b))):PS X (.If x xs ys pos) (y7 X.K (aX cl (.ite e a b))):=
 PS.imp (lS hc ha hb) λD σ H h=>by
  obtain⟨as,env,m,S,G,P⟩:=h;refine⟨as,env,m,S,G,az.bind P λw m1 as1 H1 v T1 S1 R1 P1=>?_⟩;cases w with
  |bl k=>
   obtain rfl:=am.mp R1;refine⟨k,rfl,?_⟩;cases k with
   |true=>exact qm ⟨as1,env,m1,S1,G.mono S T1,P1⟩
   |false=>exact fA ⟨as1,env,m1,S1,G.mono S T1,P1⟩
  |_=>exact P1.elim
def Dx {K:Qb}{o i:Wd}(S:aK K as m H)(Ro:ai K as H o vo)(Ri:ai K as H i vi)(Rw:ai K as H w v)(h:az K as H D ((gv o i w m).bindS env f))(k:∀m' H',Step as H as H'->aK K as m' H'->az K as H' D (f .non m')->Q H'):lR vo vi v H Q:=by
 have key:∀r,gv o i w m=r->(∃m',r=.ok .non m')\/r=.no:=λr e=>by
  unfold gv at e;split at e
  .split at e
   .split at e
    .exact .inl ⟨_,e.symm⟩
    .exact .inr e.symm
   .exact .inr e.symm
  .exact .inr e.symm
 rcases key _ rfl with⟨m',e⟩|e
 .refine AM S Ro Ri Rw (λm2 e2 H' T S'=>?_) ⟨m',e⟩;rw[e]at e2;cases e2;rw[e]at h;exact k m' H' T S' (az.step (r:=f .non m') h T)
 .rw[e]at h;exact h.elim
def FG {o i:Expr}(hs:xX i=true):∀v,assign (.Subscript o i p) env v=(do
   let ov <-holding [v] (eval o env)
   let iv <-holding [v,ov] (eval i env)
   standAt p
   holding [v,ov,iv] (setItem ov iv v)
   release [v,ov,iv] []):=λv=>by
 cases i<;>first|rfl|cases hs
def BO (ho:PE X x (aL X.K (ah cl o)))(hi:PE X y (aL X.K (ah cl i)))(he:PE X z (aL X.K (ah cl e)))(hs:xX y=true):PS X (.Assign [.Subscript x y p1] z pos) (y7 X.K (aX cl (.asgS o i e))):=
 PS.imp (l8 he (Bc ho hi D1 (FG hs)) (gN (by intros;intro q;cases q)) x4) λD σ H h=>by
  obtain⟨as,env,m,S,G,P⟩:=h;refine⟨as,env,m,S,G,az.bind P λw m1 as1 H1 v T1 S1 R1 P1=>?_⟩;refine⟨as1,env,m1,S1,G.mono S T1,az.bind P1 λwo m2 as2 H2 vo T2 S2 R2 P2=>?_⟩;refine⟨as2,env,m2,S2,(G.mono S T1).mono S1 T2,az.bind P2 λwi m3 as3 H3 vi T3 S3 R3 P3=>?_⟩;refine Dx S3 (R2.mono S2 T3) R3 ((R1.mono S1 T2).mono S2 T3) P3 λm4 H4 T4 S4 P4=>?_;exact az.next (m:=m4) P4 S4 ((((G.mono S T1).mono S1 T2).mono S2 T3).mono S3 T4)
end
section
variable{cl:Nat->List Wd->Me->Rz}{K:Qb}
structure dy(K:Qb)(g:TG)(st:Wd->En->Option En):Prop where
 ok:∀{as:List Addr}{H:Hp}{m:Me}{env env':En}{σ:St}{w:Wd}{v:V}{Q:L2.St->Hp->Prop},aK K as m H->aB K as H env σ->ai K as H w v->st w env=some env'->(∀σ',aB K as H env' σ'->Q σ' H)->g v σ H Q
def Dw(i:Nat):dy K (yA i) (λw env=>some (env.set i (some w))):=
 ⟨λS G R e k=>by cases e;exact k _ (G.set R i)⟩
set_option tactic.hygienic true in
def qU(i j:Nat):dy K (fC K 2 (xk (yA i) (xk (yA j) eW))) (cP i j):=by
 refine⟨λ{as H m env env' σ w v Q} S G R e k=>?_⟩;unfold cP at e;split at e
 .rename_i a b;cases e;obtain⟨p,vs,rfl,hq,rr⟩:=aj.mp R;obtain⟨va,vb,rfl,ra,rb⟩:=rF rr;exact⟨p,[va,vb],rfl,hq,rfl,va,[vb],rfl,vb,[],rfl,rfl,k _ ((G.set ra i).set rb j)⟩
 .cases e
set_option tactic.hygienic true in
def qV{g:TG}{st:Wd->En->Option En}{b:En->Me->Rs}(hg:dy K g st){D:bT}{as1 as':List Addr}{H1 H':Hp}{m':Me}{env':En}{σ':St}{x:Wd}{v:V}{next:En->Me->Rs}{N:L2.St->Hp->Prop}(T:Step as1 H1 as' H')(S':aK K as' m' H')(G':aB K as' H' env' σ')(Rx:ai K as' H' x v)
  (Pt:az K as1 H1 D (match yM st b x env' m' with
    |.next e1 m1=>next e1 m1
    |.cont e1 m1=>next e1 m1
    |.brk e1 m1=>.next e1 m1
    |r=>r))
  (hN:∀as2 m2 e2 σ2 H2,Step as' H' as2 H2->aK K as2 m2 H2->aB K as2 H2 e2 σ2->az K as1 H1 D (next e2 m2)->N σ2 H2) :
  g v σ' H' λσ2 H2=>y7 K b {D with nx:=N,ct:=N,bk:=D.nx} σ2 H2:=by
 unfold yM at Pt;cases hs:st x env' with
 |none=>rw[hs]at Pt;exact Pt.elim
 |some e2=>
  rw[hs]at Pt;simp only[]at Pt;refine hg.ok S' G' Rx hs λσ2 G2=>⟨as',e2,m',S',G2,?_⟩;cases hr:b e2 m' with
  |next e3 m3=>rw[hr]at Pt;exact λas3 H3 σ3 U S3 G3=>hN as3 m3 e3 σ3 H3 U S3 G3 Pt
  |cont e3 m3=>rw[hr]at Pt;exact λas3 H3 σ3 U S3 G3=>hN as3 m3 e3 σ3 H3 U S3 G3 Pt
  |brk e3 m3=>rw[hr]at Pt;exact λas3 H3 σ3 U S3 G3=>Pt as3 H3 σ3 (T.trans U) S3 G3
  |ret w' m3=>rw[hr]at Pt;exact λas3 H3 v3 U S3 R3=>Pt as3 H3 v3 (T.trans U) S3 R3
  |exc c w' e3 m3=>rw[hr]at Pt;exact Pt.elim
  |no=>rw[hr]at Pt;exact Pt.elim
def qW {st:Wd->En->Option En}(hg:dy K g st)(h:y7 K (λenv m=>(it env m).bindS env λw m1=>eY (yM st b) w env m1) D σ H):nY (fM K it) g (y7 K b) D σ H:=by
 obtain⟨as,env,m,S,G,P⟩:=h;refine⟨as,env,m,S,G,az.bindI P λw m1 P1=>?_⟩;have seqs:∀(xs:List Wd),az K as H D (wr (yM st b) xs env m1)->∀as1 H1 J,Step as H as1 H1->aK K as1 m1 H1->iF K as1 H1 J xs ->
   ∃W:Nat->Nat->L2.St->Hp->Prop,(∃m,W 0 m σ H1)/\∀i m σ H,W i m σ H ->
    (J.stop i H/\D.nx σ H)\/(J.go i H/\∃N:L2.St->Hp->Prop,(∀σ' H',N σ' H'->∃m',m'<m/\W (i+1) m' σ' H')/\∀x H',J.yld i H x H'->g x σ H' λσ2 H2=>y7 K b {D with nx:=N,ct:=N,bk:=D.nx} σ2 H2):=by
  intro xs Pc as1 H1 J T1 S1 hI;obtain⟨vs,ok,hJ,ok1,RL,stab⟩:=hI;have hlen:=RL.length;have Pc1:=az.step Pc T1;refine⟨λi n σ' H'=>∃as' m' env',i<=xs.length/\n=xs.length-i/\Step as1 H1 as' H'/\aK K as' m' H'/\aB K as' H' env' σ'/\ok H'/\ae K as' H' xs vs/\az K as1 H1 D (wr (yM st b) (xs.drop i) env' m'),
   ⟨xs.length,as1,m1,env,WI _,rfl,.refl,S1,G.mono S T1,ok1,RL,Pc1⟩,?_⟩
  rintro i n σ' H' ⟨as',m',env',hi,rfl,T',S',G',okH,RL',Pi⟩;by_cases hlt:i<xs.length
  .refine .inr ⟨hJ.go i H' okH (by rw[<-hlen];exact hlt),λσ2 H2=>∃as2 m2 env2,i+1<=xs.length/\Step as1 H1 as2 H2/\aK K as2 m2 H2/\aB K as2 H2 env2 σ2/\ok H2/\ae K as2 H2 xs vs/\az K as1 H1 D (wr (yM st b) (xs.drop (i+1)) env2 m2),?_,λv H'' hy=>?_⟩
   .rintro σ2 H2 ⟨as2,m2,env2,q⟩;exact⟨xs.length-(i+1),by lia,as2,m2,env2,q.1,rfl,q.2⟩
   .obtain ⟨rfl,hv⟩:=hJ.yld i H' v H'' okH (by rw[<-hlen];exact hlt) hy;obtain⟨v',hv',Rx⟩:=RL'.get (i:=i) (x:=xs[i]) (by simp[hlt]);rw[hv]at hv';cases hv';rw[QM hlt]at Pi;refine qV hg (next:=λe m=>wr (yM st b) (xs.drop (i+1)) e m) T' S' G' Rx Pi ?_;intro as2 m2 e2 σ2 H2 U S2 G2 P2;exact⟨as2,m2,e2,hlt,T'.trans U,S2,G2,stab _ _ (S'.kp U) okH,RL'.mono S' U,P2⟩
  .have e:i=xs.length:=by lia
   subst e;rw[W0]at Pi;exact .inl ⟨hJ.stop _ H' okH (by lia),Pi as' H' σ' T' S' G'⟩
 cases w with
 |tup xs=>exact⟨rfl,λas1 H1 J T1 S1 hI=>seqs xs P1 as1 H1 J T1 S1 hI⟩
 |rol xs=>exact⟨rfl,λas1 H1 J T1 S1 hI=>seqs xs P1 as1 H1 J T1 S1 hI⟩
 |ref l=>
  have P2:az K as H D (wt (yM st b) l (av+1) 0 env m1):=P1;refine⟨?_,λas1 H1 J T1 S1 hI=>?_⟩
  .show (zC m1 l).isSome=true;cases e:zC m1 l with
   |some xs=>rfl
   |none=>
    unfold wt at P2;rw[e]at P2;exact P2.elim
  .obtain ⟨a,ha,rfl⟩:=hI;have Pc1:=az.step P2 T1;refine⟨λi n σ' H'=>∃as' m' env',as'[l]?=some a/\Step as1 H1 as' H'/\aK K as' m' H'/\aB K as' H' env' σ'/\az K as1 H1 D (wt (yM st b) l n i env' m'),⟨av+1,as1,m1,env,ha,.refl,S1,G.mono S T1,Pc1⟩,?_⟩;rintro i n σ' H' ⟨as',m',env',hl,T',S',G',Pi⟩;cases n with
   |zero=>exact Pi.elim
   |succ n=>
    unfold wt at Pi;cases e:zC m' l with
    |none=>rw[e]at Pi;exact Pi.elim
    |some xs=>
     rw[e]at Pi;simp only[]at Pi;obtain⟨a',vs,ha',eH,RL⟩:=zW S' (zN e);rw[hl]at ha';cases ha';cases ex:xs[i]? with
     |none=>
      rw[ex]at Pi;have hle:vs.length<=i:=by rw[<-RL.length];exact Wk.mp ex
      exact .inl ⟨⟨vs,bp.of eH,hle⟩,Pi as' H' σ' T' S' G'⟩
     |some x=>
      rw[ex]at Pi;obtain⟨v0,hv0,Rx⟩:=RL.get ex;refine .inr ⟨⟨vs,v0,bp.of eH,hv0⟩,λσ2 H2=>∃as2 m2 env2,as2[l]?=some a/\Step as1 H1 as2 H2/\aK K as2 m2 H2/\aB K as2 H2 env2 σ2/\az K as1 H1 D (wt (yM st b) l n (i+1) env2 m2),?_,λv H'' hy=>?_⟩
      .rintro σ2 H2 q;exact⟨n,W1 _,q⟩
      .obtain ⟨rfl,hy⟩:=hy;have:=hy vs (bp.of eH);rw[hv0]at this;cases this;refine qV hg (next:=λe m=>wt (yM st b) l n (i+1) e m) T' S' G' Rx Pi ?_;intro as2 m2 e2 σ2 H2 U S2 G2 P2;exact⟨as2,m2,e2,U.get hl,T'.trans U,S2,G2,P2⟩
 |non=>exact P1.elim
 |bl k=>exact P1.elim
 |int i=>exact P1.elim
 |str s=>exact P1.elim
set_option tactic.hygienic true in
def FF (h:y7 K (aX cl (.while c b)) D σ H):pZ (xI K (ah cl c)) (y7 K (aX cl b)) D σ H:=by
 obtain⟨as,env,m,S,G,P⟩:=h;refine⟨λn σ' H'=>∃as' m' env',Step as H as' H'/\aK K as' m' H'/\aB K as' H' env' σ'/\az K as H D (ku (ah cl c) (aX cl b) n env' m'),⟨1000000,as,m,env,.refl,S,G,P⟩,?_⟩;rintro n σ' H' ⟨as',m',env',T',S',G',Pi⟩;cases n with
 |zero=>exact Pi.elim
 |succ n=>
  unfold ku at Pi;refine⟨as',env',m',S',G',?_⟩;cases hr:ah cl c env' m' with
  |no=>rw[hr]at Pi;exact Pi.elim
  |exc k w m1=>rw[hr]at Pi;exact Pi.elim
  |ok w m1=>
   rw[hr]at Pi;intro as1 H1 v T1 S1 R1;cases w with
   |bl k=>
    obtain rfl:=am.mp R1;refine⟨k,rfl,?_⟩;cases k with
    |false=>exact fA (Pi as1 H1 σ' (T'.trans T1) S1 (G'.mono S' T1))
    |true=>
     refine qm ⟨λσ2 H2=>∃as2 m2 env2,Step as H as2 H2/\aK K as2 m2 H2/\aB K as2 H2 env2 σ2/\az K as H D (ku (ah cl c) (aX cl b) n env2 m2),λσ2 H2 q=>⟨n,W1 _,q⟩,as1,env',m1,S1,G'.mono S' T1,?_⟩;simp only[]at Pi;have T2:=T'.trans T1;cases hb:aX cl b env' m1 with
     |next e3 m3=>rw[hb]at Pi;exact λas3 H3 σ3 U S3 G3=>⟨as3,m3,e3,T2.trans U,S3,G3,Pi⟩
     |cont e3 m3=>rw[hb]at Pi;exact λas3 H3 σ3 U S3 G3=>⟨as3,m3,e3,T2.trans U,S3,G3,Pi⟩
     |brk e3 m3=>rw[hb]at Pi;exact λas3 H3 σ3 U S3 G3=>Pi as3 H3 σ3 (T2.trans U) S3 G3
     |ret w' m3=>rw[hb]at Pi;exact λas3 H3 v3 U S3 R3=>Pi as3 H3 v3 (T2.trans U) S3 R3
     |exc k w' e3 m3=>rw[hb]at Pi;exact Pi.elim
     |no=>rw[hb]at Pi;exact Pi.elim
   |_=>exact Pi.elim
end
set_option genInjectivity false in
inductive Ns where
 |s (st:Stmt)|b (sts:List Stmt)
noncomputable def v5(sc:HP)(x:Str):Bool:=decide (sc.names.lookup x=some .local) || decide (sc.names.lookup x=some .cell)
noncomputable def my:Expr->Bool
 |.Call _ _ _ _=>true
 |.Name _ _=>true
 |.ListComp _ _ _ _=>true
 |_=>false
noncomputable def mz:Expr->Bool
 |.Call _ _ _ _=>true
 |.Name _ _=>true
 |_=>false
noncomputable def oh(cl:Nat->List Wd->Me->Rz)(X:Cx)(s:Sm):Ns->Prop
 |.s st=>PS X st (y7 X.K (aX cl s))
 |.b sts=>bZ X sts (y7 X.K (aX cl s))
structure dq(X:Cx):Prop where
 nd:X.N.Nodup
 fn:∀x,X.fn x=true
 hp:PassesOwn (Ie X.prog X.w) X.A X.env X.xe
section
variable{cl:Nat->List Wd->Me->Rz}
def xJ (h:v5 sc x=true):Loc sc x:=by
 unfold v5 at h;simp only[WR,Kh]at h;exact h
def BN (hc:X.calm=true)(hX:dq X)(hi:X.N[i]?=some nm)(hl:Loc X.env.scope nm)(B:bz X scope xs)(hT:fR X scope xs tg g un)(hI:PI X tg w wi)(body:∀Xc,bB X scope xs Xc->ir Xc fs tc/\PE Xc x te)(hset:∀v,II w X.env v=pure v)(hbind:∀σ H Q,aL X.K (ah cl ce) σ H Q->jS un wi tc te σ H Q)(he:PE X (.ListComp x [⟨tg,w,fs,0⟩] scope pos') (aL X.K (ah cl ce))):
  PS X (.Assign [.Name nm p1] (.ListComp x [⟨tg,w,fs,0⟩] scope pos') pos) (y7 X.K (aX cl (.asg i ce))):=by
 have hsw:∃b:Bool,Iq (.ListComp x [⟨tg,w,fs,0⟩] scope pos') (some (.Name nm p1)) pos.line X.env=pure b:=⟨_,rfl⟩;obtain⟨b,hb⟩:=hsw;cases b with
 |false=>exact PS.imp (rg hX.nd hi hl he hb (.inl (hX.fn nm))) λD σ H q=>jm q
 |true=>
  refine PS.imp (FU B hc hT hI body hX.nd hi hl (.inl (hX.fn nm)) hb hset) λD σ H q=>?_;exact hbind _ _ _ (jm q)
def u8(i j:Nat)(e:Ex)(env:En)(m:Me):aX cl (.fort i j (.tup (.pair e .unit)) .skip) env m=(ah cl e env m).bindS env λw m1=>match cP i j w env with
  |some env'=>.next env' m1
  |none=>.no:=by
 have h:ah cl (.tup (.pair e .unit)) env m=(ah cl e env m).bind λw m1=>.ok (.tup [w]) m1:=by
  show(((ah cl e env m).bind λx m1=>.ok (.tup [x]) m1).bind λx m1=>if(zt x).length<=av then .ok (.tup (zt x)) m1 else .no)=_;cases ah cl e env m with
  |ok w m1=>
   simp only[Rz.bind];simp[zt,av]
  |exc c w m1=>rfl
  |no=>rfl
 show(ah cl (.tup (.pair e .unit)) env m).bindS env (λw m1=>eY (yM (cP i j) (aX cl .skip)) w env m1)=_;rw[h];cases ah cl e env m with
 |ok w m1=>
  show wr (yM (cP i j) (aX cl .skip)) [w] env m1=match cP i j w env with
   |some env'=>.next env' m1
   |none=>.no
  unfold wr yM;cases cP i j w env with
  |none=>rfl
  |some e2=>rfl
 |exc c w m1=>rfl
 |no=>rfl
def Dv {K:Qb}(h:y7 K (aX cl (.fort i j (.tup (.pair e .unit)) .skip)) D σ H):fB (aL K (ah cl e)) (fC K 2 (xk (yA i) (xk (yA j) eW))) D σ H:=by
 obtain⟨as,env,m,S,G,P⟩:=h;rw[u8]at P;refine⟨as,env,m,S,G,az.bind P λw m1 as1 H1 v T1 S1 R1 P1=>?_⟩;cases hs:cP i j w env with
 |none=>rw[hs]at P1;exact P1.elim
 |some e2=>rw[hs]at P1;exact(qU i j).ok S1 (G.mono S T1) R1 hs λσ2 G2=>az.next (m:=m1) P1 S1 G2
def Fh {K:Qb}(h:y7 K (aX cl (.unp3 i j k e)) D σ H):fB (aL K (ah cl e)) (oC K 3 (xk (yA i) (xk (yA j) (xk (yA k) eW)))) D σ H:=by
 obtain⟨as,env,m,S,G,P⟩:=h;have P':az K as H D ((ah cl e env m).bindS env λw m1=>match cW i j k w m1 env with
  |some e1=>.next e1 m1
  |none=>.no):=P
 refine⟨as,env,m,S,G,az.bind P' λw m1 as1 H1 v T1 S1 R1 P1=>?_⟩;have fin:∀(ws:List Wd) (vs:List V),yW m1 w=some ws->ae K as1 H1 ws vs->vs.length=3/\xk (yA i) (xk (yA j) (xk (yA k) eW)) vs σ H1 D.nx:=by
  intro ws vs hs rl;unfold cW at P1;rw[hs]at P1
  match ws,P1,rl with
  |[a,b,c],P1,rl=>
   obtain⟨va,r1,rfl,ra,rl⟩:=ak.mp rl;obtain⟨vb,r2,rfl,rb,rl⟩:=ak.mp rl;obtain⟨vc,r3,rfl,rc,rl⟩:=ak.mp rl;rw[ay.mp rl];exact⟨rfl,va,[vb,vc],rfl,vb,[vc],rfl,vc,[],rfl,rfl,az.next (m:=m1) P1 S1 ((((G.mono S T1).set ra i).set rb j).set rc k)⟩
  |[],P1,_=>exact P1.elim
  |[_],P1,_=>exact P1.elim
  |[_,_],P1,_=>exact P1.elim
  |_::_::_::_::_,P1,_=>exact P1.elim
 have no:yW m1 w≠none:=λz=>by
  unfold cW at P1;rw[z]at P1;exact P1
 cases w with
 |tup xs=>
  obtain⟨a,vs,rfl,hq,rl⟩:=aj.mp R1;obtain⟨q1,q2⟩:=fin xs vs rfl rl;exact .inl ⟨a,vs,rfl,hq,q1,q2⟩
 |rol xs=>
  obtain⟨a,vs,rfl,hq,rl⟩:=aV.mp R1;obtain⟨q1,q2⟩:=fin xs vs rfl rl;exact .inr ⟨a,vs,rfl,hq.sq,q1,q2⟩
 |ref l=>
  obtain⟨a,ha,rfl⟩:=aD.mp R1;cases e1:zC m1 l with
  |none=>exact Kc e1 no
  |some xs=>
   obtain⟨a',us,ha',eH,RL⟩:=zW S1 (zN e1);rw[ha]at ha';cases ha';obtain⟨q1,q2⟩:=fin xs us e1 RL;exact .inr ⟨a,us,rfl,bp.of eH,q1,q2⟩
 |non=>exact Kc rfl no
 |bl _=>exact Kc rfl no
 |int _=>exact Kc rfl no
 |str _=>exact Kc rfl no
structure bJ(C:Ctx)(sc:HP)(N:List Str)(s:Sm)(n:Ns):Prop where
 h:∀(cl:Nat → List Wd → Me → Rz) (d:Nat) (X:Cx),aY C X cl d → dq X → X.env.scope=sc → X.N=N → oh cl X s n
def pL (hC:aY C X cl d)(hX:dq X)(h:bJ C X.env.scope X.N s n):oh cl X s n:=h.h cl d X hC hX rfl rfl
def bJ.«skip0»{C:Ctx}{sc:HP}{N:List Str}:bJ C sc N .skip (.b []):=by
 constructor;intro cl d X hC hX es eN;subst es;subst eN;exact BQ
def bJ.«one»{C:Ctx}{sc:HP}{N:List Str}{s:Sm}{st:Stmt}(h:bJ C sc N s (.s st)):bJ C sc N s (.b [st]):=by
 constructor;intro cl d X hC hX es eN;subst es;subst eN;have ih:=h.h cl d X hC hX rfl rfl;exact vl ih
def bJ.«seq»{C:Ctx}{sc:HP}{N:List Str}{a b:Sm}{st st':Stmt}{r:List Stmt}(ha:bJ C sc N a (.s st))(hb:bJ C sc N b (.b (st'::r))):bJ C sc N (.seq a b) (.b (st::st'::r)):=by
 constructor;intro cl d X hC hX es eN;subst es;subst eN;have iha:=ha.h cl d X hC hX rfl rfl;have ihb:=hb.h cl d X hC hX rfl rfl;exact pM iha ihb
def bJ.«asg»{C:Ctx}{sc:HP}{N:List Str}{i:Nat}{e:Ex}{x:Str}{v:Expr}{p p':Pos}(hc:jl v=false)(h1:N[i]?=some x)(h2:v5 sc x=true)(hr:zw e=false)(he:aF C sc N e (.e v)):bJ C sc N (.asg i e) (.s (.Assign [.Name x p] v p')):=by
 constructor;intro cl d X hC hX es eN;subst es;subst eN;exact PS.imp (rg hX.nd h1 (xJ h2) ((yS he X hC rfl rfl).pe hr) (gO hc) (.inl (hX.fn _))) λD σ H q=>jm q
def bJ.«asgCZ0»{C:Ctx}{sc:HP}{N:List Str}{i:Nat}{elt a b:Ex}{x y y':Str}{z w w':Expr}{scope:HP}{p p' q q' q2 q3 q4 pt:Pos}{kt:Nat}(h1:N[i]?=some x)(h2:v5 sc x=true)(hg:cn sc "zip"=true)(hB:bX sc N scope [y,y']=true)(hs:zu w=true)(hs':zu w'=true)(ra:zw a=false)(ha:aF C sc N a (.e w))(rb:zw b=false)(hb:aF C sc N b (.e w'))(re:zw elt=false)(he:aF C (xY scope sc) (xw N [y,y']) elt (.e z)):
   bJ C sc N (.asg i (.compP .zip elt a b (.lit (.bl true)))) (.s (.Assign [.Name x p] (.ListComp z [⟨.Tuple [.Name y q,.Name y' q2] kt pt,.Call (.Name "zip" q3) [w,w'] [] q4,[],0⟩] scope q') p')):=by
 constructor;intro cl d X hC hX es eN;subst es;subst eN;refine BN (fs:=[]) (tc:=_) hC.calm hX h1 (xJ h2) (xt hB) (gu hC.calm (xt hB)) (sR (yn hg) (hC.blt _ (by simp[zr])) (zB ((yS ha X hC rfl rfl).pe ra) (zB ((yS hb X hC rfl rfl).pe rb) yo (zm hs')) (zm hs)) (by rw[zm hs,zm hs'];rfl) (zm hs')) (te:=aL X.K (ah cl elt)) (λXc c=>⟨vq,?_⟩) (λ_=>rfl) (λσ H Q q=>jh (λσ H Q q=>?_) q) ((yS (aF.compZ0 hg hB hs hs' ra ha rb hb re he) X hC rfl rfl).pe rfl)
 .have q:=(yS he Xc (hC.comp c) c.sc c.N).pe re;rw[c.K]at q;exact q
 .obtain ⟨as,env,m,S,G,P⟩:=q;obtain⟨b,e,q⟩:=ao.ok (m:=m) P S (am.mpr rfl);cases e;exact q
def bJ.«asgS»{C:Ctx}{sc:HP}{N:List Str}{o i e:Ex}{x y z:Expr}{p p':Pos}(hs:xX y=true)(ro:zw o=false)(ho:aF C sc N o (.e x))(ri:zw i=false)(hi:aF C sc N i (.e y))(re:zw e=false)(he:aF C sc N e (.e z)):bJ C sc N (.asgS o i e) (.s (.Assign [.Subscript x y p] z p')):=by
 constructor;intro cl d X hC hX es eN;subst es;subst eN;exact BO ((yS ho X hC rfl rfl).pe ro) ((yS hi X hC rfl rfl).pe ri) ((yS he X hC rfl rfl).pe re) hs
def bJ.«ite»{C:Ctx}{sc:HP}{N:List Str}{c:Ex}{a b:Sm}{x:Expr}{xs ys:List Stmt}{p:Pos}(rc:zw c=false)(ic:jd c=false)(hc:aF C sc N c (.e x))(ha:bJ C sc N a (.b xs))(hb:bJ C sc N b (.b ys)):bJ C sc N (.ite c a b) (.s (.If x xs ys p)):=by
 constructor;intro cl d X hC hX es eN;subst es;subst eN;have iha:=ha.h cl d X hC hX rfl rfl;have ihb:=hb.h cl d X hC hX rfl rfl;exact uG ((yS hc X hC rfl rfl).pt rc ic) iha ihb
def bJ.«forv»{C:Ctx}{sc:HP}{N:List Str}{i:Nat}{it:Ex}{body:Sm}{x:Str}{y:Expr}{sts:List Stmt}{p p':Pos}(h1:N[i]?=some x)(h2:v5 sc x=true)(hs:y6 y=true)(hi:aF C sc N it (.e y))(hb:bJ C sc N body (.b sts)):bJ C sc N (.forv i it body) (.s (.For (.Name x p) y sts [] p')):=by
 constructor;intro cl d X hC hX es eN;subst es;subst eN;have ihb:=hb.h cl d X hC hX rfl rfl;have hset:∀v,II y X.env v=pure v:=v4 hs;refine PS.imp (pY hX.hp hC.calm ((yS hi X hC rfl rfl).2 _) (ym hX.nd h1 (xJ h2) (.inl (hX.fn _))) ihb hset) λD σ H q=>?_;exact qW (Dw i) q
def bJ.«unp»{C:Ctx}{sc:HP}{N:List Str}{i j:Nat}{e:Ex}{x x':Str}{v:Expr}{k}{p p' p2 p3:Pos}(h1:N[i]?=some x)(h2:v5 sc x=true)(h3:N[j]?=some x')(h4:v5 sc x'=true)(hv:mz v=true)(hr:zw e=false)(he:aF C sc N e (.e v)):
   bJ C sc N (.fort i j (.tup (.pair e .unit)) .skip) (.s (.Assign [.Tuple [.Name x p,.Name x' p'] k p2] v p3)):=by
 constructor;intro cl d X hC hX es eN;subst es;subst eN;refine PS.imp (l8 ((yS he X hC rfl rfl).pe hr) (kL hC.calm (yi (ym hX.nd h1 (xJ h2) (.inl (hX.fn _))) (yi (ym hX.nd h3 (xJ h4) (.inl (hX.fn _))) vm))) (gN (by intros;intro q;cases q)) (by cases v<;>first|rfl|cases hv)) λD σ H q=>?_;exact Dv q
def bJ.«unp3»{C:Ctx}{sc:HP}{N:List Str}{i j l:Nat}{e:Ex}{x x' x'':Str}{v:Expr}{k}{p p' p2 p3 p4:Pos}(h1:N[i]?=some x)(h2:v5 sc x=true)(h3:N[j]?=some x')(h4:v5 sc x'=true)(h5:N[l]?=some x'')(h6:v5 sc x''=true)(hv:my v=true)(hr:zw e=false)(he:aF C sc N e (.e v)):
   bJ C sc N (.unp3 i j l e) (.s (.Assign [.Tuple [.Name x p,.Name x' p',.Name x'' p4] k p2] v p3)):=by
 constructor;intro cl d X hC hX es eN;subst es;subst eN;refine PS.imp (l8 ((yS he X hC rfl rfl).pe hr) (AS hC.calm (yi (ym hX.nd h1 (xJ h2) (.inl (hX.fn _))) (yi (ym hX.nd h3 (xJ h4) (.inl (hX.fn _))) (yi (ym hX.nd h5 (xJ h6) (.inl (hX.fn _))) vm)))) (gN (by intros;intro q;cases q)) (by cases v<;>first|rfl|cases hv)) λD σ H q=>?_;exact Fh q
def bJ.«fort»{C:Ctx}{sc:HP}{N:List Str}{i j:Nat}{it:Ex}{body:Sm}{x x':Str}{y:Expr}{sts:List Stmt}{k}{p p' p2 p3:Pos}(h1:N[i]?=some x)(h2:v5 sc x=true)(h3:N[j]?=some x')(h4:v5 sc x'=true)(hs:y6 y=true)(hi:aF C sc N it (.e y))(hb:bJ C sc N body (.b sts)):bJ C sc N (.fort i j it body) (.s (.For (.Tuple [.Name x p,.Name x' p2] k p3) y sts [] p')):=by
 constructor;intro cl d X hC hX es eN;subst es;subst eN;have ihb:=hb.h cl d X hC hX rfl rfl;have hset:∀v,II y X.env v=pure v:=v4 hs;refine PS.imp (pY hX.hp hC.calm ((yS hi X hC rfl rfl).2 _) (kL hC.calm (yi (ym hX.nd h1 (xJ h2) (.inl (hX.fn _))) (yi (ym hX.nd h3 (xJ h4) (.inl (hX.fn _))) vm))) ihb hset) λD σ H q=>?_;exact qW (qU i j) q
def bJ.«while»{C:Ctx}{sc:HP}{N:List Str}{c:Ex}{body:Sm}{x:Expr}{sts:List Stmt}{p:Pos}(rc:zw c=false)(ic:jd c=false)(hc:aF C sc N c (.e x))(hb:bJ C sc N body (.b sts)):bJ C sc N (.while c body) (.s (.While x sts [] p)):=by
 constructor;intro cl d X hC hX es eN;subst es;subst eN;have ihb:=hb.h cl d X hC hX rfl rfl;exact PS.imp (D6 hX.hp ((yS hc X hC rfl rfl).pt rc ic) ihb) λD σ H q=>FF q
def bJ.«ret»{C:Ctx}{sc:HP}{N:List Str}{e:Ex}{x:Expr}{p:Pos}(hr:zw e=false)(he:aF C sc N e (.e x)):bJ C sc N (.ret e) (.s (.Return (some x) p)):=by
 constructor;intro cl d X hC hX es eN;subst es;subst eN;exact u9 ((yS he X hC rfl rfl).pe hr)
def bJ.«expr»{C:Ctx}{sc:HP}{N:List Str}{e:Ex}{x:Expr}{p:Pos}(hc:jl x=false)(hr:zw e=false)(he:aF C sc N e (.e x)):bJ C sc N (.expr e) (.s (.Expr x p)):=by
 constructor;intro cl d X hC hX es eN;subst es;subst eN;exact BP ((yS he X hC rfl rfl).pe hr) hc
def bJ.«never»{C:Ctx}{sc:HP}{N:List Str}{st:Stmt}:bJ C sc N .never (.s st):=by
 constructor;intro cl d X hC hX es eN;subst es;subst eN;exact Dy
end
set_option genInjectivity false in
structure bn where
 nm:Str
 st:Stmt
 N:List Str
 ps:List Str
 fn:Fn
 on:Str
noncomputable def v6(N ps:List Str)(sc:HP):Bool:=
 decide (sc.kind=.function)&&(decide (sc.isCoroutine=false)&&(decide (sc.isGenerator=false)&&(decide N.Nodup&&(decide (N.take ps.length=ps) &&
  (ps.all (λx=>decide (sc.names.lookup x=some .local) || decide (sc.names.lookup x=some .cell))&&sc.names.all (λy=>!(decide (y.2=.free))))))))
def wL (h:v6 N ps sc=true):cz N ps sc:=by
 unfold v6 at h;simp only[Qx,WR,Kh,Wv,WW,decide_eq_false_iff_not]at h;obtain⟨h1,h2,h3,h4,h5,h6,h7⟩:=h;exact⟨h1,h2,h3,h4,h5,h6,h7⟩
structure i8(C:Ctx)(d:bn):Prop where
 sc:v6 d.N d.ps (zy d.st)=true
 ar:d.ps.length=d.fn.ar
 sz:d.N.length=d.fn.sz
 body:bJ C (zy d.st) d.N d.fn.body (.b (yJ d.st))
section
variable{P:HS}{w:HU}{K:Qb}{mg:Str->Option Value}{base:HV}{C:Ctx}{cl:Nat->List Wd->Me->Rz}
def wM (R:ae K as H ws vs)(hl:ws.length=fn.ar)(hN:N.length=fn.sz):aB K as H (yr fn ws) (L2.start N vs):=by
 have hv:=R.length;refine⟨by simp[yr,L2.start,hN,hv],λi w e=>?_⟩;unfold yr at e;by_cases hi:i<ws.length
 .rw[Qi (by simpa using hi),Ql]at e;cases hx:ws[i]? with
  |none=>rw[hx]at e;cases e
  |some x=>
   rw[hx]at e;cases e;obtain⟨v,h1,h2⟩:=R.get hx;refine⟨v,?_,h2⟩;unfold L2.start;rw[Qi (by simp;lia),Ql,h1];rfl
 .rw[Qd (by simpa using hi),Va]at e;split at e<;>cases e
set_option tactic.hygienic true in
def Du (F:dO K d.on d.on d.st f fd)(hd:i8 C d)(hfn:∀(i:Nat) (nm:Str),C.fns[i]?=some nm->∃f fd ps,mg nm=some (.ref f)/\Wh K (.ref f)=true/\Binds K fd ps []/\bL P w K mg base cQ k f fd ps (w9 K (cl i)))(hcon:kw K w mg C)(hblt:∀nm∈zr,mg nm=none):
  bL P w K mg base cQ (k+1) f fd d.ps (w9 K (xH cl d.fn)):=by
 obtain⟨h1,h2,h3,h4⟩:=hd;have Sc:=wL h1;have cf:∀{as:List Addr}{H:Hp}{Q:VK}{ws:List Wd}{m:Me},ao K as H Q (xH cl d.fn ws m)->ws.length=d.fn.ar:=λ{as H Q ws m} h=>by
  unfold xH at h;split at h
  .assumption
  .exact h.elim
 refine F.ok Sc (λvs H Q E h=>?_) (λcdv A outer s H vs Q E hr h=>?_)
 .obtain ⟨as,m,ws,S,R,q⟩:=h;rw[<-R.length,cf q,h2]
 .obtain ⟨as,m,ws,S,R,q⟩:=h;have ha:=cf q;have hC:aY C (vn cQ P w K mg base d.N d.on (zy d.st) f cdv A outer s H E).nox cl k:=⟨hr,rfl,hfn,hcon,hblt⟩;have hX:dq (vn cQ P w K mg base d.N d.on (zy d.st) f cdv A outer s H E).nox:=⟨Sc.nd,λ_=>rfl,PassesOwn.never⟩;refine⟨_,pL hC hX h4,as,yr d.fn ws,m,S,wM R ha h3,?_⟩;unfold xH at q;rw[Ka ha]at q;cases hr:aX cl d.fn.body (yr d.fn ws) m with
  |next e m1=>rw[hr]at q;exact λas' H' σ' T S' G=>q as' H' .non T S' (aG.mpr rfl)
  |ret w m1=>rw[hr]at q;exact λas' H' v T S' R'=>q as' H' v T S' R'
  |brk e m1=>rw[hr]at q;exact q.elim
  |cont e m1=>rw[hr]at q;exact q.elim
  |exc c w e m1=>rw[hr]at q;exact q.elim
  |no=>rw[hr]at q;exact q.elim
noncomputable def wB(K:Qb)(mg:Str->Option Value)(d:bn):Prop:=∃f fd,dO K d.on d.on d.st f fd/\mg d.nm=some (.ref f)
noncomputable def cu(d:bn):Prop:=∀(kV doc pm:Value) (an:Option Addr) (cdv ct:Value) (us:List Value),us.length=d.ps.length->bindArgs (WX d.on d.on (wd d.st) (yJ d.st) (zy d.st) .none kV doc pm an cdv ct) ⟨us,[]⟩=pure (d.ps.zip us)
end
def Dt {K:Qb}{D:List bn}{ns:List Int}(hO:fY H)(hS:bp K H a (ns.map V.int))(h:∃m,yC (D.map (·.fn)) k i [.rol (ns.map Wd.int)] []=.ok (.bl true) m):
  w9 K (yC (D.map (·.fn)) k i) [.ref a] H (λv _=>v=.bl true) E:=by
 obtain⟨m,h⟩:=h;refine⟨[],[],[.rol (ns.map Wd.int)],⟨rfl,QP,λl a o e=>by simp at e⟩,ak.mpr ⟨.ref a,[],rfl,aV.mpr ⟨a,ns.map V.int,rfl,?_,?_⟩,ay.mpr rfl⟩,?_⟩
 .rcases hS with (hS|⟨o,hS⟩)|hS
  .rcases hO a with z|⟨o,xs,z⟩
   .rw[z]at hS;cases hS
   .rw[z]at hS;cases hS
  .exact .inl ⟨o,hS⟩
  .exact .inr hS
 .have all:∀l:List Int,ae K [] H (l.map Wd.int) (l.map V.int):=by
   intro l
   induction l with
   |nil=>exact ay.mpr rfl
   |cons n l ih=>exact ak.mpr ⟨_,_,rfl,aa.mpr rfl,ih⟩
  exact all ns
 .rw[h];exact λas' H' v T S R=>am.mp R
theorem aF.v{C:Ctx}{sc:HP}{N:List Str}{i:Nat}{x:Str}{p:Pos}(h1:N[i]?=some x:=by rfl)(h2:qK sc x=true:=by kernel_rfl)(h3:zL x=true:=by kernel_rfl):aF C sc N (.var i) (.e (.Name x p)):=.var h1 h2 h3
def eM{P:List Value->Prop}(h:∀a,P [a]):∀us:List Value,us.length=1->P us
 |[a],_=>h a
def mx {P:List Value->Prop}(h:∀a (us:List Value),us.length=n->P (a::us)):∀us:List Value,us.length=n+1->P us
 |a::us,e=>h a us (Nat.succ.inj e)
def dz{P:List Value->Prop}(h:∀a b,P [a,b]):∀us:List Value,us.length=2->P us:=mx λa=>eM (P:=λus=>P (a::us)) (h a)
def tM{P:List Value->Prop}(h:∀a b c,P [a,b,c]):∀us:List Value,us.length=3->P us:=mx λa=>dz (P:=λus=>P (a::us)) (h a)
def F2{P:List Value->Prop}(h:∀a b c d,P [a,b,c,d]):∀us:List Value,us.length=4->P us:=mx λa=>tM (P:=λus=>P (a::us)) (h a)
end Mini
namespace L2
open PySem PySem.Spec PyProof.Rows
noncomputable def cr(fs:List Addr)(H':Hp)(h h' B:HV):Prop:=∀b o,h'.get? b=some o->(H' b≠none\/∃o₀,h.get? b=some o₀)->b∉fs->B.get? b=some o
noncomputable def dY(P:HS)(w:HU):dQ:=λouter H s E ev s'=>∃(C e t:Addr) (B:HV) (H':Hp),ev=.ref e/\s'.os=s.os/\HZ s'.gens/\Un (bG outer) [] H H' s.heap s'.heap/\cj P w H' s'.heap /\
 Heap.FlyingW B outer e (.ref C) (.ref t) s'.heap/\cr (bG outer) H' s.heap s'.heap B/\E (.ref C) none H'
def qX (hf:env.frame=some L):bG (env::l)=L::bG l:=by
 unfold bG;rw[Vo,hf]
def j6 (hl:h.FunFrames base l)(hn:∀b∈bG l,H b=none)(u:Un fs [] H H' h h'):∀b∈bG l,H' b=none:=λb hb=>by
 obtain⟨_,o,ho,_⟩:=hl.mem hb;exact u.free b o ho (hn b hb) (by simp)
theorem br.ob (x:br P w H h a o):∃u,h.get? a=some u:=by
 cases o with
 |lst xs=>obtain⟨_,_,_,_,e⟩:=x;exact⟨_,e⟩
 |tup xs=>obtain⟨_,_,_,o,e,_⟩:=x;exact⟨_,e⟩
 |own y=>exact x
 |frz ob u=>exact⟨_,x.1⟩
 |tbl ps=>exact⟨_,show h.get? a=some _ from x⟩
 |ext φ=>exact x.2.1
section
variable{P:HS}{w:HU}{H':Hp}{h1 h2 B:HV}
def jn (ok:cj P w H' h1)(hfs:∀b∈fs,H' b=none)(hB:cr fs H' h h1 B)(st:B.StaysIn h2):cj P w H' h2:=λa o e=>
 (ok a o e).stay (λb u hb q=>st b u (hB b u q (.inl (by
  rcases hb with rfl|hb
  .rw[e];simp
  .rw[hb];simp)) λhm=>by
   have:=hfs b hm;rcases hb with rfl|hb
   .rw[e]at this;cases this
   .rw[hb]at this;cases this)) (λ_ q=>q) λ_ _ q=>q
def cr.next{fs:List Addr}{h:HV}(ok:cj P w H' h1)(hB:cr fs H' h h1 B)(st:B.StaysIn h2)(th:∀b o,h.get? b=some o->∃o',h1.get? b=some o'):cr fs H' h h2 B:=λb o e hq hn=>by
 have ex:∃o',h1.get? b=some o':=by
  rcases hq with z|⟨o₀,z⟩
  .cases q:H' b with
   |none=>exact Kc q z
   |some u=>
    exact(ok b u q).ob
  .exact th b o₀ z
 obtain⟨o',e1⟩:=ex;have e2:=hB b o' e1 hq hn;have e3:=st b o' e2;rw[e]at e3;cases e3;exact e2
end
def sN (hL:h₀.objs.size<=L)(hfo:h₀.FunFrames base outer)(hf0:∀b∈bG outer,H₀ b=none)(u0:Un (bG outer) [] H₀ H h₀ h)(u1:Un (L::bG outer) [] H H' h h1)(hB:cr (L::bG outer) H' h h1 B)(st:B.StaysIn h2)(up:h1.UpToSlots h2):Un (bG outer) [] H₀ H' h₀ h2:=by
 have no:∀b:Addr,b∉([]:List Addr):=λb=>by simp
 have nL:∀{b:Addr}{o:Obj},h₀.get? b=some o->b≠L:=λ{b o} e z=>by
  subst z;exact Kc (Qk (Qj e) hL) (We _)
 have kp:∀b o,h₀.get? b=some o->H₀ b=none->b∉bG outer->h2.get? b=some o:=λb o e n hb=>by
  have e1:=u0.keep b o e n hb (no b);have hb':b∉L::bG outer:=λhm=>(Qc.mp hm).elim (nL e) hb;have e2:=u1.keep b o e1 (u0.free b o e n (no b)) hb' (no b);exact st b o (hB b o e2 (.inr ⟨o,e1⟩) hb')
 have sl:∀b o,h₀.get? b=some o->H₀ b=none->b∈bG outer->∃sl,h2.get? b=some {o with slots:=sl}:=λb o e n hb=>by
  obtain⟨s1,e1⟩:=u0.slot b o e n hb (no b);obtain⟨s2,e2⟩:=u1.slot b _ e1 (u0.free b o e n (no b)) (Qp _ hb) (no b);obtain⟨_,o',ho',hd⟩:=hfo.mem hb;rw[e]at ho';cases ho';obtain⟨s3,e3⟩:=up b _ e2 hd;exact⟨s3,e3⟩
 refine⟨λb o e n hb _=>kp b o e n hb,λb o e n hb _=>sl b o e n hb,λb o e n _=>?_,λb o e _=>?_,λb xs q=>u1.tups b xs (u0.tups b xs q),λb o u q=>u1.frzs b o u (u0.frzs b o u q),λb ps q=>?_⟩
 .obtain ⟨o1,e1⟩:=u0.there b o e (no b);exact u1.free b o1 e1 (u0.free b o e n (no b)) (no b)
 .by_cases hb:b∈bG outer
  .obtain ⟨s1,e1⟩:=sl b o e (hf0 b hb) hb;exact⟨_,e1⟩
  .obtain ⟨o1,e1⟩:=u0.there b o e (no b);obtain⟨o2,e2⟩:=u1.there b o1 e1 (no b);have hb':b∉L::bG outer:=λhm=>(Qc.mp hm).elim (nL e) hb;exact⟨o2,st b o2 (hB b o2 e2 (.inr ⟨o1,e1⟩) hb')⟩
 .obtain ⟨m1,e1⟩:=u0.tbls b ps q;obtain⟨m2,e2⟩:=u1.tbls b _ e1;exact⟨m1++m2,by rw[e2,Array.append_assoc]⟩
section
variable{P:HS}{w:HU}{K:Qb}{mg:Str->Option Value}{base:HV}{N:List Str}{qual:Str}{scope:HP}{f:Addr}{cd:Value}{A:HY}{outer:List Env}{s:Shared}{H:Hp}{E:XK}
def j7 (hL:h₀.objs.size<=L)(hLn:H' L=none)(u0:Un fs [] H₀ H h₀ h)(ok:cj P w H' h1)(th:∀b o,h.get? b=some o->∃o',h1.get? b=some o')(hB:cr (L::fs) H' h h1 B)(st:B.StaysIn h2):cr fs H' h₀ h2 B:=λb o e hq hn=>by
 have hb':b∉L::fs:=λhm=>(Qc.mp hm).elim (λz=>by
  subst z;rcases hq with q|⟨o₀,q⟩
  .exact q hLn
  .exact Kc (Qk (Qj q) hL) (We _)) hn
 refine cr.next ok hB st th b o e (hq.imp id λ⟨o₀,q⟩=>?_) hb';exact u0.there b o₀ q (by simp)
def BM:kP (dY P w) (vn (dY P w) P w K mg base N qual scope f cd A outer s H E) E:=by
 intro pins σ H1 s1 ev s2 I h;obtain⟨C,e,t,B,H2,rfl,os,bare,un,hok,fl,hB,hE⟩:=h;have hfr:(envOfC qual scope s.heap.objs.size f cd).frame=some s.heap.objs.size:=rfl;have un':Un (s.heap.objs.size::bG outer) [] H1 H2 s1.heap s2.heap:=un;have hB':cr (s.heap.objs.size::bG outer) H2 s1.heap s2.heap B:=hB;have fz:=j6 I.stack I.stkFree un;refine wpAny_leaves_onW I.ok.frames hfr fl λh' fl' up=>?_;refine⟨C,e,t,B,H2,rfl,os.trans I.os,bare,?_,?_,fl',?_,hE⟩
 .exact sN (Qo _) I.ok.funs I.ok.frf I.base un' hB' fl'.1 up
 .exact jn hok fz hB fl'.1
 .exact j7 (Qo _) (fz _ (by show _∈s.heap.objs.size::bG outer;exact QQ)) I.base hok (λb o q=>un.there b o q (by simp)) hB' fl'.1
end
noncomputable def md(X:Cx)(E:XK):Prop:=∀(pins:List (Addr×Obj)) (σ:St) (H:Hp) (s:Shared) (h':HV) (e C:Addr) (vs:List Value),Inv X pins σ H s->Heap.MadeExcOf s.heap h' e (.ref C) vs->E (.ref C) none H->X.xe (.ref e) {s with heap:=h' }
section
variable{P:HS}{w:HU}{K:Qb}{mg:Str->Option Value}{base:HV}{N:List Str}{qual:Str}{scope:HP}{f:Addr}{cd:Value}{A:HY}{outer:List Env}{s:Shared}{H:Hp}{E:XK}
def Ds:md (vn (dY P w) P w K mg base N qual scope f cd A outer s H E) E:=by
 intro pins σ H1 s1 h' e C vs I mk hE;have hfr:(envOfC qual scope s.heap.objs.size f cd).frame=some s.heap.objs.size:=rfl;have hin:∀env∈(envOfC qual scope s.heap.objs.size f cd::outer),∀b,env.frame=some b->b∈bG (envOfC qual scope s.heap.objs.size f cd::outer):=λenv he b hb=>VM.mpr ⟨env,he,hb⟩;have hst:s1.heap.FunFrames base (envOfC qual scope s.heap.objs.size f cd::outer):=I.stack;have hfz:∀b∈bG (envOfC qual scope s.heap.objs.size f cd::outer),H1 b=none:=I.stkFree;have hB:cr (s.heap.objs.size::bG outer) H1 s1.heap s1.heap (PySem.W.hideAll s1.heap (bG (envOfC qual scope s.heap.objs.size f cd::outer))):=λb o q _ hn=>Uc _ q hn;refine wpAny_leaves_madeW (h:=s1.heap) I.ok.frames hfr (λb o q=>PySem.W.of_hideAll _ q) (PySem.W.funFrames_hide hst hin) mk λh2 t fl _ _ up=>?_;have up':s1.heap.UpToSlots h2:=(Heap.UpToSlots.of_keeps mk.keeps).trans up;refine⟨C,e,t,_,H1,rfl,I.os,I.bare,?_,?_,fl,?_,hE⟩
 .exact sN (Qo _) I.ok.funs I.ok.frf I.base Un.refl hB fl.1 up'
 .exact jn I.hok hfz hB fl.1
 .exact j7 (Qo _) (hfz _ (by show _∈s.heap.objs.size::bG outer;exact QQ)) I.base I.hok (λb o q=>⟨o,q⟩) hB fl.1
end
noncomputable def uZ(C:Addr)(E:XK)(t:TA):TS:=λD σ H=>t σ H λvs H1=>vs.length<=sizeLine/\E (.ref C) none H1
section
variable{X:Cx}{x:Str}{C:Addr}{bm:List Value}{Bn newId initId:String}{E:XK}{t:TA}{np cpos pos:Pos}{e₀:Expr}{rest:List Expr}
def Dr(O:OwnCls x C bm newId X.mg X.base)(FB:ExcBaseFacts Bn newId initId bm)(hc:X.calm=true)(hg:Gl X x)(hx:md X E)(ha:PA X (e₀::rest) t)(hdb:(x==("__debug__":Str))=false:=by decide)
  (he:Ih (e₀::rest) X.env=(false,eval e₀ X.env)::Ih rest X.env:=by rfl) (hpl:(Ig cpos (Ih rest X.env)).any (·.1)=false:=by rfl) :
  PS X (.Raise (some (.Call (.Name x np) (e₀::rest) [] cpos)) none pos) (uZ C E t):=by
 intro pins s σ H D I h;obtain⟨tl,N,nm,q,bs,hdct,sn,sub,ab,col,dd,k0,k1,k2,k3,k5,mN,hC,hN,hni,T⟩:=O.obj;refine wpAny_Raise_call_subT (k0:=k0) (k1:=k1) (k2:=k2) (k3:=k3) (k5:=k5) (dd:=dd) (col:=col) (ab:=ab) (sub:=sub) (sn:=sn) (hdct:=hdct) (bs:=bs) (q:=q) (nm:=nm) (C:=C) (N:=N) (bm:=tl) (mN:=mN) FB (T.hasType FB.hasBase) (I.ok.hd hc) (by rw[he];exact hpl) hni (kE I hg O.bound ⟨rfl,?_⟩ hdb);have h1:=ha cpos pins s σ H _ I h;rw[he]at h1 ⊢;refine Calls.evalArgs_plain (Ii h1 (λus s2 h2=>?_) λ_ _ y=>y);obtain⟨vs,H1,I1,r,hz,hE⟩:=h2;exact⟨rfl,by rw[<-r.length];exact hz,I1.bk _ _ hC,hN.keeps I1.bk,T.keeps I1.bk,λh' e mk=>hx pins σ H1 s2 h' e C us I1 mk hE⟩
end
end L2
namespace L2
open PySem PySem.Spec PySem.Calls PyProof.Rows PySem.W Builtin Builtin.ObjectAttr Builtin.Getset_descriptor
section
variable{prog:HS}{w:HU}{A:HY}{E:Value->Shared->Prop}{K:Qb}{x C:Addr}{ox:Obj}{h:HV}{g:Array Ia}{d:Drawn}{t:Nat}{os:OsState}
def jo(M:Ib)(hx:h.get? x=some ox)(hc:ox.cls=.ref C):Looks M h (typeOf (.ref x)) (.ref C):=hc▸(Looks.ld hx).andThen .now
def BL (X:K.In h)(hx:h.get? x=some ox)(hc:ox.cls=.ref C)(hm:J2 K C (.type "object")=some true)(hq:R (.ok (.ret (.ref C))) ⟨h,g,d,t,os⟩):
  IQ (Ie prog w) A (.call (.builtin "getset_descriptor.__get__") ⟨[.builtin "object.__class__",.ref x,tp],[]⟩) R ⟨h,g,d,t,os⟩:=by
 have L0:=jo (Ie prog w) hx hc;have L1:=looks_mroIn (M:=Ie prog w) X hm;refine J3 KF.slot_gs.plain KF.entry_gs ?_;refine KF.slot_gs.check _ _ _ _ _ _ _ _ KF.type_class (KF.args_gs _ _ _) ?_;unfold Builtin.«getset_descriptor.__get__» descrGet;rw[dga_obj];refine Iu (IA ?_);unfold descrGetter descrCheckInstance descrNameAndClass isInstance;simp only[KF.owner_class]
 repeat lk
 have z1:Code.quiet (.builtin "object.__class__" ⟨[.ref x],[]⟩)=true:=Code.quiet_builtin _ (by decide +kernel);refine⟨z1,?_⟩;refine codeAny_builtin KF.entry_class ?_;unfold Builtin.«object.__class__» shownTypeOf
 repeat lk
 exact hq
def Fg (X:K.In h)(hx:h.get? x=some ox)(hc:ox.cls=.ref C)(hcl:J4 K (.ref C) "__class__"=some (some (.builtin "object.__class__")))(hm:J2 K C (.type "object")=some true)(hq:Q (.done (.ret (.ref C))) ⟨h,g,d,t,os⟩):Ic (Ie prog w) A (Builtin.«object.__getattribute__» ⟨[.ref x,.str "__class__" tk],[]⟩) Q E ⟨h,g,d,t,os⟩:=by
 have L0:=jo (Ie prog w) hx hc;have L1:=J5 (M:=Ie prog w) X hcl;have hT5:(⟨h,g,d,t,os⟩:Shared).TypeIs (.builtin "object.__class__") "getset_descriptor":=F.typeOf_object_class;have f5:=F.typeOf_object_class;have f6:=F.slot_gs_get.lookup;have f7:=F.slot_gs_set.lookup;unfold Builtin.«object.__getattribute__»
 repeat (any_goals (first|assumption|(with_reducible refine J6 hx ?_;rw[hc])|with_reducible refine Looks.at (by assumption) ?_|wp_step))
 refine BL X hx hc hm ?_
 repeat (any_goals (first|assumption|wp_step))
def Fe (X:K.In h)(hx:h.get? x=some ox)(hc:ox.cls=.ref C)(hb:J2 K C (.type "BaseException")=some true)(hq:Q () ⟨h,g,d,t,os⟩):
  Ic (Ie prog w) A (checkBuiltinCall "BaseException.__getattribute__" ⟨[.ref x,nameV],[]⟩) Q E ⟨h,g,d,t,os⟩:=by
 have L0:=jo (Ie prog w) hx hc;have L1:=looks_mroIn (M:=Ie prog w) X hb;have z1:builtinKind "BaseException.__getattribute__"=some .slot:=by decide +kernel
 have z2:splitId "BaseException.__getattribute__"=some ("BaseException","__getattribute__"):=by decide +kernel
 have z3:=F.args_bexc_ga (.ref x) nameV;simp only[checkBuiltinCall,z1,z2];refine Iu ?_;unfold isInstance
 repeat (first|with_reducible refine Looks.at (by assumption) ?_|wp_step)
 exact hq
def Dq (X:K.In h)(hx:h.get? x=some ox)(hc:ox.cls=.ref C)(hb:J2 K C (.type "BaseException")=some true)(hcl:J4 K (.ref C) "__class__"=some (some (.builtin "object.__class__")))(hm:J2 K C (.type "object")=some true)(hq:R (.ok (.ret (.ref C))) ⟨h,g,d,t,os⟩):IQ (Ie prog w) A (.call (.builtin "BaseException.__getattribute__") ⟨[.ref x,.str "__class__" tk],[]⟩) R ⟨h,g,d,t,os⟩ :=
 J3 F.attr_ValueError.ga.plain F.entry_bexc_ga (Fe X hx hc hb (Fg X hx hc hcl hm hq))
def BK (X:K.In s.heap)(hx:s.heap.get? x=some ox)(hc:ox.cls=.ref C)(hga:J4 K (.ref C) "__getattribute__"=some (some (.builtin "BaseException.__getattribute__")))(hgt:J4 K (.ref C) "__getattr__"=some none)(hb:J2 K C (.type "BaseException")=some true)(hcl:J4 K (.ref C) "__class__"=some (some (.builtin "object.__class__")))(hm:J2 K C (.type "object")=some true)(hq:Q (some (.ref C)) {s with toks:=s.toks+1}):Ic (Ie prog w) A (getAttr? (.ref x) "__class__") Q E s:=by
 obtain⟨h,g,d,t,os⟩:=s;have L0:=jo (Ie prog w) hx hc;have L1:=J5 (M:=Ie prog w) X hga;have L2:=J5 (M:=Ie prog w) X hgt;have f3:=F.attr_ValueError.ga.bind (.ref x);have y2:(Value.builtin "BaseException.__getattribute__" == Value.builtin "object.__getattribute__")=false:=by decide +kernel
 have y1:(onTheHeap (Value.ref C)&&Value.builtin "BaseException.__getattribute__" == Value.builtin "object.__getattribute__")=false:=by rw[y2];rfl
 unfold getAttr? getAttrBy? getAttrBy;refine Iu (wpAny_mkText (Iu (JH (Iv (Iu (L0.at (Iu (L1.at ?_))))))));dsimp only;rw[Kb (by rw[y1];decide)];unfold getAttrByItsOwn hookBefore callGetattribute
 repeat (any_goals (first|assumption|with_reducible refine Looks.at (by assumption) ?_|wp_step))
 refine Dq (h:=h) X hx hc hb hcl hm ?_
 repeat (any_goals (first|assumption|wp_step))
end
end L2
namespace L2
open PySem PySem.Spec PySem.Calls PyProof.Rows PySem.W
structure dt(K:Qb)(C:Addr):Prop where
 ga:J4 K (.ref C) "__getattribute__"=some (some (.builtin "BaseException.__getattribute__"))
 gt:J4 K (.ref C) "__getattr__"=some none
 be:J2 K C (.type "BaseException")=some true
 cl:J4 K (.ref C) "__class__"=some (some (.builtin "object.__class__"))
 mo:J2 K C (.type "object")=some true
set_option tactic.hygienic true in
def pK {K:Qb}(h:(clsIn K C).isSome=true):∃c d cd sl,K.lookup C=some ⟨c,d,.cls cd,sl⟩:=by
 unfold clsIn at h;split at h
 .rename_i c d cd sl ho;exact⟨c,d,cd,sl,ho⟩
 .cases h
def dt.ci {K:Qb}(Z:dt K C):(clsIn K C).isSome=true:=by
 obtain⟨cd,a,_⟩:=Q2.mp Z.be;rw[a];rfl
def qY {K:Qb}(Z:dt K C)(hc:ox.cls=.ref C):KitX K (.ref x) (.ref C) (λh=>h.get? x=some ox) where
 ty:=λM h _ p=>jo M p hc
 it:=λM h X _=>by
  obtain⟨c,d,cd,sl,ho⟩:=pK Z.ci;intro A' Q' E' s' k q;unfold isType loadHead;refine Iu (wpAny_loadPart (k _ _ (X _ _ ho)) ?_);exact IA q
 ne:=λh tp dd its n sl X htp=>by
  obtain⟨c,d,cd,sl',ho⟩:=pK Z.ci;refine Bool.eq_false_iff.mpr λq=>?_;cases Value.ref.inj (beq_iff_eq.mp q);have z:=(X _ _ ho).symm.trans htp;cases z
 ca:=λX p k=>BK X p hc Z.ga Z.gt Z.be Z.cl Z.mo k
noncomputable def mT(K:Qb)(x C:Addr):List V->Hp->VK->Prop:=λvs H Q=>
 (∃c u b,vs=[.ref x,c]/\RelV c u/\(∀u',RelV c u'->u'=u)/\kitOne K (.ref C) u=some b/\Q (.bl b) H) \/
 (∃tp ts b,vs=[.ref x,.ref tp]/\H tp=some (.tup ts)/\(∀us,aw ts us->kitAny K (.ref C) us=some b)/\Q (.bl b) H)
def pJ (r:aw [v,w] us):∃a b,us=[a,b]/\RelV v a/\RelV w b:=by
 cases r with
 |cons p q=>
  cases q with
  |cons p' q'=>
   cases q' with
   |nil=>exact⟨_,_,rfl,p,p'⟩
def Dp (Z:dt X.K C)(hp:(x,ox)∈X.pn)(hc:ox.cls=.ref C):bu X (.builtin "isinstance") (mT X.K x C):=by
 intro pins s σ H xs us Q I r h;have hx:s.heap.get? x=some ox:=(I.pin (x,ox) (Q5 _ hp)).1;rcases h with⟨c,u,b,rfl,ru,uq,k,q⟩|⟨tp,ts,b,rfl,ht,k,q⟩
 .obtain ⟨a,a',rfl,ra,ra'⟩:=pJ r;obtain rfl:a=.ref x:=ra;obtain rfl:=uq a' ra';exact kia_one (qY Z hc) I.kIn hx k (λz=>nomatch z) λtk=>⟨.bl b,H,I.tok tk,rfl,q⟩
 .obtain ⟨a,a',rfl,ra,ra'⟩:=pJ r;obtain rfl:a=.ref x:=ra;obtain rfl:a'=.ref tp:=ra';obtain⟨z,its,rv,⟨oc,od,dat,sl⟩,ho,h1,n,hd⟩:=I.hok tp _ ht;obtain rfl:oc=.type "tuple":=h1;obtain rfl:dat=.seq its.toArray n:=hd;exact kia_tup (qY Z hc) I.kIn hx ho (k its rv) (λz=>nomatch z) λtk=>⟨.bl b,H,I.tok tk,rfl,q⟩
abbrev Cx.held(X:Cx)(e:Addr)(oe:Obj)(E:Value->Shared->Prop):Cx:={X with A:=X.A.mark (some (.ref e)),calm:=false,pn:=(e,oe)::X.pn,xe:=E}
section
variable{X:Cx}{pins:List (Addr×Obj)}{σ:St}{H:Hp}{s:Shared}{e:Addr}{oe:Obj}{E:Value->Shared->Prop}
theorem Cx.Ok.held(ok:X.Ok):(X.held e oe E).Ok:=
 ⟨ok.mod,ok.kind,ok.glob,ok.blt,ok.above,ok.inj,ok.has,ok.cab,(λz=>by cases z),ok.frames,ok.stk,ok.exf,ok.bs,ok.bsz,ok.noex,ok.exfs,ok.funs,ok.frf⟩
def Inv.unheld(ok:X.Ok)(I:Inv (X.held e oe E) pins σ H s):Inv X pins σ H s:=
 ⟨ok,I.os,I.bare,I.base,I.loc,I.cell,I.free,I.freeC,(λp hp=>I.pin p (Qp _ hp)),I.hok,I.len⟩
end
def BJ (hl:h.FunFrames base l)(hn:∀b∈bG l,H b=none)(u:Un (bG l) [] H H' h h1)(hB:cr (bG l) H' h h1 B)(st:B.StaysIn h2)(up:h1.UpToSlots h2):Un (bG l) [] H H' h h2:=by
 have no:∀b:Addr,b∉([]:List Addr):=λb=>by simp
 have sl:∀b o,h.get? b=some o->b∈bG l->∃sl,h2.get? b=some {o with slots:=sl}:=λb o e hb=>by
  obtain⟨s1,e1⟩:=u.slot b o e (hn b hb) hb (no b);obtain⟨_,o',ho',hd⟩:=hl.mem hb;rw[e]at ho';cases ho';obtain⟨s2,e2⟩:=up b _ e1 hd;exact⟨s2,e2⟩
 refine⟨λb o e n hb _=>?_,λb o e n hb _=>sl b o e hb,u.free,λb o e _=>?_,u.tups,u.frzs,u.tbls⟩
 .have e1:=u.keep b o e n hb (no b);exact st b o (hB b o e1 (.inr ⟨o,e⟩) hb)
 .by_cases hb:b∈bG l
  .obtain ⟨s1,e1⟩:=sl b o e hb;exact⟨_,e1⟩
  .obtain ⟨o1,e1⟩:=u.there b o e (no b);exact⟨o1,st b o1 (hB b o1 e1 (.inr ⟨o,e⟩) hb)⟩
section
variable{M:Ib}{A:HY}{E:Value->Shared->Prop}{bs bs' bm bm':List Value}{nm nm' q q':Str}{C G N N':Addr}{hdct hdct':Bool}{sn sn':List Str}{sub sub':List Value}{ab ab':Bool}{col col':Option Bool}{dd dd':Option Addr}{k0 k1 k2 k3 k5 j0 j1 j2 j3 j5:Option Value}{newId newId':String}
def Do {os:OsState}(hC:h.get? C=some (J7 nm q C N bs bm hdct sn sub ab col dd k0 k1 k2 k3 k5 newId))(hG:h.get? G=some (J7 nm' q' G N' bs' bm' hdct' sn' sub' ab' col' dd' j0 j1 j2 j3 j5 newId'))(he:h.get? e=some oe)(hcls:oe.cls=.ref C)(y1:(Value.ref G::bm').contains (.type "BaseException")=true)(y2:(Value.ref C::bm).contains (.ref G)=true)(hq:Q true ⟨h,g,d,t,os⟩):Ic M A (excMatches (.ref e) (.ref G)) Q E ⟨h,g,d,t,os⟩:=by
 have f:=tc_notTuple;unfold excMatches
 repeat (first|(with_reducible refine J6 he ?_;rw[hcls])|with_reducible refine J6 hG ?_|(with_reducible refine J8 hG ?_;rw[y1])|(with_reducible refine J8 hC ?_;rw[y2])|wp_step)
 exact hq
end
section
variable{X:Cx}{pins:List (Addr×Obj)}{σ:St}{H:Hp}{s:Shared}
def Inv.lost{h':HV}{m':Str->Option Value}{t':Nat}(I:Inv X pins σ H s)(hn:h'.Ns X.env.locals m')(hs:WH X.env.locals s.heap h'):Inv X pins (Qz X.N.length none) H {s with heap:=h',toks:=t' }:=by
 have lo:∀{b:Addr}{o:Obj},X.s₀.heap.get? b=some o->b≠X.env.locals:=λ{b o} e z=>by
  subst z;exact Kc (Qk (Qj e) I.ok.above) (We _)
 refine⟨I.ok,I.os,I.bare,⟨λb o e n hb hx=>?_,λb o e n hb hx=>?_,I.base.free,λb o e hx=>?_,I.base.tups,I.base.frzs,I.base.tbls⟩,⟨m',hn,λj y v e1 e2 _=>?_⟩,λy c e=>?_,I.free,I.freeC,λp hp=>?_,λb ob e=>?_,by simp⟩
 .rw[hs.2 b (lo e)];exact I.base.keep b o e n hb hx
 .obtain ⟨sl,e1⟩:=I.base.slot b o e n hb hx;exact⟨sl,by rw[hs.2 b (lo e)];exact e1⟩
 .obtain ⟨o',e1⟩:=I.base.there b o e hx;exact⟨o',by rw[hs.2 b (lo e)];exact e1⟩
 .rw[Va]at e2;split at e2<;>cases e2
 .obtain ⟨w',z⟩:=I.cell y c e;exact⟨w',z.sameBut hs (I.cne y c e)⟩
 .obtain ⟨e,n,ne,nf,d⟩:=I.pin p hp;exact⟨by rw[hs.2 p.1 ne];exact e,n,ne,nf,d⟩
 .have hL:=I.free;refine(I.hok b ob e).stay (λc w' hc q=>?_) (λ_ q=>q) λ_ _ q=>q;rw[hs.2 c (λz=>by
   subst z;rcases hc with z|z
   .rw[<-z,hL]at e;cases e
   .rw[hL]at z;cases z)]
  exact q
def Inv.pinE{e:Addr}{oe:Obj}(I:Inv X pins σ H s)(he:s.heap.get? e=some oe)(hn:H e=none)(hl:e≠X.env.locals)(hf:e∉X.fs)(hc:∀v,oe.data≠.cell v):Inv X ((e,oe)::pins) σ H s:=
 I.pins_of λp hp=>by
  rcases Qc.mp hp with rfl|hp
  .exact ⟨he,hn,hl,hf,hc⟩
  .exact I.pin p (Qy _ hp)
def Inv.heldE{e:Addr}{oe:Obj}{E:Value->Shared->Prop}(I:Inv X ((e,oe)::pins) σ H s):Inv (X.held e oe E) pins σ H s:=
 ⟨I.ok.held,I.os,I.bare,I.base,I.loc,I.cell,I.free,I.freeC,(λp hp=>I.pin p (by
  rcases Qc.mp (show p∈(e,oe)::(X.pn++pins)from hp)with rfl|hp
  .exact Qy _ QQ
  .rcases Qu.mp hp with z|z
   .exact Q5 _ z
   .exact Qy _ (Qp _ z))),I.hok,I.len⟩
end
noncomputable def j8(h:HV)(C:Addr)(v:Value):Prop:=∃nm q N bs bm hdct sn sub ab col dd k0 k1 k2 k3 k5 newId,h.get? C=some (J7 nm q C N bs bm hdct sn sub ab col dd k0 k1 k2 k3 k5 newId)/\(Value.ref C::bm).contains v=true
def Fd (hst:X.stack=X.env::X.outer)(hfr:X.env.frame=some X.env.locals)(I:Inv X pins σ H1 s1)(os:s2.os=s1.os)(bare:HZ s2.gens)(un:Un (bG X.stack) [] H1 H2 s1.heap s2.heap)(hok:cj X.prog X.w H2 s2.heap)(fl:Heap.FlyingW B X.stack e (.ref C) (.ref t) s2.heap)(hB:cr (bG X.stack) H2 s1.heap s2.heap B)(cC:j8 X.base C (.ref G))(cG:j8 X.base G (.type "BaseException"))(hg:Gl X gn)(hm:X.mg gn=some (.ref G))(hdb:(gn==("__debug__":Str))=false)(hN:X.N.Nodup)(hi:X.N[i]?=some n)(hn:X.env.scope.names.lookup n=some .local)(hsuite:∀(oe:Obj) (E':Value->Shared->Prop),oe.cls=.ref C->∃tt,bZ (X.held e oe E') (b₀::suite) tt/\tt {nx:=λ_ _=>False,rt:=D.rt} (σ.set i (some (.ref e))) H2):
  Ic (Ie X.prog X.w) X.A (noteFrame (.ref e) X.env) (λ_ s₂=>Ic (Ie X.prog X.w) X.A (setFlight (.ref e) none)
   (λ_ s₃=>Ic (Ie X.prog X.w) X.A (handleBy (.ref e) X.env [.ExceptHandler (some (.Name gn np)) (some n) (b₀::suite) pos]) (SP X pins D) X.xe s₃) X.xe s₂) X.xe s2:=by
 have frames:X.A.frames=some (X.env::X.outer):=by rw[<-hst];exact I.ok.frames
 have fz:=j6 I.stack I.stkFree un;have inv:∀{h5:HV},B.StaysIn h5->s2.heap.UpToSlots h5->Inv X pins σ H2 {s2 with heap:=h5}:=λ{h5} st up=>
  I.call' (s':={s2 with heap:=h5}) (ch:=[]) os (BJ I.stack I.stkFree un hB st up) (jn hok fz hB st) bare (λb z=>Kc z (by simp))
 rw[hst]at fl;refine wpAny_looks_onW frames hfr fl λh4 hd4 up4=>?_;refine wpAny_landsW hd4 λh5 fl5 up5=>?_;have I5:=inv fl5.1 (up4.trans up5);obtain⟨oe5,he5,hc5⟩:=fl5.there;obtain⟨nm,q,N,bs,bm,hdct,sn,sub,ab,col,dd,k0,k1,k2,k3,k5,ni,hC,hCG⟩:=cC;obtain⟨nm',q',N',bs',bm',hdct',sn',sub',ab',col',dd',j0,j1,j2,j3,j5,ni',hG,hGB⟩:=cG;refine wpAny_handleBy_cons (codeAny_handlers_test ?_) (by intro z;cases z);refine Calls.Name_function_global I.ok.kind hg (Calls.loadGlobal_global (by rw[I.ok.glob];exact I5.mod.glob.keeps I5.bk) hm ?_) hdb;refine Do (I5.bk _ _ hC) (I5.bk _ _ hG) he5 hc5 hGB hCG (codeAny_handlers_suite_as ?_);refine lands_againW fl5 λh6 fl6 up6=>?_;have I6:=inv fl6.1 ((up4.trans up5).trans up6);obtain⟨oe,ws,he6,hc6,hd6,_⟩:=fl6.first;have hBe:B.get? e=none:=fl6.2.1;have hHe:H2 e=none:=by
  cases z:H2 e with
  |none=>rfl
  |some u=>
   obtain⟨o,ho⟩:=(hok e u z).ob;have:=hB e o ho (.inl (by rw[z];simp)) (λhm=>by rw[fz e hm]at z;cases z);rw[hBe]at this;cases this
 have hen:∀b∈bG X.stack,b≠e:=λb hb z=>by
  subst z;obtain⟨_,o,ho,hnf⟩:=I6.stack.mem hb;rw[he6]at ho;cases ho;exact hnf ws hd6
 have hL:e≠X.env.locals:=λz=>hen X.env.locals (by rw[hst,qX hfr];exact QQ) z.symm;have hF:e∉X.fs:=λz=>hen e (by rw[hst,qX hfr];exact Qp _ z) rfl;refine kJ (I6.pinE he6 hHe hL hF (λv z=>by rw[hd6]at z;cases z)) hN hi (.inl hn) (v:=.ref e) rfl (λs7 I7=>?_) (.inr hn);obtain⟨tt,hp,ht⟩:=hsuite oe _ hc6;refine Ii (hp pins s7 _ H2 _ I7.heldE ht) (λf s8 h8=>?_) (λx s8 hx=>hx);cases f with
 |next=>obtain⟨_,_,_,z⟩:=h8;exact z.elim
 |brk=>obtain⟨_,_,_,z⟩:=h8;exact z.elim
 |cont=>obtain⟨_,_,_,z⟩:=h8;exact z.elim
 |ret u=>
  obtain⟨v,σ',H',I8,rv,qq⟩:=h8;have I8':=Inv.unheld I.ok I8;obtain⟨m,hm8,_⟩:=I8'.loc;refine wpAny_nameGoes hn hm8 (by rw[I.ok.kind];rfl) λh' m' hn' hs'=>?_;exact⟨v,_,H',I8'.lost hn' hs',rv,qq⟩
noncomputable def mH:List Addr->TA
 |[]=>fZ
 |a::r=>kO (tC (.ref a)) (mH r)
def uY (h:Q (as.map V.ref) H):mH as σ H Q:=by
 induction as generalizing Q with
 |nil=>exact h
 |cons a r ih=>exact ih (Q:=λxs H2=>Q (.ref a::xs) H2) h
theorem sM:∀{as:List Addr}{us:List Value},aw (as.map V.ref) us->us=as.map Value.ref
 |[],_,.nil=>rfl
 |a::r,_,.cons p q=>by
  obtain rfl:_=Value.ref a:=p;rw[sM q];rfl
inductive cB(env:Env)(mg:Str->Option Value):List Expr->List Addr->Prop
 |nil:cB env mg [] []
 |cons {x:Str}{p:Pos}{es:List Expr}{a:Addr}{as:List Addr}(hg:env.kindOf x=some .globalImplicit) (hm:mg x=some (.ref a)) (hd:(x==("__debug__":Str))=false) (h:cB env mg es as):cB env mg (.Name x p::es) (a::as)
def uX (h:cB X.env X.mg es as):PA X es (mH as):=by
 induction h with
 |nil=>exact yo
 |cons hg hm hd _ ih=>exact zB (sf (v:=.ref _) hg hm rfl hd) ih rfl
noncomputable def ma(n y:Str)(es:List Expr)(p1 p2 p3 p4 p5 p6 p7 p8 p9 pa pb pc pd pe pf pg ph:Pos)(k1 k2:Nat):List Stmt:=
 [.If (.Call (.Name "isinstance" p1) [.Name n p2,.Tuple es k1 p3] [] p4) [.Return (some (.Constant (.bool false) k2 p5)) p6] [] p7,
  .Return (some (.BoolOp .And [.Call (.Name "isinstance" p8) [.Name n p9,.Name y pa] [] pb,.Call (.Name "isinstance" pc) [.Name n pd,.Name "ValueError" pe] [] pf] pg)) ph]
structure eU(X:Cx)(C G:Addr)(ts:List Addr)(Y:Addr)(r:Bool):Prop where
 ex:j8 X.base C (.ref G)
 kk:dt X.K C
 va:kitOne X.K (.ref C) (.type "ValueError")=some true
 re:∃b1 b2,kitAny X.K (.ref C) (ts.map Value.ref)=some b1/\kitOne X.K (.ref C) (.ref Y)=some b2/\r=(! b1&&b2)
def Dn {σ:St}{D:bT}(hk:eU X C G ts Y r)(hc:oe.cls=.ref C)(hts:cB X.env X.mg es ts)(hz:ts.length<=1000)(hY:Gl X y)(hmY:X.mg y=some (.ref Y))(hdY:(y==("__debug__":Str))=false)(hI:Gl X "isinstance")(hmI:X.mg "isinstance"=none)(hV:Gl X "ValueError")(hmV:X.mg "ValueError"=none)(hN:X.N[i]?=some n)(hn:X.env.scope.names.lookup n=some .local)(hd1:(n==("__debug__":Str))=false)(hd2:(n==("__classdict__":Str))=false)(hi:i<σ.length)(q:∀p ts',H p=none->D.rt (.bl r) (aI H p (.tup ts'))):
  ∃tt,bZ (X.held e oe E') (ma n y es p1 p2 p3 p4 p5 p6 p7 p8 p9 pa pb pc pd pe pf pg ph k1 k2) tt/\tt {nx:=λ_ _=>False,rt:=D.rt} (σ.set i (some (.ref e))) H:=by
 have Z:dt (X.held e oe E').K C:=hk.kk;have hp:(e,oe)∈(X.held e oe E').pn:=QQ;have cR:=Dp (X:=X.held e oe E') Z hp hc;have bI:HX "isinstance"=some (.builtin "isinstance"):=by rfl
 have bV:HX "ValueError"=some (.type "ValueError"):=by rfl
 have hnm:∀{p:Pos},PE (X.held e oe E') (.Name n p) (hZ i):=λ{p}=>kK hN (.inl hn) hd1 hd2;have c1:PE (X.held e oe E') (.Call (.Name "isinstance" p1) [.Name n p2,.Tuple es k1 p3] [] p4) _:=yB cR hI hmI bI (zB hnm (zB (mi (uX hts)) yo));have c2:PE (X.held e oe E') (.Call (.Name "isinstance" p8) [.Name n p9,.Name y pa] [] pb) _:=yB cR hI hmI bI (zB hnm (zB (sf (v:=.ref Y) hY hmY rfl hdY) yo));have c3:PE (X.held e oe E') (.Call (.Name "isinstance" pc) [.Name n pd,.Name "ValueError" pe] [] pf) _:=yB cR hI hmI bI (zB hnm (zB (se (v:=.ty "ValueError") hV hmV bV rfl) yo));have s1:=lS (pos:=p7) (rp c1) (vl (gm (pos:=p6) (oY (X:=X.held e oe E') (b:=false) (j:=k2) (pos:=p5)))) sd;have s2:=gm (pos:=ph) (rm (pos:=pg) c2 (l9 c3));refine⟨_,vk s1 (vl s2),?_⟩;have hv:(σ.set i (some (V.ref e)))[i]?=some (some (V.ref e)):=Wa hi;obtain⟨b1,b2,k1',k2',hr⟩:=hk.re;have sz:(ts.map V.ref).length<=sizeLine:=by
  rw[Qv];exact VD (EI hz)
 refine⟨.ref e,hv,uY ⟨sz,λp hp'=>.inr ⟨p,ts.map V.ref,b1,rfl,zf,λus hu=>by rw[sM hu];exact k1',b1,rfl,?_⟩⟩⟩;cases b1 with
 |true=>
  rw[Ka rfl];have e1:r=false:=by rw[hr];rfl
  rw[e1]at q;exact q p _ hp'
 |false=>
  rw[Kb QZ];refine⟨.ref e,hv,.inl ⟨.ref Y,.ref Y,b2,rfl,rfl,λ_ z=>z,k2',b2,rfl,?_⟩⟩;cases b2 with
  |true=>
   rw[Ka rfl];refine⟨.ref e,hv,.inl ⟨.ty "ValueError",.type "ValueError",true,rfl,rfl,λ_ z=>z,hk.va,?_⟩⟩;have e1:r=true:=by rw[hr];rfl
   rw[e1]at q;exact q p _ hp'
  |false=>
   rw[Kb QZ];have e1:r=false:=by rw[hr];rfl
   rw[e1]at q;exact q p _ hp'
def qZ (F:bL X.prog X.w X.K X.mg X.base (dY X.prog X.w) k f fd ps sp)(hr:bP k X.A)(hgf:Gl X fnm)(hmf:X.mg fnm=some (.ref f))(hkf:Wh X.K (.ref f)=true)(hb:Binds X.K fd ps [])(hdf:(fnm==("__debug__":Str))=false)(ha:PA (X.wish Eh) (e0::es) t)(he:Ih (e0::es) X.env=(false,eval e0 X.env)::Ih es X.env)(hpl:(Ig q (Ih es X.env)).any (·.1)=false)(I:Inv X pins σ H s)(h:t σ H λvs H1=>sp vs H1 (λ_ _=>False) E)(hx:∀(H1:Hp) (s1:Shared) (ev:Value) (s':Shared),Inv X pins σ H1 s1->dY X.prog X.w X.stack H1 s1 E ev s'->Eh ev s'):Ic (Ie X.prog X.w) X.A (eval (.Call (.Name fnm p) (e0::es) [] q) X.env) Q Eh s:=by
 refine IS (kE I hgf hmf ?_ hdf);refine PySem.W.callWith_K (h₀:=X.base) I.ok.mod.kin hkf (aT (ha q pins s σ H _ (I.wish Eh) h) λus s1 ⟨vs,H1,I1,r,hsp⟩=>⟨I1.kIn,?_⟩) he hpl;have J:Inv X pins σ H1 s1:=I1.unwish;have hl:us.length=ps.length:=by rw[<-r.length];exact F.len _ _ _ _ hsp
 have hbb:IP s1 fd ⟨us,[]⟩ (ps.zip us):=by
  have z:=hb s1 us J.kIn (by rw[QV];exact hl);rw[QV]at z;exact z
 refine wpAny_call (IR (F.run X.A X.stack s1 H1 ⟨us,[]⟩ us vs _ _ hr J.env0 hbb r hsp) λres s' hq=>?_);cases res with
 |error ev=>exact hx H1 s1 ev s' J hq
 |ok fl=>
  cases fl with
  |ret u=>obtain⟨_,_,_,_,_,_,_,z⟩:=hq;exact z.elim
  |next=>exact False.elim hq
  |brk=>exact False.elim hq
  |cont=>exact False.elim hq
def BI {i:Nat}(hst:X.stack=X.env::X.outer)(hfr:X.env.frame=some X.env.locals)(F:bL X.prog X.w X.K X.mg X.base (dY X.prog X.w) k f fd ps sp)(hr:bP k X.A)(hgf:Gl X fnm)(hmf:X.mg fnm=some (.ref f))(hkf:Wh X.K (.ref f)=true)(hb:Binds X.K fd ps [])(hdf:(fnm==("__debug__":Str))=false)(ha:∀E,PA (X.wish E) (e0::es) t)(hG:j8 X.base G (.type "BaseException"))(hgG:Gl X gn)(hmG:X.mg gn=some (.ref G))(hdG:(gn==("__debug__":Str))=false)(hN:X.N.Nodup)(hi:X.N[i]?=some n)(hn:X.env.scope.names.lookup n=some .local)(hd1:(n==("__debug__":Str))=false)(hd2:(n==("__classdict__":Str))=false)(hts:cB X.env X.mg ns ts)(hz:ts.length<=1000)(hY:Gl X y)(hmY:X.mg y=some (.ref Y))(hdY:(y==("__debug__":Str))=false)(hI:Gl X "isinstance")(hmI:X.mg "isinstance"=none)(hV:Gl X "ValueError")(hmV:X.mg "ValueError"=none)(he:Ih (e0::es) X.env=(false,eval e0 X.env)::Ih es X.env:=by rfl)(hpl:(Ig q (Ih es X.env)).any (·.1)=false:=by rfl)(hs:Iq (.Call (.Name fnm p) (e0::es) [] q) none p'.line X.env=pure false:=by rfl):
  PS X (.Try [.Expr (.Call (.Name fnm p) (e0::es) [] q) p'] [.ExceptHandler (some (.Name gn np)) (some n) (ma n y ns p1 p2 p3 p4 p5 p6 p7 p8 p9 pa pb pc pd pe pf pg ph k1 k2) hp] [] [] pos)
   (λD σ H=>t σ H λvs H1=>sp vs H1 (λ_ _=>False) λcls _ H2=>∃C r,cls=.ref C/\eU X C G ts Y r/\∀p ts',H2 p=none->D.rt (.bl r) (aI H2 p (.tup ts'))):=by
 intro pins s σ H D I h;have hiσ:i<σ.length:=by rw[I.len];exact(Qa.mp hi).1
 refine wpAny_Try_except (Ip (Ir (qZ F hr hgf hmf hkf hb hdf (ha _) he hpl I h λH1 s1 ev s' J hq=>?_) I.quiet hs));obtain⟨C,e,tt,B,H2,rfl,os,bare,un,hok,fl,hB,C',rr,eC,hk,hD⟩:=hq;cases eC;exact Fd (D:=D) hst hfr J os bare un hok fl hB hk.ex hG hgG hmG hdG hN hi hn λoe E' hc=>Dn hk hc hts hz hY hmY hdY hI hmI hV hmV hi hn hd1 hd2 hiσ hD
end L2
namespace L2
open PySem PySem.Spec PySem.Calls PyProof.Rows
end L2
namespace Mini
open PySem PySem.Spec PyProof.Rows L2
set_option genInjectivity false in
structure Xc where
 g:Str
 rs:List Str
 os:List Str
noncomputable def Xc.xs(Q:Xc):List Str:=Q.rs++Q.os
def Xc.at {Q:Xc}{c:Nat}(h:Q.rs[c]?=some x):Q.xs[c]?=some x:=by
 unfold Xc.xs;rw[Qi (Qa.mp h).1];exact h
noncomputable def eZ:List Value:=[.type "ValueError",.type "Exception",.type "BaseException",.type "object"]
set_option tactic.hygienic true in
def pH {K:Qb}(X:K.In h)(q:WP K C eZ "ValueError.__new__"=true):(∀(x:Str) (mg:Str->Option Value),mg x=some (.ref C)->OwnCls x C eZ "ValueError.__new__" mg h)/\(Wy K C v=some true->j8 h C v):=by
 unfold WP at q;split at q
 .rename_i dd cd sl ho;split at q
  .rename_i C' bm k0 k1 k2 k3 n k5 hm hs;simp only[Qx,beq_iff_eq,WW]at q;obtain⟨⟨⟨⟨⟨rfl,rfl⟩,q1⟩,q2⟩,q3⟩,q4⟩:=q;have eo:=X _ _ ho;have em:Wy K C' v=some (cd.mro.contains v):=by
    unfold Wy PySem.W.clsIn;rw[ho];simp only[Wz];rw[hm];rfl
   obtain⟨a1,a2,a3,a4,a5,a6,a7,a8,a9,b1,b2⟩:=cd;dsimp only at hm q1 q3 q4 em;subst hm q1;have es:sl=#[k0,k1,k2,k3,some (.builtin "ValueError.__new__"),k5]:=by
    obtain⟨l⟩:=sl;simp only at hs;rw[hs]
   subst es;have T:=PySem.W.tail_of_in X q2;refine⟨λx mg hb=>⟨hb,bm,a4,a1,a5,a2,a6,a7,a8,a9,b1,dd,k0,k1,k2,k3,k5,_,eo,.of_isNs (PySem.W.isNs_of_in X q3),PySem.W.nsMap_none_of_in X q3 q4,T⟩,λz=>?_⟩;rw[em]at z;exact⟨a1,a5,a4,a2,bm,a6,a7,a8,a9,b1,dd,k0,k1,k2,k3,k5,_,eo,Option.some.inj z⟩
  .cases q
 .cases q
structure eR(K:Qb)(mg:Str->Option Value)(Q:Xc)(G:Addr):Prop where
 g:mg Q.g=some (.ref G)
 ge:WP K G eZ "ValueError.__new__"=true
 gb:Wy K G (.type "BaseException")=some true
 v:mg "ValueError"=none
 y:∀(c:Nat) (x:Str),Q.xs[c]?=some x->∃A,mg x=some (.ref A)
 x:∀(c:Nat) (x:Str),Q.rs[c]?=some x->∃A,mg x=some (.ref A)/\WP K A eZ "ValueError.__new__"=true/\dt K A/\Wy K A (.ref G)=some true/\QN K (.ref A) (.type "ValueError")=some true /\
  ∀(c':Nat) (x':Str) (A':Addr),Q.xs[c']?=some x'->mg x'=some (.ref A')->QN K (.ref A) (.ref A')=some (decide (c=c'))
noncomputable def RX(mg:Str->Option Value)(Q:Xc)(E:XK):VK:=λv H=>∃(c:Nat) (x:Str) (A:Addr),v=.int c/\Q.rs[c]?=some x/\mg x=some (.ref A)/\E (.ref A) none H
noncomputable def tN(K:Qb)(mg:Str->Option Value)(Q:Xc)(g:List Wd->Me->Rz):Sp:=λvs H _ E=>w9 K g vs H (RX mg Q E) E0
noncomputable def iP(sc:HP)(Q:Xc):List Expr->List Nat->Bool
 |[],[]=>true
 |.Name x _::es,c::cs=>cn sc x&&(zL x&&(decide (Q.xs[c]?=some x)&&iP sc Q es cs))
 |_,_=>false
inductive fu(C:Ctx)(Q:Xc)(xn:List (Nat×Str))(sc:HP)(N:List Str):Sm->List Stmt->Prop
 |ite {c:Ex}{y:Expr}{x msg:Str}{j k:Nat}{np cp p p1 p2:Pos}{rest:List Stmt}(rc:zw c=false) (ic:jd c=false) (hc:aF C sc N c (.e y)) (hx:Q.rs[j]?=some x) (hg:cn sc x=true) (ok:zL x=true) :
   fu C Q xn sc N (.ite c (.ret (.lit (.int j))) .never) (.If y [.Raise (some (.Call (.Name x np) [.Constant (.str msg) k p1] [] cp)) none p2] [] p::rest)
 |call {k:Nat}{a:Ex}{nm:Str}{y:Expr}{ys:List Expr}{p p' p2:Pos}{rest:List Stmt}(hk:xn.lookup k=some nm) (hg:cn sc nm=true) (ok:zL nm=true) (hs:(y::ys).all zu=true) (ha:aF C sc N a (.a (y::ys))) :
   fu C Q xn sc N (.ret (.call k a)) (.Expr (.Call (.Name nm p) (y::ys) [] p') p2::rest)
theorem aY.wish{C:Ctx}{X:Cx}{cl:Nat->List Wd->Me->Rz}{d:Nat}(h:aY C X cl d)(E:Value->Shared->Prop):aY C (X.wish E) cl d:=⟨h.room,h.calm,h.fn,h.con,h.blt⟩
def wY (h:zL x=true):(x==("__debug__":Str))=false/\(x==("__classdict__":Str))=false:=by
 unfold zL at h;simp only[Qx,WW]at h;exact⟨h.1.1,h.1.2⟩
noncomputable def iq(P:HS)(w:HU)(K:Qb)(mg:Str->Option Value)(base:HV)(Q:Xc)(xn:List (Nat×Str))(cl:Nat->List Wd->Me->Rz)(d:Nat):Prop:=∀(k:Nat) (nm:Str),xn.lookup k=some nm ->
 (∃f fd ps,mg nm=some (.ref f)/\Wh K (.ref f)=true/\Binds K fd ps []/\bL P w K mg base (dY P w) d f fd ps (tN K mg Q (cl k))) /\
 ∀ws m v m',cl k ws m=.ok v m'->∃(c:Nat) (x:Str),v=.int c/\Q.rs[c]?=some x
section
variable{C:Ctx}{Q:Xc}{xn:List (Nat×Str)}{cl:Nat->List Wd->Me->Rz}{d:Nat}{X:Cx}{G:Addr}
def BH {K:Qb}(S:aK K as m H)(hp:H p=none)(us:List V):Step as H as (aI H p (.tup us))/\aK K as m (aI H p (.tup us)):=by
 have T:Step as H as (aI H p (.tup us)):=⟨⟨[],by simp⟩,λb o h _=>by rw[zg (zA h hp)];exact h,λb hb=>.inl hb⟩;refine⟨T,S.keep T λb _ o e=>?_⟩;rw[zg (zA e hp)];exact e
def uW (hC:aY C X cl d)(hX:dq X.nox)(hO:eR X.K X.mg Q G)(hx:∀x A,X.mg x=some (.ref A)->WP X.K A eZ "ValueError.__new__"=true->OwnCls x A eZ "ValueError.__new__" X.mg X.base)(hp:kP (dY X.prog X.w) X E)(hr:md X E)(hF:iq X.prog X.w X.K X.mg X.base Q xn cl d)(h:fu C Q xn X.env.scope X.N s sts):bZ X sts (λ_ σ H=>y7 X.K (aX cl s) {nx:=λ_ _=>False,rt:=RX X.mg Q E} σ H):=by
 induction h with
 |@ite c y x msg j k np cp p p1 p2 rest rc ic hc hxs hg ok=>
  obtain⟨A,hm,hA,hz⟩:=hO.x j x hxs;have pR:=Dr (X:=X) (E:=E) (np:=np) (cpos:=cp) (pos:=p2) (hx x A hm hA) F.excBase_ValueError hC.calm (yn hg) hr (zB (AF (x:=msg) (j:=k) (pos:=p1)) yo) (wY ok).1;have pI:=lS (pos:=p) ((yS hc X hC rfl rfl).pt rc ic) (vl pR) (vQ (X:=X) (sts:=[]));intro pins s σ H D I q;refine vk pI (vQ (X:=X) (sts:=rest)) pins s σ H D I ?_;obtain⟨as,env,m,S,G',P⟩:=q;refine⟨as,env,m,S,G',az.bind P λw m1 as1 H1 v T1 S1 R1 P1=>?_⟩;cases w with
  |bl b=>
   obtain rfl:=am.mp R1;refine⟨b,rfl,?_⟩;cases b with
   |true=>
    refine qm ⟨show 1<=sizeLine by decide,?_⟩;obtain⟨c',x',A',e1,e2,e3,e4⟩:=P1 as1 H1 (.int j) .refl S1 (aa.mpr rfl);have e5:(j:Int)=c':=by injection e1
    have e6:j=c':=by lia
    subst e6;rw[hxs]at e2;cases e2;rw[hm]at e3;cases e3;exact e4
   |false=>exact P1.elim
  |_=>exact P1.elim
 |@call k a nm y ys p p' p2 rest hk hg ok hs ha=>
  obtain⟨⟨f,fd,ps,h1,h2,h3,h4⟩,_⟩:=hF k nm hk;have hs':=hs;rw[WS,Qx]at hs';intro pins s σ H D I q;have pa:PA (X.wish X.xe) (y::ys) (vY X.K (ah cl a)):=yS ha X hC rfl rfl;have go:Ic (Ie X.prog X.w) X.A (eval (.Call (.Name nm p) (y::ys) [] p') X.env) (λ_ s1=>SP X pins {nx:=λ_ _=>False,rt:=D.rt} .next s1) X.xe s:=by
   refine qZ (E:=E) h4 hC.room (yn hg) h1 h2 h3 (wY ok).1 pa (zm hs'.1) (yw hs'.2) I ?_ λH1 s1 ev s' J z=>hp pins σ H1 s1 ev s' J z;obtain⟨as,env,m,S,G',P⟩:=q;have P0:ao X.K as H (RX X.mg Q E) ((ah cl a env m).bind λw m1=>cl k (zt w) m1):=az.bind (r:=(ah cl a env m).bind λw m1=>cl k (zt w) m1) P λw m1 as1 H1 v T1 S1 R1 P1=>P1 as1 H1 v .refl S1 R1;exact⟨as,env,m,S,G',bS.bind P0 λw m1 as1 H1 vs T1 S1 R1 P1=>⟨as1,m1,zt w,S1,R1,P1⟩⟩
  refine Ip (Ir (Ii go (λv s1 z=>?_) λ_ _ z=>z) I.quiet (gO (by rfl)));obtain⟨_,_,_,z⟩:=z;exact z.elim
inductive IsT(C:Ctx)(Q:Xc)(xn:List (Nat×Str))(sc:HP)(N:List Str):Sm->List Stmt->Prop
 |mk {k y i:Nat}{a:Ex}{nm n ny:Str}{e0:Expr}{es ns:List Expr}{cs:List Nat}{rest:List Stmt}{p q p' np hp pos p1 p2 p3 p4 p5 p6 p7 p8 p9 pa pb pc pd pe pf pg ph:Pos}{k1 k2:Nat}
   (hk:xn.lookup k=some nm) (hg:cn sc nm=true) (ok:zL nm=true) (hs:(e0::es).all zu=true) (ha:aF C sc N a (.a (e0::es))) (gg:cn sc Q.g=true) (og:zL Q.g=true) (hi:N[i]?=some n) (hn:decide (sc.names.lookup n=some .local)=true) (on:zL n=true)
   (hns:iP sc Q ns cs=true) (hcs:cs.contains y=false) (hz:cs.length<=1000) (hy:Q.rs[y]?=some ny) (gy:cn sc ny=true) (oy:zL ny=true) (gI:cn sc "isinstance"=true) (gV:cn sc "ValueError"=true) :
   IsT C Q xn sc N (.ret (.cmp .eq (.call k a) (.lit (.int y)))) (.Try [.Expr (.Call (.Name nm p) (e0::es) [] q) p'] [.ExceptHandler (some (.Name Q.g np)) (some n) (ma n ny ns p1 p2 p3 p4 p5 p6 p7 p8 p9 pa pb pc pd pe pf pg ph k1 k2) hp] [] [] pos::rest)
theorem pG(hO:eR X.K X.mg Q G):∀{ns:List Expr}{cs:List Nat},iP X.env.scope Q ns cs=true->∃ts,cB X.env X.mg ns ts/\ts.length=cs.length /\
  ∀(c:Nat) (A:Addr),(∀(c':Nat) (x':Str) (A':Addr),Q.xs[c']?=some x'->X.mg x'=some (.ref A')->QN X.K (.ref A) (.ref A')=some (decide (c=c')))->PySem.W.kitAny X.K (.ref A) (ts.map Value.ref)=some (cs.any λc'=>decide (c=c'))
 |[],[],_=>⟨[],.nil,rfl,λc A _=>rfl⟩
 |[],_::_,h=>by cases h
 |e::es,[],h=>by cases e<;>cases h
 |e::es,c1::cs,h=>by
  cases e with
  |Name x p=>
   replace h:(cn X.env.scope x&&(zL x&&(decide (Q.xs[c1]?=some x)&&iP X.env.scope Q es cs)))=true:=h
   simp only[Qx,Kh]at h;obtain⟨h1,h2,h3,h4⟩:=h;obtain⟨ts,t1,t2,t3⟩:=pG hO h4;obtain⟨A,hm⟩:=hO.y c1 x h3;refine⟨A::ts,.cons (yn h1) hm (wY h2).1 t1,by simp[t2],λc B hB=>?_⟩;show(match QN X.K (.ref B) (.ref A)with
    |some true=>some true
    |some false=>PySem.W.kitAny X.K (.ref B) (ts.map Value.ref)
    |none=>none)=_
   rw[hB c1 x A h3 hm,t3 c B hB];by_cases z:c=c1
   .simp[z]
   .simp[z]
  |_=>cases h
def uU (hC:aY C X cl d)(hst:X.stack=X.env::X.outer)(hfr:X.env.frame=some X.env.locals)(hO:eR X.K X.mg Q G)(hb:∀A v,WP X.K A eZ "ValueError.__new__"=true->Wy X.K A v=some true->j8 X.base A v)(hF:iq X.prog X.w X.K X.mg X.base Q xn cl d)(hN:X.N.Nodup)(h:IsT C Q xn X.env.scope X.N s sts):bZ X sts (y7 X.K (aX cl s)):=by
 cases h with
 |@mk k y i a nm n ny e0 es ns cs rest p q p' np hp pos p1 p2 p3 p4 p5 p6 p7 p8 p9 pa pb pc pd pe pf pg ph k1 k2 hk hg ok hs ha gg og hi hn on hns hcs hz hy gy oy gI gV=>
  obtain⟨⟨f,fd,ps,h1,h2,h3,h4⟩,val⟩:=hF k nm hk;have hs':=hs;rw[WS,Qx]at hs';obtain⟨ts,t1,t2,t3⟩:=pG hO hns;obtain⟨Y,mY,_,_,_,_,_⟩:=hO.x y ny hy;have pT:=BI (X:=X) (G:=G) (Y:=Y) (ts:=ts) (p:=p) (q:=q) (p':=p') (np:=np) (hp:=hp) (pos:=pos) (p1:=p1) (p2:=p2) (p3:=p3) (p4:=p4) (p5:=p5) (p6:=p6) (p7:=p7) (p8:=p8) (p9:=p9) (pa:=pa) (pb:=pb) (pc:=pc) (pd:=pd) (pe:=pe) (pf:=pf) (pg:=pg) (ph:=ph) (k1:=k1) (k2:=k2)
   hst hfr h4 hC.room (yn hg) h1 h2 h3 (wY ok).1 (t:=vY X.K (ah cl a)) (λE=>yS ha (X.wish E) (hC.wish E) rfl rfl) (hb G _ hO.ge hO.gb) (yn gg) hO.g (wY og).1 hN hi (Kg hn) (wY on).1 (wY on).2 t1 (by rw[t2];exact hz)
   (yn gy) mY (wY oy).1 (yn gI) (hC.blt _ (by simp[zr])) (yn gV) hO.v (zm hs'.1) (yw hs'.2) (gO (by rfl))
  intro pins s σ H D I qq;refine vk pT (vQ (X:=X) (sts:=rest)) pins s σ H D I ?_;obtain⟨as,env,m,S,G',P⟩:=qq;have P0:ao X.K as H D.rt (ah cl (.cmp .eq (.call k a) (.lit (.int y))) env m):=az.bind P λw m1 as1 H1 v T1 S1 R1 P1=>P1 as1 H1 v .refl S1 R1;have e1:ah cl (.cmp .eq (.call k a) (.lit (.int y))) env m=(ah cl a env m).bind λw m1=>(cl k (zt w) m1).bind λu m2=>cV .eq u (.int y) m2:=by
   show(((ah cl a env m).bind λx m1=>cl k (zt x) m1).bind λu m2=>((Rz.ok (.int y) m2).bind λv m3=>cV .eq u v m3))=_;cases ah cl a env m<;>rfl
  rw[e1]at P0;refine⟨as,env,m,S,G',bS.bind P0 λw m1 as1 H1 vs T1 S1 R1 P1=>⟨as1,m1,zt w,S1,R1,?_⟩⟩;cases hcl:cl k (zt w) m1 with
  |exc c w' m2=>rw[hcl]at P1;exact P1.elim
  |no=>rw[hcl]at P1;exact P1.elim
  |ok u m2=>
   rw[hcl]at P1;obtain⟨c,x,rfl,hxs⟩:=val _ _ _ _ hcl;intro as2 H2 v T2 S2 R2;obtain rfl:=aa.mp R2;obtain⟨A,hmA,hAe,hAk,hAm,hAv,hAo⟩:=hO.x c x hxs;refine⟨c,x,A,rfl,hxs,hmA,A,decide (c=y),rfl,⟨hb A _ hAe hAm,hAk,hAv,_,_,t3 c A hAo,hAo y ny Y (Xc.at hy) mY,?_⟩,λp ts' hp=>?_⟩
   .by_cases z:c=y
    .subst z;have:(cs.any λc'=>decide (c=c'))=false:=by
      rw[VO];intro c' hc';have:=hcs;rw[List.contains_eq_any_beq,VO]at this;simpa using this c' hc'
     rw[this];rfl
    .simp[z]
   .obtain ⟨T3,S3⟩:=BH S2 hp ts';have P2:ao X.K as1 H1 D.rt (.ok (.bl (decide ((c:Int)=(y:Int)))) m2):=P1;have e2:decide ((c:Int)=(y:Int))=decide (c=y):=by
     by_cases z:c=y
     .simp[z]
     .have:¬(c:Int)=(y:Int):=by lia
      simp[z,this]
    rw[e2]at P2;exact P2 _ _ _ (T2.trans T3) S3 (am.mpr rfl)
end
structure iu(C:Ctx)(Q:Xc)(xn:List (Nat×Str))(d:bn):Prop where
 sc:v6 d.N d.ps (zy d.st)=true
 ar:d.ps.length=d.fn.ar
 sz:d.N.length=d.fn.sz
 body:IsT C Q xn (zy d.st) d.N d.fn.body (yJ d.st)
structure fq(C:Ctx)(Q:Xc)(xn:List (Nat×Str))(d:bn):Prop where
 sc:v6 d.N d.ps (zy d.st)=true
 ar:d.ps.length=d.fn.ar
 sz:d.N.length=d.fn.sz
 body:fu C Q xn (zy d.st) d.N d.fn.body (yJ d.st)
section
variable{P:HS}{w:HU}{K:Qb}{mg:Str->Option Value}{base:HV}{C:Ctx}{cl:Nat->List Wd->Me->Rz}{Q:Xc}{xn:List (Nat×Str)}{G:Addr}
def cf (h:ao K as H R (xH cl fn ws m)):ws.length=fn.ar:=by
 unfold xH at h;split at h
 .assumption
 .exact h.elim
set_option tactic.hygienic true in
def Fc (F:dO K d.on d.on d.st f fd)(hd:iu C Q xn d)(kb:K.In base)(hO:eR K mg Q G)(hF:iq P w K mg base Q xn cl k)(hfn:∀(i:Nat) (nm:Str),C.fns[i]?=some nm->∃f fd ps,mg nm=some (.ref f)/\Wh K (.ref f)=true/\Binds K fd ps []/\bL P w K mg base cQ k f fd ps (w9 K (cl i)))(hcon:kw K w mg C)(hblt:∀nm∈zr,mg nm=none):
  bL P w K mg base cQ (k+1) f fd d.ps (w9 K (xH cl d.fn)):=by
 obtain⟨h1,h2,h3,h4⟩:=hd;have Sc:=wL h1;refine F.ok Sc (λvs H Q' E h=>?_) (λcdv A outer s H vs Q' E hr h=>?_)
 .obtain ⟨as,m,ws,S,R,q⟩:=h;rw[<-R.length,cf q,h2]
 .obtain ⟨as,m,ws,S,R,q⟩:=h;have ha:=cf q;have hC:aY C (vn cQ P w K mg base d.N d.on (zy d.st) f cdv A outer s H E).nox cl k:=⟨hr,rfl,hfn,hcon,hblt⟩;refine⟨_,uU hC rfl rfl hO (λA v z1 z2=>(pH kb z1).2 z2) hF Sc.nd h4,as,yr d.fn ws,m,S,wM R ha h3,?_⟩;unfold xH at q;rw[Ka ha]at q;cases hr:aX cl d.fn.body (yr d.fn ws) m with
  |next e m1=>rw[hr]at q;exact λas' H' σ' T S' G'=>q as' H' .non T S' (aG.mpr rfl)
  |ret w m1=>rw[hr]at q;exact λas' H' v T S' R'=>q as' H' v T S' R'
  |brk e m1=>rw[hr]at q;exact q.elim
  |cont e m1=>rw[hr]at q;exact q.elim
  |exc c w e m1=>rw[hr]at q;exact q.elim
  |no=>rw[hr]at q;exact q.elim
set_option tactic.hygienic true in
def Fb (F:dO K d.on d.on d.st f fd)(hd:fq C Q xn d)(kb:K.In base)(hO:eR K mg Q G)(hF:iq P w K mg base Q xn cl k)(hfn:∀(i:Nat) (nm:Str),C.fns[i]?=some nm->∃f fd ps,mg nm=some (.ref f)/\Wh K (.ref f)=true/\Binds K fd ps []/\bL P w K mg base cQ k f fd ps (w9 K (cl i)))(hcon:kw K w mg C)(hblt:∀nm∈zr,mg nm=none):
  bL P w K mg base (dY P w) (k+1) f fd d.ps (tN K mg Q (xH cl d.fn)):=by
 obtain⟨h1,h2,h3,h4⟩:=hd;have Sc:=wL h1;obtain⟨oc,od,kV,doc,pm,an,cdv,ct,osl,rfl,lk,hcd⟩:=F.ex;refine oV lk hcd Sc (λvs H Q' E h=>?_) λA outer s H vs Q' E hr h=>?_
 .obtain ⟨as,m,ws,S,R,q⟩:=h;rw[<-R.length,cf q,h2]
 .obtain ⟨as,m,ws,S,R,q⟩:=h;have ha:=cf q;have hC:aY C (vn (dY P w) P w K mg base d.N d.on (zy d.st) f cdv A outer s H E) cl k:=⟨hr,rfl,hfn,hcon,hblt⟩;refine⟨_,uW hC ⟨Sc.nd,λ_=>rfl,PassesOwn.never⟩ hO (λx A z1 z2=>(pH (v:=.none) kb z2).1 x mg z1) BM Ds hF h4,as,yr d.fn ws,m,S,wM R ha h3,?_⟩;unfold xH at q;rw[Ka ha]at q;cases hr:aX cl d.fn.body (yr d.fn ws) m with
  |next e m1=>
   rw[hr]at q;intro as' H' σ' T S' G';obtain⟨_,_,_,z,_⟩:=q as' H' .non T S' (aG.mpr rfl);cases z
  |ret w m1=>rw[hr]at q;exact λas' H' v T S' R'=>q as' H' v T S' R'
  |brk e m1=>rw[hr]at q;exact q.elim
  |cont e m1=>rw[hr]at q;exact q.elim
  |exc c w e m1=>rw[hr]at q;exact q.elim
  |no=>rw[hr]at q;exact q.elim
def mw{sc:HP}{N:List Str}{s:Sm}{sts:List Stmt}(h:fu C Q xn sc N s sts)(hv:∀(k:Nat) (nm:Str),xn.lookup k=some nm->∀ws m v m',cl k ws m=.ok v m'->∃(c:Nat) (x:Str),v=.int c/\Q.rs[c]?=some x)(env:En)(m:Me):
  match aX cl s env m with
  |.ret v _=>∃(c:Nat) (x:Str),v=.int c/\Q.rs[c]?=some x
  |.next _ _=>False
  |_=>True:=by
 induction h generalizing env m with
 |@ite c y x msg j k np cp p p1 p2 rest rc ic hc hxs hg ok=>
  show match (ah cl c env m).bindS env (λx m1=>match x with
   |.bl true=>aX cl (.ret (.lit (.int j))) env m1
   |.bl false=>aX cl .never env m1
   |_=>.no)with
   |.ret v _=>_
   |.next _ _=>False
   |_=>True
  cases ah cl c env m with
  |ok w m1=>
   cases w with
   |bl b=>
    cases b with
    |true=>exact⟨j,x,rfl,hxs⟩
    |false=>trivial
   |_=>trivial
  |exc _ _ _=>trivial
  |no=>trivial
 |@call k a nm y ys p p' p2 rest hk hg ok hs ha=>
  show match ((ah cl a env m).bind λw m1=>cl k (zt w) m1).bindS env (λw m1=>.ret w m1)with
   |.ret v _=>_
   |.next _ _=>False
   |_=>True
  cases ah cl a env m with
  |ok w m1=>
   show match (cl k (zt w) m1).bindS env (λw m1=>.ret w m1)with
    |.ret v _=>_
    |.next _ _=>False
    |_=>True
   cases e:cl k (zt w) m1 with
   |ok v m2=>exact hv k nm hk _ _ _ _ e
   |exc _ _ _=>trivial
   |no=>trivial
  |exc _ _ _=>trivial
  |no=>trivial
set_option tactic.hygienic true in
def mR (hd:fq C Q xn d)(hv:∀(k:Nat) (nm:Str),xn.lookup k=some nm->∀ws m v m',cl k ws m=.ok v m'->∃(c:Nat) (x:Str),v=.int c/\Q.rs[c]?=some x)(ws:List Wd)(m:Me)(v:Wd)(m':Me)(h:xH cl d.fn ws m=.ok v m'):
  ∃(c:Nat) (x:Str),v=.int c/\Q.rs[c]?=some x:=by
 have z:=mw hd.body hv (yr d.fn ws) m;unfold xH at h;split at h
 .cases e:aX cl d.fn.body (yr d.fn ws) m with
  |ret w m1=>rw[e]at h z;cases h;exact z
  |next _ _=>rw[e]at z;exact z.elim
  |brk _ _=>rw[e]at h;cases h
  |cont _ _=>rw[e]at h;cases h
  |exc _ _ _ _=>rw[e]at h;cases h
  |no=>rw[e]at h;cases h
 .cases h
end
noncomputable def eL(i:Nat):Sm:=.ret (.and (.cmp .eq (.idx (.var i) (.lit (.int 0))) (.idx (.var i) (.lit (.int 1)))) (.and (.cmp .eq (.idx (.var i) (.lit (.int 0))) (.idx (.var i) (.lit (.int 2)))) (.cmp .eq (.idx (.var i) (.lit (.int 0))) (.idx (.var i) (.lit (.int 3))))))
noncomputable def fE(i:Nat):Sm:=.seq (.expr (.blt .sum (.pair (.var i) .unit))) (.ite (.cmp .eq (.blt .len (.pair (.var i) .unit)) (.lit (.int 4))) (eL i) .never)
noncomputable def ln(a b c d:Int):Bool:=decide (a=b)&&(decide (a=c)&&decide (a=d))
section
variable{cl:Nat->List Wd->Me->Rz}{env:En}{m:Me}{i:Nat}
def uT (h:kS m w=some xs):yW m w=some xs:=by
 cases w with
 |rol ys=>exact h
 |ref l=>exact h
 |_=>cases h
def Fa (h:vS xs=some t)(hl:xs.length=4):∃a b c d:Int,xs=[.int a,.int b,.int c,.int d]:=by
 have hd:∀{x:Wd}{r:List Wd}{t:Int},vS (x::r)=some t->∃j k,x=.int j/\vS r=some k:=λ{x r t} h=>by
  cases x with
  |int j=>
   simp only[vS,QO]at h;obtain⟨k,hk,_⟩:=h;exact⟨j,k,rfl,hk⟩
  |_=>cases h
 match xs,hl,h with
 |[x0,x1,x2,x3],_,h=>
  obtain⟨a,_,e0,h0⟩:=hd h;obtain⟨b,_,e1,h1⟩:=hd h0;obtain⟨c,_,e2,h2⟩:=hd h1;obtain⟨d,_,e3,h3⟩:=hd h2;exact⟨a,b,c,d,by rw[e0,e1,e2,e3]⟩
def Dm (hw:env[i]?=some (some w))(hs:yW m w=some [.int a,.int b,.int c,.int d]):aX cl (eL i) env m=.ret (.bl (ln a b c d)) m:=by
 have ev:∀m,ah cl (.var i) env m=.ok w m:=λm=>by
  show(match env[i]? with|some (some w)=>Rz.ok w m|_=>.no)=_;rw[hw]
 have ix:∀(k:Nat) (x:Int),[Wd.int a,.int b,.int c,.int d][k]?=some (.int x)->ah cl (.idx (.var i) (.lit (.int k))) env m=.ok (.int x) m:=λk x hx=>by
  show(ah cl (.var i) env m).bind (λx m1=>(Rz.ok (.int k) m1).bind λy m2=>vu x y m2)=_;rw[ev];show vu w (.int k) m=_;unfold vu;rw[hs];have hk:k<4:=by
   have:=(Qa.mp hx).1;simpa using this
  have e:ix 4 (k:Int)=some k:=by
   unfold Mini.ix;rw[Ka (by lia),Ka (by lia)];simp
  show(match (ix 4 (k:Int)).bind λj=>[Wd.int a,.int b,.int c,.int d][j]? with
   |some v=>Rz.ok v m
   |none=>.no)=_
  rw[e,Wz,hx]
 have c1:∀(x y:Int),cV .eq (.int x) (.int y) m=.ok (.bl (decide (x=y))) m:=λ_ _=>rfl;have e01:ah cl (.cmp .eq (.idx (.var i) (.lit (.int 0))) (.idx (.var i) (.lit (.int 1)))) env m=.ok (.bl (decide (a=b))) m:=by
  show(ah cl (.idx (.var i) (.lit (.int (0:Nat)))) env m).bind (λx m1=>(ah cl (.idx (.var i) (.lit (.int (1:Nat)))) env m1).bind λy m2=>cV .eq x y m2)=_;rw[ix 0 a rfl];show(ah cl (.idx (.var i) (.lit (.int (1:Nat)))) env m).bind (λy m2=>cV .eq (.int a) y m2)=_;rw[ix 1 b rfl];exact c1 a b
 have e02:ah cl (.cmp .eq (.idx (.var i) (.lit (.int 0))) (.idx (.var i) (.lit (.int 2)))) env m=.ok (.bl (decide (a=c))) m:=by
  show(ah cl (.idx (.var i) (.lit (.int (0:Nat)))) env m).bind (λx m1=>(ah cl (.idx (.var i) (.lit (.int (2:Nat)))) env m1).bind λy m2=>cV .eq x y m2)=_;rw[ix 0 a rfl];show(ah cl (.idx (.var i) (.lit (.int (2:Nat)))) env m).bind (λy m2=>cV .eq (.int a) y m2)=_;rw[ix 2 c rfl];exact c1 a c
 have e03:ah cl (.cmp .eq (.idx (.var i) (.lit (.int 0))) (.idx (.var i) (.lit (.int 3)))) env m=.ok (.bl (decide (a=d))) m:=by
  show(ah cl (.idx (.var i) (.lit (.int (0:Nat)))) env m).bind (λx m1=>(ah cl (.idx (.var i) (.lit (.int (3:Nat)))) env m1).bind λy m2=>cV .eq x y m2)=_;rw[ix 0 a rfl];show(ah cl (.idx (.var i) (.lit (.int (3:Nat)))) env m).bind (λy m2=>cV .eq (.int a) y m2)=_;rw[ix 3 d rfl];exact c1 a d
 have an:∀(p q:Ex) (x y:Bool),ah cl p env m=.ok (.bl x) m->ah cl q env m=.ok (.bl y) m->ah cl (.and p q) env m=.ok (.bl (x&&y)) m:=λp q x y h1 h2=>by
  show(ah cl p env m).bind (λx m1=>match x with
   |.bl true=>ah cl q env m1
   |.bl false=>.ok (.bl false) m1
   |_=>.no)=_
  rw[h1];cases x with
  |true=>exact h2
  |false=>rfl
 show(ah cl (.and _ (.and _ _)) env m).bindS env (λw m1=>.ret w m1)=_;rw[an _ _ _ _ e01 (an _ _ _ _ e02 e03)];rfl
def Dl {K:Qb}(P:az K as H D (aX cl (fE i) env m)):∃w a b c d,env[i]?=some (some w)/\kS m w=some [.int a,.int b,.int c,.int d]/\az K as H D (.ret (.bl (ln a b c d)) m):=by
 cases hw:env[i]? with
 |none=>
  have e:aX cl (fE i) env m=.no:=by
   show(match ((((match env[i]? with|some (some w)=>Rz.ok w m|_=>.no)).bind λx m1=>(Rz.ok (.tup []) m1).bind λy m2=>.ok (.tup (x::zt y)) m2).bind λx m1=>w5 .sum (zt x) m1).bindS env λ_ m1=>.next env m1 with
    |.next e1 m1=>aX cl _ e1 m1
    |r=>r)=_
   rw[hw];rfl
  rw[e]at P;exact P.elim
 |some o=>
  cases o with
  |none=>
   have e:aX cl (fE i) env m=.no:=by
    show(match ((((match env[i]? with|some (some w)=>Rz.ok w m|_=>.no)).bind λx m1=>(Rz.ok (.tup []) m1).bind λy m2=>.ok (.tup (x::zt y)) m2).bind λx m1=>w5 .sum (zt x) m1).bindS env λ_ m1=>.next env m1 with
     |.next e1 m1=>aX cl _ e1 m1
     |r=>r)=_
    rw[hw];rfl
   rw[e]at P;exact P.elim
  |some w=>
   have e:aX cl (fE i) env m=(match (w5 .sum [w] m).bindS env λ_ m1=>.next env m1 with
     |.next e1 m1=>aX cl (.ite (.cmp .eq (.blt .len (.pair (.var i) .unit)) (.lit (.int 4))) (eL i) .never) e1 m1
     |r=>r):=by
    show(match ((((match env[i]? with|some (some w)=>Rz.ok w m|_=>.no)).bind λx m1=>(Rz.ok (.tup []) m1).bind λy m2=>.ok (.tup (x::zt y)) m2).bind λx m1=>w5 .sum (zt x) m1).bindS env λ_ m1=>.next env m1 with
     |.next e1 m1=>aX cl _ e1 m1
     |r=>r)=_
    rw[hw];rfl
   rw[e]at P;have eb:w5 .sum [w] m=(match (kS m w).bind vS with
    |some i=>.ok (.int i) m
    |none=>.no):=rfl
   rw[eb]at P;cases hl:(kS m w).bind vS with
   |none=>rw[hl]at P;exact P.elim
   |some t=>
    rw[hl]at P;obtain⟨xs,h1,h2⟩:=Q2.mp hl;have hs:=uT h1;have P1:az K as H D (aX cl (.ite (.cmp .eq (.blt .len (.pair (.var i) .unit)) (.lit (.int 4))) (eL i) .never) env m):=P;have el:ah cl (.cmp .eq (.blt .len (.pair (.var i) .unit)) (.lit (.int 4))) env m=.ok (.bl (decide ((xs.length:Int)=4))) m:=by
     show(((((match env[i]? with|some (some w)=>Rz.ok w m|_=>.no)).bind λx m1=>(Rz.ok (.tup []) m1).bind λy m2=>.ok (.tup (x::zt y)) m2).bind λx m1=>w5 .len (zt x) m1).bind λx m1=>(Rz.ok (.int 4) m1).bind λy m2=>cV .eq x y m2)=_;rw[hw];have e2:w5 .len [w] m=.ok (.int xs.length) m:=by
      show(match yW m w with
       |some xs=>Rz.ok (.int xs.length) m
       |none=>.no)=_
      rw[hs]
     show(w5 .len [w] m).bind (λx m1=>(Rz.ok (.int 4) m1).bind λy m2=>cV .eq x y m2)=_;rw[e2];rfl
    have e3:aX cl (.ite (.cmp .eq (.blt .len (.pair (.var i) .unit)) (.lit (.int 4))) (eL i) .never) env m=(match decide ((xs.length:Int)=4)with
     |true=>aX cl (eL i) env m
     |false=>.no):=by
     show(ah cl (.cmp .eq (.blt .len (.pair (.var i) .unit)) (.lit (.int 4))) env m).bindS env (λx m1=>match x with
      |.bl true=>aX cl (eL i) env m1
      |.bl false=>aX cl .never env m1
      |_=>.no)=_
     rw[el];cases decide ((xs.length:Int)=4)<;>rfl
    rw[e3]at P1;cases z:decide ((xs.length:Int)=4)with
    |false=>rw[z]at P1;exact P1.elim
    |true=>
     rw[z]at P1;have hl4:xs.length=4:=by
      have:=Kg z;lia
     obtain⟨a,b,c,d,rfl⟩:=Fa h2 hl4;refine⟨w,a,b,c,d,rfl,h1,?_⟩;have P2:az K as H D (aX cl (eL i) env m):=P1;rw[Dm hw hs]at P2;exact P2
end
def uS (hC:aY C X cl d)(hi:X.N[i]?=some x)(hv:qK X.env.scope x=true)(ho:zL x=true)(g1:cn X.env.scope "min"=true)(g2:cn X.env.scope "max"=true):
  PS X (.Return (some (.Compare (.Call (.Name "min" p1) [.Name x p2] [] p3) [.Eq] [.Call (.Name "max" p4) [.Name x p5] [] p6] p7)) p8) (y7 X.K (aX cl (fE i))):=by
 have pv:∀{p:Pos},PE X (.Name x p) (hZ i):=λ{p}=>kK hi (gM hv) (wY ho).1 (wY ho).2;have b1:HX "min"=some (.builtin "min"):=by rfl
 have b2:HX "max"=some (.builtin "max"):=by rfl
 have c1:PE X (.Call (.Name "min" p1) [.Name x p2] [] p3) _:=yB (qJ hC.calm) (yn g1) (hC.blt _ (by simp[zr])) b1 (zB pv yo);have c2:PE X (.Call (.Name "max" p4) [.Name x p5] [] p6) _:=yB (qI hC.calm) (yn g2) (hC.blt _ (by simp[zr])) b2 (zB pv yo);refine PS.imp (gm (pos:=p8) (AC (pos:=p7) (AD c1 c2))) λD σ H h=>?_;obtain⟨as,env,m,S,G,P⟩:=h;obtain⟨w,a,b,c,e,hw,hl,P⟩:=Dl P;obtain⟨v,hv',R⟩:=G.2 i w hw;obtain⟨q,vs,rfl,hq,rr⟩:=lU S R hl;obtain⟨u0,r0,rfl,k0,rr⟩:=ak.mp rr;obtain⟨u1,r1,rfl,k1,rr⟩:=ak.mp rr;obtain⟨u2,r2,rfl,k2,rr⟩:=ak.mp rr;obtain⟨u3,r3,rfl,k3,rr⟩:=ak.mp rr;obtain rfl:=ay.mp rr;obtain rfl:=aa.mp k0;obtain rfl:=aa.mp k1;obtain rfl:=aa.mp k2;obtain rfl:=aa.mp k3;have fin:D.rt (.bl (ln a b c e)) H:=P as H _ .refl S (am.mpr rfl);refine⟨.ref q,hv',q,[a,b,c,e],rfl,hq,by simp,.ref q,hv',q,[a,b,c,e],rfl,hq,by simp,_,_,rfl,rfl,?_⟩;show D.rt (.bl (decide (xW [a,b,c,e]=xU [a,b,c,e]))) H;rw[CP];exact fin
inductive lf(C:Ctx)(sc:HP)(N:List Str):Sm->List Stmt->Prop
 |mk {s:Sm}{st:Stmt}{i:Nat}{x:Str}{p1 p2 p3 p4 p5 p6 p7 p8:Pos}(hs:bJ C sc N s (.s st)) (hi:N[i]?=some x) (hv:qK sc x=true) (ho:zL x=true) (g1:cn sc "min"=true) (g2:cn sc "max"=true) :
   lf C sc N (.seq s (fE i)) [st,.Return (some (.Compare (.Call (.Name "min" p1) [.Name x p2] [] p3) [.Eq] [.Call (.Name "max" p4) [.Name x p5] [] p6] p7)) p8]
structure iw(C:Ctx)(d:bn):Prop where
 sc:v6 d.N d.ps (zy d.st)=true
 ar:d.ps.length=d.fn.ar
 sz:d.N.length=d.fn.sz
 body:lf C (zy d.st) d.N d.fn.body (yJ d.st)
def uR (hC:aY C X cl d)(hX:dq X)(h:lf C X.env.scope X.N s sts):bZ X sts (y7 X.K (aX cl s)):=by
 cases h with
 |mk hs hi hv ho g1 g2=>exact pM (pL hC hX hs) (vl (uS hC hi hv ho g1 g2))
section
variable{P:HS}{w:HU}{K:Qb}{mg:Str->Option Value}{base:HV}{C:Ctx}{cl:Nat->List Wd->Me->Rz}
set_option tactic.hygienic true in
def E9 (F:dO K d.on d.on d.st f fd)(hd:iw C d)(hfn:∀(i:Nat) (nm:Str),C.fns[i]?=some nm->∃f fd ps,mg nm=some (.ref f)/\Wh K (.ref f)=true/\Binds K fd ps []/\bL P w K mg base cQ k f fd ps (w9 K (cl i)))(hcon:kw K w mg C)(hblt:∀nm∈zr,mg nm=none):
  bL P w K mg base cQ (k+1) f fd d.ps (w9 K (xH cl d.fn)):=by
 obtain⟨h1,h2,h3,h4⟩:=hd;have Sc:=wL h1;refine F.ok Sc (λvs H Q' E h=>?_) (λcdv A outer s H vs Q' E hr h=>?_)
 .obtain ⟨as,m,ws,S,R,q⟩:=h;rw[<-R.length,cf q,h2]
 .obtain ⟨as,m,ws,S,R,q⟩:=h;have ha:=cf q;have hC:aY C (vn cQ P w K mg base d.N d.on (zy d.st) f cdv A outer s H E).nox cl k:=⟨hr,rfl,hfn,hcon,hblt⟩;have hX:dq (vn cQ P w K mg base d.N d.on (zy d.st) f cdv A outer s H E).nox:=⟨Sc.nd,λ_=>rfl,PassesOwn.never⟩;refine⟨_,uR hC hX h4,as,yr d.fn ws,m,S,wM R ha h3,?_⟩;unfold xH at q;rw[Ka ha]at q;cases hr:aX cl d.fn.body (yr d.fn ws) m with
  |next e m1=>rw[hr]at q;exact λas' H' σ' T S' G'=>q as' H' .non T S' (aG.mpr rfl)
  |ret w m1=>rw[hr]at q;exact λas' H' v T S' R'=>q as' H' v T S' R'
  |brk e m1=>rw[hr]at q;exact q.elim
  |cont e m1=>rw[hr]at q;exact q.elim
  |exc c w e m1=>rw[hr]at q;exact q.elim
  |no=>rw[hr]at q;exact q.elim
end
noncomputable def fW:Nat->List bn->List (Nat×Str)
 |_,[]=>[]
 |n,d::r=>(n,d.nm)::fW (n+1) r
theorem gP:∀{XD:List bn}{n k:Nat}{nm:Str},(fW n XD).lookup k=some nm->∃j d,XD[j]?=some d/\d.nm=nm/\k=n+j
 |[],_,_,_,h=>by cases h
 |d::r,n,k,nm,h=>by
  unfold fW at h;rw[Wc]at h;cases e:k==n with
  |true=>
   rw[e]at h;cases h;exact⟨0,d,rfl,rfl,by simpa using e⟩
  |false=>
   rw[e]at h;obtain⟨j,d',h1,h2,h3⟩:=gP h;exact⟨j+1,d',h1,h2,by lia⟩
section
variable{P:HS}{w:HU}{K:Qb}{mg:Str->Option Value}{base:HV}{C:Ctx}{Q:Xc}{xn:List (Nat×Str)}{G:Addr}
theorem pF {D:List bn}(hC:C.fns=D.map (·.nm))(hxn:xn=fW D.length XD)(hD:∀d∈D,i8 C d\/iu C Q xn d\/iw C d)(hX:∀d∈XD,fq C Q xn d)(hB:∀d∈D,cu d)(hBX:∀d∈XD,cu d)(hK:∀d∈D,wB K mg d)(hKX:∀d∈XD,wB K mg d)(kb:K.In base)(hO:eR K mg Q G)(hcon:kw K w mg C)(hblt:∀nm∈zr,mg nm=none):
  ∀k:Nat,(∀(i:Nat) (d:bn),D[i]?=some d->∀f fd,dO K d.on d.on d.st f fd->bL P w K mg base cQ k f fd d.ps (w9 K (yC (D.map (·.fn)++XD.map (·.fn)) k i)))/\iq P w K mg base Q xn (yC (D.map (·.fn)++XD.map (·.fn)) k) k
 |0=>by
  have no:∀{i:Nat}{vs:List V}{H:Hp}{R:VK}{E:XK},¬w9 K (yC (D.map (·.fn)++XD.map (·.fn)) 0 i) vs H R E:=λ{i vs H R E} h=>by
   obtain⟨as,m,ws,S,R,q⟩:=h;exact q
  refine⟨λi d hi f fd F=>⟨λvs H R E h=>(no h).elim,λA outer s H args us vs R E _ _ _ _ h=>(no h).elim⟩,λk nm hk=>⟨?_,λws m v m' h=>by cases h⟩⟩;rw[hxn]at hk;obtain⟨j,d,h1,rfl,rfl⟩:=gP hk;obtain⟨f,fd,F,hm⟩:=hKX d (Qt h1);exact⟨f,fd,d.ps,hm,F.kp,F.binds (hBX d (Qt h1)),⟨λvs H R E h=>(no h).elim,λA outer s H args us vs R E _ _ _ _ h=>(no h).elim⟩⟩
 |k+1=>by
  obtain⟨ih,ihX⟩:=pF hC hxn hD hX hB hBX hK hKX kb hO hcon hblt k;have hfn:∀(j:Nat) (nm:Str),C.fns[j]?=some nm->∃f fd ps,mg nm=some (.ref f)/\Wh K (.ref f)=true/\Binds K fd ps []/\bL P w K mg base cQ k f fd ps (w9 K (yC (D.map (·.fn)++XD.map (·.fn)) k j)):=λj nm hj=>by
   rw[hC,Ql]at hj;cases hx:D[j]? with
   |none=>rw[hx]at hj;cases hj
   |some d'=>
    rw[hx]at hj;cases hj;obtain⟨f',fd',F',m'⟩:=hK d' (Qt hx);exact⟨f',fd',d'.ps,m',F'.kp,F'.binds (hB d' (Qt hx)),ih j d' hx f' fd' F'⟩
  have at1:∀{i:Nat}{d:bn},D[i]?=some d->yC (D.map (·.fn)++XD.map (·.fn)) (k+1) i=xH (yC (D.map (·.fn)++XD.map (·.fn)) k) d.fn:=λ{i d} hi=>by
   funext ws m;have z:(D.map bn.fn++XD.map bn.fn)[i]?=some d.fn:=by
    rw[Qi (by rw[Qv];exact(Qa.mp hi).1),Ql,hi];rfl
   show(match ((D.map bn.fn)++(XD.map bn.fn):List Fn)[i]? with
    |some fn=>xH (yC (D.map bn.fn++XD.map bn.fn) k) fn ws m
    |none=>.no)=_
   rw[z]
  have at2:∀{j:Nat}{d:bn},XD[j]?=some d->yC (D.map (·.fn)++XD.map (·.fn)) (k+1) (D.length+j)=xH (yC (D.map (·.fn)++XD.map (·.fn)) k) d.fn:=λ{j d} hi=>by
   funext ws m;have z:(D.map bn.fn++XD.map bn.fn)[D.length+j]?=some d.fn:=by
    rw[Qd (by rw[Qv];lia),Qv,Nat.add_sub_cancel_left,Ql,hi];rfl
   show(match ((D.map bn.fn)++(XD.map bn.fn):List Fn)[D.length+j]? with
    |some fn=>xH (yC (D.map bn.fn++XD.map bn.fn) k) fn ws m
    |none=>.no)=_
   rw[z]
  refine⟨λi d hi f fd F=>?_,λi nm hk=>?_⟩
  .rw[at1 hi];rcases hD d (Qt hi)with h|h|h
   .exact Du F h hfn hcon hblt
   .exact Fc F h kb hO ihX hfn hcon hblt
   .exact E9 F h hfn hcon hblt
  .rw[hxn]at hk;obtain⟨j,d,h1,rfl,rfl⟩:=gP hk;have hm:=Qt h1;obtain⟨f,fd,F,m'⟩:=hKX d hm;rw[at2 h1];exact⟨⟨f,fd,d.ps,m',F.kp,F.binds (hBX d hm),Fb F (hX d hm) kb hO ihX hfn hcon hblt⟩,mR (hX d hm) λk nm hk=>(ihX k nm hk).2⟩
end
def E8 {K:Qb}{ns:List Int}(hO:fY H)(hS:bp K H a (ns.map V.int))(h:∃m,yC T k i [.rol (ns.map Wd.int)] []=.ok (.bl true) m):
  w9 K (yC T k i) [.ref a] H (λv _=>v=.bl true) E:=by
 have e:∀l:List Fn,(l.map λf=>(⟨"",.Pass ⟨0,0,0,0⟩,[],[],f,""⟩:bn)).map (·.fn)=l:=λl=>by
  induction l with
  |nil=>rfl
  |cons f l ih=>show f::_=_;rw[ih]
 have z:=Dt (D:=T.map λf=>(⟨"",.Pass ⟨0,0,0,0⟩,[],[],f,""⟩:bn)) (k:=k) (i:=i) (E:=E) hO hS;rw[e]at z;exact z h
def uF {l:PySem.W.OpenLaw}{Kp:HQ->Qb}{D:List bn}{dl:bn}(hn:l.most=some n)(hn2:n<=sizeLine)(hdf:d.params.defaults=[])(hr:bP k Ji)(hY:∀(w:HU) (h:HV),YP w h->(Kp w.params).In h)(hC:C.fns=D.map (·.nm))(hxn:xn=fW D.length XD)(hD:∀d∈D,i8 C d\/iu C Q xn d\/iw C d)(hX:∀d∈XD,fq C Q xn d)(hB:∀d∈D,cu d)(hBX:∀d∈XD,cu d)(hi:D[i]?=some dl)(hx:dl.ps=[x])(hnm:d.name=dl.nm)(F:∀(w:HU) (mg:Str->Option Value) (fa:Addr) (h:HV),(Kp w.params).In h->h.Ns HW mg->mg d.name=some (.ref fa) ->
   ((∀e∈D,wB (Kp w.params) mg e)/\kw (Kp w.params) w mg C/\∀nm∈zr,mg nm=none)/\(∀e∈XD,wB (Kp w.params) mg e)/\∃G,eR (Kp w.params) mg Q G)(hpure:∀ns:List Int,ns.length<=n->∃m,yC (D.map (·.fn)++XD.map (·.fn)) k i [.rol (ns.map Wd.int)] []=.ok (.bl true) m):
  V2 q loose XP YP l.row.toRowW d [] (λf vs=>PySem.call f vs):=by
 refine L2.C5 (n:=n) (k:=k) (x:=x) (CX:=λ_=>cQ) (sp:=λw=>w9 (Kp w.params) (yC (D.map (·.fn)++XD.map (·.fn)) k i)) hn hn2 hdf hr hY ?_ (λw H a ns hl hO hS=>E8 hO hS (hpure ns hl)) λ_ _ _ _ _ z=>z;intro w mg fa h KX Gn hmg;obtain⟨⟨h1,h2,h3⟩,h4,G,h5⟩:=F w mg fa h KX Gn hmg;obtain⟨f,fd,Ff,hm⟩:=h1 dl (Qt hi);rw[hnm,hm]at hmg;cases hmg;refine⟨fd,λs u=>?_,λbase kb nb=>?_⟩
 .obtain ⟨oc,od,kV,doc,pm,an,cdv,ct,osl,rfl,lk,hcd⟩:=Ff.ex;have z:=hB dl (Qt hi) kV doc pm an cdv ct [u] (by rw[hx];rfl);rw[hx]at z;exact .of_eq z
 .rw[<-hx];exact(pF hC hxn hD hX hB hBX h1 h4 kb h5 h2 h3 k).1 i dl hi fa fd Ff
end Mini
namespace Mini
namespace Vl
inductive Dat where
 |non|bl (b:Bool)|int (i:Int)|str (s:List Nat)|tup (xs:List Dat)|lst (xs:List Dat)|scr (ns:List Int)
deriving Inhabited
inductive Lv where|no|top|full
deriving DecidableEq,Inhabited
abbrev aJ:=List (Option Dat)
inductive Rd where|ok (d:Dat)|exc (c:Nat) (d:Dat)|no
deriving Inhabited
noncomputable def Rd.bind(r:Rd)(f:Dat->Rd):Rd:=match r with
 |.ok d=>f d
 |.exc c d=>.exc c d
 |.no=>.no
mutual
noncomputable def ax:Dat->Bool
 |.lst _=>false
 |.tup xs=>aW xs
 |.non=>true
 |.bl _=>true
 |.int _=>true
 |.str _=>true
 |.scr _=>true
noncomputable def aW:List Dat->Bool
 |[]=>true
 |d::ds=>ax d&&aW ds
end
mutual
noncomputable def yV:Nat->Dat->Bool
 |0,_=>false
 |k+1,.tup xs=>bo k xs
 |k+1,.lst xs=>bo k xs
 |_+1,.int _=>true
 |_+1,_=>false
noncomputable def bo:Nat->List Dat->Bool
 |_,[]=>true
 |k,d::ds=>yV k d&&bo k ds
end
mutual
noncomputable def dm:Dat->Dat->Bool
 |.tup a,.tup b=>bO a b
 |.lst a,.lst b=>bO a b
 |.int a,.int b=>decide (a=b)
 |_,_=>false
noncomputable def bO:List Dat->List Dat->Bool
 |[],[]=>true
 |x::xs,y::ys=>dm x y&&bO xs ys
 |_,_=>false
end
noncomputable def xo:Dat->Option (List Dat)
 |.tup xs=>some xs
 |.lst xs=>some xs
 |.scr ns=>some (ns.map .int)
 |_=>none
noncomputable def ff:Dat->Option (List Dat)
 |.lst xs=>some xs
 |.scr ns=>some (ns.map .int)
 |_=>none
noncomputable def yf(xs:List Dat):Rd:=if xs.length<=av then .ok (.lst xs)else .no
noncomputable def zX(op:Bo)(x y:Dat):Rd:=match x,y with
 |.int i,.int j=>match op with
  |.add=>.ok (.int (i+j))
  |.sub=>.ok (.int (i-j))
  |.mul=>if small i || small j then .ok (.int (i*j))else .no
  |.fdiv=>if 0<j/\j<1073741824 then .ok (.int (i/j))else .no
  |.mod=>if 0<j then .ok (.int (i%j))else .no
  |.pow=>if 0<=j/\j<=1000000/\small i=true then .ok (.int (i^j.toNat))else .no
  |.shr=>if 0<=j/\j<=1000 then .ok (.int (i/2^j.toNat))else .no
  |.band=>if 0<=i/\j=1 then .ok (.int (i%2))else .no
 |.lst xs,.lst ys=>match op with
  |.add=>yf (xs++ys)
  |_=>.no
 |.lst xs,.int k=>match op with
  |.mul=>if -av<=k/\k<=av then yf (Qz k.toNat xs).flatten else .no
  |_=>.no
 |.tup xs,.tup ys=>match op with
  |.add=>if xs.length+ys.length<=av then .ok (.tup (xs++ys))else .no
  |_=>.no
 |_,_=>.no
noncomputable def et(x y:Dat):Option Bool:=if yV yL x&&yV yL y then some (dm x y)else none
noncomputable def iR(x:Dat)(ys:List Dat):Option Bool:=if yV yL x&&bo yL ys then some (ys.any λy=>dm y x)else none
noncomputable def fD:Option Bool->Rd
 |some b=>.ok (.bl b)
 |none=>.no
noncomputable def lm(r:Int->Int->Bool)(x y:Dat):Rd:=match x,y with
 |.int i,.int j=>.ok (.bl (r i j))
 |_,_=>.no
noncomputable def vD:List Dat->Option (List Int)
 |[]=>some []
 |.int i::r=>(vD r).map (i::·)
 |_=>none
noncomputable def xg(op:Co)(x y:Dat):Rd:=match op with
 |.eq=>fD (et x y)
 |.ne=>fD ((et x y).map (!·))
 |.isin=>match xo y with
  |some ys=>fD (iR x ys)
  |none=>.no
 |.lt=>lm (λi j=>decide (i<j)) x y
 |.le=>lm (λi j=>decide (i<=j)) x y
noncomputable def fh(t:Tg)(x:Dat):Bool:=match t with
 |.int=>match x with
  |.int _=>true
  |.bl _=>true
  |_=>false
 |.bool=>match x with
  |.bl _=>true
  |_=>false
 |.str=>match x with
  |.str _=>true
  |_=>false
 |.tuple=>match x with
  |.tup _=>true
  |_=>false
 |.list=>match x with
  |.scr _=>true
  |.lst _=>true
  |_=>false
 |.dict=>match x with
  |_=>false
noncomputable def gQ:List Dat->Option Int
 |[]=>some 0
 |.int i::r=>(gQ r).map (i+·)
 |_=>none
noncomputable def fV:List Dat->Option (List (Dat×Dat))
 |[]=>some []
 |.tup [x,y]::r=>(fV r).map ((x,y)::·)
 |_=>none
noncomputable def yy(b:dZ)(ws:List Dat):Rd:=match b with
 |.len=>match ws with
  |[x]=>match xo x with
   |some xs=>.ok (.int xs.length)
   |none=>.no
  |_=>.no
 |.int=>match ws with
  |[.int i]=>.ok (.int i)
  |[.bl b]=>.ok (.int (b2i b))
  |_=>.no
 |.list=>match ws with
  |[x]=>match xo x with
   |some xs=>yf xs
   |none=>.no
  |_=>.no
 |.sum=>match ws with
  |[x]=>match (ff x).bind gQ with
   |some i=>.ok (.int i)
   |none=>.no
  |_=>.no
 |.abs=>match ws with
  |[.int i]=>.ok (.int (if i<0 then -i else i))
  |_=>.no
 |.max2=>match ws with
  |[.int i,.int j]=>.ok (.int (if j > i then j else i))
  |_=>.no
noncomputable def yj(x y:Dat):Rd:=match y with
 |.int i=>match xo x with
  |some xs=>match (ix xs.length i).bind λj=>xs[j]? with
   |some v=>.ok v
   |none=>.no
  |none=>.no
 |_=>.no
noncomputable def yd(lo st:Int)(n:Nat):List Dat:=(Qr n).map λ(i:Nat)=>.int (lo+st*(i:Int))
noncomputable def eX:List Dat->Option (List (List Int))
 |[]=>some []
 |.tup ws::r=>match vD ws,eX r with
  |some [a,b,c],some ks=>some ([a,b,c]::ks)
  |_,_=>none
 |_=>none
noncomputable def ij(x:Dat):Option (List (List Int)):=match x with
 |.lst ds=>eX ds
 |_=>none
noncomputable def lJ(k:Dk)(x:Dat):Bool:=match k with
 |.srt=>true
 |.rvl=>true
noncomputable def iA(k:Dk)(x y z:Dat):Rd:=match k with
 |.srt=>match ij x with
  |some ks=>match wx (List Int) (ks.map (0::·)) ks with
   |some es=>yf (es.reverse.map λk=>.tup [.int (k.getD 1 0),.int (k.getD 2 0)])
   |none=>.no
  |none=>.no
 |.rvl=>match ff x with
  |some xs=>yf xs.reverse
  |none=>.no
noncomputable def vE(a b c:Dat):Rd:=match a,b,c with
 |.int a,.int b,.int c=>if -av<=a/\a<=av/\-av<=b/\b<=av/\(c=1\/c=-1\/c=-2)then .ok (.tup (yd a c (wV a b c)))else .no
 |_,_,_=>.no
noncomputable def zZ{α:Type}(c e:α->Rd):List α->List Dat->Rd
 |[],acc=>yf acc
 |x::xs,acc=>(c x).bind λb=>match b with
  |.bl true=>(e x).bind λy=>if acc.length<av then zZ c e xs (acc++[y])else .no
  |.bl false=>zZ c e xs acc
  |_=>.no
noncomputable def cE(d:Dat):Option (List Dat):=match d with
 |.tup xs=>some xs
 |.scr ns=>some (ns.map .int)
 |.lst xs=>if xs.length<=av then some xs else none
 |_=>none
noncomputable def fI:Dat->Option (List Dat)
 |.tup xs=>some xs
 |.lst xs=>some xs
 |_=>none
noncomputable def xK(k:Kd)(x y:Dat):Option (List (Dat×Dat)):=match k,x,y with
 |.zip,x,y=>match fI x,fI y with
  |some xs,some ys=>if xs.length<=av/\ys.length<=av then some (xs.zip ys)else none
  |_,_=>none
 |.enum,.lst xs,.int s=>if xs.length<=av then some ((yd s 1 xs.length).zip xs)else none
 |.prs,.lst xs,.int _=>if xs.length<=av then fV xs else none
 |.ptp,.tup xs,.int _=>if xs.length<=av then fV xs else none
 |_,_,_=>none
noncomputable def zP:Dat->List Dat
 |.tup xs=>xs
 |_=>[]
noncomputable def m9:Wd->Option Dat
 |.non=>some .non
 |.bl b=>some (.bl b)
 |.int i=>some (.int i)
 |.str s=>some (.str s)
 |_=>none
noncomputable def aq(cl:Nat->List Dat->Rd):Ex->aJ->Rd
 |.var i,de=>match de[i]? with
  |some (some d)=>.ok d
  |_=>.no
 |.lit w,_=>match m9 w with
  |some d=>.ok d
  |none=>.no
 |.bin op a b,de=>(aq cl a de).bind λx=>(aq cl b de).bind λy=>zX op x y
 |.neg a,de=>(aq cl a de).bind λx=>match x with
  |.int i=>.ok (.int (-i))
  |_=>.no
 |.not a,de=>(aq cl a de).bind λx=>match x with
  |.bl b=>.ok (.bl (! b))
  |_=>.no
 |.and a b,de=>(aq cl a de).bind λx=>match x with
  |.bl true=>aq cl b de
  |.bl false=>.ok (.bl false)
  |_=>.no
 |.or a b,de=>(aq cl a de).bind λx=>match x with
  |.bl false=>aq cl b de
  |.bl true=>.ok (.bl true)
  |_=>.no
 |.cmp op a b,de=>(aq cl a de).bind λx=>(aq cl b de).bind λy=>xg op x y
 |.chain p q a b c,de=>(aq cl a de).bind λx=>(aq cl b de).bind λy=>(xg p x y).bind λz=>match z with
  |.bl true=>(aq cl c de).bind λu=>xg q y u
  |.bl false=>.ok (.bl false)
  |_=>.no
 |.unit,_=>.ok (.tup [])
 |.pair a b,de=>(aq cl a de).bind λx=>(aq cl b de).bind λy=>.ok (.tup (x::zP y))
 |.call k a,de=>(aq cl a de).bind λx=>cl k (zP x)
 |.blt b a,de=>(aq cl a de).bind λx=>yy b (zP x)
 |.isi t a,de=>(aq cl a de).bind λx=>.ok (.bl (fh t x))
 |.lst a,de=>(aq cl a de).bind λx=>yf (zP x)
 |.tup a,de=>(aq cl a de).bind λx=>if(zP x).length<=av then .ok (.tup (zP x))else .no
 |.idx a b,de=>(aq cl a de).bind λx=>(aq cl b de).bind λy=>yj x y
 |.dop k a b c,de=>(aq cl a de).bind λx=>match lJ k x with
  |true=>(aq cl b de).bind λy=>(aq cl c de).bind λz=>iA k x y z
  |false=>.no
 |.meth _ _ _,_=>.no
 |.rng a b c,de=>(aq cl a de).bind λx=>(aq cl b de).bind λy=>(aq cl c de).bind λz=>vE x y z
 |.comp elt it cond,de=>(aq cl it de).bind λx=>match cE x with
  |some xs=>zZ (λx=>aq cl cond (de++[some x])) (λx=>aq cl elt (de++[some x])) xs []
  |none=>.no
 |.compP k elt a b cond,de=>(aq cl a de).bind λx=>(aq cl b de).bind λy=>match xK k x y with
  |some ps=>zZ (λp=>aq cl cond (de++[some p.1]++[some p.2])) (λp=>aq cl elt (de++[some p.1]++[some p.2])) ps []
  |none=>.no
 |.lrng a,de=>(aq cl a de).bind λx=>match x with
  |.int j=>if -av<=j/\j<=av then yf (yd 0 1 j.toNat)else .no
  |_=>.no
def jp (h:env[i]?=some (some w))(m:Me):ah cl (.var i) env m=.ok w m:=by
 show(match env[i]? with|some (some w)=>Rz.ok w m|_=>.no)=_;rw[h]
def xy (h:de[i]?=some (some d)):aq cl (.var i) de=.ok d:=by
 show(match de[i]? with|some (some d)=>Rd.ok d|_=>.no)=_;rw[h]
def xc (h:de[i]?=none\/de[i]?=some none):aq cl (.var i) de=.no:=by
 show(match de[i]? with|some (some d)=>Rd.ok d|_=>.no)=_;rcases h with h|h<;>rw[h]
def sL (h:aq cl (.var i) de=.ok d):de[i]?=some (some d):=by
 cases z:de[i]? with
 |none=>rw[xc (.inl z)]at h;cases h
 |some o=>
  cases o with
  |none=>rw[xc (.inr z)]at h;cases h
  |some e=>rw[xy z]at h;cases h;rfl
mutual
noncomputable def ai(R:Nat->Prop)(m:Me):Dat->Wd->Prop
 |.non,w=>w=.non
 |.bl b,w=>w=.bl b
 |.int i,w=>w=.int i
 |.str s,w=>w=.str s
 |.scr ns,w=>w=.rol (ns.map Wd.int)
 |.tup ds,w=>∃xs,w=.tup xs/\ae R m ds xs
 |.lst ds,w=>∃l xs,w=.ref l/\R l/\m[l]?=some (.lst xs)/\ae R m ds xs
noncomputable def ae(R:Nat->Prop)(m:Me):List Dat->List Wd->Prop
 |[],xs=>xs=[]
 |d::ds,xs=>∃x r,xs=x::r/\ai R m d x/\ae R m ds r
end
noncomputable def Le(m m':Me):Prop:=∀(l:Nat) o,m[l]?=some o->m'[l]?=some o
def Le.refl(m:Me):Le m m:=λ_ _ h=>h
def Le.trans{a b c:Me}(h:Le a b)(k:Le b c):Le a c:=λl o z=>k l o (h l o z)
def Le.app(m x:Me):Le m (m++x):=λl o z=>by
 obtain⟨hl,_⟩:=Qa.mp z;rw[Qi hl];exact z
def Le.len (h:Le a b):a.length<=b.length:=by
 rcases Nat.lt_or_ge b.length a.length with z|z
 .have:=h b.length a[b.length] (Qq z);have:=(Qa.mp this).1;lia
 .exact z
noncomputable def Rf(R:Nat->Prop)(n:Nat):Nat->Prop:=λl=>R l\/n<=l
mutual
theorem ai.frame{R R':Nat->Prop}{m m':Me}(h:∀(l:Nat) o,R l->m[l]?=some o->R' l/\m'[l]?=some o):∀(d:Dat) (w:Wd),ai R m d w->ai R' m' d w
 |.non,w,q=>by unfold ai at q ⊢;exact q
 |.bl b,w,q=>by unfold ai at q ⊢;exact q
 |.int b,w,q=>by unfold ai at q ⊢;exact q
 |.str b,w,q=>by unfold ai at q ⊢;exact q
 |.scr b,w,q=>by unfold ai at q ⊢;exact q
 |.tup ds,w,q=>by
  unfold ai at q ⊢;obtain⟨xs,rfl,q⟩:=q;exact⟨xs,rfl,ae.frame h ds xs q⟩
 |.lst ds,w,q=>by
  unfold ai at q ⊢;obtain⟨l,xs,rfl,r,z,q⟩:=q;exact⟨l,xs,rfl,(h l _ r z).1,(h l _ r z).2,ae.frame h ds xs q⟩
theorem ae.frame{R R':Nat->Prop}{m m':Me}(h:∀(l:Nat) o,R l->m[l]?=some o->R' l/\m'[l]?=some o):∀(ds:List Dat) (xs:List Wd),ae R m ds xs->ae R' m' ds xs
 |[],xs,q=>by unfold ae at q ⊢;exact q
 |d::ds,xs,q=>by
  unfold ae at q ⊢;obtain⟨x,r,rfl,a,b⟩:=q;exact⟨x,r,rfl,ai.frame h d x a,ae.frame h ds r b⟩
end
def ai.up{R:Nat->Prop}{m m':Me}{d:Dat}{w:Wd}(n:Nat)(h:Le m m')(q:ai R m d w):ai (Rf R n) m' d w:=
 ai.frame (λl o r z=>⟨.inl r,h l o z⟩) d w q
def ae.up{R:Nat->Prop}{m m':Me}{d:List Dat}{w:List Wd}(n:Nat)(h:Le m m')(q:ae R m d w):ae (Rf R n) m' d w:=
 ae.frame (λl o r z=>⟨.inl r,h l o z⟩) d w q
theorem aZ:∀{ds:List Dat}{xs:List Wd},ae R m ds xs↔ds.length=xs.length/\∀(i:Nat) d x,ds[i]?=some d->xs[i]?=some x->ai R m d x
 |[],xs=>by
  unfold ae;constructor
  .rintro rfl;exact⟨rfl,by simp⟩
  .rintro ⟨h,_⟩;exact WO h.symm
 |d::ds,xs=>by
  unfold ae;constructor
  .rintro ⟨x,r,rfl,a,b⟩;obtain⟨hl,hb⟩:=aZ.mp b;refine⟨by simp[hl],λi e y h1 h2=>?_⟩;cases i with
   |zero=>simp at h1 h2;subst h1;subst h2;exact a
   |succ i=>simp at h1 h2;exact hb i e y h1 h2
  .rintro ⟨hl,h⟩;cases xs with
   |nil=>cases hl
   |cons x r=>
    refine⟨x,r,rfl,h 0 d x rfl rfl,aZ.mpr ⟨by simpa using hl,λi e y h1 h2=>h (i+1) e y (by simpa using h1) (by simpa using h2)⟩⟩
def ae.len (h:ae R m ds xs):ds.length=xs.length:=(aZ.mp h).1
def ae.get (h:ae R m ds xs){i:Nat}(z:ds[i]?=some d):∃x,xs[i]?=some x/\ai R m d x:=by
 obtain⟨hl,h⟩:=aZ.mp h;obtain⟨hi,_⟩:=Qa.mp z;exact⟨xs[i],Qq (by lia),h i d _ z (Qq (by lia))⟩
def ae.nil{R:Nat->Prop}{m:Me}:ae R m [] []:=by unfold ae;rfl
def ae.cons{R:Nat->Prop}{m:Me}{d:Dat}{x:Wd}{ds:List Dat}{xs:List Wd}(a:ai R m d x)(b:ae R m ds xs):ae R m (d::ds) (x::xs):=by
 unfold ae;exact⟨x,xs,rfl,a,b⟩
def ae.cons_inv (h:ae R m (d::ds) xs):∃x r,xs=x::r/\ai R m d x/\ae R m ds r:=by
 unfold ae at h;exact h
def ae.nil_inv (h:ae R m [] xs):xs=[]:=by unfold ae at h;exact h
theorem ae.app:∀{ds es:List Dat}{xs ys:List Wd},ae R m ds xs->ae R m es ys->ae R m (ds++es) (xs++ys)
 |[],es,xs,ys,a,b=>by rw[a.nil_inv];exact b
 |d::ds,es,xs,ys,a,b=>by
  obtain⟨x,r,rfl,p,q⟩:=a.cons_inv;exact .cons p (ae.app q b)
theorem ae.drop{R:Nat->Prop}{m:Me}(n:Nat){ds:List Dat}{xs:List Wd}(h:ae R m ds xs):ae R m (ds.drop n) (xs.drop n):=by
 obtain⟨hl,h⟩:=aZ.mp h;refine aZ.mpr ⟨by simp[hl],λi d x a b=>h (n+i) d x (by simpa using a) (by simpa using b)⟩
set_option tactic.hygienic true in
theorem ae.take{R:Nat->Prop}{m:Me}(n:Nat){ds:List Dat}{xs:List Wd}(h:ae R m ds xs):ae R m (ds.take n) (xs.take n):=by
 obtain⟨hl,h⟩:=aZ.mp h;refine aZ.mpr ⟨by simp[hl],λi d x a b=>?_⟩;rw[List.getElem?_take]at a b;split at a
 .next z=>rw[Ka z]at b;exact h i d x a b
 .cases a
theorem ae.rev:∀{ds:List Dat}{xs:List Wd},ae R m ds xs->ae R m ds.reverse xs.reverse
 |[],xs,a=>by rw[a.nil_inv];exact .nil
 |d::ds,xs,a=>by
  obtain⟨x,r,rfl,p,q⟩:=a.cons_inv;rw[Wp,Wp];exact ae.app (ae.rev q) (.cons p .nil)
theorem ae.set{R:Nat->Prop}{m:Me}{ds:List Dat}{xs:List Wd}(h:ae R m ds xs)(j:Nat){d:Dat}{x:Wd}(z:ai R m d x):ae R m (ds.set j d) (xs.set j x):=by
 obtain⟨hl,h⟩:=aZ.mp h;refine aZ.mpr ⟨by simp[hl],λi e y a b=>?_⟩;rw[QI]at a b;by_cases q:j=i
 .rw[Ka q]at a b;split at a
  .split at b
   .cases a;cases b;exact z
   .cases b
  .cases a
 .rw[Kb q]at a b;exact h i e y a b
theorem ae.rep (h:ae R m ds xs):∀k:Nat,ae R m (Qz k ds).flatten (Qz k xs).flatten
 |0=>.nil
 |k+1=>by
  rw[QW,QW,Wg,Wg];exact ae.app h (ae.rep h k)
theorem fv:∀(l:List Int),ae R m (l.map Dat.int) (l.map Wd.int)
 |[]=>.nil
 |i::l=>.cons (by unfold ai;rfl) (fv l)
def aa:ai R m (.int i) w↔w=.int i:=by unfold ai;exact Iff.rfl
def am:ai R m (.bl i) w↔w=.bl i:=by unfold ai;exact Iff.rfl
def aG:ai R m .non w↔w=.non:=by unfold ai;exact Iff.rfl
def aM:ai R m (.str s) w↔w=.str s:=by unfold ai;exact Iff.rfl
def ba:ai R m (.scr s) w↔w=.rol (s.map Wd.int):=by unfold ai;exact Iff.rfl
def aj:ai R m (.tup ds) w↔∃xs,w=.tup xs/\ae R m ds xs:=by
 constructor
 .intro h;unfold ai at h;exact h
 .intro h;unfold ai;exact h
def aA:ai R m (.lst ds) w↔∃l xs,w=.ref l/\R l/\m[l]?=some (.lst xs)/\ae R m ds xs:=by
 constructor
 .intro h;unfold ai at h;exact h
 .intro h;unfold ai;exact h
noncomputable def ag(R:Nat->Prop)(m:Me)(r:Rz)(rd:Rd):Prop:=match rd with
 |.ok d=>∃w m',r=.ok w m'/\Le m m'/\ai (Rf R m.length) m' d w
 |.exc c d=>∃w m',r=.exc c w m'/\Le m m'/\ai (Rf R m.length) m' d w
 |.no=>True
def ag.lift{R:Nat->Prop}{m m1:Me}{r:Rz}{rd:Rd}(h:Le m m1)(q:ag (Rf R m.length) m1 r rd):ag R m r rd:=by
 have hl:=h.len;have fr:∀(m':Me) (d:Dat) (w:Wd),ai (Rf (Rf R m.length) m1.length) m' d w->ai (Rf R m.length) m' d w:=λm' d w=>ai.frame (λl o z k=>⟨by rcases z with (z|z)|z;exact .inl z;exact .inr z;exact .inr (by lia),k⟩) d w;cases rd with
 |ok d=>obtain⟨w,m',rfl,k,z⟩:=q;exact⟨w,m',rfl,h.trans k,fr _ _ _ z⟩
 |exc c d=>obtain⟨w,m',rfl,k,z⟩:=q;exact⟨w,m',rfl,h.trans k,fr _ _ _ z⟩
 |no=>trivial
theorem ag.bind{R:Nat->Prop}{m:Me}{r:Rz}{rd:Rd}{f:Wd->Me->Rz}{g:Dat->Rd}(h:ag R m r rd)
  (k:∀d w m',Le m m'->ai (Rf R m.length) m' d w->ag (Rf R m.length) m' (f w m') (g d)):ag R m (r.bind f) (rd.bind g):=by
 cases rd with
 |ok d=>obtain⟨w,m',rfl,l,z⟩:=h;exact ag.lift l (k d w m' l z)
 |exc c d=>obtain⟨w,m',rfl,l,z⟩:=h;exact⟨w,m',rfl,l,z⟩
 |no=>trivial
def dF (h:ai R m d w):ag R m (.ok w m) (.ok d):=
 ⟨w,m,rfl,Le.refl m,h.up _ (Le.refl m)⟩
theorem ag.no{R:Nat->Prop}{m:Me}{r:Rz}:ag R m r .no:=trivial
def ag.new{R:Nat->Prop}{m:Me}{ds:List Dat}{xs:List Wd}(h:ae R m ds xs):ag R m (alloc m xs) (yf ds):=by
 unfold yf alloc;rw[h.len];by_cases z:xs.length<=av
 .rw[Ka z,Ka z];exact⟨_,_,rfl,Le.app m _,aA.mpr ⟨_,xs,rfl,.inr (Qo _),by simp,h.up _ (Le.app m _)⟩⟩
 .rw[Kb z,Kb z];exact ag.no
def wN (h:ai R m d w)(z:xo d=some ds):∃xs,yW m w=some xs/\ae R m ds xs:=by
 cases d with
 |tup es=>obtain⟨xs,rfl,q⟩:=aj.mp h;cases z;exact⟨xs,rfl,q⟩
 |lst es=>
  obtain⟨l,xs,rfl,_,e,q⟩:=aA.mp h;cases z;exact⟨xs,by show zC m l=_;unfold zC;rw[e],q⟩
 |scr ns=>rw[ba.mp h];cases z;exact⟨_,rfl,fv ns⟩
 |_=>cases z
def pU (h:ai R m d w)(z:ff d=some ds):∃xs,kS m w=some xs/\ae R m ds xs:=by
 cases d with
 |lst es=>
  obtain⟨l,xs,rfl,_,e,q⟩:=aA.mp h;cases z;exact⟨xs,by show zC m l=_;unfold zC;rw[e],q⟩
 |scr ns=>rw[ba.mp h];cases z;exact⟨_,rfl,fv ns⟩
 |_=>cases z
theorem tL:∀{a b:List Int},a.map Wd.int=b.map Wd.int->a=b
 |[],[],_=>rfl
 |[],_::_,h=>by cases h
 |_::_,[],h=>by cases h
 |x::a,y::b,h=>by
  simp only[Wm,List.cons.injEq,Wd.int.injEq]at h;rw[h.1,tL h.2]
mutual
theorem ai.det{R R':Nat->Prop}{m:Me}:∀(d e:Dat) (w:Wd),ai R m d w->ai R' m e w->d=e
 |.non,e,w,q,z=>by rw[aG.mp q]at z;cases e<;>unfold ai at z<;>first|rfl|(exfalso;simp at z)
 |.bl b,e,w,q,z=>by rw[am.mp q]at z;cases e<;>unfold ai at z<;>first|(injection z with z;rw[z])|(exfalso;simp at z)
 |.int b,e,w,q,z=>by rw[aa.mp q]at z;cases e<;>unfold ai at z<;>first|(injection z with z;rw[z])|(exfalso;simp at z)
 |.str b,e,w,q,z=>by rw[aM.mp q]at z;cases e<;>unfold ai at z<;>first|(injection z with z;rw[z])|(exfalso;simp at z)
 |.scr b,e,w,q,z=>by rw[ba.mp q]at z;cases e<;>unfold ai at z<;>first|(injection z with z;rw[tL z])|(exfalso;simp at z)
 |.tup ds,e,w,q,z=>by
  obtain⟨xs,rfl,q1⟩:=aj.mp q;cases e with
  |tup es=>obtain⟨ys,e,z1⟩:=aj.mp z;cases e;rw[ae.det ds es xs q1 z1]
  |_=>exfalso;unfold ai at z;simp at z
 |.lst ds,e,w,q,z=>by
  obtain⟨l,xs,rfl,_,hm,q1⟩:=aA.mp q;cases e with
  |lst es=>obtain⟨l',ys,e,_,hn,z1⟩:=aA.mp z;cases e;rw[hm]at hn;cases hn;rw[ae.det ds es xs q1 z1]
  |_=>exfalso;unfold ai at z;simp at z
theorem ae.det{R R':Nat->Prop}{m:Me}:∀(ds es:List Dat) (xs:List Wd),ae R m ds xs->ae R' m es xs->ds=es
 |[],es,xs,q,z=>by
  rw[q.nil_inv]at z;cases es with
  |nil=>rfl
  |cons e es=>obtain⟨_,_,h,_⟩:=z.cons_inv;cases h
 |d::ds,es,xs,q,z=>by
  obtain⟨x,r,rfl,a,b⟩:=q.cons_inv;cases es with
  |nil=>cases z.nil_inv
  |cons e es=>
   obtain⟨_,_,h,a',b'⟩:=z.cons_inv;cases h;rw[ai.det d e x a a',ae.det ds es r b b']
end
def oJ(d:Dat):yV 0 d=false:=by cases d<;>rfl
mutual
theorem tK:∀(k:Nat) (d:Dat),yV k d=true->dm d d=true
 |0,d,h=>by rw[oJ]at h;cases h
 |k+1,.int b,h=>by show decide (b=b)=true;simp
 |k+1,.tup ds,h=>bD k ds h
 |k+1,.lst ds,h=>bD k ds h
 |k+1,.non,h=>Kc (show false=true from h) (by decide)
 |k+1,.bl _,h=>Kc (show false=true from h) (by decide)
 |k+1,.str _,h=>Kc (show false=true from h) (by decide)
 |k+1,.scr _,h=>Kc (show false=true from h) (by decide)
theorem bD:∀(k:Nat) (ds:List Dat),bo k ds=true->bO ds ds=true
 |k,[],h=>rfl
 |k,d::ds,h=>by
  replace h:(yV k d&&bo k ds)=true:=h
  show(dm d d&&bO ds ds)=true;rw[Qx]at h ⊢;exact⟨tK k d h.1,bD k ds h.2⟩
end
theorem gR (ih:∀(d e:Dat) (x y:Wd),yV k d=true->yV k e=true->ai R m d x->ai R m e y->cv m k x y=some (dm d e)):
  ∀(ds es:List Dat) (xs ys:List Wd),bo k ds=true->bo k es=true->ae R m ds xs->ae R m es ys->∃q,cL (cv m k) xs ys=some q/\(q&&decide (xs.length=ys.length))=bO ds es
 |[],es,xs,ys,h1,h2,a,b=>by
  rw[a.nil_inv];cases es with
  |nil=>rw[b.nil_inv];exact⟨true,rfl,rfl⟩
  |cons e es=>obtain⟨y,r,rfl,_,_⟩:=b.cons_inv;exact⟨true,rfl,rfl⟩
 |d::ds,es,xs,ys,h1,h2,a,b=>by
  obtain⟨x,r,rfl,p,q⟩:=a.cons_inv;cases es with
  |nil=>rw[b.nil_inv];exact⟨true,rfl,rfl⟩
  |cons e es=>
   obtain⟨y,s,rfl,p',q'⟩:=b.cons_inv
   replace h1:(yV k d&&bo k ds)=true:=h1
   replace h2:(yV k e&&bo k es)=true:=h2
   rw[Qx]at h1 h2;obtain⟨t,ht,hb⟩:=gR ih ds es r s h1.2 h2.2 q q';refine⟨dm d e&&t,?_,?_⟩
   .unfold cL;rw[ih d e x y h1.1 h2.1 p p',ht];rfl
   .show (dm d e&&t&&decide (r.length+1=s.length+1))=(dm d e&&bO ds es);simp only[<-hb,Nat.succ_inj,Bool.and_assoc]
def bA (h:m[l]?=some (.lst xs)):bb m l=true:=by unfold bb;rw[h]
def kG (h:m[l]?=some (.lst xs)):(if bb m l&&true then some false else none)=some false:=by rw[bA h];rfl
theorem mv:∀(k:Nat) (d e:Dat) (x y:Wd),yV k d=true->yV k e=true->ai R m d x->ai R m e y->cv m k x y=some (dm d e)
 |0,d,e,x,y,h,_,_,_=>by rw[oJ]at h;cases h
 |k+1,d,e,x,y,h1,h2,a,b=>by
  have ih:=mv (R:=R) (m:=m) k;cases d with
  |tup ds=>
   obtain⟨xs,rfl,a1⟩:=aj.mp a;cases e with
   |tup es=>
    obtain⟨ys,rfl,b1⟩:=aj.mp b;obtain⟨q,h,e⟩:=gR ih ds es xs ys h1 h2 a1 b1;show(cL (cv m k) xs ys).map (· && decide (xs.length=ys.length))=some (bO ds es);rw[h,<-e];rfl
   |lst es=>
    obtain⟨l,ys,rfl,_,hm,b⟩:=aA.mp b;exact kG hm
   |int _=>rw[aa.mp b];rfl
   |_=>exact Kc (show false=true from h2) (by decide)
  |lst ds=>
   have a0:=a;obtain⟨l,xs,rfl,_,hm,a⟩:=aA.mp a;cases e with
   |lst es=>
    have b0:=b;obtain⟨l',ys,rfl,_,hn,b⟩:=aA.mp b;show(if l=l' then(if bb m l then some true else none)else match m[l]?,m[l']? with
     |some (.lst xs),some (.lst ys)=>if xs.length=ys.length then cL (cv m k) xs ys else some false
     |_,_=>none)=_
    by_cases q:l=l'
    .subst q;rw[Ka rfl,Ka (bA hm)];rw[ai.det _ _ _ a0 b0]at *
     rw[tK (k+1) _ h2]
    .rw[Kb q,hm,hn];obtain⟨q,h,e⟩:=gR ih ds es xs ys h1 h2 a b;show(if xs.length=ys.length then cL (cv m k) xs ys else some false)=some (bO ds es);by_cases z:xs.length=ys.length
     .simp only[z,if_true,h,<-e];simp
     .simp only[z,if_false,<-e];simp
   |tup es=>obtain⟨ys,rfl,b⟩:=aj.mp b;exact kG hm
   |int _=>rw[aa.mp b];exact kG hm
   |_=>exact Kc (show false=true from h2) (by decide)
  |int _=>
   rw[aa.mp a];cases e with
   |lst es=>obtain⟨l',ys,rfl,_,hn,b⟩:=aA.mp b;exact kG hn
   |tup es=>obtain⟨ys,rfl,b⟩:=aj.mp b;rfl
   |int _=>rw[aa.mp b];rfl
   |_=>exact Kc (show false=true from h2) (by decide)
  |_=>exact Kc (show false=true from h1) (by decide)
set_option tactic.hygienic true in
def sK (h:et d e=some q)(a:ai R m d x)(b:ai R m e y):cv m yL x y=some q:=by
 unfold et at h;split at h
 .next z=>simp only[Qx]at z;cases h;exact mv yL d e x y z.1 z.2 a b
 .cases h
theorem sJ (h:yV yL d=true)(a:ai R m d x):∀(es:List Dat) (ys:List Wd),bo yL es=true->ae R m es ys->eg (cv m yL) x ys=some (es.any λe=>dm e d)
 |[],ys,_,b=>by rw[b.nil_inv];rfl
 |e::es,ys,z,b=>by
  obtain⟨y,r,rfl,p,q⟩:=b.cons_inv
  replace z:(yV yL e&&bo yL es)=true:=z
  rw[Qx]at z;show(match cv m yL y x with
   |some a=>(eg (cv m yL) x r).map (a || ·)
   |none=>none)=_
  rw[mv yL e d y x z.1 h p a,sJ h a es r z.2 q];rfl
set_option tactic.hygienic true in
def BG (h:iR d es=some q)(a:ai R m d x)(b:ae R m es ys):eg (cv m yL) x ys=some q:=by
 unfold iR at h;split at h
 .next z=>simp only[Qx]at z;cases h;exact sJ z.1 a es ys z.2 b
 .cases h
theorem ag.int{R:Nat->Prop}{m:Me}{i:Int}:ag R m (.ok (.int i) m) (.ok (.int i)):=dF (aa.mpr rfl)
theorem ag.bl{R:Nat->Prop}{m:Me}{i:Bool}:ag R m (.ok (.bl i) m) (.ok (.bl i)):=dF (am.mpr rfl)
def sI (op:Bo)(a:ai R m d x)(b:ai R m e y):ag R m (di op x y m) (zX op d e):=by
 cases d with
 |int i=>
  rw[aa.mp a];cases e with
  |int j=>
   rw[aa.mp b];cases op<;>simp only[di,zX]
   .exact ag.int
   .exact ag.int
   .by_cases z:(small i || small j)=true
    .rw[Ka z,Ka z];exact ag.int
    .rw[Kb z,Kb z];exact ag.no
   .by_cases z:0<j/\j<1073741824
    .rw[Ka z,Ka z];exact ag.int
    .rw[Kb z,Kb z];exact ag.no
   .by_cases z:0<j
    .rw[Ka z,Ka z];exact ag.int
    .rw[Kb z,Kb z];exact ag.no
   .by_cases z:0<=j/\j<=1000000/\small i=true
    .rw[Ka z,Ka z];exact ag.int
    .rw[Kb z,Kb z];exact ag.no
   .by_cases z:0<=j/\j<=1000
    .rw[Ka z,Ka z];exact ag.int
    .rw[Kb z,Kb z];exact ag.no
   .by_cases z:0<=i/\j=1
    .rw[Ka z,Ka z];exact ag.int
    .rw[Kb z,Kb z];exact ag.no
  |_=>exact ag.no
 |lst ds=>
  obtain⟨l,xs,rfl,_,hm,a1⟩:=aA.mp a;cases e with
  |lst es=>
   obtain⟨l',ys,rfl,_,hn,b1⟩:=aA.mp b;cases op<;>first|exact ag.no|skip
   simp only[di,zX,hm,hn];exact ag.new (a1.app b1)
  |int k=>
   rw[aa.mp b];cases op<;>first|exact ag.no|skip
   simp only[di,zX,hm];by_cases z:-(av:Int)<=k/\k<=(av:Int)
   .rw[Ka z,Ka z];exact ag.new (a1.rep _)
   .rw[Kb z,Kb z];exact ag.no
  |_=>exact ag.no
 |tup ds=>
  obtain⟨xs,rfl,a1⟩:=aj.mp a;cases e with
  |tup es=>
   obtain⟨ys,rfl,b1⟩:=aj.mp b;cases op<;>first|exact ag.no|skip
   simp only[di,zX];have h1:=a1.len;have h2:=b1.len;rw[h1,h2];by_cases z:xs.length+ys.length<=av
   .rw[Ka z,Ka z];exact dF (aj.mpr ⟨_,rfl,a1.app b1⟩)
   .rw[Kb z,Kb z];exact ag.no
  |_=>exact ag.no
 |_=>exact ag.no
def sH (r:Int->Int->Bool)(a:ai R m d x)(b:ai R m e y):ag R m (qt r x y m) (lm r d e):=by
 cases d with
 |int i=>
  rw[aa.mp a];cases e with
  |int j=>rw[aa.mp b];exact ag.bl
  |_=>exact ag.no
 |_=>exact ag.no
def sG (h:∀b,q=some b->p=some b):ag R m (dI p m) (fD q):=by
 cases q with
 |none=>exact ag.no
 |some b=>rw[h b rfl];exact ag.bl
def DS (h:∀b,q=some b->p=some b):ag R m (dI (p.map (!·)) m) (fD (q.map (!·))):=by
 cases q with
 |none=>exact ag.no
 |some b=>rw[h b rfl];exact ag.bl
theorem j9:∀{ds:List Dat}{xs:List Wd}{k:List Int},ae R m ds xs->vD ds=some k->ww xs=some k
 |[],xs,k,a,h=>by rw[a.nil_inv];exact h
 |d::ds,xs,k,a,h=>by
  obtain⟨x,r,rfl,p,q⟩:=a.cons_inv;cases d with
  |int j=>
   rw[aa.mp p];simp only[vD,QO]at h;obtain⟨k,hk,rfl⟩:=h;simp only[ww,j9 q hk,QR]
  |_=>simp[vD]at h
def gS (op:Co)(a:ai R m d x)(b:ai R m e y):ag R m (cV op x y m) (xg op d e):=by
 cases op with
 |eq=>exact sG λq h=>sK h a b
 |ne=>exact DS λq h=>sK h a b
 |isin=>
  simp only[cV,xg];cases z:xo e with
  |none=>
   cases e with
   |_=>exact ag.no
  |some es=>
   obtain⟨ys,h,q⟩:=wN b z;rw[h];exact sG λt h=>BG h a q
 |lt=>exact sH _ a b
 |le=>exact sH _ a b
def BF (t:Tg)(a:ai R m d x):ag R m (dI (dw t x m) m) (.ok (.bl (fh t d))):=by
 have h:dw t x m=some (fh t d):=by
  cases d with
  |non=>rw[aG.mp a];cases t<;>rfl
  |bl _=>rw[am.mp a];cases t<;>rfl
  |int _=>rw[aa.mp a];cases t<;>rfl
  |str _=>rw[aM.mp a];cases t<;>rfl
  |scr _=>rw[ba.mp a];cases t<;>rfl
  |tup _=>obtain⟨xs,rfl,_⟩:=aj.mp a;cases t<;>rfl
  |lst _=>obtain⟨l,xs,rfl,_,hm,_⟩:=aA.mp a;cases t<;>(show(match m[l]? with|some (.lst _)=>_|none=>_)=_;rw[hm];rfl)
 rw[h];exact ag.bl
theorem sF:∀{ds:List Dat}{xs:List Wd}{i:Int},ae R m ds xs->gQ ds=some i->vS xs=some i
 |[],xs,i,a,h=>by rw[a.nil_inv];exact h
 |d::ds,xs,i,a,h=>by
  obtain⟨x,r,rfl,p,q⟩:=a.cons_inv;cases d with
  |int j=>
   rw[aa.mp p];simp only[gQ,QO]at h;obtain⟨k,hk,rfl⟩:=h;simp only[vS,sF q hk,QR]
  |_=>simp[gQ]at h
theorem DR:∀{ds:List Dat}{xs:List Wd}{k:List Int},ae R m ds xs->vD ds=some k->ww xs=some k
 |[],xs,k,q,h=>by rw[q.nil_inv];exact h
 |d::ds,xs,k,q,h=>by
  obtain⟨x,r,rfl,a,b⟩:=q.cons_inv;cases d with
  |int i=>
   have h':(vD ds).map (i::·)=some k:=h;obtain⟨k',e,rfl⟩:=QO.mp h';rw[aa.mp a];show(ww r).map (i::·)=_;rw[DR b e];rfl
  |_=>cases h
def BE (b:dZ)(a:ae R m ds xs):ag R m (w5 b xs m) (yy b ds):=by
 have one:∀{d:Dat}{xs:List Wd},ae R m [d] xs->∃x,xs=[x]/\ai R m d x:=by
  intro d xs h;obtain⟨x,r,rfl,p,q⟩:=h.cons_inv;rw[q.nil_inv];exact⟨x,rfl,p⟩
 cases b with
 |len=>
  cases ds with
  |nil=>exact ag.no
  |cons d ds=>
   cases ds with
   |cons _ _=>exact ag.no
   |nil=>
    obtain⟨x,rfl,p⟩:=one a;show ag R m _ (match xo d with|some i=>.ok (.int i.length)|none=>.no);cases z:xo d with
    |none=>exact ag.no
    |some i=>
     obtain⟨ys,h,q⟩:=wN p z;simp only[w5,h,q.len];exact ag.int
 |int=>
  cases ds with
  |nil=>exact ag.no
  |cons d ds=>
   cases d with
   |int i=>
    cases ds with
    |cons _ _=>exact ag.no
    |nil=>obtain⟨x,rfl,p⟩:=one a;rw[aa.mp p];exact ag.int
   |bl i=>
    cases ds with
    |cons _ _=>exact ag.no
    |nil=>obtain⟨x,rfl,p⟩:=one a;rw[am.mp p];exact ag.int
   |_=>exact ag.no
 |list=>
  cases ds with
  |nil=>exact ag.no
  |cons d ds=>
   cases ds with
   |cons _ _=>exact ag.no
   |nil=>
    obtain⟨x,rfl,p⟩:=one a;show ag R m _ (match xo d with|some i=>yf i|none=>.no);cases z:xo d with
    |none=>exact ag.no
    |some i=>
     obtain⟨ys,h,q⟩:=wN p z;simp only[w5,h];exact ag.new q
 |sum=>
  cases ds with
  |nil=>exact ag.no
  |cons d ds=>
   cases ds with
   |cons _ _=>exact ag.no
   |nil=>
    obtain⟨x,rfl,p⟩:=one a;show ag R m _ (match (ff d).bind gQ with|some i=>.ok (.int i)|none=>.no);cases z:(ff d).bind gQ with
    |none=>exact ag.no
    |some i=>
     obtain⟨es,z1,z2⟩:=Q2.mp z;obtain⟨ys,h,q⟩:=pU p z1;simp only[w5,h,Wz,sF q z2];exact ag.int
 |abs=>
  cases ds with
  |nil=>exact ag.no
  |cons d ds=>
   cases d with
   |int i=>
    cases ds with
    |cons _ _=>exact ag.no
    |nil=>obtain⟨x,rfl,p⟩:=one a;rw[aa.mp p];exact ag.int
   |_=>exact ag.no
 |max2=>
  cases ds with
  |nil=>exact ag.no
  |cons d ds=>
   cases d with
   |int i=>
    cases ds with
    |nil=>exact ag.no
    |cons e ds=>
     cases e with
     |int j=>
      cases ds with
      |cons _ _=>exact ag.no
      |nil=>
       obtain⟨x,r,rfl,p,q⟩:=a.cons_inv;obtain⟨y,rfl,q1⟩:=one q;rw[aa.mp p,aa.mp q1];exact ag.int
     |_=>exact ag.no
   |_=>exact ag.no
def BD (a:ai R m d x)(b:ai R m e y):ag R m (vu x y m) (yj d e):=by
 cases e with
 |int i=>
  rw[aa.mp b];simp only[yj,vu];cases z:xo d with
  |none=>exact ag.no
  |some ds=>
   obtain⟨xs,h,q⟩:=wN a z;simp only[h];cases z:(ix ds.length i).bind λj=>ds[j]? with
   |none=>exact ag.no
   |some v=>
    obtain⟨j,h1,h2⟩:=Q2.mp z;obtain⟨x,h3,p⟩:=q.get h2;rw[q.len]at h1;simp only[h1,Wz,h3];exact dF p
 |_=>exact ag.no
theorem vF (st:Int):∀(n:Nat) (lo:Int),ae R m (yd lo st n) (qx lo st n)
 |0,lo=>.nil
 |n+1,lo=>by
  have h:yd lo st (n+1)=.int lo::yd (lo+st) st n:=by
   unfold yd;rw[WQ,Wm,Wn];congr 1
   .simp
   .apply Q4;intro i _;show Dat.int _=Dat.int _;congr 1;rw[show((Nat.succ i:Nat):Int)=(i:Int)+1 from rfl,Int.mul_add,Int.mul_one];lia
  rw[h];exact .cons (aa.mpr rfl) (vF st n _)
theorem sE:∀{ds:List Dat}{xs:List Wd}{ks:List (List Int)},ae R m ds xs->eX ds=some ks->qy xs=some ks
 |[],_,ks,q,h=>by rw[q.nil_inv];exact h
 |d::ds,_,ks,q,h=>by
  obtain⟨x,r,rfl,a,b⟩:=q.cons_inv;cases d with
  |tup ws=>
   obtain⟨us,rfl,a1⟩:=aj.mp a;unfold eX at h;unfold qy;cases e1:vD ws with
   |none=>simp only[e1]at h;cases h
   |some k=>
    rw[j9 a1 e1];cases e2:eX ds with
    |none=>
     simp only[e1,e2]at h;cases h
    |some ks'=>
     rw[sE b e2];simp only[e1,e2]at h;exact h
  |_=>cases h
def DQ (a:ai R m d x)(h:ij d=some ks):ie x m=some ks:=by
 cases d with
 |lst ds=>
  obtain⟨l,xs,rfl,_,hm,q⟩:=aA.mp a;unfold ie zC;simp only[hm,Wz];exact sE q h
 |_=>cases h
theorem sD:∀es:List (List Int),ae R m (es.map λk=>.tup [.int (k.getD 1 0),.int (k.getD 2 0)]) (es.map λk=>.tup [.int (k.getD 1 0),.int (k.getD 2 0)])
 |[]=>.nil
 |k::es=>.cons (aj.mpr ⟨_,rfl,.cons (aa.mpr rfl) (.cons (aa.mpr rfl) .nil)⟩) (sD es)
def BC (k:Dk)(a:ai R m d x)(b:ai R m e y)(c:ai R m f z):ag R m (fx k x y z m) (iA k d e f):=by
 cases k with
 |srt=>
  unfold iA fx;simp only;cases hr:ij d with
  |none=>exact ag.no
  |some ks=>
   rw[DQ a hr];simp only;cases wx (List Int) (ks.map (0::·)) ks with
   |none=>exact ag.no
   |some es=>exact ag.new (sD es.reverse)
 |rvl=>
  unfold iA fx;simp only;cases hr:ff d with
  |none=>exact ag.no
  |some ds=>
   obtain⟨xs,h,q⟩:=pU a hr;rw[h];exact ag.new q.rev
def DO (a:ai R m d x)(h:lJ k d=true):oB k x m=true:=by
 cases k with
 |srt=>rfl
 |rvl=>rfl
def BB (a:ai R m d x)(b:ai R m e y)(c:ai R m f z):ag R m (fw x y z m) (vE d e f):=by
 cases d with
 |int i=>
  cases e with
  |int j=>
   cases f with
   |int k=>
    rw[aa.mp a,aa.mp b,aa.mp c];simp only[fw,vE];split
    .exact dF (aj.mpr ⟨_,rfl,vF k _ i⟩)
    .exact ag.no
   |_=>exact ag.no
  |_=>exact ag.no
 |_=>exact ag.no
theorem wO {R:Nat->Prop}(hc:∀(R':Nat->Prop) m d x,(∀l,R l->R' l)->Le m0 m->ai R' m d x->ag R' m (c x m) (cd d))(he:∀(R':Nat->Prop) m d x,(∀l,R l->R' l)->Le m0 m->ai R' m d x->ag R' m (e x m) (ed d)):
  ∀(ds:List Dat) (xs:List Wd) (acc:List Dat) (acx:List Wd) (R':Nat->Prop) (m:Me),(∀l,R l->R' l)->Le m0 m->ae R' m ds xs->ae R' m acc acx->ag R' m (xl c e xs acx m) (zZ cd ed ds acc)
 |[],xs,acc,acx,R',m,hR,hm,a,b=>by
  rw[a.nil_inv];unfold xl zZ;exact ag.new b
 |d::ds,xs,acc,acx,R',m,hR,hm,a,b=>by
  obtain⟨x,r,rfl,p,q⟩:=a.cons_inv;unfold xl zZ;refine(hc R' m d x hR hm p).bind λt w m1 l1 k1=>?_;cases t with
  |bl t=>
   rw[am.mp k1];cases t with
   |true=>
    refine(he _ m1 d x (λl z=>.inl (hR l z)) (hm.trans l1) (p.up _ l1)).bind λt w m2 l2 k2=>?_;simp only[b.len];by_cases z:acx.length<av
    .rw[Ka z,Ka z];exact wO hc he ds r _ _ _ m2 (λl z=>.inl (.inl (hR l z))) ((hm.trans l1).trans l2) ((q.up _ l1).up _ l2) (((b.up _ l1).up _ l2).app (.cons k2 .nil))
    .rw[Kb z,Kb z];exact ag.no
   |false=>exact wO hc he ds r _ _ _ m1 (λl z=>.inl (hR l z)) (hm.trans l1) (q.up _ l1) (b.up _ l1)
  |_=>exact ag.no
theorem v7 {R:Nat->Prop}(hl:m0[l]?=some (.lst xs0))(hc:∀(R':Nat->Prop) m d x,(∀l,R l->R' l)->Le m0 m->ai R' m d x->ag R' m (c x m) (cd d))(he:∀(R':Nat->Prop) m d x,(∀l,R l->R' l)->Le m0 m->ai R' m d x->ag R' m (e x m) (ed d)):
  ∀(ds:List Dat) (i k:Nat) (acc:List Dat) (acx:List Wd) (R':Nat->Prop) (m:Me),(∀l,R l->R' l)->Le m0 m->ae R' m ds (xs0.drop i)->i+ds.length=xs0.length->ds.length<k->ae R' m acc acx->ag R' m (xm c e l k i acx m) (zZ cd ed ds acc)
 |[],i,0,acc,acx,R',m,hR,hm,a,hi,hk,b=>by simp at hk
 |d::ds,i,0,acc,acx,R',m,hR,hm,a,hi,hk,b=>by simp at hk
 |[],i,k+1,acc,acx,R',m,hR,hm,a,hi,hk,b=>by
  unfold xm zZ zC;rw[hm l _ hl];simp only;rw[Qm (by simp at hi;lia)];exact ag.new b
 |d::ds,i,k+1,acc,acx,R',m,hR,hm,a,hi,hk,b=>by
  obtain⟨x,r,e0,p,q⟩:=a.cons_inv;have hx:xs0[i]?=some x:=by
   have:(xs0.drop i)[0]?=some x:=by rw[e0];rfl
   simpa using this
  have hr:r=xs0.drop (i+1):=by
   have:(xs0.drop i).drop 1=r:=by rw[e0];rfl
   rw[<-this,Ve]
  rw[hr]at q;have hi':i+1+ds.length=xs0.length:=by simp at hi;lia
  have hk':ds.length<k:=by simp at hk;lia
  unfold xm zZ zC;rw[hm l _ hl];simp only;rw[hx];simp only;refine(hc R' m d x hR hm p).bind λt w m1 l1 k1=>?_;cases t with
  |bl t=>
   rw[am.mp k1];cases t with
   |true=>
    refine(he _ m1 d x (λl z=>.inl (hR l z)) (hm.trans l1) (p.up _ l1)).bind λt w m2 l2 k2=>?_;simp only[b.len];by_cases z:acx.length<av
    .rw[Ka z,Ka z];exact v7 hl hc he ds (i+1) k _ _ _ m2 (λl z=>.inl (.inl (hR l z))) ((hm.trans l1).trans l2) ((q.up _ l1).up _ l2) hi' hk' (((b.up _ l1).up _ l2).app (.cons k2 .nil))
    .rw[Kb z,Kb z];exact ag.no
   |false=>exact v7 hl hc he ds (i+1) k _ _ _ m1 (λl z=>.inl (hR l z)) (hm.trans l1) (q.up _ l1) hi' hk' (b.up _ l1)
  |_=>exact ag.no
noncomputable def lL(R:Nat->Prop)(m0:Me)(ps:List (Dat×Dat))(g:Nat->Me->Option (Option (Wd×Wd))):Prop:=
 ∀m,Le m0 m->(∀i p,ps[i]?=some p->∃a b,g i m=some (some (a,b))/\ai R m p.1 a/\ai R m p.2 b)/\∀i,ps.length<=i->g i m=some none
theorem gT{α β:Type}:∀{xs:List α}{ys:List β}{i:Nat}{p:α×β},(xs.zip ys)[i]?=some p->xs[i]?=some p.1/\ys[i]?=some p.2
 |[],_,i,p,h=>by simp at h
 |_::_,[],i,p,h=>by simp at h
 |x::xs,y::ys,0,p,h=>by simp at h;subst h;exact⟨rfl,rfl⟩
 |x::xs,y::ys,i+1,p,h=>by
  have h':(xs.zip ys)[i]?=some p:=by simpa using h
  simpa using gT h'
set_option tactic.hygienic true in
theorem gW:∀{xs:List Dat}{ps:List (Dat×Dat)},fV xs=some ps->ps.length=xs.length/\∀(i:Nat) p,ps[i]?=some p->xs[i]?=some (.tup [p.1,p.2])
 |[],ps,h=>by cases h;exact⟨rfl,λi p q=>by simp at q⟩
 |d::xs,ps,h=>by
  unfold fV at h;split at h
  .next h0=>cases h0
  .next x y r h0=>
   cases h0;obtain⟨qs,e,rfl⟩:=QO.mp h;obtain⟨a,b⟩:=gW e;refine⟨by simp[a],λi p q=>?_⟩;cases i with
   |zero=>cases q;rfl
   |succ i=>exact b i p q
  .cases h
def pS (hx:ai R m0 x a)(h:fI x=some ds):∃xs,(∀m,Le m0 m->vT m a=some xs)/\ae R m0 ds xs:=by
 cases x with
 |tup es=>
  cases h;obtain⟨xs,rfl,q⟩:=aj.mp hx;exact⟨xs,λm h=>rfl,q⟩
 |lst es=>
  cases h;obtain⟨l,xs,rfl,_,e1,q⟩:=aA.mp hx;exact⟨xs,λm h=>by show zC m l=_;unfold zC;rw[h _ _ e1],q⟩
 |_=>cases h
set_option tactic.hygienic true in
def gc (e:xK k x y=some ps)(hx:ai R m0 x a)(hy:ai R m0 y b):lL R m0 ps (zT k a b)/\ps.length<=av:=by
 unfold xK at e;split at e
 .cases f1:fI x with
  |none=>rw[f1]at e;cases e
  |some ds1=>
   cases f2:fI y with
   |none=>rw[f1,f2]at e;cases e
   |some ds2=>
    rw[f1,f2]at e;obtain⟨xs,e1,k1⟩:=pS hx f1;obtain⟨ys,e2,k2⟩:=pS hy f2;dsimp only at e;split at e
    .next z=>
     cases e;refine⟨λm h=>⟨λi p q=>?_,λi q=>?_⟩,by simp;lia⟩
     .obtain ⟨z1,z2⟩:=gT q;obtain⟨a,a1,a2⟩:=k1.get z1;obtain⟨b,b1,b2⟩:=k2.get z2;refine⟨a,b,?_,ai.frame (λl o r z=>⟨r,h l o z⟩) _ _ a2,ai.frame (λl o r z=>⟨r,h l o z⟩) _ _ b2⟩;simp only[zT,e1 m h,e2 m h,a1,b1]
     .simp only[zT,e1 m h,e2 m h];have l1:=k1.len;have l2:=k2.len;simp only[VZ]at q;rcases Nat.le_total xs.length ys.length with z3|z3
      .rw[Qm (by lia)]
      .rw[Qm (l:=ys) (by lia)];cases xs[i]?<;>rfl
    .cases e
 .rename_i xs0 st;obtain⟨l,xs,rfl,_,e1,k1⟩:=aA.mp hx;rw[aa.mp hy];split at e
  .next z=>
   cases e;have l1:=k1.len;refine⟨λm h=>⟨λi p q=>?_,λi q=>?_⟩,by simp[yd];lia⟩
   .obtain ⟨z1,z2⟩:=gT q;obtain⟨a,a1,a2⟩:=k1.get z2;have hp:p.1=.int (st+(i:Int)):=by
     simp only[yd,Ql]at z1;cases hr:(Qr xs0.length)[i]? with
     |none=>rw[hr]at z1;cases z1
     |some j=>
      rw[hr]at z1;have:=Qa.mp hr;obtain⟨_,hj⟩:=this;simp only[List.getElem_range]at hj;subst hj;simp only[QR,Option.some.injEq,Int.one_mul]at z1;exact z1.symm
    refine⟨.int (st+(i:Int)),a,?_,by rw[hp];exact aa.mpr rfl,ai.frame (λl o r z=>⟨r,h l o z⟩) _ _ a2⟩;simp only[zT,zC];rw[h _ _ e1];simp only[a1,QR]
   .simp only[zT,zC];rw[h _ _ e1];simp only[yd,VZ,Qv,WG]at q;simp only;rw[Qm (by lia)];rfl
  .cases e
 .rename_i xs0 st;obtain⟨l,xs,rfl,_,e1,k1⟩:=aA.mp hx;rw[aa.mp hy];split at e
  .next z=>
   have l1:=k1.len;obtain⟨g1,g2⟩:=gW e;refine⟨λm h=>⟨λi p q=>?_,λi q=>?_⟩,by lia⟩
   .obtain ⟨a,a1,a2⟩:=k1.get (g2 i p q);obtain⟨us,rfl,r2⟩:=aj.mp a2;obtain⟨x,r,rfl,ra,rb⟩:=r2.cons_inv;obtain⟨y,r',rfl,rc,rd⟩:=rb.cons_inv;obtain rfl:=rd.nil_inv;refine⟨x,y,?_,ai.frame (λl o r z=>⟨r,h l o z⟩) _ _ ra,ai.frame (λl o r z=>⟨r,h l o z⟩) _ _ rc⟩;simp only[zT,zC];rw[h _ _ e1];simp only[a1];rfl
   .simp only[zT,zC];rw[h _ _ e1];simp only;rw[Qm (by lia)]
  .cases e
 .rename_i xs0 st;obtain⟨xs,rfl,k1⟩:=aj.mp hx;rw[aa.mp hy];split at e
  .next z=>
   have l1:=k1.len;obtain⟨g1,g2⟩:=gW e;refine⟨λm h=>⟨λi p q=>?_,λi q=>?_⟩,by lia⟩
   .obtain ⟨a,a1,a2⟩:=k1.get (g2 i p q);obtain⟨us,rfl,r2⟩:=aj.mp a2;obtain⟨x,r,rfl,ra,rb⟩:=r2.cons_inv;obtain⟨y,r',rfl,rc,rd⟩:=rb.cons_inv;obtain rfl:=rd.nil_inv;refine⟨x,y,?_,ai.frame (λl o r z=>⟨r,h l o z⟩) _ _ ra,ai.frame (λl o r z=>⟨r,h l o z⟩) _ _ rc⟩;simp only[zT,a1];rfl
   .simp only[zT];rw[Qm (by lia)]
  .cases e
 .cases e
theorem v8 (hg:lL R m0 ps g)(hc:∀(R':Nat->Prop) m p a b,(∀l,R l->R' l)->Le m0 m->ai R' m p.1 a->ai R' m p.2 b->ag R' m (c a b m) (cd p))(he:∀(R':Nat->Prop) m p a b,(∀l,R l->R' l)->Le m0 m->ai R' m p.1 a->ai R' m p.2 b->ag R' m (e a b m) (ed p)):
  ∀(ds:List (Dat×Dat)) (i k:Nat) (acc:List Dat) (acx:List Wd) (R':Nat->Prop) (m:Me),(∀l,R l->R' l)->Le m0 m->ds=ps.drop i->i+ds.length=ps.length->ds.length<k->ae R' m acc acx->ag R' m (yX c e g k i acx m) (zZ cd ed ds acc)
 |[],i,0,acc,acx,R',m,hR,hm,a,hi,hk,b=>by simp at hk
 |d::ds,i,0,acc,acx,R',m,hR,hm,a,hi,hk,b=>by simp at hk
 |[],i,k+1,acc,acx,R',m,hR,hm,a,hi,hk,b=>by
  unfold yX zZ;rw[(hg m hm).2 i (by simp at hi;lia)];exact ag.new b
 |d::ds,i,k+1,acc,acx,R',m,hR,hm,a,hi,hk,b=>by
  have hx:ps[i]?=some d:=by
   have:(ps.drop i)[0]?=some d:=by rw[<-a];rfl
   simpa using this
  have hr:ds=ps.drop (i+1):=by
   have:(ps.drop i).drop 1=ds:=by rw[<-a];rfl
   rw[<-this,Ve]
  have hi':i+1+ds.length=ps.length:=by simp at hi;lia
  have hk':ds.length<k:=by simp at hk;lia
  obtain⟨u,v,e0,p,q⟩:=(hg m hm).1 i d hx;have up:∀{d:Dat}{w:Wd},ai R m d w->ai R' m d w:=λz=>ai.frame (λl o r z=>⟨hR l r,z⟩) _ _ z;unfold yX zZ;rw[e0];simp only;refine(hc R' m d u v hR hm (up p) (up q)).bind λt w m1 l1 k1=>?_;cases t with
  |bl t=>
   rw[am.mp k1];cases t with
   |true=>
    refine(he _ m1 d u v (λl z=>.inl (hR l z)) (hm.trans l1) ((up p).up _ l1) ((up q).up _ l1)).bind λt w m2 l2 k2=>?_;simp only[b.len];by_cases z:acx.length<av
    .rw[Ka z,Ka z];exact v8 hg hc he ds (i+1) k _ _ _ m2 (λl z=>.inl (.inl (hR l z))) ((hm.trans l1).trans l2) hr hi' hk' (((b.up _ l1).up _ l2).app (.cons k2 .nil))
    .rw[Kb z,Kb z];exact ag.no
   |false=>exact v8 hg hc he ds (i+1) k _ _ _ m1 (λl z=>.inl (hR l z)) (hm.trans l1) hr hi' hk' (b.up _ l1)
  |_=>exact ag.no
noncomputable def zv:Ex->List Nat
 |.var i=>[i]
 |.lit _=>[]
 |.bin _ a b=>zv a++zv b
 |.neg a=>zv a
 |.not a=>zv a
 |.and a b=>zv a++zv b
 |.or a b=>zv a++zv b
 |.cmp _ a b=>zv a++zv b
 |.chain _ _ a b c=>zv a++(zv b++zv c)
 |.unit=>[]
 |.pair a b=>zv a++zv b
 |.call _ a=>zv a
 |.blt _ a=>zv a
 |.isi _ a=>zv a
 |.lst a=>zv a
 |.tup a=>zv a
 |.dop _ a b c=>zv a++(zv b++zv c)
 |.idx a b=>zv a++zv b
 |.meth _ a b=>zv a++zv b
 |.rng a b c=>zv a++(zv b++zv c)
 |.comp e i c=>zv i++(zv e++zv c)
 |.lrng a=>zv a
 |.compP _ e a b c=>zv a++(zv b++(zv e++zv c))
@[simp]theorem Ht(i:Nat):zv (.var i)=[i]:=rfl
@[simp]theorem Hs(w:Wd):zv (.lit w)=[]:=rfl
@[simp]theorem Hr(a b:Ex):zv (.idx a b)=zv a++zv b:=rfl
@[simp]theorem Hq(a:Ex):zv (.tup a)=zv a:=rfl
@[simp]theorem HM(a b:Ex):zv (.pair a b)=zv a++zv b:=rfl
@[simp]theorem HL  : zv (.unit)=[]:=rfl
@[simp]theorem Ho(op:Bo)(a b:Ex):zv (.bin op a b)=zv a++zv b:=rfl
@[simp]theorem HK(k:Nat)(a:Ex):zv (.call k a)=zv a:=rfl
@[simp]theorem HA(a:Ex):zv (.neg a)=zv a:=rfl
@[simp]theorem Hz(a:Ex):zv (.lst a)=zv a:=rfl
noncomputable def bM(R:Nat->Prop)(m:Me)(vs:List Nat)(de:aJ)(env:En):Prop:=
 de.length=env.length/\∀i∈vs,∀d,de[i]?=some (some d)->∃w,env[i]?=some (some w)/\ai R m d w
def bM.up{R R':Nat->Prop}{m m':Me}{vs:List Nat}{de:aJ}{env:En}(hR:∀l,R l->R' l)(h:Le m m')(q:bM R m vs de env):bM R' m' vs de env:=
 ⟨q.1,λi hi d z=>by
  obtain⟨w,a,b⟩:=q.2 i hi d z;exact⟨w,a,ai.frame (λl o r k=>⟨hR l r,h l o k⟩) d w b⟩⟩
def bM.sub{R:Nat->Prop}{m:Me}{vs us:List Nat}{de:aJ}{env:En}(h:∀i∈us,i∈vs)(q:bM R m vs de env):bM R m us de env:=
 ⟨q.1,λi hi=>q.2 i (h i hi)⟩
def bM.left{R:Nat->Prop}{m:Me}{us vs:List Nat}{de:aJ}{env:En}(q:bM R m (us++vs) de env):bM R m us de env:=q.sub λ_ h=>Q5 _ h
def bM.right{R:Nat->Prop}{m:Me}{us vs:List Nat}{de:aJ}{env:En}(q:bM R m (us++vs) de env):bM R m vs de env:=q.sub λ_ h=>Qy _ h
set_option tactic.hygienic true in
def bM.push{R:Nat->Prop}{m:Me}{vs:List Nat}{de:aJ}{env:En}{d:Dat}{w:Wd}(q:bM R m vs de env)(h:ai R m d w):bM R m vs (de++[some d]) (env++[some w]):=by
 refine⟨by simp[q.1],λi hi e z=>?_⟩;rw[List.getElem?_append]at z;split at z
 .next k=>
  obtain⟨w,a,b⟩:=q.2 i hi e z;exact⟨w,by rw[Qi (by rw[<-q.1];exact k)];exact a,b⟩
 .next k=>
  rw[Qd (by rw[<-q.1];lia),<-q.1];have:i-de.length=0:=by
   rcases VN (i-de.length)with z0|z0
   .exact z0
   .rw[Qm (by simp;lia)]at z;cases z
  rw[this]at z ⊢;cases z;exact⟨w,rfl,h⟩
noncomputable def bu(cl:Nat->List Wd->Me->Rz)(cd:Nat->List Dat->Rd):Prop:=∀(k:Nat) (ds:List Dat) (ws:List Wd) (R:Nat->Prop) (m:Me),ae R m ds ws->ag R m (cl k ws m) (cd k ds)
def yD (h:ai R m d w):ae R m (zP d) (zt w):=by
 cases d with
 |tup ds=>obtain⟨xs,rfl,q⟩:=aj.mp h;exact q
 |non=>rw[aG.mp h];exact .nil
 |bl _=>rw[am.mp h];exact .nil
 |int _=>rw[aa.mp h];exact .nil
 |str _=>rw[aM.mp h];exact .nil
 |scr _=>rw[ba.mp h];exact .nil
 |lst _=>obtain⟨l,xs,rfl,_⟩:=aA.mp h;exact .nil
theorem zi (H:bu cl cd):∀(e:Ex) (R:Nat->Prop) (m:Me) (de:aJ) (env:En),bM R m (zv e) de env->ag R m (ah cl e env m) (aq cd e de)
 |.var i,R,m,de,env,q=>by
  cases z:de[i]? with
  |none=>rw[xc (.inl z)];exact ag.no
  |some o=>
   cases o with
   |none=>rw[xc (.inr z)];exact ag.no
   |some d=>
    obtain⟨w,a,b⟩:=q.2 i (QH.mpr rfl) d z;rw[xy z,jp a];exact dF b
 |.lit w,R,m,de,env,q=>by
  cases w<;>first|exact ag.no|(exact dF (by unfold ai;rfl))
 |.bin op a b,R,m,de,env,q=>by
  refine(zi H a R m de env q.left).bind λd w m1 l1 k1=>?_;refine(zi H b _ m1 de env (q.right.up (λ_=>.inl) l1)).bind λd2 w2 m2 l2 k2=>?_;exact sI op (k1.up _ l2) k2
 |.neg a,R,m,de,env,q=>by
  refine(zi H a R m de env q).bind λd w m1 l1 k1=>?_;cases d with
  |int i=>rw[aa.mp k1];exact ag.int
  |_=>exact ag.no
 |.not a,R,m,de,env,q=>by
  refine(zi H a R m de env q).bind λd w m1 l1 k1=>?_;cases d with
  |bl i=>rw[am.mp k1];exact ag.bl
  |_=>exact ag.no
 |.and a b,R,m,de,env,q=>by
  refine(zi H a R m de env q.left).bind λd w m1 l1 k1=>?_;cases d with
  |bl i=>
   rw[am.mp k1];cases i with
   |true=>exact zi H b _ m1 de env (q.right.up (λ_=>.inl) l1)
   |false=>exact ag.bl
  |_=>exact ag.no
 |.or a b,R,m,de,env,q=>by
  refine(zi H a R m de env q.left).bind λd w m1 l1 k1=>?_;cases d with
  |bl i=>
   rw[am.mp k1];cases i with
   |false=>exact zi H b _ m1 de env (q.right.up (λ_=>.inl) l1)
   |true=>exact ag.bl
  |_=>exact ag.no
 |.cmp op a b,R,m,de,env,q=>by
  refine(zi H a R m de env q.left).bind λd w m1 l1 k1=>?_;refine(zi H b _ m1 de env (q.right.up (λ_=>.inl) l1)).bind λd2 w2 m2 l2 k2=>?_;exact gS op (k1.up _ l2) k2
 |.chain o p a b c,R,m,de,env,q=>by
  refine(zi H a R m de env q.left).bind λd w m1 l1 k1=>?_;refine(zi H b _ m1 de env (q.right.left.up (λ_=>.inl) l1)).bind λd2 w2 m2 l2 k2=>?_;refine(gS o (k1.up _ l2) k2).bind λd3 w3 m3 l3 k3=>?_;cases d3 with
  |bl i=>
   rw[am.mp k3];cases i with
   |false=>exact ag.bl
   |true=>
    refine(zi H c _ m3 de env (q.right.right.up (λ_ h=>.inl (.inl (.inl h))) ((l1.trans l2).trans l3))).bind λd4 w4 m4 l4 k4=>?_;exact gS p ((k2.up _ l3).up _ l4) k4
  |_=>exact ag.no
 |.unit,R,m,de,env,q=>by
  exact dF (aj.mpr ⟨[],rfl,.nil⟩)
 |.pair a b,R,m,de,env,q=>by
  refine(zi H a R m de env q.left).bind λd w m1 l1 k1=>?_;refine(zi H b _ m1 de env (q.right.up (λ_=>.inl) l1)).bind λd2 w2 m2 l2 k2=>?_;exact dF (aj.mpr ⟨_,rfl,.cons (k1.up _ l2) (yD k2)⟩)
 |.call k a,R,m,de,env,q=>by
  refine(zi H a R m de env q).bind λd w m1 l1 k1=>?_;exact H k _ _ _ m1 (yD k1)
 |.blt b a,R,m,de,env,q=>by
  refine(zi H a R m de env q).bind λd w m1 l1 k1=>?_;exact BE b (yD k1)
 |.isi t a,R,m,de,env,q=>by
  refine(zi H a R m de env q).bind λd w m1 l1 k1=>?_;exact BF t k1
 |.lst a,R,m,de,env,q=>by
  refine(zi H a R m de env q).bind λd w m1 l1 k1=>?_;exact ag.new (yD k1)
 |.tup a,R,m,de,env,q=>by
  refine(zi H a R m de env q).bind λd w m1 l1 k1=>?_;have k2:=yD k1;simp only[k2.len];split
  .exact dF (aj.mpr ⟨_,rfl,k2⟩)
  .exact ag.no
 |.dop k a b c,R,m,de,env,q=>by
  refine(zi H a R m de env q.left).bind λd w m1 l1 k1=>?_;cases hb:lJ k d with
  |false=>exact ag.no
  |true=>
   rw[DO k1 hb];refine(zi H b _ m1 de env (q.right.left.up (λ_=>.inl) l1)).bind λd2 w2 m2 l2 k2=>?_;refine(zi H c _ m2 de env ((q.right.right.up (λ_=>.inl) l1).up (λ_=>.inl) l2)).bind λd3 w3 m3 l3 k3=>?_;exact BC k ((k1.up _ l2).up _ l3) (k2.up _ l3) k3
 |.idx a b,R,m,de,env,q=>by
  refine(zi H a R m de env q.left).bind λd w m1 l1 k1=>?_;refine(zi H b _ m1 de env (q.right.up (λ_=>.inl) l1)).bind λd2 w2 m2 l2 k2=>?_;exact BD (k1.up _ l2) k2
 |.meth _ _ _,R,m,de,env,q=>by
  exact ag.no
 |.rng a b c,R,m,de,env,q=>by
  refine(zi H a R m de env q.left).bind λd w m1 l1 k1=>?_;refine(zi H b _ m1 de env (q.right.left.up (λ_=>.inl) l1)).bind λd2 w2 m2 l2 k2=>?_;refine(zi H c _ m2 de env (q.right.right.up (λ_ h=>.inl (.inl h)) (l1.trans l2))).bind λd3 w3 m3 l3 k3=>?_;exact BB ((k1.up _ l2).up _ l3) (k2.up _ l3) k3
 |.lrng a,R,m,de,env,q=>by
  refine(zi H a R m de env q).bind λd w m1 l1 k1=>?_;cases d with
  |int j=>
   rw[aa.mp k1];simp only;split
   .exact ag.new (vF 1 _ 0)
   .exact ag.no
  |_=>exact ag.no
 |.comp elt it cond,R,m,de,env,q=>by
  refine(zi H it R m de env q.left).bind λd w m1 l1 k1=>?_;have hc:∀(R':Nat->Prop) m' d x,(∀l,Rf R m.length l->R' l)->Le m1 m'->ai R' m' d x->ag R' m' (ah cl cond (env++[some x]) m') (aq cd cond (de++[some d])):=
   λR' m' d x hR l k=>zi H cond R' m' _ _ ((q.right.right.up (λl h=>hR l (.inl h)) (l1.trans l)).push k)
  have he:∀(R':Nat->Prop) m' d x,(∀l,Rf R m.length l->R' l)->Le m1 m'->ai R' m' d x->ag R' m' (ah cl elt (env++[some x]) m') (aq cd elt (de++[some d])):=
   λR' m' d x hR l k=>zi H elt R' m' _ _ ((q.right.left.up (λl h=>hR l (.inl h)) (l1.trans l)).push k)
  cases d with
  |tup ds=>
   obtain⟨xs,rfl,k2⟩:=aj.mp k1;exact wO hc he ds xs [] [] _ m1 (λ_ h=>h) (Le.refl _) k2 .nil
  |scr ns=>
   rw[ba.mp k1];exact wO hc he (ns.map .int) (ns.map .int) [] [] _ m1 (λ_ h=>h) (Le.refl _) (fv ns) .nil
  |lst ds=>
   obtain⟨l,xs,rfl,_,hm,k2⟩:=aA.mp k1;simp only[cE];by_cases z:ds.length<=av
   .rw[Ka z];have hl:=k2.len;exact v7 hm hc he ds 0 (av+1) [] [] _ m1 (λ_ h=>h) (Le.refl _) (by simpa using k2) (by lia) (by lia) .nil
   .rw[Kb z];exact ag.no
  |_=>exact ag.no
 |.compP k elt a b cond,R,m,de,env,q=>by
  refine(zi H a R m de env q.left).bind λd w m1 l1 k1=>?_;refine(zi H b _ m1 de env (q.right.left.up (λl h=>.inl h) l1)).bind λd' w' m2 l2 k2=>?_;have hc:∀(R':Nat->Prop) m' (p:Dat×Dat) x y,(∀l,Rf (Rf R m.length) m1.length l->R' l)->Le m2 m'->ai R' m' p.1 x->ai R' m' p.2 y->ag R' m' (ah cl cond (env++[some x]++[some y]) m') (aq cd cond (de++[some p.1]++[some p.2])):=
   λR' m' d x y hR l k k'=>zi H cond R' m' _ _ (((q.right.right.right.up (λl h=>hR l (.inl (.inl h))) ((l1.trans l2).trans l)).push k).push k')
  have he:∀(R':Nat->Prop) m' (p:Dat×Dat) x y,(∀l,Rf (Rf R m.length) m1.length l->R' l)->Le m2 m'->ai R' m' p.1 x->ai R' m' p.2 y->ag R' m' (ah cl elt (env++[some x]++[some y]) m') (aq cd elt (de++[some p.1]++[some p.2])):=
   λR' m' d x y hR l k k'=>zi H elt R' m' _ _ (((q.right.right.left.up (λl h=>hR l (.inl (.inl h))) ((l1.trans l2).trans l)).push k).push k')
  cases e:xK k d d' with
  |none=>exact ag.no
  |some ps=>
   obtain⟨pr,hl⟩:=gc e (k1.up _ l2) k2;exact v8 pr hc he ps 0 (av+1) [] [] _ m2 (λ_ h=>h) (Le.refl _) (by simp) (by simp) (by lia) .nil
mutual
noncomputable def bg(m:Me):Dat->Wd->List Nat->Prop
 |.non,w,A=>w=.non/\A=[]
 |.bl b,w,A=>w=.bl b/\A=[]
 |.int i,w,A=>w=.int i/\A=[]
 |.str s,w,A=>w=.str s/\A=[]
 |.scr ns,w,A=>w=.rol (ns.map Wd.int)/\A=[]
 |.tup ds,w,A=>∃xs,w=.tup xs/\au m ds xs A
 |.lst ds,w,A=>∃l xs B,w=.ref l/\A=l::B/\m[l]?=some (.lst xs)/\au m ds xs B
noncomputable def au(m:Me):List Dat->List Wd->List Nat->Prop
 |[],xs,A=>xs=[]/\A=[]
 |d::ds,xs,A=>∃x r B C,xs=x::r/\A=B++C/\bg m d x B/\au m ds r C
end
def aS:bg m (.lst ds) w A↔∃l xs B,w=.ref l/\A=l::B/\m[l]?=some (.lst xs)/\au m ds xs B:=by
 constructor
 .intro h;unfold bg at h;exact h
 .intro h;unfold bg;exact h
def bx:bg m (.tup ds) w A↔∃xs,w=.tup xs/\au m ds xs A:=by
 constructor
 .intro h;unfold bg at h;exact h
 .intro h;unfold bg;exact h
def au.cons_inv (h:au m (d::ds) xs A):∃x r B C,xs=x::r/\A=B++C/\bg m d x B/\au m ds r C:=by unfold au at h;exact h
def au.nil_inv (h:au m [] xs A):xs=[]/\A=[]:=by unfold au at h;exact h
def au.nil{m:Me}:au m [] [] []:=by unfold au;exact⟨rfl,rfl⟩
def au.cons{m:Me}{d:Dat}{ds:List Dat}{x:Wd}{xs:List Wd}{B C:List Nat}(a:bg m d x B)(b:au m ds xs C):au m (d::ds) (x::xs) (B++C):=by
 unfold au;exact⟨x,xs,B,C,rfl,rfl,a,b⟩
theorem au.app:∀{ds es:List Dat}{xs ys:List Wd}{A B:List Nat},au m ds xs A->au m es ys B->au m (ds++es) (xs++ys) (A++B)
 |[],es,xs,ys,A,B,a,b=>by rw[a.nil_inv.1,a.nil_inv.2];exact b
 |d::ds,es,xs,ys,A,B,a,b=>by
  obtain⟨x,r,P,Q,rfl,rfl,p,q⟩:=a.cons_inv;rw[Qn];exact .cons p (au.app q b)
mutual
theorem bg.frame{m m':Me}:∀(d:Dat) (w:Wd) (A:List Nat),(∀l∈A,∀o,m[l]?=some o->m'[l]?=some o)->bg m d w A->bg m' d w A
 |.non,w,A,h,q=>by unfold bg at q ⊢;exact q
 |.bl _,w,A,h,q=>by unfold bg at q ⊢;exact q
 |.int _,w,A,h,q=>by unfold bg at q ⊢;exact q
 |.str _,w,A,h,q=>by unfold bg at q ⊢;exact q
 |.scr _,w,A,h,q=>by unfold bg at q ⊢;exact q
 |.tup ds,w,A,h,q=>by
  obtain⟨xs,rfl,q1⟩:=bx.mp q;exact bx.mpr ⟨xs,rfl,au.frame ds xs A h q1⟩
 |.lst ds,w,A,h,q=>by
  obtain⟨l,xs,B,rfl,rfl,hm,q1⟩:=aS.mp q;exact aS.mpr ⟨l,xs,B,rfl,rfl,h l QQ _ hm,au.frame ds xs B (λl hl=>h l (Qp _ hl)) q1⟩
theorem au.frame{m m':Me}:∀(ds:List Dat) (xs:List Wd) (A:List Nat),(∀l∈A,∀o,m[l]?=some o->m'[l]?=some o)->au m ds xs A->au m' ds xs A
 |[],xs,A,h,q=>by rw[q.nil_inv.1,q.nil_inv.2];exact .nil
 |d::ds,xs,A,h,q=>by
  obtain⟨x,r,B,C,rfl,rfl,a,b⟩:=q.cons_inv;exact .cons (bg.frame d x B (λl hl=>h l (Q5 _ hl)) a) (au.frame ds r C (λl hl=>h l (Qy _ hl)) b)
end
mutual
theorem bg.rep{m:Me}{R:Nat->Prop}:∀(d:Dat) (w:Wd) (A:List Nat),(∀l∈A,R l)->bg m d w A->ai R m d w
 |.non,w,A,h,q=>by unfold bg at q;exact aG.mpr q.1
 |.bl _,w,A,h,q=>by unfold bg at q;exact am.mpr q.1
 |.int _,w,A,h,q=>by unfold bg at q;exact aa.mpr q.1
 |.str _,w,A,h,q=>by unfold bg at q;exact aM.mpr q.1
 |.scr _,w,A,h,q=>by unfold bg at q;exact ba.mpr q.1
 |.tup ds,w,A,h,q=>by
  obtain⟨xs,rfl,q1⟩:=bx.mp q;exact aj.mpr ⟨xs,rfl,au.rep ds xs A h q1⟩
 |.lst ds,w,A,h,q=>by
  obtain⟨l,xs,B,rfl,rfl,hm,q1⟩:=aS.mp q;exact aA.mpr ⟨l,xs,rfl,h l QQ,hm,au.rep ds xs B (λl hl=>h l (Qp _ hl)) q1⟩
theorem au.rep{m:Me}{R:Nat->Prop}:∀(ds:List Dat) (xs:List Wd) (A:List Nat),(∀l∈A,R l)->au m ds xs A->ae R m ds xs
 |[],xs,A,h,q=>by rw[q.nil_inv.1];exact .nil
 |d::ds,xs,A,h,q=>by
  obtain⟨x,r,B,C,rfl,rfl,a,b⟩:=q.cons_inv;exact .cons (bg.rep d x B (λl hl=>h l (Q5 _ hl)) a) (au.rep ds r C (λl hl=>h l (Qy _ hl)) b)
end
mutual
theorem bg.lt{m:Me}:∀(d:Dat) (w:Wd) (A:List Nat),bg m d w A->∀l∈A,l<m.length
 |.non,w,A,q=>by unfold bg at q;rw[q.2];simp
 |.bl _,w,A,q=>by unfold bg at q;rw[q.2];simp
 |.int _,w,A,q=>by unfold bg at q;rw[q.2];simp
 |.str _,w,A,q=>by unfold bg at q;rw[q.2];simp
 |.scr _,w,A,q=>by unfold bg at q;rw[q.2];simp
 |.tup ds,w,A,q=>by
  obtain⟨xs,rfl,q1⟩:=bx.mp q;exact au.lt ds xs A q1
 |.lst ds,w,A,q=>by
  obtain⟨l,xs,B,rfl,rfl,hm,q1⟩:=aS.mp q;intro k hk;rcases Qc.mp hk with rfl|hk
  .exact (Qa.mp hm).1
  .exact au.lt ds xs B q1 k hk
theorem au.lt{m:Me}:∀(ds:List Dat) (xs:List Wd) (A:List Nat),au m ds xs A->∀l∈A,l<m.length
 |[],xs,A,q=>by rw[q.nil_inv.2];simp
 |d::ds,xs,A,q=>by
  obtain⟨x,r,B,C,rfl,rfl,a,b⟩:=q.cons_inv;intro k hk;rcases Qu.mp hk with hk|hk
  .exact bg.lt d x B a k hk
  .exact au.lt ds r C b k hk
end
mutual
theorem ai.flat{R:Nat->Prop}{m m':Me}:∀(d:Dat) (w:Wd),ax d=true->ai R m d w->bg m' d w []
 |.non,w,h,q=>by unfold bg;exact⟨aG.mp q,rfl⟩
 |.bl _,w,h,q=>by unfold bg;exact⟨am.mp q,rfl⟩
 |.int _,w,h,q=>by unfold bg;exact⟨aa.mp q,rfl⟩
 |.str _,w,h,q=>by unfold bg;exact⟨aM.mp q,rfl⟩
 |.scr _,w,h,q=>by unfold bg;exact⟨ba.mp q,rfl⟩
 |.tup ds,w,h,q=>by
  obtain⟨xs,rfl,q1⟩:=aj.mp q;exact bx.mpr ⟨xs,rfl,ae.flat ds xs (by unfold Vl.ax at h;exact h) q1⟩
 |.lst ds,w,h,q=>by unfold Vl.ax at h;cases h
theorem ae.flat{R:Nat->Prop}{m m':Me}:∀(ds:List Dat) (xs:List Wd),aW ds=true->ae R m ds xs->au m' ds xs []
 |[],xs,h,q=>by rw[q.nil_inv];exact .nil
 |d::ds,xs,h,q=>by
  obtain⟨x,r,rfl,a,b⟩:=q.cons_inv;unfold aW at h;rw[Qx]at h;exact au.cons (B:=[]) (C:=[]) (ai.flat d x h.1 a) (ae.flat ds r h.2 b)
end
noncomputable def bK(R:Nat->Prop)(m:Me)(lv:Lv)(d:Dat)(w:Wd)(A:List Nat):Prop:=match lv with
 |.no=>ai R m d w/\A=[]
 |.top=>∃ds l xs,d=.lst ds/\w=.ref l/\A=[l]/\m[l]?=some (.lst xs)/\ae R m ds xs
 |.full=>bg m d w A
theorem bK.rep (h:∀l,R l->R' l)(k:∀l∈A,R' l)(q:bK R m lv d w A):ai R' m d w:=by
 cases lv with
 |no=>exact ai.frame (λl o r z=>⟨h l r,z⟩) d w q.1
 |top=>
  obtain⟨ds,l,xs,rfl,rfl,rfl,hm,a⟩:=q;exact aA.mpr ⟨l,xs,rfl,k l (by simp),hm,ae.frame (λl o r z=>⟨h l r,z⟩) ds xs a⟩
 |full=>exact bg.rep d w A k q
theorem bK.frame{R R':Nat->Prop}{m m':Me}{lv:Lv}{d:Dat}{w:Wd}{A:List Nat}(h:∀(l:Nat) o,R l->m[l]?=some o->R' l/\m'[l]?=some o)(k:∀l∈A,∀o,m[l]?=some o->m'[l]?=some o)(q:bK R m lv d w A):bK R' m' lv d w A:=by
 cases lv with
 |no=>exact⟨ai.frame h d w q.1,q.2⟩
 |top=>
  obtain⟨ds,l,xs,rfl,rfl,rfl,hm,a⟩:=q;exact⟨ds,l,xs,rfl,rfl,rfl,k l (by simp) _ hm,ae.frame h ds xs a⟩
 |full=>exact bg.frame d w A k q
theorem bK.lt (q:bK R m lv d w A):∀l∈A,l<m.length:=by
 cases lv with
 |no=>rw[q.2];simp
 |top=>
  obtain⟨ds,l,xs,rfl,rfl,rfl,hm,a⟩:=q;intro k hk;rw[QH.mp hk];exact(Qa.mp hm).1
 |full=>exact bg.lt d w A q
noncomputable def aR(lev:Nat->Lv):Ex->Dat->Lv
 |.comp elt _ _,d=>if ax d then .full else match d with
  |.lst ds=>if ds.all (λx=>aR lev elt x == .full)then .full else .top
  |_=>.no
 |.compP _ elt _ _ _,d=>if ax d then .full else match d with
  |.lst ds=>if ds.all (λx=>aR lev elt x == .full)then .full else .top
  |_=>.no
 |.lst a,d=>if ax d then .full else match d with
  |.lst ds=>if aR lev a (.tup ds) == .full then .full else .top
  |_=>.no
 |.tup a,d=>aR lev a d
 |.pair a b,d=>if ax d then .full else match d with
  |.tup (x::ds)=>if aR lev a x == .full&&aR lev b (.tup ds) == .full then .full else .no
  |_=>.no
 |.call k _,d=>if ax d then .full else lev k
 |.blt .list _,d=>if ax d then .full else match d with
  |.lst ds=>if aW ds then .full else .top
  |_=>.no
 |.lrng _,d=>if ax d then .full else match d with
  |.lst ds=>if aW ds then .full else .top
  |_=>.no
 |.bin _ _ _,d=>if ax d then .full else match d with
  |.lst ds=>if aW ds then .full else .top
  |_=>.no
 |_,d=>if ax d then .full else .no
@[simp]theorem gX(lev:Nat->Lv)(e i c:Ex)(d:Dat):aR lev (.comp e i c) d=if ax d then .full else match d with
  |.lst ds=>if ds.all (λx=>aR lev e x == .full)then .full else .top
  |_=>.no:=rfl
@[simp]theorem jq(lev:Nat->Lv)(k:Kd)(e a b c:Ex)(d:Dat):aR lev (.compP k e a b c) d=if ax d then .full else match d with
  |.lst ds=>if ds.all (λx=>aR lev e x == .full)then .full else .top
  |_=>.no:=rfl
@[simp]theorem Hj(lev:Nat->Lv)(a:Ex)(d:Dat):aR lev (.lst a) d=if ax d then .full else match d with
  |.lst ds=>if aR lev a (.tup ds) == .full then .full else .top
  |_=>.no:=rfl
@[simp]theorem Hi(lev:Nat->Lv)(a:Ex)(d:Dat):aR lev (.tup a) d=aR lev a d:=rfl
@[simp]theorem sC(lev:Nat->Lv)(a b:Ex)(d:Dat):aR lev (.pair a b) d=if ax d then .full else match d with
  |.tup (x::ds)=>if aR lev a x == .full&&aR lev b (.tup ds) == .full then .full else .no
  |_=>.no:=rfl
@[simp]theorem GT(lev:Nat->Lv)(k:Nat)(a:Ex)(d:Dat):aR lev (.call k a) d=if ax d then .full else lev k:=rfl
@[simp]theorem GS(lev:Nat->Lv)(a:Ex)(d:Dat):aR lev (.blt .list a) d=if ax d then .full else match d with
  |.lst ds=>if aW ds then .full else .top
  |_=>.no:=rfl
@[simp]theorem GR(lev:Nat->Lv)(a:Ex)(d:Dat):aR lev (.lrng a) d=if ax d then .full else match d with
  |.lst ds=>if aW ds then .full else .top
  |_=>.no:=rfl
@[simp]theorem Hh(lev:Nat->Lv)(op:Bo)(a b:Ex)(d:Dat):aR lev (.bin op a b) d=if ax d then .full else match d with
  |.lst ds=>if aW ds then .full else .top
  |_=>.no:=rfl
@[simp]theorem Hg(lev:Nat->Lv)(i:Nat)(d:Dat):aR lev (.var i) d=if ax d then .full else .no:=rfl
@[simp]theorem Hf(lev:Nat->Lv)(w:Wd)(d:Dat):aR lev (.lit w) d=if ax d then .full else .no:=rfl
@[simp]theorem He(lev:Nat->Lv)(a b:Ex)(d:Dat):aR lev (.idx a b) d=if ax d then .full else .no:=rfl
@[simp]theorem Hd(lev:Nat->Lv)(a:Ex)(d:Dat):aR lev (.neg a) d=if ax d then .full else .no:=rfl
@[simp]theorem Hc(lev:Nat->Lv)(a:Ex)(d:Dat):aR lev (.not a) d=if ax d then .full else .no:=rfl
@[simp]theorem Hb(lev:Nat->Lv)(a b:Ex)(d:Dat):aR lev (.and a b) d=if ax d then .full else .no:=rfl
@[simp]theorem tQ(lev:Nat->Lv)(a b:Ex)(d:Dat):aR lev (.or a b) d=if ax d then .full else .no:=rfl
@[simp]theorem Ha(lev:Nat->Lv)(op:Co)(a b:Ex)(d:Dat):aR lev (.cmp op a b) d=if ax d then .full else .no:=rfl
@[simp]theorem GQ(lev:Nat->Lv)(d:Dat):aR lev (.unit) d=if ax d then .full else .no:=rfl
@[simp]theorem G9(lev:Nat->Lv)(t:Tg)(a:Ex)(d:Dat):aR lev (.isi t a) d=if ax d then .full else .no:=rfl
@[simp]theorem G8(lev:Nat->Lv)(a b c:Ex)(d:Dat):aR lev (.rng a b c) d=if ax d then .full else .no:=rfl
@[simp]theorem GP(lev:Nat->Lv)(a:Ex)(d:Dat):aR lev (.blt .len a) d=if ax d then .full else .no:=rfl
@[simp]theorem GO(lev:Nat->Lv)(a:Ex)(d:Dat):aR lev (.blt .int a) d=if ax d then .full else .no:=rfl
@[simp]theorem GN(lev:Nat->Lv)(a:Ex)(d:Dat):aR lev (.blt .sum a) d=if ax d then .full else .no:=rfl
@[simp]theorem GM(lev:Nat->Lv)(a:Ex)(d:Dat):aR lev (.blt .abs a) d=if ax d then .full else .no:=rfl
@[simp]theorem Hy(lev:Nat->Lv)(a:Ex)(d:Dat):aR lev (.blt .max2 a) d=if ax d then .full else .no:=rfl
noncomputable def aH(R:Nat->Prop)(m:Me)(lv:Dat->Lv)(r:Rz)(rd:Rd):Prop:=match rd with
 |.ok d=>∃w m' A,r=.ok w m'/\Le m m'/\bK (λl=>Rf R m.length l/\l∉A) m' (lv d) d w A/\A.Nodup/\∀a∈A,m.length<=a
 |.exc c d=>∃w m',r=.exc c w m'/\Le m m'/\ai (Rf R m.length) m' d w
 |.no=>True
noncomputable def wC(lev:Nat->Lv)(k:Nat)(d:Dat):Lv:=if ax d then .full else lev k
noncomputable def bC(lev:Nat->Lv)(cl:Nat->List Wd->Me->Rz)(cd:Nat->List Dat->Rd):Prop:=∀(k:Nat) (ds:List Dat) (ws:List Wd) (R:Nat->Prop) (m:Me),ae R m ds ws->aH R m (wC lev k) (cl k ws m) (cd k ds)
def aH.sim (h:aH R m lv r rd):ag R m r rd:=by
 cases rd with
 |ok d=>
  obtain⟨w,m',A,rfl,l,q,_,hA⟩:=h;exact⟨w,m',rfl,l,q.rep (λ_ z=>z.1) (λa z=>.inr (hA a z))⟩
 |exc c d=>exact h
 |no=>trivial
def bC.r (H:bC lev cl cd):bu cl cd:=λk ds ws R m q=>(H k ds ws R m q).sim
set_option tactic.hygienic true in
def ag.own (h:ag R m r rd)(hl:∀d,lv d=if ax d then .full else .no):aH R m lv r rd:=by
 cases rd with
 |ok d=>
  obtain⟨w,m',rfl,l,q⟩:=h;refine⟨w,m',[],rfl,l,?_,QP,by simp⟩;rw[hl];split
  .next z=>exact q.flat d w z
  .exact ⟨ai.frame (λl o r z=>⟨⟨r,by simp⟩,z⟩) d w q,rfl⟩
 |exc c d=>exact h
 |no=>trivial
theorem aH.lift{R:Nat->Prop}{m m1:Me}{r:Rz}{rd:Rd}{lv:Dat->Lv}(h:Le m m1)(q:aH (Rf R m.length) m1 lv r rd):aH R m lv r rd:=by
 have hl:=h.len;cases rd with
 |ok d=>
  obtain⟨w,m',A,rfl,k,z,nd,hA⟩:=q;exact⟨w,m',A,rfl,h.trans k,z.frame (λl o r z=>⟨⟨by rcases r.1 with (r|r)|r;exact .inl r;exact .inr r;exact .inr (by lia),r.2⟩,z⟩) (λ_ _ _ z=>z),nd,λa ha=>by have:=hA a ha;lia⟩
 |exc c d=>exact ag.lift (rd:=.exc c d) h q
 |no=>trivial
def ag.bindO (h:ag R m r rd)(k:∀d w m',Le m m'->ai (Rf R m.length) m' d w->aH (Rf R m.length) m' lv (f w m') (g d)):aH R m lv (r.bind f) (rd.bind g):=by
 cases rd with
 |ok d=>obtain⟨w,m',rfl,l,z⟩:=h;exact aH.lift l (k d w m' l z)
 |exc c d=>obtain⟨w,m',rfl,l,z⟩:=h;exact⟨w,m',rfl,l,z⟩
 |no=>trivial
theorem aH.no{R:Nat->Prop}{m:Me}{r:Rz}{lv:Dat->Lv}:aH R m lv r .no:=trivial
set_option tactic.hygienic true in
def aH.new{R:Nat->Prop}{m:Me}{ds:List Dat}{xs:List Wd}{lv:Dat->Lv}(h:ae R m ds xs)(hl:∀es,lv (.lst es)=if aW es then .full else .top):aH R m lv (alloc m xs) (yf ds):=by
 unfold yf alloc;rw[h.len];by_cases z:xs.length<=av
 .rw[Ka z,Ka z];refine⟨_,_,[m.length],rfl,Le.app m _,?_,by simp,by simp⟩;rw[hl];split
  .next f=>exact aS.mpr ⟨_,xs,[],rfl,rfl,by simp,h.flat ds xs f⟩
  .refine ⟨ds,_,xs,rfl,rfl,rfl,by simp,ae.frame (λl o r z=>⟨⟨.inl r,?_⟩,Le.app m _ l o z⟩) ds xs h⟩;have:=(Qa.mp z).1;simp;lia
 .rw[Kb z,Kb z];exact aH.no
def nN (hm:Le m0 m)(h:au m ds xs A)(nd:A.Nodup)(hA:∀a∈A,m0.length<=a)(hl:lv (.lst ds)=.full)(hlen:ds.length=xs.length):aH R m0 lv (alloc m xs) (yf ds):=by
 unfold yf alloc;rw[hlen];have hlt:=h.lt;by_cases z:xs.length<=av
 .rw[Ka z,Ka z];refine⟨_,_,m.length::A,rfl,hm.trans (Le.app m _),?_,QS.mpr ⟨λq=>by have:=hlt _ q;lia,nd⟩,?_⟩
  .rw[hl];exact aS.mpr ⟨_,xs,A,rfl,rfl,by simp,au.frame ds xs A (λl hl o q=>Le.app m _ l o q) h⟩
  .intro a ha;rcases Qc.mp ha with rfl|ha
   .exact hm.len
   .exact hA a ha
 .rw[Kb z,Kb z];exact aH.no
theorem au.len:∀{ds:List Dat}{xs:List Wd}{A:List Nat},au m ds xs A->ds.length=xs.length
 |[],xs,A,q=>by rw[q.nil_inv.1];rfl
 |d::ds,xs,A,q=>by
  obtain⟨x,r,B,C,rfl,rfl,a,b⟩:=q.cons_inv;simp[au.len b]
noncomputable def df(R:Nat->Prop)(m:Me)(lv:Dat->Lv)(r:Rz)(rd:Rd):Prop:=match rd with
 |.ok d=>∃out m2 outx,d=.lst out/\out.length<=av/\r=alloc m2 outx/\Le m m2/\ae (Rf R m.length) m2 out outx/\((∀y∈out,lv y=.full)->∃A,au m2 out outx A/\A.Nodup/\∀a∈A,m.length<=a)
 |.exc c d=>∃w m',r=.exc c w m'/\Le m m'/\ai (Rf R m.length) m' d w
 |.no=>True
noncomputable def cD(m0 m:Me)(lv:Dat->Lv)(acc:List Dat)(acx:List Wd):Prop:=(∀y∈acc,lv y=.full)->∃A,au m acc acx A/\A.Nodup/\∀a∈A,m0.length<=a
def cD.up{m0 m m':Me}{lv:Dat->Lv}{acc:List Dat}{acx:List Wd}(h:Le m m')(q:cD m0 m lv acc acx):cD m0 m' lv acc acx:=λz=>by
 obtain⟨A,a,b,c⟩:=q z;exact⟨A,au.frame acc acx A (λl _ o k=>h l o k) a,b,c⟩
def cD.push{m0 m m':Me}{lv:Dat->Lv}{acc:List Dat}{acx:List Wd}{d:Dat}{w:Wd}{B:List Nat}(hm:Le m0 m)(h:Le m m')(q:cD m0 m lv acc acx)(z:lv d=.full->bg m' d w B)(nd:B.Nodup)(hB:∀b∈B,m.length<=b):cD m0 m' lv (acc++[d]) (acx++[w]):=λf=>by
 obtain⟨A,a,b,c⟩:=q λy hy=>f y (Q5 _ hy);refine⟨A++(B++[]),(au.frame acc acx A (λl _ o k=>h l o k) a).app (.cons (z (f d (by simp))) .nil),?_,?_⟩
 .rw[QV];refine QF.mpr ⟨b,nd,λx hx y hy e=>?_⟩;have:=au.lt acc acx A a x hx;have:=hB y hy;lia
 .intro x hx;rw[QV]at hx;rcases Qu.mp hx with hx|hx
  .exact c x hx
  .have:=hB x hx;have:=hm.len;lia
theorem wP (hc:∀(R':Nat->Prop) m d x,(∀l,R l->R' l)->Le m0 m->ai R' m d x->ag R' m (c x m) (cd d))(he:∀(R':Nat->Prop) m d x,(∀l,R l->R' l)->Le m0 m->ai R' m d x->aH R' m lv (e x m) (ed d)):
  ∀(ds:List Dat) (xs:List Wd) (acc:List Dat) (acx:List Wd) (m:Me),Le m0 m->ae (Rf R m0.length) m ds xs->ae (Rf R m0.length) m acc acx->cD m0 m lv acc acx->df R m0 lv (xl c e xs acx m) (zZ cd ed ds acc)
 |[],xs,acc,acx,m,hm,a,b,f=>by
  rw[a.nil_inv];unfold xl zZ yf;by_cases z:acc.length<=av
  .rw[Ka z];exact⟨acc,m,acx,rfl,z,rfl,hm,b,f⟩
  .rw[Kb z];trivial
 |d::ds,xs,acc,acx,m,hm,a,b,f=>by
  obtain⟨x,r,rfl,p,q⟩:=a.cons_inv;have hl:=hm.len;have sh:∀{n:Nat}{m':Me}{d:Dat}{w:Wd},m0.length<=n->ai (Rf (Rf R m0.length) n) m' d w->ai (Rf R m0.length) m' d w:=λhn k=>ai.frame (λl o r z=>⟨by rcases r with (r|r)|r;exact .inl r;exact .inr r;exact .inr (by lia),z⟩) _ _ k;unfold xl zZ;have h1:=hc _ m d x (λl z=>.inl z) hm p;cases e1:cd d with
  |no=>trivial
  |exc k t=>rw[e1]at h1;obtain⟨w,m',h1,l1,k1⟩:=h1;rw[h1];exact⟨w,m',rfl,hm.trans l1,sh hl k1⟩
  |ok t=>
   rw[e1]at h1;obtain⟨w,m1,h1,l1,k1⟩:=h1;rw[h1];simp only[Rz.bind,Rd.bind];cases t with
   |bl t=>
    rw[am.mp k1];have fr:∀{ds:List Dat}{xs:List Wd},ae (Rf R m0.length) m ds xs->ae (Rf R m0.length) m1 ds xs:=λk=>ae.frame (λl o r z=>⟨r,l1 l o z⟩) _ _ k;cases t with
    |false=>exact wP hc he ds r acc acx m1 (hm.trans l1) (fr q) (fr b) (f.up l1)
    |true=>
     have h2:=he _ m1 d x (λl z=>.inl z) (hm.trans l1) (ai.frame (λl o r z=>⟨r,l1 l o z⟩) _ _ p);have hl1:=(hm.trans l1).len;simp only;cases e2:ed d with
     |no=>trivial
     |exc k t=>rw[e2]at h2;obtain⟨w,m',h2,l2,k2⟩:=h2;rw[h2];exact⟨w,m',rfl,(hm.trans l1).trans l2,sh hl1 k2⟩
     |ok y=>
      rw[e2]at h2;have h3:=h2.sim;obtain⟨w,m2,B,h2,l2,k2,nd,hB⟩:=h2;obtain⟨w',m2',h3,_,k3⟩:=h3;rw[h2]at h3 ⊢;cases h3;simp only[Rz.bind,Rd.bind,b.len];split
      .refine wP hc he ds r _ _ m2 ((hm.trans l1).trans l2) (ae.frame (λl o r z=>⟨r,l2 l o z⟩) _ _ (fr q)) ((ae.frame (λl o r z=>⟨r,l2 l o z⟩) _ _ (fr b)).app (.cons (sh hl1 k3) .nil)) ((f.up l1).push (hm.trans l1) l2 ?_ nd hB);intro z;rw[z]at k2;exact k2
      .trivial
   |_=>trivial
theorem v9 (hx0:m0[l]?=some (.lst xs0))(hc:∀(R':Nat->Prop) m d x,(∀l,R l->R' l)->Le m0 m->ai R' m d x->ag R' m (c x m) (cd d))(he:∀(R':Nat->Prop) m d x,(∀l,R l->R' l)->Le m0 m->ai R' m d x->aH R' m lv (e x m) (ed d)):
  ∀(ds:List Dat) (i k:Nat) (acc:List Dat) (acx:List Wd) (m:Me),Le m0 m->ae (Rf R m0.length) m ds (xs0.drop i)->i+ds.length=xs0.length->ds.length<k->ae (Rf R m0.length) m acc acx->cD m0 m lv acc acx->df R m0 lv (xm c e l k i acx m) (zZ cd ed ds acc)
 |[],i,0,acc,acx,m,hm,a,hi,hk,b,f=>by simp at hk
 |d::ds,i,0,acc,acx,m,hm,a,hi,hk,b,f=>by simp at hk
 |[],i,k+1,acc,acx,m,hm,a,hi,hk,b,f=>by
  unfold xm zZ zC yf;rw[hm l _ hx0];simp only;rw[Qm (by simp at hi;lia)];by_cases z:acc.length<=av
  .rw[Ka z];exact⟨acc,m,acx,rfl,z,rfl,hm,b,f⟩
  .rw[Kb z];trivial
 |d::ds,i,k+1,acc,acx,m,hm,a,hi,hk,b,f=>by
  obtain⟨x,r,e0,p,q⟩:=a.cons_inv;have hx:xs0[i]?=some x:=by
   have:(xs0.drop i)[0]?=some x:=by rw[e0];rfl
   simpa using this
  have hr:r=xs0.drop (i+1):=by
   have:(xs0.drop i).drop 1=r:=by rw[e0];rfl
   rw[<-this,Ve]
  rw[hr]at q;have hi':i+1+ds.length=xs0.length:=by simp at hi;lia
  have hk':ds.length<k:=by simp at hk;lia
  have hl:=hm.len;have sh:∀{n:Nat}{m':Me}{d:Dat}{w:Wd},m0.length<=n->ai (Rf (Rf R m0.length) n) m' d w->ai (Rf R m0.length) m' d w:=λhn k=>ai.frame (λl o r z=>⟨by rcases r with (r|r)|r;exact .inl r;exact .inr r;exact .inr (by lia),z⟩) _ _ k;unfold xm zZ zC;rw[hm l _ hx0];simp only;rw[hx];simp only;have h1:=hc _ m d x (λl z=>.inl z) hm p;cases e1:cd d with
  |no=>trivial
  |exc k t=>rw[e1]at h1;obtain⟨w,m',h1,l1,k1⟩:=h1;rw[h1];exact⟨w,m',rfl,hm.trans l1,sh hl k1⟩
  |ok t=>
   rw[e1]at h1;obtain⟨w,m1,h1,l1,k1⟩:=h1;rw[h1];simp only[Rz.bind,Rd.bind];cases t with
   |bl t=>
    rw[am.mp k1];have fr:∀{ds:List Dat}{xs:List Wd},ae (Rf R m0.length) m ds xs->ae (Rf R m0.length) m1 ds xs:=λk=>ae.frame (λl o r z=>⟨r,l1 l o z⟩) _ _ k;cases t with
    |false=>exact v9 hx0 hc he ds (i+1) k acc acx m1 (hm.trans l1) (fr q) hi' hk' (fr b) (f.up l1)
    |true=>
     have h2:=he _ m1 d x (λl z=>.inl z) (hm.trans l1) (ai.frame (λl o r z=>⟨r,l1 l o z⟩) _ _ p);have hl1:=(hm.trans l1).len;simp only;cases e2:ed d with
     |no=>trivial
     |exc k t=>rw[e2]at h2;obtain⟨w,m',h2,l2,k2⟩:=h2;rw[h2];exact⟨w,m',rfl,(hm.trans l1).trans l2,sh hl1 k2⟩
     |ok y=>
      rw[e2]at h2;have h3:=h2.sim;obtain⟨w,m2,B,h2,l2,k2,nd,hB⟩:=h2;obtain⟨w',m2',h3,_,k3⟩:=h3;rw[h2]at h3 ⊢;cases h3;simp only[Rz.bind,Rd.bind,b.len];split
      .refine v9 hx0 hc he ds (i+1) k _ _ m2 ((hm.trans l1).trans l2) (ae.frame (λl o r z=>⟨r,l2 l o z⟩) _ _ (fr q)) hi' hk' ((ae.frame (λl o r z=>⟨r,l2 l o z⟩) _ _ (fr b)).app (.cons (sh hl1 k3) .nil)) ((f.up l1).push (hm.trans l1) l2 ?_ nd hB);intro z;rw[z]at k2;exact k2
      .trivial
   |_=>trivial
theorem ke (hg:lL (Rf R m0.length) m0 ps g)(hc:∀(R':Nat->Prop) m p a b,(∀l,R l->R' l)->Le m0 m->ai R' m p.1 a->ai R' m p.2 b->ag R' m (c a b m) (cd p))(he:∀(R':Nat->Prop) m p a b,(∀l,R l->R' l)->Le m0 m->ai R' m p.1 a->ai R' m p.2 b->aH R' m lv (e a b m) (ed p)):
  ∀(ds:List (Dat×Dat)) (i k:Nat) (acc:List Dat) (acx:List Wd) (m:Me),Le m0 m->ds=ps.drop i->i+ds.length=ps.length->ds.length<k->ae (Rf R m0.length) m acc acx->cD m0 m lv acc acx->df R m0 lv (yX c e g k i acx m) (zZ cd ed ds acc)
 |[],i,0,acc,acx,m,hm,a,hi,hk,b,f=>by simp at hk
 |d::ds,i,0,acc,acx,m,hm,a,hi,hk,b,f=>by simp at hk
 |[],i,k+1,acc,acx,m,hm,a,hi,hk,b,f=>by
  unfold yX zZ yf;rw[(hg m hm).2 i (by simp at hi;lia)];simp only;by_cases z:acc.length<=av
  .rw[Ka z];exact⟨acc,m,acx,rfl,z,rfl,hm,b,f⟩
  .rw[Kb z];trivial
 |d::ds,i,k+1,acc,acx,m,hm,a,hi,hk,b,f=>by
  have hx:ps[i]?=some d:=by
   have:(ps.drop i)[0]?=some d:=by rw[<-a];rfl
   simpa using this
  have hr:ds=ps.drop (i+1):=by
   have:(ps.drop i).drop 1=ds:=by rw[<-a];rfl
   rw[<-this,Ve]
  have hi':i+1+ds.length=ps.length:=by simp at hi;lia
  have hk':ds.length<k:=by simp at hk;lia
  obtain⟨u,v,e0,p,q⟩:=(hg m hm).1 i d hx;have hl:=hm.len;have sh:∀{n:Nat}{m':Me}{d:Dat}{w:Wd},m0.length<=n->ai (Rf (Rf R m0.length) n) m' d w->ai (Rf R m0.length) m' d w:=λhn k=>ai.frame (λl o r z=>⟨by rcases r with (r|r)|r;exact .inl r;exact .inr r;exact .inr (by lia),z⟩) _ _ k;unfold yX zZ;rw[e0];simp only;have h1:=hc _ m d u v (λl z=>.inl z) hm p q;cases e1:cd d with
  |no=>trivial
  |exc k t=>rw[e1]at h1;obtain⟨w,m',h1,l1,k1⟩:=h1;rw[h1];exact⟨w,m',rfl,hm.trans l1,sh hl k1⟩
  |ok t=>
   rw[e1]at h1;obtain⟨w,m1,h1,l1,k1⟩:=h1;rw[h1];simp only[Rz.bind,Rd.bind];cases t with
   |bl t=>
    rw[am.mp k1];have fr:∀{ds:List Dat}{xs:List Wd},ae (Rf R m0.length) m ds xs->ae (Rf R m0.length) m1 ds xs:=λk=>ae.frame (λl o r z=>⟨r,l1 l o z⟩) _ _ k;cases t with
    |false=>exact ke hg hc he ds (i+1) k acc acx m1 (hm.trans l1) hr hi' hk' (fr b) (f.up l1)
    |true=>
     have h2:=he _ m1 d u v (λl z=>.inl z) (hm.trans l1) (ai.frame (λl o r z=>⟨r,l1 l o z⟩) _ _ p) (ai.frame (λl o r z=>⟨r,l1 l o z⟩) _ _ q);have hl1:=(hm.trans l1).len;simp only;cases e2:ed d with
     |no=>trivial
     |exc k t=>rw[e2]at h2;obtain⟨w,m',h2,l2,k2⟩:=h2;rw[h2];exact⟨w,m',rfl,(hm.trans l1).trans l2,sh hl1 k2⟩
     |ok y=>
      rw[e2]at h2;have h3:=h2.sim;obtain⟨w,m2,B,h2,l2,k2,nd,hB⟩:=h2;obtain⟨w',m2',h3,_,k3⟩:=h3;rw[h2]at h3 ⊢;cases h3;simp only[Rz.bind,Rd.bind,b.len];split
      .refine ke hg hc he ds (i+1) k _ _ m2 ((hm.trans l1).trans l2) hr hi' hk' ((ae.frame (λl o r z=>⟨r,l2 l o z⟩) _ _ (fr b)).app (.cons (sh hl1 k3) .nil)) ((f.up l1).push (hm.trans l1) l2 ?_ nd hB);intro z;rw[z]at k2;exact k2
      .trivial
   |_=>trivial
def df.sim (h:df R m lv r rd)(hl:∀ds,lw (.lst ds)=if ds.all (λx=>lv x == .full)then .full else .top):aH R m lw r rd:=by
 cases rd with
 |no=>trivial
 |exc c d=>exact h
 |ok d=>
  obtain⟨out,m2,outx,rfl,hlen,rfl,l2,k2,own⟩:=h;have e:=k2.len;cases z:out.all (λx=>lv x == .full)with
  |true=>
   obtain⟨A,a,b,c⟩:=own λy hy=>by simpa using Wv.mp z y hy
   have:=nN (R:=R) (lv:=lw) l2 a b c (by rw[hl,z];rfl) e;unfold yf at this;rw[Ka hlen]at this;exact this
  |false=>
   unfold alloc;rw[<-e,Ka hlen];have ll:=l2.len;refine⟨_,_,[m2.length],rfl,l2.trans (Le.app m2 _),?_,by simp,by simp;exact ll⟩;rw[hl,z];refine⟨out,_,outx,rfl,rfl,rfl,by simp,ae.frame (λl o r z=>⟨⟨r,?_⟩,Le.app m2 _ l o z⟩) out outx k2⟩;have:=(Qa.mp z).1;simp;lia
theorem yE(lev:Nat->Lv):∀(e:Ex) (d:Dat),ax d=true->aR lev e d=.full
 |.tup a,d,h=>yE lev a d h
 |.comp _ _ _,d,h=>Ka h
 |.compP _ _ _ _ _,d,h=>Ka h
 |.lst _,d,h=>Ka h
 |.pair _ _,d,h=>Ka h
 |.call _ _,d,h=>Ka h
 |.blt b _,d,h=>by cases b<;>exact Ka h
 |.lrng _,d,h=>Ka h
 |.bin _ _ _,d,h=>Ka h
 |.var _,d,h=>Ka h
 |.lit _,d,h=>Ka h
 |.neg _,d,h=>Ka h
 |.not _,d,h=>Ka h
 |.and _ _,d,h=>Ka h
 |.or _ _,d,h=>Ka h
 |.cmp _ _ _,d,h=>Ka h
 |.chain _ _ _ _ _,d,h=>Ka h
 |.unit,d,h=>Ka h
 |.isi _ _,d,h=>Ka h
 |.dop _ _ _ _,d,h=>Ka h
 |.idx _ _,d,h=>Ka h
 |.meth _ _ _,d,h=>Ka h
 |.rng _ _ _,d,h=>Ka h
def aH.newTop{R:Nat->Prop}{m0 m:Me}{ds:List Dat}{xs:List Wd}{lv:Dat->Lv}(hm:Le m0 m)(h:ae (Rf R m0.length) m ds xs)(hl:lv (.lst ds)=.top):aH R m0 lv (alloc m xs) (yf ds):=by
 unfold yf alloc;rw[h.len];by_cases z:xs.length<=av
 .rw[Ka z,Ka z];refine⟨_,_,[m.length],rfl,hm.trans (Le.app m _),?_,by simp,by simp;exact hm.len⟩;rw[hl];refine⟨ds,_,xs,rfl,rfl,rfl,by simp,ae.frame (λl o r z=>⟨⟨r,?_⟩,Le.app m _ l o z⟩) ds xs h⟩;have:=(Qa.mp z).1;simp;lia
 .rw[Kb z,Kb z];exact aH.no
set_option tactic.hygienic true in
def BA{R:Nat->Prop}{m:Me}{d e:Dat}{x y:Wd}{lv:Dat->Lv}(op:Bo)(hl:∀d,lv d=if ax d then .full else match d with |.lst ds=>if aW ds then .full else .top|_=>.no)(a:ai R m d x)(b:ai R m e y):aH R m lv (di op x y m) (zX op d e):=by
 have hn:∀es,lv (.lst es)=if aW es then .full else .top:=λes=>by rw[hl];simp[ax]
 have hs:=sI op a b;cases d with
 |lst ds=>
  obtain⟨l,xs,rfl,_,hm,a1⟩:=aA.mp a;cases e with
  |lst es=>
   obtain⟨l',ys,rfl,_,hk,b1⟩:=aA.mp b;cases op<;>first|exact aH.no|skip
   simp only[di,zX,hm,hk];exact aH.new (a1.app b1) hn
  |int k=>
   rw[aa.mp b];cases op<;>first|exact aH.no|skip
   simp only[di,zX,hm];by_cases z:-(av:Int)<=k/\k<=(av:Int)
   .rw[Ka z,Ka z];exact aH.new (a1.rep _) hn
   .rw[Kb z,Kb z];exact aH.no
  |_=>exact aH.no
 |int i=>
  cases e with
  |int j=>
   have hi:∀r:Rd,ag R m (di op x y m) r->(∀d,r=.ok d->ax d=true)->aH R m lv (di op x y m) r:=by
    intro r h f;cases r with
    |ok d=>
     obtain⟨w,m',h,l,k⟩:=h;refine⟨w,m',[],h,l,?_,QP,by simp⟩;rw[hl,Ka (f d rfl)];exact k.flat d w (f d rfl)
    |exc c d=>exact h
    |no=>trivial
   refine hi _ hs λd h=>?_;cases op<;>simp only[zX]at h
   .cases h;rfl
   .cases h;rfl
   all_goals (split at h<;>(cases h;try rfl))
  |_=>exact aH.no
 |tup ds=>
  obtain⟨xs,rfl,a1⟩:=aj.mp a;cases e with
  |tup es=>
   obtain⟨ys,rfl,b1⟩:=aj.mp b;cases op<;>first|exact aH.no|skip
   simp only[zX]at hs ⊢;split at hs
   .next z=>
    rw[Ka z];obtain⟨w,m',h,l,k⟩:=hs;refine⟨w,m',[],h,l,?_,QP,by simp⟩;rw[hl];split
    .next f=>exact k.flat _ w f
    .exact ⟨ai.frame (λl o r z=>⟨⟨r,by simp⟩,z⟩) _ w k,rfl⟩
   .next z=>rw[Kb z];exact aH.no
  |_=>exact aH.no
 |_=>exact aH.no
set_option tactic.hygienic true in
theorem xL (H:bC lev cl cd):∀(e:Ex) (R:Nat->Prop) (m:Me) (de:aJ) (env:En),bM R m (zv e) de env->aH R m (aR lev e) (ah cl e env m) (aq cd e de)
 |.call k a,R,m,de,env,q=>by
  have e:aR lev (.call k a)=wC lev k:=by funext d;simp[wC]
  rw[e];refine(zi H.r a R m de env q).bindO λd w m1 l1 k1=>?_;exact H k _ _ _ m1 (yD k1)
 |.bin op a b,R,m,de,env,q=>by
  refine(zi H.r a R m de env q.left).bindO λd w m1 l1 k1=>?_;refine(zi H.r b _ m1 de env (q.right.up (λ_=>.inl) l1)).bindO λd2 w2 m2 l2 k2=>?_;exact BA op (λd=>by cases d<;>rfl) (k1.up _ l2) k2
 |.lrng a,R,m,de,env,q=>by
  refine(zi H.r a R m de env q).bindO λd w m1 l1 k1=>?_;cases d with
  |int j=>
   rw[aa.mp k1];simp only;split
   .exact aH.new (vF 1 _ 0) (λes=>by simp[ax])
   .exact aH.no
  |_=>exact aH.no
 |.blt b a,R,m,de,env,q=>by
  by_cases hb:b=.list
  .subst hb;refine(zi H.r a R m de env q).bindO λd w m1 l1 k1=>?_;have k2:=yD k1;simp only[yy];split
   .next x hx=>
    rw[hx]at k2;obtain⟨x',r,e0,p,q0⟩:=k2.cons_inv;rw[e0,q0.nil_inv];split
    .next z=>obtain⟨ys,h,q⟩:=wN p z;simp only[w5,h];exact aH.new q (λes=>by simp[ax])
    .exact aH.no
   .exact aH.no
  .exact (zi H.r (.blt b a) R m de env q).own λd=>by cases b<;>first|exact Kc rfl hb|rfl
 |.lst a,R,m,de,env,q=>by
  have ih:=xL H a R m de env q;show aH R m _ ((ah cl a env m).bind λx m1=>alloc m1 (zt x)) ((aq cd a de).bind λx=>yf (zP x));cases ea:aq cd a de with
  |no=>trivial
  |exc c d=>rw[ea]at ih;obtain⟨w,m',h,l,k⟩:=ih;rw[h];exact⟨w,m',rfl,l,k⟩
  |ok d=>
   rw[ea]at ih;have hs:=ih.sim;obtain⟨w,m1,A,h,l,k,nd,hA⟩:=ih;obtain⟨w',m1',h',_,ks⟩:=hs;rw[h]at h';cases h';rw[h];simp only[Rz.bind,Rd.bind];have ka:=yD ks;cases z:aR lev a (.tup (zP d)) == .full with
   |false=>exact aH.newTop l ka (by simp[ax,z])
   |true=>
    have z':aR lev a (.tup (zP d))=.full:=by simpa using z
    have own:∃B,au m1 (zP d) (zt w) B/\B.Nodup/\∀b∈B,m.length<=b:=by
     cases d with
     |tup ds=>
      rw[show aR lev a (.tup ds)=.full from z']at k;obtain⟨xs,rfl,k1⟩:=bx.mp k;exact⟨A,k1,nd,hA⟩
     |_=>refine⟨[],?_,QP,by simp⟩;exact ka.flat _ _ rfl
    obtain⟨B,o,nb,hB⟩:=own;exact nN l o nb hB (by simp[ax,z]) ka.len
 |.tup a,R,m,de,env,q=>by
  have ih:=xL H a R m de env q;have el:aR lev (.tup a)=aR lev a:=by funext d;simp
  rw[el];show aH R m _ ((ah cl a env m).bind λx m1=>if(zt x).length<=av then .ok (.tup (zt x)) m1 else .no) ((aq cd a de).bind λx=>if(zP x).length<=av then .ok (.tup (zP x))else .no);cases ea:aq cd a de with
  |no=>trivial
  |exc c d=>rw[ea]at ih;obtain⟨w,m',h,l,k⟩:=ih;rw[h];exact⟨w,m',rfl,l,k⟩
  |ok d=>
   rw[ea]at ih;have hs:=ih.sim;obtain⟨w,m1,A,h,l,k,nd,hA⟩:=ih;obtain⟨w',m1',h',_,ks⟩:=hs;rw[h]at h';cases h';rw[h];have ka:=yD ks;simp only[Rz.bind,Rd.bind,ka.len];split
   .cases d with
    |tup ds=>
     obtain⟨xs,rfl,_⟩:=aj.mp ks;exact⟨_,m1,A,rfl,l,k,nd,hA⟩
    |_=>
     refine⟨_,m1,[],rfl,l,?_,QP,by simp⟩;rw[yE lev a _ (by rfl)];exact bx.mpr ⟨_,rfl,ka.flat _ _ rfl⟩
   .trivial
 |.pair a b,R,m,de,env,q=>by
  have iha:=xL H a R m de env q.left;show aH R m _ ((ah cl a env m).bind λx m1=>(ah cl b env m1).bind λy m2=>.ok (.tup (x::zt y)) m2) ((aq cd a de).bind λx=>(aq cd b de).bind λy=>.ok (.tup (x::zP y)));cases ea:aq cd a de with
  |no=>trivial
  |exc c d=>rw[ea]at iha;obtain⟨w,m',h,l,k⟩:=iha;rw[h];exact⟨w,m',rfl,l,k⟩
  |ok d=>
   rw[ea]at iha;have hs:=iha.sim;obtain⟨w,m1,A,h,l,k,nd,hA⟩:=iha;obtain⟨w',m1',h',_,ks⟩:=hs;rw[h]at h';cases h';rw[h];simp only[Rz.bind,Rd.bind];have ihb:=xL H b _ m1 de env (q.right.up (R':=Rf R m.length) (λ_=>.inl) l);cases eb:aq cd b de with
   |no=>trivial
   |exc c d=>rw[eb]at ihb;obtain⟨w,m',h,l2,k⟩:=ihb;rw[h];exact ag.lift (rd:=.exc c d) l ⟨w,m',rfl,l2,k⟩
   |ok d2=>
    rw[eb]at ihb;have hs2:=ihb.sim;obtain⟨w2,m2,A2,h2,l2,k2,nd2,hA2⟩:=ihb;obtain⟨w2',m2',h2',_,ks2⟩:=hs2;rw[h2]at h2';cases h2';rw[h2];simp only;have ka:=yD ks2;have hl1:=l.len;cases z:(aR lev a d == .full&&aR lev b (.tup (zP d2)) == .full)with
    |false=>
     have:ag R m (.ok (.tup (w::zt w2)) m2) (.ok (.tup (d::zP d2))):=
      ag.lift l (ag.lift l2 (dF (aj.mpr ⟨_,rfl,.cons (ks.up _ l2) ka⟩)))
     obtain⟨w3,m3,h3,l3,k3⟩:=this;refine⟨w3,m3,[],h3,l3,?_,QP,by simp⟩;by_cases f:ax (.tup (d::zP d2))=true
     .rw[yE lev _ _ f];exact k3.flat _ w3 f
     .have:aR lev (.pair a b) (.tup (d::zP d2))=.no:=by
       rw[sC,Kb f];simp only[z];rfl
      rw[this];exact⟨ai.frame (λl o r z=>⟨⟨r,by simp⟩,z⟩) _ w3 k3,rfl⟩
    |true=>
     rw[Qx]at z;have z1:aR lev a d=.full:=by simpa using z.1
     have z2:aR lev b (.tup (zP d2))=.full:=by simpa using z.2
     rw[z1]at k;have own:∃B,au m2 (zP d2) (zt w2) B/\B.Nodup/\∀b∈B,m1.length<=b:=by
      cases d2 with
      |tup ds=>
       rw[show aR lev b (.tup ds)=.full from z2]at k2;obtain⟨xs,rfl,k3⟩:=bx.mp k2;exact⟨A2,k3,nd2,hA2⟩
      |_=>refine⟨[],?_,QP,by simp⟩;exact ka.flat _ _ rfl
     obtain⟨B,o,nb,hB⟩:=own;refine⟨_,m2,A++B,rfl,l.trans l2,?_,?_,?_⟩
     .have:aR lev (.pair a b) (.tup (d::zP d2))=.full:=by
       rw[sC];simp only[z1,z2];simp
      rw[this];exact bx.mpr ⟨_,rfl,.cons (bg.frame d w A (λx _ o q=>l2 x o q) k) o⟩
     .refine QF.mpr ⟨nd,nb,λx hx y hy e=>?_⟩;have:=bg.lt d w A k x hx;have:=hB y hy;lia
     .intro x hx;rcases Qu.mp hx with hx|hx
      .exact hA x hx
      .have:=hB x hx;lia
 |.comp elt it cond,R,m,de,env,q=>by
  refine(zi H.r it R m de env q.left).bindO λd w m1 l1 k1=>?_;have hc:∀(R':Nat->Prop) m' d x,(∀l,Rf R m.length l->R' l)->Le m1 m'->ai R' m' d x->ag R' m' (ah cl cond (env++[some x]) m') (aq cd cond (de++[some d])):=
   λR' m' d x hR l k=>zi H.r cond R' m' _ _ ((q.right.right.up (λl h=>hR l (.inl h)) (l1.trans l)).push k)
  have he:∀(R':Nat->Prop) m' d x,(∀l,Rf R m.length l->R' l)->Le m1 m'->ai R' m' d x->aH R' m' (aR lev elt) (ah cl elt (env++[some x]) m') (aq cd elt (de++[some d])):=
   λR' m' d x hR l k=>xL H elt R' m' _ _ ((q.right.left.up (λl h=>hR l (.inl h)) (l1.trans l)).push k)
  have hl:∀ds,aR lev (.comp elt it cond) (.lst ds)=if ds.all (λx=>aR lev elt x == .full)then .full else .top:=λds=>by simp[ax]
  have acc0:cD m1 m1 (aR lev elt) [] []:=λ_=>⟨[],.nil,QP,by simp⟩;cases d with
  |tup ds=>
   obtain⟨xs,rfl,k2⟩:=aj.mp k1;exact(wP hc he ds xs [] [] m1 (Le.refl _) (k2.up _ (Le.refl _)) .nil acc0).sim hl
  |scr ns=>
   rw[ba.mp k1];exact(wP hc he (ns.map .int) (ns.map .int) [] [] m1 (Le.refl _) (fv ns) .nil acc0).sim hl
  |lst ds=>
   obtain⟨l,xs,rfl,_,hm,k2⟩:=aA.mp k1;simp only[cE];by_cases z:ds.length<=av
   .rw[Ka z];have hl':=k2.len;exact(v9 hm hc he ds 0 (av+1) [] [] m1 (Le.refl _) (by simpa using (k2.up _ (Le.refl _))) (by lia) (by lia) .nil acc0).sim hl
   .rw[Kb z];exact aH.no
  |_=>exact aH.no
 |.compP k elt a b cond,R,m,de,env,q=>by
  refine(zi H.r a R m de env q.left).bindO λd w m1 l1 k1=>?_;refine(zi H.r b _ m1 de env (q.right.left.up (λl h=>.inl h) l1)).bindO λd' w' m2 l2 k2=>?_;have hc:∀(R':Nat->Prop) m' (p:Dat×Dat) x y,(∀l,Rf (Rf R m.length) m1.length l->R' l)->Le m2 m'->ai R' m' p.1 x->ai R' m' p.2 y->ag R' m' (ah cl cond (env++[some x]++[some y]) m') (aq cd cond (de++[some p.1]++[some p.2])):=
   λR' m' d x y hR l k k'=>zi H.r cond R' m' _ _ (((q.right.right.right.up (λl h=>hR l (.inl (.inl h))) ((l1.trans l2).trans l)).push k).push k')
  have he:∀(R':Nat->Prop) m' (p:Dat×Dat) x y,(∀l,Rf (Rf R m.length) m1.length l->R' l)->Le m2 m'->ai R' m' p.1 x->ai R' m' p.2 y->aH R' m' (aR lev elt) (ah cl elt (env++[some x]++[some y]) m') (aq cd elt (de++[some p.1]++[some p.2])):=
   λR' m' d x y hR l k k'=>xL H elt R' m' _ _ (((q.right.right.left.up (λl h=>hR l (.inl (.inl h))) ((l1.trans l2).trans l)).push k).push k')
  have hl:∀ds,aR lev (.compP k elt a b cond) (.lst ds)=if ds.all (λx=>aR lev elt x == .full)then .full else .top:=λds=>by simp[ax]
  have acc0:cD m2 m2 (aR lev elt) [] []:=λ_=>⟨[],.nil,QP,by simp⟩;cases e:xK k d d' with
  |none=>exact aH.no
  |some ps=>
   obtain⟨pr,hln⟩:=gc e ((k1.up _ l2).up m2.length (Le.refl _)) (k2.up m2.length (Le.refl _));exact(ke pr hc he ps 0 (av+1) [] [] m2 (Le.refl _) (by simp) (by simp) (by lia) .nil acc0).sim hl
 |.var i,R,m,de,env,q=>(zi H.r _ R m de env q).own λd=>rfl
 |.lit w,R,m,de,env,q=>(zi H.r _ R m de env q).own λd=>rfl
 |.neg a,R,m,de,env,q=>(zi H.r _ R m de env q).own λd=>rfl
 |.not a,R,m,de,env,q=>(zi H.r _ R m de env q).own λd=>rfl
 |.and a b,R,m,de,env,q=>(zi H.r _ R m de env q).own λd=>rfl
 |.or a b,R,m,de,env,q=>(zi H.r _ R m de env q).own λd=>rfl
 |.cmp op a b,R,m,de,env,q=>(zi H.r _ R m de env q).own λd=>rfl
 |.chain o p a b c,R,m,de,env,q=>(zi H.r _ R m de env q).own λd=>rfl
 |.unit,R,m,de,env,q=>(zi H.r _ R m de env q).own λd=>rfl
 |.isi t a,R,m,de,env,q=>(zi H.r _ R m de env q).own λd=>rfl
 |.dop _ _ _ _,R,m,de,env,q=>(zi H.r _ R m de env q).own λd=>rfl
 |.idx a b,R,m,de,env,q=>(zi H.r _ R m de env q).own λd=>rfl
 |.meth _ _ _,R,m,de,env,q=>(zi H.r _ R m de env q).own λd=>rfl
 |.rng a b c,R,m,de,env,q=>(zi H.r _ R m de env q).own λd=>rfl
set_option genInjectivity false in
inductive bR where
 |next (de:aJ) (lv:List Lv)|ret (d:Dat) (l:Lv)|brk (de:aJ) (lv:List Lv)|cont (de:aJ) (lv:List Lv)|exc (c:Nat) (d:Dat)|no
deriving Inhabited
noncomputable def Rd.bindS(r:Rd)(f:Dat->bR):bR:=match r with
 |.ok d=>f d
 |.exc c d=>.exc c d
 |.no=>.no
noncomputable def Rd.okS(r:Rd)(f:Dat->bR):bR:=match r with
 |.ok d=>f d
 |_=>.no
noncomputable def aO:List Nat->List Lv->List Lv
 |[],lv=>lv
 |i::vs,lv=>aO vs (lv.set i .no)
noncomputable def bW(de:aJ)(j:Nat)(lv:List Lv):List Lv:=match de[j]?,lv[j]? with
 |some (some (.lst _)),some .full=>lv.set j .top
 |some (some (.lst _)),some .top=>lv.set j .top
 |_,_=>lv.set j .no
noncomputable def yN(e:Ex)(de:aJ)(lv:List Lv):List Lv:=match e with
 |.idx (.var j) b=>bW de j (aO (zv b) lv)
 |e=>aO (zv e) lv
mutual
noncomputable def dW:Dat->Nat
 |.lst xs=>dn xs+1
 |.tup xs=>dn xs+1
 |.non=>0
 |.bl _=>0
 |.int _=>0
 |.str _=>0
 |.scr _=>0
noncomputable def dn:List Dat->Nat
 |[]=>0
 |d::ds=>max (dW d) (dn ds)
end
noncomputable def zV(lv:List Lv)(j:Nat):Bool:=match lv[j]? with
 |some .top=>true
 |some .full=>true
 |_=>false
noncomputable def yQ(lev:Nat->Lv)(e:Ex)(d:Dat)(j:Nat)(de:aJ)(lv:List Lv):Option (aJ×List Lv):=
 if zV lv j=false then none
 else if aR lev e d=.full then some (de,lv)
 else if j∈zv e then none
 else match e with
  |.var i=>if lv[i]?=some .full/\lv[j]?=some .full then some (de.set i none,lv)else some (de,(aO [i] lv).set j .top)
  |e=>some (de,(yN e de lv).set j .top)
noncomputable def yx{α:Type}(body:α->aJ->List Lv->bR):List α->aJ->List Lv->bR
 |[],de,lv=>.next de lv
 |x::xs,de,lv=>match body x de lv with
  |.next d1 l1=>yx body xs d1 l1
  |.cont d1 l1=>yx body xs d1 l1
  |.brk d1 l1=>.next d1 l1
  |r=>r
noncomputable def wg(c:aJ->Rd)(body:aJ->List Lv->bR):Nat->aJ->List Lv->bR
 |0,_,_=>.no
 |k+1,de,lv=>match c de with
  |.ok (.bl true)=>match body de lv with
   |.next d1 l1=>wg c body k d1 l1
   |.cont d1 l1=>wg c body k d1 l1
   |.brk d1 l1=>.next d1 l1
   |r=>r
  |.ok (.bl false)=>.next de lv
  |.exc c d=>.exc c d
  |_=>.no
noncomputable def aN(d:Dat):Lv:=if ax d then .full else .no
noncomputable def cU(lev:Nat->Lv)(e:Ex)(d:Dat)(lv:List Lv):Lv:=if ax d then .full else match e with
 |.var i=>(lv[i]?).getD .no
 |.tup (.pair (.var a) (.pair (.var b) .unit))=>if a≠b/\lv[a]?=some .full/\lv[b]?=some .full then .full else .no
 |e=>aR lev e d
noncomputable def xz(de:aJ)(j:Nat):Option (List Dat):=match de[j]? with
 |some (some (.lst ds))=>some ds
 |_=>none
noncomputable def vG(lev:Nat->Lv)(i:Nat)(e:Ex)(d:Dat)(de:aJ)(lv:List Lv):bR:=
 if aR lev e d=.full then .next (de.set i (some d)) (lv.set i .full)else .next (de.set i (some d)) ((yN e de lv).set i (aR lev e d))
noncomputable def oF(lev:Nat->Lv)(j:Nat)(k:Dat)(e:Ex)(d:Dat)(de:aJ)(lv:List Lv):bR:=match k,xz de j with
 |.int k,some ds=>match ix ds.length k with
  |some p=>match yQ lev e d j de lv with
   |some (de1,lv1)=>.next (de1.set j (some (.lst (ds.set p d)))) lv1
   |none=>if zV lv j&&decide (dW d<dW (.lst ds))&&(ax d==false)then .next (de.set j (some (.lst (ds.set p d)))) ((aO (zv e) lv).set j .top)else .no
  |none=>.no
 |_,_=>.no
noncomputable def eK(j:Nat)(r:Dat)(de:aJ)(lv:List Lv)(f:List Dat->Option (List Dat)):Option aJ:=match r,xz de j with
 |.int k,some ds=>match (ix ds.length k).bind λp=>(ds[p]?).bind λd=>match d with
   |.lst es=>(f es).map λes1=>ds.set p (.lst es1)
   |_=>none with
  |some ds1=>if lv[j]?=some .full then some (de.set j (some (.lst ds1)))else none
  |none=>none
 |_,_=>none
noncomputable def fH(o:Option aJ)(lv:List Lv):bR:=match o with
 |some de=>.next de lv
 |none=>.no
noncomputable def jr(k d:Dat)(es:List Dat):Option (List Dat):=match k with
 |.int k=>(ix es.length k).map λp=>es.set p d
 |_=>none
noncomputable def yg(_ _:Sm):Option Unit:=none
noncomputable def uO(lev:Nat->Lv)(cl:Nat->List Dat->Rd)(e:Ex)(de:aJ)(lv:List Lv):bR:=match e with
  |.meth .append (.var j) (.pair e .unit)=>(aq cl e de).okS λd=>match xz de j with
   |some ds=>if ds.length<av then match yQ lev e d j de lv with
    |some (de1,lv1)=>.next (de1.set j (some (.lst (ds++[d])))) lv1
    |none=>.no
    else .no
   |none=>.no
  |.meth .reverse (.var j) .unit=>match xz de j with
   |some ds=>if zV lv j then .next (de.set j (some (.lst ds.reverse))) lv else .no
   |none=>.no
  |.meth _ _ _=>.no
  |e=>(aq cl e de).bindS λ_=>.next de lv
noncomputable def aC(lev:Nat->Lv)(cl:Nat->List Dat->Rd):Sm->aJ->List Lv->bR
 |.skip,de,lv=>.next de lv
 |.seq a b,de,lv=>match aC lev cl a de lv with
  |.next d1 l1=>aC lev cl b d1 l1
  |r=>r
 |.asg i e,de,lv=>(aq cl e de).bindS λd=>vG lev i e d de lv
 |.asgS o k e,de,lv=>match o with
  |.var j=>(aq cl e de).okS λd=>(aq cl k de).okS λk=>oF lev j k e d de lv
  |.idx (.var j) r=>(aq cl e de).okS λd=>(aq cl r de).okS λr=>(aq cl k de).okS λk=>
    if aR lev e d=.full then fH (eK j r de lv (jr k d)) lv
    else if j∈zv e then .no else fH (eK j r de lv (jr k d)) ((yN e de lv).set j .top)
  |_=>.no
 |.ite c a b,de,lv=>(aq cl c de).bindS λx=>match x with
  |.bl true=>aC lev cl a de lv
  |.bl false=>aC lev cl b de lv
  |_=>.no
 |.forv i it body,de,lv=>(aq cl it de).bindS λd=>match cE d with
  |some xs=>yx (λx de lv=>aC lev cl body (de.set i (some x)) (lv.set i (aN x))) xs de (if ax d then lv else yN it de lv)
  |none=>.no
 |.fort i j it body,de,lv=>(aq cl it de).bindS λd=>match cE d with
  |some xs=>yx (λx de lv=>match x with
    |.tup [a,b]=>aC lev cl body ((de.set i (some a)).set j (some b)) ((lv.set i (aN a)).set j (aN b))
    |_=>.no) xs de (if ax d then lv else yN it de lv)
  |none=>.no
 |.while c body,de,lv=>wg (aq cl c) (aC lev cl body) 1000000 de lv
 |.ret e,de,lv=>(aq cl e de).bindS λd=>.ret d (cU lev e d lv)
 |.expr e,de,lv=>uO lev cl e de lv
 |.unp3 i j k e,de,lv=>(aq cl e de).bindS λd=>match xo d with
  |some [a,b,c]=>.next (((de.set i (some a)).set j (some b)).set k (some c)) ((((yN e de lv).set i (aN a)).set j (aN b)).set k (aN c))
  |_=>.no
 |.never,_,_=>.no
def sB{lev:Nat->Lv}{cl:Nat->List Dat->Rd}{a b:Sm}{de:aJ}{lv:List Lv}:aC lev cl (.seq a b) de lv=match aC lev cl a de lv with
  |.next d1 l1=>aC lev cl b d1 l1
  |r=>r:=rfl
noncomputable def xN(fn:Fn)(ds:List Dat):aJ:=ds.map some++Qz (fn.sz-ds.length) none
noncomputable def xh(fn:Fn)(ds:List Dat):List Lv:=ds.map aN++Qz (fn.sz-ds.length) .full
noncomputable def jG:Lv->Lv->Bool
 |_,.no=>true
 |.full,.full=>true
 |.top,.top=>true
 |_,_=>false
noncomputable def zS(l:Lv):bR->Rd
 |.next _ _=>.ok .non
 |.ret d k=>if ax d || jG k l then .ok d else .no
 |.exc c d=>.exc c d
 |_=>.no
noncomputable def zQ(lev:Nat->Lv)(cl:Nat->List Dat->Rd)(k:Nat)(fn:Fn)(ds:List Dat):Rd:=
 if ds.length=fn.ar then zS (lev k) (aC lev cl fn.body (xN fn ds) (xh fn ds))else .no
noncomputable def js(lev:Nat->Lv)(T:List Fn):Nat->Nat->List Dat->Rd
 |0,_,_=>.no
 |d+1,k,ds=>match T[k]? with
  |some fn=>zQ lev (js lev T d) k fn ds
  |none=>.no
noncomputable def yO(RR:Nat->Prop)(A:Nat->List Nat):Nat->Prop:=λl=>RR l/\∀i,l∉A i
structure Inv(lo:Nat)(RR:Nat->Prop)(m:Me)(de:aJ)(lv:List Lv)(env:En)(A:Nat->List Nat):Prop where
 len:de.length=env.length
 lvl:lv.length=de.length
 rr:∀l,lo<=l->RR l
 lom:lo<=m.length
 slot:∀i d l,de[i]?=some (some d)->lv[i]?=some l->∃w,env[i]?=some (some w)/\bK (yO RR A) m l d w (A i)
 nd:∀i,(A i).Nodup
 dj:∀i j a,a∈A i->a∈A j->i=j
 bd:∀i a,a∈A i->lo<=a/\a<m.length
noncomputable def aU(A:Nat->List Nat)(m:Me)(A':Nat->List Nat)(m':Me):Prop:=(∀(l:Nat) o,(∀i,l∉A i)->m[l]?=some o->(∀i,l∉A' i)/\m'[l]?=some o)/\m.length<=m'.length
def aU.refl(A:Nat->List Nat)(m:Me):aU A m A m:=⟨λ_ _ h k=>⟨h,k⟩,Qo _⟩
def aU.trans{A B C:Nat->List Nat}{m m1 m2:Me}(h:aU A m B m1)(k:aU B m1 C m2):aU A m C m2:=
 ⟨λl o a b=>k.1 l o (h.1 l o a b).1 (h.1 l o a b).2,QD h.2 k.2⟩
def aU.rep (h:aU A m A' m')(q:ai (yO RR A) m d w):ai (yO RR A') m' d w:=
 ai.frame (λl o r z=>⟨⟨r.1,(h.1 l o r.2 z).1⟩,(h.1 l o r.2 z).2⟩) d w q
def aU.repL (h:aU A m A' m')(q:ae (yO RR A) m d w):ae (yO RR A') m' d w:=
 ae.frame (λl o r z=>⟨⟨r.1,(h.1 l o r.2 z).1⟩,(h.1 l o r.2 z).2⟩) d w q
def Inv.getlv (I:Inv lo RR m de lv env A){i:Nat}(h:de[i]?=some o):∃l,lv[i]?=some l:=by
 obtain⟨hi,_⟩:=Qa.mp h;exact⟨_,Qq (by rw[I.lvl];exact hi)⟩
def Inv.envR (I:Inv lo RR m de lv env A)(vs:List Nat):bM RR m vs de env:=
 ⟨I.len,λi _ d h=>by
  obtain⟨l,hl⟩:=I.getlv h;obtain⟨w,a,b⟩:=I.slot i d l h hl;exact⟨w,a,b.rep (λ_ z=>z.1) (λa ha=>I.rr a (I.bd i a ha).1)⟩⟩
def Inv.ext{lo:Nat}{RR:Nat->Prop}{m m':Me}{de:aJ}{lv:List Lv}{env:En}{A:Nat->List Nat}(I:Inv lo RR m de lv env A)(h:Le m m'):Inv lo RR m' de lv env A:=
 ⟨I.len,I.lvl,I.rr,QD I.lom h.len,λi d l a b=>by
  obtain⟨w,p,q⟩:=I.slot i d l a b;exact⟨w,p,q.frame (λl o r z=>⟨r,h l o z⟩) (λl _ o z=>h l o z)⟩,I.nd,I.dj,λi a ha=>⟨(I.bd i a ha).1,Qk (I.bd i a ha).2 h.len⟩⟩
def wQ (h:Le m m'):aU A m A m':=⟨λl o a b=>⟨a,h l o b⟩,h.len⟩
noncomputable def aI(A:Nat->List Nat)(i:Nat)(B:List Nat):Nat->List Nat:=λk=>if k=i then B else A k
def zf:aI A i B i=B:=by simp[aI]
def zg (h:k≠i):aI A i B k=A k:=by simp[aI,h]
set_option tactic.hygienic true in
def Inv.store{lo:Nat}{RR:Nat->Prop}{m m':Me}{de:aJ}{lv:List Lv}{env:En}{A:Nat->List Nat}(I:Inv lo RR m de lv env A)(h:Le m m')(i:Nat){d:Dat}{l:Lv}{w:Wd}{B:List Nat}
  (q:bK (λl=>(yO RR A l\/m.length<=l)/\l∉B) m' l d w B) (nd:B.Nodup) (hB:∀b∈B,m.length<=b) :
  Inv lo RR m' (de.set i (some d)) (lv.set i l) (env.set i (some w)) (aI A i B)/\aU A m (aI A i B) m':=by
 have hlt:=q.lt;have fr:∀(x:Nat) (o:Ob),(∀k,x∉A k)->m[x]?=some o->∀k,x∉aI A i B k:=by
  intro x o hx hm k;by_cases e:k=i
  .subst e;rw[zf];intro hb;have:=hB x hb;have:=(Qa.mp hm).1;lia
  .rw[zg e];exact hx k
 refine⟨⟨by simp[I.len],by simp[I.lvl],I.rr,QD I.lom h.len,?_,?_,?_,?_⟩,⟨λx o hx hm=>⟨fr x o hx hm,h x o hm⟩,h.len⟩⟩
 .intro k e l' h1 h2;by_cases z:k=i
  .rw[z]at h1 h2 ⊢;rw[QI]at h1 h2;rw[Ka rfl]at h1 h2;split at h1
   .split at h2
    .next q1 q2=>
     cases h1;cases h2;refine⟨w,by rw[QI,Ka rfl,Ka (by rw[<-I.len];exact q1)],?_⟩;rw[zf];refine q.frame (λx o r hm=>⟨⟨?_,λk=>?_⟩,hm⟩) (λ_ _ _ z=>z)
     .rcases r.1 with r1|r1
      .exact r1.1
      .exact I.rr x (QD I.lom r1)
     .by_cases e:k=i
      .subst e;rw[zf];exact r.2
      .rw[zg e];rcases r.1 with r1|r1
       .exact r1.2 k
       .intro ha;have:=(I.bd k x ha).2;lia
    .cases h2
   .cases h1
  .rw[QA (Ne.symm z)]at h1 h2;obtain⟨w',a,b⟩:=I.slot k e l' h1 h2;refine⟨w',by rw[QA (Ne.symm z)];exact a,?_⟩;rw[zg z];exact b.frame (λx o r hm=>⟨⟨r.1,fr x o r.2 hm⟩,h x o hm⟩) (λx _ o hm=>h x o hm)
 .intro k;by_cases e:k=i
  .subst e;rw[zf];exact nd
  .rw[zg e];exact I.nd k
 .intro k j a ha hb;by_cases e:k=i
  .subst e;rw[zf]at ha;by_cases f:j=k
   .exact f.symm
   .rw[zg f]at hb;have:=hB a ha;have:=(I.bd j a hb).2;lia
  .rw[zg e]at ha;by_cases f:j=i
   .subst f;rw[zf]at hb;have:=hB a hb;have:=(I.bd k a ha).2;lia
   .rw[zg f]at hb;exact I.dj k j a ha hb
 .intro k a ha;by_cases e:k=i
  .subst e;rw[zf]at ha;exact⟨QD I.lom (hB a ha),hlt a ha⟩
  .rw[zg e]at ha;exact⟨(I.bd k a ha).1,Qk (I.bd k a ha).2 h.len⟩
def Inv.weak{lo:Nat}{RR:Nat->Prop}{m:Me}{de:aJ}{lv:List Lv}{env:En}{A:Nat->List Nat}(I:Inv lo RR m de lv env A)(i:Nat){l:Lv}{B:List Nat}
  (hB:∀b∈B,b∈A i) (nd:B.Nodup) (q:∀d w,de[i]?=some (some d)->env[i]?=some (some w)->bK (yO RR (aI A i B)) m l d w B) :
  Inv lo RR m de (lv.set i l) env (aI A i B)/\aU A m (aI A i B) m:=by
 have fr:∀x,(∀k,x∉A k)->∀k,x∉aI A i B k:=by
  intro x hx k;by_cases e:k=i
  .subst e;rw[zf];intro hb;exact hx _ (hB x hb)
  .rw[zg e];exact hx k
 have sub:∀k a,a∈aI A i B k->a∈A k:=by
  intro k a ha;by_cases e:k=i
  .subst e;rw[zf]at ha;exact hB a ha
  .rw[zg e]at ha;exact ha
 refine⟨⟨I.len,by simp[I.lvl],I.rr,I.lom,?_,?_,λk j a ha hb=>I.dj k j a (sub k a ha) (sub j a hb),λk a ha=>I.bd k a (sub k a ha)⟩,⟨λx o hx hm=>⟨fr x hx,hm⟩,Qo _⟩⟩
 .intro k e l' h1 h2;by_cases z:k=i
  .subst z;rw[QI,Ka rfl]at h2;split at h2
   .cases h2;obtain⟨l0,hl0⟩:=I.getlv h1;obtain⟨w,a,_⟩:=I.slot k e l0 h1 hl0;refine⟨w,a,?_⟩;rw[zf];exact q e w h1 a
   .cases h2
  .rw[QA (Ne.symm z)]at h2;obtain⟨w',a,b⟩:=I.slot k e l' h1 h2;refine⟨w',a,?_⟩;rw[zg z];exact b.frame (λx o r hm=>⟨⟨r.1,fr x r.2⟩,hm⟩) (λx _ o hm=>hm)
 .intro k;by_cases e:k=i
  .subst e;rw[zf];exact nd
  .rw[zg e];exact I.nd k
def Inv.down{lo:Nat}{RR:Nat->Prop}{m:Me}{de:aJ}{lv:List Lv}{env:En}{A:Nat->List Nat}(I:Inv lo RR m de lv env A)(i:Nat):
  Inv lo RR m de (lv.set i .no) env (aI A i [])/\aU A m (aI A i []) m:=by
 refine I.weak i (by simp) QP λd w h1 h2=>⟨?_,rfl⟩;obtain⟨l,hl⟩:=I.getlv h1;obtain⟨w',a,b⟩:=I.slot i d l h1 hl;rw[h2]at a;cases a;refine b.rep (λx r=>⟨r.1,λk=>?_⟩) (λx hx=>⟨I.rr x (I.bd i x hx).1,λk=>?_⟩)
 .by_cases e:k=i
  .subst e;rw[zf];simp
  .rw[zg e];exact r.2 k
 .by_cases e:k=i
  .subst e;rw[zf];simp
  .rw[zg e];intro ha;exact e (I.dj k i x ha hx)
theorem y8:∀(vs:List Nat) (lv:List Lv) (k:Nat),(aO vs lv)[k]?=if k∈vs/\k<lv.length then some .no else lv[k]?
 |[],lv,k=>by simp[aO]
 |i::vs,lv,k=>by
  unfold aO;rw[y8 vs (lv.set i .no) k];rw[WE,QI];by_cases a:k∈vs/\k<lv.length
  .rw[Ka a,Ka ⟨Qp _ a.1,a.2⟩]
  .rw[Kb a];by_cases e:i=k
   .subst e;by_cases b:i<lv.length
    .simp[b]
    .simp[b]
   .rw[Kb e];by_cases c:k∈vs
    .have:¬k<lv.length:=λz=>a ⟨c,z⟩;rw[Kb (λz=>this z.2)]
    .rw[Kb (λz=>by rcases Qc.mp z.1 with z1|z1;exact e z1.symm;exact c z1)]
theorem Inv.downs:∀(vs:List Nat) {lv:List Lv}{A:Nat->List Nat},Inv lo RR m de lv env A ->
  ∃A',Inv lo RR m de (aO vs lv) env A'/\aU A m A' m/\(∀i∈vs,A' i=[])/\(∀i,A' i=A i\/A' i=[])/\∀i,i∉vs->A' i=A i
 |[],lv,A,I=>⟨A,I,aU.refl A m,by simp,λi=>.inl rfl,λ_ _=>rfl⟩
 |j::vs,lv,A,I=>by
  obtain⟨I1,K1⟩:=I.down j;obtain⟨A',I2,K2,h1,h2,h3⟩:=Inv.downs vs I1;refine⟨A',I2,K1.trans K2,λi hi=>?_,λi=>?_,λi hi=>?_⟩
  .by_cases q:i∈vs
   .exact h1 i q
   .rw[h3 i q];rcases Qc.mp hi with rfl|hi
    .exact zf
    .exact Kc hi q
  .rcases h2 i with z|z
   .rw[z];by_cases e:i=j
    .subst e;right;exact zf
    .left;exact zg e
   .exact .inr z
  .have:i≠j:=λe=>hi (by rw[e];simp);rw[h3 i (λz=>hi (Qp _ z)),zg this]
theorem Inv.top (I:Inv lo RR m de lv env A)(j:Nat)(hd:de[j]?=some (some (.lst ds)))(hj:zV lv j=true):
  ∃l xs A',Inv lo RR m de (lv.set j .top) env A'/\aU A m A' m/\A' j=[l]/\(∀i,i≠j->A' i=A i)/\env[j]?=some (some (.ref l))/\m[l]?=some (.lst xs)/\ae (yO RR A') m ds xs/\l∈A j:=by
 unfold zV at hj;obtain⟨lj,hl⟩:=I.getlv hd;obtain⟨w,a,b⟩:=I.slot j _ lj hd hl;rw[hl]at hj;have key:∃l xs,w=.ref l/\l∈A j/\m[l]?=some (.lst xs)/\ae (yO RR (aI A j [l])) m ds xs:=by
  cases lj with
  |no=>simp at hj
  |top=>
   obtain⟨es,l,xs,e,rfl,hA,hm,r⟩:=b;cases e;refine⟨l,xs,rfl,by rw[hA];simp,hm,ae.frame (λx o r z=>⟨⟨r.1,λk=>?_⟩,z⟩) _ _ r⟩;by_cases e:k=j
   .subst e;rw[zf,<-hA];exact r.2 k
   .rw[zg e];exact r.2 k
  |full=>
   obtain⟨l,xs,B,rfl,hA,hm,r⟩:=aS.mp b;refine⟨l,xs,rfl,by rw[hA];simp,hm,au.rep ds xs B (λx hx=>⟨I.rr x (I.bd j x (by rw[hA];exact Qp _ hx)).1,λk=>?_⟩) r⟩;have nd:=I.nd j;rw[hA]at nd;by_cases e:k=j
   .subst e;rw[zf];intro z;rw[QH.mp z]at hx;exact(QS.mp nd).1 hx
   .rw[zg e];intro z;exact e (I.dj k j x z (by rw[hA];exact Qp _ hx))
 obtain⟨l,xs,rfl,hA,hm,r⟩:=key;obtain⟨I',K⟩:=I.weak j (l:=.top) (B:=[l]) (by intro b hb;rw[QH.mp hb];exact hA) (by simp) λd w h1 h2=>by
  rw[hd]at h1;cases h1;rw[a]at h2;cases h2;exact⟨ds,l,xs,rfl,rfl,rfl,hm,r⟩
 exact⟨l,xs,_,I',K,zf,λi hi=>zg hi,a,hm,r,hA⟩
def zI {m:Me}(h:l≠x):(m.set l o)[x]?=m[x]?:=QA h
def yT {m:Me}(h:m[l]?=some p):(m.set l o)[l]?=some o:=by
 rw[QI,Ka rfl,Ka (Qa.mp h).1]
def Inv.putO{lo:Nat}{RR:Nat->Prop}{m m1:Me}{de:aJ}{lv:List Lv}{env:En}{A:Nat->List Nat}(I:Inv lo RR m de lv env A)(le:Le m m1){j l:Nat}{ob:Ob}(hl:l∈A j)(A1:Nat->List Nat)
  (h3:∀k a,a∈A1 k->(∃k',a∈A k')\/m.length<=a) (nd1:∀k,(A1 k).Nodup) (dj1:∀i k a,a∈A1 i->a∈A1 k->i=k) (bd1:∀k a,a∈A1 k->lo<=a/\a<m1.length)
  {de1:aJ}{lv1:List Lv}(len1:de1.length=de.length) (lvl1:lv1.length=lv.length)
  (live:∀k d lk,k≠j->de1[k]?=some (some d)->lv1[k]?=some lk->de[k]?=some (some d)/\lv[k]?=some lk/\A1 k=A k)
  (sj:∀d lj,de1[j]?=some (some d)->lv1[j]?=some lj->∃w,env[j]?=some (some w)/\bK (yO RR A1) (m1.set l ob) lj d w (A1 j)) :
  Inv lo RR (m1.set l ob) de1 lv1 env A1/\aU A m A1 (m1.set l ob):=by
 have fr:∀(x:Nat) (o:Ob),(∀k,x∉A k)->m[x]?=some o->(∀k,x∉A1 k)/\(m1.set l ob)[x]?=some o:=by
  intro x o hx hm;refine⟨λk ha=>?_,?_⟩
  .rcases h3 k x ha with⟨k',z⟩|z
   .exact hx k' z
   .have:=(Qa.mp hm).1;lia
  .rw[zI (l:=l) (x:=x) (λe=>hx j (by rw[<-e];exact hl))];exact le x o hm
 refine⟨⟨len1.trans I.len,by rw[lvl1,I.lvl,len1],I.rr,by rw[WE];exact QD I.lom le.len,?_,nd1,dj1,λk a ha=>by rw[WE];exact bd1 k a ha⟩,⟨λx o hx hm=>fr x o hx hm,by rw[WE];exact le.len⟩⟩;intro k d lk h1 h2;by_cases e:k=j
 .subst e;exact sj d lk h1 h2
 .obtain ⟨a,b,c⟩:=live k d lk e h1 h2;obtain⟨w,p,q⟩:=I.slot k d lk a b;refine⟨w,p,?_⟩;rw[c];refine q.frame (λx o r hm=>⟨⟨r.1,(fr x o r.2 hm).1⟩,(fr x o r.2 hm).2⟩) (λx hx o hm=>?_);rw[zI (l:=l) (x:=x) (λz=>e (I.dj k j x hx (by rw[<-z];exact hl)))];exact le x o hm
def Inv.put{lo:Nat}{RR:Nat->Prop}{m m1:Me}{de:aJ}{lv:List Lv}{env:En}{A:Nat->List Nat}(I:Inv lo RR m de lv env A)(le:Le m m1){j l:Nat}{xs ys:List Wd}(hl:l∈A j)(A1:Nat->List Nat)
  (h3:∀k a,a∈A1 k->(∃k',a∈A k')\/m.length<=a) (nd1:∀k,(A1 k).Nodup) (dj1:∀i k a,a∈A1 i->a∈A1 k->i=k) (bd1:∀k a,a∈A1 k->lo<=a/\a<m1.length)
  {de1:aJ}{lv1:List Lv}(len1:de1.length=de.length) (lvl1:lv1.length=lv.length)
  (live:∀k d lk,k≠j->de1[k]?=some (some d)->lv1[k]?=some lk->de[k]?=some (some d)/\lv[k]?=some lk/\A1 k=A k)
  (sj:∀d lj,de1[j]?=some (some d)->lv1[j]?=some lj->∃w,env[j]?=some (some w)/\bK (yO RR A1) (m1.set l (.lst ys)) lj d w (A1 j)) :
  Inv lo RR (m1.set l (.lst ys)) de1 lv1 env A1/\aU A m A1 (m1.set l (.lst ys)):=I.putO le hl A1 h3 nd1 dj1 bd1 len1 lvl1 live sj
noncomputable def oE(m m1:Me)(ds:List Dat)(xs:List Wd)(ds':List Dat)(ys:List Wd):Prop:=
 ∀B,B.Nodup->au m ds xs B->∃B',au m1 ds' ys B'/\B'.Nodup/\∀b∈B',b∈B\/m.length<=b
noncomputable def nK(RR:Nat->Prop)(A:Nat->List Nat)(m m1:Me)(ds:List Dat)(xs:List Wd)(ds':List Dat)(ys:List Wd):Prop:=
 ae (yO RR A) m ds xs->ae (λx=>yO RR A x\/m.length<=x) m1 ds' ys
noncomputable def iz(RR:Nat->Prop)(A:Nat->List Nat)(m m1:Me)(ds:List Dat)(xs:List Wd)(ds':List Dat)(ys:List Wd):Prop:=
 (∀B,B.Nodup->au m ds xs B->∃B',au m1 ds' ys B'/\B'.Nodup/\∀b∈B',b∈B\/m.length<=b)/\(ae (yO RR A) m ds xs->ae (λx=>yO RR A x\/m.length<=x) m1 ds' ys)
def Inv.mut (I:Inv lo RR m de lv env A)(hd:de[j]?=some (some (.lst ds)))(hj:zV lv j=true):
  ∃l xs,env[j]?=some (some (.ref l))/\m[l]?=some (.lst xs)/\ae RR m ds xs/\∀(m1:Me) (ds':List Dat) (ys:List Wd),Le m m1->(lv[j]?=some .full->oE m m1 ds xs ds' ys)->(lv[j]?=some .top->nK RR A m m1 ds xs ds' ys) ->
   ∃A1,Inv lo RR (m1.set l (.lst ys)) (de.set j (some (.lst ds'))) lv env A1/\aU A m A1 (m1.set l (.lst ys)):=by
 unfold zV at hj;obtain⟨lj,hl⟩:=I.getlv hd;obtain⟨w,a,b⟩:=I.slot j _ lj hd hl;rw[hl]at hj;have hjl:j<de.length:=(Qa.mp hd).1;have live:∀(A1:Nat->List Nat),(∀k,k≠j->A1 k=A k)->∀(ds':List Dat) k d lk,k≠j->(de.set j (some (.lst ds')))[k]?=some (some d)->lv[k]?=some lk->de[k]?=some (some d)/\lv[k]?=some lk/\A1 k=A k:=by
  intro A1 h ds' k d lk e h1 h2;rw[QA (Ne.symm e)]at h1;exact⟨h1,h2,h k e⟩
 cases lj with
 |no=>simp at hj
 |top=>
  obtain⟨es,l,xs,e,rfl,hA,hm,r⟩:=b;cases e;refine⟨l,xs,a,hm,ae.frame (λ_ _ r z=>⟨r.1,z⟩) _ _ r,λm1 ds' ys le _ c=>⟨A,?_⟩⟩;have hlm:=(Qa.mp hm).1;refine I.put le (j:=j) (l:=l) (xs:=xs) (by rw[hA];simp) A (λk a ha=>.inl ⟨k,ha⟩) I.nd I.dj (λk a ha=>⟨(I.bd k a ha).1,Qk (I.bd k a ha).2 le.len⟩) (by simp) rfl (live A (λ_ _=>rfl) ds') ?_;intro d lj h1 h2;rw[QI,Ka rfl,Ka hjl]at h1;cases h1;rw[hl]at h2;cases h2;refine⟨_,a,ds',l,ys,rfl,rfl,hA,yT (le l _ hm),ae.frame (λx o r z=>?_) _ _ (c hl r)⟩;rcases r with r|r
  .exact ⟨r,by rw[zI (l:=l) (x:=x) (λe=>r.2 j (by rw[hA,e];simp))];exact z⟩
  .exact ⟨⟨I.rr x (QD I.lom r),λk hk=>by have:=(I.bd k x hk).2;lia⟩,by rw[zI (l:=l) (x:=x) (by lia)];exact z⟩
 |full=>
  obtain⟨l,xs,B,rfl,hA,hm,r⟩:=aS.mp b;have hlm:=(Qa.mp hm).1;have nd:=I.nd j;rw[hA]at nd;refine⟨l,xs,a,hm,au.rep ds xs B (λx hx=>I.rr x (I.bd j x (by rw[hA];exact Qp _ hx)).1) r,λm1 ds' ys le c _=>?_⟩;obtain⟨B',o,nb,hB⟩:=c hl B (QS.mp nd).2 r;have hlB:l∉B':=λz=>by
   rcases hB l z with z|z
   .exact (QS.mp nd).1 z
   .lia
  have sub:∀x∈l::B',x∈A j\/m.length<=x:=by
   intro x hx;rcases Qc.mp hx with rfl|hx
   .left;rw[hA];simp
   .rcases hB x hx with z|z
    .left;rw[hA];exact Qp _ z
    .exact .inr z
  refine⟨aI A j (l::B'),?_⟩;refine I.put le (j:=j) (l:=l) (xs:=xs) (by rw[hA];simp) _ ?_ ?_ ?_ ?_ (by simp) rfl (live _ (λk hk=>zg hk) ds') ?_
  .intro k x hx;by_cases e:k=j
   .subst e;rw[zf]at hx;rcases sub x hx with z|z
    .exact .inl ⟨k,z⟩
    .exact .inr z
   .rw[zg e]at hx;exact .inl ⟨k,hx⟩
  .intro k;by_cases e:k=j
   .subst e;rw[zf];exact QS.mpr ⟨hlB,nb⟩
   .rw[zg e];exact I.nd k
  .intro i k x h1 h2;by_cases e:i=j
   .by_cases f:k=j
    .rw[e,f]
    .rw[e,zf]at h1;rw[zg f]at h2;rcases sub x h1 with z|z
     .rw[e];exact I.dj j k x z h2
     .have:=(I.bd k x h2).2;lia
   .rw[zg e]at h1;by_cases f:k=j
    .rw[f,zf]at h2;rcases sub x h2 with z|z
     .rw[f];exact I.dj i j x h1 z
     .have:=(I.bd i x h1).2;lia
    .rw[zg f]at h2;exact I.dj i k x h1 h2
  .intro k x hx;by_cases e:k=j
   .rw[e,zf]at hx;rcases Qc.mp hx with rfl|hx
    .exact ⟨(I.bd j _ (by rw[hA];simp)).1,Qk hlm le.len⟩
    .refine ⟨?_,au.lt ds' ys B' o x hx⟩;rcases hB x hx with z|z
     .exact (I.bd j x (by rw[hA];exact Qp _ z)).1
     .exact QD I.lom z
   .rw[zg e]at hx;exact⟨(I.bd k x hx).1,Qk (I.bd k x hx).2 le.len⟩
  .intro d lj h1 h2;rw[QI,Ka rfl,Ka hjl]at h1;cases h1;rw[hl]at h2;cases h2;refine⟨_,a,?_⟩;rw[zf];exact aS.mpr ⟨l,ys,B',rfl,rfl,yT (le l _ hm),au.frame ds' ys B' (λx hx o z=>by rw[zI (l:=l) (x:=x) (λe=>hlB (by rw[e];exact hx))];exact z) o⟩
theorem au.item:∀{ds:List Dat}{xs:List Wd}{A:List Nat}{p:Nat}{d:Dat},au m ds xs A->ds[p]?=some d->∃x B,(xs[p]?=some x/\bg m d x B)/\∀b∈B,b∈A
 |[],xs,A,p,d,h,z=>by simp at z
 |e::ds,xs,A,0,d,h,z=>by
  obtain⟨x,r,B,C,rfl,rfl,a,b⟩:=h.cons_inv;simp at z;subst z;exact⟨x,B,⟨rfl,a⟩,λb hb=>Q5 _ hb⟩
 |e::ds,xs,A,p+1,d,h,z=>by
  obtain⟨x,r,B,C,rfl,rfl,a,b⟩:=h.cons_inv;obtain⟨y,D,h1,h2⟩:=au.item b (by simpa using z);exact⟨y,D,by simpa using h1,λb hb=>Qy _ (h2 b hb)⟩
theorem au.split:∀{ds:List Dat}{xs:List Wd}{A:List Nat}{p:Nat}{d:Dat},au m ds xs A->ds[p]?=some d ->
  ∃x B1 Bp B2,xs[p]?=some x/\A=B1++(Bp++B2)/\bg m d x Bp/\(∀(i:Nat) e y,i≠p->ds[i]?=some e->xs[i]?=some y->∃Bi,bg m e y Bi/\∀b∈Bi,b∈B1\/b∈B2)/\∀(m':Me) (d':Dat) (x':Wd) (B':List Nat),(∀l,l∈B1\/l∈B2->∀o,m[l]?=some o->m'[l]?=some o)->bg m' d' x' B'->au m' (ds.set p d') (xs.set p x') (B1++(B'++B2))
 |[],xs,A,p,d,h,z=>by simp at z
 |e::ds,xs,A,0,d,h,z=>by
  obtain⟨x,r,B,C,rfl,rfl,a,b⟩:=h.cons_inv;simp at z;subst z;refine⟨x,[],B,C,rfl,rfl,a,λi e y hi h1 h2=>?_,λm' d' x' B' fr o=>?_⟩
  .cases i with
   |zero=>exact Kc rfl hi
   |succ i=>
    simp at h1 h2;obtain⟨y',Bi,o,hB⟩:=au.item b h1;rw[h2]at o;obtain⟨o1,o2⟩:=o;cases o1;exact⟨Bi,o2,λz hz=>.inr (hB z hz)⟩
  show au m' (d'::ds) (x'::r) (B'++C);exact au.cons o (au.frame ds r C (λl hl=>fr l (.inr hl)) b)
 |e::ds,xs,A,p+1,d,h,z=>by
  obtain⟨x,r,B,C,rfl,rfl,a,b⟩:=h.cons_inv;obtain⟨y,B1,Bp,B2,h1,rfl,h3,h5,h4⟩:=au.split b (by simpa using z);refine⟨y,B++B1,Bp,B2,by simpa using h1,by simp[Qn],h3,λi e' y' hi g1 g2=>?_,λm' d' x' B' fr o=>?_⟩
  .cases i with
   |zero=>simp at g1 g2;subst g1;subst g2;exact⟨B,a,λz hz=>.inl (Q5 _ hz)⟩
   |succ i=>
    simp at g1 g2;obtain⟨Bi,o,hB⟩:=h5 i e' y' (by lia) g1 g2;exact⟨Bi,o,λz hz=>by rcases hB z hz with q|q;exact .inl (Qy _ q);exact .inr q⟩
  rw[Qn];exact au.cons (bg.frame e x B (λl hl=>fr l (.inl (Q5 _ hl))) a) (h4 m' d' x' B' (λl hl=>fr l (by rcases hl with hl|hl;exact .inl (Qy _ hl);exact .inr hl)) o)
def Bz (le:Le m m1)(o:bg m1 d w B0)(nd:B0.Nodup)(hB:∀b∈B0,m.length<=b):iz RR A m m1 ds xs (ds++[d]) (xs++[w]):=by
 refine⟨λB nb q=>⟨B++(B0++[]),(au.frame ds xs B (λl _ o z=>le l o z) q).app (.cons o .nil),?_,?_⟩,λq=>?_⟩
 .rw[QV];refine QF.mpr ⟨nb,nd,λx hx y hy e=>?_⟩;have:=au.lt ds xs B q x hx;have:=hB y hy;lia
 .intro b hb;rw[QV]at hb;rcases Qu.mp hb with z|z
  .exact .inl z
  .exact .inr (hB b z)
 .exact (ae.frame (λl o r z=>⟨.inl r,le l o z⟩) _ _ q).app (.cons (bg.rep d w B0 (λb hb=>.inr (hB b hb)) o) .nil)
def sA (p:Nat)(le:Le m m1)(o:bg m1 d w B0)(nd:B0.Nodup)(hB:∀b∈B0,m.length<=b):iz RR A m m1 ds xs (ds.set p d) (xs.set p w):=by
 refine⟨λB nb q=>?_,λq=>?_⟩
 .cases hp:ds[p]? with
  |none=>
   have h1:ds.length<=p:=Wk.mp hp;rw[W7 h1,W7 (by rw[<-q.len];exact h1)];exact⟨B,au.frame ds xs B (λl _ o z=>le l o z) q,nb,λb hb=>.inl hb⟩
  |some e=>
   obtain⟨y,B1,Bp,B2,h1,rfl,h3,_,h4⟩:=au.split q hp;refine⟨B1++(B0++B2),h4 m1 d w B0 (λl _ o z=>le l o z) o,?_,?_⟩
   .have hlt:=au.lt ds xs _ q;rw[QF]at nb ⊢;obtain⟨n1,n2,n3⟩:=nb;rw[QF]at n2 ⊢;obtain⟨n4,n5,n6⟩:=n2;refine⟨n1,⟨nd,n5,λx hx y hy e=>?_⟩,λx hx y hy e=>?_⟩
    .have:=hB x hx;have:=hlt y (by simp[hy]);lia
    .rcases Qu.mp hy with hy|hy
     .have:=hB y hy;have:=hlt x (by simp[hx]);lia
     .exact n3 x hx y (Qy _ hy) e
   .intro b hb;simp only[Qu]at hb ⊢;rcases hb with z|z|z
    .exact .inl (.inl z)
    .exact .inr (hB b z)
    .exact .inl (.inr (.inr z))
 .exact (ae.frame (λl o r z=>⟨.inl r,le l o z⟩) _ _ q).set p (bg.rep d w B0 (λb hb=>.inr (hB b hb)) o)
theorem au.rev:∀{ds:List Dat}{xs:List Wd}{A:List Nat},A.Nodup->au m ds xs A->∃B,au m ds.reverse xs.reverse B/\B.Nodup/\∀b∈B,b∈A
 |[],xs,A,nd,h=>by rw[h.nil_inv.1];exact⟨[],.nil,QP,by simp⟩
 |d::ds,xs,A,nd,h=>by
  obtain⟨x,r,B,C,rfl,rfl,a,b⟩:=h.cons_inv;obtain⟨n1,n2,n3⟩:=QF.mp nd;obtain⟨D,o,nD,hD⟩:=au.rev n2 b;rw[Wp,Wp];refine⟨D++(B++[]),o.app (.cons a .nil),?_,?_⟩
  .rw[QV];exact QF.mpr ⟨nD,n1,λx hx y hy e=>n3 y hy x (hD x hx) e.symm⟩
  .intro b hb;simp only[QV,Qu]at hb ⊢;rcases hb with z|z
   .exact .inr (hD b z)
   .exact .inl z
def dx:iz RR A m m ds xs ds.reverse xs.reverse:=by
 refine⟨λB nb q=>?_,λq=>(ae.frame (λl o r z=>⟨.inl r,z⟩) _ _ q).rev⟩;obtain⟨D,o,nD,hD⟩:=au.rev nb q;exact⟨D,o,nD,λb hb=>.inl (hD b hb)⟩
def Inv.mutIn (I:Inv lo RR m de lv env A)(hd:de[j]?=some (some (.lst ds)))(hf:lv[j]?=some .full)(hp:ds[p]?=some (.lst es)):
  ∃l xs l2 us,env[j]?=some (some (.ref l))/\m[l]?=some (.lst xs)/\xs[p]?=some (.ref l2)/\m[l2]?=some (.lst us)/\ds.length=xs.length/\ae RR m es us /\
   (∀(m1:Me) (es':List Dat) (vs:List Wd),Le m m1->oE m m1 es us es' vs ->
    ∃A1,Inv lo RR (m1.set l2 (.lst vs)) (de.set j (some (.lst (ds.set p (.lst es'))))) lv env A1/\aU A m A1 (m1.set l2 (.lst vs))) /\
   (∀(m1:Me) (q:Nat) (d:Dat) (w:Wd),Le m m1->ai (λx=>yO RR A x\/m.length<=x) m1 d w ->
    ∃A1,Inv lo RR (m1.set l2 (.lst (us.set q w))) (de.set j (some (.lst (ds.set p (.lst (es.set q d)))))) (lv.set j .top) env A1/\aU A m A1 (m1.set l2 (.lst (us.set q w)))):=by
 obtain⟨w,a,b⟩:=I.slot j _ .full hd hf;obtain⟨l,xs,B,rfl,hA,hm,r⟩:=aS.mp b;obtain⟨x,B1,Bp,B2,h1,hB,h3,h5,h4⟩:=r.split hp;obtain⟨l2,us,Bq,rfl,rfl,hm2,r2⟩:=aS.mp h3;have hjl:j<de.length:=(Qa.mp hd).1;have nd:=I.nd j;rw[hA,hB]at nd;have hlm:=(Qa.mp hm).1;have hlm2:=(Qa.mp hm2).1;obtain⟨n0,n1⟩:=QS.mp nd;obtain⟨n2,n3,n4⟩:=QF.mp n1;obtain⟨n5,n6,n7⟩:=QF.mp n3;obtain⟨n8,n9⟩:=QS.mp n5;have inA:∀{x},x=l\/x∈B1\/x=l2\/x∈Bq\/x∈B2->x∈A j:=by
  intro x hx;rw[hA,hB];simp only[Qc,Qu];rcases hx with z|z|z|z|z
  .exact .inl z
  .exact .inr (.inl z)
  .exact .inr (.inr (.inl (.inl z)))
  .exact .inr (.inr (.inl (.inr z)))
  .exact .inr (.inr (.inr z))
 have l2B1:l2∉B1:=λz=>n4 l2 z l2 (by simp) rfl;have l2B2:l2∉B2:=λz=>n7 l2 (by simp) l2 z rfl;have hll:l≠l2:=λe=>n0 (by rw[e];simp);have live:∀(A1:Nat->List Nat) (lv1:List Lv),(∀k,k≠j->A1 k=A k)->(∀k,k≠j->lv1[k]?=lv[k]?)->∀(ds':List Dat) k d lk,k≠j->(de.set j (some (.lst ds')))[k]?=some (some d)->lv1[k]?=some lk->de[k]?=some (some d)/\lv[k]?=some lk/\A1 k=A k:=by
  intro A1 lv1 h hlv ds' k d lk e h1 h2;rw[QA (Ne.symm e)]at h1;rw[hlv k e]at h2;exact⟨h1,h2,h k e⟩
 refine⟨l,xs,l2,us,a,hm,h1,hm2,r.len,au.rep es us Bq (λx hx=>I.rr x (I.bd j x (inA (.inr (.inr (.inr (.inl hx)))))).1) r2,?_,?_⟩
 .intro m1 es' vs le c;obtain⟨Bq',o,nb,hBq⟩:=c Bq n9 r2;have hlt:=au.lt es' vs Bq' o;have l2q:l2∉Bq':=λz=>by
   rcases hBq l2 z with z|z
   .exact n8 z
   .lia
  have sub:∀x∈l::(B1++((l2::Bq')++B2)),x∈A j\/m.length<=x:=by
   intro x hx;simp only[Qc,Qu]at hx;rcases hx with z|z|(z|z)|z
   .exact .inl (inA (.inl z))
   .exact .inl (inA (.inr (.inl z)))
   .exact .inl (inA (.inr (.inr (.inl z))))
   .rcases hBq x z with z|z
    .exact .inl (inA (.inr (.inr (.inr (.inl z)))))
    .exact .inr z
   .exact .inl (inA (.inr (.inr (.inr (.inr z)))))
  have nd1:(l::(B1++((l2::Bq')++B2))).Nodup:=by
   refine QS.mpr ⟨?_,QF.mpr ⟨n2,QF.mpr ⟨QS.mpr ⟨l2q,nb⟩,n6,?_⟩,?_⟩⟩
   .intro z;simp only[Qc,Qu]at z n0;rcases z with z|(z|z)|z
    .exact n0 (.inl z)
    .exact hll z
    .rcases hBq l z with z|z
     .exact n0 (.inr (.inl (.inr z)))
     .lia
    .exact n0 (.inr (.inr z))
   .intro x hx y hy e;subst e;rcases Qc.mp hx with z|z
    .subst z;exact l2B2 hy
    .rcases hBq x z with z|z
     .exact n7 x (Qp _ z) x hy rfl
     .have:=(I.bd j x (inA (.inr (.inr (.inr (.inr hy)))))).2;lia
   .intro x hx y hy e;subst e;simp only[Qc,Qu]at hy;rcases hy with (z|z)|z
    .subst z;exact l2B1 hx
    .rcases hBq x z with z|z
     .exact n4 x hx x (by simp[z]) rfl
     .have:=(I.bd j x (inA (.inr (.inl hx)))).2;lia
    .exact n4 x hx x (by simp[z]) rfl
  refine⟨aI A j (l::(B1++((l2::Bq')++B2))),?_⟩;refine I.put le (j:=j) (l:=l2) (xs:=us) (inA (.inr (.inr (.inl rfl)))) _ ?_ ?_ ?_ ?_ (by simp) rfl (live _ lv (λk hk=>zg hk) (λ_ _=>rfl) _) ?_
  .intro k x hx;by_cases e:k=j
   .rw[e,zf]at hx;rcases sub x hx with z|z
    .exact .inl ⟨j,z⟩
    .exact .inr z
   .rw[zg e]at hx;exact .inl ⟨k,hx⟩
  .intro k;by_cases e:k=j
   .rw[e,zf];exact nd1
   .rw[zg e];exact I.nd k
  .intro i k x h1 h2;by_cases e:i=j
   .by_cases f:k=j
    .rw[e,f]
    .rw[e,zf]at h1;rw[zg f]at h2;rcases sub x h1 with z|z
     .rw[e];exact I.dj j k x z h2
     .have:=(I.bd k x h2).2;lia
   .rw[zg e]at h1;by_cases f:k=j
    .rw[f,zf]at h2;rcases sub x h2 with z|z
     .rw[f];exact I.dj i j x h1 z
     .have:=(I.bd i x h1).2;lia
    .rw[zg f]at h2;exact I.dj i k x h1 h2
  .intro k x hx;have ll:=le.len;by_cases e:k=j
   .rw[e,zf]at hx;rcases sub x hx with z|z
    .exact ⟨(I.bd j x z).1,Qk (I.bd j x z).2 ll⟩
    .refine ⟨QD I.lom z,?_⟩;simp only[Qc,Qu]at hx;rcases hx with q|q|(q|q)|q
     .lia
     .have:=(I.bd j x (inA (.inr (.inl q)))).2;lia
     .lia
     .exact hlt x q
     .have:=(I.bd j x (inA (.inr (.inr (.inr (.inr q)))))).2;lia
   .rw[zg e]at hx;exact⟨(I.bd k x hx).1,Qk (I.bd k x hx).2 ll⟩
  .intro d lj g1 g2;rw[QI,Ka rfl,Ka hjl]at g1;cases g1;rw[hf]at g2;cases g2;refine⟨_,a,?_⟩;rw[zf];refine aS.mpr ⟨l,xs,B1++((l2::Bq')++B2),rfl,rfl,?_,?_⟩
   .rw[zI (l:=l2) (x:=l) (Ne.symm hll)];exact le l _ hm
   .have:=h4 (m1.set l2 (.lst vs)) (.lst es') (.ref l2) (l2::Bq') ?_ (aS.mpr ⟨l2,vs,Bq',rfl,rfl,yT (le l2 _ hm2),au.frame es' vs Bq' (λx hx o z=>by rw[zI (l:=l2) (x:=x) (λe=>l2q (by rw[e];exact hx))];exact z) o⟩)
    .rw[show xs.set p (.ref l2)=xs from by
      obtain⟨hpx,e⟩:=Qa.mp h1;rw[<-e];exact List.set_getElem_self hpx]at this
     exact this
    .intro x hx o z;rw[zI (l:=l2) (x:=x) (λe=>by rcases hx with hx|hx;exact l2B1 (by rw[e];exact hx);exact l2B2 (by rw[e];exact hx))];exact le x o z
 .intro m1 q d w le rw0;have ll:=le.len;have sub:∀k x,x∈aI A j [l] k->x∈A k:=by
   intro k x hx;by_cases e:k=j
   .rw[e,zf]at hx;rw[e,QH.mp hx];exact inA (.inl rfl)
   .rw[zg e]at hx;exact hx
  refine⟨aI A j [l],?_⟩;refine I.put le (j:=j) (l:=l2) (xs:=us) (inA (.inr (.inr (.inl rfl)))) _ (λk x hx=>.inl ⟨k,sub k x hx⟩) ?_ (λi k x g1 g2=>I.dj i k x (sub i x g1) (sub k x g2)) (λk x hx=>⟨(I.bd k x (sub k x hx)).1,Qk (I.bd k x (sub k x hx)).2 ll⟩) (by simp) (by simp) (live _ (lv.set j .top) (λk hk=>zg hk) (λk hk=>QA (Ne.symm hk)) _) ?_
  .intro k;by_cases e:k=j
   .rw[e,zf];simp
   .rw[zg e];exact I.nd k
  .intro d' lj g1 g2;rw[QI,Ka rfl,Ka hjl]at g1;cases g1;rw[QI,Ka rfl,Ka (by rw[I.lvl];exact hjl)]at g2;cases g2;refine⟨_,a,ds.set p (.lst (es.set q d)),l,xs,rfl,rfl,zf,?_,?_⟩
   .rw[zI (l:=l2) (x:=l) (Ne.symm hll)];exact le l _ hm
   have fr:∀x,x∈B1\/x∈B2\/x∈Bq\/x=l2->yO RR (aI A j [l]) x:=by
    intro x hx;have hxA:x∈A j:=inA (by rcases hx with z|z|z|z;exact .inr (.inl z);exact .inr (.inr (.inr (.inr z)));exact .inr (.inr (.inr (.inl z)));exact .inr (.inr (.inl z)));refine⟨I.rr x (I.bd j x hxA).1,λk hk=>?_⟩;by_cases e:k=j
    .rw[e,zf]at hk;have e2:=QH.mp hk;subst e2;rcases hx with z|z|z|z
     .exact n0 (by simp[z])
     .exact n0 (by simp[z])
     .exact n0 (by simp[z])
     .exact hll z
    .rw[zg e]at hk;exact e (I.dj k j x hk hxA)
   refine aZ.mpr ⟨by simp[r.len],λi e y g1 g2=>?_⟩;by_cases ei:i=p
   .rw[ei]at g1 g2;rw[h1]at g2;cases g2;rw[QI,Ka rfl,Ka (Qa.mp hp).1]at g1;cases g1;refine aA.mpr ⟨l2,us.set q w,rfl,fr l2 (.inr (.inr (.inr rfl))),yT (le l2 _ hm2),?_⟩;refine ae.set (ae.frame (R:=λx=>x∈Bq) (m:=m) (λx o hx z=>⟨fr x (.inr (.inr (.inl hx))),?_⟩) _ _ (au.rep es us Bq (λ_ h=>h) r2)) q ?_
    .rw[zI (l:=l2) (x:=x) (λe=>n8 (by rw[e];exact hx))];exact le x o z
    .refine ai.frame (λx o hx z=>?_) _ _ rw0;have ne:l2≠x:=by
      rcases hx with hx|hx
      .intro e;exact hx.2 j (by rw[<-e];exact inA (.inr (.inr (.inl rfl))))
      .lia
     refine⟨?_,by rw[zI (l:=l2) (x:=x) ne];exact z⟩;rcases hx with hx|hx
     .exact ⟨hx.1,λk hk=>hx.2 k (sub k x hk)⟩
     .exact ⟨I.rr x (QD I.lom hx),λk hk=>by have:=(I.bd k x (sub k x hk)).2;lia⟩
   .rw[QA (Ne.symm ei)]at g1;obtain⟨Bi,o,hBi⟩:=h5 i e y ei g1 g2;refine ai.frame (R:=λx=>x∈Bi) (m:=m) (λx o hx z=>?_) _ _ (bg.rep e y Bi (λ_ h=>h) o);rcases hBi x hx with z1|z1
    .exact ⟨fr x (.inl z1),by rw[zI (l:=l2) (x:=x) (λe=>l2B1 (by rw[e];exact z1))];exact le x _ z⟩
    .exact ⟨fr x (.inr (.inl z1)),by rw[zI (l:=l2) (x:=x) (λe=>l2B2 (by rw[e];exact z1))];exact le x _ z⟩
def DN (h:ae R m ds xs)(hm:m[l]?=some (.lst xs))(b:ai R m e y):ag R m (vu (.ref l) y m) (yj (.lst ds) e):=by
 cases e with
 |int i=>
  rw[aa.mp b];simp only[yj,vu,xo,yW,zC,hm];cases z:(ix ds.length i).bind λj=>ds[j]? with
  |none=>exact ag.no
  |some v=>
   obtain⟨j,h1,h2⟩:=Q2.mp z;obtain⟨x,h3,p⟩:=h.get h2;rw[h.len]at h1;simp only[h1,Wz,h3];exact dF p
 |_=>exact ag.no
def gY (I:Inv lo RR m de lv env A)(h:∀i∈vs,∀l,lv[i]?=some l->l=.no):bM (yO RR A) m vs de env:=
 ⟨I.len,λi hi d hd=>by
  obtain⟨l,hl⟩:=I.getlv hd;obtain⟨w,a,b⟩:=I.slot i d l hd hl;rw[h i hi l hl]at b;exact⟨w,a,b.1⟩⟩
theorem bv:∀(vs:List Nat) (lv:List Lv),(aO vs lv).length=lv.length
 |[],lv=>rfl
 |i::vs,lv=>by unfold aO;rw[bv vs];simp
def sy (de:aJ)(j:Nat)(lv:List Lv)(h:k≠j):(bW de j lv)[k]?=lv[k]?:=by
 have q:∃l,bW de j lv=lv.set j l:=by
  unfold bW;generalize de[j]?=p;generalize lv[j]?=q;cases p with
  |none=>exact⟨_,rfl⟩
  |some o=>
   cases o with
   |none=>exact⟨_,rfl⟩
   |some d=>
    cases d with
    |lst ds=>
     cases q with
     |none=>exact⟨_,rfl⟩
     |some l=>cases l<;>exact⟨_,rfl⟩
    |_=>exact⟨_,rfl⟩
 obtain⟨l,e⟩:=q;rw[e];exact QA (Ne.symm h)
set_option tactic.hygienic true in
def sw (e:Ex)(de:aJ)(lv:List Lv)(h:k∉zv e):(yN e de lv)[k]?=lv[k]?:=by
 have gen:∀vs,k∉vs->(aO vs lv)[k]?=lv[k]?:=λvs h=>by rw[y8,Kb (λz=>h z.1)]
 cases e with
 |idx o b=>
  cases o with
  |var j=>
   replace h:k∉j::zv b:=h
   rw[Qc,not_or]at h;show(bW de j (aO (zv b) lv))[k]?=_;rw[sy _ _ _ h.1,gen _ h.2]
  |_=>exact gen _ h
 |_=>exact gen _ h
set_option tactic.hygienic true in
def Inv.topD (I:Inv lo RR m de lv env A)(j:Nat):
  ∃A',Inv lo RR m de (bW de j lv) env A'/\aU A m A' m/\(∀i,i≠j->A' i=A i)/\((∃ds l xs,de[j]?=some (some (.lst ds))/\A' j=[l]/\env[j]?=some (some (.ref l))/\m[l]?=some (.lst xs)/\ae (yO RR A') m ds xs)\/((Vl.bW de j lv)[j]?=some .no\/lv.length<=j)):=by
 by_cases h:(∃ds,de[j]?=some (some (.lst ds)))/\zV lv j=true
 .obtain ⟨⟨ds,hd⟩,ho⟩:=h;obtain⟨l,xs,A',I',K,h1,h2,h3,h4,h5,_⟩:=I.top j hd ho;have:Vl.bW de j lv=lv.set j .top:=by
   unfold Vl.bW;rw[hd];unfold zV at ho;cases z:lv[j]? with
   |none=>rw[z]at ho;simp at ho
   |some l=>rw[z]at ho;cases l<;>simp at ho ⊢
  rw[this];exact⟨A',I',K,h2,.inl ⟨ds,l,xs,hd,h1,h3,h4,h5⟩⟩
 .obtain ⟨I',K⟩:=I.down j;have:Vl.bW de j lv=lv.set j .no:=by
   unfold Vl.bW;split
   .next ds hd hl=>exact Kc ⟨⟨ds,hd⟩,by unfold zV;rw[hl]⟩ h
   .next ds hd hl=>exact Kc ⟨⟨ds,hd⟩,by unfold zV;rw[hl]⟩ h
   .rfl
  rw[this];refine⟨_,I',K,λi hi=>zg hi,.inr ?_⟩;by_cases z:j<lv.length
  .left;rw[QI,Ka rfl,Ka z]
  .right;lia
set_option tactic.hygienic true in
def Inv.relEv (H:bC lev cl cd)(I:Inv lo RR m de lv env A)(e:Ex):
  ∃A',Inv lo RR m de (yN e de lv) env A'/\aU A m A' m/\(∀k,k∉zv e->A' k=A k)/\aH (yO RR A') m (aR lev e) (ah cl e env m) (aq cd e de):=by
 have gen:yN e de lv=Vl.aO (zv e) lv->∃A',Inv lo RR m de (yN e de lv) env A'/\aU A m A' m/\(∀k,k∉zv e->A' k=A k)/\aH (yO RR A') m (aR lev e) (ah cl e env m) (aq cd e de):=by
  intro h;rw[h];obtain⟨A',I',K,h1,_,h3⟩:=Inv.downs (zv e) I;refine⟨A',I',K,h3,xL H e _ m de env (gY I' λi hi l hl=>?_)⟩;rw[y8]at hl;split at hl
  .cases hl;rfl
  .next z=>rw[Qm (by have:¬i<lv.length:=λq=>z ⟨hi,q⟩;lia)]at hl;cases hl
 cases e with
 |idx a b=>
  cases a with
  |var j=>
   show ∃A',Inv lo RR m de (Vl.bW de j (Vl.aO (zv b) lv)) env A'/\_;obtain⟨A1,I1,K1,h1,h2,h3⟩:=Inv.downs (zv b) I;obtain⟨A2,I2,K2,g1,g2⟩:=I1.topD j;have hne:∀k,k∉zv (.idx (.var j) b)->A2 k=A k:=by
    intro k hk
    replace hk:k∉j::zv b:=hk
    rw[Qc,not_or]at hk;rw[g1 k hk.1,h3 k hk.2]
   refine⟨A2,I2,K1.trans K2,hne,?_⟩;have lvno:∀i,i∈zv b->i≠j->∀l,(Vl.bW de j (Vl.aO (zv b) lv))[i]?=some l->l=.no:=by
    intro i hi hij l hl;rw[sy _ _ _ hij,y8]at hl;split at hl
    .cases hl;rfl
    .next z=>rw[Qm (by have:¬i<lv.length:=λq=>z ⟨hi,q⟩;lia)]at hl;cases hl
   rcases g2 with⟨ds,l,xs,hd,hA,he,hm,hr⟩|g2
   .have hjb:j∉zv b:=λz=>by
     have h0:=h1 j z;have hx:l∈A1 j:=by
      have i1:=I1;by_cases q:l∈A1 j
      .exact q
      .exfalso;have:=(K2.1 l _ (λk hk=>?_) hm).1 j
       .rw[hA]at this;exact this (by simp)
       .by_cases ek:k=j
        .rw[ek]at hk;exact q hk
        .have e1:=g1 k ek;rw[<-e1]at hk;exact ek (I2.dj k j l hk (by rw[hA];simp))
     rw[h0]at hx;cases hx
    refine ag.own ?_ (λd=>rfl);show ag _ m ((ah cl (.var j) env m).bind λx m1=>(ah cl b env m1).bind λy m2=>vu x y m2) ((aq cd (.var j) de).bind λx=>(aq cd b de).bind λy=>yj x y);have e1:ah cl (.var j) env m=.ok (.ref l) m:=jp he m;have e2:aq cd (.var j) de=.ok (.lst ds):=xy hd;rw[e1,e2];simp only[Rz.bind,Rd.bind];refine(zi H.r b _ m de env (gY I2 λi hi=>lvno i hi (λe=>hjb (by rw[<-e];exact hi)))).bind λd2 w2 m2 l2 k2=>?_;exact DN (hr.up _ l2) (l2 l _ hm) k2
   .refine xL H _ _ m de env (gY I2 λi hi l hl=>?_)
    replace hi:i∈j::zv b:=hi
    rw[Qc]at hi;by_cases e:i=j
    .rw[e]at hl;rcases g2 with g2|g2
     .rw[g2]at hl;cases hl;rfl
     .have:(Vl.bW de j (Vl.aO (zv b) lv)).length=(Vl.aO (zv b) lv).length:=by rw[I2.lvl,I1.lvl]
      rw[Qm (by lia)]at hl;cases hl
    .rcases hi with z|z
     .exact Kc z e
     .exact lvno i z e l hl
  |_=>exact gen rfl
 |_=>exact gen rfl
noncomputable def aE(lo:Nat)(RR:Nat->Prop)(A:Nat->List Nat)(m:Me)(r:Rs)(rd:bR):Prop:=match rd with
 |.next de lv=>∃env m' A',r=.next env m'/\Inv lo RR m' de lv env A'/\aU A m A' m'
 |.brk de lv=>∃env m' A',r=.brk env m'/\Inv lo RR m' de lv env A'/\aU A m A' m'
 |.cont de lv=>∃env m' A',r=.cont env m'/\Inv lo RR m' de lv env A'/\aU A m A' m'
 |.ret d l=>∃w m' B,r=.ret w m'/\((∀(x:Nat) o,(∀i,x∉A i)->m[x]?=some o->m'[x]?=some o)/\m.length<=m'.length)/\bK (λx=>RR x/\x∉B) m' l d w B/\B.Nodup/\∀b∈B,lo<=b
 |.exc c d=>∃w e m',r=.exc c w e m'/\((∀(x:Nat) o,(∀i,x∉A i)->m[x]?=some o->m'[x]?=some o)/\m.length<=m'.length)/\ai RR m' d w
 |.no=>True
set_option tactic.hygienic true in
def aE.keep{lo:Nat}{RR:Nat->Prop}{A A1:Nat->List Nat}{m m1:Me}{r:Rs}{rd:bR}(K:aU A m A1 m1)(h:aE lo RR A1 m1 r rd):aE lo RR A m r rd:=by
 cases rd with
 |next de lv=>obtain⟨e,m',A',h,I,k⟩:=h;exact⟨e,m',A',h,I,K.trans k⟩
 |brk de lv=>obtain⟨e,m',A',h,I,k⟩:=h;exact⟨e,m',A',h,I,K.trans k⟩
 |cont de lv=>obtain⟨e,m',A',h,I,k⟩:=h;exact⟨e,m',A',h,I,K.trans k⟩
 |ret d l=>obtain⟨w,m',B,h,k,z⟩:=h;exact⟨w,m',B,h,⟨λx o a b=>k.1 x o (K.1 x o a b).1 (K.1 x o a b).2,QD K.2 k.2⟩,z⟩
 |exc c d=>obtain⟨w,e,m',h,k,z⟩:=h;exact⟨w,e,m',h,⟨λx o a b=>k.1 x o (K.1 x o a b).1 (K.1 x o a b).2,QD K.2 k.2⟩,z⟩
 |no=>trivial
def Inv.rf (I:Inv lo RR m de lv env A)(h:ai (Rf RR m.length) m' d w):ai RR m' d w:=
 ai.frame (λx o r z=>⟨by rcases r with r|r;exact r;exact I.rr x (QD I.lom r),z⟩) d w h
def Inv.bindE (H:bu cl cd)(I:Inv lo RR m de lv env A)(e:Ex)(k:∀d w m1,aq cd e de=.ok d->ah cl e env m=.ok w m1->Le m m1->ai RR m1 d w->aE lo RR A m1 (f w m1) (g d)):aE lo RR A m ((ah cl e env m).bindS env f) ((aq cd e de).bindS g):=by
 have h:=zi H e RR m de env (I.envR _);cases z:aq cd e de with
 |no=>trivial
 |exc c d=>
  rw[z]at h;obtain⟨w,m',h,l,r⟩:=h;rw[h];exact⟨w,env,m',rfl,⟨λx o _ b=>l x o b,l.len⟩,I.rf r⟩
 |ok d=>
  rw[z]at h;obtain⟨w,m',h,l,r⟩:=h;have:=k d w m' z h l (I.rf r);rw[h];exact aE.keep (wQ l) this
def Inv.own (H:bC lev cl cd)(I:Inv lo RR m de lv env A)(h1:aq cd e de=.ok d)(h2:ah cl e env m=.ok w m1):
  ∃B,bK (λx=>RR x/\x∉B) m1 (aR lev e d) d w B/\B.Nodup/\∀b∈B,m.length<=b:=by
 have h:=xL H e RR m de env (I.envR _);rw[h1]at h;obtain⟨w',m',B,h3,l,r,nd,hB⟩:=h;rw[h2]at h3;cases h3;exact⟨B,r.frame (λx o r z=>⟨⟨by rcases r.1 with r|r;exact r;exact I.rr x (QD I.lom r),r.2⟩,z⟩) (λ_ _ _ z=>z),nd,hB⟩
section
variable{lev:Nat->Lv}{cl:Nat->List Wd->Me->Rz}{cd:Nat->List Dat->Rd}{lo:Nat}{RR:Nat->Prop}{m:Me}{de:aJ}{lv:List Lv}{env:En}{A:Nat->List Nat}
set_option tactic.hygienic true in
def vH (h:xz de j=some ds):de[j]?=some (some (.lst ds)):=by
 unfold xz at h;split at h
 .next z=>cases h;exact z
 .cases h
set_option tactic.hygienic true in
def ss (h:eK j r de lv f=some de1):
  ∃k ds p es es1,r=.int k/\de[j]?=some (some (.lst ds))/\ix ds.length k=some p/\ds[p]?=some (.lst es)/\f es=some es1/\lv[j]?=some .full/\de1=de.set j (some (.lst (ds.set p (.lst es1)))):=by
 unfold eK at h;split at h
 .next k ds h1=>
  split at h
  .next ds1 h2=>
   split at h
   .next h3=>
    cases h;obtain⟨p,h4,h5⟩:=Q2.mp h2;obtain⟨d,h6,h7⟩:=Q2.mp h5;split at h7
    .next es=>
     obtain⟨es1,h8,h9⟩:=QO.mp h7;exact⟨k,ds,p,es,es1,rfl,vH h1,h4,h6,h8,h3,by rw[h9]⟩
    .cases h7
   .cases h
  .cases h
 .cases h
def uQ (hm:m[l]?=some (.lst xs))(hk:ix xs.length k=some p)(hp:xs[p]?=some w):vu (.ref l) (.int k) m=.ok w m:=by
 simp[vu,yW,zC,hm,hk,hp]
def vI (h:env[j]?=some (some w))(m:Me):ah cl (.var j) env m=.ok w m:=by
 exact jp h m
def By(H:bC lev cl cd)(I:Inv lo RR m de lv env A)(i:Nat)(e:Ex):aE lo RR A m (aX cl (.asg i e) env m) (aC lev cd (.asg i e) de lv):=by
 have h:aE lo RR A m ((ah cl e env m).bindS env λw m1=>.next (env.set i (some w)) m1) ((aq cd e de).bindS λd=>vG lev i e d de lv):=by
  cases z:aq cd e de with
  |no=>trivial
  |exc c d=>
   have:=I.bindE H.r e (f:=λw m1=>.next (env.set i (some w)) m1) (g:=λd=>.no) (λ_ _ _ _ _ _ _=>trivial);rw[z]at this;exact this
  |ok d=>
   show aE lo RR A m _ (vG lev i e d de lv);unfold vG;by_cases f:aR lev e d=.full
   .rw[Ka f];have h:=xL H e RR m de env (I.envR _);rw[z]at h;obtain⟨w,m1,B,h2,l,r,nd,hB⟩:=h;rw[h2];rw[f]at r;obtain⟨I',K⟩:=I.store l i (l:=.full) (d:=d) (w:=w) (B:=B) r nd hB;exact⟨_,_,_,rfl,I',K⟩
   .rw[Kb f];obtain⟨A1,I1,K1,_,h⟩:=I.relEv H e;rw[z]at h;obtain⟨w,m1,B,h2,l,r,nd,hB⟩:=h;rw[h2];obtain⟨I',K⟩:=I1.store l i (l:=aR lev e d) (d:=d) (w:=w) (B:=B) r nd hB;exact⟨_,_,_,rfl,I',K1.trans K⟩
 exact h
set_option tactic.hygienic true in
def tJ (H:bC lev cl cd)(I:Inv lo RR m de lv env A)(hd:de[j]?=some (some (.lst ds)))(h1:aq cd e de=.ok d)(h2:ah cl e env m=.ok w m1)(l1:Le m m1)(l2:Le m1 m2)(g:yQ lev e d j de lv=some (de1,lv1))(F:List Dat->Dat->List Dat)(G:List Wd->Wd->List Wd)(cF:∀(m m1:Me) (A:Nat->List Nat) (ds:List Dat) (xs:List Wd) (d:Dat) (w:Wd) (B0:List Nat),Le m m1->bg m1 d w B0->B0.Nodup->(∀b∈B0,m.length<=b)->iz RR A m m1 ds xs (F ds d) (G xs w))(cM:∀(m:Me) (ds:List Dat) (xs:List Wd) (d:Dat) (w:Wd) (B B0:List Nat),(B++B0).Nodup->au m ds xs B->bg m d w B0->∃B',au m (F ds d) (G xs w) B'/\B'.Nodup/\∀b∈B',b∈B\/b∈B0)(cT:∀(R:Nat->Prop) (m:Me) (ds:List Dat) (xs:List Wd) (d:Dat) (w:Wd),ae R m ds xs->ai R m d w->ae R m (F ds d) (G xs w)):
  ∃l xs,env[j]?=some (some (.ref l))/\m2[l]?=some (.lst xs)/\ds.length=xs.length/\∃A',Inv lo RR (m2.set l (.lst (G xs w))) (de1.set j (some (.lst (F ds d)))) lv1 env A'/\aU A m A' (m2.set l (.lst (G xs w))):=by
 have l12:=l1.trans l2;unfold yQ at g;split at g
 .cases g
 .next ho=>
  have ho:zV lv j=true:=by simpa using ho
  split at g
  .next f=>
   cases g;obtain⟨B,r,nd,hB⟩:=I.own H h1 h2;rw[f]at r;obtain⟨l,xs,he,hm,hr,put⟩:=I.mut hd ho;have r':bg m2 d w B:=bg.frame d w B (λx _ o z=>l2 x o z) r;refine⟨l,xs,he,l12 l _ hm,hr.len,put m2 _ _ l12 (λ_=>(cF m m2 A ds xs d w B l12 r' nd hB).1) (λ_=>(cF m m2 A ds xs d w B l12 r' nd hB).2)⟩
  .next f=>
   split at g
   .cases g
   .next hj=>
    have share:lv1=(yN e de lv).set j .top->de1=de->∃l xs,env[j]?=some (some (.ref l))/\m2[l]?=some (.lst xs)/\ds.length=xs.length/\∃A',Inv lo RR (m2.set l (.lst (G xs w))) (de1.set j (some (.lst (F ds d)))) lv1 env A'/\aU A m A' (m2.set l (.lst (G xs w))):=by
     rintro rfl rfl;obtain⟨A1,I1,K1,hA1,h⟩:=I.relEv H e;rw[h1]at h;have ho1:zV (yN e de1 lv) j=true:=by unfold zV;rw[sw e _ _ hj];exact ho
     obtain⟨l,xs,A2,I2,K2,g1,g2,he,hm,hr,hlA⟩:=I1.top j hd ho1;have hs:=h.sim;obtain⟨w',m',h3,_,rw0⟩:=hs;rw[h2]at h3;cases h3;have hjl:j<(yN e de1 lv).length:=by rw[I1.lvl];exact(Qa.mp hd).1
     have ho2:zV ((yN e de1 lv).set j .top) j=true:=by unfold zV;rw[QI,Ka rfl,Ka hjl]
     have hlv:((yN e de1 lv).set j .top)[j]?=some .top:=by rw[QI,Ka rfl,Ka hjl]
     obtain⟨l',xs',he',hm',_,put⟩:=I2.mut hd ho2;rw[he]at he';cases he';rw[hm]at hm';cases hm';obtain⟨A3,I3,K3⟩:=put m2 (F ds d) (G xs w) l12 (λz=>by rw[hlv]at z;cases z) (λ_ q=>by
      refine cT _ m2 ds xs d w (ae.frame (λx o r z=>⟨.inl r,l12 x o z⟩) _ _ q) (ai.frame (λx o r z=>⟨?_,l2 x o z⟩) _ _ rw0);rcases r with r|r
      .left
       refine⟨r.1,λk hk=>?_⟩;by_cases ek:k=j
       .rw[ek,g1]at hk;rw[QH.mp hk]at r;exact r.2 j hlA
       .rw[g2 k ek]at hk;exact r.2 k hk
      .exact .inr r)
     exact⟨l,xs,he,l12 l _ hm,hr.len,A3,I3,(K1.trans K2).trans K3⟩
    split at g
    .next i=>
     split at g
     .next hfull=>
      cases g;have hij:i≠j:=λe=>hj (by rw[e];exact QH.mpr rfl)
      -- the move
      have hdi:de[i]?=some (some d):=by
       exact sL h1
      obtain⟨wi,hei,ri⟩:=I.slot i d .full hdi hfull.1;have:ah cl (.var i) env m=.ok wi m:=vI hei m;rw[this]at h2;cases h2;obtain⟨wj,hej,rj⟩:=I.slot j _ .full hd hfull.2;obtain⟨l,xs,B,rfl,hA,hm,r⟩:=aS.mp rj;have hlm:=(Qa.mp hm).1;have nd:=I.nd j;rw[hA]at nd;obtain⟨n0,n1⟩:=QS.mp nd;have nBi:(B++A i).Nodup:=QF.mpr ⟨n1,I.nd i,λx hx y hy e=>by
       subst e;exact hij (I.dj i j x hy (by rw[hA];exact Qp _ hx))⟩
      obtain⟨B',o,nB',hB'⟩:=cM m ds xs d w B (A i) nBi r ri;have lB':l∉B':=λz=>by
       rcases hB' l z with q|q
       .exact n0 q
       .exact hij (I.dj i j l q (by rw[hA];simp))
      have sub:∀x∈l::B',x∈A j\/x∈A i:=by
       intro x hx;rcases Qc.mp hx with rfl|hx
       .left;rw[hA];simp
       .rcases hB' x hx with q|q
        .left;rw[hA];exact Qp _ q
        .exact .inr q
      have hjl:j<de.length:=(Qa.mp hd).1;have hil:i<de.length:=(Qa.mp hdi).1;have ui:aI (aI A i []) j (l::B') i=[]:=by rw[zg hij,zf]
      have uo:∀k,k≠i->k≠j->aI (aI A i []) j (l::B') k=A k:=λk a b=>by rw[zg b,zg a]
      have ll2:=l2.len;refine⟨l,xs,hej,l2 l _ hm,r.len,aI (aI A i []) j (l::B'),?_⟩;refine I.put l2 (j:=j) (l:=l) (xs:=xs) (by rw[hA];simp) _ ?_ ?_ ?_ ?_ (by simp) rfl ?_ ?_
      .intro k x hx
       left
       by_cases e:k=j
       .rw[e,zf]at hx;rcases sub x hx with q|q
        .exact ⟨j,q⟩
        .exact ⟨i,q⟩
       .by_cases f:k=i
        .rw[f,ui]at hx;cases hx
        .rw[uo k f e]at hx;exact⟨k,hx⟩
      .intro k;by_cases e:k=j
       .rw[e,zf];exact QS.mpr ⟨lB',nB'⟩
       .by_cases f:k=i
        .rw[f,ui];simp
        .rw[uo k f e];exact I.nd k
      .have main:∀k x,k≠j->x∈l::B'->x∈aI (aI A i []) j (l::B') k->False:=by
        intro k x e hx hk;by_cases f:k=i
        .rw[f,ui]at hk;cases hk
        .rw[uo k f e]at hk;rcases sub x hx with q|q
         .exact e (I.dj k j x hk q)
         .exact f (I.dj k i x hk q)
       intro a b x ha hb;by_cases e:a=j
       .by_cases f:b=j
        .rw[e,f]
        .rw[e,zf]at ha;exact(main b x f ha hb).elim
       .by_cases f:b=j
        .rw[f,zf]at hb;exact(main a x e hb ha).elim
        .by_cases g:a=i
         .rw[g,ui]at ha;cases ha
         .by_cases h:b=i
          .rw[h,ui]at hb;cases hb
          .rw[uo a g e]at ha;rw[uo b h f]at hb;exact I.dj a b x ha hb
      .intro k x hx;by_cases e:k=j
       .rw[e,zf]at hx;rcases sub x hx with q|q
        .exact ⟨(I.bd j x q).1,Qk (I.bd j x q).2 ll2⟩
        .exact ⟨(I.bd i x q).1,Qk (I.bd i x q).2 ll2⟩
       .by_cases f:k=i
        .rw[f,ui]at hx;cases hx
        .rw[uo k f e]at hx;exact⟨(I.bd k x hx).1,Qk (I.bd k x hx).2 ll2⟩
      .intro k d' lk e g1 g2;rw[QA (Ne.symm e)]at g1;by_cases f:k=i
       .rw[f,QI,Ka rfl,Ka hil]at g1;cases g1
       .rw[QA (Ne.symm f)]at g1;exact⟨g1,g2,uo k f e⟩
      .intro d' lj g1 g2;rw[QI,Ka rfl,Ka (by simpa using hjl)]at g1;cases g1;rw[hfull.2]at g2;cases g2;refine⟨_,hej,?_⟩;rw[zf];exact aS.mpr ⟨l,_,B',rfl,rfl,yT (l2 l _ hm),au.frame _ _ B' (λx hx o z=>by rw[zI (l:=l) (x:=x) (λe=>lB' (by rw[e];exact hx))];exact l2 x o z) o⟩
     .cases g;exact share rfl rfl
    .cases g;exact share rfl rfl
end
section
variable{lev:Nat->Lv}{cl:Nat->List Wd->Me->Rz}{cd:Nat->List Dat->Rd}{lo:Nat}{RR:Nat->Prop}{m:Me}{de:aJ}{lv:List Lv}{env:En}{A:Nat->List Nat}
def uP (h1:ah cl o env m=.ok x m1)(h2:ah cl e env m1=.ok w m2)(hl:yY x m1=true:=by simp only[yY,bb];simp_all):ah cl (.meth n o (.pair e .unit)) env m=du n x [w] m2:=by
 show(ah cl o env m).bind (λx m1=>match yY x m1 with|true=>((ah cl e env m1).bind λa m2=>.ok (.tup [a]) m2).bind λy m2=>du n x (zt y) m2|false=>.no)=_;rw[h1];show(match yY x m1 with|true=>((ah cl e env m1).bind λa m2=>.ok (.tup [a]) m2).bind λy m2=>du n x (zt y) m2|false=>.no)=_;rw[hl,h2];rfl
def Bx (h1:ah cl o env m=.ok x m1)(hl:yY x m1=true:=by simp only[yY,bb];simp_all):ah cl (.meth n o .unit) env m=du n x [] m1:=by
 show(ah cl o env m).bind (λx m1=>match yY x m1 with|true=>du n x [] m1|false=>.no)=_;rw[h1];show(match yY x m1 with|true=>du n x [] m1|false=>.no)=_;rw[hl]
def Bw (n:(B++B0).Nodup)(a:au m ds xs B)(b:bg m d w B0):∃B',au m (ds++[d]) (xs++[w]) B'/\B'.Nodup/\∀b∈B',b∈B\/b∈B0:=
 ⟨B++(B0++[]),a.app (.cons b .nil),by simpa using n,λx hx=>by simpa using hx⟩
def Bv (p:Nat)(n:(B++B0).Nodup)(a:au m ds xs B)(b:bg m d w B0):∃B',au m (ds.set p d) (xs.set p w) B'/\B'.Nodup/\∀b∈B',b∈B\/b∈B0:=by
 cases hp:ds[p]? with
 |none=>
  have h1:ds.length<=p:=Wk.mp hp;rw[W7 h1,W7 (by rw[<-a.len];exact h1)];exact⟨B,a,(QF.mp n).1,λb hb=>.inl hb⟩
 |some e=>
  obtain⟨y,B1,Bp,B2,h1,rfl,h3,_,h4⟩:=au.split a hp;refine⟨B1++(B0++B2),h4 m d w B0 (λl _ o z=>z) b,?_,?_⟩
  .obtain ⟨q1,q2,q3⟩:=QF.mp n;obtain⟨n1,n2,n3⟩:=QF.mp q1;obtain⟨n4,n5,n6⟩:=QF.mp n2;refine QF.mpr ⟨n1,QF.mpr ⟨q2,n5,λx hx y hy e=>q3 y (by simp[hy]) x hx e.symm⟩,λx hx y hy e=>?_⟩;rcases Qu.mp hy with hy|hy
   .exact q3 x (by simp[hx]) y hy e
   .exact n3 x hx y (by simp[hy]) e
  .intro x hx;simp only[Qu]at hx ⊢;rcases hx with z|z|z
   .exact .inl (.inl z)
   .exact .inr z
   .exact .inl (.inr (.inr z))
theorem aE.okS{r:Rs}{rd:Rd}{g:Dat->bR}(h:∀d,rd=.ok d->aE lo RR A m r (g d)):aE lo RR A m r (rd.okS g):=by
 cases rd with
 |ok d=>exact h d rfl
 |_=>trivial
theorem Inv.ok (H:bu cl cd)(I:Inv lo RR m de lv env A)(h:aq cd e de=.ok d)(l:Le m m1):∃w m2,ah cl e env m1=.ok w m2/\Le m1 m2/\ai RR m2 d w:=by
 have q:=zi H e RR m1 de env ((I.ext l).envR _);rw[h]at q;obtain⟨w,m2,a,b,c⟩:=q;exact⟨w,m2,a,b,(I.ext l).rf c⟩
def Inv.isRef (I:Inv lo RR m de lv env A){j:Nat}(hd:de[j]?=some (some (.lst ds)))(he:env[j]?=some (some w)):yY w m=true:=by
 obtain⟨lj,hl⟩:=I.getlv hd;obtain⟨w',a,b⟩:=I.slot j _ lj hd hl;rw[he]at a;cases a;obtain⟨l,xs,rfl,_,hm,_⟩:=aA.mp (b.rep (R':=λ_=>True) (λ_ _=>trivial) (λ_ _=>trivial));simp[yY,bb,hm]
set_option tactic.hygienic true in
def DM(H:bC lev cl cd)(I:Inv lo RR m de lv env A)(j:Nat)(e:Ex):aE lo RR A m (aX cl (.expr (.meth .append (.var j) (.pair e .unit))) env m) (aC lev cd (.expr (.meth .append (.var j) (.pair e .unit))) de lv):=by
 show aE _ _ _ _ ((ah cl _ env m).bindS env _) _;refine aE.okS λd h1=>?_;split
 .next ds hl=>
  split
  .next hlim=>
   split
   .next de1 lv1 g=>
    obtain⟨w,m1,h2,l1,r1⟩:=I.ok H.r h1 (Le.refl m);obtain⟨l,xs,he,hm,hlen,A',I',K⟩:=tJ H I (vH hl) h1 h2 l1 (Le.refl m1) g (λds d=>ds++[d]) (λxs w=>xs++[w])
     (λ_ _ _ _ _ _ _ _ le o nd hB=>Bz le o nd hB) (λ_ _ _ _ _ _ _ n a b=>Bw n a b) (λ_ _ _ _ _ _ a b=>a.app (.cons b .nil))
    rw[uP (vI he m) h2 (I.isRef (vH hl) he)];have:du .append (.ref l) [w] m1=.ok .non (m1.set l (.lst (xs++[w]))):=by
     simp only[du,hm];rw[Ka (by lia)]
    rw[this];exact⟨_,_,A',rfl,I',K⟩
   .trivial
  .trivial
 .trivial
set_option tactic.hygienic true in
def DL(I:Inv lo RR m de lv env A)(j:Nat):aE lo RR A m (aX cl (.expr (.meth .reverse (.var j) .unit)) env m) (aC lev cd (.expr (.meth .reverse (.var j) .unit)) de lv):=by
 show aE _ _ _ _ ((ah cl _ env m).bindS env _) (match xz de j with
   |some ds=>if zV lv j then .next (de.set j (some (.lst ds.reverse))) lv else .no
   |none=>.no)
 split
 .next ds hl=>
  split
  .next ho=>
   obtain⟨l,xs,he,hm,hr,put⟩:=I.mut (vH hl) ho;obtain⟨A',I',K⟩:=put m ds.reverse xs.reverse (Le.refl m) (λ_=>(dx (RR:=RR) (A:=A)).1) (λ_=>dx.2);rw[Bx (vI he m)];have:du .reverse (.ref l) [] m=.ok .non (m.set l (.lst xs.reverse)):=by simp only[du,hm]
   rw[this];exact⟨_,_,A',rfl,I',K⟩
  .trivial
 .trivial
def pQ (H:bu cl cd)(I:Inv lo RR m de lv env A){ds:List Dat}(hr:aq cd r de=.ok (.int k))(hp:ix ds.length k=some p)(he:env[j]?=some (some (.ref l)))(hm:m[l]?=some (.lst xs))(hlen:ds.length=xs.length)(hx:xs[p]?=some (.ref l2))(l0:Le m m0):
  ∃m1,ah cl (.idx (.var j) r) env m0=.ok (.ref l2) m1/\Le m0 m1:=by
 obtain⟨w,m1,h2,l1,r1⟩:=I.ok H hr l0;rw[aa.mp r1]at h2;refine⟨m1,?_,l1⟩;show(ah cl (.var j) env m0).bind (λx m1=>(ah cl r env m1).bind λy m2=>vu x y m2)=_;rw[vI he m0];simp only[Rz.bind,h2];exact uQ (l1 l _ (l0 l _ hm)) (by rw[<-hlen];exact hp) hx
def sr (h:∀de1,o=some de1->aE lo RR A m r (.next de1 lv1)):aE lo RR A m r (fH o lv1):=by
 cases o with
 |none=>trivial
 |some d=>exact h d rfl
end
section
variable{lev:Nat->Lv}{cl:Nat->List Wd->Me->Rz}{cd:Nat->List Dat->Rd}{lo:Nat}{RR:Nat->Prop}{m:Me}{de:aJ}{lv:List Lv}{env:En}{A:Nat->List Nat}
mutual
theorem ai.avoid{R R':Nat->Prop}{m:Me}{D:Dat}{l:Nat}(hD:ai R' m D (.ref l)):∀(d:Dat) (w:Wd),dW d<dW D->ai R m d w->ai (λx=>R x/\x≠l) m d w
 |.non,w,h,q=>aG.mpr (aG.mp q)
 |.bl _,w,h,q=>am.mpr (am.mp q)
 |.int _,w,h,q=>aa.mpr (aa.mp q)
 |.str _,w,h,q=>aM.mpr (aM.mp q)
 |.scr _,w,h,q=>ba.mpr (ba.mp q)
 |.tup ds,w,h,q=>by
  obtain⟨xs,rfl,q1⟩:=aj.mp q;exact aj.mpr ⟨xs,rfl,ae.avoid hD ds xs (by rw[show dW (.tup ds)=dn ds+1 from by simp[dW]]at h;lia) q1⟩
 |.lst ds,w,h,q=>by
  obtain⟨k,xs,rfl,r,hm,q1⟩:=aA.mp q;refine aA.mpr ⟨k,xs,rfl,⟨r,λe=>?_⟩,hm,ae.avoid hD ds xs (by rw[show dW (.lst ds)=dn ds+1 from by simp[dW]]at h;lia) q1⟩;subst e;have:=ai.det _ _ _ q hD;rw[this]at h;lia
theorem ae.avoid{R R':Nat->Prop}{m:Me}{D:Dat}{l:Nat}(hD:ai R' m D (.ref l)):∀(ds:List Dat) (xs:List Wd),dn ds<dW D->ae R m ds xs->ae (λx=>R x/\x≠l) m ds xs
 |[],xs,h,q=>by rw[q.nil_inv];exact .nil
 |d::ds,xs,h,q=>by
  obtain⟨x,r,rfl,a,b⟩:=q.cons_inv;unfold dn at h;exact .cons (ai.avoid hD d x (by lia) a) (ae.avoid hD ds r (by lia) b)
end
def gZ (hm:m[l]?=some (.lst xs))(hk:ix xs.length k=some p):gv (.ref l) (.int k) w m=.ok .non (m.set l (.lst (xs.set p w))):=by
 simp[gv,hm,hk]
set_option tactic.hygienic true in
def DK(H:bC lev cl cd)(I:Inv lo RR m de lv env A)(j:Nat)(k e:Ex):aE lo RR A m (aX cl (.asgS (.var j) k e) env m) (aC lev cd (.asgS (.var j) k e) de lv):=by
 show aE _ _ _ _ ((ah cl e env m).bindS env _) _;refine aE.okS λd h1=>aE.okS λkv hk=>?_;unfold oF;split
 .next k' ds hl=>
  have hd:=vH hl;split
  .next p hp=>
   obtain⟨w,m1,h2,l1,r1⟩:=I.ok H.r h1 (Le.refl m);obtain⟨wk,m2,h3,l2,r3⟩:=I.ok H.r hk l1;rw[aa.mp r3]at h3;split
   .next de1 lv1 g=>
    obtain⟨l,xs,he,hm,hlen,A',I',K⟩:=tJ H I hd h1 h2 l1 l2 g (λds d=>ds.set p d) (λxs w=>xs.set p w)
     (λ_ _ _ _ _ _ _ _ le o nd hB=>sA p le o nd hB) (λ_ _ _ _ _ _ _ n a b=>Bv p n a b) (λ_ _ _ _ _ _ a b=>a.set p b)
    simp only[h2,Rz.bindS,vI he m1,h3,gZ hm (by rw[<-hlen];exact hp)];exact⟨_,_,A',rfl,I',K⟩
   .next g=>
    split
    .next c=>
     simp only[Qx,Kh]at c;obtain⟨⟨ho,hdep⟩,_⟩:=c;obtain⟨l,xs,A0,I0,K0,g1,g2,he,hm,hr,hlA⟩:=I.top j hd ho;obtain⟨A1,I1,K1,q1,q2,q3⟩:=Inv.downs ((zv e).filter (·≠j)) I0;have hA1j:A1 j=[l]:=by rw[q3 j (by simp),g1]
     have elv:aO ((zv e).filter (·≠j)) (lv.set j .top)=(aO (zv e) lv).set j .top:=by
      apply Q8;intro i;rw[y8,QI];by_cases ei:j=i
      .subst ei;rw[Kb (by simp),Ka rfl,QI,Ka rfl,bv]
      .rw[Kb ei,QA ei,y8,WE];have:(i∈(zv e).filter (·≠j))↔i∈zv e:=by simp[VY];intro _;exact λz=>ei z.symm
       simp only[this]
     rw[elv]at I1;have lno:∀i∈zv e,i≠j->∀x,((aO (zv e) lv).set j .top)[i]?=some x->x=.no:=by
      intro i hi hij x hx;rw[QA (Ne.symm hij),y8]at hx;split at hx
      .cases hx;rfl
      .next z=>rw[Qm (by have:¬i<lv.length:=λq=>z ⟨hi,q⟩;lia)]at hx;cases hx
     have hr1:ae (yO RR A1) m ds xs:=(K1.repL hr);have env1:bM (λx=>yO RR A1 x\/x=l) m (zv e) de env:=by
      refine⟨I1.len,λi hi d' hd'=>?_⟩;by_cases ei:i=j
      .subst ei;rw[hd]at hd';cases hd';exact⟨_,he,aA.mpr ⟨l,xs,rfl,.inr rfl,hm,ae.frame (λx o r z=>⟨.inl r,z⟩) _ _ hr1⟩⟩
      .obtain ⟨li,hli⟩:=I1.getlv hd';obtain⟨w',a,b⟩:=I1.slot i d' li hd' hli;rw[lno i hi ei li hli]at b;exact⟨w',a,ai.frame (λx o r z=>⟨.inl r,z⟩) _ _ b.1⟩
     have hs:=zi H.r e _ m de env env1;rw[h1]at hs;obtain⟨w',m1',h2',_,rw1⟩:=hs;rw[h2]at h2';cases h2';have rwa:=ai.avoid (D:=.lst ds) (l:=l) (R':=λ_=>True) (m:=m1) (aA.mpr ⟨l,xs,rfl,trivial,l1 l _ hm,ae.frame (λx o r z=>⟨trivial,l1 x o z⟩) _ _ hr1⟩) d w hdep rw1;have hlm:=(Qa.mp hm).1;have hjl:j<lv.length:=by rw[I.lvl];exact(Qa.mp hd).1
     have hlv:((aO (zv e) lv).set j .top)[j]?=some .top:=by rw[QI,Ka rfl,Ka (by rw[bv];exact hjl)]
     obtain⟨l',xs',he',hm',hrr,put⟩:=I1.mut hd (by unfold zV;rw[hlv]);rw[he]at he';cases he';rw[hm]at hm';cases hm';obtain⟨A3,I3,K3⟩:=put m2 (ds.set p d) (xs.set p w) (l1.trans l2) (λz=>by rw[hlv]at z;cases z) (λ_ q=>by
      refine ae.set (ae.frame (λx o r z=>⟨.inl r,(l1.trans l2) x o z⟩) _ _ q) p (ai.frame (λx o r z=>⟨?_,l2 x o z⟩) _ _ rwa);rcases r.1 with (r1|r1)|r1
      .exact .inl r1
      .exact Kc r1 r.2
      .exact .inr r1)
     simp only[h2,Rz.bindS,vI he m1,h3,gZ (l2 l _ (l1 l _ hm)) (by rw[<-hr.len];exact hp)];exact⟨_,_,A3,rfl,I3,(K0.trans K1).trans K3⟩
    .trivial
  .trivial
 .trivial
set_option tactic.hygienic true in
def tI (h:jr k d es=some es1):∃i p,k=.int i/\ix es.length i=some p/\es1=es.set p d:=by
 unfold jr at h;split at h
 .next i=>obtain⟨p,a,b⟩:=QO.mp h;exact⟨i,p,rfl,a,b.symm⟩
 .cases h
set_option tactic.hygienic true in
def DJ(H:bC lev cl cd)(I:Inv lo RR m de lv env A)(j:Nat)(r k e:Ex):aE lo RR A m (aX cl (.asgS (.idx (.var j) r) k e) env m) (aC lev cd (.asgS (.idx (.var j) r) k e) de lv):=by
 show aE _ _ _ _ ((ah cl e env m).bindS env _) _;refine aE.okS λd h1=>aE.okS λrv hr=>aE.okS λkv hk=>?_;obtain⟨w,m1,h2,l1,r1⟩:=I.ok H.r h1 (Le.refl m);split
 .next f=>
  refine sr λde1 h=>?_;obtain⟨rk,ds,p,es,es1,rfl,hd,hp,hps,hf,hlv,rfl⟩:=ss h;obtain⟨i,q,rfl,hq,rfl⟩:=tI hf;obtain⟨l,xs,l2,us,he,hm,hx,hm2,hlen,hrep,put,_⟩:=I.mutIn hd hlv hps;obtain⟨m2,h3,l2'⟩:=pQ H.r I hr hp he hm hlen hx l1;obtain⟨wk,m3,h4,l3,r4⟩:=I.ok H.r hk (l1.trans l2');rw[aa.mp r4]at h4;obtain⟨B,ro,nd,hB⟩:=I.own H h1 h2;rw[f]at ro;have l123:=(l1.trans l2').trans l3;have ro':bg m3 d w B:=bg.frame d w B (λx _ o z=>l3 x o (l2' x o z)) ro;have ch:iz RR A m m3 es us (es.set q d) (us.set q w):=sA q l123 ro' nd hB;obtain⟨A',I',K⟩:=put m3 _ _ l123 ch.1;simp only[h2,Rz.bindS,h3,h4,gZ (l123 _ _ hm2) (by rw[<-hrep.len];exact hq)];exact⟨_,_,A',rfl,I',K⟩
 .next f=>
  split
  .trivial
  .next hj=>
   refine sr λde1 h=>?_;obtain⟨rk,ds,p,es,es1,rfl,hd,hp,hps,hf,hlv,rfl⟩:=ss h;obtain⟨i,q,rfl,hq,rfl⟩:=tI hf;obtain⟨A1,I1,K1,_,hso⟩:=I.relEv H e;rw[h1]at hso;obtain⟨w',m1',h2',_,rw1⟩:=hso.sim;rw[h2]at h2';cases h2';obtain⟨l,xs,l2,us,he,hm,hx,hm2,hlen,hrep,_,put⟩:=I1.mutIn hd (by rw[sw e _ _ hj];exact hlv) hps;obtain⟨m2,h3,l2'⟩:=pQ H.r I hr hp he hm hlen hx l1;obtain⟨wk,m3,h4,l3,r4⟩:=I.ok H.r hk (l1.trans l2');rw[aa.mp r4]at h4;have l123:=(l1.trans l2').trans l3;obtain⟨A',I',K⟩:=put m3 q d w l123 (ai.frame (λx o r z=>⟨r,l3 x o (l2' x o z)⟩) _ _ rw1);simp only[h2,Rz.bindS,h3,h4,gZ (l123 _ _ hm2) (by rw[<-hrep.len];exact hq)];exact⟨_,_,A',rfl,I',K1.trans K⟩
end
section
variable{lev:Nat->Lv}{cl:Nat->List Wd->Me->Rz}{cd:Nat->List Dat->Rd}{lo:Nat}{RR:Nat->Prop}
set_option tactic.hygienic true in
def Inv.bindSlot{m:Me}{de:aJ}{lv:List Lv}{env:En}{A:Nat->List Nat}(I:Inv lo RR m de lv env A)(i:Nat){d:Dat}{w:Wd}(h:ai (yO RR A) m d w):Inv lo RR m (de.set i (some d)) (lv.set i (aN d)) (env.set i (some w)) (aI A i [])/\aU A m (aI A i []) m:=by
 refine I.store (Le.refl m) i (B:=[]) ?_ QP (by simp);unfold aN;split
 .next f=>exact h.flat d w f
 .exact ⟨ai.frame (λx o r z=>⟨⟨.inl r,by simp⟩,z⟩) _ _ h,rfl⟩
set_option tactic.hygienic true in
theorem wR (hb:∀x w m de lv env A,Inv lo RR m de lv env A->ai (yO RR A) m x w->aE lo RR A m (bw w env m) (bd x de lv)):
  ∀(ds:List Dat) (xs:List Wd) (m:Me) (de:aJ) (lv:List Lv) (env:En) (A:Nat->List Nat),Inv lo RR m de lv env A->ae (yO RR A) m ds xs->aE lo RR A m (wr bw xs env m) (yx bd ds de lv)
 |[],xs,m,de,lv,env,A,I,r=>by
  rw[r.nil_inv];exact⟨env,m,A,rfl,I,aU.refl A m⟩
 |d::ds,xs,m,de,lv,env,A,I,r=>by
  obtain⟨x,xs,rfl,a,b⟩:=r.cons_inv;have h:=hb d x m de lv env A I a;unfold wr yx;cases z:bd d de lv with
  |next d1 l1=>
   rw[z]at h;obtain⟨e1,m1,A1,h1,I1,K1⟩:=h;rw[h1];exact aE.keep K1 (wR hb ds xs m1 d1 l1 e1 A1 I1 (K1.repL b))
  |cont d1 l1=>
   rw[z]at h;obtain⟨e1,m1,A1,h1,I1,K1⟩:=h;rw[h1];exact aE.keep K1 (wR hb ds xs m1 d1 l1 e1 A1 I1 (K1.repL b))
  |brk d1 l1=>
   rw[z]at h;obtain⟨e1,m1,A1,h1,I1,K1⟩:=h;rw[h1];exact⟨e1,m1,A1,rfl,I1,K1⟩
  |ret d l=>
   rw[z]at h;obtain⟨w,m1,B,h1,k⟩:=h;rw[h1];exact⟨w,m1,B,rfl,k⟩
  |exc c d=>
   rw[z]at h;obtain⟨w,e,m1,h1,k⟩:=h;rw[h1];exact⟨w,e,m1,rfl,k⟩
  |no=>trivial
set_option tactic.hygienic true in
theorem kg (hb:∀x w m de lv env A,Inv lo RR m de lv env A->ai (yO RR A) m x w->aE lo RR A m (bw w env m) (bd x de lv)):
  ∀(ds:List Dat) (i k:Nat) (m:Me) (de:aJ) (lv:List Lv) (env:En) (A:Nat->List Nat),Inv lo RR m de lv env A->(∀k,l∉A k)->m[l]?=some (.lst xs0)->ae (yO RR A) m ds (xs0.drop i)->i+ds.length=xs0.length->ds.length<k->aE lo RR A m (wt bw l k i env m) (yx bd ds de lv)
 |[],i,0,m,de,lv,env,A,I,hl,hm,r,hi,hk=>by simp at hk
 |d::ds,i,0,m,de,lv,env,A,I,hl,hm,r,hi,hk=>by simp at hk
 |[],i,k+1,m,de,lv,env,A,I,hl,hm,r,hi,hk=>by
  unfold wt yx zC;rw[hm];simp only;rw[Qm (by simp at hi;lia)];exact⟨env,m,A,rfl,I,aU.refl A m⟩
 |d::ds,i,k+1,m,de,lv,env,A,I,hl,hm,r,hi,hk=>by
  obtain⟨x,q,e0,a,b⟩:=r.cons_inv;have hx:xs0[i]?=some x:=by
   have:(xs0.drop i)[0]?=some x:=by rw[e0];rfl
   simpa using this
  have hr:q=xs0.drop (i+1):=by
   have:(xs0.drop i).drop 1=q:=by rw[e0];rfl
   rw[<-this,Ve]
  rw[hr]at b;have hi':i+1+ds.length=xs0.length:=by simp at hi;lia
  have hk':ds.length<k:=by simp at hk;lia
  have h:=hb d x m de lv env A I a;unfold wt yx zC;rw[hm];simp only;rw[hx];simp only;cases z:bd d de lv with
  |next d1 l1=>
   rw[z]at h;obtain⟨e1,m1,A1,h1,I1,K1⟩:=h;rw[h1];exact aE.keep K1 (kg hb ds (i+1) k m1 d1 l1 e1 A1 I1 (K1.1 l _ hl hm).1 (K1.1 l _ hl hm).2 (K1.repL b) hi' hk')
  |cont d1 l1=>
   rw[z]at h;obtain⟨e1,m1,A1,h1,I1,K1⟩:=h;rw[h1];exact aE.keep K1 (kg hb ds (i+1) k m1 d1 l1 e1 A1 I1 (K1.1 l _ hl hm).1 (K1.1 l _ hl hm).2 (K1.repL b) hi' hk')
  |brk d1 l1=>
   rw[z]at h;obtain⟨e1,m1,A1,h1,I1,K1⟩:=h;rw[h1];exact⟨e1,m1,A1,rfl,I1,K1⟩
  |ret d l=>
   rw[z]at h;obtain⟨w,m1,B,h1,k⟩:=h;rw[h1];exact⟨w,m1,B,rfl,k⟩
  |exc c d=>
   rw[z]at h;obtain⟨w,e,m1,h1,k⟩:=h;rw[h1];exact⟨w,e,m1,rfl,k⟩
  |no=>trivial
set_option tactic.hygienic true in
def sk{bw:Wd->En->Me->Rs}{bd:Dat->aJ->List Lv->bR}(H:bC lev cl cd)(hb:∀x w m de lv env A,Inv lo RR m de lv env A->ai (yO RR A) m x w->aE lo RR A m (bw w env m) (bd x de lv)){m:Me}{de:aJ}{lv:List Lv}{env:En}{A:Nat->List Nat}(I:Inv lo RR m de lv env A)(it:Ex):
  aE lo RR A m ((ah cl it env m).bindS env λw m1=>eY bw w env m1) ((aq cd it de).bindS λd=>match cE d with
   |some xs=>yx bd xs de (if ax d then lv else yN it de lv)
   |none=>.no):=by
 have run:∀(d:Dat) (w:Wd) (m1:Me) (xs:List Dat) (lv1:List Lv) (A1:Nat->List Nat),cE d=some xs->Inv lo RR m1 de lv1 env A1->ai (yO RR A1) m1 d w->aE lo RR A1 m1 (eY bw w env m1) (yx bd xs de lv1):=by
  intro d w m1 xs lv1 A1 hi I1 r;cases d with
  |tup ds=>cases hi;obtain⟨ys,rfl,r1⟩:=aj.mp r;exact wR hb _ _ _ _ _ _ _ I1 r1
  |scr ns=>cases hi;rw[ba.mp r];exact wR hb _ _ _ _ _ _ _ I1 (fv ns)
  |lst ds=>
   simp only[cE]at hi;split at hi
   .next z=>
    cases hi;obtain⟨l,ys,rfl,hR,hm,r1⟩:=aA.mp r;have:=r1.len;exact kg hb _ 0 (av+1) m1 de lv1 env A1 I1 hR.2 hm (by simpa using r1) (by lia) (by lia)
   .cases hi
  |_=>cases hi
 cases z:aq cd it de with
 |no=>trivial
 |exc c d=>
  have:=I.bindE H.r it (f:=λw m1=>eY bw w env m1) (g:=λd=>.no) (λ_ _ _ _ _ _ _=>trivial);rw[z]at this;exact this
 |ok d=>
  show aE lo RR A m _ (match cE d with
   |some xs=>yx bd xs de (if ax d then lv else yN it de lv)
   |none=>.no)
  cases hi:cE d with
  |none=>trivial
  |some xs=>
   simp only;split
   .next f=>
    obtain⟨w,m1,h2,l1,r1⟩:=I.ok H.r z (Le.refl m);rw[h2];exact aE.keep (wQ l1) (run d w m1 xs lv A hi (I.ext l1) (bg.rep d w [] (by simp) (r1.flat d w f)))
   .obtain ⟨A1,I1,K1,_,h⟩:=I.relEv H it;rw[z]at h;obtain⟨w,m1,h2,l1,r1⟩:=h.sim;rw[h2];refine aE.keep (K1.trans (wQ l1)) (run d w m1 xs _ A1 hi (I1.ext l1) (ai.frame (λx o r z=>⟨?_,z⟩) _ _ r1));rcases r with r|r
    .exact r
    .exact ⟨I.rr x (QD I.lom r),λk hk=>by have:=(I1.bd k x hk).2;lia⟩
set_option tactic.hygienic true in
theorem kj{cw:En->Me->Rz}{bw:En->Me->Rs}{c:aJ->Rd}{bd:aJ->List Lv->bR}(hc:∀m de lv env A,Inv lo RR m de lv env A->match c de with |.ok d=>∃w m1,cw env m=.ok w m1/\Le m m1/\ai RR m1 d w |.exc k d=>∃w m1,cw env m=.exc k w m1/\Le m m1/\ai RR m1 d w |.no=>True)
  (hb:∀m de lv env A,Inv lo RR m de lv env A->aE lo RR A m (bw env m) (bd de lv)):∀(k:Nat) (m:Me) (de:aJ) (lv:List Lv) (env:En) (A:Nat->List Nat),Inv lo RR m de lv env A->aE lo RR A m (ku cw bw k env m) (wg c bd k de lv)
 |0,m,de,lv,env,A,I=>trivial
 |k+1,m,de,lv,env,A,I=>by
  have h:=hc m de lv env A I;unfold ku wg;cases z:c de with
  |no=>trivial
  |exc j d=>
   rw[z]at h;obtain⟨w,m1,h1,l1,r1⟩:=h;rw[h1];exact⟨w,env,m1,rfl,⟨λx o _ b=>l1 x o b,l1.len⟩,r1⟩
  |ok d=>
   rw[z]at h;obtain⟨w,m1,h1,l1,r1⟩:=h;rw[h1];cases d with
   |bl b=>
    rw[am.mp r1];cases b with
    |false=>exact⟨env,m1,A,rfl,I.ext l1,wQ l1⟩
    |true=>
     have h2:=hb m1 de lv env A (I.ext l1);refine aE.keep (wQ l1) ?_;simp only;cases z2:bd de lv with
     |next d1 l2=>
      rw[z2]at h2;obtain⟨e1,m2,A1,h3,I1,K1⟩:=h2;rw[h3];exact aE.keep K1 (kj hc hb k m2 d1 l2 e1 A1 I1)
     |cont d1 l2=>
      rw[z2]at h2;obtain⟨e1,m2,A1,h3,I1,K1⟩:=h2;rw[h3];exact aE.keep K1 (kj hc hb k m2 d1 l2 e1 A1 I1)
     |brk d1 l2=>
      rw[z2]at h2;obtain⟨e1,m2,A1,h3,I1,K1⟩:=h2;rw[h3];exact⟨e1,m2,A1,rfl,I1,K1⟩
     |ret d l=>
      rw[z2]at h2;obtain⟨w,m2,B,h3,k⟩:=h2;rw[h3];exact⟨w,m2,B,rfl,k⟩
     |exc c d=>
      rw[z2]at h2;obtain⟨w,e,m2,h3,k⟩:=h2;rw[h3];exact⟨w,e,m2,rfl,k⟩
     |no=>trivial
   |_=>trivial
def Inv.drop{m:Me}{de:aJ}{lv:List Lv}{env:En}{A:Nat->List Nat}(I:Inv lo RR m de lv env A)(i:Nat)(hi:i<de.length):Inv lo RR m (de.set i none) (lv.set i .full) env A:=by
 refine⟨by simp[I.len],by simp[I.lvl],I.rr,I.lom,λk d l h1 h2=>?_,I.nd,I.dj,I.bd⟩;by_cases e:i=k
 .subst e;rw[QI,Ka rfl]at h1;split at h1
  .cases h1
  .cases h1
 .rw[QA e]at h1 h2;exact I.slot k d l h1 h2
set_option tactic.hygienic true in
set_option tactic.hygienic true in
def DI (H:bC lev cl cd)(I:Inv lo RR m de lv env A)(i j k:Nat)(e:Ex):aE lo RR A m (aX cl (.unp3 i j k e) env m) (aC lev cd (.unp3 i j k e) de lv):=by
 show aE _ _ _ _ ((ah cl e env m).bindS env λw m1=>match cW i j k w m1 env with
  |some e1=>.next e1 m1
  |none=>.no) ((aq cd e de).bindS λd=>match xo d with
  |some [a,b,c]=>.next (((de.set i (some a)).set j (some b)).set k (some c)) ((((yN e de lv).set i (aN a)).set j (aN b)).set k (aN c))
  |_=>.no)
 cases z:aq cd e de with
 |no=>trivial
 |exc c d=>
  have:=I.bindE H.r e (f:=λw m1=>match cW i j k w m1 env with
   |some e1=>.next e1 m1
   |none=>.no) (g:=λd=>.no) (λ_ _ _ _ _ _ _=>trivial)
  rw[z]at this;exact this
 |ok d=>
  show aE _ _ _ _ _ (match xo d with
   |some [a,b,c]=>.next (((de.set i (some a)).set j (some b)).set k (some c)) ((((yN e de lv).set i (aN a)).set j (aN b)).set k (aN c))
   |_=>.no)
  split
  .next a b c hs=>
   obtain⟨A1,I1,K1,_,h⟩:=I.relEv H e;rw[z]at h;obtain⟨w,m1,h2,l1,r1⟩:=h.sim;rw[h2];have r:ai (yO RR A1) m1 d w:=by
    refine ai.frame (λx o r z=>⟨?_,z⟩) _ _ r1;rcases r with r|r
    .exact r
    .exact ⟨I.rr x (QD I.lom r),λk hk=>by have:=(I1.bd k x hk).2;lia⟩
   obtain⟨xs,hq,rl⟩:=wN r hs;obtain⟨x,r2,rfl,ra,rb⟩:=rl.cons_inv;obtain⟨y,r3,rfl,rb1,rc⟩:=rb.cons_inv;obtain⟨u,r4,rfl,rc1,rn⟩:=rc.cons_inv;cases rn.nil_inv;obtain⟨I2,K2⟩:=(I1.ext l1).bindSlot i ra;obtain⟨I3,K3⟩:=I2.bindSlot j (K2.rep rb1);obtain⟨I4,K4⟩:=I3.bindSlot k (K3.rep (K2.rep rc1));refine aE.keep (((K1.trans (wQ l1)).trans K2).trans (K3.trans K4)) ?_;show aE _ _ _ _ (match cW i j k w m1 env with
    |some e1=>.next e1 m1
    |none=>.no) _
   unfold cW;rw[hq];exact⟨_,_,_,rfl,I4,aU.refl _ _⟩
  .trivial
set_option tactic.hygienic true in
def Bu (H:bC lev cl cd)(I:Inv lo RR m de lv env A)(e:Ex):aE lo RR A m (aX cl (.ret e) env m) (aC lev cd (.ret e) de lv):=by
 show aE _ _ _ _ ((ah cl e env m).bindS env _) ((aq cd e de).bindS _);cases z:aq cd e de with
 |no=>trivial
 |exc c d=>
  have:=I.bindE H.r e (f:=λw m1=>.ret w m1) (g:=λd=>.no) (λ_ _ _ _ _ _ _=>trivial);rw[z]at this;exact this
 |ok d=>
  obtain⟨w,m1,h2,l1,r1⟩:=I.ok H.r z (Le.refl m);rw[h2];show aE lo RR A m (.ret w m1) (.ret d (cU lev e d lv));have kp:(∀(x:Nat) o,(∀i,x∉A i)->m[x]?=some o->m1[x]?=some o)/\m.length<=m1.length:=⟨λx o _ b=>l1 x o b,l1.len⟩;have no:bK (λx=>RR x/\x∉([]:List Nat)) m1 .no d w []:=⟨ai.frame (λx o r z=>⟨⟨r,by simp⟩,z⟩) _ _ r1,rfl⟩;by_cases f:ax d=true
  .refine ⟨w,m1,[],rfl,kp,?_,QP,by simp⟩;unfold cU;rw[Ka f];exact r1.flat d w f
  .unfold cU;rw[Kb f];split
   .next i=>
    have hdi:de[i]?=some (some d):=by
     exact sL z
    obtain⟨l,hl⟩:=I.getlv hdi;obtain⟨w',he,ro⟩:=I.slot i d l hdi hl;rw[vI he m]at h2;cases h2;rw[hl];refine⟨_,_,A i,rfl,kp,?_,I.nd i,λb hb=>(I.bd i b hb).1⟩;exact ro.frame (λx o r z=>⟨⟨r.1,r.2 i⟩,z⟩) (λ_ _ _ z=>z)
   .next a b=>
    split
    .next c=>
     obtain⟨hab,ha,hb⟩:=c;have:∃da db,de[a]?=some (some da)/\de[b]?=some (some db)/\d=.tup [da,db]:=by
      have hz:aq cd (.tup (.pair (.var a) (.pair (.var b) .unit))) de=((aq cd (.var a) de).bind λx=>((aq cd (.var b) de).bind λy=>.ok (.tup [y])).bind λy=>.ok (.tup (x::zP y))).bind λx=>if(zP x).length<=av then .ok (.tup (zP x))else .no:=rfl;rw[hz]at z;cases q1:de[a]? with
      |none=>rw[xc (.inl q1)]at z;cases z
      |some o=>cases o with
       |none=>rw[xc (.inr q1)]at z;cases z
       |some da=>
        rw[xy q1]at z;cases q2:de[b]? with
        |none=>rw[xc (.inl q2)]at z;cases z
        |some o=>cases o with
         |none=>rw[xc (.inr q2)]at z;cases z
         |some db=>
          rw[xy q2]at z;simp[Rd.bind,zP,av]at z;exact⟨da,db,rfl,rfl,z.symm⟩
     obtain⟨da,db,h3,h4,rfl⟩:=this;obtain⟨wa,ea,oa⟩:=I.slot a da .full h3 ha;obtain⟨wb,eb,ob⟩:=I.slot b db .full h4 hb;have hw:ah cl (.tup (.pair (.var a) (.pair (.var b) .unit))) env m=.ok (.tup [wa,wb]) m:=by
      show(((ah cl (.var a) env m).bind λx m1=>((ah cl (.var b) env m1).bind λy m2=>.ok (.tup [y]) m2).bind λy m2=>.ok (.tup (x::zt y)) m2).bind λx m1=>if(zt x).length<=av then .ok (.tup (zt x)) m1 else .no)=_;rw[vI ea m];simp only[Rz.bind];rw[vI eb m];simp[zt,av]
     rw[hw]at h2;cases h2;refine⟨_,_,A a++(A b++[]),rfl,kp,bx.mpr ⟨_,rfl,.cons oa (.cons ob .nil)⟩,?_,?_⟩
     .rw[QV];exact QF.mpr ⟨I.nd a,I.nd b,λx hx y hy e=>hab (I.dj a b x hx (by rw[e];exact hy))⟩
     .intro x hx;rw[QV]at hx;rcases Qu.mp hx with q|q
      .exact (I.bd a x q).1
      .exact (I.bd b x q).1
    .exact ⟨w,m1,[],rfl,kp,no,QP,by simp⟩
   .obtain ⟨B,ro,nd,hB⟩:=I.own H z h2;exact⟨w,m1,B,rfl,kp,ro,nd,λb hb=>QD I.lom (hB b hb)⟩
set_option tactic.hygienic true in
theorem wD(H:bC lev cl cd):∀(s:Sm) (m:Me) (de:aJ) (lv:List Lv) (env:En) (A:Nat->List Nat),Inv lo RR m de lv env A->aE lo RR A m (aX cl s env m) (aC lev cd s de lv)
 |.skip,m,de,lv,env,A,I=>by show aE _ _ _ _ (.next env m) (.next de lv);exact⟨env,m,A,rfl,I,aU.refl A m⟩
 |.seq a b,m,de,lv,env,A,I=>by
  have h:=wD H a m de lv env A I;rw[sB];show aE _ _ _ _ (match aX cl a env m with
   |.next e1 m1=>aX cl b e1 m1
   |r=>r) _
  cases z:aC lev cd a de lv with
  |next d1 l1=>
   rw[z]at h;obtain⟨e1,m1,A1,h1,I1,K1⟩:=h;rw[h1];exact aE.keep K1 (wD H b m1 d1 l1 e1 A1 I1)
  |cont d1 l1=>
   rw[z]at h;obtain⟨e1,m1,A1,h1,I1,K1⟩:=h;rw[h1];exact⟨e1,m1,A1,rfl,I1,K1⟩
  |brk d1 l1=>
   rw[z]at h;obtain⟨e1,m1,A1,h1,I1,K1⟩:=h;rw[h1];exact⟨e1,m1,A1,rfl,I1,K1⟩
  |ret d l=>
   rw[z]at h;obtain⟨w,m1,B,h1,k⟩:=h;rw[h1];exact⟨w,m1,B,rfl,k⟩
  |exc c d=>
   rw[z]at h;obtain⟨w,e,m1,h1,k⟩:=h;rw[h1];exact⟨w,e,m1,rfl,k⟩
  |no=>trivial
 |.asg i e,m,de,lv,env,A,I=>By H I i e
 |.asgS o k e,m,de,lv,env,A,I=>by
  cases o with
  |var j=>exact DK H I j k e
  |idx a r=>
   cases a with
   |var j=>exact DJ H I j r k e
   |_=>exact trivial
  |_=>exact trivial
 |.ite c a b,m,de,lv,env,A,I=>by
  refine I.bindE H.r c λd w m1 _ _ l1 r1=>?_;cases d with
  |bl t=>
   rw[am.mp r1];cases t with
   |true=>exact wD H a m1 de lv env A (I.ext l1)
   |false=>exact wD H b m1 de lv env A (I.ext l1)
  |_=>trivial
 |.forv i it body,m,de,lv,env,A,I=>by
  refine sk H (λx w m de lv env A I r=>?_) I it;obtain⟨I1,K1⟩:=I.bindSlot i r;exact aE.keep K1 (wD H body _ _ _ _ _ I1)
 |.fort i j it body,m,de,lv,env,A,I=>by
  refine sk H (λx w m de lv env A I r=>?_) I it;split
  .next a b=>
   obtain⟨xs,rfl,r1⟩:=aj.mp r;obtain⟨x,r2,rfl,ra,rb⟩:=r1.cons_inv;obtain⟨y,r3,rfl,rb,rn⟩:=rb.cons_inv;rw[rn.nil_inv];obtain⟨I1,K1⟩:=I.bindSlot i ra;obtain⟨I2,K2⟩:=I1.bindSlot j (K1.rep rb);exact aE.keep (K1.trans K2) (wD H body _ _ _ _ _ I2)
  .trivial
 |.unp3 i j k e,m,de,lv,env,A,I=>DI H I i j k e
 |.while c body,m,de,lv,env,A,I=>by
  refine kj (λm de lv env A I=>?_) (λm de lv env A I=>wD H body m de lv env A I) _ m de lv env A I;have h:=zi H.r c RR m de env (I.envR _);cases z:aq cd c de with
  |no=>trivial
  |ok d=>rw[z]at h;obtain⟨w,m1,h1,l1,r1⟩:=h;exact⟨w,m1,h1,l1,I.rf r1⟩
  |exc k d=>rw[z]at h;obtain⟨w,m1,h1,l1,r1⟩:=h;exact⟨w,m1,h1,l1,I.rf r1⟩
 |.ret e,m,de,lv,env,A,I=>Bu H I e
 |.expr e,m,de,lv,env,A,I=>by
  have dflt:aE lo RR A m (aX cl (.expr e) env m) ((aq cd e de).bindS λ_=>.next de lv):=by
   exact I.bindE H.r e λd w m1 _ _ l1 _=>⟨env,m1,A,rfl,I.ext l1,aU.refl A m1⟩
  cases e with
  |meth n o a=>
   cases n with
   |append=>
    cases o with
    |var j=>
     cases a with
     |pair e u=>cases u with
      |unit=>exact DM H I j e
      |_=>exact trivial
     |_=>exact trivial
    |_=>exact trivial
   |reverse=>
    cases o with
    |var j=>
     cases a with
     |unit=>exact DL (cl:=cl) (cd:=cd) (lev:=lev) I j
     |_=>exact trivial
    |_=>exact trivial
  |_=>exact dflt
 |.never,m,de,lv,env,A,I=>by exact trivial
end
def gd{α β:Type}(f:α->β)(z:β)(xs:List α)(n i:Nat):(xs.map f++Qz n z)[i]?=if i<xs.length then(xs[i]?).map f else if i<xs.length+n then some z else none:=by
 rw[List.getElem?_append,Qv];split
 .rw[Ql]
 .rw[Va];by_cases h:i-xs.length<n
  .rw[Ka h,Ka (by lia)]
  .rw[Kb h,Kb (by lia)]
set_option tactic.hygienic true in
def E7 (fn:Fn)(h:ae R m ds ws):Inv m.length (Rf R m.length) m (xN fn ds) (xh fn ds) (yr fn ws) (λ_=>[]):=by
 have hl:=h.len;refine⟨?_,?_,λl hl=>.inr hl,Qo _,?_,λ_=>QP,(λ_ _ _ h=>by cases h),(λ_ _ h=>by cases h)⟩
 .simp[xN,yr,hl]
 .simp[xN,xh]
 .intro i d l h1 h2;unfold xN at h1;unfold xh at h2;rw[gd]at h1 h2;by_cases hi:i<ds.length
  .rw[Ka hi]at h1 h2;obtain⟨d',e1,e2⟩:=QO.mp h1;cases e2;rw[e1]at h2;cases h2;obtain⟨w,hw,r⟩:=h.get e1;refine⟨w,?_,?_⟩
   .unfold yr;rw[gd,Ka (by lia),hw];rfl
   .unfold aN;split
    .next f=>exact r.flat d w f
    .exact ⟨ai.frame (λx o r z=>⟨⟨.inl r,λ_ h=>by cases h⟩,z⟩) _ _ r,rfl⟩
  .rw[Kb hi]at h1;split at h1<;>cases h1
set_option tactic.hygienic true in
def Bt (H:bC lev cl cd)(k:Nat)(fn:Fn)(ds:List Dat)(ws:List Wd)(R:Nat->Prop)(m:Me)(h:ae R m ds ws):aH R m (wC lev k) (xH cl fn ws m) (zQ lev cd k fn ds):=by
 unfold xH zQ;rw[h.len];split
 .have s:=wD H fn.body m _ _ _ _ (E7 fn h);cases z:aC lev cd fn.body (xN fn ds) (xh fn ds)with
  |next d1 l1=>
   rw[z]at s;obtain⟨e1,m1,A1,h1,I1,K1⟩:=s;rw[h1];refine⟨.non,m1,[],rfl,λl o q=>(K1.1 l o (λ_ h=>by cases h) q).2,?_,QP,by simp⟩;unfold wC bK bg;simp[ax]
  |ret d l=>
   rw[z]at s;obtain⟨w,m1,B,h1,⟨kp,_⟩,ro,nd,hB⟩:=s;rw[h1];have le:Le m m1:=λl o q=>kp l o (λ_ h=>by cases h) q;show aH R m (wC lev k) (.ok w m1) (if ax d || jG l (lev k)then .ok d else .no);split
   .next c=>
    by_cases f:ax d=true
    .refine ⟨w,m1,[],rfl,le,?_,QP,by simp⟩;unfold wC;rw[Ka f];exact(ro.rep (R':=λ_=>True) (λ_ _=>trivial) (λ_ _=>trivial)).flat d w f
    .have g:jG l (lev k)=true:=by simpa [f]using c
     unfold aH wC;simp only[Kb f];cases e:lev k with
     |no=>
      refine⟨w,m1,[],rfl,le,⟨?_,rfl⟩,QP,by simp⟩;exact ro.rep (λx r=>⟨r.1,by simp⟩) (λb hb=>⟨.inr (hB b hb),by simp⟩)
     |top=>
      rw[e]at g;cases l with
      |top=>exact⟨w,m1,B,rfl,le,ro,nd,hB⟩
      |no=>cases g
      |full=>cases g
     |full=>
      rw[e]at g;cases l with
      |full=>exact⟨w,m1,B,rfl,le,ro,nd,hB⟩
      |no=>cases g
      |top=>cases g
   .trivial
  |exc c d=>
   rw[z]at s;obtain⟨w,e,m1,h1,⟨kp,_⟩,r⟩:=s;rw[h1];exact⟨w,m1,rfl,λl o q=>kp l o (λ_ h=>by cases h) q,r⟩
  |brk _ _=>trivial
  |cont _ _=>trivial
  |no=>trivial
 .trivial
theorem tH(lev:Nat->Lv)(T:List Fn):∀d:Nat,bC lev (yC T d) (js lev T d)
 |0=>λk ds ws R m h=>trivial
 |d+1=>λk ds ws R m h=>by
  unfold yC js;cases T[k]? with
  |none=>trivial
  |some fn=>exact Bt (tH lev T d) k fn ds ws R m h
def Bs(lev:Nat->Lv)(T:List Fn)(d i:Nat)(ns:List Int)(h:js lev T d i [.scr ns]=.ok (.bl true)):∃m,yC T d i [.rol (ns.map Wd.int)] []=.ok (.bl true) m:=by
 have s:=tH lev T d i [.scr ns] [.rol (ns.map Wd.int)] (λ_=>True) [] (.cons (ba.mpr rfl) .nil);rw[h]at s;obtain⟨w,m',h1,_,r⟩:=s.sim;rw[am.mp r]at h1;exact⟨m',h1⟩
section
variable(lev:Nat->Lv)(cl:Nat->List Dat->Rd)(de:aJ)(lv:List Lv)
@[simp]theorem aQ(d:Dat)(f:Dat->Rd):(Rd.ok d).bind f=f d:=rfl
@[simp]theorem bh(d:Dat)(f:Dat->bR):(Rd.ok d).bindS f=f d:=rfl
@[simp]theorem dR(d:Dat)(f:Dat->bR):(Rd.ok d).okS f=f d:=rfl
@[simp]theorem ze(i:Int):aq cl (.lit (.int i)) de=.ok (.int i):=rfl
@[simp]theorem HJ(i:Bool):aq cl (.lit (.bl i)) de=.ok (.bl i):=rfl
@[simp]theorem HB:aq cl (.lit .non) de=.ok .non:=rfl
@[simp]theorem HG(s:List Nat):aq cl (.lit (.str s)) de=.ok (.str s):=rfl
@[simp]theorem zR(op:Bo)(a b:Ex):aq cl (.bin op a b) de=(aq cl a de).bind λx=>(aq cl b de).bind λy=>zX op x y:=rfl
@[simp]theorem yP(op:Co)(a b:Ex):aq cl (.cmp op a b) de=(aq cl a de).bind λx=>(aq cl b de).bind λy=>xg op x y:=rfl
@[simp]theorem zo:aq cl .unit de=.ok (.tup []):=rfl
@[simp]theorem zp(a b:Ex):aq cl (.pair a b) de=(aq cl a de).bind λx=>(aq cl b de).bind λy=>.ok (.tup (x::zP y)):=rfl
@[simp]theorem zz(k:Nat)(a:Ex):aq cl (.call k a) de=(aq cl a de).bind λx=>cl k (zP x):=rfl
@[simp]theorem yh(b:dZ)(a:Ex):aq cl (.blt b a) de=(aq cl a de).bind λx=>yy b (zP x):=rfl
@[simp]theorem Au(t:Tg)(a:Ex):aq cl (.isi t a) de=(aq cl a de).bind λx=>.ok (.bl (fh t x)):=rfl
@[simp]theorem yk(a b:Ex):aq cl (.idx a b) de=(aq cl a de).bind λx=>(aq cl b de).bind λy=>yj x y:=rfl
@[simp]theorem yU(a:Ex):aq cl (.lst a) de=(aq cl a de).bind λx=>yf (zP x):=rfl
@[simp]theorem pP(a:Ex):aq cl (.tup a) de=(aq cl a de).bind λx=>if(zP x).length<=av then .ok (.tup (zP x))else .no:=rfl
@[simp]theorem wl(a b c:Ex):aq cl (.rng a b c) de=(aq cl a de).bind λx=>(aq cl b de).bind λy=>(aq cl c de).bind λz=>vE x y z:=rfl
@[simp]theorem zd(d:Dat)(r:aJ):aq cl (.var 0) (some d::r)=.ok d:=rfl
@[simp]theorem za(i:Nat)(d:Option Dat)(r:aJ):aq cl (.var (i+1)) (d::r)=aq cl (.var i) r:=rfl
@[simp]theorem g6(a:Ex):aq cl (.neg a) de=(aq cl a de).bind λx=>match x with
  |.int i=>.ok (.int (-i))
  |_=>.no:=rfl
@[simp]theorem jt(a:Ex):aq cl (.not a) de=(aq cl a de).bind λx=>match x with
  |.bl b=>.ok (.bl (! b))
  |_=>.no:=rfl
@[simp]theorem ms(a b:Ex):aq cl (.and a b) de=(aq cl a de).bind λx=>match x with
  |.bl true=>aq cl b de
  |.bl false=>.ok (.bl false)
  |_=>.no:=rfl
@[simp]theorem ii(a b:Ex):aq cl (.or a b) de=(aq cl a de).bind λx=>match x with
  |.bl false=>aq cl b de
  |.bl true=>.ok (.bl true)
  |_=>.no:=rfl
@[simp]theorem Hx(p q:Co)(a b c:Ex):aq cl (.chain p q a b c) de=(aq cl a de).bind λx=>(aq cl b de).bind λy=>(xg p x y).bind λz=>match z with
  |.bl true=>(aq cl c de).bind λu=>xg q y u
  |.bl false=>.ok (.bl false)
  |_=>.no:=rfl
@[simp]theorem si(a:Ex):aq cl (.lrng a) de=(aq cl a de).bind λx=>match x with
  |.int j=>if -av<=j/\j<=av then yf (yd 0 1 j.toNat)else .no
  |_=>.no:=rfl
def g7(elt it cond:Ex):aq cl (.comp elt it cond) de=(aq cl it de).bind λx=>match cE x with
  |some xs=>zZ (λx=>aq cl cond (de++[some x])) (λx=>aq cl elt (de++[some x])) xs []
  |none=>.no:=rfl
def tG(k:Kd)(elt a b cond:Ex):aq cl (.compP k elt a b cond) de=(aq cl a de).bind λx=>(aq cl b de).bind λy=>match xK k x y with
  |some ps=>zZ (λp=>aq cl cond (de++[some p.1]++[some p.2])) (λp=>aq cl elt (de++[some p.1]++[some p.2])) ps []
  |none=>.no:=rfl
@[simp]theorem G7(a b:Int):dm (.int a) (.int b)=decide (a=b):=rfl
@[simp]theorem G6(a b:List Dat):dm (.tup a) (.tup b)=bO a b:=rfl
@[simp]theorem g8(a b:List Dat):dm (.lst a) (.lst b)=bO a b:=rfl
@[simp]theorem Hw(k:Nat)(a:Int):yV (k+1) (.int a)=true:=rfl
@[simp]theorem Hv(k:Nat)(a:List Dat):yV (k+1) (.tup a)=bo k a:=rfl
@[simp]theorem wE(k:Nat)(a:List Dat):yV (k+1) (.lst a)=bo k a:=rfl
@[simp]theorem HI(k:Nat):bo k []=true:=rfl
@[simp]theorem HE(k:Nat)(d:Dat)(a:List Dat):bo k (d::a)=(yV k d&&bo k a):=rfl
theorem y9(k:Nat):∀(a:List Dat),bo k a=a.all (yV k)
 |[]=>by simp
 |d::a=>by simp[y9 k a]
@[simp]theorem tq:yL=11+1:=rfl
@[simp]theorem oI(i j:Int):xg .lt (.int i) (.int j)=.ok (.bl (decide (i<j))):=rfl
@[simp]theorem t5(i j:Int):xg .le (.int i) (.int j)=.ok (.bl (decide (i<=j))):=rfl
@[simp]theorem ky(i j:Int):xg .eq (.int i) (.int j)=.ok (.bl (decide (i=j))):=rfl
@[simp]theorem lK(i j:Int):xg .ne (.int i) (.int j)=.ok (.bl (! decide (i=j))):=rfl
@[simp]theorem xi(i j:Int):zX .add (.int i) (.int j)=.ok (.int (i+j)):=rfl
@[simp]theorem vd(i j:Int):zX .sub (.int i) (.int j)=.ok (.int (i-j)):=rfl
def wS(i j:Int)(h:small i=true):zX .mul (.int i) (.int j)=.ok (.int (i*j)):=by simp[zX,h]
def Ch(i j:Int)(h:small j=true):zX .mul (.int i) (.int j)=.ok (.int (i*j)):=by simp[zX,h]
def vJ(i j:Int)(h:0<j)(k:j<1073741824):zX .fdiv (.int i) (.int j)=.ok (.int (i/j)):=by simp[zX,h,k]
def xO(i j:Int)(h:0<j):zX .mod (.int i) (.int j)=.ok (.int (i%j)):=by simp[zX,h]
def pO(i j:Int)(h:0<=j/\j<=1000000/\small i=true):zX .pow (.int i) (.int j)=.ok (.int (i^j.toNat)):=by simp only[zX];rw[Ka h]
def ju (h:-18446744073709551616<i)(k:i<18446744073709551616):small i=true:=by unfold small cq;simp[h,k]
@[simp]theorem zh(xs:List Dat):zP (.tup xs)=xs:=rfl
@[simp]theorem GL(xs:List Dat):yy .len [.lst xs]=.ok (.int xs.length):=rfl
@[simp]theorem GK(xs:List Dat):yy .len [.tup xs]=.ok (.int xs.length):=rfl
@[simp]theorem GJ(ns:List Int):yy .len [.scr ns]=.ok (.int ns.length):=by simp[yy,xo]
@[simp]theorem G5(b:Bool):yy .int [.bl b]=.ok (.int (b2i b)):=rfl
def xa (h:xs.length<=av):yf xs=.ok (.lst xs):=by unfold yf;rw[Ka h]
def g9 (h:i<n):ix n (i:Int)=some i:=by unfold ix;rw[Ka (by lia),Ka (by lia)];simp
def Cg (h:0<n):ix n (-1)=some (n-1):=by unfold ix;rw[Kb (by lia),Ka (by lia)];congr 1;lia
def yK {i:Nat}(h:xs[i]?=some d):yj (.lst xs) (.int (i:Int))=.ok d:=by
 have:=(Qa.mp h).1;simp[yj,xo,g9 this,h]
def kn (h:xs[xs.length-1]?=some d):yj (.lst xs) (.int (-1))=.ok d:=by
 have:=(Qa.mp h).1;simp[yj,xo,Cg (show 0<xs.length by lia),h]
def wF {a b:Int}(h:-av<=a/\a<=av/\-av<=b/\b<=av/\(c=1\/c=-1\/c=-2)):vE (.int a) (.int b) (.int c)=.ok (.tup (yd a c (wV a b c))):=by
 simp only[vE];rw[Ka h]
@[simp]theorem xA(a c:Int)(n:Nat):(yd a c n).length=n:=by simp[yd]
def xB(a c:Int)(n i:Nat)(h:i<n):(yd a c n)[i]?=some (.int (a+c*(i:Int))):=by
 simp[yd,h]
@[simp]theorem xu(a c:Int):∀(n:Nat),aW (yd a c n)=true:=by
 intro n;unfold yd;generalize Qr n=l
 induction l with
 |nil=>rfl
 |cons x l ih=>simp[aW,ax,ih]
@[simp]theorem xZ(xs:List Dat):ax (.tup xs)=aW xs:=by rw[ax]
@[simp]theorem jv(xs:List Dat):ax (.lst xs)=false:=by rw[ax]
@[simp]theorem Hu(i:Int):ax (.int i)=true:=by rw[ax]
@[simp]theorem GI(i:Bool):ax (.bl i)=true:=by rw[ax]
@[simp]theorem GZ:ax .non=true:=by rw[ax]
@[simp]theorem GY(s:List Nat):ax (.str s)=true:=by rw[ax]
@[simp]theorem GX(s:List Int):ax (.scr s)=true:=by rw[ax]
@[simp]theorem HH:aW []=true:=by rw[aW]
@[simp]theorem HD(d:Dat)(ds:List Dat):aW (d::ds)=(ax d&&aW ds):=by rw[aW]
@[simp]theorem HC(l:List Int):aW (l.map Dat.int)=true:=by
 induction l with
 |nil=>rfl
 |cons x l ih=>simp[ih]
@[simp]theorem xC(xs:List Dat):cE (.tup xs)=some xs:=rfl
@[simp]theorem G4(xs:List Int):cE (.scr xs)=some (xs.map .int):=rfl
def jw (h:xs.length<=av):cE (.lst xs)=some xs:=by simp[cE,h]
@[simp]theorem wm:aC lev cl .skip de lv=.next de lv:=rfl
@[simp]theorem yz(e:Ex):aC lev cl (.ret e) de lv=(aq cl e de).bindS λd=>.ret d (cU lev e d lv):=rfl
@[simp]theorem zK(i:Nat)(e:Ex):aC lev cl (.asg i e) de lv=(aq cl e de).bindS λd=>vG lev i e d de lv:=rfl
@[simp]theorem wG(c:Ex)(a b:Sm):aC lev cl (.ite c a b) de lv=(aq cl c de).bindS λx=>match x with
  |.bl true=>aC lev cl a de lv
  |.bl false=>aC lev cl b de lv
  |_=>.no:=rfl
def yF {lev:Nat->Lv}{de:aJ}{lv:List Lv}(h:ax d=true):vG lev i e d de lv=.next (de.set i (some d)) (lv.set i .full):=by
 unfold vG;rw[Ka (yE lev e d h)]
def yb {lev:Nat->Lv}{de:aJ}{lv:List Lv}(h:aR lev e d=.full):vG lev i e d de lv=.next (de.set i (some d)) (lv.set i .full):=by
 unfold vG;rw[Ka h]
def yc {body:α->aJ->List Lv->bR}(P:Nat->aJ->List Lv->Prop)(xs:List α){de:aJ}{lv:List Lv}(h0:P 0 de lv)(hs:∀(i:Nat) x de lv,xs[i]?=some x->P i de lv->∃de' lv',body x de lv=.next de' lv'/\P (i+1) de' lv'):∃de' lv',yx body xs de lv=.next de' lv'/\P xs.length de' lv':=by
 induction xs generalizing P de lv with
 |nil=>exact⟨de,lv,rfl,h0⟩
 |cons x xs ih=>
  obtain⟨d1,l1,e1,p1⟩:=hs 0 x de lv rfl h0;unfold yx;rw[e1];exact ih (λi=>P (i+1)) p1 (λi y de lv hy hp=>hs (i+1) y de lv (by simpa using hy) hp)
end
namespace Lib
end Lib
section
variable(lev:Nat->Lv)(cl:Nat->List Dat->Rd)(de:aJ)(lv:List Lv)
@[simp]theorem xp(j:Nat)(e:Ex):aC lev cl (.expr (.meth .append (.var j) (.pair e .unit))) de lv=(aq cl e de).okS λd=>match xz de j with
   |some ds=>if ds.length<av then match yQ lev e d j de lv with
    |some (de1,lv1)=>.next (de1.set j (some (.lst (ds++[d])))) lv1
    |none=>.no
    else .no
   |none=>.no:=rfl
@[simp]theorem tm(j:Nat):aC lev cl (.expr (.meth .reverse (.var j) .unit)) de lv=match xz de j with
   |some ds=>if zV lv j then .next (de.set j (some (.lst ds.reverse))) lv else .no
   |none=>.no:=rfl
def xj(i:Nat)(it:Ex)(body:Sm):aC lev cl (.forv i it body) de lv=(aq cl it de).bindS λd=>match cE d with
  |some xs=>yx (λx de lv=>aC lev cl body (de.set i (some x)) (lv.set i (aN x))) xs de (if ax d then lv else yN it de lv)
  |none=>.no:=rfl
def Cf(i j:Nat)(it:Ex)(body:Sm):aC lev cl (.fort i j it body) de lv=(aq cl it de).bindS λd=>match cE d with
  |some xs=>yx (λx de lv=>match x with
    |.tup [a,b]=>aC lev cl body ((de.set i (some a)).set j (some b)) ((lv.set i (aN a)).set j (aN b))
    |_=>.no) xs de (if ax d then lv else yN it de lv)
  |none=>.no:=rfl
noncomputable def bR.then(r:bR)(f:aJ->List Lv->bR):bR:=match r with
 |.next d l=>f d l
 |r=>r
@[simp]theorem zj(d:aJ)(l:List Lv)(f:aJ->List Lv->bR):(bR.next d l).then f=f d l:=rfl
@[simp]theorem DH(d:Dat)(l:Lv)(f:aJ->List Lv->bR):(bR.ret d l).then f=.ret d l:=rfl
def zD (h:yg a b=none):aC lev cl (.seq a b) de lv=(aC lev cl a de lv).then (aC lev cl b):=by
 rw[sB];cases aC lev cl a de lv<;>rfl
def DG(a:Sm)(c d:Sm):yg a (.seq c d)=none:=rfl
@[simp]theorem zO(a:Sm)(c d:Sm):aC lev cl (.seq a (.seq c d)) de lv=(aC lev cl a de lv).then (aC lev cl (.seq c d)):=zD lev cl de lv (DG a c d)
def DF(a:Sm)(e:Ex):yg a (.ret e)=none:=rfl
@[simp]theorem xP(a:Sm)(e:Ex):aC lev cl (.seq a (.ret e)) de lv=(aC lev cl a de lv).then (aC lev cl (.ret e)):=zD lev cl de lv (DF a e)
def DE(a:Sm)(c:Ex)(x y:Sm):yg a (.ite c x y)=none:=rfl
@[simp]theorem G0(a:Sm)(c:Ex)(x y:Sm):aC lev cl (.seq a (.ite c x y)) de lv=(aC lev cl a de lv).then (aC lev cl (.ite c x y)):=zD lev cl de lv (DE a c x y)
def E6(a:Sm)(i:Nat)(e:Ex)(x:Sm):yg a (.forv i e x)=none:=rfl
@[simp]theorem GH(a:Sm)(i:Nat)(e:Ex)(x:Sm):aC lev cl (.seq a (.forv i e x)) de lv=(aC lev cl a de lv).then (aC lev cl (.forv i e x)):=zD lev cl de lv (E6 a i e x)
def E5(a:Sm)(i j:Nat)(e:Ex)(x:Sm):yg a (.fort i j e x)=none:=rfl
@[simp]theorem Hn(a:Sm)(i j:Nat)(e:Ex)(x:Sm):aC lev cl (.seq a (.fort i j e x)) de lv=(aC lev cl a de lv).then (aC lev cl (.fort i j e x)):=zD lev cl de lv (E5 a i j e x)
def F1(a:Sm)(e:Ex)(x:Sm):yg a (.while e x)=none:=rfl
@[simp]theorem GW(a:Sm)(e:Ex)(x:Sm):aC lev cl (.seq a (.while e x)) de lv=(aC lev cl a de lv).then (aC lev cl (.while e x)):=zD lev cl de lv (F1 a e x)
def DD(a:Sm)(i:Nat)(e:Ex):yg a (.asg i e)=none:=rfl
@[simp]theorem pN(a:Sm)(i:Nat)(e:Ex):aC lev cl (.seq a (.asg i e)) de lv=(aC lev cl a de lv).then (aC lev cl (.asg i e)):=zD lev cl de lv (DD a i e)
def EZ(a:Sm)(o i e:Ex):yg a (.asgS o i e)=none:=rfl
@[simp]theorem Hm(a:Sm)(o i e:Ex):aC lev cl (.seq a (.asgS o i e)) de lv=(aC lev cl a de lv).then (aC lev cl (.asgS o i e)):=zD lev cl de lv (EZ a o i e)
def EY(a:Sm)(e:Ex):yg a (.expr e)=none:=rfl
@[simp]theorem kH(a:Sm)(e:Ex):aC lev cl (.seq a (.expr e)) de lv=(aC lev cl a de lv).then (aC lev cl (.expr e)):=zD lev cl de lv (EY a e)
def EX(a:Sm): yg a .skip=none:=rfl
@[simp]theorem Hl(a:Sm): aC lev cl (.seq a .skip) de lv=(aC lev cl a de lv).then (aC lev cl .skip):=zD lev cl de lv (EX a)
def F0(a:Sm): yg a .never=none:=rfl
@[simp]theorem GV(a:Sm): aC lev cl (.seq a .never) de lv=(aC lev cl a de lv).then (aC lev cl .never):=zD lev cl de lv (F0 a)
end
namespace Lib
section
noncomputable def row(r:List Int):Dat:=.lst (r.map .int)
noncomputable def af(R:List (List Int)):Dat:=.lst (R.map row)
noncomputable def kz(t:Int)(b:Bool):Bool:=if b then ! decide (t=1)else !(decide (t=0) || decide (t=1))
end
end Lib
namespace Lib
section
noncomputable def S(R:List (List Int))(r c:Nat):Int:=((R.take r).map (λx=>x.getD c 0)).sum
noncomputable def ac(R:List (List Int))(r c:Nat):Int:=((R.getD r []).take c).sum
noncomputable def i6(R:List (List Int))(r c:Nat):Bool:=kz (ac R r (c+1)) (decide ((c:Int)=(R.length:Int)-1)) || kz (S R (r+1) c) (decide ((r:Int)=(R.length:Int)-1))
noncomputable def Sq(R:List (List Int)):Prop:=∀r∈R,r.length=R.length
def qc {r:Nat}(h:R[r]?=some x):yj (af R) (.int (r:Int))=.ok (row x):=yK (by simp[h])
def vK {c:Nat}(h:x[c]?=some v):yj (row x) (.int (c:Int))=.ok (.int v):=yK (by simp[h])
def mq(R:List (List Int))(r c:Nat)(x:List Int)(h:R[r]?=some x):S R (r+1) c=S R r c+x.getD c 0:=by
 unfold S;rw[QY,h];simp
end
end Lib
namespace Lib
section
variable{lev:Nat->Lv}{cl:Nat->List Dat->Rd}{k:Nat}
noncomputable def vL:Fn:=⟨1,1,(.seq (.ite (.cmp .eq (.bin .mod (.var 0) (.lit (.int 8))) (.lit (.int 5))) (.ret (.bin .add (.lit (.int 1)) (.bin .mod (.bin .fdiv (.var 0) (.lit (.int 8))) (.lit (.int 12))))) .skip) (.ret (.bin .add (.lit (.int 1)) (.bin .mod (.bin .fdiv (.var 0) (.lit (.int 8))) (.lit (.int 6))))))⟩
def FZ(c:Int):∃n:Nat,1<=n/\n<=12/\zQ lev cl k vL [.int c]=.ok (.int n):=by
 have e1:zX .mod (.int c) (.int 8)=.ok (.int (c%8)):=xO _ _ (by decide);have e2:zX .fdiv (.int c) (.int 8)=.ok (.int (c/8)):=vJ _ _ (by decide) (by decide);have e3:∀x:Int,zX .mod (.int x) (.int 12)=.ok (.int (x%12)):=λx=>xO _ _ (by decide);have e4:∀x:Int,zX .mod (.int x) (.int 6)=.ok (.int (x%6)):=λx=>xO _ _ (by decide);by_cases h:c%8=5
 .refine ⟨(1+c/8%12).toNat,by lia,by lia,?_⟩;have:(((1+c/8%12).toNat:Nat):Int)=1+c/8%12:=by lia
  simp[zQ,vL,xN,xh,zS,cU,e1,e2,e3,e4,h,this]
 .refine ⟨(1+c/8%6).toNat,by lia,by lia,?_⟩;have:(((1+c/8%6).toNat:Nat):Int)=1+c/8%6:=by lia
  simp[zQ,vL,xN,xh,zS,cU,e1,e2,e3,e4,h,this]
noncomputable def dr(x:List Int):Prop:=∀i,i+1<x.length->x.getD i 0<x.getD (i+1) 0
noncomputable def fX(cq sm:List Int):Prop:=cq.length=sm.length+1/\∀i,i<sm.length->cq.getD i 0<=sm.getD i 0/\sm.getD i 0<=cq.getD (i+1) 0
def vM {x:List Int}(h:x[i]?=some v):x.getD i 0=v:=by rw[Qh,h];rfl
def ve {x:List Int}(h:i<x.length):x[i]?=some (x.getD i 0):=by
 rw[Qh,Qq h];rfl
end
end Lib
namespace Lib
section
def xF {v:Int}(h:i<x.length):(x++[v]).getD i 0=x.getD i 0:=by
 simp[Qh,Qi h]
def kA {v:Int}:(x++[v]).getD x.length 0=v:=by
 simp[Qh]
def qd {v:List Int}(h:i<x.length):(x++[v]).getD i []=x.getD i []:=by
 simp[Qh,Qi h]
def xq {v:List Int}:(x++[v]).getD x.length []=v:=by
 simp[Qh]
def dr.app{x:List Int}{v:Int}(h:dr x)(hv:0<x.length->x.getD (x.length-1) 0<v):dr (x++[v]):=by
 intro i hi;simp only[QC,WM,List.length_nil]at hi;by_cases z:i+1<x.length
 .rw[xF (by lia),xF z];exact h i z
 .have e:i+1=x.length:=by lia
  rw[xF (by lia),e,kA];have:=hv (by lia)
  rwa[show x.length-1=i by lia]at this
noncomputable def zY(n:Nat):List Int:=(Qr n).map λ(i:Nat)=>(i:Int)
def jx(n:Nat):Dat.lst (yd 0 1 n)=row (zY n):=by
 unfold row zY yd;rw[Wn];congr 1;apply Q4;intro i _;simp
structure cZ(n:Nat)(L:List (List Int)):Prop where
 first:L.getD 0 []=zY n
 len:∀j,j<L.length->(L.getD j []).length+j=n
 inc:∀j,j<L.length->dr (L.getD j [])
 bd:∀j,j<L.length->∀i,i<(L.getD j []).length->0<=(L.getD j []).getD i 0/\(L.getD j []).getD i 0<n
 lace:∀j,j+1<L.length->fX (L.getD j []) (L.getD (j+1) [])
def vf (h:i<n):(zY n).getD i 0=i:=vM (by simp[zY,h])
def cZ.one(n:Nat):cZ n [zY n]:=by
 refine⟨rfl,?_,?_,?_,?_⟩
 .intro j hj;simp at hj;subst hj;simp[zY]
 .intro j hj i hi;simp at hj;subst hj;simp only[VJ]at hi ⊢;have:i+1<n:=by simpa [zY]using hi
  rw[vf (by lia),vf this];lia
 .intro j hj i hi;simp at hj;subst hj;simp only[VJ]at hi ⊢;have:i<n:=by simpa [zY]using hi
  rw[vf this];lia
 .intro j hj;simp at hj
def cZ.app{n:Nat}{L:List (List Int)}{x:List Int}(h:cZ n L)(hL:0<L.length)(hi:dr x)(hl:fX (L.getD (L.length-1) []) x):cZ n (L++[x]):=by
 have e:=h.len (L.length-1) (by lia);have lt:∀{j},j<L.length->(L++[x]).getD j []=L.getD j []:=λhj=>qd hj;refine⟨by rw[lt hL];exact h.first,?_,?_,?_,?_⟩
 .intro j hj;by_cases z:j<L.length
  .rw[lt z];exact h.len j z
  .have:j=L.length:=by simp at hj;lia
   subst this;rw[xq];have:=hl.1;lia
 .intro j hj;by_cases z:j<L.length
  .rw[lt z];exact h.inc j z
  .have:j=L.length:=by simp at hj;lia
   subst this;rw[xq];exact hi
 .intro j hj i hi';by_cases z:j<L.length
  .rw[lt z]at hi' ⊢;exact h.bd j z i hi'
  .have:j=L.length:=by simp at hj;lia
   subst this;rw[xq]at hi' ⊢;have h1:=hl.2 i hi';have h2:=h.bd (L.length-1) (by lia) i (by have:=hl.1;lia);have h3:=h.bd (L.length-1) (by lia) (i+1) (by have:=hl.1;lia);lia
 .intro j hj;simp only[QC,WM,List.length_nil]at hj;by_cases z:j+1<L.length
  .rw[lt (by lia),lt z];exact h.lace j z
  .have e2:j+1=L.length:=by lia
   rw[lt (by lia),e2,xq]
   rwa[show L.length-1=j by lia]at hl
end
end Lib
namespace Lib
section
theorem x5 {c e:β->Rd}{α:Type}(f:α->β)(g:α->Dat):∀(xs:List α) (acc:List Dat),(∀x∈xs,c (f x)=.ok (.bl true))->(∀x∈xs,e (f x)=.ok (g x))->acc.length+xs.length<=av->zZ c e (xs.map f) acc=.ok (.lst (acc++xs.map g))
 |[],acc,_,_,h=>by unfold zZ;rw[Ud];simp only;rw[xa (by simpa using h)];simp
 |x::xs,acc,hc,he,h=>by
  rw[Wm];unfold zZ;simp only[WM]at h;rw[hc x (by simp)];simp only[aQ];rw[he x (by simp)];simp only[aQ];rw[Ka (by lia),x5 f g xs (acc++[g x]) (λy hy=>hc y (by simp[hy])) (λy hy=>he y (by simp[hy])) (by simp;lia)];simp
def tF (a s:Int)(n:Nat)(g:Nat->Dat)(hc:∀i,i<n->c (.int (a+s*(i:Int)))=.ok (.bl true))(he:∀i,i<n->e (.int (a+s*(i:Int)))=.ok (g i))(h:n<=av):zZ c e (yd a s n) []=.ok (.lst ((Qr n).map g)):=by
 unfold yd;rw[x5 (λ(i:Nat)=>Dat.int (a+s*(i:Int))) g (Qr n) [] (λi hi=>hc i (by simpa using hi)) (λi hi=>he i (by simpa using hi)) (by simpa using h)];simp
noncomputable def mem(x:List Int)(c:Int):Bool:=x.any (λv=>decide (v=c))
def DC(x:List Int)(c:Int):xg .isin (.int c) (row x)=.ok (.bl (mem x c)):=by
 have h:bo yL (x.map Dat.int)=true:=by
  rw[y9];simp
 have h2:(x.map Dat.int).any (λy=>dm y (.int c))=mem x c:=by
  simp only[mem,List.any_map];congr 1
 simp only[xg,row,xo,iR];rw[h,h2];simp[fD]
noncomputable def xd(n:Nat)(x y:List Int):List Int:=(Qr n).map λ(c:Nat)=>b2i (mem x c)-b2i (mem y c)
noncomputable def zG(X:List (List Int))(i:Nat):List Int:=if i=0 then[]else X.getD (i-1) []
noncomputable def sg(X:List (List Int)):List (List Int):=(Qr X.length).map λi=>xd X.length (X.getD i []) (zG X i)
end
end Lib
namespace Lib
structure fQ(n:Nat)(X:List (List Int)):Prop where
 len:X.length=n
 rlen:∀j,j<n->(X.getD j []).length=j+1
 inc:∀j,j<n->dr (X.getD j [])
 bd:∀j,j<n->∀i,i<j+1->0<=(X.getD j []).getD i 0/\(X.getD j []).getD i 0<n
 lace:∀j,j+1<n->fX (X.getD (j+1) []) (X.getD j [])
 last:X.getD (n-1) []=zY n
def fQ.of{n:Nat}{L:List (List Int)}(hn:1<=n)(h:cZ n L)(hl:L.length=n):fQ n L.reverse:=by
 have g:∀j,j<n->L.reverse.getD j []=L.getD (n-1-j) []:=by
  intro j hj;rw[Qh,Qh,WV (by lia),hl]
 refine⟨by simp[hl],λj hj=>?_,λj hj=>?_,λj hj i hi=>?_,λj hj=>?_,?_⟩
 .rw[g j hj];have:=h.len (n-1-j) (by lia);lia
 .rw[g j hj];exact h.inc _ (by lia)
 .rw[g j hj];have:=h.len (n-1-j) (by lia);exact h.bd _ (by lia) i (by lia)
 .rw[g (j+1) hj,g j (by lia)];have:=h.lace (n-1-(j+1)) (by lia)
  rwa[show n-1-(j+1)+1=n-1-j by lia]at this
 .rw[g (n-1) (by lia),show n-1-(n-1)=0 by lia];exact h.first
def dr.lt (h:dr x):∀{i j:Nat},i<j->j<x.length->x.getD i 0<x.getD j 0:=by
 intro i j hij
 induction j with
 |zero=>lia
 |succ j ih=>
  intro hj;have h1:=h j hj;by_cases z:i=j
  .subst z;exact h1
  .have:=ih (by lia) (by lia);lia
def dr.nodup (h:dr x):x.Nodup:=by
 rw[VA,Wj];intro i j hi hj hij e;have:=h.lt hij hj;rw[vM (Qq hi),vM (Qq hj)]at this;lia
def Ce {x:List Int}(h:v∈x):∃i,i<x.length/\x.getD i 0=v:=by
 obtain⟨i,hi,e⟩:=List.getElem_of_mem h;exact⟨i,hi,vM (by rw[Qq hi,e])⟩
noncomputable def cnt(x:List Int)(c:Nat):Int:=((Qr c).map λ(j:Nat)=>b2i (mem x j)).sum
noncomputable def low(x:List Int)(c:Nat):Int:=(x.map λ(v:Int)=>b2i (decide (v<(c:Int)))).sum
def jy(x:List Int)(c:Nat):cnt x (c+1)=cnt x c+b2i (mem x c):=by
 simp[cnt,Vm]
def DB(x:List Int)(nd:x.Nodup)(c:Nat):low x (c+1)=low x c+b2i (mem x c):=by
 induction x with
 |nil=>simp[low,mem,b2i]
 |cons v x ih=>
  obtain⟨hv,nd⟩:=QS.mp nd;have ih:=ih nd;have e1:low (v::x) (c+1)=b2i (decide (v<(c+1:Nat)))+low x (c+1):=by simp[low]
  have e2:low (v::x) c=b2i (decide (v<c))+low x c:=by simp[low]
  have e3:mem (v::x) c=(decide (v=c) || mem x c):=by simp[mem]
  rw[e1,e2,e3,ih];by_cases h:v=c
  .have:mem x c=false:=by
    rw[mem,VO];intro w hw;simp only[Kh];intro e;exact hv (by rw[h,<-e];exact hw)
   rw[this];simp[h,b2i];lia
  .have:decide (v<(c+1:Nat))=decide (v<c):=by
    by_cases q:v<c
    .simp[q];lia
    .simp[q];lia
   rw[this];simp[h];lia
def DX (h:∀v∈x,0<=v):low x 0=0:=by
 induction x with
 |nil=>rfl
 |cons v x ih=>
  have e:low (v::x) 0=b2i (decide (v<(0:Nat)))+low x 0:=by simp[low]
  rw[e,ih (λw hw=>h w (by simp[hw]))];have:=h v (by simp);have:¬v<((0:Nat):Int):=by simp;lia
  rw[J9 this];rfl
theorem kI (nd:x.Nodup)(h:∀v∈x,0<=v):∀c,cnt x c=low x c
 |0=>by rw[DX h];rfl
 |c+1=>by rw[jy,DB x nd,kI nd h c]
def jz{x:List Int}{n:Nat}(h:∀v∈x,v<n):low x n=x.length:=by
 induction x with
 |nil=>rfl
 |cons v x ih=>
  have e:low (v::x) n=b2i (decide (v<n))+low x n:=by simp[low]
  rw[e,ih (λw hw=>h w (by simp[hw])),Kf (h v (by simp))];simp[b2i];lia
theorem mm:∀(sm cq:List Int),sm.length<=cq.length->(∀i,i<sm.length->cq.getD i 0<=sm.getD i 0)->low sm c<=low cq c
 |[],cq,_,_=>by
  have:∀x:List Int,0<=low x c:=by
   intro x
   induction x with
   |nil=>exact WZ _
   |cons v x ih=>
    have e:low (v::x) c=b2i (decide (v<c))+low x c:=by simp[low]
    rw[e];unfold b2i;split<;>lia
  exact this cq
 |s::sm,[],h,_=>by simp at h
 |s::sm,b::cq,h,q=>by
  have e1:low (s::sm) c=b2i (decide (s<c))+low sm c:=by simp[low]
  have e2:low (b::cq) c=b2i (decide (b<c))+low cq c:=by simp[low]
  have h0:=q 0 (by simp);simp only[VJ]at h0;have ih:=mm (c:=c) sm cq (by simpa using h) (λi hi=>by simpa using q (i+1) (by simpa using hi));rw[e1,e2];have:b2i (decide (s<c))<=b2i (decide (b<c)):=by
   by_cases z:s<c
   .rw[Kf z,Kf (by lia)];exact WZ _
   .rw[J9 z];unfold b2i;simp;split<;>lia
  lia
def DW {cq:List Int}(h:fX cq sm):low sm c<=low cq c/\low cq c<=low sm c+1:=by
 obtain⟨hl,h⟩:=h;refine⟨mm sm cq (by lia) (λi hi=>(h i hi).1),?_⟩;cases cq with
 |nil=>simp at hl
 |cons b bs=>
  have e2:low (b::bs) c=b2i (decide (b<c))+low bs c:=by simp[low]
  have:=mm (c:=c) bs sm (by simp at hl;lia) (λi hi=>by have:=(h i (by simp at hl;lia)).2;simpa using this);rw[e2];have:b2i (decide (b<c))<=1:=by unfold b2i;split<;>lia
  lia
def qe(X:List (List Int)):(sg X).length=X.length:=by simp[sg]
def pW (h:r<X.length):(sg X)[r]?=some (xd X.length (X.getD r []) (zG X r)):=by simp[sg,h]
def EW(n:Nat)(x y:List Int):(xd n x y).length=n:=by simp[xd]
def EV (x y:List Int)(h:c<n):(xd n x y).getD c 0=b2i (mem x c)-b2i (mem y c):=vM (by simp[xd,h])
def EU (x y:List Int):∀{c:Nat},c<=n->((xd n x y).take c).sum=cnt x c-cnt y c:=by
 intro c hc
 induction c with
 |zero=>simp[cnt]
 |succ c ih=>
  rw[QY,jy,jy,W8,ih (by lia)];have:(xd n x y)[c]?=some (b2i (mem x c)-b2i (mem y c)):=by simp[xd,show c<n by lia]
  rw[this];simp;lia
def uk(X:List (List Int)):Sq (sg X):=by
 intro r hr;simp only[sg,Wq]at hr;obtain⟨i,_,rfl⟩:=hr;rw[EW,qe]
def mQ (X:List (List Int))(hc:c<X.length):∀{r:Nat},r<=X.length->S (sg X) r c=b2i (mem (zG X r) c):=by
 intro r
 induction r with
 |zero=>intro _;simp[S,zG,mem,b2i]
 |succ r ih=>
  intro hr;rw[mq (sg X) r c _ (pW (by lia)),ih (by lia),EV _ _ hc];have:zG X (r+1)=X.getD r []:=by simp[zG]
  rw[this];lia
def FY (h:c<n):mem (zY n) c=true:=by
 rw[mem,Vj];exact⟨c,Wq.mpr ⟨c,by simpa using h,rfl⟩,by simp⟩
def At (h:fQ n X)(hr:r<n)(hc:c<n):i6 (sg X) r c=false:=by
 have hX:=h.len;have b01:∀b:Bool,b2i b=0\/b2i b=1:=by intro b;cases b<;>simp[b2i]
 have hbd:∀j,j<n->∀v∈X.getD j [],0<=v/\v<n:=by
  intro j hj v hv;obtain⟨i,hi,rfl⟩:=Ce hv;rw[h.rlen j hj]at hi;exact h.bd j hj i hi
 have hac:ac (sg X) r (c+1)=low (X.getD r []) (c+1)-low (zG X r) (c+1):=by
  unfold ac;rw[Qh,pW (by lia)];show((xd X.length (X.getD r []) (zG X r)).take (c+1)).sum=_;rw[EU _ _ (by lia),kI (h.inc r hr).nodup (λv hv=>(hbd r hr v hv).1)];congr 1;unfold zG;split
  .exact kI QP (by simp) _
  .exact kI (h.inc _ (by lia)).nodup (λv hv=>(hbd _ (by lia) v hv).1) _
 have hrange:(ac (sg X) r (c+1)=0\/ac (sg X) r (c+1)=1)/\(c=n-1->ac (sg X) r (c+1)=1):=by
  rw[hac];by_cases z:r=0
  .subst z;have e:zG X 0=[]:=rfl;have e0:low (zG X 0) (c+1)=0:=rfl;have hl:(X.getD 0 []).length=1:=h.rlen 0 hr;have:low (X.getD 0 []) (c+1)=0\/low (X.getD 0 []) (c+1)=1:=by
    cases hx:X.getD 0 []with
    |nil=>rw[hx]at hl;cases hl
    |cons v x=>
     rw[hx]at hl;have:x=[]:=WO (by simpa using hl);subst this;have:=b01 (decide (v<((c+1:Nat):Int)));simpa [low]using this
   refine⟨by lia,λec=>?_⟩;have hf:low (X.getD 0 []) (c+1)=(X.getD 0 []).length:=jz (λv hv=>by have:=(hbd 0 hr v hv).2;lia);rw[hf,hl,e0];rfl
  .have e:zG X r=X.getD (r-1) []:=by simp[zG,z]
   have hla:=h.lace (r-1) (by lia);rw[show r-1+1=r by lia]at hla;have:=DW (c:=c+1) hla;rw[e];refine⟨by lia,λec=>?_⟩;have hf:low (X.getD r []) (c+1)=(X.getD r []).length:=jz (λv hv=>by have:=(hbd r hr v hv).2;lia);have hg:low (X.getD (r-1) []) (c+1)=(X.getD (r-1) []).length:=jz (λv hv=>by have:=(hbd (r-1) (by lia) v hv).2;lia);rw[hf,hg,h.rlen r hr,h.rlen (r-1) (by lia)];lia
 have hS:S (sg X) (r+1) c=b2i (mem (X.getD r []) c):=by
  rw[mQ X (by lia) (by lia)];simp[zG]
 have hSr:(S (sg X) (r+1) c=0\/S (sg X) (r+1) c=1)/\(r=n-1->S (sg X) (r+1) c=1):=by
  rw[hS];refine⟨b01 _,λe=>?_⟩;rw[e,h.last,FY hc];rfl
 have off:∀(t:Int) (b:Bool),(t=0\/t=1)->(b=true->t=1)->kz t b=false:=by
  intro t b h1 h2;cases b with
  |true=>simp[kz,h2 rfl]
  |false=>rcases h1 with h|h<;>simp[kz,h]
 unfold i6;rw[Bool.or_eq_false_iff];refine⟨off _ _ hrange.1 λe=>hrange.2 ?_,off _ _ hSr.1 λe=>hSr.2 ?_⟩
 .simp only[Kh,qe]at e;lia
 .simp only[Kh,qe]at e;lia
end Lib
namespace Lib
section
variable{lev:Nat->Lv}{cl:Nat->List Dat->Rd}{k:Nat}
def mj{α β:Type}{xs:List α}{ys:List β}{i:Nat}{a:α}{b:β}(h:xs[i]?=some a)(h2:ys[i]?=some b):(xs.zip ys)[i]?=some (a,b):=WD.mpr ⟨h,h2⟩
noncomputable def zE(R:List (List Int))(i:Nat):List Int:=(Qr R.length).map λc=>S R i c
noncomputable def wW(R:List (List Int)):List (List Int):=(Qr (R.length+1)).map (zE R)
def FX(R:List (List Int)):Dat.lst (Qz R.length [Dat.int 0]).flatten=row (zE R 0):=by
 have:(Qz R.length [Dat.int 0]).flatten=Qz R.length (Dat.int 0):=by
  generalize R.length=n
  induction n with
  |zero=>rfl
  |succ n ih=>rw[QW,Wg,ih,QW];rfl
 rw[this];unfold row zE;congr 1;rw[Wn];refine Q8 λi=>?_;by_cases h:i<R.length
 .simp[h,S]
 .simp[h]
def Cd(a b:List Int):xK .zip (row a) (row b)=if a.length<=av/\b.length<=av then some ((a.zip b).map λp=>(Dat.int p.1,Dat.int p.2))else none:=by
 simp only[xK,fI,row,Qv];rw[List.zip_map];rfl
def gf (h:Sq R)(hi:i<R.length):((zE R i).zip (R.getD i [])).map (λp=>p.1+p.2)=zE R (i+1):=by
 obtain⟨x,hx⟩:∃x,R[i]?=some x:=⟨R[i],by simp[hi]⟩;have hg:R.getD i []=x:=by rw[Qh,hx];rfl
 have hl:x.length=R.length:=h x (Qt hx);rw[hg];refine Q8 λc=>?_;by_cases hc:c<R.length
 .have e1:(zE R i)[c]?=some (S R i c):=by simp[zE,hc]
  have e2:x[c]?=some (x.getD c 0):=ve (by lia);have e3:(zE R (i+1))[c]?=some (S R (i+1) c):=by simp[zE,hc]
  rw[e3,mq R i c x hx,Ql,mj e1 e2];rfl
 .rw[Qm (by simp[zE];lia),Qm (by simp[zE];lia)]
noncomputable def iJ:Sm:=(.seq (.asg 1 (.compP .zip (.bin .add (.var 4) (.var 5)) (.var 1) (.var 3) (.lit (.bl true)))) (.expr (.meth .append (.var 2) (.pair (.var 1) .unit))))
noncomputable def lO:Fn:=⟨1,4,(.seq (.asg 1 (.bin .mul (.lst (.pair (.lit (.int 0)) .unit)) (.blt .len (.pair (.var 0) .unit)))) (.seq (.asg 2 (.lst (.pair (.var 1) .unit))) (.seq (.forv 3 (.var 0) iJ) (.ret (.var 2)))))⟩
def tE(e:Ex)(x:List Int)(he:∀i:Int,aR lev e (.int i)=.full):(x.map Dat.int).all (λd=>aR lev e d == .full)=true:=by
 rw[Vf,Wv];intro v _;simp[he]
def ET (h:Sq R)(hn:R.length<=100)(hi:i<R.length)(hA:A.length<av):
  aC lev cl iJ [some (af R),some (row (zE R i)),some (af A),some (row (R.getD i []))] [.no,l1,.top,.no]=.next [some (af R),some (row (zE R (i+1))),some (af (A++[zE R (i+1)])),some (row (R.getD i []))] [.no,.no,.top,.no]:=by
 have hx:(R.getD i []).length=R.length:=by
  have hg:R.getD i []=R[i]:=by rw[Qh,Qq hi];rfl
  rw[hg];exact h _ (Vw hi)
 have hev:aq cl (.compP .zip (.bin .add (.var 4) (.var 5)) (.var 1) (.var 3) (.lit (.bl true))) [some (af R),some (row (zE R i)),some (af A),some (row (R.getD i []))]=.ok (row (zE R (i+1))):=by
  rw[tG];simp only[zd,za,aQ,Cd];rw[Ka (by rw[hx];simp[zE];unfold av;lia)];simp only;rw[x5 (λ(p:Int×Int)=>(Dat.int p.1,Dat.int p.2)) (λp=>.int (p.1+p.2)) _ [] (λp _=>by simp) (λp _=>by simp) (by rw[VZ,hx];simp[zE];unfold av;lia)];rw[<-gf h hi];simp[row]
 have hlv:aR lev (.compP .zip (.bin .add (.var 4) (.var 5)) (.var 1) (.var 3) (.lit (.bl true))) (row (zE R (i+1)))=.full:=by
  unfold row
  first|rw[gX]|rw[jq]
  simp only[jv,Q0,if_false];rw[Ka (tE _ _ λi=>by simp)]
 unfold iJ;rw[kH,zK,hev];simp only[bh];rw[yb hlv];simp only[zj,Qg,Qf];rw[xp];simp only[zd,za,dR];have hls:xz [some (af R),some (row (zE R (i+1))),some (af A),some (row (R.getD i []))] 2=some (A.map row):=rfl;rw[hls];simp only[Qv];rw[Ka hA];simp[yQ,zV,row,aO,af]
def DV (h:Sq R)(hn:R.length<=100)(hlev:lev k=.no):zQ lev cl k lO [af R]=.ok (af (wW R)):=by
 have main:=yc (body:=λx de lv=>aC lev cl iJ (de.set 3 (some x)) (lv.set 3 (aN x)))
  (λi de lv=>∃(p3:Option Dat) (l1 l3:Lv),de=[some (af R),some (row (zE R i)),some (af ((wW R).take (i+1))),p3]/\lv=[.no,l1,.top,l3])
  (R.map row) (de:=[some (af R),some (row (zE R 0)),some (af [zE R 0]),none]) (lv:=[.no,.no,.top,.full])
  ⟨none,.no,.full,by simp[wW,WQ],rfl⟩ ?_
 .obtain ⟨de',lv',e,p3,l1,l3,rfl,rfl⟩:=main;unfold zQ;rw[Ka (by rfl)];show zS (lev k) (aC lev cl (.seq _ (.seq _ (.seq _ _))) [some (af R),none,none,none] [aN (af R),.full,.full,.full])=_;rw[show aN (af R)=.no from by simp[aN,af],zO];have hlen:yy .len [af R]=.ok (.int R.length):=by simp[af]
  have hmul:zX .mul (.lst [.int 0]) (.int R.length)=.ok (row (zE R 0)):=by
   simp only[zX];rw[Ka (by unfold av;lia),WK,<-FX,xa];simp;unfold av;lia
  simp only[zK,zR,yU,zp,zo,ze,yh,zd,aQ,zh,hlen];rw[xa (by simp;unfold av;lia)];simp only[aQ,hmul,bh];rw[yb (by simp[row])];simp only[zj,Qg,Qf];rw[zO];simp only[zK,yU,zp,zo,zd,za,aQ,zh];rw[xa (by simp;unfold av;lia)];have ha:vG lev 2 (.lst (.pair (.var 1) .unit)) (.lst [row (zE R 0)]) [some (af R),some (row (zE R 0)),none,none] [.no,.full,.full,.full]=.next [some (af R),some (row (zE R 0)),some (af [zE R 0]),none] [.no,.no,.top,.full]:=by
   simp[vG,row,yN,aO,af]
  simp only[bh,ha,zj];rw[xP,xj];have hit:cE (af R)=some (R.map row):=jw (by simp;unfold av;lia);have hfl:ax (af R)=false:=by simp[af]
  simp only[zd,bh,hit,hfl];have hrel:(if false=true then[Lv.no,Lv.no,Lv.top,Lv.full]else yN (.var 0) [some (af R),some (row (zE R 0)),some (af [zE R 0]),none] [Lv.no,Lv.no,Lv.top,Lv.full])=[.no,.no,.top,.full]:=rfl;rw[hrel,e,zj];rw[Qv,QL (by simp[wW])];simp[zS,cU,hlev,jG,af]
 .rintro i x de lv hx ⟨p3,l1,l3,rfl,rfl⟩;have hi:i<R.length:=by
   have:=(Qa.mp hx).1;simpa using this
  have hxi:x=row (R.getD i []):=by
   rw[Ql,Qq hi]at hx;cases hx;rw[Qh,Qq hi];rfl
  subst hxi;refine⟨_,_,?_,some (row (R.getD i [])),.no,.no,rfl,rfl⟩;simp only[Qg,Qf,show aN (row (R.getD i []))=.no from by simp[aN,row]];rw[ET h hn hi (by simp[wW];unfold av;lia)];have e2:(wW R).take (i+1+1)=(wW R).take (i+1)++[zE R (i+1)]:=by
   rw[QY];congr 1;simp[wW,hi]
  rw[e2]
end
end Lib
namespace Lib
section
theorem bD:∀(x:List Int),bO (x.map Dat.int) (x.map Dat.int)=true
 |[]=>rfl
 |v::x=>by simp[bO,bD x]
theorem jA:∀(A:List (List Int)),bO (A.map row) (A.map row)=true
 |[]=>rfl
 |v::x=>by simp[bO,jA x,row,bD]
def Fx(A:List (List Int)):yV yL (af A)=true:=by
 have h:∀x,yV 11 (row x)=true:=λx=>by
  show yV (10+1) (row x)=true;simp only[row,wE];rw[y9,Vf];simp
 simp only[af,tq,wE];rw[y9,Vf,Wv];intro x _;exact h x
def As(A:List (List Int)):xg .ne (af A) (af A)=.ok (.bl false):=by
 simp only[xg,et,Fx A,VL,if_true];simp only[af,g8,jA];rfl
theorem tD:∀(x:List Int),gQ (x.map Dat.int)=some x.sum
 |[]=>rfl
 |v::x=>by simp[gQ,tD x]
end
end Lib
namespace Lib
section
variable{lev:Nat->Lv}{cl:Nat->List Dat->Rd}
def DU(c:Ex)(body:Sm)(de:aJ)(lv:List Lv):aC lev cl (.while c body) de lv=wg (aq cl c) (aC lev cl body) 1000000 de lv:=rfl
def Fz (P:Nat->aJ->List Lv->Prop)(N:Nat)(hs:∀t de lv,t<N->P t de lv->c de=.ok (.bl true)/\∃de' lv',body de lv=.next de' lv'/\P (t+1) de' lv')(he:∀de lv,P N de lv->c de=.ok (.bl false)):
  ∀(n t fuel:Nat) (de:aJ) (lv:List Lv),t+n=N->n<fuel->P t de lv->∃de' lv',wg c body fuel de lv=.next de' lv'/\P N de' lv':=by
 intro n
 induction n with
 |zero=>
  intro t fuel de lv h1 h2 p;obtain⟨f,rfl⟩:∃f,fuel=f+1:=⟨fuel-1,by lia⟩;have:t=N:=by lia
  subst this;refine⟨de,lv,?_,p⟩;unfold wg;rw[he de lv p]
 |succ n ih=>
  intro t fuel de lv h1 h2 p;obtain⟨f,rfl⟩:∃f,fuel=f+1:=⟨fuel-1,by lia⟩;obtain⟨hc,d1,l1,hb,p1⟩:=hs t de lv (by lia) p;obtain⟨d2,l2,e,p2⟩:=ih (t+1) f d1 l1 (by lia) (by lia) p1;refine⟨d2,l2,?_,p2⟩;unfold wg;rw[hc];simp only;rw[hb];exact e
end
end Lib
namespace Lib
section
def Ar(x:List Int):xg .ne (row x) (row [])=.ok (.bl (! decide (x=[]))):=by
 have h:∀y,yV yL (row y)=true:=λy=>by
  simp only[row,tq,wE];rw[y9];simp
 simp only[xg,et,h,VL,if_true];simp only[row,g8,Ud];cases x with
 |nil=>rfl
 |cons v x=>simp[bO];rfl
end
end Lib
namespace Lib
section
variable{lev:Nat->Lv}{cl:Nat->List Dat->Rd}{k:Nat}
noncomputable def jB:Fn:=⟨2,2,(.seq (.ite (.cmp .lt (.var 1) (.blt .len (.pair (.var 0) .unit))) (.ret (.idx (.var 0) (.var 1))) .skip) (.ret (.lit (.int 0))))⟩
def Fw(ns:List Int)(i:Nat):∃c:Int,zQ lev cl k jB [.scr ns,.int i]=.ok (.int c):=by
 by_cases h:i<ns.length
 .refine ⟨ns[i],?_⟩;have h1:yj (.scr ns) (.int (i:Int))=.ok (.int ns[i]):=by simp[yj,xo,g9 h,h]
  simp[zQ,jB,xN,xh,zS,cU,h,h1]
 .refine ⟨0,?_⟩;simp[zQ,jB,xN,xh,zS,cU,h]
noncomputable def lN:Fn:=⟨2,3,(.seq (.asg 2 (.bin .mod (.bin .mul (.bin .add (.bin .add (.bin .mod (.var 0) (.bin .pow (.lit (.int 10)) (.lit (.int 40)))) (.bin .mul (.var 1) (.var 1))) (.lit (.int 17))) (.bin .add (.lit (.int 30103)) (.bin .mul (.lit (.int 2)) (.var 1)))) (.lit (.int 86028121)))) (.ret (.bin .fdiv (.bin .mod (.bin .mul (.var 2) (.var 2)) (.lit (.int 86028157))) (.lit (.int 7)))))⟩
def DT(c j:Int)(h:0<=j)(h':j<=100000):∃v:Int,zQ lev cl k lN [.int c,.int j]=.ok (.int v):=by
 have e1:zX .pow (.int 10) (.int 40)=.ok (.int (10^40)):=pO 10 40 ⟨by decide,by decide,by decide⟩;have e2:zX .mod (.int c) (.int (10^40))=.ok (.int (c%10^40)):=xO _ _ (by decide);generalize (10:Int)^40=P at *
 have e3:zX .mul (.int j) (.int j)=.ok (.int (j*j)):=wS _ _ (ju (by lia) (by lia));have e4:∀x:Int,zX .mul (.int x) (.int (30103+2*j))=.ok (.int (x*(30103+2*j))):=λx=>Ch _ _ (ju (by lia) (by lia));have e5:zX .mul (.int 2) (.int j)=.ok (.int (2*j)):=wS _ _ (by decide);have e6:∀x:Int,zX .mod (.int x) (.int 86028121)=.ok (.int (x%86028121)):=λx=>xO _ _ (by decide);have e7:∀x:Int,zX .mod (.int x) (.int 86028157)=.ok (.int (x%86028157)):=λx=>xO _ _ (by decide);have e8:∀x:Int,zX .fdiv (.int x) (.int 7)=.ok (.int (x/7)):=λx=>vJ _ _ (by decide) (by decide);have e9:∀y:Int,zX .mul (.int (y%86028121)) (.int (y%86028121))=.ok (.int (y%86028121*(y%86028121))):=λy=>wS _ _ (ju (by lia) (by lia));generalize hy:(c%P+j*j+17)*(30103+2*j)=y;refine⟨y%86028121*(y%86028121)%86028157/7,?_⟩;unfold zQ;rw[Ka (by rfl)];show zS (lev k) (aC lev cl (.seq (.asg 2 _) (.ret _)) [some (.int c),some (.int j),none] _)=_;rw[xP];simp only[zK,zR,zd,za,ze,aQ,e1,e2,e3,e5,xi,e4,hy,e6,bh];rw[yF (by simp)];simp only[zj,Qg,Qf,yz,zR,zd,za,ze,aQ,e9,e7,e8,bh];simp[zS]
noncomputable def nn:Ex:=(.bin .add (.idx (.var 5) (.var 7)) (.blt .int (.pair (.and (.cmp .ne (.var 6) (.lst .unit)) (.cmp .eq (.idx (.var 6) (.neg (.lit (.int 1)))) (.idx (.var 5) (.var 7)))) .unit)))
noncomputable def io:Ex:=(.bin .add (.bin .sub (.idx (.var 5) (.bin .add (.var 7) (.lit (.int 1)))) (.var 8)) (.lit (.int 1)))
noncomputable def ip(km:Nat):Sm:=(.seq (.asg 8 nn) (.seq (.asg 9 (.var 3)) (.seq (.ite (.or (.cmp .lt (.var 0) (.bin .pow (.lit (.int 10)) (.lit (.int 18)))) (.cmp .eq (.var 3) (.lit (.int 0)))) (.asg 9 (.call km (.pair (.var 0) (.pair (.var 4) .unit)))) .skip) (.seq (.expr (.meth .append (.var 6) (.pair (.bin .add (.var 8) (.bin .mod (.var 9) io)) .unit))) (.seq (.asg 3 (.bin .fdiv (.var 3) io)) (.asg 4 (.bin .add (.var 4) (.lit (.int 1)))))))))
noncomputable def vN(l2 l5:Lv):List Lv:=[.full,.full,l2,.full,.full,l5,.full,.full,.full,.full,.full,.full]
def Aq (hm:m+1<last.length)(hl:dr last)(ha:acc.length=m)(hb:∀i,i<m->acc.getD i 0<=last.getD (i+1) 0)(hg:∀i,i<m->last.getD i 0<=acc.getD i 0):
  ∃low:Int,last.getD m 0<=low/\low<=last.getD (m+1) 0/\(0<m->acc.getD (m-1) 0<low)/\aq cl nn [a,b,f,g,h,some (row last),some (row acc),some (.int m),o8,o9,o10,o11]=.ok (.int low):=by
 have g1:yj (row last) (.int (m:Int))=.ok (.int (last.getD m 0)):=vK (ve (by lia));have hi:=hl m hm;have hnew:yf []=.ok (row []):=rfl;unfold nn;simp only[zR,yk,yh,zp,zo,ms,yP,yU,g6,ze,za,zd,aQ,zh,hnew,g1];rw[Ar];by_cases z:acc=[]
 .subst z;refine⟨last.getD m 0,by lia,by lia,λh=>by simp at ha;lia,?_⟩;simp[yy,b2i]
 .have hm0:0<m:=by cases acc with
   |nil=>exact Kc rfl z
   |cons _ _=>simp at ha;lia
  have g3:yj (row acc) (.int (-1))=.ok (.int (acc.getD (m-1) 0)):=by
   refine kn ?_;rw[Qv,ha,Ql,ve (by lia)];rfl
  have h1:=hb (m-1) (by lia);rw[show m-1+1=m by lia]at h1;simp only[z,decide_false,Bool.not_false,aQ,g3,ky,g1];by_cases q:acc.getD (m-1) 0=last.getD m 0
  .refine ⟨last.getD m 0+1,by lia,by lia,λ_=>by lia,?_⟩;rw[Kf q];simp[yy,b2i]
  .refine ⟨last.getD m 0,by lia,by lia,λ_=>by lia,?_⟩;rw[J9 q];simp[yy,b2i]
def Cc (hmx:∀c j:Int,0<=j->j<=100000->∃v:Int,cl km [.int c,.int j]=.ok (.int v))(ht:0<=turn/\turn<=100000)(hm:m+1<last.length)(hl:dr last)(ha:acc.length=m)(hb:∀i,i<m->acc.getD i 0<=last.getD (i+1) 0)(hg:∀i,i<m->last.getD i 0<=acc.getD i 0)(hlim:last.length<=100)(hbd:∀i,i<last.length->0<=last.getD i 0/\last.getD i 0<=1000):
  ∃(w rest':Int) (p8 p9:Option Dat),aC lev cl (ip km) [some (.int cell),some n,some (.lst rows),some (.int rest),some (.int turn),some (row last),some (row acc),some (.int m),o8,o9,o10,o11] (vN l2 l5)=.next [some (.int cell),some n,some (.lst rows),some (.int rest'),some (.int (turn+1)),some (row last),some (row (acc++[w])),some (.int m),p8,p9,o10,o11] (vN l2 l5)
   /\ last.getD m 0<=w/\w<=last.getD (m+1) 0/\(0<m->acc.getD (m-1) 0<w):=by
 obtain⟨low,l1,l2',l3,hlow⟩:=Aq (cl:=cl) (a:=some (.int cell)) (b:=some n) (f:=some (.lst rows)) (g:=some (.int rest)) (h:=some (.int turn)) (o8:=o8) (o9:=o9) (o10:=o10) (o11:=o11) hm hl ha hb hg;have g2:yj (row last) (.int ((m:Int)+1))=.ok (.int (last.getD (m+1) 0)):=vK (c:=m+1) (ve hm);have h10:zX .pow (.int 10) (.int 18)=.ok (.int (10^18)):=pO 10 18 ⟨by decide,by decide,by decide⟩;generalize (10:Int)^18=P at h10;have b1:=hbd m (by lia);have b2:=hbd (m+1) hm;have pos:0<last.getD (m+1) 0-low+1:=by lia
 have num:∃num:Int,aC lev cl (.ite (.or (.cmp .lt (.var 0) (.bin .pow (.lit (.int 10)) (.lit (.int 18)))) (.cmp .eq (.var 3) (.lit (.int 0)))) (.asg 9 (.call km (.pair (.var 0) (.pair (.var 4) .unit)))) .skip) [some (.int cell),some n,some (.lst rows),some (.int rest),some (.int turn),some (row last),some (row acc),some (.int m),some (.int low),some (.int rest),o10,o11] (vN l2 l5)=.next [some (.int cell),some n,some (.lst rows),some (.int rest),some (.int turn),some (row last),some (row acc),some (.int m),some (.int low),some (.int num),o10,o11] (vN l2 l5):=by
  obtain⟨v,hv⟩:=hmx cell turn ht.1 ht.2;have hc:∃b:Bool,aq cl (.or (.cmp .lt (.var 0) (.bin .pow (.lit (.int 10)) (.lit (.int 18)))) (.cmp .eq (.var 3) (.lit (.int 0)))) [some (.int cell),some n,some (.lst rows),some (.int rest),some (.int turn),some (row last),some (row acc),some (.int m),some (.int low),some (.int rest),o10,o11]=.ok (.bl b):=by
   simp only[ii,yP,zR,ze,za,zd,aQ,h10,oI,ky];by_cases q:cell<P
   .exact ⟨true,by simp[q]⟩
   .exact ⟨decide (rest=0),by simp[q]⟩
  obtain⟨b,hc⟩:=hc;rw[wG,hc];simp only[bh];cases b with
  |true=>
   refine⟨v,?_⟩;simp only[zK,zz,zp,zo,za,zd,aQ,zh,hv,bh];rw[yF (by simp)];rfl
  |false=>exact⟨rest,by simp only[wm]⟩
 obtain⟨num,hnum⟩:=num;have q1:=Int.emod_nonneg num (b:=last.getD (m+1) 0-low+1) (by lia);have q2:=Int.emod_lt_of_pos num pos;have hw:∀(o3 o4 o6 o9:Option Dat),aq cl io [some (.int cell),some n,some (.lst rows),o3,o4,some (row last),o6,some (.int m),some (.int low),o9,o10,o11]=.ok (.int (last.getD (m+1) 0-low+1)):=λo3 o4 o6 o9=>by
  unfold io;simp only[zR,yk,ze,za,zd,aQ,xi,g2,vd]
 have hmod:zX .mod (.int num) (.int (last.getD (m+1) 0-low+1))=.ok (.int (num % (last.getD (m+1) 0-low+1))):=xO _ _ pos;have hdiv:zX .fdiv (.int rest) (.int (last.getD (m+1) 0-low+1))=.ok (.int (rest / (last.getD (m+1) 0-low+1))):=vJ _ _ pos (by lia);refine⟨low+num % (last.getD (m+1) 0-low+1),rest / (last.getD (m+1) 0-low+1),some (.int low),some (.int num),?_,by lia,by lia,λh=>by have:=l3 h;lia⟩;unfold ip;rw[zO,zK,hlow];simp only[bh];rw[yF (by simp)];simp only[zj,vN,Qg,Qf];rw[zO,zK];simp only[za,zd,bh];rw[yF (by simp)];simp only[zj,Qg,Qf];rw[zO];have hnum':=hnum;unfold vN at hnum';rw[hnum',zj,zO,xp];simp only[zR,za,zd,hw,aQ,hmod,xi,dR];rw[show xz [some (.int cell),some n,some (.lst rows),some (.int rest),some (.int turn),some (row last),some (row acc),some (.int m),some (.int low),some (.int num),o10,o11] 6=some (acc.map Dat.int)from rfl];simp only[Qv];rw[Ka (by unfold av;lia)];have hgv:yQ lev (.bin .add (.var 8) (.bin .mod (.var 9) io)) (.int (low+num % (last.getD (m+1) 0-low+1))) 6 [some (.int cell),some n,some (.lst rows),some (.int rest),some (.int turn),some (row last),some (row acc),some (.int m),some (.int low),some (.int num),o10,o11] [.full,.full,l2,.full,.full,l5,.full,.full,.full,.full,.full,.full]=some ([some (.int cell),some n,some (.lst rows),some (.int rest),some (.int turn),some (row last),some (row acc),some (.int m),some (.int low),some (.int num),o10,o11],[.full,.full,l2,.full,.full,l5,.full,.full,.full,.full,.full,.full]):=by
  unfold yQ;rw[Kb (by simp[zV]),Ka (yE lev _ _ (by simp))]
 rw[hgv];simp only[zj,Qg,Qf];rw[pN,zK];simp only[zR,za,zd,hw,aQ,hdiv,bh];rw[yF (by simp)];simp only[zj,Qg,Qf,zK,zR,za,zd,ze,aQ,xi,bh];rw[yF (by simp)];simp[row]
end
end Lib
namespace Lib
section
variable{lev:Nat->Lv}{cl:Nat->List Dat->Rd}{k:Nat}
def Ap (hmx:∀c j:Int,0<=j->j<=100000->∃v:Int,cl km [.int c,.int j]=.ok (.int v)){turn:Int}{kk:Nat}(ht:0<=turn/\turn+kk<=100000)(hlen:last.length=kk+1)(hl:dr last)(hlim:last.length<=100)(hbd:∀i,i<last.length->0<=last.getD i 0/\last.getD i 0<=1000):
  ∃(acc:List Int) (rest':Int) (p7 p8 p9:Option Dat),yx (λx de lv=>aC lev cl (ip km) (de.set 7 (some x)) (lv.set 7 (aN x))) (yd 0 1 kk) [some (.int cell),some n,some (.lst rows),some (.int rest),some (.int turn),some (row last),some (row []),o7,o8,o9,o10,o11] (vN l2 l5) =
   .next [some (.int cell),some n,some (.lst rows),some (.int rest'),some (.int (turn+kk)),some (row last),some (row acc),p7,p8,p9,o10,o11] (vN l2 l5)/\dr acc/\fX last acc:=by
 have main:=yc (body:=λx de lv=>aC lev cl (ip km) (de.set 7 (some x)) (lv.set 7 (aN x)))
  (λm de lv=>∃(acc:List Int) (rest':Int) (p7 p8 p9:Option Dat),de=[some (.int cell),some n,some (.lst rows),some (.int rest'),some (.int (turn+m)),some (row last),some (row acc),p7,p8,p9,o10,o11]/\lv=vN l2 l5/\acc.length=m/\dr acc/\(∀i,i<m->last.getD i 0<=acc.getD i 0/\acc.getD i 0<=last.getD (i+1) 0))
  (yd 0 1 kk) (de:=[some (.int cell),some n,some (.lst rows),some (.int rest),some (.int turn),some (row last),some (row []),o7,o8,o9,o10,o11]) (lv:=vN l2 l5)
  ⟨[],rest,o7,o8,o9,by simp,rfl,rfl,λi hi=>by simp at hi,λi hi=>by lia⟩ ?_
 .obtain ⟨de',lv',e,acc,rest',p7,p8,p9,rfl,rfl,h1,h2,h3⟩:=main;rw[xA]at h1 h3 e;exact⟨acc,rest',p7,p8,p9,e,h2,⟨by lia,λi hi=>h3 i (by lia)⟩⟩
 .rintro m x de lv hx' ⟨acc,rest',p7,p8,p9,rfl,rfl,h1,h2,h3⟩;have hmk:m<kk:=by
   have:=(Qa.mp hx').1;simpa using this
  rw[xB _ _ _ _ hmk]at hx';cases hx';have e1:(0:Int)+1*(m:Int)=(m:Int):=by lia
  obtain⟨w,rest2,q8,q9,e,b1,b2,b3⟩:=Cc (lev:=lev) (cl:=cl) (cell:=cell) (rest:=rest') (turn:=turn+m) (n:=n) (rows:=rows) (last:=last) (acc:=acc) (m:=m) (o8:=p8) (o9:=p9) (o10:=o10) (o11:=o11) (l2:=l2) (l5:=l5) hmx (by lia) (by lia) hl h1 (λi hi=>(h3 i hi).2) (λi hi=>(h3 i hi).1) hlim hbd;refine⟨_,_,?_,acc++[w],rest2,some (.int m),q8,q9,rfl,rfl,by simp[h1],h2.app (λh=>?_),λi hi=>?_⟩
  .simp only[e1,vN,Qg,Qf,show aN (.int (m:Int))=.full from by simp[aN]];rw[show turn+((m+1:Nat):Int)=turn+m+1 by lia];exact e
  .rw[h1]at h ⊢;exact b3 h
  .by_cases z:i<m
   .rw[xF (by lia)];exact h3 i z
   .have:i=acc.length:=by lia
    subst this;rw[kA,h1];exact⟨b1,b2⟩
noncomputable def iZ(km:Nat):Sm:=(.seq (.asg 5 (.idx (.var 2) (.neg (.lit (.int 1))))) (.seq (.asg 6 (.lst .unit)) (.seq (.forv 7 (.rng (.lit (.int 0)) (.bin .sub (.blt .len (.pair (.var 5) .unit)) (.lit (.int 1))) (.lit (.int 1))) (ip km)) (.expr (.meth .append (.var 2) (.pair (.var 6) .unit))))))
noncomputable def iY:Ex:=(.cmp .lt (.blt .len (.pair (.var 2) .unit)) (.var 1))
noncomputable def DP(cell:Int)(n t:Nat)(de:aJ)(lv:List Lv):Prop:=∃(L:List (List Int)) (rest turn:Int) (o5 o6 o7 o8 o9:Option Dat) (l2 l5 l6:Lv),de=[some (.int cell),some (.int n),some (af L),some (.int rest),some (.int turn),o5,o6,o7,o8,o9,none,none]/\lv=[.full,.full,l2,.full,.full,l5,l6,.full,.full,.full,.full,.full]/\(l2=.full\/l2=.top)/\L.length=t+1/\cZ n L/\0<=turn/\turn<=100*t
def pV (h:DP cell n t de lv):aq cl iY de=.ok (.bl (decide (t+1<n))):=by
 obtain⟨L,rest,turn,o5,o6,o7,o8,o9,l2,l5,l6,rfl,rfl,hl2,h1,h2,h3⟩:=h;have hlen:yy .len [af L]=.ok (.int L.length):=by simp[af]
 unfold iY;simp only[yP,yh,zp,zo,za,zd,aQ,zh,hlen,oI];rw[show decide ((L.length:Int)<(n:Int))=decide (t+1<n)from decide_eq_decide.mpr (by lia)]
def Ao (hmx:∀c j:Int,0<=j->j<=100000->∃v:Int,cl km [.int c,.int j]=.ok (.int v))(hn:n<=12)(ht:t+1<n)(h:DP cell n t de lv):∃de' lv',aC lev cl (iZ km) de lv=.next de' lv'/\DP cell n (t+1) de' lv':=by
 obtain⟨L,rest,turn,o5,o6,o7,o8,o9,l2,l5,l6,rfl,rfl,hl2,h1,h2,h3,h4⟩:=h;have hd:yj (af L) (.int (-1))=.ok (row (L.getD t [])):=by
  refine kn ?_;rw[Qv,h1,Ql,Qh,show t+1-1=t by lia,Qq (by lia)];rfl
 have hl:=h2.len t (by lia);have hlen:yy .len [row (L.getD t [])]=.ok (.int ((L.getD t []).length:Nat)):=by simp[row]
 have hnew:yf []=.ok (row []):=rfl;have hrng:vE (.int 0) (.int (((L.getD t []).length:Nat)-1:Int)) (.int 1)=.ok (.tup (yd 0 1 (n-1-t))):=by
  rw[show(((L.getD t []).length:Nat)-1:Int)=((n-1-t:Nat):Int) by lia,wF (by unfold av;lia)];simp[wV]
 obtain⟨acc,rest',p7,p8,p9,e,hinc,hlace⟩:=Ap (lev:=lev) (cl:=cl) (km:=km) hmx (cell:=cell) (rest:=rest) (turn:=turn) (n:=.int n) (rows:=L.map row) (last:=L.getD t []) (kk:=n-1-t) (o7:=o7) (o8:=o8) (o9:=o9) (o10:=none) (o11:=none) (l2:=.top) (l5:=.no) (by lia) (by lia) (h2.inc t (by lia)) (by lia) (λj hj=>by have:=h2.bd t (by lia) j hj;lia);refine⟨[some (.int cell),some (.int n),some (af (L++[acc])),some (.int rest'),some (.int (turn+(n-1-t:Nat))),some (row (L.getD t [])),some (row acc),p7,p8,p9,none,none],[.full,.full,.top,.full,.full,.no,.no,.full,.full,.full,.full,.full],?_,L++[acc],rest',_,_,_,_,_,_,.top,.no,.no,rfl,rfl,Or.inr rfl,by simp[h1],h2.app (by lia) hinc (by rw[show L.length-1=t by lia];exact hlace),by lia,by lia⟩;unfold iZ;rw[zO];simp only[zK,yk,g6,za,zd,ze,aQ,hd,bh];rw[show vG lev 5 (.idx (.var 2) (.neg (.lit (.int 1)))) (row (L.getD t [])) [some (.int cell),some (.int n),some (af L),some (.int rest),some (.int turn),o5,o6,o7,o8,o9,none,none] [.full,.full,l2,.full,.full,l5,l6,.full,.full,.full,.full,.full]=.next [some (.int cell),some (.int n),some (af L),some (.int rest),some (.int turn),some (row (L.getD t [])),o6,o7,o8,o9,none,none] [.full,.full,.top,.full,.full,.no,l6,.full,.full,.full,.full,.full]from by
  rcases hl2 with rfl|rfl<;>rfl]
 simp only[zj];rw[zO];simp only[zK,yU,zo,aQ,zh,hnew,bh];rw[yb (by simp[row])];simp only[zj,Qg,Qf];rw[kH,xj];simp only[wl,zR,yh,zp,zo,zh,ze,za,zd,aQ,hlen,vd,hrng,bh,xC,xZ,xu,if_true];rw[show[Lv.full,Lv.full,Lv.top,Lv.full,Lv.full,Lv.no,Lv.full,Lv.full,Lv.full,Lv.full,Lv.full,Lv.full]=vN .top .no from rfl,show(some (af L):Option Dat)=some (.lst (L.map row))from rfl,e,zj,xp];simp only[za,zd,dR,xz,List.getElem?_cons_succ,List.getElem?_cons_zero];rw[Ka (by rw[Qv,h1];unfold av;lia)];have hg:yQ lev (.var 6) (row acc) 2 [some (.int cell),some (.int n),some (.lst (L.map row)),some (.int rest'),some (.int (turn+(n-1-t:Nat))),some (row (L.getD t [])),some (row acc),p7,p8,p9,none,none] (vN .top .no)=some ([some (.int cell),some (.int n),some (.lst (L.map row)),some (.int rest'),some (.int (turn+(n-1-t:Nat))),some (row (L.getD t [])),some (row acc),p7,p8,p9,none,none],[.full,.full,.top,.full,.full,.no,.no,.full,.full,.full,.full,.full]):=by
  simp[yQ,zV,vN,row,aO]
 rw[hg];simp[af]
noncomputable def fN:Ex:=(.comp (.bin .sub (.blt .int (.pair (.cmp .isin (.var 12) (.var 6)) .unit)) (.blt .int (.pair (.cmp .isin (.var 12) (.var 11)) .unit))) (.rng (.lit (.int 0)) (.var 1) (.lit (.int 1))) (.lit (.bl true)))
noncomputable def iX:Sm:=(.seq (.expr (.meth .append (.var 10) (.pair fN .unit))) (.asg 11 (.var 6)))
def Cb (hX:X.length<=100)(hi:i<X.length)(hn:n=X.length):
  aC lev cl iX [a,some (.int n),d2,d3,d4,d5,some (row (X.getD i [])),d7,d8,d9,some (af ((sg X).take i)),some (row (zG X i))] [.full,.full,l2,.full,.full,l5,.no,.full,.full,.full,.full,l11]=.next [a,some (.int n),d2,d3,d4,d5,some (row (X.getD i [])),d7,d8,d9,some (af ((sg X).take (i+1))),some (row (zG X (i+1)))] [.full,.full,l2,.full,.full,l5,.no,.full,.full,.full,.full,.no]:=by
 subst hn;have hrng:vE (.int 0) (.int X.length) (.int 1)=.ok (.tup (yd 0 1 X.length)):=by
  rw[wF (by unfold av;lia)];simp[wV]
 have hcomp:aq cl fN [a,some (.int X.length),d2,d3,d4,d5,some (row (X.getD i [])),d7,d8,d9,some (af ((sg X).take i)),some (row (zG X i))]=.ok (row (xd X.length (X.getD i []) (zG X i))):=by
  unfold fN;rw[g7];simp only[wl,ze,za,zd,aQ,hrng,xC];rw[tF 0 1 X.length (λc=>.int (b2i (mem (X.getD i []) c)-b2i (mem (zG X i) c)))]
  .simp[row,xd]
  .intro j hj;simp
  .intro j hj;simp[DC]
  .unfold av;lia
 have hlim:((sg X).take i).length<av:=by simp[sg];unfold av;lia
 have e2:(sg X).take (i+1)=(sg X).take i++[xd X.length (X.getD i []) (zG X i)]:=by
  rw[QY];congr 1;simp[sg,hi]
 have hall:aR lev fN (row (xd X.length (X.getD i []) (zG X i)))=.full:=by
  unfold row fN
  first|rw[gX]|rw[jq]
  simp only[jv,Q0,if_false];rw[Ka (tE _ _ λi=>by simp)]
 unfold iX;rw[pN,xp,hcomp];simp only[dR];rw[show xz [a,some (.int X.length),d2,d3,d4,d5,some (row (X.getD i [])),d7,d8,d9,some (af ((sg X).take i)),some (row (zG X i))] 10=some (((sg X).take i).map row)from rfl];simp only[Qv];rw[Ka hlim];have hg:yQ lev fN (row (xd X.length (X.getD i []) (zG X i))) 10 [a,some (.int X.length),d2,d3,d4,d5,some (row (X.getD i [])),d7,d8,d9,some (af ((sg X).take i)),some (row (zG X i))] [.full,.full,l2,.full,.full,l5,.no,.full,.full,.full,.full,l11]=some ([a,some (.int X.length),d2,d3,d4,d5,some (row (X.getD i [])),d7,d8,d9,some (af ((sg X).take i)),some (row (zG X i))],[.full,.full,l2,.full,.full,l5,.no,.full,.full,.full,.full,l11]):=by
  unfold yQ;rw[Kb (by simp[zV]),Ka hall]
 rw[hg];simp only[zj,Qg,Qf,zK,za,zd,bh];rw[e2];rw[show zG X (i+1)=X.getD i []from by simp[zG]];rw[show(af (List.take i (sg X)++[xd X.length (X.getD i []) (zG X i)]))=.lst ((List.take i (sg X)).map row++[row (xd X.length (X.getD i []) (zG X i))])from by simp[af]];rfl
noncomputable def lZ(km:Nat):Fn:=⟨2,12,(.seq (.asg 2 (.lst (.pair (.lrng (.var 1)) .unit))) (.seq (.asg 3 (.var 0)) (.seq (.asg 4 (.lit (.int 0))) (.seq (.while iY (iZ km)) (.seq (.expr (.meth .reverse (.var 2) .unit)) (.seq (.asg 10 (.lst .unit)) (.seq (.asg 11 (.lst .unit)) (.seq (.forv 6 (.var 2) iX) (.ret (.var 10))))))))))⟩
def Fv (hmx:∀c j:Int,0<=j->j<=100000->∃v:Int,cl km [.int c,.int j]=.ok (.int v))(hn:1<=n)(hn':n<=12)(cell:Int)(hlev:lev k=.no\/lev k=.full):
  ∃X,fQ n X/\zQ lev cl k (lZ km) [.int cell,.int n]=.ok (af (sg X)):=by
 have hl:aq cl (.lrng (.var 1)) [some (.int cell),some (.int n),none,none,none,none,none,none,none,none,none,none]=.ok (row (zY n)):=by
  simp only[si,za,zd,aQ];rw[Ka (by unfold av;lia),xa (by simp;unfold av;lia),<-jx];simp
 have hnew:yf [row (zY n)]=.ok (af [zY n]):=by rw[xa (by simp[av])];rfl
 have hnew0:yf []=.ok (row []):=rfl;obtain⟨de',lv',e,L,rest,turn,o5,o6,o7,o8,o9,l2,l5,l6,rfl,rfl,hl2,h1,h2,h3⟩:=Fz (c:=aq cl iY) (body:=aC lev cl (iZ km)) (DP cell n) (n-1)
  (λt de lv ht p=>⟨by rw[pV p];simp;lia,Ao hmx (by lia) (by lia) p⟩)
  (λde lv p=>by rw[pV p];simp;lia) (n-1) 0 1000000 [some (.int cell),some (.int n),some (af [zY n]),some (.int cell),some (.int 0),none,none,none,none,none,none,none] [.full,.full,.full,.full,.full,.full,.full,.full,.full,.full,.full,.full]
  (by lia) (by lia) ⟨[zY n],cell,0,none,none,none,none,none,.full,.full,.full,rfl,rfl,Or.inl rfl,rfl,cZ.one n,by lia,by lia⟩
 have hX:fQ n L.reverse:=fQ.of hn h2 (by lia);have hXl:=hX.len;refine⟨L.reverse,hX,?_⟩;generalize hXe:L.reverse=X at *
 have main:=yc (body:=λx de lv=>aC lev cl iX (de.set 6 (some x)) (lv.set 6 (aN x)))
  (λi de lv=>∃(p6:Option Dat) (m6 m11 m2:Lv),de=[some (.int cell),some (.int n),some (af X),some (.int rest),some (.int turn),o5,p6,o7,o8,o9,some (af ((sg X).take i)),some (row (zG X i))]/\lv=[.full,.full,m2,.full,.full,l5,m6,.full,.full,.full,.full,m11])
  (X.map row) (de:=[some (.int cell),some (.int n),some (af X),some (.int rest),some (.int turn),o5,o6,o7,o8,o9,some (af []),some (row [])]) (lv:=[.full,.full,.no,.full,.full,l5,l6,.full,.full,.full,.full,.full])
  ⟨o6,l6,.full,.no,rfl,rfl⟩ ?_
 .obtain ⟨de',lv',e3,p6,m6,m11,m2,rfl,rfl⟩:=main;unfold zQ;rw[Ka (by rfl)];show zS (lev k) (aC lev cl (.seq _ (.seq _ (.seq _ (.seq _ (.seq _ (.seq _ (.seq _ (.seq _ _)))))))) [some (.int cell),some (.int n),none,none,none,none,none,none,none,none,none,none] [aN (.int cell),aN (.int n),.full,.full,.full,.full,.full,.full,.full,.full,.full,.full])=_;simp only[show ∀i:Int,aN (.int i)=.full from λi=>by simp[aN]];rw[zO];simp only[zK,yU,zp,zo,hl,aQ,zh,hnew,bh];rw[yb (by simp[af,row])];simp only[zj,Qg,Qf];rw[zO];simp only[zK,za,zd,bh];rw[yF (by simp)];simp only[zj,Qg,Qf];rw[zO];simp only[zK,ze,bh];rw[yF (by simp)];simp only[zj,Qg,Qf];rw[zO,DU,e,zj,zO,tm];rw[show xz [some (.int cell),some (.int n),some (af L),some (.int rest),some (.int turn),o5,o6,o7,o8,o9,none,none] 2=some (L.map row)from rfl];simp only[];rw[Ka (by rcases hl2 with rfl|rfl<;>rfl),<-Vh,hXe];simp only[zj,Qg,Qf];rw[zO];simp only[zK,yU,zo,aQ,zh,hnew0,bh];rw[yb (by simp[row])];simp only[zj,Qg,Qf];rw[zO];simp only[zK,yU,zo,aQ,zh,hnew0,bh];rw[yb (by simp[row])];simp only[zj,Qg,Qf];rw[xP,xj];have hit:cE (af X)=some (X.map row):=jw (by simp;unfold av;lia);have hfl:ax (af X)=false:=by simp[af]
  rw[show(Dat.lst (X.map row))=af X from rfl];simp only[za,zd,bh,hit,hfl];have hrel:(if false=true then[Lv.full,Lv.full,l2,Lv.full,Lv.full,l5,l6,Lv.full,Lv.full,Lv.full,Lv.full,Lv.full]else yN (.var 2) [some (.int cell),some (.int n),some (af X),some (.int rest),some (.int turn),o5,o6,o7,o8,o9,some (row []),some (row [])] [Lv.full,Lv.full,l2,Lv.full,Lv.full,l5,l6,Lv.full,Lv.full,Lv.full,Lv.full,Lv.full])=[.full,.full,.no,.full,.full,l5,l6,.full,.full,.full,.full,.full]:=rfl;rw[hrel];have e3':=e3;rw[show(some (af []):Option Dat)=some (row [])from rfl]at e3';rw[e3',zj];have hg:jG .full (lev k)=true:=by rcases hlev with h|h<;>rw[h]<;>rfl
  rw[Qv,QL (by simp[sg])];simp[zS,cU,hg,af]
 .rintro i x de lv hx ⟨p6,m6,m11,m2,rfl,rfl⟩;have hi:i<X.length:=by
   have:=(Qa.mp hx).1;simpa using this
  have hxi:x=row (X.getD i []):=by
   rw[Ql,Qq hi]at hx;cases hx;rw[Qh,Qq hi];rfl
  subst hxi;refine⟨_,_,?_,some (row (X.getD i [])),.no,.no,m2,rfl,rfl⟩;simp only[Qg,Qf,show aN (row (X.getD i []))=.no from by simp[aN,row]];exact Cb (by lia) hi (by lia)
end
end Lib
namespace Lib
section
variable{lev:Nat->Lv}{cl:Nat->List Dat->Rd}{k:Nat}
noncomputable def eV(i:Int)(x:List Int)(j:Nat):Int:=i+j-2*(x.take j).sum
noncomputable def wn(i:Int)(x:List Int):List Int:=(Qr (x.length+1)).map (eV i x)
def tz (h:j<=x.length):(wn i x)[j]?=some (eV i x j):=by
 simp only[wn,Ql];rw[W4 (by lia)];rfl
def x6 {x:List Int}(h:x[t]?=some v):(x.take (t+1)).sum=(x.take t).sum+v:=by
 rw[QY,h,W8];simp
noncomputable def lM:Sm:=(.expr (.meth .append (.var 2) (.pair (.bin .sub (.bin .add (.idx (.var 2) (.neg (.lit (.int 1)))) (.lit (.int 1))) (.bin .mul (.lit (.int 2)) (.var 3))) .unit)))
noncomputable def lH:Fn:=⟨2,4,(.seq (.asg 2 (.lst (.pair (.var 0) .unit))) (.seq (.forv 3 (.var 1) lM) (.ret (.var 2))))⟩
def CJ(i:Int)(x:List Int)(hx:x.length<=100)(hk:lev k≠.top):zQ lev cl k lH [.int i,row x]=.ok (row (wn i x)):=by
 have main:=yc (body:=λd de lv=>aC lev cl lM (de.set 3 (some d)) (lv.set 3 (aN d)))
  (λt de lv=>∃(p3:Option Dat) (l3:Lv),de=[some (.int i),some (row x),some (row ((wn i x).take (t+1))),p3]/\lv=[.full,.no,.full,l3])
  (x.map Dat.int) (de:=[some (.int i),some (row x),some (row [i]),none]) (lv:=[.full,.no,.full,.full])
  ⟨none,.full,by simp[wn,WQ,eV],rfl⟩ ?_
 .obtain ⟨de',lv',e,p3,l3,rfl,rfl⟩:=main;unfold zQ;rw[Ka (by rfl)];show zS (lev k) (aC lev cl (.seq _ (.seq _ _)) [some (.int i),some (row x),none,none] [aN (.int i),aN (row x),.full,.full])=_;rw[show aN (row x)=.no from by simp[aN,row],show aN (.int i)=.full from by simp[aN],zO];simp only[zK,yU,zp,zo,zd,aQ,zh];rw[xa (by simp;unfold av;lia)];simp only[bh];rw[yb (by simp)];simp only[zj,Qg,Qf];rw[xP,xj];have hit:cE (row x)=some (x.map Dat.int):=jw (by simp;unfold av;lia);have hfl:ax (row x)=false:=by simp[row]
  simp only[zd,za,bh,hit,hfl];have hrel:(if false=true then[Lv.full,Lv.no,Lv.full,Lv.full]else yN (.var 1) [some (.int i),some (row x),some (.lst [.int i]),none] [Lv.full,Lv.no,Lv.full,Lv.full])=[.full,.no,.full,.full]:=rfl;rw[hrel,show(some (.lst [.int i]):Option Dat)=some (row [i])from rfl,e,zj];rw[Qv,QL (by simp[wn])];simp only[yz,zd,za,bh,cU,zS,show ax (row (wn i x))=false from by simp[row],Q0,if_false,V8];show(if jG Lv.full (lev k)=true then _ else _)=_;cases e:lev k<;>first|rfl|exact Kc e hk
 .rintro t d de lv hd ⟨p3,l3,rfl,rfl⟩;have ht:t<x.length:=by
   have:=(Qa.mp hd).1;simpa using this
  have hxt:x[t]?=some x[t]:=Qq ht;rw[Ql,hxt]at hd;cases hd;have hlen:((wn i x).take (t+1)).length=t+1:=by simp[wn];lia
  have hlast:yj (row ((wn i x).take (t+1))) (.int (-1))=.ok (.int (eV i x t)):=by
   refine kn ?_;rw[Qv,hlen,Ql,List.getElem?_take,Ka (by lia),show t+1-1=t by lia,tz (by lia)];rfl
  have e2:(wn i x).take (t+1+1)=(wn i x).take (t+1)++[eV i x t+1-2*x[t]]:=by
   rw[QY,tz (by lia),Vp];have:=x6 hxt;unfold eV;rw[this];congr 2;lia
  refine⟨_,_,?_,some (.int x[t]),aN (.int x[t]),rfl,rfl⟩;unfold lM;simp only[Qg,Qf];rw[xp];simp only[zR,yk,g6,ze,zd,za,aQ,hlast,xi,wS 2 _ (show small 2=true by decide),vd,dR];have hls:xz [some (.int i),some (row x),some (row ((wn i x).take (t+1))),some (.int x[t])] 2=some (((wn i x).take (t+1)).map Dat.int):=rfl;rw[hls];simp only[Qv,hlen];rw[Ka (by unfold av;lia)];simp[yQ,zV,e2,row]
noncomputable def HT(R:List (List Int)):List (List Int):=(Qr (R.length+1)).map λ(i:Nat)=>wn i (zE R i)
def CI(s:Int)(A:List (List Int))(h:A.length<=av):xK .enum (af A) (.int s)=some ((Qr A.length).map λ(i:Nat)=>(Dat.int (s+i),row (A.getD i []))):=by
 simp only[xK,af,Qv];rw[Ka h];congr 1;refine Q8 λi=>?_;by_cases hi:i<A.length
 .rw[mj (a:=Dat.int (s+i)) (b:=row (A.getD i [])) (by rw[xB _ _ _ _ hi,Int.one_mul]) (by rw[Ql,Qh,Qq hi];rfl)];simp[hi]
 .rw[Qm (by simp;lia),Qm (by simp;lia)]
noncomputable def jC(ks kh:Nat):Fn:=⟨1,1,(.ret (.compP .enum (.call kh (.pair (.var 1) (.pair (.var 2) .unit))) (.call ks (.pair (.var 0) .unit)) (.lit (.int 0)) (.lit (.bl true))))⟩
def FE (hs:cl ks [af R]=.ok (af (wW R)))(hh:∀(i:Int) x,x.length<=100->cl kh [.int i,row x]=.ok (row (wn i x)))(hn:R.length<=100)(hlev:lev kh=.full)(hk:lev k≠.top):zQ lev cl k (jC ks kh) [af R]=.ok (af (HT R)):=by
 have hl:(wW R).length=R.length+1:=by simp[wW]
 have hev:aq cl (.compP .enum (.call kh (.pair (.var 1) (.pair (.var 2) .unit))) (.call ks (.pair (.var 0) .unit)) (.lit (.int 0)) (.lit (.bl true))) [some (af R)]=.ok (af (HT R)):=by
  rw[tG];simp only[zz,zp,zo,zd,ze,aQ,zh,hs];rw[CI 0 (wW R) (by rw[hl];unfold av;lia),hl];simp only;rw[x5 (λ(i:Nat)=>(Dat.int (0+(i:Int)),row ((wW R).getD i []))) (λ(i:Nat)=>row (wn i (zE R i))) _ [] (λi _=>by simp) (λi hi=>?_) (by simp;unfold av;lia)]
  .simp only[Wx,af,HT,Wn];rfl
  .have hi':i<R.length+1:=by simpa using hi
   have e1:(wW R).getD i []=zE R i:=by
    rw[Qh];simp only[wW,Ql];rw[W4 hi'];rfl
   rw[e1,Int.zero_add];simp only[Vi,Wx,zz,zp,zo,za,zd,aQ,zh];exact hh _ _ (by simpa [zE]using hn)
 have hlv:aR lev (.compP .enum (.call kh (.pair (.var 1) (.pair (.var 2) .unit))) (.call ks (.pair (.var 0) .unit)) (.lit (.int 0)) (.lit (.bl true))) (af (HT R))=.full:=by
  have:((HT R).map row).all (λx=>aR lev (.call kh (.pair (.var 1) (.pair (.var 2) .unit))) x == .full)=true:=by
   rw[Vf,Wv];intro x _;simp[row,hlev]
  unfold af
  first|rw[gX]|rw[jq]
  simp only[jv,Q0,if_false];rw[Ka this]
 unfold zQ;rw[Ka (by rfl)];show zS (lev k) (aC lev cl (.ret _) [some (af R)] [aN (af R)])=_;rw[yz,hev];simp only[bh,cU,zS];rw[show ax (af (HT R))=false from by simp[af]];simp only[Q0,if_false,hlv,V8];cases e:lev k<;>first|rfl|exact Kc e hk
end
end Lib
namespace Lib
section
noncomputable def PR(R:List (List Int))(i j:Nat):Int:=((Qr i).map λr=>((R.getD r []).take j).sum).sum
def wT(R:List (List Int))(i j:Nat):PR R (i+1) j=PR R i j+((R.getD i []).take j).sum:=by
 unfold PR;rw[Vm,W9,W8];simp
theorem wq (h:Sq R):∀(i j:Nat),i<=R.length->j<=R.length->((zE R i).take j).sum=PR R i j
 |0,j,_,hj=>by
  have:∀(n:Nat),((Qr n).map λc=>S R 0 c)=Qz n 0:=λn=>by
   induction n with
   |zero=>rfl
   |succ n ih=>rw[Vm,W9,ih,List.replicate_succ'];simp[S]
  unfold zE;rw[this,List.take_replicate];have z:∀n:Nat,(Qz n (0:Int)).sum=0:=λn=>by
   induction n with
   |zero=>rfl
   |succ n ih=>rw[QW,Vr,ih];rfl
  rw[z];rfl
 |i+1,j,hi,hj=>by
  rw[wT,<-wq h i j (by lia) hj];have hx:(R.getD i []).length=R.length:=by
   rw[Qh,Qq (show i<R.length by lia)];exact h _ (Vw _)
  rw[<-gf h (show i<R.length by lia)];have hl:(zE R i).length=R.length:=by simp[zE]
  generalize zE R i=a at hl ⊢;generalize R.getD i []=b at hx ⊢
  induction j with
  |zero=>simp
  |succ j ih=>
   have ha:a[j]?=some a[j]:=Qq (by lia);have hb:b[j]?=some b[j]:=Qq (by lia);have hz:((a.zip b).map λp=>p.1+p.2)[j]?=some (a[j]+b[j]):=by rw[Ql,mj ha hb];rfl
   rw[x6 hz,x6 ha,x6 hb,ih (by lia)];lia
noncomputable def zJ(R:List (List Int))(i j:Nat):Int:=(i:Int)+j-2*PR R i j
noncomputable def LT(R:List (List Int)):List (List Int):=(Qr (R.length+1)).map λ(i:Nat)=>(Qr (R.length+1)).map (zJ R i)
def oH (h:Sq R):LT R=HT R:=by
 unfold LT HT;refine Q4 λi hi=>?_;have hi':i<=R.length:=by have:=QT.mp hi;lia
 unfold wn;rw[show(zE R i).length=R.length by simp[zE]];refine Q4 λj hj=>?_;have hj':j<=R.length:=by have:=QT.mp hj;lia
 unfold zJ eV;rw[wq h i j hi' hj']
def tj(x:List Int):yy .sum [row x]=.ok (.int x.sum):=by
 simp only[yy,row,ff,Wz,tD]
end
end Lib
namespace Lib
section
def tf (h:kz t b=false):(t=0\/t=1)/\(b=true->t=1):=by
 cases b with
 |true=>
  have h':t=1:=by simpa [kz]using h
  exact⟨.inr h',λ_=>h'⟩
 |false=>
  refine⟨?_,λe=>by cases e⟩;simp only[kz,Q0,if_false,Bool.not_eq_false',WR,Kh]at h;exact h
structure cg(R:List (List Int)):Prop where
 sq:Sq R
 row:∀r c,r<R.length->c<=R.length->((R.getD r []).take c).sum=0\/((R.getD r []).take c).sum=1
 rowE:∀r,r<R.length->((R.getD r []).take R.length).sum=1
 col:∀r c,r<=R.length->c<R.length->S R r c=0\/S R r c=1
 colE:∀c,c<R.length->S R R.length c=1
def cg.of{R:List (List Int)}(sq:Sq R)(h:∀r c,r<R.length->c<R.length->i6 R r c=false):cg R:=by
 have q:∀r c,r<R.length->c<R.length->((ac R r (c+1)=0\/ac R r (c+1)=1)/\(c+1=R.length->ac R r (c+1)=1))/\(S R (r+1) c=0\/S R (r+1) c=1)/\(r+1=R.length->S R (r+1) c=1):=by
  intro r c hr hc;have:=h r c hr hc;unfold i6 at this;rw[Bool.or_eq_false_iff]at this;obtain⟨a1,a2⟩:=tf this.1;obtain⟨b1,b2⟩:=tf this.2;exact⟨⟨a1,λe=>a2 (by simp;lia)⟩,b1,λe=>b2 (by simp;lia)⟩
 refine⟨sq,λr c hr hc=>?_,λr hr=>?_,λr c hr hc=>?_,λc hc=>?_⟩
 .cases c with
  |zero=>left;simp
  |succ c=>exact(q r c hr (by lia)).1.1
 .have:=(q r (R.length-1) hr (by lia)).1.2 (by lia);unfold ac at this
  rwa[show R.length-1+1=R.length by lia]at this
 .cases r with
  |zero=>left;simp[S]
  |succ r=>exact(q r c (by lia) hc).2.1
 .have:=(q (R.length-1) c (by lia) hc).2.2 (by lia)
  rwa[show R.length-1+1=R.length by lia]at this
def qf (h:Sq R)(hi:i<=R.length)(hj:j<R.length):PR R i (j+1)=PR R i j+S R i j:=by
 rw[<-wq h i (j+1) hi (by lia),<-wq h i j hi (by lia)];exact x6 (by simp[zE,hj])
def qg(R:List (List Int))(i:Nat):PR R i 0=0:=by
 induction i with
 |zero=>rfl
 |succ i ih=>rw[wT,ih];simp
theorem cg.end (h:cg R):∀i,i<=R.length->PR R i R.length=i/\PR R R.length i=i
 |0,_=>⟨rfl,qg R _⟩
 |i+1,hi=>by
  obtain⟨a,b⟩:=h.end i (by lia);refine⟨?_,?_⟩
  .rw[wT,a,h.rowE i (by lia)];lia
  .rw[qf h.sq (Qo _) (by lia),b,h.colE i (by lia)];lia
def cg.rim (h:cg R)(ht:t<=R.length):zJ R 0 t=t/\zJ R t 0=t/\zJ R R.length t=(R.length:Int)-t/\zJ R t R.length=(R.length:Int)-t:=by
 obtain⟨a,b⟩:=h.end t ht;have z:=qg R t;have z0:PR R 0 t=0:=rfl;unfold zJ;rw[a,b,z,z0];lia
def cg.near (h:cg R)(ht:t<=R.length)(hm:m<R.length):(zJ R t m-zJ R t (m+1)=1\/zJ R t m-zJ R t (m+1)=-1)/\(zJ R m t-zJ R (m+1) t=1\/zJ R m t-zJ R (m+1) t=-1):=by
 have a:=qf h.sq ht hm;have b:=wT R m t;have c:=h.col t m ht hm;have d:=h.row m t hm ht;unfold zJ;rw[a,b];lia
end
end Lib
namespace Lib
section
noncomputable def bt:Int->List Int->Bool
 |due,[]=>decide (due=-1)
 |due,s::r=>if s=0 then bt due r else if s=due then bt (0-due) r else false
end
end Lib
namespace Lib
end Lib
namespace Lib
structure HF(n:Nat)(G:Nat->Nat->Int):Prop where
 top:∀j,j<=n->G 0 j=j
 left:∀i,i<=n->G i 0=i
 low:∀j,j<=n->G n j=(n:Int)-j
 right:∀i,i<=n->G i n=(n:Int)-i
 across:∀i j,i<=n->j<n->G i (j+1)-G i j=1\/G i (j+1)-G i j=-1
 down:∀i j,i<n->j<=n->G (i+1) j-G i j=1\/G (i+1) j-G i j=-1
noncomputable def cH(n:Nat)(G:Nat->Nat->Int)(i:Nat):List Int:=(Qr (n+1)).map (G i)
noncomputable def zn(n:Nat)(G:Nat->Nat->Int):List (List Int):=(Qr (n+1)).map (cH n G)
noncomputable def dC(G:Nat->Nat->Int)(r c:Nat):Int:=(G r (c+1)+G (r+1) c-G r c-G (r+1) (c+1))/2
noncomputable def jH(n:Nat)(G:Nat->Nat->Int)(r:Nat):List Int:=(Qr n).map (dC G r)
noncomputable def zM(n:Nat)(G:Nat->Nat->Int):List (List Int):=(Qr n).map (jH n G)
theorem HF.par (h:HF n G):∀i j,i<=n->j<=n->(G i j-i-j)%2=0
 |i,0,hi,_=>by rw[h.left i hi];simp
 |i,j+1,hi,hj=>by
  have a:=h.par i j hi (by lia);have b:=h.across i j hi (by lia);lia
def HF.amid2 (h:HF n G)(hr:r<n)(hc:c<n):2*dC G r c=G r (c+1)+G (r+1) c-G r c-G (r+1) (c+1):=by
 have p1:=h.par r c (by lia) (by lia);have p2:=h.par r (c+1) (by lia) (by lia);have p3:=h.par (r+1) c (by lia) (by lia);have p4:=h.par (r+1) (c+1) (by lia) (by lia);unfold dC;lia
def yG(n:Nat)(G:Nat->Nat->Int):(zM n G).length=n:=by simp[zM]
def vO(n:Nat)(G:Nat->Nat->Int):Sq (zM n G):=by
 intro x hx;simp only[zM,Wq]at hx;obtain⟨r,_,rfl⟩:=hx;simp[jH,zM]
def CH (h:r<n):(zM n G).getD r []=jH n G r:=by
 rw[Qh];simp[zM,h]
theorem HF.rowsum (h:HF n G)(hr:r<n):∀j,j<=n->2*((jH n G r).take j).sum=G r j-G (r+1) j+1
 |0,_=>by
  rw[h.left r (by lia),h.left (r+1) (by lia)];simp;lia
 |j+1,hj=>by
  have ih:=h.rowsum hr j (by lia);have e:(jH n G r)[j]?=some (dC G r j):=by simp[jH,show j<n by lia]
  rw[x6 e];have:=h.amid2 hr (show j<n by lia);lia
theorem HF.sum (h:HF n G)(hj:j<=n):∀i,i<=n->2*PR (zM n G) i j=(i:Int)+j-G i j
 |0,_=>by
  rw[h.top j hj];show 2*(0:Int)=_;lia
 |i+1,hi=>by
  have ih:=h.sum hj i (by lia);rw[wT,CH (by lia)];have:=h.rowsum (show i<n by lia) j hj;lia
def HF.back (h:HF n G):HT (zM n G)=zn n G:=by
 rw[<-oH (vO n G)];unfold LT zn;rw[yG];refine Q4 λi hi=>?_;have hi':i<=n:=by have:=QT.mp hi;lia
 unfold cH;refine Q4 λj hj=>?_;have hj':j<=n:=by have:=QT.mp hj;lia
 have:=h.sum hj' i hi';unfold zJ;lia
def cg.hf (h:cg R):HF R.length (zJ R):=by
 refine⟨λj hj=>(h.rim hj).1,λi hi=>(h.rim hi).2.1,λj hj=>(h.rim hj).2.2.1,λi hi=>(h.rim hi).2.2.2,λi j hi hj=>?_,λi j hi hj=>?_⟩
 .have:=(h.near hi hj).1;lia
 .have:=(h.near hj hi).2;lia
def Ca (h:Sq R):HT R=zn R.length (zJ R):=by
 rw[<-oH h];rfl
def cg.amid (h:cg R):zM R.length (zJ R)=R:=by
 refine Q8 λr=>?_;by_cases hr:r<R.length
 .have hx:R[r]?=some R[r]:=Qq hr;have hl:R[r].length=R.length:=h.sq _ (Vw hr);rw[show(zM R.length (zJ R))[r]?=some (jH R.length (zJ R) r) by simp[zM,hr],hx];congr 1;refine Q8 λc=>?_;by_cases hc:c<R.length
  .rw[show(jH R.length (zJ R) r)[c]?=some (Lib.dC (zJ R) r c) by simp[jH,hc],ve (show c<R[r].length by lia)];congr 1;have a:=h.hf.amid2 hr hc;have b1:=qf h.sq (show r<=R.length by lia) hc;have b2:=qf h.sq (show r+1<=R.length by lia) hc;have b3:=mq R r c _ hx;generalize Lib.dC (zJ R) r c=g at a ⊢;unfold zJ at a;lia
  .rw[Qm (by simp[jH];lia),Qm (by lia)]
 .rw[Qm (by simp[zM];lia),Qm (by lia)]
end Lib
namespace Lib
section
def wH(n:Nat)(G:Nat->Nat->Int):(zn n G).length=n+1:=by simp[zn]
def x8 (h:i<=n):(zn n G)[i]?=some (cH n G i):=by simp[zn,show i<n+1 by lia]
def wU (h:j<=n):(cH n G i)[j]?=some (G i j):=by simp[cH,show j<n+1 by lia]
def iS (hi:i<=n)(hj:j<=n):(yj (af (zn n G)) (.int i)).bind (λx=>yj x (.int j))=.ok (.int (G i j)):=by
 rw[qc (x8 hi)];exact vK (wU hj)
end
end Lib
namespace Lib
end Lib
namespace Lib
section
noncomputable def mn(a b:Int):Int:=if b<a then b else a
end
end Lib
namespace Lib
section
noncomputable def vg(q:Nat)(F:Nat->Nat->Int)(i:Nat):List Int:=(Qr q).map (F i)
noncomputable def jI(p q:Nat)(F:Nat->Nat->Int):List (List Int):=(Qr p).map (vg q F)
noncomputable def arr(n:Nat)(F G:Nat->Nat->Int):Dat:=.tup [af (jI n (n+1) F),af (jI (n+1) n G)]
end
end Lib
namespace Lib
section
structure AR(n:Nat)(F G:Nat->Nat->Int):Prop where
 f:∀i j,i<n->j<=n->F i j=1\/F i j=-1
 g:∀i j,i<=n->j<n->G i j=1\/G i j=-1
 place:∀r c,r<n->c<n->F r c-F r (c+1)+G r c-G (r+1) c=0
 left:∀r,r<n->F r 0=1
 right:∀r,r<n->F r n=-1
 top:∀c,c<n->G 0 c=-1
 low:∀c,c<n->G n c=1
noncomputable def pm:Dat:=.tup [.int 1,.int (-1)]
end
end Lib
namespace Lib
end Lib
namespace Lib
section
noncomputable def ar(W:Nat->Nat->Int)(i j:Nat):Int:=if(decide (W i j=1)==decide (((i:Int)+j)%2=1))=true then 1 else -1
end
end Lib
namespace Lib
end Lib
namespace Lib
section
noncomputable def wk(F:Nat->Nat->Int)(i j:Nat):Int:=if(decide (F i j=1)==decide (((i:Int)+j)%2=1))=true then 1 else 0
end
end Lib
namespace Lib
end Lib
namespace Lib
section
variable{lev:Nat->Lv}{cl:Nat->List Dat->Rd}{k:Nat}
noncomputable def up(F:Nat->Nat->Int)(i j:Nat)(v:Int):Nat->Nat->Int:=λa b=>if a=i/\b=j then v else F a b
def CG:(vg q F i).set j v=vg q (up F i j v) i:=by
 unfold vg;apply Q8;intro b;by_cases hb:b<q
 .by_cases e:b=j
  .subst e;rw[Wa (by simpa using hb)];simp[hb,up]
  .rw[QA (Ne.symm e)];simp[hb,up,e]
 .rw[Qm (by simpa using hb),Qm (by simpa using hb)]
def B9 (h:a≠i):vg q (up F i j v) a=vg q F a:=by
 unfold vg;apply Q4;intro b _;simp[up,h]
def CF:(jI p q F).set i ((vg q F i).set j v)=jI p q (up F i j v):=by
 unfold jI;apply Q8;intro a;by_cases ha:a<p
 .by_cases e:a=i
  .subst e;rw[Wa (by simpa using ha),CG];simp[ha]
  .rw[QA (Ne.symm e)];simp only[Ql,W4 ha,QR];rw[B9 e]
 .rw[Qm (by simpa using ha),Qm (by simpa using ha)]
def B8(j:Nat)(r k e:Ex)(de:aJ)(lv:List Lv):aC lev cl (.asgS (.idx (.var j) r) k e) de lv=(aq cl e de).okS λd=>(aq cl r de).okS λr=>(aq cl k de).okS λk=>
    if aR lev e d=.full then fH (eK j r de lv (jr k d)) lv
    else if j∈zv e then .no else fH (eK j r de lv (jr k d)) ((yN e de lv).set j .top):=rfl
def B7 {k:Int}(hd:de[j]?=some (some (.lst ds)))(hk:ix ds.length k=some p)(hp:ds[p]?=some (.lst es))(hf:f es=some es1)(hl:lv[j]?=some .full):eK j (.int k) de lv f=some (de.set j (some (.lst (ds.set p (.lst es1))))):=by
 have h1:xz de j=some ds:=by unfold xz;rw[hd]
 unfold eK;simp only[h1,hk,Wz,hp,hf,QR];rw[Ka hl]
def uj (hd:de[j]?=some (some (af (jI p q F))))(hl:lv[j]?=some .full)(hi:i<p)(hc:c<q)(h1:aq cl er de=.ok (.int i))(h2:aq cl ek de=.ok (.int c))(h3:aq cl e de=.ok (.int v)):
  aC lev cl (.asgS (.idx (.var j) er) ek e) de lv=.next (de.set j (some (af (jI p q (up F i c v))))) lv:=by
 rw[B8,h3,h1,h2];simp only[dR];rw[Ka (yE lev e _ (by simp))];have hs:jr (.int (c:Int)) (.int v) ((vg q F i).map Dat.int)=some (((vg q F i).map Dat.int).set c (.int v)):=by
  show(ix ((vg q F i).map Dat.int).length (c:Int)).map (λp=>((vg q F i).map Dat.int).set p (.int v))=_;rw[g9 (by simpa [vg]using hc)];rfl
 rw[B7 (ds:=(jI p q F).map row) (es:=(vg q F i).map Dat.int) (es1:=((vg q F i).map Dat.int).set c (.int v)) (p:=i) hd (g9 (by simpa [jI]using hi)) (by simp[jI,hi,row]) hs hl];rw[<-CF];simp[fH,af,row,List.map_set]
noncomputable def lvl(G:Nat->Nat->Int)(i j:Nat):Bool:=decide (G (i+1) j=G (i-1) j)&&(decide (G i (j-1)=G (i-1) j)&&decide (G i (j+1)=G (i-1) j))
noncomputable def cJ(G:Nat->Nat->Int)(i j:Nat):Nat->Nat->Int:=up G i j (2*G (i-1) j-G i j)
end
end Lib
namespace Lib
section
def B6 (h:lvl G i j=true):G (i+1) j=G (i-1) j/\G i (j-1)=G (i-1) j/\G i (j+1)=G (i-1) j:=by
 unfold lvl at h;simpa [Qx]using h
def td:up F i j v i j=v:=by simp[up]
def tx (h:¬(a=i/\b=j)):up F i j v a b=F a b:=by simp[up,h]
def HF.trn{n:Nat}{G:Nat->Nat->Int}(h:HF n G){i j:Nat}(i1:0<i)(i2:i<n)(j1:0<j)(j2:j<n)(hl:lvl G i j=true):HF n (cJ G i j):=by
 obtain⟨q1,q2,q3⟩:=B6 hl;have na:∀a b,¬(a=i/\b=j)->Lib.cJ G i j a b=G a b:=λa b z=>tx z;have here:Lib.cJ G i j i j=2*G (i-1) j-G i j:=td;refine⟨λb hb=>?_,λa ha=>?_,λb hb=>?_,λa ha=>?_,λa b ha hb=>?_,λa b ha hb=>?_⟩
 .rw[na _ _ (by lia)];exact h.top b hb
 .rw[na _ _ (by lia)];exact h.left a ha
 .rw[na _ _ (by lia)];exact h.low b hb
 .rw[na _ _ (by lia)];exact h.right a ha
 .by_cases z:a=i/\b=j
  .obtain ⟨rfl,rfl⟩:=z;have:=h.across a b ha hb;rw[here,na a (b+1) (by lia)];lia
  .by_cases z2:a=i/\b+1=j
   .obtain ⟨rfl,rfl⟩:=z2;have:=h.across a b ha hb;rw[here,na a b (by lia)];rw[show b+1-1=b by lia]at q2;lia
   .rw[na _ _ z,na _ _ (by lia)];exact h.across a b ha hb
 .by_cases z:a=i/\b=j
  .obtain ⟨rfl,rfl⟩:=z;have:=h.down a b ha hb;rw[here,na (a+1) b (by lia)];lia
  .by_cases z2:a+1=i/\b=j
   .obtain ⟨rfl,rfl⟩:=z2;have:=h.down a b ha hb;rw[here,na a b (by lia)];rw[show a+1-1=a by lia];lia
   .rw[na _ _ z,na _ _ (by lia)];exact h.down a b ha hb
end
end Lib
namespace Lib
section
variable{lev:Nat->Lv}{cl:Nat->List Dat->Rd}{k:Nat}
def uh (hx:x.length<av)(he:aq cl e de=.ok (.int v))(hd:de[j]?=some (some (row x)))(hj:lv[j]?=some .full):
  aC lev cl (.expr (.meth .append (.var j) (.pair e .unit))) de lv=.next (de.set j (some (row (x++[v])))) lv:=by
 rw[xp,he];simp only[dR];rw[show xz de j=some (x.map Dat.int)from by simp[xz,hd,row]];simp only[Qv];rw[Ka hx];have hg:yQ lev e (.int v) j de lv=some (de,lv):=by
  unfold yQ;rw[Kb (by simp[zV,hj]),Ka (yE lev e _ (by simp))]
 rw[hg];simp[row]
def Fu (x:List Int)(h:t<x.length):(x.take (t+1)).sum=(x.take t).sum+x.getD t 0:=by
 rw[QY,W8,ve h];simp
noncomputable def iQ:Sm:=(.seq (.asg 4 (.bin .add (.var 4) (.idx (.idx (.var 0) (.var 2)) (.var 5)))) (.expr (.meth .append (.var 3) (.pair (.bin .sub (.bin .add (.idx (.idx (.var 1) (.var 2)) (.bin .add (.var 5) (.lit (.int 1)))) (.lit (.int 1))) (.bin .mul (.lit (.int 2)) (.var 4))) .unit))))
noncomputable def nc:Sm:=(.seq (.asg 3 (.lst (.pair (.bin .add (.var 2) (.lit (.int 1))) .unit))) (.seq (.asg 4 (.lit (.int 0))) (.seq (.forv 5 (.rng (.lit (.int 0)) (.blt .len (.pair (.var 0) .unit)) (.lit (.int 1))) iQ) (.expr (.meth .append (.var 1) (.pair (.var 3) .unit))))))
noncomputable def lz:Fn:=⟨1,6,(.seq (.asg 1 (.lst (.pair (.lrng (.bin .add (.blt .len (.pair (.var 0) .unit)) (.lit (.int 1)))) .unit))) (.seq (.forv 2 (.rng (.lit (.int 0)) (.blt .len (.pair (.var 0) .unit)) (.lit (.int 1))) nc) (.ret (.var 1))))⟩
noncomputable def dU:List Lv:=[.no,.full,.full,.full,.full,.full]
def Ft(R:List (List Int))(r c:Nat):zJ R (r+1) c=zJ R r c+1-2*((R.getD r []).take c).sum:=by
 unfold zJ;rw[wT];lia
def An(R:List (List Int))(j:Nat):zJ R 0 j=j:=by simp[zJ,PR]
def Am(R:List (List Int))(i:Nat):zJ R i 0=i:=by
 simp[zJ,qg]
def B5 (hs:Sq R)(hn:R.length<=12)(hr:r<R.length)(o4 o5:Option Dat):
  ∃p5,yx (λx de lv=>aC lev cl iQ (de.set 5 (some x)) (lv.set 5 (aN x))) (yd 0 1 R.length) [some (af R),some (af ((zn R.length (zJ R)).take (r+1))),some (.int r),some (row ((cH R.length (zJ R) (r+1)).take 1)),some (.int 0),o5] dU =
   .next [some (af R),some (af ((zn R.length (zJ R)).take (r+1))),some (.int r),some (row (cH R.length (zJ R) (r+1))),some (.int ((R.getD r []).take R.length).sum),p5] dU:=by
 have hx:R[r]?=some (R.getD r []):=by rw[Qh,Qq hr];rfl
 have hxl:(R.getD r []).length=R.length:=hs _ (Qt hx);have main:=yc (body:=λx de lv=>aC lev cl iQ (de.set 5 (some x)) (lv.set 5 (aN x)))
  (λt de lv=>∃p5,de=[some (af R),some (af ((zn R.length (zJ R)).take (r+1))),some (.int r),some (row ((cH R.length (zJ R) (r+1)).take (t+1))),some (.int ((R.getD r []).take t).sum),p5]/\lv=dU)
  (yd 0 1 R.length) (de:=[some (af R),some (af ((zn R.length (zJ R)).take (r+1))),some (.int r),some (row ((cH R.length (zJ R) (r+1)).take 1)),some (.int 0),o5]) (lv:=dU) ⟨o5,rfl,rfl⟩ ?_
 .obtain ⟨de',lv',e,p5,rfl,rfl⟩:=main;rw[xA,QL (i:=R.length+1) (l:=cH R.length (zJ R) (r+1)) (by simp[cH])]at e;exact⟨p5,e⟩
 .rintro t x de lv hx' ⟨p5,rfl,rfl⟩;have ht:t<R.length:=by
   have:=(Qa.mp hx').1;simpa using this
  rw[xB _ _ _ _ ht]at hx';cases hx';have e1:(0:Int)+1*(t:Int)=(t:Int):=by lia
  have g1:(yj (af R) (.int (r:Int))).bind (λx=>yj x (.int (t:Int)))=.ok (.int ((R.getD r []).getD t 0)):=by
   rw[qc hx];exact vK (ve (by lia))
  have g2:(yj (af ((zn R.length (zJ R)).take (r+1))) (.int (r:Int))).bind (λx=>yj x (.int ((t:Int)+1)))=.ok (.int (zJ R r (t+1))):=by
   rw[qc (x:=cH R.length (zJ R) r) (by rw[Qs (by lia),x8 (by lia)])];exact vK (c:=t+1) (wU (by lia))
  have h2:=wS 2 (((R.getD r []).take t).sum+(R.getD r []).getD t 0) (show small 2=true by decide);refine⟨_,_,?_,some (.int t),rfl,rfl⟩;simp only[e1,dU,Qg,Qf,show aN (.int (t:Int))=.full from by simp[aN]];unfold iQ;rw[kH,zK];simp only[zR,yk,za,zd,aQ,g1,xi,bh];rw[yF (by simp)];simp only[zj,Qg,Qf];rw[uh (v:=zJ R r (t+1)+1-2*(((R.getD r []).take t).sum+(R.getD r []).getD t 0)) (x:=(cH R.length (zJ R) (r+1)).take (t+1)) (by rw[QU];unfold av;lia)
   (by simp only[zR,yk,ze,za,zd,aQ,xi,vd,g2,h2]) rfl rfl]
  rw[<-Fu _ (by lia),<-Ft,QY (i:=t+1),wU (by lia),Vp];rfl
def B4 (hs:Sq R)(hn:R.length<=12)(hk:lev k≠.top):zQ lev cl k lz [af R]=.ok (af (zn R.length (zJ R))):=by
 have hlen:yy .len [af R]=.ok (.int R.length):=by simp[af]
 have hrng:vE (.int 0) (.int R.length) (.int 1)=.ok (.tup (yd 0 1 R.length)):=by
  rw[wF (by unfold av;lia)];simp[wV]
 have hl:∀(o1 o2 o3 o4 o5:Option Dat),aq cl (.lrng (.bin .add (.blt .len (.pair (.var 0) .unit)) (.lit (.int 1)))) [some (af R),o1,o2,o3,o4,o5]=.ok (row (zY (R.length+1))):=λo1 o2 o3 o4 o5=>by
  simp only[si,zR,yh,zp,zo,ze,zd,aQ,zh,hlen,xi];rw[Ka (by unfold av;lia),show((R.length:Int)+1).toNat=R.length+1 by lia,xa (by simp;unfold av;lia),<-jx]
 have hnew:yf [row (zY (R.length+1))]=.ok (af [zY (R.length+1)]):=by rw[xa (by simp[av])];rfl
 have h0:[zY (R.length+1)]=(zn R.length (zJ R)).take 1:=by
  rw[QY,x8 (by lia)];simp only[V4,Wx,Vp];congr 1;unfold zY cH;apply Q4;intro j _;rw[An]
 have main:=yc (body:=λx de lv=>aC lev cl nc (de.set 2 (some x)) (lv.set 2 (aN x)))
  (λr de lv=>∃p2 p3 p4 p5,de=[some (af R),some (af ((zn R.length (zJ R)).take (r+1))),p2,p3,p4,p5]/\lv=dU)
  (yd 0 1 R.length) (de:=[some (af R),some (af ((zn R.length (zJ R)).take 1)),none,none,none,none]) (lv:=dU) ⟨none,none,none,none,rfl,rfl⟩ ?_
 .obtain ⟨de',lv',e,p2,p3,p4,p5,rfl,rfl⟩:=main;rw[xA,QL (i:=R.length+1) (l:=zn R.length (zJ R)) (by simp[zn])]at e;unfold zQ;rw[Ka (by rfl)];show zS (lev k) (aC lev cl (.seq _ (.seq _ _)) [some (af R),none,none,none,none,none] [aN (af R),.full,.full,.full,.full,.full])=_;rw[show aN (af R)=.no from by simp[aN,af],zO,zK];simp only[yU,zp,zo,hl,aQ,zh,hnew,bh];rw[yb (by simp[af,row])];simp only[zj,Qg,Qf];rw[xP,xj];simp only[wl,ze,yh,zp,zo,zd,aQ,zh,hlen,hrng,bh,xC,xZ,xu,if_true];rw[h0];have e':=e;unfold dU at e';rw[e',zj];simp only[yz,za,zd,bh,cU,zS,show ax (af (zn R.length (zJ R)))=false from by simp[af],Q0,if_false,V8];cases z:lev k<;>first|rfl|exact Kc z hk
 .rintro r x de lv hx' ⟨p2,p3,p4,p5,rfl,rfl⟩;have hr:r<R.length:=by
   have:=(Qa.mp hx').1;simpa using this
  rw[xB _ _ _ _ hr]at hx';cases hx';have e1:(0:Int)+1*(r:Int)=(r:Int):=by lia
  obtain⟨q5,e⟩:=B5 (lev:=lev) (cl:=cl) hs hn hr p4 p5;have h1:(cH R.length (zJ R) (r+1)).take 1=[(r:Int)+1]:=by
   rw[QY,wU (by lia),Am];simp
  have hnew1:yf [.int ((r:Int)+1)]=.ok (row ((cH R.length (zJ R) (r+1)).take 1)):=by rw[h1];rfl
  refine⟨_,_,?_,some (.int r),none,some (.int ((R.getD r []).take R.length).sum),q5,rfl,rfl⟩;simp only[e1,dU,Qg,Qf,show aN (.int (r:Int))=.full from by simp[aN]];unfold nc;rw[zO,zK];simp only[yU,zp,zo,zR,ze,za,zd,aQ,zh,xi,hnew1,bh];rw[yb (by rw[h1];simp[row])];simp only[zj,Qg,Qf];rw[zO,zK];simp only[ze,bh];rw[yF (by simp)];simp only[zj,Qg,Qf];rw[kH,xj];simp only[wl,ze,yh,zp,zo,zd,aQ,zh,hlen,hrng,bh,xC,xZ,xu,if_true];have e':=e;unfold dU at e';rw[e',zj,xp];simp only[za,zd,dR];have hlim:min (r+1) (zn R.length (zJ R)).length<av:=by unfold av;lia
  rw[QY (i:=r+1),x8 (by lia),Vp];simp[xz,hlim,yQ,zV,row,af]
end
end Lib
namespace Lib
section
variable{lev:Nat->Lv}{cl:Nat->List Dat->Rd}{k:Nat}
noncomputable def lY:Fn:=⟨2,2,(.ite (.cmp .ne (.blt .len (.pair (.var 0) .unit)) (.blt .len (.pair (.var 1) .unit))) .never .skip)⟩
def Fs (h:A.length=B.length):zQ lev cl k lY [af A,af B]=.ok .non:=by
 have h1:∀A:List (List Int),yy .len [af A]=.ok (.int A.length):=λA=>by simp[af]
 unfold zQ;rw[Ka (by rfl)];show zS (lev k) (aC lev cl (.ite _ _ _) [some (af A),some (af B)] _)=_;simp only[wG,yP,yh,zp,zo,za,zd,aQ,zh,h1,h,lK,decide_true,Vk,bh,wm];simp[zS]
end
end Lib
namespace Lib
end Lib
namespace Lib
section
variable{lev:Nat->Lv}{cl:Nat->List Dat->Rd}{k:Nat}
noncomputable def ab(i:Int):Int:=if i<0 then -i else i
def Al(i:Int):yy .abs [.int i]=.ok (.int (ab i)):=rfl
noncomputable def fP(n:Nat)(G F:Nat->Nat->Int)(i:Nat):Int:=((Qr (n+1)).map λj=>ab (G i j-F i j)).sum
noncomputable def eh(n:Nat)(G F:Nat->Nat->Int):Int:=((Qr (n+1)).map (fP n G F)).sum
def CC(n:Nat)(G:Nat->Nat->Int):eh n G G=0:=by
 have z:∀m:Nat,(Qz m (0:Int)).sum=0:=λm=>by
  induction m with
  |zero=>rfl
  |succ m ih=>rw[QW,Vr,ih];rfl
 have e:fP n G G=λ_=>0:=by
  funext i;unfold fP;have:(λj=>ab (G i j-G i j))=λ_=>(0:Int):=by
   funext j;rw[Int.sub_self];rfl
  rw[this,List.map_const',WG,z]
 unfold eh;rw[e,List.map_const',WG,z]
def B3 (v:Int)(k:Lv):zS l (.ret (.int v) k)=.ok (.int v):=by simp[zS]
def pE (v:Bool)(k:Lv):zS l (.ret (.bl v) k)=.ok (.bl v):=by simp[zS]
noncomputable def lG:Fn:=⟨1,1,(.ret (.comp (.blt .list (.pair (.var 1) .unit)) (.var 0) (.lit (.bl true))))⟩
def CB(x:List Int)(h:x.length<=av):yy .list [row x]=.ok (row x):=by
 show(match xo (row x)with
  |some xs=>yf xs
  |none=>.no)=_
 exact xa (by simpa using h)
def s0 (h1:R.length<=av)(h2:∀x∈R,x.length<=av)(hj:de[j]?=some (some (af R)))(hm:de.length=m):aq cl (.comp (.blt .list (.pair (.var m) .unit)) (.var j) (.lit (.bl true))) de=.ok (af R):=by
 subst hm;rw[g7];simp only[xy hj,aQ];rw[show cE (af R)=some (R.map row)from jw (by simpa using h1)];simp only[];rw[x5 row row R [] (λv _=>by simp) (λx hx=>?_) (by simpa using h1)]
 .simp[af]
 .have e:aq cl (.var de.length) (de++[some (row x)])=.ok (row x):=xy (by rw[Qd (Qo _)];simp);simp only[yh,zp,zo,e,aQ,zh,CB x (h2 x hx)]
def tw(n:Nat)(G:Nat->Nat->Int):∀x∈zM n G,x.length=n:=λx hx=>by
 have:=vO n G x hx;rw[yG]at this;exact this
noncomputable def ly(kx:Nat):Fn:=⟨2,3,(.ret (.cmp .eq (.call kx (.pair (.var 0) (.pair (.var 1) .unit))) (.lit (.int 0))))⟩
def BZ (h:cl kx [a,b]=.ok (.int 0)):zQ lev cl k (ly kx) [a,b]=.ok (.bl true):=by
 unfold zQ;rw[Ka (by rfl)];show zS (lev k) (aC lev cl (.ret _) [some a,some b,none] _)=_;rw[yz];simp only[yP,zz,zp,zo,za,zd,ze,aQ,zh,h,ky,bh];exact pE _ _
noncomputable def pD:Fn:=⟨2,2,(.ite (.cmp .ne (.blt .len (.pair (.var 0) .unit)) (.blt .len (.pair (.var 1) .unit))) (.ret (.lit (.int 0))) .never)⟩
def BY (h:A.length≠B.length):zQ lev cl k pD [af A,af B]=.ok (.int 0):=by
 have h1:∀A:List (List Int),yy .len [af A]=.ok (.int A.length):=λA=>by simp[af]
 have h2:decide ((A.length:Int)=(B.length:Int))=false:=by
  rw[decide_eq_false_iff_not];lia
 unfold zQ;rw[Ka (by rfl)];show zS (lev k) (aC lev cl (.ite _ _ _) [some (af A),some (af B)] _)=_;simp only[wG,yP,yh,zp,zo,za,zd,aQ,zh,h1,lK,h2,Bool.not_false,bh,yz,ze];exact B3 _ _
end
end Lib
namespace Lib
theorem pC:∀{l:List (List Int×α)},l.Pairwise (λx y=>HT.lexLt x.1 y.1=true)->(∀q∈l,p.1≠q.1)->(kT p l).Pairwise λx y=>HT.lexLt x.1 y.1=true
 |[],_,_=>by show[p].Pairwise _;simp
 |q::r,h,hn=>by
  obtain⟨h1,h2⟩:=Q6.mp h;show(if dJ p.1 q.1 then p::q::r else q::kT p r).Pairwise _;rw[gL];cases e:HT.lexLt p.1 q.1 with
  |true=>
   refine Q6.mpr ⟨λy hy=>?_,h⟩;rcases Qc.mp hy with rfl|hy
   .exact e
   .exact L2.yZ _ _ _ e (h1 y hy)
  |false=>
   rw[Kb QZ];refine Q6.mpr ⟨λy hy=>?_,pC h2 λq hq=>hn q (by simp[hq])⟩;rcases Qc.mp ((jb p r).mem_iff.mp hy)with rfl|hy
   .cases e2:HT.lexLt q.1 y.1 with
    |true=>rfl
    |false=>exact Kc (L2.xT _ _ e e2) (hn q (by simp))
   .exact h1 y hy
theorem sZ:∀{z:List (List Int×α)},(z.map Prod.fst).Nodup->(xb z).Pairwise λx y=>HT.lexLt x.1 y.1=true
 |[],_=>.nil
 |p::z,h=>by
  rw[Wm,QS]at h;rw[wJ];exact pC (sZ h.2) λq hq e=>h.1 (by rw[e];exact List.mem_map_of_mem ((xr z).mem_iff.mp hq))
theorem sY:∀{ks:List (List Int)},ks.Pairwise (λx y=>HT.lexLt x y=true)->(∀k∈ks,k.length=n/\k.head?=c)->kr ks=true
 |[],_,_=>rfl
 |[_],_,_=>rfl
 |x::y::r,h,hk=>by
  show(dJ x y&&(decide (x.length=y.length)&&decide (x.head?=y.head?))&&kr (y::r))=true;obtain⟨h1,h2⟩:=Q6.mp h;rw[gL,h1 y (by simp),sY h2 λk hk'=>hk k (by simp[hk'])];obtain⟨a1,a2⟩:=hk x (by simp);obtain⟨b1,b2⟩:=hk y (by simp);simp[a1,a2,b1,b2]
def CA (hd:ks.Nodup)(h3:∀k∈ks,k.length=3):∃es,wx (List Int) (ks.map (0::·)) ks=some es/\es.Perm ks/\es.Pairwise λx y=>HT.lexLt x y=true:=by
 have hf:(ks.map (0::·)).zip ks=ks.map λk=>(0::k,k):=by
  clear hd h3
  induction ks with
  |nil=>rfl
  |cons k ks ih=>exact Ke ((0::k,k)::·) ih
 have hm:∀q∈xb ((ks.map (0::·)).zip ks),q.1=0::q.2/\q.2∈ks:=λq hq=>by
  have:=(xr _).mem_iff.mp hq;rw[hf]at this;obtain⟨k,hk,rfl⟩:=Wq.mp this;exact⟨rfl,hk⟩
 have pw:=sZ (z:=(ks.map (0::·)).zip ks) (by
  rw[hf,Wn];unfold VA;rw[Wf];exact hd.imp λ{a b} h e=>h (List.cons.inj e).2)
 refine⟨(xb ((ks.map (0::·)).zip ks)).map Prod.snd,?_,?_,?_⟩
 .rw[qw,sY (n:=4) (c:=some 0),Ka rfl]
  .rw[Wf];exact pw
  .intro k hk;obtain⟨q,hq,rfl⟩:=Wq.mp hk;obtain⟨e,m⟩:=hm q hq;rw[e];exact⟨by simp[h3 _ m],rfl⟩
 .have:=(xr ((ks.map (0::·)).zip ks)).map Prod.snd;rw[hf,Wn]at this;rw[hf]
  rwa[show(Prod.snd ∘ λk:List Int=>((0:Int)::k,k))=id from rfl,List.map_id]at this
 .rw[Wf];refine pw.imp_of_mem λ{a b} ha hb h=>?_;rw[(hm a ha).1,(hm b hb).1,HT.bi,Ka rfl]at h;exact h
noncomputable def dK(a b:Int):List Int:=(Qr ((a-b+1)/2).toNat).map λ(k:Nat)=>a+-2*(k:Int)
noncomputable def dg(G F:Nat->Nat->Int)(i j:Nat):List (List Int):=(dK (G i j) (F i j)).map λh=>[h,(i:Int),(j:Int)]
noncomputable def dS(n:Nat)(G F:Nat->Nat->Int)(i:Nat):List (List Int):=(Qr (n+1)).flatMap (dg G F i)
noncomputable def cN(n:Nat)(G F:Nat->Nat->Int):List (List Int):=(Qr (n+1)).flatMap (dS n G F)
def sX (p:(a-b)%2=0):h∈dK a b↔b<h/\h<=a/\(a-h)%2=0:=by
 unfold dK;rw[Wq];constructor
 .rintro ⟨k,hk,rfl⟩;have:=QT.mp hk;lia
 .rintro ⟨h1,h2,h3⟩;exact⟨((a-h)/2).toNat,QT.mpr (by lia),by lia⟩
def Fq(a b:Int):(dK a b).Nodup:=by
 unfold dK VA;rw[Wf];exact VS.imp λ{x y} h e=>h (by lia)
def cy:t∈cN n G F↔∃i j h,i<=n/\j<=n/\h∈dK (G i j) (F i j)/\t=[h,(i:Int),(j:Int)]:=by
 unfold cN dS dg;simp only[Vu,Wq,QT];constructor
 .rintro ⟨i,hi,j,hj,h,hh,rfl⟩;exact⟨i,j,h,by lia,by lia,hh,rfl⟩
 .rintro ⟨i,j,h,hi,hj,hh,rfl⟩;exact⟨i,by lia,j,by lia,h,hh,rfl⟩
theorem vh{α β:Type}{f:α->List β}:∀{l:List α},l.Nodup->(∀a∈l,(f a).Nodup)->(∀a∈l,∀b∈l,a≠b->∀x∈f a,x∉f b)->(l.flatMap f).Nodup
 |[],_,_,_=>QP
 |a::l,h,h1,h2=>by
  rw[QS]at h;rw[List.flatMap_cons,QF];refine⟨h1 a (by simp),vh h.2 (λb hb=>h1 b (by simp[hb])) (λb hb c hc=>h2 b (by simp[hb]) c (by simp[hc])),λx hx y hy e=>?_⟩;subst e;obtain⟨b,hb,hy⟩:=Vu.mp hy;exact h2 a (by simp) b (by simp[hb]) (λe=>h.1 (e▸hb)) x hx hy
def gh(n:Nat)(G F:Nat->Nat->Int):(cN n G F).Nodup:=by
 have c3:∀i j x,x∈dg G F i j->∃h,x=[h,(i:Int),(j:Int)]:=λi j x hx=>by
  obtain⟨h,_,rfl⟩:=Wq.mp hx;exact⟨h,rfl⟩
 refine vh VS (λi _=>vh VS (λj _=>?_) λa _ b _ ne x ha hb=>?_) λa _ b _ ne x ha hb=>?_
 .unfold dg VA;rw[Wf];exact(Fq _ _).imp λ{x y} h e=>h (by simpa using e)
 .obtain ⟨h,rfl⟩:=c3 _ _ _ ha;obtain⟨h',e⟩:=c3 _ _ _ hb;simp at e;exact ne (by lia)
 .obtain ⟨j,_,ha⟩:=Vu.mp ha;obtain⟨j',_,hb⟩:=Vu.mp hb;obtain⟨h,rfl⟩:=c3 _ _ _ ha;obtain⟨h',e⟩:=c3 _ _ _ hb;simp at e;exact ne (by lia)
noncomputable def eS(n:Nat)(S T:Nat->Nat->Int):Prop:=∀i j,i<=n->j<=n->S i j=T i j
noncomputable def bF(n:Nat):(Nat->Nat->Int)->List (Nat×Nat)->(Nat->Nat->Int)->Prop
 |S,[],T=>eS n S T
 |S,p::l,T=>0<p.1/\p.1<n/\0<p.2/\p.2<n/\lvl S p.1 p.2=true/\bF n (cJ S p.1 p.2) l T
theorem eS.lvl {S:Nat->Nat->Int}(h:eS n S T)(h1:0<i)(h2:i<n)(h3:0<j)(h4:j<n):Lib.lvl S i j=Lib.lvl T i j:=by
 unfold Lib.lvl;rw[h (i+1) j (by lia) (by lia),h (i-1) j (by lia) (by lia),h i (j-1) (by lia) (by lia),h i (j+1) (by lia) (by lia)]
def eS.trn{n:Nat}{S T:Nat->Nat->Int}(h:eS n S T){i j:Nat}(h2:i<n)(h4:j<n):eS n (Lib.cJ S i j) (Lib.cJ T i j):=λa b ha hb=>by
 unfold Lib.cJ up;rw[h (i-1) j (by lia) (by lia),h i j (by lia) (by lia),h a b ha hb]
theorem bF.congr:∀{l:List (Nat×Nat)}{S S':Nat->Nat->Int},eS n S S'->bF n S l T->bF n S' l T
 |[],S,S',h,p=>λi j hi hj=>(h i j hi hj).symm.trans (p i j hi hj)
 |q::l,S,S',h,⟨a,b,c,d,e,f⟩=>⟨a,b,c,d,by rw[<-h.lvl a b c d];exact e,bF.congr (h.trn b d) f⟩
theorem bF.app (h:bF n T m U):∀{l:List (Nat×Nat)}{S:Nat->Nat->Int},bF n S l T->bF n S (l++m) U
 |[],S,p=>h.congr λi j hi hj=>(p i j hi hj).symm
 |q::l,S,⟨a,b,c,d,e,f⟩=>⟨a,b,c,d,e,bF.app h f⟩
def Cz {S:Nat->Nat->Int}(h1:0<i):cJ (cJ S i j) i j=S:=by
 funext a b;unfold cJ up;by_cases h:a=i/\b=j
 .obtain ⟨rfl,rfl⟩:=h;simp[show ¬(a-1=a) by lia];lia
 .simp[h]
def Cy {S:Nat->Nat->Int}(h1:0<i)(h3:0<j):lvl (cJ S i j) i j=lvl S i j:=by
 unfold lvl cJ up;simp[show ¬(i-1=i) by lia,show ¬(j-1=j) by lia]
theorem bF.rev:∀{l:List (Nat×Nat)}{S T:Nat->Nat->Int},bF n S l T->bF n T l.reverse S
 |[],S,T,p=>λi j hi hj=>(p i j hi hj).symm
 |q::l,S,T,⟨a,b,c,d,e,f⟩=>by
  rw[Wp];refine bF.app (T:=cJ S q.1 q.2) (m:=[q]) (U:=S) ?_ f.rev;exact⟨a,b,c,d,by rw[Cy a c];exact e,by rw[Cz a];exact λ_ _ _ _=>rfl⟩
noncomputable def pt(t:List Int):Nat×Nat:=((t.getD 1 0).toNat,(t.getD 2 0).toNat)
noncomputable def nG(n:Nat)(S F:Nat->Nat->Int)(Q:List (List Int)):Prop:=∀t,t∈Q↔∃i j h,i<=n/\j<=n/\F i j<h/\h<=S i j/\(S i j-h)%2=0/\t=[h,(i:Int),(j:Int)]
def nh {i j i' j':Nat}(e:h<h'):HT.lexLt [h,(i:Int),(j:Int)] [h',(i':Int),(j':Int)]=true:=by
 rw[HT.bi,Kb (by lia)];exact Kf e
def HF.inner {S:Nat->Nat->Int}(hS:HF n S)(hF:HF n F)(hi:i<=n)(hj:j<=n)(h:F i j<S i j):0<i/\i<n/\0<j/\j<n:=by
 refine⟨?_,?_,?_,?_⟩
 .rcases VN i with e|e
  .subst e;rw[hS.top j hj,hF.top j hj]at h;lia
  .exact e
 .rcases Nat.lt_or_eq_of_le hi with e|e
  .exact e
  .subst e;rw[hS.low j hj,hF.low j hj]at h;lia
 .rcases VN j with e|e
  .subst e;rw[hS.left i hi,hF.left i hi]at h;lia
  .exact e
 .rcases Nat.lt_or_eq_of_le hj with e|e
  .exact e
  .subst e;rw[hS.right i hi,hF.right i hi]at h;lia
theorem gk (hF:HF n F):∀(Q:List (List Int)) (S:Nat->Nat->Int),HF n S->Q.Nodup->(Q.Pairwise λx y=>HT.lexLt y x=true)->nG n S F Q->∃T,bF n S (Q.map pt) T/\∀i j,i<=n->j<=n->T i j=if F i j<S i j then F i j else S i j
 |[],S,hS,_,_,hL=>⟨S,λ_ _ _ _=>rfl,λi j hi hj=>by
  rw[Kb λh=>?_];have:=(hL [S i j,(i:Int),(j:Int)]).mpr ⟨i,j,S i j,hi,hj,h,WZ _,by lia,rfl⟩;cases this⟩
 |t::Q,S,hS,hd,hp,hL=>by
  rw[QS]at hd;obtain⟨hp1,hp2⟩:=Q6.mp hp;obtain⟨i,j,h,hi,hj,f1,f2,f3,rfl⟩:=(hL t).mp (by simp);have cq:∀(h':Int) (i' j':Nat),h<h'->[h',(i':Int),(j':Int)]∉[h,(i:Int),(j:Int)]::Q:=λh' i' j' lt hm=>by
   rcases Qc.mp hm with e|hm
   .simp at e;lia
   .have a:=hp1 _ hm;have b:=L2.yZ _ _ _ a (nh (i:=i) (j:=j) (i':=i') (j':=j') lt);rw[L2.xx]at b;cases b
  have par:=λa b (ha:a<=n) (hb:b<=n)=>(⟨hS.par a b ha hb,hF.par a b ha hb⟩:_/\_);have hh:h=S i j:=by
   rcases Int.lt_or_eq_of_le f2 with lt|e
   .exact Kc ((hL _).mpr ⟨i,j,S i j,hi,hj,by lia,WZ _,by lia,rfl⟩) (cq _ i j lt)
   .exact e
  subst hh;obtain⟨i1,i2,j1,j2⟩:=hS.inner hF hi hj f1;have pij:=par i j hi hj;have nb:∀a b,a<=n->b<=n->(S a b=S i j+1\/S a b=S i j-1)->F a b<=F i j+1->S a b=S i j-1:=λa b ha hb q q'=>by
   rcases q with q|q
   .exact Kc ((hL _).mpr ⟨a,b,S a b,ha,hb,by lia,WZ _,by lia,rfl⟩) (cq _ a b (by lia))
   .exact q
  have u1:S (i+1) j=S i j-1:=nb _ _ (by lia) hj (by have:=hS.down i j i2 hj;lia) (by have:=hF.down i j i2 hj;lia);have u2:S (i-1) j=S i j-1:=nb _ _ (by lia) hj (by have:=hS.down (i-1) j (by lia) hj;rw[show i-1+1=i by lia]at this;lia) (by have:=hF.down (i-1) j (by lia) hj;rw[show i-1+1=i by lia]at this;lia);have u3:S i (j+1)=S i j-1:=nb _ _ hi (by lia) (by have:=hS.across i j hi j2;lia) (by have:=hF.across i j hi j2;lia);have u4:S i (j-1)=S i j-1:=nb _ _ hi (by lia) (by have:=hS.across i (j-1) hi (by lia);rw[show j-1+1=j by lia]at this;lia) (by have:=hF.across i (j-1) hi (by lia);rw[show j-1+1=j by lia]at this;lia);have hl:lvl S i j=true:=by unfold lvl;simp[u1,u2,u3,u4]
  have he:cJ S i j i j=S i j-2:=by
   have:cJ S i j i j=2*S (i-1) j-S i j:=td;rw[this,u2];lia
  have ho:∀a b,¬(a=i/\b=j)->cJ S i j a b=S a b:=λa b z=>tx z;obtain⟨T,hT,eT⟩:=gk hF Q (cJ S i j) (hS.trn i1 i2 j1 j2 hl) hd.2 hp2 λt=>by
   constructor
   .intro ht;obtain⟨a,b,h,ha,hb,g1,g2,g3,rfl⟩:=(hL t).mp (by simp[ht]);refine⟨a,b,h,ha,hb,g1,?_,?_,rfl⟩
    all_goals
     by_cases z:a=i/\b=j
     .obtain ⟨rfl,rfl⟩:=z;rw[he];have:h≠S a b:=λe=>hd.1 (by rw[<-e];exact ht);lia
     .rw[ho a b z];assumption
   .rintro ⟨a,b,h,ha,hb,g1,g2,g3,rfl⟩;have hm:[h,(a:Int),(b:Int)]∈[S i j,(i:Int),(j:Int)]::Q:=(hL _).mpr ⟨a,b,h,ha,hb,g1,by
     by_cases z:a=i/\b=j
     .obtain ⟨rfl,rfl⟩:=z;rw[he]at g2;lia
     .rw[ho a b z]at g2;exact g2,by
     by_cases z:a=i/\b=j
     .obtain ⟨rfl,rfl⟩:=z;rw[he]at g3;lia
     .rw[ho a b z]at g3;exact g3,rfl⟩
    rcases Qc.mp hm with e|hm
    .simp at e;obtain⟨e1,e2,e3⟩:=e;obtain rfl:a=i:=by lia
     obtain rfl:b=j:=by lia
     rw[he]at g2;lia
    .exact hm
  refine⟨T,⟨?_,?_,?_,?_,?_,?_⟩,λa b ha hb=>?_⟩
  .show 0<((i:Int)).toNat;lia
  .show ((i:Int)).toNat<n;lia
  .show 0<((j:Int)).toNat;lia
  .show ((j:Int)).toNat<n;lia
  .show lvl S ((i:Int)).toNat ((j:Int)).toNat=true;rw[WK,WK];exact hl
  .show bF n (cJ S ((i:Int)).toNat ((j:Int)).toNat) _ T;rw[WK,WK];exact hT
  .rw[eT a b ha hb];by_cases z:a=i/\b=j
   .obtain ⟨rfl,rfl⟩:=z;rw[he];rw[Ka f1];split<;>lia
   .rw[ho a b z]
def Cw (hG:HF n G)(hF:HF n F):∃es,wx (List Int) ((cN n G F).map (0::·)) (cN n G F)=some es/\es.length=(cN n G F).length/\(∀t∈es,t∈cN n G F)/\∃T,bF n G (es.reverse.map pt) T/\∀i j,i<=n->j<=n->T i j=if F i j<G i j then F i j else G i j:=by
 obtain⟨es,h1,h2,h3⟩:=CA (gh n G F) λk hk=>by
  obtain⟨i,j,h,_,_,_,rfl⟩:=cy.mp hk;rfl
 refine⟨es,h1,h2.length_eq,λt ht=>h2.mem_iff.mp ht,gk hF es.reverse G hG (WU.mpr ((h2.nodup_iff.mpr (gh n G F)).imp Ne.symm)) (WU.mpr h3) λt=>?_⟩;rw[Vt,h2.mem_iff,cy];constructor
 .rintro ⟨i,j,h,hi,hj,hh,rfl⟩;obtain⟨a,b,c⟩:=(sX (by have:=hG.par i j hi hj;have:=hF.par i j hi hj;lia)).mp hh;exact⟨i,j,h,hi,hj,a,b,c,rfl⟩
 .rintro ⟨i,j,h,hi,hj,a,b,c,rfl⟩;exact⟨i,j,h,hi,hj,(sX (by have:=hG.par i j hi hj;have:=hF.par i j hi hj;lia)).mpr ⟨a,b,c⟩,rfl⟩
theorem qh:∀l:List Nat,(∀i∈l,d i=2*((f i:Int)+g i))->(l.map d).sum=2*(((l.map f).sum:Nat)+((l.map g).sum:Nat):Int)
 |[],_=>rfl
 |i::l,h=>by
  rw[Wm,Wm,Wm,Vr,Vr,Vr,qh l λj hj=>h j (by simp[hj]),h i (by simp)]
  push_cast
  lia
def BX (hG:HF n G)(hF:HF n F):eh n G F/2=((cN n G F).length+(cN n F G).length:Nat):=by
 have len:∀A B:Nat->Nat->Int,(cN n A B).length=((Qr (n+1)).map λi=>((Qr (n+1)).map λj=>((A i j-B i j+1)/2).toNat).sum).sum:=λA B=>by
  unfold cN dS dg dK;simp[List.length_flatMap]
 rw[len,len];unfold eh;rw[qh (f:=λi=>((Qr (n+1)).map λj=>((G i j-F i j+1)/2).toNat).sum) (g:=λi=>((Qr (n+1)).map λj=>((F i j-G i j+1)/2).toNat).sum) _ λi hi=>?_]
 .push_cast;lia
 .unfold fP;rw[qh (f:=λj=>((G i j-F i j+1)/2).toNat) (g:=λj=>((F i j-G i j+1)/2).toNat) _ λj hj=>?_];have hi:=QT.mp hi;have hj:=QT.mp hj;have p1:=hG.par i j (by lia) (by lia);have p2:=hF.par i j (by lia) (by lia);unfold ab;split<;>lia
end Lib
namespace Lib
section
variable{lev:Nat->Lv}{cl:Nat->List Dat->Rd}{k:Nat}
noncomputable def fF:Ex:=(.lst (.pair (.idx (.idx (.var 0) (.bin .sub (.var 1) (.lit (.int 1)))) (.var 2)) (.pair (.idx (.idx (.var 0) (.bin .add (.var 1) (.lit (.int 1)))) (.var 2)) (.pair (.idx (.idx (.var 0) (.var 1)) (.bin .sub (.var 2) (.lit (.int 1)))) (.pair (.idx (.idx (.var 0) (.var 1)) (.bin .add (.var 2) (.lit (.int 1)))) .unit)))))
noncomputable def iD:Fn:=⟨3,4,(.seq (.asg 3 fF) (.seq (.expr (.blt .sum (.pair (.var 3) .unit))) (.ite (.cmp .eq (.blt .len (.pair (.var 3) .unit)) (.lit (.int 4))) (.ret (.and (.cmp .eq (.idx (.var 3) (.lit (.int 0))) (.idx (.var 3) (.lit (.int 1)))) (.and (.cmp .eq (.idx (.var 3) (.lit (.int 0))) (.idx (.var 3) (.lit (.int 2)))) (.cmp .eq (.idx (.var 3) (.lit (.int 0))) (.idx (.var 3) (.lit (.int 3))))))) .never)))⟩
def iC (G:Nat->Nat->Int)(hi:i<=n)(hj:j<=n):yj (af (zn n G)) (.int i)=.ok (row (cH n G i))/\yj (row (cH n G i)) (.int j)=.ok (.int (G i j)):=
 ⟨yK (by rw[Ql,x8 hi];rfl),yK (by rw[Ql,wU hj];rfl)⟩
def BW (G:Nat->Nat->Int)(h1:0<i)(h2:i<n)(h3:0<j)(h4:j<n):zQ lev cl k iD [af (zn n G),.int i,.int j]=.ok (.bl (lvl G i j)):=by
 have i1:((i:Int)-1)=((i-1:Nat):Int):=by lia
 have i2:((i:Int)+1)=((i+1:Nat):Int):=by lia
 have j1:((j:Int)-1)=((j-1:Nat):Int):=by lia
 have j2:((j:Int)+1)=((j+1:Nat):Int):=by lia
 obtain⟨a1,a2⟩:=iC (n:=n) G (i:=i-1) (j:=j) (by lia) (by lia);obtain⟨b1,b2⟩:=iC (n:=n) G (i:=i+1) (j:=j) (by lia) (by lia);obtain⟨c1,c2⟩:=iC (n:=n) G (i:=i) (j:=j-1) (by lia) (by lia);obtain⟨d1,d2⟩:=iC (n:=n) G (i:=i) (j:=j+1) (by lia) (by lia);have hnew:∀a b c d:Int,yf [.int a,.int b,.int c,.int d]=.ok (row [a,b,c,d]):=λ_ _ _ _=>rfl;have e4:aq cl fF [some (af (zn n G)),some (.int i),some (.int j),none]=.ok (row [G (i-1) j,G (i+1) j,G i (j-1),G i (j+1)]):=by
  unfold fF;simp only[yU,yk,zR,zp,zo,ze,za,zd,aQ,zh,vd,xi,i1,i2,j1,j2,a1,a2,b1,b2,c1,c2,d1,d2,hnew]
 have x0:∀a b c d:Int,yj (row [a,b,c,d]) (.int 0)=.ok (.int a):=λa b c d=>yK (i:=0) rfl;have x1:∀a b c d:Int,yj (row [a,b,c,d]) (.int 1)=.ok (.int b):=λa b c d=>yK (i:=1) rfl;have x2:∀a b c d:Int,yj (row [a,b,c,d]) (.int 2)=.ok (.int c):=λa b c d=>yK (i:=2) rfl;have x3:∀a b c d:Int,yj (row [a,b,c,d]) (.int 3)=.ok (.int d):=λa b c d=>yK (i:=3) rfl;have hl:∀a b c d:Int,yy .len [row [a,b,c,d]]=.ok (.int 4):=λ_ _ _ _=>rfl;unfold zQ;rw[Ka (by rfl)];show zS (lev k) (aC lev cl (.seq (.asg 3 fF) (.seq (.expr (.blt .sum (.pair (.var 3) .unit))) (.ite _ _ .never))) [some (af (zn n G)),some (.int i),some (.int j),none] _)=_;have st:∀(X:Sm) (hv:yg (.asg 3 fF) X=none) (lv:List Lv),∃lv',aC lev cl (.seq (.asg 3 fF) X) [some (af (zn n G)),some (.int i),some (.int j),none] lv=aC lev cl X [some (af (zn n G)),some (.int i),some (.int j),some (row [G (i-1) j,G (i+1) j,G i (j-1),G i (j+1)])] lv':=λX hv lv=>by
  rw[zD lev cl _ lv hv,zK,e4];simp only[bh];unfold vG;split<;>exact⟨_,rfl⟩
 obtain⟨lv',e⟩:=st (.seq (.expr (.blt .sum (.pair (.var 3) .unit))) (.ite (.cmp .eq (.blt .len (.pair (.var 3) .unit)) (.lit (.int 4))) (.ret (.and (.cmp .eq (.idx (.var 3) (.lit (.int 0))) (.idx (.var 3) (.lit (.int 1)))) (.and (.cmp .eq (.idx (.var 3) (.lit (.int 0))) (.idx (.var 3) (.lit (.int 2)))) (.cmp .eq (.idx (.var 3) (.lit (.int 0))) (.idx (.var 3) (.lit (.int 3))))))) .never)) rfl (xh iD [af (zn n G),.int i,.int j]);rw[e,zD lev cl _ lv' rfl];have e5:aC lev cl (.expr (.blt .sum (.pair (.var 3) .unit))) [some (af (zn n G)),some (.int i),some (.int j),some (row [G (i-1) j,G (i+1) j,G i (j-1),G i (j+1)])] lv'=.next [some (af (zn n G)),some (.int i),some (.int j),some (row [G (i-1) j,G (i+1) j,G i (j-1),G i (j+1)])] lv':=by
  have q:∀(de:aJ) (lv:List Lv),aC lev cl (.expr (.blt .sum (.pair (.var 3) .unit))) de lv=(aq cl (.blt .sum (.pair (.var 3) .unit)) de).bindS λ_=>.next de lv:=λ_ _=>rfl;rw[q];simp only[yh,zp,zo,za,zd,aQ,zh,tj,bh]
 rw[e5,zj,wG];simp only[yP,yh,zp,zo,ze,za,zd,aQ,zh,hl,ky,decide_true,bh,yz];have an:∀(p q:Ex) (x y:Bool) (de:aJ),aq cl p de=.ok (.bl x)->aq cl q de=.ok (.bl y)->aq cl (.and p q) de=.ok (.bl (x&&y)):=λp q x y de h1 h2=>by
  rw[ms,h1];cases x with
  |true=>exact h2
  |false=>rfl
 rw[an _ _ (decide (G (i-1) j=G (i+1) j)) (decide (G (i-1) j=G i (j-1))&&decide (G (i-1) j=G i (j+1))) _ (by simp only[yP,yk,ze,za,zd,aQ,x0,x1,ky])
  (an _ _ _ _ _ (by simp only[yP,yk,ze,za,zd,aQ,x0,x2,ky]) (by simp only[yP,yk,ze,za,zd,aQ,x0,x3,ky]))]
 simp only[bh];rw[pE];unfold lvl;rw[show decide (G (i-1) j=G (i+1) j)=decide (G (i+1) j=G (i-1) j)from by congr 1;exact propext eq_comm,show decide (G (i-1) j=G i (j-1))=decide (G i (j-1)=G (i-1) j)from by congr 1;exact propext eq_comm,show decide (G (i-1) j=G i (j+1))=decide (G i (j+1)=G (i-1) j)from by congr 1;exact propext eq_comm]
end
end Lib
namespace Lib
section
variable{lev:Nat->Lv}{cl:Nat->List Dat->Rd}{k:Nat}
def x9 (h:aq cl e de=.ok d)(hl:aR lev e d=.full)(hv:yg (.asg i e) X=none)(lv:List Lv):aC lev cl (.seq (.asg i e) X) de lv=aC lev cl X (de.set i (some d)) (lv.set i .full):=by
 rw[zD lev cl de lv hv,zK,h];simp only[bh];rw[yb hl];simp only[zj]
noncomputable def iB(ks kc kd:Nat):Fn:=⟨1,3,(.seq (.asg 1 (.call ks (.pair (.call kc (.pair (.var 0) (.pair (.lit (.int 0)) .unit))) .unit))) (.seq (.asg 2 (.call kd (.pair (.call kc (.pair (.var 0) (.pair (.lit (.int 1)) .unit))) (.pair (.var 1) .unit)))) (.seq (.ite (.cmp .eq (.bin .mod (.bin .fdiv (.call kc (.pair (.var 0) (.pair (.lit (.int 0)) .unit))) (.lit (.int 64))) (.lit (.int 8))) (.lit (.int 3))) (.ret (.tup (.pair (.var 1) (.pair (.var 2) (.pair (.comp (.blt .list (.pair (.var 3) .unit)) (.var 2) (.lit (.bl true))) .unit))))) .skip) (.ret (.tup (.pair (.var 1) (.pair (.var 2) (.pair (.call kd (.pair (.call kc (.pair (.var 0) (.pair (.lit (.int 2)) .unit))) (.pair (.var 1) .unit))) .unit))))))))⟩
def BV (hc:∀i:Nat,∃c:Int,cl kc [.scr ns,.int i]=.ok (.int c))(hs:∀c:Int,∃n:Nat,1<=n/\n<=12/\cl ks [.int c]=.ok (.int n))(hd:∀{n:Nat},1<=n->n<=12->∀c:Int,∃G,HF n G/\cl kd [.int c,.int n]=.ok (af (zM n G)))(ld:lev kd=.full)(hk:lev k=.no):
  ∃(n:Nat) (G F:Nat->Nat->Int),1<=n/\n<=12/\HF n G/\HF n F/\zQ lev cl k (iB ks kc kd) [.scr ns]=.ok (.tup [.int n,af (zM n G),af (zM n F)]):=by
 obtain⟨c0,e0⟩:=hc 0;obtain⟨c1,e1⟩:=hc 1;obtain⟨c2,e2⟩:=hc 2;have e0':cl kc [.scr ns,.int 0]=.ok (.int c0):=e0;have e1':cl kc [.scr ns,.int 1]=.ok (.int c1):=e1;have e2':cl kc [.scr ns,.int 2]=.ok (.int c2):=e2;obtain⟨n,n1,n2,en⟩:=hs c0;obtain⟨G,hG,eG⟩:=hd n1 n2 c1;obtain⟨F,hF,eF⟩:=hd n1 n2 c2;have fin:∀(M:Nat->Nat->Int) (l:Lv),zS (lev k) (.ret (.tup [.int n,af (zM n G),af (zM n M)]) l)=.ok (.tup [.int n,af (zM n G),af (zM n M)]):=λM l=>by
  rw[hk];simp[zS,jG]
 have go:∃M,HF n M/\zQ lev cl k (iB ks kc kd) [.scr ns]=.ok (.tup [.int n,af (zM n G),af (zM n M)]):=by
  unfold zQ;rw[Ka (by rfl)];show ∃M,HF n M/\zS (lev k) (aC lev cl (.seq (.asg 1 _) (.seq (.asg 2 _) (.seq (.ite _ _ .skip) (.ret _)))) [some (.scr ns),none,none] _)=_;rw[x9 (d:=.int n) (by simp only[zz,zp,zo,zd,ze,aQ,zh,e0',en]) (by simp) rfl];simp only[Qg,Qf];rw[x9 (d:=af (zM n G)) (by simp only[zz,zp,zo,za,zd,ze,aQ,zh,e1',eG]) (by simp[ld]) rfl];simp only[Qg,Qf];rw[xP,wG];simp only[yP,zR,zz,zp,zo,zd,ze,aQ,zh,e0',vJ c0 64 (by decide) (by decide),xO (c0/64) 8 (by decide),ky,bh];have hlen:∀m:Nat,m<=12->m<=av:=λm hm=>by unfold av;lia
  have ec:=s0 (cl:=cl) (R:=zM n G) (j:=2) (m:=3) (by rw[yG];exact hlen n n2) (λx hx=>by rw[tw n G x hx];exact hlen n n2) (de:=[some (.scr ns),some (.int n),some (af (zM n G))]) rfl rfl;have l3:∀a b c:Dat,(if[a,b,c].length<=av then Rd.ok (.tup [a,b,c])else .no)=.ok (.tup [a,b,c]):=λa b c=>Ka (by unfold av;simp);cases z:decide (c0/64%8=3)with
  |true=>
   refine⟨G,hG,?_⟩;simp only[yz,pP,zp,zo,za,zd,ec,aQ,zh,l3,bh,DH];exact fin G _
  |false=>
   refine⟨F,hF,?_⟩;simp only[wm,zj,yz,pP,zz,zp,zo,za,zd,ze,aQ,zh,e2',eF,l3,bh];exact fin F _
 obtain⟨M,hM,e⟩:=go;exact⟨n,G,M,n1,n2,hG,hM,e⟩
end
end Lib
namespace Lib
section
noncomputable def tr(G:Nat->Nat->Int):Nat->Nat->Int:=λi j=>G j i
end
end Lib
namespace Lib
section
theorem bv:∀(vs:List Nat) (lv:List Lv),(aO vs lv).length=lv.length
 |[],lv=>rfl
 |i::vs,lv=>by
  show(aO vs (lv.set i .no)).length=_;rw[bv vs,WE]
def tv:(yN e de lv).length=lv.length:=by
 unfold yN;split
 .unfold bW;split<;>rw[WE,bv]
 .exact bv _ _
end
end Lib
namespace Lib
end Lib
namespace Lib
theorem HF.left_b (h:HF n G):∀i j,i<=n->j<=n->(i:Int)-j<=G i j/\G i j<=(i:Int)+j
 |i,0,hi,_=>by rw[h.left i hi];simp
 |i,j+1,hi,hj=>by
  have q:=HF.left_b h i j hi (by lia);have z:=h.across i j hi (by lia);lia
end Lib
namespace Lib
section
variable{lev:Nat->Lv}{cl:Nat->List Dat->Rd}{k:Nat}
noncomputable def TD(L:List (List Int)):Dat:=.lst (L.map λt=>.tup (t.map Dat.int))
noncomputable def PD(l:List (Nat×Nat)):Dat:=.lst (l.map λp=>.tup [.int (p.1:Int),.int (p.2:Int)])
noncomputable def iT:Sm:=.expr (.meth .append (.var 2) (.pair (.tup (.pair (.var 5) (.pair (.var 3) (.pair (.var 4) .unit)))) .unit))
noncomputable def iU:Sm:=.forv 5 (.rng (.idx (.idx (.var 0) (.var 3)) (.var 4)) (.idx (.idx (.var 1) (.var 3)) (.var 4)) (.neg (.lit (.int 2)))) iT
noncomputable def iV:Sm:=.forv 4 (.rng (.lit (.int 0)) (.blt .len (.pair (.var 0) .unit)) (.lit (.int 1))) iU
noncomputable def lW:Fn:=⟨2,6,(.seq (.asg 2 (.lst .unit)) (.seq (.forv 3 (.rng (.lit (.int 0)) (.blt .len (.pair (.var 0) .unit)) (.lit (.int 1))) iV) (.ret (.dop .srt (.var 2) .unit .unit))))⟩
noncomputable def cx:List Lv:=[.no,.no,.full,.full,.full,.full]
def BU(L:List (List Int))(hL:L.length<av)(u v:Option Dat)(h i j:Int):
  aC lev cl iT [u,v,some (TD L),some (.int i),some (.int j),some (.int h)] cx=.next [u,v,some (TD (L++[[h,i,j]])),some (.int i),some (.int j),some (.int h)] cx:=by
 unfold iT;rw[xp];rw[show aq cl (.tup (.pair (.var 5) (.pair (.var 3) (.pair (.var 4) .unit)))) [u,v,some (TD L),some (.int i),some (.int j),some (.int h)]=.ok (.tup [.int h,.int i,.int j])from rfl];simp only[dR];rw[show xz [u,v,some (TD L),some (.int i),some (.int j),some (.int h)] 2=some (L.map λt=>.tup (t.map Dat.int))from rfl];simp only[Qv];rw[Ka hL];have hg:∀e de,yQ lev e (.tup [.int h,.int i,.int j]) 2 de cx=some (de,cx):=λe de=>by
  unfold yQ;rw[Kb (by simp[zV,cx]),Ka (yE lev e _ (by simp))]
 rw[hg];simp[TD]
theorem vP {α β:Type}{f:α->List β}:∀{l:List α},(∀a∈l,(f a).length<=c)->(l.flatMap f).length<=l.length*c
 |[],_=>by simp
 |a::l,h=>by
  rw[List.flatMap_cons,QC,WM,Nat.succ_mul];have h1:=h a (by simp);have h2:=vP λb hb=>h b (Qp _ hb);lia
def jD{β:Type}(f:Nat->List β)(t:Nat):(Qr (t+1)).flatMap f=(Qr t).flatMap f++f t:=by
 rw[Vm,List.flatMap_append];simp
def BS (hn:n<=12)(hG:HF n G)(hF:HF n F)(hi:i<=n)(hj:j<=n)(L:List (List Int))(hL:L.length<=3000)(o5:Option Dat):
  ∃p5,aC lev cl iU [some (af (zn n G)),some (af (zn n F)),some (TD L),some (.int i),some (.int j),o5] cx=.next [some (af (zn n G)),some (af (zn n F)),some (TD (L++dg G F i j)),some (.int i),some (.int j),p5] cx:=by
 have b1:=hG.left_b i j hi hj;have b2:=hF.left_b i j hi hj;have g1:=iS (G:=G) hi hj;have g2:=iS (G:=F) hi hj;have hN:((G i j-F i j+1)/2).toNat<=13:=by lia
 have hr:vE (.int (G i j)) (.int (F i j)) (.int (-2))=.ok (.tup (yd (G i j) (-2) ((G i j-F i j+1)/2).toNat)):=by
  rw[wF (by unfold av;lia)];simp[wV]
 unfold iU;rw[xj];simp only[wl,yk,g6,ze,za,zd,aQ,g1,g2];simp only[hr,bh,xC,xZ,xu,if_true];have main:=yc (body:=λx de lv=>aC lev cl iT (de.set 5 (some x)) (lv.set 5 (aN x)))
  (λt de lv=>∃p5,de=[some (af (zn n G)),some (af (zn n F)),some (TD (L++(dg G F i j).take t)),some (.int i),some (.int j),p5]/\lv=cx)
  (yd (G i j) (-2) ((G i j-F i j+1)/2).toNat) (de:=[some (af (zn n G)),some (af (zn n F)),some (TD L),some (.int i),some (.int j),o5]) (lv:=cx) ⟨o5,by simp,rfl⟩ ?_
 .obtain ⟨de',lv',e,p5,rfl,rfl⟩:=main;rw[xA,QL (by simp[dg,dK])]at e;exact⟨p5,by simpa using e⟩
 .rintro t x de lv hx ⟨p5,rfl,rfl⟩;have ht:t<((G i j-F i j+1)/2).toNat:=by
   have:=(Qa.mp hx).1;simpa using this
  rw[xB _ _ _ _ ht]at hx;cases hx;refine⟨_,_,?_,some (.int (G i j+-2*(t:Int))),rfl,rfl⟩;have e0:cx.set 5 (aN (.int (G i j+-2*(t:Int))))=cx:=by simp[cx,aN]
  simp only[Qg,Qf,e0];rw[BU _ (by simp;unfold av;lia)];have e1:(dg G F i j)[t]?=some [G i j+-2*(t:Int),(i:Int),(j:Int)]:=by simp[dg,dK,ht]
  rw[Qn,QY,e1];rfl
def BR (hn:n<=12)(hG:HF n G)(hF:HF n F)(hi:i<=n)(L:List (List Int))(hL:L.length<=2600)(o4 o5:Option Dat):
  ∃p4 p5,aC lev cl iV [some (af (zn n G)),some (af (zn n F)),some (TD L),some (.int i),o4,o5] cx=.next [some (af (zn n G)),some (af (zn n F)),some (TD (L++dS n G F i)),some (.int i),p4,p5] cx:=by
 have hlen:yy .len [af (zn n G)]=.ok (.int ((n+1:Nat):Int)):=by
  have:yy .len [af (zn n G)]=.ok (.int (zn n G).length):=by simp[af]
  rw[this,wH]
 have hrng:vE (.int 0) (.int ((n+1:Nat):Int)) (.int 1)=.ok (.tup (yd 0 1 (n+1))):=by
  rw[wF (by unfold av;lia)];simp[wV]
 unfold iV;rw[xj];simp only[wl,yh,zp,zo,ze,za,zd,aQ,zh,hlen,hrng,bh,xC,xZ,xu,if_true];have main:=yc (body:=λx de lv=>aC lev cl iU (de.set 4 (some x)) (lv.set 4 (aN x)))
  (λt de lv=>∃p4 p5,de=[some (af (zn n G)),some (af (zn n F)),some (TD (L++(Qr t).flatMap (dg G F i))),some (.int i),p4,p5]/\lv=cx)
  (yd 0 1 (n+1)) (de:=[some (af (zn n G)),some (af (zn n F)),some (TD L),some (.int i),o4,o5]) (lv:=cx) ⟨o4,o5,by simp,rfl⟩ ?_
 .obtain ⟨de',lv',e,p4,p5,rfl,rfl⟩:=main;rw[xA]at e;exact⟨p4,p5,e⟩
 .rintro t x de lv hx ⟨p4,p5,rfl,rfl⟩;have ht:t<n+1:=by
   have:=(Qa.mp hx).1;simpa using this
  rw[xB _ _ _ _ ht]at hx;cases hx;have e1:(0:Int)+1*(t:Int)=(t:Int):=by lia
  have e0:cx.set 4 (aN (.int (t:Int)))=cx:=by simp[cx,aN]
  have hl:=vP (f:=dg G F i) (c:=13) (l:=Qr t) λj hj=>by
   have b1:=hG.left_b i j hi (by have:=QT.mp hj;lia);have b2:=hF.left_b i j hi (by have:=QT.mp hj;lia);have:=QT.mp hj;simp[dg,dK];lia
  rw[WG]at hl;obtain⟨q5,e⟩:=BS (lev:=lev) (cl:=cl) hn hG hF hi (show t<=n by lia) (L++(Qr t).flatMap (dg G F i)) (by rw[QC];lia) p5;refine⟨_,_,?_,some (.int t),q5,rfl,rfl⟩;simp only[e1,Qg,Qf,e0];rw[e,Qn,<-jD]
theorem pq:∀{L:List (List Int)},(∀t∈L,t.length=3)->eX (L.map λt=>.tup (t.map Dat.int))=some L
 |[],_=>rfl
 |t::L,h=>by
  obtain⟨a,b,c,e⟩:∃a b c,t=[a,b,c]:=by
   match t,h t (by simp)with
   |[a,b,c],_=>exact⟨a,b,c,rfl⟩
  subst e;have ih:=pq λt ht=>h t (Qp _ ht);show(match vD [.int a,.int b,.int c],eX (L.map λt=>.tup (t.map Dat.int))with
   |some [a,b,c],some ks=>some ([a,b,c]::ks)
   |_,_=>none)=_
  rw[ih];rfl
def Ak {es:List (List Int)}(h:∀t∈es,t∈cN n G F):(es.map λk=>Dat.tup [.int (k.getD 1 0),.int (k.getD 2 0)])=(es.map pt).map λp=>Dat.tup [.int (p.1:Int),.int (p.2:Int)]:=by
 rw[Wn];refine Q4 λt ht=>?_;obtain⟨i,j,h,_,_,_,rfl⟩:=cy.mp (h t ht);rfl
noncomputable def uc(n:Nat)(G F:Nat->Nat->Int)(l:List (Nat×Nat)):Prop:=l.length=(cN n G F).length/\l.length<=3000/\∃T,bF n G l T/\∀i j,i<=n->j<=n->T i j=if F i j<G i j then F i j else G i j
def Fp (hn:n<=12)(hG:HF n G)(hF:HF n F)(hk:lev k=.no):∃l,uc n G F l/\zQ lev cl k lW [af (zn n G),af (zn n F)]=.ok (PD l):=by
 have hlen:yy .len [af (zn n G)]=.ok (.int ((n+1:Nat):Int)):=by
  have:yy .len [af (zn n G)]=.ok (.int (zn n G).length):=by simp[af]
  rw[this,wH]
 have hrng:vE (.int 0) (.int ((n+1:Nat):Int)) (.int 1)=.ok (.tup (yd 0 1 (n+1))):=by
  rw[wF (by unfold av;lia)];simp[wV]
 have rl:∀i,i<=n->(dS n G F i).length<=169:=λi hi=>by
  have:=vP (f:=dg G F i) (c:=13) (l:=Qr (n+1)) λj hj=>by
   have b1:=hG.left_b i j hi (by have:=QT.mp hj;lia);have b2:=hF.left_b i j hi (by have:=QT.mp hj;lia);have:=QT.mp hj;simp[dg,dK];lia
  rw[WG]at this;unfold dS;lia
 obtain⟨es,h1,h2,h3,T,h4,h5⟩:=Cw hG hF;have hz:=vP (f:=dS n G F) (c:=169) (l:=Qr (n+1)) λi hi=>rl i (by have:=QT.mp hi;lia);rw[WG]at hz;have hz2:(cN n G F).length<=(n+1)*169:=hz;refine⟨es.reverse.map pt,⟨by simp[h2],by simp[h2];lia,T,h4,h5⟩,?_⟩;have main:=yc (body:=λx de lv=>aC lev cl iV (de.set 3 (some x)) (lv.set 3 (aN x)))
  (λt de lv=>∃p3 p4 p5,de=[some (af (zn n G)),some (af (zn n F)),some (TD ((Qr t).flatMap (dS n G F))),p3,p4,p5]/\lv=cx)
  (yd 0 1 (n+1)) (de:=[some (af (zn n G)),some (af (zn n F)),some (TD []),none,none,none]) (lv:=cx) ⟨none,none,none,rfl,rfl⟩ ?_
 .obtain ⟨de',lv',e,p3,p4,p5,rfl,rfl⟩:=main;rw[xA]at e;unfold zQ;rw[Ka (by rfl)];show zS (lev k) (aC lev cl (.seq (.asg 2 (.lst .unit)) (.seq _ _)) [some (af (zn n G)),some (af (zn n F)),none,none,none,none] [aN (af (zn n G)),aN (af (zn n F)),.full,.full,.full,.full])=_;rw[show aN (af (zn n G))=.no from by simp[aN,af],show aN (af (zn n F))=.no from by simp[aN,af],zO,zK];rw[show aq cl (.lst .unit) [some (af (zn n G)),some (af (zn n F)),none,none,none,none]=.ok (TD [])from rfl];simp only[bh];rw[yb (by simp[TD])];simp only[zj,Qg,Qf];rw[xP,xj];simp only[wl,ze,yh,zp,zo,zd,aQ,zh,hlen,hrng,bh,xC,xZ,xu,if_true];have e':=e;unfold cx at e';rw[e',zj,yz];have ed:∀p3 p4 p5,aq cl (.dop .srt (.var 2) .unit .unit) [some (af (zn n G)),some (af (zn n F)),some (TD (cN n G F)),p3,p4,p5]=.ok (PD (es.reverse.map pt)):=λp3 p4 p5=>by
   show(match ij (TD (cN n G F))with
    |some ks=>match wx (List Int) (ks.map (0::·)) ks with
     |some es=>yf (es.reverse.map λ(k:List Int)=>.tup [.int (k.getD 1 0),.int (k.getD 2 0)])
     |none=>.no
    |none=>.no)=_
   have e1:ij (TD (cN n G F))=some (cN n G F):=pq λt ht=>by
    obtain⟨i,j,h,_,_,_,rfl⟩:=cy.mp ht;rfl
   rw[e1];simp only[h1];rw[Ak (n:=n) (G:=G) (F:=F) (λt ht=>h3 t (Vt.mp ht)),xa (by simp[h2];unfold av;lia)];rfl
  show zS (lev k) ((aq cl (.dop .srt (.var 2) .unit .unit) [some (af (zn n G)),some (af (zn n F)),some (TD (cN n G F)),p3,p4,p5]).bindS _)=_;rw[ed];simp only[bh];have ge:∀a,jG a .no=true:=λa=>by cases a<;>rfl
  rw[hk];simp[zS,ge]
 .rintro t x de lv hx ⟨p3,p4,p5,rfl,rfl⟩;have ht:t<n+1:=by
   have:=(Qa.mp hx).1;simpa using this
  rw[xB _ _ _ _ ht]at hx;cases hx;have e1:(0:Int)+1*(t:Int)=(t:Int):=by lia
  have e0:cx.set 3 (aN (.int (t:Int)))=cx:=by simp[cx,aN]
  have hl:=vP (f:=dS n G F) (c:=169) (l:=Qr t) λi hi=>rl i (by have:=QT.mp hi;lia);rw[WG]at hl;obtain⟨q4,q5,e⟩:=BR (lev:=lev) (cl:=cl) hn hG hF (show t<=n by lia) ((Qr t).flatMap (dS n G F)) (by lia) p4 p5;refine⟨_,_,?_,some (.int t),q4,q5,rfl,rfl⟩;simp only[e1,Qg,Qf,e0];rw[e,<-jD]
end
end Lib
namespace Lib
section
variable{lev:Nat->Lv}{cl:Nat->List Dat->Rd}{k:Nat}
def ug(A:List (List Int)):xg .eq (af A) (af A)=.ok (.bl true):=by
 have h:=As A;simp only[xg]at h ⊢;cases e:et (af A) (af A)with
 |none=>rw[e]at h;cases h
 |some b=>
  rw[e]at h;cases b with
  |true=>rfl
  |false=>cases h
def Aj(l:List (Nat×Nat)):yy .len [PD l]=.ok (.int l.length):=by simp[PD]
theorem tu:∀l:List (Nat×Nat),aW (l.map λp=>Dat.tup [.int (p.1:Int),.int (p.2:Int)])=true
 |[]=>rfl
 |p::l=>by
  show(ax (.tup [.int (p.1:Int),.int (p.2:Int)])&&aW _)=true;rw[tu l];simp
noncomputable def lx(ka kh kf:Nat):Fn:=⟨2,4,(.seq (.expr (.call ka (.pair (.var 0) (.pair (.var 1) .unit)))) (.seq (.asg 2 (.call kh (.pair (.var 0) .unit))) (.seq (.asg 3 (.call kh (.pair (.var 1) .unit))) (.ret (.bin .add (.call kf (.pair (.var 2) (.pair (.var 3) .unit))) (.dop .rvl (.call kf (.pair (.var 3) (.pair (.var 2) .unit))) .unit .unit))))))⟩
def Cn (ha:cl ka [af A,af B]=.ok .non)(h1:cl kh [af A]=.ok (af (zn n G)))(h2:cl kh [af B]=.ok (af (zn n F)))(f1:cl kf [af (zn n G),af (zn n F)]=.ok (PD l))(f2:cl kf [af (zn n F),af (zn n G)]=.ok (PD l'))(hz:l.length+l'.length<=av)(lh:lev kh=.full)(hk:lev k=.full):zQ lev cl k (lx ka kh kf) [af A,af B]=.ok (PD (l++l'.reverse)):=by
 have hr:∀de,aq cl (.call kf (.pair (.var 3) (.pair (.var 2) .unit))) de=.ok (PD l')->aq cl (.dop .rvl (.call kf (.pair (.var 3) (.pair (.var 2) .unit))) .unit .unit) de=.ok (PD l'.reverse):=λde e=>by
  show(aq cl (.call kf (.pair (.var 3) (.pair (.var 2) .unit))) de).bind _=_;rw[e];show yf (l'.map λp=>Dat.tup [.int (p.1:Int),.int (p.2:Int)]).reverse=_;rw[xa (by simp;lia),<-Vh];rfl
 have hcat:zX .add (PD l) (PD l'.reverse)=.ok (PD (l++l'.reverse)):=by
  show yf ((l.map λp=>Dat.tup [.int (p.1:Int),.int (p.2:Int)])++(l'.reverse.map λp=>Dat.tup [.int (p.1:Int),.int (p.2:Int)]))=_;rw[xa (by simp;lia),<-W9];rfl
 unfold zQ;rw[Ka (by rfl)];show zS (lev k) (aC lev cl (.seq (.expr (.call ka (.pair (.var 0) (.pair (.var 1) .unit)))) (.seq (.asg 2 _) (.seq (.asg 3 _) (.ret _)))) [some (af A),some (af B),none,none] [aN (af A),aN (af B),.full,.full])=_;rw[zO];have e1:∀lv,aC lev cl (.expr (.call ka (.pair (.var 0) (.pair (.var 1) .unit)))) [some (af A),some (af B),none,none] lv=.next [some (af A),some (af B),none,none] lv:=λlv=>by
  show(aq cl (.call ka _) _).bindS _=_;simp only[zz,zp,zo,za,zd,aQ,zh,ha,bh]
 rw[e1,zj];rw[x9 (d:=af (zn n G)) (by simp only[zz,zp,zo,za,zd,aQ,zh,h1]) (by simp[lh]) rfl];simp only[Qg,Qf];rw[x9 (d:=af (zn n F)) (by simp only[zz,zp,zo,za,zd,aQ,zh,h2]) (by simp[lh]) rfl];simp only[Qg,Qf];rw[yz,zR];rw[hr _ (by simp only[zz,zp,zo,za,zd,aQ,zh,f2])];simp only[zz,zp,zo,za,zd,aQ,zh,f1,hcat,bh];have hl:∀m a b lv,cU lev (.bin .add a b) (PD m) lv=.full:=λm a b lv=>by
  unfold cU;rw[Kb (by simp[PD])];simp[PD,tu]
 rw[hl,hk];simp[zS,jG]
noncomputable def i7:Ex:=(.bin .add (.var 2) (.blt .sum (.pair (.comp (.blt .abs (.pair (.bin .sub (.idx (.idx (.var 0) (.var 3)) (.var 4)) (.idx (.idx (.var 1) (.var 3)) (.var 4))) .unit)) (.rng (.lit (.int 0)) (.blt .len (.pair (.var 0) .unit)) (.lit (.int 1))) (.lit (.bl true))) .unit)))
noncomputable def lu:Fn:=⟨2,4,(.seq (.asg 2 (.lit (.int 0))) (.seq (.forv 3 (.rng (.lit (.int 0)) (.blt .len (.pair (.var 0) .unit)) (.lit (.int 1))) (.asg 2 i7)) (.ret (.bin .fdiv (.var 2) (.lit (.int 2))))))⟩
def Ai (hn:n<=12)(G F:Nat->Nat->Int)(hi:i<=n)(t:Int):aq cl i7 [some (af (zn n G)),some (af (zn n F)),some (.int t),some (.int i)]=.ok (.int (t+fP n G F i)):=by
 have hlen:yy .len [af (zn n G)]=.ok (.int ((n+1:Nat):Int)):=by
  have:yy .len [af (zn n G)]=.ok (.int (zn n G).length):=by simp[af]
  rw[this,wH]
 have hrng:vE (.int 0) (.int ((n+1:Nat):Int)) (.int 1)=.ok (.tup (yd 0 1 (n+1))):=by
  rw[wF (by unfold av;lia)];simp[wV]
 have it:∀(M:Nat->Nat->Int) (j:Nat),j<=n->yj (af (zn n M)) (.int i)=.ok (row (cH n M i))/\yj (row (cH n M i)) (.int j)=.ok (.int (M i j)):=λM j hj=>
  ⟨yK (by rw[Ql,x8 hi];rfl),yK (by rw[Ql,wU hj];rfl)⟩
 have hc:aq cl (.comp (.blt .abs (.pair (.bin .sub (.idx (.idx (.var 0) (.var 3)) (.var 4)) (.idx (.idx (.var 1) (.var 3)) (.var 4))) .unit)) (.rng (.lit (.int 0)) (.blt .len (.pair (.var 0) .unit)) (.lit (.int 1))) (.lit (.bl true))) [some (af (zn n G)),some (af (zn n F)),some (.int t),some (.int i)]=.ok (row ((Qr (n+1)).map λj=>ab (G i j-F i j))):=by
  rw[g7];simp only[wl,yh,zp,zo,ze,za,zd,aQ,zh,hlen,hrng,xC];rw[tF 0 1 (n+1) (λj=>.int (ab (G i j-F i j))) (λj _=>by simp) (λj hj=>?_) (by unfold av;lia)]
  .simp[row]
  .have e:(0:Int)+1*(j:Int)=j:=by lia
   obtain⟨g1,g2⟩:=it G j (by lia);obtain⟨f1,f2⟩:=it F j (by lia);simp only[e,Vi,Wx,yk,zR,yh,zp,zo,za,zd,aQ,zh,g1,g2,f1,f2,vd,Al]
 unfold i7;simp only[zR,yh,zp,zo,za,zd,hc,aQ,zh,tj,xi];rfl
def Cm (hn:n<=12)(G F:Nat->Nat->Int):zQ lev cl k lu [af (zn n G),af (zn n F)]=.ok (.int (eh n G F/2)):=by
 unfold zQ;rw[Ka (by rfl)];show zS (lev k) (aC lev cl (.seq (.asg 2 _) (.seq (.forv 3 _ _) (.ret _))) [some (af (zn n G)),some (af (zn n F)),none,none] _)=_;have hlen:yy .len [af (zn n G)]=.ok (.int ((n+1:Nat):Int)):=by
  have:yy .len [af (zn n G)]=.ok (.int (zn n G).length):=by simp[af]
  rw[this,wH]
 have hrng:vE (.int 0) (.int ((n+1:Nat):Int)) (.int 1)=.ok (.tup (yd 0 1 (n+1))):=by
  rw[wF (by unfold av;lia)];simp[wV]
 rw[x9 (d:=.int 0) (by simp only[ze]) (by simp) rfl];simp only[Qg,Qf];rw[xP,xj];simp only[wl,yh,zp,zo,ze,za,zd,aQ,zh,hlen,hrng,bh,xC];have main:=λlv=>yc (body:=λx de lv=>aC lev cl (.asg 2 i7) (de.set 3 (some x)) (lv.set 3 (aN x)))
  (λt de _=>∃o3,de=[some (af (zn n G)),some (af (zn n F)),some (.int ((Qr t).map (fP n G F)).sum),o3])
  (yd 0 1 (n+1)) (de:=[some (af (zn n G)),some (af (zn n F)),some (.int 0),none]) (lv:=lv) ⟨none,rfl⟩ (by
   rintro i y de lv hy ⟨o3,rfl⟩;unfold yd at hy;rw[Ql]at hy;by_cases hi:i<n+1
   .rw[W4 hi]at hy;cases hy;have e:(0:Int)+1*(i:Int)=i:=by lia
    simp only[e,Qg,Qf];rw[zK,Ai hn G F (by lia)];simp only[bh];rw[yb (yE lev _ _ rfl)];refine⟨_,_,rfl,some (.int i),?_⟩;simp only[Qg,Qf];rw[Vm,W9,W8];simp
   .rw[Qm (by simp;lia)]at hy;cases hy)
 obtain⟨de',lv',e,o3,rfl⟩:=main _;rw[e,zj,xA,yz];simp only[zR,ze,za,zd,aQ,vJ _ 2 (by decide) (by decide),bh];simp[zS,eh]
noncomputable def iO:Sm:=(.ite (.or (.not (.isi .int (.var 2))) (.or (.isi .bool (.var 2)) (.not (.chain .le .lt (.lit (.int 1)) (.var 2) (.var 1))))) (.ret (.lit (.bl false))) .skip)
noncomputable def ls:Fn:=⟨2,3,(.seq (.ite (.or (.not (.isi .tuple (.var 0))) (.cmp .ne (.blt .len (.pair (.var 0) .unit)) (.lit (.int 2)))) (.ret (.lit (.bl false))) .skip) (.seq (.forv 2 (.var 0) iO) (.ret (.lit (.bl true)))))⟩
def Ck {j:Nat}(h1:0<i)(h2:i<n)(h3:0<j)(h4:j<n):zQ lev cl k ls [.tup [.int i,.int j],.int n]=.ok (.bl true):=by
 have q:∀(a:Nat),0<a->a<n->∀(d0:Option Dat) lv,aC lev cl iO [d0,some (.int n),some (.int a)] lv=.next [d0,some (.int n),some (.int a)] lv:=λa p p' d0 lv=>by
  unfold iO;simp[fh,show(1:Int)<=a by lia,show(a:Int)<n by lia]
 unfold zQ;rw[Ka (by rfl)];show zS (lev k) (aC lev cl (.seq (.ite _ _ _) (.seq (.forv 2 (.var 0) iO) (.ret _))) [some (.tup [.int i,.int j]),some (.int n),none] _)=_;rw[zO];have e1:∀lv,aC lev cl (.ite (.or (.not (.isi .tuple (.var 0))) (.cmp .ne (.blt .len (.pair (.var 0) .unit)) (.lit (.int 2)))) (.ret (.lit (.bl false))) .skip) [some (.tup [.int i,.int j]),some (.int n),none] lv=.next [some (.tup [.int i,.int j]),some (.int n),none] lv:=λlv=>by
  simp[fh,yy,xo]
 rw[e1,zj,xP,xj];simp only[zd,bh,xC];unfold yx;simp only[Qg,Qf];rw[q i h1 h2];simp only;unfold yx;simp only[Qg,Qf];rw[q j h3 h4];simp[yx,zS]
def Fo (h1:R.length<=av)(h2:∀x∈R,x.length<=av)(hk:lev k≠.top):zQ lev cl k lG [af R]=.ok (af R):=by
 unfold zQ;rw[Ka (by rfl)];show zS (lev k) (aC lev cl (.ret _) [some (af R)] _)=_;rw[yz,s0 (j:=0) (m:=1) h1 h2 (de:=[some (af R)]) rfl rfl];simp only[bh];have hl:∀a b c lv,cU lev (.comp (.blt .list a) b c) (af R) lv=.full:=λa b c lv=>by
  unfold cU;rw[Kb (by simp[af])];simp[af,row]
 rw[hl];cases z:lev k<;>first|exact Kc z hk|simp[zS,jG]
noncomputable def im(ki kl:Nat):Sm:=(.seq (.ite (.or (.not (.call ki (.pair (.var 5) (.pair (.var 3) .unit)))) (.not (.call kl (.pair (.var 4) (.pair (.idx (.var 5) (.lit (.int 0))) (.pair (.idx (.var 5) (.lit (.int 1))) .unit)))))) (.ret (.lit (.bl false))) .skip) (.seq (.fort 6 7 (.tup (.pair (.var 5) .unit)) .skip) (.asgS (.idx (.var 4) (.var 6)) (.var 7) (.bin .sub (.bin .mul (.lit (.int 2)) (.idx (.idx (.var 4) (.bin .sub (.var 6) (.lit (.int 1)))) (.var 7))) (.idx (.idx (.var 4) (.var 6)) (.var 7))))))
noncomputable def lF(ka kc ki kl:Nat):Fn:=⟨4,8,(.seq (.ite (.or (.not (.isi .list (.var 0))) (.cmp .ne (.blt .len (.pair (.var 0) .unit)) (.call ka (.pair (.var 1) (.pair (.var 2) .unit))))) (.ret (.lit (.bl false))) .skip) (.seq (.asg 4 (.call kc (.pair (.var 1) .unit))) (.seq (.forv 5 (.var 0) (im ki kl)) (.ret (.cmp .eq (.var 4) (.var 2))))))⟩
noncomputable def dv:List Lv:=[.no,.no,.no,.full,.full,.full,.full,.full]
def Cj {S:Nat->Nat->Int}{j:Nat}(h1:0<i)(h2:i<n)(h3:0<j)(h4:j<n)(hi:cl ki [.tup [.int i,.int j],.int n]=.ok (.bl true))(hl:cl kl [af (zn n S),.int i,.int j]=.ok (.bl true))(d0 d1 d2 o6 o7:Option Dat):
  ∃p6 p7,aC lev cl (im ki kl) [d0,d1,d2,some (.int n),some (af (zn n S)),some (.tup [.int i,.int j]),o6,o7] dv=.next [d0,d1,d2,some (.int n),some (af (zn n (cJ S i j))),some (.tup [.int i,.int j]),p6,p7] dv:=by
 have g1:=iS (G:=S) (show i-1<=n by lia) (show j<=n by lia);have g2:=iS (G:=S) (show i<=n by lia) (show j<=n by lia);rw[show((i-1:Nat):Int)=(i:Int)-1 by lia]at g1;have i0:yj (.tup [.int (i:Int),.int (j:Int)]) (.int 0)=.ok (.int i):=rfl;have i1:yj (.tup [.int (i:Int),.int (j:Int)]) (.int 1)=.ok (.int j):=rfl;refine⟨some (.int i),some (.int j),?_⟩;unfold im;rw[zO];simp only[wG,ii,jt,zz,zp,zo,yk,ze,za,zd,aQ,zh,hi,hl,i0,i1,Vk,bh,wm,zj];rw[zD lev cl _ dv rfl,Cf];rw[show aq cl (.tup (.pair (.var 5) .unit)) [d0,d1,d2,some (.int n),some (af (zn n S)),some (.tup [.int i,.int j]),o6,o7]=.ok (.tup [.tup [.int i,.int j]])from rfl];simp only[bh,xC,yx,wm];rw[Ka (by simp),show(dv.set 6 (aN (.int (i:Int)))).set 7 (aN (.int (j:Int)))=dv by simp[dv,aN]];simp only[zj,Qg,Qf];rw[uj (i:=i) (c:=j) (p:=n+1) (q:=n+1) (F:=S) (v:=2*S (i-1) j-S i j) rfl rfl (by lia) (by lia) (by simp only[za,zd]) (by simp only[za,zd])
  (by simp only[zR,yk,ze,za,zd,aQ,vd,g1,g2,wS 2 _ (show small 2=true by decide)])]
 rfl
def Fy {S:Nat->Nat->Int}(h:eS n S T):zn n S=zn n T:=by
 unfold zn;refine Q4 λi hi=>?_;unfold cH;refine Q4 λj hj=>?_;exact h i j (by have:=QT.mp hi;lia) (by have:=QT.mp hj;lia)
def Cv (hn:n<=12)(hp:bF n G l F)(hz:l.length<=av)(ha:cl ka [af (zn n G),af (zn n F)]=.ok (.int l.length))(hc:cl kc [af (zn n G)]=.ok (af (zn n G)))(lc:lev kc=.full)(hi:∀i j:Nat,0<i->i<n->0<j->j<n->cl ki [.tup [.int i,.int j],.int n]=.ok (.bl true))(hl:∀(S:Nat->Nat->Int) (i j:Nat),0<i->i<n->0<j->j<n->cl kl [af (zn n S),.int i,.int j]=.ok (.bl (lvl S i j))):
  zQ lev cl k (lF ka kc ki kl) [PD l,af (zn n G),af (zn n F),.int n]=.ok (.bl true):=by
 unfold zQ;rw[Ka (by rfl)];show zS (lev k) (aC lev cl (.seq (.ite _ _ _) (.seq (.asg 4 _) (.seq (.forv 5 (.var 0) (im ki kl)) (.ret _)))) [some (PD l),some (af (zn n G)),some (af (zn n F)),some (.int n),none,none,none,none] [aN (PD l),aN (af (zn n G)),aN (af (zn n F)),aN (.int n),.full,.full,.full,.full])=_;rw[show aN (PD l)=.no from by simp[aN,PD],show aN (af (zn n G))=.no from by simp[aN,af],show aN (af (zn n F))=.no from by simp[aN,af],show aN (.int (n:Int))=.full from by simp[aN]];rw[zO];simp only[wG,ii,jt,Au,yP,yh,zz,zp,zo,za,zd,aQ,zh,Aj,ha,lK,show fh .list (PD l)=true from rfl,Vk,decide_true,bh,wm,zj];rw[x9 (d:=af (zn n G)) (by simp only[zz,zp,zo,za,zd,aQ,zh,hc]) (by simp[lc]) rfl];simp only[Qg,Qf];rw[xP,xj];simp only[zd,bh];rw[show cE (PD l)=some (l.map λp=>Dat.tup [.int (p.1:Int),.int (p.2:Int)])from jw (by simpa using hz)];simp only[];have main:=λlv (e:lv=dv)=>yc (body:=λx de lv=>aC lev cl (im ki kl) (de.set 5 (some x)) (lv.set 5 (aN x)))
  (λt de lv=>∃S p5 p6 p7,de=[some (PD l),some (af (zn n G)),some (af (zn n F)),some (.int n),some (af (zn n S)),p5,p6,p7]/\lv=dv/\bF n S (l.drop t) F)
  (l.map λp=>Dat.tup [.int (p.1:Int),.int (p.2:Int)]) (de:=[some (PD l),some (af (zn n G)),some (af (zn n F)),some (.int n),some (af (zn n G)),none,none,none]) (lv:=lv) ⟨G,none,none,none,rfl,e,by simpa using hp⟩ (by
   rintro t x de lv hx ⟨S,p5,p6,p7,rfl,rfl,P⟩;rw[Ql]at hx;obtain⟨p,hpt,rfl⟩:=QO.mp hx;obtain⟨ht,e0⟩:=Qa.mp hpt;rw[QM ht,e0]at P;obtain⟨q1,q2,q3,q4,q5,q6⟩:=P;have hl':=hl S p.1 p.2 q1 q2 q3 q4;rw[q5]at hl';obtain⟨r6,r7,e⟩:=Cj (lev:=lev) (cl:=cl) (ki:=ki) (kl:=kl) q1 q2 q3 q4 (hi p.1 p.2 q1 q2 q3 q4) hl' (some (PD l)) (some (af (zn n G))) (some (af (zn n F))) p6 p7;refine⟨_,_,?_,cJ S p.1 p.2,some (.tup [.int p.1,.int p.2]),r6,r7,rfl,rfl,q6⟩;simp only[Qg,Qf];rw[show dv.set 5 (aN (.tup [.int (p.1:Int),.int (p.2:Int)]))=dv by simp[dv,aN]];exact e)
 obtain⟨de',lv',e,S,p5,p6,p7,rfl,rfl,P⟩:=main dv rfl;have hlv:(if ax (PD l)=true then([.no,.no,.no,.full,.full,.full,.full,.full]:List Lv)else yN (.var 0) [some (PD l),some (af (zn n G)),some (af (zn n F)),some (.int n),some (af (zn n G)),none,none,none] [.no,.no,.no,.full,.full,.full,.full,.full])=dv:=by
  simp[PD,yN,aO,dv]
 rw[hlv,e,zj,yz];rw[Qv,W0]at P;simp only[yP,za,zd,aQ];rw[Fy P,ug];simp[zS]
end
end Lib
end Vl
end Mini
namespace Mini
open PySem
end Mini
namespace R36
open PySem L2 Mini
noncomputable def f0:Fn:=Mini.Vl.Lib.lY
abbrev qdd(a:Str)(i:Nat)(N:List Str)(k:Nat)(f:Fn):bn:=⟨a,top i,N,N.take k,f,a⟩
abbrev d0:=qdd "need_alike" 11 ["one","other"] 2 f0
noncomputable def f1:Fn:=Mini.Vl.Lib.lO
abbrev d1:=qdd "column_sums" 13 ["state","sums","told","row"] 1 f1
noncomputable def f2:Fn:=Mini.Vl.Lib.lH
abbrev d2:=qdd "height_row" 15 ["i","sums","row","total"] 2 f2
noncomputable def f3:Fn:=Mini.Vl.Lib.jC 1 2
abbrev d3:=qdd "heights_of" 16 ["state"] 1 f3
noncomputable def f4:Fn:=Mini.Vl.Lib.lW
abbrev d4:=qdd "falls" 18 ["upper","lower","told","i","j","height"] 2 f4
noncomputable def f5:Fn:=Mini.Vl.Lib.lx 0 3 4
abbrev d5:=qdd "turns_between" 19 ["one","other","start","goal"] 2 f5
noncomputable def f6:Fn:=Mini.Vl.Lib.jB
abbrev d6:=qdd "_law_cell_at" 21 ["_law_script","_law_k"] 2 f6
noncomputable def f7:Fn:=Mini.Vl.Lib.lN
abbrev d7:=qdd "_law_mixed" 22 ["_law_cell","_law_k","_law_one"] 2 f7
noncomputable def f8:Fn:=Mini.Vl.Lib.vL
abbrev d8:=qdd "_law_size" 23 ["_law_cell"] 1 f8
noncomputable def f9:Fn:=Mini.Vl.Lib.lZ 7
abbrev d9:=qdd "_law_drawn" 24 ["_law_cell","_law_n","_law_rows","_law_rest","_law_turn","_law_below","_law_row","_law_m","_law_low","_law_digit","_law_signs","_law_ahead"] 2 f9
noncomputable def tZ:Fn:=Mini.Vl.Lib.lz
abbrev nz:=qdd "_law_heights" 25 ["_law_signs","_law_made","_law_r","_law_row","_law_total","_law_c"] 1 tZ
noncomputable def tY:Fn:=Mini.Vl.Lib.iD
abbrev i5:=qdd "_law_level" 26 ["_law_heights_here","_law_i","_law_j","_law_beside"] 3 tY
noncomputable def tX:Fn:=Mini.Vl.Lib.lG
abbrev nw:=qdd "_law_copy" 27 ["_law_rows"] 1 tX
noncomputable def tW:Fn:=Mini.Vl.Lib.iB 8 6 9
abbrev nv:=qdd "_law_two" 28 ["_law_script","_law_n","_law_one"] 1 tW
noncomputable def tV:Fn:=Mini.Vl.Lib.lu
abbrev nu:=qdd "_law_apart" 29 ["_law_first","_law_second","_law_total","_law_i"] 2 tV
noncomputable def tT:Fn:=Mini.Vl.Lib.ls
abbrev nr:=qdd "_law_is_point" 30 ["_law_point","_law_n","_law_number"] 2 tT
noncomputable def tS:Fn:=Mini.Vl.Lib.lF 14 12 15 11
abbrev nq:=qdd "_law_leads" 31 ["_law_found","_law_first","_law_second","_law_n","_law_here","_law_point","_law_i","_law_j"] 4 tS
noncomputable def tR:Fn:=Mini.Vl.Lib.ly 20
abbrev i4:=qdd "_law_refused" 32 ["_law_one","_law_other","e"] 2 tR
noncomputable def eQ:Fn:=⟨1,9,(.seq (.unp3 1 2 3 (.call 13 (.pair (.var 0) .unit))) (.seq (.asg 4 (.lst (.pair (.call 12 (.pair (.var 2) .unit)) (.pair (.call 12 (.pair (.var 3) .unit)) .unit)))) (.seq (.asg 5 (.call 10 (.pair (.var 2) .unit))) (.seq (.asg 6 (.call 10 (.pair (.var 3) .unit))) (.seq (.asg 7 (.call 5 (.pair (.idx (.var 4) (.lit (.int 0))) (.pair (.idx (.var 4) (.lit (.int 1))) .unit)))) (.seq (.ite (.or (.not (.call 16 (.pair (.var 7) (.pair (.var 5) (.pair (.var 6) (.pair (.var 1) .unit)))))) (.cmp .ne (.var 4) (.lst (.pair (.var 2) (.pair (.var 3) .unit))))) (.ret (.lit (.bl false))) .skip) (.seq (.expr (.meth .append (.var 7) (.pair (.tup (.pair (.lit (.int 0)) (.pair (.lit (.int 0)) .unit))) .unit))) (.seq (.expr (.meth .reverse (.var 7) .unit)) (.seq (.ite (.not (.call 16 (.pair (.call 5 (.pair (.idx (.var 4) (.lit (.int 0))) (.pair (.idx (.var 4) (.lit (.int 1))) .unit))) (.pair (.var 5) (.pair (.var 6) (.pair (.var 1) .unit)))))) (.ret (.lit (.bl false))) .skip) (.seq (.asg 8 (.call 9 (.pair (.call 6 (.pair (.var 0) (.pair (.lit (.int 4)) .unit))) (.pair (.bin .add (.lit (.int 1)) (.bin .mod (.bin .add (.var 1) (.bin .mod (.call 6 (.pair (.var 0) (.pair (.lit (.int 3)) .unit))) (.lit (.int 11)))) (.lit (.int 12)))) .unit)))) (.seq (.ite (.or (.not (.call 17 (.pair (.idx (.var 4) (.lit (.int 0))) (.pair (.var 8) .unit)))) (.not (.call 17 (.pair (.var 8) (.pair (.idx (.var 4) (.lit (.int 0))) .unit))))) (.ret (.lit (.bl false))) .skip) (.ret (.and (.cmp .eq (.call 5 (.pair (.idx (.var 4) (.lit (.int 1))) (.pair (.idx (.var 4) (.lit (.int 1))) .unit))) (.lst .unit)) (.cmp .eq (.var 4) (.lst (.pair (.var 2) (.pair (.var 3) .unit)))))))))))))))))⟩
abbrev i3:=qdd "law" 33 ["_law_script","_law_n","_law_one","_law_other","_law_handed","_law_first","_law_second","_law_found","_law_third"] 1 eQ
noncomputable def D:List bn:=[d0,d1,d2,d3,d4,d5,d6,d7,d8,d9,nz,i5,nw,nv,nu,nr,nq,i4,i3]
noncomputable def C:Mini.Ctx:=⟨["need_alike","column_sums","height_row","heights_of","falls","turns_between","_law_cell_at","_law_mixed","_law_size","_law_drawn","_law_heights","_law_level","_law_copy","_law_two","_law_apart","_law_is_point","_law_leads","_law_refused","law"],[],[]⟩
noncomputable def x0:Fn:=⟨2,2,(.ite (.cmp .ne (.blt .len (.pair (.var 0) .unit)) (.blt .len (.pair (.var 1) .unit))) (.ret (.lit (.int 0))) .never)⟩
abbrev fG:=qdd "need_alike" 11 ["one","other"] 2 x0
noncomputable def x1:Fn:=⟨2,4,(.ret (.call 19 (.pair (.var 0) (.pair (.var 1) .unit))))⟩
abbrev iK:=qdd "turns_between" 19 ["one","other","start","goal"] 2 x1
noncomputable def XD:List bn:=[fG,iK]
noncomputable def XN:List (Nat×Str):=[(19,"need_alike"),(20,"turns_between")]
noncomputable def Q:Xc:=⟨"GyreError",["Unlike"],["NoName","NoText","NoRoad","NoSize","NoState","NoSquare","NoTurn"]⟩
def mW:fq C Q XN fG:=⟨by decide +kernel,rfl,rfl,fu.ite (j:=0) rfl rfl (.cmp rfl rfl (.blt rfl (by kernel_rfl) (by kernel_rfl) rfl (.pair rfl rfl .v .unit)) rfl (.blt rfl (by kernel_rfl) (by kernel_rfl) rfl (.pair rfl rfl .v .unit))) rfl (by kernel_rfl) (by kernel_rfl)⟩
def mV:fq C Q XN iK:=⟨by decide +kernel,rfl,rfl,fu.call rfl (by kernel_rfl) (by kernel_rfl) rfl (.pair rfl rfl .v (.pair rfl rfl .v .unit))⟩
def mZ:iw C i5:=⟨by decide +kernel,rfl,rfl,lf.mk (i:=3) (.asg rfl rfl (by kernel_rfl) rfl (.lst (.pair rfl rfl (.idx rfl rfl (.idx rfl rfl .v rfl (.bin rfl .v rfl .int)) rfl .v) (.pair rfl rfl (.idx rfl rfl (.idx rfl rfl .v rfl (.bin rfl .v rfl .int)) rfl .v) (.pair rfl rfl (.idx rfl rfl (.idx rfl rfl .v rfl .v) rfl (.bin rfl .v rfl .int)) (.pair rfl rfl (.idx rfl rfl (.idx rfl rfl .v rfl .v) rfl (.bin rfl .v rfl .int)) .unit)))))) rfl (by kernel_rfl) (by kernel_rfl) (by kernel_rfl) (by kernel_rfl)⟩
def mX:iu C Q XN i4:=⟨by decide +kernel,rfl,rfl,IsT.mk (y:=0) (i:=2) (cs:=[1,2,3,4,5,6,7]) rfl (by kernel_rfl) (by kernel_rfl) rfl (.pair rfl rfl .v (.pair rfl rfl .v .unit)) (by kernel_rfl) (by kernel_rfl) rfl (by kernel_rfl) (by kernel_rfl) (by kernel_rfl) rfl (by decide) rfl (by kernel_rfl) (by kernel_rfl) (by kernel_rfl) (by kernel_rfl)⟩
set_option maxHeartbeats 0 in
def uf:∀d∈D,i8 C d\/iu C Q XN d\/iw C d:=by
 unfold D;repeat' refine List.forall_mem_cons.2 ⟨?_,?_⟩
 all_goals first|exact .inr (.inl mX)|exact .inr (.inr mZ)|exact λ_ h=>(WL h).elim|(refine .inl ⟨by decide +kernel,rfl,rfl,?_⟩;repeat' first|exact .v|exact .int|exact .unit|refine .pair rfl rfl ?_ ?_|refine .seq ?_ ?_|refine .bin rfl ?_ rfl ?_|refine .one ?_|refine .call rfl ?_ ?_ rfl ?_|refine .ret rfl ?_|refine .blt rfl ?_ ?_ rfl ?_|refine .cmp rfl rfl ?_ rfl ?_|refine .lst ?_|exact .skip0|refine .ite rfl rfl ?_ ?_ ?_|refine .expr rfl rfl ?_|refine .forv rfl ?_ rfl ?_ ?_|refine .not rfl rfl ?_|refine .meth rfl rfl ?_ rfl rfl ?_ ?_|refine .rng1 ?_ rfl rfl ?_|exact .bl|refine .or2 rfl rfl ?_ rfl rfl ?_|refine .neg rfl ?_|refine .tup ?_|refine .comp0 rfl ?_ ?_ rfl ?_|refine .isi ?_ ?_ rfl rfl ?_|refine .lrng ?_ ?_ rfl rfl ?_|refine .and2 rfl rfl ?_ rfl rfl ?_|refine .meth0 rfl rfl rfl ?_|exact .never|refine .asgCZ0 rfl ?_ ?_ ?_ rfl rfl rfl ?_ rfl ?_ rfl ?_|refine .compE0 ?_ ?_ rfl rfl ?_ rfl ?_|refine .rng3 ?_ rfl rfl rfl rfl ?_ rfl ?_ rfl ?_|refine .dsrt ?_ ?_ ?_ ?_ ?_ ?_ rfl rfl ?_|refine .drvl ?_ ?_ rfl rfl ?_|refine bJ.«while» rfl rfl ?_ ?_|refine .chain rfl rfl ?_ rfl ?_ rfl ?_|refine .orN rfl rfl ?_ rfl ?_|refine .unp rfl ?_ rfl ?_ rfl rfl ?_|refine .asgS rfl rfl ?_ rfl ?_ rfl ?_|refine .unp3 rfl ?_ rfl ?_ rfl ?_ rfl rfl ?_|refine .idx rfl rfl ?_ rfl ?_|refine .asg rfl rfl ?_ rfl ?_|kernel_rfl|decide)
def Gf:∀d∈XD,fq C Q XN d:=by
 intro d hd;unfold XD at hd;rcases Qc.mp hd with rfl|hd
 .exact mW
 rcases Qc.mp hd with rfl|hd
 .exact mV
 .cases hd
def Gm:cu fG:=λ_ _ _ _ _ _=>dz (λ_ _=>rfl)
def Gk:cu iK:=λ_ _ _ _ _ _=>dz (λ_ _=>rfl)
def nA:∀d∈XD,cu d:=by
 intro d hd;unfold XD at hd;rcases Qc.mp hd with rfl|hd
 .exact Gm
 rcases Qc.mp hd with rfl|hd
 .exact Gk
 .cases hd
def b0:cu d0:=λ_ _ _ _ _ _=>dz (λ_ _=>rfl)
def b1:cu d1:=λ_ _ _ _ _ _=>eM (λ_=>rfl)
def b2:cu d2:=λ_ _ _ _ _ _=>dz (λ_ _=>rfl)
def b3:cu d3:=λ_ _ _ _ _ _=>eM (λ_=>rfl)
def b4:cu d4:=λ_ _ _ _ _ _=>dz (λ_ _=>rfl)
def b5:cu d5:=λ_ _ _ _ _ _=>dz (λ_ _=>rfl)
def b6:cu d6:=λ_ _ _ _ _ _=>dz (λ_ _=>rfl)
def b7:cu d7:=λ_ _ _ _ _ _=>dz (λ_ _=>rfl)
def b8:cu d8:=λ_ _ _ _ _ _=>eM (λ_=>rfl)
def b9:cu d9:=λ_ _ _ _ _ _=>dz (λ_ _=>rfl)
def Gx:cu nz:=λ_ _ _ _ _ _=>eM (λ_=>rfl)
def Gw:cu i5:=λ_ _ _ _ _ _=>tM (λ_ _ _=>rfl)
def Gv:cu nw:=λ_ _ _ _ _ _=>eM (λ_=>rfl)
def Gu:cu nv:=λ_ _ _ _ _ _=>eM (λ_=>rfl)
def Gt:cu nu:=λ_ _ _ _ _ _=>dz (λ_ _=>rfl)
def Gs:cu nr:=λ_ _ _ _ _ _=>dz (λ_ _=>rfl)
def Gr:cu nq:=λ_ _ _ _ _ _=>F2 (λ_ _ _ _=>rfl)
def Gq:cu i4:=λ_ _ _ _ _ _=>dz (λ_ _=>rfl)
def Gp:cu i3:=λ_ _ _ _ _ _=>eM (λ_=>rfl)
def Go:∀d∈D,cu d:=by
 intro d hd;unfold D at hd;rcases Qc.mp hd with rfl|hd
 .exact b0
 rcases Qc.mp hd with rfl|hd
 .exact b1
 rcases Qc.mp hd with rfl|hd
 .exact b2
 rcases Qc.mp hd with rfl|hd
 .exact b3
 rcases Qc.mp hd with rfl|hd
 .exact b4
 rcases Qc.mp hd with rfl|hd
 .exact b5
 rcases Qc.mp hd with rfl|hd
 .exact b6
 rcases Qc.mp hd with rfl|hd
 .exact b7
 rcases Qc.mp hd with rfl|hd
 .exact b8
 rcases Qc.mp hd with rfl|hd
 .exact b9
 rcases Qc.mp hd with rfl|hd
 .exact Gx
 rcases Qc.mp hd with rfl|hd
 .exact Gw
 rcases Qc.mp hd with rfl|hd
 .exact Gv
 rcases Qc.mp hd with rfl|hd
 .exact Gu
 rcases Qc.mp hd with rfl|hd
 .exact Gt
 rcases Qc.mp hd with rfl|hd
 .exact Gs
 rcases Qc.mp hd with rfl|hd
 .exact Gr
 rcases Qc.mp hd with rfl|hd
 .exact Gq
 rcases Qc.mp hd with rfl|hd
 .exact Gp
 .cases hd
def dk {K:Qb}(X:K.In h)(G:h.Ns HW mg){kV:Value}(g:Wu K HW d.nm=some (some (.ref a)))(l:K.lookup a=some ⟨oc,od,.func (WX d.on d.on (wd d.st) (yJ d.st) (zy d.st) .none kV dc pm an cd ct),sl⟩)(c:VC K cd d.on=true)(k:Wh K (.ref a)=true):wB K mg d:=⟨a,_,AU l c k,QX X G g⟩
def mk{K:Qb}{w:HU}{h:HV}{mg:Str->Option Value}(X:K.In h)(G:h.Ns HW mg){cG u0 u1 u2 u3 u4 u5 u6 u7:Addr}
  (hD:∀e∈D,wB K mg e) (hX:∀e∈XD,wB K mg e)
  (z:∀nm∈zr,Wu K HW nm=some none)
  (xG:Wu K HW "GyreError"=some (some (.ref cG)))
  (xg0:Wu K HW "Unlike"=some (some (.ref u0)))
  (xg1:Wu K HW "NoName"=some (some (.ref u1)))
  (xg2:Wu K HW "NoText"=some (some (.ref u2)))
  (xg3:Wu K HW "NoRoad"=some (some (.ref u3)))
  (xg4:Wu K HW "NoSize"=some (some (.ref u4)))
  (xg5:Wu K HW "NoState"=some (some (.ref u5)))
  (xg6:Wu K HW "NoSquare"=some (some (.ref u6)))
  (xg7:Wu K HW "NoTurn"=some (some (.ref u7)))
  (xE:WP K cG [.type "ValueError",.type "Exception",.type "BaseException",.type "object"] "ValueError.__new__"=true)
  (xM:Wy K cG (.type "BaseException")=some true)
  (xV:Wu K HW "ValueError"=some none)
  (xe0:WP K u0 [.type "ValueError",.type "Exception",.type "BaseException",.type "object"] "ValueError.__new__"=true)
  (xa0:VU K (.ref u0) "__getattribute__"=some (some (.builtin "BaseException.__getattribute__")))
  (xb0:VU K (.ref u0) "__getattr__"=some none)
  (xc0:Wy K u0 (.type "BaseException")=some true)
  (fG:VU K (.ref u0) "__class__"=some (some (.builtin "object.__class__")))
  (xo0:Wy K u0 (.type "object")=some true)
  (xm0:Wy K u0 (.ref cG)=some true)
  (xv0:QN K (.ref u0) (.type "ValueError")=some true)
  (xk0_0:QN K (.ref u0) (.ref u0)=some true)
  (xk0_1:QN K (.ref u0) (.ref u1)=some false)
  (xk0_2:QN K (.ref u0) (.ref u2)=some false)
  (xk0_3:QN K (.ref u0) (.ref u3)=some false)
  (xk0_4:QN K (.ref u0) (.ref u4)=some false)
  (xk0_5:QN K (.ref u0) (.ref u5)=some false)
  (xk0_6:QN K (.ref u0) (.ref u6)=some false)
  (xk0_7:QN K (.ref u0) (.ref u7)=some false)
  : ((∀e∈D,wB K mg e)/\kw K w mg C/\∀nm∈zr,mg nm=none)/\(∀e∈XD,wB K mg e)/\∃G,eR K mg Q G:=by
 refine⟨⟨λd hd=>?_,⟨λnm i hi=>?_,λnm qq hi=>?_⟩,λnm hn=>?_⟩,λd hd=>?_,cG,QX X G xG,xE,xM,PySem.W.mg_none_of X G xV,λc x hx=>?_,λc x hx=>?_⟩
 .exact hD d hd
 .cases hi
 .cases hi
 .exact PySem.W.mg_none_of X G (z nm hn)
 .exact hX d hd
 .have hx':(["Unlike","NoName","NoText","NoRoad","NoSize","NoState","NoSquare","NoTurn"]:List Str)[c]?=some x:=hx
  match c,hx' with
  |0,h=>cases h;exact⟨u0,QX X G xg0⟩
  |1,h=>cases h;exact⟨u1,QX X G xg1⟩
  |2,h=>cases h;exact⟨u2,QX X G xg2⟩
  |3,h=>cases h;exact⟨u3,QX X G xg3⟩
  |4,h=>cases h;exact⟨u4,QX X G xg4⟩
  |5,h=>cases h;exact⟨u5,QX X G xg5⟩
  |6,h=>cases h;exact⟨u6,QX X G xg6⟩
  |7,h=>cases h;exact⟨u7,QX X G xg7⟩
  |_+8,h=>cases h
 .have hx':(["Unlike"]:List Str)[c]?=some x:=hx
  match c,hx' with
  |0,h=>
   cases h;refine⟨u0,QX X G xg0,xe0,⟨xa0,xb0,xc0,fG,xo0⟩,xm0,xv0,λc' x' A' h1 h2=>?_⟩;have h3:(["Unlike","NoName","NoText","NoRoad","NoSize","NoState","NoSquare","NoTurn"]:List Str)[c']?=some x':=h1
   match c',h3 with
   |0,h3=>cases h3;rw[QX X G xg0]at h2;cases h2;exact xk0_0
   |1,h3=>cases h3;rw[QX X G xg1]at h2;cases h2;exact xk0_1
   |2,h3=>cases h3;rw[QX X G xg2]at h2;cases h2;exact xk0_2
   |3,h3=>cases h3;rw[QX X G xg3]at h2;cases h2;exact xk0_3
   |4,h3=>cases h3;rw[QX X G xg4]at h2;cases h2;exact xk0_4
   |5,h3=>cases h3;rw[QX X G xg5]at h2;cases h2;exact xk0_5
   |6,h3=>cases h3;rw[QX X G xg6]at h2;cases h2;exact xk0_6
   |7,h3=>cases h3;rw[QX X G xg7]at h2;cases h2;exact xk0_7
   |_+8,h3=>cases h3
  |_+1,h=>cases h
end R36
namespace R36
open Mini
noncomputable def T:List Fn:=[f0,f1,f2,f3,f4,f5,f6,f7,f8,f9,tZ,tY,tX,tW,tV,tT,tS,tR,eQ,x0,x1]
open Vl Vl.Lib
noncomputable def yH:Nat->Lv:=λk=>if k=1\/k=4\/k=13 then .no else .full
abbrev CD(d:Nat):=js yH T d
def yI (h:T[k]?=some f)(ds:List Dat):CD (d+1) k ds=zQ yH (CD d) k f ds:=by
 show js yH T (d+1) k ds=_;unfold js;rw[h]
def nt(k:Nat):yH k≠.top:=λh=>by
 unfold yH at h;split at h<;>cases h
def H0 (d:Nat)(h:A.length=B.length):CD (d+1) 0 [af A,af B]=.ok .non:=by rw[yI (f:=lY) rfl];exact Fs h
def H1 (d:Nat)(h:Sq R)(hn:R.length<=100):CD (d+1) 1 [af R]=.ok (af (wW R)):=by rw[yI (f:=lO) rfl];exact DV h hn rfl
def H2(d:Nat)(i:Int)(x:List Int)(hx:x.length<=100):CD (d+1) 2 [.int i,row x]=.ok (row (wn i x)):=by rw[yI (f:=lH) rfl];exact CJ i x hx (nt _)
def H3 (d:Nat)(hn:n<=12)(h:HF n G):CD (d+2) 3 [af (zM n G)]=.ok (af (zn n G)):=by
 have hl:=yG n G;rw[yI (f:=jC 1 2) rfl,<-h.back];exact FE (H1 d (vO n G) (by lia)) (H2 d) (by lia) rfl (nt _)
def H4 (d:Nat)(hn:n<=12)(h:HF n G)(k:HF n F):∃l,uc n G F l/\CD (d+1) 4 [af (zn n G),af (zn n F)]=.ok (PD l):=by
 rw[yI (f:=lW) rfl];exact Fp hn h k rfl
def H5 (d:Nat)(hn:n<=12)(h:HF n G)(k:HF n F):∃l,bF n G l F/\(l.length:Int)=eh n G F/2/\l.length<=6000/\CD (d+3) 5 [af (zM n G),af (zM n F)]=.ok (PD l):=by
 obtain⟨l,⟨a1,a2,T,a3,a4⟩,e1⟩:=H4 (d+1) hn h k;obtain⟨l',⟨b1,b2,U,b3,b4⟩,e2⟩:=H4 (d+1) hn k h;refine⟨l++l'.reverse,bF.app (b3.rev.congr λi j hi hj=>?_) a3,?_,by simp;lia,?_⟩
 .rw[a4 i j hi hj,b4 i j hi hj];split<;>split<;>lia
 .rw[BX h k,QC,VI,a1,b1]
 .rw[yI (f:=lx 0 3 4) rfl];exact Cn (H0 (d+1) (by rw[yG,yG])) (H3 d hn h) (H3 d hn k) e1 e2 (by unfold av;lia) rfl rfl
def H6(d:Nat)(ns:List Int)(i:Nat):∃c:Int,CD (d+1) 6 [.scr ns,.int i]=.ok (.int c):=by rw[yI (f:=jB) rfl];exact Fw ns i
def H7(d:Nat)(c j:Int)(h:0<=j)(h':j<=100000):∃v:Int,CD (d+1) 7 [.int c,.int j]=.ok (.int v):=by rw[yI (f:=lN) rfl];exact DT c j h h'
def H8(d:Nat)(c:Int):∃n:Nat,1<=n/\n<=12/\CD (d+1) 8 [.int c]=.ok (.int n):=by rw[yI (f:=vL) rfl];exact FZ c
def H9 (d:Nat)(hn:1<=n)(hn':n<=12)(cell:Int):∃G,HF n G/\CD (d+2) 9 [.int cell,.int n]=.ok (af (zM n G)):=by
 rw[yI (f:=lZ 7) rfl];obtain⟨X,hX,e⟩:=Fv (lev:=yH) (k:=9) (H7 d) hn hn' cell (.inr rfl);have hXl:=hX.len;have hl:(sg X).length=n:=by rw[qe,hXl]
 have hS:cg (sg X):=cg.of (uk X) λr c a b=>At hX (by lia) (by lia);generalize sg X=R at *
 subst hl;exact⟨zJ R,hS.hf,by rw[hS.amid];exact e⟩
def GF (d:Nat)(hn:n<=12)(h:HF n G):CD (d+1) 10 [af (zM n G)]=.ok (af (zn n G)):=by
 have hl:=yG n G;have e:CD (d+1) 10 [af (zM n G)]=.ok (af (zn (zM n G).length (zJ (zM n G)))):=by rw[yI (f:=lz) rfl];exact B4 (vO n G) (by lia) (nt _)
 rw[<-Ca (vO n G),h.back]at e;exact e
def GE (d:Nat)(S:Nat->Nat->Int)(h1:0<i)(h2:i<n)(h3:0<j)(h4:j<n):CD (d+1) 11 [af (zn n S),.int i,.int j]=.ok (.bl (lvl S i j)):=by
 rw[yI (f:=iD) rfl];exact BW S h1 h2 h3 h4
def ub (d:Nat)(h1:R.length<=100)(h2:∀x∈R,x.length<=100):CD (d+1) 12 [af R]=.ok (af R):=by
 rw[yI (f:=lG) rfl];exact Fo (by unfold av;lia) (λx hx=>by have:=h2 x hx;unfold av;lia) (nt _)
def GD(d:Nat)(ns:List Int):∃(n:Nat) (G F:Nat->Nat->Int),1<=n/\n<=12/\HF n G/\HF n F/\CD (d+3) 13 [.scr ns]=.ok (.tup [.int n,af (zM n G),af (zM n F)]):=by
 rw[yI (f:=iB 8 6 9) rfl];exact BV (H6 (d+1) ns) (H8 (d+1)) (λh1 h2=>H9 d h1 h2) rfl rfl
def GC (d:Nat)(hn:n<=12)(G F:Nat->Nat->Int):CD (d+1) 14 [af (zn n G),af (zn n F)]=.ok (.int (eh n G F/2)):=by
 rw[yI (f:=lu) rfl];exact Cm hn G F
def GB (d:Nat){j:Nat}(h1:0<i)(h2:i<n)(h3:0<j)(h4:j<n):CD (d+1) 15 [.tup [.int i,.int j],.int n]=.ok (.bl true):=by
 rw[yI (f:=ls) rfl];exact Ck h1 h2 h3 h4
def GA (d:Nat)(hn:n<=12)(hp:bF n G l F)(hl:(l.length:Int)=eh n G F/2)(hz:l.length<=6000):CD (d+2) 16 [PD l,af (zn n G),af (zn n F),.int n]=.ok (.bl true):=by
 rw[yI (f:=lF 14 12 15 11) rfl];exact Cv hn hp (by unfold av;lia) (by rw[hl];exact GC d hn G F) (ub d (by rw[wH];lia) λx hx=>by
  obtain⟨i,_,rfl⟩:=Wq.mp hx;simp[cH];lia) rfl (λi j a b c e=>GB d a b c e) λS i j a b c e=>GE d S a b c e
def Gz (d:Nat)(h:A.length≠B.length):CD (d+1) 19 [af A,af B]=.ok (.int 0):=by rw[yI (f:=pD) rfl];exact BY h
noncomputable def nM(kx:Nat):Fn:=⟨2,4,(.ret (.call kx (.pair (.var 0) (.pair (.var 1) .unit))))⟩
def Cu (h:cl kx [a,b]=.ok (.int c)):zQ yH cl k (nM kx) [a,b]=.ok (.int c):=by
 unfold zQ;rw[Ka (by rfl)];show zS (yH k) (aC yH cl (.ret _) [some a,some b,none,none] _)=_;rw[yz];simp only[zz,zp,zo,za,zd,aQ,zh,h,bh];simp[zS]
def Gy (d:Nat)(h:A.length≠B.length):CD (d+2) 20 [af A,af B]=.ok (.int 0):=by rw[yI (f:=nM 19) rfl];exact Cu (Gz d h)
def ua (d:Nat)(h:A.length≠B.length):CD (d+3) 17 [af A,af B]=.ok (.bl true):=by rw[yI (f:=ly 20) rfl];exact BZ (Gy d h)
noncomputable def jE(r:bR):Prop:=∃l,r=.ret (.bl true) l
def qi (h:aq cl e de=.ok d)(hv:yg (.asg i e) X=none)(k:∀lv':List Lv,lv'.length=lv.length->jE (aC yH cl X (de.set i (some d)) lv')):jE (aC yH cl (.seq (.asg i e) X) de lv):=by
 rw[zD yH cl de lv hv,zK,h];simp only[bh];unfold vG;split<;>(simp only[zj];exact k _ (by simp[tv]))
def Ah (h:aq cl e de=.ok d)(hv:yg (.asg i e) X=none)(hl:aR yH e d=.full)(k:jE (aC yH cl X (de.set i (some d)) (lv.set i .full))):jE (aC yH cl (.seq (.asg i e) X) de lv):=by
 rw[zD yH cl de lv hv,zK,h];simp only[bh];rw[yb hl];exact k
def qj (h:aq cl c de=.ok (.bl false))(hv:yg (.ite c a .skip) X=none)(k:jE (aC yH cl X de lv)):jE (aC yH cl (.seq (.ite c a .skip) X) de lv):=by
 rw[zD yH cl de lv hv,wG,h];simp only[bh,wm,zj];exact k
def Ag (h:aq cl e de=.ok d)(hf:ax d=true)(hd:xz de j=some ds)(hz:ds.length<av)(hj:lv[j]?=some .full)(hv:yg (.expr (.meth .append (.var j) (.pair e .unit))) X=none)(k:jE (aC yH cl X (de.set j (some (.lst (ds++[d])))) lv)):jE (aC yH cl (.seq (.expr (.meth .append (.var j) (.pair e .unit))) X) de lv):=by
 rw[zD yH cl de lv hv,xp,h];simp only[dR,hd];rw[Ka hz];have hg:yQ yH e d j de lv=some (de,lv):=by
  unfold yQ;rw[Kb (by simp[zV,hj]),Ka (yE yH e _ hf)]
 rw[hg];exact k
def Af (hd:xz de j=some ds)(hj:lv[j]?=some .full)(hv:yg (.expr (.meth .reverse (.var j) .unit)) X=none)(k:jE (aC yH cl X (de.set j (some (.lst ds.reverse))) lv)):jE (aC yH cl (.seq (.expr (.meth .reverse (.var j) .unit)) X) de lv):=by
 rw[zD yH cl de lv hv,tm];simp only[hd];rw[Ka (by simp[zV,hj])];exact k
def Ci{lev:Nat->Lv}{cl:Nat->List Dat->Rd}(i j k:Nat)(e:Ex)(de:aJ)(lv:List Lv):aC lev cl (.unp3 i j k e) de lv=(aq cl e de).bindS λd=>match xo d with
  |some [a,b,c]=>.next (((de.set i (some a)).set j (some b)).set k (some c)) ((((yN e de lv).set i (aN a)).set j (aN b)).set k (aN c))
  |_=>.no:=rfl
def t0(m:Nat)(A:List (List Int)):yV (m+3) (af A)=true:=by
 unfold af;rw[wE,y9,Vf,Wv];intro x _;simp only[Function.comp,row];rw[wE,y9,Vf,Wv];intro v _;rfl
def o0(A B:List (List Int)):xg .eq (.lst [af A,af B]) (.lst [af A,af B])=.ok (.bl true):=by
 have h:yV yL (.lst [af A,af B])=true:=by
  show(yV 11 (af A)&&(yV 11 (af B)&&true))=true;rw[t0 8 A,t0 8 B];rfl
 simp only[xg,et,h,VL,if_true];have e:bO [af A,af B] [af A,af B]=true:=by simp only[bO,af,g8,jA,VL]
 simp only[g8,e];rfl
def Ae(A B:List (List Int)):xg .ne (.lst [af A,af B]) (.lst [af A,af B])=.ok (.bl false):=by
 have h:=o0 A B;simp only[xg]at h ⊢;cases e:et (.lst [af A,af B]) (.lst [af A,af B])with
 |none=>rw[e]at h;cases h
 |some b=>
  rw[e]at h;cases b with
  |true=>rfl
  |false=>cases h
set_option tactic.hygienic true in
def Ct(ns:List Int):CD 7 18 [.scr ns]=.ok (.bl true):=by
 rw[yI (d:=6) (f:=eQ) rfl];obtain⟨n,G,F,hn1,hn2,hG,hF,h13⟩:=GD 3 ns;obtain⟨c3,h3⟩:=H6 5 ns 3;obtain⟨c4,h4⟩:=H6 5 ns 4;have h3':CD 6 6 [.scr ns,.int 3]=.ok (.int c3):=h3;have h4':CD 6 6 [.scr ns,.int 4]=.ok (.int c4):=h4;have h13':CD 6 13 [.scr ns]=.ok (.tup [.int n,af (zM n G),af (zM n F)]):=h13;have cp:=λ(A:Nat->Nat->Int)=>(show CD 6 12 [af (zM n A)]=_ from ub 5 (by rw[yG];lia) λx hx=>by rw[tw n A x hx];lia);have ht:=λ{A:Nat->Nat->Int}(a:HF n A)=>(show CD 6 10 [af (zM n A)]=_ from GF 5 hn2 a);obtain⟨l,p1,p2,p3,p4⟩:=H5 3 hn2 hG hF;have b1:CD 6 5 [af (zM n G),af (zM n F)]=.ok (PD l):=p4;obtain⟨l2,q1,q2,q3,q4⟩:=H5 3 hn2 hF hF;have b2:CD 6 5 [af (zM n F),af (zM n F)]=.ok (PD l2):=q4;have ld:CD 6 16 [PD l,af (zn n G),af (zn n F),.int n]=.ok (.bl true):=GA 4 hn2 p1 p2 p3;obtain rfl:l2=[]:=by
  rw[CC]at q2;exact WO (by lia)
 have hm:∃m:Nat,1<=m/\m<=12/\m≠n/\(1:Int)+((n:Int)+c3%11)%12=m:=by
  refine⟨(1+((n:Int)+c3%11)%12).toNat,?_,?_,?_,?_⟩<;>lia
 obtain⟨m,m1,m2,mn,em⟩:=hm;obtain⟨U,hU,u1⟩:=H9 4 m1 m2 c4;have u1':CD 6 9 [.int c4,.int m]=.ok (af (zM m U)):=u1;have ne1:(zM n G).length≠(zM m U).length:=by rw[yG,yG];lia
 have r1:=(show CD 6 17 [af (zM n G),af (zM m U)]=_ from ua 3 ne1);have r2:=(show CD 6 17 [af (zM m U),af (zM n G)]=_ from ua 3 (Ne.symm ne1));suffices hs:∀lv:List Lv,lv.length=9->jE (aC yH (CD 6) eQ.body [some (.scr ns),none,none,none,none,none,none,none,none] lv) by
  obtain⟨l,hs⟩:=hs (xh eQ [.scr ns]) rfl;unfold zQ;rw[Ka (by rfl)];show zS _ (aC yH (CD 6) eQ.body [some (.scr ns),none,none,none,none,none,none,none,none] (xh eQ [.scr ns]))=_;rw[hs];simp[zS]
 intro lv hlv;unfold eQ;have i0:∀a b:Dat,yj (.lst [a,b]) (.int 0)=.ok a:=λa b=>yK (i:=0) rfl;have i1:∀a b:Dat,yj (.lst [a,b]) (.int 1)=.ok b:=λa b=>yK (i:=1) rfl;have hnew:∀a b:Dat,yf [a,b]=.ok (.lst [a,b]):=λ_ _=>rfl;rw[zD yH (CD 6) _ lv rfl,Ci];simp only[zz,zp,zo,zd,aQ,zh,h13',bh,xo,Qg,Qf,zj];refine qi (d:=.lst [af (zM n G),af (zM n F)]) (by simp only[yU,zz,zp,zo,zd,za,aQ,zh,cp,hnew]) rfl λlv1 g1=>?_;have g1:lv1.length=9:=by rw[g1];simp[tv,hlv]
 simp only[Qg,Qf];refine qi (d:=af (zn n G)) (by simp only[zz,zp,zo,zd,za,aQ,zh,ht hG]) rfl λlv2 g2=>?_;simp only[Qg,Qf];refine qi (d:=af (zn n F)) (by simp only[zz,zp,zo,zd,za,aQ,zh,ht hF]) rfl λlv3 g3=>?_;simp only[Qg,Qf];refine Ah (d:=PD l) (by simp only[zz,zp,zo,yk,ze,zd,za,aQ,zh,i0,i1,b1]) rfl (by simp[yH]) ?_;have hj:(lv3.set 7 Lv.full)[7]?=some .full:=by rw[QI];simp;lia
 simp only[Qg,Qf];refine qj (by simp only[ii,jt,yP,yU,zz,zp,zo,zd,za,aQ,zh,ld,hnew,Ae,Vk]) rfl ?_;refine Ag (d:=.tup [.int 0,.int 0]) (ds:=l.map λp=>Dat.tup [.int (p.1:Int),.int (p.2:Int)]) rfl (by simp) rfl (by simp;unfold av;lia) hj rfl ?_;simp only[Qg,Qf];refine Af rfl hj rfl ?_;simp only[Qg,Qf];refine qj (by simp only[jt,zz,zp,zo,yk,ze,zd,za,aQ,zh,i0,i1,b1,ld,Vk]) rfl ?_;refine qi (d:=af (zM m U)) (by simp only[zR,zz,zp,zo,ze,zd,za,aQ,zh,h3',h4',xO c3 11 (by decide),xi,xO _ 12 (by decide),em,u1']) rfl λlv4 g4=>?_;simp only[Qg,Qf];refine qj (by simp only[ii,jt,zz,zp,zo,yk,ze,zd,za,aQ,zh,i0,r1,r2,Vk]) rfl ?_;rw[yz];have e0:xg .eq (PD []) (.lst [])=.ok (.bl true):=rfl;have n0:yf []=.ok (.lst []):=rfl;simp only[ms,yP,zz,yU,zp,zo,yk,ze,zd,za,aQ,zh,i1,hnew,o0,b2,n0,e0,bh];exact⟨_,rfl⟩
def pure(ns:List Int)(_:ns.length<=63):∃m,yC (D.map (·.fn)++XD.map (·.fn)) 7 18 [.rol (ns.map Wd.int)] []=.ok (.bl true) m:=Bs yH T 7 18 ns (Ct ns)
end R36
namespace Mini
open PySem PySem.Spec PyProof.Rows L2
def ue {run:Value->List Value->Sem Value}{K:HQ->Qb}(e:∀P,as=(K P).map (·.1))(h:V2 q loose XP (λw h=>(K w.params).In h) r d kwd run):PySem.W.WalkX q loose XP (PySem.W.X.obsZ as) (PySem.W.X.valZ K n t) r d kwd run:=
 λw s₀ s₁ mg mb G y a o pm cd doc dV kV h1 h2 h3 h4 h5 h6 args vals as' L p1 p2 p3 p4 p5=>h w s₀ s₁ mg mb G (PySem.W.InK.keeps (K:=K) w _ _ (PySem.W.X.z_facts e y).2.1 L.keeps) a o pm cd doc dV kV h1 h2 h3 h4 h5 h6 args vals as' p1 p2 p3 p4 p5
end Mini
namespace R36
open PySem L2 Mini PySem.W
def Gj (X:(K P).In h)(G:h.Ns HW mg)(g:nsIn (K P) HW d.nm=some (some (.ref a)))(l:(K P).lookup a=some (fO d.on d.st m c))(k:codeIn (K P) (.ref c) d.on=true):wB (K P) mg d:=
 dk X G g l k (by show(match (K P).lookup a with|some ⟨_,_,.func _,_⟩=>true|some ⟨_,_,.cls _,_⟩=>_|_=>false)=true;rw[l];rfl)
def t4 (X:(K P).In h)(G:h.Ns HW mg){l:List (bn×Addr×Addr×Value)}(e:l.map (λx=>(nsIn (K P) HW x.1.nm,(K P).lookup x.2.1,codeIn (K P) (.ref x.2.2.1) x.1.on))=l.map λx=>(some (some (.ref x.2.1)),some (fO x.1.on x.1.st x.2.2.2 x.2.2.1),true)):∀d∈l.map (·.1),wB (K P) mg d:=λd hd=>by
 obtain⟨x,hx,rfl⟩:=Wq.mp hd;have q:=List.map_inj_left.mp e x hx;exact Gj X G (Ke (·.1) q) (Ke (·.2.1) q) (Ke (·.2.2) q)
noncomputable def lD:List (bn×Addr×Addr×Value):=[(d0,137,136,m0),(d1,142,141,m1),(d2,149,148,m2),(d3,154,153,m2),(d4,159,158,m3),(d5,166,165,m3),(d6,173,172,m4),(d7,180,179,m4),(d8,187,186,m4),(d9,192,191,m4),(nz,199,198,m4),(i5,206,205,m4),(nw,211,210,m4),(nv,216,215,m4),(nu,221,220,m4),(nr,228,227,m4),(nq,235,234,m4),(i4,242,241,m4),(i3,249,248,m4)]
noncomputable def lX:List (bn×Addr×Addr×Value):=[(fG,137,136,m0),(iK,166,165,m3)]
section
variable(P:HQ)
def zb:∀nm∈zr,nsIn (K P) HW nm=some none:=(List.map_inj_left (g:=λ_=>some none)).1 (by kernel_rfl)
end
end R36
open PySem PySem.W PyProof.Rows
set_option maxRecDepth 100000 in
theorem PySem.Challenge.cw_loopgyre_k36_whole_fewest_turns_holds : PySem.Challenge.rw_loopgyre_k36_whole_fewest_turns.Holds := by
 w_on;o_law
 refine holds_openX (q:=R36.qv) (loose:=R36.fK) (Xt:=R36.Xt) (XP:=XL R36.qv []) (Yf:=X.obsZ R36.as) (Ya:=X.valZ R36.K 250 517) (N:=5212) R36.hl (λs e=>xl_of s (Q9.mp e).1) XL.keeps (by rfl) (by rfl) (by rfl) (λs e=>recFacts_of (Q9.mp e).2) (by rfl) (by assumption) (by decide +kernel) ⟨rfl,rfl,rfl,rfl,rfl,by decide +kernel⟩ ?hw ?hc
 case hw=>w_witness2
 refine Mini.ue (K:=R36.K) (λ_=>rfl) ?_;refine Mini.uF (l:=PySem.Challenge.rw_loopgyre_k36_whole_fewest_turns) (D:=R36.D) (XD:=R36.XD) (C:=R36.C) (Q:=R36.Q) (xn:=R36.XN) (k:=7) (i:=18) (dl:=R36.i3) (x:="_law_script") (n:=63) rfl (by decide) rfl ⟨rfl,by decide,by decide⟩ (λw h Y=>Y) rfl rfl R36.uf R36.Gf R36.Go R36.nA rfl rfl rfl ?F R36.pure
 case F=>
  intro w mg fa h KX G hmg;exact R36.mk KX G  (cG:=24) (u0:=80) (u1:=128) (u2:=116) (u3:=92) (u4:=104) (u5:=44) (u6:=56) (u7:=68) (R36.t4 KX G (l:=R36.lD) (by kernel_rfl)) (R36.t4 KX G (l:=R36.lX) (by kernel_rfl))  (R36.zb w.params) (by kernel_rfl) (by kernel_rfl) (by kernel_rfl) (by kernel_rfl) (by kernel_rfl) (by kernel_rfl) (by kernel_rfl) (by kernel_rfl) (by kernel_rfl) (by kernel_rfl) (by kernel_rfl) (by kernel_rfl) (by kernel_rfl) (by kernel_rfl) (by kernel_rfl) (by kernel_rfl) (by kernel_rfl) (by kernel_rfl) (by kernel_rfl) (by kernel_rfl) (by kernel_rfl) (by kernel_rfl) (by kernel_rfl) (by kernel_rfl) (by kernel_rfl) (by kernel_rfl) (by kernel_rfl) (by kernel_rfl)
