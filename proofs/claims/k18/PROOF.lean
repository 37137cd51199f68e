import PyProof.Rows.All
import Wide.All
import OpenK.AllK
import Wide.FinOn
import Lean
import PyProof.EqAt
import PyProof.EqKinds
import PyProof.NeKinds
import PyProof.TupleCall
import OpenK.KOwn
import PyProof.WalkInts
import KE.KIsAll
import KE.RegKIsAll
import PyProof.ExcAttrAll.ValueError
import OpenK.KMake
import PyProof.ExcInit
import PySem.Challenge.RW_loopgyre_k18_no_arrows
open PySem renaming Scope→JP,Params→JQ,DictEntry→JR,Program→JS,World→JT,Heap→JU,sysModules→JV,tupleKind→JW,intKind→JX,mainGlobals→JY,bootBuiltins→JZ,Around→J0,GenState→J2,Drawn→J3,Model→J4,wpAny→J5,model→J6,backTo→J7,starEach→J8,wpAny_mono→J9,wpAny_truthy_bool→Ka,wpAny_execs_nil→Kb,wpAny_execs_cons→Kc,swapsWith→Kd,assignEach→Ke,wpAny_bind→Kf,wpAny_holding→Kg,wpAny_standAt→Kh,wpAny_passesOwn→Ki,letOwnedTupleGo→Kj,wpAny_pure→Kk,wpAny_pyIter_list→Kl,foldedSetIterable→Km,binaryOp→Kn,compareOp→Ko,CmpOp→Kq,behindInMarks→Kr,sizeLine_eq→Ks,attributeBase→Kt,recursionLimit→Ku,cLine→Kv,FuncData→Kw,BindsTo→Kx,codeAny→Ky,wpAny_call→Kz,codeAny_mono→KA,wpAny_Call_Name_kw→KB,NameKind→KC,bindL→KD,bindC→KG,cellsFrom→KH,codeAny_call_function→KI,wpAny_newFunctionEnv_cells→KJ,concat_meets→KM,noFill_tuple_add→KN,seq_tuple_add→KO,IsPart→KP,wpAny_field→KQ,getItem→KR,wpAny_newObj_type→KS,seqIndex?→KT,seqIndex_of→KU,seqIndex_neg→KW,sliceBounds→KZ,keywordEach→K4,Keyword→K5,call_meets→K6,callerA→K8,pushCells→K9,pushCells_keeps→La,newFunctionEnv→Lb,relabel→Lc,notedBy→Ld,noteFrame→Lf,wpAny_comprehension_free→Lg,IsTupleKey→Lh,wpAny_forIn_list→Li,wpAny_dictEpoch→Lj,OsState→Ll,codeAny_call_builtin→Lo,isInstance→Lp,wpAny_loadPart_at→Ls,onTheHeap→Lu,callGetattribute→Lw,excClassObj→Lx,wpAny_isSubtype_exc→Ly,ExcBaseFacts→LA,wpAny_setField→LB
open PyProof.Rows renaming AllBare→J1,subscriptTail_builtinR→KY,IntsAre→K7,Keyed→Lk
open PySem.W renaming mroIn→Lm,looks_mroIn→Ln,findIn→Lq,looks_findIn→Lr,notCls→Lz
open List renaming getElem?_eq_some_iff→Qa,getElem?_eq_getElem→Qc,getD_eq_getElem?_getD→Qd,getElem?_set_ne→Qe,set_cons_zero→Qg,set_cons_succ→Qh,mem_cons_of_mem→Qk,size_toArray→Qm,getElem?_append_right→Qn,getElem?_append_left→Qq,nodup_append→Qr,getElem?_map→Qs,mem_cons→Qt,replicate→Qu,mem_append_right→Qv,length_map→Qw,getElem?_set→Qx,mem_append→Qy,mem_of_getElem?→QA,getElem_mem→QC,nodup_nil→QD,all_eq_true→QE,getElem?_eq_none→QG,mem_cons_self→QH,range→QI,mem_singleton→QJ,mem_map→QL,getElem?_set_self→QM,nodup_cons→QO,append_nil→QU,lookup_cons→QV,mem_append_left→QW,replicate_succ→QZ,length_append→Q0,nil_append→Q8,mem_range→Wb,reverse_cons→Wc,flatten_cons→We,take_of_length_le→Wf,map_cons→Wg,length_cons→Wh,map_map→Wi,cons_append→Wl,length_set→Wo,all_cons→Wp,take_add_one→Wq,forall_mem_cons→Wt,mem_or_eq_of_mem_set→Wu,getElem?_eq_none_iff→Wv,set_eq_of_length_le→Wx,getElem?_replicate→WB,dropLast_eq_take→WC,any_eq_true→WE,map_congr_left→WH,getElem?_range→WI,filterMap_cons→WJ,all_map→WK,mem_filterMap→WL,ext_getElem?→WQ,append_assoc→WR,getElem_inj→WU,range_succ_eq_map→WW,of_mem_zip→W1,mem_iff_getElem→W5,getD_cons_zero→W9,all_eq_false→Vd,eraseIdxIfInBounds_toArray→Vg,not_mem_nil→Vh,length_take→Vi,eq_nil_of_length_eq_zero→Vk,sum_append→Vn,mem_filter→Vo,length_nil→Vp,drop_drop→Vs,drop_eq_getElem_cons→Vu,getElem?_cons_zero→Vx,getElem?_cons_succ→Vy,map_nil→Vz
open PySem.W renaming Frag→Qb,kitOne→Qz,keepIn→QT,kia_one→QX,mg_of→Q4,nsIn→Q5,fnOf→Wa,findIn→Wk,mroIn→Wm,codeIn→Wz,cellsFrom_some→WA,methodObj→Va,kitx_list→Vb,instObj→Vf,lookIn→Vj,WalkO→Vr
open Nat renaming lt_of_lt_of_le→Qf,le_refl→Ql,le_trans→Qo,ne_of_lt→QS,lt_irrefl→QY,add_right_comm→Wn,le_succ→WT,lt_succ_self→WV,ne_of_gt→WY,le_of_lt→WZ,le_of_eq→W0,zero_le→Vm,lt_succ_iff_lt_or_eq→Vw
open PySem.Heap renaming get?_push_of_some→Qi,lt_size→Qp,get?_push_size→QR,get?_update_other→Q6,get?_update_self→WD,get?_none_of_le→WF,size_push→WM,SameBut→WX,MadeExcOf→W6
open Bool renaming and_eq_true→Qj,and_eq_true_iff→QB,false_eq_true→QP,false_ne_true→Q3,not_true→Wj,not_eq_true'→Wr,or_eq_true→Wy,and_false→WN,beq_eq_decide_eq→W4,or_eq_false_iff→W7,not_false→W8,eq_iff_iff→Vq,false_and→Vt
open Option renaming bind_eq_some_iff→QF,map_eq_some_iff→QK,map_some→QN,bind_some→Q9,isSome_iff_exists→Ww,getD_some→WS
open Array renaming getElem?_eq_some_iff→Ws,length_toList→WG,mem_of_getElem?→W2,toList→Vc,getElem?_setIfInBounds_ne→Ve,getElem?_toList→VA
open Int renaming emod_lt_of_pos→WO,emod_nonneg→W3,fdiv_eq_ediv_of_nonneg→Vv
set_option Elab.async false
set_option linter.all false
set_option maxRecDepth 100000
set_option genSizeOf false
set_option maxHeartbeats 0
set_option tactic.hygienic false
set_option bootstrap.genMatcherCode false
set_option compiler.extract_closed false
set_option backward.eqns.nonrecursive false
set_option backward.eqns.deepRecursiveSplit false
noncomputable section
noncomputable def LC:=@decide_eq_false
noncomputable def LF.{u}:=@if_pos.{u}
noncomputable def LG.{u}:=@if_neg.{u}
noncomputable def LH.{u}:=@absurd.{u}
noncomputable def LI.{u,v}:=@congrArg.{u,v}
noncomputable def LJ:=@decide_eq_true
noncomputable def LK:=@of_decide_eq_true
noncomputable def LL:=@decide_eq_true_eq
namespace L2
open PySem PySem.Spec PyProof.Rows
noncomputable def xC(s:Stmt):Arguments:=match s with
 |.FunctionDef _ a _ _ _ _ _ _ _ _=>a
 |_=>{posonlyargs:=[],args:=[],vararg:=none,kwonlyargs:=[],kw_defaults:=[],kwarg:=none,defaults:=[]}
noncomputable def zR(s:Stmt):List Stmt:=match s with
 |.FunctionDef _ _ b _ _ _ _ _ _ _=>b
 |_=>[]
noncomputable def zo(s:Stmt):JP:=match s with
 |.FunctionDef _ _ _ _ _ _ sc _ _ _=>sc
 |_=>{kind:=.function,names:=[],isGenerator:=false,isCoroutine:=false}
end L2
namespace R18
open PySem L2 PySem.W
noncomputable def top(i:Nat):Stmt:=PySem.Challenge.pw_loopgyre_k18_no_arrows.main.body.getD i (.Pass ⟨0,0,0,0⟩)
noncomputable def ge(P:JQ)(s:Str)(t:Tok)(v:Value):JR:=⟨PyData.keyHash P s,.str s t,v⟩
noncomputable def cO(s:Str)(t l n f a q b c d e u v:Nat):Obj:=⟨.type "code",none,.fields #[.str s t,.str s (t+1),.str "/claim/cut.py" (t+2),.int l 0,.int n 0,.int 0 0,.int 0 0,.int f 0,.ref a,.bool true,.int q 0,.ref b,.none,.ref c,.ref d,.ref e,.int u 0,.int l 0,.str "/claim/cut.py" v],#[]⟩
noncomputable def fO(n:Str)(d:Stmt)(m:Value)(c:Addr):Obj:=⟨.type "function",none,.func (fnOf n n (xC d) (zR d) (zo d) .none .none .none m none (.ref c) .none),#[]⟩
noncomputable def dJ:Stmt:=match top 2 with
 |.ClassDef _ _ _ b _ _ _ _ _ _ _=>b.getD 0 (.Pass ⟨0,0,0,0⟩)
 |s=>s
noncomputable def iO(m:Value)(c:Addr):Obj:=⟨.type "function",none,.func (fnOf "__init__" "NoState.__init__" (xC dJ) (zR dJ) (zo dJ) .none .none .none m none (.ref c) .none),#[]⟩
noncomputable def cN:ClassData:=⟨"NoState",[(.ref 24)],[(.ref 44),(.ref 24),(.type "ValueError"),(.type "Exception"),(.type "BaseException"),(.type "object")],43,"NoState",true,[],[],false,none,false⟩
noncomputable def m0:Value:=.str "loopgyre.errors" 187
noncomputable def m1:Value:=.str "loopgyre.kinds" 344
noncomputable def m2:Value:=.str "loopgyre.arrows" 394
noncomputable def m3:Value:=.str "law_loopgyre_k18_no_arrows" 443
noncomputable def dG(s:Str)(t l n f a q b e u v:Nat):Obj:=⟨.type "code",none,.fields #[.str s t,.str s (t+1),.str "/claim/cut.py" (t+2),.int l 0,.int n 0,.int 0 0,.int 0 0,.int f 0,.ref a,.bool true,.int q 0,.ref b,.none,.none,.none,.ref e,.int u 0,.int l 0,.str "/claim/cut.py" v],#[]⟩
noncomputable def fb(P:JQ)(t u l x:Nat):Obj:=⟨.type "dict",none,.dict #[ge P "__module__" t (.str "loopgyre.errors" u),ge P "__firstlineno__" (t+4) (.int l (t+3)),ge P "__static_attributes__" (t+5) (.ref x),ge P "__doc__" (t+6) .none] 2,#[]⟩
noncomputable def fc(s:Str)(g a d r t:Nat):Obj:=⟨.type "type",none,.cls ⟨s,[.ref g],[.ref a,.ref g,.type "ValueError",.type "Exception",.type "BaseException",.type "object"],d,s,true,[],[],false,none,false⟩,#[some (.ref r),none,some (.str s t),some (.str s (t+8)),some (.builtin "ValueError.__new__"),some (.bool true)]⟩
noncomputable def K(P:JQ):Frag:=[(3,⟨.type "dict",none,.dict #[ge P "__name__" 165 (.str "law_loopgyre_k18_no_arrows" 443),ge P "__doc__" 166 .none,ge P "__package__" 167 .none,ge P "__loader__" 168 (.builtin "__main__.__loader__#opaque"),ge P "__spec__" 169 .none,ge P "__annotations__" 170 (.ref 6),ge P "__builtins__" 171 (.ref 4),ge P "__file__" 173 (.str "/claim/cut.py" 172),ge P "__cached__" 174 .none,ge P "GyreError" 206 (.ref 24),ge P "NoState" 231 (.ref 44),ge P "NoSquare" 247 (.ref 56),ge P "NoTurn" 263 (.ref 68),ge P "Unlike" 279 (.ref 80),ge P "NoRoad" 295 (.ref 92),ge P "NoSize" 311 (.ref 104),ge P "NoText" 327 (.ref 116),ge P "NoName" 343 (.ref 128),ge P "GREATEST_SIZE" 347 (.int 12 346),ge P "is_whole" 354 (.ref 137),ge P "is_size_to" 362 (.ref 144),ge P "is_size" 369 (.ref 151),ge P "is_number_row" 375 (.ref 156),ge P "is_number_grid" 381 (.ref 161),ge P "are_among" 387 (.ref 166),ge P "is_grid_of" 393 (.ref 171),ge P "is_side_pair" 405 (.ref 178),ge P "is_faulty_place" 420 (.ref 185),ge P "first_faulty_place" 430 (.ref 192),ge P "signs_of_row" 436 (.ref 197),ge P "state_of_arrows" 442 (.ref 202),ge P "_law_cell_at" 452 (.ref 209),ge P "_law_whole" 459 (.ref 216),ge P "_law_numbers" 471 (.ref 223),ge P "_law_size_by" 478 (.ref 230),ge P "_law_triangle_by" 492 (.ref 237),ge P "_law_state_by" 498 (.ref 242),ge P "_law_arrows_by" 504 (.ref 247),ge P "_law_same" 510 (.ref 252),ge P "_law_copied" 516 (.ref 257),ge P "_law_bad_form" 530 (.ref 264),ge P "_law_other" 537 (.ref 271),ge P "_law_flipped" 543 (.ref 276),ge P "_law_is_wrong" 556 (.ref 283),ge P "_law_fault" 566 (.ref 290),ge P "_law_spot_of" 574 (.ref 297),ge P "_law_floor" 580 (.ref 302),ge P "law" 595 (.ref 309)] 48,#[]⟩),(23,⟨.type "dict",none,.dict #[ge P "__module__" 196 (.str "loopgyre.errors" 187),ge P "__firstlineno__" 200 (.int 2 199),ge P "__static_attributes__" 201 (.ref 22),ge P "__weakref__" 203 (.ref 25),ge P "__doc__" 204 .none] 3,#[]⟩),(24,⟨.type "type",none,.cls ⟨"GyreError",[(.type "ValueError")],[(.ref 24),(.type "ValueError"),(.type "Exception"),(.type "BaseException"),(.type "object")],23,"GyreError",true,[],[(.ref 44),(.ref 56),(.ref 68),(.ref 80),(.ref 92),(.ref 104),(.ref 116),(.ref 128)],false,none,false⟩,#[(some (.ref 15)),none,(some (.str "GyreError" 189)),(some (.str "GyreError" 197)),(some (.builtin "ValueError.__new__")),(some (.bool true))]⟩),(40,⟨.type "code",none,.fields #[(.str "__init__" 219),(.str "NoState.__init__" 220),(.str "/claim/cut.py" 221),(.int 6 0),(.int 2 0),(.int 0 0),(.int 0 0),(.int 3 0),(.ref 35),(.bool true),(.int 181 0),(.ref 36),.none,(.ref 37),(.ref 38),(.ref 39),(.int 224 0),(.int 6 0),(.str "/claim/cut.py" 225)],#[]⟩),(41,iO m0 40),(43,⟨.type "dict",none,.dict #[ge P "__module__" 214 (.str "loopgyre.errors" 187),ge P "__firstlineno__" 218 (.int 4 217),ge P "__init__" 226 (.ref 41),ge P "__static_attributes__" 228 (.ref 42),ge P "__doc__" 229 .none] 2,#[]⟩),(44,⟨.type "type",none,.cls cN,#[(some (.ref 28)),none,(some (.str "NoState" 207)),(some (.str "NoState" 215)),(some (.builtin "ValueError.__new__")),(some (.bool true))]⟩),(55,fb P 239 187 8 54),(56,fc "NoSquare" 24 56 55 47 232),(67,fb P 255 187 10 66),(68,fc "NoTurn" 24 68 67 59 248),(79,fb P 271 187 12 78),(80,fc "Unlike" 24 80 79 71 264),(91,fb P 287 187 14 90),(92,fc "NoRoad" 24 92 91 83 280),(103,fb P 303 187 16 102),(104,fc "NoSize" 24 104 103 95 296),(115,fb P 319 187 18 114),(116,fc "NoText" 24 116 115 107 312),(127,fb P 335 187 20 126),(128,fc "NoName" 24 128 127 119 328),(136,cO "is_whole" 348 24 1 3 131 181 132 133 134 135 352 353),(137,fO "is_whole" (top 12) m1 136),(143,cO "is_size_to" 355 26 2 3 138 181 139 140 141 142 360 361),(144,fO "is_size_to" (top 13) m1 143),(150,cO "is_size" 363 28 1 3 145 181 146 147 148 149 367 368),(151,fO "is_size" (top 14) m1 150),(155,dG "is_number_row" 370 30 2 3 152 181 153 154 373 374),(156,fO "is_number_row" (top 15) m1 155),(160,dG "is_number_grid" 376 32 3 3 157 181 158 159 379 380),(161,fO "is_number_grid" (top 16) m1 160),(165,dG "are_among" 382 36 2 3 162 181 163 164 385 386),(166,fO "are_among" (top 17) m1 165),(170,dG "is_grid_of" 388 38 4 3 167 181 168 169 391 392),(171,fO "is_grid_of" (top 18) m1 170),(177,cO "is_side_pair" 396 41 2 3 172 181 173 174 175 176 403 404),(178,fO "is_side_pair" (top 20) m2 177),(184,cO "is_faulty_place" 406 49 4 3 179 181 180 181 182 183 418 419),(185,fO "is_faulty_place" (top 21) m2 184),(191,cO "first_faulty_place" 421 60 2 3 186 181 187 188 189 190 428 429),(192,fO "first_faulty_place" (top 22) m2 191),(196,dG "signs_of_row" 431 66 1 3 193 181 194 195 434 435),(197,fO "signs_of_row" (top 23) m2 196),(201,dG "state_of_arrows" 437 68 1 3 198 181 199 200 440 441),(202,fO "state_of_arrows" (top 24) m2 201),(208,cO "_law_cell_at" 445 76 2 3 203 181 204 205 206 207 450 451),(209,fO "_law_cell_at" (top 26) m3 208),(215,cO "_law_whole" 453 80 1 3 210 181 211 212 213 214 457 458),(216,fO "_law_whole" (top 27) m3 215),(222,cO "_law_numbers" 460 82 2 3 217 181 218 219 220 221 469 470),(223,fO "_law_numbers" (top 28) m3 222),(229,cO "_law_size_by" 472 93 1 3 224 181 225 226 227 228 476 477),(230,fO "_law_size_by" (top 29) m3 229),(236,cO "_law_triangle_by" 479 97 2 3 231 181 232 233 234 235 490 491),(237,fO "_law_triangle_by" (top 30) m3 236),(241,dG "_law_state_by" 493 110 1 3 238 181 239 240 496 497),(242,fO "_law_state_by" (top 31) m3 241),(246,dG "_law_arrows_by" 499 118 1 3 243 181 244 245 502 503),(247,fO "_law_arrows_by" (top 32) m3 246),(251,dG "_law_same" 505 125 2 3 248 181 249 250 508 509),(252,fO "_law_same" (top 33) m3 251),(256,dG "_law_copied" 511 134 1 3 253 181 254 255 514 515),(257,fO "_law_copied" (top 34) m3 256),(263,cO "_law_bad_form" 517 140 3 3 258 181 259 260 261 262 528 529),(264,fO "_law_bad_form" (top 35) m3 263),(270,cO "_law_other" 531 160 1 3 265 181 266 267 268 269 535 536),(271,fO "_law_other" (top 36) m3 270),(275,dG "_law_flipped" 538 162 3 3 272 181 273 274 541 542),(276,fO "_law_flipped" (top 37) m3 275),(282,cO "_law_is_wrong" 544 186 3 3 277 181 278 279 280 281 554 555),(283,fO "_law_is_wrong" (top 38) m3 282),(289,cO "_law_fault" 557 199 1 3 284 181 285 286 287 288 564 565),(290,fO "_law_fault" (top 39) m3 289),(296,cO "_law_spot_of" 567 206 1 3 291 181 292 293 294 295 572 573),(297,fO "_law_spot_of" (top 40) m3 296),(301,dG "_law_floor" 575 216 1 3 298 181 299 300 578 579),(302,fO "_law_floor" (top 41) m3 301),(308,cO "law" 581 218 1 3 303 181 304 305 306 307 593 594),(309,fO "law" (top 42) m3 308)]
noncomputable def as:List Addr:=[3,23,24,40,41,43,44,55,56,67,68,79,80,91,92,103,104,115,116,127,128,136,137,143,144,150,151,155,156,160,161,165,166,170,171,177,178,184,185,191,192,196,197,201,202,208,209,215,216,222,223,229,230,236,237,241,242,246,247,251,252,256,257,263,264,270,271,275,276,282,283,289,290,296,297,301,302,308,309]
noncomputable def qv:JS:={PySem.Challenge.pw_loopgyre_k18_no_arrows with main:={PySem.Challenge.pw_loopgyre_k18_no_arrows.main with body:=[1,2,3,4,5,6,7,8,9,11,12,13,14,15,16,17,18,20,21,22,23,24,26,27,28,29,30,31,32,33,34,35,36,37,38,39,40,41,42].map top} }
noncomputable def fv:List Str:=[]
noncomputable def Xt(s:Shared):Bool:=xlAt qv [] s&&recOk (RowW.records PySem.Challenge.rw_loopgyre_k18_no_arrows.row.toRowW) s
theorem hj{α β γ δ:Type}{o:Option Shared}{f:Shared->α×β×γ}{g:α×β×γ}{k:Shared->δ}{d:δ}(a:o.map (λs=>((f s).1,(f s).2.1))=some (g.1,g.2.1))(b:o.map (λs=>(f s).2.2)=some g.2.2)(c:o.map k=some d):o.map (λs=>(f s,k s))=some (g,d):=by
 cases o with
 |none=>cases a
 |some s=>
  simp only[QN,Option.some.injEq,Prod.mk.injEq]at a b c ⊢
  exact⟨Prod.ext a.1 (Prod.ext a.2 b),c⟩
noncomputable def rn(w:JT):Option Shared:=openEnds treeTable PySem.Challenge.pw_loopgyre_k18_no_arrows w 5776
noncomputable def sn(s:Shared):=openSeen qv fv (importedModules PySem.Challenge.pw_loopgyre_k18_no_arrows.main.body) Xt true s
theorem Ig(w:JT):(rn w).map (λs=>((sn s).1,(sn s).2.1))=some ((openGood qv fv).1,(openGood qv fv).2.1):=by kernel_rfl
theorem Ie(w:JT):(rn w).map (λs=>(sn s).2.2)=some (openGood qv fv).2.2:=by kernel_rfl
theorem Ic(w:JT):(rn w).map (X.obsZ as)=some (X.valZ K 310 596 w):=by kernel_rfl
theorem hl:LeftO PySem.Challenge.pw_loopgyre_k18_no_arrows qv fv Xt (X.obsZ as) (X.valZ K 310 596) 5776:=λw=>hj (Ig w) (Ie w) (Ic w)
end R18
namespace L2
open PySem PySem.Spec PyProof.Rows
abbrev cX:=Sum Int Str
noncomputable def se:cX->Value->Bool
 |.inl k,v=>Value.isInt k v
 |.inr x,v=>Value.isStrOf x v
noncomputable def nQ(w:JT):cX->Int
 |.inl k=>hashInt k
 |.inr x=>hashStr w x
def zY:∀{k:cX}{v:Value},se k v=true->(∃i t,k=Sum.inl i/\v=Value.int i t)\/(∃x t,k=Sum.inr x/\v=Value.str x t)
 |.inl i,v,h=>by
  obtain⟨t,e⟩:=Value.isInt_shape (k:=i) (v:=v) h;exact .inl ⟨i,t,rfl,e⟩
 |.inr x,v,h=>by
  obtain⟨t,e⟩:=Value.isStrOf_shape (x:=x) (v:=v) h;exact .inr ⟨x,t,rfl,e⟩
def C0(a b:Int):decide ((Sum.inl a:cX)=Sum.inl b)=(a==b):=by
 by_cases e:a=b
 .subst e;simp
 .have h:¬(Sum.inl a:cX)=Sum.inl b:=λq=>e (Sum.inl.inj q);rw[LC h];exact(beq_eq_false_iff_ne.mpr e).symm
def CZ(a b:Str):decide ((Sum.inr a:cX)=Sum.inr b)=decide (a=b):=by
 by_cases e:a=b
 .subst e;simp
 .have h:¬(Sum.inr a:cX)=Sum.inr b:=λq=>e (Sum.inr.inj q);rw[LC h,LC e]
def CY(a:Int)(b:Str):decide ((Sum.inl a:cX)=Sum.inr b)=false:=LC (λq=>nomatch q)
def CW(a:Str)(b:Int):decide ((Sum.inr a:cX)=Sum.inl b)=false:=LC (λq=>nomatch q)
noncomputable def ug(prog:JS)(w:JT):PySem.KeyKind prog w cX where
 is:=se
 hash:=nQ w
 inj:=λv a b ha hb=>by
  rcases zY ha with⟨i,t,rfl,rfl⟩|⟨x,t,rfl,rfl⟩
  .rcases zY hb with⟨j,u,rfl,e⟩|⟨y,u,rfl,e⟩
   .injection e with e1 _;rw[e1]
   .exact nomatch e
  .rcases zY hb with⟨j,u,rfl,e⟩|⟨y,u,rfl,e⟩
   .exact nomatch e
   .injection e with e1 _;rw[e1]
 byValue:=λk v h=>by
  rcases zY h with⟨i,t,rfl,rfl⟩|⟨x,t,rfl,rfl⟩<;>rfl
 pyHash:=λhv h=>by
  rcases zY hv with⟨i,t,rfl,rfl⟩|⟨x,t,rfl,rfl⟩
  .exact wpAny_pyHash_int h
  .exact wpAny_pyHash_str h
 eqBool:=λhu hv h=>by
  rcases zY hu with⟨i,t,rfl,rfl⟩|⟨x,t,rfl,rfl⟩
  .rcases zY hv with⟨j,u,rfl,rfl⟩|⟨y,u,rfl,rfl⟩
   .rw[C0]at h;exact wpAny_eqBool_int h
   .rw[CY]at h;exact SeqAt.EqAt.int_str i t y u _ _ _ _ h
  .rcases zY hv with⟨j,u,rfl,rfl⟩|⟨y,u,rfl,rfl⟩
   .rw[CW]at h;exact SeqAt.EqAt.str_int x t j u _ _ _ _ h
   .rw[CZ]at h;exact wpAny_eqBool_str h
 «strs»:=λk x t v h=>by
  rcases zY h with⟨i,u,rfl,e⟩|⟨y,u,rfl,e⟩
  .exact nomatch e
  .injection e with e1 _
   subst e1;cases v<;>rfl
set_option genInjectivity false in
inductive V where
 |non|bl (b:Bool)|int (i:Int)|str (x:Str)|byt (b:Array UInt8)|flt (b:UInt64)|ref (a:Addr)|ty (n:String)
 deriving DecidableEq
noncomputable def RelV:V->Value->Prop
 |.non,u=>u=Value.none
 |.bl b,u=>u=Value.bool b
 |.int i,u=>∃t,u=Value.int i t
 |.str x,u=>∃t,u=Value.str x t
 |.byt b,u=>∃t,u=Value.bytes b t
 |.flt b,u=>∃t,u=Value.float b t
 |.ref a,u=>u=Value.ref a
 |.ty n,u=>u=Value.type n
abbrev az:List V->List Value->Prop:=Paired RelV
theorem az.length (r:az xs us):xs.length=us.length:=Paired.length r
theorem az.get:∀{xs:List V}{us:List Value}{i:Nat}{x:V},az xs us->xs[i]?=some x->∃u,us[i]?=some u/\RelV x u
 |_,_,_,_,.nil,e=>by simp at e
 |_,_,0,_,.cons r _,e=>by simp at e;subst e;exact⟨_,rfl,r⟩
 |_,_,i+1,x,.cons _ t,e=>by
  obtain⟨u,h1,h2⟩:=az.get (i:=i) (x:=x) t (by simpa using e);exact⟨u,by simpa using h1,h2⟩
theorem az.set (r:RelV x u):∀{xs:List V}{us:List Value}(i:Nat),az xs us->az (xs.set i x) (us.set i u)
 |_,_,_,.nil=>.nil
 |_,_,0,.cons _ t=>.cons r t
 |_,_,i+1,.cons q t=>.cons q (az.set r i t)
theorem az.append:∀{xs ys:List V}{us ws:List Value},az xs us->az ys ws->az (xs++ys) (us++ws)
 |_,_,_,_,.nil,s=>s
 |_,_,_,_,.cons r t,s=>.cons r (az.append t s)
theorem az.take:∀{xs:List V}{us:List Value}(n:Nat),az xs us->az (xs.take n) (us.take n)
 |_,_,0,_=>.nil
 |_,_,_+1,.nil=>.nil
 |_,_,n+1,.cons r t=>.cons r (az.take n t)
theorem az.drop:∀{xs:List V}{us:List Value}(n:Nat),az xs us->az (xs.drop n) (us.drop n)
 |_,_,0,r=>r
 |_,_,_+1,.nil=>.nil
 |_,_,n+1,.cons _ t=>az.drop n t
noncomputable def dz:Option V->Option Value->Prop
 |some v,some u=>RelV v u
 |none,none=>True
 |_,_=>False
noncomputable def KV{κ:Type}:List (κ×V)->List (κ×Value)->Prop:=Paired λ(p:κ×V) (q:κ×Value)=>p.1=q.1/\RelV p.2 q.2
noncomputable def kV:cX->V
 |.inl i=>.int i
 |.inr x=>.str x
set_option genInjectivity false in
inductive HO where
 /-- a list -/
 |lst (xs:List V)
 /-- a tuple (never changes) -/
 |tup (xs:List V)
 /-- a dict whose keys are ints and texts;one whose keys are tuples of ints and texts (the empty one is both) -/
 |dK (kvs:List (cX×V))|dT (kvs:List (List cX×V))
 /-- a set of ints: its members,its size -/
 |set (S:Int->Bool) (n:Nat)
 /-- an instance of the class at C,its dict at dx,its attributes -/
 |ins (C dx:Addr) (fs:List (Str×V))
 /-- the dict of the instance at x -/
 |own (x:Addr)
 /-- the dict of an exception -/
 |xd (fs:List (Str×V))
 /-- a bound method,f of x -/
 |met (f x:Addr)
 /-- a range object lo,lo+1,.. below hi -/
 |rng (lo hi:Int)
 /-- a thing that is known to the object (the script;a dict while a loop walks it): read,never written while it is so -/
 |frz (o:Obj) (u:HO)
 /-- a code object's table -/
 |tbl (ps:Array Value)
 /-- any other thing,by what is true of its one object (a def of one's own: SetO a S n:=HO.ext λh=>..) -/
 |ext (φ:JU->Prop)
abbrev Hp:=Addr->Option HO
noncomputable def aK(H:Hp)(a:Addr)(o:HO):Hp:=λb=>if b=a then some o else H b
def zh:aK H a o a=some o:=by unfold aK;rw[LF rfl]
def zf (h:b≠a):aK H a o b=H b:=by unfold aK;rw[LG h]
def zp {H:Hp}(h:H a=some o)(h':H b=none):a≠b:=by
 intro e;subst e;rw[h]at h';cases h'
section
variable(P:JS)(w:JT)
noncomputable def bc(H:Hp)(h:JU)(a:Addr):HO->Prop
 |.lst xs=>xs.length<=sizeLine/\∃(its:List Value) (n:Nat),az xs its/\h.get? a=some {cls:=.type "list",data:=.seq its.toArray n}
 |.tup xs=>xs.length<=sizeLine/\∃its:List Value,az xs its/\IsTup h a its.toArray
 |.dK kvs=>kvs.length<=sizeLine/\(a==JV)=false/\∃vs,KV kvs vs/\h.DictOf (ug P w) a vs
 |.dT kvs=>kvs.length<=sizeLine/\(a==JV)=false/\∃xs:List (List cX×Addr×Value),
   Paired (λ(p:List cX×V) (q:List cX×Addr×Value)=>p.1=q.1/\H q.2.1=some (.tup (p.1.map kV))/\RelV p.2 q.2.2) kvs xs /\
   ∃o es ep,h.get? a=some o/\o.ExactDict/\o.data=.dict es ep/\es.toList=xs.map (entryOfKey (JW (ug P w)))/\(xs.map (·.1)).Nodup
 |.set S n=>h.SetOf (JX P w) a S n
 |.ins C dx fs=>H dx=some (.own a)/\fs.length<=1000/\dx≠a/\h.get? a=some (Vf C dx) /\
   ∃mA,h.Ns1 dx mA/\(∀f,dz (fs.lookup f) (mA f))/\PySem.Within mA (fs.map (·.1))
 |.own _=>∃o,h.get? a=some o
 |.xd fs=>∃mA,h.Ns1 a mA/\∀f,dz (fs.lookup f) (mA f)
 |.rng lo hi=>∃t u v,h.get? a=some {cls:=.type "range",data:=.fields #[.int lo t,.int hi u,.int 1 v]}
 |.frz o u=>h.get? a=some o/\bc H h a u
 |.tbl ps=>h.get? a=some {cls:=.none,data:=.fields ps}
 |.met f x=>h.get? a=some (Va (.ref f) (.ref x))
 |.ext φ=>φ h/\(∃o,h.get? a=some o)/\∀h1 h2:JU,φ h1->(∀o,h1.get? a=some o->h2.get? a=some o)->φ h2
noncomputable def bN(H:Hp)(h:JU):Prop:=∀a o,H a=some o->bc P w H h a o
end
section
variable{P:JS}{w:JT}{H H':Hp}{h h':JU}{a:Addr}{o:HO}
theorem bc.lt(x:bc P w H h a o):a<h.objs.size:=by
 cases o with
 |lst xs=>obtain⟨_,_,_,_,e⟩:=x;exact Qp e
 |tup xs=>obtain⟨_,_,_,p⟩:=x;exact p.lt
 |dK kvs=>obtain⟨_,_,_,_,o,_,_,e,_⟩:=x;exact Qp e
 |dT kvs=>obtain⟨_,_,_,_,o,_,_,e,_⟩:=x;exact Qp e
 |set S n=>obtain⟨o,_,_,_,e,_⟩:=x;exact Qp e
 |ins C dx fs=>obtain⟨_,_,_,e,_⟩:=x;exact Qp e
 |own y=>obtain⟨_,e⟩:=x;exact Qp e
 |xd fs=>obtain⟨_,⟨_,_,_,e,_⟩,_⟩:=x;exact Qp e
 |rng lo hi=>obtain⟨_,_,_,e⟩:=x;exact Qp e
 |frz ob u=>obtain⟨e,_⟩:=x;exact Qp e
 |tbl ps=>exact Qp (show h.get? a=some _ from x)
 |met f y=>exact Qp (show h.get? a=some _ from x)
 |ext φ=>obtain⟨_,⟨_,e⟩,_⟩:=x;exact Qp e
theorem pB:∀{l₁:List α}{l₂:List β},Paired F l₁ l₂->(∀a b,F a b->G a b)->Paired G l₁ l₂
 |_,_,.nil,_=>.nil
 |_,_,.cons r t,f=>.cons (f _ _ r) (pB t f)
def bc.stay(x:bc P w H h a o)(k:∀b u,(b=a\/H b=some (.own a))->h.get? b=some u->h'.get? b=some u)
  (ho:∀b,H b=some (.own a)->H' b=some (.own a)) (ht:∀b xs,H b=some (.tup xs)->H' b=some (.tup xs)):bc P w H' h' a o:=by
 induction o with
 |lst xs=>obtain⟨z,its,n,r,e⟩:=x;exact⟨z,its,n,r,k _ _ (.inl rfl) e⟩
 |tup xs=>obtain⟨z,its,r,ob,e,c⟩:=x;exact⟨z,its,r,ob,k _ _ (.inl rfl) e,c⟩
 |dK kvs=>obtain⟨z,y,vs,r,ob,es,ep,e,c⟩:=x;exact⟨z,y,vs,r,ob,es,ep,k _ _ (.inl rfl) e,c⟩
 |dT kvs=>
  obtain⟨z,y,xs,r,ob,es,ep,e,c⟩:=x;exact⟨z,y,xs,pB r λp q z=>⟨z.1,ht _ _ z.2.1,z.2.2⟩,ob,es,ep,k _ _ (.inl rfl) e,c⟩
 |set S n=>obtain⟨ob,es,ep,t,e,c⟩:=x;exact⟨ob,es,ep,t,k _ _ (.inl rfl) e,c⟩
 |ins C dx fs=>
  obtain⟨d,z,ne,e,mA,⟨od,es,ep,e2,c⟩,r⟩:=x;exact⟨ho _ d,z,ne,k _ _ (.inl rfl) e,mA,⟨od,es,ep,k _ _ (.inr d) e2,c⟩,r⟩
 |own y=>obtain⟨ob,e⟩:=x;exact⟨ob,k _ _ (.inl rfl) e⟩
 |xd fs=>obtain⟨mA,⟨od,es,ep,e,c⟩,r⟩:=x;exact⟨mA,⟨od,es,ep,k _ _ (.inl rfl) e,c⟩,r⟩
 |rng lo hi=>obtain⟨t,u,v,e⟩:=x;exact⟨t,u,v,k _ _ (.inl rfl) e⟩
 |frz ob u ih=>obtain⟨e,q⟩:=x;exact⟨k _ _ (.inl rfl) e,ih q⟩
 |tbl ps=>
  have e:h.get? a=some {cls:=.none,data:=.fields ps}:=x;show h'.get? a=some {cls:=.none,data:=.fields ps};exact k a _ (.inl rfl) e
 |met f y=>
  have e:h.get? a=some (Va (.ref f) (.ref y)):=x;show h'.get? a=some (Va (.ref f) (.ref y));exact k a _ (.inl rfl) e
 |ext φ=>obtain⟨p,⟨o,e⟩,st⟩:=x;exact⟨st _ _ p λo q=>k _ _ (.inl rfl) q,⟨o,k _ _ (.inl rfl) e⟩,st⟩
theorem bN.lt(x:bN P w H h)(e:H a=some o):a<h.objs.size:=(x a o e).lt
def bN.fresh(x:bN P w H h)(e:h.objs.size<=a):H a=none:=by
 cases q:H a with
 |none=>rfl
 |some u=>exact LH (Qf (x.lt q) e) (QY _)
def bN.kept(x:bN P w H h)(k:∀b u,h.get? b=some u->h'.get? b=some u):bN P w H h':=λa o e=>
 (x a o e).stay (λb u _ q=>k b u q) (λ_ q=>q) λ_ _ q=>q
def bN.laid(x:bN P w H h)(k:∀b u,h.get? b=some u->h'.get? b=some u)(hp:h.objs.size<=a)(new:bc P w (aK H a o) h' a o):bN P w (aK H a o) h':=λb u e=>by
 have hn:=x.fresh hp;by_cases hb:b=a
 .subst hb;rw[zh]at e;cases e;exact new
 .rw[zf hb]at e;exact(x b u e).stay (λc v _ q=>k c v q) (λc q=>by rw[zf (zp q hn)];exact q) λc xs q=>by rw[zf (zp q hn)];exact q
end
noncomputable def Rd(H:Hp)(a:Addr)(u:HO):Prop:=H a=some u\/∃o,H a=some (.frz o u)
def Rd.ok (r:Rd H a u)(x:bN P w H h):bc P w H h a u:=by
 rcases r with r|⟨o,r⟩
 .exact x a u r
 .obtain ⟨_,q⟩:=x a _ r;exact q
noncomputable def lm:Option HO->Prop
 |some (.lst _)=>True
 |some (.dK _)=>True
 |some (.dT _)=>True
 |some (.set _ _)=>True
 |some (.ins _ _ _)=>True
 |some (.ext _)=>True
 |_=>False
section
variable{P:JS}{w:JT}{H:Hp}{h h':JU}{x e:Addr}{o':HO}
def bN.write(ok:bN P w H h)(mu:lm (H x))(he:e=x\/H e=some (.own x))(k:∀b u,b≠e->h.get? b=some u->h'.get? b=some u)(heo:∃u,h'.get? e=some u)
  (new:bc P w (aK H x o') h' x o'):bN P w (aK H x o') h':=λb u q=>by
 have nown:∀c y,H c=some (.own y)->c≠x:=λc y r z=>by subst z;rw[r]at mu;exact mu
 have ntup:∀c xs,H c=some (.tup xs)->c≠x:=λc xs r z=>by subst z;rw[r]at mu;exact mu
 by_cases hb:b=x
 .subst hb;rw[zh]at q;cases q;exact new
 .rw[zf hb]at q;by_cases hbe:b=e
  .have q':H b=some (.own x):=by
    rcases he with z|z
    .exact LH (hbe.trans z) hb
    .rw[hbe];exact z
   rw[q]at q';cases q';obtain⟨v,hv⟩:=heo;exact⟨v,by rw[hbe];exact hv⟩
  .refine (ok b u q).stay (λc v hc r=>k c v ?_ r) (λc r=>by rw[zf (nown c b r)];exact r) λc xs r=>by rw[zf (ntup c xs r)];exact r
   rcases hc with rfl|hc
   .exact hbe
   .rintro rfl;rcases he with z|z
    .exact nown c b hc z
    .rw[hc]at z;cases z;exact hb rfl
end
structure Un(fs ex:List Addr)(H H':Hp)(h h':JU):Prop where
 keep:∀b o,h.get? b=some o->H b=none->b∉fs->b∉ex->h'.get? b=some o
 slot:∀b o,h.get? b=some o->H b=none->b∈fs->b∉ex->∃sl,h'.get? b=some {o with slots:=sl}
 free:∀b o,h.get? b=some o->H b=none->b∉ex->H' b=none
 there:∀b o,h.get? b=some o->b∉ex->∃o',h'.get? b=some o'
 tups:∀b xs,H b=some (.tup xs)->H' b=some (.tup xs)
 frzs:∀b o u,H b=some (.frz o u)->H' b=some (.frz o u)
 tbls:∀b ps,H b=some (.tbl ps)->∃more,H' b=some (.tbl (ps++more))
section
variable{fs ex:List Addr}{H H1:Hp}{h h1 h':JU}{a x e:Addr}{o:HO}
def Un.any (u:Un fs ex H H1 h h1)(q:h.get? b=some ob)(n:H b=none)(hx:b∉ex):∃sl,h1.get? b=some {ob with slots:=sl}:=by
 by_cases hb:b∈fs
 .exact u.slot b ob q n hb hx
 .exact ⟨ob.slots,u.keep b ob q n hb hx⟩
def Un.kept(k:∀b u,h.get? b=some u->h'.get? b=some u):Un fs ex H H h h':=
 ⟨λb ob q _ _ _=>k b ob q,λb ob q _ _ _=>⟨ob.slots,k b ob q⟩,λ_ _ _ n _=>n,λb ob q _=>⟨ob,k b ob q⟩,λ_ _ q=>q,λ_ _ _ q=>q,λ_ ps q=>⟨#[],by rw[q];simp⟩⟩
def Un.refl:Un fs ex H H h h:=Un.kept λ_ _ q=>q
def Un.laid(k:∀b u,h.get? b=some u->h'.get? b=some u)(hp:h.objs.size<=a)(hn:H a=none):Un fs ex H (aK H a o) h h' where
 keep:=λb u q _ _ _=>k b u q
 slot:=λb u q _ _ _=>⟨u.slots,k b u q⟩
 free:=λb u q n _=>by rw[zf (QS (Qf (Qp q) hp))];exact n
 there:=λb u q _=>⟨u,k b u q⟩
 tups:=λb xs q=>by rw[zf (zp q hn)];exact q
 frzs:=λb u xs q=>by rw[zf (zp q hn)];exact q
 tbls:=λb ps q=>⟨#[],by rw[zf (zp q hn),q];simp⟩
def Un.write(mu:lm (H x))(he:e=x\/H e=some (.own x))(k:∀b u,b≠e->h.get? b=some u->h'.get? b=some u)(heo:∃u,h'.get? e=some u):Un fs ex H (aK H x o) h h':=by
 have hx:∀b,H b=none->b≠x:=λb n z=>by subst z;rw[n]at mu;exact mu
 have hb:∀b,H b=none->b≠e:=λb n z=>by
  subst z;rcases he with r|r
  .exact hx b n r
  .rw[n]at r;cases r
 have hm:∀b u,H b=some u->¬lm (some u)->b≠x:=λb u q nm z=>by subst z;rw[q]at mu;exact nm mu
 refine⟨λb u q n _ _=>k b u (hb b n) q,λb u q n _ _=>⟨u.slots,k b u (hb b n) q⟩,λb u q n _=>by rw[zf (hx b n)];exact n,λb u q _=>?_,
  λb xs q=>by rw[zf (hm b _ q λz=>z)];exact q,λb u xs q=>by rw[zf (hm b _ q λz=>z)];exact q,λb ps q=>⟨#[],by rw[zf (hm b _ q λz=>z),q];simp⟩⟩
 by_cases hbe:b=e
 .subst hbe;exact heo
 .exact ⟨u,k b u hbe q⟩
end
noncomputable def iS(h:JU)(H:Hp):List Addr:=(QI h.objs.size).filter λa=>(H a).isSome
noncomputable def g0(h:JU)(H:Hp):JU:=PySem.W.hideAll h (iS h H)
def GI(h:JU)(H:Hp):(g0 h H).objs.size=h.objs.size:=PySem.W.hideAll_size _ _
def FZ (e:h.get? b=some o)(n:H b=none):(g0 h H).get? b=some o:=
 PySem.W.hideAll_get _ e λhm=>by
  have q:(H b).isSome=true:=(Vo.mp hm).2;rw[n]at q;simp at q
def E6 (e:(g0 h H).get? b=some o):h.get? b=some o/\H b=none:=by
 have e':h.get? b=some o:=PySem.W.of_hideAll (iS h H) e;refine⟨e',?_⟩;cases q:H b with
 |none=>rfl
 |some x=>
  have hm:b∈iS h H:=Vo.mpr ⟨Wb.mpr (Qp e'),by simp[q]⟩;have z:(g0 h H).get? b=none:=PySem.W.hideAll_none (iS h H) hm;rw[z]at e;cases e
structure Mod(K:Qb)(mg:Str->Option Value)(base:JU):Prop where
 kin:K.In base
 glob:base.Ns JY mg
 blt:∃mb,base.Ns builtinsNs mb/\∀x:Str,x ≠ "__name__" -> mb x=JZ x
 nolimit:base.NoLimit
set_option genInjectivity false in
structure Cx where
 prog:JS
 w:JT
 K:Qb
 mg:Str->Option Value
 base:JU
 A:J0
 N:List Str
 s₀:Shared
 H₀:Hp
 env:Env
 outer:List Env
 stack:List Env
 ex:List Addr
 fn:Str->Bool
 calm:Bool
 pn:List (Addr×Obj)
 xe:Value->Shared->Prop
noncomputable def bx(l:List Env):List Addr:=l.filterMap (·.frame)
abbrev Cx.fs(X:Cx):List Addr:=bx X.outer
noncomputable def fB(sc:JP)(x:Str):Prop:=sc.names.lookup x=some .local\/sc.names.lookup x=some .cell\/sc.names.lookup x=some .free
noncomputable def Loc(sc:JP)(x:Str):Prop:=sc.names.lookup x=some .local\/sc.names.lookup x=some .cell
noncomputable def rl(env:Env)(h:JU)(m:Str->Option Value)(x:Str)(u:Value):Prop:=
 (env.kindOf x=some .local/\m x=some u)\/((env.kindOf x=some .cell\/env.kindOf x=some .free)/\∃c,env.cells.lookup x=some c/\h.IsCell c (some u))
structure Cx.Ok(X:Cx):Prop where
 mod:Mod X.K X.mg X.base
 kind:X.env.scope.kind=.function
 glob:X.env.globals=JY
 blt:X.env.builtins=builtinsNs
 above:X.s₀.heap.objs.size<=X.env.locals
 inj:∀x y c,X.env.cells.lookup x=some c->X.env.cells.lookup y=some c->x=y
 has:∀x,(X.env.kindOf x=some .cell\/X.env.kindOf x=some .free)->∃c,X.env.cells.lookup x=some c
 cab:∀x c,X.fn x=true->X.env.cells.lookup x=some c->X.s₀.heap.objs.size<=c
 hd:X.calm=true->X.A.handled=none
 frames:X.A.frames=some X.stack
 stk:X.stack=X.outer\/(X.stack=X.env::X.outer/\X.env.frame=some X.env.locals)
 exf:∀b∈X.ex,b≠X.env.locals/\∀x c,X.env.cells.lookup x=some c->c≠b
 bs:∀b o,X.base.get? b=some o->X.s₀.heap.get? b=some o/\X.H₀ b=none
 bsz:X.base.objs.size<=X.s₀.heap.objs.size
 noex:∀b o,X.base.get? b=some o->b∉X.ex
 exfs:∀b∈X.ex,b∉X.fs
 funs:X.s₀.heap.FunFrames X.base X.outer
 frf:∀b∈X.fs,X.H₀ b=none
structure Inv(X:Cx)(pins:List (Addr×Obj))(σ:List (Option V))(H:Hp)(s:Shared):Prop where
 ok:X.Ok
 os:s.os=X.s₀.os
 bare:J1 s.gens
 base:Un X.fs X.ex X.H₀ H X.s₀.heap s.heap
 loc:∃m,s.heap.Ns X.env.locals m/\∀(i:Nat) (x:Str) (v:V),X.N[i]?=some x->σ[i]?=some (some v)->fB X.env.scope x->∃u,RelV v u/\rl X.env s.heap m x u
 cell:∀x c,X.env.cells.lookup x=some c->∃v,s.heap.IsCell c v
 free:H X.env.locals=none
 freeC:∀x c,X.env.cells.lookup x=some c->H c=none
 pin:∀p∈X.pn++pins,s.heap.get? p.1=some p.2/\H p.1=none/\p.1≠X.env.locals/\p.1∉X.fs/\∀v,p.2.data≠.cell v
 hok:bN X.prog X.w H s.heap
 len:σ.length=X.N.length
section
variable{X:Cx}{pins:List (Addr×Obj)}{σ:List (Option V)}{H H':Hp}{s:Shared}{h':JU}
def Cx.Ok.nofr (ok:X.Ok)(e:X.base.get? b=some o):b∉X.fs:=λhb=>by
 have:=(ok.funs.mem hb).1;rw[e]at this;cases this
theorem Inv.bs(I:Inv X pins σ H s):∀b o,X.base.get? b=some o->s.heap.get? b=some o/\H b=none:=λb o e=>
 ⟨I.base.keep b o (I.ok.bs b o e).1 (I.ok.bs b o e).2 (I.ok.nofr e) (I.ok.noex b o e),I.base.free b o (I.ok.bs b o e).1 (I.ok.bs b o e).2 (I.ok.noex b o e)⟩
def Inv.bk(I:Inv X pins σ H s):∀b o,X.base.get? b=some o->s.heap.get? b=some o:=λb o e=>(I.bs b o e).1
theorem Inv.mod(I:Inv X pins σ H s):Mod X.K X.mg X.base:=I.ok.mod
def Inv.kIn(I:Inv X pins σ H s):X.K.In s.heap:=I.ok.mod.kin.keeps I.bk
theorem Inv.lt(I:Inv X pins σ H s):X.env.locals<s.heap.objs.size:=let⟨_,hn,_⟩:=I.loc;hn.lt
def Inv.sz(I:Inv X pins σ H s):X.s₀.heap.objs.size<=s.heap.objs.size:=Qo I.ok.above (WZ I.lt)
def Inv.nofs (I:Inv X pins σ H s)(h:s.heap.objs.size<=a):a∉X.fs:=λhb=>by
 obtain⟨_,o,ho,_⟩:=I.ok.funs.mem hb;exact LH (Qf (Qp ho) (Qo I.sz h)) (QY _)
def Inv.cne(I:Inv X pins σ H s):∀x c,X.env.cells.lookup x=some c->c≠X.env.locals:=λx c e z=>by
 obtain⟨v,o,ho,hd⟩:=I.cell x c e;obtain⟨m,⟨o',es,ep,ho',hd',_⟩,_⟩:=I.loc;rw[z,ho']at ho;cases ho;rw[hd']at hd;cases hd
theorem Inv.funs(I:Inv X pins σ H s):s.heap.FunFrames X.base X.outer:=by
 have all:∀(l:List Env),(∀b∈bx l,b∈X.fs)->X.s₀.heap.FunFrames X.base l->s.heap.FunFrames X.base l:=by
  intro l
  induction l with
  |nil=>intro _ _;trivial
  |cons env r ih=>
   intro hs hl;obtain⟨hk,⟨L,o,hf,hn,ho,hd⟩,hr⟩:=hl;have hL:L∈X.fs:=hs L (by unfold bx;rw[WJ,hf];exact QH);obtain⟨sl,e⟩:=I.base.slot L o ho (I.ok.frf L hL) hL λz=>I.ok.exfs L z hL;exact⟨hk,⟨L,_,hf,hn,e,hd⟩,ih (λb hb=>hs b (by unfold bx;rw[WJ,hf];exact Qk _ hb)) hr⟩
 exact all X.outer (λ_ hb=>hb) I.ok.funs
theorem Inv.stack(I:Inv X pins σ H s):s.heap.FunFrames X.base X.stack:=by
 rcases I.ok.stk with e|⟨e,hf⟩
 .rw[e];exact I.funs
 .rw[e];obtain⟨m,hn,_⟩:=I.loc;refine .cons (by rw[I.ok.kind];decide) hf hn ?_ I.funs;exact WF (Qo I.ok.bsz I.ok.above)
def Inv.stkSub(I:Inv X pins σ H s):∀b∈bx X.stack,b∈X.env.locals::X.fs:=λb hb=>by
 rcases I.ok.stk with e|⟨e,hf⟩
 .rw[e]at hb;exact Qk _ hb
 .rw[e]at hb;unfold bx at hb;rw[WJ,hf]at hb;exact hb
def Inv.stkFree(I:Inv X pins σ H s):∀b∈bx X.stack,H b=none:=λb hb=>by
 rcases Qt.mp (I.stkSub b hb)with e|hb
 .rw[e];exact I.free
 .obtain ⟨_,o,ho,_⟩:=I.ok.funs.mem hb;exact I.base.free b o ho (I.ok.frf b hb) λz=>I.ok.exfs b z hb
def Inv.step{g':Array J2}{t':Nat}{d':J3}{ch:List Addr}(I:Inv X pins σ H s)
  (hch:∀b∈ch,(b∈X.ex\/X.s₀.heap.objs.size<=b)/\b≠X.env.locals/\(∀x c,X.env.cells.lookup x=some c->c≠b)/\∀p∈X.pn++pins,p.1≠b)
  (keep:∀b o,b≠X.env.locals->b∉X.fs->b∉ch->s.heap.get? b=some o->H b=none->h'.get? b=some o)
  (slot:∀b o,b≠X.env.locals->b∈X.fs->b∉ch->s.heap.get? b=some o->H b=none->∃sl,h'.get? b=some {o with slots:=sl}) (free:∀b o,b∉ch->s.heap.get? b=some o->H b=none->H' b=none)
  (there:∀b o,b∉ch->s.heap.get? b=some o->∃o',h'.get? b=some o')
  (tups:∀b xs,H b=some (.tup xs)->H' b=some (.tup xs)) (frzs:∀b o u,H b=some (.frz o u)->H' b=some (.frz o u)) (tbls:∀b ps,H b=some (.tbl ps)->∃more,H' b=some (.tbl (ps++more)))
  (ns:∀m,s.heap.Ns X.env.locals m->h'.Ns X.env.locals m) (hok:bN X.prog X.w H' h') (hg:J1 g') :
  Inv X pins σ H' {s with heap:=h',gens:=g',drawn:=d',toks:=t' }:=by
 have neL:∀b o,X.s₀.heap.get? b=some o->b≠X.env.locals:=λb o e=>QS (Qf (Qp e) I.ok.above);have neC:∀b o,X.s₀.heap.get? b=some o->b∉X.ex->b∉ch:=λb o e hx hb=>by
  rcases(hch b hb).1 with z|z
  .exact hx z
  .exact LH (Qf (Qp e) z) (QY _)
 have cellK:∀x c,X.env.cells.lookup x=some c->∀v,s.heap.IsCell c v->h'.IsCell c v:=λx c e v ⟨o,ho,hd⟩=>by
  have nch:c∉ch:=λz=>(hch c z).2.2.1 x c e rfl;by_cases hc:c∈X.fs
  .obtain ⟨sl,q⟩:=slot c o (I.cne x c e) hc nch ho (I.freeC x c e);exact⟨_,q,hd⟩
  .exact ⟨o,keep c o (I.cne x c e) hc nch ho (I.freeC x c e),hd⟩
 refine⟨I.ok,I.os,hg,⟨λb o e n hb hx=>?_,λb o e n hb hx=>?_,λb o e n hx=>?_,λb o e hx=>?_,λb xs e=>tups b xs (I.base.tups b xs e),λb o xs e=>frzs b o xs (I.base.frzs b o xs e),λb ps e=>?_⟩,?_,λx c e=>?_,?_,λx c e=>?_,λp hp=>?_,hok,I.len⟩
 .exact keep b o (neL b o e) hb (neC b o e hx) (I.base.keep b o e n hb hx) (I.base.free b o e n hx)
 .obtain ⟨sl,e1⟩:=I.base.slot b o e n hb hx;obtain⟨sl',e2⟩:=slot b _ (neL b o e) hb (neC b o e hx) e1 (I.base.free b o e n hx);exact⟨sl',e2⟩
 .obtain ⟨o',e1⟩:=I.base.there b o e hx;exact free b o' (neC b o e hx) e1 (I.base.free b o e n hx)
 .obtain ⟨o',e1⟩:=I.base.there b o e hx;exact there b o' (neC b o e hx) e1
 .obtain ⟨m1,e1⟩:=I.base.tbls b ps e;obtain⟨m2,e2⟩:=tbls b _ e1;exact⟨m1++m2,by rw[e2,Array.append_assoc]⟩
 .obtain ⟨m,hn,hl⟩:=I.loc;refine⟨m,ns m hn,λi x v e1 e2 e3=>?_⟩;obtain⟨u,r,l⟩:=hl i x v e1 e2 e3;refine⟨u,r,?_⟩;rcases l with l|⟨k,c,e,z⟩
  .exact .inl l
  .exact .inr ⟨k,c,e,cellK x c e _ z⟩
 .obtain ⟨v,z⟩:=I.cell x c e;exact⟨v,cellK x c e v z⟩
 .obtain ⟨m,⟨o,_,_,ho,_⟩,_⟩:=I.loc;exact free _ o (λz=>(hch _ z).2.1 rfl) ho I.free
 .obtain ⟨v,o,ho,hd⟩:=I.cell x c e;exact free c o (λz=>(hch c z).2.2.1 x c e rfl) ho (I.freeC x c e)
 .obtain ⟨e,n,ne,nf,d⟩:=I.pin p hp;have nch:p.1∉ch:=λz=>(hch p.1 z).2.2.2 p hp rfl;exact⟨keep p.1 p.2 ne nf nch e n,free p.1 p.2 nch e n,ne,nf,d⟩
def Inv.un{t':Nat}(I:Inv X pins σ H s)(u:Un X.fs [] H H' s.heap h')(hok:bN X.prog X.w H' h'):Inv X pins σ H' {s with heap:=h',toks:=t' }:=by
 obtain⟨m,⟨o,es,ep,ho,r⟩,_⟩:=id I.loc;obtain⟨sl,hL⟩:=u.any ho I.free (by simp);exact I.step (g':=s.gens) (d':=s.drawn) (ch:=[]) (λ_ z=>nomatch z) (λb o _ hb _ e n=>u.keep b o e n hb (by simp)) (λb o _ hb _ e n=>u.slot b o e n hb (by simp)) (λb o _ e n=>u.free b o e n (by simp)) (λb o _ e=>u.there b o e (by simp)) u.tups u.frzs u.tbls (λm' hm=>by
  obtain⟨o',es',ep',ho',r'⟩:=hm;rw[ho]at ho';cases ho';exact⟨_,es',ep',hL,r'⟩) hok I.bare
def Inv.call{g':Array J2}{t':Nat}{d':J3}{ch:List Addr}(I:Inv X pins σ H s)(u:Un (bx X.stack) ch H H' s.heap h')(hok:bN X.prog X.w H' h')(hg:J1 g')
  (hch:∀b∈ch,(b∈X.ex\/X.s₀.heap.objs.size<=b)/\b≠X.env.locals/\(∀x c,X.env.cells.lookup x=some c->c≠b)/\∀p∈X.pn++pins,p.1≠b) :
  Inv X pins σ H' {s with heap:=h',gens:=g',drawn:=d',toks:=t' }:=by
 obtain⟨m,⟨o,es,ep,ho,r⟩,_⟩:=id I.loc;obtain⟨sl,hL⟩:=u.any ho I.free λz=>(hch _ z).2.1 rfl;exact I.step (ch:=ch) hch (λb o hL hb hc e n=>u.keep b o e n (λz=>(Qt.mp (I.stkSub b z)).elim hL hb) hc) (λb o _ _ hc e n=>u.any e n hc) (λb o hc e n=>u.free b o e n hc) (λb o hc e=>u.there b o e hc) u.tups u.frzs u.tbls (λm' hm=>by
  obtain⟨o',es',ep',ho',r'⟩:=hm;rw[ho]at ho';cases ho';exact⟨_,es',ep',hL,r'⟩) hok hg
def Inv.turned{t':Nat}{it:Addr}(I:Inv X pins σ H s)(k:∀b o,b≠it->s.heap.get? b=some o->h'.get? b=some o)(hn:H it=none)(hL:it≠X.env.locals)
  (h1:it∈X.ex\/X.s₀.heap.objs.size<=it) (h2:∀x c,X.env.cells.lookup x=some c->c≠it) (h3:∀p∈X.pn++pins,p.1≠it):Inv X pins σ H {s with heap:=h',toks:=t' }:=by
 have nit:∀b u,H b=some u->b≠it:=λb u e z=>by rw[z,hn]at e;cases e
 refine I.step (g':=s.gens) (d':=s.drawn) (ch:=[it]) (λb hb=>?_) (λb o _ _ hc e _=>k b o (λz=>hc (by simp[z])) e) (λb o _ _ hc e _=>⟨o.slots,k b o (λz=>hc (by simp[z])) e⟩) (λ_ _ _ _ n=>n)
  (λb o hc e=>⟨o,k b o (λz=>hc (by simp[z])) e⟩) (λ_ _ e=>e) (λ_ _ _ e=>e) (λb ps e=>⟨#[],by rw[e];simp⟩) (λm hm=>?_) (λb u e=>?_) I.bare
 .have e:b=it:=by simpa using hb
  subst e;exact⟨h1,hL,h2,h3⟩
 .obtain ⟨o,es,ep,ho,r⟩:=hm;exact⟨o,es,ep,k _ o (Ne.symm hL) ho,r⟩
 .refine (I.hok b u e).stay (λc v hc q=>k c v ?_ q) (λ_ q=>q) λ_ _ q=>q;rcases hc with z|z
  .rw[z];exact nit b u e
  .exact nit c _ z
def Inv.tok(I:Inv X pins σ H s)(t:Nat):Inv X pins σ H {s with toks:=t}:=I.un (h':=s.heap) (t':=t) Un.refl I.hok
theorem Inv.kept{t':Nat}(I:Inv X pins σ H s)(k:∀b u,s.heap.get? b=some u->h'.get? b=some u):Inv X pins σ H {s with heap:=h',toks:=t' }:=I.un (Un.kept k) (I.hok.kept k)
theorem Inv.laid{a:Addr}{o:HO}{t':Nat}(I:Inv X pins σ H s)(k:∀b u,s.heap.get? b=some u->h'.get? b=some u)(hp:s.heap.objs.size<=a)(new:bc X.prog X.w (aK H a o) h' a o):
  Inv X pins σ (aK H a o) {s with heap:=h',toks:=t' }:=I.un (Un.laid k hp (I.hok.fresh hp)) (I.hok.laid k hp new)
theorem Inv.write{x e:Addr}{o:HO}{t':Nat}(I:Inv X pins σ H s)(mu:lm (H x))(he:e=x\/H e=some (.own x))(k:∀b u,b≠e->s.heap.get? b=some u->h'.get? b=some u)(heo:∃u,h'.get? e=some u)
  (new:bc X.prog X.w (aK H x o) h' x o):Inv X pins σ (aK H x o) {s with heap:=h',toks:=t' }:=I.un (Un.write mu he k heo) (I.hok.write mu he k heo new)
def Inv.pins_of{pins':List (Addr×Obj)}(I:Inv X pins σ H s)(h:∀p∈pins',s.heap.get? p.1=some p.2/\H p.1=none/\p.1≠X.env.locals/\p.1∉X.fs/\∀v,p.2.data≠.cell v):Inv X pins' σ H s:=
 ⟨I.ok,I.os,I.bare,I.base,I.loc,I.cell,I.free,I.freeC,λp hp=>(Qy.mp hp).elim (λz=>I.pin p (QW _ z)) (h p),I.hok,I.len⟩
def ju {N:List Str}(hN:N.Nodup){j:Nat}(a:N[i]?=some x)(b:N[j]?=some x):i=j:=by
 obtain⟨h1,e1⟩:=Qa.mp a;obtain⟨h2,e2⟩:=Qa.mp b;exact(WU hN).mp (e1.trans e2.symm)
def gp (I:Inv X pins σ H s)(hN:X.N.Nodup)(hi:X.N[i]?=some x)(hx:Loc X.env.scope x)(r:RelV v u)(h:∀s',Inv X pins (σ.set i (some v)) H s'->(∃a,WX a s.heap s'.heap/\(a=X.env.locals\/X.env.cells.lookup x=some a))->Q () s')(hf:X.fn x=true\/X.env.scope.names.lookup x=some .local:=by first|exact .inl rfl|exact .inr rfl|assumption):J5 M A (storeName X.env x u) Q E s:=by
 obtain⟨m,hn,hl⟩:=id I.loc;have hcls:(X.env.scope.kind == .class || (X.env.scope.kind == .module&&X.env.locals != X.env.globals))=false:=by rw[I.ok.kind];rfl
 have hiσ:i<σ.length:=by rw[I.len];exact(Qa.mp hi).1
 have cne:=I.cne;have tracked:∀{a:Addr}{h':JU},(∃o,s.heap.get? a=some o/\H a=none)->WX a s.heap h'->bN X.prog X.w H h':=λ{a h'} ha hs b ob e=>by
  obtain⟨_,_,hfree⟩:=ha;refine(I.hok b ob e).stay (λc w' hc q=>(hs.2 c ?_).trans q) (λ_ q=>q) λ_ _ q=>q;rintro rfl;rcases hc with rfl|hc
  .rw[hfree]at e;cases e
  .rw[hfree]at hc;cases hc
 rcases hx with hk|hk
 .refine wpAny_storeName_local hk hn (λh' hn' hs=>?_) hcls;obtain⟨oL,_,_,hoL,_⟩:=id hn;refine h _ ⟨I.ok,I.os,I.bare,⟨λb o e n hb hx=>?_,λb o e n hb hx=>?_,I.base.free,λb o e hx=>?_,I.base.tups,I.base.frzs,I.base.tbls⟩,⟨_,hn',λj y v' e1 e2 e3=>?_⟩,λy c e=>?_,I.free,I.freeC,λp hp=>?_,tracked ⟨oL,hoL,I.free⟩ hs,by simpa using I.len⟩ ⟨_,hs,.inl rfl⟩
  .exact (hs.2 b (QS (Qf (Qp e) I.ok.above))).trans (I.base.keep b o e n hb hx)
  .obtain ⟨sl,e1⟩:=I.base.slot b o e n hb hx;exact⟨sl,(hs.2 b (QS (Qf (Qp e) I.ok.above))).trans e1⟩
  .obtain ⟨o',e1⟩:=I.base.there b o e hx;exact⟨o',(hs.2 b (QS (Qf (Qp e) I.ok.above))).trans e1⟩
  .by_cases hj:j=i
   .subst hj;rw[hi]at e1;cases e1;rw[QM hiσ]at e2;cases e2;exact⟨u,r,.inl ⟨hk,by simp⟩⟩
   .rw[Qe (Ne.symm hj)]at e2;obtain⟨u',r',q⟩:=hl j y v' e1 e2 e3;refine⟨u',r',?_⟩;rcases q with⟨k,e⟩|⟨k,c,e,z⟩
    .refine .inl ⟨k,?_⟩;have:y≠x:=λe=>hj (ju hN e1 (e▸hi));simp[this,e]
    .exact .inr ⟨k,c,e,z.sameBut hs (cne y c e)⟩
  .obtain ⟨w',z⟩:=I.cell y c e;exact⟨w',z.sameBut hs (cne y c e)⟩
  .obtain ⟨e,n,ne,nf,d⟩:=I.pin p hp;exact⟨(hs.2 p.1 ne).trans e,n,ne,nf,d⟩
 .have hfn:X.fn x=true:=by
   rcases hf with z|z
   .exact z
   .rw[z]at hk;cases hk
  obtain⟨c,hc⟩:=I.ok.has x (.inl hk);obtain⟨w',z⟩:=I.cell x c hc;refine wpAny_storeName_cell I.ok.kind hk hc z (λh' hc' hs=>?_);obtain⟨oc,hoc,hocd⟩:=id z;refine h {s with heap:=h' } ⟨I.ok,I.os,I.bare,⟨λb o e n hb hx=>?_,λb o e n hb hx=>?_,I.base.free,λb o e hx=>?_,I.base.tups,I.base.frzs,I.base.tbls⟩,⟨m,hn.sameBut hs (Ne.symm (cne x c hc)),λj y v' e1 e2 e3=>?_⟩,λy c' e=>?_,I.free,I.freeC,λp hp=>?_,tracked ⟨oc,hoc,I.freeC x c hc⟩ hs,by simpa using I.len⟩ ⟨c,hs,.inr hc⟩
  .exact (hs.2 b (QS (Qf (Qp e) (I.ok.cab x c hfn hc)))).trans (I.base.keep b o e n hb hx)
  .obtain ⟨sl,e1⟩:=I.base.slot b o e n hb hx;exact⟨sl,(hs.2 b (QS (Qf (Qp e) (I.ok.cab x c hfn hc)))).trans e1⟩
  .obtain ⟨o',e1⟩:=I.base.there b o e hx;exact⟨o',(hs.2 b (QS (Qf (Qp e) (I.ok.cab x c hfn hc)))).trans e1⟩
  .by_cases hj:j=i
   .subst hj;rw[hi]at e1;cases e1;rw[QM hiσ]at e2;cases e2;exact⟨u,r,.inr ⟨.inl hk,c,hc,hc'⟩⟩
   .rw[Qe (Ne.symm hj)]at e2;obtain⟨u',r',q⟩:=hl j y v' e1 e2 e3;refine⟨u',r',?_⟩;rcases q with q|⟨k,c',e,z'⟩
    .exact .inl q
    .refine .inr ⟨k,c',e,z'.sameBut hs ?_⟩;rintro rfl;exact hj (ju hN e1 (I.ok.inj _ _ _ e hc▸hi))
  .by_cases hcc:c'=c
   .subst hcc;exact⟨_,hc'⟩
   .obtain ⟨w2,z2⟩:=I.cell y c' e;exact⟨w2,z2.sameBut hs hcc⟩
  .obtain ⟨e,n,ne,nf,d⟩:=I.pin p hp;refine⟨(hs.2 p.1 ?_).trans e,n,ne,nf,d⟩;intro q;rw[q,hoc]at e;have q':oc=p.2:=Option.some.inj e;exact d w' (by rw[<-q'];exact hocd)
def jv (I:Inv X pins σ H s)(hN:X.N.Nodup)(hi:X.N[i]?=some x)(hx:Loc X.env.scope x)(r:RelV v u)(h:∀s',Inv X pins (σ.set i (some v)) H s'->Q () s')(hf:X.fn x=true\/X.env.scope.names.lookup x=some .local:=by first|exact .inl rfl|exact .inr rfl|assumption):J5 M A (storeName X.env x u) Q E s:=
 gp I hN hi hx r (λs' I' _=>h s' I') hf
def Inv.call'{s':Shared}{ch:List Addr}(I:Inv X pins σ H s)(ho:s'.os=s.os)(u:Un (bx X.stack) ch H H' s.heap s'.heap)(hok:bN X.prog X.w H' s'.heap)(hg:J1 s'.gens)
  (hch:∀b∈ch,(b∈X.ex\/X.s₀.heap.objs.size<=b)/\b≠X.env.locals/\(∀x c,X.env.cells.lookup x=some c->c≠b)/\∀p∈X.pn++pins,p.1≠b):Inv X pins σ H' s':=by
 obtain⟨h',g',d',t',o'⟩:=s';have e:o'=s.os:=ho;subst e;exact I.call (g':=g') (t':=t') (d':=d') u hok hg hch
end
abbrev XK:=Value->Option Addr->Hp->Prop
abbrev St:=List (Option V)
abbrev VK:=V->Hp->Prop
abbrev TE:=St->Hp->VK->Prop
abbrev TT:=St->Hp->(Bool->Hp->Prop)->Prop
abbrev TA:=St->Hp->(List V->Hp->Prop)->Prop
set_option genInjectivity false in
structure bY where
 nx:St->Hp->Prop
 rt:VK
 bk:St->Hp->Prop:=λ_ _=>False
 ct:St->Hp->Prop:=λ_ _=>False
abbrev TS:=bY->St->Hp->Prop
noncomputable def EP(X:Cx)(pins:List (Addr×Obj))(σ:St)(Q:VK)(u:Value)(s':Shared):Prop:=∃v H',Inv X pins σ H' s'/\RelV v u/\Q v H'
noncomputable def TP(X:Cx)(pins:List (Addr×Obj))(σ:St)(Q:Bool->Hp->Prop)(b:Bool)(s':Shared):Prop:=∃H',Inv X pins σ H' s'/\Q b H'
noncomputable def AP(X:Cx)(pins:List (Addr×Obj))(σ:St)(Q:List V->Hp->Prop)(us:List Value)(s':Shared):Prop:=∃vs H',Inv X pins σ H' s'/\az vs us/\Q vs H'
noncomputable def SP(X:Cx)(pins:List (Addr×Obj))(D:bY)(f:Flow)(s':Shared):Prop:=
 match f with
 |.next=>∃σ' H',Inv X pins σ' H' s'/\D.nx σ' H'
 |.brk=>∃σ' H',Inv X pins σ' H' s'/\D.bk σ' H'
 |.cont=>∃σ' H',Inv X pins σ' H' s'/\D.ct σ' H'
 |.ret u=>∃v σ' H',Inv X pins σ' H' s'/\RelV v u/\D.rt v H'
noncomputable def PE(X:Cx)(e:Expr)(t:TE):Prop:=
 ∀(pins:List (Addr×Obj)) (s:Shared) (σ:St) (H:Hp) (Q:VK),Inv X pins σ H s->t σ H Q->J5 (J6 X.prog X.w) X.A (eval e X.env) (EP X pins σ Q) X.xe s
noncomputable def PT(X:Cx)(e:Expr)(t:TT):Prop:=
 ∀(pins:List (Addr×Obj)) (s:Shared) (σ:St) (H:Hp) (Q:Bool->Hp->Prop),Inv X pins σ H s->t σ H Q->J5 (J6 X.prog X.w) X.A (isTrue e X.env (eval e X.env)) (TP X pins σ Q) X.xe s
noncomputable def PW(X:Cx)(e:Expr)(t:TT):Prop:=
 ∀(whole:Sem Value) (pins:List (Addr×Obj)) (s:Shared) (σ:St) (H:Hp) (Q:Bool->Hp->Prop),Inv X pins σ H s->t σ H Q->J5 (J6 X.prog X.w) X.A (isTrue e X.env whole) (TP X pins σ Q) X.xe s
def PW.pt (h:PW X e t):PT X e t:=h _
noncomputable def PA(X:Cx)(es:List Expr)(t:TA):Prop:=
 ∀(pos:Pos) (pins:List (Addr×Obj)) (s:Shared) (σ:St) (H:Hp) (Q:List V->Hp->Prop),Inv X pins σ H s->t σ H Q->J5 (J6 X.prog X.w) X.A (spliced (J7 pos (J8 es X.env))) (AP X pins σ Q) X.xe s
noncomputable def PS(X:Cx)(st:Stmt)(t:TS):Prop:=
 ∀(pins:List (Addr×Obj)) (s:Shared) (σ:St) (H:Hp) (D:bY),Inv X pins σ H s->t D σ H->J5 (J6 X.prog X.w) X.A (exec st X.env) (SP X pins D) X.xe s
noncomputable def cj(X:Cx)(st:List Stmt)(t:TS):Prop:=
 ∀(pins:List (Addr×Obj)) (s:Shared) (σ:St) (H:Hp) (D:bY),Inv X pins σ H s->t D σ H->J5 (J6 X.prog X.w) X.A (execs st X.env) (SP X pins D) X.xe s
def aY (h:J5 M A t Q E s)(hQ:∀a s,Q a s->Q' a s):J5 M A t Q' E s:=J9 h hQ λ_ _ x=>x
section
variable{X:Cx}
noncomputable def fM(i:Nat):TE:=λσ H Q=>∃v,σ[i]?=some (some v)/\Q v H
noncomputable def tC(v:V):TE:=λ_ H Q=>Q v H
def kC (hN:X.N[i]?=some x)(hv:fB X.env.scope x)(hd:(x==("__debug__":Str))=false:=by decide)(hcd:(x==("__classdict__":Str))=false:=by decide):PE X (.Name x pos) (fM i):=by
 intro pins s σ H Q I h;obtain⟨v,e,h⟩:=h;obtain⟨m,hn,hl⟩:=I.loc;obtain⟨u,r,l⟩:=hl i x v hN e hv;have fin:EP X pins σ Q u s:=⟨v,H,I,r,h⟩;rcases l with⟨hk,hm⟩|⟨hk,c,hc,hcell⟩
 .exact wpAny_Name (wpAny_loadName_local I.ok.kind hk hn hm fin) hd
 .rcases hk with hk|hk
  .exact wpAny_Name (wpAny_loadName_cell I.ok.kind hk hc hcell fin) hd
  .exact wpAny_Name (wpAny_loadName_free I.ok.kind hk hc hcell fin hcd) hd
def CV{i j pos}:PE X (.Constant (.int i) j pos) (tC (.int i)):=λ_ _ _ H _ I h=>wpAny_Constant_int ⟨.int i,H,I.tok _,⟨_,rfl⟩,h⟩
def CN{b j pos}:PE X (.Constant (.bool b) j pos) (tC (.bl b)):=λ_ _ _ H _ I h=>Constant_bool ⟨.bl b,H,I,rfl,h⟩
def sT{j pos}:PE X (.Constant .none j pos) (tC .non):=λ_ _ _ H _ I h=>Constant_none ⟨.non,H,I,rfl,h⟩
def g9{x j pos}:PE X (.Constant (.str x) j pos) (tC (.str x)):=λ_ _ _ H _ I h=>Calls.Constant_str ⟨.str x,H,I.tok _,⟨_,rfl⟩,h⟩
noncomputable def Gl(X:Cx)(x:Str):Prop:=X.env.kindOf x=some .globalImplicit
def jn (I:Inv X pins σ H s)(hg:Gl X x)(hm:X.mg x=some u)(h:Q u s)(hd:(x==("__debug__":Str))=false:=by decide):J5 (J6 X.prog X.w) X.A (eval (.Name x pos) X.env) Q E s:=
 Calls.Name_function_global I.ok.kind hg (Calls.loadGlobal_global (by rw[I.ok.glob];exact I.mod.glob.keeps I.bk) hm h) hd
def kD (I:Inv X pins σ H s)(hg:Gl X x)(hm:X.mg x=none)(hv:JZ x=some u)(h:Q u s)(hn:x ≠ "__name__":=by decide)(hd:(x==("__debug__":Str))=false:=by decide):J5 (J6 X.prog X.w) X.A (eval (.Name x pos) X.env) Q E s:=by
 obtain⟨mb,h1,h2⟩:=I.mod.blt;exact Calls.Name_function_global I.ok.kind hg (Calls.loadGlobal_builtin (by rw[I.ok.glob];exact I.mod.glob.keeps I.bk) hm (by rw[I.ok.blt];exact h1.keeps I.bk) ((h2 x hn).trans hv) h) hd
def qc (hg:Gl X x)(hm:X.mg x=some u)(r:RelV v u)(hd:(x==("__debug__":Str))=false:=by decide):PE X (.Name x pos) (tC v):=
 λ_ _ _ H _ I h=>jn I hg hm ⟨v,H,I,r,h⟩ hd
def uf (hg:Gl X x)(hm:X.mg x=none)(hv:JZ x=some u)(r:RelV v u)(hn:x ≠ "__name__":=by decide)(hd:(x==("__debug__":Str))=false:=by decide):PE X (.Name x pos) (tC v):=
 λ_ _ _ H _ I h=>kD I hg hm hv ⟨v,H,I,r,h⟩ hn hd
variable{a b:Expr}{ta tb:TE}{pos:Pos}
noncomputable def tB(t:TE):TT:=λσ H Q=>t σ H λx H1=>∃c,x=.bl c/\Q c H1
def qd (h:PE X e t)(he:∀whole,isTrue e X.env whole=(do let v <-whole;standAt e.pos;holding [v] (truthy v)):=by intro _;rfl):PT X e (tB t):=by
 intro pins s σ H Q I hw;refine isTrue_plain (aY (h pins s σ H _ I hw) λv s1 ⟨x,H1,I1,r1,q1⟩=>?_) (he _);obtain⟨d,rfl,q⟩:=q1;cases r1;exact Ka ⟨H1,I1,q⟩
variable{tA tB':TT}{rest:List Expr}
noncomputable def nw(t u:TT):TT:=λσ H Q=>t σ H λc H1=>if c=true then u σ H1 Q else Q false H1
noncomputable def HW(t u:TT):TT:=λσ H Q=>t σ H λc H1=>if c=true then Q true H1 else u σ H1 Q
noncomputable def ng(t:TT):TT:=λσ H Q=>t σ H λc H1=>Q (! c) H1
def E5(ha:PT X a tA):PW X (.BoolOp .And [a] pos) tA:=by
 intro wh pins s σ H Q I h;refine isTrue_and (aY (ha pins s σ H Q I h) λc s1 e=>?_);cases c with
 |true=>exact isTrue_and_nil e
 |false=>exact e
def sS(ha:PT X a tA):PW X (.BoolOp .Or [a] pos) tA:=by
 intro wh pins s σ H Q I h;refine isTrue_or (aY (ha pins s σ H Q I h) λc s1 e=>?_);cases c with
 |false=>exact isTrue_or_nil e
 |true=>exact e
def CU(ha:PT X a tA)(hb:PW X (.BoolOp .And (b::rest) pos) tB'):PW X (.BoolOp .And (a::b::rest) pos) (nw tA tB'):=by
 intro wh pins s σ H Q I h;refine isTrue_and (aY (ha pins s σ H _ I h) λc s1 ⟨H1,I1,q1⟩=>?_);cases c with
 |true=>exact hb wh pins s1 σ H1 Q I1 q1
 |false=>exact⟨H1,I1,q1⟩
def r6(ha:PT X a tA)(hb:PW X (.BoolOp .Or (b::rest) pos) tB'):PW X (.BoolOp .Or (a::b::rest) pos) (HW tA tB'):=by
 intro wh pins s σ H Q I h;refine isTrue_or (aY (ha pins s σ H _ I h) λc s1 ⟨H1,I1,q1⟩=>?_);cases c with
 |true=>exact⟨H1,I1,q1⟩
 |false=>exact hb wh pins s1 σ H1 Q I1 q1
def mK(ha:PT X a tA):PT X (.UnaryOp .Not a pos) (ng tA):=by
 intro pins s σ H Q I h;exact isTrue_not (ha pins s σ H (λc H1=>Q (! c) H1) I h)
noncomputable def CM(ta tb:TE):TE:=λσ H Q=>ta σ H λx H1=>∃c,x=.bl c/\if c=true then tb σ H1 Q else Q (.bl false) H1
noncomputable def nc(ta tb:TE):TE:=λσ H Q=>ta σ H λx H1=>∃c,x=.bl c/\if c=true then Q (.bl true) H1 else tb σ H1 Q
noncomputable def BU(ta:TE):TE:=λσ H Q=>ta σ H λx H1=>∃c,x=.bl c/\Q (.bl (! c)) H1
def sR {op}(h:PE X a t):PE X (.BoolOp op [a] pos) t:=λpins s σ H Q I hw=>BoolOp_one (h pins s σ H Q I hw)
def CT(ha:PE X a ta)(hb:PE X (.BoolOp .And (b::rest) pos) tb):PE X (.BoolOp .And (a::b::rest) pos) (CM ta tb):=by
 intro pins s σ H Q I h;refine BoolOp_and (aY (ha pins s σ H _ I h) λv s1 ⟨x,H1,I1,r1,q1⟩=>?_);obtain⟨c,rfl,q1⟩:=q1;cases r1;refine Ka ?_;cases c with
 |true=>exact hb pins s1 σ H1 Q I1 q1
 |false=>exact⟨.bl false,H1,I1,rfl,q1⟩
def BS(ha:PE X a ta)(hb:PE X (.BoolOp .Or (b::rest) pos) tb):PE X (.BoolOp .Or (a::b::rest) pos) (nc ta tb):=by
 intro pins s σ H Q I h;refine BoolOp_or (aY (ha pins s σ H _ I h) λv s1 ⟨x,H1,I1,r1,q1⟩=>?_);obtain⟨c,rfl,q1⟩:=q1;cases r1;refine Ka ?_;cases c with
 |false=>exact hb pins s1 σ H1 Q I1 q1
 |true=>exact⟨.bl true,H1,I1,rfl,q1⟩
def CS(ha:PE X a ta):PE X (.UnaryOp .Not a pos) (BU ta):=by
 intro pins s σ H Q I h;refine UnaryOp_ (aY (ha pins s σ H _ I h) λv s1 ⟨x,H1,I1,r1,q1⟩=>?_);obtain⟨c,rfl,q1⟩:=q1;cases r1;exact not_of (Ka ⟨.bl (! c),H1,I1,rfl,q1⟩)
end
noncomputable def bG(K:Qb)(H:Hp)(a:Addr)(xs:List V):Prop:=
 Rd H a (.lst xs) \/
  ∃(o:Obj) (its:Array Value) (n:Nat),K.lookup a=some o/\o.cls=.type "list" /\ o.dict=none/\o.data=.seq its n/\its.size<=sizeLine/\az xs its.toList
noncomputable def bT(K:Qb)(H:Hp)(a:Addr)(xs:List V):Prop:=
 Rd H a (.tup xs) \/
  ∃(o:Obj) (its:Array Value) (n:Nat),K.lookup a=some o/\o.cls=.type "tuple" /\ o.data=.seq its n/\its.size<=sizeLine/\az xs its.toList
noncomputable def oO:Value->Option V
 |.none=>some .non
 |.bool b=>some (.bl b)
 |.int i _=>some (.int i)
 |.str x _=>some (.str x)
 |.bytes b _=>some (.byt b)
 |.float b _=>some (.flt b)
 |.ref a=>some (.ref a)
 |.type n=>some (.ty n)
 |_=>none
def RelV.abs (r:RelV x u):oO u=some x:=by
 cases x with
 |non=>cases r;rfl
 |bl _=>cases r;rfl
 |int _=>obtain⟨t,rfl⟩:=r;rfl
 |str _=>obtain⟨t,rfl⟩:=r;rfl
 |byt _=>obtain⟨t,rfl⟩:=r;rfl
 |flt _=>obtain⟨t,rfl⟩:=r;rfl
 |ref _=>cases r;rfl
 |ty _=>cases r;rfl
theorem RelV.inj (r:RelV x u)(q:RelV y u):x=y:=Option.some.inj (r.abs.symm.trans q.abs)
theorem az.inj:∀{xs ys:List V}{us:List Value},az xs us->az ys us->xs=ys
 |_,_,_,.nil,.nil=>rfl
 |_,_,_,.cons r t,.cons r' t'=>by rw[r.inj r',az.inj t t']
section
variable{X:Cx}{pins:List (Addr×Obj)}{σ:St}{H:Hp}{s:Shared}{a:Addr}{xs ys:List V}
def bG.of{K:Qb}(h:H a=some (.lst xs)):bG K H a xs:=.inl (.inl h)
def bT.of{K:Qb}(h:H a=some (.tup xs)):bT K H a xs:=.inl (.inl h)
def Inv.list(I:Inv X pins σ H s)(h:bG X.K H a xs):∃its:List Value,az xs its/\PlainL s.heap a its.toArray/\xs.length<=sizeLine:=by
 rcases h with h|⟨o,its,n,hk,hc,hd,hs,hz,r⟩
 .obtain ⟨z,its,n,r,e⟩:=h.ok I.hok;exact⟨its,r,⟨_,n,e,rfl,rfl,rfl⟩,z⟩
 .refine ⟨its.toList,r,⟨o,n,I.kIn a o hk,hc,hd,by simpa using hs⟩,?_⟩;have e:=r.length;simp only[WG]at e;lia
def Inv.tuple(I:Inv X pins σ H s)(h:bT X.K H a xs):∃its:List Value,az xs its/\IsTup s.heap a its.toArray/\xs.length<=sizeLine:=by
 rcases h with h|⟨o,its,n,hk,hc,hs,hz,r⟩
 .obtain ⟨z,its,r,p⟩:=h.ok I.hok;exact⟨its,r,p,z⟩
 .refine ⟨its.toList,r,⟨o,I.kIn a o hk,hc,n,by simpa using hs⟩,?_⟩;have e:=r.length;simp only[WG]at e;lia
def Inv.list_inj(I:Inv X pins σ H s)(h:bG X.K H a xs)(h':bG X.K H a ys):xs=ys:=by
 obtain⟨its,r,⟨o,n,e,_,_,d⟩,_⟩:=I.list h;obtain⟨its',r',⟨o',n',e',_,_,d'⟩,_⟩:=I.list h';rw[e]at e';cases e';rw[d]at d';injection d' with d1 _
 have:its=its':=by simpa using LI Vc d1
 subst this;exact r.inj r'
def Inv.tuple_inj(I:Inv X pins σ H s)(h:bT X.K H a xs)(h':bT X.K H a ys):xs=ys:=by
 obtain⟨its,r,⟨o,e,_,n,d⟩,_⟩:=I.tuple h;obtain⟨its',r',⟨o',e',_,n',d'⟩,_⟩:=I.tuple h';rw[e]at e';cases e';rw[d]at d';injection d' with d1 _
 have:its=its':=by simpa using LI Vc d1
 subst this;exact r.inj r'
end
abbrev Cx.wish(X:Cx)(E:Value->Shared->Prop):Cx:={X with xe:=E}
abbrev Cx.nox(X:Cx):Cx:=X.wish λ_ _=>False
theorem Cx.Ok.wish{X:Cx}(ok:X.Ok)(E:Value->Shared->Prop):(X.wish E).Ok:=
 ⟨ok.mod,ok.kind,ok.glob,ok.blt,ok.above,ok.inj,ok.has,ok.cab,ok.hd,ok.frames,ok.stk,ok.exf,ok.bs,ok.bsz,ok.noex,ok.exfs,ok.funs,ok.frf⟩
def Cx.Ok.unwish {X:Cx}(ok:(X.wish E).Ok):X.Ok:=
 ⟨ok.mod,ok.kind,ok.glob,ok.blt,ok.above,ok.inj,ok.has,ok.cab,ok.hd,ok.frames,ok.stk,ok.exf,ok.bs,ok.bsz,ok.noex,ok.exfs,ok.funs,ok.frf⟩
section
variable{X:Cx}{pins:List (Addr×Obj)}{σ:St}{H:Hp}{s:Shared}{E:Value->Shared->Prop}
theorem Inv.wish(I:Inv X pins σ H s)(E:Value->Shared->Prop):Inv (X.wish E) pins σ H s:=⟨I.ok.wish E,I.os,I.bare,I.base,I.loc,I.cell,I.free,I.freeC,I.pin,I.hok,I.len⟩
theorem Inv.unwish(I:Inv (X.wish E) pins σ H s):Inv X pins σ H s:=⟨I.ok.unwish,I.os,I.bare,I.base,I.loc,I.cell,I.free,I.freeC,I.pin,I.hok,I.len⟩
theorem SP.unwish{D:bY}{f:Flow}{s':Shared}(h:SP (X.wish E) pins D f s'):SP X pins D f s':=by
 cases f with
 |next=>obtain⟨σ',H',I,q⟩:=h;exact⟨σ',H',I.unwish,q⟩
 |brk=>obtain⟨σ',H',I,q⟩:=h;exact⟨σ',H',I.unwish,q⟩
 |cont=>obtain⟨σ',H',I,q⟩:=h;exact⟨σ',H',I.unwish,q⟩
 |ret u=>obtain⟨v,σ',H',I,r,q⟩:=h;exact⟨v,σ',H',I.unwish,r,q⟩
theorem cj.nox{st:List Stmt}{t:TS}(h:cj X.nox st t):cj X st t:=λpins s σ H D I hw=>
 J9 (h pins s σ H D (I.wish _) hw) (λ_ _ q=>q.unwish) λ_ _ z=>False.elim z
end
section
variable{X:Cx}{st:Stmt}{rest:List Stmt}{t u:TS}{e:Expr}{te:TE}{pos:Pos}
noncomputable def BR:TS:=λD σ H=>D.nx σ H
noncomputable def mX(t u:TS):TS:=λD σ H=>t {D with nx:=u D} σ H
def vM:cj X [] BR:=λ_ _ σ H _ I h=>Kb ⟨σ,H,I,h⟩
set_option tactic.hygienic true in
def xN(h1:PS X st t)(h2:cj X rest u):cj X (st::rest) (mX t u):=by
 intro pins s σ H D I h;refine Kc (aY (h1 pins s σ H {D with nx:=u D} I h) λf s1 q=>?_);cases f with
 |next=>
  obtain⟨σ',H',I',q⟩:=q;exact h2 pins s1 σ' H' D I' q
 |ret v=>exact q
 |brk=>exact q
 |cont=>exact q
def xX(h1:PS X st t):cj X [st] t:=by
 intro pins s σ H D I h;refine Kc (aY (h1 pins s σ H D I h) λf s1 q=>?_);cases f with
 |next=>exact Kb q
 |ret v=>exact q
 |brk=>exact q
 |cont=>exact q
def Inv.quiet (I:Inv X pins σ H s):interactive X.env=false:=by simp[interactive,I.ok.kind]
noncomputable def BQ(te:TE):TS:=λD σ H=>te σ H λ_ H1=>D.nx σ H1
def E4(he:PE X e te)(hs:Kd e none pos.line X.env=pure false:=by rfl):PS X (.Expr e pos) (BQ te):=by
 intro pins s σ H D I h;exact wpAny_Expr_any (aY (he pins s σ H _ I h) λv s1 ⟨x,H1,I1,r1,q1⟩=>⟨σ,H1,I1,q1⟩) I.quiet hs
noncomputable def mZ(te:TE):TS:=λD σ H=>te σ H D.rt
def jw(he:PE X e te):PS X (.Return (some e) pos) (mZ te):=by
 intro pins s σ H D I h;exact wpAny_Return_some (aY (he pins s σ H _ I h) λv s1 ⟨x,H1,I1,r1,q1⟩=>⟨x,σ,H1,I1,r1,q1⟩)
noncomputable def nk(c:TT)(t u:TS):TS:=λD σ H=>c σ H λb H1=>if b=true then t D σ H1 else u D σ H1
def qS (hc:PT X c tc)(ha:cj X a t)(hb:cj X b u):PS X (.If c a b pos) (nk tc t u):=by
 intro pins s σ H D I h;refine wpAny_If (aY (hc pins s σ H _ I h) λd s1 ⟨H1,I1,q1⟩=>?_);cases d with
 |true=>exact ha pins s1 σ H1 D I1 q1
 |false=>exact hb pins s1 σ H1 D I1 q1
noncomputable def CQ:TS:=λ_ _ _=>False
def FY:PS X st CQ:=λ_ _ _ _ _ _ h=>h.elim
end
abbrev TG:=V->St->Hp->(St->Hp->Prop)->Prop
abbrev fh:=List V->St->Hp->(St->Hp->Prop)->Prop
noncomputable def PG(X:Cx)(target:Expr)(t:TG):Prop:=
 ∀(pins:List (Addr×Obj)) (s:Shared) (σ:St) (H:Hp) (v:V) (u:Value) (Q:St->Hp->Prop),Inv X pins σ H s->RelV v u->t v σ H Q ->
  J5 (J6 X.prog X.w) X.A (assign target X.env u) (λ_ s'=>∃σ' H',Inv X pins σ' H' s'/\Q σ' H') X.xe s
noncomputable def lg(X:Cx)(ts:List Expr)(t:fh):Prop:=
 ∀(pins:List (Addr×Obj)) (s:Shared) (σ:St) (H:Hp) (vs:List V) (us:List Value) (Q:St->Hp->Prop),Inv X pins σ H s->az vs us->t vs σ H Q ->
  J5 (J6 X.prog X.w) X.A (assignInOrder ((Ke ts X.env).map (·.2)) us) (λ_ s'=>∃σ' H',Inv X pins σ' H' s'/\Q σ' H') X.xe s
abbrev lM:=V->V->V->Hp->(Hp->Prop)->Prop
noncomputable def pN(X:Cx)(t:lM):Prop:=
 ∀(pins:List (Addr×Obj)) (s:Shared) (σ:St) (H:Hp) (o i v:V) (ov iv u:Value) (Q:Hp->Prop),Inv X pins σ H s->RelV o ov->RelV i iv->RelV v u->t o i v H Q ->
  J5 (J6 X.prog X.w) X.A (setItem ov iv u) (λ_ s'=>∃H',Inv X pins σ H' s'/\Q H') X.xe s
section
variable{X:Cx}{pos:Pos}
noncomputable def wl(i:Nat):TG:=λv σ H Q=>Q (σ.set i (some v)) H
def xB (hN:X.N.Nodup)(hi:X.N[i]?=some x)(hx:Loc X.env.scope x)(hf:X.fn x=true\/X.env.scope.names.lookup x=some .local:=by first|exact .inl rfl|exact .inr rfl|assumption):PG X (.Name x pos) (wl i):=by
 intro pins s σ H v u Q I r h;exact wpAny_assign_Name (jv I hN hi hx r (λs' I'=>⟨_,H,I',h⟩) hf)
noncomputable def iC:fh:=λvs σ H Q=>vs=[]/\Q σ H
noncomputable def ja(t:TG)(u:fh):fh:=λvs σ H Q=>∃v r,vs=v::r/\t v σ H λσ' H'=>u r σ' H' Q
def qe:lg X [] iC:=by
 intro pins s σ H vs us Q I r h;obtain⟨e,h⟩:=h;subst e;cases r;exact assignInOrder_nil ⟨σ,H,I,h⟩
def xO (h1:PG X e t)(h2:lg X es u)(hs:(Ke (e::es) X.env).map (·.2)=assign e X.env::(Ke es X.env).map (·.2):=by rfl):lg X (e::es) (ja t u):=by
 intro pins s σ H vs us Q I r h;obtain⟨v,vr,e1,h⟩:=h;subst e1;cases r with
 |cons r rr=>
  rw[hs];refine assignInOrder_cons (aY (h1 pins s σ H _ _ _ I r h) λ_ s1 ⟨σ1,H1,I1,q1⟩=>?_);exact h2 pins s1 σ1 H1 _ _ Q I1 rr q1
noncomputable def iB(K:Qb)(n:Nat)(t:fh):TG:=λv σ H Q=>∃a xs,v=.ref a/\bT K H a xs/\xs.length=n/\t xs σ H Q
def mJ (hc:X.calm=true)(h:lg X es t)(hn:(Ke es X.env).length=n:=by rfl)(hst:(Ke es X.env).findIdx? (·.1)=none:=by rfl):PG X (.Tuple es k pos) (iB X.K n t):=by
 intro pins s σ H v u Q I r hw;obtain⟨a,xs,e1,hq,hl,hw⟩:=hw;subst e1;cases r;obtain⟨its,rv,ht,hz⟩:=I.tuple hq;refine assign_Tuple_tuple (I.ok.hd hc) ht (by simp[hn,<-hl,rv.length]) hst λh' hx=>?_;have I1:Inv X pins σ H {s with heap:=h' }:=I.kept (t':=s.toks) λb o e=>hx b o (QS (Qp e)) e;exact h pins _ σ H xs _ Q I1 (by simpa using rv) hw
noncomputable def om(to ti:TE)(t:lM):TG:=λv σ H Q=>to σ H λo H1=>ti σ H1 λi H2=>t o i v H2 λH3=>Q σ H3
def Do (ho:PE X o to)(hi:PE X i ti)(hs:pN X t)(ha:∀v,assign (.Subscript o i pos) X.env v=(do
   let ov <-holding [v] (eval o X.env)
   let iv <-holding [v,ov] (eval i X.env)
   standAt pos
   holding [v,ov,iv] (setItem ov iv v)
   release [v,ov,iv] []):=by intro _;rfl):PG X (.Subscript o i pos) (om to ti t):=by
 intro pins s σ H v u Q I r h;rw[ha];refine Kf (Kg (aY (ho pins s σ H _ I h) λov s1 ⟨x,H1,I1,r1,q1⟩=>?_));refine Kf (Kg (aY (hi pins s1 σ H1 _ I1 q1) λiv s2 ⟨y,H2,I2,r2,q2⟩=>?_));refine Kf (Kh (Kf (Kg (aY (hs pins s2 σ H2 x y v ov iv u _ I2 r1 r2 r q2) λ_ s3 ⟨H3,I3,q3⟩=>?_))));exact wpAny_release ⟨σ,H3,I3,q3⟩
noncomputable def fL(te:TE)(g:TG):TS:=λD σ H=>te σ H λx H1=>g x σ H1 D.nx
def sQ (he:PE X e te)(hg:PG X tg g)(hs:swapsWithSole [tg] e pos.line X.env=pure false:=by rfl)(hw:swappedStores [tg] e X.env=pure none:=by rfl)(h1:(Ke [tg] X.env).map (·.2)=[assign tg X.env]:=by rfl):PS X (.Assign [tg] e pos) (fL te g):=by
 intro pins s σ H D I h;refine wpAny_Assign_stores (aY (he pins s σ H _ I h) λv s1 ⟨x,H1,I1,r1,q1⟩=>?_) hs hw;rw[h1];exact aY (hg pins s1 σ H1 x v _ I1 r1 q1) λ_ s2 q=>q
def sZ (hN:X.N.Nodup)(hi:X.N[i]?=some x)(hx:Loc X.env.scope x)(he:PE X e te)(hs:Kd e (some (.Name x pos')) pos.line X.env=pure false:=by rfl)(hf:X.fn x=true\/X.env.scope.names.lookup x=some .local:=by first|exact .inl rfl|exact .inr rfl|assumption):
  PS X (.Assign [.Name x pos'] e pos) (fL te (wl i)):=by
 intro pins s σ H D I h;refine wpAny_Assign_Name (aY (he pins s σ H _ I h) λv s1 ⟨y,H1,I1,r1,q1⟩=>?_) hs;exact jv I1 hN hi hx r1 (λs2 I2=>⟨_,H1,I2,q1⟩) hf
end
section
variable{X:Cx}{pos:Pos}
noncomputable def sY(c:TT)(tb:TS):TS:=λD σ H=>∃W:Nat->St->Hp->Prop,(∃m,W m σ H)/\∀m σ H,W m σ H ->
 c σ H λb H1=>if b=true then ∃N:St->Hp->Prop,(∀σ' H',N σ' H'->∃m',m'<m/\W m' σ' H')/\tb {D with nx:=N,ct:=N,bk:=D.nx} σ H1 else D.nx σ H1
set_option tactic.hygienic true in
def GC (hp:PassesOwn (J6 X.prog X.w) X.A X.env X.xe)(hc:PT X c tc)(hb:cj X body tb):PS X (.While c body [] pos) (sY tc tb):=by
 intro pins s σ H D I h;obtain⟨W,⟨m0,w0⟩,turn⟩:=h;refine wpAny_While (codeAny_whileLoop (λn s'=>∃σ' H',Inv X pins σ' H' s'/\W n σ' H') ?_ m0 ⟨σ,H,I,w0⟩);rintro n s1 ⟨σ1,H1,I1,w1⟩;refine Ki hp (aY (hc pins s1 σ1 H1 _ I1 (turn n σ1 H1 w1)) λb s2 ⟨H2,I2,q2⟩=>?_);cases b with
 |true=>
  obtain⟨N,hN,q2⟩:=q2;rw[LF rfl];refine Ki hp (aY (hb pins s2 σ1 H2 _ I2 q2) λf s3 q3=>?_);cases f with
  |next=>
   obtain⟨σ3,H3,I3,n3⟩:=q3;obtain⟨m',hm,w3⟩:=hN σ3 H3 n3;exact⟨m',hm,σ3,H3,I3,w3⟩
  |cont=>
   obtain⟨σ3,H3,I3,n3⟩:=q3;obtain⟨m',hm,w3⟩:=hN σ3 H3 n3;exact⟨m',hm,σ3,H3,I3,w3⟩
  |brk=>exact q3
  |ret v=>exact q3
 |false=>
  rw[LG Q3];exact Kb ⟨σ1,H2,I2,q2⟩
end
set_option genInjectivity false in
structure It where
 go:Nat->Hp->Prop
 yld:Nat->Hp->V->Hp->Prop
 stop:Nat->Hp->Prop
noncomputable def gi(X:Cx)(pins:List (Addr×Obj))(H:Hp)(b:Addr):Prop:=
 H b=none/\b≠X.env.locals/\b∉X.fs/\(b∈X.ex\/X.s₀.heap.objs.size<=b)/\(∀x c,X.env.cells.lookup x=some c->c≠b)/\∀p∈X.pn++pins,p.1≠b
def Inv.fpOk (I:Inv X pins σ H s)(hb:s.heap.objs.size<=b)(hn:H' b=none):gi X pins H' b:=by
 refine⟨hn,WY (Qf I.lt hb),I.nofs hb,.inr (Qo I.sz hb),λx c e z=>?_,λp hp z=>?_⟩
 .obtain ⟨v,q⟩:=I.cell x c e;exact LH (Qf q.lt (by rw[z];exact hb)) (QY _)
 .exact LH (Qf (Qp (I.pin p hp).1) (by rw[z];exact hb)) (QY _)
structure dO(P:JS)(w:JT)(K:Qb)(tg:Expr)(J:It)(fp:List Addr)(it:Addr)(tn:Nat->JU->Prop):Prop where
 mem:it∈fp
 obj:∀i h,tn i h->∀b∈fp,∃o,h.get? b=some o/\∀v,o.data≠.cell v
 keep:∀i h h',tn i h->(∀b∈fp,∀o,h.get? b=some o->h'.get? b=some o)->tn i h'
 item:∀(X:Cx),X.prog=P->X.w=w->X.K=K->X.calm=true->∀(i:Nat) (pins:List (Addr×Obj)) (s:Shared) (σ:St) (H:Hp) (E:Value->Shared->Prop),Inv X pins σ H s->(∀b∈fp,gi X pins H b)->tn i s.heap->J.go i H ->
  J5 (J6 P w) X.A (pyNext (.ref it)) (λr s1=>∃u,r=some u /\
   J5 (J6 P w) X.A (Kj tg (.ref it) u) (λ_ s2=>∃x H',Inv X pins σ H' s2/\RelV x u/\J.yld i H x H'/\tn (i+1) s2.heap/\∀b∈fp,H' b=none) E s1) E s
 done:∀(X:Cx),X.prog=P->X.w=w->X.K=K->X.calm=true->∀(i:Nat) (pins:List (Addr×Obj)) (s:Shared) (σ:St) (H:Hp) (E:Value->Shared->Prop),Inv X pins σ H s->(∀b∈fp,gi X pins H b)->tn i s.heap->J.stop i H ->
  J5 (J6 P w) X.A (pyNext (.ref it)) (λr s1=>r=none/\Inv X pins σ H s1) E s
 self:∀(A:J0) (i:Nat) (s:Shared) (Q:Value->Shared->Prop) (E:Value->Shared->Prop),tn i s.heap->Q (.ref it) s->J5 (J6 P w) A (pyIter (.ref it)) Q E s
abbrev TI:=St->Hp->(It->Hp->Prop)->Prop
noncomputable def Bb(X:Cx)(pins:List (Addr×Obj))(σ:St)(tg:Expr)(R:It->Hp->Prop)(itv:Value)(s2:Shared):Prop:=
 ∃(it:Addr) (fp:List Addr) (tn:Nat->JU->Prop) (J:It) (H':Hp),itv=.ref it/\Inv X pins σ H' s2/\dO X.prog X.w X.K tg J fp it tn/\tn 0 s2.heap/\(∀b∈fp,gi X pins H' b)/\R J H'
noncomputable def PI(X:Cx)(tg iter:Expr)(wi:TI):Prop:=
 ∀(pins:List (Addr×Obj)) (s:Shared) (σ:St) (H:Hp) (R:It->Hp->Prop),Inv X pins σ H s->wi σ H R ->
  J5 (J6 X.prog X.w) X.A (eval iter X.env) (λv s1=>J5 (J6 X.prog X.w) X.A (pyIter v) (Bb X pins σ tg R) X.xe s1) X.xe s
def mf (ho:s.heap.get? it=some o)(hc:o.cls=.type n)(hd:o.data=.fields vs)(hn:["enumerate","zip","dict_itemiterator","dict_reverseitemiterator","odict_iterator","itertools.zip_longest","itertools.pairwise"].contains n=false)(hQ:Q () s):J5 M A (Kj tg (.ref it) u) Q E s:=by
 unfold Kj;cases tg<;>first
  |exact Kk hQ
  | (cases u <;> first
    |exact Kk hQ
    | (refine Kf (wpAny_load ho ?_)
       rw[hc,hd];show J5 M A (if(["enumerate","zip","dict_itemiterator","dict_reverseitemiterator","odict_iterator","itertools.zip_longest","itertools.pairwise"].contains n&&vs[0]?==some (rawInt _))=true then _ else _) Q E s;rw[LG (by intro h;rw[hn,Vt]at h;cases h)];exact Kk hQ))
noncomputable def oY(K:Qb)(a:Addr):It:=
 ⟨λi H=>∃xs x,bG K H a xs/\xs[i]?=some x,λi H x H'=>H'=H/\∀xs,bG K H a xs->xs[i]?=some x,λi H=>∃xs,bG K H a xs/\xs.length<=i⟩
noncomputable def Be(K:Qb)(a:Addr):It:=
 ⟨λi H=>∃xs x,bT K H a xs/\xs[i]?=some x,λi H x H'=>H'=H/\∀xs,bT K H a xs->xs[i]?=some x,λi H=>∃xs,bT K H a xs/\xs.length<=i⟩
noncomputable def ij(lo:Int)(n:Nat):It:=⟨λi _=>i<n,λi H x H'=>H'=H/\x=.int (lo+i),λi _=>n<=i⟩
def G8 {K:Qb}(a it:Addr):dO P w K tg (oY K a) [it] it (λi h=>h.IsListIter it a i) where
 mem:=by simp
 obj:=λi h st b hb=>by
  have e:b=it:=by simpa using hb
  subst e;obtain⟨o,e,c,d⟩:=st;exact⟨o,e,λv z=>by rw[d]at z;cases z⟩
 keep:=λi h h' st k=>st.at λo e=>k it (by simp) o e
 item:=by
  intro X hP hw hK hc i pins s σ H E I hf st hg;subst hP hw hK;obtain⟨xs,x,hq,hx⟩:=hg;obtain⟨its,rv,p,hz⟩:=I.list hq;obtain⟨u,hu,ru⟩:=rv.get hx;obtain⟨f0,f1,f2,f3,f4,f5⟩:=hf it (by simp);refine wpAny_pyNext_list_item st p.isList (x:=u) (by simpa using hu) λh' st' sb=>?_;have I1:Inv X pins σ H {s with heap:=h' }:=I.turned (t':=s.toks) (λb o hb e=>(sb.2 b hb).trans e) f0 f1 f3 f4 f5;obtain⟨o,e,c,d⟩:=id st';exact⟨u,rfl,mf (s:={s with heap:=h' }) e c d (by decide) ⟨x,H,I1,ru,⟨rfl,λys hy=>by rw[I.list_inj hy hq];exact hx⟩,st',λb hb=>(hf b hb).1⟩⟩
 done:=by
  intro X hP hw hK hc i pins s σ H E I hf st hg;subst hP hw hK;obtain⟨xs,hq,hx⟩:=hg;obtain⟨its,rv,p,hz⟩:=I.list hq;obtain⟨f0,f1,f2,f3,f4,f5⟩:=hf it (by simp);have hl:=rv.length;exact wpAny_pyNext_list_end (I.ok.hd hc) st p.isList (by simp;lia) λh' eb=>⟨rfl,I.turned (t':=s.toks) (λb o hb e=>eb b o hb e) f0 f1 f3 f4 f5⟩
 self:=λ_ _ _ _ _ st h=>wpAny_pyIter_listiter st h
def HD {K:Qb}(a it:Addr):dO P w K tg (Be K a) [it] it (λi h=>h.IsTupleIter it a i) where
 mem:=by simp
 obj:=λi h st b hb=>by
  have e:b=it:=by simpa using hb
  subst e;obtain⟨o,e,c,d⟩:=st;exact⟨o,e,λv z=>by rw[d]at z;cases z⟩
 keep:=λi h h' st k=>st.at λo e=>k it (by simp) o e
 item:=by
  intro X hP hw hK hc i pins s σ H E I hf st hg;subst hP hw hK;obtain⟨xs,x,hq,hx⟩:=hg;obtain⟨its,rv,p,hz⟩:=I.tuple hq;obtain⟨u,hu,ru⟩:=rv.get hx;obtain⟨f0,f1,f2,f3,f4,f5⟩:=hf it (by simp);refine wpAny_pyNext_tuple_item st (show s.heap.IsTuple a its.toArray from p) (x:=u) (by simpa using hu) λh' st' sb=>?_;have I1:Inv X pins σ H {s with heap:=h' }:=I.turned (t':=s.toks) (λb o hb e=>(sb.2 b hb).trans e) f0 f1 f3 f4 f5;obtain⟨o,e,c,d⟩:=id st';exact⟨u,rfl,mf (s:={s with heap:=h' }) e c d (by decide) ⟨x,H,I1,ru,⟨rfl,λys hy=>by rw[I.tuple_inj hy hq];exact hx⟩,st',λb hb=>(hf b hb).1⟩⟩
 done:=by
  intro X hP hw hK hc i pins s σ H E I hf st hg;subst hP hw hK;obtain⟨xs,hq,hx⟩:=hg;obtain⟨its,rv,p,hz⟩:=I.tuple hq;obtain⟨f0,f1,f2,f3,f4,f5⟩:=hf it (by simp);have hl:=rv.length;exact wpAny_pyNext_tuple_end (I.ok.hd hc) st (show s.heap.IsTuple a its.toArray from p) (by simp;lia) λh' eb=>⟨rfl,I.turned (t':=s.toks) (λb o hb e=>eb b o hb e) f0 f1 f3 f4 f5⟩
 self:=λ_ _ _ _ _ st h=>wpAny_pyIter_tupleiter st h
def HC {K:Qb}(it:Addr)(lo:Int)(n:Nat):dO P w K tg (ij lo n) [it] it (λi h=>IsRangeIter h it (lo+(i:Nat)*1) ((n:Int)-(i:Nat)) 1) where
 mem:=by simp
 obj:=λi h st b hb=>by
  have e:b=it:=by simpa using hb
  subst e;exact⟨_,st,λv z=>by
   have z':Data.fields _=Data.cell v:=z;cases z'⟩
 keep:=λi h h' st k=>k it (by simp) _ st
 item:=by
  intro X hP hw hK hc i pins s σ H E I hf st hg;subst hP hw hK;obtain⟨f0,f1,f2,f3,f4,f5⟩:=hf it (by simp);have W:=Walks.range (prog:=X.prog) (w:=X.w) (I.ok.hd hc) it lo 1 n;refine W.item i s _ _ hg st λv h' tk hv st' kk=>?_;obtain⟨t,rfl⟩:=hv;have I1:Inv X pins σ H {s with heap:=h',toks:=tk}:=I.turned (λb o hb e=>kk b o (by simpa using hb) e) f0 f1 f3 f4 f5;refine⟨_,rfl,mf (s:={s with heap:=h',toks:=tk}) (n:="range_iterator") st' rfl rfl (by decide) ⟨.int (lo+i),H,I1,⟨t,?_⟩,⟨rfl,rfl⟩,st',λb hb=>(hf b hb).1⟩⟩;rw[Int.mul_one]
 done:=by
  intro X hP hw hK hc i pins s σ H E I hf st hg;subst hP hw hK;obtain⟨f0,f1,f2,f3,f4,f5⟩:=hf it (by simp);exact wpAny_pyNext_range_end (I.ok.hd hc) st (by have:n<=i:=hg;lia) λh' eb=>⟨rfl,I.turned (t':=s.toks) (λb o hb e=>eb b o hb e) f0 f1 f3 f4 f5⟩
 self:=λ_ _ _ _ _ st h=>wpAny_pyIter_rangeiter st h
section
variable{X:Cx}{tg:Expr}
noncomputable def BP(K:Qb)(tl:TE):TI:=λσ H R=>tl σ H λx H1=>∃a,x=.ref a/\(∃xs,bG K H1 a xs)/\R (oY K a) H1
noncomputable def nY(K:Qb)(tl:TE):TI:=λσ H R=>tl σ H λx H1=>∃a,x=.ref a/\(∃xs,bT K H1 a xs)/\R (Be K a) H1
def E3 (hl:PE X l tl):PI X tg l (BP X.K tl):=by
 intro pins s σ H R I h;refine aY (hl pins s σ H _ I h) λv s1 ⟨x,H1,I1,r1,q1⟩=>?_;obtain⟨a,e,⟨xs,hq⟩,q⟩:=q1;subst e;cases r1;obtain⟨its,rv,p,hz⟩:=I1.list hq;refine Kl p.isList ?_;refine⟨s1.heap.objs.size,[s1.heap.objs.size],_,_,H1,rfl,I1.kept (t':=s1.toks) λb o e=>Qi _ e,G8 a _,⟨_,QR _ rfl,rfl,rfl⟩,λb hb=>?_,q⟩;have e:b=s1.heap.objs.size:=by simpa using hb
 subst e;exact I1.fpOk (Ql _) (I1.hok.fresh (Ql _))
def Dn (hl:PE X l tl):PI X tg l (nY X.K tl):=by
 intro pins s σ H R I h;refine aY (hl pins s σ H _ I h) λv s1 ⟨x,H1,I1,r1,q1⟩=>?_;obtain⟨a,e,⟨xs,hq⟩,q⟩:=q1;subst e;cases r1;obtain⟨its,rv,p,hz⟩:=I1.tuple hq;refine wpAny_pyIter_tuple (show s1.heap.IsTuple a its.toArray from p) ?_;refine⟨s1.heap.objs.size,[s1.heap.objs.size],_,_,H1,rfl,I1.kept (t':=s1.toks) λb o e=>Qi _ e,HD a _,⟨_,QR _ rfl,rfl,rfl⟩,λb hb=>?_,q⟩;have e:b=s1.heap.objs.size:=by simpa using hb
 subst e;exact I1.fpOk (Ql _) (I1.hok.fresh (Ql _))
def GB {lo:Int}(I:Inv X pins σ H s)(h1:-(2^62)<=lo)(h2:lo<2^62)(h3:-(2^62)<=hi)(h4:hi<2^62)(q:R (ij lo (hi-lo).toNat) H):J5 (J6 X.prog X.w) X.A (pyIter (.ref s.heap.objs.size)) (Bb X pins σ tg R) E {s with heap:=s.heap.push {cls:=.type "range",data:=.fields #[.int lo t,.int hi u,.int 1 v]},toks:=tk}:=by
 refine wpAny_pyIter_range (IsRange.new ..) (small_one h1 h2 h3 h4) ?_;have I1:Inv X pins σ H {s with heap:=s.heap.push {cls:=.type "range",data:=.fields #[.int lo t,.int hi u,.int 1 v]},toks:=tk}:=I.kept λb o e=>Qi _ e;refine⟨(s.heap.push {cls:=.type "range",data:=.fields #[.int lo t,.int hi u,.int 1 v]}).objs.size,[(s.heap.push {cls:=.type "range",data:=.fields #[.int lo t,.int hi u,.int 1 v]}).objs.size],_,_,H,rfl,
  I1.kept (t':=tk) λb o e=>Qi _ e,HC _ lo (hi-lo).toNat,?_,λb hb=>?_,q⟩
 .have e1:lo+((0:Nat):Int)*1=lo:=by simp
  have e2:(((hi-lo).toNat:Nat):Int)-((0:Nat):Int)=Builtin.Range.rangeSize lo hi 1:=by rw[rangeSize_one];split<;>lia
  show IsRangeIter _ _ (lo+((0:Nat):Int)*1) ((((hi-lo).toNat:Nat):Int)-((0:Nat):Int)) 1;rw[e1,e2];exact QR _ rfl
 .have e:b=(s.heap.push {cls:=.type "range",data:=.fields #[.int lo t,.int hi u,.int 1 v]}).objs.size:=by simpa using hb
  subst e;exact I1.fpOk (Ql _) (I1.hok.fresh (Ql _))
noncomputable def BO(ta:TA):TI:=λσ H R=>ta σ H λvs H1=>∃j:Int,vs=[.int j]/\-(2^62)<=j/\j<2^62/\R (ij 0 j.toNat) H1
def G7 (hg:Gl X "range")(hm:X.mg "range"=none)(ha:PA X [a] ta)(hs:J8 [a] X.env=[(false,eval a X.env)]:=by rfl):PI X tg (.Call (.Name "range" p) [a] [] pos) (BO ta):=by
 intro pins s σ H R I h;refine Call_ (kD I hg hm boot_range (PyProof.Rows.callWith_type1 (aY (ha pos pins s σ H _ I h) λus s1 ⟨vs,H1,I1,r1,q1⟩=>?_) hs rfl));obtain⟨j,e,q1,q2,q⟩:=q1;subst e;cases r1 with
 |cons r rr=>
  cases rr;obtain⟨t,rfl⟩:=r;exact call_range_1 (GB I1 (by lia) (by lia) q1 q2 (by simpa using q))
noncomputable def pM(wi:TI)(g:TG)(tb:TS):TS:=λD σ H=>wi σ H λJ H1=>∃W:Nat->Nat->St->Hp->Prop,(∃m,W 0 m σ H1)/\∀i m σ H,W i m σ H ->
 (J.stop i H/\D.nx σ H)\/(J.go i H/\∃N:St->Hp->Prop,(∀σ' H',N σ' H'->∃m',m'<m/\W (i+1) m' σ' H')/\∀x H',J.yld i H x H'->g x σ H' λσ2 H2=>tb {D with nx:=N,ct:=N,bk:=D.nx} σ2 H2)
noncomputable def jx(fp:List Addr)(h:JU):List (Addr×Obj):=fp.filterMap λb=>(h.get? b).map λo=>(b,o)
def wz (hb:b∈fp)(e:h.get? b=some o):(b,o)∈jx fp h:=WL.mpr ⟨b,hb,by rw[e];rfl⟩
def G6 (hp:p∈jx fp h):p.1∈fp/\h.get? p.1=some p.2:=by
 obtain⟨b,hb,e⟩:=WL.mp hp;cases q:h.get? b with
 |none=>rw[q]at e;cases e
 |some o=>
  rw[q]at e;have e':(b,o)=p:=Option.some.inj e;subst e';exact⟨hb,q⟩
def Inv.pinned{pins:List (Addr×Obj)}{σ:St}{H:Hp}{s:Shared}{fp:List Addr}(I:Inv X pins σ H s)(hf:∀b∈fp,gi X pins H b)(ho:∀b∈fp,∃o,s.heap.get? b=some o/\∀v,o.data≠.cell v):Inv X (pins++jx fp s.heap) σ H s:=
 I.pins_of λp hp=>(Qy.mp hp).elim (λz=>I.pin p (Qv _ z)) λz=>by
  obtain⟨hb,e⟩:=G6 z;obtain⟨f0,f1,f2,_⟩:=hf p.1 hb;obtain⟨o,e',d⟩:=ho p.1 hb;rw[e]at e';cases e';exact⟨e,f0,f1,f2,d⟩
def Inv.unpinned{pins pl:List (Addr×Obj)}{σ:St}{H:Hp}{s:Shared}(I:Inv X (pins++pl) σ H s):Inv X pins σ H s:=I.pins_of λp hp=>I.pin p (Qv _ (QW _ hp))
def mI (hp:PassesOwn (J6 X.prog X.w) X.A X.env X.xe)(hc:X.calm=true)(hi:PI X tg iter wi)(hg:PG X tg g)(hb:cj X body tb)(hs:∀x,Km iter X.env x=pure x:=by intro _;rfl):PS X (.For tg iter body [] pos) (pM wi g tb):=by
 intro pins s σ H D I h;refine wpAny_For (aY (hi pins s σ H _ I h) λv s1 h1=>aY h1 λitv s2 h2=>?_) hs;obtain⟨it,fp,tn,J,H2,e,I2,T,st2,f2,W,⟨m0,w0⟩,turn⟩:=h2;subst e
 -- what stays true of the iterator's objects through the loop
 have stat:∀{H':Hp},(∀b∈fp,H' b=none)->∀b∈fp,gi X pins H' b:=λhn b hb=>⟨hn b hb,(f2 b hb).2⟩;refine codeAny_forLoop_any (λn s'=>∃i σ' H',Inv X pins σ' H' s'/\tn i s'.heap/\(∀b∈fp,H' b=none)/\W i n σ' H') ?_ m0 ⟨0,σ,H2,I2,st2,λb hb=>(f2 b hb).1,w0⟩;rintro n s3 ⟨i,σ3,H3,I3,st3,fr3,w3⟩;rcases turn i n σ3 H3 w3 with⟨stop,qn⟩|⟨go,N,hN,step⟩
 .refine Ki hp (aY (T.done X rfl rfl rfl hc i pins s3 σ3 H3 X.xe I3 (stat fr3) st3 stop) λr s4 ⟨hr,I4⟩=>?_);subst hr;exact Kb ⟨σ3,H3,I4,qn⟩
 .refine Ki hp (aY (T.item X rfl rfl rfl hc i pins s3 σ3 H3 X.xe I3 (stat fr3) st3 go) λr s4 ⟨u,hr,h4⟩=>?_);subst hr;refine Ki hp (aY h4 λ_ s5 ⟨x,H5,I5,r5,y5,st5,fr5⟩=>?_);have I5':=I5.pinned (stat fr5) (T.obj _ _ st5);refine Ki hp (aY (hg _ s5 σ3 H5 x u _ I5' r5 (step x H5 y5)) λ_ s6 ⟨σ6,H6,I6,q6⟩=>?_);refine Ki hp (aY (hb _ s6 σ6 H6 _ I6 q6) λf s7 q7=>?_);have again:∀{σ7:St}{H7:Hp},Inv X (pins++jx fp s5.heap) σ7 H7 s7->N σ7 H7->∃m,m<n/\∃i σ' H',Inv X pins σ' H' s7/\tn i s7.heap/\(∀b∈fp,H' b=none)/\W i m σ' H':=λ{σ7 H7} I7 n7=>by
   obtain⟨m',hm,w7⟩:=hN σ7 H7 n7;refine⟨m',hm,i+1,σ7,H7,I7.unpinned,T.keep _ _ _ st5 λb hb o e=>(I7.pin (b,o) (Qv _ (Qv _ (wz hb e)))).1,λb hb=>?_,w7⟩;obtain⟨o,e,d⟩:=T.obj _ _ st5 b hb;exact(I7.pin (b,o) (Qv _ (Qv _ (wz hb e)))).2.1
  cases f with
  |next=>obtain⟨σ7,H7,I7,n7⟩:=q7;exact again I7 n7
  |cont=>obtain⟨σ7,H7,I7,n7⟩:=q7;exact again I7 n7
  |brk=>obtain⟨σ7,H7,I7,q7⟩:=q7;exact⟨σ7,H7,I7.unpinned,q7⟩
  |ret v=>obtain⟨x7,σ7,H7,I7,r7,q7⟩:=q7;exact⟨x7,σ7,H7,I7.unpinned,r7,q7⟩
end
abbrev R2:=V->V->Hp->VK->Prop
noncomputable def bP(X:Cx)(f:Value->Value->Sem Value)(r:R2):Prop:=
 ∀(pins:List (Addr×Obj)) (s:Shared) (σ:St) (H:Hp) (x y:V) (v u:Value) (Q:VK),Inv X pins σ H s->RelV x v->RelV y u->r x y H Q ->
  J5 (J6 X.prog X.w) X.A (f v u) (EP X pins σ Q) X.xe s
noncomputable def oV(X:Cx)(f:Value->Sem Value)(r:V->Hp->VK->Prop):Prop:=
 ∀(pins:List (Addr×Obj)) (s:Shared) (σ:St) (H:Hp) (x:V) (v:Value) (Q:VK),Inv X pins σ H s->RelV x v->r x H Q ->
  J5 (J6 X.prog X.w) X.A (f v) (EP X pins σ Q) X.xe s
noncomputable def aS(X:Cx)(f:Value)(r:List V->Hp->VK->Prop):Prop:=
 ∀(pins:List (Addr×Obj)) (s:Shared) (σ:St) (H:Hp) (xs:List V) (us:List Value) (Q:VK),Inv X pins σ H s->az xs us->r xs H Q ->
  J5 (J6 X.prog X.w) X.A (call f us) (EP X pins σ Q) X.xe s
noncomputable def fV(r:R2)(ta tb:TE):TE:=λσ H Q=>ta σ H λx H1=>tb σ H1 λy H2=>r x y H2 Q
noncomputable def HU(r:V->Hp->VK->Prop)(ta:TE):TE:=λσ H Q=>ta σ H λx H1=>r x H1 Q
noncomputable def rI(C:Int->Int->Prop)(g:Int->Int->V):R2:=λx y H Q=>∃i j,x=.int i/\y=.int j/\C i j/\Q (g i j) H
noncomputable def dE(g:Int->Int->V):R2:=λx y H Q=>∃i j,x=.int i/\y=.int j/\Q (g i j) H
noncomputable def rU(g:Int->V):V->Hp->VK->Prop:=λx H Q=>∃i,x=.int i/\Q (g i) H
section
variable{X:Cx}{a b:Expr}{ta tb:TE}{pos:Pos}
def lQ (ha:PE X a ta)(hb:PE X b tb){R:V->V->Hp->Prop}(I:Inv X pins σ H s)(h:ta σ H λx H1=>tb σ H1 λy H2=>R x y H2){f:Value->Value->Sem Value}(hf:∀v u s2 x y H2,Inv X pins σ H2 s2->RelV x v->RelV y u->R x y H2->J5 (J6 X.prog X.w) X.A (f v u) Q X.xe s2):
  J5 (J6 X.prog X.w) X.A (eval a X.env) (λv s₁=>J5 (J6 X.prog X.w) X.A (eval b X.env) (λu s₂=>J5 (J6 X.prog X.w) X.A (f v u) Q X.xe s₂) X.xe s₁) X.xe s:=by
 refine aY (ha pins s σ H _ I h) λv s1 ⟨x,H1,I1,r1,q1⟩=>?_;refine aY (hb pins s1 σ H1 _ I1 q1) λu s2 ⟨y,H2,I2,r2,q2⟩=>?_;exact hf v u s2 x y H2 I2 r1 r2 q2
def BN (ho:bP X (Kn op) r)(ha:PE X a ta)(hb:PE X b tb):PE X (.BinOp a op b pos) (fV r ta tb):=by
 intro pins s σ H Q I h;exact wpAny_BinOp (lQ ha hb I h λv u s2 x y H2 I2 rx ry q=>ho pins s2 σ H2 x y v u Q I2 rx ry q)
def BM (ho:oV X (unaryOp op) r)(ha:PE X a ta):PE X (.UnaryOp op a pos) (HU r ta):=by
 intro pins s σ H Q I h;exact UnaryOp_ (aY (ha pins s σ H _ I h) λv s1 ⟨x,H1,I1,r1,q1⟩=>ho pins s1 σ H1 x v Q I1 r1 q1)
def fW {g:Int->Int->Int}(rule:∀(i j:Int) (t u:Tok) (s:Shared) (Q:Value->Shared->Prop) (E:Value->Shared->Prop),C i j->Q (.int (g i j) s.toks) {s with toks:=s.toks+1}->J5 (J6 X.prog X.w) X.A (f (.int i t) (.int j u)) Q E s):
  bP X f (rI C λi j=>.int (g i j)):=by
 intro pins s σ H x y v u Q I rx ry h;obtain⟨i,j,rfl,rfl,hc,q⟩:=h;obtain⟨t,rfl⟩:=rx;obtain⟨t',rfl⟩:=ry;exact rule i j t t' s _ _ hc ⟨.int (g i j),H,I.tok _,⟨_,rfl⟩,q⟩
def lP {g:Int->Int->Int}(rule:∀(i j:Int) (t u:Tok) (s:Shared) (Q:Value->Shared->Prop) (E:Value->Shared->Prop),Q (.int (g i j) s.toks) {s with toks:=s.toks+1}->J5 (J6 X.prog X.w) X.A (f (.int i t) (.int j u)) Q E s):
  bP X f (dE λi j=>.int (g i j)):=by
 intro pins s σ H x y v u Q I rx ry h;obtain⟨i,j,rfl,rfl,q⟩:=h;obtain⟨t,rfl⟩:=rx;obtain⟨t',rfl⟩:=ry;exact rule i j t t' s _ _ ⟨.int (g i j),H,I.tok _,⟨_,rfl⟩,q⟩
def iA {g:Int->Int->Bool}(rule:∀(i j:Int) (t u:Tok) (s:Shared) (Q:Value->Shared->Prop) (E:Value->Shared->Prop),Q (.bool (g i j)) s->J5 (J6 X.prog X.w) X.A (f (.int i t) (.int j u)) Q E s):
  bP X f (dE λi j=>.bl (g i j)):=by
 intro pins s σ H x y v u Q I rx ry h;obtain⟨i,j,rfl,rfl,q⟩:=h;obtain⟨t,rfl⟩:=rx;obtain⟨t',rfl⟩:=ry;exact rule i j t t' s _ _ ⟨.bl (g i j),H,I,rfl,q⟩
noncomputable def pL(i j:Int):Prop:=0<j/\j<1073741824
noncomputable def pK(i j:Int):Prop:=0<=j/\j<=1000000/\i.natAbs<2^64
noncomputable def en(i j:Int):Prop:=(-(2^64)<i/\i<2^64)\/(-(2^64)<j/\j<2^64)
def en.ok (h:en i j):IntMulOk i j:=by
 rcases h with⟨h1,h2⟩|⟨h1,h2⟩
 .exact .of_left (intBits_le_64 h1 h2)
 .exact .of_right (intBits_le_64 h1 h2)
def HQ(k:Nat):(0:Int)<=2^k:=by
 rw[two_pow_cast];exact Int.natCast_nonneg _
def eV:bP X (Kn .Add) (dE λi j=>.int (i+j)):=lP λ_ _ _ _ _ _ _ q=>add_int q
def Dm:bP X (Kn .Sub) (dE λi j=>.int (i-j)):=lP λ_ _ _ _ _ _ _ q=>sub_int q
def eS:bP X (Kn .Mult) (rI en λi j=>.int (i*j)):=fW λ_ _ _ _ _ _ _ hc q=>mul_int q hc.ok
def E1:bP X (Kn .FloorDiv) (rI pL λi j=>.int (i/j)):=fW λi j _ _ _ _ _ hc q=>by
 have h1:(0:Int)<j:=hc.1;have h2:j<1073741824:=hc.2;exact floordiv_int (by lia) (by rw[Vv i (by lia)];exact q) (.inl (PyProof.noPylong_small (by lia)))
def Dl:bP X (Kn .Mod) (rI (λ_ j=>0<j) λi j=>.int (i%j)):=fW λi j _ _ _ _ _ hc q=>by
 have h1:(0:Int)<j:=hc;exact mod_int' (by lia) (by rw[Int.fmod_eq_emod_of_nonneg i (by lia)];exact q)
def Dj:bP X (Kn .Pow) (rI pK λi j=>.int (i^j.toNat)):=fW λ_ _ _ _ _ _ _ hc q=>pow_int_small hc.1 hc.2.1 hc.2.2 q
def Di:bP X (Kn .RShift) (rI (λ_ j=>0<=j) λi j=>.int (i/2^j.toNat)):=fW λi j _ _ _ _ _ hc q=>
 rshift_int hc (by rw[Vv i (HQ _)];exact q)
def Dh:bP X (Kn .BitAnd) (dE λi j=>.int (Builtin.bitAnd i j)):=lP λ_ _ _ _ _ _ _ q=>and_int q
def HS {g:Int->Int}(rule:∀(i:Int) (t:Tok) (s:Shared) (Q:Value->Shared->Prop) (E:Value->Shared->Prop),Q (.int (g i) s.toks) {s with toks:=s.toks+1}->J5 (J6 X.prog X.w) X.A (f (.int i t)) Q E s):
  oV X f (rU λi=>.int (g i)):=by
 intro pins s σ H x v Q I rx h;obtain⟨i,rfl,q⟩:=h;obtain⟨t,rfl⟩:=rx;exact rule i t s _ _ ⟨.int (g i),H,I.tok _,⟨_,rfl⟩,q⟩
def Dg:oV X (unaryOp .USub) (rU λi=>.int (-i)):=HS λ_ _ _ _ _ q=>neg_int q
end
section
variable{X:Cx}{a b c:Expr}{ta tb tc:TE}{pos:Pos}
def sX (I:Inv X pins σ H s)(q:Q (.bl k) H)(e:k=k'):EP X pins σ Q (.bool k') s:=by
 subst e;exact⟨.bl k,H,I,rfl,q⟩
def BL:bP X (Ko .Lt) (dE λi j=>.bl (decide (i<j))):=iA λ_ _ _ _ _ _ _ q=>lt_int q
def BK:bP X (Ko .LtE) (dE λi j=>.bl (decide (i<=j))):=iA λ_ _ _ _ _ _ _ q=>le_int q
def BJ:bP X (Ko .Gt) (dE λi j=>.bl (decide (j<i))):=iA λ_ _ _ _ _ _ _ q=>gt_int q
def BI:bP X (Ko .GtE) (dE λi j=>.bl (decide (j<=i))):=iA λ_ _ _ _ _ _ _ q=>ge_int q
def Df:bP X (Ko .Is) (λx y H Q=>y=.non/\Q (.bl (decide (x=.non))) H):=by
 intro pins s σ H x y v u Q I rx ry h;obtain⟨rfl,q⟩:=h;cases ry;refine is_none_gen (sX I q ?_);cases x<;>first
  |(cases rx;rfl)
  |(obtain⟨t,rfl⟩:=rx;rfl)
def EZ:bP X (Ko .IsNot) (λx y H Q=>y=.non/\Q (.bl (! decide (x=.non))) H):=by
 intro pins s σ H x y v u Q I rx ry h;obtain⟨rfl,q⟩:=h;cases ry;refine isnot_none_gen (sX I q ?_);cases x<;>first
  |(cases rx;rfl)
  |(obtain⟨t,rfl⟩:=rx;rfl)
def bP.or{f:Value->Value->Sem Value}{r r':R2}(h:bP X f r)(h':bP X f r'):bP X f (λx y H Q=>r x y H Q\/r' x y H Q):=by
 intro pins s σ H x y v u Q I rx ry q;rcases q with q|q
 .exact h pins s σ H x y v u Q I rx ry q
 .exact h' pins s σ H x y v u Q I rx ry q
def EY (ho:bP X (Ko op) r)(ha:PE X a ta)(hb:PE X b tb)(hm:Kr op b=false):PE X (.Compare a [op] [b] pos) (fV r ta tb):=by
 intro pins s σ H Q I h;exact wpAny_Compare1 (lQ ha hb I h λv u s2 x y H2 I2 rx ry q=>ho pins s2 σ H2 x y v u Q I2 rx ry q) hm
noncomputable def rY(t:TE):TT:=λσ H Q=>t σ H λx H'=>∃k,x=.bl k/\Q k H'
def EX (ho:bP X (Ko op) r)(ha:PE X a ta)(hb:PE X b tb)(hm:Kr op b=false):PT X (.Compare a [op] [b] pos) (rY (fV r ta tb)):=by
 intro pins s σ H Q I h;refine wpAny_isTrue_Compare1 (aY (ha pins s σ H _ I h) λv s1 ⟨x,H1,I1,r1,q1⟩=>aY (hb pins s1 σ H1 _ I1 q1) λu s2 ⟨y,H2,I2,r2,q2⟩=>
  aY (ho pins s2 σ H2 x y v u _ I2 r1 r2 q2) λc s3 ⟨z,H3,I3,r3,k,e,q3⟩=>?_) hm
 subst e;cases r3;exact Ka ⟨H3,I3,q3⟩
noncomputable def mN(r r':R2)(ta tb tc:TE):TE:=λσ H Q=>ta σ H λx H1=>tb σ H1 λy H2=>r x y H2 λz H3=>∃k,z=.bl k /\
 (if k=true then tc σ H3 λw' H4=>r' y w' H4 Q else Q (.bl false) H3)
def GA (ho:bP X (Ko op) r)(ho':bP X (Ko op') r')(ha:PE X a ta)(hb:PE X b tb)(hc:PE X c tc)(hm:lastMarks [op,op'] [b,c]=false:=by with_unfolding_all rfl):PE X (.Compare a [op,op'] [b,c] pos) (mN r r' ta tb tc):=by
 intro pins s σ H Q I h;refine Compare_chain (aY (ha pins s σ H _ I h) λv s1 ⟨x,H1,I1,r1,q1⟩=>chain_link (aY (hb pins s1 σ H1 _ I1 q1) λu s2 ⟨y,H2,I2,r2,q2⟩=>
  aY (ho pins s2 σ H2 x y v u _ I2 r1 r2 q2) λd s3 ⟨z,H3,I3,r3,k,e,q3⟩=>?_)) hm
 subst e;cases r3;refine Ka ?_;cases k with
 |false=>exact ite_ff ⟨.bl false,H3,I3,rfl,q3⟩
 |true=>exact ite_tt (chain_last (aY (hc pins s3 σ H3 _ I3 q3) λw' s4 ⟨z',H4,I4,r4,q4⟩=>ho' pins s4 σ H4 y z' u w' Q I4 r2 r4 q4))
def Gz (ho:bP X (Ko op) r)(ho':bP X (Ko op') r')(ha:PE X a ta)(hb:PE X b tb)(hc:PE X c tc)(hm:lastMarks [op,op'] [b,c]=false:=by with_unfolding_all rfl):PT X (.Compare a [op,op'] [b,c] pos) (rY (mN r r' ta tb tc)):=by
 intro pins s σ H Q I h;refine isTrue_chain (aY (ha pins s σ H _ I h) λv s1 ⟨x,H1,I1,r1,q1⟩=>test_link (aY (hb pins s1 σ H1 _ I1 q1) λu s2 ⟨y,H2,I2,r2,q2⟩=>
  aY (ho pins s2 σ H2 x y v u _ I2 r1 r2 q2) λd s3 ⟨z,H3,I3,r3,k,e,q3⟩=>?_)) hm
 subst e;cases r3;refine Ka ?_;cases k with
 |false=>
  obtain⟨k',e',q'⟩:=q3;cases e';exact ite_ff ⟨H3,I3,q'⟩
 |true=>
  refine ite_tt (test_last (aY (hc pins s3 σ H3 _ I3 q3) λw' s4 ⟨z',H4,I4,r4,q4⟩=>aY (ho' pins s4 σ H4 y z' u w' _ I4 r2 r4 q4) λd' s5 ⟨z2,H5,I5,r5,k2,e2,q5⟩=>?_));subst e2;cases r5;exact Ka ⟨H5,I5,q5⟩
def jy:(sizeLine:Nat)<2^63:=by rw[Ks];decide
def vN (r:az [x] us):∃u,us=[u]/\RelV x u:=by
 cases r with
 |cons r1 r2=>cases r2;exact⟨_,rfl,r1⟩
def rX (r:az [x,y] us):∃u w',us=[u,w']/\RelV x u/\RelV y w':=by
 cases r with
 |cons r1 r2=>
  cases r2 with
  |cons r3 r4=>cases r4;exact⟨_,_,rfl,r1,r3⟩
def Gy:aS X (.builtin "abs") (λxs H Q=>∃i,xs=[.int i]/\Q (.int (if i<0 then -i else i)) H):=by
 intro pins s σ H xs us Q I r h;obtain⟨i,rfl,q⟩:=h;obtain⟨u,rfl,t,rfl⟩:=vN r;exact call_abs_int λu tk=>⟨.int (if i<0 then -i else i),H,I.tok _,⟨_,rfl⟩,q⟩
def G5(hc:X.calm=true):aS X (.builtin "max") (λxs H Q=>∃i j,xs=[.int i,.int j]/\Q (.int (if j > i then j else i)) H):=by
 intro pins s σ H xs us Q I r h;obtain⟨i,j,rfl,q⟩:=h;obtain⟨u,w',rfl,⟨t,rfl⟩,⟨t',rfl⟩⟩:=rX r;refine max_two_ints (I.ok.hd hc) λh' tk k=>⟨_,H,I.kept k,?_,q⟩;by_cases hj:j > i
 .rw[LF hj,LF hj];exact⟨_,rfl⟩
 .rw[LG hj,LG hj];exact⟨_,rfl⟩
def G4:aS X (.type "int") (λxs H Q=>(∃i,xs=[.int i]/\Q (.int i) H)\/∃k,xs=[.bl k]/\Q (.int (if k then 1 else 0)) H):=by
 intro pins s σ H xs us Q I r h;rcases h with⟨i,rfl,q⟩|⟨k,rfl,q⟩
 .obtain ⟨u,rfl,t,rfl⟩:=vN r;exact call_int_int ⟨.int i,H,I,⟨_,rfl⟩,q⟩
 .obtain ⟨u,rfl,r1⟩:=vN r;cases r1;exact call_int_bool ⟨.int (if k then 1 else 0),H,I.tok _,⟨_,rfl⟩,q⟩
end
structure fj(h:JU)(x dx C:Addr)(mA:Str->Option Value):Prop where
 obj:h.get? x=some (Vf C dx)
 ns:h.Ns1 dx mA
 ne:dx≠x
set_option tactic.hygienic true in
def gq {h:JU}(n:h.Ns1 dx mA):∃od,h.get? dx=some od/\∀name,Vj name od=some (mA name):=by
 obtain⟨o,es,ep,ho,hd,hk,_,hm⟩:=n;refine⟨o,ho,λname=>?_⟩;have e:=hm name;unfold nsFind findBy at e;rw[<-Array.find?_toList]at e;unfold Vj;rw[hd];dsimp only;split
 .rename_i y q;rw[q]at e;exact LI some e
 .rename_i q;rw[q]at e;have a:es.toList.any (·.refKey)=false:=by
   rw[List.any_eq_false];intro y hy;obtain⟨z,t,hkey⟩:=hk y (Array.mem_toList_iff.mp hy);simp[DictEntry.refKey,hkey]
  have a':¬es.toList.any (·.refKey)=true:=by rw[a];exact Q3
  rw[LG a'];exact LI some e
def fj.look (I:fj h x dx C mA):∃od,PySem.W.InstAt h x (Vf C dx) C (some od)/\∀name,Vj name od=some (mA name):=
 let⟨od,ho,hl⟩:=gq I.ns
 ⟨od,⟨I.obj,rfl,rfl,ho⟩,hl⟩
def dz.some_of (r:dz (some v) o):∃u,o=some u/\RelV v u:=by
 cases o with
 |none=>exact(show False from r).elim
 |some u=>exact⟨u,rfl,r⟩
def G0 (r:RelV v u):PySem.W.handedIn u=true:=by
 cases v with
 |non=>cases(show u=Value.none from r);rfl
 |bl b=>cases(show u=Value.bool b from r);rfl
 |int i=>obtain⟨t,e⟩:=(show ∃t,u=Value.int i t from r);cases e;rfl
 |str x=>obtain⟨t,e⟩:=(show ∃t,u=Value.str x t from r);cases e;rfl
 |byt b=>obtain⟨t,e⟩:=(show ∃t,u=Value.bytes b t from r);cases e;rfl
 |flt b=>obtain⟨t,e⟩:=(show ∃t,u=Value.float b t from r);cases e;rfl
 |ref a=>cases(show u=Value.ref a from r);rfl
 |ty n=>cases(show u=Value.type n from r);rfl
section
variable{P:JS}{w:JT}{H:Hp}{h:JU}{a C dx:Addr}{fs:List (Str×V)}
def EW(hok:bN P w H h)(e:H a=some (.ins C dx fs)):∃mA,fj h a dx C mA/\(∀f,dz (fs.lookup f) (mA f))/\PySem.Within mA (fs.map (·.1))/\fs.length<=1000/\H dx=some (.own a):=by
 obtain⟨d,z,ne,ob,mA,n,r,q⟩:=(show bc P w H h a (.ins C dx fs)from hok a _ e);exact⟨mA,⟨ob,n,ne⟩,r,q,z,d⟩
end
structure o9(K:Qb)(C:Addr):Prop where
 pg:PySem.W.plainGet K C Str.empty=true
 hd:PySem.W.hasDictIn K C=true
 po:PySem.W.plainOver K C=true
 sa:Wk K (.ref C) "__setattr__"=some (some (.builtin "object.__setattr__"))
def o9.get {K:Qb}(c:o9 K C)(f:Str):PySem.W.plainGet K C f=true:=c.pg
section
variable{s:Shared}{f:Str}{A:J0}{E:Value->Shared->Prop}
def EV (hb:Kt e f env (eval e env)=eval e env)(h:J5 (J6 prog w) A (eval e env) (λo s₁=>J5 (J6 prog w) A (getAttr o f true) Q E s₁) E s):J5 (J6 prog w) A (eval (.Attribute e f pos) env) Q E s:=
 Attribute_any_ h (by rw[arm_eval_Attribute,hb])
end
section
variable{X:Cx}{pins:List (Addr×Obj)}{σ:St}{H:Hp}{s:Shared}{A:J0}{E:Value->Shared->Prop}{Q:Value->Shared->Prop}{c:Value}{b:Bool}
inductive cq(K:Qb)(H:Hp):V->Value->Prop where
 |non:cq K H .non (.type "NoneType")
 |bl (x:Bool):cq K H (.bl x) (.type "bool")
 |int (i:Int):cq K H (.int i) (.type "int")
 |str (x:Str):cq K H (.str x) (.type "str")
 |flt (x:UInt64):cq K H (.flt x) (.type "float")
 |lst {a:Addr}{xs:List V}(e:H a=some (.lst xs)):cq K H (.ref a) (.type "list")
 |frz {a:Addr}{o:Obj}{xs:List V}(e:H a=some (.frz o (.lst xs))):cq K H (.ref a) (.type "list")
 |tup {a:Addr}{xs:List V}(e:H a=some (.tup xs)):cq K H (.ref a) (.type "tuple")
 |dK {a:Addr}{kvs:List (cX×V)}(e:H a=some (.dK kvs)):cq K H (.ref a) (.type "dict")
 |dT {a:Addr}{kvs:List (List cX×V)}(e:H a=some (.dT kvs)):cq K H (.ref a) (.type "dict")
 |ins {a C dx:Addr}{fs:List (Str×V)}(e:H a=some (.ins C dx fs)) (cl:o9 K C) (ha:Wk K (.ref C) "__class__"=some (some (.builtin "object.__class__")))
   (hn:PySem.W.specialIn K (.builtin "object.__class__") "__get__"=some (some (.builtin "getset_descriptor.__get__"))) (htk:PySem.W.takesIn K (.builtin "object.__class__")=some true)
   (hm:Wm K C (.type "object")=some true):cq K H (.ref a) (.ref C)
def wm (I:Inv X pins σ H s)(rx:RelV x u)(ty:cq X.K H x t)(e:Qz X.K t c=some b)(h:∀tk,Q (.bool b) {s with toks:=tk}):
  J5 (J6 X.prog X.w) A (call (.builtin "isinstance") [u,c]) Q E s:=by
 cases ty with
 |non=>cases(show u=Value.none from rx);exact QX PySem.W.kitx_none I.kIn True.intro e (λz=>nomatch z) h
 |bl y=>cases(show u=Value.bool y from rx);exact QX PySem.W.kitx_bool I.kIn True.intro e (λz=>nomatch z) h
 |int i=>obtain⟨t,q⟩:=(show ∃t,u=Value.int i t from rx);cases q;exact QX PySem.W.kitx_int I.kIn True.intro e (λz=>nomatch z) h
 |str y=>obtain⟨t,q⟩:=(show ∃t,u=Value.str y t from rx);cases q;exact QX PySem.W.kitx_str I.kIn True.intro e (λz=>nomatch z) h
 |flt y=>obtain⟨t,q⟩:=(show ∃t,u=Value.float y t from rx);cases q;exact QX PySem.W.kitx_float I.kIn True.intro e (λz=>nomatch z) h
 |@lst a xs ea=>
  cases(show u=Value.ref a from rx);obtain⟨_,_,n,_,h1⟩:=(show bc X.prog X.w H s.heap a (.lst xs)from I.hok a _ ea);exact QX Vb I.kIn ⟨_,h1,rfl⟩ e (λz=>nomatch z) h
 |@frz a ob xs ea=>
  cases(show u=Value.ref a from rx);obtain⟨_,_,_,n,_,h1⟩:=(show bc X.prog X.w H s.heap a (.frz ob (.lst xs))from I.hok a _ ea);exact QX Vb I.kIn ⟨_,h1,rfl⟩ e (λz=>nomatch z) h
 |@tup a xs ea=>
  cases(show u=Value.ref a from rx);obtain⟨_,_,_,p⟩:=(show bc X.prog X.w H s.heap a (.tup xs)from I.hok a _ ea);obtain⟨o,h1,h2,_⟩:=p;exact QX PySem.W.kitx_tuple I.kIn ⟨o,h1,h2⟩ e (λz=>nomatch z) h
 |@dK a kvs ea=>
  cases(show u=Value.ref a from rx);obtain⟨_,_,vs,_,p⟩:=(show bc X.prog X.w H s.heap a (.dK kvs)from I.hok a _ ea);obtain⟨o,es,ep,h1,h2,_⟩:=p;exact QX PySem.W.kitx_dict I.kIn ⟨o,h1,h2.1⟩ e (λz=>nomatch z) h
 |@dT a kvs ea=>
  cases(show u=Value.ref a from rx);obtain⟨_,_,xs,_,o,es,ep,h1,h2,_⟩:=(show bc X.prog X.w H s.heap a (.dT kvs)from I.hok a _ ea);exact QX PySem.W.kitx_dict I.kIn ⟨o,h1,h2.1⟩ e (λz=>nomatch z) h
 |@ins a C dx fs ea cl ha hn htk hm=>
  cases(show u=Value.ref a from rx);obtain⟨mA,O,_⟩:=EW I.hok ea;obtain⟨od,J,_⟩:=O.look;exact QX (PySem.W.kitx_own (cl.get _) cl.hd ha hn htk hm) I.kIn J e (λz=>nomatch z) h
end
structure bH(k:Nat)(A:J0):Prop where
 hd:A.handled=none
 dp:A.depth+3*k+5<Ku
 un:A.units+16*k+200<Kv
theorem bH.deeper{k:Nat}{A:J0}(r:bH (k+1) A)(env:Env):bH k (A.deeper env):=
 ⟨r.hd,by have:=r.dp;show A.depth+1+3*k+5<_;lia,by have:=r.un;show A.units+3+16*k+200<_;lia⟩
def HP {A:J0}:(A.under (.builtin "type.__call__" ⟨.ref C::us,kw⟩)).depth=A.depth+1:=by
 first|rfl|simp[Around.under,Code.weight,Code.isCreation,Code.isGuard,Code.isCaller,Code.frames,Code.isFrame,guardIds]
theorem bH.depth (r:bH k A):A.depth<Ku:=by have:=r.dp;lia
theorem bH.units (r:bH k A):A.units+64<Kv:=by have:=r.un;lia
noncomputable def pJ:TA:=λ_ H Q=>Q [] H
noncomputable def rW(ta:TE)(tr:TA):TA:=λσ H Q=>ta σ H λx H1=>tr σ H1 λxs H2=>Q (x::xs) H2
section
variable{X:Cx}{e:Expr}{es:List Expr}{te:TE}{t:TA}{pos:Pos}
def x8:PA X [] pJ:=λ_ _ _ _ H Q I h=>Calls.spliced_nil ⟨[],H,I,.nil,h⟩
def yu(ha:PE X e te)(hr:PA X es t)(hs:J8 (e::es) X.env=(false,eval e X.env)::J8 es X.env:=by rfl):PA X (e::es) (rW te t):=by
 intro pos pins s σ H Q I h;rw[hs];show J5 _ _ (spliced ((false,eval e X.env)::J7 pos (J8 es X.env))) _ _ s;refine Calls.spliced_cons (aY (ha pins s σ H _ I h) λu s1 ⟨x,H1,I1,r1,q1⟩=>?_);exact aY (hr pos pins s1 σ H1 _ I1 q1) λus s2 ⟨xs,H2,I2,r2,q2⟩=>⟨x::xs,H2,I2,.cons r1 r2,q2⟩
noncomputable def mW(t:TA):TE:=λσ H Q=>t σ H λxs H1=>xs.length<=sizeLine/\∀p,H1 p=none->Q (.ref p) (aK H1 p (.tup xs))
noncomputable def nj(t:TA):TE:=λσ H Q=>t σ H λxs H1=>xs.length<=sizeLine/\∀p,H1 p=none->Q (.ref p) (aK H1 p (.lst xs))
def sW{x1}(h:PA X es t):PE X (.Tuple es x1 pos) (mW t):=by
 intro pins s σ H Q I hq;refine wpAny_Tuple_spliced (aY (h pos pins s σ H _ I hq) λus s1 ⟨xs,H1,I1,r,z,q⟩=>⟨by rw[<-r.length];exact z,?_⟩);have hf:H1 s1.heap.objs.size=none:=I1.hok.fresh (Ql _);refine⟨.ref s1.heap.objs.size,aK H1 s1.heap.objs.size (.tup xs),I1.laid (t':=s1.toks) (λb u e=>Qi _ e) (Ql _) ?_,rfl,q _ hf⟩;exact⟨z,us,r,⟨_,QR _ rfl,rfl,_,rfl⟩⟩
def Dd(h:PA X es t):PE X (.List es pos) (nj t):=by
 intro pins s σ H Q I hq;refine wpAny_List_spliced (aY (h pos pins s σ H _ I hq) λus s1 ⟨xs,H1,I1,r,z,q⟩=>⟨by rw[<-r.length];exact z,?_⟩);have hf:H1 s1.heap.objs.size=none:=I1.hok.fresh (Ql _);refine⟨.ref s1.heap.objs.size,aK H1 s1.heap.objs.size (.lst xs),I1.laid (t':=s1.toks) (λb u e=>Qi _ e) (Ql _) ?_,rfl,q _ hf⟩;exact⟨z,us,0,r,QR _ rfl⟩
end
abbrev Sp:=List V->Hp->VK->XK->Prop
abbrev dH:=List Env->Hp->Shared->XK->Value->Shared->Prop
structure cQ(P:JS)(w:JT)(K:Qb)(mg:Str->Option Value)(base:JU)(A:J0)(outer:List Env)(s:Shared)(H:Hp):Prop where
 frames:A.frames=some outer
 mod:Mod K mg base
 bs:∀b o,base.get? b=some o->s.heap.get? b=some o/\H b=none
 bsz:base.objs.size<=s.heap.objs.size
 funs:s.heap.FunFrames base outer
 frf:∀b∈bx outer,H b=none
 hok:bN P w H s.heap
 bare:J1 s.gens
noncomputable def CE(outer:List Env)(P:JS)(w:JT)(H:Hp)(s:Shared)(Q:VK)(u:Value)(s':Shared):Prop:=
 ∃v H',s'.os=s.os/\J1 s'.gens/\Un (bx outer) [] H H' s.heap s'.heap/\bN P w H' s'.heap/\RelV v u/\Q v H'
noncomputable def CR(CX:dH)(outer:List Env)(P:JS)(w:JT)(H:Hp)(s:Shared)(Q:VK)(E:XK)(r:Result)(s':Shared):Prop:=
 match r with
 |.ok (.ret u)=>CE outer P w H s Q u s'
 |.ok _=>False
 |.error e=>CX outer H s E e s'
structure bJ(P:JS)(w:JT)(K:Qb)(mg:Str->Option Value)(base:JU)(CX:dH)(k:Nat)(f:Addr)(fd:Kw)(ps:List Str)(sp:Sp):Prop where
 len:∀vs H Q E,sp vs H Q E->vs.length=ps.length
 run:∀(A:J0) (outer:List Env) (s:Shared) (H:Hp) (args:Args) (us:List Value) (vs:List V) (Q:VK) (E:XK),bH k A->cQ P w K mg base A outer s H->Kx s fd args (ps.zip us)->az vs us->sp vs H Q E ->
  Ky (J6 P w) A (.call (.ref f) args) (CR CX outer P w H s Q E) s
def cQ.make{P:JS}{w:JT}{K:Qb}{mg:Str->Option Value}{base:JU}{A:J0}{outer:List Env}{s:Shared}{H:Hp}(e:cQ P w K mg base A outer s H)(C:Addr)(us:List Value)(kw:List (Str×Value)):
  cQ P w K mg base (A.under (.builtin "type.__call__" ⟨.ref C::us,kw⟩)) outer s H:=⟨by first|exact e.frames|(simpa [Around.under,Code.envs,Code.isFrame,pushEnvs]using e.frames),e.mod,e.bs,e.bsz,e.funs,e.frf,e.hok,e.bare⟩
section
variable{X:Cx}{pins:List (Addr×Obj)}{σ:St}{H:Hp}{s s':Shared}
def Inv.env0(I:Inv X pins σ H s):cQ X.prog X.w X.K X.mg X.base X.A X.stack s H:=
 ⟨I.ok.frames,I.ok.mod,I.bs,Qo I.ok.bsz I.sz,I.stack,I.stkFree,I.hok,I.bare⟩
def Inv.after (I:Inv X pins σ H s)(h:CE X.stack X.prog X.w H s Q u s'):EP X pins σ Q u s':=by
 obtain⟨v,H',os,bare,un,hok,r,q⟩:=h;obtain⟨hh,g,d,t,os'⟩:=s';obtain rfl:os'=s.os:=os;exact⟨v,H',I.call (h':=hh) (g':=g) (d':=d) (t':=t) (ch:=[]) un hok bare (λb z=>LH z (by simp)),r,q⟩
end
noncomputable def BH(sp:Sp)(dvs:List V)(E:XK)(t:TA):TE:=λσ H Q=>t σ H λvs H1=>sp (vs++dvs) H1 Q E
noncomputable def Binds(K:Qb)(fd:Kw)(ps:List Str)(ds:List Value):Prop:=
 ∀(s:Shared) (us:List Value),K.In s.heap->(us++ds).length=ps.length->Kx s fd ⟨us,[]⟩ (ps.zip (us++ds))
def Binds.all{K:Qb}{fd:Kw}{ps:List Str}(h:∀us:List Value,us.length=ps.length->bindArgs fd ⟨us,[]⟩=pure (ps.zip us)):Binds K fd ps []:=λs us _ hl=>by
 rw[QU]at hl ⊢;exact .of_eq (h us hl)
noncomputable def mM(CX:dH)(X:Cx)(E:XK):Prop:=∀(pins:List (Addr×Obj)) (σ:St) (H:Hp) (s:Shared) (e:Value) (s':Shared),Inv X pins σ H s->CX X.stack H s E e s'->X.xe e s'
section
variable{X:Cx}{CX:dH}{k:Nat}{f:Addr}{fd:Kw}{ps:List Str}{sp:Sp}{dvs:List V}{ds:List Value}{E:XK}{x:Str}{p pos:Pos}{e:Expr}{es:List Expr}{t:TA}
def Dc (F:bJ X.prog X.w X.K X.mg X.base CX k f fd ps sp)(hr:bH k X.A)(hb:Binds X.K fd ps ds)(hd:az dvs ds)(hx:mM CX X E)(I:Inv X pins σ H s)(r:az vs us)(h:sp (vs++dvs) H Q E):J5 (J6 X.prog X.w) X.A (call (.ref f) us) (EP X pins σ Q) X.xe s:=by
 have r2:az (vs++dvs) (us++ds):=r.append hd;have hl:(us++ds).length=ps.length:=by rw[<-r2.length];exact F.len _ _ _ _ h
 refine Kz (KA (F.run X.A X.stack s H ⟨us,[]⟩ (us++ds) (vs++dvs) Q E hr I.env0 (hb s us I.kIn hl) r2 h) λr s' hq=>?_);cases r with
 |error e=>exact hx pins σ H s e s' I hq
 |ok fl=>
  cases fl with
  |ret u=>exact I.after hq
  |next=>exact False.elim hq
  |brk=>exact False.elim hq
  |cont=>exact False.elim hq
def EU(F:bJ X.prog X.w X.K X.mg X.base CX k f fd ps sp)(hr:bH k X.A)(hg:Gl X x)(hm:X.mg x=some (.ref f))(hk:QT X.K (.ref f)=true)(hb:Binds X.K fd ps ds)(hd:az dvs ds)(hx:mM CX X E)
  (ha:PA X (e::es) t) (hdb:(x==("__debug__":Str))=false:=by decide) (he:J8 (e::es) X.env=(false,eval e X.env)::J8 es X.env:=by rfl) (hpl:(J7 pos (J8 es X.env)).any (·.1)=false:=by rfl) :
  PE X (.Call (.Name x p) (e::es) [] pos) (BH sp dvs E t):=by
 intro pins s σ H Q I h;refine KB (jn I hg hm ?_ hdb);refine PySem.W.callWith_K (h₀:=X.base) I.ok.mod.kin hk (aY (ha pos pins s σ H _ I h) λus s1 ⟨vs,H1,I1,r,q⟩=>⟨I1.kIn,?_⟩) he hpl;exact Dc F hr hb hd hx I1 r q
end
structure bR(N P:List Str)(sc:JP):Prop where
 kind:sc.kind=.function
 co:sc.isCoroutine=false
 gen:sc.isGenerator=false
 nd:N.Nodup
 pre:N.take P.length=P
 par:∀x∈P,sc.names.lookup x=some .local\/sc.names.lookup x=some .cell
 nofree:∀y∈sc.names,y.2≠.free
theorem gr {kindOf:Str->Option KC}:∀{binds:List (Str×Value)}{m:Str->Option Value},(∀v,(x,v)∉binds)->KD kindOf binds m x=m x
 |[],_,_=>rfl
 |(n,v)::r,m,h=>by
  unfold KD;rw[gr λw hw=>h w (Qk _ hw)];split
  .have:x≠n:=by rintro rfl;exact h v QH
   simp[this]
  .rfl
theorem gs {kindOf:Str->Option KC}:∀{binds:List (Str×Value)}{m:Str->Option Value},(∀v,(x,v)∉binds)->KG kindOf binds m x=m x
 |[],_,_=>rfl
 |(n,v)::r,m,h=>by
  unfold KG;rw[gs λw hw=>h w (Qk _ hw)];split
  .rfl
  .have:x≠n:=by rintro rfl;exact h v QH
   simp[this]
theorem gu {kindOf:Str->Option KC}:∀{P:List Str}{vs:List Value}{i:Nat}{m:Str->Option Value},P.Nodup->P[i]?=some x->vs[i]?=some v->kindOf x=some .local ->
  KD kindOf (P.zip vs) m x=some v
 |[],_,_,_,_,h,_,_=>by simp at h
 |_::_,[],_,_,_,_,h,_=>by simp at h
 |p::P,w::vs,0,m,nd,h1,h2,hk=>by
  simp at h1 h2;subst h1;subst h2;show KD kindOf ((p,w)::P.zip vs) m p=_;unfold KD;rw[gr λv hv=>(QO.mp nd).1 (W1 hv).1,LF hk];simp
 |p::P,w::vs,i+1,m,nd,h1,h2,hk=>by
  show KD kindOf ((p,w)::P.zip vs) m x=_;unfold KD;exact gu (i:=i) (QO.mp nd).2 (by simpa using h1) (by simpa using h2) hk
theorem gv {kindOf:Str->Option KC}:∀{P:List Str}{vs:List Value}{i:Nat}{m:Str->Option Value},P.Nodup->P[i]?=some x->vs[i]?=some v->kindOf x≠some .local ->
  KG kindOf (P.zip vs) m x=some v
 |[],_,_,_,_,h,_,_=>by simp at h
 |_::_,[],_,_,_,_,h,_=>by simp at h
 |p::P,w::vs,0,m,nd,h1,h2,hk=>by
  simp at h1 h2;subst h1;subst h2;show KG kindOf ((p,w)::P.zip vs) m p=_;unfold KG;rw[gs λv hv=>(QO.mp nd).1 (W1 hv).1,LG hk];simp
 |p::P,w::vs,i+1,m,nd,h1,h2,hk=>by
  show KG kindOf ((p,w)::P.zip vs) m x=_;unfold KG;exact gv (i:=i) (QO.mp nd).2 (by simpa using h1) (by simpa using h2) hk
noncomputable def start(N:List Str)(vs:List V):St:=vs.map some++Qu (N.length-vs.length) none
noncomputable def vO(CX:dH)(P:JS)(w:JT)(K:Qb)(mg:Str->Option Value)(base:JU)(N:List Str)(qual:Str)(scope:JP)(f:Addr)(cd:Value)(A:J0)(outer:List Env)(s:Shared)(H:Hp)(E:XK):Cx where
 prog:=P
 w:=w
 K:=K
 mg:=mg
 base:=base
 A:=A.deeper (envOfC qual scope s.heap.objs.size f cd)
 N:=N
 s₀:=s
 H₀:=H
 env:=envOfC qual scope s.heap.objs.size f cd
 outer:=outer
 stack:=envOfC qual scope s.heap.objs.size f cd::outer
 ex:=[]
 calm:=true
 fn:=λ_=>true
 pn:=[]
 xe:=λe s'=>J5 (J6 P w) (A.deeper (envOfC qual scope s.heap.objs.size f cd)) (leaving (envOfC qual scope s.heap.objs.size f cd) e) (λ_ s''=>CX outer H s E e s'') (λe' s''=>CX outer H s E e' s'') s'
def qT {sc:JP}(h:sc.names.lookup x=some .cell):∃c,(KH n sc.names []).lookup x=some c:=by
 have q:=WA sc.names n [] (.inl h);exact Ww.mp q
def gw {K:Qb}(S:bR N ps scope)(hd:A.handled=none)(e0:cQ P w K mg base A outer s H)(hl:vs.length=ps.length)(r:az vs us)(x:InCallC s s.heap.objs.size (KD (envOfC qual scope s.heap.objs.size f cd).kindOf (ps.zip us) λ_=>none) (KH (s.heap.objs.size+1) scope.names []) (KG (envOfC qual scope s.heap.objs.size f cd).kindOf (ps.zip us) λ_=>none) s1):
  Inv (vO CX P w K mg base N qual scope f cd A outer s H E) [] (start N vs) H s1:=by
 have hpl:ps.length<=N.length:=by have:=LI List.length S.pre;rw[Vi]at this;lia
 obtain⟨h1,tk,rfl,hk⟩:=x.done;have noA:∀b:Addr,b∉(vO CX P w K mg base N qual scope f cd A outer s H E).ex:=λb z=>LH (show b∈([]:List Addr)from z) (by simp);refine⟨⟨e0.mod,S.kind,rfl,rfl,Ql _,λy z c h1 h2=>?_,λy hy=>?_,λy c _ h=>?_,λ_=>hd,Around.frames_deeper e0.frames,.inr ⟨rfl,rfl⟩,λb z=>LH z (noA b),e0.bs,e0.bsz,λb _ _=>noA b,λb z=>LH z (noA b),e0.funs,e0.frf⟩,
  rfl,e0.bare,Un.kept hk,⟨_,x.toInCall.ns,λi y v h1 h2 h3=>?_⟩,λy c h=>⟨_,x.cell y c h⟩,e0.hok.fresh (Ql _),λy c h=>?_,λp hp=>LH (show p∈([]:List (Addr×Obj))from hp) (by simp),e0.hok.kept hk,?_⟩
 .exact name_of_addr x.apart (PySem.mem_of_lookup h1) (PySem.mem_of_lookup h2)
 .have hy:scope.names.lookup y=some .cell\/scope.names.lookup y=some .free:=hy;rcases hy with hy|hy
  .exact qT hy
  .exact LH rfl (S.nofree _ (PySem.mem_of_lookup hy))
 .exact WZ (x.above y c (PySem.mem_of_lookup h))
 .have hi:i<vs.length:=by
   unfold start at h2;by_cases hi:i<vs.length
   .exact hi
   .rw[Qn (by simpa using hi)]at h2;rw[WB]at h2;split at h2<;>cases h2
  have ha:vs[i]?=some v:=by
   unfold start at h2;rw[Qq (by simpa using hi),Qs]at h2;cases e:vs[i]? with
   |none=>rw[e]at h2;cases h2
   |some a=>rw[e]at h2;cases h2;rfl
  obtain⟨u,hu,rv⟩:=r.get ha;have hp:ps[i]?=some y:=by
   rw[<-S.pre,List.getElem?_take_of_lt (by lia)];exact h1
  have ndP:ps.Nodup:=by rw[<-S.pre];exact S.nd.sublist (List.take_sublist _ _)
  refine⟨u,rv,?_⟩;rcases S.par y (QA hp)with k|k
  .exact .inl ⟨k,gu ndP hp hu k⟩
  .obtain ⟨c,e⟩:=qT (n:=s.heap.objs.size+1) k;refine .inr ⟨.inl k,c,e,?_⟩;have q:=x.cell y c e;rw[gv ndP hp hu (by show scope.names.lookup y≠_;rw[k];decide)]at q;exact q
 .exact e0.hok.fresh (WZ (x.above y c (PySem.mem_of_lookup h)))
 .unfold start;show _=N.length;rw[Q0,Qw,List.length_replicate];lia
set_option tactic.hygienic true in
def rV {K:Qb}{kV:Value}(lk:K.lookup f=some ⟨oc,od,.func (Wa name qual params body scope dV kV doc pm an cdv ct),osl⟩)(hcd:Wz K cdv qual=true)(S:bR N ps scope)(len:∀vs H Q E,sp vs H Q E->vs.length=ps.length)(hbody:∀(A:J0) (outer:List Env) (s:Shared) (H:Hp) (vs:List V) (Q:VK) (E:XK),bH k (A.deeper (envOfC qual scope s.heap.objs.size f cdv))->sp vs H Q E ->
   ∃t,cj (vO CX P w K mg base N qual scope f cdv A outer s H E) body t/\t {nx:=λ_ H'=>Q .non H',rt:=Q} (start N vs) H):
  bJ P w K mg base CX (k+1) f (Wa name qual params body scope dV kV doc pm an cdv ct) ps sp:=by
 refine⟨len,λA outer s H args us vs Q E hr e0 hb r hsp=>?_⟩;have hl:=len _ _ _ _ hsp;have KX:K.In s.heap:=e0.mod.kin.keeps λb o e=>(e0.bs b o e).1;have au:s.heap.NoLimit:=e0.mod.nolimit.keeps λb o e=>(e0.bs b o e).1;have hkind:∀y∈ps.zip us,scope.names.lookup y.1=some .local\/(scope.names.lookup y.1=some .cell/\((KH (s.heap.objs.size+1) scope.names []).lookup y.1).isSome=true):=λ⟨n,v⟩ hy=>by
  rcases S.par n (W1 hy).1 with q|q
  .exact .inl q
  .exact .inr ⟨q,WA _ _ _ (.inl q)⟩
 refine KI hr.depth (KX _ _ lk) rfl S.co S.gen rfl (PySem.W.codeRec_of KX hcd) (hb _ _ _ _ ?_);refine KJ S.kind hkind λenv he s1 x=>?_;subst he;refine⟨au.keeps x.toInCall.keep,codeAny_func ?_⟩;obtain⟨t,ht,hq⟩:=hbody A outer s H vs Q E (hr.deeper _) hsp;have I:Inv (vO CX P w K mg base N qual scope f cdv A outer s H E) [] (start N vs) H s1:=gw S hr.hd e0 hl r x;refine J9 (ht [] s1 (start N vs) H _ I hq) (λfl s' hs=>?_) λe s' hs=>hs;have fin:∀{σ':St}{H':Hp}{v:V}{u:Value},Inv (vO CX P w K mg base N qual scope f cdv A outer s H E) [] σ' H' s'->RelV v u->Q v H'->CE outer P w H s Q u s':=
  λ{σ' H' v u} J rv q=>⟨v,H',J.os,J.bare,J.base,J.hok,rv,q⟩
 cases fl with
 |ret u=>
  obtain⟨v,σ',H',J,rv,q⟩:=hs;exact fin J rv q
 |next=>
  obtain⟨σ',H',J,q⟩:=hs;exact fin (v:=V.non) (u:=Value.none) J rfl q
 |brk=>
  obtain⟨_,_,_,q⟩:=hs;exact False.elim q
 |cont=>
  obtain⟨_,_,_,q⟩:=hs;exact False.elim q
section
variable{X:Cx}{x:Str}{p pos:Pos}{e:Expr}{es:List Expr}{t:TA}{id T:String}{r:List V->Hp->VK->Prop}
noncomputable def nl(r:List V->Hp->VK->Prop)(t:TA):TE:=λσ H Q=>t σ H λvs H1=>r vs H1 Q
def yN(hc:aS X (.builtin id) r)(hg:Gl X x)(hm:X.mg x=none)(hv:JZ x=some (.builtin id))(ha:PA X (e::es) t)(hn:x ≠ "__name__":=by decide)(hdb:(x==("__debug__":Str))=false:=by decide)
  (he:J8 (e::es) X.env=(false,eval e X.env)::J8 es X.env:=by rfl) (hpl:(J7 pos (J8 es X.env)).any (·.1)=false:=by rfl):PE X (.Call (.Name x p) (e::es) [] pos) (nl r t):=by
 intro pins s σ H Q I h;refine KB (kD I hg hm hv ?_ hn hdb);exact PyProof.Rows.callWith_builtin1 (aY (ha pos pins s σ H _ I h) λus s1 ⟨vs,H1,I1,r1,q1⟩=>hc pins s1 σ H1 vs us Q I1 r1 q1) he hpl
def kE(hc:aS X (.type T) r)(hg:Gl X x)(hm:X.mg x=none)(hv:JZ x=some (.type T))(ha:PA X (e::es) t)(hn:x ≠ "__name__":=by decide)(hdb:(x==("__debug__":Str))=false:=by decide)
  (he:J8 (e::es) X.env=(false,eval e X.env)::J8 es X.env:=by rfl) (hpl:(J7 pos (J8 es X.env)).any (·.1)=false:=by rfl):PE X (.Call (.Name x p) (e::es) [] pos) (nl r t):=by
 intro pins s σ H Q I h;refine KB (kD I hg hm hv ?_ hn hdb);exact PyProof.Rows.callWith_type1 (aY (ha pos pins s σ H _ I h) λus s1 ⟨vs,H1,I1,r1,q1⟩=>hc pins s1 σ H1 vs us Q I1 r1 q1) he hpl
end
end L2
namespace HT
open PySem PyProof.Rows
section
variable{prog:JS}{w:JT}{A:J0}{E:Value->Shared->Prop}{s:Shared}
def eg (ht:IsTup s.heap t vs.toArray)(hb:IsTup s.heap b ws.toArray)(hv:vs≠[])(h1:ws=[]->Q (.ref t) s)(h2:ws≠[]->Q (.ref s.heap.objs.size) {s with heap:=s.heap.push {cls:=.type "tuple",data:=.seq (vs++ws).toArray} })(hsz:vs.length+ws.length<=sizeLine):J5 (J6 prog w) A (Kn .Add (.ref t) (.ref b)) Q E s:=by
 obtain⟨⟨cls,dd,data,sl⟩,ho,hc,n,hd⟩:=id ht;obtain⟨⟨cls2,dd2,data2,sl2⟩,ho2,hc2,n2,hd2⟩:=id hb;simp only at hc hd hc2 hd2;subst hc hd hc2 hd2;have e:vs.toArray++ws.toArray=(vs++ws).toArray:=by simp
 by_cases hw:ws=[]
 .exact KM ⟨_,ho,rfl⟩ ⟨_,ho2,rfl⟩ KN KO PySem.F.slot_tuple_add PySem.F.entry_tuple_add (PySem.F.args_tuple_add_2 _ _)
   (tuple_addW1 t b vs.toArray ws.toArray n n2 dd dd2 sl sl2 (by simpa using hv) (by simp[hw])) ⟨ho,ho2,h1 hw⟩
 .refine KM ⟨_,ho,rfl⟩ ⟨_,ho2,rfl⟩ KN KO PySem.F.slot_tuple_add PySem.F.entry_tuple_add (PySem.F.args_tuple_add_2 _ _)
   (tuple_addW2 t b vs.toArray ws.toArray n n2 dd dd2 sl sl2 (by simpa using hv) (by simpa using hw) (by rw[Qm,Qm];exact hsz)) ⟨ho,ho2,?_⟩
  rw[e];exact h2 hw
noncomputable def aP(n d:Nat):Option Int->Nat
 |none=>d
 |some v=>if v<0 then(v+(n:Int)).toNat else min v.toNat n
def Db(n d:Nat)(hd:d<=n)(o:Option Int):aP n d o<=n:=by
 cases o with
 |none=>exact hd
 |some v=>
  show(if v<0 then(v+(n:Int)).toNat else min v.toNat n)<=n;by_cases hv:v<0
  .rw[LF hv];lia
  .rw[LG hv];exact Nat.min_le_right _ _
def ue(v:Int)(n d:Nat):(if v<0 then max (v+(n:Int)) 0 else min v (n:Int))=((aP n d (some v):Nat):Int):=by
 show(if v<0 then max (v+(n:Int)) 0 else min v (n:Int))=(((if v<0 then(v+(n:Int)).toNat else min v.toNat n):Nat):Int);by_cases hv:v<0
 .simp only[LF hv];lia
 .simp only[LG hv];lia
def HN(lo hi:Option Int)(n:Nat):Builtin.Slice.sliceAdjust lo hi 1 (n:Int)=(((aP n 0 lo:Nat):Int),((aP n n hi:Nat):Int)):=by
 have h1:¬((1:Int)<0):=by lia
 unfold Builtin.Slice.sliceAdjust;simp only[h1,if_false];refine Prod.ext ?_ ?_
 .cases lo with
  |none=>rfl
  |some v=>exact ue v n 0
 .cases hi with
  |none=>rfl
  |some v=>exact ue v n n
def HM(i j:Nat):Builtin.Slice.slicePlaces (i:Int) (j:Int) 1=j-i:=by
 unfold Builtin.Slice.slicePlaces;have h1:(1:Int) > 0:=by lia
 simp only[h1,if_true,Int.ediv_one];split<;>lia
def jz (p:KP v o)(h:Q o s):J5 (J6 prog w) A (Builtin.Slice.slicePartIndex v) Q E s:=by
 cases p with
 |none=>exact slicePart_none h
 |int i t=>exact slicePart_int h
def kF {lo:Option Int}{Q:Int×Int×Nat->Shared->Prop}(hs:s.heap.IsSliceOf sl vl vu .none)(pl:KP vl lo)(pu:KP vu hi)(h:Q (((aP n 0 lo:Nat):Int),1,aP n n hi-aP n 0 lo) s):J5 (J6 prog w) A (Builtin.Slice.sliceApplied (.ref sl) (pure (n:Int))) Q E s:=by
 obtain⟨os,hos,hcs,hds⟩:=id hs;unfold Builtin.Slice.sliceApplied Builtin.Slice.sliceFields;refine Kf (Kf (KQ hos hds (x:=vl) rfl (Kf (KQ hos hds (x:=vu) rfl (Kf (KQ hos hds (x:=.none) rfl (Kk ?_)))))));refine Kf (slicePart_none ?_);show J5 _ _ (if((1:Int)==0)=true then _ else _) _ _ s;rw[LG (by decide)];refine Kf (jz pl (Kf (jz pu (Kf (Kk ?_)))));show J5 _ _ (match Builtin.Slice.sliceAdjust lo hi 1 (n:Int)with|(lo,hi)=>pure (lo,(1:Int),Builtin.Slice.slicePlaces lo hi 1)) _ _ s;rw[HN lo hi n];show J5 _ _ (pure (((aP n 0 lo:Nat):Int),(1:Int),Builtin.Slice.slicePlaces ((aP n 0 lo:Nat):Int) ((aP n n hi:Nat):Int) 1)) _ _ s;rw[HM];exact Kk h
def Gx(xs:Array Value)(i k:Nat):((QI k).filterMap λ(m:Nat)=>xs[((i:Int)+(m:Int)*1).toNat]?).toArray=((xs.toList.drop i).take k).toArray:=by
 have e:(λ(m:Nat)=>xs[((i:Int)+(m:Int)*1).toNat]?)=λm=>xs[i+m]?:=by
  funext m;have:((i:Int)+(m:Int)*1).toNat=i+m:=by lia
  rw[this]
 rw[e];have:=pick_run xs i k;rw[List.filterMap_map]at this;have e2:((λx=>xs[x]?) ∘ λx=>i+x)=λm=>xs[i+m]?:=rfl;rw[e2]at this;rw[this]
def b7 {lo:Option Int}(ht:IsTup s.heap t items)(hs:s.heap.IsSliceOf sl vl vu .none)(pl:KP vl lo)(pu:KP vu hi)(hw:¬(aP items.size 0 lo=0/\aP items.size items.size hi=items.size))(h:Q (.ref s.heap.objs.size) {s with heap:=s.heap.push {cls:=.type "tuple",data:=.seq ((items.toList.drop (aP items.size 0 lo)).take (aP items.size items.size hi-aP items.size 0 lo)).toArray} })(hsz:items.size<=sizeLine):J5 (J6 prog w) A (KR (.ref t) (.ref sl)) Q E s:=by
 have htake:sizeOk (.seq ((items.toList.drop (aP items.size 0 lo)).take (aP items.size items.size hi-aP items.size 0 lo)).toArray):=by
  show((items.toList.drop (aP items.size 0 lo)).take (aP items.size items.size hi-aP items.size 0 lo)).toArray.size<=sizeLine;rw[Qm,Vi,List.length_drop,WG];lia
 have hj:aP items.size items.size hi<=items.size:=Db _ _ (Ql _) hi;obtain⟨os,hos,hcs,hds⟩:=id hs;have hTs:s.TypeIs (.ref sl) "slice":=⟨os,hos,hcs⟩;unfold KR
 try with_reducible refine Kg ?_
 first|refine Kf (Kk ?_)|skip
 refine Kf (wpAny_sequenceKey ht.typeIs (by decide) ?_);refine Kf (wpAny_callSpecial?_slot (name:=Str.ofString "__getitem__") ht.typeIs PyProof.Rows.slot_tuple_getitem
  (wpAny_call_entry PyProof.Rows.slot_tuple_getitem ht.typeIs entry_tuple_getitem ?_ (args_tuple_getitem _ _)))
 show J5 _ _ (Builtin.Tuple.tupleItemsOf (.ref t) >>= _) _ _ s;refine Kf (tupleItemsOf_ ht ?_);refine Kf (wpAny_typeOf hTs ?_);rw[LF (by decide)];refine Kf (kF hs pl pu ?_);have hno:¬((((aP items.size 0 lo:Nat):Int)==0&&(1:Int)==1&&(aP items.size items.size hi-aP items.size 0 lo)==items.size)=true):=by
  intro q;rw[Qj,Qj]at q;have q1:((aP items.size 0 lo:Nat):Int)=0:=eq_of_beq q.1.1;have q2:aP items.size items.size hi-aP items.size 0 lo=items.size:=eq_of_beq q.2;exact hw ⟨by lia,by lia⟩
 show J5 _ _ (if(((aP items.size 0 lo:Nat):Int)==0&&(1:Int)==1&&(aP items.size items.size hi-aP items.size 0 lo)==items.size)=true then _ else _) _ _ s;rw[LG hno,Gx]
 first
  |exact Kf (m:=Builtin.Tuple.tupleExact _) (KS (Kk ⟨_,rfl,Kk h⟩) htake)
  |exact Kf (m:=Builtin.Tuple.tupleExact _) (KS (Kf (Kk (Kk ⟨_,rfl,Kk h⟩))) htake)
  |exact Kf (Kf (m:=Builtin.Tuple.tupleExact _) (KS (Kk (Kk ⟨_,rfl,Kk h⟩)) htake))
  |exact Kf (Kf (m:=Builtin.Tuple.tupleExact _) (KS (Kk ⟨_,rfl,Kk h⟩) htake))
end
end HT
namespace L2
open PySem PySem.Spec PyProof.Rows
abbrev TO:=St->Hp->(Option Int->Hp->Prop)->Prop
noncomputable def PO(X:Cx)(e:Option Expr)(t:TO):Prop:=
 ∀(pins:List (Addr×Obj)) (s:Shared) (σ:St) (H:Hp) (Q:Option Int->Hp->Prop),Inv X pins σ H s->t σ H Q ->
  J5 (J6 X.prog X.w) X.A (evalPart e X.env) (λu s'=>∃o H',Inv X pins σ H' s'/\KP u o/\Q o H') X.xe s
noncomputable def ET:TO:=λ_ H Q=>Q none H
noncomputable def BG(t:TE):TO:=λσ H Q=>t σ H λx H1=>∃i,x=.int i/\Q (some i) H1
section
variable{X:Cx}{e:Expr}{te:TE}{lo hi:Option Expr}{tl th:TO}{pos p2:Pos}
def ES:PO X none ET:=by
 intro pins s σ H Q I h;rw[evalPart_none];exact Kk ⟨none,H,I,.none,h⟩
def ER(h:PE X e te):PO X (some e) (BG te):=by
 intro pins s σ H Q I hw;rw[evalPart_some];refine aY (h pins s σ H _ I hw) λu s1 ⟨x,H1,I1,r1,q1⟩=>?_;obtain⟨i,rfl,q⟩:=q1;obtain⟨t,rfl⟩:=r1;exact⟨some i,H1,I1,.int i t,q⟩
noncomputable def fi(X:Cx)(r:V->Option Int->Option Int->Hp->VK->Prop):Prop:=
 ∀(pins:List (Addr×Obj)) (s:Shared) (σ:St) (H:Hp) (x:V) (v vl vu:Value) (lo hi:Option Int) (sl:Addr) (Q:VK),Inv X pins σ H s->RelV x v->s.heap.IsSliceOf sl vl vu .none->KP vl lo->KP vu hi->r x lo hi H Q ->
  ∃T id,typeLookup (.type T) "__getitem__"=pure (some (.builtin id))/\s.TypeIs v T/\J5 (J6 X.prog X.w) X.A (KR v (.ref sl)) (EP X pins σ Q) X.xe s
def fi.or{r r':V->Option Int->Option Int->Hp->VK->Prop}(h:fi X r)(h':fi X r'):fi X (λx lo hi H Q=>r x lo hi H Q\/r' x lo hi H Q):=by
 intro pins s σ H x v vl vu lo hi sl Q I rx hs pl pu q;rcases q with q|q
 .exact h pins s σ H x v vl vu lo hi sl Q I rx hs pl pu q
 .exact h' pins s σ H x v vl vu lo hi sl Q I rx hs pl pu q
noncomputable def HV(r:V->Option Int->Option Int->Hp->VK->Prop)(te:TE)(tl th:TO):TE:=λσ H Q=>te σ H λx H1=>tl σ H1 λl H2=>th σ H2 λu H3=>r x l u H3 Q
def Gw (hr:fi X r)(he:PE X e te)(hl:PO X lo tl)(hu:PO X hi th):PE X (.Subscript e (.Slice lo hi none p2) pos) (HV r te tl th):=by
 intro pins s σ H Q I h;refine Subscript_ (aY (he pins s σ H _ I h) λv s1 ⟨x,H1,I1,r1,q1⟩=>?_);refine wpAny_Slice (aY (hl pins s1 σ H1 _ I1 q1) λvl s2 ⟨l,H2,I2,pl,q2⟩=>aY (hu pins s2 σ H2 _ I2 q2) λvu s3 ⟨u,H3,I3,pu,q3⟩=>?_);rw[evalPart_none];refine Kk ?_;have I4:Inv X pins σ H3 {s3 with heap:=s3.heap.push {cls:=.type "slice",data:=.fields #[vl,vu,.none]} }:=I3.kept (t':=s3.toks) λb ob q=>Qi _ q;obtain⟨T,id,hT,ht,hg⟩:=hr pins {s3 with heap:=s3.heap.push {cls:=.type "slice",data:=.fields #[vl,vu,.none]} } σ H3 x v vl vu l u s3.heap.objs.size Q I4 r1 (Heap.IsSliceOf.new ..) pl pu q3;show J5 (J6 X.prog X.w) X.A (subscriptTail e (.Slice lo hi none p2) v (.ref s3.heap.objs.size)) (EP X pins σ Q) X.xe {s3 with heap:=s3.heap.push {cls:=.type "slice",data:=.fields #[vl,vu,.none]} };exact tail_any (ops:=[.ref s3.heap.objs.size,v]) ht hT hg (by with_unfolding_all rfl)
noncomputable def gj(xs:List V)(lo hi:Option Int):List V:=(xs.drop (HT.aP xs.length 0 lo)).take (HT.aP xs.length xs.length hi-HT.aP xs.length 0 lo)
def jb(xs:List V)(lo hi:Option Int):(gj xs lo hi).length<=xs.length:=by
 unfold gj;rw[Vi,List.length_drop];lia
noncomputable def pH(K:Qb):V->Option Int->Option Int->Hp->VK->Prop:=λx lo hi H Q=>∃a xs,x=.ref a/\bT K H a xs /\
 ¬(HT.aP xs.length 0 lo=0/\HT.aP xs.length xs.length hi=xs.length)/\∀p,H p=none->Q (.ref p) (aK H p (.tup (gj xs lo hi)))
def Da:fi X (pH X.K):=by
 intro pins s σ H x v vl vu lo hi sl Q I rx hs pl pu h;obtain⟨a,xs,rfl,hx,hw,q⟩:=h;cases rx;obtain⟨its,r,ht,hz⟩:=I.tuple hx;have hlen:its.toArray.size=xs.length:=by rw[Qm];exact r.length.symm
 refine⟨"tuple",_,PyProof.Rows.slot_tuple_getitem.lookup,ht.typeIs,?_⟩;refine HT.b7 ht hs pl pu (by rw[hlen];exact hw) ?_ (by rw[hlen];exact hz);rw[hlen];refine⟨.ref s.heap.objs.size,_,I.laid (t':=s.toks) (o:=.tup (gj xs lo hi)) (λb ob q=>Qi _ q) (Ql _) ?_,rfl,q _ (I.hok.fresh (Ql _))⟩;exact⟨Qo (jb xs lo hi) hz,_,(r.drop (HT.aP xs.length 0 lo)).take (HT.aP xs.length xs.length hi-HT.aP xs.length 0 lo),IsTup.new _ _⟩
noncomputable def rT(K:Qb):R2:=λx y H Q=>∃a b xs ys,x=.ref a/\y=.ref b/\bT K H a xs/\bT K H b ys/\xs≠[]/\xs.length+ys.length<=sizeLine /\
 (ys=[]->Q (.ref a) H)/\(ys≠[]->∀p,H p=none->Q (.ref p) (aK H p (.tup (xs++ys))))
def az.nil_iff (r:az xs us):us=[]↔xs=[]:=by
 cases r with
 |nil=>simp
 |cons _ _=>simp
def dZ:bP X (Kn .Add) (rT X.K):=by
 intro pins s σ H x y v u Q I rx ry h;obtain⟨a,b,xs,ys,rfl,rfl,ha,hb,hx,hz,q1,q2⟩:=h;cases rx;cases ry;obtain⟨its,r1,p1,_⟩:=I.tuple ha;obtain⟨its2,r2,p2,_⟩:=I.tuple hb;refine HT.eg p1 p2 (λz=>hx (r1.nil_iff.mp z)) (λz=>⟨.ref a,H,I,rfl,q1 (r2.nil_iff.mp z)⟩) (λz=>?_) (by rw[<-r1.length,<-r2.length];exact hz);refine⟨.ref s.heap.objs.size,_,I.laid (t':=s.toks) (o:=.tup (xs++ys)) (λb ob q=>Qi _ q) (Ql _) ?_,rfl,q2 (λw=>z (r2.nil_iff.mpr w)) _ (I.hok.fresh (Ql _))⟩;exact⟨by rw[Q0];exact hz,_,r1.append r2,IsTup.new _ _⟩
end
noncomputable def fw(n:Nat)(i:Int):Option Nat:=if 0<=i then(if i<n then some i.toNat else none)else if -(n:Int)<=i then some (i+n).toNat else none
noncomputable def ff{α:Type}(xs:List α)(i:Int):Option α:=(fw xs.length i).bind λj=>xs[j]?
def ud (h:fw n i=some j):KT i n=some j/\j<n/\-(n:Int)<=i/\i<n:=by
 unfold fw at h;by_cases h0:0<=i
 .rw[LF h0]at h;by_cases h1:i<n
  .rw[LF h1]at h;have e:i.toNat=j:=Option.some.inj h;exact⟨by rw[KU h0 h1,e],by lia,by lia,h1⟩
  .rw[LG h1]at h;cases h
 .rw[LG h0]at h;by_cases h1:-(n:Int)<=i
  .rw[LF h1]at h;have e:(i+n).toNat=j:=Option.some.inj h;exact⟨by rw[KW (by lia) h1,e],by lia,h1,by lia⟩
  .rw[LG h1]at h;cases h
def qf (h:ff xs i=some v):∃j,KT i xs.length=some j/\xs[j]?=some v/\j<xs.length/\-(xs.length:Int)<=i/\i<xs.length:=by
 unfold ff at h;cases e:fw xs.length i with
 |none=>rw[e]at h;cases h
 |some j=>
  rw[e]at h;obtain⟨h1,h2,h3,h4⟩:=ud e;exact⟨j,h1,h,h2,h3,h4⟩
noncomputable def uc(b:Expr):Prop:=∀o i,subscripted b false o i=operate [o,i] (KR o i)
noncomputable def ej(X:Cx)(r:R2):Prop:=
 ∀(value slice:Expr) (pins:List (Addr×Obj)) (s:Shared) (σ:St) (H:Hp) (x y:V) (v u:Value) (Q:VK),Inv X pins σ H s->RelV x v->RelV y u->r x y H Q ->
  subscripted slice false v u=operate [v,u] (KR v u)->J5 (J6 X.prog X.w) X.A (subscriptTail value slice v u) (EP X pins σ Q) X.xe s
noncomputable def oX(X:Cx)(id:String)(r:V->List V->Hp->VK->Prop):Prop:=
 ∀(pins:List (Addr×Obj)) (s:Shared) (σ:St) (H:Hp) (x:V) (xs:List V) (v:Value) (us:List Value) (Q:VK),Inv X pins σ H s->RelV x v->az xs us->r x xs H Q ->
  J5 (J6 X.prog X.w) X.A (call (.builtin id) (v::us)) (EP X pins σ Q) X.xe s
section
variable{X:Cx}{a b:Expr}{ta tb:TE}{pos:Pos}
def ej.or{r r':R2}(h:ej X r)(h':ej X r'):ej X (λx y H Q=>r x y H Q\/r' x y H Q):=by
 intro value slice pins s σ H x y v u Q I rx ry q hs;rcases q with q|q
 .exact h value slice pins s σ H x y v u Q I rx ry q hs
 .exact h' value slice pins s σ H x y v u Q I rx ry q hs
def BF (hr:ej X r)(ha:PE X a ta)(hb:PE X b tb)(hs:uc b):PE X (.Subscript a b pos) (fV r ta tb):=by
 intro pins s σ H Q I h;exact Subscript_ (lQ ha hb I h λv u s2 x y H2 I2 rx ry q=>hr a b pins s2 σ H2 x y v u Q I2 rx ry q (hs _ _))
noncomputable def pG(K:Qb):R2:=λx y H Q=>∃p xs i v,x=.ref p/\y=.int i/\bG K H p xs/\ff xs i=some v/\Q v H
noncomputable def pF(K:Qb):R2:=λx y H Q=>∃p xs i v,x=.ref p/\y=.int i/\bT K H p xs/\ff xs i=some v/\Q v H
noncomputable def pE:R2:=λx y H Q=>∃z i c,x=.str z/\y=.int i/\z.length<=sizeLine/\ff z.cps.toList i=some c/\Q (.str ⟨#[c]⟩) H
def ee:ej X (pG X.K):=by
 intro value slice pins s σ H x y v u Q I rx ry h hs;obtain⟨p,xs,i,z,rfl,rfl,hq,he,q⟩:=h;cases rx;obtain⟨t,rfl⟩:=ry;obtain⟨its,r,pl,hz⟩:=I.list hq;obtain⟨j,h1,h2,h3,h4,h5⟩:=qf he;obtain⟨w,ew,rw'⟩:=r.get h2;have hl:=r.length;have hn:=jy;have fin:EP X pins σ Q w s:=⟨z,H,I,rw',q⟩;by_cases h0:0<=i
 .have hj:i.toNat=j:=by
   rw[KU h0 h5]at h1;exact Option.some.inj h1
  exact item_listR pl.isList h0 (by lia) (by rw[hj];simpa using ew) fin hs
 .have hj:(i+(its.toArray.size:Int)).toNat=j:=by
   rw[KW (by lia) h4]at h1;rw[Qm,<-hl];exact Option.some.inj h1
  exact KY (x:=w) pl.isList.typeIs slot_list_getitem.lookup
   (wpAny_getItem_list_neg (Q:=λr s'=>r=w/\EP X pins σ Q r s') pl.isList (by lia) (by rw[Qm]<;>lia) (by lia) (by rw[hj];simpa using ew) ⟨rfl,fin⟩) hs
def eZ:ej X (pF X.K):=by
 intro value slice pins s σ H x y v u Q I rx ry h hs;obtain⟨p,xs,i,z,rfl,rfl,hq,he,q⟩:=h;cases rx;obtain⟨t,rfl⟩:=ry;obtain⟨its,r,pl,hz⟩:=I.tuple hq;obtain⟨j,h1,h2,h3,h4,h5⟩:=qf he;obtain⟨w,ew,rw'⟩:=r.get h2;have hl:=r.length;have hn:=jy;have fin:EP X pins σ Q w s:=⟨z,H,I,rw',q⟩;exact KY (x:=w) pl.typeIs slot_tuple_getitem.lookup
  (getItem_tuple (j:=j) (Q:=λr s'=>r=w/\EP X pins σ Q r s') pl (by lia) (by lia) (by rw[Qm,<-hl];exact h1) (by simpa using ew) ⟨rfl,fin⟩) hs
def C9:ej X pE:=by
 intro value slice pins s σ H x y v u Q I rx ry h hs;obtain⟨z,i,c,rfl,rfl,hz,he,q⟩:=h;obtain⟨t,rfl⟩:=rx;obtain⟨t',rfl⟩:=ry;obtain⟨j,h1,h2,h3,h4,h5⟩:=qf he;have hl:z.cps.toList.length=z.length:=by simp[Str.length]
 rw[hl]at h1 h4 h5;have hn:=jy;exact tail_any (typeIs_str s z t) slot_str_getitem.lookup (getItem_str (c:=c) (by
  have e1:decide (i < -(2^63:Int))=false:=LC (by lia);have e2:decide (i ≥ 2^63)=false:=LC (by lia);rw[e1,e2,Bool.or_false]) (by rw[h1];simpa using h2) ⟨.str ⟨#[c]⟩,H,I.tok _,⟨_,rfl⟩,q⟩) hs
noncomputable def Ab(K:Qb):R2:=λx y H Q=>pG K x y H Q\/pF K x y H Q\/pE x y H Q
def C8:ej X (Ab X.K):=ee.or (eZ.or C9)
def HL(its:List Value)(n j:Nat)(u:Value):Obj.mapSeq (·.setIfInBounds j u) {cls:=.type "list",data:=.seq its.toArray n}={cls:=.type "list",data:=.seq (its.set j u).toArray n}:=by
 simp[Obj.mapSeq]
theorem Inv.lst (I:Inv X pins σ H s)(h:H p=some (.lst xs)):
  ∃(its:List Value) (n:Nat),az xs its/\s.heap.get? p=some {cls:=.type "list",data:=.seq its.toArray n}/\xs.length<=sizeLine:=by
 obtain⟨z,its,n,r,e⟩:=I.hok p _ h;exact⟨its,n,r,e,z⟩
def Inv.lstUpd{pins:List (Addr×Obj)}{σ:St}{H:Hp}{s:Shared}{p:Addr}{xs ys:List V}{its its':List Value}{n n':Nat}{f:Obj->Obj}(I:Inv X pins σ H s)(h:H p=some (.lst xs))
  (ho:s.heap.get? p=some {cls:=.type "list",data:=.seq its.toArray n}) (hf:f {cls:=.type "list",data:=.seq its.toArray n}={cls:=.type "list",data:=.seq its'.toArray n' }) (r:az ys its') (hz:ys.length<=sizeLine) (t:Nat) :
  Inv X pins σ (aK H p (.lst ys)) {s with heap:=s.heap.update p f,toks:=t}:=by
 have e:(s.heap.update p f).get? p=some {cls:=.type "list",data:=.seq its'.toArray n' }:=by
  rw[WD f ho (by rw[hf]<;>rfl),hf]
 refine I.write (x:=p) (e:=p) (by rw[h];trivial) (.inl rfl) (λb u hb q=>(Q6 _ _ (Ne.symm hb)).trans q) ⟨_,e⟩ ?_;exact⟨hz,its',n',r,e⟩
noncomputable def me:V->V->V->Hp->(Hp->Prop)->Prop:=λo i v H Q=>∃p xs k j,o=.ref p/\i=.int k/\H p=some (.lst xs)/\fw xs.length k=some j/\Q (aK H p (.lst (xs.set j v)))
def Gv:pN X me:=by
 intro pins s σ H o i v ov iv u Q I ro ri rv h;obtain⟨p,xs,k,j,rfl,rfl,hp,hj,q⟩:=h;cases ro;obtain⟨t,rfl⟩:=ri;obtain⟨its,n,r,ho,hz⟩:=I.lst hp;obtain⟨h1,h2,h3,h4⟩:=ud hj;have hl:=r.length;have hn:=jy;have I':Inv X pins σ (aK H p (.lst (xs.set j v))) {s with heap:=s.heap.update p (Obj.mapSeq (·.setIfInBounds j u))} :=
  I.lstUpd hp ho (HL its n j u) (r.set rv j) (by rw[Wo];exact hz) s.toks
 by_cases h0:0<=k
 .have hk:k.toNat=j:=by
   rw[KU h0 h4]at h1;exact Option.some.inj h1
  exact PySem.W.ki_setAt ho h0 (by lia) (by rw[Qm,<-hl];exact h4) (by rw[hk];exact⟨_,I',q⟩)
 .have hk:(k+(its.toArray.size:Int)).toNat=j:=by
   rw[KW (by lia) h3]at h1;rw[Qm,<-hl];exact Option.some.inj h1
  exact PySem.W.ki_setBack ho (by lia) (by rw[Qm,<-hl];exact h3) (by lia) (by rw[hk];exact⟨_,I',q⟩)
def qg(lo hi:Option Int)(n:Nat):(KZ lo hi none n).1=((HT.aP n 0 lo:Nat):Int)/\(KZ lo hi none n).2.1=((HT.aP n n hi:Nat):Int)/\(KZ lo hi none n).2.2=1:=by
 refine⟨?_,?_,rfl⟩
 .cases lo with
  |none=>simp[KZ,HT.aP]
  |some i=>
   simp only[KZ,HT.aP,Option.getD_none,show(1:Int) > 0 by decide,if_true];by_cases h:i<0
   .simp only[h,if_true]<;>lia
   .simp only[h,if_false]<;>lia
 .cases hi with
  |none=>simp[KZ,HT.aP]
  |some i=>
   simp only[KZ,HT.aP,Option.getD_none,show(1:Int) > 0 by decide,if_true];by_cases h:i<0
   .simp only[h,if_true]<;>lia
   .simp only[h,if_false]<;>lia
def gl(its:List Value)(lo hi:Option Int):slicePick its.toArray lo hi none=((its.drop (HT.aP its.length 0 lo)).take (HT.aP its.length its.length hi-HT.aP its.length 0 lo)).toArray:=by
 obtain⟨h1,h2,h3⟩:=qg lo hi its.toArray.size;unfold slicePick;rw[h1,h2,h3];simp only[sliceRange_one,pick_run,Qm]<;>rfl
noncomputable def lO(K:Qb):V->Option Int->Option Int->Hp->VK->Prop:=λx lo hi H Q=>∃a xs,x=.ref a/\bG K H a xs/\∀p,H p=none->Q (.ref p) (aK H p (.lst (gj xs lo hi)))
def dY:fi X (lO X.K):=by
 intro pins s σ H x v vl vu lo hi sl Q I rx hs pl pu h;obtain⟨a,xs,rfl,hx,q⟩:=h;cases rx;obtain⟨its,r,ht,hz⟩:=I.list hx;have hlen:=r.length;refine⟨"list",_,slot_list_getitem.lookup,ht.isList.typeIs,?_⟩;refine wpAny_getItem_list_slice ht.isList hs pl pu .none (by simp) ?_ (by rw[Qm]<;>lia);rw[gl,<-hlen];refine⟨.ref s.heap.objs.size,_,I.laid (t':=s.toks) (o:=.lst (gj xs lo hi)) (λb ob q=>Qi _ q) (Ql _) ?_,rfl,q _ (I.hok.fresh (Ql _))⟩;exact⟨Qo (jb xs lo hi) hz,_,0,(r.drop (HT.aP xs.length 0 lo)).take (HT.aP xs.length xs.length hi-HT.aP xs.length 0 lo),QR _ rfl⟩
def qh:aS X (.builtin "len") (λxs H Q=>∃p ys,xs=[.ref p]/\(bG X.K H p ys\/bT X.K H p ys)/\Q (.int ys.length) H):=by
 intro pins s σ H xs us Q I r h;obtain⟨p,ys,rfl,hq,q⟩:=h;obtain⟨u,rfl,rx⟩:=vN r;cases rx;have hn:=jy;rcases hq with hq|hq
 .obtain ⟨its,r',pl,hz⟩:=I.list hq;have hlen:=r'.length;exact Calls.call_len_list pl.isList (by simp only[Qm]<;>lia) ⟨.int ys.length,H,I.tok _,⟨s.toks+1,by rw[Qm,hlen]⟩,q⟩
 .obtain ⟨its,r',pl,hz⟩:=I.tuple hq;have hlen:=r'.length;exact len_tuple pl (by simp only[Qm]<;>lia) ⟨.int ys.length,H,I.tok _,⟨s.toks+1,by rw[Qm,hlen]⟩,q⟩
def qi:aS X (.type "list") (λxs H Q=>∃p ys,xs=[.ref p]/\(bG X.K H p ys\/bT X.K H p ys)/\∀l,H l=none->Q (.ref l) (aK H l (.lst ys))):=by
 intro pins s σ H xs us Q I r h;obtain⟨p,ys,rfl,hq,q⟩:=h;obtain⟨u,rfl,rx⟩:=vN r;cases rx;have fin:∀(its:List Value),az ys its->ys.length<=sizeLine->∀(h':JU) (c':Nat),(∀b o',s.heap.get? b=some o'->h'.get? b=some o') ->
   h'.get? s.heap.objs.size=some {cls:=.type "list",dict:=none,data:=.seq its.toArray c',slots:=#[]}->EP X pins σ Q (.ref s.heap.objs.size) {s with heap:=h' }:=λits r' hz h' c' kp e=>
  ⟨.ref s.heap.objs.size,_,I.laid (t':=s.toks) kp (Ql _) (show bc X.prog X.w _ h' _ (.lst ys)from⟨hz,its,c',r',e⟩),rfl,q _ (I.hok.fresh (Ql _))⟩
 rcases hq with hq|hq
 .obtain ⟨its,r',pl,hz⟩:=I.list hq;have hlen:=r'.length;obtain⟨o,ho,hc,n,hd⟩:=pl.isList;exact call_list_seq p (.inl rfl) ho hc hd (λh' c' kp e=>fin its r' hz h' c' kp e) (by simp only[Qm]<;>lia)
 .obtain ⟨its,r',pl,hz⟩:=I.tuple hq;have hlen:=r'.length;obtain⟨o,ho,hc,n,hd⟩:=pl;exact call_list_seq p (.inr rfl) ho hc hd (λh' c' kp e=>fin its r' hz h' c' kp e) (by simp only[Qm]<;>lia)
def gm:aS X (.type "tuple") (λxs H Q=>∃p ys,xs=[.ref p]/\((bG X.K H p ys/\∀l,H l=none->Q (.ref l) (aK H l (.tup ys)))\/(bT X.K H p ys/\Q (.ref p) H))):=by
 intro pins s σ H xs us Q I r h;obtain⟨p,ys,rfl,h⟩:=h;obtain⟨u,rfl,rx⟩:=vN r;cases rx;rcases h with⟨hq,q⟩|⟨hq,q⟩
 .obtain ⟨its,r',pl,hz⟩:=I.list hq;have hlen:=r'.length;refine call_tuple_list pl.isList (λh' kp=>?_) (by simp only[Qm]<;>lia);have I1:Inv X pins σ H {s with heap:=h' }:=I.kept (t':=s.toks) kp;have I2:Inv X pins σ (aK H h'.objs.size (.tup ys)) {s with heap:=h'.push {cls:=.type "tuple",data:=.seq its.toArray} } :=
   I1.laid (t':=s.toks) (λb o e=>Qi _ e) (Ql _) (show bc X.prog X.w _ _ _ (.tup ys)from⟨hz,its,r',IsTup.new _ _⟩)
  exact⟨.ref h'.objs.size,_,I2,rfl,q _ (I1.hok.fresh (Ql _))⟩
 .obtain ⟨its,r',pl,hz⟩:=I.tuple hq;exact call_tuple_same pl ⟨.ref p,H,I,rfl,q⟩
noncomputable def iR(K:Qb)(T:String)(x:V)(H:Hp):Prop:=match x with
 |.str _=>T="str"
 |.int _=>T="int"
 |.ref p=>(T="list" /\ ∃xs,bG K H p xs)\/(T="tuple" /\ ∃o,K.lookup p=some o/\o.cls=.type "tuple" /\ o.dict=none) \/
   (T="dict" /\ ((∃kvs,H p=some (.dK kvs))\/∃kvs,H p=some (.dT kvs)))\/(T="set" /\ ∃S n,H p=some (.set S n))
 |_=>False
def sV (I:Inv X pins σ H s)(r:RelV x v)(ty:iR X.K T x H):
  s.TypeIs v T/\∀a,v=.ref a->∃ob,s.heap.get? a=some ob/\ob.dict=none:=by
 cases x with
 |str z=>
  obtain⟨t,rfl⟩:=r;cases(show T="str" from ty);exact⟨typeIs_str s z t,λ_ e=>nomatch e⟩
 |int i=>
  obtain⟨t,rfl⟩:=r;cases(show T="int" from ty);exact⟨typeIs_int s i t,λ_ e=>nomatch e⟩
 |ref p=>
  cases r;rcases ty with⟨rfl,xs,hq⟩|⟨rfl,o,hk,hc,hd⟩|⟨rfl,hk⟩|⟨rfl,S,n,hk⟩
  .obtain ⟨its,_,pl,_⟩:=I.list hq;refine⟨pl.isList.typeIs,λa e=>?_⟩;cases e;obtain⟨o,n,e,c,hd,_⟩:=pl;exact⟨o,e,hd⟩
  .refine ⟨⟨o,I.kIn p o hk,hc⟩,λa e=>?_⟩;cases e;exact⟨o,I.kIn _ o hk,hd⟩
  .have z:∃o,s.heap.get? p=some o/\o.ExactDict:=by
    rcases hk with⟨kvs,hk⟩|⟨kvs,hk⟩
    .obtain ⟨_,_,_,_,o,_,_,e,ex,_⟩:=I.hok p _ hk;exact⟨o,e,ex⟩
    .obtain ⟨_,_,_,_,o,_,_,e,ex,_⟩:=I.hok p _ hk;exact⟨o,e,ex⟩
   obtain⟨o,e,ex⟩:=z;refine⟨⟨o,e,ex.1⟩,λa e2=>?_⟩;cases e2;exact⟨o,e,ex.2.1⟩
  .obtain ⟨o,_,_,_,e,ex,_⟩:=I.hok p _ hk;refine⟨⟨o,e,ex.1⟩,λa e2=>?_⟩;cases e2;exact⟨o,e,ex.2.1⟩
 |_=>exact False.elim ty
noncomputable def nq(K:Qb)(T:String)(r:V->List V->Hp->VK->Prop)(to:TE):TE:=λσ H Q=>to σ H λx H1=>iR K T x H1/\r x [] H1 Q
noncomputable def HX(K:Qb)(T:String)(r:V->List V->Hp->VK->Prop)(to:TE)(t:TA):TE:=λσ H Q=>to σ H λx H1=>iR K T x H1/\t σ H1 λxs H2=>r x xs H2 Q
variable{o e:Expr}{es:List Expr}{to:TE}{t:TA}{name:Str}{apos cpos:Pos}{T id:String}{r:V->List V->Hp->VK->Prop}
def C7(pa:PlainAttrs T)(slot:Slot T name id)(hty:typeOf (.builtin id)=pure (.type "method_descriptor"))(hm:oX X id r)(ho:PE X o to)
  (hbase:Kt o name X.env (eval o X.env)=eval o X.env:=by rfl) (hline:(apos.endLine==cpos.line)=true:=by rfl):PE X (.Call (.Attribute o name apos) [] [] cpos) (nq X.K T r to):=by
 intro pins s σ H Q I h;refine wpAny_Call_method0_late hbase hline (aY (ho pins s σ H _ I h) λv s1 ⟨x,H1,I1,r1,ty,q1⟩=>?_);obtain⟨h1,h2⟩:=sV I1 r1 ty;exact⟨T,id,pa,slot,hty,h1,h2,Calls.callWith_builtin rfl (PySem.evalArgs_none (hm pins s1 σ H1 x [] v [] Q I1 r1 .nil q1))⟩
def BE(pa:PlainAttrs T)(slot:Slot T name id)(hty:typeOf (.builtin id)=pure (.type "method_descriptor"))(hm:oX X id r)(ho:PE X o to)(ha:PA X (e::es) t)
  (hbase:Kt o name X.env (eval o X.env)=eval o X.env:=by rfl)
  (hfew:((J7 cpos (J8 (e::es) X.env)).all (λx=>! x.1)&&(backToKw cpos (K4 [] X.env)).all (λx=>x.1.isSome)
   && decide ((e::es).length+([]:List K5).length+(if([]:List K5).isEmpty then 0 else 1)<30))=true:=by rfl)
  (hline:(apos.endLine==cpos.line)=true:=by rfl) (hs:J8 (e::es) X.env=(false,eval e X.env)::J8 es X.env:=by rfl) (hplain:(J7 cpos (J8 es X.env)).any (·.1)=false:=by rfl) :
  PE X (.Call (.Attribute o name apos) (e::es) [] cpos) (HX X.K T r to t):=by
 intro pins s σ H Q I h;refine wpAny_Call_method_late hbase hfew hline rfl (aY (ho pins s σ H _ I h) λv s1 ⟨x,H1,I1,r1,ty,q1⟩=>?_);obtain⟨h1,h2⟩:=sV I1 r1 ty;refine⟨T,id,pa,slot,hty,h1,h2,?_⟩;have hA:=ha cpos pins s1 σ H1 _ I1 q1;rw[hs]at hA ⊢;refine Calls.callWith_builtin (by show(false || (J7 cpos (J8 es X.env)).any (·.1))=false;rw[hplain]<;>rfl) (Calls.evalArgs_plain ?_);exact aY hA λus s2 ⟨vs,H2,I2,r2,q2⟩=>hm pins s2 σ H2 x vs v us Q I2 r1 r2 q2
end
noncomputable def ii(X:Cx)(id:String)(r:V->List V->Hp->VK->Prop):Prop:=
 ∀(pins:List (Addr×Obj)) (s:Shared) (σ:St) (H:Hp) (x:V) (xs:List V) (v:Value) (us:List Value) (Q:VK),Inv X pins σ H s->RelV x v->az xs us->r x xs H Q ->
  J5 (J6 X.prog X.w) X.A (call (.builtin id) (v::us)) (EP X pins σ Q) X.xe s
def az.one:∀{x:V}{us:List Value},az [x] us->∃u,us=[u]/\RelV x u
 |_,_,.cons r .nil=>⟨_,rfl,r⟩
def az.zero:∀{us:List Value},az [] us->us=[]
 |_,.nil=>rfl
theorem az.dropLast{xs:List V}{us:List Value}(h:az xs us):az xs.dropLast us.dropLast:=by
 induction h with
 |nil=>exact .nil
 |cons r t ih=>
  cases t with
  |nil=>exact .nil
  |cons q t'=>exact .cons r ih
theorem az.eraseIdx:∀{xs:List V}{us:List Value}(i:Nat),az xs us->az (xs.eraseIdx i) (us.eraseIdx i)
 |_,_,_,.nil=>.nil
 |_,_,0,.cons _ t=>t
 |_,_,i+1,.cons r t=>.cons r (az.eraseIdx i t)
theorem az.reverse{xs:List V}{us:List Value}(h:az xs us):az xs.reverse us.reverse:=by
 induction h with
 |nil=>exact .nil
 |cons r t ih=>rw[Wc,Wc];exact az.append ih (.cons r .nil)
theorem az.rep (h:az xs us):∀k:Nat,az (Qu k xs).flatten (Qu k us).flatten
 |0=>.nil
 |k+1=>by
  rw[QZ,QZ,We,We];exact az.append h (az.rep h k)
def HK{α:Type}(l:List α):l.eraseIdx (l.length-1)=l.dropLast:=by
 induction l with
 |nil=>rfl
 |cons a r ih=>
  cases r with
  |nil=>rfl
  |cons b r=>
   have e:(a::b::r).length-1=((b::r).length-1)+1:=by
    have h1:(a::b::r).length=r.length+2:=rfl;have h2:(b::r).length=r.length+1:=rfl;lia
   rw[e,List.eraseIdx_cons_succ,ih]
   all_goals rfl
theorem gx{α:Type}:∀(l:List α) (i:Nat),(l.eraseIdx i).length<=l.length
 |[],_=>Ql _
 |_::_,0=>WT _
 |_::r,i+1=>Nat.succ_le_succ (gx r i)
theorem gz(its:List Value):∀(k:Nat) (acc:List Value),
  List.foldl (λx1 x2=>x1++x2) acc.toArray (Qu k its.toArray)=(acc++(Qu k its).flatten).toArray
 |0,acc=>by simp
 |k+1,acc=>by
  have e:acc.toArray++its.toArray=(acc++its).toArray:=by simp
  have e2:(acc++its)++(Qu k its).flatten=acc++(Qu (k+1) its).flatten:=by
   rw[QZ,We,WR]
  rw[<-e2,<-gz its k (acc++its),<-e,QZ,List.foldl_cons]
section
variable{X:Cx}{pins:List (Addr×Obj)}{σ:St}{H:Hp}{s:Shared}{l:Addr}{xs ys:List V}
def Inv.lset{its its':List Value}{n:Nat}{f:Array Value->Array Value}{t':Nat}(I:Inv X pins σ H s)(hH:H l=some (.lst xs))
  (e:s.heap.get? l=some {cls:=.type "list",data:=.seq its.toArray n}) (hf:f its.toArray=its'.toArray) (hv:az ys its') (hz:ys.length<=sizeLine) :
  Inv X pins σ (aK H l (.lst ys)) {s with heap:=s.heap.update l (Obj.mapSeq f),toks:=t' }:=by
 have q:=PySem.IsL.update e f;rw[hf]at q;refine I.write (x:=l) (e:=l) (by rw[hH];exact trivial) (.inl rfl) (λb' u hb hu=>(Q6 s.heap (Obj.mapSeq f) (Ne.symm hb)).trans hu) ⟨_,q⟩ ?_;exact⟨hz,its',_,hv,q⟩
def Inv.lnew{its:List Value}{t':Nat}(I:Inv X pins σ H s)(hv:az ys its)(hz:ys.length<=sizeLine):
  Inv X pins σ (aK H s.heap.objs.size (.lst ys)) {s with heap:=s.heap.push {cls:=.type "list",data:=.seq its.toArray},toks:=t' } :=
 I.laid (λ_ _ q=>Qi _ q) (Ql _) ⟨hz,its,0,hv,QR _ rfl⟩
theorem Inv.fresh(I:Inv X pins σ H s):H s.heap.objs.size=none:=I.hok.fresh (Ql _)
def Inv.lstM(I:Inv X pins σ H s)(hH:H l=some (.lst xs)):xs.length<=sizeLine/\∃(its:List Value) (n:Nat),az xs its/\xs.length=its.length/\s.heap.get? l=some {cls:=.type "list",data:=.seq its.toArray n}:=by
 obtain⟨z,its,n,r,e⟩:=I.hok l _ hH;exact⟨z,its,n,r,r.length,e⟩
def Gu (h:n<=sizeLine):Builtin.List.listTooLong n=false:=by
 unfold Builtin.List.listTooLong;exact LC (by lia)
end
section
variable{X:Cx}
noncomputable def EQ:V->List V->Hp->VK->Prop:=λx vs H Q=>∃l xs y,x=.ref l/\vs=[y]/\H l=some (.lst xs)/\xs.length<sizeLine/\Q .non (aK H l (.lst (xs++[y])))
def gA:ii X "list.append" EQ:=by
 intro pins s σ H x vs v us Q I rx rv h;obtain⟨l,xs,y,rfl,rfl,hH,hz,q⟩:=h;cases rx;obtain⟨u,rfl,ru⟩:=rv.one;obtain⟨z,its,n,r,hl,e⟩:=I.lstM hH;refine K6 F.slot_list_append ⟨_,e,rfl⟩ F.entry_list_append (F.args_list_append_2 _ _) (PySem.list_append l its.toArray n u (by rw[Qm];lia)) ⟨e,?_⟩;refine⟨.non,_,I.lset (its':=its++[u]) hH e (by simp) (r.append (.cons ru .nil)) ?_,rfl,q⟩;rw[Q0,List.length_singleton];lia
noncomputable def nF:V->List V->Hp->VK->Prop:=λx vs H Q=>∃l xs y,x=.ref l/\vs=[]/\H l=some (.lst xs)/\xs[xs.length-1]?=some y/\Q y (aK H l (.lst xs.dropLast))
def C6:ii X "list.pop" nF:=by
 intro pins s σ H x vs v us Q I rx rv h;obtain⟨l,xs,y,rfl,rfl,hH,hy,q⟩:=h;cases rx;have hus:=rv.zero;subst hus;obtain⟨z,its,n,r,hl,e⟩:=I.lstM hH;obtain⟨u,hu,ru⟩:=r.get hy;have hy':its.toArray[its.toArray.size-1]?=some u:=by
  show its.toArray[its.length-1]?=some u;rw[<-VA,<-hl];exact hu
 refine K6 F.slot_list_pop ⟨_,e,rfl⟩ F.entry_list_pop (F.args_list_pop_1 _) (MeetsSeq.list_pop_last l its.toArray n u hy' (by rw[Qm];lia)) ⟨e,?_⟩;refine⟨y,_,I.lset (its':=its.dropLast) hH e ?_ r.dropLast ?_,ru,q⟩
 .show its.toArray.eraseIdxIfInBounds (its.toArray.size-1)=its.dropLast.toArray;rw[Qm,Vg,HK]
 .rw[List.length_dropLast];lia
noncomputable def C5:V->List V->Hp->VK->Prop:=λx vs H Q=>∃l xs i k y,x=.ref l/\vs=[.int i]/\H l=some (.lst xs)/\-(2^63)<=i/\i<2^63/\KT i xs.length=some k/\xs[k]?=some y/\Q y (aK H l (.lst (xs.eraseIdx k)))
def Gs:ii X "list.pop" C5:=by
 intro pins s σ H x vs v us Q I rx rv h;obtain⟨l,xs,i,k,y,rfl,rfl,hH,h1,h2,hk,hy,q⟩:=h;cases rx;obtain⟨u,rfl,ru⟩:=rv.one;obtain⟨t,rfl⟩:=ru;obtain⟨z,its,n,r,hl,e⟩:=I.lstM hH;obtain⟨w,hw,rw'⟩:=r.get hy;refine K6 F.slot_list_pop ⟨_,e,rfl⟩ F.entry_list_pop (F.args_list_pop_2 _ _)
  (MeetsSeq.list_pop_at l its.toArray n i t k w (fitsIndex_both h1 h2) (by rw[Qm,<-hl];exact hk) (by rw[<-VA];exact hw) (by rw[Qm];lia)) ⟨e,?_⟩
 refine⟨y,_,I.lset (its':=its.eraseIdx k) hH e ?_ (r.eraseIdx k) ?_,rw',q⟩
 .show its.toArray.eraseIdxIfInBounds k=(its.eraseIdx k).toArray;rw[Vg]
 .have:=gx xs k;lia
noncomputable def Gr:V->List V->Hp->VK->Prop:=λx vs H Q=>∃l xs,x=.ref l/\vs=[]/\H l=some (.lst xs)/\Q .non (aK H l (.lst xs.reverse))
def HJ:ii X "list.reverse" Gr:=by
 intro pins s σ H x vs v us Q I rx rv h;obtain⟨l,xs,rfl,rfl,hH,q⟩:=h;cases rx;have hus:=rv.zero;subst hus;obtain⟨z,its,n,r,hl,e⟩:=I.lstM hH;refine K6 F.slot_list_reverse ⟨_,e,rfl⟩ F.entry_list_reverse (F.args_list_reverse_1 _) (AutoSeq1.list_reverse_list_0 l its.toArray n (by rw[Qm];lia)) ⟨e,?_⟩;refine⟨.non,_,I.lset (its':=its.reverse) hH e (by simp) r.reverse ?_,rfl,q⟩;rw[List.length_reverse];lia
noncomputable def pD:R2:=λx y H Q=>∃l b xs zs,x=.ref l/\y=.ref b/\H l=some (.lst xs)/\H b=some (.lst zs)/\xs.length+zs.length<=sizeLine/\∀p,H p=none->Q (.ref p) (aK H p (.lst (xs++zs)))
def eU:bP X (Kn .Add) pD:=by
 intro pins s σ H x y v u Q I rx ry h;obtain⟨l,b,xs,zs,rfl,rfl,hH,hB,hz,q⟩:=h;cases rx;cases ry;obtain⟨z,its,n,r,hl,e⟩:=I.lstM hH;obtain⟨z2,its2,n2,r2,hl2,e2⟩:=I.lstM hB;refine PySem.P.add_list e e2 ?_ (by rw[Qm,Qm];lia);have ea:its.toArray++its2.toArray=(its++its2).toArray:=by simp
 rw[ea];exact⟨.ref _,_,I.lnew (t':=s.toks) (r.append r2) (by rw[Q0];lia),rfl,q _ I.fresh⟩
noncomputable def rh:R2:=λx y H Q=>∃l k xs,x=.ref l/\y=.int k/\H l=some (.lst xs)/\-(2^63)<=k/\k<2^63/\xs.length*k.toNat<=sizeLine /\
 ∀p,H p=none->Q (.ref p) (aK H p (.lst (Qu k.toNat xs).flatten))
def ub{α:Type}(xs:List α)(k:Nat):(Qu k xs).flatten.length=k*xs.length:=by
 induction k with
 |zero=>simp
 |succ k ih=>rw[QZ,We,Q0,ih,Nat.succ_mul,Nat.add_comm]
def C4:bP X (Kn .Mult) rh:=by
 intro pins s σ H x y v u Q I rx ry h;obtain⟨l,k,xs,rfl,rfl,hH,h1,h2,hz,q⟩:=h;cases rx;obtain⟨t,rfl⟩:=ry;obtain⟨z,its,n,r,hl,e⟩:=I.lstM hH;have hlen:its.toArray.size*k.toNat<=sizeLine:=by rw[Qm,<-hl];exact hz
 have hcap:¬its.toArray.size*k.toNat > (2^63-1)/8:=by
  have:(sizeLine:Nat)<=(2^63-1)/8:=by decide
  lia
 have hfit:¬(! Builtin.List.listFitsIndex k)=true:=by
  rw[fitsIndex_both h1 h2];exact Q3
 have hlong:¬Builtin.List.listTooLong (its.toArray.size*k.toNat)=true:=by
  rw[Gu hlen];exact Q3
 have hnew:List.foldl (λx1 x2=>x1++x2) #[] (Qu (if its.toArray.isEmpty=true then 0 else k.toNat) its.toArray)=(Qu k.toNat its).flatten.toArray:=by
  have f0:∀m:Nat,List.foldl (λx1 x2=>x1++x2) #[] (Qu m its.toArray)=(Qu m its).flatten.toArray:=λm=>by
   have:=gz its m [];rw[Q8]at this;exact this
  rw[f0];cases its with
  |nil=>simp
  |cons a r'=>rw[LG (by simp)]
 refine wpAny_binaryOp_repeat_ref (T:="list") (U:="int") (by decide) ⟨_,e,rfl⟩ (λs'=>typeIs_int s' k t) noFill_list_mul F.fills_int_mul F.slot_int_rmul repeat_list F.slot_int_index.lookup
  (K6 F.slot_int_rmul (typeIs_int s k t) F.entry_int_rmul (F.args_int_rmul_2 _ _) (int___rmul___int_list k t l its.toArray n)
   ⟨e,rfl,⟨_,e,rfl⟩,K6 F.slot_list_mul ⟨_,e,rfl⟩ F.entry_list_mul (F.args_list_mul_2 _ _) (AutoListH.list___mul___list_int_3 l its.toArray n k t hfit hcap hlong) ⟨e,?_⟩⟩)
 rw[hnew];exact⟨.ref _,_,I.lnew (t':=s.toks) (r.rep k.toNat) (by rw[ub,Nat.mul_comm];exact hz),rfl,q _ I.fresh⟩
end
end L2
namespace Att
open PySem PySem.W PySem.Calls PyProof.Rows
def jg:∀(ns:List Int) (vs:List Value),WellAll P h vs (ns.map WData.int)->K7 vs ns:=by
 intro ns
 induction ns with
 |nil=>
  intro vs w;rw[Vz]at w;cases w;exact .nil
 |cons n ns ih=>
  intro vs w;rw[Wg]at w;cases w with
  |cons a b=>
   cases a;exact .cons _ _ (ih _ b)
def GZ {l:OpenLaw}(hn:l.most=some n)(hpre:l.row.toRowW.claim.pre args=true)(hwl:WellAll P h vals args):
  ∃a vs ns,vals=[Value.ref a]/\args=[WData.list (ns.map WData.int)]/\h.get? a=some {cls:=.type "list",data:=.seq vs.toArray}/\K7 vs ns/\ns.length<=n:=by
 have hsh:WShape.hasAll [] args [.list .int]=true:=(pre_splitW hpre).1;have hc:l.pre.holds [] {args:=args}=true:=(pre_splitW hpre).2;obtain⟨d,r,rfl,h1,h2⟩:=hasAllW_cons hsh;obtain rfl:=hasAllW_nil h2;obtain⟨xs,rfl,h3⟩:=hasW_list h1;obtain⟨ns,rfl⟩:=items_int h3;have hlen:ns.length<=n:=by
  unfold OpenLaw.pre at hc;have h4:(WTm.not (.lt (.lit (.int (n:Int))) (.len (.arg 0)))).holds [] {args:=[.list (ns.map .int)]}=true:=by
   have h4:=(holds_andW hc).1;rw[hn]at h4;exact h4
  have h5:=condW_of h4 (w_not (w_lt w_lit (w_len_list (w_arg rfl))));rw[Qw]at h5;refine Nat.le_of_not_lt λq=>?_;have q':(n:Int)<((ns.length:Nat):Int):=by lia
  first
   |(rw[LJ q']at h5;exact LH h5 (by decide))
   |(simp at h5;lia)
 cases hwl with
 |cons w1 w2=>
  cases w2;cases w1 with
  |list ho hall=>exact⟨_,_,ns,rfl,rfl,ho,jg ns _ hall,hlen⟩
def GY(l:OpenLaw)(args:List WData):l.row.toRowW.claim.post args (.bool true) args=true:=
 postW_of (r:=l.row.toRowW) (X:=(true==true))
  (show WShape.has [] (.bool true) .bool=true by first|rfl|decide|simp[WShape.has,WShape.arms,WShape.armsAll])
  (show(WTm.eq .res (.lit (.bool true))).value [] {args:=args,res:=some (.bool true),after:=args}=some (.bool (true==true))from w_eq_bool (w_res rfl) w_lit) rfl
def c5 {l:OpenLaw}(hn:l.most=some n)(hdf:d.params.defaults=[])(call:∀(w:JT) (s₀ s₁:Shared) (mg mb:Str->Option Value) (fa:Addr) (o:Obj) (pm cd doc:Value) (a:Addr) (vs:List Value) (ns:List Int),
   Ground q loose [] XP w s₀ mg mb s₁.heap->YP w s₁.heap ->
   s₁.heap.get? fa=some o->o.data=.func (docDef d.name d.params d.body d.scope pm cd doc)->s₁.heap.CodeRec cd d.name->mg d.name=some (.ref fa) ->
   s₁.heap.get? a=some {cls:=.type "list",data:=.seq vs.toArray}->K7 vs ns->ns.length<=n->s₁.gens=#[] ->
   Ky (J6 l.prog w) K8 (.call (.ref fa) ⟨[.ref a],[]⟩) (λr s'=>r=.ok (.ret (.bool true))/\OldK s₁.heap s'.heap/\s'.os=s₁.os/\J1 s'.gens) s₁):
  WalkO q loose XP YP l.row.toRowW d [] (λf vs=>PySem.call f vs):=by
 intro w s₀ s₁ mg mb G Y fa o pm cd doc dV kV ho hd hcd hD hmg hg args vals as hpre hlay hrd hwl hlo;obtain rfl:dV=.none:=Dflts.none hD hdf;obtain rfl:kV=.none:=Dflts.noKw hD;obtain⟨a,vs,ns,rfl,rfl,hobj,hints,hlen⟩:=GZ hn hpre hwl;refine enter_call (KA (call w s₀ s₁ mg mb fa o pm cd doc a vs ns G Y ho (fd_plain hd) hcd hmg hobj hints hlen hg) λr s' hq=>?_);obtain⟨rfl,h2,h3,h4⟩:=hq;exact⟨.inl ⟨.bool true,.bool true,[],rfl,λ_=>rfl,.bool true,GY l _,λ_=>⟨List.Pairwise.nil,λ_ hm=>(nomatch hm)⟩⟩,h2,h3,h4⟩
end Att
namespace L2
open PySem PySem.Spec PyProof.Rows
theorem gB:∀{vs:List Value}{ns:List Int},K7 vs ns->az (ns.map V.int) vs
 |_,_,.nil=>.nil
 |_,_,.cons n t h=>.cons ⟨t,rfl⟩ (gB h)
noncomputable def fP(H:Hp):Prop:=∀b,H b=none\/∃o xs,H b=some (.frz o (.lst xs))
def Gq {K:Qb}(KX:K.In s₁.heap)(hns:s₁.heap.Ns JY mg)(hb:s₁.heap.Ns builtinsNs mb)(hbb:∀x:Str,x ≠ "__name__" -> mb x=JZ x)(hlim:s₁.heap.NoLimit)(hg:s₁.gens=#[])(ha:s₁.heap.get? a=some {cls:=.type "list",data:=.seq vs.toArray})(hi:K7 vs ns)(hl:ns.length<=sizeLine)(hr:bH k K8)(F:∀base:JU,K.In base->base.Ns JY mg->bJ P w K mg base CX k fa fd [x] sp)(hbind:∀(s:Shared) (u:Value),Kx s fd ⟨[u],[]⟩ [(x,u)])(hsp:∀H:Hp,fP H->bG K H a (ns.map V.int)->sp [.ref a] H (λv _=>v=.bl true) λ_ _ _=>False)(hCX:∀H e s',CX [] H s₁ (λ_ _ _=>False) e s'->False):
  Ky (J6 P w) K8 (.call (.ref fa) ⟨[.ref a],[]⟩) (λr s'=>r=.ok (.ret (.bool true))/\OldK s₁.heap s'.heap/\s'.os=s₁.os/\J1 s'.gens) s₁:=by
 have rv:=gB hi;have lenV:=hi.length
 -- from an abstract heap in which nothing but the script may be tracked
 have core:∀H:Hp,fP H->bG K H a (ns.map V.int)->bN P w H s₁.heap->(∀b,H b≠none->b=a)->(H a≠none->K.lookup a=none) ->
   Ky (J6 P w) K8 (.call (.ref fa) ⟨[.ref a],[]⟩) (λr s'=>r=.ok (.ret (.bool true))/\OldK s₁.heap s'.heap/\s'.os=s₁.os/\J1 s'.gens) s₁:=by
  intro H hO hS hok hA hK;have cf:∀{b:Addr}{o:Obj},s₁.heap.get? b=some o->H b=none->(g0 s₁.heap H).get? b=some o:=λe n=>FZ e n;have noA:∀{b:Addr}{o:Obj}{es:Array JR}{ep:Nat},s₁.heap.get? b=some o->o.data=.dict es ep->H b=none:=λ{b o es ep} e d=>by
   cases q:H b with
   |none=>rfl
   |some u=>
    have e':b=a:=hA b (by rw[q];simp);subst e';rw[ha]at e;cases e;have d':Data.seq vs.toArray _=Data.dict es ep:=d;cases d'
  have nsK:∀{b:Addr}{m:Str->Option Value},s₁.heap.Ns b m->(g0 s₁.heap H).Ns b m:=λ{b m} ⟨o,es,ep,e,d,r⟩=>⟨o,es,ep,cf e (noA e d),d,r⟩;have hKb:K.In (g0 s₁.heap H):=λb o e=>cf (KX b o e) (by
   cases q:H b with
   |none=>rfl
   |some u=>
    have e':b=a:=hA b (by rw[q];simp);subst e';rw[hK (by rw[q];simp)]at e;cases e)
  have hM:Mod K mg (g0 s₁.heap H):=⟨hKb,nsK hns,⟨mb,nsK hb,hbb⟩,let⟨mc,h1,h2⟩:=hlim;⟨mc,nsK h1,h2⟩⟩;have e0:cQ P w K mg (g0 s₁.heap H) K8 [] s₁ H:=⟨rfl,hM,λb o e=>E6 e,W0 (GI _ _),trivial,λb hb=>LH (show b∈([]:List Addr)from hb) (by simp),hok,.of_eq hg⟩;refine KA ((F _ hKb (nsK hns)).run K8 [] s₁ H ⟨[.ref a],[]⟩ [.ref a] [.ref a] _ _ hr e0 (hbind s₁ (.ref a)) (.cons rfl .nil) (hsp H hO hS)) λr s' h=>?_;cases r with
  |error e=>exact(hCX H e s' h).elim
  |ok fl=>
   cases fl with
   |next=>exact False.elim h
   |brk=>exact False.elim h
   |cont=>exact False.elim h
   |ret u=>
    obtain⟨v,H',os,bare,un,hok',r',q⟩:=h;have q':v=.bl true:=q;subst q';obtain rfl:u=Value.bool true:=r';refine⟨rfl,OldK.of_keep λb o e=>?_,os,bare⟩;cases q:H b with
    |none=>exact un.keep b o e q (by intro z;exact LH (show b∈([]:List Addr)from z) (by simp)) (by simp)
    |some u=>
     rcases hO b with z|⟨ob,xs,z⟩
     .rw[q]at z;cases z
     .have z2:=un.frzs b ob _ z;obtain⟨e1,_⟩:=hok b _ z;obtain⟨e2,_⟩:=hok' b _ z2;rw[e]at e1;cases e1;exact e2
 cases hk:K.lookup a with
 |some o=>
  -- the script is one of the module's own objects
  have e:=KX a o hk;rw[ha]at e;cases e;refine core (λ_=>none) (λ_=>.inl rfl) (.inr ⟨_,vs.toArray,_,hk,rfl,rfl,rfl,by rw[Qm,lenV];exact hl,by simpa using rv⟩) (λb u z=>by have z':(none:Option HO)=some u:=z;cases z') (λb z=>LH rfl z) λz=>LH rfl z
 |none=>
  refine core (λb=>if b=a then some (.frz {cls:=.type "list",data:=.seq vs.toArray} (.lst (ns.map V.int)))else none) (λb=>?_) (.inl (.inr ⟨{cls:=.type "list",data:=.seq vs.toArray},LF rfl⟩)) (λb u z=>?_) (λb z=>?_) λ_=>hk
  .by_cases hb:b=a
   .exact .inr ⟨_,_,LF hb⟩
   .exact .inl (LG hb)
  .by_cases hb:b=a
   .have z':=(LF hb).symm.trans z;cases z';subst hb;exact⟨ha,by rw[Qw];exact hl,vs,_,rv,ha⟩
   .have z':=(LG hb).symm.trans z;cases z'
  .by_cases hb:b=a
   .exact hb
   .exact LH (LG hb) z
def EO {l:PySem.W.OpenLaw}{K:JQ->Qb}{CX:JT->dH}{sp:JT->Sp}(hn:l.most=some n)(hn2:n<=sizeLine)(hdf:d.params.defaults=[])(hr:bH k K8)(hY:∀(w:JT) (h:JU),YP w h->(K w.params).In h)(F:∀(w:JT) (mg:Str->Option Value) (fa:Addr) (h:JU),(K w.params).In h->h.Ns JY mg->mg d.name=some (.ref fa) ->
   ∃fd:Kw,(∀(s:Shared) (u:Value),Kx s fd ⟨[u],[]⟩ [(x,u)]) /\
    ∀base:JU,(K w.params).In base->base.Ns JY mg->bJ l.prog w (K w.params) mg base (CX w) k fa fd [x] (sp w))(hsp:∀(w:JT) (H:Hp) (a:Addr) (ns:List Int),ns.length<=n->fP H->bG (K w.params) H a (ns.map V.int)->sp w [.ref a] H (λv _=>v=.bl true) λ_ _ _=>False)(hCX:∀(w:JT) (H:Hp) (s:Shared) (e:Value) (s':Shared),CX w [] H s (λ_ _ _=>False) e s'->False):
  Vr q loose XP YP l.row.toRowW d [] (λf vs=>PySem.call f vs):=by
 refine Att.c5 hn hdf λw s₀ s₁ mg mb fa o pm cd doc a vs ns G Y ho hd hcd hmg hobj hints hlen hg=>?_;have KX:=hY w _ Y;obtain⟨fd,hb,hF⟩:=F w mg fa _ KX G.T.g hmg;exact Gq KX G.T.g G.T.b G.T.builtins G.T.nolimit hg hobj hints (Qo hlen hn2) hr hF hb (λH hO hS=>hsp w H a ns hlen hO hS) λH e s'=>hCX w H s₁ e s'
abbrev cY:dH:=λ_ _ _ _ _ _=>False
abbrev E0:XK:=λ_ _ _=>False
def B6:mM cY X E0:=λ_ _ _ _ _ _ _ h=>h.elim
structure dQ(K:Qb)(x qual:Str)(st:Stmt)(f:Addr)(fd:Kw):Prop where
 ex:∃(oc:Value) (od:Option Addr) (kV doc pm:Value) (an:Option Addr) (cdv ct:Value) (osl:Array (Option Value)),
  fd=Wa x qual (xC st) (zR st) (zo st) .none kV doc pm an cdv ct/\K.lookup f=some ⟨oc,od,.func fd,osl⟩/\Wz K cdv qual=true
 kp:QT K (.ref f)=true
section
variable{P:JS}{w:JT}{K:Qb}{mg:Str->Option Value}{base:JU}
def dQ.ok {st:Stmt}(F:dQ K x qual st f fd)(S:bR N ps (zo st))(len:∀vs H Q E,sp vs H Q E->vs.length=ps.length)(hbody:∀(cdv:Value) (A:J0) (outer:List Env) (s:Shared) (H:Hp) (vs:List V) (Q:VK) (E:XK),bH k (A.deeper (envOfC qual (zo st) s.heap.objs.size f cdv))->sp vs H Q E ->
   ∃t,cj (vO cY P w K mg base N qual (zo st) f cdv A outer s H E).nox (zR st) t/\t {nx:=λ_ H'=>Q .non H',rt:=Q} (start N vs) H):bJ P w K mg base cY (k+1) f fd ps sp:=by
 obtain⟨oc,od,kV,doc,pm,an,cdv,ct,osl,rfl,lk,hcd⟩:=F.ex;refine rV lk hcd S len λA outer s H vs Q E hr hsp=>?_;obtain⟨t,h,q⟩:=hbody cdv A outer s H vs Q E hr hsp;exact⟨t,h.nox,q⟩
def dQ.binds {st:Stmt}(F:dQ K x qual st f fd)(h:∀(kV doc pm:Value) (an:Option Addr) (cdv ct:Value) (us:List Value),us.length=ps.length->bindArgs (Wa x qual (xC st) (zR st) (zo st) .none kV doc pm an cdv ct) ⟨us,[]⟩=pure (ps.zip us)):Binds K fd ps []:=by
 obtain⟨oc,od,kV,doc,pm,an,cdv,ct,osl,rfl,lk,hcd⟩:=F.ex;exact .all (h kV doc pm an cdv ct)
def mL {st:Stmt}{kV:Value}(l:K.lookup f=some ⟨oc,od,.func (Wa x qual (xC st) (zR st) (zo st) .none kV doc pm an cdv ct),osl⟩)(c:Wz K cdv qual=true)(k:QT K (.ref f)=true):dQ K x qual st f (Wa x qual (xC st) (zR st) (zo st) .none kV doc pm an cdv ct):=⟨⟨oc,od,kV,doc,pm,an,cdv,ct,osl,rfl,l,c⟩,k⟩
end
def GX (h:n<=1000):n<sizeLine:=Nat.lt_of_le_of_lt h (by decide)
def qU {B:Prop}(h:B):if false=true then A else B:=by
 rw[LG Q3];exact h
def qV {B:Prop}(h:A):if true=true then A else B:=by
 rw[LF rfl];exact h
noncomputable def vD(env:Env):List (Str×KC)->List (Str×Addr)->List (Str×Addr)
 |[],acc=>acc
 |(n,k)::r,acc=>if k == .free then vD env r ((n,(env.cells.lookup n).getD 0)::acc)else vD env r acc
theorem vP (f:Str×KC->List (Str×Addr)->Sem (ForInStep (List (Str×Addr))))(hf:∀n k cs,f (n,k) cs=if k == .free then(do let a <-cellOf env n;pure (.yield ((n,a)::cs)))else pure (.yield cs)):
  ∀(names:List (Str×KC)) (acc:List (Str×Addr)),(∀y∈names,y.2=.free->∃c,env.cells.lookup y.1=some c)->forIn names acc f=pure (vD env names acc)
 |[],acc,_=>by rw[List.forIn_nil];rfl
 |(n,k)::r,acc,h=>by
  have ih:=vP f hf r;rw[List.forIn_cons,hf];unfold vD;cases hk:k==NameKind.free with
  |true=>
   obtain⟨c,hc⟩:=h (n,k) QH (by simpa using hk);have hc':env.cells.lookup n=some c:=hc;have e1:cellOf env n=pure c:=by unfold cellOf;rw[hc']
   simp only[if_true,e1,hc',WS,pure_bind];exact ih _ λy hy=>h y (Qk _ hy)
  |false=>
   simp only[QP,if_false,pure_bind];exact ih _ λy hy=>h y (Qk _ hy)
def jA (h:∀y∈scope.names,y.2=.free->∃c,env.cells.lookup y.1=some c):closureFor scope env=pure (vD env scope.names []):=by
 unfold closureFor;simp only[];rw[vP (env:=env) _ (λn k cs=>by cases hk:k==NameKind.free<;>simp[hk]) scope.names [] h];rfl
theorem vf:∀{names:List (Str×KC)}{acc:List (Str×Addr)},(∀z∈names,z.2=.free->∃c,env.cells.lookup z.1=some c)->(vD env names acc).lookup y=some c ->
  acc.lookup y=some c\/((y,NameKind.free)∈names/\env.cells.lookup y=some c)
 |[],acc,_,e=>.inl e
 |(n,k)::r,acc,h,e=>by
  unfold vD at e;have h':∀z∈r,z.2=.free->∃c,env.cells.lookup z.1=some c:=λz hz=>h z (Qk _ hz);cases hk:k==NameKind.free with
  |true=>
   have hk':k=.free:=by simpa using hk
   subst hk';rw[hk,LF rfl]at e;rcases vf h' e with q|⟨q1,q2⟩
   .rw[QV]at q;cases hy:y==n with
    |true=>
     rw[hy]at q;have:y=n:=by simpa using hy
     subst this;obtain⟨c',hc'⟩:=h (y,.free) QH rfl;have hc'':env.cells.lookup y=some c':=hc';rw[hc'']at q;refine .inr ⟨QH,?_⟩;rw[hc''];exact q
    |false=>rw[hy]at q;exact .inl q
   .exact .inr ⟨Qk _ q1,q2⟩
  |false=>
   rw[hk,LG (by simp)]at e;rcases vf h' e with q|⟨q1,q2⟩
   .exact .inl q
   .exact .inr ⟨Qk _ q1,q2⟩
theorem kG:∀{names:List (Str×KC)}{acc:List (Str×Addr)},((y,NameKind.free)∈names\/(acc.lookup y).isSome=true)->((vD env names acc).lookup y).isSome=true
 |[],acc,h=>by
  rcases h with h|h
  .cases h
  .exact h
 |(n,k)::r,acc,h=>by
  unfold vD;cases hk:k==NameKind.free with
  |true=>
   rw[LF rfl];refine kG ?_;rcases h with h|h
   .rcases Qt.mp h with e|e
    .cases e;exact .inr (by rw[QV];simp)
    .exact .inl e
   .refine .inr ?_;rw[QV];split
    .rfl
    .exact h
  |false=>
   rw[LG (by simp)];refine kG ?_;rcases h with h|h
   .rcases Qt.mp h with e|e
    .cases e;cases hk
    .exact .inl e
   .exact .inr h
theorem md:∀{names:List (Str×KC)}{h:JU}{acc:List (Str×Addr)},(KH h.objs.size names acc).lookup y=some c ->
  acc.lookup y=some c\/(h.objs.size<=c/\(K9 h names).IsCell c none/\(y,NameKind.cell)∈names)
 |[],h,acc,e=>.inl e
 |(n,k)::r,h,acc,e=>by
  unfold KH at e;cases hk:k==NameKind.cell with
  |true=>
   have hk':k=.cell:=by simpa using hk
   subst hk';rw[hk,LF rfl]at e;have ih:=md (y:=y) (c:=c) (names:=r) (h:=h.push {cls:=.type "cell",data:=.cell none}) (acc:=(n,h.objs.size)::acc);rw[WM]at ih;have hp:K9 h ((n,NameKind.cell)::r)=K9 (h.push {cls:=.type "cell",data:=.cell none}) r:=by
    exact LF hk
   rcases ih e with q|⟨q1,q2,q3⟩
   .rw[QV]at q;cases hy:y==n with
    |true=>
     rw[hy]at q;cases q;have hyn:y=n:=by simpa using hy
     subst hyn;refine .inr ⟨Ql _,?_,QH⟩;rw[hp];exact⟨_,La _ _ _ _ (QR _ rfl),rfl⟩
    |false=>rw[hy]at q;exact .inl q
   .exact .inr ⟨Qo (WT _) q1,by rw[hp];exact q2,Qk _ q3⟩
  |false=>
   rw[hk,LG (by simp)]at e;have hp:K9 h ((n,k)::r)=K9 h r:=by
    show(if(k==NameKind.cell)=true then _ else _)=_;rw[hk,LG (by simp)]
   rcases md e with q|⟨q1,q2,q3⟩
   .exact .inl q
   .exact .inr ⟨q1,by rw[hp];exact q2,Qk _ q3⟩
theorem l6 {lo:Nat}:∀{names:List (Str×KC)}{n:Nat}{acc:List (Str×Addr)},((y,NameKind.cell)∈names\/∀c,acc.lookup y=some c->lo<=c)->lo<=n->(KH n names acc).lookup y=some c->lo<=c
 |[],n,acc,h,_,e=>by
  rcases h with h|h
  .cases h
  .exact h c e
 |(m,k)::r,n,acc,h,hn,e=>by
  unfold KH at e;cases hk:k==NameKind.cell with
  |true=>
   rw[hk,LF rfl]at e;refine l6 ?_ (Qo hn (WT _)) e;by_cases hy:y=m
   .subst hy;refine .inr λc hc=>?_;rw[QV,beq_self_eq_true]at hc;cases hc;exact hn
   .rcases h with h|h
    .rcases Qt.mp h with z|z
     .cases z;exact LH rfl hy
     .exact .inl z
    .refine .inr λc hc=>?_;rw[QV]at hc;have:(y==m)=false:=by simpa using hy
     rw[this]at hc;exact h c hc
  |false=>
   rw[hk,LG (by simp)]at e;refine l6 ?_ hn e;rcases h with h|h
   .rcases Qt.mp h with z|z
    .cases z;cases hk
    .exact .inl z
   .exact .inr h
theorem mx:∀{names:List (Str×KC)}{n:Nat}{acc:List (Str×Addr)},(∀y z c,acc.lookup y=some c->acc.lookup z=some c->y=z)->(∀y c,acc.lookup y=some c->c<n) ->
  ∀y z c,(KH n names acc).lookup y=some c->(KH n names acc).lookup z=some c->y=z
 |[],n,acc,hi,_=>hi
 |(m,k)::r,n,acc,hi,hl=>by
  unfold KH;cases hk:k==NameKind.cell with
  |true=>
   rw[LF rfl];refine mx (λy z c e1 e2=>?_) λy c e=>?_
   .rw[QV]at e1 e2;cases hy:y==m<;>cases hz:z==m<;>rw[hy]at e1<;>rw[hz]at e2
    .exact hi y z c e1 e2
    .cases e2;exact LH (hl y _ e1) (QY _)
    .cases e1;exact LH (hl z _ e2) (QY _)
    .exact (by simpa using hy:y=m).trans (by simpa using hz:z=m).symm
   .rw[QV]at e;cases hy:y==m<;>rw[hy]at e
    .exact Nat.lt_succ_of_lt (hl y c e)
    .cases e;exact WV _
  |false=>
   rw[LG (by simp)];exact mx hi hl
def qW (hQ:Q {scope:=scope,locals:=s.heap.objs.size,globals:=globals,cells:=KH (s.heap.objs.size+1) scope.names cl,qual:=qual,func:=none,code:=outer.code,frame:=outer.frame,builtins:=outer.builtins}
   {s with heap:=K9 (s.heap.push {cls:=.type "dict",data:=.dict #[]}) scope.names}):
  J5 M A (Lb scope globals cl [] qual none .none (some outer)) Q E s:=by
 simp only[Lb,Option.isSome_some,if_true];refine Kf (wpAny_alloc ?_);refine Kf (wpAny_layCells _ (λname kind cells=>by cases hkc:kind==NameKind.cell<;>simp[hkc]) _ _ _ _ ?_);rw[show({s with heap:=s.heap.push {cls:=.type "dict",data:=.dict #[]} }:Shared).heap.objs.size=s.heap.objs.size+1 from WM ..];simp only[List.forIn_nil];exact Kf (Kk (Kk hQ))
def yg:(Lc scope env).names.lookup y=(scope.names.lookup y).map λk=>if(k==NameKind.free&&env.scope.kind == .function&&env.kindOf y==some .cell)then NameKind.cell else k:=by
 have all:∀l:List (Str×KC),(l.map λ(n,k)=>if(k==NameKind.free&&env.scope.kind == .function&&env.kindOf n==some .cell)then(n,NameKind.cell)else(n,k)).lookup y=(l.lookup y).map λk=>if(k==NameKind.free&&env.scope.kind == .function&&env.kindOf y==some .cell)then NameKind.cell else k:=by
  intro l
  induction l with
  |nil=>rfl
  |cons p r ih=>
   obtain⟨n,k⟩:=p;rw[Wg,QV];by_cases hc:(k==NameKind.free&&env.scope.kind == .function&&env.kindOf n==some .cell)=true
   .simp only[hc,if_true,QV];cases hy:y==n with
    |true=>
     have:y=n:=by simpa using hy
     subst this;simp only[QN,hc,if_true]
    |false=>exact ih
   .simp only[LG hc,QV];cases hy:y==n with
    |true=>
     have:y=n:=by simpa using hy
     subst this;simp only[QN,LG hc]
    |false=>exact ih
 exact all scope.names
noncomputable def iY(x:Str):Str:=⟨x.cps.push 0⟩
noncomputable def wn(N xs:List Str):List Str:=(N.map λy=>if y∈xs then iY y else y)++xs
def GW(N xs:List Str):(wn N xs).length=N.length+xs.length:=by simp[wn]
def Hw(N xs:List Str)(j:Nat):(wn N xs)[N.length+j]?=xs[j]?:=by
 unfold wn;rw[Qn (by simp)];simp
def GV (hi:i<N.length)(h:(wn N xs)[i]?=some y):(∃x∈xs,y=iY x)\/(N[i]?=some y/\y∉xs):=by
 unfold wn at h;rw[Qq (by simpa using hi),Qs]at h;obtain⟨z,hz⟩:∃z,N[i]?=some z:=⟨N[i],by simp[hi]⟩;rw[hz]at h;by_cases e:z∈xs
 .simp only[QN,LF e]at h;exact .inl ⟨z,e,(Option.some.inj h).symm⟩
 .simp only[QN,LG e]at h;have e2:z=y:=Option.some.inj h;subst e2;exact .inr ⟨hz,e⟩
structure bL(X:Cx)(scope:JP)(xs:List Str)(Xc:Cx):Prop where
 prog:Xc.prog=X.prog
 w:Xc.w=X.w
 K:Xc.K=X.K
 mg:Xc.mg=X.mg
 base:Xc.base=X.base
 A:Xc.A=X.A
 N:Xc.N=wn X.N xs
 sc:Xc.env.scope=Lc scope X.env
 calm:Xc.calm=true
 stack:Xc.stack=X.stack
noncomputable def hW(X:Cx)(ifs:List Expr)(t:TT):Prop:=
 ∀(pins:List (Addr×Obj)) (s:Shared) (σ:St) (H:Hp) (Q:Bool->Hp->Prop),Inv X pins σ H s->t σ H Q ->
  J5 (J6 X.prog X.w) X.A (forIn ifs true λc r=>if r=true then do let ok <-isTrue c X.env (eval c X.env);pure (ForInStep.yield ok)else pure (ForInStep.yield r)) (TP X pins σ Q) X.xe s
def ua:hW X [] (λ_ H Q=>Q true H):=λ_ _ _ H _ I h=>wpAny_tests_nil ⟨H,I,h⟩
structure bM(X:Cx)(scope:JP)(xs:List Str):Prop where
 kind:scope.kind=.function
 own:∀x∈xs,scope.names.lookup x=some .local\/scope.names.lookup x=some .cell
 locs:∀y∈scope.names,y.2=.local->scope.names.lookup y.1=some .local
 free:∀y∈scope.names,y.2=.free->X.env.scope.names.lookup y.1=some .cell\/X.env.scope.names.lookup y.1=some .free
 alone:∀y∈X.N,y∉xs->scope.names.lookup y≠some .local/\scope.names.lookup y≠some .cell
 one:∀y∈scope.names,y.2=.cell->scope.names.lookup y.1≠some .free
 nd:(wn X.N xs).Nodup
 dumN:∀x∈xs,scope.names.lookup (iY x)=none
def qj{prog:JS}{w:JT}{A:J0}{R:Result->Shared->Prop}{s:Shared}{elt target iter:Expr}{ifs:List Expr}{scope:JP}{pos:Pos}{it acc:Value}{env:Env}(I:Nat->Shared->Prop)
  (turn:∀n s,I n s->J5 (J6 prog w) A (pyNext it) (λr s₁=>match r with
   |none=>R (.ok .next) s₁
   |some v=>J5 (J6 prog w) A (Kj target it v) (λ_ s₁'=>J5 (J6 prog w) A (assign target env v) (λ_ s₂=>
     J5 (J6 prog w) A (forIn ifs true λc r=>if r=true then do let ok <-isTrue c env (eval c env);pure (ForInStep.yield ok)else pure (ForInStep.yield r)) (λok s₃=>
      if ok=true then J5 (J6 prog w) A (eval elt env) (λx s₄=>
       J5 (J6 prog w) A (call (.builtin "list.append") [acc,x]) (λ_ s₅=>∃m,m<n/\I m s₅) (Ld (J6 prog w) A env λe s'=>R (.error e) s') s₄) (Ld (J6 prog w) A env λe s'=>R (.error e) s') s₃
      else ∃m,m<n/\I m s₃) (Ld (J6 prog w) A env λe s'=>R (.error e) s') s₂) (Ld (J6 prog w) A env λe s'=>R (.error e) s') s₁') (Ld (J6 prog w) A env λe s'=>R (.error e) s') s₁) (Ld (J6 prog w) A env λe s'=>R (.error e) s') s)
  (n:Nat) (h:I n s):Ky (J6 prog w) A (.compLoop (.ListComp elt [⟨target,iter,ifs,0⟩] scope pos) 0 it acc env) R s:=by
 refine codeAny_loop rfl I (λn s hI=>?_) n h;show J5 _ A ((compTurn (.ListComp elt [⟨target,iter,ifs,0⟩] scope pos) 0 it acc env).onRaise (λx=>do Lf x env;theTreesLotGoes x)) _ _ s;refine wpAny_noted ?_;rw[compTurn_list];refine Kf (Kh (Kf (J9 (turn n s hI) (λr s₁ h₁=>?_) λ_ _ h'=>h')));cases r with
 |none=>exact Kk h₁
 |some v=>
  refine Kf (J9 h₁ (λ_ s₁' h₁'=>?_) λ_ _ h'=>h');refine Kf (J9 h₁' (λ_ s₂ h₂=>Kf (J9 h₂ (λok s₃ h₃=>?_) λ_ _ h'=>h')) λ_ _ h'=>h');cases ok with
  |false=>exact Kk ⟨rfl,h₃⟩
  |true=>
   exact Kf (Kf (J9 h₃ (λx s₄ h₄=>Kf (J9 h₄ (λ_ s₅ h₅=>Kk (Kk ⟨rfl,h₅⟩)) λ_ _ h'=>h')) λ_ _ h'=>h'))
noncomputable def iP(un:V->Hp->List V->Prop)(wi:TI)(tc:TT)(te:TE):TE:=λσ H Q=>wi σ H λJ H1=>∀D,H1 D=none->∃W:Nat->Nat->List V->Hp->Prop,(∃m,W 0 m [] (aK H1 D (.lst [])))/\∀i m ys H,W i m ys H ->
 (J.stop i H/\Q (.ref D) H)\/(J.go i H/\∀v H',J.yld i H v H'->∃vs,un v H' vs/\tc (σ++vs.map some) H' λb H2=>if b=true then te (σ++vs.map some) H2 λy H3=>H3 D=some (.lst ys)/\ys.length<sizeLine/\∃m',m'<m/\W (i+1) m' (ys++[y]) (aK H3 D (.lst (ys++[y])))
  else ∃m',m'<m/\W (i+1) m' ys H2)
def jB {un:V->Hp->List V->Prop}(B:bM X scope xs)(hc:X.calm=true)(hpg:∀Xc,bL X scope xs Xc->(∀x∈xs,Loc Xc.env.scope x/\(Xc.fn x=true\/Xc.env.scope.names.lookup x=some .local))->PG Xc tg g)(hun:∀v H vs os,os.length=xs.length->un v H vs->vs.length=xs.length/\g v (σ++os) H λσ2 H2=>σ2=σ++vs.map some/\H2=H)(hbody:∀Xc,bL X scope xs Xc->hW Xc ifs tc/\PE Xc elt te)(I:Inv X pins σ H s)(T:dO X.prog X.w X.K tg J fp it tn)(st:tn 0 s.heap)(hfp:∀b∈fp,gi X pins H b)(W:Nat->Nat->List V->Hp->Prop)(m0:Nat)(w0:W 0 m0 [] H)(turn:∀i m ys H,W i m ys H->(J.stop i H/\∀s' m' C,Inv X pins σ H s'->s'.heap.Ns C m'->s.heap.objs.size<=C->H C=none->compPost (J6 X.prog X.w) X.A X.xe use Q (.ref D) C (.ok .next) s') \/
   (J.go i H/\∀v H',J.yld i H v H'->∃vs,un v H' vs/\tc (σ++vs.map some) H' λb H2=>if b=true then te (σ++vs.map some) H2 λy H3=>H3 D=some (.lst ys)/\ys.length<sizeLine/\∃m',m'<m/\W (i+1) m' (ys++[y]) (aK H3 D (.lst (ys++[y])))
    else ∃m',m'<m/\W (i+1) m' ys H2)):
  J5 (J6 X.prog X.w) X.A (Lb scope X.env.globals (vD X.env scope.names []) [] X.env.qual none .none (some X.env)) (λcenv s₄=>
   Ky (J6 X.prog X.w) X.A (.compStart (.ListComp elt [⟨tg,iter,ifs,0⟩] scope pos) 0 (.ref it) (.ref D) {cenv with scope:=Lc scope X.env}) (compPost (J6 X.prog X.w) X.A X.xe use Q (.ref D) cenv.locals) s₄) X.xe s:=by
 refine qW ?_;have hcl:∀y∈scope.names,y.2=.free->∃c,X.env.cells.lookup y.1=some c:=λy hy hf=>by
  rcases B.free y hy hf with q|q
  .exact I.ok.has y.1 (.inl q)
  .exact I.ok.has y.1 (.inr q)
 -- the block's own parts
 generalize hC:s.heap.objs.size=C;generalize hcs:KH (C+1) scope.names (vD X.env scope.names [])=cs;generalize hh4:K9 (s.heap.push {cls:=.type "dict",data:=.dict #[]}) scope.names=h4;have szP:(s.heap.push {cls:=.type "dict",data:=.dict #[]}).objs.size=C+1:=by rw[WM,hC]
 have keep4:∀b o,s.heap.get? b=some o->h4.get? b=some o:=λb o e=>hh4▸La _ _ _ _ (Qi _ e);have nsC:h4.Ns C (λ_=>none):=by
  have q:=(Heap.Ns.new s.heap (.type "dict")).keeps (La scope.names (s.heap.push {cls:=.type "dict",data:=.dict #[]}));rw[hC,hh4]at q;exact q
 -- a cell of the block: one of its own,or one of those around
 have csIn:∀y c,cs.lookup y=some c->((y,NameKind.free)∈scope.names/\X.env.cells.lookup y=some c)\/(C+1<=c/\h4.IsCell c none/\(y,NameKind.cell)∈scope.names):=λy c e=>by
  have q:=md (y:=y) (c:=c) (names:=scope.names) (h:=s.heap.push {cls:=.type "dict",data:=.dict #[]}) (acc:=vD X.env scope.names []);rw[szP,hcs,hh4]at q;rcases q e with q|q
  .rcases vf hcl q with z|z
   .cases z
   .exact .inl z
  .exact .inr q
 have oldC:∀y c,X.env.cells.lookup y=some c->c<C:=λy c e=>by
  obtain⟨v,q⟩:=I.cell y c e;rw[<-hC];exact q.lt
 have fpC:∀b∈fp,b<C:=λb hb=>by
  obtain⟨o,e,_⟩:=T.obj _ _ st b hb;rw[<-hC];exact Qp e
 let cenv:Env:={scope:=Lc scope X.env,locals:=C,globals:=X.env.globals,cells:=cs,qual:=X.env.qual,func:=none,code:=X.env.code,frame:=X.env.frame,builtins:=X.env.builtins}
 let RR:Result->Shared->Prop:=compPost (J6 X.prog X.w) X.A X.xe use Q (.ref D) C
 let Xc:Cx:={X with N:=wn X.N xs,s₀:=s,H₀:=H,env:=cenv,outer:=X.stack,stack:=X.stack,ex:=fp,fn:=λy=>decide (scope.names.lookup y=some .cell),calm:=true,pn:=[],xe:=Ld (J6 X.prog X.w) X.A cenv λe s'=>RR (.error e) s' }
 have hXc:bL X scope xs Xc:=⟨rfl,rfl,rfl,rfl,rfl,rfl,rfl,rfl,rfl,rfl⟩;obtain⟨hT,hE⟩:=hbody Xc hXc;have ok:Xc.Ok:=by
  refine⟨I.ok.mod,B.kind,I.ok.glob,I.ok.blt,W0 hC,?_,λy hy=>?_,λy c hf e=>?_,λ_=>I.ok.hd hc,I.ok.frames,.inl rfl,λb hb=>⟨QS (fpC b hb),λy c e=>?_⟩,I.bs,Qo I.ok.bsz I.sz,λb o e hb=>?_,λb hb hf=>?_,I.stack,I.stkFree⟩
  .show ∀y z c,cs.lookup y=some c->cs.lookup z=some c->y=z;rw[<-hcs];refine mx (λy z c e1 e2=>?_) λy c e=>?_
   .rcases vf hcl e1 with q|q
    .cases q
    .rcases vf hcl e2 with q'|q'
     .cases q'
     .exact I.ok.inj y z c q.2 q'.2
   .rcases vf hcl e with q|q
    .cases q
    .exact Nat.lt_succ_of_lt (oldC y c q.2)
  .have hy':(Lc scope X.env).names.lookup y=some .cell\/(Lc scope X.env).names.lookup y=some .free:=hy;rw[yg]at hy';show ∃c,cs.lookup y=some c;rw[<-hcs];refine Ww.mp (WA _ _ _ ?_);cases hk:scope.names.lookup y with
   |none=>rw[hk]at hy';rcases hy' with z|z<;>cases z
   |some k=>
    rw[hk]at hy';have kk:k=.cell\/k=.free:=by
     simp only[QN]at hy';by_cases hcnd:(k==NameKind.free&&X.env.scope.kind == .function&&X.env.kindOf y==some .cell)=true
     .refine .inr ?_;have:=(QB.mp (QB.mp hcnd).1).1;simpa using this
     .rw[LG hcnd]at hy';rcases hy' with z|z
      .exact .inl (Option.some.inj z)
      .exact .inr (Option.some.inj z)
    rcases kk with rfl|rfl
    .exact .inl rfl
    .exact .inr (kG (.inl (PySem.mem_of_lookup hk)))
  .show s.heap.objs.size<=c;rw[hC];have e':cs.lookup y=some c:=e;rw[<-hcs]at e';exact Qo (WT _) (l6 (lo:=C+1) (.inl (PySem.mem_of_lookup (LK hf))) (Ql _) e')
  .show c≠b;rintro rfl;rcases csIn y c e with⟨_,z⟩|⟨z,_,_⟩
   .exact (hfp c hb).2.2.2.2.1 y c z rfl
   .exact LH (Qf (fpC c hb) (Qo (WT _) z)) (QY _)
  .rcases (hfp b hb).2.2.2.1 with z|z
   .exact I.ok.noex b o e z
   .exact LH (Qf (Qp (I.ok.bs b o e).1) z) (QY _)
  .rcases Qt.mp (I.stkSub b hf)with z|z
   .exact (hfp b hb).2.1 z
   .exact (hfp b hb).2.2.1 z
 have frC:H C=none:=I.hok.fresh (W0 hC);have frN:∀c,C<=c->H c=none:=λc hc'=>I.hok.fresh (by rw[hC];exact hc');have hσ:σ.length=X.N.length:=I.len;have I4:Inv Xc [] (σ++xs.map λ_=>none) H {s with heap:=h4}:=by
  refine⟨ok,rfl,I.bare,Un.kept keep4,⟨_,nsC,λi y v e1 e2 e3=>?_⟩,λy c e=>?_,frC,λy c e=>?_,λp hp=>LH (show p∈([]:List (Addr×Obj))from hp) (by simp),I.hok.kept keep4,?_⟩
  .have hi:i<σ.length:=by
    by_cases hi:i<σ.length
    .exact hi
    .rw[Qn (by lia),Qs]at e2;cases hz:xs[i-σ.length]? with
     |none=>rw[hz]at e2;simp at e2
     |some k=>rw[hz]at e2;simp at e2
   rw[Qq hi]at e2;have vis:scope.names.lookup y=some .local\/scope.names.lookup y=some .cell\/scope.names.lookup y=some .free:=by
    have e3':fB (Lc scope X.env) y:=e3;unfold fB at e3';rw[yg]at e3';cases hk:scope.names.lookup y with
    |none=>rw[hk]at e3';rcases e3' with z|z|z<;>cases z
    |some k=>
     rw[hk]at e3';simp only[QN]at e3';by_cases hcnd:(k==NameKind.free&&X.env.scope.kind == .function&&X.env.kindOf y==some .cell)=true
     .have:=(QB.mp (QB.mp hcnd).1).1;exact .inr (.inr (by rw[show k=.free by simpa using this]))
     .rw[LG hcnd]at e3';exact e3'
   rcases GV (by rw[<-hσ];exact hi) e1 with z|⟨z,zx⟩
   .obtain ⟨x,hx,z⟩:=z;subst z;rw[B.dumN x hx]at vis;rcases vis with q|q|q<;>cases q
   .have hfree:scope.names.lookup y=some .free:=by
     rcases vis with q|q|q
     .exact LH q (B.alone y (QA z) zx).1
     .exact LH q (B.alone y (QA z) zx).2
     .exact q
    have kout:=B.free _ (PySem.mem_of_lookup hfree) rfl;obtain⟨m,hn,hl⟩:=I.loc;obtain⟨u,r,l⟩:=hl i y v z e2 (kout.elim (λq=>.inr (.inl q)) λq=>.inr (.inr q));refine⟨u,r,?_⟩;rcases l with⟨k,_⟩|⟨_,c,ec,zc⟩
    .have k':X.env.scope.names.lookup y=some .local:=k;rcases kout with q|q<;>rw[k']at q<;>cases q
    .have hsome:∃c',cs.lookup y=some c':=ok.has y (by
      show(Lc scope X.env).names.lookup y=some .cell\/(Lc scope X.env).names.lookup y=some .free;rw[yg,hfree];simp only[QN];split
      .exact .inl rfl
      .exact .inr rfl)
     obtain⟨c',ec'⟩:=hsome;refine .inr ⟨?_,c',ec',?_⟩
     .show (Lc scope X.env).names.lookup y=some .cell\/(Lc scope X.env).names.lookup y=some .free;rw[yg,hfree];simp only[QN];split
      .exact .inl rfl
      .exact .inr rfl
     .rcases csIn y c' ec' with⟨_,q⟩|⟨_,_,q⟩
      .rw[ec]at q;cases q;exact zc.keeps keep4
      .exact LH hfree (B.one (y,.cell) q rfl)
  .rcases csIn y c e with⟨_,q⟩|⟨_,q,_⟩
   .obtain ⟨v,z⟩:=I.cell y c q;exact⟨v,z.keeps keep4⟩
   .exact ⟨_,q⟩
  .rcases csIn y c e with⟨_,q⟩|⟨q,_,_⟩
   .exact I.freeC y c q
   .exact frN c (by lia)
  .show (σ++xs.map λ_=>none).length=(wn X.N xs).length;rw[GW,Q0,hσ,Qw]
 -- the loop
 have hLoc:∀x∈xs,Loc Xc.env.scope x/\(Xc.fn x=true\/Xc.env.scope.names.lookup x=some .local):=λx hx=>by
  constructor
  .show (Lc scope X.env).names.lookup x=some .local\/(Lc scope X.env).names.lookup x=some .cell;rw[yg];rcases B.own x hx with q|q<;>rw[q]
   .exact .inl rfl
   .exact .inr rfl
  .rcases B.own x hx with q|q
   .refine .inr ?_;show(Lc scope X.env).names.lookup x=some .local;rw[yg,q];rfl
   .exact .inl (LJ q)
 have hg:PG Xc tg g:=hpg Xc hXc hLoc;have fpX:∀{H':Hp},(∀b∈fp,H' b=none)->∀b∈fp,gi Xc [] H' b:=λhn b hb=>
  ⟨hn b hb,QS (fpC b hb),λz=>ok.exfs b hb z,.inl hb,λy c e=>(ok.exf b hb).2 y c e,λp hp=>LH (show p∈([]:List (Addr×Obj))from hp) (by simp)⟩
 have loop:Ky (J6 X.prog X.w) X.A (.compLoop (.ListComp elt [⟨tg,iter,ifs,0⟩] scope pos) 0 (.ref it) (.ref D) cenv) RR {s with heap:=h4}:=by
  refine qj (λn s'=>∃i os ys H',os.length=xs.length/\Inv Xc [] (σ++os) H' s'/\tn i s'.heap/\(∀b∈fp,H' b=none)/\W i n ys H') ?_ m0 ⟨0,_,[],H,Qw _,I4,T.keep _ _ _ st λb _ o e=>keep4 b o e,λb hb=>(hfp b hb).1,w0⟩;rintro n s3 ⟨i,os,ys,H3,hos,I3,st3,fr3,w3⟩;rcases turn i n ys H3 w3 with⟨stop,fin⟩|⟨go,step⟩
  .refine aY (T.done Xc rfl rfl rfl rfl i [] s3 (σ++os) H3 Xc.xe I3 (fpX fr3) st3 stop) λr s4 ⟨hr,I4⟩=>?_;subst hr;obtain⟨m,hn,_⟩:=id I4.loc;refine fin s4 m C ?_ hn (W0 hC) I4.free;exact I.call' (ch:=fp) I4.os I4.base I4.hok I4.bare λb hb=>⟨(hfp b hb).2.2.2.1,(hfp b hb).2.1,(hfp b hb).2.2.2.2.1,(hfp b hb).2.2.2.2.2⟩
  .refine aY (T.item Xc rfl rfl rfl rfl i [] s3 (σ++os) H3 Xc.xe I3 (fpX fr3) st3 go) λr s4 ⟨u,hr,h4'⟩=>?_;subst hr;refine aY h4' λ_ s5 ⟨v,H5,I5,r5,y5,st5,fr5⟩=>?_;have I5':=I5.pinned (fpX fr5) (T.obj _ _ st5);obtain⟨vs,hvs,step5⟩:=step v H5 y5;obtain⟨hvl,hset⟩:=hun v H5 vs os hos hvs;refine aY (hg _ s5 (σ++os) H5 v u (λσ2 H2=>σ2=σ++vs.map some/\H2=H5) I5' r5 hset) λ_ s6 ⟨σ6,H6,I6,e6,e6'⟩=>?_;subst e6;subst e6';have back:∀{H7:Hp}{s7:Shared},Inv Xc ([]++jx fp s5.heap) (σ++vs.map some) H7 s7->tn (i+1) s7.heap/\(∀b∈fp,H7 b=none)/\Inv Xc [] (σ++vs.map some) H7 s7:=λ{H7 s7} I7=>by
    refine⟨T.keep _ _ _ st5 λb hb ob e=>(I7.pin (b,ob) (Qv _ (Qv _ (wz hb e)))).1,λb hb=>?_,I7.unpinned⟩;obtain⟨ob,e,_⟩:=T.obj _ _ st5 b hb;exact(I7.pin (b,ob) (Qv _ (Qv _ (wz hb e)))).2.1
   refine aY (hT _ s6 (σ++vs.map some) H6 _ I6 step5) λb s7 ⟨H7,I7,q7⟩=>?_;cases b with
   |false=>
    rw[LG Q3]at q7 ⊢;obtain⟨m',hm,w7⟩:=q7;obtain⟨t1,t2,t3⟩:=back I7;exact⟨m',hm,i+1,_,ys,H7,(by rw[Qw];exact hvl),t3,t1,t2,w7⟩
   |true=>
    rw[LF rfl]at q7 ⊢;refine aY (hE _ s7 (σ++vs.map some) H7 _ I7 q7) λyv s8 ⟨y,H8,I8,r8,hD8,hl8,m',hm,w8⟩=>?_;refine aY (gA (X:=Xc) _ s8 (σ++vs.map some) H8 (.ref D) [y] (.ref D) [yv] (λ_ H9=>H9=aK H8 D (.lst (ys++[y]))) I8 rfl (.cons r8 .nil) ⟨D,ys,y,rfl,rfl,hD8,hl8,rfl⟩) λ_ s9 ⟨_,H9,I9,_,e9⟩=>?_;subst e9;obtain⟨t1,t2,t3⟩:=back I9;exact⟨m',hm,i+1,_,ys++[y],_,(by rw[Qw];exact hvl),t3,t1,t2,w8⟩
 refine codeAny_compStart_list loop ?_;exact T.self X.A 0 _ _ _ (T.keep _ _ _ st λb _ o e=>keep4 b o e) loop
section
variable{X:Cx}{elt iter tg:Expr}{xs:List Str}{y:Str}{g:TG}{un:V->Hp->List V->Prop}{py:Pos}{ifs:List Expr}{scope:JP}{pos spos:Pos}{wi:TI}{tc:TT}{te:TE}
def Inv.aside{pins:List (Addr×Obj)}{σ:St}{H:Hp}{s:Shared}{C lo:Addr}{h':JU}(I:Inv X pins σ H s)(hlo:lo<=C)(hL:X.env.locals<lo)(hcell:∀y c,X.env.cells.lookup y=some c->c<lo)(hpin:∀p∈X.pn++pins,p.1<lo)
  (hn:H C=none) (hs:WX C s.heap h'):Inv X pins σ H {s with heap:=h' } :=
 I.turned (it:=C) (t':=s.toks) (λb o hb e=>(hs.2 b hb).trans e) hn (WY (Qf hL hlo)) (.inr (Qo I.ok.above (Qo (WZ hL) hlo)))
  (λy c e=>QS (Qf (hcell y c e) hlo)) λp hp=>QS (Qf (hpin p hp) hlo)
def Inv.below (I:Inv X pins σ H s):X.env.locals<s.heap.objs.size/\(∀y c,X.env.cells.lookup y=some c->c<s.heap.objs.size)/\∀p∈X.pn++pins,p.1<s.heap.objs.size:=
 ⟨I.lt,λy c e=>let⟨_,z⟩:=I.cell y c e;z.lt,λp hp=>Qp (I.pin p hp).1⟩
def vw(B:bM X scope xs)(ok:X.Ok):closureFor scope X.env=pure (vD X.env scope.names []):=
 jA λy hy hf=>(B.free y hy hf).elim (λq=>ok.has y.1 (.inl q)) λq=>ok.has y.1 (.inr q)
structure lf(X:Cx)(scope:JP)(xs:List Str)(tg:Expr)(g:TG)(un:V->Hp->List V->Prop):Prop where
 pg:∀Xc,bL X scope xs Xc->(∀x∈xs,Loc Xc.env.scope x/\(Xc.fn x=true\/Xc.env.scope.names.lookup x=some .local))->PG Xc tg g
 un:∀v H vs os (σ:St),σ.length=X.N.length->os.length=xs.length->un v H vs->vs.length=xs.length/\g v (σ++os) H λσ2 H2=>σ2=σ++vs.map some/\H2=H
noncomputable def mU(v:V)(_:Hp)(vs:List V):Prop:=vs=[v]
def C3{α:Type}{l:List α}(h:l.length=1):∃a,l=[a]:=by
 cases l with
 |nil=>cases h
 |cons a t=>
  cases t with
  |nil=>exact⟨a,rfl⟩
  |cons b t=>cases h
def tZ (B:bM X scope [x]):lf X scope [x] (.Name x px) (wl X.N.length) mU:=by
 refine⟨λXc c h=>?_,λv H vs os σ hσ ho hv=>?_⟩
 .exact xB (by rw[c.N];exact B.nd) (by rw[c.N];exact Hw X.N [x] 0) (h x (by simp)).1 (h x (by simp)).2
 .cases hv;refine⟨rfl,?_,rfl⟩;obtain⟨o,rfl⟩:=C3 ho;rw[<-hσ,List.set_append_right _ _ (Ql _)];simp
def Fh(B:bM X scope xs)(hc:X.calm=true)(hT:lf X scope xs tg g un)(hi:PI X tg iter wi)(hbody:∀Xc,bL X scope xs Xc->hW Xc ifs tc/\PE Xc elt te)
  (hs:∀v,Km iter X.env v=pure v:=by intro _;rfl):PE X (.ListComp elt [⟨tg,iter,ifs,0⟩] scope pos) (iP un wi tc te):=by
 intro pins s σ H Q I h;rw[eval_ListComp];refine Lg (use:=none) (cl:=vD X.env scope.names []) rfl hs (vw B I.ok) B.kind B.locs ?_;refine aY (hi pins s σ H _ I h) λxv s1 h1=>aY h1 λitv s2 h2=>?_;obtain⟨it,fp,tn,J,H2,e,I2,T,st2,f2,q2⟩:=h2;subst e;refine KS ?_;have I3:=I2.lnew (its:=[]) (ys:=[]) (t':=s2.toks) .nil (Vm _);obtain⟨W,⟨m0,w0⟩,turn⟩:=q2 s2.heap.objs.size (I2.hok.fresh (Ql _));have fp3:∀b∈fp,gi X pins (aK H2 s2.heap.objs.size (.lst [])) b:=λb hb=>by
  obtain⟨o,e,_⟩:=T.obj _ _ st2 b hb;exact⟨by rw[zf (QS (Qp e))];exact(f2 b hb).1,(f2 b hb).2⟩
 obtain⟨b1,b2,b3⟩:=I3.below;refine jB B hc hT.pg (λv H vs os h1 h2=>hT.un v H vs os σ I.len h1 h2) hbody I3 T (T.keep _ _ _ st2 λb _ o e=>Qi _ e) fp3 W m0 w0 λi m ys H4 w=>?_;rcases turn i m ys H4 w with⟨stop,q⟩|r
 .exact .inl ⟨stop,λs' m' C I' hn hC hCn=>⟨m',hn,λh' hsb=>⟨.ref s2.heap.objs.size,H4,I'.aside hC b1 b2 b3 hCn hsb,rfl,q⟩⟩⟩
 .exact .inr r
def Hv (B:bM X scope xs)(hc:X.calm=true)(hT:lf X scope xs tg g un)(hi:PI X tg iter wi)(hbody:∀Xc,bL X scope xs Xc->hW Xc ifs tc/\PE Xc elt te)(hN:X.N.Nodup)(hy:X.N[i]?=some y)(hx:Loc X.env.scope y)(hf:X.fn y=true\/X.env.scope.names.lookup y=some .local)(hsw:Kd (.ListComp elt [⟨tg,iter,ifs,0⟩] scope pos) (some (.Name y py)) spos.line X.env=pure true)(hs:∀v,Km iter X.env v=pure v:=by intro _;rfl):PS X (.Assign [.Name y py] (.ListComp elt [⟨tg,iter,ifs,0⟩] scope pos) spos) (fL (iP un wi tc te) (wl i)):=by
 intro pins s σ H D I h;rw[exec_Assign_Name_used _ _ _ _ hsw];refine Kf (Kh (Kf ?_));show J5 _ X.A (do let _ <-comprehension (.ListComp elt [⟨tg,iter,ifs,0⟩] scope pos) scope X.env _ (newList []) false (eval iter X.env) (some (assign (.Name y py) X.env))) _ _ s;refine Kf (J9 (Lg (use:=some (assign (.Name y py) X.env)) (cl:=vD X.env scope.names []) (Q:=λ_ s'=>SP X pins D .next s') rfl hs (vw B I.ok) B.kind B.locs ?_)
  (λ_ s' hq=>Kk (Kk hq)) λ_ _ e=>e)
 refine aY (hi pins s σ H _ I h) λxv s1 h1=>aY h1 λitv s2 h2=>?_;obtain⟨it,fp,tn,J,H2,e,I2,T,st2,f2,q2⟩:=h2;subst e;refine KS ?_;have I3:=I2.lnew (its:=[]) (ys:=[]) (t':=s2.toks) .nil (Vm _);obtain⟨W,⟨m0,w0⟩,turn⟩:=q2 s2.heap.objs.size (I2.hok.fresh (Ql _));have fp3:∀b∈fp,gi X pins (aK H2 s2.heap.objs.size (.lst [])) b:=λb hb=>by
  obtain⟨o,e,_⟩:=T.obj _ _ st2 b hb;exact⟨by rw[zf (QS (Qp e))];exact(f2 b hb).1,(f2 b hb).2⟩
 obtain⟨b1,b2,b3⟩:=I3.below;refine jB B hc hT.pg (λv H vs os h1 h2=>hT.un v H vs os σ I.len h1 h2) hbody I3 T (T.keep _ _ _ st2 λb _ o e=>Qi _ e) fp3 W m0 w0 λi' m ys H4 w=>?_;rcases turn i' m ys H4 w with⟨stop,q⟩|r
 .refine .inl ⟨stop,λs' m' C I' hn hC hCn=>?_⟩;refine wpAny_assign_Name (gp I' hN hy hx (v:=.ref s2.heap.objs.size) rfl (λs'' I'' ⟨a,sb,ha⟩=>?_) hf);have hCa:C≠a:=by
   rcases ha with rfl|ha
   .exact WY (Qf b1 hC)
   .exact WY (Qf (b2 _ _ ha) hC)
  exact⟨m',hn.sameBut sb hCa,λh' hsb=>⟨_,H4,I''.aside hC b1 b2 b3 hCn hsb,q⟩⟩
 .exact .inr r
end
section
variable{X:Cx}
theorem az.at (h:az xs us){i:Nat}(e:us[i]?=some u):∃x,xs[i]?=some x/\RelV x u:=by
 have hl:=h.length;have hi:=(Qa.mp e).1;have hx:xs[i]?=some xs[i]:=Qc (by lia);obtain⟨u',h1,h2⟩:=h.get hx;rw[e]at h1;cases h1;exact⟨_,hx,h2⟩
def GU(bs:List Bool):(QI bs.length).all (λi=>bs.getD i true)=bs.all id:=by
 rw[Vq,QE,QE];constructor
 .intro h b hb;obtain⟨i,hi,e⟩:=List.getElem_of_mem hb;have:=h i (by simpa using hi);rw[Qd,Qc hi]at this;simpa [e]using this
 .intro h i hi;have hi':i<bs.length:=by simpa using hi
  rw[Qd,Qc hi'];exact h _ (QC hi')
def qX(hc:X.calm=true):aS X (.builtin "all") (λxs H Q=>∃(p:Addr) (bs:List Bool),xs=[.ref p]/\bG X.K H p (bs.map V.bl)/\Q (.bl (bs.all id)) H):=by
 intro pins s σ H xs us Q I r h;obtain⟨p,bs,rfl,hq,q⟩:=h;obtain⟨u,rfl,rx⟩:=vN r;cases rx;obtain⟨its,r',pl,hz⟩:=I.list hq;have hlen:=r'.length;have hp:∃o,s.heap.get? p=some o:=by obtain⟨o,ho,_⟩:=pl.isList;exact⟨o,ho⟩
 obtain⟨o,ho⟩:=hp;have hlt:=Qp ho;refine call_all_walk (Kl pl.isList ?_);refine⟨s.heap.objs.size,_,_,_,_,_,λi=>bs.getD i true,rfl,Walks.list (A:=X.A.in1) (I.ok.hd hc) s.heap.objs.size p (QS hlt) its.toArray,⟨⟨_,QR _ rfl,rfl,rfl⟩,pl.isList.at λo e=>Qi _ e⟩,?_,λh' tk hk=>?_⟩
 .intro i v s2 Q2 E2 hv hQ;have hv':its[i]?=some v:=by simpa using hv
  obtain⟨y,hy,ry⟩:=r'.at hv';rw[Qs]at hy;cases hb:bs[i]? with
  |none=>rw[hb]at hy;cases hy
  |some b=>
   rw[hb]at hy;cases hy;have:v=.bool b:=ry;subst this;have e:bs.getD i true=b:=by rw[Qd,hb];rfl
   have hQ':Q2 (bs.getD i true) s2:=hQ;rw[e]at hQ';exact Ka hQ'
 .have e:its.toArray.size=bs.length:=by simp at hlen ⊢;lia
  rw[e,GU];exact⟨.bl (bs.all id),H,I.kept (t':=tk) λb o e=>hk b o (λhb=>by
   have:b=s.heap.objs.size:=by simpa using hb
   exact LH (Qp e) (by rw[this];exact QY _)) (Qi _ e),rfl,q⟩
theorem jc(ns:List Int):∀n,n<=ns.length->preSum (λi=>ns.getD i 0) n=(ns.take n).sum
 |0,_=>by simp[preSum]
 |n+1,h=>by
  have e:ns[n]?=some (ns.getD n 0):=by rw[Qd,Qc (by lia)];rfl
  rw[preSum,jc ns n (by lia),Wq,e,Vn];simp
def qY(hc:X.calm=true):aS X (.builtin "sum") (λxs H Q=>∃(p:Addr) (ns:List Int),xs=[.ref p]/\bG X.K H p (ns.map V.int)/\Q (.int ns.sum) H):=by
 intro pins s σ H xs us Q I r h;obtain⟨p,ns,rfl,hq,q⟩:=h;obtain⟨u,rfl,rx⟩:=vN r;cases rx;obtain⟨its,r',pl,hz⟩:=I.list hq;have hlen:=r'.length;have hp:∃o,s.heap.get? p=some o:=by obtain⟨o,ho,_⟩:=pl.isList;exact⟨o,ho⟩
 obtain⟨o,ho⟩:=hp;have hlt:=Qp ho;refine call_sum_walkG (Kl pl.isList ?_);refine⟨s.heap.objs.size,_,_,_,_,_,λi=>ns.getD i 0,rfl,Walks.list (A:=X.A.in1) (I.ok.hd hc) s.heap.objs.size p (QS hlt) its.toArray,⟨⟨_,QR _ rfl,rfl,rfl⟩,pl.isList.at λo e=>Qi _ e⟩,?_,?_,λh' tk t' hk=>?_⟩
 .intro b hb;have h1:s.heap.objs.size<(s.heap.push {cls:=.type "list_iterator",data:=.fields #[.ref p,.int 0 0]}).objs.size:=Qp (QR _ rfl);have:b=s.heap.objs.size\/b=p:=by simpa using hb
  rcases this with rfl|rfl
  .exact h1
  .exact Nat.lt_trans hlt h1
 .intro i v hv;have hv':its[i]?=some v:=by simpa using hv
  obtain⟨y,hy,ry⟩:=r'.at hv';rw[Qs]at hy;cases hb:ns[i]? with
  |none=>rw[hb]at hy;cases hy
  |some b=>
   rw[hb]at hy;cases hy;obtain⟨t,rfl⟩:=(ry:∃t,v=.int b t);have e:ns.getD i 0=b:=by rw[Qd,hb];rfl
   exact⟨t,by show Value.int b t=Value.int (ns.getD i 0) t;rw[e]⟩
 .have e:its.toArray.size=ns.length:=by simp at hlen ⊢;lia
  rw[e,jc ns ns.length (Ql _),List.take_length];exact⟨.int ns.sum,H,I.kept (t':=tk) λb o e=>hk b o (λhb=>by
   have:b=s.heap.objs.size:=by simpa using hb
   exact LH (Qp e) (by rw[this];exact QY _)) (Qi _ e),⟨t',rfl⟩,q⟩
noncomputable def B5(ta:TA):TE:=λσ H Q=>ta σ H λvs H1=>∃j:Int,vs=[.int j]/\-(2^30)<=j/\j<2^24/\j.toNat<=sizeLine/\∀l,H1 l=none->Q (.ref l) (aK H1 l (.lst ((QI j.toNat).map λ(i:Nat)=>V.int ((0:Int)+1*(i:Int)))))
def Fg (hc:X.calm=true)(hgl:Gl X "list")(hml:X.mg "list"=none)(hg:Gl X "range")(hm:X.mg "range"=none)(ha:PA X [a] ta)(hs:J8 [a] X.env=[(false,eval a X.env)]:=by rfl):
  PE X (.Call (.Name "list" p) [.Call (.Name "range" p') [a] [] pos'] [] pos) (B5 ta):=by
 intro pins s σ H Q I h;refine KB (kD I hgl hml PyProof.Rows.boot_list ?_ (by decide) (by decide));refine PyProof.Rows.callWith_type1 ?_ rfl rfl;refine Calls.spliced_cons ?_;refine Call_ (kD I hg hm boot_range (PyProof.Rows.callWith_type1 (aY (ha pos' pins s σ H _ I h) λus s1 ⟨vs,H1,I1,r1,q1⟩=>?_) hs rfl));obtain⟨j,e,q1,q2,q3,q⟩:=q1;subst e;cases r1 with
 |cons r rr=>
  cases rr;obtain⟨t,rfl⟩:=r;refine call_range_1 (Calls.spliced_nil ?_);have hn:Builtin.Range.rangeSize 0 j 1=(j.toNat:Int):=by rw[rangeSize_one];split<;>lia
  refine call_list_range (n:=j.toNat) (I1.ok.hd hc) (IsRange.new ..) (small_one (by lia) (by lia) (by lia) (by lia)) hn (by lia) λh' tk acc' c' kp e hacc=>?_;have I2:Inv X pins σ H1 {s1 with heap:=s1.heap.push {cls:=.type "range",data:=.fields #[.int 0 s1.toks,.int j t,.int 1 (s1.toks+1)]},toks:=s1.toks+1+1}:=I1.kept λb o e=>Qi _ e;have hv:az ((QI j.toNat).map λ(i:Nat)=>V.int ((0:Int)+1*(i:Int))) acc'.toList:=by
   have gen:∀(us:List Value) (n:Nat),us.length=n->∀m:Nat,(∀i v,us[i]?=some v->∃t,v=Value.int ((0:Int)+((m+i:Nat):Int)*1) t)->az ((List.range' m n).map λ(i:Nat)=>V.int ((0:Int)+1*(i:Int))) us:=by
    intro us
    induction us with
    |nil=>intro n hn m _;simp at hn;subst hn;exact .nil
    |cons u us ih=>
     intro n hn m hu;cases n with
     |zero=>simp at hn
     |succ n=>
      rw[List.range'_succ,Wg];obtain⟨t,rfl⟩:=hu 0 u rfl;refine .cons ⟨t,?_⟩ (ih n (by simpa using hn) (m+1) λi v hv=>?_)
      .congr 1;simp
      .obtain ⟨t,e⟩:=hu (i+1) v (by simpa using hv);exact⟨t,by rw[e];congr 2;congr 1;lia⟩
   have:=gen acc'.toList j.toNat (by rw[WG];exact hacc.1) 0 (λi v hv=>by
    obtain⟨t,e⟩:=hacc.2 i v (by simpa using hv);exact⟨t,by rw[e];simp⟩)
   rw[<-List.range_eq_range']at this;exact this
  refine⟨.ref _,_,I2.laid (t':=tk) kp (Ql _) (show bc X.prog X.w _ h' _ (.lst ((QI j.toNat).map λ(i:Nat)=>V.int ((0:Int)+1*(i:Int))))from⟨by simpa using q3,acc'.toList,c',hv,by simpa using e⟩),rfl,q _ (I2.hok.fresh (Ql _))⟩
end
abbrev TK:=List Int×Addr×Value
noncomputable def iN(x:TK):JR:=⟨reduceHash (Builtin.Tuple.tupleHashOf (x.1.map hashInt)),.ref x.2.1,x.2.2⟩
noncomputable def B4(d:Addr)(xs:List TK):HO:=.ext λh=>(d==JV)=false/\∃o es,h.get? d=some o/\o.ExactDict/\o.data=.dict es xs.length/\es.toList=xs.map iN/\(xs.map (·.1)).Nodup
theorem tY:∀{k:List Int}{us:List Value},az (k.map V.int) us->ItemsAre (JX P w) k us
 |[],_,.nil=>.nil
 |i::_,_,.cons p q=>by
  obtain⟨t,rfl⟩:=p;exact .cons (by show Value.isInt i (.int i t)=true;simp[Value.isInt]) (tY q)
noncomputable def rQ(K:Qb)(H:Hp)(d:Addr)(xs:List TK):Prop:=H d=some (B4 d xs)/\∀x∈xs,bT K H x.2.1 (x.1.map V.int)
section
variable{X:Cx}{pins:List (Addr×Obj)}{σ:St}{H:Hp}{s:Shared}
def tX (I:Inv X pins σ H s)(h:bT X.K H a (k.map V.int)):Lh (JX X.prog X.w) s.heap k a:=by
 obtain⟨its,r,⟨o,ho,hc,n,hd⟩,_⟩:=I.tuple h;exact⟨o,its.toArray,n,ho,hc,hd,tY r⟩
def Gp (I:Inv X pins σ H s)(h:rQ X.K H d xs):(d==JV)=false/\s.heap.DictOfH (JW (JX X.prog X.w)) d xs:=by
 obtain⟨h1,h2⟩:=h;obtain⟨⟨a0,o,es,a1,a2,a3,a4,a5⟩,_,_⟩:=I.hok d _ h1;exact⟨a0,o,es,_,a1,a2,a3,a4,λx hx=>tX I (h2 x hx),a5⟩
end
end L2
namespace Mini
inductive Wd where
 |non|bl (b:Bool)|int (i:Int)|str (s:List Nat)|tup (xs:List Wd)|rol (xs:List Wd)|ref (l:Nat)
deriving Inhabited
inductive Ob where
 |lst (xs:List Wd)
deriving Inhabited
abbrev Me:=List Ob
set_option tactic.hygienic true in
abbrev En:=List (Option Wd)
set_option genInjectivity false in
inductive Rz where
 |ok (w:Wd) (m:Me)|exc (c:Nat) (w:Wd) (m:Me)|no
deriving Inhabited
set_option genInjectivity false in
inductive Rs where
 |next (e:En) (m:Me)|ret (w:Wd) (m:Me)|brk (e:En) (m:Me)|cont (e:En) (m:Me)
 |exc (c:Nat) (w:Wd) (e:En) (m:Me)|no
deriving Inhabited
inductive Bo where|add|sub|mul|fdiv|mod|pow|shr|band
deriving DecidableEq
inductive Co where|eq|ne|lt|le|gt|ge|isN|notN|isin
deriving DecidableEq
inductive Tg where|int|bool|list|tuple|str|dict
deriving DecidableEq
inductive dW where|len|int|list|tuple|sum|all|abs|max2|sortI
deriving DecidableEq
inductive dC where|append|pop|reverse|clear|insert
deriving DecidableEq
inductive Dk where|srt|rvl
deriving DecidableEq
set_option genInjectivity false in
inductive Ex where
 |var (i:Nat)|lit (w:Wd)
 |bin (op:Bo) (a b:Ex)|neg (a:Ex)|not (a:Ex)|and (a b:Ex)|or (a b:Ex)
 |cmp (op:Co) (a b:Ex)|chain (p q:Co) (a b c:Ex)
 |unit|pair (a b:Ex)
 |call (k:Nat) (args:Ex)|blt (b:dW) (args:Ex)|isi (t:Tg) (a:Ex)
 |lst (args:Ex)|tup (args:Ex)
 |idx (a b:Ex)  |slH (a hi:Ex)
 |meth (n:dC) (o args:Ex)
 |rng (a b c:Ex)
 |comp (elt it cond:Ex)
 |lrng (a:Ex)
 |dop (k:Dk) (a b c:Ex)
deriving Inhabited
set_option genInjectivity false in
inductive Sm where
 |skip|seq (a b:Sm)
 |asg (i:Nat) (e:Ex)|asgS (o i e:Ex)
 |ite (c:Ex) (a b:Sm)|forv (i:Nat) (it:Ex) (body:Sm)|fort (i j:Nat) (it:Ex) (body:Sm)|while (c:Ex) (body:Sm)
 |ret (e:Ex)  |expr (e:Ex)   |never
 |appPop (j a x:Nat) (e:Ex)
 |for3 (i j k:Nat) (it:Ex) (body:Sm)
deriving Inhabited
noncomputable def au:Nat:=100000
noncomputable def cv:Int:=18446744073709551616
noncomputable def yx(i:Int):Bool:=decide (-cv<i)&&decide (i<cv)
noncomputable def cD(p:Wd->Wd->Option Bool):List Wd->List Wd->Option Bool
 |x::xs,y::ys=>match p x y with
  |some a=>(cD p xs ys).map (a && ·)
  |none=>none
 |_,_=>some true
noncomputable def b2i(b:Bool):Int:=if b then 1 else 0
noncomputable def aT(m:Me)(l:Nat):Bool:=match m[l]? with
 |some (.lst _)=>true
 |_=>false
noncomputable def sU:Wd->Bool
 |.rol _=>false
 |_=>true
noncomputable def cm(m:Me):Nat->Wd->Wd->Option Bool
 |0,_,_=>none
 |k+1,x,y=>match x,y with
  |.tup a,.tup b=>(cD (cm m k) a b).map (· && decide (a.length=b.length))
  |.ref a,.ref b=>if a=b then(if aT m a then some true else none)else match m[a]?,m[b]? with
   |some (.lst xs),some (.lst ys)=>if xs.length=ys.length then cD (cm m k) xs ys else some false
   |_,_=>none
  |.ref a,y=>if aT m a&&sU y then some false else none
  |x,.ref b=>if aT m b&&sU x then some false else none
  |.rol _,_=>none
  |_,.rol _=>none
  |.non,.non=>some true
  |.bl a,.bl b=>some (a==b)
  |.int a,.int b=>some (decide (a=b))
  |.bl a,.int b=>some (decide (b2i a=b))
  |.int a,.bl b=>some (decide (a=b2i b))
  |.str a,.str b=>some (decide (a=b))
  |_,_=>some false
noncomputable def yJ:Nat:=12
noncomputable def ef(p:Wd->Wd->Option Bool)(x:Wd):List Wd->Option Bool
 |[]=>some false
 |y::ys=>match p y x with
  |some a=>(ef p x ys).map (a || ·)
  |none=>none
noncomputable def ix(n:Nat)(i:Int):Option Nat:=
 if 0<=i then(if i<n then some i.toNat else none)else if -(n:Int)<=i then some (i+n).toNat else none
noncomputable def alloc(m:Me)(xs:List Wd):Rz:=if xs.length<=au then .ok (.ref m.length) (m++[.lst xs])else .no
noncomputable def zN(m:Me)(l:Nat):Option (List Wd):=match m[l]? with
 |some (.lst xs)=>some xs
 |_=>none
noncomputable def yr(m:Me):Wd->Option (List Wd)
 |.tup xs=>some xs
 |.rol xs=>some xs
 |.ref l=>zN m l
 |_=>none
noncomputable def cz(op:Bo)(x y:Wd)(m:Me):Rz:=match x,y with
 |.int i,.int j=>match op with
  |.add=>.ok (.int (i+j)) m
  |.sub=>.ok (.int (i-j)) m
  |.mul=>if yx i || yx j then .ok (.int (i*j)) m else .no
  |.fdiv=>if 0<j/\j<1073741824 then .ok (.int (i/j)) m else .no
  |.mod=>if 0<j then .ok (.int (i%j)) m else .no
  |.pow=>if 0<=j/\j<=1000000/\yx i=true then .ok (.int (i^j.toNat)) m else .no
  |.shr=>if 0<=j/\j<=1000 then .ok (.int (i/2^j.toNat)) m else .no
  |.band=>if 0<=i/\j=1 then .ok (.int (i%2)) m else .no
 |.ref a,.ref b=>match op,m[a]?,m[b]? with
  |.add,some (.lst xs),some (.lst ys)=>alloc m (xs++ys)
  |_,_,_=>.no
 |.ref a,.int k=>match op,m[a]? with
  |.mul,some (.lst xs)=>if -au<=k/\k<=au then alloc m (Qu k.toNat xs).flatten else .no
  |_,_=>.no
 |.tup xs,.tup ys=>match op with
  |.add=>if xs.length+ys.length<=au then .ok (.tup (xs++ys)) m else .no
  |_=>.no
 |_,_=>.no
noncomputable def dF(o:Option Bool)(m:Me):Rz:=match o with
 |some b=>.ok (.bl b) m
 |none=>.no
noncomputable def jC(r:Int->Int->Bool)(x y:Wd)(m:Me):Rz:=match x,y with
 |.int i,.int j=>.ok (.bl (r i j)) m
 |_,_=>.no
noncomputable def wQ:List Wd->Option (List Int)
 |[]=>some []
 |.int i::r=>(wQ r).map (i::·)
 |_=>none
noncomputable def nX(m:Me)(x y:Wd):Option Bool:=match y with
 |.ref l=>match m[l]? with
  |_=>none
 |_=>none
noncomputable def cop(op:Co)(x y:Wd)(m:Me):Rz:=match op with
 |.eq=>dF (cm m yJ x y) m
 |.ne=>dF ((cm m yJ x y).map (!·)) m
 |.isN=>match y,x with
  |.non,.non=>.ok (.bl true) m
  |.non,_=>.ok (.bl false) m
  |_,_=>.no
 |.notN=>match y,x with
  |.non,.non=>.ok (.bl false) m
  |.non,_=>.ok (.bl true) m
  |_,_=>.no
 |.isin=>match yr m y with
  |some ys=>dF (ef (cm m yJ) x ys) m
  |none=>dF (nX m x y) m
 |.lt=>jC (λi j=>decide (i<j)) x y m
 |.le=>jC (λi j=>decide (i<=j)) x y m
 |.gt=>jC (λi j=>decide (j<i)) x y m
 |.ge=>jC (λi j=>decide (j<=i)) x y m
noncomputable def dq(t:Tg)(x:Wd)(m:Me):Option Bool:=match t,x with
 |.int,.int _=>some true
 |.int,.bl _=>some true
 |.bool,.bl _=>some true
 |.str,.str _=>some true
 |.tuple,.tup _=>some true
 |.list,.rol _=>some true
 |t,.ref l=>match m[l]? with
  |some (.lst _)=>some (decide (t=.list))
  |none=>none
 |_,_=>some false
noncomputable def aP(n d:Nat):Option Int->Nat
 |none=>d
 |some v=>if v<0 then(v+(n:Int)).toNat else min v.toNat n
noncomputable def eP:List Wd->Option Int
 |[]=>some 0
 |.int i::r=>(eP r).map (i+·)
 |_=>none
noncomputable def eM:List Wd->Option Bool
 |[]=>some true
 |.bl b::r=>(eM r).map (b && ·)
 |_=>none
noncomputable def jh(m:Me):Wd->Option (List Wd)
 |.rol xs=>some xs
 |.ref l=>zN m l
 |_=>none
noncomputable def nO:List Int->List Int->Bool
 |[],[]=>false
 |[],_::_=>true
 |_::_,[]=>false
 |x::xs,y::ys=>if x=y then nO xs ys else decide (x<y)
noncomputable def rO:List (List Int)->Bool
 |x::y::r=>nO x y&&(decide (x.length=y.length)&&decide (x.head?=y.head?))&&rO (y::r)
 |_=>true
noncomputable def fN{α β:Type}:List α->(List α->β)->β
 |[],k=>k []
 |x::xs,k=>fN xs λys=>k (x::ys)
noncomputable def oo{β:Type}(i:Int)(k:Int->β):β:=match i with
 |.ofNat 0=>k 0
 |.ofNat (n+1)=>k (.ofNat (n+1))
 |.negSucc 0=>k (-1)
 |.negSucc (n+1)=>k (.negSucc (n+1))
noncomputable def rg{β:Type}:List Int->(List Int->β)->β
 |[],k=>k []
 |x::xs,k=>oo x λy=>rg xs λys=>k (y::ys)
noncomputable def rN{β:Type}:List (List Int)->(List (List Int)->β)->β
 |[],k=>k []
 |x::xs,k=>rg x λy=>rN xs λys=>k (y::ys)
noncomputable def pY{α:Type}(p:List Int×α):List (List Int×α)->List (List Int×α)
 |[]=>[p]
 |q::r=>if nO p.1 q.1 then p::q::r else q::pY p r
noncomputable def rM{α:Type}:List (List Int×α)->List (List Int×α)
 |[]=>[]
 |p::r=>fN (rM r) λs=>pY p s
noncomputable def lZ(α:Type)(ks:List (List Int))(xs:List α):Option (List α):=rN ks λks=>fN xs λxs=>fN (ks.zip xs) λz=>fN (rM z) λs=>if rO (s.map Prod.fst)then some (s.map Prod.snd)else none
noncomputable def fq(ns:List Int):List Int:=ns.mergeSort λa b=>decide (a<=b)
noncomputable def jD(b:dW)(ws:List Wd)(m:Me):Rz:=match b with
 |.sortI=>match ws with
  |[x]=>match (jh m x).bind wQ with
   |some k=>if k.length<64 then alloc m ((fq k).map Wd.int)else .no
   |none=>.no
  |_=>.no
 |.len=>match ws with
  |[x]=>match yr m x with
   |some xs=>.ok (.int xs.length) m
   |none=>.no
  |_=>.no
 |.int=>match ws with
  |[.int i]=>.ok (.int i) m
  |[.bl b]=>.ok (.int (b2i b)) m
  |_=>.no
 |.list=>match ws with
  |[x]=>match yr m x with
   |some xs=>alloc m xs
   |none=>.no
  |_=>.no
 |.tuple=>match ws with
  |[x]=>match yr m x with
   |some xs=>.ok (.tup xs) m
   |none=>.no
  |_=>.no
 |.sum=>match ws with
  |[x]=>match (jh m x).bind eP with
   |some i=>.ok (.int i) m
   |none=>.no
  |_=>.no
 |.all=>match ws with
  |[x]=>match (jh m x).bind eM with
   |some i=>.ok (.bl i) m
   |none=>.no
  |_=>.no
 |.abs=>match ws with
  |[.int i]=>.ok (.int (if i<0 then -i else i)) m
  |_=>.no
 |.max2=>match ws with
  |[.int i,.int j]=>.ok (.int (if j > i then j else i)) m
  |_=>.no
noncomputable def b6(n:dC)(o:Wd)(ws:List Wd)(m:Me):Rz:=match o with
 |.ref l=>match m[l]? with
  |some (.lst xs)=>match n,ws with
   |.append,[y]=>if xs.length<au then .ok .non (m.set l (.lst (xs++[y])))else .no
   |.pop,[]=>match xs[xs.length-1]? with
    |some y=>.ok y (m.set l (.lst xs.dropLast))
    |none=>.no
   |.reverse,[]=>.ok .non (m.set l (.lst xs.reverse))
   |.pop,[.int k]=>if k=0 then match xs with
    |y::r=>.ok y (m.set l (.lst r))
    |[]=>.no
    else .no
   |.insert,[.int k,y]=>if k=0/\xs.length<au then .ok .non (m.set l (.lst (y::xs)))else .no
   |_,_=>.no
  |_=>.no
 |_=>.no
noncomputable def yn(x:Wd)(m:Me):Bool:=match x with
 |.ref l=>aT m l
 |_=>false
noncomputable def vG(o i v:Wd)(m:Me):Rz:=match o,i with
 |.ref l,.int k=>match m[l]? with
  |some (.lst xs)=>match ix xs.length k with
   |some j=>.ok .non (m.set l (.lst (xs.set j v)))
   |none=>.no
  |_=>.no
 |_,_=>.no
noncomputable def vq(x y:Wd)(m:Me):Rz:=match y with
 |.int i=>match yr m x with
  |some xs=>match (ix xs.length i).bind λj=>xs[j]? with
   |some v=>.ok v m
   |none=>.no
  |none=>.no
 |_=>.no
noncomputable def eR(x:Wd)(lo hi:Option Int)(m:Me):Rz:=match x with
 |.tup xs=>if aP xs.length 0 lo=0/\aP xs.length xs.length hi=xs.length then .no else .ok (.tup ((xs.drop (aP xs.length 0 lo)).take (aP xs.length xs.length hi-aP xs.length 0 lo))) m
 |x=>match jh m x with
 |some xs=>alloc m ((xs.drop (aP xs.length 0 lo)).take (aP xs.length xs.length hi-aP xs.length 0 lo))
 |none=>.no
noncomputable def ji(lo st:Int):Nat->List Wd
 |0=>[]
 |n+1=>.int lo::ji (lo+st) st n
noncomputable def iF:List Wd->Option (List (List Int))
 |[]=>some []
 |.tup ws::r=>match wQ ws,iF r with
  |some [a,b,c],some ks=>some ([a,b,c]::ks)
  |_,_=>none
 |_=>none
noncomputable def lN(x:Wd)(m:Me):Option (List (List Int)):=match x with
 |.ref l=>(zN m l).bind iF
 |_=>none
noncomputable def pW(k:Dk)(x:Wd)(m:Me):Bool:=match k with
 |.srt=>true
 |.rvl=>true
noncomputable def iE(k:Dk)(x y z:Wd)(m:Me):Rz:=match k with
 |.srt=>match lN x m with
  |some ks=>match lZ (List Int) (ks.map (0::·)) ks with
   |some es=>alloc m (es.reverse.map λk=>.tup [.int (k.getD 1 0),.int (k.getD 2 0)])
   |none=>.no
  |none=>.no
 |.rvl=>match jh m x with
  |some xs=>alloc m xs.reverse
  |none=>.no
noncomputable def vt(a b c:Int):Nat:=if c=1 then(b-a).toNat else if c=-1 then(a-b).toNat else if c=-2 then((a-b+1)/2).toNat else 0
noncomputable def eK(a b c:Wd)(m:Me):Rz:=match a,b,c with
 |.int a,.int b,.int c=>if -au<=a/\a<=au/\-au<=b/\b<=au/\(c=1\/c=-1\/c=-2)then .ok (.tup (ji a c (vt a b c))) m else .no
 |_,_,_=>.no
noncomputable def Rz.bind(r:Rz)(f:Wd->Me->Rz):Rz:=match r with
 |.ok w m=>f w m
 |r=>r
noncomputable def xy(c e:Wd->Me->Rz):List Wd->List Wd->Me->Rz
 |[],acc,m=>alloc m acc
 |x::xs,acc,m=>(c x m).bind λb m1=>match b with
  |.bl true=>(e x m1).bind λy m2=>if acc.length<au then xy c e xs (acc++[y]) m2 else .no
  |.bl false=>xy c e xs acc m1
  |_=>.no
noncomputable def xz(c e:Wd->Me->Rz)(l:Nat):Nat->Nat->List Wd->Me->Rz
 |0,_,_,_=>.no
 |k+1,i,acc,m=>match zN m l with
  |none=>.no
  |some xs=>match xs[i]? with
   |none=>alloc m acc
   |some x=>(c x m).bind λb m1=>match b with
    |.bl true=>(e x m1).bind λy m2=>if acc.length<au then xz c e l k (i+1) (acc++[y]) m2 else .no
    |.bl false=>xz c e l k (i+1) acc m1
    |_=>.no
noncomputable def zq:Wd->List Wd
 |.tup xs=>xs
 |_=>[]
noncomputable def af(cl:Nat->List Wd->Me->Rz):Ex->En->Me->Rz
 |.var i,env,m=>match env[i]? with
  |some (some w)=>.ok w m
  |_=>.no
 |.lit w,_,m=>.ok w m
 |.bin op a b,env,m=>(af cl a env m).bind λx m1=>(af cl b env m1).bind λy m2=>cz op x y m2
 |.neg a,env,m=>(af cl a env m).bind λx m1=>match x with
  |.int i=>.ok (.int (-i)) m1
  |_=>.no
 |.not a,env,m=>(af cl a env m).bind λx m1=>match x with
  |.bl b=>.ok (.bl (! b)) m1
  |_=>.no
 |.and a b,env,m=>(af cl a env m).bind λx m1=>match x with
  |.bl true=>af cl b env m1
  |.bl false=>.ok (.bl false) m1
  |_=>.no
 |.or a b,env,m=>(af cl a env m).bind λx m1=>match x with
  |.bl false=>af cl b env m1
  |.bl true=>.ok (.bl true) m1
  |_=>.no
 |.cmp op a b,env,m=>(af cl a env m).bind λx m1=>(af cl b env m1).bind λy m2=>cop op x y m2
 |.chain p q a b c,env,m=>(af cl a env m).bind λx m1=>(af cl b env m1).bind λy m2=>(cop p x y m2).bind λz m3=>match z with
  |.bl true=>(af cl c env m3).bind λu m4=>cop q y u m4
  |.bl false=>.ok (.bl false) m3
  |_=>.no
 |.unit,_,m=>.ok (.tup []) m
 |.pair a b,env,m=>(af cl a env m).bind λx m1=>(af cl b env m1).bind λy m2=>.ok (.tup (x::zq y)) m2
 |.call k a,env,m=>(af cl a env m).bind λx m1=>cl k (zq x) m1
 |.blt b a,env,m=>(af cl a env m).bind λx m1=>jD b (zq x) m1
 |.isi t a,env,m=>(af cl a env m).bind λx m1=>dF (dq t x m1) m1
 |.lst a,env,m=>(af cl a env m).bind λx m1=>alloc m1 (zq x)
 |.tup a,env,m=>(af cl a env m).bind λx m1=>if(zq x).length<=au then .ok (.tup (zq x)) m1 else .no
 |.idx a b,env,m=>(af cl a env m).bind λx m1=>(af cl b env m1).bind λy m2=>vq x y m2
 |.dop k a b c,env,m=>(af cl a env m).bind λx m1=>match pW k x m1 with
  |true=>(af cl b env m1).bind λy m2=>(af cl c env m2).bind λz m3=>iE k x y z m3
  |false=>.no
 |.slH a hi,env,m=>(af cl a env m).bind λx m1=>(af cl hi env m1).bind λy m2=>match y with
  |.int i=>eR x none (some i) m2
  |_=>.no
 |.meth n o a,env,m=>(af cl o env m).bind λx m1=>match yn x m1 with
  |true=>(af cl a env m1).bind λy m2=>b6 n x (zq y) m2
  |false=>.no
 |.rng a b c,env,m=>(af cl a env m).bind λx m1=>(af cl b env m1).bind λy m2=>(af cl c env m2).bind λz m3=>eK x y z m3
 |.comp elt it cond,env,m=>(af cl it env m).bind λx m1=>match x with
  |.tup xs=>xy (λx m=>af cl cond (env++[some x]) m) (λx m=>af cl elt (env++[some x]) m) xs [] m1
  |.rol xs=>xy (λx m=>af cl cond (env++[some x]) m) (λx m=>af cl elt (env++[some x]) m) xs [] m1
  |.ref l=>xz (λx m=>af cl cond (env++[some x]) m) (λx m=>af cl elt (env++[some x]) m) l (au+1) 0 [] m1
  |_=>.no
 |.lrng a,env,m=>(af cl a env m).bind λx m1=>match x with
  |.int j=>if -au<=j/\j<=au then alloc m1 (ji 0 1 j.toNat)else .no
  |_=>.no
noncomputable def xY(body:Wd->En->Me->Rs):List Wd->En->Me->Rs
 |[],env,m=>.next env m
 |x::xs,env,m=>match body x env m with
  |.next e1 m1=>xY body xs e1 m1
  |.cont e1 m1=>xY body xs e1 m1
  |.brk e1 m1=>.next e1 m1
  |r=>r
noncomputable def xP(body:Wd->En->Me->Rs)(l:Nat):Nat->Nat->En->Me->Rs
 |0,_,_,_=>.no
 |k+1,i,env,m=>match zN m l with
  |none=>.no
  |some xs=>match xs[i]? with
   |none=>.next env m
   |some x=>match body x env m with
    |.next e1 m1=>xP body l k (i+1) e1 m1
    |.cont e1 m1=>xP body l k (i+1) e1 m1
    |.brk e1 m1=>.next e1 m1
    |r=>r
noncomputable def jd(c:En->Me->Rz)(body:En->Me->Rs):Nat->En->Me->Rs
 |0,_,_=>.no
 |k+1,env,m=>match c env m with
  |.ok (.bl true) m1=>match body env m1 with
   |.next e1 m2=>jd c body k e1 m2
   |.cont e1 m2=>jd c body k e1 m2
   |.brk e1 m2=>.next e1 m2
   |r=>r
  |.ok (.bl false) m1=>.next env m1
  |.exc c w m1=>.exc c w env m1
  |_=>.no
noncomputable def Rz.bindS(r:Rz)(env:En)(f:Wd->Me->Rs):Rs:=match r with
 |.ok w m=>f w m
 |.exc c w m=>.exc c w env m
 |.no=>.no
noncomputable def qZ(body:Wd->En->Me->Rs)(w:Wd)(env:En)(m:Me):Rs:=match w with
 |.tup xs=>xY body xs env m
 |.rol xs=>xY body xs env m
 |.ref l=>xP body l (au+1) 0 env m
 |_=>.no
noncomputable def cJ(i j:Nat):Wd->En->Option En:=λw env=>match w with
 |.tup [a,b]=>some ((env.set i (some a)).set j (some b))
 |_=>none
noncomputable def iD(i j k:Nat):Wd->En->Option En:=λw env=>match w with
 |.tup [a,b,c]=>some (((env.set i (some a)).set j (some b)).set k (some c))
 |_=>none
noncomputable def yA(st:Wd->En->Option En)(b:En->Me->Rs):Wd->En->Me->Rs:=λw env m=>match st w env with
 |some env'=>b env' m
 |none=>.no
noncomputable def aI(cl:Nat->List Wd->Me->Rz):Sm->En->Me->Rs
 |.skip,env,m=>.next env m
 |.seq a b,env,m=>match aI cl a env m with
  |.next e1 m1=>aI cl b e1 m1
  |r=>r
 |.asg i e,env,m=>(af cl e env m).bindS env λw m1=>.next (env.set i (some w)) m1
 |.asgS o i e,env,m=>(af cl e env m).bindS env λw m1=>(af cl o env m1).bindS env λx m2=>(af cl i env m2).bindS env λy m3=>(vG x y w m3).bindS env λ_ m4=>.next env m4
 |.ite c a b,env,m=>(af cl c env m).bindS env λx m1=>match x with
  |.bl true=>aI cl a env m1
  |.bl false=>aI cl b env m1
  |_=>.no
 |.forv i it body,env,m=>(af cl it env m).bindS env λw m1=>qZ (λx e m=>aI cl body (e.set i (some x)) m) w env m1
 |.fort i j it body,env,m=>(af cl it env m).bindS env λw m1=>qZ (yA (cJ i j) (aI cl body)) w env m1
 |.while c body,env,m=>jd (af cl c) (aI cl body) 1000000 env m
 |.ret e,env,m=>(af cl e env m).bindS env λw m1=>.ret w m1
 |.expr e,env,m=>(af cl e env m).bindS env λ_ m1=>.next env m1
 |.appPop j a x e,env,m=>(af cl (.meth .append (.var j) (.pair (.bin .add (.var a) (.bin .mod (.meth .pop (.var x) (.pair (.lit (.int 0)) .unit)) e)) .unit)) env m).bindS env λ_ m1=>.next env m1
 |.for3 i j k it body,env,m=>(af cl it env m).bindS env λw m1=>qZ (yA (iD i j k) (aI cl body)) w env m1
 |.never,_,_=>.no
set_option genInjectivity false in
structure Fn where
 ar:Nat
 sz:Nat
 body:Sm
deriving Inhabited
noncomputable def yo(fn:Fn)(ws:List Wd):En:=ws.map some++Qu (fn.sz-ws.length) none
noncomputable def y4(cl:Nat->List Wd->Me->Rz)(fn:Fn)(ws:List Wd)(m:Me):Rz:=
 if ws.length=fn.ar then match aI cl fn.body (yo fn ws) m with
  |.next _ m1=>.ok .non m1
  |.ret w m1=>.ok w m1
  |.exc c w _ m1=>.exc c w m1
  |_=>.no
 else .no
noncomputable def zZ(T:List Fn):Nat->Nat->List Wd->Me->Rz
 |0,_,_,_=>.no
 |d+1,k,ws,m=>match T[k]? with
  |some fn=>y4 (zZ T d) fn ws m
  |none=>.no
end Mini
namespace Mini
open PySem PySem.Spec PyProof.Rows L2
abbrev St:=L2.St
noncomputable def KL(K:Qb)(a:Addr)(xs:List V):Prop:=
 ∃(o:Obj) (its:Array Value) (n:Nat),K.lookup a=some o/\o.cls=.type "list" /\ o.dict=none/\o.data=.seq its n/\its.size<=sizeLine/\az xs its.toList
noncomputable def eh(K:Qb)(H:Hp)(a:Addr)(vs:List V):Prop:=(∃o,H a=some (.frz o (.lst vs)))\/KL K a vs
def eh.sq {K:Qb}(h:eh K H a vs):bG K H a vs:=by
 rcases h with h|h
 .exact .inl (.inr h)
 .exact .inr h
mutual
noncomputable def aj(K:Qb)(as:List Addr)(H:Hp):Wd->V->Prop
 |.non,v=>v=.non
 |.bl b,v=>v=.bl b
 |.int i,v=>v=.int i
 |.str s,v=>v=.str ⟨s.toArray⟩
 |.tup xs,v=>∃a vs,v=.ref a/\bT K H a vs/\ae K as H xs vs
 |.rol xs,v=>∃a vs,v=.ref a/\eh K H a vs/\ae K as H xs vs
 |.ref l,v=>∃a,as[l]?=some a/\v=.ref a
noncomputable def ae(K:Qb)(as:List Addr)(H:Hp):List Wd->List V->Prop
 |[],vs=>vs=[]
 |x::xs,vs=>∃v r,vs=v::r/\aj K as H x v/\ae K as H xs r
end
noncomputable def bD(K:Qb)(as:List Addr)(H:Hp):Ob->Addr->Prop
 |.lst ws,a=>∃vs,H a=some (.lst vs)/\ae K as H ws vs
structure aQ(K:Qb)(as:List Addr)(m:Me)(H:Hp):Prop where
 len:as.length=m.length
 nd:as.Nodup
 obj:∀(l:Nat) (a:Addr) (o:Ob),as[l]?=some a->m[l]?=some o->bD K as H o a
structure Step(as:List Addr)(H:Hp)(as':List Addr)(H':Hp):Prop where
 pre:∃t,as'=as++t
 frame:∀b o,H b=some o->b∉as->H' b=some o
 fresh:∀a∈as',a∈as\/H a=none
section
variable{K:Qb}{as as' as2:List Addr}{H H' H2:Hp}{m m':Me}
def Step.refl:Step as H as H:=⟨⟨[],by simp⟩,λ_ _ h _=>h,λ_ h=>.inl h⟩
def Step.get (T:Step as H as' H'){l:Nat}(h:as[l]?=some a):as'[l]?=some a:=by
 obtain⟨t,rfl⟩:=T.pre;rw[Qq (Qa.mp h).1];exact h
def Step.out (T:Step as H as' H')(h:H b=some o)(hb:b∉as):b∉as':=λz=>by
 rcases T.fresh b z with q|q
 .exact hb q
 .rw[h]at q;cases q
def Step.trans(T:Step as H as' H')(U:Step as' H' as2 H2):Step as H as2 H2:=by
 refine⟨?_,λb o h hb=>U.frame b o (T.frame b o h hb) (T.out h hb),λa ha=>?_⟩
 .obtain ⟨t,rfl⟩:=T.pre;obtain⟨u,rfl⟩:=U.pre;exact⟨t++u,by simp⟩
 .rcases U.fresh a ha with q|q
  .exact T.fresh a q
  .by_cases z:a∈as
   .exact .inl z
   .refine .inr ?_;cases e:H a with
    |none=>rfl
    |some o=>rw[T.frame a o e z]at q;cases q
def aQ.get (S:aQ K as m H){l:Nat}(h:m[l]?=some o):∃a,as[l]?=some a/\bD K as H o a:=by
 have hl:l<as.length:=by rw[S.len];exact(Qa.mp h).1
 exact⟨as[l],by simp[hl],S.obj l _ o (by simp[hl]) h⟩
noncomputable def LD:HO->Prop
 |.lst _=>True
 |.ext _=>True
 |.dK _=>True
 |_=>False
def aQ.isLst (S:aQ K as m H)(h:a∈as):∃o,H a=some o/\LD o:=by
 obtain⟨l,hl,rfl⟩:=W5.mp h;have hm:l<m.length:=by rw[<-S.len];exact hl
 have q:=S.obj l as[l] m[l] (by simp[hl]) (by simp[hm]);cases e:m[l]with
 |lst ws=>
  rw[e]at q;obtain⟨vs,h1,_⟩:=q;exact⟨_,h1,trivial⟩
def GH (nt:∀a∈as,∃o,H a=some o/\LD o)(T:Step as H as' H')(h:bT K H a vs):bT K H' a vs:=by
 rcases h with h|h
 .have hn:a∉as:=λz=>by
   obtain⟨u,e,hu⟩:=nt a z;rcases h with h|⟨o,h⟩<;>rw[e]at h<;>cases h<;>exact hu
  rcases h with h|⟨o,h⟩
  .exact .inl (.inl (T.frame _ _ h hn))
  .exact .inl (.inr ⟨o,T.frame _ _ h hn⟩)
 .exact .inr h
def GG (nt:∀a∈as,∃o,H a=some o/\LD o)(T:Step as H as' H')(h:eh K H a vs):eh K H' a vs:=by
 rcases h with⟨o,h⟩|h
 .have hn:a∉as:=λz=>by
   obtain⟨u,e,hu⟩:=nt a z;rw[e]at h;cases h;exact hu
  exact .inl ⟨o,T.frame _ _ h hn⟩
 .exact .inr h
structure Kp(K:Qb)(H H':Hp):Prop where
 t:∀a vs,bT K H a vs->bT K H' a vs
 f:∀a vs,eh K H a vs->eh K H' a vs
def aQ.kp(S:aQ K as m H)(T:Step as H as' H'):Kp K H H':=⟨λ_ _ h=>GH (λ_ z=>S.isLst z) T h,λ_ _ h=>GG (λ_ z=>S.isLst z) T h⟩
def Kp.updL{D:Addr}{u o:HO}(h:H D=some u)(hu:LD u):Kp K H (L2.aK H D o):=by
 refine⟨λa vs q=>?_,λa vs q=>?_⟩
 .rcases q with (q|⟨x,q⟩)|q
  .exact .inl (.inl (by rw[zf (by rintro rfl;rw[h]at q;cases q;exact hu)];exact q))
  .exact .inl (.inr ⟨x,by rw[zf (by rintro rfl;rw[h]at q;cases q;exact hu)];exact q⟩)
  .exact .inr q
 .rcases q with⟨x,q⟩|q
  .exact .inl ⟨x,by rw[zf (by rintro rfl;rw[h]at q;cases q;exact hu)];exact q⟩
  .exact .inr q
def Kp.upd{D:Addr}{ys:List V}{o:HO}(h:H D=some (.lst ys)):Kp K H (L2.aK H D o):=Kp.updL h trivial
mutual
theorem jE(k:Kp K H H')(g:∀(l:Nat) (a:Addr),as[l]?=some a->as'[l]?=some a):∀(w:Wd) (v:V),aj K as H w v->aj K as' H' w v
 |.non,_,h=>by rw[aj]at h ⊢;exact h
 |.bl _,_,h=>by rw[aj]at h ⊢;exact h
 |.int _,_,h=>by rw[aj]at h ⊢;exact h
 |.str _,_,h=>by rw[aj]at h ⊢;exact h
 |.tup xs,v,h=>by
  rw[aj]at h ⊢;obtain⟨a,vs,e,q,r⟩:=h;exact⟨a,vs,e,k.t _ _ q,bp k g xs vs r⟩
 |.rol xs,v,h=>by
  rw[aj]at h ⊢;obtain⟨a,vs,e,q,r⟩:=h;exact⟨a,vs,e,k.f _ _ q,bp k g xs vs r⟩
 |.ref l,v,h=>by
  rw[aj]at h ⊢;obtain⟨a,q,e⟩:=h;exact⟨a,g _ _ q,e⟩
theorem bp(k:Kp K H H')(g:∀(l:Nat) (a:Addr),as[l]?=some a->as'[l]?=some a):∀(ws:List Wd) (vs:List V),ae K as H ws vs->ae K as' H' ws vs
 |[],_,h=>by rw[ae]at h ⊢;exact h
 |x::xs,vs,h=>by
  rw[ae]at h ⊢;obtain⟨v,r,e,q,t⟩:=h;exact⟨v,r,e,jE k g x v q,bp k g xs r t⟩
end
def aj.mono{w:Wd}{v:V}(h:aj K as H w v)(S:aQ K as m H)(T:Step as H as' H'):aj K as' H' w v:=jE (S.kp T) (λ_ _ e=>T.get e) w v h
def ae.mono{ws:List Wd}{vs:List V}(h:ae K as H ws vs)(S:aQ K as m H)(T:Step as H as' H'):ae K as' H' ws vs:=bp (S.kp T) (λ_ _ e=>T.get e) ws vs h
def ae.kp{ws:List Wd}{vs:List V}(h:ae K as H ws vs)(k:Kp K H H'):ae K as H' ws vs:=bp k (λ_ _ e=>e) ws vs h
def aj.kp{w:Wd}{v:V}(h:aj K as H w v)(k:Kp K H H'):aj K as H' w v:=jE k (λ_ _ e=>e) w v h
def ak:aj K as H .non v↔v=.non:=by rw[aj]
def ah:aj K as H (.bl b) v↔v=.bl b:=by rw[aj]
def aa:aj K as H (.int i) v↔v=.int i:=by rw[aj]
def ax:aj K as H (.str s) v↔v=.str ⟨s.toArray⟩:=by rw[aj]
def ai:aj K as H (.tup xs) v↔∃a vs,v=.ref a/\bT K H a vs/\ae K as H xs vs:=by rw[aj]
def ba:aj K as H (.rol xs) v↔∃a vs,v=.ref a/\eh K H a vs/\ae K as H xs vs:=by rw[aj]
def aJ:aj K as H (.ref l) v↔∃a,as[l]?=some a/\v=.ref a:=by rw[aj]
def aA:ae K as H [] vs↔vs=[]:=by rw[ae]
def am:ae K as H (x::xs) vs↔∃v r,vs=v::r/\aj K as H x v/\ae K as H xs r:=by rw[ae]
theorem ae.length:∀{xs:List Wd}{vs:List V},ae K as H xs vs->xs.length=vs.length
 |[],vs,h=>by rw[aA.mp h];rfl
 |x::xs,vs,h=>by
  obtain⟨v,r,rfl,_,t⟩:=am.mp h;simp[ae.length t]
theorem ae.get:∀{xs:List Wd}{vs:List V}{i:Nat}{x:Wd},ae K as H xs vs->xs[i]?=some x->∃v,vs[i]?=some v/\aj K as H x v
 |[],_,_,_,_,e=>by simp at e
 |x::xs,vs,0,y,h,e=>by
  obtain⟨v,r,rfl,q,t⟩:=am.mp h;simp at e;subst e;exact⟨v,rfl,q⟩
 |x::xs,vs,i+1,y,h,e=>by
  obtain⟨v,r,rfl,q,t⟩:=am.mp h;obtain⟨u,h1,h2⟩:=ae.get (i:=i) (x:=y) t (by simpa using e);exact⟨u,by simpa using h1,h2⟩
def ae.back:∀{xs:List Wd}{vs:List V}{i:Nat}{v:V},ae K as H xs vs->vs[i]?=some v->∃x,xs[i]?=some x/\aj K as H x v:=λ{xs vs i v} h e=>by
 have hi:i<xs.length:=by rw[h.length];exact(Qa.mp e).1
 obtain⟨u,h1,h2⟩:=h.get (i:=i) (x:=xs[i]) (by simp[hi]);rw[e]at h1;cases h1;exact⟨xs[i],by simp[hi],h2⟩
theorem ae.append:∀{xs ys:List Wd}{vs us:List V},ae K as H xs vs->ae K as H ys us->ae K as H (xs++ys) (vs++us)
 |[],ys,vs,us,h,h'=>by rw[aA.mp h];exact h'
 |x::xs,ys,vs,us,h,h'=>by
  obtain⟨v,r,rfl,q,t⟩:=am.mp h;exact am.mpr ⟨v,r++us,rfl,q,t.append h'⟩
def ae.one{x:Wd}{v:V}(h:aj K as H x v):ae K as H [x] [v]:=am.mpr ⟨v,[],rfl,h,aA.mpr rfl⟩
theorem ae.set:∀{xs:List Wd}{vs:List V}{x:Wd}{v:V}(i:Nat),ae K as H xs vs->aj K as H x v->ae K as H (xs.set i x) (vs.set i v)
 |[],vs,_,_,_,h,_=>by rw[aA.mp h];exact aA.mpr rfl
 |y::xs,vs,x,v,0,h,hx=>by
  obtain⟨u,r,rfl,q,t⟩:=am.mp h;exact am.mpr ⟨v,r,rfl,hx,t⟩
 |y::xs,vs,x,v,i+1,h,hx=>by
  obtain⟨u,r,rfl,q,t⟩:=am.mp h;exact am.mpr ⟨u,r.set i v,rfl,q,t.set i hx⟩
set_option tactic.hygienic true in
theorem ae.take:∀{xs:List Wd}{vs:List V}(n:Nat),ae K as H xs vs->ae K as H (xs.take n) (vs.take n)
 |_,_,0,_=>aA.mpr rfl
 |[],vs,n+1,h=>by rw[aA.mp h];exact aA.mpr rfl
 |x::xs,vs,n+1,h=>by
  obtain⟨v,r,rfl,q,t⟩:=am.mp h;exact am.mpr ⟨v,r.take n,rfl,q,t.take n⟩
theorem ae.drop:∀{xs:List Wd}{vs:List V}(n:Nat),ae K as H xs vs->ae K as H (xs.drop n) (vs.drop n)
 |_,_,0,h=>h
 |[],vs,n+1,h=>by rw[aA.mp h];exact aA.mpr rfl
 |x::xs,vs,n+1,h=>by
  obtain⟨v,r,rfl,q,t⟩:=am.mp h;exact t.drop n
theorem ae.reverse:∀{xs:List Wd}{vs:List V},ae K as H xs vs->ae K as H xs.reverse vs.reverse
 |[],vs,h=>by rw[aA.mp h];exact aA.mpr rfl
 |x::xs,vs,h=>by
  obtain⟨v,r,rfl,q,t⟩:=am.mp h;rw[Wc,Wc];exact t.reverse.append (.one q)
theorem ae.dropLast:∀{xs:List Wd}{vs:List V},ae K as H xs vs->ae K as H xs.dropLast vs.dropLast:=λ{xs vs} h=>by
 rw[WC,WC,h.length];exact h.take _
theorem ae.rep (h:ae K as H xs vs):∀k:Nat,ae K as H (Qu k xs).flatten (Qu k vs).flatten
 |0=>aA.mpr rfl
 |k+1=>by
  rw[QZ,QZ,We,We];exact h.append (ae.rep h k)
structure aE(K:Qb)(as:List Addr)(H:Hp)(env:En)(σ:St):Prop where
 len:env.length=σ.length
 get:∀(i:Nat) (w:Wd),env[i]?=some (some w)->∃v,σ[i]?=some (some v)/\aj K as H w v
theorem aE.mono{env:En}{σ:St}(G:aE K as H env σ)(S:aQ K as m H)(T:Step as H as' H'):aE K as' H' env σ:=
 ⟨G.len,λi w e=>let⟨v,h1,h2⟩:=G.get i w e;⟨v,h1,h2.mono S T⟩⟩
theorem aE.kp{env:En}{σ:St}(G:aE K as H env σ)(k:Kp K H H'):aE K as H' env σ:=
 ⟨G.len,λi w e=>let⟨v,h1,h2⟩:=G.get i w e;⟨v,h1,h2.kp k⟩⟩
theorem aE.set{env:En}{σ:St}(G:aE K as H env σ){w:Wd}{v:V}(h:aj K as H w v)(i:Nat):aE K as H (env.set i (some w)) (σ.set i (some v)):=by
 refine⟨by simp[G.len],λj x e=>?_⟩;by_cases hj:j=i
 .subst hj;have hl:j<env.length:=by
   have:=(Qa.mp e).1;simpa using this
  rw[QM hl]at e;cases e;exact⟨v,QM (by rw[<-G.len];exact hl),h⟩
 .rw[Qe (Ne.symm hj)]at e;obtain⟨u,h1,h2⟩:=G.get j x e;exact⟨u,by rw[Qe (Ne.symm hj)];exact h1,h2⟩
def aE.push{env:En}{σ:St}(G:aE K as H env σ){w:Wd}{v:V}(h:aj K as H w v):aE K as H (env++[some w]) (σ++[some v]):=by
 refine⟨by simp[G.len],λj x e=>?_⟩;by_cases hj:j<env.length
 .rw[Qq hj]at e;obtain⟨u,h1,h2⟩:=G.get j x e;exact⟨u,by rw[Qq (by rw[<-G.len];exact hj)];exact h1,h2⟩
 .rw[Qn (by lia)]at e;have hz:j-env.length=0:=by
   cases hq:j-env.length with
   |zero=>rfl
   |succ k=>rw[hq]at e;simp at e
  rw[hz]at e;simp at e;subst e;refine⟨v,?_,h⟩;rw[Qn (by rw[<-G.len];lia),<-G.len,hz];rfl
noncomputable def aw(K:Qb)(as:List Addr)(H:Hp)(Q:VK)(r:Rz):Prop:=match r with
 |.ok w m'=>∀as' H' v,Step as H as' H'->aQ K as' m' H'->aj K as' H' w v->Q v H'
 |_=>False
def aw.step{Q:VK}{r:Rz}(h:aw K as H Q r)(T:Step as H as' H'):aw K as' H' Q r:=by
 cases r with
 |ok w m'=>exact λas2 H2 v U S R=>h as2 H2 v (T.trans U) S R
 |exc c w m'=>exact h
 |no=>exact h
theorem aw.bind{Q Q1:VK}{r:Rz}{f:Wd->Me->Rz}(h:aw K as H Q (r.bind f))
  (k:∀w m' as' H' v,Step as H as' H'->aQ K as' m' H'->aj K as' H' w v->aw K as' H' Q (f w m')->Q1 v H'):aw K as H Q1 r:=by
 cases r with
 |ok w m'=>exact λas2 H2 v U S R=>k w m' as2 H2 v U S R (aw.step (r:=f w m') h U)
 |exc c w m'=>exact h
 |no=>exact h
def pC (h:aw K as H Q (r.bind f))(T:Step as H as' H')(k:∀w m2 as2 H2 v,Step as' H' as2 H2->aQ K as2 m2 H2->aj K as2 H2 w v->aw K as H Q (f w m2)->Q1 v H2):aw K as' H' Q1 r:=by
 cases r with
 |ok w m'=>exact λas2 H2 v U S R=>k w m' as2 H2 v U S R h
 |exc c w m'=>exact h
 |no=>exact h
noncomputable def aV(K:Qb)(g:En->Me->Rz):TE:=λσ H Q=>∃as env m,aQ K as m H/\aE K as H env σ/\aw K as H Q (g env m)
noncomputable def wP(K:Qb)(g:En->Me->Rz):TT:=λσ H Q=>aV K g σ H λv H'=>∃b,v=.bl b/\Q b H'
theorem aw.ok (h:aw K as H Q (.ok w m))(S:aQ K as m H)(R:aj K as H w v):Q v H:=h as H v .refl S R
end
def PE.imp{X:Cx}{e:Expr}{t t':TE}(h:PE X e t)(k:∀σ H Q,t' σ H Q->t σ H Q):PE X e t':=λpins s σ H Q I q=>h pins s σ H Q I (k σ H Q q)
def PT.imp{X:Cx}{e:Expr}{t t':TT}(h:PT X e t)(k:∀σ H Q,t' σ H Q->t σ H Q):PT X e t':=λpins s σ H Q I q=>h pins s σ H Q I (k σ H Q q)
def PA.imp{X:Cx}{es:List Expr}{t t':TA}(h:PA X es t)(k:∀σ H Q,t' σ H Q->t σ H Q):PA X es t':=λpos pins s σ H Q I q=>h pos pins s σ H Q I (k σ H Q q)
def PS.imp{X:Cx}{st:Stmt}{t t':TS}(h:PS X st t)(k:∀D σ H,t' D σ H->t D σ H):PS X st t':=λpins s σ H D I q=>h pins s σ H D I (k D σ H q)
def cj.imp{X:Cx}{st:List Stmt}{t t':TS}(h:cj X st t)(k:∀D σ H,t' D σ H->t D σ H):cj X st t':=λpins s σ H D I q=>h pins s σ H D I (k D σ H q)
end Mini
namespace L2
open PySem PySem.Spec PyProof.Rows
section
variable{X:Cx}
noncomputable def rL(K:Qb):R2:=λx y H Q=>∃a b ys,x=.ref a/\y=.ref b/\bT K H a []/\bT K H b ys/\Q (.ref b) H
def Fe:bP X (Kn .Add) (rL X.K):=by
 intro pins s σ H x y v u Q I rx ry h;obtain⟨a,b,ys,rfl,rfl,ha,hb,q⟩:=h;cases rx;cases ry;obtain⟨its,r1,p1,_⟩:=I.tuple ha;obtain⟨its2,r2,p2,_⟩:=I.tuple hb;cases r1;obtain⟨⟨c1,d1,f1,l1⟩,g1,e1,n1,k1⟩:=p1;obtain⟨⟨c2,d2,f2,l2⟩,g2,e2,n2,k2⟩:=p2;simp only at e1 e2 k1 k2;subst e1 e2 k1 k2;have m:=tuple_addW0 a b #[] its2.toArray n1 n2 d1 d2 l1 l2 rfl;exact KM ⟨_,g1,rfl⟩ ⟨_,g2,rfl⟩ KN KO PySem.F.slot_tuple_add PySem.F.entry_tuple_add (PySem.F.args_tuple_add_2 _ _) m ⟨g1,g2,.ref b,H,I,rfl,q⟩
end
end L2
namespace Mini
open PySem PySem.Spec PyProof.Rows L2
section
variable{K:Qb}{as:List Addr}{H H':Hp}{m:Me}{Q:VK}{a p:Addr}{l:Nat}{ws xs:List Wd}{vs us:List V}
def yV:au<=sizeLine:=by rw[Ks];decide
def aQ.new(S:aQ K as m H)(hp:H p=none):p∉as:=λz=>by
 obtain⟨us,e,_⟩:=S.isLst z;rw[hp]at e;cases e
def aQ.alloc(S:aQ K as m H)(hp:H p=none)(R:ae K as H ws vs):Step as H (as++[p]) (aK H p (.lst vs))/\aQ K (as++[p]) (m++[.lst ws]) (aK H p (.lst vs)):=by
 have hn:=S.new hp;have T:Step as H (as++[p]) (aK H p (.lst vs)):=⟨⟨[p],rfl⟩,λb o h _=>by rw[zf (zp h hp)];exact h,λb hb=>by
  rcases Qy.mp hb with z|z
  .exact .inl z
  .exact .inr (by rw[QJ.mp z];exact hp)⟩
 refine⟨T,⟨by simp[S.len],?_,λl b o h1 h2=>?_⟩⟩
 .refine Qr.mpr ⟨S.nd,by simp,λx hx y hy=>?_⟩;rw[QJ.mp hy];rintro rfl;exact hn hx
 .by_cases hl:l<as.length
  .rw[Qq hl]at h1;rw[Qq (by rw[<-S.len];exact hl)]at h2;have q:=S.obj l b o h1 h2;cases o with
   |lst ys=>
    obtain⟨zs,e,r⟩:=q;exact⟨zs,by rw[zf (zp e hp)];exact e,r.mono S T⟩
  .rw[Qn (by lia)]at h1;rw[Qn (by rw[<-S.len];lia)]at h2;have hz:l-as.length=0:=by
    cases hq:l-as.length with
    |zero=>rfl
    |succ k=>rw[hq]at h1;simp at h1
   rw[hz]at h1;rw[<-S.len,hz]at h2;simp at h1 h2;subst h1;subst h2;exact⟨vs,zh,R.mono S T⟩
theorem aQ.set(S:aQ K as m H)(ha:as[l]?=some a)(hm:m[l]?=some (.lst xs))(R:ae K as H ws vs):Step as H as (aK H a (.lst vs))/\aQ K as (m.set l (.lst ws)) (aK H a (.lst vs)):=by
 have hin:a∈as:=QA ha;have T:Step as H as (aK H a (.lst vs)):=⟨⟨[],by simp⟩,λb o h hb=>by
  rw[zf (by rintro rfl;exact hb hin)];exact h,λb hb=>.inl hb⟩
 refine⟨T,⟨by simp[S.len],S.nd,λk b o h1 h2=>?_⟩⟩;by_cases hk:k=l
 .subst hk;rw[ha]at h1;cases h1;rw[QM (Qa.mp hm).1]at h2;cases h2;exact⟨vs,zh,R.mono S T⟩
 .rw[Qe (Ne.symm hk)]at h2;have q:=S.obj k b o h1 h2;have hb:b≠a:=by
   rintro rfl;obtain⟨i1,e1⟩:=Qa.mp h1;obtain⟨i2,e2⟩:=Qa.mp ha;exact hk ((WU S.nd).mp (e1.trans e2.symm))
  cases o with
  |lst ys=>
   obtain⟨zs,e,r⟩:=q;exact⟨zs,by rw[zf hb];exact e,r.mono S T⟩
def aQ.keep(S:aQ K as m H)(T:Step as H as H')(hk:∀a∈as,∀o,H a=some o->H' a=some o):aQ K as m H':=by
 refine⟨S.len,S.nd,λl b o h1 h2=>?_⟩;have q:=S.obj l b o h1 h2;cases o with
 |lst ys=>
  obtain⟨zs,e,r⟩:=q;exact⟨zs,hk b (QA h1) _ e,r.mono S T⟩
theorem aQ.tup(S:aQ K as m H)(hp:H p=none)(R:ae K as H ws vs):Step as H as (aK H p (.tup vs))/\aQ K as m (aK H p (.tup vs))/\aj K as (aK H p (.tup vs)) (.tup ws) (.ref p):=by
 have T:Step as H as (aK H p (.tup vs)):=⟨⟨[],by simp⟩,λb o h _=>by rw[zf (zp h hp)];exact h,λb hb=>.inl hb⟩;exact⟨T,S.keep T λb _ o e=>by rw[zf (zp e hp)];exact e,ai.mpr ⟨p,vs,rfl,bT.of zh,R.mono S T⟩⟩
def xQ(S:aQ K as m H)(R:ae K as H ws vs)(h:aw K as H Q (alloc m ws)):vs.length<=au/\∀p,H p=none->Q (.ref p) (aK H p (.lst vs)):=by
 unfold Mini.alloc at h;by_cases hl:ws.length<=au
 .rw[LF hl]at h;refine⟨by rw[<-R.length];exact hl,λp hp=>?_⟩;obtain⟨T,S'⟩:=S.alloc hp R;refine h _ _ _ T S' (aJ.mpr ⟨p,?_,rfl⟩);rw[<-S.len,Qn (Ql _)];simp
 .rw[LG hl]at h;exact h.elim
def yK(S:aQ K as m H)(hm:m[l]?=some (.lst xs)):∃a vs,as[l]?=some a/\H a=some (.lst vs)/\ae K as H xs vs:=by
 obtain⟨a,ha,vs,e,r⟩:=S.get hm;exact⟨a,vs,ha,e,r⟩
def yQ (h:zN m l=some xs):m[l]?=some (.lst xs):=by
 unfold zN at h;cases e:m[l]? with
 |none=>rw[e]at h;cases h
 |some o=>cases o with
  |lst ys=>rw[e]at h;cases h;rfl
def jF (S:aQ K as m H)(R:aj K as H w v)(h:yr m w=some xs):∃p vs,v=.ref p/\(bG K H p vs\/bT K H p vs)/\ae K as H xs vs:=by
 cases w with
 |tup ys=>
  cases h;obtain⟨b,vs,rfl,q,r⟩:=ai.mp R;exact⟨b,vs,rfl,.inr q,r⟩
 |rol ys=>
  cases h;obtain⟨b,vs,rfl,q,r⟩:=ba.mp R;exact⟨b,vs,rfl,.inl q.sq,r⟩
 |ref l=>
  obtain⟨b,hb,rfl⟩:=aJ.mp R;obtain⟨a,vs,ha,e,r⟩:=yK S (yQ h);rw[hb]at ha;cases ha;exact⟨b,vs,rfl,.inl (bG.of e),r⟩
 |non=>cases h
 |bl b=>cases h
 |int i=>cases h
 |str s=>cases h
noncomputable def nJ:Bo->Operator
 |.add=>.Add |.sub=>.Sub |.mul=>.Mult |.fdiv=>.FloorDiv |.mod=>.Mod |.pow=>.Pow |.shr=>.RShift |.band=>.BitAnd
noncomputable def rB(K:Qb):Bo->R2
 |.add=>λx y H Q=>dE (λi j=>.int (i+j)) x y H Q\/(pD x y H Q\/(rT K x y H Q\/rL K x y H Q))
 |.sub=>dE λi j=>.int (i-j)
 |.mul=>λx y H Q=>rI en (λi j=>.int (i*j)) x y H Q\/rh x y H Q
 |.fdiv=>rI pL λi j=>.int (i/j)
 |.mod=>rI (λ_ j=>0<j) λi j=>.int (i%j)
 |.pow=>rI pK λi j=>.int (i^j.toNat)
 |.shr=>rI (λ_ j=>0<=j) λi j=>.int (i/2^j.toNat)
 |.band=>dE λi j=>.int (Builtin.bitAnd i j)
def B3 (op:Bo):bP X (Kn (nJ op)) (rB X.K op):=by
 cases op with
 |add=>exact eV.or (eU.or (dZ.or Fe))
 |sub=>exact Dm
 |mul=>exact eS.or C4
 |fdiv=>exact E1
 |mod=>exact Dl
 |pow=>exact Dj
 |shr=>exact Di
 |band=>exact Dh
def Fd (h:0<=i):Builtin.bitAnd i 1=i%2:=by
 obtain⟨n,rfl⟩:=Int.eq_ofNat_of_zero_le h;show Int.ofNat (n &&& 1)=_;rw[Nat.and_one_is_mod];rfl
def kH (h:yx i=true):-(2^64)<i/\i<2^64:=by
 unfold yx cv at h;rw[Qj,decide_eq_true_iff,decide_eq_true_iff]at h;lia
def xZ [Decidable c](h:aw K as H Q (if c then r else .no)):c/\aw K as H Q r:=by
 by_cases hc:c
 .rw[LF hc]at h;exact⟨hc,h⟩
 .rw[LG hc]at h;exact h.elim
def Fc (h:aw K as H Q (cz .add (.ref a) (.ref b) m)):∃xs ys,m[a]?=some (.lst xs)/\m[b]?=some (.lst ys)/\aw K as H Q (alloc m (xs++ys)):=by
 unfold cz at h;dsimp only at h;generalize m[a]?=p at h ⊢;generalize m[b]?=q at h ⊢;cases p with
 |none=>exact h.elim
 |some o=>
  cases o with
  |lst xs=>
   cases q with
   |none=>exact h.elim
   |some o=>
    cases o with
    |lst ys=>exact⟨xs,ys,rfl,rfl,h⟩
def Fb (h:aw K as H Q (cz .mul (.ref a) (.int k) m)):∃xs,m[a]?=some (.lst xs)/\aw K as H Q (if -au<=k/\k<=au then alloc m (Qu k.toNat xs).flatten else .no):=by
 unfold cz at h;dsimp only at h;generalize m[a]?=p at h ⊢;cases p with
 |none=>exact h.elim
 |some o=>
  cases o with
  |lst xs=>exact⟨xs,rfl,h⟩
set_option tactic.hygienic true in
def C2 (S:aQ K as m H)(Rx:aj K as H x v)(Ry:aj K as H y u)(h:aw K as H Q (cz op x y m)):rB K op v u H Q:=by
 cases x with
 |int i=>
  cases y with
  |int j=>
   obtain rfl:=aa.mp Rx;obtain rfl:=aa.mp Ry;cases op with
   |add=>exact .inl ⟨i,j,rfl,rfl,h.ok S (aa.mpr rfl)⟩
   |sub=>exact⟨i,j,rfl,rfl,h.ok S (aa.mpr rfl)⟩
   |mul=>
    obtain⟨hs,h⟩:=xZ h;refine .inl ⟨i,j,rfl,rfl,?_,h.ok S (aa.mpr rfl)⟩;rcases Bool.or_eq_true_iff.mp hs with q|q
    .exact .inl (kH q)
    .exact .inr (kH q)
   |fdiv=>
    obtain⟨hs,h⟩:=xZ h;exact⟨i,j,rfl,rfl,hs,h.ok S (aa.mpr rfl)⟩
   |mod=>
    obtain⟨hs,h⟩:=xZ h;exact⟨i,j,rfl,rfl,hs,h.ok S (aa.mpr rfl)⟩
   |pow=>
    obtain⟨⟨h1,h2,h3⟩,h⟩:=xZ h;have h4:=kH h3;exact⟨i,j,rfl,rfl,⟨h1,h2,by lia⟩,h.ok S (aa.mpr rfl)⟩
   |shr=>
    obtain⟨hs,h⟩:=xZ h;exact⟨i,j,rfl,rfl,hs.1,h.ok S (aa.mpr rfl)⟩
   |band=>
    obtain⟨⟨h1,rfl⟩,h'⟩:=xZ h;refine⟨i,1,rfl,rfl,?_⟩;show Q (.int (Builtin.bitAnd i 1)) H;rw[Fd h1];exact h'.ok S (aa.mpr rfl)
  |_=>exact h.elim
 |ref a=>
  obtain⟨pa,ha,rfl⟩:=aJ.mp Rx;cases y with
  |ref b=>
   obtain⟨pb,hb,rfl⟩:=aJ.mp Ry;cases op with
   |add=>
    obtain⟨xs,ys,e1,e2,h⟩:=Fc h;obtain⟨pa',va,ha',ea,ra⟩:=yK S e1;rw[ha]at ha';cases ha';obtain⟨pb',vb,hb',eb,rb⟩:=yK S e2;rw[hb]at hb';cases hb';obtain⟨hl,q⟩:=xQ S (ra.append rb) h;rw[Q0]at hl;exact .inr (.inl ⟨pa,pb,va,vb,rfl,rfl,ea,eb,Qo hl yV,q⟩)
   |_=>exact h.elim
  |int k=>
   obtain rfl:=aa.mp Ry;cases op with
   |mul=>
    obtain⟨xs,e1,h⟩:=Fb h;obtain⟨hk,h⟩:=xZ h;obtain⟨pa',va,ha',ea,ra⟩:=yK S e1;rw[ha]at ha';cases ha';obtain⟨hl,q⟩:=xQ S (ra.rep k.toNat) h;rw[ub]at hl;have hlim:(au:Int)=100000:=rfl;exact .inr ⟨pa,k,va,rfl,rfl,ea,by lia,by lia,by rw[Nat.mul_comm];exact Qo hl yV,q⟩
   |_=>exact h.elim
  |_=>exact h.elim
 |tup xs=>
  cases y with
  |tup ys=>
   cases op with
   |add=>
    obtain⟨hc,h⟩:=xZ h;obtain⟨pa,va,rfl,qa,ra⟩:=ai.mp Rx;obtain⟨pb,vb,rfl,qb,rb⟩:=ai.mp Ry;have la:=ra.length;have lb:=rb.length;by_cases hv:va=[]
    .subst hv;obtain rfl:xs=[]:=by
      cases xs with
      |nil=>rfl
      |cons x xs=>simp at la
     exact .inr (.inr (.inr ⟨pa,pb,vb,rfl,rfl,qa,qb,h.ok S Ry⟩))
    refine .inr (.inr (.inl ⟨pa,pb,va,vb,rfl,rfl,qa,qb,hv,?_,λe=>?_,λe p hp=>?_⟩))
    .rw[<-la,<-lb];exact Qo hc yV
    .subst e;obtain rfl:ys=[]:=by
      cases ys with
      |nil=>rfl
      |cons y ys=>simp at lb
     refine h.ok S (ai.mpr ⟨pa,va,rfl,qa,?_⟩);rw[QU];exact ra
    .obtain ⟨T,S',R'⟩:=S.tup hp (ra.append rb);exact h _ _ _ T S' R'
   |_=>exact h.elim
  |_=>exact h.elim
 |_=>exact h.elim
end
end Mini
namespace Mini
open PySem PySem.Spec PyProof.Rows L2
open PySem.SeqAt
section
variable{X:Cx}{pins:List (Addr×Obj)}{σ:St}{s:Shared}{as:List Addr}{H:Hp}{m:Me}
def uQ (I:Inv X pins σ H s)(h1:bT X.K H a xs)(h2:bG X.K H a ys):False:=by
 obtain⟨its,_,p,_⟩:=I.tuple h1;obtain⟨its',_,q,_⟩:=I.list h2;exact ne_of_list_tuple q.isList (show s.heap.IsTuple a its.toArray from p) rfl
def tq (I:Inv X pins σ H s)(h1:bT X.K H a xs)(h2:H a=some u)(h3:LD u):False:=by
 rcases h1 with (q|⟨o,q⟩)|⟨o,_,_,hk,_⟩
 .rw[h2]at q;cases q;exact h3
 .rw[h2]at q;cases q;exact h3
 .have:=(I.bs a o (I.ok.mod.kin a o hk)).2;rw[this]at h2;cases h2
def gC (I:Inv X pins σ H s)(h1:KL X.K a xs)(h2:H a=some u):False:=by
 obtain⟨o,_,_,hk,_⟩:=h1;have:=(I.bs a o (I.ok.mod.kin a o hk)).2;rw[this]at h2;cases h2
mutual
theorem vQ(I:Inv X pins σ H s)(S:aQ X.K as m H):∀(w w':Wd) (v:V),aj X.K as H w v->aj X.K as H w' v->w=w'
 |.non,w',v,h,h'=>by
  obtain rfl:=ak.mp h;cases w' with
  |non=>rfl
  |bl b=>cases ah.mp h'
  |int i=>cases aa.mp h'
  |str x=>cases ax.mp h'
  |tup xs=>obtain⟨_,_,e,_⟩:=ai.mp h';cases e
  |rol xs=>obtain⟨_,_,e,_⟩:=ba.mp h';cases e
  |ref l=>obtain⟨_,_,e⟩:=aJ.mp h';cases e
 |.bl c,w',v,h,h'=>by
  obtain rfl:=ah.mp h;cases w' with
  |non=>cases ak.mp h'
  |bl b=>cases ah.mp h';rfl
  |int i=>cases aa.mp h'
  |str x=>cases ax.mp h'
  |tup xs=>obtain⟨_,_,e,_⟩:=ai.mp h';cases e
  |rol xs=>obtain⟨_,_,e,_⟩:=ba.mp h';cases e
  |ref l=>obtain⟨_,_,e⟩:=aJ.mp h';cases e
 |.int c,w',v,h,h'=>by
  obtain rfl:=aa.mp h;cases w' with
  |non=>cases ak.mp h'
  |bl b=>cases ah.mp h'
  |int i=>cases aa.mp h';rfl
  |str x=>cases ax.mp h'
  |tup xs=>obtain⟨_,_,e,_⟩:=ai.mp h';cases e
  |rol xs=>obtain⟨_,_,e,_⟩:=ba.mp h';cases e
  |ref l=>obtain⟨_,_,e⟩:=aJ.mp h';cases e
 |.str c,w',v,h,h'=>by
  obtain rfl:=ax.mp h;cases w' with
  |non=>cases ak.mp h'
  |bl b=>cases ah.mp h'
  |int i=>cases aa.mp h'
  |str x=>
   have e:=ax.mp h';injection e with e
   injection e with e
   have:c=x:=by simpa using LI Vc e
   rw[this]
  |tup xs=>obtain⟨_,_,e,_⟩:=ai.mp h';cases e
  |rol xs=>obtain⟨_,_,e,_⟩:=ba.mp h';cases e
  |ref l=>obtain⟨_,_,e⟩:=aJ.mp h';cases e
 |.tup xs,w',v,h,h'=>by
  obtain⟨a,vs,rfl,q,r⟩:=ai.mp h;cases w' with
  |non=>cases ak.mp h'
  |bl b=>cases ah.mp h'
  |int i=>cases aa.mp h'
  |str x=>cases ax.mp h'
  |tup ys=>
   obtain⟨b,us,e,q',r'⟩:=ai.mp h';cases e;obtain rfl:=I.tuple_inj q q';rw[cx I S xs ys vs r r']
  |rol ys=>
   obtain⟨b,us,e,q',r'⟩:=ba.mp h';cases e;exact(uQ I q q'.sq).elim
  |ref l=>
   obtain⟨b,hb,e⟩:=aJ.mp h';cases e;obtain⟨u,e2,e3⟩:=S.isLst (QA hb);exact(tq I q e2 e3).elim
 |.rol xs,w',v,h,h'=>by
  obtain⟨a,vs,rfl,q,r⟩:=ba.mp h;cases w' with
  |non=>cases ak.mp h'
  |bl b=>cases ah.mp h'
  |int i=>cases aa.mp h'
  |str x=>cases ax.mp h'
  |tup ys=>
   obtain⟨b,us,e,q',r'⟩:=ai.mp h';cases e;exact(uQ I q' q.sq).elim
  |rol ys=>
   obtain⟨b,us,e,q',r'⟩:=ba.mp h';cases e;obtain rfl:=I.list_inj q.sq q'.sq;rw[cx I S xs ys vs r r']
  |ref l=>
   obtain⟨b,hb,e⟩:=aJ.mp h';cases e;obtain⟨u,e2,e3⟩:=S.isLst (QA hb);rcases q with⟨o,q⟩|q
   .rw[e2]at q;cases q;exact e3.elim
   .exact (gC I q e2).elim
 |.ref l,w',v,h,h'=>by
  obtain⟨a,ha,rfl⟩:=aJ.mp h;obtain⟨u,e2,e3⟩:=S.isLst (QA ha);cases w' with
  |non=>cases ak.mp h'
  |bl b=>cases ah.mp h'
  |int i=>cases aa.mp h'
  |str x=>cases ax.mp h'
  |tup ys=>
   obtain⟨b,us,e,q',r'⟩:=ai.mp h';cases e;exact(tq I q' e2 e3).elim
  |rol ys=>
   obtain⟨b,us,e,q',r'⟩:=ba.mp h';cases e;rcases q' with⟨o,q'⟩|q'
   .rw[e2]at q';cases q';exact e3.elim
   .exact (gC I q' e2).elim
  |ref l'=>
   obtain⟨b,hb,e⟩:=aJ.mp h';cases e;obtain⟨i1,e1⟩:=Qa.mp ha;obtain⟨i2,e2⟩:=Qa.mp hb;rw[(WU S.nd).mp (e1.trans e2.symm)]
theorem cx(I:Inv X pins σ H s)(S:aQ X.K as m H):∀(xs ys:List Wd) (vs:List V),ae X.K as H xs vs->ae X.K as H ys vs->xs=ys
 |[],ys,vs,h,h'=>by
  obtain rfl:=aA.mp h;cases ys with
  |nil=>rfl
  |cons y ys=>obtain⟨_,_,e,_⟩:=am.mp h';cases e
 |x::xs,ys,vs,h,h'=>by
  obtain⟨v,r,rfl,q,t⟩:=am.mp h;cases ys with
  |nil=>cases aA.mp h'
  |cons y ys=>
   obtain⟨v',r',e,q',t'⟩:=am.mp h';cases e;rw[vQ I S x y v q q',cx I S xs ys r t t']
end
theorem qk:∀{xs ys:List Wd}{r:Bool},cD p xs ys=some r ->
  ∃f:Nat->Bool,(∀j x y,xs[j]?=some x->ys[j]?=some y->p x y=some (f j))/\r=(QI (min xs.length ys.length)).all f
 |[],ys,r,h=>by
  unfold cD at h;cases h;exact⟨λ_=>true,λj x y e=>by simp at e,by simp⟩
 |_::_,[],r,h=>by
  unfold cD at h;cases h;exact⟨λ_=>true,λj x y _ e=>by simp at e,by simp⟩
 |x::xs,y::ys,r,h=>by
  unfold cD at h;cases hp:p x y with
  |none=>rw[hp]at h;cases h
  |some b=>
   rw[hp]at h;simp only[]at h;cases hr:cD p xs ys with
   |none=>rw[hr]at h;cases h
   |some r'=>
    rw[hr]at h;cases h;obtain⟨f,hf,e⟩:=qk (xs:=xs) (ys:=ys) hr;refine⟨λj=>match j with|0=>b|j+1=>f j,λj x' y' e1 e2=>?_,?_⟩
    .cases j with
     |zero=>simp at e1 e2;subst e1;subst e2;exact hp
     |succ j=>exact hf j x' y' (by simpa using e1) (by simpa using e2)
    .rw[Wh,Wh,Nat.succ_min_succ,WW,Wp,WK,e];rfl
theorem uP:∀(k:Nat) (w:Wd) (r:Bool),cm m k w w=some r->r=true
 |0,w,r,h=>by cases h
 |k+1,w,r,h=>by
  cases w with
  |non=>cases h;rfl
  |bl b=>cases h;simp
  |int i=>cases h;simp
  |str x=>cases h;simp
  |tup xs=>
   replace h:(cD (cm m k) xs xs).map (· && decide (xs.length=xs.length))=some r:=h
   cases hr:cD (cm m k) xs xs with
   |none=>rw[hr]at h;cases h
   |some r'=>
    rw[hr]at h;simp only[QN,decide_true,Bool.and_true]at h;cases h;obtain⟨f,hf,rfl⟩:=qk hr;rw[QE];intro j hj;have hj':j<xs.length:=by simpa using hj
    exact uP k xs[j] (f j) (hf j xs[j] xs[j] (by simp[hj']) (by simp[hj']))
  |rol xs=>cases h
  |ref l=>
   replace h:(if l=l then(if aT m l then some true else none)else match m[l]?,m[l]? with
    |some (.lst xs),some (.lst ys)=>if xs.length=ys.length then cD (cm m k) xs ys else some false
    |_,_=>none)=some r:=h
   simp only[if_true]at h;split at h
   .cases h;rfl
   .cases h
structure Iz(A:J0)(s:Shared)(u u':Value)(r:Bool):Prop where
 it:EqAt A s u u' r
 eq:RcAt A s u u' r
 ne:RcNeAt A s u u' (! r)
def aR (S:aQ X.K as m H)(I:Inv X pins σ H s)(h:aT m l=true)(R:aj X.K as H (.ref l) v)(ru:RelV v u):∃b its,u=.ref b/\s.heap.IsList b its:=by
 unfold aT at h;cases e:m[l]? with
 |none=>rw[e]at h;cases h
 |some o=>
  cases o with
  |lst xs=>
   obtain⟨b,hb,rfl⟩:=aJ.mp R;obtain⟨a,vs,ha,ea,ra⟩:=yK S e;rw[hb]at ha;cases ha;obtain rfl:u=.ref b:=ru;obtain⟨its,_,p,_⟩:=I.list (bG.of ea);exact⟨b,_,rfl,p.isList⟩
def vH (I:Inv X pins σ H s)(R:aj X.K as H (.tup xs) v)(ru:RelV v u):∃b vs its,v=.ref b/\u=.ref b/\ae X.K as H xs vs/\az vs its/\s.heap.IsTuple b its.toArray:=by
 obtain⟨b,vs,rfl,q,r⟩:=ai.mp R;obtain rfl:u=.ref b:=ru;obtain⟨its,rv,p,_⟩:=I.tuple q;exact⟨b,vs,its,rfl,rfl,r,rv,p⟩
set_option tactic.hygienic true in
theorem iM(I:Inv X pins σ H s)(S:aQ X.K as m H):∀(k:Nat) (A:J0) (w w':Wd) (v v':V) (u u':Value) (r:Bool),A.units+k<Kv->cm m k w w'=some r ->
  aj X.K as H w v->aj X.K as H w' v'->RelV v u->RelV v' u'->Iz A s u u' r
 |0,_,_,_,_,_,_,_,_,_,h,_,_,_,_=>by cases h
 |k+1,A,w,w',v,v',u,u',r,hu,h,R,R',ru,ru'=>by
  have hu0:A.units<Kv:=by lia
  have hu1:A.in1.units+k<Kv:=by show A.units+1+k<Kv;lia
  -- items,pair by pair
  have pairs:∀{xs ys:List Wd}{vs us:List V}{its its':List Value}{r:Bool},ae X.K as H xs vs->ae X.K as H ys us->az vs its->az us its'->cD (cm m k) xs ys=some r ->
    ∃f:Nat->Bool,(∀j (h1:j<its.toArray.size) (h2:j<its'.toArray.size),EqAt A.in1 s its.toArray[j] its'.toArray[j] (f j))/\r=(QI (min its.toArray.size its'.toArray.size)).all f/\its.toArray.size=xs.length/\its'.toArray.size=ys.length:=by
   intro xs ys vs us its its' r r1 r2 rv rv' he;obtain⟨f,hf,e⟩:=qk he;have l1:=r1.length;have l2:=r2.length;have l3:=rv.length;have l4:=rv'.length;have s1:its.toArray.size=xs.length:=by simp;lia
   have s2:its'.toArray.size=ys.length:=by simp;lia
   refine⟨f,λj h1 h2=>?_,by rw[e,s1,s2],s1,s2⟩;have hj:j<xs.length:=by lia
   have hj2:j<ys.length:=by lia
   obtain⟨v1,e1,q1⟩:=r1.get (i:=j) (x:=xs[j]) (by simp[hj]);obtain⟨v2,e2,q2⟩:=r2.get (i:=j) (x:=ys[j]) (by simp[hj2]);obtain⟨u1,e3,q3⟩:=rv.get e1;obtain⟨u2,e4,q4⟩:=rv'.get e2;have z:=iM I S k A.in1 xs[j] ys[j] v1 v2 u1 u2 (f j) hu1 (hf j _ _ (by simp[hj]) (by simp[hj2])) q1 q2 q3 q4;obtain⟨_,e5⟩:=Qa.mp e3;obtain⟨_,e6⟩:=Qa.mp e4;have g1:its.toArray[j]=u1:=by simpa using e5
   have g2:its'.toArray[j]=u2:=by simpa using e6
   rw[g1,g2];exact z.it
  cases w with
  |tup xs=>
   obtain⟨b,vs,its,rfl,rfl,r1,rv,p⟩:=vH I R ru;cases w' with
   |tup ys=>
    obtain⟨b',vs',its',rfl,rfl,r1',rv',p'⟩:=vH I R' ru';have rc:RcAt A s (.ref b) (.ref b') r/\RcNeAt A s (.ref b) (.ref b') (! r):=by
     replace h:(cD (cm m k) xs ys).map (· && decide (xs.length=ys.length))=some r:=h
     cases hr:cD (cm m k) xs ys with
     |none=>rw[hr]at h;cases h
     |some r'=>
      rw[hr]at h;simp only[QN]at h;cases h;obtain⟨f,hf,e,z1,z2⟩:=pairs r1 r1' rv rv' hr;have e2:((QI (min its.toArray.size its'.toArray.size)).all f&&its.toArray.size==its'.toArray.size)=(r'&&decide (xs.length=ys.length)):=by
       rw[e,z1,z2];congr 1
      exact⟨e2▸RcAt.tuples p p' hu0 hf,e2▸RcNeAt.tuples p p' hu0 hf⟩
    refine⟨?_,rc.1,rc.2⟩;by_cases hb:b=b'
    .subst hb;have e:=vQ I S _ _ _ R R';rw[<-e]at h;obtain rfl:=uP _ _ _ h;exact EqAt.same _
    .exact EqAt.of_refs hb rc.1
   |ref l=>
    replace h:(if aT m l&&true then some false else none)=some r:=h
    split at h
    .rename_i hl;cases h;obtain⟨b',its',rfl,q⟩:=aR S I (QB.mp hl).1 R' ru';exact⟨EqAt.tuple_list p q hu0,RcAt.tuple_list p q hu0,RcNeAt.tuple_list p q hu0⟩
    .cases h
   |rol ys=>cases h
   |non=>
    cases h;obtain rfl:=ak.mp R';obtain rfl:u'=.none:=ru';exact⟨EqAt.tuple_none p hu0,RcAt.tuple_none p hu0,RcNeAt.tuple_none p hu0⟩
   |bl c=>
    cases h;obtain rfl:=ah.mp R';obtain rfl:u'=.bool c:=ru';exact⟨EqAt.tuple_bool c p hu0,RcAt.tuple_bool c p hu0,RcNeAt.tuple_bool c p hu0⟩
   |int i=>
    cases h;obtain rfl:=aa.mp R';obtain⟨t,rfl⟩:=ru';exact⟨EqAt.tuple_int i t p hu0,RcAt.tuple_int i t p hu0,RcNeAt.tuple_int i t p hu0⟩
   |str x=>
    cases h;obtain rfl:=ax.mp R';obtain⟨t,rfl⟩:=ru';exact⟨EqAt.tuple_str _ t p hu0,RcAt.tuple_str _ t p hu0,RcNeAt.tuple_str _ t p hu0⟩
  |ref l=>
   cases w' with
   |ref l'=>
    obtain⟨b,hb,rfl⟩:=aJ.mp R;obtain⟨b',hb',rfl⟩:=aJ.mp R';obtain rfl:u=.ref b:=ru;obtain rfl:u'=.ref b':=ru'
    replace h:(if l=l' then(if aT m l then some true else none)else match m[l]?,m[l']? with
     |some (.lst xs),some (.lst ys)=>if xs.length=ys.length then cD (cm m k) xs ys else some false
     |_,_=>none)=some r:=h
    by_cases hll:l=l'
    .subst hll;rw[hb]at hb';cases hb';rw[LF rfl]at h;split at h
     .rename_i hil;cases h;obtain⟨c,its,ec,q⟩:=aR S I hil R (u:=.ref b) rfl;cases ec;have al:(QI its.size).all (λ_=>true)=true:=by simp
      have e1:=RcAt.lists (A:=A) (e:=λ_=>true) q q rfl hu0 (λj h1 h2=>EqAt.same _);have e2:=RcNeAt.lists (A:=A) (e:=λ_=>true) q q rfl hu0 (λj h1 h2=>EqAt.same _);rw[al]at e1 e2;exact⟨EqAt.same _,e1,e2⟩
     .cases h
    .rw[LG hll]at h;have hbb:b≠b':=by
      rintro rfl;obtain⟨i1,e1⟩:=Qa.mp hb;obtain⟨i2,e2⟩:=Qa.mp hb';exact hll ((WU S.nd).mp (e1.trans e2.symm))
     split at h
     .rename_i xs ys m1 m2;obtain⟨a1,vs,h1,g1,r1⟩:=yK S m1;rw[hb]at h1;cases h1;obtain⟨a2,us,h2,g2,r2⟩:=yK S m2;rw[hb']at h2;cases h2;obtain⟨its,rv,p,_⟩:=I.list (bG.of g1);obtain⟨its',rv',p',_⟩:=I.list (bG.of g2);split at h
      .rename_i hl;obtain⟨f,hf,e,z1,z2⟩:=pairs r1 r2 rv rv' h;have hsz:its.toArray.size=its'.toArray.size:=by rw[z1,z2,hl]
       rw[<-hsz,Nat.min_self]at e;have e1:=RcAt.lists p.isList p'.isList hsz hu0 hf;have e2:=RcNeAt.lists p.isList p'.isList hsz hu0 hf;rw[<-e]at e1 e2;exact⟨EqAt.of_refs hbb e1,e1,e2⟩
      .rename_i hl;cases h;have l1:=r1.length;have l2:=r2.length;have l3:=rv.length;have l4:=rv'.length;have hsz:(its.toArray.size != its'.toArray.size)=true:=by
        simp;lia
       have e1:=RcAt.lists_lengths (A:=A) p.isList p'.isList hsz hu0;exact⟨EqAt.of_refs hbb e1,e1,RcNeAt.lists_lengths p.isList p'.isList hsz hu0⟩
     .cases h
   |tup ys=>
    replace h:(if aT m l&&true then some false else none)=some r:=h
    split at h
    .rename_i hl;cases h;obtain⟨b,its,rfl,q⟩:=aR S I (QB.mp hl).1 R ru;obtain⟨b',vs',its',rfl,rfl,r1',rv',p'⟩:=vH I R' ru';exact⟨EqAt.list_tuple q p' hu0,RcAt.list_tuple q p' hu0,RcNeAt.list_tuple q p' hu0⟩
    .cases h
   |rol ys=>
    replace h:(if aT m l&&false then some false else none)=some r:=h
    simp only[WN,QP,if_false]at h;cases h
   |non=>
    replace h:(if aT m l&&true then some false else none)=some r:=h
    split at h
    .rename_i hl;cases h;obtain⟨b,its,rfl,q⟩:=aR S I (QB.mp hl).1 R ru;obtain rfl:=ak.mp R';obtain rfl:u'=.none:=ru';exact⟨EqAt.list_none q hu0,RcAt.list_none q hu0,RcNeAt.list_none q hu0⟩
    .cases h
   |bl c=>
    replace h:(if aT m l&&true then some false else none)=some r:=h
    split at h
    .rename_i hl;cases h;obtain⟨b,its,rfl,q⟩:=aR S I (QB.mp hl).1 R ru;obtain rfl:=ah.mp R';obtain rfl:u'=.bool c:=ru';exact⟨EqAt.list_bool c q hu0,RcAt.list_bool c q hu0,RcNeAt.list_bool c q hu0⟩
    .cases h
   |int i=>
    replace h:(if aT m l&&true then some false else none)=some r:=h
    split at h
    .rename_i hl;cases h;obtain⟨b,its,rfl,q⟩:=aR S I (QB.mp hl).1 R ru;obtain rfl:=aa.mp R';obtain⟨t,rfl⟩:=ru';exact⟨EqAt.list_int i t q hu0,RcAt.list_int i t q hu0,RcNeAt.list_int i t q hu0⟩
    .cases h
   |str x=>
    replace h:(if aT m l&&true then some false else none)=some r:=h
    split at h
    .rename_i hl;cases h;obtain⟨b,its,rfl,q⟩:=aR S I (QB.mp hl).1 R ru;obtain rfl:=ax.mp R';obtain⟨t,rfl⟩:=ru';exact⟨EqAt.list_str _ t q hu0,RcAt.list_str _ t q hu0,RcNeAt.list_str _ t q hu0⟩
    .cases h
  |rol xs=>
   cases w'<;>first|cases h|(replace h:(if aT m _&&false then some false else none)=some r:=h;simp at h)
  |non=>
   obtain rfl:=ak.mp R;obtain rfl:u=.none:=ru;cases w' with
   |rol ys=>cases h
   |ref l=>
    replace h:(if aT m l&&true then some false else none)=some r:=h
    split at h
    .rename_i hl;cases h;obtain⟨b,its,rfl,q⟩:=aR S I (QB.mp hl).1 R' ru';exact⟨EqAt.none_list q hu0,RcAt.none_list q hu0,RcNeAt.none_list q hu0⟩
    .cases h
   |tup ys=>
    cases h;obtain⟨b',vs',its',rfl,rfl,r1',rv',p'⟩:=vH I R' ru';exact⟨EqAt.none_tuple p' hu0,RcAt.none_tuple p' hu0,RcNeAt.none_tuple p' hu0⟩
   |non=>
    cases h;obtain rfl:=ak.mp R';obtain rfl:u'=.none:=ru';exact⟨EqAt.same _,RcAt.none_none,RcNeAt.none_none⟩
   |bl c=>
    cases h;obtain rfl:=ah.mp R';obtain rfl:u'=.bool c:=ru';exact⟨EqAt.none_bool c,RcAt.none_bool c,RcNeAt.none_bool c⟩
   |int i=>
    cases h;obtain rfl:=aa.mp R';obtain⟨t,rfl⟩:=ru';exact⟨EqAt.none_int i t,RcAt.none_int i t,RcNeAt.none_int i t⟩
   |str x=>
    cases h;obtain rfl:=ax.mp R';obtain⟨t,rfl⟩:=ru';exact⟨EqAt.none_str _ t,RcAt.none_str _ t,RcNeAt.none_str _ t⟩
  |bl c=>
   obtain rfl:=ah.mp R;obtain rfl:u=.bool c:=ru;cases w' with
   |rol ys=>cases h
   |ref l=>
    replace h:(if aT m l&&true then some false else none)=some r:=h
    split at h
    .rename_i hl;cases h;obtain⟨b,its,rfl,q⟩:=aR S I (QB.mp hl).1 R' ru';exact⟨EqAt.bool_list c q hu0,RcAt.bool_list c q hu0,RcNeAt.bool_list c q hu0⟩
    .cases h
   |tup ys=>
    cases h;obtain⟨b',vs',its',rfl,rfl,r1',rv',p'⟩:=vH I R' ru';exact⟨EqAt.bool_tuple c p' hu0,RcAt.bool_tuple c p' hu0,RcNeAt.bool_tuple c p' hu0⟩
   |non=>
    cases h;obtain rfl:=ak.mp R';obtain rfl:u'=.none:=ru';exact⟨EqAt.bool_none c,RcAt.bool_none c,RcNeAt.bool_none c⟩
   |bl d=>
    cases h;obtain rfl:=ah.mp R';obtain rfl:u'=.bool d:=ru';exact⟨EqAt.bool_bool c d,RcAt.bool_bool c d,RcNeAt.bool_bool c d⟩
   |int i=>
    cases h;obtain rfl:=aa.mp R';obtain⟨t,rfl⟩:=ru';have e:decide (b2i c=i)=((if c then(1:Int)else 0)==i):=by
     show decide ((if c then(1:Int)else 0)=i)=_;rw[W4]
    rw[e];exact⟨EqAt.bool_int c i t,RcAt.bool_int c i t,RcNeAt.bool_int c i t⟩
   |str x=>
    cases h;obtain rfl:=ax.mp R';obtain⟨t,rfl⟩:=ru';exact⟨EqAt.bool_str c _ t,RcAt.bool_str c _ t,RcNeAt.bool_str c _ t⟩
  |int i=>
   obtain rfl:=aa.mp R;obtain⟨t,rfl⟩:=ru;cases w' with
   |rol ys=>cases h
   |ref l=>
    replace h:(if aT m l&&true then some false else none)=some r:=h
    split at h
    .rename_i hl;cases h;obtain⟨b,its,rfl,q⟩:=aR S I (QB.mp hl).1 R' ru';exact⟨EqAt.int_list i t q hu0,RcAt.int_list i t q hu0,RcNeAt.int_list i t q hu0⟩
    .cases h
   |tup ys=>
    cases h;obtain⟨b',vs',its',rfl,rfl,r1',rv',p'⟩:=vH I R' ru';exact⟨EqAt.int_tuple i t p' hu0,RcAt.int_tuple i t p' hu0,RcNeAt.int_tuple i t p' hu0⟩
   |non=>
    cases h;obtain rfl:=ak.mp R';obtain rfl:u'=.none:=ru';exact⟨EqAt.int_none i t,RcAt.int_none i t,RcNeAt.int_none i t⟩
   |bl d=>
    cases h;obtain rfl:=ah.mp R';obtain rfl:u'=.bool d:=ru';have e:decide (i=b2i d)=(i==(if d then(1:Int)else 0)):=by
     show decide (i=(if d then(1:Int)else 0))=_;rw[W4]
    rw[e];exact⟨EqAt.int_bool i t d,RcAt.int_bool i t d,RcNeAt.int_bool i t d⟩
   |int j=>
    cases h;obtain rfl:=aa.mp R';obtain⟨t',rfl⟩:=ru';have e:decide (i=j)=(i==j):=by rw[W4]
    rw[e];exact⟨EqAt.int_int i t j t',RcAt.int_int i t j t',RcNeAt.int_int i t j t'⟩
   |str x=>
    cases h;obtain rfl:=ax.mp R';obtain⟨t',rfl⟩:=ru';exact⟨EqAt.int_str i t _ t',RcAt.int_str i t _ t',RcNeAt.int_str i t _ t'⟩
  |str x=>
   obtain rfl:=ax.mp R;obtain⟨t,rfl⟩:=ru;cases w' with
   |rol ys=>cases h
   |ref l=>
    replace h:(if aT m l&&true then some false else none)=some r:=h
    split at h
    .rename_i hl;cases h;obtain⟨b,its,rfl,q⟩:=aR S I (QB.mp hl).1 R' ru';exact⟨EqAt.str_list _ t q hu0,RcAt.str_list _ t q hu0,RcNeAt.str_list _ t q hu0⟩
    .cases h
   |tup ys=>
    cases h;obtain⟨b',vs',its',rfl,rfl,r1',rv',p'⟩:=vH I R' ru';exact⟨EqAt.str_tuple _ t p' hu0,RcAt.str_tuple _ t p' hu0,RcNeAt.str_tuple _ t p' hu0⟩
   |non=>
    cases h;obtain rfl:=ak.mp R';obtain rfl:u'=.none:=ru';exact⟨EqAt.str_none _ t,RcAt.str_none _ t,RcNeAt.str_none _ t⟩
   |bl d=>
    cases h;obtain rfl:=ah.mp R';obtain rfl:u'=.bool d:=ru';exact⟨EqAt.str_bool _ t d,RcAt.str_bool _ t d,RcNeAt.str_bool _ t d⟩
   |int j=>
    cases h;obtain rfl:=aa.mp R';obtain⟨t',rfl⟩:=ru';exact⟨EqAt.str_int _ t j t',RcAt.str_int _ t j t',RcNeAt.str_int _ t j t'⟩
   |str y=>
    cases h;obtain rfl:=ax.mp R';obtain⟨t',rfl⟩:=ru';have e:decide (x=y)=((⟨x.toArray⟩:Str) == ⟨y.toArray⟩):=by
     by_cases hxy:x=y
     .subst hxy;simp
     .have:¬(⟨x.toArray⟩:Str)=⟨y.toArray⟩:=λz=>by
       injection z with z
       exact hxy (by simpa using LI Vc z)
      rw[LC hxy];exact(beq_eq_false_iff_ne.mpr this).symm
    rw[e];exact⟨EqAt.str_str _ t _ t',RcAt.str_str _ t _ t',RcNeAt.str_str _ t _ t'⟩
end
end Mini
namespace L2
open PySem PySem.Spec PyProof.Rows PySem.SeqAt
section
variable{prog:JS}{w:JT}{A:J0}{E:Value->Shared->Prop}{s:Shared}
def HB {stored:List Value}(hst:∀v∈stored,∃k' b,v=.ref b/\Lh (JX prog w) s.heap k' b)(h:Q false s):J5 (J6 prog w) A (tableMayTell (.int i t) stored) Q E s:=by
 unfold tableMayTell;split
 .exact Kk h
 .rw[eqIsQuiet_byValue 8 (show carriedByValue (.int i t)=true from rfl)];refine Kf (Kk ?_);simp only[Wj,QP,if_false];refine Kf ?_;refine Li _ (λrest r s'=>s'=s/\r=(none,())/\∀v∈rest,∃k' b,v=.ref b/\Lh (JX prog w) s.heap k' b) _ ?_ ?_ _ _ ⟨rfl,rfl,hst⟩
  .rintro v rest r s' ⟨rfl,rfl,hr⟩;obtain⟨k',b,rfl,hk⟩:=hr v QH;refine Kf (wpAny_eqIsQuiet_tuple hk ?_);simp only[Wj,QP,if_false];exact Kk ⟨rfl,rfl,λv hv=>hr v (Qk _ hv)⟩
  .rintro r s' ⟨rfl,rfl,_⟩;exact Kk h
def GF {xs:List TK}(hu:A.units<Kv)(ho:s.heap.get? d=some o)(hd:o.data=.dict es ep)(he:es.toList=xs.map iN)(his:∀x∈xs,Lh (JX prog w) s.heap x.1 x.2.1)(h:Q none s):
  J5 (J6 prog w) A (dictFind d (.int i t) (hashInt i)) Q E s:=by
 have hmem:∀e∈es,∃x∈xs,e=iN x:=by
  intro e hin;have:e∈xs.map iN:=he▸Array.mem_toList_iff.mpr hin;obtain⟨x,hx,rfl⟩:=QL.mp this;exact⟨x,hx,rfl⟩
 have hst:∀v∈(placesWithHash es.size (λi=>es[i]?.map (·.hash)) (hashInt i)).filterMap (λi=>es[i]?.map (·.key)),∃k' b,v=.ref b/\Lh (JX prog w) s.heap k' b:=by
  intro v hv;obtain⟨j,_,hi⟩:=WL.mp hv;cases hei:es[j]? with
  |none=>rw[hei]at hi;cases hi
  |some e=>
   rw[hei]at hi;obtain rfl:e.key=v:=by simpa using hi
   obtain⟨x,hx,rfl⟩:=hmem e (W2 hei);exact⟨x.1,x.2.1,rfl,his x hx⟩
 have hne:∀(e:JR),e∈es->∀(Q:Bool->Shared->Prop),Q false s->J5 (J6 prog w) A (eqBool e.key (.int i t)) Q E s:=by
  intro e hin Q q;obtain⟨x,hx,rfl⟩:=hmem e hin;obtain⟨ob,items,n,h1,h2,h3,_⟩:=his x hx;exact EqAt.tuple_int i t (show s.heap.IsTuple x.2.1 items from⟨ob,h1,h2,n,h3⟩) hu prog w E Q q
 unfold dictFind
 try with_reducible refine Kg ?_
 refine Kf (wpAny_dictEntries ho hd ?_);dsimp only;by_cases hall:((Value.int i t::(placesWithHash es.size (λi=>es[i]?.map (·.hash)) (hashInt i)).filterMap (λi=>es[i]?.map (·.key))).all carriedByValue)=true
 .rw[LF hall];unfold dictWalkPlain;refine Kf ?_;refine Li _ (λ_ b s'=>s'=s/\b=(none,())) _ ?_ ?_ _ _ ⟨rfl,rfl⟩
  .rintro x rest b s' ⟨rfl,rfl⟩;cases hex:es[x]? with
   |none=>exact Kk ⟨rfl,rfl⟩
   |some e=>
    dsimp only;by_cases hh:(e.hash==hashInt i)=true
    .rw[LF hh];refine Kf (Lj ho hd (Kf (hne e (W2 hex) _ (Kf (Lj ho hd ?_)))));show J5 _ _ (if(ep != ep)=true then _ else _) _ E _;rw[LG (by simp)];simp only[QP,if_false];refine Kf (wpAny_rule ?_);exact Kk ⟨rfl,rfl⟩
    .rw[LG hh];exact Kk ⟨rfl,rfl⟩
  .rintro b s' ⟨rfl,rfl⟩;exact Kk h
 .rw[LG hall];have hone:¬(((placesWithHash es.size (λi=>es[i]?.map (·.hash)) (hashInt i)).filterMap (λi=>es[i]?.map (·.key))) == [Value.int i t])=true:=by
   intro z;have z:=eq_of_beq z;obtain⟨_,b,e,_⟩:=hst (.int i t) (by rw[z];simp);cases e
  rw[LG hone];refine Kf (HB hst ?_);rw[LG (by simp)];refine Kf ?_;refine Li _ (λ_ b s'=>s'=s/\b=(none,none)) _ ?_ ?_ _ _ ⟨rfl,rfl⟩
  .rintro x rest b s' ⟨rfl,rfl⟩;cases hex:es[x]? with
   |none=>exact Kk ⟨rfl,rfl⟩
   |some e=>
    dsimp only;by_cases hh:(e.hash==hashInt i)=true
    .rw[LF hh];refine Kf (Lj ho hd (Kf (hne e (W2 hex) _ (Kf (Lj ho hd ?_)))));show J5 _ _ (if(ep != ep)=true then _ else _) _ E _;rw[LG (by simp)];simp only[QP,if_false];refine Kf (wpAny_rule ?_)
     first
      |exact Kk ⟨rfl,rfl⟩
      |(rw[LG (by simp)];exact Kk ⟨rfl,rfl⟩)
      |exact Kf (Kk (Kk ⟨rfl,rfl⟩))
    .rw[LG hh];exact Kk ⟨rfl,rfl⟩
  .rintro b s' ⟨rfl,rfl⟩;exact Kk h
def C1 (hu:A.units+1<Kv)(hd:(d==JV)=false)(hm:s.heap.DictOfH (JW (JX prog w)) d xs)(h:Q (.bool false) {s with toks:=s.toks+1}):
  J5 (J6 prog w) A (Ko .In (.int i t) (.ref d)) Q E s:=by
 show J5 _ _ (do return .bool (<-contains (.ref d) (.int i t))) Q E s;refine Kf ?_;unfold contains
 try with_reducible refine Kg ?_
 refine Kf (wpAny_specialOf hm.typeIs slot_dict_contains.lookup ?_);show J5 _ _ (if(some (Value.builtin "dict.__contains__")==some Value.none)=true then _ else _) _ E s;rw[LG (by rw[beq_builtin_none];exact Q3)];refine Kf (wpAny_callSpecialUnlessNone?_slot (name:=Str.ofString "__contains__") hm.typeIs slot_dict_contains
  (wpAny_call_entry slot_dict_contains hm.typeIs entry_dict_contains ?_ (args_dict_contains _ _)))
 obtain⟨o,es,ep,ho,_,hdd,he,his,hn⟩:=id hm;show J5 _ _ (dictGet d (.int i t) >>= _) _ _ s;refine Kf ?_;unfold dictGet
 try with_reducible refine Kg ?_
 refine Kf (wpAny_pyHash_int (Kf (GF (s:={s with toks:=s.toks+1}) (xs:=xs) (by show A.units+1<Kv;lia) ho hdd he his ?_)));refine Kk ?_;show J5 _ _ (Builtin.Dict.pendingKey? d (.int i t) >>= _) _ _ _;exact Kf (wpAny_pendingKey_other hd (Kk ⟨_,rfl,Ka (Kk h)⟩))
end
section
variable{X:Cx}{pins:List (Addr×Obj)}{σ:St}{H:Hp}{s:Shared}
noncomputable def pV(K:Qb):R2:=λx y H Q=>∃d xs,y=.ref d/\rQ K H d xs/\((∃i,x=.int i/\Q (.bl false) H)\/∃a ks,x=.ref a/\bT K H a (ks.map V.int)/\Q (.bl (atKey xs ks).isSome) H)
def Dy(hu:X.A.units+64<Kv):bP X (Ko .In) (pV X.K):=by
 intro pins s σ H x y v u Q I rx ry h;obtain⟨d,xs,rfl,hd,h⟩:=h;cases ry;obtain⟨d0,dm⟩:=Gp I hd;rcases h with⟨i,rfl,q⟩|⟨a,ks,rfl,hk,q⟩
 .obtain ⟨t,rfl⟩:=rx;exact C1 (by lia) d0 dm ⟨.bl false,H,I.tok _,rfl,q⟩
 .cases rx;exact wpAny_in_heap (knd:=JW (JX X.prog X.w)) (by show X.A.units+1<Kv;lia) (tX I hk) d0 dm ⟨.bl (atKey xs ks).isSome,H,I.tok _,rfl,q⟩
end
end L2
namespace Mini
open PySem PySem.Spec PyProof.Rows L2
section
variable{K:Qb}{as:List Addr}{H:Hp}{m:Me}{Q:VK}
def Dx (S:aQ K as m H)(R:aj K as H x v)(R':aj K as H y u)(h:nX m x y=some b)(q:Q (.bl b) H):pV K v u H Q:=by
 unfold nX at h;cases y with
 |ref l=>
  obtain⟨a,ha,rfl⟩:=aJ.mp R';dsimp only at h;cases e:m[l]? with
  |none=>cases h
  |some o=>
   cases o with
   |lst ys=>cases h
 |_=>cases h
end
end Mini
namespace Mini
open PySem PySem.Spec PyProof.Rows L2
open PySem.SeqAt
noncomputable def cK:Co->Kq
 |.eq=>.Eq |.ne=>.NotEq |.lt=>.Lt |.le=>.LtE |.gt=>.Gt |.ge=>.GtE |.isN=>.Is |.notN=>.IsNot |.isin=>.In 
noncomputable def rC(K:Qb)(op:Co):R2:=λx y H Q=>∃as m w w',aQ K as m H/\aj K as H w x/\aj K as H w' y/\aw K as H Q (cop op w w' m)
section
variable{X:Cx}
def jG {K:Qb}(S:aQ K as m H)(h:aw K as H Q (dF o m)):∃b,o=some b/\Q (.bl b) H:=by
 cases o with
 |none=>exact h.elim
 |some b=>exact⟨b,rfl,h.ok S (ah.mpr rfl)⟩
theorem tW:∀{ys:List Wd}{r:Bool},ef p x ys=some r ->
  ∃f:Wd->Bool,(∀y∈ys,p y x=some (f y))/\r=ys.any f
 |[],r,h=>by cases h;exact⟨λ_=>false,λy hy=>by simp at hy,rfl⟩
 |y::ys,r,h=>by
  unfold ef at h;cases hp:p y x with
  |none=>rw[hp]at h;cases h
  |some b=>
   rw[hp]at h;simp only[]at h;cases hr:ef p x ys with
   |none=>rw[hr]at h;cases h
   |some r'=>
    rw[hr]at h;cases h;obtain⟨f,hf,rfl⟩:=tW hr
    classical
    refine⟨λz=>(p z x).getD false,λz hz=>?_,?_⟩
    .rcases Qt.mp hz with rfl|hz
     .simp only[hp,WS]
     .simp only[hf z hz,WS]
    .rw[List.any_cons,hp];congr 1;refine Vq.mpr ?_;rw[WE,WE];constructor
     .rintro ⟨z,hz,e⟩;exact⟨z,hz,by rw[hf z hz];exact e⟩
     .rintro ⟨z,hz,e⟩;rw[hf z hz]at e;exact⟨z,hz,e⟩
def uO (I:Inv X pins σ H s)(S:aQ X.K as m H)(hu:A.units+yJ<Kv)(R:aj X.K as H w v)(ru:RelV v u)(ry:ae X.K as H ys vs)(rv:az vs its)(h:ef (cm m yJ) w ys=some r):
  ∃e:Value->Bool,(∀y,y∈its.toArray->EqAt A s y u (e y))/\its.toArray.any e=r:=by
 obtain⟨f,hf,rfl⟩:=tW h
 classical
 -- the plain value of an item
 have pick:∀y,y∈its->∃z,z∈ys/\∃vz,aj X.K as H z vz/\RelV vz y:=λy hy=>by
  obtain⟨j,hj,rfl⟩:=W5.mp hy;have l1:=ry.length;have l2:=rv.length;have hj1:j<vs.length:=by lia
  obtain⟨u1,e1,q1⟩:=rv.get (i:=j) (x:=vs[j]) (by simp[hj1]);obtain⟨z,e2,q2⟩:=ry.back (i:=j) (v:=vs[j]) (by simp[hj1]);obtain⟨_,e3⟩:=Qa.mp e1;exact⟨z,QA e2,vs[j],q2,by rw[e3];exact q1⟩
 let e:Value->Bool:=λy=>if hy:y∈its then f (Classical.choose (pick y hy))else false
 have he:∀y (hy:y∈its) z vz,z∈ys->aj X.K as H z vz->RelV vz y->e y=f z:=λy hy z vz hz hr hq=>by
  obtain⟨h1,vz',h2,h3⟩:=Classical.choose_spec (pick y hy);have:e y=f (Classical.choose (pick y hy)):=dif_pos hy;rw[this];have hv:vz'=vz:=h3.inj hq;subst hv;rw[vQ I S _ _ _ h2 hr]
 refine⟨e,λy hy=>?_,?_⟩
 .have hy':y∈its:=by simpa using hy
  obtain⟨z,hz,vz,q1,q2⟩:=pick y hy';rw[he y hy' z vz hz q1 q2];exact(iM I S yJ A z w vz v y u (f z) hu (hf z hz) q1 R q2 ru).it
 .refine Vq.mpr ?_;rw[List.any_toArray,WE,WE];constructor
  .rintro ⟨y,hy,ey⟩;obtain⟨z,hz,vz,q1,q2⟩:=pick y hy;rw[he y hy z vz hz q1 q2]at ey;exact⟨z,hz,ey⟩
  .rintro ⟨z,hz,ez⟩;obtain⟨j,hj,rfl⟩:=W5.mp hz;obtain⟨v1,e1,q1⟩:=ry.get (i:=j) (x:=ys[j]) (by simp[hj]);obtain⟨u1,e2,q2⟩:=rv.get e1;have hy:u1∈its:=QA e2;exact⟨u1,hy,by rw[he u1 hy ys[j] v1 (QC hj) q1 q2];exact ez⟩
set_option tactic.hygienic true in
def gD(hu:X.A.units+64<Kv)(op:Co):bP X (Ko (cK op)) (rC X.K op):=by
 intro pins s σ H x y v u Q I rx ry h;obtain⟨as,m,w,w',S,R,R',q⟩:=h;have hd:yJ=12:=rfl;have fin:∀{b:Bool},Q (.bl b) H->EP X pins σ Q (.bool b) s:=λ{b} q=>⟨.bl b,H,I,rfl,q⟩;have cmpI:∀{r:Int->Int->Bool},aw X.K as H Q (jC r w w' m)->∃i j,x=.int i/\y=.int j/\Q (.bl (r i j)) H:=λ{r} q=>by
  unfold jC at q;cases w with
  |int i=>
   cases w' with
   |int j=>exact⟨i,j,aa.mp R,aa.mp R',q.ok S (ah.mpr rfl)⟩
   |_=>exact q.elim
  |_=>exact q.elim
 cases op with
 |eq=>
  obtain⟨b,hb,q⟩:=jG S q;exact(iM I S yJ X.A w w' x y v u b (by lia) hb R R' rx ry).eq X.prog X.w X.xe _ (fin q)
 |ne=>
  obtain⟨b,hb,q⟩:=jG S q;obtain⟨c,hc,rfl⟩:=QK.mp hb;exact(iM I S yJ X.A w w' x y v u c (by lia) hc R R' rx ry).ne X.prog X.w X.xe _ (fin q)
 |isin=>
  simp only[cop]at q;split at q
  .rename_i ys hs;obtain⟨b,hb,q⟩:=jG S q;obtain⟨p,vs,rfl,hq,r⟩:=jF S R' hs;obtain rfl:u=.ref p:=ry;rcases hq with hq|hq
   .obtain ⟨its,rv,pl,_⟩:=I.list hq;obtain⟨e,he,rfl⟩:=uO (A:=X.A.in1) I S (by show X.A.units+1+yJ<Kv;lia) R rx r rv hb;exact in_listAt e pl.isList he (fin q)
   .obtain ⟨its,rv,pl,_⟩:=I.tuple hq;obtain⟨e,he,rfl⟩:=uO (A:=X.A.in1) I S (by show X.A.units+1+yJ<Kv;lia) R rx r rv hb;exact in_tupleAt e (show s.heap.IsTuple p its.toArray from pl) he (fin q)
  .obtain ⟨b,hb,q⟩:=jG S q;exact Dy hu pins s σ H x y v u Q I rx ry (Dx S R R' hb q)
 |isN=>
  refine Df pins s σ H x y v u Q I rx ry ?_;simp only[cop]at q;split at q
  .exact ⟨ak.mp R',by rw[ak.mp R];exact q.ok S (ah.mpr rfl)⟩
  .rename_i hne;refine⟨ak.mp R',?_⟩;have:x≠.non:=λz=>by
    subst z;exact hne (vQ I S _ _ _ R (ak.mpr rfl))
   rw[LC this];exact q.ok S (ah.mpr rfl)
  .exact q.elim
 |notN=>
  refine EZ pins s σ H x y v u Q I rx ry ?_;simp only[cop]at q;split at q
  .exact ⟨ak.mp R',by rw[ak.mp R];exact q.ok S (ah.mpr rfl)⟩
  .rename_i hne;refine⟨ak.mp R',?_⟩;have:x≠.non:=λz=>by
    subst z;exact hne (vQ I S _ _ _ R (ak.mpr rfl))
   rw[LC this];exact q.ok S (ah.mpr rfl)
  .exact q.elim
 |lt=>exact BL pins s σ H x y v u Q I rx ry (cmpI q)
 |le=>exact BK pins s σ H x y v u Q I rx ry (cmpI q)
 |gt=>exact BJ pins s σ H x y v u Q I rx ry (cmpI (r:=λi j=>decide (j<i)) q)
 |ge=>exact BI pins s σ H x y v u Q I rx ry (cmpI (r:=λi j=>decide (j<=i)) q)
end
end Mini
namespace L2
open PySem PySem.Spec PyProof.Rows
section
variable{X:Cx}
noncomputable def nI:V->List V->Hp->VK->Prop:=λx vs H Q=>∃l xs y,x=.ref l/\vs=[.int 0,y]/\H l=some (.lst xs)/\xs.length<sizeLine/\Q .non (aK H l (.lst (y::xs)))
def Dw:ii X "list.insert" nI:=by
 intro pins s σ H x vs v us Q I rx rv h;obtain⟨l,xs,y,rfl,rfl,hH,hz,q⟩:=h;cases rx;obtain⟨u0,u,rfl,ru0,ru⟩:∃u0 u,us=[u0,u]/\RelV (.int 0) u0/\RelV y u:=by
  cases rv with
  |cons a r=>
   cases r with
   |cons b r=>cases r;exact⟨_,_,rfl,a,b⟩
 obtain⟨t,rfl⟩:=ru0;obtain⟨z,its,n,r,hl,e⟩:=I.lstM hH;refine K6 F.slot_list_insert ⟨_,e,rfl⟩ F.entry_list_insert (F.args_list_insert_3 _ _ _) (AutoListH.list_insert_list_int_val_1 l its.toArray n 0 t u (by decide) (by rw[Qm];lia)) ⟨e,?_⟩;refine⟨.non,_,I.lset (its':=u::its) hH e ?_ (.cons ru r) ?_,rfl,q⟩
 .simp
 .rw[Wh];lia
end
section
variable{O:KeyOrd}{key:Lk->O.α}
noncomputable def Le(O:KeyOrd)(key:Lk->O.α)(x y:Lk):Prop:=O.kle (key x) (key y)
def Le.trans{x y z:Lk}(h1:Le O key x y)(h2:Le O key y z):Le O key x z:=KeyOrd.kle_trans h1 h2
variable{X Y L:List Lk}{ia ib:Nat}
end
section
variable{O:KeyOrd}{key:Lk->O.α}
variable{X Y L:List Lk}{na nb:Nat}
end
section
variable{O:KeyOrd}{key:Lk->O.α}{S:Lk->Prop}
variable{κ:SortKind}
structure Ok(κ:SortKind)(O:KeyOrd)(key:Lk->O.α)(S:Lk->Prop)(st:SortSt)(pend:List (Nat×Nat×Nat))(l:List Lk):Prop where
 kind:kindOf st=κ
 failed:failedOf st=none
 pend:(pendingOf st).toList=pend
 arr:(arrOf st).toList=l
 all:∀x∈l,S x
end
noncomputable def fo(ns:List Int):List Int:=ns.mergeSort λa b=>decide (a<=b)
def gE(ns:List Int):(fo ns).Perm ns:=List.mergeSort_perm _ _
def HA(ns:List Int):(fo ns).Pairwise (·<=·):=by
 have:=List.pairwise_mergeSort (le:=λa b:Int=>decide (a<=b)) (λa b c h1 h2=>by simp only[LL]at *;lia) (λa b=>by simp only[Wy,LL];lia) ns;exact this.imp λh=>LK h
def Fa (h:ms.Perm ns)(hs:ms.Pairwise (·<=·)):fo ns=ms:=
 List.Perm.eq_of_pairwise (le:=λa b:Int=>a<=b) (λa b _ _ h1 h2=>by lia) (HA ns) hs ((gE ns).trans h.symm)
theorem uN:∀{ns:List Int}{its:List Value},az (ns.map V.int) its->K7 its ns
 |[],_,.nil=>.nil
 |n::ns,_,.cons r t=>by
  obtain⟨k,rfl⟩:=(r:∃t,_=Value.int n t);exact .cons _ _ (uN t)
theorem uM:∀{ns:List Int}{its:List Value},K7 its ns->az (ns.map V.int) its
 |_,_,.nil=>.nil
 |_,_,.cons _ _ t=>.cons ⟨_,rfl⟩ (uM t)
section
variable{X:Cx}
def Hu:aS X (.builtin "sorted") (λxs H Q=>∃(p:Addr) (ns:List Int),xs=[.ref p]/\bG X.K H p (ns.map V.int)/\ns.length<64/\∀l,H l=none->Q (.ref l) (aK H l (.lst ((fo ns).map V.int)))):=by
 intro pins s σ H xs us Q I r h;obtain⟨p,ns,rfl,hq,h64,q⟩:=h;obtain⟨u,rfl,rx⟩:=vN r;cases rx;obtain⟨its,r',pl,hz⟩:=I.list hq;have hlen:=r'.length;rw[Qw]at hlen;refine sorted_ints pl.isList (uN r') (by lia) λout ns' h1 h2 h3=>?_;obtain⟨e,he⟩:=sortedAll_at s.heap its out;have e1:fo ns=ns':=Fa h2 h3;refine⟨.ref (s.heap.objs.size+1),_,I.laid (a:=s.heap.objs.size+1) (t':=s.toks) (λb o hb=>sortedAll_old hb) (by lia) (show bc X.prog X.w _ _ _ (.lst ((fo ns).map V.int))from⟨?_,out.toList,e,?_,?_⟩),rfl,q _ (I.hok.fresh (by lia))⟩
 .rw[Qw,(gE ns).length_eq];have:(64:Nat)<=sizeLine:=by decide
  lia
 .rw[e1];exact uM h1
 .exact he
end
end L2
namespace Mini
open PySem PySem.Spec PyProof.Rows L2
section
variable{K:Qb}{as:List Addr}{H H':Hp}{m m':Me}{Q:VK}{X:Cx}
noncomputable def lR:dW->Option (Str×Value)
 |.len=>some ("len",.builtin "len")
 |.int=>some ("int",.type "int")
 |.list=>some ("list",.type "list")
 |.tuple=>some ("tuple",.type "tuple")
 |.abs=>some ("abs",.builtin "abs")
 |.max2=>some ("max",.builtin "max")
 |.sum=>some ("sum",.builtin "sum")
 |.all=>some ("all",.builtin "all")
 |.sortI=>some ("sorted",.builtin "sorted")
noncomputable def Ac(K:Qb)(b:dW):List V->Hp->VK->Prop:=λvs H Q=>∃as m ws,aQ K as m H/\ae K as H ws vs/\aw K as H Q (jD b ws m)
def xq (h:ae K as H [x] vs):∃v,vs=[v]/\aj K as H x v:=by
 obtain⟨v,r,rfl,q,t⟩:=am.mp h;obtain rfl:=aA.mp t;exact⟨v,rfl,q⟩
def ql (h:ae K as H [x,y] vs):∃v u,vs=[v,u]/\aj K as H x v/\aj K as H y u:=by
 obtain⟨v,r,rfl,q,t⟩:=am.mp h;obtain⟨u,rfl,q'⟩:=xq t;exact⟨v,u,rfl,q,q'⟩
def mh (S:aQ K as m H)(R:aj K as H w v)(h:jh m w=some xs):∃p vs,v=.ref p/\bG K H p vs/\ae K as H xs vs:=by
 cases w with
 |rol ys=>
  cases h;obtain⟨a,vs,rfl,hq,rr⟩:=ba.mp R;exact⟨a,vs,rfl,hq.sq,rr⟩
 |ref l=>
  obtain⟨b,hb,rfl⟩:=aJ.mp R;obtain⟨a,vs,ha,e,r⟩:=yK S (yQ h);rw[hb]at ha;cases ha;exact⟨b,vs,rfl,bG.of e,r⟩
 |_=>cases h
theorem tV:∀{xs:List Wd}{vs:List V}{i:Int},ae K as H xs vs->eP xs=some i->∃ns:List Int,vs=ns.map V.int/\ns.sum=i
 |[],vs,i,R,h=>by cases h;exact⟨[],aA.mp R,rfl⟩
 |x::xs,vs,i,R,h=>by
  obtain⟨v,r,rfl,q,t⟩:=am.mp R;cases x with
  |int j=>
   simp only[eP,QK]at h;obtain⟨k,hk,rfl⟩:=h;obtain⟨ns,rfl,rfl⟩:=tV t hk;obtain rfl:=aa.mp q;exact⟨j::ns,rfl,by simp⟩
  |_=>cases h
theorem tU:∀{xs:List Wd}{vs:List V}{i:Bool},ae K as H xs vs->eM xs=some i->∃bs:List Bool,vs=bs.map V.bl/\bs.all id=i
 |[],vs,i,R,h=>by cases h;exact⟨[],aA.mp R,rfl⟩
 |x::xs,vs,i,R,h=>by
  obtain⟨v,r,rfl,q,t⟩:=am.mp R;cases x with
  |bl j=>
   simp only[eM,QK]at h;obtain⟨k,hk,rfl⟩:=h;obtain⟨ns,rfl,rfl⟩:=tU t hk;obtain rfl:=ah.mp q;exact⟨j::ns,rfl,by simp⟩
  |_=>cases h
def qm{o:Option (List Wd)}{f:(List Wd)->Rz}(h:aw K as H Q (match o with|some a=>f a|none=>.no)):∃a,o=some a/\aw K as H Q (f a):=by
 cases o with
 |none=>exact h.elim
 |some a=>exact⟨a,rfl,h⟩
def DV{o:Option Int}{f:Int->Rz}(h:aw K as H Q (match o with|some a=>f a|none=>.no)):∃a,o=some a/\aw K as H Q (f a):=by
 cases o with
 |none=>exact h.elim
 |some a=>exact⟨a,rfl,h⟩
def DU{o:Option Bool}{f:Bool->Rz}(h:aw K as H Q (match o with|some a=>f a|none=>.no)):∃a,o=some a/\aw K as H Q (f a):=by
 cases o with
 |none=>exact h.elim
 |some a=>exact⟨a,rfl,h⟩
theorem gF:∀(l:List Int),ae K as H (l.map Wd.int) (l.map V.int)
 |[]=>aA.mpr rfl
 |n::l=>am.mpr ⟨_,_,rfl,aa.mpr rfl,gF l⟩
theorem uL:∀{xs:List Wd}{vs:List V}{k:List Int},ae K as H xs vs->wQ xs=some k->vs=k.map V.int
 |[],vs,k,R,h=>by cases h;exact aA.mp R
 |x::xs,vs,k,R,h=>by
  obtain⟨v,r,rfl,q,t⟩:=am.mp R;cases x with
  |int j=>
   have h':(wQ xs).map (j::·)=some k:=h;obtain⟨k',hk,rfl⟩:=QK.mp h';rw[uL t hk,aa.mp q];rfl
  |_=>cases h
set_option tactic.hygienic true in
def GE (hu:X.A.units+64<Kv)(hc:X.calm=true)(hb:lR b=some (nm,f)):aS X f (Ac X.K b):=by
 intro pins s σ H xs us Q I r h;obtain⟨as,m,ws,S,R,q⟩:=h;cases b with
 |len=>
  cases hb;refine qh pins s σ H xs us Q I r ?_;rcases ws with _|⟨x,_|⟨_,_⟩⟩
  .exact q.elim
  .obtain ⟨ys,hs,q⟩:=qm (o:=yr m x) (f:=λys=>.ok (.int ys.length) m) q;obtain⟨v,rfl,q1⟩:=xq R;obtain⟨p,vs,rfl,hq,rr⟩:=jF S q1 hs;refine⟨p,vs,rfl,hq,?_⟩;rw[<-rr.length];exact q.ok S (aa.mpr rfl)
  .exact q.elim
 |int=>
  cases hb;refine G4 pins s σ H xs us Q I r ?_;cases ws with
  |nil=>exact q.elim
  |cons x ws=>
   cases x with
   |int i=>
    cases ws with
    |nil=>
     obtain⟨v,rfl,q1⟩:=xq R;obtain rfl:=aa.mp q1;exact .inl ⟨i,rfl,q.ok S (aa.mpr rfl)⟩
    |cons _ _=>exact q.elim
   |bl i=>
    cases ws with
    |nil=>
     obtain⟨v,rfl,q1⟩:=xq R;obtain rfl:=ah.mp q1;exact .inr ⟨i,rfl,q.ok S (aa.mpr rfl)⟩
    |cons _ _=>exact q.elim
   |_=>exact q.elim
 |list=>
  cases hb;refine qi pins s σ H xs us Q I r ?_;rcases ws with _|⟨x,_|⟨_,_⟩⟩
  .exact q.elim
  .obtain ⟨ys,hs,q⟩:=qm (o:=yr m x) (f:=λys=>alloc m ys) q;obtain⟨v,rfl,q1⟩:=xq R;obtain⟨p,vs,rfl,hq,rr⟩:=jF S q1 hs;exact⟨p,vs,rfl,hq,(xQ S rr q).2⟩
  .exact q.elim
 |tuple=>
  cases hb;refine gm pins s σ H xs us Q I r ?_;rcases ws with _|⟨x,_|⟨_,_⟩⟩
  .exact q.elim
  .obtain ⟨ys,hs,q⟩:=qm (o:=yr m x) (f:=λys=>.ok (.tup ys) m) q;obtain⟨v,rfl,q1⟩:=xq R;obtain⟨p,vs,rfl,hq,rr⟩:=jF S q1 hs;refine⟨p,vs,rfl,?_⟩;rcases hq with hq|hq
   .refine .inl ⟨hq,λl hl=>?_⟩;obtain⟨T,S',R'⟩:=S.tup hl rr;exact q _ _ _ T S' R'
   .exact .inr ⟨hq,q.ok S (ai.mpr ⟨p,vs,rfl,hq,rr⟩)⟩
  .exact q.elim
 |abs=>
  cases hb;refine Gy pins s σ H xs us Q I r ?_;cases ws with
  |nil=>exact q.elim
  |cons x ws=>
   cases x with
   |int i=>
    cases ws with
    |nil=>
     obtain⟨v,rfl,q1⟩:=xq R;obtain rfl:=aa.mp q1;exact⟨i,rfl,q.ok S (aa.mpr rfl)⟩
    |cons _ _=>exact q.elim
   |_=>exact q.elim
 |sortI=>
  cases hb;refine Hu pins s σ H xs us Q I r ?_;rcases ws with _|⟨x,_|⟨_,_⟩⟩
  .exact q.elim
  .replace q:aw X.K as H Q (match (jh m x).bind wQ with
    |some k=>if k.length<64 then alloc m ((fq k).map Wd.int)else .no
    |none=>.no):=q
   cases hs:(jh m x).bind wQ with
   |none=>rw[hs]at q;exact q.elim
   |some k=>
    rw[hs]at q;by_cases h64:k.length<64
    .replace q:aw X.K as H Q (if k.length<64 then alloc m ((fq k).map Wd.int)else .no):=q
     rw[LF h64]at q;obtain⟨ys,h1,h2⟩:=QF.mp hs;obtain⟨v,rfl,q1⟩:=xq R;obtain⟨p,vs,rfl,hq,rr⟩:=mh S q1 h1;obtain rfl:=uL rr h2;exact⟨p,k,rfl,hq,h64,(xQ S (gF _) q).2⟩
    .replace q:aw X.K as H Q (if k.length<64 then alloc m ((fq k).map Wd.int)else .no):=q
     rw[LG h64]at q;exact q.elim
  .exact q.elim
 |sum=>
  cases hb;refine qY hc pins s σ H xs us Q I r ?_;rcases ws with _|⟨x,_|⟨_,_⟩⟩
  .exact q.elim
  .obtain ⟨i,hs,q⟩:=DV (o:=(jh m x).bind eP) (f:=λi=>.ok (.int i) m) q;obtain⟨ys,h1,h2⟩:=QF.mp hs;obtain⟨v,rfl,q1⟩:=xq R;obtain⟨p,vs,rfl,hq,rr⟩:=mh S q1 h1;obtain⟨ns,rfl,rfl⟩:=tV rr h2;exact⟨p,ns,rfl,hq,q.ok S (aa.mpr rfl)⟩
  .exact q.elim
 |all=>
  cases hb;refine qX hc pins s σ H xs us Q I r ?_;rcases ws with _|⟨x,_|⟨_,_⟩⟩
  .exact q.elim
  .obtain ⟨i,hs,q⟩:=DU (o:=(jh m x).bind eM) (f:=λi=>.ok (.bl i) m) q;obtain⟨ys,h1,h2⟩:=QF.mp hs;obtain⟨v,rfl,q1⟩:=xq R;obtain⟨p,vs,rfl,hq,rr⟩:=mh S q1 h1;obtain⟨ns,rfl,rfl⟩:=tU rr h2;exact⟨p,ns,rfl,hq,q.ok S (ah.mpr rfl)⟩
  .exact q.elim
 |max2=>
  cases hb;refine G5 hc pins s σ H xs us Q I r ?_;cases ws with
  |nil=>exact q.elim
  |cons x ws=>
   cases x with
   |int i=>
    cases ws with
    |nil=>exact q.elim
    |cons y ws=>
     cases y with
     |int j=>
      cases ws with
      |nil=>
       obtain⟨v,u,rfl,q1,q2⟩:=ql R;obtain rfl:=aa.mp q1;obtain rfl:=aa.mp q2;exact⟨i,j,rfl,q.ok S (aa.mpr rfl)⟩
      |cons _ _=>exact q.elim
     |_=>exact q.elim
   |_=>exact q.elim
set_option tactic.hygienic true in
def Dv (S:aQ K as m H)(R:aj K as H x v)(R':aj K as H y u)(h:aw K as H Q (vq x y m)):Ab K v u H Q:=by
 unfold vq at h;split at h
 .rename_i i;obtain rfl:=aa.mp R';split at h
  .rename_i xs hs;split at h
   .rename_i w hw;obtain⟨p,vs,rfl,hq,rr⟩:=jF S R hs;have e:∃z,ff vs i=some z/\aj K as H w z:=by
     obtain⟨j,hj,hx⟩:=QF.mp hw;obtain⟨z,hz,rz⟩:=rr.get hx;refine⟨z,?_,rz⟩;unfold ff;have hj':fw vs.length i=some j:=by rw[<-rr.length];exact hj
     rw[hj'];exact hz
    obtain⟨z,hz,rz⟩:=e;rcases hq with hq|hq
    .exact .inl ⟨p,vs,i,z,rfl,rfl,hq,hz,h.ok S rz⟩
    .exact .inr (.inl ⟨p,vs,i,z,rfl,rfl,hq,hz,h.ok S rz⟩)
   .exact h.elim
  .exact h.elim
 .exact h.elim
set_option tactic.hygienic true in
def Du {Q:Hp->Prop}(S:aQ K as m H)(R:aj K as H o vo)(R':aj K as H i vi)(R2:aj K as H w v)(h:∀m',vG o i w m=.ok .non m'->∀H',Step as H as H'->aQ K as m' H'->Q H')(hne:∃m',vG o i w m=.ok .non m'):me vo vi v H Q:=by
 obtain⟨m',hm'⟩:=hne;have h:=h m' hm';unfold vG at hm';split at hm'
 .rename_i l k;split at hm'
  .rename_i xs hl;split at hm'
   .rename_i j hj;cases hm';obtain⟨a,ha,rfl⟩:=aJ.mp R;obtain rfl:=aa.mp R';obtain⟨b,vs,hb,e,rr⟩:=yK S hl;rw[ha]at hb;cases hb;obtain⟨T,S'⟩:=S.set ha hl (rr.set j R2);refine⟨a,vs,k,j,rfl,rfl,e,?_,h _ T S'⟩;rw[<-rr.length];exact hj
   .cases hm'
  .cases hm'
 .cases hm'
noncomputable def et:dC->Str×String
 |.append=>("append","list.append") |.pop=>("pop","list.pop") |.reverse=>("reverse","list.reverse") |.clear=>("clear","list.clear") |.insert=>("insert","list.insert")
noncomputable def HZ(K:Qb)(n:dC):V->List V->Hp->VK->Prop:=λv vs H Q=>∃as m w ws,aQ K as m H/\aj K as H w v/\ae K as H ws vs/\aw K as H Q (b6 n w ws m)
set_option tactic.hygienic true in
def tm(n:dC):oX X (et n).2 (HZ X.K n):=by
 intro pins s σ H v vs u us Q I r rs h;obtain⟨as,m,w,ws,S,R,Rs,q⟩:=h;unfold b6 at q;split at q
 .rename_i l;split at q
  .rename_i xs hl;obtain⟨a,ha,rfl⟩:=aJ.mp R;obtain⟨b,zs,hb,e,rr⟩:=yK S hl;rw[ha]at hb;cases hb;have hz:zs.length<=sizeLine:=(I.lstM e).1;split at q
   .rename_i y;split at q
    .rename_i hlt;obtain⟨z,rfl,rz⟩:=xq Rs;obtain⟨T,S'⟩:=S.set ha hl (rr.append (.one rz));exact gA pins s σ H _ _ u us Q I r rs ⟨a,zs,z,rfl,rfl,e,by rw[<-rr.length];exact Qf hlt yV,q _ _ _ T S' (ak.mpr rfl)⟩
    .exact q.elim
   .split at q
    .rename_i y hy;obtain rfl:=aA.mp Rs;obtain⟨z,hz',rz⟩:=rr.get hy;obtain⟨T,S'⟩:=S.set ha hl rr.dropLast;exact C6 pins s σ H _ _ u us Q I r rs ⟨a,zs,z,rfl,rfl,e,by rw[<-rr.length];exact hz',q _ _ _ T S' (rz.mono S T)⟩
    .exact q.elim
   .obtain rfl:=aA.mp Rs;obtain⟨T,S'⟩:=S.set ha hl rr.reverse;exact HJ pins s σ H _ _ u us Q I r rs ⟨a,zs,rfl,rfl,e,q _ _ _ T S' (ak.mpr rfl)⟩
   .rename_i k0;split at q
    .rename_i hk0;subst hk0;split at q
     .rename_i y0 r0;obtain⟨z,rfl,rz⟩:=xq Rs;obtain rfl:=aa.mp rz;obtain⟨z0,zr,rfl,ra,rb⟩:=am.mp rr;obtain⟨T,S'⟩:=S.set ha hl rb;exact Gs pins s σ H _ _ u us Q I r rs ⟨a,z0::zr,0,0,z0,rfl,rfl,e,by decide,by decide,by simp[KT],rfl,q _ _ _ T S' (ra.mono S T)⟩
     .exact q.elim
    .exact q.elim
   .rename_i k0 y0;split at q
    .rename_i hk0;obtain⟨rfl,hlt⟩:=hk0;obtain⟨z1,z2,rfl,rz1,rz2⟩:=ql Rs;obtain rfl:=aa.mp rz1;obtain⟨T,S'⟩:=S.set ha hl (am.mpr ⟨_,_,rfl,rz2,rr⟩);exact Dw pins s σ H _ _ u us Q I r rs ⟨a,zs,z2,rfl,rfl,e,by rw[<-rr.length];exact Qf hlt yV,q _ _ _ T S' (ak.mpr rfl)⟩
    .exact q.elim
   .exact q.elim
  .exact q.elim
 .exact q.elim
noncomputable def cU:Tg->String
 |.int=> "int" |.bool=> "bool" |.list=> "list" |.tuple=> "tuple" |.str=> "str" |.dict=> "dict"
def DT(K:Qb)(t:Tg):
  Qz K (.type "NoneType") (.type (cU t))=some false/\Qz K (.type "bool") (.type (cU t))=some (decide (t=.bool\/t=.int))/\Qz K (.type "int") (.type (cU t))=some (decide (t=.int)) /\
  Qz K (.type "str") (.type (cU t))=some (decide (t=.str))/\Qz K (.type "list") (.type (cU t))=some (decide (t=.list))/\Qz K (.type "tuple") (.type (cU t))=some (decide (t=.tuple))/\Qz K (.type "dict") (.type (cU t))=some (decide (t=.dict)):=by
 cases t<;>refine⟨?_,?_,?_,?_,?_,?_,?_⟩<;>kernel_rfl
noncomputable def nG(K:Qb)(t:Tg):List V->Hp->VK->Prop:=λvs H Q=>∃as m w v,vs=[v,.ty (cU t)]/\aQ K as m H/\aj K as H w v/\aw K as H Q (dF (dq t w m) m)
def Dt(m:Me)(t:Tg):dq t .non m=some false/\(∀c,dq t (.bl c) m=some (decide (t=.bool\/t=.int)))/\(∀i,dq t (.int i) m=some (decide (t=.int)))/\(∀x,dq t (.str x) m=some (decide (t=.str)))/\(∀ys,dq t (.tup ys) m=some (decide (t=.tuple)))/\(∀ys,dq t (.rol ys) m=some (decide (t=.list)))/\∀l ys,m[l]?=some (.lst ys)->dq t (.ref l) m=some (decide (t=.list)):=by
 refine⟨?_,λc=>?_,λi=>?_,λx=>?_,λys=>?_,λys=>?_,λl ys h=>?_⟩
 rotate_right
 .have e:dq t (.ref l) m=(match m[l]? with|some (.lst _)=>some (decide (t=.list))|none=>none):=by cases t<;>rfl
  rw[e,h]
 all_goals cases t<;>rfl
def GD(t:Tg):aS X (.builtin "isinstance") (nG X.K t):=by
 intro pins s σ H xs us Q I r h;obtain⟨as,m,w,v,rfl,S,R,q⟩:=h;obtain⟨b,hb,q⟩:=jG S q;obtain⟨u,u',rfl,ru,ru'⟩:=rX r;obtain rfl:u'=.type (cU t):=ru';obtain⟨k1,k2,k3,k4,k5,k6,k7⟩:=DT X.K t;obtain⟨z1,z2,z3,z4,z5,z6,z7⟩:=Dt m t;have fin:∀tk,EP X pins σ Q (.bool b) {s with toks:=tk}:=λtk=>⟨.bl b,H,I.tok tk,rfl,q⟩;cases w with
 |non=>
  obtain rfl:=ak.mp R;have e:b=false:=Option.some.inj (hb.symm.trans z1);subst e;exact wm I ru .non k1 fin
 |bl c=>
  obtain rfl:=ah.mp R;have e:b=decide (t=.bool\/t=.int):=Option.some.inj (hb.symm.trans (z2 _));subst e;exact wm I ru (.bl c) k2 fin
 |int i=>
  obtain rfl:=aa.mp R;have e:b=decide (t=.int):=Option.some.inj (hb.symm.trans (z3 _));subst e;exact wm I ru (.int i) k3 fin
 |str x=>
  obtain rfl:=ax.mp R;have e:b=decide (t=.str):=Option.some.inj (hb.symm.trans (z4 _));subst e;exact wm I ru (.str _) k4 fin
 |tup ys=>
  obtain⟨a,vs,rfl,hq,rr⟩:=ai.mp R;have e:b=decide (t=.tuple):=Option.some.inj (hb.symm.trans (z5 _));subst e;obtain rfl:u=.ref a:=ru;obtain⟨its,_,⟨o,h1,h2,_⟩,_⟩:=I.tuple hq;exact QX PySem.W.kitx_tuple I.kIn ⟨o,h1,h2⟩ k6 (λz=>nomatch z) fin
 |rol ys=>
  obtain⟨a,vs,rfl,hq,rr⟩:=ba.mp R;have e:b=decide (t=.list):=Option.some.inj (hb.symm.trans (z6 _));subst e;obtain rfl:u=.ref a:=ru;obtain⟨its,_,p,_⟩:=I.list hq.sq;obtain⟨o,n,h1,h2,_⟩:=p;exact QX Vb I.kIn ⟨o,h1,h2⟩ k5 (λz=>nomatch z) fin
 |ref l=>
  obtain⟨a,ha,rfl⟩:=aJ.mp R;have hlm:l<m.length:=by rw[<-S.len];exact(Qa.mp ha).1
  have hg:m[l]?=some m[l]:=by simp[hlm]
  cases ho:m[l]with
  |lst ys=>
   rw[ho]at hg;obtain⟨a',us,ha',e2,_⟩:=yK S hg;rw[ha]at ha';cases ha';have e:b=decide (t=.list):=Option.some.inj (hb.symm.trans (z7 _ _ hg));subst e;exact wm I ru (.lst e2) k5 fin
end
structure eG(J:It)(vs:List V)(ok:Hp->Prop):Prop where
 go:∀i H,ok H->i<vs.length->J.go i H
 yld:∀i H x H',ok H->i<vs.length->J.yld i H x H'->H'=H/\vs[i]?=some x
 stop:∀i H,ok H->vs.length<=i->J.stop i H
noncomputable def iL(K:Qb)(as:List Addr)(H:Hp)(J:It)(xs:List Wd):Prop:=
 ∃vs ok,eG J vs ok/\ok H/\ae K as H xs vs/\∀H1 H2,Kp K H1 H2->ok H1->ok H2
noncomputable def pU(K:Qb)(as:List Addr)(H:Hp)(w:Wd)(J:It):Prop:=match w with
 |.tup xs=>iL K as H J xs
 |.rol xs=>iL K as H J xs
 |.ref l=>∃a,as[l]?=some a/\J=oY K a
 |_=>True
noncomputable def bU(K:Qb)(as:List Addr)(H:Hp)(R:It->Hp->Prop)(r:Rz):Prop:=match r with
 |.ok w m'=>(yr m' w).isSome=true/\∀as' H' J,Step as H as' H'->aQ K as' m' H'->pU K as' H' w J->R J H'
 |_=>False
noncomputable def fY(K:Qb)(g:En->Me->Rz):TI:=λσ H R=>∃as env m,aQ K as m H/\aE K as H env σ/\bU K as H R (g env m)
def PI.or{X:Cx}{tg e:Expr}{a b:TI}(h1:PI X tg e a)(h2:PI X tg e b):PI X tg e (λσ H R=>a σ H R\/b σ H R):=λpins s σ H R I h=>by
 rcases h with h|h
 .exact h1 pins s σ H R I h
 .exact h2 pins s σ H R I h
def PI.imp{X:Cx}{tg e:Expr}{a b:TI}(h:PI X tg e a)(k:∀σ H R,b σ H R->a σ H R):PI X tg e b:=λpins s σ H R I q=>h pins s σ H R I (k σ H R q)
def jH (h:PE X x (aV X.K g)):PI X tg x (fY X.K g):=by
 refine PI.imp (PI.or (E3 h) (Dn h)) λσ H R q=>?_;obtain⟨as,env,m,S,G,P⟩:=q;cases hr:g env m with
 |no=>rw[hr]at P;exact P.elim
 |exc c w m'=>rw[hr]at P;exact P.elim
 |ok w m'=>
  rw[hr]at P;obtain⟨hs,P⟩:=P;obtain⟨xs,hs⟩:=Ww.mp hs;cases w with
  |tup ys=>
   refine .inr ⟨as,env,m,S,G,?_⟩;rw[hr];intro as' H' v T S' R';obtain⟨a,vs,rfl,hq,rr⟩:=ai.mp R';refine⟨a,rfl,⟨vs,hq⟩,P as' H' _ T S' ⟨vs,λH=>bT X.K H a vs,⟨λi H h hi=>⟨vs,vs[i],h,by simp[hi]⟩,λi H x H' h hi q=>⟨q.1,q.2 vs h⟩,λi H h hi=>⟨vs,h,hi⟩⟩,hq,rr,λH1 H2 k h=>k.t _ _ h⟩⟩
  |rol ys=>
   refine .inl ⟨as,env,m,S,G,?_⟩;rw[hr];intro as' H' v T S' R';obtain⟨a,vs,rfl,hq,rr⟩:=ba.mp R';refine⟨a,rfl,⟨vs,hq.sq⟩,P as' H' _ T S' ⟨vs,λH=>eh X.K H a vs,⟨λi H h hi=>⟨vs,vs[i],h.sq,by simp[hi]⟩,λi H x H' h hi q=>⟨q.1,q.2 vs h.sq⟩,λi H h hi=>⟨vs,h.sq,hi⟩⟩,hq,rr,λH1 H2 k h=>k.f _ _ h⟩⟩
  |ref l=>
   refine .inl ⟨as,env,m,S,G,?_⟩;rw[hr];intro as' H' v T S' R';obtain⟨a,ha,rfl⟩:=aJ.mp R';obtain⟨a',us,ha',e,_⟩:=yK S' (yQ hs);rw[ha]at ha';cases ha';exact⟨a,rfl,⟨us,bG.of e⟩,P as' H' _ T S' ⟨a,ha,rfl⟩⟩
  |non=>cases hs
  |bl b=>cases hs
  |int i=>cases hs
  |str x=>cases hs
theorem jI {K:Qb}(st:Int):∀(n:Nat) (lo:Int),ae K as H (ji lo st n) ((QI n).map λ(i:Nat)=>V.int (lo+st*(i:Int)))
 |0,lo=>aA.mpr rfl
 |n+1,lo=>by
  rw[WW,Wg,Wi];refine am.mpr ⟨_,_,rfl,aa.mpr (by simp),?_⟩;have e:((λ(i:Nat)=>V.int (lo+st*(i:Int))) ∘ Nat.succ)=λ(i:Nat)=>V.int (lo+st+st*(i:Int)):=by
   funext i;show V.int (lo+st*((i.succ:Nat):Int))=_;congr 1;rw[Nat.succ_eq_add_one,Int.natCast_add,Int.mul_add];lia
  rw[e];exact jI st n (lo+st)
def GT{K:Qb}(lo:Int)(n:Nat):eG (ij lo n) ((QI n).map λ(i:Nat)=>V.int (lo+1*(i:Int))) (λ_=>True):=by
 refine⟨λi H _ hi=>?_,λi H x H' _ hi q=>?_,λi H _ hi=>?_⟩
 .show i<n;simpa using hi
 .obtain ⟨e,rfl⟩:=q;refine⟨e,?_⟩;have hi':i<n:=by simpa using hi
  rw[Qs,WI hi'];simp
 .show n<=i;simpa using hi
end Mini
namespace L2
open PySem PySem.Spec PyProof.Rows
noncomputable def oW(K:Qb)(b:Addr)(xs:List V):Prop:=
 ∃(o:Obj) (its:Array Value) (n:Nat),K.lookup b=some o/\o.cls=.type "tuple" /\ o.data=.seq its n/\its.size<=sizeLine/\az xs its.toList
abbrev lp:=List (List Nat×Int×Int)
noncomputable def Bk(K:Qb)(w:JT):List JR->lp->Prop
 |[],q=>q=[]
 |e::es,q=>∃k x y r t b,q=(k,x,y)::r/\e.key=.str ⟨k.toArray⟩ t/\e.hash=hashStr w ⟨k.toArray⟩/\e.val=.ref b/\oW K b [.int x,.int y]/\Bk K w es r
noncomputable def o8(K:Qb)(w:JT)(a:Addr)(q:lp):Prop:=
 (a==JV)=false/\∃o es ep,K.lookup a=some o/\o.ExactDict/\o.data=.dict es ep/\Bk K w es.toList q
end L2
namespace Mini
open PySem PySem.Spec PyProof.Rows L2
set_option genInjectivity false in
structure Ctx where
 fns:List Str
 cons:List (Str×Int)
 dcs:List (Str×lp)
set_option genInjectivity false in
inductive Nd where
 |e (x:Expr)|a (xs:List Expr)
noncomputable def df(sc:JP)(x:Str):Bool:=decide (sc.names.lookup x=some .globalImplicit)
noncomputable def fQ(sc:JP)(x:Str):Bool:=decide (sc.names.lookup x=some .local) || (decide (sc.names.lookup x=some .cell) || decide (sc.names.lookup x=some .free))
noncomputable def zw(x:Str):Bool:=!(x==("__debug__":Str)) && !(x==("__classdict__":Str)) && !(x==("__name__":Str))
noncomputable def zE:Expr->Bool
 |.Starred _ _=>false
 |_=>true
noncomputable def yR:Expr->Bool
 |.Set _ _ _=>false
 |_=>true
noncomputable def wq:Expr->Bool
 |.Slice _ _ _ _=>false
 |_=>true
noncomputable def vR:Expr->Bool
 |.Call _ _ _ _=>false
 |_=>true
noncomputable def zB:Ex->Bool
 |.rng _ _ _=>true
 |_=>false
noncomputable def jj:Ex->Bool
 |_=>false
noncomputable def uK(scope sc:JP):JP:=
 {scope with names:=scope.names.map λ(n,k)=>if(k == .free&&sc.kind == .function&&sc.names.lookup n==some .cell)then(n,.cell)else(n,k)}
noncomputable def qo(sc:JP)(N:List Str)(scope:JP)(xs:List Str):Bool:=
 decide (scope.kind=.function)&&(xs.all (λx=>decide (scope.names.lookup x=some .local) || decide (scope.names.lookup x=some .cell)) &&
 (scope.names.all (λy=>!(decide (y.2=.local)) || decide (scope.names.lookup y.1=some .local)) &&
 (scope.names.all (λy=>!(decide (y.2=.free)) || (decide (sc.names.lookup y.1=some .cell) || decide (sc.names.lookup y.1=some .free))) &&
 (scope.names.all (λy=>!(decide (y.2=.cell)) || !(decide (scope.names.lookup y.1=some .free))) &&
 (N.all (λy=>decide (y∈xs) || (!(decide (scope.names.lookup y=some .local)) && !(decide (scope.names.lookup y=some .cell)))) &&
 (decide (wn N xs).Nodup&&xs.all (λx=>decide (scope.names.lookup (iY x)=none))))))))
def kI (h:qo X.env.scope X.N scope xs=true):bM X scope xs:=by
 unfold qo at h;simp only[Qj,Wy,LL,QE,Wr,decide_eq_false_iff_not]at h;obtain⟨h1,h2,h3,h4,h5,h6,h7,h8⟩:=h;refine⟨h1,h2,λy hy e=>?_,λy hy e=>?_,λy hy e=>?_,λy hy e=>?_,h7,h8⟩
 .rcases h3 y hy with z|z
  .exact LH e z
  .exact z
 .rcases h4 y hy with z|z
  .exact LH e z
  .exact z
 .rcases h6 y hy with z|z
  .exact LH z e
  .exact z
 .rcases h5 y hy with z|z
  .exact LH e z
  .exact z
noncomputable def jk(K:Qb)(g:List Wd->Me->Rz):Sp:=λvs H Q _=>∃as m ws,aQ K as m H/\ae K as H ws vs/\aw K as H Q (g ws m)
noncomputable def zy:List Str:=["len","int","bool","list","tuple","abs","max","min","isinstance","range","str","dict","sum","all","zip","enumerate","sorted","reversed"]
noncomputable def jJ(K:Qb)(w:JT)(mg:Str->Option Value)(C:Ctx):Prop:=(∀(nm:Str) (i:Int),C.cons.lookup nm=some i->∃t,mg nm=some (.int i t))/\∀(nm:Str) (q:lp),C.dcs.lookup nm=some q->∃a,mg nm=some (.ref a)/\o8 K w a q
structure br(C:Ctx)(X:Cx)(cl:Nat->List Wd->Me->Rz)(d:Nat):Prop where
 room:bH d X.A
 calm:X.calm=true
 fn:∀(k:Nat) (nm:Str),C.fns[k]?=some nm->∃f fd ps,X.mg nm=some (.ref f)/\QT X.K (.ref f)=true/\Binds X.K fd ps []/\bJ X.prog X.w X.K X.mg X.base cY d f fd ps (jk X.K (cl k))
 con:jJ X.K X.w X.mg C
 blt:∀nm∈zy,X.mg nm=none
def br.comp{C:Ctx}{X Xc:Cx}{cl:Nat->List Wd->Me->Rz}{d:Nat}{scope:JP}{x:List Str}(h:br C X cl d)(c:bL X scope x Xc):br C Xc cl d:=by
 refine⟨by rw[c.A];exact h.room,c.calm,λk nm e=>?_,?_,λnm e=>?_⟩
 .obtain ⟨f,fd,ps,h1,h2,h3,h4⟩:=h.fn k nm e;exact⟨f,fd,ps,by rw[c.mg];exact h1,by rw[c.K];exact h2,by rw[c.K];exact h3,by rw[c.prog,c.w,c.K,c.mg,c.base];exact h4⟩
 .rw[c.mg,c.K,c.w];exact h.con
 .rw[c.mg];exact h.blt nm e
noncomputable def cg(K:Qb)(as:List Addr)(H:Hp)(Q:List V->Hp->Prop)(r:Rz):Prop:=match r with
 |.ok w m'=>∀as' H' vs,Step as H as' H'->aQ K as' m' H'->ae K as' H' (zq w) vs->Q vs H'
 |_=>False
noncomputable def jl(K:Qb)(g:En->Me->Rz):TA:=λσ H Q=>∃as env m,aQ K as m H/\aE K as H env σ/\cg K as H Q (g env m)
theorem cg.bind{K:Qb}{as:List Addr}{H:Hp}{Q:VK}{Q1:List V->Hp->Prop}{r:Rz}{f:Wd->Me->Rz}(h:aw K as H Q (r.bind f))
  (k:∀w m' as' H' vs,Step as H as' H'->aQ K as' m' H'->ae K as' H' (zq w) vs->aw K as' H' Q (f w m')->Q1 vs H'):cg K as H Q1 r:=by
 cases r with
 |ok w m'=>exact λas2 H2 v U S R=>k w m' as2 H2 v U S R (aw.step (r:=f w m') h U)
 |exc c w m'=>exact h
 |no=>exact h
noncomputable def bX(cl:Nat->List Wd->Me->Rz)(X:Cx)(e:Ex):Nd->Prop
 |.e x=>(zB e=false->PE X x (aV X.K (af cl e))/\(jj e=false->PT X x (wP X.K (af cl e)))/\(∀op vs pos,x=.BoolOp op vs pos->PW X x (wP X.K (af cl e))))/\∀tg,PI X tg x (fY X.K (af cl e))
 |.a xs=>PA X xs (jl X.K (af cl e))
def bX.of{cl:Nat->List Wd->Me->Rz}{X:Cx}{e:Ex}{x:Expr}(h:PE X x (aV X.K (af cl e)))(ht:∀whole,isTrue x X.env whole=(do let v <-whole;standAt x.pos;holding [v] (truthy v)):=by intro _;rfl)
  (hb:∀op vs pos,x≠.BoolOp op vs pos:=by intros;intro z;cases z):bX cl X e (.e x):=
 ⟨λ_=>⟨h,λ_=>qd h ht,λop vs pos z=>LH z (hb op vs pos)⟩,λtg=>jH h⟩
def zA (h:zE e=true):J8 (e::es) env=(false,eval e env)::J8 es env:=by
 cases e<;>first|rfl|cases h
theorem yh:∀{es:List Expr},es.all zE=true->(J7 pos (J8 es env)).any (·.1)=false
 |[],_=>rfl
 |e::es,h=>by
  rw[Wp,Qj]at h;rw[zA h.1];show(false || (J7 pos (J8 es env)).any (·.1))=false;rw[yh h.2];rfl
section
variable{cl:Nat->List Wd->Me->Rz}{X:Cx}{a b c:Ex}{x y:Expr}{pos:Pos}
def Ds (ha:PE X x (aV X.K (af cl a)))(hb:PE X y (aV X.K (af cl b))):PE X (.BinOp x (nJ op) y pos) (aV X.K (af cl (.bin op a b))):=by
 refine PE.imp (BN (B3 op) ha hb) λσ H Q h=>?_;obtain⟨as,env,m,S,G,P⟩:=h;refine⟨as,env,m,S,G,aw.bind P λx m1 as1 H1 v T1 S1 R1 P1=>?_⟩;refine⟨as1,env,m1,S1,G.mono S T1,aw.bind P1 λy m2 as2 H2 u T2 S2 R2 P2=>?_⟩;exact C2 S2 (R1.mono S1 T2) R2 P2
def Dr(ha:PE X x (aV X.K (af cl a))):PE X (.UnaryOp .USub x pos) (aV X.K (af cl (.neg a))):=by
 refine PE.imp (BM Dg ha) λσ H Q h=>?_;obtain⟨as,env,m,S,G,P⟩:=h;refine⟨as,env,m,S,G,aw.bind P λx m1 as1 H1 v T1 S1 R1 P1=>?_⟩;cases x with
 |int i=>
  obtain rfl:=aa.mp R1;exact⟨i,rfl,P1.ok S1 (aa.mpr rfl)⟩
 |_=>exact P1.elim
def tj(ha:PE X x (aV X.K (af cl a))):PE X (.UnaryOp .Not x pos) (aV X.K (af cl (.not a))):=by
 refine PE.imp (CS ha) λσ H Q h=>?_;obtain⟨as,env,m,S,G,P⟩:=h;refine⟨as,env,m,S,G,aw.bind P λx m1 as1 H1 v T1 S1 R1 P1=>?_⟩;cases x with
 |bl k=>
  obtain rfl:=ah.mp R1;exact⟨k,rfl,P1.ok S1 (ah.mpr rfl)⟩
 |_=>exact P1.elim
def Dq(ha:PT X x (wP X.K (af cl a))):PT X (.UnaryOp .Not x pos) (wP X.K (af cl (.not a))):=by
 refine PT.imp (mK ha) λσ H Q h=>?_;obtain⟨as,env,m,S,G,P⟩:=h;refine⟨as,env,m,S,G,aw.bind P λx m1 as1 H1 v T1 S1 R1 P1=>?_⟩;cases x with
 |bl k=>
  obtain rfl:=ah.mp R1;obtain⟨b,e,q⟩:=P1.ok S1 (ah.mpr rfl);cases e;exact⟨k,rfl,q⟩
 |_=>exact P1.elim
def uJ {K:Qb}(h:aV K (af cl (.and a b)) σ H Q):aV K (af cl a) σ H λx H1=>∃k,x=.bl k/\if k=true then aV K (af cl b) σ H1 Q else Q (.bl false) H1:=by
 obtain⟨as,env,m,S,G,P⟩:=h;refine⟨as,env,m,S,G,aw.bind P λx m1 as1 H1 v T1 S1 R1 P1=>?_⟩;cases x with
 |bl k=>
  obtain rfl:=ah.mp R1;refine⟨k,rfl,?_⟩;cases k with
  |true=>exact qV ⟨as1,env,m1,S1,G.mono S T1,P1⟩
  |false=>exact qU (P1.ok S1 (ah.mpr rfl))
 |_=>exact P1.elim
def tT {K:Qb}(h:aV K (af cl (.or a b)) σ H Q):aV K (af cl a) σ H λx H1=>∃k,x=.bl k/\if k=true then Q (.bl true) H1 else aV K (af cl b) σ H1 Q:=by
 obtain⟨as,env,m,S,G,P⟩:=h;refine⟨as,env,m,S,G,aw.bind P λx m1 as1 H1 v T1 S1 R1 P1=>?_⟩;cases x with
 |bl k=>
  obtain rfl:=ah.mp R1;refine⟨k,rfl,?_⟩;cases k with
  |false=>exact qU ⟨as1,env,m1,S1,G.mono S T1,P1⟩
  |true=>exact qV (P1.ok S1 (ah.mpr rfl))
 |_=>exact P1.elim
def uI {K:Qb}(h:aV K g σ H Q)(k:∀v H,Q v H->Q' v H):aV K g σ H Q':=by
 obtain⟨as,env,m,S,G,P⟩:=h;refine⟨as,env,m,S,G,?_⟩;cases hr:g env m with
 |ok w m'=>rw[hr]at P;exact λas' H' v T S' R=>k _ _ (P as' H' v T S' R)
 |exc c w m'=>rw[hr]at P;exact P
 |no=>rw[hr]at P;exact P
def tf (ha:PE X x (aV X.K (af cl a)))(hb:PE X (.BoolOp .And (y::r) pos) (aV X.K (af cl b))):PE X (.BoolOp .And (x::y::r) pos) (aV X.K (af cl (.and a b))):=
 PE.imp (CT ha hb) λσ H Q h=>uJ h
def BZ (ha:PE X x (aV X.K (af cl a)))(hb:PE X (.BoolOp .Or (y::r) pos) (aV X.K (af cl b))):PE X (.BoolOp .Or (x::y::r) pos) (aV X.K (af cl (.or a b))):=
 PE.imp (BS ha hb) λσ H Q h=>tT h
def PW.imp{e:Expr}{t t':TT}(h:PW X e t)(k:∀σ H Q,t' σ H Q->t σ H Q):PW X e t':=λwhole pins s σ H Q I q=>h whole pins s σ H Q I (k σ H Q q)
def sJ (ha:PT X x (wP X.K (af cl a)))(hb:PW X (.BoolOp .And (y::r) pos) (wP X.K (af cl b))):PW X (.BoolOp .And (x::y::r) pos) (wP X.K (af cl (.and a b))):=
 PW.imp (CU ha hb) λσ H Q h=>by
  refine uI (uJ h) λv H1 q=>?_;obtain⟨k,e,q⟩:=q;refine⟨k,e,?_⟩;cases k with
  |true=>rw[LF rfl]at q ⊢;exact q
  |false=>
   rw[LG Q3]at q ⊢;obtain⟨b',e',q⟩:=q;cases e';exact q
def BY (ha:PT X x (wP X.K (af cl a)))(hb:PW X (.BoolOp .Or (y::r) pos) (wP X.K (af cl b))):PW X (.BoolOp .Or (x::y::r) pos) (wP X.K (af cl (.or a b))):=
 PW.imp (r6 ha hb) λσ H Q h=>by
  refine uI (tT h) λv H1 q=>?_;obtain⟨k,e,q⟩:=q;refine⟨k,e,?_⟩;cases k with
  |false=>rw[LG Q3]at q ⊢;exact q
  |true=>
   rw[LF rfl]at q ⊢;obtain⟨b',e',q⟩:=q;cases e';exact q
def lU (h:yR e=true):Kr op e=false:=by
 cases e<;>first|rfl|cases h
def uH {K:Qb}(h:aV K (af cl (.cmp op a b)) σ H Q):fV (rC K op) (aV K (af cl a)) (aV K (af cl b)) σ H Q:=by
 obtain⟨as,env,m,S,G,P⟩:=h;refine⟨as,env,m,S,G,aw.bind P λx m1 as1 H1 v T1 S1 R1 P1=>?_⟩;refine⟨as1,env,m1,S1,G.mono S T1,aw.bind P1 λy m2 as2 H2 u T2 S2 R2 P2=>?_⟩;exact⟨as2,m2,x,y,S2,R1.mono S1 T2,R2,P2⟩
def sI (hu:X.A.units+64<Kv)(ha:PE X x (aV X.K (af cl a)))(hb:PE X y (aV X.K (af cl b)))(hs:yR y=true):PE X (.Compare x [cK op] [y] pos) (aV X.K (af cl (.cmp op a b))):=
 PE.imp (EY (gD hu op) ha hb (lU hs)) λσ H Q h=>uH h
def Dp (hu:X.A.units+64<Kv)(ha:PE X x (aV X.K (af cl a)))(hb:PE X y (aV X.K (af cl b)))(hs:yR y=true):PT X (.Compare x [cK op] [y] pos) (wP X.K (af cl (.cmp op a b))):=
 PT.imp (EX (gD hu op) ha hb (lU hs)) λσ H Q h=>uH h
end
section
variable{cl:Nat->List Wd->Me->Rz}{X:Cx}{a b c:Ex}{x y z:Expr}{pos:Pos}
def jK {K:Qb}(h:aV K (af cl (.chain p q a b c)) σ H Q):mN (rC K p) (rC K q) (aV K (af cl a)) (aV K (af cl b)) (aV K (af cl c)) σ H Q:=by
 obtain⟨as,env,m,S,G,P⟩:=h;refine⟨as,env,m,S,G,aw.bind P λx m1 as1 H1 v T1 S1 R1 P1=>?_⟩;refine⟨as1,env,m1,S1,G.mono S T1,aw.bind P1 λy m2 as2 H2 u T2 S2 R2 P2=>?_⟩;refine⟨as2,m2,x,y,S2,R1.mono S1 T2,R2,aw.bind P2 λz m3 as3 H3 w T3 S3 R3 P3=>?_⟩;cases z with
 |bl k=>
  obtain rfl:=ah.mp R3;refine⟨k,rfl,?_⟩;cases k with
  |false=>exact qU (P3.ok S3 (ah.mpr rfl))
  |true=>
   refine qV ⟨as3,env,m3,S3,((G.mono S T1).mono S1 T2).mono S2 T3,aw.bind P3 λt m4 as4 H4 r T4 S4 R4 P4=>?_⟩;exact⟨as4,m4,y,t,S4,(R2.mono S2 T3).mono S3 T4,R4,P4⟩
 |_=>exact P3.elim
def sH (h:yR z=true):lastMarks [o,o'] [y,z]=false:=by
 show Kr o' z=false;exact lU h
def uG (hu:X.A.units+64<Kv)(ha:PE X x (aV X.K (af cl a)))(hb:PE X y (aV X.K (af cl b)))(hc:PE X z (aV X.K (af cl c)))(hs:yR z=true):
  PE X (.Compare x [cK p,cK q] [y,z] pos) (aV X.K (af cl (.chain p q a b c))):=
 PE.imp (GA (gD hu p) (gD hu q) ha hb hc (sH hs)) λσ H Q h=>jK h
def FA (hu:X.A.units+64<Kv)(ha:PE X x (aV X.K (af cl a)))(hb:PE X y (aV X.K (af cl b)))(hc:PE X z (aV X.K (af cl c)))(hs:yR z=true):
  PT X (.Compare x [cK p,cK q] [y,z] pos) (wP X.K (af cl (.chain p q a b c))):=
 PT.imp (Gz (gD hu p) (gD hu q) ha hb hc (sH hs)) λσ H Q h=>jK h
def DS:PA X [] (jl X.K (af cl .unit)):=PA.imp x8 λσ H Q h=>by
 obtain⟨as,env,m,S,G,P⟩:=h;exact P as H [] .refl S (aA.mpr rfl)
def DR (ha:PE X x (aV X.K (af cl a)))(hb:PA X xs (jl X.K (af cl b)))(hs:zE x=true):PA X (x::xs) (jl X.K (af cl (.pair a b))):=by
 refine PA.imp (yu ha hb (zA hs)) λσ H Q h=>?_;obtain⟨as,env,m,S,G,P⟩:=h;refine⟨as,env,m,S,G,?_⟩;have P':cg X.K as H Q ((af cl a env m).bind λx m1=>(af cl b env m1).bind λy m2=>.ok (.tup (x::zq y)) m2):=P;cases hr:af cl a env m with
 |no=>rw[hr]at P';exact P'
 |exc c w m'=>rw[hr]at P';exact P'
 |ok w m1=>
  rw[hr]at P';intro as1 H1 v T1 S1 R1;refine⟨as1,env,m1,S1,G.mono S T1,?_⟩;simp only[Rz.bind]at P';cases hr2:af cl b env m1 with
  |no=>rw[hr2]at P';exact P'
  |exc c w' m'=>rw[hr2]at P';exact P'
  |ok w' m2=>
   rw[hr2]at P';intro as2 H2 vs T2 S2 R2;exact P' as2 H2 (v::vs) (T1.trans T2) S2 (am.mpr ⟨v,vs,rfl,R1.mono S1 T2,R2⟩)
def DQ (hC:br C X cl d)(hk:C.fns[k]?=some nm)(hg:X.env.scope.names.lookup nm=some .globalImplicit)(hn:zw nm=true)(hs:(x::xs).all zE=true)(ha:PA X (x::xs) (jl X.K (af cl a))):PE X (.Call (.Name nm p) (x::xs) [] pos) (aV X.K (af cl (.call k a))):=by
 obtain⟨f,fd,ps,h1,h2,h3,h4⟩:=hC.fn k nm hk;have hs':=hs;rw[Wp,Qj]at hs';have hdb:(nm==("__debug__":Str))=false:=by
  unfold zw at hn;simp only[Qj,Wr]at hn;exact hn.1.1
 refine PE.imp (EU h4 hC.room hg h1 h2 h3 .nil (B6 (X:=X)) ha hdb (zA hs'.1) (yh hs'.2)) λσ H Q h=>?_;obtain⟨as,env,m,S,G,P⟩:=h;refine⟨as,env,m,S,G,cg.bind P λw m1 as1 H1 vs T1 S1 R1 P1=>?_⟩;refine⟨as1,m1,zq w,S1,?_,P1⟩;rw[QU];exact R1
def kJ (hn:zw nm=true):(nm==("__debug__":Str))=false/\(nm==("__classdict__":Str))=false/\nm ≠ "__name__":=by
 unfold zw at hn;simp only[Qj,Wr]at hn;exact⟨hn.1.1,hn.1.2,by simpa using hn.2⟩
def Ct (hC:br C X cl d)(hb:lR bf=some (nm,f))(hg:X.env.scope.names.lookup nm=some .globalImplicit)(hn:zw nm=true)(hs:(x::xs).all zE=true)(ha:PA X (x::xs) (jl X.K (af cl a))):PE X (.Call (.Name nm p) (x::xs) [] pos) (aV X.K (af cl (.blt bf a))):=by
 obtain⟨n1,n2,n3⟩:=kJ hn;have hs':=hs;rw[Wp,Qj]at hs';have hc:=GE hC.room.units hC.calm hb;have go:PE X (.Call (.Name nm p) (x::xs) [] pos) (nl (Ac X.K bf) (jl X.K (af cl a))):=by
  cases bf with
  |len=>cases hb;exact yN hc hg (hC.blt _ (by simp[zy])) PySem.boot_len ha n3 n1 (zA hs'.1) (yh hs'.2)
  |int=>cases hb;exact kE hc hg (hC.blt _ (by simp[zy])) PyProof.Rows.boot_int ha n3 n1 (zA hs'.1) (yh hs'.2)
  |list=>cases hb;exact kE hc hg (hC.blt _ (by simp[zy])) PyProof.Rows.boot_list ha n3 n1 (zA hs'.1) (yh hs'.2)
  |tuple=>cases hb;exact kE hc hg (hC.blt _ (by simp[zy])) PyProof.Rows.boot_tuple ha n3 n1 (zA hs'.1) (yh hs'.2)
  |abs=>cases hb;exact yN hc hg (hC.blt _ (by simp[zy])) PyProof.Rows.boot_abs ha n3 n1 (zA hs'.1) (yh hs'.2)
  |max2=>cases hb;exact yN hc hg (hC.blt _ (by simp[zy])) PyProof.Rows.boot_max ha n3 n1 (zA hs'.1) (yh hs'.2)
  |sum=>cases hb;exact yN hc hg (hC.blt _ (by simp[zy])) PyProof.Rows.boot_sum ha n3 n1 (zA hs'.1) (yh hs'.2)
  |all=>cases hb;exact yN hc hg (hC.blt _ (by simp[zy])) PyProof.Rows.boot_all ha n3 n1 (zA hs'.1) (yh hs'.2)
  |sortI=>cases hb;exact yN hc hg (hC.blt _ (by simp[zy])) PyProof.Rows.boot_sorted ha n3 n1 (zA hs'.1) (yh hs'.2)
 refine PE.imp go λσ H Q h=>?_;obtain⟨as,env,m,S,G,P⟩:=h;refine⟨as,env,m,S,G,cg.bind P λw m1 as1 H1 vs T1 S1 R1 P1=>?_⟩;exact⟨as1,m1,zq w,S1,R1,P1⟩
def DP(t:Tg):JZ (Str.ofString (cU t))=some (.type (cU t)):=by
 cases t<;>decide +kernel
def Cs (hC:br C X cl d)(hg:X.env.scope.names.lookup ("isinstance":Str)=some .globalImplicit)(hg':X.env.scope.names.lookup (Str.ofString (cU t))=some .globalImplicit)(hs:zE x=true)(ha:PE X x (aV X.K (af cl a))):PE X (.Call (.Name "isinstance" p) [x,.Name (Str.ofString (cU t)) p'] [] pos) (aV X.K (af cl (.isi t a))):=by
 have hm:X.mg (Str.ofString (cU t))=none:=hC.blt _ (by cases t<;>decide +kernel);have hty:PE X (.Name (Str.ofString (cU t)) p') (tC (.ty (cU t))):=uf hg' hm (DP t) rfl (by cases t<;>decide +kernel) (by cases t<;>decide +kernel);refine PE.imp (yN (GD t) hg (hC.blt _ (by simp[zy])) PyProof.Rows.boot_isinstance (yu ha (yu hty x8) (zA hs)) (by decide +kernel) (by decide +kernel) (zA hs) rfl) λσ H Q h=>?_;obtain⟨as,env,m,S,G,P⟩:=h;refine⟨as,env,m,S,G,aw.bind P λw m1 as1 H1 v T1 S1 R1 P1=>?_⟩;exact⟨as1,m1,w,v,rfl,S1,R1,P1⟩
def Cr (ha:PA X xs (jl X.K (af cl a))):PE X (.List xs pos) (aV X.K (af cl (.lst a))):=by
 refine PE.imp (Dd ha) λσ H Q h=>?_;obtain⟨as,env,m,S,G,P⟩:=h;refine⟨as,env,m,S,G,cg.bind P λw m1 as1 H1 vs T1 S1 R1 P1=>?_⟩;obtain⟨h1,h2⟩:=xQ S1 R1 P1;exact⟨Qo h1 yV,h2⟩
set_option tactic.hygienic true in
def Cq (ha:PA X xs (jl X.K (af cl a))):PE X (.Tuple xs k pos) (aV X.K (af cl (.tup a))):=by
 refine PE.imp (sW ha) λσ H Q h=>?_;obtain⟨as,env,m,S,G,P⟩:=h;refine⟨as,env,m,S,G,cg.bind P λw m1 as1 H1 vs T1 S1 R1 P1=>?_⟩;split at P1
 .rename_i hl;refine⟨by rw[<-R1.length];exact Qo hl yV,λp hp=>?_⟩;obtain⟨T,S',R'⟩:=S1.tup hp R1;exact P1 _ _ _ T S' R'
 .exact P1.elim
def Cp(ha:PE X x (aV X.K (af cl a)))(hb:PE X y (aV X.K (af cl b)))(hs:wq y=true):PE X (.Subscript x y pos) (aV X.K (af cl (.idx a b))):=by
 have hp:uc y:=λo i=>by cases y<;>first|rfl|cases hs
 refine PE.imp (BF C8 ha hb hp) λσ H Q h=>?_;obtain⟨as,env,m,S,G,P⟩:=h;refine⟨as,env,m,S,G,aw.bind P λx m1 as1 H1 v T1 S1 R1 P1=>?_⟩;refine⟨as1,env,m1,S1,G.mono S T1,aw.bind P1 λy m2 as2 H2 u T2 S2 R2 P2=>?_⟩;exact Dv S2 (R1.mono S1 T2) R2 P2
end
section
variable{cl:Nat->List Wd->Me->Rz}{X:Cx}{a b c:Ex}{x y:Expr}{pos:Pos}
set_option tactic.hygienic true in
def BX {K:Qb}{lo:Option Int}(S:aQ K as m H)(R:aj K as H w v)(h:aw K as H Q (eR w lo hi m)):lO K v lo hi H Q\/pH K v lo hi H Q:=by
 have hs:∀(n d:Nat) (o:Option Int),aP n d o=HT.aP n d o:=λn d o=>by cases o<;>rfl
 have key:∀{xs:List Wd}{p:Addr}{vs:List V},bG K H p vs->ae K as H xs vs->aw K as H Q (alloc m ((xs.drop (aP xs.length 0 lo)).take (aP xs.length xs.length hi-aP xs.length 0 lo)))->lO K (.ref p) lo hi H Q:=λ{xs p vs} q r h=>by
  refine⟨p,vs,rfl,q,?_⟩;have e:(vs.drop (aP xs.length 0 lo)).take (aP xs.length xs.length hi-aP xs.length 0 lo)=gj vs lo hi:=by
   unfold gj;rw[r.length,hs,hs]
  rw[<-e];exact(xQ S ((r.drop _).take _) h).2
 cases w with
 |tup xs=>
  obtain⟨p,vs,rfl,q,r⟩:=ai.mp R;have h':aw K as H Q (if aP xs.length 0 lo=0/\aP xs.length xs.length hi=xs.length then .no else .ok (.tup ((xs.drop (aP xs.length 0 lo)).take (aP xs.length xs.length hi-aP xs.length 0 lo))) m):=h;by_cases c:aP xs.length 0 lo=0/\aP xs.length xs.length hi=xs.length
  .rw[LF c]at h';exact h'.elim
  .rw[LG c]at h';refine .inr ⟨p,vs,rfl,q,by rw[<-r.length,<-hs,<-hs];exact c,λl hl=>?_⟩;have e:(vs.drop (aP xs.length 0 lo)).take (aP xs.length xs.length hi-aP xs.length 0 lo)=gj vs lo hi:=by
    unfold gj;rw[r.length,hs,hs]
   obtain⟨T,S',R'⟩:=S.tup hl ((r.drop (aP xs.length 0 lo)).take (aP xs.length xs.length hi-aP xs.length 0 lo));rw[<-e];exact h' _ _ _ T S' R'
 |rol ys=>
  obtain⟨p,vs,rfl,q,r⟩:=ba.mp R;exact .inl (key q.sq r h)
 |ref l=>
  obtain⟨p,hp,rfl⟩:=aJ.mp R;have h':aw K as H Q (match zN m l with
   |some xs=>alloc m ((xs.drop (aP xs.length 0 lo)).take (aP xs.length xs.length hi-aP xs.length 0 lo))
   |none=>.no):=h
  cases hx:zN m l with
  |none=>rw[hx]at h';exact h'.elim
  |some xs=>
   rw[hx]at h';obtain⟨p',vs,hp',e,r⟩:=yK S (yQ hx);rw[hp]at hp';cases hp';exact .inl (key (bG.of e) r h')
 |_=>exact h.elim
def Cn (ha:PE X x (aV X.K (af cl a)))(hb:PE X y (aV X.K (af cl b))):PE X (.Subscript x (.Slice none (some y) none p2) pos) (aV X.K (af cl (.slH a b))):=by
 refine PE.imp (Gw (dY.or Da) ha ES (ER hb)) λσ H Q h=>?_;obtain⟨as,env,m,S,G,P⟩:=h;refine⟨as,env,m,S,G,aw.bind P λx m1 as1 H1 v T1 S1 R1 P1=>?_⟩;refine⟨as1,env,m1,S1,G.mono S T1,aw.bind P1 λy m2 as2 H2 u T2 S2 R2 P2=>?_⟩;cases y with
 |int i=>exact⟨i,aa.mp R2,BX S2 (R1.mono S1 T2) P2⟩
 |_=>exact P2.elim
def cf (h:vR e=true):Kt e f env (eval e env)=eval e env:=by
 cases e<;>first|rfl|cases h
def Cm (h:ys.all zE=true)(hl:ys.length<29):
  ((J7 cp (J8 ys env)).all (λx=>! x.1)&&(backToKw cp (K4 [] env)).all (λx=>x.1.isSome)
   && decide (ys.length+([]:List K5).length+(if([]:List K5).isEmpty then 0 else 1)<30))=true:=by
 have all:∀{es:List Expr},es.all zE=true->(J7 cp (J8 es env)).all (λx=>! x.1)=true:=by
  intro es
  induction es with
  |nil=>intro _;rfl
  |cons e es ih=>
   intro h;rw[Wp,Qj]at h;rw[zA h.1];show(true&&(J7 cp (J8 es env)).all (λx=>! x.1))=true;rw[ih h.2];rfl
 rw[all h];have e2:(backToKw cp (K4 [] env)).all (λx=>x.1.isSome)=true:=rfl;rw[e2];have e3:decide (ys.length+([]:List K5).length+(if([]:List K5).isEmpty then 0 else 1)<30)=true:=by
  apply LJ;show ys.length+0+0<30;lia
 rw[e3];rfl
def uF(k:dC):Slot "list" (et k).1 (et k).2/\typeOf (.builtin (et k).2)=pure (.type "method_descriptor"):=by
 cases k with
 |append=>exact⟨PySem.F.slot_list_append,PySem.F.type_list_append⟩
 |pop=>exact⟨PySem.F.slot_list_pop,PySem.F.type_list_pop⟩
 |reverse=>exact⟨PySem.F.slot_list_reverse,PySem.F.type_list_reverse⟩
 |clear=>exact⟨PySem.F.slot_list_clear,PySem.F.type_list_clear⟩
 |insert=>exact⟨PySem.F.slot_list_insert,PySem.F.type_list_insert⟩
def tS{K:Qb}{as:List Addr}{H:Hp}{Q:VK}{b:Bool}{r:Rz}(h:aw K as H Q (match b with|true=>r|false=>.no)):b=true/\aw K as H Q r:=by
 cases b with
 |true=>exact⟨rfl,h⟩
 |false=>exact h.elim
def sG (h:yn w m=true):∃l,w=.ref l/\(zN m l).isSome=true:=by
 cases w with
 |ref l=>
  refine⟨l,rfl,?_⟩;unfold yn aT at h;unfold zN;cases e:m[l]? with
  |none=>simp[e]at h
  |some o=>
   cases o with
   |lst xs=>rfl
 |_=>cases h
def sF {K:Qb}(S:aQ K as m H)(R:aj K as H w v)(hw:∃l,w=.ref l/\(zN m l).isSome=true):iR K "list" v H:=by
 obtain⟨l,rfl,hs⟩:=hw;obtain⟨p,hp,rfl⟩:=aJ.mp R;obtain⟨xs,hs⟩:=Ww.mp hs;obtain⟨p',us,hp',e,_⟩:=yK S (yQ hs);rw[hp]at hp';cases hp';exact .inl ⟨rfl,us,bG.of e⟩
def Fz (ho:PE X x (aV X.K (af cl a)))(hx:vR x=true)(hl:(ap.endLine==pos.line)=true):
  PE X (.Call (.Attribute x (et k).1 ap) [] [] pos) (aV X.K (af cl (.meth k a .unit))):=by
 obtain⟨f1,f2⟩:=uF k;refine PE.imp (C7 PySem.F.plainAttrs_list f1 f2 (tm k) ho (cf hx) hl) λσ H Q h=>?_;obtain⟨as,env,m,S,G,P⟩:=h;refine⟨as,env,m,S,G,aw.bind P λw m1 as1 H1 v T1 S1 R1 P1=>?_⟩;obtain⟨hl',P1⟩:=tS P1;have P2:aw X.K as1 H1 Q (b6 k w [] m1):=P1;exact⟨sF S1 R1 (sG hl'),as1,m1,w,[],S1,R1,aA.mpr rfl,P2⟩
def DO (ho:PE X x (aV X.K (af cl a)))(ha:PA X (y::ys) (jl X.K (af cl b)))(hx:vR x=true)(hl:(ap.endLine==pos.line)=true)(hn:(y::ys).length<29)(hs:(y::ys).all zE=true):
  PE X (.Call (.Attribute x (et k).1 ap) (y::ys) [] pos) (aV X.K (af cl (.meth k a b))):=by
 obtain⟨f1,f2⟩:=uF k;have hs':=hs;rw[Wp,Qj]at hs';refine PE.imp (BE PySem.F.plainAttrs_list f1 f2 (tm k) ho ha (cf hx) (Cm hs hn) hl (zA hs'.1) (yh hs'.2)) λσ H Q h=>?_;obtain⟨as,env,m,S,G,P⟩:=h;refine⟨as,env,m,S,G,aw.bind P λw m1 as1 H1 v T1 S1 R1 P1=>?_⟩;obtain⟨hl',P1⟩:=tS P1;refine⟨sF S1 R1 (sG hl'),?_⟩;refine⟨as1,env,m1,S1,G.mono S T1,cg.bind P1 λw2 m2 as2 H2 vs T2 S2 R2 P2=>?_⟩;exact⟨as2,m2,w,zq w2,S2,R1.mono S1 T2,R2,P2⟩
def Fy {K:Qb}(S:aQ K as m H)(h:bU K as H R (eK (.int i) (.int j) (.int 1) m)):(-(2^62)<=i/\i<2^62/\-(2^62)<=j/\j<2^62)/\R (ij i (j-i).toNat) H:=by
 have h':bU K as H R (if -au<=i/\i<=au/\-au<=j/\j<=au/\((1:Int)=1\/(1:Int)=-1\/(1:Int)=-2)then .ok (.tup (ji i 1 (vt i j 1))) m else .no):=h;by_cases hc:-(au:Int)<=i/\i<=au/\-(au:Int)<=j/\j<=au/\((1:Int)=1\/(1:Int)=-1\/(1:Int)=-2)
 .rw[LF hc]at h';have hlim:(au:Int)=100000:=rfl;refine⟨by lia,h'.2 as H _ .refl S ?_⟩;have e:vt i j 1=(j-i).toNat:=LF rfl;rw[e];exact⟨_,λ_=>True,GT i (j-i).toNat (K:=K),trivial,jI 1 (j-i).toNat i,λ_ _ _ _=>trivial⟩
 .rw[LG hc]at h';exact h'.elim
theorem bU.bind {K:Qb}(h:bU K as H R (r.bind f))(k:∀w m' as' H' v,Step as H as' H'->aQ K as' m' H'->aj K as' H' w v->bU K as' H' R (f w m')->Q1 v H'):aw K as H Q1 r:=by
 cases r with
 |ok w m'=>
  intro as2 H2 v U S Rr;refine k w m' as2 H2 v U S Rr ?_;have h':bU K as H R (f w m'):=h;cases hr:f w m' with
  |ok w2 m2=>rw[hr]at h';exact⟨h'.1,λas3 H3 J U3 S3 q=>h'.2 as3 H3 J (U.trans U3) S3 q⟩
  |exc c w2 m2=>rw[hr]at h';exact h'
  |no=>rw[hr]at h';exact h'
 |exc c w m'=>exact h
 |no=>exact h
def DN (hC:br C X cl d)(hg:X.env.scope.names.lookup ("range":Str)=some .globalImplicit)(hs:zE x=true)(hb:PE X x (aV X.K (af cl b))):
  PI X tg (.Call (.Name "range" p) [x] [] pos) (fY X.K (af cl (.rng (.lit (.int 0)) b (.lit (.int 1))))):=by
 refine PI.imp (G7 hg (hC.blt _ (by simp[zy])) (yu hb x8 (zA hs)) (zA hs)) λσ H R h=>?_;obtain⟨as,env,m,S,G,P⟩:=h;have P':bU X.K as H R ((af cl b env m).bind λy m2=>eK (.int 0) y (.int 1) m2):=P;refine⟨as,env,m,S,G,bU.bind P' λw m1 as1 H1 v T1 S1 R1 P1=>?_⟩;cases w with
 |int j=>
  obtain rfl:=aa.mp R1;obtain⟨⟨_,_,h1,h2⟩,q⟩:=Fy S1 P1;refine⟨j,rfl,h1,h2,?_⟩;simpa using q
 |_=>exact P1.elim
def DM (hC:br C X cl d)(hgl:X.env.scope.names.lookup ("list":Str)=some .globalImplicit)(hg:X.env.scope.names.lookup ("range":Str)=some .globalImplicit)(hs:zE x=true)(ha:PE X x (aV X.K (af cl a))):
  PE X (.Call (.Name "list" p) [.Call (.Name "range" p') [x] [] pos'] [] pos) (aV X.K (af cl (.lrng a))):=by
 refine PE.imp (Fg hC.calm hgl (hC.blt _ (by simp[zy])) hg (hC.blt _ (by simp[zy])) (yu ha x8 (zA hs)) (zA hs)) λσ H Q h=>?_;obtain⟨as,env,m,S,G,P⟩:=h;refine⟨as,env,m,S,G,aw.bind P λw m1 as1 H1 v T1 S1 R1 P1=>?_⟩;cases w with
 |int j=>
  obtain rfl:=aa.mp R1;have hlim:(au:Int)=100000:=rfl;have P1':aw X.K as1 H1 Q (if -(au:Int)<=j/\j<=au then alloc m1 (ji 0 1 j.toNat)else .no):=P1;by_cases hc:-(au:Int)<=j/\j<=au
  .rw[LF hc]at P1';obtain⟨h1,h2⟩:=xQ S1 (jI 1 j.toNat 0) P1';have hz:j.toNat<=sizeLine:=Qo (by have:au=100000:=rfl;lia) yV;exact⟨j,rfl,by lia,by lia,hz,h2⟩
  .rw[LG hc]at P1';exact P1'.elim
 |_=>exact P1.elim
end
end Mini
namespace L2
open PySem PySem.Spec PyProof.Rows
end L2
namespace L2
open PySem PySem.Spec PyProof.Rows
open AutoSeq1 (wpAny_loadPart')
end L2
namespace L2
open PySem PySem.Spec PyProof.Rows
end L2
namespace Mini
open PySem PySem.Spec PyProof.Rows L2
section
variable{cl:Nat->List Wd->Me->Rz}{K:Qb}
def aQ.updD{as:List Addr}{m:Me}{H:Hp}{D:Addr}{ys:List V}{o:HO}(S:aQ K as m H)(hD:H D=some (.lst ys))(hn:D∉as):aQ K as m (aK H D o):=by
 refine⟨S.len,S.nd,λl b ob h1 h2=>?_⟩;have q:=S.obj l b ob h1 h2;have hb:b≠D:=by rintro rfl;exact hn (QA h1)
 cases ob with
 |lst zs=>
  obtain⟨us,e,r⟩:=q;exact⟨us,by rw[zf hb];exact e,r.kp (Kp.upd hD)⟩
def aQ.join{as:List Addr}{m:Me}{H:Hp}{D:Addr}{ys:List V}{acc:List Wd}(S:aQ K as m H)(hD:H D=some (.lst ys))(hn:D∉as)(R:ae K as H acc ys):aQ K (as++[D]) (m++[.lst acc]) H:=by
 have g:∀(l:Nat) (a:Addr),as[l]?=some a->(as++[D])[l]?=some a:=λl a e=>by
  rw[Qq (Qa.mp e).1];exact e
 have kp:Kp K H H:=⟨λ_ _ h=>h,λ_ _ h=>h⟩;refine⟨by simp[S.len],?_,λl b o h1 h2=>?_⟩
 .refine Qr.mpr ⟨S.nd,by simp,λx hx y hy=>?_⟩;rw[QJ.mp hy];rintro rfl;exact hn hx
 .by_cases hl:l<as.length
  .rw[Qq hl]at h1;rw[Qq (by rw[<-S.len];exact hl)]at h2;have q:=S.obj l b o h1 h2;cases o with
   |lst zs=>
    obtain⟨us,e,r⟩:=q;exact⟨us,e,bp kp g _ _ r⟩
  .rw[Qn (by lia)]at h1;rw[Qn (by rw[<-S.len];lia)]at h2;have hz:l-as.length=0:=by
    cases hq:l-as.length with
    |zero=>rfl
    |succ k=>rw[hq]at h1;simp at h1
   rw[hz]at h1;rw[<-S.len,hz]at h2;simp at h1 h2;subst h1;subst h2;exact⟨ys,hD,bp kp g _ _ R⟩
def Step.updD{as as':List Addr}{H H':Hp}{D:Addr}{o:HO}(T:Step as H as' H')(hD:H D=none):Step as H as' (aK H' D o):=
 ⟨T.pre,λb ob h hb=>by rw[zf (zp h hD)];exact T.frame b ob h hb,T.fresh⟩
def Step.join{as as':List Addr}{H H':Hp}{D:Addr}(T:Step as H as' H')(hD:H D=none):Step as H (as'++[D]) H':=by
 refine⟨?_,T.frame,λa ha=>?_⟩
 .obtain ⟨t,rfl⟩:=T.pre;exact⟨t++[D],by simp⟩
 .rcases Qy.mp ha with z|z
  .exact T.fresh a z
  .rw[QJ.mp z];exact .inr hD
def jL (S:aQ K as' m H')(T:Step as H as' H')(h0:H D=none)(hD:H' D=some (.lst ys))(hn:D∉as')(R:ae K as' H' acc ys)(h:aw K as H Q (alloc m acc)):Q (.ref D) H':=by
 unfold Mini.alloc at h;split at h
 .refine h (as'++[D]) H' (.ref D) (T.join h0) (S.join hD hn R) (aJ.mpr ⟨D,?_,rfl⟩);rw[<-S.len,Qn (Ql _)];simp
 .exact h.elim
structure dg(K:Qb)(as:List Addr)(H:Hp)(D:Addr)(env:En)(σ:St)(as':List Addr)(m':Me)(acc:List Wd)(ys:List V)(H':Hp):Prop where
 T:Step as H as' H'
 S:aQ K as' m' H'
 hD:H' D=some (.lst ys)
 n:D∉as'
 R:ae K as' H' acc ys
 G:aE K as' H' env σ
def dg.go{as:List Addr}{H:Hp}{D:Addr}{env:En}{σ:St}{as' as2:List Addr}{m' m2:Me}{acc:List Wd}{ys:List V}{H' H2:Hp}(M:dg K as H D env σ as' m' acc ys H')(U:Step as' H' as2 H2)(S2:aQ K as2 m2 H2):dg K as H D env σ as2 m2 acc ys H2:=
 ⟨M.T.trans U,S2,U.frame _ _ M.hD M.n,U.out M.hD M.n,M.R.mono M.S U,M.G.mono M.S U⟩
def dg.push{as:List Addr}{H:Hp}{D:Addr}{env:En}{σ:St}{as':List Addr}{m':Me}{acc:List Wd}{ys:List V}{H':Hp}{w:Wd}{v:V}(M:dg K as H D env σ as' m' acc ys H')(h0:H D=none)(R:aj K as' H' w v):
  dg K as H D env σ as' m' (acc++[w]) (ys++[v]) (aK H' D (.lst (ys++[v]))):=by
 have kp:Kp K H' (aK H' D (.lst (ys++[v]))):=Kp.upd M.hD;exact⟨M.T.updD h0,M.S.updD M.hD M.n,zh,M.n,(M.R.append (.one R)).kp kp,M.G.kp kp⟩
set_option tactic.hygienic true in
def gG{elt cond:Ex}{tc:TT}(htc:∀σ H Q,wP K (af cl cond) σ H Q->tc σ H Q){as1 as':List Addr}{H1 H':Hp}{D:Addr}{env ex:En}{σ sx:St}{m':Me}{acc:List Wd}{ys:List V}{Q:VK}{next:List Wd->Me->Rz}{N:List V->Hp->Prop}
  (h0:H1 D=none) (M:dg K as1 H1 D env σ as' m' acc ys H') (G:aE K as' H' (env++ex) (σ++sx))
  (Pt:aw K as1 H1 Q ((af cl cond (env++ex) m').bind λb m1=>match b with
     |.bl true=>(af cl elt (env++ex) m1).bind λy m2=>if acc.length<au then next (acc++[y]) m2 else .no
     |.bl false=>next acc m1
     |_=>.no))
  (hN:∀as2 m2 acc' ys' H2,Kp K H' H2->(∀(l:Nat) (a:Addr),as'[l]?=some a->as2[l]?=some a)->dg K as1 H1 D env σ as2 m2 acc' ys' H2->aw K as1 H1 Q (next acc' m2)->N ys' H2) :
  tc (σ++sx) H' λb H2=>if b=true then aV K (af cl elt) (σ++sx) H2 λy H3=>H3 D=some (.lst ys)/\ys.length<sizeLine/\N (ys++[y]) (aK H3 D (.lst (ys++[y])))else N ys H2:=by
 refine htc _ _ _ ⟨as',env++ex,m',M.S,G,pC Pt M.T λwb m2 as2 H2 vb T2 S2 R2 P2=>?_⟩;have M2:=M.go T2 S2;cases wb with
 |bl k=>
  obtain rfl:=ah.mp R2;refine⟨k,rfl,?_⟩;cases k with
  |false=>exact qU (hN as2 m2 acc ys H2 (M.S.kp T2) (λ_ _ e=>T2.get e) M2 P2)
  |true=>
   refine qV ⟨as2,env++ex,m2,S2,G.mono M.S T2,pC P2 M2.T λwy m3 as3 H3 vy T3 S3 R3 P3=>?_⟩;have M3:=M2.go T3 S3;have P3':aw K as1 H1 Q (if acc.length<au then next (acc++[wy]) m3 else .no):=P3;by_cases hl:acc.length<au
   .rw[LF hl]at P3';refine⟨M3.hD,by rw[<-M3.R.length];exact Qf hl yV,hN as3 m3 (acc++[wy]) (ys++[vy]) _ ?_ (λ_ _ e=>T3.get (T2.get e)) (M3.push h0 R3) P3'⟩;have k1:=M.S.kp T2;have k2:=S2.kp T3;have k3:Kp K H3 (aK H3 D (.lst (ys++[vy]))):=Kp.upd M3.hD;exact⟨λa vs q=>k3.t _ _ (k2.t _ _ (k1.t _ _ q)),λa vs q=>k3.f _ _ (k2.f _ _ (k1.f _ _ q))⟩
   .rw[LG hl]at P3';exact P3'.elim
 |_=>exact P2.elim
def dg.start{as as1:List Addr}{H H1:Hp}{D:Addr}{env:En}{σ:St}{m1:Me}(S1:aQ K as1 m1 H1)(G1:aE K as1 H1 env σ)(hD:H1 D=none):dg K as1 H1 D env σ as1 m1 [] [] (aK H1 D (.lst [])):=by
 have T:Step as1 H1 as1 (aK H1 D (.lst [])):=Step.updD .refl hD;exact⟨T,S1.keep T λb _ o e=>by rw[zf (zp e hD)];exact e,zh,S1.new hD,aA.mpr rfl,G1.mono S1 T⟩
def gH {cond:Ex}(htc:∀σ H Q,wP K (af cl cond) σ H Q->tc σ H Q)(h:aV K (af cl (.comp elt it cond)) σ H Q):
  iP mU (fY K (af cl it)) tc (aV K (af cl elt)) σ H Q:=by
 obtain⟨as,env,m,S,G,P⟩:=h;refine⟨as,env,m,S,G,?_⟩;have P':aw K as H Q ((af cl it env m).bind λx m1=>match x with
  |.tup xs=>xy (λx m=>af cl cond (env++[some x]) m) (λx m=>af cl elt (env++[some x]) m) xs [] m1
  |.rol xs=>xy (λx m=>af cl cond (env++[some x]) m) (λx m=>af cl elt (env++[some x]) m) xs [] m1
  |.ref l=>xz (λx m=>af cl cond (env++[some x]) m) (λx m=>af cl elt (env++[some x]) m) l (au+1) 0 [] m1
  |_=>.no):=P
 clear P;cases hr:af cl it env m with
 |no=>rw[hr]at P';exact P'
 |exc c w m'=>rw[hr]at P';exact P'
 |ok w m1=>
  rw[hr]at P';have start:∀{as1:List Addr}{H1:Hp}{D:Addr},Step as H as1 H1->aQ K as1 m1 H1->H1 D=none->dg K as1 H1 D env σ as1 m1 [] [] (aK H1 D (.lst [])):=λ{as1 H1 D} T1 S1 hD=>dg.start (as:=as) (H:=H) S1 (G.mono S T1) hD
  -- over items that stay
  have seqs:∀(xs:List Wd),aw K as H Q (xy (λx m=>af cl cond (env++[some x]) m) (λx m=>af cl elt (env++[some x]) m) xs [] m1) ->
    ∀as1 H1 J,Step as H as1 H1->aQ K as1 m1 H1->iL K as1 H1 J xs->∀D,H1 D=none->∃W:Nat->Nat->List V->Hp->Prop,(∃m,W 0 m [] (aK H1 D (.lst [])))/\∀i m ys H,W i m ys H ->
     (J.stop i H/\Q (.ref D) H)\/(J.go i H/\∀v H',J.yld i H v H'->∃vs,mU v H' vs/\tc (σ++vs.map some) H' λb H2=>if b=true then aV K (af cl elt) (σ++vs.map some) H2 λy H3=>H3 D=some (.lst ys)/\ys.length<sizeLine/\∃m',m'<m/\W (i+1) m' (ys++[y]) (aK H3 D (.lst (ys++[y])))
      else ∃m',m'<m/\W (i+1) m' ys H2):=by
   intro xs Pc as1 H1 J T1 S1 hI D hD;obtain⟨vs,ok,hJ,ok1,RL,stab⟩:=hI;have Pc1:=aw.step Pc T1;have hlen:=RL.length;refine⟨λi n ys H'=>∃as' m' acc,i<=xs.length/\n=xs.length-i/\dg K as1 H1 D env σ as' m' acc ys H'/\ok H'/\ae K as' H' xs vs /\
    aw K as1 H1 Q (xy (λx m=>af cl cond (env++[some x]) m) (λx m=>af cl elt (env++[some x]) m) (xs.drop i) acc m'),
    ⟨xs.length,as1,m1,[],Vm _,rfl,start T1 S1 hD,stab _ _ (S1.kp (start T1 S1 hD).T) ok1,RL.mono S1 (start T1 S1 hD).T,Pc1⟩,?_⟩
   rintro i n ys H' ⟨as',m',acc,hi,rfl,M,okH,RL',Pi⟩;by_cases hlt:i<xs.length
   .refine .inr ⟨hJ.go i H' okH (by rw[<-hlen];exact hlt),λv H'' hy=>?_⟩;obtain⟨rfl,hv⟩:=hJ.yld i H' v H'' okH (by rw[<-hlen];exact hlt) hy;obtain⟨v',hv',Rx⟩:=RL'.get (i:=i) (x:=xs[i]) (by simp[hlt]);rw[hv]at hv';cases hv';rw[Vu hlt]at Pi;refine⟨[v],rfl,gG htc (sx:=[some v]) (next:=λacc m=>xy (λx m=>af cl cond (env++[some x]) m) (λx m=>af cl elt (env++[some x]) m) (xs.drop (i+1)) acc m) (N:=λzs H2=>∃n',n'<xs.length-i/\∃as' m' acc,i+1<=xs.length/\n'=xs.length-(i+1)/\dg K as1 H1 D env σ as' m' acc zs H2/\ok H2/\ae K as' H2 xs vs/\aw K as1 H1 Q (xy (λx m=>af cl cond (env++[some x]) m) (λx m=>af cl elt (env++[some x]) m) (xs.drop (i+1)) acc m')) hD M (M.G.push Rx) Pi ?_⟩;intro as2 m2 acc' ys' H2 kp g M2 P2;exact⟨xs.length-(i+1),by lia,as2,m2,acc',hlt,rfl,M2,stab _ _ kp okH,bp kp g _ _ RL',P2⟩
   .have e:i=xs.length:=by lia
    subst e;rw[List.drop_length]at Pi;exact .inl ⟨hJ.stop _ H' okH (by lia),jL M.S M.T hD M.hD M.n M.R Pi⟩
  cases w with
  |tup xs=>exact⟨rfl,λas1 H1 J T1 S1 hI=>seqs xs P' as1 H1 J T1 S1 hI⟩
  |rol xs=>exact⟨rfl,λas1 H1 J T1 S1 hI=>seqs xs P' as1 H1 J T1 S1 hI⟩
  |ref l=>
   have P2:aw K as H Q (xz (λx m=>af cl cond (env++[some x]) m) (λx m=>af cl elt (env++[some x]) m) l (au+1) 0 [] m1):=P';refine⟨?_,λas1 H1 J T1 S1 hI D hD=>?_⟩
   .show (zN m1 l).isSome=true;cases e:zN m1 l with
    |some xs=>rfl
    |none=>
     unfold xz at P2;rw[e]at P2;exact P2.elim
   .obtain ⟨a,ha,rfl⟩:=hI;have Pc1:=aw.step P2 T1;refine⟨λi n ys H'=>∃as' m' acc,as'[l]?=some a/\dg K as1 H1 D env σ as' m' acc ys H' /\
     aw K as1 H1 Q (xz (λx m=>af cl cond (env++[some x]) m) (λx m=>af cl elt (env++[some x]) m) l n i acc m'),⟨au+1,as1,m1,[],ha,start T1 S1 hD,Pc1⟩,?_⟩
    rintro i n ys H' ⟨as',m',acc,hl,M,Pi⟩;cases n with
    |zero=>exact Pi.elim
    |succ n=>
     unfold xz at Pi;cases e:zN m' l with
     |none=>rw[e]at Pi;exact Pi.elim
     |some xs=>
      rw[e]at Pi;simp only[]at Pi;obtain⟨a',vs,ha',eH,RL⟩:=yK M.S (yQ e);rw[hl]at ha';cases ha';cases ex:xs[i]? with
      |none=>
       rw[ex]at Pi;have hle:vs.length<=i:=by rw[<-RL.length];exact Wv.mp ex
       exact .inl ⟨⟨vs,bG.of eH,hle⟩,jL M.S M.T hD M.hD M.n M.R Pi⟩
      |some x=>
       rw[ex]at Pi;obtain⟨v0,hv0,Rx⟩:=RL.get ex;refine .inr ⟨⟨vs,v0,bG.of eH,hv0⟩,λv H'' hy=>?_⟩;obtain⟨rfl,hy⟩:=hy;have:=hy vs (bG.of eH);rw[hv0]at this;cases this;refine⟨[v0],rfl,gG htc (sx:=[some v0]) (next:=λacc m=>xz (λx m=>af cl cond (env++[some x]) m) (λx m=>af cl elt (env++[some x]) m) l n (i+1) acc m) (N:=λzs H2=>∃n',n'<n+1/\∃as' m' acc,as'[l]?=some a/\dg K as1 H1 D env σ as' m' acc zs H2/\aw K as1 H1 Q (xz (λx m=>af cl cond (env++[some x]) m) (λx m=>af cl elt (env++[some x]) m) l n' (i+1) acc m')) hD M (M.G.push Rx) Pi ?_⟩;intro as2 m2 acc' ys' H2 kp g M2 P2;exact⟨n,WV _,as2,m2,acc',g _ _ hl,M2,P2⟩
  |non=>exact P'.elim
  |bl k=>exact P'.elim
  |int i=>exact P'.elim
  |str s=>exact P'.elim
end
end Mini
namespace Mini
open PySem L2
end Mini
namespace Mini
open PySem PySem.Spec PyProof.Rows L2
section
noncomputable def JO(t u:Tg)(w:Wd)(m:Me):Rz:=(dF (dq t w m) m).bind λx m1=>match x with
 |.bl false=>dF (dq u w m1) m1
 |.bl true=>.ok (.bl true) m1
 |_=>.no
end
end Mini
namespace L2
open PySem PySem.Spec PyProof.Rows
end L2
namespace PySem
open Sem (wp)
open AutoSeq1 (wpAny_loadPart')
end PySem
namespace L2
open PySem PySem.Spec PyProof.Rows
end L2
namespace Mini
open PySem PySem.Spec PyProof.Rows L2
end Mini
namespace L2
open PySem PySem.Spec PyProof.Rows
end L2
namespace Mini
open PySem PySem.Spec PyProof.Rows L2
end Mini
namespace L2
open PySem PySem.Spec PyProof.Rows
open PySem.W (KatTups KatLex KatGo kat_lt kat_cons kat_nil kat_go kat_yes kat_no kat_kind)
end L2
namespace L2
open PySem PySem.Spec PyProof.Rows
open PySem.SeqAt PySem.MeetsSeq PySem.MeetsSeq2 PySem.MeetsSeq3
open PySem.W (KatTups KatLex KatGo kat_lt kat_cons kat_nil kat_go kat_yes kat_no)
end L2
namespace L2
open PySem PySem.Spec PyProof.Rows
end L2
namespace PySem
end PySem
namespace L2
open PySem PySem.Spec PyProof.Rows
end L2
namespace Mini
open PySem PySem.Spec PyProof.Rows L2
section
variable{cl:Nat->List Wd->Me->Rz}
def bX.pe (h:bX cl X e (.e x))(hr:zB e=false):PE X x (aV X.K (af cl e)):=(h.1 hr).1
def bX.pt (h:bX cl X e (.e x))(hr:zB e=false)(hi:jj e=false):PT X x (wP X.K (af cl e)):=(h.1 hr).2.1 hi
def bX.pw (h:bX cl X e (.e (.BoolOp op vs pos)))(hr:zB e=false):PW X (.BoolOp op vs pos) (wP X.K (af cl e)):=(h.1 hr).2.2 op vs pos rfl
def bX.pa (h:bX cl X e (.a xs)):PA X xs (jl X.K (af cl e)):=h
def sE (h:fQ sc x=true):fB sc x:=by
 unfold fQ at h;simp only[Wy,LL]at h;exact h
def xA (h:df sc x=true):sc.names.lookup x=some .globalImplicit:=LK h
def vS {K:Qb}(hv:∀as H,aj K as H w v):∀σ H Q,aV K (af cl (.lit w)) σ H Q->tC v σ H Q:=λσ H Q h=>by
 obtain⟨as,env,m,S,G,P⟩:=h;exact aw.ok (m:=m) P S (hv as H)
def xH (hs:yR y=true):∀v,Km y env v=pure v:=λv=>by
 cases y<;>first|rfl|cases hs
structure aO(C:Ctx)(sc:JP)(N:List Str)(e:Ex)(n:Nd):Prop where
 h:∀(cl:Nat → List Wd → Me → Rz) (d:Nat) (X:Cx),br C X cl d → X.env.scope=sc → X.N=N → bX cl X e n
def y7 (h:aO C sc N e n):∀X:Cx,br C X cl d->X.env.scope=sc->X.N=N->bX cl X e n:=h.h cl d
def aO.«var»{C:Ctx}{sc:JP}{N:List Str}{i:Nat}{x:Str}{p:Pos}(h1:N[i]?=some x)(h2:fQ sc x=true)(h3:zw x=true):aO C sc N (.var i) (.e (.Name x p)):=by
 constructor;intro cl d;intro X hC es eN;subst es;subst eN;obtain⟨n1,n2,_⟩:=kJ h3;refine bX.of (PE.imp (kC h1 (sE h2) n1 n2) λσ H Q q=>?_);obtain⟨as,env,m,S,G,P⟩:=q;cases hw:env[i]? with
 |none=>have P':aw X.K as H Q (match env[i]? with|some (some w)=>.ok w m|_=>.no):=P;rw[hw]at P';exact P'.elim
 |some o=>
  cases o with
  |none=>have P':aw X.K as H Q (match env[i]? with|some (some w)=>.ok w m|_=>.no):=P;rw[hw]at P';exact P'.elim
  |some w=>
   have P':aw X.K as H Q (match env[i]? with|some (some w)=>.ok w m|_=>.no):=P;rw[hw]at P';obtain⟨v,hv,R⟩:=G.get i w hw;exact⟨v,hv,aw.ok (m:=m) P' S R⟩
def aO.«non»{C:Ctx}{sc:JP}{N:List Str}{k}{p:Pos}:aO C sc N (.lit .non) (.e (.Constant .none k p)):=by
 constructor;intro cl d;intro X hC es eN;exact bX.of (PE.imp sT (vS λ_ _=>ak.mpr rfl))
def aO.«bl»{C:Ctx}{sc:JP}{N:List Str}{b:Bool}{k}{p:Pos}:aO C sc N (.lit (.bl b)) (.e (.Constant (.bool b) k p)):=by
 constructor;intro cl d;intro X hC es eN;exact bX.of (PE.imp CN (vS λ_ _=>ah.mpr rfl))
def aO.«int»{C:Ctx}{sc:JP}{N:List Str}{i:Int}{k}{p:Pos}:aO C sc N (.lit (.int i)) (.e (.Constant (.int i) k p)):=by
 constructor;intro cl d;intro X hC es eN;exact bX.of (PE.imp CV (vS λ_ _=>aa.mpr rfl))
def aO.«str»{C:Ctx}{sc:JP}{N:List Str}{s:Str}{t:List Nat}{k}{p:Pos}(h:s.cps.toList=t):aO C sc N (.lit (.str t)) (.e (.Constant (.str s) k p)):=by
 constructor;intro cl d;intro X hC es eN;subst h;exact bX.of (PE.imp g9 (vS λ_ _=>ax.mpr (by simp)))
def aO.«con»{C:Ctx}{sc:JP}{N:List Str}{x:Str}{i:Int}{p:Pos}(h1:df sc x=true)(h2:C.cons.lookup x=some i)(h3:zw x=true):aO C sc N (.lit (.int i)) (.e (.Name x p)):=by
 constructor;intro cl d;intro X hC es eN;subst es;obtain⟨n1,n2,_⟩:=kJ h3;obtain⟨t,ht⟩:=hC.con.1 x i h2;exact bX.of (PE.imp (qc (xA h1) ht (v:=.int i) ⟨t,rfl⟩ n1) (vS λ_ _=>aa.mpr rfl))
def aO.«bin»{C:Ctx}{sc:JP}{N:List Str}{op:Bo}{a b:Ex}{x y:Expr}{p:Pos}(ra:zB a=false)(ha:aO C sc N a (.e x))(rb:zB b=false)(hb:aO C sc N b (.e y)):aO C sc N (.bin op a b) (.e (.BinOp x (nJ op) y p)):=by
 constructor;intro cl d;have iha:=ha.h cl d;have ihb:=hb.h cl d;intro X hC es eN;exact bX.of (Ds ((iha X hC es eN).pe ra) ((ihb X hC es eN).pe rb))
def aO.«neg»{C:Ctx}{sc:JP}{N:List Str}{a:Ex}{x:Expr}{p:Pos}(ra:zB a=false)(ha:aO C sc N a (.e x)):aO C sc N (.neg a) (.e (.UnaryOp .USub x p)):=by
 constructor;intro cl d;have iha:=ha.h cl d;intro X hC es eN;exact bX.of (Dr ((iha X hC es eN).pe ra))
def aO.«not»{C:Ctx}{sc:JP}{N:List Str}{a:Ex}{x:Expr}{p:Pos}(ra:zB a=false)(ia:jj a=false)(ha:aO C sc N a (.e x)):aO C sc N (.not a) (.e (.UnaryOp .Not x p)):=by
 constructor;intro cl d;have iha:=ha.h cl d;intro X hC es eN;have s1:=iha X hC es eN;exact⟨λ_=>⟨tj (s1.pe ra),λ_=>Dq (s1.pt ra ia),λop vs pos z=>by cases z⟩,λtg=>jH (tj (s1.pe ra))⟩
def aO.«and2»{C:Ctx}{sc:JP}{N:List Str}{a b:Ex}{x y:Expr}{p:Pos}(ra:zB a=false)(ia:jj a=false)(ha:aO C sc N a (.e x))(rb:zB b=false)(ib:jj b=false)(hb:aO C sc N b (.e y)):aO C sc N (.and a b) (.e (.BoolOp .And [x,y] p)):=by
 constructor;intro cl d;have iha:=ha.h cl d;have ihb:=hb.h cl d;intro X hC es eN;have sa:=iha X hC es eN;have sb:=ihb X hC es eN;have e:=λ(p:Pos)=>tf (pos:=p) (sa.pe ra) (sR (sb.pe rb));have w:=λ(p:Pos)=>sJ (pos:=p) (sa.pt ra ia) (E5 (sb.pt rb ib));exact⟨λ_=>⟨e _,λ_=>(w _).pt,λop vs pos z=>by cases z;exact w _⟩,λtg=>jH (e _)⟩
def aO.«andN»{C:Ctx}{sc:JP}{N:List Str}{a b:Ex}{x y z:Expr}{r:List Expr}{p:Pos}(ra:zB a=false)(ia:jj a=false)(ha:aO C sc N a (.e x))(rb:zB b=false)(hb:aO C sc N b (.e (.BoolOp .And (y::z::r) p))):aO C sc N (.and a b) (.e (.BoolOp .And (x::y::z::r) p)):=by
 constructor;intro cl d;have iha:=ha.h cl d;have ihb:=hb.h cl d;intro X hC es eN;have sa:=iha X hC es eN;have sb:=ihb X hC es eN;have e:=tf (sa.pe ra) (sb.pe rb);have w:=sJ (sa.pt ra ia) (sb.pw rb);exact⟨λ_=>⟨e,λ_=>w.pt,λop vs pos z=>by cases z;exact w⟩,λtg=>jH e⟩
def aO.«or2»{C:Ctx}{sc:JP}{N:List Str}{a b:Ex}{x y:Expr}{p:Pos}(ra:zB a=false)(ia:jj a=false)(ha:aO C sc N a (.e x))(rb:zB b=false)(ib:jj b=false)(hb:aO C sc N b (.e y)):aO C sc N (.or a b) (.e (.BoolOp .Or [x,y] p)):=by
 constructor;intro cl d;have iha:=ha.h cl d;have ihb:=hb.h cl d;intro X hC es eN;have sa:=iha X hC es eN;have sb:=ihb X hC es eN;have e:=λ(p:Pos)=>BZ (pos:=p) (sa.pe ra) (sR (sb.pe rb));have w:=λ(p:Pos)=>BY (pos:=p) (sa.pt ra ia) (sS (sb.pt rb ib));exact⟨λ_=>⟨e _,λ_=>(w _).pt,λop vs pos z=>by cases z;exact w _⟩,λtg=>jH (e _)⟩
def aO.«cmp»{C:Ctx}{sc:JP}{N:List Str}{op:Co}{a b:Ex}{x y:Expr}{p:Pos}(hs:yR y=true)(ra:zB a=false)(ha:aO C sc N a (.e x))(rb:zB b=false)(hb:aO C sc N b (.e y)):aO C sc N (.cmp op a b) (.e (.Compare x [cK op] [y] p)):=by
 constructor;intro cl d;have iha:=ha.h cl d;have ihb:=hb.h cl d;intro X hC es eN;have ea:=(iha X hC es eN).pe ra;have eb:=(ihb X hC es eN).pe rb;exact⟨λ_=>⟨sI hC.room.units ea eb hs,λ_=>Dp hC.room.units ea eb hs,λop vs pos z=>by cases z⟩,λtg=>jH (sI hC.room.units ea eb hs)⟩
def aO.«chain»{C:Ctx}{sc:JP}{N:List Str}{o q:Co}{a b c:Ex}{x y z:Expr}{p:Pos}(hs:yR z=true)(ra:zB a=false)(ha:aO C sc N a (.e x))(rb:zB b=false)(hb:aO C sc N b (.e y))(rc:zB c=false)(hc:aO C sc N c (.e z)):aO C sc N (.chain o q a b c) (.e (.Compare x [cK o,cK q] [y,z] p)):=by
 constructor;intro cl d;have iha:=ha.h cl d;have ihb:=hb.h cl d;have ihc:=hc.h cl d;intro X hC es eN;have ea:=(iha X hC es eN).pe ra;have eb:=(ihb X hC es eN).pe rb;have ec:=(ihc X hC es eN).pe rc;exact⟨λ_=>⟨uG hC.room.units ea eb ec hs,λ_=>FA hC.room.units ea eb ec hs,λop vs pos z=>by cases z⟩,λtg=>jH (uG hC.room.units ea eb ec hs)⟩
def aO.«unit»{C:Ctx}{sc:JP}{N:List Str}:aO C sc N .unit (.a []):=by
 constructor;intro cl d;intro X hC es eN;exact DS
def aO.«pair»{C:Ctx}{sc:JP}{N:List Str}{a b:Ex}{x:Expr}{xs:List Expr}(hs:zE x=true)(ra:zB a=false)(ha:aO C sc N a (.e x))(hb:aO C sc N b (.a xs)):aO C sc N (.pair a b) (.a (x::xs)):=by
 constructor;intro cl d;have iha:=ha.h cl d;have ihb:=hb.h cl d;intro X hC es eN;exact DR ((iha X hC es eN).pe ra) (ihb X hC es eN).pa hs
def aO.«call»{C:Ctx}{sc:JP}{N:List Str}{k:Nat}{a:Ex}{f:Str}{y:Expr}{ys:List Expr}{p p':Pos}(h1:C.fns[k]?=some f)(h2:df sc f=true)(h3:zw f=true)(hs:(y::ys).all zE=true)(ha:aO C sc N a (.a (y::ys))):aO C sc N (.call k a) (.e (.Call (.Name f p) (y::ys) [] p')):=by
 constructor;intro cl d;have iha:=ha.h cl d;intro X hC es eN;subst es;exact bX.of (DQ hC h1 (xA h2) h3 hs (iha X hC rfl eN).pa)
def aO.«blt»{C:Ctx}{sc:JP}{N:List Str}{b:dW}{a:Ex}{nm:Str}{f:Value}{y:Expr}{ys:List Expr}{p p':Pos}(h1:lR b=some (nm,f))(h2:df sc nm=true)(h3:zw nm=true)(hs:(y::ys).all zE=true)(ha:aO C sc N a (.a (y::ys))):aO C sc N (.blt b a) (.e (.Call (.Name nm p) (y::ys) [] p')):=by
 constructor;intro cl d;have iha:=ha.h cl d;intro X hC es eN;subst es;exact bX.of (Ct hC h1 (xA h2) h3 hs (iha X hC rfl eN).pa)
def aO.«isi»{C:Ctx}{sc:JP}{N:List Str}{t:Tg}{a:Ex}{y:Expr}{p p' p'':Pos}(h1:df sc "isinstance"=true)(h2:df sc (Str.ofString (cU t))=true)(hs:zE y=true)(ra:zB a=false)(ha:aO C sc N a (.e y)):aO C sc N (.isi t a) (.e (.Call (.Name "isinstance" p) [y,.Name (Str.ofString (cU t)) p'] [] p'')):=by
 constructor;intro cl d;have iha:=ha.h cl d;intro X hC es eN;subst es;exact bX.of (Cs hC (xA h1) (xA h2) hs ((iha X hC rfl eN).pe ra))
def aO.«lst»{C:Ctx}{sc:JP}{N:List Str}{a:Ex}{xs:List Expr}{p:Pos}(ha:aO C sc N a (.a xs)):aO C sc N (.lst a) (.e (.List xs p)):=by
 constructor;intro cl d;have iha:=ha.h cl d;intro X hC es eN;exact bX.of (Cr (iha X hC es eN).pa)
def aO.«tup»{C:Ctx}{sc:JP}{N:List Str}{a:Ex}{xs:List Expr}{k}{p:Pos}(ha:aO C sc N a (.a xs)):aO C sc N (.tup a) (.e (.Tuple xs k p)):=by
 constructor;intro cl d;have iha:=ha.h cl d;intro X hC es eN;exact bX.of (Cq (iha X hC es eN).pa)
def aO.«idx»{C:Ctx}{sc:JP}{N:List Str}{a b:Ex}{x y:Expr}{p:Pos}(hs:wq y=true)(ra:zB a=false)(ha:aO C sc N a (.e x))(rb:zB b=false)(hb:aO C sc N b (.e y)):aO C sc N (.idx a b) (.e (.Subscript x y p)):=by
 constructor;intro cl d;have iha:=ha.h cl d;have ihb:=hb.h cl d;intro X hC es eN;exact bX.of (Cp ((iha X hC es eN).pe ra) ((ihb X hC es eN).pe rb) hs)
def aO.«slH»{C:Ctx}{sc:JP}{N:List Str}{a b:Ex}{x y:Expr}{p p':Pos}(ra:zB a=false)(ha:aO C sc N a (.e x))(rb:zB b=false)(hb:aO C sc N b (.e y)):aO C sc N (.slH a b) (.e (.Subscript x (.Slice none (some y) none p') p)):=by
 constructor;intro cl d;have iha:=ha.h cl d;have ihb:=hb.h cl d;intro X hC es eN;exact bX.of (Cn ((iha X hC es eN).pe ra) ((ihb X hC es eN).pe rb))
def aO.«meth0»{C:Ctx}{sc:JP}{N:List Str}{k:dC}{o:Ex}{x:Expr}{ap cp:Pos}(hx:vR x=true)(hl:(ap.endLine==cp.line)=true)(ro:zB o=false)(ho:aO C sc N o (.e x)):aO C sc N (.meth k o .unit) (.e (.Call (.Attribute x (et k).1 ap) [] [] cp)):=by
 constructor;intro cl d;have iho:=ho.h cl d;intro X hC es eN;exact bX.of (Fz ((iho X hC es eN).pe ro) hx hl)
def aO.«meth»{C:Ctx}{sc:JP}{N:List Str}{k:dC}{o a:Ex}{x y:Expr}{ys:List Expr}{ap cp:Pos}(hx:vR x=true)(hl:(ap.endLine==cp.line)=true)(hn:(y::ys).length<29)(hs:(y::ys).all zE=true)(ro:zB o=false)(ho:aO C sc N o (.e x))(ha:aO C sc N a (.a (y::ys))):aO C sc N (.meth k o a) (.e (.Call (.Attribute x (et k).1 ap) (y::ys) [] cp)):=by
 constructor;intro cl d;have iho:=ho.h cl d;have iha:=ha.h cl d;intro X hC es eN;exact bX.of (DO ((iho X hC es eN).pe ro) (iha X hC es eN).pa hx hl hn hs)
def aO.«rng1»{C:Ctx}{sc:JP}{N:List Str}{b:Ex}{y:Expr}{p p':Pos}(hg:df sc "range"=true)(hs:zE y=true)(rb:zB b=false)(hb:aO C sc N b (.e y)):aO C sc N (.rng (.lit (.int 0)) b (.lit (.int 1))) (.e (.Call (.Name "range" p) [y] [] p')):=by
 constructor;intro cl d;have ihb:=hb.h cl d;intro X hC es eN;subst es;exact⟨λz=>(by cases z),λtg=>DN hC (xA hg) hs ((ihb X hC rfl eN).pe rb)⟩
def aO.«lrng»{C:Ctx}{sc:JP}{N:List Str}{a:Ex}{y:Expr}{p p' q q':Pos}(hl:df sc "list"=true)(hg:df sc "range"=true)(hs:zE y=true)(ra:zB a=false)(ha:aO C sc N a (.e y)):aO C sc N (.lrng a) (.e (.Call (.Name "list" p) [.Call (.Name "range" q) [y] [] q'] [] p')):=by
 constructor;intro cl d;have iha:=ha.h cl d;intro X hC es eN;subst es;exact bX.of (DM hC (xA hl) (xA hg) hs ((iha X hC rfl eN).pe ra))
def aO.«comp0»{C:Ctx}{sc scope:JP}{N:List Str}{elt it:Ex}{x i:Expr}{y:Str}{p p':Pos}(hs:yR i=true)(hB:qo sc N scope [y]=true)(hi:aO C sc N it (.e i))(re:zB elt=false)(he:aO C (uK scope sc) (wn N [y]) elt (.e x)):aO C sc N (.comp elt it (.lit (.bl true))) (.e (.ListComp x [⟨.Name y p,i,[],0⟩] scope p')):=by
 constructor;intro cl d;have ihi:=hi.h cl d;have ihe:=he.h cl d;intro X hC es eN;subst es;subst eN;have B:=kI hB;have hI:=(ihi X hC rfl rfl).2 (.Name y p);have hset:∀v,Km i X.env v=pure v:=xH hs;have body:∀Xc,bL X scope [y] Xc->PE Xc x (aV X.K (af cl elt)):=λXc c=>by
  have q:=(ihe Xc (hC.comp c) c.sc c.N).pe re;rw[c.K]at q;exact q
 refine bX.of (PE.imp (Fh B hC.calm (tZ B) hI (λXc c=>⟨ua,body Xc c⟩) hset) λσ H Q q=>gH (λσ H Q q=>?_) q);obtain⟨as,env,m,S,G,P⟩:=q;obtain⟨b,e,q⟩:=aw.ok (m:=m) P S (ah.mpr rfl);cases e;exact q
end
def Ck:swappedStores [.Subscript o i p1] v env=pure none:=rfl
def uw (h:∀x p,tg≠.Name x p):swapsWithSole [tg] v line env=pure false:=by
 cases v<;>first|rfl|(cases tg<;>first|rfl|exact LH rfl (h _ _))
noncomputable def jM:Expr->Bool
 |.ListComp _ _ _ _=>true
 |.SetComp _ _ _ _=>true
 |.DictComp _ _ _ _ _=>true
 |_=>false
def mw (h:jM v=false):Kd v t line env=pure false:=by
 cases v<;>first|rfl|cases h
noncomputable def aC(K:Qb)(as:List Addr)(H:Hp)(D:bY)(r:Rs):Prop:=match r with
 |.next e m'=>∀as' H' σ',Step as H as' H'->aQ K as' m' H'->aE K as' H' e σ'->D.nx σ' H'
 |.brk e m'=>∀as' H' σ',Step as H as' H'->aQ K as' m' H'->aE K as' H' e σ'->D.bk σ' H'
 |.cont e m'=>∀as' H' σ',Step as H as' H'->aQ K as' m' H'->aE K as' H' e σ'->D.ct σ' H'
 |.ret w m'=>∀as' H' v,Step as H as' H'->aQ K as' m' H'->aj K as' H' w v->D.rt v H'
 |_=>False
noncomputable def xt(K:Qb)(g:En->Me->Rs):TS:=λD σ H=>∃as env m,aQ K as m H/\aE K as H env σ/\aC K as H D (g env m)
section
variable{K:Qb}{as as':List Addr}{H H':Hp}{m:Me}{D:bY}
set_option tactic.hygienic true in
def aC.step{r:Rs}(h:aC K as H D r)(T:Step as H as' H'):aC K as' H' D r:=by
 cases r with
 |next e m'=>exact λas2 H2 σ' U S G=>h as2 H2 σ' (T.trans U) S G
 |brk e m'=>exact λas2 H2 σ' U S G=>h as2 H2 σ' (T.trans U) S G
 |cont e m'=>exact λas2 H2 σ' U S G=>h as2 H2 σ' (T.trans U) S G
 |ret w m'=>exact λas2 H2 v U S R=>h as2 H2 v (T.trans U) S R
 |exc c w e m'=>exact h
 |no=>exact h
def aC.bind (h:aC K as H D (r.bindS env f))(k:∀w m' as' H' v,Step as H as' H'->aQ K as' m' H'->aj K as' H' w v->aC K as' H' D (f w m')->Q1 v H'):aw K as H Q1 r:=by
 cases r with
 |ok w m'=>exact λas2 H2 v U S R=>k w m' as2 H2 v U S R (aC.step (r:=f w m') h U)
 |exc c w m'=>exact h
 |no=>exact h
def aC.bindI (h:aC K as H D (r.bindS env f))(k:∀w m',aC K as H D (f w m')->(yr m' w).isSome=true/\∀as' H' J,Step as H as' H'->aQ K as' m' H'->pU K as' H' w J->R1 J H'):bU K as H R1 r:=by
 cases r with
 |ok w m'=>exact k w m' h
 |exc c w m'=>exact h
 |no=>exact h
theorem aC.next (h:aC K as H D (.next env m))(S:aQ K as m H)(G:aE K as H env σ):D.nx σ H:=h as H σ .refl S G
end
section
variable{cl:Nat->List Wd->Me->Rz}{X:Cx}{e o i:Ex}{x y z:Expr}{pos:Pos}
def DL:cj X [] (xt X.K (aI cl .skip)):=cj.imp vM λD σ H h=>by
 obtain⟨as,env,m,S,G,P⟩:=h;exact aC.next (m:=m) P S G
set_option tactic.hygienic true in
def Cj {st:Stmt}(ha:PS X st (xt X.K (aI cl a)))(hb:cj X sts (xt X.K (aI cl b))):cj X (st::sts) (xt X.K (aI cl (.seq a b))):=
 cj.imp (xN ha hb) λD σ H h=>by
  obtain⟨as,env,m,S,G,P⟩:=h;refine⟨as,env,m,S,G,?_⟩;have P':aC X.K as H D (match aI cl a env m with |.next e1 m1=>aI cl b e1 m1|r=>r):=P;cases hr:aI cl a env m with
  |next e1 m1=>
   rw[hr]at P';exact λas' H' σ' T S' G'=>⟨as',e1,m1,S',G',aC.step P' T⟩
  |brk e1 m1=>rw[hr]at P';exact P'
  |cont e1 m1=>rw[hr]at P';exact P'
  |ret w m1=>rw[hr]at P';exact P'
  |exc c w e1 m1=>rw[hr]at P';exact P'
  |no=>rw[hr]at P';exact P'
def jN {K:Qb}{i:Nat}(h:xt K (aI cl (.asg i e)) D σ H):fL (aV K (af cl e)) (wl i) D σ H:=by
 obtain⟨as,env,m,S,G,P⟩:=h;refine⟨as,env,m,S,G,aC.bind P λw m1 as1 H1 v T1 S1 R1 P1=>?_⟩;exact aC.next (m:=m1) P1 S1 ((G.mono S T1).set R1 i)
def Ci(he:PE X x (aV X.K (af cl e))):PS X (.Return (some x) pos) (xt X.K (aI cl (.ret e))):=PS.imp (jw he) λD σ H h=>by
 obtain⟨as,env,m,S,G,P⟩:=h;refine⟨as,env,m,S,G,aC.bind P λw m1 as1 H1 v T1 S1 R1 P1=>?_⟩;exact P1 as1 H1 v .refl S1 R1
def DK(he:PE X x (aV X.K (af cl e)))(hc:jM x=false):PS X (.Expr x pos) (xt X.K (aI cl (.expr e))):=PS.imp (E4 he (mw hc)) λD σ H h=>by
 obtain⟨as,env,m,S,G,P⟩:=h;refine⟨as,env,m,S,G,aC.bind P λw m1 as1 H1 v T1 S1 R1 P1=>?_⟩;exact aC.next (m:=m1) P1 S1 (G.mono S T1)
def Fx{st:Stmt}:PS X st (xt X.K (aI cl .never)):=PS.imp FY λD σ H h=>by
 obtain⟨as,env,m,S,G,P⟩:=h;exact P
def BW (hc:PT X x (wP X.K (af cl e)))(ha:cj X xs (xt X.K (aI cl a)))(hb:cj X ys (xt X.K (aI cl b))):PS X (.If x xs ys pos) (xt X.K (aI cl (.ite e a b))):=
 PS.imp (qS hc ha hb) λD σ H h=>by
  obtain⟨as,env,m,S,G,P⟩:=h;refine⟨as,env,m,S,G,aC.bind P λw m1 as1 H1 v T1 S1 R1 P1=>?_⟩;cases w with
  |bl k=>
   obtain rfl:=ah.mp R1;refine⟨k,rfl,?_⟩;cases k with
   |true=>exact qV ⟨as1,env,m1,S1,G.mono S T1,P1⟩
   |false=>exact qU ⟨as1,env,m1,S1,G.mono S T1,P1⟩
  |_=>exact P1.elim
def Fw {K:Qb}{o i:Wd}(S:aQ K as m H)(Ro:aj K as H o vo)(Ri:aj K as H i vi)(Rw:aj K as H w v)(h:aC K as H D ((vG o i w m).bindS env f))(k:∀m' H',Step as H as H'->aQ K as m' H'->aC K as H' D (f .non m')->Q H'):me vo vi v H Q:=by
 have key:∀r,vG o i w m=r->(∃m',r=.ok .non m')\/r=.no:=λr e=>by
  unfold vG at e;split at e
  .split at e
   .split at e
    .exact .inl ⟨_,e.symm⟩
    .exact .inr e.symm
   .exact .inr e.symm
  .exact .inr e.symm
 rcases key _ rfl with⟨m',e⟩|e
 .refine Du S Ro Ri Rw (λm2 e2 H' T S'=>?_) ⟨m',e⟩;rw[e]at e2;cases e2;rw[e]at h;exact k m' H' T S' (aC.step (r:=f .non m') h T)
 .rw[e]at h;exact h.elim
def Ht {o i:Expr}(hs:wq i=true):∀v,assign (.Subscript o i p) env v=(do
   let ov <-holding [v] (eval o env)
   let iv <-holding [v,ov] (eval i env)
   standAt p
   holding [v,ov,iv] (setItem ov iv v)
   release [v,ov,iv] []):=λv=>by
 cases i<;>first|rfl|cases hs
def DJ (ho:PE X x (aV X.K (af cl o)))(hi:PE X y (aV X.K (af cl i)))(he:PE X z (aV X.K (af cl e)))(hs:wq y=true):PS X (.Assign [.Subscript x y p1] z pos) (xt X.K (aI cl (.asgS o i e))):=
 PS.imp (sQ he (Do ho hi Gv (Ht hs)) (uw (by intros;intro q;cases q)) Ck) λD σ H h=>by
  obtain⟨as,env,m,S,G,P⟩:=h;refine⟨as,env,m,S,G,aC.bind P λw m1 as1 H1 v T1 S1 R1 P1=>?_⟩;refine⟨as1,env,m1,S1,G.mono S T1,aC.bind P1 λwo m2 as2 H2 vo T2 S2 R2 P2=>?_⟩;refine⟨as2,env,m2,S2,(G.mono S T1).mono S1 T2,aC.bind P2 λwi m3 as3 H3 vi T3 S3 R3 P3=>?_⟩;refine Fw S3 (R2.mono S2 T3) R3 ((R1.mono S1 T2).mono S2 T3) P3 λm4 H4 T4 S4 P4=>?_;exact aC.next (m:=m4) P4 S4 ((((G.mono S T1).mono S1 T2).mono S2 T3).mono S3 T4)
end
section
variable{cl:Nat->List Wd->Me->Rz}{K:Qb}
structure c7(K:Qb)(g:TG)(st:Wd->En->Option En):Prop where
 ok:∀{as:List Addr}{H:Hp}{m:Me}{env env':En}{σ:St}{w:Wd}{v:V}{Q:L2.St->Hp->Prop},aQ K as m H->aE K as H env σ->aj K as H w v->st w env=some env'->(∀σ',aE K as H env' σ'->Q σ' H)->g v σ H Q
def Fv(i:Nat):c7 K (wl i) (λw env=>some (env.set i (some w))):=
 ⟨λS G R e k=>by cases e;exact k _ (G.set R i)⟩
set_option tactic.hygienic true in
def uE(i j:Nat):c7 K (iB K 2 (ja (wl i) (ja (wl j) iC))) (cJ i j):=by
 refine⟨λ{as H m env env' σ w v Q} S G R e k=>?_⟩;unfold cJ at e;split at e
 .rename_i a b;cases e;obtain⟨p,vs,rfl,hq,rr⟩:=ai.mp R;obtain⟨va,vb,rfl,ra,rb⟩:=ql rr;exact⟨p,[va,vb],rfl,hq,rfl,va,[vb],rfl,vb,[],rfl,rfl,k _ ((G.set ra i).set rb j)⟩
 .cases e
set_option tactic.hygienic true in
def Fu(i j l:Nat):c7 K (iB K 3 (ja (wl i) (ja (wl j) (ja (wl l) iC)))) (iD i j l):=by
 refine⟨λ{as H m env env' σ w v Q} S G R e k=>?_⟩;unfold iD at e;split at e
 .rename_i a b c;cases e;obtain⟨p,vs,rfl,hq,rr⟩:=ai.mp R;obtain⟨va,r1,rfl,ra,rr⟩:=am.mp rr;obtain⟨vb,vc,rfl,rb,rc⟩:=ql rr;exact⟨p,[va,vb,vc],rfl,hq,rfl,va,[vb,vc],rfl,vb,[vc],rfl,vc,[],rfl,rfl,k _ (((G.set ra i).set rb j).set rc l)⟩
 .cases e
set_option tactic.hygienic true in
def uD{g:TG}{st:Wd->En->Option En}{b:En->Me->Rs}(hg:c7 K g st){D:bY}{as1 as':List Addr}{H1 H':Hp}{m':Me}{env':En}{σ':St}{x:Wd}{v:V}{next:En->Me->Rs}{N:L2.St->Hp->Prop}(T:Step as1 H1 as' H')(S':aQ K as' m' H')(G':aE K as' H' env' σ')(Rx:aj K as' H' x v)
  (Pt:aC K as1 H1 D (match yA st b x env' m' with
    |.next e1 m1=>next e1 m1
    |.cont e1 m1=>next e1 m1
    |.brk e1 m1=>.next e1 m1
    |r=>r))
  (hN:∀as2 m2 e2 σ2 H2,Step as' H' as2 H2->aQ K as2 m2 H2->aE K as2 H2 e2 σ2->aC K as1 H1 D (next e2 m2)->N σ2 H2) :
  g v σ' H' λσ2 H2=>xt K b {D with nx:=N,ct:=N,bk:=D.nx} σ2 H2:=by
 unfold yA at Pt;cases hs:st x env' with
 |none=>rw[hs]at Pt;exact Pt.elim
 |some e2=>
  rw[hs]at Pt;simp only[]at Pt;refine hg.ok S' G' Rx hs λσ2 G2=>⟨as',e2,m',S',G2,?_⟩;cases hr:b e2 m' with
  |next e3 m3=>rw[hr]at Pt;exact λas3 H3 σ3 U S3 G3=>hN as3 m3 e3 σ3 H3 U S3 G3 Pt
  |cont e3 m3=>rw[hr]at Pt;exact λas3 H3 σ3 U S3 G3=>hN as3 m3 e3 σ3 H3 U S3 G3 Pt
  |brk e3 m3=>rw[hr]at Pt;exact λas3 H3 σ3 U S3 G3=>Pt as3 H3 σ3 (T.trans U) S3 G3
  |ret w' m3=>rw[hr]at Pt;exact λas3 H3 v3 U S3 R3=>Pt as3 H3 v3 (T.trans U) S3 R3
  |exc c w' e3 m3=>rw[hr]at Pt;exact Pt.elim
  |no=>rw[hr]at Pt;exact Pt.elim
def jO {st:Wd->En->Option En}(hg:c7 K g st)(h:xt K (λenv m=>(it env m).bindS env λw m1=>qZ (yA st b) w env m1) D σ H):pM (fY K it) g (xt K b) D σ H:=by
 obtain⟨as,env,m,S,G,P⟩:=h;refine⟨as,env,m,S,G,aC.bindI P λw m1 P1=>?_⟩;have seqs:∀(xs:List Wd),aC K as H D (xY (yA st b) xs env m1)->∀as1 H1 J,Step as H as1 H1->aQ K as1 m1 H1->iL K as1 H1 J xs ->
   ∃W:Nat->Nat->L2.St->Hp->Prop,(∃m,W 0 m σ H1)/\∀i m σ H,W i m σ H ->
    (J.stop i H/\D.nx σ H)\/(J.go i H/\∃N:L2.St->Hp->Prop,(∀σ' H',N σ' H'->∃m',m'<m/\W (i+1) m' σ' H')/\∀x H',J.yld i H x H'->g x σ H' λσ2 H2=>xt K b {D with nx:=N,ct:=N,bk:=D.nx} σ2 H2):=by
  intro xs Pc as1 H1 J T1 S1 hI;obtain⟨vs,ok,hJ,ok1,RL,stab⟩:=hI;have hlen:=RL.length;have Pc1:=aC.step Pc T1;refine⟨λi n σ' H'=>∃as' m' env',i<=xs.length/\n=xs.length-i/\Step as1 H1 as' H'/\aQ K as' m' H'/\aE K as' H' env' σ'/\ok H'/\ae K as' H' xs vs/\aC K as1 H1 D (xY (yA st b) (xs.drop i) env' m'),
   ⟨xs.length,as1,m1,env,Vm _,rfl,.refl,S1,G.mono S T1,ok1,RL,Pc1⟩,?_⟩
  rintro i n σ' H' ⟨as',m',env',hi,rfl,T',S',G',okH,RL',Pi⟩;by_cases hlt:i<xs.length
  .refine .inr ⟨hJ.go i H' okH (by rw[<-hlen];exact hlt),λσ2 H2=>∃as2 m2 env2,i+1<=xs.length/\Step as1 H1 as2 H2/\aQ K as2 m2 H2/\aE K as2 H2 env2 σ2/\ok H2/\ae K as2 H2 xs vs/\aC K as1 H1 D (xY (yA st b) (xs.drop (i+1)) env2 m2),?_,λv H'' hy=>?_⟩
   .rintro σ2 H2 ⟨as2,m2,env2,q⟩;exact⟨xs.length-(i+1),by lia,as2,m2,env2,q.1,rfl,q.2⟩
   .obtain ⟨rfl,hv⟩:=hJ.yld i H' v H'' okH (by rw[<-hlen];exact hlt) hy;obtain⟨v',hv',Rx⟩:=RL'.get (i:=i) (x:=xs[i]) (by simp[hlt]);rw[hv]at hv';cases hv';rw[Vu hlt]at Pi;refine uD hg (next:=λe m=>xY (yA st b) (xs.drop (i+1)) e m) T' S' G' Rx Pi ?_;intro as2 m2 e2 σ2 H2 U S2 G2 P2;exact⟨as2,m2,e2,hlt,T'.trans U,S2,G2,stab _ _ (S'.kp U) okH,RL'.mono S' U,P2⟩
  .have e:i=xs.length:=by lia
   subst e;rw[List.drop_length]at Pi;exact .inl ⟨hJ.stop _ H' okH (by lia),Pi as' H' σ' T' S' G'⟩
 cases w with
 |tup xs=>exact⟨rfl,λas1 H1 J T1 S1 hI=>seqs xs P1 as1 H1 J T1 S1 hI⟩
 |rol xs=>exact⟨rfl,λas1 H1 J T1 S1 hI=>seqs xs P1 as1 H1 J T1 S1 hI⟩
 |ref l=>
  have P2:aC K as H D (xP (yA st b) l (au+1) 0 env m1):=P1;refine⟨?_,λas1 H1 J T1 S1 hI=>?_⟩
  .show (zN m1 l).isSome=true;cases e:zN m1 l with
   |some xs=>rfl
   |none=>
    unfold xP at P2;rw[e]at P2;exact P2.elim
  .obtain ⟨a,ha,rfl⟩:=hI;have Pc1:=aC.step P2 T1;refine⟨λi n σ' H'=>∃as' m' env',as'[l]?=some a/\Step as1 H1 as' H'/\aQ K as' m' H'/\aE K as' H' env' σ'/\aC K as1 H1 D (xP (yA st b) l n i env' m'),⟨au+1,as1,m1,env,ha,.refl,S1,G.mono S T1,Pc1⟩,?_⟩;rintro i n σ' H' ⟨as',m',env',hl,T',S',G',Pi⟩;cases n with
   |zero=>exact Pi.elim
   |succ n=>
    unfold xP at Pi;cases e:zN m' l with
    |none=>rw[e]at Pi;exact Pi.elim
    |some xs=>
     rw[e]at Pi;simp only[]at Pi;obtain⟨a',vs,ha',eH,RL⟩:=yK S' (yQ e);rw[hl]at ha';cases ha';cases ex:xs[i]? with
     |none=>
      rw[ex]at Pi;have hle:vs.length<=i:=by rw[<-RL.length];exact Wv.mp ex
      exact .inl ⟨⟨vs,bG.of eH,hle⟩,Pi as' H' σ' T' S' G'⟩
     |some x=>
      rw[ex]at Pi;obtain⟨v0,hv0,Rx⟩:=RL.get ex;refine .inr ⟨⟨vs,v0,bG.of eH,hv0⟩,λσ2 H2=>∃as2 m2 env2,as2[l]?=some a/\Step as1 H1 as2 H2/\aQ K as2 m2 H2/\aE K as2 H2 env2 σ2/\aC K as1 H1 D (xP (yA st b) l n (i+1) env2 m2),?_,λv H'' hy=>?_⟩
      .rintro σ2 H2 q;exact⟨n,WV _,q⟩
      .obtain ⟨rfl,hy⟩:=hy;have:=hy vs (bG.of eH);rw[hv0]at this;cases this;refine uD hg (next:=λe m=>xP (yA st b) l n (i+1) e m) T' S' G' Rx Pi ?_;intro as2 m2 e2 σ2 H2 U S2 G2 P2;exact⟨as2,m2,e2,U.get hl,T'.trans U,S2,G2,P2⟩
 |non=>exact P1.elim
 |bl k=>exact P1.elim
 |int i=>exact P1.elim
 |str s=>exact P1.elim
set_option tactic.hygienic true in
def Hs (h:xt K (aI cl (.while c b)) D σ H):sY (wP K (af cl c)) (xt K (aI cl b)) D σ H:=by
 obtain⟨as,env,m,S,G,P⟩:=h;refine⟨λn σ' H'=>∃as' m' env',Step as H as' H'/\aQ K as' m' H'/\aE K as' H' env' σ'/\aC K as H D (jd (af cl c) (aI cl b) n env' m'),⟨1000000,as,m,env,.refl,S,G,P⟩,?_⟩;rintro n σ' H' ⟨as',m',env',T',S',G',Pi⟩;cases n with
 |zero=>exact Pi.elim
 |succ n=>
  unfold jd at Pi;refine⟨as',env',m',S',G',?_⟩;cases hr:af cl c env' m' with
  |no=>rw[hr]at Pi;exact Pi.elim
  |exc k w m1=>rw[hr]at Pi;exact Pi.elim
  |ok w m1=>
   rw[hr]at Pi;intro as1 H1 v T1 S1 R1;cases w with
   |bl k=>
    obtain rfl:=ah.mp R1;refine⟨k,rfl,?_⟩;cases k with
    |false=>exact qU (Pi as1 H1 σ' (T'.trans T1) S1 (G'.mono S' T1))
    |true=>
     refine qV ⟨λσ2 H2=>∃as2 m2 env2,Step as H as2 H2/\aQ K as2 m2 H2/\aE K as2 H2 env2 σ2/\aC K as H D (jd (af cl c) (aI cl b) n env2 m2),λσ2 H2 q=>⟨n,WV _,q⟩,as1,env',m1,S1,G'.mono S' T1,?_⟩;simp only[]at Pi;have T2:=T'.trans T1;cases hb:aI cl b env' m1 with
     |next e3 m3=>rw[hb]at Pi;exact λas3 H3 σ3 U S3 G3=>⟨as3,m3,e3,T2.trans U,S3,G3,Pi⟩
     |cont e3 m3=>rw[hb]at Pi;exact λas3 H3 σ3 U S3 G3=>⟨as3,m3,e3,T2.trans U,S3,G3,Pi⟩
     |brk e3 m3=>rw[hb]at Pi;exact λas3 H3 σ3 U S3 G3=>Pi as3 H3 σ3 (T2.trans U) S3 G3
     |ret w' m3=>rw[hb]at Pi;exact λas3 H3 v3 U S3 R3=>Pi as3 H3 v3 (T2.trans U) S3 R3
     |exc k w' e3 m3=>rw[hb]at Pi;exact Pi.elim
     |no=>rw[hb]at Pi;exact Pi.elim
   |_=>exact Pi.elim
end
set_option genInjectivity false in
inductive Ns where
 |s (st:Stmt)|b (sts:List Stmt)
noncomputable def kK(sc:JP)(x:Str):Bool:=decide (sc.names.lookup x=some .local) || decide (sc.names.lookup x=some .cell)
noncomputable def mT:Expr->Bool
 |.Call _ _ _ _=>true
 |.Name _ _=>true
 |_=>false
noncomputable def ir(cl:Nat->List Wd->Me->Rz)(X:Cx)(s:Sm):Ns->Prop
 |.s st=>PS X st (xt X.K (aI cl s))
 |.b sts=>cj X sts (xt X.K (aI cl s))
structure dP(X:Cx):Prop where
 nd:X.N.Nodup
 fn:∀x,X.fn x=true
 hp:PassesOwn (J6 X.prog X.w) X.A X.env X.xe
section
variable{cl:Nat->List Wd->Me->Rz}
def x9 (h:kK sc x=true):Loc sc x:=by
 unfold kK at h;simp only[Wy,LL]at h;exact h
def DI (hc:X.calm=true)(hX:dP X)(hi:X.N[i]?=some nm)(hl:Loc X.env.scope nm)(B:bM X scope xs)(hT:lf X scope xs tg g un)(hI:PI X tg w wi)(body:∀Xc,bL X scope xs Xc->hW Xc fs tc/\PE Xc x te)(hset:∀v,Km w X.env v=pure v)(hbind:∀σ H Q,aV X.K (af cl ce) σ H Q->iP un wi tc te σ H Q)(he:PE X (.ListComp x [⟨tg,w,fs,0⟩] scope pos') (aV X.K (af cl ce))):
  PS X (.Assign [.Name nm p1] (.ListComp x [⟨tg,w,fs,0⟩] scope pos') pos) (xt X.K (aI cl (.asg i ce))):=by
 have hsw:∃b:Bool,Kd (.ListComp x [⟨tg,w,fs,0⟩] scope pos') (some (.Name nm p1)) pos.line X.env=pure b:=⟨_,rfl⟩;obtain⟨b,hb⟩:=hsw;cases b with
 |false=>exact PS.imp (sZ hX.nd hi hl he hb (.inl (hX.fn nm))) λD σ H q=>jN q
 |true=>
  refine PS.imp (Hv B hc hT hI body hX.nd hi hl (.inl (hX.fn nm)) hb hset) λD σ H q=>?_;exact hbind _ _ _ (jN q)
def Ch(i j:Nat)(e:Ex)(env:En)(m:Me):aI cl (.fort i j (.tup (.pair e .unit)) .skip) env m=(af cl e env m).bindS env λw m1=>match cJ i j w env with
  |some env'=>.next env' m1
  |none=>.no:=by
 have h:af cl (.tup (.pair e .unit)) env m=(af cl e env m).bind λw m1=>.ok (.tup [w]) m1:=by
  show(((af cl e env m).bind λx m1=>.ok (.tup [x]) m1).bind λx m1=>if(zq x).length<=au then .ok (.tup (zq x)) m1 else .no)=_;cases af cl e env m with
  |ok w m1=>
   simp only[Rz.bind];simp[zq,au]
  |exc c w m1=>rfl
  |no=>rfl
 show(af cl (.tup (.pair e .unit)) env m).bindS env (λw m1=>qZ (yA (cJ i j) (aI cl .skip)) w env m1)=_;rw[h];cases af cl e env m with
 |ok w m1=>
  show xY (yA (cJ i j) (aI cl .skip)) [w] env m1=match cJ i j w env with
   |some env'=>.next env' m1
   |none=>.no
  unfold xY yA;cases cJ i j w env with
  |none=>rfl
  |some e2=>rfl
 |exc c w m1=>rfl
 |no=>rfl
def Ft {K:Qb}(h:xt K (aI cl (.fort i j (.tup (.pair e .unit)) .skip)) D σ H):fL (aV K (af cl e)) (iB K 2 (ja (wl i) (ja (wl j) iC))) D σ H:=by
 obtain⟨as,env,m,S,G,P⟩:=h;rw[Ch]at P;refine⟨as,env,m,S,G,aC.bind P λw m1 as1 H1 v T1 S1 R1 P1=>?_⟩;cases hs:cJ i j w env with
 |none=>rw[hs]at P1;exact P1.elim
 |some e2=>rw[hs]at P1;exact(uE i j).ok S1 (G.mono S T1) R1 hs λσ2 G2=>aC.next (m:=m1) P1 S1 G2
structure bC(C:Ctx)(sc:JP)(N:List Str)(s:Sm)(n:Ns):Prop where
 h:∀(cl:Nat → List Wd → Me → Rz) (d:Nat) (X:Cx),br C X cl d → dP X → X.env.scope=sc → X.N=N → ir cl X s n
def mv (hC:br C X cl d)(hX:dP X)(h:bC C X.env.scope X.N s n):ir cl X s n:=h.h cl d X hC hX rfl rfl
def bC.«skip0»{C:Ctx}{sc:JP}{N:List Str}:bC C sc N .skip (.b []):=by
 constructor;intro cl d X hC hX es eN;subst es;subst eN;exact DL
def bC.«one»{C:Ctx}{sc:JP}{N:List Str}{s:Sm}{st:Stmt}(h:bC C sc N s (.s st)):bC C sc N s (.b [st]):=by
 constructor;intro cl d X hC hX es eN;subst es;subst eN;have ih:=h.h cl d X hC hX rfl rfl;exact xX ih
def bC.«seq»{C:Ctx}{sc:JP}{N:List Str}{a b:Sm}{st st':Stmt}{r:List Stmt}(ha:bC C sc N a (.s st))(hb:bC C sc N b (.b (st'::r))):bC C sc N (.seq a b) (.b (st::st'::r)):=by
 constructor;intro cl d X hC hX es eN;subst es;subst eN;have iha:=ha.h cl d X hC hX rfl rfl;have ihb:=hb.h cl d X hC hX rfl rfl;exact Cj iha ihb
def bC.«asg»{C:Ctx}{sc:JP}{N:List Str}{i:Nat}{e:Ex}{x:Str}{v:Expr}{p p':Pos}(hc:jM v=false)(h1:N[i]?=some x)(h2:kK sc x=true)(hr:zB e=false)(he:aO C sc N e (.e v)):bC C sc N (.asg i e) (.s (.Assign [.Name x p] v p')):=by
 constructor;intro cl d X hC hX es eN;subst es;subst eN;exact PS.imp (sZ hX.nd h1 (x9 h2) ((y7 he X hC rfl rfl).pe hr) (mw hc) (.inl (hX.fn _))) λD σ H q=>jN q
def bC.«asgC0»{C:Ctx}{sc:JP}{N:List Str}{i:Nat}{elt it:Ex}{x y:Str}{z w:Expr}{scope:JP}{p p' q q':Pos}(h1:N[i]?=some x)(h2:kK sc x=true)(hs:yR w=true)(hB:qo sc N scope [y]=true)(hi:aO C sc N it (.e w))(re:zB elt=false)(he:aO C (uK scope sc) (wn N [y]) elt (.e z)):
   bC C sc N (.asg i (.comp elt it (.lit (.bl true)))) (.s (.Assign [.Name x p] (.ListComp z [⟨.Name y q,w,[],0⟩] scope q') p')):=by
 constructor;intro cl d X hC hX es eN;subst es;subst eN;have hset:∀v,Km w X.env v=pure v:=xH hs;refine DI (fs:=[]) (tc:=_) hC.calm hX h1 (x9 h2) (kI hB) (tZ (kI hB)) ((y7 hi X hC rfl rfl).2 _) (te:=aV X.K (af cl elt)) (λXc c=>⟨ua,?_⟩) hset (λσ H Q q=>gH (λσ H Q q=>?_) q) ((y7 (aO.comp0 hs hB hi re he) X hC rfl rfl).pe rfl)
 .have q:=(y7 he Xc (hC.comp c) c.sc c.N).pe re;rw[c.K]at q;exact q
 .obtain ⟨as,env,m,S,G,P⟩:=q;obtain⟨b,e,q⟩:=aw.ok (m:=m) P S (ah.mpr rfl);cases e;exact q
def bC.«asgS»{C:Ctx}{sc:JP}{N:List Str}{o i e:Ex}{x y z:Expr}{p p':Pos}(hs:wq y=true)(ro:zB o=false)(ho:aO C sc N o (.e x))(ri:zB i=false)(hi:aO C sc N i (.e y))(re:zB e=false)(he:aO C sc N e (.e z)):bC C sc N (.asgS o i e) (.s (.Assign [.Subscript x y p] z p')):=by
 constructor;intro cl d X hC hX es eN;subst es;subst eN;exact DJ ((y7 ho X hC rfl rfl).pe ro) ((y7 hi X hC rfl rfl).pe ri) ((y7 he X hC rfl rfl).pe re) hs
def bC.«ite»{C:Ctx}{sc:JP}{N:List Str}{c:Ex}{a b:Sm}{x:Expr}{xs ys:List Stmt}{p:Pos}(rc:zB c=false)(ic:jj c=false)(hc:aO C sc N c (.e x))(ha:bC C sc N a (.b xs))(hb:bC C sc N b (.b ys)):bC C sc N (.ite c a b) (.s (.If x xs ys p)):=by
 constructor;intro cl d X hC hX es eN;subst es;subst eN;have iha:=ha.h cl d X hC hX rfl rfl;have ihb:=hb.h cl d X hC hX rfl rfl;exact BW ((y7 hc X hC rfl rfl).pt rc ic) iha ihb
def bC.«forv»{C:Ctx}{sc:JP}{N:List Str}{i:Nat}{it:Ex}{body:Sm}{x:Str}{y:Expr}{sts:List Stmt}{p p':Pos}(h1:N[i]?=some x)(h2:kK sc x=true)(hs:yR y=true)(hi:aO C sc N it (.e y))(hb:bC C sc N body (.b sts)):bC C sc N (.forv i it body) (.s (.For (.Name x p) y sts [] p')):=by
 constructor;intro cl d X hC hX es eN;subst es;subst eN;have ihb:=hb.h cl d X hC hX rfl rfl;have hset:∀v,Km y X.env v=pure v:=xH hs;refine PS.imp (mI hX.hp hC.calm ((y7 hi X hC rfl rfl).2 _) (xB hX.nd h1 (x9 h2) (.inl (hX.fn _))) ihb hset) λD σ H q=>?_;exact jO (Fv i) q
def bC.«unp»{C:Ctx}{sc:JP}{N:List Str}{i j:Nat}{e:Ex}{x x':Str}{v:Expr}{k}{p p' p2 p3:Pos}(h1:N[i]?=some x)(h2:kK sc x=true)(h3:N[j]?=some x')(h4:kK sc x'=true)(hv:mT v=true)(hr:zB e=false)(he:aO C sc N e (.e v)):
   bC C sc N (.fort i j (.tup (.pair e .unit)) .skip) (.s (.Assign [.Tuple [.Name x p,.Name x' p'] k p2] v p3)):=by
 constructor;intro cl d X hC hX es eN;subst es;subst eN;refine PS.imp (sQ ((y7 he X hC rfl rfl).pe hr) (mJ hC.calm (xO (xB hX.nd h1 (x9 h2) (.inl (hX.fn _))) (xO (xB hX.nd h3 (x9 h4) (.inl (hX.fn _))) qe))) (uw (by intros;intro q;cases q)) (by cases v<;>first|rfl|cases hv)) λD σ H q=>?_;exact Ft q
def bC.«fort»{C:Ctx}{sc:JP}{N:List Str}{i j:Nat}{it:Ex}{body:Sm}{x x':Str}{y:Expr}{sts:List Stmt}{k}{p p' p2 p3:Pos}(h1:N[i]?=some x)(h2:kK sc x=true)(h3:N[j]?=some x')(h4:kK sc x'=true)(hs:yR y=true)(hi:aO C sc N it (.e y))(hb:bC C sc N body (.b sts)):bC C sc N (.fort i j it body) (.s (.For (.Tuple [.Name x p,.Name x' p2] k p3) y sts [] p')):=by
 constructor;intro cl d X hC hX es eN;subst es;subst eN;have ihb:=hb.h cl d X hC hX rfl rfl;have hset:∀v,Km y X.env v=pure v:=xH hs;refine PS.imp (mI hX.hp hC.calm ((y7 hi X hC rfl rfl).2 _) (mJ hC.calm (xO (xB hX.nd h1 (x9 h2) (.inl (hX.fn _))) (xO (xB hX.nd h3 (x9 h4) (.inl (hX.fn _))) qe))) ihb hset) λD σ H q=>?_;exact jO (uE i j) q
def bC.«for3»{C:Ctx}{sc:JP}{N:List Str}{i j l:Nat}{it:Ex}{body:Sm}{x x' x'':Str}{y:Expr}{sts:List Stmt}{k}{p p' p2 p3 p4:Pos}(h1:N[i]?=some x)(h2:kK sc x=true)(h3:N[j]?=some x')(h4:kK sc x'=true)(h5:N[l]?=some x'')(h6:kK sc x''=true)(hs:yR y=true)(hi:aO C sc N it (.e y))(hb:bC C sc N body (.b sts)):bC C sc N (.for3 i j l it body) (.s (.For (.Tuple [.Name x p,.Name x' p2,.Name x'' p4] k p3) y sts [] p')):=by
 constructor;intro cl d X hC hX es eN;subst es;subst eN;have ihb:=hb.h cl d X hC hX rfl rfl;have hset:∀v,Km y X.env v=pure v:=xH hs;refine PS.imp (mI hX.hp hC.calm ((y7 hi X hC rfl rfl).2 _) (mJ hC.calm (xO (xB hX.nd h1 (x9 h2) (.inl (hX.fn _))) (xO (xB hX.nd h3 (x9 h4) (.inl (hX.fn _))) (xO (xB hX.nd h5 (x9 h6) (.inl (hX.fn _))) qe)))) ihb hset) λD σ H q=>?_;exact jO (Fu i j l) q
def bC.«appPop»{C:Ctx}{sc:JP}{N:List Str}{j a x:Nat}{e:Ex}{n:Ns}(h:bC C sc N (.expr (.meth .append (.var j) (.pair (.bin .add (.var a) (.bin .mod (.meth .pop (.var x) (.pair (.lit (.int 0)) .unit)) e)) .unit))) n):bC C sc N (.appPop j a x e) n:=by
 constructor;intro cl d X hC hX es eN;subst es;subst eN;have ih:=h.h cl d X hC hX rfl rfl;have e:aI cl (.appPop j a x e)=aI cl (.expr (.meth .append (.var j) (.pair (.bin .add (.var a) (.bin .mod (.meth .pop (.var x) (.pair (.lit (.int 0)) .unit)) e)) .unit))):=by
  funext env m;rfl
 cases n with
 |s st=>unfold ir at ih ⊢;rw[e];exact ih
 |b sts=>unfold ir at ih ⊢;rw[e];exact ih
def bC.«while»{C:Ctx}{sc:JP}{N:List Str}{c:Ex}{body:Sm}{x:Expr}{sts:List Stmt}{p:Pos}(rc:zB c=false)(ic:jj c=false)(hc:aO C sc N c (.e x))(hb:bC C sc N body (.b sts)):bC C sc N (.while c body) (.s (.While x sts [] p)):=by
 constructor;intro cl d X hC hX es eN;subst es;subst eN;have ihb:=hb.h cl d X hC hX rfl rfl;exact PS.imp (GC hX.hp ((y7 hc X hC rfl rfl).pt rc ic) ihb) λD σ H q=>Hs q
def bC.«ret»{C:Ctx}{sc:JP}{N:List Str}{e:Ex}{x:Expr}{p:Pos}(hr:zB e=false)(he:aO C sc N e (.e x)):bC C sc N (.ret e) (.s (.Return (some x) p)):=by
 constructor;intro cl d X hC hX es eN;subst es;subst eN;exact Ci ((y7 he X hC rfl rfl).pe hr)
def bC.«expr»{C:Ctx}{sc:JP}{N:List Str}{e:Ex}{x:Expr}{p:Pos}(hc:jM x=false)(hr:zB e=false)(he:aO C sc N e (.e x)):bC C sc N (.expr e) (.s (.Expr x p)):=by
 constructor;intro cl d X hC hX es eN;subst es;subst eN;exact DK ((y7 he X hC rfl rfl).pe hr) hc
def bC.«never»{C:Ctx}{sc:JP}{N:List Str}{st:Stmt}:bC C sc N .never (.s st):=by
 constructor;intro cl d X hC hX es eN;subst es;subst eN;exact Fx
end
set_option genInjectivity false in
structure bn where
 nm:Str
 st:Stmt
 N:List Str
 ps:List Str
 fn:Fn
 on:Str
noncomputable def xR(N ps:List Str)(sc:JP):Bool:=
 decide (sc.kind=.function)&&(decide (sc.isCoroutine=false)&&(decide (sc.isGenerator=false)&&(decide N.Nodup&&(decide (N.take ps.length=ps) &&
  (ps.all (λx=>decide (sc.names.lookup x=some .local) || decide (sc.names.lookup x=some .cell))&&sc.names.all (λy=>!(decide (y.2=.free))))))))
def vg (h:xR N ps sc=true):bR N ps sc:=by
 unfold xR at h;simp only[Qj,Wy,LL,QE,Wr,decide_eq_false_iff_not]at h;obtain⟨h1,h2,h3,h4,h5,h6,h7⟩:=h;exact⟨h1,h2,h3,h4,h5,h6,h7⟩
structure lh(C:Ctx)(d:bn):Prop where
 sc:xR d.N d.ps (zo d.st)=true
 ar:d.ps.length=d.fn.ar
 sz:d.N.length=d.fn.sz
 body:bC C (zo d.st) d.N d.fn.body (.b (zR d.st))
section
variable{P:JS}{w:JT}{K:Qb}{mg:Str->Option Value}{base:JU}{C:Ctx}{cl:Nat->List Wd->Me->Rz}
def kL (R:ae K as H ws vs)(hl:ws.length=fn.ar)(hN:N.length=fn.sz):aE K as H (yo fn ws) (L2.start N vs):=by
 have hv:=R.length;refine⟨by simp[yo,L2.start,hN,hv],λi w e=>?_⟩;unfold yo at e;by_cases hi:i<ws.length
 .rw[Qq (by simpa using hi),Qs]at e;cases hx:ws[i]? with
  |none=>rw[hx]at e;cases e
  |some x=>
   rw[hx]at e;cases e;obtain⟨v,h1,h2⟩:=R.get hx;refine⟨v,?_,h2⟩;unfold L2.start;rw[Qq (by simp;lia),Qs,h1];rfl
 .rw[Qn (by simpa using hi),WB]at e;split at e<;>cases e
set_option tactic.hygienic true in
def Fs (F:dQ K d.on d.on d.st f fd)(hd:lh C d)(hfn:∀(i:Nat) (nm:Str),C.fns[i]?=some nm->∃f fd ps,mg nm=some (.ref f)/\QT K (.ref f)=true/\Binds K fd ps []/\bJ P w K mg base cY k f fd ps (jk K (cl i)))(hcon:jJ K w mg C)(hblt:∀nm∈zy,mg nm=none):
  bJ P w K mg base cY (k+1) f fd d.ps (jk K (y4 cl d.fn)):=by
 obtain⟨h1,h2,h3,h4⟩:=hd;have Sc:=vg h1;have c6:∀{as:List Addr}{H:Hp}{Q:VK}{ws:List Wd}{m:Me},aw K as H Q (y4 cl d.fn ws m)->ws.length=d.fn.ar:=λ{as H Q ws m} h=>by
  unfold y4 at h;split at h
  .assumption
  .exact h.elim
 refine F.ok Sc (λvs H Q E h=>?_) (λcdv A outer s H vs Q E hr h=>?_)
 .obtain ⟨as,m,ws,S,R,q⟩:=h;rw[<-R.length,c6 q,h2]
 .obtain ⟨as,m,ws,S,R,q⟩:=h;have ha:=c6 q;have hC:br C (vO cY P w K mg base d.N d.on (zo d.st) f cdv A outer s H E).nox cl k:=⟨hr,rfl,hfn,hcon,hblt⟩;have hX:dP (vO cY P w K mg base d.N d.on (zo d.st) f cdv A outer s H E).nox:=⟨Sc.nd,λ_=>rfl,PassesOwn.never⟩;refine⟨_,mv hC hX h4,as,yo d.fn ws,m,S,kL R ha h3,?_⟩;unfold y4 at q;rw[LF ha]at q;cases hr:aI cl d.fn.body (yo d.fn ws) m with
  |next e m1=>rw[hr]at q;exact λas' H' σ' T S' G=>q as' H' .non T S' (ak.mpr rfl)
  |ret w m1=>rw[hr]at q;exact λas' H' v T S' R'=>q as' H' v T S' R'
  |brk e m1=>rw[hr]at q;exact q.elim
  |cont e m1=>rw[hr]at q;exact q.elim
  |exc c w e m1=>rw[hr]at q;exact q.elim
  |no=>rw[hr]at q;exact q.elim
noncomputable def wR(K:Qb)(mg:Str->Option Value)(d:bn):Prop:=∃f fd,dQ K d.on d.on d.st f fd/\mg d.nm=some (.ref f)
noncomputable def fD(d:bn):Prop:=∀(kV doc pm:Value) (an:Option Addr) (cdv ct:Value) (us:List Value),us.length=d.ps.length->bindArgs (Wa d.on d.on (xC d.st) (zR d.st) (zo d.st) .none kV doc pm an cdv ct) ⟨us,[]⟩=pure (d.ps.zip us)
end
def Fq {K:Qb}{D:List bn}{ns:List Int}(hO:fP H)(hS:bG K H a (ns.map V.int))(h:∃m,zZ (D.map (·.fn)) k i [.rol (ns.map Wd.int)] []=.ok (.bl true) m):
  jk K (zZ (D.map (·.fn)) k i) [.ref a] H (λv _=>v=.bl true) E:=by
 obtain⟨m,h⟩:=h;refine⟨[],[],[.rol (ns.map Wd.int)],⟨rfl,QD,λl a o e=>by simp at e⟩,am.mpr ⟨.ref a,[],rfl,ba.mpr ⟨a,ns.map V.int,rfl,?_,?_⟩,aA.mpr rfl⟩,?_⟩
 .rcases hS with (hS|⟨o,hS⟩)|hS
  .rcases hO a with z|⟨o,xs,z⟩
   .rw[z]at hS;cases hS
   .rw[z]at hS;cases hS
  .exact .inl ⟨o,hS⟩
  .exact .inr hS
 .have all:∀l:List Int,ae K [] H (l.map Wd.int) (l.map V.int):=by
   intro l
   induction l with
   |nil=>exact aA.mpr rfl
   |cons n l ih=>exact am.mpr ⟨_,_,rfl,aa.mpr rfl,ih⟩
  exact all ns
 .rw[h];exact λas' H' v T S R=>ah.mp R
theorem aO.v{C:Ctx}{sc:JP}{N:List Str}{i:Nat}{x:Str}{p:Pos}(h1:N[i]?=some x:=by rfl)(h2:fQ sc x=true:=by kernel_rfl)(h3:zw x=true:=by kernel_rfl):aO C sc N (.var i) (.e (.Name x p)):=.var h1 h2 h3
def mS{P:List Value->Prop}(h:∀a,P [a]):∀us:List Value,us.length=1->P us
 |[a],_=>h a
def mQ {P:List Value->Prop}(h:∀a (us:List Value),us.length=n->P (a::us)):∀us:List Value,us.length=n+1->P us
 |a::us,e=>h a us (Nat.succ.inj e)
def mR{P:List Value->Prop}(h:∀a b,P [a,b]):∀us:List Value,us.length=2->P us:=mQ λa=>mS (P:=λus=>P (a::us)) (h a)
def z9{P:List Value->Prop}(h:∀a b c,P [a,b,c]):∀us:List Value,us.length=3->P us:=mQ λa=>mR (P:=λus=>P (a::us)) (h a)
def HR{P:List Value->Prop}(h:∀a b c d,P [a,b,c,d]):∀us:List Value,us.length=4->P us:=mQ λa=>z9 (P:=λus=>P (a::us)) (h a)
end Mini
namespace L2
open PySem PySem.Spec PyProof.Rows
noncomputable def cr(fs:List Addr)(H':Hp)(h h' B:JU):Prop:=∀b o,h'.get? b=some o->(H' b≠none\/∃o₀,h.get? b=some o₀)->b∉fs->B.get? b=some o
def jP (hf:env.frame=some L):bx (env::l)=L::bx l:=by
 unfold bx;rw[WJ,hf]
def GS (hl:h.FunFrames base l)(hn:∀b∈bx l,H b=none)(u:Un fs [] H H' h h'):∀b∈bx l,H' b=none:=λb hb=>by
 obtain⟨_,o,ho,_⟩:=hl.mem hb;exact u.free b o ho (hn b hb) (by simp)
theorem bc.ob (x:bc P w H h a o):∃u,h.get? a=some u:=by
 cases o with
 |lst xs=>obtain⟨_,_,_,_,e⟩:=x;exact⟨_,e⟩
 |tup xs=>obtain⟨_,_,_,o,e,_⟩:=x;exact⟨_,e⟩
 |dK kvs=>obtain⟨_,_,_,_,o,_,_,e,_⟩:=x;exact⟨_,e⟩
 |dT kvs=>obtain⟨_,_,_,_,o,_,_,e,_⟩:=x;exact⟨_,e⟩
 |set S n=>obtain⟨o,_,_,_,e,_⟩:=x;exact⟨_,e⟩
 |ins C dx fs=>obtain⟨_,_,_,e,_⟩:=x;exact⟨_,e⟩
 |own y=>exact x
 |xd fs=>obtain⟨_,⟨_,_,_,e,_⟩,_⟩:=x;exact⟨_,e⟩
 |rng lo hi=>obtain⟨_,_,_,e⟩:=x;exact⟨_,e⟩
 |frz ob u=>exact⟨_,x.1⟩
 |tbl ps=>exact⟨_,show h.get? a=some _ from x⟩
 |met f y=>exact⟨_,show h.get? a=some _ from x⟩
 |ext φ=>exact x.2.1
section
variable{P:JS}{w:JT}{H':Hp}{h1 h2 B:JU}
def uC (ok:bN P w H' h1)(hfs:∀b∈fs,H' b=none)(hB:cr fs H' h h1 B)(st:B.StaysIn h2):bN P w H' h2:=λa o e=>
 (ok a o e).stay (λb u hb q=>st b u (hB b u q (.inl (by
  rcases hb with rfl|hb
  .rw[e];simp
  .rw[hb];simp)) λhm=>by
   have:=hfs b hm;rcases hb with rfl|hb
   .rw[e]at this;cases this
   .rw[hb]at this;cases this)) (λ_ q=>q) λ_ _ q=>q
def cr.next{fs:List Addr}{h:JU}(ok:bN P w H' h1)(hB:cr fs H' h h1 B)(st:B.StaysIn h2)(th:∀b o,h.get? b=some o->∃o',h1.get? b=some o'):cr fs H' h h2 B:=λb o e hq hn=>by
 have ex:∃o',h1.get? b=some o':=by
  rcases hq with z|⟨o₀,z⟩
  .cases q:H' b with
   |none=>exact LH q z
   |some u=>
    exact(ok b u q).ob
  .exact th b o₀ z
 obtain⟨o',e1⟩:=ex;have e2:=hB b o' e1 hq hn;have e3:=st b o' e2;rw[e]at e3;cases e3;exact e2
end
def DH (hL:h₀.objs.size<=L)(hfo:h₀.FunFrames base outer)(hf0:∀b∈bx outer,H₀ b=none)(u0:Un (bx outer) [] H₀ H h₀ h)(u1:Un (L::bx outer) [] H H' h h1)(hB:cr (L::bx outer) H' h h1 B)(st:B.StaysIn h2)(up:h1.UpToSlots h2):Un (bx outer) [] H₀ H' h₀ h2:=by
 have no:∀b:Addr,b∉([]:List Addr):=λb=>by simp
 have nL:∀{b:Addr}{o:Obj},h₀.get? b=some o->b≠L:=λ{b o} e z=>by
  subst z;exact LH (Qf (Qp e) hL) (QY _)
 have kp:∀b o,h₀.get? b=some o->H₀ b=none->b∉bx outer->h2.get? b=some o:=λb o e n hb=>by
  have e1:=u0.keep b o e n hb (no b);have hb':b∉L::bx outer:=λhm=>(Qt.mp hm).elim (nL e) hb;have e2:=u1.keep b o e1 (u0.free b o e n (no b)) hb' (no b);exact st b o (hB b o e2 (.inr ⟨o,e1⟩) hb')
 have sl:∀b o,h₀.get? b=some o->H₀ b=none->b∈bx outer->∃sl,h2.get? b=some {o with slots:=sl}:=λb o e n hb=>by
  obtain⟨s1,e1⟩:=u0.slot b o e n hb (no b);obtain⟨s2,e2⟩:=u1.slot b _ e1 (u0.free b o e n (no b)) (Qk _ hb) (no b);obtain⟨_,o',ho',hd⟩:=hfo.mem hb;rw[e]at ho';cases ho';obtain⟨s3,e3⟩:=up b _ e2 hd;exact⟨s3,e3⟩
 refine⟨λb o e n hb _=>kp b o e n hb,λb o e n hb _=>sl b o e n hb,λb o e n _=>?_,λb o e _=>?_,λb xs q=>u1.tups b xs (u0.tups b xs q),λb o u q=>u1.frzs b o u (u0.frzs b o u q),λb ps q=>?_⟩
 .obtain ⟨o1,e1⟩:=u0.there b o e (no b);exact u1.free b o1 e1 (u0.free b o e n (no b)) (no b)
 .by_cases hb:b∈bx outer
  .obtain ⟨s1,e1⟩:=sl b o e (hf0 b hb) hb;exact⟨_,e1⟩
  .obtain ⟨o1,e1⟩:=u0.there b o e (no b);obtain⟨o2,e2⟩:=u1.there b o1 e1 (no b);have hb':b∉L::bx outer:=λhm=>(Qt.mp hm).elim (nL e) hb;exact⟨o2,st b o2 (hB b o2 e2 (.inr ⟨o1,e1⟩) hb')⟩
 .obtain ⟨m1,e1⟩:=u0.tbls b ps q;obtain⟨m2,e2⟩:=u1.tbls b _ e1;exact⟨m1++m2,by rw[e2,Array.append_assoc]⟩
section
variable{P:JS}{w:JT}{H:Hp}
def GR (hL:h₀.objs.size<=L)(hLn:H' L=none)(u0:Un fs [] H₀ H h₀ h)(ok:bN P w H' h1)(th:∀b o,h.get? b=some o->∃o',h1.get? b=some o')(hB:cr (L::fs) H' h h1 B)(st:B.StaysIn h2):cr fs H' h₀ h2 B:=λb o e hq hn=>by
 have hb':b∉L::fs:=λhm=>(Qt.mp hm).elim (λz=>by
  subst z;rcases hq with q|⟨o₀,q⟩
  .exact q hLn
  .exact LH (Qf (Qp q) hL) (QY _)) hn
 refine cr.next ok hB st th b o e (hq.imp id λ⟨o₀,q⟩=>?_) hb';exact u0.there b o₀ q (by simp)
end
end L2
namespace L2
open PySem PySem.Spec PySem.Calls PyProof.Rows PySem.W Builtin Builtin.ObjectAttr Builtin.Getset_descriptor
section
variable{prog:JS}{w:JT}{A:J0}{E:Value->Shared->Prop}{K:Qb}{x C:Addr}{ox:Obj}{h:JU}{g:Array J2}{d:J3}{t:Nat}{os:Ll}
def jQ(M:J4)(hx:h.get? x=some ox)(hc:ox.cls=.ref C):Looks M h (typeOf (.ref x)) (.ref C):=hc▸(Looks.ld hx).andThen .now
def DG (X:K.In h)(hx:h.get? x=some ox)(hc:ox.cls=.ref C)(hm:Lm K C (.type "object")=some true)(hq:R (.ok (.ret (.ref C))) ⟨h,g,d,t,os⟩):
  Ky (J6 prog w) A (.call (.builtin "getset_descriptor.__get__") ⟨[.builtin "object.__class__",.ref x,tp],[]⟩) R ⟨h,g,d,t,os⟩:=by
 have L0:=jQ (J6 prog w) hx hc;have L1:=Ln (M:=J6 prog w) X hm;refine Lo KF.slot_gs.plain KF.entry_gs ?_;refine KF.slot_gs.check _ _ _ _ _ _ _ _ KF.type_class (KF.args_gs _ _ _) ?_;unfold Builtin.«getset_descriptor.__get__» descrGet;rw[dga_obj];refine Kf (Kk ?_);unfold descrGetter descrCheckInstance descrNameAndClass Lp;simp only[KF.owner_class]
 repeat lk
 have z1:Code.quiet (.builtin "object.__class__" ⟨[.ref x],[]⟩)=true:=Code.quiet_builtin _ (by decide +kernel);refine⟨z1,?_⟩;refine codeAny_builtin KF.entry_class ?_;unfold Builtin.«object.__class__» shownTypeOf
 repeat lk
 exact hq
def GQ (X:K.In h)(hx:h.get? x=some ox)(hc:ox.cls=.ref C)(hcl:Lq K (.ref C) "__class__"=some (some (.builtin "object.__class__")))(hm:Lm K C (.type "object")=some true)(hq:Q (.done (.ret (.ref C))) ⟨h,g,d,t,os⟩):J5 (J6 prog w) A (Builtin.«object.__getattribute__» ⟨[.ref x,.str "__class__" tk],[]⟩) Q E ⟨h,g,d,t,os⟩:=by
 have L0:=jQ (J6 prog w) hx hc;have L1:=Lr (M:=J6 prog w) X hcl;have hT5:(⟨h,g,d,t,os⟩:Shared).TypeIs (.builtin "object.__class__") "getset_descriptor":=F.typeOf_object_class;have f5:=F.typeOf_object_class;have f6:=F.slot_gs_get.lookup;have f7:=F.slot_gs_set.lookup;unfold Builtin.«object.__getattribute__»
 repeat (any_goals (first|assumption|(with_reducible refine Ls hx ?_;rw[hc])|with_reducible refine Looks.at (by assumption) ?_|wp_step))
 refine DG X hx hc hm ?_
 repeat (any_goals (first|assumption|wp_step))
def gJ (X:K.In h)(hx:h.get? x=some ox)(hc:ox.cls=.ref C)(hb:Lm K C (.type "BaseException")=some true)(hq:Q () ⟨h,g,d,t,os⟩):
  J5 (J6 prog w) A (checkBuiltinCall "BaseException.__getattribute__" ⟨[.ref x,nameV],[]⟩) Q E ⟨h,g,d,t,os⟩:=by
 have L0:=jQ (J6 prog w) hx hc;have L1:=Ln (M:=J6 prog w) X hb;have z1:builtinKind "BaseException.__getattribute__"=some .slot:=by decide +kernel
 have z2:splitId "BaseException.__getattribute__"=some ("BaseException","__getattribute__"):=by decide +kernel
 have z3:=F.args_bexc_ga (.ref x) nameV;simp only[checkBuiltinCall,z1,z2];refine Kf ?_;unfold Lp
 repeat (first|with_reducible refine Looks.at (by assumption) ?_|wp_step)
 exact hq
def Fp (X:K.In h)(hx:h.get? x=some ox)(hc:ox.cls=.ref C)(hb:Lm K C (.type "BaseException")=some true)(hcl:Lq K (.ref C) "__class__"=some (some (.builtin "object.__class__")))(hm:Lm K C (.type "object")=some true)(hq:R (.ok (.ret (.ref C))) ⟨h,g,d,t,os⟩):Ky (J6 prog w) A (.call (.builtin "BaseException.__getattribute__") ⟨[.ref x,.str "__class__" tk],[]⟩) R ⟨h,g,d,t,os⟩ :=
 Lo F.attr_ValueError.ga.plain F.entry_bexc_ga (gJ X hx hc hb (GQ X hx hc hcl hm hq))
def DF (X:K.In s.heap)(hx:s.heap.get? x=some ox)(hc:ox.cls=.ref C)(hga:Lq K (.ref C) "__getattribute__"=some (some (.builtin "BaseException.__getattribute__")))(hgt:Lq K (.ref C) "__getattr__"=some none)(hb:Lm K C (.type "BaseException")=some true)(hcl:Lq K (.ref C) "__class__"=some (some (.builtin "object.__class__")))(hm:Lm K C (.type "object")=some true)(hq:Q (some (.ref C)) {s with toks:=s.toks+1}):J5 (J6 prog w) A (getAttr? (.ref x) "__class__") Q E s:=by
 obtain⟨h,g,d,t,os⟩:=s;have L0:=jQ (J6 prog w) hx hc;have L1:=Lr (M:=J6 prog w) X hga;have L2:=Lr (M:=J6 prog w) X hgt;have f3:=F.attr_ValueError.ga.bind (.ref x);have y2:(Value.builtin "BaseException.__getattribute__" == Value.builtin "object.__getattribute__")=false:=by decide +kernel
 have y1:(Lu (Value.ref C)&&Value.builtin "BaseException.__getattribute__" == Value.builtin "object.__getattribute__")=false:=by rw[y2];rfl
 unfold getAttr? getAttrBy? getAttrBy;refine Kf (wpAny_mkText (Kf (wpAny_attempt (Kg (Kf (L0.at (Kf (L1.at ?_))))))));dsimp only;rw[LG (by rw[y1];decide)];unfold getAttrByItsOwn hookBefore Lw
 repeat (any_goals (first|assumption|with_reducible refine Looks.at (by assumption) ?_|wp_step))
 refine Fp (h:=h) X hx hc hb hcl hm ?_
 repeat (any_goals (first|assumption|wp_step))
end
end L2
namespace L2
open PySem PySem.Spec PySem.Calls PyProof.Rows PySem.W
structure c9(K:Qb)(C:Addr):Prop where
 ga:Lq K (.ref C) "__getattribute__"=some (some (.builtin "BaseException.__getattribute__"))
 gt:Lq K (.ref C) "__getattr__"=some none
 be:Lm K C (.type "BaseException")=some true
 cl:Lq K (.ref C) "__class__"=some (some (.builtin "object.__class__"))
 mo:Lm K C (.type "object")=some true
set_option tactic.hygienic true in
def sD {K:Qb}(h:(clsIn K C).isSome=true):∃c d cd sl,K.lookup C=some ⟨c,d,.cls cd,sl⟩:=by
 unfold clsIn at h;split at h
 .rename_i c d cd sl ho;exact⟨c,d,cd,sl,ho⟩
 .cases h
def c9.ci {K:Qb}(Z:c9 K C):(clsIn K C).isSome=true:=by
 obtain⟨cd,a,_⟩:=QF.mp Z.be;rw[a];rfl
def uB {K:Qb}(Z:c9 K C)(hc:ox.cls=.ref C):KitX K (.ref x) (.ref C) (λh=>h.get? x=some ox) where
 ty:=λM h _ p=>jQ M p hc
 it:=λM h X _=>by
  obtain⟨c,d,cd,sl,ho⟩:=sD Z.ci;intro A' Q' E' s' k q;unfold isType loadHead;refine Kf (wpAny_loadPart (k _ _ (X _ _ ho)) ?_);exact Kk q
 ne:=λh tp dd its n sl X htp=>by
  obtain⟨c,d,cd,sl',ho⟩:=sD Z.ci;refine Bool.eq_false_iff.mpr λq=>?_;cases Value.ref.inj (beq_iff_eq.mp q);have z:=(X _ _ ho).symm.trans htp;cases z
 ca:=λX p k=>DF X p hc Z.ga Z.gt Z.be Z.cl Z.mo k
noncomputable def nH(K:Qb)(x C:Addr):List V->Hp->VK->Prop:=λvs H Q=>
 (∃c u b,vs=[.ref x,c]/\RelV c u/\(∀u',RelV c u'->u'=u)/\kitOne K (.ref C) u=some b/\Q (.bl b) H) \/
 (∃tp ts b,vs=[.ref x,.ref tp]/\H tp=some (.tup ts)/\(∀us,az ts us->kitAny K (.ref C) us=some b)/\Q (.bl b) H)
def sC (r:az [v,w] us):∃a b,us=[a,b]/\RelV v a/\RelV w b:=by
 cases r with
 |cons p q=>
  cases q with
  |cons p' q'=>
   cases q' with
   |nil=>exact⟨_,_,rfl,p,p'⟩
def DE (hl:h.FunFrames base l)(hn:∀b∈bx l,H b=none)(u:Un (bx l) [] H H' h h1)(hB:cr (bx l) H' h h1 B)(st:B.StaysIn h2)(up:h1.UpToSlots h2):Un (bx l) [] H H' h h2:=by
 have no:∀b:Addr,b∉([]:List Addr):=λb=>by simp
 have sl:∀b o,h.get? b=some o->b∈bx l->∃sl,h2.get? b=some {o with slots:=sl}:=λb o e hb=>by
  obtain⟨s1,e1⟩:=u.slot b o e (hn b hb) hb (no b);obtain⟨_,o',ho',hd⟩:=hl.mem hb;rw[e]at ho';cases ho';obtain⟨s2,e2⟩:=up b _ e1 hd;exact⟨s2,e2⟩
 refine⟨λb o e n hb _=>?_,λb o e n hb _=>sl b o e hb,u.free,λb o e _=>?_,u.tups,u.frzs,u.tbls⟩
 .have e1:=u.keep b o e n hb (no b);exact st b o (hB b o e1 (.inr ⟨o,e⟩) hb)
 .by_cases hb:b∈bx l
  .obtain ⟨s1,e1⟩:=sl b o e hb;exact⟨_,e1⟩
  .obtain ⟨o1,e1⟩:=u.there b o e (no b);exact⟨o1,st b o1 (hB b o1 e1 (.inr ⟨o,e⟩) hb)⟩
section
variable{M:J4}{A:J0}{E:Value->Shared->Prop}{bs bs' bm bm':List Value}{nm nm' q q':Str}{C G N N':Addr}{hdct hdct':Bool}{sn sn':List Str}{sub sub':List Value}{ab ab':Bool}{col col':Option Bool}{dd dd':Option Addr}{k0 k1 k2 k3 k5 j0 j1 j2 j3 j5:Option Value}{newId newId':String}
def Fo {os:Ll}(hC:h.get? C=some (Lx nm q C N bs bm hdct sn sub ab col dd k0 k1 k2 k3 k5 newId))(hG:h.get? G=some (Lx nm' q' G N' bs' bm' hdct' sn' sub' ab' col' dd' j0 j1 j2 j3 j5 newId'))(he:h.get? e=some oe)(hcls:oe.cls=.ref C)(y1:(Value.ref G::bm').contains (.type "BaseException")=true)(y2:(Value.ref C::bm).contains (.ref G)=true)(hq:Q true ⟨h,g,d,t,os⟩):J5 M A (excMatches (.ref e) (.ref G)) Q E ⟨h,g,d,t,os⟩:=by
 have f:=tc_notTuple;unfold excMatches
 repeat (first|(with_reducible refine Ls he ?_;rw[hcls])|with_reducible refine Ls hG ?_|(with_reducible refine Ly hG ?_;rw[y1])|(with_reducible refine Ly hC ?_;rw[y2])|wp_step)
 exact hq
end
section
variable{X:Cx}{pins:List (Addr×Obj)}{σ:St}{H:Hp}{s:Shared}
def Inv.lost{h':JU}{m':Str->Option Value}{t':Nat}(I:Inv X pins σ H s)(hn:h'.Ns X.env.locals m')(hs:WX X.env.locals s.heap h'):Inv X pins (Qu X.N.length none) H {s with heap:=h',toks:=t' }:=by
 have lo:∀{b:Addr}{o:Obj},X.s₀.heap.get? b=some o->b≠X.env.locals:=λ{b o} e z=>by
  subst z;exact LH (Qf (Qp e) I.ok.above) (QY _)
 refine⟨I.ok,I.os,I.bare,⟨λb o e n hb hx=>?_,λb o e n hb hx=>?_,I.base.free,λb o e hx=>?_,I.base.tups,I.base.frzs,I.base.tbls⟩,⟨m',hn,λj y v e1 e2 _=>?_⟩,λy c e=>?_,I.free,I.freeC,λp hp=>?_,λb ob e=>?_,by simp⟩
 .rw[hs.2 b (lo e)];exact I.base.keep b o e n hb hx
 .obtain ⟨sl,e1⟩:=I.base.slot b o e n hb hx;exact⟨sl,by rw[hs.2 b (lo e)];exact e1⟩
 .obtain ⟨o',e1⟩:=I.base.there b o e hx;exact⟨o',by rw[hs.2 b (lo e)];exact e1⟩
 .rw[WB]at e2;split at e2<;>cases e2
 .obtain ⟨w',z⟩:=I.cell y c e;exact⟨w',z.sameBut hs (I.cne y c e)⟩
 .obtain ⟨e,n,ne,nf,d⟩:=I.pin p hp;exact⟨by rw[hs.2 p.1 ne];exact e,n,ne,nf,d⟩
 .have hL:=I.free;refine(I.hok b ob e).stay (λc w' hc q=>?_) (λ_ q=>q) λ_ _ q=>q;rw[hs.2 c (λz=>by
   subst z;rcases hc with z|z
   .rw[<-z,hL]at e;cases e
   .rw[hL]at z;cases z)]
  exact q
end
noncomputable def vT(h:JU)(C:Addr)(v:Value):Prop:=∃nm q N bs bm hdct sn sub ab col dd k0 k1 k2 k3 k5 newId,h.get? C=some (Lx nm q C N bs bm hdct sn sub ab col dd k0 k1 k2 k3 k5 newId)/\(Value.ref C::bm).contains v=true
noncomputable def nh:List Addr->TA
 |[]=>pJ
 |a::r=>rW (tC (.ref a)) (nh r)
def Cg (h:Q (as.map V.ref) H):nh as σ H Q:=by
 induction as generalizing Q with
 |nil=>exact h
 |cons a r ih=>exact ih (Q:=λxs H2=>Q (.ref a::xs) H2) h
theorem uv:∀{as:List Addr}{us:List Value},az (as.map V.ref) us->us=as.map Value.ref
 |[],_,.nil=>rfl
 |a::r,_,.cons p q=>by
  obtain rfl:_=Value.ref a:=p;rw[uv q];rfl
inductive cI(env:Env)(mg:Str->Option Value):List Expr->List Addr->Prop
 |nil:cI env mg [] []
 |cons {x:Str}{p:Pos}{es:List Expr}{a:Addr}{as:List Addr}(hg:env.kindOf x=some .globalImplicit) (hm:mg x=some (.ref a)) (hd:(x==("__debug__":Str))=false) (h:cI env mg es as):cI env mg (.Name x p::es) (a::as)
def Cf (h:cI X.env X.mg es as):PA X es (nh as):=by
 induction h with
 |nil=>exact x8
 |cons hg hm hd _ ih=>exact yu (qc (v:=.ref _) hg hm rfl hd) ih rfl
end L2
namespace L2
open PySem PySem.Spec PySem.Calls PyProof.Rows
end L2
namespace Mini
open PySem PySem.Spec PyProof.Rows L2
set_option genInjectivity false in
structure Xc where
 g:Str
 rs:List Str
 os:List Str
theorem br.wish{C:Ctx}{X:Cx}{cl:Nat->List Wd->Me->Rz}{d:Nat}(h:br C X cl d)(E:Value->Shared->Prop):br C (X.wish E) cl d:=⟨h.room,h.calm,h.fn,h.con,h.blt⟩
def vx (h:zw x=true):(x==("__debug__":Str))=false/\(x==("__classdict__":Str))=false:=by
 unfold zw at h;simp only[Qj,Wr]at h;exact⟨h.1.1,h.1.2⟩
section
variable{C:Ctx}{Q:Xc}{xn:List (Nat×Str)}{X:Cx}
def sB {st:Stmt}(h:PS X.nox st t):PS X st t:=λpins s σ H D I hw=>
 J9 (h pins s σ H D (I.wish _) hw) (λ_ _ q=>q.unwish) λ_ _ z=>False.elim z
end
section
variable{K:Qb}{cl:Nat->List Wd->Me->Rz}
def c6 (h:aw K as H R (y4 cl fn ws m)):ws.length=fn.ar:=by
 unfold y4 at h;split at h
 .assumption
 .exact h.elim
end
end Mini
namespace L2
open PySem PySem.Spec PySem.Calls PyProof.Rows PySem.W
set_option tactic.hygienic true in
def Inv.gone{X:Cx}{pins:List (Addr×Obj)}{σ:St}{H:Hp}{s:Shared}{h':JU}{m:Str->Option Value}{v:Option Value}{t' i:Nat}{n:Str}(I:Inv X pins σ H s)(hN:X.N.Nodup)(hi:X.N[i]?=some n)
  (hl:∀(i:Nat) (x:Str) (v:V),X.N[i]?=some x->σ[i]?=some (some v)->fB X.env.scope x->∃u,RelV v u/\rl X.env s.heap m x u) (hn:h'.Ns X.env.locals (λx=>if x=n then v else m x)) (hs:WX X.env.locals s.heap h'):Inv X pins (σ.set i none) H {s with heap:=h',toks:=t' }:=by
 have lo:∀{b:Addr}{o:Obj},X.s₀.heap.get? b=some o->b≠X.env.locals:=λ{b o} e z=>by
  subst z;exact LH (Qf (Qp e) I.ok.above) (QY _)
 refine⟨I.ok,I.os,I.bare,⟨λb o e n hb hx=>?_,λb o e n hb hx=>?_,I.base.free,λb o e hx=>?_,I.base.tups,I.base.frzs,I.base.tbls⟩,⟨_,hn,λj y w e1 e2 e3=>?_⟩,λy c e=>?_,I.free,I.freeC,λp hp=>?_,λb ob e=>?_,by rw[Wo];exact I.len⟩
 .rw[hs.2 b (lo e)];exact I.base.keep b o e n hb hx
 .obtain ⟨sl,e1⟩:=I.base.slot b o e n hb hx;exact⟨sl,by rw[hs.2 b (lo e)];exact e1⟩
 .obtain ⟨o',e1⟩:=I.base.there b o e hx;exact⟨o',by rw[hs.2 b (lo e)];exact e1⟩
 .have hj:j≠i:=by
   rintro rfl;rw[Qx]at e2;split at e2
   .split at e2<;>cases e2
   .rename_i z;exact z rfl
  rw[Qe (Ne.symm hj)]at e2;obtain⟨u,r,q⟩:=hl j y w e1 e2 e3;refine⟨u,r,?_⟩;rcases q with⟨k,e⟩|⟨k,c,e,z⟩
  .refine .inl ⟨k,?_⟩;have:y≠n:=λe=>hj (ju hN e1 (e▸hi));show(if y=n then v else m y)=some u;rw[LG this];exact e
  .exact .inr ⟨k,c,e,z.sameBut hs (I.cne y c e)⟩
 .obtain ⟨w',z⟩:=I.cell y c e;exact⟨w',z.sameBut hs (I.cne y c e)⟩
 .obtain ⟨e,n,ne,nf,d⟩:=I.pin p hp;exact⟨by rw[hs.2 p.1 ne];exact e,n,ne,nf,d⟩
 .have hL:=I.free;refine(I.hok b ob e).stay (λc w' hc q=>?_) (λ_ q=>q) λ_ _ q=>q;rw[hs.2 c (λz=>by
   subst z;rcases hc with z|z
   .rw[<-z,hL]at e;cases e
   .rw[hL]at z;cases z)]
  exact q
noncomputable def dR(oe:Obj):HO:=.frz oe (.ext λ_=>True)
def Inv.track{X:Cx}{pins:List (Addr×Obj)}{σ:St}{H:Hp}{s:Shared}{e:Addr}{oe:Obj}(I:Inv X pins σ H s)(he:s.heap.get? e=some oe)(hn:H e=none)(h0:X.s₀.heap.get? e=none)(hl:e≠X.env.locals)
  (hc:∀x c,X.env.cells.lookup x=some c->c≠e) (hp:∀p∈X.pn++pins,p.1≠e):Inv X pins σ (aK H e (dR oe)) s:=by
 have up:∀{b:Addr}{o:HO},H b=some o->aK H e (dR oe) b=some o:=λ{b o} z=>by
  rw[zf (zp z hn)];exact z
 refine⟨I.ok,I.os,I.bare,⟨I.base.keep,I.base.slot,λb o e1 e2 e3=>?_,I.base.there,λb xs z=>up (I.base.tups b xs z),λb o u z=>up (I.base.frzs b o u z),λb ps z=>?_⟩,I.loc,I.cell,?_,λx c z=>?_,λp z=>?_,λa o z=>?_,I.len⟩
 .rw[zf (λz=>by rw[z,h0]at e1;cases e1)];exact I.base.free b o e1 e2 e3
 .obtain ⟨more,q⟩:=I.base.tbls b ps z;exact⟨more,up q⟩
 .rw[zf (Ne.symm hl)];exact I.free
 .rw[zf (hc x c z)];exact I.freeC x c z
 .obtain ⟨a1,a2,a3⟩:=I.pin p z;exact⟨a1,by rw[zf (hp p z)];exact a2,a3⟩
 .by_cases q:a=e
  .subst q;rw[zh]at z;cases z;exact⟨he,trivial,⟨oe,he⟩,λ_ _ _ _=>trivial⟩
  .rw[zf q]at z;exact(I.hok a o z).stay (λ_ _ _ q=>q) (λ_ q=>up q) λ_ _ q=>up q
abbrev Cx.heldT(X:Cx)(e:Addr)(E:Value->Shared->Prop):Cx:={X with A:=X.A.mark (some (.ref e)),calm:=false,xe:=E}
section
variable{X:Cx}{pins:List (Addr×Obj)}{σ:St}{H:Hp}{s:Shared}{e:Addr}{E:Value->Shared->Prop}
theorem Inv.heldT(I:Inv X pins σ H s):Inv (X.heldT e E) pins σ H s:=
 ⟨⟨I.ok.mod,I.ok.kind,I.ok.glob,I.ok.blt,I.ok.above,I.ok.inj,I.ok.has,I.ok.cab,(λz=>by cases z),I.ok.frames,I.ok.stk,I.ok.exf,I.ok.bs,I.ok.bsz,I.ok.noex,I.ok.exfs,I.ok.funs,I.ok.frf⟩,I.os,I.bare,I.base,I.loc,I.cell,I.free,I.freeC,I.pin,I.hok,I.len⟩
def pr(ok:X.Ok)(I:Inv (X.heldT e E) pins σ H s):Inv X pins σ H s:=
 ⟨ok,I.os,I.bare,I.base,I.loc,I.cell,I.free,I.freeC,I.pin,I.hok,I.len⟩
end
def Fm (Z:c9 X.K C)(hc:ox.cls=.ref C):aS X (.builtin "isinstance") (λvs H Q=>H x=some (dR ox)/\nH X.K x C vs H Q):=by
 intro pins s σ H xs us Q I r ⟨hH,h⟩;have hx:s.heap.get? x=some ox:=(I.hok x _ hH).1;rcases h with⟨c,u,b,rfl,ru,uq,k,q⟩|⟨tp,ts,b,rfl,ht,k,q⟩
 .obtain ⟨a,a',rfl,ra,ra'⟩:=sC r;obtain rfl:a=.ref x:=ra;obtain rfl:=uq a' ra';exact kia_one (uB Z hc) I.kIn hx k (λz=>nomatch z) λtk=>⟨.bl b,H,I.tok tk,rfl,q⟩
 .obtain ⟨a,a',rfl,ra,ra'⟩:=sC r;obtain rfl:a=.ref x:=ra;obtain rfl:a'=.ref tp:=ra';obtain⟨z,its,rv,⟨oc,od,dat,sl⟩,ho,h1,n,hd⟩:=I.hok tp _ ht;obtain rfl:oc=.type "tuple":=h1;obtain rfl:dat=.seq its.toArray n:=hd;exact kia_tup (uB Z hc) I.kIn hx ho (k its rv) (λz=>nomatch z) λtk=>⟨.bl b,H,I.tok tk,rfl,q⟩
end L2
namespace Mini
open PySem PySem.Spec PyProof.Rows L2
def qp {K:Qb}(S:aQ K as m H)(hp:H p=none)(o:HO):Step as H as (aK H p o)/\aQ K as m (aK H p o):=by
 have T:Step as H as (aK H p o):=⟨⟨[],by simp⟩,λb o' h _=>by rw[zf (zp h hp)];exact h,λb hb=>.inl hb⟩;refine⟨T,S.keep T λb _ o' e=>?_⟩;rw[zf (zp e hp)];exact e
end Mini
namespace L2
open PySem PySem.Spec PySem.Calls PyProof.Rows PySem.W Builtin Builtin.ObjectAttr
section
variable{prog:JS}{w:JT}{A:J0}{E:Value->Shared->Prop}{K:Qb}{x C:Addr}{ox:Obj}{s:Shared}{name:Str}{v:Value}
def GP (X:K.In s.heap)(hx:s.heap.get? x=some ox)(hc:ox.cls=.ref C)(hnc:Lz ox=true)(hdn:ox.dict=none)(hcd:clsIn K C=some cd)(hdd:cd.hasDict=true)(hpass:∀self,refuseLoop self "__setattr__" cd.mro=pure ())(hs:Lq K (.ref C) "__setattr__"=some (some (.builtin "object.__setattr__")))(hm:Lm K C (.type "object")=some true)(hn:Lq K (.ref C) name=some none)(h:∀h' tk' D,s.heap.get? D=none->h'.get? x=some {ox with dict:=some D}->h'.Ns1 D (λy=>if y=name then some v else none)->(∀b o,b≠x->s.heap.get? b=some o->h'.get? b=some o)->Q () {s with heap:=h',toks:=tk' }):
  J5 (J6 prog w) A (setAttr (.ref x) name v) Q E s:=by
 obtain⟨h₀,g,d,t,os⟩:=s;dsimp only at hx X h ⊢;have SF:=PySem.F.store_object;have I:InstAt h₀ x ox C none:=⟨hx,hc,hnc,by rw[hdn];trivial⟩;refine set_plain X I hs ?_;have L0:=I.type (M:=J6 prog w);have sub:Looks (J6 prog w) h₀ (Lp (.ref x) (.type "object")) true:=L0.andThen (Ln X hm);refine Lo SF.slot.plain SF.entry (@check_slot (J6 prog w) _ _ ⟨h₀,g,d,t+1,os⟩ "object.__setattr__" "object" "__setattr__" (.ref x) [.str name t,v] [] _ SF.kind SF.split sub (SF.args (.ref x) (.str name t) v) ?_);have L1:Looks (J6 prog w) h₀ (mroOf (.ref C)) cd.mro:=(looks_clsIn X hcd).andThen .now;have L2:=Lr (M:=J6 prog w) X hn;have L3:=looks_clsIn (M:=J6 prog w) X hcd;rw[osa_eq,refuse_eq];refine Kf (Kf (L0.at (Kf (L1.at ?_))));rw[hpass];refine Kk (Kf (L0.at (Kf (L2.at (Kf (Kk (a:=(none:Option Value)) ?_))))));obtain⟨oc,od,odt,osl⟩:=ox;dsimp only at hc hdn;subst hc hdn;have hxs:x≠h₀.objs.size:=QS (Qp hx);have hx₁:(h₀.push {cls:=.type "dict",data:=.dict #[]}).get? x=some ⟨.ref C,none,odt,osl⟩:=Qi _ hx;refine Kf (Kk (Kf (Kf (wpAny_loadPart hx (Kf (L3.at ?_))))));rw[hdd];have hcls:∀c,odt≠.cls c:=λc z=>by subst z;cases hnc
 have step:∀{Q':Option Addr->Shared->Prop},Q' (some h₀.objs.size) ⟨(h₀.push {cls:=.type "dict",data:=.dict #[]}).update x λo=>{o with dict:=some h₀.objs.size},g,d,t+1,os⟩ ->
   J5 (J6 prog w) A.in1 (do
    let d <-alloc {cls:=.type "dict",data:=.dict #[]}
    update x λo=>{o with dict:=some d}
    dictMade (.ref C) x d) Q' (λe s'=>E e s') ⟨h₀,g,d,t+1,os⟩:=λ{Q'} hq=>
  Kf (wpAny_alloc' (Kf (wpAny_update' hx₁ (Kk hq))))
 have hgx:((h₀.push {cls:=.type "dict",data:=.dict #[]}).update x λo=>{o with dict:=some h₀.objs.size}).get? x=some ⟨.ref C,some h₀.objs.size,odt,osl⟩:=by
  refine WD _ hx₁ ?_;have hfr:=(Heap.get?_some_iff.mp hx).2;cases odt<;>first|rfl|exact hfr
 have hgd:((h₀.push {cls:=.type "dict",data:=.dict #[]}).update x λo=>{o with dict:=some h₀.objs.size}).get? h₀.objs.size=some {cls:=.type "dict",data:=.dict #[]} :=
  (Heap.get?_update_ne _ _ _ _ hxs.symm).trans (Heap.get?_push_at rfl rfl)
 have hnd:((h₀.push {cls:=.type "dict",data:=.dict #[]}).update x λo=>{o with dict:=some h₀.objs.size}).Ns h₀.objs.size (λ_=>none):=
  ⟨_,#[],_,hgd,rfl,λe he=>LH he (by simp),λ_=>rfl⟩
 have fin:∀{Q':Fin->Shared->Prop},(∀h' tk' D,h₀.get? D=none->h'.get? x=some ⟨.ref C,some D,odt,osl⟩->h'.Ns1 D (λy=>if y=name then some v else none)->(∀b o,b≠x->h₀.get? b=some o->h'.get? b=some o)->Q' (.done (.ret .none)) ⟨h',g,d,tk',os⟩) ->
   J5 (J6 prog w) A.in1 (storeInDict h₀.objs.size (.str name t) name v) Q' (λe s'=>E e s') ⟨(h₀.push {cls:=.type "dict",data:=.dict #[]}).update x λo=>{o with dict:=some h₀.objs.size},g,d,t+1,os⟩:=λ{Q'} hq=>by
  unfold storeInDict newKeyGuard;refine Kf (Kk (Kf (wpAny_nsSet1 (Heap.Ns1.of_empty hnd) λh' hn' hs=>?_)));obtain⟨oD,esD,epD,hoD,hdD,hcD⟩:=hn'.count (Within.cons name v Within.nil);refine Kf (wpAny_lookBehind hoD (by rw[hdD];exact pastItsLine_dict (Qo hcD (by rw[Wh,Vp,Ks];lia))) ?_);refine Kk ?_;refine hq h' _ h₀.objs.size (WF (Ql _)) ((hs.2 x hxs).trans hgx) hn' λb o hbx hb=>?_;exact(hs.2 b (QS (Qp hb))).trans ((Heap.get?_update_ne _ _ _ _ hbx).trans (Qi _ hb))
 rw[LG (by decide)];dsimp only;rw[LG (by simp[typeHasDict])];split
 .exact LH rfl (hcls _)
 .exact step (fin λh' tk' D a1 a2 a3 a4=>h h' tk' D a1 a2 a3 a4)
end
end L2
namespace L2
open PySem PySem.Spec PySem.Calls PyProof.Rows PySem.W
section
variable{prog:JS}{w:JT}{A:J0}{E:Value->Shared->Prop}{K:Qb}{h:JU}{g:Array J2}{d:J3}{t:Nat}{os:Ll}
variable{nm q:Str}{C N fI:Addr}{bs bm bmB:List Value}{hdct:Bool}{sn:List Str}{sub:List Value}{ab:Bool}{col:Option Bool}{dd:Option Addr}{k0 k1 k2 k3 k5:Option Value}{B newId initId:String}
def Fk (F:LA B newId initId bmB)(T:OwnTail h bmB bm)(X:K.In h)(hC:h.get? C=some (Lx nm q C N bs bm hdct sn sub ab col dd k0 k1 k2 k3 k5 newId))(hi:Lq K (.ref C) "__init__"=some (some (.ref fI)))(hf:typeIn K (.ref fI)=some (.type "function"))(hq:∀h' e,W6 h h' e (.ref C) rest->h.objs.size<=h'.objs.size->J5 (J6 prog w) A (call (.ref fI) (.ref e::rest)) (λr s'=>r=.none/\Q (.done (.ret (.ref e))) s') E ⟨h',g,d,t,os⟩)(hrest:rest.length<=sizeLine):
  J5 (J6 prog w) A (Builtin.«type.__call__» ⟨.ref C::rest,[]⟩) Q E ⟨h,g,d,t,os⟩:=by
 repeat (first|with_reducible refine Ls hC ?_|with_reducible refine wpAny_madeBy_exc hC ?_|wp_step)
 refine codeAny_call_builtin_code (Code.quiet_builtin _ F.quiet) (wpAny_check_new_subT F T hC ?_);refine codeAny_exc_new_subT F T hC ?_ hrest;show J5 _ _ _ _ _ _;have kp:∀b o,h.get? b=some o->((h.push {cls:=.type "tuple",data:=.seq rest.toArray}).push {cls:=.ref C,data:=.fields #[.ref h.objs.size,.none,.none,.none,.bool false,.none]}).get? b=some o:=λb o e=>Qi _ (Qi _ e);have X₁:=X.keeps kp;have hC₁:=kp _ _ hC;have hget:((h.push {cls:=.type "tuple",data:=.seq rest.toArray}).push {cls:=.ref C,data:=.fields #[.ref h.objs.size,.none,.none,.none,.bool false,.none]}).get? (h.objs.size+1)=some {cls:=.ref C,data:=.fields #[.ref h.objs.size,.none,.none,.none,.bool false,.none]}:=by heap_get
 have hcC:(Value.ref C::bm).contains (.ref C)=true:=by simp
 have mk:W6 h _ (h.objs.size+1) (.ref C) rest:=⟨kp,WF (WT _),h.objs.size,hget,WF (Ql _),Qi _ (Heap.get?_push_at rfl rfl)⟩;unfold Lp
 repeat (first|with_reducible refine Ls hget ?_|(with_reducible refine Ly hC₁ ?_;rw[hcC])|wp_step)
 show J5 _ _ (typeLookup (.ref C) _) _ _ _;refine(Lr X₁ hi).at (Kg (Kf ((bind_fn X₁ _ hf).at ?_)));refine Kf (J9 (hq _ _ mk (by rw[WM,WM];lia)) (λr s' hr=>?_) λ_ _ x=>x);obtain⟨rfl,hQ⟩:=hr
 wp_walk
 exact hQ
end
section
variable{prog:JS}{w:JT}{A:J0}{E:Value->Shared->Prop}{K:Qb}{h:JU}{g:Array J2}{d:J3}{t:Nat}{os:Ll}
variable{nm q:Str}{C N fI:Addr}{bs bm bmB:List Value}{hdct:Bool}{sn:List Str}{sub:List Value}{ab:Bool}{col:Option Bool}{dd:Option Addr}{k0 k1 k2 k3 k5:Option Value}{B newId initId:String}
def Fj (F:LA B newId initId bmB)(T:OwnTail h bmB bm)(X:K.In h)(hC:h.get? C=some (Lx nm q C N bs bm hdct sn sub ab col dd k0 k1 k2 k3 k5 newId))(hi:Lq K (.ref C) "__init__"=some (some (.ref fI)))(hf:typeIn K (.ref fI)=some (.type "function"))(hq:∀h' e,W6 h h' e (.ref C) rest->h.objs.size<=h'.objs.size->J5 (J6 prog w) (A.under (.builtin "type.__call__" ⟨.ref C::rest,[]⟩)) (call (.ref fI) (.ref e::rest)) (λr s'=>r=.none/\Q (.ref e) s') E ⟨h',g,d,t,os⟩)(hrest:rest.length<=sizeLine):
  J5 (J6 prog w) A (call (.ref C) rest) Q E ⟨h,g,d,t,os⟩:=by
 have f1:=tc_lookup;have f2:=tc_bind (.ref C);have hT:(⟨h,g,d,t,os⟩:Shared).TypeIs (.ref C) "type":=⟨_,hC,rfl⟩;refine Kz (codeAny_of_tree ?_);show J5 _ _ (callAny (.ref C) _) _ _ _
 repeat (any_goals (first|assumption|with_reducible refine Ls hC ?_|wp_step))
 exact⟨rfl,codeAny_call_builtin_at (Code.quiet_builtin _ (by decide +kernel)) entry_typeCall (wpAny_check_type_call_sub hC (Fk F T X hC hi hf hq hrest))⟩
def GO (hbase:bm.contains (.type "BaseException")=true)(hh:A.handled=none)(h:J5 M A x (λv s₁=>∃e oe t,v=.ref e/\s₁.heap.get? C=some (Lx nm q C N bs bm hdct sn sub ab col dd k0 k1 k2 k3 k5 newId) /\
   s₁.heap.get? e=some oe/\oe.cls=.ref C/\oe.data=.fields #[.ref t,.none,.none,.none,.bool false,.none]/\E (.ref e) s₁) E s):
  J5 M A (raiseStmt env (some x) none) Q E s:=by
 have hcB:(Value.ref C::bm).contains (.type "BaseException")=true:=by rw[List.contains_cons,hbase,Bool.or_true]
 unfold raiseStmt;refine Kf (J9 h (λv s₁ h₁=>?_) λ_ _ x=>x);obtain⟨e,oe,t,rfl,hC,he,hc,hd,hE⟩:=h₁;obtain⟨oc,od,odt,osl⟩:=oe;dsimp only at hc hd;subst hc hd;obtain⟨hp,g,d,tk,os⟩:=s₁
 repeat (first|with_reducible refine Ls he ?_|with_reducible refine Ls hC ?_|(with_reducible refine Ly hC ?_;rw[hcB])|wp_step)
 exact wpAny_raiseNew_none hh hE
def GN (F:LA B newId initId bmB)(hbase:bm.contains (.type "BaseException")=true)(hh:A.handled=none)(hplain:(J7 cpos (J8 args env)).any (·.1)=false)(hi:Lq K (.ref C) "__init__"=some (some (.ref fI)))(hf:typeIn K (.ref fI)=some (.type "function"))(h:J5 (J6 prog w) A (eval (.Name x np) env) (λf s₁=>f=.ref C/\J5 (J6 prog w) A (evalArgs (.ref C) true (J7 cpos (J8 args env)) [])
   (λa s₂=>a.kw=[]/\a.pos.length<=sizeLine/\s₂.heap.get? C=some (Lx nm q C N bs bm hdct sn sub ab col dd k0 k1 k2 k3 k5 newId)/\K.In s₂.heap/\OwnTail s₂.heap bmB bm /\
    ∀h' e,W6 s₂.heap h' e (.ref C) a.pos->s₂.heap.objs.size<=h'.objs.size->J5 (J6 prog w) (A.under (.builtin "type.__call__" ⟨.ref C::a.pos,[]⟩)) (call (.ref fI) (.ref e::a.pos))
     (λr s'=>r=.none/\∃oe t,s'.heap.get? C=some (Lx nm q C N bs bm hdct sn sub ab col dd k0 k1 k2 k3 k5 newId)/\s'.heap.get? e=some oe/\oe.cls=.ref C/\oe.data=.fields #[.ref t,.none,.none,.none,.bool false,.none]/\E (.ref e) s') E {s₂ with heap:=h' }) E s₁) E s):
  J5 (J6 prog w) A (exec (.Raise (some (.Call (.Name x np) args [] cpos)) none pos) env) Q E s:=by
 rw[arm_exec_Raise];simp only[evalOpt,Option.map];refine Kf (Kh (GO (C:=C) (nm:=nm) (q:=q) (N:=N) (bs:=bs) (bm:=bm) (hdct:=hdct) (sn:=sn) (sub:=sub) (ab:=ab) (col:=col) (dd:=dd) (k0:=k0) (k1:=k1) (k2:=k2) (k3:=k3) (k5:=k5) (newId:=newId) hbase hh ?_));refine Kf (J9 (wpAny_Call_ofName (J9 h (λf s₁ h₁=>?_) λ_ _ x=>x)) (λv s₃ h₃=>Kf (Kh (Kk h₃))) λ_ _ x=>x);obtain⟨rfl,h₁⟩:=h₁;unfold callWith;refine Kf (Kg (J9 h₁ (λa s₂ h₂=>Kf (Kh ?_)) λ_ _ x=>x));obtain⟨apos,akw⟩:=a;obtain⟨hkw,hlen,hC,hX,T,h₂⟩:=h₂;obtain rfl:akw=[]:=hkw;obtain⟨hp,g,d,tk,os⟩:=s₂;simp only[hplain];refine Kf (wpAny_keeperOf_exc hC ?_);refine Kf (Fj (hrest:=hlen) F T hX hC hi hf λh' e hm hz=>J9 (h₂ h' e hm hz) (λr s' hr=>⟨hr.1,Kf (Kg (wpAny_point (Kk ?_)))⟩) λ_ _ y=>y);obtain⟨_,oe,t,e1,e2,e3,e4,e5⟩:=hr;exact⟨e,oe,t,rfl,e1,e2,e3,e4,e5⟩
end
end L2
namespace L2
open PySem PySem.Spec PySem.Calls PyProof.Rows PySem.W Builtin Builtin.ObjectAttr
structure dA(K:Qb)(C fI:Addr)(n:Str):Prop where
 cd:∃cd,clsIn K C=some cd/\cd.hasDict=true/\∀self,refuseLoop self "__setattr__" cd.mro=pure ()
 sa:Lq K (.ref C) "__setattr__"=some (some (.builtin "object.__setattr__"))
 ob:Lm K C (.type "object")=some true
 no:Lq K (.ref C) n=some none
 ini:Lq K (.ref C) "__init__"=some (some (.ref fI))
 fn:typeIn K (.ref fI)=some (.type "function")
section
variable{P:JS}{w:JT}{K:Qb}{mg:Str->Option Value}{base:JU}{A:J0}{outer:List Env}{s:Shared}{H:Hp}
variable{fI:Addr}{qual a0 a1:Str}{params:Arguments}{scope:JP}{dV kV doc pm cdv ct oc:Value}{an od:Option Addr}{osl:Array (Option Value)}{p1 p2 p3 p4:Pos}
def FR (lk:K.lookup fI=some ⟨oc,od,.func (Wa "__init__" qual params [.Assign [.Attribute (.Name a0 p1) a1 p2] (.Name a1 p3) p4] scope dV kV doc pm an cdv ct),osl⟩)(hcd:Wz K cdv qual=true)(S:bR [a0,a1] [a0,a1] scope)(hb:Binds K (Wa "__init__" qual params [.Assign [.Attribute (.Name a0 p1) a1 p2] (.Name a1 p3) p4] scope dV kV doc pm an cdv ct) [a0,a1] [])(l0:scope.names.lookup a0=some .local)(l1:scope.names.lookup a1=some .local)(d0:(a0==("__debug__":Str))=false)(d0':(a0==("__classdict__":Str))=false)(d1:(a1==("__debug__":Str))=false)(d1':(a1==("__classdict__":Str))=false)(hs:∀env,Kd (.Name a1 p3) (some (.Attribute (.Name a0 p1) a1 p2)) p4.line env=pure false)(O:dA K C fI a1)(hr:A.depth<Ku)(hh:A.handled=none)(e0:cQ P w K mg base A outer s H)(he:s.heap.get? e=some oe)(hHe:H e=none)(hef:e∉bx outer)(hc:oe.cls=.ref C)(hnc:Lz oe=true)(hdn:oe.dict=none)(rv:RelV v u)(hq:∀s' D u',s'.os=s.os->J1 s'.gens->s.heap.get? D=none->s'.heap.get? e=some {oe with dict:=some D}->s'.heap.Ns1 D (λy=>if y=a1 then some u' else none)->RelV v u'->bN P w H s'.heap ->
   (∀b o,b≠e->s.heap.get? b=some o->H b=none->b∉bx outer->s'.heap.get? b=some o)->(∀b o,b≠e->s.heap.get? b=some o->H b=none->b∈bx outer->∃sl,s'.heap.get? b=some {o with slots:=sl}) ->
   (∀b o,s.heap.get? b=some o->∃o',s'.heap.get? b=some o')->R .none s'):
  J5 (J6 P w) A (call (.ref fI) [.ref e,u]) R E s:=by
 have KX:K.In s.heap:=e0.mod.kin.keeps λb o e=>(e0.bs b o e).1;have au:s.heap.NoLimit:=e0.mod.nolimit.keeps λb o e=>(e0.bs b o e).1;have hkind:∀y∈[a0,a1].zip [Value.ref e,u],scope.names.lookup y.1=some .local\/(scope.names.lookup y.1=some .cell/\((KH (s.heap.objs.size+1) scope.names []).lookup y.1).isSome=true):=λ⟨n,v⟩ hy=>by
  rcases S.par n (W1 hy).1 with q|q
  .exact .inl q
  .exact .inr ⟨q,WA _ _ _ (.inl q)⟩
 have hbb:Kx s (Wa "__init__" qual params [.Assign [.Attribute (.Name a0 p1) a1 p2] (.Name a1 p3) p4] scope dV kV doc pm an cdv ct) ⟨[.ref e,u],[]⟩ ([a0,a1].zip [Value.ref e,u]):=by
  have z:=hb s [.ref e,u] KX rfl;rw[QU]at z;exact z
 refine Kz (KI hr (KX _ _ lk) rfl S.co S.gen rfl (PySem.W.codeRec_of KX hcd) (hbb _ _ _ _ ?_));refine KJ S.kind hkind λenv hen s1 x=>?_;subst hen;refine⟨au.keeps x.toInCall.keep,codeAny_func ?_⟩;have I:Inv (vO cY P w K mg base [a0,a1] qual scope fI cdv A outer s H (λ_ _ _=>False)) [] (start [a0,a1] [.ref e,v]) H s1:=gw S hh e0 rfl (.cons rfl (.cons rv .nil)) x;have pv:∀E',PE ((vO cY P w K mg base [a0,a1] qual scope fI cdv A outer s H (λ_ _ _=>False)).wish E') (.Name a1 p3) (fM 1):=λE'=>kC rfl (.inl l1) d1 d1';have ps:∀E',PE ((vO cY P w K mg base [a0,a1] qual scope fI cdv A outer s H (λ_ _ _=>False)).wish E') (.Name a0 p1) (fM 0):=λE'=>kC rfl (.inl l0) d0 d0';refine Kc (plainObj_wpAny_Assign_Attribute (aY (pv _ [] s1 _ H (λy H1=>y=v/\H1=H) (I.wish _) ⟨v,rfl,rfl,rfl⟩) λu1 s2 h2=>?_) (hs _));obtain⟨y,H1,I1,ry,rfl,rfl⟩:=h2;refine aY (ps _ [] s2 _ H1 (λy H2=>y=.ref e/\H2=H1) I1 ⟨.ref e,rfl,rfl,rfl⟩) λov s3 h3=>?_;obtain⟨y',H2,I2,ry',rfl,rfl⟩:=h3;obtain rfl:ov=.ref e:=ry';obtain⟨cd,hcd,hdd,hpass⟩:=O.cd;have noA:∀b:Addr,b∉([]:List Addr):=λb z=>LH z (by simp);have he3:s3.heap.get? e=some oe:=I2.base.keep e oe he hHe hef (noA _);refine GP I2.kIn he3 hc hnc hdn hcd hdd hpass O.sa O.ob O.no λh' tk' D hD hx hns hk=>Kb ?_;have hsz:∀{b:Addr},s3.heap.get? b=none->s.heap.get? b=none:=λ{b} z=>by
  cases q:s.heap.get? b with
  |none=>rfl
  |some o=>
   obtain⟨o',z'⟩:=I2.base.there b o q (noA _);rw[z]at z';cases z'
 refine hq _ D u1 I2.os I2.bare (hsz hD) hx hns ry (λa o z=>(I2.hok a o z).stay (λb u' hb q=>hk b u' (λeb=>?_) q) (λ_ q=>q) λ_ _ q=>q)
  (λb o ne q n hb=>hk b o ne (I2.base.keep b o q n hb (noA _))) (λb o ne q n hb=>?_) (λb o q=>?_)
 .subst eb;rcases hb with rfl|hb
  .rw[hHe]at z;cases z
  .rw[hHe]at hb;cases hb
 .obtain ⟨sl,q'⟩:=I2.base.slot b o q n hb (noA _);exact⟨sl,hk b _ ne q'⟩
 .by_cases eb:b=e
  .subst eb;exact⟨_,hx⟩
  .obtain ⟨o',q'⟩:=I2.base.there b o q (noA _);exact⟨o',hk b o' eb q'⟩
end
end L2
namespace L2
open PySem PySem.Spec PySem.Calls PyProof.Rows PySem.W
structure eJ(B:JU)(l:List Env)(e:Addr)(o:Obj)(z fl:Value)(g:JU):Prop where
 st:B.StaysIn g
 no:B.get? e=none
 fr:g.FunFrames B l
 ob:∃xs T p ys,g.get? e=some {o with data:=.fields xs}/\xs[0]?=some z/\xs[1]?=some (.ref T)/\B.get? T=none/\T≠e/\g.get? T=some p/\p.data=.fields ys/\ys[3]?=some fl/\xs[2]?=some .none
section
variable{M:J4}{A:J0}{E:Value->Shared->Prop}{s:Shared}{B:JU}{env:Env}{outer:List Env}{L e:Addr}{o:Obj}{z fl:Value}
def uu (fs:A.frames=some (env::outer))(le:env.frame=some L)(fr:s.heap.FunFrames B (env::outer))(st:B.StaysIn s.heap)(no:B.get? e=none)(oe:s.heap.get? e=some {o with data:=.fields xs})(sz:1<xs.size)(x0:xs[0]?=some z)(x2:xs[2]?=some .none)(k:∀g,eJ B (env::outer) e o z (rawInt L) g->s.heap.UpToSlots g->Q () {s with heap:=g}):
  J5 M A (do let a <-frameOf env;let pl <-entryPlaceOf L had;let b <-EntryCells.newEntry hd a .none (rawInt L) .none pl;setField (.ref e) 1 b) Q E s:=by
 have ne:e∉(env::outer).filterMap (·.frame):=λhm=>by
  obtain⟨_,u,hu,nu⟩:=fr.mem hm;cases oe.symm.trans hu;exact nu xs rfl
 refine Kf (wpAny_frameOf_fun fs fr le λg1 sl=>Kf (wpAny_entryPlaceOf λpl ip=>?_));unfold EntryCells.newEntry newFields;refine Kf (KS ?_ (ip.sizeOk5 _ _ _ _ _));generalize hT:({cls:=.type "traceback",dict:=none,data:=.fields ([hd,.ref L,.none,rawInt L,.none]++(if pl.isEmpty then Qu 6 Value.none else pl)).toArray}:Obj)=tb;have e1:g1.get? e=some {o with data:=.fields xs}:=(sl.2.1 e ne).trans oe;have e2:=Qi tb e1;have Te:g1.objs.size≠e:=WY (Qp e1);have b1:B.StaysIn g1:=λb u hb=>by
  rw[sl.2.1 b (λhm=>by rw[(fr.mem hm).1]at hb;cases hb)];exact st b u hb
 refine LB e2 rfl sz (k _ ?_ ?_)
 .have e3:((g1.push tb).update e (Obj.mapFields (·.setIfInBounds 1 (Value.ref g1.objs.size)))).get? e=some {o with data:=.fields (xs.setIfInBounds 1 (.ref g1.objs.size))}:=WD _ e2 rfl;have t3:((g1.push tb).update e (Obj.mapFields (·.setIfInBounds 1 (Value.ref g1.objs.size)))).get? g1.objs.size=some tb:=(Q6 _ _ (Ne.symm Te)).trans (QR g1 (by subst hT;rfl));have kp:∀b u,b≠e->g1.get? b=some u->((g1.push tb).update e (Obj.mapFields (·.setIfInBounds 1 (Value.ref g1.objs.size)))).get? b=some u:=λb u nb hb=>(Q6 _ _ (Ne.symm nb)).trans (Qi _ hb);refine⟨λb u hb=>kp b u (λq=>by rw[q,no]at hb;cases hb) (b1 b u hb),no,fr.of_keeps λb u hb nf=>?_,⟨_,g1.objs.size,tb,_,e3,?_,?_,b1.fresh,Te,t3,by subst hT;rfl,?_,by rw[Ve (by decide)];exact x2⟩⟩
  .obtain ⟨q,hq⟩:=sl.2.2 b u hb;exact⟨_,kp b _ (λh=>by subst h;cases oe.symm.trans hb;exact nf xs rfl) hq,rfl⟩
  .rw[Ve (by decide)];exact x0
  .simp[sz]
  .first
    |(simp;done)
    |(rcases ip with rfl|⟨_,_,_,_,_,_,_,rfl⟩<;>simp)
 .intro b u hb nf;obtain⟨q,hq⟩:=sl.2.2 b u hb;exact⟨q,(Q6 _ _ (λh=>by subst h;cases oe.symm.trans hb;exact nf xs rfl)).trans (Qi _ hq)⟩
def jR (f:eJ B l e o z fl s.heap)(k:∀g,eJ B l e o z .none g->s.heap.UpToSlots g->Q () {s with heap:=g}):J5 M A (setFlight (.ref e) none) Q E s:=by
 obtain⟨xs,T,p,ys,q1,q2,q3,q4,q5,q6,q7,q8,q9⟩:=f.ob;have s3:3<ys.size:=(Ws.mp q8).1;unfold setFlight;refine Kf (KQ q1 rfl q3 ?_);rw[LF (show(Value.ref T != Value.none)=true by simp)];have ot:∀{b:Addr},b≠T->(s.heap.update T (Obj.mapFields (·.setIfInBounds 3 Value.none))).get? b=s.heap.get? b:=λ{b} nb=>Q6 _ _ (Ne.symm nb);have nr:∀{b:Addr}{u:Obj},s.heap.get? b=some u->(∀vs,u.data≠.fields vs)->b≠T:=λ{b u} hb nf h=>by subst h;cases q6.symm.trans hb;exact nf ys q7
 refine LB q6 q7 s3 (k _ ⟨λb u hb=>(ot λh=>by rw[h,q4]at hb;cases hb).trans (f.st b u hb),f.no,f.fr.of_keeps λb u hb nf=>⟨u,(ot (nr hb nf)).trans hb,rfl⟩,⟨xs,T,_,_,(ot (Ne.symm q5)).trans q1,q2,q3,q4,q5,WD _ q6 (Obj.isFreed_of_fields (Obj.data_mapFields q7 _)),Obj.data_mapFields q7 _,by simp[s3],q9⟩⟩ λb u hb nf=>⟨u.slots,(ot (nr hb nf)).trans hb⟩)
def FQ (fs:A.frames=some (env::outer))(le:env.frame=some L)(f:eJ B (env::outer) e o z .none s.heap)(k:∀g,eJ B (env::outer) e o z (rawInt L) g->s.heap.UpToSlots g->Q () {s with heap:=g}):J5 M A (Lf (.ref e) env) Q E s:=by
 obtain⟨xs,T,p,ys,q1,q2,q3,q4,q5,q6,q7,q8,q9⟩:=f.ob;have s3:3<ys.size:=(Ws.mp q8).1;unfold Lf;simp only[le];refine Kf (KQ q1 rfl q3 ?_);rw[LF (show(Value.ref T != Value.none)=true by simp)];refine Kf (KQ q6 q7 q8 ?_);rw[LG (show ¬(Value.none==rawInt L)=true by simp[rawInt])];have ot:∀{b:Addr},b≠T->(s.heap.update T (Obj.mapFields (·.setIfInBounds 3 Value.none))).get? b=s.heap.get? b:=λ{b} nb=>Q6 _ _ (Ne.symm nb);have nr:∀{b:Addr}{u:Obj},s.heap.get? b=some u->(∀vs,u.data≠.fields vs)->b≠T:=λ{b u} hb nf h=>by subst h;cases q6.symm.trans hb;exact nf ys q7
 refine Kf (LB q6 q7 s3 ?_);refine uu (s:={s with heap:=s.heap.update T (Obj.mapFields (·.setIfInBounds 3 Value.none))}) fs le (f.fr.of_keeps λb u hb nf=>⟨u,(ot (nr hb nf)).trans hb,rfl⟩) (λb u hb=>(ot λh=>by rw[h,q4]at hb;cases hb).trans (f.st b u hb)) f.no ((ot (Ne.symm q5)).trans q1) (Ws.mp q3).1 q2 q9 λg fg up=>k g fg λb u hb nf=>?_;exact up b u ((ot (nr hb nf)).trans hb) nf
def GM (fs:A.frames=some (env::outer))(le:env.frame=some L)(fr:s.heap.FunFrames B (env::outer))(st:B.StaysIn s.heap)(no:B.get? e=none)(oe:s.heap.get? e=some {o with data:=.fields xs})(x1:xs[1]?=some .none)(x0:xs[0]?=some z)(x2:xs[2]?=some .none)(k:∀g,eJ B outer e o z .none g->s.heap.UpToSlots g->Q () {s with heap:=g}):J5 M A (leaving env (.ref e)) Q E s:=by
 unfold leaving Lf;simp only[le];refine Kf (Kf (KQ oe rfl x1 ?_));rw[LG (by decide)];refine uu fs le fr st no oe (Ws.mp x1).1 x0 x2 λg fg up=>jR fg λg2 fg2 up2=>k g2 ⟨fg2.st,fg2.no,fg2.fr.2.2,fg2.ob⟩ (up.trans up2)
end
noncomputable def fk(P:JS)(w:JT):dH:=λouter H s E ev s'=>∃(C e D:Addr) (o:Obj) (z:Value) (B:JU) (H':Hp),ev=.ref e/\s'.os=s.os/\J1 s'.gens/\Un (bx outer) [] H H' s.heap s'.heap/\bN P w H' s'.heap /\
 eJ B outer e o z .none s'.heap/\o.cls=.ref C/\o.dict=some D/\cr (bx outer) H' s.heap s'.heap B/\E (.ref C) (some D) H'
structure cH(P:JS)(w:JT)(fs:List Addr)(H:Hp)(s s':Shared)(C e D:Addr)(oe:Obj)(n:Str)(v:V):Prop where
 os:s'.os=s.os
 bare:J1 s'.gens
 ne:s.heap.get? e=none
 nD:s.heap.get? D=none
 De:D≠e
 he:s'.heap.get? e=some oe
 cl:oe.cls=.ref C
 di:oe.dict=some D
 da:∃t,oe.data=.fields #[.ref t,.none,.none,.none,.bool false,.none]
 ns:∃u,s'.heap.Ns1 D (λy=>if y=n then some u else none)/\RelV v u
 hok:bN P w H s'.heap
 keep:∀b o,s.heap.get? b=some o->H b=none->b∉fs->s'.heap.get? b=some o
 slot:∀b o,s.heap.get? b=some o->H b=none->b∈fs->∃sl,s'.heap.get? b=some {o with slots:=sl}
 there:∀b o,s.heap.get? b=some o->∃o',s'.heap.get? b=some o'
noncomputable def qr(X:Cx)(n:Str)(E:XK):Prop:=∀(pins:List (Addr×Obj)) (σ:St) (H:Hp) (s s':Shared) (C e D:Addr) (oe:Obj) (v:V),Inv X pins σ H s->cH X.prog X.w (bx X.stack) H s s' C e D oe n v->E (.ref C) (some D) (aK H D (.xd [(n,v)]))->X.xe (.ref e) s'
section
variable{P:JS}{w:JT}{fs:List Addr}{H:Hp}{s s':Shared}{C e D:Addr}{oe:Obj}{n:Str}{v:V}
def xI (hk:bN P w H s.heap)(h:s.heap.get? b=none):H b=none:=by
 cases z:H b with
 |none=>rfl
 |some u=>
  obtain⟨o,ho⟩:=(hk b u z).ob;rw[h]at ho;cases ho
def cH.hokD(m:cH P w fs H s s' C e D oe n v)(hk:bN P w H s.heap):bN P w (aK H D (.xd [(n,v)])) s'.heap:=λa o z=>by
 have hD:=xI hk m.nD;by_cases q:a=D
 .subst q;rw[zh]at z;cases z;obtain⟨u,hu,r⟩:=m.ns;refine⟨_,hu,λf=>?_⟩;rw[QV];by_cases y:f=n
  .subst y;simp only[beq_self_eq_true,if_true];exact r
  .have:(f==n)=false:=by simpa using y
   simp only[this,LG y];trivial
 .rw[zf q]at z;exact(m.hok a o z).stay (λ_ _ _ q=>q) (λ_ q=>by rw[zf (zp q hD)];exact q) λ_ _ q=>by rw[zf (zp q hD)];exact q
def cH.un(m:cH P w fs H s s' C e D oe n v)(hk:bN P w H s.heap):Un fs [] H (aK H D (.xd [(n,v)])) s.heap s'.heap:=by
 have hD:=xI hk m.nD;refine⟨λb o q1 q2 q3 _=>m.keep b o q1 q2 q3,λb o q1 q2 q3 _=>m.slot b o q1 q2 q3,λb o q1 q2 _=>?_,λb o q _=>m.there b o q,λb xs q=>?_,λb o u q=>?_,λb ps q=>⟨#[],?_⟩⟩
 .rw[zf (λz=>by rw[z,m.nD]at q1;cases q1)];exact q2
 .rw[zf (zp q hD)];exact q
 .rw[zf (zp q hD)];exact q
 .rw[zf (zp q hD),Array.append_empty];exact q
end
theorem vU {h h':JU}:∀{l:List Env},h.FunFrames base l->(∀b∈bx l,∀o,h.get? b=some o->∃sl,h'.get? b=some {o with slots:=sl})->h'.FunFrames base l
 |[],_,_=>trivial
 |env::l,⟨hk,⟨L,o,hf,hn,ho,hd⟩,hr⟩,k=>by
  obtain⟨sl,q⟩:=k L (by rw[jP hf];exact QH) o ho;exact⟨hk,⟨L,_,hf,hn,q,hd⟩,vU hr λb hb=>k b (by rw[jP hf];exact Qk _ hb)⟩
section
variable{P:JS}{w:JT}{K:Qb}{mg:Str->Option Value}{base:JU}{N:List Str}{qual:Str}{scope:JP}{f:Addr}{cd:Value}{A:J0}{outer:List Env}{s:Shared}{H:Hp}{E:XK}{n:Str}
def GL:qr (vO (fk P w) P w K mg base N qual scope f cd A outer s H E) n E:=by
 intro pins σ H1 s1 s2 C e D oe v I m hE;have hfr:(envOfC qual scope s.heap.objs.size f cd).frame=some s.heap.objs.size:=rfl;have hst:s1.heap.FunFrames base (envOfC qual scope s.heap.objs.size f cd::outer):=I.stack;have hfz:∀b∈bx (envOfC qual scope s.heap.objs.size f cd::outer),H1 b=none:=I.stkFree;have hD:=xI I.hok m.nD;have he:=xI I.hok m.ne;have hfz':∀b∈bx (envOfC qual scope s.heap.objs.size f cd::outer),aK H1 D (.xd [(n,v)]) b=none:=λb hb=>by
  obtain⟨_,o,ho,_⟩:=hst.mem hb;rw[zf (λz=>by rw[z,m.nD]at ho;cases ho)];exact hfz b hb
 have hst2:s2.heap.FunFrames base (envOfC qual scope s.heap.objs.size f cd::outer):=vU hst λb hb o ho=>m.slot b o ho (hfz b hb) hb;obtain⟨t,hda⟩:=m.da;have hok2:=m.hokD I.hok;have hB:cr (s.heap.objs.size::bx outer) (aK H1 D (.xd [(n,v)])) s1.heap s2.heap (hideAll s2.heap (e::bx (envOfC qual scope s.heap.objs.size f cd::outer))):=λb o q hq hn=>by
  refine hideAll_get _ q λhm=>?_;rcases Qt.mp hm with z|z
  .subst z;rcases hq with y|⟨o₀,y⟩
   .rw[zf (Ne.symm m.De)]at y;exact y he
   .rw[m.ne]at y;cases y
  .exact hn z
 have eo:({oe with data:=.fields #[.ref t,.none,.none,.none,.bool false,.none]}:Obj)=oe:=by
  obtain⟨a,b,c,d⟩:=oe;dsimp only at hda;subst hda;rfl
 refine GM (o:=oe) (z:=.ref t) I.ok.frames hfr (funFrames_hide hst2 λenv he b hb=>Qk _ (WL.mpr ⟨env,he,hb⟩)) (λb o q=>of_hideAll _ q) (hideAll_none _ (QH)) (by rw[eo];exact m.he) rfl rfl rfl λg fg up=>?_;refine⟨C,e,D,oe,.ref t,_,aK H1 D (.xd [(n,v)]),rfl,m.os.trans I.os,m.bare,?_,?_,fg,m.cl,m.di,?_,hE⟩
 .exact DH (Ql _) I.ok.funs I.ok.frf I.base (m.un I.hok) hB fg.st up
 .exact uC hok2 hfz' hB fg.st
 .exact GR (Ql _) (hfz' _ (by show _∈s.heap.objs.size::bx outer;exact QH)) I.base hok2 (λb o q=>m.there b o q) hB fg.st
end
noncomputable def mO:List Value:=[.type "ValueError",.type "Exception",.type "BaseException",.type "object"]
noncomputable def wS(K:Frag)(C:Addr):Bool:=match K.lookup C with
 |some ⟨.type "type",_,.cls cd,sl⟩=>(match cd.mro,sl.toList with
  |.ref C'::bm,[_,_,_,_,some (.builtin n),_]=>C'==C&&n == "ValueError.__new__" && ! cd.hasDel&&tailIn K mO bm
  |_,_=>false)
 |_=>false
set_option tactic.hygienic true in
def lq {K:Frag}(X:K.In h)(q:wS K C=true):(∃nm q N bs bm hdct sn sub ab col dd k0 k1 k2 k3 k5,K.lookup C=some (Lx nm q C N bs bm hdct sn sub ab col dd k0 k1 k2 k3 k5 "ValueError.__new__")/\h.get? C=some (Lx nm q C N bs bm hdct sn sub ab col dd k0 k1 k2 k3 k5 "ValueError.__new__")/\OwnTail h mO bm/\tailIn K mO bm=true)/\∀v,Lm K C v=some true->vT h C v:=by
 unfold wS at q;split at q
 .rename_i dd cd sl ho;split at q
  .rename_i C' bm k0 k1 k2 k3 n k5 hm hs;simp only[Qj,beq_iff_eq,Wr]at q;obtain⟨⟨⟨rfl,rfl⟩,q1⟩,q2⟩:=q;have eo:=X _ _ ho;have em:∀v,Lm K C' v=some (cd.mro.contains v):=λv=>by
    unfold Lm clsIn;rw[ho];simp only[Q9];rw[hm];rfl
   obtain⟨a1,a2,a3,a4,a5,a6,a7,a8,a9,b1,b2⟩:=cd;dsimp only at hm q1 em;subst hm q1;have es:sl=#[k0,k1,k2,k3,some (.builtin "ValueError.__new__"),k5]:=by
    obtain⟨l⟩:=sl;simp only at hs;rw[hs]
   subst es;refine⟨⟨a1,a5,a4,a2,bm,a6,a7,a8,a9,b1,dd,k0,k1,k2,k3,k5,ho,eo,tail_of_in X q2,q2⟩,λv z=>?_⟩;rw[em]at z;exact⟨a1,a5,a4,a2,bm,a6,a7,a8,a9,b1,dd,k0,k1,k2,k3,k5,_,eo,Option.some.inj z⟩
  .cases q
 .cases q
structure bE(K:Frag)(C fI:Addr)(n a0:Str)(st:Stmt):Prop where
 cls:wS K C=true
 own:dA K C fI n
 fn:∃fd qual,dQ K "__init__" qual st fI fd/\Binds K fd [a0,n] []
 sc:bR [a0,n] [a0,n] (zo st)
 body:∃p1 p2 p3 p4,zR st=[.Assign [.Attribute (.Name a0 p1) n p2] (.Name n p3) p4]/\∀env,Kd (.Name n p3) (some (.Attribute (.Name a0 p1) n p2)) p4.line env=pure false
 l0:(zo st).names.lookup a0=some .local
 l1:(zo st).names.lookup n=some .local
 d0:(a0==("__debug__":Str))=false/\(a0==("__classdict__":Str))=false
 d1:(n==("__debug__":Str))=false/\(n==("__classdict__":Str))=false
def GK {st:Stmt}{E:XK}(hb:X.mg x=some (.ref C))(O:bE X.K C fI n a0 st)(hr:bH k X.A)(hc:X.calm=true)(hg:Gl X x)(hx:∀(H:Hp) (s s':Shared) (e D:Addr) (oe:Obj) (v:V),Inv X pins σ H s->cH X.prog X.w (bx X.stack) H s s' C e D oe n v->E (.ref C) (some D) (aK H D (.xd [(n,v)]))->X.xe (.ref e) s')(ha:PA X [e₀] t)(I:Inv X pins σ H s)(h:t σ H λvs H1=>∃v,vs=[v]/\∀D',H1 D'=none->E (.ref C) (some D') (aK H1 D' (.xd [(n,v)])))(hdb:(x==("__debug__":Str))=false)(he:J8 [e₀] X.env=(false,eval e₀ X.env)::J8 [] X.env):J5 (J6 X.prog X.w) X.A (exec (.Raise (some (.Call (.Name x np) [e₀] [] cpos)) none pos) X.env) QQ X.xe s:=by
 obtain⟨⟨nm,q,N,bs,bm,hdct,sn,sub,ab,col,dd,k0,k1,k2,k3,k5,lC,hC,T,tl⟩,_⟩:=lq I.ok.mod.kin O.cls;obtain⟨fd,qual,Fi,hB⟩:=O.fn;obtain⟨p1,p2,p3,p4,eb,hs⟩:=O.body;obtain⟨oc,od,kV,doc,pm,an,cdv,ct,osl,rfl,lk,hcd⟩:=Fi.ex;rw[eb]at lk hB;refine GN (K:=X.K) (fI:=fI) (k0:=k0) (k1:=k1) (k2:=k2) (k3:=k3) (k5:=k5) (dd:=dd) (col:=col) (ab:=ab) (sub:=sub) (sn:=sn) (hdct:=hdct) (bs:=bs) (q:=q) (nm:=nm) (C:=C) (N:=N) (bm:=bm) PySem.F.excBase_ValueError (T.hasType PySem.F.excBase_ValueError.hasBase) (I.ok.hd hc) (by rw[he];rfl) O.own.ini O.own.fn (jn I hg hb ⟨rfl,?_⟩ hdb);have h1:=ha cpos pins s σ H _ I h;rw[he]at h1 ⊢;refine Calls.evalArgs_plain (J9 h1 (λus s2 h2=>?_) λ_ _ y=>y);obtain⟨vs,H1,I1,r,v,rfl,hE⟩:=h2;obtain⟨u,rfl,ru⟩:∃u,us=[u]/\RelV v u:=by
  cases r with
  |cons p q=>cases q with
   |nil=>exact⟨_,rfl,p⟩
 have hC2:=I1.bk _ _ hC;refine⟨rfl,show 1<=sizeLine by decide,hC2,I1.kIn,T.keeps I1.bk,λh' e mk hz=>?_⟩;obtain⟨tt,he',htn,ht⟩:=mk.there;have hHe:H1 e=none:=xI I1.hok mk.new;have hef:e∉bx X.stack:=λhm=>by
  obtain⟨_,o,ho,_⟩:=I1.stack.mem hm;rw[mk.new]at ho;cases ho
 have hok':bN X.prog X.w H1 h':=λa o z=>(I1.hok a o z).stay (λb u _ q=>mk.keeps b u q) (λ_ q=>q) λ_ _ q=>q;have e1:=I1.env0;have e2:cQ X.prog X.w X.K X.mg X.base X.A X.stack {s2 with heap:=h' } H1:=⟨e1.frames,e1.mod,λb o q=>⟨mk.keeps b o (e1.bs b o q).1,(e1.bs b o q).2⟩,Qo e1.bsz hz,e1.funs.of_keeps λb o q _=>⟨o,mk.keeps b o q,rfl⟩,e1.frf,hok',e1.bare⟩;refine FR (A:=X.A.under (.builtin "type.__call__" ⟨.ref C::[u],[]⟩)) (outer:=X.stack) (H:=H1) (e:=e) (v:=v) lk hcd O.sc hB O.l0 O.l1 O.d0.1 O.d0.2 O.d1.1 O.d1.2 hs O.own (by rw[HP];have:=hr.dp;lia) hr.hd (e2.make _ _ _) he' hHe hef rfl rfl rfl ru λs' D' u' a1 a2 a3 a4 a5 a6 a7 a8 a9 a10=>?_;have keep:∀b o,s2.heap.get? b=some o->H1 b=none->b∉bx X.stack->s'.heap.get? b=some o:=λb o q1 q2 q3=>a8 b o (λz=>by rw[z,mk.new]at q1;cases q1) (mk.keeps b o q1) q2 q3;have nD:s2.heap.get? D'=none:=by
  cases z:s2.heap.get? D' with
  |none=>rfl
  |some o=>
   have:h'.get? D'=none:=a3;rw[mk.keeps _ _ z]at this;cases this
 have hCn:H1 C=none:=(e1.bs C _ hC).2;have hCf:C∉bx X.stack:=λhm=>by
  obtain⟨q,_⟩:=I1.stack.mem hm;rw[hC]at q;cases q
 refine⟨rfl,_,tt,keep C _ hC2 hCn hCf,a4,rfl,rfl,?_⟩;refine hx H1 s2 s' e D' _ v I1 ⟨a1,a2,mk.new,nD,λz=>?_,a4,rfl,rfl,⟨tt,rfl⟩,⟨u',a5,a6⟩,a7,keep,λb o q1 q2 q3=>a9 b o (λz=>by rw[z,mk.new]at q1;cases q1) (mk.keeps b o q1) q2 q3,λb o q=>a10 b o (mk.keeps b o q)⟩ (hE D' (xI I1.hok nD));have:h'.get? D'=none:=a3;rw[z,he']at this;cases this
def gK {st:Stmt}(hb:X.mg x=some (.ref C))(O:bE X.K C fI n a0 st)(hr:bH k X.A)(hc:X.calm=true)(hg:Gl X x)(hx:qr X n E)(ha:PA X [e₀] t)(hdb:(x==("__debug__":Str))=false:=by decide)(he:J8 [e₀] X.env=(false,eval e₀ X.env)::J8 [] X.env:=by rfl):
  PS X (.Raise (some (.Call (.Name x np) [e₀] [] cpos)) none pos) (λ_ σ H=>t σ H λvs H1=>∃v,vs=[v]/\∀D',H1 D'=none->E (.ref C) (some D') (aK H1 D' (.xd [(n,v)]))):=by
 intro pins s σ H D I h;exact GK hb O hr hc hg (λH s s' e D oe v=>hx pins σ H s s' C e D oe v) ha I h hdb he
end L2
namespace L2
open PySem PySem.Spec PySem.Calls PyProof.Rows PySem.W Builtin Builtin.ObjectAttr
section
variable{prog:JS}{w:JT}{A:J0}{E:Value->Shared->Prop}{K:Qb}{x C:Addr}{ox oD:Obj}{h:JU}{g:Array J2}{d:J3}{t:Nat}{os:Ll}{name:Str}{v:Value}
def DD (X:K.In h)(I:InstAt h x ox C (some oD))(hf:findObj K C (some oD) name=some (.value v))(hq:Q (.done (.ret v)) ⟨h,g,d,t,os⟩):
  J5 (J6 prog w) A (Builtin.«object.__getattribute__» ⟨[.ref x,.str name tk],[]⟩) Q E ⟨h,g,d,t,os⟩:=by
 have L0:=I.type (M:=J6 prog w);have L1:=looks_find (M:=J6 prog w) X I hf;unfold Builtin.«object.__getattribute__»
 repeat (any_goals (first|assumption|with_reducible refine Looks.at (by assumption) ?_|wp_step))
def FP (X:K.In s.heap)(I:InstAt s.heap x ox C (some oD))(Z:c9 K C)(hf:findObj K C (some oD) name=some (.value v))(hh:handedIn v=true)(hq:Q v {s with toks:=s.toks+1}):J5 (J6 prog w) A (getAttr (.ref x) name b) Q E s:=by
 obtain⟨h,g,d,t,os⟩:=s;have hx:=I.at_;have hc:=I.cls;have L0:=I.type (M:=J6 prog w);have L1:=Lr (M:=J6 prog w) X Z.ga;have L2:=Lr (M:=J6 prog w) X Z.gt;have f3:=F.attr_ValueError.ga.bind (.ref x);have y2:(Value.builtin "BaseException.__getattribute__" == Value.builtin "object.__getattribute__")=false:=by decide +kernel
 have y1:(Lu (Value.ref C)&&Value.builtin "BaseException.__getattribute__" == Value.builtin "object.__getattribute__")=false:=by rw[y2];rfl
 have y3:(b&&Lu (Value.builtin "BaseException.__getattribute__"))=false:=by rw[show Lu (Value.builtin "BaseException.__getattribute__")=false from rfl,WN]
 have hO:=handedOut_of hh;unfold getAttr getAttrBy;refine Kf (wpAny_mkText (Kg (Kf (L0.at (Kf (L1.at ?_))))));dsimp only;rw[LG (by rw[y1];decide)];have hcg:∀nv:Value,Lw (.ref x) nv (.builtin "BaseException.__getattribute__") b=boundAndCalled (.builtin "BaseException.__getattribute__") (.ref x) nv:=λnv=>by
  unfold Lw;rw[LG (by rw[y3];decide)]
 unfold getAttrByItsOwn hookBefore;rw[hcg]
 repeat (any_goals (first|assumption|with_reducible refine Looks.at (by assumption) ?_|wp_step))
 refine Lo F.attr_ValueError.ga.plain F.entry_bexc_ga (gJ X hx hc Z.be (DD X I hf ?_))
 repeat (any_goals (first|assumption|wp_step))
end
end L2
namespace L2
open PySem PySem.Spec PySem.Calls PyProof.Rows PySem.W
def DC {i:Nat}(hN:X.N[i]?=some n)(hn:X.env.scope.names.lookup n=some .local)(hd1:(n==("__debug__":Str))=false)(hd2:(n==("__classdict__":Str))=false)(Z:c9 X.K C)(O:dA X.K C fI f)(hc:oe.cls=.ref C)(hnc:Lz oe=true)(hdi:oe.dict=some D)(hb:Kt (.Name n p) f X.env (eval (.Name n p) X.env)=eval (.Name n p) X.env:=by rfl):
  PE X (.Attribute (.Name n p) f pos) (λσ H Q=>σ[i]?=some (some (V.ref e))/\H e=some (dR oe)/\∃fs v,H D=some (.xd fs)/\fs.lookup f=some v/\Q v H):=by
 intro pins s σ H Q I h;obtain⟨hσ,hH,fs,v,hD,hl,q⟩:=h;have pv:PE X (.Name n p) (fM i):=kC hN (.inl hn) hd1 hd2;refine EV hb (aY (pv pins s σ H (λx H1=>x=.ref e/\H1=H) I ⟨.ref e,hσ,rfl,rfl⟩) λu s1 ⟨x,H1,I1,rx,ex,eH⟩=>?_);subst ex eH;obtain rfl:u=Value.ref e:=rx;have hx:s1.heap.get? e=some oe:=(I1.hok e _ hH).1;obtain⟨mA,hns,r⟩:=I1.hok D _ hD;obtain⟨u,hu,ru⟩:=dz.some_of (v:=v) (o:=mA f) (by rw[<-hl];exact r f);obtain⟨od,ho,hlk⟩:=gq hns;obtain⟨cd,k1,k2,_⟩:=O.cd;have hh:hasDictIn X.K C=true:=by unfold hasDictIn;rw[k1];exact k2
 refine FP I1.kIn ⟨hx,hc,hnc,by rw[hdi];exact ho⟩ Z (findObj_own hh O.no rfl (by rw[hlk,hu])) (G0 ru) ⟨v,H1,I1.tok _,ru,q⟩
set_option tactic.hygienic true in
def Hz (hst:X.stack=X.env::X.outer)(hfr:X.env.frame=some X.env.locals)(I:Inv X pins σ H1 s1)(os:s2.os=s1.os)(bare:J1 s2.gens)(un:Un (bx X.stack) [] H1 H2 s1.heap s2.heap)(hok:bN X.prog X.w H2 s2.heap)(fl:eJ B X.stack e o zz .none s2.heap)(hoc:o.cls=.ref C)(hod:o.dict=some D')(hB:cr (bx X.stack) H2 s1.heap s2.heap B)(cC:vT X.base C (.ref G))(cG:vT X.base G (.type "BaseException"))(hg:Gl X gn)(hm:X.mg gn=some (.ref G))(hdb:(gn==("__debug__":Str))=false)(hN:X.N.Nodup)(hi:X.N[i]?=some n)(hn:X.env.scope.names.lookup n=some .local)(hex:X.ex=[])(hsuite:∀(oe:Obj) (E':Value->Shared->Prop),oe.cls=.ref C->Lz oe=true->oe.dict=some D'->H2 e=none->∃tt,cj (X.heldT e E') (b₀::suite) tt/\tt {nx:=λσ' H'=>D.nx (σ'.set i none) H',rt:=D.rt} (σ.set i (some (.ref e))) (aK H2 e (dR oe))):
  J5 (J6 X.prog X.w) X.A (Lf (.ref e) X.env) (λ_ s₂=>J5 (J6 X.prog X.w) X.A (setFlight (.ref e) none)
   (λ_ s₃=>J5 (J6 X.prog X.w) X.A (handleBy (.ref e) X.env [.ExceptHandler (some (.Name gn np)) (some n) (b₀::suite) pos]) (SP X pins D) X.xe s₃) X.xe s₂) X.xe s2:=by
 have frames:X.A.frames=some (X.env::X.outer):=by rw[<-hst];exact I.ok.frames
 have fz:=GS I.stack I.stkFree un;have inv:∀{h5:JU},B.StaysIn h5->s2.heap.UpToSlots h5->Inv X pins σ H2 {s2 with heap:=h5}:=λ{h5} st up=>
  I.call' (s':={s2 with heap:=h5}) (ch:=[]) os (DE I.stack I.stkFree un hB st up) (uC hok fz hB st) bare (λb z=>LH z (by simp))
 rw[hst]at fl;refine FQ frames hfr fl λh4 hd4 up4=>?_;refine jR hd4 λh5 fl5 up5=>?_;have I5:=inv fl5.st (up4.trans up5);obtain⟨xs5,_,_,_,he5,_⟩:=fl5.ob;obtain⟨nm,q,N,bs,bm,hdct,sn,sub,ab,col,dd,k0,k1,k2,k3,k5,ni,hC,hCG⟩:=cC;obtain⟨nm',q',N',bs',bm',hdct',sn',sub',ab',col',dd',j0,j1,j2,j3,j5,ni',hG,hGB⟩:=cG;refine wpAny_handleBy_cons (codeAny_handlers_test ?_) (by intro z;cases z);refine Calls.Name_function_global I.ok.kind hg (Calls.loadGlobal_global (by rw[I.ok.glob];exact I5.mod.glob.keeps I5.bk) hm ?_) hdb;refine Fo (I5.bk _ _ hC) (I5.bk _ _ hG) he5 hoc hGB hCG (codeAny_handlers_suite_as ?_);refine jR fl5 λh6 fl6 up6=>?_;have I6:=inv fl6.st ((up4.trans up5).trans up6);obtain⟨ws,_,_,_,he6,_⟩:=fl6.ob;have hBe:B.get? e=none:=fl6.no;have hHe:H2 e=none:=by
  cases z:H2 e with
  |none=>rfl
  |some u=>
   obtain⟨o,ho⟩:=(hok e u z).ob;have:=hB e o ho (.inl (by rw[z];simp)) (λhm=>by rw[fz e hm]at z;cases z);rw[hBe]at this;cases this
 have hen:∀b∈bx X.stack,b≠e:=λb hb z=>by
  subst z;obtain⟨_,o,ho,hnf⟩:=I6.stack.mem hb;rw[he6]at ho;cases ho;exact hnf ws rfl
 have hL:e≠X.env.locals:=λz=>hen X.env.locals (by rw[hst,jP hfr];exact QH) z.symm;have hS1:s1.heap.get? e=none:=by
  cases z:s1.heap.get? e with
  |none=>rfl
  |some o1=>
   obtain⟨o2,h2⟩:=un.there e o1 z (by simp);have:=hB e o2 h2 (.inr ⟨o1,z⟩) (λhm=>hen e hm rfl);rw[hBe]at this;cases this
 have hS0:X.s₀.heap.get? e=none:=by
  cases z:X.s₀.heap.get? e with
  |none=>rfl
  |some o1=>
   obtain⟨o2,h2⟩:=I.base.there e o1 z (by rw[hex];simp);rw[hS1]at h2;cases h2
 have hCe:∀x c,X.env.cells.lookup x=some c->c≠e:=λx c z q=>by
  subst q;obtain⟨v,hv⟩:=I.cell x c z;obtain⟨o,ho,_⟩:=hv;rw[hS1]at ho;cases ho
 have hPe:∀p∈X.pn++pins,p.1≠e:=λp hp q=>by
  have:=(I.pin p hp).1;rw[q,hS1]at this;cases this
 refine jv (I6.track he6 hHe hS0 hL hCe hPe) hN hi (.inl hn) (v:=.ref e) rfl (λs7 I7=>?_) (.inr hn);obtain⟨tt,hp,ht⟩:=hsuite {o with data:=.fields ws} _ hoc rfl hod hHe;refine J9 (hp pins s7 _ _ _ I7.heldT ht) (λf s8 h8=>?_) (λx s8 hx=>hx);cases f with
 |brk=>obtain⟨_,_,_,z⟩:=h8;exact z.elim
 |cont=>obtain⟨_,_,_,z⟩:=h8;exact z.elim
 |ret u=>
  obtain⟨v,σ',H',I8,rv,qq⟩:=h8;have I8':=pr I.ok I8;obtain⟨m,hm8,_⟩:=I8'.loc;refine wpAny_nameGoes hn hm8 (by rw[I.ok.kind];rfl) λh' m' hn' hs'=>?_;exact⟨v,_,H',I8'.lost hn' hs',rv,qq⟩
 |next=>
  obtain⟨σ',H',I8,qq⟩:=h8;have I8':=pr I.ok I8;obtain⟨m,hm8,hl8⟩:=I8'.loc;refine wpAny_nameGoes_keeps hn hm8 (by rw[I.ok.kind];rfl) λh' v' hn' hs'=>?_;exact⟨_,H',I8'.gone hN hi hl8 hn' hs',qq⟩
def GJ (F:bJ X.prog X.w X.K X.mg X.base CX k f fd ps sp)(hr:bH k X.A)(hgf:Gl X fnm)(hmf:X.mg fnm=some (.ref f))(hkf:QT X.K (.ref f)=true)(hb:Binds X.K fd ps [])(hdf:(fnm==("__debug__":Str))=false)(ha:PA (X.wish Eh) (e0::es) t)(he:J8 (e0::es) X.env=(false,eval e0 X.env)::J8 es X.env)(hpl:(J7 q (J8 es X.env)).any (·.1)=false)(I:Inv X pins σ H s)(h:t σ H λvs H1=>sp vs H1 R E)(hx:∀(H1:Hp) (s1:Shared) (ev:Value) (s':Shared),Inv X pins σ H1 s1->CX X.stack H1 s1 E ev s'->Eh ev s'):J5 (J6 X.prog X.w) X.A (eval (.Call (.Name fnm p) (e0::es) [] q) X.env) (EP X pins σ R) Eh s:=by
 refine KB (jn I hgf hmf ?_ hdf);refine PySem.W.callWith_K (h₀:=X.base) I.ok.mod.kin hkf (aY (ha q pins s σ H _ (I.wish Eh) h) λus s1 ⟨vs,H1,I1,r,hsp⟩=>⟨I1.kIn,?_⟩) he hpl;have J:Inv X pins σ H1 s1:=I1.unwish;have hl:us.length=ps.length:=by rw[<-r.length];exact F.len _ _ _ _ hsp
 have hbb:Kx s1 fd ⟨us,[]⟩ (ps.zip us):=by
  have z:=hb s1 us J.kIn (by rw[QU];exact hl);rw[QU]at z;exact z
 refine Kz (KA (F.run X.A X.stack s1 H1 ⟨us,[]⟩ us vs _ _ hr J.env0 hbb r hsp) λres s' hq=>?_);cases res with
 |error ev=>exact hx H1 s1 ev s' J hq
 |ok fl=>
  cases fl with
  |ret u=>exact J.after hq
  |next=>exact False.elim hq
  |brk=>exact False.elim hq
  |cont=>exact False.elim hq
def DB (hst:X.stack=X.env::X.outer)(hfr:X.env.frame=some X.env.locals)(hex:X.ex=[])(F:bJ X.prog X.w X.K X.mg X.base (fk X.prog X.w) k f fd ps sp)(hr:bH k X.A)(hgf:Gl X fnm)(hmf:X.mg fnm=some (.ref f))(hkf:QT X.K (.ref f)=true)(hb:Binds X.K fd ps [])(hdf:(fnm==("__debug__":Str))=false)(ha:∀E,PA (X.wish E) (e0::es) t)(hG:vT X.base G (.type "BaseException"))(hgG:Gl X gn)(hmG:X.mg gn=some (.ref G))(hdG:(gn==("__debug__":Str))=false)(hN:X.N.Nodup)(hi:X.N[i]?=some n)(hn:X.env.scope.names.lookup n=some .local)(he:J8 (e0::es) X.env=(false,eval e0 X.env)::J8 es X.env:=by rfl)(hpl:(J7 q (J8 es X.env)).any (·.1)=false:=by rfl)(hs:Kd (.Call (.Name fnm p) (e0::es) [] q) none p'.line X.env=pure false:=by rfl):
  PS X (.Try [.Expr (.Call (.Name fnm p) (e0::es) [] q) p'] [.ExceptHandler (some (.Name gn np)) (some n) (b₀::suite) hp] [] [] pos)
   (λD σ H=>t σ H λvs H1=>sp vs H1 (λ_ H2=>D.nx σ H2) λcls dx H2=>∃C D',cls=.ref C/\dx=some D'/\vT X.base C (.ref G)/\∀(e:Addr) (oe:Obj) (E':Value->Shared->Prop),oe.cls=.ref C->Lz oe=true->oe.dict=some D'->H2 e=none ->
    ∃tt,cj (X.heldT e E') (b₀::suite) tt/\tt {nx:=λσ' H'=>D.nx (σ'.set i none) H',rt:=D.rt} (σ.set i (some (.ref e))) (aK H2 e (dR oe))):=by
 intro pins s σ H D I h;refine wpAny_Try_except (Kc (wpAny_Expr_any (J9 (GJ (Eh:=λev s'=>_) F hr hgf hmf hkf hb hdf (ha _) he hpl I h λH1 s1 ev s' J hq=>?_) (λu s1 z=>?_) λ_ _ y=>y) I.quiet hs))
 .obtain ⟨C,e,D',o,zz,B,H2,rfl,os,bare,un,hok,fl,hoc,hod,hB,C',D2,eC,eD,hk,hD⟩:=hq;cases eC;cases eD;exact Hz (D:=D) hst hfr J os bare un hok fl hoc hod hB hk hG hgG hmG hdG hN hi hn hex λoe E' hc hnc hdi hz=>hD e oe E' hc hnc hdi hz
 .obtain ⟨v,H2,I2,r,qn⟩:=z;exact Kb (Kb ⟨σ,H2,I2,qn⟩)
end L2
namespace Mini
open PySem PySem.Spec PyProof.Rows L2
noncomputable def vC(K:Qb)(as:List Addr)(H:Hp)(R:VK)(E:VK)(r:Rs):Prop:=match r with
 |.ret (.tup []) m'=>∀as' H' v,Step as H as' H'->aQ K as' m' H'->R v H'
 |.ret (.tup [w]) m'=>∀as' H' v,Step as H as' H'->aQ K as' m' H'->aj K as' H' w v->E v H'
 |_=>False
noncomputable def lY(K:Qb)(as:List Addr)(H:Hp)(R:VK)(E:VK)(r:Rz):Prop:=match r with
 |.ok (.tup []) m'=>∀as' H' v,Step as H as' H'->aQ K as' m' H'->R v H'
 |.ok (.tup [w]) m'=>∀as' H' v,Step as H as' H'->aQ K as' m' H'->aj K as' H' w v->E v H'
 |_=>False
noncomputable def eY(A:Addr)(n:Str)(E:XK):VK:=λv H=>∀D',H D'=none->E (.ref A) (some D') (aK H D' (.xd [(n,v)]))
noncomputable def spS(K:Qb)(A:Addr)(n:Str)(g:List Wd->Me->Rz):Sp:=λvs H R E=>∃as m ws,aQ K as m H/\ae K as H ws vs/\lY K as H R (eY A n E) (g ws m)
def Ce {K:Qb}(h:lY K as H R E (.ok w m)):vC K as H R E (.ret w m):=by
 cases w with
 |tup xs=>
  cases xs with
  |nil=>exact h
  |cons a l=>
   cases l with
   |nil=>exact h
   |cons b l=>exact h.elim
 |_=>exact h.elim
inductive ik(C:Ctx)(x:Str)(sc:JP)(N:List Str):Sm->List Stmt->Prop
 |mk {c c2 e1 e2:Ex}{y y2:Expr}{st1 st4:Stmt}{i k1:Nat}{sp:Str}{np cp p p1 p2 np' cp' p' p1' p2':Pos}(rc:zB c=false) (ic:jj c=false) (hc:aO C sc N c (.e y)) (h1:bC C sc N (.asg i e1) (.s st1)) (rc2:zB c2=false) (ic2:jj c2=false) (hc2:aO C sc N c2 (.e y2))
   (h4:bC C sc N (.ret e2) (.s st4)) (hi:N[i]?=some sp) (hv:fQ sc sp=true) (ov:zw sp=true) (hg:df sc x=true) (ok:zw x=true) :
   ik C x sc N (.seq (.ite c (.ret (.tup (.pair (.lit .non) .unit))) .skip) (.seq (.asg i e1) (.seq (.ite c2 (.ret (.tup (.pair (.var i) .unit))) .skip) (.seq (.expr e2) (.ret (.tup .unit))))))
    [.If y [.Raise (some (.Call (.Name x np) [.Constant .none k1 p1] [] cp)) none p2] [] p,st1,.If y2 [.Raise (some (.Call (.Name x np') [.Name sp p1'] [] cp')) none p2'] [] p',st4]
section
variable{C:Ctx}{X:Cx}{cl:Nat->List Wd->Me->Rz}{d:Nat}{x n a0:Str}{A fI:Addr}{st:Stmt}{E:XK}
def uA:aI cl (.ret (.tup (.pair e .unit))) env m=(af cl e env m).bindS env λw m1=>.ret (.tup [w]) m1:=by
 show((((af cl e env m).bind λx m1=>(Rz.ok (.tup []) m1).bind λy m2=>.ok (.tup (x::zq y)) m2).bind λx m1=>if(zq x).length<=au then .ok (.tup (zq x)) m1 else .no).bindS env λw m1=>.ret w m1)=_;cases af cl e env m with
 |ok w m1=>rfl
 |exc c w m1=>rfl
 |no=>rfl
def Cd (hC:br C X cl d)(hX:dP X.nox)(hm:X.mg x=some (.ref A))(O:bE X.K A fI n a0 st)(hr:qr X n E)(h:ik C x X.env.scope X.N s sts):
  cj X sts (λD σ H=>∃as env m,aQ X.K as m H/\aE X.K as H env σ/\vC X.K as H D.rt (eY A n E) (aI cl s env m)):=by
 cases h with
 |@mk c c2 e1 e2 y y2 st1 st4 i k1 sp np cp p p1 p2 np' cp' p' p1' p2' rc ic hc h1 rc2 ic2 hc2 h4 hi hv ov hg ok=>
  have r1:=gK (X:=X) (E:=E) (np:=np) (cpos:=cp) (pos:=p2) hm O hC.room hC.calm (xA hg) hr (yu (sT (X:=X) (j:=k1) (pos:=p1)) x8) (vx ok).1;have r2:=gK (X:=X) (E:=E) (np:=np') (cpos:=cp') (pos:=p2') hm O hC.room hC.calm (xA hg) hr (yu (kC (X:=X) (pos:=p1') hi (sE hv) (vx ov).1 (vx ov).2) x8) (vx ok).1;have i1:=qS (pos:=p) ((y7 hc X hC rfl rfl).pt rc ic) (xX r1) (vM (X:=X));have i2:=qS (pos:=p') ((y7 hc2 X hC rfl rfl).pt rc2 ic2) (xX r2) (vM (X:=X));have q1:PS X st1 (xt X.K (aI cl (.asg i e1))):=sB (mv (hC.wish _) hX h1);have q4:PS X st4 (xt X.K (aI cl (.ret e2))):=sB (mv (hC.wish _) hX h4);intro pins s0 σ H D I q;refine xN i1 (xN q1 (xN i2 (xX q4))) pins s0 σ H D I ?_;obtain⟨as,env,m,S,G',P⟩:=q;refine⟨as,env,m,S,G',?_⟩;have P0:vC X.K as H D.rt (eY A n E) (match (af cl c env m).bindS env (λx m1=>match x with
    |.bl true=>aI cl (.ret (.tup (.pair (.lit .non) .unit))) env m1
    |.bl false=>.next env m1
    |_=>.no)with
   |.next e m1=>aI cl (.seq (.asg i e1) (.seq (.ite c2 (.ret (.tup (.pair (.var i) .unit))) .skip) (.seq (.expr e2) (.ret (.tup .unit))))) e m1
   |r=>r):=P
  cases hev:af cl c env m with
  |exc _ _ _=>rw[hev]at P0;exact P0.elim
  |no=>rw[hev]at P0;exact P0.elim
  |ok w m1=>
   rw[hev]at P0;intro as1 H1 v T1 S1 R1;cases w with
   |bl b=>
    obtain rfl:=ah.mp R1;refine⟨b,rfl,?_⟩;cases b with
    |true=>
     refine qV ⟨.non,rfl,λD' hD'=>?_⟩;have P1:vC X.K as H D.rt (eY A n E) (.ret (.tup [.non]) m1):=P0;exact P1 as1 H1 .non T1 S1 (ak.mpr rfl) D' hD'
    |false=>
     refine qU ?_;have P1:vC X.K as H D.rt (eY A n E) (match (af cl e1 env m1).bindS env (λw m2=>.next (env.set i (some w)) m2)with
      |.next e m2=>aI cl (.seq (.ite c2 (.ret (.tup (.pair (.var i) .unit))) .skip) (.seq (.expr e2) (.ret (.tup .unit)))) e m2
      |r=>r):=P0
     refine⟨as1,env,m1,S1,G'.mono S T1,?_⟩;show aC X.K as1 H1 _ ((af cl e1 env m1).bindS env (λw m2=>.next (env.set i (some w)) m2));cases hev1:af cl e1 env m1 with
     |exc _ _ _=>rw[hev1]at P1;exact P1.elim
     |no=>rw[hev1]at P1;exact P1.elim
     |ok w1 m2=>
      rw[hev1]at P1;intro as2 H2 σ2 T2 S2 G2;refine⟨as2,env.set i (some w1),m2,S2,G2,?_⟩;have P2:vC X.K as H D.rt (eY A n E) (match (af cl c2 (env.set i (some w1)) m2).bindS (env.set i (some w1)) (λx m3=>match x with
        |.bl true=>aI cl (.ret (.tup (.pair (.var i) .unit))) (env.set i (some w1)) m3
        |.bl false=>.next (env.set i (some w1)) m3
        |_=>.no)with
       |.next e m3=>aI cl (.seq (.expr e2) (.ret (.tup .unit))) e m3
       |r=>r):=P1
      cases hev2:af cl c2 (env.set i (some w1)) m2 with
      |exc _ _ _=>rw[hev2]at P2;exact P2.elim
      |no=>rw[hev2]at P2;exact P2.elim
      |ok w2 m3=>
       rw[hev2]at P2;intro as3 H3 v3 T3 S3 R3;cases w2 with
       |bl b2=>
        obtain rfl:=ah.mp R3;refine⟨b2,rfl,?_⟩;have T123:=(T1.trans T2).trans T3;have G3:=G2.mono S2 T3;cases b2 with
        |true=>
         have P3:vC X.K as H D.rt (eY A n E) (match aI cl (.ret (.tup (.pair (.var i) .unit))) (env.set i (some w1)) m3 with
          |.next e m3=>aI cl (.seq (.expr e2) (.ret (.tup .unit))) e m3
          |r=>r):=P2
         rw[uA]at P3;have P4:vC X.K as H D.rt (eY A n E) (match (match (env.set i (some w1))[i]? with|some (some w)=>Rz.ok w m3|_=>.no).bindS (env.set i (some w1)) (λw m1=>.ret (.tup [w]) m1)with
          |.next e m3=>aI cl (.seq (.expr e2) (.ret (.tup .unit))) e m3
          |r=>r):=P3
         cases hw:(env.set i (some w1))[i]? with
         |none=>rw[hw]at P4;exact P4.elim
         |some o=>
          cases o with
          |none=>rw[hw]at P4;exact P4.elim
          |some w=>
           rw[hw]at P4;obtain⟨v4,hv4,R4⟩:=G3.get i _ hw;refine qV ⟨v4,hv4,v4,rfl,λD' hD'=>?_⟩;exact P4 as3 H3 v4 T123 S3 R4 D' hD'
        |false=>
         refine qU ⟨as3,env.set i (some w1),m3,S3,G3,?_⟩;have P3:vC X.K as H D.rt (eY A n E) (match (af cl e2 (env.set i (some w1)) m3).bindS (env.set i (some w1)) (λ_ m4=>.next (env.set i (some w1)) m4)with
          |.next e m4=>aI cl (.ret (.tup .unit)) e m4
          |r=>r):=P2
         show aC X.K as3 H3 _ ((af cl e2 (env.set i (some w1)) m3).bindS (env.set i (some w1)) (λw m4=>.ret w m4));cases hev3:af cl e2 (env.set i (some w1)) m3 with
         |exc _ _ _=>rw[hev3]at P3;exact P3.elim
         |no=>rw[hev3]at P3;exact P3.elim
         |ok w4 m4=>
          rw[hev3]at P3;have P4:vC X.K as H D.rt (eY A n E) (.ret (.tup []) m4):=P3;exact λas4 H4 v4 T4 S4 _=>P4 as4 H4 v4 (T123.trans T4) S4
       |_=>exact P2.elim
   |_=>exact P0.elim
end
structure ie(C:Ctx)(x:Str)(d:bn):Prop where
 sc:xR d.N d.ps (zo d.st)=true
 ar:d.ps.length=d.fn.ar
 sz:d.N.length=d.fn.sz
 body:ik C x (zo d.st) d.N d.fn.body (zR d.st)
section
variable{P:JS}{w:JT}{K:Qb}{mg:Str->Option Value}{base:JU}{C:Ctx}{cl:Nat->List Wd->Me->Rz}{x n a0:Str}{A fI:Addr}{st:Stmt}
def sM (h:lY K as H R E (y4 cl fn ws m)):ws.length=fn.ar:=by
 unfold y4 at h;split at h
 .assumption
 .exact h.elim
def mP{sc:JP}{N:List Str}{s:Sm}{sts:List Stmt}(h:ik C x sc N s sts)(env:En)(m:Me):match aI cl s env m with
  |.ret v _=>v=.tup []\/∃w,v=.tup [w]
  |.next _ _=>False
  |_=>True:=by
 cases h with
 |@mk c c2 e1 e2 y y2 st1 st4 i k1 sp np cp p p1 p2 np' cp' p' p1' p2' rc ic hc h1 rc2 ic2 hc2 h4 hi hv ov hg ok=>
  show match (match (af cl c env m).bindS env (λx m1=>match x with
    |.bl true=>aI cl (.ret (.tup (.pair (.lit .non) .unit))) env m1
    |.bl false=>.next env m1
    |_=>.no)with
   |.next e m1=>aI cl (.seq (.asg i e1) (.seq (.ite c2 (.ret (.tup (.pair (.var i) .unit))) .skip) (.seq (.expr e2) (.ret (.tup .unit))))) e m1
   |r=>r)with
   |.ret v _=>v=.tup []\/∃w,v=.tup [w]
   |.next _ _=>False
   |_=>True
  cases af cl c env m with
  |exc _ _ _=>trivial
  |no=>trivial
  |ok w m1=>
   cases w with
   |bl b=>
    cases b with
    |true=>exact .inr ⟨_,rfl⟩
    |false=>
     show match (match (af cl e1 env m1).bindS env (λw m2=>.next (env.set i (some w)) m2)with
      |.next e m2=>aI cl (.seq (.ite c2 (.ret (.tup (.pair (.var i) .unit))) .skip) (.seq (.expr e2) (.ret (.tup .unit)))) e m2
      |r=>r)with
      |.ret v _=>v=.tup []\/∃w,v=.tup [w]
      |.next _ _=>False
      |_=>True
     cases af cl e1 env m1 with
     |exc _ _ _=>trivial
     |no=>trivial
     |ok w1 m2=>
      show match (match (af cl c2 (env.set i (some w1)) m2).bindS (env.set i (some w1)) (λx m3=>match x with
        |.bl true=>aI cl (.ret (.tup (.pair (.var i) .unit))) (env.set i (some w1)) m3
        |.bl false=>.next (env.set i (some w1)) m3
        |_=>.no)with
       |.next e m3=>aI cl (.seq (.expr e2) (.ret (.tup .unit))) e m3
       |r=>r)with
       |.ret v _=>v=.tup []\/∃w,v=.tup [w]
       |.next _ _=>False
       |_=>True
      cases af cl c2 (env.set i (some w1)) m2 with
      |exc _ _ _=>trivial
      |no=>trivial
      |ok w2 m3=>
       cases w2 with
       |bl b2=>
        cases b2 with
        |true=>
         show match (match aI cl (.ret (.tup (.pair (.var i) .unit))) (env.set i (some w1)) m3 with
          |.next e m3=>aI cl (.seq (.expr e2) (.ret (.tup .unit))) e m3
          |r=>r)with
          |.ret v _=>v=.tup []\/∃w,v=.tup [w]
          |.next _ _=>False
          |_=>True
         rw[uA];cases af cl (.var i) (env.set i (some w1)) m3 with
         |ok w m4=>exact .inr ⟨_,rfl⟩
         |exc _ _ _=>trivial
         |no=>trivial
        |false=>
         show match (match (af cl e2 (env.set i (some w1)) m3).bindS (env.set i (some w1)) (λ_ m4=>.next (env.set i (some w1)) m4)with
          |.next e m4=>aI cl (.ret (.tup .unit)) e m4
          |r=>r)with
          |.ret v _=>v=.tup []\/∃w,v=.tup [w]
          |.next _ _=>False
          |_=>True
         cases af cl e2 (env.set i (some w1)) m3 with
         |ok w m4=>exact .inl rfl
         |exc _ _ _=>trivial
         |no=>trivial
       |_=>trivial
   |_=>trivial
set_option tactic.hygienic true in
def nC (hd:ie C x d)(ws:List Wd)(m:Me)(v:Wd)(m':Me)(h:y4 cl d.fn ws m=.ok v m'):v=.tup []\/∃w,v=.tup [w]:=by
 have z:=mP (cl:=cl) hd.body (yo d.fn ws) m;unfold y4 at h;split at h
 .cases e:aI cl d.fn.body (yo d.fn ws) m with
  |ret w m1=>rw[e]at h z;cases h;exact z
  |next _ _=>rw[e]at z;exact z.elim
  |brk _ _=>rw[e]at h;cases h
  |cont _ _=>rw[e]at h;cases h
  |exc _ _ _ _=>rw[e]at h;cases h
  |no=>rw[e]at h;cases h
 .cases h
set_option tactic.hygienic true in
def Hi (F:dQ K d.on d.on d.st f fd)(hd:ie C x d)(hm:mg x=some (.ref A))(O:bE K A fI n a0 st)(hfn:∀(i:Nat) (nm:Str),C.fns[i]?=some nm->∃f fd ps,mg nm=some (.ref f)/\QT K (.ref f)=true/\Binds K fd ps []/\bJ P w K mg base cY k f fd ps (jk K (cl i)))(hcon:jJ K w mg C)(hblt:∀nm∈zy,mg nm=none):
  bJ P w K mg base (fk P w) (k+1) f fd d.ps (spS K A n (y4 cl d.fn)):=by
 obtain⟨h1,h2,h3,h4⟩:=hd;have Sc:=vg h1;obtain⟨oc,od,kV,doc,pm,an,cdv,ct,osl,rfl,lk,hcd⟩:=F.ex;refine rV lk hcd Sc (λvs H Q' E h=>?_) λA' outer s H vs Q' E hr h=>?_
 .obtain ⟨as,m,ws,S,R,q⟩:=h;rw[<-R.length,sM q,h2]
 .obtain ⟨as,m,ws,S,R,q⟩:=h;have ha:=sM q;have hC:br C (vO (fk P w) P w K mg base d.N d.on (zo d.st) f cdv A' outer s H E) cl k:=⟨hr,rfl,hfn,hcon,hblt⟩;refine⟨_,Cd hC ⟨Sc.nd,λ_=>rfl,PassesOwn.never⟩ hm O GL h4,as,yo d.fn ws,m,S,kL R ha h3,?_⟩;unfold y4 at q;rw[LF ha]at q;cases hr:aI cl d.fn.body (yo d.fn ws) m with
  |next e m1=>rw[hr]at q;exact q.elim
  |ret w m1=>rw[hr]at q;exact Ce q
  |brk e m1=>rw[hr]at q;exact q.elim
  |cont e m1=>rw[hr]at q;exact q.elim
  |exc c w e m1=>rw[hr]at q;exact q.elim
  |no=>rw[hr]at q;exact q.elim
end
structure fC(K:Qb)(mg:Str->Option Value)(Q:Xc)(G A:Addr):Prop where
 g:mg Q.g=some (.ref G)
 ge:wS K G=true
 gb:Wm K G (.type "BaseException")=some true
 x:∃nx,Q.rs=[nx]/\mg nx=some (.ref A)
 xe:c9 K A
 xm:Wm K A (.ref G)=some true
 xk:Qz K (.ref A) (.ref A)=some true
 o:∀(c:Nat) (x:Str),Q.os[c]?=some x->∃B,mg x=some (.ref B)/\Qz K (.ref A) (.ref B)=some false
noncomputable def iV(sc:JP)(os:List Str):List Expr->Bool
 |[]=>true
 |.Name x _::es=>df sc x&&(zw x&&(os.contains x&&iV sc os es))
 |_=>false
set_option tactic.hygienic true in
theorem pS {X:Cx}(hO:fC X.K X.mg Q G A):∀{ns:List Expr},iV X.env.scope Q.os ns=true->∃ts,cI X.env X.mg ns ts/\ts.length=ns.length/\PySem.W.kitAny X.K (.ref A) (ts.map Value.ref)=some false
 |[],_=>⟨[],.nil,rfl,rfl⟩
 |e::es,h=>by
  unfold iV at h;split at h
  .rename_i q;cases q
  .rename_i x p es' q;cases q;simp only[Qj]at h;obtain⟨h1,h2,h3,h4⟩:=h;obtain⟨c,hc⟩:=List.getElem?_of_mem (List.contains_iff_mem.mp h3);obtain⟨B,mB,kB⟩:=hO.o c x hc;obtain⟨ts,a1,a2,a3⟩:=pS hO h4;refine⟨B::ts,.cons (xA h1) mB (vx h2).1 a1,by simp[a2],?_⟩;show(match Qz X.K (.ref A) (.ref B)with|some true=>some true|some false=>PySem.W.kitAny X.K (.ref A) (ts.map Value.ref)|none=>none)=some false;rw[kB];exact a3
  .cases h
end Mini
namespace L2
open PySem PySem.Spec PySem.Calls PyProof.Rows PySem.W
noncomputable def mr(n ny f:Str)(es:List Expr)(ta tb:Str)(p1 p2 p3 p4 p5 p6 p7 p8 p9 pa pb pc pd pe pf pg ph pi pj pk pl pm pn po:Pos)(k1 k2 k3:Nat):List Stmt:=
 [.If (.BoolOp .Or [.Call (.Name "isinstance" p1) [.Name n p2,.Tuple es k1 p3] [] p4,.UnaryOp .Not (.Call (.Name "isinstance" p5) [.Name n p6,.Name "ValueError" p7] [] p8) p9] pa) [.Return (some (.Constant (.str ta) k2 pb)) pc] [] pd,
  .If (.UnaryOp .Not (.Call (.Name "isinstance" pe) [.Name n pf,.Name ny pg] [] ph) pi) [.Return (some (.Constant (.str tb) k3 pj)) pk] [] pl,
  .Return (some (.Attribute (.Name n pm) f pn)) po]
def Hh {i:Nat}(hk:c9 X.K C)(O:dA X.K C fI f)(hva:kitOne X.K (.ref C) (.type "ValueError")=some true)(h1:kitOne X.K (.ref C) (.ref Y)=some true)(hany:kitAny X.K (.ref C) (ts.map Value.ref)=some false)(hc:oe.cls=.ref C)(hnc:Lz oe=true)(hdi:oe.dict=some D')(hts:cI X.env X.mg es ts)(hz:ts.length<=1000)(hY:Gl X ny)(hmY:X.mg ny=some (.ref Y))(hdY:(ny==("__debug__":Str))=false)(hI:Gl X "isinstance")(hmI:X.mg "isinstance"=none)(hV:Gl X "ValueError")(hmV:X.mg "ValueError"=none)(hN:X.N[i]?=some n)(hn:X.env.scope.names.lookup n=some .local)(hd1:(n==("__debug__":Str))=false)(hd2:(n==("__classdict__":Str))=false)(hv:σ[i]?=some (some (V.ref e)))(hH:H e=some (dR oe))(hD:H D'=some (.xd fs))(hl:fs.lookup f=some v)(hla:Kt (.Name n pm) f X.env (eval (.Name n pm) X.env)=eval (.Name n pm) X.env)(q:∀q2 ts',H q2=none->D.rt v (aK H q2 (.tup ts'))):
  ∃tt,cj X (mr n ny f es ta tb p1 p2 p3 p4 p5 p6 p7 p8 p9 pa pb pc pd pe pf pg ph pi pj pk pl pm pn po k1 k2 k3) tt/\tt D σ H:=by
 have cR:=Fm (X:=X) (x:=e) hk hc;have bI:JZ "isinstance"=some (.builtin "isinstance"):=by rfl
 have bV:JZ "ValueError"=some (.type "ValueError"):=by rfl
 have hnm:∀{p:Pos},PE X (.Name n p) (fM i):=λ{p}=>kC hN (.inl hn) hd1 hd2;have c1:PE X (.Call (.Name "isinstance" p1) [.Name n p2,.Tuple es k1 p3] [] p4) _:=yN cR hI hmI bI (yu hnm (yu (sW (Cf hts)) x8));have c2:PE X (.Call (.Name "isinstance" p5) [.Name n p6,.Name "ValueError" p7] [] p8) _:=yN cR hI hmI bI (yu hnm (yu (uf (v:=.ty "ValueError") hV hmV bV rfl) x8));have c3:PE X (.Call (.Name "isinstance" pe) [.Name n pf,.Name ny pg] [] ph) _:=yN cR hI hmI bI (yu hnm (yu (qc (v:=.ref Y) hY hmY rfl hdY) x8));have s1:=qS (pos:=pd) (r6 (pos:=pa) (qd c1) (sS (mK (pos:=p9) (qd c2)))).pt (xX (jw (pos:=pc) (g9 (X:=X) (x:=ta) (j:=k2) (pos:=pb)))) vM;have s2:=qS (pos:=pl) (mK (pos:=pi) (qd c3)) (xX (jw (pos:=pk) (g9 (X:=X) (x:=tb) (j:=k3) (pos:=pj)))) vM;have s3:=jw (pos:=po) (DC (pos:=pn) (e:=e) (D:=D') hN hn hd1 hd2 hk O hc hnc hdi hla);refine⟨_,xN s1 (xN s2 (xX s3)),?_⟩;have sz:(ts.map V.ref).length<=sizeLine:=by
  rw[Qw];exact WZ (GX hz)
 refine⟨.ref e,hv,Cg ⟨sz,λq2 h2=>⟨by rw[zf (zp hH h2)];exact hH,.inr ⟨q2,ts.map V.ref,false,rfl,zh,λus hu=>by rw[uv hu];exact hany,false,rfl,?_⟩⟩⟩⟩;have hH2:aK H q2 (.tup (ts.map V.ref)) e=some (dR oe):=by rw[zf (zp hH h2)];exact hH
 have hD2:aK H q2 (.tup (ts.map V.ref)) D'=some (.xd fs):=by rw[zf (zp hD h2)];exact hD
 refine⟨.ref e,hv,hH2,.inl ⟨.ty "ValueError",.type "ValueError",true,rfl,rfl,λ_ z=>z,hva,true,rfl,?_⟩⟩;refine⟨.ref e,hv,hH2,.inl ⟨.ref Y,.ref Y,true,rfl,rfl,λ_ z=>z,h1,true,rfl,?_⟩⟩;exact⟨hv,hH2,fs,v,hD2,hl,q q2 _ h2⟩
end L2
namespace Mini
open PySem PySem.Spec PyProof.Rows L2
inductive ln(C:Ctx)(Q:Xc)(kx:Nat)(nm f:Str)(sc:JP)(N:List Str):Sm->List Stmt->Prop
 |mk {i:Nat}{a:Ex}{n ny ta tb tc:Str}{lb:List Nat}{a0:Expr}{es ns:List Expr}{p q p' np hp pos r1 r2 p1 p2 p3 p4 p5 p6 p7 p8 p9 pa pb pc pd pe pf pg ph pi pj pk pl pm pn po:Pos}{k1 k2 k3 k4:Nat}
   (hg:df sc nm=true) (ok:zw nm=true) (hs:(a0::es).all zE=true) (ha:aO C sc N a (.a (a0::es))) (gg:df sc Q.g=true) (og:zw Q.g=true) (hi:N[i]?=some n) (hn:decide (sc.names.lookup n=some .local)=true) (on:zw n=true)
   (hns:iV sc Q.os ns=true) (hz:ns.length<=1000) (hy:Q.rs=[ny]) (gy:df sc ny=true) (oy:zw ny=true) (gI:df sc "isinstance"=true) (gV:df sc "ValueError"=true) (e2:tc.cps.toList=lb) :
   ln C Q kx nm f sc N (.seq (.asg i (.call kx a)) (.ite (.cmp .eq (.blt .len (.pair (.var i) .unit)) (.lit (.int 0))) (.ret (.lit (.str lb))) (.ret (.idx (.var i) (.lit (.int 0))))))
    [.Try [.Expr (.Call (.Name nm p) (a0::es) [] q) p'] [.ExceptHandler (some (.Name Q.g np)) (some n) (mr n ny f ns ta tb p1 p2 p3 p4 p5 p6 p7 p8 p9 pa pb pc pd pe pf pg ph pi pj pk pl pm pn po k1 k2 k3) hp] [] [] pos,.Return (some (.Constant (.str tc) k4 r1)) r2]
section
variable{C:Ctx}{Q:Xc}{X:Cx}{cl:Nat->List Wd->Me->Rz}{d kx:Nat}{G A fI:Addr}{nm f:Str}
def Cc (hC:br C X cl d)(hst:X.stack=X.env::X.outer)(hfr:X.env.frame=some X.env.locals)(hex:X.ex=[])(hO:fC X.K X.mg Q G A)(va:Qz X.K (.ref A) (.type "ValueError")=some true)(mV:X.mg "ValueError"=none)(kb:X.K.In X.base)(On:dA X.K A fI f)(eA:wS X.K A=true)(hF:∃fa fd ps,X.mg nm=some (.ref fa)/\QT X.K (.ref fa)=true/\Binds X.K fd ps []/\bJ X.prog X.w X.K X.mg X.base (fk X.prog X.w) d fa fd ps (spS X.K A f (cl kx)))(val:∀ws m v m',cl kx ws m=.ok v m'->v=.tup []\/∃w,v=.tup [w])(hN:X.N.Nodup)(h:ln C Q kx nm f X.env.scope X.N s sts):cj X sts (xt X.K (aI cl s)):=by
 cases h with
 |@mk i a n ny ta tb tc lb a0 es ns p q p' np hp pos r1 r2 p1 p2 p3 p4 p5 p6 p7 p8 p9 pa pb pc pd pe pf pg ph pi pj pk pl pm pn po k1 k2 k3 k4 hg ok hs ha gg og hi hn on hns hz hy gy oy gI gV e2=>
  obtain⟨fa,fd,ps,f1,f2,f3,f4⟩:=hF;have hs':=hs;rw[Wp,Qj]at hs';have hn':=LK hn;obtain⟨ts,u1,u2,u3⟩:=pS hO hns;obtain⟨ny',hrs,mY⟩:=hO.x;rw[hy]at hrs;cases hrs;have hGB:vT X.base G (.type "BaseException"):=(lq kb hO.ge).2 _ hO.gb;have hAG:vT X.base A (.ref G):=(lq kb eA).2 _ hO.xm;have pT:PS X (.Try [.Expr (.Call (.Name nm p) (a0::es) [] q) p'] [.ExceptHandler (some (.Name Q.g np)) (some n) (mr n ny f ns ta tb p1 p2 p3 p4 p5 p6 p7 p8 p9 pa pb pc pd pe pf pg ph pi pj pk pl pm pn po k1 k2 k3) hp] [] [] pos) _:=DB (X:=X) (G:=G) (p:=p) (q:=q) (p':=p') (np:=np) (hp:=hp) (pos:=pos)
   hst hfr hex f4 hC.room (xA hg) f1 f2 f3 (vx ok).1 (t:=jl X.K (af cl a)) (λE=>y7 ha (X.wish E) (hC.wish E) rfl rfl) hGB (xA gg) hO.g (vx og).1 hN hi hn' (zA hs'.1) (yh hs'.2) (mw (by rfl))
  have pR:PS X (.Return (some (.Constant (.str tc) k4 r1)) r2) _:=jw (pos:=r2) (g9 (X:=X) (x:=tc) (j:=k4) (pos:=r1));intro pins s σ H D I qq;refine xN pT (xX pR) pins s σ H D I ?_;have hiσ:i<σ.length:=by rw[I.len];exact(Qa.mp hi).1
  obtain⟨as,env,m,S,G',P⟩:=qq;have P0:aC X.K as H D (match ((af cl a env m).bind λw m1=>cl kx (zq w) m1).bindS env (λw m1=>.next (env.set i (some w)) m1)with
   |.next e m1=>aI cl (.ite (.cmp .eq (.blt .len (.pair (.var i) .unit)) (.lit (.int 0))) (.ret (.lit (.str lb))) (.ret (.idx (.var i) (.lit (.int 0))))) e m1
   |r=>r):=P
  refine⟨as,env,m,S,G',?_⟩;cases hev:af cl a env m with
  |exc _ _ _=>rw[hev]at P0;exact P0.elim
  |no=>rw[hev]at P0;exact P0.elim
  |ok wa m1=>
   rw[hev]at P0;intro as1 H1 vs T1 S1 R1;refine⟨as1,m1,zq wa,S1,R1,?_⟩;have P1:aC X.K as H D (match (cl kx (zq wa) m1).bindS env (λw m1=>.next (env.set i (some w)) m1)with
    |.next e m1=>aI cl (.ite (.cmp .eq (.blt .len (.pair (.var i) .unit)) (.lit (.int 0))) (.ret (.lit (.str lb))) (.ret (.idx (.var i) (.lit (.int 0))))) e m1
    |r=>r):=P0
   cases hcl:cl kx (zq wa) m1 with
   |exc c w' m2=>rw[hcl]at P1;exact P1.elim
   |no=>rw[hcl]at P1;exact P1.elim
   |ok u m2=>
    rw[hcl]at P1;have hie:i<env.length:=by rw[G'.len];exact hiσ
    have hi2:(env.set i (some u))[i]?=some (some u):=QM hie;have ec:∀xs,u=.tup xs->af cl (.cmp .eq (.blt .len (.pair (.var i) .unit)) (.lit (.int 0))) (env.set i (some u)) m2=.ok (.bl (decide ((xs.length:Int)=0))) m2:=λxs e=>by
     show((((match (env.set i (some u))[i]? with|some (some w)=>Rz.ok w m2|_=>.no).bind λx m1=>(Rz.ok (.tup []) m1).bind λy m2=>.ok (.tup (x::zq y)) m2).bind λx m1=>jD .len (zq x) m1).bind λx m1=>(Rz.ok (.int 0) m1).bind λy m2=>cop .eq x y m2)=_;rw[hi2,e];rfl
    have P3:aC X.K as H D ((af cl (.cmp .eq (.blt .len (.pair (.var i) .unit)) (.lit (.int 0))) (env.set i (some u)) m2).bindS (env.set i (some u)) λb m3=>match b with
     |.bl true=>aI cl (.ret (.lit (.str lb))) (env.set i (some u)) m3
     |.bl false=>aI cl (.ret (.idx (.var i) (.lit (.int 0)))) (env.set i (some u)) m3
     |_=>.no):=P1
    rcases val _ _ _ _ hcl with rfl|⟨w,rfl⟩
    .rw[ec [] rfl]at P3;intro as2 H2 v2 T2 S2;have P4:aC X.K as H D (.ret (.str lb) m2):=P3;exact P4 as2 H2 (.str tc) (T1.trans T2) S2 (ax.mpr (by subst e2;simp))
    .rw[ec [w] rfl]at P3;intro as2 H2 v2 T2 S2 R2 D' hD';have e3:af cl (.idx (.var i) (.lit (.int 0))) (env.set i (some (.tup [w]))) m2=.ok w m2:=by
      show((match (env.set i (some (.tup [w])))[i]? with|some (some w)=>Rz.ok w m2|_=>.no).bind λx m1=>(Rz.ok (.int 0) m1).bind λy m2=>vq x y m2)=_;rw[hi2];rfl
     have P4:aC X.K as H D ((af cl (.idx (.var i) (.lit (.int 0))) (env.set i (some (.tup [w]))) m2).bindS (env.set i (some (.tup [w]))) λw m1=>.ret w m1):=P3;rw[e3]at P4;refine⟨A,D',rfl,rfl,hAG,λe oe E' hoe hnc hdi hHe=>?_⟩;have hv:(σ.set i (some (V.ref e)))[i]?=some (some (V.ref e)):=QM hiσ;have hDe:D'≠e:=λz=>by rw[z,zh]at hHe;cases hHe
     have hxd:aK (aK H2 D' (.xd [(f,v2)])) e (dR oe) D'=some (.xd [(f,v2)]):=by rw[zf hDe];exact zh
     refine Hh (X:=X.heldT e E') (C:=A) (Y:=A) (e:=e) (fs:=[(f,v2)]) (v:=v2) hO.xe On va hO.xk u3 hoe hnc hdi u1 (by rw[u2];exact hz) (xA gy) mY (vx oy).1 (xA gI) (hC.blt _ (by simp[zy])) (xA gV) mV hi hn' (vx on).1 (vx on).2 hv zh hxd (by simp) rfl λq2 ts' h2=>?_;obtain⟨Ta,Sa⟩:=qp S2 hD' (.xd [(f,v2)]);obtain⟨Tb,Sb⟩:=qp Sa hHe (dR oe);obtain⟨Tc,Sc⟩:=qp Sb h2 (.tup ts');have TT:=(Ta.trans Tb).trans Tc;exact P4 as2 _ v2 ((T1.trans T2).trans TT) Sc (R2.mono S2 TT)
end
structure ig(C:Ctx)(Q:Xc)(kx:Nat)(nm f:Str)(d:bn):Prop where
 sc:xR d.N d.ps (zo d.st)=true
 ar:d.ps.length=d.fn.ar
 sz:d.N.length=d.fn.sz
 body:ln C Q kx nm f (zo d.st) d.N d.fn.body (zR d.st)
section
variable{P:JS}{w:JT}{K:Qb}{mg:Str->Option Value}{base:JU}{C:Ctx}{Q:Xc}{cl:Nat->List Wd->Me->Rz}{kx:Nat}{nm f:Str}{G A fI:Addr}
set_option tactic.hygienic true in
def Hg (F:dQ K d.on d.on d.st fa fd)(hd:ig C Q kx nm f d)(kb:K.In base)(hO:fC K mg Q G A)(va:Qz K (.ref A) (.type "ValueError")=some true)(mV:mg "ValueError"=none)(On:dA K A fI f)(eA:wS K A=true)(hF:∃fa fd ps,mg nm=some (.ref fa)/\QT K (.ref fa)=true/\Binds K fd ps []/\bJ P w K mg base (fk P w) k fa fd ps (spS K A f (cl kx)))(val:∀ws m v m',cl kx ws m=.ok v m'->v=.tup []\/∃w,v=.tup [w])(hfn:∀(i:Nat) (nm:Str),C.fns[i]?=some nm->∃f fd ps,mg nm=some (.ref f)/\QT K (.ref f)=true/\Binds K fd ps []/\bJ P w K mg base cY k f fd ps (jk K (cl i)))(hcon:jJ K w mg C)(hblt:∀nm∈zy,mg nm=none):
  bJ P w K mg base cY (k+1) fa fd d.ps (jk K (y4 cl d.fn)):=by
 obtain⟨h1,h2,h3,h4⟩:=hd;have Sc:=vg h1;refine F.ok Sc (λvs H Q' E h=>?_) (λcdv A' outer s H vs Q' E hr h=>?_)
 .obtain ⟨as,m,ws,S,R,q⟩:=h;rw[<-R.length,c6 q,h2]
 .obtain ⟨as,m,ws,S,R,q⟩:=h;have ha:=c6 q;have hC:br C (vO cY P w K mg base d.N d.on (zo d.st) fa cdv A' outer s H E).nox cl k:=⟨hr,rfl,hfn,hcon,hblt⟩;refine⟨_,Cc hC rfl rfl rfl hO va mV kb On eA hF val Sc.nd h4,as,yo d.fn ws,m,S,kL R ha h3,?_⟩;unfold y4 at q;rw[LF ha]at q;cases hr:aI cl d.fn.body (yo d.fn ws) m with
  |next e m1=>rw[hr]at q;exact λas' H' σ' T S' G'=>q as' H' .non T S' (ak.mpr rfl)
  |ret w m1=>rw[hr]at q;exact λas' H' v T S' R'=>q as' H' v T S' R'
  |brk e m1=>rw[hr]at q;exact q.elim
  |cont e m1=>rw[hr]at q;exact q.elim
  |exc c w e m1=>rw[hr]at q;exact q.elim
  |no=>rw[hr]at q;exact q.elim
end
section
variable{P:JS}{w:JT}{K:Qb}{mg:Str->Option Value}{base:JU}{C:Ctx}{Q:Xc}{x n a0:Str}{G A fI:Addr}{st:Stmt}
theorem sL {D:List bn}(hC:C.fns=D.map (·.nm))(hD:∀d∈D,lh C d\/ig C Q D.length xd.nm n d)(hX:ie C x xd)(hB:∀d∈D,fD d)(hBX:fD xd)(hK:∀d∈D,wR K mg d)(hKX:wR K mg xd)(kb:K.In base)(hO:fC K mg Q G A)(va:Qz K (.ref A) (.type "ValueError")=some true)(mV:mg "ValueError"=none)(hm:mg x=some (.ref A))(O:bE K A fI n a0 st)(hcon:jJ K w mg C)(hblt:∀nm∈zy,mg nm=none):
  ∀k:Nat,(∀(i:Nat) (d:bn),D[i]?=some d->∀f fd,dQ K d.on d.on d.st f fd->bJ P w K mg base cY k f fd d.ps (jk K (zZ (D.map (·.fn)++[xd.fn]) k i))) /\
   (∃f fd ps,mg xd.nm=some (.ref f)/\QT K (.ref f)=true/\Binds K fd ps []/\bJ P w K mg base (fk P w) k f fd ps (spS K A n (zZ (D.map (·.fn)++[xd.fn]) k D.length))) /\
   ∀ws m v m',zZ (D.map (·.fn)++[xd.fn]) k D.length ws m=.ok v m'->v=.tup []\/∃w,v=.tup [w]
 |0=>by
  have no:∀{i:Nat}{vs:List V}{H:Hp}{R:VK}{E:XK},¬jk K (zZ (D.map (·.fn)++[xd.fn]) 0 i) vs H R E:=λ{i vs H R E} h=>by
   obtain⟨as,m,ws,S,R,q⟩:=h;exact q
  have noS:∀{i:Nat}{vs:List V}{H:Hp}{R:VK}{E:XK},¬spS K A n (zZ (D.map (·.fn)++[xd.fn]) 0 i) vs H R E:=λ{i vs H R E} h=>by
   obtain⟨as,m,ws,S,R,q⟩:=h;exact q
  refine⟨λi d hi f fd F=>⟨λvs H R E h=>(no h).elim,λA outer s H args us vs R E _ _ _ _ h=>(no h).elim⟩,?_,λws m v m' h=>by cases h⟩;obtain⟨f,fd,F,hm⟩:=hKX;exact⟨f,fd,xd.ps,hm,F.kp,F.binds hBX,⟨λvs H R E h=>(noS h).elim,λA outer s H args us vs R E _ _ _ _ h=>(noS h).elim⟩⟩
 |k+1=>by
  obtain⟨ih,ihX,ihV⟩:=sL hC hD hX hB hBX hK hKX kb hO va mV hm O hcon hblt k;have hfn:∀(j:Nat) (nm:Str),C.fns[j]?=some nm->∃f fd ps,mg nm=some (.ref f)/\QT K (.ref f)=true/\Binds K fd ps []/\bJ P w K mg base cY k f fd ps (jk K (zZ (D.map (·.fn)++[xd.fn]) k j)):=λj nm hj=>by
   rw[hC,Qs]at hj;cases hx:D[j]? with
   |none=>rw[hx]at hj;cases hj
   |some d'=>
    rw[hx]at hj;cases hj;obtain⟨f',fd',F',m'⟩:=hK d' (QA hx);exact⟨f',fd',d'.ps,m',F'.kp,F'.binds (hB d' (QA hx)),ih j d' hx f' fd' F'⟩
  have at1:∀{i:Nat}{d:bn},D[i]?=some d->zZ (D.map (·.fn)++[xd.fn]) (k+1) i=y4 (zZ (D.map (·.fn)++[xd.fn]) k) d.fn:=λ{i d} hi=>by
   funext ws m;have z:(D.map bn.fn++[xd.fn])[i]?=some d.fn:=by
    rw[Qq (by rw[Qw];exact(Qa.mp hi).1),Qs,hi];rfl
   show(match ((D.map bn.fn)++[xd.fn]:List Fn)[i]? with
    |some fn=>y4 (zZ (D.map bn.fn++[xd.fn]) k) fn ws m
    |none=>.no)=_
   rw[z]
  have at2:zZ (D.map (·.fn)++[xd.fn]) (k+1) D.length=y4 (zZ (D.map (·.fn)++[xd.fn]) k) xd.fn:=by
   funext ws m;have z:(D.map bn.fn++[xd.fn])[D.length]?=some xd.fn:=by
    rw[Qn (by rw[Qw];exact Ql _),Qw,Nat.sub_self];rfl
   show(match ((D.map bn.fn)++[xd.fn]:List Fn)[D.length]? with
    |some fn=>y4 (zZ (D.map bn.fn++[xd.fn]) k) fn ws m
    |none=>.no)=_
   rw[z]
  refine⟨λi d hi f fd F=>?_,?_,?_⟩
  .rw[at1 hi];rcases hD d (QA hi)with h|h
   .exact Fs F h hfn hcon hblt
   .exact Hg F h kb hO va mV O.own O.cls ihX ihV hfn hcon hblt
  .obtain ⟨f,fd,F,m'⟩:=hKX;rw[at2];exact⟨f,fd,xd.ps,m',F.kp,F.binds hBX,Hi F hX hm O hfn hcon hblt⟩
  .rw[at2];exact nC hX
end
def Hf {K:Qb}{ns:List Int}(hO:fP H)(hS:bG K H a (ns.map V.int))(h:∃m,zZ T k i [.rol (ns.map Wd.int)] []=.ok (.bl true) m):
  jk K (zZ T k i) [.ref a] H (λv _=>v=.bl true) E:=by
 have e:∀l:List Fn,(l.map λf=>(⟨"",.Pass ⟨0,0,0,0⟩,[],[],f,""⟩:bn)).map (·.fn)=l:=λl=>by
  induction l with
  |nil=>rfl
  |cons f l ih=>show f::_=_;rw[ih]
 have z:=Fq (D:=T.map λf=>(⟨"",.Pass ⟨0,0,0,0⟩,[],[],f,""⟩:bn)) (k:=k) (i:=i) (E:=E) hO hS;rw[e]at z;exact z h
def BV {l:PySem.W.OpenLaw}{Kp:JQ->Qb}{D:List bn}{st:Stmt}{dl:bn}(hn:l.most=some n)(hn2:n<=sizeLine)(hdf:d.params.defaults=[])(hr:bH k K8)(hY:∀(w:JT) (h:JU),YP w h->(Kp w.params).In h)(hC:C.fns=D.map (·.nm))(hD:∀d∈D,lh C d\/ig C Q D.length xd.nm nn d)(hX:ie C xc xd)(hB:∀d∈D,fD d)(hBX:fD xd)(hi:D[i]?=some dl)(hx:dl.ps=[x])(hnm:d.name=dl.nm)(F:∀(w:JT) (mg:Str->Option Value) (fa:Addr) (h:JU),(Kp w.params).In h->h.Ns JY mg->mg d.name=some (.ref fa) ->
   ((∀e∈D,wR (Kp w.params) mg e)/\jJ (Kp w.params) w mg C/\∀nm∈zy,mg nm=none)/\wR (Kp w.params) mg xd/\∃G A fI,fC (Kp w.params) mg Q G A/\Qz (Kp w.params) (.ref A) (.type "ValueError")=some true/\mg "ValueError"=none/\mg xc=some (.ref A)/\bE (Kp w.params) A fI nn a0 st)(hpure:∀ns:List Int,ns.length<=n->∃m,zZ (D.map (·.fn)++[xd.fn]) k i [.rol (ns.map Wd.int)] []=.ok (.bl true) m):
  Vr q loose XP YP l.row.toRowW d [] (λf vs=>PySem.call f vs):=by
 refine L2.EO (n:=n) (k:=k) (x:=x) (CX:=λ_=>cY) (sp:=λw=>jk (Kp w.params) (zZ (D.map (·.fn)++[xd.fn]) k i)) hn hn2 hdf hr hY ?_ (λw H a ns hl hO hS=>Hf hO hS (hpure ns hl)) λ_ _ _ _ _ z=>z;intro w mg fa h KX Gn hmg;obtain⟨⟨h1,h2,h3⟩,h4,G,A,fI,h5,ha,hb,h6,h7⟩:=F w mg fa h KX Gn hmg;obtain⟨f,fd,Ff,hm⟩:=h1 dl (QA hi);rw[hnm,hm]at hmg;cases hmg;refine⟨fd,λs u=>?_,λbase kb nb=>?_⟩
 .obtain ⟨oc,od,kV,doc,pm,an,cdv,ct,osl,rfl,lk,hcd⟩:=Ff.ex;have z:=hB dl (QA hi) kV doc pm an cdv ct [u] (by rw[hx];rfl);rw[hx]at z;exact .of_eq z
 .rw[<-hx];exact(sL hC hD hX hB hBX h1 h4 kb h5 ha hb h6 h7 h2 h3 k).1 i dl hi fa fd Ff
end Mini
namespace Mini
namespace Vl
inductive Dat where
 |non|bl (b:Bool)|int (i:Int)|str (s:List Nat)|tup (xs:List Dat)|lst (xs:List Dat)|scr (ns:List Int)
deriving Inhabited
inductive Lv where|no|top|full
deriving DecidableEq,Inhabited
abbrev aN:=List (Option Dat)
inductive Rd where|ok (d:Dat)|exc (c:Nat) (d:Dat)|no
deriving Inhabited
noncomputable def Rd.bind(r:Rd)(f:Dat->Rd):Rd:=match r with
 |.ok d=>f d
 |.exc c d=>.exc c d
 |.no=>.no
mutual
noncomputable def ay:Dat->Bool
 |.lst _=>false
 |.tup xs=>aW xs
 |.non=>true
 |.bl _=>true
 |.int _=>true
 |.str _=>true
 |.scr _=>true
noncomputable def aW:List Dat->Bool
 |[]=>true
 |d::ds=>ay d&&aW ds
end
mutual
noncomputable def yG:Nat->Dat->Bool
 |0,_=>false
 |_+1,.scr _=>false
 |k+1,.tup xs=>bq k xs
 |k+1,.lst xs=>bq k xs
 |_+1,.non=>true
 |_+1,.bl _=>true
 |_+1,.int _=>true
 |_+1,.str _=>true
noncomputable def bq:Nat->List Dat->Bool
 |_,[]=>true
 |k,d::ds=>yG k d&&bq k ds
end
mutual
noncomputable def cW:Dat->Dat->Bool
 |.tup a,.tup b=>cb a b
 |.lst a,.lst b=>cb a b
 |.non,.non=>true
 |.bl a,.bl b=>a==b
 |.int a,.int b=>decide (a=b)
 |.bl a,.int b=>decide (b2i a=b)
 |.int a,.bl b=>decide (a=b2i b)
 |.str a,.str b=>decide (a=b)
 |_,_=>false
noncomputable def cb:List Dat->List Dat->Bool
 |[],[]=>true
 |x::xs,y::ys=>cW x y&&cb xs ys
 |_,_=>false
end
noncomputable def wc:Dat->Option (List Dat)
 |.tup xs=>some xs
 |.lst xs=>some xs
 |.scr ns=>some (ns.map .int)
 |_=>none
noncomputable def cu:Dat->Option (List Dat)
 |.lst xs=>some xs
 |.scr ns=>some (ns.map .int)
 |_=>none
noncomputable def yB(xs:List Dat):Rd:=if xs.length<=au then .ok (.lst xs)else .no
noncomputable def yW(op:Bo)(x y:Dat):Rd:=match x,y with
 |.int i,.int j=>match op with
  |.add=>.ok (.int (i+j))
  |.sub=>.ok (.int (i-j))
  |.mul=>if yx i || yx j then .ok (.int (i*j))else .no
  |.fdiv=>if 0<j/\j<1073741824 then .ok (.int (i/j))else .no
  |.mod=>if 0<j then .ok (.int (i%j))else .no
  |.pow=>if 0<=j/\j<=1000000/\yx i=true then .ok (.int (i^j.toNat))else .no
  |.shr=>if 0<=j/\j<=1000 then .ok (.int (i/2^j.toNat))else .no
  |.band=>if 0<=i/\j=1 then .ok (.int (i%2))else .no
 |.lst xs,.lst ys=>match op with
  |.add=>yB (xs++ys)
  |_=>.no
 |.lst xs,.int k=>match op with
  |.mul=>if -au<=k/\k<=au then yB (Qu k.toNat xs).flatten else .no
  |_=>.no
 |.tup xs,.tup ys=>match op with
  |.add=>if xs.length+ys.length<=au then .ok (.tup (xs++ys))else .no
  |_=>.no
 |_,_=>.no
noncomputable def dN(x y:Dat):Option Bool:=if yG yJ x&&yG yJ y then some (cW x y)else none
noncomputable def fX(x:Dat)(ys:List Dat):Option Bool:=if yG yJ x&&bq yJ ys then some (ys.any λy=>cW y x)else none
noncomputable def qs:Option Bool->Rd
 |some b=>.ok (.bl b)
 |none=>.no
noncomputable def fJ(r:Int->Int->Bool)(x y:Dat):Rd:=match x,y with
 |.int i,.int j=>.ok (.bl (r i j))
 |_,_=>.no
noncomputable def wT:List Dat->Option (List Int)
 |[]=>some []
 |.int i::r=>(wT r).map (i::·)
 |_=>none
noncomputable def nW(x y:Dat):Option Bool:=match y with
 |_=>none
noncomputable def yH(op:Co)(x y:Dat):Rd:=match op with
 |.eq=>qs (dN x y)
 |.ne=>qs ((dN x y).map (!·))
 |.isN=>match y,x with
  |.non,.non=>.ok (.bl true)
  |.non,_=>.ok (.bl false)
  |_,_=>.no
 |.notN=>match y,x with
  |.non,.non=>.ok (.bl false)
  |.non,_=>.ok (.bl true)
  |_,_=>.no
 |.isin=>match wc y with
  |some ys=>qs (fX x ys)
  |none=>qs (nW x y)
 |.lt=>fJ (λi j=>decide (i<j)) x y
 |.le=>fJ (λi j=>decide (i<=j)) x y
 |.gt=>fJ (λi j=>decide (j<i)) x y
 |.ge=>fJ (λi j=>decide (j<=i)) x y
noncomputable def cn(t:Tg)(x:Dat):Bool:=match t with
 |.int=>match x with
  |.int _=>true
  |.bl _=>true
  |_=>false
 |.bool=>match x with
  |.bl _=>true
  |_=>false
 |.str=>match x with
  |.str _=>true
  |_=>false
 |.tuple=>match x with
  |.tup _=>true
  |_=>false
 |.list=>match x with
  |.scr _=>true
  |.lst _=>true
  |_=>false
 |.dict=>match x with
  |_=>false
noncomputable def qt:List Dat->Option Int
 |[]=>some 0
 |.int i::r=>(qt r).map (i+·)
 |_=>none
noncomputable def jS:List Dat->Option Bool
 |[]=>some true
 |.bl b::r=>(jS r).map (b && ·)
 |_=>none
noncomputable def y6(b:dW)(ws:List Dat):Rd:=match b with
 |.sortI=>match ws with
  |[x]=>match (cu x).bind wT with
   |some k=>if k.length<64 then yB ((fq k).map Dat.int)else .no
   |none=>.no
  |_=>.no
 |.len=>match ws with
  |[x]=>match wc x with
   |some xs=>.ok (.int xs.length)
   |none=>.no
  |_=>.no
 |.int=>match ws with
  |[.int i]=>.ok (.int i)
  |[.bl b]=>.ok (.int (b2i b))
  |_=>.no
 |.list=>match ws with
  |[x]=>match wc x with
   |some xs=>yB xs
   |none=>.no
  |_=>.no
 |.tuple=>match ws with
  |[x]=>match wc x with
   |some xs=>.ok (.tup xs)
   |none=>.no
  |_=>.no
 |.sum=>match ws with
  |[x]=>match (cu x).bind qt with
   |some i=>.ok (.int i)
   |none=>.no
  |_=>.no
 |.all=>match ws with
  |[x]=>match (cu x).bind jS with
   |some i=>.ok (.bl i)
   |none=>.no
  |_=>.no
 |.abs=>match ws with
  |[.int i]=>.ok (.int (if i<0 then -i else i))
  |_=>.no
 |.max2=>match ws with
  |[.int i,.int j]=>.ok (.int (if j > i then j else i))
  |_=>.no
noncomputable def yl(x y:Dat):Rd:=match y with
 |.int i=>match wc x with
  |some xs=>match (ix xs.length i).bind λj=>xs[j]? with
   |some v=>.ok v
   |none=>.no
  |none=>.no
 |_=>.no
noncomputable def dD(x:Dat)(lo hi:Option Int):Rd:=match x with
 |.tup xs=>if aP xs.length 0 lo=0/\aP xs.length xs.length hi=xs.length then .no else .ok (.tup ((xs.drop (aP xs.length 0 lo)).take (aP xs.length xs.length hi-aP xs.length 0 lo)))
 |x=>match cu x with
 |some xs=>yB ((xs.drop (aP xs.length 0 lo)).take (aP xs.length xs.length hi-aP xs.length 0 lo))
 |none=>.no
noncomputable def yC(lo st:Int)(n:Nat):List Dat:=(QI n).map λ(i:Nat)=>.int (lo+st*(i:Int))
noncomputable def fH:List Dat->Option (List (List Int))
 |[]=>some []
 |.tup ws::r=>match wT ws,fH r with
  |some [a,b,c],some ks=>some ([a,b,c]::ks)
  |_,_=>none
 |_=>none
noncomputable def lW(x:Dat):Option (List (List Int)):=match x with
 |.lst ds=>fH ds
 |_=>none
noncomputable def lV(k:Dk)(x:Dat):Bool:=match k with
 |.srt=>true
 |.rvl=>true
noncomputable def iq(k:Dk)(x y z:Dat):Rd:=match k with
 |.srt=>match lW x with
  |some ks=>match lZ (List Int) (ks.map (0::·)) ks with
   |some es=>yB (es.reverse.map λk=>.tup [.int (k.getD 1 0),.int (k.getD 2 0)])
   |none=>.no
  |none=>.no
 |.rvl=>match cu x with
  |some xs=>yB xs.reverse
  |none=>.no
noncomputable def vV(a b c:Dat):Rd:=match a,b,c with
 |.int a,.int b,.int c=>if -au<=a/\a<=au/\-au<=b/\b<=au/\(c=1\/c=-1\/c=-2)then .ok (.tup (yC a c (vt a b c)))else .no
 |_,_,_=>.no
noncomputable def yD{α:Type}(c e:α->Rd):List α->List Dat->Rd
 |[],acc=>yB acc
 |x::xs,acc=>(c x).bind λb=>match b with
  |.bl true=>(e x).bind λy=>if acc.length<au then yD c e xs (acc++[y])else .no
  |.bl false=>yD c e xs acc
  |_=>.no
noncomputable def cA(d:Dat):Option (List Dat):=match d with
 |.tup xs=>some xs
 |.scr ns=>some (ns.map .int)
 |.lst xs=>if xs.length<=au then some xs else none
 |_=>none
noncomputable def zT:Dat->List Dat
 |.tup xs=>xs
 |_=>[]
noncomputable def nP:Wd->Option Dat
 |.non=>some .non
 |.bl b=>some (.bl b)
 |.int i=>some (.int i)
 |.str s=>some (.str s)
 |_=>none
noncomputable def aq(cl:Nat->List Dat->Rd):Ex->aN->Rd
 |.var i,de=>match de[i]? with
  |some (some d)=>.ok d
  |_=>.no
 |.lit w,_=>match nP w with
  |some d=>.ok d
  |none=>.no
 |.bin op a b,de=>(aq cl a de).bind λx=>(aq cl b de).bind λy=>yW op x y
 |.neg a,de=>(aq cl a de).bind λx=>match x with
  |.int i=>.ok (.int (-i))
  |_=>.no
 |.not a,de=>(aq cl a de).bind λx=>match x with
  |.bl b=>.ok (.bl (! b))
  |_=>.no
 |.and a b,de=>(aq cl a de).bind λx=>match x with
  |.bl true=>aq cl b de
  |.bl false=>.ok (.bl false)
  |_=>.no
 |.or a b,de=>(aq cl a de).bind λx=>match x with
  |.bl false=>aq cl b de
  |.bl true=>.ok (.bl true)
  |_=>.no
 |.cmp op a b,de=>(aq cl a de).bind λx=>(aq cl b de).bind λy=>yH op x y
 |.chain p q a b c,de=>(aq cl a de).bind λx=>(aq cl b de).bind λy=>(yH p x y).bind λz=>match z with
  |.bl true=>(aq cl c de).bind λu=>yH q y u
  |.bl false=>.ok (.bl false)
  |_=>.no
 |.unit,_=>.ok (.tup [])
 |.pair a b,de=>(aq cl a de).bind λx=>(aq cl b de).bind λy=>.ok (.tup (x::zT y))
 |.call k a,de=>(aq cl a de).bind λx=>cl k (zT x)
 |.blt b a,de=>(aq cl a de).bind λx=>y6 b (zT x)
 |.isi t a,de=>(aq cl a de).bind λx=>.ok (.bl (cn t x))
 |.lst a,de=>(aq cl a de).bind λx=>yB (zT x)
 |.tup a,de=>(aq cl a de).bind λx=>if(zT x).length<=au then .ok (.tup (zT x))else .no
 |.idx a b,de=>(aq cl a de).bind λx=>(aq cl b de).bind λy=>yl x y
 |.dop k a b c,de=>(aq cl a de).bind λx=>match lV k x with
  |true=>(aq cl b de).bind λy=>(aq cl c de).bind λz=>iq k x y z
  |false=>.no
 |.slH a hi,de=>(aq cl a de).bind λx=>(aq cl hi de).bind λy=>match y with
  |.int i=>dD x none (some i)
  |_=>.no
 |.meth _ _ _,_=>.no
 |.rng a b c,de=>(aq cl a de).bind λx=>(aq cl b de).bind λy=>(aq cl c de).bind λz=>vV x y z
 |.comp elt it cond,de=>(aq cl it de).bind λx=>match cA x with
  |some xs=>yD (λx=>aq cl cond (de++[some x])) (λx=>aq cl elt (de++[some x])) xs []
  |none=>.no
 |.lrng a,de=>(aq cl a de).bind λx=>match x with
  |.int j=>if -au<=j/\j<=au then yB (yC 0 1 j.toNat)else .no
  |_=>.no
def vW (h:env[i]?=some (some w))(m:Me):af cl (.var i) env m=.ok w m:=by
 show(match env[i]? with|some (some w)=>Rz.ok w m|_=>.no)=_;rw[h]
def wU (h:de[i]?=some (some d)):aq cl (.var i) de=.ok d:=by
 show(match de[i]? with|some (some d)=>Rd.ok d|_=>.no)=_;rw[h]
def xi (h:de[i]?=none\/de[i]?=some none):aq cl (.var i) de=.no:=by
 show(match de[i]? with|some (some d)=>Rd.ok d|_=>.no)=_;rcases h with h|h<;>rw[h]
def ut (h:aq cl (.var i) de=.ok d):de[i]?=some (some d):=by
 cases z:de[i]? with
 |none=>rw[xi (.inl z)]at h;cases h
 |some o=>
  cases o with
  |none=>rw[xi (.inr z)]at h;cases h
  |some e=>rw[wU z]at h;cases h;rfl
mutual
noncomputable def aj(R:Nat->Prop)(m:Me):Dat->Wd->Prop
 |.non,w=>w=.non
 |.bl b,w=>w=.bl b
 |.int i,w=>w=.int i
 |.str s,w=>w=.str s
 |.scr ns,w=>w=.rol (ns.map Wd.int)
 |.tup ds,w=>∃xs,w=.tup xs/\ae R m ds xs
 |.lst ds,w=>∃l xs,w=.ref l/\R l/\m[l]?=some (.lst xs)/\ae R m ds xs
noncomputable def ae(R:Nat->Prop)(m:Me):List Dat->List Wd->Prop
 |[],xs=>xs=[]
 |d::ds,xs=>∃x r,xs=x::r/\aj R m d x/\ae R m ds r
end
noncomputable def Le(m m':Me):Prop:=∀(l:Nat) o,m[l]?=some o->m'[l]?=some o
def Le.refl(m:Me):Le m m:=λ_ _ h=>h
def Le.trans{a b c:Me}(h:Le a b)(k:Le b c):Le a c:=λl o z=>k l o (h l o z)
def Le.app(m x:Me):Le m (m++x):=λl o z=>by
 obtain⟨hl,_⟩:=Qa.mp z;rw[Qq hl];exact z
def Le.len (h:Le a b):a.length<=b.length:=by
 rcases Nat.lt_or_ge b.length a.length with z|z
 .have:=h b.length a[b.length] (Qc z);have:=(Qa.mp this).1;lia
 .exact z
noncomputable def Rf(R:Nat->Prop)(n:Nat):Nat->Prop:=λl=>R l\/n<=l
mutual
theorem aj.frame{R R':Nat->Prop}{m m':Me}(h:∀(l:Nat) o,R l->m[l]?=some o->R' l/\m'[l]?=some o):∀(d:Dat) (w:Wd),aj R m d w->aj R' m' d w
 |.non,w,q=>by unfold aj at q ⊢;exact q
 |.bl b,w,q=>by unfold aj at q ⊢;exact q
 |.int b,w,q=>by unfold aj at q ⊢;exact q
 |.str b,w,q=>by unfold aj at q ⊢;exact q
 |.scr b,w,q=>by unfold aj at q ⊢;exact q
 |.tup ds,w,q=>by
  unfold aj at q ⊢;obtain⟨xs,rfl,q⟩:=q;exact⟨xs,rfl,ae.frame h ds xs q⟩
 |.lst ds,w,q=>by
  unfold aj at q ⊢;obtain⟨l,xs,rfl,r,z,q⟩:=q;exact⟨l,xs,rfl,(h l _ r z).1,(h l _ r z).2,ae.frame h ds xs q⟩
theorem ae.frame{R R':Nat->Prop}{m m':Me}(h:∀(l:Nat) o,R l->m[l]?=some o->R' l/\m'[l]?=some o):∀(ds:List Dat) (xs:List Wd),ae R m ds xs->ae R' m' ds xs
 |[],xs,q=>by unfold ae at q ⊢;exact q
 |d::ds,xs,q=>by
  unfold ae at q ⊢;obtain⟨x,r,rfl,a,b⟩:=q;exact⟨x,r,rfl,aj.frame h d x a,ae.frame h ds r b⟩
end
def aj.up{R:Nat->Prop}{m m':Me}{d:Dat}{w:Wd}(n:Nat)(h:Le m m')(q:aj R m d w):aj (Rf R n) m' d w:=
 aj.frame (λl o r z=>⟨.inl r,h l o z⟩) d w q
def ae.up{R:Nat->Prop}{m m':Me}{d:List Dat}{w:List Wd}(n:Nat)(h:Le m m')(q:ae R m d w):ae (Rf R n) m' d w:=
 ae.frame (λl o r z=>⟨.inl r,h l o z⟩) d w q
theorem bi:∀{ds:List Dat}{xs:List Wd},ae R m ds xs↔ds.length=xs.length/\∀(i:Nat) d x,ds[i]?=some d->xs[i]?=some x->aj R m d x
 |[],xs=>by
  unfold ae;constructor
  .rintro rfl;exact⟨rfl,by simp⟩
  .rintro ⟨h,_⟩;exact Vk h.symm
 |d::ds,xs=>by
  unfold ae;constructor
  .rintro ⟨x,r,rfl,a,b⟩;obtain⟨hl,hb⟩:=bi.mp b;refine⟨by simp[hl],λi e y h1 h2=>?_⟩;cases i with
   |zero=>simp at h1 h2;subst h1;subst h2;exact a
   |succ i=>simp at h1 h2;exact hb i e y h1 h2
  .rintro ⟨hl,h⟩;cases xs with
   |nil=>cases hl
   |cons x r=>
    refine⟨x,r,rfl,h 0 d x rfl rfl,bi.mpr ⟨by simpa using hl,λi e y h1 h2=>h (i+1) e y (by simpa using h1) (by simpa using h2)⟩⟩
def ae.len (h:ae R m ds xs):ds.length=xs.length:=(bi.mp h).1
def ae.get (h:ae R m ds xs){i:Nat}(z:ds[i]?=some d):∃x,xs[i]?=some x/\aj R m d x:=by
 obtain⟨hl,h⟩:=bi.mp h;obtain⟨hi,_⟩:=Qa.mp z;exact⟨xs[i],Qc (by lia),h i d _ z (Qc (by lia))⟩
def ae.nil{R:Nat->Prop}{m:Me}:ae R m [] []:=by unfold ae;rfl
def ae.cons{R:Nat->Prop}{m:Me}{d:Dat}{x:Wd}{ds:List Dat}{xs:List Wd}(a:aj R m d x)(b:ae R m ds xs):ae R m (d::ds) (x::xs):=by
 unfold ae;exact⟨x,xs,rfl,a,b⟩
def ae.cons_inv (h:ae R m (d::ds) xs):∃x r,xs=x::r/\aj R m d x/\ae R m ds r:=by
 unfold ae at h;exact h
def ae.nil_inv (h:ae R m [] xs):xs=[]:=by unfold ae at h;exact h
theorem ae.app:∀{ds es:List Dat}{xs ys:List Wd},ae R m ds xs->ae R m es ys->ae R m (ds++es) (xs++ys)
 |[],es,xs,ys,a,b=>by rw[a.nil_inv];exact b
 |d::ds,es,xs,ys,a,b=>by
  obtain⟨x,r,rfl,p,q⟩:=a.cons_inv;exact .cons p (ae.app q b)
theorem ae.drop{R:Nat->Prop}{m:Me}(n:Nat){ds:List Dat}{xs:List Wd}(h:ae R m ds xs):ae R m (ds.drop n) (xs.drop n):=by
 obtain⟨hl,h⟩:=bi.mp h;refine bi.mpr ⟨by simp[hl],λi d x a b=>h (n+i) d x (by simpa using a) (by simpa using b)⟩
set_option tactic.hygienic true in
theorem ae.take{R:Nat->Prop}{m:Me}(n:Nat){ds:List Dat}{xs:List Wd}(h:ae R m ds xs):ae R m (ds.take n) (xs.take n):=by
 obtain⟨hl,h⟩:=bi.mp h;refine bi.mpr ⟨by simp[hl],λi d x a b=>?_⟩;rw[List.getElem?_take]at a b;split at a
 .next z=>rw[LF z]at b;exact h i d x a b
 .cases a
theorem ae.rev:∀{ds:List Dat}{xs:List Wd},ae R m ds xs->ae R m ds.reverse xs.reverse
 |[],xs,a=>by rw[a.nil_inv];exact .nil
 |d::ds,xs,a=>by
  obtain⟨x,r,rfl,p,q⟩:=a.cons_inv;rw[Wc,Wc];exact ae.app (ae.rev q) (.cons p .nil)
theorem ae.set{R:Nat->Prop}{m:Me}{ds:List Dat}{xs:List Wd}(h:ae R m ds xs)(j:Nat){d:Dat}{x:Wd}(z:aj R m d x):ae R m (ds.set j d) (xs.set j x):=by
 obtain⟨hl,h⟩:=bi.mp h;refine bi.mpr ⟨by simp[hl],λi e y a b=>?_⟩;rw[Qx]at a b;by_cases q:j=i
 .rw[LF q]at a b;split at a
  .split at b
   .cases a;cases b;exact z
   .cases b
  .cases a
 .rw[LG q]at a b;exact h i e y a b
theorem ae.rep (h:ae R m ds xs):∀k:Nat,ae R m (Qu k ds).flatten (Qu k xs).flatten
 |0=>.nil
 |k+1=>by
  rw[QZ,QZ,We,We];exact ae.app h (ae.rep h k)
theorem dv:∀(l:List Int),ae R m (l.map Dat.int) (l.map Wd.int)
 |[]=>.nil
 |i::l=>.cons (by unfold aj;rfl) (dv l)
def aa:aj R m (.int i) w↔w=.int i:=by unfold aj;exact Iff.rfl
def ah:aj R m (.bl i) w↔w=.bl i:=by unfold aj;exact Iff.rfl
def ak:aj R m .non w↔w=.non:=by unfold aj;exact Iff.rfl
def ax:aj R m (.str s) w↔w=.str s:=by unfold aj;exact Iff.rfl
def aU:aj R m (.scr s) w↔w=.rol (s.map Wd.int):=by unfold aj;exact Iff.rfl
def ai:aj R m (.tup ds) w↔∃xs,w=.tup xs/\ae R m ds xs:=by
 constructor
 .intro h;unfold aj at h;exact h
 .intro h;unfold aj;exact h
def ao:aj R m (.lst ds) w↔∃l xs,w=.ref l/\R l/\m[l]?=some (.lst xs)/\ae R m ds xs:=by
 constructor
 .intro h;unfold aj at h;exact h
 .intro h;unfold aj;exact h
noncomputable def ag(R:Nat->Prop)(m:Me)(r:Rz)(rd:Rd):Prop:=match rd with
 |.ok d=>∃w m',r=.ok w m'/\Le m m'/\aj (Rf R m.length) m' d w
 |.exc c d=>∃w m',r=.exc c w m'/\Le m m'/\aj (Rf R m.length) m' d w
 |.no=>True
def ag.lift{R:Nat->Prop}{m m1:Me}{r:Rz}{rd:Rd}(h:Le m m1)(q:ag (Rf R m.length) m1 r rd):ag R m r rd:=by
 have hl:=h.len;have fr:∀(m':Me) (d:Dat) (w:Wd),aj (Rf (Rf R m.length) m1.length) m' d w->aj (Rf R m.length) m' d w:=λm' d w=>aj.frame (λl o z k=>⟨by rcases z with (z|z)|z;exact .inl z;exact .inr z;exact .inr (by lia),k⟩) d w;cases rd with
 |ok d=>obtain⟨w,m',rfl,k,z⟩:=q;exact⟨w,m',rfl,h.trans k,fr _ _ _ z⟩
 |exc c d=>obtain⟨w,m',rfl,k,z⟩:=q;exact⟨w,m',rfl,h.trans k,fr _ _ _ z⟩
 |no=>trivial
theorem ag.bind{R:Nat->Prop}{m:Me}{r:Rz}{rd:Rd}{f:Wd->Me->Rz}{g:Dat->Rd}(h:ag R m r rd)
  (k:∀d w m',Le m m'->aj (Rf R m.length) m' d w->ag (Rf R m.length) m' (f w m') (g d)):ag R m (r.bind f) (rd.bind g):=by
 cases rd with
 |ok d=>obtain⟨w,m',rfl,l,z⟩:=h;exact ag.lift l (k d w m' l z)
 |exc c d=>obtain⟨w,m',rfl,l,z⟩:=h;exact⟨w,m',rfl,l,z⟩
 |no=>trivial
def dn (h:aj R m d w):ag R m (.ok w m) (.ok d):=
 ⟨w,m,rfl,Le.refl m,h.up _ (Le.refl m)⟩
theorem ag.no{R:Nat->Prop}{m:Me}{r:Rz}:ag R m r .no:=trivial
def ag.new{R:Nat->Prop}{m:Me}{ds:List Dat}{xs:List Wd}(h:ae R m ds xs):ag R m (alloc m xs) (yB ds):=by
 unfold yB alloc;rw[h.len];by_cases z:xs.length<=au
 .rw[LF z,LF z];exact⟨_,_,rfl,Le.app m _,ao.mpr ⟨_,xs,rfl,.inr (Ql _),by simp,h.up _ (Le.app m _)⟩⟩
 .rw[LG z,LG z];exact ag.no
def vh (h:aj R m d w)(z:wc d=some ds):∃xs,yr m w=some xs/\ae R m ds xs:=by
 cases d with
 |tup es=>obtain⟨xs,rfl,q⟩:=ai.mp h;cases z;exact⟨xs,rfl,q⟩
 |lst es=>
  obtain⟨l,xs,rfl,_,e,q⟩:=ao.mp h;cases z;exact⟨xs,by show zN m l=_;unfold zN;rw[e],q⟩
 |scr ns=>rw[aU.mp h];cases z;exact⟨_,rfl,dv ns⟩
 |_=>cases z
def kM (h:aj R m d w)(z:cu d=some ds):∃xs,jh m w=some xs/\ae R m ds xs:=by
 cases d with
 |lst es=>
  obtain⟨l,xs,rfl,_,e,q⟩:=ao.mp h;cases z;exact⟨xs,by show zN m l=_;unfold zN;rw[e],q⟩
 |scr ns=>rw[aU.mp h];cases z;exact⟨_,rfl,dv ns⟩
 |_=>cases z
theorem vX:∀{a b:List Int},a.map Wd.int=b.map Wd.int->a=b
 |[],[],_=>rfl
 |[],_::_,h=>by cases h
 |_::_,[],h=>by cases h
 |x::a,y::b,h=>by
  simp only[Wg,List.cons.injEq,Wd.int.injEq]at h;rw[h.1,vX h.2]
mutual
theorem aj.det{R R':Nat->Prop}{m:Me}:∀(d e:Dat) (w:Wd),aj R m d w->aj R' m e w->d=e
 |.non,e,w,q,z=>by rw[ak.mp q]at z;cases e<;>unfold aj at z<;>first|rfl|(exfalso;simp at z)
 |.bl b,e,w,q,z=>by rw[ah.mp q]at z;cases e<;>unfold aj at z<;>first|(injection z with z;rw[z])|(exfalso;simp at z)
 |.int b,e,w,q,z=>by rw[aa.mp q]at z;cases e<;>unfold aj at z<;>first|(injection z with z;rw[z])|(exfalso;simp at z)
 |.str b,e,w,q,z=>by rw[ax.mp q]at z;cases e<;>unfold aj at z<;>first|(injection z with z;rw[z])|(exfalso;simp at z)
 |.scr b,e,w,q,z=>by rw[aU.mp q]at z;cases e<;>unfold aj at z<;>first|(injection z with z;rw[vX z])|(exfalso;simp at z)
 |.tup ds,e,w,q,z=>by
  obtain⟨xs,rfl,q1⟩:=ai.mp q;cases e with
  |tup es=>obtain⟨ys,e,z1⟩:=ai.mp z;cases e;rw[ae.det ds es xs q1 z1]
  |_=>exfalso;unfold aj at z;simp at z
 |.lst ds,e,w,q,z=>by
  obtain⟨l,xs,rfl,_,hm,q1⟩:=ao.mp q;cases e with
  |lst es=>obtain⟨l',ys,e,_,hn,z1⟩:=ao.mp z;cases e;rw[hm]at hn;cases hn;rw[ae.det ds es xs q1 z1]
  |_=>exfalso;unfold aj at z;simp at z
theorem ae.det{R R':Nat->Prop}{m:Me}:∀(ds es:List Dat) (xs:List Wd),ae R m ds xs->ae R' m es xs->ds=es
 |[],es,xs,q,z=>by
  rw[q.nil_inv]at z;cases es with
  |nil=>rfl
  |cons e es=>obtain⟨_,_,h,_⟩:=z.cons_inv;cases h
 |d::ds,es,xs,q,z=>by
  obtain⟨x,r,rfl,a,b⟩:=q.cons_inv;cases es with
  |nil=>cases z.nil_inv
  |cons e es=>
   obtain⟨_,_,h,a',b'⟩:=z.cons_inv;cases h;rw[aj.det d e x a a',ae.det ds es r b b']
end
def rK(d:Dat):yG 0 d=false:=by cases d<;>rfl
mutual
theorem vY:∀(k:Nat) (d:Dat),yG k d=true->cW d d=true
 |0,d,h=>by rw[rK]at h;cases h
 |k+1,.non,h=>rfl
 |k+1,.bl b,h=>by show(b==b)=true;simp
 |k+1,.int b,h=>by show decide (b=b)=true;simp
 |k+1,.str b,h=>by show decide (b=b)=true;simp
 |k+1,.scr b,h=>LH (show false=true from h) (by decide)
 |k+1,.tup ds,h=>bB k ds h
 |k+1,.lst ds,h=>bB k ds h
theorem bB:∀(k:Nat) (ds:List Dat),bq k ds=true->cb ds ds=true
 |k,[],h=>rfl
 |k,d::ds,h=>by
  replace h:(yG k d&&bq k ds)=true:=h
  show(cW d d&&cb ds ds)=true;rw[Qj]at h ⊢;exact⟨vY k d h.1,bB k ds h.2⟩
end
theorem qu (ih:∀(d e:Dat) (x y:Wd),yG k d=true->yG k e=true->aj R m d x->aj R m e y->cm m k x y=some (cW d e)):
  ∀(ds es:List Dat) (xs ys:List Wd),bq k ds=true->bq k es=true->ae R m ds xs->ae R m es ys->∃q,cD (cm m k) xs ys=some q/\(q&&decide (xs.length=ys.length))=cb ds es
 |[],es,xs,ys,h1,h2,a,b=>by
  rw[a.nil_inv];cases es with
  |nil=>rw[b.nil_inv];exact⟨true,rfl,rfl⟩
  |cons e es=>obtain⟨y,r,rfl,_,_⟩:=b.cons_inv;exact⟨true,rfl,rfl⟩
 |d::ds,es,xs,ys,h1,h2,a,b=>by
  obtain⟨x,r,rfl,p,q⟩:=a.cons_inv;cases es with
  |nil=>rw[b.nil_inv];exact⟨true,rfl,rfl⟩
  |cons e es=>
   obtain⟨y,s,rfl,p',q'⟩:=b.cons_inv
   replace h1:(yG k d&&bq k ds)=true:=h1
   replace h2:(yG k e&&bq k es)=true:=h2
   rw[Qj]at h1 h2;obtain⟨t,ht,hb⟩:=qu ih ds es r s h1.2 h2.2 q q';refine⟨cW d e&&t,?_,?_⟩
   .unfold cD;rw[ih d e x y h1.1 h2.1 p p',ht];rfl
   .show (cW d e&&t&&decide (r.length+1=s.length+1))=(cW d e&&cb ds es);simp only[<-hb,Nat.succ_inj,Bool.and_assoc]
def aR (h:m[l]?=some (.lst xs)):aT m l=true:=by unfold aT;rw[h]
def xg (h:m[l]?=some (.lst xs)):(if aT m l&&true then some false else none)=some false:=by rw[aR h];rfl
theorem mq:∀(k:Nat) (d e:Dat) (x y:Wd),yG k d=true->yG k e=true->aj R m d x->aj R m e y->cm m k x y=some (cW d e)
 |0,d,e,x,y,h,_,_,_=>by rw[rK]at h;cases h
 |k+1,d,e,x,y,h1,h2,a,b=>by
  have ih:=mq (R:=R) (m:=m) k;cases d with
  |scr ns=>exact LH (show false=true from h1) (by decide)
  |tup ds=>
   obtain⟨xs,rfl,a1⟩:=ai.mp a;cases e with
   |scr ns=>exact LH (show false=true from h2) (by decide)
   |tup es=>
    obtain⟨ys,rfl,b1⟩:=ai.mp b;obtain⟨q,h,e⟩:=qu ih ds es xs ys h1 h2 a1 b1;show(cD (cm m k) xs ys).map (· && decide (xs.length=ys.length))=some (cb ds es);rw[h,<-e];rfl
   |lst es=>
    obtain⟨l,ys,rfl,_,hm,b⟩:=ao.mp b;exact xg hm
   |non=>rw[ak.mp b];rfl
   |bl _=>rw[ah.mp b];rfl
   |int _=>rw[aa.mp b];rfl
   |str _=>rw[ax.mp b];rfl
  |lst ds=>
   have a0:=a;obtain⟨l,xs,rfl,_,hm,a⟩:=ao.mp a;cases e with
   |scr ns=>exact LH (show false=true from h2) (by decide)
   |lst es=>
    have b0:=b;obtain⟨l',ys,rfl,_,hn,b⟩:=ao.mp b;show(if l=l' then(if aT m l then some true else none)else match m[l]?,m[l']? with
     |some (.lst xs),some (.lst ys)=>if xs.length=ys.length then cD (cm m k) xs ys else some false
     |_,_=>none)=_
    by_cases q:l=l'
    .subst q;rw[LF rfl,LF (aR hm)];rw[aj.det _ _ _ a0 b0]at *
     rw[vY (k+1) _ h2]
    .rw[LG q,hm,hn];obtain⟨q,h,e⟩:=qu ih ds es xs ys h1 h2 a b;show(if xs.length=ys.length then cD (cm m k) xs ys else some false)=some (cb ds es);by_cases z:xs.length=ys.length
     .simp only[z,if_true,h,<-e];simp
     .simp only[z,if_false,<-e];simp
   |tup es=>obtain⟨ys,rfl,b⟩:=ai.mp b;exact xg hm
   |non=>rw[ak.mp b];exact xg hm
   |bl _=>rw[ah.mp b];exact xg hm
   |int _=>rw[aa.mp b];exact xg hm
   |str _=>rw[ax.mp b];exact xg hm
  |non=>
   rw[ak.mp a];cases e with
   |scr ns=>exact LH (show false=true from h2) (by decide)
   |lst es=>obtain⟨l',ys,rfl,_,hn,b⟩:=ao.mp b;exact xg hn
   |tup es=>obtain⟨ys,rfl,b⟩:=ai.mp b;rfl
   |non=>rw[ak.mp b];rfl
   |bl _=>rw[ah.mp b];rfl
   |int _=>rw[aa.mp b];rfl
   |str _=>rw[ax.mp b];rfl
  |bl _=>
   rw[ah.mp a];cases e with
   |scr ns=>exact LH (show false=true from h2) (by decide)
   |lst es=>obtain⟨l',ys,rfl,_,hn,b⟩:=ao.mp b;exact xg hn
   |tup es=>obtain⟨ys,rfl,b⟩:=ai.mp b;rfl
   |non=>rw[ak.mp b];rfl
   |bl _=>rw[ah.mp b];rfl
   |int _=>rw[aa.mp b];rfl
   |str _=>rw[ax.mp b];rfl
  |int _=>
   rw[aa.mp a];cases e with
   |scr ns=>exact LH (show false=true from h2) (by decide)
   |lst es=>obtain⟨l',ys,rfl,_,hn,b⟩:=ao.mp b;exact xg hn
   |tup es=>obtain⟨ys,rfl,b⟩:=ai.mp b;rfl
   |non=>rw[ak.mp b];rfl
   |bl _=>rw[ah.mp b];rfl
   |int _=>rw[aa.mp b];rfl
   |str _=>rw[ax.mp b];rfl
  |str _=>
   rw[ax.mp a];cases e with
   |scr ns=>exact LH (show false=true from h2) (by decide)
   |lst es=>obtain⟨l',ys,rfl,_,hn,b⟩:=ao.mp b;exact xg hn
   |tup es=>obtain⟨ys,rfl,b⟩:=ai.mp b;rfl
   |non=>rw[ak.mp b];rfl
   |bl _=>rw[ah.mp b];rfl
   |int _=>rw[aa.mp b];rfl
   |str _=>rw[ax.mp b];rfl
set_option tactic.hygienic true in
def ur (h:dN d e=some q)(a:aj R m d x)(b:aj R m e y):cm m yJ x y=some q:=by
 unfold dN at h;split at h
 .next z=>simp only[Qj]at z;cases h;exact mq yJ d e x y z.1 z.2 a b
 .cases h
theorem um (h:yG yJ d=true)(a:aj R m d x):∀(es:List Dat) (ys:List Wd),bq yJ es=true->ae R m es ys->ef (cm m yJ) x ys=some (es.any λe=>cW e d)
 |[],ys,_,b=>by rw[b.nil_inv];rfl
 |e::es,ys,z,b=>by
  obtain⟨y,r,rfl,p,q⟩:=b.cons_inv
  replace z:(yG yJ e&&bq yJ es)=true:=z
  rw[Qj]at z;show(match cm m yJ y x with
   |some a=>(ef (cm m yJ) x r).map (a || ·)
   |none=>none)=_
  rw[mq yJ e d y x z.1 h p a,um h a es r z.2 q];rfl
set_option tactic.hygienic true in
def DA (h:fX d es=some q)(a:aj R m d x)(b:ae R m es ys):ef (cm m yJ) x ys=some q:=by
 unfold fX at h;split at h
 .next z=>simp only[Qj]at z;cases h;exact um z.1 a es ys z.2 b
 .cases h
theorem ag.int{R:Nat->Prop}{m:Me}{i:Int}:ag R m (.ok (.int i) m) (.ok (.int i)):=dn (aa.mpr rfl)
theorem ag.bl{R:Nat->Prop}{m:Me}{i:Bool}:ag R m (.ok (.bl i) m) (.ok (.bl i)):=dn (ah.mpr rfl)
def ul (op:Bo)(a:aj R m d x)(b:aj R m e y):ag R m (cz op x y m) (yW op d e):=by
 cases d with
 |int i=>
  rw[aa.mp a];cases e with
  |int j=>
   rw[aa.mp b];cases op<;>simp only[cz,yW]
   .exact ag.int
   .exact ag.int
   .by_cases z:(yx i || yx j)=true
    .rw[LF z,LF z];exact ag.int
    .rw[LG z,LG z];exact ag.no
   .by_cases z:0<j/\j<1073741824
    .rw[LF z,LF z];exact ag.int
    .rw[LG z,LG z];exact ag.no
   .by_cases z:0<j
    .rw[LF z,LF z];exact ag.int
    .rw[LG z,LG z];exact ag.no
   .by_cases z:0<=j/\j<=1000000/\yx i=true
    .rw[LF z,LF z];exact ag.int
    .rw[LG z,LG z];exact ag.no
   .by_cases z:0<=j/\j<=1000
    .rw[LF z,LF z];exact ag.int
    .rw[LG z,LG z];exact ag.no
   .by_cases z:0<=i/\j=1
    .rw[LF z,LF z];exact ag.int
    .rw[LG z,LG z];exact ag.no
  |_=>exact ag.no
 |lst ds=>
  obtain⟨l,xs,rfl,_,hm,a1⟩:=ao.mp a;cases e with
  |lst es=>
   obtain⟨l',ys,rfl,_,hn,b1⟩:=ao.mp b;cases op<;>first|exact ag.no|skip
   simp only[cz,yW,hm,hn];exact ag.new (a1.app b1)
  |int k=>
   rw[aa.mp b];cases op<;>first|exact ag.no|skip
   simp only[cz,yW,hm];by_cases z:-(au:Int)<=k/\k<=(au:Int)
   .rw[LF z,LF z];exact ag.new (a1.rep _)
   .rw[LG z,LG z];exact ag.no
  |_=>exact ag.no
 |tup ds=>
  obtain⟨xs,rfl,a1⟩:=ai.mp a;cases e with
  |tup es=>
   obtain⟨ys,rfl,b1⟩:=ai.mp b;cases op<;>first|exact ag.no|skip
   simp only[cz,yW];have h1:=a1.len;have h2:=b1.len;rw[h1,h2];by_cases z:xs.length+ys.length<=au
   .rw[LF z,LF z];exact dn (ai.mpr ⟨_,rfl,a1.app b1⟩)
   .rw[LG z,LG z];exact ag.no
  |_=>exact ag.no
 |_=>exact ag.no
def jo (r:Int->Int->Bool)(a:aj R m d x)(b:aj R m e y):ag R m (jC r x y m) (fJ r d e):=by
 cases d with
 |int i=>
  rw[aa.mp a];cases e with
  |int j=>rw[aa.mp b];exact ag.bl
  |_=>exact ag.no
 |_=>exact ag.no
def uk (h:∀b,q=some b->p=some b):ag R m (dF p m) (qs q):=by
 cases q with
 |none=>exact ag.no
 |some b=>rw[h b rfl];exact ag.bl
def FO (h:∀b,q=some b->p=some b):ag R m (dF (p.map (!·)) m) (qs (q.map (!·))):=by
 cases q with
 |none=>exact ag.no
 |some b=>rw[h b rfl];exact ag.bl
def Dz (a:aj R m d x)(b:aj R m e y):ag R m (cop .isN x y m) (yH .isN d e):=by
 cases e with
 |non=>
  rw[ak.mp b];cases d with
  |non=>rw[ak.mp a];exact ag.bl
  |bl _=>rw[ah.mp a];exact ag.bl
  |int _=>rw[aa.mp a];exact ag.bl
  |str _=>rw[ax.mp a];exact ag.bl
  |scr _=>rw[aU.mp a];exact ag.bl
  |tup _=>obtain⟨xs,rfl,_⟩:=ai.mp a;exact ag.bl
  |lst _=>obtain⟨l,xs,rfl,_⟩:=ao.mp a;exact ag.bl
 |_=>exact ag.no
def FN (a:aj R m d x)(b:aj R m e y):ag R m (cop .notN x y m) (yH .notN d e):=by
 cases e with
 |non=>
  rw[ak.mp b];cases d with
  |non=>rw[ak.mp a];exact ag.bl
  |bl _=>rw[ah.mp a];exact ag.bl
  |int _=>rw[aa.mp a];exact ag.bl
  |str _=>rw[ax.mp a];exact ag.bl
  |scr _=>rw[aU.mp a];exact ag.bl
  |tup _=>obtain⟨xs,rfl,_⟩:=ai.mp a;exact ag.bl
  |lst _=>obtain⟨l,xs,rfl,_⟩:=ao.mp a;exact ag.bl
 |_=>exact ag.no
theorem gL:∀{ds:List Dat}{xs:List Wd}{k:List Int},ae R m ds xs->wT ds=some k->wQ xs=some k
 |[],xs,k,a,h=>by rw[a.nil_inv];exact h
 |d::ds,xs,k,a,h=>by
  obtain⟨x,r,rfl,p,q⟩:=a.cons_inv;cases d with
  |int j=>
   rw[aa.mp p];simp only[wT,QK]at h;obtain⟨k,hk,rfl⟩:=h;simp only[wQ,gL q hk,QN]
  |_=>simp[wT]at h
def qw (op:Co)(a:aj R m d x)(b:aj R m e y):ag R m (cop op x y m) (yH op d e):=by
 cases op with
 |eq=>exact uk λq h=>ur h a b
 |ne=>exact FO λq h=>ur h a b
 |isN=>exact Dz a b
 |notN=>exact FN a b
 |isin=>
  simp only[cop,yH];cases z:wc e with
  |none=>
   cases e with
   |_=>exact ag.no
  |some es=>
   obtain⟨ys,h,q⟩:=vh b z;rw[h];exact uk λt h=>DA h a q
 |lt=>exact jo _ a b
 |le=>exact jo _ a b
 |gt=>exact jo _ a b
 |ge=>exact jo _ a b
def Em (t:Tg)(a:aj R m d x):ag R m (dF (dq t x m) m) (.ok (.bl (cn t d))):=by
 have h:dq t x m=some (cn t d):=by
  cases d with
  |non=>rw[ak.mp a];cases t<;>rfl
  |bl _=>rw[ah.mp a];cases t<;>rfl
  |int _=>rw[aa.mp a];cases t<;>rfl
  |str _=>rw[ax.mp a];cases t<;>rfl
  |scr _=>rw[aU.mp a];cases t<;>rfl
  |tup _=>obtain⟨xs,rfl,_⟩:=ai.mp a;cases t<;>rfl
  |lst _=>obtain⟨l,xs,rfl,_,hm,_⟩:=ao.mp a;cases t<;>(show(match m[l]? with|some (.lst _)=>_|none=>_)=_;rw[hm];rfl)
 rw[h];exact ag.bl
theorem uj:∀{ds:List Dat}{xs:List Wd}{i:Int},ae R m ds xs->qt ds=some i->eP xs=some i
 |[],xs,i,a,h=>by rw[a.nil_inv];exact h
 |d::ds,xs,i,a,h=>by
  obtain⟨x,r,rfl,p,q⟩:=a.cons_inv;cases d with
  |int j=>
   rw[aa.mp p];simp only[qt,QK]at h;obtain⟨k,hk,rfl⟩:=h;simp only[eP,uj q hk,QN]
  |_=>simp[qt]at h
theorem uh:∀{ds:List Dat}{xs:List Wd}{i:Bool},ae R m ds xs->jS ds=some i->eM xs=some i
 |[],xs,i,a,h=>by rw[a.nil_inv];exact h
 |d::ds,xs,i,a,h=>by
  obtain⟨x,r,rfl,p,q⟩:=a.cons_inv;cases d with
  |bl j=>
   rw[ah.mp p];simp only[jS,QK]at h;obtain⟨k,hk,rfl⟩:=h;simp only[eM,uh q hk,QN]
  |_=>simp[jS]at h
theorem uz:∀{ds:List Dat}{xs:List Wd}{k:List Int},ae R m ds xs->wT ds=some k->wQ xs=some k
 |[],xs,k,q,h=>by rw[q.nil_inv];exact h
 |d::ds,xs,k,q,h=>by
  obtain⟨x,r,rfl,a,b⟩:=q.cons_inv;cases d with
  |int i=>
   have h':(wT ds).map (i::·)=some k:=h;obtain⟨k',e,rfl⟩:=QK.mp h';rw[aa.mp a];show(wQ r).map (i::·)=_;rw[uz b e];rfl
  |_=>cases h
def El (b:dW)(a:ae R m ds xs):ag R m (jD b xs m) (y6 b ds):=by
 have one:∀{d:Dat}{xs:List Wd},ae R m [d] xs->∃x,xs=[x]/\aj R m d x:=by
  intro d xs h;obtain⟨x,r,rfl,p,q⟩:=h.cons_inv;rw[q.nil_inv];exact⟨x,rfl,p⟩
 cases b with
 |len=>
  cases ds with
  |nil=>exact ag.no
  |cons d ds=>
   cases ds with
   |cons _ _=>exact ag.no
   |nil=>
    obtain⟨x,rfl,p⟩:=one a;show ag R m _ (match wc d with|some i=>.ok (.int i.length)|none=>.no);cases z:wc d with
    |none=>exact ag.no
    |some i=>
     obtain⟨ys,h,q⟩:=vh p z;simp only[jD,h,q.len];exact ag.int
 |int=>
  cases ds with
  |nil=>exact ag.no
  |cons d ds=>
   cases d with
   |int i=>
    cases ds with
    |cons _ _=>exact ag.no
    |nil=>obtain⟨x,rfl,p⟩:=one a;rw[aa.mp p];exact ag.int
   |bl i=>
    cases ds with
    |cons _ _=>exact ag.no
    |nil=>obtain⟨x,rfl,p⟩:=one a;rw[ah.mp p];exact ag.int
   |_=>exact ag.no
 |list=>
  cases ds with
  |nil=>exact ag.no
  |cons d ds=>
   cases ds with
   |cons _ _=>exact ag.no
   |nil=>
    obtain⟨x,rfl,p⟩:=one a;show ag R m _ (match wc d with|some i=>yB i|none=>.no);cases z:wc d with
    |none=>exact ag.no
    |some i=>
     obtain⟨ys,h,q⟩:=vh p z;simp only[jD,h];exact ag.new q
 |tuple=>
  cases ds with
  |nil=>exact ag.no
  |cons d ds=>
   cases ds with
   |cons _ _=>exact ag.no
   |nil=>
    obtain⟨x,rfl,p⟩:=one a;show ag R m _ (match wc d with|some i=>.ok (.tup i)|none=>.no);cases z:wc d with
    |none=>exact ag.no
    |some i=>
     obtain⟨ys,h,q⟩:=vh p z;simp only[jD,h];exact dn (ai.mpr ⟨_,rfl,q⟩)
 |sum=>
  cases ds with
  |nil=>exact ag.no
  |cons d ds=>
   cases ds with
   |cons _ _=>exact ag.no
   |nil=>
    obtain⟨x,rfl,p⟩:=one a;show ag R m _ (match (cu d).bind qt with|some i=>.ok (.int i)|none=>.no);cases z:(cu d).bind qt with
    |none=>exact ag.no
    |some i=>
     obtain⟨es,z1,z2⟩:=QF.mp z;obtain⟨ys,h,q⟩:=kM p z1;simp only[jD,h,Q9,uj q z2];exact ag.int
 |all=>
  cases ds with
  |nil=>exact ag.no
  |cons d ds=>
   cases ds with
   |cons _ _=>exact ag.no
   |nil=>
    obtain⟨x,rfl,p⟩:=one a;show ag R m _ (match (cu d).bind jS with|some i=>.ok (.bl i)|none=>.no);cases z:(cu d).bind jS with
    |none=>exact ag.no
    |some i=>
     obtain⟨es,z1,z2⟩:=QF.mp z;obtain⟨ys,h,q⟩:=kM p z1;simp only[jD,h,Q9,uh q z2];exact ag.bl
 |abs=>
  cases ds with
  |nil=>exact ag.no
  |cons d ds=>
   cases d with
   |int i=>
    cases ds with
    |cons _ _=>exact ag.no
    |nil=>obtain⟨x,rfl,p⟩:=one a;rw[aa.mp p];exact ag.int
   |_=>exact ag.no
 |max2=>
  cases ds with
  |nil=>exact ag.no
  |cons d ds=>
   cases d with
   |int i=>
    cases ds with
    |nil=>exact ag.no
    |cons e ds=>
     cases e with
     |int j=>
      cases ds with
      |cons _ _=>exact ag.no
      |nil=>
       obtain⟨x,r,rfl,p,q⟩:=a.cons_inv;obtain⟨y,rfl,q1⟩:=one q;rw[aa.mp p,aa.mp q1];exact ag.int
     |_=>exact ag.no
   |_=>exact ag.no
 |sortI=>
  cases ds with
  |nil=>exact ag.no
  |cons d ds=>
   cases ds with
   |cons _ _=>exact ag.no
   |nil=>
    obtain⟨x,rfl,p⟩:=one a;show ag R m _ (match (cu d).bind wT with|some k=>if k.length<64 then yB ((fq k).map Dat.int)else .no|none=>.no);cases z:(cu d).bind wT with
    |none=>exact ag.no
    |some k=>
     obtain⟨es,z1,z2⟩:=QF.mp z;obtain⟨ys,h,q⟩:=kM p z1;by_cases h64:k.length<64
     .simp only[jD,h,Q9,uz q z2,LF h64];exact ag.new (dv _)
     .simp only[LG h64];exact ag.no
def Ek (a:aj R m d x)(b:aj R m e y):ag R m (vq x y m) (yl d e):=by
 cases e with
 |int i=>
  rw[aa.mp b];simp only[yl,vq];cases z:wc d with
  |none=>exact ag.no
  |some ds=>
   obtain⟨xs,h,q⟩:=vh a z;simp only[h];cases z:(ix ds.length i).bind λj=>ds[j]? with
   |none=>exact ag.no
   |some v=>
    obtain⟨j,h1,h2⟩:=QF.mp z;obtain⟨x,h3,p⟩:=q.get h2;rw[q.len]at h1;simp only[h1,Q9,h3];exact dn p
 |_=>exact ag.no
def sK{x:Wd}{m:Me}{lo hi:Option Int}(h:∀xs,x≠.tup xs):eR x lo hi m=match jh m x with
  |some xs=>alloc m ((xs.drop (aP xs.length 0 lo)).take (aP xs.length xs.length hi-aP xs.length 0 lo))
  |none=>.no:=by
 cases x with
 |tup xs=>exact LH rfl (h xs)
 |_=>rfl
def tR{d:Dat}{lo hi:Option Int}(h:∀ds,d≠.tup ds):dD d lo hi=match cu d with
  |some xs=>yB ((xs.drop (aP xs.length 0 lo)).take (aP xs.length xs.length hi-aP xs.length 0 lo))
  |none=>.no:=by
 cases d with
 |tup xs=>exact LH rfl (h xs)
 |_=>rfl
def tQ (a:aj R m d x)(h:∀ds,d≠.tup ds):∀xs,x≠.tup xs:=λxs e=>by
 subst e;cases d with
 |tup ds=>exact h ds rfl
 |non=>have:=ak.mp a;cases this
 |bl _=>have:=ah.mp a;cases this
 |int _=>have:=aa.mp a;cases this
 |str _=>have:=ax.mp a;cases this
 |scr _=>have:=aU.mp a;cases this
 |lst _=>obtain⟨l,ys,e,_⟩:=ao.mp a;cases e
def tP (lo hi:Option Int)(a:aj R m (.tup ds) x):ag R m (eR x lo hi m) (dD (.tup ds) lo hi):=by
 obtain⟨xs,rfl,q⟩:=ai.mp a;simp only[dD,eR,q.len];by_cases z:aP xs.length 0 lo=0/\aP xs.length xs.length hi=xs.length
 .rw[LF z,LF z];exact ag.no
 .rw[LG z,LG z];exact dn (ai.mpr ⟨_,rfl,(q.drop _).take _⟩)
def Cb (lo hi:Option Int)(a:aj R m d x):ag R m (eR x lo hi m) (dD d lo hi):=by
 by_cases t:∃ds,d=.tup ds
 .obtain ⟨ds,rfl⟩:=t;exact tP lo hi a
 have t':∀ds,d≠.tup ds:=λds e=>t ⟨ds,e⟩;rw[sK (tQ a t'),tR t'];cases z:cu d with
 |none=>exact ag.no
 |some ds=>
  obtain⟨xs,h,q⟩:=kM a z;simp only[h,q.len];exact ag.new ((q.drop _).take _)
theorem vZ (st:Int):∀(n:Nat) (lo:Int),ae R m (yC lo st n) (ji lo st n)
 |0,lo=>.nil
 |n+1,lo=>by
  have h:yC lo st (n+1)=.int lo::yC (lo+st) st n:=by
   unfold yC;rw[WW,Wg,Wi];congr 1
   .simp
   .apply WH;intro i _;show Dat.int _=Dat.int _;congr 1;rw[show((Nat.succ i:Nat):Int)=(i:Int)+1 from rfl,Int.mul_add,Int.mul_one];lia
  rw[h];exact .cons (aa.mpr rfl) (vZ st n _)
theorem tO:∀{ds:List Dat}{xs:List Wd}{ks:List (List Int)},ae R m ds xs->fH ds=some ks->iF xs=some ks
 |[],_,ks,q,h=>by rw[q.nil_inv];exact h
 |d::ds,_,ks,q,h=>by
  obtain⟨x,r,rfl,a,b⟩:=q.cons_inv;cases d with
  |tup ws=>
   obtain⟨us,rfl,a1⟩:=ai.mp a;unfold fH at h;unfold iF;cases e1:wT ws with
   |none=>simp only[e1]at h;cases h
   |some k=>
    rw[gL a1 e1];cases e2:fH ds with
    |none=>
     simp only[e1,e2]at h;cases h
    |some ks'=>
     rw[tO b e2];simp only[e1,e2]at h;exact h
  |_=>cases h
def FM (a:aj R m d x)(h:lW d=some ks):lN x m=some ks:=by
 cases d with
 |lst ds=>
  obtain⟨l,xs,rfl,_,hm,q⟩:=ao.mp a;unfold lN zN;simp only[hm,Q9];exact tO q h
 |_=>cases h
theorem tN:∀es:List (List Int),ae R m (es.map λk=>.tup [.int (k.getD 1 0),.int (k.getD 2 0)]) (es.map λk=>.tup [.int (k.getD 1 0),.int (k.getD 2 0)])
 |[]=>.nil
 |k::es=>.cons (ai.mpr ⟨_,rfl,.cons (aa.mpr rfl) (.cons (aa.mpr rfl) .nil)⟩) (tN es)
def Ej (k:Dk)(a:aj R m d x)(b:aj R m e y)(c:aj R m f z):ag R m (iE k x y z m) (iq k d e f):=by
 cases k with
 |srt=>
  unfold iq iE;simp only;cases hr:lW d with
  |none=>exact ag.no
  |some ks=>
   rw[FM a hr];simp only;cases lZ (List Int) (ks.map (0::·)) ks with
   |none=>exact ag.no
   |some es=>exact ag.new (tN es.reverse)
 |rvl=>
  unfold iq iE;simp only;cases hr:cu d with
  |none=>exact ag.no
  |some ds=>
   obtain⟨xs,h,q⟩:=kM a hr;rw[h];exact ag.new q.rev
def FL (a:aj R m d x)(h:lV k d=true):pW k x m=true:=by
 cases k with
 |srt=>rfl
 |rvl=>rfl
def Ei (a:aj R m d x)(b:aj R m e y)(c:aj R m f z):ag R m (eK x y z m) (vV d e f):=by
 cases d with
 |int i=>
  cases e with
  |int j=>
   cases f with
   |int k=>
    rw[aa.mp a,aa.mp b,aa.mp c];simp only[eK,vV];split
    .exact dn (ai.mpr ⟨_,rfl,vZ k _ i⟩)
    .exact ag.no
   |_=>exact ag.no
  |_=>exact ag.no
 |_=>exact ag.no
theorem vj {R:Nat->Prop}(hc:∀(R':Nat->Prop) m d x,(∀l,R l->R' l)->Le m0 m->aj R' m d x->ag R' m (c x m) (cd d))(he:∀(R':Nat->Prop) m d x,(∀l,R l->R' l)->Le m0 m->aj R' m d x->ag R' m (e x m) (ed d)):
  ∀(ds:List Dat) (xs:List Wd) (acc:List Dat) (acx:List Wd) (R':Nat->Prop) (m:Me),(∀l,R l->R' l)->Le m0 m->ae R' m ds xs->ae R' m acc acx->ag R' m (xy c e xs acx m) (yD cd ed ds acc)
 |[],xs,acc,acx,R',m,hR,hm,a,b=>by
  rw[a.nil_inv];unfold xy yD;exact ag.new b
 |d::ds,xs,acc,acx,R',m,hR,hm,a,b=>by
  obtain⟨x,r,rfl,p,q⟩:=a.cons_inv;unfold xy yD;refine(hc R' m d x hR hm p).bind λt w m1 l1 k1=>?_;cases t with
  |bl t=>
   rw[ah.mp k1];cases t with
   |true=>
    refine(he _ m1 d x (λl z=>.inl (hR l z)) (hm.trans l1) (p.up _ l1)).bind λt w m2 l2 k2=>?_;simp only[b.len];by_cases z:acx.length<au
    .rw[LF z,LF z];exact vj hc he ds r _ _ _ m2 (λl z=>.inl (.inl (hR l z))) ((hm.trans l1).trans l2) ((q.up _ l1).up _ l2) (((b.up _ l1).up _ l2).app (.cons k2 .nil))
    .rw[LG z,LG z];exact ag.no
   |false=>exact vj hc he ds r _ _ _ m1 (λl z=>.inl (hR l z)) (hm.trans l1) (q.up _ l1) (b.up _ l1)
  |_=>exact ag.no
theorem kN {R:Nat->Prop}(hl:m0[l]?=some (.lst xs0))(hc:∀(R':Nat->Prop) m d x,(∀l,R l->R' l)->Le m0 m->aj R' m d x->ag R' m (c x m) (cd d))(he:∀(R':Nat->Prop) m d x,(∀l,R l->R' l)->Le m0 m->aj R' m d x->ag R' m (e x m) (ed d)):
  ∀(ds:List Dat) (i k:Nat) (acc:List Dat) (acx:List Wd) (R':Nat->Prop) (m:Me),(∀l,R l->R' l)->Le m0 m->ae R' m ds (xs0.drop i)->i+ds.length=xs0.length->ds.length<k->ae R' m acc acx->ag R' m (xz c e l k i acx m) (yD cd ed ds acc)
 |[],i,0,acc,acx,R',m,hR,hm,a,hi,hk,b=>by simp at hk
 |d::ds,i,0,acc,acx,R',m,hR,hm,a,hi,hk,b=>by simp at hk
 |[],i,k+1,acc,acx,R',m,hR,hm,a,hi,hk,b=>by
  unfold xz yD zN;rw[hm l _ hl];simp only;rw[QG (by simp at hi;lia)];exact ag.new b
 |d::ds,i,k+1,acc,acx,R',m,hR,hm,a,hi,hk,b=>by
  obtain⟨x,r,e0,p,q⟩:=a.cons_inv;have hx:xs0[i]?=some x:=by
   have:(xs0.drop i)[0]?=some x:=by rw[e0];rfl
   simpa using this
  have hr:r=xs0.drop (i+1):=by
   have:(xs0.drop i).drop 1=r:=by rw[e0];rfl
   rw[<-this,Vs]
  rw[hr]at q;have hi':i+1+ds.length=xs0.length:=by simp at hi;lia
  have hk':ds.length<k:=by simp at hk;lia
  unfold xz yD zN;rw[hm l _ hl];simp only;rw[hx];simp only;refine(hc R' m d x hR hm p).bind λt w m1 l1 k1=>?_;cases t with
  |bl t=>
   rw[ah.mp k1];cases t with
   |true=>
    refine(he _ m1 d x (λl z=>.inl (hR l z)) (hm.trans l1) (p.up _ l1)).bind λt w m2 l2 k2=>?_;simp only[b.len];by_cases z:acx.length<au
    .rw[LF z,LF z];exact kN hl hc he ds (i+1) k _ _ _ m2 (λl z=>.inl (.inl (hR l z))) ((hm.trans l1).trans l2) ((q.up _ l1).up _ l2) hi' hk' (((b.up _ l1).up _ l2).app (.cons k2 .nil))
    .rw[LG z,LG z];exact ag.no
   |false=>exact kN hl hc he ds (i+1) k _ _ _ m1 (λl z=>.inl (hR l z)) (hm.trans l1) (q.up _ l1) hi' hk' (b.up _ l1)
  |_=>exact ag.no
noncomputable def zt:Ex->List Nat
 |.var i=>[i]
 |.lit _=>[]
 |.bin _ a b=>zt a++zt b
 |.neg a=>zt a
 |.not a=>zt a
 |.and a b=>zt a++zt b
 |.or a b=>zt a++zt b
 |.cmp _ a b=>zt a++zt b
 |.chain _ _ a b c=>zt a++(zt b++zt c)
 |.unit=>[]
 |.pair a b=>zt a++zt b
 |.call _ a=>zt a
 |.blt _ a=>zt a
 |.isi _ a=>zt a
 |.lst a=>zt a
 |.tup a=>zt a
 |.dop _ a b c=>zt a++(zt b++zt c)
 |.idx a b=>zt a++zt b
 |.slH a b=>zt a++zt b
 |.meth _ a b=>zt a++zt b
 |.rng a b c=>zt a++(zt b++zt c)
 |.comp e i c=>zt i++(zt e++zt c)
 |.lrng a=>zt a
@[simp]theorem Jw(i:Nat):zt (.var i)=[i]:=rfl
@[simp]theorem Jv(w:Wd):zt (.lit w)=[]:=rfl
@[simp]theorem Ju(a b:Ex):zt (.idx a b)=zt a++zt b:=rfl
@[simp]theorem Jt(a:Ex):zt (.tup a)=zt a:=rfl
@[simp]theorem JN(a b:Ex):zt (.pair a b)=zt a++zt b:=rfl
@[simp]theorem JM  : zt (.unit)=[]:=rfl
@[simp]theorem Js(op:Bo)(a b:Ex):zt (.bin op a b)=zt a++zt b:=rfl
@[simp]theorem JL(k:Nat)(a:Ex):zt (.call k a)=zt a:=rfl
@[simp]theorem Jr(a:Ex):zt (.neg a)=zt a:=rfl
@[simp]theorem Jq(a:Ex):zt (.lst a)=zt a:=rfl
noncomputable def bK(R:Nat->Prop)(m:Me)(vs:List Nat)(de:aN)(env:En):Prop:=
 de.length=env.length/\∀i∈vs,∀d,de[i]?=some (some d)->∃w,env[i]?=some (some w)/\aj R m d w
def bK.up{R R':Nat->Prop}{m m':Me}{vs:List Nat}{de:aN}{env:En}(hR:∀l,R l->R' l)(h:Le m m')(q:bK R m vs de env):bK R' m' vs de env:=
 ⟨q.1,λi hi d z=>by
  obtain⟨w,a,b⟩:=q.2 i hi d z;exact⟨w,a,aj.frame (λl o r k=>⟨hR l r,h l o k⟩) d w b⟩⟩
def bK.sub{R:Nat->Prop}{m:Me}{vs us:List Nat}{de:aN}{env:En}(h:∀i∈us,i∈vs)(q:bK R m vs de env):bK R m us de env:=
 ⟨q.1,λi hi=>q.2 i (h i hi)⟩
def bK.left{R:Nat->Prop}{m:Me}{us vs:List Nat}{de:aN}{env:En}(q:bK R m (us++vs) de env):bK R m us de env:=q.sub λ_ h=>QW _ h
def bK.right{R:Nat->Prop}{m:Me}{us vs:List Nat}{de:aN}{env:En}(q:bK R m (us++vs) de env):bK R m vs de env:=q.sub λ_ h=>Qv _ h
set_option tactic.hygienic true in
def bK.push{R:Nat->Prop}{m:Me}{vs:List Nat}{de:aN}{env:En}{d:Dat}{w:Wd}(q:bK R m vs de env)(h:aj R m d w):bK R m vs (de++[some d]) (env++[some w]):=by
 refine⟨by simp[q.1],λi hi e z=>?_⟩;rw[List.getElem?_append]at z;split at z
 .next k=>
  obtain⟨w,a,b⟩:=q.2 i hi e z;exact⟨w,by rw[Qq (by rw[<-q.1];exact k)];exact a,b⟩
 .next k=>
  rw[Qn (by rw[<-q.1];lia),<-q.1];have:i-de.length=0:=by
   rcases Nat.eq_zero_or_pos (i-de.length)with z0|z0
   .exact z0
   .rw[QG (by simp;lia)]at z;cases z
  rw[this]at z ⊢;cases z;exact⟨w,rfl,h⟩
noncomputable def aS(cl:Nat->List Wd->Me->Rz)(cd:Nat->List Dat->Rd):Prop:=∀(k:Nat) (ds:List Dat) (ws:List Wd) (R:Nat->Prop) (m:Me),ae R m ds ws->ag R m (cl k ws m) (cd k ds)
def yO (h:aj R m d w):ae R m (zT d) (zq w):=by
 cases d with
 |tup ds=>obtain⟨xs,rfl,q⟩:=ai.mp h;exact q
 |non=>rw[ak.mp h];exact .nil
 |bl _=>rw[ah.mp h];exact .nil
 |int _=>rw[aa.mp h];exact .nil
 |str _=>rw[ax.mp h];exact .nil
 |scr _=>rw[aU.mp h];exact .nil
 |lst _=>obtain⟨l,xs,rfl,_⟩:=ao.mp h;exact .nil
theorem zj (H:aS cl cd):∀(e:Ex) (R:Nat->Prop) (m:Me) (de:aN) (env:En),bK R m (zt e) de env->ag R m (af cl e env m) (aq cd e de)
 |.var i,R,m,de,env,q=>by
  cases z:de[i]? with
  |none=>rw[xi (.inl z)];exact ag.no
  |some o=>
   cases o with
   |none=>rw[xi (.inr z)];exact ag.no
   |some d=>
    obtain⟨w,a,b⟩:=q.2 i (QJ.mpr rfl) d z;rw[wU z,vW a];exact dn b
 |.lit w,R,m,de,env,q=>by
  cases w<;>first|exact ag.no|(exact dn (by unfold aj;rfl))
 |.bin op a b,R,m,de,env,q=>by
  refine(zj H a R m de env q.left).bind λd w m1 l1 k1=>?_;refine(zj H b _ m1 de env (q.right.up (λ_=>.inl) l1)).bind λd2 w2 m2 l2 k2=>?_;exact ul op (k1.up _ l2) k2
 |.neg a,R,m,de,env,q=>by
  refine(zj H a R m de env q).bind λd w m1 l1 k1=>?_;cases d with
  |int i=>rw[aa.mp k1];exact ag.int
  |_=>exact ag.no
 |.not a,R,m,de,env,q=>by
  refine(zj H a R m de env q).bind λd w m1 l1 k1=>?_;cases d with
  |bl i=>rw[ah.mp k1];exact ag.bl
  |_=>exact ag.no
 |.and a b,R,m,de,env,q=>by
  refine(zj H a R m de env q.left).bind λd w m1 l1 k1=>?_;cases d with
  |bl i=>
   rw[ah.mp k1];cases i with
   |true=>exact zj H b _ m1 de env (q.right.up (λ_=>.inl) l1)
   |false=>exact ag.bl
  |_=>exact ag.no
 |.or a b,R,m,de,env,q=>by
  refine(zj H a R m de env q.left).bind λd w m1 l1 k1=>?_;cases d with
  |bl i=>
   rw[ah.mp k1];cases i with
   |false=>exact zj H b _ m1 de env (q.right.up (λ_=>.inl) l1)
   |true=>exact ag.bl
  |_=>exact ag.no
 |.cmp op a b,R,m,de,env,q=>by
  refine(zj H a R m de env q.left).bind λd w m1 l1 k1=>?_;refine(zj H b _ m1 de env (q.right.up (λ_=>.inl) l1)).bind λd2 w2 m2 l2 k2=>?_;exact qw op (k1.up _ l2) k2
 |.chain o p a b c,R,m,de,env,q=>by
  refine(zj H a R m de env q.left).bind λd w m1 l1 k1=>?_;refine(zj H b _ m1 de env (q.right.left.up (λ_=>.inl) l1)).bind λd2 w2 m2 l2 k2=>?_;refine(qw o (k1.up _ l2) k2).bind λd3 w3 m3 l3 k3=>?_;cases d3 with
  |bl i=>
   rw[ah.mp k3];cases i with
   |false=>exact ag.bl
   |true=>
    refine(zj H c _ m3 de env (q.right.right.up (λ_ h=>.inl (.inl (.inl h))) ((l1.trans l2).trans l3))).bind λd4 w4 m4 l4 k4=>?_;exact qw p ((k2.up _ l3).up _ l4) k4
  |_=>exact ag.no
 |.unit,R,m,de,env,q=>by
  exact dn (ai.mpr ⟨[],rfl,.nil⟩)
 |.pair a b,R,m,de,env,q=>by
  refine(zj H a R m de env q.left).bind λd w m1 l1 k1=>?_;refine(zj H b _ m1 de env (q.right.up (λ_=>.inl) l1)).bind λd2 w2 m2 l2 k2=>?_;exact dn (ai.mpr ⟨_,rfl,.cons (k1.up _ l2) (yO k2)⟩)
 |.call k a,R,m,de,env,q=>by
  refine(zj H a R m de env q).bind λd w m1 l1 k1=>?_;exact H k _ _ _ m1 (yO k1)
 |.blt b a,R,m,de,env,q=>by
  refine(zj H a R m de env q).bind λd w m1 l1 k1=>?_;exact El b (yO k1)
 |.isi t a,R,m,de,env,q=>by
  refine(zj H a R m de env q).bind λd w m1 l1 k1=>?_;exact Em t k1
 |.lst a,R,m,de,env,q=>by
  refine(zj H a R m de env q).bind λd w m1 l1 k1=>?_;exact ag.new (yO k1)
 |.tup a,R,m,de,env,q=>by
  refine(zj H a R m de env q).bind λd w m1 l1 k1=>?_;have k2:=yO k1;simp only[k2.len];split
  .exact dn (ai.mpr ⟨_,rfl,k2⟩)
  .exact ag.no
 |.dop k a b c,R,m,de,env,q=>by
  refine(zj H a R m de env q.left).bind λd w m1 l1 k1=>?_;cases hb:lV k d with
  |false=>exact ag.no
  |true=>
   rw[FL k1 hb];refine(zj H b _ m1 de env (q.right.left.up (λ_=>.inl) l1)).bind λd2 w2 m2 l2 k2=>?_;refine(zj H c _ m2 de env ((q.right.right.up (λ_=>.inl) l1).up (λ_=>.inl) l2)).bind λd3 w3 m3 l3 k3=>?_;exact Ej k ((k1.up _ l2).up _ l3) (k2.up _ l3) k3
 |.idx a b,R,m,de,env,q=>by
  refine(zj H a R m de env q.left).bind λd w m1 l1 k1=>?_;refine(zj H b _ m1 de env (q.right.up (λ_=>.inl) l1)).bind λd2 w2 m2 l2 k2=>?_;exact Ek (k1.up _ l2) k2
 |.slH a b,R,m,de,env,q=>by
  refine(zj H a R m de env q.left).bind λd w m1 l1 k1=>?_;refine(zj H b _ m1 de env (q.right.up (λ_=>.inl) l1)).bind λd2 w2 m2 l2 k2=>?_;cases d2 with
  |int i=>rw[aa.mp k2];exact Cb _ _ (k1.up _ l2)
  |_=>exact ag.no
 |.meth _ _ _,R,m,de,env,q=>by
  exact ag.no
 |.rng a b c,R,m,de,env,q=>by
  refine(zj H a R m de env q.left).bind λd w m1 l1 k1=>?_;refine(zj H b _ m1 de env (q.right.left.up (λ_=>.inl) l1)).bind λd2 w2 m2 l2 k2=>?_;refine(zj H c _ m2 de env (q.right.right.up (λ_ h=>.inl (.inl h)) (l1.trans l2))).bind λd3 w3 m3 l3 k3=>?_;exact Ei ((k1.up _ l2).up _ l3) (k2.up _ l3) k3
 |.lrng a,R,m,de,env,q=>by
  refine(zj H a R m de env q).bind λd w m1 l1 k1=>?_;cases d with
  |int j=>
   rw[aa.mp k1];simp only;split
   .exact ag.new (vZ 1 _ 0)
   .exact ag.no
  |_=>exact ag.no
 |.comp elt it cond,R,m,de,env,q=>by
  refine(zj H it R m de env q.left).bind λd w m1 l1 k1=>?_;have hc:∀(R':Nat->Prop) m' d x,(∀l,Rf R m.length l->R' l)->Le m1 m'->aj R' m' d x->ag R' m' (af cl cond (env++[some x]) m') (aq cd cond (de++[some d])):=
   λR' m' d x hR l k=>zj H cond R' m' _ _ ((q.right.right.up (λl h=>hR l (.inl h)) (l1.trans l)).push k)
  have he:∀(R':Nat->Prop) m' d x,(∀l,Rf R m.length l->R' l)->Le m1 m'->aj R' m' d x->ag R' m' (af cl elt (env++[some x]) m') (aq cd elt (de++[some d])):=
   λR' m' d x hR l k=>zj H elt R' m' _ _ ((q.right.left.up (λl h=>hR l (.inl h)) (l1.trans l)).push k)
  cases d with
  |tup ds=>
   obtain⟨xs,rfl,k2⟩:=ai.mp k1;exact vj hc he ds xs [] [] _ m1 (λ_ h=>h) (Le.refl _) k2 .nil
  |scr ns=>
   rw[aU.mp k1];exact vj hc he (ns.map .int) (ns.map .int) [] [] _ m1 (λ_ h=>h) (Le.refl _) (dv ns) .nil
  |lst ds=>
   obtain⟨l,xs,rfl,_,hm,k2⟩:=ao.mp k1;simp only[cA];by_cases z:ds.length<=au
   .rw[LF z];have hl:=k2.len;exact kN hm hc he ds 0 (au+1) [] [] _ m1 (λ_ h=>h) (Le.refl _) (by simpa using k2) (by lia) (by lia) .nil
   .rw[LG z];exact ag.no
  |_=>exact ag.no
mutual
noncomputable def bh(m:Me):Dat->Wd->List Nat->Prop
 |.non,w,A=>w=.non/\A=[]
 |.bl b,w,A=>w=.bl b/\A=[]
 |.int i,w,A=>w=.int i/\A=[]
 |.str s,w,A=>w=.str s/\A=[]
 |.scr ns,w,A=>w=.rol (ns.map Wd.int)/\A=[]
 |.tup ds,w,A=>∃xs,w=.tup xs/\av m ds xs A
 |.lst ds,w,A=>∃l xs B,w=.ref l/\A=l::B/\m[l]?=some (.lst xs)/\av m ds xs B
noncomputable def av(m:Me):List Dat->List Wd->List Nat->Prop
 |[],xs,A=>xs=[]/\A=[]
 |d::ds,xs,A=>∃x r B C,xs=x::r/\A=B++C/\bh m d x B/\av m ds r C
end
def aX:bh m (.lst ds) w A↔∃l xs B,w=.ref l/\A=l::B/\m[l]?=some (.lst xs)/\av m ds xs B:=by
 constructor
 .intro h;unfold bh at h;exact h
 .intro h;unfold bh;exact h
def bv:bh m (.tup ds) w A↔∃xs,w=.tup xs/\av m ds xs A:=by
 constructor
 .intro h;unfold bh at h;exact h
 .intro h;unfold bh;exact h
def av.cons_inv (h:av m (d::ds) xs A):∃x r B C,xs=x::r/\A=B++C/\bh m d x B/\av m ds r C:=by unfold av at h;exact h
def av.nil_inv (h:av m [] xs A):xs=[]/\A=[]:=by unfold av at h;exact h
def av.nil{m:Me}:av m [] [] []:=by unfold av;exact⟨rfl,rfl⟩
def av.cons{m:Me}{d:Dat}{ds:List Dat}{x:Wd}{xs:List Wd}{B C:List Nat}(a:bh m d x B)(b:av m ds xs C):av m (d::ds) (x::xs) (B++C):=by
 unfold av;exact⟨x,xs,B,C,rfl,rfl,a,b⟩
theorem av.app:∀{ds es:List Dat}{xs ys:List Wd}{A B:List Nat},av m ds xs A->av m es ys B->av m (ds++es) (xs++ys) (A++B)
 |[],es,xs,ys,A,B,a,b=>by rw[a.nil_inv.1,a.nil_inv.2];exact b
 |d::ds,es,xs,ys,A,B,a,b=>by
  obtain⟨x,r,P,Q,rfl,rfl,p,q⟩:=a.cons_inv;rw[WR];exact .cons p (av.app q b)
mutual
theorem bh.frame{m m':Me}:∀(d:Dat) (w:Wd) (A:List Nat),(∀l∈A,∀o,m[l]?=some o->m'[l]?=some o)->bh m d w A->bh m' d w A
 |.non,w,A,h,q=>by unfold bh at q ⊢;exact q
 |.bl _,w,A,h,q=>by unfold bh at q ⊢;exact q
 |.int _,w,A,h,q=>by unfold bh at q ⊢;exact q
 |.str _,w,A,h,q=>by unfold bh at q ⊢;exact q
 |.scr _,w,A,h,q=>by unfold bh at q ⊢;exact q
 |.tup ds,w,A,h,q=>by
  obtain⟨xs,rfl,q1⟩:=bv.mp q;exact bv.mpr ⟨xs,rfl,av.frame ds xs A h q1⟩
 |.lst ds,w,A,h,q=>by
  obtain⟨l,xs,B,rfl,rfl,hm,q1⟩:=aX.mp q;exact aX.mpr ⟨l,xs,B,rfl,rfl,h l QH _ hm,av.frame ds xs B (λl hl=>h l (Qk _ hl)) q1⟩
theorem av.frame{m m':Me}:∀(ds:List Dat) (xs:List Wd) (A:List Nat),(∀l∈A,∀o,m[l]?=some o->m'[l]?=some o)->av m ds xs A->av m' ds xs A
 |[],xs,A,h,q=>by rw[q.nil_inv.1,q.nil_inv.2];exact .nil
 |d::ds,xs,A,h,q=>by
  obtain⟨x,r,B,C,rfl,rfl,a,b⟩:=q.cons_inv;exact .cons (bh.frame d x B (λl hl=>h l (QW _ hl)) a) (av.frame ds r C (λl hl=>h l (Qv _ hl)) b)
end
mutual
theorem bh.rep{m:Me}{R:Nat->Prop}:∀(d:Dat) (w:Wd) (A:List Nat),(∀l∈A,R l)->bh m d w A->aj R m d w
 |.non,w,A,h,q=>by unfold bh at q;exact ak.mpr q.1
 |.bl _,w,A,h,q=>by unfold bh at q;exact ah.mpr q.1
 |.int _,w,A,h,q=>by unfold bh at q;exact aa.mpr q.1
 |.str _,w,A,h,q=>by unfold bh at q;exact ax.mpr q.1
 |.scr _,w,A,h,q=>by unfold bh at q;exact aU.mpr q.1
 |.tup ds,w,A,h,q=>by
  obtain⟨xs,rfl,q1⟩:=bv.mp q;exact ai.mpr ⟨xs,rfl,av.rep ds xs A h q1⟩
 |.lst ds,w,A,h,q=>by
  obtain⟨l,xs,B,rfl,rfl,hm,q1⟩:=aX.mp q;exact ao.mpr ⟨l,xs,rfl,h l QH,hm,av.rep ds xs B (λl hl=>h l (Qk _ hl)) q1⟩
theorem av.rep{m:Me}{R:Nat->Prop}:∀(ds:List Dat) (xs:List Wd) (A:List Nat),(∀l∈A,R l)->av m ds xs A->ae R m ds xs
 |[],xs,A,h,q=>by rw[q.nil_inv.1];exact .nil
 |d::ds,xs,A,h,q=>by
  obtain⟨x,r,B,C,rfl,rfl,a,b⟩:=q.cons_inv;exact .cons (bh.rep d x B (λl hl=>h l (QW _ hl)) a) (av.rep ds r C (λl hl=>h l (Qv _ hl)) b)
end
mutual
theorem bh.lt{m:Me}:∀(d:Dat) (w:Wd) (A:List Nat),bh m d w A->∀l∈A,l<m.length
 |.non,w,A,q=>by unfold bh at q;rw[q.2];simp
 |.bl _,w,A,q=>by unfold bh at q;rw[q.2];simp
 |.int _,w,A,q=>by unfold bh at q;rw[q.2];simp
 |.str _,w,A,q=>by unfold bh at q;rw[q.2];simp
 |.scr _,w,A,q=>by unfold bh at q;rw[q.2];simp
 |.tup ds,w,A,q=>by
  obtain⟨xs,rfl,q1⟩:=bv.mp q;exact av.lt ds xs A q1
 |.lst ds,w,A,q=>by
  obtain⟨l,xs,B,rfl,rfl,hm,q1⟩:=aX.mp q;intro k hk;rcases Qt.mp hk with rfl|hk
  .exact (Qa.mp hm).1
  .exact av.lt ds xs B q1 k hk
theorem av.lt{m:Me}:∀(ds:List Dat) (xs:List Wd) (A:List Nat),av m ds xs A->∀l∈A,l<m.length
 |[],xs,A,q=>by rw[q.nil_inv.2];simp
 |d::ds,xs,A,q=>by
  obtain⟨x,r,B,C,rfl,rfl,a,b⟩:=q.cons_inv;intro k hk;rcases Qy.mp hk with hk|hk
  .exact bh.lt d x B a k hk
  .exact av.lt ds r C b k hk
end
mutual
theorem aj.flat{R:Nat->Prop}{m m':Me}:∀(d:Dat) (w:Wd),ay d=true->aj R m d w->bh m' d w []
 |.non,w,h,q=>by unfold bh;exact⟨ak.mp q,rfl⟩
 |.bl _,w,h,q=>by unfold bh;exact⟨ah.mp q,rfl⟩
 |.int _,w,h,q=>by unfold bh;exact⟨aa.mp q,rfl⟩
 |.str _,w,h,q=>by unfold bh;exact⟨ax.mp q,rfl⟩
 |.scr _,w,h,q=>by unfold bh;exact⟨aU.mp q,rfl⟩
 |.tup ds,w,h,q=>by
  obtain⟨xs,rfl,q1⟩:=ai.mp q;exact bv.mpr ⟨xs,rfl,ae.flat ds xs (by unfold Vl.ay at h;exact h) q1⟩
 |.lst ds,w,h,q=>by unfold Vl.ay at h;cases h
theorem ae.flat{R:Nat->Prop}{m m':Me}:∀(ds:List Dat) (xs:List Wd),aW ds=true->ae R m ds xs->av m' ds xs []
 |[],xs,h,q=>by rw[q.nil_inv];exact .nil
 |d::ds,xs,h,q=>by
  obtain⟨x,r,rfl,a,b⟩:=q.cons_inv;unfold aW at h;rw[Qj]at h;exact av.cons (B:=[]) (C:=[]) (aj.flat d x h.1 a) (ae.flat ds r h.2 b)
end
noncomputable def bD(R:Nat->Prop)(m:Me)(lv:Lv)(d:Dat)(w:Wd)(A:List Nat):Prop:=match lv with
 |.no=>aj R m d w/\A=[]
 |.top=>∃ds l xs,d=.lst ds/\w=.ref l/\A=[l]/\m[l]?=some (.lst xs)/\ae R m ds xs
 |.full=>bh m d w A
theorem bD.rep (h:∀l,R l->R' l)(k:∀l∈A,R' l)(q:bD R m lv d w A):aj R' m d w:=by
 cases lv with
 |no=>exact aj.frame (λl o r z=>⟨h l r,z⟩) d w q.1
 |top=>
  obtain⟨ds,l,xs,rfl,rfl,rfl,hm,a⟩:=q;exact ao.mpr ⟨l,xs,rfl,k l (by simp),hm,ae.frame (λl o r z=>⟨h l r,z⟩) ds xs a⟩
 |full=>exact bh.rep d w A k q
theorem bD.frame{R R':Nat->Prop}{m m':Me}{lv:Lv}{d:Dat}{w:Wd}{A:List Nat}(h:∀(l:Nat) o,R l->m[l]?=some o->R' l/\m'[l]?=some o)(k:∀l∈A,∀o,m[l]?=some o->m'[l]?=some o)(q:bD R m lv d w A):bD R' m' lv d w A:=by
 cases lv with
 |no=>exact⟨aj.frame h d w q.1,q.2⟩
 |top=>
  obtain⟨ds,l,xs,rfl,rfl,rfl,hm,a⟩:=q;exact⟨ds,l,xs,rfl,rfl,rfl,k l (by simp) _ hm,ae.frame h ds xs a⟩
 |full=>exact bh.frame d w A k q
theorem bD.lt (q:bD R m lv d w A):∀l∈A,l<m.length:=by
 cases lv with
 |no=>rw[q.2];simp
 |top=>
  obtain⟨ds,l,xs,rfl,rfl,rfl,hm,a⟩:=q;intro k hk;rw[QJ.mp hk];exact(Qa.mp hm).1
 |full=>exact bh.lt d w A q
noncomputable def aZ(lev:Nat->Lv):Ex->Dat->Lv
 |.comp elt _ _,d=>if ay d then .full else match d with
  |.lst ds=>if ds.all (λx=>aZ lev elt x == .full)then .full else .top
  |_=>.no
 |.lst a,d=>if ay d then .full else match d with
  |.lst ds=>if aZ lev a (.tup ds) == .full then .full else .top
  |_=>.no
 |.tup a,d=>aZ lev a d
 |.pair a b,d=>if ay d then .full else match d with
  |.tup (x::ds)=>if aZ lev a x == .full&&aZ lev b (.tup ds) == .full then .full else .no
  |_=>.no
 |.call k _,d=>if ay d then .full else lev k
 |.blt .list _,d=>if ay d then .full else match d with
  |.lst ds=>if aW ds then .full else .top
  |_=>.no
 |.lrng _,d=>if ay d then .full else match d with
  |.lst ds=>if aW ds then .full else .top
  |_=>.no
 |.slH _ _,d=>if ay d then .full else match d with
  |.lst ds=>if aW ds then .full else .top
  |_=>.no
 |.bin _ _ _,d=>if ay d then .full else match d with
  |.lst ds=>if aW ds then .full else .top
  |_=>.no
 |_,d=>if ay d then .full else .no
@[simp]theorem qx(lev:Nat->Lv)(e i c:Ex)(d:Dat):aZ lev (.comp e i c) d=if ay d then .full else match d with
  |.lst ds=>if ds.all (λx=>aZ lev e x == .full)then .full else .top
  |_=>.no:=rfl
@[simp]theorem Ja(lev:Nat->Lv)(a:Ex)(d:Dat):aZ lev (.lst a) d=if ay d then .full else match d with
  |.lst ds=>if aZ lev a (.tup ds) == .full then .full else .top
  |_=>.no:=rfl
@[simp]theorem IZ(lev:Nat->Lv)(a:Ex)(d:Dat):aZ lev (.tup a) d=aZ lev a d:=rfl
@[simp]theorem tM(lev:Nat->Lv)(a b:Ex)(d:Dat):aZ lev (.pair a b) d=if ay d then .full else match d with
  |.tup (x::ds)=>if aZ lev a x == .full&&aZ lev b (.tup ds) == .full then .full else .no
  |_=>.no:=rfl
@[simp]theorem IH(lev:Nat->Lv)(k:Nat)(a:Ex)(d:Dat):aZ lev (.call k a) d=if ay d then .full else lev k:=rfl
@[simp]theorem IG(lev:Nat->Lv)(a:Ex)(d:Dat):aZ lev (.blt .list a) d=if ay d then .full else match d with
  |.lst ds=>if aW ds then .full else .top
  |_=>.no:=rfl
@[simp]theorem IF(lev:Nat->Lv)(a:Ex)(d:Dat):aZ lev (.lrng a) d=if ay d then .full else match d with
  |.lst ds=>if aW ds then .full else .top
  |_=>.no:=rfl
@[simp]theorem IY(lev:Nat->Lv)(a b:Ex)(d:Dat):aZ lev (.slH a b) d=if ay d then .full else match d with
  |.lst ds=>if aW ds then .full else .top
  |_=>.no:=rfl
@[simp]theorem IX(lev:Nat->Lv)(op:Bo)(a b:Ex)(d:Dat):aZ lev (.bin op a b) d=if ay d then .full else match d with
  |.lst ds=>if aW ds then .full else .top
  |_=>.no:=rfl
@[simp]theorem IW(lev:Nat->Lv)(i:Nat)(d:Dat):aZ lev (.var i) d=if ay d then .full else .no:=rfl
@[simp]theorem IV(lev:Nat->Lv)(w:Wd)(d:Dat):aZ lev (.lit w) d=if ay d then .full else .no:=rfl
@[simp]theorem IU(lev:Nat->Lv)(a b:Ex)(d:Dat):aZ lev (.idx a b) d=if ay d then .full else .no:=rfl
@[simp]theorem IT(lev:Nat->Lv)(a:Ex)(d:Dat):aZ lev (.neg a) d=if ay d then .full else .no:=rfl
@[simp]theorem IS(lev:Nat->Lv)(a:Ex)(d:Dat):aZ lev (.not a) d=if ay d then .full else .no:=rfl
@[simp]theorem IR(lev:Nat->Lv)(a b:Ex)(d:Dat):aZ lev (.and a b) d=if ay d then .full else .no:=rfl
@[simp]theorem Ae(lev:Nat->Lv)(a b:Ex)(d:Dat):aZ lev (.or a b) d=if ay d then .full else .no:=rfl
@[simp]theorem IQ(lev:Nat->Lv)(op:Co)(a b:Ex)(d:Dat):aZ lev (.cmp op a b) d=if ay d then .full else .no:=rfl
@[simp]theorem IE(lev:Nat->Lv)(d:Dat):aZ lev (.unit) d=if ay d then .full else .no:=rfl
@[simp]theorem IP(lev:Nat->Lv)(t:Tg)(a:Ex)(d:Dat):aZ lev (.isi t a) d=if ay d then .full else .no:=rfl
@[simp]theorem IN(lev:Nat->Lv)(a b c:Ex)(d:Dat):aZ lev (.rng a b c) d=if ay d then .full else .no:=rfl
@[simp]theorem ID(lev:Nat->Lv)(a:Ex)(d:Dat):aZ lev (.blt .len a) d=if ay d then .full else .no:=rfl
@[simp]theorem IC(lev:Nat->Lv)(a:Ex)(d:Dat):aZ lev (.blt .int a) d=if ay d then .full else .no:=rfl
@[simp]theorem JK(lev:Nat->Lv)(a:Ex)(d:Dat):aZ lev (.blt .tuple a) d=if ay d then .full else .no:=rfl
@[simp]theorem IB(lev:Nat->Lv)(a:Ex)(d:Dat):aZ lev (.blt .sum a) d=if ay d then .full else .no:=rfl
@[simp]theorem IA(lev:Nat->Lv)(a:Ex)(d:Dat):aZ lev (.blt .all a) d=if ay d then .full else .no:=rfl
@[simp]theorem Jj(lev:Nat->Lv)(a:Ex)(d:Dat):aZ lev (.blt .abs a) d=if ay d then .full else .no:=rfl
@[simp]theorem Jp(lev:Nat->Lv)(a:Ex)(d:Dat):aZ lev (.blt .max2 a) d=if ay d then .full else .no:=rfl
noncomputable def aL(R:Nat->Prop)(m:Me)(lv:Dat->Lv)(r:Rz)(rd:Rd):Prop:=match rd with
 |.ok d=>∃w m' A,r=.ok w m'/\Le m m'/\bD (λl=>Rf R m.length l/\l∉A) m' (lv d) d w A/\A.Nodup/\∀a∈A,m.length<=a
 |.exc c d=>∃w m',r=.exc c w m'/\Le m m'/\aj (Rf R m.length) m' d w
 |.no=>True
noncomputable def wd(lev:Nat->Lv)(k:Nat)(d:Dat):Lv:=if ay d then .full else lev k
noncomputable def bt(lev:Nat->Lv)(cl:Nat->List Wd->Me->Rz)(cd:Nat->List Dat->Rd):Prop:=∀(k:Nat) (ds:List Dat) (ws:List Wd) (R:Nat->Prop) (m:Me),ae R m ds ws->aL R m (wd lev k) (cl k ws m) (cd k ds)
def aL.sim (h:aL R m lv r rd):ag R m r rd:=by
 cases rd with
 |ok d=>
  obtain⟨w,m',A,rfl,l,q,_,hA⟩:=h;exact⟨w,m',rfl,l,q.rep (λ_ z=>z.1) (λa z=>.inr (hA a z))⟩
 |exc c d=>exact h
 |no=>trivial
def bt.r (H:bt lev cl cd):aS cl cd:=λk ds ws R m q=>(H k ds ws R m q).sim
set_option tactic.hygienic true in
def ag.own (h:ag R m r rd)(hl:∀d,lv d=if ay d then .full else .no):aL R m lv r rd:=by
 cases rd with
 |ok d=>
  obtain⟨w,m',rfl,l,q⟩:=h;refine⟨w,m',[],rfl,l,?_,QD,by simp⟩;rw[hl];split
  .next z=>exact q.flat d w z
  .exact ⟨aj.frame (λl o r z=>⟨⟨r,by simp⟩,z⟩) d w q,rfl⟩
 |exc c d=>exact h
 |no=>trivial
theorem aL.lift{R:Nat->Prop}{m m1:Me}{r:Rz}{rd:Rd}{lv:Dat->Lv}(h:Le m m1)(q:aL (Rf R m.length) m1 lv r rd):aL R m lv r rd:=by
 have hl:=h.len;cases rd with
 |ok d=>
  obtain⟨w,m',A,rfl,k,z,nd,hA⟩:=q;exact⟨w,m',A,rfl,h.trans k,z.frame (λl o r z=>⟨⟨by rcases r.1 with (r|r)|r;exact .inl r;exact .inr r;exact .inr (by lia),r.2⟩,z⟩) (λ_ _ _ z=>z),nd,λa ha=>by have:=hA a ha;lia⟩
 |exc c d=>exact ag.lift (rd:=.exc c d) h q
 |no=>trivial
def ag.bindO (h:ag R m r rd)(k:∀d w m',Le m m'->aj (Rf R m.length) m' d w->aL (Rf R m.length) m' lv (f w m') (g d)):aL R m lv (r.bind f) (rd.bind g):=by
 cases rd with
 |ok d=>obtain⟨w,m',rfl,l,z⟩:=h;exact aL.lift l (k d w m' l z)
 |exc c d=>obtain⟨w,m',rfl,l,z⟩:=h;exact⟨w,m',rfl,l,z⟩
 |no=>trivial
theorem aL.no{R:Nat->Prop}{m:Me}{r:Rz}{lv:Dat->Lv}:aL R m lv r .no:=trivial
set_option tactic.hygienic true in
def aL.new{R:Nat->Prop}{m:Me}{ds:List Dat}{xs:List Wd}{lv:Dat->Lv}(h:ae R m ds xs)(hl:∀es,lv (.lst es)=if aW es then .full else .top):aL R m lv (alloc m xs) (yB ds):=by
 unfold yB alloc;rw[h.len];by_cases z:xs.length<=au
 .rw[LF z,LF z];refine⟨_,_,[m.length],rfl,Le.app m _,?_,by simp,by simp⟩;rw[hl];split
  .next f=>exact aX.mpr ⟨_,xs,[],rfl,rfl,by simp,h.flat ds xs f⟩
  .refine ⟨ds,_,xs,rfl,rfl,rfl,by simp,ae.frame (λl o r z=>⟨⟨.inl r,?_⟩,Le.app m _ l o z⟩) ds xs h⟩;have:=(Qa.mp z).1;simp;lia
 .rw[LG z,LG z];exact aL.no
def pA (hm:Le m0 m)(h:av m ds xs A)(nd:A.Nodup)(hA:∀a∈A,m0.length<=a)(hl:lv (.lst ds)=.full)(hlen:ds.length=xs.length):aL R m0 lv (alloc m xs) (yB ds):=by
 unfold yB alloc;rw[hlen];have hlt:=h.lt;by_cases z:xs.length<=au
 .rw[LF z,LF z];refine⟨_,_,m.length::A,rfl,hm.trans (Le.app m _),?_,QO.mpr ⟨λq=>by have:=hlt _ q;lia,nd⟩,?_⟩
  .rw[hl];exact aX.mpr ⟨_,xs,A,rfl,rfl,by simp,av.frame ds xs A (λl hl o q=>Le.app m _ l o q) h⟩
  .intro a ha;rcases Qt.mp ha with rfl|ha
   .exact hm.len
   .exact hA a ha
 .rw[LG z,LG z];exact aL.no
theorem av.len:∀{ds:List Dat}{xs:List Wd}{A:List Nat},av m ds xs A->ds.length=xs.length
 |[],xs,A,q=>by rw[q.nil_inv.1];rfl
 |d::ds,xs,A,q=>by
  obtain⟨x,r,B,C,rfl,rfl,a,b⟩:=q.cons_inv;simp[av.len b]
noncomputable def du(R:Nat->Prop)(m:Me)(lv:Dat->Lv)(r:Rz)(rd:Rd):Prop:=match rd with
 |.ok d=>∃out m2 outx,d=.lst out/\out.length<=au/\r=alloc m2 outx/\Le m m2/\ae (Rf R m.length) m2 out outx/\((∀y∈out,lv y=.full)->∃A,av m2 out outx A/\A.Nodup/\∀a∈A,m.length<=a)
 |.exc c d=>∃w m',r=.exc c w m'/\Le m m'/\aj (Rf R m.length) m' d w
 |.no=>True
noncomputable def cS(m0 m:Me)(lv:Dat->Lv)(acc:List Dat)(acx:List Wd):Prop:=(∀y∈acc,lv y=.full)->∃A,av m acc acx A/\A.Nodup/\∀a∈A,m0.length<=a
def cS.up{m0 m m':Me}{lv:Dat->Lv}{acc:List Dat}{acx:List Wd}(h:Le m m')(q:cS m0 m lv acc acx):cS m0 m' lv acc acx:=λz=>by
 obtain⟨A,a,b,c⟩:=q z;exact⟨A,av.frame acc acx A (λl _ o k=>h l o k) a,b,c⟩
def cS.push{m0 m m':Me}{lv:Dat->Lv}{acc:List Dat}{acx:List Wd}{d:Dat}{w:Wd}{B:List Nat}(hm:Le m0 m)(h:Le m m')(q:cS m0 m lv acc acx)(z:lv d=.full->bh m' d w B)(nd:B.Nodup)(hB:∀b∈B,m.length<=b):cS m0 m' lv (acc++[d]) (acx++[w]):=λf=>by
 obtain⟨A,a,b,c⟩:=q λy hy=>f y (QW _ hy);refine⟨A++(B++[]),(av.frame acc acx A (λl _ o k=>h l o k) a).app (.cons (z (f d (by simp))) .nil),?_,?_⟩
 .rw[QU];refine Qr.mpr ⟨b,nd,λx hx y hy e=>?_⟩;have:=av.lt acc acx A a x hx;have:=hB y hy;lia
 .intro x hx;rw[QU]at hx;rcases Qy.mp hx with hx|hx
  .exact c x hx
  .have:=hB x hx;have:=hm.len;lia
theorem vk (hc:∀(R':Nat->Prop) m d x,(∀l,R l->R' l)->Le m0 m->aj R' m d x->ag R' m (c x m) (cd d))(he:∀(R':Nat->Prop) m d x,(∀l,R l->R' l)->Le m0 m->aj R' m d x->aL R' m lv (e x m) (ed d)):
  ∀(ds:List Dat) (xs:List Wd) (acc:List Dat) (acx:List Wd) (m:Me),Le m0 m->ae (Rf R m0.length) m ds xs->ae (Rf R m0.length) m acc acx->cS m0 m lv acc acx->du R m0 lv (xy c e xs acx m) (yD cd ed ds acc)
 |[],xs,acc,acx,m,hm,a,b,f=>by
  rw[a.nil_inv];unfold xy yD yB;by_cases z:acc.length<=au
  .rw[LF z];exact⟨acc,m,acx,rfl,z,rfl,hm,b,f⟩
  .rw[LG z];trivial
 |d::ds,xs,acc,acx,m,hm,a,b,f=>by
  obtain⟨x,r,rfl,p,q⟩:=a.cons_inv;have hl:=hm.len;have sh:∀{n:Nat}{m':Me}{d:Dat}{w:Wd},m0.length<=n->aj (Rf (Rf R m0.length) n) m' d w->aj (Rf R m0.length) m' d w:=λhn k=>aj.frame (λl o r z=>⟨by rcases r with (r|r)|r;exact .inl r;exact .inr r;exact .inr (by lia),z⟩) _ _ k;unfold xy yD;have h1:=hc _ m d x (λl z=>.inl z) hm p;cases e1:cd d with
  |no=>trivial
  |exc k t=>rw[e1]at h1;obtain⟨w,m',h1,l1,k1⟩:=h1;rw[h1];exact⟨w,m',rfl,hm.trans l1,sh hl k1⟩
  |ok t=>
   rw[e1]at h1;obtain⟨w,m1,h1,l1,k1⟩:=h1;rw[h1];simp only[Rz.bind,Rd.bind];cases t with
   |bl t=>
    rw[ah.mp k1];have fr:∀{ds:List Dat}{xs:List Wd},ae (Rf R m0.length) m ds xs->ae (Rf R m0.length) m1 ds xs:=λk=>ae.frame (λl o r z=>⟨r,l1 l o z⟩) _ _ k;cases t with
    |false=>exact vk hc he ds r acc acx m1 (hm.trans l1) (fr q) (fr b) (f.up l1)
    |true=>
     have h2:=he _ m1 d x (λl z=>.inl z) (hm.trans l1) (aj.frame (λl o r z=>⟨r,l1 l o z⟩) _ _ p);have hl1:=(hm.trans l1).len;simp only;cases e2:ed d with
     |no=>trivial
     |exc k t=>rw[e2]at h2;obtain⟨w,m',h2,l2,k2⟩:=h2;rw[h2];exact⟨w,m',rfl,(hm.trans l1).trans l2,sh hl1 k2⟩
     |ok y=>
      rw[e2]at h2;have h3:=h2.sim;obtain⟨w,m2,B,h2,l2,k2,nd,hB⟩:=h2;obtain⟨w',m2',h3,_,k3⟩:=h3;rw[h2]at h3 ⊢;cases h3;simp only[Rz.bind,Rd.bind,b.len];split
      .refine vk hc he ds r _ _ m2 ((hm.trans l1).trans l2) (ae.frame (λl o r z=>⟨r,l2 l o z⟩) _ _ (fr q)) ((ae.frame (λl o r z=>⟨r,l2 l o z⟩) _ _ (fr b)).app (.cons (sh hl1 k3) .nil)) ((f.up l1).push (hm.trans l1) l2 ?_ nd hB);intro z;rw[z]at k2;exact k2
      .trivial
   |_=>trivial
theorem kO (hx0:m0[l]?=some (.lst xs0))(hc:∀(R':Nat->Prop) m d x,(∀l,R l->R' l)->Le m0 m->aj R' m d x->ag R' m (c x m) (cd d))(he:∀(R':Nat->Prop) m d x,(∀l,R l->R' l)->Le m0 m->aj R' m d x->aL R' m lv (e x m) (ed d)):
  ∀(ds:List Dat) (i k:Nat) (acc:List Dat) (acx:List Wd) (m:Me),Le m0 m->ae (Rf R m0.length) m ds (xs0.drop i)->i+ds.length=xs0.length->ds.length<k->ae (Rf R m0.length) m acc acx->cS m0 m lv acc acx->du R m0 lv (xz c e l k i acx m) (yD cd ed ds acc)
 |[],i,0,acc,acx,m,hm,a,hi,hk,b,f=>by simp at hk
 |d::ds,i,0,acc,acx,m,hm,a,hi,hk,b,f=>by simp at hk
 |[],i,k+1,acc,acx,m,hm,a,hi,hk,b,f=>by
  unfold xz yD zN yB;rw[hm l _ hx0];simp only;rw[QG (by simp at hi;lia)];by_cases z:acc.length<=au
  .rw[LF z];exact⟨acc,m,acx,rfl,z,rfl,hm,b,f⟩
  .rw[LG z];trivial
 |d::ds,i,k+1,acc,acx,m,hm,a,hi,hk,b,f=>by
  obtain⟨x,r,e0,p,q⟩:=a.cons_inv;have hx:xs0[i]?=some x:=by
   have:(xs0.drop i)[0]?=some x:=by rw[e0];rfl
   simpa using this
  have hr:r=xs0.drop (i+1):=by
   have:(xs0.drop i).drop 1=r:=by rw[e0];rfl
   rw[<-this,Vs]
  rw[hr]at q;have hi':i+1+ds.length=xs0.length:=by simp at hi;lia
  have hk':ds.length<k:=by simp at hk;lia
  have hl:=hm.len;have sh:∀{n:Nat}{m':Me}{d:Dat}{w:Wd},m0.length<=n->aj (Rf (Rf R m0.length) n) m' d w->aj (Rf R m0.length) m' d w:=λhn k=>aj.frame (λl o r z=>⟨by rcases r with (r|r)|r;exact .inl r;exact .inr r;exact .inr (by lia),z⟩) _ _ k;unfold xz yD zN;rw[hm l _ hx0];simp only;rw[hx];simp only;have h1:=hc _ m d x (λl z=>.inl z) hm p;cases e1:cd d with
  |no=>trivial
  |exc k t=>rw[e1]at h1;obtain⟨w,m',h1,l1,k1⟩:=h1;rw[h1];exact⟨w,m',rfl,hm.trans l1,sh hl k1⟩
  |ok t=>
   rw[e1]at h1;obtain⟨w,m1,h1,l1,k1⟩:=h1;rw[h1];simp only[Rz.bind,Rd.bind];cases t with
   |bl t=>
    rw[ah.mp k1];have fr:∀{ds:List Dat}{xs:List Wd},ae (Rf R m0.length) m ds xs->ae (Rf R m0.length) m1 ds xs:=λk=>ae.frame (λl o r z=>⟨r,l1 l o z⟩) _ _ k;cases t with
    |false=>exact kO hx0 hc he ds (i+1) k acc acx m1 (hm.trans l1) (fr q) hi' hk' (fr b) (f.up l1)
    |true=>
     have h2:=he _ m1 d x (λl z=>.inl z) (hm.trans l1) (aj.frame (λl o r z=>⟨r,l1 l o z⟩) _ _ p);have hl1:=(hm.trans l1).len;simp only;cases e2:ed d with
     |no=>trivial
     |exc k t=>rw[e2]at h2;obtain⟨w,m',h2,l2,k2⟩:=h2;rw[h2];exact⟨w,m',rfl,(hm.trans l1).trans l2,sh hl1 k2⟩
     |ok y=>
      rw[e2]at h2;have h3:=h2.sim;obtain⟨w,m2,B,h2,l2,k2,nd,hB⟩:=h2;obtain⟨w',m2',h3,_,k3⟩:=h3;rw[h2]at h3 ⊢;cases h3;simp only[Rz.bind,Rd.bind,b.len];split
      .refine kO hx0 hc he ds (i+1) k _ _ m2 ((hm.trans l1).trans l2) (ae.frame (λl o r z=>⟨r,l2 l o z⟩) _ _ (fr q)) hi' hk' ((ae.frame (λl o r z=>⟨r,l2 l o z⟩) _ _ (fr b)).app (.cons (sh hl1 k3) .nil)) ((f.up l1).push (hm.trans l1) l2 ?_ nd hB);intro z;rw[z]at k2;exact k2
      .trivial
   |_=>trivial
def du.sim (h:du R m lv r rd)(hl:∀ds,lw (.lst ds)=if ds.all (λx=>lv x == .full)then .full else .top):aL R m lw r rd:=by
 cases rd with
 |no=>trivial
 |exc c d=>exact h
 |ok d=>
  obtain⟨out,m2,outx,rfl,hlen,rfl,l2,k2,own⟩:=h;have e:=k2.len;cases z:out.all (λx=>lv x == .full)with
  |true=>
   obtain⟨A,a,b,c⟩:=own λy hy=>by simpa using QE.mp z y hy
   have:=pA (R:=R) (lv:=lw) l2 a b c (by rw[hl,z];rfl) e;unfold yB at this;rw[LF hlen]at this;exact this
  |false=>
   unfold alloc;rw[<-e,LF hlen];have ll:=l2.len;refine⟨_,_,[m2.length],rfl,l2.trans (Le.app m2 _),?_,by simp,by simp;exact ll⟩;rw[hl,z];refine⟨out,_,outx,rfl,rfl,rfl,by simp,ae.frame (λl o r z=>⟨⟨r,?_⟩,Le.app m2 _ l o z⟩) out outx k2⟩;have:=(Qa.mp z).1;simp;lia
theorem xS(lev:Nat->Lv):∀(e:Ex) (d:Dat),ay d=true->aZ lev e d=.full
 |.tup a,d,h=>xS lev a d h
 |.comp _ _ _,d,h=>LF h
 |.lst _,d,h=>LF h
 |.pair _ _,d,h=>LF h
 |.call _ _,d,h=>LF h
 |.blt b _,d,h=>by cases b<;>exact LF h
 |.lrng _,d,h=>LF h
 |.slH _ _,d,h=>LF h
 |.bin _ _ _,d,h=>LF h
 |.var _,d,h=>LF h
 |.lit _,d,h=>LF h
 |.neg _,d,h=>LF h
 |.not _,d,h=>LF h
 |.and _ _,d,h=>LF h
 |.or _ _,d,h=>LF h
 |.cmp _ _ _,d,h=>LF h
 |.chain _ _ _ _ _,d,h=>LF h
 |.unit,d,h=>LF h
 |.isi _ _,d,h=>LF h
 |.dop _ _ _ _,d,h=>LF h
 |.idx _ _,d,h=>LF h
 |.meth _ _ _,d,h=>LF h
 |.rng _ _ _,d,h=>LF h
def aL.newTop{R:Nat->Prop}{m0 m:Me}{ds:List Dat}{xs:List Wd}{lv:Dat->Lv}(hm:Le m0 m)(h:ae (Rf R m0.length) m ds xs)(hl:lv (.lst ds)=.top):aL R m0 lv (alloc m xs) (yB ds):=by
 unfold yB alloc;rw[h.len];by_cases z:xs.length<=au
 .rw[LF z,LF z];refine⟨_,_,[m.length],rfl,hm.trans (Le.app m _),?_,by simp,by simp;exact hm.len⟩;rw[hl];refine⟨ds,_,xs,rfl,rfl,rfl,by simp,ae.frame (λl o r z=>⟨⟨r,?_⟩,Le.app m _ l o z⟩) ds xs h⟩;have:=(Qa.mp z).1;simp;lia
 .rw[LG z,LG z];exact aL.no
set_option tactic.hygienic true in
def Eg{R:Nat->Prop}{m:Me}{d e:Dat}{x y:Wd}{lv:Dat->Lv}(op:Bo)(hl:∀d,lv d=if ay d then .full else match d with |.lst ds=>if aW ds then .full else .top|_=>.no)(a:aj R m d x)(b:aj R m e y):aL R m lv (cz op x y m) (yW op d e):=by
 have hn:∀es,lv (.lst es)=if aW es then .full else .top:=λes=>by rw[hl];simp[ay]
 have hs:=ul op a b;cases d with
 |lst ds=>
  obtain⟨l,xs,rfl,_,hm,a1⟩:=ao.mp a;cases e with
  |lst es=>
   obtain⟨l',ys,rfl,_,hk,b1⟩:=ao.mp b;cases op<;>first|exact aL.no|skip
   simp only[cz,yW,hm,hk];exact aL.new (a1.app b1) hn
  |int k=>
   rw[aa.mp b];cases op<;>first|exact aL.no|skip
   simp only[cz,yW,hm];by_cases z:-(au:Int)<=k/\k<=(au:Int)
   .rw[LF z,LF z];exact aL.new (a1.rep _) hn
   .rw[LG z,LG z];exact aL.no
  |_=>exact aL.no
 |int i=>
  cases e with
  |int j=>
   have hi:∀r:Rd,ag R m (cz op x y m) r->(∀d,r=.ok d->ay d=true)->aL R m lv (cz op x y m) r:=by
    intro r h f;cases r with
    |ok d=>
     obtain⟨w,m',h,l,k⟩:=h;refine⟨w,m',[],h,l,?_,QD,by simp⟩;rw[hl,LF (f d rfl)];exact k.flat d w (f d rfl)
    |exc c d=>exact h
    |no=>trivial
   refine hi _ hs λd h=>?_;cases op<;>simp only[yW]at h
   .cases h;rfl
   .cases h;rfl
   all_goals (split at h<;>(cases h;try rfl))
  |_=>exact aL.no
 |tup ds=>
  obtain⟨xs,rfl,a1⟩:=ai.mp a;cases e with
  |tup es=>
   obtain⟨ys,rfl,b1⟩:=ai.mp b;cases op<;>first|exact aL.no|skip
   simp only[yW]at hs ⊢;split at hs
   .next z=>
    rw[LF z];obtain⟨w,m',h,l,k⟩:=hs;refine⟨w,m',[],h,l,?_,QD,by simp⟩;rw[hl];split
    .next f=>exact k.flat _ w f
    .exact ⟨aj.frame (λl o r z=>⟨⟨r,by simp⟩,z⟩) _ w k,rfl⟩
   .next z=>rw[LG z];exact aL.no
  |_=>exact aL.no
 |_=>exact aL.no
set_option tactic.hygienic true in
def Ca{R:Nat->Prop}{m:Me}{d:Dat}{x:Wd}{lv:Dat->Lv}(lo hi:Option Int)(hl:∀d,lv d=if ay d then .full else match d with |.lst ds=>if aW ds then .full else .top|_=>.no)(a:aj R m d x):aL R m lv (eR x lo hi m) (dD d lo hi):=by
 have hn:∀es,lv (.lst es)=if aW es then .full else .top:=λes=>by rw[hl];simp[ay]
 by_cases t:∃ds,d=.tup ds
 .obtain ⟨ds,rfl⟩:=t;have hs:=tP lo hi a;simp only[dD]at hs ⊢;split at hs
  .next z=>rw[LF z];exact aL.no
  .next z=>
   rw[LG z];obtain⟨w,m',h,l,k⟩:=hs;refine⟨w,m',[],h,l,?_,QD,by simp⟩;rw[hl];split
   .next f=>exact k.flat _ w f
   .exact ⟨aj.frame (λl o r z=>⟨⟨r,by simp⟩,z⟩) _ w k,rfl⟩
 have t':∀ds,d≠.tup ds:=λds e=>t ⟨ds,e⟩;rw[sK (tQ a t'),tR t'];cases z:cu d with
 |none=>exact aL.no
 |some ds=>
  obtain⟨xs,h,q⟩:=kM a z;simp only[h,q.len];exact aL.new ((q.drop _).take _) hn
set_option tactic.hygienic true in
theorem wD (H:bt lev cl cd):∀(e:Ex) (R:Nat->Prop) (m:Me) (de:aN) (env:En),bK R m (zt e) de env->aL R m (aZ lev e) (af cl e env m) (aq cd e de)
 |.call k a,R,m,de,env,q=>by
  have e:aZ lev (.call k a)=wd lev k:=by funext d;simp[wd]
  rw[e];refine(zj H.r a R m de env q).bindO λd w m1 l1 k1=>?_;exact H k _ _ _ m1 (yO k1)
 |.bin op a b,R,m,de,env,q=>by
  refine(zj H.r a R m de env q.left).bindO λd w m1 l1 k1=>?_;refine(zj H.r b _ m1 de env (q.right.up (λ_=>.inl) l1)).bindO λd2 w2 m2 l2 k2=>?_;exact Eg op (λd=>by cases d<;>rfl) (k1.up _ l2) k2
 |.lrng a,R,m,de,env,q=>by
  refine(zj H.r a R m de env q).bindO λd w m1 l1 k1=>?_;cases d with
  |int j=>
   rw[aa.mp k1];simp only;split
   .exact aL.new (vZ 1 _ 0) (λes=>by simp[ay])
   .exact aL.no
  |_=>exact aL.no
 |.slH a b,R,m,de,env,q=>by
  refine(zj H.r a R m de env q.left).bindO λd w m1 l1 k1=>?_;refine(zj H.r b _ m1 de env (q.right.up (λ_=>.inl) l1)).bindO λd2 w2 m2 l2 k2=>?_;cases d2 with
  |int i=>
   rw[aa.mp k2];exact Ca _ _ (λd=>by cases d<;>rfl) (k1.up m1.length l2)
  |_=>exact aL.no
 |.blt b a,R,m,de,env,q=>by
  by_cases hb:b=.list
  .subst hb;refine(zj H.r a R m de env q).bindO λd w m1 l1 k1=>?_;have k2:=yO k1;simp only[y6];split
   .next x hx=>
    rw[hx]at k2;obtain⟨x',r,e0,p,q0⟩:=k2.cons_inv;rw[e0,q0.nil_inv];split
    .next z=>obtain⟨ys,h,q⟩:=vh p z;simp only[jD,h];exact aL.new q (λes=>by simp[ay])
    .exact aL.no
   .exact aL.no
  .exact (zj H.r (.blt b a) R m de env q).own λd=>by cases b<;>first|exact LH rfl hb|rfl
 |.lst a,R,m,de,env,q=>by
  have ih:=wD H a R m de env q;show aL R m _ ((af cl a env m).bind λx m1=>alloc m1 (zq x)) ((aq cd a de).bind λx=>yB (zT x));cases ea:aq cd a de with
  |no=>trivial
  |exc c d=>rw[ea]at ih;obtain⟨w,m',h,l,k⟩:=ih;rw[h];exact⟨w,m',rfl,l,k⟩
  |ok d=>
   rw[ea]at ih;have hs:=ih.sim;obtain⟨w,m1,A,h,l,k,nd,hA⟩:=ih;obtain⟨w',m1',h',_,ks⟩:=hs;rw[h]at h';cases h';rw[h];simp only[Rz.bind,Rd.bind];have ka:=yO ks;cases z:aZ lev a (.tup (zT d)) == .full with
   |false=>exact aL.newTop l ka (by simp[ay,z])
   |true=>
    have z':aZ lev a (.tup (zT d))=.full:=by simpa using z
    have own:∃B,av m1 (zT d) (zq w) B/\B.Nodup/\∀b∈B,m.length<=b:=by
     cases d with
     |tup ds=>
      rw[show aZ lev a (.tup ds)=.full from z']at k;obtain⟨xs,rfl,k1⟩:=bv.mp k;exact⟨A,k1,nd,hA⟩
     |_=>refine⟨[],?_,QD,by simp⟩;exact ka.flat _ _ rfl
    obtain⟨B,o,nb,hB⟩:=own;exact pA l o nb hB (by simp[ay,z]) ka.len
 |.tup a,R,m,de,env,q=>by
  have ih:=wD H a R m de env q;have el:aZ lev (.tup a)=aZ lev a:=by funext d;simp
  rw[el];show aL R m _ ((af cl a env m).bind λx m1=>if(zq x).length<=au then .ok (.tup (zq x)) m1 else .no) ((aq cd a de).bind λx=>if(zT x).length<=au then .ok (.tup (zT x))else .no);cases ea:aq cd a de with
  |no=>trivial
  |exc c d=>rw[ea]at ih;obtain⟨w,m',h,l,k⟩:=ih;rw[h];exact⟨w,m',rfl,l,k⟩
  |ok d=>
   rw[ea]at ih;have hs:=ih.sim;obtain⟨w,m1,A,h,l,k,nd,hA⟩:=ih;obtain⟨w',m1',h',_,ks⟩:=hs;rw[h]at h';cases h';rw[h];have ka:=yO ks;simp only[Rz.bind,Rd.bind,ka.len];split
   .cases d with
    |tup ds=>
     obtain⟨xs,rfl,_⟩:=ai.mp ks;exact⟨_,m1,A,rfl,l,k,nd,hA⟩
    |_=>
     refine⟨_,m1,[],rfl,l,?_,QD,by simp⟩;rw[xS lev a _ (by rfl)];exact bv.mpr ⟨_,rfl,ka.flat _ _ rfl⟩
   .trivial
 |.pair a b,R,m,de,env,q=>by
  have iha:=wD H a R m de env q.left;show aL R m _ ((af cl a env m).bind λx m1=>(af cl b env m1).bind λy m2=>.ok (.tup (x::zq y)) m2) ((aq cd a de).bind λx=>(aq cd b de).bind λy=>.ok (.tup (x::zT y)));cases ea:aq cd a de with
  |no=>trivial
  |exc c d=>rw[ea]at iha;obtain⟨w,m',h,l,k⟩:=iha;rw[h];exact⟨w,m',rfl,l,k⟩
  |ok d=>
   rw[ea]at iha;have hs:=iha.sim;obtain⟨w,m1,A,h,l,k,nd,hA⟩:=iha;obtain⟨w',m1',h',_,ks⟩:=hs;rw[h]at h';cases h';rw[h];simp only[Rz.bind,Rd.bind];have ihb:=wD H b _ m1 de env (q.right.up (R':=Rf R m.length) (λ_=>.inl) l);cases eb:aq cd b de with
   |no=>trivial
   |exc c d=>rw[eb]at ihb;obtain⟨w,m',h,l2,k⟩:=ihb;rw[h];exact ag.lift (rd:=.exc c d) l ⟨w,m',rfl,l2,k⟩
   |ok d2=>
    rw[eb]at ihb;have hs2:=ihb.sim;obtain⟨w2,m2,A2,h2,l2,k2,nd2,hA2⟩:=ihb;obtain⟨w2',m2',h2',_,ks2⟩:=hs2;rw[h2]at h2';cases h2';rw[h2];simp only;have ka:=yO ks2;have hl1:=l.len;cases z:(aZ lev a d == .full&&aZ lev b (.tup (zT d2)) == .full)with
    |false=>
     have:ag R m (.ok (.tup (w::zq w2)) m2) (.ok (.tup (d::zT d2))):=
      ag.lift l (ag.lift l2 (dn (ai.mpr ⟨_,rfl,.cons (ks.up _ l2) ka⟩)))
     obtain⟨w3,m3,h3,l3,k3⟩:=this;refine⟨w3,m3,[],h3,l3,?_,QD,by simp⟩;by_cases f:ay (.tup (d::zT d2))=true
     .rw[xS lev _ _ f];exact k3.flat _ w3 f
     .have:aZ lev (.pair a b) (.tup (d::zT d2))=.no:=by
       rw[tM,LG f];simp only[z];rfl
      rw[this];exact⟨aj.frame (λl o r z=>⟨⟨r,by simp⟩,z⟩) _ w3 k3,rfl⟩
    |true=>
     rw[Qj]at z;have z1:aZ lev a d=.full:=by simpa using z.1
     have z2:aZ lev b (.tup (zT d2))=.full:=by simpa using z.2
     rw[z1]at k;have own:∃B,av m2 (zT d2) (zq w2) B/\B.Nodup/\∀b∈B,m1.length<=b:=by
      cases d2 with
      |tup ds=>
       rw[show aZ lev b (.tup ds)=.full from z2]at k2;obtain⟨xs,rfl,k3⟩:=bv.mp k2;exact⟨A2,k3,nd2,hA2⟩
      |_=>refine⟨[],?_,QD,by simp⟩;exact ka.flat _ _ rfl
     obtain⟨B,o,nb,hB⟩:=own;refine⟨_,m2,A++B,rfl,l.trans l2,?_,?_,?_⟩
     .have:aZ lev (.pair a b) (.tup (d::zT d2))=.full:=by
       rw[tM];simp only[z1,z2];simp
      rw[this];exact bv.mpr ⟨_,rfl,.cons (bh.frame d w A (λx _ o q=>l2 x o q) k) o⟩
     .refine Qr.mpr ⟨nd,nb,λx hx y hy e=>?_⟩;have:=bh.lt d w A k x hx;have:=hB y hy;lia
     .intro x hx;rcases Qy.mp hx with hx|hx
      .exact hA x hx
      .have:=hB x hx;lia
 |.comp elt it cond,R,m,de,env,q=>by
  refine(zj H.r it R m de env q.left).bindO λd w m1 l1 k1=>?_;have hc:∀(R':Nat->Prop) m' d x,(∀l,Rf R m.length l->R' l)->Le m1 m'->aj R' m' d x->ag R' m' (af cl cond (env++[some x]) m') (aq cd cond (de++[some d])):=
   λR' m' d x hR l k=>zj H.r cond R' m' _ _ ((q.right.right.up (λl h=>hR l (.inl h)) (l1.trans l)).push k)
  have he:∀(R':Nat->Prop) m' d x,(∀l,Rf R m.length l->R' l)->Le m1 m'->aj R' m' d x->aL R' m' (aZ lev elt) (af cl elt (env++[some x]) m') (aq cd elt (de++[some d])):=
   λR' m' d x hR l k=>wD H elt R' m' _ _ ((q.right.left.up (λl h=>hR l (.inl h)) (l1.trans l)).push k)
  have hl:∀ds,aZ lev (.comp elt it cond) (.lst ds)=if ds.all (λx=>aZ lev elt x == .full)then .full else .top:=λds=>by simp[ay]
  have acc0:cS m1 m1 (aZ lev elt) [] []:=λ_=>⟨[],.nil,QD,by simp⟩;cases d with
  |tup ds=>
   obtain⟨xs,rfl,k2⟩:=ai.mp k1;exact(vk hc he ds xs [] [] m1 (Le.refl _) (k2.up _ (Le.refl _)) .nil acc0).sim hl
  |scr ns=>
   rw[aU.mp k1];exact(vk hc he (ns.map .int) (ns.map .int) [] [] m1 (Le.refl _) (dv ns) .nil acc0).sim hl
  |lst ds=>
   obtain⟨l,xs,rfl,_,hm,k2⟩:=ao.mp k1;simp only[cA];by_cases z:ds.length<=au
   .rw[LF z];have hl':=k2.len;exact(kO hm hc he ds 0 (au+1) [] [] m1 (Le.refl _) (by simpa using (k2.up _ (Le.refl _))) (by lia) (by lia) .nil acc0).sim hl
   .rw[LG z];exact aL.no
  |_=>exact aL.no
 |.var i,R,m,de,env,q=>(zj H.r _ R m de env q).own λd=>rfl
 |.lit w,R,m,de,env,q=>(zj H.r _ R m de env q).own λd=>rfl
 |.neg a,R,m,de,env,q=>(zj H.r _ R m de env q).own λd=>rfl
 |.not a,R,m,de,env,q=>(zj H.r _ R m de env q).own λd=>rfl
 |.and a b,R,m,de,env,q=>(zj H.r _ R m de env q).own λd=>rfl
 |.or a b,R,m,de,env,q=>(zj H.r _ R m de env q).own λd=>rfl
 |.cmp op a b,R,m,de,env,q=>(zj H.r _ R m de env q).own λd=>rfl
 |.chain o p a b c,R,m,de,env,q=>(zj H.r _ R m de env q).own λd=>rfl
 |.unit,R,m,de,env,q=>(zj H.r _ R m de env q).own λd=>rfl
 |.isi t a,R,m,de,env,q=>(zj H.r _ R m de env q).own λd=>rfl
 |.dop _ _ _ _,R,m,de,env,q=>(zj H.r _ R m de env q).own λd=>rfl
 |.idx a b,R,m,de,env,q=>(zj H.r _ R m de env q).own λd=>rfl
 |.meth _ _ _,R,m,de,env,q=>(zj H.r _ R m de env q).own λd=>rfl
 |.rng a b c,R,m,de,env,q=>(zj H.r _ R m de env q).own λd=>rfl
set_option genInjectivity false in
inductive bO where
 |next (de:aN) (lv:List Lv)|ret (d:Dat) (l:Lv)|brk (de:aN) (lv:List Lv)|cont (de:aN) (lv:List Lv)|exc (c:Nat) (d:Dat)|no
deriving Inhabited
noncomputable def Rd.bindS(r:Rd)(f:Dat->bO):bO:=match r with
 |.ok d=>f d
 |.exc c d=>.exc c d
 |.no=>.no
noncomputable def Rd.okS(r:Rd)(f:Dat->bO):bO:=match r with
 |.ok d=>f d
 |_=>.no
noncomputable def bb:List Nat->List Lv->List Lv
 |[],lv=>lv
 |i::vs,lv=>bb vs (lv.set i .no)
noncomputable def b5(de:aN)(j:Nat)(lv:List Lv):List Lv:=match de[j]?,lv[j]? with
 |some (some (.lst _)),some .full=>lv.set j .top
 |some (some (.lst _)),some .top=>lv.set j .top
 |_,_=>lv.set j .no
noncomputable def wG(e:Ex)(de:aN)(lv:List Lv):List Lv:=match e with
 |.idx (.var j) b=>b5 de j (bb (zt b) lv)
 |e=>bb (zt e) lv
mutual
noncomputable def dS:Dat->Nat
 |.lst xs=>dh xs+1
 |.tup xs=>dh xs+1
 |.non=>0
 |.bl _=>0
 |.int _=>0
 |.str _=>0
 |.scr _=>0
noncomputable def dh:List Dat->Nat
 |[]=>0
 |d::ds=>max (dS d) (dh ds)
end
noncomputable def zW(lv:List Lv)(j:Nat):Bool:=match lv[j]? with
 |some .top=>true
 |some .full=>true
 |_=>false
noncomputable def wt(lev:Nat->Lv)(e:Ex)(d:Dat)(j:Nat)(de:aN)(lv:List Lv):Option (aN×List Lv):=
 if zW lv j=false then none
 else if aZ lev e d=.full then some (de,lv)
 else if j∈zt e then none
 else match e with
  |.var i=>if lv[i]?=some .full/\lv[j]?=some .full then some (de.set i none,lv)else some (de,(bb [i] lv).set j .top)
  |e=>some (de,(wG e de lv).set j .top)
noncomputable def yI{α:Type}(body:α->aN->List Lv->bO):List α->aN->List Lv->bO
 |[],de,lv=>.next de lv
 |x::xs,de,lv=>match body x de lv with
  |.next d1 l1=>yI body xs d1 l1
  |.cont d1 l1=>yI body xs d1 l1
  |.brk d1 l1=>.next d1 l1
  |r=>r
noncomputable def wH(c:aN->Rd)(body:aN->List Lv->bO):Nat->aN->List Lv->bO
 |0,_,_=>.no
 |k+1,de,lv=>match c de with
  |.ok (.bl true)=>match body de lv with
   |.next d1 l1=>wH c body k d1 l1
   |.cont d1 l1=>wH c body k d1 l1
   |.brk d1 l1=>.next d1 l1
   |r=>r
  |.ok (.bl false)=>.next de lv
  |.exc c d=>.exc c d
  |_=>.no
noncomputable def bu(d:Dat):Lv:=if ay d then .full else .no
noncomputable def bS(lev:Nat->Lv)(e:Ex)(d:Dat)(lv:List Lv):Lv:=if ay d then .full else match e with
 |.var i=>(lv[i]?).getD .no
 |.tup (.pair (.var a) (.pair (.var b) .unit))=>if a≠b/\lv[a]?=some .full/\lv[b]?=some .full then .full else .no
 |e=>aZ lev e d
noncomputable def xu(de:aN)(j:Nat):Option (List Dat):=match de[j]? with
 |some (some (.lst ds))=>some ds
 |_=>none
noncomputable def jm(lev:Nat->Lv)(i:Nat)(e:Ex)(d:Dat)(de:aN)(lv:List Lv):bO:=
 if aZ lev e d=.full then .next (de.set i (some d)) (lv.set i .full)else .next (de.set i (some d)) ((wG e de lv).set i (aZ lev e d))
noncomputable def pQ(lev:Nat->Lv)(j:Nat)(k:Dat)(e:Ex)(d:Dat)(de:aN)(lv:List Lv):bO:=match k,xu de j with
 |.int k,some ds=>match ix ds.length k with
  |some p=>match wt lev e d j de lv with
   |some (de1,lv1)=>.next (de1.set j (some (.lst (ds.set p d)))) lv1
   |none=>if zW lv j&&decide (dS d<dS (.lst ds))&&(ay d==false)then .next (de.set j (some (.lst (ds.set p d)))) ((bb (zt e) lv).set j .top)else .no
  |none=>.no
 |_,_=>.no
noncomputable def fG(j:Nat)(r:Dat)(de:aN)(lv:List Lv)(f:List Dat->Option (List Dat)):Option aN:=match r,xu de j with
 |.int k,some ds=>match (ix ds.length k).bind λp=>(ds[p]?).bind λd=>match d with
   |.lst es=>(f es).map λes1=>ds.set p (.lst es1)
   |_=>none with
  |some ds1=>if lv[j]?=some .full then some (de.set j (some (.lst ds1)))else none
  |none=>none
 |_,_=>none
noncomputable def iT(o:Option aN)(lv:List Lv):bO:=match o with
 |some de=>.next de lv
 |none=>.no
noncomputable def iK(k d:Dat)(es:List Dat):Option (List Dat):=match k with
 |.int k=>(ix es.length k).map λp=>es.set p d
 |_=>none
noncomputable def yE(_ _:Sm):Option Unit:=none
noncomputable def fR(lev:Nat->Lv)(cl:Nat->List Dat->Rd)(e:Ex)(de:aN)(lv:List Lv):bO:=match e with
  |.meth .append (.var j) (.pair e .unit)=>(aq cl e de).okS λd=>match xu de j with
   |some ds=>if ds.length<au then match wt lev e d j de lv with
    |some (de1,lv1)=>.next (de1.set j (some (.lst (ds++[d])))) lv1
    |none=>.no
    else .no
   |none=>.no
  |.meth .append (.idx (.var j) r) (.pair e .unit)=>(aq cl r de).okS λr=>(aq cl e de).okS λd=>if aZ lev e d=.full then iT (fG j r de lv λes=>if es.length<au then some (es++[d])else none) lv else .no
  |.meth .insert (.var j) (.pair (.lit (.int 0)) (.pair e .unit))=>(aq cl e de).okS λd=>match xu de j with
   |some ds=>if ds.length<au then match wt lev e d j de lv with
    |some (de1,lv1)=>.next (de1.set j (some (.lst (d::ds)))) lv1
    |none=>.no
    else .no
   |none=>.no
  |.meth .reverse (.var j) .unit=>match xu de j with
   |some ds=>if zW lv j then .next (de.set j (some (.lst ds.reverse))) lv else .no
   |none=>.no
  |.meth .pop (.var j) .unit=>match xu de j with
   |some ds=>if zW lv j&&decide (ds.length≠0)then .next (de.set j (some (.lst ds.dropLast))) lv else .no
   |none=>.no
  |.meth _ _ _=>.no
  |e=>(aq cl e de).bindS λ_=>.next de lv
noncomputable def aH(lev:Nat->Lv)(cl:Nat->List Dat->Rd):Sm->aN->List Lv->bO
 |.skip,de,lv=>.next de lv
 |.seq a b,de,lv=>match aH lev cl a de lv with
  |.next d1 l1=>aH lev cl b d1 l1
  |r=>r
 |.asg i e,de,lv=>(aq cl e de).bindS λd=>jm lev i e d de lv
 |.asgS o k e,de,lv=>match o with
  |.var j=>(aq cl e de).okS λd=>(aq cl k de).okS λk=>pQ lev j k e d de lv
  |.idx (.var j) r=>(aq cl e de).okS λd=>(aq cl r de).okS λr=>(aq cl k de).okS λk=>
    if aZ lev e d=.full then iT (fG j r de lv (iK k d)) lv
    else if j∈zt e then .no else iT (fG j r de lv (iK k d)) ((wG e de lv).set j .top)
  |_=>.no
 |.ite c a b,de,lv=>(aq cl c de).bindS λx=>match x with
  |.bl true=>aH lev cl a de lv
  |.bl false=>aH lev cl b de lv
  |_=>.no
 |.forv i it body,de,lv=>(aq cl it de).bindS λd=>match cA d with
  |some xs=>yI (λx de lv=>aH lev cl body (de.set i (some x)) (lv.set i (bu x))) xs de (if ay d then lv else wG it de lv)
  |none=>.no
 |.fort i j it body,de,lv=>(aq cl it de).bindS λd=>match cA d with
  |some xs=>yI (λx de lv=>match x with
    |.tup [a,b]=>aH lev cl body ((de.set i (some a)).set j (some b)) ((lv.set i (bu a)).set j (bu b))
    |_=>.no) xs de (if ay d then lv else wG it de lv)
  |none=>.no
 |.while c body,de,lv=>wH (aq cl c) (aH lev cl body) 1000000 de lv
 |.ret e,de,lv=>(aq cl e de).bindS λd=>.ret d (bS lev e d lv)
 |.expr e,de,lv=>fR lev cl e de lv
 |.appPop j a x e,de,lv=>match xu de x,de[a]?,xu de j with
  |some (.int v::r),some (some (.int low)),some ds=>(aq cl e (de.set x (some (.lst r)))).okS λd=>match d with
   |.int k=>if j≠x/\a≠x/\zW lv j=true/\zW lv x=true/\0<k/\ds.length<au then .next ((de.set x (some (.lst r))).set j (some (.lst (ds++[.int (low+v%k)])))) lv else .no
   |_=>.no
  |_,_,_=>.no
 |.for3 _ _ _ _ _,_,_=>.no
 |.never,_,_=>.no
def tL{lev:Nat->Lv}{cl:Nat->List Dat->Rd}{a b:Sm}{de:aN}{lv:List Lv}:aH lev cl (.seq a b) de lv=match aH lev cl a de lv with
  |.next d1 l1=>aH lev cl b d1 l1
  |r=>r:=rfl
noncomputable def zQ(fn:Fn)(ds:List Dat):aN:=ds.map some++Qu (fn.sz-ds.length) none
noncomputable def zP(fn:Fn)(ds:List Dat):List Lv:=ds.map bu++Qu (fn.sz-ds.length) .full
noncomputable def zax:Lv->Lv->Bool
 |_,.no=>true
 |.full,.full=>true
 |.top,.top=>true
 |_,_=>false
noncomputable def zK(l:Lv):bO->Rd
 |.next _ _=>.ok .non
 |.ret d k=>if ay d || zax k l then .ok d else .no
 |.exc c d=>.exc c d
 |_=>.no
noncomputable def zF(lev:Nat->Lv)(cl:Nat->List Dat->Rd)(k:Nat)(fn:Fn)(ds:List Dat):Rd:=
 if ds.length=fn.ar then zK (lev k) (aH lev cl fn.body (zQ fn ds) (zP fn ds))else .no
noncomputable def gM(lev:Nat->Lv)(T:List Fn):Nat->Nat->List Dat->Rd
 |0,_,_=>.no
 |d+1,k,ds=>match T[k]? with
  |some fn=>zF lev (gM lev T d) k fn ds
  |none=>.no
noncomputable def yU(RR:Nat->Prop)(A:Nat->List Nat):Nat->Prop:=λl=>RR l/\∀i,l∉A i
structure Inv(lo:Nat)(RR:Nat->Prop)(m:Me)(de:aN)(lv:List Lv)(env:En)(A:Nat->List Nat):Prop where
 len:de.length=env.length
 lvl:lv.length=de.length
 rr:∀l,lo<=l->RR l
 lom:lo<=m.length
 slot:∀i d l,de[i]?=some (some d)->lv[i]?=some l->∃w,env[i]?=some (some w)/\bD (yU RR A) m l d w (A i)
 nd:∀i,(A i).Nodup
 dj:∀i j a,a∈A i->a∈A j->i=j
 bd:∀i a,a∈A i->lo<=a/\a<m.length
noncomputable def bg(A:Nat->List Nat)(m:Me)(A':Nat->List Nat)(m':Me):Prop:=(∀(l:Nat) o,(∀i,l∉A i)->m[l]?=some o->(∀i,l∉A' i)/\m'[l]?=some o)/\m.length<=m'.length
def bg.refl(A:Nat->List Nat)(m:Me):bg A m A m:=⟨λ_ _ h k=>⟨h,k⟩,Ql _⟩
def bg.trans{A B C:Nat->List Nat}{m m1 m2:Me}(h:bg A m B m1)(k:bg B m1 C m2):bg A m C m2:=
 ⟨λl o a b=>k.1 l o (h.1 l o a b).1 (h.1 l o a b).2,Qo h.2 k.2⟩
def bg.rep (h:bg A m A' m')(q:aj (yU RR A) m d w):aj (yU RR A') m' d w:=
 aj.frame (λl o r z=>⟨⟨r.1,(h.1 l o r.2 z).1⟩,(h.1 l o r.2 z).2⟩) d w q
def bg.repL (h:bg A m A' m')(q:ae (yU RR A) m d w):ae (yU RR A') m' d w:=
 ae.frame (λl o r z=>⟨⟨r.1,(h.1 l o r.2 z).1⟩,(h.1 l o r.2 z).2⟩) d w q
def Inv.getlv (I:Inv lo RR m de lv env A){i:Nat}(h:de[i]?=some o):∃l,lv[i]?=some l:=by
 obtain⟨hi,_⟩:=Qa.mp h;exact⟨_,Qc (by rw[I.lvl];exact hi)⟩
def Inv.envR (I:Inv lo RR m de lv env A)(vs:List Nat):bK RR m vs de env:=
 ⟨I.len,λi _ d h=>by
  obtain⟨l,hl⟩:=I.getlv h;obtain⟨w,a,b⟩:=I.slot i d l h hl;exact⟨w,a,b.rep (λ_ z=>z.1) (λa ha=>I.rr a (I.bd i a ha).1)⟩⟩
def Inv.ext{lo:Nat}{RR:Nat->Prop}{m m':Me}{de:aN}{lv:List Lv}{env:En}{A:Nat->List Nat}(I:Inv lo RR m de lv env A)(h:Le m m'):Inv lo RR m' de lv env A:=
 ⟨I.len,I.lvl,I.rr,Qo I.lom h.len,λi d l a b=>by
  obtain⟨w,p,q⟩:=I.slot i d l a b;exact⟨w,p,q.frame (λl o r z=>⟨r,h l o z⟩) (λl _ o z=>h l o z)⟩,I.nd,I.dj,λi a ha=>⟨(I.bd i a ha).1,Qf (I.bd i a ha).2 h.len⟩⟩
def v6 (h:Le m m'):bg A m A m':=⟨λl o a b=>⟨a,h l o b⟩,h.len⟩
noncomputable def aK(A:Nat->List Nat)(i:Nat)(B:List Nat):Nat->List Nat:=λk=>if k=i then B else A k
def zh:aK A i B i=B:=by simp[aK]
def zf (h:k≠i):aK A i B k=A k:=by simp[aK,h]
set_option tactic.hygienic true in
def Inv.store{lo:Nat}{RR:Nat->Prop}{m m':Me}{de:aN}{lv:List Lv}{env:En}{A:Nat->List Nat}(I:Inv lo RR m de lv env A)(h:Le m m')(i:Nat){d:Dat}{l:Lv}{w:Wd}{B:List Nat}
  (q:bD (λl=>(yU RR A l\/m.length<=l)/\l∉B) m' l d w B) (nd:B.Nodup) (hB:∀b∈B,m.length<=b) :
  Inv lo RR m' (de.set i (some d)) (lv.set i l) (env.set i (some w)) (aK A i B)/\bg A m (aK A i B) m':=by
 have hlt:=q.lt;have fr:∀(x:Nat) (o:Ob),(∀k,x∉A k)->m[x]?=some o->∀k,x∉aK A i B k:=by
  intro x o hx hm k;by_cases e:k=i
  .subst e;rw[zh];intro hb;have:=hB x hb;have:=(Qa.mp hm).1;lia
  .rw[zf e];exact hx k
 refine⟨⟨by simp[I.len],by simp[I.lvl],I.rr,Qo I.lom h.len,?_,?_,?_,?_⟩,⟨λx o hx hm=>⟨fr x o hx hm,h x o hm⟩,h.len⟩⟩
 .intro k e l' h1 h2;by_cases z:k=i
  .rw[z]at h1 h2 ⊢;rw[Qx]at h1 h2;rw[LF rfl]at h1 h2;split at h1
   .split at h2
    .next q1 q2=>
     cases h1;cases h2;refine⟨w,by rw[Qx,LF rfl,LF (by rw[<-I.len];exact q1)],?_⟩;rw[zh];refine q.frame (λx o r hm=>⟨⟨?_,λk=>?_⟩,hm⟩) (λ_ _ _ z=>z)
     .rcases r.1 with r1|r1
      .exact r1.1
      .exact I.rr x (Qo I.lom r1)
     .by_cases e:k=i
      .subst e;rw[zh];exact r.2
      .rw[zf e];rcases r.1 with r1|r1
       .exact r1.2 k
       .intro ha;have:=(I.bd k x ha).2;lia
    .cases h2
   .cases h1
  .rw[Qe (Ne.symm z)]at h1 h2;obtain⟨w',a,b⟩:=I.slot k e l' h1 h2;refine⟨w',by rw[Qe (Ne.symm z)];exact a,?_⟩;rw[zf z];exact b.frame (λx o r hm=>⟨⟨r.1,fr x o r.2 hm⟩,h x o hm⟩) (λx _ o hm=>h x o hm)
 .intro k;by_cases e:k=i
  .subst e;rw[zh];exact nd
  .rw[zf e];exact I.nd k
 .intro k j a ha hb;by_cases e:k=i
  .subst e;rw[zh]at ha;by_cases f:j=k
   .exact f.symm
   .rw[zf f]at hb;have:=hB a ha;have:=(I.bd j a hb).2;lia
  .rw[zf e]at ha;by_cases f:j=i
   .subst f;rw[zh]at hb;have:=hB a hb;have:=(I.bd k a ha).2;lia
   .rw[zf f]at hb;exact I.dj k j a ha hb
 .intro k a ha;by_cases e:k=i
  .subst e;rw[zh]at ha;exact⟨Qo I.lom (hB a ha),hlt a ha⟩
  .rw[zf e]at ha;exact⟨(I.bd k a ha).1,Qf (I.bd k a ha).2 h.len⟩
def Inv.weak{lo:Nat}{RR:Nat->Prop}{m:Me}{de:aN}{lv:List Lv}{env:En}{A:Nat->List Nat}(I:Inv lo RR m de lv env A)(i:Nat){l:Lv}{B:List Nat}
  (hB:∀b∈B,b∈A i) (nd:B.Nodup) (q:∀d w,de[i]?=some (some d)->env[i]?=some (some w)->bD (yU RR (aK A i B)) m l d w B) :
  Inv lo RR m de (lv.set i l) env (aK A i B)/\bg A m (aK A i B) m:=by
 have fr:∀x,(∀k,x∉A k)->∀k,x∉aK A i B k:=by
  intro x hx k;by_cases e:k=i
  .subst e;rw[zh];intro hb;exact hx _ (hB x hb)
  .rw[zf e];exact hx k
 have sub:∀k a,a∈aK A i B k->a∈A k:=by
  intro k a ha;by_cases e:k=i
  .subst e;rw[zh]at ha;exact hB a ha
  .rw[zf e]at ha;exact ha
 refine⟨⟨I.len,by simp[I.lvl],I.rr,I.lom,?_,?_,λk j a ha hb=>I.dj k j a (sub k a ha) (sub j a hb),λk a ha=>I.bd k a (sub k a ha)⟩,⟨λx o hx hm=>⟨fr x hx,hm⟩,Ql _⟩⟩
 .intro k e l' h1 h2;by_cases z:k=i
  .subst z;rw[Qx,LF rfl]at h2;split at h2
   .cases h2;obtain⟨l0,hl0⟩:=I.getlv h1;obtain⟨w,a,_⟩:=I.slot k e l0 h1 hl0;refine⟨w,a,?_⟩;rw[zh];exact q e w h1 a
   .cases h2
  .rw[Qe (Ne.symm z)]at h2;obtain⟨w',a,b⟩:=I.slot k e l' h1 h2;refine⟨w',a,?_⟩;rw[zf z];exact b.frame (λx o r hm=>⟨⟨r.1,fr x r.2⟩,hm⟩) (λx _ o hm=>hm)
 .intro k;by_cases e:k=i
  .subst e;rw[zh];exact nd
  .rw[zf e];exact I.nd k
def Inv.down{lo:Nat}{RR:Nat->Prop}{m:Me}{de:aN}{lv:List Lv}{env:En}{A:Nat->List Nat}(I:Inv lo RR m de lv env A)(i:Nat):
  Inv lo RR m de (lv.set i .no) env (aK A i [])/\bg A m (aK A i []) m:=by
 refine I.weak i (by simp) QD λd w h1 h2=>⟨?_,rfl⟩;obtain⟨l,hl⟩:=I.getlv h1;obtain⟨w',a,b⟩:=I.slot i d l h1 hl;rw[h2]at a;cases a;refine b.rep (λx r=>⟨r.1,λk=>?_⟩) (λx hx=>⟨I.rr x (I.bd i x hx).1,λk=>?_⟩)
 .by_cases e:k=i
  .subst e;rw[zh];simp
  .rw[zf e];exact r.2 k
 .by_cases e:k=i
  .subst e;rw[zh];simp
  .rw[zf e];intro ha;exact e (I.dj k i x ha hx)
theorem y8:∀(vs:List Nat) (lv:List Lv) (k:Nat),(bb vs lv)[k]?=if k∈vs/\k<lv.length then some .no else lv[k]?
 |[],lv,k=>by simp[bb]
 |i::vs,lv,k=>by
  unfold bb;rw[y8 vs (lv.set i .no) k];rw[Wo,Qx];by_cases a:k∈vs/\k<lv.length
  .rw[LF a,LF ⟨Qk _ a.1,a.2⟩]
  .rw[LG a];by_cases e:i=k
   .subst e;by_cases b:i<lv.length
    .simp[b]
    .simp[b]
   .rw[LG e];by_cases c:k∈vs
    .have:¬k<lv.length:=λz=>a ⟨c,z⟩;rw[LG (λz=>this z.2)]
    .rw[LG (λz=>by rcases Qt.mp z.1 with z1|z1;exact e z1.symm;exact c z1)]
theorem Inv.downs:∀(vs:List Nat) {lv:List Lv}{A:Nat->List Nat},Inv lo RR m de lv env A ->
  ∃A',Inv lo RR m de (bb vs lv) env A'/\bg A m A' m/\(∀i∈vs,A' i=[])/\(∀i,A' i=A i\/A' i=[])/\∀i,i∉vs->A' i=A i
 |[],lv,A,I=>⟨A,I,bg.refl A m,by simp,λi=>.inl rfl,λ_ _=>rfl⟩
 |j::vs,lv,A,I=>by
  obtain⟨I1,K1⟩:=I.down j;obtain⟨A',I2,K2,h1,h2,h3⟩:=Inv.downs vs I1;refine⟨A',I2,K1.trans K2,λi hi=>?_,λi=>?_,λi hi=>?_⟩
  .by_cases q:i∈vs
   .exact h1 i q
   .rw[h3 i q];rcases Qt.mp hi with rfl|hi
    .exact zh
    .exact LH hi q
  .rcases h2 i with z|z
   .rw[z];by_cases e:i=j
    .subst e;right;exact zh
    .left;exact zf e
   .exact .inr z
  .have:i≠j:=λe=>hi (by rw[e];simp);rw[h3 i (λz=>hi (Qk _ z)),zf this]
theorem Inv.top (I:Inv lo RR m de lv env A)(j:Nat)(hd:de[j]?=some (some (.lst ds)))(hj:zW lv j=true):
  ∃l xs A',Inv lo RR m de (lv.set j .top) env A'/\bg A m A' m/\A' j=[l]/\(∀i,i≠j->A' i=A i)/\env[j]?=some (some (.ref l))/\m[l]?=some (.lst xs)/\ae (yU RR A') m ds xs/\l∈A j:=by
 unfold zW at hj;obtain⟨lj,hl⟩:=I.getlv hd;obtain⟨w,a,b⟩:=I.slot j _ lj hd hl;rw[hl]at hj;have key:∃l xs,w=.ref l/\l∈A j/\m[l]?=some (.lst xs)/\ae (yU RR (aK A j [l])) m ds xs:=by
  cases lj with
  |no=>simp at hj
  |top=>
   obtain⟨es,l,xs,e,rfl,hA,hm,r⟩:=b;cases e;refine⟨l,xs,rfl,by rw[hA];simp,hm,ae.frame (λx o r z=>⟨⟨r.1,λk=>?_⟩,z⟩) _ _ r⟩;by_cases e:k=j
   .subst e;rw[zh,<-hA];exact r.2 k
   .rw[zf e];exact r.2 k
  |full=>
   obtain⟨l,xs,B,rfl,hA,hm,r⟩:=aX.mp b;refine⟨l,xs,rfl,by rw[hA];simp,hm,av.rep ds xs B (λx hx=>⟨I.rr x (I.bd j x (by rw[hA];exact Qk _ hx)).1,λk=>?_⟩) r⟩;have nd:=I.nd j;rw[hA]at nd;by_cases e:k=j
   .subst e;rw[zh];intro z;rw[QJ.mp z]at hx;exact(QO.mp nd).1 hx
   .rw[zf e];intro z;exact e (I.dj k j x z (by rw[hA];exact Qk _ hx))
 obtain⟨l,xs,rfl,hA,hm,r⟩:=key;obtain⟨I',K⟩:=I.weak j (l:=.top) (B:=[l]) (by intro b hb;rw[QJ.mp hb];exact hA) (by simp) λd w h1 h2=>by
  rw[hd]at h1;cases h1;rw[a]at h2;cases h2;exact⟨ds,l,xs,rfl,rfl,rfl,hm,r⟩
 exact⟨l,xs,_,I',K,zh,λi hi=>zf hi,a,hm,r,hA⟩
def zL {m:Me}(h:l≠x):(m.set l o)[x]?=m[x]?:=Qe h
def yX {m:Me}(h:m[l]?=some p):(m.set l o)[l]?=some o:=by
 rw[Qx,LF rfl,LF (Qa.mp h).1]
def Inv.putO{lo:Nat}{RR:Nat->Prop}{m m1:Me}{de:aN}{lv:List Lv}{env:En}{A:Nat->List Nat}(I:Inv lo RR m de lv env A)(le:Le m m1){j l:Nat}{ob:Ob}(hl:l∈A j)(A1:Nat->List Nat)
  (h3:∀k a,a∈A1 k->(∃k',a∈A k')\/m.length<=a) (nd1:∀k,(A1 k).Nodup) (dj1:∀i k a,a∈A1 i->a∈A1 k->i=k) (bd1:∀k a,a∈A1 k->lo<=a/\a<m1.length)
  {de1:aN}{lv1:List Lv}(len1:de1.length=de.length) (lvl1:lv1.length=lv.length)
  (live:∀k d lk,k≠j->de1[k]?=some (some d)->lv1[k]?=some lk->de[k]?=some (some d)/\lv[k]?=some lk/\A1 k=A k)
  (sj:∀d lj,de1[j]?=some (some d)->lv1[j]?=some lj->∃w,env[j]?=some (some w)/\bD (yU RR A1) (m1.set l ob) lj d w (A1 j)) :
  Inv lo RR (m1.set l ob) de1 lv1 env A1/\bg A m A1 (m1.set l ob):=by
 have fr:∀(x:Nat) (o:Ob),(∀k,x∉A k)->m[x]?=some o->(∀k,x∉A1 k)/\(m1.set l ob)[x]?=some o:=by
  intro x o hx hm;refine⟨λk ha=>?_,?_⟩
  .rcases h3 k x ha with⟨k',z⟩|z
   .exact hx k' z
   .have:=(Qa.mp hm).1;lia
  .rw[zL (l:=l) (x:=x) (λe=>hx j (by rw[<-e];exact hl))];exact le x o hm
 refine⟨⟨len1.trans I.len,by rw[lvl1,I.lvl,len1],I.rr,by rw[Wo];exact Qo I.lom le.len,?_,nd1,dj1,λk a ha=>by rw[Wo];exact bd1 k a ha⟩,⟨λx o hx hm=>fr x o hx hm,by rw[Wo];exact le.len⟩⟩;intro k d lk h1 h2;by_cases e:k=j
 .subst e;exact sj d lk h1 h2
 .obtain ⟨a,b,c⟩:=live k d lk e h1 h2;obtain⟨w,p,q⟩:=I.slot k d lk a b;refine⟨w,p,?_⟩;rw[c];refine q.frame (λx o r hm=>⟨⟨r.1,(fr x o r.2 hm).1⟩,(fr x o r.2 hm).2⟩) (λx hx o hm=>?_);rw[zL (l:=l) (x:=x) (λz=>e (I.dj k j x hx (by rw[<-z];exact hl)))];exact le x o hm
def Inv.put{lo:Nat}{RR:Nat->Prop}{m m1:Me}{de:aN}{lv:List Lv}{env:En}{A:Nat->List Nat}(I:Inv lo RR m de lv env A)(le:Le m m1){j l:Nat}{xs ys:List Wd}(hl:l∈A j)(A1:Nat->List Nat)
  (h3:∀k a,a∈A1 k->(∃k',a∈A k')\/m.length<=a) (nd1:∀k,(A1 k).Nodup) (dj1:∀i k a,a∈A1 i->a∈A1 k->i=k) (bd1:∀k a,a∈A1 k->lo<=a/\a<m1.length)
  {de1:aN}{lv1:List Lv}(len1:de1.length=de.length) (lvl1:lv1.length=lv.length)
  (live:∀k d lk,k≠j->de1[k]?=some (some d)->lv1[k]?=some lk->de[k]?=some (some d)/\lv[k]?=some lk/\A1 k=A k)
  (sj:∀d lj,de1[j]?=some (some d)->lv1[j]?=some lj->∃w,env[j]?=some (some w)/\bD (yU RR A1) (m1.set l (.lst ys)) lj d w (A1 j)) :
  Inv lo RR (m1.set l (.lst ys)) de1 lv1 env A1/\bg A m A1 (m1.set l (.lst ys)):=I.putO le hl A1 h3 nd1 dj1 bd1 len1 lvl1 live sj
noncomputable def pO(m m1:Me)(ds:List Dat)(xs:List Wd)(ds':List Dat)(ys:List Wd):Prop:=
 ∀B,B.Nodup->av m ds xs B->∃B',av m1 ds' ys B'/\B'.Nodup/\∀b∈B',b∈B\/m.length<=b
noncomputable def pp(RR:Nat->Prop)(A:Nat->List Nat)(m m1:Me)(ds:List Dat)(xs:List Wd)(ds':List Dat)(ys:List Wd):Prop:=
 ae (yU RR A) m ds xs->ae (λx=>yU RR A x\/m.length<=x) m1 ds' ys
noncomputable def dU(RR:Nat->Prop)(A:Nat->List Nat)(m m1:Me)(ds:List Dat)(xs:List Wd)(ds':List Dat)(ys:List Wd):Prop:=
 (∀B,B.Nodup->av m ds xs B->∃B',av m1 ds' ys B'/\B'.Nodup/\∀b∈B',b∈B\/m.length<=b)/\(ae (yU RR A) m ds xs->ae (λx=>yU RR A x\/m.length<=x) m1 ds' ys)
def Inv.mut (I:Inv lo RR m de lv env A)(hd:de[j]?=some (some (.lst ds)))(hj:zW lv j=true):
  ∃l xs,env[j]?=some (some (.ref l))/\m[l]?=some (.lst xs)/\ae RR m ds xs/\∀(m1:Me) (ds':List Dat) (ys:List Wd),Le m m1->(lv[j]?=some .full->pO m m1 ds xs ds' ys)->(lv[j]?=some .top->pp RR A m m1 ds xs ds' ys) ->
   ∃A1,Inv lo RR (m1.set l (.lst ys)) (de.set j (some (.lst ds'))) lv env A1/\bg A m A1 (m1.set l (.lst ys)):=by
 unfold zW at hj;obtain⟨lj,hl⟩:=I.getlv hd;obtain⟨w,a,b⟩:=I.slot j _ lj hd hl;rw[hl]at hj;have hjl:j<de.length:=(Qa.mp hd).1;have live:∀(A1:Nat->List Nat),(∀k,k≠j->A1 k=A k)->∀(ds':List Dat) k d lk,k≠j->(de.set j (some (.lst ds')))[k]?=some (some d)->lv[k]?=some lk->de[k]?=some (some d)/\lv[k]?=some lk/\A1 k=A k:=by
  intro A1 h ds' k d lk e h1 h2;rw[Qe (Ne.symm e)]at h1;exact⟨h1,h2,h k e⟩
 cases lj with
 |no=>simp at hj
 |top=>
  obtain⟨es,l,xs,e,rfl,hA,hm,r⟩:=b;cases e;refine⟨l,xs,a,hm,ae.frame (λ_ _ r z=>⟨r.1,z⟩) _ _ r,λm1 ds' ys le _ c=>⟨A,?_⟩⟩;have hlm:=(Qa.mp hm).1;refine I.put le (j:=j) (l:=l) (xs:=xs) (by rw[hA];simp) A (λk a ha=>.inl ⟨k,ha⟩) I.nd I.dj (λk a ha=>⟨(I.bd k a ha).1,Qf (I.bd k a ha).2 le.len⟩) (by simp) rfl (live A (λ_ _=>rfl) ds') ?_;intro d lj h1 h2;rw[Qx,LF rfl,LF hjl]at h1;cases h1;rw[hl]at h2;cases h2;refine⟨_,a,ds',l,ys,rfl,rfl,hA,yX (le l _ hm),ae.frame (λx o r z=>?_) _ _ (c hl r)⟩;rcases r with r|r
  .exact ⟨r,by rw[zL (l:=l) (x:=x) (λe=>r.2 j (by rw[hA,e];simp))];exact z⟩
  .exact ⟨⟨I.rr x (Qo I.lom r),λk hk=>by have:=(I.bd k x hk).2;lia⟩,by rw[zL (l:=l) (x:=x) (by lia)];exact z⟩
 |full=>
  obtain⟨l,xs,B,rfl,hA,hm,r⟩:=aX.mp b;have hlm:=(Qa.mp hm).1;have nd:=I.nd j;rw[hA]at nd;refine⟨l,xs,a,hm,av.rep ds xs B (λx hx=>I.rr x (I.bd j x (by rw[hA];exact Qk _ hx)).1) r,λm1 ds' ys le c _=>?_⟩;obtain⟨B',o,nb,hB⟩:=c hl B (QO.mp nd).2 r;have hlB:l∉B':=λz=>by
   rcases hB l z with z|z
   .exact (QO.mp nd).1 z
   .lia
  have sub:∀x∈l::B',x∈A j\/m.length<=x:=by
   intro x hx;rcases Qt.mp hx with rfl|hx
   .left;rw[hA];simp
   .rcases hB x hx with z|z
    .left;rw[hA];exact Qk _ z
    .exact .inr z
  refine⟨aK A j (l::B'),?_⟩;refine I.put le (j:=j) (l:=l) (xs:=xs) (by rw[hA];simp) _ ?_ ?_ ?_ ?_ (by simp) rfl (live _ (λk hk=>zf hk) ds') ?_
  .intro k x hx;by_cases e:k=j
   .subst e;rw[zh]at hx;rcases sub x hx with z|z
    .exact .inl ⟨k,z⟩
    .exact .inr z
   .rw[zf e]at hx;exact .inl ⟨k,hx⟩
  .intro k;by_cases e:k=j
   .subst e;rw[zh];exact QO.mpr ⟨hlB,nb⟩
   .rw[zf e];exact I.nd k
  .intro i k x h1 h2;by_cases e:i=j
   .by_cases f:k=j
    .rw[e,f]
    .rw[e,zh]at h1;rw[zf f]at h2;rcases sub x h1 with z|z
     .rw[e];exact I.dj j k x z h2
     .have:=(I.bd k x h2).2;lia
   .rw[zf e]at h1;by_cases f:k=j
    .rw[f,zh]at h2;rcases sub x h2 with z|z
     .rw[f];exact I.dj i j x h1 z
     .have:=(I.bd i x h1).2;lia
    .rw[zf f]at h2;exact I.dj i k x h1 h2
  .intro k x hx;by_cases e:k=j
   .rw[e,zh]at hx;rcases Qt.mp hx with rfl|hx
    .exact ⟨(I.bd j _ (by rw[hA];simp)).1,Qf hlm le.len⟩
    .refine ⟨?_,av.lt ds' ys B' o x hx⟩;rcases hB x hx with z|z
     .exact (I.bd j x (by rw[hA];exact Qk _ z)).1
     .exact Qo I.lom z
   .rw[zf e]at hx;exact⟨(I.bd k x hx).1,Qf (I.bd k x hx).2 le.len⟩
  .intro d lj h1 h2;rw[Qx,LF rfl,LF hjl]at h1;cases h1;rw[hl]at h2;cases h2;refine⟨_,a,?_⟩;rw[zh];exact aX.mpr ⟨l,ys,B',rfl,rfl,yX (le l _ hm),av.frame ds' ys B' (λx hx o z=>by rw[zL (l:=l) (x:=x) (λe=>hlB (by rw[e];exact hx))];exact z) o⟩
theorem av.item:∀{ds:List Dat}{xs:List Wd}{A:List Nat}{p:Nat}{d:Dat},av m ds xs A->ds[p]?=some d->∃x B,(xs[p]?=some x/\bh m d x B)/\∀b∈B,b∈A
 |[],xs,A,p,d,h,z=>by simp at z
 |e::ds,xs,A,0,d,h,z=>by
  obtain⟨x,r,B,C,rfl,rfl,a,b⟩:=h.cons_inv;simp at z;subst z;exact⟨x,B,⟨rfl,a⟩,λb hb=>QW _ hb⟩
 |e::ds,xs,A,p+1,d,h,z=>by
  obtain⟨x,r,B,C,rfl,rfl,a,b⟩:=h.cons_inv;obtain⟨y,D,h1,h2⟩:=av.item b (by simpa using z);exact⟨y,D,by simpa using h1,λb hb=>Qv _ (h2 b hb)⟩
theorem av.split:∀{ds:List Dat}{xs:List Wd}{A:List Nat}{p:Nat}{d:Dat},av m ds xs A->ds[p]?=some d ->
  ∃x B1 Bp B2,xs[p]?=some x/\A=B1++(Bp++B2)/\bh m d x Bp/\(∀(i:Nat) e y,i≠p->ds[i]?=some e->xs[i]?=some y->∃Bi,bh m e y Bi/\∀b∈Bi,b∈B1\/b∈B2)/\∀(m':Me) (d':Dat) (x':Wd) (B':List Nat),(∀l,l∈B1\/l∈B2->∀o,m[l]?=some o->m'[l]?=some o)->bh m' d' x' B'->av m' (ds.set p d') (xs.set p x') (B1++(B'++B2))
 |[],xs,A,p,d,h,z=>by simp at z
 |e::ds,xs,A,0,d,h,z=>by
  obtain⟨x,r,B,C,rfl,rfl,a,b⟩:=h.cons_inv;simp at z;subst z;refine⟨x,[],B,C,rfl,rfl,a,λi e y hi h1 h2=>?_,λm' d' x' B' fr o=>?_⟩
  .cases i with
   |zero=>exact LH rfl hi
   |succ i=>
    simp at h1 h2;obtain⟨y',Bi,o,hB⟩:=av.item b h1;rw[h2]at o;obtain⟨o1,o2⟩:=o;cases o1;exact⟨Bi,o2,λz hz=>.inr (hB z hz)⟩
  show av m' (d'::ds) (x'::r) (B'++C);exact av.cons o (av.frame ds r C (λl hl=>fr l (.inr hl)) b)
 |e::ds,xs,A,p+1,d,h,z=>by
  obtain⟨x,r,B,C,rfl,rfl,a,b⟩:=h.cons_inv;obtain⟨y,B1,Bp,B2,h1,rfl,h3,h5,h4⟩:=av.split b (by simpa using z);refine⟨y,B++B1,Bp,B2,by simpa using h1,by simp[WR],h3,λi e' y' hi g1 g2=>?_,λm' d' x' B' fr o=>?_⟩
  .cases i with
   |zero=>simp at g1 g2;subst g1;subst g2;exact⟨B,a,λz hz=>.inl (QW _ hz)⟩
   |succ i=>
    simp at g1 g2;obtain⟨Bi,o,hB⟩:=h5 i e' y' (by lia) g1 g2;exact⟨Bi,o,λz hz=>by rcases hB z hz with q|q;exact .inl (Qv _ q);exact .inr q⟩
  rw[WR];exact av.cons (bh.frame e x B (λl hl=>fr l (.inl (QW _ hl))) a) (h4 m' d' x' B' (λl hl=>fr l (by rcases hl with hl|hl;exact .inl (Qv _ hl);exact .inr hl)) o)
def qy (le:Le m m1)(o:bh m1 d w B0)(nd:B0.Nodup)(hB:∀b∈B0,m.length<=b):dU RR A m m1 ds xs (ds++[d]) (xs++[w]):=by
 refine⟨λB nb q=>⟨B++(B0++[]),(av.frame ds xs B (λl _ o z=>le l o z) q).app (.cons o .nil),?_,?_⟩,λq=>?_⟩
 .rw[QU];refine Qr.mpr ⟨nb,nd,λx hx y hy e=>?_⟩;have:=av.lt ds xs B q x hx;have:=hB y hy;lia
 .intro b hb;rw[QU]at hb;rcases Qy.mp hb with z|z
  .exact .inl z
  .exact .inr (hB b z)
 .exact (ae.frame (λl o r z=>⟨.inl r,le l o z⟩) _ _ q).app (.cons (bh.rep d w B0 (λb hb=>.inr (hB b hb)) o) .nil)
def tK (p:Nat)(le:Le m m1)(o:bh m1 d w B0)(nd:B0.Nodup)(hB:∀b∈B0,m.length<=b):dU RR A m m1 ds xs (ds.set p d) (xs.set p w):=by
 refine⟨λB nb q=>?_,λq=>?_⟩
 .cases hp:ds[p]? with
  |none=>
   have h1:ds.length<=p:=Wv.mp hp;rw[Wx h1,Wx (by rw[<-q.len];exact h1)];exact⟨B,av.frame ds xs B (λl _ o z=>le l o z) q,nb,λb hb=>.inl hb⟩
  |some e=>
   obtain⟨y,B1,Bp,B2,h1,rfl,h3,_,h4⟩:=av.split q hp;refine⟨B1++(B0++B2),h4 m1 d w B0 (λl _ o z=>le l o z) o,?_,?_⟩
   .have hlt:=av.lt ds xs _ q;rw[Qr]at nb ⊢;obtain⟨n1,n2,n3⟩:=nb;rw[Qr]at n2 ⊢;obtain⟨n4,n5,n6⟩:=n2;refine⟨n1,⟨nd,n5,λx hx y hy e=>?_⟩,λx hx y hy e=>?_⟩
    .have:=hB x hx;have:=hlt y (by simp[hy]);lia
    .rcases Qy.mp hy with hy|hy
     .have:=hB y hy;have:=hlt x (by simp[hx]);lia
     .exact n3 x hx y (Qv _ hy) e
   .intro b hb;simp only[Qy]at hb ⊢;rcases hb with z|z|z
    .exact .inl (.inl z)
    .exact .inr (hB b z)
    .exact .inl (.inr (.inr z))
 .exact (ae.frame (λl o r z=>⟨.inl r,le l o z⟩) _ _ q).set p (bh.rep d w B0 (λb hb=>.inr (hB b hb)) o)
theorem av.rev:∀{ds:List Dat}{xs:List Wd}{A:List Nat},A.Nodup->av m ds xs A->∃B,av m ds.reverse xs.reverse B/\B.Nodup/\∀b∈B,b∈A
 |[],xs,A,nd,h=>by rw[h.nil_inv.1];exact⟨[],.nil,QD,by simp⟩
 |d::ds,xs,A,nd,h=>by
  obtain⟨x,r,B,C,rfl,rfl,a,b⟩:=h.cons_inv;obtain⟨n1,n2,n3⟩:=Qr.mp nd;obtain⟨D,o,nD,hD⟩:=av.rev n2 b;rw[Wc,Wc];refine⟨D++(B++[]),o.app (.cons a .nil),?_,?_⟩
  .rw[QU];exact Qr.mpr ⟨nD,n1,λx hx y hy e=>n3 y hy x (hD x hx) e.symm⟩
  .intro b hb;simp only[QU,Qy]at hb ⊢;rcases hb with z|z
   .exact .inr (hD b z)
   .exact .inl z
def dr:dU RR A m m ds xs ds.reverse xs.reverse:=by
 refine⟨λB nb q=>?_,λq=>(ae.frame (λl o r z=>⟨.inl r,z⟩) _ _ q).rev⟩;obtain⟨D,o,nD,hD⟩:=av.rev nb q;exact⟨D,o,nD,λb hb=>.inl (hD b hb)⟩
def FK (le:Le m m1)(o:bh m1 d w B0)(nd:B0.Nodup)(hB:∀b∈B0,m.length<=b):dU RR A m m1 ds xs (d::ds) (w::xs):=by
 refine⟨λB nb q=>⟨B0++B,.cons o (av.frame ds xs B (λl _ o z=>le l o z) q),?_,?_⟩,λq=>?_⟩
 .refine Qr.mpr ⟨nd,nb,λx hx y hy e=>?_⟩;have:=av.lt ds xs B q y hy;have:=hB x hx;lia
 .intro b hb;rcases Qy.mp hb with z|z
  .exact .inr (hB b z)
  .exact .inl z
 .exact .cons (bh.rep d w B0 (λb hb=>.inr (hB b hb)) o) (ae.frame (λl o r z=>⟨.inl r,le l o z⟩) _ _ q)
theorem pz:∀{ds:List Dat}{xs:List Wd}{A:List Nat},A.Nodup->av m ds xs A->∃B,av m ds.dropLast xs.dropLast B/\B.Nodup/\∀b∈B,b∈A
 |[],xs,A,nd,h=>by rw[h.nil_inv.1];exact⟨[],.nil,QD,by simp⟩
 |[d],xs,A,nd,h=>by
  obtain⟨x,r,B,C,rfl,rfl,a,b⟩:=h.cons_inv;rw[b.nil_inv.1];exact⟨[],.nil,QD,by simp⟩
 |d::e::ds,xs,A,nd,h=>by
  obtain⟨x,r,B,C,rfl,rfl,a,b⟩:=h.cons_inv;obtain⟨n1,n2,n3⟩:=Qr.mp nd;obtain⟨D,o,nD,hD⟩:=pz n2 b;obtain⟨y,r',B',C',rfl,rfl,a',b'⟩:=b.cons_inv;refine⟨B++D,.cons a o,Qr.mpr ⟨n1,nD,λx hx y hy e=>n3 x hx y (hD y hy) e⟩,λb hb=>?_⟩;rcases Qy.mp hb with z|z
  .exact QW _ z
  .exact Qv _ (hD b z)
def uy:dU RR A m m ds xs ds.dropLast xs.dropLast:=by
 refine⟨λB nb q=>?_,λq=>?_⟩
 .obtain ⟨D,o,nD,hD⟩:=pz nb q;exact⟨D,o,nD,λb hb=>.inl (hD b hb)⟩
 .rw[WC,WC,<-q.len];exact(ae.frame (λl o r z=>⟨.inl r,z⟩) _ _ q).take _
def ux:dU RR A m m (d::ds) (w::xs) ds xs:=by
 refine⟨λB nb q=>?_,λq=>?_⟩
 .obtain ⟨x,r,B1,C,e,rfl,a,b⟩:=q.cons_inv;cases e;exact⟨C,b,(Qr.mp nb).2.1,λb hb=>.inl (Qv _ hb)⟩
 .obtain ⟨x,r,e,a,b⟩:=q.cons_inv;cases e;exact ae.frame (λl o r z=>⟨.inl r,z⟩) _ _ b
def Inv.mutIn (I:Inv lo RR m de lv env A)(hd:de[j]?=some (some (.lst ds)))(hf:lv[j]?=some .full)(hp:ds[p]?=some (.lst es)):
  ∃l xs l2 us,env[j]?=some (some (.ref l))/\m[l]?=some (.lst xs)/\xs[p]?=some (.ref l2)/\m[l2]?=some (.lst us)/\ds.length=xs.length/\ae RR m es us /\
   (∀(m1:Me) (es':List Dat) (vs:List Wd),Le m m1->pO m m1 es us es' vs ->
    ∃A1,Inv lo RR (m1.set l2 (.lst vs)) (de.set j (some (.lst (ds.set p (.lst es'))))) lv env A1/\bg A m A1 (m1.set l2 (.lst vs))) /\
   (∀(m1:Me) (q:Nat) (d:Dat) (w:Wd),Le m m1->aj (λx=>yU RR A x\/m.length<=x) m1 d w ->
    ∃A1,Inv lo RR (m1.set l2 (.lst (us.set q w))) (de.set j (some (.lst (ds.set p (.lst (es.set q d)))))) (lv.set j .top) env A1/\bg A m A1 (m1.set l2 (.lst (us.set q w)))):=by
 obtain⟨w,a,b⟩:=I.slot j _ .full hd hf;obtain⟨l,xs,B,rfl,hA,hm,r⟩:=aX.mp b;obtain⟨x,B1,Bp,B2,h1,hB,h3,h5,h4⟩:=r.split hp;obtain⟨l2,us,Bq,rfl,rfl,hm2,r2⟩:=aX.mp h3;have hjl:j<de.length:=(Qa.mp hd).1;have nd:=I.nd j;rw[hA,hB]at nd;have hlm:=(Qa.mp hm).1;have hlm2:=(Qa.mp hm2).1;obtain⟨n0,n1⟩:=QO.mp nd;obtain⟨n2,n3,n4⟩:=Qr.mp n1;obtain⟨n5,n6,n7⟩:=Qr.mp n3;obtain⟨n8,n9⟩:=QO.mp n5;have inA:∀{x},x=l\/x∈B1\/x=l2\/x∈Bq\/x∈B2->x∈A j:=by
  intro x hx;rw[hA,hB];simp only[Qt,Qy];rcases hx with z|z|z|z|z
  .exact .inl z
  .exact .inr (.inl z)
  .exact .inr (.inr (.inl (.inl z)))
  .exact .inr (.inr (.inl (.inr z)))
  .exact .inr (.inr (.inr z))
 have l2B1:l2∉B1:=λz=>n4 l2 z l2 (by simp) rfl;have l2B2:l2∉B2:=λz=>n7 l2 (by simp) l2 z rfl;have hll:l≠l2:=λe=>n0 (by rw[e];simp);have live:∀(A1:Nat->List Nat) (lv1:List Lv),(∀k,k≠j->A1 k=A k)->(∀k,k≠j->lv1[k]?=lv[k]?)->∀(ds':List Dat) k d lk,k≠j->(de.set j (some (.lst ds')))[k]?=some (some d)->lv1[k]?=some lk->de[k]?=some (some d)/\lv[k]?=some lk/\A1 k=A k:=by
  intro A1 lv1 h hlv ds' k d lk e h1 h2;rw[Qe (Ne.symm e)]at h1;rw[hlv k e]at h2;exact⟨h1,h2,h k e⟩
 refine⟨l,xs,l2,us,a,hm,h1,hm2,r.len,av.rep es us Bq (λx hx=>I.rr x (I.bd j x (inA (.inr (.inr (.inr (.inl hx)))))).1) r2,?_,?_⟩
 .intro m1 es' vs le c;obtain⟨Bq',o,nb,hBq⟩:=c Bq n9 r2;have hlt:=av.lt es' vs Bq' o;have l2q:l2∉Bq':=λz=>by
   rcases hBq l2 z with z|z
   .exact n8 z
   .lia
  have sub:∀x∈l::(B1++((l2::Bq')++B2)),x∈A j\/m.length<=x:=by
   intro x hx;simp only[Qt,Qy]at hx;rcases hx with z|z|(z|z)|z
   .exact .inl (inA (.inl z))
   .exact .inl (inA (.inr (.inl z)))
   .exact .inl (inA (.inr (.inr (.inl z))))
   .rcases hBq x z with z|z
    .exact .inl (inA (.inr (.inr (.inr (.inl z)))))
    .exact .inr z
   .exact .inl (inA (.inr (.inr (.inr (.inr z)))))
  have nd1:(l::(B1++((l2::Bq')++B2))).Nodup:=by
   refine QO.mpr ⟨?_,Qr.mpr ⟨n2,Qr.mpr ⟨QO.mpr ⟨l2q,nb⟩,n6,?_⟩,?_⟩⟩
   .intro z;simp only[Qt,Qy]at z n0;rcases z with z|(z|z)|z
    .exact n0 (.inl z)
    .exact hll z
    .rcases hBq l z with z|z
     .exact n0 (.inr (.inl (.inr z)))
     .lia
    .exact n0 (.inr (.inr z))
   .intro x hx y hy e;subst e;rcases Qt.mp hx with z|z
    .subst z;exact l2B2 hy
    .rcases hBq x z with z|z
     .exact n7 x (Qk _ z) x hy rfl
     .have:=(I.bd j x (inA (.inr (.inr (.inr (.inr hy)))))).2;lia
   .intro x hx y hy e;subst e;simp only[Qt,Qy]at hy;rcases hy with (z|z)|z
    .subst z;exact l2B1 hx
    .rcases hBq x z with z|z
     .exact n4 x hx x (by simp[z]) rfl
     .have:=(I.bd j x (inA (.inr (.inl hx)))).2;lia
    .exact n4 x hx x (by simp[z]) rfl
  refine⟨aK A j (l::(B1++((l2::Bq')++B2))),?_⟩;refine I.put le (j:=j) (l:=l2) (xs:=us) (inA (.inr (.inr (.inl rfl)))) _ ?_ ?_ ?_ ?_ (by simp) rfl (live _ lv (λk hk=>zf hk) (λ_ _=>rfl) _) ?_
  .intro k x hx;by_cases e:k=j
   .rw[e,zh]at hx;rcases sub x hx with z|z
    .exact .inl ⟨j,z⟩
    .exact .inr z
   .rw[zf e]at hx;exact .inl ⟨k,hx⟩
  .intro k;by_cases e:k=j
   .rw[e,zh];exact nd1
   .rw[zf e];exact I.nd k
  .intro i k x h1 h2;by_cases e:i=j
   .by_cases f:k=j
    .rw[e,f]
    .rw[e,zh]at h1;rw[zf f]at h2;rcases sub x h1 with z|z
     .rw[e];exact I.dj j k x z h2
     .have:=(I.bd k x h2).2;lia
   .rw[zf e]at h1;by_cases f:k=j
    .rw[f,zh]at h2;rcases sub x h2 with z|z
     .rw[f];exact I.dj i j x h1 z
     .have:=(I.bd i x h1).2;lia
    .rw[zf f]at h2;exact I.dj i k x h1 h2
  .intro k x hx;have ll:=le.len;by_cases e:k=j
   .rw[e,zh]at hx;rcases sub x hx with z|z
    .exact ⟨(I.bd j x z).1,Qf (I.bd j x z).2 ll⟩
    .refine ⟨Qo I.lom z,?_⟩;simp only[Qt,Qy]at hx;rcases hx with q|q|(q|q)|q
     .lia
     .have:=(I.bd j x (inA (.inr (.inl q)))).2;lia
     .lia
     .exact hlt x q
     .have:=(I.bd j x (inA (.inr (.inr (.inr (.inr q)))))).2;lia
   .rw[zf e]at hx;exact⟨(I.bd k x hx).1,Qf (I.bd k x hx).2 ll⟩
  .intro d lj g1 g2;rw[Qx,LF rfl,LF hjl]at g1;cases g1;rw[hf]at g2;cases g2;refine⟨_,a,?_⟩;rw[zh];refine aX.mpr ⟨l,xs,B1++((l2::Bq')++B2),rfl,rfl,?_,?_⟩
   .rw[zL (l:=l2) (x:=l) (Ne.symm hll)];exact le l _ hm
   .have:=h4 (m1.set l2 (.lst vs)) (.lst es') (.ref l2) (l2::Bq') ?_ (aX.mpr ⟨l2,vs,Bq',rfl,rfl,yX (le l2 _ hm2),av.frame es' vs Bq' (λx hx o z=>by rw[zL (l:=l2) (x:=x) (λe=>l2q (by rw[e];exact hx))];exact z) o⟩)
    .rw[show xs.set p (.ref l2)=xs from by
      obtain⟨hpx,e⟩:=Qa.mp h1;rw[<-e];exact List.set_getElem_self hpx]at this
     exact this
    .intro x hx o z;rw[zL (l:=l2) (x:=x) (λe=>by rcases hx with hx|hx;exact l2B1 (by rw[e];exact hx);exact l2B2 (by rw[e];exact hx))];exact le x o z
 .intro m1 q d w le rw0;have ll:=le.len;have sub:∀k x,x∈aK A j [l] k->x∈A k:=by
   intro k x hx;by_cases e:k=j
   .rw[e,zh]at hx;rw[e,QJ.mp hx];exact inA (.inl rfl)
   .rw[zf e]at hx;exact hx
  refine⟨aK A j [l],?_⟩;refine I.put le (j:=j) (l:=l2) (xs:=us) (inA (.inr (.inr (.inl rfl)))) _ (λk x hx=>.inl ⟨k,sub k x hx⟩) ?_ (λi k x g1 g2=>I.dj i k x (sub i x g1) (sub k x g2)) (λk x hx=>⟨(I.bd k x (sub k x hx)).1,Qf (I.bd k x (sub k x hx)).2 ll⟩) (by simp) (by simp) (live _ (lv.set j .top) (λk hk=>zf hk) (λk hk=>Qe (Ne.symm hk)) _) ?_
  .intro k;by_cases e:k=j
   .rw[e,zh];simp
   .rw[zf e];exact I.nd k
  .intro d' lj g1 g2;rw[Qx,LF rfl,LF hjl]at g1;cases g1;rw[Qx,LF rfl,LF (by rw[I.lvl];exact hjl)]at g2;cases g2;refine⟨_,a,ds.set p (.lst (es.set q d)),l,xs,rfl,rfl,zh,?_,?_⟩
   .rw[zL (l:=l2) (x:=l) (Ne.symm hll)];exact le l _ hm
   have fr:∀x,x∈B1\/x∈B2\/x∈Bq\/x=l2->yU RR (aK A j [l]) x:=by
    intro x hx;have hxA:x∈A j:=inA (by rcases hx with z|z|z|z;exact .inr (.inl z);exact .inr (.inr (.inr (.inr z)));exact .inr (.inr (.inr (.inl z)));exact .inr (.inr (.inl z)));refine⟨I.rr x (I.bd j x hxA).1,λk hk=>?_⟩;by_cases e:k=j
    .rw[e,zh]at hk;have e2:=QJ.mp hk;subst e2;rcases hx with z|z|z|z
     .exact n0 (by simp[z])
     .exact n0 (by simp[z])
     .exact n0 (by simp[z])
     .exact hll z
    .rw[zf e]at hk;exact e (I.dj k j x hk hxA)
   refine bi.mpr ⟨by simp[r.len],λi e y g1 g2=>?_⟩;by_cases ei:i=p
   .rw[ei]at g1 g2;rw[h1]at g2;cases g2;rw[Qx,LF rfl,LF (Qa.mp hp).1]at g1;cases g1;refine ao.mpr ⟨l2,us.set q w,rfl,fr l2 (.inr (.inr (.inr rfl))),yX (le l2 _ hm2),?_⟩;refine ae.set (ae.frame (R:=λx=>x∈Bq) (m:=m) (λx o hx z=>⟨fr x (.inr (.inr (.inl hx))),?_⟩) _ _ (av.rep es us Bq (λ_ h=>h) r2)) q ?_
    .rw[zL (l:=l2) (x:=x) (λe=>n8 (by rw[e];exact hx))];exact le x o z
    .refine aj.frame (λx o hx z=>?_) _ _ rw0;have ne:l2≠x:=by
      rcases hx with hx|hx
      .intro e;exact hx.2 j (by rw[<-e];exact inA (.inr (.inr (.inl rfl))))
      .lia
     refine⟨?_,by rw[zL (l:=l2) (x:=x) ne];exact z⟩;rcases hx with hx|hx
     .exact ⟨hx.1,λk hk=>hx.2 k (sub k x hk)⟩
     .exact ⟨I.rr x (Qo I.lom hx),λk hk=>by have:=(I.bd k x (sub k x hk)).2;lia⟩
   .rw[Qe (Ne.symm ei)]at g1;obtain⟨Bi,o,hBi⟩:=h5 i e y ei g1 g2;refine aj.frame (R:=λx=>x∈Bi) (m:=m) (λx o hx z=>?_) _ _ (bh.rep e y Bi (λ_ h=>h) o);rcases hBi x hx with z1|z1
    .exact ⟨fr x (.inl z1),by rw[zL (l:=l2) (x:=x) (λe=>l2B1 (by rw[e];exact z1))];exact le x _ z⟩
    .exact ⟨fr x (.inr (.inl z1)),by rw[zL (l:=l2) (x:=x) (λe=>l2B2 (by rw[e];exact z1))];exact le x _ z⟩
def FJ (h:ae R m ds xs)(hm:m[l]?=some (.lst xs))(b:aj R m e y):ag R m (vq (.ref l) y m) (yl (.lst ds) e):=by
 cases e with
 |int i=>
  rw[aa.mp b];simp only[yl,vq,wc,yr,zN,hm];cases z:(ix ds.length i).bind λj=>ds[j]? with
  |none=>exact ag.no
  |some v=>
   obtain⟨j,h1,h2⟩:=QF.mp z;obtain⟨x,h3,p⟩:=h.get h2;rw[h.len]at h1;simp only[h1,Q9,h3];exact dn p
 |_=>exact ag.no
def qz (I:Inv lo RR m de lv env A)(h:∀i∈vs,∀l,lv[i]?=some l->l=.no):bK (yU RR A) m vs de env:=
 ⟨I.len,λi hi d hd=>by
  obtain⟨l,hl⟩:=I.getlv hd;obtain⟨w,a,b⟩:=I.slot i d l hd hl;rw[h i hi l hl]at b;exact⟨w,a,b.1⟩⟩
theorem kP:∀(vs:List Nat) (lv:List Lv),(bb vs lv).length=lv.length
 |[],lv=>rfl
 |i::vs,lv=>by unfold bb;rw[kP vs];simp
def tJ (de:aN)(j:Nat)(lv:List Lv)(h:k≠j):(b5 de j lv)[k]?=lv[k]?:=by
 have q:∃l,b5 de j lv=lv.set j l:=by
  unfold b5;generalize de[j]?=p;generalize lv[j]?=q;cases p with
  |none=>exact⟨_,rfl⟩
  |some o=>
   cases o with
   |none=>exact⟨_,rfl⟩
   |some d=>
    cases d with
    |lst ds=>
     cases q with
     |none=>exact⟨_,rfl⟩
     |some l=>cases l<;>exact⟨_,rfl⟩
    |_=>exact⟨_,rfl⟩
 obtain⟨l,e⟩:=q;rw[e];exact Qe (Ne.symm h)
set_option tactic.hygienic true in
def tI (e:Ex)(de:aN)(lv:List Lv)(h:k∉zt e):(wG e de lv)[k]?=lv[k]?:=by
 have gen:∀vs,k∉vs->(bb vs lv)[k]?=lv[k]?:=λvs h=>by rw[y8,LG (λz=>h z.1)]
 cases e with
 |idx o b=>
  cases o with
  |var j=>
   replace h:k∉j::zt b:=h
   rw[Qt,not_or]at h;show(b5 de j (bb (zt b) lv))[k]?=_;rw[tJ _ _ _ h.1,gen _ h.2]
  |_=>exact gen _ h
 |_=>exact gen _ h
set_option tactic.hygienic true in
def Inv.topD (I:Inv lo RR m de lv env A)(j:Nat):
  ∃A',Inv lo RR m de (b5 de j lv) env A'/\bg A m A' m/\(∀i,i≠j->A' i=A i)/\((∃ds l xs,de[j]?=some (some (.lst ds))/\A' j=[l]/\env[j]?=some (some (.ref l))/\m[l]?=some (.lst xs)/\ae (yU RR A') m ds xs)\/((Vl.b5 de j lv)[j]?=some .no\/lv.length<=j)):=by
 by_cases h:(∃ds,de[j]?=some (some (.lst ds)))/\zW lv j=true
 .obtain ⟨⟨ds,hd⟩,ho⟩:=h;obtain⟨l,xs,A',I',K,h1,h2,h3,h4,h5,_⟩:=I.top j hd ho;have:Vl.b5 de j lv=lv.set j .top:=by
   unfold Vl.b5;rw[hd];unfold zW at ho;cases z:lv[j]? with
   |none=>rw[z]at ho;simp at ho
   |some l=>rw[z]at ho;cases l<;>simp at ho ⊢
  rw[this];exact⟨A',I',K,h2,.inl ⟨ds,l,xs,hd,h1,h3,h4,h5⟩⟩
 .obtain ⟨I',K⟩:=I.down j;have:Vl.b5 de j lv=lv.set j .no:=by
   unfold Vl.b5;split
   .next ds hd hl=>exact LH ⟨⟨ds,hd⟩,by unfold zW;rw[hl]⟩ h
   .next ds hd hl=>exact LH ⟨⟨ds,hd⟩,by unfold zW;rw[hl]⟩ h
   .rfl
  rw[this];refine⟨_,I',K,λi hi=>zf hi,.inr ?_⟩;by_cases z:j<lv.length
  .left;rw[Qx,LF rfl,LF z]
  .right;lia
set_option tactic.hygienic true in
def Inv.relEv (H:bt lev cl cd)(I:Inv lo RR m de lv env A)(e:Ex):
  ∃A',Inv lo RR m de (wG e de lv) env A'/\bg A m A' m/\(∀k,k∉zt e->A' k=A k)/\aL (yU RR A') m (aZ lev e) (af cl e env m) (aq cd e de):=by
 have gen:wG e de lv=Vl.bb (zt e) lv->∃A',Inv lo RR m de (wG e de lv) env A'/\bg A m A' m/\(∀k,k∉zt e->A' k=A k)/\aL (yU RR A') m (aZ lev e) (af cl e env m) (aq cd e de):=by
  intro h;rw[h];obtain⟨A',I',K,h1,_,h3⟩:=Inv.downs (zt e) I;refine⟨A',I',K,h3,wD H e _ m de env (qz I' λi hi l hl=>?_)⟩;rw[y8]at hl;split at hl
  .cases hl;rfl
  .next z=>rw[QG (by have:¬i<lv.length:=λq=>z ⟨hi,q⟩;lia)]at hl;cases hl
 cases e with
 |idx a b=>
  cases a with
  |var j=>
   show ∃A',Inv lo RR m de (Vl.b5 de j (Vl.bb (zt b) lv)) env A'/\_;obtain⟨A1,I1,K1,h1,h2,h3⟩:=Inv.downs (zt b) I;obtain⟨A2,I2,K2,g1,g2⟩:=I1.topD j;have hne:∀k,k∉zt (.idx (.var j) b)->A2 k=A k:=by
    intro k hk
    replace hk:k∉j::zt b:=hk
    rw[Qt,not_or]at hk;rw[g1 k hk.1,h3 k hk.2]
   refine⟨A2,I2,K1.trans K2,hne,?_⟩;have lvno:∀i,i∈zt b->i≠j->∀l,(Vl.b5 de j (Vl.bb (zt b) lv))[i]?=some l->l=.no:=by
    intro i hi hij l hl;rw[tJ _ _ _ hij,y8]at hl;split at hl
    .cases hl;rfl
    .next z=>rw[QG (by have:¬i<lv.length:=λq=>z ⟨hi,q⟩;lia)]at hl;cases hl
   rcases g2 with⟨ds,l,xs,hd,hA,he,hm,hr⟩|g2
   .have hjb:j∉zt b:=λz=>by
     have h0:=h1 j z;have hx:l∈A1 j:=by
      have i1:=I1;by_cases q:l∈A1 j
      .exact q
      .exfalso;have:=(K2.1 l _ (λk hk=>?_) hm).1 j
       .rw[hA]at this;exact this (by simp)
       .by_cases ek:k=j
        .rw[ek]at hk;exact q hk
        .have e1:=g1 k ek;rw[<-e1]at hk;exact ek (I2.dj k j l hk (by rw[hA];simp))
     rw[h0]at hx;cases hx
    refine ag.own ?_ (λd=>rfl);show ag _ m ((af cl (.var j) env m).bind λx m1=>(af cl b env m1).bind λy m2=>vq x y m2) ((aq cd (.var j) de).bind λx=>(aq cd b de).bind λy=>yl x y);have e1:af cl (.var j) env m=.ok (.ref l) m:=vW he m;have e2:aq cd (.var j) de=.ok (.lst ds):=wU hd;rw[e1,e2];simp only[Rz.bind,Rd.bind];refine(zj H.r b _ m de env (qz I2 λi hi=>lvno i hi (λe=>hjb (by rw[<-e];exact hi)))).bind λd2 w2 m2 l2 k2=>?_;exact FJ (hr.up _ l2) (l2 l _ hm) k2
   .refine wD H _ _ m de env (qz I2 λi hi l hl=>?_)
    replace hi:i∈j::zt b:=hi
    rw[Qt]at hi;by_cases e:i=j
    .rw[e]at hl;rcases g2 with g2|g2
     .rw[g2]at hl;cases hl;rfl
     .have:(Vl.b5 de j (Vl.bb (zt b) lv)).length=(Vl.bb (zt b) lv).length:=by rw[I2.lvl,I1.lvl]
      rw[QG (by lia)]at hl;cases hl
    .rcases hi with z|z
     .exact LH z e
     .exact lvno i z e l hl
  |_=>exact gen rfl
 |_=>exact gen rfl
noncomputable def aD(lo:Nat)(RR:Nat->Prop)(A:Nat->List Nat)(m:Me)(r:Rs)(rd:bO):Prop:=match rd with
 |.next de lv=>∃env m' A',r=.next env m'/\Inv lo RR m' de lv env A'/\bg A m A' m'
 |.brk de lv=>∃env m' A',r=.brk env m'/\Inv lo RR m' de lv env A'/\bg A m A' m'
 |.cont de lv=>∃env m' A',r=.cont env m'/\Inv lo RR m' de lv env A'/\bg A m A' m'
 |.ret d l=>∃w m' B,r=.ret w m'/\((∀(x:Nat) o,(∀i,x∉A i)->m[x]?=some o->m'[x]?=some o)/\m.length<=m'.length)/\bD (λx=>RR x/\x∉B) m' l d w B/\B.Nodup/\∀b∈B,lo<=b
 |.exc c d=>∃w e m',r=.exc c w e m'/\((∀(x:Nat) o,(∀i,x∉A i)->m[x]?=some o->m'[x]?=some o)/\m.length<=m'.length)/\aj RR m' d w
 |.no=>True
set_option tactic.hygienic true in
def aD.keep{lo:Nat}{RR:Nat->Prop}{A A1:Nat->List Nat}{m m1:Me}{r:Rs}{rd:bO}(K:bg A m A1 m1)(h:aD lo RR A1 m1 r rd):aD lo RR A m r rd:=by
 cases rd with
 |next de lv=>obtain⟨e,m',A',h,I,k⟩:=h;exact⟨e,m',A',h,I,K.trans k⟩
 |brk de lv=>obtain⟨e,m',A',h,I,k⟩:=h;exact⟨e,m',A',h,I,K.trans k⟩
 |cont de lv=>obtain⟨e,m',A',h,I,k⟩:=h;exact⟨e,m',A',h,I,K.trans k⟩
 |ret d l=>obtain⟨w,m',B,h,k,z⟩:=h;exact⟨w,m',B,h,⟨λx o a b=>k.1 x o (K.1 x o a b).1 (K.1 x o a b).2,Qo K.2 k.2⟩,z⟩
 |exc c d=>obtain⟨w,e,m',h,k,z⟩:=h;exact⟨w,e,m',h,⟨λx o a b=>k.1 x o (K.1 x o a b).1 (K.1 x o a b).2,Qo K.2 k.2⟩,z⟩
 |no=>trivial
def Inv.rf (I:Inv lo RR m de lv env A)(h:aj (Rf RR m.length) m' d w):aj RR m' d w:=
 aj.frame (λx o r z=>⟨by rcases r with r|r;exact r;exact I.rr x (Qo I.lom r),z⟩) d w h
def Inv.bindE (H:aS cl cd)(I:Inv lo RR m de lv env A)(e:Ex)(k:∀d w m1,aq cd e de=.ok d->af cl e env m=.ok w m1->Le m m1->aj RR m1 d w->aD lo RR A m1 (f w m1) (g d)):aD lo RR A m ((af cl e env m).bindS env f) ((aq cd e de).bindS g):=by
 have h:=zj H e RR m de env (I.envR _);cases z:aq cd e de with
 |no=>trivial
 |exc c d=>
  rw[z]at h;obtain⟨w,m',h,l,r⟩:=h;rw[h];exact⟨w,env,m',rfl,⟨λx o _ b=>l x o b,l.len⟩,I.rf r⟩
 |ok d=>
  rw[z]at h;obtain⟨w,m',h,l,r⟩:=h;have:=k d w m' z h l (I.rf r);rw[h];exact aD.keep (v6 l) this
def Inv.own (H:bt lev cl cd)(I:Inv lo RR m de lv env A)(h1:aq cd e de=.ok d)(h2:af cl e env m=.ok w m1):
  ∃B,bD (λx=>RR x/\x∉B) m1 (aZ lev e d) d w B/\B.Nodup/\∀b∈B,m.length<=b:=by
 have h:=wD H e RR m de env (I.envR _);rw[h1]at h;obtain⟨w',m',B,h3,l,r,nd,hB⟩:=h;rw[h2]at h3;cases h3;exact⟨B,r.frame (λx o r z=>⟨⟨by rcases r.1 with r|r;exact r;exact I.rr x (Qo I.lom r),r.2⟩,z⟩) (λ_ _ _ z=>z),nd,hB⟩
section
variable{lev:Nat->Lv}{cl:Nat->List Wd->Me->Rz}{cd:Nat->List Dat->Rd}{lo:Nat}{RR:Nat->Prop}{m:Me}{de:aN}{lv:List Lv}{env:En}{A:Nat->List Nat}
set_option tactic.hygienic true in
def xh (h:xu de j=some ds):de[j]?=some (some (.lst ds)):=by
 unfold xu at h;split at h
 .next z=>cases h;exact z
 .cases h
set_option tactic.hygienic true in
def qA (h:fG j r de lv f=some de1):
  ∃k ds p es es1,r=.int k/\de[j]?=some (some (.lst ds))/\ix ds.length k=some p/\ds[p]?=some (.lst es)/\f es=some es1/\lv[j]?=some .full/\de1=de.set j (some (.lst (ds.set p (.lst es1)))):=by
 unfold fG at h;split at h
 .next k ds h1=>
  split at h
  .next ds1 h2=>
   split at h
   .next h3=>
    cases h;obtain⟨p,h4,h5⟩:=QF.mp h2;obtain⟨d,h6,h7⟩:=QF.mp h5;split at h7
    .next es=>
     obtain⟨es1,h8,h9⟩:=QK.mp h7;exact⟨k,ds,p,es,es1,rfl,xh h1,h4,h6,h8,h3,by rw[h9]⟩
    .cases h7
   .cases h
  .cases h
 .cases h
def B9 (hm:m[l]?=some (.lst xs))(hk:ix xs.length k=some p)(hp:xs[p]?=some w):vq (.ref l) (.int k) m=.ok w m:=by
 simp[vq,yr,zN,hm,hk,hp]
def x5 (h:env[j]?=some (some w))(m:Me):af cl (.var j) env m=.ok w m:=by
 exact vW h m
def Ef(H:bt lev cl cd)(I:Inv lo RR m de lv env A)(i:Nat)(e:Ex):aD lo RR A m (aI cl (.asg i e) env m) (aH lev cd (.asg i e) de lv):=by
 have h:aD lo RR A m ((af cl e env m).bindS env λw m1=>.next (env.set i (some w)) m1) ((aq cd e de).bindS λd=>jm lev i e d de lv):=by
  cases z:aq cd e de with
  |no=>trivial
  |exc c d=>
   have:=I.bindE H.r e (f:=λw m1=>.next (env.set i (some w)) m1) (g:=λd=>.no) (λ_ _ _ _ _ _ _=>trivial);rw[z]at this;exact this
  |ok d=>
   show aD lo RR A m _ (jm lev i e d de lv);unfold jm;by_cases f:aZ lev e d=.full
   .rw[LF f];have h:=wD H e RR m de env (I.envR _);rw[z]at h;obtain⟨w,m1,B,h2,l,r,nd,hB⟩:=h;rw[h2];rw[f]at r;obtain⟨I',K⟩:=I.store l i (l:=.full) (d:=d) (w:=w) (B:=B) r nd hB;exact⟨_,_,_,rfl,I',K⟩
   .rw[LG f];obtain⟨A1,I1,K1,_,h⟩:=I.relEv H e;rw[z]at h;obtain⟨w,m1,B,h2,l,r,nd,hB⟩:=h;rw[h2];obtain⟨I',K⟩:=I1.store l i (l:=aZ lev e d) (d:=d) (w:=w) (B:=B) r nd hB;exact⟨_,_,_,rfl,I',K1.trans K⟩
 exact h
set_option tactic.hygienic true in
def jT (H:bt lev cl cd)(I:Inv lo RR m de lv env A)(hd:de[j]?=some (some (.lst ds)))(h1:aq cd e de=.ok d)(h2:af cl e env m=.ok w m1)(l1:Le m m1)(l2:Le m1 m2)(g:wt lev e d j de lv=some (de1,lv1))(F:List Dat->Dat->List Dat)(G:List Wd->Wd->List Wd)(cF:∀(m m1:Me) (A:Nat->List Nat) (ds:List Dat) (xs:List Wd) (d:Dat) (w:Wd) (B0:List Nat),Le m m1->bh m1 d w B0->B0.Nodup->(∀b∈B0,m.length<=b)->dU RR A m m1 ds xs (F ds d) (G xs w))(cM:∀(m:Me) (ds:List Dat) (xs:List Wd) (d:Dat) (w:Wd) (B B0:List Nat),(B++B0).Nodup->av m ds xs B->bh m d w B0->∃B',av m (F ds d) (G xs w) B'/\B'.Nodup/\∀b∈B',b∈B\/b∈B0)(cT:∀(R:Nat->Prop) (m:Me) (ds:List Dat) (xs:List Wd) (d:Dat) (w:Wd),ae R m ds xs->aj R m d w->ae R m (F ds d) (G xs w)):
  ∃l xs,env[j]?=some (some (.ref l))/\m2[l]?=some (.lst xs)/\ds.length=xs.length/\∃A',Inv lo RR (m2.set l (.lst (G xs w))) (de1.set j (some (.lst (F ds d)))) lv1 env A'/\bg A m A' (m2.set l (.lst (G xs w))):=by
 have l12:=l1.trans l2;unfold wt at g;split at g
 .cases g
 .next ho=>
  have ho:zW lv j=true:=by simpa using ho
  split at g
  .next f=>
   cases g;obtain⟨B,r,nd,hB⟩:=I.own H h1 h2;rw[f]at r;obtain⟨l,xs,he,hm,hr,put⟩:=I.mut hd ho;have r':bh m2 d w B:=bh.frame d w B (λx _ o z=>l2 x o z) r;refine⟨l,xs,he,l12 l _ hm,hr.len,put m2 _ _ l12 (λ_=>(cF m m2 A ds xs d w B l12 r' nd hB).1) (λ_=>(cF m m2 A ds xs d w B l12 r' nd hB).2)⟩
  .next f=>
   split at g
   .cases g
   .next hj=>
    have share:lv1=(wG e de lv).set j .top->de1=de->∃l xs,env[j]?=some (some (.ref l))/\m2[l]?=some (.lst xs)/\ds.length=xs.length/\∃A',Inv lo RR (m2.set l (.lst (G xs w))) (de1.set j (some (.lst (F ds d)))) lv1 env A'/\bg A m A' (m2.set l (.lst (G xs w))):=by
     rintro rfl rfl;obtain⟨A1,I1,K1,hA1,h⟩:=I.relEv H e;rw[h1]at h;have ho1:zW (wG e de1 lv) j=true:=by unfold zW;rw[tI e _ _ hj];exact ho
     obtain⟨l,xs,A2,I2,K2,g1,g2,he,hm,hr,hlA⟩:=I1.top j hd ho1;have hs:=h.sim;obtain⟨w',m',h3,_,rw0⟩:=hs;rw[h2]at h3;cases h3;have hjl:j<(wG e de1 lv).length:=by rw[I1.lvl];exact(Qa.mp hd).1
     have ho2:zW ((wG e de1 lv).set j .top) j=true:=by unfold zW;rw[Qx,LF rfl,LF hjl]
     have hlv:((wG e de1 lv).set j .top)[j]?=some .top:=by rw[Qx,LF rfl,LF hjl]
     obtain⟨l',xs',he',hm',_,put⟩:=I2.mut hd ho2;rw[he]at he';cases he';rw[hm]at hm';cases hm';obtain⟨A3,I3,K3⟩:=put m2 (F ds d) (G xs w) l12 (λz=>by rw[hlv]at z;cases z) (λ_ q=>by
      refine cT _ m2 ds xs d w (ae.frame (λx o r z=>⟨.inl r,l12 x o z⟩) _ _ q) (aj.frame (λx o r z=>⟨?_,l2 x o z⟩) _ _ rw0);rcases r with r|r
      .left
       refine⟨r.1,λk hk=>?_⟩;by_cases ek:k=j
       .rw[ek,g1]at hk;rw[QJ.mp hk]at r;exact r.2 j hlA
       .rw[g2 k ek]at hk;exact r.2 k hk
      .exact .inr r)
     exact⟨l,xs,he,l12 l _ hm,hr.len,A3,I3,(K1.trans K2).trans K3⟩
    split at g
    .next i=>
     split at g
     .next hfull=>
      cases g;have hij:i≠j:=λe=>hj (by rw[e];exact QJ.mpr rfl)
      -- the move
      have hdi:de[i]?=some (some d):=by
       exact ut h1
      obtain⟨wi,hei,ri⟩:=I.slot i d .full hdi hfull.1;have:af cl (.var i) env m=.ok wi m:=x5 hei m;rw[this]at h2;cases h2;obtain⟨wj,hej,rj⟩:=I.slot j _ .full hd hfull.2;obtain⟨l,xs,B,rfl,hA,hm,r⟩:=aX.mp rj;have hlm:=(Qa.mp hm).1;have nd:=I.nd j;rw[hA]at nd;obtain⟨n0,n1⟩:=QO.mp nd;have nBi:(B++A i).Nodup:=Qr.mpr ⟨n1,I.nd i,λx hx y hy e=>by
       subst e;exact hij (I.dj i j x hy (by rw[hA];exact Qk _ hx))⟩
      obtain⟨B',o,nB',hB'⟩:=cM m ds xs d w B (A i) nBi r ri;have lB':l∉B':=λz=>by
       rcases hB' l z with q|q
       .exact n0 q
       .exact hij (I.dj i j l q (by rw[hA];simp))
      have sub:∀x∈l::B',x∈A j\/x∈A i:=by
       intro x hx;rcases Qt.mp hx with rfl|hx
       .left;rw[hA];simp
       .rcases hB' x hx with q|q
        .left;rw[hA];exact Qk _ q
        .exact .inr q
      have hjl:j<de.length:=(Qa.mp hd).1;have hil:i<de.length:=(Qa.mp hdi).1;have ui:aK (aK A i []) j (l::B') i=[]:=by rw[zf hij,zh]
      have uo:∀k,k≠i->k≠j->aK (aK A i []) j (l::B') k=A k:=λk a b=>by rw[zf b,zf a]
      have ll2:=l2.len;refine⟨l,xs,hej,l2 l _ hm,r.len,aK (aK A i []) j (l::B'),?_⟩;refine I.put l2 (j:=j) (l:=l) (xs:=xs) (by rw[hA];simp) _ ?_ ?_ ?_ ?_ (by simp) rfl ?_ ?_
      .intro k x hx
       left
       by_cases e:k=j
       .rw[e,zh]at hx;rcases sub x hx with q|q
        .exact ⟨j,q⟩
        .exact ⟨i,q⟩
       .by_cases f:k=i
        .rw[f,ui]at hx;cases hx
        .rw[uo k f e]at hx;exact⟨k,hx⟩
      .intro k;by_cases e:k=j
       .rw[e,zh];exact QO.mpr ⟨lB',nB'⟩
       .by_cases f:k=i
        .rw[f,ui];simp
        .rw[uo k f e];exact I.nd k
      .have main:∀k x,k≠j->x∈l::B'->x∈aK (aK A i []) j (l::B') k->False:=by
        intro k x e hx hk;by_cases f:k=i
        .rw[f,ui]at hk;cases hk
        .rw[uo k f e]at hk;rcases sub x hx with q|q
         .exact e (I.dj k j x hk q)
         .exact f (I.dj k i x hk q)
       intro a b x ha hb;by_cases e:a=j
       .by_cases f:b=j
        .rw[e,f]
        .rw[e,zh]at ha;exact(main b x f ha hb).elim
       .by_cases f:b=j
        .rw[f,zh]at hb;exact(main a x e hb ha).elim
        .by_cases g:a=i
         .rw[g,ui]at ha;cases ha
         .by_cases h:b=i
          .rw[h,ui]at hb;cases hb
          .rw[uo a g e]at ha;rw[uo b h f]at hb;exact I.dj a b x ha hb
      .intro k x hx;by_cases e:k=j
       .rw[e,zh]at hx;rcases sub x hx with q|q
        .exact ⟨(I.bd j x q).1,Qf (I.bd j x q).2 ll2⟩
        .exact ⟨(I.bd i x q).1,Qf (I.bd i x q).2 ll2⟩
       .by_cases f:k=i
        .rw[f,ui]at hx;cases hx
        .rw[uo k f e]at hx;exact⟨(I.bd k x hx).1,Qf (I.bd k x hx).2 ll2⟩
      .intro k d' lk e g1 g2;rw[Qe (Ne.symm e)]at g1;by_cases f:k=i
       .rw[f,Qx,LF rfl,LF hil]at g1;cases g1
       .rw[Qe (Ne.symm f)]at g1;exact⟨g1,g2,uo k f e⟩
      .intro d' lj g1 g2;rw[Qx,LF rfl,LF (by simpa using hjl)]at g1;cases g1;rw[hfull.2]at g2;cases g2;refine⟨_,hej,?_⟩;rw[zh];exact aX.mpr ⟨l,_,B',rfl,rfl,yX (l2 l _ hm),av.frame _ _ B' (λx hx o z=>by rw[zL (l:=l) (x:=x) (λe=>lB' (by rw[e];exact hx))];exact l2 x o z) o⟩
     .cases g;exact share rfl rfl
    .cases g;exact share rfl rfl
end
section
variable{lev:Nat->Lv}{cl:Nat->List Wd->Me->Rz}{cd:Nat->List Dat->Rd}{lo:Nat}{RR:Nat->Prop}{m:Me}{de:aN}{lv:List Lv}{env:En}{A:Nat->List Nat}
def qB (h1:af cl o env m=.ok x m1)(h2:af cl e env m1=.ok w m2)(hl:yn x m1=true:=by simp only[yn,aT];simp_all):af cl (.meth n o (.pair e .unit)) env m=b6 n x [w] m2:=by
 show(af cl o env m).bind (λx m1=>match yn x m1 with|true=>((af cl e env m1).bind λa m2=>.ok (.tup [a]) m2).bind λy m2=>b6 n x (zq y) m2|false=>.no)=_;rw[h1];show(match yn x m1 with|true=>((af cl e env m1).bind λa m2=>.ok (.tup [a]) m2).bind λy m2=>b6 n x (zq y) m2|false=>.no)=_;rw[hl,h2];rfl
def tH (h1:af cl o env m=.ok x m1)(hl:yn x m1=true:=by simp only[yn,aT];simp_all):af cl (.meth n o .unit) env m=b6 n x [] m1:=by
 show(af cl o env m).bind (λx m1=>match yn x m1 with|true=>b6 n x [] m1|false=>.no)=_;rw[h1];show(match yn x m1 with|true=>b6 n x [] m1|false=>.no)=_;rw[hl]
def Ee (n:(B++B0).Nodup)(a:av m ds xs B)(b:bh m d w B0):∃B',av m (ds++[d]) (xs++[w]) B'/\B'.Nodup/\∀b∈B',b∈B\/b∈B0:=
 ⟨B++(B0++[]),a.app (.cons b .nil),by simpa using n,λx hx=>by simpa using hx⟩
def Ed (p:Nat)(n:(B++B0).Nodup)(a:av m ds xs B)(b:bh m d w B0):∃B',av m (ds.set p d) (xs.set p w) B'/\B'.Nodup/\∀b∈B',b∈B\/b∈B0:=by
 cases hp:ds[p]? with
 |none=>
  have h1:ds.length<=p:=Wv.mp hp;rw[Wx h1,Wx (by rw[<-a.len];exact h1)];exact⟨B,a,(Qr.mp n).1,λb hb=>.inl hb⟩
 |some e=>
  obtain⟨y,B1,Bp,B2,h1,rfl,h3,_,h4⟩:=av.split a hp;refine⟨B1++(B0++B2),h4 m d w B0 (λl _ o z=>z) b,?_,?_⟩
  .obtain ⟨q1,q2,q3⟩:=Qr.mp n;obtain⟨n1,n2,n3⟩:=Qr.mp q1;obtain⟨n4,n5,n6⟩:=Qr.mp n2;refine Qr.mpr ⟨n1,Qr.mpr ⟨q2,n5,λx hx y hy e=>q3 y (by simp[hy]) x hx e.symm⟩,λx hx y hy e=>?_⟩;rcases Qy.mp hy with hy|hy
   .exact q3 x (by simp[hx]) y hy e
   .exact n3 x hx y (by simp[hy]) e
  .intro x hx;simp only[Qy]at hx ⊢;rcases hx with z|z|z
   .exact .inl (.inl z)
   .exact .inr z
   .exact .inl (.inr (.inr z))
theorem aD.okS{r:Rs}{rd:Rd}{g:Dat->bO}(h:∀d,rd=.ok d->aD lo RR A m r (g d)):aD lo RR A m r (rd.okS g):=by
 cases rd with
 |ok d=>exact h d rfl
 |_=>trivial
theorem Inv.ok (H:aS cl cd)(I:Inv lo RR m de lv env A)(h:aq cd e de=.ok d)(l:Le m m1):∃w m2,af cl e env m1=.ok w m2/\Le m1 m2/\aj RR m2 d w:=by
 have q:=zj H e RR m1 de env ((I.ext l).envR _);rw[h]at q;obtain⟨w,m2,a,b,c⟩:=q;exact⟨w,m2,a,b,(I.ext l).rf c⟩
def Inv.isRef (I:Inv lo RR m de lv env A){j:Nat}(hd:de[j]?=some (some (.lst ds)))(he:env[j]?=some (some w)):yn w m=true:=by
 obtain⟨lj,hl⟩:=I.getlv hd;obtain⟨w',a,b⟩:=I.slot j _ lj hd hl;rw[he]at a;cases a;obtain⟨l,xs,rfl,_,hm,_⟩:=ao.mp (b.rep (R':=λ_=>True) (λ_ _=>trivial) (λ_ _=>trivial));simp[yn,aT,hm]
set_option tactic.hygienic true in
def FI(H:bt lev cl cd)(I:Inv lo RR m de lv env A)(j:Nat)(e:Ex):aD lo RR A m (aI cl (.expr (.meth .append (.var j) (.pair e .unit))) env m) (aH lev cd (.expr (.meth .append (.var j) (.pair e .unit))) de lv):=by
 show aD _ _ _ _ ((af cl _ env m).bindS env _) _;refine aD.okS λd h1=>?_;split
 .next ds hl=>
  split
  .next hlim=>
   split
   .next de1 lv1 g=>
    obtain⟨w,m1,h2,l1,r1⟩:=I.ok H.r h1 (Le.refl m);obtain⟨l,xs,he,hm,hlen,A',I',K⟩:=jT H I (xh hl) h1 h2 l1 (Le.refl m1) g (λds d=>ds++[d]) (λxs w=>xs++[w])
     (λ_ _ _ _ _ _ _ _ le o nd hB=>qy le o nd hB) (λ_ _ _ _ _ _ _ n a b=>Ee n a b) (λ_ _ _ _ _ _ a b=>a.app (.cons b .nil))
    rw[qB (x5 he m) h2 (I.isRef (xh hl) he)];have:b6 .append (.ref l) [w] m1=.ok .non (m1.set l (.lst (xs++[w]))):=by
     simp only[b6,hm];rw[LF (by lia)]
    rw[this];exact⟨_,_,A',rfl,I',K⟩
   .trivial
  .trivial
 .trivial
def FH (n:(B++B0).Nodup)(a:av m ds xs B)(b:bh m d w B0):∃B',av m (d::ds) (w::xs) B'/\B'.Nodup/\∀b∈B',b∈B\/b∈B0:=by
 obtain⟨n1,n2,n3⟩:=Qr.mp n;exact⟨B0++B,.cons b a,Qr.mpr ⟨n2,n1,λx hx y hy e=>n3 y hy x hx e.symm⟩,λx hx=>(Qy.mp hx).elim .inr .inl⟩
set_option tactic.hygienic true in
def FG(H:bt lev cl cd)(I:Inv lo RR m de lv env A)(j:Nat)(e:Ex):aD lo RR A m (aI cl (.expr (.meth .insert (.var j) (.pair (.lit (.int 0)) (.pair e .unit)))) env m) (aH lev cd (.expr (.meth .insert (.var j) (.pair (.lit (.int 0)) (.pair e .unit)))) de lv):=by
 show aD _ _ _ _ ((af cl _ env m).bindS env _) _;refine aD.okS λd h1=>?_;split
 .next ds hl=>
  split
  .next hlim=>
   split
   .next de1 lv1 g=>
    obtain⟨w,m1,h2,l1,r1⟩:=I.ok H.r h1 (Le.refl m);obtain⟨l,xs,he,hm,hlen,A',I',K⟩:=jT H I (xh hl) h1 h2 l1 (Le.refl m1) g (λds d=>d::ds) (λxs w=>w::xs)
     (λ_ _ _ _ _ _ _ _ le o nd hB=>FK le o nd hB) (λ_ _ _ _ _ _ _ n a b=>FH n a b) (λ_ _ _ _ _ _ a b=>.cons b a)
    have hev:af cl (.meth .insert (.var j) (.pair (.lit (.int 0)) (.pair e .unit))) env m=b6 .insert (.ref l) [.int 0,w] m1:=by
     show(af cl (.var j) env m).bind (λx m1=>match yn x m1 with|true=>(((af cl e env m1).bind λa m2=>.ok (.tup [a]) m2).bind λy m2=>.ok (.tup (.int 0::zq y)) m2).bind λy m2=>b6 .insert x (zq y) m2|false=>.no)=_;rw[x5 he m];show(match yn (.ref l) m with|true=>((((af cl e env m).bind λa m2=>.ok (.tup [a]) m2).bind λy m2=>.ok (.tup (.int 0::zq y)) m2).bind λy m2=>b6 .insert (.ref l) (zq y) m2)|false=>.no)=_;rw[I.isRef (xh hl) he,h2];rfl
    rw[hev];have:b6 .insert (.ref l) [.int 0,w] m1=.ok .non (m1.set l (.lst (w::xs))):=by
     simp only[b6,hm];rw[LF ⟨trivial,by lia⟩]
    rw[this];exact⟨_,_,A',rfl,I',K⟩
   .trivial
  .trivial
 .trivial
set_option tactic.hygienic true in
def FF(I:Inv lo RR m de lv env A)(j:Nat):aD lo RR A m (aI cl (.expr (.meth .reverse (.var j) .unit)) env m) (aH lev cd (.expr (.meth .reverse (.var j) .unit)) de lv):=by
 show aD _ _ _ _ ((af cl _ env m).bindS env _) (match xu de j with
   |some ds=>if zW lv j then .next (de.set j (some (.lst ds.reverse))) lv else .no
   |none=>.no)
 split
 .next ds hl=>
  split
  .next ho=>
   obtain⟨l,xs,he,hm,hr,put⟩:=I.mut (xh hl) ho;obtain⟨A',I',K⟩:=put m ds.reverse xs.reverse (Le.refl m) (λ_=>(dr (RR:=RR) (A:=A)).1) (λ_=>dr.2);rw[tH (x5 he m)];have:b6 .reverse (.ref l) [] m=.ok .non (m.set l (.lst xs.reverse)):=by simp only[b6,hm]
   rw[this];exact⟨_,_,A',rfl,I',K⟩
  .trivial
 .trivial
def mn (H:aS cl cd)(I:Inv lo RR m de lv env A){ds:List Dat}(hr:aq cd r de=.ok (.int k))(hp:ix ds.length k=some p)(he:env[j]?=some (some (.ref l)))(hm:m[l]?=some (.lst xs))(hlen:ds.length=xs.length)(hx:xs[p]?=some (.ref l2))(l0:Le m m0):
  ∃m1,af cl (.idx (.var j) r) env m0=.ok (.ref l2) m1/\Le m0 m1:=by
 obtain⟨w,m1,h2,l1,r1⟩:=I.ok H hr l0;rw[aa.mp r1]at h2;refine⟨m1,?_,l1⟩;show(af cl (.var j) env m0).bind (λx m1=>(af cl r env m1).bind λy m2=>vq x y m2)=_;rw[x5 he m0];simp only[Rz.bind,h2];exact B9 (l1 l _ (l0 l _ hm)) (by rw[<-hlen];exact hp) hx
def qC (h:∀de1,o=some de1->aD lo RR A m r (.next de1 lv1)):aD lo RR A m r (iT o lv1):=by
 cases o with
 |none=>trivial
 |some d=>exact h d rfl
set_option tactic.hygienic true in
def FE(H:bt lev cl cd)(I:Inv lo RR m de lv env A)(j:Nat)(r e:Ex):aD lo RR A m (aI cl (.expr (.meth .append (.idx (.var j) r) (.pair e .unit))) env m) (aH lev cd (.expr (.meth .append (.idx (.var j) r) (.pair e .unit))) de lv):=by
 show aD _ _ _ _ ((af cl _ env m).bindS env _) _;refine aD.okS λrv hr=>aD.okS λd h1=>?_;split
 .next f=>
  refine qC λde1 h=>?_;obtain⟨k,ds,p,es,es1,rfl,hd,hp,hps,hf,hlv,rfl⟩:=qA h;split at hf
  .next hlim=>
   cases hf;obtain⟨l,xs,l2,us,he,hm,hx,hm2,hlen,hrep,put,_⟩:=I.mutIn hd hlv hps;obtain⟨m1,h3,l1⟩:=mn H.r I hr hp he hm hlen hx (Le.refl m);obtain⟨w,m2,h4,l2',r4⟩:=I.ok H.r h1 l1;obtain⟨B,ro,nd,hB⟩:=(I.ext l1).own H h1 h4;rw[f]at ro;have ch:dU RR A m m2 es us (es++[d]) (us++[w]):=qy (l1.trans l2') ro nd (λb hb=>Qo l1.len (hB b hb));obtain⟨A',I',K⟩:=put m2 _ _ (l1.trans l2') ch.1;rw[qB h3 h4 (by simp[yn,aT,l1 _ _ hm2])];have e1:=hrep.len;have:b6 .append (.ref l2) [w] m2=.ok .non (m2.set l2 (.lst (us++[w]))):=by
    simp only[b6,l2' _ _ (l1 _ _ hm2)];rw[LF (by lia)]
   rw[this];exact⟨_,_,A',rfl,I',K⟩
  .cases hf
 .trivial
end
section
variable{lev:Nat->Lv}{cl:Nat->List Wd->Me->Rz}{cd:Nat->List Dat->Rd}{lo:Nat}{RR:Nat->Prop}{m:Me}{de:aN}{lv:List Lv}{env:En}{A:Nat->List Nat}
mutual
theorem aj.avoid{R R':Nat->Prop}{m:Me}{D:Dat}{l:Nat}(hD:aj R' m D (.ref l)):∀(d:Dat) (w:Wd),dS d<dS D->aj R m d w->aj (λx=>R x/\x≠l) m d w
 |.non,w,h,q=>ak.mpr (ak.mp q)
 |.bl _,w,h,q=>ah.mpr (ah.mp q)
 |.int _,w,h,q=>aa.mpr (aa.mp q)
 |.str _,w,h,q=>ax.mpr (ax.mp q)
 |.scr _,w,h,q=>aU.mpr (aU.mp q)
 |.tup ds,w,h,q=>by
  obtain⟨xs,rfl,q1⟩:=ai.mp q;exact ai.mpr ⟨xs,rfl,ae.avoid hD ds xs (by rw[show dS (.tup ds)=dh ds+1 from by simp[dS]]at h;lia) q1⟩
 |.lst ds,w,h,q=>by
  obtain⟨k,xs,rfl,r,hm,q1⟩:=ao.mp q;refine ao.mpr ⟨k,xs,rfl,⟨r,λe=>?_⟩,hm,ae.avoid hD ds xs (by rw[show dS (.lst ds)=dh ds+1 from by simp[dS]]at h;lia) q1⟩;subst e;have:=aj.det _ _ _ q hD;rw[this]at h;lia
theorem ae.avoid{R R':Nat->Prop}{m:Me}{D:Dat}{l:Nat}(hD:aj R' m D (.ref l)):∀(ds:List Dat) (xs:List Wd),dh ds<dS D->ae R m ds xs->ae (λx=>R x/\x≠l) m ds xs
 |[],xs,h,q=>by rw[q.nil_inv];exact .nil
 |d::ds,xs,h,q=>by
  obtain⟨x,r,rfl,a,b⟩:=q.cons_inv;unfold dh at h;exact .cons (aj.avoid hD d x (by lia) a) (ae.avoid hD ds r (by lia) b)
end
def qD (hm:m[l]?=some (.lst xs))(hk:ix xs.length k=some p):vG (.ref l) (.int k) w m=.ok .non (m.set l (.lst (xs.set p w))):=by
 simp[vG,hm,hk]
set_option tactic.hygienic true in
def FD(H:bt lev cl cd)(I:Inv lo RR m de lv env A)(j:Nat)(k e:Ex):aD lo RR A m (aI cl (.asgS (.var j) k e) env m) (aH lev cd (.asgS (.var j) k e) de lv):=by
 show aD _ _ _ _ ((af cl e env m).bindS env _) _;refine aD.okS λd h1=>aD.okS λkv hk=>?_;unfold pQ;split
 .next k' ds hl=>
  have hd:=xh hl;split
  .next p hp=>
   obtain⟨w,m1,h2,l1,r1⟩:=I.ok H.r h1 (Le.refl m);obtain⟨wk,m2,h3,l2,r3⟩:=I.ok H.r hk l1;rw[aa.mp r3]at h3;split
   .next de1 lv1 g=>
    obtain⟨l,xs,he,hm,hlen,A',I',K⟩:=jT H I hd h1 h2 l1 l2 g (λds d=>ds.set p d) (λxs w=>xs.set p w)
     (λ_ _ _ _ _ _ _ _ le o nd hB=>tK p le o nd hB) (λ_ _ _ _ _ _ _ n a b=>Ed p n a b) (λ_ _ _ _ _ _ a b=>a.set p b)
    simp only[h2,Rz.bindS,x5 he m1,h3,qD hm (by rw[<-hlen];exact hp)];exact⟨_,_,A',rfl,I',K⟩
   .next g=>
    split
    .next c=>
     simp only[Qj,LL]at c;obtain⟨⟨ho,hdep⟩,_⟩:=c;obtain⟨l,xs,A0,I0,K0,g1,g2,he,hm,hr,hlA⟩:=I.top j hd ho;obtain⟨A1,I1,K1,q1,q2,q3⟩:=Inv.downs ((zt e).filter (·≠j)) I0;have hA1j:A1 j=[l]:=by rw[q3 j (by simp),g1]
     have elv:bb ((zt e).filter (·≠j)) (lv.set j .top)=(bb (zt e) lv).set j .top:=by
      apply WQ;intro i;rw[y8,Qx];by_cases ei:j=i
      .subst ei;rw[LG (by simp),LF rfl,Qx,LF rfl,kP]
      .rw[LG ei,Qe ei,y8,Wo];have:(i∈(zt e).filter (·≠j))↔i∈zt e:=by simp[Vo];intro _;exact λz=>ei z.symm
       simp only[this]
     rw[elv]at I1;have lno:∀i∈zt e,i≠j->∀x,((bb (zt e) lv).set j .top)[i]?=some x->x=.no:=by
      intro i hi hij x hx;rw[Qe (Ne.symm hij),y8]at hx;split at hx
      .cases hx;rfl
      .next z=>rw[QG (by have:¬i<lv.length:=λq=>z ⟨hi,q⟩;lia)]at hx;cases hx
     have hr1:ae (yU RR A1) m ds xs:=(K1.repL hr);have env1:bK (λx=>yU RR A1 x\/x=l) m (zt e) de env:=by
      refine⟨I1.len,λi hi d' hd'=>?_⟩;by_cases ei:i=j
      .subst ei;rw[hd]at hd';cases hd';exact⟨_,he,ao.mpr ⟨l,xs,rfl,.inr rfl,hm,ae.frame (λx o r z=>⟨.inl r,z⟩) _ _ hr1⟩⟩
      .obtain ⟨li,hli⟩:=I1.getlv hd';obtain⟨w',a,b⟩:=I1.slot i d' li hd' hli;rw[lno i hi ei li hli]at b;exact⟨w',a,aj.frame (λx o r z=>⟨.inl r,z⟩) _ _ b.1⟩
     have hs:=zj H.r e _ m de env env1;rw[h1]at hs;obtain⟨w',m1',h2',_,rw1⟩:=hs;rw[h2]at h2';cases h2';have rwa:=aj.avoid (D:=.lst ds) (l:=l) (R':=λ_=>True) (m:=m1) (ao.mpr ⟨l,xs,rfl,trivial,l1 l _ hm,ae.frame (λx o r z=>⟨trivial,l1 x o z⟩) _ _ hr1⟩) d w hdep rw1;have hlm:=(Qa.mp hm).1;have hjl:j<lv.length:=by rw[I.lvl];exact(Qa.mp hd).1
     have hlv:((bb (zt e) lv).set j .top)[j]?=some .top:=by rw[Qx,LF rfl,LF (by rw[kP];exact hjl)]
     obtain⟨l',xs',he',hm',hrr,put⟩:=I1.mut hd (by unfold zW;rw[hlv]);rw[he]at he';cases he';rw[hm]at hm';cases hm';obtain⟨A3,I3,K3⟩:=put m2 (ds.set p d) (xs.set p w) (l1.trans l2) (λz=>by rw[hlv]at z;cases z) (λ_ q=>by
      refine ae.set (ae.frame (λx o r z=>⟨.inl r,(l1.trans l2) x o z⟩) _ _ q) p (aj.frame (λx o r z=>⟨?_,l2 x o z⟩) _ _ rwa);rcases r.1 with (r1|r1)|r1
      .exact .inl r1
      .exact LH r1 r.2
      .exact .inr r1)
     simp only[h2,Rz.bindS,x5 he m1,h3,qD (l2 l _ (l1 l _ hm)) (by rw[<-hr.len];exact hp)];exact⟨_,_,A3,rfl,I3,(K0.trans K1).trans K3⟩
    .trivial
  .trivial
 .trivial
set_option tactic.hygienic true in
def z8 (h:iK k d es=some es1):∃i p,k=.int i/\ix es.length i=some p/\es1=es.set p d:=by
 unfold iK at h;split at h
 .next i=>obtain⟨p,a,b⟩:=QK.mp h;exact⟨i,p,rfl,a,b.symm⟩
 .cases h
set_option tactic.hygienic true in
def FC(H:bt lev cl cd)(I:Inv lo RR m de lv env A)(j:Nat)(r k e:Ex):aD lo RR A m (aI cl (.asgS (.idx (.var j) r) k e) env m) (aH lev cd (.asgS (.idx (.var j) r) k e) de lv):=by
 show aD _ _ _ _ ((af cl e env m).bindS env _) _;refine aD.okS λd h1=>aD.okS λrv hr=>aD.okS λkv hk=>?_;obtain⟨w,m1,h2,l1,r1⟩:=I.ok H.r h1 (Le.refl m);split
 .next f=>
  refine qC λde1 h=>?_;obtain⟨rk,ds,p,es,es1,rfl,hd,hp,hps,hf,hlv,rfl⟩:=qA h;obtain⟨i,q,rfl,hq,rfl⟩:=z8 hf;obtain⟨l,xs,l2,us,he,hm,hx,hm2,hlen,hrep,put,_⟩:=I.mutIn hd hlv hps;obtain⟨m2,h3,l2'⟩:=mn H.r I hr hp he hm hlen hx l1;obtain⟨wk,m3,h4,l3,r4⟩:=I.ok H.r hk (l1.trans l2');rw[aa.mp r4]at h4;obtain⟨B,ro,nd,hB⟩:=I.own H h1 h2;rw[f]at ro;have l123:=(l1.trans l2').trans l3;have ro':bh m3 d w B:=bh.frame d w B (λx _ o z=>l3 x o (l2' x o z)) ro;have ch:dU RR A m m3 es us (es.set q d) (us.set q w):=tK q l123 ro' nd hB;obtain⟨A',I',K⟩:=put m3 _ _ l123 ch.1;simp only[h2,Rz.bindS,h3,h4,qD (l123 _ _ hm2) (by rw[<-hrep.len];exact hq)];exact⟨_,_,A',rfl,I',K⟩
 .next f=>
  split
  .trivial
  .next hj=>
   refine qC λde1 h=>?_;obtain⟨rk,ds,p,es,es1,rfl,hd,hp,hps,hf,hlv,rfl⟩:=qA h;obtain⟨i,q,rfl,hq,rfl⟩:=z8 hf;obtain⟨A1,I1,K1,_,hso⟩:=I.relEv H e;rw[h1]at hso;obtain⟨w',m1',h2',_,rw1⟩:=hso.sim;rw[h2]at h2';cases h2';obtain⟨l,xs,l2,us,he,hm,hx,hm2,hlen,hrep,_,put⟩:=I1.mutIn hd (by rw[tI e _ _ hj];exact hlv) hps;obtain⟨m2,h3,l2'⟩:=mn H.r I hr hp he hm hlen hx l1;obtain⟨wk,m3,h4,l3,r4⟩:=I.ok H.r hk (l1.trans l2');rw[aa.mp r4]at h4;have l123:=(l1.trans l2').trans l3;obtain⟨A',I',K⟩:=put m3 q d w l123 (aj.frame (λx o r z=>⟨r,l3 x o (l2' x o z)⟩) _ _ rw1);simp only[h2,Rz.bindS,h3,h4,qD (l123 _ _ hm2) (by rw[<-hrep.len];exact hq)];exact⟨_,_,A',rfl,I',K1.trans K⟩
end
section
variable{lev:Nat->Lv}{cl:Nat->List Wd->Me->Rz}{cd:Nat->List Dat->Rd}{lo:Nat}{RR:Nat->Prop}
set_option tactic.hygienic true in
def Inv.bindSlot{m:Me}{de:aN}{lv:List Lv}{env:En}{A:Nat->List Nat}(I:Inv lo RR m de lv env A)(i:Nat){d:Dat}{w:Wd}(h:aj (yU RR A) m d w):Inv lo RR m (de.set i (some d)) (lv.set i (bu d)) (env.set i (some w)) (aK A i [])/\bg A m (aK A i []) m:=by
 refine I.store (Le.refl m) i (B:=[]) ?_ QD (by simp);unfold bu;split
 .next f=>exact h.flat d w f
 .exact ⟨aj.frame (λx o r z=>⟨⟨.inl r,by simp⟩,z⟩) _ _ h,rfl⟩
set_option tactic.hygienic true in
theorem vm (hb:∀x w m de lv env A,Inv lo RR m de lv env A->aj (yU RR A) m x w->aD lo RR A m (bw w env m) (bd x de lv)):
  ∀(ds:List Dat) (xs:List Wd) (m:Me) (de:aN) (lv:List Lv) (env:En) (A:Nat->List Nat),Inv lo RR m de lv env A->ae (yU RR A) m ds xs->aD lo RR A m (xY bw xs env m) (yI bd ds de lv)
 |[],xs,m,de,lv,env,A,I,r=>by
  rw[r.nil_inv];exact⟨env,m,A,rfl,I,bg.refl A m⟩
 |d::ds,xs,m,de,lv,env,A,I,r=>by
  obtain⟨x,xs,rfl,a,b⟩:=r.cons_inv;have h:=hb d x m de lv env A I a;unfold xY yI;cases z:bd d de lv with
  |next d1 l1=>
   rw[z]at h;obtain⟨e1,m1,A1,h1,I1,K1⟩:=h;rw[h1];exact aD.keep K1 (vm hb ds xs m1 d1 l1 e1 A1 I1 (K1.repL b))
  |cont d1 l1=>
   rw[z]at h;obtain⟨e1,m1,A1,h1,I1,K1⟩:=h;rw[h1];exact aD.keep K1 (vm hb ds xs m1 d1 l1 e1 A1 I1 (K1.repL b))
  |brk d1 l1=>
   rw[z]at h;obtain⟨e1,m1,A1,h1,I1,K1⟩:=h;rw[h1];exact⟨e1,m1,A1,rfl,I1,K1⟩
  |ret d l=>
   rw[z]at h;obtain⟨w,m1,B,h1,k⟩:=h;rw[h1];exact⟨w,m1,B,rfl,k⟩
  |exc c d=>
   rw[z]at h;obtain⟨w,e,m1,h1,k⟩:=h;rw[h1];exact⟨w,e,m1,rfl,k⟩
  |no=>trivial
set_option tactic.hygienic true in
theorem kQ (hb:∀x w m de lv env A,Inv lo RR m de lv env A->aj (yU RR A) m x w->aD lo RR A m (bw w env m) (bd x de lv)):
  ∀(ds:List Dat) (i k:Nat) (m:Me) (de:aN) (lv:List Lv) (env:En) (A:Nat->List Nat),Inv lo RR m de lv env A->(∀k,l∉A k)->m[l]?=some (.lst xs0)->ae (yU RR A) m ds (xs0.drop i)->i+ds.length=xs0.length->ds.length<k->aD lo RR A m (xP bw l k i env m) (yI bd ds de lv)
 |[],i,0,m,de,lv,env,A,I,hl,hm,r,hi,hk=>by simp at hk
 |d::ds,i,0,m,de,lv,env,A,I,hl,hm,r,hi,hk=>by simp at hk
 |[],i,k+1,m,de,lv,env,A,I,hl,hm,r,hi,hk=>by
  unfold xP yI zN;rw[hm];simp only;rw[QG (by simp at hi;lia)];exact⟨env,m,A,rfl,I,bg.refl A m⟩
 |d::ds,i,k+1,m,de,lv,env,A,I,hl,hm,r,hi,hk=>by
  obtain⟨x,q,e0,a,b⟩:=r.cons_inv;have hx:xs0[i]?=some x:=by
   have:(xs0.drop i)[0]?=some x:=by rw[e0];rfl
   simpa using this
  have hr:q=xs0.drop (i+1):=by
   have:(xs0.drop i).drop 1=q:=by rw[e0];rfl
   rw[<-this,Vs]
  rw[hr]at b;have hi':i+1+ds.length=xs0.length:=by simp at hi;lia
  have hk':ds.length<k:=by simp at hk;lia
  have h:=hb d x m de lv env A I a;unfold xP yI zN;rw[hm];simp only;rw[hx];simp only;cases z:bd d de lv with
  |next d1 l1=>
   rw[z]at h;obtain⟨e1,m1,A1,h1,I1,K1⟩:=h;rw[h1];exact aD.keep K1 (kQ hb ds (i+1) k m1 d1 l1 e1 A1 I1 (K1.1 l _ hl hm).1 (K1.1 l _ hl hm).2 (K1.repL b) hi' hk')
  |cont d1 l1=>
   rw[z]at h;obtain⟨e1,m1,A1,h1,I1,K1⟩:=h;rw[h1];exact aD.keep K1 (kQ hb ds (i+1) k m1 d1 l1 e1 A1 I1 (K1.1 l _ hl hm).1 (K1.1 l _ hl hm).2 (K1.repL b) hi' hk')
  |brk d1 l1=>
   rw[z]at h;obtain⟨e1,m1,A1,h1,I1,K1⟩:=h;rw[h1];exact⟨e1,m1,A1,rfl,I1,K1⟩
  |ret d l=>
   rw[z]at h;obtain⟨w,m1,B,h1,k⟩:=h;rw[h1];exact⟨w,m1,B,rfl,k⟩
  |exc c d=>
   rw[z]at h;obtain⟨w,e,m1,h1,k⟩:=h;rw[h1];exact⟨w,e,m1,rfl,k⟩
  |no=>trivial
set_option tactic.hygienic true in
def tG{bw:Wd->En->Me->Rs}{bd:Dat->aN->List Lv->bO}(H:bt lev cl cd)(hb:∀x w m de lv env A,Inv lo RR m de lv env A->aj (yU RR A) m x w->aD lo RR A m (bw w env m) (bd x de lv)){m:Me}{de:aN}{lv:List Lv}{env:En}{A:Nat->List Nat}(I:Inv lo RR m de lv env A)(it:Ex):
  aD lo RR A m ((af cl it env m).bindS env λw m1=>qZ bw w env m1) ((aq cd it de).bindS λd=>match cA d with
   |some xs=>yI bd xs de (if ay d then lv else wG it de lv)
   |none=>.no):=by
 have run:∀(d:Dat) (w:Wd) (m1:Me) (xs:List Dat) (lv1:List Lv) (A1:Nat->List Nat),cA d=some xs->Inv lo RR m1 de lv1 env A1->aj (yU RR A1) m1 d w->aD lo RR A1 m1 (qZ bw w env m1) (yI bd xs de lv1):=by
  intro d w m1 xs lv1 A1 hi I1 r;cases d with
  |tup ds=>cases hi;obtain⟨ys,rfl,r1⟩:=ai.mp r;exact vm hb _ _ _ _ _ _ _ I1 r1
  |scr ns=>cases hi;rw[aU.mp r];exact vm hb _ _ _ _ _ _ _ I1 (dv ns)
  |lst ds=>
   simp only[cA]at hi;split at hi
   .next z=>
    cases hi;obtain⟨l,ys,rfl,hR,hm,r1⟩:=ao.mp r;have:=r1.len;exact kQ hb _ 0 (au+1) m1 de lv1 env A1 I1 hR.2 hm (by simpa using r1) (by lia) (by lia)
   .cases hi
  |_=>cases hi
 cases z:aq cd it de with
 |no=>trivial
 |exc c d=>
  have:=I.bindE H.r it (f:=λw m1=>qZ bw w env m1) (g:=λd=>.no) (λ_ _ _ _ _ _ _=>trivial);rw[z]at this;exact this
 |ok d=>
  show aD lo RR A m _ (match cA d with
   |some xs=>yI bd xs de (if ay d then lv else wG it de lv)
   |none=>.no)
  cases hi:cA d with
  |none=>trivial
  |some xs=>
   simp only;split
   .next f=>
    obtain⟨w,m1,h2,l1,r1⟩:=I.ok H.r z (Le.refl m);rw[h2];exact aD.keep (v6 l1) (run d w m1 xs lv A hi (I.ext l1) (bh.rep d w [] (by simp) (r1.flat d w f)))
   .obtain ⟨A1,I1,K1,_,h⟩:=I.relEv H it;rw[z]at h;obtain⟨w,m1,h2,l1,r1⟩:=h.sim;rw[h2];refine aD.keep (K1.trans (v6 l1)) (run d w m1 xs _ A1 hi (I1.ext l1) (aj.frame (λx o r z=>⟨?_,z⟩) _ _ r1));rcases r with r|r
    .exact r
    .exact ⟨I.rr x (Qo I.lom r),λk hk=>by have:=(I1.bd k x hk).2;lia⟩
set_option tactic.hygienic true in
theorem kR{cw:En->Me->Rz}{bw:En->Me->Rs}{c:aN->Rd}{bd:aN->List Lv->bO}(hc:∀m de lv env A,Inv lo RR m de lv env A->match c de with |.ok d=>∃w m1,cw env m=.ok w m1/\Le m m1/\aj RR m1 d w |.exc k d=>∃w m1,cw env m=.exc k w m1/\Le m m1/\aj RR m1 d w |.no=>True)
  (hb:∀m de lv env A,Inv lo RR m de lv env A->aD lo RR A m (bw env m) (bd de lv)):∀(k:Nat) (m:Me) (de:aN) (lv:List Lv) (env:En) (A:Nat->List Nat),Inv lo RR m de lv env A->aD lo RR A m (jd cw bw k env m) (wH c bd k de lv)
 |0,m,de,lv,env,A,I=>trivial
 |k+1,m,de,lv,env,A,I=>by
  have h:=hc m de lv env A I;unfold jd wH;cases z:c de with
  |no=>trivial
  |exc j d=>
   rw[z]at h;obtain⟨w,m1,h1,l1,r1⟩:=h;rw[h1];exact⟨w,env,m1,rfl,⟨λx o _ b=>l1 x o b,l1.len⟩,r1⟩
  |ok d=>
   rw[z]at h;obtain⟨w,m1,h1,l1,r1⟩:=h;rw[h1];cases d with
   |bl b=>
    rw[ah.mp r1];cases b with
    |false=>exact⟨env,m1,A,rfl,I.ext l1,v6 l1⟩
    |true=>
     have h2:=hb m1 de lv env A (I.ext l1);refine aD.keep (v6 l1) ?_;simp only;cases z2:bd de lv with
     |next d1 l2=>
      rw[z2]at h2;obtain⟨e1,m2,A1,h3,I1,K1⟩:=h2;rw[h3];exact aD.keep K1 (kR hc hb k m2 d1 l2 e1 A1 I1)
     |cont d1 l2=>
      rw[z2]at h2;obtain⟨e1,m2,A1,h3,I1,K1⟩:=h2;rw[h3];exact aD.keep K1 (kR hc hb k m2 d1 l2 e1 A1 I1)
     |brk d1 l2=>
      rw[z2]at h2;obtain⟨e1,m2,A1,h3,I1,K1⟩:=h2;rw[h3];exact⟨e1,m2,A1,rfl,I1,K1⟩
     |ret d l=>
      rw[z2]at h2;obtain⟨w,m2,B,h3,k⟩:=h2;rw[h3];exact⟨w,m2,B,rfl,k⟩
     |exc c d=>
      rw[z2]at h2;obtain⟨w,e,m2,h3,k⟩:=h2;rw[h3];exact⟨w,e,m2,rfl,k⟩
     |no=>trivial
   |_=>trivial
def Inv.drop{m:Me}{de:aN}{lv:List Lv}{env:En}{A:Nat->List Nat}(I:Inv lo RR m de lv env A)(i:Nat)(hi:i<de.length):Inv lo RR m (de.set i none) (lv.set i .full) env A:=by
 refine⟨by simp[I.len],by simp[I.lvl],I.rr,I.lom,λk d l h1 h2=>?_,I.nd,I.dj,I.bd⟩;by_cases e:i=k
 .subst e;rw[Qx,LF rfl]at h1;split at h1
  .cases h1
  .cases h1
 .rw[Qe e]at h1 h2;exact I.slot k d l h1 h2
set_option tactic.hygienic true in
set_option tactic.hygienic true in
def Hr (H:bt lev cl cd)(I:Inv lo RR m de lv env A)(j a x:Nat)(e:Ex):aD lo RR A m (aI cl (.appPop j a x e) env m) (aH lev cd (.appPop j a x e) de lv):=by
 show aD _ _ _ _ ((af cl _ env m).bindS env _) (match xu de x,de[a]?,xu de j with
  |some (.int v::r),some (some (.int low)),some ds=>(aq cd e (de.set x (some (.lst r)))).okS λd=>match d with
   |.int k=>if j≠x/\a≠x/\zW lv j=true/\zW lv x=true/\0<k/\ds.length<au then .next ((de.set x (some (.lst r))).set j (some (.lst (ds++[.int (low+v%k)])))) lv else .no
   |_=>.no
  |_,_,_=>.no)
 split
 .next v r low ds hx ha hj=>
  refine aD.okS λd he=>?_;split
  .next k=>
   split
   .next h=>
    obtain⟨hjx,hax,oj,ox,hk,hlim⟩:=h;have hdx:=xh hx;have hdj:=xh hj;obtain⟨lx,xs,e1,m1x,rx,putx⟩:=I.mut hdx ox;obtain⟨w0,xr,rfl,r0,rr⟩:=rx.cons_inv;rw[aa.mp r0]at m1x rx putx;obtain⟨A1,I1,K1⟩:=putx m r xr (Le.refl m) (λ_=>(ux (RR:=RR) (A:=A) (m:=m) (ds:=r) (xs:=xr) (d:=.int v) (w:=.int v)).1) (λ_=>(ux (RR:=RR) (A:=A) (m:=m) (ds:=r) (xs:=xr) (d:=.int v) (w:=.int v)).2);obtain⟨w,m2,h2,l2,r2⟩:=I1.ok H.r he (Le.refl _);rw[aa.mp r2]at h2;have hdj1:(de.set x (some (.lst r)))[j]?=some (some (.lst ds)):=by rw[Qe (Ne.symm hjx)];exact hdj
    obtain⟨lj,ys,e2,m2j,ry,putj⟩:=I1.mut hdj1 oj;have ow:bh m2 (.int (low+v%k)) (.int (low+v%k)) []:=(aa.mpr rfl:aj (λ_=>True) m2 (.int (low+v%k)) (.int (low+v%k))).flat _ _ rfl;have ch:dU RR A1 (m.set lx (.lst xr)) m2 ds ys (ds++[.int (low+v%k)]) (ys++[.int (low+v%k)]):=qy l2 (B0:=[]) ow QD (by simp);obtain⟨A2,I2,K2⟩:=putj m2 _ _ l2 (λ_=>ch.1) (λ_=>ch.2);obtain⟨la,hla⟩:=I.getlv ha;obtain⟨wa,ea,ra⟩:=I.slot a _ la ha hla;have hwa:wa=.int low:=by
     have t:aj (λ_=>True) m (.int low) wa:=ra.rep (λ_ _=>trivial) (λ_ _=>trivial);exact aa.mp t
    subst hwa;have hlen:=ry.len;have hpop:af cl (.meth .pop (.var x) (.pair (.lit (.int 0)) .unit)) env m=.ok (.int v) (m.set lx (.lst xr)):=by
     rw[qB (x:=.ref lx) (m1:=m) (w:=.int 0) (m2:=m) (x5 e1 m) rfl];simp only[b6,m1x];rfl
    have hmod:af cl (.bin .mod (.meth .pop (.var x) (.pair (.lit (.int 0)) .unit)) e) env m=.ok (.int (v%k)) m2:=by
     show(af cl (.meth .pop (.var x) (.pair (.lit (.int 0)) .unit)) env m).bind _=_;rw[hpop];simp only[Rz.bind];rw[h2];simp only[cz];rw[LF hk]
    have harg:af cl (.bin .add (.var a) (.bin .mod (.meth .pop (.var x) (.pair (.lit (.int 0)) .unit)) e)) env m=.ok (.int (low+v%k)) m2:=by
     show(af cl (.var a) env m).bind _=_;rw[x5 ea m];simp only[Rz.bind];rw[hmod];rfl
    rw[qB (x:=.ref lj) (m1:=m) (x5 e2 m) harg (I.isRef hdj e2)];have:b6 .append (.ref lj) [.int (low+v%k)] m2=.ok .non (m2.set lj (.lst (ys++[.int (low+v%k)]))):=by
     simp only[b6,l2 _ _ m2j];rw[LF (by lia)]
    rw[this];exact⟨_,_,A2,rfl,I2,K1.trans K2⟩
   .trivial
  .trivial
 .trivial
set_option tactic.hygienic true in
def FB (I:Inv lo RR m de lv env A)(j:Nat):aD lo RR A m (aI cl (.expr (.meth .pop (.var j) .unit)) env m) (aH lev cd (.expr (.meth .pop (.var j) .unit)) de lv):=by
 show aD _ _ _ _ ((af cl _ env m).bindS env _) (match xu de j with
   |some ds=>if zW lv j&&decide (ds.length≠0)then .next (de.set j (some (.lst ds.dropLast))) lv else .no
   |none=>.no)
 split
 .next ds hl=>
  split
  .next ho=>
   simp only[Qj,LL]at ho;obtain⟨l,xs,he,hm,hr,put⟩:=I.mut (xh hl) ho.1;obtain⟨A',I',K⟩:=put m ds.dropLast xs.dropLast (Le.refl m) (λ_=>(uy (RR:=RR) (A:=A)).1) (λ_=>(uy (RR:=RR) (A:=A)).2);have e1:=hr.len;obtain⟨y,hy⟩:∃y,xs[xs.length-1]?=some y:=⟨xs[xs.length-1]'(by lia),Qc (by lia)⟩;rw[tH (x5 he m)];have:b6 .pop (.ref l) [] m=.ok y (m.set l (.lst xs.dropLast)):=by
    simp only[b6,hm];rw[hy]
   rw[this];exact⟨_,_,A',rfl,I',K⟩
  .trivial
 .trivial
set_option tactic.hygienic true in
def Ec (H:bt lev cl cd)(I:Inv lo RR m de lv env A)(e:Ex):aD lo RR A m (aI cl (.ret e) env m) (aH lev cd (.ret e) de lv):=by
 show aD _ _ _ _ ((af cl e env m).bindS env _) ((aq cd e de).bindS _);cases z:aq cd e de with
 |no=>trivial
 |exc c d=>
  have:=I.bindE H.r e (f:=λw m1=>.ret w m1) (g:=λd=>.no) (λ_ _ _ _ _ _ _=>trivial);rw[z]at this;exact this
 |ok d=>
  obtain⟨w,m1,h2,l1,r1⟩:=I.ok H.r z (Le.refl m);rw[h2];show aD lo RR A m (.ret w m1) (.ret d (bS lev e d lv));have kp:(∀(x:Nat) o,(∀i,x∉A i)->m[x]?=some o->m1[x]?=some o)/\m.length<=m1.length:=⟨λx o _ b=>l1 x o b,l1.len⟩;have no:bD (λx=>RR x/\x∉([]:List Nat)) m1 .no d w []:=⟨aj.frame (λx o r z=>⟨⟨r,by simp⟩,z⟩) _ _ r1,rfl⟩;by_cases f:ay d=true
  .refine ⟨w,m1,[],rfl,kp,?_,QD,by simp⟩;unfold bS;rw[LF f];exact r1.flat d w f
  .unfold bS;rw[LG f];split
   .next i=>
    have hdi:de[i]?=some (some d):=by
     exact ut z
    obtain⟨l,hl⟩:=I.getlv hdi;obtain⟨w',he,ro⟩:=I.slot i d l hdi hl;rw[x5 he m]at h2;cases h2;rw[hl];refine⟨_,_,A i,rfl,kp,?_,I.nd i,λb hb=>(I.bd i b hb).1⟩;exact ro.frame (λx o r z=>⟨⟨r.1,r.2 i⟩,z⟩) (λ_ _ _ z=>z)
   .next a b=>
    split
    .next c=>
     obtain⟨hab,ha,hb⟩:=c;have:∃da db,de[a]?=some (some da)/\de[b]?=some (some db)/\d=.tup [da,db]:=by
      have hz:aq cd (.tup (.pair (.var a) (.pair (.var b) .unit))) de=((aq cd (.var a) de).bind λx=>((aq cd (.var b) de).bind λy=>.ok (.tup [y])).bind λy=>.ok (.tup (x::zT y))).bind λx=>if(zT x).length<=au then .ok (.tup (zT x))else .no:=rfl;rw[hz]at z;cases q1:de[a]? with
      |none=>rw[xi (.inl q1)]at z;cases z
      |some o=>cases o with
       |none=>rw[xi (.inr q1)]at z;cases z
       |some da=>
        rw[wU q1]at z;cases q2:de[b]? with
        |none=>rw[xi (.inl q2)]at z;cases z
        |some o=>cases o with
         |none=>rw[xi (.inr q2)]at z;cases z
         |some db=>
          rw[wU q2]at z;simp[Rd.bind,zT,au]at z;exact⟨da,db,rfl,rfl,z.symm⟩
     obtain⟨da,db,h3,h4,rfl⟩:=this;obtain⟨wa,ea,oa⟩:=I.slot a da .full h3 ha;obtain⟨wb,eb,ob⟩:=I.slot b db .full h4 hb;have hw:af cl (.tup (.pair (.var a) (.pair (.var b) .unit))) env m=.ok (.tup [wa,wb]) m:=by
      show(((af cl (.var a) env m).bind λx m1=>((af cl (.var b) env m1).bind λy m2=>.ok (.tup [y]) m2).bind λy m2=>.ok (.tup (x::zq y)) m2).bind λx m1=>if(zq x).length<=au then .ok (.tup (zq x)) m1 else .no)=_;rw[x5 ea m];simp only[Rz.bind];rw[x5 eb m];simp[zq,au]
     rw[hw]at h2;cases h2;refine⟨_,_,A a++(A b++[]),rfl,kp,bv.mpr ⟨_,rfl,.cons oa (.cons ob .nil)⟩,?_,?_⟩
     .rw[QU];exact Qr.mpr ⟨I.nd a,I.nd b,λx hx y hy e=>hab (I.dj a b x hx (by rw[e];exact hy))⟩
     .intro x hx;rw[QU]at hx;rcases Qy.mp hx with q|q
      .exact (I.bd a x q).1
      .exact (I.bd b x q).1
    .exact ⟨w,m1,[],rfl,kp,no,QD,by simp⟩
   .obtain ⟨B,ro,nd,hB⟩:=I.own H z h2;exact⟨w,m1,B,rfl,kp,ro,nd,λb hb=>Qo I.lom (hB b hb)⟩
set_option tactic.hygienic true in
theorem wV(H:bt lev cl cd):∀(s:Sm) (m:Me) (de:aN) (lv:List Lv) (env:En) (A:Nat->List Nat),Inv lo RR m de lv env A->aD lo RR A m (aI cl s env m) (aH lev cd s de lv)
 |.skip,m,de,lv,env,A,I=>by show aD _ _ _ _ (.next env m) (.next de lv);exact⟨env,m,A,rfl,I,bg.refl A m⟩
 |.seq a b,m,de,lv,env,A,I=>by
  have h:=wV H a m de lv env A I;rw[tL];show aD _ _ _ _ (match aI cl a env m with
   |.next e1 m1=>aI cl b e1 m1
   |r=>r) _
  cases z:aH lev cd a de lv with
  |next d1 l1=>
   rw[z]at h;obtain⟨e1,m1,A1,h1,I1,K1⟩:=h;rw[h1];exact aD.keep K1 (wV H b m1 d1 l1 e1 A1 I1)
  |cont d1 l1=>
   rw[z]at h;obtain⟨e1,m1,A1,h1,I1,K1⟩:=h;rw[h1];exact⟨e1,m1,A1,rfl,I1,K1⟩
  |brk d1 l1=>
   rw[z]at h;obtain⟨e1,m1,A1,h1,I1,K1⟩:=h;rw[h1];exact⟨e1,m1,A1,rfl,I1,K1⟩
  |ret d l=>
   rw[z]at h;obtain⟨w,m1,B,h1,k⟩:=h;rw[h1];exact⟨w,m1,B,rfl,k⟩
  |exc c d=>
   rw[z]at h;obtain⟨w,e,m1,h1,k⟩:=h;rw[h1];exact⟨w,e,m1,rfl,k⟩
  |no=>trivial
 |.asg i e,m,de,lv,env,A,I=>Ef H I i e
 |.for3 _ _ _ _ _,m,de,lv,env,A,I=>by exact trivial
 |.asgS o k e,m,de,lv,env,A,I=>by
  cases o with
  |var j=>exact FD H I j k e
  |idx a r=>
   cases a with
   |var j=>exact FC H I j r k e
   |_=>exact trivial
  |_=>exact trivial
 |.ite c a b,m,de,lv,env,A,I=>by
  refine I.bindE H.r c λd w m1 _ _ l1 r1=>?_;cases d with
  |bl t=>
   rw[ah.mp r1];cases t with
   |true=>exact wV H a m1 de lv env A (I.ext l1)
   |false=>exact wV H b m1 de lv env A (I.ext l1)
  |_=>trivial
 |.forv i it body,m,de,lv,env,A,I=>by
  refine tG H (λx w m de lv env A I r=>?_) I it;obtain⟨I1,K1⟩:=I.bindSlot i r;exact aD.keep K1 (wV H body _ _ _ _ _ I1)
 |.fort i j it body,m,de,lv,env,A,I=>by
  refine tG H (λx w m de lv env A I r=>?_) I it;split
  .next a b=>
   obtain⟨xs,rfl,r1⟩:=ai.mp r;obtain⟨x,r2,rfl,ra,rb⟩:=r1.cons_inv;obtain⟨y,r3,rfl,rb,rn⟩:=rb.cons_inv;rw[rn.nil_inv];obtain⟨I1,K1⟩:=I.bindSlot i ra;obtain⟨I2,K2⟩:=I1.bindSlot j (K1.rep rb);exact aD.keep (K1.trans K2) (wV H body _ _ _ _ _ I2)
  .trivial
 |.appPop j a x e,m,de,lv,env,A,I=>Hr H I j a x e
 |.while c body,m,de,lv,env,A,I=>by
  refine kR (λm de lv env A I=>?_) (λm de lv env A I=>wV H body m de lv env A I) _ m de lv env A I;have h:=zj H.r c RR m de env (I.envR _);cases z:aq cd c de with
  |no=>trivial
  |ok d=>rw[z]at h;obtain⟨w,m1,h1,l1,r1⟩:=h;exact⟨w,m1,h1,l1,I.rf r1⟩
  |exc k d=>rw[z]at h;obtain⟨w,m1,h1,l1,r1⟩:=h;exact⟨w,m1,h1,l1,I.rf r1⟩
 |.ret e,m,de,lv,env,A,I=>Ec H I e
 |.expr e,m,de,lv,env,A,I=>by
  have dflt:aD lo RR A m (aI cl (.expr e) env m) ((aq cd e de).bindS λ_=>.next de lv):=by
   exact I.bindE H.r e λd w m1 _ _ l1 _=>⟨env,m1,A,rfl,I.ext l1,bg.refl A m1⟩
  by_cases q:∃n o a,e=.meth n o a
  .obtain ⟨n,o,a,rfl⟩:=q;have hap:=λj e=>FI H I j e;have hai:=λj r e=>FE H I j r e;have hin:=λj e=>FG H I j e;have hrv:=λj=>FF (cl:=cl) (cd:=cd) (lev:=lev) I j;have hpo:=λj=>FB (cl:=cl) (cd:=cd) (lev:=lev) I j;show aD _ _ _ _ _ (fR lev cd (.meth n o a) de lv);unfold fR;split
   .next h=>cases h;exact hap _ _
   .next h=>cases h;exact hai _ _ _
   .next h=>cases h;exact hin _ _
   .next h=>cases h;exact hrv _
   .next h=>cases h;exact hpo _
   .trivial
   .next h=>first|exact(h _ _ _ rfl).elim|exact(h _ _ _).elim|exact LH rfl h
  .show aD _ _ _ _ _ (fR lev cd e de lv);unfold fR;split
   .exact LH ⟨_,_,_,rfl⟩ q
   .exact LH ⟨_,_,_,rfl⟩ q
   .exact LH ⟨_,_,_,rfl⟩ q
   .exact LH ⟨_,_,_,rfl⟩ q
   .exact LH ⟨_,_,_,rfl⟩ q
   .exact LH ⟨_,_,_,rfl⟩ q
   .exact dflt
 |.never,m,de,lv,env,A,I=>by exact trivial
end
def gN{α β:Type}(f:α->β)(z:β)(xs:List α)(n i:Nat):(xs.map f++Qu n z)[i]?=if i<xs.length then(xs[i]?).map f else if i<xs.length+n then some z else none:=by
 rw[List.getElem?_append,Qw];split
 .rw[Qs]
 .rw[WB];by_cases h:i-xs.length<n
  .rw[LF h,LF (by lia)]
  .rw[LG h,LG (by lia)]
set_option tactic.hygienic true in
def He (fn:Fn)(h:ae R m ds ws):Inv m.length (Rf R m.length) m (zQ fn ds) (zP fn ds) (yo fn ws) (λ_=>[]):=by
 have hl:=h.len;refine⟨?_,?_,λl hl=>.inr hl,Ql _,?_,λ_=>QD,(λ_ _ _ h=>by cases h),(λ_ _ h=>by cases h)⟩
 .simp[zQ,yo,hl]
 .simp[zQ,zP]
 .intro i d l h1 h2;unfold zQ at h1;unfold zP at h2;rw[gN]at h1 h2;by_cases hi:i<ds.length
  .rw[LF hi]at h1 h2;obtain⟨d',e1,e2⟩:=QK.mp h1;cases e2;rw[e1]at h2;cases h2;obtain⟨w,hw,r⟩:=h.get e1;refine⟨w,?_,?_⟩
   .unfold yo;rw[gN,LF (by lia),hw];rfl
   .unfold bu;split
    .next f=>exact r.flat d w f
    .exact ⟨aj.frame (λx o r z=>⟨⟨.inl r,λ_ h=>by cases h⟩,z⟩) _ _ r,rfl⟩
  .rw[LG hi]at h1;split at h1<;>cases h1
set_option tactic.hygienic true in
def Ea (H:bt lev cl cd)(k:Nat)(fn:Fn)(ds:List Dat)(ws:List Wd)(R:Nat->Prop)(m:Me)(h:ae R m ds ws):aL R m (wd lev k) (y4 cl fn ws m) (zF lev cd k fn ds):=by
 unfold y4 zF;rw[h.len];split
 .have s:=wV H fn.body m _ _ _ _ (He fn h);cases z:aH lev cd fn.body (zQ fn ds) (zP fn ds)with
  |next d1 l1=>
   rw[z]at s;obtain⟨e1,m1,A1,h1,I1,K1⟩:=s;rw[h1];refine⟨.non,m1,[],rfl,λl o q=>(K1.1 l o (λ_ h=>by cases h) q).2,?_,QD,by simp⟩;unfold wd bD bh;simp[ay]
  |ret d l=>
   rw[z]at s;obtain⟨w,m1,B,h1,⟨kp,_⟩,ro,nd,hB⟩:=s;rw[h1];have le:Le m m1:=λl o q=>kp l o (λ_ h=>by cases h) q;show aL R m (wd lev k) (.ok w m1) (if ay d || zax l (lev k)then .ok d else .no);split
   .next c=>
    by_cases f:ay d=true
    .refine ⟨w,m1,[],rfl,le,?_,QD,by simp⟩;unfold wd;rw[LF f];exact(ro.rep (R':=λ_=>True) (λ_ _=>trivial) (λ_ _=>trivial)).flat d w f
    .have g:zax l (lev k)=true:=by simpa [f]using c
     unfold aL wd;simp only[LG f];cases e:lev k with
     |no=>
      refine⟨w,m1,[],rfl,le,⟨?_,rfl⟩,QD,by simp⟩;exact ro.rep (λx r=>⟨r.1,by simp⟩) (λb hb=>⟨.inr (hB b hb),by simp⟩)
     |top=>
      rw[e]at g;cases l with
      |top=>exact⟨w,m1,B,rfl,le,ro,nd,hB⟩
      |no=>cases g
      |full=>cases g
     |full=>
      rw[e]at g;cases l with
      |full=>exact⟨w,m1,B,rfl,le,ro,nd,hB⟩
      |no=>cases g
      |top=>cases g
   .trivial
  |exc c d=>
   rw[z]at s;obtain⟨w,e,m1,h1,⟨kp,_⟩,r⟩:=s;rw[h1];exact⟨w,m1,rfl,λl o q=>kp l o (λ_ h=>by cases h) q,r⟩
  |brk _ _=>trivial
  |cont _ _=>trivial
  |no=>trivial
 .trivial
theorem v9(lev:Nat->Lv)(T:List Fn):∀d:Nat,bt lev (zZ T d) (gM lev T d)
 |0=>λk ds ws R m h=>trivial
 |d+1=>λk ds ws R m h=>by
  unfold zZ gM;cases T[k]? with
  |none=>trivial
  |some fn=>exact Ea (v9 lev T d) k fn ds ws R m h
section
variable(lev:Nat->Lv)(cl:Nat->List Dat->Rd)(de:aN)(lv:List Lv)
@[simp]theorem aM(d:Dat)(f:Dat->Rd):(Rd.ok d).bind f=f d:=rfl
@[simp]theorem bo(d:Dat)(f:Dat->bO):(Rd.ok d).bindS f=f d:=rfl
@[simp]theorem im(d:Dat)(f:Dat->bO):(Rd.ok d).okS f=f d:=rfl
@[simp]theorem zd(i:Int):aq cl (.lit (.int i)) de=.ok (.int i):=rfl
@[simp]theorem gO(i:Bool):aq cl (.lit (.bl i)) de=.ok (.bl i):=rfl
@[simp]theorem xT:aq cl (.lit .non) de=.ok .non:=rfl
@[simp]theorem JI(s:List Nat):aq cl (.lit (.str s)) de=.ok (.str s):=rfl
@[simp]theorem zI(op:Bo)(a b:Ex):aq cl (.bin op a b) de=(aq cl a de).bind λx=>(aq cl b de).bind λy=>yW op x y:=rfl
@[simp]theorem zC(op:Co)(a b:Ex):aq cl (.cmp op a b) de=(aq cl a de).bind λx=>(aq cl b de).bind λy=>yH op x y:=rfl
@[simp]theorem zl:aq cl .unit de=.ok (.tup []):=rfl
@[simp]theorem zm(a b:Ex):aq cl (.pair a b) de=(aq cl a de).bind λx=>(aq cl b de).bind λy=>.ok (.tup (x::zT y)):=rfl
@[simp]theorem zG(k:Nat)(a:Ex):aq cl (.call k a) de=(aq cl a de).bind λx=>cl k (zT x):=rfl
@[simp]theorem zS(b:dW)(a:Ex):aq cl (.blt b a) de=(aq cl a de).bind λx=>y6 b (zT x):=rfl
@[simp]theorem xw(t:Tg)(a:Ex):aq cl (.isi t a) de=(aq cl a de).bind λx=>.ok (.bl (cn t x)):=rfl
@[simp]theorem zJ(a b:Ex):aq cl (.idx a b) de=(aq cl a de).bind λx=>(aq cl b de).bind λy=>yl x y:=rfl
@[simp]theorem vI(a:Ex):aq cl (.lst a) de=(aq cl a de).bind λx=>yB (zT x):=rfl
@[simp]theorem IM(a:Ex):aq cl (.tup a) de=(aq cl a de).bind λx=>if(zT x).length<=au then .ok (.tup (zT x))else .no:=rfl
@[simp]theorem xU(a b c:Ex):aq cl (.rng a b c) de=(aq cl a de).bind λx=>(aq cl b de).bind λy=>(aq cl c de).bind λz=>vV x y z:=rfl
@[simp]theorem za(d:Dat)(r:aN):aq cl (.var 0) (some d::r)=.ok d:=rfl
@[simp]theorem ze(i:Nat)(d:Option Dat)(r:aN):aq cl (.var (i+1)) (d::r)=aq cl (.var i) r:=rfl
@[simp]theorem wI(a:Ex):aq cl (.neg a) de=(aq cl a de).bind λx=>match x with
  |.int i=>.ok (.int (-i))
  |_=>.no:=rfl
@[simp]theorem we(a:Ex):aq cl (.not a) de=(aq cl a de).bind λx=>match x with
  |.bl b=>.ok (.bl (! b))
  |_=>.no:=rfl
@[simp]theorem sP(a b:Ex):aq cl (.and a b) de=(aq cl a de).bind λx=>match x with
  |.bl true=>aq cl b de
  |.bl false=>.ok (.bl false)
  |_=>.no:=rfl
@[simp]theorem kc(a b:Ex):aq cl (.or a b) de=(aq cl a de).bind λx=>match x with
  |.bl false=>aq cl b de
  |.bl true=>.ok (.bl true)
  |_=>.no:=rfl
@[simp]theorem JF(p q:Co)(a b c:Ex):aq cl (.chain p q a b c) de=(aq cl a de).bind λx=>(aq cl b de).bind λy=>(yH p x y).bind λz=>match z with
  |.bl true=>(aq cl c de).bind λu=>yH q y u
  |.bl false=>.ok (.bl false)
  |_=>.no:=rfl
@[simp]theorem sO(a hi:Ex):aq cl (.slH a hi) de=(aq cl a de).bind λx=>(aq cl hi de).bind λy=>match y with
  |.int i=>dD x none (some i)
  |_=>.no:=rfl
@[simp]theorem D9(a:Ex):aq cl (.lrng a) de=(aq cl a de).bind λx=>match x with
  |.int j=>if -au<=j/\j<=au then yB (yC 0 1 j.toNat)else .no
  |_=>.no:=rfl
def yy(elt it cond:Ex):aq cl (.comp elt it cond) de=(aq cl it de).bind λx=>match cA x with
  |some xs=>yD (λx=>aq cl cond (de++[some x])) (λx=>aq cl elt (de++[some x])) xs []
  |none=>.no:=rfl
@[simp]theorem IL(a b:Int):cW (.int a) (.int b)=decide (a=b):=rfl
@[simp]theorem IK(a b:Bool):cW (.bl a) (.bl b)=(a==b):=rfl
@[simp]theorem IJ(a b:List Nat):cW (.str a) (.str b)=decide (a=b):=rfl
@[simp]theorem Jo(a b:List Dat):cW (.tup a) (.tup b)=cb a b:=rfl
@[simp]theorem sN(a b:List Dat):cW (.lst a) (.lst b)=cb a b:=rfl
@[simp]theorem JE(k:Nat)(a:Int):yG (k+1) (.int a)=true:=rfl
@[simp]theorem Ji(k:Nat)(a:Bool):yG (k+1) (.bl a)=true:=rfl
@[simp]theorem JD(k:Nat)(a:List Nat):yG (k+1) (.str a)=true:=rfl
@[simp]theorem JC(k:Nat):yG (k+1) .non=true:=rfl
@[simp]theorem FX(k:Nat)(a:List Dat):yG (k+1) (.tup a)=bq k a:=rfl
@[simp]theorem jU(k:Nat)(a:List Dat):yG (k+1) (.lst a)=bq k a:=rfl
@[simp]theorem Hd(k:Nat):bq k []=true:=rfl
@[simp]theorem Hq(k:Nat)(d:Dat)(a:List Dat):bq k (d::a)=(yG k d&&bq k a):=rfl
theorem vn(k:Nat):∀(a:List Dat),bq k a=a.all (yG k)
 |[]=>by simp
 |d::a=>by simp[vn k a]
@[simp]theorem tF:yJ=11+1:=rfl
@[simp]theorem AW(i j:Int):yH .lt (.int i) (.int j)=.ok (.bl (decide (i<j))):=rfl
@[simp]theorem AX(i j:Int):yH .le (.int i) (.int j)=.ok (.bl (decide (i<=j))):=rfl
@[simp]theorem rJ(i j:Int):yH .gt (.int i) (.int j)=.ok (.bl (decide (j<i))):=rfl
@[simp]theorem B7(i j:Int):yH .ge (.int i) (.int j)=.ok (.bl (decide (j<=i))):=rfl
@[simp]theorem xj(i j:Int):yH .eq (.int i) (.int j)=.ok (.bl (decide (i=j))):=rfl
@[simp]theorem iJ(i j:Int):yH .ne (.int i) (.int j)=.ok (.bl (! decide (i=j))):=rfl
@[simp]theorem Jn(i j:Bool):yH .eq (.bl i) (.bl j)=.ok (.bl (i==j)):=rfl
@[simp]theorem Jm(i j:Bool):yH .ne (.bl i) (.bl j)=.ok (.bl (!(i==j))):=rfl
@[simp]theorem yp(i j:Int):yW .add (.int i) (.int j)=.ok (.int (i+j)):=rfl
@[simp]theorem y9(i j:Int):yW .sub (.int i) (.int j)=.ok (.int (i-j)):=rfl
def wJ(i j:Int)(h:yx i=true):yW .mul (.int i) (.int j)=.ok (.int (i*j)):=by simp[yW,h]
def D8(i j:Int)(h:yx j=true):yW .mul (.int i) (.int j)=.ok (.int (i*j)):=by simp[yW,h]
def qE(i j:Int)(h:0<j)(k:j<1073741824):yW .fdiv (.int i) (.int j)=.ok (.int (i/j)):=by simp[yW,h,k]
def wW(i j:Int)(h:0<j):yW .mod (.int i) (.int j)=.ok (.int (i%j)):=by simp[yW,h]
def B8(i j:Int)(h:0<=j/\j<=1000000/\yx i=true):yW .pow (.int i) (.int j)=.ok (.int (i^j.toNat)):=by simp only[yW];rw[LF h]
def jV (h:-18446744073709551616<i)(k:i<18446744073709551616):yx i=true:=by unfold yx cv;simp[h,k]
@[simp]theorem zi(xs:List Dat):zT (.tup xs)=xs:=rfl
@[simp]theorem qF(xs:List Dat):y6 .len [.lst xs]=.ok (.int xs.length):=rfl
@[simp]theorem D7(xs:List Dat):y6 .len [.tup xs]=.ok (.int xs.length):=rfl
@[simp]theorem Jh(ns:List Int):y6 .len [.scr ns]=.ok (.int ns.length):=by simp[y6,wc]
@[simp]theorem Jl(b:Bool):y6 .int [.bl b]=.ok (.int (b2i b)):=rfl
def kS (h:xs.length<=au):yB xs=.ok (.lst xs):=by unfold yB;rw[LF h]
def qG (h:i<n):ix n (i:Int)=some i:=by unfold ix;rw[LF (by lia),LF (by lia)];simp
def D6 (h:0<n):ix n (-1)=some (n-1):=by unfold ix;rw[LG (by lia),LF (by lia)];congr 1;lia
def ke {i:Nat}(h:xs[i]?=some d):yl (.lst xs) (.int (i:Int))=.ok d:=by
 have:=(Qa.mp h).1;simp[yl,wc,qG this,h]
def Hc (h:xs[xs.length-1]?=some d):yl (.lst xs) (.int (-1))=.ok d:=by
 have:=(Qa.mp h).1;simp[yl,wc,D6 (show 0<xs.length by lia),h]
def wX {a b:Int}(h:-au<=a/\a<=au/\-au<=b/\b<=au/\(c=1\/c=-1\/c=-2)):vV (.int a) (.int b) (.int c)=.ok (.tup (yC a c (vt a b c))):=by
 simp only[vV];rw[LF h]
@[simp]theorem wu(a c:Int)(n:Nat):(yC a c n).length=n:=by simp[yC]
def xV(a c:Int)(n i:Nat)(h:i<n):(yC a c n)[i]?=some (.int (a+c*(i:Int))):=by
 simp[yC,h]
@[simp]theorem xa(a c:Int):∀(n:Nat),aW (yC a c n)=true:=by
 intro n;unfold yC;generalize QI n=l
 induction l with
 |nil=>rfl
 |cons x l ih=>simp[aW,ay,ih]
@[simp]theorem xW(xs:List Dat):ay (.tup xs)=aW xs:=by rw[ay]
@[simp]theorem jW(xs:List Dat):ay (.lst xs)=false:=by rw[ay]
@[simp]theorem JB(i:Int):ay (.int i)=true:=by rw[ay]
@[simp]theorem Jg(i:Bool):ay (.bl i)=true:=by rw[ay]
@[simp]theorem JA:ay .non=true:=by rw[ay]
@[simp]theorem Jz(s:List Nat):ay (.str s)=true:=by rw[ay]
@[simp]theorem Jy(s:List Int):ay (.scr s)=true:=by rw[ay]
@[simp]theorem JJ:aW []=true:=by rw[aW]
@[simp]theorem JH(d:Dat)(ds:List Dat):aW (d::ds)=(ay d&&aW ds):=by rw[aW]
@[simp]theorem JG(l:List Int):aW (l.map Dat.int)=true:=by
 induction l with
 |nil=>rfl
 |cons x l ih=>simp[ih]
@[simp]theorem xx(xs:List Dat):cA (.tup xs)=some xs:=rfl
@[simp]theorem Jk(xs:List Int):cA (.scr xs)=some (xs.map .int):=rfl
def wf (h:xs.length<=au):cA (.lst xs)=some xs:=by simp[cA,h]
@[simp]theorem yY:aH lev cl .skip de lv=.next de lv:=rfl
@[simp]theorem yL(e:Ex):aH lev cl (.ret e) de lv=(aq cl e de).bindS λd=>.ret d (bS lev e d lv):=rfl
@[simp]theorem zM(i:Nat)(e:Ex):aH lev cl (.asg i e) de lv=(aq cl e de).bindS λd=>jm lev i e d de lv:=rfl
@[simp]theorem zX(c:Ex)(a b:Sm):aH lev cl (.ite c a b) de lv=(aq cl c de).bindS λx=>match x with
  |.bl true=>aH lev cl a de lv
  |.bl false=>aH lev cl b de lv
  |_=>.no:=rfl
def zO {lev:Nat->Lv}{de:aN}{lv:List Lv}(h:ay d=true):jm lev i e d de lv=.next (de.set i (some d)) (lv.set i .full):=by
 unfold jm;rw[LF (xS lev e d h)]
def xl {lev:Nat->Lv}{de:aN}{lv:List Lv}(h:aZ lev e d=.full):jm lev i e d de lv=.next (de.set i (some d)) (lv.set i .full):=by
 unfold jm;rw[LF h]
theorem wv:∀(xs:List α) (acc:List Dat),(∀x∈xs,c x=.ok (.bl true))->(∀x∈xs,e x=.ok (g x))->acc.length+xs.length<=au->yD c e xs acc=.ok (.lst (acc++xs.map g))
 |[],acc,_,_,h=>by unfold yD;rw[kS (by simpa using h)];simp
 |x::xs,acc,hc,he,h=>by
  unfold yD;simp only[Wh]at h;rw[hc x (by simp)];simp only[aM];rw[he x (by simp)];simp only[aM];rw[LF (by lia),wv xs (acc++[g x]) (λy hy=>hc y (by simp[hy])) (λy hy=>he y (by simp[hy])) (by simp;lia)];simp
def ww {body:α->aN->List Lv->bO}(P:Nat->aN->List Lv->Prop)(xs:List α){de:aN}{lv:List Lv}(h0:P 0 de lv)(hs:∀(i:Nat) x de lv,xs[i]?=some x->P i de lv->∃de' lv',body x de lv=.next de' lv'/\P (i+1) de' lv'):∃de' lv',yI body xs de lv=.next de' lv'/\P xs.length de' lv':=by
 induction xs generalizing P de lv with
 |nil=>exact⟨de,lv,rfl,h0⟩
 |cons x xs ih=>
  obtain⟨d1,l1,e1,p1⟩:=hs 0 x de lv rfl h0;unfold yI;rw[e1];exact ih (λi=>P (i+1)) p1 (λi y de lv hy hp=>hs (i+1) y de lv (by simpa using hy) hp)
def zk (P:Nat->aN->List Lv->Prop)(Q:Dat->Lv->Prop)(xs:List Dat){de:aN}{lv:List Lv}(h0:P 0 de lv)(hs:∀(i:Nat) x de lv,xs[i]?=some x->P i de lv->(∃de' lv',body x de lv=.next de' lv'/\P (i+1) de' lv')\/∃d l,body x de lv=.ret d l/\Q d l):
  (∃de' lv',yI body xs de lv=.next de' lv'/\P xs.length de' lv')\/∃d l,yI body xs de lv=.ret d l/\Q d l:=by
 induction xs generalizing P de lv with
 |nil=>exact .inl ⟨de,lv,rfl,h0⟩
 |cons x xs ih=>
  rcases hs 0 x de lv rfl h0 with⟨d1,l1,e1,p1⟩|⟨d,l,e1,q⟩
  .unfold yI;rw[e1];exact ih (λi=>P (i+1)) p1 (λi y de lv hy hp=>hs (i+1) y de lv (by simpa using hy) hp)
  .right
   unfold yI;rw[e1];exact⟨d,l,rfl,q⟩
end
namespace Lib
section
variable{lev:Nat->Lv}{cl:Nat->List Dat->Rd}{k:Nat}
noncomputable def isInt:Dat->Bool
 |.int _=>true
 |_=>false
noncomputable def kT:Fn:=⟨1,1,(.ret (.and (.isi .int (.var 0)) (.not (.isi .bool (.var 0)))))⟩
def gP(d:Dat):zF lev cl k kT [d]=.ok (.bl (isInt d)):=by
 cases d<;>simp[zF,kT,zQ,zP,zK,cn,isInt,bS]
theorem jX(p:Dat->Bool):∀xs:List Dat,jS (xs.map λx=>.bl (p x))=some (xs.all p)
 |[]=>rfl
 |x::xs=>by
  simp only[Wg,Wp,jS,jX p xs,QN]
noncomputable def fU:Dat->Bool
 |.scr _=>false
 |_=>true
end
end Lib
section
variable(lev:Nat->Lv)(cl:Nat->List Dat->Rd)(de:aN)(lv:List Lv)
@[simp]theorem tE(j:Nat)(e:Ex):aH lev cl (.expr (.meth .append (.var j) (.pair e .unit))) de lv=(aq cl e de).okS λd=>match xu de j with
   |some ds=>if ds.length<au then match wt lev e d j de lv with
    |some (de1,lv1)=>.next (de1.set j (some (.lst (ds++[d])))) lv1
    |none=>.no
    else .no
   |none=>.no:=rfl
@[simp]theorem Jf(j:Nat):aH lev cl (.expr (.meth .reverse (.var j) .unit)) de lv=match xu de j with
   |some ds=>if zW lv j then .next (de.set j (some (.lst ds.reverse))) lv else .no
   |none=>.no:=rfl
def vJ(i:Nat)(it:Ex)(body:Sm):aH lev cl (.forv i it body) de lv=(aq cl it de).bindS λd=>match cA d with
  |some xs=>yI (λx de lv=>aH lev cl body (de.set i (some x)) (lv.set i (bu x))) xs de (if ay d then lv else wG it de lv)
  |none=>.no:=rfl
def D5(i j:Nat)(it:Ex)(body:Sm):aH lev cl (.fort i j it body) de lv=(aq cl it de).bindS λd=>match cA d with
  |some xs=>yI (λx de lv=>match x with
    |.tup [a,b]=>aH lev cl body ((de.set i (some a)).set j (some b)) ((lv.set i (bu a)).set j (bu b))
    |_=>.no) xs de (if ay d then lv else wG it de lv)
  |none=>.no:=rfl
noncomputable def bO.then(r:bO)(f:aN->List Lv->bO):bO:=match r with
 |.next d l=>f d l
 |r=>r
@[simp]theorem zg(d:aN)(l:List Lv)(f:aN->List Lv->bO):(bO.next d l).then f=f d l:=rfl
@[simp]theorem kh(d:Dat)(l:Lv)(f:aN->List Lv->bO):(bO.ret d l).then f=.ret d l:=rfl
def zU (h:yE a b=none):aH lev cl (.seq a b) de lv=(aH lev cl a de lv).then (aH lev cl b):=by
 rw[tL];cases aH lev cl a de lv<;>rfl
def FW(a:Sm)(c d:Sm):yE a (.seq c d)=none:=rfl
@[simp]theorem zD(a:Sm)(c d:Sm):aH lev cl (.seq a (.seq c d)) de lv=(aH lev cl a de lv).then (aH lev cl (.seq c d)):=zU lev cl de lv (FW a c d)
def FV(a:Sm)(e:Ex):yE a (.ret e)=none:=rfl
@[simp]theorem wg(a:Sm)(e:Ex):aH lev cl (.seq a (.ret e)) de lv=(aH lev cl a de lv).then (aH lev cl (.ret e)):=zU lev cl de lv (FV a e)
def jY(a:Sm)(c:Ex)(x y:Sm):yE a (.ite c x y)=none:=rfl
@[simp]theorem qH(a:Sm)(c:Ex)(x y:Sm):aH lev cl (.seq a (.ite c x y)) de lv=(aH lev cl a de lv).then (aH lev cl (.ite c x y)):=zU lev cl de lv (jY a c x y)
def Hb(a:Sm)(i:Nat)(e:Ex)(x:Sm):yE a (.forv i e x)=none:=rfl
@[simp]theorem Je(a:Sm)(i:Nat)(e:Ex)(x:Sm):aH lev cl (.seq a (.forv i e x)) de lv=(aH lev cl a de lv).then (aH lev cl (.forv i e x)):=zU lev cl de lv (Hb a i e x)
def Ha(a:Sm)(i j:Nat)(e:Ex)(x:Sm):yE a (.fort i j e x)=none:=rfl
@[simp]theorem Jd(a:Sm)(i j:Nat)(e:Ex)(x:Sm):aH lev cl (.seq a (.fort i j e x)) de lv=(aH lev cl a de lv).then (aH lev cl (.fort i j e x)):=zU lev cl de lv (Ha a i j e x)
def Ho(a:Sm)(e:Ex)(x:Sm):yE a (.while e x)=none:=rfl
@[simp]theorem Jx(a:Sm)(e:Ex)(x:Sm):aH lev cl (.seq a (.while e x)) de lv=(aH lev cl a de lv).then (aH lev cl (.while e x)):=zU lev cl de lv (Ho a e x)
def FU(a:Sm)(i:Nat)(e:Ex):yE a (.asg i e)=none:=rfl
@[simp]theorem CL(a:Sm)(i:Nat)(e:Ex):aH lev cl (.seq a (.asg i e)) de lv=(aH lev cl a de lv).then (aH lev cl (.asg i e)):=zU lev cl de lv (FU a i e)
def G9(a:Sm)(o i e:Ex):yE a (.asgS o i e)=none:=rfl
@[simp]theorem Jc(a:Sm)(o i e:Ex):aH lev cl (.seq a (.asgS o i e)) de lv=(aH lev cl a de lv).then (aH lev cl (.asgS o i e)):=zU lev cl de lv (G9 a o i e)
def Gm(a:Sm)(e:Ex):yE a (.expr e)=none:=rfl
@[simp]theorem qI(a:Sm)(e:Ex):aH lev cl (.seq a (.expr e)) de lv=(aH lev cl a de lv).then (aH lev cl (.expr e)):=zU lev cl de lv (Gm a e)
def Gk(a:Sm): yE a .skip=none:=rfl
@[simp]theorem Jb(a:Sm): aH lev cl (.seq a .skip) de lv=(aH lev cl a de lv).then (aH lev cl .skip):=zU lev cl de lv (Gk a)
def Hn(a:Sm): yE a .never=none:=rfl
@[simp]theorem II(a:Sm): aH lev cl (.seq a .never) de lv=(aH lev cl a de lv).then (aH lev cl .never):=zU lev cl de lv (Hn a)
end
namespace Lib
section
noncomputable def row(r:List Int):Dat:=.lst (r.map .int)
noncomputable def aB(R:List (List Int)):Dat:=.lst (R.map row)
noncomputable def dw(d:Dat):Bool:=match d with
 |.lst xs=>xs.all fU
 |.scr _=>false
 |_=>true
noncomputable def je(t:Int)(b:Bool):Bool:=if b then ! decide (t=1)else !(decide (t=0) || decide (t=1))
end
end Lib
namespace Lib
section
noncomputable def S(R:List (List Int))(r c:Nat):Int:=((R.take r).map (λx=>x.getD c 0)).sum
def ac(R:List (List Int))(r c:Nat):Int:=((R.getD r []).take c).sum
noncomputable def lc(R:List (List Int))(r c:Nat):Bool:=je (ac R r (c+1)) (decide ((c:Int)=(R.length:Int)-1)) || je (S R (r+1) c) (decide ((r:Int)=(R.length:Int)-1))
noncomputable def Sq(R:List (List Int)):Prop:=∀r∈R,r.length=R.length
def ki {r:Nat}(h:R[r]?=some x):yl (aB R) (.int (r:Int))=.ok (row x):=ke (by simp[h])
def jp {c:Nat}(h:x[c]?=some v):yl (row x) (.int (c:Int))=.ok (.int v):=ke (by simp[h])
def mm(R:List (List Int))(r c:Nat)(x:List Int)(h:R[r]?=some x):S R (r+1) c=S R r c+x.getD c 0:=by
 unfold S;rw[Wq,h];simp
def CK (h:Sq R)(hr:r<R.length)(hc:c<R.length):∃x v,R[r]?=some x/\x[c]?=some v/\x.getD c 0=v:=by
 have hm:R[r]∈R:=QC hr;have hl:=h _ hm;refine⟨R[r],R[r][c],Qc hr,Qc (by lia),?_⟩;rw[Qd,Qc (by lia)];rfl
end
end Lib
namespace Lib
section
variable{lev:Nat->Lv}{cl:Nat->List Dat->Rd}{k:Nat}
noncomputable def fT:Fn:=⟨2,2,(.seq (.ite (.cmp .lt (.var 1) (.blt .len (.pair (.var 0) .unit))) (.ret (.idx (.var 0) (.var 1))) .skip) (.ret (.bin .add (.bin .mul (.lit (.int 2)) (.var 1)) (.lit (.int 1)))))⟩
def FT(ns:List Int)(i:Nat):∃c:Int,zF lev cl k fT [.scr ns,.int i]=.ok (.int c):=by
 by_cases h:i<ns.length
 .refine ⟨ns[i],?_⟩;have h1:yl (.scr ns) (.int (i:Int))=.ok (.int ns[i]):=by simp[yl,wc,qG h,h]
  simp[zF,fT,zQ,zP,zK,bS,h,h1]
 .refine ⟨2*i+1,?_⟩;simp[zF,fT,zQ,zP,zK,bS,h,wJ 2 i (by decide)]
noncomputable def dt(x:List Int):Prop:=∀i,i+1<x.length->x.getD i 0<x.getD (i+1) 0
noncomputable def fK(cv sm:List Int):Prop:=cv.length=sm.length+1/\∀i,i<sm.length->cv.getD i 0<=sm.getD i 0/\sm.getD i 0<=cv.getD (i+1) 0
def kj {x:List Int}(h:x[i]?=some v):x.getD i 0=v:=by rw[Qd,h];rfl
end
end Lib
namespace Lib
section
def x6 {v:Int}(h:i<x.length):(x++[v]).getD i 0=x.getD i 0:=by
 simp[Qd,Qq h]
def jf {v:Int}:(x++[v]).getD x.length 0=v:=by
 simp[Qd]
def qJ {v:List Int}(h:i<x.length):(x++[v]).getD i []=x.getD i []:=by
 simp[Qd,Qq h]
def xD {v:List Int}:(x++[v]).getD x.length []=v:=by
 simp[Qd]
def dt.app{x:List Int}{v:Int}(h:dt x)(hv:0<x.length->x.getD (x.length-1) 0<v):dt (x++[v]):=by
 intro i hi;simp only[Q0,Wh,Vp]at hi;by_cases z:i+1<x.length
 .rw[x6 (by lia),x6 z];exact h i z
 .have e:i+1=x.length:=by lia
  rw[x6 (by lia),e,jf];have:=hv (by lia)
  rwa[show x.length-1=i by lia]at this
noncomputable def yM(n:Nat):List Int:=(QI n).map λ(i:Nat)=>(i:Int)
def Hm(n:Nat):Dat.lst (yC 0 1 n)=row (yM n):=by
 unfold row yM yC;rw[Wi];congr 1;apply WH;intro i _;simp
structure cL(n:Nat)(L:List (List Int)):Prop where
 first:L.getD 0 []=yM n
 len:∀j,j<L.length->(L.getD j []).length+j=n
 inc:∀j,j<L.length->dt (L.getD j [])
 bd:∀j,j<L.length->∀i,i<(L.getD j []).length->0<=(L.getD j []).getD i 0/\(L.getD j []).getD i 0<n
 lace:∀j,j+1<L.length->fK (L.getD j []) (L.getD (j+1) [])
def vK (h:i<n):(yM n).getD i 0=i:=kj (by simp[yM,h])
def cL.one(n:Nat):cL n [yM n]:=by
 refine⟨rfl,?_,?_,?_,?_⟩
 .intro j hj;simp at hj;subst hj;simp[yM]
 .intro j hj i hi;simp at hj;subst hj;simp only[W9]at hi ⊢;have:i+1<n:=by simpa [yM]using hi
  rw[vK (by lia),vK this];lia
 .intro j hj i hi;simp at hj;subst hj;simp only[W9]at hi ⊢;have:i<n:=by simpa [yM]using hi
  rw[vK this];lia
 .intro j hj;simp at hj
def cL.app{n:Nat}{L:List (List Int)}{x:List Int}(h:cL n L)(hL:0<L.length)(hi:dt x)(hl:fK (L.getD (L.length-1) []) x):cL n (L++[x]):=by
 have e:=h.len (L.length-1) (by lia);have lt:∀{j},j<L.length->(L++[x]).getD j []=L.getD j []:=λhj=>qJ hj;refine⟨by rw[lt hL];exact h.first,?_,?_,?_,?_⟩
 .intro j hj;by_cases z:j<L.length
  .rw[lt z];exact h.len j z
  .have:j=L.length:=by simp at hj;lia
   subst this;rw[xD];have:=hl.1;lia
 .intro j hj;by_cases z:j<L.length
  .rw[lt z];exact h.inc j z
  .have:j=L.length:=by simp at hj;lia
   subst this;rw[xD];exact hi
 .intro j hj i hi';by_cases z:j<L.length
  .rw[lt z]at hi' ⊢;exact h.bd j z i hi'
  .have:j=L.length:=by simp at hj;lia
   subst this;rw[xD]at hi' ⊢;have h1:=hl.2 i hi';have h2:=h.bd (L.length-1) (by lia) i (by have:=hl.1;lia);have h3:=h.bd (L.length-1) (by lia) (i+1) (by have:=hl.1;lia);lia
 .intro j hj;simp only[Q0,Wh,Vp]at hj;by_cases z:j+1<L.length
  .rw[lt (by lia),lt z];exact h.lace j z
  .have e2:j+1=L.length:=by lia
   rw[lt (by lia),e2,xD]
   rwa[show L.length-1=j by lia]at hl
end
end Lib
namespace Lib
section
theorem xb {c e:β->Rd}{α:Type}(f:α->β)(g:α->Dat):∀(xs:List α) (acc:List Dat),(∀x∈xs,c (f x)=.ok (.bl true))->(∀x∈xs,e (f x)=.ok (g x))->acc.length+xs.length<=au->yD c e (xs.map f) acc=.ok (.lst (acc++xs.map g))
 |[],acc,_,_,h=>by unfold yD;rw[Vz];simp only;rw[kS (by simpa using h)];simp
 |x::xs,acc,hc,he,h=>by
  rw[Wg];unfold yD;simp only[Wh]at h;rw[hc x (by simp)];simp only[aM];rw[he x (by simp)];simp only[aM];rw[LF (by lia),xb f g xs (acc++[g x]) (λy hy=>hc y (by simp[hy])) (λy hy=>he y (by simp[hy])) (by simp;lia)];simp
def km (a s:Int)(n:Nat)(g:Nat->Dat)(hc:∀i,i<n->c (.int (a+s*(i:Int)))=.ok (.bl true))(he:∀i,i<n->e (.int (a+s*(i:Int)))=.ok (g i))(h:n<=au):yD c e (yC a s n) []=.ok (.lst ((QI n).map g)):=by
 unfold yC;rw[xb (λ(i:Nat)=>Dat.int (a+s*(i:Int))) g (QI n) [] (λi hi=>hc i (by simpa using hi)) (λi hi=>he i (by simpa using hi)) (by simpa using h)];simp
noncomputable def mem(x:List Int)(c:Int):Bool:=x.any (λv=>decide (v=c))
def FS(x:List Int)(c:Int):yH .isin (.int c) (row x)=.ok (.bl (mem x c)):=by
 have h:bq yJ (x.map Dat.int)=true:=by
  rw[vn];simp
 have h2:(x.map Dat.int).any (λy=>cW y (.int c))=mem x c:=by
  simp only[mem,List.any_map];congr 1
 simp only[yH,row,wc,fX];rw[h,h2];simp[qs]
noncomputable def wO(n:Nat)(x y:List Int):List Int:=(QI n).map λ(c:Nat)=>b2i (mem x c)-b2i (mem y c)
noncomputable def yi(X:List (List Int))(i:Nat):List Int:=if i=0 then[]else X.getD (i-1) []
noncomputable def sg(X:List (List Int)):List (List Int):=(QI X.length).map λi=>wO X.length (X.getD i []) (yi X i)
end
end Lib
namespace Lib
structure hU(n:Nat)(X:List (List Int)):Prop where
 len:X.length=n
 rlen:∀j,j<n->(X.getD j []).length=j+1
 inc:∀j,j<n->dt (X.getD j [])
 bd:∀j,j<n->∀i,i<j+1->0<=(X.getD j []).getD i 0/\(X.getD j []).getD i 0<n
 lace:∀j,j+1<n->fK (X.getD (j+1) []) (X.getD j [])
 last:X.getD (n-1) []=yM n
def hU.of{n:Nat}{L:List (List Int)}(hn:1<=n)(h:cL n L)(hl:L.length=n):hU n L.reverse:=by
 have g:∀j,j<n->L.reverse.getD j []=L.getD (n-1-j) []:=by
  intro j hj;rw[Qd,Qd,List.getElem?_reverse (by lia),hl]
 refine⟨by simp[hl],λj hj=>?_,λj hj=>?_,λj hj i hi=>?_,λj hj=>?_,?_⟩
 .rw[g j hj];have:=h.len (n-1-j) (by lia);lia
 .rw[g j hj];exact h.inc _ (by lia)
 .rw[g j hj];have:=h.len (n-1-j) (by lia);exact h.bd _ (by lia) i (by lia)
 .rw[g (j+1) hj,g j (by lia)];have:=h.lace (n-1-(j+1)) (by lia)
  rwa[show n-1-(j+1)+1=n-1-j by lia]at this
 .rw[g (n-1) (by lia),show n-1-(n-1)=0 by lia];exact h.first
def dt.lt (h:dt x):∀{i j:Nat},i<j->j<x.length->x.getD i 0<x.getD j 0:=by
 intro i j hij
 induction j with
 |zero=>lia
 |succ j ih=>
  intro hj;have h1:=h j hj;by_cases z:i=j
  .subst z;exact h1
  .have:=ih (by lia) (by lia);lia
def dt.nodup (h:dt x):x.Nodup:=by
 rw[List.Nodup,List.pairwise_iff_getElem];intro i j hi hj hij e;have:=h.lt hij hj;rw[kj (Qc hi),kj (Qc hj)]at this;lia
def D4 {x:List Int}(h:v∈x):∃i,i<x.length/\x.getD i 0=v:=by
 obtain⟨i,hi,e⟩:=List.getElem_of_mem h;exact⟨i,hi,kj (by rw[Qc hi,e])⟩
noncomputable def cnt(x:List Int)(c:Nat):Int:=((QI c).map λ(j:Nat)=>b2i (mem x j)).sum
noncomputable def low(x:List Int)(c:Nat):Int:=(x.map λ(v:Int)=>b2i (decide (v<(c:Int)))).sum
def jZ(x:List Int)(c:Nat):cnt x (c+1)=cnt x c+b2i (mem x c):=by
 simp[cnt,List.range_succ]
def EN(x:List Int)(nd:x.Nodup)(c:Nat):low x (c+1)=low x c+b2i (mem x c):=by
 induction x with
 |nil=>simp[low,mem,b2i]
 |cons v x ih=>
  obtain⟨hv,nd⟩:=QO.mp nd;have ih:=ih nd;have e1:low (v::x) (c+1)=b2i (decide (v<(c+1:Nat)))+low x (c+1):=by simp[low]
  have e2:low (v::x) c=b2i (decide (v<c))+low x c:=by simp[low]
  have e3:mem (v::x) c=(decide (v=c) || mem x c):=by simp[mem]
  rw[e1,e2,e3,ih];by_cases h:v=c
  .have:mem x c=false:=by
    rw[mem,List.any_eq_false];intro w hw;simp only[LL];intro e;exact hv (by rw[h,<-e];exact hw)
   rw[this];simp[h,b2i];lia
  .have:decide (v<(c+1:Nat))=decide (v<c):=by
    by_cases q:v<c
    .simp[q];lia
    .simp[q];lia
   rw[this];simp[h];lia
def EM (h:∀v∈x,0<=v):low x 0=0:=by
 induction x with
 |nil=>rfl
 |cons v x ih=>
  have e:low (v::x) 0=b2i (decide (v<(0:Nat)))+low x 0:=by simp[low]
  rw[e,ih (λw hw=>h w (by simp[hw]))];have:=h v (by simp);have:¬v<((0:Nat):Int):=by simp;lia
  rw[LC this];rfl
theorem jq (nd:x.Nodup)(h:∀v∈x,0<=v):∀c,cnt x c=low x c
 |0=>by rw[EM h];rfl
 |c+1=>by rw[jZ,EN x nd,jq nd h c]
def j4{x:List Int}{n:Nat}(h:∀v∈x,v<n):low x n=x.length:=by
 induction x with
 |nil=>rfl
 |cons v x ih=>
  have e:low (v::x) n=b2i (decide (v<n))+low x n:=by simp[low]
  rw[e,ih (λw hw=>h w (by simp[hw])),LJ (h v (by simp))];simp[b2i];lia
theorem ml:∀(sm cv:List Int),sm.length<=cv.length->(∀i,i<sm.length->cv.getD i 0<=sm.getD i 0)->low sm c<=low cv c
 |[],cv,_,_=>by
  have:∀x:List Int,0<=low x c:=by
   intro x
   induction x with
   |nil=>exact Int.le_refl _
   |cons v x ih=>
    have e:low (v::x) c=b2i (decide (v<c))+low x c:=by simp[low]
    rw[e];unfold b2i;split<;>lia
  exact this cv
 |s::sm,[],h,_=>by simp at h
 |s::sm,b::cv,h,q=>by
  have e1:low (s::sm) c=b2i (decide (s<c))+low sm c:=by simp[low]
  have e2:low (b::cv) c=b2i (decide (b<c))+low cv c:=by simp[low]
  have h0:=q 0 (by simp);simp only[W9]at h0;have ih:=ml (c:=c) sm cv (by simpa using h) (λi hi=>by simpa using q (i+1) (by simpa using hi));rw[e1,e2];have:b2i (decide (s<c))<=b2i (decide (b<c)):=by
   by_cases z:s<c
   .rw[LJ z,LJ (by lia)];exact Int.le_refl _
   .rw[LC z];unfold b2i;simp;split<;>lia
  lia
def EL {cv:List Int}(h:fK cv sm):low sm c<=low cv c/\low cv c<=low sm c+1:=by
 obtain⟨hl,h⟩:=h;refine⟨ml sm cv (by lia) (λi hi=>(h i hi).1),?_⟩;cases cv with
 |nil=>simp at hl
 |cons b bs=>
  have e2:low (b::bs) c=b2i (decide (b<c))+low bs c:=by simp[low]
  have:=ml (c:=c) bs sm (by simp at hl;lia) (λi hi=>by have:=(h i (by simp at hl;lia)).2;simpa using this);rw[e2];have:b2i (decide (b<c))<=1:=by unfold b2i;split<;>lia
  lia
def qK(X:List (List Int)):(sg X).length=X.length:=by simp[sg]
def mj (h:r<X.length):(sg X)[r]?=some (wO X.length (X.getD r []) (yi X r)):=by simp[sg,h]
def Gj(n:Nat)(x y:List Int):(wO n x y).length=n:=by simp[wO]
def Gi (x y:List Int)(h:c<n):(wO n x y).getD c 0=b2i (mem x c)-b2i (mem y c):=kj (by simp[wO,h])
def Gh (x y:List Int):∀{c:Nat},c<=n->((wO n x y).take c).sum=cnt x c-cnt y c:=by
 intro c hc
 induction c with
 |zero=>simp[cnt]
 |succ c ih=>
  rw[Wq,jZ,jZ,Vn,ih (by lia)];have:(wO n x y)[c]?=some (b2i (mem x c)-b2i (mem y c)):=by simp[wO,show c<n by lia]
  rw[this];simp;lia
def BD(X:List (List Int)):Sq (sg X):=by
 intro r hr;simp only[sg,QL]at hr;obtain⟨i,_,rfl⟩:=hr;rw[Gj,qK]
def nz (X:List (List Int))(hc:c<X.length):∀{r:Nat},r<=X.length->S (sg X) r c=b2i (mem (yi X r) c):=by
 intro r
 induction r with
 |zero=>intro _;simp[S,yi,mem,b2i]
 |succ r ih=>
  intro hr;rw[mm (sg X) r c _ (mj (by lia)),ih (by lia),Gi _ _ hc];have:yi X (r+1)=X.getD r []:=by simp[yi]
  rw[this];lia
def Hl (h:c<n):mem (yM n) c=true:=by
 rw[mem,WE];exact⟨c,QL.mpr ⟨c,by simpa using h,rfl⟩,by simp⟩
def CJ (h:hU n X)(hr:r<n)(hc:c<n):lc (sg X) r c=false:=by
 have hX:=h.len;have b01:∀b:Bool,b2i b=0\/b2i b=1:=by intro b;cases b<;>simp[b2i]
 have hbd:∀j,j<n->∀v∈X.getD j [],0<=v/\v<n:=by
  intro j hj v hv;obtain⟨i,hi,rfl⟩:=D4 hv;rw[h.rlen j hj]at hi;exact h.bd j hj i hi
 have hac:ac (sg X) r (c+1)=low (X.getD r []) (c+1)-low (yi X r) (c+1):=by
  unfold ac;rw[Qd,mj (by lia)];show((wO X.length (X.getD r []) (yi X r)).take (c+1)).sum=_;rw[Gh _ _ (by lia),jq (h.inc r hr).nodup (λv hv=>(hbd r hr v hv).1)];congr 1;unfold yi;split
  .exact jq QD (by simp) _
  .exact jq (h.inc _ (by lia)).nodup (λv hv=>(hbd _ (by lia) v hv).1) _
 have hrange:(ac (sg X) r (c+1)=0\/ac (sg X) r (c+1)=1)/\(c=n-1->ac (sg X) r (c+1)=1):=by
  rw[hac];by_cases z:r=0
  .subst z;have e:yi X 0=[]:=rfl;have e0:low (yi X 0) (c+1)=0:=rfl;have hl:(X.getD 0 []).length=1:=h.rlen 0 hr;have:low (X.getD 0 []) (c+1)=0\/low (X.getD 0 []) (c+1)=1:=by
    cases hx:X.getD 0 []with
    |nil=>rw[hx]at hl;cases hl
    |cons v x=>
     rw[hx]at hl;have:x=[]:=Vk (by simpa using hl);subst this;have:=b01 (decide (v<((c+1:Nat):Int)));simpa [low]using this
   refine⟨by lia,λec=>?_⟩;have hf:low (X.getD 0 []) (c+1)=(X.getD 0 []).length:=j4 (λv hv=>by have:=(hbd 0 hr v hv).2;lia);rw[hf,hl,e0];rfl
  .have e:yi X r=X.getD (r-1) []:=by simp[yi,z]
   have hla:=h.lace (r-1) (by lia);rw[show r-1+1=r by lia]at hla;have:=EL (c:=c+1) hla;rw[e];refine⟨by lia,λec=>?_⟩;have hf:low (X.getD r []) (c+1)=(X.getD r []).length:=j4 (λv hv=>by have:=(hbd r hr v hv).2;lia);have hg:low (X.getD (r-1) []) (c+1)=(X.getD (r-1) []).length:=j4 (λv hv=>by have:=(hbd (r-1) (by lia) v hv).2;lia);rw[hf,hg,h.rlen r hr,h.rlen (r-1) (by lia)];lia
 have hS:S (sg X) (r+1) c=b2i (mem (X.getD r []) c):=by
  rw[nz X (by lia) (by lia)];simp[yi]
 have hSr:(S (sg X) (r+1) c=0\/S (sg X) (r+1) c=1)/\(r=n-1->S (sg X) (r+1) c=1):=by
  rw[hS];refine⟨b01 _,λe=>?_⟩;rw[e,h.last,Hl hc];rfl
 have off:∀(t:Int) (b:Bool),(t=0\/t=1)->(b=true->t=1)->je t b=false:=by
  intro t b h1 h2;cases b with
  |true=>simp[je,h2 rfl]
  |false=>rcases h1 with h|h<;>simp[je,h]
 unfold lc;rw[W7];refine⟨off _ _ hrange.1 λe=>hrange.2 ?_,off _ _ hSr.1 λe=>hSr.2 ?_⟩
 .simp only[LL,qK]at e;lia
 .simp only[LL,qK]at e;lia
end Lib
namespace Lib
section
variable{lev:Nat->Lv}
def EK(e:Ex)(x:List Int)(he:∀i:Int,aZ lev e (.int i)=.full):(x.map Dat.int).all (λd=>aZ lev e d == .full)=true:=by
 rw[WK,QE];intro v _;simp[he]
end
end Lib
namespace Lib
section
theorem bB:∀(x:List Int),cb (x.map Dat.int) (x.map Dat.int)=true
 |[]=>rfl
 |v::x=>by simp[cb,bB x]
def CI(x:List Int):yH .ne (row x) (row x)=.ok (.bl false):=by
 have h:yG yJ (row x)=true:=by
  simp only[row,tF,jU];rw[vn];simp
 simp only[yH,dN,h,Bool.and_self,if_true];simp only[row,sN,bB];rfl
theorem u9:∀(x:List Int),qt (x.map Dat.int)=some x.sum
 |[]=>rfl
 |v::x=>by simp[qt,u9 x]
end
end Lib
namespace Lib
section
variable{lev:Nat->Lv}{cl:Nat->List Dat->Rd}{k:Nat}
noncomputable def lL:Sm:=(.seq (.expr (.meth .append (.var 2) (.pair (.bin .mod (.var 3) (.lit (.int 60))) .unit))) (.asg 3 (.bin .fdiv (.var 3) (.lit (.int 60)))))
noncomputable def lK:Ex:=(.bin .mod (.bin .add (.bin .add (.bin .mul (.var 0) (.bin .add (.lit (.int 48271)) (.bin .mul (.lit (.int 2)) (.var 4)))) (.bin .mul (.lit (.int 7919)) (.var 4))) (.lit (.int 5))) (.lit (.int 99991)))
noncomputable def lJ:Ex:=(.bin .mod (.bin .mul (.var 5) (.bin .add (.bin .add (.var 5) (.lit (.int 3))) (.bin .mul (.var 4) (.var 4)))) (.lit (.int 99989)))
noncomputable def lI:Sm:=(.seq (.asg 5 lK) (.expr (.meth .append (.var 2) (.pair lJ .unit))))
noncomputable def iw:Sm:=(.ite (.cmp .ge (.var 0) (.bin .pow (.lit (.int 10)) (.lit (.int 18)))) lL lI)
noncomputable def lH:Fn:=⟨2,6,(.seq (.asg 2 (.lst .unit)) (.seq (.asg 3 (.var 0)) (.seq (.forv 4 (.rng (.lit (.int 0)) (.var 1) (.lit (.int 1))) iw) (.ret (.var 2)))))⟩
def tD (hx:x.length<au)(de:aN)(lv:List Lv)(j:Nat)(he:aq cl e de=.ok (.int v))(hd:de[j]?=some (some (row x)))(hj:zW lv j=true):
  aH lev cl (.expr (.meth .append (.var j) (.pair e .unit))) de lv=.next (de.set j (some (row (x++[v])))) lv:=by
 rw[tE,he];simp only[im];have hls:xu de j=some (x.map Dat.int):=by simp[xu,hd,row]
 rw[hls];simp only[Qw];rw[LF hx];have hg:wt lev e (.int v) j de lv=some (de,lv):=by
  unfold wt;rw[LG (by simp[hj]),LF (xS lev e _ rfl)]
 rw[hg];simp[row]
def EJ (cell rest:Int)(m:Int)(hx:x.length<au)(t:Nat)(o5:Option Dat):
  aH lev cl lL [some (.int cell),some (.int m),some (row x),some (.int rest),some (.int t),o5] [.full,.full,.full,.full,.full,.full]=.next [some (.int cell),some (.int m),some (row (x++[rest%60])),some (.int (rest/60)),some (.int t),o5] [.full,.full,.full,.full,.full,.full]:=by
 have h1:=wW rest 60 (by decide);have h2:=qE rest 60 (by decide) (by decide);unfold lL;rw[CL,tD (v:=rest%60) hx _ _ 2 (by simp only[zI,zd,za,ze,aM,h1]) rfl rfl];simp only[zg,Qh,Qg,zM,zI,zd,za,ze,aM,h2,bo];rw[zO (by simp)];simp only[Qh,Qg]
def EI (cell rest m t:Int)(ht:-1<t)(ht':t<101)(o5:Option Dat):
  ∃one:Int,yx one=true/\aq cl lK [some (.int cell),some (.int m),some (row x),some (.int rest),some (.int t),o5]=.ok (.int one):=by
 have e1:yW .mul (.int 2) (.int t)=.ok (.int (2*t)):=wJ _ _ (by decide);have e2:yW .mul (.int 7919) (.int t)=.ok (.int (7919*t)):=wJ _ _ (by decide);have e3:yW .add (.int 48271) (.int (2*t))=.ok (.int (48271+2*t)):=yp _ _;have e4:yW .mul (.int cell) (.int (48271+2*t))=.ok (.int (cell*(48271+2*t))):=D8 _ _ (jV (by lia) (by lia));have e5:=yp (cell*(48271+2*t)) (7919*t);generalize cell*(48271+2*t)+7919*t=A at *
 have e6:=yp A 5;have e7:=wW (A+5) 99991 (by decide);have b1:0<=(A+5)%99991:=by lia
 have b2:(A+5)%99991<99991:=by lia
 refine⟨(A+5)%99991,jV (by lia) (by lia),?_⟩;unfold lK;simp only[zI,zd,za,ze,aM,e1,e2,e3,e4,e5,e6,e7]
def EH (cell rest m t one:Int)(ht:yx t=true)(ho:yx one=true):
  ∃v:Int,aq cl lJ [some (.int cell),some (.int m),some (row x),some (.int rest),some (.int t),some (.int one)]=.ok (.int v):=by
 have e1:=wJ t t ht;have e2:=yp one 3;have e3:=yp (one+3) (t*t);have e4:=wJ one (one+3+t*t) ho;have e5:=wW (one*(one+3+t*t)) 99989 (by decide);refine⟨(one*(one+3+t*t))%99989,?_⟩;unfold lJ;simp only[zI,zd,za,ze,aM,e1,e2,e3,e4,e5]
def EG (cell rest m t:Int)(hx:x.length<au)(ht:-1<t)(ht':t<101)(o5:Option Dat):
  ∃v o5',aH lev cl lI [some (.int cell),some (.int m),some (row x),some (.int rest),some (.int t),o5] [.full,.full,.full,.full,.full,.full]=.next [some (.int cell),some (.int m),some (row (x++[v])),some (.int rest),some (.int t),o5'] [.full,.full,.full,.full,.full,.full]:=by
 obtain⟨one,s5,hone⟩:=EI (cl:=cl) cell rest m t (x:=x) ht ht' o5;obtain⟨v,hv⟩:=EH (cl:=cl) cell rest m t one (x:=x) (jV (by lia) (by lia)) s5;refine⟨v,some (.int one),?_⟩;unfold lI;rw[qI,zM,hone,bo,zO (by simp)];simp only[zg,Qh,Qg];rw[tD (v:=v) hx _ _ 2 hv rfl rfl];simp only[Qh,Qg]
def EF (cell rest:Int)(m:Int)(hx:x.length<au)(t:Nat)(ht:t<=100)(o5:Option Dat):
  ∃v rest' o5',aH lev cl iw [some (.int cell),some (.int m),some (row x),some (.int rest),some (.int t),o5] [.full,.full,.full,.full,.full,.full]=.next [some (.int cell),some (.int m),some (row (x++[v])),some (.int rest'),some (.int t),o5'] [.full,.full,.full,.full,.full,.full]:=by
 have hp:yW .pow (.int 10) (.int 18)=.ok (.int (10^18)):=B8 10 18 ⟨by decide,by decide,by decide⟩;unfold iw;rw[zX];simp only[zC,zI,zd,za,aM,hp,B7,bo];generalize ((10:Int)^18)=P;by_cases hc:P<=cell
 .simp only[hc,decide_true];exact⟨rest%60,rest/60,o5,EJ cell rest m hx t o5⟩
 .simp only[hc,decide_false];obtain⟨v,o,e⟩:=EG (lev:=lev) (cl:=cl) cell rest m t hx (by lia) (by lia) o5;exact⟨v,rest,o,e⟩
def D3 (cell:Int)(hm:m<=100)(hk:lev k≠.top):∃x:List Int,x.length=m/\zF lev cl k lH [.int cell,.int m]=.ok (row x):=by
 have hrng:vV (.int 0) (.int (m:Int)) (.int 1)=.ok (.tup (yC 0 1 m)):=by
  rw[wX (by unfold au;lia)];simp[vt]
 have main:=ww (body:=λd de lv=>aH lev cl iw (de.set 4 (some d)) (lv.set 4 (bu d)))
  (λt de lv=>∃(x:List Int) (rest:Int) (o4 o5:Option Dat),x.length=t/\de=[some (.int cell),some (.int m),some (row x),some (.int rest),o4,o5]/\lv=[.full,.full,.full,.full,.full,.full])
  (yC 0 1 m) (de:=[some (.int cell),some (.int m),some (row []),some (.int cell),none,none]) (lv:=[.full,.full,.full,.full,.full,.full])
  ⟨[],cell,none,none,rfl,rfl,rfl⟩ ?_
 .obtain ⟨de',lv',e,x,rest,o4,o5,hx,rfl,rfl⟩:=main;rw[wu]at hx;refine⟨x,hx,?_⟩;unfold zF;rw[LF (by rfl)];show zK (lev k) (aH lev cl (.seq _ (.seq _ (.seq _ _))) [some (.int cell),some (.int m),none,none,none,none] [bu (.int cell),bu (.int m),.full,.full,.full,.full])=_;rw[show bu (.int cell)=.full from by simp[bu],show bu (.int (m:Int))=.full from by simp[bu],zD];have hnew:yB []=.ok (row []):=rfl;simp only[zM,vI,zl,aM,zi,hnew,bo];rw[xl (by simp[row])];simp only[zg,Qh,Qg];rw[zD];simp only[zM,za,bo];rw[zO (by simp)];simp only[zg,Qh,Qg];rw[wg,vJ];simp only[xU,zd,za,ze,aM,hrng,bo,xx,xW,xa,if_true];rw[e,zg];simp only[yL,za,ze,bo,bS,zK,show ay (row x)=false from by simp[row],QP,if_false,Bool.false_or];show(if zax Lv.full (lev k)=true then _ else _)=_;cases e:lev k<;>first|rfl|exact LH e hk
 .rintro t d de lv hd ⟨x,rest,o4,o5,hx,rfl,rfl⟩;have ht:t<m:=by
   have:=(Qa.mp hd).1;simpa using this
  rw[xV _ _ _ _ ht]at hd;cases hd;simp only[Qh,Qg,show bu (.int (0+1*(t:Int)))=.full from by simp[bu]];rw[show(0+1*(t:Int))=(t:Int) by lia];obtain⟨v,rest',o5',e⟩:=EF (lev:=lev) (cl:=cl) cell rest m (x:=x) (by unfold au;lia) t (by lia) o5;exact⟨_,_,e,x++[v],rest',some (.int t),o5',by simp[hx],rfl,rfl⟩
noncomputable def wY:Fn:=⟨1,1,(.seq (.ite (.cmp .eq (.bin .mod (.var 0) (.lit (.int 8))) (.lit (.int 3))) (.ret (.bin .add (.lit (.int 1)) (.bin .mod (.bin .fdiv (.var 0) (.lit (.int 8))) (.lit (.int 12))))) .skip) (.ret (.bin .add (.lit (.int 1)) (.bin .mod (.bin .fdiv (.var 0) (.lit (.int 8))) (.lit (.int 6))))))⟩
def HI(c:Int):∃n:Nat,1<=n/\n<=12/\zF lev cl k wY [.int c]=.ok (.int n):=by
 have h8:=wW c 8 (by decide);have d8:=qE c 8 (by decide) (by decide);have m12:=wW (c/8) 12 (by decide);have m6:=wW (c/8) 6 (by decide);by_cases h:c%8=3
 .refine ⟨(1+c/8%12).toNat,by lia,by lia,?_⟩;rw[show(((1+c/8%12).toNat:Nat):Int)=1+c/8%12 by lia];simp[zF,wY,zQ,zP,zK,bS,h8,d8,m12,h]
 .refine ⟨(1+c/8%6).toNat,by lia,by lia,?_⟩;rw[show(((1+c/8%6).toNat:Nat):Int)=1+c/8%6 by lia];simp[zF,wY,zQ,zP,zK,bS,h8,d8,m6,h]
def EE(c:Ex)(body:Sm)(de:aN)(lv:List Lv):aH lev cl (.while c body) de lv=wH (aq cl c) (aH lev cl body) 1000000 de lv:=rfl
def Hk (P:Nat->aN->List Lv->Prop)(N:Nat)(hs:∀t de lv,t<N->P t de lv->c de=.ok (.bl true)/\∃de' lv',body de lv=.next de' lv'/\P (t+1) de' lv')(he:∀de lv,P N de lv->c de=.ok (.bl false)):
  ∀(n t fuel:Nat) (de:aN) (lv:List Lv),t+n=N->n<fuel->P t de lv->∃de' lv',wH c body fuel de lv=.next de' lv'/\P N de' lv':=by
 intro n
 induction n with
 |zero=>
  intro t fuel de lv h1 h2 p;obtain⟨f,rfl⟩:∃f,fuel=f+1:=⟨fuel-1,by lia⟩;have:t=N:=by lia
  subst this;refine⟨de,lv,?_,p⟩;unfold wH;rw[he de lv p]
 |succ n ih=>
  intro t fuel de lv h1 h2 p;obtain⟨f,rfl⟩:∃f,fuel=f+1:=⟨fuel-1,by lia⟩;obtain⟨hc,d1,l1,hb,p1⟩:=hs t de lv (by lia) p;obtain⟨d2,l2,e,p2⟩:=ih (t+1) f d1 l1 (by lia) (by lia) p1;refine⟨d2,l2,?_,p2⟩;unfold wH;rw[hc];simp only;rw[hb];exact e
end
end Lib
namespace Lib
section
variable{lev:Nat->Lv}{cl:Nat->List Dat->Rd}{k:Nat}
def Gg(j a x:Nat)(e:Ex)(de:aN)(lv:List Lv):aH lev cl (.appPop j a x e) de lv=match xu de x,de[a]?,xu de j with
  |some (.int v::r),some (some (.int low)),some ds=>(aq cl e (de.set x (some (.lst r)))).okS λd=>match d with
   |.int k=>if j≠x/\a≠x/\zW lv j=true/\zW lv x=true/\0<k/\ds.length<au then .next ((de.set x (some (.lst r))).set j (some (.lst (ds++[.int (low+v%k)])))) lv else .no
   |_=>.no
  |_,_,_=>.no:=rfl
def HH(a:Sm)(j b x:Nat)(e:Ex):yE a (.appPop j b x e)=none:=rfl
def Gf(a:Sm)(j b x:Nat)(e:Ex)(de:aN)(lv:List Lv):aH lev cl (.seq a (.appPop j b x e)) de lv=(aH lev cl a de lv).then (aH lev cl (.appPop j b x e)):=zU lev cl de lv (HH a j b x e)
def D1(j:Nat)(e:Ex)(de:aN)(lv:List Lv):aH lev cl (.expr (.meth .insert (.var j) (.pair (.lit (.int 0)) (.pair e .unit)))) de lv=(aq cl e de).okS λd=>match xu de j with
   |some ds=>if ds.length<au then match wt lev e d j de lv with
    |some (de1,lv1)=>.next (de1.set j (some (.lst (d::ds)))) lv1
    |none=>.no
    else .no
   |none=>.no:=rfl
def CH(x:List Int):yH .ne (row x) (row [])=.ok (.bl (! decide (x=[]))):=by
 have h:∀y,yG yJ (row y)=true:=λy=>by
  simp only[row,tF,jU];rw[vn];simp
 simp only[yH,dN,h,Bool.and_self,if_true];simp only[row,sN,Vz];cases x with
 |nil=>rfl
 |cons v x=>simp[cb];rfl
noncomputable def fE:Sm:=(.seq (.asg 7 (.idx (.var 4) (.var 6))) (.seq (.ite (.cmp .ne (.var 5) (.lst .unit)) (.asg 7 (.blt .max2 (.pair (.var 7) (.pair (.bin .add (.idx (.var 5) (.neg (.lit (.int 1)))) (.lit (.int 1))) .unit)))) .skip) (.appPop 5 7 2 (.bin .add (.bin .sub (.idx (.var 4) (.bin .add (.var 6) (.lit (.int 1)))) (.var 7)) (.lit (.int 1))))))
noncomputable def dy(l3 l4:Lv):List Lv:=[.full,.full,.full,l3,l4,.full,.full,.full]
def ED (hm:m+1<last.length)(hl:dt last)(ha:acc.length=m)(hb:∀i,i<m->acc.getD i 0<=last.getD (i+1) 0)(hlim:last.length<=100):
  ∃(w:Int) (p7:Option Dat),aH lev cl fE [a,b,some (row (v::xs)),f,some (row last),some (row acc),some (.int m),o7] (dy l3 l4)=.next [a,b,some (row xs),f,some (row last),some (row (acc++[w])),some (.int m),p7] (dy l3 l4)
   /\ last.getD m 0<=w/\w<=last.getD (m+1) 0/\(0<m->acc.getD (m-1) 0<w):=by
 have g1:yl (row last) (.int (m:Int))=.ok (.int (last.getD m 0)):=jp (by rw[Qd,Qc (by lia)];rfl);have g2:yl (row last) (.int ((m:Int)+1))=.ok (.int (last.getD (m+1) 0)):=by
  have:=jp (x:=last) (c:=m+1) (v:=last.getD (m+1) 0) (by rw[Qd,Qc (by lia)];rfl)
  rwa[show((m+1:Nat):Int)=(m:Int)+1 by lia]at this
 have hi:=hl m hm;have low:∃low:Int,last.getD m 0<=low/\low<=last.getD (m+1) 0/\(0<m->acc.getD (m-1) 0<low)/\aH lev cl (.seq (.asg 7 (.idx (.var 4) (.var 6))) (.ite (.cmp .ne (.var 5) (.lst .unit)) (.asg 7 (.blt .max2 (.pair (.var 7) (.pair (.bin .add (.idx (.var 5) (.neg (.lit (.int 1)))) (.lit (.int 1))) .unit)))) .skip)) [a,b,some (row (v::xs)),f,some (row last),some (row acc),some (.int m),o7] (dy l3 l4)=.next [a,b,some (row (v::xs)),f,some (row last),some (row acc),some (.int m),some (.int low)] (dy l3 l4):=by
  have hnew:yB []=.ok (row []):=rfl;unfold dy;rw[qH];simp only[zM,zJ,ze,za,aM,g1,bo];rw[zO (by simp),zg];simp only[Qh,Qg,zX,zC,ze,za,vI,zl,aM,zi,hnew];rw[CH];by_cases z:acc=[]
  .subst z;refine⟨last.getD m 0,by lia,by lia,λh=>by simp at ha;lia,?_⟩;simp
  .have hm0:0<m:=by cases acc with
    |nil=>exact LH rfl z
    |cons _ _=>simp at ha;lia
   have g3:yl (row acc) (.int (-1))=.ok (.int (acc.getD (m-1) 0)):=by
    refine Hc ?_;rw[Qw,ha,Qs,Qd,Qc (by lia)];rfl
   have h1:=hb (m-1) (by lia);rw[show m-1+1=m by lia]at h1;refine⟨if acc.getD (m-1) 0+1 > last.getD m 0 then acc.getD (m-1) 0+1 else last.getD m 0,?_,?_,?_,?_⟩
   .split<;>lia
   .split<;>lia
   .intro _;split<;>lia
   .simp only[z,decide_false,W8,bo,zM,zS,zm,zl,zI,zJ,wI,zd,ze,za,aM,g3,yp,zi];rw[show y6 .max2 [.int (last.getD m 0),.int (acc.getD (m-1) 0+1)]=.ok (.int (if acc.getD (m-1) 0+1 > last.getD m 0 then acc.getD (m-1) 0+1 else last.getD m 0))from rfl];simp only[bo];rw[zO (by simp)];rfl
 obtain⟨low,l1,l2,l3',hlow⟩:=low;have pos:0<last.getD (m+1) 0-low+1:=by lia
 have q1:=W3 v (b:=last.getD (m+1) 0-low+1) (by lia);have q2:=WO v pos;refine⟨low+v % (last.getD (m+1) 0-low+1),some (.int low),?_,by lia,by lia,λh=>by have:=l3' h;lia⟩;unfold fE;have assoc:∀(A B:Sm) (j b x:Nat) (e:Ex) (de:aN) (lv:List Lv),yE A B=none->aH lev cl (.seq A (.seq B (.appPop j b x e))) de lv=(aH lev cl (.seq A B) de lv).then (aH lev cl (.appPop j b x e)):=by
  intro A B j b x e de lv h;rw[zD,zU lev cl de lv h];cases aH lev cl A de lv<;>first|rfl|(simp only[zg];rw[Gf])
 rw[assoc _ _ _ _ _ _ _ _ (jY _ _ _ _),hlow,zg,Gg];simp only[xu,row,Wg,Vy,Vx,Qh,Qg];rw[show(Dat.lst (last.map Dat.int))=row last from rfl];simp only[zI,zJ,zd,ze,za,aM,yp,g2,y9,im];rw[LF ⟨by decide,by decide,rfl,rfl,pos,by rw[Qw];unfold au;lia⟩];simp
def D0 (hlen:last.length=kk+1)(hl:dt last)(hlim:last.length<=100)(hx:kk<=xs.length):
  ∃(acc:List Int) (xs':List Int) (p6 p7:Option Dat),yI (λx de lv=>aH lev cl fE (de.set 6 (some x)) (lv.set 6 (bu x))) (yC 0 1 kk) [a,b,some (row xs),f,some (row last),some (row []),o6,o7] (dy l3 l4) =
   .next [a,b,some (row xs'),f,some (row last),some (row acc),p6,p7] (dy l3 l4)/\dt acc/\fK last acc/\xs'.length+kk=xs.length:=by
 have main:=ww (body:=λx de lv=>aH lev cl fE (de.set 6 (some x)) (lv.set 6 (bu x)))
  (λm de lv=>∃(acc:List Int) (xs':List Int) (p6 p7:Option Dat),de=[a,b,some (row xs'),f,some (row last),some (row acc),p6,p7]/\lv=dy l3 l4/\acc.length=m/\dt acc/\(∀i,i<m->last.getD i 0<=acc.getD i 0/\acc.getD i 0<=last.getD (i+1) 0)/\xs'.length+m=xs.length)
  (yC 0 1 kk) (de:=[a,b,some (row xs),f,some (row last),some (row []),o6,o7]) (lv:=dy l3 l4)
  ⟨[],xs,o6,o7,rfl,rfl,rfl,λi hi=>by simp at hi,λi hi=>by lia,rfl⟩ ?_
 .obtain ⟨de',lv',e,acc,xs',p6,p7,rfl,rfl,h1,h2,h3,h4⟩:=main;rw[wu]at h1 h3 h4;exact⟨acc,xs',p6,p7,e,h2,⟨by lia,λi hi=>h3 i (by lia)⟩,h4⟩
 .rintro m x de lv hx' ⟨acc,xs',p6,p7,rfl,rfl,h1,h2,h3,h4⟩;have hmk:m<kk:=by
   have:=(Qa.mp hx').1;simpa using this
  rw[xV _ _ _ _ hmk]at hx';cases hx';have e1:(0:Int)+1*(m:Int)=(m:Int):=by lia
  obtain⟨v,xs2,rfl⟩:∃v xs2,xs'=v::xs2:=by
   cases xs' with
   |nil=>simp at h4;lia
   |cons v xs2=>exact⟨v,xs2,rfl⟩
  obtain⟨w,q7,e,b1,b2,b3⟩:=ED (lev:=lev) (cl:=cl) (a:=a) (b:=b) (f:=f) (l3:=l3) (l4:=l4) (v:=v) (xs:=xs2) (last:=last) (acc:=acc) (m:=m) (o7:=p7) (by lia) hl h1 (λi hi=>(h3 i hi).2) hlim;refine⟨_,_,?_,acc++[w],xs2,some (.int m),q7,rfl,rfl,by simp[h1],h2.app (λh=>?_),λi hi=>?_,by simp at h4 ⊢;lia⟩
  .simp only[e1,dy,Qh,Qg,show bu (.int (m:Int))=.full from by simp[bu]];exact e
  .rw[h1]at h ⊢;exact b3 h
  .by_cases z:i<m
   .rw[x6 (by lia)];exact h3 i z
   .have:i=acc.length:=by lia
    subst this;rw[jf,h1];exact⟨b1,b2⟩
noncomputable def qL:Nat->Nat
 |0=>0
 |m+1=>qL m+(m+1)
def Ge:∀{a b:Nat},a<=b->qL a<=qL b:=by
 intro a b h
 induction b with
 |zero=>
  have:a=0:=by lia
  subst this;exact Ql _
 |succ b ih=>
  by_cases z:a=b+1
  .subst z;exact Ql _
  .have:=ih (by lia);rw[show qL (b+1)=qL b+(b+1)from rfl];lia
noncomputable def iI:Sm:=(.seq (.asg 4 (.idx (.var 3) (.lit (.int 0)))) (.seq (.asg 5 (.lst .unit)) (.seq (.forv 6 (.rng (.lit (.int 0)) (.bin .sub (.blt .len (.pair (.var 4) .unit)) (.lit (.int 1))) (.lit (.int 1))) fE) (.expr (.meth .insert (.var 3) (.pair (.lit (.int 0)) (.pair (.var 5) .unit)))))))
noncomputable def iH:Ex:=(.cmp .gt (.blt .len (.pair (.idx (.var 3) (.lit (.int 0))) .unit)) (.lit (.int 1)))
noncomputable def lT(kn:Nat):Fn:=⟨2,8,(.seq (.asg 2 (.call kn (.pair (.var 0) (.pair (.lit (.int 66)) .unit)))) (.seq (.asg 3 (.lst (.pair (.lrng (.var 1)) .unit))) (.seq (.while iH iI) (.ret (.var 3)))))⟩
noncomputable def WP(cell:Int)(n t:Nat)(de:aN)(lv:List Lv):Prop:=∃(L:List (List Int)) (xs:List Int) (o4 o5 o6 o7:Option Dat) (l3 l4 l5:Lv),de=[some (.int cell),some (.int n),some (row xs),some (aB L.reverse),o4,o5,o6,o7]/\lv=[.full,.full,.full,l3,l4,l5,.full,.full]/\(l3=.full\/l3=.top)/\L.length=t+1/\cL n L/\qL (n-1-t)<=xs.length
def su {n:Nat}{L:List (List Int)}(h1:L.length=t+1):yl (aB L.reverse) (.int 0)=.ok (row (L.getD t [])):=by
 have:yl (aB L.reverse) (.int ((0:Nat):Int))=.ok (row (L.getD t [])):=ki (by rw[List.getElem?_reverse (by lia),h1,Qd,show t+1-1-0=t by lia,Qc (by lia)];rfl);simpa using this
def ss (ht:t<n)(h:WP cell n t de lv):aq cl iH de=.ok (.bl (decide (t+1<n))):=by
 obtain⟨L,xs,o4,o5,o6,o7,l3,l4,l5,rfl,rfl,hl3,h1,h2,h3⟩:=h;have hd:=su (n:=n) h1;have hl:=h2.len t (by lia);have hlen:y6 .len [row (L.getD t [])]=.ok (.int ((L.getD t []).length:Nat)):=by simp[row]
 unfold iH;simp only[zC,zS,zm,zl,zJ,ze,za,zd,aM,hd,zi,hlen,rJ];rw[show decide ((1:Int)<((L.getD t []).length:Nat))=decide (t+1<n)from decide_eq_decide.mpr (by lia)]
def CG (hn:n<=100)(ht:t+1<n)(h:WP cell n t de lv):∃de' lv',aH lev cl iI de lv=.next de' lv'/\WP cell n (t+1) de' lv':=by
 obtain⟨L,xs,o4,o5,o6,o7,l3,l4,l5,rfl,rfl,hl3,h1,h2,h3⟩:=h;have hd:=su (n:=n) h1;have hl:=h2.len t (by lia);have hlen:y6 .len [row (L.getD t [])]=.ok (.int ((L.getD t []).length:Nat)):=by simp[row]
 have hnew:yB []=.ok (row []):=rfl;have hrng:vV (.int 0) (.int (((L.getD t []).length:Nat)-1:Int)) (.int 1)=.ok (.tup (yC 0 1 (n-1-t))):=by
  rw[show(((L.getD t []).length:Nat)-1:Int)=((n-1-t:Nat):Int) by lia,wX (by unfold au;lia)];simp[vt]
 have hneed:qL (n-1-t)=qL (n-1-(t+1))+(n-1-t):=by
  rw[show n-1-t=(n-1-(t+1))+1 by lia];rfl
 obtain⟨acc,xs',p6,p7,e,hinc,hlace,hxs⟩:=D0 (lev:=lev) (cl:=cl) (a:=some (.int cell)) (b:=some (.int n)) (f:=some (aB L.reverse)) (l3:=.top) (l4:=.no) (xs:=xs) (last:=L.getD t []) (o6:=o6) (o7:=o7) (kk:=n-1-t) (by lia) (h2.inc t (by lia)) (by lia) (by lia);refine⟨[some (.int cell),some (.int n),some (row xs'),some (aB (L++[acc]).reverse),some (row (L.getD t [])),some (row acc),p6,p7],[.full,.full,.full,.top,.no,.no,.full,.full],?_,L++[acc],xs',_,_,_,_,.top,.no,.no,rfl,rfl,Or.inr rfl,by simp[h1],h2.app (by lia) hinc (by rw[show L.length-1=t by lia];exact hlace),by lia⟩;unfold iI;rw[zD];simp only[zM,zJ,ze,za,zd,aM,hd,bo];rw[show jm lev 4 (.idx (.var 3) (.lit (.int 0))) (row (L.getD t [])) [some (.int cell),some (.int n),some (row xs),some (aB L.reverse),o4,o5,o6,o7] [.full,.full,.full,l3,l4,l5,.full,.full]=.next [some (.int cell),some (.int n),some (row xs),some (aB L.reverse),some (row (L.getD t [])),o5,o6,o7] [.full,.full,.full,.top,.no,l5,.full,.full]from by
  rcases hl3 with rfl|rfl<;>rfl]
 simp only[zg];rw[zD];simp only[zM,vI,zl,aM,zi,hnew,bo];rw[xl (by simp[row])];simp only[zg,Qh,Qg];rw[qI,vJ];simp only[xU,zI,zS,zm,zl,zi,zd,ze,za,aM,hlen,y9,hrng,bo,xx,xW,xa,if_true];rw[show[Lv.full,Lv.full,Lv.full,Lv.top,Lv.no,Lv.full,Lv.full,Lv.full]=dy .top .no from rfl,e,zg,D1];simp only[ze,za,im,xu,aB,Vy,Vx];rw[LF (by rw[Qw,List.length_reverse,h1];unfold au;lia)];have hg:wt lev (.var 5) (row acc) 3 [some (.int cell),some (.int n),some (row xs'),some (.lst (L.reverse.map row)),some (row (L.getD t [])),some (row acc),p6,p7] (dy .top .no)=some ([some (.int cell),some (.int n),some (row xs'),some (.lst (L.reverse.map row)),some (row (L.getD t [])),some (row acc),p6,p7],[.full,.full,.full,.top,.no,.no,.full,.full]):=by
  simp[wt,zW,dy,row,bb]
 rw[hg];simp[aB]
def EC (hk1:∀c:Int,∃x:List Int,x.length=66/\cl kn [.int c,.int 66]=.ok (row x))(hkn:lev kn=.full)(hn:1<=n)(hn':n<=12)(cell:Int)(hlev:lev k=.no):
  ∃L,L.length=n/\cL n L/\zF lev cl k (lT kn) [.int cell,.int n]=.ok (aB L.reverse):=by
 obtain⟨xs,hxs,cB⟩:=hk1 cell;have hneed:qL (n-1-0)<=xs.length:=by
  rw[hxs];exact Qo (Ge (show n-1-0<=11 by lia)) (by decide)
 have hl:aq cl (.lrng (.var 1)) [some (.int cell),some (.int n),some (row xs),none,none,none,none,none]=.ok (row (yM n)):=by
  simp only[D9,ze,za,aM];rw[LF (by unfold au;lia),kS (by simp;unfold au;lia),<-Hm];simp
 have hnew:yB [row (yM n)]=.ok (aB [yM n]):=by rw[kS (by simp[au])];rfl
 obtain⟨de',lv',e,L,xs',o4,o5,o6,o7,l3,l4,l5,rfl,rfl,hl3,h1,h2,h3⟩:=Hk (c:=aq cl iH) (body:=aH lev cl iI) (WP cell n) (n-1)
  (λt de lv ht p=>⟨by rw[ss (by lia) p];simp;lia,CG (by lia) (by lia) p⟩)
  (λde lv p=>by rw[ss (by lia) p];simp;lia) (n-1) 0 1000000 [some (.int cell),some (.int n),some (row xs),some (aB [yM n]),none,none,none,none] [.full,.full,.full,.full,.full,.full,.full,.full]
  (by lia) (by lia) ⟨[yM n],xs,none,none,none,none,.full,.full,.full,rfl,rfl,Or.inl rfl,rfl,cL.one n,hneed⟩
 refine⟨L,by lia,h2,?_⟩;unfold zF;rw[LF (by rfl)];show zK (lev k) (aH lev cl (.seq _ (.seq _ (.seq _ _))) [some (.int cell),some (.int n),none,none,none,none,none,none] [bu (.int cell),bu (.int n),.full,.full,.full,.full,.full,.full])=_;simp only[show ∀i:Int,bu (.int i)=.full from λi=>by simp[bu]];rw[zD];simp only[zM,zG,zm,zl,ze,za,zd,aM,zi,cB,bo];rw[xl (by simp[row,hkn])];simp only[zg,Qh,Qg];rw[zD];simp only[zM,vI,zm,zl,hl,aM,zi,hnew,bo];rw[xl (by simp[aB,row])];simp only[zg,Qh,Qg];rw[wg,EE,e,zg];simp only[yL,ze,za,bo,bS,zK,show ay (aB L.reverse)=false from by simp[aB],QP,if_false,hlev];rfl
end
end Lib
namespace Lib
end Lib
namespace Lib
end Lib
namespace Lib
section
noncomputable def nZ(i:Int)(x:List Int)(j:Nat):Int:=i+j-2*(x.take j).sum
noncomputable def zkc(i:Int)(x:List Int):List Int:=(QI (x.length+1)).map (nZ i x)
def j6 {x:List Int}(h:x[t]?=some v):(x.take (t+1)).sum=(x.take t).sum+v:=by
 rw[Wq,h,Vn];simp
end
end Lib
namespace Lib
section
def CF(x:List Int)(j:Nat)(h:x.length<=au):dD (row x) none (some (j:Int))=.ok (row (x.take j)):=by
 simp only[dD,row,cu,aP,Qw];rw[LG (by lia),Int.toNat_natCast,List.drop_zero,Nat.sub_zero];have:(x.map Dat.int).take (min j x.length)=(x.take j).map Dat.int:=by
  rw[<-List.map_take];congr 1;rcases Nat.le_total j x.length with q|q
  .rw[Nat.min_eq_left q]
  .rw[Nat.min_eq_right q,Wf (Ql _),Wf q]
 rw[this,kS (by simp;lia)]
def tz(x:List Int):y6 .sum [row x]=.ok (.int x.sum):=by
 simp only[y6,row,cu,Q9,u9]
end
end Lib
namespace Lib
section
def tx (h:je t b=false):(t=0\/t=1)/\(b=true->t=1):=by
 cases b with
 |true=>
  have h':t=1:=by simpa [je]using h
  exact⟨.inr h',λ_=>h'⟩
 |false=>
  refine⟨?_,λe=>by cases e⟩;simp only[je,QP,if_false,Bool.not_eq_false',Wy,LL]at h;exact h
structure c8(R:List (List Int)):Prop where
 sq:Sq R
 row:∀r c,r<R.length->c<=R.length->((R.getD r []).take c).sum=0\/((R.getD r []).take c).sum=1
 rowE:∀r,r<R.length->((R.getD r []).take R.length).sum=1
 col:∀r c,r<=R.length->c<R.length->S R r c=0\/S R r c=1
 colE:∀c,c<R.length->S R R.length c=1
def c8.of{R:List (List Int)}(sq:Sq R)(h:∀r c,r<R.length->c<R.length->lc R r c=false):c8 R:=by
 have q:∀r c,r<R.length->c<R.length->((ac R r (c+1)=0\/ac R r (c+1)=1)/\(c+1=R.length->ac R r (c+1)=1))/\(S R (r+1) c=0\/S R (r+1) c=1)/\(r+1=R.length->S R (r+1) c=1):=by
  intro r c hr hc;have:=h r c hr hc;unfold lc at this;rw[W7]at this;obtain⟨a1,a2⟩:=tx this.1;obtain⟨b1,b2⟩:=tx this.2;exact⟨⟨a1,λe=>a2 (by simp;lia)⟩,b1,λe=>b2 (by simp;lia)⟩
 refine⟨sq,λr c hr hc=>?_,λr hr=>?_,λr c hr hc=>?_,λc hc=>?_⟩
 .cases c with
  |zero=>left;simp
  |succ c=>exact(q r c hr (by lia)).1.1
 .have:=(q r (R.length-1) hr (by lia)).1.2 (by lia);unfold ac at this
  rwa[show R.length-1+1=R.length by lia]at this
 .cases r with
  |zero=>left;simp[S]
  |succ r=>exact(q r c (by lia) hc).2.1
 .have:=(q (R.length-1) c (by lia) hc).2.2 (by lia)
  rwa[show R.length-1+1=R.length by lia]at this
end
end Lib
namespace Lib
end Lib
namespace Lib
section
def EB{α:Type}(xs:List α):jS (xs.map λ_=>Dat.bl true)=some true:=by
 induction xs with
 |nil=>rfl
 |cons x xs ih=>simp only[Wg,jS,ih];rfl
end
end Lib
namespace Lib
structure HF(n:Nat)(G:Nat->Nat->Int):Prop where
 top:∀j,j<=n->G 0 j=j
 left:∀i,i<=n->G i 0=i
 low:∀j,j<=n->G n j=(n:Int)-j
 right:∀i,i<=n->G i n=(n:Int)-i
 across:∀i j,i<=n->j<n->G i (j+1)-G i j=1\/G i (j+1)-G i j=-1
 down:∀i j,i<n->j<=n->G (i+1) j-G i j=1\/G (i+1) j-G i j=-1
theorem HF.par (h:HF n G):∀i j,i<=n->j<=n->(G i j-i-j)%2=0
 |i,0,hi,_=>by rw[h.left i hi];simp
 |i,j+1,hi,hj=>by
  have a:=h.par i j hi (by lia);have b:=h.across i j hi (by lia);lia
end Lib
namespace Lib
end Lib
namespace Lib
end Lib
namespace Lib
section
def DZ{n:Nat}(hn:n<=12):vV (.int 0) (.int ((n:Int)+1-1)) (.int 1)=.ok (.tup (yC 0 1 n)):=by
 rw[show(n:Int)+1-1=n by lia,wX (by unfold au;lia)];simp[vt]
end
end Lib
namespace Lib
section
variable{lev:Nat->Lv}{cl:Nat->List Dat->Rd}{k:Nat}
noncomputable def yj(q:Nat)(F:Nat->Nat->Int)(i:Nat):List Int:=(QI q).map (F i)
noncomputable def zv(p q:Nat)(F:Nat->Nat->Int):List (List Int):=(QI p).map (yj q F)
def yF(p q:Nat)(F:Nat->Nat->Int):(zv p q F).length=p:=by simp[zv]
def u8(q:Nat)(F:Nat->Nat->Int)(i:Nat):(yj q F i).length=q:=by simp[yj]
def xJ:∀x∈zv p q F,x.length=q:=λx hx=>by
 obtain⟨i,_,rfl⟩:=QL.mp hx;exact u8 q F i
def EA (h:i<p):yl (aB (zv p q F)) (.int (i:Int))=.ok (row (yj q F i)):=ki (by simp[zv,h])
def j7 (h:j<q):yl (row (yj q F i)) (.int (j:Int))=.ok (.int (F i j)):=jp (by simp[yj,h])
def ko:y6 .len [aB (zv p q F)]=.ok (.int p):=by simp[aB,zv]
noncomputable def nA:Ex:=(.comp (.bin .sub (.blt .int (.pair (.cmp .isin (.var 4) (.idx (.var 0) (.var 2))) .unit)) (.blt .int (.pair (.cmp .isin (.var 4) (.var 3)) .unit))) (.rng (.lit (.int 0)) (.blt .len (.pair (.var 0) .unit)) (.lit (.int 1))) (.lit (.bl true)))
noncomputable def nB:Sm:=(.seq (.asg 3 (.lst .unit)) (.seq (.ite (.cmp .gt (.var 2) (.lit (.int 0))) (.asg 3 (.idx (.var 0) (.bin .sub (.var 2) (.lit (.int 1))))) .skip) (.expr (.meth .append (.var 1) (.pair nA .unit)))))
noncomputable def j8:Fn:=⟨1,4,(.seq (.asg 1 (.lst .unit)) (.seq (.forv 2 (.rng (.lit (.int 0)) (.blt .len (.pair (.var 0) .unit)) (.lit (.int 1))) nB) (.ret (.var 1))))⟩
def jr (lev:Nat->Lv)(h:∀i:Int,aZ lev e (.int i)=.full):aZ lev (.comp e it c) (row x)=.full:=by
 unfold row
 first|rw[qx]|rw[lv_compP]
 simp only[jW,QP,if_false];rw[LF (EK _ _ h)]
def uZ (hA:A.length<au)(de:aN)(lv:List Lv)(j:Nat)(he:aq cl e de=.ok (row x))(hl:aZ lev e (row x)=.full)(hd:de[j]?=some (some (aB A)))(hj:lv[j]?=some .full):
  aH lev cl (.expr (.meth .append (.var j) (.pair e .unit))) de lv=.next (de.set j (some (aB (A++[x])))) lv:=by
 rw[tE,he];simp only[im];have hls:xu de j=some (A.map row):=by simp[xu,hd,aB]
 rw[hls];simp only[Qw];rw[LF hA];have hg:wt lev e (row x) j de lv=some (de,lv):=by
  unfold wt;rw[LG (by simp[zW,hj]),LF hl]
 rw[hg];simp[aB]
def CC(b:Bool):y6 .int [.bl b]=.ok (.int (b2i b)):=by cases b<;>rfl
def HG(X:List (List Int))(hX:X.length<=100)(hlev:lev k=.full):zF lev cl k j8 [aB X]=.ok (aB (sg X)):=by
 have hrng:vV (.int 0) (.int X.length) (.int 1)=.ok (.tup (yC 0 1 X.length)):=by
  rw[wX (by unfold au;lia)];simp[vt]
 have hlen:y6 .len [aB X]=.ok (.int X.length):=by simp[aB]
 have hnew:yB []=.ok (row []):=rfl;have main:=ww (body:=λx de lv=>aH lev cl nB (de.set 2 (some x)) (lv.set 2 (bu x)))
  (λi de lv=>∃(p2 p3:Option Dat) (l2 l3:Lv),de=[some (aB X),some (aB ((sg X).take i)),p2,p3]/\lv=[.no,.full,l2,l3])
  (yC 0 1 X.length) (de:=[some (aB X),some (aB []),none,none]) (lv:=[.no,.full,.full,.full])
  ⟨none,none,.full,.full,rfl,rfl⟩ ?_
 .obtain ⟨de',lv',e,p2,p3,l2,l3,rfl,rfl⟩:=main;unfold zF;rw[LF (by rfl)];show zK (lev k) (aH lev cl (.seq _ (.seq _ _)) [some (aB X),none,none,none] [bu (aB X),.full,.full,.full])=_;rw[show bu (aB X)=.no from by simp[bu,aB],zD];simp only[zM,vI,zl,aM,zi,hnew,bo];rw[xl (by simp[row])];simp only[zg,Qh,Qg];rw[wg,vJ];simp only[xU,zd,zS,zm,zl,za,aM,zi,hlen,hrng,bo,xx,xW,xa,if_true];rw[show(some (row []):Option Dat)=some (aB [])from rfl,e,zg];rw[wu,Wf (by simp[sg])];simp[zK,bS,hlev,aB,zax]
 .rintro i x de lv hx ⟨p2,p3,l2,l3,rfl,rfl⟩;have hi:i<X.length:=by
   have:=(Qa.mp hx).1;simpa using this
  rw[xV _ _ _ _ hi]at hx;cases hx;have hg:yl (aB X) (.int (i:Int))=.ok (row (X.getD i [])):=ki (by rw[Qd,Qc hi];rfl);have hpre:∃l2 l,aH lev cl (.seq (.asg 3 (.lst .unit)) (.ite (.cmp .gt (.var 2) (.lit (.int 0))) (.asg 3 (.idx (.var 0) (.bin .sub (.var 2) (.lit (.int 1))))) .skip)) [some (aB X),some (aB ((sg X).take i)),some (.int i),p3] [.no,.full,.full,l3]=.next [some (aB X),some (aB ((sg X).take i)),some (.int i),some (row (yi X i))] [.no,.full,l2,l]:=by
   rw[qH];simp only[zM,vI,zl,aM,zi,hnew,bo];rw[xl (by simp[row])];simp only[zg,Qh,Qg,zX,zC,ze,za,zd,aM,rJ,bo];by_cases z:i=0
   .subst z;exact⟨.full,.full,rfl⟩
   .have hg1:yl (aB X) (.int ((i:Int)-1))=.ok (row (X.getD (i-1) [])):=by
     have:=ki (R:=X) (r:=i-1) (x:=X.getD (i-1) []) (by rw[Qd,Qc (by lia)];rfl)
     rwa[show((i-1:Nat):Int)=(i:Int)-1 by lia]at this
    refine⟨.no,.no,?_⟩;rw[LJ (show(0:Int)<i by lia)];simp only[zM,zJ,zI,ze,za,zd,aM,y9,hg1,bo];rw[show yi X i=X.getD (i-1) []from LG z];rfl
  obtain⟨l2,l,hpre⟩:=hpre;have hE:aq cl nA [some (aB X),some (aB ((sg X).take i)),some (.int i),some (row (yi X i))]=.ok (row (wO X.length (X.getD i []) (yi X i))):=by
   unfold nA;rw[yy];simp only[xU,zd,zS,zm,zl,za,aM,zi,hlen,hrng,xx];rw[km 0 1 X.length (λc=>.int (b2i (mem (X.getD i []) c)-b2i (mem (yi X i) c))) (λc _=>by simp) (λc hc=>?_) (by unfold au;lia)]
   .simp only[row,wO,Wi];rfl
   .rw[show(0+1*(c:Int))=(c:Int) by lia];simp only[Wl,Q8,zI,zS,zm,zl,zC,zJ,za,ze,aM,zi,hg,FS,CC,y9]
  have e1:(0:Int)+1*(i:Int)=(i:Int):=by lia
  refine⟨_,_,?_,some (.int i),some (row (yi X i)),l2,l,rfl,rfl⟩;simp only[e1,Qh,Qg,show bu (.int (i:Int))=.full from by simp[bu]];unfold nB;have assoc:∀(A B:Sm) (e:Ex) (de:aN) (lv:List Lv),yE A B=none->aH lev cl (.seq A (.seq B (.expr e))) de lv=(aH lev cl (.seq A B) de lv).then (aH lev cl (.expr e)):=by
   intro A B e de lv h;rw[zD,zU lev cl de lv h];cases aH lev cl A de lv<;>first|rfl|(simp only[zg];rw[qI])
  rw[assoc _ _ _ _ _ (jY _ _ _ _),hpre,zg,uZ (by simp[sg];unfold au;lia) _ _ 1 hE (jr lev λi=>by simp) rfl rfl];rw[Wq,mj hi,Option.toList_some];rfl
noncomputable def cy(R:List (List Int))(r c:Nat):Int:=1-2*((R.getD r []).take c).sum
noncomputable def cV(R:List (List Int))(r c:Nat):Int:=2*S R r c-1
noncomputable def gk:Ex:=(.comp (.comp (.bin .sub (.lit (.int 1)) (.bin .mul (.lit (.int 2)) (.blt .sum (.pair (.slH (.var 5) (.var 6)) .unit)))) (.rng (.lit (.int 0)) (.bin .add (.var 1) (.lit (.int 1))) (.lit (.int 1))) (.lit (.bl true))) (.var 0) (.lit (.bl true)))
noncomputable def iZ:Ex:=(.comp (.bin .sub (.bin .mul (.lit (.int 2)) (.blt .sum (.pair (.comp (.idx (.var 6) (.var 5)) (.slH (.var 0) (.var 4)) (.lit (.bl true))) .unit))) (.lit (.int 1))) (.rng (.lit (.int 0)) (.var 1) (.lit (.int 1))) (.lit (.bl true)))
noncomputable def lG:Fn:=⟨1,5,(.seq (.asg 1 (.blt .len (.pair (.var 0) .unit))) (.seq (.asg 2 gk) (.seq (.asg 3 (.lst .unit)) (.seq (.forv 4 (.rng (.lit (.int 0)) (.bin .add (.var 1) (.lit (.int 1))) (.lit (.int 1))) (.expr (.meth .append (.var 3) (.pair iZ .unit)))) (.ret (.tup (.pair (.var 2) (.pair (.var 3) .unit))))))))⟩
def tw{n:Nat}(h:n<=100):vV (.int 0) (.int n) (.int 1)=.ok (.tup (yC 0 1 n)):=by
 rw[wX (by unfold au;lia)];simp[vt]
def tv{n:Nat}(h:n<=100):vV (.int 0) (.int ((n:Int)+1)) (.int 1)=.ok (.tup (yC 0 1 (n+1))):=by
 rw[wX (by unfold au;lia)];simp only[vt,if_true,Int.sub_zero];rfl
def CB (h:Sq R)(hn:R.length<=100)(d2 d3 d4:Option Dat):aq cl gk [some (aB R),some (.int R.length),d2,d3,d4]=.ok (aB (zv R.length (R.length+1) (cy R))):=by
 unfold gk;rw[yy];simp only[za,aM,aB,wf (show(R.map row).length<=au from by simp;unfold au;lia)];rw[xb row (λx=>row ((QI (R.length+1)).map λc=>1-2*(x.take c).sum)) R [] (λ_ _=>by simp) (λx hx=>?_) (by simp;unfold au;lia)]
 .rw[Q8];congr 2;refine WQ λi=>?_;by_cases hi:i<R.length
  .simp only[Qs,Qc hi,QN,zv,WI hi];have:∀c,1-2*(R[i].take c).sum=cy R i c:=λc=>by simp[cy,hi]
   simp only[this];rfl
  .simp[zv,hi]
 .have hl:x.length<=au:=by rw[h x hx];unfold au;lia
  rw[yy];simp only[Wl,Q8,xU,zd,zI,za,ze,aM,yp,tv hn,xx];rw[km 0 1 (R.length+1) (λc=>.int (1-2*(x.take c).sum)) (λc _=>by simp) (λc hc=>?_) (by unfold au;lia)]
  .simp only[row,Wi];rfl
  .rw[show(0+1*(c:Int))=(c:Int) by lia];simp only[Wl,Q8,zI,zS,zm,zl,sO,zd,za,ze,aM,CF _ _ hl,zi,tz,wJ 2 _ (show yx 2=true by decide),y9]
def CA(R:List (List Int))(j:Nat)(h:R.length<=au):dD (aB R) none (some (j:Int))=.ok (aB (R.take j)):=by
 simp only[dD,aB,cu,aP,Qw];rw[LG (by lia),Int.toNat_natCast,List.drop_zero,Nat.sub_zero];have:(R.map row).take (min j R.length)=(R.take j).map row:=by
  rw[<-List.map_take];congr 1;rcases Nat.le_total j R.length with q|q
  .rw[Nat.min_eq_left q]
  .rw[Nat.min_eq_right q,Wf (Ql _),Wf q]
 rw[this,kS (by simp;lia)]
def Cz (h:Sq R)(hn:R.length<=100){i:Nat}(d2 d3:Option Dat):aq cl iZ [some (aB R),some (.int R.length),d2,d3,some (.int i)]=.ok (row (yj R.length (cV R) i)):=by
 unfold iZ;rw[yy];simp only[xU,zd,za,ze,aM,tw hn,xx];rw[km 0 1 R.length (λc=>.int (cV R i c)) (λc _=>by simp) (λc hc=>?_) (by unfold au;lia)]
 .simp only[row,yj,Wi];rfl
 .rw[show(0+1*(c:Int))=(c:Int) by lia];have hsl:=CA R i (by unfold au;lia);have hcm:aq cl (.comp (.idx (.var 6) (.var 5)) (.slH (.var 0) (.var 4)) (.lit (.bl true))) [some (aB R),some (.int R.length),d2,d3,some (.int i),some (.int c)]=.ok (row ((R.take i).map λx=>x.getD c 0)):=by
   rw[yy];simp only[sO,za,ze,aM,hsl];rw[show cA (aB (R.take i))=some ((R.take i).map row)from wf (by simp;unfold au;lia)];simp only;rw[xb row (λx=>.int (x.getD c 0)) (R.take i) [] (λ_ _=>by simp) (λx hx=>?_) (by simp;unfold au;lia)]
   .simp only[row,Wi,Q8];rfl
   .have hxl:=h x (List.mem_of_mem_take hx);simp only[Wl,Q8,zJ,za,ze,aM];exact jp (by rw[Qd,Qc (by lia)];rfl)
  simp only[Wl,Q8,zI,zS,zm,zl,zd,hcm,aM,zi,tz,wJ 2 _ (show yx 2=true by decide),y9];rfl
noncomputable def arr(n:Nat)(F G:Nat->Nat->Int):Dat:=.tup [aB (zv n (n+1) F),aB (zv (n+1) n G)]
def DY (h:Sq R)(hn:R.length<=100)(hlev:lev k=.full):zF lev cl k lG [aB R]=.ok (arr R.length (cy R) (cV R)):=by
 have hlen:y6 .len [aB R]=.ok (.int R.length):=by simp[aB]
 have hnew:yB []=.ok (row []):=rfl;have main:=ww (body:=λx de lv=>aH lev cl (.expr (.meth .append (.var 3) (.pair iZ .unit))) (de.set 4 (some x)) (lv.set 4 (bu x)))
  (λi de lv=>∃(p4:Option Dat),de=[some (aB R),some (.int R.length),some (aB (zv R.length (R.length+1) (cy R))),some (aB ((zv (R.length+1) R.length (cV R)).take i)),p4]/\lv=[.no,.full,.full,.full,.full])
  (yC 0 1 (R.length+1)) (de:=[some (aB R),some (.int R.length),some (aB (zv R.length (R.length+1) (cy R))),some (aB []),none]) (lv:=[.no,.full,.full,.full,.full])
  ⟨none,rfl,rfl⟩ ?_
 .obtain ⟨de',lv',e,p4,rfl,rfl⟩:=main;rw[wu,Wf (by rw[yF];lia)]at e;have hax:=CB (cl:=cl) h hn none none none;have hlv:aZ lev gk (aB (zv R.length (R.length+1) (cy R)))=.full:=by
   unfold gk aB
   first|rw[qx]|rw[lv_compP]
   simp only[jW,QP,if_false];rw[LF (by
    rw[WK,QE];intro x _;show(aZ lev _ (row x)==Lv.full)=true;rw[jr lev (λi=>xS lev _ _ rfl)]
    rfl)]
  unfold zF;rw[LF (by rfl)];show zK (lev k) (aH lev cl (.seq _ (.seq _ (.seq _ (.seq _ _)))) [some (aB R),none,none,none,none] [bu (aB R),.full,.full,.full,.full])=_;rw[show bu (aB R)=.no from by simp[bu,aB],zD];simp only[zM,zS,zm,zl,za,aM,zi,hlen,bo];rw[zO (by simp)];simp only[zg,Qh,Qg];rw[zD,zM,hax];simp only[bo];rw[xl hlv];simp only[zg,Qh,Qg];rw[zD];simp only[zM,vI,zl,aM,zi,hnew,bo];rw[xl (by simp[row])];simp only[zg,Qh,Qg];rw[wg,vJ];simp only[xU,zI,zd,za,ze,aM,yp,tv hn,bo,xx,xW,xa,if_true];rw[show(some (row []):Option Dat)=some (aB [])from rfl,e,zg];simp[zK,bS,hlev,arr,zax,aB,show 2<=au from by decide]
 .rintro i x de lv hx ⟨p4,rfl,rfl⟩;have hi:i<R.length+1:=by
   have:=(Qa.mp hx).1;simpa using this
  rw[xV _ _ _ _ hi]at hx;cases hx;have e1:(0:Int)+1*(i:Int)=(i:Int):=by lia
  refine⟨_,_,?_,some (.int i),rfl,rfl⟩;simp only[e1,Qh,Qg,show bu (.int (i:Int))=.full from by simp[bu]];rw[uZ (by simp[zv];unfold au;lia) _ _ 3 (Cz h hn _ _) (jr lev λi=>by simp) rfl rfl];rw[Wq,show(zv (R.length+1) R.length (cV R))[i]?=some (yj R.length (cV R) i)from by simp[zv,hi],Option.toList_some];rfl
end
end Lib
namespace Lib
section
variable{lev:Nat->Lv}
structure AR(n:Nat)(F G:Nat->Nat->Int):Prop where
 f:∀i j,i<n->j<=n->F i j=1\/F i j=-1
 g:∀i j,i<=n->j<n->G i j=1\/G i j=-1
 place:∀r c,r<n->c<n->F r c-F r (c+1)+G r c-G (r+1) c=0
 left:∀r,r<n->F r 0=1
 right:∀r,r<n->F r n=-1
 top:∀c,c<n->G 0 c=-1
 low:∀c,c<n->G n c=1
def c8.ar (h:c8 R):AR R.length (cy R) (cV R):=by
 refine⟨λi j hi hj=>?_,λi j hi hj=>?_,λr c hr hc=>?_,λr hr=>?_,λr hr=>?_,λc hc=>?_,λc hc=>?_⟩
 .have:=h.row i j hi hj;unfold cy;lia
 .have:=h.col i j hi hj;unfold cV;lia
 .obtain ⟨x,v,hx,hv,hg⟩:=CK h.sq hr hc;have e1:=mm R r c x hx;have e2:((R.getD r []).take (c+1)).sum=((R.getD r []).take c).sum+v:=by
   rw[Qd,hx];exact j6 hv
  unfold cy cV;rw[e1,e2,hg];lia
 .simp[cy]
 .have:=h.rowE r hr;unfold cy;lia
 .simp[cV,S]
 .have:=h.colE c hc;unfold cV;lia
noncomputable def pm:Dat:=.tup [.int 1,.int (-1)]
noncomputable def qM:Fn:=⟨2,2,(.ret (.blt .all (.pair (.comp (.cmp .isin (.var 2) (.var 1)) (.var 0) (.lit (.bl true))) .unit)))⟩
noncomputable def Aa(kz:Nat):Sm:=(.ite (.or (.not (.isi .list (.var 2))) (.not (.call kz (.pair (.blt .len (.pair (.var 2) .unit)) .unit)))) (.ret (.lit (.bl false))) .skip)
noncomputable def vL(kz kg:Nat):Fn:=⟨2,4,(.seq (.ite (.or (.not (.isi .tuple (.var 0))) (.cmp .ne (.blt .len (.pair (.var 0) .unit)) (.lit (.int 2)))) (.ret (.lit (.bl false))) .skip) (.seq (.asg 2 (.idx (.var 0) (.lit (.int 0)))) (.seq (Aa kz) (.seq (.asg 3 (.blt .len (.pair (.var 2) .unit))) (.ret (.and (.call kg (.pair (.var 2) (.pair (.var 3) (.pair (.bin .add (.var 3) (.lit (.int 1))) (.pair (.var 1) .unit))))) (.call kg (.pair (.idx (.var 0) (.lit (.int 1))) (.pair (.bin .add (.var 3) (.lit (.int 1))) (.pair (.var 3) (.pair (.var 1) .unit)))))))))))⟩
def Hj (de:aN)(lv:List Lv):∃lv',jm lev i e d de lv=.next (de.set i (some d)) lv':=by
 unfold jm;split
 .exact ⟨_,rfl⟩
 .exact ⟨_,rfl⟩
end
end Lib
namespace Lib
section
variable{lev:Nat->Lv}{cl:Nat->List Dat->Rd}{k:Nat}
noncomputable def bF(F:Nat->Nat->Int)(r c:Nat):Int:=(F r c-F r (c+1))/2
noncomputable def fu:Ex:=(.comp (.bin .fdiv (.bin .sub (.idx (.var 0) (.var 1)) (.idx (.var 0) (.bin .add (.var 1) (.lit (.int 1))))) (.lit (.int 2))) (.rng (.lit (.int 0)) (.bin .sub (.blt .len (.pair (.var 0) .unit)) (.lit (.int 1))) (.lit (.int 1))) (.lit (.bl true)))
noncomputable def mi:Fn:=⟨1,1,(.ret fu)⟩
def Gd (hn:n<=12)(F:Nat->Nat->Int)(r:Nat)(hk:lev k=.full):zF lev cl k mi [row (yj (n+1) F r)]=.ok (row (yj n (bF F) r)):=by
 have hlen:y6 .len [row (yj (n+1) F r)]=.ok (.int ((n:Int)+1)):=by simp[row,yj]
 have hev:aq cl fu [some (row (yj (n+1) F r))]=.ok (row (yj n (bF F) r)):=by
  unfold fu;rw[yy];simp only[xU,zd,zI,zS,zm,zl,za,aM,zi,hlen,y9,DZ hn,xx];rw[km 0 1 n (λc=>.int (bF F r c)) (λc _=>by simp) (λc hc=>?_) (by unfold au;lia)]
  .simp only[row,yj,Wi];rfl
  .rw[show(0+1*(c:Int))=(c:Int) by lia];have a1:=j7 (q:=n+1) (F:=F) (i:=r) (j:=c) (by lia);have a2:yl (row (yj (n+1) F r)) (.int ((c:Int)+1))=.ok (.int (F r (c+1))):=j7 (q:=n+1) (F:=F) (i:=r) (j:=c+1) (by lia);simp only[Wl,Q8,zI,zJ,zd,za,ze,aM,a1,a2,yp,y9,qE _ 2 (by decide) (by decide)];rfl
 unfold zF;rw[LF (by rfl)];show zK (lev k) (aH lev cl (.ret fu) [some (row (yj (n+1) F r))] _)=_;rw[yL,hev];have hlv:aZ lev fu (row (yj n (bF F) r))=.full:=jr lev λi=>xS lev _ _ rfl;have hR:∀lv,bS lev fu (row (yj n (bF F) r)) lv=.full:=λlv=>by
  unfold bS;rw[LG (by simp[row])];exact hlv
 simp only[bo,zK,hR,hk];simp[zax]
noncomputable def lz(kp kf ks:Nat):Fn:=⟨1,2,(.seq (.ite (.not (.call kp (.pair (.var 0) (.pair (.tup (.pair (.lit (.int 1)) (.pair (.neg (.lit (.int 1))) .unit))) .unit)))) .never .skip) (.seq (.asg 1 (.call kf (.pair (.idx (.var 0) (.lit (.int 0))) (.pair (.idx (.var 0) (.lit (.int 1))) .unit)))) (.seq (.ite (.cmp .notN (.var 1) (.lit .non)) .never .skip) (.ret (.comp (.call ks (.pair (.var 2) .unit)) (.idx (.var 0) (.lit (.int 0))) (.lit (.bl true)))))))⟩
def DX (hn:n<=12)(hp:cl kp [arr n F G,pm]=.ok (.bl true))(hf:cl kf [aB (zv n (n+1) F),aB (zv (n+1) n G)]=.ok .non)(hs:∀r,r<n->cl ks [row (yj (n+1) F r)]=.ok (row (yj n (bF F) r)))(hks:lev ks=.full)(hk:lev k=.full):
  zF lev cl k (lz kp kf ks) [arr n F G]=.ok (aB (zv n n (bF F))):=by
 have i0:yl (arr n F G) (.int 0)=.ok (aB (zv n (n+1) F)):=rfl;have i1:yl (arr n F G) (.int 1)=.ok (aB (zv (n+1) n G)):=rfl;have hev:aq cl (.comp (.call ks (.pair (.var 2) .unit)) (.idx (.var 0) (.lit (.int 0))) (.lit (.bl true))) [some (arr n F G),some .non]=.ok (aB (zv n n (bF F))):=by
  rw[yy];simp only[zJ,zd,za,aM,i0];rw[show cA (aB (zv n (n+1) F))=some ((QI n).map λr=>row (yj (n+1) F r))from by
   rw[show aB (zv n (n+1) F)=.lst ((QI n).map λr=>row (yj (n+1) F r))from by simp[aB,zv]];exact wf (by simp;unfold au;lia)]
  simp only;rw[xb (λr=>row (yj (n+1) F r)) (λr=>row (yj n (bF F) r)) (QI n) [] (λ_ _=>by simp) (λr hr=>?_) (by simp;unfold au;lia)]
  .simp[aB,zv]
  .simp only[Wl,Q8,zG,zm,zl,za,ze,aM,zi,hs r (Wb.mp hr)]
 have hpm:aq cl (.tup (.pair (.lit (.int 1)) (.pair (.neg (.lit (.int 1))) .unit))) [some (arr n F G),none]=.ok pm:=rfl;unfold zF;rw[LF (by rfl)];show zK (lev k) (aH lev cl (.seq _ (.seq _ (.seq _ (.ret _)))) [some (arr n F G),none] _)=_;rw[zD];simp only[zX,we,zG,zm,zl,hpm,za,aM,zi,hp,Wj,bo,yY,zg];rw[zD];simp only[zM,zG,zm,zl,zJ,zd,za,aM,zi,i0,i1,hf,bo];rw[zO (by simp)];simp only[zg,Qh,Qg];rw[wg];simp only[zX,zC,za,ze,xT,aM,show yH .notN .non .non=.ok (.bl false)from rfl,bo,yY,zg];rw[yL,hev];simp only[bo,bS,zK];have hlv:aZ lev (.comp (.call ks (.pair (.var 2) .unit)) (.idx (.var 0) (.lit (.int 0))) (.lit (.bl true))) (aB (zv n n (bF F)))=.full:=by
  unfold aB
  first|rw[qx]|rw[lv_compP]
  simp only[jW,QP,if_false];rw[LF (by
   rw[WK,QE];intro x _;simp[hks])]
 simp only[show ay (aB (zv n n (bF F)))=false from by simp[aB],QP,if_false,hlv,hk];rfl
def c8.back (h:c8 R):zv R.length R.length (bF (cy R))=R:=by
 refine WQ λi=>?_;by_cases hi:i<R.length
 .rw[show(zv R.length R.length (bF (cy R)))[i]?=some (yj R.length (bF (cy R)) i)from by simp[zv,hi],Qc hi];congr 1;refine WQ λc=>?_;have hl:=h.sq R[i] (QC hi);by_cases hc:c<R.length
  .rw[show(yj R.length (bF (cy R)) i)[c]?=some (bF (cy R) i c)from by simp[yj,hc],Qc (by lia)];congr 1;have e2:((R.getD i []).take (c+1)).sum=((R.getD i []).take c).sum+R[i][c]:=by
    rw[Qd,Qc hi,WS];exact j6 (Qc (by lia))
   unfold bF cy;rw[e2];lia
  .rw[QG (by rw[u8];lia),QG (by lia)]
 .rw[QG (by rw[yF];lia),QG (by lia)]
noncomputable def lS(kw:Nat):Sm:=(.seq (.ite (.or (.not (.isi .list (.idx (.var 0) (.var 2)))) (.cmp .ne (.idx (.var 0) (.var 2)) (.idx (.var 1) (.var 2)))) (.ret (.lit (.bl false))) .skip) (.ite (.not (.blt .all (.pair (.comp (.call kw (.pair (.var 3) .unit)) (.idx (.var 0) (.var 2)) (.lit (.bl true))) .unit))) (.ret (.lit (.bl false))) .skip))
noncomputable def mH(kw:Nat):Fn:=⟨2,3,(.seq (.ite (.or (.not (.isi .list (.var 0))) (.cmp .ne (.blt .len (.pair (.var 0) .unit)) (.blt .len (.pair (.var 1) .unit)))) (.ret (.lit (.bl false))) .skip) (.seq (.forv 2 (.rng (.lit (.int 0)) (.blt .len (.pair (.var 1) .unit)) (.lit (.int 1))) (lS kw)) (.ret (.lit (.bl true)))))⟩
def Gc (hw:∀d,cl kw [d]=.ok (.bl (isInt d)))(A:List (List Int))(hA:A.length<=100)(hr:∀x∈A,x.length<=100):zF lev cl k (mH kw) [aB A,aB A]=.ok (.bl true):=by
 have hlen:y6 .len [aB A]=.ok (.int A.length):=by simp[aB]
 have main:=ww (body:=λx de lv=>aH lev cl (lS kw) (de.set 2 (some x)) (lv.set 2 (bu x)))
  (λi de lv=>∃(p2:Option Dat) ,de=[some (aB A),some (aB A),p2])
  (yC 0 1 A.length) (de:=[some (aB A),some (aB A),none]) (lv:=[.no,.no,.full])
  ⟨none,rfl⟩ ?_
 .obtain ⟨de',lv',e,p2,rfl⟩:=main;unfold zF;rw[LF (by rfl)];show zK (lev k) (aH lev cl (.seq _ (.seq _ _)) [some (aB A),some (aB A),none] [bu (aB A),bu (aB A),.full])=_;rw[show bu (aB A)=.no from by simp[bu,aB],zD];simp only[zX,kc,we,xw,zC,zS,zm,zl,za,ze,aM,zi,hlen,show cn .list (aB A)=true from rfl,Wj,iJ,decide_true,bo,yY,zg];rw[wg,vJ];simp only[xU,zd,zS,zm,zl,za,ze,aM,zi,hlen,tw hA,bo,xx,xW,xa,if_true];rw[e,zg];simp[zK]
 .rintro i x de lv hx ⟨p2,rfl⟩;have hi:i<A.length:=by
   have:=(Qa.mp hx).1;simpa using this
  rw[xV _ _ _ _ hi]at hx;cases hx;have hg:yl (aB A) (.int (0+1*(i:Int)))=.ok (row A[i]):=by
   rw[show(0+1*(i:Int))=(i:Int) by lia];exact ki (Qc hi)
  have hl:=hr A[i] (QC hi);have hc:aq cl (.comp (.call kw (.pair (.var 3) .unit)) (.idx (.var 0) (.var 2)) (.lit (.bl true))) [some (aB A),some (aB A),some (.int (0+1*(i:Int)))]=.ok (.lst (A[i].map λ_=>.bl true)):=by
   rw[yy];simp only[zJ,za,ze,aM,hg,row,wf (show(A[i].map Dat.int).length<=au from by simp;unfold au;lia)];rw[xb Dat.int (λ_=>.bl true) A[i] [] (λv _=>by simp) (λv _=>by simp[hw,isInt]) (by simp;unfold au;lia)];simp
  have hall:y6 .all [.lst (A[i].map λ_=>.bl true)]=.ok (.bl true):=by simp[y6,cu,EB]
  refine⟨_,lv.set 2 (bu (.int (0+1*(i:Int)))),?_,some (.int (0+1*(i:Int))),rfl⟩;simp only[Qh,Qg];unfold lS;rw[qH];simp only[zX,kc,we,xw,zC,zJ,zS,zm,zl,zi,za,ze,aM,hg,show cn .list (row A[i])=true from rfl,Wj,CI,bo,yY,zg,hc,hall]
end
end Lib
namespace Lib
section
noncomputable def sd(F:Nat->Nat->Int)(i j:Nat):Int:=b2i (decide (F i j*(1-2*(((i:Int)+j)%2))=-1))
noncomputable def ar(W:Nat->Nat->Int)(i j:Nat):Int:=if(decide (W i j=1)==decide (((i:Int)+j)%2=1))=true then 1 else -1
end
end Lib
namespace Lib
end Lib
namespace Lib
section
noncomputable def wk(F:Nat->Nat->Int)(i j:Nat):Int:=if(decide (F i j=1)==decide (((i:Int)+j)%2=1))=true then 1 else 0
end
end Lib
namespace Lib
end Lib
namespace Lib
section
noncomputable def up(F:Nat->Nat->Int)(i j:Nat)(v:Int):Nat->Nat->Int:=λa b=>if a=i/\b=j then v else F a b
noncomputable def lvl(G:Nat->Nat->Int)(i j:Nat):Bool:=decide (G (i+1) j=G (i-1) j)&&(decide (G i (j-1)=G (i-1) j)&&decide (G i (j+1)=G (i-1) j))
end
end Lib
namespace Lib
section
def yP (hi:i<p)(hj:j<q):(yl (aB (zv p q F)) (.int (i:Int))).bind (λx=>yl x (.int (j:Int)))=.ok (.int (F i j)):=by
 rw[EA hi];exact j7 hj
end
end Lib
namespace Lib
section
variable{lev:Nat->Lv}{cl:Nat->List Dat->Rd}{k:Nat}
mutual
noncomputable def zn:Nat->Dat->Bool
 |0,_=>false
 |k+1,.lst ds=>decide (ds.length<=au)&&aF k ds
 |k+1,.tup ds=>decide (ds.length<=au)&&aF k ds
 |_+1,.scr _=>false
 |_+1,_=>true
noncomputable def aF:Nat->List Dat->Bool
 |_,[]=>true
 |k,d::ds=>zn k d&&aF k ds
end
theorem xK:∀{ds:List Dat},aF k ds=true->∀d∈ds,zn k d=true
 |[],_,d,h=>by cases h
 |x::ds,h,d,hd=>by
  have h':(zn k x&&aF k ds)=true:=by unfold aF at h;exact h
  rw[Qj]at h';rcases Qt.mp hd with rfl|hd
  .exact h'.1
  .exact xK h'.2 d hd
noncomputable def ly(ks:Nat):Fn:=⟨1,1,(.seq (.ite (.isi .list (.var 0)) (.ret (.comp (.call ks (.pair (.var 1) .unit)) (.var 0) (.lit (.bl true)))) .skip) (.seq (.ite (.isi .tuple (.var 0)) (.ret (.blt .tuple (.pair (.comp (.call ks (.pair (.var 1) .unit)) (.var 0) (.lit (.bl true))) .unit))) .skip) (.ret (.var 0))))⟩
def sr (hi:cA d0=some ds)(h:∀d∈ds,cl ks [d]=.ok d)(hz:ds.length<=au):aq cl (.comp (.call ks (.pair (.var 1) .unit)) (.var 0) (.lit (.bl true))) [some d0]=.ok (.lst ds):=by
 rw[yy];simp only[za,aM,hi];rw[wv (g:=λx=>x) ds [] (λv _=>by simp) (λx hx=>by have:=h x hx;simp[this]) (by simpa using hz)];simp
def DW (hp:zn (e+1) d=true)(h:∀x,zn e x=true->cl ks [x]=.ok x)(hk:lev k=.no):zF lev cl k (ly ks) [d]=.ok d:=by
 have ge:∀a,zax a .no=true:=λa=>by cases a<;>rfl
 unfold zF;rw[LF (by rfl)];show zK (lev k) (aH lev cl (.seq (.ite _ _ _) (.seq (.ite _ _ _) (.ret _))) [some d] _)=_;rw[hk];cases d with
 |lst ds=>
  have hp':(decide (ds.length<=au)&&aF e ds)=true:=by unfold zn at hp;exact hp
  rw[Qj]at hp';have hz:=LK hp'.1;have e1:=sr (cl:=cl) (ks:=ks) (wf hz) (λd hd=>h d (xK hp'.2 d hd)) hz;rw[zD,zX];simp only[xw,za,aM,cn,bo,yL,e1,kh];simp[zK,ge]
 |tup ds=>
  have hp':(decide (ds.length<=au)&&aF e ds)=true:=by unfold zn at hp;exact hp
  rw[Qj]at hp';have hz:=LK hp'.1;have e1:=sr (cl:=cl) (ks:=ks) (d0:=.tup ds) (by simp) (λd hd=>h d (xK hp'.2 d hd)) hz;have e2:y6 .tuple [.lst ds]=.ok (.tup ds):=rfl;rw[zD,zX];simp only[xw,za,aM,cn,bo,yY,zg];rw[wg,zX];simp only[xw,za,aM,cn,bo,yL,zS,zm,zl,e1,zi,e2,kh];simp[zK,ge]
 |scr _=>cases hp
 |_=>
  rw[zD,zX];simp only[xw,za,aM,cn,bo,yY,zg];rw[wg,zX];simp only[xw,za,aM,cn,bo,yL,yY,zg];simp[zK,ge]
noncomputable def wr(n:Nat)(W V:Nat->Nat->Int)(r c:Nat):Bool:=! decide (W r c-W r (c+1)+V r c-V (r+1) c=0) || (decide (c=0)&&decide (W r 0=-1) || (decide (c+1=n)&&decide (W r n=1) || (decide (r=0)&&decide (V 0 c=1) || decide (r+1=n)&&decide (V n c=-1))))
noncomputable def ou:Fn:=⟨3,7,(.seq (.fort 3 4 (.tup (.pair (.var 0) .unit)) .skip) (.seq (.asg 5 (.blt .len (.pair (.var 3) .unit))) (.seq (.asg 6 (.bin .sub (.idx (.idx (.var 3) (.var 1)) (.var 2)) (.idx (.idx (.var 3) (.var 1)) (.bin .add (.var 2) (.lit (.int 1)))))) (.seq (.ite (.cmp .ne (.bin .sub (.bin .add (.var 6) (.idx (.idx (.var 4) (.var 1)) (.var 2))) (.idx (.idx (.var 4) (.bin .add (.var 1) (.lit (.int 1)))) (.var 2))) (.lit (.int 0))) (.ret (.lit (.bl true))) .skip) (.seq (.ite (.and (.cmp .eq (.var 2) (.lit (.int 0))) (.cmp .eq (.idx (.idx (.var 3) (.var 1)) (.lit (.int 0))) (.neg (.lit (.int 1))))) (.ret (.lit (.bl true))) .skip) (.seq (.ite (.and (.cmp .eq (.var 2) (.bin .sub (.var 5) (.lit (.int 1)))) (.cmp .eq (.idx (.idx (.var 3) (.var 1)) (.var 5)) (.lit (.int 1)))) (.ret (.lit (.bl true))) .skip) (.seq (.ite (.and (.cmp .eq (.var 1) (.lit (.int 0))) (.cmp .eq (.idx (.idx (.var 4) (.lit (.int 0))) (.var 2)) (.lit (.int 1)))) (.ret (.lit (.bl true))) .skip) (.ret (.and (.cmp .eq (.var 1) (.bin .sub (.var 5) (.lit (.int 1)))) (.cmp .eq (.idx (.idx (.var 4) (.var 5)) (.var 2)) (.neg (.lit (.int 1)))))))))))))⟩
set_option tactic.hygienic true in
def Ez(c:Ex)(a b X:Sm):yE (.ite c a b) X=none:=by
 unfold yE
 (repeat' split)<;>first|rfl|(rename_i h _;cases h)
def gQ (h:aq cl c de=.ok (.bl b))(q:zK L (aH lev cl X de lv)=.ok (.bl y)):zK L (aH lev cl (.seq (.ite c (.ret (.lit (.bl true))) .skip) X) de lv)=.ok (.bl (b || y)):=by
 rw[zU lev cl de lv (Ez _ _ _ _),zX,h];cases b with
 |true=>simp[zK]
 |false=>simpa using q
def xF (ha:aq cl a de=.ok (.bl p))(hb:aq cl b de=.ok (.bl q)):aq cl (.and a b) de=.ok (.bl (p&&q)):=by
 simp only[sP,ha,aM];cases p<;>simp[hb]
def Cy (W V:Nat->Nat->Int)(hr:r<n)(hc:c<n):zF lev cl k ou [arr n W V,.int r,.int c]=.ok (.bl (wr n W V r c)):=by
 have g1:=yP (p:=n) (q:=n+1) (F:=W) hr (show c<n+1 by lia);have g2:=yP (p:=n) (q:=n+1) (F:=W) hr (show c+1<n+1 by lia);have g3:=yP (p:=n+1) (q:=n) (F:=V) (show r<n+1 by lia) hc;have g4:=yP (p:=n+1) (q:=n) (F:=V) (show r+1<n+1 by lia) hc;have g5:=yP (p:=n) (q:=n+1) (F:=W) hr (show 0<n+1 by lia);have g6:=yP (p:=n) (q:=n+1) (F:=W) hr (show n<n+1 by lia);have g7:=yP (p:=n+1) (q:=n) (F:=V) (show 0<n+1 by lia) hc;have g8:=yP (p:=n+1) (q:=n) (F:=V) (show n<n+1 by lia) hc;rw[show((c+1:Nat):Int)=(c:Int)+1 by lia]at g2;rw[show((r+1:Nat):Int)=(r:Int)+1 by lia]at g4;rw[show((0:Nat):Int)=0 from rfl]at g5 g7;have hT:aq cl (.tup (.pair (.var 0) .unit)) [some (arr n W V),some (.int r),some (.int c),none,none,none,none]=.ok (.tup [arr n W V]):=rfl;have hfort:∀l0 l1 l2,∃lv',aH lev cl (.fort 3 4 (.tup (.pair (.var 0) .unit)) .skip) [some (arr n W V),some (.int r),some (.int c),none,none,none,none] [l0,l1,l2,.full,.full,.full,.full]=.next [some (arr n W V),some (.int r),some (.int c),some (aB (zv n (n+1) W)),some (aB (zv (n+1) n V)),none,none] lv':=by
  intro l0 l1 l2;refine⟨[.no,l1,l2,.no,.no,.full,.full],?_⟩;rw[D5,hT];simp only[bo,xx,arr,yI,yY];simp[bu,aB,wG,bb]
 unfold zF;rw[LF (by rfl)];show zK (lev k) (aH lev cl (.seq (.fort 3 4 _ _) (.seq (.asg 5 _) (.seq (.asg 6 _) (.seq (.ite _ _ _) (.seq (.ite _ _ _) (.seq (.ite _ _ _) (.seq (.ite _ _ _) (.ret _)))))))) [some (arr n W V),some (.int r),some (.int c),none,none,none,none] [bu (arr n W V),bu (.int r),bu (.int c),.full,.full,.full,.full])=_;obtain⟨lv',e⟩:=hfort (bu (arr n W V)) (bu (.int r)) (bu (.int c));rw[zD,e,zg,zD,zM];simp only[zS,zm,zl,ze,za,aM,zi,ko,bo];rw[zO (by simp)];simp only[zg,Qh,Qg];rw[zD,zM];simp only[zI,zJ,zd,ze,za,aM,yp,y9,g1,g2,bo];rw[zO (by simp)];simp only[zg,Qh,Qg];have c1:((c:Int)=0)↔c=0:=by lia
 have c2:((c:Int)=(n:Int)-1)↔c+1=n:=by lia
 have c3:((r:Int)=0)↔r=0:=by lia
 have c4:((r:Int)=(n:Int)-1)↔r+1=n:=by lia
 have d1:∀x:Int,decide (x=0)=true\/decide (x=0)=false:=λx=>by by_cases h:x=0<;>simp[h]
 refine gQ (b:=! decide (W r c-W r (c+1)+V r c-V (r+1) c=0)) ?_ (gQ (b:=decide (c=0)&&decide (W r 0=-1)) (xF ?_ ?_) (gQ (b:=decide (c+1=n)&&decide (W r n=1)) (xF ?_ ?_) (gQ (b:=decide (r=0)&&decide (V 0 c=1)) (xF ?_ ?_) ?_)))
 .simp only[zC,zI,zJ,zd,ze,za,aM,yp,y9,g3,g4,iJ]
 .simp only[zC,zd,ze,za,aM,xj,c1]
 .simp only[zC,zJ,wI,zd,ze,za,aM,xj,g5]
 .simp only[zC,zI,zd,ze,za,aM,y9,xj,c2]
 .simp only[zC,zJ,zd,ze,za,aM,xj,g6]
 .simp only[zC,zd,ze,za,aM,xj,c3]
 .simp only[zC,zJ,zd,ze,za,aM,xj,g7]
 .rw[yL,xF (p:=decide (r+1=n)) (q:=decide (V n c=-1))]
  .simp[zK]
  .simp only[zC,zI,zd,ze,za,aM,y9,xj,c4]
  .simp only[zC,zJ,wI,zd,ze,za,aM,xj,g8]
def sk (ha:aq cl a de=.ok (.bl p))(hb:aq cl b de=.ok (.bl q)):aq cl (.or a b) de=.ok (.bl (p || q)):=by
 simp only[kc,ha,aM];cases p<;>simp[hb]
noncomputable def oz:Fn:=⟨4,9,(.seq (.asg 4 (.idx (.idx (.var 0) (.var 2)) (.var 3))) (.seq (.asg 5 (.neg (.idx (.idx (.var 0) (.var 2)) (.bin .add (.var 3) (.lit (.int 1)))))) (.seq (.asg 6 (.idx (.idx (.var 1) (.var 2)) (.var 3))) (.seq (.asg 7 (.neg (.idx (.idx (.var 1) (.bin .add (.var 2) (.lit (.int 1)))) (.var 3)))) (.seq (.asg 8 (.bin .sub (.blt .len (.pair (.var 0) .unit)) (.lit (.int 1)))) (.seq (.ite (.cmp .ne (.bin .add (.bin .add (.bin .add (.var 4) (.var 5)) (.var 6)) (.var 7)) (.lit (.int 0))) (.ret (.lit (.bl true))) .skip) (.seq (.ite (.or (.and (.cmp .eq (.var 3) (.lit (.int 0))) (.cmp .eq (.var 4) (.neg (.lit (.int 1))))) (.and (.cmp .eq (.var 3) (.var 8)) (.cmp .eq (.var 5) (.neg (.lit (.int 1)))))) (.ret (.lit (.bl true))) .skip) (.ret (.or (.and (.cmp .eq (.var 2) (.lit (.int 0))) (.cmp .eq (.var 6) (.lit (.int 1)))) (.and (.cmp .eq (.var 2) (.var 8)) (.cmp .eq (.var 7) (.lit (.int 1)))))))))))))⟩
def Cw (W V:Nat->Nat->Int)(hr:r<n)(hc:c<n):zF lev cl k oz [aB (zv n (n+1) W),aB (zv (n+1) n V),.int r,.int c]=.ok (.bl (wr n W V r c)):=by
 have g1:=yP (p:=n) (q:=n+1) (F:=W) hr (show c<n+1 by lia);have g2:=yP (p:=n) (q:=n+1) (F:=W) hr (show c+1<n+1 by lia);have g3:=yP (p:=n+1) (q:=n) (F:=V) (show r<n+1 by lia) hc;have g4:=yP (p:=n+1) (q:=n) (F:=V) (show r+1<n+1 by lia) hc;rw[show((c+1:Nat):Int)=(c:Int)+1 by lia]at g2;rw[show((r+1:Nat):Int)=(r:Int)+1 by lia]at g4;unfold zF;rw[LF (by rfl)];show zK (lev k) (aH lev cl (.seq (.asg 4 _) (.seq (.asg 5 _) (.seq (.asg 6 _) (.seq (.asg 7 _) (.seq (.asg 8 _) (.seq (.ite _ _ _) (.seq (.ite _ _ _) (.ret _)))))))) [some (aB (zv n (n+1) W)),some (aB (zv (n+1) n V)),some (.int r),some (.int c),none,none,none,none,none] _)=_;rw[zD,zM];simp only[zI,wI,zJ,zd,ze,za,aM,yp,g1,bo];rw[zO (by simp)];simp only[zg,Qh,Qg];rw[zD,zM];simp only[zI,wI,zJ,zd,ze,za,aM,yp,g2,bo];rw[zO (by simp)];simp only[zg,Qh,Qg];rw[zD,zM];simp only[zI,wI,zJ,zd,ze,za,aM,yp,g3,bo];rw[zO (by simp)];simp only[zg,Qh,Qg];rw[zD,zM];simp only[zI,wI,zJ,zd,ze,za,aM,yp,g4,bo];rw[zO (by simp)];simp only[zg,Qh,Qg];rw[zD,zM];simp only[zI,zS,zm,zl,zd,ze,za,aM,zi,ko,y9,bo];rw[zO (by simp)];simp only[zg,Qh,Qg];have c1:((c:Int)=0)↔c=0:=by lia
 have c2:((c:Int)=(n:Int)-1)↔c+1=n:=by lia
 have c3:((r:Int)=0)↔r=0:=by lia
 have c4:((r:Int)=(n:Int)-1)↔r+1=n:=by lia
 have ew:wr n W V r c=(! decide (W r c+-W r (c+1)+V r c+-V (r+1) c=0) || ((decide (c=0)&&decide (W r c=-1) || decide (c+1=n)&&decide (-W r (c+1)=-1)) || (decide (r=0)&&decide (V r c=1) || decide (r+1=n)&&decide (-V (r+1) c=1)))):=by
  unfold wr;have a1:(W r c-W r (c+1)+V r c-V (r+1) c=0)↔(W r c+-W r (c+1)+V r c+-V (r+1) c=0):=by lia
  have a2:(c=0/\W r 0=-1)↔(c=0/\W r c=-1):=by constructor<;>(rintro⟨rfl,h⟩;exact⟨rfl,h⟩)
  have a3:(c+1=n/\W r n=1)↔(c+1=n/\-W r (c+1)=-1):=by constructor<;>(rintro⟨rfl,h⟩;exact⟨rfl,by lia⟩)
  have a4:(r=0/\V 0 c=1)↔(r=0/\V r c=1):=by constructor<;>(rintro⟨rfl,h⟩;exact⟨rfl,h⟩)
  have a5:(r+1=n/\V n c=-1)↔(r+1=n/\-V (r+1) c=1):=by constructor<;>(rintro⟨rfl,h⟩;exact⟨rfl,by lia⟩)
  simp only[<-Bool.decide_and,a1,a2,a3,a4,a5,Bool.or_assoc]
 rw[ew];refine gQ ?_ (gQ (sk (xF ?_ ?_) (xF ?_ ?_)) ?_)
 .simp only[zC,zI,zd,ze,za,aM,yp,iJ]
 .simp only[zC,zd,ze,za,aM,xj,c1]
 .simp only[zC,wI,zd,ze,za,aM,xj]
 .simp only[zC,zd,ze,za,aM,xj,c2]
 .simp only[zC,wI,zd,ze,za,aM,xj]
 .rw[yL,sk (xF (p:=decide (r=0)) (q:=decide (V r c=1)) ?_ ?_) (xF (p:=decide (r+1=n)) (q:=decide (-V (r+1) c=1)) ?_ ?_)]
  .simp[zK]
  .simp only[zC,zd,ze,za,aM,xj,c3]
  .simp only[zC,zd,ze,za,aM,xj]
  .simp only[zC,zd,ze,za,aM,xj,c4]
  .simp only[zC,zd,ze,za,aM,xj]
end
end Lib
namespace Lib
section
variable{lev:Nat->Lv}{cl:Nat->List Dat->Rd}{k:Nat}
noncomputable def cP(n:Nat)(f:Nat->Nat->Bool)(d:Dat):Prop:=(d=.non/\∀r c,r<n->c<n->f r c=false)\/∃r c:Nat,r<n/\c<n/\d=.tup [.int r,.int c]/\f r c=true/\∀r' c',r'<n->c'<n->(r'<r\/(r'=r/\c'<c))->f r' c'=false
def cP.det (h:cP n f d)(h':cP n f e):d=e:=by
 rcases h with⟨rfl,h⟩|⟨r,c,hr,hc,rfl,t,b⟩
 .rcases h' with⟨rfl,_⟩|⟨r,c,hr,hc,rfl,t,_⟩
  .rfl
  .rw[h r c hr hc]at t;cases t
 .rcases h' with⟨rfl,h⟩|⟨r',c',hr',hc',rfl,t',b'⟩
  .rw[h r c hr hc]at t;cases t
  .have:r=r'/\c=c':=by
    rcases Nat.lt_trichotomy r r' with q|q|q
    .rw[b' r c hr hc (.inl q)]at t;cases t
    .refine ⟨q,?_⟩;rcases Nat.lt_trichotomy c c' with z|z|z
     .rw[b' r c hr hc (.inr ⟨q,z⟩)]at t;cases t
     .exact z
     .rw[b r' c' hr' hc' (.inr ⟨q.symm,z⟩)]at t';cases t'
    .rw[b r' c' hr' hc' (.inl q)]at t';cases t'
   obtain⟨rfl,rfl⟩:=this;rfl
noncomputable def fy(C:Ex):Sm:=.ite C (.ret (.tup (.pair (.var 2) (.pair (.var 3) .unit)))) .skip
noncomputable def fx(E C:Ex):Sm:=.seq (.forv 2 E (.forv 3 E (fy C))) (.ret (.lit .non))
def si (hE:∀x y,aq cl E [a0,a1,x,y]=.ok (.tup (yC 0 1 n)))(hC:∀r c:Nat,r<n->c<n->aq cl C [a0,a1,some (.int r),some (.int c)]=.ok (.bl (f r c)))(o2 o3:Option Dat)(lv:List Lv)(L:Lv):∃d,cP n f d/\zK L (aH lev cl (fx E C) [a0,a1,o2,o3] lv)=.ok d:=by
 have inner:∀(r:Nat),r<n->∀(o3:Option Dat) (lv:List Lv),(∃p3 lv',aH lev cl (.forv 3 E (fy C)) [a0,a1,some (.int r),o3] lv=.next [a0,a1,some (.int r),p3] lv'/\∀c,c<n->f r c=false) \/
   ∃d l,aH lev cl (.forv 3 E (fy C)) [a0,a1,some (.int r),o3] lv=.ret d l/\∃c:Nat,c<n/\f r c=true/\(∀c',c'<c->f r c'=false)/\d=.tup [.int r,.int c]:=by
  intro r hr o3 lv;rw[vJ,hE];simp only[bo,xx,xW,xa,if_true];have main:=zk (body:=λx de lv=>aH lev cl (fy C) (de.set 3 (some x)) (lv.set 3 (bu x)))
   (λt de _=>(∃p3,de=[a0,a1,some (.int r),p3])/\∀c,c<t->c<n->f r c=false)
   (λd _=>∃c:Nat,c<n/\f r c=true/\(∀c',c'<c->f r c'=false)/\d=.tup [.int r,.int c]) (yC 0 1 n) (de:=[a0,a1,some (.int r),o3]) (lv:=lv) ⟨⟨o3,rfl⟩,λc h=>by lia⟩ (by
    rintro t x de lv hx ⟨⟨p3,rfl⟩,hb⟩;have ht:t<n:=by
     have:=(Qa.mp hx).1;simpa using this
    rw[xV _ _ _ _ ht]at hx;cases hx;have e1:(0:Int)+1*(t:Int)=(t:Int):=by lia
    simp only[e1,Qh,Qg];unfold fy;rw[zX,hC r t hr ht];simp only[bo];cases hf:f r t with
    |true=>
     right
     refine⟨.tup [.int r,.int t],bS lev (.tup (.pair (.var 2) (.pair (.var 3) .unit))) (.tup [.int r,.int t]) (lv.set 3 (bu (.int (t:Int)))),?_,t,ht,hf,λc' h=>hb c' h (by lia),rfl⟩;show aH lev cl (.ret _) _ _=_;rw[yL,show aq cl (.tup (.pair (.var 2) (.pair (.var 3) .unit))) [a0,a1,some (.int (r:Int)),some (.int (t:Int))]=.ok (.tup [.int r,.int t])from rfl];rfl
    |false=>
     refine .inl ⟨_,_,rfl,⟨some (.int t),rfl⟩,λc h1 h2=>?_⟩;rcases Vw.mp h1 with h|h
     .exact hb c h h2
     .rw[h];exact hf)
  rcases main with⟨de',lv',e,⟨p3,rfl⟩,hb⟩|⟨d,l,e,q⟩
  .rw[wu]at hb;exact .inl ⟨p3,lv',e,λc hc=>hb c hc hc⟩
  .exact .inr ⟨d,l,e,q⟩
 have outer:=zk (body:=λx de lv=>aH lev cl (.forv 3 E (fy C)) (de.set 2 (some x)) (lv.set 2 (bu x)))
   (λt de _=>(∃p2 p3,de=[a0,a1,p2,p3])/\∀r c,r<t->r<n->c<n->f r c=false)
   (λd _=>cP n f d/\ay d=true) (yC 0 1 n) (de:=[a0,a1,o2,o3]) (lv:=lv) ⟨⟨o2,o3,rfl⟩,λr c h=>by lia⟩ (by
    rintro t x de lv hx ⟨⟨p2,p3,rfl⟩,hb⟩;have ht:t<n:=by
     have:=(Qa.mp hx).1;simpa using this
    rw[xV _ _ _ _ ht]at hx;cases hx;have e1:(0:Int)+1*(t:Int)=(t:Int):=by lia
    simp only[e1,Qh,Qg];rcases inner t ht p3 (lv.set 2 (bu (.int (t:Int))))with⟨p3',lv',e,h⟩|⟨d,l,e,c,hc,hf,h,rfl⟩
    .refine .inl ⟨_,_,e,⟨_,_,rfl⟩,λr c h1 h2 h3=>?_⟩;rcases Vw.mp h1 with q|q
     .exact hb r c q h2 h3
     .rw[q];exact h c h3
    .refine .inr ⟨_,_,e,.inr ⟨t,c,ht,hc,rfl,hf,λr' c' h1 h2 h3=>?_⟩,by simp⟩;rcases h3 with q|⟨rfl,q⟩
     .exact hb r' c' q h1 h2
     .exact h c' q)
 unfold fx;rw[wg,vJ,hE];simp only[bo,xx,xW,xa,if_true];rcases outer with⟨de',lv',e,⟨p2,p3,rfl⟩,hb⟩|⟨d,l,e,q,fl⟩
 .rw[wu]at hb;refine⟨.non,.inl ⟨rfl,λr c h1 h2=>hb r c h1 h1 h2⟩,?_⟩;rw[e];simp[zK]
 .refine ⟨d,q,?_⟩;rw[e];simp[zK,fl]
noncomputable def mG(kw:Nat):Fn:=⟨2,4,fx (.rng (.lit (.int 0)) (.blt .len (.pair (.var 0) .unit)) (.lit (.int 1))) (.call kw (.pair (.var 0) (.pair (.var 1) (.pair (.var 2) (.pair (.var 3) .unit)))))⟩
def Gb (hn:n<=12)(hw:∀r c:Nat,r<n->c<n->cl kw [aB (zv n (n+1) W),aB (zv (n+1) n V),.int r,.int c]=.ok (.bl (f r c))):∃d,cP n f d/\zF lev cl k (mG kw) [aB (zv n (n+1) W),aB (zv (n+1) n V)]=.ok d:=by
 have hrng:vV (.int 0) (.int (n:Int)) (.int 1)=.ok (.tup (yC 0 1 n)):=by
  rw[wX (by unfold au;lia)];simp[vt]
 unfold zF;rw[LF (by rfl)];exact si (λx y=>by simp only[xU,zS,zm,zl,zd,za,aM,zi,ko,hrng]) (λr c hr hc=>by simp only[zG,zm,zl,ze,za,aM,zi,hw r c hr hc]) none none _ _
noncomputable def iu(kw:Nat):Fn:=⟨1,4,(.seq (.asg 1 (.blt .len (.pair (.idx (.var 0) (.lit (.int 0))) .unit))) (fx (.rng (.lit (.int 0)) (.var 1) (.lit (.int 1))) (.call kw (.pair (.var 0) (.pair (.var 2) (.pair (.var 3) .unit))))))⟩
def Eu (hn:n<=12)(hw:∀r c:Nat,r<n->c<n->cl kw [arr n W V,.int r,.int c]=.ok (.bl (f r c))):∃d,cP n f d/\zF lev cl k (iu kw) [arr n W V]=.ok d:=by
 have hrng:vV (.int 0) (.int (n:Int)) (.int 1)=.ok (.tup (yC 0 1 n)):=by
  rw[wX (by unfold au;lia)];simp[vt]
 have i0:yl (arr n W V) (.int 0)=.ok (aB (zv n (n+1) W)):=rfl;unfold zF;rw[LF (by rfl)];show ∃d,cP n f d/\zK (lev k) (aH lev cl (.seq (.asg 1 _) (fx _ _)) [some (arr n W V),none,none,none] _)=_;obtain⟨d,q,e⟩:=si (lev:=lev) (cl:=cl) (n:=n) (f:=f) (E:=.rng (.lit (.int 0)) (.var 1) (.lit (.int 1))) (C:=.call kw (.pair (.var 0) (.pair (.var 2) (.pair (.var 3) .unit)))) (a0:=some (arr n W V)) (a1:=some (.int (n:Int))) (λx y=>by simp only[xU,zd,ze,za,aM,hrng]) (λr c hr hc=>by simp only[zG,zm,zl,ze,za,aM,zi,hw r c hr hc]) none none ((zP (iu kw) [arr n W V]).set 1 .full) (lev k);refine⟨d,q,?_⟩;unfold fx at e ⊢;rw[zD,zM];simp only[zS,zm,zl,zJ,zd,za,aM,zi,i0,ko,bo];rw[zO (by simp)];simp only[zg,Qh,Qg];exact e
end
end Lib
namespace Lib
section
variable{lev:Nat->Lv}{cl:Nat->List Dat->Rd}{k:Nat}
noncomputable def cZ(n:Int)(d:Dat):Bool:=match d with
 |.lst xs=>decide ((xs.length:Int)=n)&&xs.all isInt
 |_=>false
noncomputable def gR(kw:Nat):Fn:=⟨2,2,(.ret (.and (.isi .list (.var 0)) (.and (.cmp .eq (.blt .len (.pair (.var 0) .unit)) (.var 1)) (.blt .all (.pair (.comp (.call kw (.pair (.var 2) .unit)) (.var 0) (.lit (.bl true))) .unit)))))⟩
def Ga (hw:∀d,cl kw [d]=.ok (.bl (isInt d)))(d:Dat)(n:Int)(hd:fU d=true)(hn:n<=100):zF lev cl k (gR kw) [d,.int n]=.ok (.bl (cZ n d)):=by
 cases d with
 |scr _=>cases hd
 |lst xs=>
  by_cases h:(xs.length:Int)=n
  .have hl:xs.length<=au:=by unfold au;lia
   simp[zF,gR,zQ,zP,zK,bS,cn,h,yy,wf hl,cZ];rw[wv (g:=λx=>.bl (isInt x)) xs [] (by simp) (by simp[hw]) (by simpa using hl)];simp[y6,cu,jX]
  .simp[zF,gR,zQ,zP,zK,bS,cn,h,cZ]
 |_=>simp[zF,gR,zQ,zP,zK,bS,cn,cZ]
noncomputable def kU(kn:Nat):Fn:=⟨3,3,(.seq (.ite (.or (.not (.isi .list (.var 0))) (.cmp .ne (.blt .len (.pair (.var 0) .unit)) (.var 1))) (.ret (.lit (.bl false))) .skip) (.ret (.blt .all (.pair (.comp (.call kn (.pair (.var 3) (.pair (.var 2) .unit))) (.var 0) (.lit (.bl true))) .unit))))⟩
noncomputable def wK(kg ka:Nat):Fn:=⟨4,4,(.ret (.and (.call kg (.pair (.var 0) (.pair (.var 1) (.pair (.var 2) .unit)))) (.blt .all (.pair (.comp (.call ka (.pair (.var 4) (.pair (.var 3) .unit))) (.var 0) (.lit (.bl true))) .unit))))⟩
end
end Lib
namespace Lib
section
variable{lev:Nat->Lv}{cl:Nat->List Dat->Rd}{k:Nat}
noncomputable def kW:Dat->Bool
 |.int i=>decide (i=1) || decide (i=-1)
 |_=>false
noncomputable def wL(n:Int):Dat->Bool
 |.lst xs=>decide ((xs.length:Int)=n)&&xs.all kW
 |_=>false
noncomputable def wZ(a b:Int):Dat->Bool
 |.lst xs=>decide ((xs.length:Int)=a)&&xs.all (wL b)
 |_=>false
noncomputable def yz:Dat->Bool
 |.tup [.lst xs,y]=>decide (1<=(xs.length:Int)/\(xs.length:Int)<=12)&&(wZ xs.length (xs.length+1) (.lst xs)&&wZ (xs.length+1) xs.length y)
 |_=>false
noncomputable def ft:Dat->Bool
 |.tup [x,y]=>dw x&&dw y
 |.scr _=>false
 |_=>true
def Ey(v:Int):yH .isin (.int v) pm=.ok (.bl (kW (.int v))):=by
 have h:yH .isin (.int v) pm=.ok (.bl (decide (v=1) || decide (v=-1))):=by
  simp[yH,pm,wc,fX,au,qs,dN,yG,yJ,cW,eq_comm]
 rw[h];rfl
def Hy(xs:List Dat)(h:xs.all isInt=true)(hl:xs.length<=100):zF lev cl k qM [.lst xs,pm]=.ok (.bl (xs.all kW)):=by
 have hl':xs.length<=au:=by unfold au;lia
 simp[zF,qM,zQ,zP,zK,bS,yy,wf hl'];rw[wv (g:=λx=>.bl (kW x)) xs [] (by simp) (λx hx=>by
  have:=QE.mp h x hx;cases x with
  |int v=>simp[Ey]
  |_=>cases this) (by simpa using hl')]
 simp[y6,cu,jX]
def F9{kn:Nat}(hr:∀d (n:Int),fU d=true->n<=100->cl kn [d,.int n]=.ok (.bl (cZ n d)))(d:Dat)(a b:Int)(hd:dw d=true)(ha:a<=100)(hb:b<=100):zF lev cl k (kU kn) [d,.int a,.int b]=.ok (.bl (match d with |.lst xs=>decide ((xs.length:Int)=a)&&xs.all (cZ b)|_=>false)):=by
 cases d with
 |scr _=>cases hd
 |lst xs=>
  by_cases h:(xs.length:Int)=a
  .have hl':xs.length<=au:=by unfold au;lia
   simp[zF,kU,zQ,zP,zK,bS,cn,yy,wf hl',h];rw[wv (g:=λx=>.bl (cZ b x)) xs [] (by simp) (λx hx=>by exact hr x b (QE.mp hd x hx) (by lia)) (by simpa using hl')];simp[y6,cu,jX]
  .simp[zF,kU,zQ,zP,zK,bS,cn,h]
 |_=>simp[zF,kU,zQ,zP,zK,bS,cn]
def Et(n:Int)(d:Dat)(h:cZ n d=true):wL n d=match d with |.lst xs=>xs.all kW|_=>false:=by
 cases d with
 |lst xs=>
  simp only[cZ,Qj,LL]at h;simp[wL,h.1]
 |_=>rfl
def Cv(n:Int)(d:Dat)(h:wL n d=true):cZ n d=true:=by
 cases d with
 |lst xs=>
  simp only[wL,Qj,LL]at h;simp only[cZ,Qj,LL];refine⟨h.1,QE.mpr λx hx=>?_⟩;have:=QE.mp h.2 x hx;cases x<;>first|rfl|cases this
 |_=>cases h
def HE{kg ka:Nat}(hg:∀(d:Dat) (a b:Int),dw d=true->a<=100->b<=100->cl kg [d,.int a,.int b]=.ok (.bl (match d with |.lst xs=>decide ((xs.length:Int)=a)&&xs.all (cZ b)|_=>false)))(ha:∀ys:List Dat,ys.all isInt=true->ys.length<=100->cl ka [.lst ys,pm]=.ok (.bl (ys.all kW)))(d:Dat)(a b:Int)(hd:dw d=true)(h1:a<=100)(h2:b<=100):
  zF lev cl k (wK kg ka) [d,.int a,.int b,pm]=.ok (.bl (wZ a b d)):=by
 have hg:=hg d a b hd h1 h2;cases d with
 |lst xs=>
  by_cases hl:(xs.length:Int)=a
  .have hl':xs.length<=au:=by unfold au;lia
   by_cases h:xs.all (cZ b)=true
   .simp only[h,hl,decide_true,Bool.true_and]at hg;simp[zF,wK,zQ,zP,zK,bS,hg,yy,wf hl'];rw[wv (g:=λx=>.bl (wL b x)) xs [] (by simp) (λx hx=>by
     have hx':=QE.mp h x hx;cases x with
     |lst ys=>
      rw[Et _ _ hx'];simp only[cZ,Qj,LL]at hx';simp;exact ha ys hx'.2 (by lia)
     |_=>cases hx') (by simpa using hl')]
    simp[y6,cu,jX,wZ,hl]
   .have hf:xs.all (cZ b)=false:=by simpa using h
    have hf2:xs.all (wL b)=false:=by
     cases e:xs.all (wL b)with
     |false=>rfl
     |true=>exact LH (QE.mpr λx hx=>Cv _ _ (QE.mp e x hx)) h
    simp only[hf,WN]at hg;simp only[wZ,hf2,WN];simp[zF,wK,zQ,zP,zK,bS,hg]
  .simp only[hl,decide_false,Vt]at hg;simp only[wZ,hl,decide_false,Vt];simp[zF,wK,zQ,zP,zK,bS,hg]
 |_=>simp[zF,wK,zQ,zP,zK,bS,hg,wZ]
def F8 (hz:∀n:Int,cl kz [.int n]=.ok (.bl (decide (1<=n/\n<=12))))(hg:∀(d:Dat) (a b:Int),dw d=true->a<=100->b<=100->cl kg [d,.int a,.int b,pm]=.ok (.bl (wZ a b d)))(d:Dat)(hd:ft d=true):zF lev cl k (vL kz kg) [d,pm]=.ok (.bl (yz d)):=by
 have two:∀ds:List Dat,(ds.length:Int)≠2->zF lev cl k (vL kz kg) [.tup ds,pm]=.ok (.bl false):=by
  intro ds h;simp[zF,vL,zQ,zP,zK,bS,cn,h]
 cases d with
 |scr _=>cases hd
 |tup ds=>match ds,hd with
  |[],_=>exact two [] (by simp)
  |[x],_=>rw[two [x] (by simp)];cases x<;>rfl
  |x::y::z::r,_=>rw[two (x::y::z::r) (by simp;lia)];cases x<;>rfl
  |[x,y],hd=>
   rw[show ft (.tup [x,y])=(dw x&&dw y)from rfl,Qj]at hd;have i0:yl (.tup [x,y]) (.int 0)=.ok x:=rfl;have i1:yl (.tup [x,y]) (.int 1)=.ok y:=rfl;have hl:y6 .len [.tup [x,y]]=.ok (.int 2):=rfl;unfold zF;rw[LF (by rfl)];show zK (lev k) (aH lev cl (.seq _ (.seq _ (.seq _ (.seq _ _)))) [some (.tup [x,y]),some pm,none,none] _)=_;rw[zD];simp only[zX,kc,we,xw,zC,zS,zm,zl,za,zd,aM,zi,hl,show cn .tuple (.tup [x,y])=true from rfl,Wj,iJ,decide_true,bo,yY,zg];rw[zD];simp only[zM,zJ,za,zd,aM,i0,bo];obtain⟨l1,e1⟩:=Hj (lev:=lev) (i:=2) (e:=.idx (.var 0) (.lit (.int 0))) (d:=x) [some (.tup [x,y]),some pm,none,none] (zP (vL kz kg) [.tup [x,y],pm]);rw[e1];simp only[zg,Qh,Qg];rw[zD];unfold Aa;cases x with
   |scr _=>cases hd.1
   |lst xs=>
    by_cases h:1<=(xs.length:Int)/\(xs.length:Int)<=12
    .simp only[zX,kc,we,xw,zG,zS,zm,zl,za,ze,aM,zi,cn,Wj,qF,hz,LJ h,bo,yY,zg];rw[wg];simp only[zM,zS,zm,zl,za,ze,aM,zi,qF,bo];rw[zO (by simp)];have g1:=hg (.lst xs) xs.length (xs.length+1) hd.1 (by lia) (by lia);have g2:=hg y (xs.length+1) xs.length hd.2 (by lia) (by lia);simp only[zg,Qh,Qg,yL];rw[xF (p:=wZ xs.length (xs.length+1) (.lst xs)) (q:=wZ (xs.length+1) xs.length y)]
     .simp[zK,yz,h]
     .simp only[zG,zm,zl,zI,zd,za,ze,aM,zi,yp,g1]
     .simp only[zG,zm,zl,zI,zJ,zd,za,ze,aM,zi,yp,i1,g2]
    .simp only[zX,kc,we,xw,zG,zS,zm,zl,za,ze,aM,zi,cn,Wj,qF,hz,LC h,W8,bo,yL,gO,kh];simp[zK,yz,h]
   |_=>
    simp only[zX,kc,we,xw,za,ze,aM,cn,W8,bo,yL,gO,kh];simp[zK,yz]
 |_=>simp[zF,vL,zQ,zP,zK,bS,cn,yz]
end
end Lib
namespace Lib
section
variable{lev:Nat->Lv}{cl:Nat->List Dat->Rd}{k:Nat}
def cP.flat (h:cP n f d):Vl.ay d=true:=by
 rcases h with⟨rfl,_⟩|⟨r,c,_,_,rfl,_⟩<;>simp
noncomputable def iX(kp kf ks:Nat):Fn:=⟨1,2,(.seq (.ite (.not (.call kp (.pair (.var 0) (.pair (.tup (.pair (.lit (.int 1)) (.pair (.neg (.lit (.int 1))) .unit))) .unit)))) (.ret (.tup (.pair (.lit .non) .unit))) .skip) (.seq (.asg 1 (.call kf (.pair (.idx (.var 0) (.lit (.int 0))) (.pair (.idx (.var 0) (.lit (.int 1))) .unit)))) (.seq (.ite (.cmp .notN (.var 1) (.lit .non)) (.ret (.tup (.pair (.var 1) .unit))) .skip) (.seq (.expr (.comp (.call ks (.pair (.var 2) .unit)) (.idx (.var 0) (.lit (.int 0))) (.lit (.bl true)))) (.ret (.tup .unit))))))⟩
def rG:aq cl (.tup (.pair (.lit (.int 1)) (.pair (.neg (.lit (.int 1))) .unit))) de=.ok pm:=rfl
def F7 (hp:cl kp [d,pm]=.ok (.bl false)):zF lev cl k (iX kp kf ks) [d]=.ok (.tup [.non]):=by
 unfold zF;rw[LF (by rfl)];show zK (lev k) (aH lev cl (.seq (.ite _ _ _) (.seq _ _)) [some d,none] _)=_;rw[zD,zX];simp only[we,zG,zm,zl,rG,za,aM,zi,hp,W8,bo,yL];rw[show aq cl (.tup (.pair (.lit .non) .unit)) [some d,none]=.ok (.tup [.non])from rfl];simp[zK]
def Cu (hf:Vl.ay d=true)(hd:yH .notN d .non=.ok (.bl true))(hp:cl kp [arr n W V,pm]=.ok (.bl true))(hq:cl kf [aB (zv n (n+1) W),aB (zv (n+1) n V)]=.ok d):zF lev cl k (iX kp kf ks) [arr n W V]=.ok (.tup [d]):=by
 have i0:yl (arr n W V) (.int 0)=.ok (aB (zv n (n+1) W)):=rfl;have i1:yl (arr n W V) (.int 1)=.ok (aB (zv (n+1) n V)):=rfl;unfold zF;rw[LF (by rfl)];show zK (lev k) (aH lev cl (.seq (.ite _ _ _) (.seq (.asg 1 _) (.seq (.ite _ _ _) (.seq _ _)))) [some (arr n W V),none] _)=_;rw[zD,zX];simp only[we,zG,zm,zl,rG,za,aM,zi,hp,Wj,bo,yY,zg];rw[zD,zM];simp only[zG,zm,zl,zJ,zd,za,aM,zi,i0,i1,hq,bo];rw[zO hf];simp only[zg,Qh,Qg];rw[zD,zX];simp only[zC,ze,za,xT,aM,hd,bo,yL];rw[show aq cl (.tup (.pair (.var 1) .unit)) [some (arr n W V),some d]=.ok (.tup [d])from rfl];simp[zK,hf]
noncomputable def iz(kx:Nat):Fn:=⟨1,2,(.seq (.asg 1 (.call kx (.pair (.var 0) .unit))) (.ite (.cmp .eq (.blt .len (.pair (.var 1) .unit)) (.lit (.int 0))) (.ret (.lit (.str [115,116,97,116,101]))) (.ret (.idx (.var 1) (.lit (.int 0))))))⟩
def tu (hf:Vl.ay d=true)(h:cl kx [x]=.ok (.tup [d])):zF lev cl k (iz kx) [x]=.ok d:=by
 unfold zF;rw[LF (by rfl)];show zK (lev k) (aH lev cl (.seq (.asg 1 _) (.ite _ _ _)) [some x,none] _)=_;rw[qH,zM];simp only[zG,zm,zl,za,aM,zi,h,bo];rw[zO (by simp[hf])];simp only[zg,Qh,Qg];rw[zX];simp only[zC,zS,zm,zl,ze,za,zd,aM,zi,D7,xj];rw[show decide (((([d]:List Dat).length:Nat):Int)=0)=false from rfl];simp only[bo,yL,zJ,ze,za,zd,aM];rw[show yl (.tup [d]) (.int 0)=.ok d from rfl];simp[zK,hf]
structure PM(n:Nat)(W V:Nat->Nat->Int):Prop where
 f:∀i j,i<n->j<=n->W i j=1\/W i j=-1
 g:∀i j,i<=n->j<n->V i j=1\/V i j=-1
def BC (h:PM n W V)(hw:∀r c,r<n->c<n->wr n W V r c=false):AR n W V:=by
 have e:∀r c,r<n->c<n->W r c-W r (c+1)+V r c-V (r+1) c=0/\(c=0->W r 0≠-1)/\(c+1=n->W r n≠1)/\(r=0->V 0 c≠1)/\(r+1=n->V n c≠-1):=by
  intro r c hr hc;have q:=hw r c hr hc;unfold wr at q;simp only[W7,Bool.not_eq_false',Bool.and_eq_false_iff,LL,decide_eq_false_iff_not]at q;obtain⟨a,b,c',d,e⟩:=q;exact⟨a,λz=>b.resolve_left (λw=>w z),λz=>c'.resolve_left (λw=>w z),λz=>d.resolve_left (λw=>w z),λz=>e.resolve_left (λw=>w z)⟩
 refine⟨h.f,h.g,λr c hr hc=>(e r c hr hc).1,λr hr=>?_,λr hr=>?_,λc hc=>?_,λc hc=>?_⟩
 .exact (h.f r 0 hr (by lia)).resolve_right ((e r 0 hr (by lia)).2.1 rfl)
 .exact (h.f r n hr (by lia)).resolve_left ((e r (n-1) hr (by lia)).2.2.1 (by lia))
 .exact (h.g 0 c (by lia) hc).resolve_left ((e 0 c (by lia) hc).2.2.2.1 rfl)
 .exact (h.g n c (by lia) hc).resolve_right ((e (n-1) c (by lia) hc).2.2.2.2 (by lia))
def uY (h:∀i j,i<p->j<q->F i j=G i j):zv p q F=zv p q G:=by
 refine WH λi hi=>WH λj hj=>?_;exact h i j (Wb.mp hi) (Wb.mp hj)
theorem gS:∀{c:Nat},c<=n->(∀j,j<n->2*bF F r j=F r j-F r (j+1))->2*((yj n (bF F) r).take c).sum=F r 0-F r c
 |0,_,_=>by simp
 |c+1,hc,h=>by
  have ih:=gS (F:=F) (r:=r) (c:=c) (by lia) h;have e:((yj n (bF F) r).take (c+1)).sum=((yj n (bF F) r).take c).sum+bF F r c:=j6 (by rw[yj,Qs,WI (by lia)];rfl);have:=h c (by lia);lia
def Ew (h:AR n W V):arr (zv n n (bF W)).length (cy (zv n n (bF W))) (cV (zv n n (bF W)))=arr n W V:=by
 have hs:∀r,r<n->∀j,j<n->2*bF W r j=W r j-W r (j+1):=by
  intro r hr j hj;have a:=h.f r j hr (by lia);have b:=h.f r (j+1) hr (by lia);unfold bF;rcases a with a|a<;>rcases b with b|b<;>rw[a,b]<;>decide
 have zkc:∀r,r<n->(zv n n (bF W)).getD r []=yj n (bF W) r:=by
  intro r hr;simp[zv,Qd,hr,yj]
 rw[yF];unfold arr;suffices E:zv n (n+1) (cy (zv n n (bF W)))=zv n (n+1) W/\zv (n+1) n (cV (zv n n (bF W)))=zv (n+1) n V by
  rw[E.1,E.2]
 refine⟨uY λr c hr hc=>?_,uY λr c hr hc=>?_⟩
 .have e:=gS (F:=W) (r:=r) (c:=c) (n:=n) (by lia) (hs r hr);have:=h.left r hr;unfold cy;rw[zkc r hr];lia
 .have key:∀r,r<=n->cV (zv n n (bF W)) r c=V r c:=by
   intro r
   induction r with
   |zero=>intro _;rw[h.top c hc];simp[cV,S]
   |succ r ih=>
    intro hr;have i:=ih (by lia);have hx:(zv n n (bF W))[r]?=some (yj n (bF W) r):=by
     rw[zv,Qs,WI (by lia)];rfl
    have e1:=mm (zv n n (bF W)) r c _ hx;have hg:(yj n (bF W) r).getD c 0=bF W r c:=by
     simp[yj,Qd,hc]
    have:=hs r (by lia) c hc;have:=h.place r c (by lia) hc;unfold cV at i ⊢;rw[e1,hg];lia
  exact key r (by lia)
end
end Lib
namespace Lib
section
variable{cl:Nat->List Wd->Me->Rz}
def hv (h:env[i]?=some (some w)):af cl (.var i) env m=.ok w m:=vW h m
def er (ha:af cl a env m=.ok x m1)(hb:af cl b env m1=.ok y m2):af cl (.bin op a b) env m=cz op x y m2:=by
 show(af cl a env m).bind _=_;rw[ha];show(af cl b env m1).bind _=_;rw[hb];rfl
def vv (ha:af cl a env m=.ok x m1)(hb:af cl b env m1=.ok y m2):af cl (.idx a b) env m=vq x y m2:=by
 show(af cl a env m).bind _=_;rw[ha];show(af cl b env m1).bind _=_;rw[hb];rfl
def lu (ha:af cl a env m=.ok x m1)(hb:af cl b env m1=.ok y m2):af cl (.cmp op a b) env m=cop op x y m2:=by
 show(af cl a env m).bind _=_;rw[ha];show(af cl b env m1).bind _=_;rw[hb];rfl
def wM (h:af cl e env m=.ok w m1):aI cl (.asg i e) env m=.next (env.set i (some w)) m1:=by
 show(af cl e env m).bindS env _=_;rw[h];rfl
def zu (h:aI cl a env m=.next e1 m1):aI cl (.seq a b) env m=aI cl b e1 m1:=by
 show(match aI cl a env m with |.next e1 m1=>aI cl b e1 m1|r=>r)=_;rw[h]
def ls (h:0<j):cz .mod (.int i) (.int j) m=.ok (.int (i%j)) m:=by
 show(if 0<j then _ else _)=_;rw[LF h]
def oE (h:yx i=true):cz .mul (.int i) (.int j) m=.ok (.int (i*j)) m:=by
 show(if(yx i || yx j)=true then _ else _)=_;rw[LF (by rw[h];rfl)]
def zV (h:m[l]?=some (.lst ws))(hw:ws[k]?=some w):vq (.ref l) (.int (k:Nat)) m=.ok w m:=by
 have hk:=(Qa.mp hw).1;have e:yr m (.ref l)=some ws:=by
  show zN m l=_;unfold zN;rw[h]
 show(match yr m (.ref l)with|some xs=>(match (ix xs.length (k:Int)).bind λj=>xs[j]? with|some v=>Rz.ok v m|none=>.no)|none=>.no)=_;rw[e];simp only[qG hk,Q9,hw]
def js (h:m[l]?=some (.lst ws))(hk:k<ws.length):vG (.ref l) (.int (k:Nat)) v m=.ok .non (m.set l (.lst (ws.set k v))):=by
 show(match m[l]? with|some (.lst xs)=>(match ix xs.length (k:Int)with|some j=>Rz.ok .non (m.set l (.lst (xs.set j v)))|none=>.no)|_=>.no)=_;rw[h];simp only[qG hk]
noncomputable def bz(k0 q:Nat)(m:Me)(l:Nat):Prop:=k0<=l/\∃xs:List Int,m[l]?=some (.lst (xs.map Wd.int))/\xs.length=q/\∀x∈xs,x=1\/x=-1
noncomputable def bj(k0 p q:Nat)(m:Me)(l:Nat):Prop:=k0<=l/\∃rs:List Nat,m[l]?=some (.lst (rs.map Wd.ref))/\rs.length=p/\∀r∈rs,bz k0 q m r
def bz.up{k0 q:Nat}{m m':Me}{l:Nat}(h:bz k0 q m l)(k:Le m m'):bz k0 q m' l:=by
 obtain⟨a,xs,b,c⟩:=h;exact⟨a,xs,k _ _ b,c⟩
theorem bj.up{k0 p q:Nat}{m m':Me}{l:Nat}(h:bj k0 p q m l)(k:Le m m'):bj k0 p q m' l:=by
 obtain⟨a,xs,b,c,d⟩:=h;exact⟨a,xs,k _ _ b,c,λr hr=>(d r hr).up k⟩
def bz.get (h:bz k0 q m l)(hi:i<q):∃a:Int,(a=1\/a=-1)/\vq (.ref l) (.int i) m=.ok (.int a) m:=by
 obtain⟨a,xs,b,c,d⟩:=h;have hx:i<xs.length:=by lia
 exact⟨xs[i],d _ (QC hx),zV b (by rw[Qs,Qc hx];rfl)⟩
def yZ {b:List Nat}(h:a.map Wd.int=b.map Wd.ref):a=[]:=by
 cases a with
 |nil=>rfl
 |cons x a=>cases b<;>simp at h
noncomputable def bW(m m':Me):Prop:=∀(l:Nat) ws,m[l]?=some (.lst ws)->(∀xs:List Int,xs≠[]->ws≠xs.map Wd.int)->m'[l]?=some (.lst ws)
def bW.of_le{m m':Me}(h:Le m m'):bW m m':=λl ws a _=>h l _ a
def bW.trans{a b c:Me}(h:bW a b)(k:bW b c):bW a c:=λl ws z q=>k l ws (h l ws z q) q
structure Fl(k0:Nat)(m0:Me)(n l0 l1 l2:Nat)(ds:List Int)(m:Me):Prop where
 lo:∀(l:Nat) o,l<k0->m0[l]?=some o->m[l]?=some o
 a:bj k0 n (n+1) m l0
 b:bj k0 (n+1) n m l1
 d:m[l2]?=some (.lst (ds.map Wd.int))
section
variable{k0 n l0 l1 l2:Nat}{m0 m:Me}{ds:List Int}
theorem Fl.up(F:Fl k0 m0 n l0 l1 l2 ds m){m':Me}(k:Le m m'):Fl k0 m0 n l0 l1 l2 ds m':=⟨λl o h z=>k l o (F.lo l o h z),F.a.up k,F.b.up k,k _ _ F.d⟩
def bz.flip{q q':Nat}{l r:Nat}(h:bz k0 q m l)(hr:bz k0 q' m r){ys:List Int}(hl:ys.length=q)(hy:∀y∈ys,y=1\/y=-1):bz k0 q' (m.set l (.lst (ys.map Wd.int))) r:=by
 obtain⟨a,xs,b,c,d⟩:=h;obtain⟨a',xs',b',c',d'⟩:=hr;by_cases e:l=r
 .subst e;rw[b]at b';have e1:xs=xs':=vX (by simpa using b');subst e1;exact⟨a,ys,by rw[QM (Qa.mp b).1],by lia,hy⟩
 .exact ⟨a',xs',by rw[Qe e];exact b',c',d'⟩
theorem bj.flip{p q q':Nat}{l t:Nat}(h:bz k0 q m l)(hq:0<q)(ht:bj k0 p q' m t){ys:List Int}(hl:ys.length=q)(hy:∀y∈ys,y=1\/y=-1):bj k0 p q' (m.set l (.lst (ys.map Wd.int))) t:=by
 obtain⟨a,rs,b,c,d⟩:=ht;refine⟨a,rs,?_,c,λr hr=>h.flip (d r hr) hl hy⟩;rw[Qe]
 .exact b
 .rintro rfl;obtain⟨_,xs,b',c',_⟩:=h;rw[b]at b';have e:xs.map Wd.int=rs.map Wd.ref:=by simpa using b'.symm
  rw[yZ e]at c';simp at c';lia
theorem Fl.flip(F:Fl k0 m0 n l0 l1 l2 ds m)(hd:ds.length=21){q l:Nat}(h:bz k0 q m l)(h0:0<q)(h1:q<=13){ys:List Int}(hl:ys.length=q)(hy:∀y∈ys,y=1\/y=-1):Fl k0 m0 n l0 l1 l2 ds (m.set l (.lst (ys.map Wd.int)))/\bW m (m.set l (.lst (ys.map Wd.int))):=by
 obtain⟨a,xs,b,c,d⟩:=id h;refine⟨⟨λk o hk z=>?_,bj.flip h h0 F.a hl hy,bj.flip h h0 F.b hl hy,?_⟩,λk ws z hw=>?_⟩
 .rw[Qe (by lia)];exact F.lo k o hk z
 .rw[Qe]
  .exact F.d
  .rintro rfl;have z:=F.d;rw[b]at z;have e1:xs=ds:=vX (by simpa using z);rw[e1]at c;lia
 .rw[Qe]
  .exact z
  .rintro rfl;rw[b]at z;refine hw xs (λe=>by rw[e]at c;simp at c;lia) ?_;simpa using z.symm
def Fl.put (F:Fl k0 m0 n l0 l1 l2 ds m)(hr:bz k0 n m r)(hn:0<n)(hi:i<n+1):∃m',vG (.ref l1) (.int i) (.ref r) m=.ok .non m'/\Fl k0 m0 n l0 l1 l2 ds m':=by
 obtain⟨a,rs,b,c,d⟩:=F.b;obtain⟨a0,rs0,b0,c0,d0⟩:=F.a;refine⟨_,js b (by simp;lia),?_⟩;have row:∀{q s},0<q->bz k0 q m s->bz k0 q (m.set l1 (.lst ((rs.map Wd.ref).set i (.ref r)))) s:=by
  rintro q s hq ⟨x,xs,y,z,w⟩;refine⟨x,xs,?_,z,w⟩;rw[Qe]
  .exact y
  .rintro rfl;rw[b]at y;have e:xs.map Wd.int=rs.map Wd.ref:=by simpa using y.symm
   rw[yZ e]at z;simp at z;lia
 have keep:∀{l:Nat}{ws:List Wd},ws≠rs.map Wd.ref->m[l]?=some (.lst ws)->(m.set l1 (.lst ((rs.map Wd.ref).set i (.ref r))))[l]?=some (.lst ws):=by
  intro l ws hw z;rw[Qe]
  .exact z
  .rintro rfl;rw[b]at z;exact hw (by simpa using z.symm)
 refine⟨λk o hk z=>?_,⟨a0,rs0,keep ?_ b0,c0,λs hs=>row (by lia) (d0 s hs)⟩,⟨a,rs.set i r,?_,by simpa using c,λs hs=>?_⟩,keep ?_ F.d⟩
 .rw[Qe (by lia)];exact F.lo k o hk z
 .intro e;have:=LI List.length e;simp at this;lia
 .rw[QM (Qa.mp b).1,List.map_set]
 .rcases Wu hs with h|rfl
  .exact row hn (d s h)
  .exact row hn hr
 .intro e;rw[yZ e]at e;have:=LI List.length e;simp at this;lia
end
end
end Lib
namespace Lib
section
variable{cl:Nat->List Wd->Me->Rz}{cd:Nat->List Dat->Rd}
theorem kX (P:Nat->En->Me->Prop)(hs:∀i env m,i<p->P i env m->∃xs x e1 m1,zN m l=some xs/\xs[i]?=some x/\body x env m=.next e1 m1/\P (i+1) e1 m1)(he:∀env m,P p env m->∃xs,zN m l=some xs/\xs.length<=p):
  ∀(j i f:Nat) (env:En) (m:Me),i+j=p->j<f->P i env m->∃e' m',xP body l f i env m=.next e' m'/\P p e' m'
 |j,i,0,env,m,_,h,_=>by lia
 |0,i,f+1,env,m,h,_,hp=>by
  obtain rfl:i=p:=by lia
  obtain⟨xs,e,hl⟩:=he env m hp;refine⟨env,m,?_,hp⟩;unfold xP;rw[e];simp only[QG hl]
 |j+1,i,f+1,env,m,h,hf,hp=>by
  obtain⟨xs,x,e1,m1,a,b,c,d⟩:=hs i env m (by lia) hp;obtain⟨e',m',q,z⟩:=kX P hs he j (i+1) f e1 m1 (by lia) (by lia) d;refine⟨e',m',?_,z⟩;unfold xP;rw[a];simp only[b,c];exact q
theorem gT (P:En->Me->Prop):∀(xs:List Wd),(∀x∈xs,∀env m,P env m->∃e1 m1,body x env m=.next e1 m1/\P e1 m1)->∀env m,P env m->∃e' m',xY body xs env m=.next e' m'/\P e' m'
 |[],_,env,m,h=>⟨env,m,rfl,h⟩
 |x::xs,hs,env,m,h=>by
  obtain⟨e1,m1,a,b⟩:=hs x (by simp) env m h;obtain⟨e',m',c,d⟩:=gT P xs (λy hy=>hs y (by simp[hy])) e1 m1 b;refine⟨e',m',?_,d⟩;unfold xY;rw[a];exact c
def xo (h:m[l]?=some (.lst ws)):zN m l=some ws:=by
 unfold zN;rw[h]
def hlen (h:env[j]?=some (some (.ref l)))(hm:m[l]?=some (.lst ws)):af cl (.blt .len (.pair (.var j) .unit)) env m=.ok (.int ws.length) m:=by
 show(((af cl (.var j) env m).bind _).bind _)=_;rw[hv h];show(match yr m (.ref l)with|some xs=>Rz.ok (.int xs.length) m|none=>.no)=_;rw[show yr m (.ref l)=some ws from xo hm]
variable{k0 n l0 l1 l2:Nat}{m0 m:Me}{ds:List Int}
def qN (H:aS cl cd)(h22:∀a:Int,cd 22 [.int a]=.ok (.int (0-a)))(F:Fl k0 m0 n l0 l1 l2 ds m)(hd:ds.length=21)(hr:bz k0 q m r)(h1:q<=13)(hi:i<q)(hO:∀m',Le m m'->af cl O env m'=.ok (.ref r) m')(hI:∀m',af cl I env m'=.ok (.int (i:Nat)) m'):
  ∃m',aI cl (.asgS O I (.call 22 (.pair (.idx O I) .unit))) env m=.next env m'/\Fl k0 m0 n l0 l1 l2 ds m'/\bW m m':=by
 obtain⟨a,ha,ea⟩:=hr.get hi;have e1:af cl (.pair (.idx O I) .unit) env m=.ok (.tup [.int a]) m:=by
  show(af cl (.idx O I) env m).bind _=_;rw[vv (hO m (Le.refl m)) (hI m),ea];rfl
 have s:=H 22 [.int a] [.int a] (λ_=>True) m (.cons (aa.mpr rfl) .nil);rw[h22]at s;obtain⟨w,m1,e2,k,rr⟩:=s;obtain rfl:=aa.mp rr;obtain⟨a',xs,b,c,d⟩:=hr.up k;refine⟨m1.set r (.lst ((xs.map Wd.int).set i (.int (0-a)))),?_,?_⟩
 .show (af cl (.call 22 (.pair (.idx O I) .unit)) env m).bindS env _=_;rw[show af cl (.call 22 (.pair (.idx O I) .unit)) env m=.ok (.int (0-a)) m1 from by
   show(af cl (.pair (.idx O I) .unit) env m).bind _=_;rw[e1];exact e2]
  show(af cl O env m1).bindS env _=_;rw[hO m1 k];show(af cl I env m1).bindS env _=_;rw[hI m1];show(vG _ _ _ m1).bindS env _=_;rw[js b (by simp;lia)];rfl
 .rw[show(xs.map Wd.int).set i (.int (0-a))=(xs.set i (0-a)).map Wd.int from by rw[List.map_set]];have:=(F.up k).flip hd (hr.up k) (by lia) h1 (ys:=xs.set i (0-a)) (by simpa using c) (λy hy=>by
   rcases Wu hy with z|rfl
   .exact d y z
   .lia)
  exact⟨this.1,(bW.of_le k).trans this.2⟩
def eQ (hm:m[l2]?=some (.lst (ds.map Wd.int)))(hd:ds.length=21)(h2:env[2]?=some (some (.ref l2)))(hE:af cl E env m=.ok (.int (i:Nat)) m)(hi:i<21)(hG:af cl G env m=.ok (.int (q:Nat)) m)(hq:0<q):∃v:Nat,v<q/\af cl (.bin .mod (.idx (.var 2) E) G) env m=.ok (.int (v:Nat)) m:=by
 have hx:i<ds.length:=by lia
 have h0:=W3 (ds[i]) (b:=(q:Int)) (by lia);have h1:=WO (ds[i]) (b:=(q:Int)) (by lia);refine⟨(ds[i] % (q:Int)).toNat,by lia,?_⟩;have e1:af cl (.idx (.var 2) E) env m=.ok (.int ds[i]) m:=by
  rw[vv (hv h2) hE];exact zV hm (by rw[Qs,Qc hx];rfl)
 rw[er e1 hG,ls (by lia)];congr 2;lia
noncomputable def Tb(n l0 l1 lt p q:Nat):Prop:=(lt=l0/\p=n/\q=n+1)\/(lt=l1/\p=n+1/\q=n)
def Fl.tab (F:Fl k0 m0 n l0 l1 l2 ds m)(h:Tb n l0 l1 lt p q):bj k0 p q m lt:=by
 rcases h with⟨rfl,rfl,rfl⟩|⟨rfl,rfl,rfl⟩
 .exact F.a
 .exact F.b
def j9 (H:aS cl cd)(h22:∀a:Int,cd 22 [.int a]=.ok (.int (0-a)))(F:Fl k0 m0 n l0 l1 l2 ds m)(hd:ds.length=21)(hn:n<=12)(ht:Tb n l0 l1 lt p q)(ha:a<p)(hb:b<q)(hX:∀m',af cl X env m'=.ok (.ref lt) m')(hY:∀m',af cl Y env m'=.ok (.int (a:Nat)) m')(hZ:∀m',af cl Z env m'=.ok (.int (b:Nat)) m'):
  ∃m',aI cl (.asgS (.idx X Y) Z (.call 22 (.pair (.idx (.idx X Y) Z) .unit))) env m=.next env m'/\Fl k0 m0 n l0 l1 l2 ds m'/\bW m m':=by
 obtain⟨_,rs,e,c,d⟩:=F.tab ht;have hx:a<rs.length:=by lia
 have hq:q<=13:=by rcases ht with⟨_,_,rfl⟩|⟨_,_,rfl⟩<;>lia
 refine qN H h22 F hd (d rs[a] (QC hx)) hq hb (λm' k=>?_) hZ;rw[vv (hX m') (hY m')];exact zV (k _ _ e) (by rw[Qs,Qc hx];rfl)
abbrev Ev(n l0 l1 l2:Nat)(kd:Int)(i6 i7:Nat)(a8 a9 a10 a11 a12 a13 a14:Option Wd):En:=[some (.tup [.ref l0,.ref l1]),some (.int kd),some (.ref l2),some (.ref l0),some (.ref l1),some (.int n),some (.int i6),some (.int i7),a8,a9,a10,a11,a12,a13,a14]
noncomputable def Q7(k0:Nat)(m0:Me)(n l0 l1 l2:Nat)(ds:List Int)(kd:Int)(i6 i7:Nat)(e:En)(m:Me):Prop:=(∃a8 a9 a10 a11 a12 a13 a14,e=Ev n l0 l1 l2 kd i6 i7 a8 a9 a10 a11 a12 a13 a14)/\Fl k0 m0 n l0 l1 l2 ds m
noncomputable def Go(cl:Nat->List Wd->Me->Rz)(P:En->Me->Prop)(s:Sm)(env:En)(m:Me):Prop:=∃e' m',aI cl s env m=.next e' m'/\P e' m'
theorem Go.seq{P Q:En->Me->Prop}{a b:Sm}{env:En}{m:Me}(h:Go cl P a env m)(k:∀e m,P e m->Go cl Q b e m):Go cl Q (.seq a b) env m:=by
 obtain⟨e1,m1,x,y⟩:=h;obtain⟨e2,m2,z,w⟩:=k e1 m1 y;exact⟨e2,m2,by rw[zu x];exact z,w⟩
theorem Go.ite{P:En->Me->Prop}{kd c:Int}{S:Sm}{env:En}{m:Me}(h1:env[1]?=some (some (.int kd)))(hS:kd=c->Go cl P S env m)(hK:P env m):Go cl P (.ite (.cmp .eq (.var 1) (.lit (.int c))) S .skip) env m:=by
 have e:aI cl (.ite (.cmp .eq (.var 1) (.lit (.int c))) S .skip) env m=if kd=c then aI cl S env m else .next env m:=by
  show(af cl (.cmp .eq (.var 1) (.lit (.int c))) env m).bindS env _=_;rw[lu (hv h1) (show af cl (.lit (.int c)) env m=.ok (.int c) m from rfl),show cop .eq (.int kd) (.int c) m=.ok (.bl (decide (kd=c))) m from rfl];by_cases z:kd=c
  .rw[LF z,LJ z];rfl
  .rw[LG z,LC z];rfl
 by_cases z:kd=c
 .obtain ⟨a,b,x,y⟩:=hS z;exact⟨a,b,by rw[e,LF z];exact x,y⟩
 .exact ⟨env,m,by rw[e,LG z],hK⟩
variable{kd:Int}{i6 i7:Nat}
noncomputable def iW:Sm:=(.seq (.asg 9 (.idx (.var 0) (.bin .mod (.idx (.var 2) (.bin .add (.bin .mul (.lit (.int 3)) (.var 8)) (.lit (.int 3)))) (.lit (.int 2))))) (.seq (.asg 10 (.idx (.var 9) (.bin .mod (.idx (.var 2) (.bin .add (.bin .mul (.lit (.int 3)) (.var 8)) (.lit (.int 4)))) (.blt .len (.pair (.var 9) .unit))))) (.seq (.asg 11 (.bin .mod (.idx (.var 2) (.bin .add (.bin .mul (.lit (.int 3)) (.var 8)) (.lit (.int 5)))) (.blt .len (.pair (.var 10) .unit)))) (.asgS (.var 10) (.var 11) (.call 22 (.pair (.idx (.var 10) (.var 11)) .unit))))))
def mz (h:env[8]?=some (some (.int (j:Nat)))):af cl (.bin .add (.bin .mul (.lit (.int 3)) (.var 8)) (.lit (.int (c:Nat)))) env m=.ok (.int ((3*j+c:Nat):Int)) m:=by
 have e:af cl (.bin .mul (.lit (.int 3)) (.var 8)) env m=.ok (.int (3*(j:Int))) m:=by
  rw[er (show af cl (.lit (.int 3)) env m=.ok (.int 3) m from rfl) (hv h),oE (by decide)]
 rw[er e (show af cl (.lit (.int (c:Nat))) env m=.ok (.int (c:Nat)) m from rfl)];show Rz.ok (.int (3*(j:Int)+(c:Int))) m=_;congr 2
def BB (H:aS cl cd)(h22:∀a:Int,cd 22 [.int a]=.ok (.int (0-a)))(hd:ds.length=21)(h1:1<=n)(hn:n<=12)(h:Q7 k0 m0 n l0 l1 l2 ds kd i6 i7 e m)(hj:j<6):Go cl (Q7 k0 m0 n l0 l1 l2 ds kd i6 i7) iW (e.set 8 (some (.int (j:Nat)))) m:=by
 obtain⟨⟨a8,a9,a10,a11,a12,a13,a14,rfl⟩,F⟩:=h;show Go cl _ iW (Ev n l0 l1 l2 kd i6 i7 (some (.int (j:Nat))) a9 a10 a11 a12 a13 a14) m;obtain⟨v,hv2,e1⟩:=eQ (cl:=cl) F.d hd (env:=Ev n l0 l1 l2 kd i6 i7 (some (.int (j:Nat))) a9 a10 a11 a12 a13 a14) rfl (mz (c:=3) rfl) (by lia) (G:=.lit (.int 2)) (q:=2) rfl (by lia);obtain⟨lt,p,q,ht,ei⟩:∃lt p q,Tb n l0 l1 lt p q/\vq (.tup [.ref l0,.ref l1]) (.int (v:Nat)) m=.ok (.ref lt) m:=by
  match v,hv2 with
  |0,_=>exact⟨l0,n,n+1,.inl ⟨rfl,rfl,rfl⟩,rfl⟩
  |1,_=>exact⟨l1,n+1,n,.inr ⟨rfl,rfl,rfl⟩,rfl⟩
 have hp:0<p/\0<q/\q<=13:=by rcases ht with⟨_,rfl,rfl⟩|⟨_,rfl,rfl⟩<;>lia
 have s1:=wM (i:=9) ((vv (show af cl (.var 0) (Ev n l0 l1 l2 kd i6 i7 (some (.int (j:Nat))) a9 a10 a11 a12 a13 a14) m=.ok (.tup [.ref l0,.ref l1]) m from rfl) e1).trans ei);obtain⟨_,rs,tb,tc,td⟩:=F.tab ht;obtain⟨u,hu,e2⟩:=eQ (cl:=cl) F.d hd (env:=Ev n l0 l1 l2 kd i6 i7 (some (.int (j:Nat))) (some (.ref lt)) a10 a11 a12 a13 a14) rfl (mz (c:=4) rfl) (by lia) (G:=.blt .len (.pair (.var 9) .unit)) (q:=p) (by rw[hlen (l:=lt) rfl tb];simp[tc]) hp.1;have hx:u<rs.length:=by lia
 have s2:=wM (i:=10) ((vv (show af cl (.var 9) (Ev n l0 l1 l2 kd i6 i7 (some (.int (j:Nat))) (some (.ref lt)) a10 a11 a12 a13 a14) m=.ok (.ref lt) m from rfl) e2).trans (zV tb (by rw[Qs,Qc hx];rfl)));have hr:=td rs[u] (QC hx);obtain⟨_,xs,rb,rc,rd⟩:=id hr;obtain⟨i,hi,e3⟩:=eQ (cl:=cl) F.d hd (env:=Ev n l0 l1 l2 kd i6 i7 (some (.int (j:Nat))) (some (.ref lt)) (some (.ref rs[u])) a11 a12 a13 a14) rfl (mz (c:=5) rfl) (by lia) (G:=.blt .len (.pair (.var 10) .unit)) (q:=q) (by rw[hlen (l:=rs[u]) rfl rb];simp[rc]) hp.2.1;obtain⟨m',s4,F',_⟩:=qN H h22 F hd hr hp.2.2 hi (O:=.var 10) (I:=.var 11) (env:=Ev n l0 l1 l2 kd i6 i7 (some (.int (j:Nat))) (some (.ref lt)) (some (.ref rs[u])) (some (.int (i:Nat))) a12 a13 a14) (λm' _=>rfl) (λm'=>rfl);refine⟨_,m',Eq.trans ?_ s4,⟨_,_,_,_,_,_,_,rfl⟩,F'⟩;exact(zu s1).trans ((zu s2).trans (zu (wM (i:=11) e3)))
end
end Lib
namespace Lib
section
variable{cl:Nat->List Wd->Me->Rz}{cd:Nat->List Dat->Rd}
noncomputable def Sl(R:Nat->Prop)(m:Me)(d:Option Dat)(w:Option Wd):Prop:=∀x,d=some x->∃u,w=some u/\aj R m x u
noncomputable def bA(R:Nat->Prop)(m:Me)(de:aN)(env:En):Prop:=de.length=env.length/\∀(i:Nat) d,de[i]?=some (some d)->∃w,env[i]?=some (some w)/\aj R m d w
def bA.nil{R:Nat->Prop}{m:Me}:bA R m [] []:=⟨rfl,λi d h=>by simp at h⟩
def bA.cons{R:Nat->Prop}{m:Me}{de:aN}{env:En}{d:Option Dat}{w:Option Wd}(h:Sl R m d w)(k:bA R m de env):bA R m (d::de) (w::env):=by
 refine⟨by simp[k.1],λi x hx=>?_⟩;cases i with
 |zero=>
  obtain⟨u,rfl,q⟩:=h x (by simpa using hx);exact⟨u,rfl,q⟩
 |succ i=>exact k.2 i x (by simpa using hx)
def aG:Sl R m none w:=λ_ h=>by cases h
def iU:Sl R m (some (.int i)) (some (.int i)):=λ_ h=>by cases h;exact⟨_,rfl,aa.mpr rfl⟩
def HY:Sl R m (some (.scr ns)) (some (.rol (ns.map Wd.int))):=λ_ h=>by cases h;exact⟨_,rfl,aU.mpr rfl⟩
def ve (q:aj R m d w):Sl R m (some d) (some w):=λ_ h=>by cases h;exact⟨_,rfl,q⟩
def xp (H:aS cl cd)(q:bA R m de env)(h:aq cd e de=.ok d):∃w m',af cl e env m=.ok w m'/\Le m m'/\aj (Rf R m.length) m' d w:=by
 have s:=zj H e R m de env ⟨q.1,λi _ d z=>q.2 i d z⟩;rw[h]at s;exact s
theorem kq:∀(rs:List Nat),(∀r∈rs,bz k0 q m r)->∃A:List (List Int),A.length=rs.length/\(∀x∈A,x.length=q/\∀v∈x,v=1\/v=-1)/\ae (λl=>k0<=l) m (A.map row) (rs.map Wd.ref)
 |[],_=>⟨[],rfl,(λx h=>by cases h),ae.nil⟩
 |r::rs,h=>by
  obtain⟨A,a,b,c⟩:=kq rs λx hx=>h x (by simp[hx]);obtain⟨k,xs,e,f,g⟩:=h r (by simp);refine⟨xs::A,by simp[a],λx hx=>?_,.cons (ao.mpr ⟨r,_,rfl,k,e,dv xs⟩) c⟩;rcases Qt.mp hx with rfl|hx
  .exact ⟨f,g⟩
  .exact b x hx
def bj.rep (h:bj k0 p q m l):∃A:List (List Int),A.length=p/\(∀x∈A,x.length=q/\∀v∈x,v=1\/v=-1)/\aj (λl=>k0<=l) m (aB A) (.ref l):=by
 obtain⟨a,rs,b,c,d⟩:=h;obtain⟨A,e,f,g⟩:=kq rs d;exact⟨A,by lia,f,ao.mpr ⟨l,_,rfl,a,b,g⟩⟩
theorem kY:∀{l:List Int}{xs:List Wd},ae R m (l.map Dat.int) xs->xs=l.map Wd.int
 |[],_,h=>h.nil_inv
 |i::l,_,h=>by
  obtain⟨x,r,rfl,a,b⟩:=ae.cons_inv (show ae R m (.int i::l.map Dat.int) _ from h);rw[aa.mp a,kY b];rfl
def uX (h:aj R m (row x) w)(hR:∀l,R l->k0<=l)(hq:x.length=q)(hx:∀v∈x,v=1\/v=-1):∃l,w=.ref l/\bz k0 q m l:=by
 obtain⟨l,xs,rfl,a,b,c⟩:=ao.mp h;obtain rfl:=kY c;exact⟨l,rfl,hR l a,x,b,hq,hx⟩
theorem gU (hR:∀l,R l->k0<=l):∀{A:List (List Int)}{ws:List Wd},(∀x∈A,x.length=q/\∀v∈x,v=1\/v=-1)->ae R m (A.map row) ws->∃rs:List Nat,ws=rs.map Wd.ref/\rs.length=A.length/\∀r∈rs,bz k0 q m r
 |[],_,_,h=>⟨[],by rw[h.nil_inv];rfl,rfl,λr h=>by cases h⟩
 |x::A,_,hx,h=>by
  obtain⟨w,r,rfl,a,b⟩:=ae.cons_inv (show ae R m (row x::A.map row) _ from h);obtain⟨l,rfl,q⟩:=uX a hR (hx x (by simp)).1 (hx x (by simp)).2;obtain⟨rs,rfl,c,d⟩:=gU hR (λy hy=>hx y (by simp[hy])) b;refine⟨l::rs,rfl,by simp[c],λs hs=>?_⟩;rcases Qt.mp hs with rfl|hs
  .exact q
  .exact d s hs
def uW (h:aj R m (aB A) w)(hR:∀l,R l->k0<=l)(hp:A.length=p)(hx:∀x∈A,x.length=q/\∀v∈x,v=1\/v=-1):∃l,w=.ref l/\bj k0 p q m l:=by
 obtain⟨l,xs,rfl,a,b,c⟩:=ao.mp h;obtain⟨rs,rfl,d,e⟩:=gU hR hx c;exact⟨l,rfl,hR l a,rs,b,by lia,e⟩
variable{k0 n l0 l1 l2:Nat}{m0 m:Me}{ds:List Int}{kd:Int}{i6 i7:Nat}
abbrev QQ(k0:Nat)(m0:Me)(n l0 l1 l2:Nat)(ds:List Int)(kd:Int)(i6 i7:Nat):=Q7 k0 m0 n l0 l1 l2 ds kd i6 i7
noncomputable def nV:Sm:=.forv 8 (.rng (.lit (.int 0)) (.bin .add (.lit (.int 1)) (.bin .mod (.idx (.var 2) (.lit (.int 2))) (.lit (.int 6)))) (.lit (.int 1))) iW
theorem uV:∀(k:Nat) (lo:Int) (x:Wd),x∈ji lo 1 k->∃j:Nat,j<k/\x=.int (lo+(j:Int))
 |0,lo,x,h=>by cases h
 |k+1,lo,x,h=>by
  rcases Qt.mp (show x∈.int lo::ji (lo+1) 1 k from h)with rfl|h
  .exact ⟨0,by lia,by simp⟩
  .obtain ⟨j,a,rfl⟩:=uV k (lo+1) x h;exact⟨j+1,by lia,by congr 1;lia⟩
def BA (H:aS cl cd)(h22:∀a:Int,cd 22 [.int a]=.ok (.int (0-a)))(hd:ds.length=21)(h1:1<=n)(hn:n<=12)(h:QQ k0 m0 n l0 l1 l2 ds kd i6 i7 e m):Go cl (QQ k0 m0 n l0 l1 l2 ds kd i6 i7) nV e m:=by
 obtain⟨⟨a8,a9,a10,a11,a12,a13,a14,rfl⟩,F⟩:=id h;obtain⟨v,hv6,e1⟩:=eQ (cl:=cl) F.d hd (env:=Ev n l0 l1 l2 kd i6 i7 a8 a9 a10 a11 a12 a13 a14) rfl (E:=.lit (.int 2)) (i:=2) rfl (by lia) (G:=.lit (.int 6)) (q:=6) rfl (by lia);have e2:af cl (.rng (.lit (.int 0)) (.bin .add (.lit (.int 1)) (.bin .mod (.idx (.var 2) (.lit (.int 2))) (.lit (.int 6)))) (.lit (.int 1))) (Ev n l0 l1 l2 kd i6 i7 a8 a9 a10 a11 a12 a13 a14) m=.ok (.tup (ji 0 1 (v+1))) m:=by
  show((af cl (.bin .add (.lit (.int 1)) (.bin .mod (.idx (.var 2) (.lit (.int 2))) (.lit (.int 6)))) _ m).bind λy m2=>eK (.int 0) y (.int 1) m2)=_;rw[er (show af cl (.lit (.int 1)) _ m=.ok (.int 1) m from rfl) e1];show eK (.int 0) (.int (1+(v:Int))) (.int 1) m=_;show(if -(au:Int)<=0/\(0:Int)<=au/\-(au:Int)<=1+(v:Int)/\1+(v:Int)<=au/\((1:Int)=1\/(1:Int)=-1\/(1:Int)=-2)then Rz.ok (.tup (ji 0 1 (vt 0 (1+(v:Int)) 1))) m else .no)=_;rw[LF (by unfold au;lia),show vt 0 (1+(v:Int)) 1=v+1 from by unfold vt;rw[LF rfl];lia]
 obtain⟨e',m',x,y⟩:=gT (body:=λx e m=>aI cl iW (e.set 8 (some x)) m) (QQ k0 m0 n l0 l1 l2 ds kd i6 i7) (ji 0 1 (v+1)) (λx hx env m hp=>by
  obtain⟨j,hj,rfl⟩:=uV _ _ _ hx;have q:=BB H h22 hd h1 hn hp (j:=j) (by lia);rw[show(0:Int)+(j:Int)=(j:Int) by lia];exact q) _ m h
 refine⟨e',m',?_,y⟩;unfold nV;show(af cl _ _ m).bindS _ _=_;rw[e2];exact x
noncomputable def Ah:Sm:=.asgS (.idx (.var 9) (.var 12)) (.var 13) (.call 22 (.pair (.idx (.idx (.var 9) (.var 12)) (.var 13)) .unit))
noncomputable def nU:Ex:=.lst (.pair (.tup (.pair (.var 3) (.pair (.var 6) (.pair (.var 7) .unit)))) (.pair (.tup (.pair (.var 3) (.pair (.var 6) (.pair (.bin .add (.var 7) (.lit (.int 1))) .unit)))) (.pair (.tup (.pair (.var 4) (.pair (.var 6) (.pair (.var 7) .unit)))) (.pair (.tup (.pair (.var 4) (.pair (.bin .add (.var 6) (.lit (.int 1))) (.pair (.var 7) .unit)))) .unit))))
noncomputable def nT:Sm:=.for3 9 12 13 nU Ah
noncomputable def dI(l0 l1 i6 i7:Nat):List (Nat×Nat×Nat):=[(l0,i6,i7),(l0,i6,i7+1),(l1,i6,i7),(l1,i6+1,i7)]
noncomputable def eu(x:Nat×Nat×Nat):Wd:=.tup [.ref x.1,.int (x.2.1:Nat),.int (x.2.2:Nat)]
def Bz (H:aS cl cd)(h22:∀a:Int,cd 22 [.int a]=.ok (.int (0-a)))(hd:ds.length=21)(hn:n<=12)(h6:i6<n)(h7:i7<n)(h:QQ k0 m0 n l0 l1 l2 ds kd i6 i7 e m):Go cl (QQ k0 m0 n l0 l1 l2 ds kd i6 i7) nT e m:=by
 obtain⟨⟨a8,a9,a10,a11,a12,a13,a14,rfl⟩,F⟩:=id h;have e1:af cl nU (Ev n l0 l1 l2 kd i6 i7 a8 a9 a10 a11 a12 a13 a14) m=.ok (.ref m.length) (m++[.lst ((dI l0 l1 i6 i7).map eu)]):=by
  have hz:([.tup [.ref l0,.int i6,.int i7],.tup [.ref l0,.int i6,.int ((i7:Int)+1)],.tup [.ref l1,.int i6,.int i7],.tup [.ref l1,.int ((i6:Int)+1),.int i7]]:List Wd)=(dI l0 l1 i6 i7).map eu:=by
   simp[dI,eu]
  rw[<-hz];have hl:(4:Nat)<=au:=by decide
  have h3:(3:Nat)<=au:=by decide
  rfl
 have ht:∀x∈dI l0 l1 i6 i7,∃p q,Tb n l0 l1 x.1 p q/\x.2.1<p/\x.2.2<q:=by
  intro x hx;simp only[dI,Qt,Vh,or_false]at hx;rcases hx with rfl|rfl|rfl|rfl
  .exact ⟨n,n+1,.inl ⟨rfl,rfl,rfl⟩,h6,by simp;lia⟩
  .exact ⟨n,n+1,.inl ⟨rfl,rfl,rfl⟩,h6,by simp;lia⟩
  .exact ⟨n+1,n,.inr ⟨rfl,rfl,rfl⟩,by simp;lia,h7⟩
  .exact ⟨n+1,n,.inr ⟨rfl,rfl,rfl⟩,by simp;lia,h7⟩
 have hk:∀xs:List Int,xs≠[]->(dI l0 l1 i6 i7).map eu≠xs.map Wd.int:=by
  intro xs hx he;cases xs with
  |nil=>exact hx rfl
  |cons a xs=>simp[dI,eu]at he
 have F1:Fl k0 m0 n l0 l1 l2 ds (m++[.lst ((dI l0 l1 i6 i7).map eu)]):=F.up (Le.app _ _);obtain⟨e',m',x,y,_⟩:=kX (body:=yA (iD 9 12 13) (aI cl Ah)) (l:=m.length) (λ_ e m'=>QQ k0 m0 n l0 l1 l2 ds kd i6 i7 e m'/\m'[m.length]?=some (.lst ((dI l0 l1 i6 i7).map eu))) (p:=4) (λi env m1 hi hp=>by
   obtain⟨⟨⟨b8,b9,b10,b11,b12,b13,b14,rfl⟩,F'⟩,hm⟩:=hp;have hx:i<(dI l0 l1 i6 i7).length:=hi;obtain⟨p,q,tb,ha,hb⟩:=ht _ (QC hx);generalize hz:(dI l0 l1 i6 i7)[i]=z at tb ha hb;obtain⟨m2,s,F2,K⟩:=j9 H h22 F' hd hn tb ha hb (X:=.var 9) (Y:=.var 12) (Z:=.var 13) (env:=Ev n l0 l1 l2 kd i6 i7 b8 (some (.ref z.1)) b10 b11 (some (.int (z.2.1:Nat))) (some (.int (z.2.2:Nat))) b14) (λ_=>rfl) (λ_=>rfl) (λ_=>rfl);exact⟨_,eu z,_,m2,xo hm,by rw[Qs,Qc hx,hz];rfl,s,⟨⟨_,_,_,_,_,_,_,rfl⟩,F2⟩,K _ _ hm hk⟩)
  (λenv m1 hp=>⟨_,xo hp.2,W0 rfl⟩) 4 0 (au+1) (Ev n l0 l1 l2 kd i6 i7 a8 a9 a10 a11 a12 a13 a14) _ rfl (by unfold au;lia) ⟨⟨⟨_,_,_,_,_,_,_,rfl⟩,F1⟩,by rw[Qn (Ql _)];simp⟩
 refine⟨e',m',?_,y⟩;unfold nT;show(af cl nU _ m).bindS _ _=_;rw[e1];exact x
noncomputable def lr:Ex:=.idx (.lst (.pair (.lit (.int 0)) (.pair (.var 5) .unit))) (.bin .mod (.idx (.var 2) (.lit (.int 2))) (.lit (.int 2)))
def sf (F:Fl k0 m0 n l0 l1 l2 ds m)(hd:ds.length=21):∃j m',j<=n/\Le m m'/\af cl lr (Ev n l0 l1 l2 kd i6 i7 a8 a9 a10 a11 a12 a13 a14) m=.ok (.int (j:Nat)) m':=by
 have F1:Fl k0 m0 n l0 l1 l2 ds (m++[.lst [.int 0,.int n]]):=F.up (Le.app _ _);obtain⟨v,hv2,e1⟩:=eQ (cl:=cl) F1.d hd (env:=Ev n l0 l1 l2 kd i6 i7 a8 a9 a10 a11 a12 a13 a14) rfl (E:=.lit (.int 2)) (i:=2) rfl (by lia) (G:=.lit (.int 2)) (q:=2) rfl (by lia);have e2:af cl (.lst (.pair (.lit (.int 0)) (.pair (.var 5) .unit))) (Ev n l0 l1 l2 kd i6 i7 a8 a9 a10 a11 a12 a13 a14) m=.ok (.ref m.length) (m++[.lst [.int 0,.int n]]):=rfl;have hm:(m++[Ob.lst [.int 0,.int n]])[m.length]?=some (.lst [.int 0,.int n]):=by rw[Qn (Ql _)];simp
 match v,hv2 with
 |0,_=>exact⟨0,_,by lia,Le.app _ _,(vv e2 e1).trans (zV hm rfl)⟩
 |1,_=>exact⟨n,_,by lia,Le.app _ _,(vv e2 e1).trans (zV hm rfl)⟩
noncomputable def nS:Sm:=.seq (.asg 14 lr) (.asgS (.var 4) (.var 14) (.comp (.call 22 (.pair (.var 15) .unit)) (.idx (.var 4) (.var 14)) (.lit (.bl true))))
def By (H:aS cl cd)(h22:∀a:Int,cd 22 [.int a]=.ok (.int (0-a)))(hd:ds.length=21)(h1:1<=n)(hn:n<=12)(h:QQ k0 m0 n l0 l1 l2 ds kd i6 i7 e m)(hk:k0<=m.length):Go cl (QQ k0 m0 n l0 l1 l2 ds kd i6 i7) nS e m:=by
 obtain⟨⟨a8,a9,a10,a11,a12,a13,a14,rfl⟩,F⟩:=h;obtain⟨j,m1,hj,k,e1⟩:=sf (cl:=cl) (kd:=kd) (i6:=i6) (i7:=i7) (a8:=a8) (a9:=a9) (a10:=a10) (a11:=a11) (a12:=a12) (a13:=a13) (a14:=a14) F hd;have F1:=F.up k;obtain⟨A,hA,hr,rA⟩:=F1.b.rep;have hx:j<A.length:=by lia
 have i0:yl (aB A) (.int (j:Nat))=.ok (row A[j]):=ke (by rw[Qs,Qc hx];rfl);obtain⟨hq,hp⟩:=hr _ (QC hx);have v:aq cd (.comp (.call 22 (.pair (.var 15) .unit)) (.idx (.var 4) (.var 14)) (.lit (.bl true))) [none,none,none,none,some (aB A),none,none,none,none,none,none,none,none,none,some (.int (j:Nat))]=.ok (row (A[j].map λx=>0-x)):=by
  rw[yy];simp only[zJ,ze,za,aM,i0,row];rw[wf (by simp;unfold au;lia)];simp only;rw[xb Dat.int (λx=>.int (0-x)) A[j] [] (λv _=>by simp) (λx _=>by simp[h22]) (by simp;unfold au;lia)];simp[Wi,Function.comp_def]
 obtain⟨w,m2,e2,k2,r2⟩:=xp H (R:=λl=>k0<=l) (m:=m1) (env:=Ev n l0 l1 l2 kd i6 i7 a8 a9 a10 a11 a12 a13 (some (.int (j:Nat)))) (bA.cons aG (bA.cons aG (bA.cons aG (bA.cons aG (bA.cons (ve rA) (bA.cons aG (bA.cons aG (bA.cons aG (bA.cons aG (bA.cons aG (bA.cons aG (bA.cons aG (bA.cons aG (bA.cons aG (bA.cons iU bA.nil))))))))))))))) v;have:=k.len;obtain⟨r,rfl,hR⟩:=uX (k0:=k0) (q:=n) r2 (λl z=>by
  rcases z with z|z<;>lia) (by simp[hq]) (λv hv=>by
  obtain⟨x,hx,rfl⟩:=QL.mp hv;have:=hp x hx
  lia)
 obtain⟨m3,e3,F3⟩:=(F1.up k2).put hR (by lia) (i:=j) (by lia);refine⟨Ev n l0 l1 l2 kd i6 i7 a8 a9 a10 a11 a12 a13 (some (.int (j:Nat))),m3,?_,⟨_,_,_,_,_,_,_,rfl⟩,F3⟩;unfold nS;refine(zu (wM (i:=14) e1)).trans ?_;show(af cl (.comp (.call 22 (.pair (.var 15) .unit)) (.idx (.var 4) (.var 14)) (.lit (.bl true))) (Ev n l0 l1 l2 kd i6 i7 a8 a9 a10 a11 a12 a13 (some (.int (j:Nat)))) m1).bindS _ _=_;rw[e2];show(vG (.ref l1) (.int (j:Nat)) (.ref r) m2).bindS _ _=_;rw[e3];rfl
noncomputable def Ag:Sm:=.asgS (.var 10) (.var 14) (.call 22 (.pair (.idx (.var 10) (.var 14)) .unit))
noncomputable def nR:Sm:=.seq (.asg 14 lr) (.forv 10 (.var 3) Ag)
def Bx (H:aS cl cd)(h22:∀a:Int,cd 22 [.int a]=.ok (.int (0-a)))(hd:ds.length=21)(h1:1<=n)(hn:n<=12)(h:QQ k0 m0 n l0 l1 l2 ds kd i6 i7 e m):Go cl (QQ k0 m0 n l0 l1 l2 ds kd i6 i7) nR e m:=by
 obtain⟨⟨a8,a9,a10,a11,a12,a13,a14,rfl⟩,F⟩:=h;obtain⟨j,m1,hj,k,e1⟩:=sf (cl:=cl) (kd:=kd) (i6:=i6) (i7:=i7) (a8:=a8) (a9:=a9) (a10:=a10) (a11:=a11) (a12:=a12) (a13:=a13) (a14:=a14) F hd;obtain⟨e',m',x,⟨b10,rfl⟩,y⟩:=kX (body:=λx e m=>aI cl Ag (e.set 10 (some x)) m) (l:=l0) (λ_ e m'=>(∃b10,e=Ev n l0 l1 l2 kd i6 i7 a8 a9 b10 a11 a12 a13 (some (.int (j:Nat))))/\Fl k0 m0 n l0 l1 l2 ds m') (p:=n) (λi env m1 hi hp=>by
   obtain⟨⟨b10,rfl⟩,F'⟩:=hp;obtain⟨_,rs,b,c,d⟩:=F'.a;have hx:i<rs.length:=by lia
   obtain⟨m2,s,F2,_⟩:=qN H h22 F' hd (d rs[i] (QC hx)) (by lia) (i:=j) (by lia) (O:=.var 10) (I:=.var 14) (env:=Ev n l0 l1 l2 kd i6 i7 a8 a9 (some (.ref rs[i])) a11 a12 a13 (some (.int (j:Nat)))) (λ_ _=>rfl) (λ_=>rfl);exact⟨_,_,_,m2,xo b,by rw[Qs,Qc hx];rfl,s,⟨_,rfl⟩,F2⟩)
  (λenv m1 hp=>by
   obtain⟨_,rs,b,c,d⟩:=hp.2.a;exact⟨_,xo b,by simp[c]⟩) n 0 (au+1) (Ev n l0 l1 l2 kd i6 i7 a8 a9 a10 a11 a12 a13 (some (.int (j:Nat)))) m1 (by lia) (by unfold au;lia) ⟨⟨_,rfl⟩,F.up k⟩
 refine⟨Ev n l0 l1 l2 kd i6 i7 a8 a9 b10 a11 a12 a13 (some (.int (j:Nat))),m',?_,⟨_,_,_,_,_,_,_,rfl⟩,y⟩;unfold nR;refine(zu (wM (i:=14) e1)).trans ?_;show(af cl (.var 3) (Ev n l0 l1 l2 kd i6 i7 a8 a9 a10 a11 a12 a13 (some (.int (j:Nat)))) m1).bindS _ _=_;rw[hv (show(Ev n l0 l1 l2 kd i6 i7 a8 a9 a10 a11 a12 a13 (some (.int (j:Nat))))[3]?=some (some (.ref l0))from rfl)];exact x
noncomputable def Af:Sm:=(.seq (.asgS (.idx (.var 3) (.var 6)) (.lit (.int 0)) (.call 22 (.pair (.idx (.idx (.var 3) (.var 6)) (.lit (.int 0))) .unit))) (.asgS (.idx (.var 3) (.var 6)) (.var 5) (.call 22 (.pair (.idx (.idx (.var 3) (.var 6)) (.var 5)) .unit))))
def Bw (H:aS cl cd)(h22:∀a:Int,cd 22 [.int a]=.ok (.int (0-a)))(hd:ds.length=21)(hn:n<=12)(h6:i6<n)(h:QQ k0 m0 n l0 l1 l2 ds kd i6 i7 e m):Go cl (QQ k0 m0 n l0 l1 l2 ds kd i6 i7) Af e m:=by
 obtain⟨⟨a8,a9,a10,a11,a12,a13,a14,rfl⟩,F⟩:=h;obtain⟨m1,e1,F1,_⟩:=j9 H h22 F hd hn (.inl ⟨rfl,rfl,rfl⟩) h6 (b:=0) (by lia) (X:=.var 3) (Y:=.var 6) (Z:=.lit (.int 0)) (env:=Ev n l0 l1 l2 kd i6 i7 a8 a9 a10 a11 a12 a13 a14) (λ_=>rfl) (λ_=>rfl) (λ_=>rfl);obtain⟨m2,e2,F2,_⟩:=j9 H h22 F1 hd hn (.inl ⟨rfl,rfl,rfl⟩) h6 (b:=n) (by lia) (X:=.var 3) (Y:=.var 6) (Z:=.var 5) (env:=Ev n l0 l1 l2 kd i6 i7 a8 a9 a10 a11 a12 a13 a14) (λ_=>rfl) (λ_=>rfl) (λ_=>rfl);exact⟨_,m2,(zu e1).trans e2,⟨_,_,_,_,_,_,_,rfl⟩,F2⟩
end
end Lib
namespace Lib
section
variable{cl:Nat->List Wd->Me->Rz}{cd:Nat->List Dat->Rd}
noncomputable def Ai:Sm:=.seq (.ite (.cmp .eq (.var 1) (.lit (.int 0))) nV .skip) (.seq (.ite (.cmp .eq (.var 1) (.lit (.int 1))) nT .skip) (.seq (.ite (.cmp .eq (.var 1) (.lit (.int 2))) nS .skip) (.seq (.ite (.cmp .eq (.var 1) (.lit (.int 3))) nR .skip) (.ite (.cmp .eq (.var 1) (.lit (.int 4))) Af .skip))))
noncomputable def iQ:Sm:=.fort 3 4 (.tup (.pair (.var 0) .unit)) .skip
noncomputable def dL:Fn:=⟨3,15,(.seq iQ (.seq (.asg 5 (.blt .len (.pair (.var 3) .unit))) (.seq (.asg 6 (.bin .mod (.idx (.var 2) (.lit (.int 0))) (.var 5))) (.seq (.asg 7 (.bin .mod (.idx (.var 2) (.lit (.int 1))) (.var 5))) Ai))))⟩
def E9 (H:aS cl cd)(h22:∀a:Int,cd 22 [.int a]=.ok (.int (0-a)))(F:Fl k0 m n l0 l1 l2 ds m)(hd:ds.length=21)(h1:1<=n)(hn:n<=12):
  ∃m',y4 cl dL [.tup [.ref l0,.ref l1],.int kd,.ref l2] m=.ok .non m'/\Fl k0 m n l0 l1 l2 ds m':=by
 obtain⟨_,rs,tb,tc,td⟩:=F.a;have s0:aI cl iQ [some (.tup [.ref l0,.ref l1]),some (.int kd),some (.ref l2),none,none,none,none,none,none,none,none,none,none,none,none] m=.next [some (.tup [.ref l0,.ref l1]),some (.int kd),some (.ref l2),some (.ref l0),some (.ref l1),none,none,none,none,none,none,none,none,none,none] m:=rfl;have s1:=wM (cl:=cl) (i:=5) (hlen (env:=[some (.tup [.ref l0,.ref l1]),some (.int kd),some (.ref l2),some (.ref l0),some (.ref l1),none,none,none,none,none,none,none,none,none,none]) (j:=3) (l:=l0) rfl tb);rw[Qw,tc]at s1;obtain⟨i6,h6,e6⟩:=eQ (cl:=cl) F.d hd (env:=[some (.tup [.ref l0,.ref l1]),some (.int kd),some (.ref l2),some (.ref l0),some (.ref l1),some (.int (n:Nat)),none,none,none,none,none,none,none,none,none]) rfl (E:=.lit (.int 0)) (i:=0) rfl (by lia) (G:=.var 5) (q:=n) rfl (by lia);obtain⟨i7,h7,e7⟩:=eQ (cl:=cl) F.d hd (env:=[some (.tup [.ref l0,.ref l1]),some (.int kd),some (.ref l2),some (.ref l0),some (.ref l1),some (.int (n:Nat)),some (.int (i6:Nat)),none,none,none,none,none,none,none,none]) rfl (E:=.lit (.int 1)) (i:=1) rfl (by lia) (G:=.var 5) (q:=n) rfl (by lia);have kl:∀{m':Me},Fl k0 m n l0 l1 l2 ds m'->k0<=m'.length:=λF'=>by
  obtain⟨a,rs,b,_⟩:=F'.a;have:=(Qa.mp b).1;lia
 have one:∀{e:En}{m':Me},Q7 k0 m n l0 l1 l2 ds kd i6 i7 e m'->e[1]?=some (some (.int kd)):=by
  rintro e m' ⟨⟨_,_,_,_,_,_,_,rfl⟩,_⟩;rfl
 have g:Go cl (Q7 k0 m n l0 l1 l2 ds kd i6 i7) Ai (Ev n l0 l1 l2 kd i6 i7 none none none none none none none) m:=
  Go.seq (Go.ite rfl (λ_=>BA H h22 hd h1 hn ⟨⟨_,_,_,_,_,_,_,rfl⟩,F⟩) ⟨⟨_,_,_,_,_,_,_,rfl⟩,F⟩) λe m q=>
  Go.seq (Go.ite (one q) (λ_=>Bz H h22 hd hn h6 h7 q) q) λe m q=>
  Go.seq (Go.ite (one q) (λ_=>By H h22 hd h1 hn q (kl q.2)) q) λe m q=>
  Go.seq (Go.ite (one q) (λ_=>Bx H h22 hd h1 hn q) q) λe m q=>
  Go.ite (one q) (λ_=>Bw H h22 hd hn h6 q) q
 obtain⟨e',m',x,_,y⟩:=g;refine⟨m',?_,y⟩;have z:aI cl dL.body (yo dL [.tup [.ref l0,.ref l1],.int kd,.ref l2]) m=.next e' m':=(zu s0).trans ((zu s1).trans ((zu (wM (i:=6) e6)).trans ((zu (wM (i:=7) e7)).trans x)));unfold y4;rw[LF (by rfl),z]
mutual
theorem gc:∀(k:Nat) (d:Dat) (j:Nat),zn k d=true->yG (k+j) d=true
 |0,_,_,h=>by unfold zn at h;cases h
 |k+1,.lst ds,j,h=>by
  have h':(decide (ds.length<=au)&&aF k ds)=true:=by unfold zn at h;exact h
  rw[Qj]at h';rw[Wn,jU];exact ck k ds j h'.2
 |k+1,.tup ds,j,h=>by
  have h':(decide (ds.length<=au)&&aF k ds)=true:=by unfold zn at h;exact h
  rw[Qj]at h';rw[Wn,FX];exact ck k ds j h'.2
 |k+1,.scr _,_,h=>by unfold zn at h;cases h
 |k+1,.non,j,_=>by rw[Wn];rfl
 |k+1,.bl _,j,_=>by rw[Wn];rfl
 |k+1,.int _,j,_=>by rw[Wn];rfl
 |k+1,.str _,j,_=>by rw[Wn];rfl
theorem ck:∀(k:Nat) (ds:List Dat) (j:Nat),aF k ds=true->bq (k+j) ds=true
 |k,[],j,_=>by rw[Hd]
 |k,d::ds,j,h=>by
  have h':(zn k d&&aF k ds)=true:=by unfold aF at h;exact h
  rw[Qj]at h';rw[Hq,gc k d j h'.1,ck k ds j h'.2];rfl
end
def yS (h1:ds.length<=au)(h2:aF k ds=true):zn (k+1) (.lst ds)=true:=by
 unfold zn;rw[LJ h1,h2];rfl
def xL (h1:ds.length<=au)(h2:aF k ds=true):zn (k+1) (.tup ds)=true:=by
 unfold zn;rw[LJ h1,h2];rfl
def zH (h1:zn k d=true)(h2:aF k ds=true):aF k (d::ds)=true:=by
 unfold aF;rw[h1,h2];rfl
def yT:aF k []=true:=by
 unfold aF;rfl
theorem yt:∀{ds:List Dat},(∀d∈ds,zn k d=true)->aF k ds=true
 |[],_=>yT
 |d::ds,h=>zH (h d (by simp)) (yt λx hx=>h x (by simp[hx]))
def wx (h:x.length<=100):zn (k+2) (row x)=true:=yS (by simp;unfold au;lia) (yt λd hd=>by
 obtain⟨i,_,rfl⟩:=QL.mp hd;unfold zn
 rfl)
def vp (h:A.length<=100)(hx:∀x∈A,x.length<=100):zn (k+3) (aB A)=true:=yS (by simp;unfold au;lia) (yt λd hd=>by
 obtain⟨i,hi,rfl⟩:=QL.mp hd;exact wx (hx i hi))
def F4 (h:zn k d=true):fU d=true:=by
 cases d with
 |scr _=>cases k<;>(unfold zn at h;cases h)
 |_=>rfl
def gW (h:zn (k+1) d=true):dw d=true:=by
 cases d with
 |scr _=>unfold zn at h;cases h
 |lst ds=>
  have h':(decide (ds.length<=au)&&aF k ds)=true:=by unfold zn at h;exact h
  rw[Qj]at h';exact QE.mpr λx hx=>F4 (xK h'.2 x hx)
 |_=>rfl
def kZ (h:zn (k+2) d=true):ft d=true:=by
 cases d with
 |scr _=>unfold zn at h;cases h
 |tup ds=>
  have h':(decide (ds.length<=au)&&aF (k+1) ds)=true:=by unfold zn at h;exact h
  rw[Qj]at h'
  match ds,h'.2 with
  |[],_=>rfl
  |[x],_=>rfl
  |[x,y],q=>
   show(dw x&&dw y)=true;rw[gW (xK q x (by simp)),gW (xK q y (by simp))];rfl
  |_::_::_::_,_=>rfl
 |_=>rfl
theorem Ad (hZ:aj R m Z (.ref r))(pZ:zn k Z=true):∀rs:List Nat,(∀s∈rs,s≠r->∃d,aj R m d (.ref s)/\zn k d=true)->∃X:List Dat,X.length=rs.length/\ae R m X (rs.map Wd.ref)/\aF k X=true/\(r∈rs->Z∈X)
 |[],_=>⟨[],rfl,ae.nil,yT,λh=>by cases h⟩
 |s::rs,h=>by
  obtain⟨X,a,b,c,d⟩:=Ad hZ pZ rs λx hx=>h x (by simp[hx]);by_cases e:s=r
  .subst e;exact⟨Z::X,by simp[a],.cons hZ b,zH pZ c,λ_=>by simp⟩
  .obtain ⟨y,hy,py⟩:=h s (by simp) e;refine⟨y::X,by simp[a],.cons hy b,zH py c,λhr=>?_⟩;rcases Qt.mp hr with z|z
   .exact LH z.symm e
   .exact Qk _ (d z)
def gd(XA XD:List Dat):yz (.tup [.lst XA,.lst XD])=(decide (1<=(XA.length:Int)/\(XA.length:Int)<=12)&&((decide ((XA.length:Int)=XA.length)&&XA.all (wL ((XA.length:Int)+1)))&&(decide ((XD.length:Int)=(XA.length:Int)+1)&&XD.all (wL XA.length)))):=rfl
def gf (hA:XA.length=n)(hD:XD.length=n+1)(h:Tb n l0 l1 lt p q)(hz:wL q Z=false)(hZ:(lt=l0/\p=n/\q=n+1->Z∈XA)/\(lt=l1/\p=n+1/\q=n->Z∈XD)):yz (.tup [.lst XA,.lst XD])=false:=by
 rw[gd,hA];rcases h with h|h
 .have e:XA.all (wL ((n:Int)+1))=false:=Vd.mpr ⟨Z,hZ.1 h,by rw[show((n:Int)+1)=((n+1:Nat):Int) by lia,<-h.2.2,hz];simp⟩;simp[e]
 .have e:XD.all (wL (n:Int))=false:=Vd.mpr ⟨Z,hZ.2 h,by rw[<-h.2.2,hz];simp⟩;simp[e]
end
end Lib
namespace Lib
section
variable{cl:Nat->List Wd->Me->Rz}
def rq (h:0<j/\j<1073741824):cz .fdiv (.int i) (.int j) m=.ok (.int (i/j)) m:=by
 show(if 0<j/\j<1073741824 then _ else _)=_;rw[LF h]
def iG (h1:af cl o env m=.ok x m1)(h2:yn x m1=true)(h3:af cl a env m1=.ok y m2):af cl (.meth n o a) env m=b6 n x (zq y) m2:=by
 show(af cl o env m).bind _=_;rw[h1];show(match yn x m1 with|true=>_|false=>_)=_;rw[h2];show(af cl a env m1).bind _=_;rw[h3];rfl
def fS (h:af cl e env m=.ok w m1):aI cl (.expr e) env m=.next env m1:=by
 show(af cl e env m).bindS env _=_;rw[h];rfl
def ku (h:m[l]?=some (.lst xs)):yn (.ref l) m=true:=aR h
def sy (h:m[l]?=some (.lst xs))(hl:xs.length<au):b6 .append (.ref l) [y] m=.ok .non (m.set l (.lst (xs++[y]))):=by
 show(match m[l]? with|some (.lst xs)=>(if xs.length<au then Rz.ok .non (m.set l (.lst (xs++[y])))else .no)|_=>.no)=_;rw[h];show(if xs.length<au then _ else _)=_;rw[LF hl]
def sw (h:m[l]?=some (.lst xs))(hl:xs[xs.length-1]?=some y):b6 .pop (.ref l) [] m=.ok y (m.set l (.lst xs.dropLast)):=by
 show(match m[l]? with|some (.lst xs)=>(match xs[xs.length-1]? with|some y=>Rz.ok y (m.set l (.lst xs.dropLast))|none=>.no)|_=>.no)=_;rw[h];show(match xs[xs.length-1]? with|some y=>Rz.ok y (m.set l (.lst xs.dropLast))|none=>.no)=_;rw[hl]
def iy (h2:env[2]?=some (some (.int c)))(hj:0<j/\j<1000)(hG:af cl G env m=.ok (.int (q:Nat)) m)(hq:0<q):∃v:Nat,v<q/\af cl (.bin .mod (.bin .fdiv (.var 2) (.lit (.int (j:Nat)))) G) env m=.ok (.int (v:Nat)) m:=by
 have h0:=W3 (c / (j:Int)) (b:=(q:Int)) (by lia);have h1:=WO (c / (j:Int)) (b:=(q:Int)) (by lia);refine⟨(c / (j:Int) % (q:Int)).toNat,by lia,?_⟩;have e1:af cl (.bin .fdiv (.var 2) (.lit (.int (j:Nat)))) env m=.ok (.int (c / (j:Int))) m:=by
  rw[er (hv h2) (show af cl (.lit (.int (j:Nat))) env m=.ok (.int (j:Nat)) m from rfl),rq (by lia)]
 rw[er e1 hG,ls (by lia)];congr 2;lia
noncomputable def bQ(k0:Nat)(ms:Me)(l0 l1:Nat)(m:Me):Prop:=(∀(l:Nat) o,l<k0->ms[l]?=some o->m[l]?=some o)/\∃d,aj (λl=>k0<=l) m d (.tup [.ref l0,.ref l1])/\zn 6 d=true/\yz d=false
def wN {m:Me}(h:m[l]?=some o):l<m.length:=(Qa.mp h).1
variable{k0 n l0 l1 lt p q:Nat}{ms m:Me}
def bQ.mk'(hA:∀(l:Nat) o,l<k0->ms[l]?=some o->m[l]?=some o){XA XD:List Dat}(a:aj (λl=>k0<=l) m (.lst XA) (.ref l0))(d:aj (λl=>k0<=l) m (.lst XD) (.ref l1))(la:XA.length<=100)(ld:XD.length<=100)(pa:aF 4 XA=true)(pd:aF 4 XD=true)(hb:yz (.tup [.lst XA,.lst XD])=false):bQ k0 ms l0 l1 m:=
 ⟨hA,_,ai.mpr ⟨_,rfl,.cons a (.cons d .nil)⟩,xL (by simp;unfold au;lia) (zH (yS (by unfold au;lia) pa) (zH (yS (by unfold au;lia) pd) yT)),hb⟩
def ky {b:List Nat}(h:a.map Wd.ref=b.map Wd.ref):a=b:=by
 have:=LI (List.map λw=>match w with|Wd.ref l=>l|_=>0) h;simpa [Wi,Function.comp_def]using this
def my (h1:1<=n)(hn:n<=12)(a:bj k0 n (n+1) ms l0)(b:bj k0 (n+1) n ms l1)(tb:Tb n l0 l1 lt p q){rs:List Nat}(hrs:ms[lt]?=some (.lst (rs.map Wd.ref)))(hr:r∈rs)(hR:bz k0 q ms r)(k:Le ms m)(hy:ae (λl=>k0<=l) (m.set r (.lst ys)) dys ys)(pl:zn 4 (.lst dys)=true)(hz:wL q (.lst dys)=false):bQ k0 ms l0 l1 (m.set r (.lst ys)):=by
 obtain⟨kr,xs,b1,b2,b3⟩:=hR;have hq:0<q:=by rcases tb with⟨_,_,rfl⟩|⟨_,_,rfl⟩<;>lia
 have hZ:aj (λl=>k0<=l) (m.set r (.lst ys)) (.lst dys) (.ref r):=ao.mpr ⟨r,ys,rfl,kr,QM (wN (k _ _ b1)),hy⟩;have key:∀{t p' q':Nat},q'<=13->bj k0 p' q' ms t->∃X:List Dat,X.length=p'/\aj (λl=>k0<=l) (m.set r (.lst ys)) (.lst X) (.ref t)/\aF 4 X=true/\∀rs:List Nat,ms[t]?=some (.lst (rs.map Wd.ref))->r∈rs->Dat.lst dys∈X:=by
  rintro t p' q' h13 ⟨kt,rt,c1,c2,c3⟩;obtain⟨X,x1,x2,x3,x4⟩:=Ad hZ pl rt λs hs hne=>by
   obtain⟨ks,zs,d1,d2,d3⟩:=c3 s hs;exact⟨row zs,ao.mpr ⟨s,_,rfl,ks,by rw[Qe (λe=>hne e.symm)];exact k _ _ d1,dv zs⟩,wx (by lia)⟩
  refine⟨X,by lia,ao.mpr ⟨t,_,rfl,kt,?_,x2⟩,x3,λrs' e hr'=>x4 ?_⟩
  .rw[Qe]
   .exact k _ _ c1
   .rintro rfl;rw[b1]at c1;have e:xs.map Wd.int=rt.map Wd.ref:=by simpa using c1
    rw[yZ e]at b2;simp at b2;lia
  .rw[c1]at e;have e2:rt=rs':=ky (by simpa using e);rw[e2];exact hr'
 obtain⟨XA,a1,a2,a3,a4⟩:=key (by lia) a;obtain⟨XD,d1,d2,d3,d4⟩:=key (by lia) b;refine bQ.mk' (λl o hl z=>?_) a2 d2 (by lia) (by lia) a3 d3 (gf a1 d1 tb hz ⟨λh=>a4 rs ?_ hr,λh=>d4 rs ?_ hr⟩)
 .rw[Qe (by lia)];exact k _ _ z
 .rw[<-h.1];exact hrs
 .rw[<-h.1];exact hrs
def gh {rs:List Nat}(hrs:ms[lt]?=some (.lst (rs.map Wd.ref)))(k:Le ms m)(h:bz k0 q' m s)(hq:0<q'):bz k0 q' (m.set lt (.lst ws)) s:=by
 obtain⟨ks,xs,a,b,c⟩:=h;refine⟨ks,xs,?_,b,c⟩;rw[Qe]
 .exact a
 .rintro rfl;rw[k _ _ hrs]at a;have e:xs.map Wd.int=rs.map Wd.ref:=by simpa using a.symm
  rw[yZ e]at b;simp at b;lia
def sv (h1:1<=n)(hn:n<=12)(a:bj k0 n (n+1) ms l0)(b:bj k0 (n+1) n ms l1)(tb:Tb n l0 l1 lt p q){rs:List Nat}(hrs:ms[lt]?=some (.lst (rs.map Wd.ref)))(k:Le ms m)(hy:ae (λl=>k0<=l) (m.set lt (.lst ws)) dws ws)(pl:aF 4 dws=true)(hl:dws.length<=100)(hb:(lt=l0/\p=n/\q=n+1->∀XD:List Dat,XD.length=n+1->yz (.tup [.lst dws,.lst XD])=false)/\(lt=l1/\p=n+1/\q=n->∀XA:List Dat,XA.length=n->yz (.tup [.lst XA,.lst dws])=false)):bQ k0 ms l0 l1 (m.set lt (.lst ws)):=by
 have kt:k0<=lt:=by
  rcases tb with⟨rfl,_⟩|⟨rfl,_⟩
  .exact a.1
  .exact b.1
 have hZ:aj (λl=>k0<=l) (m.set lt (.lst ws)) (.lst dws) (.ref lt):=ao.mpr ⟨lt,ws,rfl,kt,QM (wN (k _ _ hrs)),hy⟩;have lo:∀(l:Nat) o,l<k0->ms[l]?=some o->(m.set lt (.lst ws))[l]?=some o:=λl o hl z=>by
  rw[Qe (by lia)];exact k _ _ z
 have key:∀{t p' q':Nat},q'<=13->0<q'->p'≠rs.length->bj k0 p' q' ms t->∃X:List (List Int),X.length=p'/\(∀x∈X,x.length<=100)/\aj (λl=>k0<=l) (m.set lt (.lst ws)) (aB X) (.ref t):=by
  rintro t p' q' h13 h0 hp ⟨kt,rt,c1,c2,c3⟩;have z:bj k0 p' q' (m.set lt (.lst ws)) t:=by
   refine⟨kt,rt,?_,c2,λs hs=>gh hrs k ((c3 s hs).up k) h0⟩;rw[Qe]
   .exact k _ _ c1
   .rintro rfl;rw[hrs]at c1;have e2:rs=rt:=ky (by simpa using c1);rw[e2]at hp;lia
  obtain⟨X,x1,x2,x3⟩:=z.rep;exact⟨X,x1,λx hx=>by rw[(x2 x hx).1];lia,x3⟩
 have pX:∀{X:List (List Int)},(∀x∈X,x.length<=100)->aF 4 (X.map row)=true:=λh=>yt λd hd=>by
  obtain⟨x,hx,rfl⟩:=QL.mp hd;exact wx (h x hx)
 rcases tb with⟨rfl,h2,h3⟩|⟨rfl,h2,h3⟩
 .have hp:rs.length=n:=by
   obtain⟨_,rt,c1,c2,_⟩:=a;rw[hrs]at c1;have e2:rs=rt:=ky (by simpa using c1);rw[e2];exact c2
  obtain⟨X,x1,x2,x3⟩:=key (by lia) (by lia) (by lia) b;exact bQ.mk' lo hZ x3 hl (by simp;lia) pl (pX x2) (hb.1 ⟨rfl,h2,h3⟩ _ (by simp[x1]))
 .have hp:rs.length=n+1:=by
   obtain⟨_,rt,c1,c2,_⟩:=b;rw[hrs]at c1;have e2:rs=rt:=ky (by simpa using c1);rw[e2];exact c2
  obtain⟨X,x1,x2,x3⟩:=key (by lia) (by lia) (by lia) a;exact bQ.mk' lo x3 hZ (by simp;lia) hl (pX x2) pl (hb.2 ⟨rfl,h2,h3⟩ _ (by simp[x1]))
end
end Lib
namespace Lib
section
variable{cl:Nat->List Wd->Me->Rz}
def Bv (h:af cl X env m=.ok (.ref l) m)(hm:m[l]?=some (.lst ws)):af cl (.blt .len (.pair X .unit)) env m=.ok (.int ws.length) m:=by
 show(((af cl X env m).bind _).bind _)=_;rw[h];show(match yr m (.ref l)with|some xs=>Rz.ok (.int xs.length) m|none=>.no)=_;rw[show yr m (.ref l)=some ws from xo hm]
def k8 (h:af cl X env m=.ok w m1):af cl (.pair X .unit) env m=.ok (.tup [w]) m1:=by
 show(af cl X env m).bind _=_;rw[h];rfl
def gX (h:XD.length≠XA.length+1):yz (.tup [.lst XA,.lst XD])=false:=by
 rw[gd,LC (p:=(XD.length:Int)=(XA.length:Int)+1) (by lia)];simp
def uU {xs:List Dat}(h:xs.length≠q):wL q (.lst xs)=false:=by
 show(decide ((xs.length:Int)=q)&&_)=false;rw[LC (by lia)];rfl
def E8 {q:Nat}(h:d∈xs)(hd:kW d=false):wL q (.lst xs)=false:=by
 show(_&&xs.all kW)=false;rw[Vd.mpr ⟨d,h,by rw[hd];simp⟩,WN]
def xf:zn (k+1) (.int i)=true:=by unfold zn;rfl
abbrev Eb(kd c:Int)(l0 l1:Nat)(wo:Wd)(lt a:Nat):En:=[some (.tup [.ref l0,.ref l1]),some (.int kd),some (.int c),some (.ref l0),some (.ref l1),some wo,some (.ref lt),some (.int (a:Nat))]
variable{k0 n l0 l1 lt p q at0:Nat}{ms m:Me}{kd c:Int}{wo:Wd}{odd:Dat}
structure Bd(k0 n l0 l1 lt p q at0:Nat)(ms:Me)(wo:Wd)(odd:Dat)(m:Me):Prop where
 h1:1<=n
 hn:n<=12
 a:bj k0 n (n+1) ms l0
 b:bj k0 (n+1) n ms l1
 tb:Tb n l0 l1 lt p q
 at_:at0<p
 le:Le ms m
 od:aj (λl=>ms.length<=l) m odd wo
 op:zn 3 odd=true
 ob:kW odd=false
def Bd.pq(B:Bd k0 n l0 l1 lt p q at0 ms wo odd m):0<q/\q<=13/\0<p/\p<=13:=by
 have h1:=B.h1;have hn:=B.hn;rcases B.tb with⟨_,rfl,rfl⟩|⟨_,rfl,rfl⟩<;>lia
def Bd.tab(B:Bd k0 n l0 l1 lt p q at0 ms wo odd m):bj k0 p q ms lt:=by
 rcases B.tb with⟨rfl,rfl,rfl⟩|⟨rfl,rfl,rfl⟩
 .exact B.a
 .exact B.b
def Bd.kz(B:Bd k0 n l0 l1 lt p q at0 ms wo odd m):k0<=ms.length:=by
 obtain⟨a,rs,b,_⟩:=B.a;have:=wN b;lia
def Bd.row(B:Bd k0 n l0 l1 lt p q at0 ms wo odd m):∃(rs:List Nat) (r:Nat) (xs:List Int),ms[lt]?=some (.lst (rs.map Wd.ref))/\rs.length=p/\(∀s∈rs,bz k0 q ms s)/\rs[at0]?=some r/\r∈rs/\bz k0 q ms r/\ms[r]?=some (.lst (xs.map Wd.int))/\xs.length=q/\af cl (.idx (.var 6) (.var 7)) (Eb kd c l0 l1 wo lt at0) m=.ok (.ref r) m:=by
 obtain⟨_,rs,e,h,d⟩:=B.tab;have hx:at0<rs.length:=by rw[h];exact B.at_
 have hm:=QC hx;obtain⟨g,xs,b2,b3,b4⟩:=d _ hm;refine⟨rs,rs[at0],xs,e,h,d,Qc hx,hm,d _ hm,b2,b3,?_⟩;rw[vv (hv (show(Eb kd c l0 l1 wo lt at0)[6]?=some (some (.ref lt))from rfl)) (hv (show(Eb kd c l0 l1 wo lt at0)[7]?=some (some (.int (at0:Nat)))from rfl))];exact zV (B.le _ _ e) (by rw[Qs,Qc hx];rfl)
noncomputable def A8:Sm:=.asgS (.idx (.var 6) (.var 7)) (.bin .mod (.bin .fdiv (.var 2) (.lit (.int 200))) (.blt .len (.pair (.idx (.var 6) (.var 7)) .unit))) (.var 5)
def oM(B:Bd k0 n l0 l1 lt p q at0 ms wo odd m):∃m',aI cl A8 (Eb kd c l0 l1 wo lt at0) m=.next (Eb kd c l0 l1 wo lt at0) m'/\bQ k0 ms l0 l1 m':=by
 obtain⟨rs,r,xs,e,h,d,hr,hm,hR,hx,hl,eO⟩:=B.row (cl:=cl) (kd:=kd) (c:=c);have hx':=B.le _ _ hx;obtain⟨v,hv2,eI⟩:=iy (cl:=cl) (env:=Eb kd c l0 l1 wo lt at0) (m:=m) (c:=c) (j:=200) rfl (by lia) (G:=.blt .len (.pair (.idx (.var 6) (.var 7)) .unit)) (q:=q) (by rw[Bv eO hx'];simp[hl]) B.pq.1;refine⟨m.set r (.lst ((xs.map Wd.int).set v wo)),?_,?_⟩
 .show (af cl (.idx (.var 6) (.var 7)) (Eb kd c l0 l1 wo lt at0) m).bindS _ _=_;rw[show af cl (.idx (.var 6) (.var 7)) (Eb kd c l0 l1 wo lt at0) m=.ok (.ref r) m from eO];show(af cl (.bin .mod (.bin .fdiv (.var 2) (.lit (.int 200))) (.blt .len (.pair (.idx (.var 6) (.var 7)) .unit))) (Eb kd c l0 l1 wo lt at0) m).bindS _ _=_;rw[show af cl (.bin .mod (.bin .fdiv (.var 2) (.lit (.int 200))) (.blt .len (.pair (.idx (.var 6) (.var 7)) .unit))) (Eb kd c l0 l1 wo lt at0) m=.ok (.int (v:Nat)) m from eI];show(vG _ _ _ m).bindS _ _=_;rw[js hx' (by simp;lia)];rfl
 .have hlt:=wN hx;refine my B.h1 B.hn B.a B.b B.tb e hm hR B.le (dys:=(xs.map Dat.int).set v odd) ?_ ?_ ?_
  .refine ae.set (dv xs) v (aj.frame (λl o z y=>⟨?_,?_⟩) _ _ B.od)
   .have:=B.kz;show k0<=l;lia
   .rw[Qe (by lia)];exact y
  .refine yS (by simp;unfold au;have:=B.pq;lia) (yt λy hy=>?_);rcases Wu hy with z|rfl
   .obtain ⟨i,_,rfl⟩:=QL.mp z;exact xf
   .exact B.op
  .exact E8 (List.mem_set (by simp;lia) odd) B.ob
noncomputable def A7:Sm:=.expr (.meth .append (.idx (.var 6) (.var 7)) (.pair (.idx (.idx (.var 6) (.var 7)) (.lit (.int 0))) .unit))
def oK(B:Bd k0 n l0 l1 lt p q at0 ms wo odd m):∃m',aI cl A7 (Eb kd c l0 l1 wo lt at0) m=.next (Eb kd c l0 l1 wo lt at0) m'/\bQ k0 ms l0 l1 m':=by
 obtain⟨rs,r,xs,e,h,d,hr,hm,hR,hx,hl,eO⟩:=B.row (cl:=cl) (kd:=kd) (c:=c);have hx':=B.le _ _ hx;have h0:0<xs.length:=by rw[hl];exact B.pq.1
 have eA:af cl (.idx (.idx (.var 6) (.var 7)) (.lit (.int 0))) (Eb kd c l0 l1 wo lt at0) m=.ok (.int xs[0]) m:=(vv eO (show af cl (.lit (.int 0)) _ m=.ok (.int ((0:Nat):Int)) m from rfl)).trans (zV hx' (by rw[Qs,Qc h0];rfl));refine⟨m.set r (.lst (xs.map Wd.int++[Wd.int xs[0]])),fS ((iG eO (ku hx') (k8 eA)).trans (sy (y:=Wd.int xs[0]) hx' (by simp;unfold au;have:=B.pq;lia))),?_⟩;refine my B.h1 B.hn B.a B.b B.tb e hm hR B.le (dys:=xs.map Dat.int++[.int xs[0]]) ?_ ?_ ?_
 .exact ae.app (dv xs) (.cons (aa.mpr rfl) .nil)
 .refine yS (by simp;unfold au;have:=B.pq;lia) (yt λy hy=>?_);rcases Qy.mp hy with z|z
  .obtain ⟨i,_,rfl⟩:=QL.mp z;exact xf
  .rw[QJ.mp z];exact xf
 .exact uU (by simp;lia)
noncomputable def A6:Sm:=.expr (.meth .pop (.idx (.var 6) (.var 7)) .unit)
def oJ(B:Bd k0 n l0 l1 lt p q at0 ms wo odd m):∃m',aI cl A6 (Eb kd c l0 l1 wo lt at0) m=.next (Eb kd c l0 l1 wo lt at0) m'/\bQ k0 ms l0 l1 m':=by
 obtain⟨rs,r,xs,e,h,d,hr,hm,hR,hx,hl,eO⟩:=B.row (cl:=cl) (kd:=kd) (c:=c);have hx':=B.le _ _ hx;have h0:=B.pq;have hz:xs.length-1<xs.length:=by lia
 refine⟨m.set r (.lst (xs.map Wd.int).dropLast),fS ((iG eO (ku hx') (show af cl .unit (Eb kd c l0 l1 wo lt at0) m=.ok (.tup []) m from rfl)).trans (sw hx' (by rw[Qw,Qs,Qc hz];rfl))),?_⟩;refine my B.h1 B.hn B.a B.b B.tb e hm hR B.le (dys:=xs.dropLast.map Dat.int) ?_ ?_ ?_
 .rw[<-List.map_dropLast];exact dv _
 .refine yS (by simp;unfold au;lia) (yt λy hy=>?_);obtain⟨i,_,rfl⟩:=QL.mp hy;exact xf
 .exact uU (by simp;lia)
def Bd.rows (B:Bd k0 n l0 l1 lt p q at0 ms wo odd m)(k:Le ms m1){rs rs':List Nat}(e:ms[lt]?=some (.lst (rs.map Wd.ref)))(hr:∀s∈rs',bz k0 q m1 s)(hl:rs'.length≠p)(h9:rs'.length<=20):bQ k0 ms l0 l1 (m1.set lt (.lst (rs'.map Wd.ref))):=by
 have h0:=B.pq;obtain⟨A,a1,a2,a3⟩:=kq rs' λs hs=>gh e k (ws:=rs'.map Wd.ref) (hr s hs) h0.1;refine sv B.h1 B.hn B.a B.b B.tb e k a3 (yt λy hy=>?_) (by simp;lia) ⟨?_,?_⟩
 .obtain ⟨x,hx,rfl⟩:=QL.mp hy;exact wx (by rw[(a2 x hx).1];lia)
 .rintro ⟨_,rfl,_⟩ XD hX;exact gX (by simp;lia)
 .rintro ⟨_,rfl,_⟩ XA hX;exact gX (by simp;lia)
noncomputable def A5:Sm:=.expr (.meth .append (.var 6) (.pair (.blt .list (.pair (.idx (.var 6) (.lit (.int 0))) .unit)) .unit))
def oI(B:Bd k0 n l0 l1 lt p q at0 ms wo odd m):∃m',aI cl A5 (Eb kd c l0 l1 wo lt at0) m=.next (Eb kd c l0 l1 wo lt at0) m'/\bQ k0 ms l0 l1 m':=by
 obtain⟨_,rs,e,h,d⟩:=B.tab;have h0:=B.pq;have hx:0<rs.length:=by lia
 obtain⟨g,xs,b2,b3,b4⟩:=d _ (QC hx);have e':=B.le _ _ e;have eA:af cl (.idx (.var 6) (.lit (.int 0))) (Eb kd c l0 l1 wo lt at0) m=.ok (.ref rs[0]) m:=(vv (hv (show(Eb kd c l0 l1 wo lt at0)[6]?=some (some (.ref lt))from rfl)) (show af cl (.lit (.int 0)) _ m=.ok (.int ((0:Nat):Int)) m from rfl)).trans (zV e' (by rw[Qs,Qc hx];rfl));have eB:af cl (.blt .list (.pair (.idx (.var 6) (.lit (.int 0))) .unit)) (Eb kd c l0 l1 wo lt at0) m=.ok (.ref m.length) (m++[.lst (xs.map Wd.int)]):=by
  show(af cl (.pair (.idx (.var 6) (.lit (.int 0))) .unit) (Eb kd c l0 l1 wo lt at0) m).bind _=_;rw[k8 eA];show(match yr m (.ref rs[0])with|some xs=>alloc m xs|none=>.no)=_;rw[show yr m (.ref rs[0])=some (xs.map Wd.int)from xo (B.le _ _ b2)];show alloc m (xs.map Wd.int)=_;unfold alloc;rw[LF (by simp;unfold au;lia)]
 have k:Le m (m++[.lst (xs.map Wd.int)]):=Le.app _ _;have hk:=B.kz;have hk2:=B.le.len;refine⟨_,fS ((iG (hv (show(Eb kd c l0 l1 wo lt at0)[6]?=some (some (.ref lt))from rfl)) (ku e') (k8 eB)).trans (sy (y:=.ref m.length) (k _ _ e') (by simp;unfold au;lia))),?_⟩;have z:=B.rows (B.le.trans k) e (rs':=rs++[m.length]) (λs hs=>?_) (by simp;lia) (by simp;lia)
 .rw[List.map_append]at z;exact z
 .rcases Qy.mp hs with z|z
  .exact ((d s z).up B.le).up k
  .rw[QJ.mp z];exact⟨by lia,xs,by rw[Qn (Ql _)];simp,b3,b4⟩
noncomputable def AZ:Sm:=.expr (.meth .pop (.var 6) .unit)
def oG(B:Bd k0 n l0 l1 lt p q at0 ms wo odd m):∃m',aI cl AZ (Eb kd c l0 l1 wo lt at0) m=.next (Eb kd c l0 l1 wo lt at0) m'/\bQ k0 ms l0 l1 m':=by
 obtain⟨_,rs,e,h,d⟩:=B.tab;have h0:=B.pq;have hz:rs.length-1<rs.length:=by lia
 have e':=B.le _ _ e;refine⟨_,fS ((iG (hv (show(Eb kd c l0 l1 wo lt at0)[6]?=some (some (.ref lt))from rfl)) (ku e') (show af cl .unit (Eb kd c l0 l1 wo lt at0) m=.ok (.tup []) m from rfl)).trans (sw e' (by rw[Qw,Qs,Qc hz];rfl))),?_⟩;have z:=B.rows B.le e (rs':=rs.dropLast) (λs hs=>(d s (List.dropLast_subset _ hs)).up B.le) (by simp;lia) (by simp;lia);rw[List.map_dropLast]at z;exact z
noncomputable def oN:Ex:=.idx (.lst (.pair (.blt .tuple (.pair (.idx (.var 6) (.var 7)) .unit)) (.pair (.lit .non) (.pair (.lit (.int 3)) (.pair (.lit (.str [49])) .unit))))) (.bin .mod (.bin .fdiv (.var 2) (.lit (.int 200))) (.lit (.int 4)))
noncomputable def A4:Sm:=.asgS (.var 6) (.var 7) oN
def oH(B:Bd k0 n l0 l1 lt p q at0 ms wo odd m):∃m',aI cl A4 (Eb kd c l0 l1 wo lt at0) m=.next (Eb kd c l0 l1 wo lt at0) m'/\bQ k0 ms l0 l1 m':=by
 obtain⟨rs,r,xs,e,h,d,hr,hm,hR,hx,hl,eO⟩:=B.row (cl:=cl) (kd:=kd) (c:=c);have h0:=B.pq;have hx':=B.le _ _ hx;have e':=B.le _ _ e;have eT:af cl (.blt .tuple (.pair (.idx (.var 6) (.var 7)) .unit)) (Eb kd c l0 l1 wo lt at0) m=.ok (.tup (xs.map Wd.int)) m:=by
  show(af cl (.pair (.idx (.var 6) (.var 7)) .unit) (Eb kd c l0 l1 wo lt at0) m).bind _=_;rw[k8 eO];show(match yr m (.ref r)with|some xs=>Rz.ok (.tup xs) m|none=>.no)=_;rw[show yr m (.ref r)=some (xs.map Wd.int)from xo hx']
 have eL:af cl (.lst (.pair (.blt .tuple (.pair (.idx (.var 6) (.var 7)) .unit)) (.pair (.lit .non) (.pair (.lit (.int 3)) (.pair (.lit (.str [49])) .unit))))) (Eb kd c l0 l1 wo lt at0) m=.ok (.ref m.length) (m++[.lst [.tup (xs.map Wd.int),.non,.int 3,.str [49]]]):=by
  show((af cl (.blt .tuple (.pair (.idx (.var 6) (.var 7)) .unit)) (Eb kd c l0 l1 wo lt at0) m).bind _).bind _=_;rw[eT];rfl
 obtain⟨v,hv4,eI⟩:=iy (cl:=cl) (env:=Eb kd c l0 l1 wo lt at0) (m:=m++[.lst [.tup (xs.map Wd.int),.non,.int 3,.str [49]]]) (c:=c) (j:=200) rfl (by lia) (G:=.lit (.int 4)) (q:=4) rfl (by lia);have hn:(m++[Ob.lst [.tup (xs.map Wd.int),.non,.int 3,.str [49]]])[m.length]?=some (.lst [.tup (xs.map Wd.int),.non,.int 3,.str [49]]):=by rw[Qn (Ql _)];simp
 have k:Le m (m++[.lst [.tup (xs.map Wd.int),.non,.int 3,.str [49]]]):=Le.app _ _;obtain⟨w,Z,eW,rZ,pZ,bZ⟩:∃(w:Wd) (Z:Dat),af cl oN (Eb kd c l0 l1 wo lt at0) m=.ok w (m++[.lst [.tup (xs.map Wd.int),.non,.int 3,.str [49]]])/\(∀R m',aj R m' Z w)/\zn 4 Z=true/\wL q Z=false:=by
  have pI:∀i:Int,zn 4 (.int i)=true:=λi=>xf
  match v,hv4 with
  |0,_=>exact⟨_,.tup (xs.map Dat.int),(vv eL eI).trans (zV hn rfl),λR m'=>ai.mpr ⟨_,rfl,dv xs⟩,xL (by simp;unfold au;lia) (yt λy hy=>by
    obtain⟨i,_,rfl⟩:=QL.mp hy;exact xf),rfl⟩
  |1,_=>exact⟨_,.non,(vv eL eI).trans (zV hn rfl),λR m'=>ak.mpr rfl,by unfold zn;rfl,rfl⟩
  |2,_=>exact⟨_,.int 3,(vv eL eI).trans (zV hn rfl),λR m'=>aa.mpr rfl,xf,rfl⟩
  |3,_=>exact⟨_,.str [49],(vv eL eI).trans (zV hn rfl),λR m'=>ax.mpr rfl,by unfold zn;rfl,rfl⟩
 refine⟨(m++[Ob.lst [.tup (xs.map Wd.int),.non,.int 3,.str [49]]]).set lt (Ob.lst ((rs.map Wd.ref).set at0 w)),?_,?_⟩
 .show (af cl oN (Eb kd c l0 l1 wo lt at0) m).bindS _ _=_;rw[eW];show(vG (.ref lt) (.int (at0:Nat)) w _).bindS _ _=_;rw[js (k _ _ e') (by simp;have:=B.at_;lia)];rfl
 .have hat:=B.at_;obtain⟨A,a1,a2,a3⟩:=kq rs λs hs=>gh e (B.le.trans k) (ws:=(rs.map Wd.ref).set at0 w) (((d s hs).up B.le).up k) h0.1;have hin:Z∈(A.map Lib.row).set at0 Z:=List.mem_set (by simp;lia) Z;refine sv B.h1 B.hn B.a B.b B.tb e (B.le.trans k) (ae.set a3 at0 (rZ _ _)) (yt λy hy=>?_) (by simp;lia) ⟨?_,?_⟩
  .rcases Wu hy with z|rfl
   .obtain ⟨x,hx,rfl⟩:=QL.mp z;exact wx (by rw[(a2 x hx).1];lia)
   .exact pZ
  .intro z XD hX;exact gf (by simp;lia) hX B.tb bZ ⟨λ_=>hin,λy=>LH (show n=n+1 by lia) (by lia)⟩
  .intro z XA hX;exact gf hX (by simp;lia) B.tb bZ ⟨λy=>LH (show n=n+1 by lia) (by lia),λ_=>hin⟩
end
end Lib
namespace Lib
section
variable{cl:Nat->List Wd->Me->Rz}{cd:Nat->List Dat->Rd}
variable{k0 n l0 l1 lt p q at0:Nat}{ms m:Me}{kd c:Int}{wo:Wd}{odd:Dat}
noncomputable def SB(k0 n l0 l1 lt p q at0:Nat)(ms:Me)(kd c:Int)(wo:Wd)(odd:Dat)(j:Int)(e:En)(m:Me):Prop:=e=Eb kd c l0 l1 wo lt at0/\((kd<j/\bQ k0 ms l0 l1 m)\/(j<=kd/\Bd k0 n l0 l1 lt p q at0 ms wo odd m))
def SB.step {S:Sm}(hS:∀{m:Me},Bd k0 n l0 l1 lt p q at0 ms wo odd m->∃m',aI cl S (Eb kd c l0 l1 wo lt at0) m=.next (Eb kd c l0 l1 wo lt at0) m'/\bQ k0 ms l0 l1 m')(h:SB k0 n l0 l1 lt p q at0 ms kd c wo odd j e m):Go cl (SB k0 n l0 l1 lt p q at0 ms kd c wo odd (j+1)) (.ite (.cmp .eq (.var 1) (.lit (.int j))) S .skip) e m:=by
 obtain⟨rfl,h⟩:=h;have e1:aI cl (.ite (.cmp .eq (.var 1) (.lit (.int j))) S .skip) (Eb kd c l0 l1 wo lt at0) m=if kd=j then aI cl S (Eb kd c l0 l1 wo lt at0) m else .next (Eb kd c l0 l1 wo lt at0) m:=by
  show(af cl (.cmp .eq (.var 1) (.lit (.int j))) _ m).bindS _ _=_;rw[lu (hv (show(Eb kd c l0 l1 wo lt at0)[1]?=some (some (.int kd))from rfl)) (show af cl (.lit (.int j)) _ m=.ok (.int j) m from rfl),show cop .eq (.int kd) (.int j) m=.ok (.bl (decide (kd=j))) m from rfl];by_cases z:kd=j
  .rw[LF z,LJ z];rfl
  .rw[LG z,LC z];rfl
 rcases h with⟨h,b⟩|⟨h,b⟩
 .exact ⟨_,m,by rw[e1,LG (by lia)],rfl,.inl ⟨by lia,b⟩⟩
 .by_cases z:kd=j
  .obtain ⟨m',x,y⟩:=hS b;exact⟨_,m',by rw[e1,LF z];exact x,rfl,.inl ⟨by lia,y⟩⟩
  .exact ⟨_,m,by rw[e1,LG z],rfl,.inr ⟨by lia,b⟩⟩
noncomputable def AY:Sm:=.seq (.ite (.cmp .eq (.var 1) (.lit (.int 1))) A8 .skip) (.seq (.ite (.cmp .eq (.var 1) (.lit (.int 2))) A7 .skip) (.seq (.ite (.cmp .eq (.var 1) (.lit (.int 3))) A6 .skip) (.seq (.ite (.cmp .eq (.var 1) (.lit (.int 4))) A5 .skip) (.seq (.ite (.cmp .eq (.var 1) (.lit (.int 5))) A4 .skip) (.seq (.ite (.cmp .eq (.var 1) (.lit (.int 6))) AZ .skip) (.ret (.tup (.pair (.var 3) (.pair (.var 4) .unit)))))))))
def oF(h1:1<=kd)(h7:kd<7)(B:Bd k0 n l0 l1 lt p q at0 ms wo odd m):∃m',aI cl AY (Eb kd c l0 l1 wo lt at0) m=.ret (.tup [.ref l0,.ref l1]) m'/\bQ k0 ms l0 l1 m':=by
 obtain⟨_,m1,e1,s1⟩:=SB.step (cl:=cl) (j:=1) (e:=Eb kd c l0 l1 wo lt at0) oM ⟨rfl,.inr ⟨h1,B⟩⟩;obtain⟨_,m2,e2,s2⟩:=SB.step (cl:=cl) oK s1;obtain⟨_,m3,e3,s3⟩:=SB.step (cl:=cl) oJ s2;obtain⟨_,m4,e4,s4⟩:=SB.step (cl:=cl) oI s3;obtain⟨_,m5,e5,s5⟩:=SB.step (cl:=cl) oH s4;obtain⟨_,m6,e6,rfl,s6⟩:=SB.step (cl:=cl) oG s5;refine⟨m6,?_,?_⟩
 .exact (zu e1).trans ((zu e2).trans ((zu e3).trans ((zu e4).trans ((zu e5).trans (zu e6)))))
 .rcases s6 with⟨_,h⟩|⟨h,_⟩
  .exact h
  .lia
noncomputable def nM:Ex:=.idx (.lst (.pair (.lit (.int 2)) (.pair (.lit (.bl true)) (.pair (.lit .non) (.pair (.lit (.str [49])) (.pair (.lit (.int 0)) (.pair (.lst (.pair (.lit (.int 1)) .unit)) (.pair (.tup (.pair (.lit (.int 1)) .unit)) (.pair (.lit (.bl false)) .unit))))))))) (.bin .mod (.var 2) (.lit (.int 8)))
noncomputable def eX:List Dat:=[.int 2,.bl true,.non,.str [49],.int 0,.lst [.int 1],.tup [.int 1],.bl false]
def rp(c:Int):∃j:Nat,j<8/\c%8=(j:Int):=⟨(c%8).toNat,by lia,by lia⟩
def Bu (c:Int):∃odd,odd∈eX/\aq cd nM [a,b,some (.int c),x,y,f,g,h]=.ok odd:=by
 obtain⟨j,hj,e⟩:=rp c;have z:aq cd nM [a,b,some (.int c),x,y,f,g,h]=yl (.lst eX) (.int (c%8)):=rfl;have hl:j<eX.length:=hj;exact⟨eX[j],QC hl,by rw[z,e];exact ke (Qc hl)⟩
def rm (h:d∈eX):zn 3 d=true/\kW d=false:=by
 have z:∀d∈eX,zn 3 d=true/\kW d=false:=by
  unfold eX;simp only[Wt];refine⟨?_,?_,?_,?_,?_,?_,?_,?_,λ_ h=>by cases h⟩<;>exact⟨by decide +kernel,by decide +kernel⟩
 exact z d h
noncomputable def fA:Ex:=.idx (.lst (.pair (.lit .non) (.pair (.lit (.int 7)) (.pair (.lit (.str [])) (.pair (.lst (.pair (.var 3) (.pair (.var 4) .unit))) (.pair (.tup (.pair (.var 3) .unit)) (.pair (.tup (.pair (.var 3) (.pair (.var 4) (.pair (.var 4) .unit)))) (.pair (.tup (.pair (.lst .unit) (.pair (.lst (.pair (.lst .unit) .unit)) .unit))) (.pair (.tup (.pair (.lit .non) (.pair (.var 4) .unit))) .unit))))))))) (.bin .mod (.var 2) (.lit (.int 8)))
noncomputable def fe(x y:Dat):List Dat:=[.non,.int 7,.str [],.lst [x,y],.tup [x],.tup [x,y,y],.tup [.lst [],.lst [.lst []]],.tup [.non,y]]
def Bt (c:Int):∃d,d∈fe x y/\aq cd fA [a,b,some (.int c),some x,some y,f,g,h]=.ok d:=by
 obtain⟨j,hj,e⟩:=rp c;have z:aq cd fA [a,b,some (.int c),some x,some y,f,g,h]=yl (.lst (fe x y)) (.int (c%8)):=rfl;have hl:j<(fe x y).length:=hj;exact⟨(fe x y)[j],QC hl,by rw[z,e];exact ke (Qc hl)⟩
def Bs (hx:zn 5 x=true)(hy:zn 5 y=true)(h:d∈fe x y):zn 6 d=true/\yz d=false:=by
 have hx5:aF 5 [x]=true/\aF 5 [x,y]=true/\aF 5 [x,y,y]=true/\aF 5 [.non,y]=true:=by
  exact⟨zH hx yT,zH hx (zH hy yT),zH hx (zH hy (zH hy yT)),zH (by unfold zn;rfl) (zH hy yT)⟩
 have z:∀d∈fe x y,zn 6 d=true/\yz d=false:=by
  unfold fe;simp only[Wt];refine⟨⟨by unfold zn;rfl,rfl⟩,⟨by unfold zn;rfl,rfl⟩,⟨by unfold zn;rfl,rfl⟩,⟨yS (by simp;unfold au;lia) hx5.2.1,rfl⟩,⟨xL (by simp;unfold au;lia) hx5.1,by cases x<;>rfl⟩,⟨xL (by simp;unfold au;lia) hx5.2.2.1,by cases x<;>rfl⟩,⟨by decide +kernel,rfl⟩,⟨xL (by simp;unfold au;lia) hx5.2.2.2,rfl⟩,λ_ h=>by cases h⟩
 exact z d h
def Es (h:aI cl a env m=.ret w m1):aI cl (.seq a b) env m=.ret w m1:=by
 show(match aI cl a env m with |.next e1 m1=>aI cl b e1 m1|r=>r)=_;rw[h]
noncomputable def dM:Fn:=⟨3,8,(.seq iQ (.seq (.asg 5 nM) (.seq (.ite (.cmp .eq (.var 1) (.lit (.int 0))) (.ret fA) .skip) (.seq (.asg 6 (.idx (.lst (.pair (.var 3) (.pair (.var 4) .unit))) (.bin .mod (.bin .fdiv (.var 2) (.lit (.int 8))) (.lit (.int 2))))) (.seq (.asg 7 (.bin .mod (.bin .fdiv (.var 2) (.lit (.int 16))) (.blt .len (.pair (.var 6) .unit)))) AY)))))⟩
def Er(H:aS cl cd)(h1:1<=n)(hn:n<=12)(a:bj k0 n (n+1) ms l0)(b:bj k0 (n+1) n ms l1)(k1:0<=kd)(k7:kd<7):∃w m' d,y4 cl dM [.tup [.ref l0,.ref l1],.int kd,.int c] ms=.ok w m'/\(∀(l:Nat) o,l<k0->ms[l]?=some o->m'[l]?=some o)/\aj (λl=>k0<=l) m' d w/\zn 6 d=true/\yz d=false:=by
 have kl:k0<=ms.length:=by
  obtain⟨a,rs,b,_⟩:=a;have:=wN b;lia
 have s0:aI cl iQ [some (.tup [.ref l0,.ref l1]),some (.int kd),some (.int c),none,none,none,none,none] ms=.next [some (.tup [.ref l0,.ref l1]),some (.int kd),some (.int c),some (.ref l0),some (.ref l1),none,none,none] ms:=rfl;obtain⟨odd,ho,vo⟩:=Bu (cd:=cd) c (a:=none) (b:=none) (x:=none) (y:=none) (f:=none) (g:=none) (h:=none);obtain⟨wo,m1,e1,le1,r1⟩:=xp H (R:=λ_=>False) (m:=ms) (env:=[some (.tup [.ref l0,.ref l1]),some (.int kd),some (.int c),some (.ref l0),some (.ref l1),none,none,none]) (bA.cons aG (bA.cons aG (bA.cons iU (bA.cons aG (bA.cons aG (bA.cons aG (bA.cons aG (bA.cons aG bA.nil)))))))) vo;have r1':aj (λl=>ms.length<=l) m1 odd wo:=aj.frame (λl o z x=>⟨z.elim False.elim id,x⟩) _ _ r1;have s1:=wM (cl:=cl) (i:=5) e1;have ei:aI cl (.ite (.cmp .eq (.var 1) (.lit (.int 0))) (.ret fA) .skip) [some (.tup [.ref l0,.ref l1]),some (.int kd),some (.int c),some (.ref l0),some (.ref l1),some wo,none,none] m1=if kd=0 then aI cl (.ret fA) [some (.tup [.ref l0,.ref l1]),some (.int kd),some (.int c),some (.ref l0),some (.ref l1),some wo,none,none] m1 else .next [some (.tup [.ref l0,.ref l1]),some (.int kd),some (.int c),some (.ref l0),some (.ref l1),some wo,none,none] m1:=by
  show(af cl (.cmp .eq (.var 1) (.lit (.int 0))) _ m1).bindS _ _=_;rw[lu (x:=.int kd) (hv rfl) (show af cl (.lit (.int 0)) _ m1=.ok (.int 0) m1 from rfl),show cop .eq (.int kd) (.int 0) m1=.ok (.bl (decide (kd=0))) m1 from rfl];by_cases z:kd=0
  .rw[LF z,LJ z];rfl
  .rw[LG z,LC z];rfl
 by_cases hk:kd=0
 .obtain ⟨A,a1,a2,a3⟩:=(a.up le1).rep;obtain⟨D,d1,d2,d3⟩:=(b.up le1).rep;obtain⟨d,hd,vd⟩:=Bt (cd:=cd) c (a:=none) (b:=none) (f:=none) (g:=none) (h:=none) (x:=aB A) (y:=aB D);obtain⟨w,m2,e2,le2,r2⟩:=xp H (R:=λl=>k0<=l) (m:=m1) (env:=[some (.tup [.ref l0,.ref l1]),some (.int kd),some (.int c),some (.ref l0),some (.ref l1),some wo,none,none]) (bA.cons aG (bA.cons aG (bA.cons iU (bA.cons (ve a3) (bA.cons (ve d3) (bA.cons aG (bA.cons aG (bA.cons aG bA.nil)))))))) vd;have l1':=le1.len;obtain⟨q1,q2⟩:=Bs (vp (k:=2) (by lia) λx hx=>by rw[(a2 x hx).1];lia) (vp (k:=2) (by lia) λx hx=>by rw[(d2 x hx).1];lia) hd;refine⟨w,m2,d,?_,λl o _ z=>le2 l o (le1 l o z),aj.frame (λl o z x=>⟨z.elim (λy=>y) λy=>Qo (Qo kl l1') y,x⟩) _ _ r2,q1,q2⟩;have z:aI cl dM.body (yo dM [.tup [.ref l0,.ref l1],.int kd,.int c]) ms=.ret w m2:=(zu s0).trans ((zu s1).trans (Es (by
   rw[LF hk]at ei;refine ei.trans ?_;show(af cl fA _ m1).bindS _ _=_;rw[e2]
   rfl)))
  unfold y4;rw[LF (by rfl),z]
 .rw[LG hk]at ei;have eL:af cl (.lst (.pair (.var 3) (.pair (.var 4) .unit))) [some (.tup [.ref l0,.ref l1]),some (.int kd),some (.int c),some (.ref l0),some (.ref l1),some wo,none,none] m1=.ok (.ref m1.length) (m1++[.lst [.ref l0,.ref l1]]):=rfl;have hm:(m1++[Ob.lst [.ref l0,.ref l1]])[m1.length]?=some (.lst [.ref l0,.ref l1]):=by rw[Qn (Ql _)];simp
  have k2:Le m1 (m1++[Ob.lst [.ref l0,.ref l1]]):=Le.app _ _;obtain⟨v,hv2,eI⟩:=iy (cl:=cl) (env:=[some (.tup [.ref l0,.ref l1]),some (.int kd),some (.int c),some (.ref l0),some (.ref l1),some wo,none,none]) (m:=m1++[.lst [.ref l0,.ref l1]]) (c:=c) (j:=8) rfl (by lia) (G:=.lit (.int 2)) (q:=2) rfl (by lia);obtain⟨lt,p,q,tb,e6⟩:∃lt p q,Tb n l0 l1 lt p q/\af cl (.idx (.lst (.pair (.var 3) (.pair (.var 4) .unit))) (.bin .mod (.bin .fdiv (.var 2) (.lit (.int 8))) (.lit (.int 2)))) [some (.tup [.ref l0,.ref l1]),some (.int kd),some (.int c),some (.ref l0),some (.ref l1),some wo,none,none] m1=.ok (.ref lt) (m1++[.lst [.ref l0,.ref l1]]):=by
   match v,hv2 with
   |0,_=>exact⟨l0,n,n+1,.inl ⟨rfl,rfl,rfl⟩,(vv eL eI).trans (zV hm rfl)⟩
   |1,_=>exact⟨l1,n+1,n,.inr ⟨rfl,rfl,rfl⟩,(vv eL eI).trans (zV hm rfl)⟩
  have T:bj k0 p q ms lt:=by
   rcases tb with⟨rfl,rfl,rfl⟩|⟨rfl,rfl,rfl⟩
   .exact a
   .exact b
  have hp:0<p:=by rcases tb with⟨_,rfl,_⟩|⟨_,rfl,_⟩<;>lia
  obtain⟨_,rs,t1,t2,_⟩:=T.up (le1.trans k2);obtain⟨at0,hat,e7⟩:=iy (cl:=cl) (env:=[some (.tup [.ref l0,.ref l1]),some (.int kd),some (.int c),some (.ref l0),some (.ref l1),some wo,some (.ref lt),none]) (m:=m1++[.lst [.ref l0,.ref l1]]) (c:=c) (j:=16) rfl (by lia) (G:=.blt .len (.pair (.var 6) .unit)) (q:=p) (by rw[hlen (l:=lt) rfl t1];simp[t2]) hp;have B:Bd k0 n l0 l1 lt p q at0 ms wo odd (m1++[.lst [.ref l0,.ref l1]]):=⟨h1,hn,a,b,tb,hat,le1.trans k2,aj.frame (λl o z x=>⟨z,k2 l o x⟩) _ _ r1',(rm ho).1,(rm ho).2⟩;obtain⟨m',e8,g1,d,g2,g3,g4⟩:=oF (cl:=cl) (kd:=kd) (c:=c) (by lia) k7 B;refine⟨_,m',d,?_,g1,g2,g3,g4⟩;have z:aI cl dM.body (yo dM [.tup [.ref l0,.ref l1],.int kd,.int c]) ms=.ret (.tup [.ref l0,.ref l1]) m':=(zu s0).trans ((zu s1).trans ((zu ei).trans ((zu (wM (i:=6) e6)).trans ((zu (wM (i:=7) e7)).trans e8))));unfold y4;rw[LF (by rfl),z]
end
end Lib
namespace Lib
section
variable{lev:Nat->Lv}{cl:Nat->List Wd->Me->Rz}{cd:Nat->List Dat->Rd}
def yq (h:Le m m')(q:aj R m d w):aj (λ_=>True) m' d w:=aj.frame (λl o _ z=>⟨trivial,h l o z⟩) d w q
def fresh (H:bt lev cl cd)(hk:lev k=.full)(q:ae R m ds ws)(h:cd k ds=.ok d):∃w m',cl k ws m=.ok w m'/\Le m m'/\aj (λl=>m.length<=l) m' d w:=by
 have s:=H k ds ws R m q;rw[h]at s;obtain⟨w,m',A,e,l,o,_,ha⟩:=s;refine⟨w,m',e,l,bh.rep d w A ha ?_⟩;have o':bD (λl=>Rf R m.length l/\l∉A) m' (wd lev k d) d w A:=o;unfold wd at o';rw[hk]at o';by_cases z:ay d=true
 .rw[LF z]at o';exact o'
 .rw[LG z]at o';exact o'
def gY (h:af cl a env m=.ok x m1)(k:af cl b env m1=.ok (.tup ys) m2):af cl (.pair a b) env m=.ok (.tup (x::ys)) m2:=by
 show(af cl a env m).bind _=_;rw[h];show(af cl b env m1).bind _=_;rw[k];rfl
def cB (h:af cl a env m=.ok (.tup ws) m1):af cl (.call k a) env m=cl k ws m1:=by
 show(af cl a env m).bind _=_;rw[h];rfl
def oh (h:af cl e env m=.ok w m1):aI cl (.ret e) env m=.ret w m1:=by
 show(af cl e env m).bindS env _=_;rw[h];rfl
def fF (h:af cl c env m=.ok (.bl x) m1):aI cl (.ite c a b) env m=aI cl (bif x then a else b) env m1:=by
 show(af cl c env m).bindS env _=_;rw[h];cases x<;>rfl
def kA (h0:Sl R m d0 w0)(h1:Sl R m d1 w1)(h2:Sl R m d2 w2)(h3:Sl R m d3 w3)(h4:Sl R m d4 w4)(h5:Sl R m d5 w5)(h6:Sl R m d6 w6)(h7:Sl R m d7 w7)(h8:Sl R m d8 w8):bA R m [d0,d1,d2,d3,d4,d5,d6,d7,d8] [w0,w1,w2,w3,w4,w5,w6,w7,w8]:=
 bA.cons h0 (bA.cons h1 (bA.cons h2 (bA.cons h3 (bA.cons h4 (bA.cons h5 (bA.cons h6 (bA.cons h7 (bA.cons h8 bA.nil))))))))
def qO (h:yG 12 d=true):yH .ne d d=.ok (.bl false):=by
 have z:dN d d=some true:=by
  unfold dN;rw[show yG yJ d=true from h,vY 12 d h];rfl
 simp only[yH,z];rfl
def Ep (h:yG 12 d=true):yH .eq d d=.ok (.bl true):=by
 show qs (dN d d)=_;unfold dN;rw[show yG yJ d=true from h,vY 12 d h];rfl
def uT (h:A.length=p)(hx:∀x∈A,x.length=q):A=zv p q λi j=>(A.getD i []).getD j 0:=by
 unfold zv yj;refine List.ext_getElem (by simp[h]) λi h1 h2=>?_;have hi:=hx _ (QC h1);rw[List.getElem_map];refine List.ext_getElem (by simp[hi]) λj g1 g2=>?_;simp[Qd,h1,g1]
def k9 (hn:n<=12):zn 6 (arr n W V)=true:=by
 unfold arr;exact xL (by simp;unfold au;lia) (zH (vp (k:=2) (by rw[yF];lia) λx hx=>by rw[xJ x hx];lia) (zH (vp (k:=2) (by rw[yF];lia) λx hx=>by rw[xJ x hx];lia) yT))
def CP (a:bj k0 n (n+1) m l0)(b:bj k0 (n+1) n m l1):∃W V,PM n W V/\aj (λl=>k0<=l) m (arr n W V) (.tup [.ref l0,.ref l1]):=by
 obtain⟨A,a1,a2,a3⟩:=a.rep;obtain⟨B,b1,b2,b3⟩:=b.rep;refine⟨λi j=>(A.getD i []).getD j 0,λi j=>(B.getD i []).getD j 0,⟨λi j hi hj=>?_,λi j hi hj=>?_⟩,?_⟩
 .have h1:i<A.length:=by lia
  obtain⟨q,z⟩:=a2 _ (QC h1);have h2:j<A[i].length:=by lia
  have:=z _ (QC h2);simpa [Qd,h1,h2]using this
 .have h1:i<B.length:=by lia
  obtain⟨q,z⟩:=b2 _ (QC h1);have h2:j<B[i].length:=by lia
  have:=z _ (QC h2);simpa [Qd,h1,h2]using this
 .unfold arr;rw[<-uT a1 λx hx=>(a2 x hx).1,<-uT b1 λx hx=>(b2 x hx).1];exact ai.mpr ⟨_,rfl,.cons a3 (.cons b3 .nil)⟩
def uS (h:PM n F G)(q:aj (λl=>k0<=l) m (arr n F G) w):∃l0 l1,w=.tup [.ref l0,.ref l1]/\bj k0 n (n+1) m l0/\bj k0 (n+1) n m l1:=by
 obtain⟨xs,rfl,r⟩:=ai.mp q;obtain⟨x,r1,rfl,ra,r2⟩:=r.cons_inv;obtain⟨y,r3,rfl,rb,r4⟩:=r2.cons_inv;obtain rfl:=r4.nil_inv;obtain⟨l0,rfl,ta⟩:=uW (k0:=k0) (p:=n) (q:=n+1) ra (λ_ z=>z) (yF ..) λx hx=>by
  refine⟨xJ x hx,λv hv=>?_⟩;obtain⟨i,hi,rfl⟩:=QL.mp hx;obtain⟨j,hj,rfl⟩:=QL.mp hv;have:=Wb.mp hj;exact h.f i j (Wb.mp hi) (by lia)
 obtain⟨l1,rfl,tb⟩:=uW (k0:=k0) (p:=n+1) (q:=n) rb (λ_ z=>z) (yF ..) λx hx=>by
  refine⟨xJ x hx,λv hv=>?_⟩;obtain⟨i,hi,rfl⟩:=QL.mp hx;obtain⟨j,hj,rfl⟩:=QL.mp hv;have:=Wb.mp hi;exact h.g i j (by lia) (Wb.mp hj)
 exact⟨l0,l1,rfl,ta,tb⟩
end
end Lib
namespace Lib
structure Bc(cd:Nat->List Dat->Rd)(ns:List Int)(n:Nat)(c0 c1 c2 c3 c4:Int)(X R:List (List Int))(F G:Nat->Nat->Int)(ds:List Int):Prop where
 h1:1<=n
 hn:n<=12
 t0:cd 12 [.scr ns,.int 0]=.ok (.int c0)
 t1:cd 12 [.scr ns,.int 1]=.ok (.int c1)
 t2:cd 12 [.scr ns,.int 2]=.ok (.int c2)
 t3:cd 12 [.scr ns,.int 3]=.ok (.int c3)
 t4:cd 12 [.scr ns,.int 4]=.ok (.int c4)
 size:cd 15 [.int c0]=.ok (.int n)
 tri:cd 16 [.int c1,.int n]=.ok (aB X)
 sta:cd 17 [aB X]=.ok (aB R)
 arrw:cd 18 [aB R]=.ok (arr n F G)
 pmw:PM n F G
 num:cd 14 [.int c3,.int 21]=.ok (row ds)
 len:ds.length=21
 cop:∀d,zn 6 d=true->cd 20 [d]=.ok d
 flt:∀W V,∃d,cP n (wr n W V) d/\cd 25 [arr n W V]=.ok d
 soa:∀W V,AR n W V->cd 11 [arr n W V]=.ok (aB (zv n n (bF W)))
 bck:∀W V,AR n W V->cd 18 [aB (zv n n (bF W))]=.ok (arr n W V)
 spo:∀W V d,PM n W V->cP n (wr n W V) d->d≠.non->cd 26 [arr n W V]=.ok d
 spn:∀d,zn 6 d=true->yz d=false->cd 26 [d]=.ok .non
 flr:∀v:Int,v=0\/v=13->∃d,cd 27 [.int v]=.ok d/\zn 6 d=true/\yz d=false
 sam:cd 19 [aB R,aB R]=.ok (.bl true)
 own:cd 11 [arr n F G]=.ok (aB R)
section
variable{lev:Nat->Lv}{cl:Nat->List Wd->Me->Rz}{cd:Nat->List Dat->Rd}{ns:List Int}{n:Nat}{c0 c1 c2 c3 c4:Int}{X R:List (List Int)}{F G:Nat->Nat->Int}{ds:List Int}
noncomputable def cE(i:Int):Ex:=.call 12 (.pair (.var 0) (.pair (.lit (.int i)) .unit))
noncomputable def oU:Ex:=.call 15 (.pair (cE 0) .unit)
noncomputable def oT:Ex:=.call 17 (.pair (.call 16 (.pair (cE 1) (.pair (.var 1) .unit))) .unit)
noncomputable def Ba:Ex:=.call 18 (.pair (.var 2) .unit)
noncomputable def Aj:Ex:=.call 23 (.pair (.var 3) (.pair (.bin .mod (cE 2) (.lit (.int 5))) (.pair (.call 14 (.pair (cE 3) (.pair (.lit (.int 21)) .unit))) .unit)))
noncomputable def oS:Ex:=.call 20 (.pair (.var 3) .unit)
noncomputable def oR:Ex:=.call 25 (.pair (.var 3) .unit)
noncomputable def noS:Sm:=.ret (.lit (.bl false))
noncomputable def q7:Sm:=.ite (.cmp .isN (.var 5) (.lit .non)) (.ite (.cmp .ne (.call 18 (.pair (.call 11 (.pair (.var 4) .unit)) .unit)) (.var 3)) noS .skip) (.ite (.or (.cmp .ne (.call 26 (.pair (.var 4) .unit)) (.var 5)) (.not (.isi .tuple (.call 26 (.pair (.var 4) .unit))))) noS .skip)
noncomputable def q8:Sm:=.ite (.or (.cmp .ne (.var 4) (.var 3)) (.cmp .notN (.call 26 (.pair (.call 27 (.pair (.idx (.lst (.pair (.lit (.int 0)) (.pair (.lit (.int 13)) .unit))) (.bin .mod (cE 4) (.lit (.int 2)))) .unit)) .unit)) (.lit .non))) noS .skip
noncomputable def oQ:Ex:=.blt .abs (.pair (cE 4) .unit)
noncomputable def A9:Ex:=.call 21 (.pair (.call 18 (.pair (.var 2) .unit)) (.pair (.bin .mod (.var 6) (.lit (.int 7))) (.pair (.bin .fdiv (.var 6) (.lit (.int 7))) .unit)))
noncomputable def oP:Ex:=.call 20 (.pair (.var 7) .unit)
noncomputable def nE:Ex:=.and (.cmp .isN (.call 26 (.pair (.var 7) .unit)) (.lit .non)) (.and (.cmp .eq (.var 7) (.var 8)) (.call 19 (.pair (.call 11 (.pair (.call 18 (.pair (.var 2) .unit)) .unit)) (.pair (.var 2) .unit))))
noncomputable def nN:Sm:=.seq (.asg 1 oU) (.seq (.asg 2 oT) (.seq (.asg 3 Ba) (.seq (.expr Aj) (.seq (.asg 4 oS) (.seq (.asg 5 oR) (.seq q7 (.seq q8 (.seq (.asg 6 oQ) (.seq (.asg 7 A9) (.seq (.asg 8 oP) (.ret nE)))))))))))
def fm (h:cd 12 [.scr ns,.int i]=.ok (.int c)):aq cd (cE i) (some (.scr ns)::de)=.ok (.int c):=by
 unfold cE;simp only[zG,zm,zl,za,zd,aM,zi,h]
def cP.shape (h:cP n f d)(hd:d≠.non):(yH .isN d .non=.ok (.bl false))/\yG 12 d=true/\cn .tuple d=true:=by
 rcases h with⟨rfl,_⟩|⟨r,c,_,_,rfl,_⟩
 .exact LH rfl hd
 .exact ⟨rfl,by simp,rfl⟩
def Br(H:bt lev cl cd)(hl:lev 18=.full)(K:Bc cd ns n c0 c1 c2 c3 c4 X R F G ds)
  (oi:∀{k0 l0 l1 l2:Nat}{m:Me}{kd:Int},Fl k0 m n l0 l1 l2 ds m->∃m',cl 23 [.tup [.ref l0,.ref l1],.int kd,.ref l2] m=.ok .non m'/\Fl k0 m n l0 l1 l2 ds m')
  (ol:∀{k0 l0 l1:Nat}{m:Me}{kd c:Int},bj k0 n (n+1) m l0->bj k0 (n+1) n m l1->0<=kd->kd<7->∃w m' d,cl 21 [.tup [.ref l0,.ref l1],.int kd,.int c] m=.ok w m'/\(∀(l:Nat) o,l<k0->m[l]?=some o->m'[l]?=some o)/\aj (λl=>k0<=l) m' d w/\zn 6 d=true/\yz d=false) :
  ∃m,aI cl nN [some (.rol (ns.map Wd.int)),none,none,none,none,none,none,none,none] []=.ret (.bl true) m:=by
 have sA:∀{R:Nat->Prop}{m:Me},Sl R m (some (.scr ns)) (some (.rol (ns.map Wd.int))):=HY
 -- the size
 have v1:aq cd oU [some (.scr ns),none,none,none,none,none,none,none,none]=.ok (.int n):=by
  unfold oU;simp only[zG,zm,zl,fm K.t0,aM,zi,K.size]
 obtain⟨w1,m1,e1,l1,r1⟩:=xp H.r (R:=λ_=>True) (m:=[]) (env:=[some (.rol (ns.map Wd.int)),none,none,none,none,none,none,none,none]) (kA sA aG aG aG aG aG aG aG aG) v1;obtain rfl:=aa.mp r1
 -- the state
 have v2:aq cd oT [some (.scr ns),some (.int n),none,none,none,none,none,none,none]=.ok (aB R):=by
  unfold oT;simp only[zG,zm,zl,ze,za,fm K.t1,aM,zi,K.tri,K.sta]
 obtain⟨w2,m2,e2,l2,r2⟩:=xp H.r (R:=λ_=>True) (m:=m1) (env:=[some (.rol (ns.map Wd.int)),some (.int n),none,none,none,none,none,none,none]) (kA sA iU aG aG aG aG aG aG aG) v2;have d2:aj (λl=>l<m2.length) m2 (aB R) w2:=aj.frame (λl o _ z=>⟨wN z,z⟩) _ _ r2
 -- its arrows
 obtain⟨w3,m3,f3,l3,r3⟩:=fresh H hl (ws:=[w2]) (.cons d2 .nil) K.arrw;obtain⟨p0,p1,rfl,ta,tb⟩:=uS K.pmw r3;have e3:af cl Ba [some (.rol (ns.map Wd.int)),some (.int n),some w2,none,none,none,none,none,none] m2=.ok (.tup [.ref p0,.ref p1]) m3:=(cB (k8 (hv rfl))).trans f3
 -- turned about
 have v4:aq cd (.bin .mod (cE 2) (.lit (.int 5))) [some (.scr ns),none,none,none,none,none,none,none,none]=.ok (.int (c2%5)):=by
  simp only[zI,fm K.t2,zd,aM];exact wW _ _ (by lia)
 obtain⟨w4,m4,e4,l4,r4⟩:=xp H.r (R:=λ_=>True) (m:=m3) (env:=[some (.rol (ns.map Wd.int)),some (.int n),some w2,some (.tup [.ref p0,.ref p1]),none,none,none,none,none]) (kA sA aG aG aG aG aG aG aG aG) v4;obtain rfl:=aa.mp r4;have v5:aq cd (.call 14 (.pair (cE 3) (.pair (.lit (.int 21)) .unit))) [some (.scr ns),none,none,none,none,none,none,none,none]=.ok (row ds):=by
  simp only[zG,zm,zl,fm K.t3,zd,aM,zi,K.num]
 obtain⟨w5,m5,e5,l5,r5⟩:=xp H.r (R:=λ_=>True) (m:=m4) (env:=[some (.rol (ns.map Wd.int)),some (.int n),some w2,some (.tup [.ref p0,.ref p1]),none,none,none,none,none]) (kA sA aG aG aG aG aG aG aG aG) v5;obtain⟨p2,xs,rfl,_,hx,rx⟩:=ao.mp r5;obtain rfl:=kY rx;have F5:Fl m2.length m5 n p0 p1 p2 ds m5:=⟨λ_ _ _ z=>z,ta.up (l4.trans l5),tb.up (l4.trans l5),hx⟩;obtain⟨m6,e6,F6⟩:=oi (kd:=c2%5) F5;have s4:aI cl (.expr Aj) [some (.rol (ns.map Wd.int)),some (.int n),some w2,some (.tup [.ref p0,.ref p1]),none,none,none,none,none] m3=.next [some (.rol (ns.map Wd.int)),some (.int n),some w2,some (.tup [.ref p0,.ref p1]),none,none,none,none,none] m6:=fS ((cB (gY (hv rfl) (gY e4 (gY e5 (show af cl .unit _ m5=.ok (.tup []) m5 from rfl))))).trans e6);have d6:aj (λl=>l<m2.length) m6 (aB R) w2:=aj.frame (λl o z x=>⟨z,F6.lo l o z (((l3.trans l4).trans l5) l o x)⟩) _ _ d2
 -- what came of it
 obtain⟨W,V,pmw,rP⟩:=CP F6.a F6.b;have pP:=k9 (n:=n) (W:=W) (V:=V) K.hn;have qP:yG 12 (arr n W V)=true:=gc 6 _ 6 pP;have v7:aq cd oS [none,none,none,some (arr n W V),none,none,none,none,none]=.ok (arr n W V):=by
  unfold oS;simp only[zG,zm,zl,ze,za,aM,zi,K.cop _ pP]
 obtain⟨w7,m7,e7,l7,r7⟩:=xp H.r (R:=λ_=>True) (m:=m6) (env:=[some (.rol (ns.map Wd.int)),some (.int n),some w2,some (.tup [.ref p0,.ref p1]),none,none,none,none,none]) (kA aG aG aG (ve (yq (Le.refl m6) rP)) aG aG aG aG aG) v7;obtain⟨sd,hsp,hsd⟩:=K.flt W V;have v8:aq cd oR [none,none,none,some (arr n W V),none,none,none,none,none]=.ok sd:=by
  unfold oR;simp only[zG,zm,zl,ze,za,aM,zi,hsd]
 obtain⟨w8,m8,e8,l8,r8⟩:=xp H.r (R:=λ_=>True) (m:=m7) (env:=[some (.rol (ns.map Wd.int)),some (.int n),some w2,some (.tup [.ref p0,.ref p1]),some w7,none,none,none,none]) (kA aG aG aG (ve (yq l7 rP)) aG aG aG aG aG) v8;have rH:aj (λ_=>True) m8 (arr n W V) w7:=yq l8 r7;have rP8:aj (λ_=>True) m8 (arr n W V) (.tup [.ref p0,.ref p1]):=yq (l7.trans l8) rP;have rS:aj (λ_=>True) m8 sd w8:=yq (Le.refl m8) r8
 -- the seventh row
 obtain⟨m9,l9,s7⟩:∃m9,Le m8 m9/\aI cl q7 [some (.rol (ns.map Wd.int)),some (.int n),some w2,some (.tup [.ref p0,.ref p1]),some w7,some w8,none,none,none] m8=.next [some (.rol (ns.map Wd.int)),some (.int n),some w2,some (.tup [.ref p0,.ref p1]),some w7,some w8,none,none,none] m9:=by
  by_cases hd:sd=.non
  .subst hd;have hw:∀r c,r<n->c<n->wr n W V r c=false:=by
    rcases hsp with⟨_,h⟩|⟨_,_,_,_,h,_⟩
    .exact h
    .cases h
   have ar:=BC pmw hw;have va:aq cd (.cmp .isN (.var 5) (.lit .non)) [none,none,none,none,none,some .non,none,none,none]=.ok (.bl true):=rfl;obtain⟨wa,ma,ea,la,ra⟩:=xp H.r (R:=λ_=>True) (m:=m8) (env:=[some (.rol (ns.map Wd.int)),some (.int n),some w2,some (.tup [.ref p0,.ref p1]),some w7,some w8,none,none,none]) (kA aG aG aG aG aG (ve rS) aG aG aG) va;obtain rfl:=ah.mp ra;have vb:aq cd (.cmp .ne (.call 18 (.pair (.call 11 (.pair (.var 4) .unit)) .unit)) (.var 3)) [none,none,none,some (arr n W V),some (arr n W V),none,none,none,none]=.ok (.bl false):=by
    simp only[zC,zG,zm,zl,ze,za,aM,zi,K.soa W V ar,K.bck W V ar,qO qP]
   obtain⟨wb,mb,eb,lb,rb⟩:=xp H.r (R:=λ_=>True) (m:=ma) (env:=[some (.rol (ns.map Wd.int)),some (.int n),some w2,some (.tup [.ref p0,.ref p1]),some w7,some w8,none,none,none]) (kA aG aG aG (ve (yq la rP8)) (ve (yq la rH)) aG aG aG aG) vb;obtain rfl:=ah.mp rb;exact⟨mb,la.trans lb,(fF ea).trans (fF eb)⟩
  .obtain ⟨x1,x2,x3⟩:=hsp.shape hd;have va:aq cd (.cmp .isN (.var 5) (.lit .non)) [none,none,none,none,none,some sd,none,none,none]=.ok (.bl false):=by
    simp only[zC,ze,za,xT,aM,x1]
   obtain⟨wa,ma,ea,la,ra⟩:=xp H.r (R:=λ_=>True) (m:=m8) (env:=[some (.rol (ns.map Wd.int)),some (.int n),some w2,some (.tup [.ref p0,.ref p1]),some w7,some w8,none,none,none]) (kA aG aG aG aG aG (ve rS) aG aG aG) va;obtain rfl:=ah.mp ra;have k26:=K.spo W V sd pmw hsp hd;have vb:aq cd (.or (.cmp .ne (.call 26 (.pair (.var 4) .unit)) (.var 5)) (.not (.isi .tuple (.call 26 (.pair (.var 4) .unit))))) [none,none,none,none,some (arr n W V),some sd,none,none,none]=.ok (.bl false):=by
    simp only[kc,we,xw,zC,zG,zm,zl,ze,za,aM,zi,k26,qO x2,x3];rfl
   obtain⟨wb,mb,eb,lb,rb⟩:=xp H.r (R:=λ_=>True) (m:=ma) (env:=[some (.rol (ns.map Wd.int)),some (.int n),some w2,some (.tup [.ref p0,.ref p1]),some w7,some w8,none,none,none]) (kA aG aG aG aG (ve (yq la rH)) (ve (yq la rS)) aG aG aG) vb;obtain rfl:=ah.mp rb;exact⟨mb,la.trans lb,(fF ea).trans (fF eb)⟩
 -- the eighth row
 obtain⟨v,hv2,hf⟩:∃v:Int,(v=0\/v=13)/\yl (.lst [.int 0,.int 13]) (.int (c4%2))=.ok (.int v):=by
  rcases Int.emod_two_eq c4 with h|h
  .exact ⟨0,.inl rfl,by rw[h];rfl⟩
  .exact ⟨13,.inr rfl,by rw[h];rfl⟩
 obtain⟨fd,g1,g2,g3⟩:=K.flr v hv2;have vA:aq cd (.or (.cmp .ne (.var 4) (.var 3)) (.cmp .notN (.call 26 (.pair (.call 27 (.pair (.idx (.lst (.pair (.lit (.int 0)) (.pair (.lit (.int 13)) .unit))) (.bin .mod (cE 4) (.lit (.int 2)))) .unit)) .unit)) (.lit .non))) [some (.scr ns),none,none,some (arr n W V),some (arr n W V),none,none,none,none]=.ok (.bl false):=by
  have eL:∀de,aq cd (.lst (.pair (.lit (.int 0)) (.pair (.lit (.int 13)) .unit))) de=.ok (.lst [.int 0,.int 13]):=λ_=>rfl;simp only[kc,zC,zG,zm,zl,zJ,zI,eL,fm K.t4,zd,xT,ze,za,aM,zi,qO qP,wW c4 2 (by lia),hf,g1,K.spn fd g2 g3];rfl
 obtain⟨wA,mA,eA,lA,rA⟩:=xp H.r (R:=λ_=>True) (m:=m9) (env:=[some (.rol (ns.map Wd.int)),some (.int n),some w2,some (.tup [.ref p0,.ref p1]),some w7,some w8,none,none,none]) (kA sA aG aG (ve (yq l9 rP8)) (ve (yq l9 rH)) aG aG aG aG) vA;obtain rfl:=ah.mp rA
 -- the thing that has not the form
 have vB:∃c:Int,0<=c/\aq cd oQ [some (.scr ns),none,none,none,none,none,none,none,none]=.ok (.int c):=by
  unfold oQ;simp only[zS,zm,zl,fm K.t4,aM,zi];exact⟨_,by first|exact Int.natAbs_nonneg _|lia,rfl⟩
 obtain⟨c,hc0,vB⟩:=vB;obtain⟨wB,mB,eB,lB,rB⟩:=xp H.r (R:=λ_=>True) (m:=mA) (env:=[some (.rol (ns.map Wd.int)),some (.int n),some w2,some (.tup [.ref p0,.ref p1]),some w7,some w8,none,none,none]) (kA sA aG aG aG aG aG aG aG aG) vB;obtain rfl:=aa.mp rB;have l6B:Le m6 mB:=(((l7.trans l8).trans l9).trans lA).trans lB;have dB:aj (λl=>l<mB.length) mB (aB R) w2:=aj.frame (λl o _ z=>⟨wN (l6B l o z),l6B l o z⟩) _ _ d6;obtain⟨wC,mC,eC,lC,rC⟩:=fresh H hl (ws:=[w2]) (.cons dB .nil) K.arrw;obtain⟨q0,q1,rfl,tc,td⟩:=uS K.pmw rC;obtain⟨w9,mD,d9,eD,loD,rD,plD,bdD⟩:=ol (kd:=c%7) (c:=c/7) tc td (W3 _ (by lia)) (WO _ (by lia));have s10:af cl A9 [some (.rol (ns.map Wd.int)),some (.int n),some w2,some (.tup [.ref p0,.ref p1]),some w7,some w8,some (.int c),none,none] mB=.ok w9 mD:=by
  refine(cB (gY ((cB (k8 (hv rfl))).trans eC) (gY ((er (x:=.int c) (y:=.int 7) (hv rfl) rfl).trans (ls (by lia))) (gY ((er (x:=.int c) (y:=.int 7) (hv rfl) rfl).trans (rq (by lia))) (show af cl .unit _ mC=.ok (.tup []) mC from rfl))))).trans eD
 have rR:aj (λ_=>True) mD (aB R) w2:=aj.frame (λl o z x=>⟨trivial,loD l o z (lC l o x)⟩) _ _ dB;have r9:aj (λ_=>True) mD d9 w9:=yq (Le.refl mD) rD;have vE:aq cd oP [none,none,none,none,none,none,none,some d9,none]=.ok d9:=by
  unfold oP;simp only[zG,zm,zl,ze,za,aM,zi,K.cop _ plD]
 obtain⟨wE,mE,eE,lE,rE⟩:=xp H.r (R:=λ_=>True) (m:=mD) (env:=[some (.rol (ns.map Wd.int)),some (.int n),some w2,some (.tup [.ref p0,.ref p1]),some w7,some w8,some (.int c),some w9,none]) (kA aG aG aG aG aG aG aG (ve r9) aG) vE;have q9:yG 12 d9=true:=gc 6 _ 6 plD;have vF:aq cd nE [none,none,some (aB R),none,none,none,none,some d9,some d9]=.ok (.bl true):=by
  unfold nE;simp only[sP,zC,zG,zm,zl,ze,za,xT,aM,zi,K.spn d9 plD bdD,Ep q9,K.arrw,K.own,K.sam];rfl
 obtain⟨wF,mF,eF,lF,rF⟩:=xp H.r (R:=λ_=>True) (m:=mE) (env:=[some (.rol (ns.map Wd.int)),some (.int n),some w2,some (.tup [.ref p0,.ref p1]),some w7,some w8,some (.int c),some w9,some wE]) (kA aG aG (ve (yq lE rR)) aG aG aG aG (ve (yq lE r9)) (ve (yq (Le.refl mE) rE))) vF;obtain rfl:=ah.mp rF;exact⟨mF,(zu (wM (i:=1) e1)).trans ((zu (wM (i:=2) e2)).trans ((zu (wM (i:=3) e3)).trans ((zu s4).trans ((zu (wM (i:=4) e7)).trans ((zu (wM (i:=5) e8)).trans ((zu s7).trans ((zu (fF eA)).trans ((zu (wM (i:=6) eB)).trans ((zu (wM (i:=7) s10)).trans ((zu (wM (i:=8) eE)).trans (oh eF)))))))))))⟩
end
end Lib
namespace Lib
def E7 {x:List Int}(h:x.length=q)(hx:∀v∈x,v=1\/v=-1):wL q (row x)=true:=by
 show(decide (((x.map Dat.int).length:Int)=q)&&(x.map Dat.int).all kW)=true;rw[LJ (by simp[h]),Bool.true_and,WK,QE];intro v hv;show(decide (v=1) || decide (v=-1))=true;rcases hx v hv with rfl|rfl<;>rfl
def uR (h:∀i j,i<p->j<q->F i j=1\/F i j=-1):((zv p q F).map row).all (wL q)=true:=by
 rw[WK,QE];intro x hx;refine E7 (xJ x hx) λv hv=>?_;obtain⟨i,hi,rfl⟩:=QL.mp hx;obtain⟨j,hj,rfl⟩:=QL.mp hv;exact h i j (Wb.mp hi) (Wb.mp hj)
def gZ (h1:1<=n)(h2:n<=12)(h:PM n W V):yz (arr n W V)=true:=by
 have e1:=uR (p:=n) (q:=n+1) (F:=W) λi j hi hj=>h.f i j hi (by lia);have e2:=uR (p:=n+1) (q:=n) (F:=V) λi j hi hj=>h.g i j (by lia) hj;have l1:((zv n (n+1) W).map row).length=n:=by rw[Qw,yF]
 have l2:((zv (n+1) n V).map row).length=n+1:=by rw[Qw,yF]
 show yz (.tup [.lst ((zv n (n+1) W).map row),.lst ((zv (n+1) n V).map row)])=true;rw[gd,l1,l2,e2,show((n:Int)+1)=((n+1:Nat):Int) by lia,e1,LJ (by lia),LJ rfl,LJ rfl];rfl
def Bn (h:AR n W V)(r c:Nat)(hr:r<n)(hc:c<n):wr n W V r c=false:=by
 unfold wr;have a:=h.place r c hr hc;have b:=h.left r hr;have d:=h.right r hr;have e:=h.top c hc;have f:=h.low c hc;simp[a,b,d,e,f]
def CO (h:cP n f d)(hd:d≠.non):yH .notN d .non=.ok (.bl true):=by
 rcases h with⟨rfl,_⟩|⟨r,c,_,_,rfl,_⟩
 .exact LH rfl hd
 .rfl
end Lib
namespace Lib
section
variable{lev:Nat->Lv}{cl:Nat->List Dat->Rd}{k:Nat}
noncomputable def jt(kw:Nat):Fn:=⟨2,2,(.ret (.and (.call kw (.pair (.var 0) .unit)) (.chain .le .le (.lit (.int 1)) (.var 0) (.var 1))))⟩
def Hx (hw:∀d,cl kw [d]=.ok (.bl (isInt d)))(n m:Int):zF lev cl k (jt kw) [.int n,.int m]=.ok (.bl (decide (1<=n/\n<=m))):=by
 by_cases h:1<=n<;>simp[zF,jt,zQ,zP,zK,bS,hw,isInt,h]
noncomputable def qQ(ks:Nat):Fn:=⟨1,1,(.ret (.call ks (.pair (.var 0) (.pair (.lit (.int 12)) .unit))))⟩
def F0 (hs:cl ks [.int n,.int 12]=.ok (.bl b)):zF lev cl k (qQ ks) [.int n]=.ok (.bl b):=by
 simp[zF,qQ,zQ,zP,zK,bS,hs]
end
end Lib
end Vl
end Mini
namespace Mini
open PySem
end Mini
namespace R18
open PySem L2 Mini
noncomputable def f0:Fn:=Mini.Vl.Lib.kT
abbrev qdd(a:Str)(i:Nat)(N:List Str)(k:Nat)(f:Fn):bn:=⟨a,top i,N,N.take k,f,a⟩
abbrev d0:=qdd "is_whole" 12 ["thing"] 1 f0
noncomputable def f1:Fn:=Mini.Vl.Lib.jt 0
abbrev d1:=qdd "is_size_to" 13 ["thing","most"] 2 f1
noncomputable def f2:Fn:=Mini.Vl.Lib.qQ 1
abbrev d2:=qdd "is_size" 14 ["thing"] 1 f2
noncomputable def f3:Fn:=Mini.Vl.Lib.gR 0
abbrev d3:=qdd "is_number_row" 15 ["thing","length"] 2 f3
noncomputable def f4:Fn:=Mini.Vl.Lib.kU 3
abbrev d4:=qdd "is_number_grid" 16 ["thing","rows","columns"] 3 f4
noncomputable def f5:Fn:=Mini.Vl.Lib.qM
abbrev d5:=qdd "are_among" 17 ["row","numbers"] 2 f5
noncomputable def f6:Fn:=Mini.Vl.Lib.wK 4 5
abbrev d6:=qdd "is_grid_of" 18 ["thing","rows","columns","numbers"] 4 f6
noncomputable def f7:Fn:=Mini.Vl.Lib.vL 2 6
abbrev d7:=qdd "is_side_pair" 20 ["thing","numbers","across","n"] 2 f7
noncomputable def f8:Fn:=Mini.Vl.Lib.oz
abbrev d8:=qdd "is_faulty_place" 21 ["across","down","r","c","left","right","above","below","last"] 4 f8
noncomputable def f9:Fn:=Mini.Vl.Lib.mG 8
abbrev d9:=qdd "first_faulty_place" 22 ["across","down","r","c"] 2 f9
noncomputable def AB:Fn:=Mini.Vl.Lib.mi
abbrev AV:=qdd "signs_of_row" 23 ["row"] 1 AB
noncomputable def AA:Fn:=Mini.Vl.Lib.lz 7 9 10
abbrev AU:=qdd "state_of_arrows" 24 ["thing","spot"] 1 AA
noncomputable def Az:Fn:=Mini.Vl.Lib.fT
abbrev AT:=qdd "_law_cell_at" 26 ["_law_script","_law_k"] 2 Az
noncomputable def Ay:Fn:=Mini.Vl.Lib.kT
abbrev AS:=qdd "_law_whole" 27 ["_law_thing"] 1 Ay
noncomputable def Ax:Fn:=Mini.Vl.Lib.lH
abbrev AQ:=qdd "_law_numbers" 28 ["_law_cell","_law_many","_law_found","_law_rest","_law_k","_law_one"] 2 Ax
noncomputable def Aw:Fn:=Mini.Vl.Lib.wY
abbrev AO:=qdd "_law_size_by" 29 ["_law_cell"] 1 Aw
noncomputable def Av:Fn:=Mini.Vl.Lib.lT 14
abbrev AN:=qdd "_law_triangle_by" 30 ["_law_cell","_law_n","_law_xs","_law_found","_law_last","_law_line","_law_k","_law_low"] 2 Av
noncomputable def Au:Fn:=Mini.Vl.Lib.j8
abbrev AM:=qdd "_law_state_by" 31 ["_law_triangle","_law_found","_law_k","_law_ahead"] 1 Au
noncomputable def At:Fn:=Mini.Vl.Lib.lG
abbrev AL:=qdd "_law_arrows_by" 32 ["_law_state","_law_n","_law_across","_law_down","_law_i"] 1 At
noncomputable def As:Fn:=Mini.Vl.Lib.mH 13
abbrev AK:=qdd "_law_same" 33 ["_law_told","_law_due","_law_k"] 2 As
noncomputable def Ar:Fn:=Mini.Vl.Lib.ly 20
abbrev AJ:=qdd "_law_copied" 34 ["_law_thing"] 1 Ar
noncomputable def Aq:Fn:=⟨3,8,(.seq (.fort 3 4 (.tup (.pair (.var 0) .unit)) .skip) (.seq (.asg 5 (.idx (.lst (.pair (.lit (.int 2)) (.pair (.lit (.bl true)) (.pair (.lit .non) (.pair (.lit (.str [49])) (.pair (.lit (.int 0)) (.pair (.lst (.pair (.lit (.int 1)) .unit)) (.pair (.tup (.pair (.lit (.int 1)) .unit)) (.pair (.lit (.bl false)) .unit))))))))) (.bin .mod (.var 2) (.lit (.int 8))))) (.seq (.ite (.cmp .eq (.var 1) (.lit (.int 0))) (.ret (.idx (.lst (.pair (.lit .non) (.pair (.lit (.int 7)) (.pair (.lit (.str [])) (.pair (.lst (.pair (.var 3) (.pair (.var 4) .unit))) (.pair (.tup (.pair (.var 3) .unit)) (.pair (.tup (.pair (.var 3) (.pair (.var 4) (.pair (.var 4) .unit)))) (.pair (.tup (.pair (.lst .unit) (.pair (.lst (.pair (.lst .unit) .unit)) .unit))) (.pair (.tup (.pair (.lit .non) (.pair (.var 4) .unit))) .unit))))))))) (.bin .mod (.var 2) (.lit (.int 8))))) .skip) (.seq (.asg 6 (.idx (.lst (.pair (.var 3) (.pair (.var 4) .unit))) (.bin .mod (.bin .fdiv (.var 2) (.lit (.int 8))) (.lit (.int 2))))) (.seq (.asg 7 (.bin .mod (.bin .fdiv (.var 2) (.lit (.int 16))) (.blt .len (.pair (.var 6) .unit)))) (.seq (.ite (.cmp .eq (.var 1) (.lit (.int 1))) (.asgS (.idx (.var 6) (.var 7)) (.bin .mod (.bin .fdiv (.var 2) (.lit (.int 200))) (.blt .len (.pair (.idx (.var 6) (.var 7)) .unit))) (.var 5)) .skip) (.seq (.ite (.cmp .eq (.var 1) (.lit (.int 2))) (.expr (.meth .append (.idx (.var 6) (.var 7)) (.pair (.idx (.idx (.var 6) (.var 7)) (.lit (.int 0))) .unit))) .skip) (.seq (.ite (.cmp .eq (.var 1) (.lit (.int 3))) (.expr (.meth .pop (.idx (.var 6) (.var 7)) .unit)) .skip) (.seq (.ite (.cmp .eq (.var 1) (.lit (.int 4))) (.expr (.meth .append (.var 6) (.pair (.blt .list (.pair (.idx (.var 6) (.lit (.int 0))) .unit)) .unit))) .skip) (.seq (.ite (.cmp .eq (.var 1) (.lit (.int 5))) (.asgS (.var 6) (.var 7) (.idx (.lst (.pair (.blt .tuple (.pair (.idx (.var 6) (.var 7)) .unit)) (.pair (.lit .non) (.pair (.lit (.int 3)) (.pair (.lit (.str [49])) .unit))))) (.bin .mod (.bin .fdiv (.var 2) (.lit (.int 200))) (.lit (.int 4))))) .skip) (.seq (.ite (.cmp .eq (.var 1) (.lit (.int 6))) (.expr (.meth .pop (.var 6) .unit)) .skip) (.ret (.tup (.pair (.var 3) (.pair (.var 4) .unit)))))))))))))))⟩
abbrev AI:=qdd "_law_bad_form" 35 ["_law_pair","_law_kind","_law_cell","_law_across","_law_down","_law_odd","_law_lines","_law_at"] 3 Aq
noncomputable def oA:Fn:=⟨1,1,(.ret (.bin .sub (.lit (.int 0)) (.var 0)))⟩
abbrev AH:=qdd "_law_other" 36 ["_law_number"] 1 oA
noncomputable def Ap:Fn:=⟨3,15,(.seq (.fort 3 4 (.tup (.pair (.var 0) .unit)) .skip) (.seq (.asg 5 (.blt .len (.pair (.var 3) .unit))) (.seq (.asg 6 (.bin .mod (.idx (.var 2) (.lit (.int 0))) (.var 5))) (.seq (.asg 7 (.bin .mod (.idx (.var 2) (.lit (.int 1))) (.var 5))) (.seq (.ite (.cmp .eq (.var 1) (.lit (.int 0))) (.forv 8 (.rng (.lit (.int 0)) (.bin .add (.lit (.int 1)) (.bin .mod (.idx (.var 2) (.lit (.int 2))) (.lit (.int 6)))) (.lit (.int 1))) (.seq (.asg 9 (.idx (.var 0) (.bin .mod (.idx (.var 2) (.bin .add (.bin .mul (.lit (.int 3)) (.var 8)) (.lit (.int 3)))) (.lit (.int 2))))) (.seq (.asg 10 (.idx (.var 9) (.bin .mod (.idx (.var 2) (.bin .add (.bin .mul (.lit (.int 3)) (.var 8)) (.lit (.int 4)))) (.blt .len (.pair (.var 9) .unit))))) (.seq (.asg 11 (.bin .mod (.idx (.var 2) (.bin .add (.bin .mul (.lit (.int 3)) (.var 8)) (.lit (.int 5)))) (.blt .len (.pair (.var 10) .unit)))) (.asgS (.var 10) (.var 11) (.call 22 (.pair (.idx (.var 10) (.var 11)) .unit))))))) .skip) (.seq (.ite (.cmp .eq (.var 1) (.lit (.int 1))) (.for3 9 12 13 (.lst (.pair (.tup (.pair (.var 3) (.pair (.var 6) (.pair (.var 7) .unit)))) (.pair (.tup (.pair (.var 3) (.pair (.var 6) (.pair (.bin .add (.var 7) (.lit (.int 1))) .unit)))) (.pair (.tup (.pair (.var 4) (.pair (.var 6) (.pair (.var 7) .unit)))) (.pair (.tup (.pair (.var 4) (.pair (.bin .add (.var 6) (.lit (.int 1))) (.pair (.var 7) .unit)))) .unit))))) (.asgS (.idx (.var 9) (.var 12)) (.var 13) (.call 22 (.pair (.idx (.idx (.var 9) (.var 12)) (.var 13)) .unit)))) .skip) (.seq (.ite (.cmp .eq (.var 1) (.lit (.int 2))) (.seq (.asg 14 (.idx (.lst (.pair (.lit (.int 0)) (.pair (.var 5) .unit))) (.bin .mod (.idx (.var 2) (.lit (.int 2))) (.lit (.int 2))))) (.asgS (.var 4) (.var 14) (.comp (.call 22 (.pair (.var 15) .unit)) (.idx (.var 4) (.var 14)) (.lit (.bl true))))) .skip) (.seq (.ite (.cmp .eq (.var 1) (.lit (.int 3))) (.seq (.asg 14 (.idx (.lst (.pair (.lit (.int 0)) (.pair (.var 5) .unit))) (.bin .mod (.idx (.var 2) (.lit (.int 2))) (.lit (.int 2))))) (.forv 10 (.var 3) (.asgS (.var 10) (.var 14) (.call 22 (.pair (.idx (.var 10) (.var 14)) .unit))))) .skip) (.ite (.cmp .eq (.var 1) (.lit (.int 4))) (.seq (.asgS (.idx (.var 3) (.var 6)) (.lit (.int 0)) (.call 22 (.pair (.idx (.idx (.var 3) (.var 6)) (.lit (.int 0))) .unit))) (.asgS (.idx (.var 3) (.var 6)) (.var 5) (.call 22 (.pair (.idx (.idx (.var 3) (.var 6)) (.var 5)) .unit)))) .skip)))))))))⟩
abbrev AG:=qdd "_law_flipped" 37 ["_law_pair","_law_kind","_law_xs","_law_across","_law_down","_law_n","_law_r","_law_c","_law_k","_law_lines","_law_line","_law_at","_law_i","_law_j","_law_edge"] 3 Ap
noncomputable def Ao:Fn:=Mini.Vl.Lib.ou
abbrev AF:=qdd "_law_is_wrong" 38 ["_law_pair","_law_r","_law_c","_law_across","_law_down","_law_n","_law_more"] 3 Ao
noncomputable def An:Fn:=Mini.Vl.Lib.iu 24
abbrev AE:=qdd "_law_fault" 39 ["_law_pair","_law_n","_law_r","_law_c"] 1 An
noncomputable def Am:Fn:=Mini.Vl.Lib.iz 29
abbrev oC:=qdd "_law_spot_of" 40 ["_law_thing","e"] 1 Am
noncomputable def Al:Fn:=⟨1,1,(.ret (.tup (.pair (.comp (.comp (.lit (.int 1)) (.rng (.lit (.int 0)) (.bin .add (.var 0) (.lit (.int 1))) (.lit (.int 1))) (.lit (.bl true))) (.rng (.lit (.int 0)) (.var 0) (.lit (.int 1))) (.lit (.bl true))) (.pair (.comp (.comp (.neg (.lit (.int 1))) (.rng (.lit (.int 0)) (.var 0) (.lit (.int 1))) (.lit (.bl true))) (.rng (.lit (.int 0)) (.bin .add (.var 0) (.lit (.int 1))) (.lit (.int 1))) (.lit (.bl true))) .unit))))⟩
abbrev AD:=qdd "_law_floor" 41 ["_law_n"] 1 Al
noncomputable def fZ:Fn:=⟨1,9,(.seq (.asg 1 (.call 15 (.pair (.call 12 (.pair (.var 0) (.pair (.lit (.int 0)) .unit))) .unit))) (.seq (.asg 2 (.call 17 (.pair (.call 16 (.pair (.call 12 (.pair (.var 0) (.pair (.lit (.int 1)) .unit))) (.pair (.var 1) .unit))) .unit))) (.seq (.asg 3 (.call 18 (.pair (.var 2) .unit))) (.seq (.expr (.call 23 (.pair (.var 3) (.pair (.bin .mod (.call 12 (.pair (.var 0) (.pair (.lit (.int 2)) .unit))) (.lit (.int 5))) (.pair (.call 14 (.pair (.call 12 (.pair (.var 0) (.pair (.lit (.int 3)) .unit))) (.pair (.lit (.int 21)) .unit))) .unit))))) (.seq (.asg 4 (.call 20 (.pair (.var 3) .unit))) (.seq (.asg 5 (.call 25 (.pair (.var 3) .unit))) (.seq (.ite (.cmp .isN (.var 5) (.lit .non)) (.ite (.cmp .ne (.call 18 (.pair (.call 11 (.pair (.var 4) .unit)) .unit)) (.var 3)) (.ret (.lit (.bl false))) .skip) (.ite (.or (.cmp .ne (.call 26 (.pair (.var 4) .unit)) (.var 5)) (.not (.isi .tuple (.call 26 (.pair (.var 4) .unit))))) (.ret (.lit (.bl false))) .skip)) (.seq (.ite (.or (.cmp .ne (.var 4) (.var 3)) (.cmp .notN (.call 26 (.pair (.call 27 (.pair (.idx (.lst (.pair (.lit (.int 0)) (.pair (.lit (.int 13)) .unit))) (.bin .mod (.call 12 (.pair (.var 0) (.pair (.lit (.int 4)) .unit))) (.lit (.int 2)))) .unit)) .unit)) (.lit .non))) (.ret (.lit (.bl false))) .skip) (.seq (.asg 6 (.blt .abs (.pair (.call 12 (.pair (.var 0) (.pair (.lit (.int 4)) .unit))) .unit))) (.seq (.asg 7 (.call 21 (.pair (.call 18 (.pair (.var 2) .unit)) (.pair (.bin .mod (.var 6) (.lit (.int 7))) (.pair (.bin .fdiv (.var 6) (.lit (.int 7))) .unit))))) (.seq (.asg 8 (.call 20 (.pair (.var 7) .unit))) (.ret (.and (.cmp .isN (.call 26 (.pair (.var 7) .unit)) (.lit .non)) (.and (.cmp .eq (.var 7) (.var 8)) (.call 19 (.pair (.call 11 (.pair (.call 18 (.pair (.var 2) .unit)) .unit)) (.pair (.var 2) .unit)))))))))))))))))⟩
abbrev oB:=qdd "law" 42 ["_law_script","_law_n","_law_state","_law_pair","_law_handed","_law_spot","_law_cell","_law_thing","_law_kept"] 1 fZ
noncomputable def D:List bn:=[d0,d1,d2,d3,d4,d5,d6,d7,d8,d9,AV,AU,AT,AS,AQ,AO,AN,AM,AL,AK,AJ,AI,AH,AG,AF,AE,oC,AD,oB]
noncomputable def C:Mini.Ctx:=⟨["is_whole","is_size_to","is_size","is_number_row","is_number_grid","are_among","is_grid_of","is_side_pair","is_faulty_place","first_faulty_place","signs_of_row","state_of_arrows","_law_cell_at","_law_whole","_law_numbers","_law_size_by","_law_triangle_by","_law_state_by","_law_arrows_by","_law_same","_law_copied","_law_bad_form","_law_other","_law_flipped","_law_is_wrong","_law_fault","_law_spot_of","_law_floor","law"],[("GREATEST_SIZE",12)],[]⟩
noncomputable def x0:Fn:=⟨1,2,(.seq (.ite (.not (.call 7 (.pair (.var 0) (.pair (.tup (.pair (.lit (.int 1)) (.pair (.neg (.lit (.int 1))) .unit))) .unit)))) (.ret (.tup (.pair (.lit .non) .unit))) .skip) (.seq (.asg 1 (.call 9 (.pair (.idx (.var 0) (.lit (.int 0))) (.pair (.idx (.var 0) (.lit (.int 1))) .unit)))) (.seq (.ite (.cmp .notN (.var 1) (.lit .non)) (.ret (.tup (.pair (.var 1) .unit))) .skip) (.seq (.expr (.comp (.call 10 (.pair (.var 2) .unit)) (.idx (.var 0) (.lit (.int 0))) (.lit (.bl true)))) (.ret (.tup .unit))))))⟩
abbrev dX:=qdd "state_of_arrows" 24 ["thing","spot"] 1 x0
noncomputable def XD:List bn:=[dX]
noncomputable def Q:Xc:=⟨"GyreError",["NoState"],["NoName","NoRoad","NoSize","NoSquare","NoText","NoTurn","Unlike"]⟩
def Ia:ie C "NoState" dX:=⟨by decide +kernel,rfl,rfl,ik.mk (i:=1) rfl rfl (.not rfl rfl (.call rfl (by kernel_rfl) (by kernel_rfl) rfl (.pair rfl rfl .v (.pair rfl rfl (.tup (.pair rfl rfl .int (.pair rfl rfl (.neg rfl .int) .unit))) .unit)))) (.asg rfl rfl (by kernel_rfl) rfl (.call rfl (by kernel_rfl) (by kernel_rfl) rfl (.pair rfl rfl (.idx rfl rfl .v rfl .int) (.pair rfl rfl (.idx rfl rfl .v rfl .int) .unit)))) rfl rfl (.cmp rfl rfl .v rfl .non) (.ret rfl (.comp0 rfl (by kernel_rfl) (.idx rfl rfl .v rfl .int) rfl (.call rfl (by kernel_rfl) (by kernel_rfl) rfl (.pair rfl rfl .v .unit)))) rfl (by kernel_rfl) (by kernel_rfl) (by kernel_rfl) (by kernel_rfl)⟩
def nK:ig C Q 29 "state_of_arrows" "spot" oC:=⟨by decide +kernel,rfl,rfl,ln.mk (i:=1) (by kernel_rfl) (by kernel_rfl) rfl (.pair rfl rfl .v .unit) (by kernel_rfl) (by kernel_rfl) rfl (by kernel_rfl) (by kernel_rfl) (by kernel_rfl) (by decide) rfl (by kernel_rfl) (by kernel_rfl) (by kernel_rfl) (by kernel_rfl) rfl⟩
def ac {P:bn->Prop}(h:P a)(t:∀d∈l,P d):∀d∈a::l,P d:=Wt.mpr ⟨h,t⟩
set_option maxHeartbeats 0 in
def Bm:∀d∈D,lh C d\/ig C Q D.length dX.nm "spot" d:=by
 unfold D;repeat' refine Wt.2 ⟨?_,?_⟩
 all_goals first|exact .inr nK|exact λ_ h=>(Vh h).elim|(refine .inl ⟨by decide +kernel,rfl,rfl,?_⟩;repeat' first|exact .v|exact .int|exact .unit|refine .pair rfl rfl ?_ ?_|refine .bin rfl ?_ rfl ?_|refine .seq ?_ ?_|refine .one ?_|refine .cmp rfl rfl ?_ rfl ?_|refine .call rfl ?_ ?_ rfl ?_|refine .ret rfl ?_|refine .blt rfl ?_ ?_ rfl ?_|refine .ite rfl rfl ?_ ?_ ?_|exact .skip0|refine .lst ?_|refine .comp0 rfl ?_ ?_ rfl ?_|exact .bl|refine .rng1 ?_ rfl rfl ?_|refine .and2 rfl rfl ?_ rfl rfl ?_|refine .tup ?_|refine .isi ?_ ?_ rfl rfl ?_|refine .not rfl rfl ?_|refine .forv rfl ?_ rfl ?_ ?_|refine .expr rfl rfl ?_|exact .non|refine .or2 rfl rfl ?_ rfl rfl ?_|refine .neg rfl ?_|refine .meth rfl rfl ?_ rfl rfl ?_ ?_|refine .asgS rfl rfl ?_ rfl ?_ rfl ?_|refine .unp rfl ?_ rfl ?_ rfl rfl ?_|refine .str ?_|refine .andN rfl rfl ?_ rfl ?_|exact .never|refine .slH rfl ?_ rfl ?_|refine .meth0 rfl rfl rfl ?_|refine .chain rfl rfl ?_ rfl ?_ rfl ?_|refine .con ?_ ?_ ?_|refine .lrng ?_ ?_ rfl rfl ?_|refine .appPop ?_|refine bC.«while» rfl rfl ?_ ?_|refine .asgC0 rfl ?_ rfl ?_ ?_ rfl ?_|refine .for3 rfl ?_ rfl ?_ rfl ?_ rfl ?_ ?_|refine .idx rfl rfl ?_ rfl ?_|refine .asg rfl rfl ?_ rfl ?_|kernel_rfl|decide)
def Ij:fD dX:=λ_ _ _ _ _ _=>mS (λ_=>rfl)
set_option maxHeartbeats 0 in
def Ik:∀d∈D,fD d:=by
 unfold D;repeat' refine Wt.2 ⟨?_,?_⟩
 all_goals first|exact λ_ _ _ _ _ _=>mS (λ_=>rfl)|exact λ_ _ _ _ _ _=>mR (λ_ _=>rfl)|exact λ_ _ _ _ _ _=>z9 (λ_ _ _=>rfl)|exact λ_ _ _ _ _ _=>HR (λ_ _ _ _=>rfl)|exact λ_ h=>(Vh h).elim
def dk {K:Qb}(X:K.In h)(G:h.Ns JY mg){kV:Value}(g:Q5 K JY d.nm=some (some (.ref a)))(l:K.lookup a=some ⟨oc,od,.func (Wa d.on d.on (xC d.st) (zR d.st) (zo d.st) .none kV dc pm an cd ct),sl⟩)(c:Wz K cd d.on=true)(k:QT K (.ref a)=true):wR K mg d:=⟨a,_,mL l c k,Q4 X G g⟩
def io{K:Qb}{A fI:Addr}{cc:ClassData}{od an:Option Addr}{sl:Array (Option Value)}{oc kV dc pm cd ct:Value}(i1:wS K A=true)(i2:PySem.W.clsIn K A=some cc)(i3:cc.hasDict=true)(i4:∀self,refuseLoop self "__setattr__" cc.mro=pure ())(i5:Wk K (.ref A) "__setattr__"=some (some (.builtin "object.__setattr__")))(i6:Wm K A (.type "object")=some true)
  (i7:Wk K (.ref A) "spot"=some none) (i8:Wk K (.ref A) "__init__"=some (some (.ref fI))) (i9:PySem.W.typeIn K (.ref fI)=some (.type "function")) (l:K.lookup fI=some ⟨oc,od,.func (Wa "__init__" "NoState.__init__" (xC dJ) (zR dJ) (zo dJ) .none kV dc pm an cd ct),sl⟩) (c:Wz K cd "NoState.__init__"=true) (k:QT K (.ref fI)=true):bE K A fI "spot" "self" dJ:=
 ⟨i1,⟨⟨cc,i2,i3,i4⟩,i5,i6,i7,i8,i9⟩,⟨_,_,mL l c k,(mL l c k).binds λ_ _ _ _ _ _=>mR (λ_ _=>rfl)⟩,vg (by decide +kernel),⟨_,_,_,_,rfl,λ_=>rfl⟩,by kernel_rfl,by kernel_rfl,⟨by decide,by decide⟩,⟨by decide,by decide⟩⟩
def mk{K:Qb}{w:JT}{h:JU}{mg:Str->Option Value}(X:K.In h)(G:h.Ns JY mg){cG fI u0 u1 u2 u3 u4 u5 u6 u7:Addr}{t0:Tok}
  (hD:∀e∈D,wR K mg e) (hX:∀e∈XD,wR K mg e)
  (e0:Q5 K JY "GREATEST_SIZE"=some (some (.int 12 t0)))
  (z:∀nm∈zy,Q5 K JY nm=some none)
  (xG:Q5 K JY "GyreError"=some (some (.ref cG)))
  (xg0:Q5 K JY "NoState"=some (some (.ref u0)))
  (xo0:Q5 K JY "NoName"=some (some (.ref u1)))
  (xo1:Q5 K JY "NoRoad"=some (some (.ref u2)))
  (xo2:Q5 K JY "NoSize"=some (some (.ref u3)))
  (xo3:Q5 K JY "NoSquare"=some (some (.ref u4)))
  (xo4:Q5 K JY "NoText"=some (some (.ref u5)))
  (xo5:Q5 K JY "NoTurn"=some (some (.ref u6)))
  (xo6:Q5 K JY "Unlike"=some (some (.ref u7)))
  (xE:wS K cG=true)
  (xM:Wm K cG (.type "BaseException")=some true)
  (ya:Wk K (.ref u0) "__getattribute__"=some (some (.builtin "BaseException.__getattribute__")))
  (yb:Wk K (.ref u0) "__getattr__"=some none)
  (yc:Wm K u0 (.type "BaseException")=some true)
  (yd:Wk K (.ref u0) "__class__"=some (some (.builtin "object.__class__")))
  (ye:Wm K u0 (.type "object")=some true)
  (ym:Wm K u0 (.ref cG)=some true)
  (yk:Qz K (.ref u0) (.ref u0)=some true)
  (yv:Qz K (.ref u0) (.type "ValueError")=some true)
  (yw:Q5 K JY "ValueError"=some none)
  (yk0:Qz K (.ref u0) (.ref u1)=some false)
  (yk1:Qz K (.ref u0) (.ref u2)=some false)
  (yk2:Qz K (.ref u0) (.ref u3)=some false)
  (yk3:Qz K (.ref u0) (.ref u4)=some false)
  (yk4:Qz K (.ref u0) (.ref u5)=some false)
  (yk5:Qz K (.ref u0) (.ref u6)=some false)
  (yk6:Qz K (.ref u0) (.ref u7)=some false)
  (i0:bE K u0 fI "spot" "self" dJ)
  : ((∀e∈D,wR K mg e)/\jJ K w mg C/\∀nm∈zy,mg nm=none)/\wR K mg dX/\∃G A fI,fC K mg Q G A/\Qz K (.ref A) (.type "ValueError")=some true/\mg "ValueError"=none/\mg "NoState"=some (.ref A)/\bE K A fI "spot" "self" dJ:=by
 refine⟨⟨hD,⟨λnm i hi=>?_,λnm qq hi=>?_⟩,λnm hn=>PySem.W.mg_none_of X G (z nm hn)⟩,hX dX (QH ..),cG,u0,fI,⟨Q4 X G xG,xE,xM,⟨_,rfl,Q4 X G xg0⟩,⟨ya,yb,yc,yd,ye⟩,ym,yk,λc x hx=>?_⟩,yv,PySem.W.mg_none_of X G yw,Q4 X G xg0,i0⟩
 .unfold C at hi;rw[QV]at hi;cases q0:nm==("GREATEST_SIZE":Str)with
  |true=>
   rw[q0]at hi;cases hi;rw[beq_iff_eq.mp q0];exact⟨t0,Q4 X G e0⟩
  |false=>
  rw[q0]at hi;cases hi
 .cases hi
 .have hx':(["NoName","NoRoad","NoSize","NoSquare","NoText","NoTurn","Unlike"]:List Str)[c]?=some x:=hx
  match c,hx' with
  |0,h=>cases h;exact⟨u1,Q4 X G xo0,yk0⟩
  |1,h=>cases h;exact⟨u2,Q4 X G xo1,yk1⟩
  |2,h=>cases h;exact⟨u3,Q4 X G xo2,yk2⟩
  |3,h=>cases h;exact⟨u4,Q4 X G xo3,yk3⟩
  |4,h=>cases h;exact⟨u5,Q4 X G xo4,yk4⟩
  |5,h=>cases h;exact⟨u6,Q4 X G xo5,yk5⟩
  |6,h=>cases h;exact⟨u7,Q4 X G xo6,yk6⟩
  |_+7,h=>cases h
end R18
namespace R18
open Mini
noncomputable def T:List Fn:=[f0,f1,f2,f3,f4,f5,f6,f7,f8,f9,AB,AA,Az,Ay,Ax,Aw,Av,Au,At,As,Ar,Aq,oA,Ap,Ao,An,Am,Al,fZ,x0]
open Vl Vl.Lib
noncomputable def qR:Nat->Lv:=λk=>if k=16\/k=20 then .no else .full
abbrev CD(d:Nat):=gM qR T d
def yf (h:T[k]?=some f)(ds:List Dat):CD (d+1) k ds=zF qR (CD d) k f ds:=by
 show gM qR T (d+1) k ds=_;unfold gM;rw[h]
def nt(k:Nat):qR k≠.top:=λh=>by
 unfold qR at h;split at h<;>cases h
def H0(d:Nat)(x:Dat):CD (d+1) 0 [x]=.ok (.bl (isInt x)):=by rw[yf (f:=kT) rfl];exact gP x
def Ix(d:Nat)(x:Dat):CD (d+1) 13 [x]=.ok (.bl (isInt x)):=by rw[yf (f:=kT) rfl];exact gP x
def H1(d:Nat)(n m:Int):CD (d+2) 1 [.int n,.int m]=.ok (.bl (decide (1<=n/\n<=m))):=by rw[yf (f:=jt 0) rfl];exact Hx (H0 d) n m
def H2(d:Nat)(n:Int):CD (d+3) 2 [.int n]=.ok (.bl (decide (1<=n/\n<=12))):=by rw[yf (f:=qQ 1) rfl];exact F0 (H1 d n 12)
def H3(d:Nat)(x:Dat)(n:Int)(h:fU x=true)(hn:n<=100):CD (d+2) 3 [x,.int n]=.ok (.bl (cZ n x)):=by rw[yf (f:=gR 0) rfl];exact Ga (H0 d) x n h hn
def H4(d:Nat):∀(x:Dat) (a b:Int),dw x=true->a<=100->b<=100->CD (d+3) 4 [x,.int a,.int b]=.ok (.bl (match x with |.lst xs=>decide ((xs.length:Int)=a)&&xs.all (cZ b)|_=>false)):=λx a b h ha hb=>by rw[yf (f:=kU 3) rfl];refine(F9 (H3 d) x a b h ha hb).trans ?_;cases x<;>rfl
def H5(d:Nat)(xs:List Dat)(h:xs.all isInt=true)(hl:xs.length<=100):CD (d+1) 5 [.lst xs,pm]=.ok (.bl (xs.all kW)):=by rw[yf (f:=qM) rfl];exact Hy xs h hl
def H6(d:Nat)(x:Dat)(a b:Int)(h:dw x=true)(ha:a<=100)(hb:b<=100):CD (d+4) 6 [x,.int a,.int b,pm]=.ok (.bl (wZ a b x)):=by rw[yf (f:=wK 4 5) rfl];exact HE (H4 d) (H5 (d+2)) x a b h ha hb
def H7(d:Nat)(x:Dat)(h:ft x=true):CD (d+5) 7 [x,pm]=.ok (.bl (yz x)):=by rw[yf (f:=vL 2 6) rfl];exact F8 (H2 (d+1)) (H6 d) x h
def H8 (d:Nat)(W V:Nat->Nat->Int)(r c:Nat)(hr:r<n)(hc:c<n):CD (d+1) 8 [aB (zv n (n+1) W),aB (zv (n+1) n V),.int r,.int c]=.ok (.bl (wr n W V r c)):=by rw[yf (f:=oz) rfl];exact Cw W V hr hc
def H9 (d:Nat)(hn:n<=12)(W V:Nat->Nat->Int):∃s,cP n (wr n W V) s/\CD (d+2) 9 [aB (zv n (n+1) W),aB (zv (n+1) n V)]=.ok s:=by rw[yf (f:=mG 8) rfl];exact Gb hn (H8 d W V)
def Iy (d:Nat)(hn:n<=12)(F:Nat->Nat->Int)(r:Nat):CD (d+1) 10 [row (yj (n+1) F r)]=.ok (row (yj n (bF F) r)):=by rw[yf (f:=mi) rfl];exact Gd hn F r rfl
def Bj (d:Nat)(h1:1<=n)(h2:n<=12)(h:AR n F G):CD (d+6) 11 [arr n F G]=.ok (aB (zv n n (bF F))):=by
 rw[yf (f:=lz 7 9 10) rfl];obtain⟨s,hs,e⟩:=H9 (d+3) h2 F G;obtain rfl:=hs.det (.inl ⟨rfl,Bn h⟩);exact DX h2 (by rw[H7 d _ (kZ (k9 h2)),gZ h1 h2 ⟨h.f,h.g⟩]) e (λr _=>Iy (d+4) h2 F r) rfl rfl
def il(d:Nat)(ns:List Int)(i:Nat):∃c:Int,CD (d+1) 12 [.scr ns,.int i]=.ok (.int c):=by rw[yf (f:=fT) rfl];exact FT ns i
def Bh(d:Nat)(c:Int)(k:Nat)(hk:k<=100):∃x:List Int,x.length=k/\CD (d+1) 14 [.int c,.int k]=.ok (row x):=by rw[yf (f:=lH) rfl];exact D3 c (m:=k) hk (nt _)
def Iw(d:Nat)(c:Int):∃n:Nat,1<=n/\n<=12/\CD (d+1) 15 [.int c]=.ok (.int n):=by rw[yf (f:=wY) rfl];exact HI c
def Iv (d:Nat)(hn:1<=n)(hn':n<=12)(cell:Int):∃X,hU n X/\CD (d+2) 16 [.int cell,.int n]=.ok (aB X):=by
 rw[yf (f:=lT 14) rfl];obtain⟨L,h1,h2,e⟩:=EC (lev:=qR) (k:=16) (λc=>Bh d c 66 (by lia)) rfl hn hn' cell rfl;exact⟨L.reverse,hU.of hn h2 h1,e⟩
def Iu(d:Nat)(X:List (List Int))(hX:X.length<=100):CD (d+1) 17 [aB X]=.ok (aB (sg X)):=by rw[yf (f:=j8) rfl];exact HG X hX rfl
def Bg (d:Nat)(h:Sq R)(hn:R.length<=100):CD (d+1) 18 [aB R]=.ok (arr R.length (cy R) (cV R)):=by rw[yf (f:=lG) rfl];exact DY h hn rfl
def Ir(d:Nat)(A:List (List Int))(hA:A.length<=100)(hr:∀x∈A,x.length<=100):CD (d+2) 19 [aB A,aB A]=.ok (.bl true):=by rw[yf (f:=mH 13) rfl];exact Gc (Ix d) A hA hr
theorem Bf:∀(e d:Nat) (x:Dat),zn e x=true->CD (d+e) 20 [x]=.ok x
 |0,_,_,h=>by unfold zn at h;cases h
 |e+1,d,x,h=>by
  show CD ((d+e)+1) 20 [x]=_;rw[yf (f:=ly 20) rfl];exact DW h (Bf e d) rfl
def Iq(d:Nat)(a:Int):CD (d+1) 22 [.int a]=.ok (.int (0-a)):=by rw[yf (f:=oA) rfl];rfl
def Ip (d:Nat)(W V:Nat->Nat->Int)(r c:Nat)(hr:r<n)(hc:c<n):CD (d+1) 24 [arr n W V,.int r,.int c]=.ok (.bl (wr n W V r c)):=by rw[yf (f:=ou) rfl];exact Cy W V hr hc
def Io (d:Nat)(hn:n<=12)(W V:Nat->Nat->Int):∃s,cP n (wr n W V) s/\CD (d+2) 25 [arr n W V]=.ok s:=by rw[yf (f:=iu 24) rfl];exact Eu hn (Ip d W V)
def oZ(d:Nat)(x:Dat)(h:ft x=true)(hb:yz x=false):CD (d+6) 29 [x]=.ok (.tup [.non]):=by
 rw[yf (f:=iX 7 9 10) rfl];exact F7 (by rw[H7 d x h,hb])
def Il (d:Nat)(h1:1<=n)(h2:n<=12)(h:PM n W V)(hs:cP n (wr n W V) s)(hne:s≠.non):CD (d+6) 29 [arr n W V]=.ok (.tup [s]):=by
 rw[yf (f:=iX 7 9 10) rfl];obtain⟨s',hs',e⟩:=H9 (d+3) h2 W V;obtain rfl:=hs.det hs';exact Cu hs.flat (CO hs hne) (by rw[H7 d _ (kZ (k9 h2)),gZ h1 h2 h]) e
def o0(d:Nat)(x:Dat)(h:ft x=true)(hb:yz x=false):CD (d+7) 26 [x]=.ok .non:=by
 rw[yf (f:=iz 29) rfl];exact tu (by rfl) (oZ d x h hb)
def Im (d:Nat)(h1:1<=n)(h2:n<=12)(h:PM n W V)(hs:cP n (wr n W V) s)(hne:s≠.non):CD (d+7) 26 [arr n W V]=.ok s:=by
 rw[yf (f:=iz 29) rfl];exact tu hs.flat (Il d h1 h2 h hs hne)
noncomputable def Ak(n:Nat):Dat:=.tup [aB (Qu n (Qu (n+1) 1)),aB (Qu (n+1) (Qu n (-1)))]
theorem Ih:CD 8 27 [.int 0]=.ok (Ak 0):=by kernel_rfl
theorem oq:CD 8 27 [.int 13]=.ok (Ak 13):=by kernel_rfl
def ol (h1:1<=n)(hn:n<=12)(a:bj k0 n (n+1) m l0)(b:bj k0 (n+1) n m l1)(p:0<=kd)(q:kd<7):∃w m' d,zZ T 8 21 [.tup [.ref l0,.ref l1],.int kd,.int c] m=.ok w m'/\(∀(l:Nat) o,l<k0->m[l]?=some o->m'[l]?=some o)/\aj (λl=>k0<=l) m' d w/\zn 6 d=true/\yz d=false:=
 Er (cl:=zZ T 7) (v9 qR T 7).r h1 hn a b p q
def oi (h1:1<=n)(hn:n<=12)(hd:ds.length=21)(h:Fl k0 m n l0 l1 l2 ds m):∃m',zZ T 8 23 [.tup [.ref l0,.ref l1],.int kd,.ref l2] m=.ok .non m'/\Fl k0 m n l0 l1 l2 ds m':=
 E9 (cl:=zZ T 7) (v9 qR T 7).r (Iq 6) h hd h1 hn
def Eo(ns:List Int):∃m,zZ T 9 28 [.rol (ns.map Wd.int)] []=.ok (.bl true) m:=by
 obtain⟨c0,t0⟩:=il 7 ns 0;obtain⟨c1,t1⟩:=il 7 ns 1;obtain⟨c2,t2⟩:=il 7 ns 2;obtain⟨c3,t3⟩:=il 7 ns 3;obtain⟨c4,t4⟩:=il 7 ns 4;obtain⟨n,h1,h2,t5⟩:=Iw 7 c0;obtain⟨X,hX,t6⟩:=Iv 6 h1 h2 c1;have hXl:=hX.len;have t7:=Iu 7 X (by lia);have hl:(sg X).length=n:=by rw[qK,hXl]
 have hsq:=BD X;have hS:c8 (sg X):=c8.of hsq λr c a b=>CJ hX (by lia) (by lia);have t8:=Bg 7 hsq (by lia);obtain⟨ds,hd,t9⟩:=Bh 7 c3 21 (by lia);have ar:=hS.ar;have bk:=hS.back;have sm:=Ir 6 (sg X) (by lia) λx hx=>by rw[hsq x hx];lia
 rw[hl]at t8 ar bk;have K:Bc (CD 8) ns n c0 c1 c2 c3 c4 X (sg X) (cy (sg X)) (cV (sg X)) ds:=⟨h1,h2,t0,t1,t2,t3,t4,t5,t6,t7,t8,⟨ar.f,ar.g⟩,t9,hd,λd h=>Bf 6 2 d h,Io 6 h2,λW V h=>Bj 2 h1 h2 h,λW V h=>by
   have z:=Bg 7 (R:=zv n n (bF W)) (λx hx=>by rw[xJ x hx,yF]) (by rw[yF];lia);rw[Ew h]at z;exact z,λW V d h hs hne=>Im 1 h1 h2 h hs hne,λd h hb=>o0 1 d (kZ h) hb,λv hv=>by
   rcases hv with rfl|rfl
   .exact ⟨_,Ih,by kernel_rfl,by kernel_rfl⟩
   .exact ⟨_,oq,by kernel_rfl,by kernel_rfl⟩,sm,by
   have z:=Bj 2 h1 h2 ar;rw[bk]at z;exact z⟩
 obtain⟨m,e⟩:=Br (v9 qR T 8) rfl K (oi h1 h2 hd) (ol h1 h2);refine⟨m,?_⟩;show y4 (zZ T 8) fZ [.rol (ns.map Wd.int)] []=_;unfold y4;rw[LF (by rfl)];rw[show aI (zZ T 8) fZ.body (yo fZ [.rol (ns.map Wd.int)]) []=.ret (.bl true) m from e]
def pure(ns:List Int)(_:ns.length<=63):∃m,zZ (D.map (·.fn)++[dX.fn]) 9 28 [.rol (ns.map Wd.int)] []=.ok (.bl true) m:=Eo ns
end R18
namespace Mini
open PySem PySem.Spec PyProof.Rows L2
def Bl {run:Value->List Value->Sem Value}{K:JQ->Qb}(e:∀P,as=(K P).map (·.1))(h:Vr q loose XP (λw h=>(K w.params).In h) r d kwd run):PySem.W.WalkX q loose XP (PySem.W.X.obsZ as) (PySem.W.X.valZ K n t) r d kwd run:=
 λw s₀ s₁ mg mb G y a o pm cd doc dV kV h1 h2 h3 h4 h5 h6 args vals as' L p1 p2 p3 p4 p5=>h w s₀ s₁ mg mb G (PySem.W.InK.keeps (K:=K) w _ _ (PySem.W.X.z_facts e y).2.1 L.keeps) a o pm cd doc dV kV h1 h2 h3 h4 h5 h6 args vals as' p1 p2 p3 p4 p5
end Mini
namespace R18
open PySem L2 Mini PySem.W
def Ii (X:(K P).In h)(G:h.Ns JY mg)(g:nsIn (K P) JY d.nm=some (some (.ref a)))(l:(K P).lookup a=some (fO d.on d.st m c))(k:codeIn (K P) (.ref c) d.on=true):wR (K P) mg d:=
 dk X G g l k (by show(match (K P).lookup a with|some ⟨_,_,.func _,_⟩=>true|some ⟨_,_,.cls _,_⟩=>_|_=>false)=true;rw[l];rfl)
def AC (X:(K P).In h)(G:h.Ns JY mg){l:List (bn×Addr×Addr×Value)}(e:l.map (λx=>(nsIn (K P) JY x.1.nm,(K P).lookup x.2.1,codeIn (K P) (.ref x.2.2.1) x.1.on))=l.map λx=>(some (some (.ref x.2.1)),some (fO x.1.on x.1.st x.2.2.2 x.2.2.1),true)):∀d∈l.map (·.1),wR (K P) mg d:=λd hd=>by
 obtain⟨x,hx,rfl⟩:=QL.mp hd;have q:=List.map_inj_left.mp e x hx;exact Ii X G (LI (·.1) q) (LI (·.2.1) q) (LI (·.2.2) q)
noncomputable def lD:List (bn×Addr×Addr×Value):=[(d0,137,136,m1),(d1,144,143,m1),(d2,151,150,m1),(d3,156,155,m1),(d4,161,160,m1),(d5,166,165,m1),(d6,171,170,m1),(d7,178,177,m2),(d8,185,184,m2),(d9,192,191,m2),(AV,197,196,m2),(AU,202,201,m2),(AT,209,208,m3),(AS,216,215,m3),(AQ,223,222,m3),(AO,230,229,m3),(AN,237,236,m3),(AM,242,241,m3),(AL,247,246,m3),(AK,252,251,m3),(AJ,257,256,m3),(AI,264,263,m3),(AH,271,270,m3),(AG,276,275,m3),(AF,283,282,m3),(AE,290,289,m3),(oC,297,296,m3),(AD,302,301,m3),(oB,309,308,m3)]
noncomputable def lX:List (bn×Addr×Addr×Value):=[(dX,202,201,m2)]
section
variable(P:JQ)
def zb:∀nm∈zy,nsIn (K P) JY nm=some none:=(List.map_inj_left (g:=λ_=>some none)).1 (by kernel_rfl)
def Ib:bE (K P) 44 41 "spot" "self" dJ:=io (cc:=cN) (oc:=.type "function") (od:=none) (an:=none) (sl:=#[]) (kV:=.none) (dc:=.none) (pm:=m0) (cd:=.ref 40) (ct:=.none) (by kernel_rfl) (by kernel_rfl) rfl (λself=>by kernel_rfl) (by kernel_rfl) (by kernel_rfl) (by kernel_rfl) (by kernel_rfl) (by kernel_rfl) (by kernel_rfl) (by kernel_rfl) (by kernel_rfl)
end
end R18
open PySem PySem.W PyProof.Rows
set_option maxRecDepth 100000 in
theorem PySem.Challenge.cw_loopgyre_k18_no_arrows_holds : PySem.Challenge.rw_loopgyre_k18_no_arrows.Holds := by
 w_on;o_law
 refine holds_openX (q:=R18.qv) (loose:=R18.fv) (Xt:=R18.Xt) (XP:=XL R18.qv []) (Yf:=X.obsZ R18.as) (Ya:=X.valZ R18.K 310 596) (N:=5776) R18.hl (λs e=>xl_of s (QB.mp e).1) XL.keeps (by rfl) (by rfl) (by rfl) (λs e=>recFacts_of (QB.mp e).2) (by rfl) (by assumption) (by decide +kernel) ⟨rfl,rfl,rfl,rfl,rfl,by decide +kernel⟩ ?hw ?hc
 case hw=>w_witness2
 refine Mini.Bl (K:=R18.K) (λ_=>rfl) ?_;refine Mini.BV (l:=PySem.Challenge.rw_loopgyre_k18_no_arrows) (D:=R18.D) (xd:=R18.dX) (C:=R18.C) (Q:=R18.Q) (xc:="NoState") (nn:="spot") (a0:="self") (st:=R18.dJ) (k:=9) (i:=28) (dl:=R18.oB) (x:="_law_script") (n:=63) rfl (by decide) rfl ⟨rfl,by decide,by decide⟩ (λw h Y=>Y) rfl R18.Bm R18.Ia R18.Ik R18.Ij rfl rfl rfl ?F R18.pure
 case F=>
  intro w mg fa h KX G hmg;exact R18.mk KX G (t0:=346) (cG:=24) (fI:=41) (u0:=44) (u1:=128) (u2:=92) (u3:=104) (u4:=56) (u5:=116) (u6:=68) (u7:=80) (R18.AC KX G (l:=R18.lD) (by kernel_rfl)) (R18.AC KX G (l:=R18.lX) (by kernel_rfl)) (by kernel_rfl) (R18.zb w.params) (by kernel_rfl) (by kernel_rfl) (by kernel_rfl) (by kernel_rfl) (by kernel_rfl) (by kernel_rfl) (by kernel_rfl) (by kernel_rfl) (by kernel_rfl) (by kernel_rfl) (by kernel_rfl) (by kernel_rfl) (by kernel_rfl) (by kernel_rfl) (by kernel_rfl) (by kernel_rfl) (by kernel_rfl) (by kernel_rfl) (by kernel_rfl) (by kernel_rfl) (by kernel_rfl) (by kernel_rfl) (by kernel_rfl) (by kernel_rfl) (by kernel_rfl) (by kernel_rfl) (by kernel_rfl) (R18.Ib w.params)
