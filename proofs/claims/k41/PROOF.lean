import PyProof.Rows.All
import Wide.All
import OpenK.AllK
import Wide.FinOn
import Lean
import PyProof.EqAt
import PyProof.EqKinds
import PyProof.NeKinds
import PyProof.TupleCall
import OpenK.KOwn
import PyProof.WalkInts
import KE.KIsAll
import KE.RegKIsAll
import PyProof.ExcAttrAll.ValueError
import OpenK.KMake
import PyProof.ExcInit
import PySem.Challenge.RW_loopgyre_k41_ways_walked
open PySem renaming Scope→Lo,Params→Lp,DictEntry→Lq,Program→Lr,World→Ls,hashStr→Lw,Paired→Lx,Heap→Ly,sysModules→Lz,tupleKind→LA,intKind→LB,mainGlobals→LC,bootBuiltins→LF,Around→LG,GenState→LI,Model→LJ,wpAny→LK,model→LL,backTo→LM,starEach→LN,wpAny_mono→LO,wpAny_loadName_local→LP,wpAny_loadName_cell→LQ,wpAny_truthy_bool→LR,wpAny_execs_nil→LS,wpAny_execs_cons→LU,swapsWith→LV,wpAny_Expr_any→LW,assignEach→LX,Operator→LY,wpAny_bind→LZ,wpAny_holding→L3,wpAny_standAt→L4,wpAny_passesOwn→L5,letOwnedTupleGo→L6,wpAny_pure→L7,wpAny_pyNext_list_item→L8,wpAny_pyNext_list_end→L9,foldedSetIterable→Ma,binaryOp→Mb,compareOp→Mc,CmpOp→Md,behindInMarks→Mf,sizeLine_eq→Mg,cLine→Mh,FuncData→Mi,BindsTo→Mj,codeAny→Mk,codeAny_mono→Ml,wpAny_Call_Name_kw→Mm,NameKind→Mn,bindL→Mo,bindC→Mp,cellsFrom→Mq,getItem→Mr,seqIndex_of→Mt,seqIndex_neg→Mu,subscripted→Mv,sliceBounds→Mx,attributeBase→My,keywordEach→Mz,Keyword→MA,call_meets→MB,callerA→MD,pushCells→ME,pushCells_keeps→MF,newFunctionEnv→MG,relabel→MJ,notedBy→MK,wpAny_comprehension_free→ML,wpAny_specialOf→MM,IsTupleKey→MN,atKey→MO,wpAny_forIn_list→MP,wpAny_dictEpoch→MQ,valueAt→MT,wpAny_getItem_of→MU,codeAny_call_builtin→MW,wpAny_loadPart_at→MZ,excClassObj→M0,wpAny_isSubtype_exc→M1
open PySem.W renaming openGood→Lu,mroIn→MV,findIn→MX,looks_findIn→MY
open PyProof.Rows renaming AllBare→LH,subscriptTail→Ms,subscriptTail_builtinR→Mw,IntsAre→MC,KeyOrd→MR,Keyed→MS
open List renaming getElem?_eq_some_iff→Qa,set_cons_zero→Qc,set_cons_succ→Qd,getElem?_eq_getElem→Qf,getElem?_append_left→Qg,mem_cons_of_mem→Qh,getElem?_append_right→Qi,getElem?_eq_none→Ql,getD_eq_getElem?_getD→Qm,length_map→Qn,mem_of_getElem?→Qo,mem_cons→Qp,mem_append_right→Qs,size_toArray→Qt,getElem?_set_ne→Qu,getElem?_map→Qv,replicate→Qx,nodup_append→QA,nodup_nil→QB,mem_cons_self→QD,getElem?_set→QE,nodup_cons→QF,range→QH,mem_append→QL,mem_singleton→QO,getElem?_set_self→QQ,map_cons→QR,getElem?_eq_none_iff→QT,lookup_cons→QU,mem_append_left→QV,length_append→QW,replicate_succ→QY,nil_append→QZ,append_nil→Q0,length_set→Q5,not_mem_nil→Q6,cons_append→Q7,reverse_cons→Q9,flatten_cons→Wa,all_eq_true→Wc,ext_getElem?→We,mem_map→Wg,take_add_one→Wi,map_map→Wj,append_assoc→Wl,all_cons→Wn,length_cons→Wo,range_succ_eq_map→Wq,find?_cons→Wr,any_eq_true→Wt,set_eq_of_length_le→Wu,map_append→Wv,getElem?_replicate→Wx,getElem?_cons_zero→Wy,getElem?_cons_succ→Wz,take_of_length_le→WB,getElem_inj→WD,map_congr_left→WG,getElem?_range→WH,filterMap_cons→WI,all_map→WJ,mem_filterMap→WM,drop_drop→WN,drop_eq_getElem_cons→WP,any_eq_false→WQ,any_cons→WT,getElem_mem→WV,map_nil→WW,range_succ→WZ,length_nil→W0,set_append_right→W3,mem_range→W6,mem_iff_getElem→W7,getD_cons_zero→Va,filter_cons→Vi,eq_nil_of_length_eq_zero→Vk,sum_append→Vn,of_mem_zip→Vo,mem_filter→Vp,length_zip→Vq,foldl→Vu
open PySem.W renaming Frag→Qb,nsIn→Qz,kitOne→QG,mg_of→QI,kia_one→QX,keepIn→Q3,mroIn→Wb,excIn→Wp,fnOf→Ws,findIn→WF,cellsFrom_some→WU,codeIn→WX,methodObj→Vb,kitx_list→Vc,kitx_dict→Vd,instObj→Vf,lookIn→Vj,WalkO→Vs,hideAll_get→Vx
open Nat renaming lt_of_lt_of_le→Qe,le_refl→Qj,le_trans→Qr,ne_of_lt→QM,lt_irrefl→Q8,lt_succ_self→Wh,le_add_right→WE,ne_of_gt→WK,le_of_lt→WL,mul_le_mul→WO,zero_le→WS,mul_comm→WY,div_lt_of_lt_mul→W8,lt_succ_of_lt→Vg,le_of_eq→Vh,le_succ→Vm
open PySem.Heap renaming lt_size→Qk,get?_push_of_some→Qw,get?_push_size→QS,SameBut→WC,size_push→Vv,get?_update_other→Vy
open Bool renaming and_eq_true→Qq,false_eq_true→Qy,and_eq_true_iff→QC,false_ne_true→QP,not_true→Q2,not_eq_true'→Wm,or_eq_true→Ww,beq_eq_decide_eq→W4,eq_iff_iff→Vr
open Option renaming map_some→QJ,map_eq_some_iff→QK,bind_eq_some_iff→QN,isSome_iff_exists→Q4,bind_some→WR,bind→W2,getD_some→Ve
open Int renaming eq_ofNat_of_zero_le→Wf,emod_nonneg→Vt,fdiv_eq_ediv_of_nonneg→Vw
open Array renaming toList→WA,mem_of_getElem?→W1,mem_toList_iff→W5,length_toList→W9
set_option Elab.async false
set_option linter.all false
set_option maxRecDepth 100000
set_option genSizeOf false
set_option maxHeartbeats 0
set_option tactic.hygienic false
set_option bootstrap.genMatcherCode false
set_option compiler.extract_closed false
set_option backward.eqns.nonrecursive false
set_option backward.eqns.deepRecursiveSplit false
noncomputable section
def M5:=@decide_eq_false
def M6.{u}:=@if_pos.{u}
def M7.{u}:=@if_neg.{u}
def M8.{u}:=@absurd.{u}
def M9.{u,v}:=@congrArg.{u,v}
def Na:=@decide_eq_true
def Nb:=@of_decide_eq_true
def Nc:=@decide_eq_true_eq
namespace L2
open PySem PySem.Spec PyProof.Rows
def wD(s:Stmt):Arguments:=match s with
 |.FunctionDef _ a _ _ _ _ _ _ _ _=>a
 |_=>{posonlyargs:=[],args:=[],vararg:=none,kwonlyargs:=[],kw_defaults:=[],kwarg:=none,defaults:=[]}
def xa(s:Stmt):List Stmt:=match s with
 |.FunctionDef _ _ b _ _ _ _ _ _ _=>b
 |_=>[]
def zL(s:Stmt):Lo:=match s with
 |.FunctionDef _ _ _ _ _ _ sc _ _ _=>sc
 |_=>{kind:=.function,names:=[],isGenerator:=false,isCoroutine:=false}
end L2
namespace R41
open PySem L2 PySem.W
def top(i:Nat):Stmt:=PySem.Challenge.pw_loopgyre_k41_ways_walked.main.body.getD i (.Pass ⟨0,0,0,0⟩)
def ge(P:Lp)(s:Str)(t:Tok)(v:Value):Lq:=⟨PyData.keyHash P s,.str s t,v⟩
def cO(s:Str)(t l n f a q b c d e u v:Nat):Obj:=⟨.type "code",none,.fields #[.str s t,.str s (t+1),.str "/claim/cut.py" (t+2),.int l 0,.int n 0,.int 0 0,.int 0 0,.int f 0,.ref a,.bool true,.int q 0,.ref b,.none,.ref c,.ref d,.ref e,.int u 0,.int l 0,.str "/claim/cut.py" v],#[]⟩
def fO(n:Str)(d:Stmt)(m:Value)(c:Addr):Obj:=⟨.type "function",none,.func (fnOf n n (wD d) (xa d) (zL d) .none .none .none m none (.ref c) .none),#[]⟩
def m0:Value:=.str "loopgyre.kinds" 344
def m1:Value:=.str "loopgyre.floors" 353
def m2:Value:=.str "loopgyre.signs" 392
def m3:Value:=.str "loopgyre.arrows" 400
def m4:Value:=.str "loopgyre.sides" 424
def m5:Value:=.str "loopgyre.links" 453
def m6:Value:=.str "law_loopgyre_k41_ways_walked" 546
def cP(s:Str)(t l n f a q b e u v:Nat):Obj:=⟨.type "code",none,.fields #[.str s t,.str s (t+1),.str "/claim/cut.py" (t+2),.int l 0,.int n 0,.int 0 0,.int 0 0,.int f 0,.ref a,.bool true,.int q 0,.ref b,.none,.none,.none,.ref e,.int u 0,.int l 0,.str "/claim/cut.py" v],#[]⟩
def kD(P:Lp)(t u l x:Nat):Obj:=⟨.type "dict",none,.dict #[ge P "__module__" t (.str "loopgyre.errors" u),ge P "__firstlineno__" (t+4) (.int l (t+3)),ge P "__static_attributes__" (t+5) (.ref x),ge P "__doc__" (t+6) .none] 2,#[]⟩
def kC(s:Str)(g a d r t:Nat):Obj:=⟨.type "type",none,.cls ⟨s,[.ref g],[.ref a,.ref g,.type "ValueError",.type "Exception",.type "BaseException",.type "object"],d,s,true,[],[],false,none,false⟩,#[some (.ref r),none,some (.str s t),some (.str s (t+8)),some (.builtin "ValueError.__new__"),some (.bool true)]⟩
def K(P:Lp):Frag:=[(3,⟨.type "dict",none,.dict #[ge P "__name__" 165 (.str "law_loopgyre_k41_ways_walked" 546),ge P "__doc__" 166 .none,ge P "__package__" 167 .none,ge P "__loader__" 168 (.builtin "__main__.__loader__#opaque"),ge P "__spec__" 169 .none,ge P "__annotations__" 170 (.ref 6),ge P "__builtins__" 171 (.ref 4),ge P "__file__" 173 (.str "/claim/cut.py" 172),ge P "__cached__" 174 .none,ge P "GyreError" 206 (.ref 24),ge P "NoState" 231 (.ref 44),ge P "NoSquare" 247 (.ref 56),ge P "NoTurn" 263 (.ref 68),ge P "Unlike" 279 (.ref 80),ge P "NoRoad" 295 (.ref 92),ge P "NoSize" 311 (.ref 104),ge P "NoText" 327 (.ref 116),ge P "NoName" 343 (.ref 128),ge P "is_whole" 352 (.ref 137),ge P "is_place" 363 (.ref 144),ge P "road_over" 373 (.ref 151),ge P "need_road" 381 (.ref 158),ge P "place_at" 391 (.ref 165),ge P "column_sums" 399 (.ref 170),ge P "across_row" 411 (.ref 177),ge P "down_row" 417 (.ref 182),ge P "arrows_of" 423 (.ref 187),ge P "is_odd" 432 (.ref 194),ge P "walked_row" 438 (.ref 199),ge P "walked_grid" 444 (.ref 204),ge P "sides_of" 452 (.ref 211),ge P "WALKED" 456 (.int 1 455),ge P "STEPS" 475 (.ref 212),ge P "beyond" 487 (.ref 223),ge P "ends_at" 493 (.ref 228),ge P "all_ends" 505 (.ref 235),ge P "trail" 516 (.ref 242),ge P "road_trail" 528 (.ref 249),ge P "way_over" 537 (.ref 256),ge P "way" 545 (.ref 263),ge P "_law_cell_at" 555 (.ref 270),ge P "_law_mixed" 564 (.ref 277),ge P "_law_size" 571 (.ref 284),ge P "_law_drawn" 577 (.ref 289),ge P "_law_sides" 583 (.ref 294),ge P "_law_start" 592 (.ref 301),ge P "_law_beyond" 604 (.ref 308),ge P "_law_walk" 610 (.ref 313),ge P "_law_copy" 616 (.ref 318),ge P "_law_refused" 625 (.ref 325),ge P "_law_is_way" 635 (.ref 332),ge P "law" 652 (.ref 339)] 52,#[]⟩),(23,⟨.type "dict",none,.dict #[ge P "__module__" 196 (.str "loopgyre.errors" 187),ge P "__firstlineno__" 200 (.int 2 199),ge P "__static_attributes__" 201 (.ref 22),ge P "__weakref__" 203 (.ref 25),ge P "__doc__" 204 .none] 3,#[]⟩),(24,⟨.type "type",none,.cls ⟨"GyreError",[(.type "ValueError")],[(.ref 24),(.type "ValueError"),(.type "Exception"),(.type "BaseException"),(.type "object")],23,"GyreError",true,[],[(.ref 44),(.ref 56),(.ref 68),(.ref 80),(.ref 92),(.ref 104),(.ref 116),(.ref 128)],false,none,false⟩,#[(some (.ref 15)),none,(some (.str "GyreError" 189)),(some (.str "GyreError" 197)),(some (.builtin "ValueError.__new__")),(some (.bool true))]⟩),(43,⟨.type "dict",none,.dict #[ge P "__module__" 214 (.str "loopgyre.errors" 187),ge P "__firstlineno__" 218 (.int 4 217),ge P "__init__" 226 (.ref 41),ge P "__static_attributes__" 228 (.ref 42),ge P "__doc__" 229 .none] 2,#[]⟩),(44,kC "NoState" 24 44 43 28 207),(55,kD P 239 187 8 54),(56,kC "NoSquare" 24 56 55 47 232),(67,kD P 255 187 10 66),(68,kC "NoTurn" 24 68 67 59 248),(79,kD P 271 187 12 78),(80,kC "Unlike" 24 80 79 71 264),(91,kD P 287 187 14 90),(92,kC "NoRoad" 24 92 91 83 280),(103,kD P 303 187 16 102),(104,kC "NoSize" 24 104 103 95 296),(115,kD P 319 187 18 114),(116,kC "NoText" 24 116 115 107 312),(127,kD P 335 187 20 126),(128,kC "NoName" 24 128 127 119 328),(136,cO "is_whole" 346 23 1 3 131 181 132 133 134 135 350 351),(137,fO "is_whole" (top 11) m0 136),(143,cO "is_place" 355 26 3 3 138 181 139 140 141 142 361 362),(144,fO "is_place" (top 13) m1 143),(150,cO "road_over" 364 28 4 3 145 181 146 147 148 149 371 372),(151,fO "road_over" (top 14) m1 150),(157,cO "need_road" 374 40 2 3 152 181 153 154 155 156 379 380),(158,fO "need_road" (top 15) m1 157),(164,cO "place_at" 382 43 2 3 159 181 160 161 162 163 389 390),(165,fO "place_at" (top 16) m1 164),(169,cP "column_sums" 394 54 1 3 166 181 167 168 397 398),(170,fO "column_sums" (top 18) m2 169),(176,cO "across_row" 402 62 1 3 171 181 172 173 174 175 409 410),(177,fO "across_row" (top 20) m3 176),(181,cP "down_row" 412 69 1 3 178 181 179 180 415 416),(182,fO "down_row" (top 21) m3 181),(186,cP "arrows_of" 418 71 1 3 183 181 184 185 421 422),(187,fO "arrows_of" (top 22) m3 186),(193,cO "is_odd" 426 76 1 3 188 181 189 190 191 192 430 431),(194,fO "is_odd" (top 24) m4 193),(198,cP "walked_row" 433 78 2 3 195 181 196 197 436 437),(199,fO "walked_row" (top 25) m4 198),(203,cP "walked_grid" 439 80 1 3 200 181 201 202 442 443),(204,fO "walked_grid" (top 26) m4 203),(210,cO "sides_of" 445 82 1 3 205 181 206 207 208 209 450 451),(211,fO "sides_of" (top 27) m4 210),(212,⟨.type "dict",none,.dict #[ge P "U" 457 (.ref 213),ge P "R" 461 (.ref 214),ge P "D" 464 (.ref 215),ge P "L" 467 (.ref 216)] 4,#[]⟩),(213,⟨.type "tuple",none,.seq #[(.int (-1) 459),(.int 0 460)] 0,#[]⟩),(214,⟨.type "tuple",none,.seq #[(.int 0 462),(.int 1 463)] 0,#[]⟩),(215,⟨.type "tuple",none,.seq #[(.int 1 465),(.int 0 466)] 0,#[]⟩),(216,⟨.type "tuple",none,.seq #[(.int 0 468),(.int (-1) 470)] 0,#[]⟩),(222,cO "beyond" 476 88 4 3 217 181 218 219 220 221 485 486),(223,fO "beyond" (top 31) m5 222),(227,cP "ends_at" 488 94 4 3 224 181 225 226 491 492),(228,fO "ends_at" (top 32) m5 227),(234,cO "all_ends" 494 99 2 3 229 181 230 231 232 233 503 504),(235,fO "all_ends" (top 33) m5 234),(241,cO "trail" 506 106 3 3 236 181 237 238 239 240 514 515),(242,fO "trail" (top 34) m5 241),(248,cO "road_trail" 517 112 4 3 243 181 244 245 246 247 526 527),(249,fO "road_trail" (top 35) m5 248),(255,cO "way_over" 529 116 3 3 250 181 251 252 253 254 535 536),(256,fO "way_over" (top 36) m5 255),(262,cO "way" 538 119 2 3 257 181 258 259 260 261 543 544),(263,fO "way" (top 37) m5 262),(269,cO "_law_cell_at" 548 122 2 3 264 181 265 266 267 268 553 554),(270,fO "_law_cell_at" (top 39) m6 269),(276,cO "_law_mixed" 556 126 2 3 271 181 272 273 274 275 562 563),(277,fO "_law_mixed" (top 40) m6 276),(283,cO "_law_size" 565 129 1 3 278 181 279 280 281 282 569 570),(284,fO "_law_size" (top 41) m6 283),(288,cP "_law_drawn" 572 133 2 3 285 181 286 287 575 576),(289,fO "_law_drawn" (top 42) m6 288),(293,cP "_law_sides" 578 156 2 3 290 181 291 292 581 582),(294,fO "_law_sides" (top 43) m6 293),(300,cO "_law_start" 584 172 2 3 295 181 296 297 298 299 590 591),(301,fO "_law_start" (top 44) m6 300),(307,cO "_law_beyond" 593 175 3 3 302 181 303 304 305 306 602 603),(308,fO "_law_beyond" (top 45) m6 307),(312,cP "_law_walk" 605 181 3 3 309 181 310 311 608 609),(313,fO "_law_walk" (top 46) m6 312),(317,cP "_law_copy" 611 191 1 3 314 181 315 316 614 615),(318,fO "_law_copy" (top 47) m6 317),(324,cO "_law_refused" 617 193 2 3 319 181 320 321 322 323 623 624),(325,fO "_law_refused" (top 48) m6 324),(331,cO "_law_is_way" 626 201 2 3 326 181 327 328 329 330 633 634),(332,fO "_law_is_way" (top 49) m6 331),(338,cO "law" 636 211 1 3 333 181 334 335 336 337 650 651),(339,fO "law" (top 50) m6 338)]
def as:List Addr:=[3,23,24,43,44,55,56,67,68,79,80,91,92,103,104,115,116,127,128,136,137,143,144,150,151,157,158,164,165,169,170,176,177,181,182,186,187,193,194,198,199,203,204,210,211,212,213,214,215,216,222,223,227,228,234,235,241,242,248,249,255,256,262,263,269,270,276,277,283,284,288,289,293,294,300,301,307,308,312,313,317,318,324,325,331,332,338,339]
def qv:Lr:={PySem.Challenge.pw_loopgyre_k41_ways_walked with main:={PySem.Challenge.pw_loopgyre_k41_ways_walked.main with body:=[1,2,3,4,5,6,7,8,9,11,13,14,15,16,18,20,21,22,24,25,26,27,29,30,31,32,33,34,35,36,37,39,40,41,42,43,44,45,46,47,48,49,50].map top} }
def eF:List Str:=["STEPS"]
def Xt(s:Shared):Bool:=xlAt qv [] s&&recOk (RowW.records PySem.Challenge.rw_loopgyre_k41_ways_walked.row.toRowW) s
theorem hj{α β γ δ:Type}{o:Option Shared}{f:Shared->α×β×γ}{g:α×β×γ}{k:Shared->δ}{d:δ}(a:o.map (λs=>((f s).1,(f s).2.1))=some (g.1,g.2.1))(b:o.map (λs=>(f s).2.2)=some g.2.2)(c:o.map k=some d):o.map (λs=>(f s,k s))=some (g,d):=by
 cases o with
 |none=>cases a
 |some s=>
  simp only[QJ,Option.some.injEq,Prod.mk.injEq]at a b c ⊢
  exact⟨Prod.ext a.1 (Prod.ext a.2 b),c⟩
def rn(w:Ls):Option Shared:=openEnds treeTable PySem.Challenge.pw_loopgyre_k41_ways_walked w 6232
def sn(s:Shared):=openSeen qv eF (importedModules PySem.Challenge.pw_loopgyre_k41_ways_walked.main.body) Xt true s
def rb(b:Bool)(w:Ls):Ls:=w.withFollow "special-get-raises" b
theorem JD(w:Ls):(rn (rb false w)).map (λs=>((sn s).1,(sn s).2.1))=some ((Lu qv eF).1,(Lu qv eF).2.1):=by kernel_rfl
theorem JC(w:Ls):(rn (rb false w)).map (λs=>(sn s).2.2)=some (Lu qv eF).2.2:=by kernel_rfl
theorem JB(w:Ls):(rn (rb false w)).map (X.obsZ as)=some (X.valZ K 340 653 (rb false w)):=by kernel_rfl
theorem JA(w:Ls):(rn (rb true w)).map (λs=>((sn s).1,(sn s).2.1))=some ((Lu qv eF).1,(Lu qv eF).2.1):=by kernel_rfl
theorem Jz(w:Ls):(rn (rb true w)).map (λs=>(sn s).2.2)=some (Lu qv eF).2.2:=by kernel_rfl
theorem Jy(w:Ls):(rn (rb true w)).map (X.obsZ as)=some (X.valZ K 340 653 (rb true w)):=by kernel_rfl
theorem hl:LeftO PySem.Challenge.pw_loopgyre_k41_ways_walked qv eF Xt (X.obsZ as) (X.valZ K 340 653) 6232:=λw=>by
 have e:rb (w.params.followText "special-get-raises") w=w:=World.withFollow_self w "special-get-raises"
 have H:∀b,(rn (rb b w)).map (λs=>(sn s,X.obsZ as s))=some (Lu qv eF,X.valZ K 340 653 (rb b w)):=by
  intro b;cases b
  .exact hj (JD w) (JC w) (JB w)
  .exact hj (JA w) (Jz w) (Jy w)
 have h:=H (w.params.followText "special-get-raises");rw[e]at h;exact h
end R41
namespace L2
open PySem PySem.Spec PyProof.Rows
abbrev bv:=Sum Int Str
def gj:bv->Value->Bool
 |.inl k,v=>Value.isInt k v
 |.inr x,v=>Value.isStrOf x v
def oU(w:Ls):bv->Int
 |.inl k=>hashInt k
 |.inr x=>Lw w x
def yk:∀{k:bv}{v:Value},gj k v=true->(∃i t,k=Sum.inl i/\v=Value.int i t)\/(∃x t,k=Sum.inr x/\v=Value.str x t)
 |.inl i,v,h=>by
  obtain⟨t,e⟩:=Value.isInt_shape (k:=i) (v:=v) h;exact .inl ⟨i,t,rfl,e⟩
 |.inr x,v,h=>by
  obtain⟨t,e⟩:=Value.isStrOf_shape (x:=x) (v:=v) h;exact .inr ⟨x,t,rfl,e⟩
def Ir(i:Int)(t:Tok):gj (.inl i) (.int i t)=true:=by simp[gj,Value.isInt]
def gk(x:Str)(t:Tok):gj (.inr x) (.str x t)=true:=by simp[gj,Value.isStrOf]
def Dp(a b:Int):decide ((Sum.inl a:bv)=Sum.inl b)=(a==b):=by
 by_cases e:a=b
 .subst e;simp
 .have h:¬(Sum.inl a:bv)=Sum.inl b:=λq=>e (Sum.inl.inj q);rw[M5 h];exact(beq_eq_false_iff_ne.mpr e).symm
def Do(a b:Str):decide ((Sum.inr a:bv)=Sum.inr b)=decide (a=b):=by
 by_cases e:a=b
 .subst e;simp
 .have h:¬(Sum.inr a:bv)=Sum.inr b:=λq=>e (Sum.inr.inj q);rw[M5 h,M5 e]
def Dn(a:Int)(b:Str):decide ((Sum.inl a:bv)=Sum.inr b)=false:=M5 (λq=>nomatch q)
def Dm(a:Str)(b:Int):decide ((Sum.inr a:bv)=Sum.inl b)=false:=M5 (λq=>nomatch q)
def zN(prog:Lr)(w:Ls):PySem.KeyKind prog w bv where
 is:=gj
 hash:=oU w
 inj:=λv a b ha hb=>by
  rcases yk ha with⟨i,t,rfl,rfl⟩|⟨x,t,rfl,rfl⟩
  .rcases yk hb with⟨j,u,rfl,e⟩|⟨y,u,rfl,e⟩
   .injection e with e1 _;rw[e1]
   .exact nomatch e
  .rcases yk hb with⟨j,u,rfl,e⟩|⟨y,u,rfl,e⟩
   .exact nomatch e
   .injection e with e1 _;rw[e1]
 byValue:=λk v h=>by
  rcases yk h with⟨i,t,rfl,rfl⟩|⟨x,t,rfl,rfl⟩<;>rfl
 pyHash:=λhv h=>by
  rcases yk hv with⟨i,t,rfl,rfl⟩|⟨x,t,rfl,rfl⟩
  .exact wpAny_pyHash_int h
  .exact wpAny_pyHash_str h
 eqBool:=λhu hv h=>by
  rcases yk hu with⟨i,t,rfl,rfl⟩|⟨x,t,rfl,rfl⟩
  .rcases yk hv with⟨j,u,rfl,rfl⟩|⟨y,u,rfl,rfl⟩
   .rw[Dp]at h;exact wpAny_eqBool_int h
   .rw[Dn]at h;exact SeqAt.EqAt.int_str i t y u _ _ _ _ h
  .rcases yk hv with⟨j,u,rfl,rfl⟩|⟨y,u,rfl,rfl⟩
   .rw[Dm]at h;exact SeqAt.EqAt.str_int x t j u _ _ _ _ h
   .rw[Do]at h;exact wpAny_eqBool_str h
 «strs»:=λk x t v h=>by
  rcases yk h with⟨i,u,rfl,e⟩|⟨y,u,rfl,e⟩
  .exact nomatch e
  .injection e with e1 _
   subst e1;cases v<;>rfl
def qP(prog:Lr)(w:Ls)(i:Int)(t:Tok):(zN prog w).is (.inl i) (.int i t)=true:=Ir i t
def qQ(prog:Lr)(w:Ls)(x:Str)(t:Tok):(zN prog w).is (.inr x) (.str x t)=true:=gk x t
set_option genInjectivity false in
inductive V where
 |non|bl (b:Bool)|int (i:Int)|str (x:Str)|byt (b:Array UInt8)|flt (b:UInt64)|ref (a:Addr)|ty (n:String)
 deriving DecidableEq
def RelV:V->Value->Prop
 |.non,u=>u=Value.none
 |.bl b,u=>u=Value.bool b
 |.int i,u=>∃t,u=Value.int i t
 |.str x,u=>∃t,u=Value.str x t
 |.byt b,u=>∃t,u=Value.bytes b t
 |.flt b,u=>∃t,u=Value.float b t
 |.ref a,u=>u=Value.ref a
 |.ty n,u=>u=Value.type n
abbrev ay:List V->List Value->Prop:=Lx RelV
theorem ay.length (r:ay xs us):xs.length=us.length:=Paired.length r
theorem ay.get:∀{xs:List V}{us:List Value}{i:Nat}{x:V},ay xs us->xs[i]?=some x->∃u,us[i]?=some u/\RelV x u
 |_,_,_,_,.nil,e=>by simp at e
 |_,_,0,_,.cons r _,e=>by simp at e;subst e;exact⟨_,rfl,r⟩
 |_,_,i+1,x,.cons _ t,e=>by
  obtain⟨u,h1,h2⟩:=ay.get (i:=i) (x:=x) t (by simpa using e);exact⟨u,by simpa using h1,h2⟩
theorem ay.set (r:RelV x u):∀{xs:List V}{us:List Value}(i:Nat),ay xs us->ay (xs.set i x) (us.set i u)
 |_,_,_,.nil=>.nil
 |_,_,0,.cons _ t=>.cons r t
 |_,_,i+1,.cons q t=>.cons q (ay.set r i t)
theorem ay.append:∀{xs ys:List V}{us ws:List Value},ay xs us->ay ys ws->ay (xs++ys) (us++ws)
 |_,_,_,_,.nil,s=>s
 |_,_,_,_,.cons r t,s=>.cons r (ay.append t s)
theorem ay.take:∀{xs:List V}{us:List Value}(n:Nat),ay xs us->ay (xs.take n) (us.take n)
 |_,_,0,_=>.nil
 |_,_,_+1,.nil=>.nil
 |_,_,n+1,.cons r t=>.cons r (ay.take n t)
theorem ay.drop:∀{xs:List V}{us:List Value}(n:Nat),ay xs us->ay (xs.drop n) (us.drop n)
 |_,_,0,r=>r
 |_,_,_+1,.nil=>.nil
 |_,_,n+1,.cons _ t=>ay.drop n t
def dU:Option V->Option Value->Prop
 |some v,some u=>RelV v u
 |none,none=>True
 |_,_=>False
def KV{κ:Type}:List (κ×V)->List (κ×Value)->Prop:=Lx λ(p:κ×V) (q:κ×Value)=>p.1=q.1/\RelV p.2 q.2
def kV:bv->V
 |.inl i=>.int i
 |.inr x=>.str x
set_option genInjectivity false in
inductive HO where
 /-- a list -/
 |lst (xs:List V)
 /-- a tuple (never changes) -/
 |tup (xs:List V)
 /-- a dict whose keys are ints and texts;one whose keys are tuples of ints and texts (the empty one is both) -/
 |dK (kvs:List (bv×V))|dT (kvs:List (List bv×V))
 /-- a set of ints: its members,its size -/
 |set (S:Int->Bool) (n:Nat)
 /-- an instance of the class at C,its dict at dx,its attributes -/
 |ins (C dx:Addr) (fs:List (Str×V))
 /-- the dict of the instance at x -/
 |own (x:Addr)
 /-- the dict of an exception -/
 |xd (fs:List (Str×V))
 /-- a bound method,f of x -/
 |met (f x:Addr)
 /-- a range object lo,lo+1,.. below hi -/
 |rng (lo hi:Int)
 /-- a thing that is known to the object (the script;a dict while a loop walks it): read,never written while it is so -/
 |frz (o:Obj) (u:HO)
 /-- a code object's table -/
 |tbl (ps:Array Value)
 /-- any other thing,by what is true of its one object (a def of one's own: SetO a S n:=HO.ext λh=>..) -/
 |ext (φ:Ly->Prop)
abbrev Hp:=Addr->Option HO
def aJ(H:Hp)(a:Addr)(o:HO):Hp:=λb=>if b=a then some o else H b
def zm:aJ H a o a=some o:=by unfold aJ;rw[M6 rfl]
def zj (h:b≠a):aJ H a o b=H b:=by unfold aJ;rw[M7 h]
def zr {H:Hp}(h:H a=some o)(h':H b=none):a≠b:=by
 intro e;subst e;rw[h]at h';cases h'
section
variable(P:Lr)(w:Ls)
def aW(H:Hp)(h:Ly)(a:Addr):HO->Prop
 |.lst xs=>xs.length<=sizeLine/\∃(its:List Value) (n:Nat),ay xs its/\h.get? a=some {cls:=.type "list",data:=.seq its.toArray n}
 |.tup xs=>xs.length<=sizeLine/\∃its:List Value,ay xs its/\IsTup h a its.toArray
 |.dK kvs=>kvs.length<=sizeLine/\(a==Lz)=false/\∃vs,KV kvs vs/\h.DictOf (zN P w) a vs
 |.dT kvs=>kvs.length<=sizeLine/\(a==Lz)=false/\∃xs:List (List bv×Addr×Value),
   Lx (λ(p:List bv×V) (q:List bv×Addr×Value)=>p.1=q.1/\H q.2.1=some (.tup (p.1.map kV))/\RelV p.2 q.2.2) kvs xs /\
   ∃o es ep,h.get? a=some o/\o.ExactDict/\o.data=.dict es ep/\es.toList=xs.map (entryOfKey (LA (zN P w)))/\(xs.map (·.1)).Nodup
 |.set S n=>h.SetOf (LB P w) a S n
 |.ins C dx fs=>H dx=some (.own a)/\fs.length<=1000/\dx≠a/\h.get? a=some (Vf C dx) /\
   ∃mA,h.Ns1 dx mA/\(∀f,dU (fs.lookup f) (mA f))/\PySem.Within mA (fs.map (·.1))
 |.own _=>∃o,h.get? a=some o
 |.xd fs=>∃mA,h.Ns1 a mA/\∀f,dU (fs.lookup f) (mA f)
 |.rng lo hi=>∃t u v,h.get? a=some {cls:=.type "range",data:=.fields #[.int lo t,.int hi u,.int 1 v]}
 |.frz o u=>h.get? a=some o/\aW H h a u
 |.tbl ps=>h.get? a=some {cls:=.none,data:=.fields ps}
 |.met f x=>h.get? a=some (Vb (.ref f) (.ref x))
 |.ext φ=>φ h/\(∃o,h.get? a=some o)/\∀h1 h2:Ly,φ h1->(∀o,h1.get? a=some o->h2.get? a=some o)->φ h2
def cg(H:Hp)(h:Ly):Prop:=∀a o,H a=some o->aW P w H h a o
end
section
variable{P:Lr}{w:Ls}{H H':Hp}{h h':Ly}{a:Addr}{o:HO}
theorem aW.lt(x:aW P w H h a o):a<h.objs.size:=by
 cases o with
 |lst xs=>obtain⟨_,_,_,_,e⟩:=x;exact Qk e
 |tup xs=>obtain⟨_,_,_,p⟩:=x;exact p.lt
 |dK kvs=>obtain⟨_,_,_,_,o,_,_,e,_⟩:=x;exact Qk e
 |dT kvs=>obtain⟨_,_,_,_,o,_,_,e,_⟩:=x;exact Qk e
 |set S n=>obtain⟨o,_,_,_,e,_⟩:=x;exact Qk e
 |ins C dx fs=>obtain⟨_,_,_,e,_⟩:=x;exact Qk e
 |own y=>obtain⟨_,e⟩:=x;exact Qk e
 |xd fs=>obtain⟨_,⟨_,_,_,e,_⟩,_⟩:=x;exact Qk e
 |rng lo hi=>obtain⟨_,_,_,e⟩:=x;exact Qk e
 |frz ob u=>obtain⟨e,_⟩:=x;exact Qk e
 |tbl ps=>exact Qk (show h.get? a=some _ from x)
 |met f y=>exact Qk (show h.get? a=some _ from x)
 |ext φ=>obtain⟨_,⟨_,e⟩,_⟩:=x;exact Qk e
theorem rO:∀{l₁:List α}{l₂:List β},Lx F l₁ l₂->(∀a b,F a b->G a b)->Lx G l₁ l₂
 |_,_,.nil,_=>.nil
 |_,_,.cons r t,f=>.cons (f _ _ r) (rO t f)
def aW.stay(x:aW P w H h a o)(k:∀b u,(b=a\/H b=some (.own a))->h.get? b=some u->h'.get? b=some u)
  (ho:∀b,H b=some (.own a)->H' b=some (.own a)) (ht:∀b xs,H b=some (.tup xs)->H' b=some (.tup xs)):aW P w H' h' a o:=by
 induction o with
 |lst xs=>obtain⟨z,its,n,r,e⟩:=x;exact⟨z,its,n,r,k _ _ (.inl rfl) e⟩
 |tup xs=>obtain⟨z,its,r,ob,e,c⟩:=x;exact⟨z,its,r,ob,k _ _ (.inl rfl) e,c⟩
 |dK kvs=>obtain⟨z,y,vs,r,ob,es,ep,e,c⟩:=x;exact⟨z,y,vs,r,ob,es,ep,k _ _ (.inl rfl) e,c⟩
 |dT kvs=>
  obtain⟨z,y,xs,r,ob,es,ep,e,c⟩:=x;exact⟨z,y,xs,rO r λp q z=>⟨z.1,ht _ _ z.2.1,z.2.2⟩,ob,es,ep,k _ _ (.inl rfl) e,c⟩
 |set S n=>obtain⟨ob,es,ep,t,e,c⟩:=x;exact⟨ob,es,ep,t,k _ _ (.inl rfl) e,c⟩
 |ins C dx fs=>
  obtain⟨d,z,ne,e,mA,⟨od,es,ep,e2,c⟩,r⟩:=x;exact⟨ho _ d,z,ne,k _ _ (.inl rfl) e,mA,⟨od,es,ep,k _ _ (.inr d) e2,c⟩,r⟩
 |own y=>obtain⟨ob,e⟩:=x;exact⟨ob,k _ _ (.inl rfl) e⟩
 |xd fs=>obtain⟨mA,⟨od,es,ep,e,c⟩,r⟩:=x;exact⟨mA,⟨od,es,ep,k _ _ (.inl rfl) e,c⟩,r⟩
 |rng lo hi=>obtain⟨t,u,v,e⟩:=x;exact⟨t,u,v,k _ _ (.inl rfl) e⟩
 |frz ob u ih=>obtain⟨e,q⟩:=x;exact⟨k _ _ (.inl rfl) e,ih q⟩
 |tbl ps=>
  have e:h.get? a=some {cls:=.none,data:=.fields ps}:=x;show h'.get? a=some {cls:=.none,data:=.fields ps};exact k a _ (.inl rfl) e
 |met f y=>
  have e:h.get? a=some (Vb (.ref f) (.ref y)):=x;show h'.get? a=some (Vb (.ref f) (.ref y));exact k a _ (.inl rfl) e
 |ext φ=>obtain⟨p,⟨o,e⟩,st⟩:=x;exact⟨st _ _ p λo q=>k _ _ (.inl rfl) q,⟨o,k _ _ (.inl rfl) e⟩,st⟩
theorem cg.lt(x:cg P w H h)(e:H a=some o):a<h.objs.size:=(x a o e).lt
def cg.fresh(x:cg P w H h)(e:h.objs.size<=a):H a=none:=by
 cases q:H a with
 |none=>rfl
 |some u=>exact M8 (Qe (x.lt q) e) (Q8 _)
def cg.kept(x:cg P w H h)(k:∀b u,h.get? b=some u->h'.get? b=some u):cg P w H h':=λa o e=>
 (x a o e).stay (λb u _ q=>k b u q) (λ_ q=>q) λ_ _ q=>q
def cg.laid(x:cg P w H h)(k:∀b u,h.get? b=some u->h'.get? b=some u)(hp:h.objs.size<=a)(new:aW P w (aJ H a o) h' a o):cg P w (aJ H a o) h':=λb u e=>by
 have hn:=x.fresh hp;by_cases hb:b=a
 .subst hb;rw[zm]at e;cases e;exact new
 .rw[zj hb]at e;exact(x b u e).stay (λc v _ q=>k c v q) (λc q=>by rw[zj (zr q hn)];exact q) λc xs q=>by rw[zj (zr q hn)];exact q
end
def Rd(H:Hp)(a:Addr)(u:HO):Prop:=H a=some u\/∃o,H a=some (.frz o u)
def Rd.ok (r:Rd H a u)(x:cg P w H h):aW P w H h a u:=by
 rcases r with r|⟨o,r⟩
 .exact x a u r
 .obtain ⟨_,q⟩:=x a _ r;exact q
def iU:Option HO->Prop
 |some (.lst _)=>True
 |some (.dK _)=>True
 |some (.dT _)=>True
 |some (.set _ _)=>True
 |some (.ins _ _ _)=>True
 |some (.ext _)=>True
 |_=>False
section
variable{P:Lr}{w:Ls}{H:Hp}{h h':Ly}{x e:Addr}{o':HO}
def cg.write(ok:cg P w H h)(mu:iU (H x))(he:e=x\/H e=some (.own x))(k:∀b u,b≠e->h.get? b=some u->h'.get? b=some u)(heo:∃u,h'.get? e=some u)
  (new:aW P w (aJ H x o') h' x o'):cg P w (aJ H x o') h':=λb u q=>by
 have nown:∀c y,H c=some (.own y)->c≠x:=λc y r z=>by subst z;rw[r]at mu;exact mu
 have ntup:∀c xs,H c=some (.tup xs)->c≠x:=λc xs r z=>by subst z;rw[r]at mu;exact mu
 by_cases hb:b=x
 .subst hb;rw[zm]at q;cases q;exact new
 .rw[zj hb]at q;by_cases hbe:b=e
  .have q':H b=some (.own x):=by
    rcases he with z|z
    .exact M8 (hbe.trans z) hb
    .rw[hbe];exact z
   rw[q]at q';cases q';obtain⟨v,hv⟩:=heo;exact⟨v,by rw[hbe];exact hv⟩
  .refine (ok b u q).stay (λc v hc r=>k c v ?_ r) (λc r=>by rw[zj (nown c b r)];exact r) λc xs r=>by rw[zj (ntup c xs r)];exact r
   rcases hc with rfl|hc
   .exact hbe
   .rintro rfl;rcases he with z|z
    .exact nown c b hc z
    .rw[hc]at z;cases z;exact hb rfl
end
structure Un(fs ex:List Addr)(H H':Hp)(h h':Ly):Prop where
 keep:∀b o,h.get? b=some o->H b=none->b∉fs->b∉ex->h'.get? b=some o
 slot:∀b o,h.get? b=some o->H b=none->b∈fs->b∉ex->∃sl,h'.get? b=some {o with slots:=sl}
 free:∀b o,h.get? b=some o->H b=none->b∉ex->H' b=none
 there:∀b o,h.get? b=some o->b∉ex->∃o',h'.get? b=some o'
 tups:∀b xs,H b=some (.tup xs)->H' b=some (.tup xs)
 frzs:∀b o u,H b=some (.frz o u)->H' b=some (.frz o u)
 tbls:∀b ps,H b=some (.tbl ps)->∃more,H' b=some (.tbl (ps++more))
section
variable{fs ex:List Addr}{H H1:Hp}{h h1 h':Ly}{a x e:Addr}{o:HO}
def Un.any (u:Un fs ex H H1 h h1)(q:h.get? b=some ob)(n:H b=none)(hx:b∉ex):∃sl,h1.get? b=some {ob with slots:=sl}:=by
 by_cases hb:b∈fs
 .exact u.slot b ob q n hb hx
 .exact ⟨ob.slots,u.keep b ob q n hb hx⟩
def Un.kept(k:∀b u,h.get? b=some u->h'.get? b=some u):Un fs ex H H h h':=
 ⟨λb ob q _ _ _=>k b ob q,λb ob q _ _ _=>⟨ob.slots,k b ob q⟩,λ_ _ _ n _=>n,λb ob q _=>⟨ob,k b ob q⟩,λ_ _ q=>q,λ_ _ _ q=>q,λ_ ps q=>⟨#[],by rw[q];simp⟩⟩
def Un.refl:Un fs ex H H h h:=Un.kept λ_ _ q=>q
def Un.laid(k:∀b u,h.get? b=some u->h'.get? b=some u)(hp:h.objs.size<=a)(hn:H a=none):Un fs ex H (aJ H a o) h h' where
 keep:=λb u q _ _ _=>k b u q
 slot:=λb u q _ _ _=>⟨u.slots,k b u q⟩
 free:=λb u q n _=>by rw[zj (QM (Qe (Qk q) hp))];exact n
 there:=λb u q _=>⟨u,k b u q⟩
 tups:=λb xs q=>by rw[zj (zr q hn)];exact q
 frzs:=λb u xs q=>by rw[zj (zr q hn)];exact q
 tbls:=λb ps q=>⟨#[],by rw[zj (zr q hn),q];simp⟩
def Un.write(mu:iU (H x))(he:e=x\/H e=some (.own x))(k:∀b u,b≠e->h.get? b=some u->h'.get? b=some u)(heo:∃u,h'.get? e=some u):Un fs ex H (aJ H x o) h h':=by
 have hx:∀b,H b=none->b≠x:=λb n z=>by subst z;rw[n]at mu;exact mu
 have hb:∀b,H b=none->b≠e:=λb n z=>by
  subst z;rcases he with r|r
  .exact hx b n r
  .rw[n]at r;cases r
 have hm:∀b u,H b=some u->¬iU (some u)->b≠x:=λb u q nm z=>by subst z;rw[q]at mu;exact nm mu
 refine⟨λb u q n _ _=>k b u (hb b n) q,λb u q n _ _=>⟨u.slots,k b u (hb b n) q⟩,λb u q n _=>by rw[zj (hx b n)];exact n,λb u q _=>?_,
  λb xs q=>by rw[zj (hm b _ q λz=>z)];exact q,λb u xs q=>by rw[zj (hm b _ q λz=>z)];exact q,λb ps q=>⟨#[],by rw[zj (hm b _ q λz=>z),q];simp⟩⟩
 by_cases hbe:b=e
 .subst hbe;exact heo
 .exact ⟨u,k b u hbe q⟩
end
def lA(h:Ly)(H:Hp):List Addr:=(QH h.objs.size).filter λa=>(H a).isSome
def gT(h:Ly)(H:Hp):Ly:=PySem.W.hideAll h (lA h H)
def Iq(h:Ly)(H:Hp):(gT h H).objs.size=h.objs.size:=PySem.W.hideAll_size _ _
def HK (e:h.get? b=some o)(n:H b=none):(gT h H).get? b=some o:=
 Vx _ e λhm=>by
  have q:(H b).isSome=true:=(Vp.mp hm).2;rw[n]at q;simp at q
def Fd (e:(gT h H).get? b=some o):h.get? b=some o/\H b=none:=by
 have e':h.get? b=some o:=PySem.W.of_hideAll (lA h H) e;refine⟨e',?_⟩;cases q:H b with
 |none=>rfl
 |some x=>
  have hm:b∈lA h H:=Vp.mpr ⟨W6.mpr (Qk e'),by simp[q]⟩;have z:(gT h H).get? b=none:=PySem.W.hideAll_none (lA h H) hm;rw[z]at e;cases e
structure Mod(K:Qb)(mg:Str->Option Value)(base:Ly):Prop where
 kin:K.In base
 glob:base.Ns LC mg
 blt:∃mb,base.Ns builtinsNs mb/\∀x:Str,x ≠ "__name__" -> mb x=LF x
 nolimit:base.NoLimit
set_option genInjectivity false in
structure Cx where
 prog:Lr
 w:Ls
 K:Qb
 mg:Str->Option Value
 base:Ly
 A:LG
 N:List Str
 s₀:Shared
 H₀:Hp
 env:Env
 outer:List Env
 stack:List Env
 ex:List Addr
 fn:Str->Bool
 calm:Bool
 pn:List (Addr×Obj)
 xe:Value->Shared->Prop
def bR(l:List Env):List Addr:=l.filterMap (·.frame)
abbrev Cx.fs(X:Cx):List Addr:=bR X.outer
def ii(sc:Lo)(x:Str):Prop:=sc.names.lookup x=some .local\/sc.names.lookup x=some .cell\/sc.names.lookup x=some .free
def Loc(sc:Lo)(x:Str):Prop:=sc.names.lookup x=some .local\/sc.names.lookup x=some .cell
def Look(env:Env)(h:Ly)(m:Str->Option Value)(x:Str)(u:Value):Prop:=
 (env.kindOf x=some .local/\m x=some u)\/((env.kindOf x=some .cell\/env.kindOf x=some .free)/\∃c,env.cells.lookup x=some c/\h.IsCell c (some u))
structure Cx.Ok(X:Cx):Prop where
 mod:Mod X.K X.mg X.base
 kind:X.env.scope.kind=.function
 glob:X.env.globals=LC
 blt:X.env.builtins=builtinsNs
 above:X.s₀.heap.objs.size<=X.env.locals
 inj:∀x y c,X.env.cells.lookup x=some c->X.env.cells.lookup y=some c->x=y
 has:∀x,(X.env.kindOf x=some .cell\/X.env.kindOf x=some .free)->∃c,X.env.cells.lookup x=some c
 cab:∀x c,X.fn x=true->X.env.cells.lookup x=some c->X.s₀.heap.objs.size<=c
 hd:X.calm=true->X.A.handled=none
 frames:X.A.frames=some X.stack
 stk:X.stack=X.outer\/(X.stack=X.env::X.outer/\X.env.frame=some X.env.locals)
 exf:∀b∈X.ex,b≠X.env.locals/\∀x c,X.env.cells.lookup x=some c->c≠b
 bs:∀b o,X.base.get? b=some o->X.s₀.heap.get? b=some o/\X.H₀ b=none
 bsz:X.base.objs.size<=X.s₀.heap.objs.size
 noex:∀b o,X.base.get? b=some o->b∉X.ex
 exfs:∀b∈X.ex,b∉X.fs
 funs:X.s₀.heap.FunFrames X.base X.outer
 frf:∀b∈X.fs,X.H₀ b=none
structure Inv(X:Cx)(pins:List (Addr×Obj))(σ:List (Option V))(H:Hp)(s:Shared):Prop where
 ok:X.Ok
 os:s.os=X.s₀.os
 bare:LH s.gens
 base:Un X.fs X.ex X.H₀ H X.s₀.heap s.heap
 loc:∃m,s.heap.Ns X.env.locals m/\∀(i:Nat) (x:Str) (v:V),X.N[i]?=some x->σ[i]?=some (some v)->ii X.env.scope x->∃u,RelV v u/\Look X.env s.heap m x u
 cell:∀x c,X.env.cells.lookup x=some c->∃v,s.heap.IsCell c v
 free:H X.env.locals=none
 freeC:∀x c,X.env.cells.lookup x=some c->H c=none
 pin:∀p∈X.pn++pins,s.heap.get? p.1=some p.2/\H p.1=none/\p.1≠X.env.locals/\p.1∉X.fs/\∀v,p.2.data≠.cell v
 hok:cg X.prog X.w H s.heap
 len:σ.length=X.N.length
section
variable{X:Cx}{pins:List (Addr×Obj)}{σ:List (Option V)}{H H':Hp}{s:Shared}{h':Ly}
def Cx.Ok.nofr (ok:X.Ok)(e:X.base.get? b=some o):b∉X.fs:=λhb=>by
 have:=(ok.funs.mem hb).1;rw[e]at this;cases this
theorem Inv.bs(I:Inv X pins σ H s):∀b o,X.base.get? b=some o->s.heap.get? b=some o/\H b=none:=λb o e=>
 ⟨I.base.keep b o (I.ok.bs b o e).1 (I.ok.bs b o e).2 (I.ok.nofr e) (I.ok.noex b o e),I.base.free b o (I.ok.bs b o e).1 (I.ok.bs b o e).2 (I.ok.noex b o e)⟩
def Inv.bk(I:Inv X pins σ H s):∀b o,X.base.get? b=some o->s.heap.get? b=some o:=λb o e=>(I.bs b o e).1
theorem Inv.mod(I:Inv X pins σ H s):Mod X.K X.mg X.base:=I.ok.mod
def Inv.kIn(I:Inv X pins σ H s):X.K.In s.heap:=I.ok.mod.kin.keeps I.bk
theorem Inv.lt(I:Inv X pins σ H s):X.env.locals<s.heap.objs.size:=let⟨_,hn,_⟩:=I.loc;hn.lt
def Inv.sz(I:Inv X pins σ H s):X.s₀.heap.objs.size<=s.heap.objs.size:=Qr I.ok.above (WL I.lt)
def Inv.nofs (I:Inv X pins σ H s)(h:s.heap.objs.size<=a):a∉X.fs:=λhb=>by
 obtain⟨_,o,ho,_⟩:=I.ok.funs.mem hb;exact M8 (Qe (Qk ho) (Qr I.sz h)) (Q8 _)
def Inv.cne(I:Inv X pins σ H s):∀x c,X.env.cells.lookup x=some c->c≠X.env.locals:=λx c e z=>by
 obtain⟨v,o,ho,hd⟩:=I.cell x c e;obtain⟨m,⟨o',es,ep,ho',hd',_⟩,_⟩:=I.loc;rw[z,ho']at ho;cases ho;rw[hd']at hd;cases hd
theorem Inv.funs(I:Inv X pins σ H s):s.heap.FunFrames X.base X.outer:=by
 have all:∀(l:List Env),(∀b∈bR l,b∈X.fs)->X.s₀.heap.FunFrames X.base l->s.heap.FunFrames X.base l:=by
  intro l
  induction l with
  |nil=>intro _ _;trivial
  |cons env r ih=>
   intro hs hl;obtain⟨hk,⟨L,o,hf,hn,ho,hd⟩,hr⟩:=hl;have hL:L∈X.fs:=hs L (by unfold bR;rw[WI,hf];exact QD);obtain⟨sl,e⟩:=I.base.slot L o ho (I.ok.frf L hL) hL λz=>I.ok.exfs L z hL;exact⟨hk,⟨L,_,hf,hn,e,hd⟩,ih (λb hb=>hs b (by unfold bR;rw[WI,hf];exact Qh _ hb)) hr⟩
 exact all X.outer (λ_ hb=>hb) I.ok.funs
theorem Inv.stack(I:Inv X pins σ H s):s.heap.FunFrames X.base X.stack:=by
 rcases I.ok.stk with e|⟨e,hf⟩
 .rw[e];exact I.funs
 .rw[e];obtain⟨m,hn,_⟩:=I.loc;refine .cons (by rw[I.ok.kind];decide) hf hn ?_ I.funs;exact Heap.get?_none_of_le (Qr I.ok.bsz I.ok.above)
def Inv.stkSub(I:Inv X pins σ H s):∀b∈bR X.stack,b∈X.env.locals::X.fs:=λb hb=>by
 rcases I.ok.stk with e|⟨e,hf⟩
 .rw[e]at hb;exact Qh _ hb
 .rw[e]at hb;unfold bR at hb;rw[WI,hf]at hb;exact hb
def Inv.stkFree(I:Inv X pins σ H s):∀b∈bR X.stack,H b=none:=λb hb=>by
 rcases Qp.mp (I.stkSub b hb)with e|hb
 .rw[e];exact I.free
 .obtain ⟨_,o,ho,_⟩:=I.ok.funs.mem hb;exact I.base.free b o ho (I.ok.frf b hb) λz=>I.ok.exfs b z hb
def Inv.step{g':Array LI}{t':Nat}{d':Drawn}{ch:List Addr}(I:Inv X pins σ H s)
  (hch:∀b∈ch,(b∈X.ex\/X.s₀.heap.objs.size<=b)/\b≠X.env.locals/\(∀x c,X.env.cells.lookup x=some c->c≠b)/\∀p∈X.pn++pins,p.1≠b)
  (keep:∀b o,b≠X.env.locals->b∉X.fs->b∉ch->s.heap.get? b=some o->H b=none->h'.get? b=some o)
  (slot:∀b o,b≠X.env.locals->b∈X.fs->b∉ch->s.heap.get? b=some o->H b=none->∃sl,h'.get? b=some {o with slots:=sl}) (free:∀b o,b∉ch->s.heap.get? b=some o->H b=none->H' b=none)
  (there:∀b o,b∉ch->s.heap.get? b=some o->∃o',h'.get? b=some o')
  (tups:∀b xs,H b=some (.tup xs)->H' b=some (.tup xs)) (frzs:∀b o u,H b=some (.frz o u)->H' b=some (.frz o u)) (tbls:∀b ps,H b=some (.tbl ps)->∃more,H' b=some (.tbl (ps++more)))
  (ns:∀m,s.heap.Ns X.env.locals m->h'.Ns X.env.locals m) (hok:cg X.prog X.w H' h') (hg:LH g') :
  Inv X pins σ H' {s with heap:=h',gens:=g',drawn:=d',toks:=t' }:=by
 have neL:∀b o,X.s₀.heap.get? b=some o->b≠X.env.locals:=λb o e=>QM (Qe (Qk e) I.ok.above);have neC:∀b o,X.s₀.heap.get? b=some o->b∉X.ex->b∉ch:=λb o e hx hb=>by
  rcases(hch b hb).1 with z|z
  .exact hx z
  .exact M8 (Qe (Qk e) z) (Q8 _)
 have cellK:∀x c,X.env.cells.lookup x=some c->∀v,s.heap.IsCell c v->h'.IsCell c v:=λx c e v ⟨o,ho,hd⟩=>by
  have nch:c∉ch:=λz=>(hch c z).2.2.1 x c e rfl;by_cases hc:c∈X.fs
  .obtain ⟨sl,q⟩:=slot c o (I.cne x c e) hc nch ho (I.freeC x c e);exact⟨_,q,hd⟩
  .exact ⟨o,keep c o (I.cne x c e) hc nch ho (I.freeC x c e),hd⟩
 refine⟨I.ok,I.os,hg,⟨λb o e n hb hx=>?_,λb o e n hb hx=>?_,λb o e n hx=>?_,λb o e hx=>?_,λb xs e=>tups b xs (I.base.tups b xs e),λb o xs e=>frzs b o xs (I.base.frzs b o xs e),λb ps e=>?_⟩,?_,λx c e=>?_,?_,λx c e=>?_,λp hp=>?_,hok,I.len⟩
 .exact keep b o (neL b o e) hb (neC b o e hx) (I.base.keep b o e n hb hx) (I.base.free b o e n hx)
 .obtain ⟨sl,e1⟩:=I.base.slot b o e n hb hx;obtain⟨sl',e2⟩:=slot b _ (neL b o e) hb (neC b o e hx) e1 (I.base.free b o e n hx);exact⟨sl',e2⟩
 .obtain ⟨o',e1⟩:=I.base.there b o e hx;exact free b o' (neC b o e hx) e1 (I.base.free b o e n hx)
 .obtain ⟨o',e1⟩:=I.base.there b o e hx;exact there b o' (neC b o e hx) e1
 .obtain ⟨m1,e1⟩:=I.base.tbls b ps e;obtain⟨m2,e2⟩:=tbls b _ e1;exact⟨m1++m2,by rw[e2,Array.append_assoc]⟩
 .obtain ⟨m,hn,hl⟩:=I.loc;refine⟨m,ns m hn,λi x v e1 e2 e3=>?_⟩;obtain⟨u,r,l⟩:=hl i x v e1 e2 e3;refine⟨u,r,?_⟩;rcases l with l|⟨k,c,e,z⟩
  .exact .inl l
  .exact .inr ⟨k,c,e,cellK x c e _ z⟩
 .obtain ⟨v,z⟩:=I.cell x c e;exact⟨v,cellK x c e v z⟩
 .obtain ⟨m,⟨o,_,_,ho,_⟩,_⟩:=I.loc;exact free _ o (λz=>(hch _ z).2.1 rfl) ho I.free
 .obtain ⟨v,o,ho,hd⟩:=I.cell x c e;exact free c o (λz=>(hch c z).2.2.1 x c e rfl) ho (I.freeC x c e)
 .obtain ⟨e,n,ne,nf,d⟩:=I.pin p hp;have nch:p.1∉ch:=λz=>(hch p.1 z).2.2.2 p hp rfl;exact⟨keep p.1 p.2 ne nf nch e n,free p.1 p.2 nch e n,ne,nf,d⟩
def Inv.un{t':Nat}(I:Inv X pins σ H s)(u:Un X.fs [] H H' s.heap h')(hok:cg X.prog X.w H' h'):Inv X pins σ H' {s with heap:=h',toks:=t' }:=by
 obtain⟨m,⟨o,es,ep,ho,r⟩,_⟩:=id I.loc;obtain⟨sl,hL⟩:=u.any ho I.free (by simp);exact I.step (g':=s.gens) (d':=s.drawn) (ch:=[]) (λ_ z=>nomatch z) (λb o _ hb _ e n=>u.keep b o e n hb (by simp)) (λb o _ hb _ e n=>u.slot b o e n hb (by simp)) (λb o _ e n=>u.free b o e n (by simp)) (λb o _ e=>u.there b o e (by simp)) u.tups u.frzs u.tbls (λm' hm=>by
  obtain⟨o',es',ep',ho',r'⟩:=hm;rw[ho]at ho';cases ho';exact⟨_,es',ep',hL,r'⟩) hok I.bare
def Inv.call{g':Array LI}{t':Nat}{d':Drawn}{ch:List Addr}(I:Inv X pins σ H s)(u:Un (bR X.stack) ch H H' s.heap h')(hok:cg X.prog X.w H' h')(hg:LH g')
  (hch:∀b∈ch,(b∈X.ex\/X.s₀.heap.objs.size<=b)/\b≠X.env.locals/\(∀x c,X.env.cells.lookup x=some c->c≠b)/\∀p∈X.pn++pins,p.1≠b) :
  Inv X pins σ H' {s with heap:=h',gens:=g',drawn:=d',toks:=t' }:=by
 obtain⟨m,⟨o,es,ep,ho,r⟩,_⟩:=id I.loc;obtain⟨sl,hL⟩:=u.any ho I.free λz=>(hch _ z).2.1 rfl;exact I.step (ch:=ch) hch (λb o hL hb hc e n=>u.keep b o e n (λz=>(Qp.mp (I.stkSub b z)).elim hL hb) hc) (λb o _ _ hc e n=>u.any e n hc) (λb o hc e n=>u.free b o e n hc) (λb o hc e=>u.there b o e hc) u.tups u.frzs u.tbls (λm' hm=>by
  obtain⟨o',es',ep',ho',r'⟩:=hm;rw[ho]at ho';cases ho';exact⟨_,es',ep',hL,r'⟩) hok hg
def Inv.turned{t':Nat}{it:Addr}(I:Inv X pins σ H s)(k:∀b o,b≠it->s.heap.get? b=some o->h'.get? b=some o)(hn:H it=none)(hL:it≠X.env.locals)
  (h1:it∈X.ex\/X.s₀.heap.objs.size<=it) (h2:∀x c,X.env.cells.lookup x=some c->c≠it) (h3:∀p∈X.pn++pins,p.1≠it):Inv X pins σ H {s with heap:=h',toks:=t' }:=by
 have nit:∀b u,H b=some u->b≠it:=λb u e z=>by rw[z,hn]at e;cases e
 refine I.step (g':=s.gens) (d':=s.drawn) (ch:=[it]) (λb hb=>?_) (λb o _ _ hc e _=>k b o (λz=>hc (by simp[z])) e) (λb o _ _ hc e _=>⟨o.slots,k b o (λz=>hc (by simp[z])) e⟩) (λ_ _ _ _ n=>n)
  (λb o hc e=>⟨o,k b o (λz=>hc (by simp[z])) e⟩) (λ_ _ e=>e) (λ_ _ _ e=>e) (λb ps e=>⟨#[],by rw[e];simp⟩) (λm hm=>?_) (λb u e=>?_) I.bare
 .have e:b=it:=by simpa using hb
  subst e;exact⟨h1,hL,h2,h3⟩
 .obtain ⟨o,es,ep,ho,r⟩:=hm;exact⟨o,es,ep,k _ o (Ne.symm hL) ho,r⟩
 .refine (I.hok b u e).stay (λc v hc q=>k c v ?_ q) (λ_ q=>q) λ_ _ q=>q;rcases hc with z|z
  .rw[z];exact nit b u e
  .exact nit c _ z
def Inv.tok(I:Inv X pins σ H s)(t:Nat):Inv X pins σ H {s with toks:=t}:=I.un (h':=s.heap) (t':=t) Un.refl I.hok
theorem Inv.kept{t':Nat}(I:Inv X pins σ H s)(k:∀b u,s.heap.get? b=some u->h'.get? b=some u):Inv X pins σ H {s with heap:=h',toks:=t' }:=I.un (Un.kept k) (I.hok.kept k)
theorem Inv.laid{a:Addr}{o:HO}{t':Nat}(I:Inv X pins σ H s)(k:∀b u,s.heap.get? b=some u->h'.get? b=some u)(hp:s.heap.objs.size<=a)(new:aW X.prog X.w (aJ H a o) h' a o):
  Inv X pins σ (aJ H a o) {s with heap:=h',toks:=t' }:=I.un (Un.laid k hp (I.hok.fresh hp)) (I.hok.laid k hp new)
theorem Inv.write{x e:Addr}{o:HO}{t':Nat}(I:Inv X pins σ H s)(mu:iU (H x))(he:e=x\/H e=some (.own x))(k:∀b u,b≠e->s.heap.get? b=some u->h'.get? b=some u)(heo:∃u,h'.get? e=some u)
  (new:aW X.prog X.w (aJ H x o) h' x o):Inv X pins σ (aJ H x o) {s with heap:=h',toks:=t' }:=I.un (Un.write mu he k heo) (I.hok.write mu he k heo new)
def Inv.pins_of{pins':List (Addr×Obj)}(I:Inv X pins σ H s)(h:∀p∈pins',s.heap.get? p.1=some p.2/\H p.1=none/\p.1≠X.env.locals/\p.1∉X.fs/\∀v,p.2.data≠.cell v):Inv X pins' σ H s:=
 ⟨I.ok,I.os,I.bare,I.base,I.loc,I.cell,I.free,I.freeC,λp hp=>(QL.mp hp).elim (λz=>I.pin p (QV _ z)) (h p),I.hok,I.len⟩
def qR {N:List Str}(hN:N.Nodup){j:Nat}(a:N[i]?=some x)(b:N[j]?=some x):i=j:=by
 obtain⟨h1,e1⟩:=Qa.mp a;obtain⟨h2,e2⟩:=Qa.mp b;exact(WD hN).mp (e1.trans e2.symm)
def gm (I:Inv X pins σ H s)(hN:X.N.Nodup)(hi:X.N[i]?=some x)(hx:Loc X.env.scope x)(r:RelV v u)(h:∀s',Inv X pins (σ.set i (some v)) H s'->(∃a,WC a s.heap s'.heap/\(a=X.env.locals\/X.env.cells.lookup x=some a))->Q () s')(hf:X.fn x=true\/X.env.scope.names.lookup x=some .local:=by first|exact .inl rfl|exact .inr rfl|assumption):LK M A (storeName X.env x u) Q E s:=by
 obtain⟨m,hn,hl⟩:=id I.loc;have hcls:(X.env.scope.kind == .class || (X.env.scope.kind == .module&&X.env.locals != X.env.globals))=false:=by rw[I.ok.kind];rfl
 have hiσ:i<σ.length:=by rw[I.len];exact(Qa.mp hi).1
 have cne:=I.cne;have tracked:∀{a:Addr}{h':Ly},(∃o,s.heap.get? a=some o/\H a=none)->WC a s.heap h'->cg X.prog X.w H h':=λ{a h'} ha hs b ob e=>by
  obtain⟨_,_,hfree⟩:=ha;refine(I.hok b ob e).stay (λc w' hc q=>(hs.2 c ?_).trans q) (λ_ q=>q) λ_ _ q=>q;rintro rfl;rcases hc with rfl|hc
  .rw[hfree]at e;cases e
  .rw[hfree]at hc;cases hc
 rcases hx with hk|hk
 .refine wpAny_storeName_local hk hn (λh' hn' hs=>?_) hcls;obtain⟨oL,_,_,hoL,_⟩:=id hn;refine h _ ⟨I.ok,I.os,I.bare,⟨λb o e n hb hx=>?_,λb o e n hb hx=>?_,I.base.free,λb o e hx=>?_,I.base.tups,I.base.frzs,I.base.tbls⟩,⟨_,hn',λj y v' e1 e2 e3=>?_⟩,λy c e=>?_,I.free,I.freeC,λp hp=>?_,tracked ⟨oL,hoL,I.free⟩ hs,by simpa using I.len⟩ ⟨_,hs,.inl rfl⟩
  .exact (hs.2 b (QM (Qe (Qk e) I.ok.above))).trans (I.base.keep b o e n hb hx)
  .obtain ⟨sl,e1⟩:=I.base.slot b o e n hb hx;exact⟨sl,(hs.2 b (QM (Qe (Qk e) I.ok.above))).trans e1⟩
  .obtain ⟨o',e1⟩:=I.base.there b o e hx;exact⟨o',(hs.2 b (QM (Qe (Qk e) I.ok.above))).trans e1⟩
  .by_cases hj:j=i
   .subst hj;rw[hi]at e1;cases e1;rw[QQ hiσ]at e2;cases e2;exact⟨u,r,.inl ⟨hk,by simp⟩⟩
   .rw[Qu (Ne.symm hj)]at e2;obtain⟨u',r',q⟩:=hl j y v' e1 e2 e3;refine⟨u',r',?_⟩;rcases q with⟨k,e⟩|⟨k,c,e,z⟩
    .refine .inl ⟨k,?_⟩;have:y≠x:=λe=>hj (qR hN e1 (e▸hi));simp[this,e]
    .exact .inr ⟨k,c,e,z.sameBut hs (cne y c e)⟩
  .obtain ⟨w',z⟩:=I.cell y c e;exact⟨w',z.sameBut hs (cne y c e)⟩
  .obtain ⟨e,n,ne,nf,d⟩:=I.pin p hp;exact⟨(hs.2 p.1 ne).trans e,n,ne,nf,d⟩
 .have hfn:X.fn x=true:=by
   rcases hf with z|z
   .exact z
   .rw[z]at hk;cases hk
  obtain⟨c,hc⟩:=I.ok.has x (.inl hk);obtain⟨w',z⟩:=I.cell x c hc;refine wpAny_storeName_cell I.ok.kind hk hc z (λh' hc' hs=>?_);obtain⟨oc,hoc,hocd⟩:=id z;refine h {s with heap:=h' } ⟨I.ok,I.os,I.bare,⟨λb o e n hb hx=>?_,λb o e n hb hx=>?_,I.base.free,λb o e hx=>?_,I.base.tups,I.base.frzs,I.base.tbls⟩,⟨m,hn.sameBut hs (Ne.symm (cne x c hc)),λj y v' e1 e2 e3=>?_⟩,λy c' e=>?_,I.free,I.freeC,λp hp=>?_,tracked ⟨oc,hoc,I.freeC x c hc⟩ hs,by simpa using I.len⟩ ⟨c,hs,.inr hc⟩
  .exact (hs.2 b (QM (Qe (Qk e) (I.ok.cab x c hfn hc)))).trans (I.base.keep b o e n hb hx)
  .obtain ⟨sl,e1⟩:=I.base.slot b o e n hb hx;exact⟨sl,(hs.2 b (QM (Qe (Qk e) (I.ok.cab x c hfn hc)))).trans e1⟩
  .obtain ⟨o',e1⟩:=I.base.there b o e hx;exact⟨o',(hs.2 b (QM (Qe (Qk e) (I.ok.cab x c hfn hc)))).trans e1⟩
  .by_cases hj:j=i
   .subst hj;rw[hi]at e1;cases e1;rw[QQ hiσ]at e2;cases e2;exact⟨u,r,.inr ⟨.inl hk,c,hc,hc'⟩⟩
   .rw[Qu (Ne.symm hj)]at e2;obtain⟨u',r',q⟩:=hl j y v' e1 e2 e3;refine⟨u',r',?_⟩;rcases q with q|⟨k,c',e,z'⟩
    .exact .inl q
    .refine .inr ⟨k,c',e,z'.sameBut hs ?_⟩;rintro rfl;exact hj (qR hN e1 (I.ok.inj _ _ _ e hc▸hi))
  .by_cases hcc:c'=c
   .subst hcc;exact⟨_,hc'⟩
   .obtain ⟨w2,z2⟩:=I.cell y c' e;exact⟨w2,z2.sameBut hs hcc⟩
  .obtain ⟨e,n,ne,nf,d⟩:=I.pin p hp;refine⟨(hs.2 p.1 ?_).trans e,n,ne,nf,d⟩;intro q;rw[q,hoc]at e;have q':oc=p.2:=Option.some.inj e;exact d w' (by rw[<-q'];exact hocd)
def vR (I:Inv X pins σ H s)(hN:X.N.Nodup)(hi:X.N[i]?=some x)(hx:Loc X.env.scope x)(r:RelV v u)(h:∀s',Inv X pins (σ.set i (some v)) H s'->Q () s')(hf:X.fn x=true\/X.env.scope.names.lookup x=some .local:=by first|exact .inl rfl|exact .inr rfl|assumption):LK M A (storeName X.env x u) Q E s:=
 gm I hN hi hx r (λs' I' _=>h s' I') hf
def Inv.call'{s':Shared}{ch:List Addr}(I:Inv X pins σ H s)(ho:s'.os=s.os)(u:Un (bR X.stack) ch H H' s.heap s'.heap)(hok:cg X.prog X.w H' s'.heap)(hg:LH s'.gens)
  (hch:∀b∈ch,(b∈X.ex\/X.s₀.heap.objs.size<=b)/\b≠X.env.locals/\(∀x c,X.env.cells.lookup x=some c->c≠b)/\∀p∈X.pn++pins,p.1≠b):Inv X pins σ H' s':=by
 obtain⟨h',g',d',t',o'⟩:=s';have e:o'=s.os:=ho;subst e;exact I.call (g':=g') (t':=t') (d':=d') u hok hg hch
end
abbrev XK:=Value->Option Addr->Hp->Prop
abbrev St:=List (Option V)
abbrev VK:=V->Hp->Prop
abbrev TE:=St->Hp->VK->Prop
abbrev TT:=St->Hp->(Bool->Hp->Prop)->Prop
abbrev TA:=St->Hp->(List V->Hp->Prop)->Prop
set_option genInjectivity false in
structure bY where
 nx:St->Hp->Prop
 rt:VK
 bk:St->Hp->Prop:=λ_ _=>False
 ct:St->Hp->Prop:=λ_ _=>False
abbrev TS:=bY->St->Hp->Prop
def EP(X:Cx)(pins:List (Addr×Obj))(σ:St)(Q:VK)(u:Value)(s':Shared):Prop:=∃v H',Inv X pins σ H' s'/\RelV v u/\Q v H'
def TP(X:Cx)(pins:List (Addr×Obj))(σ:St)(Q:Bool->Hp->Prop)(b:Bool)(s':Shared):Prop:=∃H',Inv X pins σ H' s'/\Q b H'
def AP(X:Cx)(pins:List (Addr×Obj))(σ:St)(Q:List V->Hp->Prop)(us:List Value)(s':Shared):Prop:=∃vs H',Inv X pins σ H' s'/\ay vs us/\Q vs H'
def SP(X:Cx)(pins:List (Addr×Obj))(D:bY)(f:Flow)(s':Shared):Prop:=
 match f with
 |.next=>∃σ' H',Inv X pins σ' H' s'/\D.nx σ' H'
 |.brk=>∃σ' H',Inv X pins σ' H' s'/\D.bk σ' H'
 |.cont=>∃σ' H',Inv X pins σ' H' s'/\D.ct σ' H'
 |.ret u=>∃v σ' H',Inv X pins σ' H' s'/\RelV v u/\D.rt v H'
def PE(X:Cx)(e:Expr)(t:TE):Prop:=
 ∀(pins:List (Addr×Obj)) (s:Shared) (σ:St) (H:Hp) (Q:VK),Inv X pins σ H s->t σ H Q->LK (LL X.prog X.w) X.A (eval e X.env) (EP X pins σ Q) X.xe s
def PT(X:Cx)(e:Expr)(t:TT):Prop:=
 ∀(pins:List (Addr×Obj)) (s:Shared) (σ:St) (H:Hp) (Q:Bool->Hp->Prop),Inv X pins σ H s->t σ H Q->LK (LL X.prog X.w) X.A (isTrue e X.env (eval e X.env)) (TP X pins σ Q) X.xe s
def PW(X:Cx)(e:Expr)(t:TT):Prop:=
 ∀(whole:Sem Value) (pins:List (Addr×Obj)) (s:Shared) (σ:St) (H:Hp) (Q:Bool->Hp->Prop),Inv X pins σ H s->t σ H Q->LK (LL X.prog X.w) X.A (isTrue e X.env whole) (TP X pins σ Q) X.xe s
def PW.pt (h:PW X e t):PT X e t:=h _
def PA(X:Cx)(es:List Expr)(t:TA):Prop:=
 ∀(pos:Pos) (pins:List (Addr×Obj)) (s:Shared) (σ:St) (H:Hp) (Q:List V->Hp->Prop),Inv X pins σ H s->t σ H Q->LK (LL X.prog X.w) X.A (spliced (LM pos (LN es X.env))) (AP X pins σ Q) X.xe s
def PS(X:Cx)(st:Stmt)(t:TS):Prop:=
 ∀(pins:List (Addr×Obj)) (s:Shared) (σ:St) (H:Hp) (D:bY),Inv X pins σ H s->t D σ H->LK (LL X.prog X.w) X.A (exec st X.env) (SP X pins D) X.xe s
def cv(X:Cx)(st:List Stmt)(t:TS):Prop:=
 ∀(pins:List (Addr×Obj)) (s:Shared) (σ:St) (H:Hp) (D:bY),Inv X pins σ H s->t D σ H->LK (LL X.prog X.w) X.A (execs st X.env) (SP X pins D) X.xe s
def aZ (h:LK M A t Q E s)(hQ:∀a s,Q a s->Q' a s):LK M A t Q' E s:=LO h hQ λ_ _ x=>x
section
variable{X:Cx}
def ja(i:Nat):TE:=λσ H Q=>∃v,σ[i]?=some (some v)/\Q v H
def tC(v:V):TE:=λ_ H Q=>Q v H
def vG (hN:X.N[i]?=some x)(hv:ii X.env.scope x)(hd:(x==("__debug__":Str))=false:=by decide)(hcd:(x==("__classdict__":Str))=false:=by decide):PE X (.Name x pos) (ja i):=by
 intro pins s σ H Q I h;obtain⟨v,e,h⟩:=h;obtain⟨m,hn,hl⟩:=I.loc;obtain⟨u,r,l⟩:=hl i x v hN e hv;have fin:EP X pins σ Q u s:=⟨v,H,I,r,h⟩;rcases l with⟨hk,hm⟩|⟨hk,c,hc,hcell⟩
 .exact wpAny_Name (LP I.ok.kind hk hn hm fin) hd
 .rcases hk with hk|hk
  .exact wpAny_Name (LQ I.ok.kind hk hc hcell fin) hd
  .exact wpAny_Name (wpAny_loadName_free I.ok.kind hk hc hcell fin hcd) hd
def Dl{i j pos}:PE X (.Constant (.int i) j pos) (tC (.int i)):=λ_ _ _ H _ I h=>wpAny_Constant_int ⟨.int i,H,I.tok _,⟨_,rfl⟩,h⟩
def sV{b j pos}:PE X (.Constant (.bool b) j pos) (tC (.bl b)):=λ_ _ _ H _ I h=>Constant_bool ⟨.bl b,H,I,rfl,h⟩
def DL{j pos}:PE X (.Constant .none j pos) (tC .non):=λ_ _ _ H _ I h=>Constant_none ⟨.non,H,I,rfl,h⟩
def wm{x j pos}:PE X (.Constant (.str x) j pos) (tC (.str x)):=λ_ _ _ H _ I h=>Calls.Constant_str ⟨.str x,H,I.tok _,⟨_,rfl⟩,h⟩
def Gl(X:Cx)(x:Str):Prop:=X.env.kindOf x=some .globalImplicit
def jf (I:Inv X pins σ H s)(hg:Gl X x)(hm:X.mg x=some u)(h:Q u s)(hd:(x==("__debug__":Str))=false:=by decide):LK (LL X.prog X.w) X.A (eval (.Name x pos) X.env) Q E s:=
 Calls.Name_function_global I.ok.kind hg (Calls.loadGlobal_global (by rw[I.ok.glob];exact I.mod.glob.keeps I.bk) hm h) hd
def wQ (I:Inv X pins σ H s)(hg:Gl X x)(hm:X.mg x=none)(hv:LF x=some u)(h:Q u s)(hn:x ≠ "__name__":=by decide)(hd:(x==("__debug__":Str))=false:=by decide):LK (LL X.prog X.w) X.A (eval (.Name x pos) X.env) Q E s:=by
 obtain⟨mb,h1,h2⟩:=I.mod.blt;exact Calls.Name_function_global I.ok.kind hg (Calls.loadGlobal_builtin (by rw[I.ok.glob];exact I.mod.glob.keeps I.bk) hm (by rw[I.ok.blt];exact h1.keeps I.bk) ((h2 x hn).trans hv) h) hd
def jg (hg:Gl X x)(hm:X.mg x=some u)(r:RelV v u)(hd:(x==("__debug__":Str))=false:=by decide):PE X (.Name x pos) (tC v):=
 λ_ _ _ H _ I h=>jf I hg hm ⟨v,H,I,r,h⟩ hd
def uY (hg:Gl X x)(hm:X.mg x=none)(hv:LF x=some u)(r:RelV v u)(hn:x ≠ "__name__":=by decide)(hd:(x==("__debug__":Str))=false:=by decide):PE X (.Name x pos) (tC v):=
 λ_ _ _ H _ I h=>wQ I hg hm hv ⟨v,H,I,r,h⟩ hn hd
variable{a b:Expr}{ta tb:TE}{pos:Pos}
def tB(t:TE):TT:=λσ H Q=>t σ H λx H1=>∃c,x=.bl c/\Q c H1
def t9 (h:PE X e t)(he:∀whole,isTrue e X.env whole=(do let v <-whole;standAt e.pos;holding [v] (truthy v)):=by intro _;rfl):PT X e (tB t):=by
 intro pins s σ H Q I hw;refine isTrue_plain (aZ (h pins s σ H _ I hw) λv s1 ⟨x,H1,I1,r1,q1⟩=>?_) (he _);obtain⟨d,rfl,q⟩:=q1;cases r1;exact LR ⟨H1,I1,q⟩
variable{tA tB':TT}{rest:List Expr}
def nZ(t u:TT):TT:=λσ H Q=>t σ H λc H1=>if c=true then u σ H1 Q else Q false H1
def Jl(t u:TT):TT:=λσ H Q=>t σ H λc H1=>if c=true then Q true H1 else u σ H1 Q
def nS(t:TT):TT:=λσ H Q=>t σ H λc H1=>Q (! c) H1
def Fc(ha:PT X a tA):PW X (.BoolOp .And [a] pos) tA:=by
 intro wh pins s σ H Q I h;refine isTrue_and (aZ (ha pins s σ H Q I h) λc s1 e=>?_);cases c with
 |true=>exact isTrue_and_nil e
 |false=>exact e
def DK(ha:PT X a tA):PW X (.BoolOp .Or [a] pos) tA:=by
 intro wh pins s σ H Q I h;refine isTrue_or (aZ (ha pins s σ H Q I h) λc s1 e=>?_);cases c with
 |false=>exact isTrue_or_nil e
 |true=>exact e
def DJ(ha:PT X a tA)(hb:PW X (.BoolOp .And (b::rest) pos) tB'):PW X (.BoolOp .And (a::b::rest) pos) (nZ tA tB'):=by
 intro wh pins s σ H Q I h;refine isTrue_and (aZ (ha pins s σ H _ I h) λc s1 ⟨H1,I1,q1⟩=>?_);cases c with
 |true=>exact hb wh pins s1 σ H1 Q I1 q1
 |false=>exact⟨H1,I1,q1⟩
def BO(ha:PT X a tA)(hb:PW X (.BoolOp .Or (b::rest) pos) tB'):PW X (.BoolOp .Or (a::b::rest) pos) (Jl tA tB'):=by
 intro wh pins s σ H Q I h;refine isTrue_or (aZ (ha pins s σ H _ I h) λc s1 ⟨H1,I1,q1⟩=>?_);cases c with
 |true=>exact⟨H1,I1,q1⟩
 |false=>exact hb wh pins s1 σ H1 Q I1 q1
def DI(ha:PT X a tA):PT X (.UnaryOp .Not a pos) (nS tA):=by
 intro pins s σ H Q I h;exact isTrue_not (ha pins s σ H (λc H1=>Q (! c) H1) I h)
def BN(ta tb:TE):TE:=λσ H Q=>ta σ H λx H1=>∃c,x=.bl c/\if c=true then tb σ H1 Q else Q (.bl false) H1
def nR(ta tb:TE):TE:=λσ H Q=>ta σ H λx H1=>∃c,x=.bl c/\if c=true then Q (.bl true) H1 else tb σ H1 Q
def BM(ta:TE):TE:=λσ H Q=>ta σ H λx H1=>∃c,x=.bl c/\Q (.bl (! c)) H1
def nF {op}(h:PE X a t):PE X (.BoolOp op [a] pos) t:=λpins s σ H Q I hw=>BoolOp_one (h pins s σ H Q I hw)
def t8(ha:PE X a ta)(hb:PE X (.BoolOp .And (b::rest) pos) tb):PE X (.BoolOp .And (a::b::rest) pos) (BN ta tb):=by
 intro pins s σ H Q I h;refine BoolOp_and (aZ (ha pins s σ H _ I h) λv s1 ⟨x,H1,I1,r1,q1⟩=>?_);obtain⟨c,rfl,q1⟩:=q1;cases r1;refine LR ?_;cases c with
 |true=>exact hb pins s1 σ H1 Q I1 q1
 |false=>exact⟨.bl false,H1,I1,rfl,q1⟩
def BL(ha:PE X a ta)(hb:PE X (.BoolOp .Or (b::rest) pos) tb):PE X (.BoolOp .Or (a::b::rest) pos) (nR ta tb):=by
 intro pins s σ H Q I h;refine BoolOp_or (aZ (ha pins s σ H _ I h) λv s1 ⟨x,H1,I1,r1,q1⟩=>?_);obtain⟨c,rfl,q1⟩:=q1;cases r1;refine LR ?_;cases c with
 |false=>exact hb pins s1 σ H1 Q I1 q1
 |true=>exact⟨.bl true,H1,I1,rfl,q1⟩
def DH(ha:PE X a ta):PE X (.UnaryOp .Not a pos) (BM ta):=by
 intro pins s σ H Q I h;refine UnaryOp_ (aZ (ha pins s σ H _ I h) λv s1 ⟨x,H1,I1,r1,q1⟩=>?_);obtain⟨c,rfl,q1⟩:=q1;cases r1;exact not_of (LR ⟨.bl (! c),H1,I1,rfl,q1⟩)
def AQ(t:TT)(ta tb:TE):TE:=λσ H Q=>t σ H λc H1=>if c=true then ta σ H1 Q else tb σ H1 Q
def HJ (hc:PT X c tA)(ha:PE X a ta)(hb:PE X b tb):PE X (.IfExp c a b pos) (AQ tA ta tb):=by
 intro pins s σ H Q I h;refine wpAny_IfExp (aZ (hc pins s σ H _ I h) λd s1 ⟨H1,I1,q1⟩=>?_);cases d with
 |true=>exact ha pins s1 σ H1 Q I1 q1
 |false=>exact hb pins s1 σ H1 Q I1 q1
end
def bn(K:Qb)(H:Hp)(a:Addr)(xs:List V):Prop:=
 Rd H a (.lst xs) \/
  ∃(o:Obj) (its:Array Value) (n:Nat),K.lookup a=some o/\o.cls=.type "list" /\ o.dict=none/\o.data=.seq its n/\its.size<=sizeLine/\ay xs its.toList
def cf(K:Qb)(H:Hp)(a:Addr)(xs:List V):Prop:=
 Rd H a (.tup xs) \/
  ∃(o:Obj) (its:Array Value) (n:Nat),K.lookup a=some o/\o.cls=.type "tuple" /\ o.data=.seq its n/\its.size<=sizeLine/\ay xs its.toList
def rA:Value->Option V
 |.none=>some .non
 |.bool b=>some (.bl b)
 |.int i _=>some (.int i)
 |.str x _=>some (.str x)
 |.bytes b _=>some (.byt b)
 |.float b _=>some (.flt b)
 |.ref a=>some (.ref a)
 |.type n=>some (.ty n)
 |_=>none
def RelV.abs (r:RelV x u):rA u=some x:=by
 cases x with
 |non=>cases r;rfl
 |bl _=>cases r;rfl
 |int _=>obtain⟨t,rfl⟩:=r;rfl
 |str _=>obtain⟨t,rfl⟩:=r;rfl
 |byt _=>obtain⟨t,rfl⟩:=r;rfl
 |flt _=>obtain⟨t,rfl⟩:=r;rfl
 |ref _=>cases r;rfl
 |ty _=>cases r;rfl
theorem RelV.inj (r:RelV x u)(q:RelV y u):x=y:=Option.some.inj (r.abs.symm.trans q.abs)
theorem ay.inj:∀{xs ys:List V}{us:List Value},ay xs us->ay ys us->xs=ys
 |_,_,_,.nil,.nil=>rfl
 |_,_,_,.cons r t,.cons r' t'=>by rw[r.inj r',ay.inj t t']
section
variable{X:Cx}{pins:List (Addr×Obj)}{σ:St}{H:Hp}{s:Shared}{a:Addr}{xs ys:List V}
def bn.of{K:Qb}(h:H a=some (.lst xs)):bn K H a xs:=.inl (.inl h)
def cf.of{K:Qb}(h:H a=some (.tup xs)):cf K H a xs:=.inl (.inl h)
def Inv.list(I:Inv X pins σ H s)(h:bn X.K H a xs):∃its:List Value,ay xs its/\PlainL s.heap a its.toArray/\xs.length<=sizeLine:=by
 rcases h with h|⟨o,its,n,hk,hc,hd,hs,hz,r⟩
 .obtain ⟨z,its,n,r,e⟩:=h.ok I.hok;exact⟨its,r,⟨_,n,e,rfl,rfl,rfl⟩,z⟩
 .refine ⟨its.toList,r,⟨o,n,I.kIn a o hk,hc,hd,by simpa using hs⟩,?_⟩;have e:=r.length;simp only[W9]at e;lia
def Inv.tuple(I:Inv X pins σ H s)(h:cf X.K H a xs):∃its:List Value,ay xs its/\IsTup s.heap a its.toArray/\xs.length<=sizeLine:=by
 rcases h with h|⟨o,its,n,hk,hc,hs,hz,r⟩
 .obtain ⟨z,its,r,p⟩:=h.ok I.hok;exact⟨its,r,p,z⟩
 .refine ⟨its.toList,r,⟨o,I.kIn a o hk,hc,n,by simpa using hs⟩,?_⟩;have e:=r.length;simp only[W9]at e;lia
def Inv.list_inj(I:Inv X pins σ H s)(h:bn X.K H a xs)(h':bn X.K H a ys):xs=ys:=by
 obtain⟨its,r,⟨o,n,e,_,_,d⟩,_⟩:=I.list h;obtain⟨its',r',⟨o',n',e',_,_,d'⟩,_⟩:=I.list h';rw[e]at e';cases e';rw[d]at d';injection d' with d1 _
 have:its=its':=by simpa using M9 WA d1
 subst this;exact r.inj r'
def Inv.tuple_inj(I:Inv X pins σ H s)(h:cf X.K H a xs)(h':cf X.K H a ys):xs=ys:=by
 obtain⟨its,r,⟨o,e,_,n,d⟩,_⟩:=I.tuple h;obtain⟨its',r',⟨o',e',_,n',d'⟩,_⟩:=I.tuple h';rw[e]at e';cases e';rw[d]at d';injection d' with d1 _
 have:its=its':=by simpa using M9 WA d1
 subst this;exact r.inj r'
end
abbrev Cx.wish(X:Cx)(E:Value->Shared->Prop):Cx:={X with xe:=E}
abbrev Cx.nox(X:Cx):Cx:=X.wish λ_ _=>False
theorem Cx.Ok.wish{X:Cx}(ok:X.Ok)(E:Value->Shared->Prop):(X.wish E).Ok:=
 ⟨ok.mod,ok.kind,ok.glob,ok.blt,ok.above,ok.inj,ok.has,ok.cab,ok.hd,ok.frames,ok.stk,ok.exf,ok.bs,ok.bsz,ok.noex,ok.exfs,ok.funs,ok.frf⟩
def Cx.Ok.unwish {X:Cx}(ok:(X.wish E).Ok):X.Ok:=
 ⟨ok.mod,ok.kind,ok.glob,ok.blt,ok.above,ok.inj,ok.has,ok.cab,ok.hd,ok.frames,ok.stk,ok.exf,ok.bs,ok.bsz,ok.noex,ok.exfs,ok.funs,ok.frf⟩
section
variable{X:Cx}{pins:List (Addr×Obj)}{σ:St}{H:Hp}{s:Shared}{E:Value->Shared->Prop}
theorem Inv.wish(I:Inv X pins σ H s)(E:Value->Shared->Prop):Inv (X.wish E) pins σ H s:=⟨I.ok.wish E,I.os,I.bare,I.base,I.loc,I.cell,I.free,I.freeC,I.pin,I.hok,I.len⟩
theorem Inv.unwish(I:Inv (X.wish E) pins σ H s):Inv X pins σ H s:=⟨I.ok.unwish,I.os,I.bare,I.base,I.loc,I.cell,I.free,I.freeC,I.pin,I.hok,I.len⟩
theorem SP.unwish{D:bY}{f:Flow}{s':Shared}(h:SP (X.wish E) pins D f s'):SP X pins D f s':=by
 cases f with
 |next=>obtain⟨σ',H',I,q⟩:=h;exact⟨σ',H',I.unwish,q⟩
 |brk=>obtain⟨σ',H',I,q⟩:=h;exact⟨σ',H',I.unwish,q⟩
 |cont=>obtain⟨σ',H',I,q⟩:=h;exact⟨σ',H',I.unwish,q⟩
 |ret u=>obtain⟨v,σ',H',I,r,q⟩:=h;exact⟨v,σ',H',I.unwish,r,q⟩
theorem cv.nox{st:List Stmt}{t:TS}(h:cv X.nox st t):cv X st t:=λpins s σ H D I hw=>
 LO (h pins s σ H D (I.wish _) hw) (λ_ _ q=>q.unwish) λ_ _ z=>False.elim z
end
section
variable{X:Cx}{st:Stmt}{rest:List Stmt}{t u:TS}{e:Expr}{te:TE}{pos:Pos}
def BK:TS:=λD σ H=>D.nx σ H
def nP(t u:TS):TS:=λD σ H=>t {D with nx:=u D} σ H
def uX:cv X [] BK:=λ_ _ σ H _ I h=>LS ⟨σ,H,I,h⟩
set_option tactic.hygienic true in
def wR(h1:PS X st t)(h2:cv X rest u):cv X (st::rest) (nP t u):=by
 intro pins s σ H D I h;refine LU (aZ (h1 pins s σ H {D with nx:=u D} I h) λf s1 q=>?_);cases f with
 |next=>
  obtain⟨σ',H',I',q⟩:=q;exact h2 pins s1 σ' H' D I' q
 |ret v=>exact q
 |brk=>exact q
 |cont=>exact q
def vS(h1:PS X st t):cv X [st] t:=by
 intro pins s σ H D I h;refine LU (aZ (h1 pins s σ H D I h) λf s1 q=>?_);cases f with
 |next=>exact LS q
 |ret v=>exact q
 |brk=>exact q
 |cont=>exact q
def Inv.quiet (I:Inv X pins σ H s):interactive X.env=false:=by simp[interactive,I.ok.kind]
def Cj(te:TE):TS:=λD σ H=>te σ H λ_ H1=>D.nx σ H1
def Fb(he:PE X e te)(hs:LV e none pos.line X.env=pure false:=by rfl):PS X (.Expr e pos) (Cj te):=by
 intro pins s σ H D I h;exact LW (aZ (he pins s σ H _ I h) λv s1 ⟨x,H1,I1,r1,q1⟩=>⟨σ,H1,I1,q1⟩) I.quiet hs
def nQ(te:TE):TS:=λD σ H=>te σ H D.rt
def gU(he:PE X e te):PS X (.Return (some e) pos) (nQ te):=by
 intro pins s σ H D I h;exact wpAny_Return_some (aZ (he pins s σ H _ I h) λv s1 ⟨x,H1,I1,r1,q1⟩=>⟨x,σ,H1,I1,r1,q1⟩)
def nV(c:TT)(t u:TS):TS:=λD σ H=>c σ H λb H1=>if b=true then t D σ H1 else u D σ H1
def mT (hc:PT X c tc)(ha:cv X a t)(hb:cv X b u):PS X (.If c a b pos) (nV tc t u):=by
 intro pins s σ H D I h;refine wpAny_If (aZ (hc pins s σ H _ I h) λd s1 ⟨H1,I1,q1⟩=>?_);cases d with
 |true=>exact ha pins s1 σ H1 D I1 q1
 |false=>exact hb pins s1 σ H1 D I1 q1
def t7:TS:=λ_ _ _=>False
def HI:PS X st t7:=λ_ _ _ _ _ _ h=>h.elim
def kB:cv X sts t7:=λ_ _ _ _ _ _ h=>h.elim
end
abbrev TG:=V->St->Hp->(St->Hp->Prop)->Prop
abbrev eu:=List V->St->Hp->(St->Hp->Prop)->Prop
def PG(X:Cx)(target:Expr)(t:TG):Prop:=
 ∀(pins:List (Addr×Obj)) (s:Shared) (σ:St) (H:Hp) (v:V) (u:Value) (Q:St->Hp->Prop),Inv X pins σ H s->RelV v u->t v σ H Q ->
  LK (LL X.prog X.w) X.A (assign target X.env u) (λ_ s'=>∃σ' H',Inv X pins σ' H' s'/\Q σ' H') X.xe s
def ik(X:Cx)(ts:List Expr)(t:eu):Prop:=
 ∀(pins:List (Addr×Obj)) (s:Shared) (σ:St) (H:Hp) (vs:List V) (us:List Value) (Q:St->Hp->Prop),Inv X pins σ H s->ay vs us->t vs σ H Q ->
  LK (LL X.prog X.w) X.A (assignInOrder ((LX ts X.env).map (·.2)) us) (λ_ s'=>∃σ' H',Inv X pins σ' H' s'/\Q σ' H') X.xe s
abbrev mD:=V->V->V->Hp->(Hp->Prop)->Prop
def mC(X:Cx)(t:mD):Prop:=
 ∀(pins:List (Addr×Obj)) (s:Shared) (σ:St) (H:Hp) (o i v:V) (ov iv u:Value) (Q:Hp->Prop),Inv X pins σ H s->RelV o ov->RelV i iv->RelV v u->t o i v H Q ->
  LK (LL X.prog X.w) X.A (setItem ov iv u) (λ_ s'=>∃H',Inv X pins σ H' s'/\Q H') X.xe s
abbrev lS:=V->V->Hp->VK->Prop
def lT(X:Cx)(op:LY)(t:lS):Prop:=
 ∀(pins:List (Addr×Obj)) (s:Shared) (σ:St) (H:Hp) (x y:V) (v u:Value) (Q:VK),Inv X pins σ H s->RelV x v->RelV y u->t x y H Q ->
  LK (LL X.prog X.w) X.A (inplaceOp op v u) (EP X pins σ Q) X.xe s
section
variable{X:Cx}{pos:Pos}
def xl(i:Nat):TG:=λv σ H Q=>Q (σ.set i (some v)) H
def y8 (hN:X.N.Nodup)(hi:X.N[i]?=some x)(hx:Loc X.env.scope x)(hf:X.fn x=true\/X.env.scope.names.lookup x=some .local:=by first|exact .inl rfl|exact .inr rfl|assumption):PG X (.Name x pos) (xl i):=by
 intro pins s σ H v u Q I r h;exact wpAny_assign_Name (vR I hN hi hx r (λs' I'=>⟨_,H,I',h⟩) hf)
def fP:eu:=λvs σ H Q=>vs=[]/\Q σ H
def wr(t:TG)(u:eu):eu:=λvs σ H Q=>∃v r,vs=v::r/\t v σ H λσ' H'=>u r σ' H' Q
def jh:ik X [] fP:=by
 intro pins s σ H vs us Q I r h;obtain⟨e,h⟩:=h;subst e;cases r;exact assignInOrder_nil ⟨σ,H,I,h⟩
def y9 (h1:PG X e t)(h2:ik X es u)(hs:(LX (e::es) X.env).map (·.2)=assign e X.env::(LX es X.env).map (·.2):=by rfl):ik X (e::es) (wr t u):=by
 intro pins s σ H vs us Q I r h;obtain⟨v,vr,e1,h⟩:=h;subst e1;cases r with
 |cons r rr=>
  rw[hs];refine assignInOrder_cons (aZ (h1 pins s σ H _ _ _ I r h) λ_ s1 ⟨σ1,H1,I1,q1⟩=>?_);exact h2 pins s1 σ1 H1 _ _ Q I1 rr q1
def iC(K:Qb)(n:Nat)(t:eu):TG:=λv σ H Q=>∃a xs,v=.ref a/\cf K H a xs/\xs.length=n/\t xs σ H Q
def gW (hc:X.calm=true)(h:ik X es t)(hn:(LX es X.env).length=n:=by rfl)(hst:(LX es X.env).findIdx? (·.1)=none:=by rfl):PG X (.Tuple es k pos) (iC X.K n t):=by
 intro pins s σ H v u Q I r hw;obtain⟨a,xs,e1,hq,hl,hw⟩:=hw;subst e1;cases r;obtain⟨its,rv,ht,hz⟩:=I.tuple hq;refine assign_Tuple_tuple (I.ok.hd hc) ht (by simp[hn,<-hl,rv.length]) hst λh' hx=>?_;have I1:Inv X pins σ H {s with heap:=h' }:=I.kept (t':=s.toks) λb o e=>hx b o (QM (Qk e)) e;exact h pins _ σ H xs _ Q I1 (by simpa using rv) hw
def pk(to ti:TE)(t:mD):TG:=λv σ H Q=>to σ H λo H1=>ti σ H1 λi H2=>t o i v H2 λH3=>Q σ H3
def t6 (ho:PE X o to)(hi:PE X i ti)(hs:mC X t)(ha:∀v,assign (.Subscript o i pos) X.env v=(do
   let ov <-holding [v] (eval o X.env)
   let iv <-holding [v,ov] (eval i X.env)
   standAt pos
   holding [v,ov,iv] (setItem ov iv v)
   release [v,ov,iv] []):=by intro _;rfl):PG X (.Subscript o i pos) (pk to ti t):=by
 intro pins s σ H v u Q I r h;rw[ha];refine LZ (L3 (aZ (ho pins s σ H _ I h) λov s1 ⟨x,H1,I1,r1,q1⟩=>?_));refine LZ (L3 (aZ (hi pins s1 σ H1 _ I1 q1) λiv s2 ⟨y,H2,I2,r2,q2⟩=>?_));refine LZ (L4 (LZ (L3 (aZ (hs pins s2 σ H2 x y v ov iv u _ I2 r1 r2 r q2) λ_ s3 ⟨H3,I3,q3⟩=>?_))));exact wpAny_release ⟨σ,H3,I3,q3⟩
def fN(te:TE)(g:TG):TS:=λD σ H=>te σ H λx H1=>g x σ H1 D.nx
def gX (he:PE X e te)(hg:PG X tg g)(hs:swapsWithSole [tg] e pos.line X.env=pure false:=by rfl)(hw:swappedStores [tg] e X.env=pure none:=by rfl)(h1:(LX [tg] X.env).map (·.2)=[assign tg X.env]:=by rfl):PS X (.Assign [tg] e pos) (fN te g):=by
 intro pins s σ H D I h;refine wpAny_Assign_stores (aZ (he pins s σ H _ I h) λv s1 ⟨x,H1,I1,r1,q1⟩=>?_) hs hw;rw[h1];exact aZ (hg pins s1 σ H1 x v _ I1 r1 q1) λ_ s2 q=>q
def nE (hN:X.N.Nodup)(hi:X.N[i]?=some x)(hx:Loc X.env.scope x)(he:PE X e te)(hs:LV e (some (.Name x pos')) pos.line X.env=pure false:=by rfl)(hf:X.fn x=true\/X.env.scope.names.lookup x=some .local:=by first|exact .inl rfl|exact .inr rfl|assumption):
  PS X (.Assign [.Name x pos'] e pos) (fN te (xl i)):=by
 intro pins s σ H D I h;refine wpAny_Assign_Name (aZ (he pins s σ H _ I h) λv s1 ⟨y,H1,I1,r1,q1⟩=>?_) hs;exact vR I1 hN hi hx r1 (λs2 I2=>⟨_,H1,I2,q1⟩) hf
def nY(i:Nat)(te:TE)(ti:lS):TS:=λD σ H=>∃x,σ[i]?=some (some x)/\te σ H λy H1=>ti x y H1 λz H2=>D.nx (σ.set i (some z)) H2
def DG (hN:X.N.Nodup)(hi:X.N[i]?=some x)(hx:Loc X.env.scope x)(he:PE X e te)(ho:lT X op ti)(hf:X.fn x=true\/X.env.scope.names.lookup x=some .local:=by first|exact .inl rfl|exact .inr rfl|assumption):
  PS X (.AugAssign (.Name x pos') op e pos) (nY i te ti):=by
 intro pins s σ H D I h;obtain⟨v,e1,h⟩:=h;obtain⟨m,hn,hl⟩:=I.loc;have vis:ii X.env.scope x:=by rcases hx with k|k;exact .inl k;exact .inr (.inl k)
 obtain⟨u,r,l⟩:=hl i x v hi e1 vis;refine wpAny_AugAssign_Name ?_;have go:LK (LL X.prog X.w) X.A (eval e X.env) (λw s₂=>LK (LL X.prog X.w) X.A (inplaceOp op u w) (λr s₃=>LK (LL X.prog X.w) X.A (storeName X.env x r) (λ_=>SP X pins D .next) X.xe s₃) X.xe s₂) X.xe s:=by
  refine aZ (he pins s σ H _ I h) λw s1 ⟨y,H1,I1,r1,q1⟩=>?_;refine aZ (ho pins s1 σ H1 v y u w _ I1 r r1 q1) λz s2 ⟨zv,H2,I2,r2,q2⟩=>?_;exact vR I2 hN hi hx r2 (λs3 I3=>⟨_,H2,I3,q2⟩) hf
 rcases l with⟨hk,hm⟩|⟨hk,c,hc,hcell⟩
 .exact LP I.ok.kind hk hn hm go
 .rcases hk with hk|hk
  .exact LQ I.ok.kind hk hc hcell go
  .rcases hx with k|k
   .have:X.env.scope.names.lookup x=some .free:=hk;rw[k]at this;cases this
   .have:X.env.scope.names.lookup x=some .free:=hk;rw[k]at this;cases this
def lH(f:Int->Int->Int):lS:=λx y H Q=>∃i j,x=.int i/\y=.int j/\Q (.int (f i j)) H
def DF:lT X .Add (lH λi j=>i+j):=by
 intro pins s σ H x y v u Q I r1 r2 h;obtain⟨i,j,e1,e2,q⟩:=h;subst e1;subst e2;obtain⟨t,rfl⟩:=r1;obtain⟨t',rfl⟩:=r2;exact iadd_int ⟨.int _,H,I.tok _,⟨_,rfl⟩,q⟩
def DE:lT X .Sub (lH λi j=>i-j):=by
 intro pins s σ H x y v u Q I r1 r2 h;obtain⟨i,j,e1,e2,q⟩:=h;subst e1;subst e2;obtain⟨t,rfl⟩:=r1;obtain⟨t',rfl⟩:=r2;exact isub_int ⟨.int _,H,I.tok _,⟨_,rfl⟩,q⟩
end
section
variable{X:Cx}{pos:Pos}
def t5(c:TT)(tb:TS):TS:=λD σ H=>∃W:Nat->St->Hp->Prop,(∃m,W m σ H)/\∀m σ H,W m σ H ->
 c σ H λb H1=>if b=true then ∃N:St->Hp->Prop,(∀σ' H',N σ' H'->∃m',m'<m/\W m' σ' H')/\tb {D with nx:=N,ct:=N,bk:=D.nx} σ H1 else D.nx σ H1
set_option tactic.hygienic true in
def HH (hp:PassesOwn (LL X.prog X.w) X.A X.env X.xe)(hc:PT X c tc)(hb:cv X body tb):PS X (.While c body [] pos) (t5 tc tb):=by
 intro pins s σ H D I h;obtain⟨W,⟨m0,w0⟩,turn⟩:=h;refine wpAny_While (codeAny_whileLoop (λn s'=>∃σ' H',Inv X pins σ' H' s'/\W n σ' H') ?_ m0 ⟨σ,H,I,w0⟩);rintro n s1 ⟨σ1,H1,I1,w1⟩;refine L5 hp (aZ (hc pins s1 σ1 H1 _ I1 (turn n σ1 H1 w1)) λb s2 ⟨H2,I2,q2⟩=>?_);cases b with
 |true=>
  obtain⟨N,hN,q2⟩:=q2;rw[M6 rfl];refine L5 hp (aZ (hb pins s2 σ1 H2 _ I2 q2) λf s3 q3=>?_);cases f with
  |next=>
   obtain⟨σ3,H3,I3,n3⟩:=q3;obtain⟨m',hm,w3⟩:=hN σ3 H3 n3;exact⟨m',hm,σ3,H3,I3,w3⟩
  |cont=>
   obtain⟨σ3,H3,I3,n3⟩:=q3;obtain⟨m',hm,w3⟩:=hN σ3 H3 n3;exact⟨m',hm,σ3,H3,I3,w3⟩
  |brk=>exact q3
  |ret v=>exact q3
 |false=>
  rw[M7 QP];exact LS ⟨σ1,H2,I2,q2⟩
end
set_option genInjectivity false in
structure It where
 go:Nat->Hp->Prop
 yld:Nat->Hp->V->Hp->Prop
 stop:Nat->Hp->Prop
def jb(X:Cx)(pins:List (Addr×Obj))(H:Hp)(b:Addr):Prop:=
 H b=none/\b≠X.env.locals/\b∉X.fs/\(b∈X.ex\/X.s₀.heap.objs.size<=b)/\(∀x c,X.env.cells.lookup x=some c->c≠b)/\∀p∈X.pn++pins,p.1≠b
def Inv.fpOk (I:Inv X pins σ H s)(hb:s.heap.objs.size<=b)(hn:H' b=none):jb X pins H' b:=by
 refine⟨hn,WK (Qe I.lt hb),I.nofs hb,.inr (Qr I.sz hb),λx c e z=>?_,λp hp z=>?_⟩
 .obtain ⟨v,q⟩:=I.cell x c e;exact M8 (Qe q.lt (by rw[z];exact hb)) (Q8 _)
 .exact M8 (Qe (Qk (I.pin p hp).1) (by rw[z];exact hb)) (Q8 _)
structure dz(P:Lr)(w:Ls)(K:Qb)(tg:Expr)(J:It)(fp:List Addr)(it:Addr)(tn:Nat->Ly->Prop):Prop where
 mem:it∈fp
 obj:∀i h,tn i h->∀b∈fp,∃o,h.get? b=some o/\∀v,o.data≠.cell v
 keep:∀i h h',tn i h->(∀b∈fp,∀o,h.get? b=some o->h'.get? b=some o)->tn i h'
 item:∀(X:Cx),X.prog=P->X.w=w->X.K=K->X.calm=true->∀(i:Nat) (pins:List (Addr×Obj)) (s:Shared) (σ:St) (H:Hp) (E:Value->Shared->Prop),Inv X pins σ H s->(∀b∈fp,jb X pins H b)->tn i s.heap->J.go i H ->
  LK (LL P w) X.A (pyNext (.ref it)) (λr s1=>∃u,r=some u /\
   LK (LL P w) X.A (L6 tg (.ref it) u) (λ_ s2=>∃x H',Inv X pins σ H' s2/\RelV x u/\J.yld i H x H'/\tn (i+1) s2.heap/\∀b∈fp,H' b=none) E s1) E s
 done:∀(X:Cx),X.prog=P->X.w=w->X.K=K->X.calm=true->∀(i:Nat) (pins:List (Addr×Obj)) (s:Shared) (σ:St) (H:Hp) (E:Value->Shared->Prop),Inv X pins σ H s->(∀b∈fp,jb X pins H b)->tn i s.heap->J.stop i H ->
  LK (LL P w) X.A (pyNext (.ref it)) (λr s1=>r=none/\Inv X pins σ H s1) E s
 self:∀(A:LG) (i:Nat) (s:Shared) (Q:Value->Shared->Prop) (E:Value->Shared->Prop),tn i s.heap->Q (.ref it) s->LK (LL P w) A (pyIter (.ref it)) Q E s
abbrev TI:=St->Hp->(It->Hp->Prop)->Prop
def Bt(X:Cx)(pins:List (Addr×Obj))(σ:St)(tg:Expr)(R:It->Hp->Prop)(itv:Value)(s2:Shared):Prop:=
 ∃(it:Addr) (fp:List Addr) (tn:Nat->Ly->Prop) (J:It) (H':Hp),itv=.ref it/\Inv X pins σ H' s2/\dz X.prog X.w X.K tg J fp it tn/\tn 0 s2.heap/\(∀b∈fp,jb X pins H' b)/\R J H'
def PI(X:Cx)(tg iter:Expr)(wi:TI):Prop:=
 ∀(pins:List (Addr×Obj)) (s:Shared) (σ:St) (H:Hp) (R:It->Hp->Prop),Inv X pins σ H s->wi σ H R ->
  LK (LL X.prog X.w) X.A (eval iter X.env) (λv s1=>LK (LL X.prog X.w) X.A (pyIter v) (Bt X pins σ tg R) X.xe s1) X.xe s
def lp (ho:s.heap.get? it=some o)(hc:o.cls=.type n)(hd:o.data=.fields vs)(hn:["enumerate","zip","dict_itemiterator","dict_reverseitemiterator","odict_iterator","itertools.zip_longest","itertools.pairwise"].contains n=false)(hQ:Q () s):LK M A (L6 tg (.ref it) u) Q E s:=by
 unfold L6;cases tg<;>first
  |exact L7 hQ
  | (cases u <;> first
    |exact L7 hQ
    | (refine LZ (wpAny_load ho ?_)
       rw[hc,hd];show LK M A (if(["enumerate","zip","dict_itemiterator","dict_reverseitemiterator","odict_iterator","itertools.zip_longest","itertools.pairwise"].contains n&&vs[0]?==some (rawInt _))=true then _ else _) Q E s;rw[M7 (by intro h;rw[hn,Bool.false_and]at h;cases h)];exact L7 hQ))
def rH(K:Qb)(a:Addr):It:=
 ⟨λi H=>∃xs x,bn K H a xs/\xs[i]?=some x,λi H x H'=>H'=H/\∀xs,bn K H a xs->xs[i]?=some x,λi H=>∃xs,bn K H a xs/\xs.length<=i⟩
def Bu(K:Qb)(a:Addr):It:=
 ⟨λi H=>∃xs x,cf K H a xs/\xs[i]?=some x,λi H x H'=>H'=H/\∀xs,cf K H a xs->xs[i]?=some x,λi H=>∃xs,cf K H a xs/\xs.length<=i⟩
def iV(lo:Int)(n:Nat):It:=⟨λi _=>i<n,λi H x H'=>H'=H/\x=.int (lo+i),λi _=>n<=i⟩
def Ip {K:Qb}(a it:Addr):dz P w K tg (rH K a) [it] it (λi h=>h.IsListIter it a i) where
 mem:=by simp
 obj:=λi h st b hb=>by
  have e:b=it:=by simpa using hb
  subst e;obtain⟨o,e,c,d⟩:=st;exact⟨o,e,λv z=>by rw[d]at z;cases z⟩
 keep:=λi h h' st k=>st.at λo e=>k it (by simp) o e
 item:=by
  intro X hP hw hK hc i pins s σ H E I hf st hg;subst hP hw hK;obtain⟨xs,x,hq,hx⟩:=hg;obtain⟨its,rv,p,hz⟩:=I.list hq;obtain⟨u,hu,ru⟩:=rv.get hx;obtain⟨f0,f1,f2,f3,f4,f5⟩:=hf it (by simp);refine L8 st p.isList (x:=u) (by simpa using hu) λh' st' sb=>?_;have I1:Inv X pins σ H {s with heap:=h' }:=I.turned (t':=s.toks) (λb o hb e=>(sb.2 b hb).trans e) f0 f1 f3 f4 f5;obtain⟨o,e,c,d⟩:=id st';exact⟨u,rfl,lp (s:={s with heap:=h' }) e c d (by decide) ⟨x,H,I1,ru,⟨rfl,λys hy=>by rw[I.list_inj hy hq];exact hx⟩,st',λb hb=>(hf b hb).1⟩⟩
 done:=by
  intro X hP hw hK hc i pins s σ H E I hf st hg;subst hP hw hK;obtain⟨xs,hq,hx⟩:=hg;obtain⟨its,rv,p,hz⟩:=I.list hq;obtain⟨f0,f1,f2,f3,f4,f5⟩:=hf it (by simp);have hl:=rv.length;exact L9 (I.ok.hd hc) st p.isList (by simp;lia) λh' eb=>⟨rfl,I.turned (t':=s.toks) (λb o hb e=>eb b o hb e) f0 f1 f3 f4 f5⟩
 self:=λ_ _ _ _ _ st h=>wpAny_pyIter_listiter st h
def Ja {K:Qb}(a it:Addr):dz P w K tg (Bu K a) [it] it (λi h=>h.IsTupleIter it a i) where
 mem:=by simp
 obj:=λi h st b hb=>by
  have e:b=it:=by simpa using hb
  subst e;obtain⟨o,e,c,d⟩:=st;exact⟨o,e,λv z=>by rw[d]at z;cases z⟩
 keep:=λi h h' st k=>st.at λo e=>k it (by simp) o e
 item:=by
  intro X hP hw hK hc i pins s σ H E I hf st hg;subst hP hw hK;obtain⟨xs,x,hq,hx⟩:=hg;obtain⟨its,rv,p,hz⟩:=I.tuple hq;obtain⟨u,hu,ru⟩:=rv.get hx;obtain⟨f0,f1,f2,f3,f4,f5⟩:=hf it (by simp);refine wpAny_pyNext_tuple_item st (show s.heap.IsTuple a its.toArray from p) (x:=u) (by simpa using hu) λh' st' sb=>?_;have I1:Inv X pins σ H {s with heap:=h' }:=I.turned (t':=s.toks) (λb o hb e=>(sb.2 b hb).trans e) f0 f1 f3 f4 f5;obtain⟨o,e,c,d⟩:=id st';exact⟨u,rfl,lp (s:={s with heap:=h' }) e c d (by decide) ⟨x,H,I1,ru,⟨rfl,λys hy=>by rw[I.tuple_inj hy hq];exact hx⟩,st',λb hb=>(hf b hb).1⟩⟩
 done:=by
  intro X hP hw hK hc i pins s σ H E I hf st hg;subst hP hw hK;obtain⟨xs,hq,hx⟩:=hg;obtain⟨its,rv,p,hz⟩:=I.tuple hq;obtain⟨f0,f1,f2,f3,f4,f5⟩:=hf it (by simp);have hl:=rv.length;exact wpAny_pyNext_tuple_end (I.ok.hd hc) st (show s.heap.IsTuple a its.toArray from p) (by simp;lia) λh' eb=>⟨rfl,I.turned (t':=s.toks) (λb o hb e=>eb b o hb e) f0 f1 f3 f4 f5⟩
 self:=λ_ _ _ _ _ st h=>wpAny_pyIter_tupleiter st h
def Jh {K:Qb}(it:Addr)(lo:Int)(n:Nat):dz P w K tg (iV lo n) [it] it (λi h=>IsRangeIter h it (lo+(i:Nat)*1) ((n:Int)-(i:Nat)) 1) where
 mem:=by simp
 obj:=λi h st b hb=>by
  have e:b=it:=by simpa using hb
  subst e;exact⟨_,st,λv z=>by
   have z':Data.fields _=Data.cell v:=z;cases z'⟩
 keep:=λi h h' st k=>k it (by simp) _ st
 item:=by
  intro X hP hw hK hc i pins s σ H E I hf st hg;subst hP hw hK;obtain⟨f0,f1,f2,f3,f4,f5⟩:=hf it (by simp);have W:=Walks.range (prog:=X.prog) (w:=X.w) (I.ok.hd hc) it lo 1 n;refine W.item i s _ _ hg st λv h' tk hv st' kk=>?_;obtain⟨t,rfl⟩:=hv;have I1:Inv X pins σ H {s with heap:=h',toks:=tk}:=I.turned (λb o hb e=>kk b o (by simpa using hb) e) f0 f1 f3 f4 f5;refine⟨_,rfl,lp (s:={s with heap:=h',toks:=tk}) (n:="range_iterator") st' rfl rfl (by decide) ⟨.int (lo+i),H,I1,⟨t,?_⟩,⟨rfl,rfl⟩,st',λb hb=>(hf b hb).1⟩⟩;rw[Int.mul_one]
 done:=by
  intro X hP hw hK hc i pins s σ H E I hf st hg;subst hP hw hK;obtain⟨f0,f1,f2,f3,f4,f5⟩:=hf it (by simp);exact wpAny_pyNext_range_end (I.ok.hd hc) st (by have:n<=i:=hg;lia) λh' eb=>⟨rfl,I.turned (t':=s.toks) (λb o hb e=>eb b o hb e) f0 f1 f3 f4 f5⟩
 self:=λ_ _ _ _ _ st h=>wpAny_pyIter_rangeiter st h
section
variable{X:Cx}{tg:Expr}
def Ci(K:Qb)(tl:TE):TI:=λσ H R=>tl σ H λx H1=>∃a,x=.ref a/\(∃xs,bn K H1 a xs)/\R (rH K a) H1
def pj(K:Qb)(tl:TE):TI:=λσ H R=>tl σ H λx H1=>∃a,x=.ref a/\(∃xs,cf K H1 a xs)/\R (Bu K a) H1
def Fa (hl:PE X l tl):PI X tg l (Ci X.K tl):=by
 intro pins s σ H R I h;refine aZ (hl pins s σ H _ I h) λv s1 ⟨x,H1,I1,r1,q1⟩=>?_;obtain⟨a,e,⟨xs,hq⟩,q⟩:=q1;subst e;cases r1;obtain⟨its,rv,p,hz⟩:=I1.list hq;refine wpAny_pyIter_list p.isList ?_;refine⟨s1.heap.objs.size,[s1.heap.objs.size],_,_,H1,rfl,I1.kept (t':=s1.toks) λb o e=>Qw _ e,Ip a _,⟨_,QS _ rfl,rfl,rfl⟩,λb hb=>?_,q⟩;have e:b=s1.heap.objs.size:=by simpa using hb
 subst e;exact I1.fpOk (Qj _) (I1.hok.fresh (Qj _))
def DD (hl:PE X l tl):PI X tg l (pj X.K tl):=by
 intro pins s σ H R I h;refine aZ (hl pins s σ H _ I h) λv s1 ⟨x,H1,I1,r1,q1⟩=>?_;obtain⟨a,e,⟨xs,hq⟩,q⟩:=q1;subst e;cases r1;obtain⟨its,rv,p,hz⟩:=I1.tuple hq;refine wpAny_pyIter_tuple (show s1.heap.IsTuple a its.toArray from p) ?_;refine⟨s1.heap.objs.size,[s1.heap.objs.size],_,_,H1,rfl,I1.kept (t':=s1.toks) λb o e=>Qw _ e,Ja a _,⟨_,QS _ rfl,rfl,rfl⟩,λb hb=>?_,q⟩;have e:b=s1.heap.objs.size:=by simpa using hb
 subst e;exact I1.fpOk (Qj _) (I1.hok.fresh (Qj _))
def HG {lo:Int}(I:Inv X pins σ H s)(h1:-(2^62)<=lo)(h2:lo<2^62)(h3:-(2^62)<=hi)(h4:hi<2^62)(q:R (iV lo (hi-lo).toNat) H):LK (LL X.prog X.w) X.A (pyIter (.ref s.heap.objs.size)) (Bt X pins σ tg R) E {s with heap:=s.heap.push {cls:=.type "range",data:=.fields #[.int lo t,.int hi u,.int 1 v]},toks:=tk}:=by
 refine wpAny_pyIter_range (IsRange.new ..) (small_one h1 h2 h3 h4) ?_;have I1:Inv X pins σ H {s with heap:=s.heap.push {cls:=.type "range",data:=.fields #[.int lo t,.int hi u,.int 1 v]},toks:=tk}:=I.kept λb o e=>Qw _ e;refine⟨(s.heap.push {cls:=.type "range",data:=.fields #[.int lo t,.int hi u,.int 1 v]}).objs.size,[(s.heap.push {cls:=.type "range",data:=.fields #[.int lo t,.int hi u,.int 1 v]}).objs.size],_,_,H,rfl,
  I1.kept (t':=tk) λb o e=>Qw _ e,Jh _ lo (hi-lo).toNat,?_,λb hb=>?_,q⟩
 .have e1:lo+((0:Nat):Int)*1=lo:=by simp
  have e2:(((hi-lo).toNat:Nat):Int)-((0:Nat):Int)=Builtin.Range.rangeSize lo hi 1:=by rw[rangeSize_one];split<;>lia
  show IsRangeIter _ _ (lo+((0:Nat):Int)*1) ((((hi-lo).toNat:Nat):Int)-((0:Nat):Int)) 1;rw[e1,e2];exact QS _ rfl
 .have e:b=(s.heap.push {cls:=.type "range",data:=.fields #[.int lo t,.int hi u,.int 1 v]}).objs.size:=by simpa using hb
  subst e;exact I1.fpOk (Qj _) (I1.hok.fresh (Qj _))
def Cg(ta:TA):TI:=λσ H R=>ta σ H λvs H1=>∃j:Int,vs=[.int j]/\-(2^62)<=j/\j<2^62/\R (iV 0 j.toNat) H1
def Io (hg:Gl X "range")(hm:X.mg "range"=none)(ha:PA X [a] ta)(hs:LN [a] X.env=[(false,eval a X.env)]:=by rfl):PI X tg (.Call (.Name "range" p) [a] [] pos) (Cg ta):=by
 intro pins s σ H R I h;refine Call_ (wQ I hg hm boot_range (PyProof.Rows.callWith_type1 (aZ (ha pos pins s σ H _ I h) λus s1 ⟨vs,H1,I1,r1,q1⟩=>?_) hs rfl));obtain⟨j,e,q1,q2,q⟩:=q1;subst e;cases r1 with
 |cons r rr=>
  cases rr;obtain⟨t,rfl⟩:=r;exact call_range_1 (HG I1 (by lia) (by lia) q1 q2 (by simpa using q))
def ss(wi:TI)(g:TG)(tb:TS):TS:=λD σ H=>wi σ H λJ H1=>∃W:Nat->Nat->St->Hp->Prop,(∃m,W 0 m σ H1)/\∀i m σ H,W i m σ H ->
 (J.stop i H/\D.nx σ H)\/(J.go i H/\∃N:St->Hp->Prop,(∀σ' H',N σ' H'->∃m',m'<m/\W (i+1) m' σ' H')/\∀x H',J.yld i H x H'->g x σ H' λσ2 H2=>tb {D with nx:=N,ct:=N,bk:=D.nx} σ2 H2)
def jr(fp:List Addr)(h:Ly):List (Addr×Obj):=fp.filterMap λb=>(h.get? b).map λo=>(b,o)
def wC (hb:b∈fp)(e:h.get? b=some o):(b,o)∈jr fp h:=WM.mpr ⟨b,hb,by rw[e];rfl⟩
def Im (hp:p∈jr fp h):p.1∈fp/\h.get? p.1=some p.2:=by
 obtain⟨b,hb,e⟩:=WM.mp hp;cases q:h.get? b with
 |none=>rw[q]at e;cases e
 |some o=>
  rw[q]at e;have e':(b,o)=p:=Option.some.inj e;subst e';exact⟨hb,q⟩
def Inv.pinned{pins:List (Addr×Obj)}{σ:St}{H:Hp}{s:Shared}{fp:List Addr}(I:Inv X pins σ H s)(hf:∀b∈fp,jb X pins H b)(ho:∀b∈fp,∃o,s.heap.get? b=some o/\∀v,o.data≠.cell v):Inv X (pins++jr fp s.heap) σ H s:=
 I.pins_of λp hp=>(QL.mp hp).elim (λz=>I.pin p (Qs _ z)) λz=>by
  obtain⟨hb,e⟩:=Im z;obtain⟨f0,f1,f2,_⟩:=hf p.1 hb;obtain⟨o,e',d⟩:=ho p.1 hb;rw[e]at e';cases e';exact⟨e,f0,f1,f2,d⟩
def Inv.unpinned{pins pl:List (Addr×Obj)}{σ:St}{H:Hp}{s:Shared}(I:Inv X (pins++pl) σ H s):Inv X pins σ H s:=I.pins_of λp hp=>I.pin p (Qs _ (QV _ hp))
def tZ (hp:PassesOwn (LL X.prog X.w) X.A X.env X.xe)(hc:X.calm=true)(hi:PI X tg iter wi)(hg:PG X tg g)(hb:cv X body tb)(hs:∀x,Ma iter X.env x=pure x:=by intro _;rfl):PS X (.For tg iter body [] pos) (ss wi g tb):=by
 intro pins s σ H D I h;refine wpAny_For (aZ (hi pins s σ H _ I h) λv s1 h1=>aZ h1 λitv s2 h2=>?_) hs;obtain⟨it,fp,tn,J,H2,e,I2,T,du,f2,W,⟨m0,w0⟩,turn⟩:=h2;subst e
 -- what stays true of the iterator's objects through the loop
 have stat:∀{H':Hp},(∀b∈fp,H' b=none)->∀b∈fp,jb X pins H' b:=λhn b hb=>⟨hn b hb,(f2 b hb).2⟩;refine codeAny_forLoop_any (λn s'=>∃i σ' H',Inv X pins σ' H' s'/\tn i s'.heap/\(∀b∈fp,H' b=none)/\W i n σ' H') ?_ m0 ⟨0,σ,H2,I2,du,λb hb=>(f2 b hb).1,w0⟩;rintro n s3 ⟨i,σ3,H3,I3,dJ,fr3,w3⟩;rcases turn i n σ3 H3 w3 with⟨stop,qn⟩|⟨go,N,hN,step⟩
 .refine L5 hp (aZ (T.done X rfl rfl rfl hc i pins s3 σ3 H3 X.xe I3 (stat fr3) dJ stop) λr s4 ⟨hr,I4⟩=>?_);subst hr;exact LS ⟨σ3,H3,I4,qn⟩
 .refine L5 hp (aZ (T.item X rfl rfl rfl hc i pins s3 σ3 H3 X.xe I3 (stat fr3) dJ go) λr s4 ⟨u,hr,h4⟩=>?_);subst hr;refine L5 hp (aZ h4 λ_ s5 ⟨x,H5,I5,r5,y5,st5,fr5⟩=>?_);have I5':=I5.pinned (stat fr5) (T.obj _ _ st5);refine L5 hp (aZ (hg _ s5 σ3 H5 x u _ I5' r5 (step x H5 y5)) λ_ s6 ⟨σ6,H6,I6,q6⟩=>?_);refine L5 hp (aZ (hb _ s6 σ6 H6 _ I6 q6) λf s7 q7=>?_);have again:∀{σ7:St}{H7:Hp},Inv X (pins++jr fp s5.heap) σ7 H7 s7->N σ7 H7->∃m,m<n/\∃i σ' H',Inv X pins σ' H' s7/\tn i s7.heap/\(∀b∈fp,H' b=none)/\W i m σ' H':=λ{σ7 H7} I7 n7=>by
   obtain⟨m',hm,w7⟩:=hN σ7 H7 n7;refine⟨m',hm,i+1,σ7,H7,I7.unpinned,T.keep _ _ _ st5 λb hb o e=>(I7.pin (b,o) (Qs _ (Qs _ (wC hb e)))).1,λb hb=>?_,w7⟩;obtain⟨o,e,d⟩:=T.obj _ _ st5 b hb;exact(I7.pin (b,o) (Qs _ (Qs _ (wC hb e)))).2.1
  cases f with
  |next=>obtain⟨σ7,H7,I7,n7⟩:=q7;exact again I7 n7
  |cont=>obtain⟨σ7,H7,I7,n7⟩:=q7;exact again I7 n7
  |brk=>obtain⟨σ7,H7,I7,q7⟩:=q7;exact⟨σ7,H7,I7.unpinned,q7⟩
  |ret v=>obtain⟨x7,σ7,H7,I7,r7,q7⟩:=q7;exact⟨x7,σ7,H7,I7.unpinned,r7,q7⟩
end
abbrev R2:=V->V->Hp->VK->Prop
def cq(X:Cx)(f:Value->Value->Sem Value)(r:R2):Prop:=
 ∀(pins:List (Addr×Obj)) (s:Shared) (σ:St) (H:Hp) (x y:V) (v u:Value) (Q:VK),Inv X pins σ H s->RelV x v->RelV y u->r x y H Q ->
  LK (LL X.prog X.w) X.A (f v u) (EP X pins σ Q) X.xe s
def rD(X:Cx)(f:Value->Sem Value)(r:V->Hp->VK->Prop):Prop:=
 ∀(pins:List (Addr×Obj)) (s:Shared) (σ:St) (H:Hp) (x:V) (v:Value) (Q:VK),Inv X pins σ H s->RelV x v->r x H Q ->
  LK (LL X.prog X.w) X.A (f v) (EP X pins σ Q) X.xe s
def bK(X:Cx)(f:Value)(r:List V->Hp->VK->Prop):Prop:=
 ∀(pins:List (Addr×Obj)) (s:Shared) (σ:St) (H:Hp) (xs:List V) (us:List Value) (Q:VK),Inv X pins σ H s->ay xs us->r xs H Q ->
  LK (LL X.prog X.w) X.A (call f us) (EP X pins σ Q) X.xe s
def eL(r:R2)(ta tb:TE):TE:=λσ H Q=>ta σ H λx H1=>tb σ H1 λy H2=>r x y H2 Q
def Jj(r:V->Hp->VK->Prop)(ta:TE):TE:=λσ H Q=>ta σ H λx H1=>r x H1 Q
def rI(C:Int->Int->Prop)(g:Int->Int->V):R2:=λx y H Q=>∃i j,x=.int i/\y=.int j/\C i j/\Q (g i j) H
def eE(g:Int->Int->V):R2:=λx y H Q=>∃i j,x=.int i/\y=.int j/\Q (g i j) H
def rU(g:Int->V):V->Hp->VK->Prop:=λx H Q=>∃i,x=.int i/\Q (g i) H
section
variable{X:Cx}{a b:Expr}{ta tb:TE}{pos:Pos}
def mB (ha:PE X a ta)(hb:PE X b tb){R:V->V->Hp->Prop}(I:Inv X pins σ H s)(h:ta σ H λx H1=>tb σ H1 λy H2=>R x y H2){f:Value->Value->Sem Value}(hf:∀v u s2 x y H2,Inv X pins σ H2 s2->RelV x v->RelV y u->R x y H2->LK (LL X.prog X.w) X.A (f v u) Q X.xe s2):
  LK (LL X.prog X.w) X.A (eval a X.env) (λv s₁=>LK (LL X.prog X.w) X.A (eval b X.env) (λu s₂=>LK (LL X.prog X.w) X.A (f v u) Q X.xe s₂) X.xe s₁) X.xe s:=by
 refine aZ (ha pins s σ H _ I h) λv s1 ⟨x,H1,I1,r1,q1⟩=>?_;refine aZ (hb pins s1 σ H1 _ I1 q1) λu s2 ⟨y,H2,I2,r2,q2⟩=>?_;exact hf v u s2 x y H2 I2 r1 r2 q2
def Cf (ho:cq X (Mb op) r)(ha:PE X a ta)(hb:PE X b tb):PE X (.BinOp a op b pos) (eL r ta tb):=by
 intro pins s σ H Q I h;exact wpAny_BinOp (mB ha hb I h λv u s2 x y H2 I2 rx ry q=>ho pins s2 σ H2 x y v u Q I2 rx ry q)
def Ce (ho:rD X (unaryOp op) r)(ha:PE X a ta):PE X (.UnaryOp op a pos) (Jj r ta):=by
 intro pins s σ H Q I h;exact UnaryOp_ (aZ (ha pins s σ H _ I h) λv s1 ⟨x,H1,I1,r1,q1⟩=>ho pins s1 σ H1 x v Q I1 r1 q1)
def iM {g:Int->Int->Int}(rule:∀(i j:Int) (t u:Tok) (s:Shared) (Q:Value->Shared->Prop) (E:Value->Shared->Prop),C i j->Q (.int (g i j) s.toks) {s with toks:=s.toks+1}->LK (LL X.prog X.w) X.A (f (.int i t) (.int j u)) Q E s):
  cq X f (rI C λi j=>.int (g i j)):=by
 intro pins s σ H x y v u Q I rx ry h;obtain⟨i,j,rfl,rfl,hc,q⟩:=h;obtain⟨t,rfl⟩:=rx;obtain⟨t',rfl⟩:=ry;exact rule i j t t' s _ _ hc ⟨.int (g i j),H,I.tok _,⟨_,rfl⟩,q⟩
def mw {g:Int->Int->Int}(rule:∀(i j:Int) (t u:Tok) (s:Shared) (Q:Value->Shared->Prop) (E:Value->Shared->Prop),Q (.int (g i j) s.toks) {s with toks:=s.toks+1}->LK (LL X.prog X.w) X.A (f (.int i t) (.int j u)) Q E s):
  cq X f (eE λi j=>.int (g i j)):=by
 intro pins s σ H x y v u Q I rx ry h;obtain⟨i,j,rfl,rfl,q⟩:=h;obtain⟨t,rfl⟩:=rx;obtain⟨t',rfl⟩:=ry;exact rule i j t t' s _ _ ⟨.int (g i j),H,I.tok _,⟨_,rfl⟩,q⟩
def sr {g:Int->Int->Bool}(rule:∀(i j:Int) (t u:Tok) (s:Shared) (Q:Value->Shared->Prop) (E:Value->Shared->Prop),Q (.bool (g i j)) s->LK (LL X.prog X.w) X.A (f (.int i t) (.int j u)) Q E s):
  cq X f (eE λi j=>.bl (g i j)):=by
 intro pins s σ H x y v u Q I rx ry h;obtain⟨i,j,rfl,rfl,q⟩:=h;obtain⟨t,rfl⟩:=rx;obtain⟨t',rfl⟩:=ry;exact rule i j t t' s _ _ ⟨.bl (g i j),H,I,rfl,q⟩
def sk(i j:Int):Prop:=0<j/\j<1073741824
def si(i j:Int):Prop:=0<=j/\j<=1000000/\i.natAbs<2^64
def eX(i j:Int):Prop:=(-(2^64)<i/\i<2^64)\/(-(2^64)<j/\j<2^64)
def eX.ok (h:eX i j):IntMulOk i j:=by
 rcases h with⟨h1,h2⟩|⟨h1,h2⟩
 .exact .of_left (intBits_le_64 h1 h2)
 .exact .of_right (intBits_le_64 h1 h2)
def Jg(k:Nat):(0:Int)<=2^k:=by
 rw[two_pow_cast];exact Int.natCast_nonneg _
def fA:cq X (Mb .Add) (eE λi j=>.int (i+j)):=mw λ_ _ _ _ _ _ _ q=>add_int q
def DC:cq X (Mb .Sub) (eE λi j=>.int (i-j)):=mw λ_ _ _ _ _ _ _ q=>sub_int q
def fx:cq X (Mb .Mult) (rI eX λi j=>.int (i*j)):=iM λ_ _ _ _ _ _ _ hc q=>mul_int q hc.ok
def E9:cq X (Mb .FloorDiv) (rI sk λi j=>.int (i/j)):=iM λi j _ _ _ _ _ hc q=>by
 have h1:(0:Int)<j:=hc.1;have h2:j<1073741824:=hc.2;exact floordiv_int (by lia) (by rw[Vw i (by lia)];exact q) (.inl (PyProof.noPylong_small (by lia)))
def DB:cq X (Mb .Mod) (rI (λ_ j=>0<j) λi j=>.int (i%j)):=iM λi j _ _ _ _ _ hc q=>by
 have h1:(0:Int)<j:=hc;exact mod_int' (by lia) (by rw[Int.fmod_eq_emod_of_nonneg i (by lia)];exact q)
def DA:cq X (Mb .Pow) (rI si λi j=>.int (i^j.toNat)):=iM λ_ _ _ _ _ _ _ hc q=>pow_int_small hc.1 hc.2.1 hc.2.2 q
def Dz:cq X (Mb .RShift) (rI (λ_ j=>0<=j) λi j=>.int (i/2^j.toNat)):=iM λi j _ _ _ _ _ hc q=>
 rshift_int hc (by rw[Vw i (Jg _)];exact q)
def Dy:cq X (Mb .BitAnd) (eE λi j=>.int (Builtin.bitAnd i j)):=mw λ_ _ _ _ _ _ _ q=>and_int q
def Ji {g:Int->Int}(rule:∀(i:Int) (t:Tok) (s:Shared) (Q:Value->Shared->Prop) (E:Value->Shared->Prop),Q (.int (g i) s.toks) {s with toks:=s.toks+1}->LK (LL X.prog X.w) X.A (f (.int i t)) Q E s):
  rD X f (rU λi=>.int (g i)):=by
 intro pins s σ H x v Q I rx h;obtain⟨i,rfl,q⟩:=h;obtain⟨t,rfl⟩:=rx;exact rule i t s _ _ ⟨.int (g i),H,I.tok _,⟨_,rfl⟩,q⟩
def Dx:rD X (unaryOp .USub) (rU λi=>.int (-i)):=Ji λ_ _ _ _ _ q=>neg_int q
end
section
variable{X:Cx}{a b c:Expr}{ta tb tc:TE}{pos:Pos}
def tY (I:Inv X pins σ H s)(q:Q (.bl k) H)(e:k=k'):EP X pins σ Q (.bool k') s:=by
 subst e;exact⟨.bl k,H,I,rfl,q⟩
def Cd:cq X (Mc .Lt) (eE λi j=>.bl (decide (i<j))):=sr λ_ _ _ _ _ _ _ q=>lt_int q
def Cc:cq X (Mc .LtE) (eE λi j=>.bl (decide (i<=j))):=sr λ_ _ _ _ _ _ _ q=>le_int q
def Dw:cq X (Mc .Is) (λx y H Q=>y=.non/\Q (.bl (decide (x=.non))) H):=by
 intro pins s σ H x y v u Q I rx ry h;obtain⟨rfl,q⟩:=h;cases ry;refine is_none_gen (tY I q ?_);cases x<;>first
  |(cases rx;rfl)
  |(obtain⟨t,rfl⟩:=rx;rfl)
def E8:cq X (Mc .IsNot) (λx y H Q=>y=.non/\Q (.bl (! decide (x=.non))) H):=by
 intro pins s σ H x y v u Q I rx ry h;obtain⟨rfl,q⟩:=h;cases ry;refine isnot_none_gen (tY I q ?_);cases x<;>first
  |(cases rx;rfl)
  |(obtain⟨t,rfl⟩:=rx;rfl)
def cq.or{f:Value->Value->Sem Value}{r r':R2}(h:cq X f r)(h':cq X f r'):cq X f (λx y H Q=>r x y H Q\/r' x y H Q):=by
 intro pins s σ H x y v u Q I rx ry q;rcases q with q|q
 .exact h pins s σ H x y v u Q I rx ry q
 .exact h' pins s σ H x y v u Q I rx ry q
def E7 (ho:cq X (Mc op) r)(ha:PE X a ta)(hb:PE X b tb)(hm:Mf op b=false):PE X (.Compare a [op] [b] pos) (eL r ta tb):=by
 intro pins s σ H Q I h;exact wpAny_Compare1 (mB ha hb I h λv u s2 x y H2 I2 rx ry q=>ho pins s2 σ H2 x y v u Q I2 rx ry q) hm
def ln(t:TE):TT:=λσ H Q=>t σ H λx H'=>∃k,x=.bl k/\Q k H'
def uW (ho:cq X (Mc op) r)(ha:PE X a ta)(hb:PE X b tb)(hm:Mf op b=false):PT X (.Compare a [op] [b] pos) (ln (eL r ta tb)):=by
 intro pins s σ H Q I h;refine wpAny_isTrue_Compare1 (aZ (ha pins s σ H _ I h) λv s1 ⟨x,H1,I1,r1,q1⟩=>aZ (hb pins s1 σ H1 _ I1 q1) λu s2 ⟨y,H2,I2,r2,q2⟩=>
  aZ (ho pins s2 σ H2 x y v u _ I2 r1 r2 q2) λc s3 ⟨z,H3,I3,r3,k,e,q3⟩=>?_) hm
 subst e;cases r3;exact LR ⟨H3,I3,q3⟩
def nH(r r':R2)(ta tb tc:TE):TE:=λσ H Q=>ta σ H λx H1=>tb σ H1 λy H2=>r x y H2 λz H3=>∃k,z=.bl k /\
 (if k=true then tc σ H3 λw' H4=>r' y w' H4 Q else Q (.bl false) H3)
def Ig (ho:cq X (Mc op) r)(ho':cq X (Mc op') r')(ha:PE X a ta)(hb:PE X b tb)(hc:PE X c tc)(hm:lastMarks [op,op'] [b,c]=false:=by with_unfolding_all rfl):PE X (.Compare a [op,op'] [b,c] pos) (nH r r' ta tb tc):=by
 intro pins s σ H Q I h;refine Compare_chain (aZ (ha pins s σ H _ I h) λv s1 ⟨x,H1,I1,r1,q1⟩=>chain_link (aZ (hb pins s1 σ H1 _ I1 q1) λu s2 ⟨y,H2,I2,r2,q2⟩=>
  aZ (ho pins s2 σ H2 x y v u _ I2 r1 r2 q2) λd s3 ⟨z,H3,I3,r3,k,e,q3⟩=>?_)) hm
 subst e;cases r3;refine LR ?_;cases k with
 |false=>exact ite_ff ⟨.bl false,H3,I3,rfl,q3⟩
 |true=>exact ite_tt (chain_last (aZ (hc pins s3 σ H3 _ I3 q3) λw' s4 ⟨z',H4,I4,r4,q4⟩=>ho' pins s4 σ H4 y z' u w' Q I4 r2 r4 q4))
def Ie (ho:cq X (Mc op) r)(ho':cq X (Mc op') r')(ha:PE X a ta)(hb:PE X b tb)(hc:PE X c tc)(hm:lastMarks [op,op'] [b,c]=false:=by with_unfolding_all rfl):PT X (.Compare a [op,op'] [b,c] pos) (ln (nH r r' ta tb tc)):=by
 intro pins s σ H Q I h;refine isTrue_chain (aZ (ha pins s σ H _ I h) λv s1 ⟨x,H1,I1,r1,q1⟩=>test_link (aZ (hb pins s1 σ H1 _ I1 q1) λu s2 ⟨y,H2,I2,r2,q2⟩=>
  aZ (ho pins s2 σ H2 x y v u _ I2 r1 r2 q2) λd s3 ⟨z,H3,I3,r3,k,e,q3⟩=>?_)) hm
 subst e;cases r3;refine LR ?_;cases k with
 |false=>
  obtain⟨k',e',q'⟩:=q3;cases e';exact ite_ff ⟨H3,I3,q'⟩
 |true=>
  refine ite_tt (test_last (aZ (hc pins s3 σ H3 _ I3 q3) λw' s4 ⟨z',H4,I4,r4,q4⟩=>aZ (ho' pins s4 σ H4 y z' u w' _ I4 r2 r4 q4) λd' s5 ⟨z2,H5,I5,r5,k2,e2,q5⟩=>?_));subst e2;cases r5;exact LR ⟨H5,I5,q5⟩
def js:(sizeLine:Nat)<2^63:=by rw[Mg];decide
def qS (r:ay [x] us):∃u,us=[u]/\RelV x u:=by
 cases r with
 |cons r1 r2=>cases r2;exact⟨_,rfl,r1⟩
def mV (r:ay [x,y] us):∃u w',us=[u,w']/\RelV x u/\RelV y w':=by
 cases r with
 |cons r1 r2=>
  cases r2 with
  |cons r3 r4=>cases r4;exact⟨_,_,rfl,r1,r3⟩
def Il(hc:X.calm=true):bK X (.builtin "max") (λxs H Q=>∃i j,xs=[.int i,.int j]/\Q (.int (if j > i then j else i)) H):=by
 intro pins s σ H xs us Q I r h;obtain⟨i,j,rfl,q⟩:=h;obtain⟨u,w',rfl,⟨t,rfl⟩,⟨t',rfl⟩⟩:=mV r;refine max_two_ints (I.ok.hd hc) λh' tk k=>⟨_,H,I.kept k,?_,q⟩;by_cases hj:j > i
 .rw[M6 hj,M6 hj];exact⟨_,rfl⟩
 .rw[M7 hj,M7 hj];exact⟨_,rfl⟩
def Ik(hc:X.calm=true):bK X (.builtin "min") (λxs H Q=>∃i j,xs=[.int i,.int j]/\Q (.int (if j<i then j else i)) H):=by
 intro pins s σ H xs us Q I r h;obtain⟨i,j,rfl,q⟩:=h;obtain⟨u,w',rfl,⟨t,rfl⟩,⟨t',rfl⟩⟩:=mV r;refine min_two_ints (I.ok.hd hc) λh' tk k=>⟨_,H,I.kept k,?_,q⟩;by_cases hj:j<i
 .rw[M6 hj,M6 hj];exact⟨_,rfl⟩
 .rw[M7 hj,M7 hj];exact⟨_,rfl⟩
def Ij:bK X (.type "int") (λxs H Q=>(∃i,xs=[.int i]/\Q (.int i) H)\/∃k,xs=[.bl k]/\Q (.int (if k then 1 else 0)) H):=by
 intro pins s σ H xs us Q I r h;rcases h with⟨i,rfl,q⟩|⟨k,rfl,q⟩
 .obtain ⟨u,rfl,t,rfl⟩:=qS r;exact call_int_int ⟨.int i,H,I,⟨_,rfl⟩,q⟩
 .obtain ⟨u,rfl,r1⟩:=qS r;cases r1;exact call_int_bool ⟨.int (if k then 1 else 0),H,I.tok _,⟨_,rfl⟩,q⟩
end
structure fJ(h:Ly)(x dx C:Addr)(mA:Str->Option Value):Prop where
 obj:h.get? x=some (Vf C dx)
 ns:h.Ns1 dx mA
 ne:dx≠x
set_option tactic.hygienic true in
def Ii {h:Ly}(n:h.Ns1 dx mA):∃od,h.get? dx=some od/\∀name,Vj name od=some (mA name):=by
 obtain⟨o,es,ep,ho,hd,hk,_,hm⟩:=n;refine⟨o,ho,λname=>?_⟩;have e:=hm name;unfold nsFind findBy at e;rw[<-Array.find?_toList]at e;unfold Vj;rw[hd];dsimp only;split
 .rename_i y q;rw[q]at e;exact M9 some e
 .rename_i q;rw[q]at e;have a:es.toList.any (·.refKey)=false:=by
   rw[WQ];intro y hy;obtain⟨z,t,hkey⟩:=hk y (W5.mp hy);simp[DictEntry.refKey,hkey]
  have a':¬es.toList.any (·.refKey)=true:=by rw[a];exact QP
  rw[M7 a'];exact M9 some e
def fJ.look (I:fJ h x dx C mA):∃od,PySem.W.InstAt h x (Vf C dx) C (some od)/\∀name,Vj name od=some (mA name):=
 let⟨od,ho,hl⟩:=Ii I.ns
 ⟨od,⟨I.obj,rfl,rfl,ho⟩,hl⟩
def iW (r:dU (some v) o):∃u,o=some u/\RelV v u:=by
 cases o with
 |none=>exact(show False from r).elim
 |some u=>exact⟨u,rfl,r⟩
section
variable{P:Lr}{w:Ls}{H:Hp}{h:Ly}{a C dx:Addr}{fs:List (Str×V)}
def E6(hok:cg P w H h)(e:H a=some (.ins C dx fs)):∃mA,fJ h a dx C mA/\(∀f,dU (fs.lookup f) (mA f))/\PySem.Within mA (fs.map (·.1))/\fs.length<=1000/\H dx=some (.own a):=by
 obtain⟨d,z,ne,ob,mA,n,r,q⟩:=(show aW P w H h a (.ins C dx fs)from hok a _ e);exact⟨mA,⟨ob,n,ne⟩,r,q,z,d⟩
end
structure rM(K:Qb)(C:Addr):Prop where
 pg:PySem.W.plainGet K C Str.empty=true
 hd:PySem.W.hasDictIn K C=true
 po:PySem.W.plainOver K C=true
 sa:WF K (.ref C) "__setattr__"=some (some (.builtin "object.__setattr__"))
def rM.get {K:Qb}(c:rM K C)(f:Str):PySem.W.plainGet K C f=true:=c.pg
section
variable{X:Cx}{pins:List (Addr×Obj)}{σ:St}{H:Hp}{s:Shared}{A:LG}{E:Value->Shared->Prop}{Q:Value->Shared->Prop}{c:Value}{b:Bool}
inductive cB(K:Qb)(H:Hp):V->Value->Prop where
 |non:cB K H .non (.type "NoneType")
 |bl (x:Bool):cB K H (.bl x) (.type "bool")
 |int (i:Int):cB K H (.int i) (.type "int")
 |str (x:Str):cB K H (.str x) (.type "str")
 |flt (x:UInt64):cB K H (.flt x) (.type "float")
 |lst {a:Addr}{xs:List V}(e:H a=some (.lst xs)):cB K H (.ref a) (.type "list")
 |frz {a:Addr}{o:Obj}{xs:List V}(e:H a=some (.frz o (.lst xs))):cB K H (.ref a) (.type "list")
 |tup {a:Addr}{xs:List V}(e:H a=some (.tup xs)):cB K H (.ref a) (.type "tuple")
 |dK {a:Addr}{kvs:List (bv×V)}(e:H a=some (.dK kvs)):cB K H (.ref a) (.type "dict")
 |dT {a:Addr}{kvs:List (List bv×V)}(e:H a=some (.dT kvs)):cB K H (.ref a) (.type "dict")
 |ins {a C dx:Addr}{fs:List (Str×V)}(e:H a=some (.ins C dx fs)) (cl:rM K C) (ha:WF K (.ref C) "__class__"=some (some (.builtin "object.__class__")))
   (hn:PySem.W.specialIn K (.builtin "object.__class__") "__get__"=some (some (.builtin "getset_descriptor.__get__"))) (htk:PySem.W.takesIn K (.builtin "object.__class__")=some true)
   (hm:Wb K C (.type "object")=some true):cB K H (.ref a) (.ref C)
def wt (I:Inv X pins σ H s)(rx:RelV x u)(ty:cB X.K H x t)(e:QG X.K t c=some b)(h:∀tk,Q (.bool b) {s with toks:=tk}):
  LK (LL X.prog X.w) A (call (.builtin "isinstance") [u,c]) Q E s:=by
 cases ty with
 |non=>cases(show u=Value.none from rx);exact QX PySem.W.kitx_none I.kIn True.intro e (λz=>nomatch z) h
 |bl y=>cases(show u=Value.bool y from rx);exact QX PySem.W.kitx_bool I.kIn True.intro e (λz=>nomatch z) h
 |int i=>obtain⟨t,q⟩:=(show ∃t,u=Value.int i t from rx);cases q;exact QX PySem.W.kitx_int I.kIn True.intro e (λz=>nomatch z) h
 |str y=>obtain⟨t,q⟩:=(show ∃t,u=Value.str y t from rx);cases q;exact QX PySem.W.kitx_str I.kIn True.intro e (λz=>nomatch z) h
 |flt y=>obtain⟨t,q⟩:=(show ∃t,u=Value.float y t from rx);cases q;exact QX PySem.W.kitx_float I.kIn True.intro e (λz=>nomatch z) h
 |@lst a xs ea=>
  cases(show u=Value.ref a from rx);obtain⟨_,_,n,_,h1⟩:=(show aW X.prog X.w H s.heap a (.lst xs)from I.hok a _ ea);exact QX Vc I.kIn ⟨_,h1,rfl⟩ e (λz=>nomatch z) h
 |@frz a ob xs ea=>
  cases(show u=Value.ref a from rx);obtain⟨_,_,_,n,_,h1⟩:=(show aW X.prog X.w H s.heap a (.frz ob (.lst xs))from I.hok a _ ea);exact QX Vc I.kIn ⟨_,h1,rfl⟩ e (λz=>nomatch z) h
 |@tup a xs ea=>
  cases(show u=Value.ref a from rx);obtain⟨_,_,_,p⟩:=(show aW X.prog X.w H s.heap a (.tup xs)from I.hok a _ ea);obtain⟨o,h1,h2,_⟩:=p;exact QX PySem.W.kitx_tuple I.kIn ⟨o,h1,h2⟩ e (λz=>nomatch z) h
 |@dK a kvs ea=>
  cases(show u=Value.ref a from rx);obtain⟨_,_,vs,_,p⟩:=(show aW X.prog X.w H s.heap a (.dK kvs)from I.hok a _ ea);obtain⟨o,es,ep,h1,h2,_⟩:=p;exact QX Vd I.kIn ⟨o,h1,h2.1⟩ e (λz=>nomatch z) h
 |@dT a kvs ea=>
  cases(show u=Value.ref a from rx);obtain⟨_,_,xs,_,o,es,ep,h1,h2,_⟩:=(show aW X.prog X.w H s.heap a (.dT kvs)from I.hok a _ ea);exact QX Vd I.kIn ⟨o,h1,h2.1⟩ e (λz=>nomatch z) h
 |@ins a C dx fs ea cl ha hn htk hm=>
  cases(show u=Value.ref a from rx);obtain⟨mA,O,_⟩:=E6 I.hok ea;obtain⟨od,J,_⟩:=O.look;exact QX (PySem.W.kitx_own (cl.get _) cl.hd ha hn htk hm) I.kIn J e (λz=>nomatch z) h
end
structure b9(k:Nat)(A:LG):Prop where
 hd:A.handled=none
 dp:A.depth+3*k+5<recursionLimit
 un:A.units+16*k+200<Mh
theorem b9.deeper{k:Nat}{A:LG}(r:b9 (k+1) A)(env:Env):b9 k (A.deeper env):=
 ⟨r.hd,by have:=r.dp;show A.depth+1+3*k+5<_;lia,by have:=r.un;show A.units+3+16*k+200<_;lia⟩
theorem b9.depth (r:b9 k A):A.depth<recursionLimit:=by have:=r.dp;lia
theorem b9.units (r:b9 k A):A.units+64<Mh:=by have:=r.un;lia
def i4:TA:=λ_ H Q=>Q [] H
def qT(ta:TE)(tr:TA):TA:=λσ H Q=>ta σ H λx H1=>tr σ H1 λxs H2=>Q (x::xs) H2
section
variable{X:Cx}{e:Expr}{es:List Expr}{te:TE}{t:TA}{pos:Pos}
def xI:PA X [] i4:=λ_ _ _ _ H Q I h=>Calls.spliced_nil ⟨[],H,I,.nil,h⟩
def yj(ha:PE X e te)(hr:PA X es t)(hs:LN (e::es) X.env=(false,eval e X.env)::LN es X.env:=by rfl):PA X (e::es) (qT te t):=by
 intro pos pins s σ H Q I h;rw[hs];show LK _ _ (spliced ((false,eval e X.env)::LM pos (LN es X.env))) _ _ s;refine Calls.spliced_cons (aZ (ha pins s σ H _ I h) λu s1 ⟨x,H1,I1,r1,q1⟩=>?_);exact aZ (hr pos pins s1 σ H1 _ I1 q1) λus s2 ⟨xs,H2,I2,r2,q2⟩=>⟨x::xs,H2,I2,.cons r1 r2,q2⟩
def nO(t:TA):TE:=λσ H Q=>t σ H λxs H1=>xs.length<=sizeLine/\∀p,H1 p=none->Q (.ref p) (aJ H1 p (.tup xs))
def nU(t:TA):TE:=λσ H Q=>t σ H λxs H1=>xs.length<=sizeLine/\∀p,H1 p=none->Q (.ref p) (aJ H1 p (.lst xs))
def ub{x1}(h:PA X es t):PE X (.Tuple es x1 pos) (nO t):=by
 intro pins s σ H Q I hq;refine wpAny_Tuple_spliced (aZ (h pos pins s σ H _ I hq) λus s1 ⟨xs,H1,I1,r,z,q⟩=>⟨by rw[<-r.length];exact z,?_⟩);have hf:H1 s1.heap.objs.size=none:=I1.hok.fresh (Qj _);refine⟨.ref s1.heap.objs.size,aJ H1 s1.heap.objs.size (.tup xs),I1.laid (t':=s1.toks) (λb u e=>Qw _ e) (Qj _) ?_,rfl,q _ hf⟩;exact⟨z,us,r,⟨_,QS _ rfl,rfl,_,rfl⟩⟩
def Dv(h:PA X es t):PE X (.List es pos) (nU t):=by
 intro pins s σ H Q I hq;refine wpAny_List_spliced (aZ (h pos pins s σ H _ I hq) λus s1 ⟨xs,H1,I1,r,z,q⟩=>⟨by rw[<-r.length];exact z,?_⟩);have hf:H1 s1.heap.objs.size=none:=I1.hok.fresh (Qj _);refine⟨.ref s1.heap.objs.size,aJ H1 s1.heap.objs.size (.lst xs),I1.laid (t':=s1.toks) (λb u e=>Qw _ e) (Qj _) ?_,rfl,q _ hf⟩;exact⟨z,us,0,r,QS _ rfl⟩
end
abbrev Sp:=List V->Hp->VK->XK->Prop
abbrev eB:=List Env->Hp->Shared->XK->Value->Shared->Prop
structure eW(P:Lr)(w:Ls)(K:Qb)(mg:Str->Option Value)(base:Ly)(A:LG)(outer:List Env)(s:Shared)(H:Hp):Prop where
 frames:A.frames=some outer
 mod:Mod K mg base
 bs:∀b o,base.get? b=some o->s.heap.get? b=some o/\H b=none
 bsz:base.objs.size<=s.heap.objs.size
 funs:s.heap.FunFrames base outer
 frf:∀b∈bR outer,H b=none
 hok:cg P w H s.heap
 bare:LH s.gens
def CE(outer:List Env)(P:Lr)(w:Ls)(H:Hp)(s:Shared)(Q:VK)(u:Value)(s':Shared):Prop:=
 ∃v H',s'.os=s.os/\LH s'.gens/\Un (bR outer) [] H H' s.heap s'.heap/\cg P w H' s'.heap/\RelV v u/\Q v H'
def CR(CX:eB)(outer:List Env)(P:Lr)(w:Ls)(H:Hp)(s:Shared)(Q:VK)(E:XK)(r:Result)(s':Shared):Prop:=
 match r with
 |.ok (.ret u)=>CE outer P w H s Q u s'
 |.ok _=>False
 |.error e=>CX outer H s E e s'
structure cc(P:Lr)(w:Ls)(K:Qb)(mg:Str->Option Value)(base:Ly)(CX:eB)(k:Nat)(f:Addr)(fd:Mi)(ps:List Str)(sp:Sp):Prop where
 len:∀vs H Q E,sp vs H Q E->vs.length=ps.length
 run:∀(A:LG) (outer:List Env) (s:Shared) (H:Hp) (args:Args) (us:List Value) (vs:List V) (Q:VK) (E:XK),b9 k A->eW P w K mg base A outer s H->Mj s fd args (ps.zip us)->ay vs us->sp vs H Q E ->
  Mk (LL P w) A (.call (.ref f) args) (CR CX outer P w H s Q E) s
section
variable{X:Cx}{pins:List (Addr×Obj)}{σ:St}{H:Hp}{s s':Shared}
def Inv.env0(I:Inv X pins σ H s):eW X.prog X.w X.K X.mg X.base X.A X.stack s H:=
 ⟨I.ok.frames,I.ok.mod,I.bs,Qr I.ok.bsz I.sz,I.stack,I.stkFree,I.hok,I.bare⟩
def Inv.after (I:Inv X pins σ H s)(h:CE X.stack X.prog X.w H s Q u s'):EP X pins σ Q u s':=by
 obtain⟨v,H',os,bare,un,hok,r,q⟩:=h;obtain⟨hh,g,d,t,os'⟩:=s';obtain rfl:os'=s.os:=os;exact⟨v,H',I.call (h':=hh) (g':=g) (d':=d) (t':=t) (ch:=[]) un hok bare (λb z=>M8 z (by simp)),r,q⟩
end
def Cb(sp:Sp)(dvs:List V)(E:XK)(t:TA):TE:=λσ H Q=>t σ H λvs H1=>sp (vs++dvs) H1 Q E
def Binds(K:Qb)(fd:Mi)(ps:List Str)(ds:List Value):Prop:=
 ∀(s:Shared) (us:List Value),K.In s.heap->(us++ds).length=ps.length->Mj s fd ⟨us,[]⟩ (ps.zip (us++ds))
def Binds.all{K:Qb}{fd:Mi}{ps:List Str}(h:∀us:List Value,us.length=ps.length->bindArgs fd ⟨us,[]⟩=pure (ps.zip us)):Binds K fd ps []:=λs us _ hl=>by
 rw[Q0]at hl ⊢;exact .of_eq (h us hl)
def jt(CX:eB)(X:Cx)(E:XK):Prop:=∀(pins:List (Addr×Obj)) (σ:St) (H:Hp) (s:Shared) (e:Value) (s':Shared),Inv X pins σ H s->CX X.stack H s E e s'->X.xe e s'
section
variable{X:Cx}{CX:eB}{k:Nat}{f:Addr}{fd:Mi}{ps:List Str}{sp:Sp}{dvs:List V}{ds:List Value}{E:XK}{x:Str}{p pos:Pos}{e:Expr}{es:List Expr}{t:TA}
def Du (F:cc X.prog X.w X.K X.mg X.base CX k f fd ps sp)(hr:b9 k X.A)(hb:Binds X.K fd ps ds)(hd:ay dvs ds)(hx:jt CX X E)(I:Inv X pins σ H s)(r:ay vs us)(h:sp (vs++dvs) H Q E):LK (LL X.prog X.w) X.A (call (.ref f) us) (EP X pins σ Q) X.xe s:=by
 have r2:ay (vs++dvs) (us++ds):=r.append hd;have hl:(us++ds).length=ps.length:=by rw[<-r2.length];exact F.len _ _ _ _ h
 refine wpAny_call (Ml (F.run X.A X.stack s H ⟨us,[]⟩ (us++ds) (vs++dvs) Q E hr I.env0 (hb s us I.kIn hl) r2 h) λr s' hq=>?_);cases r with
 |error e=>exact hx pins σ H s e s' I hq
 |ok fl=>
  cases fl with
  |ret u=>exact I.after hq
  |next=>exact False.elim hq
  |brk=>exact False.elim hq
  |cont=>exact False.elim hq
def E5(F:cc X.prog X.w X.K X.mg X.base CX k f fd ps sp)(hr:b9 k X.A)(hg:Gl X x)(hm:X.mg x=some (.ref f))(hk:Q3 X.K (.ref f)=true)(hb:Binds X.K fd ps ds)(hd:ay dvs ds)(hx:jt CX X E)
  (ha:PA X (e::es) t) (hdb:(x==("__debug__":Str))=false:=by decide) (he:LN (e::es) X.env=(false,eval e X.env)::LN es X.env:=by rfl) (hpl:(LM pos (LN es X.env)).any (·.1)=false:=by rfl) :
  PE X (.Call (.Name x p) (e::es) [] pos) (Cb sp dvs E t):=by
 intro pins s σ H Q I h;refine Mm (jf I hg hm ?_ hdb);refine PySem.W.callWith_K (h₀:=X.base) I.ok.mod.kin hk (aZ (ha pos pins s σ H _ I h) λus s1 ⟨vs,H1,I1,r,q⟩=>⟨I1.kIn,?_⟩) he hpl;exact Du F hr hb hd hx I1 r q
end
structure cL(N P:List Str)(sc:Lo):Prop where
 kind:sc.kind=.function
 co:sc.isCoroutine=false
 gen:sc.isGenerator=false
 nd:N.Nodup
 pre:N.take P.length=P
 par:∀x∈P,sc.names.lookup x=some .local\/sc.names.lookup x=some .cell
 nofree:∀y∈sc.names,y.2≠.free
theorem gp {kindOf:Str->Option Mn}:∀{binds:List (Str×Value)}{m:Str->Option Value},(∀v,(x,v)∉binds)->Mo kindOf binds m x=m x
 |[],_,_=>rfl
 |(n,v)::r,m,h=>by
  unfold Mo;rw[gp λw hw=>h w (Qh _ hw)];split
  .have:x≠n:=by rintro rfl;exact h v QD
   simp[this]
  .rfl
theorem gs {kindOf:Str->Option Mn}:∀{binds:List (Str×Value)}{m:Str->Option Value},(∀v,(x,v)∉binds)->Mp kindOf binds m x=m x
 |[],_,_=>rfl
 |(n,v)::r,m,h=>by
  unfold Mp;rw[gs λw hw=>h w (Qh _ hw)];split
  .rfl
  .have:x≠n:=by rintro rfl;exact h v QD
   simp[this]
theorem gu {kindOf:Str->Option Mn}:∀{P:List Str}{vs:List Value}{i:Nat}{m:Str->Option Value},P.Nodup->P[i]?=some x->vs[i]?=some v->kindOf x=some .local ->
  Mo kindOf (P.zip vs) m x=some v
 |[],_,_,_,_,h,_,_=>by simp at h
 |_::_,[],_,_,_,_,h,_=>by simp at h
 |p::P,w::vs,0,m,nd,h1,h2,hk=>by
  simp at h1 h2;subst h1;subst h2;show Mo kindOf ((p,w)::P.zip vs) m p=_;unfold Mo;rw[gp λv hv=>(QF.mp nd).1 (Vo hv).1,M6 hk];simp
 |p::P,w::vs,i+1,m,nd,h1,h2,hk=>by
  show Mo kindOf ((p,w)::P.zip vs) m x=_;unfold Mo;exact gu (i:=i) (QF.mp nd).2 (by simpa using h1) (by simpa using h2) hk
theorem gv {kindOf:Str->Option Mn}:∀{P:List Str}{vs:List Value}{i:Nat}{m:Str->Option Value},P.Nodup->P[i]?=some x->vs[i]?=some v->kindOf x≠some .local ->
  Mp kindOf (P.zip vs) m x=some v
 |[],_,_,_,_,h,_,_=>by simp at h
 |_::_,[],_,_,_,_,h,_=>by simp at h
 |p::P,w::vs,0,m,nd,h1,h2,hk=>by
  simp at h1 h2;subst h1;subst h2;show Mp kindOf ((p,w)::P.zip vs) m p=_;unfold Mp;rw[gs λv hv=>(QF.mp nd).1 (Vo hv).1,M7 hk];simp
 |p::P,w::vs,i+1,m,nd,h1,h2,hk=>by
  show Mp kindOf ((p,w)::P.zip vs) m x=_;unfold Mp;exact gv (i:=i) (QF.mp nd).2 (by simpa using h1) (by simpa using h2) hk
def start(N:List Str)(vs:List V):St:=vs.map some++Qx (N.length-vs.length) none
def jc(CX:eB)(P:Lr)(w:Ls)(K:Qb)(mg:Str->Option Value)(base:Ly)(N:List Str)(qual:Str)(scope:Lo)(f:Addr)(cd:Value)(A:LG)(outer:List Env)(s:Shared)(H:Hp)(E:XK):Cx where
 prog:=P
 w:=w
 K:=K
 mg:=mg
 base:=base
 A:=A.deeper (envOfC qual scope s.heap.objs.size f cd)
 N:=N
 s₀:=s
 H₀:=H
 env:=envOfC qual scope s.heap.objs.size f cd
 outer:=outer
 stack:=envOfC qual scope s.heap.objs.size f cd::outer
 ex:=[]
 calm:=true
 fn:=λ_=>true
 pn:=[]
 xe:=λe s'=>LK (LL P w) (A.deeper (envOfC qual scope s.heap.objs.size f cd)) (leaving (envOfC qual scope s.heap.objs.size f cd) e) (λ_ s''=>CX outer H s E e s'') (λe' s''=>CX outer H s E e' s'') s'
def qU {sc:Lo}(h:sc.names.lookup x=some .cell):∃c,(Mq n sc.names []).lookup x=some c:=by
 have q:=WU sc.names n [] (.inl h);exact Q4.mp q
def Ih {K:Qb}(S:cL N ps scope)(hd:A.handled=none)(e0:eW P w K mg base A outer s H)(hl:vs.length=ps.length)(r:ay vs us)(x:InCallC s s.heap.objs.size (Mo (envOfC qual scope s.heap.objs.size f cd).kindOf (ps.zip us) λ_=>none) (Mq (s.heap.objs.size+1) scope.names []) (Mp (envOfC qual scope s.heap.objs.size f cd).kindOf (ps.zip us) λ_=>none) s1):
  Inv (jc CX P w K mg base N qual scope f cd A outer s H E) [] (start N vs) H s1:=by
 have hpl:ps.length<=N.length:=by have:=M9 List.length S.pre;rw[List.length_take]at this;lia
 obtain⟨h1,tk,rfl,hk⟩:=x.done;have noA:∀b:Addr,b∉(jc CX P w K mg base N qual scope f cd A outer s H E).ex:=λb z=>M8 (show b∈([]:List Addr)from z) (by simp);refine⟨⟨e0.mod,S.kind,rfl,rfl,Qj _,λy z c h1 h2=>?_,λy hy=>?_,λy c _ h=>?_,λ_=>hd,Around.frames_deeper e0.frames,.inr ⟨rfl,rfl⟩,λb z=>M8 z (noA b),e0.bs,e0.bsz,λb _ _=>noA b,λb z=>M8 z (noA b),e0.funs,e0.frf⟩,
  rfl,e0.bare,Un.kept hk,⟨_,x.toInCall.ns,λi y v h1 h2 h3=>?_⟩,λy c h=>⟨_,x.cell y c h⟩,e0.hok.fresh (Qj _),λy c h=>?_,λp hp=>M8 (show p∈([]:List (Addr×Obj))from hp) (by simp),e0.hok.kept hk,?_⟩
 .exact name_of_addr x.apart (PySem.mem_of_lookup h1) (PySem.mem_of_lookup h2)
 .have hy:scope.names.lookup y=some .cell\/scope.names.lookup y=some .free:=hy;rcases hy with hy|hy
  .exact qU hy
  .exact M8 rfl (S.nofree _ (PySem.mem_of_lookup hy))
 .exact WL (x.above y c (PySem.mem_of_lookup h))
 .have hi:i<vs.length:=by
   unfold start at h2;by_cases hi:i<vs.length
   .exact hi
   .rw[Qi (by simpa using hi)]at h2;rw[Wx]at h2;split at h2<;>cases h2
  have ha:vs[i]?=some v:=by
   unfold start at h2;rw[Qg (by simpa using hi),Qv]at h2;cases e:vs[i]? with
   |none=>rw[e]at h2;cases h2
   |some a=>rw[e]at h2;cases h2;rfl
  obtain⟨u,hu,rv⟩:=r.get ha;have hp:ps[i]?=some y:=by
   rw[<-S.pre,List.getElem?_take_of_lt (by lia)];exact h1
  have ndP:ps.Nodup:=by rw[<-S.pre];exact S.nd.sublist (List.take_sublist _ _)
  refine⟨u,rv,?_⟩;rcases S.par y (Qo hp)with k|k
  .exact .inl ⟨k,gu ndP hp hu k⟩
  .obtain ⟨c,e⟩:=qU (n:=s.heap.objs.size+1) k;refine .inr ⟨.inl k,c,e,?_⟩;have q:=x.cell y c e;rw[gv ndP hp hu (by show scope.names.lookup y≠_;rw[k];decide)]at q;exact q
 .exact e0.hok.fresh (WL (x.above y c (PySem.mem_of_lookup h)))
 .unfold start;show _=N.length;rw[QW,Qn,List.length_replicate];lia
set_option tactic.hygienic true in
def sU {K:Qb}{kV:Value}(lk:K.lookup f=some ⟨oc,od,.func (Ws name qual params body scope dV kV doc pm an cdv ct),osl⟩)(hcd:WX K cdv qual=true)(S:cL N ps scope)(len:∀vs H Q E,sp vs H Q E->vs.length=ps.length)(hbody:∀(A:LG) (outer:List Env) (s:Shared) (H:Hp) (vs:List V) (Q:VK) (E:XK),b9 k (A.deeper (envOfC qual scope s.heap.objs.size f cdv))->sp vs H Q E ->
   ∃t,cv (jc CX P w K mg base N qual scope f cdv A outer s H E) body t/\t {nx:=λ_ H'=>Q .non H',rt:=Q} (start N vs) H):
  cc P w K mg base CX (k+1) f (Ws name qual params body scope dV kV doc pm an cdv ct) ps sp:=by
 refine⟨len,λA outer s H args us vs Q E hr e0 hb r hsp=>?_⟩;have hl:=len _ _ _ _ hsp;have KX:K.In s.heap:=e0.mod.kin.keeps λb o e=>(e0.bs b o e).1;have av:s.heap.NoLimit:=e0.mod.nolimit.keeps λb o e=>(e0.bs b o e).1;have hkind:∀y∈ps.zip us,scope.names.lookup y.1=some .local\/(scope.names.lookup y.1=some .cell/\((Mq (s.heap.objs.size+1) scope.names []).lookup y.1).isSome=true):=λ⟨n,v⟩ hy=>by
  rcases S.par n (Vo hy).1 with q|q
  .exact .inl q
  .exact .inr ⟨q,WU _ _ _ (.inl q)⟩
 refine codeAny_call_function hr.depth (KX _ _ lk) rfl S.co S.gen rfl (PySem.W.codeRec_of KX hcd) (hb _ _ _ _ ?_);refine wpAny_newFunctionEnv_cells S.kind hkind λenv he s1 x=>?_;subst he;refine⟨av.keeps x.toInCall.keep,codeAny_func ?_⟩;obtain⟨t,ht,hq⟩:=hbody A outer s H vs Q E (hr.deeper _) hsp;have I:Inv (jc CX P w K mg base N qual scope f cdv A outer s H E) [] (start N vs) H s1:=Ih S hr.hd e0 hl r x;refine LO (ht [] s1 (start N vs) H _ I hq) (λfl s' hs=>?_) λe s' hs=>hs;have fin:∀{σ':St}{H':Hp}{v:V}{u:Value},Inv (jc CX P w K mg base N qual scope f cdv A outer s H E) [] σ' H' s'->RelV v u->Q v H'->CE outer P w H s Q u s':=
  λ{σ' H' v u} J rv q=>⟨v,H',J.os,J.bare,J.base,J.hok,rv,q⟩
 cases fl with
 |ret u=>
  obtain⟨v,σ',H',J,rv,q⟩:=hs;exact fin J rv q
 |next=>
  obtain⟨σ',H',J,q⟩:=hs;exact fin (v:=V.non) (u:=Value.none) J rfl q
 |brk=>
  obtain⟨_,_,_,q⟩:=hs;exact False.elim q
 |cont=>
  obtain⟨_,_,_,q⟩:=hs;exact False.elim q
section
variable{X:Cx}{x:Str}{p pos:Pos}{e:Expr}{es:List Expr}{t:TA}{id T:String}{r:List V->Hp->VK->Prop}
def nW(r:List V->Hp->VK->Prop)(t:TA):TE:=λσ H Q=>t σ H λvs H1=>r vs H1 Q
def xw(hc:bK X (.builtin id) r)(hg:Gl X x)(hm:X.mg x=none)(hv:LF x=some (.builtin id))(ha:PA X (e::es) t)(hn:x ≠ "__name__":=by decide)(hdb:(x==("__debug__":Str))=false:=by decide)
  (he:LN (e::es) X.env=(false,eval e X.env)::LN es X.env:=by rfl) (hpl:(LM pos (LN es X.env)).any (·.1)=false:=by rfl):PE X (.Call (.Name x p) (e::es) [] pos) (nW r t):=by
 intro pins s σ H Q I h;refine Mm (wQ I hg hm hv ?_ hn hdb);exact PyProof.Rows.callWith_builtin1 (aZ (ha pos pins s σ H _ I h) λus s1 ⟨vs,H1,I1,r1,q1⟩=>hc pins s1 σ H1 vs us Q I1 r1 q1) he hpl
def gw(hc:bK X (.type T) r)(hg:Gl X x)(hm:X.mg x=none)(hv:LF x=some (.type T))(ha:PA X (e::es) t)(hn:x ≠ "__name__":=by decide)(hdb:(x==("__debug__":Str))=false:=by decide)
  (he:LN (e::es) X.env=(false,eval e X.env)::LN es X.env:=by rfl) (hpl:(LM pos (LN es X.env)).any (·.1)=false:=by rfl):PE X (.Call (.Name x p) (e::es) [] pos) (nW r t):=by
 intro pins s σ H Q I h;refine Mm (wQ I hg hm hv ?_ hn hdb);exact PyProof.Rows.callWith_type1 (aZ (ha pos pins s σ H _ I h) λus s1 ⟨vs,H1,I1,r1,q1⟩=>hc pins s1 σ H1 vs us Q I1 r1 q1) he hpl
end
end L2
namespace HT
open PySem PyProof.Rows
section
variable{prog:Lr}{w:Ls}{A:LG}{E:Value->Shared->Prop}{s:Shared}
def eQ (ht:IsTup s.heap t vs.toArray)(hb:IsTup s.heap b ws.toArray)(hv:vs≠[])(h1:ws=[]->Q (.ref t) s)(h2:ws≠[]->Q (.ref s.heap.objs.size) {s with heap:=s.heap.push {cls:=.type "tuple",data:=.seq (vs++ws).toArray} })(hsz:vs.length+ws.length<=sizeLine):LK (LL prog w) A (Mb .Add (.ref t) (.ref b)) Q E s:=by
 obtain⟨⟨cls,dd,data,sl⟩,ho,hc,n,hd⟩:=id ht;obtain⟨⟨cls2,dd2,data2,sl2⟩,ho2,hc2,n2,hd2⟩:=id hb;simp only at hc hd hc2 hd2;subst hc hd hc2 hd2;have e:vs.toArray++ws.toArray=(vs++ws).toArray:=by simp
 by_cases hw:ws=[]
 .exact concat_meets ⟨_,ho,rfl⟩ ⟨_,ho2,rfl⟩ noFill_tuple_add seq_tuple_add PySem.F.slot_tuple_add PySem.F.entry_tuple_add (PySem.F.args_tuple_add_2 _ _)
   (tuple_addW1 t b vs.toArray ws.toArray n n2 dd dd2 sl sl2 (by simpa using hv) (by simp[hw])) ⟨ho,ho2,h1 hw⟩
 .refine concat_meets ⟨_,ho,rfl⟩ ⟨_,ho2,rfl⟩ noFill_tuple_add seq_tuple_add PySem.F.slot_tuple_add PySem.F.entry_tuple_add (PySem.F.args_tuple_add_2 _ _)
   (tuple_addW2 t b vs.toArray ws.toArray n n2 dd dd2 sl sl2 (by simpa using hv) (by simpa using hw) (by rw[Qt,Qt];exact hsz)) ⟨ho,ho2,?_⟩
  rw[e];exact h2 hw
def cj(n d:Nat):Option Int->Nat
 |none=>d
 |some v=>if v<0 then(v+(n:Int)).toNat else min v.toNat n
end
end HT
namespace L2
open PySem PySem.Spec PyProof.Rows
abbrev TO:=St->Hp->(Option Int->Hp->Prop)->Prop
def PO(X:Cx)(e:Option Expr)(t:TO):Prop:=
 ∀(pins:List (Addr×Obj)) (s:Shared) (σ:St) (H:Hp) (Q:Option Int->Hp->Prop),Inv X pins σ H s->t σ H Q ->
  LK (LL X.prog X.w) X.A (evalPart e X.env) (λu s'=>∃o H',Inv X pins σ H' s'/\IsPart u o/\Q o H') X.xe s
def Ca(t:TE):TO:=λσ H Q=>t σ H λx H1=>∃i,x=.int i/\Q (some i) H1
section
variable{X:Cx}{e:Expr}{te:TE}{lo hi:Option Expr}{tl th:TO}{pos p2:Pos}
def uV(h:PE X e te):PO X (some e) (Ca te):=by
 intro pins s σ H Q I hw;rw[evalPart_some];refine aZ (h pins s σ H _ I hw) λu s1 ⟨x,H1,I1,r1,q1⟩=>?_;obtain⟨i,rfl,q⟩:=q1;obtain⟨t,rfl⟩:=r1;exact⟨some i,H1,I1,.int i t,q⟩
def Bs(X:Cx)(r:V->Option Int->Option Int->Hp->VK->Prop):Prop:=
 ∀(pins:List (Addr×Obj)) (s:Shared) (σ:St) (H:Hp) (x:V) (v vl vu:Value) (lo hi:Option Int) (sl:Addr) (Q:VK),Inv X pins σ H s->RelV x v->s.heap.IsSliceOf sl vl vu .none->IsPart vl lo->IsPart vu hi->r x lo hi H Q ->
  ∃T id,typeLookup (.type T) "__getitem__"=pure (some (.builtin id))/\s.TypeIs v T/\LK (LL X.prog X.w) X.A (Mr v (.ref sl)) (EP X pins σ Q) X.xe s
def Jk(r:V->Option Int->Option Int->Hp->VK->Prop)(te:TE)(tl th:TO):TE:=λσ H Q=>te σ H λx H1=>tl σ H1 λl H2=>th σ H2 λu H3=>r x l u H3 Q
def Ic (hr:Bs X r)(he:PE X e te)(hl:PO X lo tl)(hu:PO X hi th):PE X (.Subscript e (.Slice lo hi none p2) pos) (Jk r te tl th):=by
 intro pins s σ H Q I h;refine Subscript_ (aZ (he pins s σ H _ I h) λv s1 ⟨x,H1,I1,r1,q1⟩=>?_);refine wpAny_Slice (aZ (hl pins s1 σ H1 _ I1 q1) λvl s2 ⟨l,H2,I2,pl,q2⟩=>aZ (hu pins s2 σ H2 _ I2 q2) λvu s3 ⟨u,H3,I3,pu,q3⟩=>?_);rw[evalPart_none];refine L7 ?_;have I4:Inv X pins σ H3 {s3 with heap:=s3.heap.push {cls:=.type "slice",data:=.fields #[vl,vu,.none]} }:=I3.kept (t':=s3.toks) λb ob q=>Qw _ q;obtain⟨T,id,hT,ht,hg⟩:=hr pins {s3 with heap:=s3.heap.push {cls:=.type "slice",data:=.fields #[vl,vu,.none]} } σ H3 x v vl vu l u s3.heap.objs.size Q I4 r1 (Heap.IsSliceOf.new ..) pl pu q3;show LK (LL X.prog X.w) X.A (Ms e (.Slice lo hi none p2) v (.ref s3.heap.objs.size)) (EP X pins σ Q) X.xe {s3 with heap:=s3.heap.push {cls:=.type "slice",data:=.fields #[vl,vu,.none]} };exact tail_any (ops:=[.ref s3.heap.objs.size,v]) ht hT hg (by with_unfolding_all rfl)
def fS(xs:List V)(lo hi:Option Int):List V:=(xs.drop (HT.cj xs.length 0 lo)).take (HT.cj xs.length xs.length hi-HT.cj xs.length 0 lo)
def qV(xs:List V)(lo hi:Option Int):(fS xs lo hi).length<=xs.length:=by
 unfold fS;rw[List.length_take,List.length_drop];lia
def sS(K:Qb):R2:=λx y H Q=>∃a b xs ys,x=.ref a/\y=.ref b/\cf K H a xs/\cf K H b ys/\xs≠[]/\xs.length+ys.length<=sizeLine /\
 (ys=[]->Q (.ref a) H)/\(ys≠[]->∀p,H p=none->Q (.ref p) (aJ H p (.tup (xs++ys))))
def ay.nil_iff (r:ay xs us):us=[]↔xs=[]:=by
 cases r with
 |nil=>simp
 |cons _ _=>simp
def E4:cq X (Mb .Add) (sS X.K):=by
 intro pins s σ H x y v u Q I rx ry h;obtain⟨a,b,xs,ys,rfl,rfl,ha,hb,hx,hz,q1,q2⟩:=h;cases rx;cases ry;obtain⟨its,r1,p1,_⟩:=I.tuple ha;obtain⟨its2,r2,p2,_⟩:=I.tuple hb;refine HT.eQ p1 p2 (λz=>hx (r1.nil_iff.mp z)) (λz=>⟨.ref a,H,I,rfl,q1 (r2.nil_iff.mp z)⟩) (λz=>?_) (by rw[<-r1.length,<-r2.length];exact hz);refine⟨.ref s.heap.objs.size,_,I.laid (t':=s.toks) (o:=.tup (xs++ys)) (λb ob q=>Qw _ q) (Qj _) ?_,rfl,q2 (λw=>z (r2.nil_iff.mpr w)) _ (I.hok.fresh (Qj _))⟩;exact⟨by rw[QW];exact hz,_,r1.append r2,IsTup.new _ _⟩
end
def fZ(n:Nat)(i:Int):Option Nat:=if 0<=i then(if i<n then some i.toNat else none)else if -(n:Int)<=i then some (i+n).toNat else none
def fG{α:Type}(xs:List α)(i:Int):Option α:=(fZ xs.length i).bind λj=>xs[j]?
def uU (h:fZ n i=some j):seqIndex? i n=some j/\j<n/\-(n:Int)<=i/\i<n:=by
 unfold fZ at h;by_cases h0:0<=i
 .rw[M6 h0]at h;by_cases h1:i<n
  .rw[M6 h1]at h;have e:i.toNat=j:=Option.some.inj h;exact⟨by rw[Mt h0 h1,e],by lia,by lia,h1⟩
  .rw[M7 h1]at h;cases h
 .rw[M7 h0]at h;by_cases h1:-(n:Int)<=i
  .rw[M6 h1]at h;have e:(i+n).toNat=j:=Option.some.inj h;exact⟨by rw[Mu (by lia) h1,e],by lia,h1,by lia⟩
  .rw[M7 h1]at h;cases h
def gY (h:fG xs i=some v):∃j,seqIndex? i xs.length=some j/\xs[j]?=some v/\j<xs.length/\-(xs.length:Int)<=i/\i<xs.length:=by
 unfold fG at h;cases e:fZ xs.length i with
 |none=>rw[e]at h;cases h
 |some j=>
  rw[e]at h;obtain⟨h1,h2,h3,h4⟩:=uU e;exact⟨j,h1,h,h2,h3,h4⟩
def gZ(b:Expr):Prop:=∀o i,Mv b false o i=operate [o,i] (Mr o i)
def ef(X:Cx)(r:R2):Prop:=
 ∀(value slice:Expr) (pins:List (Addr×Obj)) (s:Shared) (σ:St) (H:Hp) (x y:V) (v u:Value) (Q:VK),Inv X pins σ H s->RelV x v->RelV y u->r x y H Q ->
  Mv slice false v u=operate [v,u] (Mr v u)->LK (LL X.prog X.w) X.A (Ms value slice v u) (EP X pins σ Q) X.xe s
def rF(X:Cx)(id:String)(r:V->List V->Hp->VK->Prop):Prop:=
 ∀(pins:List (Addr×Obj)) (s:Shared) (σ:St) (H:Hp) (x:V) (xs:List V) (v:Value) (us:List Value) (Q:VK),Inv X pins σ H s->RelV x v->ay xs us->r x xs H Q ->
  LK (LL X.prog X.w) X.A (call (.builtin id) (v::us)) (EP X pins σ Q) X.xe s
section
variable{X:Cx}{a b:Expr}{ta tb:TE}{pos:Pos}
def ef.or{r r':R2}(h:ef X r)(h':ef X r'):ef X (λx y H Q=>r x y H Q\/r' x y H Q):=by
 intro value slice pins s σ H x y v u Q I rx ry q hs;rcases q with q|q
 .exact h value slice pins s σ H x y v u Q I rx ry q hs
 .exact h' value slice pins s σ H x y v u Q I rx ry q hs
def lh (hr:ef X r)(ha:PE X a ta)(hb:PE X b tb)(hs:gZ b):PE X (.Subscript a b pos) (eL r ta tb):=by
 intro pins s σ H Q I h;exact Subscript_ (mB ha hb I h λv u s2 x y H2 I2 rx ry q=>hr a b pins s2 σ H2 x y v u Q I2 rx ry q (hs _ _))
def sf(K:Qb):R2:=λx y H Q=>∃p xs i v,x=.ref p/\y=.int i/\bn K H p xs/\fG xs i=some v/\Q v H
def se(K:Qb):R2:=λx y H Q=>∃p xs i v,x=.ref p/\y=.int i/\cf K H p xs/\fG xs i=some v/\Q v H
def sd:R2:=λx y H Q=>∃z i c,x=.str z/\y=.int i/\z.length<=sizeLine/\fG z.cps.toList i=some c/\Q (.str ⟨#[c]⟩) H
def eM:ef X (sf X.K):=by
 intro value slice pins s σ H x y v u Q I rx ry h hs;obtain⟨p,xs,i,z,rfl,rfl,hq,he,q⟩:=h;cases rx;obtain⟨t,rfl⟩:=ry;obtain⟨its,r,pl,hz⟩:=I.list hq;obtain⟨j,h1,h2,h3,h4,h5⟩:=gY he;obtain⟨w,ew,rw'⟩:=r.get h2;have hl:=r.length;have hn:=js;have fin:EP X pins σ Q w s:=⟨z,H,I,rw',q⟩;by_cases h0:0<=i
 .have hj:i.toNat=j:=by
   rw[Mt h0 h5]at h1;exact Option.some.inj h1
  exact item_listR pl.isList h0 (by lia) (by rw[hj];simpa using ew) fin hs
 .have hj:(i+(its.toArray.size:Int)).toNat=j:=by
   rw[Mu (by lia) h4]at h1;rw[Qt,<-hl];exact Option.some.inj h1
  exact Mw (x:=w) pl.isList.typeIs slot_list_getitem.lookup
   (wpAny_getItem_list_neg (Q:=λr s'=>r=w/\EP X pins σ Q r s') pl.isList (by lia) (by rw[Qt]<;>lia) (by lia) (by rw[hj];simpa using ew) ⟨rfl,fin⟩) hs
def fC:ef X (se X.K):=by
 intro value slice pins s σ H x y v u Q I rx ry h hs;obtain⟨p,xs,i,z,rfl,rfl,hq,he,q⟩:=h;cases rx;obtain⟨t,rfl⟩:=ry;obtain⟨its,r,pl,hz⟩:=I.tuple hq;obtain⟨j,h1,h2,h3,h4,h5⟩:=gY he;obtain⟨w,ew,rw'⟩:=r.get h2;have hl:=r.length;have hn:=js;have fin:EP X pins σ Q w s:=⟨z,H,I,rw',q⟩;exact Mw (x:=w) pl.typeIs slot_tuple_getitem.lookup
  (getItem_tuple (j:=j) (Q:=λr s'=>r=w/\EP X pins σ Q r s') pl (by lia) (by lia) (by rw[Qt,<-hl];exact h1) (by simpa using ew) ⟨rfl,fin⟩) hs
def Dt:ef X sd:=by
 intro value slice pins s σ H x y v u Q I rx ry h hs;obtain⟨z,i,c,rfl,rfl,hz,he,q⟩:=h;obtain⟨t,rfl⟩:=rx;obtain⟨t',rfl⟩:=ry;obtain⟨j,h1,h2,h3,h4,h5⟩:=gY he;have hl:z.cps.toList.length=z.length:=by simp[Str.length]
 rw[hl]at h1 h4 h5;have hn:=js;exact tail_any (typeIs_str s z t) slot_str_getitem.lookup (getItem_str (c:=c) (by
  have e1:decide (i < -(2^63:Int))=false:=M5 (by lia);have e2:decide (i ≥ 2^63)=false:=M5 (by lia);rw[e1,e2,Bool.or_false]) (by rw[h1];simpa using h2) ⟨.str ⟨#[c]⟩,H,I.tok _,⟨_,rfl⟩,q⟩) hs
def AT(K:Qb):R2:=λx y H Q=>sf K x y H Q\/se K x y H Q\/sd x y H Q
def Ds:ef X (AT X.K):=eM.or (fC.or Dt)
def Jf(its:List Value)(n j:Nat)(u:Value):Obj.mapSeq (·.setIfInBounds j u) {cls:=.type "list",data:=.seq its.toArray n}={cls:=.type "list",data:=.seq (its.set j u).toArray n}:=by
 simp[Obj.mapSeq]
theorem Inv.lst (I:Inv X pins σ H s)(h:H p=some (.lst xs)):
  ∃(its:List Value) (n:Nat),ay xs its/\s.heap.get? p=some {cls:=.type "list",data:=.seq its.toArray n}/\xs.length<=sizeLine:=by
 obtain⟨z,its,n,r,e⟩:=I.hok p _ h;exact⟨its,n,r,e,z⟩
def Inv.lstUpd{pins:List (Addr×Obj)}{σ:St}{H:Hp}{s:Shared}{p:Addr}{xs ys:List V}{its its':List Value}{n n':Nat}{f:Obj->Obj}(I:Inv X pins σ H s)(h:H p=some (.lst xs))
  (ho:s.heap.get? p=some {cls:=.type "list",data:=.seq its.toArray n}) (hf:f {cls:=.type "list",data:=.seq its.toArray n}={cls:=.type "list",data:=.seq its'.toArray n' }) (r:ay ys its') (hz:ys.length<=sizeLine) (t:Nat) :
  Inv X pins σ (aJ H p (.lst ys)) {s with heap:=s.heap.update p f,toks:=t}:=by
 have e:(s.heap.update p f).get? p=some {cls:=.type "list",data:=.seq its'.toArray n' }:=by
  rw[Heap.get?_update_self f ho (by rw[hf]<;>rfl),hf]
 refine I.write (x:=p) (e:=p) (by rw[h];trivial) (.inl rfl) (λb u hb q=>(Vy _ _ (Ne.symm hb)).trans q) ⟨_,e⟩ ?_;exact⟨hz,its',n',r,e⟩
def mU:V->V->V->Hp->(Hp->Prop)->Prop:=λo i v H Q=>∃p xs k j,o=.ref p/\i=.int k/\H p=some (.lst xs)/\fZ xs.length k=some j/\Q (aJ H p (.lst (xs.set j v)))
def Ib:mC X mU:=by
 intro pins s σ H o i v ov iv u Q I ro ri rv h;obtain⟨p,xs,k,j,rfl,rfl,hp,hj,q⟩:=h;cases ro;obtain⟨t,rfl⟩:=ri;obtain⟨its,n,r,ho,hz⟩:=I.lst hp;obtain⟨h1,h2,h3,h4⟩:=uU hj;have hl:=r.length;have hn:=js;have I':Inv X pins σ (aJ H p (.lst (xs.set j v))) {s with heap:=s.heap.update p (Obj.mapSeq (·.setIfInBounds j u))} :=
  I.lstUpd hp ho (Jf its n j u) (r.set rv j) (by rw[Q5];exact hz) s.toks
 by_cases h0:0<=k
 .have hk:k.toNat=j:=by
   rw[Mt h0 h4]at h1;exact Option.some.inj h1
  exact PySem.W.ki_setAt ho h0 (by lia) (by rw[Qt,<-hl];exact h4) (by rw[hk];exact⟨_,I',q⟩)
 .have hk:(k+(its.toArray.size:Int)).toNat=j:=by
   rw[Mu (by lia) h3]at h1;rw[Qt,<-hl];exact Option.some.inj h1
  exact PySem.W.ki_setBack ho (by lia) (by rw[Qt,<-hl];exact h3) (by lia) (by rw[hk];exact⟨_,I',q⟩)
def g6(lo hi:Option Int)(n:Nat):(Mx lo hi none n).1=((HT.cj n 0 lo:Nat):Int)/\(Mx lo hi none n).2.1=((HT.cj n n hi:Nat):Int)/\(Mx lo hi none n).2.2=1:=by
 refine⟨?_,?_,rfl⟩
 .cases lo with
  |none=>simp[Mx,HT.cj]
  |some i=>
   simp only[Mx,HT.cj,Option.getD_none,show(1:Int) > 0 by decide,if_true];by_cases h:i<0
   .simp only[h,if_true]<;>lia
   .simp only[h,if_false]<;>lia
 .cases hi with
  |none=>simp[Mx,HT.cj]
  |some i=>
   simp only[Mx,HT.cj,Option.getD_none,show(1:Int) > 0 by decide,if_true];by_cases h:i<0
   .simp only[h,if_true]<;>lia
   .simp only[h,if_false]<;>lia
def gi(its:List Value)(lo hi:Option Int):slicePick its.toArray lo hi none=((its.drop (HT.cj its.length 0 lo)).take (HT.cj its.length its.length hi-HT.cj its.length 0 lo)).toArray:=by
 obtain⟨h1,h2,h3⟩:=g6 lo hi its.toArray.size;unfold slicePick;rw[h1,h2,h3];simp only[sliceRange_one,pick_run,Qt]<;>rfl
def r9(K:Qb):V->Option Int->Option Int->Hp->VK->Prop:=λx lo hi H Q=>∃a xs,x=.ref a/\bn K H a xs/\∀p,H p=none->Q (.ref p) (aJ H p (.lst (fS xs lo hi)))
def E3:Bs X (r9 X.K):=by
 intro pins s σ H x v vl vu lo hi sl Q I rx hs pl pu h;obtain⟨a,xs,rfl,hx,q⟩:=h;cases rx;obtain⟨its,r,ht,hz⟩:=I.list hx;have hlen:=r.length;refine⟨"list",_,slot_list_getitem.lookup,ht.isList.typeIs,?_⟩;refine wpAny_getItem_list_slice ht.isList hs pl pu .none (by simp) ?_ (by rw[Qt]<;>lia);rw[gi,<-hlen];refine⟨.ref s.heap.objs.size,_,I.laid (t':=s.toks) (o:=.lst (fS xs lo hi)) (λb ob q=>Qw _ q) (Qj _) ?_,rfl,q _ (I.hok.fresh (Qj _))⟩;exact⟨Qr (qV xs lo hi) hz,_,0,(r.drop (HT.cj xs.length 0 lo)).take (HT.cj xs.length xs.length hi-HT.cj xs.length 0 lo),QS _ rfl⟩
def g7:bK X (.builtin "len") (λxs H Q=>∃p ys,xs=[.ref p]/\(bn X.K H p ys\/cf X.K H p ys)/\Q (.int ys.length) H):=by
 intro pins s σ H xs us Q I r h;obtain⟨p,ys,rfl,hq,q⟩:=h;obtain⟨u,rfl,rx⟩:=qS r;cases rx;have hn:=js;rcases hq with hq|hq
 .obtain ⟨its,r',pl,hz⟩:=I.list hq;have hlen:=r'.length;exact Calls.call_len_list pl.isList (by simp only[Qt]<;>lia) ⟨.int ys.length,H,I.tok _,⟨s.toks+1,by rw[Qt,hlen]⟩,q⟩
 .obtain ⟨its,r',pl,hz⟩:=I.tuple hq;have hlen:=r'.length;exact len_tuple pl (by simp only[Qt]<;>lia) ⟨.int ys.length,H,I.tok _,⟨s.toks+1,by rw[Qt,hlen]⟩,q⟩
def g8:bK X (.type "list") (λxs H Q=>∃p ys,xs=[.ref p]/\(bn X.K H p ys\/cf X.K H p ys)/\∀l,H l=none->Q (.ref l) (aJ H l (.lst ys))):=by
 intro pins s σ H xs us Q I r h;obtain⟨p,ys,rfl,hq,q⟩:=h;obtain⟨u,rfl,rx⟩:=qS r;cases rx;have fin:∀(its:List Value),ay ys its->ys.length<=sizeLine->∀(h':Ly) (c':Nat),(∀b o',s.heap.get? b=some o'->h'.get? b=some o') ->
   h'.get? s.heap.objs.size=some {cls:=.type "list",dict:=none,data:=.seq its.toArray c',slots:=#[]}->EP X pins σ Q (.ref s.heap.objs.size) {s with heap:=h' }:=λits r' hz h' c' kp e=>
  ⟨.ref s.heap.objs.size,_,I.laid (t':=s.toks) kp (Qj _) (show aW X.prog X.w _ h' _ (.lst ys)from⟨hz,its,c',r',e⟩),rfl,q _ (I.hok.fresh (Qj _))⟩
 rcases hq with hq|hq
 .obtain ⟨its,r',pl,hz⟩:=I.list hq;have hlen:=r'.length;obtain⟨o,ho,hc,n,hd⟩:=pl.isList;exact call_list_seq p (.inl rfl) ho hc hd (λh' c' kp e=>fin its r' hz h' c' kp e) (by simp only[Qt]<;>lia)
 .obtain ⟨its,r',pl,hz⟩:=I.tuple hq;have hlen:=r'.length;obtain⟨o,ho,hc,n,hd⟩:=pl;exact call_list_seq p (.inr rfl) ho hc hd (λh' c' kp e=>fin its r' hz h' c' kp e) (by simp only[Qt]<;>lia)
def lz(K:Qb)(T:String)(x:V)(H:Hp):Prop:=match x with
 |.str _=>T="str"
 |.int _=>T="int"
 |.ref p=>(T="list" /\ ∃xs,bn K H p xs)\/(T="tuple" /\ ∃o,K.lookup p=some o/\o.cls=.type "tuple" /\ o.dict=none) \/
   (T="dict" /\ ((∃kvs,H p=some (.dK kvs))\/∃kvs,H p=some (.dT kvs)))\/(T="set" /\ ∃S n,H p=some (.set S n))
 |_=>False
def ua (I:Inv X pins σ H s)(r:RelV x v)(ty:lz X.K T x H):
  s.TypeIs v T/\∀a,v=.ref a->∃ob,s.heap.get? a=some ob/\ob.dict=none:=by
 cases x with
 |str z=>
  obtain⟨t,rfl⟩:=r;cases(show T="str" from ty);exact⟨typeIs_str s z t,λ_ e=>nomatch e⟩
 |int i=>
  obtain⟨t,rfl⟩:=r;cases(show T="int" from ty);exact⟨typeIs_int s i t,λ_ e=>nomatch e⟩
 |ref p=>
  cases r;rcases ty with⟨rfl,xs,hq⟩|⟨rfl,o,hk,hc,hd⟩|⟨rfl,hk⟩|⟨rfl,S,n,hk⟩
  .obtain ⟨its,_,pl,_⟩:=I.list hq;refine⟨pl.isList.typeIs,λa e=>?_⟩;cases e;obtain⟨o,n,e,c,hd,_⟩:=pl;exact⟨o,e,hd⟩
  .refine ⟨⟨o,I.kIn p o hk,hc⟩,λa e=>?_⟩;cases e;exact⟨o,I.kIn _ o hk,hd⟩
  .have z:∃o,s.heap.get? p=some o/\o.ExactDict:=by
    rcases hk with⟨kvs,hk⟩|⟨kvs,hk⟩
    .obtain ⟨_,_,_,_,o,_,_,e,ex,_⟩:=I.hok p _ hk;exact⟨o,e,ex⟩
    .obtain ⟨_,_,_,_,o,_,_,e,ex,_⟩:=I.hok p _ hk;exact⟨o,e,ex⟩
   obtain⟨o,e,ex⟩:=z;refine⟨⟨o,e,ex.1⟩,λa e2=>?_⟩;cases e2;exact⟨o,e,ex.2.1⟩
  .obtain ⟨o,_,_,_,e,ex,_⟩:=I.hok p _ hk;refine⟨⟨o,e,ex.1⟩,λa e2=>?_⟩;cases e2;exact⟨o,e,ex.2.1⟩
 |_=>exact False.elim ty
def nX(K:Qb)(T:String)(r:V->List V->Hp->VK->Prop)(to:TE):TE:=λσ H Q=>to σ H λx H1=>lz K T x H1/\r x [] H1 Q
def Jm(K:Qb)(T:String)(r:V->List V->Hp->VK->Prop)(to:TE)(t:TA):TE:=λσ H Q=>to σ H λx H1=>lz K T x H1/\t σ H1 λxs H2=>r x xs H2 Q
variable{o e:Expr}{es:List Expr}{to:TE}{t:TA}{name:Str}{apos cpos:Pos}{T id:String}{r:V->List V->Hp->VK->Prop}
def Dr(pa:PlainAttrs T)(slot:Slot T name id)(hty:typeOf (.builtin id)=pure (.type "method_descriptor"))(hm:rF X id r)(ho:PE X o to)
  (hbase:My o name X.env (eval o X.env)=eval o X.env:=by rfl) (hline:(apos.endLine==cpos.line)=true:=by rfl):PE X (.Call (.Attribute o name apos) [] [] cpos) (nX X.K T r to):=by
 intro pins s σ H Q I h;refine wpAny_Call_method0_late hbase hline (aZ (ho pins s σ H _ I h) λv s1 ⟨x,H1,I1,r1,ty,q1⟩=>?_);obtain⟨h1,h2⟩:=ua I1 r1 ty;exact⟨T,id,pa,slot,hty,h1,h2,Calls.callWith_builtin rfl (PySem.evalArgs_none (hm pins s1 σ H1 x [] v [] Q I1 r1 .nil q1))⟩
def B9(pa:PlainAttrs T)(slot:Slot T name id)(hty:typeOf (.builtin id)=pure (.type "method_descriptor"))(hm:rF X id r)(ho:PE X o to)(ha:PA X (e::es) t)
  (hbase:My o name X.env (eval o X.env)=eval o X.env:=by rfl)
  (hfew:((LM cpos (LN (e::es) X.env)).all (λx=>! x.1)&&(backToKw cpos (Mz [] X.env)).all (λx=>x.1.isSome)
   && decide ((e::es).length+([]:List MA).length+(if([]:List MA).isEmpty then 0 else 1)<30))=true:=by rfl)
  (hline:(apos.endLine==cpos.line)=true:=by rfl) (hs:LN (e::es) X.env=(false,eval e X.env)::LN es X.env:=by rfl) (hplain:(LM cpos (LN es X.env)).any (·.1)=false:=by rfl) :
  PE X (.Call (.Attribute o name apos) (e::es) [] cpos) (Jm X.K T r to t):=by
 intro pins s σ H Q I h;refine wpAny_Call_method_late hbase hfew hline rfl (aZ (ho pins s σ H _ I h) λv s1 ⟨x,H1,I1,r1,ty,q1⟩=>?_);obtain⟨h1,h2⟩:=ua I1 r1 ty;refine⟨T,id,pa,slot,hty,h1,h2,?_⟩;have hA:=ha cpos pins s1 σ H1 _ I1 q1;rw[hs]at hA ⊢;refine Calls.callWith_builtin (by show(false || (LM cpos (LN es X.env)).any (·.1))=false;rw[hplain]<;>rfl) (Calls.evalArgs_plain ?_);exact aZ hA λus s2 ⟨vs,H2,I2,r2,q2⟩=>hm pins s2 σ H2 x vs v us Q I2 r1 r2 q2
end
def lU(X:Cx)(id:String)(r:V->List V->Hp->VK->Prop):Prop:=
 ∀(pins:List (Addr×Obj)) (s:Shared) (σ:St) (H:Hp) (x:V) (xs:List V) (v:Value) (us:List Value) (Q:VK),Inv X pins σ H s->RelV x v->ay xs us->r x xs H Q ->
  LK (LL X.prog X.w) X.A (call (.builtin id) (v::us)) (EP X pins σ Q) X.xe s
def ay.one:∀{x:V}{us:List Value},ay [x] us->∃u,us=[u]/\RelV x u
 |_,_,.cons r .nil=>⟨_,rfl,r⟩
def ay.zero:∀{us:List Value},ay [] us->us=[]
 |_,.nil=>rfl
theorem ay.dropLast{xs:List V}{us:List Value}(h:ay xs us):ay xs.dropLast us.dropLast:=by
 induction h with
 |nil=>exact .nil
 |cons r t ih=>
  cases t with
  |nil=>exact .nil
  |cons q t'=>exact .cons r ih
theorem ay.eraseIdx:∀{xs:List V}{us:List Value}(i:Nat),ay xs us->ay (xs.eraseIdx i) (us.eraseIdx i)
 |_,_,_,.nil=>.nil
 |_,_,0,.cons _ t=>t
 |_,_,i+1,.cons r t=>.cons r (ay.eraseIdx i t)
theorem ay.reverse{xs:List V}{us:List Value}(h:ay xs us):ay xs.reverse us.reverse:=by
 induction h with
 |nil=>exact .nil
 |cons r t ih=>rw[Q9,Q9];exact ay.append ih (.cons r .nil)
theorem ay.rep (h:ay xs us):∀k:Nat,ay (Qx k xs).flatten (Qx k us).flatten
 |0=>.nil
 |k+1=>by
  rw[QY,QY,Wa,Wa];exact ay.append h (ay.rep h k)
def Je{α:Type}(l:List α):l.eraseIdx (l.length-1)=l.dropLast:=by
 induction l with
 |nil=>rfl
 |cons a r ih=>
  cases r with
  |nil=>rfl
  |cons b r=>
   have e:(a::b::r).length-1=((b::r).length-1)+1:=by
    have h1:(a::b::r).length=r.length+2:=rfl;have h2:(b::r).length=r.length+1:=rfl;lia
   rw[e,List.eraseIdx_cons_succ,ih]
   all_goals rfl
theorem gx(its:List Value):∀(k:Nat) (acc:List Value),
  Vu (λx1 x2=>x1++x2) acc.toArray (Qx k its.toArray)=(acc++(Qx k its).flatten).toArray
 |0,acc=>by simp
 |k+1,acc=>by
  have e:acc.toArray++its.toArray=(acc++its).toArray:=by simp
  have e2:(acc++its)++(Qx k its).flatten=acc++(Qx (k+1) its).flatten:=by
   rw[QY,Wa,Wl]
  rw[<-e2,<-gx its k (acc++its),<-e,QY,List.foldl_cons]
section
variable{X:Cx}{pins:List (Addr×Obj)}{σ:St}{H:Hp}{s:Shared}{l:Addr}{xs ys:List V}
def Inv.lset{its its':List Value}{n:Nat}{f:Array Value->Array Value}{t':Nat}(I:Inv X pins σ H s)(hH:H l=some (.lst xs))
  (e:s.heap.get? l=some {cls:=.type "list",data:=.seq its.toArray n}) (hf:f its.toArray=its'.toArray) (hv:ay ys its') (hz:ys.length<=sizeLine) :
  Inv X pins σ (aJ H l (.lst ys)) {s with heap:=s.heap.update l (Obj.mapSeq f),toks:=t' }:=by
 have q:=PySem.IsL.update e f;rw[hf]at q;refine I.write (x:=l) (e:=l) (by rw[hH];exact trivial) (.inl rfl) (λb' u hb hu=>(Vy s.heap (Obj.mapSeq f) (Ne.symm hb)).trans hu) ⟨_,q⟩ ?_;exact⟨hz,its',_,hv,q⟩
def Inv.lnew{its:List Value}{t':Nat}(I:Inv X pins σ H s)(hv:ay ys its)(hz:ys.length<=sizeLine):
  Inv X pins σ (aJ H s.heap.objs.size (.lst ys)) {s with heap:=s.heap.push {cls:=.type "list",data:=.seq its.toArray},toks:=t' } :=
 I.laid (λ_ _ q=>Qw _ q) (Qj _) ⟨hz,its,0,hv,QS _ rfl⟩
theorem Inv.fresh(I:Inv X pins σ H s):H s.heap.objs.size=none:=I.hok.fresh (Qj _)
def Inv.lstM(I:Inv X pins σ H s)(hH:H l=some (.lst xs)):xs.length<=sizeLine/\∃(its:List Value) (n:Nat),ay xs its/\xs.length=its.length/\s.heap.get? l=some {cls:=.type "list",data:=.seq its.toArray n}:=by
 obtain⟨z,its,n,r,e⟩:=I.hok l _ hH;exact⟨z,its,n,r,r.length,e⟩
def Ia (h:n<=sizeLine):Builtin.List.listTooLong n=false:=by
 unfold Builtin.List.listTooLong;exact M5 (by lia)
end
section
variable{X:Cx}
def E2:V->List V->Hp->VK->Prop:=λx vs H Q=>∃l xs y,x=.ref l/\vs=[y]/\H l=some (.lst xs)/\xs.length<sizeLine/\Q .non (aJ H l (.lst (xs++[y])))
def gz:lU X "list.append" E2:=by
 intro pins s σ H x vs v us Q I rx rv h;obtain⟨l,xs,y,rfl,rfl,hH,hz,q⟩:=h;cases rx;obtain⟨u,rfl,ru⟩:=rv.one;obtain⟨z,its,n,r,hl,e⟩:=I.lstM hH;refine MB F.slot_list_append ⟨_,e,rfl⟩ F.entry_list_append (F.args_list_append_2 _ _) (PySem.list_append l its.toArray n u (by rw[Qt];lia)) ⟨e,?_⟩;refine⟨.non,_,I.lset (its':=its++[u]) hH e (by simp) (r.append (.cons ru .nil)) ?_,rfl,q⟩;rw[QW,List.length_singleton];lia
def oi:V->List V->Hp->VK->Prop:=λx vs H Q=>∃l xs y,x=.ref l/\vs=[]/\H l=some (.lst xs)/\xs[xs.length-1]?=some y/\Q y (aJ H l (.lst xs.dropLast))
def Dq:lU X "list.pop" oi:=by
 intro pins s σ H x vs v us Q I rx rv h;obtain⟨l,xs,y,rfl,rfl,hH,hy,q⟩:=h;cases rx;have hus:=rv.zero;subst hus;obtain⟨z,its,n,r,hl,e⟩:=I.lstM hH;obtain⟨u,hu,ru⟩:=r.get hy;have hy':its.toArray[its.toArray.size-1]?=some u:=by
  show its.toArray[its.length-1]?=some u;rw[<-Array.getElem?_toList,<-hl];exact hu
 refine MB F.slot_list_pop ⟨_,e,rfl⟩ F.entry_list_pop (F.args_list_pop_1 _) (MeetsSeq.list_pop_last l its.toArray n u hy' (by rw[Qt];lia)) ⟨e,?_⟩;refine⟨y,_,I.lset (its':=its.dropLast) hH e ?_ r.dropLast ?_,ru,q⟩
 .show its.toArray.eraseIdxIfInBounds (its.toArray.size-1)=its.dropLast.toArray;rw[Qt,List.eraseIdxIfInBounds_toArray,Je]
 .rw[List.length_dropLast];lia
def HZ:V->List V->Hp->VK->Prop:=λx vs H Q=>∃l xs,x=.ref l/\vs=[]/\H l=some (.lst xs)/\Q .non (aJ H l (.lst xs.reverse))
def Jd:lU X "list.reverse" HZ:=by
 intro pins s σ H x vs v us Q I rx rv h;obtain⟨l,xs,rfl,rfl,hH,q⟩:=h;cases rx;have hus:=rv.zero;subst hus;obtain⟨z,its,n,r,hl,e⟩:=I.lstM hH;refine MB F.slot_list_reverse ⟨_,e,rfl⟩ F.entry_list_reverse (F.args_list_reverse_1 _) (AutoSeq1.list_reverse_list_0 l its.toArray n (by rw[Qt];lia)) ⟨e,?_⟩;refine⟨.non,_,I.lset (its':=its.reverse) hH e (by simp) r.reverse ?_,rfl,q⟩;rw[List.length_reverse];lia
def DW:V->List V->Hp->VK->Prop:=λx vs H Q=>∃l xs,x=.ref l/\vs=[]/\H l=some (.lst xs)/\Q .non (aJ H l (.lst []))
def GN:lU X "list.clear" DW:=by
 intro pins s σ H x vs v us Q I rx rv h;obtain⟨l,xs,rfl,rfl,hH,q⟩:=h;cases rx;have hus:=rv.zero;subst hus;obtain⟨z,its,n,r,hl,e⟩:=I.lstM hH;refine MB F.slot_list_clear ⟨_,e,rfl⟩ F.entry_list_clear (F.args_list_clear_1 _) (AutoSeq1.list_clear_list_0 l its.toArray n (by rw[Qt];lia)) ⟨e,?_⟩;exact⟨.non,_,I.lset (its':=[]) (ys:=[]) hH e rfl .nil (WS _),rfl,q⟩
def r6:R2:=λx y H Q=>∃l b xs zs,x=.ref l/\y=.ref b/\H l=some (.lst xs)/\H b=some (.lst zs)/\xs.length+zs.length<=sizeLine/\∀p,H p=none->Q (.ref p) (aJ H p (.lst (xs++zs)))
def fy:cq X (Mb .Add) r6:=by
 intro pins s σ H x y v u Q I rx ry h;obtain⟨l,b,xs,zs,rfl,rfl,hH,hB,hz,q⟩:=h;cases rx;cases ry;obtain⟨z,its,n,r,hl,e⟩:=I.lstM hH;obtain⟨z2,its2,n2,r2,hl2,e2⟩:=I.lstM hB;refine PySem.P.add_list e e2 ?_ (by rw[Qt,Qt];lia);have ea:its.toArray++its2.toArray=(its++its2).toArray:=by simp
 rw[ea];exact⟨.ref _,_,I.lnew (t':=s.toks) (r.append r2) (by rw[QW];lia),rfl,q _ I.fresh⟩
def rZ:R2:=λx y H Q=>∃l k xs,x=.ref l/\y=.int k/\H l=some (.lst xs)/\-(2^63)<=k/\k<2^63/\xs.length*k.toNat<=sizeLine /\
 ∀p,H p=none->Q (.ref p) (aJ H p (.lst (Qx k.toNat xs).flatten))
def uT{α:Type}(xs:List α)(k:Nat):(Qx k xs).flatten.length=k*xs.length:=by
 induction k with
 |zero=>simp
 |succ k ih=>rw[QY,Wa,QW,ih,Nat.succ_mul,Nat.add_comm]
def DV:cq X (Mb .Mult) rZ:=by
 intro pins s σ H x y v u Q I rx ry h;obtain⟨l,k,xs,rfl,rfl,hH,h1,h2,hz,q⟩:=h;cases rx;obtain⟨t,rfl⟩:=ry;obtain⟨z,its,n,r,hl,e⟩:=I.lstM hH;have hlen:its.toArray.size*k.toNat<=sizeLine:=by rw[Qt,<-hl];exact hz
 have hcap:¬its.toArray.size*k.toNat > (2^63-1)/8:=by
  have:(sizeLine:Nat)<=(2^63-1)/8:=by decide
  lia
 have hfit:¬(! Builtin.List.listFitsIndex k)=true:=by
  rw[fitsIndex_both h1 h2];exact QP
 have hlong:¬Builtin.List.listTooLong (its.toArray.size*k.toNat)=true:=by
  rw[Ia hlen];exact QP
 have hnew:Vu (λx1 x2=>x1++x2) #[] (Qx (if its.toArray.isEmpty=true then 0 else k.toNat) its.toArray)=(Qx k.toNat its).flatten.toArray:=by
  have f0:∀m:Nat,Vu (λx1 x2=>x1++x2) #[] (Qx m its.toArray)=(Qx m its).flatten.toArray:=λm=>by
   have:=gx its m [];rw[QZ]at this;exact this
  rw[f0];cases its with
  |nil=>simp
  |cons a r'=>rw[M7 (by simp)]
 refine wpAny_binaryOp_repeat_ref (T:="list") (U:="int") (by decide) ⟨_,e,rfl⟩ (λs'=>typeIs_int s' k t) noFill_list_mul F.fills_int_mul F.slot_int_rmul repeat_list F.slot_int_index.lookup
  (MB F.slot_int_rmul (typeIs_int s k t) F.entry_int_rmul (F.args_int_rmul_2 _ _) (int___rmul___int_list k t l its.toArray n)
   ⟨e,rfl,⟨_,e,rfl⟩,MB F.slot_list_mul ⟨_,e,rfl⟩ F.entry_list_mul (F.args_list_mul_2 _ _) (AutoListH.list___mul___list_int_3 l its.toArray n k t hfit hcap hlong) ⟨e,?_⟩⟩)
 rw[hnew];exact⟨.ref _,_,I.lnew (t':=s.toks) (r.rep k.toNat) (by rw[uT,WY];exact hz),rfl,q _ I.fresh⟩
end
end L2
namespace Att
open PySem PySem.W PySem.Calls PyProof.Rows
def jd:∀(ns:List Int) (vs:List Value),WellAll P h vs (ns.map WData.int)->MC vs ns:=by
 intro ns
 induction ns with
 |nil=>
  intro vs w;rw[WW]at w;cases w;exact .nil
 |cons n ns ih=>
  intro vs w;rw[QR]at w;cases w with
  |cons a b=>
   cases a;exact .cons _ _ (ih _ b)
def IA {l:OpenLaw}(hn:l.most=some n)(hpre:l.row.toRowW.claim.pre args=true)(hwl:WellAll P h vals args):
  ∃a vs ns,vals=[Value.ref a]/\args=[WData.list (ns.map WData.int)]/\h.get? a=some {cls:=.type "list",data:=.seq vs.toArray}/\MC vs ns/\ns.length<=n:=by
 have hsh:WShape.hasAll [] args [.list .int]=true:=(pre_splitW hpre).1;have hc:l.pre.holds [] {args:=args}=true:=(pre_splitW hpre).2;obtain⟨d,r,rfl,h1,h2⟩:=hasAllW_cons hsh;obtain rfl:=hasAllW_nil h2;obtain⟨xs,rfl,h3⟩:=hasW_list h1;obtain⟨ns,rfl⟩:=items_int h3;have hlen:ns.length<=n:=by
  unfold OpenLaw.pre at hc;have h4:(WTm.not (.lt (.lit (.int (n:Int))) (.len (.arg 0)))).holds [] {args:=[.list (ns.map .int)]}=true:=by
   have h4:=(holds_andW hc).1;rw[hn]at h4;exact h4
  have h5:=condW_of h4 (w_not (w_lt w_lit (w_len_list (w_arg rfl))));rw[Qn]at h5;refine Nat.le_of_not_lt λq=>?_;have q':(n:Int)<((ns.length:Nat):Int):=by lia
  first
   |(rw[Na q']at h5;exact M8 h5 (by decide))
   |(simp at h5;lia)
 cases hwl with
 |cons w1 w2=>
  cases w2;cases w1 with
  |list ho hall=>exact⟨_,_,ns,rfl,rfl,ho,jd ns _ hall,hlen⟩
def Iz(l:OpenLaw)(args:List WData):l.row.toRowW.claim.post args (.bool true) args=true:=
 postW_of (r:=l.row.toRowW) (X:=(true==true))
  (show WShape.has [] (.bool true) .bool=true by first|rfl|decide|simp[WShape.has,WShape.arms,WShape.armsAll])
  (show(WTm.eq .res (.lit (.bool true))).value [] {args:=args,res:=some (.bool true),after:=args}=some (.bool (true==true))from w_eq_bool (w_res rfl) w_lit) rfl
def dw {l:OpenLaw}(hn:l.most=some n)(hdf:d.params.defaults=[])(call:∀(w:Ls) (s₀ s₁:Shared) (mg mb:Str->Option Value) (fa:Addr) (o:Obj) (pm cd doc:Value) (a:Addr) (vs:List Value) (ns:List Int),
   Ground q loose [] XP w s₀ mg mb s₁.heap->YP w s₁.heap ->
   s₁.heap.get? fa=some o->o.data=.func (docDef d.name d.params d.body d.scope pm cd doc)->s₁.heap.CodeRec cd d.name->mg d.name=some (.ref fa) ->
   s₁.heap.get? a=some {cls:=.type "list",data:=.seq vs.toArray}->MC vs ns->ns.length<=n->s₁.gens=#[] ->
   Mk (LL l.prog w) MD (.call (.ref fa) ⟨[.ref a],[]⟩) (λr s'=>r=.ok (.ret (.bool true))/\OldK s₁.heap s'.heap/\s'.os=s₁.os/\LH s'.gens) s₁):
  WalkO q loose XP YP l.row.toRowW d [] (λf vs=>PySem.call f vs):=by
 intro w s₀ s₁ mg mb G Y fa o pm cd doc dV kV ho hd hcd hD hmg hg args vals as hpre hlay hrd hwl hlo;obtain rfl:dV=.none:=Dflts.none hD hdf;obtain rfl:kV=.none:=Dflts.noKw hD;obtain⟨a,vs,ns,rfl,rfl,hobj,hints,hlen⟩:=IA hn hpre hwl;refine enter_call (Ml (call w s₀ s₁ mg mb fa o pm cd doc a vs ns G Y ho (fd_plain hd) hcd hmg hobj hints hlen hg) λr s' hq=>?_);obtain⟨rfl,h2,h3,h4⟩:=hq;exact⟨.inl ⟨.bool true,.bool true,[],rfl,λ_=>rfl,.bool true,Iz l _,λ_=>⟨List.Pairwise.nil,λ_ hm=>(nomatch hm)⟩⟩,h2,h3,h4⟩
end Att
namespace L2
open PySem PySem.Spec PyProof.Rows
theorem gA:∀{vs:List Value}{ns:List Int},MC vs ns->ay (ns.map V.int) vs
 |_,_,.nil=>.nil
 |_,_,.cons n t h=>.cons ⟨t,rfl⟩ (gA h)
def iA(H:Hp):Prop:=∀b,H b=none\/∃o xs,H b=some (.frz o (.lst xs))
def GM {K:Qb}(KX:K.In s₁.heap)(hns:s₁.heap.Ns LC mg)(hb:s₁.heap.Ns builtinsNs mb)(hbb:∀x:Str,x ≠ "__name__" -> mb x=LF x)(hlim:s₁.heap.NoLimit)(hg:s₁.gens=#[])(ha:s₁.heap.get? a=some {cls:=.type "list",data:=.seq vs.toArray})(hi:MC vs ns)(hl:ns.length<=sizeLine)(hr:b9 k MD)(F:∀base:Ly,K.In base->base.Ns LC mg->cc P w K mg base CX k fa fd [x] sp)(hbind:∀(s:Shared) (u:Value),Mj s fd ⟨[u],[]⟩ [(x,u)])(hsp:∀H:Hp,iA H->bn K H a (ns.map V.int)->sp [.ref a] H (λv _=>v=.bl true) λ_ _ _=>False)(hCX:∀H e s',CX [] H s₁ (λ_ _ _=>False) e s'->False):
  Mk (LL P w) MD (.call (.ref fa) ⟨[.ref a],[]⟩) (λr s'=>r=.ok (.ret (.bool true))/\OldK s₁.heap s'.heap/\s'.os=s₁.os/\LH s'.gens) s₁:=by
 have rv:=gA hi;have lenV:=hi.length
 -- from an abstract heap in which nothing but the script may be tracked
 have core:∀H:Hp,iA H->bn K H a (ns.map V.int)->cg P w H s₁.heap->(∀b,H b≠none->b=a)->(H a≠none->K.lookup a=none) ->
   Mk (LL P w) MD (.call (.ref fa) ⟨[.ref a],[]⟩) (λr s'=>r=.ok (.ret (.bool true))/\OldK s₁.heap s'.heap/\s'.os=s₁.os/\LH s'.gens) s₁:=by
  intro H hO hS hok hA hK;have cx:∀{b:Addr}{o:Obj},s₁.heap.get? b=some o->H b=none->(gT s₁.heap H).get? b=some o:=λe n=>HK e n;have noA:∀{b:Addr}{o:Obj}{es:Array Lq}{ep:Nat},s₁.heap.get? b=some o->o.data=.dict es ep->H b=none:=λ{b o es ep} e d=>by
   cases q:H b with
   |none=>rfl
   |some u=>
    have e':b=a:=hA b (by rw[q];simp);subst e';rw[ha]at e;cases e;have d':Data.seq vs.toArray _=Data.dict es ep:=d;cases d'
  have nsK:∀{b:Addr}{m:Str->Option Value},s₁.heap.Ns b m->(gT s₁.heap H).Ns b m:=λ{b m} ⟨o,es,ep,e,d,r⟩=>⟨o,es,ep,cx e (noA e d),d,r⟩;have hKb:K.In (gT s₁.heap H):=λb o e=>cx (KX b o e) (by
   cases q:H b with
   |none=>rfl
   |some u=>
    have e':b=a:=hA b (by rw[q];simp);subst e';rw[hK (by rw[q];simp)]at e;cases e)
  have hM:Mod K mg (gT s₁.heap H):=⟨hKb,nsK hns,⟨mb,nsK hb,hbb⟩,let⟨mc,h1,h2⟩:=hlim;⟨mc,nsK h1,h2⟩⟩;have e0:eW P w K mg (gT s₁.heap H) MD [] s₁ H:=⟨rfl,hM,λb o e=>Fd e,Vh (Iq _ _),trivial,λb hb=>M8 (show b∈([]:List Addr)from hb) (by simp),hok,.of_eq hg⟩;refine Ml ((F _ hKb (nsK hns)).run MD [] s₁ H ⟨[.ref a],[]⟩ [.ref a] [.ref a] _ _ hr e0 (hbind s₁ (.ref a)) (.cons rfl .nil) (hsp H hO hS)) λr s' h=>?_;cases r with
  |error e=>exact(hCX H e s' h).elim
  |ok fl=>
   cases fl with
   |next=>exact False.elim h
   |brk=>exact False.elim h
   |cont=>exact False.elim h
   |ret u=>
    obtain⟨v,H',os,bare,un,hok',r',q⟩:=h;have q':v=.bl true:=q;subst q';obtain rfl:u=Value.bool true:=r';refine⟨rfl,OldK.of_keep λb o e=>?_,os,bare⟩;cases q:H b with
    |none=>exact un.keep b o e q (by intro z;exact M8 (show b∈([]:List Addr)from z) (by simp)) (by simp)
    |some u=>
     rcases hO b with z|⟨ob,xs,z⟩
     .rw[q]at z;cases z
     .have z2:=un.frzs b ob _ z;obtain⟨e1,_⟩:=hok b _ z;obtain⟨e2,_⟩:=hok' b _ z2;rw[e]at e1;cases e1;exact e2
 cases hk:K.lookup a with
 |some o=>
  -- the script is one of the module's own objects
  have e:=KX a o hk;rw[ha]at e;cases e;refine core (λ_=>none) (λ_=>.inl rfl) (.inr ⟨_,vs.toArray,_,hk,rfl,rfl,rfl,by rw[Qt,lenV];exact hl,by simpa using rv⟩) (λb u z=>by have z':(none:Option HO)=some u:=z;cases z') (λb z=>M8 rfl z) λz=>M8 rfl z
 |none=>
  refine core (λb=>if b=a then some (.frz {cls:=.type "list",data:=.seq vs.toArray} (.lst (ns.map V.int)))else none) (λb=>?_) (.inl (.inr ⟨{cls:=.type "list",data:=.seq vs.toArray},M6 rfl⟩)) (λb u z=>?_) (λb z=>?_) λ_=>hk
  .by_cases hb:b=a
   .exact .inr ⟨_,_,M6 hb⟩
   .exact .inl (M7 hb)
  .by_cases hb:b=a
   .have z':=(M6 hb).symm.trans z;cases z';subst hb;exact⟨ha,by rw[Qn];exact hl,vs,_,rv,ha⟩
   .have z':=(M7 hb).symm.trans z;cases z'
  .by_cases hb:b=a
   .exact hb
   .exact M8 (M7 hb) z
def cD {l:PySem.W.OpenLaw}{K:Lp->Qb}{CX:Ls->eB}{sp:Ls->Sp}(hn:l.most=some n)(hn2:n<=sizeLine)(hdf:d.params.defaults=[])(hr:b9 k MD)(hY:∀(w:Ls) (h:Ly),YP w h->(K w.params).In h)(F:∀(w:Ls) (mg:Str->Option Value) (fa:Addr) (h:Ly),(K w.params).In h->h.Ns LC mg->mg d.name=some (.ref fa) ->
   ∃fd:Mi,(∀(s:Shared) (u:Value),Mj s fd ⟨[u],[]⟩ [(x,u)]) /\
    ∀base:Ly,(K w.params).In base->base.Ns LC mg->cc l.prog w (K w.params) mg base (CX w) k fa fd [x] (sp w))(hsp:∀(w:Ls) (H:Hp) (a:Addr) (ns:List Int),ns.length<=n->iA H->bn (K w.params) H a (ns.map V.int)->sp w [.ref a] H (λv _=>v=.bl true) λ_ _ _=>False)(hCX:∀(w:Ls) (H:Hp) (s:Shared) (e:Value) (s':Shared),CX w [] H s (λ_ _ _=>False) e s'->False):
  Vs q loose XP YP l.row.toRowW d [] (λf vs=>PySem.call f vs):=by
 refine Att.dw hn hdf λw s₀ s₁ mg mb fa o pm cd doc a vs ns G Y ho hd hcd hmg hobj hints hlen hg=>?_;have KX:=hY w _ Y;obtain⟨fd,hb,hF⟩:=F w mg fa _ KX G.T.g hmg;exact GM KX G.T.g G.T.b G.T.builtins G.T.nolimit hg hobj hints (Qr hlen hn2) hr hF hb (λH hO hS=>hsp w H a ns hlen hO hS) λH e s'=>hCX w H s₁ e s'
abbrev dH:eB:=λ_ _ _ _ _ _=>False
abbrev E0:XK:=λ_ _ _=>False
def B8:jt dH X E0:=λ_ _ _ _ _ _ _ h=>h.elim
structure eJ(K:Qb)(x qual:Str)(st:Stmt)(f:Addr)(fd:Mi):Prop where
 ex:∃(oc:Value) (od:Option Addr) (kV doc pm:Value) (an:Option Addr) (cdv ct:Value) (osl:Array (Option Value)),
  fd=Ws x qual (wD st) (xa st) (zL st) .none kV doc pm an cdv ct/\K.lookup f=some ⟨oc,od,.func fd,osl⟩/\WX K cdv qual=true
 kp:Q3 K (.ref f)=true
section
variable{P:Lr}{w:Ls}{K:Qb}{mg:Str->Option Value}{base:Ly}
def eJ.ok {st:Stmt}(F:eJ K x qual st f fd)(S:cL N ps (zL st))(len:∀vs H Q E,sp vs H Q E->vs.length=ps.length)(hbody:∀(cdv:Value) (A:LG) (outer:List Env) (s:Shared) (H:Hp) (vs:List V) (Q:VK) (E:XK),b9 k (A.deeper (envOfC qual (zL st) s.heap.objs.size f cdv))->sp vs H Q E ->
   ∃t,cv (jc dH P w K mg base N qual (zL st) f cdv A outer s H E).nox (xa st) t/\t {nx:=λ_ H'=>Q .non H',rt:=Q} (start N vs) H):cc P w K mg base dH (k+1) f fd ps sp:=by
 obtain⟨oc,od,kV,doc,pm,an,cdv,ct,osl,rfl,lk,hcd⟩:=F.ex;refine sU lk hcd S len λA outer s H vs Q E hr hsp=>?_;obtain⟨t,h,q⟩:=hbody cdv A outer s H vs Q E hr hsp;exact⟨t,h.nox,q⟩
def eJ.binds {st:Stmt}(F:eJ K x qual st f fd)(h:∀(kV doc pm:Value) (an:Option Addr) (cdv ct:Value) (us:List Value),us.length=ps.length->bindArgs (Ws x qual (wD st) (xa st) (zL st) .none kV doc pm an cdv ct) ⟨us,[]⟩=pure (ps.zip us)):Binds K fd ps []:=by
 obtain⟨oc,od,kV,doc,pm,an,cdv,ct,osl,rfl,lk,hcd⟩:=F.ex;exact .all (h kV doc pm an cdv ct)
def DU {st:Stmt}{kV:Value}(l:K.lookup f=some ⟨oc,od,.func (Ws x qual (wD st) (xa st) (zL st) .none kV doc pm an cdv ct),osl⟩)(c:WX K cdv qual=true)(k:Q3 K (.ref f)=true):eJ K x qual st f (Ws x qual (wD st) (xa st) (zL st) .none kV doc pm an cdv ct):=⟨⟨oc,od,kV,doc,pm,an,cdv,ct,osl,rfl,l,c⟩,k⟩
end
def Iy (h:n<=1000):n<sizeLine:=Nat.lt_of_le_of_lt h (by decide)
def qW {B:Prop}(h:B):if false=true then A else B:=by
 rw[M7 QP];exact h
def g9 {B:Prop}(h:A):if true=true then A else B:=by
 rw[M6 rfl];exact h
def vH(env:Env):List (Str×Mn)->List (Str×Addr)->List (Str×Addr)
 |[],acc=>acc
 |(n,k)::r,acc=>if k == .free then vH env r ((n,(env.cells.lookup n).getD 0)::acc)else vH env r acc
theorem vT (f:Str×Mn->List (Str×Addr)->Sem (ForInStep (List (Str×Addr))))(hf:∀n k cs,f (n,k) cs=if k == .free then(do let a <-cellOf env n;pure (.yield ((n,a)::cs)))else pure (.yield cs)):
  ∀(names:List (Str×Mn)) (acc:List (Str×Addr)),(∀y∈names,y.2=.free->∃c,env.cells.lookup y.1=some c)->forIn names acc f=pure (vH env names acc)
 |[],acc,_=>by rw[List.forIn_nil];rfl
 |(n,k)::r,acc,h=>by
  have ih:=vT f hf r;rw[List.forIn_cons,hf];unfold vH;cases hk:k==NameKind.free with
  |true=>
   obtain⟨c,hc⟩:=h (n,k) QD (by simpa using hk);have hc':env.cells.lookup n=some c:=hc;have e1:cellOf env n=pure c:=by unfold cellOf;rw[hc']
   simp only[if_true,e1,hc',Ve,pure_bind];exact ih _ λy hy=>h y (Qh _ hy)
  |false=>
   simp only[Qy,if_false,pure_bind];exact ih _ λy hy=>h y (Qh _ hy)
def ju (h:∀y∈scope.names,y.2=.free->∃c,env.cells.lookup y.1=some c):closureFor scope env=pure (vH env scope.names []):=by
 unfold closureFor;simp only[];rw[vT (env:=env) _ (λn k cs=>by cases hk:k==NameKind.free<;>simp[hk]) scope.names [] h];rfl
theorem w6:∀{names:List (Str×Mn)}{acc:List (Str×Addr)},(∀z∈names,z.2=.free->∃c,env.cells.lookup z.1=some c)->(vH env names acc).lookup y=some c ->
  acc.lookup y=some c\/((y,NameKind.free)∈names/\env.cells.lookup y=some c)
 |[],acc,_,e=>.inl e
 |(n,k)::r,acc,h,e=>by
  unfold vH at e;have h':∀z∈r,z.2=.free->∃c,env.cells.lookup z.1=some c:=λz hz=>h z (Qh _ hz);cases hk:k==NameKind.free with
  |true=>
   have hk':k=.free:=by simpa using hk
   subst hk';rw[hk,M6 rfl]at e;rcases w6 h' e with q|⟨q1,q2⟩
   .rw[QU]at q;cases hy:y==n with
    |true=>
     rw[hy]at q;have:y=n:=by simpa using hy
     subst this;obtain⟨c',hc'⟩:=h (y,.free) QD rfl;have hc'':env.cells.lookup y=some c':=hc';rw[hc'']at q;refine .inr ⟨QD,?_⟩;rw[hc''];exact q
    |false=>rw[hy]at q;exact .inl q
   .exact .inr ⟨Qh _ q1,q2⟩
  |false=>
   rw[hk,M7 (by simp)]at e;rcases w6 h' e with q|⟨q1,q2⟩
   .exact .inl q
   .exact .inr ⟨Qh _ q1,q2⟩
theorem kC:∀{names:List (Str×Mn)}{acc:List (Str×Addr)},((y,NameKind.free)∈names\/(acc.lookup y).isSome=true)->((vH env names acc).lookup y).isSome=true
 |[],acc,h=>by
  rcases h with h|h
  .cases h
  .exact h
 |(n,k)::r,acc,h=>by
  unfold vH;cases hk:k==NameKind.free with
  |true=>
   rw[M6 rfl];refine kC ?_;rcases h with h|h
   .rcases Qp.mp h with e|e
    .cases e;exact .inr (by rw[QU];simp)
    .exact .inl e
   .refine .inr ?_;rw[QU];split
    .rfl
    .exact h
  |false=>
   rw[M7 (by simp)];refine kC ?_;rcases h with h|h
   .rcases Qp.mp h with e|e
    .cases e;cases hk
    .exact .inl e
   .exact .inr h
theorem mR:∀{names:List (Str×Mn)}{h:Ly}{acc:List (Str×Addr)},(Mq h.objs.size names acc).lookup y=some c ->
  acc.lookup y=some c\/(h.objs.size<=c/\(ME h names).IsCell c none/\(y,NameKind.cell)∈names)
 |[],h,acc,e=>.inl e
 |(n,k)::r,h,acc,e=>by
  unfold Mq at e;cases hk:k==NameKind.cell with
  |true=>
   have hk':k=.cell:=by simpa using hk
   subst hk';rw[hk,M6 rfl]at e;have ih:=mR (y:=y) (c:=c) (names:=r) (h:=h.push {cls:=.type "cell",data:=.cell none}) (acc:=(n,h.objs.size)::acc);rw[Vv]at ih;have hp:ME h ((n,NameKind.cell)::r)=ME (h.push {cls:=.type "cell",data:=.cell none}) r:=by
    exact M6 hk
   rcases ih e with q|⟨q1,q2,q3⟩
   .rw[QU]at q;cases hy:y==n with
    |true=>
     rw[hy]at q;cases q;have hyn:y=n:=by simpa using hy
     subst hyn;refine .inr ⟨Qj _,?_,QD⟩;rw[hp];exact⟨_,MF _ _ _ _ (QS _ rfl),rfl⟩
    |false=>rw[hy]at q;exact .inl q
   .exact .inr ⟨Qr (Vm _) q1,by rw[hp];exact q2,Qh _ q3⟩
  |false=>
   rw[hk,M7 (by simp)]at e;have hp:ME h ((n,k)::r)=ME h r:=by
    show(if(k==NameKind.cell)=true then _ else _)=_;rw[hk,M7 (by simp)]
   rcases mR e with q|⟨q1,q2,q3⟩
   .exact .inl q
   .exact .inr ⟨q1,by rw[hp];exact q2,Qh _ q3⟩
theorem mQ {lo:Nat}:∀{names:List (Str×Mn)}{n:Nat}{acc:List (Str×Addr)},((y,NameKind.cell)∈names\/∀c,acc.lookup y=some c->lo<=c)->lo<=n->(Mq n names acc).lookup y=some c->lo<=c
 |[],n,acc,h,_,e=>by
  rcases h with h|h
  .cases h
  .exact h c e
 |(m,k)::r,n,acc,h,hn,e=>by
  unfold Mq at e;cases hk:k==NameKind.cell with
  |true=>
   rw[hk,M6 rfl]at e;refine mQ ?_ (Qr hn (Vm _)) e;by_cases hy:y=m
   .subst hy;refine .inr λc hc=>?_;rw[QU,beq_self_eq_true]at hc;cases hc;exact hn
   .rcases h with h|h
    .rcases Qp.mp h with z|z
     .cases z;exact M8 rfl hy
     .exact .inl z
    .refine .inr λc hc=>?_;rw[QU]at hc;have:(y==m)=false:=by simpa using hy
     rw[this]at hc;exact h c hc
  |false=>
   rw[hk,M7 (by simp)]at e;refine mQ ?_ hn e;rcases h with h|h
   .rcases Qp.mp h with z|z
    .cases z;cases hk
    .exact .inl z
   .exact .inr h
theorem nG:∀{names:List (Str×Mn)}{n:Nat}{acc:List (Str×Addr)},(∀y z c,acc.lookup y=some c->acc.lookup z=some c->y=z)->(∀y c,acc.lookup y=some c->c<n) ->
  ∀y z c,(Mq n names acc).lookup y=some c->(Mq n names acc).lookup z=some c->y=z
 |[],n,acc,hi,_=>hi
 |(m,k)::r,n,acc,hi,hl=>by
  unfold Mq;cases hk:k==NameKind.cell with
  |true=>
   rw[M6 rfl];refine nG (λy z c e1 e2=>?_) λy c e=>?_
   .rw[QU]at e1 e2;cases hy:y==m<;>cases hz:z==m<;>rw[hy]at e1<;>rw[hz]at e2
    .exact hi y z c e1 e2
    .cases e2;exact M8 (hl y _ e1) (Q8 _)
    .cases e1;exact M8 (hl z _ e2) (Q8 _)
    .exact (by simpa using hy:y=m).trans (by simpa using hz:z=m).symm
   .rw[QU]at e;cases hy:y==m<;>rw[hy]at e
    .exact Vg (hl y c e)
    .cases e;exact Wh _
  |false=>
   rw[M7 (by simp)];exact nG hi hl
def qX (hQ:Q {scope:=scope,locals:=s.heap.objs.size,globals:=globals,cells:=Mq (s.heap.objs.size+1) scope.names cl,qual:=qual,func:=none,code:=outer.code,frame:=outer.frame,builtins:=outer.builtins}
   {s with heap:=ME (s.heap.push {cls:=.type "dict",data:=.dict #[]}) scope.names}):
  LK M A (MG scope globals cl [] qual none .none (some outer)) Q E s:=by
 simp only[MG,Option.isSome_some,if_true];refine LZ (wpAny_alloc ?_);refine LZ (wpAny_layCells _ (λname kind cells=>by cases hkc:kind==NameKind.cell<;>simp[hkc]) _ _ _ _ ?_);rw[show({s with heap:=s.heap.push {cls:=.type "dict",data:=.dict #[]} }:Shared).heap.objs.size=s.heap.objs.size+1 from Vv ..];simp only[List.forIn_nil];exact LZ (L7 (L7 hQ))
def yn:(MJ scope env).names.lookup y=(scope.names.lookup y).map λk=>if(k==NameKind.free&&env.scope.kind == .function&&env.kindOf y==some .cell)then NameKind.cell else k:=by
 have all:∀l:List (Str×Mn),(l.map λ(n,k)=>if(k==NameKind.free&&env.scope.kind == .function&&env.kindOf n==some .cell)then(n,NameKind.cell)else(n,k)).lookup y=(l.lookup y).map λk=>if(k==NameKind.free&&env.scope.kind == .function&&env.kindOf y==some .cell)then NameKind.cell else k:=by
  intro l
  induction l with
  |nil=>rfl
  |cons p r ih=>
   obtain⟨n,k⟩:=p;rw[QR,QU];by_cases hc:(k==NameKind.free&&env.scope.kind == .function&&env.kindOf n==some .cell)=true
   .simp only[hc,if_true,QU];cases hy:y==n with
    |true=>
     have:y=n:=by simpa using hy
     subst this;simp only[QJ,hc,if_true]
    |false=>exact ih
   .simp only[M7 hc,QU];cases hy:y==n with
    |true=>
     have:y=n:=by simpa using hy
     subst this;simp only[QJ,M7 hc]
    |false=>exact ih
 exact all scope.names
def lK(x:Str):Str:=⟨x.cps.push 0⟩
def yF(N xs:List Str):List Str:=(N.map λy=>if y∈xs then lK y else y)++xs
def Ix(N xs:List Str):(yF N xs).length=N.length+xs.length:=by simp[yF]
def vI(N xs:List Str)(j:Nat):(yF N xs)[N.length+j]?=xs[j]?:=by
 unfold yF;rw[Qi (by simp)];simp
def Iw (hi:i<N.length)(h:(yF N xs)[i]?=some y):(∃x∈xs,y=lK x)\/(N[i]?=some y/\y∉xs):=by
 unfold yF at h;rw[Qg (by simpa using hi),Qv]at h;obtain⟨z,hz⟩:∃z,N[i]?=some z:=⟨N[i],by simp[hi]⟩;rw[hz]at h;by_cases e:z∈xs
 .simp only[QJ,M6 e]at h;exact .inl ⟨z,e,(Option.some.inj h).symm⟩
 .simp only[QJ,M7 e]at h;have e2:z=y:=Option.some.inj h;subst e2;exact .inr ⟨hz,e⟩
structure bz(X:Cx)(scope:Lo)(xs:List Str)(Xc:Cx):Prop where
 prog:Xc.prog=X.prog
 w:Xc.w=X.w
 K:Xc.K=X.K
 mg:Xc.mg=X.mg
 base:Xc.base=X.base
 A:Xc.A=X.A
 N:Xc.N=yF X.N xs
 sc:Xc.env.scope=MJ scope X.env
 calm:Xc.calm=true
 stack:Xc.stack=X.stack
def fI(X:Cx)(ifs:List Expr)(t:TT):Prop:=
 ∀(pins:List (Addr×Obj)) (s:Shared) (σ:St) (H:Hp) (Q:Bool->Hp->Prop),Inv X pins σ H s->t σ H Q ->
  LK (LL X.prog X.w) X.A (forIn ifs true λc r=>if r=true then do let ok <-isTrue c X.env (eval c X.env);pure (ForInStep.yield ok)else pure (ForInStep.yield r)) (TP X pins σ Q) X.xe s
def vU:fI X [] (λ_ H Q=>Q true H):=λ_ _ _ H _ I h=>wpAny_tests_nil ⟨H,I,h⟩
def qc (h:PT X c t):fI X [c] t:=λpins s σ H Q I q=>wpAny_tests_one (h pins s σ H Q I q)
structure bM(X:Cx)(scope:Lo)(xs:List Str):Prop where
 kind:scope.kind=.function
 own:∀x∈xs,scope.names.lookup x=some .local\/scope.names.lookup x=some .cell
 locs:∀y∈scope.names,y.2=.local->scope.names.lookup y.1=some .local
 free:∀y∈scope.names,y.2=.free->X.env.scope.names.lookup y.1=some .cell\/X.env.scope.names.lookup y.1=some .free
 alone:∀y∈X.N,y∉xs->scope.names.lookup y≠some .local/\scope.names.lookup y≠some .cell
 one:∀y∈scope.names,y.2=.cell->scope.names.lookup y.1≠some .free
 nd:(yF X.N xs).Nodup
 dumN:∀x∈xs,scope.names.lookup (lK x)=none
def qd{prog:Lr}{w:Ls}{A:LG}{R:Result->Shared->Prop}{s:Shared}{elt target iter:Expr}{ifs:List Expr}{scope:Lo}{pos:Pos}{it acc:Value}{env:Env}(I:Nat->Shared->Prop)
  (turn:∀n s,I n s->LK (LL prog w) A (pyNext it) (λr s₁=>match r with
   |none=>R (.ok .next) s₁
   |some v=>LK (LL prog w) A (L6 target it v) (λ_ s₁'=>LK (LL prog w) A (assign target env v) (λ_ s₂=>
     LK (LL prog w) A (forIn ifs true λc r=>if r=true then do let ok <-isTrue c env (eval c env);pure (ForInStep.yield ok)else pure (ForInStep.yield r)) (λok s₃=>
      if ok=true then LK (LL prog w) A (eval elt env) (λx s₄=>
       LK (LL prog w) A (call (.builtin "list.append") [acc,x]) (λ_ s₅=>∃m,m<n/\I m s₅) (MK (LL prog w) A env λe s'=>R (.error e) s') s₄) (MK (LL prog w) A env λe s'=>R (.error e) s') s₃
      else ∃m,m<n/\I m s₃) (MK (LL prog w) A env λe s'=>R (.error e) s') s₂) (MK (LL prog w) A env λe s'=>R (.error e) s') s₁') (MK (LL prog w) A env λe s'=>R (.error e) s') s₁) (MK (LL prog w) A env λe s'=>R (.error e) s') s)
  (n:Nat) (h:I n s):Mk (LL prog w) A (.compLoop (.ListComp elt [⟨target,iter,ifs,0⟩] scope pos) 0 it acc env) R s:=by
 refine codeAny_loop rfl I (λn s hI=>?_) n h;show LK _ A ((compTurn (.ListComp elt [⟨target,iter,ifs,0⟩] scope pos) 0 it acc env).onRaise (λx=>do noteFrame x env;theTreesLotGoes x)) _ _ s;refine wpAny_noted ?_;rw[compTurn_list];refine LZ (L4 (LZ (LO (turn n s hI) (λr s₁ h₁=>?_) λ_ _ h'=>h')));cases r with
 |none=>exact L7 h₁
 |some v=>
  refine LZ (LO h₁ (λ_ s₁' h₁'=>?_) λ_ _ h'=>h');refine LZ (LO h₁' (λ_ s₂ h₂=>LZ (LO h₂ (λok s₃ h₃=>?_) λ_ _ h'=>h')) λ_ _ h'=>h');cases ok with
  |false=>exact L7 ⟨rfl,h₃⟩
  |true=>
   exact LZ (LZ (LO h₃ (λx s₄ h₄=>LZ (LO h₄ (λ_ s₅ h₅=>L7 (L7 ⟨rfl,h₅⟩)) λ_ _ h'=>h')) λ_ _ h'=>h'))
def kW(un:V->Hp->List V->Prop)(wi:TI)(tc:TT)(te:TE):TE:=λσ H Q=>wi σ H λJ H1=>∀D,H1 D=none->∃W:Nat->Nat->List V->Hp->Prop,(∃m,W 0 m [] (aJ H1 D (.lst [])))/\∀i m ys H,W i m ys H ->
 (J.stop i H/\Q (.ref D) H)\/(J.go i H/\∀v H',J.yld i H v H'->∃vs,un v H' vs/\tc (σ++vs.map some) H' λb H2=>if b=true then te (σ++vs.map some) H2 λy H3=>H3 D=some (.lst ys)/\ys.length<sizeLine/\∃m',m'<m/\W (i+1) m' (ys++[y]) (aJ H3 D (.lst (ys++[y])))
  else ∃m',m'<m/\W (i+1) m' ys H2)
def jv {un:V->Hp->List V->Prop}(B:bM X scope xs)(hc:X.calm=true)(hpg:∀Xc,bz X scope xs Xc->(∀x∈xs,Loc Xc.env.scope x/\(Xc.fn x=true\/Xc.env.scope.names.lookup x=some .local))->PG Xc tg g)(hun:∀v H vs os,os.length=xs.length->un v H vs->vs.length=xs.length/\g v (σ++os) H λσ2 H2=>σ2=σ++vs.map some/\H2=H)(hbody:∀Xc,bz X scope xs Xc->fI Xc ifs tc/\PE Xc elt te)(I:Inv X pins σ H s)(T:dz X.prog X.w X.K tg J fp it tn)(st:tn 0 s.heap)(hfp:∀b∈fp,jb X pins H b)(W:Nat->Nat->List V->Hp->Prop)(m0:Nat)(w0:W 0 m0 [] H)(turn:∀i m ys H,W i m ys H->(J.stop i H/\∀s' m' C,Inv X pins σ H s'->s'.heap.Ns C m'->s.heap.objs.size<=C->H C=none->compPost (LL X.prog X.w) X.A X.xe use Q (.ref D) C (.ok .next) s') \/
   (J.go i H/\∀v H',J.yld i H v H'->∃vs,un v H' vs/\tc (σ++vs.map some) H' λb H2=>if b=true then te (σ++vs.map some) H2 λy H3=>H3 D=some (.lst ys)/\ys.length<sizeLine/\∃m',m'<m/\W (i+1) m' (ys++[y]) (aJ H3 D (.lst (ys++[y])))
    else ∃m',m'<m/\W (i+1) m' ys H2)):
  LK (LL X.prog X.w) X.A (MG scope X.env.globals (vH X.env scope.names []) [] X.env.qual none .none (some X.env)) (λcenv s₄=>
   Mk (LL X.prog X.w) X.A (.compStart (.ListComp elt [⟨tg,iter,ifs,0⟩] scope pos) 0 (.ref it) (.ref D) {cenv with scope:=MJ scope X.env}) (compPost (LL X.prog X.w) X.A X.xe use Q (.ref D) cenv.locals) s₄) X.xe s:=by
 refine qX ?_;have hcl:∀y∈scope.names,y.2=.free->∃c,X.env.cells.lookup y.1=some c:=λy hy hf=>by
  rcases B.free y hy hf with q|q
  .exact I.ok.has y.1 (.inl q)
  .exact I.ok.has y.1 (.inr q)
 -- the block's own parts
 generalize hC:s.heap.objs.size=C;generalize hcs:Mq (C+1) scope.names (vH X.env scope.names [])=cs;generalize hh4:ME (s.heap.push {cls:=.type "dict",data:=.dict #[]}) scope.names=h4;have szP:(s.heap.push {cls:=.type "dict",data:=.dict #[]}).objs.size=C+1:=by rw[Vv,hC]
 have keep4:∀b o,s.heap.get? b=some o->h4.get? b=some o:=λb o e=>hh4▸MF _ _ _ _ (Qw _ e);have nsC:h4.Ns C (λ_=>none):=by
  have q:=(Heap.Ns.new s.heap (.type "dict")).keeps (MF scope.names (s.heap.push {cls:=.type "dict",data:=.dict #[]}));rw[hC,hh4]at q;exact q
 -- a cell of the block: one of its own,or one of those around
 have csIn:∀y c,cs.lookup y=some c->((y,NameKind.free)∈scope.names/\X.env.cells.lookup y=some c)\/(C+1<=c/\h4.IsCell c none/\(y,NameKind.cell)∈scope.names):=λy c e=>by
  have q:=mR (y:=y) (c:=c) (names:=scope.names) (h:=s.heap.push {cls:=.type "dict",data:=.dict #[]}) (acc:=vH X.env scope.names []);rw[szP,hcs,hh4]at q;rcases q e with q|q
  .rcases w6 hcl q with z|z
   .cases z
   .exact .inl z
  .exact .inr q
 have oldC:∀y c,X.env.cells.lookup y=some c->c<C:=λy c e=>by
  obtain⟨v,q⟩:=I.cell y c e;rw[<-hC];exact q.lt
 have fpC:∀b∈fp,b<C:=λb hb=>by
  obtain⟨o,e,_⟩:=T.obj _ _ st b hb;rw[<-hC];exact Qk e
 let cenv:Env:={scope:=MJ scope X.env,locals:=C,globals:=X.env.globals,cells:=cs,qual:=X.env.qual,func:=none,code:=X.env.code,frame:=X.env.frame,builtins:=X.env.builtins}
 let RR:Result->Shared->Prop:=compPost (LL X.prog X.w) X.A X.xe use Q (.ref D) C
 let Xc:Cx:={X with N:=yF X.N xs,s₀:=s,H₀:=H,env:=cenv,outer:=X.stack,stack:=X.stack,ex:=fp,fn:=λy=>decide (scope.names.lookup y=some .cell),calm:=true,pn:=[],xe:=MK (LL X.prog X.w) X.A cenv λe s'=>RR (.error e) s' }
 have hXc:bz X scope xs Xc:=⟨rfl,rfl,rfl,rfl,rfl,rfl,rfl,rfl,rfl,rfl⟩;obtain⟨hT,hE⟩:=hbody Xc hXc;have ok:Xc.Ok:=by
  refine⟨I.ok.mod,B.kind,I.ok.glob,I.ok.blt,Vh hC,?_,λy hy=>?_,λy c hf e=>?_,λ_=>I.ok.hd hc,I.ok.frames,.inl rfl,λb hb=>⟨QM (fpC b hb),λy c e=>?_⟩,I.bs,Qr I.ok.bsz I.sz,λb o e hb=>?_,λb hb hf=>?_,I.stack,I.stkFree⟩
  .show ∀y z c,cs.lookup y=some c->cs.lookup z=some c->y=z;rw[<-hcs];refine nG (λy z c e1 e2=>?_) λy c e=>?_
   .rcases w6 hcl e1 with q|q
    .cases q
    .rcases w6 hcl e2 with q'|q'
     .cases q'
     .exact I.ok.inj y z c q.2 q'.2
   .rcases w6 hcl e with q|q
    .cases q
    .exact Vg (oldC y c q.2)
  .have hy':(MJ scope X.env).names.lookup y=some .cell\/(MJ scope X.env).names.lookup y=some .free:=hy;rw[yn]at hy';show ∃c,cs.lookup y=some c;rw[<-hcs];refine Q4.mp (WU _ _ _ ?_);cases hk:scope.names.lookup y with
   |none=>rw[hk]at hy';rcases hy' with z|z<;>cases z
   |some k=>
    rw[hk]at hy';have kk:k=.cell\/k=.free:=by
     simp only[QJ]at hy';by_cases hcnd:(k==NameKind.free&&X.env.scope.kind == .function&&X.env.kindOf y==some .cell)=true
     .refine .inr ?_;have:=(QC.mp (QC.mp hcnd).1).1;simpa using this
     .rw[M7 hcnd]at hy';rcases hy' with z|z
      .exact .inl (Option.some.inj z)
      .exact .inr (Option.some.inj z)
    rcases kk with rfl|rfl
    .exact .inl rfl
    .exact .inr (kC (.inl (PySem.mem_of_lookup hk)))
  .show s.heap.objs.size<=c;rw[hC];have e':cs.lookup y=some c:=e;rw[<-hcs]at e';exact Qr (Vm _) (mQ (lo:=C+1) (.inl (PySem.mem_of_lookup (Nb hf))) (Qj _) e')
  .show c≠b;rintro rfl;rcases csIn y c e with⟨_,z⟩|⟨z,_,_⟩
   .exact (hfp c hb).2.2.2.2.1 y c z rfl
   .exact M8 (Qe (fpC c hb) (Qr (Vm _) z)) (Q8 _)
  .rcases (hfp b hb).2.2.2.1 with z|z
   .exact I.ok.noex b o e z
   .exact M8 (Qe (Qk (I.ok.bs b o e).1) z) (Q8 _)
  .rcases Qp.mp (I.stkSub b hf)with z|z
   .exact (hfp b hb).2.1 z
   .exact (hfp b hb).2.2.1 z
 have frC:H C=none:=I.hok.fresh (Vh hC);have frN:∀c,C<=c->H c=none:=λc hc'=>I.hok.fresh (by rw[hC];exact hc');have hσ:σ.length=X.N.length:=I.len;have I4:Inv Xc [] (σ++xs.map λ_=>none) H {s with heap:=h4}:=by
  refine⟨ok,rfl,I.bare,Un.kept keep4,⟨_,nsC,λi y v e1 e2 e3=>?_⟩,λy c e=>?_,frC,λy c e=>?_,λp hp=>M8 (show p∈([]:List (Addr×Obj))from hp) (by simp),I.hok.kept keep4,?_⟩
  .have hi:i<σ.length:=by
    by_cases hi:i<σ.length
    .exact hi
    .rw[Qi (by lia),Qv]at e2;cases hz:xs[i-σ.length]? with
     |none=>rw[hz]at e2;simp at e2
     |some k=>rw[hz]at e2;simp at e2
   rw[Qg hi]at e2;have vis:scope.names.lookup y=some .local\/scope.names.lookup y=some .cell\/scope.names.lookup y=some .free:=by
    have e3':ii (MJ scope X.env) y:=e3;unfold ii at e3';rw[yn]at e3';cases hk:scope.names.lookup y with
    |none=>rw[hk]at e3';rcases e3' with z|z|z<;>cases z
    |some k=>
     rw[hk]at e3';simp only[QJ]at e3';by_cases hcnd:(k==NameKind.free&&X.env.scope.kind == .function&&X.env.kindOf y==some .cell)=true
     .have:=(QC.mp (QC.mp hcnd).1).1;exact .inr (.inr (by rw[show k=.free by simpa using this]))
     .rw[M7 hcnd]at e3';exact e3'
   rcases Iw (by rw[<-hσ];exact hi) e1 with z|⟨z,zx⟩
   .obtain ⟨x,hx,z⟩:=z;subst z;rw[B.dumN x hx]at vis;rcases vis with q|q|q<;>cases q
   .have hfree:scope.names.lookup y=some .free:=by
     rcases vis with q|q|q
     .exact M8 q (B.alone y (Qo z) zx).1
     .exact M8 q (B.alone y (Qo z) zx).2
     .exact q
    have kout:=B.free _ (PySem.mem_of_lookup hfree) rfl;obtain⟨m,hn,hl⟩:=I.loc;obtain⟨u,r,l⟩:=hl i y v z e2 (kout.elim (λq=>.inr (.inl q)) λq=>.inr (.inr q));refine⟨u,r,?_⟩;rcases l with⟨k,_⟩|⟨_,c,ec,zc⟩
    .have k':X.env.scope.names.lookup y=some .local:=k;rcases kout with q|q<;>rw[k']at q<;>cases q
    .have hsome:∃c',cs.lookup y=some c':=ok.has y (by
      show(MJ scope X.env).names.lookup y=some .cell\/(MJ scope X.env).names.lookup y=some .free;rw[yn,hfree];simp only[QJ];split
      .exact .inl rfl
      .exact .inr rfl)
     obtain⟨c',ec'⟩:=hsome;refine .inr ⟨?_,c',ec',?_⟩
     .show (MJ scope X.env).names.lookup y=some .cell\/(MJ scope X.env).names.lookup y=some .free;rw[yn,hfree];simp only[QJ];split
      .exact .inl rfl
      .exact .inr rfl
     .rcases csIn y c' ec' with⟨_,q⟩|⟨_,_,q⟩
      .rw[ec]at q;cases q;exact zc.keeps keep4
      .exact M8 hfree (B.one (y,.cell) q rfl)
  .rcases csIn y c e with⟨_,q⟩|⟨_,q,_⟩
   .obtain ⟨v,z⟩:=I.cell y c q;exact⟨v,z.keeps keep4⟩
   .exact ⟨_,q⟩
  .rcases csIn y c e with⟨_,q⟩|⟨q,_,_⟩
   .exact I.freeC y c q
   .exact frN c (by lia)
  .show (σ++xs.map λ_=>none).length=(yF X.N xs).length;rw[Ix,QW,hσ,Qn]
 -- the loop
 have hLoc:∀x∈xs,Loc Xc.env.scope x/\(Xc.fn x=true\/Xc.env.scope.names.lookup x=some .local):=λx hx=>by
  constructor
  .show (MJ scope X.env).names.lookup x=some .local\/(MJ scope X.env).names.lookup x=some .cell;rw[yn];rcases B.own x hx with q|q<;>rw[q]
   .exact .inl rfl
   .exact .inr rfl
  .rcases B.own x hx with q|q
   .refine .inr ?_;show(MJ scope X.env).names.lookup x=some .local;rw[yn,q];rfl
   .exact .inl (Na q)
 have hg:PG Xc tg g:=hpg Xc hXc hLoc;have fpX:∀{H':Hp},(∀b∈fp,H' b=none)->∀b∈fp,jb Xc [] H' b:=λhn b hb=>
  ⟨hn b hb,QM (fpC b hb),λz=>ok.exfs b hb z,.inl hb,λy c e=>(ok.exf b hb).2 y c e,λp hp=>M8 (show p∈([]:List (Addr×Obj))from hp) (by simp)⟩
 have loop:Mk (LL X.prog X.w) X.A (.compLoop (.ListComp elt [⟨tg,iter,ifs,0⟩] scope pos) 0 (.ref it) (.ref D) cenv) RR {s with heap:=h4}:=by
  refine qd (λn s'=>∃i os ys H',os.length=xs.length/\Inv Xc [] (σ++os) H' s'/\tn i s'.heap/\(∀b∈fp,H' b=none)/\W i n ys H') ?_ m0 ⟨0,_,[],H,Qn _,I4,T.keep _ _ _ st λb _ o e=>keep4 b o e,λb hb=>(hfp b hb).1,w0⟩;rintro n s3 ⟨i,os,ys,H3,hos,I3,dJ,fr3,w3⟩;rcases turn i n ys H3 w3 with⟨stop,fin⟩|⟨go,step⟩
  .refine aZ (T.done Xc rfl rfl rfl rfl i [] s3 (σ++os) H3 Xc.xe I3 (fpX fr3) dJ stop) λr s4 ⟨hr,I4⟩=>?_;subst hr;obtain⟨m,hn,_⟩:=id I4.loc;refine fin s4 m C ?_ hn (Vh hC) I4.free;exact I.call' (ch:=fp) I4.os I4.base I4.hok I4.bare λb hb=>⟨(hfp b hb).2.2.2.1,(hfp b hb).2.1,(hfp b hb).2.2.2.2.1,(hfp b hb).2.2.2.2.2⟩
  .refine aZ (T.item Xc rfl rfl rfl rfl i [] s3 (σ++os) H3 Xc.xe I3 (fpX fr3) dJ go) λr s4 ⟨u,hr,h4'⟩=>?_;subst hr;refine aZ h4' λ_ s5 ⟨v,H5,I5,r5,y5,st5,fr5⟩=>?_;have I5':=I5.pinned (fpX fr5) (T.obj _ _ st5);obtain⟨vs,hvs,step5⟩:=step v H5 y5;obtain⟨hvl,hset⟩:=hun v H5 vs os hos hvs;refine aZ (hg _ s5 (σ++os) H5 v u (λσ2 H2=>σ2=σ++vs.map some/\H2=H5) I5' r5 hset) λ_ s6 ⟨σ6,H6,I6,e6,e6'⟩=>?_;subst e6;subst e6';have back:∀{H7:Hp}{s7:Shared},Inv Xc ([]++jr fp s5.heap) (σ++vs.map some) H7 s7->tn (i+1) s7.heap/\(∀b∈fp,H7 b=none)/\Inv Xc [] (σ++vs.map some) H7 s7:=λ{H7 s7} I7=>by
    refine⟨T.keep _ _ _ st5 λb hb ob e=>(I7.pin (b,ob) (Qs _ (Qs _ (wC hb e)))).1,λb hb=>?_,I7.unpinned⟩;obtain⟨ob,e,_⟩:=T.obj _ _ st5 b hb;exact(I7.pin (b,ob) (Qs _ (Qs _ (wC hb e)))).2.1
   refine aZ (hT _ s6 (σ++vs.map some) H6 _ I6 step5) λb s7 ⟨H7,I7,q7⟩=>?_;cases b with
   |false=>
    rw[M7 QP]at q7 ⊢;obtain⟨m',hm,w7⟩:=q7;obtain⟨t1,t2,t3⟩:=back I7;exact⟨m',hm,i+1,_,ys,H7,(by rw[Qn];exact hvl),t3,t1,t2,w7⟩
   |true=>
    rw[M6 rfl]at q7 ⊢;refine aZ (hE _ s7 (σ++vs.map some) H7 _ I7 q7) λyv s8 ⟨y,H8,I8,r8,hD8,hl8,m',hm,w8⟩=>?_;refine aZ (gz (X:=Xc) _ s8 (σ++vs.map some) H8 (.ref D) [y] (.ref D) [yv] (λ_ H9=>H9=aJ H8 D (.lst (ys++[y]))) I8 rfl (.cons r8 .nil) ⟨D,ys,y,rfl,rfl,hD8,hl8,rfl⟩) λ_ s9 ⟨_,H9,I9,_,e9⟩=>?_;subst e9;obtain⟨t1,t2,t3⟩:=back I9;exact⟨m',hm,i+1,_,ys++[y],_,(by rw[Qn];exact hvl),t3,t1,t2,w8⟩
 refine codeAny_compStart_list loop ?_;exact T.self X.A 0 _ _ _ (T.keep _ _ _ st λb _ o e=>keep4 b o e) loop
section
variable{X:Cx}{elt iter tg:Expr}{xs:List Str}{y:Str}{g:TG}{un:V->Hp->List V->Prop}{py:Pos}{ifs:List Expr}{scope:Lo}{pos spos:Pos}{wi:TI}{tc:TT}{te:TE}
def Inv.aside{pins:List (Addr×Obj)}{σ:St}{H:Hp}{s:Shared}{C lo:Addr}{h':Ly}(I:Inv X pins σ H s)(hlo:lo<=C)(hL:X.env.locals<lo)(hcell:∀y c,X.env.cells.lookup y=some c->c<lo)(hpin:∀p∈X.pn++pins,p.1<lo)
  (hn:H C=none) (hs:WC C s.heap h'):Inv X pins σ H {s with heap:=h' } :=
 I.turned (it:=C) (t':=s.toks) (λb o hb e=>(hs.2 b hb).trans e) hn (WK (Qe hL hlo)) (.inr (Qr I.ok.above (Qr (WL hL) hlo)))
  (λy c e=>QM (Qe (hcell y c e) hlo)) λp hp=>QM (Qe (hpin p hp) hlo)
def Inv.below (I:Inv X pins σ H s):X.env.locals<s.heap.objs.size/\(∀y c,X.env.cells.lookup y=some c->c<s.heap.objs.size)/\∀p∈X.pn++pins,p.1<s.heap.objs.size:=
 ⟨I.lt,λy c e=>let⟨_,z⟩:=I.cell y c e;z.lt,λp hp=>Qk (I.pin p hp).1⟩
def vC(B:bM X scope xs)(ok:X.Ok):closureFor scope X.env=pure (vH X.env scope.names []):=
 ju λy hy hf=>(B.free y hy hf).elim (λq=>ok.has y.1 (.inl q)) λq=>ok.has y.1 (.inr q)
structure iS(X:Cx)(scope:Lo)(xs:List Str)(tg:Expr)(g:TG)(un:V->Hp->List V->Prop):Prop where
 pg:∀Xc,bz X scope xs Xc->(∀x∈xs,Loc Xc.env.scope x/\(Xc.fn x=true\/Xc.env.scope.names.lookup x=some .local))->PG Xc tg g
 un:∀v H vs os (σ:St),σ.length=X.N.length->os.length=xs.length->un v H vs->vs.length=xs.length/\g v (σ++os) H λσ2 H2=>σ2=σ++vs.map some/\H2=H
def ly(v:V)(_:Hp)(vs:List V):Prop:=vs=[v]
def tL{α:Type}{l:List α}(h:l.length=1):∃a,l=[a]:=by
 cases l with
 |nil=>cases h
 |cons a t=>
  cases t with
  |nil=>exact⟨a,rfl⟩
  |cons b t=>cases h
def tK{α:Type}{l:List α}(h:l.length=2):∃a b,l=[a,b]:=by
 cases l with
 |nil=>cases h
 |cons a t=>
  obtain⟨b,rfl⟩:=tL (Nat.succ.inj h);exact⟨a,b,rfl⟩
def ji (B:bM X scope [x]):iS X scope [x] (.Name x px) (xl X.N.length) ly:=by
 refine⟨λXc c h=>?_,λv H vs os σ hσ ho hv=>?_⟩
 .exact y8 (by rw[c.N];exact B.nd) (by rw[c.N];exact vI X.N [x] 0) (h x (by simp)).1 (h x (by simp)).2
 .cases hv;refine⟨rfl,?_,rfl⟩;obtain⟨o,rfl⟩:=tL ho;rw[<-hσ,W3 _ _ (Qj _)];simp
def iJ(K:Qb)(v:V)(H:Hp)(vs:List V):Prop:=∃a,v=.ref a/\cf K H a vs/\vs.length=2
def jj (hc:X.calm=true)(B:bM X scope [x,y]):iS X scope [x,y] (.Tuple [.Name x px,.Name y py] k pt) (iC X.K 2 (wr (xl X.N.length) (wr (xl (X.N.length+1)) fP))) (iJ X.K):=by
 refine⟨λXc c h=>?_,λv H vs os σ hσ ho hv=>?_⟩
 .have nd:Xc.N.Nodup:=by rw[c.N];exact B.nd
  rw[<-c.K];exact gW c.calm (y9 (y8 nd (by rw[c.N];exact vI X.N [x,y] 0) (h x (by simp)).1 (h x (by simp)).2) (y9 (y8 nd (by rw[c.N];exact vI X.N [x,y] 1) (h y (by simp)).1 (h y (by simp)).2) jh))
 .obtain ⟨a,e1,e2,e3⟩:=hv;obtain⟨u,w,rfl⟩:=tK e3;obtain⟨o,p,rfl⟩:=tK ho;refine⟨rfl,a,[u,w],e1,e2,rfl,u,[w],rfl,w,[],rfl,rfl,?_,rfl⟩;rw[<-hσ,W3 _ _ (Qj _),W3 _ _ (by lia)];simp
def w9(B:bM X scope xs)(hc:X.calm=true)(hT:iS X scope xs tg g un)(hi:PI X tg iter wi)(hbody:∀Xc,bz X scope xs Xc->fI Xc ifs tc/\PE Xc elt te)
  (hs:∀v,Ma iter X.env v=pure v:=by intro _;rfl):PE X (.ListComp elt [⟨tg,iter,ifs,0⟩] scope pos) (kW un wi tc te):=by
 intro pins s σ H Q I h;rw[eval_ListComp];refine ML (use:=none) (cl:=vH X.env scope.names []) rfl hs (vC B I.ok) B.kind B.locs ?_;refine aZ (hi pins s σ H _ I h) λxv s1 h1=>aZ h1 λitv s2 h2=>?_;obtain⟨it,fp,tn,J,H2,e,I2,T,du,f2,q2⟩:=h2;subst e;refine wpAny_newObj_type ?_;have I3:=I2.lnew (its:=[]) (ys:=[]) (t':=s2.toks) .nil (WS _);obtain⟨W,⟨m0,w0⟩,turn⟩:=q2 s2.heap.objs.size (I2.hok.fresh (Qj _));have fp3:∀b∈fp,jb X pins (aJ H2 s2.heap.objs.size (.lst [])) b:=λb hb=>by
  obtain⟨o,e,_⟩:=T.obj _ _ du b hb;exact⟨by rw[zj (QM (Qk e))];exact(f2 b hb).1,(f2 b hb).2⟩
 obtain⟨b1,b2,b3⟩:=I3.below;refine jv B hc hT.pg (λv H vs os h1 h2=>hT.un v H vs os σ I.len h1 h2) hbody I3 T (T.keep _ _ _ du λb _ o e=>Qw _ e) fp3 W m0 w0 λi m ys H4 w=>?_;rcases turn i m ys H4 w with⟨stop,q⟩|r
 .exact .inl ⟨stop,λs' m' C I' hn hC hCn=>⟨m',hn,λh' hsb=>⟨.ref s2.heap.objs.size,H4,I'.aside hC b1 b2 b3 hCn hsb,rfl,q⟩⟩⟩
 .exact .inr r
def Jc (B:bM X scope xs)(hc:X.calm=true)(hT:iS X scope xs tg g un)(hi:PI X tg iter wi)(hbody:∀Xc,bz X scope xs Xc->fI Xc ifs tc/\PE Xc elt te)(hN:X.N.Nodup)(hy:X.N[i]?=some y)(hx:Loc X.env.scope y)(hf:X.fn y=true\/X.env.scope.names.lookup y=some .local)(hsw:LV (.ListComp elt [⟨tg,iter,ifs,0⟩] scope pos) (some (.Name y py)) spos.line X.env=pure true)(hs:∀v,Ma iter X.env v=pure v:=by intro _;rfl):PS X (.Assign [.Name y py] (.ListComp elt [⟨tg,iter,ifs,0⟩] scope pos) spos) (fN (kW un wi tc te) (xl i)):=by
 intro pins s σ H D I h;rw[exec_Assign_Name_used _ _ _ _ hsw];refine LZ (L4 (LZ ?_));show LK _ X.A (do let _ <-comprehension (.ListComp elt [⟨tg,iter,ifs,0⟩] scope pos) scope X.env _ (newList []) false (eval iter X.env) (some (assign (.Name y py) X.env))) _ _ s;refine LZ (LO (ML (use:=some (assign (.Name y py) X.env)) (cl:=vH X.env scope.names []) (Q:=λ_ s'=>SP X pins D .next s') rfl hs (vC B I.ok) B.kind B.locs ?_)
  (λ_ s' hq=>L7 (L7 hq)) λ_ _ e=>e)
 refine aZ (hi pins s σ H _ I h) λxv s1 h1=>aZ h1 λitv s2 h2=>?_;obtain⟨it,fp,tn,J,H2,e,I2,T,du,f2,q2⟩:=h2;subst e;refine wpAny_newObj_type ?_;have I3:=I2.lnew (its:=[]) (ys:=[]) (t':=s2.toks) .nil (WS _);obtain⟨W,⟨m0,w0⟩,turn⟩:=q2 s2.heap.objs.size (I2.hok.fresh (Qj _));have fp3:∀b∈fp,jb X pins (aJ H2 s2.heap.objs.size (.lst [])) b:=λb hb=>by
  obtain⟨o,e,_⟩:=T.obj _ _ du b hb;exact⟨by rw[zj (QM (Qk e))];exact(f2 b hb).1,(f2 b hb).2⟩
 obtain⟨b1,b2,b3⟩:=I3.below;refine jv B hc hT.pg (λv H vs os h1 h2=>hT.un v H vs os σ I.len h1 h2) hbody I3 T (T.keep _ _ _ du λb _ o e=>Qw _ e) fp3 W m0 w0 λi' m ys H4 w=>?_;rcases turn i' m ys H4 w with⟨stop,q⟩|r
 .refine .inl ⟨stop,λs' m' C I' hn hC hCn=>?_⟩;refine wpAny_assign_Name (gm I' hN hy hx (v:=.ref s2.heap.objs.size) rfl (λs'' I'' ⟨a,sb,ha⟩=>?_) hf);have hCa:C≠a:=by
   rcases ha with rfl|ha
   .exact WK (Qe b1 hC)
   .exact WK (Qe (b2 _ _ ha) hC)
  exact⟨m',hn.sameBut sb hCa,λh' hsb=>⟨_,H4,I''.aside hC b1 b2 b3 hCn hsb,q⟩⟩
 .exact .inr r
end
section
variable{X:Cx}
theorem ay.at (h:ay xs us){i:Nat}(e:us[i]?=some u):∃x,xs[i]?=some x/\RelV x u:=by
 have hl:=h.length;have hi:=(Qa.mp e).1;have hx:xs[i]?=some xs[i]:=Qf (by lia);obtain⟨u',h1,h2⟩:=h.get hx;rw[e]at h1;cases h1;exact⟨_,hx,h2⟩
def B7(ta:TA):TE:=λσ H Q=>ta σ H λvs H1=>∃j:Int,vs=[.int j]/\-(2^30)<=j/\j<2^24/\j.toNat<=sizeLine/\∀l,H1 l=none->Q (.ref l) (aJ H1 l (.lst ((QH j.toNat).map λ(i:Nat)=>V.int ((0:Int)+1*(i:Int)))))
def E1 (hc:X.calm=true)(hgl:Gl X "list")(hml:X.mg "list"=none)(hg:Gl X "range")(hm:X.mg "range"=none)(ha:PA X [a] ta)(hs:LN [a] X.env=[(false,eval a X.env)]:=by rfl):
  PE X (.Call (.Name "list" p) [.Call (.Name "range" p') [a] [] pos'] [] pos) (B7 ta):=by
 intro pins s σ H Q I h;refine Mm (wQ I hgl hml PyProof.Rows.boot_list ?_ (by decide) (by decide));refine PyProof.Rows.callWith_type1 ?_ rfl rfl;refine Calls.spliced_cons ?_;refine Call_ (wQ I hg hm boot_range (PyProof.Rows.callWith_type1 (aZ (ha pos' pins s σ H _ I h) λus s1 ⟨vs,H1,I1,r1,q1⟩=>?_) hs rfl));obtain⟨j,e,q1,q2,q3,q⟩:=q1;subst e;cases r1 with
 |cons r rr=>
  cases rr;obtain⟨t,rfl⟩:=r;refine call_range_1 (Calls.spliced_nil ?_);have hn:Builtin.Range.rangeSize 0 j 1=(j.toNat:Int):=by rw[rangeSize_one];split<;>lia
  refine call_list_range (n:=j.toNat) (I1.ok.hd hc) (IsRange.new ..) (small_one (by lia) (by lia) (by lia) (by lia)) hn (by lia) λh' tk acc' c' kp e hacc=>?_;have I2:Inv X pins σ H1 {s1 with heap:=s1.heap.push {cls:=.type "range",data:=.fields #[.int 0 s1.toks,.int j t,.int 1 (s1.toks+1)]},toks:=s1.toks+1+1}:=I1.kept λb o e=>Qw _ e;have hv:ay ((QH j.toNat).map λ(i:Nat)=>V.int ((0:Int)+1*(i:Int))) acc'.toList:=by
   have gen:∀(us:List Value) (n:Nat),us.length=n->∀m:Nat,(∀i v,us[i]?=some v->∃t,v=Value.int ((0:Int)+((m+i:Nat):Int)*1) t)->ay ((List.range' m n).map λ(i:Nat)=>V.int ((0:Int)+1*(i:Int))) us:=by
    intro us
    induction us with
    |nil=>intro n hn m _;simp at hn;subst hn;exact .nil
    |cons u us ih=>
     intro n hn m hu;cases n with
     |zero=>simp at hn
     |succ n=>
      rw[List.range'_succ,QR];obtain⟨t,rfl⟩:=hu 0 u rfl;refine .cons ⟨t,?_⟩ (ih n (by simpa using hn) (m+1) λi v hv=>?_)
      .congr 1;simp
      .obtain ⟨t,e⟩:=hu (i+1) v (by simpa using hv);exact⟨t,by rw[e];congr 2;congr 1;lia⟩
   have:=gen acc'.toList j.toNat (by rw[W9];exact hacc.1) 0 (λi v hv=>by
    obtain⟨t,e⟩:=hacc.2 i v (by simpa using hv);exact⟨t,by rw[e];simp⟩)
   rw[<-List.range_eq_range']at this;exact this
  refine⟨.ref _,_,I2.laid (t':=tk) kp (Qj _) (show aW X.prog X.w _ h' _ (.lst ((QH j.toNat).map λ(i:Nat)=>V.int ((0:Int)+1*(i:Int))))from⟨by simpa using q3,acc'.toList,c',hv,by simpa using e⟩),rfl,q _ (I2.hok.fresh (Qj _))⟩
end
section
variable{prog:Lr}{w:Ls}{A:LG}{E:Value->Shared->Prop}
def GL (ne:l≠it):∀(n i:Nat) (s:Shared) (Q:List Value->Shared->Prop),s.heap.IsListIter it l i->s.heap.IsList l its->i+n<=its.size ->
  (∀h',h'.IsListIter it l (i+n)->WC it s.heap h'->Q ((its.toList.drop i).take n) {s with heap:=h' })->LK (LL prog w) A (draw (.ref it) n) Q E s:=by
 intro n
 induction n with
 |zero=>
  intro i s Q h1 _ _ k;exact L7 (by simpa using k s.heap h1 (WC.refl ..))
 |succ n ih=>
  intro i s Q h1 h2 hle k;have lt:i<its.size:=by lia
  show LK _ _ (pyNext (.ref it) >>= _) Q E s;refine LZ (L8 h1 h2 (x:=its[i]) (by simp[lt]) λhA pA qA=>?_);refine LZ (L3 (ih (i+1) _ _ pA (h2.extBut qA.extBut ne) (by lia) λhB pB qB=>L7 ?_));have z:=k hB (by rw[show i+(n+1)=i+1+n by lia];exact pB) (qA.trans qB);rw[show its.toList.drop i=its[i]::its.toList.drop (i+1)from by simp[WP,lt],List.take_succ_cons]at z;exact z
def Iv (hh:A.handled=none)(p:s.heap.IsList l its)(k:∀h',Heap.ExtBut s.heap.objs.size s.heap h'->Q its.toList {s with heap:=h' }):LK (LL prog w) A (unpackItems (.ref l) its.size none) Q E s:=by
 have ne:l≠s.heap.objs.size:=by obtain⟨o,e,_⟩:=p;exact QM (Qk e)
 unfold unpackItems notIterableAtAll;refine LZ (LZ (MM p.typeIs slot_list_iter.lookup (L7 ?_)));simp only[Qy,if_false];refine LZ (L3 (wpAny_pyIter_list p (LZ (L3 (GL ne its.size 0 _ _ ⟨_,QS _ rfl,rfl,rfl⟩ (p.push _) (by lia) λhA pA qA=>?_)))));rw[show List.take its.size (List.drop 0 its.toList)=its.toList from by rw[List.drop_zero];exact WB (by simp),M7 (by simp)];refine LZ (L3 (L9 hh pA ((p.push _).extBut qA.extBut ne) (by simp) λhB qB=>?_));simp only[Option.isSome_none,Qy,if_false];exact L7 (k hB λb o hb e=>qB b o hb (qA.extBut b o hb (Qw _ e)))
def Jb {k}(hh:A.handled=none)(p:s.heap.IsList l its)(hn:(LX es env).length=its.size)(hst:(LX es env).findIdx? (·.1)=none)(h:∀h',Heap.ExtBut s.heap.objs.size s.heap h'->LK (LL prog w) A (assignInOrder ((LX es env).map (·.2)) its.toList) Q E {s with heap:=h' }):
  LK (LL prog w) A (assign (.Tuple es k pos) env (.ref l)) Q E s:=by
 rw[PyProof.Rows.assign_Tuple];refine LZ (L4 ?_);unfold unpack;rw[hn,hst];exact LZ (L3 (Iv hh p h))
end
section
variable{X:Cx}{pos:Pos}
def rY(K:Qb)(n:Nat)(t:eu):TG:=λv σ H Q=>∃a xs,v=.ref a/\bn K H a xs/\xs.length=n/\t xs σ H Q
def DT (hc:X.calm=true)(h:ik X es t)(hn:(LX es X.env).length=n)(hst:(LX es X.env).findIdx? (·.1)=none):PG X (.Tuple es k pos) (rY X.K n t):=by
 intro pins s σ H v u Q I r hw;obtain⟨a,xs,rfl,hq,hl,hw⟩:=hw;cases r;obtain⟨its,rv,p,hz⟩:=I.list hq;refine Jb (I.ok.hd hc) p.isList (by simp[hn,<-hl,rv.length]) hst λh' hx=>?_;exact h pins _ σ H xs _ Q (I.kept (t':=s.toks) λb o e=>hx b o (QM (Qk e)) e) (by simpa using rv) hw
def rX(K:Qb)(n:Nat)(t:eu):TG:=λv σ H Q=>iC K n t v σ H Q\/rY K n t v σ H Q
def DS (hc:X.calm=true)(h:ik X es t)(hn:(LX es X.env).length=n:=by rfl)(hst:(LX es X.env).findIdx? (·.1)=none:=by rfl):PG X (.Tuple es k pos) (rX X.K n t):=by
 intro pins s σ H v u Q I r hw;rcases hw with hw|hw
 .exact gW hc h hn hst pins s σ H v u Q I r hw
 .exact DT hc h hn hst pins s σ H v u Q I r hw
end
abbrev TK:=List Int×Addr×Value
def lg(x:TK):Lq:=⟨reduceHash (Builtin.Tuple.tupleHashOf (x.1.map hashInt)),.ref x.2.1,x.2.2⟩
def wL(d:Addr)(xs:List TK):HO:=.ext λh=>(d==Lz)=false/\∃o es ep,h.get? d=some o/\o.ExactDict/\o.data=.dict es ep/\es.toList=xs.map lg/\(xs.map (·.1)).Nodup
theorem uS:∀{k:List Int}{us:List Value},ay (k.map V.int) us->ItemsAre (LB P w) k us
 |[],_,.nil=>.nil
 |i::_,_,.cons p q=>by
  obtain⟨t,rfl⟩:=p;exact .cons (by show Value.isInt i (.int i t)=true;simp[Value.isInt]) (uS q)
def jw(K:Qb)(H:Hp)(d:Addr)(xs:List TK):Prop:=H d=some (wL d xs)/\∀x∈xs,cf K H x.2.1 (x.1.map V.int)
section
variable{X:Cx}{pins:List (Addr×Obj)}{σ:St}{H:Hp}{s:Shared}
def jk (I:Inv X pins σ H s)(h:cf X.K H a (k.map V.int)):MN (LB X.prog X.w) s.heap k a:=by
 obtain⟨its,r,⟨o,ho,hc,n,hd⟩,_⟩:=I.tuple h;exact⟨o,its.toArray,n,ho,hc,hd,uS r⟩
def vV (I:Inv X pins σ H s)(h:jw X.K H d xs):(d==Lz)=false/\s.heap.DictOfH (LA (LB X.prog X.w)) d xs:=by
 obtain⟨h1,h2⟩:=h;obtain⟨⟨a0,o,es,ep,a1,a2,a3,a4,a5⟩,_,_⟩:=I.hok d _ h1;exact⟨a0,o,es,ep,a1,a2,a3,a4,λx hx=>jk I (h2 x hx),a5⟩
def Iu:PE X (.Dict [] [] pos) (λ_ H Q=>∀d,H d=none->Q (.ref d) (aJ H d (wL d []))):=by
 intro pins s σ H Q I h;have hd:(s.heap.objs.size==Lz)=false:=by
  obtain⟨o,_,_,ho,_⟩:=I.ok.mod.glob;have h1:(3:Nat)<X.base.objs.size:=Qk ho;have h2:=Qr I.ok.bsz I.sz;have:s.heap.objs.size≠(1:Nat):=by lia
  exact beq_eq_false_iff_ne.mpr this
 refine wpAny_Dict_empty ⟨.ref s.heap.objs.size,aJ H s.heap.objs.size (wL s.heap.objs.size []),I.laid (t':=s.toks) (λb u e=>Qw _ e) (Qj _) ?_,rfl,h _ I.fresh⟩;refine⟨⟨hd,_,#[],0,QS _ rfl,⟨rfl,rfl,rfl⟩,rfl,rfl,QB⟩,⟨_,QS _ rfl⟩,λh1 h2 hx k=>?_⟩;obtain⟨a0,o,es,ep,a1,r⟩:=hx;exact⟨a0,o,es,ep,k o a1,r⟩
def sR(K:Qb):V->V->V->Hp->(Hp->Prop)->Prop:=λo i v H Q=>∃d a ks xs,o=.ref d/\i=.ref a/\cf K H a (ks.map V.int)/\jw K H d xs/\xs.length<=100000/\∀u,RelV v u->Q (aJ H d (wL d (storedH xs ks a u)))
def B6(hu:X.A.units+64<Mh):mC X (sR X.K):=by
 intro pins s σ H o i v ov iv u Q I ro ri rv h;obtain⟨d,a,ks,xs,rfl,rfl,hk,hd,hl,q⟩:=h;cases ro;cases ri;obtain⟨d0,dm⟩:=vV I hd;refine wpAny_setItem_heap (knd:=LA (LB X.prog X.w)) (by show X.A.units+1<Mh;lia) (jk I hk) dm (λh' dm' sb=>?_) (Qr hl (by decide));refine⟨aJ H d (wL d (storedH xs ks a u)),?_,q u rv⟩;obtain⟨o',es,ep,a1,a2,a3,a4,a5,a6⟩:=dm';refine I.write (x:=d) (e:=d) (by rw[hd.1];trivial) (.inl rfl) (λb u' hb e=>(sb.2 b hb).trans e) ⟨_,a1⟩ ?_;refine⟨⟨d0,o',es,ep,a1,a2,a3,a4,a6⟩,⟨_,a1⟩,λh1 h2 hx k=>?_⟩;obtain⟨b0,o,es,ep,b1,r⟩:=hx;exact⟨b0,o,es,ep,k o b1,r⟩
def sQ(K:Qb):R2:=λx y H Q=>∃d a ks xs p,x=.ref d/\y=.ref a/\cf K H a (ks.map V.int)/\jw K H d xs/\MO xs ks=some p/\∃v,RelV v p.2/\Q v H
def oV(hu:X.A.units+64<Mh):ef X (sQ X.K):=by
 intro value slice pins s σ H x y v u Q I rx ry h hs;obtain⟨d,a,ks,xs,p,rfl,rfl,hk,hd,hp,z,rz,q⟩:=h;cases rx;cases ry;obtain⟨d0,dm⟩:=vV I hd;exact Mw (x:=p.2) dm.typeIs slot_dict_getitem.lookup
  (wpAny_getItem_heap (knd:=LA (LB X.prog X.w)) (Q:=λr s'=>r=p.2/\EP X pins σ Q r s') (by show X.A.units+1<Mh;lia) (jk I hk) dm hp ⟨rfl,z,H,I.tok _,rz,q⟩) hs
end
end L2
namespace Mini
inductive Wd where
 |non|bl (b:Bool)|int (i:Int)|str (s:List Nat)|tup (xs:List Wd)|rol (xs:List Wd)|ref (l:Nat)
deriving Inhabited
set_option genInjectivity false in
inductive Ob where
 |lst (xs:List Wd)|dct (ks:List (List Int)) (ws:List Wd)
deriving Inhabited
abbrev Me:=List Ob
set_option tactic.hygienic true in
abbrev En:=List (Option Wd)
set_option genInjectivity false in
inductive Rz where
 |ok (w:Wd) (m:Me)|exc (c:Nat) (w:Wd) (m:Me)|no
deriving Inhabited
set_option genInjectivity false in
inductive Rs where
 |next (e:En) (m:Me)|ret (w:Wd) (m:Me)|brk (e:En) (m:Me)|cont (e:En) (m:Me)
 |exc (c:Nat) (w:Wd) (e:En) (m:Me)|no
deriving Inhabited
inductive Bo where|add|sub|mul|fdiv|mod|pow|shr|band
deriving DecidableEq
inductive Co where|eq|ne|lt|le|isN|notN|isin
deriving DecidableEq
inductive Tg where|int|bool|list|tuple|str|dict
deriving DecidableEq
inductive eD where|len|int|list|min2|max2|sortI
deriving DecidableEq
inductive ee where|append|pop|reverse|clear
deriving DecidableEq
inductive Kd where|zip|enum|prs|ptp
deriving DecidableEq
set_option genInjectivity false in
inductive Ex where
 |var (i:Nat)|lit (w:Wd)
 |bin (op:Bo) (a b:Ex)|neg (a:Ex)|not (a:Ex)|and (a b:Ex)|or (a b:Ex)
 |cmp (op:Co) (a b:Ex)|chain (p q:Co) (a b c:Ex)|ife (c a b:Ex)
 |unit|pair (a b:Ex)
 |call (k:Nat) (args:Ex)|blt (b:eD) (args:Ex)|isi (t:Tg) (a:Ex)
 |lst (args:Ex)|tup (args:Ex)|dict0
 |idx (a b:Ex)   |slB (a lo hi:Ex)
 |meth (n:ee) (o args:Ex)
 |rng (a b c:Ex)
 |comp (elt it cond:Ex)
 |lrng (a:Ex)
 |compP (k:Kd) (elt a b cond:Ex)
 |dget (a b:Ex)
deriving Inhabited
set_option genInjectivity false in
inductive Sm where
 |skip|seq (a b:Sm)
 |asg (i:Nat) (e:Ex)|asgS (o i e:Ex)  |aug (i:Nat) (op:Bo) (e:Ex)
 |ite (c:Ex) (a b:Sm)|forv (i:Nat) (it:Ex) (body:Sm)|fort (i j:Nat) (it:Ex) (body:Sm)|while (c:Ex) (body:Sm)
 |ret (e:Ex)  |expr (e:Ex)   |never
 |unp3 (i j k:Nat) (e:Ex)
 |dput (x:Nat) (k e:Ex)
deriving Inhabited
def av:Nat:=100000
def cI:Int:=18446744073709551616
def xo(i:Int):Bool:=decide (-cI<i)&&decide (i<cI)
def c6(p:Wd->Wd->Option Bool):List Wd->List Wd->Option Bool
 |x::xs,y::ys=>match p x y with
  |some a=>(c6 p xs ys).map (a && ·)
  |none=>none
 |_,_=>some true
def b2i(b:Bool):Int:=if b then 1 else 0
def aS(m:Me)(l:Nat):Bool:=match m[l]? with
 |some (.lst _)=>true
 |_=>false
def tJ:Wd->Bool
 |.rol _=>false
 |_=>true
def cz(m:Me):Nat->Wd->Wd->Option Bool
 |0,_,_=>none
 |k+1,x,y=>match x,y with
  |.tup a,.tup b=>(c6 (cz m k) a b).map (· && decide (a.length=b.length))
  |.ref a,.ref b=>if a=b then(if aS m a then some true else none)else match m[a]?,m[b]? with
   |some (.lst xs),some (.lst ys)=>if xs.length=ys.length then c6 (cz m k) xs ys else some false
   |_,_=>none
  |.ref a,y=>if aS m a&&tJ y then some false else none
  |x,.ref b=>if aS m b&&tJ x then some false else none
  |.rol _,_=>none
  |_,.rol _=>none
  |.non,.non=>some true
  |.bl a,.bl b=>some (a==b)
  |.int a,.int b=>some (decide (a=b))
  |.bl a,.int b=>some (decide (b2i a=b))
  |.int a,.bl b=>some (decide (a=b2i b))
  |.str a,.str b=>some (decide (a=b))
  |_,_=>some false
def y0:Nat:=12
def eP(p:Wd->Wd->Option Bool)(x:Wd):List Wd->Option Bool
 |[]=>some false
 |y::ys=>match p y x with
  |some a=>(eP p x ys).map (a || ·)
  |none=>none
def ix(n:Nat)(i:Int):Option Nat:=
 if 0<=i then(if i<n then some i.toNat else none)else if -(n:Int)<=i then some (i+n).toNat else none
def alloc(m:Me)(xs:List Wd):Rz:=if xs.length<=av then .ok (.ref m.length) (m++[.lst xs])else .no
def zz(m:Me)(l:Nat):Option (List Wd):=match m[l]? with
 |some (.lst xs)=>some xs
 |_=>none
def xL(m:Me):Wd->Option (List Wd)
 |.tup xs=>some xs
 |.rol xs=>some xs
 |.ref l=>zz m l
 |_=>none
def dh(op:Bo)(x y:Wd)(m:Me):Rz:=match x,y with
 |.int i,.int j=>match op with
  |.add=>.ok (.int (i+j)) m
  |.sub=>.ok (.int (i-j)) m
  |.mul=>if xo i || xo j then .ok (.int (i*j)) m else .no
  |.fdiv=>if 0<j/\j<1073741824 then .ok (.int (i/j)) m else .no
  |.mod=>if 0<j then .ok (.int (i%j)) m else .no
  |.pow=>if 0<=j/\j<=1000000/\xo i=true then .ok (.int (i^j.toNat)) m else .no
  |.shr=>if 0<=j/\j<=1000 then .ok (.int (i/2^j.toNat)) m else .no
  |.band=>if 0<=i/\j=1 then .ok (.int (i%2)) m else .no
 |.ref a,.ref b=>match op,m[a]?,m[b]? with
  |.add,some (.lst xs),some (.lst ys)=>alloc m (xs++ys)
  |_,_,_=>.no
 |.ref a,.int k=>match op,m[a]? with
  |.mul,some (.lst xs)=>if -av<=k/\k<=av then alloc m (Qx k.toNat xs).flatten else .no
  |_,_=>.no
 |.tup xs,.tup ys=>match op with
  |.add=>if xs.length+ys.length<=av/\xs.isEmpty=false then .ok (.tup (xs++ys)) m else .no
  |_=>.no
 |_,_=>.no
def dY(o:Option Bool)(m:Me):Rz:=match o with
 |some b=>.ok (.bl b) m
 |none=>.no
def qY(r:Int->Int->Bool)(x y:Wd)(m:Me):Rz:=match x,y with
 |.int i,.int j=>.ok (.bl (r i j)) m
 |_,_=>.no
def xX:List Wd->Option (List Int)
 |[]=>some []
 |.int i::r=>(xX r).map (i::·)
 |_=>none
def lI(m:Me)(x y:Wd):Option Bool:=match y with
 |.ref l=>match m[l]? with
  |some (.dct ks _)=>match x with
   |.int _=>some false
   |.tup ws=>(xX ws).map λk=>decide (k∈ks)
   |_=>none
  |_=>none
 |_=>none
def cZ(op:Co)(x y:Wd)(m:Me):Rz:=match op with
 |.eq=>dY (cz m y0 x y) m
 |.ne=>dY ((cz m y0 x y).map (!·)) m
 |.isN=>match y,x with
  |.non,.non=>.ok (.bl true) m
  |.non,_=>.ok (.bl false) m
  |_,_=>.no
 |.notN=>match y,x with
  |.non,.non=>.ok (.bl false) m
  |.non,_=>.ok (.bl true) m
  |_,_=>.no
 |.isin=>match xL m y with
  |some ys=>dY (eP (cz m y0) x ys) m
  |none=>dY (lI m x y) m
 |.lt=>qY (λi j=>decide (i<j)) x y m
 |.le=>qY (λi j=>decide (i<=j)) x y m
def dM(t:Tg)(x:Wd)(m:Me):Option Bool:=match t,x with
 |.int,.int _=>some true
 |.int,.bl _=>some true
 |.bool,.bl _=>some true
 |.str,.str _=>some true
 |.tuple,.tup _=>some true
 |.list,.rol _=>some true
 |t,.ref l=>match m[l]? with
  |some (.lst _)=>some (decide (t=.list))
  |some (.dct _ _)=>some (decide (t=.dict))
  |none=>none
 |_,_=>some false
def cj(n d:Nat):Option Int->Nat
 |none=>d
 |some v=>if v<0 then(v+(n:Int)).toNat else min v.toNat n
def fR(m:Me):Wd->Option (List Wd)
 |.rol xs=>some xs
 |.ref l=>zz m l
 |_=>none
def fQ(ns:List Int):List Int:=ns.mergeSort λa b=>decide (a<=b)
def ft(b:eD)(ws:List Wd)(m:Me):Rz:=match b with
 |.sortI=>match ws with
  |[x]=>match (fR m x).bind xX with
   |some k=>if k.length<64 then alloc m ((fQ k).map Wd.int)else .no
   |none=>.no
  |_=>.no
 |.len=>match ws with
  |[x]=>match xL m x with
   |some xs=>.ok (.int xs.length) m
   |none=>.no
  |_=>.no
 |.int=>match ws with
  |[.int i]=>.ok (.int i) m
  |[.bl b]=>.ok (.int (b2i b)) m
  |_=>.no
 |.list=>match ws with
  |[x]=>match xL m x with
   |some xs=>alloc m xs
   |none=>.no
  |_=>.no
 |.max2=>match ws with
  |[.int i,.int j]=>.ok (.int (if j > i then j else i)) m
  |_=>.no
 |.min2=>match ws with
  |[.int i,.int j]=>.ok (.int (if j<i then j else i)) m
  |_=>.no
def dC(n:ee)(o:Wd)(ws:List Wd)(m:Me):Rz:=match o with
 |.ref l=>match m[l]? with
  |some (.lst xs)=>match n,ws with
   |.append,[y]=>if xs.length<av then .ok .non (m.set l (.lst (xs++[y])))else .no
   |.pop,[]=>match xs[xs.length-1]? with
    |some y=>.ok y (m.set l (.lst xs.dropLast))
    |none=>.no
   |.reverse,[]=>.ok .non (m.set l (.lst xs.reverse))
   |.clear,[]=>.ok .non (m.set l (.lst []))
   |_,_=>.no
  |_=>.no
 |_=>.no
def xp(x:Wd)(m:Me):Bool:=match x with
 |.ref l=>aS m l
 |_=>false
def qe(o i v:Wd)(m:Me):Rz:=match o,i with
 |.ref l,.int k=>match m[l]? with
  |some (.lst xs)=>match ix xs.length k with
   |some j=>.ok .non (m.set l (.lst (xs.set j v)))
   |none=>.no
  |_=>.no
 |_,_=>.no
def jx(x y:Wd)(m:Me):Rz:=match y with
 |.int i=>match xL m x with
  |some xs=>match (ix xs.length i).bind λj=>xs[j]? with
   |some v=>.ok v m
   |none=>.no
  |none=>.no
 |_=>.no
def fM:Wd->Option (List Int)
 |.tup ws=>xX ws
 |_=>none
def dD{α:Type}:List (List Int)->List α->List Int->Option α
 |k::ks,w::ws,q=>if k=q then some w else dD ks ws q
 |_,_,_=>none
def wS(ks:List (List Int))(q:List Int):List (List Int):=if q∈ks then ks else ks++[q]
def yx{α:Type}:List (List Int)->List α->List Int->α->List α
 |k::ks,w::ws,q,v=>if k=q then v::ws else w::yx ks ws q v
 |_,ws,_,v=>ws++[v]
def gB(x y:Wd)(m:Me):Rz:=match x with
 |.ref l=>match m[l]? with
  |some (.dct ks ws)=>match (fM y).bind (dD ks ws)with
   |some v=>.ok v m
   |none=>.no
  |_=>.no
 |_=>.no
def gC(x y v:Wd)(m:Me):Rz:=match x with
 |.ref l=>match m[l]? with
  |some (.dct ks ws)=>match fM y with
   |some q=>if ks.length<av then .ok .non (m.set l (.dct (wS ks q) (yx ks ws q v)))else .no
   |none=>.no
  |_=>.no
 |_=>.no
def fV(x:Wd)(lo hi:Option Int)(m:Me):Rz:=match fR m x with
 |some xs=>alloc m ((xs.drop (cj xs.length 0 lo)).take (cj xs.length xs.length hi-cj xs.length 0 lo))
 |none=>.no
def fo(lo st:Int):Nat->List Wd
 |0=>[]
 |n+1=>.int lo::fo (lo+st) st n
def qZ(a b c:Int):Nat:=if c=1 then(b-a).toNat else if c=-1 then(a-b).toNat else 0
def iz(a b c:Wd)(m:Me):Rz:=match a,b,c with
 |.int a,.int b,.int c=>if -av<=a/\a<=av/\-av<=b/\b<=av/\(c=1\/c=-1)then .ok (.tup (fo a c (qZ a b c))) m else .no
 |_,_,_=>.no
def Rz.bind(r:Rz)(f:Wd->Me->Rz):Rz:=match r with
 |.ok w m=>f w m
 |r=>r
def xN(c e:Wd->Me->Rz):List Wd->List Wd->Me->Rz
 |[],acc,m=>alloc m acc
 |x::xs,acc,m=>(c x m).bind λb m1=>match b with
  |.bl true=>(e x m1).bind λy m2=>if acc.length<av then xN c e xs (acc++[y]) m2 else .no
  |.bl false=>xN c e xs acc m1
  |_=>.no
def xO(c e:Wd->Me->Rz)(l:Nat):Nat->Nat->List Wd->Me->Rz
 |0,_,_,_=>.no
 |k+1,i,acc,m=>match zz m l with
  |none=>.no
  |some xs=>match xs[i]? with
   |none=>alloc m acc
   |some x=>(c x m).bind λb m1=>match b with
    |.bl true=>(e x m1).bind λy m2=>if acc.length<av then xO c e l k (i+1) (acc++[y]) m2 else .no
    |.bl false=>xO c e l k (i+1) acc m1
    |_=>.no
def iF:Wd->Option (Wd×Wd)
 |.tup [x,y]=>some (x,y)
 |_=>none
def zA(k:Kd)(x y:Wd)(i:Nat)(m:Me):Option (Option (Wd×Wd)):=match k,x,y with
 |.zip,.ref la,.ref lb=>match zz m la,zz m lb with
  |some xs,some ys=>some (match xs[i]?,ys[i]? with
   |some x,some y=>some (x,y)
   |_,_=>none)
  |_,_=>none
 |.enum,.ref la,.int s=>match zz m la with
  |some xs=>some (xs[i]?.map λx=>(.int (s+(i:Int)),x))
  |none=>none
 |.prs,.ref la,.int _=>match zz m la with
  |some xs=>match xs[i]? with
   |none=>some none
   |some w=>(iF w).map some
  |none=>none
 |.ptp,.tup xs,.int _=>match xs[i]? with
  |none=>some none
  |some w=>(iF w).map some
 |_,_,_=>none
def yf(c e:Wd->Wd->Me->Rz)(g:Nat->Me->Option (Option (Wd×Wd))):Nat->Nat->List Wd->Me->Rz
 |0,_,_,_=>.no
 |k+1,i,acc,m=>match g i m with
  |none=>.no
  |some none=>alloc m acc
  |some (some (x,y))=>(c x y m).bind λb m1=>match b with
   |.bl true=>(e x y m1).bind λz m2=>if acc.length<av then yf c e g k (i+1) (acc++[z]) m2 else .no
   |.bl false=>yf c e g k (i+1) acc m1
   |_=>.no
def zn:Wd->List Wd
 |.tup xs=>xs
 |_=>[]
def af(cl:Nat->List Wd->Me->Rz):Ex->En->Me->Rz
 |.var i,env,m=>match env[i]? with
  |some (some w)=>.ok w m
  |_=>.no
 |.lit w,_,m=>.ok w m
 |.bin op a b,env,m=>(af cl a env m).bind λx m1=>(af cl b env m1).bind λy m2=>dh op x y m2
 |.neg a,env,m=>(af cl a env m).bind λx m1=>match x with
  |.int i=>.ok (.int (-i)) m1
  |_=>.no
 |.not a,env,m=>(af cl a env m).bind λx m1=>match x with
  |.bl b=>.ok (.bl (! b)) m1
  |_=>.no
 |.and a b,env,m=>(af cl a env m).bind λx m1=>match x with
  |.bl true=>af cl b env m1
  |.bl false=>.ok (.bl false) m1
  |_=>.no
 |.or a b,env,m=>(af cl a env m).bind λx m1=>match x with
  |.bl false=>af cl b env m1
  |.bl true=>.ok (.bl true) m1
  |_=>.no
 |.cmp op a b,env,m=>(af cl a env m).bind λx m1=>(af cl b env m1).bind λy m2=>cZ op x y m2
 |.chain p q a b c,env,m=>(af cl a env m).bind λx m1=>(af cl b env m1).bind λy m2=>(cZ p x y m2).bind λz m3=>match z with
  |.bl true=>(af cl c env m3).bind λu m4=>cZ q y u m4
  |.bl false=>.ok (.bl false) m3
  |_=>.no
 |.ife c a b,env,m=>(af cl c env m).bind λx m1=>match x with
  |.bl true=>af cl a env m1
  |.bl false=>af cl b env m1
  |_=>.no
 |.unit,_,m=>.ok (.tup []) m
 |.pair a b,env,m=>(af cl a env m).bind λx m1=>(af cl b env m1).bind λy m2=>.ok (.tup (x::zn y)) m2
 |.call k a,env,m=>(af cl a env m).bind λx m1=>cl k (zn x) m1
 |.blt b a,env,m=>(af cl a env m).bind λx m1=>ft b (zn x) m1
 |.isi t a,env,m=>(af cl a env m).bind λx m1=>dY (dM t x m1) m1
 |.lst a,env,m=>(af cl a env m).bind λx m1=>alloc m1 (zn x)
 |.tup a,env,m=>(af cl a env m).bind λx m1=>if(zn x).length<=av then .ok (.tup (zn x)) m1 else .no
 |.dict0,_,m=>.ok (.ref m.length) (m++[.dct [] []])
 |.idx a b,env,m=>(af cl a env m).bind λx m1=>(af cl b env m1).bind λy m2=>jx x y m2
 |.dget a b,env,m=>(af cl a env m).bind λx m1=>(af cl b env m1).bind λy m2=>gB x y m2
 |.slB a lo hi,env,m=>(af cl a env m).bind λx m1=>(af cl lo env m1).bind λy m2=>match y with
  |.int i=>(af cl hi env m2).bind λz m3=>match z with
   |.int j=>fV x (some i) (some j) m3
   |_=>.no
  |_=>.no
 |.meth n o a,env,m=>(af cl o env m).bind λx m1=>match xp x m1 with
  |true=>(af cl a env m1).bind λy m2=>dC n x (zn y) m2
  |false=>.no
 |.rng a b c,env,m=>(af cl a env m).bind λx m1=>(af cl b env m1).bind λy m2=>(af cl c env m2).bind λz m3=>iz x y z m3
 |.comp elt it cond,env,m=>(af cl it env m).bind λx m1=>match x with
  |.tup xs=>xN (λx m=>af cl cond (env++[some x]) m) (λx m=>af cl elt (env++[some x]) m) xs [] m1
  |.rol xs=>xN (λx m=>af cl cond (env++[some x]) m) (λx m=>af cl elt (env++[some x]) m) xs [] m1
  |.ref l=>xO (λx m=>af cl cond (env++[some x]) m) (λx m=>af cl elt (env++[some x]) m) l (av+1) 0 [] m1
  |_=>.no
 |.compP k elt a b cond,env,m=>(af cl a env m).bind λx m1=>(af cl b env m1).bind λy m2=>
  yf (λu v m=>af cl cond (env++[some u]++[some v]) m) (λu v m=>af cl elt (env++[some u]++[some v]) m) (zA k x y) (av+1) 0 [] m2
 |.lrng a,env,m=>(af cl a env m).bind λx m1=>match x with
  |.int j=>if -av<=j/\j<=av then alloc m1 (fo 0 1 j.toNat)else .no
  |_=>.no
def wM(body:Wd->En->Me->Rs):List Wd->En->Me->Rs
 |[],env,m=>.next env m
 |x::xs,env,m=>match body x env m with
  |.next e1 m1=>wM body xs e1 m1
  |.cont e1 m1=>wM body xs e1 m1
  |.brk e1 m1=>.next e1 m1
  |r=>r
def wN(body:Wd->En->Me->Rs)(l:Nat):Nat->Nat->En->Me->Rs
 |0,_,_,_=>.no
 |k+1,i,env,m=>match zz m l with
  |none=>.no
  |some xs=>match xs[i]? with
   |none=>.next env m
   |some x=>match body x env m with
    |.next e1 m1=>wN body l k (i+1) e1 m1
    |.cont e1 m1=>wN body l k (i+1) e1 m1
    |.brk e1 m1=>.next e1 m1
    |r=>r
def kX(c:En->Me->Rz)(body:En->Me->Rs):Nat->En->Me->Rs
 |0,_,_=>.no
 |k+1,env,m=>match c env m with
  |.ok (.bl true) m1=>match body env m1 with
   |.next e1 m2=>kX c body k e1 m2
   |.cont e1 m2=>kX c body k e1 m2
   |.brk e1 m2=>.next e1 m2
   |r=>r
  |.ok (.bl false) m1=>.next env m1
  |.exc c w m1=>.exc c w env m1
  |_=>.no
def Rz.bindS(r:Rz)(env:En)(f:Wd->Me->Rs):Rs:=match r with
 |.ok w m=>f w m
 |.exc c w m=>.exc c w env m
 |.no=>.no
def fm(body:Wd->En->Me->Rs)(w:Wd)(env:En)(m:Me):Rs:=match w with
 |.tup xs=>wM body xs env m
 |.rol xs=>wM body xs env m
 |.ref l=>wN body l (av+1) 0 env m
 |_=>.no
def du(i j:Nat):Wd->En->Option En:=λw env=>match w with
 |.tup [a,b]=>some ((env.set i (some a)).set j (some b))
 |_=>none
def dJ(i j k:Nat)(w:Wd)(m:Me)(env:En):Option En:=match xL m w with
 |some [a,b,c]=>some (((env.set i (some a)).set j (some b)).set k (some c))
 |_=>none
def yT(st:Wd->En->Option En)(b:En->Me->Rs):Wd->En->Me->Rs:=λw env m=>match st w env with
 |some env'=>b env' m
 |none=>.no
def iy(op:Bo)(x y:Wd)(m:Me)(env:En)(f:Wd->Me->Rs):Rs:=match x,y with
 |.int _,.int _=>(dh op x y m).bindS env f
 |_,_=>.no
def bC(cl:Nat->List Wd->Me->Rz):Sm->En->Me->Rs
 |.skip,env,m=>.next env m
 |.seq a b,env,m=>match bC cl a env m with
  |.next e1 m1=>bC cl b e1 m1
  |r=>r
 |.asg i e,env,m=>(af cl e env m).bindS env λw m1=>.next (env.set i (some w)) m1
 |.asgS o i e,env,m=>(af cl e env m).bindS env λw m1=>(af cl o env m1).bindS env λx m2=>(af cl i env m2).bindS env λy m3=>(qe x y w m3).bindS env λ_ m4=>.next env m4
 |.aug i op e,env,m=>match env[i]? with
  |some (some x)=>(af cl e env m).bindS env λy m1=>iy op x y m1 env λz m2=>.next (env.set i (some z)) m2
  |_=>.no
 |.ite c a b,env,m=>(af cl c env m).bindS env λx m1=>match x with
  |.bl true=>bC cl a env m1
  |.bl false=>bC cl b env m1
  |_=>.no
 |.forv i it body,env,m=>(af cl it env m).bindS env λw m1=>fm (λx e m=>bC cl body (e.set i (some x)) m) w env m1
 |.fort i j it body,env,m=>(af cl it env m).bindS env λw m1=>fm (yT (du i j) (bC cl body)) w env m1
 |.while c body,env,m=>kX (af cl c) (bC cl body) 1000000 env m
 |.ret e,env,m=>(af cl e env m).bindS env λw m1=>.ret w m1
 |.expr e,env,m=>(af cl e env m).bindS env λ_ m1=>.next env m1
 |.unp3 i j k e,env,m=>(af cl e env m).bindS env λw m1=>match dJ i j k w m1 env with
  |some e1=>.next e1 m1
  |none=>.no
 |.dput x k e,env,m=>(af cl e env m).bindS env λv m1=>(af cl (.var x) env m1).bindS env λd m2=>(af cl k env m2).bindS env λq m3=>(gC d q v m3).bindS env λ_ m4=>.next env m4
 |.never,_,_=>.no
def wu(a b c d:Ex):Ex:=.tup (.pair a (.pair b (.pair c (.pair d .unit))))
def c9(k:List Nat)(a:Ex):Ex:=.tup (.pair (.lit (.str k)) (.pair a .unit))
def iw(n:Nat)(k1 k2 k3 k4:List Nat)(a b c d mx elt:Ex):Ex:=.compP .ptp elt (wu (c9 k1 a) (c9 k2 b) (c9 k3 c) (c9 k4 d)) (.lit (.int 0)) (.cmp .eq (.var (n+1)) mx)
def dt(x y:Int):Ex:=.tup (.pair (.lit (.int x)) (.pair (.lit (.int y)) .unit))
def wT(i:Nat)(k1 k2 k3 k4:List Nat):Ex:=.ife (.cmp .eq (.var i) (.lit (.str k1))) (.lit (.int 0)) (.ife (.cmp .eq (.var i) (.lit (.str k2))) (.lit (.int 1)) (.ife (.cmp .eq (.var i) (.lit (.str k3))) (.lit (.int 2)) (.ife (.cmp .eq (.var i) (.lit (.str k4))) (.lit (.int 3)) (.lit .non))))
def jy{α:Type}(s k1 k2 k3 k4:List Nat)(a b c d:α):Option α:=if s=k1 then some a else if s=k2 then some b else if s=k3 then some c else if s=k4 then some d else none
set_option genInjectivity false in
structure Fn where
 ar:Nat
 sz:Nat
 body:Sm
deriving Inhabited
def yU(fn:Fn)(ws:List Wd):En:=ws.map some++Qx (fn.sz-ws.length) none
def wE(cl:Nat->List Wd->Me->Rz)(fn:Fn)(ws:List Wd)(m:Me):Rz:=
 if ws.length=fn.ar then match bC cl fn.body (yU fn ws) m with
  |.next _ m1=>.ok .non m1
  |.ret w m1=>.ok w m1
  |.exc c w _ m1=>.exc c w m1
  |_=>.no
 else .no
def yO(T:List Fn):Nat->Nat->List Wd->Me->Rz
 |0,_,_,_=>.no
 |d+1,k,ws,m=>match T[k]? with
  |some fn=>wE (yO T d) fn ws m
  |none=>.no
end Mini
namespace Mini
open PySem PySem.Spec PyProof.Rows L2
abbrev St:=L2.St
def KL(K:Qb)(a:Addr)(xs:List V):Prop:=
 ∃(o:Obj) (its:Array Value) (n:Nat),K.lookup a=some o/\o.cls=.type "list" /\ o.dict=none/\o.data=.seq its n/\its.size<=sizeLine/\ay xs its.toList
def eT(K:Qb)(H:Hp)(a:Addr)(vs:List V):Prop:=(∃o,H a=some (.frz o (.lst vs)))\/KL K a vs
def eT.sq {K:Qb}(h:eT K H a vs):bn K H a vs:=by
 rcases h with h|h
 .exact .inl (.inr h)
 .exact .inr h
mutual
def ai(K:Qb)(as:List Addr)(H:Hp):Wd->V->Prop
 |.non,v=>v=.non
 |.bl b,v=>v=.bl b
 |.int i,v=>v=.int i
 |.str s,v=>v=.str ⟨s.toArray⟩
 |.tup xs,v=>∃a vs,v=.ref a/\cf K H a vs/\ae K as H xs vs
 |.rol xs,v=>∃a vs,v=.ref a/\eT K H a vs/\ae K as H xs vs
 |.ref l,v=>∃a,as[l]?=some a/\v=.ref a
def ae(K:Qb)(as:List Addr)(H:Hp):List Wd->List V->Prop
 |[],vs=>vs=[]
 |x::xs,vs=>∃v r,vs=v::r/\ai K as H x v/\ae K as H xs r
end
def bx(K:Qb)(as:List Addr)(H:Hp):Ob->Addr->Prop
 |.lst ws,a=>∃vs,H a=some (.lst vs)/\ae K as H ws vs
 |.dct ks ws,a=>∃xs vs,jw K H a xs/\xs.map (·.1)=ks/\ae K as H ws vs/\ay vs (xs.map (·.2.2))/\ks.Nodup
structure aQ(K:Qb)(as:List Addr)(m:Me)(H:Hp):Prop where
 len:as.length=m.length
 nd:as.Nodup
 obj:∀(l:Nat) (a:Addr) (o:Ob),as[l]?=some a->m[l]?=some o->bx K as H o a
structure Step(as:List Addr)(H:Hp)(as':List Addr)(H':Hp):Prop where
 pre:∃t,as'=as++t
 frame:∀b o,H b=some o->b∉as->H' b=some o
 fresh:∀a∈as',a∈as\/H a=none
section
variable{K:Qb}{as as' as2:List Addr}{H H' H2:Hp}{m m':Me}
def Step.refl:Step as H as H:=⟨⟨[],by simp⟩,λ_ _ h _=>h,λ_ h=>.inl h⟩
def Step.get (T:Step as H as' H'){l:Nat}(h:as[l]?=some a):as'[l]?=some a:=by
 obtain⟨t,rfl⟩:=T.pre;rw[Qg (Qa.mp h).1];exact h
def Step.out (T:Step as H as' H')(h:H b=some o)(hb:b∉as):b∉as':=λz=>by
 rcases T.fresh b z with q|q
 .exact hb q
 .rw[h]at q;cases q
def Step.trans(T:Step as H as' H')(U:Step as' H' as2 H2):Step as H as2 H2:=by
 refine⟨?_,λb o h hb=>U.frame b o (T.frame b o h hb) (T.out h hb),λa ha=>?_⟩
 .obtain ⟨t,rfl⟩:=T.pre;obtain⟨u,rfl⟩:=U.pre;exact⟨t++u,by simp⟩
 .rcases U.fresh a ha with q|q
  .exact T.fresh a q
  .by_cases z:a∈as
   .exact .inl z
   .refine .inr ?_;cases e:H a with
    |none=>rfl
    |some o=>rw[T.frame a o e z]at q;cases q
def aQ.get (S:aQ K as m H){l:Nat}(h:m[l]?=some o):∃a,as[l]?=some a/\bx K as H o a:=by
 have hl:l<as.length:=by rw[S.len];exact(Qa.mp h).1
 exact⟨as[l],by simp[hl],S.obj l _ o (by simp[hl]) h⟩
def LD:HO->Prop
 |.lst _=>True
 |.ext _=>True
 |.dK _=>True
 |_=>False
def aQ.isLst (S:aQ K as m H)(h:a∈as):∃o,H a=some o/\LD o:=by
 obtain⟨l,hl,rfl⟩:=W7.mp h;have hm:l<m.length:=by rw[<-S.len];exact hl
 have q:=S.obj l as[l] m[l] (by simp[hl]) (by simp[hm]);cases e:m[l]with
 |lst ws=>
  rw[e]at q;obtain⟨vs,h1,_⟩:=q;exact⟨_,h1,trivial⟩
 |dct ks ws=>
  rw[e]at q;obtain⟨xs,vs,h1,_⟩:=q;exact⟨_,h1.1,trivial⟩
def GK (nt:∀a∈as,∃o,H a=some o/\LD o)(T:Step as H as' H')(h:cf K H a vs):cf K H' a vs:=by
 rcases h with h|h
 .have hn:a∉as:=λz=>by
   obtain⟨u,e,hu⟩:=nt a z;rcases h with h|⟨o,h⟩<;>rw[e]at h<;>cases h<;>exact hu
  rcases h with h|⟨o,h⟩
  .exact .inl (.inl (T.frame _ _ h hn))
  .exact .inl (.inr ⟨o,T.frame _ _ h hn⟩)
 .exact .inr h
def GJ (nt:∀a∈as,∃o,H a=some o/\LD o)(T:Step as H as' H')(h:eT K H a vs):eT K H' a vs:=by
 rcases h with⟨o,h⟩|h
 .have hn:a∉as:=λz=>by
   obtain⟨u,e,hu⟩:=nt a z;rw[e]at h;cases h;exact hu
  exact .inl ⟨o,T.frame _ _ h hn⟩
 .exact .inr h
structure Kp(K:Qb)(H H':Hp):Prop where
 t:∀a vs,cf K H a vs->cf K H' a vs
 f:∀a vs,eT K H a vs->eT K H' a vs
def aQ.kp(S:aQ K as m H)(T:Step as H as' H'):Kp K H H':=⟨λ_ _ h=>GK (λ_ z=>S.isLst z) T h,λ_ _ h=>GJ (λ_ z=>S.isLst z) T h⟩
def iX (h:H D=some u)(hu:LD u):Kp K H (L2.aJ H D o):=by
 refine⟨λa vs q=>?_,λa vs q=>?_⟩
 .rcases q with (q|⟨x,q⟩)|q
  .exact .inl (.inl (by rw[zj (by rintro rfl;rw[h]at q;cases q;exact hu)];exact q))
  .exact .inl (.inr ⟨x,by rw[zj (by rintro rfl;rw[h]at q;cases q;exact hu)];exact q⟩)
  .exact .inr q
 .rcases q with⟨x,q⟩|q
  .exact .inl ⟨x,by rw[zj (by rintro rfl;rw[h]at q;cases q;exact hu)];exact q⟩
  .exact .inr q
def Kp.upd{D:Addr}{ys:List V}{o:HO}(h:H D=some (.lst ys)):Kp K H (L2.aJ H D o):=iX h trivial
mutual
theorem jz(k:Kp K H H')(g:∀(l:Nat) (a:Addr),as[l]?=some a->as'[l]?=some a):∀(w:Wd) (v:V),ai K as H w v->ai K as' H' w v
 |.non,_,h=>by rw[ai]at h ⊢;exact h
 |.bl _,_,h=>by rw[ai]at h ⊢;exact h
 |.int _,_,h=>by rw[ai]at h ⊢;exact h
 |.str _,_,h=>by rw[ai]at h ⊢;exact h
 |.tup xs,v,h=>by
  rw[ai]at h ⊢;obtain⟨a,vs,e,q,r⟩:=h;exact⟨a,vs,e,k.t _ _ q,bg k g xs vs r⟩
 |.rol xs,v,h=>by
  rw[ai]at h ⊢;obtain⟨a,vs,e,q,r⟩:=h;exact⟨a,vs,e,k.f _ _ q,bg k g xs vs r⟩
 |.ref l,v,h=>by
  rw[ai]at h ⊢;obtain⟨a,q,e⟩:=h;exact⟨a,g _ _ q,e⟩
theorem bg(k:Kp K H H')(g:∀(l:Nat) (a:Addr),as[l]?=some a->as'[l]?=some a):∀(ws:List Wd) (vs:List V),ae K as H ws vs->ae K as' H' ws vs
 |[],_,h=>by rw[ae]at h ⊢;exact h
 |x::xs,vs,h=>by
  rw[ae]at h ⊢;obtain⟨v,r,e,q,t⟩:=h;exact⟨v,r,e,jz k g x v q,bg k g xs r t⟩
end
def bx.mono{ob:Ob}{a:Addr}(k:Kp K H H')(g:∀(l:Nat) (a:Addr),as[l]?=some a->as'[l]?=some a)(e:∀o,H a=some o->H' a=some o)(h:bx K as H ob a):bx K as' H' ob a:=by
 cases ob with
 |lst ws=>obtain⟨vs,h1,h2⟩:=h;exact⟨vs,e _ h1,bg k g _ _ h2⟩
 |dct ks ws=>obtain⟨xs,vs,h1,h2,h3,h4⟩:=h;exact⟨xs,vs,⟨e _ h1.1,λx hx=>k.t _ _ (h1.2 x hx)⟩,h2,bg k g _ _ h3,h4⟩
def ai.mono{w:Wd}{v:V}(h:ai K as H w v)(S:aQ K as m H)(T:Step as H as' H'):ai K as' H' w v:=jz (S.kp T) (λ_ _ e=>T.get e) w v h
def ae.mono{ws:List Wd}{vs:List V}(h:ae K as H ws vs)(S:aQ K as m H)(T:Step as H as' H'):ae K as' H' ws vs:=bg (S.kp T) (λ_ _ e=>T.get e) ws vs h
def ae.kp{ws:List Wd}{vs:List V}(h:ae K as H ws vs)(k:Kp K H H'):ae K as H' ws vs:=bg k (λ_ _ e=>e) ws vs h
def ai.kp{w:Wd}{v:V}(h:ai K as H w v)(k:Kp K H H'):ai K as H' w v:=jz k (λ_ _ e=>e) w v h
def ao:ai K as H .non v↔v=.non:=by rw[ai]
def ah:ai K as H (.bl b) v↔v=.bl b:=by rw[ai]
def aa:ai K as H (.int i) v↔v=.int i:=by rw[ai]
def aB:ai K as H (.str s) v↔v=.str ⟨s.toArray⟩:=by rw[ai]
def aj:ai K as H (.tup xs) v↔∃a vs,v=.ref a/\cf K H a vs/\ae K as H xs vs:=by rw[ai]
def bb:ai K as H (.rol xs) v↔∃a vs,v=.ref a/\eT K H a vs/\ae K as H xs vs:=by rw[ai]
def aG:ai K as H (.ref l) v↔∃a,as[l]?=some a/\v=.ref a:=by rw[ai]
def ax:ae K as H [] vs↔vs=[]:=by rw[ae]
def am:ae K as H (x::xs) vs↔∃v r,vs=v::r/\ai K as H x v/\ae K as H xs r:=by rw[ae]
theorem ae.length:∀{xs:List Wd}{vs:List V},ae K as H xs vs->xs.length=vs.length
 |[],vs,h=>by rw[ax.mp h];rfl
 |x::xs,vs,h=>by
  obtain⟨v,r,rfl,_,t⟩:=am.mp h;simp[ae.length t]
theorem ae.get:∀{xs:List Wd}{vs:List V}{i:Nat}{x:Wd},ae K as H xs vs->xs[i]?=some x->∃v,vs[i]?=some v/\ai K as H x v
 |[],_,_,_,_,e=>by simp at e
 |x::xs,vs,0,y,h,e=>by
  obtain⟨v,r,rfl,q,t⟩:=am.mp h;simp at e;subst e;exact⟨v,rfl,q⟩
 |x::xs,vs,i+1,y,h,e=>by
  obtain⟨v,r,rfl,q,t⟩:=am.mp h;obtain⟨u,h1,h2⟩:=ae.get (i:=i) (x:=y) t (by simpa using e);exact⟨u,by simpa using h1,h2⟩
def ae.back:∀{xs:List Wd}{vs:List V}{i:Nat}{v:V},ae K as H xs vs->vs[i]?=some v->∃x,xs[i]?=some x/\ai K as H x v:=λ{xs vs i v} h e=>by
 have hi:i<xs.length:=by rw[h.length];exact(Qa.mp e).1
 obtain⟨u,h1,h2⟩:=h.get (i:=i) (x:=xs[i]) (by simp[hi]);rw[e]at h1;cases h1;exact⟨xs[i],by simp[hi],h2⟩
theorem ae.append:∀{xs ys:List Wd}{vs us:List V},ae K as H xs vs->ae K as H ys us->ae K as H (xs++ys) (vs++us)
 |[],ys,vs,us,h,h'=>by rw[ax.mp h];exact h'
 |x::xs,ys,vs,us,h,h'=>by
  obtain⟨v,r,rfl,q,t⟩:=am.mp h;exact am.mpr ⟨v,r++us,rfl,q,t.append h'⟩
def ae.one{x:Wd}{v:V}(h:ai K as H x v):ae K as H [x] [v]:=am.mpr ⟨v,[],rfl,h,ax.mpr rfl⟩
theorem ae.set:∀{xs:List Wd}{vs:List V}{x:Wd}{v:V}(i:Nat),ae K as H xs vs->ai K as H x v->ae K as H (xs.set i x) (vs.set i v)
 |[],vs,_,_,_,h,_=>by rw[ax.mp h];exact ax.mpr rfl
 |y::xs,vs,x,v,0,h,hx=>by
  obtain⟨u,r,rfl,q,t⟩:=am.mp h;exact am.mpr ⟨v,r,rfl,hx,t⟩
 |y::xs,vs,x,v,i+1,h,hx=>by
  obtain⟨u,r,rfl,q,t⟩:=am.mp h;exact am.mpr ⟨u,r.set i v,rfl,q,t.set i hx⟩
set_option tactic.hygienic true in
theorem ae.take:∀{xs:List Wd}{vs:List V}(n:Nat),ae K as H xs vs->ae K as H (xs.take n) (vs.take n)
 |_,_,0,_=>ax.mpr rfl
 |[],vs,n+1,h=>by rw[ax.mp h];exact ax.mpr rfl
 |x::xs,vs,n+1,h=>by
  obtain⟨v,r,rfl,q,t⟩:=am.mp h;exact am.mpr ⟨v,r.take n,rfl,q,t.take n⟩
theorem ae.drop:∀{xs:List Wd}{vs:List V}(n:Nat),ae K as H xs vs->ae K as H (xs.drop n) (vs.drop n)
 |_,_,0,h=>h
 |[],vs,n+1,h=>by rw[ax.mp h];exact ax.mpr rfl
 |x::xs,vs,n+1,h=>by
  obtain⟨v,r,rfl,q,t⟩:=am.mp h;exact t.drop n
theorem ae.reverse:∀{xs:List Wd}{vs:List V},ae K as H xs vs->ae K as H xs.reverse vs.reverse
 |[],vs,h=>by rw[ax.mp h];exact ax.mpr rfl
 |x::xs,vs,h=>by
  obtain⟨v,r,rfl,q,t⟩:=am.mp h;rw[Q9,Q9];exact t.reverse.append (.one q)
theorem ae.dropLast:∀{xs:List Wd}{vs:List V},ae K as H xs vs->ae K as H xs.dropLast vs.dropLast:=λ{xs vs} h=>by
 rw[List.dropLast_eq_take,List.dropLast_eq_take,h.length];exact h.take _
theorem ae.rep (h:ae K as H xs vs):∀k:Nat,ae K as H (Qx k xs).flatten (Qx k vs).flatten
 |0=>ax.mpr rfl
 |k+1=>by
  rw[QY,QY,Wa,Wa];exact h.append (ae.rep h k)
structure aF(K:Qb)(as:List Addr)(H:Hp)(env:En)(σ:St):Prop where
 len:env.length=σ.length
 get:∀(i:Nat) (w:Wd),env[i]?=some (some w)->∃v,σ[i]?=some (some v)/\ai K as H w v
theorem aF.mono{env:En}{σ:St}(G:aF K as H env σ)(S:aQ K as m H)(T:Step as H as' H'):aF K as' H' env σ:=
 ⟨G.len,λi w e=>let⟨v,h1,h2⟩:=G.get i w e;⟨v,h1,h2.mono S T⟩⟩
theorem aF.kp{env:En}{σ:St}(G:aF K as H env σ)(k:Kp K H H'):aF K as H' env σ:=
 ⟨G.len,λi w e=>let⟨v,h1,h2⟩:=G.get i w e;⟨v,h1,h2.kp k⟩⟩
theorem aF.set{env:En}{σ:St}(G:aF K as H env σ){w:Wd}{v:V}(h:ai K as H w v)(i:Nat):aF K as H (env.set i (some w)) (σ.set i (some v)):=by
 refine⟨by simp[G.len],λj x e=>?_⟩;by_cases hj:j=i
 .subst hj;have hl:j<env.length:=by
   have:=(Qa.mp e).1;simpa using this
  rw[QQ hl]at e;cases e;exact⟨v,QQ (by rw[<-G.len];exact hl),h⟩
 .rw[Qu (Ne.symm hj)]at e;obtain⟨u,h1,h2⟩:=G.get j x e;exact⟨u,by rw[Qu (Ne.symm hj)];exact h1,h2⟩
def aF.push{env:En}{σ:St}(G:aF K as H env σ){w:Wd}{v:V}(h:ai K as H w v):aF K as H (env++[some w]) (σ++[some v]):=by
 refine⟨by simp[G.len],λj x e=>?_⟩;by_cases hj:j<env.length
 .rw[Qg hj]at e;obtain⟨u,h1,h2⟩:=G.get j x e;exact⟨u,by rw[Qg (by rw[<-G.len];exact hj)];exact h1,h2⟩
 .rw[Qi (by lia)]at e;have hz:j-env.length=0:=by
   cases hq:j-env.length with
   |zero=>rfl
   |succ k=>rw[hq]at e;simp at e
  rw[hz]at e;simp at e;subst e;refine⟨v,?_,h⟩;rw[Qi (by rw[<-G.len];lia),<-G.len,hz];rfl
def aq(K:Qb)(as:List Addr)(H:Hp)(Q:VK)(r:Rz):Prop:=match r with
 |.ok w m'=>∀as' H' v,Step as H as' H'->aQ K as' m' H'->ai K as' H' w v->Q v H'
 |_=>False
def aq.step{Q:VK}{r:Rz}(h:aq K as H Q r)(T:Step as H as' H'):aq K as' H' Q r:=by
 cases r with
 |ok w m'=>exact λas2 H2 v U S R=>h as2 H2 v (T.trans U) S R
 |exc c w m'=>exact h
 |no=>exact h
theorem aq.bind{Q Q1:VK}{r:Rz}{f:Wd->Me->Rz}(h:aq K as H Q (r.bind f))
  (k:∀w m' as' H' v,Step as H as' H'->aQ K as' m' H'->ai K as' H' w v->aq K as' H' Q (f w m')->Q1 v H'):aq K as H Q1 r:=by
 cases r with
 |ok w m'=>exact λas2 H2 v U S R=>k w m' as2 H2 v U S R (aq.step (r:=f w m') h U)
 |exc c w m'=>exact h
 |no=>exact h
def eZ (h:aq K as H Q (r.bind f))(T:Step as H as' H')(k:∀w m2 as2 H2 v,Step as' H' as2 H2->aQ K as2 m2 H2->ai K as2 H2 w v->aq K as H Q (f w m2)->Q1 v H2):aq K as' H' Q1 r:=by
 cases r with
 |ok w m'=>exact λas2 H2 v U S R=>k w m' as2 H2 v U S R h
 |exc c w m'=>exact h
 |no=>exact h
def aM(K:Qb)(g:En->Me->Rz):TE:=λσ H Q=>∃as env m,aQ K as m H/\aF K as H env σ/\aq K as H Q (g env m)
def xQ(K:Qb)(g:En->Me->Rz):TT:=λσ H Q=>aM K g σ H λv H'=>∃b,v=.bl b/\Q b H'
theorem aq.ok (h:aq K as H Q (.ok w m))(S:aQ K as m H)(R:ai K as H w v):Q v H:=h as H v .refl S R
end
def PE.imp{X:Cx}{e:Expr}{t t':TE}(h:PE X e t)(k:∀σ H Q,t' σ H Q->t σ H Q):PE X e t':=λpins s σ H Q I q=>h pins s σ H Q I (k σ H Q q)
def PT.imp{X:Cx}{e:Expr}{t t':TT}(h:PT X e t)(k:∀σ H Q,t' σ H Q->t σ H Q):PT X e t':=λpins s σ H Q I q=>h pins s σ H Q I (k σ H Q q)
def PA.imp{X:Cx}{es:List Expr}{t t':TA}(h:PA X es t)(k:∀σ H Q,t' σ H Q->t σ H Q):PA X es t':=λpos pins s σ H Q I q=>h pos pins s σ H Q I (k σ H Q q)
def PS.imp{X:Cx}{st:Stmt}{t t':TS}(h:PS X st t)(k:∀D σ H,t' D σ H->t D σ H):PS X st t':=λpins s σ H D I q=>h pins s σ H D I (k D σ H q)
def cv.imp{X:Cx}{st:List Stmt}{t t':TS}(h:cv X st t)(k:∀D σ H,t' D σ H->t D σ H):cv X st t':=λpins s σ H D I q=>h pins s σ H D I (k D σ H q)
section
variable{K:Qb}{as:List Addr}{H H':Hp}{m:Me}{Q:VK}{a p:Addr}{l:Nat}{ws xs:List Wd}{vs us:List V}
def xb:av<=sizeLine:=by rw[Mg];decide
def aQ.new(S:aQ K as m H)(hp:H p=none):p∉as:=λz=>by
 obtain⟨us,e,_⟩:=S.isLst z;rw[hp]at e;cases e
def aQ.alloc(S:aQ K as m H)(hp:H p=none)(R:ae K as H ws vs):Step as H (as++[p]) (aJ H p (.lst vs))/\aQ K (as++[p]) (m++[.lst ws]) (aJ H p (.lst vs)):=by
 have hn:=S.new hp;have T:Step as H (as++[p]) (aJ H p (.lst vs)):=⟨⟨[p],rfl⟩,λb o h _=>by rw[zj (zr h hp)];exact h,λb hb=>by
  rcases QL.mp hb with z|z
  .exact .inl z
  .exact .inr (by rw[QO.mp z];exact hp)⟩
 refine⟨T,⟨by simp[S.len],?_,λl b o h1 h2=>?_⟩⟩
 .refine QA.mpr ⟨S.nd,by simp,λx hx y hy=>?_⟩;rw[QO.mp hy];rintro rfl;exact hn hx
 .by_cases hl:l<as.length
  .rw[Qg hl]at h1;rw[Qg (by rw[<-S.len];exact hl)]at h2;have q:=S.obj l b o h1 h2;cases o with
   |lst ys=>
    obtain⟨zs,e,r⟩:=q;exact⟨zs,by rw[zj (zr e hp)];exact e,r.mono S T⟩
   |dct ks us=>exact bx.mono (ob:=.dct ks us) (S.kp T) (λ_ _ e=>T.get e) (λo e=>by rw[zj (zr e hp)];exact e) q
  .rw[Qi (by lia)]at h1;rw[Qi (by rw[<-S.len];lia)]at h2;have hz:l-as.length=0:=by
    cases hq:l-as.length with
    |zero=>rfl
    |succ k=>rw[hq]at h1;simp at h1
   rw[hz]at h1;rw[<-S.len,hz]at h2;simp at h1 h2;subst h1;subst h2;exact⟨vs,zm,R.mono S T⟩
theorem aQ.set(S:aQ K as m H)(ha:as[l]?=some a)(hm:m[l]?=some (.lst xs))(R:ae K as H ws vs):Step as H as (aJ H a (.lst vs))/\aQ K as (m.set l (.lst ws)) (aJ H a (.lst vs)):=by
 have hin:a∈as:=Qo ha;have T:Step as H as (aJ H a (.lst vs)):=⟨⟨[],by simp⟩,λb o h hb=>by
  rw[zj (by rintro rfl;exact hb hin)];exact h,λb hb=>.inl hb⟩
 refine⟨T,⟨by simp[S.len],S.nd,λk b o h1 h2=>?_⟩⟩;by_cases hk:k=l
 .subst hk;rw[ha]at h1;cases h1;rw[QQ (Qa.mp hm).1]at h2;cases h2;exact⟨vs,zm,R.mono S T⟩
 .rw[Qu (Ne.symm hk)]at h2;have q:=S.obj k b o h1 h2;have hb:b≠a:=by
   rintro rfl;obtain⟨i1,e1⟩:=Qa.mp h1;obtain⟨i2,e2⟩:=Qa.mp ha;exact hk ((WD S.nd).mp (e1.trans e2.symm))
  cases o with
  |lst ys=>
   obtain⟨zs,e,r⟩:=q;exact⟨zs,by rw[zj hb];exact e,r.mono S T⟩
  |dct ks us=>exact bx.mono (ob:=.dct ks us) (S.kp T) (λ_ _ e=>T.get e) (λo e=>by rw[zj hb];exact e) q
def aQ.keep(S:aQ K as m H)(T:Step as H as H')(hk:∀a∈as,∀o,H a=some o->H' a=some o):aQ K as m H':=by
 refine⟨S.len,S.nd,λl b o h1 h2=>?_⟩;have q:=S.obj l b o h1 h2;cases o with
 |lst ys=>
  obtain⟨zs,e,r⟩:=q;exact⟨zs,hk b (Qo h1) _ e,r.mono S T⟩
 |dct ks us=>exact bx.mono (ob:=.dct ks us) (S.kp T) (λ_ _ e=>T.get e) (λo e=>hk b (Qo h1) _ e) q
theorem aQ.tup(S:aQ K as m H)(hp:H p=none)(R:ae K as H ws vs):Step as H as (aJ H p (.tup vs))/\aQ K as m (aJ H p (.tup vs))/\ai K as (aJ H p (.tup vs)) (.tup ws) (.ref p):=by
 have T:Step as H as (aJ H p (.tup vs)):=⟨⟨[],by simp⟩,λb o h _=>by rw[zj (zr h hp)];exact h,λb hb=>.inl hb⟩;exact⟨T,S.keep T λb _ o e=>by rw[zj (zr e hp)];exact e,aj.mpr ⟨p,vs,rfl,cf.of zm,R.mono S T⟩⟩
def xY(S:aQ K as m H)(R:ae K as H ws vs)(h:aq K as H Q (alloc m ws)):vs.length<=av/\∀p,H p=none->Q (.ref p) (aJ H p (.lst vs)):=by
 unfold Mini.alloc at h;by_cases hl:ws.length<=av
 .rw[M6 hl]at h;refine⟨by rw[<-R.length];exact hl,λp hp=>?_⟩;obtain⟨T,S'⟩:=S.alloc hp R;refine h _ _ _ T S' (aG.mpr ⟨p,?_,rfl⟩);rw[<-S.len,Qi (Qj _)];simp
 .rw[M7 hl]at h;exact h.elim
def ya(S:aQ K as m H)(hm:m[l]?=some (.lst xs)):∃a vs,as[l]?=some a/\H a=some (.lst vs)/\ae K as H xs vs:=by
 obtain⟨a,ha,vs,e,r⟩:=S.get hm;exact⟨a,vs,ha,e,r⟩
def zK (h:zz m l=some xs):m[l]?=some (.lst xs):=by
 unfold zz at h;cases e:m[l]? with
 |none=>rw[e]at h;cases h
 |some o=>cases o with
  |lst ys=>rw[e]at h;cases h;rfl
  |dct ks us=>rw[e]at h;cases h
def qf (S:aQ K as m H)(R:ai K as H w v)(h:xL m w=some xs):∃p vs,v=.ref p/\(bn K H p vs\/cf K H p vs)/\ae K as H xs vs:=by
 cases w with
 |tup ys=>
  cases h;obtain⟨b,vs,rfl,q,r⟩:=aj.mp R;exact⟨b,vs,rfl,.inr q,r⟩
 |rol ys=>
  cases h;obtain⟨b,vs,rfl,q,r⟩:=bb.mp R;exact⟨b,vs,rfl,.inl q.sq,r⟩
 |ref l=>
  obtain⟨b,hb,rfl⟩:=aG.mp R;obtain⟨a,vs,ha,e,r⟩:=ya S (zK h);rw[hb]at ha;cases ha;exact⟨b,vs,rfl,.inl (bn.of e),r⟩
 |non=>cases h
 |bl b=>cases h
 |int i=>cases h
 |str s=>cases h
def fY:Bo->LY
 |.add=>.Add |.sub=>.Sub |.mul=>.Mult |.fdiv=>.FloorDiv |.mod=>.Mod |.pow=>.Pow |.shr=>.RShift |.band=>.BitAnd
def rB(K:Qb):Bo->R2
 |.add=>λx y H Q=>eE (λi j=>.int (i+j)) x y H Q\/(r6 x y H Q\/sS K x y H Q)
 |.sub=>eE λi j=>.int (i-j)
 |.mul=>λx y H Q=>rI eX (λi j=>.int (i*j)) x y H Q\/rZ x y H Q
 |.fdiv=>rI sk λi j=>.int (i/j)
 |.mod=>rI (λ_ j=>0<j) λi j=>.int (i%j)
 |.pow=>rI si λi j=>.int (i^j.toNat)
 |.shr=>rI (λ_ j=>0<=j) λi j=>.int (i/2^j.toNat)
 |.band=>eE λi j=>.int (Builtin.bitAnd i j)
def B5 (op:Bo):cq X (Mb (fY op)) (rB X.K op):=by
 cases op with
 |add=>exact fA.or (fy.or E4)
 |sub=>exact DC
 |mul=>exact fx.or DV
 |fdiv=>exact E9
 |mod=>exact DB
 |pow=>exact DA
 |shr=>exact Dz
 |band=>exact Dy
def FL (h:0<=i):Builtin.bitAnd i 1=i%2:=by
 obtain⟨n,rfl⟩:=Wf h;show Int.ofNat (n &&& 1)=_;rw[Nat.and_one_is_mod];rfl
def kD (h:xo i=true):-(2^64)<i/\i<2^64:=by
 unfold xo cI at h;rw[Qq,decide_eq_true_iff,decide_eq_true_iff]at h;lia
def wg [Decidable c](h:aq K as H Q (if c then r else .no)):c/\aq K as H Q r:=by
 by_cases hc:c
 .rw[M6 hc]at h;exact⟨hc,h⟩
 .rw[M7 hc]at h;exact h.elim
def FK (h:aq K as H Q (dh .add (.ref a) (.ref b) m)):∃xs ys,m[a]?=some (.lst xs)/\m[b]?=some (.lst ys)/\aq K as H Q (alloc m (xs++ys)):=by
 unfold dh at h;dsimp only at h;generalize m[a]?=p at h ⊢;generalize m[b]?=q at h ⊢;cases p with
 |none=>exact h.elim
 |some o=>
  cases o with
  |dct ks us=>exact h.elim
  |lst xs=>
   cases q with
   |none=>exact h.elim
   |some o=>
    cases o with
    |dct ks us=>exact h.elim
    |lst ys=>exact⟨xs,ys,rfl,rfl,h⟩
def FJ (h:aq K as H Q (dh .mul (.ref a) (.int k) m)):∃xs,m[a]?=some (.lst xs)/\aq K as H Q (if -av<=k/\k<=av then alloc m (Qx k.toNat xs).flatten else .no):=by
 unfold dh at h;dsimp only at h;generalize m[a]?=p at h ⊢;cases p with
 |none=>exact h.elim
 |some o=>
  cases o with
  |dct ks us=>exact h.elim
  |lst xs=>exact⟨xs,rfl,h⟩
set_option tactic.hygienic true in
def DR (S:aQ K as m H)(Rx:ai K as H x v)(Ry:ai K as H y u)(h:aq K as H Q (dh op x y m)):rB K op v u H Q:=by
 cases x with
 |int i=>
  cases y with
  |int j=>
   obtain rfl:=aa.mp Rx;obtain rfl:=aa.mp Ry;cases op with
   |add=>exact .inl ⟨i,j,rfl,rfl,h.ok S (aa.mpr rfl)⟩
   |sub=>exact⟨i,j,rfl,rfl,h.ok S (aa.mpr rfl)⟩
   |mul=>
    obtain⟨hs,h⟩:=wg h;refine .inl ⟨i,j,rfl,rfl,?_,h.ok S (aa.mpr rfl)⟩;rcases Bool.or_eq_true_iff.mp hs with q|q
    .exact .inl (kD q)
    .exact .inr (kD q)
   |fdiv=>
    obtain⟨hs,h⟩:=wg h;exact⟨i,j,rfl,rfl,hs,h.ok S (aa.mpr rfl)⟩
   |mod=>
    obtain⟨hs,h⟩:=wg h;exact⟨i,j,rfl,rfl,hs,h.ok S (aa.mpr rfl)⟩
   |pow=>
    obtain⟨⟨h1,h2,h3⟩,h⟩:=wg h;have h4:=kD h3;exact⟨i,j,rfl,rfl,⟨h1,h2,by lia⟩,h.ok S (aa.mpr rfl)⟩
   |shr=>
    obtain⟨hs,h⟩:=wg h;exact⟨i,j,rfl,rfl,hs.1,h.ok S (aa.mpr rfl)⟩
   |band=>
    obtain⟨⟨h1,rfl⟩,h'⟩:=wg h;refine⟨i,1,rfl,rfl,?_⟩;show Q (.int (Builtin.bitAnd i 1)) H;rw[FL h1];exact h'.ok S (aa.mpr rfl)
  |_=>exact h.elim
 |ref a=>
  obtain⟨pa,ha,rfl⟩:=aG.mp Rx;cases y with
  |ref b=>
   obtain⟨pb,hb,rfl⟩:=aG.mp Ry;cases op with
   |add=>
    obtain⟨xs,ys,e1,e2,h⟩:=FK h;obtain⟨pa',va,ha',ea,ra⟩:=ya S e1;rw[ha]at ha';cases ha';obtain⟨pb',vb,hb',eb,rb⟩:=ya S e2;rw[hb]at hb';cases hb';obtain⟨hl,q⟩:=xY S (ra.append rb) h;rw[QW]at hl;exact .inr (.inl ⟨pa,pb,va,vb,rfl,rfl,ea,eb,Qr hl xb,q⟩)
   |_=>exact h.elim
  |int k=>
   obtain rfl:=aa.mp Ry;cases op with
   |mul=>
    obtain⟨xs,e1,h⟩:=FJ h;obtain⟨hk,h⟩:=wg h;obtain⟨pa',va,ha',ea,ra⟩:=ya S e1;rw[ha]at ha';cases ha';obtain⟨hl,q⟩:=xY S (ra.rep k.toNat) h;rw[uT]at hl;have hlim:(av:Int)=100000:=rfl;exact .inr ⟨pa,k,va,rfl,rfl,ea,by lia,by lia,by rw[WY];exact Qr hl xb,q⟩
   |_=>exact h.elim
  |_=>exact h.elim
 |tup xs=>
  cases y with
  |tup ys=>
   cases op with
   |add=>
    obtain⟨hc,h⟩:=wg h;obtain⟨pa,va,rfl,qa,ra⟩:=aj.mp Rx;obtain⟨pb,vb,rfl,qb,rb⟩:=aj.mp Ry;have la:=ra.length;have lb:=rb.length;refine .inr (.inr ⟨pa,pb,va,vb,rfl,rfl,qa,qb,?_,?_,λe=>?_,λe p hp=>?_⟩)
    .rintro rfl;cases xs with
     |nil=>simp at hc
     |cons x xs=>simp at la
    .rw[<-la,<-lb];exact Qr hc.1 xb
    .subst e;obtain rfl:ys=[]:=by
      cases ys with
      |nil=>rfl
      |cons y ys=>simp at lb
     refine h.ok S (aj.mpr ⟨pa,va,rfl,qa,?_⟩);rw[Q0];exact ra
    .obtain ⟨T,S',R'⟩:=S.tup hp (ra.append rb);exact h _ _ _ T S' R'
   |_=>exact h.elim
  |_=>exact h.elim
 |_=>exact h.elim
end
end Mini
namespace Mini
open PySem PySem.Spec PyProof.Rows L2
open PySem.SeqAt
section
variable{X:Cx}{pins:List (Addr×Obj)}{σ:St}{s:Shared}{as:List Addr}{H:Hp}{m:Me}
def As (I:Inv X pins σ H s)(h1:cf X.K H a xs)(h2:bn X.K H a ys):False:=by
 obtain⟨its,_,p,_⟩:=I.tuple h1;obtain⟨its',_,q,_⟩:=I.list h2;exact ne_of_list_tuple q.isList (show s.heap.IsTuple a its.toArray from p) rfl
def tI (I:Inv X pins σ H s)(h1:cf X.K H a xs)(h2:H a=some u)(h3:LD u):False:=by
 rcases h1 with (q|⟨o,q⟩)|⟨o,_,_,hk,_⟩
 .rw[h2]at q;cases q;exact h3
 .rw[h2]at q;cases q;exact h3
 .have:=(I.bs a o (I.ok.mod.kin a o hk)).2;rw[this]at h2;cases h2
def gD (I:Inv X pins σ H s)(h1:KL X.K a xs)(h2:H a=some u):False:=by
 obtain⟨o,_,_,hk,_⟩:=h1;have:=(I.bs a o (I.ok.mod.kin a o hk)).2;rw[this]at h2;cases h2
mutual
theorem vW(I:Inv X pins σ H s)(S:aQ X.K as m H):∀(w w':Wd) (v:V),ai X.K as H w v->ai X.K as H w' v->w=w'
 |.non,w',v,h,h'=>by
  obtain rfl:=ao.mp h;cases w' with
  |non=>rfl
  |bl b=>cases ah.mp h'
  |int i=>cases aa.mp h'
  |str x=>cases aB.mp h'
  |tup xs=>obtain⟨_,_,e,_⟩:=aj.mp h';cases e
  |rol xs=>obtain⟨_,_,e,_⟩:=bb.mp h';cases e
  |ref l=>obtain⟨_,_,e⟩:=aG.mp h';cases e
 |.bl c,w',v,h,h'=>by
  obtain rfl:=ah.mp h;cases w' with
  |non=>cases ao.mp h'
  |bl b=>cases ah.mp h';rfl
  |int i=>cases aa.mp h'
  |str x=>cases aB.mp h'
  |tup xs=>obtain⟨_,_,e,_⟩:=aj.mp h';cases e
  |rol xs=>obtain⟨_,_,e,_⟩:=bb.mp h';cases e
  |ref l=>obtain⟨_,_,e⟩:=aG.mp h';cases e
 |.int c,w',v,h,h'=>by
  obtain rfl:=aa.mp h;cases w' with
  |non=>cases ao.mp h'
  |bl b=>cases ah.mp h'
  |int i=>cases aa.mp h';rfl
  |str x=>cases aB.mp h'
  |tup xs=>obtain⟨_,_,e,_⟩:=aj.mp h';cases e
  |rol xs=>obtain⟨_,_,e,_⟩:=bb.mp h';cases e
  |ref l=>obtain⟨_,_,e⟩:=aG.mp h';cases e
 |.str c,w',v,h,h'=>by
  obtain rfl:=aB.mp h;cases w' with
  |non=>cases ao.mp h'
  |bl b=>cases ah.mp h'
  |int i=>cases aa.mp h'
  |str x=>
   have e:=aB.mp h';injection e with e
   injection e with e
   have:c=x:=by simpa using M9 WA e
   rw[this]
  |tup xs=>obtain⟨_,_,e,_⟩:=aj.mp h';cases e
  |rol xs=>obtain⟨_,_,e,_⟩:=bb.mp h';cases e
  |ref l=>obtain⟨_,_,e⟩:=aG.mp h';cases e
 |.tup xs,w',v,h,h'=>by
  obtain⟨a,vs,rfl,q,r⟩:=aj.mp h;cases w' with
  |non=>cases ao.mp h'
  |bl b=>cases ah.mp h'
  |int i=>cases aa.mp h'
  |str x=>cases aB.mp h'
  |tup ys=>
   obtain⟨b,us,e,q',r'⟩:=aj.mp h';cases e;obtain rfl:=I.tuple_inj q q';rw[cQ I S xs ys vs r r']
  |rol ys=>
   obtain⟨b,us,e,q',r'⟩:=bb.mp h';cases e;exact(As I q q'.sq).elim
  |ref l=>
   obtain⟨b,hb,e⟩:=aG.mp h';cases e;obtain⟨u,e2,e3⟩:=S.isLst (Qo hb);exact(tI I q e2 e3).elim
 |.rol xs,w',v,h,h'=>by
  obtain⟨a,vs,rfl,q,r⟩:=bb.mp h;cases w' with
  |non=>cases ao.mp h'
  |bl b=>cases ah.mp h'
  |int i=>cases aa.mp h'
  |str x=>cases aB.mp h'
  |tup ys=>
   obtain⟨b,us,e,q',r'⟩:=aj.mp h';cases e;exact(As I q' q.sq).elim
  |rol ys=>
   obtain⟨b,us,e,q',r'⟩:=bb.mp h';cases e;obtain rfl:=I.list_inj q.sq q'.sq;rw[cQ I S xs ys vs r r']
  |ref l=>
   obtain⟨b,hb,e⟩:=aG.mp h';cases e;obtain⟨u,e2,e3⟩:=S.isLst (Qo hb);rcases q with⟨o,q⟩|q
   .rw[e2]at q;cases q;exact e3.elim
   .exact (gD I q e2).elim
 |.ref l,w',v,h,h'=>by
  obtain⟨a,ha,rfl⟩:=aG.mp h;obtain⟨u,e2,e3⟩:=S.isLst (Qo ha);cases w' with
  |non=>cases ao.mp h'
  |bl b=>cases ah.mp h'
  |int i=>cases aa.mp h'
  |str x=>cases aB.mp h'
  |tup ys=>
   obtain⟨b,us,e,q',r'⟩:=aj.mp h';cases e;exact(tI I q' e2 e3).elim
  |rol ys=>
   obtain⟨b,us,e,q',r'⟩:=bb.mp h';cases e;rcases q' with⟨o,q'⟩|q'
   .rw[e2]at q';cases q';exact e3.elim
   .exact (gD I q' e2).elim
  |ref l'=>
   obtain⟨b,hb,e⟩:=aG.mp h';cases e;obtain⟨i1,e1⟩:=Qa.mp ha;obtain⟨i2,e2⟩:=Qa.mp hb;rw[(WD S.nd).mp (e1.trans e2.symm)]
theorem cQ(I:Inv X pins σ H s)(S:aQ X.K as m H):∀(xs ys:List Wd) (vs:List V),ae X.K as H xs vs->ae X.K as H ys vs->xs=ys
 |[],ys,vs,h,h'=>by
  obtain rfl:=ax.mp h;cases ys with
  |nil=>rfl
  |cons y ys=>obtain⟨_,_,e,_⟩:=am.mp h';cases e
 |x::xs,ys,vs,h,h'=>by
  obtain⟨v,r,rfl,q,t⟩:=am.mp h;cases ys with
  |nil=>cases ax.mp h'
  |cons y ys=>
   obtain⟨v',r',e,q',t'⟩:=am.mp h';cases e;rw[vW I S x y v q q',cQ I S xs ys r t t']
end
theorem qg:∀{xs ys:List Wd}{r:Bool},c6 p xs ys=some r ->
  ∃f:Nat->Bool,(∀j x y,xs[j]?=some x->ys[j]?=some y->p x y=some (f j))/\r=(QH (min xs.length ys.length)).all f
 |[],ys,r,h=>by
  unfold c6 at h;cases h;exact⟨λ_=>true,λj x y e=>by simp at e,by simp⟩
 |_::_,[],r,h=>by
  unfold c6 at h;cases h;exact⟨λ_=>true,λj x y _ e=>by simp at e,by simp⟩
 |x::xs,y::ys,r,h=>by
  unfold c6 at h;cases hp:p x y with
  |none=>rw[hp]at h;cases h
  |some b=>
   rw[hp]at h;simp only[]at h;cases hr:c6 p xs ys with
   |none=>rw[hr]at h;cases h
   |some r'=>
    rw[hr]at h;cases h;obtain⟨f,hf,e⟩:=qg (xs:=xs) (ys:=ys) hr;refine⟨λj=>match j with|0=>b|j+1=>f j,λj x' y' e1 e2=>?_,?_⟩
    .cases j with
     |zero=>simp at e1 e2;subst e1;subst e2;exact hp
     |succ j=>exact hf j x' y' (by simpa using e1) (by simpa using e2)
    .rw[Wo,Wo,Nat.succ_min_succ,Wq,Wn,WJ,e];rfl
theorem Ar:∀(k:Nat) (w:Wd) (r:Bool),cz m k w w=some r->r=true
 |0,w,r,h=>by cases h
 |k+1,w,r,h=>by
  cases w with
  |non=>cases h;rfl
  |bl b=>cases h;simp
  |int i=>cases h;simp
  |str x=>cases h;simp
  |tup xs=>
   replace h:(c6 (cz m k) xs xs).map (· && decide (xs.length=xs.length))=some r:=h
   cases hr:c6 (cz m k) xs xs with
   |none=>rw[hr]at h;cases h
   |some r'=>
    rw[hr]at h;simp only[QJ,decide_true,Bool.and_true]at h;cases h;obtain⟨f,hf,rfl⟩:=qg hr;rw[Wc];intro j hj;have hj':j<xs.length:=by simpa using hj
    exact Ar k xs[j] (f j) (hf j xs[j] xs[j] (by simp[hj']) (by simp[hj']))
  |rol xs=>cases h
  |ref l=>
   replace h:(if l=l then(if aS m l then some true else none)else match m[l]?,m[l]? with
    |some (.lst xs),some (.lst ys)=>if xs.length=ys.length then c6 (cz m k) xs ys else some false
    |_,_=>none)=some r:=h
   simp only[if_true]at h;split at h
   .cases h;rfl
   .cases h
structure J4(A:LG)(s:Shared)(u u':Value)(r:Bool):Prop where
 it:EqAt A s u u' r
 eq:RcAt A s u u' r
 ne:RcNeAt A s u u' (! r)
def aX (S:aQ X.K as m H)(I:Inv X pins σ H s)(h:aS m l=true)(R:ai X.K as H (.ref l) v)(ru:RelV v u):∃b its,u=.ref b/\s.heap.IsList b its:=by
 unfold aS at h;cases e:m[l]? with
 |none=>rw[e]at h;cases h
 |some o=>
  cases o with
  |dct ks us=>rw[e]at h;cases h
  |lst xs=>
   obtain⟨b,hb,rfl⟩:=aG.mp R;obtain⟨a,vs,ha,ea,ra⟩:=ya S e;rw[hb]at ha;cases ha;obtain rfl:u=.ref b:=ru;obtain⟨its,_,p,_⟩:=I.list (bn.of ea);exact⟨b,_,rfl,p.isList⟩
def vJ (I:Inv X pins σ H s)(R:ai X.K as H (.tup xs) v)(ru:RelV v u):∃b vs its,v=.ref b/\u=.ref b/\ae X.K as H xs vs/\ay vs its/\s.heap.IsTuple b its.toArray:=by
 obtain⟨b,vs,rfl,q,r⟩:=aj.mp R;obtain rfl:u=.ref b:=ru;obtain⟨its,rv,p,_⟩:=I.tuple q;exact⟨b,vs,its,rfl,rfl,r,rv,p⟩
set_option tactic.hygienic true in
theorem lf(I:Inv X pins σ H s)(S:aQ X.K as m H):∀(k:Nat) (A:LG) (w w':Wd) (v v':V) (u u':Value) (r:Bool),A.units+k<Mh->cz m k w w'=some r ->
  ai X.K as H w v->ai X.K as H w' v'->RelV v u->RelV v' u'->J4 A s u u' r
 |0,_,_,_,_,_,_,_,_,_,h,_,_,_,_=>by cases h
 |k+1,A,w,w',v,v',u,u',r,hu,h,R,R',ru,ru'=>by
  have hu0:A.units<Mh:=by lia
  have hu1:A.in1.units+k<Mh:=by show A.units+1+k<Mh;lia
  -- items,pair by pair
  have pairs:∀{xs ys:List Wd}{vs us:List V}{its its':List Value}{r:Bool},ae X.K as H xs vs->ae X.K as H ys us->ay vs its->ay us its'->c6 (cz m k) xs ys=some r ->
    ∃f:Nat->Bool,(∀j (h1:j<its.toArray.size) (h2:j<its'.toArray.size),EqAt A.in1 s its.toArray[j] its'.toArray[j] (f j))/\r=(QH (min its.toArray.size its'.toArray.size)).all f/\its.toArray.size=xs.length/\its'.toArray.size=ys.length:=by
   intro xs ys vs us its its' r r1 r2 rv rv' he;obtain⟨f,hf,e⟩:=qg he;have l1:=r1.length;have l2:=r2.length;have l3:=rv.length;have l4:=rv'.length;have s1:its.toArray.size=xs.length:=by simp;lia
   have s2:its'.toArray.size=ys.length:=by simp;lia
   refine⟨f,λj h1 h2=>?_,by rw[e,s1,s2],s1,s2⟩;have hj:j<xs.length:=by lia
   have hj2:j<ys.length:=by lia
   obtain⟨v1,e1,q1⟩:=r1.get (i:=j) (x:=xs[j]) (by simp[hj]);obtain⟨v2,e2,q2⟩:=r2.get (i:=j) (x:=ys[j]) (by simp[hj2]);obtain⟨u1,e3,q3⟩:=rv.get e1;obtain⟨u2,e4,q4⟩:=rv'.get e2;have z:=lf I S k A.in1 xs[j] ys[j] v1 v2 u1 u2 (f j) hu1 (hf j _ _ (by simp[hj]) (by simp[hj2])) q1 q2 q3 q4;obtain⟨_,e5⟩:=Qa.mp e3;obtain⟨_,e6⟩:=Qa.mp e4;have g1:its.toArray[j]=u1:=by simpa using e5
   have g2:its'.toArray[j]=u2:=by simpa using e6
   rw[g1,g2];exact z.it
  cases w with
  |tup xs=>
   obtain⟨b,vs,its,rfl,rfl,r1,rv,p⟩:=vJ I R ru;cases w' with
   |tup ys=>
    obtain⟨b',vs',its',rfl,rfl,r1',rv',p'⟩:=vJ I R' ru';have rc:RcAt A s (.ref b) (.ref b') r/\RcNeAt A s (.ref b) (.ref b') (! r):=by
     replace h:(c6 (cz m k) xs ys).map (· && decide (xs.length=ys.length))=some r:=h
     cases hr:c6 (cz m k) xs ys with
     |none=>rw[hr]at h;cases h
     |some r'=>
      rw[hr]at h;simp only[QJ]at h;cases h;obtain⟨f,hf,e,z1,z2⟩:=pairs r1 r1' rv rv' hr;have e2:((QH (min its.toArray.size its'.toArray.size)).all f&&its.toArray.size==its'.toArray.size)=(r'&&decide (xs.length=ys.length)):=by
       rw[e,z1,z2];congr 1
      exact⟨e2▸RcAt.tuples p p' hu0 hf,e2▸RcNeAt.tuples p p' hu0 hf⟩
    refine⟨?_,rc.1,rc.2⟩;by_cases hb:b=b'
    .subst hb;have e:=vW I S _ _ _ R R';rw[<-e]at h;obtain rfl:=Ar _ _ _ h;exact EqAt.same _
    .exact EqAt.of_refs hb rc.1
   |ref l=>
    replace h:(if aS m l&&true then some false else none)=some r:=h
    split at h
    .rename_i hl;cases h;obtain⟨b',its',rfl,q⟩:=aX S I (QC.mp hl).1 R' ru';exact⟨EqAt.tuple_list p q hu0,RcAt.tuple_list p q hu0,RcNeAt.tuple_list p q hu0⟩
    .cases h
   |rol ys=>cases h
   |non=>
    cases h;obtain rfl:=ao.mp R';obtain rfl:u'=.none:=ru';exact⟨EqAt.tuple_none p hu0,RcAt.tuple_none p hu0,RcNeAt.tuple_none p hu0⟩
   |bl c=>
    cases h;obtain rfl:=ah.mp R';obtain rfl:u'=.bool c:=ru';exact⟨EqAt.tuple_bool c p hu0,RcAt.tuple_bool c p hu0,RcNeAt.tuple_bool c p hu0⟩
   |int i=>
    cases h;obtain rfl:=aa.mp R';obtain⟨t,rfl⟩:=ru';exact⟨EqAt.tuple_int i t p hu0,RcAt.tuple_int i t p hu0,RcNeAt.tuple_int i t p hu0⟩
   |str x=>
    cases h;obtain rfl:=aB.mp R';obtain⟨t,rfl⟩:=ru';exact⟨EqAt.tuple_str _ t p hu0,RcAt.tuple_str _ t p hu0,RcNeAt.tuple_str _ t p hu0⟩
  |ref l=>
   cases w' with
   |ref l'=>
    obtain⟨b,hb,rfl⟩:=aG.mp R;obtain⟨b',hb',rfl⟩:=aG.mp R';obtain rfl:u=.ref b:=ru;obtain rfl:u'=.ref b':=ru'
    replace h:(if l=l' then(if aS m l then some true else none)else match m[l]?,m[l']? with
     |some (.lst xs),some (.lst ys)=>if xs.length=ys.length then c6 (cz m k) xs ys else some false
     |_,_=>none)=some r:=h
    by_cases hll:l=l'
    .subst hll;rw[hb]at hb';cases hb';rw[M6 rfl]at h;split at h
     .rename_i hil;cases h;obtain⟨c,its,ec,q⟩:=aX S I hil R (u:=.ref b) rfl;cases ec;have al:(QH its.size).all (λ_=>true)=true:=by simp
      have e1:=RcAt.lists (A:=A) (e:=λ_=>true) q q rfl hu0 (λj h1 h2=>EqAt.same _);have e2:=RcNeAt.lists (A:=A) (e:=λ_=>true) q q rfl hu0 (λj h1 h2=>EqAt.same _);rw[al]at e1 e2;exact⟨EqAt.same _,e1,e2⟩
     .cases h
    .rw[M7 hll]at h;have hbb:b≠b':=by
      rintro rfl;obtain⟨i1,e1⟩:=Qa.mp hb;obtain⟨i2,e2⟩:=Qa.mp hb';exact hll ((WD S.nd).mp (e1.trans e2.symm))
     split at h
     .rename_i xs ys m1 m2;obtain⟨a1,vs,h1,g1,r1⟩:=ya S m1;rw[hb]at h1;cases h1;obtain⟨a2,us,h2,g2,r2⟩:=ya S m2;rw[hb']at h2;cases h2;obtain⟨its,rv,p,_⟩:=I.list (bn.of g1);obtain⟨its',rv',p',_⟩:=I.list (bn.of g2);split at h
      .rename_i hl;obtain⟨f,hf,e,z1,z2⟩:=pairs r1 r2 rv rv' h;have hsz:its.toArray.size=its'.toArray.size:=by rw[z1,z2,hl]
       rw[<-hsz,Nat.min_self]at e;have e1:=RcAt.lists p.isList p'.isList hsz hu0 hf;have e2:=RcNeAt.lists p.isList p'.isList hsz hu0 hf;rw[<-e]at e1 e2;exact⟨EqAt.of_refs hbb e1,e1,e2⟩
      .rename_i hl;cases h;have l1:=r1.length;have l2:=r2.length;have l3:=rv.length;have l4:=rv'.length;have hsz:(its.toArray.size != its'.toArray.size)=true:=by
        simp;lia
       have e1:=RcAt.lists_lengths (A:=A) p.isList p'.isList hsz hu0;exact⟨EqAt.of_refs hbb e1,e1,RcNeAt.lists_lengths p.isList p'.isList hsz hu0⟩
     .cases h
   |tup ys=>
    replace h:(if aS m l&&true then some false else none)=some r:=h
    split at h
    .rename_i hl;cases h;obtain⟨b,its,rfl,q⟩:=aX S I (QC.mp hl).1 R ru;obtain⟨b',vs',its',rfl,rfl,r1',rv',p'⟩:=vJ I R' ru';exact⟨EqAt.list_tuple q p' hu0,RcAt.list_tuple q p' hu0,RcNeAt.list_tuple q p' hu0⟩
    .cases h
   |rol ys=>
    replace h:(if aS m l&&false then some false else none)=some r:=h
    simp only[Bool.and_false,Qy,if_false]at h;cases h
   |non=>
    replace h:(if aS m l&&true then some false else none)=some r:=h
    split at h
    .rename_i hl;cases h;obtain⟨b,its,rfl,q⟩:=aX S I (QC.mp hl).1 R ru;obtain rfl:=ao.mp R';obtain rfl:u'=.none:=ru';exact⟨EqAt.list_none q hu0,RcAt.list_none q hu0,RcNeAt.list_none q hu0⟩
    .cases h
   |bl c=>
    replace h:(if aS m l&&true then some false else none)=some r:=h
    split at h
    .rename_i hl;cases h;obtain⟨b,its,rfl,q⟩:=aX S I (QC.mp hl).1 R ru;obtain rfl:=ah.mp R';obtain rfl:u'=.bool c:=ru';exact⟨EqAt.list_bool c q hu0,RcAt.list_bool c q hu0,RcNeAt.list_bool c q hu0⟩
    .cases h
   |int i=>
    replace h:(if aS m l&&true then some false else none)=some r:=h
    split at h
    .rename_i hl;cases h;obtain⟨b,its,rfl,q⟩:=aX S I (QC.mp hl).1 R ru;obtain rfl:=aa.mp R';obtain⟨t,rfl⟩:=ru';exact⟨EqAt.list_int i t q hu0,RcAt.list_int i t q hu0,RcNeAt.list_int i t q hu0⟩
    .cases h
   |str x=>
    replace h:(if aS m l&&true then some false else none)=some r:=h
    split at h
    .rename_i hl;cases h;obtain⟨b,its,rfl,q⟩:=aX S I (QC.mp hl).1 R ru;obtain rfl:=aB.mp R';obtain⟨t,rfl⟩:=ru';exact⟨EqAt.list_str _ t q hu0,RcAt.list_str _ t q hu0,RcNeAt.list_str _ t q hu0⟩
    .cases h
  |rol xs=>
   cases w'<;>first|cases h|(replace h:(if aS m _&&false then some false else none)=some r:=h;simp at h)
  |non=>
   obtain rfl:=ao.mp R;obtain rfl:u=.none:=ru;cases w' with
   |rol ys=>cases h
   |ref l=>
    replace h:(if aS m l&&true then some false else none)=some r:=h
    split at h
    .rename_i hl;cases h;obtain⟨b,its,rfl,q⟩:=aX S I (QC.mp hl).1 R' ru';exact⟨EqAt.none_list q hu0,RcAt.none_list q hu0,RcNeAt.none_list q hu0⟩
    .cases h
   |tup ys=>
    cases h;obtain⟨b',vs',its',rfl,rfl,r1',rv',p'⟩:=vJ I R' ru';exact⟨EqAt.none_tuple p' hu0,RcAt.none_tuple p' hu0,RcNeAt.none_tuple p' hu0⟩
   |non=>
    cases h;obtain rfl:=ao.mp R';obtain rfl:u'=.none:=ru';exact⟨EqAt.same _,RcAt.none_none,RcNeAt.none_none⟩
   |bl c=>
    cases h;obtain rfl:=ah.mp R';obtain rfl:u'=.bool c:=ru';exact⟨EqAt.none_bool c,RcAt.none_bool c,RcNeAt.none_bool c⟩
   |int i=>
    cases h;obtain rfl:=aa.mp R';obtain⟨t,rfl⟩:=ru';exact⟨EqAt.none_int i t,RcAt.none_int i t,RcNeAt.none_int i t⟩
   |str x=>
    cases h;obtain rfl:=aB.mp R';obtain⟨t,rfl⟩:=ru';exact⟨EqAt.none_str _ t,RcAt.none_str _ t,RcNeAt.none_str _ t⟩
  |bl c=>
   obtain rfl:=ah.mp R;obtain rfl:u=.bool c:=ru;cases w' with
   |rol ys=>cases h
   |ref l=>
    replace h:(if aS m l&&true then some false else none)=some r:=h
    split at h
    .rename_i hl;cases h;obtain⟨b,its,rfl,q⟩:=aX S I (QC.mp hl).1 R' ru';exact⟨EqAt.bool_list c q hu0,RcAt.bool_list c q hu0,RcNeAt.bool_list c q hu0⟩
    .cases h
   |tup ys=>
    cases h;obtain⟨b',vs',its',rfl,rfl,r1',rv',p'⟩:=vJ I R' ru';exact⟨EqAt.bool_tuple c p' hu0,RcAt.bool_tuple c p' hu0,RcNeAt.bool_tuple c p' hu0⟩
   |non=>
    cases h;obtain rfl:=ao.mp R';obtain rfl:u'=.none:=ru';exact⟨EqAt.bool_none c,RcAt.bool_none c,RcNeAt.bool_none c⟩
   |bl d=>
    cases h;obtain rfl:=ah.mp R';obtain rfl:u'=.bool d:=ru';exact⟨EqAt.bool_bool c d,RcAt.bool_bool c d,RcNeAt.bool_bool c d⟩
   |int i=>
    cases h;obtain rfl:=aa.mp R';obtain⟨t,rfl⟩:=ru';have e:decide (b2i c=i)=((if c then(1:Int)else 0)==i):=by
     show decide ((if c then(1:Int)else 0)=i)=_;rw[W4]
    rw[e];exact⟨EqAt.bool_int c i t,RcAt.bool_int c i t,RcNeAt.bool_int c i t⟩
   |str x=>
    cases h;obtain rfl:=aB.mp R';obtain⟨t,rfl⟩:=ru';exact⟨EqAt.bool_str c _ t,RcAt.bool_str c _ t,RcNeAt.bool_str c _ t⟩
  |int i=>
   obtain rfl:=aa.mp R;obtain⟨t,rfl⟩:=ru;cases w' with
   |rol ys=>cases h
   |ref l=>
    replace h:(if aS m l&&true then some false else none)=some r:=h
    split at h
    .rename_i hl;cases h;obtain⟨b,its,rfl,q⟩:=aX S I (QC.mp hl).1 R' ru';exact⟨EqAt.int_list i t q hu0,RcAt.int_list i t q hu0,RcNeAt.int_list i t q hu0⟩
    .cases h
   |tup ys=>
    cases h;obtain⟨b',vs',its',rfl,rfl,r1',rv',p'⟩:=vJ I R' ru';exact⟨EqAt.int_tuple i t p' hu0,RcAt.int_tuple i t p' hu0,RcNeAt.int_tuple i t p' hu0⟩
   |non=>
    cases h;obtain rfl:=ao.mp R';obtain rfl:u'=.none:=ru';exact⟨EqAt.int_none i t,RcAt.int_none i t,RcNeAt.int_none i t⟩
   |bl d=>
    cases h;obtain rfl:=ah.mp R';obtain rfl:u'=.bool d:=ru';have e:decide (i=b2i d)=(i==(if d then(1:Int)else 0)):=by
     show decide (i=(if d then(1:Int)else 0))=_;rw[W4]
    rw[e];exact⟨EqAt.int_bool i t d,RcAt.int_bool i t d,RcNeAt.int_bool i t d⟩
   |int j=>
    cases h;obtain rfl:=aa.mp R';obtain⟨t',rfl⟩:=ru';have e:decide (i=j)=(i==j):=by rw[W4]
    rw[e];exact⟨EqAt.int_int i t j t',RcAt.int_int i t j t',RcNeAt.int_int i t j t'⟩
   |str x=>
    cases h;obtain rfl:=aB.mp R';obtain⟨t',rfl⟩:=ru';exact⟨EqAt.int_str i t _ t',RcAt.int_str i t _ t',RcNeAt.int_str i t _ t'⟩
  |str x=>
   obtain rfl:=aB.mp R;obtain⟨t,rfl⟩:=ru;cases w' with
   |rol ys=>cases h
   |ref l=>
    replace h:(if aS m l&&true then some false else none)=some r:=h
    split at h
    .rename_i hl;cases h;obtain⟨b,its,rfl,q⟩:=aX S I (QC.mp hl).1 R' ru';exact⟨EqAt.str_list _ t q hu0,RcAt.str_list _ t q hu0,RcNeAt.str_list _ t q hu0⟩
    .cases h
   |tup ys=>
    cases h;obtain⟨b',vs',its',rfl,rfl,r1',rv',p'⟩:=vJ I R' ru';exact⟨EqAt.str_tuple _ t p' hu0,RcAt.str_tuple _ t p' hu0,RcNeAt.str_tuple _ t p' hu0⟩
   |non=>
    cases h;obtain rfl:=ao.mp R';obtain rfl:u'=.none:=ru';exact⟨EqAt.str_none _ t,RcAt.str_none _ t,RcNeAt.str_none _ t⟩
   |bl d=>
    cases h;obtain rfl:=ah.mp R';obtain rfl:u'=.bool d:=ru';exact⟨EqAt.str_bool _ t d,RcAt.str_bool _ t d,RcNeAt.str_bool _ t d⟩
   |int j=>
    cases h;obtain rfl:=aa.mp R';obtain⟨t',rfl⟩:=ru';exact⟨EqAt.str_int _ t j t',RcAt.str_int _ t j t',RcNeAt.str_int _ t j t'⟩
   |str y=>
    cases h;obtain rfl:=aB.mp R';obtain⟨t',rfl⟩:=ru';have e:decide (x=y)=((⟨x.toArray⟩:Str) == ⟨y.toArray⟩):=by
     by_cases hxy:x=y
     .subst hxy;simp
     .have:¬(⟨x.toArray⟩:Str)=⟨y.toArray⟩:=λz=>by
       injection z with z
       exact hxy (by simpa using M9 WA z)
      rw[M5 hxy];exact(beq_eq_false_iff_ne.mpr this).symm
    rw[e];exact⟨EqAt.str_str _ t _ t',RcAt.str_str _ t _ t',RcNeAt.str_str _ t _ t'⟩
end
end Mini
namespace L2
open PySem PySem.Spec PyProof.Rows PySem.SeqAt
section
variable{prog:Lr}{w:Ls}{A:LG}{E:Value->Shared->Prop}{s:Shared}
def IZ {stored:List Value}(hst:∀v∈stored,∃k' b,v=.ref b/\MN (LB prog w) s.heap k' b)(h:Q false s):LK (LL prog w) A (tableMayTell (.int i t) stored) Q E s:=by
 unfold tableMayTell;split
 .exact L7 h
 .rw[eqIsQuiet_byValue 8 (show carriedByValue (.int i t)=true from rfl)];refine LZ (L7 ?_);simp only[Q2,Qy,if_false];refine LZ ?_;refine MP _ (λrest r s'=>s'=s/\r=(none,())/\∀v∈rest,∃k' b,v=.ref b/\MN (LB prog w) s.heap k' b) _ ?_ ?_ _ _ ⟨rfl,rfl,hst⟩
  .rintro v rest r s' ⟨rfl,rfl,hr⟩;obtain⟨k',b,rfl,hk⟩:=hr v QD;refine LZ (wpAny_eqIsQuiet_tuple hk ?_);simp only[Q2,Qy,if_false];exact L7 ⟨rfl,rfl,λv hv=>hr v (Qh _ hv)⟩
  .rintro r s' ⟨rfl,rfl,_⟩;exact L7 h
def GI {xs:List TK}(hu:A.units<Mh)(ho:s.heap.get? d=some o)(hd:o.data=.dict es ep)(he:es.toList=xs.map lg)(his:∀x∈xs,MN (LB prog w) s.heap x.1 x.2.1)(h:Q none s):
  LK (LL prog w) A (dictFind d (.int i t) (hashInt i)) Q E s:=by
 have hmem:∀e∈es,∃x∈xs,e=lg x:=by
  intro e hin;have:e∈xs.map lg:=he▸W5.mpr hin;obtain⟨x,hx,rfl⟩:=Wg.mp this;exact⟨x,hx,rfl⟩
 have hst:∀v∈(placesWithHash es.size (λi=>es[i]?.map (·.hash)) (hashInt i)).filterMap (λi=>es[i]?.map (·.key)),∃k' b,v=.ref b/\MN (LB prog w) s.heap k' b:=by
  intro v hv;obtain⟨j,_,hi⟩:=WM.mp hv;cases hei:es[j]? with
  |none=>rw[hei]at hi;cases hi
  |some e=>
   rw[hei]at hi;obtain rfl:e.key=v:=by simpa using hi
   obtain⟨x,hx,rfl⟩:=hmem e (W1 hei);exact⟨x.1,x.2.1,rfl,his x hx⟩
 have hne:∀(e:Lq),e∈es->∀(Q:Bool->Shared->Prop),Q false s->LK (LL prog w) A (eqBool e.key (.int i t)) Q E s:=by
  intro e hin Q q;obtain⟨x,hx,rfl⟩:=hmem e hin;obtain⟨ob,items,n,h1,h2,h3,_⟩:=his x hx;exact EqAt.tuple_int i t (show s.heap.IsTuple x.2.1 items from⟨ob,h1,h2,n,h3⟩) hu prog w E Q q
 unfold dictFind
 try with_reducible refine L3 ?_
 refine LZ (wpAny_dictEntries ho hd ?_);dsimp only;by_cases hall:((Value.int i t::(placesWithHash es.size (λi=>es[i]?.map (·.hash)) (hashInt i)).filterMap (λi=>es[i]?.map (·.key))).all carriedByValue)=true
 .rw[M6 hall];unfold dictWalkPlain;refine LZ ?_;refine MP _ (λ_ b s'=>s'=s/\b=(none,())) _ ?_ ?_ _ _ ⟨rfl,rfl⟩
  .rintro x rest b s' ⟨rfl,rfl⟩;cases hex:es[x]? with
   |none=>exact L7 ⟨rfl,rfl⟩
   |some e=>
    dsimp only;by_cases hh:(e.hash==hashInt i)=true
    .rw[M6 hh];refine LZ (MQ ho hd (LZ (hne e (W1 hex) _ (LZ (MQ ho hd ?_)))));show LK _ _ (if(ep != ep)=true then _ else _) _ E _;rw[M7 (by simp)];simp only[Qy,if_false];refine LZ (wpAny_rule ?_);exact L7 ⟨rfl,rfl⟩
    .rw[M7 hh];exact L7 ⟨rfl,rfl⟩
  .rintro b s' ⟨rfl,rfl⟩;exact L7 h
 .rw[M7 hall];have hone:¬(((placesWithHash es.size (λi=>es[i]?.map (·.hash)) (hashInt i)).filterMap (λi=>es[i]?.map (·.key))) == [Value.int i t])=true:=by
   intro z;have z:=eq_of_beq z;obtain⟨_,b,e,_⟩:=hst (.int i t) (by rw[z];simp);cases e
  rw[M7 hone];refine LZ (IZ hst ?_);rw[M7 (by simp)];refine LZ ?_;refine MP _ (λ_ b s'=>s'=s/\b=(none,none)) _ ?_ ?_ _ _ ⟨rfl,rfl⟩
  .rintro x rest b s' ⟨rfl,rfl⟩;cases hex:es[x]? with
   |none=>exact L7 ⟨rfl,rfl⟩
   |some e=>
    dsimp only;by_cases hh:(e.hash==hashInt i)=true
    .rw[M6 hh];refine LZ (MQ ho hd (LZ (hne e (W1 hex) _ (LZ (MQ ho hd ?_)))));show LK _ _ (if(ep != ep)=true then _ else _) _ E _;rw[M7 (by simp)];simp only[Qy,if_false];refine LZ (wpAny_rule ?_)
     first
      |exact L7 ⟨rfl,rfl⟩
      |(rw[M7 (by simp)];exact L7 ⟨rfl,rfl⟩)
      |exact LZ (L7 (L7 ⟨rfl,rfl⟩))
    .rw[M7 hh];exact L7 ⟨rfl,rfl⟩
  .rintro b s' ⟨rfl,rfl⟩;exact L7 h
def DQ (hu:A.units+1<Mh)(hd:(d==Lz)=false)(hm:s.heap.DictOfH (LA (LB prog w)) d xs)(h:Q (.bool false) {s with toks:=s.toks+1}):
  LK (LL prog w) A (Mc .In (.int i t) (.ref d)) Q E s:=by
 show LK _ _ (do return .bool (<-contains (.ref d) (.int i t))) Q E s;refine LZ ?_;unfold contains
 try with_reducible refine L3 ?_
 refine LZ (MM hm.typeIs slot_dict_contains.lookup ?_);show LK _ _ (if(some (Value.builtin "dict.__contains__")==some Value.none)=true then _ else _) _ E s;rw[M7 (by rw[beq_builtin_none];exact QP)];refine LZ (wpAny_callSpecialUnlessNone?_slot (name:=Str.ofString "__contains__") hm.typeIs slot_dict_contains
  (wpAny_call_entry slot_dict_contains hm.typeIs entry_dict_contains ?_ (args_dict_contains _ _)))
 obtain⟨o,es,ep,ho,_,hdd,he,his,hn⟩:=id hm;show LK _ _ (dictGet d (.int i t) >>= _) _ _ s;refine LZ ?_;unfold dictGet
 try with_reducible refine L3 ?_
 refine LZ (wpAny_pyHash_int (LZ (GI (s:={s with toks:=s.toks+1}) (xs:=xs) (by show A.units+1<Mh;lia) ho hdd he his ?_)));refine L7 ?_;show LK _ _ (Builtin.Dict.pendingKey? d (.int i t) >>= _) _ _ _;exact LZ (wpAny_pendingKey_other hd (L7 ⟨_,rfl,LR (L7 h)⟩))
end
section
variable{X:Cx}{pins:List (Addr×Obj)}{σ:St}{H:Hp}{s:Shared}
def sy(K:Qb):R2:=λx y H Q=>∃d xs,y=.ref d/\jw K H d xs/\((∃i,x=.int i/\Q (.bl false) H)\/∃a ks,x=.ref a/\cf K H a (ks.map V.int)/\Q (.bl (MO xs ks).isSome) H)
def DO(hu:X.A.units+64<Mh):cq X (Mc .In) (sy X.K):=by
 intro pins s σ H x y v u Q I rx ry h;obtain⟨d,xs,rfl,hd,h⟩:=h;cases ry;obtain⟨d0,dm⟩:=vV I hd;rcases h with⟨i,rfl,q⟩|⟨a,ks,rfl,hk,q⟩
 .obtain ⟨t,rfl⟩:=rx;exact DQ (by lia) d0 dm ⟨.bl false,H,I.tok _,rfl,q⟩
 .cases rx;exact wpAny_in_heap (knd:=LA (LB X.prog X.w)) (by show X.A.units+1<Mh;lia) (jk I hk) d0 dm ⟨.bl (MO xs ks).isSome,H,I.tok _,rfl,q⟩
end
end L2
namespace Mini
open PySem PySem.Spec PyProof.Rows L2
section
variable{K:Qb}{as:List Addr}{H:Hp}{m:Me}{Q:VK}
theorem kF:∀{ws:List Wd}{k:List Int}{vs:List V},xX ws=some k->ae K as H ws vs->vs=k.map V.int
 |[],k,vs,h,r=>by cases h;rw[ax.mp r];rfl
 |w::ws,k,vs,h,r=>by
  cases w with
  |int i=>
   have h':(xX ws).map (i::·)=some k:=h;obtain⟨k',e,rfl⟩:=QK.mp h';obtain⟨v,r',rfl,q,t⟩:=am.mp r;rw[aa.mp q,kF e t];rfl
  |_=>cases h
def nl {l:Nat}(S:aQ K as m H)(hm:m[l]?=some (.dct ks ws)):∃a xs vs,as[l]?=some a/\jw K H a xs/\xs.map (·.1)=ks/\ae K as H ws vs/\ay vs (xs.map (·.2.2))/\ks.Nodup:=by
 obtain⟨a,ha,xs,vs,r⟩:=S.get hm;exact⟨a,xs,vs,ha,r⟩
def bT {q:List Int}:(MO xs q).isSome=true↔q∈xs.map (·.1):=by
 unfold MO;rw[Option.isSome_map,List.find?_isSome];simp only[Wg,Nc]
def DN (S:aQ K as m H)(R:ai K as H x v)(R':ai K as H y u)(h:lI m x y=some b)(q:Q (.bl b) H):sy K v u H Q:=by
 unfold lI at h;cases y with
 |ref l=>
  obtain⟨a,ha,rfl⟩:=aG.mp R';dsimp only at h;cases e:m[l]? with
  |none=>rw[e]at h;cases h
  |some o=>
   cases o with
   |lst ys=>rw[e]at h;cases h
   |dct ks ws=>
    rw[e]at h;dsimp only at h;obtain⟨a',xs,vs,ha',td,rfl,_⟩:=nl S e;rw[ha]at ha';cases ha';refine⟨a,xs,rfl,td,?_⟩;cases x with
    |int i=>cases h;exact .inl ⟨i,aa.mp R,q⟩
    |tup us=>
     obtain⟨k,hk,rfl⟩:=QK.mp h;obtain⟨c,vs,rfl,sq,r⟩:=aj.mp R;rw[kF hk r]at sq;refine .inr ⟨c,k,rfl,sq,?_⟩;rw[show(MO xs k).isSome=decide (k∈xs.map (·.1))from by
      rw[Vr,bT,Nc]]
     exact q
    |_=>cases h
 |_=>cases h
end
end Mini
namespace Mini
open PySem PySem.Spec PyProof.Rows L2
open PySem.SeqAt
def cK:Co->Md
 |.eq=>.Eq |.ne=>.NotEq |.lt=>.Lt |.le=>.LtE |.isN=>.Is |.notN=>.IsNot |.isin=>.In 
def rC(K:Qb)(op:Co):R2:=λx y H Q=>∃as m w w',aQ K as m H/\ai K as H w x/\ai K as H w' y/\aq K as H Q (cZ op w w' m)
section
variable{X:Cx}
def jA {K:Qb}(S:aQ K as m H)(h:aq K as H Q (dY o m)):∃b,o=some b/\Q (.bl b) H:=by
 cases o with
 |none=>exact h.elim
 |some b=>exact⟨b,rfl,h.ok S (ah.mpr rfl)⟩
theorem Ae:∀{ys:List Wd}{r:Bool},eP p x ys=some r ->
  ∃f:Wd->Bool,(∀y∈ys,p y x=some (f y))/\r=ys.any f
 |[],r,h=>by cases h;exact⟨λ_=>false,λy hy=>by simp at hy,rfl⟩
 |y::ys,r,h=>by
  unfold eP at h;cases hp:p y x with
  |none=>rw[hp]at h;cases h
  |some b=>
   rw[hp]at h;simp only[]at h;cases hr:eP p x ys with
   |none=>rw[hr]at h;cases h
   |some r'=>
    rw[hr]at h;cases h;obtain⟨f,hf,rfl⟩:=Ae hr
    classical
    refine⟨λz=>(p z x).getD false,λz hz=>?_,?_⟩
    .rcases Qp.mp hz with rfl|hz
     .simp only[hp,Ve]
     .simp only[hf z hz,Ve]
    .rw[WT,hp];congr 1;refine Vr.mpr ?_;rw[Wt,Wt];constructor
     .rintro ⟨z,hz,e⟩;exact⟨z,hz,by rw[hf z hz];exact e⟩
     .rintro ⟨z,hz,e⟩;rw[hf z hz]at e;exact⟨z,hz,e⟩
def Aq (I:Inv X pins σ H s)(S:aQ X.K as m H)(hu:A.units+y0<Mh)(R:ai X.K as H w v)(ru:RelV v u)(ry:ae X.K as H ys vs)(rv:ay vs its)(h:eP (cz m y0) w ys=some r):
  ∃e:Value->Bool,(∀y,y∈its.toArray->EqAt A s y u (e y))/\its.toArray.any e=r:=by
 obtain⟨f,hf,rfl⟩:=Ae h
 classical
 -- the plain value of an item
 have pick:∀y,y∈its->∃z,z∈ys/\∃vz,ai X.K as H z vz/\RelV vz y:=λy hy=>by
  obtain⟨j,hj,rfl⟩:=W7.mp hy;have l1:=ry.length;have l2:=rv.length;have hj1:j<vs.length:=by lia
  obtain⟨u1,e1,q1⟩:=rv.get (i:=j) (x:=vs[j]) (by simp[hj1]);obtain⟨z,e2,q2⟩:=ry.back (i:=j) (v:=vs[j]) (by simp[hj1]);obtain⟨_,e3⟩:=Qa.mp e1;exact⟨z,Qo e2,vs[j],q2,by rw[e3];exact q1⟩
 let e:Value->Bool:=λy=>if hy:y∈its then f (Classical.choose (pick y hy))else false
 have he:∀y (hy:y∈its) z vz,z∈ys->ai X.K as H z vz->RelV vz y->e y=f z:=λy hy z vz hz hr hq=>by
  obtain⟨h1,vz',h2,h3⟩:=Classical.choose_spec (pick y hy);have:e y=f (Classical.choose (pick y hy)):=dif_pos hy;rw[this];have hv:vz'=vz:=h3.inj hq;subst hv;rw[vW I S _ _ _ h2 hr]
 refine⟨e,λy hy=>?_,?_⟩
 .have hy':y∈its:=by simpa using hy
  obtain⟨z,hz,vz,q1,q2⟩:=pick y hy';rw[he y hy' z vz hz q1 q2];exact(lf I S y0 A z w vz v y u (f z) hu (hf z hz) q1 R q2 ru).it
 .refine Vr.mpr ?_;rw[List.any_toArray,Wt,Wt];constructor
  .rintro ⟨y,hy,ey⟩;obtain⟨z,hz,vz,q1,q2⟩:=pick y hy;rw[he y hy z vz hz q1 q2]at ey;exact⟨z,hz,ey⟩
  .rintro ⟨z,hz,ez⟩;obtain⟨j,hj,rfl⟩:=W7.mp hz;obtain⟨v1,e1,q1⟩:=ry.get (i:=j) (x:=ys[j]) (by simp[hj]);obtain⟨u1,e2,q2⟩:=rv.get e1;have hy:u1∈its:=Qo e2;exact⟨u1,hy,by rw[he u1 hy ys[j] v1 (WV hj) q1 q2];exact ez⟩
set_option tactic.hygienic true in
def jB(hu:X.A.units+64<Mh)(op:Co):cq X (Mc (cK op)) (rC X.K op):=by
 intro pins s σ H x y v u Q I rx ry h;obtain⟨as,m,w,w',S,R,R',q⟩:=h;have hd:y0=12:=rfl;have fin:∀{b:Bool},Q (.bl b) H->EP X pins σ Q (.bool b) s:=λ{b} q=>⟨.bl b,H,I,rfl,q⟩;have cmpI:∀{r:Int->Int->Bool},aq X.K as H Q (qY r w w' m)->∃i j,x=.int i/\y=.int j/\Q (.bl (r i j)) H:=λ{r} q=>by
  unfold qY at q;cases w with
  |int i=>
   cases w' with
   |int j=>exact⟨i,j,aa.mp R,aa.mp R',q.ok S (ah.mpr rfl)⟩
   |_=>exact q.elim
  |_=>exact q.elim
 cases op with
 |eq=>
  obtain⟨b,hb,q⟩:=jA S q;exact(lf I S y0 X.A w w' x y v u b (by lia) hb R R' rx ry).eq X.prog X.w X.xe _ (fin q)
 |ne=>
  obtain⟨b,hb,q⟩:=jA S q;obtain⟨c,hc,rfl⟩:=QK.mp hb;exact(lf I S y0 X.A w w' x y v u c (by lia) hc R R' rx ry).ne X.prog X.w X.xe _ (fin q)
 |isin=>
  simp only[cZ]at q;split at q
  .rename_i ys hs;obtain⟨b,hb,q⟩:=jA S q;obtain⟨p,vs,rfl,hq,r⟩:=qf S R' hs;obtain rfl:u=.ref p:=ry;rcases hq with hq|hq
   .obtain ⟨its,rv,pl,_⟩:=I.list hq;obtain⟨e,he,rfl⟩:=Aq (A:=X.A.in1) I S (by show X.A.units+1+y0<Mh;lia) R rx r rv hb;exact in_listAt e pl.isList he (fin q)
   .obtain ⟨its,rv,pl,_⟩:=I.tuple hq;obtain⟨e,he,rfl⟩:=Aq (A:=X.A.in1) I S (by show X.A.units+1+y0<Mh;lia) R rx r rv hb;exact in_tupleAt e (show s.heap.IsTuple p its.toArray from pl) he (fin q)
  .obtain ⟨b,hb,q⟩:=jA S q;exact DO hu pins s σ H x y v u Q I rx ry (DN S R R' hb q)
 |isN=>
  refine Dw pins s σ H x y v u Q I rx ry ?_;simp only[cZ]at q;split at q
  .exact ⟨ao.mp R',by rw[ao.mp R];exact q.ok S (ah.mpr rfl)⟩
  .rename_i hne;refine⟨ao.mp R',?_⟩;have:x≠.non:=λz=>by
    subst z;exact hne (vW I S _ _ _ R (ao.mpr rfl))
   rw[M5 this];exact q.ok S (ah.mpr rfl)
  .exact q.elim
 |notN=>
  refine E8 pins s σ H x y v u Q I rx ry ?_;simp only[cZ]at q;split at q
  .exact ⟨ao.mp R',by rw[ao.mp R];exact q.ok S (ah.mpr rfl)⟩
  .rename_i hne;refine⟨ao.mp R',?_⟩;have:x≠.non:=λz=>by
    subst z;exact hne (vW I S _ _ _ R (ao.mpr rfl))
   rw[M5 this];exact q.ok S (ah.mpr rfl)
  .exact q.elim
 |lt=>exact Cd pins s σ H x y v u Q I rx ry (cmpI q)
 |le=>exact Cc pins s σ H x y v u Q I rx ry (cmpI q)
end
end Mini
namespace L2
open PySem PySem.Spec PyProof.Rows
section
variable{O:MR}{key:MS->O.α}
def Le(O:MR)(key:MS->O.α)(x y:MS):Prop:=O.kle (key x) (key y)
def rE(O:MR)(key:MS->O.α)(l:List MS):Prop:=l.Pairwise (Le O key)
def Le.trans{x y z:MS}(h1:Le O key x y)(h2:Le O key y z):Le O key x z:=KeyOrd.kle_trans h1 h2
structure MI(O:MR)(key:MS->O.α)(X Y:List MS)(ia ib:Nat)(L:List MS):Prop where
 ha:ia<=X.length
 hb:ib<=Y.length
 pm:L.Perm (X.take ia++Y.take ib)
 so:rE O key L
 la:∀z∈L,∀x∈X.drop ia,Le O key z x
 lb:∀z∈L,∀y∈Y.drop ib,Le O key z y
def Good(O:MR)(key:MS->O.α)(X Y r:List MS):Prop:=rE O key r/\r.Perm (X++Y)
variable{X Y L:List MS}{ia ib:Nat}
end
section
variable{O:MR}{key:MS->O.α}
structure MH(O:MR)(key:MS->O.α)(X Y:List MS)(na nb:Nat)(L:List MS):Prop where
 ha:na<=X.length
 hb:nb<=Y.length
 pm:L.Perm (X.drop na++Y.drop nb)
 so:rE O key L
 la:∀z∈L,∀x∈X.take na,Le O key x z
 lb:∀z∈L,∀y∈Y.take nb,Le O key y z
variable{X Y L:List MS}{na nb:Nat}
end
section
variable{O:MR}{key:MS->O.α}{S:MS->Prop}
structure Ok(O:MR)(key:MS->O.α)(S:MS->Prop)(st:SortSt)(pend:List (Nat×Nat×Nat))(l:List MS):Prop where
 kind:kindOf st=oneType'
 failed:failedOf st=none
 pend:(pendingOf st).toList=pend
 arr:(arrOf st).toList=l
 all:∀x∈l,S x
end
def fL(ns:List Int):List Int:=ns.mergeSort λa b=>decide (a<=b)
def gE(ns:List Int):(fL ns).Perm ns:=List.mergeSort_perm _ _
def IY(ns:List Int):(fL ns).Pairwise (·<=·):=by
 have:=List.pairwise_mergeSort (le:=λa b:Int=>decide (a<=b)) (λa b c h1 h2=>by simp only[Nc]at *;lia) (λa b=>by simp only[Ww,Nc];lia) ns;exact this.imp λh=>Nb h
def FI (h:ms.Perm ns)(hs:ms.Pairwise (·<=·)):fL ns=ms:=
 List.Perm.eq_of_pairwise (le:=λa b:Int=>a<=b) (λa b _ _ h1 h2=>by lia) (IY ns) hs ((gE ns).trans h.symm)
theorem Ap:∀{ns:List Int}{its:List Value},ay (ns.map V.int) its->MC its ns
 |[],_,.nil=>.nil
 |n::ns,_,.cons r t=>by
  obtain⟨k,rfl⟩:=(r:∃t,_=Value.int n t);exact .cons _ _ (Ap t)
theorem Ao:∀{ns:List Int}{its:List Value},MC its ns->ay (ns.map V.int) its
 |_,_,.nil=>.nil
 |_,_,.cons _ _ t=>.cons ⟨_,rfl⟩ (Ao t)
section
variable{X:Cx}
def IM:bK X (.builtin "sorted") (λxs H Q=>∃(p:Addr) (ns:List Int),xs=[.ref p]/\bn X.K H p (ns.map V.int)/\ns.length<64/\∀l,H l=none->Q (.ref l) (aJ H l (.lst ((fL ns).map V.int)))):=by
 intro pins s σ H xs us Q I r h;obtain⟨p,ns,rfl,hq,h64,q⟩:=h;obtain⟨u,rfl,rx⟩:=qS r;cases rx;obtain⟨its,r',pl,hz⟩:=I.list hq;have hlen:=r'.length;rw[Qn]at hlen;refine sorted_ints pl.isList (Ap r') (by lia) λout ns' h1 h2 h3=>?_;obtain⟨e,he⟩:=sortedAll_at s.heap its out;have e1:fL ns=ns':=FI h2 h3;refine⟨.ref (s.heap.objs.size+1),_,I.laid (a:=s.heap.objs.size+1) (t':=s.toks) (λb o hb=>sortedAll_old hb) (by lia) (show aW X.prog X.w _ _ _ (.lst ((fL ns).map V.int))from⟨?_,out.toList,e,?_,?_⟩),rfl,q _ (I.hok.fresh (by lia))⟩
 .rw[Qn,(gE ns).length_eq];have:(64:Nat)<=sizeLine:=by decide
  lia
 .rw[e1];exact Ao h1
 .exact he
end
end L2
namespace Mini
open PySem PySem.Spec PyProof.Rows L2
section
variable{K:Qb}{as:List Addr}{H H':Hp}{m m':Me}{Q:VK}{X:Cx}
def i6:eD->Option (Str×Value)
 |.len=>some ("len",.builtin "len")
 |.int=>some ("int",.type "int")
 |.list=>some ("list",.type "list")
 |.max2=>some ("max",.builtin "max")
 |.min2=>some ("min",.builtin "min")
 |.sortI=>some ("sorted",.builtin "sorted")
def AU(K:Qb)(b:eD):List V->Hp->VK->Prop:=λvs H Q=>∃as m ws,aQ K as m H/\ae K as H ws vs/\aq K as H Q (ft b ws m)
def vK (h:ae K as H [x] vs):∃v,vs=[v]/\ai K as H x v:=by
 obtain⟨v,r,rfl,q,t⟩:=am.mp h;obtain rfl:=ax.mp t;exact⟨v,rfl,q⟩
def qh (h:ae K as H [x,y] vs):∃v u,vs=[v,u]/\ai K as H x v/\ai K as H y u:=by
 obtain⟨v,r,rfl,q,t⟩:=am.mp h;obtain⟨u,rfl,q'⟩:=vK t;exact⟨v,u,rfl,q,q'⟩
def Cr (S:aQ K as m H)(R:ai K as H w v)(h:fR m w=some xs):∃p vs,v=.ref p/\bn K H p vs/\ae K as H xs vs:=by
 cases w with
 |rol ys=>
  cases h;obtain⟨a,vs,rfl,hq,rr⟩:=bb.mp R;exact⟨a,vs,rfl,hq.sq,rr⟩
 |ref l=>
  obtain⟨b,hb,rfl⟩:=aG.mp R;obtain⟨a,vs,ha,e,r⟩:=ya S (zK h);rw[hb]at ha;cases ha;exact⟨b,vs,rfl,bn.of e,r⟩
 |_=>cases h
def Ad{o:Option (List Wd)}{f:(List Wd)->Rz}(h:aq K as H Q (match o with|some a=>f a|none=>.no)):∃a,o=some a/\aq K as H Q (f a):=by
 cases o with
 |none=>exact h.elim
 |some a=>exact⟨a,rfl,h⟩
theorem gF:∀(l:List Int),ae K as H (l.map Wd.int) (l.map V.int)
 |[]=>ax.mpr rfl
 |n::l=>am.mpr ⟨_,_,rfl,aa.mpr rfl,gF l⟩
theorem An:∀{xs:List Wd}{vs:List V}{k:List Int},ae K as H xs vs->xX xs=some k->vs=k.map V.int
 |[],vs,k,R,h=>by cases h;exact ax.mp R
 |x::xs,vs,k,R,h=>by
  obtain⟨v,r,rfl,q,t⟩:=am.mp R;cases x with
  |int j=>
   have h':(xX xs).map (j::·)=some k:=h;obtain⟨k',hk,rfl⟩:=QK.mp h';rw[An t hk,aa.mp q];rfl
  |_=>cases h
set_option tactic.hygienic true in
def GH (hu:X.A.units+64<Mh)(hc:X.calm=true)(hb:i6 b=some (nm,f)):bK X f (AU X.K b):=by
 intro pins s σ H xs us Q I r h;obtain⟨as,m,ws,S,R,q⟩:=h;cases b with
 |len=>
  cases hb;refine g7 pins s σ H xs us Q I r ?_;rcases ws with _|⟨x,_|⟨_,_⟩⟩
  .exact q.elim
  .obtain ⟨ys,hs,q⟩:=Ad (o:=xL m x) (f:=λys=>.ok (.int ys.length) m) q;obtain⟨v,rfl,q1⟩:=vK R;obtain⟨p,vs,rfl,hq,rr⟩:=qf S q1 hs;refine⟨p,vs,rfl,hq,?_⟩;rw[<-rr.length];exact q.ok S (aa.mpr rfl)
  .exact q.elim
 |int=>
  cases hb;refine Ij pins s σ H xs us Q I r ?_;cases ws with
  |nil=>exact q.elim
  |cons x ws=>
   cases x with
   |int i=>
    cases ws with
    |nil=>
     obtain⟨v,rfl,q1⟩:=vK R;obtain rfl:=aa.mp q1;exact .inl ⟨i,rfl,q.ok S (aa.mpr rfl)⟩
    |cons _ _=>exact q.elim
   |bl i=>
    cases ws with
    |nil=>
     obtain⟨v,rfl,q1⟩:=vK R;obtain rfl:=ah.mp q1;exact .inr ⟨i,rfl,q.ok S (aa.mpr rfl)⟩
    |cons _ _=>exact q.elim
   |_=>exact q.elim
 |list=>
  cases hb;refine g8 pins s σ H xs us Q I r ?_;rcases ws with _|⟨x,_|⟨_,_⟩⟩
  .exact q.elim
  .obtain ⟨ys,hs,q⟩:=Ad (o:=xL m x) (f:=λys=>alloc m ys) q;obtain⟨v,rfl,q1⟩:=vK R;obtain⟨p,vs,rfl,hq,rr⟩:=qf S q1 hs;exact⟨p,vs,rfl,hq,(xY S rr q).2⟩
  .exact q.elim
 |sortI=>
  cases hb;refine IM pins s σ H xs us Q I r ?_;rcases ws with _|⟨x,_|⟨_,_⟩⟩
  .exact q.elim
  .replace q:aq X.K as H Q (match (fR m x).bind xX with
    |some k=>if k.length<64 then alloc m ((fQ k).map Wd.int)else .no
    |none=>.no):=q
   cases hs:(fR m x).bind xX with
   |none=>rw[hs]at q;exact q.elim
   |some k=>
    rw[hs]at q;by_cases h64:k.length<64
    .replace q:aq X.K as H Q (if k.length<64 then alloc m ((fQ k).map Wd.int)else .no):=q
     rw[M6 h64]at q;obtain⟨ys,h1,h2⟩:=QN.mp hs;obtain⟨v,rfl,q1⟩:=vK R;obtain⟨p,vs,rfl,hq,rr⟩:=Cr S q1 h1;obtain rfl:=An rr h2;exact⟨p,k,rfl,hq,h64,(xY S (gF _) q).2⟩
    .replace q:aq X.K as H Q (if k.length<64 then alloc m ((fQ k).map Wd.int)else .no):=q
     rw[M7 h64]at q;exact q.elim
  .exact q.elim
 |max2=>
  cases hb;refine Il hc pins s σ H xs us Q I r ?_;cases ws with
  |nil=>exact q.elim
  |cons x ws=>
   cases x with
   |int i=>
    cases ws with
    |nil=>exact q.elim
    |cons y ws=>
     cases y with
     |int j=>
      cases ws with
      |nil=>
       obtain⟨v,u,rfl,q1,q2⟩:=qh R;obtain rfl:=aa.mp q1;obtain rfl:=aa.mp q2;exact⟨i,j,rfl,q.ok S (aa.mpr rfl)⟩
      |cons _ _=>exact q.elim
     |_=>exact q.elim
   |_=>exact q.elim
 |min2=>
  cases hb;refine Ik hc pins s σ H xs us Q I r ?_;cases ws with
  |nil=>exact q.elim
  |cons x ws=>
   cases x with
   |int i=>
    cases ws with
    |nil=>exact q.elim
    |cons y ws=>
     cases y with
     |int j=>
      cases ws with
      |nil=>
       obtain⟨v,u,rfl,q1,q2⟩:=qh R;obtain rfl:=aa.mp q1;obtain rfl:=aa.mp q2;exact⟨i,j,rfl,q.ok S (aa.mpr rfl)⟩
      |cons _ _=>exact q.elim
     |_=>exact q.elim
   |_=>exact q.elim
set_option tactic.hygienic true in
def DM (S:aQ K as m H)(R:ai K as H x v)(R':ai K as H y u)(h:aq K as H Q (jx x y m)):AT K v u H Q:=by
 unfold jx at h;split at h
 .rename_i i;obtain rfl:=aa.mp R';split at h
  .rename_i xs hs;split at h
   .rename_i w hw;obtain⟨p,vs,rfl,hq,rr⟩:=qf S R hs;have e:∃z,fG vs i=some z/\ai K as H w z:=by
     obtain⟨j,hj,hx⟩:=QN.mp hw;obtain⟨z,hz,rz⟩:=rr.get hx;refine⟨z,?_,rz⟩;unfold fG;have hj':fZ vs.length i=some j:=by rw[<-rr.length];exact hj
     rw[hj'];exact hz
    obtain⟨z,hz,rz⟩:=e;rcases hq with hq|hq
    .exact .inl ⟨p,vs,i,z,rfl,rfl,hq,hz,h.ok S rz⟩
    .exact .inr (.inl ⟨p,vs,i,z,rfl,rfl,hq,hz,h.ok S rz⟩)
   .exact h.elim
  .exact h.elim
 .exact h.elim
set_option tactic.hygienic true in
def CT {Q:Hp->Prop}(S:aQ K as m H)(R:ai K as H o vo)(R':ai K as H i vi)(R2:ai K as H w v)(h:∀m',qe o i w m=.ok .non m'->∀H',Step as H as H'->aQ K as m' H'->Q H')(hne:∃m',qe o i w m=.ok .non m'):mU vo vi v H Q:=by
 obtain⟨m',hm'⟩:=hne;have h:=h m' hm';unfold qe at hm';split at hm'
 .rename_i l k;split at hm'
  .rename_i xs hl;split at hm'
   .rename_i j hj;cases hm';obtain⟨a,ha,rfl⟩:=aG.mp R;obtain rfl:=aa.mp R';obtain⟨b,vs,hb,e,rr⟩:=ya S hl;rw[ha]at hb;cases hb;obtain⟨T,S'⟩:=S.set ha hl (rr.set j R2);refine⟨a,vs,k,j,rfl,rfl,e,?_,h _ T S'⟩;rw[<-rr.length];exact hj
   .cases hm'
  .cases hm'
 .cases hm'
def fe:ee->Str×String
 |.append=>("append","list.append") |.pop=>("pop","list.pop") |.reverse=>("reverse","list.reverse") |.clear=>("clear","list.clear") 
def Jn(K:Qb)(n:ee):V->List V->Hp->VK->Prop:=λv vs H Q=>∃as m w ws,aQ K as m H/\ai K as H w v/\ae K as H ws vs/\aq K as H Q (dC n w ws m)
set_option tactic.hygienic true in
def tH(n:ee):rF X (fe n).2 (Jn X.K n):=by
 intro pins s σ H v vs u us Q I r rs h;obtain⟨as,m,w,ws,S,R,Rs,q⟩:=h;unfold dC at q;split at q
 .rename_i l;split at q
  .rename_i xs hl;obtain⟨a,ha,rfl⟩:=aG.mp R;obtain⟨b,zs,hb,e,rr⟩:=ya S hl;rw[ha]at hb;cases hb;have hz:zs.length<=sizeLine:=(I.lstM e).1;split at q
   .rename_i y;split at q
    .rename_i hlt;obtain⟨z,rfl,rz⟩:=vK Rs;obtain⟨T,S'⟩:=S.set ha hl (rr.append (.one rz));exact gz pins s σ H _ _ u us Q I r rs ⟨a,zs,z,rfl,rfl,e,by rw[<-rr.length];exact Qe hlt xb,q _ _ _ T S' (ao.mpr rfl)⟩
    .exact q.elim
   .split at q
    .rename_i y hy;obtain rfl:=ax.mp Rs;obtain⟨z,hz',rz⟩:=rr.get hy;obtain⟨T,S'⟩:=S.set ha hl rr.dropLast;exact Dq pins s σ H _ _ u us Q I r rs ⟨a,zs,z,rfl,rfl,e,by rw[<-rr.length];exact hz',q _ _ _ T S' (rz.mono S T)⟩
    .exact q.elim
   .obtain rfl:=ax.mp Rs;obtain⟨T,S'⟩:=S.set ha hl rr.reverse;exact Jd pins s σ H _ _ u us Q I r rs ⟨a,zs,rfl,rfl,e,q _ _ _ T S' (ao.mpr rfl)⟩
   .obtain rfl:=ax.mp Rs;obtain⟨T,S'⟩:=S.set (ws:=[]) (vs:=[]) ha hl (ax.mpr rfl);exact GN pins s σ H _ _ u us Q I r rs ⟨a,zs,rfl,rfl,e,q _ _ _ T S' (ao.mpr rfl)⟩
   .exact q.elim
  .exact q.elim
 .exact q.elim
def dq:Tg->String
 |.int=> "int" |.bool=> "bool" |.list=> "list" |.tuple=> "tuple" |.str=> "str" |.dict=> "dict"
def FH(K:Qb)(t:Tg):
  QG K (.type "NoneType") (.type (dq t))=some false/\QG K (.type "bool") (.type (dq t))=some (decide (t=.bool\/t=.int))/\QG K (.type "int") (.type (dq t))=some (decide (t=.int)) /\
  QG K (.type "str") (.type (dq t))=some (decide (t=.str))/\QG K (.type "list") (.type (dq t))=some (decide (t=.list))/\QG K (.type "tuple") (.type (dq t))=some (decide (t=.tuple))/\QG K (.type "dict") (.type (dq t))=some (decide (t=.dict)):=by
 cases t<;>refine⟨?_,?_,?_,?_,?_,?_,?_⟩<;>kernel_rfl
def oj(K:Qb)(t:Tg):List V->Hp->VK->Prop:=λvs H Q=>∃as m w v,vs=[v,.ty (dq t)]/\aQ K as m H/\ai K as H w v/\aq K as H Q (dY (dM t w m) m)
def CS(m:Me)(t:Tg):dM t .non m=some false/\(∀c,dM t (.bl c) m=some (decide (t=.bool\/t=.int)))/\(∀i,dM t (.int i) m=some (decide (t=.int)))/\(∀x,dM t (.str x) m=some (decide (t=.str)))/\(∀ys,dM t (.tup ys) m=some (decide (t=.tuple)))/\(∀ys,dM t (.rol ys) m=some (decide (t=.list)))/\∀l ys,m[l]?=some (.lst ys)->dM t (.ref l) m=some (decide (t=.list)):=by
 refine⟨?_,λc=>?_,λi=>?_,λx=>?_,λys=>?_,λys=>?_,λl ys h=>?_⟩
 rotate_right
 .have e:dM t (.ref l) m=(match m[l]? with|some (.lst _)=>some (decide (t=.list))|some (.dct _ _)=>some (decide (t=.dict))|none=>none):=by cases t<;>rfl
  rw[e,h]
 all_goals cases t<;>rfl
def FG (m:Me)(t:Tg)(h:m[l]?=some (.dct ks ws)):dM t (.ref l) m=some (decide (t=.dict)):=by
 have e:dM t (.ref l) m=(match m[l]? with|some (.lst _)=>some (decide (t=.list))|some (.dct _ _)=>some (decide (t=.dict))|none=>none):=by cases t<;>rfl
 rw[e,h]
def GG(t:Tg):bK X (.builtin "isinstance") (oj X.K t):=by
 intro pins s σ H xs us Q I r h;obtain⟨as,m,w,v,rfl,S,R,q⟩:=h;obtain⟨b,hb,q⟩:=jA S q;obtain⟨u,u',rfl,ru,ru'⟩:=mV r;obtain rfl:u'=.type (dq t):=ru';obtain⟨k1,k2,k3,k4,k5,k6,k7⟩:=FH X.K t;obtain⟨z1,z2,z3,z4,z5,z6,z7⟩:=CS m t;have fin:∀tk,EP X pins σ Q (.bool b) {s with toks:=tk}:=λtk=>⟨.bl b,H,I.tok tk,rfl,q⟩;cases w with
 |non=>
  obtain rfl:=ao.mp R;have e:b=false:=Option.some.inj (hb.symm.trans z1);subst e;exact wt I ru .non k1 fin
 |bl c=>
  obtain rfl:=ah.mp R;have e:b=decide (t=.bool\/t=.int):=Option.some.inj (hb.symm.trans (z2 _));subst e;exact wt I ru (.bl c) k2 fin
 |int i=>
  obtain rfl:=aa.mp R;have e:b=decide (t=.int):=Option.some.inj (hb.symm.trans (z3 _));subst e;exact wt I ru (.int i) k3 fin
 |str x=>
  obtain rfl:=aB.mp R;have e:b=decide (t=.str):=Option.some.inj (hb.symm.trans (z4 _));subst e;exact wt I ru (.str _) k4 fin
 |tup ys=>
  obtain⟨a,vs,rfl,hq,rr⟩:=aj.mp R;have e:b=decide (t=.tuple):=Option.some.inj (hb.symm.trans (z5 _));subst e;obtain rfl:u=.ref a:=ru;obtain⟨its,_,⟨o,h1,h2,_⟩,_⟩:=I.tuple hq;exact QX PySem.W.kitx_tuple I.kIn ⟨o,h1,h2⟩ k6 (λz=>nomatch z) fin
 |rol ys=>
  obtain⟨a,vs,rfl,hq,rr⟩:=bb.mp R;have e:b=decide (t=.list):=Option.some.inj (hb.symm.trans (z6 _));subst e;obtain rfl:u=.ref a:=ru;obtain⟨its,_,p,_⟩:=I.list hq.sq;obtain⟨o,n,h1,h2,_⟩:=p;exact QX Vc I.kIn ⟨o,h1,h2⟩ k5 (λz=>nomatch z) fin
 |ref l=>
  obtain⟨a,ha,rfl⟩:=aG.mp R;have hlm:l<m.length:=by rw[<-S.len];exact(Qa.mp ha).1
  have hg:m[l]?=some m[l]:=by simp[hlm]
  cases ho:m[l]with
  |lst ys=>
   rw[ho]at hg;obtain⟨a',us,ha',e2,_⟩:=ya S hg;rw[ha]at ha';cases ha';have e:b=decide (t=.list):=Option.some.inj (hb.symm.trans (z7 _ _ hg));subst e;exact wt I ru (.lst e2) k5 fin
  |dct ks us=>
   rw[ho]at hg;obtain⟨a',ha',xs,vs,td,_⟩:=S.get hg;rw[ha]at ha';cases ha';have e:b=decide (t=.dict):=Option.some.inj (hb.symm.trans (FG m t hg));subst e;obtain rfl:u=.ref a:=ru;exact QX Vd I.kIn (vV I td).2.typeIs k7 (λz=>nomatch z) fin
end
structure fh(J:It)(vs:List V)(ok:Hp->Prop):Prop where
 go:∀i H,ok H->i<vs.length->J.go i H
 yld:∀i H x H',ok H->i<vs.length->J.yld i H x H'->H'=H/\vs[i]?=some x
 stop:∀i H,ok H->vs.length<=i->J.stop i H
def lr(K:Qb)(as:List Addr)(H:Hp)(J:It)(xs:List Wd):Prop:=
 ∃vs ok,fh J vs ok/\ok H/\ae K as H xs vs/\∀H1 H2,Kp K H1 H2->ok H1->ok H2
def sw(K:Qb)(as:List Addr)(H:Hp)(w:Wd)(J:It):Prop:=match w with
 |.tup xs=>lr K as H J xs
 |.rol xs=>lr K as H J xs
 |.ref l=>∃a,as[l]?=some a/\J=rH K a
 |_=>True
def cn(K:Qb)(as:List Addr)(H:Hp)(R:It->Hp->Prop)(r:Rz):Prop:=match r with
 |.ok w m'=>(xL m' w).isSome=true/\∀as' H' J,Step as H as' H'->aQ K as' m' H'->sw K as' H' w J->R J H'
 |_=>False
def hU(K:Qb)(g:En->Me->Rz):TI:=λσ H R=>∃as env m,aQ K as m H/\aF K as H env σ/\cn K as H R (g env m)
def PI.or{X:Cx}{tg e:Expr}{a b:TI}(h1:PI X tg e a)(h2:PI X tg e b):PI X tg e (λσ H R=>a σ H R\/b σ H R):=λpins s σ H R I h=>by
 rcases h with h|h
 .exact h1 pins s σ H R I h
 .exact h2 pins s σ H R I h
def PI.imp{X:Cx}{tg e:Expr}{a b:TI}(h:PI X tg e a)(k:∀σ H R,b σ H R->a σ H R):PI X tg e b:=λpins s σ H R I q=>h pins s σ H R I (k σ H R q)
def vX (h:PE X x (aM X.K g)):PI X tg x (hU X.K g):=by
 refine PI.imp (PI.or (Fa h) (DD h)) λσ H R q=>?_;obtain⟨as,env,m,S,G,P⟩:=q;cases hr:g env m with
 |no=>rw[hr]at P;exact P.elim
 |exc c w m'=>rw[hr]at P;exact P.elim
 |ok w m'=>
  rw[hr]at P;obtain⟨hs,P⟩:=P;obtain⟨xs,hs⟩:=Q4.mp hs;cases w with
  |tup ys=>
   refine .inr ⟨as,env,m,S,G,?_⟩;rw[hr];intro as' H' v T S' R';obtain⟨a,vs,rfl,hq,rr⟩:=aj.mp R';refine⟨a,rfl,⟨vs,hq⟩,P as' H' _ T S' ⟨vs,λH=>cf X.K H a vs,⟨λi H h hi=>⟨vs,vs[i],h,by simp[hi]⟩,λi H x H' h hi q=>⟨q.1,q.2 vs h⟩,λi H h hi=>⟨vs,h,hi⟩⟩,hq,rr,λH1 H2 k h=>k.t _ _ h⟩⟩
  |rol ys=>
   refine .inl ⟨as,env,m,S,G,?_⟩;rw[hr];intro as' H' v T S' R';obtain⟨a,vs,rfl,hq,rr⟩:=bb.mp R';refine⟨a,rfl,⟨vs,hq.sq⟩,P as' H' _ T S' ⟨vs,λH=>eT X.K H a vs,⟨λi H h hi=>⟨vs,vs[i],h.sq,by simp[hi]⟩,λi H x H' h hi q=>⟨q.1,q.2 vs h.sq⟩,λi H h hi=>⟨vs,h.sq,hi⟩⟩,hq,rr,λH1 H2 k h=>k.f _ _ h⟩⟩
  |ref l=>
   refine .inl ⟨as,env,m,S,G,?_⟩;rw[hr];intro as' H' v T S' R';obtain⟨a,ha,rfl⟩:=aG.mp R';obtain⟨a',us,ha',e,_⟩:=ya S' (zK hs);rw[ha]at ha';cases ha';exact⟨a,rfl,⟨us,bn.of e⟩,P as' H' _ T S' ⟨a,ha,rfl⟩⟩
  |non=>cases hs
  |bl b=>cases hs
  |int i=>cases hs
  |str x=>cases hs
theorem jC {K:Qb}(st:Int):∀(n:Nat) (lo:Int),ae K as H (fo lo st n) ((QH n).map λ(i:Nat)=>V.int (lo+st*(i:Int)))
 |0,lo=>ax.mpr rfl
 |n+1,lo=>by
  rw[Wq,QR,Wj];refine am.mpr ⟨_,_,rfl,aa.mpr (by simp),?_⟩;have e:((λ(i:Nat)=>V.int (lo+st*(i:Int))) ∘ Nat.succ)=λ(i:Nat)=>V.int (lo+st+st*(i:Int)):=by
   funext i;show V.int (lo+st*((i.succ:Nat):Int))=_;congr 1;rw[Nat.succ_eq_add_one,Int.natCast_add,Int.mul_add];lia
  rw[e];exact jC st n (lo+st)
def HE{K:Qb}(lo:Int)(n:Nat):fh (iV lo n) ((QH n).map λ(i:Nat)=>V.int (lo+1*(i:Int))) (λ_=>True):=by
 refine⟨λi H _ hi=>?_,λi H x H' _ hi q=>?_,λi H _ hi=>?_⟩
 .show i<n;simpa using hi
 .obtain ⟨e,rfl⟩:=q;refine⟨e,?_⟩;have hi':i<n:=by simpa using hi
  rw[Qv,WH hi'];simp
 .show n<=i;simpa using hi
end Mini
namespace L2
open PySem PySem.Spec PyProof.Rows
section
variable{κ:Type}[DecidableEq κ]
def wf(kvs:List (κ×V))(k:κ):Option V:=(kvs.find? λkv=>decide (kv.1=k)).map (·.2)
def je(kvs:List (κ×V))(k:κ)(v:V):List (κ×V):=
 if(kvs.any λkv=>decide (kv.1=k))=true then kvs.map (λkv=>if kv.1=k then(kv.1,v)else kv)else kvs++[(k,v)]
def xZ {k:κ}(e:p.1=k):wf (p::r) k=some p.2:=by simp[wf,Wr,e]
def wv {k:κ}(e:¬p.1=k):wf (p::r) k=wf r k:=by simp[wf,Wr,e]
theorem jD(k:κ):∀kvs:List (κ×V),(kvs.any λkv=>decide (kv.1=k))=(wf kvs k).isSome
 |[]=>rfl
 |p::r=>by
  rw[WT];by_cases e:p.1=k
  .simp only[xZ e,Na e,Bool.true_or,Option.isSome_some]
  .rw[wv e,M5 e,Bool.false_or];exact jD k r
def IX(kvs:List (κ×V))(k:κ)(v:V):(je kvs k v).length<=kvs.length+1:=by
 unfold je;split
 .rw[Qn];lia
 .rw[QW,Wo,W0];lia
def GF {k:κ}(v:V)(h:wf kvs k=none):je kvs k v=kvs++[(k,v)]:=by
 unfold je;rw[jD,h];exact M7 (by decide)
def KV.val (r:KV kvs vs)(k:κ):dU (wf kvs k) (MT vs k):=by
 unfold KV at r
 induction r with
 |nil=>exact True.intro
 |@cons p q ps qs h t ih=>
  obtain⟨h1,h2⟩:=h;by_cases e:p.1=k
  .have e':q.1=k:=h1.symm.trans e;have b:MT (q::qs) k=some q.2:=by simp[MT,Wr,e']
   rw[xZ e,b];exact h2
  .have e':¬q.1=k:=λz=>e (h1.trans z);have b:MT (q::qs) k=MT qs k:=by simp[MT,Wr,e']
   rw[wv e,b];exact ih
theorem KV.any (r:KV kvs vs)(k:κ):(kvs.any λkv=>decide (kv.1=k))=vs.any λkv=>decide (kv.1=k):=by
 unfold KV at r
 induction r with
 |nil=>rfl
 |cons h t ih=>rw[WT,WT,ih,h.1]
def KV.repl{kvs:List (κ×V)}{vs:List (κ×Value)}(r:KV kvs vs)(k:κ){y:V}{u:Value}(ry:RelV y u):
  KV (kvs.map λkv=>if kv.1=k then(kv.1,y)else kv) (vs.map λkv=>if kv.1=k then(kv.1,u)else kv):=by
 unfold KV at r ⊢
 induction r with
 |nil=>exact .nil
 |@cons p q ps qs h t ih=>
  rw[QR,QR];refine .cons ?_ ih;obtain⟨h1,h2⟩:=h;by_cases e:p.1=k
  .rw[M6 e,M6 (h1.symm.trans e)];exact⟨h1,ry⟩
  .rw[M7 e,M7 (λz=>e (h1.trans z))];exact⟨h1,h2⟩
def KV.put{kvs:List (κ×V)}{vs:List (κ×Value)}(r:KV kvs vs)(k:κ){y:V}{u:Value}(ry:RelV y u):KV (je kvs k y) (stored vs k u):=by
 unfold je stored;rw[r.any k];by_cases e:(vs.any λkv=>decide (kv.1=k))=true
 .rw[M6 e,M6 e];exact r.repl k ry
 .rw[M7 e,M7 e];exact Paired.snoc r ⟨rfl,ry⟩
def KV.keys {vs:List (κ×Value)}(r:KV kvs vs):kvs.map (·.1)=vs.map (·.1):=by
 unfold KV at r
 induction r with
 |nil=>rfl
 |cons h t ih=>rw[QR,QR,ih,h.1]
theorem KV.length {vs:List (κ×Value)}(r:KV kvs vs):kvs.length=vs.length:=Paired.length r
end
def iE (r:RelV (kV k) u):(zN P w).is k u=true:=by
 cases k with
 |inl i=>obtain⟨t,e⟩:=(show ∃t,u=Value.int i t from r);subst e;exact qP P w i t
 |inr x=>obtain⟨t,e⟩:=(show ∃t,u=Value.str x t from r);subst e;exact qQ P w x t
theorem gG:∀{ks:List bv}{us:List Value},ay (ks.map kV) us->ItemsAre (zN P w) ks us
 |[],_,r=>by rw[WW]at r;cases r;exact .nil
 |k::ks,_,r=>by
  rw[QR]at r;cases r with
  |cons h t=>exact .cons (iE h) (gG t)
abbrev KT(H:Hp):List (List bv×V)->List (List bv×Addr×Value)->Prop:=Lx λp q=>p.1=q.1/\H q.2.1=some (.tup (p.1.map kV))/\RelV p.2 q.2.2
def KT.val (r:KT H kvs xs)(k:List bv):dU (wf kvs k) ((MO xs k).map (·.2)):=by
 induction r with
 |nil=>exact True.intro
 |@cons p q ps qs h t ih=>
  obtain⟨h1,_,h2⟩:=h;by_cases e:p.1=k
  .have e':q.1=k:=h1.symm.trans e;have b:MO (q::qs) k=some q.2:=by simp[MO,Wr,e']
   rw[xZ e,b];exact h2
  .have e':¬q.1=k:=λz=>e (h1.trans z);have b:MO (q::qs) k=MO qs k:=by simp[MO,Wr,e']
   rw[wv e,b];exact ih
section
variable{P:Lr}{w:Ls}{H:Hp}{h:Ly}{a:Addr}
def sP (ok:cg P w H h)(e:Rd H a u):aW P w H h a u:=e.ok ok
def mP (ok:cg P w H h)(e:Rd H a (.dK kvs)):kvs.length<=sizeLine/\(a==Lz)=false/\∃vs,KV kvs vs/\h.DictOf (zN P w) a vs:=
 show aW P w H h a (.dK kvs)from sP ok e
def sO (ok:cg P w H h)(e:H a=some (.dK kvs)):kvs.length<=sizeLine/\(a==Lz)=false/\∃vs,KV kvs vs/\h.DictOf (zN P w) a vs:=mP ok (.inl e)
def tG (ok:cg P w H h)(e:H a=some (.tup (ks.map kV))):(LA (zN P w)).is h ks a:=by
 obtain⟨_,its,r,o,h1,h2,n,h3⟩:=(show aW P w H h a (.tup (ks.map kV))from ok a _ e);exact⟨o,its.toArray,n,h1,h2,h3,by simpa using gG r⟩
def sN (ok:cg P w H h)(e:Rd H a (.dT kvs)):kvs.length<=sizeLine/\(a==Lz)=false /\
  ∃xs,KT H kvs xs/\h.DictOfH (LA (zN P w)) a xs:=by
 obtain⟨z,y,xs,r,o,es,ep,h1,h2,h3,h4,h5⟩:=(show aW P w H h a (.dT kvs)from sP ok e);refine⟨z,y,xs,r,o,es,ep,h1,h2,h3,h4,λx hx=>?_,h5⟩;have all:∀{l:List (List bv×V)}{m:List (List bv×Addr×Value)},KT H l m->∀x∈m,(LA (zN P w)).is h x.1 x.2.1:=by
  intro l m q
  induction q with
  |nil=>intro x hx;exact nomatch hx
  |@cons p q ps qs hq t ih=>
   intro x hx;rcases Qp.mp hx with e|hx
   .subst e;exact tG ok (by rw[<-hq.1];exact hq.2.1)
   .exact ih x hx
 exact all r x hx
end
def me(H:Hp)(a:Addr)(y:V)(r:Option V):Prop:=
 (∃kvs k,Rd H a (.dK kvs)/\y=kV k/\r=wf kvs k)\/∃kvs k b,Rd H a (.dT kvs)/\y=.ref b/\H b=some (.tup (k.map kV))/\r=wf kvs k
section
variable{X:Cx}{pins:List (Addr×Obj)}{σ:St}{H:Hp}{s:Shared}{a:Addr}{y v:V}{u:Value}{o:Option V}{A:LG}{E:Value->Shared->Prop}
def Inv.big(I:Inv X pins σ H s):Lz<s.heap.objs.size:=by
 have h:LC<s.heap.objs.size:=(I.mod.glob.keeps I.bk).lt;exact Nat.lt_trans (by decide) h
def HD (hu:A.units+1<Mh)(I:Inv X pins σ H s)(g:me H a y (some v))(ry:RelV y u)(h:∀w' s',Inv X pins σ H s'->RelV v w'->Q w' s'):
  LK (LL X.prog X.w) A (Mr (.ref a) u) Q E s:=by
 rcases g with⟨kvs,k,e,ey,l⟩|⟨kvs,k,b,e,ey,eb,l⟩
 .subst ey;obtain⟨z,hd,vs,rel,dd⟩:=mP I.hok e;obtain⟨w',hw,rw'⟩:=iW (v:=v) (o:=MT vs k) (by rw[l];exact rel.val k);exact MU (iE ry) dd.mapOf hw (h w' _ (I.tok _) rw')
 .subst ey;cases(show u=Value.ref b from ry);obtain⟨z,hd,xs,rel,dd⟩:=sN I.hok e;obtain⟨w',hw,rw'⟩:=iW (v:=v) (o:=(MO xs k).map (·.2)) (by rw[l];exact rel.val k);obtain⟨p,hp,hp2⟩:=QK.mp hw;refine wpAny_getItem_heap (tupleKind_room_in1 hu) (tG I.hok eb) dd hp ?_;rw[hp2];exact h w' _ (I.tok _) rw'
def Ac (I:Inv X pins σ H s)(mu:iU (H a))(hs:WC a s.heap h')(he:∃q,h'.get? a=some q)(new:aW X.prog X.w (aJ H a ob) h' a ob):
  Inv X pins σ (aJ H a ob) {s with heap:=h',toks:=t' } :=
 I.write (x:=a) (e:=a) mu (.inl rfl) (λb q hb z=>(hs.2 b hb).trans z) he new
def CQ (z:kvs.length<=sizeLine)(hd:(a==Lz)=false)(rel:KV kvs vs)(dd:h'.DictOf (zN P w) a vs):
  aW P w H' h' a (.dK kvs):=⟨z,hd,vs,rel,dd⟩
end
def sv(i:Expr):Prop:=∀ov iv,Mv i false ov iv=operate [ov,iv] (Mr ov iv)
def FF {id:String}(hl:typeLookup (.type T) "__getitem__"=pure (some (.builtin id)))(hs:sv slice)(h:LK (LL prog w) A (eval value env) (λo s₁=>LK (LL prog w) A (eval slice env) (λi s₂=>s₂.TypeIs o T/\LK (LL prog w) A (Mr o i) Q E s₂) E s₁) E s):
  LK (LL prog w) A (eval (.Subscript value slice pos) env) Q E s:=by
 refine Subscript_ (LO h (λo s₁ h₁=>LO h₁ (λi s₂ h₂=>?_) λ_ _ x=>x) λ_ _ x=>x);obtain⟨hT,h₂⟩:=h₂;unfold Ms;refine LZ ?_;rw[getitemInPython_of_ne hT.not_modules];refine LZ (MM hT hl ?_);have fin:LK (LL prog w) A (Mv slice false o i) (λr s₃=>LK (LL prog w) A (letTemporaryGo value o r >>= λ_=>pure r) Q E s₃) E s₂:=by
  rw[hs o i];exact wpAny_operating (LO h₂ (λr s₃ h₃=>LZ (wpAny_letTemporaryGo (L7 h₃))) λ_ _ x=>x)
 first
  |exact L7 (LZ fin)
  |exact LZ (L7 (LZ fin))
  |exact LZ fin
def IW (I:Inv X pins σ H s)(g:me H a y o):s.TypeIs (.ref a) "dict":=by
 rcases g with⟨kvs,k,e,_,_⟩|⟨kvs,k,b,e,_,_,_⟩
 .obtain ⟨_,_,vs,_,dd⟩:=mP I.hok e;exact dd.typeIs
 .obtain ⟨_,_,xs,_,dd⟩:=sN I.hok e;exact dd.typeIs
def Cq(td ty:TE):TE:=λσ H Q=>td σ H λx H1=>ty σ H1 λy H2=>∃a v,x=.ref a/\me H2 a y (some v)/\Q v H2
section
variable{X:Cx}{o i:Expr}{pos:Pos}{td ty:TE}
def FE(hu:X.A.units+1<Mh)(ho:PE X o td)(hi:PE X i ty)(hs:sv i):PE X (.Subscript o i pos) (Cq td ty):=by
 intro pins s σ H Q I h;refine FF PySem.F.slot_dict_getitem.lookup hs (aZ (ho pins s σ H _ I h) λu s1 ⟨x,H1,I1,rx,q1⟩=>aZ (hi pins s1 σ H1 _ I1 q1) λiv s2 ⟨y,H2,I2,ry,a,v,ex,g,q2⟩=>?_);subst ex;obtain rfl:u=Value.ref a:=rx;exact⟨IW I2 g,HD hu I2 g ry λw' s3 I3 rw'=>⟨v,H2,I3,rw',q2⟩⟩
end
def Am (h:Ly)(hb:Lz<h.objs.size):aW P w H (h.push {cls:=.type "dict",data:=.dict #[]}) h.objs.size (.dK []):=
 ⟨WS _,beq_eq_false_iff_ne.mpr (Ne.symm (QM hb)),[],.nil,Heap.DictOf.new h⟩
def qi:List (TE×TE)->St->Hp->(List (V×V)->Hp->Prop)->Prop
 |[],_,H,Q=>Q [] H
 |(tk,tv)::r,σ,H,Q=>tk σ H λx H1=>tv σ H1 λy H2=>qi r σ H2 λps H3=>Q ((x,y)::ps) H3
abbrev VV:List (V×V)->List (Value×Value)->Prop:=Lx λp q=>RelV p.1 q.1/\RelV p.2 q.2
def iT(X:Cx)(pos:Pos)(keys:List (Option Expr))(values:List Expr)(trs:List (TE×TE)):Prop:=
 ∀(pins:List (Addr×Obj)) (s:Shared) (σ:St) (H:Hp) (Q:List (V×V)->Hp->Prop),Inv X pins σ H s->qi trs σ H Q ->
  LK (LL X.prog X.w) X.A (evalPairs (pairTrees keys values X.env pos)) (λvs s'=>∃ps H',Inv X pins σ H' s'/\VV ps vs/\Q ps H') X.xe s
def Ab:iT X pos [] [] []:=λpins s σ H Q I h=>pairTrees_nil_walk ⟨[],H,I,.nil,h⟩
def xx (hk:PE X k tk)(hv:PE X v tv)(hr:iT X pos ks vs trs):
  iT X pos (some k::ks) (v::vs) ((tk,tv)::trs):=λpins s σ H Q I h=>
 pairTrees_cons_walk (aZ (hk pins s σ H _ I h) λu s1 ⟨x,H1,I1,rx,q1⟩=>aZ (hv pins s1 σ H1 _ I1 q1) λw2 s2 ⟨y,H2,I2,ry,q2⟩=>
  aZ (hr pins s2 σ H2 _ I2 q2) λws s3 ⟨ps,H3,I3,rel,q3⟩=>⟨(x,y)::ps,H3,I3,.cons ⟨rx,ry⟩ rel,q3⟩)
def xJ(kvs more:List (bv×V)):List (bv×V):=more.foldl (λacc kv=>je acc kv.1 kv.2) kvs
def KV.merge:∀{more:List (bv×V)}{rs:List (bv×Value)}{kvs:List (bv×V)}{vs:List (bv×Value)},KV more rs->KV kvs vs->KV (xJ kvs more) (merged vs rs):=by
 intro more rs kvs vs r;unfold KV at r
 induction r generalizing kvs vs with
 |nil=>intro q;exact q
 |@cons p q ps qs h t ih=>
  intro r0;have e:KV (je kvs p.1 p.2) (stored vs q.1 q.2):=by
   have:=r0.put p.1 h.2;rw[<-h.1];exact this
  exact ih e
theorem vD:∀(more kvs:List (bv×V)),(xJ kvs more).length<=kvs.length+more.length
 |[],kvs=>by show kvs.length<=kvs.length+0;lia
 |p::r,kvs=>by
  have h1:=vD r (je kvs p.1 p.2);have h2:=IX kvs p.1 p.2;show(xJ (je kvs p.1 p.2) r).length<=_;rw[Wo];lia
theorem vL:∀{kvs:List (bv×V)}{ws:List (Value×Value)},VV (kvs.map λkv=>(kV kv.1,kv.2)) ws->∃rs,Carries (zN P w) ws rs/\KV kvs rs
 |[],_,r=>by rw[WW]at r;cases r;exact⟨[],True.intro,.nil⟩
 |p::kvs,_,r=>by
  rw[QR]at r;cases r with
  |@cons a b as bs h t=>
   obtain⟨rs,c,q⟩:=vL (P:=P) (w:=w) t;obtain⟨b1,b2⟩:=b;exact⟨(p.1,b2)::rs,⟨iE h.1,rfl,c⟩,.cons ⟨rfl,h.2⟩ q⟩
def Cp(trs:List (TE×TE)):TE:=λσ H Q=>∀p,H p=none->qi trs σ (aJ H p (.dK [])) λps H2=>H2 p=some (.dK [])/\∃kvs:List (bv×V),ps=kvs.map (λkv=>(kV kv.1,kv.2))/\kvs.length<=15/\Q (.ref p) (aJ H2 p (.dK (xJ [] kvs)))
def FD (h:iT X pos keys values trs)(hall:keys.all (·.isSome)=true)(hl:keys.length=values.length)(h0:keys≠[])(h15:keys.length<=15):PE X (.Dict keys values pos) (Cp trs):=by
 intro pins s σ H Q I q;have hn:=I.hok.fresh (Qj s.heap.objs.size);have I1:=I.laid (a:=s.heap.objs.size) (o:=.dK []) (h':=s.heap.push {cls:=.type "dict",data:=.dict #[]}) (t':=s.toks) (λ_ _ q=>Qw _ q) (Qj _) (Am s.heap I.big);refine wpAny_Dict_walk (knd:=zN X.prog X.w) hall hl h0 h15 (aZ (h pins _ σ _ _ I1 (q _ hn)) λws s2 ⟨ps,H2,I2,rel,e,kvs,ep,lk,q2⟩=>?_);subst ep;obtain⟨rs,c,rk⟩:=vL (P:=X.prog) (w:=X.w) rel;obtain⟨z,hd,vs0,r0,dd⟩:=sO I2.hok e;cases r0;refine⟨rs,c,dd,λh' dd' hs=>⟨.ref s.heap.objs.size,_,?_,rfl,q2⟩⟩;have hz:(xJ [] kvs).length<=sizeLine:=by
  have h1:=vD kvs [];rw[W0]at h1;rw[Mg];lia
 have he:∃q,h'.get? s.heap.objs.size=some q:=let⟨q,_,_,hq,_⟩:=dd';⟨q,hq⟩;exact Ac I2 (by rw[e];exact True.intro) hs he (CQ hz hd (rk.merge .nil) dd')
def wO(d:Addr)(o:Obj):HO:=.ext λh=>h.get? d=some o
def FO(P:Lr)(w:Ls)(d:Addr)(o:Obj)(ep:Nat)(kvs:List (bv×V)):Prop:=
 (d==Lz)=false/\∃es vs,o.ExactDict/\o.data=.dict es ep/\KeysOf (zN P w) es/\Pairs (zN P w) es.toList vs/\(vs.map (·.1)).Nodup/\KV kvs vs
def FO.at (f:FO P w d o ep kvs){h:Ly}(e:h.get? d=some o):∃vs,KV kvs vs/\h.DictAt (zN P w) d vs ep:=by
 obtain⟨_,es,vs,a,b,c,g,n,r⟩:=f;exact⟨vs,r,o,es,e,a,b,c,g,n⟩
def FC (h:(zN P w).is k u=true):RelV (kV k) u:=by
 cases k with
 |inl i=>exact Value.isInt_shape h
 |inr x=>exact Value.isStrOf_shape h
section
variable{X:Cx}{pins:List (Addr×Obj)}{σ:St}{H:Hp}{s:Shared}
def qj (I:Inv X pins σ H s)(h:H d=some (wO d o)):s.heap.get? d=some o:=(I.hok d _ h).1
def Bv(d:Addr)(o:Obj)(kvs:List (bv×V)):It:=
 ⟨λi H=>H d=some (wO d o)/\i<kvs.length,λi H x H'=>H'=H/\∃kv,kvs[i]?=some kv/\x=kV kv.1,λi H=>H d=some (wO d o)/\kvs.length<=i⟩
def CP {vs:List (bv×Value)}(r:KV kvs vs)(hi:i<kvs.length):∃k v u,kvs[i]?=some (k,v)/\vs[i]?=some (k,u):=by
 have hk:=r.keys;have hl:=r.length;have hi':i<vs.length:=by lia
 refine⟨kvs[i].1,kvs[i].2,vs[i].2,Qf hi,?_⟩;rw[Qf hi'];have e:(kvs.map (·.1))[i]?=(vs.map (·.1))[i]?:=by rw[hk]
 rw[Qv,Qv,Qf hi,Qf hi']at e;have e:=Option.some.inj e;have e:kvs[i].1=vs[i].1:=e;rw[e]
def IL {K:Qb}(f:FO P w d o ep kvs)(it:Addr):dz P w K tg (Bv d o kvs) [it] it (λi h=>h.IsKeyIter it d i kvs.length ep) where
 mem:=by simp
 obj:=λi h st b hb=>by
  have e:b=it:=by simpa using hb
  subst e;obtain⟨o,e,c,d⟩:=st;exact⟨o,e,λv z=>by rw[d]at z;cases z⟩
 keep:=λi h h' st k=>by
  obtain⟨o,e,r⟩:=st;exact⟨o,k it (by simp) o e,r⟩
 item:=by
  intro X hP hw hK hc i pins s σ H E I hf st hg;subst hP hw hK;obtain⟨hq,hi⟩:=hg;obtain⟨vs,rel,da⟩:=f.at (qj I hq);obtain⟨k,v,u,e1,e2⟩:=CP rel hi;obtain⟨f0,f1,f2,f3,f4,f5⟩:=hf it (by simp);have hl:=rel.length;rw[hl]at st;refine wpAny_pyNext_dict_item st da e2 λkey h' hk st' sb=>?_;have I1:Inv X pins σ H {s with heap:=h' }:=I.turned (t':=s.toks) (λb o hb e=>(sb.2 b hb).trans e) f0 f1 f3 f4 f5;obtain⟨o,e,c,dd⟩:=id st';rw[<-hl]at st';exact⟨key,rfl,lp (s:={s with heap:=h' }) e c dd (by decide) ⟨kV k,H,I1,FC hk,⟨rfl,(k,v),e1,rfl⟩,st',λb hb=>(hf b hb).1⟩⟩
 done:=by
  intro X hP hw hK hc i pins s σ H E I hf st hg;subst hP hw hK;obtain⟨hq,hi⟩:=hg;obtain⟨vs,rel,da⟩:=f.at (qj I hq);obtain⟨f0,f1,f2,f3,f4,f5⟩:=hf it (by simp);have hl:=rel.length;rw[hl]at st;exact wpAny_pyNext_dict_end (I.ok.hd hc) st da (Ql (by lia)) λh' eb=>⟨rfl,I.turned (t':=s.toks) (λb o hb e=>eb b o hb e) f0 f1 f3 f4 f5⟩
 self:=λ_ _ _ _ _ st h=>wpAny_pyIter_keyiter st h
def AX(X:Cx)(tl:TE):TI:=λσ H R=>tl σ H λx H1=>∃d o ep kvs,x=.ref d/\FO X.prog X.w d o ep kvs/\H1 d=some (wO d o)/\R (Bv d o kvs) H1
def GE (hl:PE X l tl):PI X tg l (AX X tl):=by
 intro pins s σ H R I h;refine aZ (hl pins s σ H _ I h) λv s1 ⟨x,H1,I1,r1,q1⟩=>?_;obtain⟨d,o,ep,kvs,e,f,hq,q⟩:=q1;subst e;cases r1;obtain⟨vs,rel,da⟩:=f.at (qj I1 hq);have hl:=rel.length;refine wpAny_pyIter_dict f.1 da ?_;refine⟨s1.heap.objs.size,[s1.heap.objs.size],_,_,H1,rfl,I1.kept (t':=s1.toks) λb o e=>Qw _ e,IL f _,⟨_,QS _ rfl,rfl,by rw[hl];rfl⟩,λb hb=>?_,q⟩;have e:b=s1.heap.objs.size:=by simpa using hb
 subst e;exact I1.fpOk (Qj _) (I1.hok.fresh (Qj _))
def gH(X:Cx):R2:=λx y H Q=>∃d o ep kvs k v,x=.ref d/\y=kV k/\FO X.prog X.w d o ep kvs/\H d=some (wO d o)/\wf kvs k=some v/\Q v H
def oX:ef X (gH X):=by
 intro value slice pins s σ H x y v u Q I rx ry h hs;obtain⟨d,o,ep,kvs,k,z,rfl,rfl,f,hq,hv,q⟩:=h;cases rx;obtain⟨vs,rel,da⟩:=f.at (qj I hq);obtain⟨w',hw,rw'⟩:=iW (v:=z) (o:=MT vs k) (by rw[<-hv];exact rel.val k);exact Mw (x:=w') da.dictOf.typeIs slot_dict_getitem.lookup
  (MU (Q:=λr s'=>r=w'/\EP X pins σ Q r s') (iE ry) da.dictOf.mapOf hw ⟨rfl,z,H,I.tok _,rw',q⟩) hs
def gJ (h:(kvs.map (·.1)).Nodup):∀{ps:List (bv×V)},((ps++kvs).map (·.1)).Nodup->xJ ps kvs=ps++kvs:=by
 induction kvs with
 |nil=>intro ps _;simp[xJ]
 |cons a r ih=>
  intro ps hn;have hp:wf ps a.1=none:=by
   cases hz:wf ps a.1 with
   |none=>rfl
   |some y=>
    exfalso;have hs:(wf ps a.1).isSome=true:=by rw[hz];rfl
    rw[<-jD,Wt]at hs;obtain⟨q,hq,he⟩:=hs;have he:=Nb he;rw[Wv,QA]at hn;exact hn.2.2 q.1 (List.mem_map_of_mem hq) a.1 (by simp) he
  show xJ (je ps a.1 a.2) r=_;rw[GF _ hp,ih (by simpa using (QF.mp (by simpa using h)).2) (ps:=ps++[(a.1,a.2)]) (by simpa using hn)];simp
def CO(X:Cx)(trs:List (TE×TE)):TE:=λσ H Q=>∀p,H p=none->qi trs σ (aJ H p (.dK [])) λps H2=>H2 p=some (.dK [])/\∃kvs:List (bv×V),ps=kvs.map (λkv=>(kV kv.1,kv.2))/\kvs.length<=15/\(kvs.map (·.1)).Nodup/\∀o ep,FO X.prog X.w p o ep kvs->Q (.ref p) (aJ H2 p (wO p o))
def GD (h:iT X pos keys values trs)(hall:keys.all (·.isSome)=true)(hl:keys.length=values.length)(h0:keys≠[])(h15:keys.length<=15):PE X (.Dict keys values pos) (CO X trs):=by
 intro pins s σ H Q I q;have hn:=I.hok.fresh (Qj s.heap.objs.size);have I1:=I.laid (a:=s.heap.objs.size) (o:=.dK []) (h':=s.heap.push {cls:=.type "dict",data:=.dict #[]}) (t':=s.toks) (λ_ _ q=>Qw _ q) (Qj _) (Am s.heap I.big);refine wpAny_Dict_walk (knd:=zN X.prog X.w) hall hl h0 h15 (aZ (h pins _ σ _ _ I1 (q _ hn)) λws s2 ⟨ps,H2,I2,rel,e,kvs,ep,lk,nd,q2⟩=>?_);subst ep;obtain⟨rs,c,rk⟩:=vL (P:=X.prog) (w:=X.w) rel;obtain⟨z,hd,vs0,r0,dd⟩:=sO I2.hok e;cases r0;refine⟨rs,c,dd,λh' dd' hs=>?_⟩;have rm:=rk.merge (kvs:=[]) (vs:=[]) .nil;rw[gJ nd (ps:=[]) (by simpa using nd)]at rm;obtain⟨o,es,ep,b1,b2,b3,b4,b5,b6⟩:=dd';refine⟨.ref s.heap.objs.size,_,?_,rfl,q2 o ep ⟨hd,es,_,b2,b3,b4,b5,b6,rm⟩⟩;exact Ac I2 (by rw[e];exact True.intro) hs ⟨_,b1⟩ ⟨b1,⟨_,b1⟩,λh1 h2 hx k=>k o hx⟩
end
def i5(K:Qb)(b:Addr)(xs:List V):Prop:=
 ∃(o:Obj) (its:Array Value) (n:Nat),K.lookup b=some o/\o.cls=.type "tuple" /\ o.data=.seq its n/\its.size<=sizeLine/\ay xs its.toList
abbrev fK:=List (List Nat×Int×Int)
def rL(K:Qb)(w:Ls):List Lq->fK->Prop
 |[],q=>q=[]
 |e::es,q=>∃k x y r t b,q=(k,x,y)::r/\e.key=.str ⟨k.toArray⟩ t/\e.hash=Lw w ⟨k.toArray⟩/\e.val=.ref b/\i5 K b [.int x,.int y]/\rL K w es r
def iu(K:Qb)(w:Ls)(a:Addr)(q:fK):Prop:=
 (a==Lz)=false/\∃o es ep,K.lookup a=some o/\o.ExactDict/\o.data=.dict es ep/\rL K w es.toList q
def rK(K:Qb):List (bv×V)->fK->Prop
 |[],q=>q=[]
 |kv::kvs,q=>∃k x y r b,q=(k,x,y)::r/\kv=(Sum.inr ⟨k.toArray⟩,.ref b)/\i5 K b [.int x,.int y]/\rK K kvs r
theorem tF {K:Qb}:∀(es:List Lq) (q:fK),rL K w es q ->
  ∃kvs vs,(∀e∈es,∃k,(zN P w).is k e.key=true/\e.hash=(zN P w).hash k)/\Pairs (zN P w) es vs/\KV kvs vs/\vs.map (·.1)=q.map (λz=>(Sum.inr ⟨z.1.toArray⟩:bv))/\rK K kvs q
 |[],q,h=>by
  cases(show q=[]from h);exact⟨[],[],by simp,.nil,.nil,rfl,rfl⟩
 |e::es,q,h=>by
  obtain⟨k,x,y,r,t,b,rfl,h1,h2,h3,h4,h5⟩:=h;obtain⟨kvs,vs,g1,g2,g3,g4,g5⟩:=tF (P:=P) es r h5;have hk:(zN P w).is (Sum.inr ⟨k.toArray⟩) e.key=true:=by rw[h1];exact gk _ t
  refine⟨(Sum.inr ⟨k.toArray⟩,.ref b)::kvs,(Sum.inr ⟨k.toArray⟩,.ref b)::vs,λe' he=>?_,.cons hk h3 g2,.cons ⟨rfl,rfl⟩ g3,?_,k,x,y,r,b,rfl,rfl,h4,g5⟩
  .rcases Qp.mp he with rfl|he
   .exact ⟨_,hk,h2⟩
   .exact g1 e' he
  .rw[QR,QR,g4]
def Cn {K:Qb}(h:iu K w a q)(nd:(q.map (·.1)).Nodup):∃o ep kvs,K.lookup a=some o/\FO P w a o ep kvs/\rK K kvs q:=by
 obtain⟨h0,o,es,ep,h1,h2,h3,h4⟩:=h;obtain⟨kvs,vs,g1,g2,g3,g4,g5⟩:=tF (P:=P) _ _ h4;refine⟨o,ep,kvs,h1,⟨h0,es,vs,h2,h3,λe he=>g1 e (W5.mpr he),g2,?_,g3⟩,g5⟩;rw[g4];refine List.Pairwise.map _ (λx y hxy=>?_) (List.pairwise_map.mp nd);intro e;injection e with e
 injection e with e
 exact hxy (by simpa using M9 WA e)
section
variable{X:Cx}{pins:List (Addr×Obj)}{σ:St}{H:Hp}{s:Shared}
def Cm(X:Cx):R2:=λx y H Q=>∃d o ep kvs k v,x=.ref d/\y=kV k/\FO X.prog X.w d o ep kvs/\X.K.lookup d=some o/\wf kvs k=some v/\Q v H
def oW:ef X (Cm X):=by
 intro value slice pins s σ H x y v u Q I rx ry h hs;obtain⟨d,o,ep,kvs,k,z,rfl,rfl,f,hq,hv,q⟩:=h;cases rx;obtain⟨vs,rel,da⟩:=f.at (I.kIn d o hq);obtain⟨w',hw,rw'⟩:=iW (v:=z) (o:=MT vs k) (by rw[<-hv];exact rel.val k);exact Mw (x:=w') da.dictOf.typeIs slot_dict_getitem.lookup
  (MU (Q:=λr s'=>r=w'/\EP X pins σ Q r s') (iE ry) da.dictOf.mapOf hw ⟨rfl,z,H,I.tok _,rw',q⟩) hs
end
end L2
namespace Mini
open PySem PySem.Spec PyProof.Rows L2
set_option genInjectivity false in
structure Ctx where
 fns:List Str
 cons:List (Str×Int)
 dcs:List (Str×fK)
set_option genInjectivity false in
inductive Nd where
 |e (x:Expr)|a (xs:List Expr)
def cA(sc:Lo)(x:Str):Bool:=decide (sc.names.lookup x=some .globalImplicit)
def qk(sc:Lo)(x:Str):Bool:=decide (sc.names.lookup x=some .local) || (decide (sc.names.lookup x=some .cell) || decide (sc.names.lookup x=some .free))
def zP(x:Str):Bool:=!(x==("__debug__":Str)) && !(x==("__classdict__":Str)) && !(x==("__name__":Str))
def zF:Expr->Bool
 |.Starred _ _=>false
 |_=>true
def yH:Expr->Bool
 |.Set _ _ _=>false
 |_=>true
def yP:Expr->Bool
 |.Slice _ _ _ _=>false
 |_=>true
def vY:Expr->Bool
 |.Call _ _ _ _=>false
 |_=>true
def zo:Ex->Bool
 |.rng _ _ _=>true
 |_=>false
def vM:Ex->Bool
 |.ife _ _ _=>true
 |_=>false
def yo(scope sc:Lo):Lo:=
 {scope with names:=scope.names.map λ(n,k)=>if(k == .free&&sc.kind == .function&&sc.names.lookup n==some .cell)then(n,.cell)else(n,k)}
def wn(sc:Lo)(N:List Str)(scope:Lo)(xs:List Str):Bool:=
 decide (scope.kind=.function)&&(xs.all (λx=>decide (scope.names.lookup x=some .local) || decide (scope.names.lookup x=some .cell)) &&
 (scope.names.all (λy=>!(decide (y.2=.local)) || decide (scope.names.lookup y.1=some .local)) &&
 (scope.names.all (λy=>!(decide (y.2=.free)) || (decide (sc.names.lookup y.1=some .cell) || decide (sc.names.lookup y.1=some .free))) &&
 (scope.names.all (λy=>!(decide (y.2=.cell)) || !(decide (scope.names.lookup y.1=some .free))) &&
 (N.all (λy=>decide (y∈xs) || (!(decide (scope.names.lookup y=some .local)) && !(decide (scope.names.lookup y=some .cell)))) &&
 (decide (yF N xs).Nodup&&xs.all (λx=>decide (scope.names.lookup (lK x)=none))))))))
def yD (h:wn X.env.scope X.N scope xs=true):bM X scope xs:=by
 unfold wn at h;simp only[Qq,Ww,Nc,Wc,Wm,decide_eq_false_iff_not]at h;obtain⟨h1,h2,h3,h4,h5,h6,h7,h8⟩:=h;refine⟨h1,h2,λy hy e=>?_,λy hy e=>?_,λy hy e=>?_,λy hy e=>?_,h7,h8⟩
 .rcases h3 y hy with z|z
  .exact M8 e z
  .exact z
 .rcases h4 y hy with z|z
  .exact M8 e z
  .exact z
 .rcases h6 y hy with z|z
  .exact M8 z e
  .exact z
 .rcases h5 y hy with z|z
  .exact M8 e z
  .exact z
def kG(K:Qb)(g:List Wd->Me->Rz):Sp:=λvs H Q _=>∃as m ws,aQ K as m H/\ae K as H ws vs/\aq K as H Q (g ws m)
def zB:List Str:=["len","int","bool","list","tuple","abs","max","min","isinstance","range","str","dict","sum","all","zip","enumerate","sorted"]
def jE(K:Qb)(w:Ls)(mg:Str->Option Value)(C:Ctx):Prop:=(∀(nm:Str) (i:Int),C.cons.lookup nm=some i->∃t,mg nm=some (.int i t))/\∀(nm:Str) (q:fK),C.dcs.lookup nm=some q->∃a,mg nm=some (.ref a)/\iu K w a q
structure bB(C:Ctx)(X:Cx)(cl:Nat->List Wd->Me->Rz)(d:Nat):Prop where
 room:b9 d X.A
 calm:X.calm=true
 fn:∀(k:Nat) (nm:Str),C.fns[k]?=some nm->∃f fd ps,X.mg nm=some (.ref f)/\Q3 X.K (.ref f)=true/\Binds X.K fd ps []/\cc X.prog X.w X.K X.mg X.base dH d f fd ps (kG X.K (cl k))
 con:jE X.K X.w X.mg C
 blt:∀nm∈zB,X.mg nm=none
def bB.comp{C:Ctx}{X Xc:Cx}{cl:Nat->List Wd->Me->Rz}{d:Nat}{scope:Lo}{x:List Str}(h:bB C X cl d)(c:bz X scope x Xc):bB C Xc cl d:=by
 refine⟨by rw[c.A];exact h.room,c.calm,λk nm e=>?_,?_,λnm e=>?_⟩
 .obtain ⟨f,fd,ps,h1,h2,h3,h4⟩:=h.fn k nm e;exact⟨f,fd,ps,by rw[c.mg];exact h1,by rw[c.K];exact h2,by rw[c.K];exact h3,by rw[c.prog,c.w,c.K,c.mg,c.base];exact h4⟩
 .rw[c.mg,c.K,c.w];exact h.con
 .rw[c.mg];exact h.blt nm e
def b7(K:Qb)(as:List Addr)(H:Hp)(Q:List V->Hp->Prop)(r:Rz):Prop:=match r with
 |.ok w m'=>∀as' H' vs,Step as H as' H'->aQ K as' m' H'->ae K as' H' (zn w) vs->Q vs H'
 |_=>False
def vZ(K:Qb)(g:En->Me->Rz):TA:=λσ H Q=>∃as env m,aQ K as m H/\aF K as H env σ/\b7 K as H Q (g env m)
theorem b7.bind{K:Qb}{as:List Addr}{H:Hp}{Q:VK}{Q1:List V->Hp->Prop}{r:Rz}{f:Wd->Me->Rz}(h:aq K as H Q (r.bind f))
  (k:∀w m' as' H' vs,Step as H as' H'->aQ K as' m' H'->ae K as' H' (zn w) vs->aq K as' H' Q (f w m')->Q1 vs H'):b7 K as H Q1 r:=by
 cases r with
 |ok w m'=>exact λas2 H2 v U S R=>k w m' as2 H2 v U S R (aq.step (r:=f w m') h U)
 |exc c w m'=>exact h
 |no=>exact h
def bX(cl:Nat->List Wd->Me->Rz)(X:Cx)(e:Ex):Nd->Prop
 |.e x=>(zo e=false->PE X x (aM X.K (af cl e))/\(vM e=false->PT X x (xQ X.K (af cl e)))/\(∀op vs pos,x=.BoolOp op vs pos->PW X x (xQ X.K (af cl e))))/\∀tg,PI X tg x (hU X.K (af cl e))
 |.a xs=>PA X xs (vZ X.K (af cl e))
def bX.of{cl:Nat->List Wd->Me->Rz}{X:Cx}{e:Ex}{x:Expr}(h:PE X x (aM X.K (af cl e)))(ht:∀whole,isTrue x X.env whole=(do let v <-whole;standAt x.pos;holding [v] (truthy v)):=by intro _;rfl)
  (hb:∀op vs pos,x≠.BoolOp op vs pos:=by intros;intro z;cases z):bX cl X e (.e x):=
 ⟨λ_=>⟨h,λ_=>t9 h ht,λop vs pos z=>M8 z (hb op vs pos)⟩,λtg=>vX h⟩
def zp (h:zF e=true):LN (e::es) env=(false,eval e env)::LN es env:=by
 cases e<;>first|rfl|cases h
theorem yy:∀{es:List Expr},es.all zF=true->(LM pos (LN es env)).any (·.1)=false
 |[],_=>rfl
 |e::es,h=>by
  rw[Wn,Qq]at h;rw[zp h.1];show(false || (LM pos (LN es env)).any (·.1))=false;rw[yy h.2];rfl
section
variable{cl:Nat->List Wd->Me->Rz}{X:Cx}{a b c:Ex}{x y:Expr}{pos:Pos}
def CN (ha:PE X x (aM X.K (af cl a)))(hb:PE X y (aM X.K (af cl b))):PE X (.BinOp x (fY op) y pos) (aM X.K (af cl (.bin op a b))):=by
 refine PE.imp (Cf (B5 op) ha hb) λσ H Q h=>?_;obtain⟨as,env,m,S,G,P⟩:=h;refine⟨as,env,m,S,G,aq.bind P λx m1 as1 H1 v T1 S1 R1 P1=>?_⟩;refine⟨as1,env,m1,S1,G.mono S T1,aq.bind P1 λy m2 as2 H2 u T2 S2 R2 P2=>?_⟩;exact DR S2 (R1.mono S1 T2) R2 P2
def CM(ha:PE X x (aM X.K (af cl a))):PE X (.UnaryOp .USub x pos) (aM X.K (af cl (.neg a))):=by
 refine PE.imp (Ce Dx ha) λσ H Q h=>?_;obtain⟨as,env,m,S,G,P⟩:=h;refine⟨as,env,m,S,G,aq.bind P λx m1 as1 H1 v T1 S1 R1 P1=>?_⟩;cases x with
 |int i=>
  obtain rfl:=aa.mp R1;exact⟨i,rfl,P1.ok S1 (aa.mpr rfl)⟩
 |_=>exact P1.elim
def tV(ha:PE X x (aM X.K (af cl a))):PE X (.UnaryOp .Not x pos) (aM X.K (af cl (.not a))):=by
 refine PE.imp (DH ha) λσ H Q h=>?_;obtain⟨as,env,m,S,G,P⟩:=h;refine⟨as,env,m,S,G,aq.bind P λx m1 as1 H1 v T1 S1 R1 P1=>?_⟩;cases x with
 |bl k=>
  obtain rfl:=ah.mp R1;exact⟨k,rfl,P1.ok S1 (ah.mpr rfl)⟩
 |_=>exact P1.elim
def CL(ha:PT X x (xQ X.K (af cl a))):PT X (.UnaryOp .Not x pos) (xQ X.K (af cl (.not a))):=by
 refine PT.imp (DI ha) λσ H Q h=>?_;obtain⟨as,env,m,S,G,P⟩:=h;refine⟨as,env,m,S,G,aq.bind P λx m1 as1 H1 v T1 S1 R1 P1=>?_⟩;cases x with
 |bl k=>
  obtain rfl:=ah.mp R1;obtain⟨b,e,q⟩:=P1.ok S1 (ah.mpr rfl);cases e;exact⟨k,rfl,q⟩
 |_=>exact P1.elim
def Al {K:Qb}(h:aM K (af cl (.and a b)) σ H Q):aM K (af cl a) σ H λx H1=>∃k,x=.bl k/\if k=true then aM K (af cl b) σ H1 Q else Q (.bl false) H1:=by
 obtain⟨as,env,m,S,G,P⟩:=h;refine⟨as,env,m,S,G,aq.bind P λx m1 as1 H1 v T1 S1 R1 P1=>?_⟩;cases x with
 |bl k=>
  obtain rfl:=ah.mp R1;refine⟨k,rfl,?_⟩;cases k with
  |true=>exact g9 ⟨as1,env,m1,S1,G.mono S T1,P1⟩
  |false=>exact qW (P1.ok S1 (ah.mpr rfl))
 |_=>exact P1.elim
def Aa {K:Qb}(h:aM K (af cl (.or a b)) σ H Q):aM K (af cl a) σ H λx H1=>∃k,x=.bl k/\if k=true then Q (.bl true) H1 else aM K (af cl b) σ H1 Q:=by
 obtain⟨as,env,m,S,G,P⟩:=h;refine⟨as,env,m,S,G,aq.bind P λx m1 as1 H1 v T1 S1 R1 P1=>?_⟩;cases x with
 |bl k=>
  obtain rfl:=ah.mp R1;refine⟨k,rfl,?_⟩;cases k with
  |false=>exact qW ⟨as1,env,m1,S1,G.mono S T1,P1⟩
  |true=>exact g9 (P1.ok S1 (ah.mpr rfl))
 |_=>exact P1.elim
def Ak {K:Qb}(h:aM K g σ H Q)(k:∀v H,Q v H->Q' v H):aM K g σ H Q':=by
 obtain⟨as,env,m,S,G,P⟩:=h;refine⟨as,env,m,S,G,?_⟩;cases hr:g env m with
 |ok w m'=>rw[hr]at P;exact λas' H' v T S' R=>k _ _ (P as' H' v T S' R)
 |exc c w m'=>rw[hr]at P;exact P
 |no=>rw[hr]at P;exact P
def tU (ha:PE X x (aM X.K (af cl a)))(hb:PE X (.BoolOp .And (y::r) pos) (aM X.K (af cl b))):PE X (.BoolOp .And (x::y::r) pos) (aM X.K (af cl (.and a b))):=
 PE.imp (t8 ha hb) λσ H Q h=>Al h
def sM (ha:PE X x (aM X.K (af cl a)))(hb:PE X (.BoolOp .Or (y::r) pos) (aM X.K (af cl b))):PE X (.BoolOp .Or (x::y::r) pos) (aM X.K (af cl (.or a b))):=
 PE.imp (BL ha hb) λσ H Q h=>Aa h
def PW.imp{e:Expr}{t t':TT}(h:PW X e t)(k:∀σ H Q,t' σ H Q->t σ H Q):PW X e t':=λwhole pins s σ H Q I q=>h whole pins s σ H Q I (k σ H Q q)
def tT (ha:PT X x (xQ X.K (af cl a)))(hb:PW X (.BoolOp .And (y::r) pos) (xQ X.K (af cl b))):PW X (.BoolOp .And (x::y::r) pos) (xQ X.K (af cl (.and a b))):=
 PW.imp (DJ ha hb) λσ H Q h=>by
  refine Ak (Al h) λv H1 q=>?_;obtain⟨k,e,q⟩:=q;refine⟨k,e,?_⟩;cases k with
  |true=>rw[M6 rfl]at q ⊢;exact q
  |false=>
   rw[M7 QP]at q ⊢;obtain⟨b',e',q⟩:=q;cases e';exact q
def sL (ha:PT X x (xQ X.K (af cl a)))(hb:PW X (.BoolOp .Or (y::r) pos) (xQ X.K (af cl b))):PW X (.BoolOp .Or (x::y::r) pos) (xQ X.K (af cl (.or a b))):=
 PW.imp (BO ha hb) λσ H Q h=>by
  refine Ak (Aa h) λv H1 q=>?_;obtain⟨k,e,q⟩:=q;refine⟨k,e,?_⟩;cases k with
  |false=>rw[M7 QP]at q ⊢;exact q
  |true=>
   rw[M6 rfl]at q ⊢;obtain⟨b',e',q⟩:=q;cases e';exact q
def lq (h:yH e=true):Mf op e=false:=by
 cases e<;>first|rfl|cases h
def Aj {K:Qb}(h:aM K (af cl (.cmp op a b)) σ H Q):eL (rC K op) (aM K (af cl a)) (aM K (af cl b)) σ H Q:=by
 obtain⟨as,env,m,S,G,P⟩:=h;refine⟨as,env,m,S,G,aq.bind P λx m1 as1 H1 v T1 S1 R1 P1=>?_⟩;refine⟨as1,env,m1,S1,G.mono S T1,aq.bind P1 λy m2 as2 H2 u T2 S2 R2 P2=>?_⟩;exact⟨as2,m2,x,y,S2,R1.mono S1 T2,R2,P2⟩
def tS (hu:X.A.units+64<Mh)(ha:PE X x (aM X.K (af cl a)))(hb:PE X y (aM X.K (af cl b)))(hs:yH y=true):PE X (.Compare x [cK op] [y] pos) (aM X.K (af cl (.cmp op a b))):=
 PE.imp (E7 (jB hu op) ha hb (lq hs)) λσ H Q h=>Aj h
def CK (hu:X.A.units+64<Mh)(ha:PE X x (aM X.K (af cl a)))(hb:PE X y (aM X.K (af cl b)))(hs:yH y=true):PT X (.Compare x [cK op] [y] pos) (xQ X.K (af cl (.cmp op a b))):=
 PT.imp (uW (jB hu op) ha hb (lq hs)) λσ H Q h=>Aj h
end
section
variable{cl:Nat->List Wd->Me->Rz}{X:Cx}{a b c:Ex}{x y z:Expr}{pos:Pos}
def jF {K:Qb}(h:aM K (af cl (.chain p q a b c)) σ H Q):nH (rC K p) (rC K q) (aM K (af cl a)) (aM K (af cl b)) (aM K (af cl c)) σ H Q:=by
 obtain⟨as,env,m,S,G,P⟩:=h;refine⟨as,env,m,S,G,aq.bind P λx m1 as1 H1 v T1 S1 R1 P1=>?_⟩;refine⟨as1,env,m1,S1,G.mono S T1,aq.bind P1 λy m2 as2 H2 u T2 S2 R2 P2=>?_⟩;refine⟨as2,m2,x,y,S2,R1.mono S1 T2,R2,aq.bind P2 λz m3 as3 H3 w T3 S3 R3 P3=>?_⟩;cases z with
 |bl k=>
  obtain rfl:=ah.mp R3;refine⟨k,rfl,?_⟩;cases k with
  |false=>exact qW (P3.ok S3 (ah.mpr rfl))
  |true=>
   refine g9 ⟨as3,env,m3,S3,((G.mono S T1).mono S1 T2).mono S2 T3,aq.bind P3 λt m4 as4 H4 r T4 S4 R4 P4=>?_⟩;exact⟨as4,m4,y,t,S4,(R2.mono S2 T3).mono S3 T4,R4,P4⟩
 |_=>exact P3.elim
def tR (h:yH z=true):lastMarks [o,o'] [y,z]=false:=by
 show Mf o' z=false;exact lq h
def Ai (hu:X.A.units+64<Mh)(ha:PE X x (aM X.K (af cl a)))(hb:PE X y (aM X.K (af cl b)))(hc:PE X z (aM X.K (af cl c)))(hs:yH z=true):
  PE X (.Compare x [cK p,cK q] [y,z] pos) (aM X.K (af cl (.chain p q a b c))):=
 PE.imp (Ig (jB hu p) (jB hu q) ha hb hc (tR hs)) λσ H Q h=>jF h
def G7 (hu:X.A.units+64<Mh)(ha:PE X x (aM X.K (af cl a)))(hb:PE X y (aM X.K (af cl b)))(hc:PE X z (aM X.K (af cl c)))(hs:yH z=true):
  PT X (.Compare x [cK p,cK q] [y,z] pos) (xQ X.K (af cl (.chain p q a b c))):=
 PT.imp (Ie (jB hu p) (jB hu q) ha hb hc (tR hs)) λσ H Q h=>jF h
def G6 {K:Qb}(h:aM K (af cl (.ife c a b)) σ H Q):AQ (xQ K (af cl c)) (aM K (af cl a)) (aM K (af cl b)) σ H Q:=by
 obtain⟨as,env,m,S,G,P⟩:=h;refine⟨as,env,m,S,G,aq.bind P λx m1 as1 H1 v T1 S1 R1 P1=>?_⟩;cases x with
 |bl k=>
  obtain rfl:=ah.mp R1;refine⟨k,rfl,?_⟩;cases k with
  |true=>exact g9 ⟨as1,env,m1,S1,G.mono S T1,P1⟩
  |false=>exact qW ⟨as1,env,m1,S1,G.mono S T1,P1⟩
 |_=>exact P1.elim
def CJ(hc:PT X z (xQ X.K (af cl c)))(ha:PE X x (aM X.K (af cl a)))(hb:PE X y (aM X.K (af cl b))):PE X (.IfExp z x y pos) (aM X.K (af cl (.ife c a b))):=
 PE.imp (HJ hc ha hb) λσ H Q h=>G6 h
def FA:PA X [] (vZ X.K (af cl .unit)):=PA.imp xI λσ H Q h=>by
 obtain⟨as,env,m,S,G,P⟩:=h;exact P as H [] .refl S (ax.mpr rfl)
def Fz (ha:PE X x (aM X.K (af cl a)))(hb:PA X xs (vZ X.K (af cl b)))(hs:zF x=true):PA X (x::xs) (vZ X.K (af cl (.pair a b))):=by
 refine PA.imp (yj ha hb (zp hs)) λσ H Q h=>?_;obtain⟨as,env,m,S,G,P⟩:=h;refine⟨as,env,m,S,G,?_⟩;have P':b7 X.K as H Q ((af cl a env m).bind λx m1=>(af cl b env m1).bind λy m2=>.ok (.tup (x::zn y)) m2):=P;cases hr:af cl a env m with
 |no=>rw[hr]at P';exact P'
 |exc c w m'=>rw[hr]at P';exact P'
 |ok w m1=>
  rw[hr]at P';intro as1 H1 v T1 S1 R1;refine⟨as1,env,m1,S1,G.mono S T1,?_⟩;simp only[Rz.bind]at P';cases hr2:af cl b env m1 with
  |no=>rw[hr2]at P';exact P'
  |exc c w' m'=>rw[hr2]at P';exact P'
  |ok w' m2=>
   rw[hr2]at P';intro as2 H2 vs T2 S2 R2;exact P' as2 H2 (v::vs) (T1.trans T2) S2 (am.mpr ⟨v,vs,rfl,R1.mono S1 T2,R2⟩)
def Fy (hC:bB C X cl d)(hk:C.fns[k]?=some nm)(hg:X.env.scope.names.lookup nm=some .globalImplicit)(hn:zP nm=true)(hs:(x::xs).all zF=true)(ha:PA X (x::xs) (vZ X.K (af cl a))):PE X (.Call (.Name nm p) (x::xs) [] pos) (aM X.K (af cl (.call k a))):=by
 obtain⟨f,fd,ps,h1,h2,h3,h4⟩:=hC.fn k nm hk;have hs':=hs;rw[Wn,Qq]at hs';have hdb:(nm==("__debug__":Str))=false:=by
  unfold zP at hn;simp only[Qq,Wm]at hn;exact hn.1.1
 refine PE.imp (E5 h4 hC.room hg h1 h2 h3 .nil (B8 (X:=X)) ha hdb (zp hs'.1) (yy hs'.2)) λσ H Q h=>?_;obtain⟨as,env,m,S,G,P⟩:=h;refine⟨as,env,m,S,G,b7.bind P λw m1 as1 H1 vs T1 S1 R1 P1=>?_⟩;refine⟨as1,m1,zn w,S1,?_,P1⟩;rw[Q0];exact R1
def yX (hn:zP nm=true):(nm==("__debug__":Str))=false/\(nm==("__classdict__":Str))=false/\nm ≠ "__name__":=by
 unfold zP at hn;simp only[Qq,Wm]at hn;exact⟨hn.1.1,hn.1.2,by simpa using hn.2⟩
def CI (hC:bB C X cl d)(hb:i6 bf=some (nm,f))(hg:X.env.scope.names.lookup nm=some .globalImplicit)(hn:zP nm=true)(hs:(x::xs).all zF=true)(ha:PA X (x::xs) (vZ X.K (af cl a))):PE X (.Call (.Name nm p) (x::xs) [] pos) (aM X.K (af cl (.blt bf a))):=by
 obtain⟨n1,n2,n3⟩:=yX hn;have hs':=hs;rw[Wn,Qq]at hs';have hc:=GH hC.room.units hC.calm hb;have go:PE X (.Call (.Name nm p) (x::xs) [] pos) (nW (AU X.K bf) (vZ X.K (af cl a))):=by
  cases bf with
  |len=>cases hb;exact xw hc hg (hC.blt _ (by simp[zB])) PySem.boot_len ha n3 n1 (zp hs'.1) (yy hs'.2)
  |int=>cases hb;exact gw hc hg (hC.blt _ (by simp[zB])) PyProof.Rows.boot_int ha n3 n1 (zp hs'.1) (yy hs'.2)
  |list=>cases hb;exact gw hc hg (hC.blt _ (by simp[zB])) PyProof.Rows.boot_list ha n3 n1 (zp hs'.1) (yy hs'.2)
  |max2=>cases hb;exact xw hc hg (hC.blt _ (by simp[zB])) PyProof.Rows.boot_max ha n3 n1 (zp hs'.1) (yy hs'.2)
  |min2=>cases hb;exact xw hc hg (hC.blt _ (by simp[zB])) PyProof.Rows.boot_min ha n3 n1 (zp hs'.1) (yy hs'.2)
  |sortI=>cases hb;exact xw hc hg (hC.blt _ (by simp[zB])) PyProof.Rows.boot_sorted ha n3 n1 (zp hs'.1) (yy hs'.2)
 refine PE.imp go λσ H Q h=>?_;obtain⟨as,env,m,S,G,P⟩:=h;refine⟨as,env,m,S,G,b7.bind P λw m1 as1 H1 vs T1 S1 R1 P1=>?_⟩;exact⟨as1,m1,zn w,S1,R1,P1⟩
def Fx(t:Tg):LF (Str.ofString (dq t))=some (.type (dq t)):=by
 cases t<;>decide +kernel
def CH (hC:bB C X cl d)(hg:X.env.scope.names.lookup ("isinstance":Str)=some .globalImplicit)(hg':X.env.scope.names.lookup (Str.ofString (dq t))=some .globalImplicit)(hs:zF x=true)(ha:PE X x (aM X.K (af cl a))):PE X (.Call (.Name "isinstance" p) [x,.Name (Str.ofString (dq t)) p'] [] pos) (aM X.K (af cl (.isi t a))):=by
 have hm:X.mg (Str.ofString (dq t))=none:=hC.blt _ (by cases t<;>decide +kernel);have hty:PE X (.Name (Str.ofString (dq t)) p') (tC (.ty (dq t))):=uY hg' hm (Fx t) rfl (by cases t<;>decide +kernel) (by cases t<;>decide +kernel);refine PE.imp (xw (GG t) hg (hC.blt _ (by simp[zB])) PyProof.Rows.boot_isinstance (yj ha (yj hty xI) (zp hs)) (by decide +kernel) (by decide +kernel) (zp hs) rfl) λσ H Q h=>?_;obtain⟨as,env,m,S,G,P⟩:=h;refine⟨as,env,m,S,G,aq.bind P λw m1 as1 H1 v T1 S1 R1 P1=>?_⟩;exact⟨as1,m1,w,v,rfl,S1,R1,P1⟩
def CG (ha:PA X xs (vZ X.K (af cl a))):PE X (.List xs pos) (aM X.K (af cl (.lst a))):=by
 refine PE.imp (Dv ha) λσ H Q h=>?_;obtain⟨as,env,m,S,G,P⟩:=h;refine⟨as,env,m,S,G,b7.bind P λw m1 as1 H1 vs T1 S1 R1 P1=>?_⟩;obtain⟨h1,h2⟩:=xY S1 R1 P1;exact⟨Qr h1 xb,h2⟩
set_option tactic.hygienic true in
def CF (ha:PA X xs (vZ X.K (af cl a))):PE X (.Tuple xs k pos) (aM X.K (af cl (.tup a))):=by
 refine PE.imp (ub ha) λσ H Q h=>?_;obtain⟨as,env,m,S,G,P⟩:=h;refine⟨as,env,m,S,G,b7.bind P λw m1 as1 H1 vs T1 S1 R1 P1=>?_⟩;split at P1
 .rename_i hl;refine⟨by rw[<-R1.length];exact Qr hl xb,λp hp=>?_⟩;obtain⟨T,S',R'⟩:=S1.tup hp R1;exact P1 _ _ _ T S' R'
 .exact P1.elim
def CC(ha:PE X x (aM X.K (af cl a)))(hb:PE X y (aM X.K (af cl b)))(hs:yP y=true):PE X (.Subscript x y pos) (aM X.K (af cl (.idx a b))):=by
 have hp:gZ y:=λo i=>by cases y<;>first|rfl|cases hs
 refine PE.imp (lh Ds ha hb hp) λσ H Q h=>?_;obtain⟨as,env,m,S,G,P⟩:=h;refine⟨as,env,m,S,G,aq.bind P λx m1 as1 H1 v T1 S1 R1 P1=>?_⟩;refine⟨as1,env,m1,S1,G.mono S T1,aq.bind P1 λy m2 as2 H2 u T2 S2 R2 P2=>?_⟩;exact DM S2 (R1.mono S1 T2) R2 P2
end
section
variable{cl:Nat->List Wd->Me->Rz}{X:Cx}{a b c:Ex}{x y z:Expr}{pos:Pos}
set_option tactic.hygienic true in
def Ck {K:Qb}{lo:Option Int}(S:aQ K as m H)(R:ai K as H w v)(h:aq K as H Q (fV w lo hi m)):r9 K v lo hi H Q:=by
 have hs:∀(n d:Nat) (o:Option Int),cj n d o=HT.cj n d o:=λn d o=>by cases o<;>rfl
 unfold fV at h;split at h
 .rename_i xs hx;have hsq:xL m w=some xs:=by
   cases w with
   |rol ys=>exact hx
   |ref l=>exact hx
   |_=>cases hx
  have key:∃p vs,v=.ref p/\bn K H p vs/\ae K as H xs vs:=by
   cases w with
   |rol ys=>
    cases hx;obtain⟨p,vs,rfl,q,r⟩:=bb.mp R;exact⟨p,vs,rfl,q.sq,r⟩
   |ref l=>
    obtain⟨p,hp,rfl⟩:=aG.mp R;obtain⟨p',vs,hp',e,r⟩:=ya S (zK hx);rw[hp]at hp';cases hp';exact⟨p,vs,rfl,bn.of e,r⟩
   |_=>cases hx
  obtain⟨p,vs,rfl,q,r⟩:=key;refine⟨p,vs,rfl,q,?_⟩;have e:(vs.drop (cj xs.length 0 lo)).take (cj xs.length xs.length hi-cj xs.length 0 lo)=fS vs lo hi:=by
   unfold fS;rw[r.length,hs,hs]
  rw[<-e];exact(xY S ((r.drop _).take _) h).2
 .exact h.elim
def CB (ha:PE X x (aM X.K (af cl a)))(hb:PE X y (aM X.K (af cl b)))(hc:PE X z (aM X.K (af cl c))):PE X (.Subscript x (.Slice (some y) (some z) none p2) pos) (aM X.K (af cl (.slB a b c))):=by
 refine PE.imp (Ic E3 ha (uV hb) (uV hc)) λσ H Q h=>?_;obtain⟨as,env,m,S,G,P⟩:=h;refine⟨as,env,m,S,G,aq.bind P λx m1 as1 H1 v T1 S1 R1 P1=>?_⟩;refine⟨as1,env,m1,S1,G.mono S T1,aq.bind P1 λy m2 as2 H2 u T2 S2 R2 P2=>?_⟩;cases y with
 |int i=>
  refine⟨i,aa.mp R2,as2,env,m2,S2,(G.mono S T1).mono S1 T2,aq.bind P2 λz m3 as3 H3 t T3 S3 R3 P3=>?_⟩;cases z with
  |int j=>exact⟨j,aa.mp R3,Ck S3 ((R1.mono S1 T2).mono S2 T3) P3⟩
  |_=>exact P3.elim
 |_=>exact P2.elim
def cx (h:vY e=true):My e f env (eval e env)=eval e env:=by
 cases e<;>first|rfl|cases h
def CA (h:ys.all zF=true)(hl:ys.length<29):
  ((LM cp (LN ys env)).all (λx=>! x.1)&&(backToKw cp (Mz [] env)).all (λx=>x.1.isSome)
   && decide (ys.length+([]:List MA).length+(if([]:List MA).isEmpty then 0 else 1)<30))=true:=by
 have all:∀{es:List Expr},es.all zF=true->(LM cp (LN es env)).all (λx=>! x.1)=true:=by
  intro es
  induction es with
  |nil=>intro _;rfl
  |cons e es ih=>
   intro h;rw[Wn,Qq]at h;rw[zp h.1];show(true&&(LM cp (LN es env)).all (λx=>! x.1))=true;rw[ih h.2];rfl
 rw[all h];have e2:(backToKw cp (Mz [] env)).all (λx=>x.1.isSome)=true:=rfl;rw[e2];have e3:decide (ys.length+([]:List MA).length+(if([]:List MA).isEmpty then 0 else 1)<30)=true:=by
  apply Na;show ys.length+0+0<30;lia
 rw[e3];rfl
def Ah(k:ee):Slot "list" (fe k).1 (fe k).2/\typeOf (.builtin (fe k).2)=pure (.type "method_descriptor"):=by
 cases k with
 |append=>exact⟨PySem.F.slot_list_append,PySem.F.type_list_append⟩
 |pop=>exact⟨PySem.F.slot_list_pop,PySem.F.type_list_pop⟩
 |reverse=>exact⟨PySem.F.slot_list_reverse,PySem.F.type_list_reverse⟩
 |clear=>exact⟨PySem.F.slot_list_clear,PySem.F.type_list_clear⟩
def u9{K:Qb}{as:List Addr}{H:Hp}{Q:VK}{b:Bool}{r:Rz}(h:aq K as H Q (match b with|true=>r|false=>.no)):b=true/\aq K as H Q r:=by
 cases b with
 |true=>exact⟨rfl,h⟩
 |false=>exact h.elim
def tQ (h:xp w m=true):∃l,w=.ref l/\(zz m l).isSome=true:=by
 cases w with
 |ref l=>
  refine⟨l,rfl,?_⟩;unfold xp aS at h;unfold zz;cases e:m[l]? with
  |none=>simp[e]at h
  |some o=>
   cases o with
   |lst xs=>rfl
   |dct ks us=>simp[e]at h
 |_=>cases h
def tP {K:Qb}(S:aQ K as m H)(R:ai K as H w v)(hw:∃l,w=.ref l/\(zz m l).isSome=true):lz K "list" v H:=by
 obtain⟨l,rfl,hs⟩:=hw;obtain⟨p,hp,rfl⟩:=aG.mp R;obtain⟨xs,hs⟩:=Q4.mp hs;obtain⟨p',us,hp',e,_⟩:=ya S (zK hs);rw[hp]at hp';cases hp';exact .inl ⟨rfl,us,bn.of e⟩
def GZ (ho:PE X x (aM X.K (af cl a)))(hx:vY x=true)(hl:(ap.endLine==pos.line)=true):
  PE X (.Call (.Attribute x (fe k).1 ap) [] [] pos) (aM X.K (af cl (.meth k a .unit))):=by
 obtain⟨f1,f2⟩:=Ah k;refine PE.imp (Dr PySem.F.plainAttrs_list f1 f2 (tH k) ho (cx hx) hl) λσ H Q h=>?_;obtain⟨as,env,m,S,G,P⟩:=h;refine⟨as,env,m,S,G,aq.bind P λw m1 as1 H1 v T1 S1 R1 P1=>?_⟩;obtain⟨hl',P1⟩:=u9 P1;have P2:aq X.K as1 H1 Q (dC k w [] m1):=P1;exact⟨tP S1 R1 (tQ hl'),as1,m1,w,[],S1,R1,ax.mpr rfl,P2⟩
def Fw (ho:PE X x (aM X.K (af cl a)))(ha:PA X (y::ys) (vZ X.K (af cl b)))(hx:vY x=true)(hl:(ap.endLine==pos.line)=true)(hn:(y::ys).length<29)(hs:(y::ys).all zF=true):
  PE X (.Call (.Attribute x (fe k).1 ap) (y::ys) [] pos) (aM X.K (af cl (.meth k a b))):=by
 obtain⟨f1,f2⟩:=Ah k;have hs':=hs;rw[Wn,Qq]at hs';refine PE.imp (B9 PySem.F.plainAttrs_list f1 f2 (tH k) ho ha (cx hx) (CA hs hn) hl (zp hs'.1) (yy hs'.2)) λσ H Q h=>?_;obtain⟨as,env,m,S,G,P⟩:=h;refine⟨as,env,m,S,G,aq.bind P λw m1 as1 H1 v T1 S1 R1 P1=>?_⟩;obtain⟨hl',P1⟩:=u9 P1;refine⟨tP S1 R1 (tQ hl'),?_⟩;refine⟨as1,env,m1,S1,G.mono S T1,b7.bind P1 λw2 m2 as2 H2 vs T2 S2 R2 P2=>?_⟩;exact⟨as2,m2,w,zn w2,S2,R1.mono S1 T2,R2,P2⟩
def GY {K:Qb}(S:aQ K as m H)(h:cn K as H R (iz (.int i) (.int j) (.int 1) m)):(-(2^62)<=i/\i<2^62/\-(2^62)<=j/\j<2^62)/\R (iV i (j-i).toNat) H:=by
 have h':cn K as H R (if -av<=i/\i<=av/\-av<=j/\j<=av/\((1:Int)=1\/(1:Int)=-1)then .ok (.tup (fo i 1 (qZ i j 1))) m else .no):=h;by_cases hc:-(av:Int)<=i/\i<=av/\-(av:Int)<=j/\j<=av/\((1:Int)=1\/(1:Int)=-1)
 .rw[M6 hc]at h';have hlim:(av:Int)=100000:=rfl;refine⟨by lia,h'.2 as H _ .refl S ?_⟩;have e:qZ i j 1=(j-i).toNat:=M6 rfl;rw[e];exact⟨_,λ_=>True,HE i (j-i).toNat (K:=K),trivial,jC 1 (j-i).toNat i,λ_ _ _ _=>trivial⟩
 .rw[M7 hc]at h';exact h'.elim
theorem cn.bind {K:Qb}(h:cn K as H R (r.bind f))(k:∀w m' as' H' v,Step as H as' H'->aQ K as' m' H'->ai K as' H' w v->cn K as' H' R (f w m')->Q1 v H'):aq K as H Q1 r:=by
 cases r with
 |ok w m'=>
  intro as2 H2 v U S Rr;refine k w m' as2 H2 v U S Rr ?_;have h':cn K as H R (f w m'):=h;cases hr:f w m' with
  |ok w2 m2=>rw[hr]at h';exact⟨h'.1,λas3 H3 J U3 S3 q=>h'.2 as3 H3 J (U.trans U3) S3 q⟩
  |exc c w2 m2=>rw[hr]at h';exact h'
  |no=>rw[hr]at h';exact h'
 |exc c w m'=>exact h
 |no=>exact h
def Fv (hC:bB C X cl d)(hg:X.env.scope.names.lookup ("range":Str)=some .globalImplicit)(hs:zF x=true)(hb:PE X x (aM X.K (af cl b))):
  PI X tg (.Call (.Name "range" p) [x] [] pos) (hU X.K (af cl (.rng (.lit (.int 0)) b (.lit (.int 1))))):=by
 refine PI.imp (Io hg (hC.blt _ (by simp[zB])) (yj hb xI (zp hs)) (zp hs)) λσ H R h=>?_;obtain⟨as,env,m,S,G,P⟩:=h;have P':cn X.K as H R ((af cl b env m).bind λy m2=>iz (.int 0) y (.int 1) m2):=P;refine⟨as,env,m,S,G,cn.bind P' λw m1 as1 H1 v T1 S1 R1 P1=>?_⟩;cases w with
 |int j=>
  obtain rfl:=aa.mp R1;obtain⟨⟨_,_,h1,h2⟩,q⟩:=GY S1 P1;refine⟨j,rfl,h1,h2,?_⟩;simpa using q
 |_=>exact P1.elim
def Fu (hC:bB C X cl d)(hgl:X.env.scope.names.lookup ("list":Str)=some .globalImplicit)(hg:X.env.scope.names.lookup ("range":Str)=some .globalImplicit)(hs:zF x=true)(ha:PE X x (aM X.K (af cl a))):
  PE X (.Call (.Name "list" p) [.Call (.Name "range" p') [x] [] pos'] [] pos) (aM X.K (af cl (.lrng a))):=by
 refine PE.imp (E1 hC.calm hgl (hC.blt _ (by simp[zB])) hg (hC.blt _ (by simp[zB])) (yj ha xI (zp hs)) (zp hs)) λσ H Q h=>?_;obtain⟨as,env,m,S,G,P⟩:=h;refine⟨as,env,m,S,G,aq.bind P λw m1 as1 H1 v T1 S1 R1 P1=>?_⟩;cases w with
 |int j=>
  obtain rfl:=aa.mp R1;have hlim:(av:Int)=100000:=rfl;have P1':aq X.K as1 H1 Q (if -(av:Int)<=j/\j<=av then alloc m1 (fo 0 1 j.toNat)else .no):=P1;by_cases hc:-(av:Int)<=j/\j<=av
  .rw[M6 hc]at P1';obtain⟨h1,h2⟩:=xY S1 (jC 1 j.toNat 0) P1';have hz:j.toNat<=sizeLine:=Qr (by have:av=100000:=rfl;lia) xb;exact⟨j,rfl,by lia,by lia,hz,h2⟩
  .rw[M7 hc]at P1';exact P1'.elim
 |_=>exact P1.elim
end
end Mini
namespace L2
open PySem PySem.Spec PyProof.Rows
section
variable{X:Cx}{pins:List (Addr×Obj)}{σ:St}{H:Hp}{s:Shared}{h':Ly}
def rP {ch:List Addr}(I:Inv X pins σ H s)(hf:∀b∈ch,jb X pins H b)(k:∀b o,b∉ch->s.heap.get? b=some o->h'.get? b=some o)(hT:s.heap.objs.size<=T)(hz:xs.length<=sizeLine)(hv:ay xs its)(ht:IsTup h' T its.toArray):Inv X pins σ (aJ H T (.tup xs)) {s with heap:=h',toks:=t' }:=by
 have hn:H T=none:=I.hok.fresh hT;have nit:∀b u,H b=some u->b∉ch:=λb u e z=>by rw[(hf b z).1]at e;cases e
 have up:∀b u,H b=some u->aJ H T (.tup xs) b=some u:=λb u e=>by rw[zj (zr e hn)];exact e
 refine I.step (g':=s.gens) (d':=s.drawn) (ch:=ch) (λb hb=>?_) (λb o _ _ hc e _=>k b o hc e) (λb o _ _ hc e _=>⟨o.slots,k b o hc e⟩) (λb o hc e n=>?_)
  (λb o hc e=>⟨o,k b o hc e⟩) (λb _ e=>up b _ e) (λb _ _ e=>up b _ e) (λb ps e=>⟨#[],by rw[up b _ e];simp⟩) (λm hm=>?_) (λb u e=>?_) I.bare
 .obtain ⟨f0,f1,f2,f3,f4,f5⟩:=hf b hb;exact⟨f3,f1,f4,f5⟩
 .rw[zj (QM (Qe (Qk e) hT))];exact n
 .obtain ⟨o,es,ep,ho,r⟩:=hm;exact⟨o,es,ep,k _ o (λz=>(hf _ z).2.1 rfl) ho,r⟩
 .by_cases hb:b=T
  .subst hb;rw[zm]at e;cases e;exact⟨hz,its,hv,ht⟩
  .rw[zj hb]at e;refine(I.hok b u e).stay (λc v hc q=>k c v ?_ q) (λc q=>up c _ q) λc _ q=>up c _ q;rcases hc with z|z
   .rw[z];exact nit b u e
   .exact nit c _ z
def Inv.turnedL{t':Nat}{ch:List Addr}(I:Inv X pins σ H s)(hf:∀b∈ch,jb X pins H b)(k:∀b o,b∉ch->s.heap.get? b=some o->h'.get? b=some o):Inv X pins σ H {s with heap:=h',toks:=t' }:=by
 have nit:∀b u,H b=some u->b∉ch:=λb u e z=>by rw[(hf b z).1]at e;cases e
 refine I.step (g':=s.gens) (d':=s.drawn) (ch:=ch) (λb hb=>?_) (λb o _ _ hc e _=>k b o hc e) (λb o _ _ hc e _=>⟨o.slots,k b o hc e⟩) (λb o hc e n=>n)
  (λb o hc e=>⟨o,k b o hc e⟩) (λb _ e=>e) (λb _ _ e=>e) (λb ps e=>⟨#[],by rw[e];simp⟩) (λm hm=>?_) (λb u e=>?_) I.bare
 .obtain ⟨f0,f1,f2,f3,f4,f5⟩:=hf b hb;exact⟨f3,f1,f4,f5⟩
 .obtain ⟨o,es,ep,ho,r⟩:=hm;exact⟨o,es,ep,k _ o (λz=>(hf _ z).2.1 rfl) ho,r⟩
 .refine (I.hok b u e).stay (λc v hc q=>k c v ?_ q) (λc q=>q) λc _ q=>q;rcases hc with z|z
  .rw[z];exact nit b u e
  .exact nit c _ z
end
def Yp(H:Hp)(v:V)(H':Hp)(x y:V):Prop:=∃T,H T=none/\v=.ref T/\H'=aJ H T (.tup [x,y])
def rG(K:Qb)(l1 l2:Addr):It:=
 ⟨λi H=>∃xs ys x y,bn K H l1 xs/\bn K H l2 ys/\xs[i]?=some x/\ys[i]?=some y,
  λi H v H'=>∃x y,Yp H v H' x y/\(∀xs,bn K H l1 xs->xs[i]?=some x)/\∀ys,bn K H l2 ys->ys[i]?=some y,
  λi H=>∃xs ys,bn K H l1 xs/\bn K H l2 ys/\(xs.length<=i\/ys.length<=i)⟩
def rJ(K:Qb)(c:Nat)(l:Addr):It:=
 ⟨λi H=>∃xs x,bn K H l xs/\xs[i]?=some x,
  λi H v H'=>∃x,Yp H v H' (.int ((i+c:Nat):Int)) x/\∀xs,bn K H l xs->xs[i]?=some x,
  λi H=>∃xs,bn K H l xs/\xs.length<=i⟩
def HC (hh:A.handled=none)(it l:Addr)(hne:l≠it)(items:Array Value)(c:Nat):
  Draws prog w A it [it,l] (items.size+c) (λi x=>∃j,i=j+c/\items[j]?=some x) (λi h=>∃j,i=j+c/\h.IsListIter it l j/\h.IsList l items):=by
 have D:=Draws.list (prog:=prog) (w:=w) hh it l hne items;refine⟨λi h st=>?_,λi h h' st k=>?_,λi s Q E hi st hQ=>?_,λs Q E st hE=>?_⟩
 .obtain ⟨j,_,h1,h2⟩:=st;exact D.live j h ⟨h1,h2⟩
 .obtain ⟨j,e,h1,h2⟩:=st;obtain⟨q1,q2⟩:=D.frame j h h' ⟨h1,h2⟩ k;exact⟨j,e,q1,q2⟩
 .obtain ⟨j,rfl,h1,h2⟩:=st;refine D.item j s Q E (by lia) ⟨h1,h2⟩ λx h' tk p q sb=>hQ x h' tk ⟨j,rfl,p⟩ ⟨j+1,by lia,q.1,q.2⟩ sb
 .obtain ⟨j,e,h1,h2⟩:=st;have e':j=items.size:=by lia
  subst e';exact D.done s Q E ⟨h1,h2⟩ hE
def GX (hh:A.handled=none)(it l:Addr)(items:Array Value)(hi:items[i]?=none):
  Draws prog w A it [it,l] 0 (λ_ _=>True) (λk h=>k=0/\h.IsListIter it l i/\h.IsList l items):=by
 refine⟨λk h st=>?_,λk h h' st q=>?_,λk s Q E hk st hQ=>M8 hk (Nat.not_lt_zero _),λs Q E st hE=>?_⟩
 .obtain ⟨o,ho,_⟩:=st.2.1;exact⟨o,ho⟩
 .exact ⟨st.1,st.2.1.at λo e=>q it (by simp) o e,st.2.2.at λo e=>q l (by simp) o e⟩
 .exact wpAny_nextOf_list_end hh st.2.1 st.2.2 hi hE
def GW {K:Qb}(z TI TO i1 i2 l1 l2:Addr)(D:ZipApart z TI TO i1 i2 l1 l2):
  dz P w K (.Tuple elts k pt) (rG K l1 l2) [z,TI,TO,i1,i2] z (λi h=>IsZip h z TI TO .none/\IsPair h TI (.ref i1) (.ref i2)/\(∃a b,IsPair h TO a b)/\h.IsListIter i1 l1 i/\h.IsListIter i2 l2 i) where
 mem:=by simp
 obj:=λi h st b hb=>by
  obtain⟨hz,hTI,⟨a,c,hTO⟩,⟨o1,e1,c1,d1⟩,o2,e2,c2,d2⟩:=st;simp only[Qp,Q6,or_false]at hb;rcases hb with rfl|rfl|rfl|rfl|rfl
  .exact ⟨_,hz,λv z=>by cases z⟩
  .exact ⟨_,hTI,λv z=>by cases z⟩
  .exact ⟨_,hTO,λv z=>by cases z⟩
  .exact ⟨_,e1,λv z=>by rw[d1]at z;cases z⟩
  .exact ⟨_,e2,λv z=>by rw[d2]at z;cases z⟩
 keep:=λi h h' st k=>by
  obtain⟨hz,hTI,⟨a,c,hTO⟩,h1,h2⟩:=st;exact⟨k z (by simp) _ hz,k TI (by simp) _ hTI,⟨a,c,k TO (by simp) _ hTO⟩,h1.at λo e=>k i1 (by simp) o e,h2.at λo e=>k i2 (by simp) o e⟩
 item:=by
  intro X hP hw hK hc i pins s σ H E I hf st hg;subst hP hw hK;obtain⟨xs,ys,x,y,hq1,hq2,hx,hy⟩:=hg;obtain⟨its1,rv1,p1,_⟩:=I.list hq1;obtain⟨its2,rv2,p2,_⟩:=I.list hq2;obtain⟨u,hu,ru⟩:=rv1.get hx;obtain⟨v,hv,rv⟩:=rv2.get hy;obtain⟨hz,hTI,⟨a,b,hTO⟩,h1,h2⟩:=st;refine wpAny_pyNext_zip_item D hz hTI hTO h1 h2 p1.isList p2.isList (x:=u) (y:=v) (by simpa using hu) (by simpa using hv) λh' a1 a2 a3 a4 a5 a6 hk=>?_;refine⟨_,rfl,wpAny_letOwnedTupleGo_zip (s:={s with heap:=h' }) a1 λh'' hz' hs'=>?_⟩;have sT:z<s.heap.objs.size:=Qk hz;have kk:∀b o,b∉[z,TI,TO,i1,i2]->s.heap.get? b=some o->h''.get? b=some o:=λb o hb e=>
   (hs'.2 b λq=>hb (by simp[q])).trans (hk b o (λq=>hb (by simp[q])) (λq=>hb (by simp[q])) (λq=>hb (by simp[q])) (λq=>hb (by simp[q])) e)
  refine⟨.ref s.heap.objs.size,aJ H s.heap.objs.size (.tup [x,y]),?_,rfl,⟨x,y,⟨_,I.hok.fresh (Qj _),rfl,rfl⟩,λzs hz=>by rw[I.list_inj hz hq1];exact hx,λzs hz=>by rw[I.list_inj hz hq2];exact hy⟩,?_,?_⟩
  .have I1:Inv X pins σ (aJ H s.heap.objs.size (.tup [x,y])) {s with heap:=h'',toks:=s.toks}:=rP (s:=s) (its:=[u,v]) I hf kk (Qj _) (show(2:Nat)<=sizeLine by decide) (.cons ru (.cons rv .nil)) ⟨_,(hs'.2 _ (WK sT)).trans a5,rfl,_,rfl⟩;exact I1
  .refine ⟨hz',?_,⟨u,v,?_⟩,?_,?_⟩
   .exact (hs'.2 TI D.TIz).trans (hk TI _ D.TIz D.TITO D.TIi1 D.TIi2 hTI)
   .exact (hs'.2 TO D.TOz).trans a2
   .exact a3.at λo e=>(hs'.2 i1 D.i1z).trans e
   .exact a4.at λo e=>(hs'.2 i2 D.i2z).trans e
  .intro b hb;have hlt:b<s.heap.objs.size:=by
    simp only[Qp,Q6,or_false]at hb;obtain⟨_,e1,_⟩:=h1;obtain⟨_,e2,_⟩:=h2;rcases hb with rfl|rfl|rfl|rfl|rfl
    .exact sT
    .exact Qk hTI
    .exact Qk hTO
    .exact Qk e1
    .exact Qk e2
   rw[zj (QM hlt)];exact(hf b hb).1
 done:=by
  intro X hP hw hK hc i pins s σ H E I hf st hg;subst hP hw hK;obtain⟨xs,ys,hq1,hq2,hx⟩:=hg;obtain⟨its1,rv1,p1,_⟩:=I.list hq1;obtain⟨its2,rv2,p2,_⟩:=I.list hq2;obtain⟨hz,hTI,⟨a,b,hTO⟩,h1,h2⟩:=st;have l1:=rv1.length;have l2:=rv2.length;refine wpAny_pyNext_zip_end (I.ok.hd hc) D hz hTI hTO h1 h2 p1.isList p2.isList ?_ λh' hk=>⟨rfl,?_⟩
  .rcases hx with hx|hx
   .exact .inl (by simp;lia)
   .exact .inr (by simp;lia)
  .exact I.turnedL (t':=s.toks) hf λb o hb e=>hk b o (λq=>hb (by simp[q])) (λq=>hb (by simp[q])) (λq=>hb (by simp[q])) (λq=>hb (by simp[q])) e
 self:=λ_ _ _ _ _ st h=>wpAny_pyIter_zip st.1 h
def HB {K:Qb}(c:Nat)(e it l:Addr)(hei:e≠it)(hle:l≠e)(hli:l≠it):
  dz P w K (.Tuple elts k pt) (rJ K c l) [e,it] e (λi h=>(∃old,IsEnum h e it ((i+c:Nat):Int) old)/\h.IsListIter it l i) where
 mem:=by simp
 obj:=λi h st b hb=>by
  obtain⟨⟨old,he⟩,o1,e1,c1,d1⟩:=st;simp only[Qp,Q6,or_false]at hb;rcases hb with rfl|rfl
  .exact ⟨_,he,λv z=>by cases z⟩
  .exact ⟨_,e1,λv z=>by rw[d1]at z;cases z⟩
 keep:=λi h h' st k=>by
  obtain⟨⟨old,he⟩,h1⟩:=st;exact⟨⟨old,k e (by simp) _ he⟩,h1.at λo q=>k it (by simp) o q⟩
 item:=by
  intro X hP hw hK hc i pins s σ H E I hf st hg;subst hP hw hK;obtain⟨xs,x,hq1,hx⟩:=hg;obtain⟨its1,rv1,p1,_⟩:=I.list hq1;obtain⟨u,hu,ru⟩:=rv1.get hx;obtain⟨⟨old,he⟩,h1⟩:=st;have hil:i<its1.length:=(Qa.mp hu).1;have D:=HC (prog:=X.prog) (w:=X.w) (A:=X.A.in1) (I.ok.hd hc) it l hli its1.toArray c;refine wpAny_pyNext_enum_itemD D he ⟨i,rfl,h1,p1.isList⟩ (by simp;lia) hei (by simp[hei,Ne.symm hle]) λx' h' tk px a1 st' a3 a4 hk=>?_;obtain⟨j,ej,hj⟩:=px;have ej':i=j:=by lia
  subst ej';have hxu:x'=u:=by
   have:its1[i]?=some x':=by simpa using hj
   rw[hu]at this;cases this;rfl
  subst hxu;obtain⟨j',ej',a2,_⟩:=st';have e2:j'=i+1:=by lia
  subst e2;refine⟨_,rfl,wpAny_letOwnedTupleGo_enum (s:={s with heap:=h',toks:=tk+1}) a1 λh'' he' hs'=>?_⟩;have sT:e<s.heap.objs.size:=Qk he;have kk:∀b o,b∉[e,it]->s.heap.get? b=some o->h''.get? b=some o:=λb o hb q=>
   (hs'.2 b λz=>hb (by simp[z])).trans (hk b o (λz=>hb (by simp[z])) (λz=>hb (by simp[z])) q)
  refine⟨.ref s.heap.objs.size,aJ H s.heap.objs.size (.tup [.int ((i+c:Nat):Int),x]),?_,rfl,⟨x,⟨_,I.hok.fresh (Qj _),rfl,rfl⟩,λzs hz=>by rw[I.list_inj hz hq1];exact hx⟩,?_,?_⟩
  .have I1:Inv X pins σ (aJ H s.heap.objs.size (.tup [.int ((i+c:Nat):Int),x])) {s with heap:=h'',toks:=tk+1}:=rP (s:=s) (its:=[.int ((i+c:Nat):Int) tk,x']) I hf kk (Qj _) (show(2:Nat)<=sizeLine by decide) (.cons ⟨_,rfl⟩ (.cons ru .nil)) ⟨_,(hs'.2 _ (WK sT)).trans a3,rfl,_,rfl⟩;exact I1
  .refine ⟨⟨x',?_⟩,a2.at λo q=>(hs'.2 it hei.symm).trans q⟩;have:((i+1+c:Nat):Int)=((i+c:Nat):Int)+1:=by lia
   rw[this];exact he'
  .intro b hb;have hlt:b<s.heap.objs.size:=by
    simp only[Qp,Q6,or_false]at hb;obtain⟨_,e1,_⟩:=h1;rcases hb with rfl|rfl
    .exact sT
    .exact Qk e1
   rw[zj (QM hlt)];exact(hf b hb).1
 done:=by
  intro X hP hw hK hc i pins s σ H E I hf st hg;subst hP hw hK;obtain⟨xs,hq1,hx⟩:=hg;obtain⟨its1,rv1,p1,_⟩:=I.list hq1;obtain⟨⟨old,he⟩,h1⟩:=st;have l1:=rv1.length;have D:=GX (prog:=X.prog) (w:=X.w) (A:=X.A.in1) (I.ok.hd hc) it l its1.toArray (i:=i) (by simp;lia);refine wpAny_pyNext_enum_endD D he ⟨rfl,h1,p1.isList⟩ λh' hk=>⟨rfl,?_⟩;exact I.turnedL (t':=s.toks) hf λb o hb q=>hk b o (λz=>hb (by simp[z])) q
 self:=λ_ _ _ _ _ st h=>by
  obtain⟨⟨old,he⟩,_⟩:=st;exact wpAny_pyIter_enum he h
section
variable{X:Cx}{elts:List Expr}{k:Nat}{pt:Pos}
def su(K:Qb)(ta:TA):TI:=λσ H R=>ta σ H λvs H1=>∃l1 l2 xs ys,vs=[.ref l1,.ref l2]/\bn K H1 l1 xs/\bn K H1 l2 ys/\R (rG K l1 l2) H1
def sK(K:Qb)(c:Nat)(ta:TA):TI:=λσ H R=>ta σ H λvs H1=>∃l xs,vs=[.ref l]/\bn K H1 l xs/\R (rJ K c l) H1
def tO (hg:Gl X "zip")(hm:X.mg "zip"=none)(ha:PA X [a,b] ta)(hs:LN [a,b] X.env=[(false,eval a X.env),(false,eval b X.env)]:=by rfl)(hs2:LN [b] X.env=[(false,eval b X.env)]:=by rfl):
  PI X (.Tuple elts k pt) (.Call (.Name "zip" p) [a,b] [] pos) (su X.K ta):=by
 intro pins s σ H R I h;refine Call_ (wQ I hg hm PyProof.Rows.boot_zip (PyProof.Rows.callWith_type1 (aZ (ha pos pins s σ H _ I h) λus s1 ⟨vs,H1,I1,r1,q1⟩=>?_) (by rw[hs,hs2]) (by rw[hs2];rfl)));obtain⟨l1,l2,xs,ys,e,g1,g2,q⟩:=q1;subst e;cases r1 with
 |cons r rr=>
  cases rr with
  |cons r' rr=>
   cases rr;cases r;cases r';obtain⟨its1,rv1,p1,_⟩:=I1.list g1;obtain⟨its2,rv2,p2,_⟩:=I1.list g2;have t1:l1<s1.heap.objs.size:=by obtain⟨o,e,_⟩:=p1.isList;exact Qk e
   have t2:l2<s1.heap.objs.size:=by obtain⟨o,e,_⟩:=p2.isList;exact Qk e
   refine call_zip_2 p1.isList p2.isList λh' hz hTI hTO hi1 hi2 hsz hk=>?_;refine wpAny_pyIter_zip (s:={s1 with heap:=h' }) hz ?_;refine⟨_,_,_,_,H1,rfl,I1.kept (t':=s1.toks) hk,GW (s1.heap.objs.size+4) (s1.heap.objs.size+2) (s1.heap.objs.size+3) s1.heap.objs.size (s1.heap.objs.size+1) l1 l2 ?_,⟨hz,hTI,⟨_,_,hTO⟩,hi1,hi2⟩,λb hb=>?_,q⟩
   .exact zipApart_new t1 t2
   .have hb':s1.heap.objs.size<=b:=by
     simp only[Qp,Q6,or_false]at hb;rcases hb with rfl|rfl|rfl|rfl|rfl
     .exact WE _ _
     .exact WE _ _
     .exact WE _ _
     .exact Qj _
     .exact WE _ _
    exact I1.fpOk hb' (I1.hok.fresh hb')
def Ft (hg:Gl X "enumerate")(hm:X.mg "enumerate"=none)(ha:PA X [a] ta)(hs:LN [a] X.env=[(false,eval a X.env)]:=by rfl):
  PI X (.Tuple elts k pt) (.Call (.Name "enumerate" p) [a] [] pos) (sK X.K 0 ta):=by
 intro pins s σ H R I h;refine Call_ (wQ I hg hm PyProof.Rows.boot_enumerate (PyProof.Rows.callWith_type1 (aZ (ha pos pins s σ H _ I h) λus s1 ⟨vs,H1,I1,r1,q1⟩=>?_) hs rfl));obtain⟨l,xs,e,g1,q⟩:=q1;subst e;cases r1 with
 |cons r rr=>
  cases rr;cases r;obtain⟨its1,rv1,p1,_⟩:=I1.list g1;have t1:l<s1.heap.objs.size:=by obtain⟨o,e,_⟩:=p1.isList;exact Qk e
  refine call_enumerate_list p1.isList λh' he hi hsz hk=>?_;refine wpAny_pyIter_enum (s:={s1 with heap:=h' }) he ?_;refine⟨_,_,_,_,H1,rfl,I1.kept (t':=s1.toks) hk,HB 0 (s1.heap.objs.size+1) s1.heap.objs.size l (Nat.succ_ne_self _) (QM (Vg t1)) (QM t1),⟨⟨_,he⟩,hi⟩,λb hb=>?_,q⟩;have hb':s1.heap.objs.size<=b:=by
   simp only[Qp,Q6,or_false]at hb;rcases hb with rfl|rfl
   .exact WE _ _
   .exact Qj _
  exact I1.fpOk hb' (I1.hok.fresh hb')
end
end L2
namespace L2
open PySem PySem.Spec PyProof.Rows
open AutoSeq1 (wpAny_loadPart')
end L2
namespace Mini
open PySem PySem.Spec PyProof.Rows L2
section
variable{cl:Nat->List Wd->Me->Rz}{K:Qb}
def aQ.updD{as:List Addr}{m:Me}{H:Hp}{D:Addr}{ys:List V}{o:HO}(S:aQ K as m H)(hD:H D=some (.lst ys))(hn:D∉as):aQ K as m (aJ H D o):=by
 refine⟨S.len,S.nd,λl b ob h1 h2=>?_⟩;have q:=S.obj l b ob h1 h2;have hb:b≠D:=by rintro rfl;exact hn (Qo h1)
 cases ob with
 |lst zs=>
  obtain⟨us,e,r⟩:=q;exact⟨us,by rw[zj hb];exact e,r.kp (Kp.upd hD)⟩
 |dct ks ws=>exact bx.mono (ob:=.dct ks ws) (Kp.upd hD) (λ_ _ e=>e) (λo e=>by rw[zj hb];exact e) q
def aQ.join{as:List Addr}{m:Me}{H:Hp}{D:Addr}{ys:List V}{acc:List Wd}(S:aQ K as m H)(hD:H D=some (.lst ys))(hn:D∉as)(R:ae K as H acc ys):aQ K (as++[D]) (m++[.lst acc]) H:=by
 have g:∀(l:Nat) (a:Addr),as[l]?=some a->(as++[D])[l]?=some a:=λl a e=>by
  rw[Qg (Qa.mp e).1];exact e
 have kp:Kp K H H:=⟨λ_ _ h=>h,λ_ _ h=>h⟩;refine⟨by simp[S.len],?_,λl b o h1 h2=>?_⟩
 .refine QA.mpr ⟨S.nd,by simp,λx hx y hy=>?_⟩;rw[QO.mp hy];rintro rfl;exact hn hx
 .by_cases hl:l<as.length
  .rw[Qg hl]at h1;rw[Qg (by rw[<-S.len];exact hl)]at h2;have q:=S.obj l b o h1 h2;cases o with
   |lst zs=>
    obtain⟨us,e,r⟩:=q;exact⟨us,e,bg kp g _ _ r⟩
   |dct ks ws=>exact bx.mono (ob:=.dct ks ws) kp g (λo e=>e) q
  .rw[Qi (by lia)]at h1;rw[Qi (by rw[<-S.len];lia)]at h2;have hz:l-as.length=0:=by
    cases hq:l-as.length with
    |zero=>rfl
    |succ k=>rw[hq]at h1;simp at h1
   rw[hz]at h1;rw[<-S.len,hz]at h2;simp at h1 h2;subst h1;subst h2;exact⟨ys,hD,bg kp g _ _ R⟩
def Step.updD{as as':List Addr}{H H':Hp}{D:Addr}{o:HO}(T:Step as H as' H')(hD:H D=none):Step as H as' (aJ H' D o):=
 ⟨T.pre,λb ob h hb=>by rw[zj (zr h hD)];exact T.frame b ob h hb,T.fresh⟩
def Step.join{as as':List Addr}{H H':Hp}{D:Addr}(T:Step as H as' H')(hD:H D=none):Step as H (as'++[D]) H':=by
 refine⟨?_,T.frame,λa ha=>?_⟩
 .obtain ⟨t,rfl⟩:=T.pre;exact⟨t++[D],by simp⟩
 .rcases QL.mp ha with z|z
  .exact T.fresh a z
  .rw[QO.mp z];exact .inr hD
def x5 (S:aQ K as' m H')(T:Step as H as' H')(h0:H D=none)(hD:H' D=some (.lst ys))(hn:D∉as')(R:ae K as' H' acc ys)(h:aq K as H Q (alloc m acc)):Q (.ref D) H':=by
 unfold Mini.alloc at h;split at h
 .refine h (as'++[D]) H' (.ref D) (T.join h0) (S.join hD hn R) (aG.mpr ⟨D,?_,rfl⟩);rw[<-S.len,Qi (Qj _)];simp
 .exact h.elim
structure cJ(K:Qb)(as:List Addr)(H:Hp)(D:Addr)(env:En)(σ:St)(as':List Addr)(m':Me)(acc:List Wd)(ys:List V)(H':Hp):Prop where
 T:Step as H as' H'
 S:aQ K as' m' H'
 hD:H' D=some (.lst ys)
 n:D∉as'
 R:ae K as' H' acc ys
 G:aF K as' H' env σ
def cJ.go{as:List Addr}{H:Hp}{D:Addr}{env:En}{σ:St}{as' as2:List Addr}{m' m2:Me}{acc:List Wd}{ys:List V}{H' H2:Hp}(M:cJ K as H D env σ as' m' acc ys H')(U:Step as' H' as2 H2)(S2:aQ K as2 m2 H2):cJ K as H D env σ as2 m2 acc ys H2:=
 ⟨M.T.trans U,S2,U.frame _ _ M.hD M.n,U.out M.hD M.n,M.R.mono M.S U,M.G.mono M.S U⟩
def cJ.push{as:List Addr}{H:Hp}{D:Addr}{env:En}{σ:St}{as':List Addr}{m':Me}{acc:List Wd}{ys:List V}{H':Hp}{w:Wd}{v:V}(M:cJ K as H D env σ as' m' acc ys H')(h0:H D=none)(R:ai K as' H' w v):
  cJ K as H D env σ as' m' (acc++[w]) (ys++[v]) (aJ H' D (.lst (ys++[v]))):=by
 have kp:Kp K H' (aJ H' D (.lst (ys++[v]))):=Kp.upd M.hD;exact⟨M.T.updD h0,M.S.updD M.hD M.n,zm,M.n,(M.R.append (.one R)).kp kp,M.G.kp kp⟩
set_option tactic.hygienic true in
def ve{elt cond:Ex}{tc:TT}(htc:∀σ H Q,xQ K (af cl cond) σ H Q->tc σ H Q){as1 as':List Addr}{H1 H':Hp}{D:Addr}{env ex:En}{σ sx:St}{m':Me}{acc:List Wd}{ys:List V}{Q:VK}{next:List Wd->Me->Rz}{N:List V->Hp->Prop}
  (h0:H1 D=none) (M:cJ K as1 H1 D env σ as' m' acc ys H') (G:aF K as' H' (env++ex) (σ++sx))
  (Pt:aq K as1 H1 Q ((af cl cond (env++ex) m').bind λb m1=>match b with
     |.bl true=>(af cl elt (env++ex) m1).bind λy m2=>if acc.length<av then next (acc++[y]) m2 else .no
     |.bl false=>next acc m1
     |_=>.no))
  (hN:∀as2 m2 acc' ys' H2,Kp K H' H2->(∀(l:Nat) (a:Addr),as'[l]?=some a->as2[l]?=some a)->cJ K as1 H1 D env σ as2 m2 acc' ys' H2->aq K as1 H1 Q (next acc' m2)->N ys' H2) :
  tc (σ++sx) H' λb H2=>if b=true then aM K (af cl elt) (σ++sx) H2 λy H3=>H3 D=some (.lst ys)/\ys.length<sizeLine/\N (ys++[y]) (aJ H3 D (.lst (ys++[y])))else N ys H2:=by
 refine htc _ _ _ ⟨as',env++ex,m',M.S,G,eZ Pt M.T λwb m2 as2 H2 vb T2 S2 R2 P2=>?_⟩;have M2:=M.go T2 S2;cases wb with
 |bl k=>
  obtain rfl:=ah.mp R2;refine⟨k,rfl,?_⟩;cases k with
  |false=>exact qW (hN as2 m2 acc ys H2 (M.S.kp T2) (λ_ _ e=>T2.get e) M2 P2)
  |true=>
   refine g9 ⟨as2,env++ex,m2,S2,G.mono M.S T2,eZ P2 M2.T λwy m3 as3 H3 vy T3 S3 R3 P3=>?_⟩;have M3:=M2.go T3 S3;have P3':aq K as1 H1 Q (if acc.length<av then next (acc++[wy]) m3 else .no):=P3;by_cases hl:acc.length<av
   .rw[M6 hl]at P3';refine⟨M3.hD,by rw[<-M3.R.length];exact Qe hl xb,hN as3 m3 (acc++[wy]) (ys++[vy]) _ ?_ (λ_ _ e=>T3.get (T2.get e)) (M3.push h0 R3) P3'⟩;have k1:=M.S.kp T2;have k2:=S2.kp T3;have k3:Kp K H3 (aJ H3 D (.lst (ys++[vy]))):=Kp.upd M3.hD;exact⟨λa vs q=>k3.t _ _ (k2.t _ _ (k1.t _ _ q)),λa vs q=>k3.f _ _ (k2.f _ _ (k1.f _ _ q))⟩
   .rw[M7 hl]at P3';exact P3'.elim
 |_=>exact P2.elim
def cJ.start{as as1:List Addr}{H H1:Hp}{D:Addr}{env:En}{σ:St}{m1:Me}(S1:aQ K as1 m1 H1)(G1:aF K as1 H1 env σ)(hD:H1 D=none):cJ K as1 H1 D env σ as1 m1 [] [] (aJ H1 D (.lst [])):=by
 have T:Step as1 H1 as1 (aJ H1 D (.lst [])):=Step.updD .refl hD;exact⟨T,S1.keep T λb _ o e=>by rw[zj (zr e hD)];exact e,zm,S1.new hD,ax.mpr rfl,G1.mono S1 T⟩
def nk(K:Qb)(as:List Addr)(J:It)(g:Nat->Me->Option (Option (Wd×Wd))):Prop:=
 ∀(as':List Addr) (m':Me) (H':Hp),(∀(l:Nat) (a:Addr),as[l]?=some a->as'[l]?=some a)->aQ K as' m' H'->∀i,
  (g i m'=some none->J.stop i H')/\∀x y,g i m'=some (some (x,y))->J.go i H'/\∀v H'',J.yld i H' v H''->∃x' y',Yp H' v H'' x' y'/\ai K as' H' x x'/\ai K as' H' y y'
def jG {cond:Ex}{tc:TT}(htc:∀σ H Q,xQ K (af cl cond) σ H Q->tc σ H Q)(hJ:nk K as1 J g)(S1:aQ K as1 m1 H1)(G1:aF K as1 H1 env σ)(P:aq K as1 H1 Q (yf (λu v m=>af cl cond (env++[some u]++[some v]) m) (λu v m=>af cl elt (env++[some u]++[some v]) m) g (av+1) 0 [] m1)):
  ∀D,H1 D=none->∃W:Nat->Nat->List V->Hp->Prop,(∃m,W 0 m [] (aJ H1 D (.lst [])))/\∀i m ys H,W i m ys H ->
   (J.stop i H/\Q (.ref D) H)\/(J.go i H/\∀v H',J.yld i H v H'->∃vs,iJ K v H' vs/\tc (σ++vs.map some) H' λb H2=>if b=true then aM K (af cl elt) (σ++vs.map some) H2 λy H3=>H3 D=some (.lst ys)/\ys.length<sizeLine/\∃m',m'<m/\W (i+1) m' (ys++[y]) (aJ H3 D (.lst (ys++[y])))
    else ∃m',m'<m/\W (i+1) m' ys H2):=by
 intro D hD;refine⟨λi n ys H'=>∃as' m' acc,(∀(l:Nat) (a:Addr),as1[l]?=some a->as'[l]?=some a)/\cJ K as1 H1 D env σ as' m' acc ys H' /\
  aq K as1 H1 Q (yf (λu v m=>af cl cond (env++[some u]++[some v]) m) (λu v m=>af cl elt (env++[some u]++[some v]) m) g n i acc m'),⟨av+1,as1,m1,[],λ_ _ e=>e,cJ.start (as:=as1) (H:=H1) S1 G1 hD,P⟩,?_⟩
 rintro i n ys H' ⟨as',m',acc,hl,M,Pi⟩;cases n with
 |zero=>exact Pi.elim
 |succ n=>
  unfold yf at Pi;obtain⟨q1,q2⟩:=hJ as' m' H' hl M.S i;cases e:g i m' with
  |none=>rw[e]at Pi;exact Pi.elim
  |some o=>
   rw[e]at Pi;cases o with
   |none=>exact .inl ⟨q1 e,x5 M.S M.T hD M.hD M.n M.R Pi⟩
   |some p=>
    obtain⟨x,y⟩:=p;simp only[]at Pi;obtain⟨go,yl⟩:=q2 x y e;refine .inr ⟨go,λv H'' hy=>?_⟩;obtain⟨x',y',⟨T,hT,rfl,rfl⟩,Rx,Ry⟩:=yl v H'' hy;refine⟨[x',y'],⟨T,rfl,cf.of zm,rfl⟩,?_⟩;have U:Step as' H' as' (aJ H' T (.tup [x',y'])):=Step.updD .refl hT;have S2:aQ K as' m' (aJ H' T (.tup [x',y'])):=M.S.keep U λb _ o e=>by rw[zj (zr e hT)];exact e
    have M2:=M.go U S2;have G2:aF K as' (aJ H' T (.tup [x',y'])) (env++[some x,some y]) (σ++[x',y'].map some):=by
     have:=(M2.G.push (Rx.mono M.S U)).push (Ry.mono M.S U);simpa using this
    refine ve htc (ex:=[some x,some y]) (next:=λacc m=>yf (λu v m=>af cl cond (env++[some u]++[some v]) m) (λu v m=>af cl elt (env++[some u]++[some v]) m) g n (i+1) acc m)
     (N:=λzs H2=>∃n',n'<n+1/\∃as' m' acc,(∀(l:Nat) (a:Addr),as1[l]?=some a->as'[l]?=some a)/\cJ K as1 H1 D env σ as' m' acc zs H2/\aq K as1 H1 Q (yf (λu v m=>af cl cond (env++[some u]++[some v]) m) (λu v m=>af cl elt (env++[some u]++[some v]) m) g n' (i+1) acc m')) hD M2 G2 (by rw[show env++[some x]++[some y]=env++[some x,some y]from by simp]at Pi;exact Pi) ?_
    intro as2 m2 acc' ys' H2 kp gg M3 P3;exact⟨n,Wh _,as2,m2,acc',λl a e=>gg _ _ (hl l a e),M3,P3⟩
def IK (ha:as[la]?=some a)(hb:as[lb]?=some b):nk K as (rG K a b) (zA .zip (.ref la) (.ref lb)):=by
 intro as' m' H' hl S i;simp only[zA];cases e1:zz m' la with
 |none=>exact⟨λz=>by simp at z,λx y z=>by simp at z⟩
 |some xs=>
  cases e2:zz m' lb with
  |none=>exact⟨λz=>by simp at z,λx y z=>by simp at z⟩
  |some ys=>
   obtain⟨a',us,ha',eH,RL⟩:=ya S (zK e1);rw[hl _ _ ha]at ha';cases ha';obtain⟨b',vs,hb',eH2,RL2⟩:=ya S (zK e2);rw[hl _ _ hb]at hb';cases hb';simp only;cases ex:xs[i]? with
   |none=>
    refine⟨λ_=>⟨us,vs,bn.of eH,bn.of eH2,.inl ?_⟩,λx y z=>by simp at z⟩;rw[<-RL.length];exact QT.mp ex
   |some x=>
    cases ey:ys[i]? with
    |none=>
     refine⟨λ_=>⟨us,vs,bn.of eH,bn.of eH2,.inr ?_⟩,λx y z=>by simp at z⟩;rw[<-RL2.length];exact QT.mp ey
    |some y=>
     refine⟨λz=>by simp at z,λx2 y2 z=>?_⟩;simp only[Option.some.injEq,Prod.mk.injEq]at z;obtain⟨rfl,rfl⟩:=z;obtain⟨u0,hu0,Ru⟩:=RL.get ex;obtain⟨v0,hv0,Rv⟩:=RL2.get ey;refine⟨⟨us,vs,u0,v0,bn.of eH,bn.of eH2,hu0,hv0⟩,λv H'' hy=>?_⟩;obtain⟨p,q,yp,k1,k2⟩:=hy;have:=k1 us (bn.of eH);rw[hu0]at this;cases this;have:=k2 vs (bn.of eH2);rw[hv0]at this;cases this;exact⟨_,_,yp,Ru,Rv⟩
def IV (ha:as[la]?=some a):nk K as (rJ K c a) (zA .enum (.ref la) (.int (c:Int))):=by
 intro as' m' H' hl S i;simp only[zA];cases e1:zz m' la with
 |none=>exact⟨λz=>by simp at z,λx y z=>by simp at z⟩
 |some xs=>
  obtain⟨a',us,ha',eH,RL⟩:=ya S (zK e1);rw[hl _ _ ha]at ha';cases ha';simp only;cases ex:xs[i]? with
  |none=>
   refine⟨λ_=>⟨us,bn.of eH,?_⟩,λx y z=>by simp at z⟩;rw[<-RL.length];exact QT.mp ex
  |some x=>
   refine⟨λz=>by simp at z,λx2 y2 z=>?_⟩;simp only[QJ,Option.some.injEq,Prod.mk.injEq]at z;obtain⟨rfl,rfl⟩:=z;obtain⟨u0,hu0,Ru⟩:=RL.get ex;refine⟨⟨us,u0,bn.of eH,hu0⟩,λv H'' hy=>?_⟩;obtain⟨p,yp,k1⟩:=hy;have:=k1 us (bn.of eH);rw[hu0]at this;cases this;exact⟨_,_,yp,aa.mpr (by congr 1;lia),Ru⟩
def di:(Rz.ok w m).bind f=f w m:=rfl
def wF (h:g i m=none):yf c e g (k+1) i acc m=.no:=by
 unfold yf;rw[h]
set_option tactic.hygienic true in
def IJ (e:zA .zip w w2 i m=some o):∃la lb xs ys,w=.ref la/\w2=.ref lb/\zz m la=some xs/\zz m lb=some ys:=by
 unfold zA at e;split at e
 .next la lb _=>
  split at e
  .next xs ys e1 e2=>exact⟨la,lb,xs,ys,rfl,rfl,e1,e2⟩
  .cases e
 .contradiction
 .contradiction
 .contradiction
 .cases e
set_option tactic.hygienic true in
def IU (e:zA .enum w w2 i m=some o):∃la xs,w=.ref la/\zz m la=some xs:=by
 unfold zA at e;split at e
 .next h=>cases h
 .next la s _=>
  split at e
  .next xs e1=>exact⟨la,xs,rfl,e1⟩
  .cases e
 .contradiction
 .contradiction
 .cases e
def jH {cond:Ex}(htc:∀σ H Q,xQ K (af cl cond) σ H Q->tc σ H Q)(h:aM K (af cl (.compP .zip elt a b cond)) σ H Q):
  kW (iJ K) (su K (qT (aM K (af cl a)) (qT (aM K (af cl b)) i4))) tc (aM K (af cl elt)) σ H Q:=by
 obtain⟨as,env,m,S,G,P⟩:=h;have P':aq K as H Q ((af cl a env m).bind λx m1=>(af cl b env m1).bind λy m2=>
  yf (λu v m=>af cl cond (env++[some u]++[some v]) m) (λu v m=>af cl elt (env++[some u]++[some v]) m) (zA .zip x y) (av+1) 0 [] m2):=P
 refine⟨as,env,m,S,G,eZ P' .refl λw m1 as1 H1 v T1 S1 R1 P1=>?_⟩;refine⟨as1,env,m1,S1,G.mono S T1,eZ P1 T1 λw2 m2 as2 H2 v2 T2 S2 R2 P2=>?_⟩;have P3:=aq.step P2 (T1.trans T2);have G2:=(G.mono S T1).mono S1 T2;have look:∃la lb xs ys,w=.ref la/\w2=.ref lb/\zz m2 la=some xs/\zz m2 lb=some ys:=by
  cases e:zA .zip w w2 0 m2 with
  |none=>rw[wF e]at P3;exact P3.elim
  |some o=>exact IJ e
 obtain⟨la,lb,xs,ys,rfl,rfl,e1,e2⟩:=look;obtain⟨a1,ha1,rfl⟩:=aG.mp R1;obtain⟨b1,hb1,rfl⟩:=aG.mp R2;have ha2:=T2.get ha1;obtain⟨a',us,ha',eH,RL⟩:=ya S2 (zK e1);rw[ha2]at ha';cases ha';obtain⟨b',vs,hb',eH2,RL2⟩:=ya S2 (zK e2);rw[hb1]at hb';cases hb';exact⟨a1,b1,us,vs,rfl,bn.of eH,bn.of eH2,jG htc (IK ha2 hb1) S2 G2 P3⟩
def II {c:Nat}(hz:z=(c:Int)){cond:Ex}(htc:∀σ H Q,xQ K (af cl cond) σ H Q->tc σ H Q)(h:aM K (af cl (.compP .enum elt a (.lit (.int z)) cond)) σ H Q):
  kW (iJ K) (sK K c (qT (aM K (af cl a)) i4)) tc (aM K (af cl elt)) σ H Q:=by
 subst hz;obtain⟨as,env,m,S,G,P⟩:=h;have hl:∀m1,af cl (.lit (.int (c:Int))) env m1=.ok (.int (c:Int)) m1:=λ_=>rfl;have P':aq K as H Q ((af cl a env m).bind λx m1=>(af cl (.lit (.int (c:Int))) env m1).bind λy m2=>
  yf (λu v m=>af cl cond (env++[some u]++[some v]) m) (λu v m=>af cl elt (env++[some u]++[some v]) m) (zA .enum x y) (av+1) 0 [] m2):=P
 refine⟨as,env,m,S,G,eZ P' .refl λw m1 as1 H1 v T1 S1 R1 P1=>?_⟩;rw[hl,di]at P1;have P3:=aq.step P1 T1;have look:∃la xs,w=.ref la/\zz m1 la=some xs:=by
  cases e:zA .enum w (.int (c:Int)) 0 m1 with
  |none=>rw[wF e]at P3;exact P3.elim
  |some o=>exact IU e
 obtain⟨la,xs,rfl,e1⟩:=look;obtain⟨a1,ha1,rfl⟩:=aG.mp R1;obtain⟨a',us,ha',eH,RL⟩:=ya S1 (zK e1);rw[ha1]at ha';cases ha';exact⟨a1,us,rfl,bn.of eH,jG htc (IV ha1) S1 (G.mono S T1) P3⟩
set_option tactic.hygienic true in
def jI (e:zA .prs w (.int c) i m=some o):∃l xs,w=.ref l/\zz m l=some xs/\((xs[i]?=none/\o=none)\/∃x y,xs[i]?=some (.tup [x,y])/\o=some (x,y)):=by
 cases w with
 |ref l=>
  have e':(match zz m l with
   |some xs=>match xs[i]? with
    |none=>some none
    |some w=>(iF w).map some
   |none=>none)=some o:=e
  cases e1:zz m l with
  |none=>rw[e1]at e';cases e'
  |some xs=>
   simp only[e1]at e';refine⟨l,xs,rfl,e1,?_⟩;cases e2:xs[i]? with
   |none=>simp only[e2]at e';cases e';exact .inl ⟨rfl,rfl⟩
   |some w=>
    simp only[e2]at e';obtain⟨p,hp,rfl⟩:=QK.mp e'
    right
    unfold iF at hp;split at hp
    .next x y=>cases hp;exact⟨x,y,rfl,rfl⟩
    .cases hp
 |_=>cases e
def IH {cond:Ex}(htc:∀σ H Q,xQ K (af cl cond) σ H Q->tc σ H Q)(h:aM K (af cl (.compP .prs elt a (.lit (.int 0)) cond)) σ H Q):
  kW (iJ K) (hU K (af cl a)) tc (aM K (af cl elt)) σ H Q:=by
 obtain⟨as,env,m,S,G,P⟩:=h;refine⟨as,env,m,S,G,?_⟩;have hl:∀m1,af cl (.lit (.int 0)) env m1=.ok (.int 0) m1:=λ_=>rfl;have P':aq K as H Q ((af cl a env m).bind λx m1=>(af cl (.lit (.int 0)) env m1).bind λy m2=>
  yf (λu v m=>af cl cond (env++[some u]++[some v]) m) (λu v m=>af cl elt (env++[some u]++[some v]) m) (zA .prs x y) (av+1) 0 [] m2):=P
 clear P;cases hr:af cl a env m with
 |no=>rw[hr]at P';exact P'
 |exc c w m'=>rw[hr]at P';exact P'
 |ok w m1=>
  rw[hr,di,hl,di]at P';have P0:=P';cases e0:zA .prs w (.int 0) 0 m1 with
  |none=>rw[wF e0]at P0;exact P0.elim
  |some o0=>
   obtain⟨l,xs0,rfl,e00,_⟩:=jI e0;refine⟨?_,λas1 H1 J T1 S1 hI D hD=>?_⟩
   .show (zz m1 l).isSome=true;rw[e00];rfl
   .obtain ⟨a,ha,rfl⟩:=hI;have Pc1:=aq.step P0 T1;refine⟨λi n ys H'=>∃as' m' acc,as'[l]?=some a/\cJ K as1 H1 D env σ as' m' acc ys H' /\
     aq K as1 H1 Q (yf (λu v m=>af cl cond (env++[some u]++[some v]) m) (λu v m=>af cl elt (env++[some u]++[some v]) m) (zA .prs (.ref l) (.int 0)) n i acc m'),⟨av+1,as1,m1,[],ha,cJ.start (as:=as) (H:=H) S1 (G.mono S T1) hD,Pc1⟩,?_⟩
    rintro i n ys H' ⟨as',m',acc,hl,M,Pi⟩;cases n with
    |zero=>exact Pi.elim
    |succ n=>
     cases e:zA .prs (.ref l) (.int 0) i m' with
     |none=>rw[wF e]at Pi;exact Pi.elim
     |some o=>
      unfold yf at Pi;rw[e]at Pi;obtain⟨l',xs,hl',e1,hc⟩:=jI e;cases hl';obtain⟨a',vs,ha',eH,RL⟩:=ya M.S (zK e1);rw[hl]at ha';cases ha';rcases hc with⟨ex,rfl⟩|⟨x,y,ex,rfl⟩
      .have hle:vs.length<=i:=by rw[<-RL.length];exact QT.mp ex
       exact .inl ⟨⟨vs,bn.of eH,hle⟩,x5 M.S M.T hD M.hD M.n M.R Pi⟩
      .obtain ⟨v0,hv0,Rx⟩:=RL.get ex;refine .inr ⟨⟨vs,v0,bn.of eH,hv0⟩,λv H'' hy=>?_⟩;obtain⟨rfl,hy⟩:=hy;have:=hy vs (bn.of eH);rw[hv0]at this;cases this;obtain⟨t,us,rfl,hq,R2⟩:=aj.mp Rx;obtain⟨x',y',rfl,Ra,Rb⟩:=qh R2;refine⟨[x',y'],⟨t,rfl,hq,rfl⟩,?_⟩;have G2:aF K as' H'' (env++[some x,some y]) (σ++[x',y'].map some):=by
        have:=(M.G.push Ra).push Rb;simpa using this
       refine ve htc (ex:=[some x,some y]) (next:=λacc m=>yf (λu v m=>af cl cond (env++[some u]++[some v]) m) (λu v m=>af cl elt (env++[some u]++[some v]) m) (zA .prs (.ref l) (.int 0)) n (i+1) acc m)
        (N:=λzs H2=>∃n',n'<n+1/\∃as' m' acc,as'[l]?=some a/\cJ K as1 H1 D env σ as' m' acc zs H2/\aq K as1 H1 Q (yf (λu v m=>af cl cond (env++[some u]++[some v]) m) (λu v m=>af cl elt (env++[some u]++[some v]) m) (zA .prs (.ref l) (.int 0)) n' (i+1) acc m')) hD M G2 (by simp only[]at Pi;rw[show env++[some x]++[some y]=env++[some x,some y]from by simp]at Pi;exact Pi) ?_
       intro as2 m2 acc' ys' H2 kp g M2 P2;exact⟨n,Wh _,as2,m2,acc',g _ _ hl,M2,P2⟩
def kH {cond:Ex}(htc:∀σ H Q,xQ K (af cl cond) σ H Q->tc σ H Q)(h:aM K (af cl (.comp elt it cond)) σ H Q):
  kW ly (hU K (af cl it)) tc (aM K (af cl elt)) σ H Q:=by
 obtain⟨as,env,m,S,G,P⟩:=h;refine⟨as,env,m,S,G,?_⟩;have P':aq K as H Q ((af cl it env m).bind λx m1=>match x with
  |.tup xs=>xN (λx m=>af cl cond (env++[some x]) m) (λx m=>af cl elt (env++[some x]) m) xs [] m1
  |.rol xs=>xN (λx m=>af cl cond (env++[some x]) m) (λx m=>af cl elt (env++[some x]) m) xs [] m1
  |.ref l=>xO (λx m=>af cl cond (env++[some x]) m) (λx m=>af cl elt (env++[some x]) m) l (av+1) 0 [] m1
  |_=>.no):=P
 clear P;cases hr:af cl it env m with
 |no=>rw[hr]at P';exact P'
 |exc c w m'=>rw[hr]at P';exact P'
 |ok w m1=>
  rw[hr]at P';have start:∀{as1:List Addr}{H1:Hp}{D:Addr},Step as H as1 H1->aQ K as1 m1 H1->H1 D=none->cJ K as1 H1 D env σ as1 m1 [] [] (aJ H1 D (.lst [])):=λ{as1 H1 D} T1 S1 hD=>cJ.start (as:=as) (H:=H) S1 (G.mono S T1) hD
  -- over items that stay
  have seqs:∀(xs:List Wd),aq K as H Q (xN (λx m=>af cl cond (env++[some x]) m) (λx m=>af cl elt (env++[some x]) m) xs [] m1) ->
    ∀as1 H1 J,Step as H as1 H1->aQ K as1 m1 H1->lr K as1 H1 J xs->∀D,H1 D=none->∃W:Nat->Nat->List V->Hp->Prop,(∃m,W 0 m [] (aJ H1 D (.lst [])))/\∀i m ys H,W i m ys H ->
     (J.stop i H/\Q (.ref D) H)\/(J.go i H/\∀v H',J.yld i H v H'->∃vs,ly v H' vs/\tc (σ++vs.map some) H' λb H2=>if b=true then aM K (af cl elt) (σ++vs.map some) H2 λy H3=>H3 D=some (.lst ys)/\ys.length<sizeLine/\∃m',m'<m/\W (i+1) m' (ys++[y]) (aJ H3 D (.lst (ys++[y])))
      else ∃m',m'<m/\W (i+1) m' ys H2):=by
   intro xs Pc as1 H1 J T1 S1 hI D hD;obtain⟨vs,ok,hJ,iN,RL,stab⟩:=hI;have Pc1:=aq.step Pc T1;have hlen:=RL.length;refine⟨λi n ys H'=>∃as' m' acc,i<=xs.length/\n=xs.length-i/\cJ K as1 H1 D env σ as' m' acc ys H'/\ok H'/\ae K as' H' xs vs /\
    aq K as1 H1 Q (xN (λx m=>af cl cond (env++[some x]) m) (λx m=>af cl elt (env++[some x]) m) (xs.drop i) acc m'),
    ⟨xs.length,as1,m1,[],WS _,rfl,start T1 S1 hD,stab _ _ (S1.kp (start T1 S1 hD).T) iN,RL.mono S1 (start T1 S1 hD).T,Pc1⟩,?_⟩
   rintro i n ys H' ⟨as',m',acc,hi,rfl,M,okH,RL',Pi⟩;by_cases hlt:i<xs.length
   .refine .inr ⟨hJ.go i H' okH (by rw[<-hlen];exact hlt),λv H'' hy=>?_⟩;obtain⟨rfl,hv⟩:=hJ.yld i H' v H'' okH (by rw[<-hlen];exact hlt) hy;obtain⟨v',hv',Rx⟩:=RL'.get (i:=i) (x:=xs[i]) (by simp[hlt]);rw[hv]at hv';cases hv';rw[WP hlt]at Pi;refine⟨[v],rfl,ve htc (sx:=[some v]) (next:=λacc m=>xN (λx m=>af cl cond (env++[some x]) m) (λx m=>af cl elt (env++[some x]) m) (xs.drop (i+1)) acc m) (N:=λzs H2=>∃n',n'<xs.length-i/\∃as' m' acc,i+1<=xs.length/\n'=xs.length-(i+1)/\cJ K as1 H1 D env σ as' m' acc zs H2/\ok H2/\ae K as' H2 xs vs/\aq K as1 H1 Q (xN (λx m=>af cl cond (env++[some x]) m) (λx m=>af cl elt (env++[some x]) m) (xs.drop (i+1)) acc m')) hD M (M.G.push Rx) Pi ?_⟩;intro as2 m2 acc' ys' H2 kp g M2 P2;exact⟨xs.length-(i+1),by lia,as2,m2,acc',hlt,rfl,M2,stab _ _ kp okH,bg kp g _ _ RL',P2⟩
   .have e:i=xs.length:=by lia
    subst e;rw[List.drop_length]at Pi;exact .inl ⟨hJ.stop _ H' okH (by lia),x5 M.S M.T hD M.hD M.n M.R Pi⟩
  cases w with
  |tup xs=>exact⟨rfl,λas1 H1 J T1 S1 hI=>seqs xs P' as1 H1 J T1 S1 hI⟩
  |rol xs=>exact⟨rfl,λas1 H1 J T1 S1 hI=>seqs xs P' as1 H1 J T1 S1 hI⟩
  |ref l=>
   have P2:aq K as H Q (xO (λx m=>af cl cond (env++[some x]) m) (λx m=>af cl elt (env++[some x]) m) l (av+1) 0 [] m1):=P';refine⟨?_,λas1 H1 J T1 S1 hI D hD=>?_⟩
   .show (zz m1 l).isSome=true;cases e:zz m1 l with
    |some xs=>rfl
    |none=>
     unfold xO at P2;rw[e]at P2;exact P2.elim
   .obtain ⟨a,ha,rfl⟩:=hI;have Pc1:=aq.step P2 T1;refine⟨λi n ys H'=>∃as' m' acc,as'[l]?=some a/\cJ K as1 H1 D env σ as' m' acc ys H' /\
     aq K as1 H1 Q (xO (λx m=>af cl cond (env++[some x]) m) (λx m=>af cl elt (env++[some x]) m) l n i acc m'),⟨av+1,as1,m1,[],ha,start T1 S1 hD,Pc1⟩,?_⟩
    rintro i n ys H' ⟨as',m',acc,hl,M,Pi⟩;cases n with
    |zero=>exact Pi.elim
    |succ n=>
     unfold xO at Pi;cases e:zz m' l with
     |none=>rw[e]at Pi;exact Pi.elim
     |some xs=>
      rw[e]at Pi;simp only[]at Pi;obtain⟨a',vs,ha',eH,RL⟩:=ya M.S (zK e);rw[hl]at ha';cases ha';cases ex:xs[i]? with
      |none=>
       rw[ex]at Pi;have hle:vs.length<=i:=by rw[<-RL.length];exact QT.mp ex
       exact .inl ⟨⟨vs,bn.of eH,hle⟩,x5 M.S M.T hD M.hD M.n M.R Pi⟩
      |some x=>
       rw[ex]at Pi;obtain⟨v0,hv0,Rx⟩:=RL.get ex;refine .inr ⟨⟨vs,v0,bn.of eH,hv0⟩,λv H'' hy=>?_⟩;obtain⟨rfl,hy⟩:=hy;have:=hy vs (bn.of eH);rw[hv0]at this;cases this;refine⟨[v0],rfl,ve htc (sx:=[some v0]) (next:=λacc m=>xO (λx m=>af cl cond (env++[some x]) m) (λx m=>af cl elt (env++[some x]) m) l n (i+1) acc m) (N:=λzs H2=>∃n',n'<n+1/\∃as' m' acc,as'[l]?=some a/\cJ K as1 H1 D env σ as' m' acc zs H2/\aq K as1 H1 Q (xO (λx m=>af cl cond (env++[some x]) m) (λx m=>af cl elt (env++[some x]) m) l n' (i+1) acc m')) hD M (M.G.push Rx) Pi ?_⟩;intro as2 m2 acc' ys' H2 kp g M2 P2;exact⟨n,Wh _,as2,m2,acc',g _ _ hl,M2,P2⟩
  |non=>exact P'.elim
  |bl k=>exact P'.elim
  |int i=>exact P'.elim
  |str s=>exact P'.elim
end
section
variable{K:Qb}{as:List Addr}{H H':Hp}{m:Me}{Q:VK}
def Ag (h:fM y=some k)(R:ai K as H y v):∃a,v=.ref a/\cf K H a (k.map V.int):=by
 cases y with
 |tup ws=>
  obtain⟨a,vs,rfl,q,r⟩:=aj.mp R;rw[kF h r]at q;exact⟨a,rfl,q⟩
 |_=>cases h
theorem tN:∀{xs:List TK}{ws:List Wd}{vs:List V}{q:List Int}{w:Wd},ae K as H ws vs->ay vs (xs.map (·.2.2))->dD (xs.map (·.1)) ws q=some w->∃p v,MO xs q=some p/\RelV v p.2/\ai K as H w v
 |[],ws,vs,q,w,r,rv,h=>by cases ws<;>cases h
 |x::xs,ws,vs,q,w,r,rv,h=>by
  cases ws with
  |nil=>cases h
  |cons y ws=>
   obtain⟨v,vs',rfl,r1,r2⟩:=am.mp r;cases rv with
   |cons p1 p2=>
    have h':(if x.1=q then some y else dD (xs.map (·.1)) ws q)=some w:=h;by_cases e:x.1=q
    .rw[M6 e]at h';cases h';exact⟨x.2,v,by simp[MO,e],p1,r1⟩
    .rw[M7 e]at h';obtain⟨p,v',h1,h2,h3⟩:=tN r2 p2 h';exact⟨p,v',by simpa [MO,Wr,e]using h1,h2,h3⟩
def Fs (S:aQ K as m H)(R:ai K as H x v)(R':ai K as H y u)(h:aq K as H Q (gB x y m)):sQ K v u H Q:=by
 unfold gB at h;cases x with
 |ref l=>
  obtain⟨a,ha,rfl⟩:=aG.mp R;dsimp only at h;cases e:m[l]? with
  |none=>rw[e]at h;exact h.elim
  |some o=>
   cases o with
   |lst ys=>rw[e]at h;exact h.elim
   |dct ks ws=>
    rw[e]at h;dsimp only at h;obtain⟨a',xs,vs,ha',td,rfl,r,rv,nd⟩:=nl S e;rw[ha]at ha';cases ha';cases ek:fM y with
    |none=>rw[ek]at h;exact h.elim
    |some k=>
     rw[ek]at h;obtain⟨b,rfl,qb⟩:=Ag ek R';cases ew:dD (xs.map (·.1)) ws k with
     |none=>simp only[W2,ew]at h;exact h.elim
     |some w=>
      simp only[W2,ew]at h;obtain⟨p,z,h1,h2,h3⟩:=tN r rv ew;exact⟨a,b,k,xs,p,rfl,rfl,qb,td,h1,z,h2,h.ok S h3⟩
 |_=>exact h.elim
def IT:(storedH xs q a u).map (·.1)=wS (xs.map (·.1)) q:=by
 unfold storedH wS;by_cases h:q∈xs.map (·.1)
 .rw[M6 (bT.mpr h),M6 h,keys_map_putAt]
 .rw[M7 (λz=>h (bT.mp z)),M7 h,Wv];rfl
def IS (h:ks.Nodup):(wS ks q).Nodup:=by
 unfold wS;by_cases z:q∈ks
 .rw[M6 z];exact h
 .rw[M7 z];refine QA.mpr ⟨h,by simp,λx hx y hy e=>?_⟩;rw[QO.mp hy]at e;exact z (e▸hx)
theorem u8 (Rw:ai K as H w v):∀{ks:List (List Int)}{ws:List Wd}{vs:List V},ae K as H ws vs->ae K as H (yx ks ws q w) (yx ks vs q v)
 |[],ws,vs,r=>r.append (.one Rw)
 |k::ks,ws,vs,r=>by
  cases ws with
  |nil=>obtain rfl:=ax.mp r;exact ae.one Rw
  |cons x ws=>
   obtain⟨y,vs',rfl,r1,r2⟩:=am.mp r;show ae K as H (if k=q then w::ws else x::yx ks ws q w) (if k=q then v::vs' else y::yx ks vs' q v);by_cases e:k=q
   .rw[M6 e,M6 e];exact am.mpr ⟨v,vs',rfl,Rw,r2⟩
   .rw[M7 e,M7 e];exact am.mpr ⟨y,_,rfl,r1,u8 Rw r2⟩
theorem uZ:∀{ks:List (List Int)}{vs:List V},q∉ks->ks.length=vs.length->yx ks vs q v=vs++[v]
 |[],vs,_,_=>rfl
 |k::ks,[],_,h=>by cases h
 |k::ks,x::vs,hq,h=>by
  show(if k=q then v::vs else x::yx ks vs q v)=_;rw[M7 (λe=>hq (by simp[e])),uZ (λz=>hq (by simp[z])) (by simpa using h)];rfl
theorem uE (ru:RelV v u):∀{xs:List TK}{vs:List V},(xs.map (·.1)).Nodup->q∈xs.map (·.1)->ay vs (xs.map (·.2.2))->ay (yx (xs.map (·.1)) vs q v) ((xs.map (putAt q u)).map (·.2.2))
 |[],vs,_,h,_=>by simp at h
 |x::xs,vs,nd,h,r=>by
  rw[QR,QF]at nd;cases r with
  |@cons y _ vs' _ p1 p2=>
   show ay (if x.1=q then v::vs' else y::yx (xs.map (·.1)) vs' q v) ((putAt q u x).2.2::(xs.map (putAt q u)).map (·.2.2));by_cases e:x.1=q
   .rw[M6 e,map_putAt_of_not_mem xs q u (e▸nd.1)];unfold putAt;rw[M6 e];exact .cons ru p2
   .rw[M7 e];unfold putAt;rw[M7 e];exact .cons p1 (uE ru nd.2 (by simpa [Ne.symm e]using h) p2)
def IR (ru:RelV v u)(nd:(xs.map (·.1)).Nodup)(r:ay vs (xs.map (·.2.2))):ay (yx (xs.map (·.1)) vs q v) ((storedH xs q a u).map (·.2.2)):=by
 unfold storedH;by_cases h:q∈xs.map (·.1)
 .rw[M6 (bT.mpr h)];exact uE ru nd h r
 .rw[M7 (λz=>h (bT.mp z)),Wv];rw[uZ h (by have:=r.length;simp at this ⊢;lia)];exact r.append (.cons ru .nil)
def IG {q:List Int}:∀x∈storedH xs q a u,(∃y∈xs,y.1=x.1/\y.2.1=x.2.1)\/(x.1=q/\x.2.1=a):=λx hx=>by
 unfold storedH at hx;split at hx
 .obtain ⟨y,hy,rfl⟩:=Wg.mp hx;refine .inl ⟨y,hy,?_⟩;unfold putAt;split<;>exact⟨rfl,rfl⟩
 .rcases QL.mp hx with z|z
  .exact .inl ⟨x,z,rfl,rfl⟩
  .rw[QO.mp z];exact .inr ⟨rfl,rfl⟩
def aQ.setD (S:aQ K as m H)(ha:as[l]?=some a)(hm:m[l]?=some (.dct ks ws))(td:jw K H a xs)(ek:xs.map (·.1)=ks)(r:ae K as H ws vs)(rv:ay vs (xs.map (·.2.2)))(nd:ks.Nodup)(qb:cf K H b (q.map V.int))(Rw:ai K as H w v)(ru:RelV v u):
  Step as H as (aJ H a (wL a (storedH xs q b u)))/\aQ K as (m.set l (.dct (wS ks q) (yx ks ws q w))) (aJ H a (wL a (storedH xs q b u))):=by
 have hin:a∈as:=Qo ha;have T:Step as H as (aJ H a (wL a (storedH xs q b u))):=⟨⟨[],by simp⟩,λc o h hb=>by
  rw[zj (by rintro rfl;exact hb hin)];exact h,λc hb=>.inl hb⟩
 have kp:Kp K H (aJ H a (wL a (storedH xs q b u))):=iX td.1 trivial;refine⟨T,⟨by simp[S.len],S.nd,λk c o h1 h2=>?_⟩⟩;by_cases hk:k=l
 .subst hk;rw[ha]at h1;cases h1;rw[QQ (Qa.mp hm).1]at h2;cases h2;subst ek;refine⟨storedH xs q b u,yx (xs.map (·.1)) vs q v,⟨zm,λx hx=>?_⟩,IT,(u8 Rw r).kp kp,IR ru nd rv,IS nd⟩;rcases IG x hx with⟨y,hy,e1,e2⟩|⟨e1,e2⟩
  .rw[<-e1,<-e2];exact kp.t _ _ (td.2 y hy)
  .rw[e1,e2];exact kp.t _ _ qb
 .rw[Qu (Ne.symm hk)]at h2;have q':=S.obj k c o h1 h2;have hb:c≠a:=by
   rintro rfl;obtain⟨i1,e1⟩:=Qa.mp h1;obtain⟨i2,e2⟩:=Qa.mp ha;exact hk ((WD S.nd).mp (e1.trans e2.symm))
  exact bx.mono kp (λ_ _ e=>e) (λo e=>by rw[zj hb];exact e) q'
def aQ.updK(S:aQ K as m H)(k:Kp K H H')(e:∀a∈as,∀o,H a=some o->H' a=some o):aQ K as m H':=
 ⟨S.len,S.nd,λl b o h1 h2=>bx.mono k (λ_ _ e=>e) (e b (Qo h1)) (S.obj l b o h1 h2)⟩
def aQ.newD (S:aQ K as m H)(hp:H p=none):Step as H (as++[p]) (aJ H p (wL p []))/\aQ K (as++[p]) (m++[.dct [] []]) (aJ H p (wL p [])):=by
 have hn:=S.new hp;have T:Step as H (as++[p]) (aJ H p (wL p [])):=⟨⟨[p],rfl⟩,λb o h _=>by rw[zj (zr h hp)];exact h,λb hb=>by
  rcases QL.mp hb with z|z
  .exact .inl z
  .exact .inr (by rw[QO.mp z];exact hp)⟩
 refine⟨T,⟨by simp[S.len],?_,λl b o h1 h2=>?_⟩⟩
 .refine QA.mpr ⟨S.nd,by simp,λx hx y hy=>?_⟩;rw[QO.mp hy];rintro rfl;exact hn hx
 .by_cases hl:l<as.length
  .rw[Qg hl]at h1;rw[Qg (by rw[<-S.len];exact hl)]at h2;exact bx.mono (S.kp T) (λ_ _ e=>T.get e) (λo e=>by rw[zj (zr e hp)];exact e) (S.obj l b o h1 h2)
  .rw[Qi (by lia)]at h1;rw[Qi (by rw[<-S.len];lia)]at h2;have hz:l-as.length=0:=by
    cases hq:l-as.length with
    |zero=>rfl
    |succ k=>rw[hq]at h1;simp at h1
   rw[hz]at h1;rw[<-S.len,hz]at h2;simp at h1 h2;subst h1;subst h2;exact⟨[],[],⟨zm,λx hx=>by simp at hx⟩,rfl,ax.mpr rfl,.nil,QB⟩
end
section
variable{cl:Nat->List Wd->Me->Rz}{X:Cx}{a b:Ex}{x y:Expr}{pos:Pos}
def GV:PE X (.Dict [] [] pos) (aM X.K (af cl .dict0)):=by
 refine PE.imp Iu λσ H Q h d hd=>?_;obtain⟨as,env,m,S,G,P⟩:=h;obtain⟨T,S'⟩:=S.newD hd;have P':aq X.K as H Q (.ok (.ref m.length) (m++[.dct [] []])):=P;refine P' _ _ _ T S' (aG.mpr ⟨d,?_,rfl⟩);rw[<-S.len,Qi (Qj _)];simp
def Fq(hu:X.A.units+64<Mh)(ha:PE X x (aM X.K (af cl a)))(hb:PE X y (aM X.K (af cl b)))(hs:yP y=true):PE X (.Subscript x y pos) (aM X.K (af cl (.dget a b))):=by
 have hp:gZ y:=λo i=>by cases y<;>first|rfl|cases hs
 refine PE.imp (lh (oV hu) ha hb hp) λσ H Q h=>?_;obtain⟨as,env,m,S,G,P⟩:=h;refine⟨as,env,m,S,G,aq.bind P λx m1 as1 H1 v T1 S1 R1 P1=>?_⟩;refine⟨as1,env,m1,S1,G.mono S T1,aq.bind P1 λy m2 as2 H2 u T2 S2 R2 P2=>?_⟩;exact Fs S2 (R1.mono S1 T2) R2 P2
end
section
variable{cl:Nat->List Wd->Me->Rz}
def c7 {r:Rz}(h:r.bind f=.ok w m):∃x m1,r=.ok x m1/\f x m1=.ok w m:=by
 cases r with
 |ok x m1=>exact⟨x,m1,rfl,h⟩
 |exc c x m1=>cases h
 |no=>cases h
def Fp (hw:env[i]?=some (some w))(hs:∀s,w≠.str s):af cl (.cmp .eq (.var i) (.lit (.str k))) env m=.ok (.bl false) m\/af cl (.cmp .eq (.var i) (.lit (.str k))) env m=.no:=by
 show((match env[i]? with|some (some w)=>Rz.ok w m|_=>.no).bind λx m1=>(Rz.ok (.str k) m1).bind λy m2=>cZ .eq x y m2)=_\/((match env[i]? with|some (some w)=>Rz.ok w m|_=>.no).bind λx m1=>(Rz.ok (.str k) m1).bind λy m2=>cZ .eq x y m2)=_;rw[hw];cases w with
 |str s=>exact M8 rfl (hs s)
 |rol xs=>exact .inr rfl
 |ref l=>
  show dY (if aS m l&&true then some false else none) m=_\/dY (if aS m l&&true then some false else none) m=_;cases aS m l
  .exact .inr rfl
  .exact .inl rfl
 |_=>exact .inl rfl
def iD (h:af cl c env m=.ok (.bl false) m1):af cl (.ife c a b) env m=af cl b env m1:=by
 show(af cl c env m).bind _=_;rw[h];rfl
def i9 (h:af cl c env m=.ok (.bl true) m1):af cl (.ife c a b) env m=af cl a env m1:=by
 show(af cl c env m).bind _=_;rw[h];rfl
def mS (h:af cl c env m=.no):af cl (.ife c a b) env m=.no:=by
 show(af cl c env m).bind _=_;rw[h];rfl
def kY (hw:env[i]?=some (some (.str s))):af cl (.cmp .eq (.var i) (.lit (.str k))) env m=.ok (.bl (decide (s=k))) m:=by
 show((match env[i]? with|some (some w)=>Rz.ok w m|_=>.no).bind λx m1=>(Rz.ok (.str k) m1).bind λy m2=>cZ .eq x y m2)=_;rw[hw];rfl
def Fo (h:af cl (wT i k1 k2 k3 k4) env m=.ok w m'):m'=m/\(w=.non\/∃s j,env[i]?=some (some (.str s))/\w=.int j/\jy s k1 k2 k3 k4 (0:Int) 1 2 3=some j):=by
 unfold wT at h;cases e:env[i]? with
 |none=>
  have:af cl (.cmp .eq (.var i) (.lit (.str k1))) env m=.no:=by
   show((match env[i]? with|some (some w)=>Rz.ok w m|_=>.no).bind _)=_;rw[e];rfl
  rw[mS this]at h;cases h
 |some o=>
  cases o with
  |none=>
   have:af cl (.cmp .eq (.var i) (.lit (.str k1))) env m=.no:=by
    show((match env[i]? with|some (some w)=>Rz.ok w m|_=>.no).bind _)=_;rw[e];rfl
   rw[mS this]at h;cases h
  |some x=>
   by_cases hs:∃s,x=.str s
   .obtain ⟨s,rfl⟩:=hs;unfold jy;by_cases q1:s=k1
    .rw[i9 (by rw[kY e,Na q1])]at h;cases h;exact⟨rfl,.inr ⟨s,0,rfl,rfl,by rw[M6 q1]⟩⟩
    rw[iD (by rw[kY e,M5 q1])]at h;by_cases q2:s=k2
    .rw[i9 (by rw[kY e,Na q2])]at h;cases h;exact⟨rfl,.inr ⟨s,1,rfl,rfl,by rw[M7 q1,M6 q2]⟩⟩
    rw[iD (by rw[kY e,M5 q2])]at h;by_cases q3:s=k3
    .rw[i9 (by rw[kY e,Na q3])]at h;cases h;exact⟨rfl,.inr ⟨s,2,rfl,rfl,by rw[M7 q1,M7 q2,M6 q3]⟩⟩
    rw[iD (by rw[kY e,M5 q3])]at h;by_cases q4:s=k4
    .rw[i9 (by rw[kY e,Na q4])]at h;cases h;exact⟨rfl,.inr ⟨s,3,rfl,rfl,by rw[M7 q1,M7 q2,M7 q3,M6 q4]⟩⟩
    rw[iD (by rw[kY e,M5 q4])]at h;cases h;exact⟨rfl,.inl rfl⟩
   .have hs':∀s,x≠.str s:=λs z=>hs ⟨s,z⟩;have go:∀{k:List Nat}{a b:Ex}{r:Rz},af cl (.ife (.cmp .eq (.var i) (.lit (.str k))) a b) env m=.ok w m'->af cl b env m=.ok w m':=λ{k a b r} h=>by
     rcases Fp (cl:=cl) (k:=k) (m:=m) e hs' with z|z
     .rw[iD z]at h;exact h
     .rw[mS z]at h;cases h
    have h:=go (r:=.no) (go (r:=.no) (go (r:=.no) (go (r:=.no) h)));cases h;exact⟨rfl,.inl rfl⟩
set_option tactic.hygienic true in
def Af (h:af cl (.idx (wu a b c d) (wT i k1 k2 k3 k4)) env m=.ok w m'):
  ∃wa m1 wb m2 wc m3 wd s,af cl a env m=.ok wa m1/\af cl b env m1=.ok wb m2/\af cl c env m2=.ok wc m3/\af cl d env m3=.ok wd m'/\env[i]?=some (some (.str s))/\jy s k1 k2 k3 k4 wa wb wc wd=some w:=by
 obtain⟨x,mx,h1,h2⟩:=c7 (show(af cl (wu a b c d) env m).bind (λx m1=>(af cl (wT i k1 k2 k3 k4) env m1).bind λy m2=>jx x y m2)=_ from h);obtain⟨y,my,h3,h4⟩:=c7 h2;obtain⟨rfl,hy⟩:=Fo h3;obtain⟨z,mz,g1,g2⟩:=c7 (show(af cl (.pair a (.pair b (.pair c (.pair d .unit)))) env m).bind (λx m1=>if(zn x).length<=av then Rz.ok (.tup (zn x)) m1 else .no)=_ from h1);obtain⟨wa,m1,p1,q1⟩:=c7 (show(af cl a env m).bind (λx m1=>(af cl (.pair b (.pair c (.pair d .unit))) env m1).bind λy m2=>Rz.ok (.tup (x::zn y)) m2)=_ from g1);obtain⟨yb,n1,p2,q2⟩:=c7 q1;obtain⟨wb,m2,p3,q3⟩:=c7 (show(af cl b env m1).bind (λx m1=>(af cl (.pair c (.pair d .unit)) env m1).bind λy m2=>Rz.ok (.tup (x::zn y)) m2)=_ from p2);obtain⟨yc,n2,p4,q4⟩:=c7 q3;obtain⟨wc,m3,p5,q5⟩:=c7 (show(af cl c env m2).bind (λx m1=>(af cl (.pair d .unit) env m1).bind λy m2=>Rz.ok (.tup (x::zn y)) m2)=_ from p4);obtain⟨yd,n3,p6,q6⟩:=c7 q5;obtain⟨wd,m4,p7,q7⟩:=c7 (show(af cl d env m3).bind (λx m1=>(Rz.ok (.tup []) m1).bind λy m2=>Rz.ok (.tup (x::zn y)) m2)=_ from p6);cases q7;cases q6;cases q4;cases q2
 replace g2:(if([wa,wb,wc,wd]:List Wd).length<=av then Rz.ok (.tup [wa,wb,wc,wd]) mz else .no)=.ok x my:=g2
 rw[M6 (show([wa,wb,wc,wd]:List Wd).length<=av by show 4<=av;decide)]at g2;cases g2;rcases hy with rfl|⟨s,j,e,rfl,hj⟩
 .cases h4
 .refine ⟨wa,m1,wb,m2,wc,m3,wd,s,p1,p3,p5,?_,e,?_⟩
  .unfold jy at hj;split at hj
   .cases hj;cases h4;exact p7
   .split at hj
    .cases hj;cases h4;exact p7
    .split at hj
     .cases hj;cases h4;exact p7
     .split at hj
      .cases hj;cases h4;exact p7
      .cases hj
  .unfold jy at hj ⊢;split at hj
   .next z=>rw[M6 z];cases hj;cases h4;rfl
   .next z=>
    rw[M7 z];split at hj
    .next z=>rw[M6 z];cases hj;cases h4;rfl
    .next z=>
     rw[M7 z];split at hj
     .next z=>rw[M6 z];cases hj;cases h4;rfl
     .next z=>
      rw[M7 z];split at hj
      .next z=>rw[M6 z];cases hj;cases h4;rfl
      .cases hj
end
section
variable{cl:Nat->List Wd->Me->Rz}{X:Cx}{a b c d:Ex}{x1 x2 x3 x4:Expr}{pos p1 p2 p3 p4 pd pn:Pos}{s1 s2 s3 s4:Str}{i:Nat}{nm:Str}
def wU {s:Str}(h:s.cps.toList=k):s=⟨k.toArray⟩:=by subst h;simp
set_option tactic.hygienic true in
def AO {R:Wd->V->Prop}(h:jy s k1 k2 k3 k4 w1 w2 w3 w4=some w)(r1:R w1 v1)(r2:R w2 v2)(r3:R w3 v3)(r4:R w4 v4)(n12:k1≠k2)(n13:k1≠k3)(n14:k1≠k4)(n23:k2≠k3)(n24:k2≠k4)(n34:k3≠k4):
  ∃v,wf (xJ [] [((Sum.inr ⟨k1.toArray⟩:bv),v1),(Sum.inr ⟨k2.toArray⟩,v2),(Sum.inr ⟨k3.toArray⟩,v3),(Sum.inr ⟨k4.toArray⟩,v4)]) (Sum.inr ⟨s.toArray⟩)=some v/\R w v:=by
 have inj:∀{p q:List Nat},p≠q->¬((Sum.inr ⟨p.toArray⟩:bv)=Sum.inr ⟨q.toArray⟩):=λh e=>by
  injection e with e;injection e with e
  exact h (by simpa using M9 WA e)
 have e:xJ [] [((Sum.inr ⟨k1.toArray⟩:bv),v1),(Sum.inr ⟨k2.toArray⟩,v2),(Sum.inr ⟨k3.toArray⟩,v3),(Sum.inr ⟨k4.toArray⟩,v4)]=[((Sum.inr ⟨k1.toArray⟩:bv),v1),(Sum.inr ⟨k2.toArray⟩,v2),(Sum.inr ⟨k3.toArray⟩,v3),(Sum.inr ⟨k4.toArray⟩,v4)]:=by
  simp only[xJ,Vu,je,List.any_nil,WT,QZ,Q7,M5 (inj n12),M5 (inj n13),M5 (inj n14),M5 (inj n23),M5 (inj n24),M5 (inj n34),Bool.or_self,Qy,if_false]
 rw[e];unfold jy at h;split at h
 .next z=>subst z;cases h;exact⟨v1,xZ rfl,r1⟩
 .next z1=>
  rw[wv (inj (Ne.symm z1))];split at h
  .next z=>subst z;cases h;exact⟨v2,xZ rfl,r2⟩
  .next z2=>
   rw[wv (inj (Ne.symm z2))];split at h
   .next z=>subst z;cases h;exact⟨v3,xZ rfl,r3⟩
   .next z3=>
    rw[wv (inj (Ne.symm z3))];split at h
    .next z=>subst z;cases h;exact⟨v4,xZ rfl,r4⟩
    .cases h
def Fm {c1 c2 c3 c4}(hu:X.A.units+64<Mh)(e1:s1.cps.toList=k1)(e2:s2.cps.toList=k2)(e3:s3.cps.toList=k3)(e4:s4.cps.toList=k4)(n12:k1≠k2)(n13:k1≠k3)(n14:k1≠k4)(n23:k2≠k3)(n24:k2≠k4)(n34:k3≠k4)(ha:PE X x1 (aM X.K (af cl a)))(hb:PE X x2 (aM X.K (af cl b)))(hc:PE X x3 (aM X.K (af cl c)))(hd:PE X x4 (aM X.K (af cl d)))(hv:PE X (.Name nm pn) (ja i)):
  PE X (.Subscript (.Dict [some (.Constant (.str s1) c1 p1),some (.Constant (.str s2) c2 p2),some (.Constant (.str s3) c3 p3),some (.Constant (.str s4) c4 p4)] [x1,x2,x3,x4] pd) (.Name nm pn) pos) (aM X.K (af cl (.idx (wu a b c d) (wT i k1 k2 k3 k4)))):=by
 obtain rfl:=wU e1;obtain rfl:=wU e2;obtain rfl:=wU e3;obtain rfl:=wU e4;refine PE.imp (FE (by lia) (FD (xx wm ha (xx wm hb (xx wm hc (xx wm hd Ab)))) rfl rfl (by simp) (by show 4<=15;decide)) hv λ_ _=>rfl) λσ H Q h=>?_;obtain⟨as,env,m,S,G,P⟩:=h;cases hr:af cl (.idx (wu a b c d) (wT i k1 k2 k3 k4)) env m with
 |no=>rw[hr]at P;exact P.elim
 |exc c w m'=>rw[hr]at P;exact P.elim
 |ok w m'=>
  rw[hr]at P;obtain⟨wa,m1,wb,m2,wc,m3,wd,s,ea,eb,ec,ed,es,hp⟩:=Af hr;intro p hpn;have T0:Step as H as (aJ H p (.dK [])):=⟨⟨[],by simp⟩,λb o h _=>by rw[zj (zr h hpn)];exact h,λb hb=>.inl hb⟩;have S0:aQ X.K as m (aJ H p (.dK [])):=S.keep T0 λb _ o e=>by rw[zj (zr e hpn)];exact e
  have G0:=G.mono S T0;have h0:aJ H p (.dK []) p=some (.dK []):=zm;have n0:p∉as:=S.new hpn;refine⟨as,env,m,S0,G0,?_⟩;rw[ea];intro as1 H1 va T1 S1 R1;have h1:=T1.frame _ _ h0 n0;have n1:=T1.out h0 n0;have G1:=G0.mono S0 T1;refine⟨as1,env,m1,S1,G1,?_⟩;rw[eb];intro as2 H2 vb T2 S2 R2;have h2:=T2.frame _ _ h1 n1;have n2:=T2.out h1 n1;have G2:=G1.mono S1 T2;refine⟨as2,env,m2,S2,G2,?_⟩;rw[ec];intro as3 H3 vc T3 S3 R3;have h3:=T3.frame _ _ h2 n2;have n3:=T3.out h2 n2;have G3:=G2.mono S2 T3;refine⟨as3,env,m3,S3,G3,?_⟩;rw[ed];intro as4 H4 vd T4 S4 R4;have h4:=T4.frame _ _ h3 n3;have n4:=T4.out h3 n3;obtain⟨vs,hvs,rs⟩:=G.get i _ es;obtain rfl:=aB.mp rs;obtain⟨v,hv1,hv2⟩:=AO (R:=ai X.K as4 H4) hp (((R1.mono S1 T2).mono S2 T3).mono S3 T4) ((R2.mono S2 T3).mono S3 T4) (R3.mono S3 T4) R4 n12 n13 n14 n23 n24 n34;refine⟨h4,[((Sum.inr ⟨k1.toArray⟩:bv),va),(Sum.inr ⟨k2.toArray⟩,vb),(Sum.inr ⟨k3.toArray⟩,vc),(Sum.inr ⟨k4.toArray⟩,vd)],rfl,(by show 4<=15;decide),?_⟩;refine⟨.str ⟨s.toArray⟩,hvs,p,v,rfl,.inl ⟨_,Sum.inr ⟨s.toArray⟩,.inl zm,rfl,hv1.symm⟩,?_⟩;generalize xJ [] [((Sum.inr ⟨k1.toArray⟩:bv),va),(Sum.inr ⟨k2.toArray⟩,vb),(Sum.inr ⟨k3.toArray⟩,vc),(Sum.inr ⟨k4.toArray⟩,vd)]=mk;have T04:=((T0.trans T1).trans T2).trans (T3.trans T4);have T5:Step as H as4 (aJ H4 p (.dK mk)):=⟨T04.pre,λb o h hb=>by rw[zj (zr h hpn)];exact T04.frame b o h hb,T04.fresh⟩;have k6:Kp X.K H4 (aJ H4 p (.dK mk)):=iX h4 trivial;exact P as4 _ v T5 (S4.updK k6 λb hb o e=>by rw[zj (by rintro rfl;exact n4 hb)];exact e) (hv2.kp k6)
end
section
variable{cl:Nat->List Wd->Me->Rz}{X:Cx}
def Cz(x y:Int)(env:En)(m:Me):af cl (dt x y) env m=.ok (.tup [.int x,.int y]) m:=
 M6 (e:=Rz.no) (c:=([Wd.int x,.int y]:List Wd).length<=av) (show 2<=av by decide)
def v5 {K:Qb}(h:i5 K b [.int x,.int y])(as:List Addr)(H:Hp):ai K as H (.tup [.int x,.int y]) (.ref b):=
 aj.mpr ⟨b,[.int x,.int y],rfl,.inr h,am.mpr ⟨_,_,rfl,aa.mpr rfl,am.mpr ⟨_,_,rfl,aa.mpr rfl,ax.mpr rfl⟩⟩⟩
def Fl (n12:k1≠k2)(n13:k1≠k3)(n14:k1≠k4)(n23:k2≠k3)(n24:k2≠k4)(n34:k3≠k4)(hd:PE X (.Name dn pd) (tC (.ref a)))(D:iu X.K X.w a [(k1,x1,y1),(k2,x2,y2),(k3,x3,y3),(k4,x4,y4)])(hv:PE X (.Name nm pn) (ja i)):
  PE X (.Subscript (.Name dn pd) (.Name nm pn) pos) (aM X.K (af cl (.idx (wu (dt x1 y1) (dt x2 y2) (dt x3 y3) (dt x4 y4)) (wT i k1 k2 k3 k4)))):=by
 refine PE.imp (lh oW hd hv (λ_ _=>rfl)) λσ H Q h=>?_;obtain⟨as,env,m,S,G,P⟩:=h;cases hr:af cl (.idx (wu (dt x1 y1) (dt x2 y2) (dt x3 y3) (dt x4 y4)) (wT i k1 k2 k3 k4)) env m with
 |no=>rw[hr]at P;exact P.elim
 |exc c w m'=>rw[hr]at P;exact P.elim
 |ok w m'=>
  rw[hr]at P;obtain⟨wa,m1,wb,m2,wc,m3,wd,s,ea,eb,ec,ed,es,hp⟩:=Af hr;rw[Cz]at ea eb ec ed;cases ea;cases eb;cases ec;cases ed;obtain⟨vs,hvs,rs⟩:=G.get i _ es;obtain rfl:=aB.mp rs;obtain⟨o,ep,kvs,hK,f,dv⟩:=Cn (P:=X.prog) D (by simp[n12,n13,n14,n23,n24,n34])
  match kvs,f,dv with
  |[],f,dv=>cases(show _=_ from dv)
  |u1::[],f,dv=>obtain⟨_,_,_,_,b1,e,rfl,t1,dv⟩:=dv;cases e;cases(show _=_ from dv)
  |u1::u2::[],f,dv=>
   obtain⟨_,_,_,_,b1,e,rfl,t1,dv⟩:=dv;cases e;obtain⟨_,_,_,_,b2,e,rfl,t2,dv⟩:=dv;cases e;cases(show _=_ from dv)
  |u1::u2::u3::[],f,dv=>
   obtain⟨_,_,_,_,b1,e,rfl,t1,dv⟩:=dv;cases e;obtain⟨_,_,_,_,b2,e,rfl,t2,dv⟩:=dv;cases e;obtain⟨_,_,_,_,b3,e,rfl,t3,dv⟩:=dv;cases e;cases(show _=_ from dv)
  |u1::u2::u3::u4::r,f,dv=>
   obtain⟨_,_,_,_,b1,e,rfl,t1,dv⟩:=dv;cases e;obtain⟨_,_,_,_,b2,e,rfl,t2,dv⟩:=dv;cases e;obtain⟨_,_,_,_,b3,e,rfl,t3,dv⟩:=dv;cases e;obtain⟨_,_,_,_,b4,e,rfl,t4,dv⟩:=dv;cases e;cases r with
   |cons _ _=>obtain⟨_,_,_,_,_,e,_⟩:=dv;cases e
   |nil=>
    obtain⟨v,hv1,hv2⟩:=AO (R:=ai X.K as H) hp (v5 t1 as H) (v5 t2 as H) (v5 t3 as H) (v5 t4 as H) n12 n13 n14 n23 n24 n34;have nd:([((Sum.inr ⟨k1.toArray⟩:bv),V.ref b1),(Sum.inr ⟨k2.toArray⟩,.ref b2),(Sum.inr ⟨k3.toArray⟩,.ref b3),(Sum.inr ⟨k4.toArray⟩,.ref b4)].map (·.1)).Nodup:=by simp[n12,n13,n14,n23,n24,n34]
    rw[gJ nd (ps:=[]) (by simpa using nd),QZ]at hv1;exact⟨.str ⟨s.toArray⟩,hvs,a,o,ep,_,Sum.inr ⟨s.toArray⟩,v,rfl,rfl,f,hK,hv1,P as H v Step.refl S hv2⟩
end
end Mini
namespace Mini
open PySem L2
def JF (h0:(a==Lz)=false)(h1:K.lookup a=some ⟨.type "dict",none,.dict #[⟨e1,.str ⟨⟨k1⟩⟩ t1,.ref b1⟩,⟨e2,.str ⟨⟨k2⟩⟩ t2,.ref b2⟩,⟨e3,.str ⟨⟨k3⟩⟩ t3,.ref b3⟩,⟨e4,.str ⟨⟨k4⟩⟩ t4,.ref b4⟩] ep,#[]⟩)(u1:K.lookup b1=some ⟨.type "tuple",o1,.seq #[.int x1 r1,.int y1 z1] n1,l1⟩)(u2:K.lookup b2=some ⟨.type "tuple",o2,.seq #[.int x2 r2,.int y2 z2] n2,l2⟩)(u3:K.lookup b3=some ⟨.type "tuple",o3,.seq #[.int x3 r3,.int y3 z3] n3,l3⟩)(u4:K.lookup b4=some ⟨.type "tuple",o4,.seq #[.int x4 r4,.int y4 z4] n4,l4⟩)(q1:e1=Lw w ⟨⟨k1⟩⟩)(q2:e2=Lw w ⟨⟨k2⟩⟩)(q3:e3=Lw w ⟨⟨k3⟩⟩)(q4:e4=Lw w ⟨⟨k4⟩⟩):iu K w a [(k1,x1,y1),(k2,x2,y2),(k3,x3,y3),(k4,x4,y4)]:=by
 have tk:∀{b:Addr}{o:Option Addr}{l:Array (Option Value)}{x y:Int}{r z:Tok}{n:Nat},K.lookup b=some ⟨.type "tuple",o,.seq #[.int x r,.int y z] n,l⟩->i5 K b [.int x,.int y]:=λh=>
  ⟨_,_,_,h,rfl,rfl,(show 2<=sizeLine by decide),.cons ⟨_,rfl⟩ (.cons ⟨_,rfl⟩ .nil)⟩
 exact⟨h0,_,_,_,h1,⟨rfl,rfl,rfl⟩,rfl,_,_,_,_,_,_,rfl,rfl,q1,rfl,tk u1,_,_,_,_,_,_,rfl,rfl,q2,rfl,tk u2,_,_,_,_,_,_,rfl,rfl,q3,rfl,tk u3,_,_,_,_,_,_,rfl,rfl,q4,rfl,tk u4,rfl⟩
end Mini
namespace Mini
open PySem PySem.Spec PyProof.Rows L2
section
variable{cl:Nat->List Wd->Me->Rz}
def bX.pe (h:bX cl X e (.e x))(hr:zo e=false):PE X x (aM X.K (af cl e)):=(h.1 hr).1
def bX.pt (h:bX cl X e (.e x))(hr:zo e=false)(hi:vM e=false):PT X x (xQ X.K (af cl e)):=(h.1 hr).2.1 hi
def bX.pw (h:bX cl X e (.e (.BoolOp op vs pos)))(hr:zo e=false):PW X (.BoolOp op vs pos) (xQ X.K (af cl e)):=(h.1 hr).2.2 op vs pos rfl
def bX.pa (h:bX cl X e (.a xs)):PA X xs (vZ X.K (af cl e)):=h
def kI (h:qk sc x=true):ii sc x:=by
 unfold qk at h;simp only[Ww,Nc]at h;exact h
def yQ (h:cA sc x=true):sc.names.lookup x=some .globalImplicit:=Nb h
def v6 {K:Qb}(hv:∀as H,ai K as H w v):∀σ H Q,aM K (af cl (.lit w)) σ H Q->tC v σ H Q:=λσ H Q h=>by
 obtain⟨as,env,m,S,G,P⟩:=h;exact aq.ok (m:=m) P S (hv as H)
def xT (hs:yH y=true):∀v,Ma y env v=pure v:=λv=>by
 cases y<;>first|rfl|cases hs
def aC(C:Ctx)(sc:Lo)(N:List Str)(e:Ex)(n:Nd):Prop:=∀(cl:Nat → List Wd → Me → Rz) (d:Nat) (X:Cx),bB C X cl d → X.env.scope=sc → X.N=N → bX cl X e n
def zY (h:aC C sc N e n):∀X:Cx,bB C X cl d->X.env.scope=sc->X.N=N->bX cl X e n:=h cl d
def aC.«var»{C:Ctx}{sc:Lo}{N:List Str}{i:Nat}{x:Str}{p:Pos}(h1:N[i]?=some x)(h2:qk sc x=true)(h3:zP x=true):aC C sc N (.var i) (.e (.Name x p)):=by
 intro cl d;intro X hC es eN;subst es;subst eN;obtain⟨n1,n2,_⟩:=yX h3;refine bX.of (PE.imp (vG h1 (kI h2) n1 n2) λσ H Q q=>?_);obtain⟨as,env,m,S,G,P⟩:=q;cases hw:env[i]? with
 |none=>have P':aq X.K as H Q (match env[i]? with|some (some w)=>.ok w m|_=>.no):=P;rw[hw]at P';exact P'.elim
 |some o=>
  cases o with
  |none=>have P':aq X.K as H Q (match env[i]? with|some (some w)=>.ok w m|_=>.no):=P;rw[hw]at P';exact P'.elim
  |some w=>
   have P':aq X.K as H Q (match env[i]? with|some (some w)=>.ok w m|_=>.no):=P;rw[hw]at P';obtain⟨v,hv,R⟩:=G.get i w hw;exact⟨v,hv,aq.ok (m:=m) P' S R⟩
def aC.«non»{C:Ctx}{sc:Lo}{N:List Str}{k}{p:Pos}:aC C sc N (.lit .non) (.e (.Constant .none k p)):=by
 intro cl d;intro X hC es eN;exact bX.of (PE.imp DL (v6 λ_ _=>ao.mpr rfl))
def aC.«bl»{C:Ctx}{sc:Lo}{N:List Str}{b:Bool}{k}{p:Pos}:aC C sc N (.lit (.bl b)) (.e (.Constant (.bool b) k p)):=by
 intro cl d;intro X hC es eN;exact bX.of (PE.imp sV (v6 λ_ _=>ah.mpr rfl))
def aC.«int»{C:Ctx}{sc:Lo}{N:List Str}{i:Int}{k}{p:Pos}:aC C sc N (.lit (.int i)) (.e (.Constant (.int i) k p)):=by
 intro cl d;intro X hC es eN;exact bX.of (PE.imp Dl (v6 λ_ _=>aa.mpr rfl))
def aC.«str»{C:Ctx}{sc:Lo}{N:List Str}{s:Str}{t:List Nat}{k}{p:Pos}(h:s.cps.toList=t):aC C sc N (.lit (.str t)) (.e (.Constant (.str s) k p)):=by
 intro cl d;intro X hC es eN;subst h;exact bX.of (PE.imp wm (v6 λ_ _=>aB.mpr (by simp)))
def aC.«con»{C:Ctx}{sc:Lo}{N:List Str}{x:Str}{i:Int}{p:Pos}(h1:cA sc x=true)(h2:C.cons.lookup x=some i)(h3:zP x=true):aC C sc N (.lit (.int i)) (.e (.Name x p)):=by
 intro cl d;intro X hC es eN;subst es;obtain⟨n1,n2,_⟩:=yX h3;obtain⟨t,ht⟩:=hC.con.1 x i h2;exact bX.of (PE.imp (jg (yQ h1) ht (v:=.int i) ⟨t,rfl⟩ n1) (v6 λ_ _=>aa.mpr rfl))
def aC.«bin»{C:Ctx}{sc:Lo}{N:List Str}{op:Bo}{a b:Ex}{x y:Expr}{p:Pos}(ra:zo a=false)(ha:aC C sc N a (.e x))(rb:zo b=false)(hb:aC C sc N b (.e y)):aC C sc N (.bin op a b) (.e (.BinOp x (fY op) y p)):=by
 intro cl d;have iha:=ha cl d;have ihb:=hb cl d;intro X hC es eN;exact bX.of (CN ((iha X hC es eN).pe ra) ((ihb X hC es eN).pe rb))
def aC.«neg»{C:Ctx}{sc:Lo}{N:List Str}{a:Ex}{x:Expr}{p:Pos}(ra:zo a=false)(ha:aC C sc N a (.e x)):aC C sc N (.neg a) (.e (.UnaryOp .USub x p)):=by
 intro cl d;have iha:=ha cl d;intro X hC es eN;exact bX.of (CM ((iha X hC es eN).pe ra))
def aC.«not»{C:Ctx}{sc:Lo}{N:List Str}{a:Ex}{x:Expr}{p:Pos}(ra:zo a=false)(ia:vM a=false)(ha:aC C sc N a (.e x)):aC C sc N (.not a) (.e (.UnaryOp .Not x p)):=by
 intro cl d;have iha:=ha cl d;intro X hC es eN;have s1:=iha X hC es eN;exact⟨λ_=>⟨tV (s1.pe ra),λ_=>CL (s1.pt ra ia),λop vs pos z=>by cases z⟩,λtg=>vX (tV (s1.pe ra))⟩
def aC.«and2»{C:Ctx}{sc:Lo}{N:List Str}{a b:Ex}{x y:Expr}{p:Pos}(ra:zo a=false)(ia:vM a=false)(ha:aC C sc N a (.e x))(rb:zo b=false)(ib:vM b=false)(hb:aC C sc N b (.e y)):aC C sc N (.and a b) (.e (.BoolOp .And [x,y] p)):=by
 intro cl d;have iha:=ha cl d;have ihb:=hb cl d;intro X hC es eN;have sa:=iha X hC es eN;have sb:=ihb X hC es eN;have e:=λ(p:Pos)=>tU (pos:=p) (sa.pe ra) (nF (sb.pe rb));have w:=λ(p:Pos)=>tT (pos:=p) (sa.pt ra ia) (Fc (sb.pt rb ib));exact⟨λ_=>⟨e _,λ_=>(w _).pt,λop vs pos z=>by cases z;exact w _⟩,λtg=>vX (e _)⟩
def aC.«andN»{C:Ctx}{sc:Lo}{N:List Str}{a b:Ex}{x y z:Expr}{r:List Expr}{p:Pos}(ra:zo a=false)(ia:vM a=false)(ha:aC C sc N a (.e x))(rb:zo b=false)(hb:aC C sc N b (.e (.BoolOp .And (y::z::r) p))):aC C sc N (.and a b) (.e (.BoolOp .And (x::y::z::r) p)):=by
 intro cl d;have iha:=ha cl d;have ihb:=hb cl d;intro X hC es eN;have sa:=iha X hC es eN;have sb:=ihb X hC es eN;have e:=tU (sa.pe ra) (sb.pe rb);have w:=tT (sa.pt ra ia) (sb.pw rb);exact⟨λ_=>⟨e,λ_=>w.pt,λop vs pos z=>by cases z;exact w⟩,λtg=>vX e⟩
def aC.«or2»{C:Ctx}{sc:Lo}{N:List Str}{a b:Ex}{x y:Expr}{p:Pos}(ra:zo a=false)(ia:vM a=false)(ha:aC C sc N a (.e x))(rb:zo b=false)(ib:vM b=false)(hb:aC C sc N b (.e y)):aC C sc N (.or a b) (.e (.BoolOp .Or [x,y] p)):=by
 intro cl d;have iha:=ha cl d;have ihb:=hb cl d;intro X hC es eN;have sa:=iha X hC es eN;have sb:=ihb X hC es eN;have e:=λ(p:Pos)=>sM (pos:=p) (sa.pe ra) (nF (sb.pe rb));have w:=λ(p:Pos)=>sL (pos:=p) (sa.pt ra ia) (DK (sb.pt rb ib));exact⟨λ_=>⟨e _,λ_=>(w _).pt,λop vs pos z=>by cases z;exact w _⟩,λtg=>vX (e _)⟩
def aC.«orN»{C:Ctx}{sc:Lo}{N:List Str}{a b:Ex}{x y z:Expr}{r:List Expr}{p:Pos}(ra:zo a=false)(ia:vM a=false)(ha:aC C sc N a (.e x))(rb:zo b=false)(hb:aC C sc N b (.e (.BoolOp .Or (y::z::r) p))):aC C sc N (.or a b) (.e (.BoolOp .Or (x::y::z::r) p)):=by
 intro cl d;have iha:=ha cl d;have ihb:=hb cl d;intro X hC es eN;have sa:=iha X hC es eN;have sb:=ihb X hC es eN;have e:=sM (sa.pe ra) (sb.pe rb);have w:=sL (sa.pt ra ia) (sb.pw rb);exact⟨λ_=>⟨e,λ_=>w.pt,λop vs pos z=>by cases z;exact w⟩,λtg=>vX e⟩
def aC.«cmp»{C:Ctx}{sc:Lo}{N:List Str}{op:Co}{a b:Ex}{x y:Expr}{p:Pos}(hs:yH y=true)(ra:zo a=false)(ha:aC C sc N a (.e x))(rb:zo b=false)(hb:aC C sc N b (.e y)):aC C sc N (.cmp op a b) (.e (.Compare x [cK op] [y] p)):=by
 intro cl d;have iha:=ha cl d;have ihb:=hb cl d;intro X hC es eN;have ea:=(iha X hC es eN).pe ra;have eb:=(ihb X hC es eN).pe rb;exact⟨λ_=>⟨tS hC.room.units ea eb hs,λ_=>CK hC.room.units ea eb hs,λop vs pos z=>by cases z⟩,λtg=>vX (tS hC.room.units ea eb hs)⟩
def aC.«chain»{C:Ctx}{sc:Lo}{N:List Str}{o q:Co}{a b c:Ex}{x y z:Expr}{p:Pos}(hs:yH z=true)(ra:zo a=false)(ha:aC C sc N a (.e x))(rb:zo b=false)(hb:aC C sc N b (.e y))(rc:zo c=false)(hc:aC C sc N c (.e z)):aC C sc N (.chain o q a b c) (.e (.Compare x [cK o,cK q] [y,z] p)):=by
 intro cl d;have iha:=ha cl d;have ihb:=hb cl d;have ihc:=hc cl d;intro X hC es eN;have ea:=(iha X hC es eN).pe ra;have eb:=(ihb X hC es eN).pe rb;have ec:=(ihc X hC es eN).pe rc;exact⟨λ_=>⟨Ai hC.room.units ea eb ec hs,λ_=>G7 hC.room.units ea eb ec hs,λop vs pos z=>by cases z⟩,λtg=>vX (Ai hC.room.units ea eb ec hs)⟩
def aC.«ife»{C:Ctx}{sc:Lo}{N:List Str}{a b c:Ex}{x y z:Expr}{p:Pos}(rc:zo c=false)(ic:vM c=false)(hc:aC C sc N c (.e x))(ra:zo a=false)(ha:aC C sc N a (.e y))(rb:zo b=false)(hb:aC C sc N b (.e z)):aC C sc N (.ife c a b) (.e (.IfExp x y z p)):=by
 intro cl d;have ihc:=hc cl d;have iha:=ha cl d;have ihb:=hb cl d;intro X hC es eN;have e:=λ(p:Pos)=>CJ (pos:=p) ((ihc X hC es eN).pt rc ic) ((iha X hC es eN).pe ra) ((ihb X hC es eN).pe rb);exact⟨λ_=>⟨e _,λz=>(by cases z),λop vs pos z=>(by cases z)⟩,λtg=>vX (e _)⟩
def aC.«unit»{C:Ctx}{sc:Lo}{N:List Str}:aC C sc N .unit (.a []):=by
 intro cl d;intro X hC es eN;exact FA
def aC.«pair»{C:Ctx}{sc:Lo}{N:List Str}{a b:Ex}{x:Expr}{xs:List Expr}(hs:zF x=true)(ra:zo a=false)(ha:aC C sc N a (.e x))(hb:aC C sc N b (.a xs)):aC C sc N (.pair a b) (.a (x::xs)):=by
 intro cl d;have iha:=ha cl d;have ihb:=hb cl d;intro X hC es eN;exact Fz ((iha X hC es eN).pe ra) (ihb X hC es eN).pa hs
def aC.«call»{C:Ctx}{sc:Lo}{N:List Str}{k:Nat}{a:Ex}{f:Str}{y:Expr}{ys:List Expr}{p p':Pos}(h1:C.fns[k]?=some f)(h2:cA sc f=true)(h3:zP f=true)(hs:(y::ys).all zF=true)(ha:aC C sc N a (.a (y::ys))):aC C sc N (.call k a) (.e (.Call (.Name f p) (y::ys) [] p')):=by
 intro cl d;have iha:=ha cl d;intro X hC es eN;subst es;exact bX.of (Fy hC h1 (yQ h2) h3 hs (iha X hC rfl eN).pa)
def aC.«blt»{C:Ctx}{sc:Lo}{N:List Str}{b:eD}{a:Ex}{nm:Str}{f:Value}{y:Expr}{ys:List Expr}{p p':Pos}(h1:i6 b=some (nm,f))(h2:cA sc nm=true)(h3:zP nm=true)(hs:(y::ys).all zF=true)(ha:aC C sc N a (.a (y::ys))):aC C sc N (.blt b a) (.e (.Call (.Name nm p) (y::ys) [] p')):=by
 intro cl d;have iha:=ha cl d;intro X hC es eN;subst es;exact bX.of (CI hC h1 (yQ h2) h3 hs (iha X hC rfl eN).pa)
def aC.«isi»{C:Ctx}{sc:Lo}{N:List Str}{t:Tg}{a:Ex}{y:Expr}{p p' p'':Pos}(h1:cA sc "isinstance"=true)(h2:cA sc (Str.ofString (dq t))=true)(hs:zF y=true)(ra:zo a=false)(ha:aC C sc N a (.e y)):aC C sc N (.isi t a) (.e (.Call (.Name "isinstance" p) [y,.Name (Str.ofString (dq t)) p'] [] p'')):=by
 intro cl d;have iha:=ha cl d;intro X hC es eN;subst es;exact bX.of (CH hC (yQ h1) (yQ h2) hs ((iha X hC rfl eN).pe ra))
def aC.«lst»{C:Ctx}{sc:Lo}{N:List Str}{a:Ex}{xs:List Expr}{p:Pos}(ha:aC C sc N a (.a xs)):aC C sc N (.lst a) (.e (.List xs p)):=by
 intro cl d;have iha:=ha cl d;intro X hC es eN;exact bX.of (CG (iha X hC es eN).pa)
def aC.«tup»{C:Ctx}{sc:Lo}{N:List Str}{a:Ex}{xs:List Expr}{k}{p:Pos}(ha:aC C sc N a (.a xs)):aC C sc N (.tup a) (.e (.Tuple xs k p)):=by
 intro cl d;have iha:=ha cl d;intro X hC es eN;exact bX.of (CF (iha X hC es eN).pa)
def aC.«idx»{C:Ctx}{sc:Lo}{N:List Str}{a b:Ex}{x y:Expr}{p:Pos}(hs:yP y=true)(ra:zo a=false)(ha:aC C sc N a (.e x))(rb:zo b=false)(hb:aC C sc N b (.e y)):aC C sc N (.idx a b) (.e (.Subscript x y p)):=by
 intro cl d;have iha:=ha cl d;have ihb:=hb cl d;intro X hC es eN;exact bX.of (CC ((iha X hC es eN).pe ra) ((ihb X hC es eN).pe rb) hs)
def aC.«dict0»{C:Ctx}{sc:Lo}{N:List Str}{p:Pos}:aC C sc N .dict0 (.e (.Dict [] [] p)):=by
 intro cl d;intro X hC es eN;exact bX.of GV
def aC.«dget»{C:Ctx}{sc:Lo}{N:List Str}{a b:Ex}{x y:Expr}{p:Pos}(hs:yP y=true)(ra:zo a=false)(ha:aC C sc N a (.e x))(rb:zo b=false)(hb:aC C sc N b (.e y)):aC C sc N (.dget a b) (.e (.Subscript x y p)):=by
 intro cl d;have iha:=ha cl d;have ihb:=hb cl d;intro X hC es eN;exact bX.of (Fq hC.room.units ((iha X hC es eN).pe ra) ((ihb X hC es eN).pe rb) hs)
def aC.«dsel»{C:Ctx}{sc:Lo}{N:List Str}{a b c d:Ex}{x1 x2 x3 x4:Expr}{s1 s2 s3 s4 nm:Str}{c1 c2 c3 c4}{p p1 p2 p3 p4 pd pn:Pos}{i:Nat}{k1 k2 k3 k4:List Nat}(e1:s1.cps.toList=k1)(e2:s2.cps.toList=k2)(e3:s3.cps.toList=k3)(e4:s4.cps.toList=k4)(nd:[k1,k2,k3,k4].Nodup)(h1:N[i]?=some nm)(h2:qk sc nm=true)(h3:zP nm=true)
   (ra:zo a=false) (ha:aC C sc N a (.e x1)) (rb:zo b=false) (hb:aC C sc N b (.e x2)) (rc:zo c=false) (hc:aC C sc N c (.e x3)) (rd:zo d=false) (hd:aC C sc N d (.e x4)) :
   aC C sc N (.idx (wu a b c d) (wT i k1 k2 k3 k4)) (.e (.Subscript (.Dict [some (.Constant (.str s1) c1 p1),some (.Constant (.str s2) c2 p2),some (.Constant (.str s3) c3 p3),some (.Constant (.str s4) c4 p4)] [x1,x2,x3,x4] pd) (.Name nm pn) p)):=by
 intro cl d;have iha:=ha cl d;have ihb:=hb cl d;have ihc:=hc cl d;have ihd:=hd cl d;intro X hC es eN;subst es;subst eN;obtain⟨n1,n2,_⟩:=yX h3;simp only[QF,Qp,Q6,not_or,or_false]at nd;obtain⟨⟨m12,m13,m14⟩,⟨m23,m24⟩,m34,_⟩:=nd;exact bX.of (Fm hC.room.units e1 e2 e3 e4 m12 m13 m14 m23 m24 m34 ((iha X hC rfl rfl).pe ra) ((ihb X hC rfl rfl).pe rb) ((ihc X hC rfl rfl).pe rc) ((ihd X hC rfl rfl).pe rd) (vG h1 (kI h2) n1 n2))
def aC.«dcon»{C:Ctx}{sc:Lo}{N:List Str}{x1 y1 x2 y2 x3 y3 x4 y4:Int}{dn nm:Str}{p pd pn:Pos}{i:Nat}{k1 k2 k3 k4:List Nat}(nd:[k1,k2,k3,k4].Nodup)(g1:cA sc dn=true)(g2:C.dcs.lookup dn=some [(k1,x1,y1),(k2,x2,y2),(k3,x3,y3),(k4,x4,y4)])(g3:zP dn=true)(h1:N[i]?=some nm)(h2:qk sc nm=true)(h3:zP nm=true):
   aC C sc N (.idx (wu (dt x1 y1) (dt x2 y2) (dt x3 y3) (dt x4 y4)) (wT i k1 k2 k3 k4)) (.e (.Subscript (.Name dn pd) (.Name nm pn) p)):=by
 intro cl d;intro X hC es eN;subst es;subst eN;obtain⟨n1,n2,_⟩:=yX h3;obtain⟨m1,_,_⟩:=yX g3;simp only[QF,Qp,Q6,not_or,or_false]at nd;obtain⟨⟨m12,m13,m14⟩,⟨m23,m24⟩,m34,_⟩:=nd;obtain⟨a,ha,hD⟩:=hC.con.2 _ _ g2;exact bX.of (Fl m12 m13 m14 m23 m24 m34 (jg (yQ g1) ha (v:=.ref a) rfl m1) hD (vG h1 (kI h2) n1 n2))
def aC.«slB»{C:Ctx}{sc:Lo}{N:List Str}{a b c:Ex}{x y z:Expr}{p p':Pos}(ra:zo a=false)(ha:aC C sc N a (.e x))(rb:zo b=false)(hb:aC C sc N b (.e y))(rc:zo c=false)(hc:aC C sc N c (.e z)):aC C sc N (.slB a b c) (.e (.Subscript x (.Slice (some y) (some z) none p') p)):=by
 intro cl d;have iha:=ha cl d;have ihb:=hb cl d;have ihc:=hc cl d;intro X hC es eN;exact bX.of (CB ((iha X hC es eN).pe ra) ((ihb X hC es eN).pe rb) ((ihc X hC es eN).pe rc))
def aC.«meth0»{C:Ctx}{sc:Lo}{N:List Str}{k:ee}{o:Ex}{x:Expr}{ap cp:Pos}(hx:vY x=true)(hl:(ap.endLine==cp.line)=true)(ro:zo o=false)(ho:aC C sc N o (.e x)):aC C sc N (.meth k o .unit) (.e (.Call (.Attribute x (fe k).1 ap) [] [] cp)):=by
 intro cl d;have iho:=ho cl d;intro X hC es eN;exact bX.of (GZ ((iho X hC es eN).pe ro) hx hl)
def aC.«meth»{C:Ctx}{sc:Lo}{N:List Str}{k:ee}{o a:Ex}{x y:Expr}{ys:List Expr}{ap cp:Pos}(hx:vY x=true)(hl:(ap.endLine==cp.line)=true)(hn:(y::ys).length<29)(hs:(y::ys).all zF=true)(ro:zo o=false)(ho:aC C sc N o (.e x))(ha:aC C sc N a (.a (y::ys))):aC C sc N (.meth k o a) (.e (.Call (.Attribute x (fe k).1 ap) (y::ys) [] cp)):=by
 intro cl d;have iho:=ho cl d;have iha:=ha cl d;intro X hC es eN;exact bX.of (Fw ((iho X hC es eN).pe ro) (iha X hC es eN).pa hx hl hn hs)
def aC.«rng1»{C:Ctx}{sc:Lo}{N:List Str}{b:Ex}{y:Expr}{p p':Pos}(hg:cA sc "range"=true)(hs:zF y=true)(rb:zo b=false)(hb:aC C sc N b (.e y)):aC C sc N (.rng (.lit (.int 0)) b (.lit (.int 1))) (.e (.Call (.Name "range" p) [y] [] p')):=by
 intro cl d;have ihb:=hb cl d;intro X hC es eN;subst es;exact⟨λz=>(by cases z),λtg=>Fv hC (yQ hg) hs ((ihb X hC rfl eN).pe rb)⟩
def aC.«lrng»{C:Ctx}{sc:Lo}{N:List Str}{a:Ex}{y:Expr}{p p' q q':Pos}(hl:cA sc "list"=true)(hg:cA sc "range"=true)(hs:zF y=true)(ra:zo a=false)(ha:aC C sc N a (.e y)):aC C sc N (.lrng a) (.e (.Call (.Name "list" p) [.Call (.Name "range" q) [y] [] q'] [] p')):=by
 intro cl d;have iha:=ha cl d;intro X hC es eN;subst es;exact bX.of (Fu hC (yQ hl) (yQ hg) hs ((iha X hC rfl eN).pe ra))
def aC.«comp0»{C:Ctx}{sc scope:Lo}{N:List Str}{elt it:Ex}{x i:Expr}{y:Str}{p p':Pos}(hs:yH i=true)(hB:wn sc N scope [y]=true)(hi:aC C sc N it (.e i))(re:zo elt=false)(he:aC C (yo scope sc) (yF N [y]) elt (.e x)):aC C sc N (.comp elt it (.lit (.bl true))) (.e (.ListComp x [⟨.Name y p,i,[],0⟩] scope p')):=by
 intro cl d;have ihi:=hi cl d;have ihe:=he cl d;intro X hC es eN;subst es;subst eN;have B:=yD hB;have hI:=(ihi X hC rfl rfl).2 (.Name y p);have hset:∀v,Ma i X.env v=pure v:=xT hs;have body:∀Xc,bz X scope [y] Xc->PE Xc x (aM X.K (af cl elt)):=λXc c=>by
  have q:=(ihe Xc (hC.comp c) c.sc c.N).pe re;rw[c.K]at q;exact q
 refine bX.of (PE.imp (w9 B hC.calm (ji B) hI (λXc c=>⟨vU,body Xc c⟩) hset) λσ H Q q=>kH (λσ H Q q=>?_) q);obtain⟨as,env,m,S,G,P⟩:=q;obtain⟨b,e,q⟩:=aq.ok (m:=m) P S (ah.mpr rfl);cases e;exact q
def aC.«comp1»{C:Ctx}{sc scope:Lo}{N:List Str}{elt it cond:Ex}{x i f:Expr}{y:Str}{p p':Pos}(hs:yH i=true)(hB:wn sc N scope [y]=true)(hi:aC C sc N it (.e i))(rc:zo cond=false)(ic:vM cond=false)(hc:aC C (yo scope sc) (yF N [y]) cond (.e f))(re:zo elt=false)(he:aC C (yo scope sc) (yF N [y]) elt (.e x)):aC C sc N (.comp elt it cond) (.e (.ListComp x [⟨.Name y p,i,[f],0⟩] scope p')):=by
 intro cl d;have ihi:=hi cl d;have ihc:=hc cl d;have ihe:=he cl d;intro X hC es eN;subst es;subst eN;have B:=yD hB;have hI:=(ihi X hC rfl rfl).2 (.Name y p);have hset:∀v,Ma i X.env v=pure v:=xT hs;have body:∀Xc,bz X scope [y] Xc->PE Xc x (aM X.K (af cl elt)):=λXc c=>by
  have q:=(ihe Xc (hC.comp c) c.sc c.N).pe re;rw[c.K]at q;exact q
 refine bX.of (PE.imp (w9 B hC.calm (ji B) hI (λXc c=>⟨qc ?_,body Xc c⟩) hset) λσ H Q q=>kH (λσ H Q q=>q) q);have q:=(ihc Xc (hC.comp c) c.sc c.N).pt rc ic;rw[c.K]at q;exact q
def aC.«compZ0»{C:Ctx}{sc scope:Lo}{N:List Str}{elt a b:Ex}{x i j:Expr}{y z:Str}{p p' q q' q2 pt:Pos}{kt:Nat}(hg:cA sc "zip"=true)(hB:wn sc N scope [y,z]=true)(hs:zF i=true)(hs':zF j=true)(ra:zo a=false)(ha:aC C sc N a (.e i))(rb:zo b=false)(hb:aC C sc N b (.e j))(re:zo elt=false)(he:aC C (yo scope sc) (yF N [y,z]) elt (.e x)):
   aC C sc N (.compP .zip elt a b (.lit (.bl true))) (.e (.ListComp x [⟨.Tuple [.Name y p,.Name z q] kt pt,.Call (.Name "zip" q') [i,j] [] q2,[],0⟩] scope p')):=by
 intro cl d;have iha:=ha cl d;have ihb:=hb cl d;have ihe:=he cl d;intro X hC es eN;subst es;subst eN;have B:=yD hB;have hI:PI X (.Tuple [.Name y p,.Name z q] kt pt) (.Call (.Name "zip" q') [i,j] [] q2) _:=tO (yQ hg) (hC.blt _ (by simp[zB])) (yj ((iha X hC rfl rfl).pe ra) (yj ((ihb X hC rfl rfl).pe rb) xI (zp hs')) (zp hs)) (by rw[zp hs,zp hs'];rfl) (zp hs');have body:∀Xc,bz X scope [y,z] Xc->PE Xc x (aM X.K (af cl elt)):=λXc c=>by
  have q:=(ihe Xc (hC.comp c) c.sc c.N).pe re;rw[c.K]at q;exact q
 refine bX.of (PE.imp (w9 B hC.calm (jj hC.calm B) hI (λXc c=>⟨vU,body Xc c⟩) (λ_=>rfl)) λσ H Q q=>jH (λσ H Q q=>?_) q);obtain⟨as,env,m,S,G,P⟩:=q;obtain⟨b,e,q⟩:=aq.ok (m:=m) P S (ah.mpr rfl);cases e;exact q
def aC.«compT1»{C:Ctx}{sc scope:Lo}{N:List Str}{elt a cond:Ex}{x i f:Expr}{y z:Str}{p p' q pt:Pos}{kt:Nat}(hs:yH i=true)(hB:wn sc N scope [y,z]=true)(ha:aC C sc N a (.e i))(rc:zo cond=false)(ic:vM cond=false)(hc:aC C (yo scope sc) (yF N [y,z]) cond (.e f))(re:zo elt=false)(he:aC C (yo scope sc) (yF N [y,z]) elt (.e x)):
   aC C sc N (.compP .prs elt a (.lit (.int 0)) cond) (.e (.ListComp x [⟨.Tuple [.Name y p,.Name z q] kt pt,i,[f],0⟩] scope p')):=by
 intro cl d;have iha:=ha cl d;have ihc:=hc cl d;have ihe:=he cl d;intro X hC es eN;subst es;subst eN;have B:=yD hB;have hI:=(iha X hC rfl rfl).2 (.Tuple [.Name y p,.Name z q] kt pt);have hset:∀v,Ma i X.env v=pure v:=xT hs;have body:∀Xc,bz X scope [y,z] Xc->PE Xc x (aM X.K (af cl elt)):=λXc c=>by
  have q:=(ihe Xc (hC.comp c) c.sc c.N).pe re;rw[c.K]at q;exact q
 refine bX.of (PE.imp (w9 B hC.calm (jj hC.calm B) hI (λXc c=>⟨qc ?_,body Xc c⟩) hset) λσ H Q q=>IH (λσ H Q q=>q) q);have q:=(ihc Xc (hC.comp c) c.sc c.N).pt rc ic;rw[c.K]at q;exact q
def aC.«compE0»{C:Ctx}{sc scope:Lo}{N:List Str}{elt a:Ex}{x i:Expr}{y z:Str}{p p' q q' q2 pt:Pos}{kt:Nat}(hg:cA sc "enumerate"=true)(hB:wn sc N scope [y,z]=true)(hs:zF i=true)(ra:zo a=false)(ha:aC C sc N a (.e i))(re:zo elt=false)(he:aC C (yo scope sc) (yF N [y,z]) elt (.e x)):
   aC C sc N (.compP .enum elt a (.lit (.int 0)) (.lit (.bl true))) (.e (.ListComp x [⟨.Tuple [.Name y p,.Name z q] kt pt,.Call (.Name "enumerate" q') [i] [] q2,[],0⟩] scope p')):=by
 intro cl d;have iha:=ha cl d;have ihe:=he cl d;intro X hC es eN;subst es;subst eN;have B:=yD hB;have hI:PI X (.Tuple [.Name y p,.Name z q] kt pt) (.Call (.Name "enumerate" q') [i] [] q2) _:=Ft (yQ hg) (hC.blt _ (by simp[zB])) (yj ((iha X hC rfl rfl).pe ra) xI (zp hs)) (zp hs);have body:∀Xc,bz X scope [y,z] Xc->PE Xc x (aM X.K (af cl elt)):=λXc c=>by
  have q:=(ihe Xc (hC.comp c) c.sc c.N).pe re;rw[c.K]at q;exact q
 refine bX.of (PE.imp (w9 B hC.calm (jj hC.calm B) hI (λXc c=>⟨vU,body Xc c⟩) (λ_=>rfl)) λσ H Q q=>II (c:=0) rfl (λσ H Q q=>?_) q);obtain⟨as,env,m,S,G,P⟩:=q;obtain⟨b,e,q⟩:=aq.ok (m:=m) P S (ah.mpr rfl);cases e;exact q
end
def tM:swappedStores [.Subscript o i p1] v env=pure none:=rfl
def jl (h:∀x p,tg≠.Name x p):swapsWithSole [tg] v line env=pure false:=by
 cases v<;>first|rfl|(cases tg<;>first|rfl|exact M8 rfl (h _ _))
def jJ:Expr->Bool
 |.ListComp _ _ _ _=>true
 |.SetComp _ _ _ _=>true
 |.DictComp _ _ _ _ _=>true
 |_=>false
def jK (h:jJ v=false):LV v t line env=pure false:=by
 cases v<;>first|rfl|cases h
def az(K:Qb)(as:List Addr)(H:Hp)(D:bY)(r:Rs):Prop:=match r with
 |.next e m'=>∀as' H' σ',Step as H as' H'->aQ K as' m' H'->aF K as' H' e σ'->D.nx σ' H'
 |.brk e m'=>∀as' H' σ',Step as H as' H'->aQ K as' m' H'->aF K as' H' e σ'->D.bk σ' H'
 |.cont e m'=>∀as' H' σ',Step as H as' H'->aQ K as' m' H'->aF K as' H' e σ'->D.ct σ' H'
 |.ret w m'=>∀as' H' v,Step as H as' H'->aQ K as' m' H'->ai K as' H' w v->D.rt v H'
 |_=>False
def xk(K:Qb)(g:En->Me->Rs):TS:=λD σ H=>∃as env m,aQ K as m H/\aF K as H env σ/\az K as H D (g env m)
section
variable{K:Qb}{as as':List Addr}{H H':Hp}{m:Me}{D:bY}
set_option tactic.hygienic true in
def az.step{r:Rs}(h:az K as H D r)(T:Step as H as' H'):az K as' H' D r:=by
 cases r with
 |next e m'=>exact λas2 H2 σ' U S G=>h as2 H2 σ' (T.trans U) S G
 |brk e m'=>exact λas2 H2 σ' U S G=>h as2 H2 σ' (T.trans U) S G
 |cont e m'=>exact λas2 H2 σ' U S G=>h as2 H2 σ' (T.trans U) S G
 |ret w m'=>exact λas2 H2 v U S R=>h as2 H2 v (T.trans U) S R
 |exc c w e m'=>exact h
 |no=>exact h
def az.bind (h:az K as H D (r.bindS env f))(k:∀w m' as' H' v,Step as H as' H'->aQ K as' m' H'->ai K as' H' w v->az K as' H' D (f w m')->Q1 v H'):aq K as H Q1 r:=by
 cases r with
 |ok w m'=>exact λas2 H2 v U S R=>k w m' as2 H2 v U S R (az.step (r:=f w m') h U)
 |exc c w m'=>exact h
 |no=>exact h
def az.bindI (h:az K as H D (r.bindS env f))(k:∀w m',az K as H D (f w m')->(xL m' w).isSome=true/\∀as' H' J,Step as H as' H'->aQ K as' m' H'->sw K as' H' w J->R1 J H'):cn K as H R1 r:=by
 cases r with
 |ok w m'=>exact k w m' h
 |exc c w m'=>exact h
 |no=>exact h
theorem az.next (h:az K as H D (.next env m))(S:aQ K as m H)(G:aF K as H env σ):D.nx σ H:=h as H σ .refl S G
end
section
variable{cl:Nat->List Wd->Me->Rz}{X:Cx}{e o i:Ex}{x y z:Expr}{pos:Pos}
def FW:cv X [] (xk X.K (bC cl .skip)):=cv.imp uX λD σ H h=>by
 obtain⟨as,env,m,S,G,P⟩:=h;exact az.next (m:=m) P S G
set_option tactic.hygienic true in
def Cy {st:Stmt}(ha:PS X st (xk X.K (bC cl a)))(hb:cv X sts (xk X.K (bC cl b))):cv X (st::sts) (xk X.K (bC cl (.seq a b))):=
 cv.imp (wR ha hb) λD σ H h=>by
  obtain⟨as,env,m,S,G,P⟩:=h;refine⟨as,env,m,S,G,?_⟩;have P':az X.K as H D (match bC cl a env m with |.next e1 m1=>bC cl b e1 m1|r=>r):=P;cases hr:bC cl a env m with
  |next e1 m1=>
   rw[hr]at P';exact λas' H' σ' T S' G'=>⟨as',e1,m1,S',G',az.step P' T⟩
  |brk e1 m1=>rw[hr]at P';exact P'
  |cont e1 m1=>rw[hr]at P';exact P'
  |ret w m1=>rw[hr]at P';exact P'
  |exc c w e1 m1=>rw[hr]at P';exact P'
  |no=>rw[hr]at P';exact P'
def jL {K:Qb}{i:Nat}(h:xk K (bC cl (.asg i e)) D σ H):fN (aM K (af cl e)) (xl i) D σ H:=by
 obtain⟨as,env,m,S,G,P⟩:=h;refine⟨as,env,m,S,G,az.bind P λw m1 as1 H1 v T1 S1 R1 P1=>?_⟩;exact az.next (m:=m1) P1 S1 ((G.mono S T1).set R1 i)
def Cw(he:PE X x (aM X.K (af cl e))):PS X (.Return (some x) pos) (xk X.K (bC cl (.ret e))):=PS.imp (gU he) λD σ H h=>by
 obtain⟨as,env,m,S,G,P⟩:=h;refine⟨as,env,m,S,G,az.bind P λw m1 as1 H1 v T1 S1 R1 P1=>?_⟩;exact P1 as1 H1 v .refl S1 R1
def FV(he:PE X x (aM X.K (af cl e)))(hc:jJ x=false):PS X (.Expr x pos) (xk X.K (bC cl (.expr e))):=PS.imp (Fb he (jK hc)) λD σ H h=>by
 obtain⟨as,env,m,S,G,P⟩:=h;refine⟨as,env,m,S,G,az.bind P λw m1 as1 H1 v T1 S1 R1 P1=>?_⟩;exact az.next (m:=m1) P1 S1 (G.mono S T1)
def GU{st:Stmt}:PS X st (xk X.K (bC cl .never)):=PS.imp HI λD σ H h=>by
 obtain⟨as,env,m,S,G,P⟩:=h;exact P
def BB (hc:PT X x (xQ X.K (af cl e)))(ha:cv X xs (xk X.K (bC cl a)))(hb:cv X ys (xk X.K (bC cl b))):PS X (.If x xs ys pos) (xk X.K (bC cl (.ite e a b))):=
 PS.imp (mT hc ha hb) λD σ H h=>by
  obtain⟨as,env,m,S,G,P⟩:=h;refine⟨as,env,m,S,G,az.bind P λw m1 as1 H1 v T1 S1 R1 P1=>?_⟩;cases w with
  |bl k=>
   obtain rfl:=ah.mp R1;refine⟨k,rfl,?_⟩;cases k with
   |true=>exact g9 ⟨as1,env,m1,S1,G.mono S T1,P1⟩
   |false=>exact qW ⟨as1,env,m1,S1,G.mono S T1,P1⟩
  |_=>exact P1.elim
def GT {K:Qb}{o i:Wd}(S:aQ K as m H)(Ro:ai K as H o vo)(Ri:ai K as H i vi)(Rw:ai K as H w v)(h:az K as H D ((qe o i w m).bindS env f))(k:∀m' H',Step as H as H'->aQ K as m' H'->az K as H' D (f .non m')->Q H'):mU vo vi v H Q:=by
 have key:∀r,qe o i w m=r->(∃m',r=.ok .non m')\/r=.no:=λr e=>by
  unfold qe at e;split at e
  .split at e
   .split at e
    .exact .inl ⟨_,e.symm⟩
    .exact .inr e.symm
   .exact .inr e.symm
  .exact .inr e.symm
 rcases key _ rfl with⟨m',e⟩|e
 .refine CT S Ro Ri Rw (λm2 e2 H' T S'=>?_) ⟨m',e⟩;rw[e]at e2;cases e2;rw[e]at h;exact k m' H' T S' (az.step (r:=f .non m') h T)
 .rw[e]at h;exact h.elim
def HA {K:Qb}{o i:Wd}(S:aQ K as m H)(Ro:ai K as H o vo)(Ri:ai K as H i vi)(Rw:ai K as H w v)(h:az K as H D ((gC o i w m).bindS env f))(k:∀m' H',Step as H as H'->aQ K as m' H'->az K as H' D (f .non m')->Q H'):sR K vo vi v H Q:=by
 unfold gC at h;cases o with
 |ref l=>
  obtain⟨a,ha,rfl⟩:=aG.mp Ro;dsimp only at h;cases e:m[l]? with
  |none=>rw[e]at h;exact h.elim
  |some ob=>
   cases ob with
   |lst ys=>rw[e]at h;exact h.elim
   |dct ks ws=>
    rw[e]at h;dsimp only at h;obtain⟨a',xs,vs,ha',td,ek,r,rv,nd⟩:=nl S e;rw[ha]at ha';cases ha';cases eq:fM i with
    |none=>rw[eq]at h;exact h.elim
    |some q=>
     rw[eq]at h;dsimp only at h;obtain⟨b,rfl,qb⟩:=Ag eq Ri;by_cases hl:ks.length<av
     .rw[M6 hl]at h;refine⟨a,b,q,xs,rfl,rfl,qb,td,?_,λu ru=>?_⟩
      .rw[<-ek,Qn]at hl;exact WL hl
      .obtain ⟨T,S'⟩:=S.setD ha e td ek r rv nd qb Rw ru;exact k _ _ T S' (az.step (r:=f .non _) h T)
     .rw[M7 hl]at h;exact h.elim
 |_=>exact h.elim
def jM {o i:Expr}(hs:yP i=true):∀v,assign (.Subscript o i p) env v=(do
   let ov <-holding [v] (eval o env)
   let iv <-holding [v,ov] (eval i env)
   standAt p
   holding [v,ov,iv] (setItem ov iv v)
   release [v,ov,iv] []):=λv=>by
 cases i<;>first|rfl|cases hs
def FU (hu:X.A.units+64<Mh)(ho:PE X x (aM X.K (af cl (.var j))))(hi:PE X y (aM X.K (af cl i)))(he:PE X z (aM X.K (af cl e)))(hs:yP y=true):PS X (.Assign [.Subscript x y p1] z pos) (xk X.K (bC cl (.dput j i e))):=
 PS.imp (gX he (t6 ho hi (B6 hu) (jM hs)) (jl (by intros;intro q;cases q)) tM) λD σ H h=>by
  obtain⟨as,env,m,S,G,P⟩:=h;refine⟨as,env,m,S,G,az.bind P λw m1 as1 H1 v T1 S1 R1 P1=>?_⟩;refine⟨as1,env,m1,S1,G.mono S T1,az.bind P1 λwo m2 as2 H2 vo T2 S2 R2 P2=>?_⟩;refine⟨as2,env,m2,S2,(G.mono S T1).mono S1 T2,az.bind P2 λwi m3 as3 H3 vi T3 S3 R3 P3=>?_⟩;refine HA S3 (R2.mono S2 T3) R3 ((R1.mono S1 T2).mono S2 T3) P3 λm4 H4 T4 S4 P4=>?_;exact az.next (m:=m4) P4 S4 ((((G.mono S T1).mono S1 T2).mono S2 T3).mono S3 T4)
def FT (ho:PE X x (aM X.K (af cl o)))(hi:PE X y (aM X.K (af cl i)))(he:PE X z (aM X.K (af cl e)))(hs:yP y=true):PS X (.Assign [.Subscript x y p1] z pos) (xk X.K (bC cl (.asgS o i e))):=
 PS.imp (gX he (t6 ho hi Ib (jM hs)) (jl (by intros;intro q;cases q)) tM) λD σ H h=>by
  obtain⟨as,env,m,S,G,P⟩:=h;refine⟨as,env,m,S,G,az.bind P λw m1 as1 H1 v T1 S1 R1 P1=>?_⟩;refine⟨as1,env,m1,S1,G.mono S T1,az.bind P1 λwo m2 as2 H2 vo T2 S2 R2 P2=>?_⟩;refine⟨as2,env,m2,S2,(G.mono S T1).mono S1 T2,az.bind P2 λwi m3 as3 H3 vi T3 S3 R3 P3=>?_⟩;refine GT S3 (R2.mono S2 T3) R3 ((R1.mono S1 T2).mono S2 T3) P3 λm4 H4 T4 S4 P4=>?_;exact az.next (m:=m4) P4 S4 ((((G.mono S T1).mono S1 T2).mono S2 T3).mono S3 T4)
end
section
variable{cl:Nat->List Wd->Me->Rz}{X:Cx}{e i j:Ex}{x y z:Expr}{pos:Pos}
def iB:Bo->Bool
 |.add=>true
 |.sub=>true
 |_=>false
def ma:Bo->Int->Int->Int
 |.sub=>λi j=>i-j
 |_=>λi j=>i+j
def BA (h:iB op=true):lT X (fY op) (lH (ma op)):=by
 cases op with
 |add=>exact DF
 |sub=>exact DE
 |_=>cases h
def FS (h:iB op=true){i j:Int}:dh op (.int i) (.int j) m=.ok (.int (ma op i j)) m:=by
 cases op with
 |add=>rfl
 |sub=>rfl
 |_=>cases h
def FR {K:Qb}(hop:iB op=true)(Rx:ai K as H wx vx)(Ry:ai K as H wy vy)(h:az K as H D (iy op wx wy m env f))(k:∀z,az K as H D (f (.int z) m)->Q (.int z) H):lH (ma op) vx vy H Q:=by
 cases wx with
 |int i=>
  cases wy with
  |int j=>
   have h':az K as H D ((dh op (.int i) (.int j) m).bindS env f):=h;rw[FS hop]at h';exact⟨i,j,aa.mp Rx,aa.mp Ry,k _ h'⟩
  |_=>exact h.elim
 |_=>exact h.elim
set_option tactic.hygienic true in
def Cv (hop:iB op=true)(hN:X.N.Nodup)(hi:X.N[n]?=some nm)(hx:Loc X.env.scope nm)(hf:X.fn nm=true\/X.env.scope.names.lookup nm=some .local)(he:PE X x (aM X.K (af cl e))):
  PS X (.AugAssign (.Name nm p1) (fY op) x pos) (xk X.K (bC cl (.aug n op e))):=PS.imp (DG hN hi hx he (BA hop) hf) λD σ H h=>by
 obtain⟨as,env,m,S,G,P⟩:=h;have P':az X.K as H D (match env[n]? with
  |some (some x)=>(af cl e env m).bindS env λy m1=>iy op x y m1 env λz m2=>.next (env.set n (some z)) m2
  |_=>.no):=P
 split at P'
 .rename_i wx hw;obtain⟨vx,hv,Rx⟩:=G.get n wx hw;refine⟨vx,hv,as,env,m,S,G,az.bind P' λwy m1 as1 H1 vy T1 S1 R1 P1=>?_⟩;refine FR hop (Rx.mono S T1) R1 P1 λz P2=>?_;exact az.next (m:=m1) P2 S1 ((G.mono S T1).set (aa.mpr rfl) n)
 .exact P'.elim
end
section
variable{cl:Nat->List Wd->Me->Rz}{K:Qb}
structure dP(K:Qb)(g:TG)(st:Wd->En->Option En):Prop where
 ok:∀{as:List Addr}{H:Hp}{m:Me}{env env':En}{σ:St}{w:Wd}{v:V}{Q:L2.St->Hp->Prop},aQ K as m H->aF K as H env σ->ai K as H w v->st w env=some env'->(∀σ',aF K as H env' σ'->Q σ' H)->g v σ H Q
def GS(i:Nat):dP K (xl i) (λw env=>some (env.set i (some w))):=
 ⟨λS G R e k=>by cases e;exact k _ (G.set R i)⟩
set_option tactic.hygienic true in
def AN(i j:Nat):dP K (iC K 2 (wr (xl i) (wr (xl j) fP))) (du i j):=by
 refine⟨λ{as H m env env' σ w v Q} S G R e k=>?_⟩;unfold du at e;split at e
 .rename_i a b;cases e;obtain⟨p,vs,rfl,hq,rr⟩:=aj.mp R;obtain⟨va,vb,rfl,ra,rb⟩:=qh rr;exact⟨p,[va,vb],rfl,hq,rfl,va,[vb],rfl,vb,[],rfl,rfl,k _ ((G.set ra i).set rb j)⟩
 .cases e
set_option tactic.hygienic true in
def AM{g:TG}{st:Wd->En->Option En}{b:En->Me->Rs}(hg:dP K g st){D:bY}{as1 as':List Addr}{H1 H':Hp}{m':Me}{env':En}{σ':St}{x:Wd}{v:V}{next:En->Me->Rs}{N:L2.St->Hp->Prop}(T:Step as1 H1 as' H')(S':aQ K as' m' H')(G':aF K as' H' env' σ')(Rx:ai K as' H' x v)
  (Pt:az K as1 H1 D (match yT st b x env' m' with
    |.next e1 m1=>next e1 m1
    |.cont e1 m1=>next e1 m1
    |.brk e1 m1=>.next e1 m1
    |r=>r))
  (hN:∀as2 m2 e2 σ2 H2,Step as' H' as2 H2->aQ K as2 m2 H2->aF K as2 H2 e2 σ2->az K as1 H1 D (next e2 m2)->N σ2 H2) :
  g v σ' H' λσ2 H2=>xk K b {D with nx:=N,ct:=N,bk:=D.nx} σ2 H2:=by
 unfold yT at Pt;cases hs:st x env' with
 |none=>rw[hs]at Pt;exact Pt.elim
 |some e2=>
  rw[hs]at Pt;simp only[]at Pt;refine hg.ok S' G' Rx hs λσ2 G2=>⟨as',e2,m',S',G2,?_⟩;cases hr:b e2 m' with
  |next e3 m3=>rw[hr]at Pt;exact λas3 H3 σ3 U S3 G3=>hN as3 m3 e3 σ3 H3 U S3 G3 Pt
  |cont e3 m3=>rw[hr]at Pt;exact λas3 H3 σ3 U S3 G3=>hN as3 m3 e3 σ3 H3 U S3 G3 Pt
  |brk e3 m3=>rw[hr]at Pt;exact λas3 H3 σ3 U S3 G3=>Pt as3 H3 σ3 (T.trans U) S3 G3
  |ret w' m3=>rw[hr]at Pt;exact λas3 H3 v3 U S3 R3=>Pt as3 H3 v3 (T.trans U) S3 R3
  |exc c w' e3 m3=>rw[hr]at Pt;exact Pt.elim
  |no=>rw[hr]at Pt;exact Pt.elim
def AL {st:Wd->En->Option En}(hg:dP K g st)(h:xk K (λenv m=>(it env m).bindS env λw m1=>fm (yT st b) w env m1) D σ H):ss (hU K it) g (xk K b) D σ H:=by
 obtain⟨as,env,m,S,G,P⟩:=h;refine⟨as,env,m,S,G,az.bindI P λw m1 P1=>?_⟩;have seqs:∀(xs:List Wd),az K as H D (wM (yT st b) xs env m1)->∀as1 H1 J,Step as H as1 H1->aQ K as1 m1 H1->lr K as1 H1 J xs ->
   ∃W:Nat->Nat->L2.St->Hp->Prop,(∃m,W 0 m σ H1)/\∀i m σ H,W i m σ H ->
    (J.stop i H/\D.nx σ H)\/(J.go i H/\∃N:L2.St->Hp->Prop,(∀σ' H',N σ' H'->∃m',m'<m/\W (i+1) m' σ' H')/\∀x H',J.yld i H x H'->g x σ H' λσ2 H2=>xk K b {D with nx:=N,ct:=N,bk:=D.nx} σ2 H2):=by
  intro xs Pc as1 H1 J T1 S1 hI;obtain⟨vs,ok,hJ,iN,RL,stab⟩:=hI;have hlen:=RL.length;have Pc1:=az.step Pc T1;refine⟨λi n σ' H'=>∃as' m' env',i<=xs.length/\n=xs.length-i/\Step as1 H1 as' H'/\aQ K as' m' H'/\aF K as' H' env' σ'/\ok H'/\ae K as' H' xs vs/\az K as1 H1 D (wM (yT st b) (xs.drop i) env' m'),
   ⟨xs.length,as1,m1,env,WS _,rfl,.refl,S1,G.mono S T1,iN,RL,Pc1⟩,?_⟩
  rintro i n σ' H' ⟨as',m',env',hi,rfl,T',S',G',okH,RL',Pi⟩;by_cases hlt:i<xs.length
  .refine .inr ⟨hJ.go i H' okH (by rw[<-hlen];exact hlt),λσ2 H2=>∃as2 m2 env2,i+1<=xs.length/\Step as1 H1 as2 H2/\aQ K as2 m2 H2/\aF K as2 H2 env2 σ2/\ok H2/\ae K as2 H2 xs vs/\az K as1 H1 D (wM (yT st b) (xs.drop (i+1)) env2 m2),?_,λv H'' hy=>?_⟩
   .rintro σ2 H2 ⟨as2,m2,env2,q⟩;exact⟨xs.length-(i+1),by lia,as2,m2,env2,q.1,rfl,q.2⟩
   .obtain ⟨rfl,hv⟩:=hJ.yld i H' v H'' okH (by rw[<-hlen];exact hlt) hy;obtain⟨v',hv',Rx⟩:=RL'.get (i:=i) (x:=xs[i]) (by simp[hlt]);rw[hv]at hv';cases hv';rw[WP hlt]at Pi;refine AM hg (next:=λe m=>wM (yT st b) (xs.drop (i+1)) e m) T' S' G' Rx Pi ?_;intro as2 m2 e2 σ2 H2 U S2 G2 P2;exact⟨as2,m2,e2,hlt,T'.trans U,S2,G2,stab _ _ (S'.kp U) okH,RL'.mono S' U,P2⟩
  .have e:i=xs.length:=by lia
   subst e;rw[List.drop_length]at Pi;exact .inl ⟨hJ.stop _ H' okH (by lia),Pi as' H' σ' T' S' G'⟩
 cases w with
 |tup xs=>exact⟨rfl,λas1 H1 J T1 S1 hI=>seqs xs P1 as1 H1 J T1 S1 hI⟩
 |rol xs=>exact⟨rfl,λas1 H1 J T1 S1 hI=>seqs xs P1 as1 H1 J T1 S1 hI⟩
 |ref l=>
  have P2:az K as H D (wN (yT st b) l (av+1) 0 env m1):=P1;refine⟨?_,λas1 H1 J T1 S1 hI=>?_⟩
  .show (zz m1 l).isSome=true;cases e:zz m1 l with
   |some xs=>rfl
   |none=>
    unfold wN at P2;rw[e]at P2;exact P2.elim
  .obtain ⟨a,ha,rfl⟩:=hI;have Pc1:=az.step P2 T1;refine⟨λi n σ' H'=>∃as' m' env',as'[l]?=some a/\Step as1 H1 as' H'/\aQ K as' m' H'/\aF K as' H' env' σ'/\az K as1 H1 D (wN (yT st b) l n i env' m'),⟨av+1,as1,m1,env,ha,.refl,S1,G.mono S T1,Pc1⟩,?_⟩;rintro i n σ' H' ⟨as',m',env',hl,T',S',G',Pi⟩;cases n with
   |zero=>exact Pi.elim
   |succ n=>
    unfold wN at Pi;cases e:zz m' l with
    |none=>rw[e]at Pi;exact Pi.elim
    |some xs=>
     rw[e]at Pi;simp only[]at Pi;obtain⟨a',vs,ha',eH,RL⟩:=ya S' (zK e);rw[hl]at ha';cases ha';cases ex:xs[i]? with
     |none=>
      rw[ex]at Pi;have hle:vs.length<=i:=by rw[<-RL.length];exact QT.mp ex
      exact .inl ⟨⟨vs,bn.of eH,hle⟩,Pi as' H' σ' T' S' G'⟩
     |some x=>
      rw[ex]at Pi;obtain⟨v0,hv0,Rx⟩:=RL.get ex;refine .inr ⟨⟨vs,v0,bn.of eH,hv0⟩,λσ2 H2=>∃as2 m2 env2,as2[l]?=some a/\Step as1 H1 as2 H2/\aQ K as2 m2 H2/\aF K as2 H2 env2 σ2/\az K as1 H1 D (wN (yT st b) l n (i+1) env2 m2),?_,λv H'' hy=>?_⟩
      .rintro σ2 H2 q;exact⟨n,Wh _,q⟩
      .obtain ⟨rfl,hy⟩:=hy;have:=hy vs (bn.of eH);rw[hv0]at this;cases this;refine AM hg (next:=λe m=>wN (yT st b) l n (i+1) e m) T' S' G' Rx Pi ?_;intro as2 m2 e2 σ2 H2 U S2 G2 P2;exact⟨as2,m2,e2,U.get hl,T'.trans U,S2,G2,P2⟩
 |non=>exact P1.elim
 |bl k=>exact P1.elim
 |int i=>exact P1.elim
 |str s=>exact P1.elim
set_option tactic.hygienic true in
def IF (h:xk K (bC cl (.while c b)) D σ H):t5 (xQ K (af cl c)) (xk K (bC cl b)) D σ H:=by
 obtain⟨as,env,m,S,G,P⟩:=h;refine⟨λn σ' H'=>∃as' m' env',Step as H as' H'/\aQ K as' m' H'/\aF K as' H' env' σ'/\az K as H D (kX (af cl c) (bC cl b) n env' m'),⟨1000000,as,m,env,.refl,S,G,P⟩,?_⟩;rintro n σ' H' ⟨as',m',env',T',S',G',Pi⟩;cases n with
 |zero=>exact Pi.elim
 |succ n=>
  unfold kX at Pi;refine⟨as',env',m',S',G',?_⟩;cases hr:af cl c env' m' with
  |no=>rw[hr]at Pi;exact Pi.elim
  |exc k w m1=>rw[hr]at Pi;exact Pi.elim
  |ok w m1=>
   rw[hr]at Pi;intro as1 H1 v T1 S1 R1;cases w with
   |bl k=>
    obtain rfl:=ah.mp R1;refine⟨k,rfl,?_⟩;cases k with
    |false=>exact qW (Pi as1 H1 σ' (T'.trans T1) S1 (G'.mono S' T1))
    |true=>
     refine g9 ⟨λσ2 H2=>∃as2 m2 env2,Step as H as2 H2/\aQ K as2 m2 H2/\aF K as2 H2 env2 σ2/\az K as H D (kX (af cl c) (bC cl b) n env2 m2),λσ2 H2 q=>⟨n,Wh _,q⟩,as1,env',m1,S1,G'.mono S' T1,?_⟩;simp only[]at Pi;have T2:=T'.trans T1;cases hb:bC cl b env' m1 with
     |next e3 m3=>rw[hb]at Pi;exact λas3 H3 σ3 U S3 G3=>⟨as3,m3,e3,T2.trans U,S3,G3,Pi⟩
     |cont e3 m3=>rw[hb]at Pi;exact λas3 H3 σ3 U S3 G3=>⟨as3,m3,e3,T2.trans U,S3,G3,Pi⟩
     |brk e3 m3=>rw[hb]at Pi;exact λas3 H3 σ3 U S3 G3=>Pi as3 H3 σ3 (T2.trans U) S3 G3
     |ret w' m3=>rw[hb]at Pi;exact λas3 H3 v3 U S3 R3=>Pi as3 H3 v3 (T2.trans U) S3 R3
     |exc k w' e3 m3=>rw[hb]at Pi;exact Pi.elim
     |no=>rw[hb]at Pi;exact Pi.elim
   |_=>exact Pi.elim
end
section
variable{X:Cx}{cl:Nat->List Wd->Me->Rz}
def vw(n j:Nat):Ex->Bool
 |.var i=>decide (i<n) && ! decide (i=j)
 |.lit _=>true
 |.unit=>true
 |.pair a b=>vw n j a&&vw n j b
 |.call _ a=>vw n j a
 |.blt _ a=>vw n j a
 |.idx a b=>vw n j a&&vw n j b
 |_=>false
theorem wV (h:∀i,i<n->i≠j->e1[i]?=e2[i]?):∀(e:Ex) (m:Me),vw n j e=true->af cl e e1 m=af cl e e2 m
 |.var i,m,q=>by
  simp only[vw,Qq,Nc,Wm,decide_eq_false_iff_not]at q;unfold af;rw[h i q.1 q.2]
 |.lit _,m,_=>rfl
 |.unit,_,_=>rfl
 |.pair a b,m,q=>by
  simp only[vw,Qq]at q;show(af cl a e1 m).bind (λx m1=>(af cl b e1 m1).bind λy m2=>.ok (.tup (x::zn y)) m2)=(af cl a e2 m).bind (λx m1=>(af cl b e2 m1).bind λy m2=>.ok (.tup (x::zn y)) m2);rw[wV h a m q.1];congr 1;funext x m1;rw[wV h b m1 q.2]
 |.call k a,m,q=>by
  show(af cl a e1 m).bind _=(af cl a e2 m).bind _;rw[wV h a m q]
 |.blt k a,m,q=>by
  show(af cl a e1 m).bind _=(af cl a e2 m).bind _;rw[wV h a m q]
 |.idx a b,m,q=>by
  simp only[vw,Qq]at q;show(af cl a e1 m).bind (λx m1=>(af cl b e1 m1).bind λy m2=>jx x y m2)=(af cl a e2 m).bind (λx m1=>(af cl b e2 m1).bind λy m2=>jx x y m2);rw[wV h a m q.1];congr 1;funext x m1;rw[wV h b m1 q.2]
def eh(p:List Nat×Wd):Wd:=.tup [.str p.1,p.2]
def Cu(ws:List (List Nat×Wd))(i:Nat)(m:Me):zA .ptp (.tup (ws.map eh)) (.int 0) i m=some (ws[i]?.map λp=>(.str p.1,p.2)):=by
 show(match (ws.map eh)[i]? with
  |none=>some none
  |some w=>(iF w).map some)=_
 rw[Qv];cases ws[i]?<;>rfl
def GR {ws:List (List Nat×Wd)}(hj:j<env.length)(le:vw (env.length+1) j elt=true)(lm:vw (env.length+1) j mx=true)(S:aQ X.K as m H)(G:aF X.K as H (env.set j none) σ)(hs:σ[j]?=some (some (.ref p)))(hp:H p=some (wO p o))(np:p∉as)(f:FO X.prog X.w p o ep kvs)(hl:kvs.length=ws.length)(hk:∀(i:Nat) (k:List Nat) (w:Wd),ws[i]?=some (k,w)->∃v,kvs[i]?=some ((Sum.inr ⟨k.toArray⟩:bv),v)/\wf kvs (Sum.inr ⟨k.toArray⟩)=some v/\ai X.K as H w v)(P:aq X.K as H Q (yf (λu v m=>af cl (.cmp .eq (.var (env.length+1)) mx) (env++[some u]++[some v]) m) (λu v m=>af cl elt (env++[some u]++[some v]) m) (zA .ptp (.tup (ws.map eh)) (.int 0)) (av+1) 0 [] m)):
  kW ly (AX X (ja j)) (ln (eL (rC X.K .eq) (eL (gH X) (ja j) (ja env.length)) (aM X.K (af cl mx)))) (aM X.K (af cl elt)) σ H Q:=by
 have hjs:j<σ.length:=(Qa.mp hs).1;have hls:env.length=σ.length:=by have:=G.len;simpa using this
 refine⟨.ref p,hs,p,o,ep,kvs,rfl,f,hp,λD hD=>?_⟩;refine⟨λi n ys H'=>∃as' m' acc,cJ X.K as H D (env.set j none) σ as' m' acc ys H' /\
  aq X.K as H Q (yf (λu v m=>af cl (.cmp .eq (.var (env.length+1)) mx) (env++[some u]++[some v]) m) (λu v m=>af cl elt (env++[some u]++[some v]) m) (zA .ptp (.tup (ws.map eh)) (.int 0)) n i acc m'),⟨av+1,as,m,[],cJ.start (as:=as) (H:=H) S G hD,P⟩,?_⟩
 rintro i n ys H' ⟨as',m',acc,M,Pi⟩;have hp':=M.T.frame _ _ hp np;cases n with
 |zero=>exact Pi.elim
 |succ n=>
  unfold yf at Pi;rw[Cu]at Pi;cases hw:ws[i]? with
  |none=>
   rw[hw]at Pi;have hi:=QT.mp hw;exact .inl ⟨⟨hp',by lia⟩,x5 M.S M.T hD M.hD M.n M.R Pi⟩
  |some kw=>
   obtain⟨k,w⟩:=kw;rw[hw]at Pi;obtain⟨v,hv1,hv2,R⟩:=hk i k w hw;have hi:=(Qa.mp hv1).1;refine .inr ⟨⟨hp',hi⟩,λx H'' hy=>?_⟩;obtain⟨rfl,kv,hkv,rfl⟩:=hy;rw[hv1]at hkv;cases hkv;have hlow:∀i',i'<env.length+1->i'≠j->(env++[some (Wd.str k)]++[some w])[i']?=(env.set j none++[some (Wd.str k)])[i']?:=λi' h1 h2=>by
    rw[Qg (by simp;lia)];by_cases z:i'<env.length
    .rw[Qg z,Qg (by simpa using z),Qu (λe=>h2 e.symm)]
    .rw[Qi (by lia),Qi (by simp;lia),Q5]
   have hvar:∀m,af cl (.var (env.length+1)) (env++[some (Wd.str k)]++[some w]) m=.ok w m:=λm=>by
    unfold af;rw[Qi (by simp)];simp
   have e1:∀m,af cl (.cmp .eq (.var (env.length+1)) mx) (env++[some (Wd.str k)]++[some w]) m=(af cl mx (env.set j none++[some (Wd.str k)]) m).bind λy m2=>cZ .eq w y m2:=λm=>by
    show(af cl (.var (env.length+1)) _ m).bind (λx m1=>(af cl mx _ m1).bind λy m2=>cZ .eq x y m2)=_;rw[hvar m];show(af cl mx (env++[some (Wd.str k)]++[some w]) m).bind (λy m2=>cZ .eq w y m2)=_;rw[wV hlow mx m lm]
   have Pi:aq X.K as H Q (((af cl mx (env.set j none++[some (Wd.str k)]) m').bind λy m2=>cZ .eq w y m2).bind λb m1=>match b with
     |.bl true=>(af cl elt (env++[some (Wd.str k)]++[some w]) m1).bind λz m2=>if acc.length<av then yf (λu v m=>af cl (.cmp .eq (.var (env.length+1)) mx) (env++[some u]++[some v]) m) (λu v m=>af cl elt (env++[some u]++[some v]) m) (zA .ptp (.tup (ws.map eh)) (.int 0)) n (i+1) (acc++[z]) m2 else .no
     |.bl false=>yf (λu v m=>af cl (.cmp .eq (.var (env.length+1)) mx) (env++[some u]++[some v]) m) (λu v m=>af cl elt (env++[some u]++[some v]) m) (zA .ptp (.tup (ws.map eh)) (.int 0)) n (i+1) acc m1
     |_=>.no):=by
    have:=Pi;simp only[QJ]at this;rw[e1]at this;exact this
   have G1:aF X.K as' H'' (env.set j none++[some (Wd.str k)]) (σ++[some (V.str ⟨k.toArray⟩)]):=M.G.push (aB.mpr rfl);refine⟨[V.str ⟨k.toArray⟩],rfl,?_⟩;refine⟨.ref p,by rw[Qg hjs];exact hs,.str ⟨k.toArray⟩,by rw[hls,Qi (Qj _)];simp,p,o,ep,kvs,Sum.inr ⟨k.toArray⟩,v,rfl,rfl,f,hp',hv2,?_⟩;have Pi':aq X.K as H Q ((af cl mx (env.set j none++[some (Wd.str k)]) m').bind λy m2=>(cZ .eq w y m2).bind λb m1=>match b with
     |.bl true=>(af cl elt (env++[some (Wd.str k)]++[some w]) m1).bind λz m2=>if acc.length<av then yf (λu v m=>af cl (.cmp .eq (.var (env.length+1)) mx) (env++[some u]++[some v]) m) (λu v m=>af cl elt (env++[some u]++[some v]) m) (zA .ptp (.tup (ws.map eh)) (.int 0)) n (i+1) (acc++[z]) m2 else .no
     |.bl false=>yf (λu v m=>af cl (.cmp .eq (.var (env.length+1)) mx) (env++[some u]++[some v]) m) (λu v m=>af cl elt (env++[some u]++[some v]) m) (zA .ptp (.tup (ws.map eh)) (.int 0)) n (i+1) acc m1
     |_=>.no):=by
    cases z:af cl mx (env.set j none++[some (Wd.str k)]) m' with
    |ok y m2=>rw[z]at Pi;exact Pi
    |exc c y m2=>rw[z]at Pi;exact Pi
    |no=>rw[z]at Pi;exact Pi
   refine⟨as',_,m',M.S,G1,eZ Pi' M.T λy m2 as2 H2 u T2 S2 R2 P2=>?_⟩;have M2:=M.go T2 S2;refine⟨as2,m2,w,y,S2,(R.mono S M.T).mono M.S T2,R2,eZ P2 M2.T λwb m3 as3 H3 vb T3 S3 R3 P3=>?_⟩;have M3:=M2.go T3 S3;cases wb with
   |bl b=>
    obtain rfl:=ah.mp R3;refine⟨b,rfl,?_⟩;cases b with
    |false=>exact qW ⟨n,Wh _,as3,m3,acc,M3,P3⟩
    |true=>
     have P3:aq X.K as H Q ((af cl elt (env++[some (Wd.str k)]++[some w]) m3).bind λz m2=>if acc.length<av then yf (λu v m=>af cl (.cmp .eq (.var (env.length+1)) mx) (env++[some u]++[some v]) m) (λu v m=>af cl elt (env++[some u]++[some v]) m) (zA .ptp (.tup (ws.map eh)) (.int 0)) n (i+1) (acc++[z]) m2 else .no):=P3;rw[wV hlow elt m3 le]at P3;refine g9 ⟨as3,_,m3,S3,(G1.mono M.S T2).mono S2 T3,eZ P3 M3.T λwy m4 as4 H4 vy T4 S4 R4 P4=>?_⟩;have M4:=M3.go T4 S4;by_cases hlm:acc.length<av
     .rw[M6 hlm]at P4;exact⟨M4.hD,by rw[<-M4.R.length];exact Qe hlm xb,n,Wh _,as4,m4,acc++[wy],M4.push hD R4,P4⟩
     .rw[M7 hlm]at P4;exact P4.elim
   |_=>exact P3.elim
def Ct(k:List Nat)(a:Ex)(env:En)(m:Me):af cl (c9 k a) env m=(af cl a env m).bind λw m1=>.ok (eh (k,w)) m1:=by
 show((((af cl a env m).bind λy m2=>(Rz.ok (.tup []) m2).bind λz m3=>.ok (.tup (y::zn z)) m3).bind λy m2=>.ok (.tup (Wd.str k::zn y)) m2).bind λx m1=>if(zn x).length<=av then .ok (.tup (zn x)) m1 else .no)=_;cases af cl a env m with
 |ok w m1=>
  show(if([Wd.str k,w]:List Wd).length<=av then Rz.ok (.tup [.str k,w]) m1 else .no)=_;rw[M6 (show([Wd.str k,w]:List Wd).length<=av by show 2<=av;decide)];rfl
 |exc c w m1=>rfl
 |no=>rfl
def GQ (h1:af cl (wu a b c d) env m=.ok w m'):
  ∃wa m1 wb m2 wc m3 wd,af cl a env m=.ok wa m1/\af cl b env m1=.ok wb m2/\af cl c env m2=.ok wc m3/\af cl d env m3=.ok wd m'/\w=.tup [wa,wb,wc,wd]:=by
 obtain⟨z,mz,g1,g2⟩:=c7 (show(af cl (.pair a (.pair b (.pair c (.pair d .unit)))) env m).bind (λx m1=>if(zn x).length<=av then Rz.ok (.tup (zn x)) m1 else .no)=_ from h1);obtain⟨wa,m1,p1,q1⟩:=c7 (show(af cl a env m).bind (λx m1=>(af cl (.pair b (.pair c (.pair d .unit))) env m1).bind λy m2=>Rz.ok (.tup (x::zn y)) m2)=_ from g1);obtain⟨yb,n1,p2,q2⟩:=c7 q1;obtain⟨wb,m2,p3,q3⟩:=c7 (show(af cl b env m1).bind (λx m1=>(af cl (.pair c (.pair d .unit)) env m1).bind λy m2=>Rz.ok (.tup (x::zn y)) m2)=_ from p2);obtain⟨yc,n2,p4,q4⟩:=c7 q3;obtain⟨wc,m3,p5,q5⟩:=c7 (show(af cl c env m2).bind (λx m1=>(af cl (.pair d .unit) env m1).bind λy m2=>Rz.ok (.tup (x::zn y)) m2)=_ from p4);obtain⟨yd,n3,p6,q6⟩:=c7 q5;obtain⟨wd,m4,p7,q7⟩:=c7 (show(af cl d env m3).bind (λx m1=>(Rz.ok (.tup []) m1).bind λy m2=>Rz.ok (.tup (x::zn y)) m2)=_ from p6);cases q7;cases q6;cases q4;cases q2
 replace g2:(if([wa,wb,wc,wd]:List Wd).length<=av then Rz.ok (.tup [wa,wb,wc,wd]) mz else .no)=.ok w m':=g2
 rw[M6 (show([wa,wb,wc,wd]:List Wd).length<=av by show 4<=av;decide)]at g2;cases g2;exact⟨wa,m1,wb,m2,wc,m3,wd,p1,p3,p5,p7,rfl⟩
def jm (h:af cl (c9 k a) env m=.ok w m'):∃u,af cl a env m=.ok u m'/\w=eh (k,u):=by
 rw[Ct]at h;obtain⟨u,m1,h1,h2⟩:=c7 h;cases h2;exact⟨u,h1,rfl⟩
def GP {K:Qb}(h:az K as H D (r.bindS env λw m1=>.ret w m1)):aq K as H D.rt r:=by
 cases r with
 |ok w m'=>exact h
 |exc c w m'=>exact h
 |no=>exact h
def Cs {c1 c2 c3 c4}(hu:X.A.units+64<Mh)(hc:X.calm=true)(hN:X.N.Nodup)(hj:X.N[j]?=some mkn)(hl:Loc X.env.scope mkn)(hf:X.fn mkn=true)(e1:s1.cps.toList=k1)(e2:s2.cps.toList=k2)(e3:s3.cps.toList=k3)(e4:s4.cps.toList=k4)(n12:k1≠k2)(n13:k1≠k3)(n14:k1≠k4)(n23:k2≠k3)(n24:k2≠k4)(n34:k3≠k4)(hsw:LV (.Dict [some (.Constant (.str s1) c1 p1),some (.Constant (.str s2) c2 p2),some (.Constant (.str s3) c3 p3),some (.Constant (.str s4) c4 p4)] [x1,x2,x3,x4] pd) (some (.Name mkn p0)) pa.line X.env=pure false)(ha:PE X x1 (aM X.K (af cl a)))(hb:PE X x2 (aM X.K (af cl b)))(hcc:PE X x3 (aM X.K (af cl c)))(hd:PE X x4 (aM X.K (af cl d)))(hv:PE X (.Name mkn pi) (ja j))(B:bM X scope [side])(hm:∀Xc,bz X scope [side] Xc->PE Xc (.Name mkn pm) (ja j)/\PE Xc (.Name side ps) (ja X.N.length)/\PE Xc xm (aM X.K (af cl mx))/\PE Xc xe (aM X.K (af cl elt)))(hmk:Mf .Eq xm=false)(le:vw (X.N.length+1) j elt=true)(lm:vw (X.N.length+1) j mx=true):
  cv X [.Assign [.Name mkn p0] (.Dict [some (.Constant (.str s1) c1 p1),some (.Constant (.str s2) c2 p2),some (.Constant (.str s3) c3 p3),some (.Constant (.str s4) c4 p4)] [x1,x2,x3,x4] pd) pa,
   .Return (some (.ListComp xe [⟨.Name side pt,.Name mkn pi,[.Compare (.Subscript (.Name mkn pm) (.Name side ps) pq) [.Eq] [xm] pc],0⟩] scope pl)) pr] (xk X.K (bC cl (.ret (iw X.N.length k1 k2 k3 k4 a b c d mx elt)))):=by
 obtain rfl:=wU e1;obtain rfl:=wU e2;obtain rfl:=wU e3;obtain rfl:=wU e4;intro pins s σ H D I h;have hlen:=I.len;have body:∀Xc,bz X scope [side] Xc->fI Xc [.Compare (.Subscript (.Name mkn pm) (.Name side ps) pq) [.Eq] [xm] pc] (ln (eL (rC X.K .eq) (eL (gH X) (ja j) (ja X.N.length)) (aM X.K (af cl mx))))/\PE Xc xe (aM X.K (af cl elt)):=λXc c=>by
  obtain⟨h1,h2,h3,h4⟩:=hm Xc c;refine⟨qc ?_,h4⟩;have q:=uW (pos:=pc) (jB (X:=Xc) (by rw[c.A];exact hu) .eq) (lh (pos:=pq) oX h1 h2 (λ_ _=>rfl)) h3 hmk;have er:gH Xc=gH X:=by unfold gH;rw[c.prog,c.w]
  rw[c.K,er]at q;exact q
 refine(wR (nE hN hj hl (GD (xx wm ha (xx wm hb (xx wm hcc (xx wm hd Ab)))) rfl rfl (by simp) (by show 4<=15;decide)) hsw (.inl hf)) (vS (gU (w9 B hc (ji B) (GE hv) body)))) pins s σ H D I ?_;obtain⟨as,env,m,S,G,P⟩:=h;have hle:env.length=X.N.length:=by rw[G.len,hlen]
 have P:aq X.K as H D.rt ((af cl (wu (c9 k1 a) (c9 k2 b) (c9 k3 c) (c9 k4 d)) env m).bind λx m1=>(Rz.ok (.int 0) m1).bind λy m2=>
   yf (λu v m=>af cl (.cmp .eq (.var (X.N.length+1)) mx) (env++[some u]++[some v]) m) (λu v m=>af cl elt (env++[some u]++[some v]) m) (zA .ptp x y) (av+1) 0 [] m2):=GP P
 cases hr:af cl (wu (c9 k1 a) (c9 k2 b) (c9 k3 c) (c9 k4 d)) env m with
 |no=>rw[hr]at P;exact P.elim
 |exc c w m'=>rw[hr]at P;exact P.elim
 |ok w m4=>
  rw[hr]at P;obtain⟨ta,m1,tb,m2,tc,m3,td,ea,eb,ec,ed,rfl⟩:=GQ hr;obtain⟨wa,fa,rfl⟩:=jm ea;obtain⟨wb,fb,rfl⟩:=jm eb;obtain⟨wc,fc,rfl⟩:=jm ec;obtain⟨wd,fd,rfl⟩:=jm ed;intro p hpn;have T0:Step as H as (aJ H p (.dK [])):=⟨⟨[],by simp⟩,λb o h _=>by rw[zj (zr h hpn)];exact h,λb hb=>.inl hb⟩;have S0:aQ X.K as m (aJ H p (.dK [])):=S.keep T0 λb _ o e=>by rw[zj (zr e hpn)];exact e
  have G0:=G.mono S T0;have h0:aJ H p (.dK []) p=some (.dK []):=zm;have n0:p∉as:=S.new hpn;refine⟨as,env,m,S0,G0,?_⟩;rw[fa];intro as1 H1 va T1 S1 R1;have h1:=T1.frame _ _ h0 n0;have n1:=T1.out h0 n0;have G1:=G0.mono S0 T1;refine⟨as1,env,m1,S1,G1,?_⟩;rw[fb];intro as2 H2 vb T2 S2 R2;have h2:=T2.frame _ _ h1 n1;have n2:=T2.out h1 n1;have G2:=G1.mono S1 T2;refine⟨as2,env,m2,S2,G2,?_⟩;rw[fc];intro as3 H3 vc T3 S3 R3;have h3:=T3.frame _ _ h2 n2;have n3:=T3.out h2 n2;have G3:=G2.mono S2 T3;refine⟨as3,env,m3,S3,G3,?_⟩;rw[fd];intro as4 H4 vd T4 S4 R4;have h4:=T4.frame _ _ h3 n3;have n4:=T4.out h3 n3;have G4:=G3.mono S3 T4;have ne:∀{u v:List Nat},u≠v->(Sum.inr ⟨u.toArray⟩:bv)≠Sum.inr ⟨v.toArray⟩:=λ{u v} h e=>h (by
   have e:=Sum.inr.inj e;have e:u.toArray=v.toArray:=Str.mk.inj e;simpa using M9 WA e)
  refine⟨h4,[((Sum.inr ⟨k1.toArray⟩:bv),va),(Sum.inr ⟨k2.toArray⟩,vb),(Sum.inr ⟨k3.toArray⟩,vc),(Sum.inr ⟨k4.toArray⟩,vd)],rfl,(by show 4<=15;decide),by simp[n12,n13,n14,n23,n24,n34],λo ep f=>?_⟩;have T04:=((T0.trans T1).trans T2).trans (T3.trans T4);have T5:Step as H as4 (aJ H4 p (wO p o)):=⟨T04.pre,λb o h hb=>by rw[zj (zr h hpn)];exact T04.frame b o h hb,T04.fresh⟩;have k6:Kp X.K H4 (aJ H4 p (wO p o)):=iX h4 trivial;have S5:aQ X.K as4 m4 (aJ H4 p (wO p o)):=S4.updK k6 λb hb o e=>by rw[zj (by rintro rfl;exact n4 hb)];exact e
  have G5:aF X.K as4 (aJ H4 p (wO p o)) (env.set j none) (σ.set j (some (.ref p))):=by
   have Gk:=G4.kp k6;refine⟨by simp[Gk.len],λi w e=>?_⟩;by_cases z:i=j
   .subst z;rw[List.getElem?_set_self' ]at e;cases hz:env[i]? with
    |none=>rw[hz]at e;cases e
    |some q=>rw[hz]at e;cases e
   .rw[Qu (λq=>z q.symm)]at e ⊢;exact Gk.get i w e
  have hjn:j<X.N.length:=(Qa.mp hj).1;have res:=GR (X:=X) (cl:=cl) (elt:=elt) (mx:=mx) (env:=env) (σ:=σ.set j (some (.ref p))) (m:=m4) (H:=aJ H4 p (wO p o)) (Q:=D.rt) (p:=p) (o:=o) (ep:=ep) (j:=j) (ws:=[(k1,wa),(k2,wb),(k3,wc),(k4,wd)])
   (by lia) (by rw[hle];exact le) (by rw[hle];exact lm) S5 G5 (by rw[QQ (by lia)]) zm n4 f rfl (λi k w hw=>by
    match i,hw with
    |0,hw=>cases hw;exact⟨va,rfl,by simp[wf],((((R1.mono S1 T2).mono S2 T3).mono S3 T4).kp k6)⟩
    |1,hw=>cases hw;exact⟨vb,rfl,by simp[wf,n12],(((R2.mono S2 T3).mono S3 T4).kp k6)⟩
    |2,hw=>cases hw;exact⟨vc,rfl,by simp[wf,n13,n23],((R3.mono S3 T4).kp k6)⟩
    |3,hw=>cases hw;exact⟨vd,rfl,by simp[wf,n14,n24,n34],(R4.kp k6)⟩
    |i+4,hw=>simp at hw) (by
    rw[hle];exact aq.step P T5)
  rw[hle]at res;exact res
end
set_option genInjectivity false in
inductive Ns where
 |s (st:Stmt)|b (sts:List Stmt)
def vA(sc:Lo)(x:Str):Bool:=decide (sc.names.lookup x=some .local) || decide (sc.names.lookup x=some .cell)
def nM:Expr->Bool
 |.Call _ _ _ _=>true
 |.Name _ _=>true
 |.ListComp _ _ _ _=>true
 |_=>false
def nN:Expr->Bool
 |.Call _ _ _ _=>true
 |.Name _ _=>true
 |_=>false
def rT(cl:Nat->List Wd->Me->Rz)(X:Cx)(s:Sm):Ns->Prop
 |.s st=>PS X st (xk X.K (bC cl s))
 |.b sts=>cv X sts (xk X.K (bC cl s))
structure eA(X:Cx):Prop where
 nd:X.N.Nodup
 fn:∀x,X.fn x=true
 hp:PassesOwn (LL X.prog X.w) X.A X.env X.xe
section
variable{cl:Nat->List Wd->Me->Rz}
def xq (h:vA sc x=true):Loc sc x:=by
 unfold vA at h;simp only[Ww,Nc]at h;exact h
def uD (hc:X.calm=true)(hX:eA X)(hi:X.N[i]?=some nm)(hl:Loc X.env.scope nm)(B:bM X scope xs)(hT:iS X scope xs tg g un)(hI:PI X tg w wi)(body:∀Xc,bz X scope xs Xc->fI Xc fs tc/\PE Xc x te)(hset:∀v,Ma w X.env v=pure v)(hbind:∀σ H Q,aM X.K (af cl ce) σ H Q->kW un wi tc te σ H Q)(he:PE X (.ListComp x [⟨tg,w,fs,0⟩] scope pos') (aM X.K (af cl ce))):
  PS X (.Assign [.Name nm p1] (.ListComp x [⟨tg,w,fs,0⟩] scope pos') pos) (xk X.K (bC cl (.asg i ce))):=by
 have hsw:∃b:Bool,LV (.ListComp x [⟨tg,w,fs,0⟩] scope pos') (some (.Name nm p1)) pos.line X.env=pure b:=⟨_,rfl⟩;obtain⟨b,hb⟩:=hsw;cases b with
 |false=>exact PS.imp (nE hX.nd hi hl he hb (.inl (hX.fn nm))) λD σ H q=>jL q
 |true=>
  refine PS.imp (Jc B hc hT hI body hX.nd hi hl (.inl (hX.fn nm)) hb hset) λD σ H q=>?_;exact hbind _ _ _ (jL q)
def Df(i j:Nat)(e:Ex)(env:En)(m:Me):bC cl (.fort i j (.tup (.pair e .unit)) .skip) env m=(af cl e env m).bindS env λw m1=>match du i j w env with
  |some env'=>.next env' m1
  |none=>.no:=by
 have h:af cl (.tup (.pair e .unit)) env m=(af cl e env m).bind λw m1=>.ok (.tup [w]) m1:=by
  show(((af cl e env m).bind λx m1=>.ok (.tup [x]) m1).bind λx m1=>if(zn x).length<=av then .ok (.tup (zn x)) m1 else .no)=_;cases af cl e env m with
  |ok w m1=>
   simp only[Rz.bind];simp[zn,av]
  |exc c w m1=>rfl
  |no=>rfl
 show(af cl (.tup (.pair e .unit)) env m).bindS env (λw m1=>fm (yT (du i j) (bC cl .skip)) w env m1)=_;rw[h];cases af cl e env m with
 |ok w m1=>
  show wM (yT (du i j) (bC cl .skip)) [w] env m1=match du i j w env with
   |some env'=>.next env' m1
   |none=>.no
  unfold wM yT;cases du i j w env with
  |none=>rfl
  |some e2=>rfl
 |exc c w m1=>rfl
 |no=>rfl
def GO {K:Qb}(h:xk K (bC cl (.fort i j (.tup (.pair e .unit)) .skip)) D σ H):fN (aM K (af cl e)) (iC K 2 (wr (xl i) (wr (xl j) fP))) D σ H:=by
 obtain⟨as,env,m,S,G,P⟩:=h;rw[Df]at P;refine⟨as,env,m,S,G,az.bind P λw m1 as1 H1 v T1 S1 R1 P1=>?_⟩;cases hs:du i j w env with
 |none=>rw[hs]at P1;exact P1.elim
 |some e2=>rw[hs]at P1;exact(AN i j).ok S1 (G.mono S T1) R1 hs λσ2 G2=>az.next (m:=m1) P1 S1 G2
def Hz {K:Qb}(h:xk K (bC cl (.unp3 i j k e)) D σ H):fN (aM K (af cl e)) (rX K 3 (wr (xl i) (wr (xl j) (wr (xl k) fP)))) D σ H:=by
 obtain⟨as,env,m,S,G,P⟩:=h;have P':az K as H D ((af cl e env m).bindS env λw m1=>match dJ i j k w m1 env with
  |some e1=>.next e1 m1
  |none=>.no):=P
 refine⟨as,env,m,S,G,az.bind P' λw m1 as1 H1 v T1 S1 R1 P1=>?_⟩;have fin:∀(ws:List Wd) (vs:List V),xL m1 w=some ws->ae K as1 H1 ws vs->vs.length=3/\wr (xl i) (wr (xl j) (wr (xl k) fP)) vs σ H1 D.nx:=by
  intro ws vs hs rl;unfold dJ at P1;rw[hs]at P1
  match ws,P1,rl with
  |[a,b,c],P1,rl=>
   obtain⟨va,r1,rfl,ra,rl⟩:=am.mp rl;obtain⟨vb,r2,rfl,rb,rl⟩:=am.mp rl;obtain⟨vc,r3,rfl,rc,rl⟩:=am.mp rl;rw[ax.mp rl];exact⟨rfl,va,[vb,vc],rfl,vb,[vc],rfl,vc,[],rfl,rfl,az.next (m:=m1) P1 S1 ((((G.mono S T1).set ra i).set rb j).set rc k)⟩
  |[],P1,_=>exact P1.elim
  |[_],P1,_=>exact P1.elim
  |[_,_],P1,_=>exact P1.elim
  |_::_::_::_::_,P1,_=>exact P1.elim
 have no:xL m1 w≠none:=λz=>by
  unfold dJ at P1;rw[z]at P1;exact P1
 cases w with
 |tup xs=>
  obtain⟨a,vs,rfl,hq,rl⟩:=aj.mp R1;obtain⟨q1,q2⟩:=fin xs vs rfl rl;exact .inl ⟨a,vs,rfl,hq,q1,q2⟩
 |rol xs=>
  obtain⟨a,vs,rfl,hq,rl⟩:=bb.mp R1;obtain⟨q1,q2⟩:=fin xs vs rfl rl;exact .inr ⟨a,vs,rfl,hq.sq,q1,q2⟩
 |ref l=>
  obtain⟨a,ha,rfl⟩:=aG.mp R1;cases e1:zz m1 l with
  |none=>exact M8 e1 no
  |some xs=>
   obtain⟨a',us,ha',eH,RL⟩:=ya S1 (zK e1);rw[ha]at ha';cases ha';obtain⟨q1,q2⟩:=fin xs us e1 RL;exact .inr ⟨a,us,rfl,bn.of eH,q1,q2⟩
 |non=>exact M8 rfl no
 |bl _=>exact M8 rfl no
 |int _=>exact M8 rfl no
 |str _=>exact M8 rfl no
def bH(C:Ctx)(sc:Lo)(N:List Str)(s:Sm)(n:Ns):Prop:=∀(cl:Nat → List Wd → Me → Rz) (d:Nat) (X:Cx),bB C X cl d → eA X → X.env.scope=sc → X.N=N → rT cl X s n
def De (hC:bB C X cl d)(hX:eA X)(h:bH C X.env.scope X.N s n):rT cl X s n:=h cl d X hC hX rfl rfl
def bH.«skip0»{C:Ctx}{sc:Lo}{N:List Str}:bH C sc N .skip (.b []):=by
 intro cl d X hC hX es eN;subst es;subst eN;exact FW
def bH.«one»{C:Ctx}{sc:Lo}{N:List Str}{s:Sm}{st:Stmt}(h:bH C sc N s (.s st)):bH C sc N s (.b [st]):=by
 intro cl d X hC hX es eN;subst es;subst eN;have ih:=h cl d X hC hX rfl rfl;exact vS ih
def bH.«seq»{C:Ctx}{sc:Lo}{N:List Str}{a b:Sm}{st st':Stmt}{r:List Stmt}(ha:bH C sc N a (.s st))(hb:bH C sc N b (.b (st'::r))):bH C sc N (.seq a b) (.b (st::st'::r)):=by
 intro cl d X hC hX es eN;subst es;subst eN;have iha:=ha cl d X hC hX rfl rfl;have ihb:=hb cl d X hC hX rfl rfl;exact Cy iha ihb
def bH.«asg»{C:Ctx}{sc:Lo}{N:List Str}{i:Nat}{e:Ex}{x:Str}{v:Expr}{p p':Pos}(hc:jJ v=false)(h1:N[i]?=some x)(h2:vA sc x=true)(hr:zo e=false)(he:aC C sc N e (.e v)):bH C sc N (.asg i e) (.s (.Assign [.Name x p] v p')):=by
 intro cl d X hC hX es eN;subst es;subst eN;exact PS.imp (nE hX.nd h1 (xq h2) ((zY he X hC rfl rfl).pe hr) (jK hc) (.inl (hX.fn _))) λD σ H q=>jL q
def bH.«asgC0»{C:Ctx}{sc:Lo}{N:List Str}{i:Nat}{elt it:Ex}{x y:Str}{z w:Expr}{scope:Lo}{p p' q q':Pos}(h1:N[i]?=some x)(h2:vA sc x=true)(hs:yH w=true)(hB:wn sc N scope [y]=true)(hi:aC C sc N it (.e w))(re:zo elt=false)(he:aC C (yo scope sc) (yF N [y]) elt (.e z)):
   bH C sc N (.asg i (.comp elt it (.lit (.bl true)))) (.s (.Assign [.Name x p] (.ListComp z [⟨.Name y q,w,[],0⟩] scope q') p')):=by
 intro cl d X hC hX es eN;subst es;subst eN;have hset:∀v,Ma w X.env v=pure v:=xT hs;refine uD (fs:=[]) (tc:=_) hC.calm hX h1 (xq h2) (yD hB) (ji (yD hB)) ((zY hi X hC rfl rfl).2 _) (te:=aM X.K (af cl elt)) (λXc c=>⟨vU,?_⟩) hset (λσ H Q q=>kH (λσ H Q q=>?_) q) ((zY (aC.comp0 hs hB hi re he) X hC rfl rfl).pe rfl)
 .have q:=(zY he Xc (hC.comp c) c.sc c.N).pe re;rw[c.K]at q;exact q
 .obtain ⟨as,env,m,S,G,P⟩:=q;obtain⟨b,e,q⟩:=aq.ok (m:=m) P S (ah.mpr rfl);cases e;exact q
def bH.«asgCZ0»{C:Ctx}{sc:Lo}{N:List Str}{i:Nat}{elt a b:Ex}{x y y':Str}{z w w':Expr}{scope:Lo}{p p' q q' q2 q3 q4 pt:Pos}{kt:Nat}(h1:N[i]?=some x)(h2:vA sc x=true)(hg:cA sc "zip"=true)(hB:wn sc N scope [y,y']=true)(hs:zF w=true)(hs':zF w'=true)(ra:zo a=false)(ha:aC C sc N a (.e w))(rb:zo b=false)(hb:aC C sc N b (.e w'))(re:zo elt=false)(he:aC C (yo scope sc) (yF N [y,y']) elt (.e z)):
   bH C sc N (.asg i (.compP .zip elt a b (.lit (.bl true)))) (.s (.Assign [.Name x p] (.ListComp z [⟨.Tuple [.Name y q,.Name y' q2] kt pt,.Call (.Name "zip" q3) [w,w'] [] q4,[],0⟩] scope q') p')):=by
 intro cl d X hC hX es eN;subst es;subst eN;refine uD (fs:=[]) (tc:=_) hC.calm hX h1 (xq h2) (yD hB) (jj hC.calm (yD hB)) (tO (yQ hg) (hC.blt _ (by simp[zB])) (yj ((zY ha X hC rfl rfl).pe ra) (yj ((zY hb X hC rfl rfl).pe rb) xI (zp hs')) (zp hs)) (by rw[zp hs,zp hs'];rfl) (zp hs')) (te:=aM X.K (af cl elt)) (λXc c=>⟨vU,?_⟩) (λ_=>rfl) (λσ H Q q=>jH (λσ H Q q=>?_) q) ((zY (aC.compZ0 hg hB hs hs' ra ha rb hb re he) X hC rfl rfl).pe rfl)
 .have q:=(zY he Xc (hC.comp c) c.sc c.N).pe re;rw[c.K]at q;exact q
 .obtain ⟨as,env,m,S,G,P⟩:=q;obtain⟨b,e,q⟩:=aq.ok (m:=m) P S (ah.mpr rfl);cases e;exact q
def bH.«sel»{C:Ctx}{sc:Lo}{N:List Str}{a b c d elt mx:Ex}{k1 k2 k3 k4:List Nat}{s1 s2 s3 s4 mkn side:Str}{j:Nat}{x1 x2 x3 x4 xe xm:Expr}{scope:Lo}{c1 c2 c3 c4}{p0 p1 p2 p3 p4 pd pa pt pi pm ps pq pc pl pr:Pos}(e1:s1.cps.toList=k1)(e2:s2.cps.toList=k2)(e3:s3.cps.toList=k3)(e4:s4.cps.toList=k4)(nd:[k1,k2,k3,k4].Nodup)
   (h1:N[j]?=some mkn) (h2:vA sc mkn=true) (h3:zP mkn=true) (v1:qk sc mkn=true) (g1:(yF N [side])[j]?=some mkn) (v2:qk (yo scope sc) mkn=true) (g2:(yF N [side])[N.length]?=some side) (v3:qk (yo scope sc) side=true) (g3:zP side=true) (hB:wn sc N scope [side]=true)
   (ra:zo a=false) (ha:aC C sc N a (.e x1)) (rb:zo b=false) (hb:aC C sc N b (.e x2)) (rc:zo c=false) (hc:aC C sc N c (.e x3)) (rd:zo d=false) (hd:aC C sc N d (.e x4))
   (rm:zo mx=false) (hm:aC C (yo scope sc) (yF N [side]) mx (.e xm)) (re:zo elt=false) (he:aC C (yo scope sc) (yF N [side]) elt (.e xe)) (hs:yH xm=true) (le:vw (N.length+1) j elt=true) (lm:vw (N.length+1) j mx=true) :
   bH C sc N (.ret (iw N.length k1 k2 k3 k4 a b c d mx elt)) (.b [.Assign [.Name mkn p0] (.Dict [some (.Constant (.str s1) c1 p1),some (.Constant (.str s2) c2 p2),some (.Constant (.str s3) c3 p3),some (.Constant (.str s4) c4 p4)] [x1,x2,x3,x4] pd) pa,
    .Return (some (.ListComp xe [⟨.Name side pt,.Name mkn pi,[.Compare (.Subscript (.Name mkn pm) (.Name side ps) pq) [.Eq] [xm] pc],0⟩] scope pl)) pr]):=by
 intro cl d X hC hX es eN;subst es;subst eN;simp only[QF,Qp,Q6,not_or,or_false]at nd;obtain⟨⟨n12,n13,n14⟩,⟨n23,n24⟩,n34,_⟩:=nd;obtain⟨o1,o2,_⟩:=yX h3;obtain⟨o3,o4,_⟩:=yX g3;refine Cs hC.room.units hC.calm hX.nd h1 (xq h2) (hX.fn _) e1 e2 e3 e4 n12 n13 n14 n23 n24 n34 (jK rfl) ((zY ha X hC rfl rfl).pe ra) ((zY hb X hC rfl rfl).pe rb) ((zY hc X hC rfl rfl).pe rc) ((zY hd X hC rfl rfl).pe rd) (vG h1 (kI v1) o1 o2) (yD hB) (λXc c=>⟨vG (by rw[c.N];exact g1) (by rw[c.sc];exact kI v2) o1 o2,vG (by rw[c.N];exact g2) (by rw[c.sc];exact kI v3) o3 o4,?_,?_⟩) (lq hs) le lm
 .have q:=(zY hm Xc (hC.comp c) c.sc c.N).pe rm;rw[c.K]at q;exact q
 .have q:=(zY he Xc (hC.comp c) c.sc c.N).pe re;rw[c.K]at q;exact q
def bH.«dput»{C:Ctx}{sc:Lo}{N:List Str}{j:Nat}{i e:Ex}{x y z:Expr}{p p':Pos}(hs:yP y=true)(ho:aC C sc N (.var j) (.e x))(ri:zo i=false)(hi:aC C sc N i (.e y))(re:zo e=false)(he:aC C sc N e (.e z)):bH C sc N (.dput j i e) (.s (.Assign [.Subscript x y p] z p')):=by
 intro cl d X hC hX es eN;subst es;subst eN;exact FU hC.room.units ((zY ho X hC rfl rfl).pe rfl) ((zY hi X hC rfl rfl).pe ri) ((zY he X hC rfl rfl).pe re) hs
def bH.«asgS»{C:Ctx}{sc:Lo}{N:List Str}{o i e:Ex}{x y z:Expr}{p p':Pos}(hs:yP y=true)(ro:zo o=false)(ho:aC C sc N o (.e x))(ri:zo i=false)(hi:aC C sc N i (.e y))(re:zo e=false)(he:aC C sc N e (.e z)):bH C sc N (.asgS o i e) (.s (.Assign [.Subscript x y p] z p')):=by
 intro cl d X hC hX es eN;subst es;subst eN;exact FT ((zY ho X hC rfl rfl).pe ro) ((zY hi X hC rfl rfl).pe ri) ((zY he X hC rfl rfl).pe re) hs
def bH.«aug»{C:Ctx}{sc:Lo}{N:List Str}{i:Nat}{op:Bo}{e:Ex}{x:Str}{v:Expr}{p p':Pos}(h1:N[i]?=some x)(h2:vA sc x=true)(h3:iB op=true)(hr:zo e=false)(he:aC C sc N e (.e v)):bH C sc N (.aug i op e) (.s (.AugAssign (.Name x p) (fY op) v p')):=by
 intro cl d X hC hX es eN;subst es;subst eN;exact Cv h3 hX.nd h1 (xq h2) (.inl (hX.fn _)) ((zY he X hC rfl rfl).pe hr)
def bH.«ite»{C:Ctx}{sc:Lo}{N:List Str}{c:Ex}{a b:Sm}{x:Expr}{xs ys:List Stmt}{p:Pos}(rc:zo c=false)(ic:vM c=false)(hc:aC C sc N c (.e x))(ha:bH C sc N a (.b xs))(hb:bH C sc N b (.b ys)):bH C sc N (.ite c a b) (.s (.If x xs ys p)):=by
 intro cl d X hC hX es eN;subst es;subst eN;have iha:=ha cl d X hC hX rfl rfl;have ihb:=hb cl d X hC hX rfl rfl;exact BB ((zY hc X hC rfl rfl).pt rc ic) iha ihb
def bH.«forv»{C:Ctx}{sc:Lo}{N:List Str}{i:Nat}{it:Ex}{body:Sm}{x:Str}{y:Expr}{sts:List Stmt}{p p':Pos}(h1:N[i]?=some x)(h2:vA sc x=true)(hs:yH y=true)(hi:aC C sc N it (.e y))(hb:bH C sc N body (.b sts)):bH C sc N (.forv i it body) (.s (.For (.Name x p) y sts [] p')):=by
 intro cl d X hC hX es eN;subst es;subst eN;have ihb:=hb cl d X hC hX rfl rfl;have hset:∀v,Ma y X.env v=pure v:=xT hs;refine PS.imp (tZ hX.hp hC.calm ((zY hi X hC rfl rfl).2 _) (y8 hX.nd h1 (xq h2) (.inl (hX.fn _))) ihb hset) λD σ H q=>?_;exact AL (GS i) q
def bH.«unp»{C:Ctx}{sc:Lo}{N:List Str}{i j:Nat}{e:Ex}{x x':Str}{v:Expr}{k}{p p' p2 p3:Pos}(h1:N[i]?=some x)(h2:vA sc x=true)(h3:N[j]?=some x')(h4:vA sc x'=true)(hv:nN v=true)(hr:zo e=false)(he:aC C sc N e (.e v)):
   bH C sc N (.fort i j (.tup (.pair e .unit)) .skip) (.s (.Assign [.Tuple [.Name x p,.Name x' p'] k p2] v p3)):=by
 intro cl d X hC hX es eN;subst es;subst eN;refine PS.imp (gX ((zY he X hC rfl rfl).pe hr) (gW hC.calm (y9 (y8 hX.nd h1 (xq h2) (.inl (hX.fn _))) (y9 (y8 hX.nd h3 (xq h4) (.inl (hX.fn _))) jh))) (jl (by intros;intro q;cases q)) (by cases v<;>first|rfl|cases hv)) λD σ H q=>?_;exact GO q
def bH.«unp3»{C:Ctx}{sc:Lo}{N:List Str}{i j l:Nat}{e:Ex}{x x' x'':Str}{v:Expr}{k}{p p' p2 p3 p4:Pos}(h1:N[i]?=some x)(h2:vA sc x=true)(h3:N[j]?=some x')(h4:vA sc x'=true)(h5:N[l]?=some x'')(h6:vA sc x''=true)(hv:nM v=true)(hr:zo e=false)(he:aC C sc N e (.e v)):
   bH C sc N (.unp3 i j l e) (.s (.Assign [.Tuple [.Name x p,.Name x' p',.Name x'' p4] k p2] v p3)):=by
 intro cl d X hC hX es eN;subst es;subst eN;refine PS.imp (gX ((zY he X hC rfl rfl).pe hr) (DS hC.calm (y9 (y8 hX.nd h1 (xq h2) (.inl (hX.fn _))) (y9 (y8 hX.nd h3 (xq h4) (.inl (hX.fn _))) (y9 (y8 hX.nd h5 (xq h6) (.inl (hX.fn _))) jh)))) (jl (by intros;intro q;cases q)) (by cases v<;>first|rfl|cases hv)) λD σ H q=>?_;exact Hz q
def bH.«fort»{C:Ctx}{sc:Lo}{N:List Str}{i j:Nat}{it:Ex}{body:Sm}{x x':Str}{y:Expr}{sts:List Stmt}{k}{p p' p2 p3:Pos}(h1:N[i]?=some x)(h2:vA sc x=true)(h3:N[j]?=some x')(h4:vA sc x'=true)(hs:yH y=true)(hi:aC C sc N it (.e y))(hb:bH C sc N body (.b sts)):bH C sc N (.fort i j it body) (.s (.For (.Tuple [.Name x p,.Name x' p2] k p3) y sts [] p')):=by
 intro cl d X hC hX es eN;subst es;subst eN;have ihb:=hb cl d X hC hX rfl rfl;have hset:∀v,Ma y X.env v=pure v:=xT hs;refine PS.imp (tZ hX.hp hC.calm ((zY hi X hC rfl rfl).2 _) (gW hC.calm (y9 (y8 hX.nd h1 (xq h2) (.inl (hX.fn _))) (y9 (y8 hX.nd h3 (xq h4) (.inl (hX.fn _))) jh))) ihb hset) λD σ H q=>?_;exact AL (AN i j) q
def bH.«while»{C:Ctx}{sc:Lo}{N:List Str}{c:Ex}{body:Sm}{x:Expr}{sts:List Stmt}{p:Pos}(rc:zo c=false)(ic:vM c=false)(hc:aC C sc N c (.e x))(hb:bH C sc N body (.b sts)):bH C sc N (.while c body) (.s (.While x sts [] p)):=by
 intro cl d X hC hX es eN;subst es;subst eN;have ihb:=hb cl d X hC hX rfl rfl;exact PS.imp (HH hX.hp ((zY hc X hC rfl rfl).pt rc ic) ihb) λD σ H q=>IF q
def bH.«ret»{C:Ctx}{sc:Lo}{N:List Str}{e:Ex}{x:Expr}{p:Pos}(hr:zo e=false)(he:aC C sc N e (.e x)):bH C sc N (.ret e) (.s (.Return (some x) p)):=by
 intro cl d X hC hX es eN;subst es;subst eN;exact Cw ((zY he X hC rfl rfl).pe hr)
def bH.«expr»{C:Ctx}{sc:Lo}{N:List Str}{e:Ex}{x:Expr}{p:Pos}(hc:jJ x=false)(hr:zo e=false)(he:aC C sc N e (.e x)):bH C sc N (.expr e) (.s (.Expr x p)):=by
 intro cl d X hC hX es eN;subst es;subst eN;exact FV ((zY he X hC rfl rfl).pe hr) hc
def bH.«never»{C:Ctx}{sc:Lo}{N:List Str}{st:Stmt}:bH C sc N .never (.s st):=by
 intro cl d X hC hX es eN;subst es;subst eN;exact GU
end
set_option genInjectivity false in
structure bc where
 nm:Str
 st:Stmt
 N:List Str
 ps:List Str
 fn:Fn
 on:Str
def jN(N ps:List Str)(sc:Lo):Bool:=
 decide (sc.kind=.function)&&(decide (sc.isCoroutine=false)&&(decide (sc.isGenerator=false)&&(decide N.Nodup&&(decide (N.take ps.length=ps) &&
  (ps.all (λx=>decide (sc.names.lookup x=some .local) || decide (sc.names.lookup x=some .cell))&&sc.names.all (λy=>!(decide (y.2=.free))))))))
def kJ (h:jN N ps sc=true):cL N ps sc:=by
 unfold jN at h;simp only[Qq,Ww,Nc,Wc,Wm,decide_eq_false_iff_not]at h;obtain⟨h1,h2,h3,h4,h5,h6,h7⟩:=h;exact⟨h1,h2,h3,h4,h5,h6,h7⟩
structure br(C:Ctx)(d:bc):Prop where
 sc:jN d.N d.ps (zL d.st)=true
 ar:d.ps.length=d.fn.ar
 sz:d.N.length=d.fn.sz
 body:bH C (zL d.st) d.N d.fn.body (.b (xa d.st))
section
variable{P:Lr}{w:Ls}{K:Qb}{mg:Str->Option Value}{base:Ly}{C:Ctx}{cl:Nat->List Wd->Me->Rz}
def kK (R:ae K as H ws vs)(hl:ws.length=fn.ar)(hN:N.length=fn.sz):aF K as H (yU fn ws) (L2.start N vs):=by
 have hv:=R.length;refine⟨by simp[yU,L2.start,hN,hv],λi w e=>?_⟩;unfold yU at e;by_cases hi:i<ws.length
 .rw[Qg (by simpa using hi),Qv]at e;cases hx:ws[i]? with
  |none=>rw[hx]at e;cases e
  |some x=>
   rw[hx]at e;cases e;obtain⟨v,h1,h2⟩:=R.get hx;refine⟨v,?_,h2⟩;unfold L2.start;rw[Qg (by simp;lia),Qv,h1];rfl
 .rw[Qi (by simpa using hi),Wx]at e;split at e<;>cases e
set_option tactic.hygienic true in
def Hf (F:eJ K d.on d.on d.st f fd)(hd:br C d)(hfn:∀(i:Nat) (nm:Str),C.fns[i]?=some nm->∃f fd ps,mg nm=some (.ref f)/\Q3 K (.ref f)=true/\Binds K fd ps []/\cc P w K mg base dH k f fd ps (kG K (cl i)))(hcon:jE K w mg C)(hblt:∀nm∈zB,mg nm=none):
  cc P w K mg base dH (k+1) f fd d.ps (kG K (wE cl d.fn)):=by
 obtain⟨h1,h2,h3,h4⟩:=hd;have Sc:=kJ h1;have cU:∀{as:List Addr}{H:Hp}{Q:VK}{ws:List Wd}{m:Me},aq K as H Q (wE cl d.fn ws m)->ws.length=d.fn.ar:=λ{as H Q ws m} h=>by
  unfold wE at h;split at h
  .assumption
  .exact h.elim
 refine F.ok Sc (λvs H Q E h=>?_) (λcdv A outer s H vs Q E hr h=>?_)
 .obtain ⟨as,m,ws,S,R,q⟩:=h;rw[<-R.length,cU q,h2]
 .obtain ⟨as,m,ws,S,R,q⟩:=h;have ha:=cU q;have hC:bB C (jc dH P w K mg base d.N d.on (zL d.st) f cdv A outer s H E).nox cl k:=⟨hr,rfl,hfn,hcon,hblt⟩;have hX:eA (jc dH P w K mg base d.N d.on (zL d.st) f cdv A outer s H E).nox:=⟨Sc.nd,λ_=>rfl,PassesOwn.never⟩;refine⟨_,De hC hX h4,as,yU d.fn ws,m,S,kK R ha h3,?_⟩;unfold wE at q;rw[M6 ha]at q;cases hr:bC cl d.fn.body (yU d.fn ws) m with
  |next e m1=>rw[hr]at q;exact λas' H' σ' T S' G=>q as' H' .non T S' (ao.mpr rfl)
  |ret w m1=>rw[hr]at q;exact λas' H' v T S' R'=>q as' H' v T S' R'
  |brk e m1=>rw[hr]at q;exact q.elim
  |cont e m1=>rw[hr]at q;exact q.elim
  |exc c w e m1=>rw[hr]at q;exact q.elim
  |no=>rw[hr]at q;exact q.elim
def wW(K:Qb)(mg:Str->Option Value)(d:bc):Prop:=∃f fd,eJ K d.on d.on d.st f fd/\mg d.nm=some (.ref f)
def eY(d:bc):Prop:=∀(kV doc pm:Value) (an:Option Addr) (cdv ct:Value) (us:List Value),us.length=d.ps.length->bindArgs (Ws d.on d.on (wD d.st) (xa d.st) (zL d.st) .none kV doc pm an cdv ct) ⟨us,[]⟩=pure (d.ps.zip us)
end
def He {K:Qb}{D:List bc}{ns:List Int}(hO:iA H)(hS:bn K H a (ns.map V.int))(h:∃m,yO (D.map (·.fn)) k i [.rol (ns.map Wd.int)] []=.ok (.bl true) m):
  kG K (yO (D.map (·.fn)) k i) [.ref a] H (λv _=>v=.bl true) E:=by
 obtain⟨m,h⟩:=h;refine⟨[],[],[.rol (ns.map Wd.int)],⟨rfl,QB,λl a o e=>by simp at e⟩,am.mpr ⟨.ref a,[],rfl,bb.mpr ⟨a,ns.map V.int,rfl,?_,?_⟩,ax.mpr rfl⟩,?_⟩
 .rcases hS with (hS|⟨o,hS⟩)|hS
  .rcases hO a with z|⟨o,xs,z⟩
   .rw[z]at hS;cases hS
   .rw[z]at hS;cases hS
  .exact .inl ⟨o,hS⟩
  .exact .inr hS
 .have all:∀l:List Int,ae K [] H (l.map Wd.int) (l.map V.int):=by
   intro l
   induction l with
   |nil=>exact ax.mpr rfl
   |cons n l ih=>exact am.mpr ⟨_,_,rfl,aa.mpr rfl,ih⟩
  exact all ns
 .rw[h];exact λas' H' v T S R=>ah.mp R
theorem aC.v{C:Ctx}{sc:Lo}{N:List Str}{i:Nat}{x:Str}{p:Pos}(h1:N[i]?=some x:=by rfl)(h2:qk sc x=true:=by kernel_rfl)(h3:zP x=true:=by kernel_rfl):aC C sc N (.var i) (.e (.Name x p)):=.var h1 h2 h3
def dW{P:List Value->Prop}(h:∀a,P [a]):∀us:List Value,us.length=1->P us
 |[a],_=>h a
def nK {P:List Value->Prop}(h:∀a (us:List Value),us.length=n->P (a::us)):∀us:List Value,us.length=n+1->P us
 |a::us,e=>h a us (Nat.succ.inj e)
def dE{P:List Value->Prop}(h:∀a b,P [a,b]):∀us:List Value,us.length=2->P us:=nK λa=>dW (P:=λus=>P (a::us)) (h a)
def fv{P:List Value->Prop}(h:∀a b c,P [a,b,c]):∀us:List Value,us.length=3->P us:=nK λa=>dE (P:=λus=>P (a::us)) (h a)
def lx{P:List Value->Prop}(h:∀a b c d,P [a,b,c,d]):∀us:List Value,us.length=4->P us:=nK λa=>fv (P:=λus=>P (a::us)) (h a)
end Mini
namespace L2
open PySem PySem.Spec PyProof.Rows
def cy(fs:List Addr)(H':Hp)(h h' B:Ly):Prop:=∀b o,h'.get? b=some o->(H' b≠none\/∃o₀,h.get? b=some o₀)->b∉fs->B.get? b=some o
def eK(P:Lr)(w:Ls):eB:=λouter H s E ev s'=>∃(C e t:Addr) (B:Ly) (H':Hp),ev=.ref e/\s'.os=s.os/\LH s'.gens/\Un (bR outer) [] H H' s.heap s'.heap/\cg P w H' s'.heap /\
 Heap.FlyingW B outer e (.ref C) (.ref t) s'.heap/\cy (bR outer) H' s.heap s'.heap B/\E (.ref C) none H'
def AK (hf:env.frame=some L):bR (env::l)=L::bR l:=by
 unfold bR;rw[WI,hf]
def gK (hl:h.FunFrames base l)(hn:∀b∈bR l,H b=none)(u:Un fs [] H H' h h'):∀b∈bR l,H' b=none:=λb hb=>by
 obtain⟨_,o,ho,_⟩:=hl.mem hb;exact u.free b o ho (hn b hb) (by simp)
theorem aW.ob (x:aW P w H h a o):∃u,h.get? a=some u:=by
 cases o with
 |lst xs=>obtain⟨_,_,_,_,e⟩:=x;exact⟨_,e⟩
 |tup xs=>obtain⟨_,_,_,o,e,_⟩:=x;exact⟨_,e⟩
 |dK kvs=>obtain⟨_,_,_,_,o,_,_,e,_⟩:=x;exact⟨_,e⟩
 |dT kvs=>obtain⟨_,_,_,_,o,_,_,e,_⟩:=x;exact⟨_,e⟩
 |set S n=>obtain⟨o,_,_,_,e,_⟩:=x;exact⟨_,e⟩
 |ins C dx fs=>obtain⟨_,_,_,e,_⟩:=x;exact⟨_,e⟩
 |own y=>exact x
 |xd fs=>obtain⟨_,⟨_,_,_,e,_⟩,_⟩:=x;exact⟨_,e⟩
 |rng lo hi=>obtain⟨_,_,_,e⟩:=x;exact⟨_,e⟩
 |frz ob u=>exact⟨_,x.1⟩
 |tbl ps=>exact⟨_,show h.get? a=some _ from x⟩
 |met f y=>exact⟨_,show h.get? a=some _ from x⟩
 |ext φ=>exact x.2.1
section
variable{P:Lr}{w:Ls}{H':Hp}{h1 h2 B:Ly}
def jO (ok:cg P w H' h1)(hfs:∀b∈fs,H' b=none)(hB:cy fs H' h h1 B)(st:B.StaysIn h2):cg P w H' h2:=λa o e=>
 (ok a o e).stay (λb u hb q=>st b u (hB b u q (.inl (by
  rcases hb with rfl|hb
  .rw[e];simp
  .rw[hb];simp)) λhm=>by
   have:=hfs b hm;rcases hb with rfl|hb
   .rw[e]at this;cases this
   .rw[hb]at this;cases this)) (λ_ q=>q) λ_ _ q=>q
def cy.next{fs:List Addr}{h:Ly}(ok:cg P w H' h1)(hB:cy fs H' h h1 B)(st:B.StaysIn h2)(th:∀b o,h.get? b=some o->∃o',h1.get? b=some o'):cy fs H' h h2 B:=λb o e hq hn=>by
 have ex:∃o',h1.get? b=some o':=by
  rcases hq with z|⟨o₀,z⟩
  .cases q:H' b with
   |none=>exact M8 q z
   |some u=>
    exact(ok b u q).ob
  .exact th b o₀ z
 obtain⟨o',e1⟩:=ex;have e2:=hB b o' e1 hq hn;have e3:=st b o' e2;rw[e]at e3;cases e3;exact e2
end
def uC (hL:h₀.objs.size<=L)(hfo:h₀.FunFrames base outer)(hf0:∀b∈bR outer,H₀ b=none)(u0:Un (bR outer) [] H₀ H h₀ h)(u1:Un (L::bR outer) [] H H' h h1)(hB:cy (L::bR outer) H' h h1 B)(st:B.StaysIn h2)(up:h1.UpToSlots h2):Un (bR outer) [] H₀ H' h₀ h2:=by
 have no:∀b:Addr,b∉([]:List Addr):=λb=>by simp
 have nL:∀{b:Addr}{o:Obj},h₀.get? b=some o->b≠L:=λ{b o} e z=>by
  subst z;exact M8 (Qe (Qk e) hL) (Q8 _)
 have kp:∀b o,h₀.get? b=some o->H₀ b=none->b∉bR outer->h2.get? b=some o:=λb o e n hb=>by
  have e1:=u0.keep b o e n hb (no b);have hb':b∉L::bR outer:=λhm=>(Qp.mp hm).elim (nL e) hb;have e2:=u1.keep b o e1 (u0.free b o e n (no b)) hb' (no b);exact st b o (hB b o e2 (.inr ⟨o,e1⟩) hb')
 have sl:∀b o,h₀.get? b=some o->H₀ b=none->b∈bR outer->∃sl,h2.get? b=some {o with slots:=sl}:=λb o e n hb=>by
  obtain⟨s1,e1⟩:=u0.slot b o e n hb (no b);obtain⟨s2,e2⟩:=u1.slot b _ e1 (u0.free b o e n (no b)) (Qh _ hb) (no b);obtain⟨_,o',ho',hd⟩:=hfo.mem hb;rw[e]at ho';cases ho';obtain⟨s3,e3⟩:=up b _ e2 hd;exact⟨s3,e3⟩
 refine⟨λb o e n hb _=>kp b o e n hb,λb o e n hb _=>sl b o e n hb,λb o e n _=>?_,λb o e _=>?_,λb xs q=>u1.tups b xs (u0.tups b xs q),λb o u q=>u1.frzs b o u (u0.frzs b o u q),λb ps q=>?_⟩
 .obtain ⟨o1,e1⟩:=u0.there b o e (no b);exact u1.free b o1 e1 (u0.free b o e n (no b)) (no b)
 .by_cases hb:b∈bR outer
  .obtain ⟨s1,e1⟩:=sl b o e (hf0 b hb) hb;exact⟨_,e1⟩
  .obtain ⟨o1,e1⟩:=u0.there b o e (no b);obtain⟨o2,e2⟩:=u1.there b o1 e1 (no b);have hb':b∉L::bR outer:=λhm=>(Qp.mp hm).elim (nL e) hb;exact⟨o2,st b o2 (hB b o2 e2 (.inr ⟨o1,e1⟩) hb')⟩
 .obtain ⟨m1,e1⟩:=u0.tbls b ps q;obtain⟨m2,e2⟩:=u1.tbls b _ e1;exact⟨m1++m2,by rw[e2,Array.append_assoc]⟩
section
variable{P:Lr}{w:Ls}{K:Qb}{mg:Str->Option Value}{base:Ly}{N:List Str}{qual:Str}{scope:Lo}{f:Addr}{cd:Value}{A:LG}{outer:List Env}{s:Shared}{H:Hp}{E:XK}
def gL (hL:h₀.objs.size<=L)(hLn:H' L=none)(u0:Un fs [] H₀ H h₀ h)(ok:cg P w H' h1)(th:∀b o,h.get? b=some o->∃o',h1.get? b=some o')(hB:cy (L::fs) H' h h1 B)(st:B.StaysIn h2):cy fs H' h₀ h2 B:=λb o e hq hn=>by
 have hb':b∉L::fs:=λhm=>(Qp.mp hm).elim (λz=>by
  subst z;rcases hq with q|⟨o₀,q⟩
  .exact q hLn
  .exact M8 (Qe (Qk q) hL) (Q8 _)) hn
 refine cy.next ok hB st th b o e (hq.imp id λ⟨o₀,q⟩=>?_) hb';exact u0.there b o₀ q (by simp)
def FQ:jt (eK P w) (jc (eK P w) P w K mg base N qual scope f cd A outer s H E) E:=by
 intro pins σ H1 s1 ev s2 I h;obtain⟨C,e,t,B,H2,rfl,os,bare,un,hok,fl,hB,hE⟩:=h;have hfr:(envOfC qual scope s.heap.objs.size f cd).frame=some s.heap.objs.size:=rfl;have un':Un (s.heap.objs.size::bR outer) [] H1 H2 s1.heap s2.heap:=un;have hB':cy (s.heap.objs.size::bR outer) H2 s1.heap s2.heap B:=hB;have fz:=gK I.stack I.stkFree un;refine wpAny_leaves_onW I.ok.frames hfr fl λh' fl' up=>?_;refine⟨C,e,t,B,H2,rfl,os.trans I.os,bare,?_,?_,fl',?_,hE⟩
 .exact uC (Qj _) I.ok.funs I.ok.frf I.base un' hB' fl'.1 up
 .exact jO hok fz hB fl'.1
 .exact gL (Qj _) (fz _ (by show _∈s.heap.objs.size::bR outer;exact QD)) I.base hok (λb o q=>un.there b o q (by simp)) hB' fl'.1
end
def nj(X:Cx)(E:XK):Prop:=∀(pins:List (Addr×Obj)) (σ:St) (H:Hp) (s:Shared) (h':Ly) (e C:Addr) (vs:List Value),Inv X pins σ H s->Heap.MadeExcOf s.heap h' e (.ref C) vs->E (.ref C) none H->X.xe (.ref e) {s with heap:=h' }
section
variable{P:Lr}{w:Ls}{K:Qb}{mg:Str->Option Value}{base:Ly}{N:List Str}{qual:Str}{scope:Lo}{f:Addr}{cd:Value}{A:LG}{outer:List Env}{s:Shared}{H:Hp}{E:XK}
def Hd:nj (jc (eK P w) P w K mg base N qual scope f cd A outer s H E) E:=by
 intro pins σ H1 s1 h' e C vs I mk hE;have hfr:(envOfC qual scope s.heap.objs.size f cd).frame=some s.heap.objs.size:=rfl;have hin:∀env∈(envOfC qual scope s.heap.objs.size f cd::outer),∀b,env.frame=some b->b∈bR (envOfC qual scope s.heap.objs.size f cd::outer):=λenv he b hb=>WM.mpr ⟨env,he,hb⟩;have hst:s1.heap.FunFrames base (envOfC qual scope s.heap.objs.size f cd::outer):=I.stack;have hfz:∀b∈bR (envOfC qual scope s.heap.objs.size f cd::outer),H1 b=none:=I.stkFree;have hB:cy (s.heap.objs.size::bR outer) H1 s1.heap s1.heap (PySem.W.hideAll s1.heap (bR (envOfC qual scope s.heap.objs.size f cd::outer))):=λb o q _ hn=>Vx _ q hn;refine wpAny_leaves_madeW (h:=s1.heap) I.ok.frames hfr (λb o q=>PySem.W.of_hideAll _ q) (PySem.W.funFrames_hide hst hin) mk λh2 t fl _ _ up=>?_;have up':s1.heap.UpToSlots h2:=(Heap.UpToSlots.of_keeps mk.keeps).trans up;refine⟨C,e,t,_,H1,rfl,I.os,I.bare,?_,?_,fl,?_,hE⟩
 .exact uC (Qj _) I.ok.funs I.ok.frf I.base Un.refl hB fl.1 up'
 .exact jO I.hok hfz hB fl.1
 .exact gL (Qj _) (hfz _ (by show _∈s.heap.objs.size::bR outer;exact QD)) I.base I.hok (λb o q=>⟨o,q⟩) hB fl.1
end
def Dd(C:Addr)(E:XK)(t:TA):TS:=λD σ H=>t σ H λvs H1=>vs.length<=sizeLine/\E (.ref C) none H1
section
variable{X:Cx}{x:Str}{C:Addr}{bm:List Value}{Bn newId initId:String}{E:XK}{t:TA}{np cpos pos:Pos}{e₀:Expr}{rest:List Expr}
def Hc(O:OwnCls x C bm newId X.mg X.base)(FB:ExcBaseFacts Bn newId initId bm)(hc:X.calm=true)(hg:Gl X x)(hx:nj X E)(ha:PA X (e₀::rest) t)(hdb:(x==("__debug__":Str))=false:=by decide)
  (he:LN (e₀::rest) X.env=(false,eval e₀ X.env)::LN rest X.env:=by rfl) (hpl:(LM cpos (LN rest X.env)).any (·.1)=false:=by rfl) :
  PS X (.Raise (some (.Call (.Name x np) (e₀::rest) [] cpos)) none pos) (Dd C E t):=by
 intro pins s σ H D I h;obtain⟨tl,N,nm,q,bs,hdct,sn,sub,ab,col,dd,k0,k1,k2,k3,k5,mN,hC,hN,hni,T⟩:=O.obj;refine wpAny_Raise_call_subT (k0:=k0) (k1:=k1) (k2:=k2) (k3:=k3) (k5:=k5) (dd:=dd) (col:=col) (ab:=ab) (sub:=sub) (sn:=sn) (hdct:=hdct) (bs:=bs) (q:=q) (nm:=nm) (C:=C) (N:=N) (bm:=tl) (mN:=mN) FB (T.hasType FB.hasBase) (I.ok.hd hc) (by rw[he];exact hpl) hni (jf I hg O.bound ⟨rfl,?_⟩ hdb);have h1:=ha cpos pins s σ H _ I h;rw[he]at h1 ⊢;refine Calls.evalArgs_plain (LO h1 (λus s2 h2=>?_) λ_ _ y=>y);obtain⟨vs,H1,I1,r,hz,hE⟩:=h2;exact⟨rfl,by rw[<-r.length];exact hz,I1.bk _ _ hC,hN.keeps I1.bk,T.keeps I1.bk,λh' e mk=>hx pins σ H1 s2 h' e C us I1 mk hE⟩
end
end L2
namespace L2
open PySem PySem.Spec PySem.Calls PyProof.Rows PySem.W Builtin Builtin.ObjectAttr Builtin.Getset_descriptor
section
variable{prog:Lr}{w:Ls}{A:LG}{E:Value->Shared->Prop}{K:Qb}{x C:Addr}{ox:Obj}{h:Ly}{g:Array LI}{d:Drawn}{t:Nat}{os:OsState}
def jP(M:LJ)(hx:h.get? x=some ox)(hc:ox.cls=.ref C):Looks M h (typeOf (.ref x)) (.ref C):=hc▸(Looks.ld hx).andThen .now
def FP (X:K.In h)(hx:h.get? x=some ox)(hc:ox.cls=.ref C)(hm:MV K C (.type "object")=some true)(hq:R (.ok (.ret (.ref C))) ⟨h,g,d,t,os⟩):
  Mk (LL prog w) A (.call (.builtin "getset_descriptor.__get__") ⟨[.builtin "object.__class__",.ref x,tp],[]⟩) R ⟨h,g,d,t,os⟩:=by
 have L0:=jP (LL prog w) hx hc;have L1:=looks_mroIn (M:=LL prog w) X hm;refine MW KF.slot_gs.plain KF.entry_gs ?_;refine KF.slot_gs.check _ _ _ _ _ _ _ _ KF.type_class (KF.args_gs _ _ _) ?_;unfold Builtin.«getset_descriptor.__get__» descrGet;rw[dga_obj];refine LZ (L7 ?_);unfold descrGetter descrCheckInstance descrNameAndClass isInstance;simp only[KF.owner_class]
 repeat lk
 have z1:Code.quiet (.builtin "object.__class__" ⟨[.ref x],[]⟩)=true:=Code.quiet_builtin _ (by decide +kernel);refine⟨z1,?_⟩;refine codeAny_builtin KF.entry_class ?_;unfold Builtin.«object.__class__» shownTypeOf
 repeat lk
 exact hq
def Hy (X:K.In h)(hx:h.get? x=some ox)(hc:ox.cls=.ref C)(hcl:MX K (.ref C) "__class__"=some (some (.builtin "object.__class__")))(hm:MV K C (.type "object")=some true)(hq:Q (.done (.ret (.ref C))) ⟨h,g,d,t,os⟩):LK (LL prog w) A (Builtin.«object.__getattribute__» ⟨[.ref x,.str "__class__" tk],[]⟩) Q E ⟨h,g,d,t,os⟩:=by
 have L0:=jP (LL prog w) hx hc;have L1:=MY (M:=LL prog w) X hcl;have hT5:(⟨h,g,d,t,os⟩:Shared).TypeIs (.builtin "object.__class__") "getset_descriptor":=F.typeOf_object_class;have f5:=F.typeOf_object_class;have f6:=F.slot_gs_get.lookup;have f7:=F.slot_gs_set.lookup;unfold Builtin.«object.__getattribute__»
 repeat (any_goals (first|assumption|(with_reducible refine MZ hx ?_;rw[hc])|with_reducible refine Looks.at (by assumption) ?_|wp_step))
 refine FP X hx hc hm ?_
 repeat (any_goals (first|assumption|wp_step))
def Hx (X:K.In h)(hx:h.get? x=some ox)(hc:ox.cls=.ref C)(hb:MV K C (.type "BaseException")=some true)(hq:Q () ⟨h,g,d,t,os⟩):
  LK (LL prog w) A (checkBuiltinCall "BaseException.__getattribute__" ⟨[.ref x,nameV],[]⟩) Q E ⟨h,g,d,t,os⟩:=by
 have L0:=jP (LL prog w) hx hc;have L1:=looks_mroIn (M:=LL prog w) X hb;have z1:builtinKind "BaseException.__getattribute__"=some .slot:=by decide +kernel
 have z2:splitId "BaseException.__getattribute__"=some ("BaseException","__getattribute__"):=by decide +kernel
 have z3:=F.args_bexc_ga (.ref x) nameV;simp only[checkBuiltinCall,z1,z2];refine LZ ?_;unfold isInstance
 repeat (first|with_reducible refine Looks.at (by assumption) ?_|wp_step)
 exact hq
def Hb (X:K.In h)(hx:h.get? x=some ox)(hc:ox.cls=.ref C)(hb:MV K C (.type "BaseException")=some true)(hcl:MX K (.ref C) "__class__"=some (some (.builtin "object.__class__")))(hm:MV K C (.type "object")=some true)(hq:R (.ok (.ret (.ref C))) ⟨h,g,d,t,os⟩):Mk (LL prog w) A (.call (.builtin "BaseException.__getattribute__") ⟨[.ref x,.str "__class__" tk],[]⟩) R ⟨h,g,d,t,os⟩ :=
 MW F.attr_ValueError.ga.plain F.entry_bexc_ga (Hx X hx hc hb (Hy X hx hc hcl hm hq))
def FN (X:K.In s.heap)(hx:s.heap.get? x=some ox)(hc:ox.cls=.ref C)(hga:MX K (.ref C) "__getattribute__"=some (some (.builtin "BaseException.__getattribute__")))(hgt:MX K (.ref C) "__getattr__"=some none)(hb:MV K C (.type "BaseException")=some true)(hcl:MX K (.ref C) "__class__"=some (some (.builtin "object.__class__")))(hm:MV K C (.type "object")=some true)(hq:Q (some (.ref C)) {s with toks:=s.toks+1}):LK (LL prog w) A (getAttr? (.ref x) "__class__") Q E s:=by
 obtain⟨h,g,d,t,os⟩:=s;have L0:=jP (LL prog w) hx hc;have L1:=MY (M:=LL prog w) X hga;have L2:=MY (M:=LL prog w) X hgt;have f3:=F.attr_ValueError.ga.bind (.ref x);have y2:(Value.builtin "BaseException.__getattribute__" == Value.builtin "object.__getattribute__")=false:=by decide +kernel
 have y1:(onTheHeap (Value.ref C)&&Value.builtin "BaseException.__getattribute__" == Value.builtin "object.__getattribute__")=false:=by rw[y2];rfl
 unfold getAttr? getAttrBy? getAttrBy;refine LZ (wpAny_mkText (LZ (wpAny_attempt (L3 (LZ (L0.at (LZ (L1.at ?_))))))));dsimp only;rw[M7 (by rw[y1];decide)];unfold getAttrByItsOwn hookBefore callGetattribute
 repeat (any_goals (first|assumption|with_reducible refine Looks.at (by assumption) ?_|wp_step))
 refine Hb (h:=h) X hx hc hb hcl hm ?_
 repeat (any_goals (first|assumption|wp_step))
end
end L2
namespace L2
open PySem PySem.Spec PySem.Calls PyProof.Rows PySem.W
structure dG(K:Qb)(C:Addr):Prop where
 ga:MX K (.ref C) "__getattribute__"=some (some (.builtin "BaseException.__getattribute__"))
 gt:MX K (.ref C) "__getattr__"=some none
 be:MV K C (.type "BaseException")=some true
 cl:MX K (.ref C) "__class__"=some (some (.builtin "object.__class__"))
 mo:MV K C (.type "object")=some true
set_option tactic.hygienic true in
def tX {K:Qb}(h:(clsIn K C).isSome=true):∃c d cd sl,K.lookup C=some ⟨c,d,.cls cd,sl⟩:=by
 unfold clsIn at h;split at h
 .rename_i c d cd sl ho;exact⟨c,d,cd,sl,ho⟩
 .cases h
def dG.ci {K:Qb}(Z:dG K C):(clsIn K C).isSome=true:=by
 obtain⟨cd,a,_⟩:=QN.mp Z.be;rw[a];rfl
def AJ {K:Qb}(Z:dG K C)(hc:ox.cls=.ref C):KitX K (.ref x) (.ref C) (λh=>h.get? x=some ox) where
 ty:=λM h _ p=>jP M p hc
 it:=λM h X _=>by
  obtain⟨c,d,cd,sl,ho⟩:=tX Z.ci;intro A' Q' E' s' k q;unfold isType loadHead;refine LZ (wpAny_loadPart (k _ _ (X _ _ ho)) ?_);exact L7 q
 ne:=λh tp dd its n sl X htp=>by
  obtain⟨c,d,cd,sl',ho⟩:=tX Z.ci;refine Bool.eq_false_iff.mpr λq=>?_;cases Value.ref.inj (beq_iff_eq.mp q);have z:=(X _ _ ho).symm.trans htp;cases z
 ca:=λX p k=>FN X p hc Z.ga Z.gt Z.be Z.cl Z.mo k
def ol(K:Qb)(x C:Addr):List V->Hp->VK->Prop:=λvs H Q=>
 (∃c u b,vs=[.ref x,c]/\RelV c u/\(∀u',RelV c u'->u'=u)/\kitOne K (.ref C) u=some b/\Q (.bl b) H) \/
 (∃tp ts b,vs=[.ref x,.ref tp]/\H tp=some (.tup ts)/\(∀us,ay ts us->kitAny K (.ref C) us=some b)/\Q (.bl b) H)
def c8 (r:ay [v,w] us):∃a b,us=[a,b]/\RelV v a/\RelV w b:=by
 cases r with
 |cons p q=>
  cases q with
  |cons p' q'=>
   cases q' with
   |nil=>exact⟨_,_,rfl,p,p'⟩
def Ha (Z:dG X.K C)(hp:(x,ox)∈X.pn)(hc:ox.cls=.ref C):bK X (.builtin "isinstance") (ol X.K x C):=by
 intro pins s σ H xs us Q I r h;have hx:s.heap.get? x=some ox:=(I.pin (x,ox) (QV _ hp)).1;rcases h with⟨c,u,b,rfl,ru,uq,k,q⟩|⟨tp,ts,b,rfl,ht,k,q⟩
 .obtain ⟨a,a',rfl,ra,ra'⟩:=c8 r;obtain rfl:a=.ref x:=ra;obtain rfl:=uq a' ra';exact kia_one (AJ Z hc) I.kIn hx k (λz=>nomatch z) λtk=>⟨.bl b,H,I.tok tk,rfl,q⟩
 .obtain ⟨a,a',rfl,ra,ra'⟩:=c8 r;obtain rfl:a=.ref x:=ra;obtain rfl:a'=.ref tp:=ra';obtain⟨z,its,rv,⟨oc,od,dat,sl⟩,ho,h1,n,hd⟩:=I.hok tp _ ht;obtain rfl:oc=.type "tuple":=h1;obtain rfl:dat=.seq its.toArray n:=hd;exact kia_tup (AJ Z hc) I.kIn hx ho (k its rv) (λz=>nomatch z) λtk=>⟨.bl b,H,I.tok tk,rfl,q⟩
abbrev Cx.held(X:Cx)(e:Addr)(oe:Obj)(E:Value->Shared->Prop):Cx:={X with A:=X.A.mark (some (.ref e)),calm:=false,pn:=(e,oe)::X.pn,xe:=E}
section
variable{X:Cx}{pins:List (Addr×Obj)}{σ:St}{H:Hp}{s:Shared}{e:Addr}{oe:Obj}{E:Value->Shared->Prop}
theorem Cx.Ok.held(ok:X.Ok):(X.held e oe E).Ok:=
 ⟨ok.mod,ok.kind,ok.glob,ok.blt,ok.above,ok.inj,ok.has,ok.cab,(λz=>by cases z),ok.frames,ok.stk,ok.exf,ok.bs,ok.bsz,ok.noex,ok.exfs,ok.funs,ok.frf⟩
def Inv.unheld(ok:X.Ok)(I:Inv (X.held e oe E) pins σ H s):Inv X pins σ H s:=
 ⟨ok,I.os,I.bare,I.base,I.loc,I.cell,I.free,I.freeC,(λp hp=>I.pin p (Qh _ hp)),I.hok,I.len⟩
end
def FM (hl:h.FunFrames base l)(hn:∀b∈bR l,H b=none)(u:Un (bR l) [] H H' h h1)(hB:cy (bR l) H' h h1 B)(st:B.StaysIn h2)(up:h1.UpToSlots h2):Un (bR l) [] H H' h h2:=by
 have no:∀b:Addr,b∉([]:List Addr):=λb=>by simp
 have sl:∀b o,h.get? b=some o->b∈bR l->∃sl,h2.get? b=some {o with slots:=sl}:=λb o e hb=>by
  obtain⟨s1,e1⟩:=u.slot b o e (hn b hb) hb (no b);obtain⟨_,o',ho',hd⟩:=hl.mem hb;rw[e]at ho';cases ho';obtain⟨s2,e2⟩:=up b _ e1 hd;exact⟨s2,e2⟩
 refine⟨λb o e n hb _=>?_,λb o e n hb _=>sl b o e hb,u.free,λb o e _=>?_,u.tups,u.frzs,u.tbls⟩
 .have e1:=u.keep b o e n hb (no b);exact st b o (hB b o e1 (.inr ⟨o,e⟩) hb)
 .by_cases hb:b∈bR l
  .obtain ⟨s1,e1⟩:=sl b o e hb;exact⟨_,e1⟩
  .obtain ⟨o1,e1⟩:=u.there b o e (no b);exact⟨o1,st b o1 (hB b o1 e1 (.inr ⟨o,e⟩) hb)⟩
section
variable{M:LJ}{A:LG}{E:Value->Shared->Prop}{bs bs' bm bm':List Value}{nm nm' q q':Str}{C G N N':Addr}{hdct hdct':Bool}{sn sn':List Str}{sub sub':List Value}{ab ab':Bool}{col col':Option Bool}{dd dd':Option Addr}{k0 k1 k2 k3 k5 j0 j1 j2 j3 j5:Option Value}{newId newId':String}
def G9 {os:OsState}(hC:h.get? C=some (M0 nm q C N bs bm hdct sn sub ab col dd k0 k1 k2 k3 k5 newId))(hG:h.get? G=some (M0 nm' q' G N' bs' bm' hdct' sn' sub' ab' col' dd' j0 j1 j2 j3 j5 newId'))(he:h.get? e=some oe)(hcls:oe.cls=.ref C)(y1:(Value.ref G::bm').contains (.type "BaseException")=true)(y2:(Value.ref C::bm).contains (.ref G)=true)(hq:Q true ⟨h,g,d,t,os⟩):LK M A (excMatches (.ref e) (.ref G)) Q E ⟨h,g,d,t,os⟩:=by
 have f:=tc_notTuple;unfold excMatches
 repeat (first|(with_reducible refine MZ he ?_;rw[hcls])|with_reducible refine MZ hG ?_|(with_reducible refine M1 hG ?_;rw[y1])|(with_reducible refine M1 hC ?_;rw[y2])|wp_step)
 exact hq
end
section
variable{X:Cx}{pins:List (Addr×Obj)}{σ:St}{H:Hp}{s:Shared}
def Inv.lost{h':Ly}{m':Str->Option Value}{t':Nat}(I:Inv X pins σ H s)(hn:h'.Ns X.env.locals m')(hs:WC X.env.locals s.heap h'):Inv X pins (Qx X.N.length none) H {s with heap:=h',toks:=t' }:=by
 have lo:∀{b:Addr}{o:Obj},X.s₀.heap.get? b=some o->b≠X.env.locals:=λ{b o} e z=>by
  subst z;exact M8 (Qe (Qk e) I.ok.above) (Q8 _)
 refine⟨I.ok,I.os,I.bare,⟨λb o e n hb hx=>?_,λb o e n hb hx=>?_,I.base.free,λb o e hx=>?_,I.base.tups,I.base.frzs,I.base.tbls⟩,⟨m',hn,λj y v e1 e2 _=>?_⟩,λy c e=>?_,I.free,I.freeC,λp hp=>?_,λb ob e=>?_,by simp⟩
 .rw[hs.2 b (lo e)];exact I.base.keep b o e n hb hx
 .obtain ⟨sl,e1⟩:=I.base.slot b o e n hb hx;exact⟨sl,by rw[hs.2 b (lo e)];exact e1⟩
 .obtain ⟨o',e1⟩:=I.base.there b o e hx;exact⟨o',by rw[hs.2 b (lo e)];exact e1⟩
 .rw[Wx]at e2;split at e2<;>cases e2
 .obtain ⟨w',z⟩:=I.cell y c e;exact⟨w',z.sameBut hs (I.cne y c e)⟩
 .obtain ⟨e,n,ne,nf,d⟩:=I.pin p hp;exact⟨by rw[hs.2 p.1 ne];exact e,n,ne,nf,d⟩
 .have hL:=I.free;refine(I.hok b ob e).stay (λc w' hc q=>?_) (λ_ q=>q) λ_ _ q=>q;rw[hs.2 c (λz=>by
   subst z;rcases hc with z|z
   .rw[<-z,hL]at e;cases e
   .rw[hL]at z;cases z)]
  exact q
def Inv.pinE{e:Addr}{oe:Obj}(I:Inv X pins σ H s)(he:s.heap.get? e=some oe)(hn:H e=none)(hl:e≠X.env.locals)(hf:e∉X.fs)(hc:∀v,oe.data≠.cell v):Inv X ((e,oe)::pins) σ H s:=
 I.pins_of λp hp=>by
  rcases Qp.mp hp with rfl|hp
  .exact ⟨he,hn,hl,hf,hc⟩
  .exact I.pin p (Qs _ hp)
def Inv.heldE{e:Addr}{oe:Obj}{E:Value->Shared->Prop}(I:Inv X ((e,oe)::pins) σ H s):Inv (X.held e oe E) pins σ H s:=
 ⟨I.ok.held,I.os,I.bare,I.base,I.loc,I.cell,I.free,I.freeC,(λp hp=>I.pin p (by
  rcases Qp.mp (show p∈(e,oe)::(X.pn++pins)from hp)with rfl|hp
  .exact Qs _ QD
  .rcases QL.mp hp with z|z
   .exact QV _ z
   .exact Qs _ (Qh _ z))),I.hok,I.len⟩
end
def gM(h:Ly)(C:Addr)(v:Value):Prop:=∃nm q N bs bm hdct sn sub ab col dd k0 k1 k2 k3 k5 newId,h.get? C=some (M0 nm q C N bs bm hdct sn sub ab col dd k0 k1 k2 k3 k5 newId)/\(Value.ref C::bm).contains v=true
def Hw (hst:X.stack=X.env::X.outer)(hfr:X.env.frame=some X.env.locals)(I:Inv X pins σ H1 s1)(os:s2.os=s1.os)(bare:LH s2.gens)(un:Un (bR X.stack) [] H1 H2 s1.heap s2.heap)(hok:cg X.prog X.w H2 s2.heap)(fl:Heap.FlyingW B X.stack e (.ref C) (.ref t) s2.heap)(hB:cy (bR X.stack) H2 s1.heap s2.heap B)(cC:gM X.base C (.ref G))(cG:gM X.base G (.type "BaseException"))(hg:Gl X gn)(hm:X.mg gn=some (.ref G))(hdb:(gn==("__debug__":Str))=false)(hN:X.N.Nodup)(hi:X.N[i]?=some n)(hn:X.env.scope.names.lookup n=some .local)(hsuite:∀(oe:Obj) (E':Value->Shared->Prop),oe.cls=.ref C->∃tt,cv (X.held e oe E') (b₀::suite) tt/\tt {nx:=λ_ _=>False,rt:=D.rt} (σ.set i (some (.ref e))) H2):
  LK (LL X.prog X.w) X.A (noteFrame (.ref e) X.env) (λ_ s₂=>LK (LL X.prog X.w) X.A (setFlight (.ref e) none)
   (λ_ s₃=>LK (LL X.prog X.w) X.A (handleBy (.ref e) X.env [.ExceptHandler (some (.Name gn np)) (some n) (b₀::suite) pos]) (SP X pins D) X.xe s₃) X.xe s₂) X.xe s2:=by
 have frames:X.A.frames=some (X.env::X.outer):=by rw[<-hst];exact I.ok.frames
 have fz:=gK I.stack I.stkFree un;have inv:∀{h5:Ly},B.StaysIn h5->s2.heap.UpToSlots h5->Inv X pins σ H2 {s2 with heap:=h5}:=λ{h5} st up=>
  I.call' (s':={s2 with heap:=h5}) (ch:=[]) os (FM I.stack I.stkFree un hB st up) (jO hok fz hB st) bare (λb z=>M8 z (by simp))
 rw[hst]at fl;refine wpAny_looks_onW frames hfr fl λh4 hd4 up4=>?_;refine wpAny_landsW hd4 λh5 fl5 up5=>?_;have I5:=inv fl5.1 (up4.trans up5);obtain⟨oe5,he5,hc5⟩:=fl5.there;obtain⟨nm,q,N,bs,bm,hdct,sn,sub,ab,col,dd,k0,k1,k2,k3,k5,ni,hC,hCG⟩:=cC;obtain⟨nm',q',N',bs',bm',hdct',sn',sub',ab',col',dd',j0,j1,j2,j3,j5,ni',hG,hGB⟩:=cG;refine wpAny_handleBy_cons (codeAny_handlers_test ?_) (by intro z;cases z);refine Calls.Name_function_global I.ok.kind hg (Calls.loadGlobal_global (by rw[I.ok.glob];exact I5.mod.glob.keeps I5.bk) hm ?_) hdb;refine G9 (I5.bk _ _ hC) (I5.bk _ _ hG) he5 hc5 hGB hCG (codeAny_handlers_suite_as ?_);refine lands_againW fl5 λh6 fl6 up6=>?_;have I6:=inv fl6.1 ((up4.trans up5).trans up6);obtain⟨oe,ws,he6,hc6,hd6,_⟩:=fl6.first;have hBe:B.get? e=none:=fl6.2.1;have hHe:H2 e=none:=by
  cases z:H2 e with
  |none=>rfl
  |some u=>
   obtain⟨o,ho⟩:=(hok e u z).ob;have:=hB e o ho (.inl (by rw[z];simp)) (λhm=>by rw[fz e hm]at z;cases z);rw[hBe]at this;cases this
 have hen:∀b∈bR X.stack,b≠e:=λb hb z=>by
  subst z;obtain⟨_,o,ho,hnf⟩:=I6.stack.mem hb;rw[he6]at ho;cases ho;exact hnf ws hd6
 have hL:e≠X.env.locals:=λz=>hen X.env.locals (by rw[hst,AK hfr];exact QD) z.symm;have hF:e∉X.fs:=λz=>hen e (by rw[hst,AK hfr];exact Qh _ z) rfl;refine vR (I6.pinE he6 hHe hL hF (λv z=>by rw[hd6]at z;cases z)) hN hi (.inl hn) (v:=.ref e) rfl (λs7 I7=>?_) (.inr hn);obtain⟨tt,hp,ht⟩:=hsuite oe _ hc6;refine LO (hp pins s7 _ H2 _ I7.heldE ht) (λf s8 h8=>?_) (λx s8 hx=>hx);cases f with
 |next=>obtain⟨_,_,_,z⟩:=h8;exact z.elim
 |brk=>obtain⟨_,_,_,z⟩:=h8;exact z.elim
 |cont=>obtain⟨_,_,_,z⟩:=h8;exact z.elim
 |ret u=>
  obtain⟨v,σ',H',I8,rv,qq⟩:=h8;have I8':=Inv.unheld I.ok I8;obtain⟨m,hm8,_⟩:=I8'.loc;refine wpAny_nameGoes hn hm8 (by rw[I.ok.kind];rfl) λh' m' hn' hs'=>?_;exact⟨v,_,H',I8'.lost hn' hs',rv,qq⟩
def nT:List Addr->TA
 |[]=>i4
 |a::r=>qT (tC (.ref a)) (nT r)
def Dc (h:Q (as.map V.ref) H):nT as σ H Q:=by
 induction as generalizing Q with
 |nil=>exact h
 |cons a r ih=>exact ih (Q:=λxs H2=>Q (.ref a::xs) H2) h
theorem uB:∀{as:List Addr}{us:List Value},ay (as.map V.ref) us->us=as.map Value.ref
 |[],_,.nil=>rfl
 |a::r,_,.cons p q=>by
  obtain rfl:_=Value.ref a:=p;rw[uB q];rfl
inductive cV(env:Env)(mg:Str->Option Value):List Expr->List Addr->Prop
 |nil:cV env mg [] []
 |cons {x:Str}{p:Pos}{es:List Expr}{a:Addr}{as:List Addr}(hg:env.kindOf x=some .globalImplicit) (hm:mg x=some (.ref a)) (hd:(x==("__debug__":Str))=false) (h:cV env mg es as):cV env mg (.Name x p::es) (a::as)
def Db (h:cV X.env X.mg es as):PA X es (nT as):=by
 induction h with
 |nil=>exact xI
 |cons hg hm hd _ ih=>exact yj (jg (v:=.ref _) hg hm rfl hd) ih rfl
def nh(n y:Str)(es:List Expr)(p1 p2 p3 p4 p5 p6 p7 p8 p9 pa pb pc pd pe pf pg ph:Pos)(k1 k2:Nat):List Stmt:=
 [.If (.Call (.Name "isinstance" p1) [.Name n p2,.Tuple es k1 p3] [] p4) [.Return (some (.Constant (.bool false) k2 p5)) p6] [] p7,
  .Return (some (.BoolOp .And [.Call (.Name "isinstance" p8) [.Name n p9,.Name y pa] [] pb,.Call (.Name "isinstance" pc) [.Name n pd,.Name "ValueError" pe] [] pf] pg)) ph]
structure fj(X:Cx)(C G:Addr)(ts:List Addr)(Y:Addr)(r:Bool):Prop where
 ex:gM X.base C (.ref G)
 kk:dG X.K C
 va:kitOne X.K (.ref C) (.type "ValueError")=some true
 re:∃b1 b2,kitAny X.K (.ref C) (ts.map Value.ref)=some b1/\kitOne X.K (.ref C) (.ref Y)=some b2/\r=(! b1&&b2)
def G8 {σ:St}{D:bY}(hk:fj X C G ts Y r)(hc:oe.cls=.ref C)(hts:cV X.env X.mg es ts)(hz:ts.length<=1000)(hY:Gl X y)(hmY:X.mg y=some (.ref Y))(hdY:(y==("__debug__":Str))=false)(hI:Gl X "isinstance")(hmI:X.mg "isinstance"=none)(hV:Gl X "ValueError")(hmV:X.mg "ValueError"=none)(hN:X.N[i]?=some n)(hn:X.env.scope.names.lookup n=some .local)(hd1:(n==("__debug__":Str))=false)(hd2:(n==("__classdict__":Str))=false)(hi:i<σ.length)(q:∀p ts',H p=none->D.rt (.bl r) (aJ H p (.tup ts'))):
  ∃tt,cv (X.held e oe E') (nh n y es p1 p2 p3 p4 p5 p6 p7 p8 p9 pa pb pc pd pe pf pg ph k1 k2) tt/\tt {nx:=λ_ _=>False,rt:=D.rt} (σ.set i (some (.ref e))) H:=by
 have Z:dG (X.held e oe E').K C:=hk.kk;have hp:(e,oe)∈(X.held e oe E').pn:=QD;have cR:=Ha (X:=X.held e oe E') Z hp hc;have bI:LF "isinstance"=some (.builtin "isinstance"):=by rfl
 have bV:LF "ValueError"=some (.type "ValueError"):=by rfl
 have hnm:∀{p:Pos},PE (X.held e oe E') (.Name n p) (ja i):=λ{p}=>vG hN (.inl hn) hd1 hd2;have c1:PE (X.held e oe E') (.Call (.Name "isinstance" p1) [.Name n p2,.Tuple es k1 p3] [] p4) _:=xw cR hI hmI bI (yj hnm (yj (ub (Db hts)) xI));have c2:PE (X.held e oe E') (.Call (.Name "isinstance" p8) [.Name n p9,.Name y pa] [] pb) _:=xw cR hI hmI bI (yj hnm (yj (jg (v:=.ref Y) hY hmY rfl hdY) xI));have c3:PE (X.held e oe E') (.Call (.Name "isinstance" pc) [.Name n pd,.Name "ValueError" pe] [] pf) _:=xw cR hI hmI bI (yj hnm (yj (uY (v:=.ty "ValueError") hV hmV bV rfl) xI));have s1:=mT (pos:=p7) (t9 c1) (vS (gU (pos:=p6) (sV (X:=X.held e oe E') (b:=false) (j:=k2) (pos:=p5)))) uX;have s2:=gU (pos:=ph) (t8 (pos:=pg) c2 (nF c3));refine⟨_,wR s1 (vS s2),?_⟩;have hv:(σ.set i (some (V.ref e)))[i]?=some (some (V.ref e)):=QQ hi;obtain⟨b1,b2,k1',k2',hr⟩:=hk.re;have sz:(ts.map V.ref).length<=sizeLine:=by
  rw[Qn];exact WL (Iy hz)
 refine⟨.ref e,hv,Dc ⟨sz,λp hp'=>.inr ⟨p,ts.map V.ref,b1,rfl,zm,λus hu=>by rw[uB hu];exact k1',b1,rfl,?_⟩⟩⟩;cases b1 with
 |true=>
  rw[M6 rfl];have e1:r=false:=by rw[hr];rfl
  rw[e1]at q;exact q p _ hp'
 |false=>
  rw[M7 QP];refine⟨.ref e,hv,.inl ⟨.ref Y,.ref Y,b2,rfl,rfl,λ_ z=>z,k2',b2,rfl,?_⟩⟩;cases b2 with
  |true=>
   rw[M6 rfl];refine⟨.ref e,hv,.inl ⟨.ty "ValueError",.type "ValueError",true,rfl,rfl,λ_ z=>z,hk.va,?_⟩⟩;have e1:r=true:=by rw[hr];rfl
   rw[e1]at q;exact q p _ hp'
  |false=>
   rw[M7 QP];have e1:r=false:=by rw[hr];rfl
   rw[e1]at q;exact q p _ hp'
def jQ (F:cc X.prog X.w X.K X.mg X.base (eK X.prog X.w) k f fd ps sp)(hr:b9 k X.A)(hgf:Gl X fnm)(hmf:X.mg fnm=some (.ref f))(hkf:Q3 X.K (.ref f)=true)(hb:Binds X.K fd ps [])(hdf:(fnm==("__debug__":Str))=false)(ha:PA (X.wish Eh) (e0::es) t)(he:LN (e0::es) X.env=(false,eval e0 X.env)::LN es X.env)(hpl:(LM q (LN es X.env)).any (·.1)=false)(I:Inv X pins σ H s)(h:t σ H λvs H1=>sp vs H1 (λ_ _=>False) E)(hx:∀(H1:Hp) (s1:Shared) (ev:Value) (s':Shared),Inv X pins σ H1 s1->eK X.prog X.w X.stack H1 s1 E ev s'->Eh ev s'):LK (LL X.prog X.w) X.A (eval (.Call (.Name fnm p) (e0::es) [] q) X.env) Q Eh s:=by
 refine Mm (jf I hgf hmf ?_ hdf);refine PySem.W.callWith_K (h₀:=X.base) I.ok.mod.kin hkf (aZ (ha q pins s σ H _ (I.wish Eh) h) λus s1 ⟨vs,H1,I1,r,hsp⟩=>⟨I1.kIn,?_⟩) he hpl;have J:Inv X pins σ H1 s1:=I1.unwish;have hl:us.length=ps.length:=by rw[<-r.length];exact F.len _ _ _ _ hsp
 have hbb:Mj s1 fd ⟨us,[]⟩ (ps.zip us):=by
  have z:=hb s1 us J.kIn (by rw[Q0];exact hl);rw[Q0]at z;exact z
 refine wpAny_call (Ml (F.run X.A X.stack s1 H1 ⟨us,[]⟩ us vs _ _ hr J.env0 hbb r hsp) λres s' hq=>?_);cases res with
 |error ev=>exact hx H1 s1 ev s' J hq
 |ok fl=>
  cases fl with
  |ret u=>obtain⟨_,_,_,_,_,_,_,z⟩:=hq;exact z.elim
  |next=>exact False.elim hq
  |brk=>exact False.elim hq
  |cont=>exact False.elim hq
def Eo {i:Nat}(hst:X.stack=X.env::X.outer)(hfr:X.env.frame=some X.env.locals)(F:cc X.prog X.w X.K X.mg X.base (eK X.prog X.w) k f fd ps sp)(hr:b9 k X.A)(hgf:Gl X fnm)(hmf:X.mg fnm=some (.ref f))(hkf:Q3 X.K (.ref f)=true)(hb:Binds X.K fd ps [])(hdf:(fnm==("__debug__":Str))=false)(ha:∀E,PA (X.wish E) (e0::es) t)(hG:gM X.base G (.type "BaseException"))(hgG:Gl X gn)(hmG:X.mg gn=some (.ref G))(hdG:(gn==("__debug__":Str))=false)(hN:X.N.Nodup)(hi:X.N[i]?=some n)(hn:X.env.scope.names.lookup n=some .local)(hd1:(n==("__debug__":Str))=false)(hd2:(n==("__classdict__":Str))=false)(hts:cV X.env X.mg ns ts)(hz:ts.length<=1000)(hY:Gl X y)(hmY:X.mg y=some (.ref Y))(hdY:(y==("__debug__":Str))=false)(hI:Gl X "isinstance")(hmI:X.mg "isinstance"=none)(hV:Gl X "ValueError")(hmV:X.mg "ValueError"=none)(he:LN (e0::es) X.env=(false,eval e0 X.env)::LN es X.env:=by rfl)(hpl:(LM q (LN es X.env)).any (·.1)=false:=by rfl)(hs:LV (.Call (.Name fnm p) (e0::es) [] q) none p'.line X.env=pure false:=by rfl):
  PS X (.Try [.Expr (.Call (.Name fnm p) (e0::es) [] q) p'] [.ExceptHandler (some (.Name gn np)) (some n) (nh n y ns p1 p2 p3 p4 p5 p6 p7 p8 p9 pa pb pc pd pe pf pg ph k1 k2) hp] [] [] pos)
   (λD σ H=>t σ H λvs H1=>sp vs H1 (λ_ _=>False) λcls _ H2=>∃C r,cls=.ref C/\fj X C G ts Y r/\∀p ts',H2 p=none->D.rt (.bl r) (aJ H2 p (.tup ts'))):=by
 intro pins s σ H D I h;have hiσ:i<σ.length:=by rw[I.len];exact(Qa.mp hi).1
 refine wpAny_Try_except (LU (LW (jQ F hr hgf hmf hkf hb hdf (ha _) he hpl I h λH1 s1 ev s' J hq=>?_) I.quiet hs));obtain⟨C,e,tt,B,H2,rfl,os,bare,un,hok,fl,hB,C',rr,eC,hk,hD⟩:=hq;cases eC;exact Hw (D:=D) hst hfr J os bare un hok fl hB hk.ex hG hgG hmG hdG hN hi hn λoe E' hc=>G8 hk hc hts hz hY hmY hdY hI hmI hV hmV hi hn hd1 hd2 hiσ hD
end L2
namespace L2
open PySem PySem.Spec PySem.Calls PyProof.Rows
end L2
namespace Mini
open PySem PySem.Spec PyProof.Rows L2
set_option genInjectivity false in
structure Xc where
 g:Str
 rs:List Str
 os:List Str
def Xc.xs(Q:Xc):List Str:=Q.rs++Q.os
def Xc.at {Q:Xc}{c:Nat}(h:Q.rs[c]?=some x):Q.xs[c]?=some x:=by
 unfold Xc.xs;rw[Qg (Qa.mp h).1];exact h
def fu:List Value:=[.type "ValueError",.type "Exception",.type "BaseException",.type "object"]
set_option tactic.hygienic true in
def tW {K:Qb}(X:K.In h)(q:Wp K C fu "ValueError.__new__"=true):(∀(x:Str) (mg:Str->Option Value),mg x=some (.ref C)->OwnCls x C fu "ValueError.__new__" mg h)/\(Wb K C v=some true->gM h C v):=by
 unfold Wp at q;split at q
 .rename_i dd cd sl ho;split at q
  .rename_i C' bm k0 k1 k2 k3 n k5 hm hs;simp only[Qq,beq_iff_eq,Wm]at q;obtain⟨⟨⟨⟨⟨rfl,rfl⟩,q1⟩,q2⟩,q3⟩,q4⟩:=q;have eo:=X _ _ ho;have em:Wb K C' v=some (cd.mro.contains v):=by
    unfold Wb PySem.W.clsIn;rw[ho];simp only[WR];rw[hm];rfl
   obtain⟨a1,a2,a3,a4,a5,a6,a7,a8,a9,b1,b2⟩:=cd;dsimp only at hm q1 q3 q4 em;subst hm q1;have es:sl=#[k0,k1,k2,k3,some (.builtin "ValueError.__new__"),k5]:=by
    obtain⟨l⟩:=sl;simp only at hs;rw[hs]
   subst es;have T:=PySem.W.tail_of_in X q2;refine⟨λx mg hb=>⟨hb,bm,a4,a1,a5,a2,a6,a7,a8,a9,b1,dd,k0,k1,k2,k3,k5,_,eo,.of_isNs (PySem.W.isNs_of_in X q3),PySem.W.nsMap_none_of_in X q3 q4,T⟩,λz=>?_⟩;rw[em]at z;exact⟨a1,a5,a4,a2,bm,a6,a7,a8,a9,b1,dd,k0,k1,k2,k3,k5,_,eo,Option.some.inj z⟩
  .cases q
 .cases q
structure fg(K:Qb)(mg:Str->Option Value)(Q:Xc)(G:Addr):Prop where
 g:mg Q.g=some (.ref G)
 ge:Wp K G fu "ValueError.__new__"=true
 gb:Wb K G (.type "BaseException")=some true
 v:mg "ValueError"=none
 y:∀(c:Nat) (x:Str),Q.xs[c]?=some x->∃A,mg x=some (.ref A)
 x:∀(c:Nat) (x:Str),Q.rs[c]?=some x->∃A,mg x=some (.ref A)/\Wp K A fu "ValueError.__new__"=true/\dG K A/\Wb K A (.ref G)=some true/\QG K (.ref A) (.type "ValueError")=some true /\
  ∀(c':Nat) (x':Str) (A':Addr),Q.xs[c']?=some x'->mg x'=some (.ref A')->QG K (.ref A) (.ref A')=some (decide (c=c'))
def RX(mg:Str->Option Value)(Q:Xc)(E:XK):VK:=λv H=>∃(c:Nat) (x:Str) (A:Addr),v=.int c/\Q.rs[c]?=some x/\mg x=some (.ref A)/\E (.ref A) none H
def AS(K:Qb)(mg:Str->Option Value)(Q:Xc)(g:List Wd->Me->Rz):Sp:=λvs H _ E=>kG K g vs H (RX mg Q E) E0
def lE(sc:Lo)(Q:Xc):List Expr->List Nat->Bool
 |[],[]=>true
 |.Name x _::es,c::cs=>cA sc x&&(zP x&&(decide (Q.xs[c]?=some x)&&lE sc Q es cs))
 |_,_=>false
inductive eV(C:Ctx)(Q:Xc)(xn:List (Nat×Str))(sc:Lo)(N:List Str):Sm->List Stmt->Prop
 |ite {c:Ex}{y:Expr}{x msg:Str}{j k:Nat}{np cp p p1 p2:Pos}{rest:List Stmt}(rc:zo c=false) (ic:vM c=false) (hc:aC C sc N c (.e y)) (hx:Q.rs[j]?=some x) (hg:cA sc x=true) (ok:zP x=true) :
   eV C Q xn sc N (.ite c (.ret (.lit (.int j))) .never) (.If y [.Raise (some (.Call (.Name x np) [.Constant (.str msg) k p1] [] cp)) none p2] [] p::rest)
 |call {k:Nat}{a:Ex}{nm:Str}{y:Expr}{ys:List Expr}{p p' p2:Pos}{rest:List Stmt}(hk:xn.lookup k=some nm) (hg:cA sc nm=true) (ok:zP nm=true) (hs:(y::ys).all zF=true) (ha:aC C sc N a (.a (y::ys))) :
   eV C Q xn sc N (.ret (.call k a)) (.Expr (.Call (.Name nm p) (y::ys) [] p') p2::rest)
 |ret {k:Nat}{a:Ex}{nm:Str}{y:Expr}{ys:List Expr}{p p' p2:Pos}{rest:List Stmt}(hk:xn.lookup k=some nm) (hg:cA sc nm=true) (ok:zP nm=true) (hs:(y::ys).all zF=true) (ha:aC C sc N a (.a (y::ys))) :
   eV C Q xn sc N (.ret (.call k a)) (.Return (some (.Call (.Name nm p) (y::ys) [] p')) p2::rest)
theorem bB.wish{C:Ctx}{X:Cx}{cl:Nat->List Wd->Me->Rz}{d:Nat}(h:bB C X cl d)(E:Value->Shared->Prop):bB C (X.wish E) cl d:=⟨h.room,h.calm,h.fn,h.con,h.blt⟩
def v7 (h:zP x=true):(x==("__debug__":Str))=false/\(x==("__classdict__":Str))=false:=by
 unfold zP at h;simp only[Qq,Wm]at h;exact⟨h.1.1,h.1.2⟩
def iR(P:Lr)(w:Ls)(K:Qb)(mg:Str->Option Value)(base:Ly)(Q:Xc)(xn:List (Nat×Str))(cl:Nat->List Wd->Me->Rz)(d:Nat):Prop:=∀(k:Nat) (nm:Str),xn.lookup k=some nm ->
 (∃f fd ps,mg nm=some (.ref f)/\Q3 K (.ref f)=true/\Binds K fd ps []/\cc P w K mg base (eK P w) d f fd ps (AS K mg Q (cl k))) /\
 ∀ws m v m',cl k ws m=.ok v m'->∃(c:Nat) (x:Str),v=.int c/\Q.rs[c]?=some x
section
variable{C:Ctx}{Q:Xc}{xn:List (Nat×Str)}{cl:Nat->List Wd->Me->Rz}{d:Nat}{X:Cx}{G:Addr}
def Em {K:Qb}(S:aQ K as m H)(hp:H p=none)(us:List V):Step as H as (aJ H p (.tup us))/\aQ K as m (aJ H p (.tup us)):=by
 have T:Step as H as (aJ H p (.tup us)):=⟨⟨[],by simp⟩,λb o h _=>by rw[zj (zr h hp)];exact h,λb hb=>.inl hb⟩;refine⟨T,S.keep T λb _ o e=>?_⟩;rw[zj (zr e hp)];exact e
def Da (hC:bB C X cl d)(hX:eA X.nox)(hO:fg X.K X.mg Q G)(hx:∀x A,X.mg x=some (.ref A)->Wp X.K A fu "ValueError.__new__"=true->OwnCls x A fu "ValueError.__new__" X.mg X.base)(hp:jt (eK X.prog X.w) X E)(hr:nj X E)(hF:iR X.prog X.w X.K X.mg X.base Q xn cl d)(h:eV C Q xn X.env.scope X.N s sts):cv X sts (λ_ σ H=>xk X.K (bC cl s) {nx:=λ_ _=>False,rt:=RX X.mg Q E} σ H):=by
 induction h with
 |@ite c y x msg j k np cp p p1 p2 rest rc ic hc hxs hg ok=>
  obtain⟨A,hm,hA,hz⟩:=hO.x j x hxs;have pR:=Hc (X:=X) (E:=E) (np:=np) (cpos:=cp) (pos:=p2) (hx x A hm hA) F.excBase_ValueError hC.calm (yQ hg) hr (yj (wm (x:=msg) (j:=k) (pos:=p1)) xI) (v7 ok).1;have pI:=mT (pos:=p) ((zY hc X hC rfl rfl).pt rc ic) (vS pR) (kB (X:=X) (sts:=[]));intro pins s σ H D I q;refine wR pI (kB (X:=X) (sts:=rest)) pins s σ H D I ?_;obtain⟨as,env,m,S,G',P⟩:=q;refine⟨as,env,m,S,G',az.bind P λw m1 as1 H1 v T1 S1 R1 P1=>?_⟩;cases w with
  |bl b=>
   obtain rfl:=ah.mp R1;refine⟨b,rfl,?_⟩;cases b with
   |true=>
    refine g9 ⟨show 1<=sizeLine by decide,?_⟩;obtain⟨c',x',A',e1,e2,e3,e4⟩:=P1 as1 H1 (.int j) .refl S1 (aa.mpr rfl);have e5:(j:Int)=c':=by injection e1
    have e6:j=c':=by lia
    subst e6;rw[hxs]at e2;cases e2;rw[hm]at e3;cases e3;exact e4
   |false=>exact P1.elim
  |_=>exact P1.elim
 |@call k a nm y ys p p' p2 rest hk hg ok hs ha=>
  obtain⟨⟨f,fd,ps,h1,h2,h3,h4⟩,_⟩:=hF k nm hk;have hs':=hs;rw[Wn,Qq]at hs';intro pins s σ H D I q;have pa:PA (X.wish X.xe) (y::ys) (vZ X.K (af cl a)):=zY ha X hC rfl rfl;have go:LK (LL X.prog X.w) X.A (eval (.Call (.Name nm p) (y::ys) [] p') X.env) (λ_ s1=>SP X pins {nx:=λ_ _=>False,rt:=D.rt} .next s1) X.xe s:=by
   refine jQ (E:=E) h4 hC.room (yQ hg) h1 h2 h3 (v7 ok).1 pa (zp hs'.1) (yy hs'.2) I ?_ λH1 s1 ev s' J z=>hp pins σ H1 s1 ev s' J z;obtain⟨as,env,m,S,G',P⟩:=q;have P0:aq X.K as H (RX X.mg Q E) ((af cl a env m).bind λw m1=>cl k (zn w) m1):=az.bind (r:=(af cl a env m).bind λw m1=>cl k (zn w) m1) P λw m1 as1 H1 v T1 S1 R1 P1=>P1 as1 H1 v .refl S1 R1;exact⟨as,env,m,S,G',b7.bind P0 λw m1 as1 H1 vs T1 S1 R1 P1=>⟨as1,m1,zn w,S1,R1,P1⟩⟩
  refine LU (LW (LO go (λv s1 z=>?_) λ_ _ z=>z) I.quiet (jK (by rfl)));obtain⟨_,_,_,z⟩:=z;exact z.elim
 |@ret k a nm y ys p p' p2 rest hk hg ok hs ha=>
  obtain⟨⟨f,fd,ps,h1,h2,h3,h4⟩,_⟩:=hF k nm hk;have hs':=hs;rw[Wn,Qq]at hs';intro pins s σ H D I q;have pa:PA (X.wish X.xe) (y::ys) (vZ X.K (af cl a)):=zY ha X hC rfl rfl;have go:LK (LL X.prog X.w) X.A (eval (.Call (.Name nm p) (y::ys) [] p') X.env) (λ_ s1=>SP X pins {nx:=λ_ _=>False,rt:=D.rt} .next s1) X.xe s:=by
   refine jQ (E:=E) h4 hC.room (yQ hg) h1 h2 h3 (v7 ok).1 pa (zp hs'.1) (yy hs'.2) I ?_ λH1 s1 ev s' J z=>hp pins σ H1 s1 ev s' J z;obtain⟨as,env,m,S,G',P⟩:=q;have P0:aq X.K as H (RX X.mg Q E) ((af cl a env m).bind λw m1=>cl k (zn w) m1):=az.bind (r:=(af cl a env m).bind λw m1=>cl k (zn w) m1) P λw m1 as1 H1 v T1 S1 R1 P1=>P1 as1 H1 v .refl S1 R1;exact⟨as,env,m,S,G',b7.bind P0 λw m1 as1 H1 vs T1 S1 R1 P1=>⟨as1,m1,zn w,S1,R1,P1⟩⟩
  refine LU (wpAny_Return_some (LO go (λv s1 z=>?_) λ_ _ z=>z));obtain⟨_,_,_,z⟩:=z;exact z.elim
inductive IsT(C:Ctx)(Q:Xc)(xn:List (Nat×Str))(sc:Lo)(N:List Str):Sm->List Stmt->Prop
 |mk {k y i:Nat}{a:Ex}{nm n ny:Str}{e0:Expr}{es ns:List Expr}{cs:List Nat}{rest:List Stmt}{p q p' np hp pos p1 p2 p3 p4 p5 p6 p7 p8 p9 pa pb pc pd pe pf pg ph:Pos}{k1 k2:Nat}
   (hk:xn.lookup k=some nm) (hg:cA sc nm=true) (ok:zP nm=true) (hs:(e0::es).all zF=true) (ha:aC C sc N a (.a (e0::es))) (gg:cA sc Q.g=true) (og:zP Q.g=true) (hi:N[i]?=some n) (hn:decide (sc.names.lookup n=some .local)=true) (on:zP n=true)
   (hns:lE sc Q ns cs=true) (hcs:cs.contains y=false) (hz:cs.length<=1000) (hy:Q.rs[y]?=some ny) (gy:cA sc ny=true) (oy:zP ny=true) (gI:cA sc "isinstance"=true) (gV:cA sc "ValueError"=true) :
   IsT C Q xn sc N (.ret (.cmp .eq (.call k a) (.lit (.int y)))) (.Try [.Expr (.Call (.Name nm p) (e0::es) [] q) p'] [.ExceptHandler (some (.Name Q.g np)) (some n) (nh n ny ns p1 p2 p3 p4 p5 p6 p7 p8 p9 pa pb pc pd pe pf pg ph k1 k2) hp] [] [] pos::rest)
theorem tq(hO:fg X.K X.mg Q G):∀{ns:List Expr}{cs:List Nat},lE X.env.scope Q ns cs=true->∃ts,cV X.env X.mg ns ts/\ts.length=cs.length /\
  ∀(c:Nat) (A:Addr),(∀(c':Nat) (x':Str) (A':Addr),Q.xs[c']?=some x'->X.mg x'=some (.ref A')->QG X.K (.ref A) (.ref A')=some (decide (c=c')))->PySem.W.kitAny X.K (.ref A) (ts.map Value.ref)=some (cs.any λc'=>decide (c=c'))
 |[],[],_=>⟨[],.nil,rfl,λc A _=>rfl⟩
 |[],_::_,h=>by cases h
 |e::es,[],h=>by cases e<;>cases h
 |e::es,c1::cs,h=>by
  cases e with
  |Name x p=>
   replace h:(cA X.env.scope x&&(zP x&&(decide (Q.xs[c1]?=some x)&&lE X.env.scope Q es cs)))=true:=h
   simp only[Qq,Nc]at h;obtain⟨h1,h2,h3,h4⟩:=h;obtain⟨ts,t1,t2,t3⟩:=tq hO h4;obtain⟨A,hm⟩:=hO.y c1 x h3;refine⟨A::ts,.cons (yQ h1) hm (v7 h2).1 t1,by simp[t2],λc B hB=>?_⟩;show(match QG X.K (.ref B) (.ref A)with
    |some true=>some true
    |some false=>PySem.W.kitAny X.K (.ref B) (ts.map Value.ref)
    |none=>none)=_
   rw[hB c1 x A h3 hm,t3 c B hB];by_cases z:c=c1
   .simp[z]
   .simp[z]
  |_=>cases h
def C9 (hC:bB C X cl d)(hst:X.stack=X.env::X.outer)(hfr:X.env.frame=some X.env.locals)(hO:fg X.K X.mg Q G)(hb:∀A v,Wp X.K A fu "ValueError.__new__"=true->Wb X.K A v=some true->gM X.base A v)(hF:iR X.prog X.w X.K X.mg X.base Q xn cl d)(hN:X.N.Nodup)(h:IsT C Q xn X.env.scope X.N s sts):cv X sts (xk X.K (bC cl s)):=by
 cases h with
 |@mk k y i a nm n ny e0 es ns cs rest p q p' np hp pos p1 p2 p3 p4 p5 p6 p7 p8 p9 pa pb pc pd pe pf pg ph k1 k2 hk hg ok hs ha gg og hi hn on hns hcs hz hy gy oy gI gV=>
  obtain⟨⟨f,fd,ps,h1,h2,h3,h4⟩,val⟩:=hF k nm hk;have hs':=hs;rw[Wn,Qq]at hs';obtain⟨ts,t1,t2,t3⟩:=tq hO hns;obtain⟨Y,mY,_,_,_,_,_⟩:=hO.x y ny hy;have pT:=Eo (X:=X) (G:=G) (Y:=Y) (ts:=ts) (p:=p) (q:=q) (p':=p') (np:=np) (hp:=hp) (pos:=pos) (p1:=p1) (p2:=p2) (p3:=p3) (p4:=p4) (p5:=p5) (p6:=p6) (p7:=p7) (p8:=p8) (p9:=p9) (pa:=pa) (pb:=pb) (pc:=pc) (pd:=pd) (pe:=pe) (pf:=pf) (pg:=pg) (ph:=ph) (k1:=k1) (k2:=k2)
   hst hfr h4 hC.room (yQ hg) h1 h2 h3 (v7 ok).1 (t:=vZ X.K (af cl a)) (λE=>zY ha (X.wish E) (hC.wish E) rfl rfl) (hb G _ hO.ge hO.gb) (yQ gg) hO.g (v7 og).1 hN hi (Nb hn) (v7 on).1 (v7 on).2 t1 (by rw[t2];exact hz)
   (yQ gy) mY (v7 oy).1 (yQ gI) (hC.blt _ (by simp[zB])) (yQ gV) hO.v (zp hs'.1) (yy hs'.2) (jK (by rfl))
  intro pins s σ H D I qq;refine wR pT (kB (X:=X) (sts:=rest)) pins s σ H D I ?_;obtain⟨as,env,m,S,G',P⟩:=qq;have P0:aq X.K as H D.rt (af cl (.cmp .eq (.call k a) (.lit (.int y))) env m):=az.bind P λw m1 as1 H1 v T1 S1 R1 P1=>P1 as1 H1 v .refl S1 R1;have e1:af cl (.cmp .eq (.call k a) (.lit (.int y))) env m=(af cl a env m).bind λw m1=>(cl k (zn w) m1).bind λu m2=>cZ .eq u (.int y) m2:=by
   show(((af cl a env m).bind λx m1=>cl k (zn x) m1).bind λu m2=>((Rz.ok (.int y) m2).bind λv m3=>cZ .eq u v m3))=_;cases af cl a env m<;>rfl
  rw[e1]at P0;refine⟨as,env,m,S,G',b7.bind P0 λw m1 as1 H1 vs T1 S1 R1 P1=>⟨as1,m1,zn w,S1,R1,?_⟩⟩;cases hcl:cl k (zn w) m1 with
  |exc c w' m2=>rw[hcl]at P1;exact P1.elim
  |no=>rw[hcl]at P1;exact P1.elim
  |ok u m2=>
   rw[hcl]at P1;obtain⟨c,x,rfl,hxs⟩:=val _ _ _ _ hcl;intro as2 H2 v T2 S2 R2;obtain rfl:=aa.mp R2;obtain⟨A,hmA,hAe,hAk,hAm,hAv,hAo⟩:=hO.x c x hxs;refine⟨c,x,A,rfl,hxs,hmA,A,decide (c=y),rfl,⟨hb A _ hAe hAm,hAk,hAv,_,_,t3 c A hAo,hAo y ny Y (Xc.at hy) mY,?_⟩,λp ts' hp=>?_⟩
   .by_cases z:c=y
    .subst z;have:(cs.any λc'=>decide (c=c'))=false:=by
      rw[WQ];intro c' hc';have:=hcs;rw[List.contains_eq_any_beq,WQ]at this;simpa using this c' hc'
     rw[this];rfl
    .simp[z]
   .obtain ⟨T3,S3⟩:=Em S2 hp ts';have P2:aq X.K as1 H1 D.rt (.ok (.bl (decide ((c:Int)=(y:Int)))) m2):=P1;have e2:decide ((c:Int)=(y:Int))=decide (c=y):=by
     by_cases z:c=y
     .simp[z]
     .have:¬(c:Int)=(y:Int):=by lia
      simp[z,this]
    rw[e2]at P2;exact P2 _ _ _ (T2.trans T3) S3 (ah.mpr rfl)
end
structure cb(C:Ctx)(Q:Xc)(xn:List (Nat×Str))(d:bc):Prop where
 sc:jN d.N d.ps (zL d.st)=true
 ar:d.ps.length=d.fn.ar
 sz:d.N.length=d.fn.sz
 body:IsT C Q xn (zL d.st) d.N d.fn.body (xa d.st)
structure fi(C:Ctx)(Q:Xc)(xn:List (Nat×Str))(d:bc):Prop where
 sc:jN d.N d.ps (zL d.st)=true
 ar:d.ps.length=d.fn.ar
 sz:d.N.length=d.fn.sz
 body:eV C Q xn (zL d.st) d.N d.fn.body (xa d.st)
section
variable{P:Lr}{w:Ls}{K:Qb}{mg:Str->Option Value}{base:Ly}{C:Ctx}{cl:Nat->List Wd->Me->Rz}{Q:Xc}{xn:List (Nat×Str)}{G:Addr}
def cU (h:aq K as H R (wE cl fn ws m)):ws.length=fn.ar:=by
 unfold wE at h;split at h
 .assumption
 .exact h.elim
set_option tactic.hygienic true in
def Hv (F:eJ K d.on d.on d.st f fd)(hd:cb C Q xn d)(kb:K.In base)(hO:fg K mg Q G)(hF:iR P w K mg base Q xn cl k)(hfn:∀(i:Nat) (nm:Str),C.fns[i]?=some nm->∃f fd ps,mg nm=some (.ref f)/\Q3 K (.ref f)=true/\Binds K fd ps []/\cc P w K mg base dH k f fd ps (kG K (cl i)))(hcon:jE K w mg C)(hblt:∀nm∈zB,mg nm=none):
  cc P w K mg base dH (k+1) f fd d.ps (kG K (wE cl d.fn)):=by
 obtain⟨h1,h2,h3,h4⟩:=hd;have Sc:=kJ h1;refine F.ok Sc (λvs H Q' E h=>?_) (λcdv A outer s H vs Q' E hr h=>?_)
 .obtain ⟨as,m,ws,S,R,q⟩:=h;rw[<-R.length,cU q,h2]
 .obtain ⟨as,m,ws,S,R,q⟩:=h;have ha:=cU q;have hC:bB C (jc dH P w K mg base d.N d.on (zL d.st) f cdv A outer s H E).nox cl k:=⟨hr,rfl,hfn,hcon,hblt⟩;refine⟨_,C9 hC rfl rfl hO (λA v z1 z2=>(tW kb z1).2 z2) hF Sc.nd h4,as,yU d.fn ws,m,S,kK R ha h3,?_⟩;unfold wE at q;rw[M6 ha]at q;cases hr:bC cl d.fn.body (yU d.fn ws) m with
  |next e m1=>rw[hr]at q;exact λas' H' σ' T S' G'=>q as' H' .non T S' (ao.mpr rfl)
  |ret w m1=>rw[hr]at q;exact λas' H' v T S' R'=>q as' H' v T S' R'
  |brk e m1=>rw[hr]at q;exact q.elim
  |cont e m1=>rw[hr]at q;exact q.elim
  |exc c w e m1=>rw[hr]at q;exact q.elim
  |no=>rw[hr]at q;exact q.elim
set_option tactic.hygienic true in
def Hu (F:eJ K d.on d.on d.st f fd)(hd:fi C Q xn d)(kb:K.In base)(hO:fg K mg Q G)(hF:iR P w K mg base Q xn cl k)(hfn:∀(i:Nat) (nm:Str),C.fns[i]?=some nm->∃f fd ps,mg nm=some (.ref f)/\Q3 K (.ref f)=true/\Binds K fd ps []/\cc P w K mg base dH k f fd ps (kG K (cl i)))(hcon:jE K w mg C)(hblt:∀nm∈zB,mg nm=none):
  cc P w K mg base (eK P w) (k+1) f fd d.ps (AS K mg Q (wE cl d.fn)):=by
 obtain⟨h1,h2,h3,h4⟩:=hd;have Sc:=kJ h1;obtain⟨oc,od,kV,doc,pm,an,cdv,ct,osl,rfl,lk,hcd⟩:=F.ex;refine sU lk hcd Sc (λvs H Q' E h=>?_) λA outer s H vs Q' E hr h=>?_
 .obtain ⟨as,m,ws,S,R,q⟩:=h;rw[<-R.length,cU q,h2]
 .obtain ⟨as,m,ws,S,R,q⟩:=h;have ha:=cU q;have hC:bB C (jc (eK P w) P w K mg base d.N d.on (zL d.st) f cdv A outer s H E) cl k:=⟨hr,rfl,hfn,hcon,hblt⟩;refine⟨_,Da hC ⟨Sc.nd,λ_=>rfl,PassesOwn.never⟩ hO (λx A z1 z2=>(tW (v:=.none) kb z2).1 x mg z1) FQ Hd hF h4,as,yU d.fn ws,m,S,kK R ha h3,?_⟩;unfold wE at q;rw[M6 ha]at q;cases hr:bC cl d.fn.body (yU d.fn ws) m with
  |next e m1=>
   rw[hr]at q;intro as' H' σ' T S' G';obtain⟨_,_,_,z,_⟩:=q as' H' .non T S' (ao.mpr rfl);cases z
  |ret w m1=>rw[hr]at q;exact λas' H' v T S' R'=>q as' H' v T S' R'
  |brk e m1=>rw[hr]at q;exact q.elim
  |cont e m1=>rw[hr]at q;exact q.elim
  |exc c w e m1=>rw[hr]at q;exact q.elim
  |no=>rw[hr]at q;exact q.elim
def nJ{sc:Lo}{N:List Str}{s:Sm}{sts:List Stmt}(h:eV C Q xn sc N s sts)(hv:∀(k:Nat) (nm:Str),xn.lookup k=some nm->∀ws m v m',cl k ws m=.ok v m'->∃(c:Nat) (x:Str),v=.int c/\Q.rs[c]?=some x)(env:En)(m:Me):
  match bC cl s env m with
  |.ret v _=>∃(c:Nat) (x:Str),v=.int c/\Q.rs[c]?=some x
  |.next _ _=>False
  |_=>True:=by
 induction h generalizing env m with
 |@ite c y x msg j k np cp p p1 p2 rest rc ic hc hxs hg ok=>
  show match (af cl c env m).bindS env (λx m1=>match x with
   |.bl true=>bC cl (.ret (.lit (.int j))) env m1
   |.bl false=>bC cl .never env m1
   |_=>.no)with
   |.ret v _=>_
   |.next _ _=>False
   |_=>True
  cases af cl c env m with
  |ok w m1=>
   cases w with
   |bl b=>
    cases b with
    |true=>exact⟨j,x,rfl,hxs⟩
    |false=>trivial
   |_=>trivial
  |exc _ _ _=>trivial
  |no=>trivial
 |@call k a nm y ys p p' p2 rest hk hg ok hs ha=>
  show match ((af cl a env m).bind λw m1=>cl k (zn w) m1).bindS env (λw m1=>.ret w m1)with
   |.ret v _=>_
   |.next _ _=>False
   |_=>True
  cases af cl a env m with
  |ok w m1=>
   show match (cl k (zn w) m1).bindS env (λw m1=>.ret w m1)with
    |.ret v _=>_
    |.next _ _=>False
    |_=>True
   cases e:cl k (zn w) m1 with
   |ok v m2=>exact hv k nm hk _ _ _ _ e
   |exc _ _ _=>trivial
   |no=>trivial
  |exc _ _ _=>trivial
  |no=>trivial
 |@ret k a nm y ys p p' p2 rest hk hg ok hs ha=>
  show match ((af cl a env m).bind λw m1=>cl k (zn w) m1).bindS env (λw m1=>.ret w m1)with
   |.ret v _=>_
   |.next _ _=>False
   |_=>True
  cases af cl a env m with
  |ok w m1=>
   show match (cl k (zn w) m1).bindS env (λw m1=>.ret w m1)with
    |.ret v _=>_
    |.next _ _=>False
    |_=>True
   cases e:cl k (zn w) m1 with
   |ok v m2=>exact hv k nm hk _ _ _ _ e
   |exc _ _ _=>trivial
   |no=>trivial
  |exc _ _ _=>trivial
  |no=>trivial
set_option tactic.hygienic true in
def oh (hd:fi C Q xn d)(hv:∀(k:Nat) (nm:Str),xn.lookup k=some nm->∀ws m v m',cl k ws m=.ok v m'->∃(c:Nat) (x:Str),v=.int c/\Q.rs[c]?=some x)(ws:List Wd)(m:Me)(v:Wd)(m':Me)(h:wE cl d.fn ws m=.ok v m'):
  ∃(c:Nat) (x:Str),v=.int c/\Q.rs[c]?=some x:=by
 have z:=nJ hd.body hv (yU d.fn ws) m;unfold wE at h;split at h
 .cases e:bC cl d.fn.body (yU d.fn ws) m with
  |ret w m1=>rw[e]at h z;cases h;exact z
  |next _ _=>rw[e]at z;exact z.elim
  |brk _ _=>rw[e]at h;cases h
  |cont _ _=>rw[e]at h;cases h
  |exc _ _ _ _=>rw[e]at h;cases h
  |no=>rw[e]at h;cases h
 .cases h
end
def io:Nat->List bc->List (Nat×Str)
 |_,[]=>[]
 |n,d::r=>(n,d.nm)::io (n+1) r
theorem ql:∀{XD:List bc}{n k:Nat}{nm:Str},(io n XD).lookup k=some nm->∃j d,XD[j]?=some d/\d.nm=nm/\k=n+j
 |[],_,_,_,h=>by cases h
 |d::r,n,k,nm,h=>by
  unfold io at h;rw[QU]at h;cases e:k==n with
  |true=>
   rw[e]at h;cases h;exact⟨0,d,rfl,rfl,by simpa using e⟩
  |false=>
   rw[e]at h;obtain⟨j,d',h1,h2,h3⟩:=ql h;exact⟨j+1,d',h1,h2,by lia⟩
section
variable{P:Lr}{w:Ls}{K:Qb}{mg:Str->Option Value}{base:Ly}{C:Ctx}{Q:Xc}{xn:List (Nat×Str)}{G:Addr}
theorem tm {D:List bc}(hC:C.fns=D.map (·.nm))(hxn:xn=io D.length XD)(hD:∀d∈D,br C d\/cb C Q xn d)(hX:∀d∈XD,fi C Q xn d)(hB:∀d∈D,eY d)(hBX:∀d∈XD,eY d)(hK:∀d∈D,wW K mg d)(hKX:∀d∈XD,wW K mg d)(kb:K.In base)(hO:fg K mg Q G)(hcon:jE K w mg C)(hblt:∀nm∈zB,mg nm=none):
  ∀k:Nat,(∀(i:Nat) (d:bc),D[i]?=some d->∀f fd,eJ K d.on d.on d.st f fd->cc P w K mg base dH k f fd d.ps (kG K (yO (D.map (·.fn)++XD.map (·.fn)) k i)))/\iR P w K mg base Q xn (yO (D.map (·.fn)++XD.map (·.fn)) k) k
 |0=>by
  have no:∀{i:Nat}{vs:List V}{H:Hp}{R:VK}{E:XK},¬kG K (yO (D.map (·.fn)++XD.map (·.fn)) 0 i) vs H R E:=λ{i vs H R E} h=>by
   obtain⟨as,m,ws,S,R,q⟩:=h;exact q
  refine⟨λi d hi f fd F=>⟨λvs H R E h=>(no h).elim,λA outer s H args us vs R E _ _ _ _ h=>(no h).elim⟩,λk nm hk=>⟨?_,λws m v m' h=>by cases h⟩⟩;rw[hxn]at hk;obtain⟨j,d,h1,rfl,rfl⟩:=ql hk;obtain⟨f,fd,F,hm⟩:=hKX d (Qo h1);exact⟨f,fd,d.ps,hm,F.kp,F.binds (hBX d (Qo h1)),⟨λvs H R E h=>(no h).elim,λA outer s H args us vs R E _ _ _ _ h=>(no h).elim⟩⟩
 |k+1=>by
  obtain⟨ih,ihX⟩:=tm hC hxn hD hX hB hBX hK hKX kb hO hcon hblt k;have hfn:∀(j:Nat) (nm:Str),C.fns[j]?=some nm->∃f fd ps,mg nm=some (.ref f)/\Q3 K (.ref f)=true/\Binds K fd ps []/\cc P w K mg base dH k f fd ps (kG K (yO (D.map (·.fn)++XD.map (·.fn)) k j)):=λj nm hj=>by
   rw[hC,Qv]at hj;cases hx:D[j]? with
   |none=>rw[hx]at hj;cases hj
   |some d'=>
    rw[hx]at hj;cases hj;obtain⟨f',fd',F',m'⟩:=hK d' (Qo hx);exact⟨f',fd',d'.ps,m',F'.kp,F'.binds (hB d' (Qo hx)),ih j d' hx f' fd' F'⟩
  have at1:∀{i:Nat}{d:bc},D[i]?=some d->yO (D.map (·.fn)++XD.map (·.fn)) (k+1) i=wE (yO (D.map (·.fn)++XD.map (·.fn)) k) d.fn:=λ{i d} hi=>by
   funext ws m;have z:(D.map bc.fn++XD.map bc.fn)[i]?=some d.fn:=by
    rw[Qg (by rw[Qn];exact(Qa.mp hi).1),Qv,hi];rfl
   show(match ((D.map bc.fn)++(XD.map bc.fn):List Fn)[i]? with
    |some fn=>wE (yO (D.map bc.fn++XD.map bc.fn) k) fn ws m
    |none=>.no)=_
   rw[z]
  have at2:∀{j:Nat}{d:bc},XD[j]?=some d->yO (D.map (·.fn)++XD.map (·.fn)) (k+1) (D.length+j)=wE (yO (D.map (·.fn)++XD.map (·.fn)) k) d.fn:=λ{j d} hi=>by
   funext ws m;have z:(D.map bc.fn++XD.map bc.fn)[D.length+j]?=some d.fn:=by
    rw[Qi (by rw[Qn];lia),Qn,Nat.add_sub_cancel_left,Qv,hi];rfl
   show(match ((D.map bc.fn)++(XD.map bc.fn):List Fn)[D.length+j]? with
    |some fn=>wE (yO (D.map bc.fn++XD.map bc.fn) k) fn ws m
    |none=>.no)=_
   rw[z]
  refine⟨λi d hi f fd F=>?_,λi nm hk=>?_⟩
  .rw[at1 hi];rcases hD d (Qo hi)with h|h
   .exact Hf F h hfn hcon hblt
   .exact Hv F h kb hO ihX hfn hcon hblt
  .rw[hxn]at hk;obtain⟨j,d,h1,rfl,rfl⟩:=ql hk;have hm:=Qo h1;obtain⟨f,fd,F,m'⟩:=hKX d hm;rw[at2 h1];exact⟨⟨f,fd,d.ps,m',F.kp,F.binds (hBX d hm),Hu F (hX d hm) kb hO ihX hfn hcon hblt⟩,oh (hX d hm) λk nm hk=>(ihX k nm hk).2⟩
end
def Ht {K:Qb}{ns:List Int}(hO:iA H)(hS:bn K H a (ns.map V.int))(h:∃m,yO T k i [.rol (ns.map Wd.int)] []=.ok (.bl true) m):
  kG K (yO T k i) [.ref a] H (λv _=>v=.bl true) E:=by
 have e:∀l:List Fn,(l.map λf=>(⟨"",.Pass ⟨0,0,0,0⟩,[],[],f,""⟩:bc)).map (·.fn)=l:=λl=>by
  induction l with
  |nil=>rfl
  |cons f l ih=>show f::_=_;rw[ih]
 have z:=He (D:=T.map λf=>(⟨"",.Pass ⟨0,0,0,0⟩,[],[],f,""⟩:bc)) (k:=k) (i:=i) (E:=E) hO hS;rw[e]at z;exact z h
def Bz {l:PySem.W.OpenLaw}{Kp:Lp->Qb}{D:List bc}{dl:bc}(hn:l.most=some n)(hn2:n<=sizeLine)(hdf:d.params.defaults=[])(hr:b9 k MD)(hY:∀(w:Ls) (h:Ly),YP w h->(Kp w.params).In h)(hC:C.fns=D.map (·.nm))(hxn:xn=io D.length XD)(hD:∀d∈D,br C d\/cb C Q xn d)(hX:∀d∈XD,fi C Q xn d)(hB:∀d∈D,eY d)(hBX:∀d∈XD,eY d)(hi:D[i]?=some dl)(hx:dl.ps=[x])(hnm:d.name=dl.nm)(F:∀(w:Ls) (mg:Str->Option Value) (fa:Addr) (h:Ly),(Kp w.params).In h->h.Ns LC mg->mg d.name=some (.ref fa) ->
   ((∀e∈D,wW (Kp w.params) mg e)/\jE (Kp w.params) w mg C/\∀nm∈zB,mg nm=none)/\(∀e∈XD,wW (Kp w.params) mg e)/\∃G,fg (Kp w.params) mg Q G)(hpure:∀ns:List Int,ns.length<=n->∃m,yO (D.map (·.fn)++XD.map (·.fn)) k i [.rol (ns.map Wd.int)] []=.ok (.bl true) m):
  Vs q loose XP YP l.row.toRowW d [] (λf vs=>PySem.call f vs):=by
 refine L2.cD (n:=n) (k:=k) (x:=x) (CX:=λ_=>dH) (sp:=λw=>kG (Kp w.params) (yO (D.map (·.fn)++XD.map (·.fn)) k i)) hn hn2 hdf hr hY ?_ (λw H a ns hl hO hS=>Ht hO hS (hpure ns hl)) λ_ _ _ _ _ z=>z;intro w mg fa h KX Gn hmg;obtain⟨⟨h1,h2,h3⟩,h4,G,h5⟩:=F w mg fa h KX Gn hmg;obtain⟨f,fd,Ff,hm⟩:=h1 dl (Qo hi);rw[hnm,hm]at hmg;cases hmg;refine⟨fd,λs u=>?_,λbase kb nb=>?_⟩
 .obtain ⟨oc,od,kV,doc,pm,an,cdv,ct,osl,rfl,lk,hcd⟩:=Ff.ex;have z:=hB dl (Qo hi) kV doc pm an cdv ct [u] (by rw[hx];rfl);rw[hx]at z;exact .of_eq z
 .rw[<-hx];exact(tm hC hxn hD hX hB hBX h1 h4 kb h5 h2 h3 k).1 i dl hi fa fd Ff
end Mini
namespace Mini
namespace Vl
namespace Lib
inductive Di where|u|r|d|l
deriving DecidableEq
def cH:Di->Di
 |.u=>.d |.r=>.l |.d=>.u |.l=>.r
def bh:List Di:=[.u,.r,.d,.l]
abbrev Pl:=Int×Int
def aP(e:Di)(p:Pl):Pl:=match e with
 |.u=>(p.1-1,p.2) |.r=>(p.1,p.2+1) |.d=>(p.1+1,p.2) |.l=>(p.1,p.2-1)
def bq(n:Nat)(p:Pl):Bool:=decide (0<=p.1)&&decide (p.1<n)&&(decide (0<=p.2)&&decide (p.2<n))
def yq(n:Nat)(p:Pl):Di->Int
 |.u=>p.2 |.r=>n+p.1 |.d=>3*n-1-p.2 |.l=>4*n-1-p.1
abbrev Tr:=Pl->Di->Bool
structure cN(n:Nat)(t:Tr):Prop where
 con:∀p e,bq n p=true->bq n (aP e p)=true->t (aP e p) (cH e)=t p e
 two:∀p,bq n p=true->(bh.filter (t p)).length=2
def bE(f:Di->Bool)(d:Di):Di:=((bh.filter f).filter λe=>! decide (e=d)).headD d
def aK:bq n p=true↔(0<=p.1/\p.1<n)/\(0<=p.2/\p.2<n):=by
 unfold bq;simp only[Qq,Nc]
def uA(e:Di):cH (cH e)=e:=by cases e<;>rfl
def v8(e:Di)(p:Pl):aP (cH e) (aP e p)=p:=by
 obtain⟨a,b⟩:=p;cases e<;>simp[aP,cH]<;>lia
def x6 (h:(bh.filter f).length=2)(hd:f d=true):f (bE f d)=true/\bE f d≠d/\bE f (bE f d)=d/\(bh.filter f).filter (λe=>! decide (e=d))=[bE f d]:=by
 unfold bE bh at *
 cases h1:f .u<;>cases h2:f .r<;>cases h3:f .d<;>cases h4:f .l<;>simp[h1,h2,h3,h4]at h ⊢<;>cases d<;>simp_all
abbrev bP:=Pl×Di
def b8(n:Nat)(t:Tr)(s:bP):Option bP:=if bq n (aP (bE (t s.1) s.2) s.1)=true then some (aP (bE (t s.1) s.2) s.1,cH (bE (t s.1) s.2))else none
def vN(n:Nat)(t:Tr)(s:bP):Int:=yq n s.1 (bE (t s.1) s.2)
def wG(n:Nat)(t:Tr):Nat->bP->List Pl->Option (List Pl×Int)
 |0,_,_=>none
 |k+1,s,acc=>match b8 n t s with
  |some s'=>wG n t k s' (acc++[s'.1])
  |none=>some (acc,vN n t s)
def Good(n:Nat)(t:Tr)(s:bP):Prop:=bq n s.1=true/\t s.1 s.2=true
def eU(n:Nat)(s:bP):Prop:=bq n (aP s.2 s.1)=false
set_option tactic.hygienic true in
def yI (F:cN n t)(g:Good n t s)(h:b8 n t s=some s'):Good n t s'/\bq n (aP s'.2 s'.1)=true/\s=(aP s'.2 s'.1,bE (t (aP s'.2 s'.1)) (cH s'.2)):=by
 unfold b8 at h;obtain⟨o1,o2,o3,_⟩:=x6 (F.two s.1 g.1) g.2;split at h
 .next hi=>
  cases h;refine⟨⟨hi,?_⟩,?_,?_⟩
  .show t (aP _ s.1) (cH _)=true;rw[F.con s.1 _ g.1 hi];exact o1
  .show bq n (aP (cH _) (aP _ s.1))=true;rw[v8];exact g.1
  .show s=(aP (cH _) (aP _ s.1),bE (t (aP (cH _) (aP _ s.1))) (cH (cH _)));rw[v8,uA,o3]
 .cases h
def cY(n:Nat)(t:Tr)(s:bP):Nat->Option bP
 |0=>some s
 |k+1=>(cY n t s k).bind (b8 n t)
theorem AV:∀(M:Nat) (g:Nat->Nat),(∀i,i<=M->g i<M)->∃i j,i<j/\j<=M/\g i=g j
 |0,g,h=>by have:=h 0 (Qj 0);lia
 |M+1,g,h=>by
  by_cases q:∃i,i<=M/\g i=g (M+1)
  .obtain ⟨i,hi,e⟩:=q;exact⟨i,M+1,by lia,by lia,e⟩
  .have hv:=h (M+1) (by lia);obtain⟨i,j,h1,h2,h3⟩:=AV M (λi=>if g i=M then g (M+1)else g i) (λi hi=>by
    show(if g i=M then g (M+1)else g i)<M;have hi':=h i (by lia);have ne:g i≠g (M+1):=λe=>q ⟨i,hi,e⟩;split<;>lia)
   have hi:g i≠g (M+1):=λe=>q ⟨i,by lia,e⟩;have hj:g j≠g (M+1):=λe=>q ⟨j,by lia,e⟩;refine⟨i,j,h1,by lia,?_⟩
   replace h3:(if g i=M then g (M+1)else g i)=(if g j=M then g (M+1)else g j):=h3
   split at h3<;>split at h3<;>lia
def fD:Di->Nat
 |.u=>0 |.r=>1 |.d=>2 |.l=>3
def code(n:Nat)(s:bP):Nat:=(s.1.1.toNat*n+s.1.2.toNat)*4+fD s.2
def El (h:bq n s.1=true):code n s<n*n*4:=by
 obtain⟨⟨a0,a1⟩,b0,b1⟩:=aK.mp h;have h1:s.1.1.toNat+1<=n:=by lia
 have h2:s.1.2.toNat<n:=by lia
 have h3:fD s.2<4:=by cases s.2<;>decide
 have h4:(s.1.1.toNat+1)*n<=n*n:=Nat.mul_le_mul_right n h1;rw[Nat.add_mul]at h4;unfold code;generalize s.1.1.toNat*n=x at *
 generalize n*n=y at *
 lia
def Gd (h:bq n s.1=true)(h':bq n s'.1=true)(e:code n s=code n s'):s=s':=by
 obtain⟨⟨a0,a1⟩,b0,b1⟩:=aK.mp h;obtain⟨⟨c0,c1⟩,d0,d1⟩:=aK.mp h';have h3:fD s.2<4:=by cases s.2<;>decide
 have h4:fD s'.2<4:=by cases s'.2<;>decide
 unfold code at e;have e1:fD s.2=fD s'.2:=by lia
 have e2:s.1.1.toNat*n+s.1.2.toNat=s'.1.1.toNat*n+s'.1.2.toNat:=by lia
 have n0:0<n:=by lia
 have m1:s.1.2.toNat<n:=by lia
 have m2:s'.1.2.toNat<n:=by lia
 have e3:s.1.2.toNat=s'.1.2.toNat:=by
  have:=M9 (· % n) e2;simp only[Nat.mul_add_mod_self_right,Nat.mod_eq_of_lt m1,Nat.mod_eq_of_lt m2]at this;exact this
 have e4:s.1.1.toNat=s'.1.1.toNat:=by
  rw[e3]at e2;exact Nat.eq_of_mul_eq_mul_right n0 (Nat.add_right_cancel e2)
 obtain⟨⟨a,b⟩,d⟩:=s;obtain⟨⟨a',b'⟩,d'⟩:=s';simp only at *
 have:d=d':=by cases d<;>cases d'<;>simp[fD]at e1<;>rfl
 rw[this,show a=a' by lia,show b=b' by lia]
section
variable{n:Nat}{t:Tr}{s:bP}
theorem xy(F:cN n t)(g:Good n t s):∀(k:Nat) (s':bP),cY n t s k=some s'->Good n t s'
 |0,s',h=>by cases h;exact g
 |k+1,s',h=>by
  obtain⟨s1,h1,h2⟩:=QN.mp h;exact(yI F (xy F g k s1 h1) h2).1
theorem AI:∀{k m:Nat},k<=m->(cY n t s m).isSome=true->(cY n t s k).isSome=true
 |k,0,h,q=>by
  have e:k=0:=by lia
  subst e;exact q
 |k,m+1,h,q=>by
  by_cases e:k=m+1
  .subst e;exact q
  .refine AI (m:=m) (by lia) ?_;show(cY n t s m).isSome=true;cases z:cY n t s m with
   |none=>
    have:cY n t s (m+1)=none:=by show(cY n t s m).bind _=none;rw[z];rfl
    rw[this]at q;cases q
   |some _=>rfl
theorem uz(F:cN n t)(g:Good n t s)(hr:eU n s):∀(i j:Nat) (s':bP),cY n t s i=some s'->cY n t s j=some s'->i=j
 |0,0,_,_,_=>rfl
 |0,j+1,s',h,h'=>by
  cases h;obtain⟨s1,h1,h2⟩:=QN.mp h';have:=(yI F (xy F g j s1 h1) h2).2.1;unfold eU at hr;rw[hr]at this;cases this
 |i+1,0,s',h,h'=>by
  cases h';obtain⟨s1,h1,h2⟩:=QN.mp h;have:=(yI F (xy F g i s1 h1) h2).2.1;unfold eU at hr;rw[hr]at this;cases this
 |i+1,j+1,s',h,h'=>by
  obtain⟨s1,h1,h2⟩:=QN.mp h;obtain⟨s2,h3,h4⟩:=QN.mp h';have e1:=(yI F (xy F g i s1 h1) h2).2.2;have e2:=(yI F (xy F g j s2 h3) h4).2.2;have e:s2=s1:=e2.trans e1.symm;rw[e]at h3;rw[uz F g hr i j s1 h1 h3]
def Gc(F:cN n t)(g:Good n t s)(hr:eU n s):cY n t s (n*n*4)=none:=by
 cases z:cY n t s (n*n*4)with
 |none=>rfl
 |some s0=>
  exfalso;have hs:∀i,i<=n*n*4->(cY n t s i).isSome=true:=λi hi=>AI hi (by rw[z];rfl);obtain⟨i,j,h1,h2,h3⟩:=AV (n*n*4) (λi=>code n ((cY n t s i).getD s)) (λi hi=>by
   obtain⟨s1,e⟩:=Q4.mp (hs i hi);show code n ((cY n t s i).getD s)<_;rw[e];exact El (xy F g i s1 e).1)
  obtain⟨s1,e1⟩:=Q4.mp (hs i (by lia));obtain⟨s2,e2⟩:=Q4.mp (hs j (by lia))
  replace h3:code n ((cY n t s i).getD s)=code n ((cY n t s j).getD s):=h3
  rw[e1,e2]at h3;have:=Gd (xy F g i s1 e1).1 (xy F g j s2 e2).1 h3;rw[<-this]at e2;have:=uz F g hr i j s1 e1 e2;lia
theorem gN (h:b8 n t s=some s'):∀k,cY n t s (k+1)=cY n t s' k
 |0=>by show(some s).bind (b8 n t)=some s';exact h
 |k+1=>by
  show(cY n t s (k+1)).bind (b8 n t)=(cY n t s' k).bind (b8 n t);rw[gN h k]
theorem cD:∀(k:Nat) (s:bP) (acc:List Pl),cY n t s k=none->∃pl ρ,wG n t k s acc=some (pl,ρ)
 |0,s,acc,h=>by cases h
 |k+1,s,acc,h=>by
  show ∃pl ρ,(match b8 n t s with|some s'=>wG n t k s' (acc++[s'.1])|none=>some (acc,vN n t s))=some (pl,ρ);cases e:b8 n t s with
  |none=>exact⟨_,_,rfl⟩
  |some s'=>
   rw[gN e]at h;exact cD k s' _ h
def Hs(F:cN n t)(g:Good n t s)(hr:eU n s)(acc:List Pl):∃pl ρ,wG n t (n*n*4) s acc=some (pl,ρ):=cD _ s acc (Gc F g hr)
end
end Lib
inductive Dat where
 |non|bl (b:Bool)|int (i:Int)|str (s:List Nat)|tup (xs:List Dat)|lst (xs:List Dat)|scr (ns:List Int)|dct (ks:List (List Int)) (xs:List Dat)
deriving Inhabited
inductive Lv where|no|top|full
deriving DecidableEq,Inhabited
abbrev aO:=List (Option Dat)
inductive Rd where|ok (d:Dat)|exc (c:Nat) (d:Dat)|no
deriving Inhabited
def Rd.bind(r:Rd)(f:Dat->Rd):Rd:=match r with
 |.ok d=>f d
 |.exc c d=>.exc c d
 |.no=>.no
mutual
def aw:Dat->Bool
 |.lst _=>false
 |.tup xs=>aY xs
 |.non=>true
 |.bl _=>true
 |.int _=>true
 |.str _=>true
 |.scr _=>true
 |.dct _ _=>false
def aY:List Dat->Bool
 |[]=>true
 |d::ds=>aw d&&aY ds
end
mutual
def y6:Nat->Dat->Bool
 |0,_=>false
 |_+1,.scr _=>false
 |_+1,.dct _ _=>false
 |k+1,.tup xs=>bF k xs
 |k+1,.lst xs=>bF k xs
 |_+1,.non=>true
 |_+1,.bl _=>true
 |_+1,.int _=>true
 |_+1,.str _=>true
def bF:Nat->List Dat->Bool
 |_,[]=>true
 |k,d::ds=>y6 k d&&bF k ds
end
mutual
def dr:Dat->Dat->Bool
 |.tup a,.tup b=>cm a b
 |.lst a,.lst b=>cm a b
 |.non,.non=>true
 |.bl a,.bl b=>a==b
 |.int a,.int b=>decide (a=b)
 |.bl a,.int b=>decide (b2i a=b)
 |.int a,.bl b=>decide (a=b2i b)
 |.str a,.str b=>decide (a=b)
 |_,_=>false
def cm:List Dat->List Dat->Bool
 |[],[]=>true
 |x::xs,y::ys=>dr x y&&cm xs ys
 |_,_=>false
end
def xc:Dat->Option (List Dat)
 |.tup xs=>some xs
 |.lst xs=>some xs
 |.scr ns=>some (ns.map .int)
 |_=>none
def fB:Dat->Option (List Dat)
 |.lst xs=>some xs
 |.scr ns=>some (ns.map .int)
 |_=>none
def bp(xs:List Dat):Rd:=if xs.length<=av then .ok (.lst xs)else .no
def zJ(op:Bo)(x y:Dat):Rd:=match x,y with
 |.int i,.int j=>match op with
  |.add=>.ok (.int (i+j))
  |.sub=>.ok (.int (i-j))
  |.mul=>if xo i || xo j then .ok (.int (i*j))else .no
  |.fdiv=>if 0<j/\j<1073741824 then .ok (.int (i/j))else .no
  |.mod=>if 0<j then .ok (.int (i%j))else .no
  |.pow=>if 0<=j/\j<=1000000/\xo i=true then .ok (.int (i^j.toNat))else .no
  |.shr=>if 0<=j/\j<=1000 then .ok (.int (i/2^j.toNat))else .no
  |.band=>if 0<=i/\j=1 then .ok (.int (i%2))else .no
 |.lst xs,.lst ys=>match op with
  |.add=>bp (xs++ys)
  |_=>.no
 |.lst xs,.int k=>match op with
  |.mul=>if -av<=k/\k<=av then bp (Qx k.toNat xs).flatten else .no
  |_=>.no
 |.tup xs,.tup ys=>match op with
  |.add=>if xs.length+ys.length<=av/\xs.isEmpty=false then .ok (.tup (xs++ys))else .no
  |_=>.no
 |_,_=>.no
def h9(x y:Dat):Option Bool:=if y6 y0 x&&y6 y0 y then some (dr x y)else none
def lJ(x:Dat)(ys:List Dat):Option Bool:=if y6 y0 x&&bF y0 ys then some (ys.any λy=>dr y x)else none
def qm:Option Bool->Rd
 |some b=>.ok (.bl b)
 |none=>.no
def mi(r:Int->Int->Bool)(x y:Dat):Rd:=match x,y with
 |.int i,.int j=>.ok (.bl (r i j))
 |_,_=>.no
def xP:List Dat->Option (List Int)
 |[]=>some []
 |.int i::r=>(xP r).map (i::·)
 |_=>none
def oZ(x y:Dat):Option Bool:=match y with
 |.dct ks _=>match x with
  |.int _=>some false
  |.tup ds=>(xP ds).map λk=>decide (k∈ks)
  |_=>none
 |_=>none
def yz(op:Co)(x y:Dat):Rd:=match op with
 |.eq=>qm (h9 x y)
 |.ne=>qm ((h9 x y).map (!·))
 |.isN=>match y,x with
  |.non,.non=>.ok (.bl true)
  |.non,_=>.ok (.bl false)
  |_,_=>.no
 |.notN=>match y,x with
  |.non,.non=>.ok (.bl false)
  |.non,_=>.ok (.bl true)
  |_,_=>.no
 |.isin=>match xc y with
  |some ys=>qm (lJ x ys)
  |none=>qm (oZ x y)
 |.lt=>mi (λi j=>decide (i<j)) x y
 |.le=>mi (λi j=>decide (i<=j)) x y
def eO(t:Tg)(x:Dat):Bool:=match t with
 |.int=>match x with
  |.int _=>true
  |.bl _=>true
  |_=>false
 |.bool=>match x with
  |.bl _=>true
  |_=>false
 |.str=>match x with
  |.str _=>true
  |_=>false
 |.tuple=>match x with
  |.tup _=>true
  |_=>false
 |.list=>match x with
  |.scr _=>true
  |.lst _=>true
  |_=>false
 |.dict=>match x with
  |.dct _ _=>true
  |_=>false
def im:List Dat->Option (List (Dat×Dat))
 |[]=>some []
 |.tup [x,y]::r=>(im r).map ((x,y)::·)
 |_=>none
def y7(b:eD)(ws:List Dat):Rd:=match b with
 |.sortI=>match ws with
  |[x]=>match (fB x).bind xP with
   |some k=>if k.length<64 then bp ((fQ k).map Dat.int)else .no
   |none=>.no
  |_=>.no
 |.len=>match ws with
  |[x]=>match xc x with
   |some xs=>.ok (.int xs.length)
   |none=>.no
  |_=>.no
 |.int=>match ws with
  |[.int i]=>.ok (.int i)
  |[.bl b]=>.ok (.int (b2i b))
  |_=>.no
 |.list=>match ws with
  |[x]=>match xc x with
   |some xs=>bp xs
   |none=>.no
  |_=>.no
 |.max2=>match ws with
  |[.int i,.int j]=>.ok (.int (if j > i then j else i))
  |_=>.no
 |.min2=>match ws with
  |[.int i,.int j]=>.ok (.int (if j<i then j else i))
  |_=>.no
def zQ(x y:Dat):Rd:=match y with
 |.int i=>match xc x with
  |some xs=>match (ix xs.length i).bind λj=>xs[j]? with
   |some v=>.ok v
   |none=>.no
  |none=>.no
 |_=>.no
def wP:Dat->Option (List Int)
 |.tup ds=>xP ds
 |_=>none
def v9(x y:Dat):Rd:=match x with
 |.dct ks ds=>match (wP y).bind (dD ks ds)with
  |some v=>.ok v
  |none=>.no
 |_=>.no
def fW(x:Dat)(lo hi:Option Int):Rd:=match fB x with
 |some xs=>bp ((xs.drop (cj xs.length 0 lo)).take (cj xs.length xs.length hi-cj xs.length 0 lo))
 |none=>.no
def yu(lo st:Int)(n:Nat):List Dat:=(QH n).map λ(i:Nat)=>.int (lo+st*(i:Int))
def jR(a b c:Dat):Rd:=match a,b,c with
 |.int a,.int b,.int c=>if -av<=a/\a<=av/\-av<=b/\b<=av/\(c=1\/c=-1)then .ok (.tup (yu a c (qZ a b c)))else .no
 |_,_,_=>.no
def ym{α:Type}(c e:α->Rd):List α->List Dat->Rd
 |[],acc=>bp acc
 |x::xs,acc=>(c x).bind λb=>match b with
  |.bl true=>(e x).bind λy=>if acc.length<av then ym c e xs (acc++[y])else .no
  |.bl false=>ym c e xs acc
  |_=>.no
def cS(d:Dat):Option (List Dat):=match d with
 |.tup xs=>some xs
 |.scr ns=>some (ns.map .int)
 |.lst xs=>if xs.length<=av then some xs else none
 |_=>none
def xf(k:Kd)(x y:Dat):Option (List (Dat×Dat)):=match k,x,y with
 |.zip,.lst xs,.lst ys=>if xs.length<=av/\ys.length<=av then some (xs.zip ys)else none
 |.enum,.lst xs,.int s=>if xs.length<=av then some ((yu s 1 xs.length).zip xs)else none
 |.prs,.lst xs,.int _=>if xs.length<=av then im xs else none
 |.ptp,.tup xs,.int _=>if xs.length<=av then im xs else none
 |_,_,_=>none
def zV:Dat->List Dat
 |.tup xs=>xs
 |_=>[]
def rS:Wd->Option Dat
 |.non=>some .non
 |.bl b=>some (.bl b)
 |.int i=>some (.int i)
 |.str s=>some (.str s)
 |_=>none
def ak(cl:Nat->List Dat->Rd):Ex->aO->Rd
 |.var i,de=>match de[i]? with
  |some (some d)=>.ok d
  |_=>.no
 |.lit w,_=>match rS w with
  |some d=>.ok d
  |none=>.no
 |.bin op a b,de=>(ak cl a de).bind λx=>(ak cl b de).bind λy=>zJ op x y
 |.neg a,de=>(ak cl a de).bind λx=>match x with
  |.int i=>.ok (.int (-i))
  |_=>.no
 |.not a,de=>(ak cl a de).bind λx=>match x with
  |.bl b=>.ok (.bl (! b))
  |_=>.no
 |.and a b,de=>(ak cl a de).bind λx=>match x with
  |.bl true=>ak cl b de
  |.bl false=>.ok (.bl false)
  |_=>.no
 |.or a b,de=>(ak cl a de).bind λx=>match x with
  |.bl false=>ak cl b de
  |.bl true=>.ok (.bl true)
  |_=>.no
 |.cmp op a b,de=>(ak cl a de).bind λx=>(ak cl b de).bind λy=>yz op x y
 |.chain p q a b c,de=>(ak cl a de).bind λx=>(ak cl b de).bind λy=>(yz p x y).bind λz=>match z with
  |.bl true=>(ak cl c de).bind λu=>yz q y u
  |.bl false=>.ok (.bl false)
  |_=>.no
 |.ife c a b,de=>(ak cl c de).bind λx=>match x with
  |.bl true=>ak cl a de
  |.bl false=>ak cl b de
  |_=>.no
 |.unit,_=>.ok (.tup [])
 |.pair a b,de=>(ak cl a de).bind λx=>(ak cl b de).bind λy=>.ok (.tup (x::zV y))
 |.call k a,de=>(ak cl a de).bind λx=>cl k (zV x)
 |.blt b a,de=>(ak cl a de).bind λx=>y7 b (zV x)
 |.isi t a,de=>(ak cl a de).bind λx=>.ok (.bl (eO t x))
 |.lst a,de=>(ak cl a de).bind λx=>bp (zV x)
 |.tup a,de=>(ak cl a de).bind λx=>if(zV x).length<=av then .ok (.tup (zV x))else .no
 |.dict0,_=>.ok (.dct [] [])
 |.dget a b,de=>(ak cl a de).bind λx=>(ak cl b de).bind λy=>v9 x y
 |.idx a b,de=>(ak cl a de).bind λx=>(ak cl b de).bind λy=>zQ x y
 |.slB a lo hi,de=>(ak cl a de).bind λx=>(ak cl lo de).bind λy=>match y with
  |.int i=>(ak cl hi de).bind λz=>match z with
   |.int j=>fW x (some i) (some j)
   |_=>.no
  |_=>.no
 |.meth _ _ _,_=>.no
 |.rng a b c,de=>(ak cl a de).bind λx=>(ak cl b de).bind λy=>(ak cl c de).bind λz=>jR x y z
 |.comp elt it cond,de=>(ak cl it de).bind λx=>match cS x with
  |some xs=>ym (λx=>ak cl cond (de++[some x])) (λx=>ak cl elt (de++[some x])) xs []
  |none=>.no
 |.compP k elt a b cond,de=>(ak cl a de).bind λx=>(ak cl b de).bind λy=>match xf k x y with
  |some ps=>ym (λp=>ak cl cond (de++[some p.1]++[some p.2])) (λp=>ak cl elt (de++[some p.1]++[some p.2])) ps []
  |none=>.no
 |.lrng a,de=>(ak cl a de).bind λx=>match x with
  |.int j=>if -av<=j/\j<=av then bp (yu 0 1 j.toNat)else .no
  |_=>.no
def jS (h:env[i]?=some (some w))(m:Me):af cl (.var i) env m=.ok w m:=by
 show(match env[i]? with|some (some w)=>Rz.ok w m|_=>.no)=_;rw[h]
def xz (h:de[i]?=some (some d)):ak cl (.var i) de=.ok d:=by
 show(match de[i]? with|some (some d)=>Rd.ok d|_=>.no)=_;rw[h]
def xA (h:de[i]?=none\/de[i]?=some none):ak cl (.var i) de=.no:=by
 show(match de[i]? with|some (some d)=>Rd.ok d|_=>.no)=_;rcases h with h|h<;>rw[h]
def uy (h:ak cl (.var i) de=.ok d):de[i]?=some (some d):=by
 cases z:de[i]? with
 |none=>rw[xA (.inl z)]at h;cases h
 |some o=>
  cases o with
  |none=>rw[xA (.inr z)]at h;cases h
  |some e=>rw[xz z]at h;cases h;rfl
mutual
def ai(R:Nat->Prop)(m:Me):Dat->Wd->Prop
 |.non,w=>w=.non
 |.bl b,w=>w=.bl b
 |.int i,w=>w=.int i
 |.str s,w=>w=.str s
 |.scr ns,w=>w=.rol (ns.map Wd.int)
 |.tup ds,w=>∃xs,w=.tup xs/\ae R m ds xs
 |.lst ds,w=>∃l xs,w=.ref l/\R l/\m[l]?=some (.lst xs)/\ae R m ds xs
 |.dct ks ds,w=>∃l xs,w=.ref l/\R l/\m[l]?=some (.dct ks xs)/\ae R m ds xs
def ae(R:Nat->Prop)(m:Me):List Dat->List Wd->Prop
 |[],xs=>xs=[]
 |d::ds,xs=>∃x r,xs=x::r/\ai R m d x/\ae R m ds r
end
def Le(m m':Me):Prop:=∀(l:Nat) o,m[l]?=some o->m'[l]?=some o
def Le.refl(m:Me):Le m m:=λ_ _ h=>h
def Le.trans{a b c:Me}(h:Le a b)(k:Le b c):Le a c:=λl o z=>k l o (h l o z)
def Le.app(m x:Me):Le m (m++x):=λl o z=>by
 obtain⟨hl,_⟩:=Qa.mp z;rw[Qg hl];exact z
def Le.len (h:Le a b):a.length<=b.length:=by
 rcases Nat.lt_or_ge b.length a.length with z|z
 .have:=h b.length a[b.length] (Qf z);have:=(Qa.mp this).1;lia
 .exact z
def Rf(R:Nat->Prop)(n:Nat):Nat->Prop:=λl=>R l\/n<=l
mutual
theorem ai.frame{R R':Nat->Prop}{m m':Me}(h:∀(l:Nat) o,R l->m[l]?=some o->R' l/\m'[l]?=some o):∀(d:Dat) (w:Wd),ai R m d w->ai R' m' d w
 |.non,w,q=>by unfold ai at q ⊢;exact q
 |.bl b,w,q=>by unfold ai at q ⊢;exact q
 |.int b,w,q=>by unfold ai at q ⊢;exact q
 |.str b,w,q=>by unfold ai at q ⊢;exact q
 |.scr b,w,q=>by unfold ai at q ⊢;exact q
 |.tup ds,w,q=>by
  unfold ai at q ⊢;obtain⟨xs,rfl,q⟩:=q;exact⟨xs,rfl,ae.frame h ds xs q⟩
 |.lst ds,w,q=>by
  unfold ai at q ⊢;obtain⟨l,xs,rfl,r,z,q⟩:=q;exact⟨l,xs,rfl,(h l _ r z).1,(h l _ r z).2,ae.frame h ds xs q⟩
 |.dct ks ds,w,q=>by
  unfold ai at q ⊢;obtain⟨l,xs,rfl,r,z,q⟩:=q;exact⟨l,xs,rfl,(h l _ r z).1,(h l _ r z).2,ae.frame h ds xs q⟩
theorem ae.frame{R R':Nat->Prop}{m m':Me}(h:∀(l:Nat) o,R l->m[l]?=some o->R' l/\m'[l]?=some o):∀(ds:List Dat) (xs:List Wd),ae R m ds xs->ae R' m' ds xs
 |[],xs,q=>by unfold ae at q ⊢;exact q
 |d::ds,xs,q=>by
  unfold ae at q ⊢;obtain⟨x,r,rfl,a,b⟩:=q;exact⟨x,r,rfl,ai.frame h d x a,ae.frame h ds r b⟩
end
def ai.up{R:Nat->Prop}{m m':Me}{d:Dat}{w:Wd}(n:Nat)(h:Le m m')(q:ai R m d w):ai (Rf R n) m' d w:=
 ai.frame (λl o r z=>⟨.inl r,h l o z⟩) d w q
def ae.up{R:Nat->Prop}{m m':Me}{d:List Dat}{w:List Wd}(n:Nat)(h:Le m m')(q:ae R m d w):ae (Rf R n) m' d w:=
 ae.frame (λl o r z=>⟨.inl r,h l o z⟩) d w q
theorem bt:∀{ds:List Dat}{xs:List Wd},ae R m ds xs↔ds.length=xs.length/\∀(i:Nat) d x,ds[i]?=some d->xs[i]?=some x->ai R m d x
 |[],xs=>by
  unfold ae;constructor
  .rintro rfl;exact⟨rfl,by simp⟩
  .rintro ⟨h,_⟩;exact Vk h.symm
 |d::ds,xs=>by
  unfold ae;constructor
  .rintro ⟨x,r,rfl,a,b⟩;obtain⟨hl,hb⟩:=bt.mp b;refine⟨by simp[hl],λi e y h1 h2=>?_⟩;cases i with
   |zero=>simp at h1 h2;subst h1;subst h2;exact a
   |succ i=>simp at h1 h2;exact hb i e y h1 h2
  .rintro ⟨hl,h⟩;cases xs with
   |nil=>cases hl
   |cons x r=>
    refine⟨x,r,rfl,h 0 d x rfl rfl,bt.mpr ⟨by simpa using hl,λi e y h1 h2=>h (i+1) e y (by simpa using h1) (by simpa using h2)⟩⟩
def ae.len (h:ae R m ds xs):ds.length=xs.length:=(bt.mp h).1
def ae.get (h:ae R m ds xs){i:Nat}(z:ds[i]?=some d):∃x,xs[i]?=some x/\ai R m d x:=by
 obtain⟨hl,h⟩:=bt.mp h;obtain⟨hi,_⟩:=Qa.mp z;exact⟨xs[i],Qf (by lia),h i d _ z (Qf (by lia))⟩
def ae.nil{R:Nat->Prop}{m:Me}:ae R m [] []:=by unfold ae;rfl
def ae.cons{R:Nat->Prop}{m:Me}{d:Dat}{x:Wd}{ds:List Dat}{xs:List Wd}(a:ai R m d x)(b:ae R m ds xs):ae R m (d::ds) (x::xs):=by
 unfold ae;exact⟨x,xs,rfl,a,b⟩
def ae.cons_inv (h:ae R m (d::ds) xs):∃x r,xs=x::r/\ai R m d x/\ae R m ds r:=by
 unfold ae at h;exact h
def ae.nil_inv (h:ae R m [] xs):xs=[]:=by unfold ae at h;exact h
theorem ae.app:∀{ds es:List Dat}{xs ys:List Wd},ae R m ds xs->ae R m es ys->ae R m (ds++es) (xs++ys)
 |[],es,xs,ys,a,b=>by rw[a.nil_inv];exact b
 |d::ds,es,xs,ys,a,b=>by
  obtain⟨x,r,rfl,p,q⟩:=a.cons_inv;exact .cons p (ae.app q b)
theorem ae.drop{R:Nat->Prop}{m:Me}(n:Nat){ds:List Dat}{xs:List Wd}(h:ae R m ds xs):ae R m (ds.drop n) (xs.drop n):=by
 obtain⟨hl,h⟩:=bt.mp h;refine bt.mpr ⟨by simp[hl],λi d x a b=>h (n+i) d x (by simpa using a) (by simpa using b)⟩
set_option tactic.hygienic true in
theorem ae.take{R:Nat->Prop}{m:Me}(n:Nat){ds:List Dat}{xs:List Wd}(h:ae R m ds xs):ae R m (ds.take n) (xs.take n):=by
 obtain⟨hl,h⟩:=bt.mp h;refine bt.mpr ⟨by simp[hl],λi d x a b=>?_⟩;rw[List.getElem?_take]at a b;split at a
 .next z=>rw[M6 z]at b;exact h i d x a b
 .cases a
theorem ae.rev:∀{ds:List Dat}{xs:List Wd},ae R m ds xs->ae R m ds.reverse xs.reverse
 |[],xs,a=>by rw[a.nil_inv];exact .nil
 |d::ds,xs,a=>by
  obtain⟨x,r,rfl,p,q⟩:=a.cons_inv;rw[Q9,Q9];exact ae.app (ae.rev q) (.cons p .nil)
theorem ae.set{R:Nat->Prop}{m:Me}{ds:List Dat}{xs:List Wd}(h:ae R m ds xs)(j:Nat){d:Dat}{x:Wd}(z:ai R m d x):ae R m (ds.set j d) (xs.set j x):=by
 obtain⟨hl,h⟩:=bt.mp h;refine bt.mpr ⟨by simp[hl],λi e y a b=>?_⟩;rw[QE]at a b;by_cases q:j=i
 .rw[M6 q]at a b;split at a
  .split at b
   .cases a;cases b;exact z
   .cases b
  .cases a
 .rw[M7 q]at a b;exact h i e y a b
theorem ae.rep (h:ae R m ds xs):∀k:Nat,ae R m (Qx k ds).flatten (Qx k xs).flatten
 |0=>.nil
 |k+1=>by
  rw[QY,QY,Wa,Wa];exact ae.app h (ae.rep h k)
theorem fk:∀(l:List Int),ae R m (l.map Dat.int) (l.map Wd.int)
 |[]=>.nil
 |i::l=>.cons (by unfold ai;rfl) (fk l)
def aa:ai R m (.int i) w↔w=.int i:=by unfold ai;exact Iff.rfl
def ah:ai R m (.bl i) w↔w=.bl i:=by unfold ai;exact Iff.rfl
def ao:ai R m .non w↔w=.non:=by unfold ai;exact Iff.rfl
def aB:ai R m (.str s) w↔w=.str s:=by unfold ai;exact Iff.rfl
def ba:ai R m (.scr s) w↔w=.rol (s.map Wd.int):=by unfold ai;exact Iff.rfl
def aj:ai R m (.tup ds) w↔∃xs,w=.tup xs/\ae R m ds xs:=by
 constructor
 .intro h;unfold ai at h;exact h
 .intro h;unfold ai;exact h
def aD:ai R m (.lst ds) w↔∃l xs,w=.ref l/\R l/\m[l]?=some (.lst xs)/\ae R m ds xs:=by
 constructor
 .intro h;unfold ai at h;exact h
 .intro h;unfold ai;exact h
def bo:ai R m (.dct ks ds) w↔∃l xs,w=.ref l/\R l/\m[l]?=some (.dct ks xs)/\ae R m ds xs:=by
 constructor
 .intro h;unfold ai at h;exact h
 .intro h;unfold ai;exact h
def ag(R:Nat->Prop)(m:Me)(r:Rz)(rd:Rd):Prop:=match rd with
 |.ok d=>∃w m',r=.ok w m'/\Le m m'/\ai (Rf R m.length) m' d w
 |.exc c d=>∃w m',r=.exc c w m'/\Le m m'/\ai (Rf R m.length) m' d w
 |.no=>True
def ag.lift{R:Nat->Prop}{m m1:Me}{r:Rz}{rd:Rd}(h:Le m m1)(q:ag (Rf R m.length) m1 r rd):ag R m r rd:=by
 have hl:=h.len;have fr:∀(m':Me) (d:Dat) (w:Wd),ai (Rf (Rf R m.length) m1.length) m' d w->ai (Rf R m.length) m' d w:=λm' d w=>ai.frame (λl o z k=>⟨by rcases z with (z|z)|z;exact .inl z;exact .inr z;exact .inr (by lia),k⟩) d w;cases rd with
 |ok d=>obtain⟨w,m',rfl,k,z⟩:=q;exact⟨w,m',rfl,h.trans k,fr _ _ _ z⟩
 |exc c d=>obtain⟨w,m',rfl,k,z⟩:=q;exact⟨w,m',rfl,h.trans k,fr _ _ _ z⟩
 |no=>trivial
theorem ag.bind{R:Nat->Prop}{m:Me}{r:Rz}{rd:Rd}{f:Wd->Me->Rz}{g:Dat->Rd}(h:ag R m r rd)
  (k:∀d w m',Le m m'->ai (Rf R m.length) m' d w->ag (Rf R m.length) m' (f w m') (g d)):ag R m (r.bind f) (rd.bind g):=by
 cases rd with
 |ok d=>obtain⟨w,m',rfl,l,z⟩:=h;exact ag.lift l (k d w m' l z)
 |exc c d=>obtain⟨w,m',rfl,l,z⟩:=h;exact⟨w,m',rfl,l,z⟩
 |no=>trivial
def dQ (h:ai R m d w):ag R m (.ok w m) (.ok d):=
 ⟨w,m,rfl,Le.refl m,h.up _ (Le.refl m)⟩
theorem ag.no{R:Nat->Prop}{m:Me}{r:Rz}:ag R m r .no:=trivial
def ag.new{R:Nat->Prop}{m:Me}{ds:List Dat}{xs:List Wd}(h:ae R m ds xs):ag R m (alloc m xs) (bp ds):=by
 unfold bp alloc;rw[h.len];by_cases z:xs.length<=av
 .rw[M6 z,M6 z];exact⟨_,_,rfl,Le.app m _,aD.mpr ⟨_,xs,rfl,.inr (Qj _),by simp,h.up _ (Le.app m _)⟩⟩
 .rw[M7 z,M7 z];exact ag.no
def vf (h:ai R m d w)(z:xc d=some ds):∃xs,xL m w=some xs/\ae R m ds xs:=by
 cases d with
 |tup es=>obtain⟨xs,rfl,q⟩:=aj.mp h;cases z;exact⟨xs,rfl,q⟩
 |lst es=>
  obtain⟨l,xs,rfl,_,e,q⟩:=aD.mp h;cases z;exact⟨xs,by show zz m l=_;unfold zz;rw[e],q⟩
 |scr ns=>rw[ba.mp h];cases z;exact⟨_,rfl,fk ns⟩
 |_=>cases z
def ng (h:ai R m d w)(z:fB d=some ds):∃xs,fR m w=some xs/\ae R m ds xs:=by
 cases d with
 |lst es=>
  obtain⟨l,xs,rfl,_,e,q⟩:=aD.mp h;cases z;exact⟨xs,by show zz m l=_;unfold zz;rw[e],q⟩
 |scr ns=>rw[ba.mp h];cases z;exact⟨_,rfl,fk ns⟩
 |_=>cases z
theorem AH:∀{a b:List Int},a.map Wd.int=b.map Wd.int->a=b
 |[],[],_=>rfl
 |[],_::_,h=>by cases h
 |_::_,[],h=>by cases h
 |x::a,y::b,h=>by
  simp only[QR,List.cons.injEq,Wd.int.injEq]at h;rw[h.1,AH h.2]
mutual
theorem ai.det{R R':Nat->Prop}{m:Me}:∀(d e:Dat) (w:Wd),ai R m d w->ai R' m e w->d=e
 |.non,e,w,q,z=>by rw[ao.mp q]at z;cases e<;>unfold ai at z<;>first|rfl|(exfalso;simp at z)
 |.bl b,e,w,q,z=>by rw[ah.mp q]at z;cases e<;>unfold ai at z<;>first|(injection z with z;rw[z])|(exfalso;simp at z)
 |.int b,e,w,q,z=>by rw[aa.mp q]at z;cases e<;>unfold ai at z<;>first|(injection z with z;rw[z])|(exfalso;simp at z)
 |.str b,e,w,q,z=>by rw[aB.mp q]at z;cases e<;>unfold ai at z<;>first|(injection z with z;rw[z])|(exfalso;simp at z)
 |.scr b,e,w,q,z=>by rw[ba.mp q]at z;cases e<;>unfold ai at z<;>first|(injection z with z;rw[AH z])|(exfalso;simp at z)
 |.tup ds,e,w,q,z=>by
  obtain⟨xs,rfl,q1⟩:=aj.mp q;cases e with
  |tup es=>obtain⟨ys,e,z1⟩:=aj.mp z;cases e;rw[ae.det ds es xs q1 z1]
  |_=>exfalso;unfold ai at z;simp at z
 |.lst ds,e,w,q,z=>by
  obtain⟨l,xs,rfl,_,hm,q1⟩:=aD.mp q;cases e with
  |lst es=>obtain⟨l',ys,e,_,hn,z1⟩:=aD.mp z;cases e;rw[hm]at hn;cases hn;rw[ae.det ds es xs q1 z1]
  |dct ks es=>obtain⟨l',ys,e,_,hn,z1⟩:=bo.mp z;cases e;rw[hm]at hn;cases hn
  |_=>exfalso;unfold ai at z;simp at z
 |.dct ks ds,e,w,q,z=>by
  obtain⟨l,xs,rfl,_,hm,q1⟩:=bo.mp q;cases e with
  |dct ks' es=>obtain⟨l',ys,e,_,hn,z1⟩:=bo.mp z;cases e;rw[hm]at hn;cases hn;rw[ae.det ds es xs q1 z1]
  |lst es=>obtain⟨l',ys,e,_,hn,z1⟩:=aD.mp z;cases e;rw[hm]at hn;cases hn
  |_=>exfalso;unfold ai at z;simp at z
theorem ae.det{R R':Nat->Prop}{m:Me}:∀(ds es:List Dat) (xs:List Wd),ae R m ds xs->ae R' m es xs->ds=es
 |[],es,xs,q,z=>by
  rw[q.nil_inv]at z;cases es with
  |nil=>rfl
  |cons e es=>obtain⟨_,_,h,_⟩:=z.cons_inv;cases h
 |d::ds,es,xs,q,z=>by
  obtain⟨x,r,rfl,a,b⟩:=q.cons_inv;cases es with
  |nil=>cases z.nil_inv
  |cons e es=>
   obtain⟨_,_,h,a',b'⟩:=z.cons_inv;cases h;rw[ai.det d e x a a',ae.det ds es r b b']
end
def sJ(d:Dat):y6 0 d=false:=by cases d<;>rfl
mutual
theorem jT:∀(k:Nat) (d:Dat),y6 k d=true->dr d d=true
 |0,d,h=>by rw[sJ]at h;cases h
 |k+1,.non,h=>rfl
 |k+1,.bl b,h=>by show(b==b)=true;simp
 |k+1,.int b,h=>by show decide (b=b)=true;simp
 |k+1,.str b,h=>by show decide (b=b)=true;simp
 |k+1,.scr b,h=>M8 (show false=true from h) (by decide)
 |k+1,.dct _ _,h=>M8 (show false=true from h) (by decide)
 |k+1,.tup ds,h=>bO k ds h
 |k+1,.lst ds,h=>bO k ds h
theorem bO:∀(k:Nat) (ds:List Dat),bF k ds=true->cm ds ds=true
 |k,[],h=>rfl
 |k,d::ds,h=>by
  replace h:(y6 k d&&bF k ds)=true:=h
  show(dr d d&&cm ds ds)=true;rw[Qq]at h ⊢;exact⟨jT k d h.1,bO k ds h.2⟩
end
theorem qo (ih:∀(d e:Dat) (x y:Wd),y6 k d=true->y6 k e=true->ai R m d x->ai R m e y->cz m k x y=some (dr d e)):
  ∀(ds es:List Dat) (xs ys:List Wd),bF k ds=true->bF k es=true->ae R m ds xs->ae R m es ys->∃q,c6 (cz m k) xs ys=some q/\(q&&decide (xs.length=ys.length))=cm ds es
 |[],es,xs,ys,h1,h2,a,b=>by
  rw[a.nil_inv];cases es with
  |nil=>rw[b.nil_inv];exact⟨true,rfl,rfl⟩
  |cons e es=>obtain⟨y,r,rfl,_,_⟩:=b.cons_inv;exact⟨true,rfl,rfl⟩
 |d::ds,es,xs,ys,h1,h2,a,b=>by
  obtain⟨x,r,rfl,p,q⟩:=a.cons_inv;cases es with
  |nil=>rw[b.nil_inv];exact⟨true,rfl,rfl⟩
  |cons e es=>
   obtain⟨y,s,rfl,p',q'⟩:=b.cons_inv
   replace h1:(y6 k d&&bF k ds)=true:=h1
   replace h2:(y6 k e&&bF k es)=true:=h2
   rw[Qq]at h1 h2;obtain⟨t,ht,hb⟩:=qo ih ds es r s h1.2 h2.2 q q';refine⟨dr d e&&t,?_,?_⟩
   .unfold c6;rw[ih d e x y h1.1 h2.1 p p',ht];rfl
   .show (dr d e&&t&&decide (r.length+1=s.length+1))=(dr d e&&cm ds es);simp only[<-hb,Nat.succ_inj,Bool.and_assoc]
def aX (h:m[l]?=some (.lst xs)):aS m l=true:=by unfold aS;rw[h]
def xu (h:m[l]?=some (.lst xs)):(if aS m l&&true then some false else none)=some false:=by rw[aX h];rfl
theorem nc:∀(k:Nat) (d e:Dat) (x y:Wd),y6 k d=true->y6 k e=true->ai R m d x->ai R m e y->cz m k x y=some (dr d e)
 |0,d,e,x,y,h,_,_,_=>by rw[sJ]at h;cases h
 |k+1,d,e,x,y,h1,h2,a,b=>by
  have ih:=nc (R:=R) (m:=m) k;cases d with
  |scr ns=>exact M8 (show false=true from h1) (by decide)
  |dct _ _=>exact M8 (show false=true from h1) (by decide)
  |tup ds=>
   obtain⟨xs,rfl,a1⟩:=aj.mp a;cases e with
   |scr ns=>exact M8 (show false=true from h2) (by decide)
   |dct _ _=>exact M8 (show false=true from h2) (by decide)
   |tup es=>
    obtain⟨ys,rfl,b1⟩:=aj.mp b;obtain⟨q,h,e⟩:=qo ih ds es xs ys h1 h2 a1 b1;show(c6 (cz m k) xs ys).map (· && decide (xs.length=ys.length))=some (cm ds es);rw[h,<-e];rfl
   |lst es=>
    obtain⟨l,ys,rfl,_,hm,b⟩:=aD.mp b;exact xu hm
   |non=>rw[ao.mp b];rfl
   |bl _=>rw[ah.mp b];rfl
   |int _=>rw[aa.mp b];rfl
   |str _=>rw[aB.mp b];rfl
  |lst ds=>
   have a0:=a;obtain⟨l,xs,rfl,_,hm,a⟩:=aD.mp a;cases e with
   |scr ns=>exact M8 (show false=true from h2) (by decide)
   |dct _ _=>exact M8 (show false=true from h2) (by decide)
   |lst es=>
    have b0:=b;obtain⟨l',ys,rfl,_,hn,b⟩:=aD.mp b;show(if l=l' then(if aS m l then some true else none)else match m[l]?,m[l']? with
     |some (.lst xs),some (.lst ys)=>if xs.length=ys.length then c6 (cz m k) xs ys else some false
     |_,_=>none)=_
    by_cases q:l=l'
    .subst q;rw[M6 rfl,M6 (aX hm)];rw[ai.det _ _ _ a0 b0]at *
     rw[jT (k+1) _ h2]
    .rw[M7 q,hm,hn];obtain⟨q,h,e⟩:=qo ih ds es xs ys h1 h2 a b;show(if xs.length=ys.length then c6 (cz m k) xs ys else some false)=some (cm ds es);by_cases z:xs.length=ys.length
     .simp only[z,if_true,h,<-e];simp
     .simp only[z,if_false,<-e];simp
   |tup es=>obtain⟨ys,rfl,b⟩:=aj.mp b;exact xu hm
   |non=>rw[ao.mp b];exact xu hm
   |bl _=>rw[ah.mp b];exact xu hm
   |int _=>rw[aa.mp b];exact xu hm
   |str _=>rw[aB.mp b];exact xu hm
  |non=>
   rw[ao.mp a];cases e with
   |scr ns=>exact M8 (show false=true from h2) (by decide)
   |dct _ _=>exact M8 (show false=true from h2) (by decide)
   |lst es=>obtain⟨l',ys,rfl,_,hn,b⟩:=aD.mp b;exact xu hn
   |tup es=>obtain⟨ys,rfl,b⟩:=aj.mp b;rfl
   |non=>rw[ao.mp b];rfl
   |bl _=>rw[ah.mp b];rfl
   |int _=>rw[aa.mp b];rfl
   |str _=>rw[aB.mp b];rfl
  |bl _=>
   rw[ah.mp a];cases e with
   |scr ns=>exact M8 (show false=true from h2) (by decide)
   |dct _ _=>exact M8 (show false=true from h2) (by decide)
   |lst es=>obtain⟨l',ys,rfl,_,hn,b⟩:=aD.mp b;exact xu hn
   |tup es=>obtain⟨ys,rfl,b⟩:=aj.mp b;rfl
   |non=>rw[ao.mp b];rfl
   |bl _=>rw[ah.mp b];rfl
   |int _=>rw[aa.mp b];rfl
   |str _=>rw[aB.mp b];rfl
  |int _=>
   rw[aa.mp a];cases e with
   |scr ns=>exact M8 (show false=true from h2) (by decide)
   |dct _ _=>exact M8 (show false=true from h2) (by decide)
   |lst es=>obtain⟨l',ys,rfl,_,hn,b⟩:=aD.mp b;exact xu hn
   |tup es=>obtain⟨ys,rfl,b⟩:=aj.mp b;rfl
   |non=>rw[ao.mp b];rfl
   |bl _=>rw[ah.mp b];rfl
   |int _=>rw[aa.mp b];rfl
   |str _=>rw[aB.mp b];rfl
  |str _=>
   rw[aB.mp a];cases e with
   |scr ns=>exact M8 (show false=true from h2) (by decide)
   |dct _ _=>exact M8 (show false=true from h2) (by decide)
   |lst es=>obtain⟨l',ys,rfl,_,hn,b⟩:=aD.mp b;exact xu hn
   |tup es=>obtain⟨ys,rfl,b⟩:=aj.mp b;rfl
   |non=>rw[ao.mp b];rfl
   |bl _=>rw[ah.mp b];rfl
   |int _=>rw[aa.mp b];rfl
   |str _=>rw[aB.mp b];rfl
set_option tactic.hygienic true in
def ux (h:h9 d e=some q)(a:ai R m d x)(b:ai R m e y):cz m y0 x y=some q:=by
 unfold h9 at h;split at h
 .next z=>simp only[Qq]at z;cases h;exact nc y0 d e x y z.1 z.2 a b
 .cases h
theorem uw (h:y6 y0 d=true)(a:ai R m d x):∀(es:List Dat) (ys:List Wd),bF y0 es=true->ae R m es ys->eP (cz m y0) x ys=some (es.any λe=>dr e d)
 |[],ys,_,b=>by rw[b.nil_inv];rfl
 |e::es,ys,z,b=>by
  obtain⟨y,r,rfl,p,q⟩:=b.cons_inv
  replace z:(y6 y0 e&&bF y0 es)=true:=z
  rw[Qq]at z;show(match cz m y0 y x with
   |some a=>(eP (cz m y0) x r).map (a || ·)
   |none=>none)=_
  rw[nc y0 e d y x z.1 h p a,uw h a es r z.2 q];rfl
set_option tactic.hygienic true in
def Ek (h:lJ d es=some q)(a:ai R m d x)(b:ae R m es ys):eP (cz m y0) x ys=some q:=by
 unfold lJ at h;split at h
 .next z=>simp only[Qq]at z;cases h;exact uw z.1 a es ys z.2 b
 .cases h
theorem ag.int{R:Nat->Prop}{m:Me}{i:Int}:ag R m (.ok (.int i) m) (.ok (.int i)):=dQ (aa.mpr rfl)
theorem ag.bl{R:Nat->Prop}{m:Me}{i:Bool}:ag R m (.ok (.bl i) m) (.ok (.bl i)):=dQ (ah.mpr rfl)
def qp (op:Bo)(a:ai R m d x)(b:ai R m e y):ag R m (dh op x y m) (zJ op d e):=by
 cases d with
 |int i=>
  rw[aa.mp a];cases e with
  |int j=>
   rw[aa.mp b];cases op<;>simp only[dh,zJ]
   .exact ag.int
   .exact ag.int
   .by_cases z:(xo i || xo j)=true
    .rw[M6 z,M6 z];exact ag.int
    .rw[M7 z,M7 z];exact ag.no
   .by_cases z:0<j/\j<1073741824
    .rw[M6 z,M6 z];exact ag.int
    .rw[M7 z,M7 z];exact ag.no
   .by_cases z:0<j
    .rw[M6 z,M6 z];exact ag.int
    .rw[M7 z,M7 z];exact ag.no
   .by_cases z:0<=j/\j<=1000000/\xo i=true
    .rw[M6 z,M6 z];exact ag.int
    .rw[M7 z,M7 z];exact ag.no
   .by_cases z:0<=j/\j<=1000
    .rw[M6 z,M6 z];exact ag.int
    .rw[M7 z,M7 z];exact ag.no
   .by_cases z:0<=i/\j=1
    .rw[M6 z,M6 z];exact ag.int
    .rw[M7 z,M7 z];exact ag.no
  |_=>exact ag.no
 |lst ds=>
  obtain⟨l,xs,rfl,_,hm,a1⟩:=aD.mp a;cases e with
  |lst es=>
   obtain⟨l',ys,rfl,_,hn,b1⟩:=aD.mp b;cases op<;>first|exact ag.no|skip
   simp only[dh,zJ,hm,hn];exact ag.new (a1.app b1)
  |int k=>
   rw[aa.mp b];cases op<;>first|exact ag.no|skip
   simp only[dh,zJ,hm];by_cases z:-(av:Int)<=k/\k<=(av:Int)
   .rw[M6 z,M6 z];exact ag.new (a1.rep _)
   .rw[M7 z,M7 z];exact ag.no
  |_=>exact ag.no
 |tup ds=>
  obtain⟨xs,rfl,a1⟩:=aj.mp a;cases e with
  |tup es=>
   obtain⟨ys,rfl,b1⟩:=aj.mp b;cases op<;>first|exact ag.no|skip
   simp only[dh,zJ];have h1:=a1.len;have h2:=b1.len;have h3:ds.isEmpty=xs.isEmpty:=by cases ds<;>cases xs<;>simp_all
   rw[h1,h2,h3];by_cases z:xs.length+ys.length<=av/\xs.isEmpty=false
   .rw[M6 z,M6 z];exact dQ (aj.mpr ⟨_,rfl,a1.app b1⟩)
   .rw[M7 z,M7 z];exact ag.no
  |_=>exact ag.no
 |_=>exact ag.no
def uv (r:Int->Int->Bool)(a:ai R m d x)(b:ai R m e y):ag R m (qY r x y m) (mi r d e):=by
 cases d with
 |int i=>
  rw[aa.mp a];cases e with
  |int j=>rw[aa.mp b];exact ag.bl
  |_=>exact ag.no
 |_=>exact ag.no
def qr (h:∀b,q=some b->p=some b):ag R m (dY p m) (qm q):=by
 cases q with
 |none=>exact ag.no
 |some b=>rw[h b rfl];exact ag.bl
def Gb (h:∀b,q=some b->p=some b):ag R m (dY (p.map (!·)) m) (qm (q.map (!·))):=by
 cases q with
 |none=>exact ag.no
 |some b=>rw[h b rfl];exact ag.bl
def Ej (a:ai R m d x)(b:ai R m e y):ag R m (cZ .isN x y m) (yz .isN d e):=by
 cases e with
 |non=>
  rw[ao.mp b];cases d with
  |non=>rw[ao.mp a];exact ag.bl
  |bl _=>rw[ah.mp a];exact ag.bl
  |int _=>rw[aa.mp a];exact ag.bl
  |str _=>rw[aB.mp a];exact ag.bl
  |scr _=>rw[ba.mp a];exact ag.bl
  |tup _=>obtain⟨xs,rfl,_⟩:=aj.mp a;exact ag.bl
  |lst _=>obtain⟨l,xs,rfl,_⟩:=aD.mp a;exact ag.bl
  |dct _ _=>obtain⟨l,xs,rfl,_⟩:=bo.mp a;exact ag.bl
 |_=>exact ag.no
def Ga (a:ai R m d x)(b:ai R m e y):ag R m (cZ .notN x y m) (yz .notN d e):=by
 cases e with
 |non=>
  rw[ao.mp b];cases d with
  |non=>rw[ao.mp a];exact ag.bl
  |bl _=>rw[ah.mp a];exact ag.bl
  |int _=>rw[aa.mp a];exact ag.bl
  |str _=>rw[aB.mp a];exact ag.bl
  |scr _=>rw[ba.mp a];exact ag.bl
  |tup _=>obtain⟨xs,rfl,_⟩:=aj.mp a;exact ag.bl
  |lst _=>obtain⟨l,xs,rfl,_⟩:=aD.mp a;exact ag.bl
  |dct _ _=>obtain⟨l,xs,rfl,_⟩:=bo.mp a;exact ag.bl
 |_=>exact ag.no
theorem kL:∀{ds:List Dat}{xs:List Wd}{k:List Int},ae R m ds xs->xP ds=some k->xX xs=some k
 |[],xs,k,a,h=>by rw[a.nil_inv];exact h
 |d::ds,xs,k,a,h=>by
  obtain⟨x,r,rfl,p,q⟩:=a.cons_inv;cases d with
  |int j=>
   rw[aa.mp p];simp only[xP,QK]at h;obtain⟨k,hk,rfl⟩:=h;simp only[xX,kL q hk,QJ]
  |_=>simp[xP]at h
def qt (op:Co)(a:ai R m d x)(b:ai R m e y):ag R m (cZ op x y m) (yz op d e):=by
 cases op with
 |eq=>exact qr λq h=>ux h a b
 |ne=>exact Gb λq h=>ux h a b
 |isN=>exact Ej a b
 |notN=>exact Ga a b
 |isin=>
  simp only[cZ,yz];cases z:xc e with
  |none=>
   cases e with
   |dct ks ds=>
    obtain⟨l,xs,rfl,_,hm,q⟩:=bo.mp b;have hs:xL m (.ref l)=none:=by show zz m l=none;unfold zz;rw[hm]
    rw[hs];refine qr λt h=>?_;unfold lI;simp only[hm];cases d with
    |int i=>rw[aa.mp a];exact h
    |tup us=>
     obtain⟨ws,rfl,q⟩:=aj.mp a;have h:(xP us).map (λk=>decide (k∈ks))=some t:=h;obtain⟨k,hk,rfl⟩:=QK.mp h;show(xX ws).map _=_;rw[kL q hk];rfl
    |_=>cases h
   |_=>exact ag.no
  |some es=>
   obtain⟨ys,h,q⟩:=vf b z;rw[h];exact qr λt h=>Ek h a q
 |lt=>exact uv _ a b
 |le=>exact uv _ a b
def Ei (t:Tg)(a:ai R m d x):ag R m (dY (dM t x m) m) (.ok (.bl (eO t d))):=by
 have h:dM t x m=some (eO t d):=by
  cases d with
  |non=>rw[ao.mp a];cases t<;>rfl
  |bl _=>rw[ah.mp a];cases t<;>rfl
  |int _=>rw[aa.mp a];cases t<;>rfl
  |str _=>rw[aB.mp a];cases t<;>rfl
  |scr _=>rw[ba.mp a];cases t<;>rfl
  |tup _=>obtain⟨xs,rfl,_⟩:=aj.mp a;cases t<;>rfl
  |lst _=>obtain⟨l,xs,rfl,_,hm,_⟩:=aD.mp a;cases t<;>(show(match m[l]? with|some (.lst _)=>_|some (.dct _ _)=>_|none=>_)=_;rw[hm];rfl)
  |dct _ _=>obtain⟨l,xs,rfl,_,hm,_⟩:=bo.mp a;cases t<;>(show(match m[l]? with|some (.lst _)=>_|some (.dct _ _)=>_|none=>_)=_;rw[hm];rfl)
 rw[h];exact ag.bl
def AG (a:ai R m d x)(h:wP d=some k):fM x=some k:=by
 cases d with
 |tup ds=>obtain⟨xs,rfl,q⟩:=aj.mp a;exact kL q h
 |_=>cases h
theorem uu:∀{ks:List (List Int)}{ds:List Dat}{xs:List Wd}{d:Dat},ae R m ds xs->dD ks ds q=some d->∃x,dD ks xs q=some x/\ai R m d x
 |[],ds,xs,d,a,h=>by cases ds<;>cases h
 |k::ks,[],xs,d,a,h=>by cases h
 |k::ks,e::ds,xs,d,a,h=>by
  obtain⟨x,r,rfl,p,z⟩:=a.cons_inv;have h':(if k=q then some e else dD ks ds q)=some d:=h;show ∃y,(if k=q then some x else dD ks r q)=some y/\_;by_cases c:k=q
  .rw[M6 c]at h' ⊢;cases h';exact⟨x,rfl,p⟩
  .rw[M7 c]at h' ⊢;exact uu z h'
def AF (a:ai R m d x)(b:ai R m e y):ag R m (gB x y m) (v9 d e):=by
 cases d with
 |dct ks ds=>
  obtain⟨l,xs,rfl,_,hm,q⟩:=bo.mp a;unfold v9 gB;simp only[hm];cases hk:wP e with
  |none=>exact ag.no
  |some k=>
   rw[AG b hk];simp only[W2];cases hv:dD ks ds k with
   |none=>exact ag.no
   |some v=>
    obtain⟨w,h1,h2⟩:=uu q hv;rw[h1];exact dQ h2
 |_=>exact ag.no
theorem AE:∀{ds:List Dat}{xs:List Wd}{k:List Int},ae R m ds xs->xP ds=some k->xX xs=some k
 |[],xs,k,q,h=>by rw[q.nil_inv];exact h
 |d::ds,xs,k,q,h=>by
  obtain⟨x,r,rfl,a,b⟩:=q.cons_inv;cases d with
  |int i=>
   have h':(xP ds).map (i::·)=some k:=h;obtain⟨k',e,rfl⟩:=QK.mp h';rw[aa.mp a];show(xX r).map (i::·)=_;rw[AE b e];rfl
  |_=>cases h
def Eg (b:eD)(a:ae R m ds xs):ag R m (ft b xs m) (y7 b ds):=by
 have one:∀{d:Dat}{xs:List Wd},ae R m [d] xs->∃x,xs=[x]/\ai R m d x:=by
  intro d xs h;obtain⟨x,r,rfl,p,q⟩:=h.cons_inv;rw[q.nil_inv];exact⟨x,rfl,p⟩
 cases b with
 |len=>
  cases ds with
  |nil=>exact ag.no
  |cons d ds=>
   cases ds with
   |cons _ _=>exact ag.no
   |nil=>
    obtain⟨x,rfl,p⟩:=one a;show ag R m _ (match xc d with|some i=>.ok (.int i.length)|none=>.no);cases z:xc d with
    |none=>exact ag.no
    |some i=>
     obtain⟨ys,h,q⟩:=vf p z;simp only[ft,h,q.len];exact ag.int
 |int=>
  cases ds with
  |nil=>exact ag.no
  |cons d ds=>
   cases d with
   |int i=>
    cases ds with
    |cons _ _=>exact ag.no
    |nil=>obtain⟨x,rfl,p⟩:=one a;rw[aa.mp p];exact ag.int
   |bl i=>
    cases ds with
    |cons _ _=>exact ag.no
    |nil=>obtain⟨x,rfl,p⟩:=one a;rw[ah.mp p];exact ag.int
   |_=>exact ag.no
 |list=>
  cases ds with
  |nil=>exact ag.no
  |cons d ds=>
   cases ds with
   |cons _ _=>exact ag.no
   |nil=>
    obtain⟨x,rfl,p⟩:=one a;show ag R m _ (match xc d with|some i=>bp i|none=>.no);cases z:xc d with
    |none=>exact ag.no
    |some i=>
     obtain⟨ys,h,q⟩:=vf p z;simp only[ft,h];exact ag.new q
 |max2=>
  cases ds with
  |nil=>exact ag.no
  |cons d ds=>
   cases d with
   |int i=>
    cases ds with
    |nil=>exact ag.no
    |cons e ds=>
     cases e with
     |int j=>
      cases ds with
      |cons _ _=>exact ag.no
      |nil=>
       obtain⟨x,r,rfl,p,q⟩:=a.cons_inv;obtain⟨y,rfl,q1⟩:=one q;rw[aa.mp p,aa.mp q1];exact ag.int
     |_=>exact ag.no
   |_=>exact ag.no
 |min2=>
  cases ds with
  |nil=>exact ag.no
  |cons d ds=>
   cases d with
   |int i=>
    cases ds with
    |nil=>exact ag.no
    |cons e ds=>
     cases e with
     |int j=>
      cases ds with
      |cons _ _=>exact ag.no
      |nil=>
       obtain⟨x,r,rfl,p,q⟩:=a.cons_inv;obtain⟨y,rfl,q1⟩:=one q;rw[aa.mp p,aa.mp q1];exact ag.int
     |_=>exact ag.no
   |_=>exact ag.no
 |sortI=>
  cases ds with
  |nil=>exact ag.no
  |cons d ds=>
   cases ds with
   |cons _ _=>exact ag.no
   |nil=>
    obtain⟨x,rfl,p⟩:=one a;show ag R m _ (match (fB d).bind xP with|some k=>if k.length<64 then bp ((fQ k).map Dat.int)else .no|none=>.no);cases z:(fB d).bind xP with
    |none=>exact ag.no
    |some k=>
     obtain⟨es,z1,z2⟩:=QN.mp z;obtain⟨ys,h,q⟩:=ng p z1;by_cases h64:k.length<64
     .simp only[ft,h,WR,AE q z2,M6 h64];exact ag.new (fk _)
     .simp only[M7 h64];exact ag.no
def Ef (a:ai R m d x)(b:ai R m e y):ag R m (jx x y m) (zQ d e):=by
 cases e with
 |int i=>
  rw[aa.mp b];simp only[zQ,jx];cases z:xc d with
  |none=>exact ag.no
  |some ds=>
   obtain⟨xs,h,q⟩:=vf a z;simp only[h];cases z:(ix ds.length i).bind λj=>ds[j]? with
   |none=>exact ag.no
   |some v=>
    obtain⟨j,h1,h2⟩:=QN.mp z;obtain⟨x,h3,p⟩:=q.get h2;rw[q.len]at h1;simp only[h1,WR,h3];exact dQ p
 |_=>exact ag.no
def C8 (lo hi:Option Int)(a:ai R m d x):ag R m (fV x lo hi m) (fW d lo hi):=by
 simp only[fW,fV];cases z:fB d with
 |none=>exact ag.no
 |some ds=>
  obtain⟨xs,h,q⟩:=ng a z;simp only[h,q.len];exact ag.new ((q.drop _).take _)
theorem kf (st:Int):∀(n:Nat) (lo:Int),ae R m (yu lo st n) (fo lo st n)
 |0,lo=>.nil
 |n+1,lo=>by
  have h:yu lo st (n+1)=.int lo::yu (lo+st) st n:=by
   unfold yu;rw[Wq,QR,Wj];congr 1
   .simp
   .apply WG;intro i _;show Dat.int _=Dat.int _;congr 1;rw[show((Nat.succ i:Nat):Int)=(i:Int)+1 from rfl,Int.mul_add,Int.mul_one];lia
  rw[h];exact .cons (aa.mpr rfl) (kf st n _)
def Ee (a:ai R m d x)(b:ai R m e y)(c:ai R m f z):ag R m (iz x y z m) (jR d e f):=by
 cases d with
 |int i=>
  cases e with
  |int j=>
   cases f with
   |int k=>
    rw[aa.mp a,aa.mp b,aa.mp c];simp only[iz,jR];split
    .exact dQ (aj.mpr ⟨_,rfl,kf k _ i⟩)
    .exact ag.no
   |_=>exact ag.no
  |_=>exact ag.no
 |_=>exact ag.no
theorem vg {R:Nat->Prop}(hc:∀(R':Nat->Prop) m d x,(∀l,R l->R' l)->Le m0 m->ai R' m d x->ag R' m (c x m) (cd d))(he:∀(R':Nat->Prop) m d x,(∀l,R l->R' l)->Le m0 m->ai R' m d x->ag R' m (e x m) (ed d)):
  ∀(ds:List Dat) (xs:List Wd) (acc:List Dat) (acx:List Wd) (R':Nat->Prop) (m:Me),(∀l,R l->R' l)->Le m0 m->ae R' m ds xs->ae R' m acc acx->ag R' m (xN c e xs acx m) (ym cd ed ds acc)
 |[],xs,acc,acx,R',m,hR,hm,a,b=>by
  rw[a.nil_inv];unfold xN ym;exact ag.new b
 |d::ds,xs,acc,acx,R',m,hR,hm,a,b=>by
  obtain⟨x,r,rfl,p,q⟩:=a.cons_inv;unfold xN ym;refine(hc R' m d x hR hm p).bind λt w m1 l1 k1=>?_;cases t with
  |bl t=>
   rw[ah.mp k1];cases t with
   |true=>
    refine(he _ m1 d x (λl z=>.inl (hR l z)) (hm.trans l1) (p.up _ l1)).bind λt w m2 l2 k2=>?_;simp only[b.len];by_cases z:acx.length<av
    .rw[M6 z,M6 z];exact vg hc he ds r _ _ _ m2 (λl z=>.inl (.inl (hR l z))) ((hm.trans l1).trans l2) ((q.up _ l1).up _ l2) (((b.up _ l1).up _ l2).app (.cons k2 .nil))
    .rw[M7 z,M7 z];exact ag.no
   |false=>exact vg hc he ds r _ _ _ m1 (λl z=>.inl (hR l z)) (hm.trans l1) (q.up _ l1) (b.up _ l1)
  |_=>exact ag.no
theorem kM {R:Nat->Prop}(hl:m0[l]?=some (.lst xs0))(hc:∀(R':Nat->Prop) m d x,(∀l,R l->R' l)->Le m0 m->ai R' m d x->ag R' m (c x m) (cd d))(he:∀(R':Nat->Prop) m d x,(∀l,R l->R' l)->Le m0 m->ai R' m d x->ag R' m (e x m) (ed d)):
  ∀(ds:List Dat) (i k:Nat) (acc:List Dat) (acx:List Wd) (R':Nat->Prop) (m:Me),(∀l,R l->R' l)->Le m0 m->ae R' m ds (xs0.drop i)->i+ds.length=xs0.length->ds.length<k->ae R' m acc acx->ag R' m (xO c e l k i acx m) (ym cd ed ds acc)
 |[],i,0,acc,acx,R',m,hR,hm,a,hi,hk,b=>by simp at hk
 |d::ds,i,0,acc,acx,R',m,hR,hm,a,hi,hk,b=>by simp at hk
 |[],i,k+1,acc,acx,R',m,hR,hm,a,hi,hk,b=>by
  unfold xO ym zz;rw[hm l _ hl];simp only;rw[Ql (by simp at hi;lia)];exact ag.new b
 |d::ds,i,k+1,acc,acx,R',m,hR,hm,a,hi,hk,b=>by
  obtain⟨x,r,e0,p,q⟩:=a.cons_inv;have hx:xs0[i]?=some x:=by
   have:(xs0.drop i)[0]?=some x:=by rw[e0];rfl
   simpa using this
  have hr:r=xs0.drop (i+1):=by
   have:(xs0.drop i).drop 1=r:=by rw[e0];rfl
   rw[<-this,WN]
  rw[hr]at q;have hi':i+1+ds.length=xs0.length:=by simp at hi;lia
  have hk':ds.length<k:=by simp at hk;lia
  unfold xO ym zz;rw[hm l _ hl];simp only;rw[hx];simp only;refine(hc R' m d x hR hm p).bind λt w m1 l1 k1=>?_;cases t with
  |bl t=>
   rw[ah.mp k1];cases t with
   |true=>
    refine(he _ m1 d x (λl z=>.inl (hR l z)) (hm.trans l1) (p.up _ l1)).bind λt w m2 l2 k2=>?_;simp only[b.len];by_cases z:acx.length<av
    .rw[M6 z,M6 z];exact kM hl hc he ds (i+1) k _ _ _ m2 (λl z=>.inl (.inl (hR l z))) ((hm.trans l1).trans l2) ((q.up _ l1).up _ l2) hi' hk' (((b.up _ l1).up _ l2).app (.cons k2 .nil))
    .rw[M7 z,M7 z];exact ag.no
   |false=>exact kM hl hc he ds (i+1) k _ _ _ m1 (λl z=>.inl (hR l z)) (hm.trans l1) (q.up _ l1) hi' hk' (b.up _ l1)
  |_=>exact ag.no
def mI(R:Nat->Prop)(m0:Me)(ps:List (Dat×Dat))(g:Nat->Me->Option (Option (Wd×Wd))):Prop:=
 ∀m,Le m0 m->(∀i p,ps[i]?=some p->∃a b,g i m=some (some (a,b))/\ai R m p.1 a/\ai R m p.2 b)/\∀i,ps.length<=i->g i m=some none
theorem qu{α β:Type}:∀{xs:List α}{ys:List β}{i:Nat}{p:α×β},(xs.zip ys)[i]?=some p->xs[i]?=some p.1/\ys[i]?=some p.2
 |[],_,i,p,h=>by simp at h
 |_::_,[],i,p,h=>by simp at h
 |x::xs,y::ys,0,p,h=>by simp at h;subst h;exact⟨rfl,rfl⟩
 |x::xs,y::ys,i+1,p,h=>by
  have h':(xs.zip ys)[i]?=some p:=by simpa using h
  simpa using qu h'
set_option tactic.hygienic true in
theorem qw:∀{xs:List Dat}{ps:List (Dat×Dat)},im xs=some ps->ps.length=xs.length/\∀(i:Nat) p,ps[i]?=some p->xs[i]?=some (.tup [p.1,p.2])
 |[],ps,h=>by cases h;exact⟨rfl,λi p q=>by simp at q⟩
 |d::xs,ps,h=>by
  unfold im at h;split at h
  .next h0=>cases h0
  .next x y r h0=>
   cases h0;obtain⟨qs,e,rfl⟩:=QK.mp h;obtain⟨a,b⟩:=qw e;refine⟨by simp[a],λi p q=>?_⟩;cases i with
   |zero=>cases q;rfl
   |succ i=>exact b i p q
  .cases h
set_option tactic.hygienic true in
def gO (e:xf k x y=some ps)(hx:ai R m0 x a)(hy:ai R m0 y b):mI R m0 ps (zA k a b)/\ps.length<=av:=by
 unfold xf at e;split at e
 .obtain ⟨l,xs,rfl,_,e1,k1⟩:=aD.mp hx;obtain⟨l',ys,rfl,_,e2,k2⟩:=aD.mp hy;split at e
  .next z=>
   cases e;refine⟨λm h=>⟨λi p q=>?_,λi q=>?_⟩,by simp;lia⟩
   .obtain ⟨z1,z2⟩:=qu q;obtain⟨a,a1,a2⟩:=k1.get z1;obtain⟨b,b1,b2⟩:=k2.get z2;refine⟨a,b,?_,ai.frame (λl o r z=>⟨r,h l o z⟩) _ _ a2,ai.frame (λl o r z=>⟨r,h l o z⟩) _ _ b2⟩;simp only[zA,zz];rw[h _ _ e1,h _ _ e2];simp only[a1,b1]
   .simp only[zA,zz];rw[h _ _ e1,h _ _ e2];have l1:=k1.len;have l2:=k2.len;simp only[Vq]at q;simp only;rcases Nat.le_total xs.length ys.length with z3|z3
    .rw[Ql (by lia)]
    .rw[Ql (l:=ys) (by lia)];cases xs[i]?<;>rfl
  .cases e
 .rename_i xs0 st;obtain⟨l,xs,rfl,_,e1,k1⟩:=aD.mp hx;rw[aa.mp hy];split at e
  .next z=>
   cases e;have l1:=k1.len;refine⟨λm h=>⟨λi p q=>?_,λi q=>?_⟩,by simp[yu];lia⟩
   .obtain ⟨z1,z2⟩:=qu q;obtain⟨a,a1,a2⟩:=k1.get z2;have hp:p.1=.int (st+(i:Int)):=by
     simp only[yu,Qv]at z1;cases hr:(QH xs0.length)[i]? with
     |none=>rw[hr]at z1;cases z1
     |some j=>
      rw[hr]at z1;have:=Qa.mp hr;obtain⟨_,hj⟩:=this;simp only[List.getElem_range]at hj;subst hj;simp only[QJ,Option.some.injEq,Int.one_mul]at z1;exact z1.symm
    refine⟨.int (st+(i:Int)),a,?_,by rw[hp];exact aa.mpr rfl,ai.frame (λl o r z=>⟨r,h l o z⟩) _ _ a2⟩;simp only[zA,zz];rw[h _ _ e1];simp only[a1,QJ]
   .simp only[zA,zz];rw[h _ _ e1];simp only[yu,Vq,Qn,List.length_range]at q;simp only;rw[Ql (by lia)];rfl
  .cases e
 .rename_i xs0 st;obtain⟨l,xs,rfl,_,e1,k1⟩:=aD.mp hx;rw[aa.mp hy];split at e
  .next z=>
   have l1:=k1.len;obtain⟨g1,g2⟩:=qw e;refine⟨λm h=>⟨λi p q=>?_,λi q=>?_⟩,by lia⟩
   .obtain ⟨a,a1,a2⟩:=k1.get (g2 i p q);obtain⟨us,rfl,r2⟩:=aj.mp a2;obtain⟨x,r,rfl,ra,rb⟩:=r2.cons_inv;obtain⟨y,r',rfl,rc,rd⟩:=rb.cons_inv;obtain rfl:=rd.nil_inv;refine⟨x,y,?_,ai.frame (λl o r z=>⟨r,h l o z⟩) _ _ ra,ai.frame (λl o r z=>⟨r,h l o z⟩) _ _ rc⟩;simp only[zA,zz];rw[h _ _ e1];simp only[a1];rfl
   .simp only[zA,zz];rw[h _ _ e1];simp only;rw[Ql (by lia)]
  .cases e
 .rename_i xs0 st;obtain⟨xs,rfl,k1⟩:=aj.mp hx;rw[aa.mp hy];split at e
  .next z=>
   have l1:=k1.len;obtain⟨g1,g2⟩:=qw e;refine⟨λm h=>⟨λi p q=>?_,λi q=>?_⟩,by lia⟩
   .obtain ⟨a,a1,a2⟩:=k1.get (g2 i p q);obtain⟨us,rfl,r2⟩:=aj.mp a2;obtain⟨x,r,rfl,ra,rb⟩:=r2.cons_inv;obtain⟨y,r',rfl,rc,rd⟩:=rb.cons_inv;obtain rfl:=rd.nil_inv;refine⟨x,y,?_,ai.frame (λl o r z=>⟨r,h l o z⟩) _ _ ra,ai.frame (λl o r z=>⟨r,h l o z⟩) _ _ rc⟩;simp only[zA,a1];rfl
   .simp only[zA];rw[Ql (by lia)]
  .cases e
 .cases e
theorem kN (hg:mI R m0 ps g)(hc:∀(R':Nat->Prop) m p a b,(∀l,R l->R' l)->Le m0 m->ai R' m p.1 a->ai R' m p.2 b->ag R' m (c a b m) (cd p))(he:∀(R':Nat->Prop) m p a b,(∀l,R l->R' l)->Le m0 m->ai R' m p.1 a->ai R' m p.2 b->ag R' m (e a b m) (ed p)):
  ∀(ds:List (Dat×Dat)) (i k:Nat) (acc:List Dat) (acx:List Wd) (R':Nat->Prop) (m:Me),(∀l,R l->R' l)->Le m0 m->ds=ps.drop i->i+ds.length=ps.length->ds.length<k->ae R' m acc acx->ag R' m (yf c e g k i acx m) (ym cd ed ds acc)
 |[],i,0,acc,acx,R',m,hR,hm,a,hi,hk,b=>by simp at hk
 |d::ds,i,0,acc,acx,R',m,hR,hm,a,hi,hk,b=>by simp at hk
 |[],i,k+1,acc,acx,R',m,hR,hm,a,hi,hk,b=>by
  unfold yf ym;rw[(hg m hm).2 i (by simp at hi;lia)];exact ag.new b
 |d::ds,i,k+1,acc,acx,R',m,hR,hm,a,hi,hk,b=>by
  have hx:ps[i]?=some d:=by
   have:(ps.drop i)[0]?=some d:=by rw[<-a];rfl
   simpa using this
  have hr:ds=ps.drop (i+1):=by
   have:(ps.drop i).drop 1=ds:=by rw[<-a];rfl
   rw[<-this,WN]
  have hi':i+1+ds.length=ps.length:=by simp at hi;lia
  have hk':ds.length<k:=by simp at hk;lia
  obtain⟨u,v,e0,p,q⟩:=(hg m hm).1 i d hx;have up:∀{d:Dat}{w:Wd},ai R m d w->ai R' m d w:=λz=>ai.frame (λl o r z=>⟨hR l r,z⟩) _ _ z;unfold yf ym;rw[e0];simp only;refine(hc R' m d u v hR hm (up p) (up q)).bind λt w m1 l1 k1=>?_;cases t with
  |bl t=>
   rw[ah.mp k1];cases t with
   |true=>
    refine(he _ m1 d u v (λl z=>.inl (hR l z)) (hm.trans l1) ((up p).up _ l1) ((up q).up _ l1)).bind λt w m2 l2 k2=>?_;simp only[b.len];by_cases z:acx.length<av
    .rw[M6 z,M6 z];exact kN hg hc he ds (i+1) k _ _ _ m2 (λl z=>.inl (.inl (hR l z))) ((hm.trans l1).trans l2) hr hi' hk' (((b.up _ l1).up _ l2).app (.cons k2 .nil))
    .rw[M7 z,M7 z];exact ag.no
   |false=>exact kN hg hc he ds (i+1) k _ _ _ m1 (λl z=>.inl (hR l z)) (hm.trans l1) hr hi' hk' (b.up _ l1)
  |_=>exact ag.no
def zt:Ex->List Nat
 |.var i=>[i]
 |.lit _=>[]
 |.bin _ a b=>zt a++zt b
 |.neg a=>zt a
 |.not a=>zt a
 |.and a b=>zt a++zt b
 |.or a b=>zt a++zt b
 |.cmp _ a b=>zt a++zt b
 |.chain _ _ a b c=>zt a++(zt b++zt c)
 |.ife c a b=>zt c++(zt a++zt b)
 |.unit=>[]
 |.pair a b=>zt a++zt b
 |.call _ a=>zt a
 |.blt _ a=>zt a
 |.isi _ a=>zt a
 |.lst a=>zt a
 |.tup a=>zt a
 |.dict0=>[]
 |.dget a b=>zt a++zt b
 |.idx a b=>zt a++zt b
 |.slB a b c=>zt a++(zt b++zt c)
 |.meth _ a b=>zt a++zt b
 |.rng a b c=>zt a++(zt b++zt c)
 |.comp e i c=>zt i++(zt e++zt c)
 |.lrng a=>zt a
 |.compP _ e a b c=>zt a++(zt b++(zt e++zt c))
@[simp]theorem KD(i:Nat):zt (.var i)=[i]:=rfl
@[simp]theorem KC(w:Wd):zt (.lit w)=[]:=rfl
@[simp]theorem KB(a b:Ex):zt (.idx a b)=zt a++zt b:=rfl
@[simp]theorem KA(a:Ex):zt (.tup a)=zt a:=rfl
@[simp]theorem Ll(a b:Ex):zt (.pair a b)=zt a++zt b:=rfl
@[simp]theorem Lk  : zt (.unit)=[]:=rfl
@[simp]theorem Kz(op:Bo)(a b:Ex):zt (.bin op a b)=zt a++zt b:=rfl
@[simp]theorem Lj(k:Nat)(a:Ex):zt (.call k a)=zt a:=rfl
@[simp]theorem Ky(a:Ex):zt (.neg a)=zt a:=rfl
@[simp]theorem Kx(a:Ex):zt (.lst a)=zt a:=rfl
def bU(R:Nat->Prop)(m:Me)(vs:List Nat)(de:aO)(env:En):Prop:=
 de.length=env.length/\∀i∈vs,∀d,de[i]?=some (some d)->∃w,env[i]?=some (some w)/\ai R m d w
def bU.up{R R':Nat->Prop}{m m':Me}{vs:List Nat}{de:aO}{env:En}(hR:∀l,R l->R' l)(h:Le m m')(q:bU R m vs de env):bU R' m' vs de env:=
 ⟨q.1,λi hi d z=>by
  obtain⟨w,a,b⟩:=q.2 i hi d z;exact⟨w,a,ai.frame (λl o r k=>⟨hR l r,h l o k⟩) d w b⟩⟩
def bU.sub{R:Nat->Prop}{m:Me}{vs us:List Nat}{de:aO}{env:En}(h:∀i∈us,i∈vs)(q:bU R m vs de env):bU R m us de env:=
 ⟨q.1,λi hi=>q.2 i (h i hi)⟩
def bU.left{R:Nat->Prop}{m:Me}{us vs:List Nat}{de:aO}{env:En}(q:bU R m (us++vs) de env):bU R m us de env:=q.sub λ_ h=>QV _ h
def bU.right{R:Nat->Prop}{m:Me}{us vs:List Nat}{de:aO}{env:En}(q:bU R m (us++vs) de env):bU R m vs de env:=q.sub λ_ h=>Qs _ h
set_option tactic.hygienic true in
def bU.push{R:Nat->Prop}{m:Me}{vs:List Nat}{de:aO}{env:En}{d:Dat}{w:Wd}(q:bU R m vs de env)(h:ai R m d w):bU R m vs (de++[some d]) (env++[some w]):=by
 refine⟨by simp[q.1],λi hi e z=>?_⟩;rw[List.getElem?_append]at z;split at z
 .next k=>
  obtain⟨w,a,b⟩:=q.2 i hi e z;exact⟨w,by rw[Qg (by rw[<-q.1];exact k)];exact a,b⟩
 .next k=>
  rw[Qi (by rw[<-q.1];lia),<-q.1];have:i-de.length=0:=by
   rcases Nat.eq_zero_or_pos (i-de.length)with z0|z0
   .exact z0
   .rw[Ql (by simp;lia)]at z;cases z
  rw[this]at z ⊢;cases z;exact⟨w,rfl,h⟩
def bK(cl:Nat->List Wd->Me->Rz)(cd:Nat->List Dat->Rd):Prop:=∀(k:Nat) (ds:List Dat) (ws:List Wd) (R:Nat->Prop) (m:Me),ae R m ds ws->ag R m (cl k ws m) (cd k ds)
def yR (h:ai R m d w):ae R m (zV d) (zn w):=by
 cases d with
 |tup ds=>obtain⟨xs,rfl,q⟩:=aj.mp h;exact q
 |non=>rw[ao.mp h];exact .nil
 |bl _=>rw[ah.mp h];exact .nil
 |int _=>rw[aa.mp h];exact .nil
 |str _=>rw[aB.mp h];exact .nil
 |scr _=>rw[ba.mp h];exact .nil
 |lst _=>obtain⟨l,xs,rfl,_⟩:=aD.mp h;exact .nil
 |dct _ _=>obtain⟨l,xs,rfl,_⟩:=bo.mp h;exact .nil
theorem zh (H:bK cl cd):∀(e:Ex) (R:Nat->Prop) (m:Me) (de:aO) (env:En),bU R m (zt e) de env->ag R m (af cl e env m) (ak cd e de)
 |.var i,R,m,de,env,q=>by
  cases z:de[i]? with
  |none=>rw[xA (.inl z)];exact ag.no
  |some o=>
   cases o with
   |none=>rw[xA (.inr z)];exact ag.no
   |some d=>
    obtain⟨w,a,b⟩:=q.2 i (QO.mpr rfl) d z;rw[xz z,jS a];exact dQ b
 |.lit w,R,m,de,env,q=>by
  cases w<;>first|exact ag.no|(exact dQ (by unfold ai;rfl))
 |.bin op a b,R,m,de,env,q=>by
  refine(zh H a R m de env q.left).bind λd w m1 l1 k1=>?_;refine(zh H b _ m1 de env (q.right.up (λ_=>.inl) l1)).bind λd2 w2 m2 l2 k2=>?_;exact qp op (k1.up _ l2) k2
 |.neg a,R,m,de,env,q=>by
  refine(zh H a R m de env q).bind λd w m1 l1 k1=>?_;cases d with
  |int i=>rw[aa.mp k1];exact ag.int
  |_=>exact ag.no
 |.not a,R,m,de,env,q=>by
  refine(zh H a R m de env q).bind λd w m1 l1 k1=>?_;cases d with
  |bl i=>rw[ah.mp k1];exact ag.bl
  |_=>exact ag.no
 |.and a b,R,m,de,env,q=>by
  refine(zh H a R m de env q.left).bind λd w m1 l1 k1=>?_;cases d with
  |bl i=>
   rw[ah.mp k1];cases i with
   |true=>exact zh H b _ m1 de env (q.right.up (λ_=>.inl) l1)
   |false=>exact ag.bl
  |_=>exact ag.no
 |.or a b,R,m,de,env,q=>by
  refine(zh H a R m de env q.left).bind λd w m1 l1 k1=>?_;cases d with
  |bl i=>
   rw[ah.mp k1];cases i with
   |false=>exact zh H b _ m1 de env (q.right.up (λ_=>.inl) l1)
   |true=>exact ag.bl
  |_=>exact ag.no
 |.cmp op a b,R,m,de,env,q=>by
  refine(zh H a R m de env q.left).bind λd w m1 l1 k1=>?_;refine(zh H b _ m1 de env (q.right.up (λ_=>.inl) l1)).bind λd2 w2 m2 l2 k2=>?_;exact qt op (k1.up _ l2) k2
 |.chain o p a b c,R,m,de,env,q=>by
  refine(zh H a R m de env q.left).bind λd w m1 l1 k1=>?_;refine(zh H b _ m1 de env (q.right.left.up (λ_=>.inl) l1)).bind λd2 w2 m2 l2 k2=>?_;refine(qt o (k1.up _ l2) k2).bind λd3 w3 m3 l3 k3=>?_;cases d3 with
  |bl i=>
   rw[ah.mp k3];cases i with
   |false=>exact ag.bl
   |true=>
    refine(zh H c _ m3 de env (q.right.right.up (λ_ h=>.inl (.inl (.inl h))) ((l1.trans l2).trans l3))).bind λd4 w4 m4 l4 k4=>?_;exact qt p ((k2.up _ l3).up _ l4) k4
  |_=>exact ag.no
 |.ife c a b,R,m,de,env,q=>by
  refine(zh H c R m de env q.left).bind λd w m1 l1 k1=>?_;cases d with
  |bl i=>
   rw[ah.mp k1];cases i with
   |true=>exact zh H a _ m1 de env (q.right.left.up (λ_=>.inl) l1)
   |false=>exact zh H b _ m1 de env (q.right.right.up (λ_=>.inl) l1)
  |_=>exact ag.no
 |.unit,R,m,de,env,q=>by
  exact dQ (aj.mpr ⟨[],rfl,.nil⟩)
 |.pair a b,R,m,de,env,q=>by
  refine(zh H a R m de env q.left).bind λd w m1 l1 k1=>?_;refine(zh H b _ m1 de env (q.right.up (λ_=>.inl) l1)).bind λd2 w2 m2 l2 k2=>?_;exact dQ (aj.mpr ⟨_,rfl,.cons (k1.up _ l2) (yR k2)⟩)
 |.call k a,R,m,de,env,q=>by
  refine(zh H a R m de env q).bind λd w m1 l1 k1=>?_;exact H k _ _ _ m1 (yR k1)
 |.blt b a,R,m,de,env,q=>by
  refine(zh H a R m de env q).bind λd w m1 l1 k1=>?_;exact Eg b (yR k1)
 |.isi t a,R,m,de,env,q=>by
  refine(zh H a R m de env q).bind λd w m1 l1 k1=>?_;exact Ei t k1
 |.lst a,R,m,de,env,q=>by
  refine(zh H a R m de env q).bind λd w m1 l1 k1=>?_;exact ag.new (yR k1)
 |.tup a,R,m,de,env,q=>by
  refine(zh H a R m de env q).bind λd w m1 l1 k1=>?_;have k2:=yR k1;simp only[k2.len];split
  .exact dQ (aj.mpr ⟨_,rfl,k2⟩)
  .exact ag.no
 |.dict0,R,m,de,env,q=>by
  exact⟨_,_,rfl,Le.app m _,bo.mpr ⟨_,[],rfl,.inr (Qj _),by simp,.nil⟩⟩
 |.dget a b,R,m,de,env,q=>by
  refine(zh H a R m de env q.left).bind λd w m1 l1 k1=>?_;refine(zh H b _ m1 de env (q.right.up (λ_=>.inl) l1)).bind λd2 w2 m2 l2 k2=>?_;exact AF (k1.up _ l2) k2
 |.idx a b,R,m,de,env,q=>by
  refine(zh H a R m de env q.left).bind λd w m1 l1 k1=>?_;refine(zh H b _ m1 de env (q.right.up (λ_=>.inl) l1)).bind λd2 w2 m2 l2 k2=>?_;exact Ef (k1.up _ l2) k2
 |.slB a b c,R,m,de,env,q=>by
  refine(zh H a R m de env q.left).bind λd w m1 l1 k1=>?_;refine(zh H b _ m1 de env (q.right.left.up (λ_=>.inl) l1)).bind λd2 w2 m2 l2 k2=>?_;cases d2 with
  |int i=>
   rw[aa.mp k2];refine(zh H c _ m2 de env (q.right.right.up (λ_ h=>.inl (.inl h)) (l1.trans l2))).bind λd3 w3 m3 l3 k3=>?_;cases d3 with
   |int j=>rw[aa.mp k3];exact C8 _ _ ((k1.up _ l2).up _ l3)
   |_=>exact ag.no
  |_=>exact ag.no
 |.meth _ _ _,R,m,de,env,q=>by
  exact ag.no
 |.rng a b c,R,m,de,env,q=>by
  refine(zh H a R m de env q.left).bind λd w m1 l1 k1=>?_;refine(zh H b _ m1 de env (q.right.left.up (λ_=>.inl) l1)).bind λd2 w2 m2 l2 k2=>?_;refine(zh H c _ m2 de env (q.right.right.up (λ_ h=>.inl (.inl h)) (l1.trans l2))).bind λd3 w3 m3 l3 k3=>?_;exact Ee ((k1.up _ l2).up _ l3) (k2.up _ l3) k3
 |.lrng a,R,m,de,env,q=>by
  refine(zh H a R m de env q).bind λd w m1 l1 k1=>?_;cases d with
  |int j=>
   rw[aa.mp k1];simp only;split
   .exact ag.new (kf 1 _ 0)
   .exact ag.no
  |_=>exact ag.no
 |.comp elt it cond,R,m,de,env,q=>by
  refine(zh H it R m de env q.left).bind λd w m1 l1 k1=>?_;have hc:∀(R':Nat->Prop) m' d x,(∀l,Rf R m.length l->R' l)->Le m1 m'->ai R' m' d x->ag R' m' (af cl cond (env++[some x]) m') (ak cd cond (de++[some d])):=
   λR' m' d x hR l k=>zh H cond R' m' _ _ ((q.right.right.up (λl h=>hR l (.inl h)) (l1.trans l)).push k)
  have he:∀(R':Nat->Prop) m' d x,(∀l,Rf R m.length l->R' l)->Le m1 m'->ai R' m' d x->ag R' m' (af cl elt (env++[some x]) m') (ak cd elt (de++[some d])):=
   λR' m' d x hR l k=>zh H elt R' m' _ _ ((q.right.left.up (λl h=>hR l (.inl h)) (l1.trans l)).push k)
  cases d with
  |tup ds=>
   obtain⟨xs,rfl,k2⟩:=aj.mp k1;exact vg hc he ds xs [] [] _ m1 (λ_ h=>h) (Le.refl _) k2 .nil
  |scr ns=>
   rw[ba.mp k1];exact vg hc he (ns.map .int) (ns.map .int) [] [] _ m1 (λ_ h=>h) (Le.refl _) (fk ns) .nil
  |lst ds=>
   obtain⟨l,xs,rfl,_,hm,k2⟩:=aD.mp k1;simp only[cS];by_cases z:ds.length<=av
   .rw[M6 z];have hl:=k2.len;exact kM hm hc he ds 0 (av+1) [] [] _ m1 (λ_ h=>h) (Le.refl _) (by simpa using k2) (by lia) (by lia) .nil
   .rw[M7 z];exact ag.no
  |_=>exact ag.no
 |.compP k elt a b cond,R,m,de,env,q=>by
  refine(zh H a R m de env q.left).bind λd w m1 l1 k1=>?_;refine(zh H b _ m1 de env (q.right.left.up (λl h=>.inl h) l1)).bind λd' w' m2 l2 k2=>?_;have hc:∀(R':Nat->Prop) m' (p:Dat×Dat) x y,(∀l,Rf (Rf R m.length) m1.length l->R' l)->Le m2 m'->ai R' m' p.1 x->ai R' m' p.2 y->ag R' m' (af cl cond (env++[some x]++[some y]) m') (ak cd cond (de++[some p.1]++[some p.2])):=
   λR' m' d x y hR l k k'=>zh H cond R' m' _ _ (((q.right.right.right.up (λl h=>hR l (.inl (.inl h))) ((l1.trans l2).trans l)).push k).push k')
  have he:∀(R':Nat->Prop) m' (p:Dat×Dat) x y,(∀l,Rf (Rf R m.length) m1.length l->R' l)->Le m2 m'->ai R' m' p.1 x->ai R' m' p.2 y->ag R' m' (af cl elt (env++[some x]++[some y]) m') (ak cd elt (de++[some p.1]++[some p.2])):=
   λR' m' d x y hR l k k'=>zh H elt R' m' _ _ (((q.right.right.left.up (λl h=>hR l (.inl (.inl h))) ((l1.trans l2).trans l)).push k).push k')
  cases e:xf k d d' with
  |none=>exact ag.no
  |some ps=>
   obtain⟨pr,hl⟩:=gO e (k1.up _ l2) k2;exact kN pr hc he ps 0 (av+1) [] [] _ m2 (λ_ h=>h) (Le.refl _) (by simp) (by simp) (by lia) .nil
mutual
def bj(m:Me):Dat->Wd->List Nat->Prop
 |.non,w,A=>w=.non/\A=[]
 |.bl b,w,A=>w=.bl b/\A=[]
 |.int i,w,A=>w=.int i/\A=[]
 |.str s,w,A=>w=.str s/\A=[]
 |.scr ns,w,A=>w=.rol (ns.map Wd.int)/\A=[]
 |.tup ds,w,A=>∃xs,w=.tup xs/\aA m ds xs A
 |.lst ds,w,A=>∃l xs B,w=.ref l/\A=l::B/\m[l]?=some (.lst xs)/\aA m ds xs B
 |.dct ks ds,w,A=>∃l xs B,w=.ref l/\A=l::B/\m[l]?=some (.dct ks xs)/\aA m ds xs B
def aA(m:Me):List Dat->List Wd->List Nat->Prop
 |[],xs,A=>xs=[]/\A=[]
 |d::ds,xs,A=>∃x r B C,xs=x::r/\A=B++C/\bj m d x B/\aA m ds r C
end
def bD:bj m (.lst ds) w A↔∃l xs B,w=.ref l/\A=l::B/\m[l]?=some (.lst xs)/\aA m ds xs B:=by
 constructor
 .intro h;unfold bj at h;exact h
 .intro h;unfold bj;exact h
def bW:bj m (.dct ks ds) w A↔∃l xs B,w=.ref l/\A=l::B/\m[l]?=some (.dct ks xs)/\aA m ds xs B:=by
 constructor
 .intro h;unfold bj at h;exact h
 .intro h;unfold bj;exact h
def bG:bj m (.tup ds) w A↔∃xs,w=.tup xs/\aA m ds xs A:=by
 constructor
 .intro h;unfold bj at h;exact h
 .intro h;unfold bj;exact h
def aA.cons_inv (h:aA m (d::ds) xs A):∃x r B C,xs=x::r/\A=B++C/\bj m d x B/\aA m ds r C:=by unfold aA at h;exact h
def aA.nil_inv (h:aA m [] xs A):xs=[]/\A=[]:=by unfold aA at h;exact h
def aA.nil{m:Me}:aA m [] [] []:=by unfold aA;exact⟨rfl,rfl⟩
def aA.cons{m:Me}{d:Dat}{ds:List Dat}{x:Wd}{xs:List Wd}{B C:List Nat}(a:bj m d x B)(b:aA m ds xs C):aA m (d::ds) (x::xs) (B++C):=by
 unfold aA;exact⟨x,xs,B,C,rfl,rfl,a,b⟩
theorem aA.app:∀{ds es:List Dat}{xs ys:List Wd}{A B:List Nat},aA m ds xs A->aA m es ys B->aA m (ds++es) (xs++ys) (A++B)
 |[],es,xs,ys,A,B,a,b=>by rw[a.nil_inv.1,a.nil_inv.2];exact b
 |d::ds,es,xs,ys,A,B,a,b=>by
  obtain⟨x,r,P,Q,rfl,rfl,p,q⟩:=a.cons_inv;rw[Wl];exact .cons p (aA.app q b)
mutual
theorem bj.frame{m m':Me}:∀(d:Dat) (w:Wd) (A:List Nat),(∀l∈A,∀o,m[l]?=some o->m'[l]?=some o)->bj m d w A->bj m' d w A
 |.non,w,A,h,q=>by unfold bj at q ⊢;exact q
 |.bl _,w,A,h,q=>by unfold bj at q ⊢;exact q
 |.int _,w,A,h,q=>by unfold bj at q ⊢;exact q
 |.str _,w,A,h,q=>by unfold bj at q ⊢;exact q
 |.scr _,w,A,h,q=>by unfold bj at q ⊢;exact q
 |.tup ds,w,A,h,q=>by
  obtain⟨xs,rfl,q1⟩:=bG.mp q;exact bG.mpr ⟨xs,rfl,aA.frame ds xs A h q1⟩
 |.lst ds,w,A,h,q=>by
  obtain⟨l,xs,B,rfl,rfl,hm,q1⟩:=bD.mp q;exact bD.mpr ⟨l,xs,B,rfl,rfl,h l QD _ hm,aA.frame ds xs B (λl hl=>h l (Qh _ hl)) q1⟩
 |.dct ks ds,w,A,h,q=>by
  obtain⟨l,xs,B,rfl,rfl,hm,q1⟩:=bW.mp q;exact bW.mpr ⟨l,xs,B,rfl,rfl,h l QD _ hm,aA.frame ds xs B (λl hl=>h l (Qh _ hl)) q1⟩
theorem aA.frame{m m':Me}:∀(ds:List Dat) (xs:List Wd) (A:List Nat),(∀l∈A,∀o,m[l]?=some o->m'[l]?=some o)->aA m ds xs A->aA m' ds xs A
 |[],xs,A,h,q=>by rw[q.nil_inv.1,q.nil_inv.2];exact .nil
 |d::ds,xs,A,h,q=>by
  obtain⟨x,r,B,C,rfl,rfl,a,b⟩:=q.cons_inv;exact .cons (bj.frame d x B (λl hl=>h l (QV _ hl)) a) (aA.frame ds r C (λl hl=>h l (Qs _ hl)) b)
end
mutual
theorem bj.rep{m:Me}{R:Nat->Prop}:∀(d:Dat) (w:Wd) (A:List Nat),(∀l∈A,R l)->bj m d w A->ai R m d w
 |.non,w,A,h,q=>by unfold bj at q;exact ao.mpr q.1
 |.bl _,w,A,h,q=>by unfold bj at q;exact ah.mpr q.1
 |.int _,w,A,h,q=>by unfold bj at q;exact aa.mpr q.1
 |.str _,w,A,h,q=>by unfold bj at q;exact aB.mpr q.1
 |.scr _,w,A,h,q=>by unfold bj at q;exact ba.mpr q.1
 |.tup ds,w,A,h,q=>by
  obtain⟨xs,rfl,q1⟩:=bG.mp q;exact aj.mpr ⟨xs,rfl,aA.rep ds xs A h q1⟩
 |.lst ds,w,A,h,q=>by
  obtain⟨l,xs,B,rfl,rfl,hm,q1⟩:=bD.mp q;exact aD.mpr ⟨l,xs,rfl,h l QD,hm,aA.rep ds xs B (λl hl=>h l (Qh _ hl)) q1⟩
 |.dct ks ds,w,A,h,q=>by
  obtain⟨l,xs,B,rfl,rfl,hm,q1⟩:=bW.mp q;exact bo.mpr ⟨l,xs,rfl,h l QD,hm,aA.rep ds xs B (λl hl=>h l (Qh _ hl)) q1⟩
theorem aA.rep{m:Me}{R:Nat->Prop}:∀(ds:List Dat) (xs:List Wd) (A:List Nat),(∀l∈A,R l)->aA m ds xs A->ae R m ds xs
 |[],xs,A,h,q=>by rw[q.nil_inv.1];exact .nil
 |d::ds,xs,A,h,q=>by
  obtain⟨x,r,B,C,rfl,rfl,a,b⟩:=q.cons_inv;exact .cons (bj.rep d x B (λl hl=>h l (QV _ hl)) a) (aA.rep ds r C (λl hl=>h l (Qs _ hl)) b)
end
mutual
theorem bj.lt{m:Me}:∀(d:Dat) (w:Wd) (A:List Nat),bj m d w A->∀l∈A,l<m.length
 |.non,w,A,q=>by unfold bj at q;rw[q.2];simp
 |.bl _,w,A,q=>by unfold bj at q;rw[q.2];simp
 |.int _,w,A,q=>by unfold bj at q;rw[q.2];simp
 |.str _,w,A,q=>by unfold bj at q;rw[q.2];simp
 |.scr _,w,A,q=>by unfold bj at q;rw[q.2];simp
 |.tup ds,w,A,q=>by
  obtain⟨xs,rfl,q1⟩:=bG.mp q;exact aA.lt ds xs A q1
 |.lst ds,w,A,q=>by
  obtain⟨l,xs,B,rfl,rfl,hm,q1⟩:=bD.mp q;intro k hk;rcases Qp.mp hk with rfl|hk
  .exact (Qa.mp hm).1
  .exact aA.lt ds xs B q1 k hk
 |.dct ks ds,w,A,q=>by
  obtain⟨l,xs,B,rfl,rfl,hm,q1⟩:=bW.mp q;intro k hk;rcases Qp.mp hk with rfl|hk
  .exact (Qa.mp hm).1
  .exact aA.lt ds xs B q1 k hk
theorem aA.lt{m:Me}:∀(ds:List Dat) (xs:List Wd) (A:List Nat),aA m ds xs A->∀l∈A,l<m.length
 |[],xs,A,q=>by rw[q.nil_inv.2];simp
 |d::ds,xs,A,q=>by
  obtain⟨x,r,B,C,rfl,rfl,a,b⟩:=q.cons_inv;intro k hk;rcases QL.mp hk with hk|hk
  .exact bj.lt d x B a k hk
  .exact aA.lt ds r C b k hk
end
mutual
theorem ai.flat{R:Nat->Prop}{m m':Me}:∀(d:Dat) (w:Wd),aw d=true->ai R m d w->bj m' d w []
 |.non,w,h,q=>by unfold bj;exact⟨ao.mp q,rfl⟩
 |.bl _,w,h,q=>by unfold bj;exact⟨ah.mp q,rfl⟩
 |.int _,w,h,q=>by unfold bj;exact⟨aa.mp q,rfl⟩
 |.str _,w,h,q=>by unfold bj;exact⟨aB.mp q,rfl⟩
 |.scr _,w,h,q=>by unfold bj;exact⟨ba.mp q,rfl⟩
 |.tup ds,w,h,q=>by
  obtain⟨xs,rfl,q1⟩:=aj.mp q;exact bG.mpr ⟨xs,rfl,ae.flat ds xs (by unfold Vl.aw at h;exact h) q1⟩
 |.lst ds,w,h,q=>by unfold Vl.aw at h;cases h
 |.dct ks ds,w,h,q=>by unfold Vl.aw at h;cases h
theorem ae.flat{R:Nat->Prop}{m m':Me}:∀(ds:List Dat) (xs:List Wd),aY ds=true->ae R m ds xs->aA m' ds xs []
 |[],xs,h,q=>by rw[q.nil_inv];exact .nil
 |d::ds,xs,h,q=>by
  obtain⟨x,r,rfl,a,b⟩:=q.cons_inv;unfold aY at h;rw[Qq]at h;exact aA.cons (B:=[]) (C:=[]) (ai.flat d x h.1 a) (ae.flat ds r h.2 b)
end
def bx(R:Nat->Prop)(m:Me)(lv:Lv)(d:Dat)(w:Wd)(A:List Nat):Prop:=match lv with
 |.no=>ai R m d w/\A=[]
 |.top=>∃ds l xs,d=.lst ds/\w=.ref l/\A=[l]/\m[l]?=some (.lst xs)/\ae R m ds xs
 |.full=>bj m d w A
theorem bx.rep (h:∀l,R l->R' l)(k:∀l∈A,R' l)(q:bx R m lv d w A):ai R' m d w:=by
 cases lv with
 |no=>exact ai.frame (λl o r z=>⟨h l r,z⟩) d w q.1
 |top=>
  obtain⟨ds,l,xs,rfl,rfl,rfl,hm,a⟩:=q;exact aD.mpr ⟨l,xs,rfl,k l (by simp),hm,ae.frame (λl o r z=>⟨h l r,z⟩) ds xs a⟩
 |full=>exact bj.rep d w A k q
theorem bx.frame{R R':Nat->Prop}{m m':Me}{lv:Lv}{d:Dat}{w:Wd}{A:List Nat}(h:∀(l:Nat) o,R l->m[l]?=some o->R' l/\m'[l]?=some o)(k:∀l∈A,∀o,m[l]?=some o->m'[l]?=some o)(q:bx R m lv d w A):bx R' m' lv d w A:=by
 cases lv with
 |no=>exact⟨ai.frame h d w q.1,q.2⟩
 |top=>
  obtain⟨ds,l,xs,rfl,rfl,rfl,hm,a⟩:=q;exact⟨ds,l,xs,rfl,rfl,rfl,k l (by simp) _ hm,ae.frame h ds xs a⟩
 |full=>exact bj.frame d w A k q
theorem bx.lt (q:bx R m lv d w A):∀l∈A,l<m.length:=by
 cases lv with
 |no=>rw[q.2];simp
 |top=>
  obtain⟨ds,l,xs,rfl,rfl,rfl,hm,a⟩:=q;intro k hk;rw[QO.mp hk];exact(Qa.mp hm).1
 |full=>exact bj.lt d w A q
def aV(lev:Nat->Lv):Ex->Dat->Lv
 |.comp elt _ _,d=>if aw d then .full else match d with
  |.lst ds=>if ds.all (λx=>aV lev elt x == .full)then .full else .top
  |_=>.no
 |.compP _ elt _ _ _,d=>if aw d then .full else match d with
  |.lst ds=>if ds.all (λx=>aV lev elt x == .full)then .full else .top
  |_=>.no
 |.lst a,d=>if aw d then .full else match d with
  |.lst ds=>if aV lev a (.tup ds) == .full then .full else .top
  |_=>.no
 |.tup a,d=>aV lev a d
 |.pair a b,d=>if aw d then .full else match d with
  |.tup (x::ds)=>if aV lev a x == .full&&aV lev b (.tup ds) == .full then .full else .no
  |_=>.no
 |.call k _,d=>if aw d then .full else lev k
 |.blt .list _,d=>if aw d then .full else match d with
  |.lst ds=>if aY ds then .full else .top
  |_=>.no
 |.lrng _,d=>if aw d then .full else match d with
  |.lst ds=>if aY ds then .full else .top
  |_=>.no
 |.slB _ _ _,d=>if aw d then .full else match d with
  |.lst ds=>if aY ds then .full else .top
  |_=>.no
 |.bin _ _ _,d=>if aw d then .full else match d with
  |.lst ds=>if aY ds then .full else .top
  |_=>.no
 |.dict0,d=>if aw d then .full else match d with
  |.dct _ []=>.full
  |_=>.no
 |_,d=>if aw d then .full else .no
@[simp]theorem Kw(lev:Nat->Lv)(d:Dat):aV lev .dict0 d=if aw d then .full else match d with
  |.dct _ []=>.full
  |_=>.no:=rfl
@[simp]theorem KW(lev:Nat->Lv)(a b:Ex)(d:Dat):aV lev (.dget a b) d=if aw d then .full else .no:=rfl
@[simp]theorem vh(lev:Nat->Lv)(e i c:Ex)(d:Dat):aV lev (.comp e i c) d=if aw d then .full else match d with
  |.lst ds=>if ds.all (λx=>aV lev e x == .full)then .full else .top
  |_=>.no:=rfl
@[simp]theorem xB(lev:Nat->Lv)(k:Kd)(e a b c:Ex)(d:Dat):aV lev (.compP k e a b c) d=if aw d then .full else match d with
  |.lst ds=>if ds.all (λx=>aV lev e x == .full)then .full else .top
  |_=>.no:=rfl
@[simp]theorem Ld(lev:Nat->Lv)(a:Ex)(d:Dat):aV lev (.lst a) d=if aw d then .full else match d with
  |.lst ds=>if aV lev a (.tup ds) == .full then .full else .top
  |_=>.no:=rfl
@[simp]theorem Lc(lev:Nat->Lv)(a:Ex)(d:Dat):aV lev (.tup a) d=aV lev a d:=rfl
@[simp]theorem ut(lev:Nat->Lv)(a b:Ex)(d:Dat):aV lev (.pair a b) d=if aw d then .full else match d with
  |.tup (x::ds)=>if aV lev a x == .full&&aV lev b (.tup ds) == .full then .full else .no
  |_=>.no:=rfl
@[simp]theorem qx(lev:Nat->Lv)(k:Nat)(a:Ex)(d:Dat):aV lev (.call k a) d=if aw d then .full else lev k:=rfl
@[simp]theorem KU(lev:Nat->Lv)(a:Ex)(d:Dat):aV lev (.blt .list a) d=if aw d then .full else match d with
  |.lst ds=>if aY ds then .full else .top
  |_=>.no:=rfl
@[simp]theorem KS(lev:Nat->Lv)(a:Ex)(d:Dat):aV lev (.lrng a) d=if aw d then .full else match d with
  |.lst ds=>if aY ds then .full else .top
  |_=>.no:=rfl
@[simp]theorem Lb(lev:Nat->Lv)(a b c:Ex)(d:Dat):aV lev (.slB a b c) d=if aw d then .full else match d with
  |.lst ds=>if aY ds then .full else .top
  |_=>.no:=rfl
@[simp]theorem La(lev:Nat->Lv)(op:Bo)(a b:Ex)(d:Dat):aV lev (.bin op a b) d=if aw d then .full else match d with
  |.lst ds=>if aY ds then .full else .top
  |_=>.no:=rfl
@[simp]theorem K9(lev:Nat->Lv)(i:Nat)(d:Dat):aV lev (.var i) d=if aw d then .full else .no:=rfl
@[simp]theorem K8(lev:Nat->Lv)(w:Wd)(d:Dat):aV lev (.lit w) d=if aw d then .full else .no:=rfl
@[simp]theorem K7(lev:Nat->Lv)(a b:Ex)(d:Dat):aV lev (.idx a b) d=if aw d then .full else .no:=rfl
@[simp]theorem K6(lev:Nat->Lv)(a:Ex)(d:Dat):aV lev (.neg a) d=if aw d then .full else .no:=rfl
@[simp]theorem Kj(lev:Nat->Lv)(a:Ex)(d:Dat):aV lev (.not a) d=if aw d then .full else .no:=rfl
@[simp]theorem Ki(lev:Nat->Lv)(a b:Ex)(d:Dat):aV lev (.and a b) d=if aw d then .full else .no:=rfl
@[simp]theorem AW(lev:Nat->Lv)(a b:Ex)(d:Dat):aV lev (.or a b) d=if aw d then .full else .no:=rfl
@[simp]theorem Kh(lev:Nat->Lv)(op:Co)(a b:Ex)(d:Dat):aV lev (.cmp op a b) d=if aw d then .full else .no:=rfl
@[simp]theorem Kg(lev:Nat->Lv)(c a b:Ex)(d:Dat):aV lev (.ife c a b) d=if aw d then .full else .no:=rfl
@[simp]theorem KR(lev:Nat->Lv)(d:Dat):aV lev (.unit) d=if aw d then .full else .no:=rfl
@[simp]theorem Kf(lev:Nat->Lv)(t:Tg)(a:Ex)(d:Dat):aV lev (.isi t a) d=if aw d then .full else .no:=rfl
@[simp]theorem Ke(lev:Nat->Lv)(a b c:Ex)(d:Dat):aV lev (.rng a b c) d=if aw d then .full else .no:=rfl
@[simp]theorem KQ(lev:Nat->Lv)(a:Ex)(d:Dat):aV lev (.blt .len a) d=if aw d then .full else .no:=rfl
@[simp]theorem KP(lev:Nat->Lv)(a:Ex)(d:Dat):aV lev (.blt .int a) d=if aw d then .full else .no:=rfl
@[simp]theorem Kv(lev:Nat->Lv)(a:Ex)(d:Dat):aV lev (.blt .min2 a) d=if aw d then .full else .no:=rfl
@[simp]theorem Ku(lev:Nat->Lv)(a:Ex)(d:Dat):aV lev (.blt .max2 a) d=if aw d then .full else .no:=rfl
def aN(R:Nat->Prop)(m:Me)(lv:Dat->Lv)(r:Rz)(rd:Rd):Prop:=match rd with
 |.ok d=>∃w m' A,r=.ok w m'/\Le m m'/\bx (λl=>Rf R m.length l/\l∉A) m' (lv d) d w A/\A.Nodup/\∀a∈A,m.length<=a
 |.exc c d=>∃w m',r=.exc c w m'/\Le m m'/\ai (Rf R m.length) m' d w
 |.no=>True
def wX(lev:Nat->Lv)(k:Nat)(d:Dat):Lv:=if aw d then .full else lev k
def bJ(lev:Nat->Lv)(cl:Nat->List Wd->Me->Rz)(cd:Nat->List Dat->Rd):Prop:=∀(k:Nat) (ds:List Dat) (ws:List Wd) (R:Nat->Prop) (m:Me),ae R m ds ws->aN R m (wX lev k) (cl k ws m) (cd k ds)
def aN.sim (h:aN R m lv r rd):ag R m r rd:=by
 cases rd with
 |ok d=>
  obtain⟨w,m',A,rfl,l,q,_,hA⟩:=h;exact⟨w,m',rfl,l,q.rep (λ_ z=>z.1) (λa z=>.inr (hA a z))⟩
 |exc c d=>exact h
 |no=>trivial
def bJ.r (H:bJ lev cl cd):bK cl cd:=λk ds ws R m q=>(H k ds ws R m q).sim
set_option tactic.hygienic true in
def ag.own (h:ag R m r rd)(hl:∀d,lv d=if aw d then .full else .no):aN R m lv r rd:=by
 cases rd with
 |ok d=>
  obtain⟨w,m',rfl,l,q⟩:=h;refine⟨w,m',[],rfl,l,?_,QB,by simp⟩;rw[hl];split
  .next z=>exact q.flat d w z
  .exact ⟨ai.frame (λl o r z=>⟨⟨r,by simp⟩,z⟩) d w q,rfl⟩
 |exc c d=>exact h
 |no=>trivial
theorem aN.lift{R:Nat->Prop}{m m1:Me}{r:Rz}{rd:Rd}{lv:Dat->Lv}(h:Le m m1)(q:aN (Rf R m.length) m1 lv r rd):aN R m lv r rd:=by
 have hl:=h.len;cases rd with
 |ok d=>
  obtain⟨w,m',A,rfl,k,z,nd,hA⟩:=q;exact⟨w,m',A,rfl,h.trans k,z.frame (λl o r z=>⟨⟨by rcases r.1 with (r|r)|r;exact .inl r;exact .inr r;exact .inr (by lia),r.2⟩,z⟩) (λ_ _ _ z=>z),nd,λa ha=>by have:=hA a ha;lia⟩
 |exc c d=>exact ag.lift (rd:=.exc c d) h q
 |no=>trivial
def ag.bindO (h:ag R m r rd)(k:∀d w m',Le m m'->ai (Rf R m.length) m' d w->aN (Rf R m.length) m' lv (f w m') (g d)):aN R m lv (r.bind f) (rd.bind g):=by
 cases rd with
 |ok d=>obtain⟨w,m',rfl,l,z⟩:=h;exact aN.lift l (k d w m' l z)
 |exc c d=>obtain⟨w,m',rfl,l,z⟩:=h;exact⟨w,m',rfl,l,z⟩
 |no=>trivial
theorem aN.no{R:Nat->Prop}{m:Me}{r:Rz}{lv:Dat->Lv}:aN R m lv r .no:=trivial
set_option tactic.hygienic true in
def aN.new{R:Nat->Prop}{m:Me}{ds:List Dat}{xs:List Wd}{lv:Dat->Lv}(h:ae R m ds xs)(hl:∀es,lv (.lst es)=if aY es then .full else .top):aN R m lv (alloc m xs) (bp ds):=by
 unfold bp alloc;rw[h.len];by_cases z:xs.length<=av
 .rw[M6 z,M6 z];refine⟨_,_,[m.length],rfl,Le.app m _,?_,by simp,by simp⟩;rw[hl];split
  .next f=>exact bD.mpr ⟨_,xs,[],rfl,rfl,by simp,h.flat ds xs f⟩
  .refine ⟨ds,_,xs,rfl,rfl,rfl,by simp,ae.frame (λl o r z=>⟨⟨.inl r,?_⟩,Le.app m _ l o z⟩) ds xs h⟩;have:=(Qa.mp z).1;simp;lia
 .rw[M7 z,M7 z];exact aN.no
def rQ (hm:Le m0 m)(h:aA m ds xs A)(nd:A.Nodup)(hA:∀a∈A,m0.length<=a)(hl:lv (.lst ds)=.full)(hlen:ds.length=xs.length):aN R m0 lv (alloc m xs) (bp ds):=by
 unfold bp alloc;rw[hlen];have hlt:=h.lt;by_cases z:xs.length<=av
 .rw[M6 z,M6 z];refine⟨_,_,m.length::A,rfl,hm.trans (Le.app m _),?_,QF.mpr ⟨λq=>by have:=hlt _ q;lia,nd⟩,?_⟩
  .rw[hl];exact bD.mpr ⟨_,xs,A,rfl,rfl,by simp,aA.frame ds xs A (λl hl o q=>Le.app m _ l o q) h⟩
  .intro a ha;rcases Qp.mp ha with rfl|ha
   .exact hm.len
   .exact hA a ha
 .rw[M7 z,M7 z];exact aN.no
theorem aA.len:∀{ds:List Dat}{xs:List Wd}{A:List Nat},aA m ds xs A->ds.length=xs.length
 |[],xs,A,q=>by rw[q.nil_inv.1];rfl
 |d::ds,xs,A,q=>by
  obtain⟨x,r,B,C,rfl,rfl,a,b⟩:=q.cons_inv;simp[aA.len b]
def dB(R:Nat->Prop)(m:Me)(lv:Dat->Lv)(r:Rz)(rd:Rd):Prop:=match rd with
 |.ok d=>∃out m2 outx,d=.lst out/\out.length<=av/\r=alloc m2 outx/\Le m m2/\ae (Rf R m.length) m2 out outx/\((∀y∈out,lv y=.full)->∃A,aA m2 out outx A/\A.Nodup/\∀a∈A,m.length<=a)
 |.exc c d=>∃w m',r=.exc c w m'/\Le m m'/\ai (Rf R m.length) m' d w
 |.no=>True
def cW(m0 m:Me)(lv:Dat->Lv)(acc:List Dat)(acx:List Wd):Prop:=(∀y∈acc,lv y=.full)->∃A,aA m acc acx A/\A.Nodup/\∀a∈A,m0.length<=a
def cW.up{m0 m m':Me}{lv:Dat->Lv}{acc:List Dat}{acx:List Wd}(h:Le m m')(q:cW m0 m lv acc acx):cW m0 m' lv acc acx:=λz=>by
 obtain⟨A,a,b,c⟩:=q z;exact⟨A,aA.frame acc acx A (λl _ o k=>h l o k) a,b,c⟩
def cW.push{m0 m m':Me}{lv:Dat->Lv}{acc:List Dat}{acx:List Wd}{d:Dat}{w:Wd}{B:List Nat}(hm:Le m0 m)(h:Le m m')(q:cW m0 m lv acc acx)(z:lv d=.full->bj m' d w B)(nd:B.Nodup)(hB:∀b∈B,m.length<=b):cW m0 m' lv (acc++[d]) (acx++[w]):=λf=>by
 obtain⟨A,a,b,c⟩:=q λy hy=>f y (QV _ hy);refine⟨A++(B++[]),(aA.frame acc acx A (λl _ o k=>h l o k) a).app (.cons (z (f d (by simp))) .nil),?_,?_⟩
 .rw[Q0];refine QA.mpr ⟨b,nd,λx hx y hy e=>?_⟩;have:=aA.lt acc acx A a x hx;have:=hB y hy;lia
 .intro x hx;rw[Q0]at hx;rcases QL.mp hx with hx|hx
  .exact c x hx
  .have:=hB x hx;have:=hm.len;lia
theorem vj (hc:∀(R':Nat->Prop) m d x,(∀l,R l->R' l)->Le m0 m->ai R' m d x->ag R' m (c x m) (cd d))(he:∀(R':Nat->Prop) m d x,(∀l,R l->R' l)->Le m0 m->ai R' m d x->aN R' m lv (e x m) (ed d)):
  ∀(ds:List Dat) (xs:List Wd) (acc:List Dat) (acx:List Wd) (m:Me),Le m0 m->ae (Rf R m0.length) m ds xs->ae (Rf R m0.length) m acc acx->cW m0 m lv acc acx->dB R m0 lv (xN c e xs acx m) (ym cd ed ds acc)
 |[],xs,acc,acx,m,hm,a,b,f=>by
  rw[a.nil_inv];unfold xN ym bp;by_cases z:acc.length<=av
  .rw[M6 z];exact⟨acc,m,acx,rfl,z,rfl,hm,b,f⟩
  .rw[M7 z];trivial
 |d::ds,xs,acc,acx,m,hm,a,b,f=>by
  obtain⟨x,r,rfl,p,q⟩:=a.cons_inv;have hl:=hm.len;have sh:∀{n:Nat}{m':Me}{d:Dat}{w:Wd},m0.length<=n->ai (Rf (Rf R m0.length) n) m' d w->ai (Rf R m0.length) m' d w:=λhn k=>ai.frame (λl o r z=>⟨by rcases r with (r|r)|r;exact .inl r;exact .inr r;exact .inr (by lia),z⟩) _ _ k;unfold xN ym;have h1:=hc _ m d x (λl z=>.inl z) hm p;cases e1:cd d with
  |no=>trivial
  |exc k t=>rw[e1]at h1;obtain⟨w,m',h1,l1,k1⟩:=h1;rw[h1];exact⟨w,m',rfl,hm.trans l1,sh hl k1⟩
  |ok t=>
   rw[e1]at h1;obtain⟨w,m1,h1,l1,k1⟩:=h1;rw[h1];simp only[Rz.bind,Rd.bind];cases t with
   |bl t=>
    rw[ah.mp k1];have fr:∀{ds:List Dat}{xs:List Wd},ae (Rf R m0.length) m ds xs->ae (Rf R m0.length) m1 ds xs:=λk=>ae.frame (λl o r z=>⟨r,l1 l o z⟩) _ _ k;cases t with
    |false=>exact vj hc he ds r acc acx m1 (hm.trans l1) (fr q) (fr b) (f.up l1)
    |true=>
     have h2:=he _ m1 d x (λl z=>.inl z) (hm.trans l1) (ai.frame (λl o r z=>⟨r,l1 l o z⟩) _ _ p);have hl1:=(hm.trans l1).len;simp only;cases e2:ed d with
     |no=>trivial
     |exc k t=>rw[e2]at h2;obtain⟨w,m',h2,l2,k2⟩:=h2;rw[h2];exact⟨w,m',rfl,(hm.trans l1).trans l2,sh hl1 k2⟩
     |ok y=>
      rw[e2]at h2;have h3:=h2.sim;obtain⟨w,m2,B,h2,l2,k2,nd,hB⟩:=h2;obtain⟨w',m2',h3,_,k3⟩:=h3;rw[h2]at h3 ⊢;cases h3;simp only[Rz.bind,Rd.bind,b.len];split
      .refine vj hc he ds r _ _ m2 ((hm.trans l1).trans l2) (ae.frame (λl o r z=>⟨r,l2 l o z⟩) _ _ (fr q)) ((ae.frame (λl o r z=>⟨r,l2 l o z⟩) _ _ (fr b)).app (.cons (sh hl1 k3) .nil)) ((f.up l1).push (hm.trans l1) l2 ?_ nd hB);intro z;rw[z]at k2;exact k2
      .trivial
   |_=>trivial
theorem kO (hx0:m0[l]?=some (.lst xs0))(hc:∀(R':Nat->Prop) m d x,(∀l,R l->R' l)->Le m0 m->ai R' m d x->ag R' m (c x m) (cd d))(he:∀(R':Nat->Prop) m d x,(∀l,R l->R' l)->Le m0 m->ai R' m d x->aN R' m lv (e x m) (ed d)):
  ∀(ds:List Dat) (i k:Nat) (acc:List Dat) (acx:List Wd) (m:Me),Le m0 m->ae (Rf R m0.length) m ds (xs0.drop i)->i+ds.length=xs0.length->ds.length<k->ae (Rf R m0.length) m acc acx->cW m0 m lv acc acx->dB R m0 lv (xO c e l k i acx m) (ym cd ed ds acc)
 |[],i,0,acc,acx,m,hm,a,hi,hk,b,f=>by simp at hk
 |d::ds,i,0,acc,acx,m,hm,a,hi,hk,b,f=>by simp at hk
 |[],i,k+1,acc,acx,m,hm,a,hi,hk,b,f=>by
  unfold xO ym zz bp;rw[hm l _ hx0];simp only;rw[Ql (by simp at hi;lia)];by_cases z:acc.length<=av
  .rw[M6 z];exact⟨acc,m,acx,rfl,z,rfl,hm,b,f⟩
  .rw[M7 z];trivial
 |d::ds,i,k+1,acc,acx,m,hm,a,hi,hk,b,f=>by
  obtain⟨x,r,e0,p,q⟩:=a.cons_inv;have hx:xs0[i]?=some x:=by
   have:(xs0.drop i)[0]?=some x:=by rw[e0];rfl
   simpa using this
  have hr:r=xs0.drop (i+1):=by
   have:(xs0.drop i).drop 1=r:=by rw[e0];rfl
   rw[<-this,WN]
  rw[hr]at q;have hi':i+1+ds.length=xs0.length:=by simp at hi;lia
  have hk':ds.length<k:=by simp at hk;lia
  have hl:=hm.len;have sh:∀{n:Nat}{m':Me}{d:Dat}{w:Wd},m0.length<=n->ai (Rf (Rf R m0.length) n) m' d w->ai (Rf R m0.length) m' d w:=λhn k=>ai.frame (λl o r z=>⟨by rcases r with (r|r)|r;exact .inl r;exact .inr r;exact .inr (by lia),z⟩) _ _ k;unfold xO ym zz;rw[hm l _ hx0];simp only;rw[hx];simp only;have h1:=hc _ m d x (λl z=>.inl z) hm p;cases e1:cd d with
  |no=>trivial
  |exc k t=>rw[e1]at h1;obtain⟨w,m',h1,l1,k1⟩:=h1;rw[h1];exact⟨w,m',rfl,hm.trans l1,sh hl k1⟩
  |ok t=>
   rw[e1]at h1;obtain⟨w,m1,h1,l1,k1⟩:=h1;rw[h1];simp only[Rz.bind,Rd.bind];cases t with
   |bl t=>
    rw[ah.mp k1];have fr:∀{ds:List Dat}{xs:List Wd},ae (Rf R m0.length) m ds xs->ae (Rf R m0.length) m1 ds xs:=λk=>ae.frame (λl o r z=>⟨r,l1 l o z⟩) _ _ k;cases t with
    |false=>exact kO hx0 hc he ds (i+1) k acc acx m1 (hm.trans l1) (fr q) hi' hk' (fr b) (f.up l1)
    |true=>
     have h2:=he _ m1 d x (λl z=>.inl z) (hm.trans l1) (ai.frame (λl o r z=>⟨r,l1 l o z⟩) _ _ p);have hl1:=(hm.trans l1).len;simp only;cases e2:ed d with
     |no=>trivial
     |exc k t=>rw[e2]at h2;obtain⟨w,m',h2,l2,k2⟩:=h2;rw[h2];exact⟨w,m',rfl,(hm.trans l1).trans l2,sh hl1 k2⟩
     |ok y=>
      rw[e2]at h2;have h3:=h2.sim;obtain⟨w,m2,B,h2,l2,k2,nd,hB⟩:=h2;obtain⟨w',m2',h3,_,k3⟩:=h3;rw[h2]at h3 ⊢;cases h3;simp only[Rz.bind,Rd.bind,b.len];split
      .refine kO hx0 hc he ds (i+1) k _ _ m2 ((hm.trans l1).trans l2) (ae.frame (λl o r z=>⟨r,l2 l o z⟩) _ _ (fr q)) hi' hk' ((ae.frame (λl o r z=>⟨r,l2 l o z⟩) _ _ (fr b)).app (.cons (sh hl1 k3) .nil)) ((f.up l1).push (hm.trans l1) l2 ?_ nd hB);intro z;rw[z]at k2;exact k2
      .trivial
   |_=>trivial
theorem kP (hg:mI (Rf R m0.length) m0 ps g)(hc:∀(R':Nat->Prop) m p a b,(∀l,R l->R' l)->Le m0 m->ai R' m p.1 a->ai R' m p.2 b->ag R' m (c a b m) (cd p))(he:∀(R':Nat->Prop) m p a b,(∀l,R l->R' l)->Le m0 m->ai R' m p.1 a->ai R' m p.2 b->aN R' m lv (e a b m) (ed p)):
  ∀(ds:List (Dat×Dat)) (i k:Nat) (acc:List Dat) (acx:List Wd) (m:Me),Le m0 m->ds=ps.drop i->i+ds.length=ps.length->ds.length<k->ae (Rf R m0.length) m acc acx->cW m0 m lv acc acx->dB R m0 lv (yf c e g k i acx m) (ym cd ed ds acc)
 |[],i,0,acc,acx,m,hm,a,hi,hk,b,f=>by simp at hk
 |d::ds,i,0,acc,acx,m,hm,a,hi,hk,b,f=>by simp at hk
 |[],i,k+1,acc,acx,m,hm,a,hi,hk,b,f=>by
  unfold yf ym bp;rw[(hg m hm).2 i (by simp at hi;lia)];simp only;by_cases z:acc.length<=av
  .rw[M6 z];exact⟨acc,m,acx,rfl,z,rfl,hm,b,f⟩
  .rw[M7 z];trivial
 |d::ds,i,k+1,acc,acx,m,hm,a,hi,hk,b,f=>by
  have hx:ps[i]?=some d:=by
   have:(ps.drop i)[0]?=some d:=by rw[<-a];rfl
   simpa using this
  have hr:ds=ps.drop (i+1):=by
   have:(ps.drop i).drop 1=ds:=by rw[<-a];rfl
   rw[<-this,WN]
  have hi':i+1+ds.length=ps.length:=by simp at hi;lia
  have hk':ds.length<k:=by simp at hk;lia
  obtain⟨u,v,e0,p,q⟩:=(hg m hm).1 i d hx;have hl:=hm.len;have sh:∀{n:Nat}{m':Me}{d:Dat}{w:Wd},m0.length<=n->ai (Rf (Rf R m0.length) n) m' d w->ai (Rf R m0.length) m' d w:=λhn k=>ai.frame (λl o r z=>⟨by rcases r with (r|r)|r;exact .inl r;exact .inr r;exact .inr (by lia),z⟩) _ _ k;unfold yf ym;rw[e0];simp only;have h1:=hc _ m d u v (λl z=>.inl z) hm p q;cases e1:cd d with
  |no=>trivial
  |exc k t=>rw[e1]at h1;obtain⟨w,m',h1,l1,k1⟩:=h1;rw[h1];exact⟨w,m',rfl,hm.trans l1,sh hl k1⟩
  |ok t=>
   rw[e1]at h1;obtain⟨w,m1,h1,l1,k1⟩:=h1;rw[h1];simp only[Rz.bind,Rd.bind];cases t with
   |bl t=>
    rw[ah.mp k1];have fr:∀{ds:List Dat}{xs:List Wd},ae (Rf R m0.length) m ds xs->ae (Rf R m0.length) m1 ds xs:=λk=>ae.frame (λl o r z=>⟨r,l1 l o z⟩) _ _ k;cases t with
    |false=>exact kP hg hc he ds (i+1) k acc acx m1 (hm.trans l1) hr hi' hk' (fr b) (f.up l1)
    |true=>
     have h2:=he _ m1 d u v (λl z=>.inl z) (hm.trans l1) (ai.frame (λl o r z=>⟨r,l1 l o z⟩) _ _ p) (ai.frame (λl o r z=>⟨r,l1 l o z⟩) _ _ q);have hl1:=(hm.trans l1).len;simp only;cases e2:ed d with
     |no=>trivial
     |exc k t=>rw[e2]at h2;obtain⟨w,m',h2,l2,k2⟩:=h2;rw[h2];exact⟨w,m',rfl,(hm.trans l1).trans l2,sh hl1 k2⟩
     |ok y=>
      rw[e2]at h2;have h3:=h2.sim;obtain⟨w,m2,B,h2,l2,k2,nd,hB⟩:=h2;obtain⟨w',m2',h3,_,k3⟩:=h3;rw[h2]at h3 ⊢;cases h3;simp only[Rz.bind,Rd.bind,b.len];split
      .refine kP hg hc he ds (i+1) k _ _ m2 ((hm.trans l1).trans l2) hr hi' hk' ((ae.frame (λl o r z=>⟨r,l2 l o z⟩) _ _ (fr b)).app (.cons (sh hl1 k3) .nil)) ((f.up l1).push (hm.trans l1) l2 ?_ nd hB);intro z;rw[z]at k2;exact k2
      .trivial
   |_=>trivial
def dB.sim (h:dB R m lv r rd)(hl:∀ds,lw (.lst ds)=if ds.all (λx=>lv x == .full)then .full else .top):aN R m lw r rd:=by
 cases rd with
 |no=>trivial
 |exc c d=>exact h
 |ok d=>
  obtain⟨out,m2,outx,rfl,hlen,rfl,l2,k2,own⟩:=h;have e:=k2.len;cases z:out.all (λx=>lv x == .full)with
  |true=>
   obtain⟨A,a,b,c⟩:=own λy hy=>by simpa using Wc.mp z y hy
   have:=rQ (R:=R) (lv:=lw) l2 a b c (by rw[hl,z];rfl) e;unfold bp at this;rw[M6 hlen]at this;exact this
  |false=>
   unfold alloc;rw[<-e,M6 hlen];have ll:=l2.len;refine⟨_,_,[m2.length],rfl,l2.trans (Le.app m2 _),?_,by simp,by simp;exact ll⟩;rw[hl,z];refine⟨out,_,outx,rfl,rfl,rfl,by simp,ae.frame (λl o r z=>⟨⟨r,?_⟩,Le.app m2 _ l o z⟩) out outx k2⟩;have:=(Qa.mp z).1;simp;lia
theorem yA(lev:Nat->Lv):∀(e:Ex) (d:Dat),aw d=true->aV lev e d=.full
 |.tup a,d,h=>yA lev a d h
 |.comp _ _ _,d,h=>M6 h
 |.compP _ _ _ _ _,d,h=>M6 h
 |.lst _,d,h=>M6 h
 |.pair _ _,d,h=>M6 h
 |.call _ _,d,h=>M6 h
 |.blt b _,d,h=>by cases b<;>exact M6 h
 |.lrng _,d,h=>M6 h
 |.slB _ _ _,d,h=>M6 h
 |.bin _ _ _,d,h=>M6 h
 |.var _,d,h=>M6 h
 |.lit _,d,h=>M6 h
 |.neg _,d,h=>M6 h
 |.not _,d,h=>M6 h
 |.and _ _,d,h=>M6 h
 |.or _ _,d,h=>M6 h
 |.cmp _ _ _,d,h=>M6 h
 |.chain _ _ _ _ _,d,h=>M6 h
 |.ife _ _ _,d,h=>M6 h
 |.unit,d,h=>M6 h
 |.isi _ _,d,h=>M6 h
 |.dict0,d,h=>M6 h
 |.dget _ _,d,h=>M6 h
 |.idx _ _,d,h=>M6 h
 |.meth _ _ _,d,h=>M6 h
 |.rng _ _ _,d,h=>M6 h
def aN.newTop{R:Nat->Prop}{m0 m:Me}{ds:List Dat}{xs:List Wd}{lv:Dat->Lv}(hm:Le m0 m)(h:ae (Rf R m0.length) m ds xs)(hl:lv (.lst ds)=.top):aN R m0 lv (alloc m xs) (bp ds):=by
 unfold bp alloc;rw[h.len];by_cases z:xs.length<=av
 .rw[M6 z,M6 z];refine⟨_,_,[m.length],rfl,hm.trans (Le.app m _),?_,by simp,by simp;exact hm.len⟩;rw[hl];refine⟨ds,_,xs,rfl,rfl,rfl,by simp,ae.frame (λl o r z=>⟨⟨r,?_⟩,Le.app m _ l o z⟩) ds xs h⟩;have:=(Qa.mp z).1;simp;lia
 .rw[M7 z,M7 z];exact aN.no
set_option tactic.hygienic true in
def Ed{R:Nat->Prop}{m:Me}{d e:Dat}{x y:Wd}{lv:Dat->Lv}(op:Bo)(hl:∀d,lv d=if aw d then .full else match d with |.lst ds=>if aY ds then .full else .top|_=>.no)(a:ai R m d x)(b:ai R m e y):aN R m lv (dh op x y m) (zJ op d e):=by
 have hn:∀es,lv (.lst es)=if aY es then .full else .top:=λes=>by rw[hl];simp[aw]
 have hs:=qp op a b;cases d with
 |lst ds=>
  obtain⟨l,xs,rfl,_,hm,a1⟩:=aD.mp a;cases e with
  |lst es=>
   obtain⟨l',ys,rfl,_,hk,b1⟩:=aD.mp b;cases op<;>first|exact aN.no|skip
   simp only[dh,zJ,hm,hk];exact aN.new (a1.app b1) hn
  |int k=>
   rw[aa.mp b];cases op<;>first|exact aN.no|skip
   simp only[dh,zJ,hm];by_cases z:-(av:Int)<=k/\k<=(av:Int)
   .rw[M6 z,M6 z];exact aN.new (a1.rep _) hn
   .rw[M7 z,M7 z];exact aN.no
  |_=>exact aN.no
 |int i=>
  cases e with
  |int j=>
   have hi:∀r:Rd,ag R m (dh op x y m) r->(∀d,r=.ok d->aw d=true)->aN R m lv (dh op x y m) r:=by
    intro r h f;cases r with
    |ok d=>
     obtain⟨w,m',h,l,k⟩:=h;refine⟨w,m',[],h,l,?_,QB,by simp⟩;rw[hl,M6 (f d rfl)];exact k.flat d w (f d rfl)
    |exc c d=>exact h
    |no=>trivial
   refine hi _ hs λd h=>?_;cases op<;>simp only[zJ]at h
   .cases h;rfl
   .cases h;rfl
   all_goals (split at h<;>(cases h;try rfl))
  |_=>exact aN.no
 |tup ds=>
  obtain⟨xs,rfl,a1⟩:=aj.mp a;cases e with
  |tup es=>
   obtain⟨ys,rfl,b1⟩:=aj.mp b;cases op<;>first|exact aN.no|skip
   simp only[zJ]at hs ⊢;split at hs
   .next z=>
    rw[M6 z];obtain⟨w,m',h,l,k⟩:=hs;refine⟨w,m',[],h,l,?_,QB,by simp⟩;rw[hl];split
    .next f=>exact k.flat _ w f
    .exact ⟨ai.frame (λl o r z=>⟨⟨r,by simp⟩,z⟩) _ w k,rfl⟩
   .next z=>rw[M7 z];exact aN.no
  |_=>exact aN.no
 |_=>exact aN.no
set_option tactic.hygienic true in
theorem wp (H:bJ lev cl cd):∀(e:Ex) (R:Nat->Prop) (m:Me) (de:aO) (env:En),bU R m (zt e) de env->aN R m (aV lev e) (af cl e env m) (ak cd e de)
 |.call k a,R,m,de,env,q=>by
  have e:aV lev (.call k a)=wX lev k:=by funext d;simp[wX]
  rw[e];refine(zh H.r a R m de env q).bindO λd w m1 l1 k1=>?_;exact H k _ _ _ m1 (yR k1)
 |.bin op a b,R,m,de,env,q=>by
  refine(zh H.r a R m de env q.left).bindO λd w m1 l1 k1=>?_;refine(zh H.r b _ m1 de env (q.right.up (λ_=>.inl) l1)).bindO λd2 w2 m2 l2 k2=>?_;exact Ed op (λd=>by cases d<;>rfl) (k1.up _ l2) k2
 |.lrng a,R,m,de,env,q=>by
  refine(zh H.r a R m de env q).bindO λd w m1 l1 k1=>?_;cases d with
  |int j=>
   rw[aa.mp k1];simp only;split
   .exact aN.new (kf 1 _ 0) (λes=>by simp[aw])
   .exact aN.no
  |_=>exact aN.no
 |.slB a b c,R,m,de,env,q=>by
  refine(zh H.r a R m de env q.left).bindO λd w m1 l1 k1=>?_;refine(zh H.r b _ m1 de env (q.right.left.up (λ_=>.inl) l1)).bindO λd2 w2 m2 l2 k2=>?_;cases d2 with
  |int i=>
   rw[aa.mp k2];refine(zh H.r c _ m2 de env (q.right.right.up (λ_ h=>.inl (.inl h)) (l1.trans l2))).bindO λd3 w3 m3 l3 k3=>?_;cases d3 with
   |int j=>
    rw[aa.mp k3];simp only[fW,fV];cases z:fB d with
    |none=>exact aN.no
    |some ds=>
     obtain⟨xs,h,q⟩:=ng ((k1.up m1.length l2).up m2.length l3) z;simp only[h,q.len];exact aN.new ((q.drop _).take _) (λes=>by simp[aw])
   |_=>exact aN.no
  |_=>exact aN.no
 |.blt b a,R,m,de,env,q=>by
  by_cases hb:b=.list
  .subst hb;refine(zh H.r a R m de env q).bindO λd w m1 l1 k1=>?_;have k2:=yR k1;simp only[y7];split
   .next x hx=>
    rw[hx]at k2;obtain⟨x',r,e0,p,q0⟩:=k2.cons_inv;rw[e0,q0.nil_inv];split
    .next z=>obtain⟨ys,h,q⟩:=vf p z;simp only[ft,h];exact aN.new q (λes=>by simp[aw])
    .exact aN.no
   .exact aN.no
  .exact (zh H.r (.blt b a) R m de env q).own λd=>by cases b<;>first|exact M8 rfl hb|rfl
 |.lst a,R,m,de,env,q=>by
  have ih:=wp H a R m de env q;show aN R m _ ((af cl a env m).bind λx m1=>alloc m1 (zn x)) ((ak cd a de).bind λx=>bp (zV x));cases ea:ak cd a de with
  |no=>trivial
  |exc c d=>rw[ea]at ih;obtain⟨w,m',h,l,k⟩:=ih;rw[h];exact⟨w,m',rfl,l,k⟩
  |ok d=>
   rw[ea]at ih;have hs:=ih.sim;obtain⟨w,m1,A,h,l,k,nd,hA⟩:=ih;obtain⟨w',m1',h',_,ks⟩:=hs;rw[h]at h';cases h';rw[h];simp only[Rz.bind,Rd.bind];have ka:=yR ks;cases z:aV lev a (.tup (zV d)) == .full with
   |false=>exact aN.newTop l ka (by simp[aw,z])
   |true=>
    have z':aV lev a (.tup (zV d))=.full:=by simpa using z
    have own:∃B,aA m1 (zV d) (zn w) B/\B.Nodup/\∀b∈B,m.length<=b:=by
     cases d with
     |tup ds=>
      rw[show aV lev a (.tup ds)=.full from z']at k;obtain⟨xs,rfl,k1⟩:=bG.mp k;exact⟨A,k1,nd,hA⟩
     |_=>refine⟨[],?_,QB,by simp⟩;exact ka.flat _ _ rfl
    obtain⟨B,o,nb,hB⟩:=own;exact rQ l o nb hB (by simp[aw,z]) ka.len
 |.tup a,R,m,de,env,q=>by
  have ih:=wp H a R m de env q;have el:aV lev (.tup a)=aV lev a:=by funext d;simp
  rw[el];show aN R m _ ((af cl a env m).bind λx m1=>if(zn x).length<=av then .ok (.tup (zn x)) m1 else .no) ((ak cd a de).bind λx=>if(zV x).length<=av then .ok (.tup (zV x))else .no);cases ea:ak cd a de with
  |no=>trivial
  |exc c d=>rw[ea]at ih;obtain⟨w,m',h,l,k⟩:=ih;rw[h];exact⟨w,m',rfl,l,k⟩
  |ok d=>
   rw[ea]at ih;have hs:=ih.sim;obtain⟨w,m1,A,h,l,k,nd,hA⟩:=ih;obtain⟨w',m1',h',_,ks⟩:=hs;rw[h]at h';cases h';rw[h];have ka:=yR ks;simp only[Rz.bind,Rd.bind,ka.len];split
   .cases d with
    |tup ds=>
     obtain⟨xs,rfl,_⟩:=aj.mp ks;exact⟨_,m1,A,rfl,l,k,nd,hA⟩
    |_=>
     refine⟨_,m1,[],rfl,l,?_,QB,by simp⟩;rw[yA lev a _ (by rfl)];exact bG.mpr ⟨_,rfl,ka.flat _ _ rfl⟩
   .trivial
 |.pair a b,R,m,de,env,q=>by
  have iha:=wp H a R m de env q.left;show aN R m _ ((af cl a env m).bind λx m1=>(af cl b env m1).bind λy m2=>.ok (.tup (x::zn y)) m2) ((ak cd a de).bind λx=>(ak cd b de).bind λy=>.ok (.tup (x::zV y)));cases ea:ak cd a de with
  |no=>trivial
  |exc c d=>rw[ea]at iha;obtain⟨w,m',h,l,k⟩:=iha;rw[h];exact⟨w,m',rfl,l,k⟩
  |ok d=>
   rw[ea]at iha;have hs:=iha.sim;obtain⟨w,m1,A,h,l,k,nd,hA⟩:=iha;obtain⟨w',m1',h',_,ks⟩:=hs;rw[h]at h';cases h';rw[h];simp only[Rz.bind,Rd.bind];have ihb:=wp H b _ m1 de env (q.right.up (R':=Rf R m.length) (λ_=>.inl) l);cases eb:ak cd b de with
   |no=>trivial
   |exc c d=>rw[eb]at ihb;obtain⟨w,m',h,l2,k⟩:=ihb;rw[h];exact ag.lift (rd:=.exc c d) l ⟨w,m',rfl,l2,k⟩
   |ok d2=>
    rw[eb]at ihb;have hs2:=ihb.sim;obtain⟨w2,m2,A2,h2,l2,k2,nd2,hA2⟩:=ihb;obtain⟨w2',m2',h2',_,ks2⟩:=hs2;rw[h2]at h2';cases h2';rw[h2];simp only;have ka:=yR ks2;have hl1:=l.len;cases z:(aV lev a d == .full&&aV lev b (.tup (zV d2)) == .full)with
    |false=>
     have:ag R m (.ok (.tup (w::zn w2)) m2) (.ok (.tup (d::zV d2))):=
      ag.lift l (ag.lift l2 (dQ (aj.mpr ⟨_,rfl,.cons (ks.up _ l2) ka⟩)))
     obtain⟨w3,m3,h3,l3,k3⟩:=this;refine⟨w3,m3,[],h3,l3,?_,QB,by simp⟩;by_cases f:aw (.tup (d::zV d2))=true
     .rw[yA lev _ _ f];exact k3.flat _ w3 f
     .have:aV lev (.pair a b) (.tup (d::zV d2))=.no:=by
       rw[ut,M7 f];simp only[z];rfl
      rw[this];exact⟨ai.frame (λl o r z=>⟨⟨r,by simp⟩,z⟩) _ w3 k3,rfl⟩
    |true=>
     rw[Qq]at z;have z1:aV lev a d=.full:=by simpa using z.1
     have z2:aV lev b (.tup (zV d2))=.full:=by simpa using z.2
     rw[z1]at k;have own:∃B,aA m2 (zV d2) (zn w2) B/\B.Nodup/\∀b∈B,m1.length<=b:=by
      cases d2 with
      |tup ds=>
       rw[show aV lev b (.tup ds)=.full from z2]at k2;obtain⟨xs,rfl,k3⟩:=bG.mp k2;exact⟨A2,k3,nd2,hA2⟩
      |_=>refine⟨[],?_,QB,by simp⟩;exact ka.flat _ _ rfl
     obtain⟨B,o,nb,hB⟩:=own;refine⟨_,m2,A++B,rfl,l.trans l2,?_,?_,?_⟩
     .have:aV lev (.pair a b) (.tup (d::zV d2))=.full:=by
       rw[ut];simp only[z1,z2];simp
      rw[this];exact bG.mpr ⟨_,rfl,.cons (bj.frame d w A (λx _ o q=>l2 x o q) k) o⟩
     .refine QA.mpr ⟨nd,nb,λx hx y hy e=>?_⟩;have:=bj.lt d w A k x hx;have:=hB y hy;lia
     .intro x hx;rcases QL.mp hx with hx|hx
      .exact hA x hx
      .have:=hB x hx;lia
 |.comp elt it cond,R,m,de,env,q=>by
  refine(zh H.r it R m de env q.left).bindO λd w m1 l1 k1=>?_;have hc:∀(R':Nat->Prop) m' d x,(∀l,Rf R m.length l->R' l)->Le m1 m'->ai R' m' d x->ag R' m' (af cl cond (env++[some x]) m') (ak cd cond (de++[some d])):=
   λR' m' d x hR l k=>zh H.r cond R' m' _ _ ((q.right.right.up (λl h=>hR l (.inl h)) (l1.trans l)).push k)
  have he:∀(R':Nat->Prop) m' d x,(∀l,Rf R m.length l->R' l)->Le m1 m'->ai R' m' d x->aN R' m' (aV lev elt) (af cl elt (env++[some x]) m') (ak cd elt (de++[some d])):=
   λR' m' d x hR l k=>wp H elt R' m' _ _ ((q.right.left.up (λl h=>hR l (.inl h)) (l1.trans l)).push k)
  have hl:∀ds,aV lev (.comp elt it cond) (.lst ds)=if ds.all (λx=>aV lev elt x == .full)then .full else .top:=λds=>by simp[aw]
  have acc0:cW m1 m1 (aV lev elt) [] []:=λ_=>⟨[],.nil,QB,by simp⟩;cases d with
  |tup ds=>
   obtain⟨xs,rfl,k2⟩:=aj.mp k1;exact(vj hc he ds xs [] [] m1 (Le.refl _) (k2.up _ (Le.refl _)) .nil acc0).sim hl
  |scr ns=>
   rw[ba.mp k1];exact(vj hc he (ns.map .int) (ns.map .int) [] [] m1 (Le.refl _) (fk ns) .nil acc0).sim hl
  |lst ds=>
   obtain⟨l,xs,rfl,_,hm,k2⟩:=aD.mp k1;simp only[cS];by_cases z:ds.length<=av
   .rw[M6 z];have hl':=k2.len;exact(kO hm hc he ds 0 (av+1) [] [] m1 (Le.refl _) (by simpa using (k2.up _ (Le.refl _))) (by lia) (by lia) .nil acc0).sim hl
   .rw[M7 z];exact aN.no
  |_=>exact aN.no
 |.compP k elt a b cond,R,m,de,env,q=>by
  refine(zh H.r a R m de env q.left).bindO λd w m1 l1 k1=>?_;refine(zh H.r b _ m1 de env (q.right.left.up (λl h=>.inl h) l1)).bindO λd' w' m2 l2 k2=>?_;have hc:∀(R':Nat->Prop) m' (p:Dat×Dat) x y,(∀l,Rf (Rf R m.length) m1.length l->R' l)->Le m2 m'->ai R' m' p.1 x->ai R' m' p.2 y->ag R' m' (af cl cond (env++[some x]++[some y]) m') (ak cd cond (de++[some p.1]++[some p.2])):=
   λR' m' d x y hR l k k'=>zh H.r cond R' m' _ _ (((q.right.right.right.up (λl h=>hR l (.inl (.inl h))) ((l1.trans l2).trans l)).push k).push k')
  have he:∀(R':Nat->Prop) m' (p:Dat×Dat) x y,(∀l,Rf (Rf R m.length) m1.length l->R' l)->Le m2 m'->ai R' m' p.1 x->ai R' m' p.2 y->aN R' m' (aV lev elt) (af cl elt (env++[some x]++[some y]) m') (ak cd elt (de++[some p.1]++[some p.2])):=
   λR' m' d x y hR l k k'=>wp H elt R' m' _ _ (((q.right.right.left.up (λl h=>hR l (.inl (.inl h))) ((l1.trans l2).trans l)).push k).push k')
  have hl:∀ds,aV lev (.compP k elt a b cond) (.lst ds)=if ds.all (λx=>aV lev elt x == .full)then .full else .top:=λds=>by simp[aw]
  have acc0:cW m2 m2 (aV lev elt) [] []:=λ_=>⟨[],.nil,QB,by simp⟩;cases e:xf k d d' with
  |none=>exact aN.no
  |some ps=>
   obtain⟨pr,hln⟩:=gO e ((k1.up _ l2).up m2.length (Le.refl _)) (k2.up m2.length (Le.refl _));exact(kP pr hc he ps 0 (av+1) [] [] m2 (Le.refl _) (by simp) (by simp) (by lia) .nil acc0).sim hl
 |.var i,R,m,de,env,q=>(zh H.r _ R m de env q).own λd=>rfl
 |.lit w,R,m,de,env,q=>(zh H.r _ R m de env q).own λd=>rfl
 |.neg a,R,m,de,env,q=>(zh H.r _ R m de env q).own λd=>rfl
 |.not a,R,m,de,env,q=>(zh H.r _ R m de env q).own λd=>rfl
 |.and a b,R,m,de,env,q=>(zh H.r _ R m de env q).own λd=>rfl
 |.or a b,R,m,de,env,q=>(zh H.r _ R m de env q).own λd=>rfl
 |.cmp op a b,R,m,de,env,q=>(zh H.r _ R m de env q).own λd=>rfl
 |.chain o p a b c,R,m,de,env,q=>(zh H.r _ R m de env q).own λd=>rfl
 |.ife c a b,R,m,de,env,q=>(zh H.r _ R m de env q).own λd=>rfl
 |.unit,R,m,de,env,q=>(zh H.r _ R m de env q).own λd=>rfl
 |.isi t a,R,m,de,env,q=>(zh H.r _ R m de env q).own λd=>rfl
 |.dict0,R,m,de,env,q=>⟨_,_,[m.length],rfl,Le.app m _,bW.mpr ⟨_,[],[],rfl,rfl,by simp,.nil⟩,by simp,by simp⟩
 |.dget a b,R,m,de,env,q=>(zh H.r _ R m de env q).own λd=>rfl
 |.idx a b,R,m,de,env,q=>(zh H.r _ R m de env q).own λd=>rfl
 |.meth _ _ _,R,m,de,env,q=>(zh H.r _ R m de env q).own λd=>rfl
 |.rng a b c,R,m,de,env,q=>(zh H.r _ R m de env q).own λd=>rfl
set_option genInjectivity false in
inductive bZ where
 |next (de:aO) (lv:List Lv)|ret (d:Dat) (l:Lv)|brk (de:aO) (lv:List Lv)|cont (de:aO) (lv:List Lv)|exc (c:Nat) (d:Dat)|no
deriving Inhabited
def Rd.bindS(r:Rd)(f:Dat->bZ):bZ:=match r with
 |.ok d=>f d
 |.exc c d=>.exc c d
 |.no=>.no
def Rd.okS(r:Rd)(f:Dat->bZ):bZ:=match r with
 |.ok d=>f d
 |_=>.no
def aR:List Nat->List Lv->List Lv
 |[],lv=>lv
 |i::vs,lv=>aR vs (lv.set i .no)
def cr(de:aO)(j:Nat)(lv:List Lv):List Lv:=match de[j]?,lv[j]? with
 |some (some (.lst _)),some .full=>lv.set j .top
 |some (some (.lst _)),some .top=>lv.set j .top
 |_,_=>lv.set j .no
def yB(e:Ex)(de:aO)(lv:List Lv):List Lv:=match e with
 |.idx (.var j) b=>cr de j (aR (zt b) lv)
 |.dget (.var i) (.idx (.var _) (.neg (.lit _)))=>aR [i] lv
 |e=>aR (zt e) lv
mutual
def dZ:Dat->Nat
 |.lst xs=>dg xs+1
 |.dct _ xs=>dg xs+1
 |.tup xs=>dg xs+1
 |.non=>0
 |.bl _=>0
 |.int _=>0
 |.str _=>0
 |.scr _=>0
def dg:List Dat->Nat
 |[]=>0
 |d::ds=>max (dZ d) (dg ds)
end
def yg(lv:List Lv)(j:Nat):Bool:=match lv[j]? with
 |some .top=>true
 |some .full=>true
 |_=>false
def xC(lev:Nat->Lv)(e:Ex)(d:Dat)(j:Nat)(de:aO)(lv:List Lv):Option (aO×List Lv):=
 if yg lv j=false then none
 else if aV lev e d=.full then some (de,lv)
 else if j∈zt e then none
 else match e with
  |.var i=>if lv[i]?=some .full/\lv[j]?=some .full then some (de.set i none,lv)else some (de,(aR [i] lv).set j .top)
  |e=>some (de,(yB e de lv).set j .top)
def yY{α:Type}(body:α->aO->List Lv->bZ):List α->aO->List Lv->bZ
 |[],de,lv=>.next de lv
 |x::xs,de,lv=>match body x de lv with
  |.next d1 l1=>yY body xs d1 l1
  |.cont d1 l1=>yY body xs d1 l1
  |.brk d1 l1=>.next d1 l1
  |r=>r
def yJ(c:aO->Rd)(body:aO->List Lv->bZ):Nat->aO->List Lv->bZ
 |0,_,_=>.no
 |k+1,de,lv=>match c de with
  |.ok (.bl true)=>match body de lv with
   |.next d1 l1=>yJ c body k d1 l1
   |.cont d1 l1=>yJ c body k d1 l1
   |.brk d1 l1=>.next d1 l1
   |r=>r
  |.ok (.bl false)=>.next de lv
  |.exc c d=>.exc c d
  |_=>.no
def aT(d:Dat):Lv:=if aw d then .full else .no
def cu(lev:Nat->Lv)(e:Ex)(d:Dat)(lv:List Lv):Lv:=if aw d then .full else match e with
 |.var i=>(lv[i]?).getD .no
 |.tup (.pair (.var a) (.pair (.var b) .unit))=>if a≠b/\lv[a]?=some .full/\lv[b]?=some .full then .full else .no
 |e=>aV lev e d
def x8(de:aO)(j:Nat):Option (List Dat):=match de[j]? with
 |some (some (.lst ds))=>some ds
 |_=>none
def vB(lev:Nat->Lv)(i:Nat)(e:Ex)(d:Dat)(de:aO)(lv:List Lv):bZ:=
 if aV lev e d=.full then .next (de.set i (some d)) (lv.set i .full)else .next (de.set i (some d)) ((yB e de lv).set i (aV lev e d))
def mh(lev:Nat->Lv)(j:Nat)(k:Dat)(e:Ex)(d:Dat)(de:aO)(lv:List Lv):bZ:=match k,x8 de j with
 |.int k,some ds=>match ix ds.length k with
  |some p=>match xC lev e d j de lv with
   |some (de1,lv1)=>.next (de1.set j (some (.lst (ds.set p d)))) lv1
   |none=>if yg lv j&&decide (dZ d<dZ (.lst ds))&&(aw d==false)then .next (de.set j (some (.lst (ds.set p d)))) ((aR (zt e) lv).set j .top)else .no
  |none=>.no
 |_,_=>.no
def yr(s t:Sm):Option (Nat×Nat×Ex×Ex×Ex×Ex×Ex):=match t with
 |_=>none
def By(lev:Nat->Lv)(cl:Nat->List Dat->Rd)(e:Ex)(de:aO)(lv:List Lv):bZ:=match e with
  |.meth .append (.var j) (.pair e .unit)=>(ak cl e de).okS λd=>match x8 de j with
   |some ds=>if ds.length<av then match xC lev e d j de lv with
    |some (de1,lv1)=>.next (de1.set j (some (.lst (ds++[d])))) lv1
    |none=>.no
    else .no
   |none=>.no
  |.meth .reverse (.var j) .unit=>match x8 de j with
   |some ds=>if yg lv j then .next (de.set j (some (.lst ds.reverse))) lv else .no
   |none=>.no
  |.meth .clear (.var j) .unit=>match x8 de j with
   |some ds=>if yg lv j then .next (de.set j (some (.lst []))) lv else .no
   |none=>.no
  |.meth _ _ _=>.no
  |e=>(ak cl e de).bindS λ_=>.next de lv
def aH(lev:Nat->Lv)(cl:Nat->List Dat->Rd):Sm->aO->List Lv->bZ
 |.skip,de,lv=>.next de lv
 |.seq a b,de,lv=>match yr a b with
  |some _=>.no
  |none=>match aH lev cl a de lv with
   |.next d1 l1=>aH lev cl b d1 l1
   |r=>r
 |.asg i e,de,lv=>(ak cl e de).bindS λd=>vB lev i e d de lv
 |.asgS o k e,de,lv=>match o with
  |.var j=>(ak cl e de).okS λd=>(ak cl k de).okS λk=>mh lev j k e d de lv
  |_=>.no
 |.aug i op e,de,lv=>match de[i]? with
  |some (some (.int a))=>(ak cl e de).okS λy=>match y with
   |.int b=>(zJ op (.int a) (.int b)).okS λz=>.next (de.set i (some z)) (lv.set i .full)
   |_=>.no
  |_=>.no
 |.ite c a b,de,lv=>(ak cl c de).bindS λx=>match x with
  |.bl true=>aH lev cl a de lv
  |.bl false=>aH lev cl b de lv
  |_=>.no
 |.forv i it body,de,lv=>(ak cl it de).bindS λd=>match cS d with
  |some xs=>yY (λx de lv=>aH lev cl body (de.set i (some x)) (lv.set i (aT x))) xs de (if aw d then lv else yB it de lv)
  |none=>.no
 |.fort i j it body,de,lv=>(ak cl it de).bindS λd=>match cS d with
  |some xs=>yY (λx de lv=>match x with
    |.tup [a,b]=>aH lev cl body ((de.set i (some a)).set j (some b)) ((lv.set i (aT a)).set j (aT b))
    |_=>.no) xs de (if aw d then lv else yB it de lv)
  |none=>.no
 |.while c body,de,lv=>yJ (ak cl c) (aH lev cl body) 1000000 de lv
 |.ret e,de,lv=>(ak cl e de).bindS λd=>.ret d (cu lev e d lv)
 |.expr e,de,lv=>By lev cl e de lv
 |.unp3 i j k e,de,lv=>(ak cl e de).bindS λd=>match xc d with
  |some [a,b,c]=>.next (((de.set i (some a)).set j (some b)).set k (some c)) ((((yB e de lv).set i (aT a)).set j (aT b)).set k (aT c))
  |_=>.no
 |.dput j k e,de,lv=>(ak cl e de).okS λd=>(ak cl k de).okS λq=>match de[j]?,wP q with
  |some (some (.dct ks ds)),some q=>if lv[j]?=some .full/\aV lev e d=.full/\ks.length<av then .next (de.set j (some (.dct (wS ks q) (yx ks ds q d)))) lv else .no
  |_,_=>.no
 |.never,_,_=>.no
def qy{lev:Nat->Lv}{cl:Nat->List Dat->Rd}{a b:Sm}{de:aO}{lv:List Lv}:aH lev cl (.seq a b) de lv=match yr a b with
  |some _=>.no
  |none=>match aH lev cl a de lv with
   |.next d1 l1=>aH lev cl b d1 l1
   |r=>r:=rfl
def xK(fn:Fn)(ds:List Dat):aO:=ds.map some++Qx (fn.sz-ds.length) none
def xg(fn:Fn)(ds:List Dat):List Lv:=ds.map aT++Qx (fn.sz-ds.length) .full
def wH:Lv->Lv->Bool
 |_,.no=>true
 |.full,.full=>true
 |.top,.top=>true
 |_,_=>false
def zD(l:Lv):bZ->Rd
 |.next _ _=>.ok .non
 |.ret d k=>if aw d || wH k l then .ok d else .no
 |.exc c d=>.exc c d
 |_=>.no
def zG(lev:Nat->Lv)(cl:Nat->List Dat->Rd)(k:Nat)(fn:Fn)(ds:List Dat):Rd:=
 if ds.length=fn.ar then zD (lev k) (aH lev cl fn.body (xK fn ds) (xg fn ds))else .no
def jU(lev:Nat->Lv)(T:List Fn):Nat->Nat->List Dat->Rd
 |0,_,_=>.no
 |d+1,k,ds=>match T[k]? with
  |some fn=>zG lev (jU lev T d) k fn ds
  |none=>.no
def xh(RR:Nat->Prop)(A:Nat->List Nat):Nat->Prop:=λl=>RR l/\∀i,l∉A i
structure Inv(lo:Nat)(RR:Nat->Prop)(m:Me)(de:aO)(lv:List Lv)(env:En)(A:Nat->List Nat):Prop where
 len:de.length=env.length
 lvl:lv.length=de.length
 rr:∀l,lo<=l->RR l
 lom:lo<=m.length
 slot:∀i d l,de[i]?=some (some d)->lv[i]?=some l->∃w,env[i]?=some (some w)/\bx (xh RR A) m l d w (A i)
 nd:∀i,(A i).Nodup
 dj:∀i j a,a∈A i->a∈A j->i=j
 bd:∀i a,a∈A i->lo<=a/\a<m.length
def bi(A:Nat->List Nat)(m:Me)(A':Nat->List Nat)(m':Me):Prop:=(∀(l:Nat) o,(∀i,l∉A i)->m[l]?=some o->(∀i,l∉A' i)/\m'[l]?=some o)/\m.length<=m'.length
def bi.refl(A:Nat->List Nat)(m:Me):bi A m A m:=⟨λ_ _ h k=>⟨h,k⟩,Qj _⟩
def bi.trans{A B C:Nat->List Nat}{m m1 m2:Me}(h:bi A m B m1)(k:bi B m1 C m2):bi A m C m2:=
 ⟨λl o a b=>k.1 l o (h.1 l o a b).1 (h.1 l o a b).2,Qr h.2 k.2⟩
def bi.rep (h:bi A m A' m')(q:ai (xh RR A) m d w):ai (xh RR A') m' d w:=
 ai.frame (λl o r z=>⟨⟨r.1,(h.1 l o r.2 z).1⟩,(h.1 l o r.2 z).2⟩) d w q
def bi.repL (h:bi A m A' m')(q:ae (xh RR A) m d w):ae (xh RR A') m' d w:=
 ae.frame (λl o r z=>⟨⟨r.1,(h.1 l o r.2 z).1⟩,(h.1 l o r.2 z).2⟩) d w q
def Inv.getlv (I:Inv lo RR m de lv env A){i:Nat}(h:de[i]?=some o):∃l,lv[i]?=some l:=by
 obtain⟨hi,_⟩:=Qa.mp h;exact⟨_,Qf (by rw[I.lvl];exact hi)⟩
def Inv.envR (I:Inv lo RR m de lv env A)(vs:List Nat):bU RR m vs de env:=
 ⟨I.len,λi _ d h=>by
  obtain⟨l,hl⟩:=I.getlv h;obtain⟨w,a,b⟩:=I.slot i d l h hl;exact⟨w,a,b.rep (λ_ z=>z.1) (λa ha=>I.rr a (I.bd i a ha).1)⟩⟩
def Inv.ext{lo:Nat}{RR:Nat->Prop}{m m':Me}{de:aO}{lv:List Lv}{env:En}{A:Nat->List Nat}(I:Inv lo RR m de lv env A)(h:Le m m'):Inv lo RR m' de lv env A:=
 ⟨I.len,I.lvl,I.rr,Qr I.lom h.len,λi d l a b=>by
  obtain⟨w,p,q⟩:=I.slot i d l a b;exact⟨w,p,q.frame (λl o r z=>⟨r,h l o z⟩) (λl _ o z=>h l o z)⟩,I.nd,I.dj,λi a ha=>⟨(I.bd i a ha).1,Qe (I.bd i a ha).2 h.len⟩⟩
def vk (h:Le m m'):bi A m A m':=⟨λl o a b=>⟨a,h l o b⟩,h.len⟩
def aJ(A:Nat->List Nat)(i:Nat)(B:List Nat):Nat->List Nat:=λk=>if k=i then B else A k
def zm:aJ A i B i=B:=by simp[aJ]
def zj (h:k≠i):aJ A i B k=A k:=by simp[aJ,h]
set_option tactic.hygienic true in
def Inv.store{lo:Nat}{RR:Nat->Prop}{m m':Me}{de:aO}{lv:List Lv}{env:En}{A:Nat->List Nat}(I:Inv lo RR m de lv env A)(h:Le m m')(i:Nat){d:Dat}{l:Lv}{w:Wd}{B:List Nat}
  (q:bx (λl=>(xh RR A l\/m.length<=l)/\l∉B) m' l d w B) (nd:B.Nodup) (hB:∀b∈B,m.length<=b) :
  Inv lo RR m' (de.set i (some d)) (lv.set i l) (env.set i (some w)) (aJ A i B)/\bi A m (aJ A i B) m':=by
 have hlt:=q.lt;have fr:∀(x:Nat) (o:Ob),(∀k,x∉A k)->m[x]?=some o->∀k,x∉aJ A i B k:=by
  intro x o hx hm k;by_cases e:k=i
  .subst e;rw[zm];intro hb;have:=hB x hb;have:=(Qa.mp hm).1;lia
  .rw[zj e];exact hx k
 refine⟨⟨by simp[I.len],by simp[I.lvl],I.rr,Qr I.lom h.len,?_,?_,?_,?_⟩,⟨λx o hx hm=>⟨fr x o hx hm,h x o hm⟩,h.len⟩⟩
 .intro k e l' h1 h2;by_cases z:k=i
  .rw[z]at h1 h2 ⊢;rw[QE]at h1 h2;rw[M6 rfl]at h1 h2;split at h1
   .split at h2
    .next q1 q2=>
     cases h1;cases h2;refine⟨w,by rw[QE,M6 rfl,M6 (by rw[<-I.len];exact q1)],?_⟩;rw[zm];refine q.frame (λx o r hm=>⟨⟨?_,λk=>?_⟩,hm⟩) (λ_ _ _ z=>z)
     .rcases r.1 with r1|r1
      .exact r1.1
      .exact I.rr x (Qr I.lom r1)
     .by_cases e:k=i
      .subst e;rw[zm];exact r.2
      .rw[zj e];rcases r.1 with r1|r1
       .exact r1.2 k
       .intro ha;have:=(I.bd k x ha).2;lia
    .cases h2
   .cases h1
  .rw[Qu (Ne.symm z)]at h1 h2;obtain⟨w',a,b⟩:=I.slot k e l' h1 h2;refine⟨w',by rw[Qu (Ne.symm z)];exact a,?_⟩;rw[zj z];exact b.frame (λx o r hm=>⟨⟨r.1,fr x o r.2 hm⟩,h x o hm⟩) (λx _ o hm=>h x o hm)
 .intro k;by_cases e:k=i
  .subst e;rw[zm];exact nd
  .rw[zj e];exact I.nd k
 .intro k j a ha hb;by_cases e:k=i
  .subst e;rw[zm]at ha;by_cases f:j=k
   .exact f.symm
   .rw[zj f]at hb;have:=hB a ha;have:=(I.bd j a hb).2;lia
  .rw[zj e]at ha;by_cases f:j=i
   .subst f;rw[zm]at hb;have:=hB a hb;have:=(I.bd k a ha).2;lia
   .rw[zj f]at hb;exact I.dj k j a ha hb
 .intro k a ha;by_cases e:k=i
  .subst e;rw[zm]at ha;exact⟨Qr I.lom (hB a ha),hlt a ha⟩
  .rw[zj e]at ha;exact⟨(I.bd k a ha).1,Qe (I.bd k a ha).2 h.len⟩
def Inv.weak{lo:Nat}{RR:Nat->Prop}{m:Me}{de:aO}{lv:List Lv}{env:En}{A:Nat->List Nat}(I:Inv lo RR m de lv env A)(i:Nat){l:Lv}{B:List Nat}
  (hB:∀b∈B,b∈A i) (nd:B.Nodup) (q:∀d w,de[i]?=some (some d)->env[i]?=some (some w)->bx (xh RR (aJ A i B)) m l d w B) :
  Inv lo RR m de (lv.set i l) env (aJ A i B)/\bi A m (aJ A i B) m:=by
 have fr:∀x,(∀k,x∉A k)->∀k,x∉aJ A i B k:=by
  intro x hx k;by_cases e:k=i
  .subst e;rw[zm];intro hb;exact hx _ (hB x hb)
  .rw[zj e];exact hx k
 have sub:∀k a,a∈aJ A i B k->a∈A k:=by
  intro k a ha;by_cases e:k=i
  .subst e;rw[zm]at ha;exact hB a ha
  .rw[zj e]at ha;exact ha
 refine⟨⟨I.len,by simp[I.lvl],I.rr,I.lom,?_,?_,λk j a ha hb=>I.dj k j a (sub k a ha) (sub j a hb),λk a ha=>I.bd k a (sub k a ha)⟩,⟨λx o hx hm=>⟨fr x hx,hm⟩,Qj _⟩⟩
 .intro k e l' h1 h2;by_cases z:k=i
  .subst z;rw[QE,M6 rfl]at h2;split at h2
   .cases h2;obtain⟨l0,hl0⟩:=I.getlv h1;obtain⟨w,a,_⟩:=I.slot k e l0 h1 hl0;refine⟨w,a,?_⟩;rw[zm];exact q e w h1 a
   .cases h2
  .rw[Qu (Ne.symm z)]at h2;obtain⟨w',a,b⟩:=I.slot k e l' h1 h2;refine⟨w',a,?_⟩;rw[zj z];exact b.frame (λx o r hm=>⟨⟨r.1,fr x r.2⟩,hm⟩) (λx _ o hm=>hm)
 .intro k;by_cases e:k=i
  .subst e;rw[zm];exact nd
  .rw[zj e];exact I.nd k
def Inv.down{lo:Nat}{RR:Nat->Prop}{m:Me}{de:aO}{lv:List Lv}{env:En}{A:Nat->List Nat}(I:Inv lo RR m de lv env A)(i:Nat):
  Inv lo RR m de (lv.set i .no) env (aJ A i [])/\bi A m (aJ A i []) m:=by
 refine I.weak i (by simp) QB λd w h1 h2=>⟨?_,rfl⟩;obtain⟨l,hl⟩:=I.getlv h1;obtain⟨w',a,b⟩:=I.slot i d l h1 hl;rw[h2]at a;cases a;refine b.rep (λx r=>⟨r.1,λk=>?_⟩) (λx hx=>⟨I.rr x (I.bd i x hx).1,λk=>?_⟩)
 .by_cases e:k=i
  .subst e;rw[zm];simp
  .rw[zj e];exact r.2 k
 .by_cases e:k=i
  .subst e;rw[zm];simp
  .rw[zj e];intro ha;exact e (I.dj k i x ha hx)
theorem yZ:∀(vs:List Nat) (lv:List Lv) (k:Nat),(aR vs lv)[k]?=if k∈vs/\k<lv.length then some .no else lv[k]?
 |[],lv,k=>by simp[aR]
 |i::vs,lv,k=>by
  unfold aR;rw[yZ vs (lv.set i .no) k];rw[Q5,QE];by_cases a:k∈vs/\k<lv.length
  .rw[M6 a,M6 ⟨Qh _ a.1,a.2⟩]
  .rw[M7 a];by_cases e:i=k
   .subst e;by_cases b:i<lv.length
    .simp[b]
    .simp[b]
   .rw[M7 e];by_cases c:k∈vs
    .have:¬k<lv.length:=λz=>a ⟨c,z⟩;rw[M7 (λz=>this z.2)]
    .rw[M7 (λz=>by rcases Qp.mp z.1 with z1|z1;exact e z1.symm;exact c z1)]
theorem Inv.downs:∀(vs:List Nat) {lv:List Lv}{A:Nat->List Nat},Inv lo RR m de lv env A ->
  ∃A',Inv lo RR m de (aR vs lv) env A'/\bi A m A' m/\(∀i∈vs,A' i=[])/\(∀i,A' i=A i\/A' i=[])/\∀i,i∉vs->A' i=A i
 |[],lv,A,I=>⟨A,I,bi.refl A m,by simp,λi=>.inl rfl,λ_ _=>rfl⟩
 |j::vs,lv,A,I=>by
  obtain⟨I1,K1⟩:=I.down j;obtain⟨A',I2,K2,h1,h2,h3⟩:=Inv.downs vs I1;refine⟨A',I2,K1.trans K2,λi hi=>?_,λi=>?_,λi hi=>?_⟩
  .by_cases q:i∈vs
   .exact h1 i q
   .rw[h3 i q];rcases Qp.mp hi with rfl|hi
    .exact zm
    .exact M8 hi q
  .rcases h2 i with z|z
   .rw[z];by_cases e:i=j
    .subst e;right;exact zm
    .left;exact zj e
   .exact .inr z
  .have:i≠j:=λe=>hi (by rw[e];simp);rw[h3 i (λz=>hi (Qh _ z)),zj this]
theorem Inv.top (I:Inv lo RR m de lv env A)(j:Nat)(hd:de[j]?=some (some (.lst ds)))(hj:yg lv j=true):
  ∃l xs A',Inv lo RR m de (lv.set j .top) env A'/\bi A m A' m/\A' j=[l]/\(∀i,i≠j->A' i=A i)/\env[j]?=some (some (.ref l))/\m[l]?=some (.lst xs)/\ae (xh RR A') m ds xs/\l∈A j:=by
 unfold yg at hj;obtain⟨lj,hl⟩:=I.getlv hd;obtain⟨w,a,b⟩:=I.slot j _ lj hd hl;rw[hl]at hj;have key:∃l xs,w=.ref l/\l∈A j/\m[l]?=some (.lst xs)/\ae (xh RR (aJ A j [l])) m ds xs:=by
  cases lj with
  |no=>simp at hj
  |top=>
   obtain⟨es,l,xs,e,rfl,hA,hm,r⟩:=b;cases e;refine⟨l,xs,rfl,by rw[hA];simp,hm,ae.frame (λx o r z=>⟨⟨r.1,λk=>?_⟩,z⟩) _ _ r⟩;by_cases e:k=j
   .subst e;rw[zm,<-hA];exact r.2 k
   .rw[zj e];exact r.2 k
  |full=>
   obtain⟨l,xs,B,rfl,hA,hm,r⟩:=bD.mp b;refine⟨l,xs,rfl,by rw[hA];simp,hm,aA.rep ds xs B (λx hx=>⟨I.rr x (I.bd j x (by rw[hA];exact Qh _ hx)).1,λk=>?_⟩) r⟩;have nd:=I.nd j;rw[hA]at nd;by_cases e:k=j
   .subst e;rw[zm];intro z;rw[QO.mp z]at hx;exact(QF.mp nd).1 hx
   .rw[zj e];intro z;exact e (I.dj k j x z (by rw[hA];exact Qh _ hx))
 obtain⟨l,xs,rfl,hA,hm,r⟩:=key;obtain⟨I',K⟩:=I.weak j (l:=.top) (B:=[l]) (by intro b hb;rw[QO.mp hb];exact hA) (by simp) λd w h1 h2=>by
  rw[hd]at h1;cases h1;rw[a]at h2;cases h2;exact⟨ds,l,xs,rfl,rfl,rfl,hm,r⟩
 exact⟨l,xs,_,I',K,zm,λi hi=>zj hi,a,hm,r,hA⟩
def yV {m:Me}(h:l≠x):(m.set l o)[x]?=m[x]?:=Qu h
def xR {m:Me}(h:m[l]?=some p):(m.set l o)[l]?=some o:=by
 rw[QE,M6 rfl,M6 (Qa.mp h).1]
def Inv.putO{lo:Nat}{RR:Nat->Prop}{m m1:Me}{de:aO}{lv:List Lv}{env:En}{A:Nat->List Nat}(I:Inv lo RR m de lv env A)(le:Le m m1){j l:Nat}{ob:Ob}(hl:l∈A j)(A1:Nat->List Nat)
  (h3:∀k a,a∈A1 k->(∃k',a∈A k')\/m.length<=a) (nd1:∀k,(A1 k).Nodup) (dj1:∀i k a,a∈A1 i->a∈A1 k->i=k) (bd1:∀k a,a∈A1 k->lo<=a/\a<m1.length)
  {de1:aO}{lv1:List Lv}(len1:de1.length=de.length) (lvl1:lv1.length=lv.length)
  (live:∀k d lk,k≠j->de1[k]?=some (some d)->lv1[k]?=some lk->de[k]?=some (some d)/\lv[k]?=some lk/\A1 k=A k)
  (sj:∀d lj,de1[j]?=some (some d)->lv1[j]?=some lj->∃w,env[j]?=some (some w)/\bx (xh RR A1) (m1.set l ob) lj d w (A1 j)) :
  Inv lo RR (m1.set l ob) de1 lv1 env A1/\bi A m A1 (m1.set l ob):=by
 have fr:∀(x:Nat) (o:Ob),(∀k,x∉A k)->m[x]?=some o->(∀k,x∉A1 k)/\(m1.set l ob)[x]?=some o:=by
  intro x o hx hm;refine⟨λk ha=>?_,?_⟩
  .rcases h3 k x ha with⟨k',z⟩|z
   .exact hx k' z
   .have:=(Qa.mp hm).1;lia
  .rw[yV (l:=l) (x:=x) (λe=>hx j (by rw[<-e];exact hl))];exact le x o hm
 refine⟨⟨len1.trans I.len,by rw[lvl1,I.lvl,len1],I.rr,by rw[Q5];exact Qr I.lom le.len,?_,nd1,dj1,λk a ha=>by rw[Q5];exact bd1 k a ha⟩,⟨λx o hx hm=>fr x o hx hm,by rw[Q5];exact le.len⟩⟩;intro k d lk h1 h2;by_cases e:k=j
 .subst e;exact sj d lk h1 h2
 .obtain ⟨a,b,c⟩:=live k d lk e h1 h2;obtain⟨w,p,q⟩:=I.slot k d lk a b;refine⟨w,p,?_⟩;rw[c];refine q.frame (λx o r hm=>⟨⟨r.1,(fr x o r.2 hm).1⟩,(fr x o r.2 hm).2⟩) (λx hx o hm=>?_);rw[yV (l:=l) (x:=x) (λz=>e (I.dj k j x hx (by rw[<-z];exact hl)))];exact le x o hm
def Inv.put{lo:Nat}{RR:Nat->Prop}{m m1:Me}{de:aO}{lv:List Lv}{env:En}{A:Nat->List Nat}(I:Inv lo RR m de lv env A)(le:Le m m1){j l:Nat}{xs ys:List Wd}(hl:l∈A j)(A1:Nat->List Nat)
  (h3:∀k a,a∈A1 k->(∃k',a∈A k')\/m.length<=a) (nd1:∀k,(A1 k).Nodup) (dj1:∀i k a,a∈A1 i->a∈A1 k->i=k) (bd1:∀k a,a∈A1 k->lo<=a/\a<m1.length)
  {de1:aO}{lv1:List Lv}(len1:de1.length=de.length) (lvl1:lv1.length=lv.length)
  (live:∀k d lk,k≠j->de1[k]?=some (some d)->lv1[k]?=some lk->de[k]?=some (some d)/\lv[k]?=some lk/\A1 k=A k)
  (sj:∀d lj,de1[j]?=some (some d)->lv1[j]?=some lj->∃w,env[j]?=some (some w)/\bx (xh RR A1) (m1.set l (.lst ys)) lj d w (A1 j)) :
  Inv lo RR (m1.set l (.lst ys)) de1 lv1 env A1/\bi A m A1 (m1.set l (.lst ys)):=I.putO le hl A1 h3 nd1 dj1 bd1 len1 lvl1 live sj
def rR(m m1:Me)(ds:List Dat)(xs:List Wd)(ds':List Dat)(ys:List Wd):Prop:=
 ∀B,B.Nodup->aA m ds xs B->∃B',aA m1 ds' ys B'/\B'.Nodup/\∀b∈B',b∈B\/m.length<=b
def rN(RR:Nat->Prop)(A:Nat->List Nat)(m m1:Me)(ds:List Dat)(xs:List Wd)(ds':List Dat)(ys:List Wd):Prop:=
 ae (xh RR A) m ds xs->ae (λx=>xh RR A x\/m.length<=x) m1 ds' ys
def il(RR:Nat->Prop)(A:Nat->List Nat)(m m1:Me)(ds:List Dat)(xs:List Wd)(ds':List Dat)(ys:List Wd):Prop:=
 (∀B,B.Nodup->aA m ds xs B->∃B',aA m1 ds' ys B'/\B'.Nodup/\∀b∈B',b∈B\/m.length<=b)/\(ae (xh RR A) m ds xs->ae (λx=>xh RR A x\/m.length<=x) m1 ds' ys)
def Inv.mut (I:Inv lo RR m de lv env A)(hd:de[j]?=some (some (.lst ds)))(hj:yg lv j=true):
  ∃l xs,env[j]?=some (some (.ref l))/\m[l]?=some (.lst xs)/\ae RR m ds xs/\∀(m1:Me) (ds':List Dat) (ys:List Wd),Le m m1->(lv[j]?=some .full->rR m m1 ds xs ds' ys)->(lv[j]?=some .top->rN RR A m m1 ds xs ds' ys) ->
   ∃A1,Inv lo RR (m1.set l (.lst ys)) (de.set j (some (.lst ds'))) lv env A1/\bi A m A1 (m1.set l (.lst ys)):=by
 unfold yg at hj;obtain⟨lj,hl⟩:=I.getlv hd;obtain⟨w,a,b⟩:=I.slot j _ lj hd hl;rw[hl]at hj;have hjl:j<de.length:=(Qa.mp hd).1;have live:∀(A1:Nat->List Nat),(∀k,k≠j->A1 k=A k)->∀(ds':List Dat) k d lk,k≠j->(de.set j (some (.lst ds')))[k]?=some (some d)->lv[k]?=some lk->de[k]?=some (some d)/\lv[k]?=some lk/\A1 k=A k:=by
  intro A1 h ds' k d lk e h1 h2;rw[Qu (Ne.symm e)]at h1;exact⟨h1,h2,h k e⟩
 cases lj with
 |no=>simp at hj
 |top=>
  obtain⟨es,l,xs,e,rfl,hA,hm,r⟩:=b;cases e;refine⟨l,xs,a,hm,ae.frame (λ_ _ r z=>⟨r.1,z⟩) _ _ r,λm1 ds' ys le _ c=>⟨A,?_⟩⟩;have hlm:=(Qa.mp hm).1;refine I.put le (j:=j) (l:=l) (xs:=xs) (by rw[hA];simp) A (λk a ha=>.inl ⟨k,ha⟩) I.nd I.dj (λk a ha=>⟨(I.bd k a ha).1,Qe (I.bd k a ha).2 le.len⟩) (by simp) rfl (live A (λ_ _=>rfl) ds') ?_;intro d lj h1 h2;rw[QE,M6 rfl,M6 hjl]at h1;cases h1;rw[hl]at h2;cases h2;refine⟨_,a,ds',l,ys,rfl,rfl,hA,xR (le l _ hm),ae.frame (λx o r z=>?_) _ _ (c hl r)⟩;rcases r with r|r
  .exact ⟨r,by rw[yV (l:=l) (x:=x) (λe=>r.2 j (by rw[hA,e];simp))];exact z⟩
  .exact ⟨⟨I.rr x (Qr I.lom r),λk hk=>by have:=(I.bd k x hk).2;lia⟩,by rw[yV (l:=l) (x:=x) (by lia)];exact z⟩
 |full=>
  obtain⟨l,xs,B,rfl,hA,hm,r⟩:=bD.mp b;have hlm:=(Qa.mp hm).1;have nd:=I.nd j;rw[hA]at nd;refine⟨l,xs,a,hm,aA.rep ds xs B (λx hx=>I.rr x (I.bd j x (by rw[hA];exact Qh _ hx)).1) r,λm1 ds' ys le c _=>?_⟩;obtain⟨B',o,nb,hB⟩:=c hl B (QF.mp nd).2 r;have hlB:l∉B':=λz=>by
   rcases hB l z with z|z
   .exact (QF.mp nd).1 z
   .lia
  have sub:∀x∈l::B',x∈A j\/m.length<=x:=by
   intro x hx;rcases Qp.mp hx with rfl|hx
   .left;rw[hA];simp
   .rcases hB x hx with z|z
    .left;rw[hA];exact Qh _ z
    .exact .inr z
  refine⟨aJ A j (l::B'),?_⟩;refine I.put le (j:=j) (l:=l) (xs:=xs) (by rw[hA];simp) _ ?_ ?_ ?_ ?_ (by simp) rfl (live _ (λk hk=>zj hk) ds') ?_
  .intro k x hx;by_cases e:k=j
   .subst e;rw[zm]at hx;rcases sub x hx with z|z
    .exact .inl ⟨k,z⟩
    .exact .inr z
   .rw[zj e]at hx;exact .inl ⟨k,hx⟩
  .intro k;by_cases e:k=j
   .subst e;rw[zm];exact QF.mpr ⟨hlB,nb⟩
   .rw[zj e];exact I.nd k
  .intro i k x h1 h2;by_cases e:i=j
   .by_cases f:k=j
    .rw[e,f]
    .rw[e,zm]at h1;rw[zj f]at h2;rcases sub x h1 with z|z
     .rw[e];exact I.dj j k x z h2
     .have:=(I.bd k x h2).2;lia
   .rw[zj e]at h1;by_cases f:k=j
    .rw[f,zm]at h2;rcases sub x h2 with z|z
     .rw[f];exact I.dj i j x h1 z
     .have:=(I.bd i x h1).2;lia
    .rw[zj f]at h2;exact I.dj i k x h1 h2
  .intro k x hx;by_cases e:k=j
   .rw[e,zm]at hx;rcases Qp.mp hx with rfl|hx
    .exact ⟨(I.bd j _ (by rw[hA];simp)).1,Qe hlm le.len⟩
    .refine ⟨?_,aA.lt ds' ys B' o x hx⟩;rcases hB x hx with z|z
     .exact (I.bd j x (by rw[hA];exact Qh _ z)).1
     .exact Qr I.lom z
   .rw[zj e]at hx;exact⟨(I.bd k x hx).1,Qe (I.bd k x hx).2 le.len⟩
  .intro d lj h1 h2;rw[QE,M6 rfl,M6 hjl]at h1;cases h1;rw[hl]at h2;cases h2;refine⟨_,a,?_⟩;rw[zm];exact bD.mpr ⟨l,ys,B',rfl,rfl,xR (le l _ hm),aA.frame ds' ys B' (λx hx o z=>by rw[yV (l:=l) (x:=x) (λe=>hlB (by rw[e];exact hx))];exact z) o⟩
theorem aA.item:∀{ds:List Dat}{xs:List Wd}{A:List Nat}{p:Nat}{d:Dat},aA m ds xs A->ds[p]?=some d->∃x B,(xs[p]?=some x/\bj m d x B)/\∀b∈B,b∈A
 |[],xs,A,p,d,h,z=>by simp at z
 |e::ds,xs,A,0,d,h,z=>by
  obtain⟨x,r,B,C,rfl,rfl,a,b⟩:=h.cons_inv;simp at z;subst z;exact⟨x,B,⟨rfl,a⟩,λb hb=>QV _ hb⟩
 |e::ds,xs,A,p+1,d,h,z=>by
  obtain⟨x,r,B,C,rfl,rfl,a,b⟩:=h.cons_inv;obtain⟨y,D,h1,h2⟩:=aA.item b (by simpa using z);exact⟨y,D,by simpa using h1,λb hb=>Qs _ (h2 b hb)⟩
theorem lY:∀{ds:List Dat}{xs:List Wd}{A:List Nat}{p:Nat}{d:Dat},aA m ds xs A->ds[p]?=some d ->
  ∃x B1 Bp B2,xs[p]?=some x/\A=B1++(Bp++B2)/\bj m d x Bp/\(∀(i:Nat) e y,i≠p->ds[i]?=some e->xs[i]?=some y->∃Bi,bj m e y Bi/\∀b∈Bi,b∈B1\/b∈B2)/\∀(m':Me) (d':Dat) (x':Wd) (B':List Nat),(∀l,l∈B1\/l∈B2->∀o,m[l]?=some o->m'[l]?=some o)->bj m' d' x' B'->aA m' (ds.set p d') (xs.set p x') (B1++(B'++B2))
 |[],xs,A,p,d,h,z=>by simp at z
 |e::ds,xs,A,0,d,h,z=>by
  obtain⟨x,r,B,C,rfl,rfl,a,b⟩:=h.cons_inv;simp at z;subst z;refine⟨x,[],B,C,rfl,rfl,a,λi e y hi h1 h2=>?_,λm' d' x' B' fr o=>?_⟩
  .cases i with
   |zero=>exact M8 rfl hi
   |succ i=>
    simp at h1 h2;obtain⟨y',Bi,o,hB⟩:=aA.item b h1;rw[h2]at o;obtain⟨o1,o2⟩:=o;cases o1;exact⟨Bi,o2,λz hz=>.inr (hB z hz)⟩
  show aA m' (d'::ds) (x'::r) (B'++C);exact aA.cons o (aA.frame ds r C (λl hl=>fr l (.inr hl)) b)
 |e::ds,xs,A,p+1,d,h,z=>by
  obtain⟨x,r,B,C,rfl,rfl,a,b⟩:=h.cons_inv;obtain⟨y,B1,Bp,B2,h1,rfl,h3,h5,h4⟩:=lY b (by simpa using z);refine⟨y,B++B1,Bp,B2,by simpa using h1,by simp[Wl],h3,λi e' y' hi g1 g2=>?_,λm' d' x' B' fr o=>?_⟩
  .cases i with
   |zero=>simp at g1 g2;subst g1;subst g2;exact⟨B,a,λz hz=>.inl (QV _ hz)⟩
   |succ i=>
    simp at g1 g2;obtain⟨Bi,o,hB⟩:=h5 i e' y' (by lia) g1 g2;exact⟨Bi,o,λz hz=>by rcases hB z hz with q|q;exact .inl (Qs _ q);exact .inr q⟩
  rw[Wl];exact aA.cons (bj.frame e x B (λl hl=>fr l (.inl (QV _ hl))) a) (h4 m' d' x' B' (λl hl=>fr l (by rcases hl with hl|hl;exact .inl (Qs _ hl);exact .inr hl)) o)
def ur (le:Le m m1)(o:bj m1 d w B0)(nd:B0.Nodup)(hB:∀b∈B0,m.length<=b):il RR A m m1 ds xs (ds++[d]) (xs++[w]):=by
 refine⟨λB nb q=>⟨B++(B0++[]),(aA.frame ds xs B (λl _ o z=>le l o z) q).app (.cons o .nil),?_,?_⟩,λq=>?_⟩
 .rw[Q0];refine QA.mpr ⟨nb,nd,λx hx y hy e=>?_⟩;have:=aA.lt ds xs B q x hx;have:=hB y hy;lia
 .intro b hb;rw[Q0]at hb;rcases QL.mp hb with z|z
  .exact .inl z
  .exact .inr (hB b z)
 .exact (ae.frame (λl o r z=>⟨.inl r,le l o z⟩) _ _ q).app (.cons (bj.rep d w B0 (λb hb=>.inr (hB b hb)) o) .nil)
def um (p:Nat)(le:Le m m1)(o:bj m1 d w B0)(nd:B0.Nodup)(hB:∀b∈B0,m.length<=b):il RR A m m1 ds xs (ds.set p d) (xs.set p w):=by
 refine⟨λB nb q=>?_,λq=>?_⟩
 .cases hp:ds[p]? with
  |none=>
   have h1:ds.length<=p:=QT.mp hp;rw[Wu h1,Wu (by rw[<-q.len];exact h1)];exact⟨B,aA.frame ds xs B (λl _ o z=>le l o z) q,nb,λb hb=>.inl hb⟩
  |some e=>
   obtain⟨y,B1,Bp,B2,h1,rfl,h3,_,h4⟩:=lY q hp;refine⟨B1++(B0++B2),h4 m1 d w B0 (λl _ o z=>le l o z) o,?_,?_⟩
   .have hlt:=aA.lt ds xs _ q;rw[QA]at nb ⊢;obtain⟨n1,n2,n3⟩:=nb;rw[QA]at n2 ⊢;obtain⟨n4,n5,n6⟩:=n2;refine⟨n1,⟨nd,n5,λx hx y hy e=>?_⟩,λx hx y hy e=>?_⟩
    .have:=hB x hx;have:=hlt y (by simp[hy]);lia
    .rcases QL.mp hy with hy|hy
     .have:=hB y hy;have:=hlt x (by simp[hx]);lia
     .exact n3 x hx y (Qs _ hy) e
   .intro b hb;simp only[QL]at hb ⊢;rcases hb with z|z|z
    .exact .inl (.inl z)
    .exact .inr (hB b z)
    .exact .inl (.inr (.inr z))
 .exact (ae.frame (λl o r z=>⟨.inl r,le l o z⟩) _ _ q).set p (bj.rep d w B0 (λb hb=>.inr (hB b hb)) o)
theorem aA.rev:∀{ds:List Dat}{xs:List Wd}{A:List Nat},A.Nodup->aA m ds xs A->∃B,aA m ds.reverse xs.reverse B/\B.Nodup/\∀b∈B,b∈A
 |[],xs,A,nd,h=>by rw[h.nil_inv.1];exact⟨[],.nil,QB,by simp⟩
 |d::ds,xs,A,nd,h=>by
  obtain⟨x,r,B,C,rfl,rfl,a,b⟩:=h.cons_inv;obtain⟨n1,n2,n3⟩:=QA.mp nd;obtain⟨D,o,nD,hD⟩:=aA.rev n2 b;rw[Q9,Q9];refine⟨D++(B++[]),o.app (.cons a .nil),?_,?_⟩
  .rw[Q0];exact QA.mpr ⟨nD,n1,λx hx y hy e=>n3 y hy x (hD x hx) e.symm⟩
  .intro b hb;simp only[Q0,QL]at hb ⊢;rcases hb with z|z
   .exact .inr (hD b z)
   .exact .inl z
def dN:il RR A m m ds xs ds.reverse xs.reverse:=by
 refine⟨λB nb q=>?_,λq=>(ae.frame (λl o r z=>⟨.inl r,z⟩) _ _ q).rev⟩;obtain⟨D,o,nD,hD⟩:=aA.rev nb q;exact⟨D,o,nD,λb hb=>.inl (hD b hb)⟩
def dO:il RR A m m ds xs [] []:=
 ⟨λB nb q=>⟨[],.nil,QB,by simp⟩,λq=>.nil⟩
def F9 (h:ae R m ds xs)(hm:m[l]?=some (.lst xs))(b:ai R m e y):ag R m (jx (.ref l) y m) (zQ (.lst ds) e):=by
 cases e with
 |int i=>
  rw[aa.mp b];simp only[zQ,jx,xc,xL,zz,hm];cases z:(ix ds.length i).bind λj=>ds[j]? with
  |none=>exact ag.no
  |some v=>
   obtain⟨j,h1,h2⟩:=QN.mp z;obtain⟨x,h3,p⟩:=h.get h2;rw[h.len]at h1;simp only[h1,WR,h3];exact dQ p
 |_=>exact ag.no
def jn (I:Inv lo RR m de lv env A)(h:∀i∈vs,∀l,lv[i]?=some l->l=.no):bU (xh RR A) m vs de env:=
 ⟨I.len,λi hi d hd=>by
  obtain⟨l,hl⟩:=I.getlv hd;obtain⟨w,a,b⟩:=I.slot i d l hd hl;rw[h i hi l hl]at b;exact⟨w,a,b.1⟩⟩
theorem bA:∀(vs:List Nat) (lv:List Lv),(aR vs lv).length=lv.length
 |[],lv=>rfl
 |i::vs,lv=>by unfold aR;rw[bA vs];simp
def ul (de:aO)(j:Nat)(lv:List Lv)(h:k≠j):(cr de j lv)[k]?=lv[k]?:=by
 have q:∃l,cr de j lv=lv.set j l:=by
  unfold cr;generalize de[j]?=p;generalize lv[j]?=q;cases p with
  |none=>exact⟨_,rfl⟩
  |some o=>
   cases o with
   |none=>exact⟨_,rfl⟩
   |some d=>
    cases d with
    |lst ds=>
     cases q with
     |none=>exact⟨_,rfl⟩
     |some l=>cases l<;>exact⟨_,rfl⟩
    |_=>exact⟨_,rfl⟩
 obtain⟨l,e⟩:=q;rw[e];exact Qu (Ne.symm h)
set_option tactic.hygienic true in
def Ec (e:Ex)(de:aO)(lv:List Lv)(h:k∉zt e):(yB e de lv)[k]?=lv[k]?:=by
 have gen:∀vs,k∉vs->(aR vs lv)[k]?=lv[k]?:=λvs h=>by rw[yZ,M7 (λz=>h z.1)]
 cases e with
 |idx o b=>
  cases o with
  |var j=>
   replace h:k∉j::zt b:=h
   rw[Qp,not_or]at h;show(cr de j (aR (zt b) lv))[k]?=_;rw[ul _ _ _ h.1,gen _ h.2]
  |_=>exact gen _ h
 |dget o b=>
  by_cases q:∃j i w,o=.var j/\b=.idx (.var i) (.neg (.lit w))
  .obtain ⟨j,i,w,rfl,rfl⟩:=q;exact gen [j] (by
    replace h:k∉j::zt (.idx (.var i) (.neg (.lit w))):=h
    rw[Qp,not_or]at h;simpa using h.1)
  .have:yB (.dget o b) de lv=aR (zt (.dget o b)) lv:=by
    unfold yB;split
    .next e=>cases e
    .next e=>cases e;exact M8 ⟨_,_,_,rfl,rfl⟩ q
    .rfl
   rw[this];exact gen _ h
 |_=>exact gen _ h
set_option tactic.hygienic true in
def Inv.topD (I:Inv lo RR m de lv env A)(j:Nat):
  ∃A',Inv lo RR m de (cr de j lv) env A'/\bi A m A' m/\(∀i,i≠j->A' i=A i)/\((∃ds l xs,de[j]?=some (some (.lst ds))/\A' j=[l]/\env[j]?=some (some (.ref l))/\m[l]?=some (.lst xs)/\ae (xh RR A') m ds xs)\/((Vl.cr de j lv)[j]?=some .no\/lv.length<=j)):=by
 by_cases h:(∃ds,de[j]?=some (some (.lst ds)))/\yg lv j=true
 .obtain ⟨⟨ds,hd⟩,ho⟩:=h;obtain⟨l,xs,A',I',K,h1,h2,h3,h4,h5,_⟩:=I.top j hd ho;have:Vl.cr de j lv=lv.set j .top:=by
   unfold Vl.cr;rw[hd];unfold yg at ho;cases z:lv[j]? with
   |none=>rw[z]at ho;simp at ho
   |some l=>rw[z]at ho;cases l<;>simp at ho ⊢
  rw[this];exact⟨A',I',K,h2,.inl ⟨ds,l,xs,hd,h1,h3,h4,h5⟩⟩
 .obtain ⟨I',K⟩:=I.down j;have:Vl.cr de j lv=lv.set j .no:=by
   unfold Vl.cr;split
   .next ds hd hl=>exact M8 ⟨⟨ds,hd⟩,by unfold yg;rw[hl]⟩ h
   .next ds hd hl=>exact M8 ⟨⟨ds,hd⟩,by unfold yg;rw[hl]⟩ h
   .rfl
  rw[this];refine⟨_,I',K,λi hi=>zj hi,.inr ?_⟩;by_cases z:j<lv.length
  .left;rw[QE,M6 rfl,M6 z]
  .right;lia
set_option tactic.hygienic true in
def Inv.relEv (H:bJ lev cl cd)(I:Inv lo RR m de lv env A)(e:Ex):
  ∃A',Inv lo RR m de (yB e de lv) env A'/\bi A m A' m/\(∀k,k∉zt e->A' k=A k)/\aN (xh RR A') m (aV lev e) (af cl e env m) (ak cd e de):=by
 have gen:yB e de lv=Vl.aR (zt e) lv->∃A',Inv lo RR m de (yB e de lv) env A'/\bi A m A' m/\(∀k,k∉zt e->A' k=A k)/\aN (xh RR A') m (aV lev e) (af cl e env m) (ak cd e de):=by
  intro h;rw[h];obtain⟨A',I',K,h1,_,h3⟩:=Inv.downs (zt e) I;refine⟨A',I',K,h3,wp H e _ m de env (jn I' λi hi l hl=>?_)⟩;rw[yZ]at hl;split at hl
  .cases hl;rfl
  .next z=>rw[Ql (by have:¬i<lv.length:=λq=>z ⟨hi,q⟩;lia)]at hl;cases hl
 cases e with
 |dget a b=>
  by_cases q:∃j i w,a=.var j/\b=.idx (.var i) (.neg (.lit w))
  .obtain ⟨j,i0,w0,rfl,rfl⟩:=q;show ∃A',Inv lo RR m de (Vl.aR [j] lv) env A'/\_;obtain⟨A1,I1,K1,h1,_,h3⟩:=Inv.downs [j] I;refine⟨A1,I1,K1,λk hk=>h3 k (λz=>hk (by
    have z:k=j:=by simpa using z
    subst z;show k∈k::zt (.idx (.var i0) (.neg (.lit w0)))
    simp)),ag.own ?_ (λd=>rfl)⟩
   show ag _ m ((af cl (.var j) env m).bind λx m1=>(af cl (.idx (.var i0) (.neg (.lit w0))) env m1).bind λy m2=>gB x y m2) ((ak cd (.var j) de).bind λx=>(ak cd (.idx (.var i0) (.neg (.lit w0))) de).bind λy=>v9 x y);refine(zh H.r (.var j) _ m de env (jn I1 λi hi l hl=>?_)).bind λd w m1 l1 r1=>?_
   .have hi:i=j:=by simpa using hi
    subst hi;rw[yZ]at hl;split at hl
    .cases hl;rfl
    .next z=>rw[Ql (by have:¬i<lv.length:=λq=>z ⟨by simp,q⟩;lia)]at hl;cases hl
   .have hb:=zh H.r (.idx (.var i0) (.neg (.lit w0))) RR m1 de env ((I1.ext l1).envR _);cases z2:ak cd (.idx (.var i0) (.neg (.lit w0))) de with
    |no=>trivial
    |exc c d2=>
     exfalso;have hx:∀(x y:Dat) (c:Nat) (d:Dat),zQ x y≠.exc c d:=λx y c d z=>by
      unfold zQ at z
      repeat' split at z
      all_goals cases z
     have:(ak cd (.var i0) de).bind (λx=>(ak cd (.neg (.lit w0)) de).bind λy=>zQ x y)=.exc c d2:=z2;cases e1:ak cd (.var i0) de with
     |no=>rw[e1]at this;cases this
     |exc _ _=>
      have e1:(match de[i0]? with|some (some d)=>Rd.ok d|_=>.no)=_:=e1;split at e1<;>cases e1
     |ok x=>
      rw[e1]at this;cases e2:ak cd (.neg (.lit w0)) de with
      |no=>
       have this:(ak cd (.neg (.lit w0)) de).bind (λy=>zQ x y)=.exc c d2:=this;rw[e2]at this;cases this
      |exc _ _=>
       have e2:(ak cd (.lit w0) de).bind (λx=>match x with |.int i=>Rd.ok (.int (-i))|_=>.no)=_:=e2;cases e3:ak cd (.lit w0) de with
       |no=>rw[e3]at e2;cases e2
       |exc _ _=>
        have e3:(match rS w0 with|some d=>Rd.ok d|none=>.no)=_:=e3;split at e3<;>cases e3
       |ok z=>
        rw[e3]at e2;have e2:(match z with |.int i=>Rd.ok (.int (-i))|_=>.no)=_:=e2;split at e2<;>cases e2
      |ok y=>
       have this:(ak cd (.neg (.lit w0)) de).bind (λy=>zQ x y)=.exc c d2:=this;rw[e2]at this;exact hx x y c d2 this
    |ok d2=>
     rw[z2]at hb;obtain⟨w2,m2,e2,l2,r2⟩:=hb;rw[e2];cases hk:wP d2 with
     |none=>
      have:v9 d d2=.no:=by
       cases d with
       |dct ks ds=>show(match (wP d2).bind (dD ks ds)with|some v=>Rd.ok v|none=>.no)=_;rw[hk];rfl
       |_=>rfl
      show ag _ _ _ (v9 d d2);rw[this];trivial
     |some k=>
      have fl:aw d2=true:=by
       cases d2 with
       |tup ds=>
        have hk:xP ds=some k:=hk;show aY ds=true;clear r2 z2
        induction ds generalizing k with
        |nil=>rfl
        |cons x r ih=>
         cases x with
         |int i=>
          obtain⟨k',e,rfl⟩:=QK.mp (show(xP r).map (i::·)=some k from hk);show(aw (.int i)&&aY r)=true;rw[ih _ e e];rfl
         |_=>cases hk
       |_=>cases hk
      have r3:ai (λ_=>False) m2 d2 w2:=bj.rep d2 w2 [] (by simp) (ai.flat (m':=m2) d2 w2 fl r2);exact ag.lift l2 (AF (ai.frame (λl o r z=>⟨.inl r,l2 l o z⟩) _ _ r1) (ai.frame (λl o r z=>⟨.inl (by cases r),z⟩) _ _ r3))
  .refine gen ?_;unfold yB;split
   .next e=>cases e
   .next e=>cases e;exact M8 ⟨_,_,_,rfl,rfl⟩ q
   .rfl
 |idx a b=>
  cases a with
  |var j=>
   show ∃A',Inv lo RR m de (Vl.cr de j (Vl.aR (zt b) lv)) env A'/\_;obtain⟨A1,I1,K1,h1,h2,h3⟩:=Inv.downs (zt b) I;obtain⟨A2,I2,K2,g1,g2⟩:=I1.topD j;have hne:∀k,k∉zt (.idx (.var j) b)->A2 k=A k:=by
    intro k hk
    replace hk:k∉j::zt b:=hk
    rw[Qp,not_or]at hk;rw[g1 k hk.1,h3 k hk.2]
   refine⟨A2,I2,K1.trans K2,hne,?_⟩;have lvno:∀i,i∈zt b->i≠j->∀l,(Vl.cr de j (Vl.aR (zt b) lv))[i]?=some l->l=.no:=by
    intro i hi hij l hl;rw[ul _ _ _ hij,yZ]at hl;split at hl
    .cases hl;rfl
    .next z=>rw[Ql (by have:¬i<lv.length:=λq=>z ⟨hi,q⟩;lia)]at hl;cases hl
   rcases g2 with⟨ds,l,xs,hd,hA,he,hm,hr⟩|g2
   .have hjb:j∉zt b:=λz=>by
     have h0:=h1 j z;have hx:l∈A1 j:=by
      have i1:=I1;by_cases q:l∈A1 j
      .exact q
      .exfalso;have:=(K2.1 l _ (λk hk=>?_) hm).1 j
       .rw[hA]at this;exact this (by simp)
       .by_cases ek:k=j
        .rw[ek]at hk;exact q hk
        .have e1:=g1 k ek;rw[<-e1]at hk;exact ek (I2.dj k j l hk (by rw[hA];simp))
     rw[h0]at hx;cases hx
    refine ag.own ?_ (λd=>rfl);show ag _ m ((af cl (.var j) env m).bind λx m1=>(af cl b env m1).bind λy m2=>jx x y m2) ((ak cd (.var j) de).bind λx=>(ak cd b de).bind λy=>zQ x y);have e1:af cl (.var j) env m=.ok (.ref l) m:=jS he m;have e2:ak cd (.var j) de=.ok (.lst ds):=xz hd;rw[e1,e2];simp only[Rz.bind,Rd.bind];refine(zh H.r b _ m de env (jn I2 λi hi=>lvno i hi (λe=>hjb (by rw[<-e];exact hi)))).bind λd2 w2 m2 l2 k2=>?_;exact F9 (hr.up _ l2) (l2 l _ hm) k2
   .refine wp H _ _ m de env (jn I2 λi hi l hl=>?_)
    replace hi:i∈j::zt b:=hi
    rw[Qp]at hi;by_cases e:i=j
    .rw[e]at hl;rcases g2 with g2|g2
     .rw[g2]at hl;cases hl;rfl
     .have:(Vl.cr de j (Vl.aR (zt b) lv)).length=(Vl.aR (zt b) lv).length:=by rw[I2.lvl,I1.lvl]
      rw[Ql (by lia)]at hl;cases hl
    .rcases hi with z|z
     .exact M8 z e
     .exact lvno i z e l hl
  |_=>exact gen rfl
 |_=>exact gen rfl
def aL(lo:Nat)(RR:Nat->Prop)(A:Nat->List Nat)(m:Me)(r:Rs)(rd:bZ):Prop:=match rd with
 |.next de lv=>∃env m' A',r=.next env m'/\Inv lo RR m' de lv env A'/\bi A m A' m'
 |.brk de lv=>∃env m' A',r=.brk env m'/\Inv lo RR m' de lv env A'/\bi A m A' m'
 |.cont de lv=>∃env m' A',r=.cont env m'/\Inv lo RR m' de lv env A'/\bi A m A' m'
 |.ret d l=>∃w m' B,r=.ret w m'/\((∀(x:Nat) o,(∀i,x∉A i)->m[x]?=some o->m'[x]?=some o)/\m.length<=m'.length)/\bx (λx=>RR x/\x∉B) m' l d w B/\B.Nodup/\∀b∈B,lo<=b
 |.exc c d=>∃w e m',r=.exc c w e m'/\((∀(x:Nat) o,(∀i,x∉A i)->m[x]?=some o->m'[x]?=some o)/\m.length<=m'.length)/\ai RR m' d w
 |.no=>True
set_option tactic.hygienic true in
def aL.keep{lo:Nat}{RR:Nat->Prop}{A A1:Nat->List Nat}{m m1:Me}{r:Rs}{rd:bZ}(K:bi A m A1 m1)(h:aL lo RR A1 m1 r rd):aL lo RR A m r rd:=by
 cases rd with
 |next de lv=>obtain⟨e,m',A',h,I,k⟩:=h;exact⟨e,m',A',h,I,K.trans k⟩
 |brk de lv=>obtain⟨e,m',A',h,I,k⟩:=h;exact⟨e,m',A',h,I,K.trans k⟩
 |cont de lv=>obtain⟨e,m',A',h,I,k⟩:=h;exact⟨e,m',A',h,I,K.trans k⟩
 |ret d l=>obtain⟨w,m',B,h,k,z⟩:=h;exact⟨w,m',B,h,⟨λx o a b=>k.1 x o (K.1 x o a b).1 (K.1 x o a b).2,Qr K.2 k.2⟩,z⟩
 |exc c d=>obtain⟨w,e,m',h,k,z⟩:=h;exact⟨w,e,m',h,⟨λx o a b=>k.1 x o (K.1 x o a b).1 (K.1 x o a b).2,Qr K.2 k.2⟩,z⟩
 |no=>trivial
def Inv.rf (I:Inv lo RR m de lv env A)(h:ai (Rf RR m.length) m' d w):ai RR m' d w:=
 ai.frame (λx o r z=>⟨by rcases r with r|r;exact r;exact I.rr x (Qr I.lom r),z⟩) d w h
def Inv.bindE (H:bK cl cd)(I:Inv lo RR m de lv env A)(e:Ex)(k:∀d w m1,ak cd e de=.ok d->af cl e env m=.ok w m1->Le m m1->ai RR m1 d w->aL lo RR A m1 (f w m1) (g d)):aL lo RR A m ((af cl e env m).bindS env f) ((ak cd e de).bindS g):=by
 have h:=zh H e RR m de env (I.envR _);cases z:ak cd e de with
 |no=>trivial
 |exc c d=>
  rw[z]at h;obtain⟨w,m',h,l,r⟩:=h;rw[h];exact⟨w,env,m',rfl,⟨λx o _ b=>l x o b,l.len⟩,I.rf r⟩
 |ok d=>
  rw[z]at h;obtain⟨w,m',h,l,r⟩:=h;have:=k d w m' z h l (I.rf r);rw[h];exact aL.keep (vk l) this
def Inv.own (H:bJ lev cl cd)(I:Inv lo RR m de lv env A)(h1:ak cd e de=.ok d)(h2:af cl e env m=.ok w m1):
  ∃B,bx (λx=>RR x/\x∉B) m1 (aV lev e d) d w B/\B.Nodup/\∀b∈B,m.length<=b:=by
 have h:=wp H e RR m de env (I.envR _);rw[h1]at h;obtain⟨w',m',B,h3,l,r,nd,hB⟩:=h;rw[h2]at h3;cases h3;exact⟨B,r.frame (λx o r z=>⟨⟨by rcases r.1 with r|r;exact r;exact I.rr x (Qr I.lom r),r.2⟩,z⟩) (λ_ _ _ z=>z),nd,hB⟩
section
variable{lev:Nat->Lv}{cl:Nat->List Wd->Me->Rz}{cd:Nat->List Dat->Rd}{lo:Nat}{RR:Nat->Prop}{m:Me}{de:aO}{lv:List Lv}{env:En}{A:Nat->List Nat}
set_option tactic.hygienic true in
def kh (h:x8 de j=some ds):de[j]?=some (some (.lst ds)):=by
 unfold x8 at h;split at h
 .next z=>cases h;exact z
 .cases h
def vE (h:env[j]?=some (some w))(m:Me):af cl (.var j) env m=.ok w m:=by
 exact jS h m
def Eb(H:bJ lev cl cd)(I:Inv lo RR m de lv env A)(i:Nat)(e:Ex):aL lo RR A m (bC cl (.asg i e) env m) (aH lev cd (.asg i e) de lv):=by
 have h:aL lo RR A m ((af cl e env m).bindS env λw m1=>.next (env.set i (some w)) m1) ((ak cd e de).bindS λd=>vB lev i e d de lv):=by
  cases z:ak cd e de with
  |no=>trivial
  |exc c d=>
   have:=I.bindE H.r e (f:=λw m1=>.next (env.set i (some w)) m1) (g:=λd=>.no) (λ_ _ _ _ _ _ _=>trivial);rw[z]at this;exact this
  |ok d=>
   show aL lo RR A m _ (vB lev i e d de lv);unfold vB;by_cases f:aV lev e d=.full
   .rw[M6 f];have h:=wp H e RR m de env (I.envR _);rw[z]at h;obtain⟨w,m1,B,h2,l,r,nd,hB⟩:=h;rw[h2];rw[f]at r;obtain⟨I',K⟩:=I.store l i (l:=.full) (d:=d) (w:=w) (B:=B) r nd hB;exact⟨_,_,_,rfl,I',K⟩
   .rw[M7 f];obtain⟨A1,I1,K1,_,h⟩:=I.relEv H e;rw[z]at h;obtain⟨w,m1,B,h2,l,r,nd,hB⟩:=h;rw[h2];obtain⟨I',K⟩:=I1.store l i (l:=aV lev e d) (d:=d) (w:=w) (B:=B) r nd hB;exact⟨_,_,_,rfl,I',K1.trans K⟩
 exact h
set_option tactic.hygienic true in
def AD (H:bJ lev cl cd)(I:Inv lo RR m de lv env A)(hd:de[j]?=some (some (.lst ds)))(h1:ak cd e de=.ok d)(h2:af cl e env m=.ok w m1)(l1:Le m m1)(l2:Le m1 m2)(g:xC lev e d j de lv=some (de1,lv1))(F:List Dat->Dat->List Dat)(G:List Wd->Wd->List Wd)(cF:∀(m m1:Me) (A:Nat->List Nat) (ds:List Dat) (xs:List Wd) (d:Dat) (w:Wd) (B0:List Nat),Le m m1->bj m1 d w B0->B0.Nodup->(∀b∈B0,m.length<=b)->il RR A m m1 ds xs (F ds d) (G xs w))(cM:∀(m:Me) (ds:List Dat) (xs:List Wd) (d:Dat) (w:Wd) (B B0:List Nat),(B++B0).Nodup->aA m ds xs B->bj m d w B0->∃B',aA m (F ds d) (G xs w) B'/\B'.Nodup/\∀b∈B',b∈B\/b∈B0)(cT:∀(R:Nat->Prop) (m:Me) (ds:List Dat) (xs:List Wd) (d:Dat) (w:Wd),ae R m ds xs->ai R m d w->ae R m (F ds d) (G xs w)):
  ∃l xs,env[j]?=some (some (.ref l))/\m2[l]?=some (.lst xs)/\ds.length=xs.length/\∃A',Inv lo RR (m2.set l (.lst (G xs w))) (de1.set j (some (.lst (F ds d)))) lv1 env A'/\bi A m A' (m2.set l (.lst (G xs w))):=by
 have l12:=l1.trans l2;unfold xC at g;split at g
 .cases g
 .next ho=>
  have ho:yg lv j=true:=by simpa using ho
  split at g
  .next f=>
   cases g;obtain⟨B,r,nd,hB⟩:=I.own H h1 h2;rw[f]at r;obtain⟨l,xs,he,hm,hr,put⟩:=I.mut hd ho;have r':bj m2 d w B:=bj.frame d w B (λx _ o z=>l2 x o z) r;refine⟨l,xs,he,l12 l _ hm,hr.len,put m2 _ _ l12 (λ_=>(cF m m2 A ds xs d w B l12 r' nd hB).1) (λ_=>(cF m m2 A ds xs d w B l12 r' nd hB).2)⟩
  .next f=>
   split at g
   .cases g
   .next hj=>
    have share:lv1=(yB e de lv).set j .top->de1=de->∃l xs,env[j]?=some (some (.ref l))/\m2[l]?=some (.lst xs)/\ds.length=xs.length/\∃A',Inv lo RR (m2.set l (.lst (G xs w))) (de1.set j (some (.lst (F ds d)))) lv1 env A'/\bi A m A' (m2.set l (.lst (G xs w))):=by
     rintro rfl rfl;obtain⟨A1,I1,K1,hA1,h⟩:=I.relEv H e;rw[h1]at h;have ho1:yg (yB e de1 lv) j=true:=by unfold yg;rw[Ec e _ _ hj];exact ho
     obtain⟨l,xs,A2,I2,K2,g1,g2,he,hm,hr,hlA⟩:=I1.top j hd ho1;have hs:=h.sim;obtain⟨w',m',h3,_,rw0⟩:=hs;rw[h2]at h3;cases h3;have hjl:j<(yB e de1 lv).length:=by rw[I1.lvl];exact(Qa.mp hd).1
     have ho2:yg ((yB e de1 lv).set j .top) j=true:=by unfold yg;rw[QE,M6 rfl,M6 hjl]
     have hlv:((yB e de1 lv).set j .top)[j]?=some .top:=by rw[QE,M6 rfl,M6 hjl]
     obtain⟨l',xs',he',hm',_,put⟩:=I2.mut hd ho2;rw[he]at he';cases he';rw[hm]at hm';cases hm';obtain⟨A3,I3,K3⟩:=put m2 (F ds d) (G xs w) l12 (λz=>by rw[hlv]at z;cases z) (λ_ q=>by
      refine cT _ m2 ds xs d w (ae.frame (λx o r z=>⟨.inl r,l12 x o z⟩) _ _ q) (ai.frame (λx o r z=>⟨?_,l2 x o z⟩) _ _ rw0);rcases r with r|r
      .left
       refine⟨r.1,λk hk=>?_⟩;by_cases ek:k=j
       .rw[ek,g1]at hk;rw[QO.mp hk]at r;exact r.2 j hlA
       .rw[g2 k ek]at hk;exact r.2 k hk
      .exact .inr r)
     exact⟨l,xs,he,l12 l _ hm,hr.len,A3,I3,(K1.trans K2).trans K3⟩
    split at g
    .next i=>
     split at g
     .next hfull=>
      cases g;have hij:i≠j:=λe=>hj (by rw[e];exact QO.mpr rfl)
      -- the move
      have hdi:de[i]?=some (some d):=by
       exact uy h1
      obtain⟨wi,hei,ri⟩:=I.slot i d .full hdi hfull.1;have:af cl (.var i) env m=.ok wi m:=vE hei m;rw[this]at h2;cases h2;obtain⟨wj,hej,rj⟩:=I.slot j _ .full hd hfull.2;obtain⟨l,xs,B,rfl,hA,hm,r⟩:=bD.mp rj;have hlm:=(Qa.mp hm).1;have nd:=I.nd j;rw[hA]at nd;obtain⟨n0,n1⟩:=QF.mp nd;have nBi:(B++A i).Nodup:=QA.mpr ⟨n1,I.nd i,λx hx y hy e=>by
       subst e;exact hij (I.dj i j x hy (by rw[hA];exact Qh _ hx))⟩
      obtain⟨B',o,nB',hB'⟩:=cM m ds xs d w B (A i) nBi r ri;have lB':l∉B':=λz=>by
       rcases hB' l z with q|q
       .exact n0 q
       .exact hij (I.dj i j l q (by rw[hA];simp))
      have sub:∀x∈l::B',x∈A j\/x∈A i:=by
       intro x hx;rcases Qp.mp hx with rfl|hx
       .left;rw[hA];simp
       .rcases hB' x hx with q|q
        .left;rw[hA];exact Qh _ q
        .exact .inr q
      have hjl:j<de.length:=(Qa.mp hd).1;have hil:i<de.length:=(Qa.mp hdi).1;have ui:aJ (aJ A i []) j (l::B') i=[]:=by rw[zj hij,zm]
      have uo:∀k,k≠i->k≠j->aJ (aJ A i []) j (l::B') k=A k:=λk a b=>by rw[zj b,zj a]
      have ll2:=l2.len;refine⟨l,xs,hej,l2 l _ hm,r.len,aJ (aJ A i []) j (l::B'),?_⟩;refine I.put l2 (j:=j) (l:=l) (xs:=xs) (by rw[hA];simp) _ ?_ ?_ ?_ ?_ (by simp) rfl ?_ ?_
      .intro k x hx
       left
       by_cases e:k=j
       .rw[e,zm]at hx;rcases sub x hx with q|q
        .exact ⟨j,q⟩
        .exact ⟨i,q⟩
       .by_cases f:k=i
        .rw[f,ui]at hx;cases hx
        .rw[uo k f e]at hx;exact⟨k,hx⟩
      .intro k;by_cases e:k=j
       .rw[e,zm];exact QF.mpr ⟨lB',nB'⟩
       .by_cases f:k=i
        .rw[f,ui];simp
        .rw[uo k f e];exact I.nd k
      .have main:∀k x,k≠j->x∈l::B'->x∈aJ (aJ A i []) j (l::B') k->False:=by
        intro k x e hx hk;by_cases f:k=i
        .rw[f,ui]at hk;cases hk
        .rw[uo k f e]at hk;rcases sub x hx with q|q
         .exact e (I.dj k j x hk q)
         .exact f (I.dj k i x hk q)
       intro a b x ha hb;by_cases e:a=j
       .by_cases f:b=j
        .rw[e,f]
        .rw[e,zm]at ha;exact(main b x f ha hb).elim
       .by_cases f:b=j
        .rw[f,zm]at hb;exact(main a x e hb ha).elim
        .by_cases g:a=i
         .rw[g,ui]at ha;cases ha
         .by_cases h:b=i
          .rw[h,ui]at hb;cases hb
          .rw[uo a g e]at ha;rw[uo b h f]at hb;exact I.dj a b x ha hb
      .intro k x hx;by_cases e:k=j
       .rw[e,zm]at hx;rcases sub x hx with q|q
        .exact ⟨(I.bd j x q).1,Qe (I.bd j x q).2 ll2⟩
        .exact ⟨(I.bd i x q).1,Qe (I.bd i x q).2 ll2⟩
       .by_cases f:k=i
        .rw[f,ui]at hx;cases hx
        .rw[uo k f e]at hx;exact⟨(I.bd k x hx).1,Qe (I.bd k x hx).2 ll2⟩
      .intro k d' lk e g1 g2;rw[Qu (Ne.symm e)]at g1;by_cases f:k=i
       .rw[f,QE,M6 rfl,M6 hil]at g1;cases g1
       .rw[Qu (Ne.symm f)]at g1;exact⟨g1,g2,uo k f e⟩
      .intro d' lj g1 g2;rw[QE,M6 rfl,M6 (by simpa using hjl)]at g1;cases g1;rw[hfull.2]at g2;cases g2;refine⟨_,hej,?_⟩;rw[zm];exact bD.mpr ⟨l,_,B',rfl,rfl,xR (l2 l _ hm),aA.frame _ _ B' (λx hx o z=>by rw[yV (l:=l) (x:=x) (λe=>lB' (by rw[e];exact hx))];exact l2 x o z) o⟩
     .cases g;exact share rfl rfl
    .cases g;exact share rfl rfl
end
section
variable{lev:Nat->Lv}{cl:Nat->List Wd->Me->Rz}{cd:Nat->List Dat->Rd}{lo:Nat}{RR:Nat->Prop}{m:Me}{de:aO}{lv:List Lv}{env:En}{A:Nat->List Nat}
def C7 (h1:af cl o env m=.ok x m1)(h2:af cl e env m1=.ok w m2)(hl:xp x m1=true:=by simp only[xp,aS];simp_all):af cl (.meth n o (.pair e .unit)) env m=dC n x [w] m2:=by
 show(af cl o env m).bind (λx m1=>match xp x m1 with|true=>((af cl e env m1).bind λa m2=>.ok (.tup [a]) m2).bind λy m2=>dC n x (zn y) m2|false=>.no)=_;rw[h1];show(match xp x m1 with|true=>((af cl e env m1).bind λa m2=>.ok (.tup [a]) m2).bind λy m2=>dC n x (zn y) m2|false=>.no)=_;rw[hl,h2];rfl
def uk (h1:af cl o env m=.ok x m1)(hl:xp x m1=true:=by simp only[xp,aS];simp_all):af cl (.meth n o .unit) env m=dC n x [] m1:=by
 show(af cl o env m).bind (λx m1=>match xp x m1 with|true=>dC n x [] m1|false=>.no)=_;rw[h1];show(match xp x m1 with|true=>dC n x [] m1|false=>.no)=_;rw[hl]
def Ea (n:(B++B0).Nodup)(a:aA m ds xs B)(b:bj m d w B0):∃B',aA m (ds++[d]) (xs++[w]) B'/\B'.Nodup/\∀b∈B',b∈B\/b∈B0:=
 ⟨B++(B0++[]),a.app (.cons b .nil),by simpa using n,λx hx=>by simpa using hx⟩
def D9 (p:Nat)(n:(B++B0).Nodup)(a:aA m ds xs B)(b:bj m d w B0):∃B',aA m (ds.set p d) (xs.set p w) B'/\B'.Nodup/\∀b∈B',b∈B\/b∈B0:=by
 cases hp:ds[p]? with
 |none=>
  have h1:ds.length<=p:=QT.mp hp;rw[Wu h1,Wu (by rw[<-a.len];exact h1)];exact⟨B,a,(QA.mp n).1,λb hb=>.inl hb⟩
 |some e=>
  obtain⟨y,B1,Bp,B2,h1,rfl,h3,_,h4⟩:=lY a hp;refine⟨B1++(B0++B2),h4 m d w B0 (λl _ o z=>z) b,?_,?_⟩
  .obtain ⟨q1,q2,q3⟩:=QA.mp n;obtain⟨n1,n2,n3⟩:=QA.mp q1;obtain⟨n4,n5,n6⟩:=QA.mp n2;refine QA.mpr ⟨n1,QA.mpr ⟨q2,n5,λx hx y hy e=>q3 y (by simp[hy]) x hx e.symm⟩,λx hx y hy e=>?_⟩;rcases QL.mp hy with hy|hy
   .exact q3 x (by simp[hx]) y hy e
   .exact n3 x hx y (by simp[hy]) e
  .intro x hx;simp only[QL]at hx ⊢;rcases hx with z|z|z
   .exact .inl (.inl z)
   .exact .inr z
   .exact .inl (.inr (.inr z))
theorem aL.okS{r:Rs}{rd:Rd}{g:Dat->bZ}(h:∀d,rd=.ok d->aL lo RR A m r (g d)):aL lo RR A m r (rd.okS g):=by
 cases rd with
 |ok d=>exact h d rfl
 |_=>trivial
theorem Inv.ok (H:bK cl cd)(I:Inv lo RR m de lv env A)(h:ak cd e de=.ok d)(l:Le m m1):∃w m2,af cl e env m1=.ok w m2/\Le m1 m2/\ai RR m2 d w:=by
 have q:=zh H e RR m1 de env ((I.ext l).envR _);rw[h]at q;obtain⟨w,m2,a,b,c⟩:=q;exact⟨w,m2,a,b,(I.ext l).rf c⟩
def Inv.isRef (I:Inv lo RR m de lv env A){j:Nat}(hd:de[j]?=some (some (.lst ds)))(he:env[j]?=some (some w)):xp w m=true:=by
 obtain⟨lj,hl⟩:=I.getlv hd;obtain⟨w',a,b⟩:=I.slot j _ lj hd hl;rw[he]at a;cases a;obtain⟨l,xs,rfl,_,hm,_⟩:=aD.mp (b.rep (R':=λ_=>True) (λ_ _=>trivial) (λ_ _=>trivial));simp[xp,aS,hm]
set_option tactic.hygienic true in
def F8(H:bJ lev cl cd)(I:Inv lo RR m de lv env A)(j:Nat)(e:Ex):aL lo RR A m (bC cl (.expr (.meth .append (.var j) (.pair e .unit))) env m) (aH lev cd (.expr (.meth .append (.var j) (.pair e .unit))) de lv):=by
 show aL _ _ _ _ ((af cl _ env m).bindS env _) _;refine aL.okS λd h1=>?_;split
 .next ds hl=>
  split
  .next hlim=>
   split
   .next de1 lv1 g=>
    obtain⟨w,m1,h2,l1,r1⟩:=I.ok H.r h1 (Le.refl m);obtain⟨l,xs,he,hm,hlen,A',I',K⟩:=AD H I (kh hl) h1 h2 l1 (Le.refl m1) g (λds d=>ds++[d]) (λxs w=>xs++[w])
     (λ_ _ _ _ _ _ _ _ le o nd hB=>ur le o nd hB) (λ_ _ _ _ _ _ _ n a b=>Ea n a b) (λ_ _ _ _ _ _ a b=>a.app (.cons b .nil))
    rw[C7 (vE he m) h2 (I.isRef (kh hl) he)];have:dC .append (.ref l) [w] m1=.ok .non (m1.set l (.lst (xs++[w]))):=by
     simp only[dC,hm];rw[M6 (by lia)]
    rw[this];exact⟨_,_,A',rfl,I',K⟩
   .trivial
  .trivial
 .trivial
set_option tactic.hygienic true in
def F7(I:Inv lo RR m de lv env A)(j:Nat):aL lo RR A m (bC cl (.expr (.meth .reverse (.var j) .unit)) env m) (aH lev cd (.expr (.meth .reverse (.var j) .unit)) de lv):=by
 show aL _ _ _ _ ((af cl _ env m).bindS env _) (match x8 de j with
   |some ds=>if yg lv j then .next (de.set j (some (.lst ds.reverse))) lv else .no
   |none=>.no)
 split
 .next ds hl=>
  split
  .next ho=>
   obtain⟨l,xs,he,hm,hr,put⟩:=I.mut (kh hl) ho;obtain⟨A',I',K⟩:=put m ds.reverse xs.reverse (Le.refl m) (λ_=>(dN (RR:=RR) (A:=A)).1) (λ_=>dN.2);rw[uk (vE he m)];have:dC .reverse (.ref l) [] m=.ok .non (m.set l (.lst xs.reverse)):=by simp only[dC,hm]
   rw[this];exact⟨_,_,A',rfl,I',K⟩
  .trivial
 .trivial
set_option tactic.hygienic true in
def F6(I:Inv lo RR m de lv env A)(j:Nat):aL lo RR A m (bC cl (.expr (.meth .clear (.var j) .unit)) env m) (aH lev cd (.expr (.meth .clear (.var j) .unit)) de lv):=by
 show aL _ _ _ _ ((af cl _ env m).bindS env _) (match x8 de j with
   |some ds=>if yg lv j then .next (de.set j (some (.lst []))) lv else .no
   |none=>.no)
 split
 .next ds hl=>
  split
  .next ho=>
   obtain⟨l,xs,he,hm,hr,put⟩:=I.mut (kh hl) ho;obtain⟨A',I',K⟩:=put m [] [] (Le.refl m) (λ_=>(dO (RR:=RR) (A:=A)).1) (λ_=>dO.2);rw[uk (vE he m)];have:dC .clear (.ref l) [] m=.ok .non (m.set l (.lst [])):=by simp only[dC,hm]
   rw[this];exact⟨_,_,A',rfl,I',K⟩
  .trivial
 .trivial
set_option tactic.hygienic true in
def D8(H:bJ lev cl cd)(I:Inv lo RR m de lv env A)(i:Nat)(op:Bo)(e:Ex):aL lo RR A m (bC cl (.aug i op e) env m) (aH lev cd (.aug i op e) de lv):=by
 show aL _ _ _ _ _ (match de[i]? with
  |some (some (.int a))=>(ak cd e de).okS λy=>match y with
   |.int b=>(zJ op (.int a) (.int b)).okS λz=>.next (de.set i (some z)) (lv.set i .full)
   |_=>.no
  |_=>.no)
 split
 .next a ha=>
  refine aL.okS λy hy=>?_;split
  .next b=>
   refine aL.okS λz hz=>?_;obtain⟨la,hla⟩:=I.getlv ha;obtain⟨wa,hea,ra⟩:=I.slot i _ la ha hla;have ra':=ra.rep (R':=RR) (λ_ z=>z.1) (λx hx=>I.rr x (I.bd i x hx).1);rw[aa.mp ra']at hea;show aL _ _ _ _ (match env[i]? with
    |some (some x)=>(af cl e env m).bindS env λy m1=>iy op x y m1 env λz m2=>.next (env.set i (some z)) m2
    |_=>.no) _
   rw[hea];obtain⟨w,m1,h2,l1,r1⟩:=I.ok H.r hy (Le.refl m);rw[aa.mp r1]at h2;simp only[h2,Rz.bindS,iy];have hs:=qp (R:=RR) (m:=m1) op (d:=.int a) (e:=.int b) (aa.mpr rfl) (aa.mpr rfl);rw[hz]at hs;obtain⟨w3,m3,h3,l3,r3⟩:=hs;rw[h3];have fz:aw z=true:=by
    cases op<;>simp only[zJ]at hz
    .cases hz;rfl
    .cases hz;rfl
    all_goals (split at hz<;>(cases hz;try rfl))
   obtain⟨I',K⟩:=I.store (l1.trans l3) i (l:=.full) (d:=z) (w:=w3) (B:=[]) (r3.flat z w3 fz) QB (by simp);exact⟨_,_,_,rfl,I',K⟩
  .trivial
 .trivial
end
section
variable{lev:Nat->Lv}{cl:Nat->List Wd->Me->Rz}{cd:Nat->List Dat->Rd}{lo:Nat}{RR:Nat->Prop}{m:Me}{de:aO}{lv:List Lv}{env:En}{A:Nat->List Nat}
mutual
theorem ai.avoid{R R':Nat->Prop}{m:Me}{D:Dat}{l:Nat}(hD:ai R' m D (.ref l)):∀(d:Dat) (w:Wd),dZ d<dZ D->ai R m d w->ai (λx=>R x/\x≠l) m d w
 |.non,w,h,q=>ao.mpr (ao.mp q)
 |.bl _,w,h,q=>ah.mpr (ah.mp q)
 |.int _,w,h,q=>aa.mpr (aa.mp q)
 |.str _,w,h,q=>aB.mpr (aB.mp q)
 |.scr _,w,h,q=>ba.mpr (ba.mp q)
 |.tup ds,w,h,q=>by
  obtain⟨xs,rfl,q1⟩:=aj.mp q;exact aj.mpr ⟨xs,rfl,ae.avoid hD ds xs (by rw[show dZ (.tup ds)=dg ds+1 from by simp[dZ]]at h;lia) q1⟩
 |.lst ds,w,h,q=>by
  obtain⟨k,xs,rfl,r,hm,q1⟩:=aD.mp q;refine aD.mpr ⟨k,xs,rfl,⟨r,λe=>?_⟩,hm,ae.avoid hD ds xs (by rw[show dZ (.lst ds)=dg ds+1 from by simp[dZ]]at h;lia) q1⟩;subst e;have:=ai.det _ _ _ q hD;rw[this]at h;lia
 |.dct ks ds,w,h,q=>by
  obtain⟨k,xs,rfl,r,hm,q1⟩:=bo.mp q;refine bo.mpr ⟨k,xs,rfl,⟨r,λe=>?_⟩,hm,ae.avoid hD ds xs (by rw[show dZ (.dct ks ds)=dg ds+1 from by simp[dZ]]at h;lia) q1⟩;subst e;have:=ai.det _ _ _ q hD;rw[this]at h;lia
theorem ae.avoid{R R':Nat->Prop}{m:Me}{D:Dat}{l:Nat}(hD:ai R' m D (.ref l)):∀(ds:List Dat) (xs:List Wd),dg ds<dZ D->ae R m ds xs->ae (λx=>R x/\x≠l) m ds xs
 |[],xs,h,q=>by rw[q.nil_inv];exact .nil
 |d::ds,xs,h,q=>by
  obtain⟨x,r,rfl,a,b⟩:=q.cons_inv;unfold dg at h;exact .cons (ai.avoid hD d x (by lia) a) (ae.avoid hD ds r (by lia) b)
end
def tj (hm:m[l]?=some (.lst xs))(hk:ix xs.length k=some p):qe (.ref l) (.int k) w m=.ok .non (m.set l (.lst (xs.set p w))):=by
 simp[qe,hm,hk]
set_option tactic.hygienic true in
def F5(H:bJ lev cl cd)(I:Inv lo RR m de lv env A)(j:Nat)(k e:Ex):aL lo RR A m (bC cl (.asgS (.var j) k e) env m) (aH lev cd (.asgS (.var j) k e) de lv):=by
 show aL _ _ _ _ ((af cl e env m).bindS env _) _;refine aL.okS λd h1=>aL.okS λkv hk=>?_;unfold mh;split
 .next k' ds hl=>
  have hd:=kh hl;split
  .next p hp=>
   obtain⟨w,m1,h2,l1,r1⟩:=I.ok H.r h1 (Le.refl m);obtain⟨wk,m2,h3,l2,r3⟩:=I.ok H.r hk l1;rw[aa.mp r3]at h3;split
   .next de1 lv1 g=>
    obtain⟨l,xs,he,hm,hlen,A',I',K⟩:=AD H I hd h1 h2 l1 l2 g (λds d=>ds.set p d) (λxs w=>xs.set p w)
     (λ_ _ _ _ _ _ _ _ le o nd hB=>um p le o nd hB) (λ_ _ _ _ _ _ _ n a b=>D9 p n a b) (λ_ _ _ _ _ _ a b=>a.set p b)
    simp only[h2,Rz.bindS,vE he m1,h3,tj hm (by rw[<-hlen];exact hp)];exact⟨_,_,A',rfl,I',K⟩
   .next g=>
    split
    .next c=>
     simp only[Qq,Nc]at c;obtain⟨⟨ho,hdep⟩,_⟩:=c;obtain⟨l,xs,A0,I0,K0,g1,g2,he,hm,hr,hlA⟩:=I.top j hd ho;obtain⟨A1,I1,K1,q1,q2,q3⟩:=Inv.downs ((zt e).filter (·≠j)) I0;have hA1j:A1 j=[l]:=by rw[q3 j (by simp),g1]
     have elv:aR ((zt e).filter (·≠j)) (lv.set j .top)=(aR (zt e) lv).set j .top:=by
      apply We;intro i;rw[yZ,QE];by_cases ei:j=i
      .subst ei;rw[M7 (by simp),M6 rfl,QE,M6 rfl,bA]
      .rw[M7 ei,Qu ei,yZ,Q5];have:(i∈(zt e).filter (·≠j))↔i∈zt e:=by simp[Vp];intro _;exact λz=>ei z.symm
       simp only[this]
     rw[elv]at I1;have lno:∀i∈zt e,i≠j->∀x,((aR (zt e) lv).set j .top)[i]?=some x->x=.no:=by
      intro i hi hij x hx;rw[Qu (Ne.symm hij),yZ]at hx;split at hx
      .cases hx;rfl
      .next z=>rw[Ql (by have:¬i<lv.length:=λq=>z ⟨hi,q⟩;lia)]at hx;cases hx
     have hr1:ae (xh RR A1) m ds xs:=(K1.repL hr);have env1:bU (λx=>xh RR A1 x\/x=l) m (zt e) de env:=by
      refine⟨I1.len,λi hi d' hd'=>?_⟩;by_cases ei:i=j
      .subst ei;rw[hd]at hd';cases hd';exact⟨_,he,aD.mpr ⟨l,xs,rfl,.inr rfl,hm,ae.frame (λx o r z=>⟨.inl r,z⟩) _ _ hr1⟩⟩
      .obtain ⟨li,hli⟩:=I1.getlv hd';obtain⟨w',a,b⟩:=I1.slot i d' li hd' hli;rw[lno i hi ei li hli]at b;exact⟨w',a,ai.frame (λx o r z=>⟨.inl r,z⟩) _ _ b.1⟩
     have hs:=zh H.r e _ m de env env1;rw[h1]at hs;obtain⟨w',m1',h2',_,rw1⟩:=hs;rw[h2]at h2';cases h2';have rwa:=ai.avoid (D:=.lst ds) (l:=l) (R':=λ_=>True) (m:=m1) (aD.mpr ⟨l,xs,rfl,trivial,l1 l _ hm,ae.frame (λx o r z=>⟨trivial,l1 x o z⟩) _ _ hr1⟩) d w hdep rw1;have hlm:=(Qa.mp hm).1;have hjl:j<lv.length:=by rw[I.lvl];exact(Qa.mp hd).1
     have hlv:((aR (zt e) lv).set j .top)[j]?=some .top:=by rw[QE,M6 rfl,M6 (by rw[bA];exact hjl)]
     obtain⟨l',xs',he',hm',hrr,put⟩:=I1.mut hd (by unfold yg;rw[hlv]);rw[he]at he';cases he';rw[hm]at hm';cases hm';obtain⟨A3,I3,K3⟩:=put m2 (ds.set p d) (xs.set p w) (l1.trans l2) (λz=>by rw[hlv]at z;cases z) (λ_ q=>by
      refine ae.set (ae.frame (λx o r z=>⟨.inl r,(l1.trans l2) x o z⟩) _ _ q) p (ai.frame (λx o r z=>⟨?_,l2 x o z⟩) _ _ rwa);rcases r.1 with (r1|r1)|r1
      .exact .inl r1
      .exact M8 r1 r.2
      .exact .inr r1)
     simp only[h2,Rz.bindS,vE he m1,h3,tj (l2 l _ (l1 l _ hm)) (by rw[<-hr.len];exact hp)];exact⟨_,_,A3,rfl,I3,(K0.trans K1).trans K3⟩
    .trivial
  .trivial
 .trivial
end
theorem kZ(q:List Int):∀(ks:List (List Int)) (n:Nat),(∃p,∀(α:Type) (zs:List α) (v:α),zs.length=n->yx ks zs q v=zs.set p v)\/∀(α:Type) (zs:List α) (v:α),zs.length=n->yx ks zs q v=zs++[v]
 |[],n=>.inr λα zs v _=>by cases zs<;>rfl
 |k::ks,0=>.inr λα zs v h=>by
  cases zs with
  |nil=>rfl
  |cons _ _=>cases h
 |k::ks,n+1=>by
  by_cases e:k=q
  .refine .inl ⟨0,λα zs v h=>?_⟩;cases zs with
   |nil=>cases h
   |cons z zs=>show(if k=q then v::zs else _)=_;rw[M6 e];rfl
  .rcases kZ q ks n with⟨p,h⟩|h
   .refine .inl ⟨p+1,λα zs v hz=>?_⟩;cases zs with
    |nil=>cases hz
    |cons z zs=>show(if k=q then _ else z::yx ks zs q v)=_;rw[M7 e,h α zs v (by simpa using hz)];rfl
   .refine .inr λα zs v hz=>?_;cases zs with
    |nil=>cases hz
    |cons z zs=>show(if k=q then _ else z::yx ks zs q v)=_;rw[M7 e,h α zs v (by simpa using hz)];rfl
def D7 (ks:List (List Int))(q:List Int)(hlen:ds.length=xs.length)(le:Le m m1)(o:bj m1 d w B0)(nd:B0.Nodup)(hB:∀b∈B0,m.length<=b):il RR A m m1 ds xs (yx ks ds q d) (yx ks xs q w):=by
 rcases kZ q ks ds.length with⟨p,h⟩|h
 .rw[h _ ds d rfl,h _ xs w hlen.symm];exact um p le o nd hB
 .rw[h _ ds d rfl,h _ xs w hlen.symm];exact ur le o nd hB
def Inv.mutD (I:Inv lo RR m de lv env A)(hd:de[j]?=some (some (.dct ks ds)))(hl:lv[j]?=some .full):
  ∃l xs,env[j]?=some (some (.ref l))/\m[l]?=some (.dct ks xs)/\ds.length=xs.length/\∀(m1:Me) (ks':List (List Int)) (ds':List Dat) (ys:List Wd),Le m m1->rR m m1 ds xs ds' ys ->
   ∃A1,Inv lo RR (m1.set l (.dct ks' ys)) (de.set j (some (.dct ks' ds'))) lv env A1/\bi A m A1 (m1.set l (.dct ks' ys)):=by
 obtain⟨w,a,b⟩:=I.slot j _ .full hd hl;have hjl:j<de.length:=(Qa.mp hd).1;obtain⟨l,xs,B,rfl,hA,hm,r⟩:=bW.mp b;have hlm:=(Qa.mp hm).1;have nd:=I.nd j;rw[hA]at nd;refine⟨l,xs,a,hm,r.len,λm1 ks' ds' ys le c=>?_⟩;obtain⟨B',o,nb,hB⟩:=c B (QF.mp nd).2 r;have hlB:l∉B':=λz=>by
  rcases hB l z with z|z
  .exact (QF.mp nd).1 z
  .lia
 have sub:∀x∈l::B',x∈A j\/m.length<=x:=by
  intro x hx;rcases Qp.mp hx with rfl|hx
  .left;rw[hA];simp
  .rcases hB x hx with z|z
   .left;rw[hA];exact Qh _ z
   .exact .inr z
 refine⟨aJ A j (l::B'),?_⟩;refine I.putO le (j:=j) (l:=l) (by rw[hA];simp) _ ?_ ?_ ?_ ?_ (by simp) rfl ?_ ?_
 .intro k x hx;by_cases e:k=j
  .subst e;rw[zm]at hx;rcases sub x hx with z|z
   .exact .inl ⟨k,z⟩
   .exact .inr z
  .rw[zj e]at hx;exact .inl ⟨k,hx⟩
 .intro k;by_cases e:k=j
  .subst e;rw[zm];exact QF.mpr ⟨hlB,nb⟩
  .rw[zj e];exact I.nd k
 .intro i k x h1 h2;by_cases e:i=j
  .by_cases f:k=j
   .rw[e,f]
   .rw[e,zm]at h1;rw[zj f]at h2;rcases sub x h1 with z|z
    .rw[e];exact I.dj j k x z h2
    .have:=(I.bd k x h2).2;lia
  .rw[zj e]at h1;by_cases f:k=j
   .rw[f,zm]at h2;rcases sub x h2 with z|z
    .rw[f];exact I.dj i j x h1 z
    .have:=(I.bd i x h1).2;lia
   .rw[zj f]at h2;exact I.dj i k x h1 h2
 .intro k x hx;by_cases e:k=j
  .rw[e,zm]at hx;rcases Qp.mp hx with rfl|hx
   .exact ⟨(I.bd j _ (by rw[hA];simp)).1,Qe hlm le.len⟩
   .refine ⟨?_,aA.lt ds' ys B' o x hx⟩;rcases hB x hx with z|z
    .exact (I.bd j x (by rw[hA];exact Qh _ z)).1
    .exact Qr I.lom z
  .rw[zj e]at hx;exact⟨(I.bd k x hx).1,Qe (I.bd k x hx).2 le.len⟩
 .intro k d lk e h1 h2;rw[Qu (Ne.symm e)]at h1;exact⟨h1,h2,zj e⟩
 .intro d lj h1 h2;rw[QE,M6 rfl,M6 hjl]at h1;cases h1;rw[hl]at h2;cases h2;refine⟨_,a,?_⟩;rw[zm];exact bW.mpr ⟨l,ys,B',rfl,rfl,xR (le l _ hm),aA.frame ds' ys B' (λx hx o z=>by rw[yV (l:=l) (x:=x) (λe=>hlB (by rw[e];exact hx))];exact z) o⟩
section
variable{lev:Nat->Lv}{cl:Nat->List Wd->Me->Rz}{cd:Nat->List Dat->Rd}{lo:Nat}{RR:Nat->Prop}{m:Me}{de:aO}{lv:List Lv}{env:En}{A:Nat->List Nat}
set_option tactic.hygienic true in
def F4(H:bJ lev cl cd)(I:Inv lo RR m de lv env A)(j:Nat)(k e:Ex):aL lo RR A m (bC cl (.dput j k e) env m) (aH lev cd (.dput j k e) de lv):=by
 show aL _ _ _ _ ((af cl e env m).bindS env _) _;refine aL.okS λd h1=>aL.okS λkv hk=>?_;split
 .next ks ds q hd hq=>
  split
  .next c=>
   obtain⟨c1,c2,c3⟩:=c;obtain⟨w,m1,h2,l1,r1⟩:=I.ok H.r h1 (Le.refl m);obtain⟨wk,m2,h3,l2,r3⟩:=I.ok H.r hk l1;obtain⟨B,ro,nd,hB⟩:=I.own H h1 h2;rw[c2]at ro;have ro:bj m1 d w B:=ro;obtain⟨l,xs,he,hm,hlen,put⟩:=I.mutD hd c1;obtain⟨A1,I1,K1⟩:=put m2 (wS ks q) (yx ks ds q d) (yx ks xs q w) (l1.trans l2) (D7 (RR:=RR) (A:=A) ks q hlen (l1.trans l2) (bj.frame d w B (λx _ o z=>l2 x o z) ro) nd hB).1;rw[h2];show aL _ _ _ _ ((af cl (.var j) env m1).bindS env _) _;rw[vE he m1];show aL _ _ _ _ ((af cl k env m1).bindS env _) _;rw[h3];have e2:gC (.ref l) wk w m2=.ok .non (m2.set l (.dct (wS ks q) (yx ks xs q w))):=by
    unfold gC;simp only[(l1.trans l2) l _ hm,AG r3 hq,M6 c3]
   show aL _ _ _ _ ((gC (.ref l) wk w m2).bindS env _) _;rw[e2];exact⟨env,_,A1,rfl,I1,K1⟩
  .trivial
 .trivial
end
section
variable{lev:Nat->Lv}{cl:Nat->List Wd->Me->Rz}{cd:Nat->List Dat->Rd}{lo:Nat}{RR:Nat->Prop}
set_option tactic.hygienic true in
def Inv.bindSlot{m:Me}{de:aO}{lv:List Lv}{env:En}{A:Nat->List Nat}(I:Inv lo RR m de lv env A)(i:Nat){d:Dat}{w:Wd}(h:ai (xh RR A) m d w):Inv lo RR m (de.set i (some d)) (lv.set i (aT d)) (env.set i (some w)) (aJ A i [])/\bi A m (aJ A i []) m:=by
 refine I.store (Le.refl m) i (B:=[]) ?_ QB (by simp);unfold aT;split
 .next f=>exact h.flat d w f
 .exact ⟨ai.frame (λx o r z=>⟨⟨.inl r,by simp⟩,z⟩) _ _ h,rfl⟩
set_option tactic.hygienic true in
theorem vm (hb:∀x w m de lv env A,Inv lo RR m de lv env A->ai (xh RR A) m x w->aL lo RR A m (bw w env m) (bd x de lv)):
  ∀(ds:List Dat) (xs:List Wd) (m:Me) (de:aO) (lv:List Lv) (env:En) (A:Nat->List Nat),Inv lo RR m de lv env A->ae (xh RR A) m ds xs->aL lo RR A m (wM bw xs env m) (yY bd ds de lv)
 |[],xs,m,de,lv,env,A,I,r=>by
  rw[r.nil_inv];exact⟨env,m,A,rfl,I,bi.refl A m⟩
 |d::ds,xs,m,de,lv,env,A,I,r=>by
  obtain⟨x,xs,rfl,a,b⟩:=r.cons_inv;have h:=hb d x m de lv env A I a;unfold wM yY;cases z:bd d de lv with
  |next d1 l1=>
   rw[z]at h;obtain⟨e1,m1,A1,h1,I1,K1⟩:=h;rw[h1];exact aL.keep K1 (vm hb ds xs m1 d1 l1 e1 A1 I1 (K1.repL b))
  |cont d1 l1=>
   rw[z]at h;obtain⟨e1,m1,A1,h1,I1,K1⟩:=h;rw[h1];exact aL.keep K1 (vm hb ds xs m1 d1 l1 e1 A1 I1 (K1.repL b))
  |brk d1 l1=>
   rw[z]at h;obtain⟨e1,m1,A1,h1,I1,K1⟩:=h;rw[h1];exact⟨e1,m1,A1,rfl,I1,K1⟩
  |ret d l=>
   rw[z]at h;obtain⟨w,m1,B,h1,k⟩:=h;rw[h1];exact⟨w,m1,B,rfl,k⟩
  |exc c d=>
   rw[z]at h;obtain⟨w,e,m1,h1,k⟩:=h;rw[h1];exact⟨w,e,m1,rfl,k⟩
  |no=>trivial
set_option tactic.hygienic true in
theorem kQ (hb:∀x w m de lv env A,Inv lo RR m de lv env A->ai (xh RR A) m x w->aL lo RR A m (bw w env m) (bd x de lv)):
  ∀(ds:List Dat) (i k:Nat) (m:Me) (de:aO) (lv:List Lv) (env:En) (A:Nat->List Nat),Inv lo RR m de lv env A->(∀k,l∉A k)->m[l]?=some (.lst xs0)->ae (xh RR A) m ds (xs0.drop i)->i+ds.length=xs0.length->ds.length<k->aL lo RR A m (wN bw l k i env m) (yY bd ds de lv)
 |[],i,0,m,de,lv,env,A,I,hl,hm,r,hi,hk=>by simp at hk
 |d::ds,i,0,m,de,lv,env,A,I,hl,hm,r,hi,hk=>by simp at hk
 |[],i,k+1,m,de,lv,env,A,I,hl,hm,r,hi,hk=>by
  unfold wN yY zz;rw[hm];simp only;rw[Ql (by simp at hi;lia)];exact⟨env,m,A,rfl,I,bi.refl A m⟩
 |d::ds,i,k+1,m,de,lv,env,A,I,hl,hm,r,hi,hk=>by
  obtain⟨x,q,e0,a,b⟩:=r.cons_inv;have hx:xs0[i]?=some x:=by
   have:(xs0.drop i)[0]?=some x:=by rw[e0];rfl
   simpa using this
  have hr:q=xs0.drop (i+1):=by
   have:(xs0.drop i).drop 1=q:=by rw[e0];rfl
   rw[<-this,WN]
  rw[hr]at b;have hi':i+1+ds.length=xs0.length:=by simp at hi;lia
  have hk':ds.length<k:=by simp at hk;lia
  have h:=hb d x m de lv env A I a;unfold wN yY zz;rw[hm];simp only;rw[hx];simp only;cases z:bd d de lv with
  |next d1 l1=>
   rw[z]at h;obtain⟨e1,m1,A1,h1,I1,K1⟩:=h;rw[h1];exact aL.keep K1 (kQ hb ds (i+1) k m1 d1 l1 e1 A1 I1 (K1.1 l _ hl hm).1 (K1.1 l _ hl hm).2 (K1.repL b) hi' hk')
  |cont d1 l1=>
   rw[z]at h;obtain⟨e1,m1,A1,h1,I1,K1⟩:=h;rw[h1];exact aL.keep K1 (kQ hb ds (i+1) k m1 d1 l1 e1 A1 I1 (K1.1 l _ hl hm).1 (K1.1 l _ hl hm).2 (K1.repL b) hi' hk')
  |brk d1 l1=>
   rw[z]at h;obtain⟨e1,m1,A1,h1,I1,K1⟩:=h;rw[h1];exact⟨e1,m1,A1,rfl,I1,K1⟩
  |ret d l=>
   rw[z]at h;obtain⟨w,m1,B,h1,k⟩:=h;rw[h1];exact⟨w,m1,B,rfl,k⟩
  |exc c d=>
   rw[z]at h;obtain⟨w,e,m1,h1,k⟩:=h;rw[h1];exact⟨w,e,m1,rfl,k⟩
  |no=>trivial
set_option tactic.hygienic true in
def uj{bw:Wd->En->Me->Rs}{bd:Dat->aO->List Lv->bZ}(H:bJ lev cl cd)(hb:∀x w m de lv env A,Inv lo RR m de lv env A->ai (xh RR A) m x w->aL lo RR A m (bw w env m) (bd x de lv)){m:Me}{de:aO}{lv:List Lv}{env:En}{A:Nat->List Nat}(I:Inv lo RR m de lv env A)(it:Ex):
  aL lo RR A m ((af cl it env m).bindS env λw m1=>fm bw w env m1) ((ak cd it de).bindS λd=>match cS d with
   |some xs=>yY bd xs de (if aw d then lv else yB it de lv)
   |none=>.no):=by
 have run:∀(d:Dat) (w:Wd) (m1:Me) (xs:List Dat) (lv1:List Lv) (A1:Nat->List Nat),cS d=some xs->Inv lo RR m1 de lv1 env A1->ai (xh RR A1) m1 d w->aL lo RR A1 m1 (fm bw w env m1) (yY bd xs de lv1):=by
  intro d w m1 xs lv1 A1 hi I1 r;cases d with
  |tup ds=>cases hi;obtain⟨ys,rfl,r1⟩:=aj.mp r;exact vm hb _ _ _ _ _ _ _ I1 r1
  |scr ns=>cases hi;rw[ba.mp r];exact vm hb _ _ _ _ _ _ _ I1 (fk ns)
  |lst ds=>
   simp only[cS]at hi;split at hi
   .next z=>
    cases hi;obtain⟨l,ys,rfl,hR,hm,r1⟩:=aD.mp r;have:=r1.len;exact kQ hb _ 0 (av+1) m1 de lv1 env A1 I1 hR.2 hm (by simpa using r1) (by lia) (by lia)
   .cases hi
  |_=>cases hi
 cases z:ak cd it de with
 |no=>trivial
 |exc c d=>
  have:=I.bindE H.r it (f:=λw m1=>fm bw w env m1) (g:=λd=>.no) (λ_ _ _ _ _ _ _=>trivial);rw[z]at this;exact this
 |ok d=>
  show aL lo RR A m _ (match cS d with
   |some xs=>yY bd xs de (if aw d then lv else yB it de lv)
   |none=>.no)
  cases hi:cS d with
  |none=>trivial
  |some xs=>
   simp only;split
   .next f=>
    obtain⟨w,m1,h2,l1,r1⟩:=I.ok H.r z (Le.refl m);rw[h2];exact aL.keep (vk l1) (run d w m1 xs lv A hi (I.ext l1) (bj.rep d w [] (by simp) (r1.flat d w f)))
   .obtain ⟨A1,I1,K1,_,h⟩:=I.relEv H it;rw[z]at h;obtain⟨w,m1,h2,l1,r1⟩:=h.sim;rw[h2];refine aL.keep (K1.trans (vk l1)) (run d w m1 xs _ A1 hi (I1.ext l1) (ai.frame (λx o r z=>⟨?_,z⟩) _ _ r1));rcases r with r|r
    .exact r
    .exact ⟨I.rr x (Qr I.lom r),λk hk=>by have:=(I1.bd k x hk).2;lia⟩
set_option tactic.hygienic true in
theorem kR{cw:En->Me->Rz}{bw:En->Me->Rs}{c:aO->Rd}{bd:aO->List Lv->bZ}(hc:∀m de lv env A,Inv lo RR m de lv env A->match c de with |.ok d=>∃w m1,cw env m=.ok w m1/\Le m m1/\ai RR m1 d w |.exc k d=>∃w m1,cw env m=.exc k w m1/\Le m m1/\ai RR m1 d w |.no=>True)
  (hb:∀m de lv env A,Inv lo RR m de lv env A->aL lo RR A m (bw env m) (bd de lv)):∀(k:Nat) (m:Me) (de:aO) (lv:List Lv) (env:En) (A:Nat->List Nat),Inv lo RR m de lv env A->aL lo RR A m (kX cw bw k env m) (yJ c bd k de lv)
 |0,m,de,lv,env,A,I=>trivial
 |k+1,m,de,lv,env,A,I=>by
  have h:=hc m de lv env A I;unfold kX yJ;cases z:c de with
  |no=>trivial
  |exc j d=>
   rw[z]at h;obtain⟨w,m1,h1,l1,r1⟩:=h;rw[h1];exact⟨w,env,m1,rfl,⟨λx o _ b=>l1 x o b,l1.len⟩,r1⟩
  |ok d=>
   rw[z]at h;obtain⟨w,m1,h1,l1,r1⟩:=h;rw[h1];cases d with
   |bl b=>
    rw[ah.mp r1];cases b with
    |false=>exact⟨env,m1,A,rfl,I.ext l1,vk l1⟩
    |true=>
     have h2:=hb m1 de lv env A (I.ext l1);refine aL.keep (vk l1) ?_;simp only;cases z2:bd de lv with
     |next d1 l2=>
      rw[z2]at h2;obtain⟨e1,m2,A1,h3,I1,K1⟩:=h2;rw[h3];exact aL.keep K1 (kR hc hb k m2 d1 l2 e1 A1 I1)
     |cont d1 l2=>
      rw[z2]at h2;obtain⟨e1,m2,A1,h3,I1,K1⟩:=h2;rw[h3];exact aL.keep K1 (kR hc hb k m2 d1 l2 e1 A1 I1)
     |brk d1 l2=>
      rw[z2]at h2;obtain⟨e1,m2,A1,h3,I1,K1⟩:=h2;rw[h3];exact⟨e1,m2,A1,rfl,I1,K1⟩
     |ret d l=>
      rw[z2]at h2;obtain⟨w,m2,B,h3,k⟩:=h2;rw[h3];exact⟨w,m2,B,rfl,k⟩
     |exc c d=>
      rw[z2]at h2;obtain⟨w,e,m2,h3,k⟩:=h2;rw[h3];exact⟨w,e,m2,rfl,k⟩
     |no=>trivial
   |_=>trivial
def Inv.drop{m:Me}{de:aO}{lv:List Lv}{env:En}{A:Nat->List Nat}(I:Inv lo RR m de lv env A)(i:Nat)(hi:i<de.length):Inv lo RR m (de.set i none) (lv.set i .full) env A:=by
 refine⟨by simp[I.len],by simp[I.lvl],I.rr,I.lom,λk d l h1 h2=>?_,I.nd,I.dj,I.bd⟩;by_cases e:i=k
 .subst e;rw[QE,M6 rfl]at h1;split at h1
  .cases h1
  .cases h1
 .rw[Qu e]at h1 h2;exact I.slot k d l h1 h2
set_option tactic.hygienic true in
set_option tactic.hygienic true in
def F3 (H:bJ lev cl cd)(I:Inv lo RR m de lv env A)(i j k:Nat)(e:Ex):aL lo RR A m (bC cl (.unp3 i j k e) env m) (aH lev cd (.unp3 i j k e) de lv):=by
 show aL _ _ _ _ ((af cl e env m).bindS env λw m1=>match dJ i j k w m1 env with
  |some e1=>.next e1 m1
  |none=>.no) ((ak cd e de).bindS λd=>match xc d with
  |some [a,b,c]=>.next (((de.set i (some a)).set j (some b)).set k (some c)) ((((yB e de lv).set i (aT a)).set j (aT b)).set k (aT c))
  |_=>.no)
 cases z:ak cd e de with
 |no=>trivial
 |exc c d=>
  have:=I.bindE H.r e (f:=λw m1=>match dJ i j k w m1 env with
   |some e1=>.next e1 m1
   |none=>.no) (g:=λd=>.no) (λ_ _ _ _ _ _ _=>trivial)
  rw[z]at this;exact this
 |ok d=>
  show aL _ _ _ _ _ (match xc d with
   |some [a,b,c]=>.next (((de.set i (some a)).set j (some b)).set k (some c)) ((((yB e de lv).set i (aT a)).set j (aT b)).set k (aT c))
   |_=>.no)
  split
  .next a b c hs=>
   obtain⟨A1,I1,K1,_,h⟩:=I.relEv H e;rw[z]at h;obtain⟨w,m1,h2,l1,r1⟩:=h.sim;rw[h2];have r:ai (xh RR A1) m1 d w:=by
    refine ai.frame (λx o r z=>⟨?_,z⟩) _ _ r1;rcases r with r|r
    .exact r
    .exact ⟨I.rr x (Qr I.lom r),λk hk=>by have:=(I1.bd k x hk).2;lia⟩
   obtain⟨xs,hq,rl⟩:=vf r hs;obtain⟨x,r2,rfl,ra,rb⟩:=rl.cons_inv;obtain⟨y,r3,rfl,rb1,rc⟩:=rb.cons_inv;obtain⟨u,r4,rfl,rc1,rn⟩:=rc.cons_inv;cases rn.nil_inv;obtain⟨I2,K2⟩:=(I1.ext l1).bindSlot i ra;obtain⟨I3,K3⟩:=I2.bindSlot j (K2.rep rb1);obtain⟨I4,K4⟩:=I3.bindSlot k (K3.rep (K2.rep rc1));refine aL.keep (((K1.trans (vk l1)).trans K2).trans (K3.trans K4)) ?_;show aL _ _ _ _ (match dJ i j k w m1 env with
    |some e1=>.next e1 m1
    |none=>.no) _
   unfold dJ;rw[hq];exact⟨_,_,_,rfl,I4,bi.refl _ _⟩
  .trivial
set_option tactic.hygienic true in
def D6 (H:bJ lev cl cd)(I:Inv lo RR m de lv env A)(e:Ex):aL lo RR A m (bC cl (.ret e) env m) (aH lev cd (.ret e) de lv):=by
 show aL _ _ _ _ ((af cl e env m).bindS env _) ((ak cd e de).bindS _);cases z:ak cd e de with
 |no=>trivial
 |exc c d=>
  have:=I.bindE H.r e (f:=λw m1=>.ret w m1) (g:=λd=>.no) (λ_ _ _ _ _ _ _=>trivial);rw[z]at this;exact this
 |ok d=>
  obtain⟨w,m1,h2,l1,r1⟩:=I.ok H.r z (Le.refl m);rw[h2];show aL lo RR A m (.ret w m1) (.ret d (cu lev e d lv));have kp:(∀(x:Nat) o,(∀i,x∉A i)->m[x]?=some o->m1[x]?=some o)/\m.length<=m1.length:=⟨λx o _ b=>l1 x o b,l1.len⟩;have no:bx (λx=>RR x/\x∉([]:List Nat)) m1 .no d w []:=⟨ai.frame (λx o r z=>⟨⟨r,by simp⟩,z⟩) _ _ r1,rfl⟩;by_cases f:aw d=true
  .refine ⟨w,m1,[],rfl,kp,?_,QB,by simp⟩;unfold cu;rw[M6 f];exact r1.flat d w f
  .unfold cu;rw[M7 f];split
   .next i=>
    have hdi:de[i]?=some (some d):=by
     exact uy z
    obtain⟨l,hl⟩:=I.getlv hdi;obtain⟨w',he,ro⟩:=I.slot i d l hdi hl;rw[vE he m]at h2;cases h2;rw[hl];refine⟨_,_,A i,rfl,kp,?_,I.nd i,λb hb=>(I.bd i b hb).1⟩;exact ro.frame (λx o r z=>⟨⟨r.1,r.2 i⟩,z⟩) (λ_ _ _ z=>z)
   .next a b=>
    split
    .next c=>
     obtain⟨hab,ha,hb⟩:=c;have:∃da db,de[a]?=some (some da)/\de[b]?=some (some db)/\d=.tup [da,db]:=by
      have hz:ak cd (.tup (.pair (.var a) (.pair (.var b) .unit))) de=((ak cd (.var a) de).bind λx=>((ak cd (.var b) de).bind λy=>.ok (.tup [y])).bind λy=>.ok (.tup (x::zV y))).bind λx=>if(zV x).length<=av then .ok (.tup (zV x))else .no:=rfl;rw[hz]at z;cases q1:de[a]? with
      |none=>rw[xA (.inl q1)]at z;cases z
      |some o=>cases o with
       |none=>rw[xA (.inr q1)]at z;cases z
       |some da=>
        rw[xz q1]at z;cases q2:de[b]? with
        |none=>rw[xA (.inl q2)]at z;cases z
        |some o=>cases o with
         |none=>rw[xA (.inr q2)]at z;cases z
         |some db=>
          rw[xz q2]at z;simp[Rd.bind,zV,av]at z;exact⟨da,db,rfl,rfl,z.symm⟩
     obtain⟨da,db,h3,h4,rfl⟩:=this;obtain⟨wa,ea,oa⟩:=I.slot a da .full h3 ha;obtain⟨wb,eb,ob⟩:=I.slot b db .full h4 hb;have hw:af cl (.tup (.pair (.var a) (.pair (.var b) .unit))) env m=.ok (.tup [wa,wb]) m:=by
      show(((af cl (.var a) env m).bind λx m1=>((af cl (.var b) env m1).bind λy m2=>.ok (.tup [y]) m2).bind λy m2=>.ok (.tup (x::zn y)) m2).bind λx m1=>if(zn x).length<=av then .ok (.tup (zn x)) m1 else .no)=_;rw[vE ea m];simp only[Rz.bind];rw[vE eb m];simp[zn,av]
     rw[hw]at h2;cases h2;refine⟨_,_,A a++(A b++[]),rfl,kp,bG.mpr ⟨_,rfl,.cons oa (.cons ob .nil)⟩,?_,?_⟩
     .rw[Q0];exact QA.mpr ⟨I.nd a,I.nd b,λx hx y hy e=>hab (I.dj a b x hx (by rw[e];exact hy))⟩
     .intro x hx;rw[Q0]at hx;rcases QL.mp hx with q|q
      .exact (I.bd a x q).1
      .exact (I.bd b x q).1
    .exact ⟨w,m1,[],rfl,kp,no,QB,by simp⟩
   .obtain ⟨B,ro,nd,hB⟩:=I.own H z h2;exact⟨w,m1,B,rfl,kp,ro,nd,λb hb=>Qr I.lom (hB b hb)⟩
set_option tactic.hygienic true in
theorem wY(H:bJ lev cl cd):∀(s:Sm) (m:Me) (de:aO) (lv:List Lv) (env:En) (A:Nat->List Nat),Inv lo RR m de lv env A->aL lo RR A m (bC cl s env m) (aH lev cd s de lv)
 |.skip,m,de,lv,env,A,I=>by show aL _ _ _ _ (.next env m) (.next de lv);exact⟨env,m,A,rfl,I,bi.refl A m⟩
 |.seq a b,m,de,lv,env,A,I=>by
  cases hv:yr a b with
  |some t=>rw[qy,hv];exact trivial
  |none=>
   have h:=wY H a m de lv env A I;rw[qy,hv];show aL _ _ _ _ (match bC cl a env m with
    |.next e1 m1=>bC cl b e1 m1
    |r=>r) _
   cases z:aH lev cd a de lv with
   |next d1 l1=>
    rw[z]at h;obtain⟨e1,m1,A1,h1,I1,K1⟩:=h;rw[h1];exact aL.keep K1 (wY H b m1 d1 l1 e1 A1 I1)
   |cont d1 l1=>
    rw[z]at h;obtain⟨e1,m1,A1,h1,I1,K1⟩:=h;rw[h1];exact⟨e1,m1,A1,rfl,I1,K1⟩
   |brk d1 l1=>
    rw[z]at h;obtain⟨e1,m1,A1,h1,I1,K1⟩:=h;rw[h1];exact⟨e1,m1,A1,rfl,I1,K1⟩
   |ret d l=>
    rw[z]at h;obtain⟨w,m1,B,h1,k⟩:=h;rw[h1];exact⟨w,m1,B,rfl,k⟩
   |exc c d=>
    rw[z]at h;obtain⟨w,e,m1,h1,k⟩:=h;rw[h1];exact⟨w,e,m1,rfl,k⟩
   |no=>trivial
 |.asg i e,m,de,lv,env,A,I=>Eb H I i e
 |.dput j k e,m,de,lv,env,A,I=>F4 H I j k e
 |.asgS o k e,m,de,lv,env,A,I=>by
  cases o with
  |var j=>exact F5 H I j k e
  |_=>exact trivial
 |.aug i op e,m,de,lv,env,A,I=>D8 H I i op e
 |.ite c a b,m,de,lv,env,A,I=>by
  refine I.bindE H.r c λd w m1 _ _ l1 r1=>?_;cases d with
  |bl t=>
   rw[ah.mp r1];cases t with
   |true=>exact wY H a m1 de lv env A (I.ext l1)
   |false=>exact wY H b m1 de lv env A (I.ext l1)
  |_=>trivial
 |.forv i it body,m,de,lv,env,A,I=>by
  refine uj H (λx w m de lv env A I r=>?_) I it;obtain⟨I1,K1⟩:=I.bindSlot i r;exact aL.keep K1 (wY H body _ _ _ _ _ I1)
 |.fort i j it body,m,de,lv,env,A,I=>by
  refine uj H (λx w m de lv env A I r=>?_) I it;split
  .next a b=>
   obtain⟨xs,rfl,r1⟩:=aj.mp r;obtain⟨x,r2,rfl,ra,rb⟩:=r1.cons_inv;obtain⟨y,r3,rfl,rb,rn⟩:=rb.cons_inv;rw[rn.nil_inv];obtain⟨I1,K1⟩:=I.bindSlot i ra;obtain⟨I2,K2⟩:=I1.bindSlot j (K1.rep rb);exact aL.keep (K1.trans K2) (wY H body _ _ _ _ _ I2)
  .trivial
 |.unp3 i j k e,m,de,lv,env,A,I=>F3 H I i j k e
 |.while c body,m,de,lv,env,A,I=>by
  refine kR (λm de lv env A I=>?_) (λm de lv env A I=>wY H body m de lv env A I) _ m de lv env A I;have h:=zh H.r c RR m de env (I.envR _);cases z:ak cd c de with
  |no=>trivial
  |ok d=>rw[z]at h;obtain⟨w,m1,h1,l1,r1⟩:=h;exact⟨w,m1,h1,l1,I.rf r1⟩
  |exc k d=>rw[z]at h;obtain⟨w,m1,h1,l1,r1⟩:=h;exact⟨w,m1,h1,l1,I.rf r1⟩
 |.ret e,m,de,lv,env,A,I=>D6 H I e
 |.expr e,m,de,lv,env,A,I=>by
  have dflt:aL lo RR A m (bC cl (.expr e) env m) ((ak cd e de).bindS λ_=>.next de lv):=by
   exact I.bindE H.r e λd w m1 _ _ l1 _=>⟨env,m1,A,rfl,I.ext l1,bi.refl A m1⟩
  cases e with
  |meth n o a=>
   cases n with
   |append=>
    cases o with
    |var j=>
     cases a with
     |pair e u=>cases u with
      |unit=>exact F8 H I j e
      |_=>exact trivial
     |_=>exact trivial
    |_=>exact trivial
   |reverse=>
    cases o with
    |var j=>
     cases a with
     |unit=>exact F7 (cl:=cl) (cd:=cd) (lev:=lev) I j
     |_=>exact trivial
    |_=>exact trivial
   |clear=>
    cases o with
    |var j=>
     cases a with
     |unit=>exact F6 (cl:=cl) (cd:=cd) (lev:=lev) I j
     |_=>exact trivial
    |_=>exact trivial
   |_=>exact trivial
  |_=>exact dflt
 |.never,m,de,lv,env,A,I=>by exact trivial
end
def gP{α β:Type}(f:α->β)(z:β)(xs:List α)(n i:Nat):(xs.map f++Qx n z)[i]?=if i<xs.length then(xs[i]?).map f else if i<xs.length+n then some z else none:=by
 rw[List.getElem?_append,Qn];split
 .rw[Qv]
 .rw[Wx];by_cases h:i-xs.length<n
  .rw[M6 h,M6 (by lia)]
  .rw[M7 h,M7 (by lia)]
set_option tactic.hygienic true in
def Hr (fn:Fn)(h:ae R m ds ws):Inv m.length (Rf R m.length) m (xK fn ds) (xg fn ds) (yU fn ws) (λ_=>[]):=by
 have hl:=h.len;refine⟨?_,?_,λl hl=>.inr hl,Qj _,?_,λ_=>QB,(λ_ _ _ h=>by cases h),(λ_ _ h=>by cases h)⟩
 .simp[xK,yU,hl]
 .simp[xK,xg]
 .intro i d l h1 h2;unfold xK at h1;unfold xg at h2;rw[gP]at h1 h2;by_cases hi:i<ds.length
  .rw[M6 hi]at h1 h2;obtain⟨d',e1,e2⟩:=QK.mp h1;cases e2;rw[e1]at h2;cases h2;obtain⟨w,hw,r⟩:=h.get e1;refine⟨w,?_,?_⟩
   .unfold yU;rw[gP,M6 (by lia),hw];rfl
   .unfold aT;split
    .next f=>exact r.flat d w f
    .exact ⟨ai.frame (λx o r z=>⟨⟨.inl r,λ_ h=>by cases h⟩,z⟩) _ _ r,rfl⟩
  .rw[M7 hi]at h1;split at h1<;>cases h1
set_option tactic.hygienic true in
def D5 (H:bJ lev cl cd)(k:Nat)(fn:Fn)(ds:List Dat)(ws:List Wd)(R:Nat->Prop)(m:Me)(h:ae R m ds ws):aN R m (wX lev k) (wE cl fn ws m) (zG lev cd k fn ds):=by
 unfold wE zG;rw[h.len];split
 .have s:=wY H fn.body m _ _ _ _ (Hr fn h);cases z:aH lev cd fn.body (xK fn ds) (xg fn ds)with
  |next d1 l1=>
   rw[z]at s;obtain⟨e1,m1,A1,h1,I1,K1⟩:=s;rw[h1];refine⟨.non,m1,[],rfl,λl o q=>(K1.1 l o (λ_ h=>by cases h) q).2,?_,QB,by simp⟩;unfold wX bx bj;simp[aw]
  |ret d l=>
   rw[z]at s;obtain⟨w,m1,B,h1,⟨kp,_⟩,ro,nd,hB⟩:=s;rw[h1];have le:Le m m1:=λl o q=>kp l o (λ_ h=>by cases h) q;show aN R m (wX lev k) (.ok w m1) (if aw d || wH l (lev k)then .ok d else .no);split
   .next c=>
    by_cases f:aw d=true
    .refine ⟨w,m1,[],rfl,le,?_,QB,by simp⟩;unfold wX;rw[M6 f];exact(ro.rep (R':=λ_=>True) (λ_ _=>trivial) (λ_ _=>trivial)).flat d w f
    .have g:wH l (lev k)=true:=by simpa [f]using c
     unfold aN wX;simp only[M7 f];cases e:lev k with
     |no=>
      refine⟨w,m1,[],rfl,le,⟨?_,rfl⟩,QB,by simp⟩;exact ro.rep (λx r=>⟨r.1,by simp⟩) (λb hb=>⟨.inr (hB b hb),by simp⟩)
     |top=>
      rw[e]at g;cases l with
      |top=>exact⟨w,m1,B,rfl,le,ro,nd,hB⟩
      |no=>cases g
      |full=>cases g
     |full=>
      rw[e]at g;cases l with
      |full=>exact⟨w,m1,B,rfl,le,ro,nd,hB⟩
      |no=>cases g
      |top=>cases g
   .trivial
  |exc c d=>
   rw[z]at s;obtain⟨w,e,m1,h1,⟨kp,_⟩,r⟩:=s;rw[h1];exact⟨w,m1,rfl,λl o q=>kp l o (λ_ h=>by cases h) q,r⟩
  |brk _ _=>trivial
  |cont _ _=>trivial
  |no=>trivial
 .trivial
theorem AC(lev:Nat->Lv)(T:List Fn):∀d:Nat,bJ lev (yO T d) (jU lev T d)
 |0=>λk ds ws R m h=>trivial
 |d+1=>λk ds ws R m h=>by
  unfold yO jU;cases T[k]? with
  |none=>trivial
  |some fn=>exact D5 (AC lev T d) k fn ds ws R m h
def D4(lev:Nat->Lv)(T:List Fn)(d i:Nat)(ns:List Int)(h:jU lev T d i [.scr ns]=.ok (.bl true)):∃m,yO T d i [.rol (ns.map Wd.int)] []=.ok (.bl true) m:=by
 have s:=AC lev T d i [.scr ns] [.rol (ns.map Wd.int)] (λ_=>True) [] (.cons (ba.mpr rfl) .nil);rw[h]at s;obtain⟨w,m',h1,_,r⟩:=s.sim;rw[ah.mp r]at h1;exact⟨m',h1⟩
section
variable(lev:Nat->Lv)(cl:Nat->List Dat->Rd)(de:aO)(lv:List Lv)
@[simp]theorem aI(d:Dat)(f:Dat->Rd):(Rd.ok d).bind f=f d:=rfl
@[simp]theorem aU(d:Dat)(f:Dat->bZ):(Rd.ok d).bindS f=f d:=rfl
@[simp]theorem eg(d:Dat)(f:Dat->bZ):(Rd.ok d).okS f=f d:=rfl
@[simp]theorem ze(i:Int):ak cl (.lit (.int i)) de=.ok (.int i):=rfl
@[simp]theorem gQ(i:Bool):ak cl (.lit (.bl i)) de=.ok (.bl i):=rfl
@[simp]theorem zO:ak cl (.lit .non) de=.ok .non:=rfl
@[simp]theorem zW(s:List Nat):ak cl (.lit (.str s)) de=.ok (.str s):=rfl
@[simp]theorem zu(op:Bo)(a b:Ex):ak cl (.bin op a b) de=(ak cl a de).bind λx=>(ak cl b de).bind λy=>zJ op x y:=rfl
@[simp]theorem zH(op:Co)(a b:Ex):ak cl (.cmp op a b) de=(ak cl a de).bind λx=>(ak cl b de).bind λy=>yz op x y:=rfl
@[simp]theorem zl:ak cl .unit de=.ok (.tup []):=rfl
@[simp]theorem zg(a b:Ex):ak cl (.pair a b) de=(ak cl a de).bind λx=>(ak cl b de).bind λy=>.ok (.tup (x::zV y)):=rfl
@[simp]theorem zq(k:Nat)(a:Ex):ak cl (.call k a) de=(ak cl a de).bind λx=>cl k (zV x):=rfl
@[simp]theorem yM(b:eD)(a:Ex):ak cl (.blt b a) de=(ak cl a de).bind λx=>y7 b (zV x):=rfl
@[simp]theorem m9(t:Tg)(a:Ex):ak cl (.isi t a) de=(ak cl a de).bind λx=>.ok (.bl (eO t x)):=rfl
@[simp]theorem yh(a b:Ex):ak cl (.idx a b) de=(ak cl a de).bind λx=>(ak cl b de).bind λy=>zQ x y:=rfl
@[simp]theorem x9(a:Ex):ak cl (.lst a) de=(ak cl a de).bind λx=>bp (zV x):=rfl
@[simp]theorem wZ(a:Ex):ak cl (.tup a) de=(ak cl a de).bind λx=>if(zV x).length<=av then .ok (.tup (zV x))else .no:=rfl
@[simp]theorem vO(a b c:Ex):ak cl (.rng a b c) de=(ak cl a de).bind λx=>(ak cl b de).bind λy=>(ak cl c de).bind λz=>jR x y z:=rfl
@[simp]theorem zd(d:Dat)(r:aO):ak cl (.var 0) (some d::r)=.ok d:=rfl
@[simp]theorem za(i:Nat)(d:Option Dat)(r:aO):ak cl (.var (i+1)) (d::r)=ak cl (.var i) r:=rfl
@[simp]theorem wI(a:Ex):ak cl (.neg a) de=(ak cl a de).bind λx=>match x with
  |.int i=>.ok (.int (-i))
  |_=>.no:=rfl
@[simp]theorem xi(a:Ex):ak cl (.not a) de=(ak cl a de).bind λx=>match x with
  |.bl b=>.ok (.bl (! b))
  |_=>.no:=rfl
@[simp]theorem yW(a b:Ex):ak cl (.and a b) de=(ak cl a de).bind λx=>match x with
  |.bl true=>ak cl b de
  |.bl false=>.ok (.bl false)
  |_=>.no:=rfl
@[simp]theorem i8(a b:Ex):ak cl (.or a b) de=(ak cl a de).bind λx=>match x with
  |.bl false=>ak cl b de
  |.bl true=>.ok (.bl true)
  |_=>.no:=rfl
@[simp]theorem jV(p q:Co)(a b c:Ex):ak cl (.chain p q a b c) de=(ak cl a de).bind λx=>(ak cl b de).bind λy=>(yz p x y).bind λz=>match z with
  |.bl true=>(ak cl c de).bind λu=>yz q y u
  |.bl false=>.ok (.bl false)
  |_=>.no:=rfl
@[simp]theorem kS(c a b:Ex):ak cl (.ife c a b) de=(ak cl c de).bind λx=>match x with
  |.bl true=>ak cl a de
  |.bl false=>ak cl b de
  |_=>.no:=rfl
@[simp]theorem D3(a:Ex):ak cl (.lrng a) de=(ak cl a de).bind λx=>match x with
  |.int j=>if -av<=j/\j<=av then bp (yu 0 1 j.toNat)else .no
  |_=>.no:=rfl
def vn(elt it cond:Ex):ak cl (.comp elt it cond) de=(ak cl it de).bind λx=>match cS x with
  |some xs=>ym (λx=>ak cl cond (de++[some x])) (λx=>ak cl elt (de++[some x])) xs []
  |none=>.no:=rfl
def w5(k:Kd)(elt a b cond:Ex):ak cl (.compP k elt a b cond) de=(ak cl a de).bind λx=>(ak cl b de).bind λy=>match xf k x y with
  |some ps=>ym (λp=>ak cl cond (de++[some p.1]++[some p.2])) (λp=>ak cl elt (de++[some p.1]++[some p.2])) ps []
  |none=>.no:=rfl
@[simp]theorem Kc(a b:Int):dr (.int a) (.int b)=decide (a=b):=rfl
@[simp]theorem Kb(a b:Bool):dr (.bl a) (.bl b)=(a==b):=rfl
@[simp]theorem Ka(a b:List Nat):dr (.str a) (.str b)=decide (a=b):=rfl
@[simp]theorem J9(a b:List Dat):dr (.tup a) (.tup b)=cm a b:=rfl
@[simp]theorem tf(a b:List Dat):dr (.lst a) (.lst b)=cm a b:=rfl
@[simp]theorem Kt(k:Nat)(a:Int):y6 (k+1) (.int a)=true:=rfl
@[simp]theorem KO(k:Nat)(a:Bool):y6 (k+1) (.bl a)=true:=rfl
@[simp]theorem Ks(k:Nat)(a:List Nat):y6 (k+1) (.str a)=true:=rfl
@[simp]theorem Kr(k:Nat):y6 (k+1) .non=true:=rfl
@[simp]theorem Kq(k:Nat)(a:List Dat):y6 (k+1) (.tup a)=bF k a:=rfl
@[simp]theorem kj(k:Nat)(a:List Dat):y6 (k+1) (.lst a)=bF k a:=rfl
@[simp]theorem Li(k:Nat):bF k []=true:=rfl
@[simp]theorem Ln(k:Nat)(d:Dat)(a:List Dat):bF k (d::a)=(y6 k d&&bF k a):=rfl
theorem xU(k:Nat):∀(a:List Dat),bF k a=a.all (y6 k)
 |[]=>by simp
 |d::a=>by simp[xU k a]
@[simp]theorem uh:y0=11+1:=rfl
@[simp]theorem gR(i j:Int):yz .lt (.int i) (.int j)=.ok (.bl (decide (i<j))):=rfl
@[simp]theorem mH(i j:Int):yz .le (.int i) (.int j)=.ok (.bl (decide (i<=j))):=rfl
@[simp]theorem yL(i j:Int):yz .eq (.int i) (.int j)=.ok (.bl (decide (i=j))):=rfl
@[simp]theorem sI(i j:Int):yz .ne (.int i) (.int j)=.ok (.bl (! decide (i=j))):=rfl
@[simp]theorem C6(i j:Bool):yz .eq (.bl i) (.bl j)=.ok (.bl (i==j)):=rfl
@[simp]theorem C5(i j:Bool):yz .ne (.bl i) (.bl j)=.ok (.bl (!(i==j))):=rfl
@[simp]theorem zX(i j:Int):zJ .add (.int i) (.int j)=.ok (.int (i+j)):=rfl
@[simp]theorem yE(i j:Int):zJ .sub (.int i) (.int j)=.ok (.int (i-j)):=rfl
def yG(i j:Int)(h:xo i=true):zJ .mul (.int i) (.int j)=.ok (.int (i*j)):=by simp[zJ,h]
def D2(i j:Int)(h:xo j=true):zJ .mul (.int i) (.int j)=.ok (.int (i*j)):=by simp[zJ,h]
def vp(i j:Int)(h:0<j)(k:j<1073741824):zJ .fdiv (.int i) (.int j)=.ok (.int (i/j)):=by simp[zJ,h,k]
def xj(i j:Int)(h:0<j):zJ .mod (.int i) (.int j)=.ok (.int (i%j)):=by simp[zJ,h]
def m8(i j:Int)(h:0<=j/\j<=1000000/\xo i=true):zJ .pow (.int i) (.int j)=.ok (.int (i^j.toNat)):=by simp only[zJ];rw[M6 h]
def jW (h:-18446744073709551616<i)(k:i<18446744073709551616):xo i=true:=by unfold xo cI;simp[h,k]
@[simp]theorem zi(xs:List Dat):zV (.tup xs)=xs:=rfl
@[simp]theorem KN(xs:List Dat):y7 .len [.lst xs]=.ok (.int xs.length):=rfl
@[simp]theorem KM(xs:List Dat):y7 .len [.tup xs]=.ok (.int xs.length):=rfl
@[simp]theorem KJ(ns:List Int):y7 .len [.scr ns]=.ok (.int ns.length):=by simp[y7,xc]
@[simp]theorem J8(b:Bool):y7 .int [.bl b]=.ok (.int (b2i b)):=rfl
def xr (h:xs.length<=av):bp xs=.ok (.lst xs):=by unfold bp;rw[M6 h]
def m7 (h:i<n):ix n (i:Int)=some i:=by unfold ix;rw[M6 (by lia),M6 (by lia)];simp
def D1 (h:0<n):ix n (-1)=some (n-1):=by unfold ix;rw[M7 (by lia),M6 (by lia)];congr 1;lia
def ug {i:Nat}(h:xs[i]?=some d):zQ (.lst xs) (.int (i:Int))=.ok d:=by
 have:=(Qa.mp h).1;simp[zQ,xc,m7 this,h]
def kT (h:xs[xs.length-1]?=some d):zQ (.lst xs) (.int (-1))=.ok d:=by
 have:=(Qa.mp h).1;simp[zQ,xc,D1 (show 0<xs.length by lia),h]
def mZ {a b:Int}(h:-av<=a/\a<=av/\-av<=b/\b<=av/\(c=1\/c=-1)):jR (.int a) (.int b) (.int c)=.ok (.tup (yu a c (qZ a b c))):=by
 simp only[jR];rw[M6 h]
@[simp]theorem F2(a c:Int)(n:Nat):(yu a c n).length=n:=by simp[yu]
def xD(a c:Int)(n i:Nat)(h:i<n):(yu a c n)[i]?=some (.int (a+c*(i:Int))):=by
 simp[yu,h]
@[simp]theorem xW(a c:Int):∀(n:Nat),aY (yu a c n)=true:=by
 intro n;unfold yu;generalize QH n=l
 induction l with
 |nil=>rfl
 |cons x l ih=>simp[aY,aw,ih]
@[simp]theorem ww(xs:List Dat):aw (.tup xs)=aY xs:=by rw[aw]
@[simp]theorem wz(xs:List Dat):aw (.lst xs)=false:=by rw[aw]
@[simp]theorem Ko(i:Int):aw (.int i)=true:=by rw[aw]
@[simp]theorem KI(i:Bool):aw (.bl i)=true:=by rw[aw]
@[simp]theorem Kn:aw .non=true:=by rw[aw]
@[simp]theorem Km(s:List Nat):aw (.str s)=true:=by rw[aw]
@[simp]theorem Kl(s:List Int):aw (.scr s)=true:=by rw[aw]
@[simp]theorem Lh:aY []=true:=by rw[aY]
@[simp]theorem jX(d:Dat)(ds:List Dat):aY (d::ds)=(aw d&&aY ds):=by rw[aY]
@[simp]theorem Lm(l:List Int):aY (l.map Dat.int)=true:=by
 induction l with
 |nil=>rfl
 |cons x l ih=>simp[ih]
@[simp]theorem wq(xs:List Dat):cS (.tup xs)=some xs:=rfl
@[simp]theorem J7(xs:List Int):cS (.scr xs)=some (xs.map .int):=rfl
def wJ (h:xs.length<=av):cS (.lst xs)=some xs:=by simp[cS,h]
@[simp]theorem zR:aH lev cl .skip de lv=.next de lv:=rfl
@[simp]theorem zI(e:Ex):aH lev cl (.ret e) de lv=(ak cl e de).bindS λd=>.ret d (cu lev e d lv):=rfl
@[simp]theorem zE(i:Nat)(e:Ex):aH lev cl (.asg i e) de lv=(ak cl e de).bindS λd=>vB lev i e d de lv:=rfl
@[simp]theorem yi(c:Ex)(a b:Sm):aH lev cl (.ite c a b) de lv=(ak cl c de).bindS λx=>match x with
  |.bl true=>aH lev cl a de lv
  |.bl false=>aH lev cl b de lv
  |_=>.no:=rfl
def zS {lev:Nat->Lv}{de:aO}{lv:List Lv}(h:aw d=true):vB lev i e d de lv=.next (de.set i (some d)) (lv.set i .full):=by
 unfold vB;rw[M6 (yA lev e d h)]
def yC {lev:Nat->Lv}{de:aO}{lv:List Lv}(h:aV lev e d=.full):vB lev i e d de lv=.next (de.set i (some d)) (lv.set i .full):=by
 unfold vB;rw[M6 h]
def yt {body:α->aO->List Lv->bZ}(P:Nat->aO->List Lv->Prop)(xs:List α){de:aO}{lv:List Lv}(h0:P 0 de lv)(hs:∀(i:Nat) x de lv,xs[i]?=some x->P i de lv->∃de' lv',body x de lv=.next de' lv'/\P (i+1) de' lv'):∃de' lv',yY body xs de lv=.next de' lv'/\P xs.length de' lv':=by
 induction xs generalizing P de lv with
 |nil=>exact⟨de,lv,rfl,h0⟩
 |cons x xs ih=>
  obtain⟨d1,l1,e1,p1⟩:=hs 0 x de lv rfl h0;unfold yY;rw[e1];exact ih (λi=>P (i+1)) p1 (λi y de lv hy hp=>hs (i+1) y de lv (by simpa using hy) hp)
end
namespace Lib
section
variable{lev:Nat->Lv}{cl:Nat->List Dat->Rd}{k:Nat}
def isInt:Dat->Bool
 |.int _=>true
 |_=>false
def qz:Fn:=⟨1,1,(.ret (.and (.isi .int (.var 0)) (.not (.isi .bool (.var 0)))))⟩
def Hq(d:Dat):zG lev cl k qz [d]=.ok (.bl (isInt d)):=by
 cases d<;>simp[zG,qz,xK,xg,zD,eO,isInt,cu]
end
end Lib
section
variable(lev:Nat->Lv)(cl:Nat->List Dat->Rd)(de:aO)(lv:List Lv)
@[simp]theorem C4(i:Nat)(op:Bo)(e:Ex):aH lev cl (.aug i op e) de lv=match de[i]? with
  |some (some (.int a))=>(ak cl e de).okS λy=>match y with
   |.int b=>(zJ op (.int a) (.int b)).okS λz=>.next (de.set i (some z)) (lv.set i .full)
   |_=>.no
  |_=>.no:=rfl
@[simp]theorem wK(j:Nat)(e:Ex):aH lev cl (.expr (.meth .append (.var j) (.pair e .unit))) de lv=(ak cl e de).okS λd=>match x8 de j with
   |some ds=>if ds.length<av then match xC lev e d j de lv with
    |some (de1,lv1)=>.next (de1.set j (some (.lst (ds++[d])))) lv1
    |none=>.no
    else .no
   |none=>.no:=rfl
@[simp]theorem uf(j:Nat):aH lev cl (.expr (.meth .reverse (.var j) .unit)) de lv=match x8 de j with
   |some ds=>if yg lv j then .next (de.set j (some (.lst ds.reverse))) lv else .no
   |none=>.no:=rfl
def we(i:Nat)(it:Ex)(body:Sm):aH lev cl (.forv i it body) de lv=(ak cl it de).bindS λd=>match cS d with
  |some xs=>yY (λx de lv=>aH lev cl body (de.set i (some x)) (lv.set i (aT x))) xs de (if aw d then lv else yB it de lv)
  |none=>.no:=rfl
def qC(i j:Nat)(it:Ex)(body:Sm):aH lev cl (.fort i j it body) de lv=(ak cl it de).bindS λd=>match cS d with
  |some xs=>yY (λx de lv=>match x with
    |.tup [a,b]=>aH lev cl body ((de.set i (some a)).set j (some b)) ((lv.set i (aT a)).set j (aT b))
    |_=>.no) xs de (if aw d then lv else yB it de lv)
  |none=>.no:=rfl
def bZ.then(r:bZ)(f:aO->List Lv->bZ):bZ:=match r with
 |.next d l=>f d l
 |r=>r
@[simp]theorem zf(d:aO)(l:List Lv)(f:aO->List Lv->bZ):(bZ.next d l).then f=f d l:=rfl
@[simp]theorem Kk(d:Dat)(l:Lv)(f:aO->List Lv->bZ):(bZ.ret d l).then f=.ret d l:=rfl
def zy (h:yr a b=none):aH lev cl (.seq a b) de lv=(aH lev cl a de lv).then (aH lev cl b):=by
 rw[qy,h];cases aH lev cl a de lv<;>rfl
def F1(a:Sm)(c d:Sm):yr a (.seq c d)=none:=rfl
@[simp]theorem zC(a:Sm)(c d:Sm):aH lev cl (.seq a (.seq c d)) de lv=(aH lev cl a de lv).then (aH lev cl (.seq c d)):=zy lev cl de lv (F1 a c d)
def F0(a:Sm)(e:Ex):yr a (.ret e)=none:=rfl
@[simp]theorem ye(a:Sm)(e:Ex):aH lev cl (.seq a (.ret e)) de lv=(aH lev cl a de lv).then (aH lev cl (.ret e)):=zy lev cl de lv (F0 a e)
def FZ(a:Sm)(c:Ex)(x y:Sm):yr a (.ite c x y)=none:=rfl
@[simp]theorem J6(a:Sm)(c:Ex)(x y:Sm):aH lev cl (.seq a (.ite c x y)) de lv=(aH lev cl a de lv).then (aH lev cl (.ite c x y)):=zy lev cl de lv (FZ a c x y)
def Ho(a:Sm)(i:Nat)(e:Ex)(x:Sm):yr a (.forv i e x)=none:=rfl
@[simp]theorem KH(a:Sm)(i:Nat)(e:Ex)(x:Sm):aH lev cl (.seq a (.forv i e x)) de lv=(aH lev cl a de lv).then (aH lev cl (.forv i e x)):=zy lev cl de lv (Ho a i e x)
def Hn(a:Sm)(i j:Nat)(e:Ex)(x:Sm):yr a (.fort i j e x)=none:=rfl
@[simp]theorem KG(a:Sm)(i j:Nat)(e:Ex)(x:Sm):aH lev cl (.seq a (.fort i j e x)) de lv=(aH lev cl a de lv).then (aH lev cl (.fort i j e x)):=zy lev cl de lv (Hn a i j e x)
def IE(a:Sm)(e:Ex)(x:Sm):yr a (.while e x)=none:=rfl
@[simp]theorem K5(a:Sm)(e:Ex)(x:Sm):aH lev cl (.seq a (.while e x)) de lv=(aH lev cl a de lv).then (aH lev cl (.while e x)):=zy lev cl de lv (IE a e x)
def FY(a:Sm)(i:Nat)(e:Ex):yr a (.asg i e)=none:=rfl
@[simp]theorem sZ(a:Sm)(i:Nat)(e:Ex):aH lev cl (.seq a (.asg i e)) de lv=(aH lev cl a de lv).then (aH lev cl (.asg i e)):=zy lev cl de lv (FY a i e)
def Hm(a:Sm)(o i e:Ex):yr a (.asgS o i e)=none:=rfl
@[simp]theorem Lg(a:Sm)(o i e:Ex):aH lev cl (.seq a (.asgS o i e)) de lv=(aH lev cl a de lv).then (aH lev cl (.asgS o i e)):=zy lev cl de lv (Hm a o i e)
def FX(a:Sm)(i:Nat)(op:Bo)(e:Ex):yr a (.aug i op e)=none:=rfl
@[simp]theorem J5(a:Sm)(i:Nat)(op:Bo)(e:Ex):aH lev cl (.seq a (.aug i op e)) de lv=(aH lev cl a de lv).then (aH lev cl (.aug i op e)):=zy lev cl de lv (FX a i op e)
def Hl(a:Sm)(e:Ex):yr a (.expr e)=none:=rfl
@[simp]theorem qD(a:Sm)(e:Ex):aH lev cl (.seq a (.expr e)) de lv=(aH lev cl a de lv).then (aH lev cl (.expr e)):=zy lev cl de lv (Hl a e)
def Hk(a:Sm): yr a .skip=none:=rfl
@[simp]theorem Lf(a:Sm): aH lev cl (.seq a .skip) de lv=(aH lev cl a de lv).then (aH lev cl .skip):=zy lev cl de lv (Hk a)
def ID(a:Sm): yr a .never=none:=rfl
@[simp]theorem KZ(a:Sm): aH lev cl (.seq a .never) de lv=(aH lev cl a de lv).then (aH lev cl .never):=zy lev cl de lv (ID a)
end
namespace Lib
section
def row(r:List Int):Dat:=.lst (r.map .int)
def au(R:List (List Int)):Dat:=.lst (R.map row)
def k8(t:Int)(b:Bool):Bool:=if b then ! decide (t=1)else !(decide (t=0) || decide (t=1))
end
end Lib
namespace Lib
section
def S(R:List (List Int))(r c:Nat):Int:=((R.take r).map (λx=>x.getD c 0)).sum
def ac(R:List (List Int))(r c:Nat):Int:=((R.getD r []).take c).sum
def lR(R:List (List Int))(r c:Nat):Bool:=k8 (ac R r (c+1)) (decide ((c:Int)=(R.length:Int)-1)) || k8 (S R (r+1) c) (decide ((r:Int)=(R.length:Int)-1))
def Sq(R:List (List Int)):Prop:=∀r∈R,r.length=R.length
def ue {r:Nat}(h:R[r]?=some x):zQ (au R) (.int (r:Int))=.ok (row x):=ug (by simp[h])
def vq {c:Nat}(h:x[c]?=some v):zQ (row x) (.int (c:Int))=.ok (.int v):=ug (by simp[h])
def mX(R:List (List Int))(r c:Nat)(x:List Int)(h:R[r]?=some x):S R (r+1) c=S R r c+x.getD c 0:=by
 unfold S;rw[Wi,h];simp
end
end Lib
namespace Lib
section
variable{lev:Nat->Lv}{cl:Nat->List Dat->Rd}{k:Nat}
def kl:Fn:=⟨1,1,(.seq (.ite (.cmp .eq (.bin .mod (.var 0) (.lit (.int 8))) (.lit (.int 5))) (.ret (.bin .add (.lit (.int 1)) (.bin .mod (.bin .fdiv (.var 0) (.lit (.int 8))) (.lit (.int 12))))) .skip) (.ret (.bin .add (.lit (.int 1)) (.bin .mod (.bin .fdiv (.var 0) (.lit (.int 8))) (.lit (.int 6))))))⟩
def IC(c:Int):∃n:Nat,1<=n/\n<=12/\zG lev cl k kl [.int c]=.ok (.int n):=by
 have e1:zJ .mod (.int c) (.int 8)=.ok (.int (c%8)):=xj _ _ (by decide);have e2:zJ .fdiv (.int c) (.int 8)=.ok (.int (c/8)):=vp _ _ (by decide) (by decide);have e3:∀x:Int,zJ .mod (.int x) (.int 12)=.ok (.int (x%12)):=λx=>xj _ _ (by decide);have e4:∀x:Int,zJ .mod (.int x) (.int 6)=.ok (.int (x%6)):=λx=>xj _ _ (by decide);by_cases h:c%8=5
 .refine ⟨(1+c/8%12).toNat,by lia,by lia,?_⟩;have:(((1+c/8%12).toNat:Nat):Int)=1+c/8%12:=by lia
  simp[zG,kl,xK,xg,zD,cu,e1,e2,e3,e4,h,this]
 .refine ⟨(1+c/8%6).toNat,by lia,by lia,?_⟩;have:(((1+c/8%6).toNat:Nat):Int)=1+c/8%6:=by lia
  simp[zG,kl,xK,xg,zD,cu,e1,e2,e3,e4,h,this]
def dF(x:List Int):Prop:=∀i,i+1<x.length->x.getD i 0<x.getD (i+1) 0
def ir(cI sm:List Int):Prop:=cI.length=sm.length+1/\∀i,i<sm.length->cI.getD i 0<=sm.getD i 0/\sm.getD i 0<=cI.getD (i+1) 0
def vt {x:List Int}(h:x[i]?=some v):x.getD i 0=v:=by rw[Qm,h];rfl
def kU {x:List Int}(h:i<x.length):x[i]?=some (x.getD i 0):=by
 rw[Qm,Qf h];rfl
end
end Lib
namespace Lib
section
def wl {v:Int}(h:i<x.length):(x++[v]).getD i 0=x.getD i 0:=by
 simp[Qm,Qg h]
def k9 {v:Int}:(x++[v]).getD x.length 0=v:=by
 simp[Qm]
def qE {v:List Int}(h:i<x.length):(x++[v]).getD i []=x.getD i []:=by
 simp[Qm,Qg h]
def xS {v:List Int}:(x++[v]).getD x.length []=v:=by
 simp[Qm]
def dF.app{x:List Int}{v:Int}(h:dF x)(hv:0<x.length->x.getD (x.length-1) 0<v):dF (x++[v]):=by
 intro i hi;simp only[QW,Wo,W0]at hi;by_cases z:i+1<x.length
 .rw[wl (by lia),wl z];exact h i z
 .have e:i+1=x.length:=by lia
  rw[wl (by lia),e,k9];have:=hv (by lia)
  rwa[show x.length-1=i by lia]at this
def yN(n:Nat):List Int:=(QH n).map λ(i:Nat)=>(i:Int)
def IB(n:Nat):Dat.lst (yu 0 1 n)=row (yN n):=by
 unfold row yN yu;rw[Wj];congr 1;apply WG;intro i _;simp
structure dA(n:Nat)(L:List (List Int)):Prop where
 first:L.getD 0 []=yN n
 len:∀j,j<L.length->(L.getD j []).length+j=n
 inc:∀j,j<L.length->dF (L.getD j [])
 bd:∀j,j<L.length->∀i,i<(L.getD j []).length->0<=(L.getD j []).getD i 0/\(L.getD j []).getD i 0<n
 lace:∀j,j+1<L.length->ir (L.getD j []) (L.getD (j+1) [])
def vP (h:i<n):(yN n).getD i 0=i:=vt (by simp[yN,h])
def dA.one(n:Nat):dA n [yN n]:=by
 refine⟨rfl,?_,?_,?_,?_⟩
 .intro j hj;simp at hj;subst hj;simp[yN]
 .intro j hj i hi;simp at hj;subst hj;simp only[Va]at hi ⊢;have:i+1<n:=by simpa [yN]using hi
  rw[vP (by lia),vP this];lia
 .intro j hj i hi;simp at hj;subst hj;simp only[Va]at hi ⊢;have:i<n:=by simpa [yN]using hi
  rw[vP this];lia
 .intro j hj;simp at hj
def dA.app{n:Nat}{L:List (List Int)}{x:List Int}(h:dA n L)(hL:0<L.length)(hi:dF x)(hl:ir (L.getD (L.length-1) []) x):dA n (L++[x]):=by
 have e:=h.len (L.length-1) (by lia);have lt:∀{j},j<L.length->(L++[x]).getD j []=L.getD j []:=λhj=>qE hj;refine⟨by rw[lt hL];exact h.first,?_,?_,?_,?_⟩
 .intro j hj;by_cases z:j<L.length
  .rw[lt z];exact h.len j z
  .have:j=L.length:=by simp at hj;lia
   subst this;rw[xS];have:=hl.1;lia
 .intro j hj;by_cases z:j<L.length
  .rw[lt z];exact h.inc j z
  .have:j=L.length:=by simp at hj;lia
   subst this;rw[xS];exact hi
 .intro j hj i hi';by_cases z:j<L.length
  .rw[lt z]at hi' ⊢;exact h.bd j z i hi'
  .have:j=L.length:=by simp at hj;lia
   subst this;rw[xS]at hi' ⊢;have h1:=hl.2 i hi';have h2:=h.bd (L.length-1) (by lia) i (by have:=hl.1;lia);have h3:=h.bd (L.length-1) (by lia) (i+1) (by have:=hl.1;lia);lia
 .intro j hj;simp only[QW,Wo,W0]at hj;by_cases z:j+1<L.length
  .rw[lt (by lia),lt z];exact h.lace j z
  .have e2:j+1=L.length:=by lia
   rw[lt (by lia),e2,xS]
   rwa[show L.length-1=j by lia]at hl
end
end Lib
namespace Lib
section
theorem yK {c e:β->Rd}{α:Type}(f:α->β)(g:α->Dat):∀(xs:List α) (acc:List Dat),(∀x∈xs,c (f x)=.ok (.bl true))->(∀x∈xs,e (f x)=.ok (g x))->acc.length+xs.length<=av->ym c e (xs.map f) acc=.ok (.lst (acc++xs.map g))
 |[],acc,_,_,h=>by unfold ym;rw[WW];simp only;rw[xr (by simpa using h)];simp
 |x::xs,acc,hc,he,h=>by
  rw[QR];unfold ym;simp only[Wo]at h;rw[hc x (by simp)];simp only[aI];rw[he x (by simp)];simp only[aI];rw[M6 (by lia),yK f g xs (acc++[g x]) (λy hy=>hc y (by simp[hy])) (λy hy=>he y (by simp[hy])) (by simp;lia)];simp
def Gx (a s:Int)(n:Nat)(g:Nat->Dat)(hc:∀i,i<n->c (.int (a+s*(i:Int)))=.ok (.bl true))(he:∀i,i<n->e (.int (a+s*(i:Int)))=.ok (g i))(h:n<=av):ym c e (yu a s n) []=.ok (.lst ((QH n).map g)):=by
 unfold yu;rw[yK (λ(i:Nat)=>Dat.int (a+s*(i:Int))) g (QH n) [] (λi hi=>hc i (by simpa using hi)) (λi hi=>he i (by simpa using hi)) (by simpa using h)];simp
def mem(x:List Int)(c:Int):Bool:=x.any (λv=>decide (v=c))
def Gw(x:List Int)(c:Int):yz .isin (.int c) (row x)=.ok (.bl (mem x c)):=by
 have h:bF y0 (x.map Dat.int)=true:=by
  rw[xU];simp
 have h2:(x.map Dat.int).any (λy=>dr y (.int c))=mem x c:=by
  simp only[mem,List.any_map];congr 1
 simp only[yz,row,xc,lJ];rw[h,h2];simp[qm]
def xF(n:Nat)(x y:List Int):List Int:=(QH n).map λ(c:Nat)=>b2i (mem x c)-b2i (mem y c)
def zM(X:List (List Int))(i:Nat):List Int:=if i=0 then[]else X.getD (i-1) []
def sg(X:List (List Int)):List (List Int):=(QH X.length).map λi=>xF X.length (X.getD i []) (zM X i)
end
end Lib
namespace Lib
structure ij(n:Nat)(X:List (List Int)):Prop where
 len:X.length=n
 rlen:∀j,j<n->(X.getD j []).length=j+1
 inc:∀j,j<n->dF (X.getD j [])
 bd:∀j,j<n->∀i,i<j+1->0<=(X.getD j []).getD i 0/\(X.getD j []).getD i 0<n
 lace:∀j,j+1<n->ir (X.getD (j+1) []) (X.getD j [])
 last:X.getD (n-1) []=yN n
def ij.of{n:Nat}{L:List (List Int)}(hn:1<=n)(h:dA n L)(hl:L.length=n):ij n L.reverse:=by
 have g:∀j,j<n->L.reverse.getD j []=L.getD (n-1-j) []:=by
  intro j hj;rw[Qm,Qm,List.getElem?_reverse (by lia),hl]
 refine⟨by simp[hl],λj hj=>?_,λj hj=>?_,λj hj i hi=>?_,λj hj=>?_,?_⟩
 .rw[g j hj];have:=h.len (n-1-j) (by lia);lia
 .rw[g j hj];exact h.inc _ (by lia)
 .rw[g j hj];have:=h.len (n-1-j) (by lia);exact h.bd _ (by lia) i (by lia)
 .rw[g (j+1) hj,g j (by lia)];have:=h.lace (n-1-(j+1)) (by lia)
  rwa[show n-1-(j+1)+1=n-1-j by lia]at this
 .rw[g (n-1) (by lia),show n-1-(n-1)=0 by lia];exact h.first
def dF.lt (h:dF x):∀{i j:Nat},i<j->j<x.length->x.getD i 0<x.getD j 0:=by
 intro i j hij
 induction j with
 |zero=>lia
 |succ j ih=>
  intro hj;have h1:=h j hj;by_cases z:i=j
  .subst z;exact h1
  .have:=ih (by lia) (by lia);lia
def dF.nodup (h:dF x):x.Nodup:=by
 rw[List.Nodup,List.pairwise_iff_getElem];intro i j hi hj hij e;have:=h.lt hij hj;rw[vt (Qf hi),vt (Qf hj)]at this;lia
def D0 {x:List Int}(h:v∈x):∃i,i<x.length/\x.getD i 0=v:=by
 obtain⟨i,hi,e⟩:=List.getElem_of_mem h;exact⟨i,hi,vt (by rw[Qf hi,e])⟩
def cnt(x:List Int)(c:Nat):Int:=((QH c).map λ(j:Nat)=>b2i (mem x j)).sum
def low(x:List Int)(c:Nat):Int:=(x.map λ(v:Int)=>b2i (decide (v<(c:Int)))).sum
def jY(x:List Int)(c:Nat):cnt x (c+1)=cnt x c+b2i (mem x c):=by
 simp[cnt,WZ]
def Gv(x:List Int)(nd:x.Nodup)(c:Nat):low x (c+1)=low x c+b2i (mem x c):=by
 induction x with
 |nil=>simp[low,mem,b2i]
 |cons v x ih=>
  obtain⟨hv,nd⟩:=QF.mp nd;have ih:=ih nd;have e1:low (v::x) (c+1)=b2i (decide (v<(c+1:Nat)))+low x (c+1):=by simp[low]
  have e2:low (v::x) c=b2i (decide (v<c))+low x c:=by simp[low]
  have e3:mem (v::x) c=(decide (v=c) || mem x c):=by simp[mem]
  rw[e1,e2,e3,ih];by_cases h:v=c
  .have:mem x c=false:=by
    rw[mem,WQ];intro w hw;simp only[Nc];intro e;exact hv (by rw[h,<-e];exact hw)
   rw[this];simp[h,b2i];lia
  .have:decide (v<(c+1:Nat))=decide (v<c):=by
    by_cases q:v<c
    .simp[q];lia
    .simp[q];lia
   rw[this];simp[h];lia
def Gu (h:∀v∈x,0<=v):low x 0=0:=by
 induction x with
 |nil=>rfl
 |cons v x ih=>
  have e:low (v::x) 0=b2i (decide (v<(0:Nat)))+low x 0:=by simp[low]
  rw[e,ih (λw hw=>h w (by simp[hw]))];have:=h v (by simp);have:¬v<((0:Nat):Int):=by simp;lia
  rw[M5 this];rfl
theorem jo (nd:x.Nodup)(h:∀v∈x,0<=v):∀c,cnt x c=low x c
 |0=>by rw[Gu h];rfl
 |c+1=>by rw[jY,Gv x nd,jo nd h c]
def jZ{x:List Int}{n:Nat}(h:∀v∈x,v<n):low x n=x.length:=by
 induction x with
 |nil=>rfl
 |cons v x ih=>
  have e:low (v::x) n=b2i (decide (v<n))+low x n:=by simp[low]
  rw[e,ih (λw hw=>h w (by simp[hw])),Na (h v (by simp))];simp[b2i];lia
theorem mW:∀(sm cI:List Int),sm.length<=cI.length->(∀i,i<sm.length->cI.getD i 0<=sm.getD i 0)->low sm c<=low cI c
 |[],cI,_,_=>by
  have:∀x:List Int,0<=low x c:=by
   intro x
   induction x with
   |nil=>exact Int.le_refl _
   |cons v x ih=>
    have e:low (v::x) c=b2i (decide (v<c))+low x c:=by simp[low]
    rw[e];unfold b2i;split<;>lia
  exact this cI
 |s::sm,[],h,_=>by simp at h
 |s::sm,b::cI,h,q=>by
  have e1:low (s::sm) c=b2i (decide (s<c))+low sm c:=by simp[low]
  have e2:low (b::cI) c=b2i (decide (b<c))+low cI c:=by simp[low]
  have h0:=q 0 (by simp);simp only[Va]at h0;have ih:=mW (c:=c) sm cI (by simpa using h) (λi hi=>by simpa using q (i+1) (by simpa using hi));rw[e1,e2];have:b2i (decide (s<c))<=b2i (decide (b<c)):=by
   by_cases z:s<c
   .rw[Na z,Na (by lia)];exact Int.le_refl _
   .rw[M5 z];unfold b2i;simp;split<;>lia
  lia
def Gt {cI:List Int}(h:ir cI sm):low sm c<=low cI c/\low cI c<=low sm c+1:=by
 obtain⟨hl,h⟩:=h;refine⟨mW sm cI (by lia) (λi hi=>(h i hi).1),?_⟩;cases cI with
 |nil=>simp at hl
 |cons b bs=>
  have e2:low (b::bs) c=b2i (decide (b<c))+low bs c:=by simp[low]
  have:=mW (c:=c) bs sm (by simp at hl;lia) (λi hi=>by have:=(h i (by simp at hl;lia)).2;simpa using this);rw[e2];have:b2i (decide (b<c))<=1:=by unfold b2i;split<;>lia
  lia
def qF(X:List (List Int)):(sg X).length=X.length:=by simp[sg]
def tw (h:r<X.length):(sg X)[r]?=some (xF X.length (X.getD r []) (zM X r)):=by simp[sg,h]
def Hj(n:Nat)(x y:List Int):(xF n x y).length=n:=by simp[xF]
def Hi (x y:List Int)(h:c<n):(xF n x y).getD c 0=b2i (mem x c)-b2i (mem y c):=vt (by simp[xF,h])
def Hh (x y:List Int):∀{c:Nat},c<=n->((xF n x y).take c).sum=cnt x c-cnt y c:=by
 intro c hc
 induction c with
 |zero=>simp[cnt]
 |succ c ih=>
  rw[Wi,jY,jY,Vn,ih (by lia)];have:(xF n x y)[c]?=some (b2i (mem x c)-b2i (mem y c)):=by simp[xF,show c<n by lia]
  rw[this];simp;lia
def BJ(X:List (List Int)):Sq (sg X):=by
 intro r hr;simp only[sg,Wg]at hr;obtain⟨i,_,rfl⟩:=hr;rw[Hj,qF]
def n8 (X:List (List Int))(hc:c<X.length):∀{r:Nat},r<=X.length->S (sg X) r c=b2i (mem (zM X r) c):=by
 intro r
 induction r with
 |zero=>intro _;simp[S,zM,mem,b2i]
 |succ r ih=>
  intro hr;rw[mX (sg X) r c _ (tw (by lia)),ih (by lia),Hi _ _ hc];have:zM X (r+1)=X.getD r []:=by simp[zM]
  rw[this];lia
def IQ (h:c<n):mem (yN n) c=true:=by
 rw[mem,Wt];exact⟨c,Wg.mpr ⟨c,by simpa using h,rfl⟩,by simp⟩
def C3 (h:ij n X)(hr:r<n)(hc:c<n):lR (sg X) r c=false:=by
 have hX:=h.len;have b01:∀b:Bool,b2i b=0\/b2i b=1:=by intro b;cases b<;>simp[b2i]
 have hbd:∀j,j<n->∀v∈X.getD j [],0<=v/\v<n:=by
  intro j hj v hv;obtain⟨i,hi,rfl⟩:=D0 hv;rw[h.rlen j hj]at hi;exact h.bd j hj i hi
 have hac:ac (sg X) r (c+1)=low (X.getD r []) (c+1)-low (zM X r) (c+1):=by
  unfold ac;rw[Qm,tw (by lia)];show((xF X.length (X.getD r []) (zM X r)).take (c+1)).sum=_;rw[Hh _ _ (by lia),jo (h.inc r hr).nodup (λv hv=>(hbd r hr v hv).1)];congr 1;unfold zM;split
  .exact jo QB (by simp) _
  .exact jo (h.inc _ (by lia)).nodup (λv hv=>(hbd _ (by lia) v hv).1) _
 have hrange:(ac (sg X) r (c+1)=0\/ac (sg X) r (c+1)=1)/\(c=n-1->ac (sg X) r (c+1)=1):=by
  rw[hac];by_cases z:r=0
  .subst z;have e:zM X 0=[]:=rfl;have e0:low (zM X 0) (c+1)=0:=rfl;have hl:(X.getD 0 []).length=1:=h.rlen 0 hr;have:low (X.getD 0 []) (c+1)=0\/low (X.getD 0 []) (c+1)=1:=by
    cases hx:X.getD 0 []with
    |nil=>rw[hx]at hl;cases hl
    |cons v x=>
     rw[hx]at hl;have:x=[]:=Vk (by simpa using hl);subst this;have:=b01 (decide (v<((c+1:Nat):Int)));simpa [low]using this
   refine⟨by lia,λec=>?_⟩;have hf:low (X.getD 0 []) (c+1)=(X.getD 0 []).length:=jZ (λv hv=>by have:=(hbd 0 hr v hv).2;lia);rw[hf,hl,e0];rfl
  .have e:zM X r=X.getD (r-1) []:=by simp[zM,z]
   have hla:=h.lace (r-1) (by lia);rw[show r-1+1=r by lia]at hla;have:=Gt (c:=c+1) hla;rw[e];refine⟨by lia,λec=>?_⟩;have hf:low (X.getD r []) (c+1)=(X.getD r []).length:=jZ (λv hv=>by have:=(hbd r hr v hv).2;lia);have hg:low (X.getD (r-1) []) (c+1)=(X.getD (r-1) []).length:=jZ (λv hv=>by have:=(hbd (r-1) (by lia) v hv).2;lia);rw[hf,hg,h.rlen r hr,h.rlen (r-1) (by lia)];lia
 have hS:S (sg X) (r+1) c=b2i (mem (X.getD r []) c):=by
  rw[n8 X (by lia) (by lia)];simp[zM]
 have hSr:(S (sg X) (r+1) c=0\/S (sg X) (r+1) c=1)/\(r=n-1->S (sg X) (r+1) c=1):=by
  rw[hS];refine⟨b01 _,λe=>?_⟩;rw[e,h.last,IQ hc];rfl
 have off:∀(t:Int) (b:Bool),(t=0\/t=1)->(b=true->t=1)->k8 t b=false:=by
  intro t b h1 h2;cases b with
  |true=>simp[k8,h2 rfl]
  |false=>rcases h1 with h|h<;>simp[k8,h]
 unfold lR;rw[Bool.or_eq_false_iff];refine⟨off _ _ hrange.1 λe=>hrange.2 ?_,off _ _ hSr.1 λe=>hSr.2 ?_⟩
 .simp only[Nc,qF]at e;lia
 .simp only[Nc,qF]at e;lia
end Lib
namespace Lib
section
variable{lev:Nat->Lv}{cl:Nat->List Dat->Rd}{k:Nat}
def nC{α β:Type}{xs:List α}{ys:List β}{i:Nat}{a:α}{b:β}(h:xs[i]?=some a)(h2:ys[i]?=some b):(xs.zip ys)[i]?=some (a,b):=List.getElem?_zip_eq_some.mpr ⟨h,h2⟩
def zZ(R:List (List Int))(i:Nat):List Int:=(QH R.length).map λc=>S R i c
def kq(R:List (List Int)):List (List Int):=(QH (R.length+1)).map (zZ R)
def IP(R:List (List Int)):Dat.lst (Qx R.length [Dat.int 0]).flatten=row (zZ R 0):=by
 have:(Qx R.length [Dat.int 0]).flatten=Qx R.length (Dat.int 0):=by
  generalize R.length=n
  induction n with
  |zero=>rfl
  |succ n ih=>rw[QY,Wa,ih,QY];rfl
 rw[this];unfold row zZ;congr 1;rw[Wj];refine We λi=>?_;by_cases h:i<R.length
 .simp[h,S]
 .simp[h]
def DZ(a b:List Int):xf .zip (row a) (row b)=if a.length<=av/\b.length<=av then some ((a.zip b).map λp=>(Dat.int p.1,Dat.int p.2))else none:=by
 simp only[xf,row,Qn];rw[List.zip_map];rfl
def Hg (h:Sq R)(hi:i<R.length):((zZ R i).zip (R.getD i [])).map (λp=>p.1+p.2)=zZ R (i+1):=by
 obtain⟨x,hx⟩:∃x,R[i]?=some x:=⟨R[i],by simp[hi]⟩;have hg:R.getD i []=x:=by rw[Qm,hx];rfl
 have hl:x.length=R.length:=h x (Qo hx);rw[hg];refine We λc=>?_;by_cases hc:c<R.length
 .have e1:(zZ R i)[c]?=some (S R i c):=by simp[zZ,hc]
  have e2:x[c]?=some (x.getD c 0):=kU (by lia);have e3:(zZ R (i+1))[c]?=some (S R (i+1) c):=by simp[zZ,hc]
  rw[e3,mX R i c x hx,Qv,nC e1 e2];rfl
 .rw[Ql (by simp[zZ];lia),Ql (by simp[zZ];lia)]
def i7:Sm:=(.seq (.asg 1 (.compP .zip (.bin .add (.var 4) (.var 5)) (.var 1) (.var 3) (.lit (.bl true)))) (.expr (.meth .append (.var 2) (.pair (.var 1) .unit))))
def mM:Fn:=⟨1,4,(.seq (.asg 1 (.bin .mul (.lst (.pair (.lit (.int 0)) .unit)) (.blt .len (.pair (.var 0) .unit)))) (.seq (.asg 2 (.lst (.pair (.var 1) .unit))) (.seq (.forv 3 (.var 0) i7) (.ret (.var 2)))))⟩
def ku(e:Ex)(x:List Int)(he:∀i:Int,aV lev e (.int i)=.full):(x.map Dat.int).all (λd=>aV lev e d == .full)=true:=by
 rw[WJ,Wc];intro v _;simp[he]
def HY (h:Sq R)(hn:R.length<=100)(hi:i<R.length)(hA:A.length<av):
  aH lev cl i7 [some (au R),some (row (zZ R i)),some (au A),some (row (R.getD i []))] [.no,l1,.top,.no]=.next [some (au R),some (row (zZ R (i+1))),some (au (A++[zZ R (i+1)])),some (row (R.getD i []))] [.no,.no,.top,.no]:=by
 have hx:(R.getD i []).length=R.length:=by
  have hg:R.getD i []=R[i]:=by rw[Qm,Qf hi];rfl
  rw[hg];exact h _ (WV hi)
 have hev:ak cl (.compP .zip (.bin .add (.var 4) (.var 5)) (.var 1) (.var 3) (.lit (.bl true))) [some (au R),some (row (zZ R i)),some (au A),some (row (R.getD i []))]=.ok (row (zZ R (i+1))):=by
  rw[w5];simp only[zd,za,aI,DZ];rw[M6 (by rw[hx];simp[zZ];unfold av;lia)];simp only;rw[yK (λ(p:Int×Int)=>(Dat.int p.1,Dat.int p.2)) (λp=>.int (p.1+p.2)) _ [] (λp _=>by simp) (λp _=>by simp) (by rw[Vq,hx];simp[zZ];unfold av;lia)];rw[<-Hg h hi];simp[row]
 have hlv:aV lev (.compP .zip (.bin .add (.var 4) (.var 5)) (.var 1) (.var 3) (.lit (.bl true))) (row (zZ R (i+1)))=.full:=by
  unfold row
  first|rw[vh]|rw[xB]
  simp only[wz,Qy,if_false];rw[M6 (ku _ _ λi=>by simp)]
 unfold i7;rw[qD,zE,hev];simp only[aU];rw[yC hlv];simp only[zf,Qd,Qc];rw[wK];simp only[zd,za,eg];have hls:x8 [some (au R),some (row (zZ R (i+1))),some (au A),some (row (R.getD i []))] 2=some (A.map row):=rfl;rw[hls];simp only[Qn];rw[M6 hA];simp[xC,yg,row,aR,au]
def Gs (h:Sq R)(hn:R.length<=100)(hlev:lev k=.no):zG lev cl k mM [au R]=.ok (au (kq R)):=by
 have main:=yt (body:=λx de lv=>aH lev cl i7 (de.set 3 (some x)) (lv.set 3 (aT x)))
  (λi de lv=>∃(p3:Option Dat) (l1 l3:Lv),de=[some (au R),some (row (zZ R i)),some (au ((kq R).take (i+1))),p3]/\lv=[.no,l1,.top,l3])
  (R.map row) (de:=[some (au R),some (row (zZ R 0)),some (au [zZ R 0]),none]) (lv:=[.no,.no,.top,.full])
  ⟨none,.no,.full,by simp[kq,Wq],rfl⟩ ?_
 .obtain ⟨de',lv',e,p3,l1,l3,rfl,rfl⟩:=main;unfold zG;rw[M6 (by rfl)];show zD (lev k) (aH lev cl (.seq _ (.seq _ (.seq _ _))) [some (au R),none,none,none] [aT (au R),.full,.full,.full])=_;rw[show aT (au R)=.no from by simp[aT,au],zC];have hlen:y7 .len [au R]=.ok (.int R.length):=by simp[au]
  have hmul:zJ .mul (.lst [.int 0]) (.int R.length)=.ok (row (zZ R 0)):=by
   simp only[zJ];rw[M6 (by unfold av;lia),Int.toNat_natCast,<-IP,xr];simp;unfold av;lia
  simp only[zE,zu,x9,zg,zl,ze,yM,zd,aI,zi,hlen];rw[xr (by simp;unfold av;lia)];simp only[aI,hmul,aU];rw[yC (by simp[row])];simp only[zf,Qd,Qc];rw[zC];simp only[zE,x9,zg,zl,zd,za,aI,zi];rw[xr (by simp;unfold av;lia)];have ha:vB lev 2 (.lst (.pair (.var 1) .unit)) (.lst [row (zZ R 0)]) [some (au R),some (row (zZ R 0)),none,none] [.no,.full,.full,.full]=.next [some (au R),some (row (zZ R 0)),some (au [zZ R 0]),none] [.no,.no,.top,.full]:=by
   simp[vB,row,yB,aR,au]
  simp only[aU,ha,zf];rw[ye,we];have hit:cS (au R)=some (R.map row):=wJ (by simp;unfold av;lia);have hfl:aw (au R)=false:=by simp[au]
  simp only[zd,aU,hit,hfl];have hrel:(if false=true then[Lv.no,Lv.no,Lv.top,Lv.full]else yB (.var 0) [some (au R),some (row (zZ R 0)),some (au [zZ R 0]),none] [Lv.no,Lv.no,Lv.top,Lv.full])=[.no,.no,.top,.full]:=rfl;rw[hrel,e,zf];rw[Qn,WB (by simp[kq])];simp[zD,cu,hlev,wH,au]
 .rintro i x de lv hx ⟨p3,l1,l3,rfl,rfl⟩;have hi:i<R.length:=by
   have:=(Qa.mp hx).1;simpa using this
  have hxi:x=row (R.getD i []):=by
   rw[Qv,Qf hi]at hx;cases hx;rw[Qm,Qf hi];rfl
  subst hxi;refine⟨_,_,?_,some (row (R.getD i [])),.no,.no,rfl,rfl⟩;simp only[Qd,Qc,show aT (row (R.getD i []))=.no from by simp[aT,row]];rw[HY h hn hi (by simp[kq];unfold av;lia)];have e2:(kq R).take (i+1+1)=(kq R).take (i+1)++[zZ R (i+1)]:=by
   rw[Wi];congr 1;simp[kq,hi]
  rw[e2]
def Gr(s:Int)(x:List Int)(h:x.length<=av):xf .enum (row x) (.int s)=some ((QH x.length).map λ(i:Nat)=>(Dat.int (s+i),Dat.int (x.getD i 0))):=by
 simp only[xf,row,Qn];rw[M6 h];congr 1;refine We λi=>?_;by_cases hi:i<x.length
 .rw[nC (a:=Dat.int (s+i)) (b:=Dat.int (x.getD i 0)) (by rw[xD _ _ _ _ hi,Int.one_mul]) (by rw[Qv,kU hi];rfl)];simp[hi]
 .rw[Ql (by simp;lia),Ql (by simp;lia)]
end
end Lib
namespace Lib
section
theorem bO:∀(x:List Int),cm (x.map Dat.int) (x.map Dat.int)=true
 |[]=>rfl
 |v::x=>by simp[cm,bO x]
theorem AB:∀(A:List (List Int)),cm (A.map row) (A.map row)=true
 |[]=>rfl
 |v::x=>by simp[cm,AB x,row,bO]
def HX(A:List (List Int)):y6 y0 (au A)=true:=by
 have h:∀x,y6 11 (row x)=true:=λx=>by
  show y6 (10+1) (row x)=true;simp only[row,kj];rw[xU,WJ];simp
 simp only[au,uh,kj];rw[xU,WJ,Wc];intro x _;exact h x
def C2(A:List (List Int)):yz .ne (au A) (au A)=.ok (.bl false):=by
 simp only[yz,h9,HX A,Bool.and_self,if_true];simp only[au,tf,AB];rfl
end
end Lib
namespace Lib
section
def Gq {x:List Int}(h:x[t]?=some v):(x.take (t+1)).sum=(x.take t).sum+v:=by
 rw[Wi,h,Vn];simp
def Gp(s:Int)(A:List (List Int))(h:A.length<=av):xf .enum (au A) (.int s)=some ((QH A.length).map λ(i:Nat)=>(Dat.int (s+i),row (A.getD i []))):=by
 simp only[xf,au,Qn];rw[M6 h];congr 1;refine We λi=>?_;by_cases hi:i<A.length
 .rw[nC (a:=Dat.int (s+i)) (b:=row (A.getD i [])) (by rw[xD _ _ _ _ hi,Int.one_mul]) (by rw[Qv,Qm,Qf hi];rfl)];simp[hi]
 .rw[Ql (by simp;lia),Ql (by simp;lia)]
end
end Lib
namespace Lib
end Lib
namespace Lib
section
variable{lev:Nat->Lv}{cl:Nat->List Dat->Rd}
def ud (h:k8 t b=false):(t=0\/t=1)/\(b=true->t=1):=by
 cases b with
 |true=>
  have h':t=1:=by simpa [k8]using h
  exact⟨.inr h',λ_=>h'⟩
 |false=>
  refine⟨?_,λe=>by cases e⟩;simp only[k8,Qy,if_false,Bool.not_eq_false',Ww,Nc]at h;exact h
structure bQ(R:List (List Int)):Prop where
 sq:Sq R
 row:∀r c,r<R.length->c<=R.length->((R.getD r []).take c).sum=0\/((R.getD r []).take c).sum=1
 rowE:∀r,r<R.length->((R.getD r []).take R.length).sum=1
 col:∀r c,r<=R.length->c<R.length->S R r c=0\/S R r c=1
 colE:∀c,c<R.length->S R R.length c=1
def bQ.of{R:List (List Int)}(sq:Sq R)(h:∀r c,r<R.length->c<R.length->lR R r c=false):bQ R:=by
 have q:∀r c,r<R.length->c<R.length->((ac R r (c+1)=0\/ac R r (c+1)=1)/\(c+1=R.length->ac R r (c+1)=1))/\(S R (r+1) c=0\/S R (r+1) c=1)/\(r+1=R.length->S R (r+1) c=1):=by
  intro r c hr hc;have:=h r c hr hc;unfold lR at this;rw[Bool.or_eq_false_iff]at this;obtain⟨a1,a2⟩:=ud this.1;obtain⟨b1,b2⟩:=ud this.2;exact⟨⟨a1,λe=>a2 (by simp;lia)⟩,b1,λe=>b2 (by simp;lia)⟩
 refine⟨sq,λr c hr hc=>?_,λr hr=>?_,λr c hr hc=>?_,λc hc=>?_⟩
 .cases c with
  |zero=>left;simp
  |succ c=>exact(q r c hr (by lia)).1.1
 .have:=(q r (R.length-1) hr (by lia)).1.2 (by lia);unfold ac at this
  rwa[show R.length-1+1=R.length by lia]at this
 .cases r with
  |zero=>left;simp[S]
  |succ r=>exact(q r c (by lia) hc).2.1
 .have:=(q (R.length-1) c (by lia) hc).2.2 (by lia)
  rwa[show R.length-1+1=R.length by lia]at this
def DY(de:aO)(lv:List Lv)(j:Nat):aH lev cl (.expr (.meth .clear (.var j) .unit)) de lv=match x8 de j with
   |some ds=>if yg lv j then .next (de.set j (some (.lst []))) lv else .no
   |none=>.no:=rfl
end
end Lib
namespace Lib
def fl(p:Pl):Pl:=(p.2,p.1)
def ck(R:List (List Int))(r c:Nat):Int:=((R.getD r []).take c).sum
def bS(R:List (List Int))(r c:Nat):Di->Bool
 |.u=>decide (S R r c=((r:Int)+c)%2)
 |.r=>! decide ((if ck R r (c+1)=0 then 1 else 0)=((r:Int)+c)%2)
 |.d=>! decide (S R (r+1) c=((r:Int)+c)%2)
 |.l=>decide ((if ck R r c=0 then 1 else 0)=((r:Int)+c)%2)
def dI(R:List (List Int)):Tr:=λp d=>bS R p.1.toNat p.2.toNat d
def neg(t:Tr):Tr:=λp d=>! t p d
def uc (h:Sq R)(hr:r<R.length):(R.getD r []).length=R.length:=by
 rw[Qm,Qf hr];exact h _ (WV hr)
def uR (h:Sq R)(hr:r<R.length)(hc:c<R.length):ck R r (c+1)=ck R r c+(R.getD r []).getD c 0:=by
 unfold ck;have hl:=uc h hr;generalize R.getD r []=x at *
 rw[Wi,Vn,Qf (by lia)];simp[Qm,Qf (show c<x.length by lia)]
def uQ (hr:r<R.length):S R (r+1) c=S R r c+(R.getD r []).getD c 0:=by
 have e:R[r]?=some (R.getD r []):=by rw[Qm,Qf hr];rfl
 exact mX R r c _ e
def rW(r c:Nat):((r:Int)+c)%2=0\/((r:Int)+c)%2=1:=by lia
def C1 (H:bQ R)(hr:r<R.length)(hc:c<R.length):(bh.filter (bS R r c)).length=2:=by
 have h1:ck R r c=0\/ck R r c=1:=H.row r c hr (by lia);have h2:ck R r (c+1)=0\/ck R r (c+1)=1:=H.row r (c+1) hr hc;have h3:=H.col r c (by lia) hc;have h4:=H.col (r+1) c hr hc;have e1:=uR H.sq hr hc;have e2:=uQ (c:=c) hr;have h5:=rW r c;unfold bh;generalize (R.getD r []).getD c 0=a at *
 have e3:bS R r c .u=decide (S R r c=((r:Int)+c)%2):=rfl;have e4:bS R r c .r=! decide ((if ck R r (c+1)=0 then 1 else 0)=((r:Int)+c)%2):=rfl;have e5:bS R r c .d=! decide (S R (r+1) c=((r:Int)+c)%2):=rfl;have e6:bS R r c .l=decide ((if ck R r c=0 then 1 else 0)=((r:Int)+c)%2):=rfl;generalize ((r:Int)+c)%2=o at *
 generalize ck R r c=p at *
 generalize ck R r (c+1)=p' at *
 generalize S R r c=q at *
 generalize S R (r+1) c=q' at *
 simp only[Vi,List.filter_nil,e3,e4,e5,e6];rcases h1 with rfl|rfl<;>rcases h2 with rfl|rfl<;>rcases h3 with rfl|rfl<;>rcases h4 with rfl|rfl<;>rcases h5 with rfl|rfl<;>first|(exfalso;lia)|decide
def tu (H:bQ R):cN R.length (dI R):=by
 have hor:∀r c:Nat,bS R r (c+1) .l=bS R r c .r:=λr c=>by
  show decide ((if ck R r (c+1)=0 then 1 else 0)=((r:Int)+((c+1:Nat):Int))%2)=! decide ((if ck R r (c+1)=0 then 1 else 0)=((r:Int)+c)%2);have h5:=rW r c;rw[<-decide_not];apply decide_eq_decide.mpr;split<;>lia
 have ver:∀r c:Nat,r+1<=R.length->c<R.length->bS R (r+1) c .u=bS R r c .d:=λr c hr hc=>by
  show decide (S R (r+1) c=(((r+1:Nat):Int)+c)%2)=! decide (S R (r+1) c=((r:Int)+c)%2);have h4:=H.col (r+1) c hr hc;rw[<-decide_not];apply decide_eq_decide.mpr;lia
 refine⟨λp e h1 h2=>?_,λp h=>?_⟩
 .obtain ⟨⟨a0,a1⟩,b0,b1⟩:=aK.mp h1;obtain⟨⟨c0,c1⟩,d0,d1⟩:=aK.mp h2;obtain⟨a,b⟩:=p;obtain⟨i,rfl⟩:=Wf a0;obtain⟨j,rfl⟩:=Wf b0;simp only[]at a1 b1;cases e with
  |u=>
   simp only[aP]at c0;obtain⟨k,rfl⟩:∃k,i=k+1:=⟨i-1,by lia⟩;show bS R (((k+1:Nat):Int)-1).toNat j .d=bS R (k+1) j .u;rw[show(((k+1:Nat):Int)-1).toNat=k by lia];exact(ver k j (by lia) (by lia)).symm
  |r=>
   show bS R i ((j:Int)+1).toNat .l=bS R i j .r;rw[show((j:Int)+1).toNat=j+1 by lia];exact hor i j
  |d=>
   simp only[aP]at c1;show bS R ((i:Int)+1).toNat j .u=bS R i j .d;rw[show((i:Int)+1).toNat=i+1 by lia];exact ver i j (by lia) (by lia)
  |l=>
   simp only[aP]at d0;obtain⟨k,rfl⟩:∃k,j=k+1:=⟨j-1,by lia⟩;show bS R i (((k+1:Nat):Int)-1).toNat .r=bS R i (k+1) .l;rw[show(((k+1:Nat):Int)-1).toNat=k by lia];exact(hor i k).symm
 .obtain ⟨⟨a0,a1⟩,b0,b1⟩:=aK.mp h;exact C1 H (by lia) (by lia)
theorem cN.neg{n:Nat}{t:Tr}(F:cN n t):cN n (neg t):=by
 refine⟨λp e h1 h2=>?_,λp h=>?_⟩
 .show (! t (aP e p) (cH e))=! t p e;rw[F.con p e h1 h2]
 .have:=F.two p h;show(bh.filter λd=>! t p d).length=2;unfold bh at *
  cases h1:t p .u<;>cases h2:t p .r<;>cases h3:t p .d<;>cases h4:t p .l<;>simp[h1,h2,h3,h4]at this ⊢
def C0 (H:bQ R)(h1:bq R.length p=true)(h2:bq R.length (aP e p)=false):dI R p e=decide (yq R.length p e%2=0):=by
 obtain⟨⟨a0,a1⟩,b0,b1⟩:=aK.mp h1;have h2:¬(bq R.length (aP e p)=true):=by rw[h2];exact QP
 rw[aK]at h2;obtain⟨a,b⟩:=p;obtain⟨i,rfl⟩:=Wf a0;obtain⟨j,rfl⟩:=Wf b0;simp only[]at a1 b1;cases e with
 |u=>
  simp only[aP]at h2;have:i=0:=by lia
  subst this;show decide (S R 0 j=(((0:Nat):Int)+j)%2)=decide ((j:Int)%2=0);apply decide_eq_decide.mpr;rw[show S R 0 j=0 from rfl];lia
 |r=>
  simp only[aP]at h2;have:j+1=R.length:=by lia
  have hE:ck R i (j+1)=1:=by rw[this];exact H.rowE i (by lia)
  show(! decide ((if ck R i (j+1)=0 then 1 else 0)=((i:Int)+j)%2))=decide (((R.length:Int)+i)%2=0);rw[hE,<-decide_not];apply decide_eq_decide.mpr;simp only[show ¬((1:Int)=0)from by decide,if_false];lia
 |d=>
  simp only[aP]at h2;have:i+1=R.length:=by lia
  have hE:S R (i+1) j=1:=by rw[this];exact H.colE j (by lia)
  show(! decide (S R (i+1) j=((i:Int)+j)%2))=decide ((3*(R.length:Int)-1-j)%2=0);rw[hE,<-decide_not];apply decide_eq_decide.mpr;lia
 |l=>
  simp only[aP]at h2;have:j=0:=by lia
  subst this;show decide ((if ck R i 0=0 then 1 else 0)=((i:Int)+((0:Nat):Int))%2)=decide ((4*(R.length:Int)-1-i)%2=0);apply decide_eq_decide.mpr;rw[M6 (show ck R i 0=0 from by simp[ck])];lia
def bu(n:Nat)(ρ:Nat):bP:=match ρ/n with
 |0=>((0,((ρ%n:Nat):Int)),.u)
 |1=>((((ρ%n:Nat):Int),(n:Int)-1),.r)
 |2=>(((n:Int)-1,(n:Int)-1-((ρ%n:Nat):Int)),.d)
 |_=>(((n:Int)-1-((ρ%n:Nat):Int),0),.l)
def qG (hn:0<n)(h:ρ<4*n):bq n (bu n ρ).1=true/\eU n (bu n ρ)/\yq n (bu n ρ).1 (bu n ρ).2=ρ:=by
 have h1:=Nat.div_add_mod ρ n;have h2:=Nat.mod_lt ρ hn;have h3:ρ/n<4:=W8 (by rw[WY];exact h);unfold bu eU;generalize ρ%n=m at *
 generalize hq:ρ/n=q at *
 have hb:∀x:Pl,bq n x=false↔¬((0<=x.1/\x.1<n)/\(0<=x.2/\x.2<n)):=λx=>by rw[<-aK];simp
 match q,h3 with
 |0,_=>exact⟨aK.mpr ⟨⟨by simp,by simp;lia⟩,by simp,by simp;lia⟩,(hb _).mpr (by simp[aP]),by simp[yq];lia⟩
 |1,_=>exact⟨aK.mpr ⟨⟨by simp,by simp;lia⟩,by simp;lia,by simp;lia⟩,(hb _).mpr (by simp[aP]),by simp[yq];lia⟩
 |2,_=>exact⟨aK.mpr ⟨⟨by simp;lia,by simp;lia⟩,by simp;lia,by simp;lia⟩,(hb _).mpr (by simp[aP]),by simp[yq];lia⟩
 |3,_=>exact⟨aK.mpr ⟨⟨by simp;lia,by simp;lia⟩,by simp,by simp;lia⟩,(hb _).mpr (by simp[aP]),by simp[yq];lia⟩
end Lib
namespace Lib
section
variable{lev:Nat->Lv}{cl:Nat->List Dat->Rd}
def DX (hx:x.length<av)(de:aO)(lv:List Lv)(j:Nat)(he:ak cl e de=.ok (.int v))(hd:de[j]?=some (some (row x)))(hj:yg lv j=true):
  aH lev cl (.expr (.meth .append (.var j) (.pair e .unit))) de lv=.next (de.set j (some (row (x++[v])))) lv:=by
 rw[wK,he];simp only[eg];have hls:x8 de j=some (x.map Dat.int):=by simp[x8,hd,row]
 rw[hls];simp only[Qn];rw[M6 hx];have hg:xC lev e (.int v) j de lv=some (de,lv):=by
  unfold xC;rw[M7 (by simp[hj]),M6 (yA lev e _ rfl)]
 rw[hg];simp[row]
def j4(c:Ex)(body:Sm)(de:aO)(lv:List Lv):aH lev cl (.while c body) de lv=yJ (ak cl c) (aH lev cl body) 1000000 de lv:=rfl
def IN (P:Nat->aO->List Lv->Prop)(N:Nat)(hs:∀t de lv,t<N->P t de lv->c de=.ok (.bl true)/\∃de' lv',body de lv=.next de' lv'/\P (t+1) de' lv')(he:∀de lv,P N de lv->c de=.ok (.bl false)):
  ∀(n t fuel:Nat) (de:aO) (lv:List Lv),t+n=N->n<fuel->P t de lv->∃de' lv',yJ c body fuel de lv=.next de' lv'/\P N de' lv':=by
 intro n
 induction n with
 |zero=>
  intro t fuel de lv h1 h2 p;obtain⟨f,rfl⟩:∃f,fuel=f+1:=⟨fuel-1,by lia⟩;have:t=N:=by lia
  subst this;refine⟨de,lv,?_,p⟩;unfold yJ;rw[he de lv p]
 |succ n ih=>
  intro t fuel de lv h1 h2 p;obtain⟨f,rfl⟩:∃f,fuel=f+1:=⟨fuel-1,by lia⟩;obtain⟨hc,d1,l1,hb,p1⟩:=hs t de lv (by lia) p;obtain⟨d2,l2,e,p2⟩:=ih (t+1) f d1 l1 (by lia) (by lia) p1;refine⟨d2,l2,?_,p2⟩;unfold yJ;rw[hc];simp only;rw[hb];exact e
end
end Lib
namespace Lib
section
def CZ(x:List Int):yz .ne (row x) (row [])=.ok (.bl (! decide (x=[]))):=by
 have h:∀y,y6 y0 (row y)=true:=λy=>by
  simp only[row,uh,kj];rw[xU];simp
 simp only[yz,h9,h,Bool.and_self,if_true];simp only[row,tf,WW];cases x with
 |nil=>rfl
 |cons v x=>simp[cm];rfl
end
end Lib
namespace Lib
end Lib
namespace Lib
end Lib
namespace Lib
structure HF(n:Nat)(G:Nat->Nat->Int):Prop where
 top:∀j,j<=n->G 0 j=j
 left:∀i,i<=n->G i 0=i
 low:∀j,j<=n->G n j=(n:Int)-j
 right:∀i,i<=n->G i n=(n:Int)-i
 across:∀i j,i<=n->j<n->G i (j+1)-G i j=1\/G i (j+1)-G i j=-1
 down:∀i j,i<n->j<=n->G (i+1) j-G i j=1\/G (i+1) j-G i j=-1
end Lib
namespace Lib
end Lib
namespace Lib
end Lib
namespace Lib
section
def mx(a b:Int):Int:=if b > a then b else a
end
end Lib
namespace Lib
section
variable{lev:Nat->Lv}
def xH(q:Nat)(F:Nat->Nat->Int)(i:Nat):List Int:=(QH q).map (F i)
def yw(p q:Nat)(F:Nat->Nat->Int):List (List Int):=(QH p).map (xH q F)
def j6(p q:Nat)(F:Nat->Nat->Int):(yw p q F).length=p:=by simp[yw]
def AA(q:Nat)(F:Nat->Nat->Int)(i:Nat):(xH q F i).length=q:=by simp[xH]
def j7 (h:i<p):zQ (au (yw p q F)) (.int (i:Int))=.ok (row (xH q F i)):=ue (by simp[yw,h])
def ES (lev:Nat->Lv)(h:∀i:Int,aV lev e (.int i)=.full):aV lev (.comp e it c) (row x)=.full:=by
 unfold row
 first|rw[vh]|rw[xB]
 simp only[wz,Qy,if_false];rw[M6 (ku _ _ h)]
def dR(R:List (List Int))(r c:Nat):Int:=1-2*((R.getD r []).take c).sum
def eG(R:List (List Int))(r c:Nat):Int:=2*S R r c-1
def qH{n:Nat}(h:n<=100):jR (.int 0) (.int n) (.int 1)=.ok (.tup (yu 0 1 n)):=by
 rw[mZ (by unfold av;lia)];simp[qZ]
def arr(n:Nat)(F G:Nat->Nat->Int):Dat:=.tup [au (yw n (n+1) F),au (yw (n+1) n G)]
end
end Lib
namespace Lib
section
variable{lev:Nat->Lv}{cl:Nat->List Dat->Rd}{k:Nat}
def iq:Di->List Nat
 |.u=>[85] |.r=>[82] |.d=>[68] |.l=>[76]
def aE(p:Pl):Dat:=.tup [.int p.1,.int p.2]
def zw(d:Di):Dat:=.str (iq d)
def sH{α:Type}(e:Di)(a b c d:α):α:=match e with
 |.u=>a |.r=>b |.d=>c |.l=>d
def CY(a b:List Nat):yz .eq (.str a) (.str b)=.ok (.bl (decide (a=b))):=rfl
def CW(a b:List Nat):yz .ne (.str a) (.str b)=.ok (.bl (! decide (a=b))):=rfl
@[simp]theorem KY(de:aO):ak cl .dict0 de=.ok (.dct [] []):=rfl
@[simp]theorem uP(a b:Ex)(de:aO):ak cl (.dget a b) de=(ak cl a de).bind λx=>(ak cl b de).bind λy=>v9 x y:=rfl
def mL(a:Ex)(de:aO):ak cl (.tup (.pair a .unit)) de=(ak cl a de).bind λx=>.ok (.tup [x]):=by
 rw[wZ,zg,zl];cases ak cl a de with
 |ok x=>exact M6 (e:=Rd.no) (show 1<=av by decide)
 |_=>rfl
def j8(a b:Ex)(de:aO):ak cl (.tup (.pair a (.pair b .unit))) de=(ak cl a de).bind λx=>(ak cl b de).bind λy=>.ok (.tup [x,y]):=by
 rw[wZ,zg,zg,zl];cases ak cl a de with
 |ok x=>
  cases ak cl b de with
  |ok y=>exact M6 (e:=Rd.no) (show 2<=av by decide)
  |_=>rfl
 |_=>rfl
def sG(a b c:Ex)(de:aO):ak cl (.tup (.pair a (.pair b (.pair c .unit)))) de=(ak cl a de).bind λx=>(ak cl b de).bind λy=>(ak cl c de).bind λz=>.ok (.tup [x,y,z]):=by
 rw[wZ,zg,zg,zg,zl];cases ak cl a de with
 |ok x=>
  cases ak cl b de with
  |ok y=>
   cases ak cl c de with
   |ok z=>exact M6 (e:=Rd.no) (show 3<=av by decide)
   |_=>rfl
  |_=>rfl
 |_=>rfl
def BI(a b c d:Ex)(de:aO):ak cl (.tup (.pair a (.pair b (.pair c (.pair d .unit))))) de=(ak cl a de).bind λx=>(ak cl b de).bind λy=>(ak cl c de).bind λz=>(ak cl d de).bind λw=>.ok (.tup [x,y,z,w]):=by
 rw[wZ,zg,zg,zg,zg,zl];cases ak cl a de with
 |ok x=>
  cases ak cl b de with
  |ok y=>
   cases ak cl c de with
   |ok z=>
    cases ak cl d de with
    |ok w=>exact M6 (e:=Rd.no) (show 4<=av by decide)
    |_=>rfl
   |_=>rfl
  |_=>rfl
 |_=>rfl
def sF(a b c d:Ex)(de:aO):ak cl (.lst (.pair a (.pair b (.pair c (.pair d .unit))))) de=(ak cl a de).bind λx=>(ak cl b de).bind λy=>(ak cl c de).bind λz=>(ak cl d de).bind λw=>.ok (.lst [x,y,z,w]):=by
 rw[x9,zg,zg,zg,zg,zl];cases ak cl a de with
 |ok x=>
  cases ak cl b de with
  |ok y=>
   cases ak cl c de with
   |ok z=>
    cases ak cl d de with
    |ok w=>exact xr (show 4<=av by decide)
    |_=>rfl
   |_=>rfl
  |_=>rfl
 |_=>rfl
def CV (h:ak cl (.var i) de=.ok (zw e)):ak cl (wT i [85] [82] [68] [76]) de=.ok (.int (sH e 0 1 2 3)):=by
 unfold wT;simp only[kS,zH,zW,h,aI,zw,CY];cases e<;>rfl
def qI (h:ak cl (.var i) de=.ok (zw e))(ha:ak cl a de=.ok A)(hb:ak cl b de=.ok B)(hc:ak cl c de=.ok C)(hd:ak cl d de=.ok D):
  ak cl (.idx (wu a b c d) (wT i [85] [82] [68] [76])) de=.ok (sH e A B C D):=by
 rw[yh,CV h];unfold wu;rw[BI];simp only[ha,hb,hc,hd,aI];cases e<;>rfl
def nB:Fn:=⟨2,3,(.seq (.asg 2 (.bin .mod (.var 1) (.var 0))) (.ret (.idx (.lst (.pair (.tup (.pair (.tup (.pair (.lit (.int 0)) (.pair (.var 2) .unit))) (.pair (.lit (.str [85])) .unit))) (.pair (.tup (.pair (.tup (.pair (.var 2) (.pair (.bin .sub (.var 0) (.lit (.int 1))) .unit))) (.pair (.lit (.str [82])) .unit))) (.pair (.tup (.pair (.tup (.pair (.bin .sub (.var 0) (.lit (.int 1))) (.pair (.bin .sub (.bin .sub (.var 0) (.lit (.int 1))) (.var 2)) .unit))) (.pair (.lit (.str [68])) .unit))) (.pair (.tup (.pair (.tup (.pair (.bin .sub (.bin .sub (.var 0) (.lit (.int 1))) (.var 2)) (.pair (.lit (.int 0)) .unit))) (.pair (.lit (.str [76])) .unit))) .unit))))) (.bin .fdiv (.var 1) (.var 0)))))⟩
def HW {ρ:Nat}(hn:0<n)(hn':n<=12)(h:ρ<4*n):zG lev cl k nB [.int n,.int ρ]=.ok (.tup [aE (bu n ρ).1,zw (bu n ρ).2]):=by
 have e1:zJ .mod (.int ρ) (.int n)=.ok (.int ((ρ%n:Nat):Int)):=xj _ _ (by lia);have e2:zJ .fdiv (.int ρ) (.int n)=.ok (.int ((ρ/n:Nat):Int)):=vp _ _ (by lia) (by lia);have h3:ρ/n<4:=W8 (by rw[WY];exact h);have l2:(2:Nat)<=av:=by decide
 unfold zG;rw[M6 (by rfl)];show zD (lev k) (aH lev cl (.seq (.asg 2 _) (.ret _)) [some (.int n),some (.int ρ),none] _)=_;rw[ye];simp only[zE,zu,zd,za,aI,e1,aU];rw[zS (by simp)];simp only[zf,Qd,Qc,zI,yh,sF,j8,zu,zd,za,ze,zW,aI,yE,e2];unfold bu;generalize ρ%n=m at *
 generalize ρ/n=q at *
 match q,h3 with
 |0,_=>rfl
 |1,_=>rfl
 |2,_=>rfl
 |3,_=>rfl
def pZ:Ex:=(.and (.chain .le .lt (.lit (.int 0)) (.idx (.var 5) (.lit (.int 0))) (.var 0)) (.chain .le .lt (.lit (.int 0)) (.idx (.var 5) (.lit (.int 1))) (.var 0)))
def lQ:Ex:=(.idx (wu (.tup (.pair (.bin .sub (.var 3) (.lit (.int 1))) (.pair (.var 4) .unit))) (.tup (.pair (.var 3) (.pair (.bin .add (.var 4) (.lit (.int 1))) .unit))) (.tup (.pair (.bin .add (.var 3) (.lit (.int 1))) (.pair (.var 4) .unit))) (.tup (.pair (.var 3) (.pair (.bin .sub (.var 4) (.lit (.int 1))) .unit)))) (wT 2 [85] [82] [68] [76]))
def pY:Ex:=(.idx (wu (.lit (.str [68])) (.lit (.str [76])) (.lit (.str [85])) (.lit (.str [82]))) (wT 2 [85] [82] [68] [76]))
def pX:Ex:=(.idx (wu (.var 4) (.bin .add (.var 0) (.var 3)) (.bin .sub (.bin .sub (.bin .mul (.lit (.int 3)) (.var 0)) (.lit (.int 1))) (.var 4)) (.bin .sub (.bin .sub (.bin .mul (.lit (.int 4)) (.var 0)) (.lit (.int 1))) (.var 3))) (wT 2 [85] [82] [68] [76]))
def mf:Fn:=⟨3,6,(.seq (.fort 3 4 (.tup (.pair (.var 1) .unit)) .skip) (.seq (.asg 5 lQ) (.seq (.ite pZ (.ret (.tup (.pair (.var 5) (.pair pY (.pair (.lit .non) .unit))))) .skip) (.ret (.tup (.pair (.var 1) (.pair (.var 2) (.pair pX .unit))))))))⟩
def CU {n:Nat}:ak cl pZ [some (.int n),d1,d2,d3,d4,some (aE q)]=.ok (.bl (bq n q)):=by
 have g0:zQ (aE q) (.int 0)=.ok (.int q.1):=rfl;have g1:zQ (aE q) (.int 1)=.ok (.int q.2):=rfl;unfold pZ bq;simp only[yW,jV,yh,ze,zd,za,aI,g0,g1,mH,gR];by_cases h1:0<=q.1
 .by_cases h2:q.1<n
  .by_cases h3:0<=q.2
   .simp[h1,h2,h3]
   .simp[h1,h2,h3]
  .simp[h1,h2]
 .simp[h1]
def fF(n:Nat)(p:Pl)(e:Di):Dat:=if bq n (aP e p)=true then .tup [aE (aP e p),zw (cH e),.non]else .tup [aE p,zw e,.int (yq n p e)]
def ER{n:Nat}(hn:n<=12)(p:Pl)(e:Di):zG lev cl k mf [.int n,aE p,zw e]=.ok (fF n p e):=by
 have l1:(1:Nat)<=av:=by decide
 have l2:(2:Nat)<=av:=by decide
 have l3:(3:Nat)<=av:=by decide
 have hv:∀d3 d4 d5,ak cl (.var 2) [some (.int n),some (aE p),some (zw e),d3,d4,d5]=.ok (zw e):=λ_ _ _=>rfl;have m3:zJ .mul (.int 3) (.int n)=.ok (.int (3*n)):=yG _ _ (by decide);have m4:zJ .mul (.int 4) (.int n)=.ok (.int (4*n)):=yG _ _ (by decide);have hS:ak cl lQ [some (.int n),some (aE p),some (zw e),some (.int p.1),some (.int p.2),none]=.ok (aE (aP e p)):=by
  unfold lQ;rw[qI (hv _ _ _) (A:=aE (aP .u p)) (B:=aE (aP .r p)) (C:=aE (aP .d p)) (D:=aE (aP .l p))]
  .cases e<;>rfl
  all_goals
   simp only[j8,zu,zd,za,ze,aI,yE,zX];rfl
 have hO:∀d5,ak cl pY [some (.int n),some (aE p),some (zw e),some (.int p.1),some (.int p.2),d5]=.ok (zw (cH e)):=λd5=>by
  unfold pY;rw[qI (hv _ _ _) (A:=zw .d) (B:=zw .l) (C:=zw .u) (D:=zw .r) rfl rfl rfl rfl];cases e<;>rfl
 have hR:∀d5,ak cl pX [some (.int n),some (aE p),some (zw e),some (.int p.1),some (.int p.2),d5]=.ok (.int (yq n p e)):=λd5=>by
  unfold pX;rw[qI (hv _ _ _) (A:=.int (yq n p .u)) (B:=.int (yq n p .r)) (C:=.int (yq n p .d)) (D:=.int (yq n p .l))]
  .cases e<;>rfl
  .rfl
  .simp only[zu,zd,za,aI,zX];rfl
  .simp only[zu,zd,za,ze,aI,m3,yE];rfl
  .simp only[zu,zd,za,ze,aI,m4,yE];rfl
 unfold zG;rw[M6 (by rfl)];show zD (lev k) (aH lev cl (.seq _ (.seq (.asg 5 lQ) (.seq _ (.ret _)))) [some (.int n),some (aE p),some (zw e),none,none,none] _)=_;rw[zC,qC];simp only[mL,zd,za,aI,aU,wq];rw[show aE p=.tup [.int p.1,.int p.2]from rfl];simp only[yY,zR,zf,Qd,Qc];rw[show(.tup [.int p.1,.int p.2]:Dat)=aE p from rfl,zC,zE,hS];simp only[aU];rw[zS (by simp[aE])];simp only[zf,Qd,Qc];rw[ye,yi,CU];simp only[aU];unfold fF;by_cases hi:bq n (aP e p)=true
 .rw[hi,M6 rfl];simp only[zI,sG,zd,za,zO,hO,aI,aU];simp[bZ.then,zD,aE,zw]
 .rw[M7 hi];simp only[Bool.not_eq_true]at hi;rw[hi];simp only[zR,zf,zI,sG,zd,za,hR,aI,aU];simp[zD,aE,zw]
end
end Lib
namespace Lib
section
variable{lev:Nat->Lv}{cl:Nat->List Dat->Rd}{k:Nat}
def mv:Fn:=⟨3,3,(.ret (.and (.chain .le .lt (.lit (.int 0)) (.var 1) (.var 0)) (.chain .le .lt (.lit (.int 0)) (.var 2) (.var 0))))⟩
def EQ {c:Nat}(hr:r<n)(hc:c<n):zG lev cl k mv [.int n,.int r,.int c]=.ok (.bl true):=by
 unfold zG;rw[M6 (by rfl)];show zD (lev k) (aH lev cl (.ret _) [some (.int n),some (.int r),some (.int c)] _)=_;simp only[zI,yW,jV,ze,zd,za,aI,mH,gR];rw[Na (show(0:Int)<=r by lia),Na (show(0:Int)<=c by lia)];simp only[aI,gR];rw[Na (show(r:Int)<n by lia),Na (show(c:Int)<n by lia)];simp only[aI,aU];simp[zD]
def mr(ki:Nat):Fn:=⟨4,4,(.seq (.ite (.not (.call ki (.pair (.var 0) (.pair (.var 1) (.pair (.var 2) .unit))))) (.ret (.lit .non)) .skip) (.seq (.ite (.and (.cmp .eq (.var 3) (.lit (.str [85]))) (.cmp .eq (.var 1) (.lit (.int 0)))) (.ret (.var 2)) .skip) (.seq (.ite (.and (.cmp .eq (.var 3) (.lit (.str [82]))) (.cmp .eq (.var 2) (.bin .sub (.var 0) (.lit (.int 1))))) (.ret (.bin .add (.var 0) (.var 1))) .skip) (.seq (.ite (.and (.cmp .eq (.var 3) (.lit (.str [68]))) (.cmp .eq (.var 1) (.bin .sub (.var 0) (.lit (.int 1))))) (.ret (.bin .add (.bin .mul (.lit (.int 2)) (.var 0)) (.bin .sub (.bin .sub (.var 0) (.lit (.int 1))) (.var 2)))) .skip) (.seq (.ite (.and (.cmp .eq (.var 3) (.lit (.str [76]))) (.cmp .eq (.var 2) (.lit (.int 0)))) (.ret (.bin .add (.bin .mul (.lit (.int 3)) (.var 0)) (.bin .sub (.bin .sub (.var 0) (.lit (.int 1))) (.var 1)))) .skip) (.ret (.lit .non)))))))⟩
def fq(n:Nat)(p:Pl)(e:Di):Dat:=if bq n (aP e p)=true then .non else .int (yq n p e)
def EO {c:Nat}(hr:r<n)(hc:c<n)(hi:cl ki [.int n,.int r,.int c]=.ok (.bl true))(e:Di):zG lev cl k (mr ki) [.int n,.int r,.int c,zw e]=.ok (fq n ((r:Int),(c:Int)) e):=by
 have m2:zJ .mul (.int 2) (.int n)=.ok (.int (2*n)):=yG _ _ (by decide);have m3:zJ .mul (.int 3) (.int n)=.ok (.int (3*n)):=yG _ _ (by decide);have hq:∀(a b:Di) ,yz .eq (zw a) (zw b)=.ok (.bl (decide (a=b))):=λa b=>by cases a<;>cases b<;>rfl
 have q1:=λa=>hq a .u;have q2:=λa=>hq a .r;have q3:=λa=>hq a .d;have q4:=λa=>hq a .l;unfold zG;rw[M6 (by rfl)];show zD (lev k) (aH lev cl (.seq _ (.seq _ (.seq _ (.seq _ (.seq _ (.ret _)))))) [some (.int n),some (.int r),some (.int c),some (zw e)] _)=_;unfold fq;have s1:Dat.str [85]=zw .u:=rfl;have s2:Dat.str [82]=zw .r:=rfl;have s3:Dat.str [68]=zw .d:=rfl;have s4:Dat.str [76]=zw .l:=rfl;cases e with
 |u=>
  by_cases z:(r:Int)=0
  .have t:bq n (aP .u ((r:Int),(c:Int)))=false:=by
    cases q:bq n (aP .u ((r:Int),(c:Int)))with
    |false=>rfl
    |true=>have:=aK.mp q;simp only[aP]at this;lia
   rw[t];simp only[zC,ye,yi,xi,zq,zg,zl,yW,zH,zu,zd,za,zW,ze,zO,aI,zi,hi,Q2,aU,zR,zf,s1,s2,s3,s4,q1,q2,q3,q4,yL,yE,zX,m2,m3,zI,reduceCtorEq,decide_false,decide_true,Na z,Qy,if_false,yq];simp[zD]
   try lia
  .have t:bq n (aP .u ((r:Int),(c:Int)))=true:=aK.mpr (by simp only[aP];lia);rw[t];simp only[zC,ye,yi,xi,zq,zg,zl,yW,zH,zu,zd,za,zW,ze,zO,aI,zi,hi,Q2,aU,zR,zf,s1,s2,s3,s4,q1,q2,q3,q4,yL,yE,zX,m2,m3,zI,reduceCtorEq,decide_false,decide_true,M5 z,if_true,yq];simp[zD]
 |r=>
  by_cases z:(c:Int)=(n:Int)-1
  .have t:bq n (aP .r ((r:Int),(c:Int)))=false:=by
    cases q:bq n (aP .r ((r:Int),(c:Int)))with
    |false=>rfl
    |true=>have:=aK.mp q;simp only[aP]at this;lia
   rw[t];simp only[zC,ye,yi,xi,zq,zg,zl,yW,zH,zu,zd,za,zW,ze,zO,aI,zi,hi,Q2,aU,zR,zf,s1,s2,s3,s4,q1,q2,q3,q4,yL,yE,zX,m2,m3,zI,reduceCtorEq,decide_false,decide_true,Na z,Qy,if_false,yq];simp[zD]
   try lia
  .have t:bq n (aP .r ((r:Int),(c:Int)))=true:=aK.mpr (by simp only[aP];lia);rw[t];simp only[zC,ye,yi,xi,zq,zg,zl,yW,zH,zu,zd,za,zW,ze,zO,aI,zi,hi,Q2,aU,zR,zf,s1,s2,s3,s4,q1,q2,q3,q4,yL,yE,zX,m2,m3,zI,reduceCtorEq,decide_false,decide_true,M5 z,if_true,yq];simp[zD]
 |d=>
  by_cases z:(r:Int)=(n:Int)-1
  .have t:bq n (aP .d ((r:Int),(c:Int)))=false:=by
    cases q:bq n (aP .d ((r:Int),(c:Int)))with
    |false=>rfl
    |true=>have:=aK.mp q;simp only[aP]at this;lia
   rw[t];simp only[zC,ye,yi,xi,zq,zg,zl,yW,zH,zu,zd,za,zW,ze,zO,aI,zi,hi,Q2,aU,zR,zf,s1,s2,s3,s4,q1,q2,q3,q4,yL,yE,zX,m2,m3,zI,reduceCtorEq,decide_false,decide_true,Na z,Qy,if_false,yq];simp[zD]
   try lia
  .have t:bq n (aP .d ((r:Int),(c:Int)))=true:=aK.mpr (by simp only[aP];lia);rw[t];simp only[zC,ye,yi,xi,zq,zg,zl,yW,zH,zu,zd,za,zW,ze,zO,aI,zi,hi,Q2,aU,zR,zf,s1,s2,s3,s4,q1,q2,q3,q4,yL,yE,zX,m2,m3,zI,reduceCtorEq,decide_false,decide_true,M5 z,if_true,yq];simp[zD]
 |l=>
  by_cases z:(c:Int)=0
  .have t:bq n (aP .l ((r:Int),(c:Int)))=false:=by
    cases q:bq n (aP .l ((r:Int),(c:Int)))with
    |false=>rfl
    |true=>have:=aK.mp q;simp only[aP]at this;lia
   rw[t];simp only[zC,ye,yi,xi,zq,zg,zl,yW,zH,zu,zd,za,zW,ze,zO,aI,zi,hi,Q2,aU,zR,zf,s1,s2,s3,s4,q1,q2,q3,q4,yL,yE,zX,m2,m3,zI,reduceCtorEq,decide_false,decide_true,Na z,Qy,if_false,yq];simp[zD]
   try lia
  .have t:bq n (aP .l ((r:Int),(c:Int)))=true:=aK.mpr (by simp only[aP];lia);rw[t];simp only[zC,ye,yi,xi,zq,zg,zl,yW,zH,zu,zd,za,zW,ze,zO,aI,zi,hi,Q2,aU,zR,zf,s1,s2,s3,s4,q1,q2,q3,q4,yL,yE,zX,m2,m3,zI,reduceCtorEq,decide_false,decide_true,M5 z,if_true,yq];simp[zD]
def mK:Fn:=⟨2,4,(.seq (.asg 2 (.bin .fdiv (.var 1) (.var 0))) (.seq (.asg 3 (.bin .mod (.var 1) (.var 0))) (.seq (.ite (.cmp .eq (.var 2) (.lit (.int 0))) (.ret (.tup (.pair (.lit (.int 0)) (.pair (.var 3) (.pair (.lit (.str [85])) .unit))))) .skip) (.seq (.ite (.cmp .eq (.var 2) (.lit (.int 1))) (.ret (.tup (.pair (.var 3) (.pair (.bin .sub (.var 0) (.lit (.int 1))) (.pair (.lit (.str [82])) .unit))))) .skip) (.seq (.ite (.cmp .eq (.var 2) (.lit (.int 2))) (.ret (.tup (.pair (.bin .sub (.var 0) (.lit (.int 1))) (.pair (.bin .sub (.bin .sub (.var 0) (.lit (.int 1))) (.var 3)) (.pair (.lit (.str [68])) .unit))))) .skip) (.ret (.tup (.pair (.bin .sub (.bin .sub (.var 0) (.lit (.int 1))) (.var 3)) (.pair (.lit (.int 0)) (.pair (.lit (.str [76])) .unit))))))))))⟩
def Go {ρ:Nat}(hn:0<n)(hn':n<=12)(h:ρ<4*n):zG lev cl k mK [.int n,.int ρ]=.ok (.tup [.int (bu n ρ).1.1,.int (bu n ρ).1.2,zw (bu n ρ).2]):=by
 have e1:zJ .mod (.int ρ) (.int n)=.ok (.int ((ρ%n:Nat):Int)):=xj _ _ (by lia);have e2:zJ .fdiv (.int ρ) (.int n)=.ok (.int ((ρ/n:Nat):Int)):=vp _ _ (by lia) (by lia);have h3:ρ/n<4:=W8 (by rw[WY];exact h);unfold zG;rw[M6 (by rfl)];show zD (lev k) (aH lev cl (.seq (.asg 2 _) (.seq (.asg 3 _) (.seq _ (.seq _ (.seq _ (.ret _)))))) [some (.int n),some (.int ρ),none,none] _)=_;rw[zC,zE];simp only[zu,zd,za,aI,e2,aU];rw[zS (by simp)];simp only[zf,Qd,Qc];rw[zC,zE];simp only[zu,zd,za,aI,e1,aU];rw[zS (by simp)];simp only[zf,Qd,Qc,zC,ye,yi,zI,zR,zH,wZ,zg,zl,zu,zd,za,ze,zW,aI,yE,yL];unfold bu;generalize ρ%n=m at *
 generalize ρ/n=q at *
 match q,h3 with
 |0,_=>rfl
 |1,_=>rfl
 |2,_=>rfl
 |3,_=>rfl
def lP:Ex:=(.idx (wu (dt (-1) 0) (dt 0 1) (dt 1 0) (dt 0 (-1))) (wT 3 [85] [82] [68] [76]))
def mq(kr:Nat):Fn:=⟨4,6,(.seq (.asg 4 (.call kr (.pair (.var 0) (.pair (.var 1) (.pair (.var 2) (.pair (.var 3) .unit)))))) (.seq (.ite (.cmp .notN (.var 4) (.lit .non)) (.ret (.var 4)) .skip) (.seq (.asg 5 lP) (.ret (.tup (.pair (.bin .add (.var 1) (.idx (.var 5) (.lit (.int 0)))) (.pair (.bin .add (.var 2) (.idx (.var 5) (.lit (.int 1)))) .unit)))))))⟩
def zT(n:Nat)(p:Pl)(e:Di):Dat:=if bq n (aP e p)=true then aE (aP e p)else .int (yq n p e)
def EM {n r c:Nat}(e:Di)(h:cl kr [.int n,.int r,.int c,zw e]=.ok (fq n ((r:Int),(c:Int)) e)):zG lev cl k (mq kr) [.int n,.int r,.int c,zw e]=.ok (zT n ((r:Int),(c:Int)) e):=by
 unfold zG;rw[M6 (by rfl)];show zD (lev k) (aH lev cl (.seq (.asg 4 _) (.seq _ (.seq (.asg 5 lP) (.ret _)))) [some (.int n),some (.int r),some (.int c),some (zw e),none,none] _)=_;rw[zC,zE];simp only[zq,zg,zl,zd,za,aI,zi,h,aU];have hfl:aw (fq n ((r:Int),(c:Int)) e)=true:=by unfold fq;split<;>rfl
 rw[zS hfl];simp only[zf,Qd,Qc];rw[zC];unfold fq zT;by_cases q:bq n (aP e ((r:Int),(c:Int)))=true
 .rw[M6 q,M6 q];simp only[yi,zH,zd,za,zO,aI];rw[show yz .notN .non .non=.ok (.bl false)from rfl];simp only[aU,zR,zf];have hT:ak cl lP [some (.int n),some (.int r),some (.int c),some (zw e),some .non,none]=.ok (aE ((aP e ((r:Int),(c:Int))).1-r,(aP e ((r:Int),(c:Int))).2-c)):=by
   unfold lP;rw[qI (e:=e) (show ak cl (.var 3) [some (.int n),some (.int r),some (.int c),some (zw e),some .non,none]=.ok (zw e)from rfl) (A:=aE (-1,0)) (B:=aE (0,1)) (C:=aE (1,0)) (D:=aE (0,-1)) rfl rfl rfl rfl];have z0:∀x:Int,x-x=0:=λx=>by lia
   have z1:∀x:Int,x-1-x=-1:=λx=>by lia
   have z2:∀x:Int,x+1-x=1:=λx=>by lia
   cases e with
   |u=>show Rd.ok (aE (-1,0))=Rd.ok (aE ((r:Int)-1-r,(c:Int)-c));rw[z1,z0]
   |r=>show Rd.ok (aE (0,1))=Rd.ok (aE ((r:Int)-r,(c:Int)+1-c));rw[z0,z2]
   |d=>show Rd.ok (aE (1,0))=Rd.ok (aE ((r:Int)+1-r,(c:Int)-c));rw[z2,z0]
   |l=>show Rd.ok (aE (0,-1))=Rd.ok (aE ((r:Int)-r,(c:Int)-1-c));rw[z0,z1]
  rw[ye,zE,hT];simp only[aU];rw[zS (by simp[aE])];simp only[zf,Qd,Qc,zI,wZ,zg,zl,zu,yh,zd,za,ze,aI];have i0:∀x y:Int,zQ (aE (x,y)) (.int 0)=.ok (.int x):=λx y=>rfl;have i1:∀x y:Int,zQ (aE (x,y)) (.int 1)=.ok (.int y):=λx y=>rfl;simp only[i0,i1,aI,zX];rw[show(r:Int)+((aP e ((r:Int),(c:Int))).1-r)=(aP e ((r:Int),(c:Int))).1 by lia,show(c:Int)+((aP e ((r:Int),(c:Int))).2-c)=(aP e ((r:Int),(c:Int))).2 by lia];rfl
 .rw[M7 q,M7 q];simp only[yi,zH,zd,za,zO,aI];rw[show yz .notN (.int (yq n ((r:Int),(c:Int)) e)) .non=.ok (.bl true)from rfl];simp only[aU,zI,zd,za];simp[zD,bZ.then]
end
end Lib
namespace Lib
section
variable{lev:Nat->Lv}{cl:Nat->List Dat->Rd}{k:Nat}
theorem wA {α:Type}{c e:β->Rd}(f:α->β)(q:α->Bool)(g:α->Dat):∀(xs:List α) (acc:List Dat),(∀x∈xs,c (f x)=.ok (.bl (q x)))->(∀x∈xs,q x=true->e (f x)=.ok (g x))->acc.length+xs.length<=av->ym c e (xs.map f) acc=.ok (.lst (acc++(xs.filter q).map g))
 |[],acc,_,_,h=>by
  show bp acc=_;rw[xr (by simpa using h)];simp
 |x::xs,acc,hc,he,h=>by
  show(c (f x)).bind _=_;rw[hc x (by simp)];simp only[aI];cases hq:q x with
  |true=>
   simp only[];rw[he x (by simp) hq];simp only[aI];rw[M6 (by simp at h;lia),wA f q g xs _ (λy hy=>hc y (by simp[hy])) (λy hy=>he y (by simp[hy])) (by simp at h ⊢;lia)];simp[Vi,hq]
  |false=>
   simp only[];rw[wA f q g xs _ (λy hy=>hc y (by simp[hy])) (λy hy=>he y (by simp[hy])) (by simp at h ⊢;lia)];simp[Vi,hq]
def EL(e d:Di):decide (iq e=iq d)=decide (e=d):=by cases e<;>cases d<;>rfl
def EK(f:Di->Bool):(bh.filter f).length<=4:=by
 have:=List.length_filter_le f bh;exact this
def nI:Ex:=(.idx (.comp (.var 7) (.dget (.var 0) (.var 3)) (.cmp .ne (.var 7) (.var 4))) (.lit (.int 0)))
def iI(kb:Nat):Sm:=(.seq (.asg 4 nI) (.seq (.unp3 3 4 6 (.call kb (.pair (.var 1) (.pair (.var 3) (.pair (.var 4) .unit))))) (.ite (.cmp .isN (.var 6) (.lit .non)) (.expr (.meth .append (.var 5) (.pair (.var 3) .unit))) .skip)))
def iH:Ex:=(.cmp .isN (.var 6) (.lit .non))
def mn(ks kb:Nat):Fn:=⟨3,7,(.seq (.fort 3 4 (.tup (.pair (.call ks (.pair (.var 1) (.pair (.var 2) .unit))) .unit)) .skip) (.seq (.asg 5 (.lst (.pair (.var 3) .unit))) (.seq (.asg 6 (.lit .non)) (.seq (.while iH (iI kb)) (.ret (.tup (.pair (.var 5) (.pair (.var 6) .unit))))))))⟩
def SD(n:Nat)(t:Tr)(D:Dat):Prop:=∀p,bq n p=true->v9 D (aE p)=.ok (.lst ((bh.filter (t p)).map zw))
def Dk (F:cN n t)(hD:SD n t D)(g:Good n t s):ak cl nI [some D,d1,d2,some (aE s.1),some (zw s.2),d5,d6]=.ok (zw (bE (t s.1) s.2)):=by
 obtain⟨_,_,_,o4⟩:=x6 (F.two s.1 g.1) g.2;have hl:=EK (t s.1);unfold nI;rw[yh,vn];simp only[uP,zd,za,aI,hD s.1 g.1,ze];rw[wJ (by rw[Qn];unfold av;lia)];simp only[];rw[wA zw (λe=>! decide (e=s.2)) zw (bh.filter (t s.1)) [] (λe _=>?_) (λe _ _=>?_) (by simp;unfold av;lia),o4]
 .rfl
 rotate_left
 .rfl
 .simp only[Q7,QZ,zH,zd,za,aI];rw[show zw e=.str (iq e)from rfl,show zw s.2=.str (iq s.2)from rfl,CW,EL]
def EJ(i j k:Nat)(e:Ex)(de:aO)(lv:List Lv):aH lev cl (.unp3 i j k e) de lv=(ak cl e de).bindS λd=>match xc d with
  |some [a,b,c]=>.next (((de.set i (some a)).set j (some b)).set k (some c)) ((((yB e de lv).set i (aT a)).set j (aT b)).set k (aT c))
  |_=>.no:=rfl
def EI{kb n:Nat}(hb:∀p e,cl kb [.int n,aE p,zw e]=.ok (fF n p e)){t:Tr}{D:Dat}(F:cN n t)(hD:SD n t D){s:bP}(g:Good n t s){acc:List Pl}(ha:acc.length<av)(d2:Option Dat)(l0 l1 l2 l3 l4 l6:Lv):
  ∃m0 m1 m2 m3 m4 m6,aH lev cl (iI kb) [some D,some (.int n),d2,some (aE s.1),some (zw s.2),some (.lst (acc.map aE)),some .non] [l0,l1,l2,l3,l4,.full,l6]=.next (match b8 n t s with
   |some s'=>[some D,some (.int n),d2,some (aE s'.1),some (zw s'.2),some (.lst ((acc++[s'.1]).map aE)),some .non]
   |none=>[some D,some (.int n),d2,some (aE s.1),some (zw (bE (t s.1) s.2)),some (.lst (acc.map aE)),some (.int (vN n t s))]) [m0,m1,m2,m3,m4,.full,m6]:=by
 unfold iI;rw[zy lev cl _ _ rfl,zE,Dk F hD g];simp only[aU];rw[zS (by simp[zw])];simp only[zf,Qd,Qc];rw[zy lev cl _ _ rfl,EJ];simp only[zq,zg,zl,zd,za,aI,zi,hb,aU];unfold fF b8 vN;by_cases hi:bq n (aP (bE (t s.1) s.2) s.1)=true
 .rw[M6 hi,M6 hi];refine⟨l0,.no,l2,.full,.full,.full,?_⟩;simp only[xc,zf,Qd,Qc,yi,zH,zd,za,zO,aI];rw[show yz .isN .non .non=.ok (.bl true)from rfl];simp only[aU];rw[wK];simp only[zd,za,eg];rw[show x8 [some D,some (.int n),d2,some (aE (aP (bE (t s.1) s.2) s.1)),some (zw (cH (bE (t s.1) s.2))),some (.lst (acc.map aE)),some .non] 5=some (acc.map aE)from rfl];simp only[];rw[M6 (by rw[Qn];exact ha)];unfold xC;rw[M7 (by simp[yB,aR,yg]),M6 (yA lev _ _ (by simp[aE]))];simp[yB,aR,aT,aE,zw]
 .rw[M7 hi,M7 hi];refine⟨l0,.no,l2,.full,.full,.full,?_⟩;simp only[xc,zf,Qd,Qc,yi,zH,zd,za,zO,aI];rw[show ∀i:Int,yz .isN (.int i) .non=.ok (.bl false)from λ_=>rfl];simp only[aU,zR];simp[yB,aR,aT,aE,zw]
theorem Az {n:Nat}(hb:∀p e,cl kb [.int n,aE p,zw e]=.ok (fF n p e))(F:cN n t)(hD:SD n t D)(d2:Option Dat):∀(f:Nat) (s:bP) (acc pl:List Pl) (ρ:Int),Good n t s->wG n t f s acc=some (pl,ρ)->acc.length+f<=av->∀(fuel:Nat),f+1<=fuel->∀(l0 l1 l2 l3 l4 l6:Lv),
  ∃d3 d4 m0 m1 m2 m3 m4 m6,yJ (ak cl iH) (aH lev cl (iI kb)) fuel [some D,some (.int n),d2,some (aE s.1),some (zw s.2),some (.lst (acc.map aE)),some .non] [l0,l1,l2,l3,l4,.full,l6]=.next [some D,some (.int n),d2,d3,d4,some (.lst (pl.map aE)),some (.int ρ)] [m0,m1,m2,m3,m4,.full,m6]
 |0,s,acc,pl,ρ,g,h,ha,fuel,hf,l0,l1,l2,l3,l4,l6=>by cases h
 |f+1,s,acc,pl,ρ,g,h,ha,fuel,hf,l0,l1,l2,l3,l4,l6=>by
  obtain⟨q,rfl⟩:∃q,fuel=q+1:=⟨fuel-1,by lia⟩;obtain⟨m0,m1,m2,m3,m4,m6,hB⟩:=EI (lev:=lev) hb F hD g (acc:=acc) (by lia) d2 l0 l1 l2 l3 l4 l6;have h':(match b8 n t s with|some s'=>wG n t f s' (acc++[s'.1])|none=>some (acc,vN n t s))=some (pl,ρ):=h;have hC:ak cl iH [some D,some (.int n),d2,some (aE s.1),some (zw s.2),some (.lst (acc.map aE)),some .non]=.ok (.bl true):=rfl;have unf:∀(c:aO->Rd) (body:aO->List Lv->bZ) (k:Nat) (de:aO) (lv:List Lv),yJ c body (k+1) de lv=match c de with
   |.ok (.bl true)=>match body de lv with
    |.next d1 l1=>yJ c body k d1 l1
    |.cont d1 l1=>yJ c body k d1 l1
    |.brk d1 l1=>.next d1 l1
    |r=>r
   |.ok (.bl false)=>.next de lv
   |.exc c d=>.exc c d
   |_=>.no:=λ_ _ _ _ _=>rfl
  rw[unf,hC];simp only[];rw[hB];simp only[];cases e:b8 n t s with
  |some s'=>
   rw[e]at h';exact Az hb F hD d2 f s' _ pl ρ (yI F g e).1 h' (by simp;lia) q (by lia) _ _ _ _ _ _
  |none=>
   rw[e]at h';cases h';obtain⟨q',rfl⟩:∃q',q=q'+1:=⟨q-1,by lia⟩;refine⟨some (aE s.1),some (zw (bE (t s.1) s.2)),m0,m1,m2,m3,m4,m6,?_⟩;rw[unf,show ak cl iH [some D,some (.int n),d2,some (aE s.1),some (zw (bE (t s.1) s.2)),some (.lst (acc.map aE)),some (.int (vN n t s))]=.ok (.bl false)from rfl]
def EH {ρ:Nat}(hn:0<n)(hn':n<=12)(hρ:ρ<4*n)(hs:cl ks [.int n,.int ρ]=.ok (.tup [aE (bu n ρ).1,zw (bu n ρ).2]))(hb:∀p e,cl kb [.int n,aE p,zw e]=.ok (fF n p e))(F:cN n t)(hD:SD n t D)(g:Good n t (bu n ρ))(hw:wG n t (n*n*4) (bu n ρ) [(bu n ρ).1]=some (pl,σ))(hk:lev k=.no):zG lev cl k (mn ks kb) [D,.int n,.int ρ]=.ok (.tup [.lst (pl.map aE),.int σ]):=by
 have hnn:n*n*4<=576:=by
  have:n*n<=12*12:=WO hn' hn';lia
 obtain⟨d3,d4,m0,m1,m2,m3,m4,m6,hL⟩:=Az (lev:=lev) hb F hD (some (.int ρ)) (n*n*4) (bu n ρ) [(bu n ρ).1] pl σ g hw (by simp;unfold av;lia) 1000000 (by lia) (aT D) .full .full .full .full .full;unfold zG;rw[M6 (by rfl)];show zD (lev k) (aH lev cl (.seq _ (.seq _ (.seq _ (.seq (.while iH (iI kb)) (.ret _))))) [some D,some (.int n),some (.int ρ),none,none,none,none] [aT D,aT (.int n),aT (.int ρ),.full,.full,.full,.full])=_;rw[zC,qC];simp only[mL,zq,zg,zl,zd,za,aI,zi,hs,aU,wq];have hfl:aw (.tup [.tup [aE (bu n ρ).1,zw (bu n ρ).2]])=true:=by simp[aE,zw]
 rw[M6 hfl];simp only[yY,zR,zf,Qd,Qc];rw[zC,zE];have hn1:ak cl (.lst (.pair (.var 3) .unit)) [some D,some (.int n),some (.int ρ),some (aE (bu n ρ).1),some (zw (bu n ρ).2),none,none]=.ok (.lst [aE (bu n ρ).1]):=by
  simp only[x9,zg,zl,zd,za,aI,zi];exact xr (show 1<=av by decide)
 rw[hn1];simp only[aU];rw[yC (by simp[aE])];simp only[zf,Qd,Qc];rw[zC,zE];simp only[zO,aU];rw[zS (by simp)];simp only[zf,Qd,Qc];rw[ye,j4];have hlv:[aT D,aT (.int n),aT (.int ρ),aT (aE (bu n ρ).1),aT (zw (bu n ρ).2),Lv.full,Lv.full]=[aT D,.full,.full,.full,.full,.full,.full]:=by simp[aT,aE,zw]
 rw[hlv];have hL':=hL;rw[show(List.map aE [(bu n ρ).1])=[aE (bu n ρ).1]from rfl]at hL';rw[hL',zf];simp only[zI,j8,zd,za,aI,aU];simp[zD,hk,wH]
end
end Lib
namespace Lib
section
variable{lev:Nat->Lv}{cl:Nat->List Dat->Rd}{k:Nat}
def ky(kb:Nat):Ex:=iw 7 [85] [82] [68] [76] (.idx (.idx (.var 5) (.var 1)) (.var 2)) (.idx (.idx (.var 4) (.var 1)) (.bin .add (.var 2) (.lit (.int 1)))) (.idx (.idx (.var 5) (.bin .add (.var 1) (.lit (.int 1)))) (.var 2)) (.idx (.idx (.var 4) (.var 1)) (.var 2)) (.var 3) (.call kb (.pair (.blt .len (.pair (.var 4) .unit)) (.pair (.var 1) (.pair (.var 2) (.pair (.var 7) .unit)))))
def iG(kb:Nat):Fn:=⟨4,7,(.seq (.asg 4 (.idx (.var 0) (.lit (.int 0)))) (.seq (.asg 5 (.idx (.var 0) (.lit (.int 1)))) (.ret (ky kb))))⟩
def jp (q:List Nat)(a:Ex)(de:aO)(h:ak cl a de=.ok d):ak cl (c9 q a) de=.ok (.tup [.str q,d]):=by
 show(((Rd.ok (.str q)).bind λx=>((ak cl a de).bind λy=>(Rd.ok (.tup [])).bind λz=>Rd.ok (.tup (y::zV z))).bind λy=>Rd.ok (.tup (x::zV y))).bind λx=>_)=_;rw[h];rfl
def Gm {r c:Nat}{U:Di->Int}{W:List (List Int)}(hW:W.length=n)(g1:zQ (au V) (.int r)=.ok (row (V.getD r [])))(g2:zQ (au W) (.int r)=.ok (row (W.getD r [])))(g3:zQ (au V) (.int ((r:Int)+1))=.ok (row (V.getD (r+1) [])))(u:zQ (row (V.getD r [])) (.int c)=.ok (.int (U .u)))(v:zQ (row (W.getD r [])) (.int ((c:Int)+1))=.ok (.int (U .r)))(w:zQ (row (V.getD (r+1) [])) (.int c)=.ok (.int (U .d)))(l:zQ (row (W.getD r [])) (.int c)=.ok (.int (U .l)))(hb:∀e,cl kb [.int n,.int r,.int c,zw e]=.ok (zT n ((r:Int),(c:Int)) e)):
  ak cl (ky kb) [o0,some (.int r),some (.int c),some (.int mk),some (au W),some (au V),none]=.ok (.lst ((bh.filter λe=>decide (U e=mk)).map (zT n ((r:Int),(c:Int))))):=by
 unfold ky iw;rw[w5];have hlen:y7 .len [au W]=.ok (.int n):=by simp[y7,xc,au,hW]
 rw[show ak cl (wu (c9 [85] (.idx (.idx (.var 5) (.var 1)) (.var 2))) (c9 [82] (.idx (.idx (.var 4) (.var 1)) (.bin .add (.var 2) (.lit (.int 1))))) (c9 [68] (.idx (.idx (.var 5) (.bin .add (.var 1) (.lit (.int 1)))) (.var 2))) (c9 [76] (.idx (.idx (.var 4) (.var 1)) (.var 2)))) [o0,some (.int r),some (.int c),some (.int mk),some (au W),some (au V),none]=.ok (.tup (bh.map λd=>.tup [zw d,.int (U d)]))from by
  unfold wu;rw[wZ,zg,jp _ _ _ (d:=.int (U .u)) (by simp only[yh,zu,zd,za,ze,aI,g1,u]),zg,jp _ _ _ (d:=.int (U .r)) (by simp only[yh,zu,zd,za,ze,aI,zX,g2,v]),zg,jp _ _ _ (d:=.int (U .d)) (by simp only[yh,zu,zd,za,ze,aI,zX,g3,w]),zg,jp _ _ _ (d:=.int (U .l)) (by simp only[yh,zu,zd,za,ze,aI,g2,l])]
  rfl]
 simp only[ze,aI];rw[show xf .ptp (.tup (bh.map λd=>.tup [zw d,.int (U d)])) (.int 0)=some (bh.map λd=>(zw d,.int (U d)))from rfl];simp only[];rw[wA (λd=>(zw d,Dat.int (U d))) (λd=>decide (U d=mk)) (zT n ((r:Int),(c:Int))) bh [] (λd _=>?_) (λd _ _=>?_) (by simp[bh,av])]
 .rfl
 .simp only[Q7,QZ,zH,zd,za,aI,yL]
 .simp only[Q7,QZ,zq,yM,zg,zl,zd,za,aI,zi,hlen,hb]
def uO (h:ak cl e de=.ok d)(hv:yr (.asg i e) X=none):∃lv',aH lev cl (.seq (.asg i e) X) de lv=aH lev cl X (de.set i (some d)) lv':=by
 rw[zy lev cl de lv hv,zE,h];simp only[aU];unfold vB;split
 .simp only[zf];exact⟨_,rfl⟩
 .simp only[zf];exact⟨_,rfl⟩
def Ay(n:Nat)(p:Pl)(e:Di):aw (zT n p e)=true:=by
 unfold zT;split<;>rfl
def Gj {r c:Nat}{U:Di->Int}{W:List (List Int)}(hW:W.length=n)(g1:zQ (au V) (.int r)=.ok (row (V.getD r [])))(g2:zQ (au W) (.int r)=.ok (row (W.getD r [])))(g3:zQ (au V) (.int ((r:Int)+1))=.ok (row (V.getD (r+1) [])))(u:zQ (row (V.getD r [])) (.int c)=.ok (.int (U .u)))(v:zQ (row (W.getD r [])) (.int ((c:Int)+1))=.ok (.int (U .r)))(w:zQ (row (V.getD (r+1) [])) (.int c)=.ok (.int (U .d)))(l:zQ (row (W.getD r [])) (.int c)=.ok (.int (U .l)))(hb:∀e,cl kb [.int n,.int r,.int c,zw e]=.ok (zT n ((r:Int),(c:Int)) e))(hk:lev k=.full):
  zG lev cl k (iG kb) [.tup [au W,au V],.int r,.int c,.int mk]=.ok (.lst ((bh.filter λe=>decide (U e=mk)).map (zT n ((r:Int),(c:Int))))):=by
 unfold zG;rw[M6 (by rfl)];show zD (lev k) (aH lev cl (.seq (.asg 4 _) (.seq (.asg 5 _) (.ret (ky kb)))) [some (.tup [au W,au V]),some (.int r),some (.int c),some (.int mk),none,none,none] _)=_;generalize xg (iG kb) [.tup [au W,au V],.int r,.int c,.int mk]=lv0;obtain⟨lv1,e1⟩:=uO (lev:=lev) (cl:=cl) (i:=4) (e:=.idx (.var 0) (.lit (.int 0))) (d:=au W) (X:=.seq (.asg 5 (.idx (.var 0) (.lit (.int 1)))) (.ret (ky kb))) (de:=[some (.tup [au W,au V]),some (.int r),some (.int c),some (.int mk),none,none,none]) (lv:=lv0) rfl rfl;rw[e1];obtain⟨lv2,e2⟩:=uO (lev:=lev) (cl:=cl) (i:=5) (e:=.idx (.var 0) (.lit (.int 1))) (d:=au V) (X:=.ret (ky kb)) (de:=[some (.tup [au W,au V]),some (.int r),some (.int c),some (.int mk),some (au W),none,none]) (lv:=lv1) rfl rfl;simp only[Qd,Qc];rw[e2];simp only[Qd,Qc,zI];rw[Gm (o0:=some (.tup [au W,au V])) hW g1 g2 g3 u v w l hb];simp only[aU];have hl:aV lev (ky kb) (.lst ((bh.filter λe=>decide (U e=mk)).map (zT n ((r:Int),(c:Int)))))=.full:=by
  unfold ky iw;rw[xB];simp[yA,Ay]
 have hl2:∀lv,cu lev (ky kb) (.lst ((bh.filter λe=>decide (U e=mk)).map (zT n ((r:Int),(c:Int))))) lv=.full:=λlv=>by
  unfold cu;rw[M7 (by simp)];exact hl
 rw[hl2];simp[zD,hk,wH]
end
end Lib
namespace Lib
section
variable{lev:Nat->Lv}{cl:Nat->List Dat->Rd}{k:Nat}
def yS(p:Pl):List Int:=[p.1,p.2]
def cX(R:List (List Int))(b:Bool):Tr:=λp d=>!(dI R p d==b)
def ip(R:List (List Int))(b:Bool)(p:Pl):Dat:=.lst ((bh.filter (cX R b p)).map zw)
def dX(r:Nat)(c:Nat):List Pl:=(QH c).map λ(j:Nat)=>((r:Int),(j:Int))
def bL(n r c:Nat):List Pl:=(QH r).flatMap (λi=>dX i n)++dX r c
def cE(R:List (List Int))(b:Bool)(ps:List Pl):Dat:=.dct (ps.map yS) (ps.map (ip R b))
def xt(R:List (List Int))(r c:Nat):List Int:=(QH R.length).map λj=>S R (if j<c then r+1 else r) j
def j9 (h:yS p=yS q):p=q:=by
 unfold yS at h;simp only[List.cons.injEq,and_true]at h;exact Prod.ext h.1 h.2
theorem qJ {f:Pl->Dat}:∀{ps:List Pl},p∈ps->dD (ps.map yS) (ps.map f) (yS p)=some (f p)
 |[],h=>by simp at h
 |q::ps,h=>by
  show(if yS q=yS p then some (f q)else dD (ps.map yS) (ps.map f) (yS p))=_;by_cases e:yS q=yS p
  .rw[M6 e,j9 e]
  .rw[M7 e];refine qJ ?_;rcases Qp.mp h with rfl|h
   .exact M8 rfl e
   .exact h
def Gi(r c:Nat):dX r (c+1)=dX r c++[((r:Int),(c:Int))]:=by
 unfold dX;rw[WZ,Wv];rfl
def Ax(n r c:Nat):bL n r (c+1)=bL n r c++[((r:Int),(c:Int))]:=by
 unfold bL;rw[Gi,Wl]
def uN(n r:Nat):bL n r n=bL n (r+1) 0:=by
 unfold bL;rw[WZ,List.flatMap_append];simp[dX]
def df:p∈dX r c↔p.1=r/\∃j:Nat,j<c/\p.2=j:=by
 unfold dX;simp only[Wg,W6];constructor
 .rintro ⟨j,hj,rfl⟩;exact⟨rfl,j,hj,rfl⟩
 .rintro ⟨h1,j,hj,h2⟩;exact⟨j,hj,Prod.ext h1.symm h2.symm⟩
def uM:p∈bL n r c↔(∃i:Nat,i<r/\p∈dX i n)\/p∈dX r c:=by
 unfold bL;simp only[QL,List.mem_flatMap,W6]
def jq:((r:Int),(c:Int))∉bL n r c:=by
 rw[uM];rintro(⟨i,hi,h⟩|h)
 .have:=(df.mp h).1;simp only[]at this;lia
 .obtain ⟨_,j,hj,e⟩:=df.mp h;simp only[]at e;lia
def uL(n:Nat):∀r c,(bL n r c).length=r*n+c:=by
 intro r c;have h1:∀i m,(dX i m).length=m:=λi m=>by simp[dX]
 unfold bL;rw[QW,h1];congr 1
 induction r with
 |zero=>simp
 |succ r ih=>rw[WZ,List.flatMap_append,QW,ih];simp[h1,Nat.succ_mul]
def qK (h:bq n p=true):p∈bL n n 0:=by
 obtain⟨⟨a0,a1⟩,b0,b1⟩:=aK.mp h;rw[uM];refine .inl ⟨p.1.toNat,by lia,df.mpr ⟨by lia,p.2.toNat,by lia,by lia⟩⟩
def Dj(R:List (List Int))(b:Bool):SD R.length (cX R b) (cE R b (bL R.length R.length 0)):=λp hp=>by
 show(match (wP (aE p)).bind (dD _ _)with|some v=>Rd.ok v|none=>.no)=_;rw[show wP (aE p)=some (yS p)from rfl];simp only[W2];rw[qJ (qK hp)];rfl
def sE (h:p∉ps):wS (ps.map yS) (yS p)=(ps++[p]).map yS:=by
 unfold wS;rw[M7,Wv];· rfl
 intro z;obtain⟨q,hq,e⟩:=Wg.mp z;rw[j9 e]at hq;exact h hq
theorem mJ {f:Pl->Dat}:∀{ps:List Pl},p∉ps->yx (ps.map yS) (ps.map f) (yS p) (f p)=(ps++[p]).map f
 |[],_=>rfl
 |q::ps,h=>by
  show(if yS q=yS p then f p::ps.map f else f q::yx (ps.map yS) (ps.map f) (yS p) (f p))=_;rw[M7 (λe=>h (by rw[j9 e];simp)),mJ (λz=>h (by simp[z]))];rfl
def Gh (hc:c<R.length):(xt R r c)[c]?=some (S R r c):=by
 unfold xt;simp[hc]
def Gg (hc:c<R.length):(xt R r c).set c (S R (r+1) c)=xt R r (c+1):=by
 unfold xt;refine We λj=>?_;by_cases hj:j<R.length
 .by_cases e:j=c
  .subst e;rw[QQ (by simpa using hj)];simp[hj]
  .rw[Qu (Ne.symm e)];simp only[Qv,WH hj,QJ];by_cases q:j<c
   .rw[M6 q,M6 (by lia)]
   .rw[M7 q,M7 (by lia)]
 .rw[Ql (by simpa using hj),Ql (by simpa using hj)]
def Gf(R:List (List Int))(r:Nat):xt R r R.length=xt R (r+1) 0:=by
 unfold xt;refine WG λj hj=>?_;rw[M6 (W6.mp hj),M7 (by lia)]
def uK(P:Prop)[Decidable P]:b2i (decide P)=if P then 1 else 0:=by
 by_cases h:P
 .simp[h,b2i]
 .simp[h,b2i]
def n9:Ex:=(.lst (.pair (.tup (.pair (.lit (.str [85])) (.pair (.var 10) .unit))) (.pair (.tup (.pair (.lit (.str [82])) (.pair (.var 9) .unit))) (.pair (.tup (.pair (.lit (.str [68])) (.pair (.var 11) .unit))) (.pair (.tup (.pair (.lit (.str [76])) (.pair (.var 8) .unit))) .unit)))))
def fX:Ex:=(.compP .prs (.var 13) (.var 12) (.lit (.int 0)) (.cmp .ne (.var 14) (.var 1)))
def iL:Sm:=(.seq (.asg 7 (.bin .mod (.bin .add (.var 4) (.var 6)) (.lit (.int 2)))) (.seq (.asg 8 (.cmp .eq (.blt .int (.pair (.cmp .eq (.var 5) (.lit (.int 0))) .unit)) (.var 7))) (.seq (.asg 5 (.bin .add (.var 5) (.idx (.idx (.var 0) (.var 4)) (.var 6)))) (.seq (.asg 9 (.cmp .ne (.blt .int (.pair (.cmp .eq (.var 5) (.lit (.int 0))) .unit)) (.var 7))) (.seq (.asg 10 (.cmp .eq (.idx (.var 3) (.var 6)) (.var 7))) (.seq (.asgS (.var 3) (.var 6) (.bin .add (.idx (.var 3) (.var 6)) (.idx (.idx (.var 0) (.var 4)) (.var 6)))) (.seq (.asg 11 (.cmp .ne (.idx (.var 3) (.var 6)) (.var 7))) (.seq (.asg 12 n9) (.dput 2 (.tup (.pair (.var 4) (.pair (.var 6) .unit))) fX)))))))))
def nA:Fn:=⟨2,13,(.seq (.asg 2 .dict0) (.seq (.asg 3 (.comp (.lit (.int 0)) (.var 0) (.lit (.bl true)))) (.seq (.forv 4 (.rng (.lit (.int 0)) (.blt .len (.pair (.var 0) .unit)) (.lit (.int 1))) (.seq (.asg 5 (.lit (.int 0))) (.forv 6 (.rng (.lit (.int 0)) (.blt .len (.pair (.var 0) .unit)) (.lit (.int 1))) iL))) (.ret (.var 2)))))⟩
abbrev ff:List Lv:=[.no,.full,.full,.full,.full,.full,.full,.full,.full,.full,.full,.full,.full]
def vF (h:ak cl e de=.ok d)(hf:aw d=true)(hv:yr (.asg i e) X=none):aH lev cl (.seq (.asg i e) X) de lv=aH lev cl X (de.set i (some d)) (lv.set i .full):=by
 rw[zy lev cl de lv hv,zE,h];simp only[aU];rw[zS hf];rfl
def gS (h:ak cl e de=.ok d)(hf:aV lev e d=.full)(hv:yr (.asg i e) X=none):aH lev cl (.seq (.asg i e) X) de lv=aH lev cl X (de.set i (some d)) (lv.set i .full):=by
 rw[zy lev cl de lv hv,zE,h];simp only[aU];rw[yC hf];rfl
def EG (hR:Sq R)(hn:R.length<=12)(hr:r<R.length)(hc:c<R.length)(b:Bool)(o7 o8 o9 o10 o11 o12:Option Dat):
  ∃q7 q8 q9 q10 q11 q12,aH lev cl iL [some (au R),some (.bl b),some (cE R b (bL R.length r c)),some (row (xt R r c)),some (.int r),some (.int (ck R r c)),some (.int c),o7,o8,o9,o10,o11,o12] ff =
   .next [some (au R),some (.bl b),some (cE R b (bL R.length r (c+1))),some (row (xt R r (c+1))),some (.int r),some (.int (ck R r (c+1))),some (.int c),q7,q8,q9,q10,q11,q12] ff:=by
 have hm:zJ .mod (.int ((r:Int)+c)) (.int 2)=.ok (.int (((r:Int)+c)%2)):=xj _ _ (by decide);have g1:zQ (au R) (.int r)=.ok (row (R.getD r [])):=ue (by rw[Qm,Qf hr];rfl);have g2:zQ (row (R.getD r [])) (.int c)=.ok (.int ((R.getD r []).getD c 0)):=vq (kU (by rw[uc hR hr];exact hc));have g3:zQ (row (xt R r c)) (.int c)=.ok (.int (S R r c)):=vq (Gh hc);have e1:=uR hR hr hc;have e2:=uQ (c:=c) hr;have g4:zQ (row ((xt R r c).set c (S R (r+1) c))) (.int c)=.ok (.int (S R (r+1) c)):=vq (QQ (by simpa [xt]using hc));have hbi:∀x:Bool,y7 .int [.bl x]=.ok (.int (b2i x)):=λ_=>rfl;refine⟨some (.int (((r:Int)+c)%2)),some (.bl (bS R r c .l)),some (.bl (bS R r c .r)),some (.bl (bS R r c .u)),some (.bl (bS R r c .d)),some (.lst (bh.map λd=>.tup [zw d,.bl (bS R r c d)])),?_⟩;unfold iL;rw[vF (d:=.int (((r:Int)+c)%2)) (by simp only[zu,zd,za,ze,aI,zX,hm]) (by simp) rfl];simp only[Qd,Qc];rw[vF (d:=.bl (bS R r c .l)) (by
  simp only[zH,yM,zg,zl,zd,za,ze,aI,zi,yL,hbi,uK]
  rfl) (by simp) rfl]
 simp only[Qd,Qc];rw[vF (d:=.int (ck R r (c+1))) (by simp only[zu,yh,zd,za,aI,g1,g2,zX,e1]) (by simp) rfl];simp only[Qd,Qc];rw[vF (d:=.bl (bS R r c .r)) (by
  simp only[zH,yM,zg,zl,zd,za,ze,aI,zi,yL,hbi,uK,sI]
  rfl) (by simp) rfl]
 simp only[Qd,Qc];rw[vF (d:=.bl (bS R r c .u)) (by
  simp only[zH,yh,zd,za,aI,g3,yL]
  rfl) (by simp) rfl]
 simp only[Qd,Qc];have hput:∀(o5 o8 o9 o10:Option Dat),aH lev cl (.asgS (.var 3) (.var 6) (.bin .add (.idx (.var 3) (.var 6)) (.idx (.idx (.var 0) (.var 4)) (.var 6)))) [some (au R),some (.bl b),some (cE R b (bL R.length r c)),some (row (xt R r c)),some (.int r),o5,some (.int c),some (.int (((r:Int)+c)%2)),o8,o9,o10,o11,o12] ff
   = .next [some (au R),some (.bl b),some (cE R b (bL R.length r c)),some (row ((xt R r c).set c (S R (r+1) c))),some (.int r),o5,some (.int c),some (.int (((r:Int)+c)%2)),o8,o9,o10,o11,o12] ff:=λo5 o8 o9 o10=>by
  show(ak cl (.bin .add (.idx (.var 3) (.var 6)) (.idx (.idx (.var 0) (.var 4)) (.var 6))) _).okS _=_;simp only[zu,yh,zd,za,aI,g1,g2,g3,zX,<-e2,eg];unfold mh;rw[show x8 [some (au R),some (.bl b),some (cE R b (bL R.length r c)),some (row (xt R r c)),some (.int r),o5,some (.int c),some (.int (((r:Int)+c)%2)),o8,o9,o10,o11,o12] 3=some ((xt R r c).map Dat.int)from rfl];simp only[];rw[m7 (by simpa [xt]using hc)];simp only[];unfold xC;rw[M7 (by simp[yg]),M6 (yA lev _ _ (by simp))];simp only[Qd,Qc];rw[show((xt R r c).map Dat.int).set c (.int (S R (r+1) c))=((xt R r c).set c (S R (r+1) c)).map Dat.int from by rw[List.map_set]];rfl
 rw[zy lev cl _ _ rfl,hput];simp only[zf];rw[Gg hc]at *
 rw[vF (d:=.bl (bS R r c .d)) (by
  simp only[zH,yh,zd,za,aI,g4,sI]
  rfl) (by simp) rfl]
 simp only[Qd,Qc];rw[gS (d:=.lst (bh.map λd=>.tup [zw d,.bl (bS R r c d)])) (by
  unfold n9;simp only[sF,j8,zW,zd,za,aI]
  rfl) (by simp[n9,bh,zw]) rfl]
 simp only[Qd,Qc];have hp:dI R ((r:Int),(c:Int))=bS R r c:=by funext d;simp[dI]
 have hC:∀(o2 o3 o5 o7 o8 o9 o10 o11:Option Dat),ak cl fX [some (au R),some (.bl b),o2,o3,some (.int r),o5,some (.int c),o7,o8,o9,o10,o11,some (.lst (bh.map λd=>.tup [zw d,.bl (bS R r c d)]))]=.ok (ip R b ((r:Int),(c:Int))):=λo2 o3 o5 o7 o8 o9 o10 o11=>by
  unfold fX;rw[w5];simp only[zd,za,ze,aI];rw[show xf .prs (.lst (bh.map λd=>.tup [zw d,.bl (bS R r c d)])) (.int 0)=some (bh.map λd=>(zw d,.bl (bS R r c d)))from rfl];simp only[];rw[wA (λd=>(zw d,Dat.bl (bS R r c d))) (λd=>!(bS R r c d==b)) zw bh [] (λd _=>?_) (λd _ _=>?_) (by simp[bh,av])]
  .unfold ip cX;rw[hp];rfl
  rotate_left
  .rfl
  .simp only[Q7,QZ,zH,zd,za,aI,C5]
 show(ak cl fX _).okS _=_;rw[hC];simp only[eg,j8,zd,za,aI];rw[show wP (.tup [.int (r:Int),.int (c:Int)])=some (yS ((r:Int),(c:Int)))from rfl];simp only[Wz,Wy];unfold cE;simp only[];have hfull:aV lev fX (ip R b ((r:Int),(c:Int)))=.full:=by
  unfold fX ip;rw[xB];simp[zw]
 have hlen:((bL R.length r c).map yS).length<av:=by
  rw[Qn,uL];have:r*R.length<=12*12:=WO (by lia) hn;unfold av;lia
 rw[M6 ⟨trivial,hfull,hlen⟩];simp only[Qd,Qc];rw[sE jq,mJ jq,<-Ax]
def HV (hR:Sq R)(hn:R.length<=12)(b:Bool)(hk:lev k=.full):zG lev cl k nA [au R,.bl b]=.ok (cE R b (bL R.length R.length 0)):=by
 have hlen:y7 .len [au R]=.ok (.int R.length):=by simp[y7,xc,au]
 have hrg:jR (.int 0) (.int R.length) (.int 1)=.ok (.tup (yu 0 1 R.length)):=qH (by lia);have hcol:ak cl (.comp (.lit (.int 0)) (.var 0) (.lit (.bl true))) [some (au R),some (.bl b),some (.dct [] []),none,none,none,none,none,none,none,none,none,none]=.ok (row (xt R 0 0)):=by
  rw[vn];simp only[zd,aI];rw[show cS (au R)=some (R.map row)from wJ (by simp;unfold av;lia)];simp only[];rw[yK row (λ_=>.int 0) R [] (λ_ _=>rfl) (λ_ _=>rfl) (by simp;unfold av;lia)];unfold xt row;rw[QZ,Wj];congr 2;refine We λj=>?_;by_cases hj:j<R.length
  .simp[hj,S]
  .rw[Ql (by simpa using hj),Ql (by simpa using hj)]
 have main:=yt (body:=λx de lv=>aH lev cl (.seq (.asg 5 (.lit (.int 0))) (.forv 6 (.rng (.lit (.int 0)) (.blt .len (.pair (.var 0) .unit)) (.lit (.int 1))) iL)) (de.set 4 (some x)) (lv.set 4 (aT x)))
  (λr de lv=>lv=ff/\∃o4 o5 o6 o7 o8 o9 o10 o11 o12,de=[some (au R),some (.bl b),some (cE R b (bL R.length r 0)),some (row (xt R r 0)),o4,o5,o6,o7,o8,o9,o10,o11,o12])
  (yu 0 1 R.length) (de:=[some (au R),some (.bl b),some (cE R b (bL R.length 0 0)),some (row (xt R 0 0)),none,none,none,none,none,none,none,none,none]) (lv:=ff) ⟨rfl,none,none,none,none,none,none,none,none,none,rfl⟩ (by
   rintro r x de lv hx ⟨rfl,o4,o5,o6,o7,o8,o9,o10,o11,o12,rfl⟩;have hr:r<R.length:=by
    have:=(Qa.mp hx).1;simpa using this
   rw[xD _ _ _ _ hr]at hx;cases hx;rw[show(0:Int)+1*(r:Int)=(r:Int) by lia];simp only[Qd,Qc];rw[vF (d:=.int 0) rfl (by simp) rfl];simp only[Qd,Qc];rw[we];simp only[vO,ze,yM,zg,zl,zd,aI,zi,hlen,hrg,aU,wq,ww,xW,if_true];have inner:=yt (body:=λx de lv=>aH lev cl iL (de.set 6 (some x)) (lv.set 6 (aT x)))
    (λc de lv=>lv=ff/\∃o6 o7 o8 o9 o10 o11 o12,de=[some (au R),some (.bl b),some (cE R b (bL R.length r c)),some (row (xt R r c)),some (.int r),some (.int (ck R r c)),o6,o7,o8,o9,o10,o11,o12])
    (yu 0 1 R.length) (de:=[some (au R),some (.bl b),some (cE R b (bL R.length r 0)),some (row (xt R r 0)),some (.int r),some (.int 0),o6,o7,o8,o9,o10,o11,o12]) (lv:=ff) ⟨rfl,o6,o7,o8,o9,o10,o11,o12,by rw[show ck R r 0=0 from by simp[ck]]⟩ (by
     rintro c x de lv hx ⟨rfl,o6,o7,o8,o9,o10,o11,o12,rfl⟩;have hc:c<R.length:=by
      have:=(Qa.mp hx).1;simpa using this
     rw[xD _ _ _ _ hc]at hx;cases hx;rw[show(0:Int)+1*(c:Int)=(c:Int) by lia];simp only[Qd,Qc];obtain⟨q7,q8,q9,q10,q11,q12,e⟩:=EG (lev:=lev) (cl:=cl) hR hn hr hc b o7 o8 o9 o10 o11 o12;exact⟨_,_,e,rfl,_,_,_,_,_,_,_,rfl⟩)
   obtain⟨de',lv',e,rfl,q6,q7,q8,q9,q10,q11,q12,rfl⟩:=inner;refine⟨_,_,e,rfl,some (.int r),some (.int (ck R r (yu 0 1 R.length).length)),q6,q7,q8,q9,q10,q11,q12,?_⟩;rw[show(yu 0 1 R.length).length=R.length from by simp,uN,Gf])
 obtain⟨de',lv',e,rfl,o4,o5,o6,o7,o8,o9,o10,o11,o12,rfl⟩:=main;rw[show(yu 0 1 R.length).length=R.length from by simp]at e;unfold zG;rw[M6 (by rfl)];show zD (lev k) (aH lev cl (.seq (.asg 2 .dict0) (.seq (.asg 3 _) (.seq (.forv 4 _ _) (.ret _)))) [some (au R),some (.bl b),none,none,none,none,none,none,none,none,none,none,none] [aT (au R),aT (.bl b),.full,.full,.full,.full,.full,.full,.full,.full,.full,.full,.full])=_;rw[gS (d:=.dct [] []) rfl (by simp) rfl];simp only[Qd,Qc];rw[gS (d:=row (xt R 0 0)) hcol (by simp[row]) rfl];simp only[Qd,Qc];rw[ye,we];simp only[vO,ze,yM,zg,zl,zd,aI,zi,hlen,hrg,aU,wq,ww,xW,if_true];rw[show aT (au R)=.no from by simp[aT,au],show aT (.bl b)=.full from by simp[aT]];have e':=e;rw[show cE R b (bL R.length 0 0)=.dct [] []from rfl]at e';rw[e',zf];simp only[zI,zd,za,aU];simp[zD,cu,hk,wH,cE]
end
end Lib
namespace Lib
section
variable{lev:Nat->Lv}{cl:Nat->List Dat->Rd}{k:Nat}
def eS(ke:Nat):Sm:=.dput 3 (.tup (.pair (.var 4) (.pair (.var 5) .unit))) (.call ke (.pair (.var 2) (.pair (.var 4) (.pair (.var 5) (.pair (.var 1) .unit)))))
def nz(ks ke:Nat):Fn:=⟨2,6,(.seq (.asg 2 (.call ks (.pair (.var 0) .unit))) (.seq (.asg 3 .dict0) (.seq (.forv 4 (.rng (.lit (.int 0)) (.blt .len (.pair (.var 0) .unit)) (.lit (.int 1))) (.forv 5 (.rng (.lit (.int 0)) (.blt .len (.pair (.var 0) .unit)) (.lit (.int 1))) (eS ke))) (.ret (.var 3)))))⟩
def dS(val:Pl->Dat)(ps:List Pl):Dat:=.dct (ps.map yS) (ps.map val)
def EF {c:Nat}(hr:r<n)(hc:c<n)(hn:n<=12)(hE:cl ke [P,.int r,.int c,.int mk]=.ok (val ((r:Int),(c:Int))))(hlv:lev ke=.full)(o0:Option Dat)(l0 l1 l2:Lv):
  aH lev cl (eS ke) [o0,some (.int mk),some P,some (dS val (bL n r c)),some (.int r),some (.int c)] [l0,l1,l2,.full,.full,.full]=.next [o0,some (.int mk),some P,some (dS val (bL n r (c+1))),some (.int r),some (.int c)] [l0,l1,l2,.full,.full,.full]:=by
 unfold eS;have hC:ak cl (.call ke (.pair (.var 2) (.pair (.var 4) (.pair (.var 5) (.pair (.var 1) .unit))))) [o0,some (.int mk),some P,some (dS val (bL n r c)),some (.int r),some (.int c)]=.ok (val ((r:Int),(c:Int))):=by
  simp only[zq,zg,zl,zd,za,aI,zi,hE]
 show(ak cl (.call ke _) _).okS _=_;rw[hC];simp only[eg,j8,zd,za,aI];rw[show wP (.tup [.int (r:Int),.int (c:Int)])=some (yS ((r:Int),(c:Int)))from rfl];simp only[Wz,Wy];unfold dS;simp only[];have hfull:aV lev (.call ke (.pair (.var 2) (.pair (.var 4) (.pair (.var 5) (.pair (.var 1) .unit))))) (val ((r:Int),(c:Int)))=.full:=by
  rw[qx,hlv];split<;>rfl
 have hlen:((bL n r c).map yS).length<av:=by
  rw[Qn,uL];have:r*n<=12*12:=WO (by lia) hn;unfold av;lia
 rw[M6 ⟨trivial,hfull,hlen⟩];simp only[Qd,Qc];rw[sE jq,mJ jq,<-Ax]
def HU (hn:R.length<=12)(hs:cl ks [au R]=.ok P)(hE:∀r c,r<R.length->c<R.length->cl ke [P,.int (r:Nat),.int (c:Nat),.int mk]=.ok (val ((r:Int),(c:Int))))(hlv:lev ke=.full)(hk:lev k=.full):
  zG lev cl k (nz ks ke) [au R,.int mk]=.ok (dS val (bL R.length R.length 0)):=by
 have hlen:y7 .len [au R]=.ok (.int R.length):=by simp[y7,xc,au]
 have hrg:jR (.int 0) (.int R.length) (.int 1)=.ok (.tup (yu 0 1 R.length)):=qH (by lia);have main:∀l0 l1 l2,∃o4 o5,aH lev cl (.forv 4 (.rng (.lit (.int 0)) (.blt .len (.pair (.var 0) .unit)) (.lit (.int 1))) (.forv 5 (.rng (.lit (.int 0)) (.blt .len (.pair (.var 0) .unit)) (.lit (.int 1))) (eS ke))) [some (au R),some (.int mk),some P,some (.dct [] []),none,none] [l0,l1,l2,.full,.full,.full]=.next [some (au R),some (.int mk),some P,some (dS val (bL R.length R.length 0)),o4,o5] [l0,l1,l2,.full,.full,.full]:=λl0 l1 l2=>by
  obtain⟨de',lv',e,rfl,o4,o5,rfl⟩:=yt (body:=λx de lv=>aH lev cl (.forv 5 (.rng (.lit (.int 0)) (.blt .len (.pair (.var 0) .unit)) (.lit (.int 1))) (eS ke)) (de.set 4 (some x)) (lv.set 4 (aT x)))
   (λr de lv=>lv=[l0,l1,l2,.full,.full,.full]/\∃o4 o5,de=[some (au R),some (.int mk),some P,some (dS val (bL R.length r 0)),o4,o5])
   (yu 0 1 R.length) (de:=[some (au R),some (.int mk),some P,some (dS val (bL R.length 0 0)),none,none]) (lv:=[l0,l1,l2,.full,.full,.full]) ⟨rfl,none,none,rfl⟩ (by
    rintro r x de lv hx ⟨rfl,o4,o5,rfl⟩;have hr:r<R.length:=by
     have:=(Qa.mp hx).1;simpa using this
    rw[xD _ _ _ _ hr]at hx;cases hx;rw[show(0:Int)+1*(r:Int)=(r:Int) by lia];simp only[Qd,Qc];rw[show aT (.int (r:Int))=.full from by simp[aT],we];simp only[vO,ze,yM,zg,zl,zd,aI,zi,hlen,hrg,aU,wq,ww,xW,if_true];obtain⟨de',lv',e,rfl,q5,rfl⟩:=yt (body:=λx de lv=>aH lev cl (eS ke) (de.set 5 (some x)) (lv.set 5 (aT x)))
     (λc de lv=>lv=[l0,l1,l2,.full,.full,.full]/\∃o5,de=[some (au R),some (.int mk),some P,some (dS val (bL R.length r c)),some (.int r),o5])
     (yu 0 1 R.length) (de:=[some (au R),some (.int mk),some P,some (dS val (bL R.length r 0)),some (.int r),o5]) (lv:=[l0,l1,l2,.full,.full,.full]) ⟨rfl,o5,rfl⟩ (by
      rintro c x de lv hx ⟨rfl,o5,rfl⟩;have hc:c<R.length:=by
       have:=(Qa.mp hx).1;simpa using this
      rw[xD _ _ _ _ hc]at hx;cases hx;rw[show(0:Int)+1*(c:Int)=(c:Int) by lia];simp only[Qd,Qc];rw[show aT (.int (c:Int))=.full from by simp[aT]];exact⟨_,_,EF hr hc hn (hE r c hr hc) hlv _ l0 l1 l2,rfl,_,rfl⟩)
    refine⟨_,_,e,rfl,some (.int r),q5,?_⟩;rw[show(yu 0 1 R.length).length=R.length from by simp,uN])
  rw[show(yu 0 1 R.length).length=R.length from by simp]at e;refine⟨o4,o5,?_⟩;rw[we];simp only[vO,ze,yM,zg,zl,zd,aI,zi,hlen,hrg,aU,wq,ww,xW,if_true];exact e
 unfold zG;rw[M6 (by rfl)];show zD (lev k) (aH lev cl (.seq (.asg 2 _) (.seq (.asg 3 .dict0) (.seq (.forv 4 _ (.forv 5 _ (eS ke))) (.ret _)))) [some (au R),some (.int mk),none,none,none,none] [aT (au R),aT (.int mk),.full,.full,.full,.full])=_;have h2:∃l0 l1 l2,aH lev cl (.seq (.asg 2 (.call ks (.pair (.var 0) .unit))) (.seq (.asg 3 .dict0) (.seq (.forv 4 (.rng (.lit (.int 0)) (.blt .len (.pair (.var 0) .unit)) (.lit (.int 1))) (.forv 5 (.rng (.lit (.int 0)) (.blt .len (.pair (.var 0) .unit)) (.lit (.int 1))) (eS ke))) (.ret (.var 3))))) [some (au R),some (.int mk),none,none,none,none] [aT (au R),aT (.int mk),.full,.full,.full,.full]
   = aH lev cl (.seq (.asg 3 .dict0) (.seq (.forv 4 (.rng (.lit (.int 0)) (.blt .len (.pair (.var 0) .unit)) (.lit (.int 1))) (.forv 5 (.rng (.lit (.int 0)) (.blt .len (.pair (.var 0) .unit)) (.lit (.int 1))) (eS ke))) (.ret (.var 3)))) [some (au R),some (.int mk),some P,none,none,none] [l0,l1,l2,.full,.full,.full]:=by
  rw[zC,zE];simp only[zq,zg,zl,zd,aI,zi,hs,aU];unfold vB;split
  .simp only[zf,Qd,Qc];exact⟨_,_,_,rfl⟩
  .simp only[zf,Qd,Qc,yB,zt,Q0,aR];exact⟨_,_,_,rfl⟩
 obtain⟨l0,l1,l2,h2⟩:=h2;refine(M9 (zD (lev k)) h2).trans ?_;rw[gS (d:=.dct [] []) rfl (by simp) rfl];simp only[Qd,Qc];obtain⟨o4,o5,e⟩:=main l0 l1 l2;rw[ye,e,zf];simp only[zI,zd,za,aU];simp[zD,cu,hk,wH,dS]
end
end Lib
namespace Lib
section
structure AR(n:Nat)(F G:Nat->Nat->Int):Prop where
 f:∀i j,i<n->j<=n->F i j=1\/F i j=-1
 g:∀i j,i<=n->j<n->G i j=1\/G i j=-1
 place:∀r c,r<n->c<n->F r c-F r (c+1)+G r c-G (r+1) c=0
 left:∀r,r<n->F r 0=1
 right:∀r,r<n->F r n=-1
 top:∀c,c<n->G 0 c=-1
 low:∀c,c<n->G n c=1
def pm:Dat:=.tup [.int 1,.int (-1)]
end
end Lib
namespace Lib
end Lib
namespace Lib
section
variable{lev:Nat->Lv}{cl:Nat->List Dat->Rd}{k:Nat}
def ar(W:Nat->Nat->Int)(i j:Nat):Int:=if(decide (W i j=1)==decide (((i:Int)+j)%2=1))=true then 1 else -1
def wd:Dat:=.tup [.int 1,.int 0]
def iY:Fn:=⟨1,1,(.ret (.cmp .eq (.bin .mod (.var 0) (.lit (.int 2))) (.lit (.int 1))))⟩
def EE(n:Int):zG lev cl k iY [.int n]=.ok (.bl (decide (n%2=1))):=by
 have h:=xj n 2 (by decide);simp[zG,iY,xK,xg,zD,cu,h]
def Ge (lev:Nat->Lv)(h:∀i:Int,aV lev e (.int i)=.full):aV lev (.compP kd e a b c) (row x)=.full:=by
 unfold row
 first|rw[vh]|rw[xB]
 simp only[wz,Qy,if_false];rw[M6 (ku _ _ h)]
def fH(kr:Nat):Ex:=(.compP .enum (.call kr (.pair (.var 1) (.pair (.var 2) .unit))) (.var 0) (.lit (.int 0)) (.lit (.bl true)))
def nw(kr:Nat):Fn:=⟨1,1,(.ret (fH kr))⟩
end
end Lib
namespace Lib
section
variable{lev:Nat->Lv}{cl:Nat->List Dat->Rd}{k:Nat}
def dy(x:List Int):List Int:=(QH (x.length+1)).map λc=>1-2*(x.take c).sum
def EC (h:c<=x.length):(dy x)[c]?=some (1-2*(x.take c).sum):=by
 simp only[dy,Qv];rw[WH (by lia)];rfl
def rh:Sm:=(.seq (.aug 1 .add (.var 3)) (.expr (.meth .append (.var 2) (.pair (.bin .sub (.lit (.int 1)) (.bin .mul (.lit (.int 2)) (.var 1))) .unit))))
def mm:Fn:=⟨1,4,(.seq (.asg 1 (.lit (.int 0))) (.seq (.asg 2 (.lst (.pair (.lit (.int 1)) .unit))) (.seq (.forv 3 (.var 0) rh) (.ret (.var 2)))))⟩
def EB(x:List Int)(hx:x.length<=100)(hk:lev k=.full):zG lev cl k mm [row x]=.ok (row (dy x)):=by
 have main:=yt (body:=λd de lv=>aH lev cl rh (de.set 3 (some d)) (lv.set 3 (aT d)))
  (λt de lv=>∃(p3:Option Dat) (l3:Lv),de=[some (row x),some (.int (x.take t).sum),some (row ((dy x).take (t+1))),p3]/\lv=[.no,.full,.full,l3])
  (x.map Dat.int) (de:=[some (row x),some (.int 0),some (row [1]),none]) (lv:=[.no,.full,.full,.full])
  ⟨none,.full,by simp[dy,Wq],rfl⟩ ?_
 .obtain ⟨de',lv',e,p3,l3,rfl,rfl⟩:=main;unfold zG;rw[M6 (by rfl)];show zD (lev k) (aH lev cl (.seq _ (.seq _ (.seq _ _))) [some (row x),none,none,none] [aT (row x),.full,.full,.full])=_;rw[show aT (row x)=.no from by simp[aT,row],zC];simp only[zE,ze,aU];rw[zS (by simp)];simp only[zf,Qd,Qc];rw[zC];simp only[zE,x9,zg,zl,ze,aI,zi];rw[xr (by simp;unfold av;lia)];simp only[aU];rw[yC (by simp)];simp only[zf,Qd,Qc];rw[ye,we];have hit:cS (row x)=some (x.map Dat.int):=wJ (by simp;unfold av;lia);have hfl:aw (row x)=false:=by simp[row]
  simp only[zd,za,aU,hit,hfl];have hrel:(if false=true then[Lv.no,Lv.full,Lv.full,Lv.full]else yB (.var 0) [some (row x),some (.int 0),some (.lst [.int 1]),none] [Lv.no,Lv.full,Lv.full,Lv.full])=[.no,.full,.full,.full]:=rfl;rw[hrel,show(some (.lst [.int 1]):Option Dat)=some (row [1])from rfl,e,zf];rw[Qn,WB (l:=dy x) (by simp[dy])];simp only[zI,zd,za,aU,cu,zD,show aw (row (dy x))=false from by simp[row],Qy,if_false,hk];rfl
 .rintro t d de lv hd ⟨p3,l3,rfl,rfl⟩;have ht:t<x.length:=by
   have:=(Qa.mp hd).1;simpa using this
  have hxt:x[t]?=some x[t]:=Qf ht;rw[Qv,hxt]at hd;cases hd;have hlen:((dy x).take (t+1)).length=t+1:=by simp[dy];lia
  have e2:(dy x).take (t+1+1)=(dy x).take (t+1)++[1-2*(x.take (t+1)).sum]:=by
   rw[Wi,EC (by lia),Option.toList_some]
  refine⟨_,_,?_,some (.int x[t]),aT (.int x[t]),rfl,rfl⟩;unfold rh;simp only[Qd,Qc];rw[qD];simp only[C4,Wz,Wy,za,zd,eg,zX,zf,Qd,Qc];rw[<-Gq hxt];rw[DX (v:=1-2*(x.take (t+1)).sum) (by rw[hlen];unfold av;lia) _ _ 2 (by simp only[zu,ze,zd,za,aI,yG 2 _ (show xo 2=true by decide),yE]) rfl rfl,e2];rfl
def eI(x:List Int):List Int:=x.map λv=>2*v-1
def ie:Ex:=(.comp (.bin .sub (.bin .mul (.lit (.int 2)) (.var 1)) (.lit (.int 1))) (.var 0) (.lit (.bl true)))
def ml:Fn:=⟨1,1,(.ret ie)⟩
def EA(x:List Int)(hx:x.length<=100)(hk:lev k=.full):zG lev cl k ml [row x]=.ok (row (eI x)):=by
 have hl:(x.map Dat.int).length<=av:=by simp;unfold av;lia
 have hev:ak cl ie [some (row x)]=.ok (row (eI x)):=by
  unfold ie;rw[vn];simp only[zd,aI,row,wJ hl];rw[yK Dat.int (λv=>.int (2*v-1)) x [] (λv _=>by simp) (λv _=>by simp only[Q7,QZ,zu,ze,zd,za,aI,yG 2 _ (show xo 2=true by decide),yE]) (by simpa using hl)];simp only[eI,Wj,QZ];rfl
 have hlv:aV lev ie (row (eI x))=.full:=ES lev λi=>yA lev _ _ rfl;have hR:∀lv,cu lev ie (row (eI x)) lv=.full:=λlv=>by
  unfold cu;rw[M7 (by simp[row])];exact hlv
 unfold zG;rw[M6 (by rfl)];show zD (lev k) (aH lev cl (.ret ie) [some (row x)] _)=_;rw[zI,hev];simp only[aU,zD,hR,hk];simp[wH]
def vv(kc:Nat)(it:Ex):Ex:=(.comp (.call kc (.pair (.var 3) .unit)) it (.lit (.bl true)))
def gc (hde:de.length=3)(hi:ak cl it de=.ok (au A))(hA:A.length<=100)(hf:∀x∈A,cl kc [row x]=.ok (row (f x))):ak cl (vv kc it) de=.ok (au (A.map f)):=by
 unfold vv;rw[vn,hi];simp only[aI,au,wJ (show(A.map row).length<=av from by simp;unfold av;lia)];rw[yK row (λx=>row (f x)) A [] (λ_ _=>by simp) (λx hx=>?_) (by simp;unfold av;lia)]
 .simp
 .have h3:(de++[some (row x)])[3]?=some (some (row x)):=by rw[Qi (by lia),hde];rfl
  have hv:ak cl (.var 3) (de++[some (row x)])=.ok (row x):=xz h3;simp only[zq,zg,zl,hv,aI,zi,hf x hx]
def gd (h:lev kc=.full):aV lev (vv kc it) (au A)=.full:=by
 unfold vv au
 first|rw[vh]|rw[xB]
 simp only[wz,Qy,if_false];rw[M6 (by
  rw[WJ,Wc];intro x _;simp[h])]
def Dh (h:Sq R):R.map dy=yw R.length (R.length+1) (dR R):=by
 refine We λi=>?_;by_cases hi:i<R.length
 .simp only[Qv,Qf hi,QJ,yw,WH hi];have:∀c,1-2*(R[i].take c).sum=dR R i c:=λc=>by simp[dR,hi]
  simp only[dy,h _ (WV hi),this];rfl
 .simp[yw,hi]
def Dg(R:List (List Int)):(kq R).map eI=yw (R.length+1) R.length (eG R):=by
 unfold kq yw;rw[Wj];refine WG λi _=>?_;simp only[Function.comp_apply,eI,zZ,xH,Wj];rfl
def l9(k0 k1 k2:Nat):Fn:=⟨1,3,(.seq (.asg 1 (vv k1 (.var 0))) (.seq (.asg 2 (vv k2 (.call k0 (.pair (.var 0) .unit)))) (.ret (.tup (.pair (.var 1) (.pair (.var 2) .unit))))))⟩
def Ez (h:Sq R)(hn:R.length<=12)(h0:cl k0 [au R]=.ok (au (kq R)))(h1:∀x:List Int,x.length<=100->cl k1 [row x]=.ok (row (dy x)))(h2:∀x:List Int,x.length<=100->cl k2 [row x]=.ok (row (eI x)))(l1:lev k1=.full)(l2:lev k2=.full)(hk:lev k=.full):
  zG lev cl k (l9 k0 k1 k2) [au R]=.ok (arr R.length (dR R) (eG R)):=by
 have e1:=gc (cl:=cl) (kc:=k1) (it:=.var 0) (de:=[some (au R),none,none]) (A:=R) (f:=dy) rfl (by simp) (by lia) (λx hx=>h1 x (by rw[h x hx];lia));rw[Dh h]at e1;have e2:=gc (cl:=cl) (kc:=k2) (it:=.call k0 (.pair (.var 0) .unit)) (de:=[some (au R),some (au (yw R.length (R.length+1) (dR R))),none]) (A:=kq R) (f:=eI) rfl (by simp only[zq,zg,zl,zd,aI,zi,h0]) (by simp[kq];lia) (λx hx=>h2 x (by
  obtain⟨i,_,rfl⟩:=Wg.mp hx;simp[zZ];lia))
 rw[Dg]at e2;unfold zG;rw[M6 (by rfl)];show zD (lev k) (aH lev cl (.seq _ (.seq _ _)) [some (au R),none,none] [aT (au R),.full,.full])=_;rw[zC,zE,e1];simp only[aU];rw[yC (gd l1)];simp only[zf,Qd,Qc];rw[ye,zE,e2];simp only[aU];rw[yC (gd l2)];simp only[zf,Qd,Qc];simp[zD,cu,hk,arr,wH,au,show 2<=av from by decide]
end
end Lib
namespace Lib
section
variable{lev:Nat->Lv}{cl:Nat->List Dat->Rd}{k:Nat}
def wk(F:Nat->Nat->Int)(i j:Nat):Int:=if(decide (F i j=1)==decide (((i:Int)+j)%2=1))=true then 1 else 0
def fU(ko:Nat):Ex:=(.compP .enum (.ife (.cmp .eq (.cmp .eq (.var 3) (.lit (.int 1))) (.call ko (.pair (.bin .add (.var 0) (.var 2)) .unit))) (.lit (.int 1)) (.lit (.int 0))) (.var 1) (.lit (.int 0)) (.lit (.bl true)))
def mO(ko:Nat):Fn:=⟨2,2,(.ret (fU ko))⟩
def GC (ho:∀n:Int,cl ko [.int n]=.ok (.bl (decide (n%2=1))))(hq:q<=100)(W:Nat->Nat->Int)(i:Nat)(hk:lev k=.full):zG lev cl k (mO ko) [.int i,row (xH q W i)]=.ok (row (xH q (wk W) i)):=by
 have hev:ak cl (fU ko) [some (.int i),some (row (xH q W i))]=.ok (row (xH q (wk W) i)):=by
  unfold fU;rw[w5];simp only[zd,za,ze,aI,Gr 0 (xH q W i) (by rw[AA];unfold av;lia),AA];rw[yK (λ(j:Nat)=>(Dat.int (0+(j:Int)),Dat.int ((xH q W i).getD j 0))) (λ(j:Nat)=>.int (wk W i j)) _ [] (λj _=>by simp) (λj hj=>?_) (by simp;unfold av;lia)]
  .simp only[QZ,row,xH,Wj];rfl
  .have hj':j<q:=by simpa using hj
   rw[show(xH q W i).getD j 0=W i j from vt (by simp[xH,hj']),Int.zero_add];simp only[Q7,QZ,kS,zH,zq,zg,zl,zu,ze,zd,za,aI,zi,zX,ho,yL,C6];unfold wk;cases(decide (W i j=1)==decide (((i:Int)+j)%2=1))<;>rfl
 have hlv:aV lev (fU ko) (row (xH q (wk W) i))=.full:=Ge lev λi=>yA lev _ _ rfl;have hR:∀lv,cu lev (fU ko) (row (xH q (wk W) i)) lv=.full:=λlv=>by
  unfold cu;rw[M7 (by simp[row])];exact hlv
 unfold zG;rw[M6 (by rfl)];show zD (lev k) (aH lev cl (.ret (fU ko)) [some (.int i),some (row (xH q W i))] _)=_;rw[zI,hev];simp only[aU,zD,hR,hk];simp[wH]
def HS (hp:p<=100)(W:Nat->Nat->Int)(hr:∀i:Nat,cl kr [.int i,row (xH q W i)]=.ok (row (xH q (wk W) i)))(hkr:lev kr=.full)(hk:lev k=.full):zG lev cl k (nw kr) [au (yw p q W)]=.ok (au (yw p q (wk W))):=by
 have hev:ak cl (fH kr) [some (au (yw p q W))]=.ok (au (yw p q (wk W))):=by
  unfold fH;rw[w5];simp only[zd,ze,aI];rw[Gp 0 (yw p q W) (by rw[j6];unfold av;lia),j6];simp only;rw[yK (λ(i:Nat)=>(Dat.int (0+(i:Int)),row ((yw p q W).getD i []))) (λ(i:Nat)=>row (xH q (wk W) i)) _ [] (λi _=>by simp) (λi hi=>?_) (by simp;unfold av;lia)]
  .simp only[QZ,au,yw,Wj];rfl
  .have hi':i<p:=by simpa using hi
   rw[show(yw p q W).getD i []=xH q W i from by simp[yw,hi'],Int.zero_add];simp only[Q7,QZ,zq,zg,zl,za,zd,aI,zi,hr]
 have hlv:aV lev (fH kr) (au (yw p q (wk W)))=.full:=by
  have:((yw p q (wk W)).map row).all (λx=>aV lev (.call kr (.pair (.var 1) (.pair (.var 2) .unit))) x == .full)=true:=by
   rw[WJ,Wc];intro x _;simp[row,hkr]
  unfold fH au
  first|rw[vh]|rw[xB]
  simp only[wz,Qy,if_false];rw[M6 this]
 have hR:∀lv,cu lev (fH kr) (au (yw p q (wk W))) lv=.full:=λlv=>by
  unfold cu;rw[M7 (by simp[au])];exact hlv
 unfold zG;rw[M6 (by rfl)];show zD (lev k) (aH lev cl (.ret (fH kr)) [some (au (yw p q W))] _)=_;rw[zI,hev];simp only[aU,zD,hR,hk];simp[wH]
def l8(ka kg:Nat):Fn:=⟨1,2,(.seq (.asg 1 (.call ka (.pair (.var 0) .unit))) (.ret (.tup (.pair (.call kg (.pair (.idx (.var 1) (.lit (.int 0))) .unit)) (.pair (.call kg (.pair (.idx (.var 1) (.lit (.int 1))) .unit)) .unit)))))⟩
def Ey (ha:cl ka [au R]=.ok (arr n F G))(h1:cl kg [au (yw n (n+1) F)]=.ok (au (yw n (n+1) (wk F))))(h2:cl kg [au (yw (n+1) n G)]=.ok (au (yw (n+1) n (wk G))))(hkg:lev kg=.full)(hka:lev ka=.full)(hk:lev k=.full):
  zG lev cl k (l8 ka kg) [au R]=.ok (arr n (wk F) (wk G)):=by
 have i0:zQ (arr n F G) (.int 0)=.ok (au (yw n (n+1) F)):=rfl;have i1:zQ (arr n F G) (.int 1)=.ok (au (yw (n+1) n G)):=rfl;unfold zG;rw[M6 (by rfl)];show zD (lev k) (aH lev cl (.seq _ (.ret _)) [some (au R),none] _)=_;rw[ye];simp only[zE,zq,zg,zl,zd,aI,zi,ha,aU];rw[yC (by simp[hka])];simp only[zf,Qd,Qc,zI,wZ,zq,zg,zl,yh,ze,zd,za,aI,zi,i0,i1,h1,h2];simp[zD,cu,hkg,hk,arr,wH,au,show 2<=av from by decide]
end
end Lib
namespace Lib
section
def eR(b:Bool):Int:=if b=true then 1 else 0
def qL [Decidable p](h:F i j=1↔p):wk F i j=eR (decide p==decide (((i:Int)+j)%2=1)):=by
 unfold wk eR;rw[show decide (F i j=1)=decide p from decide_eq_decide.mpr h]
def BH (H:bQ R)(hr:r<R.length)(hc:c<R.length)(hF:∀i j,i<R.length->j<=R.length->F i j=1-2*ck R i j)(hG:∀i j,i<=R.length->j<R.length->G i j=2*S R i j-1):
  wk G r c=eR (bS R r c .u)/\wk F r (c+1)=eR (bS R r c .r)/\wk G (r+1) c=eR (bS R r c .d)/\wk F r c=eR (bS R r c .l):=by
 have q:((r:Int)+c)%2=0\/((r:Int)+c)%2=1:=by lia
 have q1:((r:Int)+((c+1:Nat):Int))%2=1-((r:Int)+c)%2:=by lia
 have q2:(((r+1:Nat):Int)+(c:Int))%2=1-((r:Int)+c)%2:=by lia
 have s1:=H.col r c (by lia) hc;have s2:=H.col (r+1) c (by lia) hc;have t1:ck R r c=0\/ck R r c=1:=H.row r c hr (by lia);have t2:ck R r (c+1)=0\/ck R r (c+1)=1:=H.row r (c+1) hr (by lia);have f1:=hF r c hr (by lia);have f2:=hF r (c+1) hr (by lia);have g1:=hG r c (by lia) hc;have g2:=hG (r+1) c (by lia) hc;refine⟨?_,?_,?_,?_⟩
 .rw[qL (p:=S R r c=1) (by lia)];unfold bS;rcases s1 with s|s<;>rcases q with q|q<;>rw[s,q]<;>rfl
 .rw[qL (p:=ck R r (c+1)=0) (by lia),q1];unfold bS;rcases t2 with s|s<;>rcases q with q|q<;>rw[s,q]<;>rfl
 .rw[qL (p:=S R (r+1) c=1) (by lia),q2];unfold bS;rcases s2 with s|s<;>rcases q with q|q<;>rw[s,q]<;>rfl
 .rw[qL (p:=ck R r c=0) (by lia)];unfold bS;rcases t1 with s|s<;>rcases q with q|q<;>rw[s,q]<;>rfl
end
end Lib
namespace Lib
section
def Ew (hp:bq n p=true)(h:zT n p e=zT n p f):e=f:=by
 obtain⟨⟨a0,a1⟩,b0,b1⟩:=aK.mp hp;obtain⟨a,b⟩:=p;simp only[]at a0 a1 b0 b1;unfold zT at h;by_cases h1:bq n (aP e (a,b))=true
 .rw[M6 h1]at h;by_cases h2:bq n (aP f (a,b))=true
  .rw[M6 h2]at h;have h:Dat.tup [.int (aP e (a,b)).1,.int (aP e (a,b)).2]=Dat.tup [.int (aP f (a,b)).1,.int (aP f (a,b)).2]:=h;simp only[Dat.tup.injEq,List.cons.injEq,Dat.int.injEq,and_true]at h;cases e<;>cases f<;>simp only[aP]at h<;>first|rfl|lia
  .rw[M7 h2]at h;cases h
 .rw[M7 h1]at h;by_cases h2:bq n (aP f (a,b))=true
  .rw[M6 h2]at h;cases h
  .rw[M7 h2]at h;simp only[Dat.int.injEq]at h;cases e<;>cases f<;>simp only[yq]at h<;>first|rfl|lia
end
end Lib
namespace Lib
section
variable{lev:Nat->Lv}{cl:Nat->List Dat->Rd}{k:Nat}
def nv(pre:List Dat)(x y:Dat):zQ (.lst (pre++[x,y])) (.int (-1))=.ok y:=kT (by simp)
def B4(pre:List Dat)(x y:Dat):zQ (.lst (pre++[x,y])) (.int (-2))=.ok x:=by
 have hi:ix (pre++[x,y]).length (-2)=some pre.length:=by
  unfold ix;rw[M7 (by lia),M6 (by simp;lia)];congr 1;simp;lia
 show(match (ix (pre++[x,y]).length (-2)).bind λj=>(pre++[x,y])[j]? with|some v=>Rd.ok v|none=>.no)=_;rw[hi];simp
def c8 (h:(bh.filter f).length=2)(hd:f d=true):bh.filter f=[d,bE f d]\/bh.filter f=[bE f d,d]:=by
 unfold bE bh at *
 cases h1:f .u<;>cases h2:f .r<;>cases h3:f .d<;>cases h4:f .l<;>simp[h1,h2,h3,h4]at h ⊢<;>cases d<;>simp_all
def sD(a b c d:Int):yz .eq (.tup [.int a,.int b]) (.tup [.int c,.int d])=.ok (.bl (decide (a=c)&&(decide (b=d)&&true))):=rfl
def BG(a b c:Int):yz .eq (.tup [.int a,.int b]) (.int c)=.ok (.bl false):=rfl
def BF(a b c:Int):yz .eq (.int c) (.tup [.int a,.int b])=.ok (.bl false):=rfl
def tE (hp:bq n p=true)(e f:Di):yz .eq (zT n p e) (zT n p f)=.ok (.bl (decide (e=f))):=by
 by_cases q:e=f
 .subst q;rw[Na rfl];unfold zT;split
  .show yz .eq (.tup [.int _,.int _]) (.tup [.int _,.int _])=_;rw[sD];simp
  .rw[yL];simp
 .rw[M5 q];have hne:zT n p e≠zT n p f:=λz=>q (Ew hp z);unfold zT at hne ⊢;by_cases h1:bq n (aP e p)=true
  .rw[M6 h1]at hne ⊢;by_cases h2:bq n (aP f p)=true
   .rw[M6 h2]at hne ⊢;show yz .eq (.tup [.int _,.int _]) (.tup [.int _,.int _])=_;rw[sD];have:¬((aP e p).1=(aP f p).1/\(aP e p).2=(aP f p).2):=λz=>hne (by unfold aE;rw[z.1,z.2]);by_cases z1:(aP e p).1=(aP f p).1
    .have z2:¬(aP e p).2=(aP f p).2:=λz2=>this ⟨z1,z2⟩;simp[z2]
    .simp[z1]
   .rw[M7 h2];exact BG _ _ _
  .rw[M7 h1]at hne ⊢;by_cases h2:bq n (aP f p)=true
   .rw[M6 h2];exact BF _ _ _
   .rw[M7 h2]at hne ⊢;rw[yL,M5 (λz=>hne (by rw[z]))]
def kz(n:Nat)(t:Tr)(p:Pl):Dat:=.lst ((bh.filter (t p)).map (zT n p))
structure ED(n:Nat)(t:Tr)(D:Dat):Prop where
 get:∀p,bq n p=true->v9 D (aE p)=.ok (kz n t p)
 isin:∀p,bq n p=true->yz .isin (aE p) D=.ok (.bl true)
 out:∀i:Int,yz .isin (.int i) D=.ok (.bl false)
def B3 (h:∀p,bq n p=true->val p=kz n t p):ED n t (dS val (bL n n 0)) where
 get:=λp hp=>by
  show(match (wP (aE p)).bind (dD _ _)with|some v=>Rd.ok v|none=>.no)=_;rw[show wP (aE p)=some (yS p)from rfl];simp only[W2];rw[qJ (qK hp)];simp only[h p hp]
 isin:=λp hp=>by
  show qm ((xP [.int p.1,.int p.2]).map λk=>decide (k∈(bL n n 0).map yS))=_;rw[show xP [.int p.1,.int p.2]=some (yS p)from rfl];show Rd.ok (.bl (decide (yS p∈(bL n n 0).map yS)))=_;rw[Na (List.mem_map_of_mem (qK hp))]
 out:=λ_=>rfl
def fw:Ex:=(.and (.cmp .isin (.idx (.var 3) (.neg (.lit (.int 1)))) (.var 0)) (.cmp .ne (.idx (.var 3) (.neg (.lit (.int 1)))) (.var 1)))
def lC:Ex:=(.ife (.cmp .eq (.idx (.var 4) (.lit (.int 0))) (.idx (.var 3) (.neg (.lit (.int 2))))) (.idx (.var 4) (.lit (.int 1))) (.idx (.var 4) (.lit (.int 0))))
def lB:Ex:=(.dget (.var 0) (.idx (.var 3) (.neg (.lit (.int 1)))))
def iK:Sm:=(.seq (.asg 4 lB) (.expr (.meth .append (.var 3) (.pair lC .unit))))
def nu:Fn:=⟨3,5,(.seq (.asg 3 (.lst (.pair (.var 1) (.pair (.var 2) .unit)))) (.seq (.while fw iK) (.ret (.var 3))))⟩
def BZ (F:cN n t)(g:Good n t s)(pre:List Dat):
  ak cl lC [d0,d1,d2,some (.lst (pre++[zT n s.1 s.2,aE s.1])),some (kz n t s.1)]=.ok (zT n s.1 (bE (t s.1) s.2)):=by
 have h2:=B4 pre (zT n s.1 s.2) (aE s.1);obtain⟨_,o2,_⟩:=x6 (F.two s.1 g.1) g.2;unfold lC kz;rcases c8 (F.two s.1 g.1) g.2 with e|e
 .rw[e];have i0:zQ (.lst ([s.2,bE (t s.1) s.2].map (zT n s.1))) (.int 0)=.ok (zT n s.1 s.2):=rfl;have i1:zQ (.lst ([s.2,bE (t s.1) s.2].map (zT n s.1))) (.int 1)=.ok (zT n s.1 (bE (t s.1) s.2)):=rfl;simp only[kS,zH,yh,wI,ze,zd,za,aI,i0,i1,h2,tE g.1,decide_true]
 .rw[e];have i0:zQ (.lst ([bE (t s.1) s.2,s.2].map (zT n s.1))) (.int 0)=.ok (zT n s.1 (bE (t s.1) s.2)):=rfl;simp only[kS,zH,yh,wI,ze,zd,za,aI,i0,h2,tE g.1,M5 o2]
def Ev (F:cN n t)(hD:ED n t D)(g:Good n t s)(pre:List Dat)(hl:pre.length+2<av)(l0 l1 l2 l4:Lv):
  ∃m0 m4,aH lev cl iK [some D,d1,d2,some (.lst (pre++[zT n s.1 s.2,aE s.1])),d4] [l0,l1,l2,.full,l4] =
   .next [some D,d1,d2,some (.lst ((pre++[zT n s.1 s.2,aE s.1])++[zT n s.1 (bE (t s.1) s.2)])),some (kz n t s.1)] [m0,l1,l2,.full,m4]:=by
 have h1:=nv pre (zT n s.1 s.2) (aE s.1);have hG:ak cl lB [some D,d1,d2,some (.lst (pre++[zT n s.1 s.2,aE s.1])),d4]=.ok (kz n t s.1):=by
  unfold lB;simp only[uP,yh,wI,ze,zd,za,aI,h1,hD.get s.1 g.1]
 unfold iK;rw[zy lev cl _ _ rfl,zE,hG];simp only[aU];have go:∀m0 m4,∃m0' m4',aH lev cl (.expr (.meth .append (.var 3) (.pair lC .unit))) [some D,d1,d2,some (.lst (pre++[zT n s.1 s.2,aE s.1])),some (kz n t s.1)] [m0,l1,l2,.full,m4] =
   .next [some D,d1,d2,some (.lst ((pre++[zT n s.1 s.2,aE s.1])++[zT n s.1 (bE (t s.1) s.2)])),some (kz n t s.1)] [m0',l1,l2,.full,m4']:=λm0 m4=>by
  refine⟨m0,m4,?_⟩;rw[wK,BZ F g];simp only[eg];rw[show x8 [some D,d1,d2,some (.lst (pre++[zT n s.1 s.2,aE s.1])),some (kz n t s.1)] 3=some (pre++[zT n s.1 s.2,aE s.1])from rfl];simp only[];rw[M6 (by simp;lia)];unfold xC;rw[M7 (by simp[yg]),M6 (yA lev _ _ (Ay _ _ _))];simp only[Qd,Qc]
 unfold vB;split
 .simp only[zf,Qd,Qc];exact go _ _
 .rw[show yB lB [some D,d1,d2,some (.lst (pre++[zT n s.1 s.2,aE s.1])),d4] [l0,l1,l2,.full,l4]=[.no,l1,l2,.full,l4]from rfl];simp only[zf,Qd,Qc];exact go _ _
def BY (hD:ED n t D)(hp:bq n p=true)(pre:List Dat)(x:Dat):ak cl fw [some D,some (.int ρ),d2,some (.lst (pre++[x,aE p])),d4]=.ok (.bl true):=by
 have h1:=nv pre x (aE p);unfold fw;simp only[yW,zH,yh,wI,ze,zd,za,aI,h1,hD.isin p hp];rfl
def Eu (hD:ED n t D)(pre:List Dat)(x:Dat):ak cl fw [some D,d1,d2,some (.lst (pre++[x,.int i])),d4]=.ok (.bl false):=by
 have h1:=nv pre x (.int i);unfold fw;simp only[yW,zH,yh,wI,ze,zd,za,aI,h1,hD.out i]
theorem uJ (F:cN n t)(hD:ED n t D)(ρ:Int)(d2:Option Dat):∀(f:Nat) (s:bP) (acc pl:List Pl) (σ:Int),Good n t s->wG n t f s acc=some (pl,σ)->acc.length+f+2<=av->(∃pre,.int ρ::acc.map aE=pre++[zT n s.1 s.2,aE s.1])->∀(fuel:Nat),f+1<=fuel->∀(d4:Option Dat) (l0 l1 l2 l4:Lv),
  ∃q4 m0 m4,yJ (ak cl fw) (aH lev cl iK) fuel [some D,some (.int ρ),d2,some (.lst (.int ρ::acc.map aE)),d4] [l0,l1,l2,.full,l4]=.next [some D,some (.int ρ),d2,some (.lst (.int ρ::pl.map aE++[.int σ])),q4] [m0,l1,l2,.full,m4]
 |0,s,acc,pl,σ,g,h,ha,hp,fuel,hf,d4,l0,l1,l2,l4=>by cases h
 |f+1,s,acc,pl,σ,g,h,ha,⟨pre,hp⟩,fuel,hf,d4,l0,l1,l2,l4=>by
  obtain⟨q,rfl⟩:∃q,fuel=q+1:=⟨fuel-1,by lia⟩;have hlen:pre.length+2=acc.length+1:=by
   have:=M9 List.length hp;simpa using this.symm
  obtain⟨m0,m4,hB⟩:=Ev (lev:=lev) (cl:=cl) F hD g (d1:=some (.int ρ)) (d2:=d2) (d4:=d4) pre (by lia) l0 l1 l2 l4;have h':(match b8 n t s with|some s'=>wG n t f s' (acc++[s'.1])|none=>some (acc,vN n t s))=some (pl,σ):=h;have unf:∀(c:aO->Rd) (body:aO->List Lv->bZ) (k:Nat) (de:aO) (lv:List Lv),yJ c body (k+1) de lv=match c de with
   |.ok (.bl true)=>match body de lv with
    |.next d1 l1=>yJ c body k d1 l1
    |.cont d1 l1=>yJ c body k d1 l1
    |.brk d1 l1=>.next d1 l1
    |r=>r
   |.ok (.bl false)=>.next de lv
   |.exc c d=>.exc c d
   |_=>.no:=λ_ _ _ _ _=>rfl
  rw[unf,hp,BY hD g.1];simp only[];rw[hB];simp only[];rw[<-hp];unfold b8 vN at h';by_cases hi:bq n (aP (bE (t s.1) s.2) s.1)=true
  .rw[M6 hi]at h';have hb:zT n s.1 (bE (t s.1) s.2)=aE (aP (bE (t s.1) s.2) s.1):=by unfold zT;rw[M6 hi]
   have en:b8 n t s=some (aP (bE (t s.1) s.2) s.1,cH (bE (t s.1) s.2)):=by unfold b8;rw[M6 hi]
   rw[hb];have e:(.int ρ::acc.map aE)++[aE (aP (bE (t s.1) s.2) s.1)]=.int ρ::(acc++[aP (bE (t s.1) s.2) s.1]).map aE:=by simp
   rw[e];refine uJ F hD ρ d2 f _ _ pl σ (yI F g en).1 h' (by simp;lia) ⟨pre++[zT n s.1 s.2],?_⟩ q (by lia) _ _ _ _ _;rw[<-e,hp,Wl,Wl];have hb2:zT n (aP (bE (t s.1) s.2) s.1) (cH (bE (t s.1) s.2))=aE s.1:=by
    unfold zT;rw[v8,M6 g.1]
   simp[hb2]
  .rw[M7 hi]at h';cases h';have hb:zT n s.1 (bE (t s.1) s.2)=.int (yq n s.1 (bE (t s.1) s.2)):=by unfold zT;rw[M7 hi]
   rw[hb];obtain⟨q',rfl⟩:∃q',q=q'+1:=⟨q-1,by lia⟩;refine⟨some (kz n t s.1),m0,m4,?_⟩;rw[unf,show(Dat.int ρ::acc.map aE)++[.int (yq n s.1 (bE (t s.1) s.2))]=(pre++[zT n s.1 s.2])++[aE s.1,.int (yq n s.1 (bE (t s.1) s.2))]from by rw[hp];simp,Eu hD]
def HR (hn:0<n)(hn':n<=12)(hρ:ρ<4*n)(F:cN n t)(hD:ED n t D)(g:Good n t (bu n ρ))(hr:bq n (aP (bu n ρ).2 (bu n ρ).1)=false)(he:yq n (bu n ρ).1 (bu n ρ).2=ρ)(hw:wG n t (n*n*4) (bu n ρ) [(bu n ρ).1]=some (pl,σ))(hk:lev k=.full):zG lev cl k nu [D,.int ρ,aE (bu n ρ).1]=.ok (.lst (.int ρ::pl.map aE++[.int σ])):=by
 have hnn:n*n*4<=576:=by
  have:n*n<=12*12:=WO hn' hn';lia
 have hb:zT n (bu n ρ).1 (bu n ρ).2=.int ρ:=by
  unfold zT;rw[M7 (by rw[hr];decide),he]
 obtain⟨q4,m0,m4,hL⟩:=uJ (lev:=lev) (cl:=cl) F hD ρ (some (aE (bu n ρ).1)) (n*n*4) (bu n ρ) [(bu n ρ).1] pl σ g hw (by simp;unfold av;lia) ⟨[],by rw[hb];rfl⟩ 1000000 (by lia) none (aT D) .full .full .full;have fl:∀pl:List Pl,aY (pl.map aE)=true:=λpl=>by
  induction pl with
  |nil=>rfl
  |cons a l ih=>rw[QR,jX,ih];simp[aE]
 unfold zG;rw[M6 (by rfl)];show zD (lev k) (aH lev cl (.seq (.asg 3 _) (.seq (.while fw iK) (.ret _))) [some D,some (.int ρ),some (aE (bu n ρ).1),none,none] [aT D,aT (.int ρ),aT (aE (bu n ρ).1),.full,.full])=_;rw[show aT (.int (ρ:Int))=.full from by simp[aT],show aT (aE (bu n ρ).1)=.full from by simp[aT,aE]];rw[gS (d:=.lst [.int ρ,aE (bu n ρ).1]) (by
  simp only[x9,zg,zl,zd,za,aI,zi];exact xr (show 2<=av by decide)) (by simp[aE]) rfl]
 simp only[Qd,Qc];rw[ye,j4];have hL':=hL;rw[show(List.map aE [(bu n ρ).1])=[aE (bu n ρ).1]from rfl]at hL';rw[hL',zf];simp only[zI,zd,za,aU];simp[zD,cu,hk,wH]
end
end Lib
namespace Lib
def HQ(R:List (List Int)):cX R false=dI R:=by
 funext p d;show(!(dI R p d==false))=_;cases dI R p d<;>rfl
end Lib
namespace Lib
section
variable{n:Nat}{t:Tr}
def Ch(n:Nat)(t:Tr):bP->List bP->bP->Prop
 |s,[],l=>s=l
 |s,q::qs,l=>b8 n t s=some q/\Ch n t q qs l
def dL(t:Tr)(s:bP):bP:=(s.1,bE (t s.1) s.2)
theorem uI:∀(k:Nat) (s:bP) (acc pl:List Pl) (σ:Int),wG n t k s acc=some (pl,σ)->∃qs l,Ch n t s qs l/\b8 n t l=none/\pl=acc++qs.map (·.1)/\σ=vN n t l/\qs.length<k
 |0,_,_,_,_,h=>by cases h
 |k+1,s,acc,pl,σ,h=>by
  have h':(match b8 n t s with|some s'=>wG n t k s' (acc++[s'.1])|none=>some (acc,vN n t s))=some (pl,σ):=h;cases e:b8 n t s with
  |none=>
   rw[e]at h';cases h';exact⟨[],s,rfl,e,by simp,rfl,by simp⟩
  |some s'=>
   rw[e]at h';obtain⟨qs,l,h1,h2,h3,h4,h5⟩:=uI k s' _ pl σ h';exact⟨s'::qs,l,⟨e,h1⟩,h2,by rw[h3];simp,h4,by simp;lia⟩
theorem uH:∀(qs:List bP) (k:Nat) (s:bP) (l:bP) (acc:List Pl),Ch n t s qs l->b8 n t l=none->qs.length<k->wG n t k s acc=some (acc++qs.map (·.1),vN n t l)
 |[],k,s,l,acc,h,e,hk=>by
  cases(show s=l from h);obtain⟨j,rfl⟩:∃j,k=j+1:=⟨k-1,by simp at hk;lia⟩;show(match b8 n t s with|some s'=>wG n t j s' (acc++[s'.1])|none=>some (acc,vN n t s))=_;rw[e];simp
 |q::qs,k,s,l,acc,h,e,hk=>by
  obtain⟨h1,h2⟩:=h;obtain⟨j,rfl⟩:∃j,k=j+1:=⟨k-1,by simp at hk;lia⟩;show(match b8 n t s with|some s'=>wG n t j s' (acc++[s'.1])|none=>some (acc,vN n t s))=_;rw[h1];simp only[];rw[uH qs j q l _ h2 e (by simp at hk;lia)];simp
theorem qM(F:cN n t):∀(qs:List bP) (s l:bP),Good n t s->Ch n t s qs l->Good n t l
 |[],s,l,g,h=>by cases(show s=l from h);exact g
 |q::qs,s,l,g,h=>qM F qs q l (yI F g h.1).1 h.2
theorem uG:∀(qs:List bP) (s l x:bP),Ch n t s qs l->b8 n t l=some x->Ch n t s (qs++[x]) x
 |[],s,l,x,h,e=>by cases(show s=l from h);exact⟨e,rfl⟩
 |q::qs,s,l,x,h,e=>⟨h.1,uG qs q l x h.2 e⟩
theorem tD:∀(qs:List bP) (s l x:bP),Ch n t s (qs++[x]) l->∃l',Ch n t s qs l'/\b8 n t l'=some x/\l=x
 |[],s,l,x,h=>⟨s,rfl,h.1,h.2.symm⟩
 |q::qs,s,l,x,h=>by
  obtain⟨l',h1,h2,h3⟩:=tD qs q l x h.2;exact⟨l',⟨h.1,h1⟩,h2,h3⟩
def GB (F:cN n t)(g:Good n t s):Good n t (dL t s):=⟨g.1,(x6 (F.two s.1 g.1) g.2).1⟩
def uF (F:cN n t)(g:Good n t s)(h:b8 n t s=some q):b8 n t (dL t q)=some (dL t s):=by
 have gq:=(yI F g h).1;obtain⟨_,_,o3,_⟩:=x6 (F.two q.1 gq.1) gq.2;unfold b8;show(if bq n (aP (bE (t q.1) (bE (t q.1) q.2)) q.1)=true then some (aP (bE (t q.1) (bE (t q.1) q.2)) q.1,cH (bE (t q.1) (bE (t q.1) q.2)))else none)=_;rw[o3];unfold b8 at h;split at h
 .cases h;show(if bq n (aP (cH _) (aP _ s.1))=true then some (aP (cH _) (aP _ s.1),cH (cH _))else none)=_;rw[v8,uA,M6 g.1];rfl
 .cases h
def Et (F:cN n t)(g:Good n t s)(hr:eU n s):b8 n t (dL t s)=none/\vN n t (dL t s)=yq n s.1 s.2:=by
 have o3:=(x6 (F.two s.1 g.1) g.2).2.2.1;constructor
 .unfold b8;show(if bq n (aP (bE (t s.1) (bE (t s.1) s.2)) s.1)=true then _ else none)=none;rw[o3,M7 (by unfold eU at hr;rw[hr];decide)]
 .show yq n s.1 (bE (t s.1) (bE (t s.1) s.2))=_;rw[o3]
theorem tz(F:cN n t):∀(qs:List bP) (s l:bP),Good n t s->Ch n t s qs l->∃qs',Ch n t (dL t l) qs' (dL t s)/\l.1::qs'.map (·.1)=(s.1::qs.map (·.1)).reverse/\qs'.length=qs.length
 |[],s,l,g,h=>by cases(show s=l from h);exact⟨[],rfl,rfl,rfl⟩
 |q::qs,s,l,g,h=>by
  obtain⟨qs',h1,h2,h3⟩:=tz F qs q l (yI F g h.1).1 h.2;refine⟨qs'++[dL t s],uG qs' _ _ _ h1 (uF F g h.1),?_,by simp[h3]⟩;rw[Wv,<-Q7,h2,QR,Q9];simp[dL]
def BX(e:Di)(p:Pl):aP e p≠p:=λh=>by
 have h1:=M9 Prod.fst h;have h2:=M9 Prod.snd h;cases e<;>simp only[aP]at h1 h2<;>lia
theorem sC(F:cN n t):∀(k:Nat) (s:bP) (qs:List bP) (l:bP),qs.length<=k->Good n t s->Ch n t s qs l->dL t l=s->False
 |k,s,[],l,_,g,h,e=>by
  cases(show s=l from h);exact(x6 (F.two s.1 g.1) g.2).2.1 (M9 Prod.snd e)
 |0,s,q::qs,l,hk,g,h,e=>by simp at hk
 |k+1,s,q::qs,l,hk,g,h,e=>by
  rcases List.eq_nil_or_concat qs with z|⟨qs0,x,z⟩
  .subst z;obtain⟨h1,h2⟩:=h;cases(show q=l from h2);have e1:q.1=s.1:=by rw[<-e];rfl
   unfold b8 at h1;split at h1
   .cases h1;exact BX _ _ e1
   .cases h1
  .rw[List.concat_eq_append]at z;subst z;obtain⟨h1,h2⟩:=h;obtain⟨l',g1,g2,g3⟩:=tD qs0 q l x h2;subst g3;have gq:=(yI F g h1).1;have gl':=qM F qs0 q l' gq g1;have r:=uF F gl' g2;rw[e,h1]at r;cases r;exact sC F k (dL t l') qs0 l' (by simp at hk;lia) gq g1 rfl
end
def Es (h:bq n p=true):0<=yq n p e/\yq n p e<4*n:=by
 obtain⟨⟨a0,a1⟩,b0,b1⟩:=aK.mp h;cases e<;>simp only[yq]<;>lia
def GA (hp:bq n p=true)(hq:bq n q=true)(rp:bq n (aP e p)=false)(rq:bq n (aP f q)=false)(h:yq n p e=yq n q f):(p,e)=(q,f):=by
 obtain⟨⟨a0,a1⟩,b0,b1⟩:=aK.mp hp;obtain⟨⟨c0,c1⟩,d0,d1⟩:=aK.mp hq;have rp:¬(bq n (aP e p)=true):=by rw[rp];exact QP
 have rq:¬(bq n (aP f q)=true):=by rw[rq];exact QP
 rw[aK]at rp rq;obtain⟨a,b⟩:=p;obtain⟨c,d⟩:=q;simp only[]at a0 a1 b0 b1 c0 c1 d0 d1;have key:e=f/\a=c/\b=d:=by
  cases e<;>cases f<;>simp only[aP]at rp rq<;>simp only[yq]at h<;>first|(exfalso;lia)|(refine⟨rfl,?_,?_⟩<;>lia)
 obtain⟨rfl,rfl,rfl⟩:=key;rfl
def nr (H:bQ R)(b:Bool):cN R.length (cX R b):=by
 cases b with
 |false=>rw[HQ];exact tu H
 |true=>
  have e:cX R true=neg (dI R):=by
   funext p d;show(!(dI R p d==true))=! dI R p d;cases dI R p d<;>rfl
  rw[e];exact(tu H).neg
def bN(b:Bool):Nat:=if b then 1 else 0
def tx (H:bQ R)(b:Bool)(h1:bq R.length p=true)(h2:bq R.length (aP e p)=false):cX R b p e=decide (yq R.length p e%2=(bN b:Int)):=by
 show(!(dI R p e==b))=_;rw[C0 H h1 h2];have q:yq R.length p e%2=0\/yq R.length p e%2=1:=by lia
 cases b<;>rcases q with q|q<;>rw[q]<;>rfl
def nq (H:bQ R)(b:Bool)(hj:j<2*R.length):Good R.length (cX R b) (bu R.length (2*j+bN b)):=by
 have hb:bN b=0\/bN b=1:=by cases b<;>simp[bN]
 obtain⟨h1,h2,h3⟩:=qG (n:=R.length) (ρ:=2*j+bN b) (by lia) (by lia);refine⟨h1,?_⟩;rw[tx H b h1 h2,h3];exact Na (by lia)
abbrev Wk(R:List (List Int))(b:Bool)(j:Nat):Option (List Pl×Int):=wG R.length (cX R b) (R.length*R.length*4) (bu R.length (2*j+bN b)) [(bu R.length (2*j+bN b)).1]
set_option tactic.hygienic true in
def Gz (H:bQ R)(b:Bool)(hj:j<2*R.length):
  ∃i pl,i<2*R.length/\i≠j/\Wk R b j=some (pl,((2*i+bN b:Nat):Int))/\Wk R b i=some (pl.reverse,((2*j+bN b:Nat):Int)):=by
 have hb:bN b=0\/bN b=1:=by cases b<;>simp[bN]
 have F:=nr H b;have g:=nq H b hj;obtain⟨h1,h2,h3⟩:=qG (n:=R.length) (ρ:=2*j+bN b) (by lia) (by lia);obtain⟨pl,σ,hw⟩:=Hs F g h2 [(bu R.length (2*j+bN b)).1];obtain⟨qs,l,c1,c2,c3,c4,c5⟩:=uI _ _ _ _ _ hw;have gl:=qM F qs _ l g c1;have hout:bq R.length (aP (bE (cX R b l.1) l.2) l.1)=false:=by
  unfold b8 at c2;split at c2
  .cases c2
  .next z=>simpa using z
 have gr:=GB F gl;have hσ:σ=yq R.length l.1 (bE (cX R b l.1) l.2):=c4;have hpar:σ%2=(bN b:Int):=by
  have:=gr.2;rw[show cX R b (dL (cX R b) l).1 (dL (cX R b) l).2=cX R b l.1 (bE (cX R b l.1) l.2)from rfl,tx H b gl.1 hout,<-hσ]at this;exact Nb this
 obtain⟨r1,r2⟩:=Es (e:=bE (cX R b l.1) l.2) gl.1;rw[<-hσ]at r1 r2;obtain⟨i,hi⟩:∃i:Nat,σ=((2*i+bN b:Nat):Int):=⟨(σ/2).toNat,by rcases hb with z|z<;>rw[z]at hpar ⊢<;>lia⟩;have hi2:i<2*R.length:=by lia
 obtain⟨e1,e2,e3⟩:=qG (n:=R.length) (ρ:=2*i+bN b) (by lia) (by lia);have hent:bu R.length (2*i+bN b)=dL (cX R b) l:=by
  have q:=GA (p:=(bu R.length (2*i+bN b)).1) (q:=l.1) (e:=(bu R.length (2*i+bN b)).2) (f:=bE (cX R b l.1) l.2) e1 gl.1 e2 hout (by rw[e3,<-hi,hσ]);exact q
 obtain⟨qs',d1,d2,d3⟩:=tz F qs _ l g c1;obtain⟨hend,hro⟩:=Et F g h2;rw[h3]at hro;refine⟨i,pl,hi2,λz=>?_,by rw[<-hi];exact hw,?_⟩
 .subst z;exact sC F qs.length _ qs l (Qj _) g c1 hent.symm
 .show wG _ _ _ _ _=_;rw[hent,uH qs' _ _ _ _ d1 hend (by lia),hro,c3];show some ([l.1]++_,_)=_;rw[List.singleton_append,d2];rfl
def Gy (H:bQ R)(b:Bool):∃(L:Nat->Nat) (P:Nat->List Pl),∀j,j<2*R.length->L j<2*R.length/\L j≠j/\L (L j)=j/\P (L j)=(P j).reverse/\Wk R b j=some (P j,((2*L j+bN b:Nat):Int)):=by
 have key:∀j:Nat,∃i:Nat,∃pl:List Pl,j<2*R.length->i<2*R.length/\i≠j/\Wk R b j=some (pl,((2*i+bN b:Nat):Int))/\Wk R b i=some (pl.reverse,((2*j+bN b:Nat):Int)):=λj=>by
  by_cases hj:j<2*R.length
  .obtain ⟨i,pl,h⟩:=Gz H b hj;exact⟨i,pl,λ_=>h⟩
  .exact ⟨0,[],λz=>M8 z hj⟩
 obtain⟨L,hL⟩:=Classical.axiomOfChoice key;obtain⟨P,hP⟩:=Classical.axiomOfChoice hL;refine⟨L,P,λj hj=>?_⟩;obtain⟨h1,h2,h3,h4⟩:=hP j hj;obtain⟨_,_,g3,_⟩:=hP (L j) h1;rw[h4]at g3;simp only[Option.some.injEq,Prod.mk.injEq]at g3;refine⟨h1,h2,?_,g3.1.symm,h3⟩;have:=g3.2;lia
end Lib
namespace Lib
section
variable{lev:Nat->Lv}{cl:Nat->List Dat->Rd}{k:Nat}
def et(b:Bool):Int:=if b then 0 else 1
def vQ (h:i<p):(yw p q F).getD i []=xH q F i:=by simp[yw,Qm,h]
def qN (h:j<q):zQ (row (xH q F i)) (.int (j:Int))=.ok (.int (F i j)):=vq (by simp[xH,h])
def BE(x b:Bool):decide (eR x=et b)=!(x==b):=by cases x<;>cases b<;>rfl
def BW (H:bQ R)(b:Bool)(hr:r<R.length)(hc:c<R.length)(hb:∀e,cl kb [.int R.length,.int r,.int c,zw e]=.ok (zT R.length ((r:Int),(c:Int)) e))(hk:lev k=.full):
  zG lev cl k (iG kb) [arr R.length (wk (dR R)) (wk (eG R)),.int r,.int c,.int (et b)]=.ok (kz R.length (cX R b) ((r:Int),(c:Int))):=by
 obtain⟨w1,w2,w3,w4⟩:=BH H hr hc (F:=dR R) (G:=eG R) (λi j _ _=>rfl) (λi j _ _=>rfl);have e:=Gj (lev:=lev) (k:=k) (cl:=cl) (kb:=kb) (n:=R.length) (r:=r) (c:=c) (mk:=et b) (U:=λe=>eR (bS R r c e)) (W:=yw R.length (R.length+1) (wk (dR R))) (V:=yw (R.length+1) R.length (wk (eG R))) (j6 _ _ _)
  (by rw[vQ (by lia)];exact j7 (by lia)) (by rw[vQ hr];exact j7 hr) (by rw[vQ (by lia)];exact j7 (i:=r+1) (by lia))
  (by rw[vQ (by lia),qN hc,w1]) (by rw[vQ hr];exact(qN (j:=c+1) (by lia)).trans (by rw[w2])) (by rw[vQ (by lia),qN hc,w3]) (by rw[vQ hr,qN (by lia),w4]) hb hk
 rw[show arr R.length (wk (dR R)) (wk (eG R))=.tup [au (yw R.length (R.length+1) (wk (dR R))),au (yw (R.length+1) R.length (wk (eG R)))]from rfl,e];unfold kz;congr 3;refine List.filter_congr λd _=>?_;show decide (eR (bS R r c d)=et b)=!(dI R ((r:Int),(c:Int)) d==b);rw[BE];rfl
def Aw (h:lev kt=.full):cu lev (.call kt a) X lv=.full:=by
 unfold cu;split
 .rfl
 .show aV lev (.call kt a) X=.full;rw[qx,h];split<;>rfl
def l7(kp kt:Nat):Fn:=⟨4,6,(.seq (.asg 4 (.ife (.cmp .eq (.var 3) (.lit (.int 1))) (.bin .mul (.lit (.int 2)) (.var 2)) (.bin .add (.bin .mul (.lit (.int 2)) (.var 2)) (.lit (.int 1))))) (.seq (.asg 5 (.call kp (.pair (.var 1) (.pair (.var 4) .unit)))) (.ret (.call kt (.pair (.var 0) (.pair (.var 4) (.pair (.tup (.pair (.idx (.var 5) (.lit (.int 0))) (.pair (.idx (.var 5) (.lit (.int 1))) .unit))) .unit)))))))⟩
def Er {n:Nat}(b:Bool)(hp:cl kp [.int n,.int ((2*j+bN b:Nat):Int)]=.ok (.tup [.int (bu n (2*j+bN b)).1.1,.int (bu n (2*j+bN b)).1.2,zw (bu n (2*j+bN b)).2]))(ht:cl kt [D,.int ((2*j+bN b:Nat):Int),aE (bu n (2*j+bN b)).1]=.ok X)(hkt:lev kt=.full)(hk:lev k=.full):
  zG lev cl k (l7 kp kt) [D,.int n,.int j,.int (et b)]=.ok X:=by
 have m2:zJ .mul (.int 2) (.int (j:Int))=.ok (.int (2*(j:Int))):=yG _ _ (by decide);have hroad:∀d4 d5:Option Dat,ak cl (.ife (.cmp .eq (.var 3) (.lit (.int 1))) (.bin .mul (.lit (.int 2)) (.var 2)) (.bin .add (.bin .mul (.lit (.int 2)) (.var 2)) (.lit (.int 1)))) [some D,some (.int n),some (.int j),some (.int (et b)),d4,d5]=.ok (.int ((2*j+bN b:Nat):Int)):=λd4 d5=>by
  cases b with
  |false=>
   simp only[kS,zH,zu,ze,zd,za,aI,yL,m2];rfl
  |true=>
   simp only[kS,zH,zu,ze,zd,za,aI,yL,m2,zX];rfl
 unfold zG;rw[M6 (by rfl)];show zD (lev k) (aH lev cl (.seq (.asg 4 _) (.seq (.asg 5 _) (.ret _))) [some D,some (.int n),some (.int j),some (.int (et b)),none,none] _)=_;rw[vF (hroad _ _) (by simp) rfl];simp only[Qd,Qc];generalize ((2*j+bN b:Nat):Int)=ρ at *
 generalize bu n (2*j+bN b)=s at *
 rw[vF (d:=.tup [.int s.1.1,.int s.1.2,zw s.2]) (by simp only[zq,zg,zl,zd,za,aI,zi,hp]) (by simp[zw]) rfl];simp only[Qd,Qc,zI];have i0:zQ (.tup [.int s.1.1,.int s.1.2,zw s.2]) (.int 0)=.ok (.int s.1.1):=rfl;have i1:zQ (.tup [.int s.1.1,.int s.1.2,zw s.2]) (.int 1)=.ok (.int s.1.2):=rfl;simp only[zq,zg,zl,j8,yh,ze,zd,za,aI,zi,i0,i1];rw[show(Dat.tup [.int s.1.1,.int s.1.2])=aE s.1 from rfl,ht];simp only[aU];rw[Aw hkt];simp[zD,hk,wH]
end
end Lib
namespace Lib
section
variable{lev:Nat->Lv}{cl:Nat->List Dat->Rd}{k:Nat}
def gf:Fn:=⟨2,2,(.seq (.ite (.cmp .lt (.var 1) (.blt .len (.pair (.var 0) .unit))) (.ret (.idx (.var 0) (.var 1))) .skip) (.ret (.lit (.int 0))))⟩
def HP(ns:List Int)(i:Nat):∃c:Int,zG lev cl k gf [.scr ns,.int i]=.ok (.int c):=by
 by_cases h:i<ns.length
 .refine ⟨ns[i],?_⟩;have h1:zQ (.scr ns) (.int (i:Int))=.ok (.int ns[i]):=by simp[zQ,xc,m7 h,h]
  simp[zG,gf,xK,xg,zD,cu,h,h1]
 .refine ⟨0,?_⟩;simp[zG,gf,xK,xg,zD,cu,h]
def mG:Fn:=⟨2,3,(.seq (.asg 2 (.bin .mod (.bin .mul (.bin .add (.bin .add (.bin .mod (.var 0) (.bin .pow (.lit (.int 10)) (.lit (.int 40)))) (.bin .mul (.var 1) (.var 1))) (.lit (.int 17))) (.bin .add (.lit (.int 30103)) (.bin .mul (.lit (.int 2)) (.var 1)))) (.lit (.int 86028121)))) (.ret (.bin .fdiv (.bin .mod (.bin .mul (.var 2) (.var 2)) (.lit (.int 86028157))) (.lit (.int 7)))))⟩
def Fk(c j:Int)(h:0<=j)(h':j<=100000):∃v:Int,zG lev cl k mG [.int c,.int j]=.ok (.int v):=by
 have e1:zJ .pow (.int 10) (.int 40)=.ok (.int (10^40)):=m8 10 40 ⟨by decide,by decide,by decide⟩;have e2:zJ .mod (.int c) (.int (10^40))=.ok (.int (c%10^40)):=xj _ _ (by decide);generalize (10:Int)^40=P at *
 have e3:zJ .mul (.int j) (.int j)=.ok (.int (j*j)):=yG _ _ (jW (by lia) (by lia));have e4:∀x:Int,zJ .mul (.int x) (.int (30103+2*j))=.ok (.int (x*(30103+2*j))):=λx=>D2 _ _ (jW (by lia) (by lia));have e5:zJ .mul (.int 2) (.int j)=.ok (.int (2*j)):=yG _ _ (by decide);have e6:∀x:Int,zJ .mod (.int x) (.int 86028121)=.ok (.int (x%86028121)):=λx=>xj _ _ (by decide);have e7:∀x:Int,zJ .mod (.int x) (.int 86028157)=.ok (.int (x%86028157)):=λx=>xj _ _ (by decide);have e8:∀x:Int,zJ .fdiv (.int x) (.int 7)=.ok (.int (x/7)):=λx=>vp _ _ (by decide) (by decide);have e9:∀y:Int,zJ .mul (.int (y%86028121)) (.int (y%86028121))=.ok (.int (y%86028121*(y%86028121))):=λy=>yG _ _ (jW (by lia) (by lia));generalize hy:(c%P+j*j+17)*(30103+2*j)=y;refine⟨y%86028121*(y%86028121)%86028157/7,?_⟩;unfold zG;rw[M6 (by rfl)];show zD (lev k) (aH lev cl (.seq (.asg 2 _) (.ret _)) [some (.int c),some (.int j),none] _)=_;rw[ye];simp only[zE,zu,zd,za,ze,aI,e1,e2,e3,e5,zX,e4,hy,e6,aU];rw[zS (by simp)];simp only[zf,Qd,Qc,zI,zu,zd,za,ze,aI,e9,e7,e8,aU];simp[zD]
def pp:Ex:=(.bin .add (.idx (.var 5) (.var 7)) (.blt .int (.pair (.and (.cmp .ne (.var 6) (.lst .unit)) (.cmp .eq (.idx (.var 6) (.neg (.lit (.int 1)))) (.idx (.var 5) (.var 7)))) .unit)))
def iP:Ex:=(.bin .add (.bin .sub (.idx (.var 5) (.bin .add (.var 7) (.lit (.int 1)))) (.var 8)) (.lit (.int 1)))
def iQ(km:Nat):Sm:=(.seq (.asg 8 pp) (.seq (.asg 9 (.var 3)) (.seq (.ite (.or (.cmp .lt (.var 0) (.bin .pow (.lit (.int 10)) (.lit (.int 18)))) (.cmp .eq (.var 3) (.lit (.int 0)))) (.asg 9 (.call km (.pair (.var 0) (.pair (.var 4) .unit)))) .skip) (.seq (.expr (.meth .append (.var 6) (.pair (.bin .add (.var 8) (.bin .mod (.var 9) iP)) .unit))) (.seq (.asg 3 (.bin .fdiv (.var 3) iP)) (.asg 4 (.bin .add (.var 4) (.lit (.int 1)))))))))
def kA(l2 l5:Lv):List Lv:=[.full,.full,l2,.full,.full,l5,.full,.full,.full,.full,.full,.full]
def BV (hm:m+1<last.length)(hl:dF last)(ha:acc.length=m)(hb:∀i,i<m->acc.getD i 0<=last.getD (i+1) 0)(hg:∀i,i<m->last.getD i 0<=acc.getD i 0):
  ∃low:Int,last.getD m 0<=low/\low<=last.getD (m+1) 0/\(0<m->acc.getD (m-1) 0<low)/\ak cl pp [a,b,f,g,h,some (row last),some (row acc),some (.int m),o8,o9,o10,o11]=.ok (.int low):=by
 have g1:zQ (row last) (.int (m:Int))=.ok (.int (last.getD m 0)):=vq (kU (by lia));have hi:=hl m hm;have hnew:bp []=.ok (row []):=rfl;unfold pp;simp only[zu,yh,yM,zg,zl,yW,zH,x9,wI,ze,za,zd,aI,zi,hnew,g1];rw[CZ];by_cases z:acc=[]
 .subst z;refine⟨last.getD m 0,by lia,by lia,λh=>by simp at ha;lia,?_⟩;simp[y7,b2i]
 .have hm0:0<m:=by cases acc with
   |nil=>exact M8 rfl z
   |cons _ _=>simp at ha;lia
  have g3:zQ (row acc) (.int (-1))=.ok (.int (acc.getD (m-1) 0)):=by
   refine kT ?_;rw[Qn,ha,Qv,kU (by lia)];rfl
  have h1:=hb (m-1) (by lia);rw[show m-1+1=m by lia]at h1;simp only[z,decide_false,Bool.not_false,aI,g3,yL,g1];by_cases q:acc.getD (m-1) 0=last.getD m 0
  .refine ⟨last.getD m 0+1,by lia,by lia,λ_=>by lia,?_⟩;rw[Na q];simp[y7,b2i]
  .refine ⟨last.getD m 0,by lia,by lia,λ_=>by lia,?_⟩;rw[M5 q];simp[y7,b2i]
def Ep (hmx:∀c j:Int,0<=j->j<=100000->∃v:Int,cl km [.int c,.int j]=.ok (.int v))(ht:0<=turn/\turn<=100000)(hm:m+1<last.length)(hl:dF last)(ha:acc.length=m)(hb:∀i,i<m->acc.getD i 0<=last.getD (i+1) 0)(hg:∀i,i<m->last.getD i 0<=acc.getD i 0)(hlim:last.length<=100)(hbd:∀i,i<last.length->0<=last.getD i 0/\last.getD i 0<=1000):
  ∃(w rest':Int) (p8 p9:Option Dat),aH lev cl (iQ km) [some (.int cell),some n,some (.lst rows),some (.int rest),some (.int turn),some (row last),some (row acc),some (.int m),o8,o9,o10,o11] (kA l2 l5)=.next [some (.int cell),some n,some (.lst rows),some (.int rest'),some (.int (turn+1)),some (row last),some (row (acc++[w])),some (.int m),p8,p9,o10,o11] (kA l2 l5)
   /\ last.getD m 0<=w/\w<=last.getD (m+1) 0/\(0<m->acc.getD (m-1) 0<w):=by
 obtain⟨low,l1,l2',l3,hlow⟩:=BV (cl:=cl) (a:=some (.int cell)) (b:=some n) (f:=some (.lst rows)) (g:=some (.int rest)) (h:=some (.int turn)) (o8:=o8) (o9:=o9) (o10:=o10) (o11:=o11) hm hl ha hb hg;have g2:zQ (row last) (.int ((m:Int)+1))=.ok (.int (last.getD (m+1) 0)):=vq (c:=m+1) (kU hm);have h10:zJ .pow (.int 10) (.int 18)=.ok (.int (10^18)):=m8 10 18 ⟨by decide,by decide,by decide⟩;generalize (10:Int)^18=P at h10;have b1:=hbd m (by lia);have b2:=hbd (m+1) hm;have pos:0<last.getD (m+1) 0-low+1:=by lia
 have num:∃num:Int,aH lev cl (.ite (.or (.cmp .lt (.var 0) (.bin .pow (.lit (.int 10)) (.lit (.int 18)))) (.cmp .eq (.var 3) (.lit (.int 0)))) (.asg 9 (.call km (.pair (.var 0) (.pair (.var 4) .unit)))) .skip) [some (.int cell),some n,some (.lst rows),some (.int rest),some (.int turn),some (row last),some (row acc),some (.int m),some (.int low),some (.int rest),o10,o11] (kA l2 l5)=.next [some (.int cell),some n,some (.lst rows),some (.int rest),some (.int turn),some (row last),some (row acc),some (.int m),some (.int low),some (.int num),o10,o11] (kA l2 l5):=by
  obtain⟨v,hv⟩:=hmx cell turn ht.1 ht.2;have hc:∃b:Bool,ak cl (.or (.cmp .lt (.var 0) (.bin .pow (.lit (.int 10)) (.lit (.int 18)))) (.cmp .eq (.var 3) (.lit (.int 0)))) [some (.int cell),some n,some (.lst rows),some (.int rest),some (.int turn),some (row last),some (row acc),some (.int m),some (.int low),some (.int rest),o10,o11]=.ok (.bl b):=by
   simp only[i8,zH,zu,ze,za,zd,aI,h10,gR,yL];by_cases q:cell<P
   .exact ⟨true,by simp[q]⟩
   .exact ⟨decide (rest=0),by simp[q]⟩
  obtain⟨b,hc⟩:=hc;rw[yi,hc];simp only[aU];cases b with
  |true=>
   refine⟨v,?_⟩;simp only[zE,zq,zg,zl,za,zd,aI,zi,hv,aU];rw[zS (by simp)];rfl
  |false=>exact⟨rest,by simp only[zR]⟩
 obtain⟨num,hnum⟩:=num;have q1:=Vt num (b:=last.getD (m+1) 0-low+1) (by lia);have q2:=Int.emod_lt_of_pos num pos;have hw:∀(o3 o4 o6 o9:Option Dat),ak cl iP [some (.int cell),some n,some (.lst rows),o3,o4,some (row last),o6,some (.int m),some (.int low),o9,o10,o11]=.ok (.int (last.getD (m+1) 0-low+1)):=λo3 o4 o6 o9=>by
  unfold iP;simp only[zu,yh,ze,za,zd,aI,zX,g2,yE]
 have hmod:zJ .mod (.int num) (.int (last.getD (m+1) 0-low+1))=.ok (.int (num % (last.getD (m+1) 0-low+1))):=xj _ _ pos;have hdiv:zJ .fdiv (.int rest) (.int (last.getD (m+1) 0-low+1))=.ok (.int (rest / (last.getD (m+1) 0-low+1))):=vp _ _ pos (by lia);refine⟨low+num % (last.getD (m+1) 0-low+1),rest / (last.getD (m+1) 0-low+1),some (.int low),some (.int num),?_,by lia,by lia,λh=>by have:=l3 h;lia⟩;unfold iQ;rw[zC,zE,hlow];simp only[aU];rw[zS (by simp)];simp only[zf,kA,Qd,Qc];rw[zC,zE];simp only[za,zd,aU];rw[zS (by simp)];simp only[zf,Qd,Qc];rw[zC];have hnum':=hnum;unfold kA at hnum';rw[hnum',zf,zC,wK];simp only[zu,za,zd,hw,aI,hmod,zX,eg];rw[show x8 [some (.int cell),some n,some (.lst rows),some (.int rest),some (.int turn),some (row last),some (row acc),some (.int m),some (.int low),some (.int num),o10,o11] 6=some (acc.map Dat.int)from rfl];simp only[Qn];rw[M6 (by unfold av;lia)];have hgv:xC lev (.bin .add (.var 8) (.bin .mod (.var 9) iP)) (.int (low+num % (last.getD (m+1) 0-low+1))) 6 [some (.int cell),some n,some (.lst rows),some (.int rest),some (.int turn),some (row last),some (row acc),some (.int m),some (.int low),some (.int num),o10,o11] [.full,.full,l2,.full,.full,l5,.full,.full,.full,.full,.full,.full]=some ([some (.int cell),some n,some (.lst rows),some (.int rest),some (.int turn),some (row last),some (row acc),some (.int m),some (.int low),some (.int num),o10,o11],[.full,.full,l2,.full,.full,l5,.full,.full,.full,.full,.full,.full]):=by
  unfold xC;rw[M7 (by simp[yg]),M6 (yA lev _ _ (by simp))]
 rw[hgv];simp only[zf,Qd,Qc];rw[sZ,zE];simp only[zu,za,zd,hw,aI,hdiv,aU];rw[zS (by simp)];simp only[zf,Qd,Qc,zE,zu,za,zd,ze,aI,zX,aU];rw[zS (by simp)];simp[row]
end
end Lib
namespace Lib
section
variable{lev:Nat->Lv}{cl:Nat->List Dat->Rd}{k:Nat}
def BU (hmx:∀c j:Int,0<=j->j<=100000->∃v:Int,cl km [.int c,.int j]=.ok (.int v)){turn:Int}{kk:Nat}(ht:0<=turn/\turn+kk<=100000)(hlen:last.length=kk+1)(hl:dF last)(hlim:last.length<=100)(hbd:∀i,i<last.length->0<=last.getD i 0/\last.getD i 0<=1000):
  ∃(acc:List Int) (rest':Int) (p7 p8 p9:Option Dat),yY (λx de lv=>aH lev cl (iQ km) (de.set 7 (some x)) (lv.set 7 (aT x))) (yu 0 1 kk) [some (.int cell),some n,some (.lst rows),some (.int rest),some (.int turn),some (row last),some (row []),o7,o8,o9,o10,o11] (kA l2 l5) =
   .next [some (.int cell),some n,some (.lst rows),some (.int rest'),some (.int (turn+kk)),some (row last),some (row acc),p7,p8,p9,o10,o11] (kA l2 l5)/\dF acc/\ir last acc:=by
 have main:=yt (body:=λx de lv=>aH lev cl (iQ km) (de.set 7 (some x)) (lv.set 7 (aT x)))
  (λm de lv=>∃(acc:List Int) (rest':Int) (p7 p8 p9:Option Dat),de=[some (.int cell),some n,some (.lst rows),some (.int rest'),some (.int (turn+m)),some (row last),some (row acc),p7,p8,p9,o10,o11]/\lv=kA l2 l5/\acc.length=m/\dF acc/\(∀i,i<m->last.getD i 0<=acc.getD i 0/\acc.getD i 0<=last.getD (i+1) 0))
  (yu 0 1 kk) (de:=[some (.int cell),some n,some (.lst rows),some (.int rest),some (.int turn),some (row last),some (row []),o7,o8,o9,o10,o11]) (lv:=kA l2 l5)
  ⟨[],rest,o7,o8,o9,by simp,rfl,rfl,λi hi=>by simp at hi,λi hi=>by lia⟩ ?_
 .obtain ⟨de',lv',e,acc,rest',p7,p8,p9,rfl,rfl,h1,h2,h3⟩:=main;rw[F2]at h1 h3 e;exact⟨acc,rest',p7,p8,p9,e,h2,⟨by lia,λi hi=>h3 i (by lia)⟩⟩
 .rintro m x de lv hx' ⟨acc,rest',p7,p8,p9,rfl,rfl,h1,h2,h3⟩;have hmk:m<kk:=by
   have:=(Qa.mp hx').1;simpa using this
  rw[xD _ _ _ _ hmk]at hx';cases hx';have e1:(0:Int)+1*(m:Int)=(m:Int):=by lia
  obtain⟨w,rest2,q8,q9,e,b1,b2,b3⟩:=Ep (lev:=lev) (cl:=cl) (cell:=cell) (rest:=rest') (turn:=turn+m) (n:=n) (rows:=rows) (last:=last) (acc:=acc) (m:=m) (o8:=p8) (o9:=p9) (o10:=o10) (o11:=o11) (l2:=l2) (l5:=l5) hmx (by lia) (by lia) hl h1 (λi hi=>(h3 i hi).2) (λi hi=>(h3 i hi).1) hlim hbd;refine⟨_,_,?_,acc++[w],rest2,some (.int m),q8,q9,rfl,rfl,by simp[h1],h2.app (λh=>?_),λi hi=>?_⟩
  .simp only[e1,kA,Qd,Qc,show aT (.int (m:Int))=.full from by simp[aT]];rw[show turn+((m+1:Nat):Int)=turn+m+1 by lia];exact e
  .rw[h1]at h ⊢;exact b3 h
  .by_cases z:i<m
   .rw[wl (by lia)];exact h3 i z
   .have:i=acc.length:=by lia
    subst this;rw[k9,h1];exact⟨b1,b2⟩
def lN(km:Nat):Sm:=(.seq (.asg 5 (.idx (.var 2) (.neg (.lit (.int 1))))) (.seq (.asg 6 (.lst .unit)) (.seq (.forv 7 (.rng (.lit (.int 0)) (.bin .sub (.blt .len (.pair (.var 5) .unit)) (.lit (.int 1))) (.lit (.int 1))) (iQ km)) (.expr (.meth .append (.var 2) (.pair (.var 6) .unit))))))
def lM:Ex:=(.cmp .lt (.blt .len (.pair (.var 2) .unit)) (.var 1))
def DP(cell:Int)(n t:Nat)(de:aO)(lv:List Lv):Prop:=∃(L:List (List Int)) (rest turn:Int) (o5 o6 o7 o8 o9:Option Dat) (l2 l5 l6:Lv),de=[some (.int cell),some (.int n),some (au L),some (.int rest),some (.int turn),o5,o6,o7,o8,o9,none,none]/\lv=[.full,.full,l2,.full,.full,l5,l6,.full,.full,.full,.full,.full]/\(l2=.full\/l2=.top)/\L.length=t+1/\dA n L/\0<=turn/\turn<=100*t
def sY (h:DP cell n t de lv):ak cl lM de=.ok (.bl (decide (t+1<n))):=by
 obtain⟨L,rest,turn,o5,o6,o7,o8,o9,l2,l5,l6,rfl,rfl,hl2,h1,h2,h3⟩:=h;have hlen:y7 .len [au L]=.ok (.int L.length):=by simp[au]
 unfold lM;simp only[zH,yM,zg,zl,za,zd,aI,zi,hlen,gR];rw[show decide ((L.length:Int)<(n:Int))=decide (t+1<n)from decide_eq_decide.mpr (by lia)]
def BS (hmx:∀c j:Int,0<=j->j<=100000->∃v:Int,cl km [.int c,.int j]=.ok (.int v))(hn:n<=12)(ht:t+1<n)(h:DP cell n t de lv):∃de' lv',aH lev cl (lN km) de lv=.next de' lv'/\DP cell n (t+1) de' lv':=by
 obtain⟨L,rest,turn,o5,o6,o7,o8,o9,l2,l5,l6,rfl,rfl,hl2,h1,h2,h3,h4⟩:=h;have hd:zQ (au L) (.int (-1))=.ok (row (L.getD t [])):=by
  refine kT ?_;rw[Qn,h1,Qv,Qm,show t+1-1=t by lia,Qf (by lia)];rfl
 have hl:=h2.len t (by lia);have hlen:y7 .len [row (L.getD t [])]=.ok (.int ((L.getD t []).length:Nat)):=by simp[row]
 have hnew:bp []=.ok (row []):=rfl;have hrng:jR (.int 0) (.int (((L.getD t []).length:Nat)-1:Int)) (.int 1)=.ok (.tup (yu 0 1 (n-1-t))):=by
  rw[show(((L.getD t []).length:Nat)-1:Int)=((n-1-t:Nat):Int) by lia,mZ (by unfold av;lia)];simp[qZ]
 obtain⟨acc,rest',p7,p8,p9,e,hinc,hlace⟩:=BU (lev:=lev) (cl:=cl) (km:=km) hmx (cell:=cell) (rest:=rest) (turn:=turn) (n:=.int n) (rows:=L.map row) (last:=L.getD t []) (kk:=n-1-t) (o7:=o7) (o8:=o8) (o9:=o9) (o10:=none) (o11:=none) (l2:=.top) (l5:=.no) (by lia) (by lia) (h2.inc t (by lia)) (by lia) (λj hj=>by have:=h2.bd t (by lia) j hj;lia);refine⟨[some (.int cell),some (.int n),some (au (L++[acc])),some (.int rest'),some (.int (turn+(n-1-t:Nat))),some (row (L.getD t [])),some (row acc),p7,p8,p9,none,none],[.full,.full,.top,.full,.full,.no,.no,.full,.full,.full,.full,.full],?_,L++[acc],rest',_,_,_,_,_,_,.top,.no,.no,rfl,rfl,Or.inr rfl,by simp[h1],h2.app (by lia) hinc (by rw[show L.length-1=t by lia];exact hlace),by lia,by lia⟩;unfold lN;rw[zC];simp only[zE,yh,wI,za,zd,ze,aI,hd,aU];rw[show vB lev 5 (.idx (.var 2) (.neg (.lit (.int 1)))) (row (L.getD t [])) [some (.int cell),some (.int n),some (au L),some (.int rest),some (.int turn),o5,o6,o7,o8,o9,none,none] [.full,.full,l2,.full,.full,l5,l6,.full,.full,.full,.full,.full]=.next [some (.int cell),some (.int n),some (au L),some (.int rest),some (.int turn),some (row (L.getD t [])),o6,o7,o8,o9,none,none] [.full,.full,.top,.full,.full,.no,l6,.full,.full,.full,.full,.full]from by
  rcases hl2 with rfl|rfl<;>rfl]
 simp only[zf];rw[zC];simp only[zE,x9,zl,aI,zi,hnew,aU];rw[yC (by simp[row])];simp only[zf,Qd,Qc];rw[qD,we];simp only[vO,zu,yM,zg,zl,zi,ze,za,zd,aI,hlen,yE,hrng,aU,wq,ww,xW,if_true];rw[show[Lv.full,Lv.full,Lv.top,Lv.full,Lv.full,Lv.no,Lv.full,Lv.full,Lv.full,Lv.full,Lv.full,Lv.full]=kA .top .no from rfl,show(some (au L):Option Dat)=some (.lst (L.map row))from rfl,e,zf,wK];simp only[za,zd,eg,x8,Wz,Wy];rw[M6 (by rw[Qn,h1];unfold av;lia)];have hg:xC lev (.var 6) (row acc) 2 [some (.int cell),some (.int n),some (.lst (L.map row)),some (.int rest'),some (.int (turn+(n-1-t:Nat))),some (row (L.getD t [])),some (row acc),p7,p8,p9,none,none] (kA .top .no)=some ([some (.int cell),some (.int n),some (.lst (L.map row)),some (.int rest'),some (.int (turn+(n-1-t:Nat))),some (row (L.getD t [])),some (row acc),p7,p8,p9,none,none],[.full,.full,.top,.full,.full,.no,.no,.full,.full,.full,.full,.full]):=by
  simp[xC,yg,kA,row,aR]
 rw[hg];simp[au]
def ig:Ex:=(.comp (.bin .sub (.blt .int (.pair (.cmp .isin (.var 12) (.var 6)) .unit)) (.blt .int (.pair (.cmp .isin (.var 12) (.var 11)) .unit))) (.rng (.lit (.int 0)) (.var 1) (.lit (.int 1))) (.lit (.bl true)))
def lL:Sm:=(.seq (.expr (.meth .append (.var 10) (.pair ig .unit))) (.asg 11 (.var 6)))
def EZ (hX:X.length<=100)(hi:i<X.length)(hn:n=X.length):
  aH lev cl lL [a,some (.int n),d2,d3,d4,d5,some (row (X.getD i [])),d7,d8,d9,some (au ((sg X).take i)),some (row (zM X i))] [.full,.full,l2,.full,.full,l5,.no,.full,.full,.full,.full,l11]=.next [a,some (.int n),d2,d3,d4,d5,some (row (X.getD i [])),d7,d8,d9,some (au ((sg X).take (i+1))),some (row (zM X (i+1)))] [.full,.full,l2,.full,.full,l5,.no,.full,.full,.full,.full,.no]:=by
 subst hn;have hrng:jR (.int 0) (.int X.length) (.int 1)=.ok (.tup (yu 0 1 X.length)):=by
  rw[mZ (by unfold av;lia)];simp[qZ]
 have hcomp:ak cl ig [a,some (.int X.length),d2,d3,d4,d5,some (row (X.getD i [])),d7,d8,d9,some (au ((sg X).take i)),some (row (zM X i))]=.ok (row (xF X.length (X.getD i []) (zM X i))):=by
  unfold ig;rw[vn];simp only[vO,ze,za,zd,aI,hrng,wq];rw[Gx 0 1 X.length (λc=>.int (b2i (mem (X.getD i []) c)-b2i (mem (zM X i) c)))]
  .simp[row,xF]
  .intro j hj;simp
  .intro j hj;simp[Gw]
  .unfold av;lia
 have hlim:((sg X).take i).length<av:=by simp[sg];unfold av;lia
 have e2:(sg X).take (i+1)=(sg X).take i++[xF X.length (X.getD i []) (zM X i)]:=by
  rw[Wi];congr 1;simp[sg,hi]
 have hall:aV lev ig (row (xF X.length (X.getD i []) (zM X i)))=.full:=by
  unfold row ig
  first|rw[vh]|rw[xB]
  simp only[wz,Qy,if_false];rw[M6 (ku _ _ λi=>by simp)]
 unfold lL;rw[sZ,wK,hcomp];simp only[eg];rw[show x8 [a,some (.int X.length),d2,d3,d4,d5,some (row (X.getD i [])),d7,d8,d9,some (au ((sg X).take i)),some (row (zM X i))] 10=some (((sg X).take i).map row)from rfl];simp only[Qn];rw[M6 hlim];have hg:xC lev ig (row (xF X.length (X.getD i []) (zM X i))) 10 [a,some (.int X.length),d2,d3,d4,d5,some (row (X.getD i [])),d7,d8,d9,some (au ((sg X).take i)),some (row (zM X i))] [.full,.full,l2,.full,.full,l5,.no,.full,.full,.full,.full,l11]=some ([a,some (.int X.length),d2,d3,d4,d5,some (row (X.getD i [])),d7,d8,d9,some (au ((sg X).take i)),some (row (zM X i))],[.full,.full,l2,.full,.full,l5,.no,.full,.full,.full,.full,l11]):=by
  unfold xC;rw[M7 (by simp[yg]),M6 hall]
 rw[hg];simp only[zf,Qd,Qc,zE,za,zd,aU];rw[e2];rw[show zM X (i+1)=X.getD i []from by simp[zM]];rw[show(au (List.take i (sg X)++[xF X.length (X.getD i []) (zM X i)]))=.lst ((List.take i (sg X)).map row++[row (xF X.length (X.getD i []) (zM X i))])from by simp[au]];rfl
def nn(km:Nat):Fn:=⟨2,12,(.seq (.asg 2 (.lst (.pair (.lrng (.var 1)) .unit))) (.seq (.asg 3 (.var 0)) (.seq (.asg 4 (.lit (.int 0))) (.seq (.while lM (lN km)) (.seq (.expr (.meth .reverse (.var 2) .unit)) (.seq (.asg 10 (.lst .unit)) (.seq (.asg 11 (.lst .unit)) (.seq (.forv 6 (.var 2) lL) (.ret (.var 10))))))))))⟩
def HN (hmx:∀c j:Int,0<=j->j<=100000->∃v:Int,cl km [.int c,.int j]=.ok (.int v))(hn:1<=n)(hn':n<=12)(cell:Int)(hlev:lev k=.no\/lev k=.full):
  ∃X,ij n X/\zG lev cl k (nn km) [.int cell,.int n]=.ok (au (sg X)):=by
 have hl:ak cl (.lrng (.var 1)) [some (.int cell),some (.int n),none,none,none,none,none,none,none,none,none,none]=.ok (row (yN n)):=by
  simp only[D3,za,zd,aI];rw[M6 (by unfold av;lia),xr (by simp;unfold av;lia),<-IB];simp
 have hnew:bp [row (yN n)]=.ok (au [yN n]):=by rw[xr (by simp[av])];rfl
 have hnew0:bp []=.ok (row []):=rfl;obtain⟨de',lv',e,L,rest,turn,o5,o6,o7,o8,o9,l2,l5,l6,rfl,rfl,hl2,h1,h2,h3⟩:=IN (c:=ak cl lM) (body:=aH lev cl (lN km)) (DP cell n) (n-1)
  (λt de lv ht p=>⟨by rw[sY p];simp;lia,BS hmx (by lia) (by lia) p⟩)
  (λde lv p=>by rw[sY p];simp;lia) (n-1) 0 1000000 [some (.int cell),some (.int n),some (au [yN n]),some (.int cell),some (.int 0),none,none,none,none,none,none,none] [.full,.full,.full,.full,.full,.full,.full,.full,.full,.full,.full,.full]
  (by lia) (by lia) ⟨[yN n],cell,0,none,none,none,none,none,.full,.full,.full,rfl,rfl,Or.inl rfl,rfl,dA.one n,by lia,by lia⟩
 have hX:ij n L.reverse:=ij.of hn h2 (by lia);have hXl:=hX.len;refine⟨L.reverse,hX,?_⟩;generalize hXe:L.reverse=X at *
 have main:=yt (body:=λx de lv=>aH lev cl lL (de.set 6 (some x)) (lv.set 6 (aT x)))
  (λi de lv=>∃(p6:Option Dat) (m6 m11 m2:Lv),de=[some (.int cell),some (.int n),some (au X),some (.int rest),some (.int turn),o5,p6,o7,o8,o9,some (au ((sg X).take i)),some (row (zM X i))]/\lv=[.full,.full,m2,.full,.full,l5,m6,.full,.full,.full,.full,m11])
  (X.map row) (de:=[some (.int cell),some (.int n),some (au X),some (.int rest),some (.int turn),o5,o6,o7,o8,o9,some (au []),some (row [])]) (lv:=[.full,.full,.no,.full,.full,l5,l6,.full,.full,.full,.full,.full])
  ⟨o6,l6,.full,.no,rfl,rfl⟩ ?_
 .obtain ⟨de',lv',e3,p6,m6,m11,m2,rfl,rfl⟩:=main;unfold zG;rw[M6 (by rfl)];show zD (lev k) (aH lev cl (.seq _ (.seq _ (.seq _ (.seq _ (.seq _ (.seq _ (.seq _ (.seq _ _)))))))) [some (.int cell),some (.int n),none,none,none,none,none,none,none,none,none,none] [aT (.int cell),aT (.int n),.full,.full,.full,.full,.full,.full,.full,.full,.full,.full])=_;simp only[show ∀i:Int,aT (.int i)=.full from λi=>by simp[aT]];rw[zC];simp only[zE,x9,zg,zl,hl,aI,zi,hnew,aU];rw[yC (by simp[au,row])];simp only[zf,Qd,Qc];rw[zC];simp only[zE,za,zd,aU];rw[zS (by simp)];simp only[zf,Qd,Qc];rw[zC];simp only[zE,ze,aU];rw[zS (by simp)];simp only[zf,Qd,Qc];rw[zC,j4,e,zf,zC,uf];rw[show x8 [some (.int cell),some (.int n),some (au L),some (.int rest),some (.int turn),o5,o6,o7,o8,o9,none,none] 2=some (L.map row)from rfl];simp only[];rw[M6 (by rcases hl2 with rfl|rfl<;>rfl),<-List.map_reverse,hXe];simp only[zf,Qd,Qc];rw[zC];simp only[zE,x9,zl,aI,zi,hnew0,aU];rw[yC (by simp[row])];simp only[zf,Qd,Qc];rw[zC];simp only[zE,x9,zl,aI,zi,hnew0,aU];rw[yC (by simp[row])];simp only[zf,Qd,Qc];rw[ye,we];have hit:cS (au X)=some (X.map row):=wJ (by simp;unfold av;lia);have hfl:aw (au X)=false:=by simp[au]
  rw[show(Dat.lst (X.map row))=au X from rfl];simp only[za,zd,aU,hit,hfl];have hrel:(if false=true then[Lv.full,Lv.full,l2,Lv.full,Lv.full,l5,l6,Lv.full,Lv.full,Lv.full,Lv.full,Lv.full]else yB (.var 2) [some (.int cell),some (.int n),some (au X),some (.int rest),some (.int turn),o5,o6,o7,o8,o9,some (row []),some (row [])] [Lv.full,Lv.full,l2,Lv.full,Lv.full,l5,l6,Lv.full,Lv.full,Lv.full,Lv.full,Lv.full])=[.full,.full,.no,.full,.full,l5,l6,.full,.full,.full,.full,.full]:=rfl;rw[hrel];have e3':=e3;rw[show(some (au []):Option Dat)=some (row [])from rfl]at e3';rw[e3',zf];have hg:wH .full (lev k)=true:=by rcases hlev with h|h<;>rw[h]<;>rfl
  rw[Qn,WB (by simp[sg])];simp[zD,cu,hg,au]
 .rintro i x de lv hx ⟨p6,m6,m11,m2,rfl,rfl⟩;have hi:i<X.length:=by
   have:=(Qa.mp hx).1;simpa using this
  have hxi:x=row (X.getD i []):=by
   rw[Qv,Qf hi]at hx;cases hx;rw[Qm,Qf hi];rfl
  subst hxi;refine⟨_,_,?_,some (row (X.getD i [])),.no,.no,m2,rfl,rfl⟩;simp only[Qd,Qc,show aT (row (X.getD i []))=.no from by simp[aT,row]];exact EZ (by lia) hi (by lia)
end
end Lib
namespace Lib
end Lib
namespace Lib
end Lib
namespace Lib
end Lib
namespace Lib
end Lib
namespace Lib
section
variable{lev:Nat->Lv}{cl:Nat->List Dat->Rd}{k:Nat}
def ab(i:Int):Int:=if i<0 then -i else i
def BR (v:Bool)(k:Lv):zD l (.ret (.bl v) k)=.ok (.bl v):=by simp[zD]
def mF:Fn:=⟨1,1,(.ret (.comp (.blt .list (.pair (.var 1) .unit)) (.var 0) (.lit (.bl true))))⟩
def Fj(x:List Int)(h:x.length<=av):y7 .list [row x]=.ok (row x):=by
 show(match xc (row x)with
  |some xs=>bp xs
  |none=>.no)=_
 exact xr (by simpa using h)
def EY (h1:R.length<=av)(h2:∀x∈R,x.length<=av)(hj:de[j]?=some (some (au R)))(hm:de.length=m):ak cl (.comp (.blt .list (.pair (.var m) .unit)) (.var j) (.lit (.bl true))) de=.ok (au R):=by
 subst hm;rw[vn];simp only[xz hj,aI];rw[show cS (au R)=some (R.map row)from wJ (by simpa using h1)];simp only[];rw[yK row row R [] (λv _=>by simp) (λx hx=>?_) (by simpa using h1)]
 .simp[au]
 .have e:ak cl (.var de.length) (de++[some (row x)])=.ok (row x):=xz (by rw[Qi (Qj _)];simp);simp only[yM,zg,zl,e,aI,zi,Fj x (h2 x hx)]
def Fi (h1:R.length<=av)(h2:∀x∈R,x.length<=av)(hk:lev k=.no):zG lev cl k mF [au R]=.ok (au R):=by
 unfold zG;rw[M6 (by rfl)];show zD (lev k) (aH lev cl (.ret _) [some (au R)] _)=_;rw[zI,EY (j:=0) (m:=1) h1 h2 (de:=[some (au R)]) rfl rfl,hk];simp[zD,wH]
def lZ(kx:Nat):Fn:=⟨2,3,(.ret (.cmp .eq (.call kx (.pair (.var 0) (.pair (.var 1) .unit))) (.lit (.int 0))))⟩
def EX (h:cl kx [a,b]=.ok (.int 0)):zG lev cl k (lZ kx) [a,b]=.ok (.bl true):=by
 unfold zG;rw[M6 (by rfl)];show zD (lev k) (aH lev cl (.ret _) [some a,some b,none] _)=_;rw[zI];simp only[zH,zq,zg,zl,za,zd,ze,aI,zi,h,yL,aU];exact BR _ _
end
end Lib
namespace Lib
section
variable{lev:Nat->Lv}{cl:Nat->List Dat->Rd}{k:Nat}
def lF(kw:Nat):Ex:=(.not (.and (.call kw (.pair (.var 0) .unit)) (.chain .le .lt (.lit (.int 0)) (.var 0) (.var 1))))
def mE(kw:Nat):Fn:=⟨2,2,(.ite (lF kw) .never .skip)⟩
def sB(kw:Nat):Fn:=⟨2,2,(.ite (lF kw) (.ret (.lit (.int 0))) .never)⟩
def sX (hw:∀d,cl kw [d]=.ok (.bl (isInt d)))(i m:Int):ak cl (lF kw) [some (.int i),some (.int m)]=.ok (.bl (!(decide (0<=i/\i<m)))):=by
 unfold lF;simp only[xi,yW,zq,zg,zl,jV,ze,zd,za,aI,zi,hw,show isInt (.int i)=true from rfl,mH,gR];by_cases h:0<=i
 .by_cases h':i<m<;>simp[h,h']
 .simp[h]
def Fh (hw:∀d,cl kw [d]=.ok (.bl (isInt d)))(h:0<=i/\i<m):zG lev cl k (mE kw) [.int i,.int m]=.ok .non:=by
 unfold zG;rw[M6 (by rfl)];show zD (lev k) (aH lev cl (.ite _ .never .skip) [some (.int i),some (.int m)] _)=_;rw[yi,sX hw,Na h];rfl
def HM (hw:∀d,cl kw [d]=.ok (.bl (isInt d)))(h:¬(0<=i/\i<m)):zG lev cl k (sB kw) [.int i,.int m]=.ok (.int 0):=by
 unfold zG;rw[M6 (by rfl)];show zD (lev k) (aH lev cl (.ite _ (.ret _) .never) [some (.int i),some (.int m)] _)=_;rw[yi,sX hw,M5 h];simp only[Bool.not_false,aU,zI,ze];simp[zD]
def rV(kx:Nat):Fn:=⟨3,3,(.ret (.call kx (.pair (.var 1) (.pair (.bin .mul (.lit (.int 2)) (.blt .len (.pair (.var 0) .unit))) .unit))))⟩
def Fg (h:cl kx [.int i,.int ((2*R.length:Nat):Int)]=.ok (.int 0)):zG lev cl k (rV kx) [au R,.int i,.int m]=.ok (.int 0):=by
 have hlen:y7 .len [au R]=.ok (.int R.length):=by simp[y7,xc,au]
 have m2:zJ .mul (.int 2) (.int R.length)=.ok (.int ((2*R.length:Nat):Int)):=by rw[yG _ _ (by decide)];simp
 unfold zG;rw[M6 (by rfl)];show zD (lev k) (aH lev cl (.ret _) [some (au R),some (.int i),some (.int m)] _)=_;rw[zI];simp only[zq,zg,zl,zu,yM,ze,zd,za,aI,zi,hlen,m2,h,aU];simp[zD]
def lc(kx:Nat)(m:Int):Fn:=⟨2,2,(.ret (.call kx (.pair (.var 0) (.pair (.var 1) (.pair (.lit (.int m)) .unit)))))⟩
def Av (h:cl kx [a,b,.int m]=.ok X)(hl:aw X=true\/lev kx=.full)(hk:aw X=true\/lev k=.full):zG lev cl k (lc kx m) [a,b]=.ok X:=by
 unfold zG;rw[M6 (by rfl)];show zD (lev k) (aH lev cl (.ret _) [some a,some b] _)=_;rw[zI];simp only[zq,zg,zl,ze,zd,za,aI,zi,h,aU];rcases hl with hl|hl
 .simp[zD,hl]
 .rw[Aw hl];rcases hk with hk|hk
  .simp[zD,hk]
  .simp[zD,hk,wH]
def BQ(a lo hi:Ex)(de:aO):ak cl (.slB a lo hi) de=(ak cl a de).bind λx=>(ak cl lo de).bind λy=>match y with
  |.int i=>(ak cl hi de).bind λz=>match z with
   |.int j=>fW x (some i) (some j)
   |_=>.no
  |_=>.no:=rfl
def BP(x y:Dat)(ds:List Dat)(h:ds.length<=1000):fW (.lst (x::ds++[y])) (some 1) (some (-1))=.ok (.lst ds):=by
 show bp (((x::ds++[y]).drop (cj (x::ds++[y]).length 0 (some 1))).take (cj (x::ds++[y]).length (x::ds++[y]).length (some (-1))-cj (x::ds++[y]).length 0 (some 1)))=_;have e1:cj (x::ds++[y]).length 0 (some 1)=1:=by unfold cj;simp
 have e2:cj (x::ds++[y]).length (x::ds++[y]).length (some (-1))=ds.length+1:=by unfold cj;simp;lia
 rw[e1,e2];simp only[Q7,List.drop_succ_cons,List.drop_zero,Nat.add_sub_cancel];rw[List.take_left,xr (by unfold av;lia)]
def EW(pl:List Pl):aY (pl.map aE)=true:=by
 induction pl with
 |nil=>rfl
 |cons a l ih=>rw[QR,jX,ih];simp[aE]
def i3(kn kr ka:Nat):Fn:=⟨3,3,(.seq (.expr (.call kn (.pair (.var 1) (.pair (.bin .mul (.lit (.int 2)) (.blt .len (.pair (.var 0) .unit))) .unit)))) (.ret (.slB (.call kr (.pair (.call ka (.pair (.var 0) (.pair (.var 2) .unit))) (.pair (.blt .len (.pair (.var 0) .unit)) (.pair (.var 1) (.pair (.var 2) .unit))))) (.lit (.int 1)) (.neg (.lit (.int 1))))))⟩
def EV {j:Nat}{pl:List Pl}(hp:pl.length<=1000)(hn:cl kn [.int j,.int ((2*R.length:Nat):Int)]=.ok .non)(ha:cl ka [au R,.int m]=.ok D)(hr:cl kr [D,.int R.length,.int j,.int m]=.ok (.lst (x::pl.map aE++[y])))(hk:lev k=.full):zG lev cl k (i3 kn kr ka) [au R,.int j,.int m]=.ok (.lst (pl.map aE)):=by
 have hlen:y7 .len [au R]=.ok (.int R.length):=by simp[y7,xc,au]
 have m2:zJ .mul (.int 2) (.int R.length)=.ok (.int ((2*R.length:Nat):Int)):=by rw[yG _ _ (by decide)];simp
 unfold zG;rw[M6 (by rfl)];show zD (lev k) (aH lev cl (.seq (.expr _) (.ret _)) [some (au R),some (.int j),some (.int m)] _)=_;generalize xg (i3 kn kr ka) [au R,.int j,.int m]=lv0;rw[ye];have e1:aH lev cl (.expr (.call kn (.pair (.var 1) (.pair (.bin .mul (.lit (.int 2)) (.blt .len (.pair (.var 0) .unit))) .unit)))) [some (au R),some (.int j),some (.int m)] lv0=.next [some (au R),some (.int j),some (.int m)] lv0:=by
  show(ak cl (.call kn _) _).bindS _=_;simp only[zq,zg,zl,zu,yM,ze,zd,za,aI,zi,hlen,m2,hn,aU]
 rw[e1,zf,zI,BQ];simp only[zq,zg,zl,yM,wI,ze,zd,za,aI,zi,hlen,ha,hr];rw[BP x y _ (by simpa using hp)];simp only[aU];have hl:∀(a b c:Ex) lv,cu lev (.slB a b c) (.lst (pl.map aE)) lv=.full:=λa b c lv=>by
  unfold cu;split
  .rfl
  .show aV lev (.slB a b c) (.lst (pl.map aE))=.full;show(if aw (.lst (pl.map aE))then Lv.full else if aY (pl.map aE)then .full else .top)=.full;rw[EW];simp
 rw[hl];simp[zD,hk,wH]
def sA(pl:List Pl):yz .ne (.lst (pl.map aE)) (.lst (pl.map aE))=.ok (.bl false):=by
 have h:y6 12 (.lst (pl.map aE))=true:=by
  rw[show(12:Nat)=11+1 from rfl,kj,xU,Wc];intro d hd;obtain⟨p,_,rfl⟩:=Wg.mp hd;rfl
 show qm ((if y6 12 (.lst (pl.map aE))&&y6 12 (.lst (pl.map aE))then some (dr (.lst (pl.map aE)) (.lst (pl.map aE)))else none).map (!·))=_;rw[h,jT 12 _ h];rfl
def oY:Sm:=(.ite (.or (.not (.isi .int (.var 3))) (.isi .bool (.var 3))) (.ret (.lit (.bl false))) .skip)
def iO:Sm:=(.seq (.ite (.not (.isi .tuple (.var 2))) (.ret (.lit (.bl false))) .skip) (.forv 3 (.var 2) oY))
def qO:Fn:=⟨2,4,(.seq (.ite (.or (.not (.isi .list (.var 0))) (.cmp .ne (.var 0) (.var 1))) (.ret (.lit (.bl false))) .skip) (.seq (.forv 2 (.var 0) iO) (.ret (.lit (.bl true)))))⟩
def EU(X Y:Option Dat)(p:Pl)(o3:Option Dat)(lv:List Lv):∃q3 lv',aH lev cl iO [X,Y,some (aE p),o3] lv=.next [X,Y,some (aE p),q3] lv':=by
 unfold iO;rw[zy lev cl _ _ rfl,yi];simp only[xi,m9,zd,za,aI,show eO .tuple (aE p)=true from rfl,Q2,aU,zR,zf];rw[we];simp only[zd,za,aU];obtain⟨de',lv',e,q3,rfl⟩:=yt (body:=λx de lv=>aH lev cl oY (de.set 3 (some x)) (lv.set 3 (aT x))) (λ_ de _=>∃q3,de=[X,Y,some (aE p),q3]) [Dat.int p.1,Dat.int p.2] (de:=[X,Y,some (aE p),o3]) (lv:=if aw (aE p)then lv else yB (.var 2) [X,Y,some (aE p),o3] lv) ⟨o3,rfl⟩ (by
  rintro j x de lv hx ⟨q3,rfl⟩;have hx':∃i,x=Dat.int i:=by
   have:=Qo hx;simp at this;rcases this with rfl|rfl<;>exact⟨_,rfl⟩
  obtain⟨i,rfl⟩:=hx';refine⟨[X,Y,some (aE p),some (.int i)],lv.set 3 (aT (.int i)),?_,some (.int i),rfl⟩;simp only[Qd,Qc];unfold oY;rw[yi];simp only[i8,xi,m9,zd,za,aI,show eO .int (.int i)=true from rfl,show eO .bool (.int i)=false from rfl,Q2,aU,zR])
 exact⟨q3,lv',e⟩
def HL{pl:List Pl}(hp:pl.length<=1000):zG lev cl k qO [.lst (pl.map aE),.lst (pl.map aE)]=.ok (.bl true):=by
 have hne:=sA pl;have hit:cS (.lst (pl.map aE))=some (pl.map aE):=wJ (by rw[Qn];unfold av;lia);unfold zG;rw[M6 (by rfl)];show zD (lev k) (aH lev cl (.seq _ (.seq (.forv 2 _ iO) (.ret _))) [some (.lst (pl.map aE)),some (.lst (pl.map aE)),none,none] _)=_;generalize xg qO [.lst (pl.map aE),.lst (pl.map aE)]=lv0;rw[zC,yi];simp only[i8,xi,m9,zH,zd,za,aI,show eO .list (.lst (pl.map aE))=true from rfl,Q2,hne,aU,zR,zf];rw[ye,we];simp only[zd,aU,hit];obtain⟨de',lv',e,q2,q3,rfl⟩:=yt (body:=λx de lv=>aH lev cl iO (de.set 2 (some x)) (lv.set 2 (aT x))) (λ_ de _=>∃q2 q3,de=[some (.lst (pl.map aE)),some (.lst (pl.map aE)),q2,q3]) (pl.map aE) (de:=[some (.lst (pl.map aE)),some (.lst (pl.map aE)),none,none]) (lv:=if aw (.lst (pl.map aE))then lv0 else yB (.var 0) [some (.lst (pl.map aE)),some (.lst (pl.map aE)),none,none] lv0) ⟨none,none,rfl⟩ (by
  rintro j x de lv hx ⟨q2,q3,rfl⟩;obtain⟨p,_,rfl⟩:=Wg.mp (Qo hx);obtain⟨r3,lv',e⟩:=EU (lev:=lev) (cl:=cl) (some (.lst (pl.map aE))) (some (.lst (pl.map aE))) p q3 (lv.set 2 (aT (aE p)));exact⟨_,_,e,some (aE p),r3,rfl⟩)
 rw[e,zf];simp only[zI,gQ,aU];simp[zD]
end
end Lib
namespace Lib
end Lib
namespace Lib
section
def tr(G:Nat->Nat->Int):Nat->Nat->Int:=λi j=>G j i
end
end Lib
namespace Lib
section
theorem bA:∀(vs:List Nat) (lv:List Lv),(aR vs lv).length=lv.length
 |[],lv=>rfl
 |i::vs,lv=>by
  show(aR vs (lv.set i .no)).length=_;rw[bA vs,Q5]
def Au:(yB e de lv).length=lv.length:=by
 unfold yB;split
 .unfold cr;split<;>rw[Q5,bA]
 .exact bA _ _
 .exact bA _ _
end
end Lib
namespace Lib
end Lib
end Vl
end Mini
namespace Mini
open PySem
def aC.p{C:Ctx}{sc:Lo}{N:List Str}{a b:Ex}{x:Expr}{xs:List Expr}(ha:aC C sc N a (.e x))(hb:aC C sc N b (.a xs))(hs:zF x=true:=by rfl)(ra:zo a=false:=by rfl): aC C sc N (.pair a b) (.a (x :: xs)):=.pair hs ra ha hb
theorem aC.c{C:Ctx}{sc:Lo}{N:List Str}{k:Nat}{a:Ex}{f:Str}{y:Expr}{ys:List Expr}{p p':Pos}(ha:aC C sc N a (.a (y :: ys)))(h1:C.fns[k]? = some f:=by rfl)(h2:cA sc f=true:=by kernel_rfl)(h3:zP f=true:=by kernel_rfl)(hs:(y :: ys).all zF=true:=by rfl): aC C sc N (.call k a) (.e (.Call (.Name f p) (y :: ys) [] p')):=.call h1 h2 h3 hs ha
theorem aC.q{C:Ctx}{sc:Lo}{N:List Str}{b:eD}{a:Ex}{nm:Str}{f:Value}{y:Expr}{ys:List Expr}{p p':Pos}(ha:aC C sc N a (.a (y :: ys)))(h1:i6 b=some (nm,f):=by rfl)(h2:cA sc nm=true:=by kernel_rfl)(h3:zP nm=true:=by kernel_rfl)(hs:(y :: ys).all zF=true:=by rfl): aC C sc N (.blt b a) (.e (.Call (.Name nm p) (y :: ys) [] p')):=.blt h1 h2 h3 hs ha
theorem aC.x{C:Ctx}{sc:Lo}{N:List Str}{a b:Ex}{x y:Expr}{p:Pos}(ha:aC C sc N a (.e x))(rb:zo b=false)(hb:aC C sc N b (.e y))(hs:yP y=true:=by rfl)(ra:zo a=false:=by rfl): aC C sc N (.idx a b) (.e (.Subscript x y p)):=.idx hs ra ha rb hb
def aC.k{C:Ctx}{sc:Lo}{N:List Str}{op:Co}{a b:Ex}{x y:Expr}{p:Pos}(ha:aC C sc N a (.e x))(rb:zo b=false)(hb:aC C sc N b (.e y))(hs:yH y=true:=by rfl)(ra:zo a=false:=by rfl): aC C sc N (.cmp op a b) (.e (.Compare x [cK op] [y] p)):=.cmp hs ra ha rb hb
theorem bH.s{C:Ctx}{sc:Lo}{N:List Str}{i:Nat}{e:Ex}{x:Str}{v:Expr}{p p':Pos}(he:aC C sc N e (.e v))(hc:jJ v=false:=by rfl)(h1:N[i]? = some x:=by rfl)(h2:vA sc x=true:=by kernel_rfl)(hr:zo e=false:=by rfl): bH C sc N (.asg i e) (.s (.Assign [.Name x p] v p')):=.asg hc h1 h2 hr he
end Mini
namespace R41
open PySem L2 Mini
def f0:Fn:=Mini.Vl.Lib.qz
abbrev d0:bc:=⟨"is_whole",top 11,["thing"],["thing"],f0,"is_whole"⟩
def f1:Fn:=Mini.Vl.Lib.mv
abbrev d1:bc:=⟨"is_place",top 13,["n","r","c"],["n","r","c"],f1,"is_place"⟩
def f2:Fn:=Mini.Vl.Lib.mr 1
abbrev d2:bc:=⟨"road_over",top 14,["n","r","c","side"],["n","r","c","side"],f2,"road_over"⟩
def f3:Fn:=Mini.Vl.Lib.mE 0
abbrev d3:bc:=⟨"need_road",top 15,["road","roads"],["road","roads"],f3,"need_road"⟩
def f4:Fn:=Mini.Vl.Lib.mK
abbrev d4:bc:=⟨"place_at",top 16,["n","road","stretch","t"],["n","road"],f4,"place_at"⟩
def f5:Fn:=Mini.Vl.Lib.mM
abbrev d5:bc:=⟨"column_sums",top 18,["state","sums","told","row"],["state"],f5,"column_sums"⟩
def f6:Fn:=Mini.Vl.Lib.mm
abbrev d6:bc:=⟨"across_row",top 20,["row","total","told","sign"],["row"],f6,"across_row"⟩
def f7:Fn:=Mini.Vl.Lib.ml
abbrev d7:bc:=⟨"down_row",top 21,["sums"],["sums"],f7,"down_row"⟩
def f8:Fn:=Mini.Vl.Lib.l9 5 6 7
abbrev d8:bc:=⟨"arrows_of",top 22,["state","across","down"],["state"],f8,"arrows_of"⟩
def f9:Fn:=Mini.Vl.Lib.iY
abbrev d9:bc:=⟨"is_odd",top 24,["number"],["number"],f9,"is_odd"⟩
def Bq:Fn:=Mini.Vl.Lib.mO 9
abbrev fE:bc:=⟨"walked_row",top 25,["i","row"],["i","row"],Bq,"walked_row"⟩
def Bm:Fn:=Mini.Vl.Lib.nw 10
abbrev pW:bc:=⟨"walked_grid",top 26,["grid"],["grid"],Bm,"walked_grid"⟩
def Bl:Fn:=Mini.Vl.Lib.l8 8 11
abbrev pV:bc:=⟨"sides_of",top 27,["state","pair"],["state"],Bl,"sides_of"⟩
def Bk:Fn:=Mini.Vl.Lib.mq 2
abbrev pU:bc:=⟨"beyond",top 31,["n","r","c","side","road","step"],["n","r","c","side"],Bk,"beyond"⟩
def Bj:Fn:=Mini.Vl.Lib.iG 13
abbrev pS:bc:=⟨"ends_at",top 32,["pair","r","c","mark","across","down","marks"],["pair","r","c","mark"],Bj,"ends_at"⟩
def Bh:Fn:=Mini.Vl.Lib.nz 12 14
abbrev pQ:bc:=⟨"all_ends",top 33,["state","mark","pair","ends","r","c"],["state","mark"],Bh,"all_ends"⟩
def Bg:Fn:=Mini.Vl.Lib.nu
abbrev pP:bc:=⟨"trail",top 34,["ends","behind","start","told","both"],["ends","behind","start"],Bg,"trail"⟩
def Bf:Fn:=Mini.Vl.Lib.l7 4 16
abbrev pO:bc:=⟨"road_trail",top 35,["ends","n","k","mark","road","place"],["ends","n","k","mark"],Bf,"road_trail"⟩
def Be:Fn:=Mini.Vl.Lib.i3 3 17 15
abbrev pN:bc:=⟨"way_over",top 36,["state","k","mark"],["state","k","mark"],Be,"way_over"⟩
def Bd:Fn:=Mini.Vl.Lib.lc 18 1
abbrev pM:bc:=⟨"way",top 37,["state","k"],["state","k"],Bd,"way"⟩
def Bc:Fn:=Mini.Vl.Lib.gf
abbrev pL:bc:=⟨"_law_cell_at",top 39,["_law_script","_law_k"],["_law_script","_law_k"],Bc,"_law_cell_at"⟩
def Bb:Fn:=Mini.Vl.Lib.mG
abbrev pK:bc:=⟨"_law_mixed",top 40,["_law_cell","_law_k","_law_one"],["_law_cell","_law_k"],Bb,"_law_mixed"⟩
def Ba:Fn:=Mini.Vl.Lib.kl
abbrev pJ:bc:=⟨"_law_size",top 41,["_law_cell"],["_law_cell"],Ba,"_law_size"⟩
def A9:Fn:=Mini.Vl.Lib.nn 21
abbrev pH:bc:=⟨"_law_drawn",top 42,["_law_cell","_law_n","_law_rows","_law_rest","_law_turn","_law_below","_law_row","_law_m","_law_low","_law_digit","_law_signs","_law_ahead"],["_law_cell","_law_n"],A9,"_law_drawn"⟩
def A8:Fn:=Mini.Vl.Lib.nA
abbrev pG:bc:=⟨"_law_sides",top 43,["_law_signs","_law_beside","_law_sides_here","_law_columns","_law_r","_law_total","_law_c","_law_odd","_law_left","_law_right","_law_above","_law_below","_law_some"],["_law_signs","_law_beside"],A8,"_law_sides"⟩
def A7:Fn:=Mini.Vl.Lib.nB
abbrev pF:bc:=⟨"_law_start",top 44,["_law_n","_law_road","_law_t"],["_law_n","_law_road"],A7,"_law_start"⟩
def A6:Fn:=Mini.Vl.Lib.mf
abbrev pE:bc:=⟨"_law_beyond",top 45,["_law_n","_law_place","_law_side","_law_r","_law_c","_law_step"],["_law_n","_law_place","_law_side"],A6,"_law_beyond"⟩
def A5:Fn:=Mini.Vl.Lib.mn 25 26
abbrev pD:bc:=⟨"_law_walk",top 46,["_law_sides_here","_law_n","_law_road","_law_place","_law_side","_law_places","_law_end"],["_law_sides_here","_law_n","_law_road"],A5,"_law_walk"⟩
def A4:Fn:=Mini.Vl.Lib.mF
abbrev pC:bc:=⟨"_law_copy",top 47,["_law_rows"],["_law_rows"],A4,"_law_copy"⟩
def AZ:Fn:=Mini.Vl.Lib.lZ 34
abbrev pz:bc:=⟨"_law_refused",top 48,["_law_signs","_law_k","e"],["_law_signs","_law_k"],AZ,"_law_refused"⟩
def AY:Fn:=Mini.Vl.Lib.qO
abbrev pv:bc:=⟨"_law_is_way",top 49,["_law_found","_law_due","_law_place","_law_number"],["_law_found","_law_due"],AY,"_law_is_way"⟩
def hZ:Fn:=⟨1,11,(.seq (.asg 1 (.call 22 (.pair (.call 20 (.pair (.var 0) (.pair (.lit (.int 0)) .unit))) .unit))) (.seq (.asg 2 (.call 23 (.pair (.call 20 (.pair (.var 0) (.pair (.lit (.int 1)) .unit))) (.pair (.var 1) .unit)))) (.seq (.asg 3 (.call 24 (.pair (.var 2) (.pair (.lit (.bl false)) .unit)))) (.seq (.asg 4 (.call 28 (.pair (.var 2) .unit))) (.seq (.forv 5 (.rng (.lit (.int 0)) (.blt .min2 (.pair (.bin .mul (.lit (.int 2)) (.var 1)) (.pair (.lit (.int 10)) .unit))) (.lit (.int 1))) (.seq (.asg 6 (.bin .mod (.bin .add (.call 20 (.pair (.var 0) (.pair (.lit (.int 2)) .unit))) (.var 5)) (.bin .mul (.lit (.int 2)) (.var 1)))) (.seq (.fort 7 8 (.tup (.pair (.call 27 (.pair (.var 3) (.pair (.var 1) (.pair (.bin .mul (.lit (.int 2)) (.var 6)) .unit)))) .unit)) .skip) (.seq (.asg 9 (.call 19 (.pair (.var 4) (.pair (.var 6) .unit)))) (.seq (.ite (.or (.not (.call 30 (.pair (.var 9) (.pair (.var 7) .unit)))) (.or (.cmp .eq (.bin .mod (.var 8) (.lit (.int 2))) (.lit (.int 1))) (.cmp .ne (.var 4) (.var 2)))) (.ret (.lit (.bl false))) .skip) (.seq (.expr (.meth .reverse (.var 9) .unit)) (.seq (.ite (.cmp .ne (.call 19 (.pair (.var 4) (.pair (.bin .fdiv (.var 8) (.lit (.int 2))) .unit))) (.var 9)) (.ret (.lit (.bl false))) .skip) (.seq (.expr (.meth .clear (.var 9) .unit)) (.ite (.not (.call 30 (.pair (.call 19 (.pair (.var 4) (.pair (.var 6) .unit))) (.pair (.var 7) .unit)))) (.ret (.lit (.bl false))) .skip))))))))) (.seq (.asg 10 (.bin .mod (.call 20 (.pair (.var 0) (.pair (.lit (.int 3)) .unit))) (.bin .pow (.lit (.int 10)) (.lit (.int 29))))) (.ret (.and (.call 29 (.pair (.var 4) (.pair (.neg (.lit (.int 1))) .unit))) (.and (.call 29 (.pair (.var 4) (.pair (.bin .mul (.lit (.int 2)) (.var 1)) .unit))) (.and (.call 29 (.pair (.var 4) (.pair (.bin .sub (.neg (.lit (.int 1))) (.var 10)) .unit))) (.call 29 (.pair (.var 4) (.pair (.bin .add (.bin .mul (.lit (.int 2)) (.var 1)) (.var 10)) .unit)))))))))))))⟩
abbrev lO:bc:=⟨"law",top 50,["_law_script","_law_n","_law_signs","_law_sides_here","_law_handed","_law_turn","_law_k","_law_due","_law_end","_law_found","_law_far"],["_law_script"],hZ,"law"⟩
def D:List bc:=[d0,d1,d2,d3,d4,d5,d6,d7,d8,d9,fE,pW,pV,pU,pS,pQ,pP,pO,pN,pM,pL,pK,pJ,pH,pG,pF,pE,pD,pC,pz,pv,lO]
def C:Mini.Ctx:=⟨["is_whole","is_place","road_over","need_road","place_at","column_sums","across_row","down_row","arrows_of","is_odd","walked_row","walked_grid","sides_of","beyond","ends_at","all_ends","trail","road_trail","way_over","way","_law_cell_at","_law_mixed","_law_size","_law_drawn","_law_sides","_law_start","_law_beyond","_law_walk","_law_copy","_law_refused","_law_is_way","law"],[("WALKED",1)],[("STEPS",[([85],-1,0),([82],0,1),([68],1,0),([76],0,-1)])]⟩
def x0:Fn:=⟨2,2,(.ite (.not (.and (.call 0 (.pair (.var 0) .unit)) (.chain .le .lt (.lit (.int 0)) (.var 0) (.var 1)))) (.ret (.lit (.int 0))) .never)⟩
abbrev fT:bc:=⟨"need_road",top 15,["road","roads"],["road","roads"],x0,"need_road"⟩
def x1:Fn:=⟨3,3,(.ret (.call 32 (.pair (.var 1) (.pair (.bin .mul (.lit (.int 2)) (.blt .len (.pair (.var 0) .unit))) .unit))))⟩
abbrev lu:bc:=⟨"way_over",top 36,["state","k","mark"],["state","k","mark"],x1,"way_over"⟩
def x2:Fn:=⟨2,2,(.ret (.call 33 (.pair (.var 0) (.pair (.var 1) (.pair (.lit (.int 1)) .unit)))))⟩
abbrev ls:bc:=⟨"way",top 37,["state","k"],["state","k"],x2,"way"⟩
def XD:List bc:=[fT,lu,ls]
def XN:List (Nat×Str):=[(32,"need_road"),(33,"way_over"),(34,"way")]
def Q:Xc:=⟨"GyreError",["NoRoad"],["NoName","NoText","NoSize","NoState","NoSquare","NoTurn","Unlike"]⟩
def oq:fi C Q XN fT:=⟨by decide +kernel,rfl,rfl,eV.ite (j:=0) rfl rfl (.not rfl rfl (.and2 rfl rfl (.c (.p .v .unit)) rfl rfl (.chain rfl rfl .int rfl .v rfl .v))) rfl (by kernel_rfl) (by kernel_rfl)⟩
def oo:fi C Q XN lu:=⟨by decide +kernel,rfl,rfl,eV.call rfl (by kernel_rfl) (by kernel_rfl) rfl (.p .v (.p (.bin rfl .int rfl (.q (.p .v .unit))) .unit))⟩
def om:fi C Q XN ls:=⟨by decide +kernel,rfl,rfl,eV.ret rfl (by kernel_rfl) (by kernel_rfl) rfl (.p .v (.p .v (.p (.con (by kernel_rfl) (by kernel_rfl) (by kernel_rfl)) .unit)))⟩
def Jx:br C d0:=⟨by decide +kernel,rfl,rfl,(.one (.ret rfl (.and2 rfl rfl (.isi (by kernel_rfl) (by kernel_rfl) rfl rfl .v) rfl rfl (.not rfl rfl (.isi (by kernel_rfl) (by kernel_rfl) rfl rfl .v)))))⟩
def iN:br C d1:=⟨by decide +kernel,rfl,rfl,(.one (.ret rfl (.and2 rfl rfl (.chain rfl rfl .int rfl .v rfl .v) rfl rfl (.chain rfl rfl .int rfl .v rfl .v))))⟩
def Jw:br C d2:=⟨by decide +kernel,rfl,rfl,(.seq (.ite rfl rfl (.not rfl rfl (.c (.p .v (.p .v (.p .v .unit))))) (.one (.ret rfl .non)) .skip0) (.seq (.ite rfl rfl (.and2 rfl rfl (.k .v rfl (.str (by kernel_rfl))) rfl rfl (.k .v rfl .int)) (.one (.ret rfl .v)) .skip0) (.seq (.ite rfl rfl (.and2 rfl rfl (.k .v rfl (.str (by kernel_rfl))) rfl rfl (.k .v rfl (.bin rfl .v rfl .int))) (.one (.ret rfl (.bin rfl .v rfl .v))) .skip0) (.seq (.ite rfl rfl (.and2 rfl rfl (.k .v rfl (.str (by kernel_rfl))) rfl rfl (.k .v rfl (.bin rfl .v rfl .int))) (.one (.ret rfl (.bin rfl (.bin rfl .int rfl .v) rfl (.bin rfl (.bin rfl .v rfl .int) rfl .v)))) .skip0) (.seq (.ite rfl rfl (.and2 rfl rfl (.k .v rfl (.str (by kernel_rfl))) rfl rfl (.k .v rfl .int)) (.one (.ret rfl (.bin rfl (.bin rfl .int rfl .v) rfl (.bin rfl (.bin rfl .v rfl .int) rfl .v)))) .skip0) (.one (.ret rfl .non)))))))⟩
def Jv:br C d3:=⟨by decide +kernel,rfl,rfl,(.one (.ite rfl rfl (.not rfl rfl (.and2 rfl rfl (.c (.p .v .unit)) rfl rfl (.chain rfl rfl .int rfl .v rfl .v))) (.one .never) .skip0))⟩
def Ju:br C d4:=⟨by decide +kernel,rfl,rfl,(.seq (.s (.bin rfl .v rfl .v)) (.seq (.s (.bin rfl .v rfl .v)) (.seq (.ite rfl rfl (.k .v rfl .int) (.one (.ret rfl (.tup (.p .int (.p .v (.p (.str (by kernel_rfl)) .unit)))))) .skip0) (.seq (.ite rfl rfl (.k .v rfl .int) (.one (.ret rfl (.tup (.p .v (.p (.bin rfl .v rfl .int) (.p (.str (by kernel_rfl)) .unit)))))) .skip0) (.seq (.ite rfl rfl (.k .v rfl .int) (.one (.ret rfl (.tup (.p (.bin rfl .v rfl .int) (.p (.bin rfl (.bin rfl .v rfl .int) rfl .v) (.p (.str (by kernel_rfl)) .unit)))))) .skip0) (.one (.ret rfl (.tup (.p (.bin rfl (.bin rfl .v rfl .int) rfl .v) (.p .int (.p (.str (by kernel_rfl)) .unit)))))))))))⟩
def Jt:br C d5:=⟨by decide +kernel,rfl,rfl,(.seq (.s (.bin rfl (.lst (.p .int .unit)) rfl (.q (.p .v .unit)))) (.seq (.s (.lst (.p .v .unit))) (.seq (.forv rfl (by kernel_rfl) rfl .v (.seq (.asgCZ0 rfl (by kernel_rfl) (by kernel_rfl) (by kernel_rfl) rfl rfl rfl .v rfl .v rfl (.bin rfl .v rfl .v)) (.one (.expr rfl rfl (.meth rfl rfl (by decide) rfl rfl .v (.p .v .unit)))))) (.one (.ret rfl .v)))))⟩
def Js:br C d6:=⟨by decide +kernel,rfl,rfl,(.seq (.s .int) (.seq (.s (.lst (.p .int .unit))) (.seq (.forv rfl (by kernel_rfl) rfl .v (.seq (.aug rfl (by kernel_rfl) rfl rfl .v) (.one (.expr rfl rfl (.meth rfl rfl (by decide) rfl rfl .v (.p (.bin rfl .int rfl (.bin rfl .int rfl .v)) .unit)))))) (.one (.ret rfl .v)))))⟩
def Jr:br C d7:=⟨by decide +kernel,rfl,rfl,(.one (.ret rfl (.comp0 rfl (by kernel_rfl) .v rfl (.bin rfl (.bin rfl .int rfl .v) rfl .int))))⟩
def Jq:br C d8:=⟨by decide +kernel,rfl,rfl,(.seq (.asgC0 rfl (by kernel_rfl) rfl (by kernel_rfl) .v rfl (.c (.p .v .unit))) (.seq (.asgC0 rfl (by kernel_rfl) rfl (by kernel_rfl) (.c (.p .v .unit)) rfl (.c (.p .v .unit))) (.one (.ret rfl (.tup (.p .v (.p .v .unit)))))))⟩
def Jp:br C d9:=⟨by decide +kernel,rfl,rfl,(.one (.ret rfl (.k (.bin rfl .v rfl .int) rfl .int)))⟩
def oS:br C fE:=⟨by decide +kernel,rfl,rfl,(.one (.ret rfl (.compE0 (by kernel_rfl) (by kernel_rfl) rfl rfl .v rfl (.ife rfl rfl (.k (.k .v rfl .int) rfl (.c (.p (.bin rfl .v rfl .v) .unit))) rfl .int rfl .int))))⟩
def oR:br C pW:=⟨by decide +kernel,rfl,rfl,(.one (.ret rfl (.compE0 (by kernel_rfl) (by kernel_rfl) rfl rfl .v rfl (.c (.p .v (.p .v .unit))))))⟩
def oQ:br C pV:=⟨by decide +kernel,rfl,rfl,(.seq (.s (.c (.p .v .unit))) (.one (.ret rfl (.tup (.p (.c (.p (.x .v rfl .int) .unit)) (.p (.c (.p (.x .v rfl .int) .unit)) .unit))))))⟩
def oP:br C pU:=⟨by decide +kernel,rfl,rfl,(.seq (.s (.c (.p .v (.p .v (.p .v (.p .v .unit)))))) (.seq (.ite rfl rfl (.k .v rfl .non) (.one (.ret rfl .v)) .skip0) (.seq (.s (.dcon (by decide) (by kernel_rfl) (by kernel_rfl) (by kernel_rfl) rfl (by kernel_rfl) (by kernel_rfl))) (.one (.ret rfl (.tup (.p (.bin rfl .v rfl (.x .v rfl .int)) (.p (.bin rfl .v rfl (.x .v rfl .int)) .unit))))))))⟩
def oO:br C pS:=⟨by decide +kernel,rfl,rfl,(.seq (.s (.x .v rfl .int)) (.seq (.s (.x .v rfl .int)) (.sel (j:=6) (by kernel_rfl) (by kernel_rfl) (by kernel_rfl) (by kernel_rfl) (by decide) rfl (by kernel_rfl) (by kernel_rfl) (by kernel_rfl) rfl (by kernel_rfl) rfl (by kernel_rfl) (by kernel_rfl) (by kernel_rfl) rfl (.x (.x .v rfl .v) rfl .v) rfl (.x (.x .v rfl .v) rfl (.bin rfl .v rfl .int)) rfl (.x (.x .v rfl (.bin rfl .v rfl .int)) rfl .v) rfl (.x (.x .v rfl .v) rfl .v) rfl .v rfl (.c (.p (.q (.p .v .unit)) (.p .v (.p .v (.p .v .unit))))) rfl rfl rfl)))⟩
def oN:br C pQ:=⟨by decide +kernel,rfl,rfl,(.seq (.s (.c (.p .v .unit))) (.seq (.s .dict0) (.seq (.forv rfl (by kernel_rfl) rfl (.rng1 (by kernel_rfl) rfl rfl (.q (.p .v .unit))) (.one (.forv rfl (by kernel_rfl) rfl (.rng1 (by kernel_rfl) rfl rfl (.q (.p .v .unit))) (.one (.dput rfl .v rfl (.tup (.p .v (.p .v .unit))) rfl (.c (.p .v (.p .v (.p .v (.p .v .unit)))))))))) (.one (.ret rfl .v)))))⟩
def oM:br C pP:=⟨by decide +kernel,rfl,rfl,(.seq (.s (.lst (.p .v (.p .v .unit)))) (.seq (bH.«while» rfl rfl (.and2 rfl rfl (.k (.x .v rfl (.neg rfl .int)) rfl .v) rfl rfl (.k (.x .v rfl (.neg rfl .int)) rfl .v)) (.seq (.s (.dget rfl rfl .v rfl (.x .v rfl (.neg rfl .int)))) (.one (.expr rfl rfl (.meth rfl rfl (by decide) rfl rfl .v (.p (.ife rfl rfl (.k (.x .v rfl .int) rfl (.x .v rfl (.neg rfl .int))) rfl (.x .v rfl .int) rfl (.x .v rfl .int)) .unit)))))) (.one (.ret rfl .v))))⟩
def oK:br C pO:=⟨by decide +kernel,rfl,rfl,(.seq (.s (.ife rfl rfl (.k .v rfl (.con (by kernel_rfl) (by kernel_rfl) (by kernel_rfl))) rfl (.bin rfl .int rfl .v) rfl (.bin rfl (.bin rfl .int rfl .v) rfl .int))) (.seq (.s (.c (.p .v (.p .v .unit)))) (.one (.ret rfl (.c (.p .v (.p .v (.p (.tup (.p (.x .v rfl .int) (.p (.x .v rfl .int) .unit))) .unit))))))))⟩
def oJ:br C pN:=⟨by decide +kernel,rfl,rfl,(.seq (.expr rfl rfl (.c (.p .v (.p (.bin rfl .int rfl (.q (.p .v .unit))) .unit)))) (.one (.ret rfl (.slB rfl (.c (.p (.c (.p .v (.p .v .unit))) (.p (.q (.p .v .unit)) (.p .v (.p .v .unit))))) rfl .int rfl (.neg rfl .int)))))⟩
def oI:br C pM:=⟨by decide +kernel,rfl,rfl,(.one (.ret rfl (.c (.p .v (.p .v (.p (.con (by kernel_rfl) (by kernel_rfl) (by kernel_rfl)) .unit))))))⟩
def oH:br C pL:=⟨by decide +kernel,rfl,rfl,(.seq (.ite rfl rfl (.k .v rfl (.q (.p .v .unit))) (.one (.ret rfl (.x .v rfl .v))) .skip0) (.one (.ret rfl .int)))⟩
def oG:br C pK:=⟨by decide +kernel,rfl,rfl,(.seq (.s (.bin rfl (.bin rfl (.bin rfl (.bin rfl (.bin rfl .v rfl (.bin rfl .int rfl .int)) rfl (.bin rfl .v rfl .v)) rfl .int) rfl (.bin rfl .int rfl (.bin rfl .int rfl .v))) rfl .int)) (.one (.ret rfl (.bin rfl (.bin rfl (.bin rfl .v rfl .v) rfl .int) rfl .int))))⟩
def oF:br C pJ:=⟨by decide +kernel,rfl,rfl,(.seq (.ite rfl rfl (.k (.bin rfl .v rfl .int) rfl .int) (.one (.ret rfl (.bin rfl .int rfl (.bin rfl (.bin rfl .v rfl .int) rfl .int)))) .skip0) (.one (.ret rfl (.bin rfl .int rfl (.bin rfl (.bin rfl .v rfl .int) rfl .int)))))⟩
def oE:br C pH:=⟨by decide +kernel,rfl,rfl,(.seq (.s (.lst (.p (.lrng (by kernel_rfl) (by kernel_rfl) rfl rfl .v) .unit))) (.seq (.s .v) (.seq (.s .int) (.seq (bH.«while» rfl rfl (.k (.q (.p .v .unit)) rfl .v) (.seq (.s (.x .v rfl (.neg rfl .int))) (.seq (.s (.lst .unit)) (.seq (.forv rfl (by kernel_rfl) rfl (.rng1 (by kernel_rfl) rfl rfl (.bin rfl (.q (.p .v .unit)) rfl .int)) (.seq (.s (.bin rfl (.x .v rfl .v) rfl (.q (.p (.and2 rfl rfl (.k .v rfl (.lst .unit)) rfl rfl (.k (.x .v rfl (.neg rfl .int)) rfl (.x .v rfl .v))) .unit)))) (.seq (.s .v) (.seq (.ite rfl rfl (.or2 rfl rfl (.k .v rfl (.bin rfl .int rfl .int)) rfl rfl (.k .v rfl .int)) (.one (.s (.c (.p .v (.p .v .unit))))) .skip0) (.seq (.expr rfl rfl (.meth rfl rfl (by decide) rfl rfl .v (.p (.bin rfl .v rfl (.bin rfl .v rfl (.bin rfl (.bin rfl (.x .v rfl (.bin rfl .v rfl .int)) rfl .v) rfl .int))) .unit))) (.seq (.s (.bin rfl .v rfl (.bin rfl (.bin rfl (.x .v rfl (.bin rfl .v rfl .int)) rfl .v) rfl .int))) (.one (.s (.bin rfl .v rfl .int))))))))) (.one (.expr rfl rfl (.meth rfl rfl (by decide) rfl rfl .v (.p .v .unit)))))))) (.seq (.expr rfl rfl (.meth0 rfl rfl rfl .v)) (.seq (.s (.lst .unit)) (.seq (.s (.lst .unit)) (.seq (.forv rfl (by kernel_rfl) rfl .v (.seq (.expr rfl rfl (.meth rfl rfl (by decide) rfl rfl .v (.p (.comp0 rfl (by kernel_rfl) (.rng1 (by kernel_rfl) rfl rfl .v) rfl (.bin rfl (.q (.p (.k .v rfl .v) .unit)) rfl (.q (.p (.k .v rfl .v) .unit)))) .unit))) (.one (.s .v)))) (.one (.ret rfl .v))))))))))⟩
def oD:br C pG:=⟨by decide +kernel,rfl,rfl,(.seq (.s .dict0) (.seq (.asgC0 rfl (by kernel_rfl) rfl (by kernel_rfl) .v rfl .int) (.seq (.forv rfl (by kernel_rfl) rfl (.rng1 (by kernel_rfl) rfl rfl (.q (.p .v .unit))) (.seq (.s .int) (.one (.forv rfl (by kernel_rfl) rfl (.rng1 (by kernel_rfl) rfl rfl (.q (.p .v .unit))) (.seq (.s (.bin rfl (.bin rfl .v rfl .v) rfl .int)) (.seq (.s (.k (.q (.p (.k .v rfl .int) .unit)) rfl .v)) (.seq (.s (.bin rfl .v rfl (.x (.x .v rfl .v) rfl .v))) (.seq (.s (.k (.q (.p (.k .v rfl .int) .unit)) rfl .v)) (.seq (.s (.k (.x .v rfl .v) rfl .v)) (.seq (.asgS rfl rfl .v rfl .v rfl (.bin rfl (.x .v rfl .v) rfl (.x (.x .v rfl .v) rfl .v))) (.seq (.s (.k (.x .v rfl .v) rfl .v)) (.seq (.s (.lst (.p (.tup (.p (.str (by kernel_rfl)) (.p .v .unit))) (.p (.tup (.p (.str (by kernel_rfl)) (.p .v .unit))) (.p (.tup (.p (.str (by kernel_rfl)) (.p .v .unit))) (.p (.tup (.p (.str (by kernel_rfl)) (.p .v .unit))) .unit)))))) (.one (.dput rfl .v rfl (.tup (.p .v (.p .v .unit))) rfl (.compT1 rfl (by kernel_rfl) .v rfl rfl (.k .v rfl .v) rfl .v))))))))))))))) (.one (.ret rfl .v)))))⟩
def oC:br C pF:=⟨by decide +kernel,rfl,rfl,(.seq (.s (.bin rfl .v rfl .v)) (.one (.ret rfl (.x (.lst (.p (.tup (.p (.tup (.p .int (.p .v .unit))) (.p (.str (by kernel_rfl)) .unit))) (.p (.tup (.p (.tup (.p .v (.p (.bin rfl .v rfl .int) .unit))) (.p (.str (by kernel_rfl)) .unit))) (.p (.tup (.p (.tup (.p (.bin rfl .v rfl .int) (.p (.bin rfl (.bin rfl .v rfl .int) rfl .v) .unit))) (.p (.str (by kernel_rfl)) .unit))) (.p (.tup (.p (.tup (.p (.bin rfl (.bin rfl .v rfl .int) rfl .v) (.p .int .unit))) (.p (.str (by kernel_rfl)) .unit))) .unit))))) rfl (.bin rfl .v rfl .v)))))⟩
def oB:br C pE:=⟨by decide +kernel,rfl,rfl,(.seq (.unp rfl (by kernel_rfl) rfl (by kernel_rfl) rfl rfl .v) (.seq (.s (.dsel (by kernel_rfl) (by kernel_rfl) (by kernel_rfl) (by kernel_rfl) (by decide) rfl (by kernel_rfl) (by kernel_rfl) rfl (.tup (.p (.bin rfl .v rfl .int) (.p .v .unit))) rfl (.tup (.p .v (.p (.bin rfl .v rfl .int) .unit))) rfl (.tup (.p (.bin rfl .v rfl .int) (.p .v .unit))) rfl (.tup (.p .v (.p (.bin rfl .v rfl .int) .unit))))) (.seq (.ite rfl rfl (.and2 rfl rfl (.chain rfl rfl .int rfl (.x .v rfl .int) rfl .v) rfl rfl (.chain rfl rfl .int rfl (.x .v rfl .int) rfl .v)) (.one (.ret rfl (.tup (.p .v (.p (.dsel (by kernel_rfl) (by kernel_rfl) (by kernel_rfl) (by kernel_rfl) (by decide) rfl (by kernel_rfl) (by kernel_rfl) rfl (.str (by kernel_rfl)) rfl (.str (by kernel_rfl)) rfl (.str (by kernel_rfl)) rfl (.str (by kernel_rfl))) (.p .non .unit)))))) .skip0) (.one (.ret rfl (.tup (.p .v (.p .v (.p (.dsel (by kernel_rfl) (by kernel_rfl) (by kernel_rfl) (by kernel_rfl) (by decide) rfl (by kernel_rfl) (by kernel_rfl) rfl .v rfl (.bin rfl .v rfl .v) rfl (.bin rfl (.bin rfl (.bin rfl .int rfl .v) rfl .int) rfl .v) rfl (.bin rfl (.bin rfl (.bin rfl .int rfl .v) rfl .int) rfl .v)) .unit)))))))))⟩
def oA:br C pD:=⟨by decide +kernel,rfl,rfl,(.seq (.unp rfl (by kernel_rfl) rfl (by kernel_rfl) rfl rfl (.c (.p .v (.p .v .unit)))) (.seq (.s (.lst (.p .v .unit))) (.seq (.s .non) (.seq (bH.«while» rfl rfl (.k .v rfl .non) (.seq (.s (.x (.comp1 rfl (by kernel_rfl) (.dget rfl rfl .v rfl .v) rfl rfl (.k .v rfl .v) rfl .v) rfl .int)) (.seq (.unp3 rfl (by kernel_rfl) rfl (by kernel_rfl) rfl (by kernel_rfl) rfl rfl (.c (.p .v (.p .v (.p .v .unit))))) (.one (.ite rfl rfl (.k .v rfl .non) (.one (.expr rfl rfl (.meth rfl rfl (by decide) rfl rfl .v (.p .v .unit)))) .skip0))))) (.one (.ret rfl (.tup (.p .v (.p .v .unit)))))))))⟩
def oz:br C pC:=⟨by decide +kernel,rfl,rfl,(.one (.ret rfl (.comp0 rfl (by kernel_rfl) .v rfl (.q (.p .v .unit)))))⟩
def ow:cb C Q XN pz:=⟨by decide +kernel,rfl,rfl,IsT.mk (y:=0) (i:=2) (cs:=[1,2,3,4,5,6,7]) rfl (by kernel_rfl) (by kernel_rfl) rfl (.p .v (.p .v .unit)) (by kernel_rfl) (by kernel_rfl) rfl (by kernel_rfl) (by kernel_rfl) (by kernel_rfl) rfl (by decide) rfl (by kernel_rfl) (by kernel_rfl) (by kernel_rfl) (by kernel_rfl)⟩
def ou:br C pv:=⟨by decide +kernel,rfl,rfl,(.seq (.ite rfl rfl (.or2 rfl rfl (.not rfl rfl (.isi (by kernel_rfl) (by kernel_rfl) rfl rfl .v)) rfl rfl (.k .v rfl .v)) (.one (.ret rfl .bl)) .skip0) (.seq (.forv rfl (by kernel_rfl) rfl .v (.seq (.ite rfl rfl (.not rfl rfl (.isi (by kernel_rfl) (by kernel_rfl) rfl rfl .v)) (.one (.ret rfl .bl)) .skip0) (.one (.forv rfl (by kernel_rfl) rfl .v (.one (.ite rfl rfl (.or2 rfl rfl (.not rfl rfl (.isi (by kernel_rfl) (by kernel_rfl) rfl rfl .v)) rfl rfl (.isi (by kernel_rfl) (by kernel_rfl) rfl rfl .v)) (.one (.ret rfl .bl)) .skip0)))))) (.one (.ret rfl .bl))))⟩
def ot:br C lO:=⟨by decide +kernel,rfl,rfl,(.seq (.s (.c (.p (.c (.p .v (.p .int .unit))) .unit))) (.seq (.s (.c (.p (.c (.p .v (.p .int .unit))) (.p .v .unit)))) (.seq (.s (.c (.p .v (.p .bl .unit)))) (.seq (.s (.c (.p .v .unit))) (.seq (.forv rfl (by kernel_rfl) rfl (.rng1 (by kernel_rfl) rfl rfl (.q (.p (.bin rfl .int rfl .v) (.p .int .unit)))) (.seq (.s (.bin rfl (.bin rfl (.c (.p .v (.p .int .unit))) rfl .v) rfl (.bin rfl .int rfl .v))) (.seq (.unp rfl (by kernel_rfl) rfl (by kernel_rfl) rfl rfl (.c (.p .v (.p .v (.p (.bin rfl .int rfl .v) .unit))))) (.seq (.s (.c (.p .v (.p .v .unit)))) (.seq (.ite rfl rfl (.orN rfl rfl (.not rfl rfl (.c (.p .v (.p .v .unit)))) rfl (.or2 rfl rfl (.k (.bin rfl .v rfl .int) rfl .int) rfl rfl (.k .v rfl .v))) (.one (.ret rfl .bl)) .skip0) (.seq (.expr rfl rfl (.meth0 rfl rfl rfl .v)) (.seq (.ite rfl rfl (.k (.c (.p .v (.p (.bin rfl .v rfl .int) .unit))) rfl .v) (.one (.ret rfl .bl)) .skip0) (.seq (.expr rfl rfl (.meth0 rfl rfl rfl .v)) (.one (.ite rfl rfl (.not rfl rfl (.c (.p (.c (.p .v (.p .v .unit))) (.p .v .unit)))) (.one (.ret rfl .bl)) .skip0)))))))))) (.seq (.s (.bin rfl (.c (.p .v (.p .int .unit))) rfl (.bin rfl .int rfl .int))) (.one (.ret rfl (.andN rfl rfl (.c (.p .v (.p (.neg rfl .int) .unit))) rfl (.andN rfl rfl (.c (.p .v (.p (.bin rfl .int rfl .v) .unit))) rfl (.and2 rfl rfl (.c (.p .v (.p (.bin rfl (.neg rfl .int) rfl .v) .unit))) rfl rfl (.c (.p .v (.p (.bin rfl (.bin rfl .int rfl .v) rfl .v) .unit))))))))))))))⟩
def ac {P:bc->Prop}(h:P a)(t:∀d∈l,P d):∀d∈a::l,P d:=List.forall_mem_cons.mpr ⟨h,t⟩
def BD:∀d∈D,br C d\/cb C Q XN d:=ac (P:=λd=>br C d\/cb C Q XN d) (.inl Jx) (ac (P:=λd=>br C d\/cb C Q XN d) (.inl iN) (ac (P:=λd=>br C d\/cb C Q XN d) (.inl Jw) (ac (P:=λd=>br C d\/cb C Q XN d) (.inl Jv) (ac (P:=λd=>br C d\/cb C Q XN d) (.inl Ju) (ac (P:=λd=>br C d\/cb C Q XN d) (.inl Jt) (ac (P:=λd=>br C d\/cb C Q XN d) (.inl Js) (ac (P:=λd=>br C d\/cb C Q XN d) (.inl Jr) (ac (P:=λd=>br C d\/cb C Q XN d) (.inl Jq) (ac (P:=λd=>br C d\/cb C Q XN d) (.inl Jp) (ac (P:=λd=>br C d\/cb C Q XN d) (.inl oS) (ac (P:=λd=>br C d\/cb C Q XN d) (.inl oR) (ac (P:=λd=>br C d\/cb C Q XN d) (.inl oQ) (ac (P:=λd=>br C d\/cb C Q XN d) (.inl oP) (ac (P:=λd=>br C d\/cb C Q XN d) (.inl oO) (ac (P:=λd=>br C d\/cb C Q XN d) (.inl oN) (ac (P:=λd=>br C d\/cb C Q XN d) (.inl oM) (ac (P:=λd=>br C d\/cb C Q XN d) (.inl oK) (ac (P:=λd=>br C d\/cb C Q XN d) (.inl oJ) (ac (P:=λd=>br C d\/cb C Q XN d) (.inl oI) (ac (P:=λd=>br C d\/cb C Q XN d) (.inl oH) (ac (P:=λd=>br C d\/cb C Q XN d) (.inl oG) (ac (P:=λd=>br C d\/cb C Q XN d) (.inl oF) (ac (P:=λd=>br C d\/cb C Q XN d) (.inl oE) (ac (P:=λd=>br C d\/cb C Q XN d) (.inl oD) (ac (P:=λd=>br C d\/cb C Q XN d) (.inl oC) (ac (P:=λd=>br C d\/cb C Q XN d) (.inl oB) (ac (P:=λd=>br C d\/cb C Q XN d) (.inl oA) (ac (P:=λd=>br C d\/cb C Q XN d) (.inl oz) (ac (P:=λd=>br C d\/cb C Q XN d) (.inr ow) (ac (P:=λd=>br C d\/cb C Q XN d) (.inl ou) (ac (P:=λd=>br C d\/cb C Q XN d) (.inl ot) (λ_ h=>nomatch h))))))))))))))))))))))))))))))))
def Jo:∀d∈XD,fi C Q XN d:=ac oq (ac oo (ac om (λ_ h=>nomatch h)))
def JI:eY fT:=λ_ _ _ _ _ _=>dE (λ_ _=>rfl)
def JH:eY lu:=λ_ _ _ _ _ _=>fv (λ_ _ _=>rfl)
def JG:eY ls:=λ_ _ _ _ _ _=>dE (λ_ _=>rfl)
def rg:∀d∈XD,eY d:=ac JI (ac JH (ac JG (λ_ h=>nomatch h)))
def JJ:∀d∈D,eY d:=ac (λ_ _ _ _ _ _=>dW (λ_=>rfl)) (ac (λ_ _ _ _ _ _=>fv (λ_ _ _=>rfl)) (ac (λ_ _ _ _ _ _=>lx (λ_ _ _ _=>rfl)) (ac (λ_ _ _ _ _ _=>dE (λ_ _=>rfl)) (ac (λ_ _ _ _ _ _=>dE (λ_ _=>rfl)) (ac (λ_ _ _ _ _ _=>dW (λ_=>rfl)) (ac (λ_ _ _ _ _ _=>dW (λ_=>rfl)) (ac (λ_ _ _ _ _ _=>dW (λ_=>rfl)) (ac (λ_ _ _ _ _ _=>dW (λ_=>rfl)) (ac (λ_ _ _ _ _ _=>dW (λ_=>rfl)) (ac (λ_ _ _ _ _ _=>dE (λ_ _=>rfl)) (ac (λ_ _ _ _ _ _=>dW (λ_=>rfl)) (ac (λ_ _ _ _ _ _=>dW (λ_=>rfl)) (ac (λ_ _ _ _ _ _=>lx (λ_ _ _ _=>rfl)) (ac (λ_ _ _ _ _ _=>lx (λ_ _ _ _=>rfl)) (ac (λ_ _ _ _ _ _=>dE (λ_ _=>rfl)) (ac (λ_ _ _ _ _ _=>fv (λ_ _ _=>rfl)) (ac (λ_ _ _ _ _ _=>lx (λ_ _ _ _=>rfl)) (ac (λ_ _ _ _ _ _=>fv (λ_ _ _=>rfl)) (ac (λ_ _ _ _ _ _=>dE (λ_ _=>rfl)) (ac (λ_ _ _ _ _ _=>dE (λ_ _=>rfl)) (ac (λ_ _ _ _ _ _=>dE (λ_ _=>rfl)) (ac (λ_ _ _ _ _ _=>dW (λ_=>rfl)) (ac (λ_ _ _ _ _ _=>dE (λ_ _=>rfl)) (ac (λ_ _ _ _ _ _=>dE (λ_ _=>rfl)) (ac (λ_ _ _ _ _ _=>dE (λ_ _=>rfl)) (ac (λ_ _ _ _ _ _=>fv (λ_ _ _=>rfl)) (ac (λ_ _ _ _ _ _=>fv (λ_ _ _=>rfl)) (ac (λ_ _ _ _ _ _=>dW (λ_=>rfl)) (ac (λ_ _ _ _ _ _=>dE (λ_ _=>rfl)) (ac (λ_ _ _ _ _ _=>dE (λ_ _=>rfl)) (ac (λ_ _ _ _ _ _=>dW (λ_=>rfl)) (λ_ h=>nomatch h))))))))))))))))))))))))))))))))
def zk{K:Qb}(z0:Qz K LC "len"=some none)(z1:Qz K LC "int"=some none)(z2:Qz K LC "bool"=some none)(z3:Qz K LC "list"=some none)(z4:Qz K LC "tuple"=some none)(z5:Qz K LC "abs"=some none)(z6:Qz K LC "max"=some none)(z7:Qz K LC "min"=some none)(z8:Qz K LC "isinstance"=some none)(z9:Qz K LC "range"=some none)(z10:Qz K LC "str"=some none)(z11:Qz K LC "dict"=some none)(z12:Qz K LC "sum"=some none)(z13:Qz K LC "all"=some none)(z14:Qz K LC "zip"=some none)(z15:Qz K LC "enumerate"=some none)(z16:Qz K LC "sorted"=some none):∀nm∈zB,Qz K LC nm=some none:=by
 unfold zB;simp only[List.forall_mem_cons];exact⟨z0,z1,z2,z3,z4,z5,z6,z7,z8,z9,z10,z11,z12,z13,z14,z15,z16,λ_ q=>(Q6 q).elim⟩
def dk {K:Qb}(X:K.In h)(G:h.Ns LC mg){kV:Value}(g:Qz K LC d.nm=some (some (.ref a)))(l:K.lookup a=some ⟨oc,od,.func (Ws d.on d.on (wD d.st) (xa d.st) (zL d.st) .none kV dc pm an cd ct),sl⟩)(c:WX K cd d.on=true)(k:Q3 K (.ref a)=true):wW K mg d:=⟨a,_,DU l c k,QI X G g⟩
def mk{K:Qb}{w:Ls}{h:Ly}{mg:Str->Option Value}(X:K.In h)(G:h.Ns LC mg){cG u0 u1 u2 u3 u4 u5 u6 u7:Addr}{t0:Tok}
  (hD:∀e∈D,wW K mg e) (hX:∀e∈XD,wW K mg e)
  (e0:Qz K LC "WALKED"=some (some (.int 1 t0)))
  {sa0:Addr}(s0:Qz K LC "STEPS"=some (some (.ref sa0))) (v0:iu K w sa0 [([85],-1,0),([82],0,1),([68],1,0),([76],0,-1)])
  (z:∀nm∈zB,Qz K LC nm=some none)
  (xG:Qz K LC "GyreError"=some (some (.ref cG)))
  (xg0:Qz K LC "NoRoad"=some (some (.ref u0)))
  (xg1:Qz K LC "NoName"=some (some (.ref u1)))
  (xg2:Qz K LC "NoText"=some (some (.ref u2)))
  (xg3:Qz K LC "NoSize"=some (some (.ref u3)))
  (xg4:Qz K LC "NoState"=some (some (.ref u4)))
  (xg5:Qz K LC "NoSquare"=some (some (.ref u5)))
  (xg6:Qz K LC "NoTurn"=some (some (.ref u6)))
  (xg7:Qz K LC "Unlike"=some (some (.ref u7)))
  (xE:Wp K cG [.type "ValueError",.type "Exception",.type "BaseException",.type "object"] "ValueError.__new__"=true)
  (xM:Wb K cG (.type "BaseException")=some true)
  (xV:Qz K LC "ValueError"=some none)
  (xe0:Wp K u0 [.type "ValueError",.type "Exception",.type "BaseException",.type "object"] "ValueError.__new__"=true)
  (xa0:WF K (.ref u0) "__getattribute__"=some (some (.builtin "BaseException.__getattribute__")))
  (xb0:WF K (.ref u0) "__getattr__"=some none)
  (xc0:Wb K u0 (.type "BaseException")=some true)
  (fT:WF K (.ref u0) "__class__"=some (some (.builtin "object.__class__")))
  (xo0:Wb K u0 (.type "object")=some true)
  (xm0:Wb K u0 (.ref cG)=some true)
  (xv0:QG K (.ref u0) (.type "ValueError")=some true)
  (xk0_0:QG K (.ref u0) (.ref u0)=some true)
  (xk0_1:QG K (.ref u0) (.ref u1)=some false)
  (xk0_2:QG K (.ref u0) (.ref u2)=some false)
  (xk0_3:QG K (.ref u0) (.ref u3)=some false)
  (xk0_4:QG K (.ref u0) (.ref u4)=some false)
  (xk0_5:QG K (.ref u0) (.ref u5)=some false)
  (xk0_6:QG K (.ref u0) (.ref u6)=some false)
  (xk0_7:QG K (.ref u0) (.ref u7)=some false)
  : ((∀e∈D,wW K mg e)/\jE K w mg C/\∀nm∈zB,mg nm=none)/\(∀e∈XD,wW K mg e)/\∃G,fg K mg Q G:=by
 refine⟨⟨λd hd=>?_,⟨λnm i hi=>?_,λnm qq hi=>?_⟩,λnm hn=>?_⟩,λd hd=>?_,cG,QI X G xG,xE,xM,PySem.W.mg_none_of X G xV,λc x hx=>?_,λc x hx=>?_⟩
 .exact hD d hd
 .unfold C at hi;rw[QU]at hi;cases q0:nm==("WALKED":Str)with
  |true=>
   rw[q0]at hi;cases hi;rw[beq_iff_eq.mp q0];exact⟨t0,QI X G e0⟩
  |false=>
  rw[q0]at hi;cases hi
 .unfold C at hi;rw[QU]at hi;cases q0:nm==("STEPS":Str)with
  |true=>
   rw[q0]at hi;cases hi;rw[beq_iff_eq.mp q0];exact⟨sa0,QI X G s0,v0⟩
  |false=>
  rw[q0]at hi;cases hi
 .exact PySem.W.mg_none_of X G (z nm hn)
 .exact hX d hd
 .have hx':(["NoRoad","NoName","NoText","NoSize","NoState","NoSquare","NoTurn","Unlike"]:List Str)[c]?=some x:=hx
  match c,hx' with
  |0,h=>cases h;exact⟨u0,QI X G xg0⟩
  |1,h=>cases h;exact⟨u1,QI X G xg1⟩
  |2,h=>cases h;exact⟨u2,QI X G xg2⟩
  |3,h=>cases h;exact⟨u3,QI X G xg3⟩
  |4,h=>cases h;exact⟨u4,QI X G xg4⟩
  |5,h=>cases h;exact⟨u5,QI X G xg5⟩
  |6,h=>cases h;exact⟨u6,QI X G xg6⟩
  |7,h=>cases h;exact⟨u7,QI X G xg7⟩
  |_+8,h=>cases h
 .have hx':(["NoRoad"]:List Str)[c]?=some x:=hx
  match c,hx' with
  |0,h=>
   cases h;refine⟨u0,QI X G xg0,xe0,⟨xa0,xb0,xc0,fT,xo0⟩,xm0,xv0,λc' x' A' h1 h2=>?_⟩;have h3:(["NoRoad","NoName","NoText","NoSize","NoState","NoSquare","NoTurn","Unlike"]:List Str)[c']?=some x':=h1
   match c',h3 with
   |0,h3=>cases h3;rw[QI X G xg0]at h2;cases h2;exact xk0_0
   |1,h3=>cases h3;rw[QI X G xg1]at h2;cases h2;exact xk0_1
   |2,h3=>cases h3;rw[QI X G xg2]at h2;cases h2;exact xk0_2
   |3,h3=>cases h3;rw[QI X G xg3]at h2;cases h2;exact xk0_3
   |4,h3=>cases h3;rw[QI X G xg4]at h2;cases h2;exact xk0_4
   |5,h3=>cases h3;rw[QI X G xg5]at h2;cases h2;exact xk0_5
   |6,h3=>cases h3;rw[QI X G xg6]at h2;cases h2;exact xk0_6
   |7,h3=>cases h3;rw[QI X G xg7]at h2;cases h2;exact xk0_7
   |_+8,h3=>cases h3
  |_+1,h=>cases h
end R41
namespace R41
open Mini
def T:List Fn:=[f0,f1,f2,f3,f4,f5,f6,f7,f8,f9,Bq,Bm,Bl,Bk,Bj,Bh,Bg,Bf,Be,Bd,Bc,Bb,Ba,A9,A8,A7,A6,A5,A4,AZ,AY,hZ,x0,x1,x2]
open Vl Vl.Lib
def wB(k:Nat):Lv:=if k=5\/k=23\/k=27\/k=28 then .no else .full
abbrev CD(d:Nat):=jU wB T d
def zU (h:T[k]?=some f)(ds:List Dat):CD (d+1) k ds=zG wB (CD d) k f ds:=by
 show jU wB T (d+1) k ds=_;unfold jU;rw[h]
def H0(d:Nat)(x:Dat):CD (d+1) 0 [x]=.ok (.bl (isInt x)):=by rw[zU (f:=qz) rfl];exact Hq x
def H3 (d:Nat)(h:0<=i/\i<m):CD (d+2) 3 [.int i,.int m]=.ok .non:=by rw[zU (f:=mE 0) rfl];exact Fh (H0 d) h
def JM (d:Nat)(h:¬(0<=i/\i<m)):CD (d+2) 32 [.int i,.int m]=.ok (.int 0):=by rw[zU (f:=sB 0) rfl];exact HM (H0 d) h
def JL (d:Nat)(h:¬(0<=i/\i<((2*R.length:Nat):Int))):CD (d+3) 33 [au R,.int i,.int m]=.ok (.int 0):=by rw[zU (f:=rV 32) rfl];exact Fg (JM d h)
def JK (d:Nat)(h:¬(0<=i/\i<((2*R.length:Nat):Int))):CD (d+4) 34 [au R,.int i]=.ok (.int 0):=by rw[zU (f:=lc 33 1) rfl];exact Av (JL d h) (.inl rfl) (.inl rfl)
def H1 (d:Nat){c:Nat}(hr:r<n)(hc:c<n):CD (d+1) 1 [.int n,.int r,.int c]=.ok (.bl true):=by rw[zU (f:=mv) rfl];exact EQ hr hc
def H2 (d:Nat){c:Nat}(hr:r<n)(hc:c<n)(e:Di):CD (d+2) 2 [.int n,.int r,.int c,zw e]=.ok (fq n ((r:Int),(c:Int)) e):=by rw[zU (f:=mr 1) rfl];exact EO hr hc (H1 d hr hc) e
def H4 (d:Nat){ρ:Nat}(hn:0<n)(hn':n<=12)(h:ρ<4*n):CD (d+1) 4 [.int n,.int ρ]=.ok (.tup [.int (bu n ρ).1.1,.int (bu n ρ).1.2,zw (bu n ρ).2]):=by rw[zU (f:=mK) rfl];exact Go hn hn' h
def H5 (d:Nat)(h:Sq R)(hn:R.length<=100):CD (d+1) 5 [au R]=.ok (au (kq R)):=by rw[zU (f:=mM) rfl];exact Gs h hn rfl
def H6(d:Nat)(x:List Int)(hx:x.length<=100):CD (d+1) 6 [row x]=.ok (row (dy x)):=by rw[zU (f:=mm) rfl];exact EB x hx rfl
def H7(d:Nat)(x:List Int)(hx:x.length<=100):CD (d+1) 7 [row x]=.ok (row (eI x)):=by rw[zU (f:=ml) rfl];exact EA x hx rfl
def H8 (d:Nat)(h:Sq R)(hn:R.length<=12):CD (d+2) 8 [au R]=.ok (arr R.length (dR R) (eG R)):=by rw[zU (f:=l9 5 6 7) rfl];exact Ez h hn (H5 d h (by lia)) (H6 d) (H7 d) rfl rfl rfl
def H9(d:Nat)(n:Int):CD (d+1) 9 [.int n]=.ok (.bl (decide (n%2=1))):=by rw[zU (f:=iY) rfl];exact EE n
def J3 (d:Nat)(hq:q<=100)(W:Nat->Nat->Int)(i:Nat):CD (d+2) 10 [.int i,row (xH q W i)]=.ok (row (xH q (wk W) i)):=by rw[zU (f:=mO 9) rfl];exact GC (H9 d) hq W i rfl
def Bx (d:Nat)(hp:p<=100)(hq:q<=100)(W:Nat->Nat->Int):CD (d+3) 11 [au (yw p q W)]=.ok (au (yw p q (wk W))):=by rw[zU (f:=nw 10) rfl];exact HS hp W (J3 d hq W) rfl rfl
def J2 (d:Nat)(h:bQ R)(hn:R.length<=12):CD (d+4) 12 [au R]=.ok (arr R.length (wk (dR R)) (wk (eG R))):=by
 rw[zU (f:=l8 8 11) rfl];exact Ey (H8 (d+1) h.sq hn) (Bx d (by lia) (by lia) _) (Bx d (by lia) (by lia) _) rfl rfl rfl
def J1 (d:Nat){c:Nat}(hr:r<n)(hc:c<n)(e:Di):CD (d+3) 13 [.int n,.int r,.int c,zw e]=.ok (zT n ((r:Int),(c:Int)) e):=by rw[zU (f:=mq 2) rfl];exact EM e (H2 d hr hc e)
def J0 (d:Nat)(H:bQ R)(b:Bool)(r c:Nat)(hr:r<R.length)(hc:c<R.length):CD (d+4) 14 [arr R.length (wk (dR R)) (wk (eG R)),.int r,.int c,.int (et b)]=.ok (kz R.length (cX R b) ((r:Int),(c:Int))):=by
 rw[zU (f:=iG 13) rfl];exact BW H b hr hc (λe=>J1 d hr hc e) rfl
abbrev EN(R:List (List Int))(b:Bool):Dat:=dS (kz R.length (cX R b)) (bL R.length R.length 0)
def JZ (d:Nat)(H:bQ R)(hn:R.length<=12)(b:Bool):CD (d+5) 15 [au R,.int (et b)]=.ok (EN R b):=by
 rw[zU (f:=nz 12 14) rfl];exact HU hn (J2 d H hn) (J0 d H b) rfl rfl
def JY (d:Nat)(H:bQ R)(hn:R.length<=12)(b:Bool)(hj:j<2*R.length)(hw:Wk R b j=some (pl,σ)):CD (d+1) 16 [EN R b,.int ((2*j+bN b:Nat):Int),aE (bu R.length (2*j+bN b)).1]=.ok (.lst (.int ((2*j+bN b:Nat):Int)::pl.map aE++[.int σ])):=by
 have hb:bN b=0\/bN b=1:=by cases b<;>simp[bN]
 obtain⟨h1,h2,h3⟩:=qG (n:=R.length) (ρ:=2*j+bN b) (by lia) (by lia);rw[zU (f:=nu) rfl];exact HR (by lia) hn (by lia) (nr H b) (B3 λ_ _=>rfl) (nq H b hj) h2 h3 hw rfl
def JX (d:Nat)(H:bQ R)(hn:R.length<=12)(b:Bool)(hj:j<2*R.length)(hw:Wk R b j=some (pl,σ)):CD (d+2) 17 [EN R b,.int R.length,.int j,.int (et b)]=.ok (.lst (.int ((2*j+bN b:Nat):Int)::pl.map aE++[.int σ])):=by
 have hb:bN b=0\/bN b=1:=by cases b<;>simp[bN]
 rw[zU (f:=l7 4 16) rfl];exact Er b (H4 d (by lia) hn (by lia)) (JY d H hn b hj hw) rfl rfl
def lW(d:Nat)(ns:List Int)(i:Nat):∃c:Int,CD (d+1) 20 [.scr ns,.int i]=.ok (.int c):=by rw[zU (f:=gf) rfl];exact HP ns i
def JV(d:Nat)(c j:Int)(h:0<=j)(h':j<=100000):∃v:Int,CD (d+1) 21 [.int c,.int j]=.ok (.int v):=by rw[zU (f:=mG) rfl];exact Fk c j h h'
def JU(d:Nat)(c:Int):∃n:Nat,1<=n/\n<=12/\CD (d+1) 22 [.int c]=.ok (.int n):=by rw[zU (f:=kl) rfl];exact IC c
def JT (d:Nat)(hn:1<=n)(hn':n<=12)(cell:Int):∃R,bQ R/\R.length=n/\CD (d+2) 23 [.int cell,.int n]=.ok (au R):=by
 rw[zU (f:=nn 21) rfl];obtain⟨X,hX,e⟩:=HN (lev:=wB) (k:=23) (JV d) hn hn' cell (.inl rfl);have hXl:=hX.len;have hl:(sg X).length=n:=by rw[qF,hXl]
 exact⟨sg X,bQ.of (BJ X) λr c a b=>C3 hX (by lia) (by lia),hl,e⟩
def JS (d:Nat)(hR:Sq R)(hn:R.length<=12)(b:Bool):CD (d+1) 24 [au R,.bl b]=.ok (cE R b (bL R.length R.length 0)):=by
 rw[zU (f:=nA) rfl];exact HV hR hn b rfl
def JR (d:Nat){ρ:Nat}(hn:0<n)(hn':n<=12)(h:ρ<4*n):CD (d+1) 25 [.int n,.int ρ]=.ok (.tup [aE (bu n ρ).1,zw (bu n ρ).2]):=by
 rw[zU (f:=nB) rfl];exact HW hn hn' h
def JQ(d:Nat){n:Nat}(hn:n<=12)(p:Pl)(e:Di):CD (d+1) 26 [.int n,aE p,zw e]=.ok (fF n p e):=by
 rw[zU (f:=mf) rfl];exact ER hn p e
def JP (d:Nat)(H:bQ R)(hn:R.length<=12)(b:Bool)(hj:j<2*R.length)(hw:Wk R b j=some (pl,σ)):
  CD (d+2) 27 [cE R b (bL R.length R.length 0),.int R.length,.int ((2*j+bN b:Nat):Int)]=.ok (.tup [.lst (pl.map aE),.int σ]):=by
 have hb:bN b=0\/bN b=1:=by cases b<;>simp[bN]
 rw[zU (f:=mn 25 26) rfl];exact EH (by lia) hn (by lia) (JR d (by lia) hn (by lia)) (JQ d hn) (nr H b) (Dj R b) (nq H b hj) hw rfl
def JO (d:Nat)(h1:R.length<=12)(h:Sq R):CD (d+1) 28 [au R]=.ok (au R):=by
 rw[zU (f:=mF) rfl];exact Fi (by unfold av;lia) (λx hx=>by rw[h x hx];unfold av;lia) rfl
theorem At:∀(k:Nat) (s:bP) (acc pl:List Pl) (σ:Int),wG n t k s acc=some (pl,σ)->pl.length<=acc.length+k
 |0,_,_,_,_,h=>by cases h
 |k+1,s,acc,pl,σ,h=>by
  have h':(match b8 n t s with|some s'=>wG n t k s' (acc++[s'.1])|none=>some (acc,vN n t s))=some (pl,σ):=h;cases e:b8 n t s with
  |none=>rw[e]at h';cases h';lia
  |some s'=>
   rw[e]at h';have:=At k s' _ pl σ h';simp at this;lia
def sW (hn:R.length<=12)(h:Wk R b j=some (pl,σ)):pl.length<=1000:=by
 have:=At _ _ _ _ _ h;have h2:R.length*R.length<=12*12:=WO hn hn;simp at this;lia
def JW (d:Nat)(H:bQ R)(hn:R.length<=12)(b:Bool)(hj:j<2*R.length)(hw:Wk R b j=some (pl,σ)):CD (d+6) 18 [au R,.int j,.int (et b)]=.ok (.lst (pl.map aE)):=by
 rw[zU (f:=i3 3 17 15) rfl];exact EV (sW hn hw) (H3 (d+3) (by lia)) (JZ d H hn b) (JX (d+3) H hn b hj hw) rfl
def Bw (d:Nat)(H:bQ R)(hn:R.length<=12)(hj:j<2*R.length)(hw:Wk R false j=some (pl,σ)):CD (d+7) 19 [au R,.int j]=.ok (.lst (pl.map aE)):=by
 rw[zU (f:=lc 18 1) rfl];exact Av (JW d H hn false hj hw) (.inr rfl) (.inr rfl)
def lV (d:Nat)(h:¬(0<=i/\i<((2*R.length:Nat):Int))):CD (d+5) 29 [au R,.int i]=.ok (.bl true):=by rw[zU (f:=lZ 34) rfl];exact EX (JK d h)
def JN(d:Nat){pl:List Pl}(hp:pl.length<=1000):CD (d+1) 30 [.lst (pl.map aE),.lst (pl.map aE)]=.ok (.bl true):=by rw[zU (f:=qO) rfl];exact HL hp
def iZ(r:bZ):Prop:=∃l,r=.ret (.bl true) l
def gh (h:ak cl e de=.ok d)(hv:yr (.asg i e) X=none)(hl:lv.length=11)(k:∀lv,lv.length=11->iZ (aH wB cl X (de.set i (some d)) lv)):iZ (aH wB cl (.seq (.asg i e) X) de lv):=by
 rw[zy wB cl de lv hv,zE,h];simp only[aU];unfold vB;split
 .simp only[zf];exact k _ (by rw[Q5];exact hl)
 .simp only[zf];exact k _ (by rw[Q5,Au];exact hl)
def kE:Ex:=(.bin .mod (.bin .add (.call 20 (.pair (.var 0) (.pair (.lit (.int 2)) .unit))) (.var 5)) (.bin .mul (.lit (.int 2)) (.var 1)))
def oT:Sm:=(.seq (.fort 7 8 (.tup (.pair (.call 27 (.pair (.var 3) (.pair (.var 1) (.pair (.bin .mul (.lit (.int 2)) (.var 6)) .unit)))) .unit)) .skip) (.seq (.asg 9 (.call 19 (.pair (.var 4) (.pair (.var 6) .unit)))) (.seq (.ite (.or (.not (.call 30 (.pair (.var 9) (.pair (.var 7) .unit)))) (.or (.cmp .eq (.bin .mod (.var 8) (.lit (.int 2))) (.lit (.int 1))) (.cmp .ne (.var 4) (.var 2)))) (.ret (.lit (.bl false))) .skip) (.seq (.expr (.meth .reverse (.var 9) .unit)) (.seq (.ite (.cmp .ne (.call 19 (.pair (.var 4) (.pair (.bin .fdiv (.var 8) (.lit (.int 2))) .unit))) (.var 9)) (.ret (.lit (.bl false))) .skip) (.seq (.expr (.meth .clear (.var 9) .unit)) (.ite (.not (.call 30 (.pair (.call 19 (.pair (.var 4) (.pair (.var 6) .unit))) (.pair (.var 7) .unit)))) (.ret (.lit (.bl false))) .skip)))))))
def lG:Sm:=(.seq (.asg 6 kE) oT)
def ET (H:bQ R)(hn:R.length<=12){L:Nat->Nat}{P:Nat->List Pl}(hL:∀j,j<2*R.length->L j<2*R.length/\L j≠j/\L (L j)=j/\P (L j)=(P j).reverse/\Wk R false j=some (P j,((2*L j+bN false:Nat):Int)))(hj:j<2*R.length)(d0 d5 d7 d8 d9 fE:Option Dat)(lv:List Lv)(hl:lv.length=11):
  ∃q7 q8 q9 lv',lv'.length=11/\aH wB (CD 8) oT [d0,some (.int R.length),some (au R),some (cE R false (bL R.length R.length 0)),some (au R),d5,some (.int j),d7,d8,d9,fE] lv=.next [d0,some (.int R.length),some (au R),some (cE R false (bL R.length R.length 0)),some (au R),d5,some (.int j),q7,q8,q9,fE] lv':=by
 obtain⟨l1,l2,l3,l4,l5⟩:=hL j hj;have l5':=(hL (L j) l1).2.2.2.2;rw[l4,l3]at l5';have hp:=sW hn l5;have c27:=(show CD 8 27 _=_ from JP 6 H hn false hj l5);rw[show((2*j+bN false:Nat):Int)=2*(j:Int)from rfl,show((2*L j+bN false:Nat):Int)=2*(L j:Int)from rfl]at c27;have c19:=(show CD 8 19 _=_ from Bw 1 H hn hj l5);have c19':=(show CD 8 19 _=_ from Bw 1 H hn l1 l5');have c30:=(show CD 8 30 _=_ from JN 7 hp);have mj:zJ .mul (.int 2) (.int (j:Int))=.ok (.int (2*(j:Int))):=yG _ _ (by decide);have md:zJ .mod (.int (2*(L j:Int))) (.int 2)=.ok (.int 0):=by rw[xj _ _ (by decide),show 2*(L j:Int)%2=0 by lia]
 have fd:zJ .fdiv (.int (2*(L j:Int))) (.int 2)=.ok (.int (L j)):=by rw[vp _ _ (by decide) (by decide),show 2*(L j:Int)/2=(L j:Int) by lia]
 unfold oT;rw[zy wB (CD 8) _ _ rfl,qC];simp only[mL,zq,zg,zl,zu,ze,zd,za,aI,zi,mj,c27,aU,wq];simp only[yY];obtain⟨lv1,k1,g1⟩:∃lv1:List Lv,lv1.length=11/\(if aw (.tup [.tup [.lst ((P j).map aE),.int (2*(L j:Int))]])=true then lv else yB (.tup (.pair (.call 27 (.pair (.var 3) (.pair (.var 1) (.pair (.bin .mul (.lit (.int 2)) (.var 6)) .unit)))) .unit)) [d0,some (.int R.length),some (au R),some (cE R false (bL R.length R.length 0)),some (au R),d5,some (.int j),d7,d8,d9,fE] lv)=lv1:=by
  split
  .exact ⟨_,hl,rfl⟩
  .exact ⟨_,by rw[Au];exact hl,rfl⟩
 rw[g1];simp only[Qd,Qc,zR,zf];rw[gS (d:=.lst ((P j).map aE)) (by simp only[zq,zg,zl,zd,za,aI,zi,c19]) (by rw[qx];split<;>rfl) rfl];simp only[Qd,Qc];rw[zy wB (CD 8) _ _ rfl,yi];simp only[i8,xi,zH,zq,zg,zl,zu,ze,zd,za,aI,zi,c30,md,yL,show decide ((0:Int)=1)=false from rfl,C2,Q2,aU,zR,zf];obtain⟨lv2,k2,k3,g2⟩:∃lv2:List Lv,lv2.length=11/\yg lv2 9=true/\((lv1.set 7 (aT (.lst ((P j).map aE)))).set 8 (aT (.int (2*(L j:Int))))).set 9 .full=lv2:=⟨_,by simp[k1],by unfold yg;rw[QQ (by simp[k1])],rfl⟩;rw[g2,zy wB (CD 8) _ _ rfl,uf];rw[show ∀(a b c d e f g h i k:Option Dat) (xs:List Dat),x8 [a,b,c,d,e,f,g,h,i,some (.lst xs),k] 9=some xs from λ_ _ _ _ _ _ _ _ _ _ _=>rfl];simp only[];rw[M6 k3,zf];simp only[Qd,Qc];rw[<-List.map_reverse,zy wB (CD 8) _ _ rfl,yi];simp only[zH,zq,zg,zl,zu,ze,zd,za,aI,zi,fd,c19',sA,aU,zR,zf];rw[zy wB (CD 8) _ _ rfl,DY];rw[show ∀(a b c d e f g h i k:Option Dat) (xs:List Dat),x8 [a,b,c,d,e,f,g,h,i,some (.lst xs),k] 9=some xs from λ_ _ _ _ _ _ _ _ _ _ _=>rfl];simp only[];rw[M6 k3,zf];simp only[Qd,Qc];rw[yi];simp only[xi,zq,zg,zl,zd,za,aI,zi,c19,c30,Q2,aU,zR];exact⟨_,_,_,lv2,k2,rfl⟩
set_option tactic.hygienic true in
def Fe(ns:List Int):CD 9 31 [.scr ns]=.ok (.bl true):=by
 rw[zU (d:=8) (f:=hZ) rfl];obtain⟨c0,h0⟩:=lW 7 ns 0;obtain⟨c1,h1⟩:=lW 7 ns 1;obtain⟨c2,h2⟩:=lW 7 ns 2;obtain⟨c3,h3⟩:=lW 7 ns 3;obtain⟨n,hn1,hn2,h4⟩:=JU 7 c0;obtain⟨R,H,rfl,h5⟩:=JT 6 hn1 hn2 c1;obtain⟨L,P,hL⟩:=Gy H false;have h0':CD 8 20 [.scr ns,.int 0]=.ok (.int c0):=h0;have h1':CD 8 20 [.scr ns,.int 1]=.ok (.int c1):=h1;have h2':CD 8 20 [.scr ns,.int 2]=.ok (.int c2):=h2;have h3':CD 8 20 [.scr ns,.int 3]=.ok (.int c3):=h3;have h24:=(show CD 8 24 [au R,.bl false]=_ from JS 7 H.sq hn2 false);have h28:=(show CD 8 28 [au R]=_ from JO 7 hn2 H.sq);have m2:zJ .mul (.int 2) (.int R.length)=.ok (.int ((2*R.length:Nat):Int)):=by rw[yG _ _ (by decide)];simp
 suffices hs:iZ (aH wB (CD 8) hZ.body [some (.scr ns),none,none,none,none,none,none,none,none,none,none] [aT (.scr ns),.full,.full,.full,.full,.full,.full,.full,.full,.full,.full]) by
  obtain⟨l,hs⟩:=hs;unfold zG;rw[M6 (by rfl)];show zD _ (aH wB (CD 8) hZ.body [some (.scr ns),none,none,none,none,none,none,none,none,none,none] [aT (.scr ns),.full,.full,.full,.full,.full,.full,.full,.full,.full,.full])=_;rw[hs];simp[zD]
 unfold hZ;refine gh (d:=.int R.length) (by simp only[zq,zg,zl,zd,ze,aI,zi,h0',h4]) rfl rfl λlv1 l1=>?_;simp only[Qd,Qc];refine gh (d:=au R) (by simp only[zq,zg,zl,zd,za,ze,aI,zi,h1',h5]) rfl l1 λlv2 l2=>?_;simp only[Qd,Qc];refine gh (d:=cE R false (bL R.length R.length 0)) (by simp only[zq,zg,zl,gQ,zd,za,aI,zi,h24]) rfl l2 λlv3 l3=>?_;simp only[Qd,Qc];refine gh (d:=au R) (by simp only[zq,zg,zl,zd,za,aI,zi,h28]) rfl l3 λlv4 l4=>?_;simp only[Qd,Qc];obtain⟨t,ht,hmin⟩:∃t:Nat,t<=24/\y7 .min2 [.int ((2*R.length:Nat):Int),.int 10]=.ok (.int (t:Int)):=by
  rcases Nat.le_total (2*R.length) 10 with z|z
  .exact ⟨2*R.length,by lia,by simp only[y7];rw[M7 (by lia)]⟩
  .exact ⟨10,by lia,by simp only[y7];split<;>(congr 2<;>lia)⟩
 obtain⟨de',lv',e,k1,o5,o6,o7,o8,o9,rfl⟩:=yt (body:=λx de lv=>aH wB (CD 8) lG (de.set 5 (some x)) (lv.set 5 (aT x)))
  (λ_ de lv=>lv.length=11/\∃o5 o6 o7 o8 o9,de=[some (.scr ns),some (.int R.length),some (au R),some (cE R false (bL R.length R.length 0)),some (au R),o5,o6,o7,o8,o9,none])
  (yu 0 1 t) (de:=[some (.scr ns),some (.int R.length),some (au R),some (cE R false (bL R.length R.length 0)),some (au R),none,none,none,none,none,none]) (lv:=lv4) ⟨l4,none,none,none,none,none,rfl⟩ (by
   rintro i x de lv hx ⟨hl,o5,o6,o7,o8,o9,rfl⟩;have hi:i<t:=by
    have:=(Qa.mp hx).1;simpa using this
   rw[xD _ _ _ _ hi]at hx;cases hx;rw[show(0:Int)+1*(i:Int)=(i:Int) by lia];simp only[Qd,Qc];have hm:zJ .mod (.int (c2+(i:Int))) (.int ((2*R.length:Nat):Int))=.ok (.int ((c2+(i:Int)) % ((2*R.length:Nat):Int))):=xj _ _ (by lia);obtain⟨j,hj⟩:=Wf (Vt (c2+(i:Int)) (show((2*R.length:Nat):Int)≠0 by lia));have hjl:=Int.emod_lt_of_pos (c2+(i:Int)) (show(0:Int)<((2*R.length:Nat):Int) by lia);rw[hj]at hjl hm;obtain⟨q7,q8,q9,lv',k1,e⟩:=ET H hn2 hL (j:=j) (by lia) (some (.scr ns)) (some (.int i)) o7 o8 o9 none ((lv.set 5 (aT (.int i))).set 6 .full) (by simp[hl]);refine⟨_,lv',?_,k1,some (.int i),some (.int j),q7,q8,q9,rfl⟩;unfold lG;rw[vF (d:=.int j) (by
    unfold kE;simp only[zu,zq,zg,zl,ze,zd,za,aI,zi,h2',zX,m2,hm]) (by simp) rfl]
   simp only[Qd,Qc];exact e)
 have hfor:aH wB (CD 8) (.forv 5 (.rng (.lit (.int 0)) (.blt .min2 (.pair (.bin .mul (.lit (.int 2)) (.var 1)) (.pair (.lit (.int 10)) .unit))) (.lit (.int 1))) lG) [some (.scr ns),some (.int R.length),some (au R),some (cE R false (bL R.length R.length 0)),some (au R),none,none,none,none,none,none] lv4=.next [some (.scr ns),some (.int R.length),some (au R),some (cE R false (bL R.length R.length 0)),some (au R),o5,o6,o7,o8,o9,none] lv':=by
  rw[we];simp only[vO,ze,yM,zg,zl,zu,zd,za,aI,zi,m2,hmin,qH (show t<=100 by lia),aU,wq,ww,xW,if_true];exact e
 refine(show iZ (aH wB (CD 8) (.seq (.forv 5 _ lG) _) _ lv4)from ?_);rw[zy wB (CD 8) _ _ rfl,hfor,zf];have hpw:zJ .pow (.int 10) (.int 29)=.ok (.int (10^29)):=m8 10 29 (by decide);obtain⟨f,hf0,hfm⟩:∃f:Int,0<=f/\zJ .mod (.int c3) (.int (10^29))=.ok (.int f):=⟨c3%10^29,Vt _ (by decide),xj _ _ (by decide)⟩;refine gh (d:=.int f) (by simp only[zu,zq,zg,zl,ze,zd,aI,zi,h3',hpw,hfm]) rfl k1 λlv5 l5=>?_;simp only[Qd,Qc];have a1:=(show CD 8 29 [au R,.int (-1)]=_ from lV 3 (R:=R) (i:=-1) (by lia));have a2:=(show CD 8 29 [au R,.int ((2*R.length:Nat):Int)]=_ from lV 3 (R:=R) (by lia));have a3:=(show CD 8 29 [au R,.int (-1-f)]=_ from lV 3 (R:=R) (i:=-1-f) (by lia));have a4:=(show CD 8 29 [au R,.int (((2*R.length:Nat):Int)+f)]=_ from lV 3 (R:=R) (i:=((2*R.length:Nat):Int)+f) (by lia));rw[zI];simp only[yW,zq,zg,zl,wI,zu,ze,zd,za,aI,zi,m2,yE,zX,a1,a2,a3,a4];exact⟨_,rfl⟩
def pure(ns:List Int)(_:ns.length<=63):∃m,yO (D.map (·.fn)++XD.map (·.fn)) 9 31 [.rol (ns.map Wd.int)] []=.ok (.bl true) m:=D4 wB T 9 31 ns (Fe ns)
end R41
namespace Mini
open PySem PySem.Spec PyProof.Rows L2
def BC {run:Value->List Value->Sem Value}{K:Lp->Qb}(e:∀P,as=(K P).map (·.1))(h:Vs q loose XP (λw h=>(K w.params).In h) r d kwd run):PySem.W.WalkX q loose XP (PySem.W.X.obsZ as) (PySem.W.X.valZ K n t) r d kwd run:=
 λw s₀ s₁ mg mb G y a o pm cd doc dV kV h1 h2 h3 h4 h5 h6 args vals as' L p1 p2 p3 p4 p5=>h w s₀ s₁ mg mb G (PySem.W.InK.keeps (K:=K) w _ _ (PySem.W.X.z_facts e y).2.1 L.keeps) a o pm cd doc dV kV h1 h2 h3 h4 h5 h6 args vals as' p1 p2 p3 p4 p5
end Mini
namespace R41
open PySem L2 Mini PySem.W
def JE (X:(K P).In h)(G:h.Ns LC mg)(g:nsIn (K P) LC d.nm=some (some (.ref a)))(l:(K P).lookup a=some (fO d.on d.st m c))(k:codeIn (K P) (.ref c) d.on=true):wW (K P) mg d:=
 dk X G g l k (by show(match (K P).lookup a with|some ⟨_,_,.func _,_⟩=>true|some ⟨_,_,.cls _,_⟩=>_|_=>false)=true;rw[l];rfl)
def Br (X:(K P).In h)(G:h.Ns LC mg){l:List (bc×Addr×Addr×Value)}(e:l.map (λx=>(nsIn (K P) LC x.1.nm,(K P).lookup x.2.1,codeIn (K P) (.ref x.2.2.1) x.1.on))=l.map λx=>(some (some (.ref x.2.1)),some (fO x.1.on x.1.st x.2.2.2 x.2.2.1),true)):∀d∈l.map (·.1),wW (K P) mg d:=λd hd=>by
 obtain⟨x,hx,rfl⟩:=Wg.mp hd;have q:=List.map_inj_left.mp e x hx;exact JE X G (M9 (·.1) q) (M9 (·.2.1) q) (M9 (·.2.2) q)
def lD:List (bc×Addr×Addr×Value):=[(d0,137,136,m0),(d1,144,143,m1),(d2,151,150,m1),(d3,158,157,m1),(d4,165,164,m1),(d5,170,169,m2),(d6,177,176,m3),(d7,182,181,m3),(d8,187,186,m3),(d9,194,193,m4),(fE,199,198,m4),(pW,204,203,m4),(pV,211,210,m4),(pU,223,222,m5),(pS,228,227,m5),(pQ,235,234,m5),(pP,242,241,m5),(pO,249,248,m5),(pN,256,255,m5),(pM,263,262,m5),(pL,270,269,m6),(pK,277,276,m6),(pJ,284,283,m6),(pH,289,288,m6),(pG,294,293,m6),(pF,301,300,m6),(pE,308,307,m6),(pD,313,312,m6),(pC,318,317,m6),(pz,325,324,m6),(pv,332,331,m6),(lO,339,338,m6)]
def lX:List (bc×Addr×Addr×Value):=[(fT,158,157,m1),(lu,256,255,m5),(ls,263,262,m5)]
section
variable(P:Lp)
def zb:∀nm∈zB,nsIn (K P) LC nm=some none:=zk (by kernel_rfl) (by kernel_rfl) (by kernel_rfl) (by kernel_rfl) (by kernel_rfl) (by kernel_rfl) (by kernel_rfl) (by kernel_rfl) (by kernel_rfl) (by kernel_rfl) (by kernel_rfl) (by kernel_rfl) (by kernel_rfl) (by kernel_rfl) (by kernel_rfl) (by kernel_rfl) (by kernel_rfl)
end
end R41
open PySem PySem.W PyProof.Rows
set_option maxRecDepth 100000 in
theorem PySem.Challenge.cw_loopgyre_k41_ways_walked_holds : PySem.Challenge.rw_loopgyre_k41_ways_walked.Holds := by
 w_on;o_law
 refine holds_openX (q:=R41.qv) (loose:=R41.eF) (Xt:=R41.Xt) (XP:=XL R41.qv []) (Yf:=X.obsZ R41.as) (Ya:=X.valZ R41.K 340 653) (N:=6232) R41.hl (λs e=>xl_of s (QC.mp e).1) XL.keeps (by rfl) (by rfl) (by rfl) (λs e=>recFacts_of (QC.mp e).2) (by rfl) (by assumption) (by decide +kernel) ⟨rfl,rfl,rfl,rfl,rfl,by decide +kernel⟩ ?hw ?hc
 case hw=>w_witness2
 refine Mini.BC (K:=R41.K) (λ_=>rfl) ?_;refine Mini.Bz (l:=PySem.Challenge.rw_loopgyre_k41_ways_walked) (D:=R41.D) (XD:=R41.XD) (C:=R41.C) (Q:=R41.Q) (xn:=R41.XN) (k:=9) (i:=31) (dl:=R41.lO) (x:="_law_script") (n:=63) rfl (by decide) rfl ⟨rfl,by decide,by decide⟩ (λw h Y=>Y) rfl rfl R41.BD R41.Jo R41.JJ R41.rg rfl rfl rfl ?F R41.pure
 case F=>
  intro w mg fa h KX G hmg;exact R41.mk KX G (t0:=455) (cG:=24) (u0:=92) (u1:=128) (u2:=116) (u3:=104) (u4:=44) (u5:=56) (u6:=68) (u7:=80) (R41.Br KX G (l:=R41.lD) (by kernel_rfl)) (R41.Br KX G (l:=R41.lX) (by kernel_rfl)) (by kernel_rfl) (sa0:=212) (by kernel_rfl) (Mini.JF (a:=212) (b1:=213) (b2:=214) (b3:=215) (b4:=216) (t1:=457) (t2:=461) (t3:=464) (t4:=467) (ep:=4) (r1:=459) (z1:=460) (n1:=0) (o1:=none) (l1:=#[]) (r2:=462) (z2:=463) (n2:=0) (o2:=none) (l2:=#[]) (r3:=465) (z3:=466) (n3:=0) (o3:=none) (l3:=#[]) (r4:=468) (z4:=470) (n4:=0) (o4:=none) (l4:=#[]) (e1:=PyData.keyHash w.params ⟨⟨[85]⟩⟩) (e2:=PyData.keyHash w.params ⟨⟨[82]⟩⟩) (e3:=PyData.keyHash w.params ⟨⟨[68]⟩⟩) (e4:=PyData.keyHash w.params ⟨⟨[76]⟩⟩) rfl (by kernel_rfl) (by kernel_rfl) (by kernel_rfl) (by kernel_rfl) (by kernel_rfl) rfl rfl rfl rfl) (R41.zb w.params) (by kernel_rfl) (by kernel_rfl) (by kernel_rfl) (by kernel_rfl) (by kernel_rfl) (by kernel_rfl) (by kernel_rfl) (by kernel_rfl) (by kernel_rfl) (by kernel_rfl) (by kernel_rfl) (by kernel_rfl) (by kernel_rfl) (by kernel_rfl) (by kernel_rfl) (by kernel_rfl) (by kernel_rfl) (by kernel_rfl) (by kernel_rfl) (by kernel_rfl) (by kernel_rfl) (by kernel_rfl) (by kernel_rfl) (by kernel_rfl) (by kernel_rfl) (by kernel_rfl) (by kernel_rfl) (by kernel_rfl)
