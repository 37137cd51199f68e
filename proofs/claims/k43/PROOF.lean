import PyProof.Rows.All
import Wide.All
import OpenK.AllK
import Wide.FinOn
import Lean
import PyProof.EqAt
import PyProof.EqKinds
import PyProof.NeKinds
import PyProof.TupleCall
import OpenK.KOwn
import PyProof.WalkInts
import KE.KIsAll
import KE.RegKIsAll
import PyProof.ExcAttrAll.ValueError
import OpenK.KMake
import PyProof.ExcInit
import PySem.Challenge.RW_loopgyre_k43_ways_and_links_beside
open PySem renaming Scope→LA,Params→LB,DictEntry→LC,Program→LF,World→LG,hashStr→LI,Paired→LJ,Heap→LK,sysModules→LL,tupleKind→LM,intKind→LN,mainGlobals→LO,bootBuiltins→LP,Around→LQ,GenState→LS,Model→LU,wpAny→LV,model→LW,backTo→LX,starEach→LY,wpAny_mono→LZ,wpAny_loadName_local→L3,wpAny_loadName_cell→L4,wpAny_truthy_bool→L5,wpAny_execs_nil→L6,wpAny_execs_cons→L7,swapsWith→L8,wpAny_Expr_any→L9,assignEach→Ma,Operator→Mb,wpAny_bind→Mc,wpAny_holding→Md,wpAny_standAt→Mf,wpAny_passesOwn→Mg,letOwnedTupleGo→Mh,wpAny_pure→Mi,wpAny_pyNext_list_item→Mj,wpAny_pyNext_list_end→Mk,wpAny_pyIter_list→Ml,foldedSetIterable→Mm,binaryOp→Mn,compareOp→Mo,CmpOp→Mp,behindInMarks→Mq,sizeLine_eq→Mr,cLine→Ms,FuncData→Mt,BindsTo→Mu,codeAny→Mv,codeAny_mono→Mw,wpAny_Call_Name_kw→Mx,NameKind→My,bindL→Mz,bindC→MA,cellsFrom→MB,getItem→MC,seqIndex_of→ME,seqIndex_neg→MF,subscripted→MG,sliceBounds→MK,attributeBase→ML,keywordEach→MM,Keyword→MN,call_meets→MO,callerA→MQ,pushCells→MR,pushCells_keeps→MS,newFunctionEnv→MT,relabel→MU,notedBy→MV,wpAny_comprehension_free→MW,wpAny_specialOf→MX,IsTupleKey→MY,atKey→MZ,wpAny_forIn_list→M0,wpAny_dictEpoch→M1,valueAt→M7,wpAny_getItem_of→M8,codeAny_call_builtin→Na,wpAny_loadPart_at→Nf,excClassObj→Ng,wpAny_isSubtype_exc→Nh
open PySem.W renaming openGood→LH,mroIn→M9,findIn→Nb,looks_findIn→Nc
open PyProof.Rows renaming AllBare→LR,subscriptTail→MD,subscriptTail_builtinR→MJ,IntsAre→MP,KeyOrd→M5,Keyed→M6
open List renaming getElem?_eq_some_iff→Qa,set_cons_zero→Qc,set_cons_succ→Qd,getElem?_eq_getElem→Qe,getElem?_append_left→Qg,mem_cons_of_mem→Qh,getElem?_append_right→Qi,getD_eq_getElem?_getD→Qj,length_map→Qm,getElem?_eq_none→Qn,mem_cons→Qo,mem_of_getElem?→Qp,mem_append_right→Qs,getElem?_map→Qt,size_toArray→Qv,getElem?_set_ne→Qw,replicate→Qx,nodup_append→Qz,range→QA,nodup_nil→QB,mem_cons_self→QF,getElem?_set→QG,nodup_cons→QI,mem_append→QL,getElem?_set_self→QN,nil_append→QO,mem_singleton→QP,mem_append_left→QS,map_cons→QT,lookup_cons→QU,getElem?_eq_none_iff→QV,length_append→QW,replicate_succ→QY,append_nil→QZ,cons_append→Q0,not_mem_nil→Q5,all_eq_true→Q6,length_set→Wa,reverse_cons→Wb,flatten_cons→Wc,map_map→Wf,ext_getElem?→Wg,mem_map→Wi,take_add_one→Wl,append_assoc→Wm,all_cons→Wo,length_cons→Wp,range_succ_eq_map→Wr,find?_cons→Ws,any_eq_true→Wu,set_eq_of_length_le→Wv,map_append→Ww,getElem?_replicate→Wz,getElem?_cons_zero→WA,getElem?_cons_succ→WB,take_of_length_le→WD,dropLast_eq_take→WG,getElem_mem→WH,getElem_inj→WI,map_congr_left→WM,getElem?_range→WN,filterMap_cons→WO,all_map→WP,mem_filterMap→WT,drop_drop→WU,drop_eq_getElem_cons→WW,any_eq_false→WX,any_cons→WZ,map_nil→W1,range_succ→W4,length_nil→W5,set_append_right→W9,mem_range→Vc,mem_iff_getElem→Vd,forall_mem_cons→Ve,getD_cons_zero→Vi,filter_cons→Vp,eq_nil_of_length_eq_zero→Vr,sum_append→Vt,of_mem_zip→Vu,mem_filter→Vv,length_zip→Vw,foldl→Vz
open PySem.W renaming Frag→Qb,kitOne→QC,mg_of→QK,kia_one→QX,nsIn→Q3,keepIn→Q7,mroIn→We,excIn→Wq,fnOf→Wt,kitx_list→Wy,kitAny→WK,findIn→WL,kitx_dict→WS,cellsFrom_some→W0,codeIn→W2,kitx_tuple→Vf,methodObj→Vj,instObj→Vm,lookIn→Vq,WalkO→Vx,hideAll_get→VD
open Nat renaming lt_of_lt_of_le→Qf,le_refl→Qk,le_trans→Qu,ne_of_lt→QM,lt_irrefl→Q9,lt_succ_self→Wj,le_add_right→WJ,ne_of_gt→WQ,le_of_lt→WR,mul_le_mul→WV,zero_le→WY,mul_comm→W3,div_lt_of_lt_mul→Vg,lt_succ_of_lt→Vn,le_of_eq→Vo,le_succ→Vs
open PySem.Heap renaming lt_size→Ql,get?_push_of_some→Qq,get?_push_size→QR,SameBut→WE,size_push→VA,get?_update_other→VE
open Bool renaming and_eq_true→Qr,false_eq_true→Qy,and_eq_true_iff→QD,false_ne_true→QQ,not_true→Q4,not_eq_true'→Wn,or_eq_true→Wx,eq_iff_iff→W6,beq_eq_decide_eq→Va,and_self→VC
open Option renaming map_eq_some_iff→QE,bind_eq_some_iff→QH,map_some→QJ,isSome_iff_exists→Q8,bind_some→WF,bind→W8,getD_some→Vk
open Int renaming eq_ofNat_of_zero_le→Wh,emod_nonneg→Vy,fdiv_eq_ediv_of_nonneg→VB
open Array renaming toList→WC,mem_of_getElem?→W7,mem_toList_iff→Vb,length_toList→Vh
set_option Elab.async false
set_option linter.all false
set_option maxRecDepth 100000
set_option genSizeOf false
set_option maxHeartbeats 0
set_option bootstrap.genMatcherCode false
set_option compiler.extract_closed false
set_option backward.eqns.nonrecursive false
set_option backward.eqns.deepRecursiveSplit false
noncomputable section
def Ni:=@decide_eq_false
def Nj.{u}:=@if_pos.{u}
def Nk.{u}:=@if_neg.{u}
def Nl.{u}:=@absurd.{u}
def Nm.{u,v}:=@congrArg.{u,v}
def Nn:=@decide_eq_true
def No:=@of_decide_eq_true
def Np:=@decide_eq_true_eq
namespace L2
open PySem PySem.Spec PyProof.Rows
def wK(s:Stmt):Arguments:=match s with
 |.FunctionDef _ a _ _ _ _ _ _ _ _=>a
 |_=>{posonlyargs:=[],args:=[],vararg:=none,kwonlyargs:=[],kw_defaults:=[],kwarg:=none,defaults:=[]}
def xg(s:Stmt):List Stmt:=match s with
 |.FunctionDef _ _ b _ _ _ _ _ _ _=>b
 |_=>[]
def zL(s:Stmt):LA:=match s with
 |.FunctionDef _ _ _ _ _ _ sc _ _ _=>sc
 |_=>{kind:=.function,names:=[],isGenerator:=false,isCoroutine:=false}
end L2
namespace R43
set_option tactic.hygienic false
open PySem L2 PySem.W
def top(i:Nat):Stmt:=PySem.Challenge.pw_loopgyre_k43_ways_and_links_beside.main.body.getD i (.Pass ⟨0,0,0,0⟩)
def ge(P:LB)(s:Str)(t:Tok)(v:Value):LC:=⟨PyData.keyHash P s,.str s t,v⟩
def cO(s:Str)(t l n f a q b c d e u v:Nat):Obj:=⟨.type "code",none,.fields #[.str s t,.str s (t+1),.str "/claim/cut.py" (t+2),.int l 0,.int n 0,.int 0 0,.int 0 0,.int f 0,.ref a,.bool true,.int q 0,.ref b,.none,.ref c,.ref d,.ref e,.int u 0,.int l 0,.str "/claim/cut.py" v],#[]⟩
def fO(n:Str)(d:Stmt)(m:Value)(c:Addr):Obj:=⟨.type "function",none,.func (fnOf n n (wK d) (xg d) (zL d) .none .none .none m none (.ref c) .none),#[]⟩
def m0:Value:=.str "loopgyre.kinds" 344
def m1:Value:=.str "loopgyre.floors" 353
def m2:Value:=.str "loopgyre.signs" 392
def m3:Value:=.str "loopgyre.arrows" 400
def m4:Value:=.str "loopgyre.sides" 424
def m5:Value:=.str "loopgyre.links" 453
def m6:Value:=.str "law_loopgyre_k43_ways_and_links_beside" 561
def dZ(s:Str)(t l n f a q b e u v:Nat):Obj:=⟨.type "code",none,.fields #[.str s t,.str s (t+1),.str "/claim/cut.py" (t+2),.int l 0,.int n 0,.int 0 0,.int 0 0,.int f 0,.ref a,.bool true,.int q 0,.ref b,.none,.none,.none,.ref e,.int u 0,.int l 0,.str "/claim/cut.py" v],#[]⟩
def fG(P:LB)(t u l x:Nat):Obj:=⟨.type "dict",none,.dict #[ge P "__module__" t (.str "loopgyre.errors" u),ge P "__firstlineno__" (t+4) (.int l (t+3)),ge P "__static_attributes__" (t+5) (.ref x),ge P "__doc__" (t+6) .none] 2,#[]⟩
def fj(s:Str)(g a d r t:Nat):Obj:=⟨.type "type",none,.cls ⟨s,[.ref g],[.ref a,.ref g,.type "ValueError",.type "Exception",.type "BaseException",.type "object"],d,s,true,[],[],false,none,false⟩,#[some (.ref r),none,some (.str s t),some (.str s (t+8)),some (.builtin "ValueError.__new__"),some (.bool true)]⟩
def K(P:LB):Frag:=[(3,⟨.type "dict",none,.dict #[ge P "__name__" 165 (.str "law_loopgyre_k43_ways_and_links_beside" 561),ge P "__doc__" 166 .none,ge P "__package__" 167 .none,ge P "__loader__" 168 (.builtin "__main__.__loader__#opaque"),ge P "__spec__" 169 .none,ge P "__annotations__" 170 (.ref 6),ge P "__builtins__" 171 (.ref 4),ge P "__file__" 173 (.str "/claim/cut.py" 172),ge P "__cached__" 174 .none,ge P "GyreError" 206 (.ref 24),ge P "NoState" 231 (.ref 44),ge P "NoSquare" 247 (.ref 56),ge P "NoTurn" 263 (.ref 68),ge P "Unlike" 279 (.ref 80),ge P "NoRoad" 295 (.ref 92),ge P "NoSize" 311 (.ref 104),ge P "NoText" 327 (.ref 116),ge P "NoName" 343 (.ref 128),ge P "is_whole" 352 (.ref 137),ge P "is_place" 363 (.ref 144),ge P "road_over" 373 (.ref 151),ge P "need_road" 381 (.ref 158),ge P "place_at" 391 (.ref 165),ge P "column_sums" 399 (.ref 170),ge P "across_row" 411 (.ref 177),ge P "down_row" 417 (.ref 182),ge P "arrows_of" 423 (.ref 187),ge P "is_odd" 432 (.ref 194),ge P "walked_row" 438 (.ref 199),ge P "walked_grid" 444 (.ref 204),ge P "sides_of" 452 (.ref 211),ge P "WALKED" 456 (.int 1 455),ge P "BESIDE" 458 (.int 0 457),ge P "STEPS" 477 (.ref 212),ge P "beyond" 489 (.ref 223),ge P "ends_at" 495 (.ref 228),ge P "all_ends" 507 (.ref 235),ge P "trail" 518 (.ref 242),ge P "road_trail" 530 (.ref 249),ge P "way_over" 539 (.ref 256),ge P "way_beside" 547 (.ref 263),ge P "links_over" 553 (.ref 268),ge P "links_beside" 560 (.ref 275),ge P "_law_cell_at" 570 (.ref 282),ge P "_law_mixed" 579 (.ref 289),ge P "_law_size" 586 (.ref 296),ge P "_law_drawn" 592 (.ref 301),ge P "_law_sides" 598 (.ref 306),ge P "_law_start" 607 (.ref 313),ge P "_law_beyond" 619 (.ref 320),ge P "_law_walk" 625 (.ref 325),ge P "_law_copy" 631 (.ref 330),ge P "_law_refused" 640 (.ref 337),ge P "_law_wholes" 648 (.ref 344),ge P "law" 654 (.ref 349)] 55,#[]⟩),(23,⟨.type "dict",none,.dict #[ge P "__module__" 196 (.str "loopgyre.errors" 187),ge P "__firstlineno__" 200 (.int 2 199),ge P "__static_attributes__" 201 (.ref 22),ge P "__weakref__" 203 (.ref 25),ge P "__doc__" 204 .none] 3,#[]⟩),(24,⟨.type "type",none,.cls ⟨"GyreError",[(.type "ValueError")],[(.ref 24),(.type "ValueError"),(.type "Exception"),(.type "BaseException"),(.type "object")],23,"GyreError",true,[],[(.ref 44),(.ref 56),(.ref 68),(.ref 80),(.ref 92),(.ref 104),(.ref 116),(.ref 128)],false,none,false⟩,#[(some (.ref 15)),none,(some (.str "GyreError" 189)),(some (.str "GyreError" 197)),(some (.builtin "ValueError.__new__")),(some (.bool true))]⟩),(43,⟨.type "dict",none,.dict #[ge P "__module__" 214 (.str "loopgyre.errors" 187),ge P "__firstlineno__" 218 (.int 4 217),ge P "__init__" 226 (.ref 41),ge P "__static_attributes__" 228 (.ref 42),ge P "__doc__" 229 .none] 2,#[]⟩),(44,fj "NoState" 24 44 43 28 207),(55,fG P 239 187 8 54),(56,fj "NoSquare" 24 56 55 47 232),(67,fG P 255 187 10 66),(68,fj "NoTurn" 24 68 67 59 248),(79,fG P 271 187 12 78),(80,fj "Unlike" 24 80 79 71 264),(91,fG P 287 187 14 90),(92,fj "NoRoad" 24 92 91 83 280),(103,fG P 303 187 16 102),(104,fj "NoSize" 24 104 103 95 296),(115,fG P 319 187 18 114),(116,fj "NoText" 24 116 115 107 312),(127,fG P 335 187 20 126),(128,fj "NoName" 24 128 127 119 328),(136,cO "is_whole" 346 23 1 3 131 181 132 133 134 135 350 351),(137,fO "is_whole" (top 11) m0 136),(143,cO "is_place" 355 26 3 3 138 181 139 140 141 142 361 362),(144,fO "is_place" (top 13) m1 143),(150,cO "road_over" 364 28 4 3 145 181 146 147 148 149 371 372),(151,fO "road_over" (top 14) m1 150),(157,cO "need_road" 374 40 2 3 152 181 153 154 155 156 379 380),(158,fO "need_road" (top 15) m1 157),(164,cO "place_at" 382 43 2 3 159 181 160 161 162 163 389 390),(165,fO "place_at" (top 16) m1 164),(169,dZ "column_sums" 394 54 1 3 166 181 167 168 397 398),(170,fO "column_sums" (top 18) m2 169),(176,cO "across_row" 402 62 1 3 171 181 172 173 174 175 409 410),(177,fO "across_row" (top 20) m3 176),(181,dZ "down_row" 412 69 1 3 178 181 179 180 415 416),(182,fO "down_row" (top 21) m3 181),(186,dZ "arrows_of" 418 71 1 3 183 181 184 185 421 422),(187,fO "arrows_of" (top 22) m3 186),(193,cO "is_odd" 426 76 1 3 188 181 189 190 191 192 430 431),(194,fO "is_odd" (top 24) m4 193),(198,dZ "walked_row" 433 78 2 3 195 181 196 197 436 437),(199,fO "walked_row" (top 25) m4 198),(203,dZ "walked_grid" 439 80 1 3 200 181 201 202 442 443),(204,fO "walked_grid" (top 26) m4 203),(210,cO "sides_of" 445 82 1 3 205 181 206 207 208 209 450 451),(211,fO "sides_of" (top 27) m4 210),(212,⟨.type "dict",none,.dict #[ge P "U" 459 (.ref 213),ge P "R" 463 (.ref 214),ge P "D" 466 (.ref 215),ge P "L" 469 (.ref 216)] 4,#[]⟩),(213,⟨.type "tuple",none,.seq #[(.int (-1) 461),(.int 0 462)] 0,#[]⟩),(214,⟨.type "tuple",none,.seq #[(.int 0 464),(.int 1 465)] 0,#[]⟩),(215,⟨.type "tuple",none,.seq #[(.int 1 467),(.int 0 468)] 0,#[]⟩),(216,⟨.type "tuple",none,.seq #[(.int 0 470),(.int (-1) 472)] 0,#[]⟩),(222,cO "beyond" 478 89 4 3 217 181 218 219 220 221 487 488),(223,fO "beyond" (top 32) m5 222),(227,dZ "ends_at" 490 95 4 3 224 181 225 226 493 494),(228,fO "ends_at" (top 33) m5 227),(234,cO "all_ends" 496 100 2 3 229 181 230 231 232 233 505 506),(235,fO "all_ends" (top 34) m5 234),(241,cO "trail" 508 107 3 3 236 181 237 238 239 240 516 517),(242,fO "trail" (top 35) m5 241),(248,cO "road_trail" 519 113 4 3 243 181 244 245 246 247 528 529),(249,fO "road_trail" (top 36) m5 248),(255,cO "way_over" 531 117 3 3 250 181 251 252 253 254 537 538),(256,fO "way_over" (top 37) m5 255),(262,cO "way_beside" 540 120 2 3 257 181 258 259 260 261 545 546),(263,fO "way_beside" (top 38) m5 262),(267,dZ "links_over" 548 122 2 3 264 181 265 266 551 552),(268,fO "links_over" (top 39) m5 267),(274,cO "links_beside" 554 126 1 3 269 181 270 271 272 273 558 559),(275,fO "links_beside" (top 40) m5 274),(281,cO "_law_cell_at" 563 129 2 3 276 181 277 278 279 280 568 569),(282,fO "_law_cell_at" (top 42) m6 281),(288,cO "_law_mixed" 571 133 2 3 283 181 284 285 286 287 577 578),(289,fO "_law_mixed" (top 43) m6 288),(295,cO "_law_size" 580 136 1 3 290 181 291 292 293 294 584 585),(296,fO "_law_size" (top 44) m6 295),(300,dZ "_law_drawn" 587 140 2 3 297 181 298 299 590 591),(301,fO "_law_drawn" (top 45) m6 300),(305,dZ "_law_sides" 593 163 2 3 302 181 303 304 596 597),(306,fO "_law_sides" (top 46) m6 305),(312,cO "_law_start" 599 179 2 3 307 181 308 309 310 311 605 606),(313,fO "_law_start" (top 47) m6 312),(319,cO "_law_beyond" 608 182 3 3 314 181 315 316 317 318 617 618),(320,fO "_law_beyond" (top 48) m6 319),(324,dZ "_law_walk" 620 188 3 3 321 181 322 323 623 624),(325,fO "_law_walk" (top 49) m6 324),(329,dZ "_law_copy" 626 198 1 3 326 181 327 328 629 630),(330,fO "_law_copy" (top 50) m6 329),(336,cO "_law_refused" 632 200 2 3 331 181 332 333 334 335 638 639),(337,fO "_law_refused" (top 51) m6 336),(343,cO "_law_wholes" 641 208 1 3 338 181 339 340 341 342 646 647),(344,fO "_law_wholes" (top 52) m6 343),(348,dZ "law" 649 213 1 3 345 181 346 347 652 653),(349,fO "law" (top 53) m6 348)]
def as:List Addr:=[3,23,24,43,44,55,56,67,68,79,80,91,92,103,104,115,116,127,128,136,137,143,144,150,151,157,158,164,165,169,170,176,177,181,182,186,187,193,194,198,199,203,204,210,211,212,213,214,215,216,222,223,227,228,234,235,241,242,248,249,255,256,262,263,267,268,274,275,281,282,288,289,295,296,300,301,305,306,312,313,319,320,324,325,329,330,336,337,343,344,348,349]
def qv:LF:={PySem.Challenge.pw_loopgyre_k43_ways_and_links_beside with main:={PySem.Challenge.pw_loopgyre_k43_ways_and_links_beside.main with body:=[1,2,3,4,5,6,7,8,9,11,13,14,15,16,18,20,21,22,24,25,26,27,29,30,31,32,33,34,35,36,37,38,39,40,42,43,44,45,46,47,48,49,50,51,52,53].map top} }
def eE:List Str:=["STEPS"]
def Xt(s:Shared):Bool:=xlAt qv [] s&&recOk (RowW.records PySem.Challenge.rw_loopgyre_k43_ways_and_links_beside.row.toRowW) s
theorem hj{α β γ δ:Type}{o:Option Shared}{f:Shared->α×β×γ}{g:α×β×γ}{k:Shared->δ}{d:δ}(a:o.map (λs=>((f s).1,(f s).2.1))=some (g.1,g.2.1))(b:o.map (λs=>(f s).2.2)=some g.2.2)(c:o.map k=some d):o.map (λs=>(f s,k s))=some (g,d):=by
 cases o with
 |none=>cases a
 |some s=>
  simp only[QJ,Option.some.injEq,Prod.mk.injEq]at a b c ⊢
  exact⟨Prod.ext a.1 (Prod.ext a.2 b),c⟩
def rn(w:LG):Option Shared:=openEnds treeTable PySem.Challenge.pw_loopgyre_k43_ways_and_links_beside w 6330
def sn(s:Shared):=openSeen qv eE (importedModules PySem.Challenge.pw_loopgyre_k43_ways_and_links_beside.main.body) Xt true s
def rb(b:Bool)(w:LG):LG:=w.withFollow "special-get-raises" b
theorem JM(w:LG):(rn (rb false w)).map (λs=>((sn s).1,(sn s).2.1))=some ((LH qv eE).1,(LH qv eE).2.1):=by kernel_rfl
theorem JL(w:LG):(rn (rb false w)).map (λs=>(sn s).2.2)=some (LH qv eE).2.2:=by kernel_rfl
theorem JK(w:LG):(rn (rb false w)).map (X.obsZ as)=some (X.valZ K 350 655 (rb false w)):=by kernel_rfl
theorem JJ(w:LG):(rn (rb true w)).map (λs=>((sn s).1,(sn s).2.1))=some ((LH qv eE).1,(LH qv eE).2.1):=by kernel_rfl
theorem JI(w:LG):(rn (rb true w)).map (λs=>(sn s).2.2)=some (LH qv eE).2.2:=by kernel_rfl
theorem JH(w:LG):(rn (rb true w)).map (X.obsZ as)=some (X.valZ K 350 655 (rb true w)):=by kernel_rfl
theorem hl:LeftO PySem.Challenge.pw_loopgyre_k43_ways_and_links_beside qv eE Xt (X.obsZ as) (X.valZ K 350 655) 6330:=λw=>by
 have e:rb (w.params.followText "special-get-raises") w=w:=World.withFollow_self w "special-get-raises"
 have H:∀b,(rn (rb b w)).map (λs=>(sn s,X.obsZ as s))=some (LH qv eE,X.valZ K 350 655 (rb b w)):=by
  intro b;cases b
  .exact hj (JM w) (JL w) (JK w)
  .exact hj (JJ w) (JI w) (JH w)
 have h:=H (w.params.followText "special-get-raises");rw[e]at h;exact h
end R43
namespace L2
open PySem PySem.Spec PyProof.Rows
abbrev bu:=Sum Int Str
def gC:bu->Value->Bool
 |.inl k,v=>Value.isInt k v
 |.inr x,v=>Value.isStrOf x v
def oO(w:LG):bu->Int
 |.inl k=>hashInt k
 |.inr x=>LI w x
def yk:∀{k:bu}{v:Value},gC k v=true->(∃i t,k=Sum.inl i/\v=Value.int i t)\/(∃x t,k=Sum.inr x/\v=Value.str x t)
 |.inl i,v,h=>by
  obtain⟨t,e⟩:=Value.isInt_shape (k:=i) (v:=v) h;exact .inl ⟨i,t,rfl,e⟩
 |.inr x,v,h=>by
  obtain⟨t,e⟩:=Value.isStrOf_shape (x:=x) (v:=v) h;exact .inr ⟨x,t,rfl,e⟩
def IM(i:Int)(t:Tok):gC (.inl i) (.int i t)=true:=by simp[gC,Value.isInt]
def gD(x:Str)(t:Tok):gC (.inr x) (.str x t)=true:=by simp[gC,Value.isStrOf]
def D5(a b:Int):decide ((Sum.inl a:bu)=Sum.inl b)=(a==b):=by
 by_cases e:a=b
 .subst e;simp
 .have h:¬(Sum.inl a:bu)=Sum.inl b:=λq=>e (Sum.inl.inj q);rw[Ni h];exact(beq_eq_false_iff_ne.mpr e).symm
def D4(a b:Str):decide ((Sum.inr a:bu)=Sum.inr b)=decide (a=b):=by
 by_cases e:a=b
 .subst e;simp
 .have h:¬(Sum.inr a:bu)=Sum.inr b:=λq=>e (Sum.inr.inj q);rw[Ni h,Ni e]
def D3(a:Int)(b:Str):decide ((Sum.inl a:bu)=Sum.inr b)=false:=Ni (λq=>nomatch q)
def D2(a:Str)(b:Int):decide ((Sum.inr a:bu)=Sum.inl b)=false:=Ni (λq=>nomatch q)
def zO(prog:LF)(w:LG):PySem.KeyKind prog w bu where
 is:=gC
 hash:=oO w
 inj:=λv a b ha hb=>by
  rcases yk ha with⟨i,t,rfl,rfl⟩|⟨x,t,rfl,rfl⟩
  .rcases yk hb with⟨j,u,rfl,e⟩|⟨y,u,rfl,e⟩
   .injection e with e1 _;rw[e1]
   .exact nomatch e
  .rcases yk hb with⟨j,u,rfl,e⟩|⟨y,u,rfl,e⟩
   .exact nomatch e
   .injection e with e1 _;rw[e1]
 byValue:=λk v h=>by
  rcases yk h with⟨i,t,rfl,rfl⟩|⟨x,t,rfl,rfl⟩<;>rfl
 pyHash:=λhv h=>by
  rcases yk hv with⟨i,t,rfl,rfl⟩|⟨x,t,rfl,rfl⟩
  .exact wpAny_pyHash_int h
  .exact wpAny_pyHash_str h
 eqBool:=λhu hv h=>by
  rcases yk hu with⟨i,t,rfl,rfl⟩|⟨x,t,rfl,rfl⟩
  .rcases yk hv with⟨j,u,rfl,rfl⟩|⟨y,u,rfl,rfl⟩
   .rw[D5]at h;exact wpAny_eqBool_int h
   .rw[D3]at h;exact SeqAt.EqAt.int_str i t y u _ _ _ _ h
  .rcases yk hv with⟨j,u,rfl,rfl⟩|⟨y,u,rfl,rfl⟩
   .rw[D2]at h;exact SeqAt.EqAt.str_int x t j u _ _ _ _ h
   .rw[D4]at h;exact wpAny_eqBool_str h
 «strs»:=λk x t v h=>by
  rcases yk h with⟨i,u,rfl,e⟩|⟨y,u,rfl,e⟩
  .exact nomatch e
  .injection e with e1 _
   subst e1;cases v<;>rfl
def Jr(prog:LF)(w:LG)(i:Int)(t:Tok):(zO prog w).is (.inl i) (.int i t)=true:=IM i t
def Jq(prog:LF)(w:LG)(x:Str)(t:Tok):(zO prog w).is (.inr x) (.str x t)=true:=gD x t
set_option genInjectivity false in
inductive V where
 |non|bl (b:Bool)|int (i:Int)|str (x:Str)|byt (b:Array UInt8)|flt (b:UInt64)|ref (a:Addr)|ty (n:String)
 deriving DecidableEq
def RelV:V->Value->Prop
 |.non,u=>u=Value.none
 |.bl b,u=>u=Value.bool b
 |.int i,u=>∃t,u=Value.int i t
 |.str x,u=>∃t,u=Value.str x t
 |.byt b,u=>∃t,u=Value.bytes b t
 |.flt b,u=>∃t,u=Value.float b t
 |.ref a,u=>u=Value.ref a
 |.ty n,u=>u=Value.type n
abbrev ay:List V->List Value->Prop:=LJ RelV
theorem ay.length (r:ay xs us):xs.length=us.length:=Paired.length r
theorem ay.get:∀{xs:List V}{us:List Value}{i:Nat}{x:V},ay xs us->xs[i]?=some x->∃u,us[i]?=some u/\RelV x u
 |_,_,_,_,.nil,e=>by simp at e
 |_,_,0,_,.cons r _,e=>by simp at e;subst e;exact⟨_,rfl,r⟩
 |_,_,i+1,x,.cons _ t,e=>by
  obtain⟨u,h1,h2⟩:=ay.get (i:=i) (x:=x) t (by simpa using e);exact⟨u,by simpa using h1,h2⟩
theorem ay.set (r:RelV x u):∀{xs:List V}{us:List Value}(i:Nat),ay xs us->ay (xs.set i x) (us.set i u)
 |_,_,_,.nil=>.nil
 |_,_,0,.cons _ t=>.cons r t
 |_,_,i+1,.cons q t=>.cons q (ay.set r i t)
theorem ay.append:∀{xs ys:List V}{us ws:List Value},ay xs us->ay ys ws->ay (xs++ys) (us++ws)
 |_,_,_,_,.nil,s=>s
 |_,_,_,_,.cons r t,s=>.cons r (ay.append t s)
theorem ay.take:∀{xs:List V}{us:List Value}(n:Nat),ay xs us->ay (xs.take n) (us.take n)
 |_,_,0,_=>.nil
 |_,_,_+1,.nil=>.nil
 |_,_,n+1,.cons r t=>.cons r (ay.take n t)
theorem ay.drop:∀{xs:List V}{us:List Value}(n:Nat),ay xs us->ay (xs.drop n) (us.drop n)
 |_,_,0,r=>r
 |_,_,_+1,.nil=>.nil
 |_,_,n+1,.cons _ t=>ay.drop n t
def dU:Option V->Option Value->Prop
 |some v,some u=>RelV v u
 |none,none=>True
 |_,_=>False
def KV{κ:Type}:List (κ×V)->List (κ×Value)->Prop:=LJ λ(p:κ×V) (q:κ×Value)=>p.1=q.1/\RelV p.2 q.2
def kV:bu->V
 |.inl i=>.int i
 |.inr x=>.str x
set_option genInjectivity false in
inductive HO where
 /-- a list -/
 |lst (xs:List V)
 /-- a tuple (never changes) -/
 |tup (xs:List V)
 /-- a dict whose keys are ints and texts;one whose keys are tuples of ints and texts (the empty one is both) -/
 |dK (kvs:List (bu×V))|dT (kvs:List (List bu×V))
 /-- a set of ints: its members,its size -/
 |set (S:Int->Bool) (n:Nat)
 /-- an instance of the class at C,its dict at dx,its attributes -/
 |ins (C dx:Addr) (fs:List (Str×V))
 /-- the dict of the instance at x -/
 |own (x:Addr)
 /-- the dict of an exception -/
 |xd (fs:List (Str×V))
 /-- a bound method,f of x -/
 |met (f x:Addr)
 /-- a range object lo,lo+1,.. below hi -/
 |rng (lo hi:Int)
 /-- a thing that is known to the object (the script;a dict while a loop bC it): read,never written while it is so -/
 |frz (o:Obj) (u:HO)
 /-- a code object's table -/
 |tbl (ps:Array Value)
 /-- any other thing,by what is true of its one object (a def of one's own: SetO a S n:=HO.ext λh=>..) -/
 |ext (φ:LK->Prop)
abbrev Hp:=Addr->Option HO
def aK(H:Hp)(a:Addr)(o:HO):Hp:=λb=>if b=a then some o else H b
def zm:aK H a o a=some o:=by unfold aK;rw[Nj rfl]
def zl (h:b≠a):aK H a o b=H b:=by unfold aK;rw[Nk h]
def zr {H:Hp}(h:H a=some o)(h':H b=none):a≠b:=by
 intro e;subst e;rw[h]at h';cases h'
section
variable(P:LF)(w:LG)
def aW(H:Hp)(h:LK)(a:Addr):HO->Prop
 |.lst xs=>xs.length<=sizeLine/\∃(its:List Value) (n:Nat),ay xs its/\h.get? a=some {cls:=.type "list",data:=.seq its.toArray n}
 |.tup xs=>xs.length<=sizeLine/\∃its:List Value,ay xs its/\IsTup h a its.toArray
 |.dK kvs=>kvs.length<=sizeLine/\(a==LL)=false/\∃vs,KV kvs vs/\h.DictOf (zO P w) a vs
 |.dT kvs=>kvs.length<=sizeLine/\(a==LL)=false/\∃xs:List (List bu×Addr×Value),
   LJ (λ(p:List bu×V) (q:List bu×Addr×Value)=>p.1=q.1/\H q.2.1=some (.tup (p.1.map kV))/\RelV p.2 q.2.2) kvs xs /\
   ∃o es ep,h.get? a=some o/\o.ExactDict/\o.data=.dict es ep/\es.toList=xs.map (entryOfKey (LM (zO P w)))/\(xs.map (·.1)).Nodup
 |.set S n=>h.SetOf (LN P w) a S n
 |.ins C dx fs=>H dx=some (.own a)/\fs.length<=1000/\dx≠a/\h.get? a=some (Vm C dx) /\
   ∃mA,h.Ns1 dx mA/\(∀f,dU (fs.lookup f) (mA f))/\PySem.Within mA (fs.map (·.1))
 |.own _=>∃o,h.get? a=some o
 |.xd fs=>∃mA,h.Ns1 a mA/\∀f,dU (fs.lookup f) (mA f)
 |.rng lo hi=>∃t u v,h.get? a=some {cls:=.type "range",data:=.fields #[.int lo t,.int hi u,.int 1 v]}
 |.frz o u=>h.get? a=some o/\aW H h a u
 |.tbl ps=>h.get? a=some {cls:=.none,data:=.fields ps}
 |.met f x=>h.get? a=some (Vj (.ref f) (.ref x))
 |.ext φ=>φ h/\(∃o,h.get? a=some o)/\∀h1 h2:LK,φ h1->(∀o,h1.get? a=some o->h2.get? a=some o)->φ h2
def cg(H:Hp)(h:LK):Prop:=∀a o,H a=some o->aW P w H h a o
end
section
variable{P:LF}{w:LG}{H H':Hp}{h h':LK}{a:Addr}{o:HO}
theorem aW.lt(x:aW P w H h a o):a<h.objs.size:=by
 cases o with
 |lst xs=>obtain⟨_,_,_,_,e⟩:=x;exact Ql e
 |tup xs=>obtain⟨_,_,_,p⟩:=x;exact p.lt
 |dK kvs=>obtain⟨_,_,_,_,o,_,_,e,_⟩:=x;exact Ql e
 |dT kvs=>obtain⟨_,_,_,_,o,_,_,e,_⟩:=x;exact Ql e
 |set S n=>obtain⟨o,_,_,_,e,_⟩:=x;exact Ql e
 |ins C dx fs=>obtain⟨_,_,_,e,_⟩:=x;exact Ql e
 |own y=>obtain⟨_,e⟩:=x;exact Ql e
 |xd fs=>obtain⟨_,⟨_,_,_,e,_⟩,_⟩:=x;exact Ql e
 |rng lo hi=>obtain⟨_,_,_,e⟩:=x;exact Ql e
 |frz ob u=>obtain⟨e,_⟩:=x;exact Ql e
 |tbl ps=>exact Ql (show h.get? a=some _ from x)
 |met f y=>exact Ql (show h.get? a=some _ from x)
 |ext φ=>obtain⟨_,⟨_,e⟩,_⟩:=x;exact Ql e
theorem pW:∀{l₁:List α}{l₂:List β},LJ F l₁ l₂->(∀a b,F a b->G a b)->LJ G l₁ l₂
 |_,_,.nil,_=>.nil
 |_,_,.cons r t,f=>.cons (f _ _ r) (pW t f)
def aW.stay(x:aW P w H h a o)(k:∀b u,(b=a\/H b=some (.own a))->h.get? b=some u->h'.get? b=some u)
  (ho:∀b,H b=some (.own a)->H' b=some (.own a)) (ht:∀b xs,H b=some (.tup xs)->H' b=some (.tup xs)):aW P w H' h' a o:=by
 induction o with
 |lst xs=>obtain⟨z,its,n,r,e⟩:=x;exact⟨z,its,n,r,k _ _ (.inl rfl) e⟩
 |tup xs=>obtain⟨z,its,r,ob,e,c⟩:=x;exact⟨z,its,r,ob,k _ _ (.inl rfl) e,c⟩
 |dK kvs=>obtain⟨z,y,vs,r,ob,es,ep,e,c⟩:=x;exact⟨z,y,vs,r,ob,es,ep,k _ _ (.inl rfl) e,c⟩
 |dT kvs=>
  obtain⟨z,y,xs,r,ob,es,ep,e,c⟩:=x;exact⟨z,y,xs,pW r λp q z=>⟨z.1,ht _ _ z.2.1,z.2.2⟩,ob,es,ep,k _ _ (.inl rfl) e,c⟩
 |set S n=>obtain⟨ob,es,ep,t,e,c⟩:=x;exact⟨ob,es,ep,t,k _ _ (.inl rfl) e,c⟩
 |ins C dx fs=>
  obtain⟨d,z,ne,e,mA,⟨od,es,ep,e2,c⟩,r⟩:=x;exact⟨ho _ d,z,ne,k _ _ (.inl rfl) e,mA,⟨od,es,ep,k _ _ (.inr d) e2,c⟩,r⟩
 |own y=>obtain⟨ob,e⟩:=x;exact⟨ob,k _ _ (.inl rfl) e⟩
 |xd fs=>obtain⟨mA,⟨od,es,ep,e,c⟩,r⟩:=x;exact⟨mA,⟨od,es,ep,k _ _ (.inl rfl) e,c⟩,r⟩
 |rng lo hi=>obtain⟨t,u,v,e⟩:=x;exact⟨t,u,v,k _ _ (.inl rfl) e⟩
 |frz ob u ih=>obtain⟨e,q⟩:=x;exact⟨k _ _ (.inl rfl) e,ih q⟩
 |tbl ps=>
  have e:h.get? a=some {cls:=.none,data:=.fields ps}:=x;show h'.get? a=some {cls:=.none,data:=.fields ps};exact k a _ (.inl rfl) e
 |met f y=>
  have e:h.get? a=some (Vj (.ref f) (.ref y)):=x;show h'.get? a=some (Vj (.ref f) (.ref y));exact k a _ (.inl rfl) e
 |ext φ=>obtain⟨p,⟨o,e⟩,st⟩:=x;exact⟨st _ _ p λo q=>k _ _ (.inl rfl) q,⟨o,k _ _ (.inl rfl) e⟩,st⟩
theorem cg.lt(x:cg P w H h)(e:H a=some o):a<h.objs.size:=(x a o e).lt
def cg.fresh(x:cg P w H h)(e:h.objs.size<=a):H a=none:=by
 cases q:H a with
 |none=>rfl
 |some u=>exact Nl (Qf (x.lt q) e) (Q9 _)
def cg.kept(x:cg P w H h)(k:∀b u,h.get? b=some u->h'.get? b=some u):cg P w H h':=λa o e=>
 (x a o e).stay (λb u _ q=>k b u q) (λ_ q=>q) λ_ _ q=>q
def cg.laid(x:cg P w H h)(k:∀b u,h.get? b=some u->h'.get? b=some u)(hp:h.objs.size<=a)(new:aW P w (aK H a o) h' a o):cg P w (aK H a o) h':=λb u e=>by
 have hn:=x.fresh hp;by_cases hb:b=a
 .subst hb;rw[zm]at e;cases e;exact new
 .rw[zl hb]at e;exact(x b u e).stay (λc v _ q=>k c v q) (λc q=>by rw[zl (zr q hn)];exact q) λc xs q=>by rw[zl (zr q hn)];exact q
end
def Rd(H:Hp)(a:Addr)(u:HO):Prop:=H a=some u\/∃o,H a=some (.frz o u)
def Rd.ok (r:Rd H a u)(x:cg P w H h):aW P w H h a u:=by
 rcases r with r|⟨o,r⟩
 .exact x a u r
 .obtain ⟨_,q⟩:=x a _ r;exact q
def i4:Option HO->Prop
 |some (.lst _)=>True
 |some (.dK _)=>True
 |some (.dT _)=>True
 |some (.set _ _)=>True
 |some (.ins _ _ _)=>True
 |some (.ext _)=>True
 |_=>False
section
variable{P:LF}{w:LG}{H:Hp}{h h':LK}{x e:Addr}{o':HO}
def cg.write(ok:cg P w H h)(mu:i4 (H x))(he:e=x\/H e=some (.own x))(k:∀b u,b≠e->h.get? b=some u->h'.get? b=some u)(heo:∃u,h'.get? e=some u)
  (new:aW P w (aK H x o') h' x o'):cg P w (aK H x o') h':=λb u q=>by
 have nown:∀c y,H c=some (.own y)->c≠x:=λc y r z=>by subst z;rw[r]at mu;exact mu
 have ntup:∀c xs,H c=some (.tup xs)->c≠x:=λc xs r z=>by subst z;rw[r]at mu;exact mu
 by_cases hb:b=x
 .subst hb;rw[zm]at q;cases q;exact new
 .rw[zl hb]at q;by_cases hbe:b=e
  .have q':H b=some (.own x):=by
    rcases he with z|z
    .exact Nl (hbe.trans z) hb
    .rw[hbe];exact z
   rw[q]at q';cases q';obtain⟨v,hv⟩:=heo;exact⟨v,by rw[hbe];exact hv⟩
  .refine (ok b u q).stay (λc v hc r=>k c v ?_ r) (λc r=>by rw[zl (nown c b r)];exact r) λc xs r=>by rw[zl (ntup c xs r)];exact r
   rcases hc with rfl|hc
   .exact hbe
   .rintro rfl;rcases he with z|z
    .exact nown c b hc z
    .rw[hc]at z;cases z;exact hb rfl
end
structure Un(fs ex:List Addr)(H H':Hp)(h h':LK):Prop where
 keep:∀b o,h.get? b=some o->H b=none->b∉fs->b∉ex->h'.get? b=some o
 slot:∀b o,h.get? b=some o->H b=none->b∈fs->b∉ex->∃sl,h'.get? b=some {o with slots:=sl}
 free:∀b o,h.get? b=some o->H b=none->b∉ex->H' b=none
 there:∀b o,h.get? b=some o->b∉ex->∃o',h'.get? b=some o'
 tups:∀b xs,H b=some (.tup xs)->H' b=some (.tup xs)
 frzs:∀b o u,H b=some (.frz o u)->H' b=some (.frz o u)
 tbls:∀b ps,H b=some (.tbl ps)->∃more,H' b=some (.tbl (ps++more))
section
variable{fs ex:List Addr}{H H1:Hp}{h h1 h':LK}{a x e:Addr}{o:HO}
def Un.any (u:Un fs ex H H1 h h1)(q:h.get? b=some ob)(n:H b=none)(hx:b∉ex):∃sl,h1.get? b=some {ob with slots:=sl}:=by
 by_cases hb:b∈fs
 .exact u.slot b ob q n hb hx
 .exact ⟨ob.slots,u.keep b ob q n hb hx⟩
def Un.kept(k:∀b u,h.get? b=some u->h'.get? b=some u):Un fs ex H H h h':=
 ⟨λb ob q _ _ _=>k b ob q,λb ob q _ _ _=>⟨ob.slots,k b ob q⟩,λ_ _ _ n _=>n,λb ob q _=>⟨ob,k b ob q⟩,λ_ _ q=>q,λ_ _ _ q=>q,λ_ ps q=>⟨#[],by rw[q];simp⟩⟩
def Un.refl:Un fs ex H H h h:=Un.kept λ_ _ q=>q
def Un.laid(k:∀b u,h.get? b=some u->h'.get? b=some u)(hp:h.objs.size<=a)(hn:H a=none):Un fs ex H (aK H a o) h h' where
 keep:=λb u q _ _ _=>k b u q
 slot:=λb u q _ _ _=>⟨u.slots,k b u q⟩
 free:=λb u q n _=>by rw[zl (QM (Qf (Ql q) hp))];exact n
 there:=λb u q _=>⟨u,k b u q⟩
 tups:=λb xs q=>by rw[zl (zr q hn)];exact q
 frzs:=λb u xs q=>by rw[zl (zr q hn)];exact q
 tbls:=λb ps q=>⟨#[],by rw[zl (zr q hn),q];simp⟩
def Un.write(mu:i4 (H x))(he:e=x\/H e=some (.own x))(k:∀b u,b≠e->h.get? b=some u->h'.get? b=some u)(heo:∃u,h'.get? e=some u):Un fs ex H (aK H x o) h h':=by
 have hx:∀b,H b=none->b≠x:=λb n z=>by subst z;rw[n]at mu;exact mu
 have hb:∀b,H b=none->b≠e:=λb n z=>by
  subst z;rcases he with r|r
  .exact hx b n r
  .rw[n]at r;cases r
 have hm:∀b u,H b=some u->¬i4 (some u)->b≠x:=λb u q nm z=>by subst z;rw[q]at mu;exact nm mu
 refine⟨λb u q n _ _=>k b u (hb b n) q,λb u q n _ _=>⟨u.slots,k b u (hb b n) q⟩,λb u q n _=>by rw[zl (hx b n)];exact n,λb u q _=>?_,
  λb xs q=>by rw[zl (hm b _ q λz=>z)];exact q,λb u xs q=>by rw[zl (hm b _ q λz=>z)];exact q,λb ps q=>⟨#[],by rw[zl (hm b _ q λz=>z),q];simp⟩⟩
 by_cases hbe:b=e
 .subst hbe;exact heo
 .exact ⟨u,k b u hbe q⟩
end
def lJ(h:LK)(H:Hp):List Addr:=(QA h.objs.size).filter λa=>(H a).isSome
def qd(h:LK)(H:Hp):LK:=PySem.W.hideAll h (lJ h H)
def IL(h:LK)(H:Hp):(qd h H).objs.size=h.objs.size:=PySem.W.hideAll_size _ _
def IE (e:h.get? b=some o)(n:H b=none):(qd h H).get? b=some o:=
 VD _ e λhm=>by
  have q:(H b).isSome=true:=(Vv.mp hm).2;rw[n]at q;simp at q
def F2 (e:(qd h H).get? b=some o):h.get? b=some o/\H b=none:=by
 have e':h.get? b=some o:=PySem.W.of_hideAll (lJ h H) e;refine⟨e',?_⟩;cases q:H b with
 |none=>rfl
 |some x=>
  have hm:b∈lJ h H:=Vv.mpr ⟨Vc.mpr (Ql e'),by simp[q]⟩;have z:(qd h H).get? b=none:=PySem.W.hideAll_none (lJ h H) hm;rw[z]at e;cases e
structure Mod(K:Qb)(mg:Str->Option Value)(base:LK):Prop where
 kin:K.In base
 glob:base.Ns LO mg
 blt:∃mb,base.Ns builtinsNs mb/\∀x:Str,x ≠ "__name__" -> mb x=LP x
 nolimit:base.NoLimit
set_option genInjectivity false in
structure Cx where
 prog:LF
 w:LG
 K:Qb
 mg:Str->Option Value
 base:LK
 A:LQ
 N:List Str
 s₀:Shared
 H₀:Hp
 env:Env
 outer:List Env
 stack:List Env
 ex:List Addr
 fn:Str->Bool
 calm:Bool
 pn:List (Addr×Obj)
 xe:Value->Shared->Prop
def bR(l:List Env):List Addr:=l.filterMap (·.frame)
abbrev Cx.fs(X:Cx):List Addr:=bR X.outer
def io(sc:LA)(x:Str):Prop:=sc.names.lookup x=some .local\/sc.names.lookup x=some .cell\/sc.names.lookup x=some .free
def Loc(sc:LA)(x:Str):Prop:=sc.names.lookup x=some .local\/sc.names.lookup x=some .cell
def Look(env:Env)(h:LK)(m:Str->Option Value)(x:Str)(u:Value):Prop:=
 (env.kindOf x=some .local/\m x=some u)\/((env.kindOf x=some .cell\/env.kindOf x=some .free)/\∃c,env.cells.lookup x=some c/\h.IsCell c (some u))
structure Cx.Ok(X:Cx):Prop where
 mod:Mod X.K X.mg X.base
 kind:X.env.scope.kind=.function
 glob:X.env.globals=LO
 blt:X.env.builtins=builtinsNs
 above:X.s₀.heap.objs.size<=X.env.locals
 inj:∀x y c,X.env.cells.lookup x=some c->X.env.cells.lookup y=some c->x=y
 has:∀x,(X.env.kindOf x=some .cell\/X.env.kindOf x=some .free)->∃c,X.env.cells.lookup x=some c
 cab:∀x c,X.fn x=true->X.env.cells.lookup x=some c->X.s₀.heap.objs.size<=c
 hd:X.calm=true->X.A.handled=none
 frames:X.A.frames=some X.stack
 stk:X.stack=X.outer\/(X.stack=X.env::X.outer/\X.env.frame=some X.env.locals)
 exf:∀b∈X.ex,b≠X.env.locals/\∀x c,X.env.cells.lookup x=some c->c≠b
 bs:∀b o,X.base.get? b=some o->X.s₀.heap.get? b=some o/\X.H₀ b=none
 bsz:X.base.objs.size<=X.s₀.heap.objs.size
 noex:∀b o,X.base.get? b=some o->b∉X.ex
 exfs:∀b∈X.ex,b∉X.fs
 funs:X.s₀.heap.FunFrames X.base X.outer
 frf:∀b∈X.fs,X.H₀ b=none
structure Inv(X:Cx)(pins:List (Addr×Obj))(σ:List (Option V))(H:Hp)(s:Shared):Prop where
 ok:X.Ok
 os:s.os=X.s₀.os
 bare:LR s.gens
 base:Un X.fs X.ex X.H₀ H X.s₀.heap s.heap
 loc:∃m,s.heap.Ns X.env.locals m/\∀(i:Nat) (x:Str) (v:V),X.N[i]?=some x->σ[i]?=some (some v)->io X.env.scope x->∃u,RelV v u/\Look X.env s.heap m x u
 cell:∀x c,X.env.cells.lookup x=some c->∃v,s.heap.IsCell c v
 free:H X.env.locals=none
 freeC:∀x c,X.env.cells.lookup x=some c->H c=none
 pin:∀p∈X.pn++pins,s.heap.get? p.1=some p.2/\H p.1=none/\p.1≠X.env.locals/\p.1∉X.fs/\∀v,p.2.data≠.cell v
 hok:cg X.prog X.w H s.heap
 len:σ.length=X.N.length
section
set_option tactic.hygienic false
variable{X:Cx}{pins:List (Addr×Obj)}{σ:List (Option V)}{H H':Hp}{s:Shared}{h':LK}
def Cx.Ok.nofr (ok:X.Ok)(e:X.base.get? b=some o):b∉X.fs:=λhb=>by
 have:=(ok.funs.mem hb).1;rw[e]at this;cases this
theorem Inv.bs(I:Inv X pins σ H s):∀b o,X.base.get? b=some o->s.heap.get? b=some o/\H b=none:=λb o e=>
 ⟨I.base.keep b o (I.ok.bs b o e).1 (I.ok.bs b o e).2 (I.ok.nofr e) (I.ok.noex b o e),I.base.free b o (I.ok.bs b o e).1 (I.ok.bs b o e).2 (I.ok.noex b o e)⟩
def Inv.bk(I:Inv X pins σ H s):∀b o,X.base.get? b=some o->s.heap.get? b=some o:=λb o e=>(I.bs b o e).1
theorem Inv.mod(I:Inv X pins σ H s):Mod X.K X.mg X.base:=I.ok.mod
def Inv.kIn(I:Inv X pins σ H s):X.K.In s.heap:=I.ok.mod.kin.keeps I.bk
theorem Inv.lt(I:Inv X pins σ H s):X.env.locals<s.heap.objs.size:=let⟨_,hn,_⟩:=I.loc;hn.lt
def Inv.sz(I:Inv X pins σ H s):X.s₀.heap.objs.size<=s.heap.objs.size:=Qu I.ok.above (WR I.lt)
def Inv.nofs (I:Inv X pins σ H s)(h:s.heap.objs.size<=a):a∉X.fs:=λhb=>by
 obtain⟨_,o,ho,_⟩:=I.ok.funs.mem hb;exact Nl (Qf (Ql ho) (Qu I.sz h)) (Q9 _)
def Inv.cne(I:Inv X pins σ H s):∀x c,X.env.cells.lookup x=some c->c≠X.env.locals:=λx c e z=>by
 obtain⟨v,o,ho,hd⟩:=I.cell x c e;obtain⟨m,⟨o',es,ep,ho',hd',_⟩,_⟩:=I.loc;rw[z,ho']at ho;cases ho;rw[hd']at hd;cases hd
theorem Inv.funs(I:Inv X pins σ H s):s.heap.FunFrames X.base X.outer:=by
 have all:∀(l:List Env),(∀b∈bR l,b∈X.fs)->X.s₀.heap.FunFrames X.base l->s.heap.FunFrames X.base l:=by
  intro l
  induction l with
  |nil=>intro _ _;trivial
  |cons env r ih=>
   intro hs hl;obtain⟨hk,⟨L,o,hf,hn,ho,hd⟩,hr⟩:=hl;have hL:L∈X.fs:=hs L (by unfold bR;rw[WO,hf];exact QF);obtain⟨sl,e⟩:=I.base.slot L o ho (I.ok.frf L hL) hL λz=>I.ok.exfs L z hL;exact⟨hk,⟨L,_,hf,hn,e,hd⟩,ih (λb hb=>hs b (by unfold bR;rw[WO,hf];exact Qh _ hb)) hr⟩
 exact all X.outer (λ_ hb=>hb) I.ok.funs
theorem Inv.stack(I:Inv X pins σ H s):s.heap.FunFrames X.base X.stack:=by
 rcases I.ok.stk with e|⟨e,hf⟩
 .rw[e];exact I.funs
 .rw[e];obtain⟨m,hn,_⟩:=I.loc;refine .cons (by rw[I.ok.kind];decide) hf hn ?_ I.funs;exact Heap.get?_none_of_le (Qu I.ok.bsz I.ok.above)
def Inv.stkSub(I:Inv X pins σ H s):∀b∈bR X.stack,b∈X.env.locals::X.fs:=λb hb=>by
 rcases I.ok.stk with e|⟨e,hf⟩
 .rw[e]at hb;exact Qh _ hb
 .rw[e]at hb;unfold bR at hb;rw[WO,hf]at hb;exact hb
def Inv.stkFree(I:Inv X pins σ H s):∀b∈bR X.stack,H b=none:=λb hb=>by
 rcases Qo.mp (I.stkSub b hb)with e|hb
 .rw[e];exact I.free
 .obtain ⟨_,o,ho,_⟩:=I.ok.funs.mem hb;exact I.base.free b o ho (I.ok.frf b hb) λz=>I.ok.exfs b z hb
def Inv.step{g':Array LS}{t':Nat}{d':Drawn}{ch:List Addr}(I:Inv X pins σ H s)
  (hch:∀b∈ch,(b∈X.ex\/X.s₀.heap.objs.size<=b)/\b≠X.env.locals/\(∀x c,X.env.cells.lookup x=some c->c≠b)/\∀p∈X.pn++pins,p.1≠b)
  (keep:∀b o,b≠X.env.locals->b∉X.fs->b∉ch->s.heap.get? b=some o->H b=none->h'.get? b=some o)
  (slot:∀b o,b≠X.env.locals->b∈X.fs->b∉ch->s.heap.get? b=some o->H b=none->∃sl,h'.get? b=some {o with slots:=sl}) (free:∀b o,b∉ch->s.heap.get? b=some o->H b=none->H' b=none)
  (there:∀b o,b∉ch->s.heap.get? b=some o->∃o',h'.get? b=some o')
  (tups:∀b xs,H b=some (.tup xs)->H' b=some (.tup xs)) (frzs:∀b o u,H b=some (.frz o u)->H' b=some (.frz o u)) (tbls:∀b ps,H b=some (.tbl ps)->∃more,H' b=some (.tbl (ps++more)))
  (ns:∀m,s.heap.Ns X.env.locals m->h'.Ns X.env.locals m) (hok:cg X.prog X.w H' h') (hg:LR g') :
  Inv X pins σ H' {s with heap:=h',gens:=g',drawn:=d',toks:=t' }:=by
 have neL:∀b o,X.s₀.heap.get? b=some o->b≠X.env.locals:=λb o e=>QM (Qf (Ql e) I.ok.above);have neC:∀b o,X.s₀.heap.get? b=some o->b∉X.ex->b∉ch:=λb o e hx hb=>by
  rcases(hch b hb).1 with z|z
  .exact hx z
  .exact Nl (Qf (Ql e) z) (Q9 _)
 have cellK:∀x c,X.env.cells.lookup x=some c->∀v,s.heap.IsCell c v->h'.IsCell c v:=λx c e v ⟨o,ho,hd⟩=>by
  have nch:c∉ch:=λz=>(hch c z).2.2.1 x c e rfl;by_cases hc:c∈X.fs
  .obtain ⟨sl,q⟩:=slot c o (I.cne x c e) hc nch ho (I.freeC x c e);exact⟨_,q,hd⟩
  .exact ⟨o,keep c o (I.cne x c e) hc nch ho (I.freeC x c e),hd⟩
 refine⟨I.ok,I.os,hg,⟨λb o e n hb hx=>?_,λb o e n hb hx=>?_,λb o e n hx=>?_,λb o e hx=>?_,λb xs e=>tups b xs (I.base.tups b xs e),λb o xs e=>frzs b o xs (I.base.frzs b o xs e),λb ps e=>?_⟩,?_,λx c e=>?_,?_,λx c e=>?_,λp hp=>?_,hok,I.len⟩
 .exact keep b o (neL b o e) hb (neC b o e hx) (I.base.keep b o e n hb hx) (I.base.free b o e n hx)
 .obtain ⟨sl,e1⟩:=I.base.slot b o e n hb hx;obtain⟨sl',e2⟩:=slot b _ (neL b o e) hb (neC b o e hx) e1 (I.base.free b o e n hx);exact⟨sl',e2⟩
 .obtain ⟨o',e1⟩:=I.base.there b o e hx;exact free b o' (neC b o e hx) e1 (I.base.free b o e n hx)
 .obtain ⟨o',e1⟩:=I.base.there b o e hx;exact there b o' (neC b o e hx) e1
 .obtain ⟨m1,e1⟩:=I.base.tbls b ps e;obtain⟨m2,e2⟩:=tbls b _ e1;exact⟨m1++m2,by rw[e2,Array.append_assoc]⟩
 .obtain ⟨m,hn,hl⟩:=I.loc;refine⟨m,ns m hn,λi x v e1 e2 e3=>?_⟩;obtain⟨u,r,l⟩:=hl i x v e1 e2 e3;refine⟨u,r,?_⟩;rcases l with l|⟨k,c,e,z⟩
  .exact .inl l
  .exact .inr ⟨k,c,e,cellK x c e _ z⟩
 .obtain ⟨v,z⟩:=I.cell x c e;exact⟨v,cellK x c e v z⟩
 .obtain ⟨m,⟨o,_,_,ho,_⟩,_⟩:=I.loc;exact free _ o (λz=>(hch _ z).2.1 rfl) ho I.free
 .obtain ⟨v,o,ho,hd⟩:=I.cell x c e;exact free c o (λz=>(hch c z).2.2.1 x c e rfl) ho (I.freeC x c e)
 .obtain ⟨e,n,ne,nf,d⟩:=I.pin p hp;have nch:p.1∉ch:=λz=>(hch p.1 z).2.2.2 p hp rfl;exact⟨keep p.1 p.2 ne nf nch e n,free p.1 p.2 nch e n,ne,nf,d⟩
def Inv.un{t':Nat}(I:Inv X pins σ H s)(u:Un X.fs [] H H' s.heap h')(hok:cg X.prog X.w H' h'):Inv X pins σ H' {s with heap:=h',toks:=t' }:=by
 obtain⟨m,⟨o,es,ep,ho,r⟩,_⟩:=id I.loc;obtain⟨sl,hL⟩:=u.any ho I.free (by simp);exact I.step (g':=s.gens) (d':=s.drawn) (ch:=[]) (λ_ z=>nomatch z) (λb o _ hb _ e n=>u.keep b o e n hb (by simp)) (λb o _ hb _ e n=>u.slot b o e n hb (by simp)) (λb o _ e n=>u.free b o e n (by simp)) (λb o _ e=>u.there b o e (by simp)) u.tups u.frzs u.tbls (λm' hm=>by
  obtain⟨o',es',ep',ho',r'⟩:=hm;rw[ho]at ho';cases ho';exact⟨_,es',ep',hL,r'⟩) hok I.bare
def Inv.call{g':Array LS}{t':Nat}{d':Drawn}{ch:List Addr}(I:Inv X pins σ H s)(u:Un (bR X.stack) ch H H' s.heap h')(hok:cg X.prog X.w H' h')(hg:LR g')
  (hch:∀b∈ch,(b∈X.ex\/X.s₀.heap.objs.size<=b)/\b≠X.env.locals/\(∀x c,X.env.cells.lookup x=some c->c≠b)/\∀p∈X.pn++pins,p.1≠b) :
  Inv X pins σ H' {s with heap:=h',gens:=g',drawn:=d',toks:=t' }:=by
 obtain⟨m,⟨o,es,ep,ho,r⟩,_⟩:=id I.loc;obtain⟨sl,hL⟩:=u.any ho I.free λz=>(hch _ z).2.1 rfl;exact I.step (ch:=ch) hch (λb o hL hb hc e n=>u.keep b o e n (λz=>(Qo.mp (I.stkSub b z)).elim hL hb) hc) (λb o _ _ hc e n=>u.any e n hc) (λb o hc e n=>u.free b o e n hc) (λb o hc e=>u.there b o e hc) u.tups u.frzs u.tbls (λm' hm=>by
  obtain⟨o',es',ep',ho',r'⟩:=hm;rw[ho]at ho';cases ho';exact⟨_,es',ep',hL,r'⟩) hok hg
def Inv.turned{t':Nat}{it:Addr}(I:Inv X pins σ H s)(k:∀b o,b≠it->s.heap.get? b=some o->h'.get? b=some o)(hn:H it=none)(hL:it≠X.env.locals)
  (h1:it∈X.ex\/X.s₀.heap.objs.size<=it) (h2:∀x c,X.env.cells.lookup x=some c->c≠it) (h3:∀p∈X.pn++pins,p.1≠it):Inv X pins σ H {s with heap:=h',toks:=t' }:=by
 have nit:∀b u,H b=some u->b≠it:=λb u e z=>by rw[z,hn]at e;cases e
 refine I.step (g':=s.gens) (d':=s.drawn) (ch:=[it]) (λb hb=>?_) (λb o _ _ hc e _=>k b o (λz=>hc (by simp[z])) e) (λb o _ _ hc e _=>⟨o.slots,k b o (λz=>hc (by simp[z])) e⟩) (λ_ _ _ _ n=>n)
  (λb o hc e=>⟨o,k b o (λz=>hc (by simp[z])) e⟩) (λ_ _ e=>e) (λ_ _ _ e=>e) (λb ps e=>⟨#[],by rw[e];simp⟩) (λm hm=>?_) (λb u e=>?_) I.bare
 .have e:b=it:=by simpa using hb
  subst e;exact⟨h1,hL,h2,h3⟩
 .obtain ⟨o,es,ep,ho,r⟩:=hm;exact⟨o,es,ep,k _ o (Ne.symm hL) ho,r⟩
 .refine (I.hok b u e).stay (λc v hc q=>k c v ?_ q) (λ_ q=>q) λ_ _ q=>q;rcases hc with z|z
  .rw[z];exact nit b u e
  .exact nit c _ z
def Inv.tok(I:Inv X pins σ H s)(t:Nat):Inv X pins σ H {s with toks:=t}:=I.un (h':=s.heap) (t':=t) Un.refl I.hok
theorem Inv.kept{t':Nat}(I:Inv X pins σ H s)(k:∀b u,s.heap.get? b=some u->h'.get? b=some u):Inv X pins σ H {s with heap:=h',toks:=t' }:=I.un (Un.kept k) (I.hok.kept k)
theorem Inv.laid{a:Addr}{o:HO}{t':Nat}(I:Inv X pins σ H s)(k:∀b u,s.heap.get? b=some u->h'.get? b=some u)(hp:s.heap.objs.size<=a)(new:aW X.prog X.w (aK H a o) h' a o):
  Inv X pins σ (aK H a o) {s with heap:=h',toks:=t' }:=I.un (Un.laid k hp (I.hok.fresh hp)) (I.hok.laid k hp new)
theorem Inv.write{x e:Addr}{o:HO}{t':Nat}(I:Inv X pins σ H s)(mu:i4 (H x))(he:e=x\/H e=some (.own x))(k:∀b u,b≠e->s.heap.get? b=some u->h'.get? b=some u)(heo:∃u,h'.get? e=some u)
  (new:aW X.prog X.w (aK H x o) h' x o):Inv X pins σ (aK H x o) {s with heap:=h',toks:=t' }:=I.un (Un.write mu he k heo) (I.hok.write mu he k heo new)
def Inv.pins_of{pins':List (Addr×Obj)}(I:Inv X pins σ H s)(h:∀p∈pins',s.heap.get? p.1=some p.2/\H p.1=none/\p.1≠X.env.locals/\p.1∉X.fs/\∀v,p.2.data≠.cell v):Inv X pins' σ H s:=
 ⟨I.ok,I.os,I.bare,I.base,I.loc,I.cell,I.free,I.freeC,λp hp=>(QL.mp hp).elim (λz=>I.pin p (QS _ z)) (h p),I.hok,I.len⟩
def uW {N:List Str}(hN:N.Nodup){j:Nat}(a:N[i]?=some x)(b:N[j]?=some x):i=j:=by
 obtain⟨h1,e1⟩:=Qa.mp a;obtain⟨h2,e2⟩:=Qa.mp b;exact(WI hN).mp (e1.trans e2.symm)
def gE (I:Inv X pins σ H s)(hN:X.N.Nodup)(hi:X.N[i]?=some x)(hx:Loc X.env.scope x)(r:RelV v u)(h:∀s',Inv X pins (σ.set i (some v)) H s'->(∃a,WE a s.heap s'.heap/\(a=X.env.locals\/X.env.cells.lookup x=some a))->Q () s')(hf:X.fn x=true\/X.env.scope.names.lookup x=some .local:=by first|exact .inl rfl|exact .inr rfl|assumption):LV M A (storeName X.env x u) Q E s:=by
 obtain⟨m,hn,hl⟩:=id I.loc;have hcls:(X.env.scope.kind == .class || (X.env.scope.kind == .module&&X.env.locals != X.env.globals))=false:=by rw[I.ok.kind];rfl
 have hiσ:i<σ.length:=by rw[I.len];exact(Qa.mp hi).1
 have cne:=I.cne;have tracked:∀{a:Addr}{h':LK},(∃o,s.heap.get? a=some o/\H a=none)->WE a s.heap h'->cg X.prog X.w H h':=λ{a h'} ha hs b ob e=>by
  obtain⟨_,_,hfree⟩:=ha;refine(I.hok b ob e).stay (λc w' hc q=>(hs.2 c ?_).trans q) (λ_ q=>q) λ_ _ q=>q;rintro rfl;rcases hc with rfl|hc
  .rw[hfree]at e;cases e
  .rw[hfree]at hc;cases hc
 rcases hx with hk|hk
 .refine wpAny_storeName_local hk hn (λh' hn' hs=>?_) hcls;obtain⟨oL,_,_,hoL,_⟩:=id hn;refine h _ ⟨I.ok,I.os,I.bare,⟨λb o e n hb hx=>?_,λb o e n hb hx=>?_,I.base.free,λb o e hx=>?_,I.base.tups,I.base.frzs,I.base.tbls⟩,⟨_,hn',λj y v' e1 e2 e3=>?_⟩,λy c e=>?_,I.free,I.freeC,λp hp=>?_,tracked ⟨oL,hoL,I.free⟩ hs,by simpa using I.len⟩ ⟨_,hs,.inl rfl⟩
  .exact (hs.2 b (QM (Qf (Ql e) I.ok.above))).trans (I.base.keep b o e n hb hx)
  .obtain ⟨sl,e1⟩:=I.base.slot b o e n hb hx;exact⟨sl,(hs.2 b (QM (Qf (Ql e) I.ok.above))).trans e1⟩
  .obtain ⟨o',e1⟩:=I.base.there b o e hx;exact⟨o',(hs.2 b (QM (Qf (Ql e) I.ok.above))).trans e1⟩
  .by_cases hj:j=i
   .subst hj;rw[hi]at e1;cases e1;rw[QN hiσ]at e2;cases e2;exact⟨u,r,.inl ⟨hk,by simp⟩⟩
   .rw[Qw (Ne.symm hj)]at e2;obtain⟨u',r',q⟩:=hl j y v' e1 e2 e3;refine⟨u',r',?_⟩;rcases q with⟨k,e⟩|⟨k,c,e,z⟩
    .refine .inl ⟨k,?_⟩;have:y≠x:=λe=>hj (uW hN e1 (e▸hi));simp[this,e]
    .exact .inr ⟨k,c,e,z.sameBut hs (cne y c e)⟩
  .obtain ⟨w',z⟩:=I.cell y c e;exact⟨w',z.sameBut hs (cne y c e)⟩
  .obtain ⟨e,n,ne,nf,d⟩:=I.pin p hp;exact⟨(hs.2 p.1 ne).trans e,n,ne,nf,d⟩
 .have hfn:X.fn x=true:=by
   rcases hf with z|z
   .exact z
   .rw[z]at hk;cases hk
  obtain⟨c,hc⟩:=I.ok.has x (.inl hk);obtain⟨w',z⟩:=I.cell x c hc;refine wpAny_storeName_cell I.ok.kind hk hc z (λh' hc' hs=>?_);obtain⟨oc,hoc,hocd⟩:=id z;refine h {s with heap:=h' } ⟨I.ok,I.os,I.bare,⟨λb o e n hb hx=>?_,λb o e n hb hx=>?_,I.base.free,λb o e hx=>?_,I.base.tups,I.base.frzs,I.base.tbls⟩,⟨m,hn.sameBut hs (Ne.symm (cne x c hc)),λj y v' e1 e2 e3=>?_⟩,λy c' e=>?_,I.free,I.freeC,λp hp=>?_,tracked ⟨oc,hoc,I.freeC x c hc⟩ hs,by simpa using I.len⟩ ⟨c,hs,.inr hc⟩
  .exact (hs.2 b (QM (Qf (Ql e) (I.ok.cab x c hfn hc)))).trans (I.base.keep b o e n hb hx)
  .obtain ⟨sl,e1⟩:=I.base.slot b o e n hb hx;exact⟨sl,(hs.2 b (QM (Qf (Ql e) (I.ok.cab x c hfn hc)))).trans e1⟩
  .obtain ⟨o',e1⟩:=I.base.there b o e hx;exact⟨o',(hs.2 b (QM (Qf (Ql e) (I.ok.cab x c hfn hc)))).trans e1⟩
  .by_cases hj:j=i
   .subst hj;rw[hi]at e1;cases e1;rw[QN hiσ]at e2;cases e2;exact⟨u,r,.inr ⟨.inl hk,c,hc,hc'⟩⟩
   .rw[Qw (Ne.symm hj)]at e2;obtain⟨u',r',q⟩:=hl j y v' e1 e2 e3;refine⟨u',r',?_⟩;rcases q with q|⟨k,c',e,z'⟩
    .exact .inl q
    .refine .inr ⟨k,c',e,z'.sameBut hs ?_⟩;rintro rfl;exact hj (uW hN e1 (I.ok.inj _ _ _ e hc▸hi))
  .by_cases hcc:c'=c
   .subst hcc;exact⟨_,hc'⟩
   .obtain ⟨w2,z2⟩:=I.cell y c' e;exact⟨w2,z2.sameBut hs hcc⟩
  .obtain ⟨e,n,ne,nf,d⟩:=I.pin p hp;refine⟨(hs.2 p.1 ?_).trans e,n,ne,nf,d⟩;intro q;rw[q,hoc]at e;have q':oc=p.2:=Option.some.inj e;exact d w' (by rw[<-q'];exact hocd)
def v5 (I:Inv X pins σ H s)(hN:X.N.Nodup)(hi:X.N[i]?=some x)(hx:Loc X.env.scope x)(r:RelV v u)(h:∀s',Inv X pins (σ.set i (some v)) H s'->Q () s')(hf:X.fn x=true\/X.env.scope.names.lookup x=some .local:=by first|exact .inl rfl|exact .inr rfl|assumption):LV M A (storeName X.env x u) Q E s:=
 gE I hN hi hx r (λs' I' _=>h s' I') hf
def Inv.call'{s':Shared}{ch:List Addr}(I:Inv X pins σ H s)(ho:s'.os=s.os)(u:Un (bR X.stack) ch H H' s.heap s'.heap)(hok:cg X.prog X.w H' s'.heap)(hg:LR s'.gens)
  (hch:∀b∈ch,(b∈X.ex\/X.s₀.heap.objs.size<=b)/\b≠X.env.locals/\(∀x c,X.env.cells.lookup x=some c->c≠b)/\∀p∈X.pn++pins,p.1≠b):Inv X pins σ H' s':=by
 obtain⟨h',g',d',t',o'⟩:=s';have e:o'=s.os:=ho;subst e;exact I.call (g':=g') (t':=t') (d':=d') u hok hg hch
end
abbrev XK:=Value->Option Addr->Hp->Prop
abbrev St:=List (Option V)
abbrev VK:=V->Hp->Prop
abbrev TE:=St->Hp->VK->Prop
abbrev TT:=St->Hp->(Bool->Hp->Prop)->Prop
abbrev TA:=St->Hp->(List V->Hp->Prop)->Prop
set_option genInjectivity false in
structure bZ where
 nx:St->Hp->Prop
 rt:VK
 bk:St->Hp->Prop:=λ_ _=>False
 ct:St->Hp->Prop:=λ_ _=>False
abbrev TS:=bZ->St->Hp->Prop
def EP(X:Cx)(pins:List (Addr×Obj))(σ:St)(Q:VK)(u:Value)(s':Shared):Prop:=∃v H',Inv X pins σ H' s'/\RelV v u/\Q v H'
def TP(X:Cx)(pins:List (Addr×Obj))(σ:St)(Q:Bool->Hp->Prop)(b:Bool)(s':Shared):Prop:=∃H',Inv X pins σ H' s'/\Q b H'
def AP(X:Cx)(pins:List (Addr×Obj))(σ:St)(Q:List V->Hp->Prop)(us:List Value)(s':Shared):Prop:=∃vs H',Inv X pins σ H' s'/\ay vs us/\Q vs H'
def SP(X:Cx)(pins:List (Addr×Obj))(D:bZ)(f:Flow)(s':Shared):Prop:=
 match f with
 |.next=>∃σ' H',Inv X pins σ' H' s'/\D.nx σ' H'
 |.brk=>∃σ' H',Inv X pins σ' H' s'/\D.bk σ' H'
 |.cont=>∃σ' H',Inv X pins σ' H' s'/\D.ct σ' H'
 |.ret u=>∃v σ' H',Inv X pins σ' H' s'/\RelV v u/\D.rt v H'
def PE(X:Cx)(e:Expr)(t:TE):Prop:=
 ∀(pins:List (Addr×Obj)) (s:Shared) (σ:St) (H:Hp) (Q:VK),Inv X pins σ H s->t σ H Q->LV (LW X.prog X.w) X.A (eval e X.env) (EP X pins σ Q) X.xe s
def PT(X:Cx)(e:Expr)(t:TT):Prop:=
 ∀(pins:List (Addr×Obj)) (s:Shared) (σ:St) (H:Hp) (Q:Bool->Hp->Prop),Inv X pins σ H s->t σ H Q->LV (LW X.prog X.w) X.A (isTrue e X.env (eval e X.env)) (TP X pins σ Q) X.xe s
def PW(X:Cx)(e:Expr)(t:TT):Prop:=
 ∀(whole:Sem Value) (pins:List (Addr×Obj)) (s:Shared) (σ:St) (H:Hp) (Q:Bool->Hp->Prop),Inv X pins σ H s->t σ H Q->LV (LW X.prog X.w) X.A (isTrue e X.env whole) (TP X pins σ Q) X.xe s
def PW.pt (h:PW X e t):PT X e t:=h _
def PA(X:Cx)(es:List Expr)(t:TA):Prop:=
 ∀(pos:Pos) (pins:List (Addr×Obj)) (s:Shared) (σ:St) (H:Hp) (Q:List V->Hp->Prop),Inv X pins σ H s->t σ H Q->LV (LW X.prog X.w) X.A (spliced (LX pos (LY es X.env))) (AP X pins σ Q) X.xe s
def PS(X:Cx)(st:Stmt)(t:TS):Prop:=
 ∀(pins:List (Addr×Obj)) (s:Shared) (σ:St) (H:Hp) (D:bZ),Inv X pins σ H s->t D σ H->LV (LW X.prog X.w) X.A (exec st X.env) (SP X pins D) X.xe s
def cv(X:Cx)(st:List Stmt)(t:TS):Prop:=
 ∀(pins:List (Addr×Obj)) (s:Shared) (σ:St) (H:Hp) (D:bZ),Inv X pins σ H s->t D σ H->LV (LW X.prog X.w) X.A (execs st X.env) (SP X pins D) X.xe s
def aZ (h:LV M A t Q E s)(hQ:∀a s,Q a s->Q' a s):LV M A t Q' E s:=LZ h hQ λ_ _ x=>x
section
variable{X:Cx}
def kK(i:Nat):TE:=λσ H Q=>∃v,σ[i]?=some (some v)/\Q v H
def tC(v:V):TE:=λ_ H Q=>Q v H
def wV (hN:X.N[i]?=some x)(hv:io X.env.scope x)(hd:(x==("__debug__":Str))=false:=by decide)(hcd:(x==("__classdict__":Str))=false:=by decide):PE X (.Name x pos) (kK i):=by
 intro pins s σ H Q I h;obtain⟨v,e,h⟩:=h;obtain⟨m,hn,hl⟩:=I.loc;obtain⟨u,r,l⟩:=hl i x v hN e hv;have fin:EP X pins σ Q u s:=⟨v,H,I,r,h⟩;rcases l with⟨hk,hm⟩|⟨hk,c,hc,hcell⟩
 .exact wpAny_Name (L3 I.ok.kind hk hn hm fin) hd
 .rcases hk with hk|hk
  .exact wpAny_Name (L4 I.ok.kind hk hc hcell fin) hd
  .exact wpAny_Name (wpAny_loadName_free I.ok.kind hk hc hcell fin hcd) hd
def D1{i j pos}:PE X (.Constant (.int i) j pos) (tC (.int i)):=λ_ _ _ H _ I h=>wpAny_Constant_int ⟨.int i,H,I.tok _,⟨_,rfl⟩,h⟩
def r9{b j pos}:PE X (.Constant (.bool b) j pos) (tC (.bl b)):=λ_ _ _ H _ I h=>Constant_bool ⟨.bl b,H,I,rfl,h⟩
def D0{j pos}:PE X (.Constant .none j pos) (tC .non):=λ_ _ _ H _ I h=>Constant_none ⟨.non,H,I,rfl,h⟩
def wu{x j pos}:PE X (.Constant (.str x) j pos) (tC (.str x)):=λ_ _ _ H _ I h=>Calls.Constant_str ⟨.str x,H,I.tok _,⟨_,rfl⟩,h⟩
def Gl(X:Cx)(x:Str):Prop:=X.env.kindOf x=some .globalImplicit
def jo (I:Inv X pins σ H s)(hg:Gl X x)(hm:X.mg x=some u)(h:Q u s)(hd:(x==("__debug__":Str))=false:=by decide):LV (LW X.prog X.w) X.A (eval (.Name x pos) X.env) Q E s:=
 Calls.Name_function_global I.ok.kind hg (Calls.loadGlobal_global (by rw[I.ok.glob];exact I.mod.glob.keeps I.bk) hm h) hd
def wW (I:Inv X pins σ H s)(hg:Gl X x)(hm:X.mg x=none)(hv:LP x=some u)(h:Q u s)(hn:x ≠ "__name__":=by decide)(hd:(x==("__debug__":Str))=false:=by decide):LV (LW X.prog X.w) X.A (eval (.Name x pos) X.env) Q E s:=by
 obtain⟨mb,h1,h2⟩:=I.mod.blt;exact Calls.Name_function_global I.ok.kind hg (Calls.loadGlobal_builtin (by rw[I.ok.glob];exact I.mod.glob.keeps I.bk) hm (by rw[I.ok.blt];exact h1.keeps I.bk) ((h2 x hn).trans hv) h) hd
def jp (hg:Gl X x)(hm:X.mg x=some u)(r:RelV v u)(hd:(x==("__debug__":Str))=false:=by decide):PE X (.Name x pos) (tC v):=
 λ_ _ _ H _ I h=>jo I hg hm ⟨v,H,I,r,h⟩ hd
def qe (hg:Gl X x)(hm:X.mg x=none)(hv:LP x=some u)(r:RelV v u)(hn:x ≠ "__name__":=by decide)(hd:(x==("__debug__":Str))=false:=by decide):PE X (.Name x pos) (tC v):=
 λ_ _ _ H _ I h=>wW I hg hm hv ⟨v,H,I,r,h⟩ hn hd
variable{a b:Expr}{ta tb:TE}{pos:Pos}
def tB(t:TE):TT:=λσ H Q=>t σ H λx H1=>∃c,x=.bl c/\Q c H1
def tM (h:PE X e t)(he:∀whole,isTrue e X.env whole=(do let v <-whole;standAt e.pos;holding [v] (truthy v)):=by intro _;rfl):PT X e (tB t):=by
 intro pins s σ H Q I hw;refine isTrue_plain (aZ (h pins s σ H _ I hw) λv s1 ⟨x,H1,I1,r1,q1⟩=>?_) (he _);obtain⟨d,rfl,q⟩:=q1;cases r1;exact L5 ⟨H1,I1,q⟩
variable{tA tB':TT}{rest:List Expr}
def oz(t u:TT):TT:=λσ H Q=>t σ H λc H1=>if c=true then u σ H1 Q else Q false H1
def JD(t u:TT):TT:=λσ H Q=>t σ H λc H1=>if c=true then Q true H1 else u σ H1 Q
def oj(t:TT):TT:=λσ H Q=>t σ H λc H1=>Q (! c) H1
def F1(ha:PT X a tA):PW X (.BoolOp .And [a] pos) tA:=by
 intro wh pins s σ H Q I h;refine isTrue_and (aZ (ha pins s σ H Q I h) λc s1 e=>?_);cases c with
 |true=>exact isTrue_and_nil e
 |false=>exact e
def DZ(ha:PT X a tA):PW X (.BoolOp .Or [a] pos) tA:=by
 intro wh pins s σ H Q I h;refine isTrue_or (aZ (ha pins s σ H Q I h) λc s1 e=>?_);cases c with
 |false=>exact isTrue_or_nil e
 |true=>exact e
def DY(ha:PT X a tA)(hb:PW X (.BoolOp .And (b::rest) pos) tB'):PW X (.BoolOp .And (a::b::rest) pos) (oz tA tB'):=by
 intro wh pins s σ H Q I h;refine isTrue_and (aZ (ha pins s σ H _ I h) λc s1 ⟨H1,I1,q1⟩=>?_);cases c with
 |true=>exact hb wh pins s1 σ H1 Q I1 q1
 |false=>exact⟨H1,I1,q1⟩
def Cu(ha:PT X a tA)(hb:PW X (.BoolOp .Or (b::rest) pos) tB'):PW X (.BoolOp .Or (a::b::rest) pos) (JD tA tB'):=by
 intro wh pins s σ H Q I h;refine isTrue_or (aZ (ha pins s σ H _ I h) λc s1 ⟨H1,I1,q1⟩=>?_);cases c with
 |true=>exact⟨H1,I1,q1⟩
 |false=>exact hb wh pins s1 σ H1 Q I1 q1
def DX(ha:PT X a tA):PT X (.UnaryOp .Not a pos) (oj tA):=by
 intro pins s σ H Q I h;exact isTrue_not (ha pins s σ H (λc H1=>Q (! c) H1) I h)
def Ct(ta tb:TE):TE:=λσ H Q=>ta σ H λx H1=>∃c,x=.bl c/\if c=true then tb σ H1 Q else Q (.bl false) H1
def oi(ta tb:TE):TE:=λσ H Q=>ta σ H λx H1=>∃c,x=.bl c/\if c=true then Q (.bl true) H1 else tb σ H1 Q
def Cs(ta:TE):TE:=λσ H Q=>ta σ H λx H1=>∃c,x=.bl c/\Q (.bl (! c)) H1
def nu {op}(h:PE X a t):PE X (.BoolOp op [a] pos) t:=λpins s σ H Q I hw=>BoolOp_one (h pins s σ H Q I hw)
def tL(ha:PE X a ta)(hb:PE X (.BoolOp .And (b::rest) pos) tb):PE X (.BoolOp .And (a::b::rest) pos) (Ct ta tb):=by
 intro pins s σ H Q I h;refine BoolOp_and (aZ (ha pins s σ H _ I h) λv s1 ⟨x,H1,I1,r1,q1⟩=>?_);obtain⟨c,rfl,q1⟩:=q1;cases r1;refine L5 ?_;cases c with
 |true=>exact hb pins s1 σ H1 Q I1 q1
 |false=>exact⟨.bl false,H1,I1,rfl,q1⟩
def Cr(ha:PE X a ta)(hb:PE X (.BoolOp .Or (b::rest) pos) tb):PE X (.BoolOp .Or (a::b::rest) pos) (oi ta tb):=by
 intro pins s σ H Q I h;refine BoolOp_or (aZ (ha pins s σ H _ I h) λv s1 ⟨x,H1,I1,r1,q1⟩=>?_);obtain⟨c,rfl,q1⟩:=q1;cases r1;refine L5 ?_;cases c with
 |false=>exact hb pins s1 σ H1 Q I1 q1
 |true=>exact⟨.bl true,H1,I1,rfl,q1⟩
def DW(ha:PE X a ta):PE X (.UnaryOp .Not a pos) (Cs ta):=by
 intro pins s σ H Q I h;refine UnaryOp_ (aZ (ha pins s σ H _ I h) λv s1 ⟨x,H1,I1,r1,q1⟩=>?_);obtain⟨c,rfl,q1⟩:=q1;cases r1;exact not_of (L5 ⟨.bl (! c),H1,I1,rfl,q1⟩)
def At(t:TT)(ta tb:TE):TE:=λσ H Q=>t σ H λc H1=>if c=true then ta σ H1 Q else tb σ H1 Q
def ID (hc:PT X c tA)(ha:PE X a ta)(hb:PE X b tb):PE X (.IfExp c a b pos) (At tA ta tb):=by
 intro pins s σ H Q I h;refine wpAny_IfExp (aZ (hc pins s σ H _ I h) λd s1 ⟨H1,I1,q1⟩=>?_);cases d with
 |true=>exact ha pins s1 σ H1 Q I1 q1
 |false=>exact hb pins s1 σ H1 Q I1 q1
end
def bj(K:Qb)(H:Hp)(a:Addr)(xs:List V):Prop:=
 Rd H a (.lst xs) \/
  ∃(o:Obj) (its:Array Value) (n:Nat),K.lookup a=some o/\o.cls=.type "list" /\ o.dict=none/\o.data=.seq its n/\its.size<=sizeLine/\ay xs its.toList
def cb(K:Qb)(H:Hp)(a:Addr)(xs:List V):Prop:=
 Rd H a (.tup xs) \/
  ∃(o:Obj) (its:Array Value) (n:Nat),K.lookup a=some o/\o.cls=.type "tuple" /\ o.data=.seq its n/\its.size<=sizeLine/\ay xs its.toList
def pC:Value->Option V
 |.none=>some .non
 |.bool b=>some (.bl b)
 |.int i _=>some (.int i)
 |.str x _=>some (.str x)
 |.bytes b _=>some (.byt b)
 |.float b _=>some (.flt b)
 |.ref a=>some (.ref a)
 |.type n=>some (.ty n)
 |_=>none
def RelV.abs (r:RelV x u):pC u=some x:=by
 cases x with
 |non=>cases r;rfl
 |bl _=>cases r;rfl
 |int _=>obtain⟨t,rfl⟩:=r;rfl
 |str _=>obtain⟨t,rfl⟩:=r;rfl
 |byt _=>obtain⟨t,rfl⟩:=r;rfl
 |flt _=>obtain⟨t,rfl⟩:=r;rfl
 |ref _=>cases r;rfl
 |ty _=>cases r;rfl
theorem RelV.inj (r:RelV x u)(q:RelV y u):x=y:=Option.some.inj (r.abs.symm.trans q.abs)
theorem ay.inj:∀{xs ys:List V}{us:List Value},ay xs us->ay ys us->xs=ys
 |_,_,_,.nil,.nil=>rfl
 |_,_,_,.cons r t,.cons r' t'=>by rw[r.inj r',ay.inj t t']
section
variable{X:Cx}{pins:List (Addr×Obj)}{σ:St}{H:Hp}{s:Shared}{a:Addr}{xs ys:List V}
def bj.of{K:Qb}(h:H a=some (.lst xs)):bj K H a xs:=.inl (.inl h)
def cb.of{K:Qb}(h:H a=some (.tup xs)):cb K H a xs:=.inl (.inl h)
def Inv.list(I:Inv X pins σ H s)(h:bj X.K H a xs):∃its:List Value,ay xs its/\PlainL s.heap a its.toArray/\xs.length<=sizeLine:=by
 rcases h with h|⟨o,its,n,hk,hc,hd,hs,hz,r⟩
 .obtain ⟨z,its,n,r,e⟩:=h.ok I.hok;exact⟨its,r,⟨_,n,e,rfl,rfl,rfl⟩,z⟩
 .refine ⟨its.toList,r,⟨o,n,I.kIn a o hk,hc,hd,by simpa using hs⟩,?_⟩;have e:=r.length;simp only[Vh]at e;lia
def Inv.tuple(I:Inv X pins σ H s)(h:cb X.K H a xs):∃its:List Value,ay xs its/\IsTup s.heap a its.toArray/\xs.length<=sizeLine:=by
 rcases h with h|⟨o,its,n,hk,hc,hs,hz,r⟩
 .obtain ⟨z,its,r,p⟩:=h.ok I.hok;exact⟨its,r,p,z⟩
 .refine ⟨its.toList,r,⟨o,I.kIn a o hk,hc,n,by simpa using hs⟩,?_⟩;have e:=r.length;simp only[Vh]at e;lia
def Inv.list_inj(I:Inv X pins σ H s)(h:bj X.K H a xs)(h':bj X.K H a ys):xs=ys:=by
 obtain⟨its,r,⟨o,n,e,_,_,d⟩,_⟩:=I.list h;obtain⟨its',r',⟨o',n',e',_,_,d'⟩,_⟩:=I.list h';rw[e]at e';cases e';rw[d]at d';injection d' with d1 _
 have:its=its':=by simpa using Nm WC d1
 subst this;exact r.inj r'
def Inv.tuple_inj(I:Inv X pins σ H s)(h:cb X.K H a xs)(h':cb X.K H a ys):xs=ys:=by
 obtain⟨its,r,⟨o,e,_,n,d⟩,_⟩:=I.tuple h;obtain⟨its',r',⟨o',e',_,n',d'⟩,_⟩:=I.tuple h';rw[e]at e';cases e';rw[d]at d';injection d' with d1 _
 have:its=its':=by simpa using Nm WC d1
 subst this;exact r.inj r'
end
abbrev Cx.wish(X:Cx)(E:Value->Shared->Prop):Cx:={X with xe:=E}
abbrev Cx.nox(X:Cx):Cx:=X.wish λ_ _=>False
theorem Cx.Ok.wish{X:Cx}(ok:X.Ok)(E:Value->Shared->Prop):(X.wish E).Ok:=
 ⟨ok.mod,ok.kind,ok.glob,ok.blt,ok.above,ok.inj,ok.has,ok.cab,ok.hd,ok.frames,ok.stk,ok.exf,ok.bs,ok.bsz,ok.noex,ok.exfs,ok.funs,ok.frf⟩
def Cx.Ok.unwish {X:Cx}(ok:(X.wish E).Ok):X.Ok:=
 ⟨ok.mod,ok.kind,ok.glob,ok.blt,ok.above,ok.inj,ok.has,ok.cab,ok.hd,ok.frames,ok.stk,ok.exf,ok.bs,ok.bsz,ok.noex,ok.exfs,ok.funs,ok.frf⟩
section
variable{X:Cx}{pins:List (Addr×Obj)}{σ:St}{H:Hp}{s:Shared}{E:Value->Shared->Prop}
theorem Inv.wish(I:Inv X pins σ H s)(E:Value->Shared->Prop):Inv (X.wish E) pins σ H s:=⟨I.ok.wish E,I.os,I.bare,I.base,I.loc,I.cell,I.free,I.freeC,I.pin,I.hok,I.len⟩
theorem Inv.unwish(I:Inv (X.wish E) pins σ H s):Inv X pins σ H s:=⟨I.ok.unwish,I.os,I.bare,I.base,I.loc,I.cell,I.free,I.freeC,I.pin,I.hok,I.len⟩
theorem SP.unwish{D:bZ}{f:Flow}{s':Shared}(h:SP (X.wish E) pins D f s'):SP X pins D f s':=by
 cases f with
 |next=>obtain⟨σ',H',I,q⟩:=h;exact⟨σ',H',I.unwish,q⟩
 |brk=>obtain⟨σ',H',I,q⟩:=h;exact⟨σ',H',I.unwish,q⟩
 |cont=>obtain⟨σ',H',I,q⟩:=h;exact⟨σ',H',I.unwish,q⟩
 |ret u=>obtain⟨v,σ',H',I,r,q⟩:=h;exact⟨v,σ',H',I.unwish,r,q⟩
theorem cv.nox{st:List Stmt}{t:TS}(h:cv X.nox st t):cv X st t:=λpins s σ H D I hw=>
 LZ (h pins s σ H D (I.wish _) hw) (λ_ _ q=>q.unwish) λ_ _ z=>False.elim z
end
section
variable{X:Cx}{st:Stmt}{rest:List Stmt}{t u:TS}{e:Expr}{te:TE}{pos:Pos}
def Cq:TS:=λD σ H=>D.nx σ H
def n9(t u:TS):TS:=λD σ H=>t {D with nx:=u D} σ H
def uO:cv X [] Cq:=λ_ _ σ H _ I h=>L6 ⟨σ,H,I,h⟩
def wX(h1:PS X st t)(h2:cv X rest u):cv X (st::rest) (n9 t u):=by
 intro pins s σ H D I h;refine L7 (aZ (h1 pins s σ H {D with nx:=u D} I h) λf s1 q=>?_);cases f with
 |next=>
  obtain⟨σ',H',I',q⟩:=q;exact h2 pins s1 σ' H' D I' q
 |ret v=>exact q
 |brk=>exact q
 |cont=>exact q
def v6(h1:PS X st t):cv X [st] t:=by
 intro pins s σ H D I h;refine L7 (aZ (h1 pins s σ H D I h) λf s1 q=>?_);cases f with
 |next=>exact L6 q
 |ret v=>exact q
 |brk=>exact q
 |cont=>exact q
def Inv.quiet (I:Inv X pins σ H s):interactive X.env=false:=by simp[interactive,I.ok.kind]
def Cp(te:TE):TS:=λD σ H=>te σ H λ_ H1=>D.nx σ H1
def F0(he:PE X e te)(hs:L8 e none pos.line X.env=pure false:=by rfl):PS X (.Expr e pos) (Cp te):=by
 intro pins s σ H D I h;exact L9 (aZ (he pins s σ H _ I h) λv s1 ⟨x,H1,I1,r1,q1⟩=>⟨σ,H1,I1,q1⟩) I.quiet hs
def oh(te:TE):TS:=λD σ H=>te σ H D.rt
def qf(he:PE X e te):PS X (.Return (some e) pos) (oh te):=by
 intro pins s σ H D I h;exact wpAny_Return_some (aZ (he pins s σ H _ I h) λv s1 ⟨x,H1,I1,r1,q1⟩=>⟨x,σ,H1,I1,r1,q1⟩)
def oo(c:TT)(t u:TS):TS:=λD σ H=>c σ H λb H1=>if b=true then t D σ H1 else u D σ H1
def ng (hc:PT X c tc)(ha:cv X a t)(hb:cv X b u):PS X (.If c a b pos) (oo tc t u):=by
 intro pins s σ H D I h;refine wpAny_If (aZ (hc pins s σ H _ I h) λd s1 ⟨H1,I1,q1⟩=>?_);cases d with
 |true=>exact ha pins s1 σ H1 D I1 q1
 |false=>exact hb pins s1 σ H1 D I1 q1
def tK:TS:=λ_ _ _=>False
def IC:PS X st tK:=λ_ _ _ _ _ _ h=>h.elim
def kL:cv X sts tK:=λ_ _ _ _ _ _ h=>h.elim
end
abbrev TG:=V->St->Hp->(St->Hp->Prop)->Prop
abbrev eu:=List V->St->Hp->(St->Hp->Prop)->Prop
def PG(X:Cx)(target:Expr)(t:TG):Prop:=
 ∀(pins:List (Addr×Obj)) (s:Shared) (σ:St) (H:Hp) (v:V) (u:Value) (Q:St->Hp->Prop),Inv X pins σ H s->RelV v u->t v σ H Q ->
  LV (LW X.prog X.w) X.A (assign target X.env u) (λ_ s'=>∃σ' H',Inv X pins σ' H' s'/\Q σ' H') X.xe s
def iq(X:Cx)(ts:List Expr)(t:eu):Prop:=
 ∀(pins:List (Addr×Obj)) (s:Shared) (σ:St) (H:Hp) (vs:List V) (us:List Value) (Q:St->Hp->Prop),Inv X pins σ H s->ay vs us->t vs σ H Q ->
  LV (LW X.prog X.w) X.A (assignInOrder ((Ma ts X.env).map (·.2)) us) (λ_ s'=>∃σ' H',Inv X pins σ' H' s'/\Q σ' H') X.xe s
abbrev mK:=V->V->V->Hp->(Hp->Prop)->Prop
def mJ(X:Cx)(t:mK):Prop:=
 ∀(pins:List (Addr×Obj)) (s:Shared) (σ:St) (H:Hp) (o i v:V) (ov iv u:Value) (Q:Hp->Prop),Inv X pins σ H s->RelV o ov->RelV i iv->RelV v u->t o i v H Q ->
  LV (LW X.prog X.w) X.A (setItem ov iv u) (λ_ s'=>∃H',Inv X pins σ H' s'/\Q H') X.xe s
abbrev l8:=V->V->Hp->VK->Prop
def l9(X:Cx)(op:Mb)(t:l8):Prop:=
 ∀(pins:List (Addr×Obj)) (s:Shared) (σ:St) (H:Hp) (x y:V) (v u:Value) (Q:VK),Inv X pins σ H s->RelV x v->RelV y u->t x y H Q ->
  LV (LW X.prog X.w) X.A (inplaceOp op v u) (EP X pins σ Q) X.xe s
section
variable{X:Cx}{pos:Pos}
def xp(i:Nat):TG:=λv σ H Q=>Q (σ.set i (some v)) H
def xb (hN:X.N.Nodup)(hi:X.N[i]?=some x)(hx:Loc X.env.scope x)(hf:X.fn x=true\/X.env.scope.names.lookup x=some .local:=by first|exact .inl rfl|exact .inr rfl|assumption):PG X (.Name x pos) (xp i):=by
 intro pins s σ H v u Q I r h;exact wpAny_assign_Name (v5 I hN hi hx r (λs' I'=>⟨_,H,I',h⟩) hf)
def fX:eu:=λvs σ H Q=>vs=[]/\Q σ H
def wD(t:TG)(u:eu):eu:=λvs σ H Q=>∃v r,vs=v::r/\t v σ H λσ' H'=>u r σ' H' Q
def jq:iq X [] fX:=by
 intro pins s σ H vs us Q I r h;obtain⟨e,h⟩:=h;subst e;cases r;exact assignInOrder_nil ⟨σ,H,I,h⟩
def xc (h1:PG X e t)(h2:iq X es u)(hs:(Ma (e::es) X.env).map (·.2)=assign e X.env::(Ma es X.env).map (·.2):=by rfl):iq X (e::es) (wD t u):=by
 intro pins s σ H vs us Q I r h;obtain⟨v,vr,e1,h⟩:=h;subst e1;cases r with
 |cons r rr=>
  rw[hs];refine assignInOrder_cons (aZ (h1 pins s σ H _ _ _ I r h) λ_ s1 ⟨σ1,H1,I1,q1⟩=>?_);exact h2 pins s1 σ1 H1 _ _ Q I1 rr q1
def iD(K:Qb)(n:Nat)(t:eu):TG:=λv σ H Q=>∃a xs,v=.ref a/\cb K H a xs/\xs.length=n/\t xs σ H Q
def qg (hc:X.calm=true)(h:iq X es t)(hn:(Ma es X.env).length=n:=by rfl)(hst:(Ma es X.env).findIdx? (·.1)=none:=by rfl):PG X (.Tuple es k pos) (iD X.K n t):=by
 intro pins s σ H v u Q I r hw;obtain⟨a,xs,e1,hq,hl,hw⟩:=hw;subst e1;cases r;obtain⟨its,rv,ht,hz⟩:=I.tuple hq;refine assign_Tuple_tuple (I.ok.hd hc) ht (by simp[hn,<-hl,rv.length]) hst λh' hx=>?_;have I1:Inv X pins σ H {s with heap:=h' }:=I.kept (t':=s.toks) λb o e=>hx b o (QM (Ql e)) e;exact h pins _ σ H xs _ Q I1 (by simpa using rv) hw
def oU(to ti:TE)(t:mK):TG:=λv σ H Q=>to σ H λo H1=>ti σ H1 λi H2=>t o i v H2 λH3=>Q σ H3
def tf (ho:PE X o to)(hi:PE X i ti)(hs:mJ X t)(ha:∀v,assign (.Subscript o i pos) X.env v=(do
   let ov <-holding [v] (eval o X.env)
   let iv <-holding [v,ov] (eval i X.env)
   standAt pos
   holding [v,ov,iv] (setItem ov iv v)
   release [v,ov,iv] []):=by intro _;rfl):PG X (.Subscript o i pos) (oU to ti t):=by
 intro pins s σ H v u Q I r h;rw[ha];refine Mc (Md (aZ (ho pins s σ H _ I h) λov s1 ⟨x,H1,I1,r1,q1⟩=>?_));refine Mc (Md (aZ (hi pins s1 σ H1 _ I1 q1) λiv s2 ⟨y,H2,I2,r2,q2⟩=>?_));refine Mc (Mf (Mc (Md (aZ (hs pins s2 σ H2 x y v ov iv u _ I2 r1 r2 r q2) λ_ s3 ⟨H3,I3,q3⟩=>?_))));exact wpAny_release ⟨σ,H3,I3,q3⟩
def fW(te:TE)(g:TG):TS:=λD σ H=>te σ H λx H1=>g x σ H1 D.nx
def qh (he:PE X e te)(hg:PG X tg g)(hs:swapsWithSole [tg] e pos.line X.env=pure false:=by rfl)(hw:swappedStores [tg] e X.env=pure none:=by rfl)(h1:(Ma [tg] X.env).map (·.2)=[assign tg X.env]:=by rfl):PS X (.Assign [tg] e pos) (fW te g):=by
 intro pins s σ H D I h;refine wpAny_Assign_stores (aZ (he pins s σ H _ I h) λv s1 ⟨x,H1,I1,r1,q1⟩=>?_) hs hw;rw[h1];exact aZ (hg pins s1 σ H1 x v _ I1 r1 q1) λ_ s2 q=>q
def nr (hN:X.N.Nodup)(hi:X.N[i]?=some x)(hx:Loc X.env.scope x)(he:PE X e te)(hs:L8 e (some (.Name x pos')) pos.line X.env=pure false:=by rfl)(hf:X.fn x=true\/X.env.scope.names.lookup x=some .local:=by first|exact .inl rfl|exact .inr rfl|assumption):
  PS X (.Assign [.Name x pos'] e pos) (fW te (xp i)):=by
 intro pins s σ H D I h;refine wpAny_Assign_Name (aZ (he pins s σ H _ I h) λv s1 ⟨y,H1,I1,r1,q1⟩=>?_) hs;exact v5 I1 hN hi hx r1 (λs2 I2=>⟨_,H1,I2,q1⟩) hf
def ou(i:Nat)(te:TE)(ti:l8):TS:=λD σ H=>∃x,σ[i]?=some (some x)/\te σ H λy H1=>ti x y H1 λz H2=>D.nx (σ.set i (some z)) H2
def Ed (hN:X.N.Nodup)(hi:X.N[i]?=some x)(hx:Loc X.env.scope x)(he:PE X e te)(ho:l9 X op ti)(hf:X.fn x=true\/X.env.scope.names.lookup x=some .local:=by first|exact .inl rfl|exact .inr rfl|assumption):
  PS X (.AugAssign (.Name x pos') op e pos) (ou i te ti):=by
 intro pins s σ H D I h;obtain⟨v,e1,h⟩:=h;obtain⟨m,hn,hl⟩:=I.loc;have vis:io X.env.scope x:=by rcases hx with k|k;exact .inl k;exact .inr (.inl k)
 obtain⟨u,r,l⟩:=hl i x v hi e1 vis;refine wpAny_AugAssign_Name ?_;have go:LV (LW X.prog X.w) X.A (eval e X.env) (λw s₂=>LV (LW X.prog X.w) X.A (inplaceOp op u w) (λr s₃=>LV (LW X.prog X.w) X.A (storeName X.env x r) (λ_=>SP X pins D .next) X.xe s₃) X.xe s₂) X.xe s:=by
  refine aZ (he pins s σ H _ I h) λw s1 ⟨y,H1,I1,r1,q1⟩=>?_;refine aZ (ho pins s1 σ H1 v y u w _ I1 r r1 q1) λz s2 ⟨zv,H2,I2,r2,q2⟩=>?_;exact v5 I2 hN hi hx r2 (λs3 I3=>⟨_,H2,I3,q2⟩) hf
 rcases l with⟨hk,hm⟩|⟨hk,c,hc,hcell⟩
 .exact L3 I.ok.kind hk hn hm go
 .rcases hk with hk|hk
  .exact L4 I.ok.kind hk hc hcell go
  .rcases hx with k|k
   .have:X.env.scope.names.lookup x=some .free:=hk;rw[k]at this;cases this
   .have:X.env.scope.names.lookup x=some .free:=hk;rw[k]at this;cases this
def lP(f:Int->Int->Int):l8:=λx y H Q=>∃i j,x=.int i/\y=.int j/\Q (.int (f i j)) H
def Ec:l9 X .Add (lP λi j=>i+j):=by
 intro pins s σ H x y v u Q I r1 r2 h;obtain⟨i,j,e1,e2,q⟩:=h;subst e1;subst e2;obtain⟨t,rfl⟩:=r1;obtain⟨t',rfl⟩:=r2;exact iadd_int ⟨.int _,H,I.tok _,⟨_,rfl⟩,q⟩
def Eb:l9 X .Sub (lP λi j=>i-j):=by
 intro pins s σ H x y v u Q I r1 r2 h;obtain⟨i,j,e1,e2,q⟩:=h;subst e1;subst e2;obtain⟨t,rfl⟩:=r1;obtain⟨t',rfl⟩:=r2;exact isub_int ⟨.int _,H,I.tok _,⟨_,rfl⟩,q⟩
end
section
variable{X:Cx}{pos:Pos}
def sZ(c:TT)(tb:TS):TS:=λD σ H=>∃W:Nat->St->Hp->Prop,(∃m,W m σ H)/\∀m σ H,W m σ H ->
 c σ H λb H1=>if b=true then ∃N:St->Hp->Prop,(∀σ' H',N σ' H'->∃m',m'<m/\W m' σ' H')/\tb {D with nx:=N,ct:=N,bk:=D.nx} σ H1 else D.nx σ H1
def He (hp:PassesOwn (LW X.prog X.w) X.A X.env X.xe)(hc:PT X c tc)(hb:cv X body tb):PS X (.While c body [] pos) (sZ tc tb):=by
 intro pins s σ H D I h;obtain⟨W,⟨m0,w0⟩,turn⟩:=h;refine wpAny_While (codeAny_whileLoop (λn s'=>∃σ' H',Inv X pins σ' H' s'/\W n σ' H') ?_ m0 ⟨σ,H,I,w0⟩);rintro n s1 ⟨σ1,H1,I1,w1⟩;refine Mg hp (aZ (hc pins s1 σ1 H1 _ I1 (turn n σ1 H1 w1)) λb s2 ⟨H2,I2,q2⟩=>?_);cases b with
 |true=>
  obtain⟨N,hN,q2⟩:=q2;rw[Nj rfl];refine Mg hp (aZ (hb pins s2 σ1 H2 _ I2 q2) λf s3 q3=>?_);cases f with
  |next=>
   obtain⟨σ3,H3,I3,n3⟩:=q3;obtain⟨m',hm,w3⟩:=hN σ3 H3 n3;exact⟨m',hm,σ3,H3,I3,w3⟩
  |cont=>
   obtain⟨σ3,H3,I3,n3⟩:=q3;obtain⟨m',hm,w3⟩:=hN σ3 H3 n3;exact⟨m',hm,σ3,H3,I3,w3⟩
  |brk=>exact q3
  |ret v=>exact q3
 |false=>
  rw[Nk QQ];exact L6 ⟨σ1,H2,I2,q2⟩
end
set_option genInjectivity false in
structure It where
 go:Nat->Hp->Prop
 yld:Nat->Hp->V->Hp->Prop
 stop:Nat->Hp->Prop
def jk(X:Cx)(pins:List (Addr×Obj))(H:Hp)(b:Addr):Prop:=
 H b=none/\b≠X.env.locals/\b∉X.fs/\(b∈X.ex\/X.s₀.heap.objs.size<=b)/\(∀x c,X.env.cells.lookup x=some c->c≠b)/\∀p∈X.pn++pins,p.1≠b
def Inv.fpOk (I:Inv X pins σ H s)(hb:s.heap.objs.size<=b)(hn:H' b=none):jk X pins H' b:=by
 refine⟨hn,WQ (Qf I.lt hb),I.nofs hb,.inr (Qu I.sz hb),λx c e z=>?_,λp hp z=>?_⟩
 .obtain ⟨v,q⟩:=I.cell x c e;exact Nl (Qf q.lt (by rw[z];exact hb)) (Q9 _)
 .exact Nl (Qf (Ql (I.pin p hp).1) (by rw[z];exact hb)) (Q9 _)
structure dB(P:LF)(w:LG)(K:Qb)(tg:Expr)(J:It)(fp:List Addr)(it:Addr)(tn:Nat->LK->Prop):Prop where
 mem:it∈fp
 obj:∀i h,tn i h->∀b∈fp,∃o,h.get? b=some o/\∀v,o.data≠.cell v
 keep:∀i h h',tn i h->(∀b∈fp,∀o,h.get? b=some o->h'.get? b=some o)->tn i h'
 item:∀(X:Cx),X.prog=P->X.w=w->X.K=K->X.calm=true->∀(i:Nat) (pins:List (Addr×Obj)) (s:Shared) (σ:St) (H:Hp) (E:Value->Shared->Prop),Inv X pins σ H s->(∀b∈fp,jk X pins H b)->tn i s.heap->J.go i H ->
  LV (LW P w) X.A (pyNext (.ref it)) (λr s1=>∃u,r=some u /\
   LV (LW P w) X.A (Mh tg (.ref it) u) (λ_ s2=>∃x H',Inv X pins σ H' s2/\RelV x u/\J.yld i H x H'/\tn (i+1) s2.heap/\∀b∈fp,H' b=none) E s1) E s
 done:∀(X:Cx),X.prog=P->X.w=w->X.K=K->X.calm=true->∀(i:Nat) (pins:List (Addr×Obj)) (s:Shared) (σ:St) (H:Hp) (E:Value->Shared->Prop),Inv X pins σ H s->(∀b∈fp,jk X pins H b)->tn i s.heap->J.stop i H ->
  LV (LW P w) X.A (pyNext (.ref it)) (λr s1=>r=none/\Inv X pins σ H s1) E s
 self:∀(A:LQ) (i:Nat) (s:Shared) (Q:Value->Shared->Prop) (E:Value->Shared->Prop),tn i s.heap->Q (.ref it) s->LV (LW P w) A (pyIter (.ref it)) Q E s
abbrev TI:=St->Hp->(It->Hp->Prop)->Prop
def Bt(X:Cx)(pins:List (Addr×Obj))(σ:St)(tg:Expr)(R:It->Hp->Prop)(itv:Value)(s2:Shared):Prop:=
 ∃(it:Addr) (fp:List Addr) (tn:Nat->LK->Prop) (J:It) (H':Hp),itv=.ref it/\Inv X pins σ H' s2/\dB X.prog X.w X.K tg J fp it tn/\tn 0 s2.heap/\(∀b∈fp,jk X pins H' b)/\R J H'
def PI(X:Cx)(tg iter:Expr)(wi:TI):Prop:=
 ∀(pins:List (Addr×Obj)) (s:Shared) (σ:St) (H:Hp) (R:It->Hp->Prop),Inv X pins σ H s->wi σ H R ->
  LV (LW X.prog X.w) X.A (eval iter X.env) (λv s1=>LV (LW X.prog X.w) X.A (pyIter v) (Bt X pins σ tg R) X.xe s1) X.xe s
def lA (ho:s.heap.get? it=some o)(hc:o.cls=.type n)(hd:o.data=.fields vs)(hn:["enumerate","zip","dict_itemiterator","dict_reverseitemiterator","odict_iterator","itertools.zip_longest","itertools.pairwise"].contains n=false)(hQ:Q () s):LV M A (Mh tg (.ref it) u) Q E s:=by
 unfold Mh;cases tg<;>first
  |exact Mi hQ
  | (cases u <;> first
    |exact Mi hQ
    | (refine Mc (wpAny_load ho ?_)
       rw[hc,hd];show LV M A (if(["enumerate","zip","dict_itemiterator","dict_reverseitemiterator","odict_iterator","itertools.zip_longest","itertools.pairwise"].contains n&&vs[0]?==some (rawInt _))=true then _ else _) Q E s;rw[Nk (by intro h;rw[hn,Bool.false_and]at h;cases h)];exact Mi hQ))
def pH(K:Qb)(a:Addr):It:=
 ⟨λi H=>∃xs x,bj K H a xs/\xs[i]?=some x,λi H x H'=>H'=H/\∀xs,bj K H a xs->xs[i]?=some x,λi H=>∃xs,bj K H a xs/\xs.length<=i⟩
def Bu(K:Qb)(a:Addr):It:=
 ⟨λi H=>∃xs x,cb K H a xs/\xs[i]?=some x,λi H x H'=>H'=H/\∀xs,cb K H a xs->xs[i]?=some x,λi H=>∃xs,cb K H a xs/\xs.length<=i⟩
def i5(lo:Int)(n:Nat):It:=⟨λi _=>i<n,λi H x H'=>H'=H/\x=.int (lo+i),λi _=>n<=i⟩
def IK {K:Qb}(a it:Addr):dB P w K tg (pH K a) [it] it (λi h=>h.IsListIter it a i) where
 mem:=by simp
 obj:=λi h st b hb=>by
  have e:b=it:=by simpa using hb
  subst e;obtain⟨o,e,c,d⟩:=st;exact⟨o,e,λv z=>by rw[d]at z;cases z⟩
 keep:=λi h h' st k=>st.at λo e=>k it (by simp) o e
 item:=by
  intro X hP hw hK hc i pins s σ H E I hf st hg;subst hP hw hK;obtain⟨xs,x,hq,hx⟩:=hg;obtain⟨its,rv,p,hz⟩:=I.list hq;obtain⟨u,hu,ru⟩:=rv.get hx;obtain⟨f0,f1,f2,f3,f4,f5⟩:=hf it (by simp);refine Mj st p.isList (x:=u) (by simpa using hu) λh' st' sb=>?_;have I1:Inv X pins σ H {s with heap:=h' }:=I.turned (t':=s.toks) (λb o hb e=>(sb.2 b hb).trans e) f0 f1 f3 f4 f5;obtain⟨o,e,c,d⟩:=id st';exact⟨u,rfl,lA (s:={s with heap:=h' }) e c d (by decide) ⟨x,H,I1,ru,⟨rfl,λys hy=>by rw[I.list_inj hy hq];exact hx⟩,st',λb hb=>(hf b hb).1⟩⟩
 done:=by
  intro X hP hw hK hc i pins s σ H E I hf st hg;subst hP hw hK;obtain⟨xs,hq,hx⟩:=hg;obtain⟨its,rv,p,hz⟩:=I.list hq;obtain⟨f0,f1,f2,f3,f4,f5⟩:=hf it (by simp);have hl:=rv.length;exact Mk (I.ok.hd hc) st p.isList (by simp;lia) λh' eb=>⟨rfl,I.turned (t':=s.toks) (λb o hb e=>eb b o hb e) f0 f1 f3 f4 f5⟩
 self:=λ_ _ _ _ _ st h=>wpAny_pyIter_listiter st h
def IZ {K:Qb}(a it:Addr):dB P w K tg (Bu K a) [it] it (λi h=>h.IsTupleIter it a i) where
 mem:=by simp
 obj:=λi h st b hb=>by
  have e:b=it:=by simpa using hb
  subst e;obtain⟨o,e,c,d⟩:=st;exact⟨o,e,λv z=>by rw[d]at z;cases z⟩
 keep:=λi h h' st k=>st.at λo e=>k it (by simp) o e
 item:=by
  intro X hP hw hK hc i pins s σ H E I hf st hg;subst hP hw hK;obtain⟨xs,x,hq,hx⟩:=hg;obtain⟨its,rv,p,hz⟩:=I.tuple hq;obtain⟨u,hu,ru⟩:=rv.get hx;obtain⟨f0,f1,f2,f3,f4,f5⟩:=hf it (by simp);refine wpAny_pyNext_tuple_item st (show s.heap.IsTuple a its.toArray from p) (x:=u) (by simpa using hu) λh' st' sb=>?_;have I1:Inv X pins σ H {s with heap:=h' }:=I.turned (t':=s.toks) (λb o hb e=>(sb.2 b hb).trans e) f0 f1 f3 f4 f5;obtain⟨o,e,c,d⟩:=id st';exact⟨u,rfl,lA (s:={s with heap:=h' }) e c d (by decide) ⟨x,H,I1,ru,⟨rfl,λys hy=>by rw[I.tuple_inj hy hq];exact hx⟩,st',λb hb=>(hf b hb).1⟩⟩
 done:=by
  intro X hP hw hK hc i pins s σ H E I hf st hg;subst hP hw hK;obtain⟨xs,hq,hx⟩:=hg;obtain⟨its,rv,p,hz⟩:=I.tuple hq;obtain⟨f0,f1,f2,f3,f4,f5⟩:=hf it (by simp);have hl:=rv.length;exact wpAny_pyNext_tuple_end (I.ok.hd hc) st (show s.heap.IsTuple a its.toArray from p) (by simp;lia) λh' eb=>⟨rfl,I.turned (t':=s.toks) (λb o hb e=>eb b o hb e) f0 f1 f3 f4 f5⟩
 self:=λ_ _ _ _ _ st h=>wpAny_pyIter_tupleiter st h
def IY {K:Qb}(it:Addr)(lo:Int)(n:Nat):dB P w K tg (i5 lo n) [it] it (λi h=>IsRangeIter h it (lo+(i:Nat)*1) ((n:Int)-(i:Nat)) 1) where
 mem:=by simp
 obj:=λi h st b hb=>by
  have e:b=it:=by simpa using hb
  subst e;exact⟨_,st,λv z=>by
   have z':Data.fields _=Data.cell v:=z;cases z'⟩
 keep:=λi h h' st k=>k it (by simp) _ st
 item:=by
  intro X hP hw hK hc i pins s σ H E I hf st hg;subst hP hw hK;obtain⟨f0,f1,f2,f3,f4,f5⟩:=hf it (by simp);have W:=Walks.range (prog:=X.prog) (w:=X.w) (I.ok.hd hc) it lo 1 n;refine W.item i s _ _ hg st λv h' tk hv st' kk=>?_;obtain⟨t,rfl⟩:=hv;have I1:Inv X pins σ H {s with heap:=h',toks:=tk}:=I.turned (λb o hb e=>kk b o (by simpa using hb) e) f0 f1 f3 f4 f5;refine⟨_,rfl,lA (s:={s with heap:=h',toks:=tk}) (n:="range_iterator") st' rfl rfl (by decide) ⟨.int (lo+i),H,I1,⟨t,?_⟩,⟨rfl,rfl⟩,st',λb hb=>(hf b hb).1⟩⟩;rw[Int.mul_one]
 done:=by
  intro X hP hw hK hc i pins s σ H E I hf st hg;subst hP hw hK;obtain⟨f0,f1,f2,f3,f4,f5⟩:=hf it (by simp);exact wpAny_pyNext_range_end (I.ok.hd hc) st (by have:n<=i:=hg;lia) λh' eb=>⟨rfl,I.turned (t':=s.toks) (λb o hb e=>eb b o hb e) f0 f1 f3 f4 f5⟩
 self:=λ_ _ _ _ _ st h=>wpAny_pyIter_rangeiter st h
section
variable{X:Cx}{tg:Expr}
def Cn(K:Qb)(tl:TE):TI:=λσ H R=>tl σ H λx H1=>∃a,x=.ref a/\(∃xs,bj K H1 a xs)/\R (pH K a) H1
def oT(K:Qb)(tl:TE):TI:=λσ H R=>tl σ H λx H1=>∃a,x=.ref a/\(∃xs,cb K H1 a xs)/\R (Bu K a) H1
def FZ (hl:PE X l tl):PI X tg l (Cn X.K tl):=by
 intro pins s σ H R I h;refine aZ (hl pins s σ H _ I h) λv s1 ⟨x,H1,I1,r1,q1⟩=>?_;obtain⟨a,e,⟨xs,hq⟩,q⟩:=q1;subst e;cases r1;obtain⟨its,rv,p,hz⟩:=I1.list hq;refine Ml p.isList ?_;refine⟨s1.heap.objs.size,[s1.heap.objs.size],_,_,H1,rfl,I1.kept (t':=s1.toks) λb o e=>Qq _ e,IK a _,⟨_,QR _ rfl,rfl,rfl⟩,λb hb=>?_,q⟩;have e:b=s1.heap.objs.size:=by simpa using hb
 subst e;exact I1.fpOk (Qk _) (I1.hok.fresh (Qk _))
def Ea (hl:PE X l tl):PI X tg l (oT X.K tl):=by
 intro pins s σ H R I h;refine aZ (hl pins s σ H _ I h) λv s1 ⟨x,H1,I1,r1,q1⟩=>?_;obtain⟨a,e,⟨xs,hq⟩,q⟩:=q1;subst e;cases r1;obtain⟨its,rv,p,hz⟩:=I1.tuple hq;refine wpAny_pyIter_tuple (show s1.heap.IsTuple a its.toArray from p) ?_;refine⟨s1.heap.objs.size,[s1.heap.objs.size],_,_,H1,rfl,I1.kept (t':=s1.toks) λb o e=>Qq _ e,IZ a _,⟨_,QR _ rfl,rfl,rfl⟩,λb hb=>?_,q⟩;have e:b=s1.heap.objs.size:=by simpa using hb
 subst e;exact I1.fpOk (Qk _) (I1.hok.fresh (Qk _))
def Hd {lo:Int}(I:Inv X pins σ H s)(h1:-(2^62)<=lo)(h2:lo<2^62)(h3:-(2^62)<=hi)(h4:hi<2^62)(q:R (i5 lo (hi-lo).toNat) H):LV (LW X.prog X.w) X.A (pyIter (.ref s.heap.objs.size)) (Bt X pins σ tg R) E {s with heap:=s.heap.push {cls:=.type "range",data:=.fields #[.int lo t,.int hi u,.int 1 v]},toks:=tk}:=by
 refine wpAny_pyIter_range (IsRange.new ..) (small_one h1 h2 h3 h4) ?_;have I1:Inv X pins σ H {s with heap:=s.heap.push {cls:=.type "range",data:=.fields #[.int lo t,.int hi u,.int 1 v]},toks:=tk}:=I.kept λb o e=>Qq _ e;refine⟨(s.heap.push {cls:=.type "range",data:=.fields #[.int lo t,.int hi u,.int 1 v]}).objs.size,[(s.heap.push {cls:=.type "range",data:=.fields #[.int lo t,.int hi u,.int 1 v]}).objs.size],_,_,H,rfl,
  I1.kept (t':=tk) λb o e=>Qq _ e,IY _ lo (hi-lo).toNat,?_,λb hb=>?_,q⟩
 .have e1:lo+((0:Nat):Int)*1=lo:=by simp
  have e2:(((hi-lo).toNat:Nat):Int)-((0:Nat):Int)=Builtin.Range.rangeSize lo hi 1:=by rw[rangeSize_one];split<;>lia
  show IsRangeIter _ _ (lo+((0:Nat):Int)*1) ((((hi-lo).toNat:Nat):Int)-((0:Nat):Int)) 1;rw[e1,e2];exact QR _ rfl
 .have e:b=(s.heap.push {cls:=.type "range",data:=.fields #[.int lo t,.int hi u,.int 1 v]}).objs.size:=by simpa using hb
  subst e;exact I1.fpOk (Qk _) (I1.hok.fresh (Qk _))
def Cm(ta:TA):TI:=λσ H R=>ta σ H λvs H1=>∃j:Int,vs=[.int j]/\-(2^62)<=j/\j<2^62/\R (i5 0 j.toNat) H1
def IJ (hg:Gl X "range")(hm:X.mg "range"=none)(ha:PA X [a] ta)(hs:LY [a] X.env=[(false,eval a X.env)]:=by rfl):PI X tg (.Call (.Name "range" p) [a] [] pos) (Cm ta):=by
 intro pins s σ H R I h;refine Call_ (wW I hg hm boot_range (PyProof.Rows.callWith_type1 (aZ (ha pos pins s σ H _ I h) λus s1 ⟨vs,H1,I1,r1,q1⟩=>?_) hs rfl));obtain⟨j,e,q1,q2,q⟩:=q1;subst e;cases r1 with
 |cons r rr=>
  cases rr;obtain⟨t,rfl⟩:=r;exact call_range_1 (Hd I1 (by lia) (by lia) q1 q2 (by simpa using q))
def rN(wi:TI)(g:TG)(tb:TS):TS:=λD σ H=>wi σ H λJ H1=>∃W:Nat->Nat->St->Hp->Prop,(∃m,W 0 m σ H1)/\∀i m σ H,W i m σ H ->
 (J.stop i H/\D.nx σ H)\/(J.go i H/\∃N:St->Hp->Prop,(∀σ' H',N σ' H'->∃m',m'<m/\W (i+1) m' σ' H')/\∀x H',J.yld i H x H'->g x σ H' λσ2 H2=>tb {D with nx:=N,ct:=N,bk:=D.nx} σ2 H2)
def jA(fp:List Addr)(h:LK):List (Addr×Obj):=fp.filterMap λb=>(h.get? b).map λo=>(b,o)
def wJ (hb:b∈fp)(e:h.get? b=some o):(b,o)∈jA fp h:=WT.mpr ⟨b,hb,by rw[e];rfl⟩
def II (hp:p∈jA fp h):p.1∈fp/\h.get? p.1=some p.2:=by
 obtain⟨b,hb,e⟩:=WT.mp hp;cases q:h.get? b with
 |none=>rw[q]at e;cases e
 |some o=>
  rw[q]at e;have e':(b,o)=p:=Option.some.inj e;subst e';exact⟨hb,q⟩
def Inv.pinned{pins:List (Addr×Obj)}{σ:St}{H:Hp}{s:Shared}{fp:List Addr}(I:Inv X pins σ H s)(hf:∀b∈fp,jk X pins H b)(ho:∀b∈fp,∃o,s.heap.get? b=some o/\∀v,o.data≠.cell v):Inv X (pins++jA fp s.heap) σ H s:=
 I.pins_of λp hp=>(QL.mp hp).elim (λz=>I.pin p (Qs _ z)) λz=>by
  obtain⟨hb,e⟩:=II z;obtain⟨f0,f1,f2,_⟩:=hf p.1 hb;obtain⟨o,e',d⟩:=ho p.1 hb;rw[e]at e';cases e';exact⟨e,f0,f1,f2,d⟩
def Inv.unpinned{pins pl:List (Addr×Obj)}{σ:St}{H:Hp}{s:Shared}(I:Inv X (pins++pl) σ H s):Inv X pins σ H s:=I.pins_of λp hp=>I.pin p (Qs _ (QS _ hp))
def sY (hp:PassesOwn (LW X.prog X.w) X.A X.env X.xe)(hc:X.calm=true)(hi:PI X tg iter wi)(hg:PG X tg g)(hb:cv X body tb)(hs:∀x,Mm iter X.env x=pure x:=by intro _;rfl):PS X (.For tg iter body [] pos) (rN wi g tb):=by
 intro pins s σ H D I h;refine wpAny_For (aZ (hi pins s σ H _ I h) λv s1 h1=>aZ h1 λitv s2 h2=>?_) hs;obtain⟨it,fp,tn,J,H2,e,I2,T,dw,f2,W,⟨m0,w0⟩,turn⟩:=h2;subst e
 -- what stays true of the iterator's objects through the loop
 have stat:∀{H':Hp},(∀b∈fp,H' b=none)->∀b∈fp,jk X pins H' b:=λhn b hb=>⟨hn b hb,(f2 b hb).2⟩;refine codeAny_forLoop_any (λn s'=>∃i σ' H',Inv X pins σ' H' s'/\tn i s'.heap/\(∀b∈fp,H' b=none)/\W i n σ' H') ?_ m0 ⟨0,σ,H2,I2,dw,λb hb=>(f2 b hb).1,w0⟩;rintro n s3 ⟨i,σ3,H3,I3,dL,fr3,w3⟩;rcases turn i n σ3 H3 w3 with⟨stop,qn⟩|⟨go,N,hN,step⟩
 .refine Mg hp (aZ (T.done X rfl rfl rfl hc i pins s3 σ3 H3 X.xe I3 (stat fr3) dL stop) λr s4 ⟨hr,I4⟩=>?_);subst hr;exact L6 ⟨σ3,H3,I4,qn⟩
 .refine Mg hp (aZ (T.item X rfl rfl rfl hc i pins s3 σ3 H3 X.xe I3 (stat fr3) dL go) λr s4 ⟨u,hr,h4⟩=>?_);subst hr;refine Mg hp (aZ h4 λ_ s5 ⟨x,H5,I5,r5,y5,st5,fr5⟩=>?_);have I5':=I5.pinned (stat fr5) (T.obj _ _ st5);refine Mg hp (aZ (hg _ s5 σ3 H5 x u _ I5' r5 (step x H5 y5)) λ_ s6 ⟨σ6,H6,I6,q6⟩=>?_);refine Mg hp (aZ (hb _ s6 σ6 H6 _ I6 q6) λf s7 q7=>?_);have again:∀{σ7:St}{H7:Hp},Inv X (pins++jA fp s5.heap) σ7 H7 s7->N σ7 H7->∃m,m<n/\∃i σ' H',Inv X pins σ' H' s7/\tn i s7.heap/\(∀b∈fp,H' b=none)/\W i m σ' H':=λ{σ7 H7} I7 n7=>by
   obtain⟨m',hm,w7⟩:=hN σ7 H7 n7;refine⟨m',hm,i+1,σ7,H7,I7.unpinned,T.keep _ _ _ st5 λb hb o e=>(I7.pin (b,o) (Qs _ (Qs _ (wJ hb e)))).1,λb hb=>?_,w7⟩;obtain⟨o,e,d⟩:=T.obj _ _ st5 b hb;exact(I7.pin (b,o) (Qs _ (Qs _ (wJ hb e)))).2.1
  cases f with
  |next=>obtain⟨σ7,H7,I7,n7⟩:=q7;exact again I7 n7
  |cont=>obtain⟨σ7,H7,I7,n7⟩:=q7;exact again I7 n7
  |brk=>obtain⟨σ7,H7,I7,q7⟩:=q7;exact⟨σ7,H7,I7.unpinned,q7⟩
  |ret v=>obtain⟨x7,σ7,H7,I7,r7,q7⟩:=q7;exact⟨x7,σ7,H7,I7.unpinned,r7,q7⟩
end
abbrev R2:=V->V->Hp->VK->Prop
def cr(X:Cx)(f:Value->Value->Sem Value)(r:R2):Prop:=
 ∀(pins:List (Addr×Obj)) (s:Shared) (σ:St) (H:Hp) (x y:V) (v u:Value) (Q:VK),Inv X pins σ H s->RelV x v->RelV y u->r x y H Q ->
  LV (LW X.prog X.w) X.A (f v u) (EP X pins σ Q) X.xe s
def pD(X:Cx)(f:Value->Sem Value)(r:V->Hp->VK->Prop):Prop:=
 ∀(pins:List (Addr×Obj)) (s:Shared) (σ:St) (H:Hp) (x:V) (v:Value) (Q:VK),Inv X pins σ H s->RelV x v->r x H Q ->
  LV (LW X.prog X.w) X.A (f v) (EP X pins σ Q) X.xe s
def bG(X:Cx)(f:Value)(r:List V->Hp->VK->Prop):Prop:=
 ∀(pins:List (Addr×Obj)) (s:Shared) (σ:St) (H:Hp) (xs:List V) (us:List Value) (Q:VK),Inv X pins σ H s->ay xs us->r xs H Q ->
  LV (LW X.prog X.w) X.A (call f us) (EP X pins σ Q) X.xe s
def eL(r:R2)(ta tb:TE):TE:=λσ H Q=>ta σ H λx H1=>tb σ H1 λy H2=>r x y H2 Q
def JB(r:V->Hp->VK->Prop)(ta:TE):TE:=λσ H Q=>ta σ H λx H1=>r x H1 Q
def rI(C:Int->Int->Prop)(g:Int->Int->V):R2:=λx y H Q=>∃i j,x=.int i/\y=.int j/\C i j/\Q (g i j) H
def eD(g:Int->Int->V):R2:=λx y H Q=>∃i j,x=.int i/\y=.int j/\Q (g i j) H
def rU(g:Int->V):V->Hp->VK->Prop:=λx H Q=>∃i,x=.int i/\Q (g i) H
section
variable{X:Cx}{a b:Expr}{ta tb:TE}{pos:Pos}
def mM (ha:PE X a ta)(hb:PE X b tb){R:V->V->Hp->Prop}(I:Inv X pins σ H s)(h:ta σ H λx H1=>tb σ H1 λy H2=>R x y H2){f:Value->Value->Sem Value}(hf:∀v u s2 x y H2,Inv X pins σ H2 s2->RelV x v->RelV y u->R x y H2->LV (LW X.prog X.w) X.A (f v u) Q X.xe s2):
  LV (LW X.prog X.w) X.A (eval a X.env) (λv s₁=>LV (LW X.prog X.w) X.A (eval b X.env) (λu s₂=>LV (LW X.prog X.w) X.A (f v u) Q X.xe s₂) X.xe s₁) X.xe s:=by
 refine aZ (ha pins s σ H _ I h) λv s1 ⟨x,H1,I1,r1,q1⟩=>?_;refine aZ (hb pins s1 σ H1 _ I1 q1) λu s2 ⟨y,H2,I2,r2,q2⟩=>?_;exact hf v u s2 x y H2 I2 r1 r2 q2
def Ck (ho:cr X (Mn op) r)(ha:PE X a ta)(hb:PE X b tb):PE X (.BinOp a op b pos) (eL r ta tb):=by
 intro pins s σ H Q I h;exact wpAny_BinOp (mM ha hb I h λv u s2 x y H2 I2 rx ry q=>ho pins s2 σ H2 x y v u Q I2 rx ry q)
def CJ (ho:pD X (unaryOp op) r)(ha:PE X a ta):PE X (.UnaryOp op a pos) (JB r ta):=by
 intro pins s σ H Q I h;exact UnaryOp_ (aZ (ha pins s σ H _ I h) λv s1 ⟨x,H1,I1,r1,q1⟩=>ho pins s1 σ H1 x v Q I1 r1 q1)
def iT {g:Int->Int->Int}(rule:∀(i j:Int) (t u:Tok) (s:Shared) (Q:Value->Shared->Prop) (E:Value->Shared->Prop),C i j->Q (.int (g i j) s.toks) {s with toks:=s.toks+1}->LV (LW X.prog X.w) X.A (f (.int i t) (.int j u)) Q E s):
  cr X f (rI C λi j=>.int (g i j)):=by
 intro pins s σ H x y v u Q I rx ry h;obtain⟨i,j,rfl,rfl,hc,q⟩:=h;obtain⟨t,rfl⟩:=rx;obtain⟨t',rfl⟩:=ry;exact rule i j t t' s _ _ hc ⟨.int (g i j),H,I.tok _,⟨_,rfl⟩,q⟩
def mL {g:Int->Int->Int}(rule:∀(i j:Int) (t u:Tok) (s:Shared) (Q:Value->Shared->Prop) (E:Value->Shared->Prop),Q (.int (g i j) s.toks) {s with toks:=s.toks+1}->LV (LW X.prog X.w) X.A (f (.int i t) (.int j u)) Q E s):
  cr X f (eD λi j=>.int (g i j)):=by
 intro pins s σ H x y v u Q I rx ry h;obtain⟨i,j,rfl,rfl,q⟩:=h;obtain⟨t,rfl⟩:=rx;obtain⟨t',rfl⟩:=ry;exact rule i j t t' s _ _ ⟨.int (g i j),H,I.tok _,⟨_,rfl⟩,q⟩
def rS {g:Int->Int->Bool}(rule:∀(i j:Int) (t u:Tok) (s:Shared) (Q:Value->Shared->Prop) (E:Value->Shared->Prop),Q (.bool (g i j)) s->LV (LW X.prog X.w) X.A (f (.int i t) (.int j u)) Q E s):
  cr X f (eD λi j=>.bl (g i j)):=by
 intro pins s σ H x y v u Q I rx ry h;obtain⟨i,j,rfl,rfl,q⟩:=h;obtain⟨t,rfl⟩:=rx;obtain⟨t',rfl⟩:=ry;exact rule i j t t' s _ _ ⟨.bl (g i j),H,I,rfl,q⟩
def rR(i j:Int):Prop:=0<j/\j<1073741824
def rQ(i j:Int):Prop:=0<=j/\j<=1000000/\i.natAbs<2^64
def eW(i j:Int):Prop:=(-(2^64)<i/\i<2^64)\/(-(2^64)<j/\j<2^64)
def eW.ok (h:eW i j):IntMulOk i j:=by
 rcases h with⟨h1,h2⟩|⟨h1,h2⟩
 .exact .of_left (intBits_le_64 h1 h2)
 .exact .of_right (intBits_le_64 h1 h2)
def IX(k:Nat):(0:Int)<=2^k:=by
 rw[two_pow_cast];exact Int.natCast_nonneg _
def fE:cr X (Mn .Add) (eD λi j=>.int (i+j)):=mL λ_ _ _ _ _ _ _ q=>add_int q
def D9:cr X (Mn .Sub) (eD λi j=>.int (i-j)):=mL λ_ _ _ _ _ _ _ q=>sub_int q
def fC:cr X (Mn .Mult) (rI eW λi j=>.int (i*j)):=iT λ_ _ _ _ _ _ _ hc q=>mul_int q hc.ok
def FY:cr X (Mn .FloorDiv) (rI rR λi j=>.int (i/j)):=iT λi j _ _ _ _ _ hc q=>by
 have h1:(0:Int)<j:=hc.1;have h2:j<1073741824:=hc.2;exact floordiv_int (by lia) (by rw[VB i (by lia)];exact q) (.inl (PyProof.noPylong_small (by lia)))
def D8:cr X (Mn .Mod) (rI (λ_ j=>0<j) λi j=>.int (i%j)):=iT λi j _ _ _ _ _ hc q=>by
 have h1:(0:Int)<j:=hc;exact mod_int' (by lia) (by rw[Int.fmod_eq_emod_of_nonneg i (by lia)];exact q)
def D7:cr X (Mn .Pow) (rI rQ λi j=>.int (i^j.toNat)):=iT λ_ _ _ _ _ _ _ hc q=>pow_int_small hc.1 hc.2.1 hc.2.2 q
def D6:cr X (Mn .RShift) (rI (λ_ j=>0<=j) λi j=>.int (i/2^j.toNat)):=iT λi j _ _ _ _ _ hc q=>
 rshift_int hc (by rw[VB i (IX _)];exact q)
def Da:cr X (Mn .BitAnd) (eD λi j=>.int (Builtin.bitAnd i j)):=mL λ_ _ _ _ _ _ _ q=>and_int q
def JA {g:Int->Int}(rule:∀(i:Int) (t:Tok) (s:Shared) (Q:Value->Shared->Prop) (E:Value->Shared->Prop),Q (.int (g i) s.toks) {s with toks:=s.toks+1}->LV (LW X.prog X.w) X.A (f (.int i t)) Q E s):
  pD X f (rU λi=>.int (g i)):=by
 intro pins s σ H x v Q I rx h;obtain⟨i,rfl,q⟩:=h;obtain⟨t,rfl⟩:=rx;exact rule i t s _ _ ⟨.int (g i),H,I.tok _,⟨_,rfl⟩,q⟩
def C9:pD X (unaryOp .USub) (rU λi=>.int (-i)):=JA λ_ _ _ _ _ q=>neg_int q
end
section
variable{X:Cx}{a b c:Expr}{ta tb tc:TE}{pos:Pos}
def sX (I:Inv X pins σ H s)(q:Q (.bl k) H)(e:k=k'):EP X pins σ Q (.bool k') s:=by
 subst e;exact⟨.bl k,H,I,rfl,q⟩
def CI:cr X (Mo .Lt) (eD λi j=>.bl (decide (i<j))):=rS λ_ _ _ _ _ _ _ q=>lt_int q
def CH:cr X (Mo .LtE) (eD λi j=>.bl (decide (i<=j))):=rS λ_ _ _ _ _ _ _ q=>le_int q
def C8:cr X (Mo .Is) (λx y H Q=>y=.non/\Q (.bl (decide (x=.non))) H):=by
 intro pins s σ H x y v u Q I rx ry h;obtain⟨rfl,q⟩:=h;cases ry;refine is_none_gen (sX I q ?_);cases x<;>first
  |(cases rx;rfl)
  |(obtain⟨t,rfl⟩:=rx;rfl)
def FX:cr X (Mo .IsNot) (λx y H Q=>y=.non/\Q (.bl (! decide (x=.non))) H):=by
 intro pins s σ H x y v u Q I rx ry h;obtain⟨rfl,q⟩:=h;cases ry;refine isnot_none_gen (sX I q ?_);cases x<;>first
  |(cases rx;rfl)
  |(obtain⟨t,rfl⟩:=rx;rfl)
def cr.or{f:Value->Value->Sem Value}{r r':R2}(h:cr X f r)(h':cr X f r'):cr X f (λx y H Q=>r x y H Q\/r' x y H Q):=by
 intro pins s σ H x y v u Q I rx ry q;rcases q with q|q
 .exact h pins s σ H x y v u Q I rx ry q
 .exact h' pins s σ H x y v u Q I rx ry q
def FW (ho:cr X (Mo op) r)(ha:PE X a ta)(hb:PE X b tb)(hm:Mq op b=false):PE X (.Compare a [op] [b] pos) (eL r ta tb):=by
 intro pins s σ H Q I h;exact wpAny_Compare1 (mM ha hb I h λv u s2 x y H2 I2 rx ry q=>ho pins s2 σ H2 x y v u Q I2 rx ry q) hm
def lz(t:TE):TT:=λσ H Q=>t σ H λx H'=>∃k,x=.bl k/\Q k H'
def uN (ho:cr X (Mo op) r)(ha:PE X a ta)(hb:PE X b tb)(hm:Mq op b=false):PT X (.Compare a [op] [b] pos) (lz (eL r ta tb)):=by
 intro pins s σ H Q I h;refine wpAny_isTrue_Compare1 (aZ (ha pins s σ H _ I h) λv s1 ⟨x,H1,I1,r1,q1⟩=>aZ (hb pins s1 σ H1 _ I1 q1) λu s2 ⟨y,H2,I2,r2,q2⟩=>
  aZ (ho pins s2 σ H2 x y v u _ I2 r1 r2 q2) λc s3 ⟨z,H3,I3,r3,k,e,q3⟩=>?_) hm
 subst e;cases r3;exact L5 ⟨H3,I3,q3⟩
def nq(r r':R2)(ta tb tc:TE):TE:=λσ H Q=>ta σ H λx H1=>tb σ H1 λy H2=>r x y H2 λz H3=>∃k,z=.bl k /\
 (if k=true then tc σ H3 λw' H4=>r' y w' H4 Q else Q (.bl false) H3)
def Hc (ho:cr X (Mo op) r)(ho':cr X (Mo op') r')(ha:PE X a ta)(hb:PE X b tb)(hc:PE X c tc)(hm:lastMarks [op,op'] [b,c]=false:=by with_unfolding_all rfl):PE X (.Compare a [op,op'] [b,c] pos) (nq r r' ta tb tc):=by
 intro pins s σ H Q I h;refine Compare_chain (aZ (ha pins s σ H _ I h) λv s1 ⟨x,H1,I1,r1,q1⟩=>chain_link (aZ (hb pins s1 σ H1 _ I1 q1) λu s2 ⟨y,H2,I2,r2,q2⟩=>
  aZ (ho pins s2 σ H2 x y v u _ I2 r1 r2 q2) λd s3 ⟨z,H3,I3,r3,k,e,q3⟩=>?_)) hm
 subst e;cases r3;refine L5 ?_;cases k with
 |false=>exact ite_ff ⟨.bl false,H3,I3,rfl,q3⟩
 |true=>exact ite_tt (chain_last (aZ (hc pins s3 σ H3 _ I3 q3) λw' s4 ⟨z',H4,I4,r4,q4⟩=>ho' pins s4 σ H4 y z' u w' Q I4 r2 r4 q4))
def Hb (ho:cr X (Mo op) r)(ho':cr X (Mo op') r')(ha:PE X a ta)(hb:PE X b tb)(hc:PE X c tc)(hm:lastMarks [op,op'] [b,c]=false:=by with_unfolding_all rfl):PT X (.Compare a [op,op'] [b,c] pos) (lz (nq r r' ta tb tc)):=by
 intro pins s σ H Q I h;refine isTrue_chain (aZ (ha pins s σ H _ I h) λv s1 ⟨x,H1,I1,r1,q1⟩=>test_link (aZ (hb pins s1 σ H1 _ I1 q1) λu s2 ⟨y,H2,I2,r2,q2⟩=>
  aZ (ho pins s2 σ H2 x y v u _ I2 r1 r2 q2) λd s3 ⟨z,H3,I3,r3,k,e,q3⟩=>?_)) hm
 subst e;cases r3;refine L5 ?_;cases k with
 |false=>
  obtain⟨k',e',q'⟩:=q3;cases e';exact ite_ff ⟨H3,I3,q'⟩
 |true=>
  refine ite_tt (test_last (aZ (hc pins s3 σ H3 _ I3 q3) λw' s4 ⟨z',H4,I4,r4,q4⟩=>aZ (ho' pins s4 σ H4 y z' u w' _ I4 r2 r4 q4) λd' s5 ⟨z2,H5,I5,r5,k2,e2,q5⟩=>?_));subst e2;cases r5;exact L5 ⟨H5,I5,q5⟩
def jB:(sizeLine:Nat)<2^63:=by rw[Mr];decide
def gF (r:ay [x] us):∃u,us=[u]/\RelV x u:=by
 cases r with
 |cons r1 r2=>cases r2;exact⟨_,rfl,r1⟩
def iK (r:ay [x,y] us):∃u w',us=[u,w']/\RelV x u/\RelV y w':=by
 cases r with
 |cons r1 r2=>
  cases r2 with
  |cons r3 r4=>cases r4;exact⟨_,_,rfl,r1,r3⟩
def HW(hc:X.calm=true):bG X (.builtin "max") (λxs H Q=>∃i j,xs=[.int i,.int j]/\Q (.int (if j > i then j else i)) H):=by
 intro pins s σ H xs us Q I r h;obtain⟨i,j,rfl,q⟩:=h;obtain⟨u,w',rfl,⟨t,rfl⟩,⟨t',rfl⟩⟩:=iK r;refine max_two_ints (I.ok.hd hc) λh' tk k=>⟨_,H,I.kept k,?_,q⟩;by_cases hj:j > i
 .rw[Nj hj,Nj hj];exact⟨_,rfl⟩
 .rw[Nk hj,Nk hj];exact⟨_,rfl⟩
def HV(hc:X.calm=true):bG X (.builtin "min") (λxs H Q=>∃i j,xs=[.int i,.int j]/\Q (.int (if j<i then j else i)) H):=by
 intro pins s σ H xs us Q I r h;obtain⟨i,j,rfl,q⟩:=h;obtain⟨u,w',rfl,⟨t,rfl⟩,⟨t',rfl⟩⟩:=iK r;refine min_two_ints (I.ok.hd hc) λh' tk k=>⟨_,H,I.kept k,?_,q⟩;by_cases hj:j<i
 .rw[Nj hj,Nj hj];exact⟨_,rfl⟩
 .rw[Nk hj,Nk hj];exact⟨_,rfl⟩
def HU:bG X (.type "int") (λxs H Q=>(∃i,xs=[.int i]/\Q (.int i) H)\/∃k,xs=[.bl k]/\Q (.int (if k then 1 else 0)) H):=by
 intro pins s σ H xs us Q I r h;rcases h with⟨i,rfl,q⟩|⟨k,rfl,q⟩
 .obtain ⟨u,rfl,t,rfl⟩:=gF r;exact call_int_int ⟨.int i,H,I,⟨_,rfl⟩,q⟩
 .obtain ⟨u,rfl,r1⟩:=gF r;cases r1;exact call_int_bool ⟨.int (if k then 1 else 0),H,I.tok _,⟨_,rfl⟩,q⟩
end
structure fP(h:LK)(x dx C:Addr)(mA:Str->Option Value):Prop where
 obj:h.get? x=some (Vm C dx)
 ns:h.Ns1 dx mA
 ne:dx≠x
def HS {h:LK}(n:h.Ns1 dx mA):∃od,h.get? dx=some od/\∀name,Vq name od=some (mA name):=by
 obtain⟨o,es,ep,ho,hd,hk,_,hm⟩:=n;refine⟨o,ho,λname=>?_⟩;have e:=hm name;unfold nsFind findBy at e;rw[<-Array.find?_toList]at e;unfold Vq;rw[hd];dsimp only;split
 .rename_i y q;rw[q]at e;exact Nm some e
 .rename_i q;rw[q]at e;have a:es.toList.any (·.refKey)=false:=by
   rw[WX];intro y hy;obtain⟨z,t,hkey⟩:=hk y (Vb.mp hy);simp[DictEntry.refKey,hkey]
  have a':¬es.toList.any (·.refKey)=true:=by rw[a];exact QQ
  rw[Nk a'];exact Nm some e
def fP.look (I:fP h x dx C mA):∃od,PySem.W.InstAt h x (Vm C dx) C (some od)/\∀name,Vq name od=some (mA name):=
 let⟨od,ho,hl⟩:=HS I.ns
 ⟨od,⟨I.obj,rfl,rfl,ho⟩,hl⟩
def i6 (r:dU (some v) o):∃u,o=some u/\RelV v u:=by
 cases o with
 |none=>exact(show False from r).elim
 |some u=>exact⟨u,rfl,r⟩
section
variable{P:LF}{w:LG}{H:Hp}{h:LK}{a C dx:Addr}{fs:List (Str×V)}
def FV(hok:cg P w H h)(e:H a=some (.ins C dx fs)):∃mA,fP h a dx C mA/\(∀f,dU (fs.lookup f) (mA f))/\PySem.Within mA (fs.map (·.1))/\fs.length<=1000/\H dx=some (.own a):=by
 obtain⟨d,z,ne,ob,mA,n,r,q⟩:=(show aW P w H h a (.ins C dx fs)from hok a _ e);exact⟨mA,⟨ob,n,ne⟩,r,q,z,d⟩
end
structure pP(K:Qb)(C:Addr):Prop where
 pg:PySem.W.plainGet K C Str.empty=true
 hd:PySem.W.hasDictIn K C=true
 po:PySem.W.plainOver K C=true
 sa:WL K (.ref C) "__setattr__"=some (some (.builtin "object.__setattr__"))
def pP.get {K:Qb}(c:pP K C)(f:Str):PySem.W.plainGet K C f=true:=c.pg
section
variable{X:Cx}{pins:List (Addr×Obj)}{σ:St}{H:Hp}{s:Shared}{A:LQ}{E:Value->Shared->Prop}{Q:Value->Shared->Prop}{c:Value}{b:Bool}
inductive cD(K:Qb)(H:Hp):V->Value->Prop where
 |non:cD K H .non (.type "NoneType")
 |bl (x:Bool):cD K H (.bl x) (.type "bool")
 |int (i:Int):cD K H (.int i) (.type "int")
 |str (x:Str):cD K H (.str x) (.type "str")
 |flt (x:UInt64):cD K H (.flt x) (.type "float")
 |lst {a:Addr}{xs:List V}(e:H a=some (.lst xs)):cD K H (.ref a) (.type "list")
 |frz {a:Addr}{o:Obj}{xs:List V}(e:H a=some (.frz o (.lst xs))):cD K H (.ref a) (.type "list")
 |tup {a:Addr}{xs:List V}(e:H a=some (.tup xs)):cD K H (.ref a) (.type "tuple")
 |dK {a:Addr}{kvs:List (bu×V)}(e:H a=some (.dK kvs)):cD K H (.ref a) (.type "dict")
 |dT {a:Addr}{kvs:List (List bu×V)}(e:H a=some (.dT kvs)):cD K H (.ref a) (.type "dict")
 |ins {a C dx:Addr}{fs:List (Str×V)}(e:H a=some (.ins C dx fs)) (cl:pP K C) (ha:WL K (.ref C) "__class__"=some (some (.builtin "object.__class__")))
   (hn:PySem.W.specialIn K (.builtin "object.__class__") "__get__"=some (some (.builtin "getset_descriptor.__get__"))) (htk:PySem.W.takesIn K (.builtin "object.__class__")=some true)
   (hm:We K C (.type "object")=some true):cD K H (.ref a) (.ref C)
def wE (I:Inv X pins σ H s)(rx:RelV x u)(ty:cD X.K H x t)(e:QC X.K t c=some b)(h:∀tk,Q (.bool b) {s with toks:=tk}):
  LV (LW X.prog X.w) A (call (.builtin "isinstance") [u,c]) Q E s:=by
 cases ty with
 |non=>cases(show u=Value.none from rx);exact QX PySem.W.kitx_none I.kIn True.intro e (λz=>nomatch z) h
 |bl y=>cases(show u=Value.bool y from rx);exact QX PySem.W.kitx_bool I.kIn True.intro e (λz=>nomatch z) h
 |int i=>obtain⟨t,q⟩:=(show ∃t,u=Value.int i t from rx);cases q;exact QX PySem.W.kitx_int I.kIn True.intro e (λz=>nomatch z) h
 |str y=>obtain⟨t,q⟩:=(show ∃t,u=Value.str y t from rx);cases q;exact QX PySem.W.kitx_str I.kIn True.intro e (λz=>nomatch z) h
 |flt y=>obtain⟨t,q⟩:=(show ∃t,u=Value.float y t from rx);cases q;exact QX PySem.W.kitx_float I.kIn True.intro e (λz=>nomatch z) h
 |@lst a xs ea=>
  cases(show u=Value.ref a from rx);obtain⟨_,_,n,_,h1⟩:=(show aW X.prog X.w H s.heap a (.lst xs)from I.hok a _ ea);exact QX Wy I.kIn ⟨_,h1,rfl⟩ e (λz=>nomatch z) h
 |@frz a ob xs ea=>
  cases(show u=Value.ref a from rx);obtain⟨_,_,_,n,_,h1⟩:=(show aW X.prog X.w H s.heap a (.frz ob (.lst xs))from I.hok a _ ea);exact QX Wy I.kIn ⟨_,h1,rfl⟩ e (λz=>nomatch z) h
 |@tup a xs ea=>
  cases(show u=Value.ref a from rx);obtain⟨_,_,_,p⟩:=(show aW X.prog X.w H s.heap a (.tup xs)from I.hok a _ ea);obtain⟨o,h1,h2,_⟩:=p;exact QX Vf I.kIn ⟨o,h1,h2⟩ e (λz=>nomatch z) h
 |@dK a kvs ea=>
  cases(show u=Value.ref a from rx);obtain⟨_,_,vs,_,p⟩:=(show aW X.prog X.w H s.heap a (.dK kvs)from I.hok a _ ea);obtain⟨o,es,ep,h1,h2,_⟩:=p;exact QX WS I.kIn ⟨o,h1,h2.1⟩ e (λz=>nomatch z) h
 |@dT a kvs ea=>
  cases(show u=Value.ref a from rx);obtain⟨_,_,xs,_,o,es,ep,h1,h2,_⟩:=(show aW X.prog X.w H s.heap a (.dT kvs)from I.hok a _ ea);exact QX WS I.kIn ⟨o,h1,h2.1⟩ e (λz=>nomatch z) h
 |@ins a C dx fs ea cl ha hn htk hm=>
  cases(show u=Value.ref a from rx);obtain⟨mA,O,_⟩:=FV I.hok ea;obtain⟨od,J,_⟩:=O.look;exact QX (PySem.W.kitx_own (cl.get _) cl.hd ha hn htk hm) I.kIn J e (λz=>nomatch z) h
end
structure cc(k:Nat)(A:LQ):Prop where
 hd:A.handled=none
 dp:A.depth+3*k+5<recursionLimit
 un:A.units+16*k+200<Ms
theorem cc.deeper{k:Nat}{A:LQ}(r:cc (k+1) A)(env:Env):cc k (A.deeper env):=
 ⟨r.hd,by have:=r.dp;show A.depth+1+3*k+5<_;lia,by have:=r.un;show A.units+3+16*k+200<_;lia⟩
theorem cc.depth (r:cc k A):A.depth<recursionLimit:=by have:=r.dp;lia
theorem cc.units (r:cc k A):A.units+64<Ms:=by have:=r.un;lia
def lh:TA:=λ_ H Q=>Q [] H
def iJ(ta:TE)(tr:TA):TA:=λσ H Q=>ta σ H λx H1=>tr σ H1 λxs H2=>Q (x::xs) H2
section
variable{X:Cx}{e:Expr}{es:List Expr}{te:TE}{t:TA}{pos:Pos}
def xf:PA X [] lh:=λ_ _ _ _ H Q I h=>Calls.spliced_nil ⟨[],H,I,.nil,h⟩
def zS(ha:PE X e te)(hr:PA X es t)(hs:LY (e::es) X.env=(false,eval e X.env)::LY es X.env:=by rfl):PA X (e::es) (iJ te t):=by
 intro pos pins s σ H Q I h;rw[hs];show LV _ _ (spliced ((false,eval e X.env)::LX pos (LY es X.env))) _ _ s;refine Calls.spliced_cons (aZ (ha pins s σ H _ I h) λu s1 ⟨x,H1,I1,r1,q1⟩=>?_);exact aZ (hr pos pins s1 σ H1 _ I1 q1) λus s2 ⟨xs,H2,I2,r2,q2⟩=>⟨x::xs,H2,I2,.cons r1 r2,q2⟩
def n8(t:TA):TE:=λσ H Q=>t σ H λxs H1=>xs.length<=sizeLine/\∀p,H1 p=none->Q (.ref p) (aK H1 p (.tup xs))
def om(t:TA):TE:=λσ H Q=>t σ H λxs H1=>xs.length<=sizeLine/\∀p,H1 p=none->Q (.ref p) (aK H1 p (.lst xs))
def nn{x1}(h:PA X es t):PE X (.Tuple es x1 pos) (n8 t):=by
 intro pins s σ H Q I hq;refine wpAny_Tuple_spliced (aZ (h pos pins s σ H _ I hq) λus s1 ⟨xs,H1,I1,r,z,q⟩=>⟨by rw[<-r.length];exact z,?_⟩);have hf:H1 s1.heap.objs.size=none:=I1.hok.fresh (Qk _);refine⟨.ref s1.heap.objs.size,aK H1 s1.heap.objs.size (.tup xs),I1.laid (t':=s1.toks) (λb u e=>Qq _ e) (Qk _) ?_,rfl,q _ hf⟩;exact⟨z,us,r,⟨_,QR _ rfl,rfl,_,rfl⟩⟩
def C7(h:PA X es t):PE X (.List es pos) (om t):=by
 intro pins s σ H Q I hq;refine wpAny_List_spliced (aZ (h pos pins s σ H _ I hq) λus s1 ⟨xs,H1,I1,r,z,q⟩=>⟨by rw[<-r.length];exact z,?_⟩);have hf:H1 s1.heap.objs.size=none:=I1.hok.fresh (Qk _);refine⟨.ref s1.heap.objs.size,aK H1 s1.heap.objs.size (.lst xs),I1.laid (t':=s1.toks) (λb u e=>Qq _ e) (Qk _) ?_,rfl,q _ hf⟩;exact⟨z,us,0,r,QR _ rfl⟩
end
abbrev Sp:=List V->Hp->VK->XK->Prop
abbrev eB:=List Env->Hp->Shared->XK->Value->Shared->Prop
structure eV(P:LF)(w:LG)(K:Qb)(mg:Str->Option Value)(base:LK)(A:LQ)(outer:List Env)(s:Shared)(H:Hp):Prop where
 frames:A.frames=some outer
 mod:Mod K mg base
 bs:∀b o,base.get? b=some o->s.heap.get? b=some o/\H b=none
 bsz:base.objs.size<=s.heap.objs.size
 funs:s.heap.FunFrames base outer
 frf:∀b∈bR outer,H b=none
 hok:cg P w H s.heap
 bare:LR s.gens
def CE(outer:List Env)(P:LF)(w:LG)(H:Hp)(s:Shared)(Q:VK)(u:Value)(s':Shared):Prop:=
 ∃v H',s'.os=s.os/\LR s'.gens/\Un (bR outer) [] H H' s.heap s'.heap/\cg P w H' s'.heap/\RelV v u/\Q v H'
def CR(CX:eB)(outer:List Env)(P:LF)(w:LG)(H:Hp)(s:Shared)(Q:VK)(E:XK)(r:Result)(s':Shared):Prop:=
 match r with
 |.ok (.ret u)=>CE outer P w H s Q u s'
 |.ok _=>False
 |.error e=>CX outer H s E e s'
structure cf(P:LF)(w:LG)(K:Qb)(mg:Str->Option Value)(base:LK)(CX:eB)(k:Nat)(f:Addr)(fd:Mt)(ps:List Str)(sp:Sp):Prop where
 len:∀vs H Q E,sp vs H Q E->vs.length=ps.length
 run:∀(A:LQ) (outer:List Env) (s:Shared) (H:Hp) (args:Args) (us:List Value) (vs:List V) (Q:VK) (E:XK),cc k A->eV P w K mg base A outer s H->Mu s fd args (ps.zip us)->ay vs us->sp vs H Q E ->
  Mv (LW P w) A (.call (.ref f) args) (CR CX outer P w H s Q E) s
section
variable{X:Cx}{pins:List (Addr×Obj)}{σ:St}{H:Hp}{s s':Shared}
def Inv.env0(I:Inv X pins σ H s):eV X.prog X.w X.K X.mg X.base X.A X.stack s H:=
 ⟨I.ok.frames,I.ok.mod,I.bs,Qu I.ok.bsz I.sz,I.stack,I.stkFree,I.hok,I.bare⟩
def Inv.after (I:Inv X pins σ H s)(h:CE X.stack X.prog X.w H s Q u s'):EP X pins σ Q u s':=by
 obtain⟨v,H',os,bare,un,hok,r,q⟩:=h;obtain⟨hh,g,d,t,os'⟩:=s';obtain rfl:os'=s.os:=os;exact⟨v,H',I.call (h':=hh) (g':=g) (d':=d) (t':=t) (ch:=[]) un hok bare (λb z=>Nl z (by simp)),r,q⟩
end
def CG(sp:Sp)(dvs:List V)(E:XK)(t:TA):TE:=λσ H Q=>t σ H λvs H1=>sp (vs++dvs) H1 Q E
def Binds(K:Qb)(fd:Mt)(ps:List Str)(ds:List Value):Prop:=
 ∀(s:Shared) (us:List Value),K.In s.heap->(us++ds).length=ps.length->Mu s fd ⟨us,[]⟩ (ps.zip (us++ds))
def Binds.all{K:Qb}{fd:Mt}{ps:List Str}(h:∀us:List Value,us.length=ps.length->bindArgs fd ⟨us,[]⟩=pure (ps.zip us)):Binds K fd ps []:=λs us _ hl=>by
 rw[QZ]at hl ⊢;exact .of_eq (h us hl)
def jC(CX:eB)(X:Cx)(E:XK):Prop:=∀(pins:List (Addr×Obj)) (σ:St) (H:Hp) (s:Shared) (e:Value) (s':Shared),Inv X pins σ H s->CX X.stack H s E e s'->X.xe e s'
section
variable{X:Cx}{CX:eB}{k:Nat}{f:Addr}{fd:Mt}{ps:List Str}{sp:Sp}{dvs:List V}{ds:List Value}{E:XK}{x:Str}{p pos:Pos}{e:Expr}{es:List Expr}{t:TA}
def C6 (F:cf X.prog X.w X.K X.mg X.base CX k f fd ps sp)(hr:cc k X.A)(hb:Binds X.K fd ps ds)(hd:ay dvs ds)(hx:jC CX X E)(I:Inv X pins σ H s)(r:ay vs us)(h:sp (vs++dvs) H Q E):LV (LW X.prog X.w) X.A (call (.ref f) us) (EP X pins σ Q) X.xe s:=by
 have r2:ay (vs++dvs) (us++ds):=r.append hd;have hl:(us++ds).length=ps.length:=by rw[<-r2.length];exact F.len _ _ _ _ h
 refine wpAny_call (Mw (F.run X.A X.stack s H ⟨us,[]⟩ (us++ds) (vs++dvs) Q E hr I.env0 (hb s us I.kIn hl) r2 h) λr s' hq=>?_);cases r with
 |error e=>exact hx pins σ H s e s' I hq
 |ok fl=>
  cases fl with
  |ret u=>exact I.after hq
  |next=>exact False.elim hq
  |brk=>exact False.elim hq
  |cont=>exact False.elim hq
def FU(F:cf X.prog X.w X.K X.mg X.base CX k f fd ps sp)(hr:cc k X.A)(hg:Gl X x)(hm:X.mg x=some (.ref f))(hk:Q7 X.K (.ref f)=true)(hb:Binds X.K fd ps ds)(hd:ay dvs ds)(hx:jC CX X E)
  (ha:PA X (e::es) t) (hdb:(x==("__debug__":Str))=false:=by decide) (he:LY (e::es) X.env=(false,eval e X.env)::LY es X.env:=by rfl) (hpl:(LX pos (LY es X.env)).any (·.1)=false:=by rfl) :
  PE X (.Call (.Name x p) (e::es) [] pos) (CG sp dvs E t):=by
 intro pins s σ H Q I h;refine Mx (jo I hg hm ?_ hdb);refine PySem.W.callWith_K (h₀:=X.base) I.ok.mod.kin hk (aZ (ha pos pins s σ H _ I h) λus s1 ⟨vs,H1,I1,r,q⟩=>⟨I1.kIn,?_⟩) he hpl;exact C6 F hr hb hd hx I1 r q
end
structure cL(N P:List Str)(sc:LA):Prop where
 kind:sc.kind=.function
 co:sc.isCoroutine=false
 gen:sc.isGenerator=false
 nd:N.Nodup
 pre:N.take P.length=P
 par:∀x∈P,sc.names.lookup x=some .local\/sc.names.lookup x=some .cell
 nofree:∀y∈sc.names,y.2≠.free
theorem gG {kindOf:Str->Option My}:∀{binds:List (Str×Value)}{m:Str->Option Value},(∀v,(x,v)∉binds)->Mz kindOf binds m x=m x
 |[],_,_=>rfl
 |(n,v)::r,m,h=>by
  unfold Mz;rw[gG λw hw=>h w (Qh _ hw)];split
  .have:x≠n:=by rintro rfl;exact h v QF
   simp[this]
  .rfl
theorem gH {kindOf:Str->Option My}:∀{binds:List (Str×Value)}{m:Str->Option Value},(∀v,(x,v)∉binds)->MA kindOf binds m x=m x
 |[],_,_=>rfl
 |(n,v)::r,m,h=>by
  unfold MA;rw[gH λw hw=>h w (Qh _ hw)];split
  .rfl
  .have:x≠n:=by rintro rfl;exact h v QF
   simp[this]
theorem gJ {kindOf:Str->Option My}:∀{P:List Str}{vs:List Value}{i:Nat}{m:Str->Option Value},P.Nodup->P[i]?=some x->vs[i]?=some v->kindOf x=some .local ->
  Mz kindOf (P.zip vs) m x=some v
 |[],_,_,_,_,h,_,_=>by simp at h
 |_::_,[],_,_,_,_,h,_=>by simp at h
 |p::P,w::vs,0,m,nd,h1,h2,hk=>by
  simp at h1 h2;subst h1;subst h2;show Mz kindOf ((p,w)::P.zip vs) m p=_;unfold Mz;rw[gG λv hv=>(QI.mp nd).1 (Vu hv).1,Nj hk];simp
 |p::P,w::vs,i+1,m,nd,h1,h2,hk=>by
  show Mz kindOf ((p,w)::P.zip vs) m x=_;unfold Mz;exact gJ (i:=i) (QI.mp nd).2 (by simpa using h1) (by simpa using h2) hk
theorem gK {kindOf:Str->Option My}:∀{P:List Str}{vs:List Value}{i:Nat}{m:Str->Option Value},P.Nodup->P[i]?=some x->vs[i]?=some v->kindOf x≠some .local ->
  MA kindOf (P.zip vs) m x=some v
 |[],_,_,_,_,h,_,_=>by simp at h
 |_::_,[],_,_,_,_,h,_=>by simp at h
 |p::P,w::vs,0,m,nd,h1,h2,hk=>by
  simp at h1 h2;subst h1;subst h2;show MA kindOf ((p,w)::P.zip vs) m p=_;unfold MA;rw[gH λv hv=>(QI.mp nd).1 (Vu hv).1,Nk hk];simp
 |p::P,w::vs,i+1,m,nd,h1,h2,hk=>by
  show MA kindOf ((p,w)::P.zip vs) m x=_;unfold MA;exact gK (i:=i) (QI.mp nd).2 (by simpa using h1) (by simpa using h2) hk
def start(N:List Str)(vs:List V):St:=vs.map some++Qx (N.length-vs.length) none
def jl(CX:eB)(P:LF)(w:LG)(K:Qb)(mg:Str->Option Value)(base:LK)(N:List Str)(qual:Str)(scope:LA)(f:Addr)(cd:Value)(A:LQ)(outer:List Env)(s:Shared)(H:Hp)(E:XK):Cx where
 prog:=P
 w:=w
 K:=K
 mg:=mg
 base:=base
 A:=A.deeper (envOfC qual scope s.heap.objs.size f cd)
 N:=N
 s₀:=s
 H₀:=H
 env:=envOfC qual scope s.heap.objs.size f cd
 outer:=outer
 stack:=envOfC qual scope s.heap.objs.size f cd::outer
 ex:=[]
 calm:=true
 fn:=λ_=>true
 pn:=[]
 xe:=λe s'=>LV (LW P w) (A.deeper (envOfC qual scope s.heap.objs.size f cd)) (leaving (envOfC qual scope s.heap.objs.size f cd) e) (λ_ s''=>CX outer H s E e s'') (λe' s''=>CX outer H s E e' s'') s'
def uV {sc:LA}(h:sc.names.lookup x=some .cell):∃c,(MB n sc.names []).lookup x=some c:=by
 have q:=W0 sc.names n [] (.inl h);exact Q8.mp q
def HR {K:Qb}(S:cL N ps scope)(hd:A.handled=none)(e0:eV P w K mg base A outer s H)(hl:vs.length=ps.length)(r:ay vs us)(x:InCallC s s.heap.objs.size (Mz (envOfC qual scope s.heap.objs.size f cd).kindOf (ps.zip us) λ_=>none) (MB (s.heap.objs.size+1) scope.names []) (MA (envOfC qual scope s.heap.objs.size f cd).kindOf (ps.zip us) λ_=>none) s1):
  Inv (jl CX P w K mg base N qual scope f cd A outer s H E) [] (start N vs) H s1:=by
 have hpl:ps.length<=N.length:=by have:=Nm List.length S.pre;rw[List.length_take]at this;lia
 obtain⟨h1,tk,rfl,hk⟩:=x.done;have noA:∀b:Addr,b∉(jl CX P w K mg base N qual scope f cd A outer s H E).ex:=λb z=>Nl (show b∈([]:List Addr)from z) (by simp);refine⟨⟨e0.mod,S.kind,rfl,rfl,Qk _,λy z c h1 h2=>?_,λy hy=>?_,λy c _ h=>?_,λ_=>hd,Around.frames_deeper e0.frames,.inr ⟨rfl,rfl⟩,λb z=>Nl z (noA b),e0.bs,e0.bsz,λb _ _=>noA b,λb z=>Nl z (noA b),e0.funs,e0.frf⟩,
  rfl,e0.bare,Un.kept hk,⟨_,x.toInCall.ns,λi y v h1 h2 h3=>?_⟩,λy c h=>⟨_,x.cell y c h⟩,e0.hok.fresh (Qk _),λy c h=>?_,λp hp=>Nl (show p∈([]:List (Addr×Obj))from hp) (by simp),e0.hok.kept hk,?_⟩
 .exact name_of_addr x.apart (PySem.mem_of_lookup h1) (PySem.mem_of_lookup h2)
 .have hy:scope.names.lookup y=some .cell\/scope.names.lookup y=some .free:=hy;rcases hy with hy|hy
  .exact uV hy
  .exact Nl rfl (S.nofree _ (PySem.mem_of_lookup hy))
 .exact WR (x.above y c (PySem.mem_of_lookup h))
 .have hi:i<vs.length:=by
   unfold start at h2;by_cases hi:i<vs.length
   .exact hi
   .rw[Qi (by simpa using hi)]at h2;rw[Wz]at h2;split at h2<;>cases h2
  have ha:vs[i]?=some v:=by
   unfold start at h2;rw[Qg (by simpa using hi),Qt]at h2;cases e:vs[i]? with
   |none=>rw[e]at h2;cases h2
   |some a=>rw[e]at h2;cases h2;rfl
  obtain⟨u,hu,rv⟩:=r.get ha;have hp:ps[i]?=some y:=by
   rw[<-S.pre,List.getElem?_take_of_lt (by lia)];exact h1
  have ndP:ps.Nodup:=by rw[<-S.pre];exact S.nd.sublist (List.take_sublist _ _)
  refine⟨u,rv,?_⟩;rcases S.par y (Qp hp)with k|k
  .exact .inl ⟨k,gJ ndP hp hu k⟩
  .obtain ⟨c,e⟩:=uV (n:=s.heap.objs.size+1) k;refine .inr ⟨.inl k,c,e,?_⟩;have q:=x.cell y c e;rw[gK ndP hp hu (by show scope.names.lookup y≠_;rw[k];decide)]at q;exact q
 .exact e0.hok.fresh (WR (x.above y c (PySem.mem_of_lookup h)))
 .unfold start;show _=N.length;rw[QW,Qm,List.length_replicate];lia
def r6 {K:Qb}{kV:Value}(lk:K.lookup f=some ⟨oc,od,.func (Wt name qual params body scope dV kV doc pm an cdv ct),osl⟩)(hcd:W2 K cdv qual=true)(S:cL N ps scope)(len:∀vs H Q E,sp vs H Q E->vs.length=ps.length)(hbody:∀(A:LQ) (outer:List Env) (s:Shared) (H:Hp) (vs:List V) (Q:VK) (E:XK),cc k (A.deeper (envOfC qual scope s.heap.objs.size f cdv))->sp vs H Q E ->
   ∃t,cv (jl CX P w K mg base N qual scope f cdv A outer s H E) body t/\t {nx:=λ_ H'=>Q .non H',rt:=Q} (start N vs) H):
  cf P w K mg base CX (k+1) f (Wt name qual params body scope dV kV doc pm an cdv ct) ps sp:=by
 refine⟨len,λA outer s H args us vs Q E hr e0 hb r hsp=>?_⟩;have hl:=len _ _ _ _ hsp;have KX:K.In s.heap:=e0.mod.kin.keeps λb o e=>(e0.bs b o e).1;have av:s.heap.NoLimit:=e0.mod.nolimit.keeps λb o e=>(e0.bs b o e).1;have hkind:∀y∈ps.zip us,scope.names.lookup y.1=some .local\/(scope.names.lookup y.1=some .cell/\((MB (s.heap.objs.size+1) scope.names []).lookup y.1).isSome=true):=λ⟨n,v⟩ hy=>by
  rcases S.par n (Vu hy).1 with q|q
  .exact .inl q
  .exact .inr ⟨q,W0 _ _ _ (.inl q)⟩
 refine codeAny_call_function hr.depth (KX _ _ lk) rfl S.co S.gen rfl (PySem.W.codeRec_of KX hcd) (hb _ _ _ _ ?_);refine wpAny_newFunctionEnv_cells S.kind hkind λenv he s1 x=>?_;subst he;refine⟨av.keeps x.toInCall.keep,codeAny_func ?_⟩;obtain⟨t,ht,hq⟩:=hbody A outer s H vs Q E (hr.deeper _) hsp;have I:Inv (jl CX P w K mg base N qual scope f cdv A outer s H E) [] (start N vs) H s1:=HR S hr.hd e0 hl r x;refine LZ (ht [] s1 (start N vs) H _ I hq) (λfl s' hs=>?_) λe s' hs=>hs;have fin:∀{σ':St}{H':Hp}{v:V}{u:Value},Inv (jl CX P w K mg base N qual scope f cdv A outer s H E) [] σ' H' s'->RelV v u->Q v H'->CE outer P w H s Q u s':=
  λ{σ' H' v u} J rv q=>⟨v,H',J.os,J.bare,J.base,J.hok,rv,q⟩
 cases fl with
 |ret u=>
  obtain⟨v,σ',H',J,rv,q⟩:=hs;exact fin J rv q
 |next=>
  obtain⟨σ',H',J,q⟩:=hs;exact fin (v:=V.non) (u:=Value.none) J rfl q
 |brk=>
  obtain⟨_,_,_,q⟩:=hs;exact False.elim q
 |cont=>
  obtain⟨_,_,_,q⟩:=hs;exact False.elim q
section
variable{X:Cx}{x:Str}{p pos:Pos}{e:Expr}{es:List Expr}{t:TA}{id T:String}{r:List V->Hp->VK->Prop}
def oq(r:List V->Hp->VK->Prop)(t:TA):TE:=λσ H Q=>t σ H λvs H1=>r vs H1 Q
def yQ(hc:bG X (.builtin id) r)(hg:Gl X x)(hm:X.mg x=none)(hv:LP x=some (.builtin id))(ha:PA X (e::es) t)(hn:x ≠ "__name__":=by decide)(hdb:(x==("__debug__":Str))=false:=by decide)
  (he:LY (e::es) X.env=(false,eval e X.env)::LY es X.env:=by rfl) (hpl:(LX pos (LY es X.env)).any (·.1)=false:=by rfl):PE X (.Call (.Name x p) (e::es) [] pos) (oq r t):=by
 intro pins s σ H Q I h;refine Mx (wW I hg hm hv ?_ hn hdb);exact PyProof.Rows.callWith_builtin1 (aZ (ha pos pins s σ H _ I h) λus s1 ⟨vs,H1,I1,r1,q1⟩=>hc pins s1 σ H1 vs us Q I1 r1 q1) he hpl
def gL(hc:bG X (.type T) r)(hg:Gl X x)(hm:X.mg x=none)(hv:LP x=some (.type T))(ha:PA X (e::es) t)(hn:x ≠ "__name__":=by decide)(hdb:(x==("__debug__":Str))=false:=by decide)
  (he:LY (e::es) X.env=(false,eval e X.env)::LY es X.env:=by rfl) (hpl:(LX pos (LY es X.env)).any (·.1)=false:=by rfl):PE X (.Call (.Name x p) (e::es) [] pos) (oq r t):=by
 intro pins s σ H Q I h;refine Mx (wW I hg hm hv ?_ hn hdb);exact PyProof.Rows.callWith_type1 (aZ (ha pos pins s σ H _ I h) λus s1 ⟨vs,H1,I1,r1,q1⟩=>hc pins s1 σ H1 vs us Q I1 r1 q1) he hpl
end
end L2
namespace HT
open PySem PyProof.Rows
section
variable{prog:LF}{w:LG}{A:LQ}{E:Value->Shared->Prop}{s:Shared}
def eP (ht:IsTup s.heap t vs.toArray)(hb:IsTup s.heap b ws.toArray)(hv:vs≠[])(h1:ws=[]->Q (.ref t) s)(h2:ws≠[]->Q (.ref s.heap.objs.size) {s with heap:=s.heap.push {cls:=.type "tuple",data:=.seq (vs++ws).toArray} })(hsz:vs.length+ws.length<=sizeLine):LV (LW prog w) A (Mn .Add (.ref t) (.ref b)) Q E s:=by
 obtain⟨⟨cls,dd,data,sl⟩,ho,hc,n,hd⟩:=id ht;obtain⟨⟨cls2,dd2,data2,sl2⟩,ho2,hc2,n2,hd2⟩:=id hb;simp only at hc hd hc2 hd2;subst hc hd hc2 hd2;have e:vs.toArray++ws.toArray=(vs++ws).toArray:=by simp
 by_cases hw:ws=[]
 .exact concat_meets ⟨_,ho,rfl⟩ ⟨_,ho2,rfl⟩ noFill_tuple_add seq_tuple_add PySem.F.slot_tuple_add PySem.F.entry_tuple_add (PySem.F.args_tuple_add_2 _ _)
   (tuple_addW1 t b vs.toArray ws.toArray n n2 dd dd2 sl sl2 (by simpa using hv) (by simp[hw])) ⟨ho,ho2,h1 hw⟩
 .refine concat_meets ⟨_,ho,rfl⟩ ⟨_,ho2,rfl⟩ noFill_tuple_add seq_tuple_add PySem.F.slot_tuple_add PySem.F.entry_tuple_add (PySem.F.args_tuple_add_2 _ _)
   (tuple_addW2 t b vs.toArray ws.toArray n n2 dd dd2 sl sl2 (by simpa using hv) (by simpa using hw) (by rw[Qv,Qv];exact hsz)) ⟨ho,ho2,?_⟩
  rw[e];exact h2 hw
def cj(n d:Nat):Option Int->Nat
 |none=>d
 |some v=>if v<0 then(v+(n:Int)).toNat else min v.toNat n
end
end HT
namespace L2
set_option tactic.hygienic false
open PySem PySem.Spec PyProof.Rows
abbrev TO:=St->Hp->(Option Int->Hp->Prop)->Prop
def PO(X:Cx)(e:Option Expr)(t:TO):Prop:=
 ∀(pins:List (Addr×Obj)) (s:Shared) (σ:St) (H:Hp) (Q:Option Int->Hp->Prop),Inv X pins σ H s->t σ H Q ->
  LV (LW X.prog X.w) X.A (evalPart e X.env) (λu s'=>∃o H',Inv X pins σ H' s'/\IsPart u o/\Q o H') X.xe s
def CF(t:TE):TO:=λσ H Q=>t σ H λx H1=>∃i,x=.int i/\Q (some i) H1
section
variable{X:Cx}{e:Expr}{te:TE}{lo hi:Option Expr}{tl th:TO}{pos p2:Pos}
def uM(h:PE X e te):PO X (some e) (CF te):=by
 intro pins s σ H Q I hw;rw[evalPart_some];refine aZ (h pins s σ H _ I hw) λu s1 ⟨x,H1,I1,r1,q1⟩=>?_;obtain⟨i,rfl,q⟩:=q1;obtain⟨t,rfl⟩:=r1;exact⟨some i,H1,I1,.int i t,q⟩
def Bs(X:Cx)(r:V->Option Int->Option Int->Hp->VK->Prop):Prop:=
 ∀(pins:List (Addr×Obj)) (s:Shared) (σ:St) (H:Hp) (x:V) (v vl vu:Value) (lo hi:Option Int) (sl:Addr) (Q:VK),Inv X pins σ H s->RelV x v->s.heap.IsSliceOf sl vl vu .none->IsPart vl lo->IsPart vu hi->r x lo hi H Q ->
  ∃T id,typeLookup (.type T) "__getitem__"=pure (some (.builtin id))/\s.TypeIs v T/\LV (LW X.prog X.w) X.A (MC v (.ref sl)) (EP X pins σ Q) X.xe s
def JC(r:V->Option Int->Option Int->Hp->VK->Prop)(te:TE)(tl th:TO):TE:=λσ H Q=>te σ H λx H1=>tl σ H1 λl H2=>th σ H2 λu H3=>r x l u H3 Q
def Ha (hr:Bs X r)(he:PE X e te)(hl:PO X lo tl)(hu:PO X hi th):PE X (.Subscript e (.Slice lo hi none p2) pos) (JC r te tl th):=by
 intro pins s σ H Q I h;refine Subscript_ (aZ (he pins s σ H _ I h) λv s1 ⟨x,H1,I1,r1,q1⟩=>?_);refine wpAny_Slice (aZ (hl pins s1 σ H1 _ I1 q1) λvl s2 ⟨l,H2,I2,pl,q2⟩=>aZ (hu pins s2 σ H2 _ I2 q2) λvu s3 ⟨u,H3,I3,pu,q3⟩=>?_);rw[evalPart_none];refine Mi ?_;have I4:Inv X pins σ H3 {s3 with heap:=s3.heap.push {cls:=.type "slice",data:=.fields #[vl,vu,.none]} }:=I3.kept (t':=s3.toks) λb ob q=>Qq _ q;obtain⟨T,id,hT,ht,hg⟩:=hr pins {s3 with heap:=s3.heap.push {cls:=.type "slice",data:=.fields #[vl,vu,.none]} } σ H3 x v vl vu l u s3.heap.objs.size Q I4 r1 (Heap.IsSliceOf.new ..) pl pu q3;show LV (LW X.prog X.w) X.A (MD e (.Slice lo hi none p2) v (.ref s3.heap.objs.size)) (EP X pins σ Q) X.xe {s3 with heap:=s3.heap.push {cls:=.type "slice",data:=.fields #[vl,vu,.none]} };exact tail_any (ops:=[.ref s3.heap.objs.size,v]) ht hT hg (by with_unfolding_all rfl)
def fV(xs:List V)(lo hi:Option Int):List V:=(xs.drop (HT.cj xs.length 0 lo)).take (HT.cj xs.length xs.length hi-HT.cj xs.length 0 lo)
def Jp(xs:List V)(lo hi:Option Int):(fV xs lo hi).length<=xs.length:=by
 unfold fV;rw[List.length_take,List.length_drop];lia
def rZ(K:Qb):R2:=λx y H Q=>∃a b xs ys,x=.ref a/\y=.ref b/\cb K H a xs/\cb K H b ys/\xs≠[]/\xs.length+ys.length<=sizeLine /\
 (ys=[]->Q (.ref a) H)/\(ys≠[]->∀p,H p=none->Q (.ref p) (aK H p (.tup (xs++ys))))
def ay.nil_iff (r:ay xs us):us=[]↔xs=[]:=by
 cases r with
 |nil=>simp
 |cons _ _=>simp
def FT:cr X (Mn .Add) (rZ X.K):=by
 intro pins s σ H x y v u Q I rx ry h;obtain⟨a,b,xs,ys,rfl,rfl,ha,hb,hx,hz,q1,q2⟩:=h;cases rx;cases ry;obtain⟨its,r1,p1,_⟩:=I.tuple ha;obtain⟨its2,r2,p2,_⟩:=I.tuple hb;refine HT.eP p1 p2 (λz=>hx (r1.nil_iff.mp z)) (λz=>⟨.ref a,H,I,rfl,q1 (r2.nil_iff.mp z)⟩) (λz=>?_) (by rw[<-r1.length,<-r2.length];exact hz);refine⟨.ref s.heap.objs.size,_,I.laid (t':=s.toks) (o:=.tup (xs++ys)) (λb ob q=>Qq _ q) (Qk _) ?_,rfl,q2 (λw=>z (r2.nil_iff.mpr w)) _ (I.hok.fresh (Qk _))⟩;exact⟨by rw[QW];exact hz,_,r1.append r2,IsTup.new _ _⟩
end
def ii(n:Nat)(i:Int):Option Nat:=if 0<=i then(if i<n then some i.toNat else none)else if -(n:Int)<=i then some (i+n).toNat else none
def fL{α:Type}(xs:List α)(i:Int):Option α:=(ii xs.length i).bind λj=>xs[j]?
def ub (h:ii n i=some j):seqIndex? i n=some j/\j<n/\-(n:Int)<=i/\i<n:=by
 unfold ii at h;by_cases h0:0<=i
 .rw[Nj h0]at h;by_cases h1:i<n
  .rw[Nj h1]at h;have e:i.toNat=j:=Option.some.inj h;exact⟨by rw[ME h0 h1,e],by lia,by lia,h1⟩
  .rw[Nk h1]at h;cases h
 .rw[Nk h0]at h;by_cases h1:-(n:Int)<=i
  .rw[Nj h1]at h;have e:(i+n).toNat=j:=Option.some.inj h;exact⟨by rw[MF (by lia) h1,e],by lia,h1,by lia⟩
  .rw[Nk h1]at h;cases h
def qi (h:fL xs i=some v):∃j,seqIndex? i xs.length=some j/\xs[j]?=some v/\j<xs.length/\-(xs.length:Int)<=i/\i<xs.length:=by
 unfold fL at h;cases e:ii xs.length i with
 |none=>rw[e]at h;cases h
 |some j=>
  rw[e]at h;obtain⟨h1,h2,h3,h4⟩:=ub e;exact⟨j,h1,h,h2,h3,h4⟩
def qj(b:Expr):Prop:=∀o i,MG b false o i=operate [o,i] (MC o i)
def eg(X:Cx)(r:R2):Prop:=
 ∀(value slice:Expr) (pins:List (Addr×Obj)) (s:Shared) (σ:St) (H:Hp) (x y:V) (v u:Value) (Q:VK),Inv X pins σ H s->RelV x v->RelV y u->r x y H Q ->
  MG slice false v u=operate [v,u] (MC v u)->LV (LW X.prog X.w) X.A (MD value slice v u) (EP X pins σ Q) X.xe s
def pF(X:Cx)(id:String)(r:V->List V->Hp->VK->Prop):Prop:=
 ∀(pins:List (Addr×Obj)) (s:Shared) (σ:St) (H:Hp) (x:V) (xs:List V) (v:Value) (us:List Value) (Q:VK),Inv X pins σ H s->RelV x v->ay xs us->r x xs H Q ->
  LV (LW X.prog X.w) X.A (call (.builtin id) (v::us)) (EP X pins σ Q) X.xe s
section
variable{X:Cx}{a b:Expr}{ta tb:TE}{pos:Pos}
def eg.or{r r':R2}(h:eg X r)(h':eg X r'):eg X (λx y H Q=>r x y H Q\/r' x y H Q):=by
 intro value slice pins s σ H x y v u Q I rx ry q hs;rcases q with q|q
 .exact h value slice pins s σ H x y v u Q I rx ry q hs
 .exact h' value slice pins s σ H x y v u Q I rx ry q hs
def lu (hr:eg X r)(ha:PE X a ta)(hb:PE X b tb)(hs:qj b):PE X (.Subscript a b pos) (eL r ta tb):=by
 intro pins s σ H Q I h;exact Subscript_ (mM ha hb I h λv u s2 x y H2 I2 rx ry q=>hr a b pins s2 σ H2 x y v u Q I2 rx ry q (hs _ _))
def rP(K:Qb):R2:=λx y H Q=>∃p xs i v,x=.ref p/\y=.int i/\bj K H p xs/\fL xs i=some v/\Q v H
def rO(K:Qb):R2:=λx y H Q=>∃p xs i v,x=.ref p/\y=.int i/\cb K H p xs/\fL xs i=some v/\Q v H
def rJ:R2:=λx y H Q=>∃z i c,x=.str z/\y=.int i/\z.length<=sizeLine/\fL z.cps.toList i=some c/\Q (.str ⟨#[c]⟩) H
def eM:eg X (rP X.K):=by
 intro value slice pins s σ H x y v u Q I rx ry h hs;obtain⟨p,xs,i,z,rfl,rfl,hq,he,q⟩:=h;cases rx;obtain⟨t,rfl⟩:=ry;obtain⟨its,r,pl,hz⟩:=I.list hq;obtain⟨j,h1,h2,h3,h4,h5⟩:=qi he;obtain⟨w,ew,rw'⟩:=r.get h2;have hl:=r.length;have hn:=jB;have fin:EP X pins σ Q w s:=⟨z,H,I,rw',q⟩;by_cases h0:0<=i
 .have hj:i.toNat=j:=by
   rw[ME h0 h5]at h1;exact Option.some.inj h1
  exact item_listR pl.isList h0 (by lia) (by rw[hj];simpa using ew) fin hs
 .have hj:(i+(its.toArray.size:Int)).toNat=j:=by
   rw[MF (by lia) h4]at h1;rw[Qv,<-hl];exact Option.some.inj h1
  exact MJ (x:=w) pl.isList.typeIs slot_list_getitem.lookup
   (wpAny_getItem_list_neg (Q:=λr s'=>r=w/\EP X pins σ Q r s') pl.isList (by lia) (by rw[Qv]<;>lia) (by lia) (by rw[hj];simpa using ew) ⟨rfl,fin⟩) hs
def fF:eg X (rO X.K):=by
 intro value slice pins s σ H x y v u Q I rx ry h hs;obtain⟨p,xs,i,z,rfl,rfl,hq,he,q⟩:=h;cases rx;obtain⟨t,rfl⟩:=ry;obtain⟨its,r,pl,hz⟩:=I.tuple hq;obtain⟨j,h1,h2,h3,h4,h5⟩:=qi he;obtain⟨w,ew,rw'⟩:=r.get h2;have hl:=r.length;have hn:=jB;have fin:EP X pins σ Q w s:=⟨z,H,I,rw',q⟩;exact MJ (x:=w) pl.typeIs slot_tuple_getitem.lookup
  (getItem_tuple (j:=j) (Q:=λr s'=>r=w/\EP X pins σ Q r s') pl (by lia) (by lia) (by rw[Qv,<-hl];exact h1) (by simpa using ew) ⟨rfl,fin⟩) hs
def C5:eg X rJ:=by
 intro value slice pins s σ H x y v u Q I rx ry h hs;obtain⟨z,i,c,rfl,rfl,hz,he,q⟩:=h;obtain⟨t,rfl⟩:=rx;obtain⟨t',rfl⟩:=ry;obtain⟨j,h1,h2,h3,h4,h5⟩:=qi he;have hl:z.cps.toList.length=z.length:=by simp[Str.length]
 rw[hl]at h1 h4 h5;have hn:=jB;exact tail_any (typeIs_str s z t) slot_str_getitem.lookup (getItem_str (c:=c) (by
  have e1:decide (i < -(2^63:Int))=false:=Ni (by lia);have e2:decide (i ≥ 2^63)=false:=Ni (by lia);rw[e1,e2,Bool.or_false]) (by rw[h1];simpa using h2) ⟨.str ⟨#[c]⟩,H,I.tok _,⟨_,rfl⟩,q⟩) hs
def Av(K:Qb):R2:=λx y H Q=>rP K x y H Q\/rO K x y H Q\/rJ x y H Q
def C4:eg X (Av X.K):=eM.or (fF.or C5)
def IW(its:List Value)(n j:Nat)(u:Value):Obj.mapSeq (·.setIfInBounds j u) {cls:=.type "list",data:=.seq its.toArray n}={cls:=.type "list",data:=.seq (its.set j u).toArray n}:=by
 simp[Obj.mapSeq]
theorem Inv.lst (I:Inv X pins σ H s)(h:H p=some (.lst xs)):
  ∃(its:List Value) (n:Nat),ay xs its/\s.heap.get? p=some {cls:=.type "list",data:=.seq its.toArray n}/\xs.length<=sizeLine:=by
 obtain⟨z,its,n,r,e⟩:=I.hok p _ h;exact⟨its,n,r,e,z⟩
def Inv.lstUpd{pins:List (Addr×Obj)}{σ:St}{H:Hp}{s:Shared}{p:Addr}{xs ys:List V}{its its':List Value}{n n':Nat}{f:Obj->Obj}(I:Inv X pins σ H s)(h:H p=some (.lst xs))
  (ho:s.heap.get? p=some {cls:=.type "list",data:=.seq its.toArray n}) (hf:f {cls:=.type "list",data:=.seq its.toArray n}={cls:=.type "list",data:=.seq its'.toArray n' }) (r:ay ys its') (hz:ys.length<=sizeLine) (t:Nat) :
  Inv X pins σ (aK H p (.lst ys)) {s with heap:=s.heap.update p f,toks:=t}:=by
 have e:(s.heap.update p f).get? p=some {cls:=.type "list",data:=.seq its'.toArray n' }:=by
  rw[Heap.get?_update_self f ho (by rw[hf]<;>rfl),hf]
 refine I.write (x:=p) (e:=p) (by rw[h];trivial) (.inl rfl) (λb u hb q=>(VE _ _ (Ne.symm hb)).trans q) ⟨_,e⟩ ?_;exact⟨hz,its',n',r,e⟩
def m8:V->V->V->Hp->(Hp->Prop)->Prop:=λo i v H Q=>∃p xs k j,o=.ref p/\i=.int k/\H p=some (.lst xs)/\ii xs.length k=some j/\Q (aK H p (.lst (xs.set j v)))
def G9:mJ X m8:=by
 intro pins s σ H o i v ov iv u Q I ro ri rv h;obtain⟨p,xs,k,j,rfl,rfl,hp,hj,q⟩:=h;cases ro;obtain⟨t,rfl⟩:=ri;obtain⟨its,n,r,ho,hz⟩:=I.lst hp;obtain⟨h1,h2,h3,h4⟩:=ub hj;have hl:=r.length;have hn:=jB;have I':Inv X pins σ (aK H p (.lst (xs.set j v))) {s with heap:=s.heap.update p (Obj.mapSeq (·.setIfInBounds j u))} :=
  I.lstUpd hp ho (IW its n j u) (r.set rv j) (by rw[Wa];exact hz) s.toks
 by_cases h0:0<=k
 .have hk:k.toNat=j:=by
   rw[ME h0 h4]at h1;exact Option.some.inj h1
  exact PySem.W.ki_setAt ho h0 (by lia) (by rw[Qv,<-hl];exact h4) (by rw[hk];exact⟨_,I',q⟩)
 .have hk:(k+(its.toArray.size:Int)).toNat=j:=by
   rw[MF (by lia) h3]at h1;rw[Qv,<-hl];exact Option.some.inj h1
  exact PySem.W.ki_setBack ho (by lia) (by rw[Qv,<-hl];exact h3) (by lia) (by rw[hk];exact⟨_,I',q⟩)
def qk(lo hi:Option Int)(n:Nat):(MK lo hi none n).1=((HT.cj n 0 lo:Nat):Int)/\(MK lo hi none n).2.1=((HT.cj n n hi:Nat):Int)/\(MK lo hi none n).2.2=1:=by
 refine⟨?_,?_,rfl⟩
 .cases lo with
  |none=>simp[MK,HT.cj]
  |some i=>
   simp only[MK,HT.cj,Option.getD_none,show(1:Int) > 0 by decide,if_true];by_cases h:i<0
   .simp only[h,if_true]<;>lia
   .simp only[h,if_false]<;>lia
 .cases hi with
  |none=>simp[MK,HT.cj]
  |some i=>
   simp only[MK,HT.cj,Option.getD_none,show(1:Int) > 0 by decide,if_true];by_cases h:i<0
   .simp only[h,if_true]<;>lia
   .simp only[h,if_false]<;>lia
def gA(its:List Value)(lo hi:Option Int):slicePick its.toArray lo hi none=((its.drop (HT.cj its.length 0 lo)).take (HT.cj its.length its.length hi-HT.cj its.length 0 lo)).toArray:=by
 obtain⟨h1,h2,h3⟩:=qk lo hi its.toArray.size;unfold slicePick;rw[h1,h2,h3];simp only[sliceRange_one,pick_run,Qv]<;>rfl
def rH(K:Qb):V->Option Int->Option Int->Hp->VK->Prop:=λx lo hi H Q=>∃a xs,x=.ref a/\bj K H a xs/\∀p,H p=none->Q (.ref p) (aK H p (.lst (fV xs lo hi)))
def FS:Bs X (rH X.K):=by
 intro pins s σ H x v vl vu lo hi sl Q I rx hs pl pu h;obtain⟨a,xs,rfl,hx,q⟩:=h;cases rx;obtain⟨its,r,ht,hz⟩:=I.list hx;have hlen:=r.length;refine⟨"list",_,slot_list_getitem.lookup,ht.isList.typeIs,?_⟩;refine wpAny_getItem_list_slice ht.isList hs pl pu .none (by simp) ?_ (by rw[Qv]<;>lia);rw[gA,<-hlen];refine⟨.ref s.heap.objs.size,_,I.laid (t':=s.toks) (o:=.lst (fV xs lo hi)) (λb ob q=>Qq _ q) (Qk _) ?_,rfl,q _ (I.hok.fresh (Qk _))⟩;exact⟨Qu (Jp xs lo hi) hz,_,0,(r.drop (HT.cj xs.length 0 lo)).take (HT.cj xs.length xs.length hi-HT.cj xs.length 0 lo),QR _ rfl⟩
def ql:bG X (.builtin "len") (λxs H Q=>∃p ys,xs=[.ref p]/\(bj X.K H p ys\/cb X.K H p ys)/\Q (.int ys.length) H):=by
 intro pins s σ H xs us Q I r h;obtain⟨p,ys,rfl,hq,q⟩:=h;obtain⟨u,rfl,rx⟩:=gF r;cases rx;have hn:=jB;rcases hq with hq|hq
 .obtain ⟨its,r',pl,hz⟩:=I.list hq;have hlen:=r'.length;exact Calls.call_len_list pl.isList (by simp only[Qv]<;>lia) ⟨.int ys.length,H,I.tok _,⟨s.toks+1,by rw[Qv,hlen]⟩,q⟩
 .obtain ⟨its,r',pl,hz⟩:=I.tuple hq;have hlen:=r'.length;exact len_tuple pl (by simp only[Qv]<;>lia) ⟨.int ys.length,H,I.tok _,⟨s.toks+1,by rw[Qv,hlen]⟩,q⟩
def qm:bG X (.type "list") (λxs H Q=>∃p ys,xs=[.ref p]/\(bj X.K H p ys\/cb X.K H p ys)/\∀l,H l=none->Q (.ref l) (aK H l (.lst ys))):=by
 intro pins s σ H xs us Q I r h;obtain⟨p,ys,rfl,hq,q⟩:=h;obtain⟨u,rfl,rx⟩:=gF r;cases rx;have fin:∀(its:List Value),ay ys its->ys.length<=sizeLine->∀(h':LK) (c':Nat),(∀b o',s.heap.get? b=some o'->h'.get? b=some o') ->
   h'.get? s.heap.objs.size=some {cls:=.type "list",dict:=none,data:=.seq its.toArray c',slots:=#[]}->EP X pins σ Q (.ref s.heap.objs.size) {s with heap:=h' }:=λits r' hz h' c' kp e=>
  ⟨.ref s.heap.objs.size,_,I.laid (t':=s.toks) kp (Qk _) (show aW X.prog X.w _ h' _ (.lst ys)from⟨hz,its,c',r',e⟩),rfl,q _ (I.hok.fresh (Qk _))⟩
 rcases hq with hq|hq
 .obtain ⟨its,r',pl,hz⟩:=I.list hq;have hlen:=r'.length;obtain⟨o,ho,hc,n,hd⟩:=pl.isList;exact call_list_seq p (.inl rfl) ho hc hd (λh' c' kp e=>fin its r' hz h' c' kp e) (by simp only[Qv]<;>lia)
 .obtain ⟨its,r',pl,hz⟩:=I.tuple hq;have hlen:=r'.length;obtain⟨o,ho,hc,n,hd⟩:=pl;exact call_list_seq p (.inr rfl) ho hc hd (λh' c' kp e=>fin its r' hz h' c' kp e) (by simp only[Qv]<;>lia)
def lI(K:Qb)(T:String)(x:V)(H:Hp):Prop:=match x with
 |.str _=>T="str"
 |.int _=>T="int"
 |.ref p=>(T="list" /\ ∃xs,bj K H p xs)\/(T="tuple" /\ ∃o,K.lookup p=some o/\o.cls=.type "tuple" /\ o.dict=none) \/
   (T="dict" /\ ((∃kvs,H p=some (.dK kvs))\/∃kvs,H p=some (.dT kvs)))\/(T="set" /\ ∃S n,H p=some (.set S n))
 |_=>False
def sW (I:Inv X pins σ H s)(r:RelV x v)(ty:lI X.K T x H):
  s.TypeIs v T/\∀a,v=.ref a->∃ob,s.heap.get? a=some ob/\ob.dict=none:=by
 cases x with
 |str z=>
  obtain⟨t,rfl⟩:=r;cases(show T="str" from ty);exact⟨typeIs_str s z t,λ_ e=>nomatch e⟩
 |int i=>
  obtain⟨t,rfl⟩:=r;cases(show T="int" from ty);exact⟨typeIs_int s i t,λ_ e=>nomatch e⟩
 |ref p=>
  cases r;rcases ty with⟨rfl,xs,hq⟩|⟨rfl,o,hk,hc,hd⟩|⟨rfl,hk⟩|⟨rfl,S,n,hk⟩
  .obtain ⟨its,_,pl,_⟩:=I.list hq;refine⟨pl.isList.typeIs,λa e=>?_⟩;cases e;obtain⟨o,n,e,c,hd,_⟩:=pl;exact⟨o,e,hd⟩
  .refine ⟨⟨o,I.kIn p o hk,hc⟩,λa e=>?_⟩;cases e;exact⟨o,I.kIn _ o hk,hd⟩
  .have z:∃o,s.heap.get? p=some o/\o.ExactDict:=by
    rcases hk with⟨kvs,hk⟩|⟨kvs,hk⟩
    .obtain ⟨_,_,_,_,o,_,_,e,ex,_⟩:=I.hok p _ hk;exact⟨o,e,ex⟩
    .obtain ⟨_,_,_,_,o,_,_,e,ex,_⟩:=I.hok p _ hk;exact⟨o,e,ex⟩
   obtain⟨o,e,ex⟩:=z;refine⟨⟨o,e,ex.1⟩,λa e2=>?_⟩;cases e2;exact⟨o,e,ex.2.1⟩
  .obtain ⟨o,_,_,_,e,ex,_⟩:=I.hok p _ hk;refine⟨⟨o,e,ex.1⟩,λa e2=>?_⟩;cases e2;exact⟨o,e,ex.2.1⟩
 |_=>exact False.elim ty
def ot(K:Qb)(T:String)(r:V->List V->Hp->VK->Prop)(to:TE):TE:=λσ H Q=>to σ H λx H1=>lI K T x H1/\r x [] H1 Q
def JE(K:Qb)(T:String)(r:V->List V->Hp->VK->Prop)(to:TE)(t:TA):TE:=λσ H Q=>to σ H λx H1=>lI K T x H1/\t σ H1 λxs H2=>r x xs H2 Q
variable{o e:Expr}{es:List Expr}{to:TE}{t:TA}{name:Str}{apos cpos:Pos}{T id:String}{r:V->List V->Hp->VK->Prop}
def C3(pa:PlainAttrs T)(slot:Slot T name id)(hty:typeOf (.builtin id)=pure (.type "method_descriptor"))(hm:pF X id r)(ho:PE X o to)
  (hbase:ML o name X.env (eval o X.env)=eval o X.env:=by rfl) (hline:(apos.endLine==cpos.line)=true:=by rfl):PE X (.Call (.Attribute o name apos) [] [] cpos) (ot X.K T r to):=by
 intro pins s σ H Q I h;refine wpAny_Call_method0_late hbase hline (aZ (ho pins s σ H _ I h) λv s1 ⟨x,H1,I1,r1,ty,q1⟩=>?_);obtain⟨h1,h2⟩:=sW I1 r1 ty;exact⟨T,id,pa,slot,hty,h1,h2,Calls.callWith_builtin rfl (PySem.evalArgs_none (hm pins s1 σ H1 x [] v [] Q I1 r1 .nil q1))⟩
def BM(pa:PlainAttrs T)(slot:Slot T name id)(hty:typeOf (.builtin id)=pure (.type "method_descriptor"))(hm:pF X id r)(ho:PE X o to)(ha:PA X (e::es) t)
  (hbase:ML o name X.env (eval o X.env)=eval o X.env:=by rfl)
  (hfew:((LX cpos (LY (e::es) X.env)).all (λx=>! x.1)&&(backToKw cpos (MM [] X.env)).all (λx=>x.1.isSome)
   && decide ((e::es).length+([]:List MN).length+(if([]:List MN).isEmpty then 0 else 1)<30))=true:=by rfl)
  (hline:(apos.endLine==cpos.line)=true:=by rfl) (hs:LY (e::es) X.env=(false,eval e X.env)::LY es X.env:=by rfl) (hplain:(LX cpos (LY es X.env)).any (·.1)=false:=by rfl) :
  PE X (.Call (.Attribute o name apos) (e::es) [] cpos) (JE X.K T r to t):=by
 intro pins s σ H Q I h;refine wpAny_Call_method_late hbase hfew hline rfl (aZ (ho pins s σ H _ I h) λv s1 ⟨x,H1,I1,r1,ty,q1⟩=>?_);obtain⟨h1,h2⟩:=sW I1 r1 ty;refine⟨T,id,pa,slot,hty,h1,h2,?_⟩;have hA:=ha cpos pins s1 σ H1 _ I1 q1;rw[hs]at hA ⊢;refine Calls.callWith_builtin (by show(false || (LX cpos (LY es X.env)).any (·.1))=false;rw[hplain]<;>rfl) (Calls.evalArgs_plain ?_);exact aZ hA λus s2 ⟨vs,H2,I2,r2,q2⟩=>hm pins s2 σ H2 x vs v us Q I2 r1 r2 q2
end
def md(X:Cx)(id:String)(r:V->List V->Hp->VK->Prop):Prop:=
 ∀(pins:List (Addr×Obj)) (s:Shared) (σ:St) (H:Hp) (x:V) (xs:List V) (v:Value) (us:List Value) (Q:VK),Inv X pins σ H s->RelV x v->ay xs us->r x xs H Q ->
  LV (LW X.prog X.w) X.A (call (.builtin id) (v::us)) (EP X pins σ Q) X.xe s
def ay.one:∀{x:V}{us:List Value},ay [x] us->∃u,us=[u]/\RelV x u
 |_,_,.cons r .nil=>⟨_,rfl,r⟩
def ay.zero:∀{us:List Value},ay [] us->us=[]
 |_,.nil=>rfl
theorem ay.dropLast{xs:List V}{us:List Value}(h:ay xs us):ay xs.dropLast us.dropLast:=by
 induction h with
 |nil=>exact .nil
 |cons r t ih=>
  cases t with
  |nil=>exact .nil
  |cons q t'=>exact .cons r ih
theorem ay.eraseIdx:∀{xs:List V}{us:List Value}(i:Nat),ay xs us->ay (xs.eraseIdx i) (us.eraseIdx i)
 |_,_,_,.nil=>.nil
 |_,_,0,.cons _ t=>t
 |_,_,i+1,.cons r t=>.cons r (ay.eraseIdx i t)
theorem ay.reverse{xs:List V}{us:List Value}(h:ay xs us):ay xs.reverse us.reverse:=by
 induction h with
 |nil=>exact .nil
 |cons r t ih=>rw[Wb,Wb];exact ay.append ih (.cons r .nil)
theorem ay.rep (h:ay xs us):∀k:Nat,ay (Qx k xs).flatten (Qx k us).flatten
 |0=>.nil
 |k+1=>by
  rw[QY,QY,Wc,Wc];exact ay.append h (ay.rep h k)
def IV{α:Type}(l:List α):l.eraseIdx (l.length-1)=l.dropLast:=by
 induction l with
 |nil=>rfl
 |cons a r ih=>
  cases r with
  |nil=>rfl
  |cons b r=>
   have e:(a::b::r).length-1=((b::r).length-1)+1:=by
    have h1:(a::b::r).length=r.length+2:=rfl;have h2:(b::r).length=r.length+1:=rfl;lia
   rw[e,List.eraseIdx_cons_succ,ih]
   all_goals rfl
theorem gM(its:List Value):∀(k:Nat) (acc:List Value),
  Vz (λx1 x2=>x1++x2) acc.toArray (Qx k its.toArray)=(acc++(Qx k its).flatten).toArray
 |0,acc=>by simp
 |k+1,acc=>by
  have e:acc.toArray++its.toArray=(acc++its).toArray:=by simp
  have e2:(acc++its)++(Qx k its).flatten=acc++(Qx (k+1) its).flatten:=by
   rw[QY,Wc,Wm]
  rw[<-e2,<-gM its k (acc++its),<-e,QY,List.foldl_cons]
section
variable{X:Cx}{pins:List (Addr×Obj)}{σ:St}{H:Hp}{s:Shared}{l:Addr}{xs ys:List V}
def Inv.lset{its its':List Value}{n:Nat}{f:Array Value->Array Value}{t':Nat}(I:Inv X pins σ H s)(hH:H l=some (.lst xs))
  (e:s.heap.get? l=some {cls:=.type "list",data:=.seq its.toArray n}) (hf:f its.toArray=its'.toArray) (hv:ay ys its') (hz:ys.length<=sizeLine) :
  Inv X pins σ (aK H l (.lst ys)) {s with heap:=s.heap.update l (Obj.mapSeq f),toks:=t' }:=by
 have q:=PySem.IsL.update e f;rw[hf]at q;refine I.write (x:=l) (e:=l) (by rw[hH];exact trivial) (.inl rfl) (λb' u hb hu=>(VE s.heap (Obj.mapSeq f) (Ne.symm hb)).trans hu) ⟨_,q⟩ ?_;exact⟨hz,its',_,hv,q⟩
def Inv.lnew{its:List Value}{t':Nat}(I:Inv X pins σ H s)(hv:ay ys its)(hz:ys.length<=sizeLine):
  Inv X pins σ (aK H s.heap.objs.size (.lst ys)) {s with heap:=s.heap.push {cls:=.type "list",data:=.seq its.toArray},toks:=t' } :=
 I.laid (λ_ _ q=>Qq _ q) (Qk _) ⟨hz,its,0,hv,QR _ rfl⟩
theorem Inv.fresh(I:Inv X pins σ H s):H s.heap.objs.size=none:=I.hok.fresh (Qk _)
def Inv.lstM(I:Inv X pins σ H s)(hH:H l=some (.lst xs)):xs.length<=sizeLine/\∃(its:List Value) (n:Nat),ay xs its/\xs.length=its.length/\s.heap.get? l=some {cls:=.type "list",data:=.seq its.toArray n}:=by
 obtain⟨z,its,n,r,e⟩:=I.hok l _ hH;exact⟨z,its,n,r,r.length,e⟩
def G8 (h:n<=sizeLine):Builtin.List.listTooLong n=false:=by
 unfold Builtin.List.listTooLong;exact Ni (by lia)
end
section
variable{X:Cx}
def FR:V->List V->Hp->VK->Prop:=λx vs H Q=>∃l xs y,x=.ref l/\vs=[y]/\H l=some (.lst xs)/\xs.length<sizeLine/\Q .non (aK H l (.lst (xs++[y])))
def gN:md X "list.append" FR:=by
 intro pins s σ H x vs v us Q I rx rv h;obtain⟨l,xs,y,rfl,rfl,hH,hz,q⟩:=h;cases rx;obtain⟨u,rfl,ru⟩:=rv.one;obtain⟨z,its,n,r,hl,e⟩:=I.lstM hH;refine MO F.slot_list_append ⟨_,e,rfl⟩ F.entry_list_append (F.args_list_append_2 _ _) (PySem.list_append l its.toArray n u (by rw[Qv];lia)) ⟨e,?_⟩;refine⟨.non,_,I.lset (its':=its++[u]) hH e (by simp) (r.append (.cons ru .nil)) ?_,rfl,q⟩;rw[QW,List.length_singleton];lia
def oD:V->List V->Hp->VK->Prop:=λx vs H Q=>∃l xs y,x=.ref l/\vs=[]/\H l=some (.lst xs)/\xs[xs.length-1]?=some y/\Q y (aK H l (.lst xs.dropLast))
def C2:md X "list.pop" oD:=by
 intro pins s σ H x vs v us Q I rx rv h;obtain⟨l,xs,y,rfl,rfl,hH,hy,q⟩:=h;cases rx;have hus:=rv.zero;subst hus;obtain⟨z,its,n,r,hl,e⟩:=I.lstM hH;obtain⟨u,hu,ru⟩:=r.get hy;have hy':its.toArray[its.toArray.size-1]?=some u:=by
  show its.toArray[its.length-1]?=some u;rw[<-Array.getElem?_toList,<-hl];exact hu
 refine MO F.slot_list_pop ⟨_,e,rfl⟩ F.entry_list_pop (F.args_list_pop_1 _) (MeetsSeq.list_pop_last l its.toArray n u hy' (by rw[Qv];lia)) ⟨e,?_⟩;refine⟨y,_,I.lset (its':=its.dropLast) hH e ?_ r.dropLast ?_,ru,q⟩
 .show its.toArray.eraseIdxIfInBounds (its.toArray.size-1)=its.dropLast.toArray;rw[Qv,List.eraseIdxIfInBounds_toArray,IV]
 .rw[List.length_dropLast];lia
def G7:V->List V->Hp->VK->Prop:=λx vs H Q=>∃l xs,x=.ref l/\vs=[]/\H l=some (.lst xs)/\Q .non (aK H l (.lst xs.reverse))
def IU:md X "list.reverse" G7:=by
 intro pins s σ H x vs v us Q I rx rv h;obtain⟨l,xs,rfl,rfl,hH,q⟩:=h;cases rx;have hus:=rv.zero;subst hus;obtain⟨z,its,n,r,hl,e⟩:=I.lstM hH;refine MO F.slot_list_reverse ⟨_,e,rfl⟩ F.entry_list_reverse (F.args_list_reverse_1 _) (AutoSeq1.list_reverse_list_0 l its.toArray n (by rw[Qv];lia)) ⟨e,?_⟩;refine⟨.non,_,I.lset (its':=its.reverse) hH e (by simp) r.reverse ?_,rfl,q⟩;rw[List.length_reverse];lia
def C1:V->List V->Hp->VK->Prop:=λx vs H Q=>∃l xs,x=.ref l/\vs=[]/\H l=some (.lst xs)/\Q .non (aK H l (.lst []))
def G6:md X "list.clear" C1:=by
 intro pins s σ H x vs v us Q I rx rv h;obtain⟨l,xs,rfl,rfl,hH,q⟩:=h;cases rx;have hus:=rv.zero;subst hus;obtain⟨z,its,n,r,hl,e⟩:=I.lstM hH;refine MO F.slot_list_clear ⟨_,e,rfl⟩ F.entry_list_clear (F.args_list_clear_1 _) (AutoSeq1.list_clear_list_0 l its.toArray n (by rw[Qv];lia)) ⟨e,?_⟩;exact⟨.non,_,I.lset (its':=[]) (ys:=[]) hH e rfl .nil (WY _),rfl,q⟩
def rG:R2:=λx y H Q=>∃l b xs zs,x=.ref l/\y=.ref b/\H l=some (.lst xs)/\H b=some (.lst zs)/\xs.length+zs.length<=sizeLine/\∀p,H p=none->Q (.ref p) (aK H p (.lst (xs++zs)))
def fD:cr X (Mn .Add) rG:=by
 intro pins s σ H x y v u Q I rx ry h;obtain⟨l,b,xs,zs,rfl,rfl,hH,hB,hz,q⟩:=h;cases rx;cases ry;obtain⟨z,its,n,r,hl,e⟩:=I.lstM hH;obtain⟨z2,its2,n2,r2,hl2,e2⟩:=I.lstM hB;refine PySem.P.add_list e e2 ?_ (by rw[Qv,Qv];lia);have ea:its.toArray++its2.toArray=(its++its2).toArray:=by simp
 rw[ea];exact⟨.ref _,_,I.lnew (t':=s.toks) (r.append r2) (by rw[QW];lia),rfl,q _ I.fresh⟩
def rF:R2:=λx y H Q=>∃l k xs,x=.ref l/\y=.int k/\H l=some (.lst xs)/\-(2^63)<=k/\k<2^63/\xs.length*k.toNat<=sizeLine /\
 ∀p,H p=none->Q (.ref p) (aK H p (.lst (Qx k.toNat xs).flatten))
def ua{α:Type}(xs:List α)(k:Nat):(Qx k xs).flatten.length=k*xs.length:=by
 induction k with
 |zero=>simp
 |succ k ih=>rw[QY,Wc,QW,ih,Nat.succ_mul,Nat.add_comm]
def C0:cr X (Mn .Mult) rF:=by
 intro pins s σ H x y v u Q I rx ry h;obtain⟨l,k,xs,rfl,rfl,hH,h1,h2,hz,q⟩:=h;cases rx;obtain⟨t,rfl⟩:=ry;obtain⟨z,its,n,r,hl,e⟩:=I.lstM hH;have hlen:its.toArray.size*k.toNat<=sizeLine:=by rw[Qv,<-hl];exact hz
 have hcap:¬its.toArray.size*k.toNat > (2^63-1)/8:=by
  have:(sizeLine:Nat)<=(2^63-1)/8:=by decide
  lia
 have hfit:¬(! Builtin.List.listFitsIndex k)=true:=by
  rw[fitsIndex_both h1 h2];exact QQ
 have hlong:¬Builtin.List.listTooLong (its.toArray.size*k.toNat)=true:=by
  rw[G8 hlen];exact QQ
 have hnew:Vz (λx1 x2=>x1++x2) #[] (Qx (if its.toArray.isEmpty=true then 0 else k.toNat) its.toArray)=(Qx k.toNat its).flatten.toArray:=by
  have f0:∀m:Nat,Vz (λx1 x2=>x1++x2) #[] (Qx m its.toArray)=(Qx m its).flatten.toArray:=λm=>by
   have:=gM its m [];rw[QO]at this;exact this
  rw[f0];cases its with
  |nil=>simp
  |cons a r'=>rw[Nk (by simp)]
 refine wpAny_binaryOp_repeat_ref (T:="list") (U:="int") (by decide) ⟨_,e,rfl⟩ (λs'=>typeIs_int s' k t) noFill_list_mul F.fills_int_mul F.slot_int_rmul repeat_list F.slot_int_index.lookup
  (MO F.slot_int_rmul (typeIs_int s k t) F.entry_int_rmul (F.args_int_rmul_2 _ _) (int___rmul___int_list k t l its.toArray n)
   ⟨e,rfl,⟨_,e,rfl⟩,MO F.slot_list_mul ⟨_,e,rfl⟩ F.entry_list_mul (F.args_list_mul_2 _ _) (AutoListH.list___mul___list_int_3 l its.toArray n k t hfit hcap hlong) ⟨e,?_⟩⟩)
 rw[hnew];exact⟨.ref _,_,I.lnew (t':=s.toks) (r.rep k.toNat) (by rw[ua,W3];exact hz),rfl,q _ I.fresh⟩
end
end L2
namespace Att
open PySem PySem.W PySem.Calls PyProof.Rows
def jm:∀(ns:List Int) (vs:List Value),WellAll P h vs (ns.map WData.int)->MP vs ns:=by
 intro ns
 induction ns with
 |nil=>
  intro vs w;rw[W1]at w;cases w;exact .nil
 |cons n ns ih=>
  intro vs w;rw[QT]at w;cases w with
  |cons a b=>
   cases a;exact .cons _ _ (ih _ b)
def HQ {l:OpenLaw}(hn:l.most=some n)(hpre:l.row.toRowW.claim.pre args=true)(hwl:WellAll P h vals args):
  ∃a vs ns,vals=[Value.ref a]/\args=[WData.list (ns.map WData.int)]/\h.get? a=some {cls:=.type "list",data:=.seq vs.toArray}/\MP vs ns/\ns.length<=n:=by
 have hsh:WShape.hasAll [] args [.list .int]=true:=(pre_splitW hpre).1;have hc:l.pre.holds [] {args:=args}=true:=(pre_splitW hpre).2;obtain⟨d,r,rfl,h1,h2⟩:=hasAllW_cons hsh;obtain rfl:=hasAllW_nil h2;obtain⟨xs,rfl,h3⟩:=hasW_list h1;obtain⟨ns,rfl⟩:=items_int h3;have hlen:ns.length<=n:=by
  unfold OpenLaw.pre at hc;have h4:(WTm.not (.lt (.lit (.int (n:Int))) (.len (.arg 0)))).holds [] {args:=[.list (ns.map .int)]}=true:=by
   have h4:=(holds_andW hc).1;rw[hn]at h4;exact h4
  have h5:=condW_of h4 (w_not (w_lt w_lit (w_len_list (w_arg rfl))));rw[Qm]at h5;refine Nat.le_of_not_lt λq=>?_;have q':(n:Int)<((ns.length:Nat):Int):=by lia
  first
   |(rw[Nn q']at h5;exact Nl h5 (by decide))
   |(simp at h5;lia)
 cases hwl with
 |cons w1 w2=>
  cases w2;cases w1 with
  |list ho hall=>exact⟨_,_,ns,rfl,rfl,ho,jm ns _ hall,hlen⟩
def HP(l:OpenLaw)(args:List WData):l.row.toRowW.claim.post args (.bool true) args=true:=
 postW_of (r:=l.row.toRowW) (X:=(true==true))
  (show WShape.has [] (.bool true) .bool=true by first|rfl|decide|simp[WShape.has,WShape.arms,WShape.armsAll])
  (show(WTm.eq .res (.lit (.bool true))).value [] {args:=args,res:=some (.bool true),after:=args}=some (.bool (true==true))from w_eq_bool (w_res rfl) w_lit) rfl
def dz {l:OpenLaw}(hn:l.most=some n)(hdf:d.params.defaults=[])(call:∀(w:LG) (s₀ s₁:Shared) (mg mb:Str->Option Value) (fa:Addr) (o:Obj) (pm cd doc:Value) (a:Addr) (vs:List Value) (ns:List Int),
   Ground q loose [] XP w s₀ mg mb s₁.heap->YP w s₁.heap ->
   s₁.heap.get? fa=some o->o.data=.func (docDef d.name d.params d.body d.scope pm cd doc)->s₁.heap.CodeRec cd d.name->mg d.name=some (.ref fa) ->
   s₁.heap.get? a=some {cls:=.type "list",data:=.seq vs.toArray}->MP vs ns->ns.length<=n->s₁.gens=#[] ->
   Mv (LW l.prog w) MQ (.call (.ref fa) ⟨[.ref a],[]⟩) (λr s'=>r=.ok (.ret (.bool true))/\OldK s₁.heap s'.heap/\s'.os=s₁.os/\LR s'.gens) s₁):
  WalkO q loose XP YP l.row.toRowW d [] (λf vs=>PySem.call f vs):=by
 intro w s₀ s₁ mg mb G Y fa o pm cd doc dV kV ho hd hcd hD hmg hg args vals as hpre hlay hrd hwl hlo;obtain rfl:dV=.none:=Dflts.none hD hdf;obtain rfl:kV=.none:=Dflts.noKw hD;obtain⟨a,vs,ns,rfl,rfl,hobj,hints,hlen⟩:=HQ hn hpre hwl;refine enter_call (Mw (call w s₀ s₁ mg mb fa o pm cd doc a vs ns G Y ho (fd_plain hd) hcd hmg hobj hints hlen hg) λr s' hq=>?_);obtain⟨rfl,h2,h3,h4⟩:=hq;exact⟨.inl ⟨.bool true,.bool true,[],rfl,λ_=>rfl,.bool true,HP l _,λ_=>⟨List.Pairwise.nil,λ_ hm=>(nomatch hm)⟩⟩,h2,h3,h4⟩
end Att
namespace L2
set_option tactic.hygienic false
open PySem PySem.Spec PyProof.Rows
theorem gO:∀{vs:List Value}{ns:List Int},MP vs ns->ay (ns.map V.int) vs
 |_,_,.nil=>.nil
 |_,_,.cons n t h=>.cons ⟨t,rfl⟩ (gO h)
def iC(H:Hp):Prop:=∀b,H b=none\/∃o xs,H b=some (.frz o (.lst xs))
def GZ {K:Qb}(KX:K.In s₁.heap)(hns:s₁.heap.Ns LO mg)(hb:s₁.heap.Ns builtinsNs mb)(hbb:∀x:Str,x ≠ "__name__" -> mb x=LP x)(hlim:s₁.heap.NoLimit)(hg:s₁.gens=#[])(ha:s₁.heap.get? a=some {cls:=.type "list",data:=.seq vs.toArray})(hi:MP vs ns)(hl:ns.length<=sizeLine)(hr:cc k MQ)(F:∀base:LK,K.In base->base.Ns LO mg->cf P w K mg base CX k fa fd [x] sp)(hbind:∀(s:Shared) (u:Value),Mu s fd ⟨[u],[]⟩ [(x,u)])(hsp:∀H:Hp,iC H->bj K H a (ns.map V.int)->sp [.ref a] H (λv _=>v=.bl true) λ_ _ _=>False)(hCX:∀H e s',CX [] H s₁ (λ_ _ _=>False) e s'->False):
  Mv (LW P w) MQ (.call (.ref fa) ⟨[.ref a],[]⟩) (λr s'=>r=.ok (.ret (.bool true))/\OldK s₁.heap s'.heap/\s'.os=s₁.os/\LR s'.gens) s₁:=by
 have rv:=gO hi;have lenV:=hi.length
 -- from an abstract heap in which nothing but the script may be tracked
 have core:∀H:Hp,iC H->bj K H a (ns.map V.int)->cg P w H s₁.heap->(∀b,H b≠none->b=a)->(H a≠none->K.lookup a=none) ->
   Mv (LW P w) MQ (.call (.ref fa) ⟨[.ref a],[]⟩) (λr s'=>r=.ok (.ret (.bool true))/\OldK s₁.heap s'.heap/\s'.os=s₁.os/\LR s'.gens) s₁:=by
  intro H hO hS hok hA hK;have cy:∀{b:Addr}{o:Obj},s₁.heap.get? b=some o->H b=none->(qd s₁.heap H).get? b=some o:=λe n=>IE e n;have noA:∀{b:Addr}{o:Obj}{es:Array LC}{ep:Nat},s₁.heap.get? b=some o->o.data=.dict es ep->H b=none:=λ{b o es ep} e d=>by
   cases q:H b with
   |none=>rfl
   |some u=>
    have e':b=a:=hA b (by rw[q];simp);subst e';rw[ha]at e;cases e;have d':Data.seq vs.toArray _=Data.dict es ep:=d;cases d'
  have nsK:∀{b:Addr}{m:Str->Option Value},s₁.heap.Ns b m->(qd s₁.heap H).Ns b m:=λ{b m} ⟨o,es,ep,e,d,r⟩=>⟨o,es,ep,cy e (noA e d),d,r⟩;have hKb:K.In (qd s₁.heap H):=λb o e=>cy (KX b o e) (by
   cases q:H b with
   |none=>rfl
   |some u=>
    have e':b=a:=hA b (by rw[q];simp);subst e';rw[hK (by rw[q];simp)]at e;cases e)
  have hM:Mod K mg (qd s₁.heap H):=⟨hKb,nsK hns,⟨mb,nsK hb,hbb⟩,let⟨mc,h1,h2⟩:=hlim;⟨mc,nsK h1,h2⟩⟩;have e0:eV P w K mg (qd s₁.heap H) MQ [] s₁ H:=⟨rfl,hM,λb o e=>F2 e,Vo (IL _ _),trivial,λb hb=>Nl (show b∈([]:List Addr)from hb) (by simp),hok,.of_eq hg⟩;refine Mw ((F _ hKb (nsK hns)).run MQ [] s₁ H ⟨[.ref a],[]⟩ [.ref a] [.ref a] _ _ hr e0 (hbind s₁ (.ref a)) (.cons rfl .nil) (hsp H hO hS)) λr s' h=>?_;cases r with
  |error e=>exact(hCX H e s' h).elim
  |ok fl=>
   cases fl with
   |next=>exact False.elim h
   |brk=>exact False.elim h
   |cont=>exact False.elim h
   |ret u=>
    obtain⟨v,H',os,bare,un,hok',r',q⟩:=h;have q':v=.bl true:=q;subst q';obtain rfl:u=Value.bool true:=r';refine⟨rfl,OldK.of_keep λb o e=>?_,os,bare⟩;cases q:H b with
    |none=>exact un.keep b o e q (by intro z;exact Nl (show b∈([]:List Addr)from z) (by simp)) (by simp)
    |some u=>
     rcases hO b with z|⟨ob,xs,z⟩
     .rw[q]at z;cases z
     .have z2:=un.frzs b ob _ z;obtain⟨e1,_⟩:=hok b _ z;obtain⟨e2,_⟩:=hok' b _ z2;rw[e]at e1;cases e1;exact e2
 cases hk:K.lookup a with
 |some o=>
  -- the script is one of the module's own objects
  have e:=KX a o hk;rw[ha]at e;cases e;refine core (λ_=>none) (λ_=>.inl rfl) (.inr ⟨_,vs.toArray,_,hk,rfl,rfl,rfl,by rw[Qv,lenV];exact hl,by simpa using rv⟩) (λb u z=>by have z':(none:Option HO)=some u:=z;cases z') (λb z=>Nl rfl z) λz=>Nl rfl z
 |none=>
  refine core (λb=>if b=a then some (.frz {cls:=.type "list",data:=.seq vs.toArray} (.lst (ns.map V.int)))else none) (λb=>?_) (.inl (.inr ⟨{cls:=.type "list",data:=.seq vs.toArray},Nj rfl⟩)) (λb u z=>?_) (λb z=>?_) λ_=>hk
  .by_cases hb:b=a
   .exact .inr ⟨_,_,Nj hb⟩
   .exact .inl (Nk hb)
  .by_cases hb:b=a
   .have z':=(Nj hb).symm.trans z;cases z';subst hb;exact⟨ha,by rw[Qm];exact hl,vs,_,rv,ha⟩
   .have z':=(Nk hb).symm.trans z;cases z'
  .by_cases hb:b=a
   .exact hb
   .exact Nl (Nk hb) z
def cE {l:PySem.W.OpenLaw}{K:LB->Qb}{CX:LG->eB}{sp:LG->Sp}(hn:l.most=some n)(hn2:n<=sizeLine)(hdf:d.params.defaults=[])(hr:cc k MQ)(hY:∀(w:LG) (h:LK),YP w h->(K w.params).In h)(F:∀(w:LG) (mg:Str->Option Value) (fa:Addr) (h:LK),(K w.params).In h->h.Ns LO mg->mg d.name=some (.ref fa) ->
   ∃fd:Mt,(∀(s:Shared) (u:Value),Mu s fd ⟨[u],[]⟩ [(x,u)]) /\
    ∀base:LK,(K w.params).In base->base.Ns LO mg->cf l.prog w (K w.params) mg base (CX w) k fa fd [x] (sp w))(hsp:∀(w:LG) (H:Hp) (a:Addr) (ns:List Int),ns.length<=n->iC H->bj (K w.params) H a (ns.map V.int)->sp w [.ref a] H (λv _=>v=.bl true) λ_ _ _=>False)(hCX:∀(w:LG) (H:Hp) (s:Shared) (e:Value) (s':Shared),CX w [] H s (λ_ _ _=>False) e s'->False):
  Vx q loose XP YP l.row.toRowW d [] (λf vs=>PySem.call f vs):=by
 refine Att.dz hn hdf λw s₀ s₁ mg mb fa o pm cd doc a vs ns G Y ho hd hcd hmg hobj hints hlen hg=>?_;have KX:=hY w _ Y;obtain⟨fd,hb,hF⟩:=F w mg fa _ KX G.T.g hmg;exact GZ KX G.T.g G.T.b G.T.builtins G.T.nolimit hg hobj hints (Qu hlen hn2) hr hF hb (λH hO hS=>hsp w H a ns hlen hO hS) λH e s'=>hCX w H s₁ e s'
abbrev dI:eB:=λ_ _ _ _ _ _=>False
abbrev E0:XK:=λ_ _ _=>False
def BL:jC dI X E0:=λ_ _ _ _ _ _ _ h=>h.elim
structure eI(K:Qb)(x qual:Str)(st:Stmt)(f:Addr)(fd:Mt):Prop where
 ex:∃(oc:Value) (od:Option Addr) (kV doc pm:Value) (an:Option Addr) (cdv ct:Value) (osl:Array (Option Value)),
  fd=Wt x qual (wK st) (xg st) (zL st) .none kV doc pm an cdv ct/\K.lookup f=some ⟨oc,od,.func fd,osl⟩/\W2 K cdv qual=true
 kp:Q7 K (.ref f)=true
section
variable{P:LF}{w:LG}{K:Qb}{mg:Str->Option Value}{base:LK}
def eI.ok {st:Stmt}(F:eI K x qual st f fd)(S:cL N ps (zL st))(len:∀vs H Q E,sp vs H Q E->vs.length=ps.length)(hbody:∀(cdv:Value) (A:LQ) (outer:List Env) (s:Shared) (H:Hp) (vs:List V) (Q:VK) (E:XK),cc k (A.deeper (envOfC qual (zL st) s.heap.objs.size f cdv))->sp vs H Q E ->
   ∃t,cv (jl dI P w K mg base N qual (zL st) f cdv A outer s H E).nox (xg st) t/\t {nx:=λ_ H'=>Q .non H',rt:=Q} (start N vs) H):cf P w K mg base dI (k+1) f fd ps sp:=by
 obtain⟨oc,od,kV,doc,pm,an,cdv,ct,osl,rfl,lk,hcd⟩:=F.ex;refine r6 lk hcd S len λA outer s H vs Q E hr hsp=>?_;obtain⟨t,h,q⟩:=hbody cdv A outer s H vs Q E hr hsp;exact⟨t,h.nox,q⟩
def eI.binds {st:Stmt}(F:eI K x qual st f fd)(h:∀(kV doc pm:Value) (an:Option Addr) (cdv ct:Value) (us:List Value),us.length=ps.length->bindArgs (Wt x qual (wK st) (xg st) (zL st) .none kV doc pm an cdv ct) ⟨us,[]⟩=pure (ps.zip us)):Binds K fd ps []:=by
 obtain⟨oc,od,kV,doc,pm,an,cdv,ct,osl,rfl,lk,hcd⟩:=F.ex;exact .all (h kV doc pm an cdv ct)
def CZ {st:Stmt}{kV:Value}(l:K.lookup f=some ⟨oc,od,.func (Wt x qual (wK st) (xg st) (zL st) .none kV doc pm an cdv ct),osl⟩)(c:W2 K cdv qual=true)(k:Q7 K (.ref f)=true):eI K x qual st f (Wt x qual (wK st) (xg st) (zL st) .none kV doc pm an cdv ct):=⟨⟨oc,od,kV,doc,pm,an,cdv,ct,osl,rfl,l,c⟩,k⟩
end
def HN (h:n<=1000):n<sizeLine:=Nat.lt_of_le_of_lt h (by decide)
def fg {B:Prop}(h:B):if false=true then A else B:=by
 rw[Nk QQ];exact h
def qo {B:Prop}(h:A):if true=true then A else B:=by
 rw[Nj rfl];exact h
def vQ(env:Env):List (Str×My)->List (Str×Addr)->List (Str×Addr)
 |[],acc=>acc
 |(n,k)::r,acc=>if k == .free then vQ env r ((n,(env.cells.lookup n).getD 0)::acc)else vQ env r acc
theorem v7 (f:Str×My->List (Str×Addr)->Sem (ForInStep (List (Str×Addr))))(hf:∀n k cs,f (n,k) cs=if k == .free then(do let a <-cellOf env n;pure (.yield ((n,a)::cs)))else pure (.yield cs)):
  ∀(names:List (Str×My)) (acc:List (Str×Addr)),(∀y∈names,y.2=.free->∃c,env.cells.lookup y.1=some c)->forIn names acc f=pure (vQ env names acc)
 |[],acc,_=>by rw[List.forIn_nil];rfl
 |(n,k)::r,acc,h=>by
  have ih:=v7 f hf r;rw[List.forIn_cons,hf];unfold vQ;cases hk:k==NameKind.free with
  |true=>
   obtain⟨c,hc⟩:=h (n,k) QF (by simpa using hk);have hc':env.cells.lookup n=some c:=hc;have e1:cellOf env n=pure c:=by unfold cellOf;rw[hc']
   simp only[if_true,e1,hc',Vk,pure_bind];exact ih _ λy hy=>h y (Qh _ hy)
  |false=>
   simp only[Qy,if_false,pure_bind];exact ih _ λy hy=>h y (Qh _ hy)
def jD (h:∀y∈scope.names,y.2=.free->∃c,env.cells.lookup y.1=some c):closureFor scope env=pure (vQ env scope.names []):=by
 unfold closureFor;simp only[];rw[v7 (env:=env) _ (λn k cs=>by cases hk:k==NameKind.free<;>simp[hk]) scope.names [] h];rfl
theorem vq:∀{names:List (Str×My)}{acc:List (Str×Addr)},(∀z∈names,z.2=.free->∃c,env.cells.lookup z.1=some c)->(vQ env names acc).lookup y=some c ->
  acc.lookup y=some c\/((y,NameKind.free)∈names/\env.cells.lookup y=some c)
 |[],acc,_,e=>.inl e
 |(n,k)::r,acc,h,e=>by
  unfold vQ at e;have h':∀z∈r,z.2=.free->∃c,env.cells.lookup z.1=some c:=λz hz=>h z (Qh _ hz);cases hk:k==NameKind.free with
  |true=>
   have hk':k=.free:=by simpa using hk
   subst hk';rw[hk,Nj rfl]at e;rcases vq h' e with q|⟨q1,q2⟩
   .rw[QU]at q;cases hy:y==n with
    |true=>
     rw[hy]at q;have:y=n:=by simpa using hy
     subst this;obtain⟨c',hc'⟩:=h (y,.free) QF rfl;have hc'':env.cells.lookup y=some c':=hc';rw[hc'']at q;refine .inr ⟨QF,?_⟩;rw[hc''];exact q
    |false=>rw[hy]at q;exact .inl q
   .exact .inr ⟨Qh _ q1,q2⟩
  |false=>
   rw[hk,Nk (by simp)]at e;rcases vq h' e with q|⟨q1,q2⟩
   .exact .inl q
   .exact .inr ⟨Qh _ q1,q2⟩
theorem kM:∀{names:List (Str×My)}{acc:List (Str×Addr)},((y,NameKind.free)∈names\/(acc.lookup y).isSome=true)->((vQ env names acc).lookup y).isSome=true
 |[],acc,h=>by
  rcases h with h|h
  .cases h
  .exact h
 |(n,k)::r,acc,h=>by
  unfold vQ;cases hk:k==NameKind.free with
  |true=>
   rw[Nj rfl];refine kM ?_;rcases h with h|h
   .rcases Qo.mp h with e|e
    .cases e;exact .inr (by rw[QU];simp)
    .exact .inl e
   .refine .inr ?_;rw[QU];split
    .rfl
    .exact h
  |false=>
   rw[Nk (by simp)];refine kM ?_;rcases h with h|h
   .rcases Qo.mp h with e|e
    .cases e;cases hk
    .exact .inl e
   .exact .inr h
theorem m7:∀{names:List (Str×My)}{h:LK}{acc:List (Str×Addr)},(MB h.objs.size names acc).lookup y=some c ->
  acc.lookup y=some c\/(h.objs.size<=c/\(MR h names).IsCell c none/\(y,NameKind.cell)∈names)
 |[],h,acc,e=>.inl e
 |(n,k)::r,h,acc,e=>by
  unfold MB at e;cases hk:k==NameKind.cell with
  |true=>
   have hk':k=.cell:=by simpa using hk
   subst hk';rw[hk,Nj rfl]at e;have ih:=m7 (y:=y) (c:=c) (names:=r) (h:=h.push {cls:=.type "cell",data:=.cell none}) (acc:=(n,h.objs.size)::acc);rw[VA]at ih;have hp:MR h ((n,NameKind.cell)::r)=MR (h.push {cls:=.type "cell",data:=.cell none}) r:=by
    exact Nj hk
   rcases ih e with q|⟨q1,q2,q3⟩
   .rw[QU]at q;cases hy:y==n with
    |true=>
     rw[hy]at q;cases q;have hyn:y=n:=by simpa using hy
     subst hyn;refine .inr ⟨Qk _,?_,QF⟩;rw[hp];exact⟨_,MS _ _ _ _ (QR _ rfl),rfl⟩
    |false=>rw[hy]at q;exact .inl q
   .exact .inr ⟨Qu (Vs _) q1,by rw[hp];exact q2,Qh _ q3⟩
  |false=>
   rw[hk,Nk (by simp)]at e;have hp:MR h ((n,k)::r)=MR h r:=by
    show(if(k==NameKind.cell)=true then _ else _)=_;rw[hk,Nk (by simp)]
   rcases m7 e with q|⟨q1,q2,q3⟩
   .exact .inl q
   .exact .inr ⟨q1,by rw[hp];exact q2,Qh _ q3⟩
theorem mZ {lo:Nat}:∀{names:List (Str×My)}{n:Nat}{acc:List (Str×Addr)},((y,NameKind.cell)∈names\/∀c,acc.lookup y=some c->lo<=c)->lo<=n->(MB n names acc).lookup y=some c->lo<=c
 |[],n,acc,h,_,e=>by
  rcases h with h|h
  .cases h
  .exact h c e
 |(m,k)::r,n,acc,h,hn,e=>by
  unfold MB at e;cases hk:k==NameKind.cell with
  |true=>
   rw[hk,Nj rfl]at e;refine mZ ?_ (Qu hn (Vs _)) e;by_cases hy:y=m
   .subst hy;refine .inr λc hc=>?_;rw[QU,beq_self_eq_true]at hc;cases hc;exact hn
   .rcases h with h|h
    .rcases Qo.mp h with z|z
     .cases z;exact Nl rfl hy
     .exact .inl z
    .refine .inr λc hc=>?_;rw[QU]at hc;have:(y==m)=false:=by simpa using hy
     rw[this]at hc;exact h c hc
  |false=>
   rw[hk,Nk (by simp)]at e;refine mZ ?_ hn e;rcases h with h|h
   .rcases Qo.mp h with z|z
    .cases z;cases hk
    .exact .inl z
   .exact .inr h
theorem nl:∀{names:List (Str×My)}{n:Nat}{acc:List (Str×Addr)},(∀y z c,acc.lookup y=some c->acc.lookup z=some c->y=z)->(∀y c,acc.lookup y=some c->c<n) ->
  ∀y z c,(MB n names acc).lookup y=some c->(MB n names acc).lookup z=some c->y=z
 |[],n,acc,hi,_=>hi
 |(m,k)::r,n,acc,hi,hl=>by
  unfold MB;cases hk:k==NameKind.cell with
  |true=>
   rw[Nj rfl];refine nl (λy z c e1 e2=>?_) λy c e=>?_
   .rw[QU]at e1 e2;cases hy:y==m<;>cases hz:z==m<;>rw[hy]at e1<;>rw[hz]at e2
    .exact hi y z c e1 e2
    .cases e2;exact Nl (hl y _ e1) (Q9 _)
    .cases e1;exact Nl (hl z _ e2) (Q9 _)
    .exact (by simpa using hy:y=m).trans (by simpa using hz:z=m).symm
   .rw[QU]at e;cases hy:y==m<;>rw[hy]at e
    .exact Vn (hl y c e)
    .cases e;exact Wj _
  |false=>
   rw[Nk (by simp)];exact nl hi hl
def Jo (hQ:Q {scope:=scope,locals:=s.heap.objs.size,globals:=globals,cells:=MB (s.heap.objs.size+1) scope.names cl,qual:=qual,func:=none,code:=outer.code,frame:=outer.frame,builtins:=outer.builtins}
   {s with heap:=MR (s.heap.push {cls:=.type "dict",data:=.dict #[]}) scope.names}):
  LV M A (MT scope globals cl [] qual none .none (some outer)) Q E s:=by
 simp only[MT,Option.isSome_some,if_true];refine Mc (wpAny_alloc ?_);refine Mc (wpAny_layCells _ (λname kind cells=>by cases hkc:kind==NameKind.cell<;>simp[hkc]) _ _ _ _ ?_);rw[show({s with heap:=s.heap.push {cls:=.type "dict",data:=.dict #[]} }:Shared).heap.objs.size=s.heap.objs.size+1 from VA ..];simp only[List.forIn_nil];exact Mc (Mi (Mi hQ))
def yn:(MU scope env).names.lookup y=(scope.names.lookup y).map λk=>if(k==NameKind.free&&env.scope.kind == .function&&env.kindOf y==some .cell)then NameKind.cell else k:=by
 have all:∀l:List (Str×My),(l.map λ(n,k)=>if(k==NameKind.free&&env.scope.kind == .function&&env.kindOf n==some .cell)then(n,NameKind.cell)else(n,k)).lookup y=(l.lookup y).map λk=>if(k==NameKind.free&&env.scope.kind == .function&&env.kindOf y==some .cell)then NameKind.cell else k:=by
  intro l
  induction l with
  |nil=>rfl
  |cons p r ih=>
   obtain⟨n,k⟩:=p;rw[QT,QU];by_cases hc:(k==NameKind.free&&env.scope.kind == .function&&env.kindOf n==some .cell)=true
   .simp only[hc,if_true,QU];cases hy:y==n with
    |true=>
     have:y=n:=by simpa using hy
     subst this;simp only[QJ,hc,if_true]
    |false=>exact ih
   .simp only[Nk hc,QU];cases hy:y==n with
    |true=>
     have:y=n:=by simpa using hy
     subst this;simp only[QJ,Nk hc]
    |false=>exact ih
 exact all scope.names
def lS(x:Str):Str:=⟨x.cps.push 0⟩
def yH(N xs:List Str):List Str:=(N.map λy=>if y∈xs then lS y else y)++xs
def HM(N xs:List Str):(yH N xs).length=N.length+xs.length:=by simp[yH]
def vR(N xs:List Str)(j:Nat):(yH N xs)[N.length+j]?=xs[j]?:=by
 unfold yH;rw[Qi (by simp)];simp
def HL (hi:i<N.length)(h:(yH N xs)[i]?=some y):(∃x∈xs,y=lS x)\/(N[i]?=some y/\y∉xs):=by
 unfold yH at h;rw[Qg (by simpa using hi),Qt]at h;obtain⟨z,hz⟩:∃z,N[i]?=some z:=⟨N[i],by simp[hi]⟩;rw[hz]at h;by_cases e:z∈xs
 .simp only[QJ,Nj e]at h;exact .inl ⟨z,e,(Option.some.inj h).symm⟩
 .simp only[QJ,Nk e]at h;have e2:z=y:=Option.some.inj h;subst e2;exact .inr ⟨hz,e⟩
structure bz(X:Cx)(scope:LA)(xs:List Str)(Xc:Cx):Prop where
 prog:Xc.prog=X.prog
 w:Xc.w=X.w
 K:Xc.K=X.K
 mg:Xc.mg=X.mg
 base:Xc.base=X.base
 A:Xc.A=X.A
 N:Xc.N=yH X.N xs
 sc:Xc.env.scope=MU scope X.env
 calm:Xc.calm=true
 stack:Xc.stack=X.stack
def fN(X:Cx)(ifs:List Expr)(t:TT):Prop:=
 ∀(pins:List (Addr×Obj)) (s:Shared) (σ:St) (H:Hp) (Q:Bool->Hp->Prop),Inv X pins σ H s->t σ H Q ->
  LV (LW X.prog X.w) X.A (forIn ifs true λc r=>if r=true then do let ok <-isTrue c X.env (eval c X.env);pure (ForInStep.yield ok)else pure (ForInStep.yield r)) (TP X pins σ Q) X.xe s
def v8:fN X [] (λ_ H Q=>Q true H):=λ_ _ _ H _ I h=>wpAny_tests_nil ⟨H,I,h⟩
def qp (h:PT X c t):fN X [c] t:=λpins s σ H Q I q=>wpAny_tests_one (h pins s σ H Q I q)
structure bP(X:Cx)(scope:LA)(xs:List Str):Prop where
 kind:scope.kind=.function
 own:∀x∈xs,scope.names.lookup x=some .local\/scope.names.lookup x=some .cell
 locs:∀y∈scope.names,y.2=.local->scope.names.lookup y.1=some .local
 free:∀y∈scope.names,y.2=.free->X.env.scope.names.lookup y.1=some .cell\/X.env.scope.names.lookup y.1=some .free
 alone:∀y∈X.N,y∉xs->scope.names.lookup y≠some .local/\scope.names.lookup y≠some .cell
 one:∀y∈scope.names,y.2=.cell->scope.names.lookup y.1≠some .free
 nd:(yH X.N xs).Nodup
 dumN:∀x∈xs,scope.names.lookup (lS x)=none
def qr{prog:LF}{w:LG}{A:LQ}{R:Result->Shared->Prop}{s:Shared}{elt target iter:Expr}{ifs:List Expr}{scope:LA}{pos:Pos}{it acc:Value}{env:Env}(I:Nat->Shared->Prop)
  (turn:∀n s,I n s->LV (LW prog w) A (pyNext it) (λr s₁=>match r with
   |none=>R (.ok .next) s₁
   |some v=>LV (LW prog w) A (Mh target it v) (λ_ s₁'=>LV (LW prog w) A (assign target env v) (λ_ s₂=>
     LV (LW prog w) A (forIn ifs true λc r=>if r=true then do let ok <-isTrue c env (eval c env);pure (ForInStep.yield ok)else pure (ForInStep.yield r)) (λok s₃=>
      if ok=true then LV (LW prog w) A (eval elt env) (λx s₄=>
       LV (LW prog w) A (call (.builtin "list.append") [acc,x]) (λ_ s₅=>∃m,m<n/\I m s₅) (MV (LW prog w) A env λe s'=>R (.error e) s') s₄) (MV (LW prog w) A env λe s'=>R (.error e) s') s₃
      else ∃m,m<n/\I m s₃) (MV (LW prog w) A env λe s'=>R (.error e) s') s₂) (MV (LW prog w) A env λe s'=>R (.error e) s') s₁') (MV (LW prog w) A env λe s'=>R (.error e) s') s₁) (MV (LW prog w) A env λe s'=>R (.error e) s') s)
  (n:Nat) (h:I n s):Mv (LW prog w) A (.compLoop (.ListComp elt [⟨target,iter,ifs,0⟩] scope pos) 0 it acc env) R s:=by
 refine codeAny_loop rfl I (λn s hI=>?_) n h;show LV _ A ((compTurn (.ListComp elt [⟨target,iter,ifs,0⟩] scope pos) 0 it acc env).onRaise (λx=>do noteFrame x env;theTreesLotGoes x)) _ _ s;refine wpAny_noted ?_;rw[compTurn_list];refine Mc (Mf (Mc (LZ (turn n s hI) (λr s₁ h₁=>?_) λ_ _ h'=>h')));cases r with
 |none=>exact Mi h₁
 |some v=>
  refine Mc (LZ h₁ (λ_ s₁' h₁'=>?_) λ_ _ h'=>h');refine Mc (LZ h₁' (λ_ s₂ h₂=>Mc (LZ h₂ (λok s₃ h₃=>?_) λ_ _ h'=>h')) λ_ _ h'=>h');cases ok with
  |false=>exact Mi ⟨rfl,h₃⟩
  |true=>
   exact Mc (Mc (LZ h₃ (λx s₄ h₄=>Mc (LZ h₄ (λ_ s₅ h₅=>Mi (Mi ⟨rfl,h₅⟩)) λ_ _ h'=>h')) λ_ _ h'=>h'))
def jd(un:V->Hp->List V->Prop)(wi:TI)(tc:TT)(te:TE):TE:=λσ H Q=>wi σ H λJ H1=>∀D,H1 D=none->∃W:Nat->Nat->List V->Hp->Prop,(∃m,W 0 m [] (aK H1 D (.lst [])))/\∀i m ys H,W i m ys H ->
 (J.stop i H/\Q (.ref D) H)\/(J.go i H/\∀v H',J.yld i H v H'->∃vs,un v H' vs/\tc (σ++vs.map some) H' λb H2=>if b=true then te (σ++vs.map some) H2 λy H3=>H3 D=some (.lst ys)/\ys.length<sizeLine/\∃m',m'<m/\W (i+1) m' (ys++[y]) (aK H3 D (.lst (ys++[y])))
  else ∃m',m'<m/\W (i+1) m' ys H2)
def jE {un:V->Hp->List V->Prop}(B:bP X scope xs)(hc:X.calm=true)(hpg:∀Xc,bz X scope xs Xc->(∀x∈xs,Loc Xc.env.scope x/\(Xc.fn x=true\/Xc.env.scope.names.lookup x=some .local))->PG Xc tg g)(hun:∀v H vs os,os.length=xs.length->un v H vs->vs.length=xs.length/\g v (σ++os) H λσ2 H2=>σ2=σ++vs.map some/\H2=H)(hbody:∀Xc,bz X scope xs Xc->fN Xc ifs tc/\PE Xc elt te)(I:Inv X pins σ H s)(T:dB X.prog X.w X.K tg J fp it tn)(st:tn 0 s.heap)(hfp:∀b∈fp,jk X pins H b)(W:Nat->Nat->List V->Hp->Prop)(m0:Nat)(w0:W 0 m0 [] H)(turn:∀i m ys H,W i m ys H->(J.stop i H/\∀s' m' C,Inv X pins σ H s'->s'.heap.Ns C m'->s.heap.objs.size<=C->H C=none->compPost (LW X.prog X.w) X.A X.xe use Q (.ref D) C (.ok .next) s') \/
   (J.go i H/\∀v H',J.yld i H v H'->∃vs,un v H' vs/\tc (σ++vs.map some) H' λb H2=>if b=true then te (σ++vs.map some) H2 λy H3=>H3 D=some (.lst ys)/\ys.length<sizeLine/\∃m',m'<m/\W (i+1) m' (ys++[y]) (aK H3 D (.lst (ys++[y])))
    else ∃m',m'<m/\W (i+1) m' ys H2)):
  LV (LW X.prog X.w) X.A (MT scope X.env.globals (vQ X.env scope.names []) [] X.env.qual none .none (some X.env)) (λcenv s₄=>
   Mv (LW X.prog X.w) X.A (.compStart (.ListComp elt [⟨tg,iter,ifs,0⟩] scope pos) 0 (.ref it) (.ref D) {cenv with scope:=MU scope X.env}) (compPost (LW X.prog X.w) X.A X.xe use Q (.ref D) cenv.locals) s₄) X.xe s:=by
 refine Jo ?_;have hcl:∀y∈scope.names,y.2=.free->∃c,X.env.cells.lookup y.1=some c:=λy hy hf=>by
  rcases B.free y hy hf with q|q
  .exact I.ok.has y.1 (.inl q)
  .exact I.ok.has y.1 (.inr q)
 -- the block's own parts
 generalize hC:s.heap.objs.size=C;generalize hcs:MB (C+1) scope.names (vQ X.env scope.names [])=cs;generalize hh4:MR (s.heap.push {cls:=.type "dict",data:=.dict #[]}) scope.names=h4;have szP:(s.heap.push {cls:=.type "dict",data:=.dict #[]}).objs.size=C+1:=by rw[VA,hC]
 have keep4:∀b o,s.heap.get? b=some o->h4.get? b=some o:=λb o e=>hh4▸MS _ _ _ _ (Qq _ e);have nsC:h4.Ns C (λ_=>none):=by
  have q:=(Heap.Ns.new s.heap (.type "dict")).keeps (MS scope.names (s.heap.push {cls:=.type "dict",data:=.dict #[]}));rw[hC,hh4]at q;exact q
 -- a cell of the block: one of its own,or one of those around
 have csIn:∀y c,cs.lookup y=some c->((y,NameKind.free)∈scope.names/\X.env.cells.lookup y=some c)\/(C+1<=c/\h4.IsCell c none/\(y,NameKind.cell)∈scope.names):=λy c e=>by
  have q:=m7 (y:=y) (c:=c) (names:=scope.names) (h:=s.heap.push {cls:=.type "dict",data:=.dict #[]}) (acc:=vQ X.env scope.names []);rw[szP,hcs,hh4]at q;rcases q e with q|q
  .rcases vq hcl q with z|z
   .cases z
   .exact .inl z
  .exact .inr q
 have oldC:∀y c,X.env.cells.lookup y=some c->c<C:=λy c e=>by
  obtain⟨v,q⟩:=I.cell y c e;rw[<-hC];exact q.lt
 have fpC:∀b∈fp,b<C:=λb hb=>by
  obtain⟨o,e,_⟩:=T.obj _ _ st b hb;rw[<-hC];exact Ql e
 let cenv:Env:={scope:=MU scope X.env,locals:=C,globals:=X.env.globals,cells:=cs,qual:=X.env.qual,func:=none,code:=X.env.code,frame:=X.env.frame,builtins:=X.env.builtins}
 let RR:Result->Shared->Prop:=compPost (LW X.prog X.w) X.A X.xe use Q (.ref D) C
 let Xc:Cx:={X with N:=yH X.N xs,s₀:=s,H₀:=H,env:=cenv,outer:=X.stack,stack:=X.stack,ex:=fp,fn:=λy=>decide (scope.names.lookup y=some .cell),calm:=true,pn:=[],xe:=MV (LW X.prog X.w) X.A cenv λe s'=>RR (.error e) s' }
 have hXc:bz X scope xs Xc:=⟨rfl,rfl,rfl,rfl,rfl,rfl,rfl,rfl,rfl,rfl⟩;obtain⟨hT,hE⟩:=hbody Xc hXc;have ok:Xc.Ok:=by
  refine⟨I.ok.mod,B.kind,I.ok.glob,I.ok.blt,Vo hC,?_,λy hy=>?_,λy c hf e=>?_,λ_=>I.ok.hd hc,I.ok.frames,.inl rfl,λb hb=>⟨QM (fpC b hb),λy c e=>?_⟩,I.bs,Qu I.ok.bsz I.sz,λb o e hb=>?_,λb hb hf=>?_,I.stack,I.stkFree⟩
  .show ∀y z c,cs.lookup y=some c->cs.lookup z=some c->y=z;rw[<-hcs];refine nl (λy z c e1 e2=>?_) λy c e=>?_
   .rcases vq hcl e1 with q|q
    .cases q
    .rcases vq hcl e2 with q'|q'
     .cases q'
     .exact I.ok.inj y z c q.2 q'.2
   .rcases vq hcl e with q|q
    .cases q
    .exact Vn (oldC y c q.2)
  .have hy':(MU scope X.env).names.lookup y=some .cell\/(MU scope X.env).names.lookup y=some .free:=hy;rw[yn]at hy';show ∃c,cs.lookup y=some c;rw[<-hcs];refine Q8.mp (W0 _ _ _ ?_);cases hk:scope.names.lookup y with
   |none=>rw[hk]at hy';rcases hy' with z|z<;>cases z
   |some k=>
    rw[hk]at hy';have kk:k=.cell\/k=.free:=by
     simp only[QJ]at hy';by_cases hcnd:(k==NameKind.free&&X.env.scope.kind == .function&&X.env.kindOf y==some .cell)=true
     .refine .inr ?_;have:=(QD.mp (QD.mp hcnd).1).1;simpa using this
     .rw[Nk hcnd]at hy';rcases hy' with z|z
      .exact .inl (Option.some.inj z)
      .exact .inr (Option.some.inj z)
    rcases kk with rfl|rfl
    .exact .inl rfl
    .exact .inr (kM (.inl (PySem.mem_of_lookup hk)))
  .show s.heap.objs.size<=c;rw[hC];have e':cs.lookup y=some c:=e;rw[<-hcs]at e';exact Qu (Vs _) (mZ (lo:=C+1) (.inl (PySem.mem_of_lookup (No hf))) (Qk _) e')
  .show c≠b;rintro rfl;rcases csIn y c e with⟨_,z⟩|⟨z,_,_⟩
   .exact (hfp c hb).2.2.2.2.1 y c z rfl
   .exact Nl (Qf (fpC c hb) (Qu (Vs _) z)) (Q9 _)
  .rcases (hfp b hb).2.2.2.1 with z|z
   .exact I.ok.noex b o e z
   .exact Nl (Qf (Ql (I.ok.bs b o e).1) z) (Q9 _)
  .rcases Qo.mp (I.stkSub b hf)with z|z
   .exact (hfp b hb).2.1 z
   .exact (hfp b hb).2.2.1 z
 have frC:H C=none:=I.hok.fresh (Vo hC);have frN:∀c,C<=c->H c=none:=λc hc'=>I.hok.fresh (by rw[hC];exact hc');have hσ:σ.length=X.N.length:=I.len;have I4:Inv Xc [] (σ++xs.map λ_=>none) H {s with heap:=h4}:=by
  refine⟨ok,rfl,I.bare,Un.kept keep4,⟨_,nsC,λi y v e1 e2 e3=>?_⟩,λy c e=>?_,frC,λy c e=>?_,λp hp=>Nl (show p∈([]:List (Addr×Obj))from hp) (by simp),I.hok.kept keep4,?_⟩
  .have hi:i<σ.length:=by
    by_cases hi:i<σ.length
    .exact hi
    .rw[Qi (by lia),Qt]at e2;cases hz:xs[i-σ.length]? with
     |none=>rw[hz]at e2;simp at e2
     |some k=>rw[hz]at e2;simp at e2
   rw[Qg hi]at e2;have vis:scope.names.lookup y=some .local\/scope.names.lookup y=some .cell\/scope.names.lookup y=some .free:=by
    have e3':io (MU scope X.env) y:=e3;unfold io at e3';rw[yn]at e3';cases hk:scope.names.lookup y with
    |none=>rw[hk]at e3';rcases e3' with z|z|z<;>cases z
    |some k=>
     rw[hk]at e3';simp only[QJ]at e3';by_cases hcnd:(k==NameKind.free&&X.env.scope.kind == .function&&X.env.kindOf y==some .cell)=true
     .have:=(QD.mp (QD.mp hcnd).1).1;exact .inr (.inr (by rw[show k=.free by simpa using this]))
     .rw[Nk hcnd]at e3';exact e3'
   rcases HL (by rw[<-hσ];exact hi) e1 with z|⟨z,zx⟩
   .obtain ⟨x,hx,z⟩:=z;subst z;rw[B.dumN x hx]at vis;rcases vis with q|q|q<;>cases q
   .have hfree:scope.names.lookup y=some .free:=by
     rcases vis with q|q|q
     .exact Nl q (B.alone y (Qp z) zx).1
     .exact Nl q (B.alone y (Qp z) zx).2
     .exact q
    have kout:=B.free _ (PySem.mem_of_lookup hfree) rfl;obtain⟨m,hn,hl⟩:=I.loc;obtain⟨u,r,l⟩:=hl i y v z e2 (kout.elim (λq=>.inr (.inl q)) λq=>.inr (.inr q));refine⟨u,r,?_⟩;rcases l with⟨k,_⟩|⟨_,c,ec,zc⟩
    .have k':X.env.scope.names.lookup y=some .local:=k;rcases kout with q|q<;>rw[k']at q<;>cases q
    .have hsome:∃c',cs.lookup y=some c':=ok.has y (by
      show(MU scope X.env).names.lookup y=some .cell\/(MU scope X.env).names.lookup y=some .free;rw[yn,hfree];simp only[QJ];split
      .exact .inl rfl
      .exact .inr rfl)
     obtain⟨c',ec'⟩:=hsome;refine .inr ⟨?_,c',ec',?_⟩
     .show (MU scope X.env).names.lookup y=some .cell\/(MU scope X.env).names.lookup y=some .free;rw[yn,hfree];simp only[QJ];split
      .exact .inl rfl
      .exact .inr rfl
     .rcases csIn y c' ec' with⟨_,q⟩|⟨_,_,q⟩
      .rw[ec]at q;cases q;exact zc.keeps keep4
      .exact Nl hfree (B.one (y,.cell) q rfl)
  .rcases csIn y c e with⟨_,q⟩|⟨_,q,_⟩
   .obtain ⟨v,z⟩:=I.cell y c q;exact⟨v,z.keeps keep4⟩
   .exact ⟨_,q⟩
  .rcases csIn y c e with⟨_,q⟩|⟨q,_,_⟩
   .exact I.freeC y c q
   .exact frN c (by lia)
  .show (σ++xs.map λ_=>none).length=(yH X.N xs).length;rw[HM,QW,hσ,Qm]
 -- the loop
 have hLoc:∀x∈xs,Loc Xc.env.scope x/\(Xc.fn x=true\/Xc.env.scope.names.lookup x=some .local):=λx hx=>by
  constructor
  .show (MU scope X.env).names.lookup x=some .local\/(MU scope X.env).names.lookup x=some .cell;rw[yn];rcases B.own x hx with q|q<;>rw[q]
   .exact .inl rfl
   .exact .inr rfl
  .rcases B.own x hx with q|q
   .refine .inr ?_;show(MU scope X.env).names.lookup x=some .local;rw[yn,q];rfl
   .exact .inl (Nn q)
 have hg:PG Xc tg g:=hpg Xc hXc hLoc;have fpX:∀{H':Hp},(∀b∈fp,H' b=none)->∀b∈fp,jk Xc [] H' b:=λhn b hb=>
  ⟨hn b hb,QM (fpC b hb),λz=>ok.exfs b hb z,.inl hb,λy c e=>(ok.exf b hb).2 y c e,λp hp=>Nl (show p∈([]:List (Addr×Obj))from hp) (by simp)⟩
 have loop:Mv (LW X.prog X.w) X.A (.compLoop (.ListComp elt [⟨tg,iter,ifs,0⟩] scope pos) 0 (.ref it) (.ref D) cenv) RR {s with heap:=h4}:=by
  refine qr (λn s'=>∃i os ys H',os.length=xs.length/\Inv Xc [] (σ++os) H' s'/\tn i s'.heap/\(∀b∈fp,H' b=none)/\W i n ys H') ?_ m0 ⟨0,_,[],H,Qm _,I4,T.keep _ _ _ st λb _ o e=>keep4 b o e,λb hb=>(hfp b hb).1,w0⟩;rintro n s3 ⟨i,os,ys,H3,hos,I3,dL,fr3,w3⟩;rcases turn i n ys H3 w3 with⟨stop,fin⟩|⟨go,step⟩
  .refine aZ (T.done Xc rfl rfl rfl rfl i [] s3 (σ++os) H3 Xc.xe I3 (fpX fr3) dL stop) λr s4 ⟨hr,I4⟩=>?_;subst hr;obtain⟨m,hn,_⟩:=id I4.loc;refine fin s4 m C ?_ hn (Vo hC) I4.free;exact I.call' (ch:=fp) I4.os I4.base I4.hok I4.bare λb hb=>⟨(hfp b hb).2.2.2.1,(hfp b hb).2.1,(hfp b hb).2.2.2.2.1,(hfp b hb).2.2.2.2.2⟩
  .refine aZ (T.item Xc rfl rfl rfl rfl i [] s3 (σ++os) H3 Xc.xe I3 (fpX fr3) dL go) λr s4 ⟨u,hr,h4'⟩=>?_;subst hr;refine aZ h4' λ_ s5 ⟨v,H5,I5,r5,y5,st5,fr5⟩=>?_;have I5':=I5.pinned (fpX fr5) (T.obj _ _ st5);obtain⟨vs,hvs,step5⟩:=step v H5 y5;obtain⟨hvl,hset⟩:=hun v H5 vs os hos hvs;refine aZ (hg _ s5 (σ++os) H5 v u (λσ2 H2=>σ2=σ++vs.map some/\H2=H5) I5' r5 hset) λ_ s6 ⟨σ6,H6,I6,e6,e6'⟩=>?_;subst e6;subst e6';have back:∀{H7:Hp}{s7:Shared},Inv Xc ([]++jA fp s5.heap) (σ++vs.map some) H7 s7->tn (i+1) s7.heap/\(∀b∈fp,H7 b=none)/\Inv Xc [] (σ++vs.map some) H7 s7:=λ{H7 s7} I7=>by
    refine⟨T.keep _ _ _ st5 λb hb ob e=>(I7.pin (b,ob) (Qs _ (Qs _ (wJ hb e)))).1,λb hb=>?_,I7.unpinned⟩;obtain⟨ob,e,_⟩:=T.obj _ _ st5 b hb;exact(I7.pin (b,ob) (Qs _ (Qs _ (wJ hb e)))).2.1
   refine aZ (hT _ s6 (σ++vs.map some) H6 _ I6 step5) λb s7 ⟨H7,I7,q7⟩=>?_;cases b with
   |false=>
    rw[Nk QQ]at q7 ⊢;obtain⟨m',hm,w7⟩:=q7;obtain⟨t1,t2,t3⟩:=back I7;exact⟨m',hm,i+1,_,ys,H7,(by rw[Qm];exact hvl),t3,t1,t2,w7⟩
   |true=>
    rw[Nj rfl]at q7 ⊢;refine aZ (hE _ s7 (σ++vs.map some) H7 _ I7 q7) λyv s8 ⟨y,H8,I8,r8,hD8,hl8,m',hm,w8⟩=>?_;refine aZ (gN (X:=Xc) _ s8 (σ++vs.map some) H8 (.ref D) [y] (.ref D) [yv] (λ_ H9=>H9=aK H8 D (.lst (ys++[y]))) I8 rfl (.cons r8 .nil) ⟨D,ys,y,rfl,rfl,hD8,hl8,rfl⟩) λ_ s9 ⟨_,H9,I9,_,e9⟩=>?_;subst e9;obtain⟨t1,t2,t3⟩:=back I9;exact⟨m',hm,i+1,_,ys++[y],_,(by rw[Qm];exact hvl),t3,t1,t2,w8⟩
 refine codeAny_compStart_list loop ?_;exact T.self X.A 0 _ _ _ (T.keep _ _ _ st λb _ o e=>keep4 b o e) loop
section
variable{X:Cx}{elt iter tg:Expr}{xs:List Str}{y:Str}{g:TG}{un:V->Hp->List V->Prop}{py:Pos}{ifs:List Expr}{scope:LA}{pos spos:Pos}{wi:TI}{tc:TT}{te:TE}
def Inv.aside{pins:List (Addr×Obj)}{σ:St}{H:Hp}{s:Shared}{C lo:Addr}{h':LK}(I:Inv X pins σ H s)(hlo:lo<=C)(hL:X.env.locals<lo)(hcell:∀y c,X.env.cells.lookup y=some c->c<lo)(hpin:∀p∈X.pn++pins,p.1<lo)
  (hn:H C=none) (hs:WE C s.heap h'):Inv X pins σ H {s with heap:=h' } :=
 I.turned (it:=C) (t':=s.toks) (λb o hb e=>(hs.2 b hb).trans e) hn (WQ (Qf hL hlo)) (.inr (Qu I.ok.above (Qu (WR hL) hlo)))
  (λy c e=>QM (Qf (hcell y c e) hlo)) λp hp=>QM (Qf (hpin p hp) hlo)
def Inv.below (I:Inv X pins σ H s):X.env.locals<s.heap.objs.size/\(∀y c,X.env.cells.lookup y=some c->c<s.heap.objs.size)/\∀p∈X.pn++pins,p.1<s.heap.objs.size:=
 ⟨I.lt,λy c e=>let⟨_,z⟩:=I.cell y c e;z.lt,λp hp=>Ql (I.pin p hp).1⟩
def vO(B:bP X scope xs)(ok:X.Ok):closureFor scope X.env=pure (vQ X.env scope.names []):=
 jD λy hy hf=>(B.free y hy hf).elim (λq=>ok.has y.1 (.inl q)) λq=>ok.has y.1 (.inr q)
structure iY(X:Cx)(scope:LA)(xs:List Str)(tg:Expr)(g:TG)(un:V->Hp->List V->Prop):Prop where
 pg:∀Xc,bz X scope xs Xc->(∀x∈xs,Loc Xc.env.scope x/\(Xc.fn x=true\/Xc.env.scope.names.lookup x=some .local))->PG Xc tg g
 un:∀v H vs os (σ:St),σ.length=X.N.length->os.length=xs.length->un v H vs->vs.length=xs.length/\g v (σ++os) H λσ2 H2=>σ2=σ++vs.map some/\H2=H
def lH(v:V)(_:Hp)(vs:List V):Prop:=vs=[v]
def sV{α:Type}{l:List α}(h:l.length=1):∃a,l=[a]:=by
 cases l with
 |nil=>cases h
 |cons a t=>
  cases t with
  |nil=>exact⟨a,rfl⟩
  |cons b t=>cases h
def sU{α:Type}{l:List α}(h:l.length=2):∃a b,l=[a,b]:=by
 cases l with
 |nil=>cases h
 |cons a t=>
  obtain⟨b,rfl⟩:=sV (Nat.succ.inj h);exact⟨a,b,rfl⟩
def jr (B:bP X scope [x]):iY X scope [x] (.Name x px) (xp X.N.length) lH:=by
 refine⟨λXc c h=>?_,λv H vs os σ hσ ho hv=>?_⟩
 .exact xb (by rw[c.N];exact B.nd) (by rw[c.N];exact vR X.N [x] 0) (h x (by simp)).1 (h x (by simp)).2
 .cases hv;refine⟨rfl,?_,rfl⟩;obtain⟨o,rfl⟩:=sV ho;rw[<-hσ,W9 _ _ (Qk _)];simp
def iQ(K:Qb)(v:V)(H:Hp)(vs:List V):Prop:=∃a,v=.ref a/\cb K H a vs/\vs.length=2
def js (hc:X.calm=true)(B:bP X scope [x,y]):iY X scope [x,y] (.Tuple [.Name x px,.Name y py] k pt) (iD X.K 2 (wD (xp X.N.length) (wD (xp (X.N.length+1)) fX))) (iQ X.K):=by
 refine⟨λXc c h=>?_,λv H vs os σ hσ ho hv=>?_⟩
 .have nd:Xc.N.Nodup:=by rw[c.N];exact B.nd
  rw[<-c.K];exact qg c.calm (xc (xb nd (by rw[c.N];exact vR X.N [x,y] 0) (h x (by simp)).1 (h x (by simp)).2) (xc (xb nd (by rw[c.N];exact vR X.N [x,y] 1) (h y (by simp)).1 (h y (by simp)).2) jq))
 .obtain ⟨a,e1,e2,e3⟩:=hv;obtain⟨u,w,rfl⟩:=sU e3;obtain⟨o,p,rfl⟩:=sU ho;refine⟨rfl,a,[u,w],e1,e2,rfl,u,[w],rfl,w,[],rfl,rfl,?_,rfl⟩;rw[<-hσ,W9 _ _ (Qk _),W9 _ _ (by lia)];simp
def vt(B:bP X scope xs)(hc:X.calm=true)(hT:iY X scope xs tg g un)(hi:PI X tg iter wi)(hbody:∀Xc,bz X scope xs Xc->fN Xc ifs tc/\PE Xc elt te)
  (hs:∀v,Mm iter X.env v=pure v:=by intro _;rfl):PE X (.ListComp elt [⟨tg,iter,ifs,0⟩] scope pos) (jd un wi tc te):=by
 intro pins s σ H Q I h;rw[eval_ListComp];refine MW (use:=none) (cl:=vQ X.env scope.names []) rfl hs (vO B I.ok) B.kind B.locs ?_;refine aZ (hi pins s σ H _ I h) λxv s1 h1=>aZ h1 λitv s2 h2=>?_;obtain⟨it,fp,tn,J,H2,e,I2,T,dw,f2,q2⟩:=h2;subst e;refine wpAny_newObj_type ?_;have I3:=I2.lnew (its:=[]) (ys:=[]) (t':=s2.toks) .nil (WY _);obtain⟨W,⟨m0,w0⟩,turn⟩:=q2 s2.heap.objs.size (I2.hok.fresh (Qk _));have fp3:∀b∈fp,jk X pins (aK H2 s2.heap.objs.size (.lst [])) b:=λb hb=>by
  obtain⟨o,e,_⟩:=T.obj _ _ dw b hb;exact⟨by rw[zl (QM (Ql e))];exact(f2 b hb).1,(f2 b hb).2⟩
 obtain⟨b1,b2,b3⟩:=I3.below;refine jE B hc hT.pg (λv H vs os h1 h2=>hT.un v H vs os σ I.len h1 h2) hbody I3 T (T.keep _ _ _ dw λb _ o e=>Qq _ e) fp3 W m0 w0 λi m ys H4 w=>?_;rcases turn i m ys H4 w with⟨stop,q⟩|r
 .exact .inl ⟨stop,λs' m' C I' hn hC hCn=>⟨m',hn,λh' hsb=>⟨.ref s2.heap.objs.size,H4,I'.aside hC b1 b2 b3 hCn hsb,rfl,q⟩⟩⟩
 .exact .inr r
def IT (B:bP X scope xs)(hc:X.calm=true)(hT:iY X scope xs tg g un)(hi:PI X tg iter wi)(hbody:∀Xc,bz X scope xs Xc->fN Xc ifs tc/\PE Xc elt te)(hN:X.N.Nodup)(hy:X.N[i]?=some y)(hx:Loc X.env.scope y)(hf:X.fn y=true\/X.env.scope.names.lookup y=some .local)(hsw:L8 (.ListComp elt [⟨tg,iter,ifs,0⟩] scope pos) (some (.Name y py)) spos.line X.env=pure true)(hs:∀v,Mm iter X.env v=pure v:=by intro _;rfl):PS X (.Assign [.Name y py] (.ListComp elt [⟨tg,iter,ifs,0⟩] scope pos) spos) (fW (jd un wi tc te) (xp i)):=by
 intro pins s σ H D I h;rw[exec_Assign_Name_used _ _ _ _ hsw];refine Mc (Mf (Mc ?_));show LV _ X.A (do let _ <-comprehension (.ListComp elt [⟨tg,iter,ifs,0⟩] scope pos) scope X.env _ (newList []) false (eval iter X.env) (some (assign (.Name y py) X.env))) _ _ s;refine Mc (LZ (MW (use:=some (assign (.Name y py) X.env)) (cl:=vQ X.env scope.names []) (Q:=λ_ s'=>SP X pins D .next s') rfl hs (vO B I.ok) B.kind B.locs ?_)
  (λ_ s' hq=>Mi (Mi hq)) λ_ _ e=>e)
 refine aZ (hi pins s σ H _ I h) λxv s1 h1=>aZ h1 λitv s2 h2=>?_;obtain⟨it,fp,tn,J,H2,e,I2,T,dw,f2,q2⟩:=h2;subst e;refine wpAny_newObj_type ?_;have I3:=I2.lnew (its:=[]) (ys:=[]) (t':=s2.toks) .nil (WY _);obtain⟨W,⟨m0,w0⟩,turn⟩:=q2 s2.heap.objs.size (I2.hok.fresh (Qk _));have fp3:∀b∈fp,jk X pins (aK H2 s2.heap.objs.size (.lst [])) b:=λb hb=>by
  obtain⟨o,e,_⟩:=T.obj _ _ dw b hb;exact⟨by rw[zl (QM (Ql e))];exact(f2 b hb).1,(f2 b hb).2⟩
 obtain⟨b1,b2,b3⟩:=I3.below;refine jE B hc hT.pg (λv H vs os h1 h2=>hT.un v H vs os σ I.len h1 h2) hbody I3 T (T.keep _ _ _ dw λb _ o e=>Qq _ e) fp3 W m0 w0 λi' m ys H4 w=>?_;rcases turn i' m ys H4 w with⟨stop,q⟩|r
 .refine .inl ⟨stop,λs' m' C I' hn hC hCn=>?_⟩;refine wpAny_assign_Name (gE I' hN hy hx (v:=.ref s2.heap.objs.size) rfl (λs'' I'' ⟨a,sb,ha⟩=>?_) hf);have hCa:C≠a:=by
   rcases ha with rfl|ha
   .exact WQ (Qf b1 hC)
   .exact WQ (Qf (b2 _ _ ha) hC)
  exact⟨m',hn.sameBut sb hCa,λh' hsb=>⟨_,H4,I''.aside hC b1 b2 b3 hCn hsb,q⟩⟩
 .exact .inr r
end
section
variable{X:Cx}
theorem ay.at (h:ay xs us){i:Nat}(e:us[i]?=some u):∃x,xs[i]?=some x/\RelV x u:=by
 have hl:=h.length;have hi:=(Qa.mp e).1;have hx:xs[i]?=some xs[i]:=Qe (by lia);obtain⟨u',h1,h2⟩:=h.get hx;rw[e]at h1;cases h1;exact⟨_,hx,h2⟩
def HK(bs:List Bool):(QA bs.length).all (λi=>bs.getD i true)=bs.all id:=by
 rw[W6,Q6,Q6];constructor
 .intro h b hb;obtain⟨i,hi,e⟩:=List.getElem_of_mem hb;have:=h i (by simpa using hi);rw[Qj,Qe hi]at this;simpa [e]using this
 .intro h i hi;have hi':i<bs.length:=by simpa using hi
  rw[Qj,Qe hi'];exact h _ (WH hi')
def Jn(hc:X.calm=true):bG X (.builtin "all") (λxs H Q=>∃(p:Addr) (bs:List Bool),xs=[.ref p]/\bj X.K H p (bs.map V.bl)/\Q (.bl (bs.all id)) H):=by
 intro pins s σ H xs us Q I r h;obtain⟨p,bs,rfl,hq,q⟩:=h;obtain⟨u,rfl,rx⟩:=gF r;cases rx;obtain⟨its,r',pl,hz⟩:=I.list hq;have hlen:=r'.length;have hp:∃o,s.heap.get? p=some o:=by obtain⟨o,ho,_⟩:=pl.isList;exact⟨o,ho⟩
 obtain⟨o,ho⟩:=hp;have hlt:=Ql ho;refine call_all_walk (Ml pl.isList ?_);refine⟨s.heap.objs.size,_,_,_,_,_,λi=>bs.getD i true,rfl,Walks.list (A:=X.A.in1) (I.ok.hd hc) s.heap.objs.size p (QM hlt) its.toArray,⟨⟨_,QR _ rfl,rfl,rfl⟩,pl.isList.at λo e=>Qq _ e⟩,?_,λh' tk hk=>?_⟩
 .intro i v s2 Q2 E2 hv hQ;have hv':its[i]?=some v:=by simpa using hv
  obtain⟨y,hy,ry⟩:=r'.at hv';rw[Qt]at hy;cases hb:bs[i]? with
  |none=>rw[hb]at hy;cases hy
  |some b=>
   rw[hb]at hy;cases hy;have:v=.bool b:=ry;subst this;have e:bs.getD i true=b:=by rw[Qj,hb];rfl
   have hQ':Q2 (bs.getD i true) s2:=hQ;rw[e]at hQ';exact L5 hQ'
 .have e:its.toArray.size=bs.length:=by simp at hlen ⊢;lia
  rw[e,HK];exact⟨.bl (bs.all id),H,I.kept (t':=tk) λb o e=>hk b o (λhb=>by
   have:b=s.heap.objs.size:=by simpa using hb
   exact Nl (Ql e) (by rw[this];exact Q9 _)) (Qq _ e),rfl,q⟩
def BK(ta:TA):TE:=λσ H Q=>ta σ H λvs H1=>∃j:Int,vs=[.int j]/\-(2^30)<=j/\j<2^24/\j.toNat<=sizeLine/\∀l,H1 l=none->Q (.ref l) (aK H1 l (.lst ((QA j.toNat).map λ(i:Nat)=>V.int ((0:Int)+1*(i:Int)))))
def FQ (hc:X.calm=true)(hgl:Gl X "list")(hml:X.mg "list"=none)(hg:Gl X "range")(hm:X.mg "range"=none)(ha:PA X [a] ta)(hs:LY [a] X.env=[(false,eval a X.env)]:=by rfl):
  PE X (.Call (.Name "list" p) [.Call (.Name "range" p') [a] [] pos'] [] pos) (BK ta):=by
 intro pins s σ H Q I h;refine Mx (wW I hgl hml PyProof.Rows.boot_list ?_ (by decide) (by decide));refine PyProof.Rows.callWith_type1 ?_ rfl rfl;refine Calls.spliced_cons ?_;refine Call_ (wW I hg hm boot_range (PyProof.Rows.callWith_type1 (aZ (ha pos' pins s σ H _ I h) λus s1 ⟨vs,H1,I1,r1,q1⟩=>?_) hs rfl));obtain⟨j,e,q1,q2,q3,q⟩:=q1;subst e;cases r1 with
 |cons r rr=>
  cases rr;obtain⟨t,rfl⟩:=r;refine call_range_1 (Calls.spliced_nil ?_);have hn:Builtin.Range.rangeSize 0 j 1=(j.toNat:Int):=by rw[rangeSize_one];split<;>lia
  refine call_list_range (n:=j.toNat) (I1.ok.hd hc) (IsRange.new ..) (small_one (by lia) (by lia) (by lia) (by lia)) hn (by lia) λh' tk acc' c' kp e hacc=>?_;have I2:Inv X pins σ H1 {s1 with heap:=s1.heap.push {cls:=.type "range",data:=.fields #[.int 0 s1.toks,.int j t,.int 1 (s1.toks+1)]},toks:=s1.toks+1+1}:=I1.kept λb o e=>Qq _ e;have hv:ay ((QA j.toNat).map λ(i:Nat)=>V.int ((0:Int)+1*(i:Int))) acc'.toList:=by
   have gen:∀(us:List Value) (n:Nat),us.length=n->∀m:Nat,(∀i v,us[i]?=some v->∃t,v=Value.int ((0:Int)+((m+i:Nat):Int)*1) t)->ay ((List.range' m n).map λ(i:Nat)=>V.int ((0:Int)+1*(i:Int))) us:=by
    intro us
    induction us with
    |nil=>intro n hn m _;simp at hn;subst hn;exact .nil
    |cons u us ih=>
     intro n hn m hu;cases n with
     |zero=>simp at hn
     |succ n=>
      rw[List.range'_succ,QT];obtain⟨t,rfl⟩:=hu 0 u rfl;refine .cons ⟨t,?_⟩ (ih n (by simpa using hn) (m+1) λi v hv=>?_)
      .congr 1;simp
      .obtain ⟨t,e⟩:=hu (i+1) v (by simpa using hv);exact⟨t,by rw[e];congr 2;congr 1;lia⟩
   have:=gen acc'.toList j.toNat (by rw[Vh];exact hacc.1) 0 (λi v hv=>by
    obtain⟨t,e⟩:=hacc.2 i v (by simpa using hv);exact⟨t,by rw[e];simp⟩)
   rw[<-List.range_eq_range']at this;exact this
  refine⟨.ref _,_,I2.laid (t':=tk) kp (Qk _) (show aW X.prog X.w _ h' _ (.lst ((QA j.toNat).map λ(i:Nat)=>V.int ((0:Int)+1*(i:Int))))from⟨by simpa using q3,acc'.toList,c',hv,by simpa using e⟩),rfl,q _ (I2.hok.fresh (Qk _))⟩
end
section
variable{prog:LF}{w:LG}{A:LQ}{E:Value->Shared->Prop}
def GY (ne:l≠it):∀(n i:Nat) (s:Shared) (Q:List Value->Shared->Prop),s.heap.IsListIter it l i->s.heap.IsList l its->i+n<=its.size ->
  (∀h',h'.IsListIter it l (i+n)->WE it s.heap h'->Q ((its.toList.drop i).take n) {s with heap:=h' })->LV (LW prog w) A (draw (.ref it) n) Q E s:=by
 intro n
 induction n with
 |zero=>
  intro i s Q h1 _ _ k;exact Mi (by simpa using k s.heap h1 (WE.refl ..))
 |succ n ih=>
  intro i s Q h1 h2 hle k;have lt:i<its.size:=by lia
  show LV _ _ (pyNext (.ref it) >>= _) Q E s;refine Mc (Mj h1 h2 (x:=its[i]) (by simp[lt]) λhA pA qA=>?_);refine Mc (Md (ih (i+1) _ _ pA (h2.extBut qA.extBut ne) (by lia) λhB pB qB=>Mi ?_));have z:=k hB (by rw[show i+(n+1)=i+1+n by lia];exact pB) (qA.trans qB);rw[show its.toList.drop i=its[i]::its.toList.drop (i+1)from by simp[WW,lt],List.take_succ_cons]at z;exact z
def HJ (hh:A.handled=none)(p:s.heap.IsList l its)(k:∀h',Heap.ExtBut s.heap.objs.size s.heap h'->Q its.toList {s with heap:=h' }):LV (LW prog w) A (unpackItems (.ref l) its.size none) Q E s:=by
 have ne:l≠s.heap.objs.size:=by obtain⟨o,e,_⟩:=p;exact QM (Ql e)
 unfold unpackItems notIterableAtAll;refine Mc (Mc (MX p.typeIs slot_list_iter.lookup (Mi ?_)));simp only[Qy,if_false];refine Mc (Md (Ml p (Mc (Md (GY ne its.size 0 _ _ ⟨_,QR _ rfl,rfl,rfl⟩ (p.push _) (by lia) λhA pA qA=>?_)))));rw[show List.take its.size (List.drop 0 its.toList)=its.toList from by rw[List.drop_zero];exact WD (by simp),Nk (by simp)];refine Mc (Md (Mk hh pA ((p.push _).extBut qA.extBut ne) (by simp) λhB qB=>?_));simp only[Option.isSome_none,Qy,if_false];exact Mi (k hB λb o hb e=>qB b o hb (qA.extBut b o hb (Qq _ e)))
def IS {k}(hh:A.handled=none)(p:s.heap.IsList l its)(hn:(Ma es env).length=its.size)(hst:(Ma es env).findIdx? (·.1)=none)(h:∀h',Heap.ExtBut s.heap.objs.size s.heap h'->LV (LW prog w) A (assignInOrder ((Ma es env).map (·.2)) its.toList) Q E {s with heap:=h' }):
  LV (LW prog w) A (assign (.Tuple es k pos) env (.ref l)) Q E s:=by
 rw[PyProof.Rows.assign_Tuple];refine Mc (Mf ?_);unfold unpack;rw[hn,hst];exact Mc (Md (HJ hh p h))
end
section
variable{X:Cx}{pos:Pos}
def rE(K:Qb)(n:Nat)(t:eu):TG:=λv σ H Q=>∃a xs,v=.ref a/\bj K H a xs/\xs.length=n/\t xs σ H Q
def CY (hc:X.calm=true)(h:iq X es t)(hn:(Ma es X.env).length=n)(hst:(Ma es X.env).findIdx? (·.1)=none):PG X (.Tuple es k pos) (rE X.K n t):=by
 intro pins s σ H v u Q I r hw;obtain⟨a,xs,rfl,hq,hl,hw⟩:=hw;cases r;obtain⟨its,rv,p,hz⟩:=I.list hq;refine IS (I.ok.hd hc) p.isList (by simp[hn,<-hl,rv.length]) hst λh' hx=>?_;exact h pins _ σ H xs _ Q (I.kept (t':=s.toks) λb o e=>hx b o (QM (Ql e)) e) (by simpa using rv) hw
def rD(K:Qb)(n:Nat)(t:eu):TG:=λv σ H Q=>iD K n t v σ H Q\/rE K n t v σ H Q
def CW (hc:X.calm=true)(h:iq X es t)(hn:(Ma es X.env).length=n:=by rfl)(hst:(Ma es X.env).findIdx? (·.1)=none:=by rfl):PG X (.Tuple es k pos) (rD X.K n t):=by
 intro pins s σ H v u Q I r hw;rcases hw with hw|hw
 .exact qg hc h hn hst pins s σ H v u Q I r hw
 .exact CY hc h hn hst pins s σ H v u Q I r hw
end
abbrev TK:=List Int×Addr×Value
def ls(x:TK):LC:=⟨reduceHash (Builtin.Tuple.tupleHashOf (x.1.map hashInt)),.ref x.2.1,x.2.2⟩
def wQ(d:Addr)(xs:List TK):HO:=.ext λh=>(d==LL)=false/\∃o es ep,h.get? d=some o/\o.ExactDict/\o.data=.dict es ep/\es.toList=xs.map ls/\(xs.map (·.1)).Nodup
theorem t9:∀{k:List Int}{us:List Value},ay (k.map V.int) us->ItemsAre (LN P w) k us
 |[],_,.nil=>.nil
 |i::_,_,.cons p q=>by
  obtain⟨t,rfl⟩:=p;exact .cons (by show Value.isInt i (.int i t)=true;simp[Value.isInt]) (t9 q)
def jF(K:Qb)(H:Hp)(d:Addr)(xs:List TK):Prop:=H d=some (wQ d xs)/\∀x∈xs,cb K H x.2.1 (x.1.map V.int)
section
variable{X:Cx}{pins:List (Addr×Obj)}{σ:St}{H:Hp}{s:Shared}
def jt (I:Inv X pins σ H s)(h:cb X.K H a (k.map V.int)):MY (LN X.prog X.w) s.heap k a:=by
 obtain⟨its,r,⟨o,ho,hc,n,hd⟩,_⟩:=I.tuple h;exact⟨o,its.toArray,n,ho,hc,hd,t9 r⟩
def wY (I:Inv X pins σ H s)(h:jF X.K H d xs):(d==LL)=false/\s.heap.DictOfH (LM (LN X.prog X.w)) d xs:=by
 obtain⟨h1,h2⟩:=h;obtain⟨⟨a0,o,es,ep,a1,a2,a3,a4,a5⟩,_,_⟩:=I.hok d _ h1;exact⟨a0,o,es,ep,a1,a2,a3,a4,λx hx=>jt I (h2 x hx),a5⟩
def HI:PE X (.Dict [] [] pos) (λ_ H Q=>∀d,H d=none->Q (.ref d) (aK H d (wQ d []))):=by
 intro pins s σ H Q I h;have hd:(s.heap.objs.size==LL)=false:=by
  obtain⟨o,_,_,ho,_⟩:=I.ok.mod.glob;have h1:(3:Nat)<X.base.objs.size:=Ql ho;have h2:=Qu I.ok.bsz I.sz;have:s.heap.objs.size≠(1:Nat):=by lia
  exact beq_eq_false_iff_ne.mpr this
 refine wpAny_Dict_empty ⟨.ref s.heap.objs.size,aK H s.heap.objs.size (wQ s.heap.objs.size []),I.laid (t':=s.toks) (λb u e=>Qq _ e) (Qk _) ?_,rfl,h _ I.fresh⟩;refine⟨⟨hd,_,#[],0,QR _ rfl,⟨rfl,rfl,rfl⟩,rfl,rfl,QB⟩,⟨_,QR _ rfl⟩,λh1 h2 hx k=>?_⟩;obtain⟨a0,o,es,ep,a1,r⟩:=hx;exact⟨a0,o,es,ep,k o a1,r⟩
def rY(K:Qb):V->V->V->Hp->(Hp->Prop)->Prop:=λo i v H Q=>∃d a ks xs,o=.ref d/\i=.ref a/\cb K H a (ks.map V.int)/\jF K H d xs/\xs.length<=100000/\∀u,RelV v u->Q (aK H d (wQ d (storedH xs ks a u)))
def BJ(hu:X.A.units+64<Ms):mJ X (rY X.K):=by
 intro pins s σ H o i v ov iv u Q I ro ri rv h;obtain⟨d,a,ks,xs,rfl,rfl,hk,hd,hl,q⟩:=h;cases ro;cases ri;obtain⟨d0,dm⟩:=wY I hd;refine wpAny_setItem_heap (knd:=LM (LN X.prog X.w)) (by show X.A.units+1<Ms;lia) (jt I hk) dm (λh' dm' sb=>?_) (Qu hl (by decide));refine⟨aK H d (wQ d (storedH xs ks a u)),?_,q u rv⟩;obtain⟨o',es,ep,a1,a2,a3,a4,a5,a6⟩:=dm';refine I.write (x:=d) (e:=d) (by rw[hd.1];trivial) (.inl rfl) (λb u' hb e=>(sb.2 b hb).trans e) ⟨_,a1⟩ ?_;refine⟨⟨d0,o',es,ep,a1,a2,a3,a4,a6⟩,⟨_,a1⟩,λh1 h2 hx k=>?_⟩;obtain⟨b0,o,es,ep,b1,r⟩:=hx;exact⟨b0,o,es,ep,k o b1,r⟩
def rX(K:Qb):R2:=λx y H Q=>∃d a ks xs p,x=.ref d/\y=.ref a/\cb K H a (ks.map V.int)/\jF K H d xs/\MZ xs ks=some p/\∃v,RelV v p.2/\Q v H
def oP(hu:X.A.units+64<Ms):eg X (rX X.K):=by
 intro value slice pins s σ H x y v u Q I rx ry h hs;obtain⟨d,a,ks,xs,p,rfl,rfl,hk,hd,hp,z,rz,q⟩:=h;cases rx;cases ry;obtain⟨d0,dm⟩:=wY I hd;exact MJ (x:=p.2) dm.typeIs slot_dict_getitem.lookup
  (wpAny_getItem_heap (knd:=LM (LN X.prog X.w)) (Q:=λr s'=>r=p.2/\EP X pins σ Q r s') (by show X.A.units+1<Ms;lia) (jt I hk) dm hp ⟨rfl,z,H,I.tok _,rz,q⟩) hs
end
end L2
namespace Mini
inductive Wd where
 |non|bl (b:Bool)|int (i:Int)|str (s:List Nat)|tup (xs:List Wd)|rol (xs:List Wd)|ref (l:Nat)
deriving Inhabited
set_option genInjectivity false in
inductive Ob where
 |lst (xs:List Wd)|dct (ks:List (List Int)) (ws:List Wd)
deriving Inhabited
abbrev Me:=List Ob
abbrev En:=List (Option Wd)
set_option genInjectivity false in
inductive Rz where
 |ok (w:Wd) (m:Me)|exc (c:Nat) (w:Wd) (m:Me)|no
deriving Inhabited
set_option genInjectivity false in
inductive Rs where
 |next (e:En) (m:Me)|ret (w:Wd) (m:Me)|brk (e:En) (m:Me)|cont (e:En) (m:Me)
 |exc (c:Nat) (w:Wd) (e:En) (m:Me)|no
deriving Inhabited
inductive Bo where|add|sub|mul|fdiv|mod|pow|shr|band
deriving DecidableEq
inductive Co where|eq|ne|lt|le|isN|notN|isin
deriving DecidableEq
inductive Tg where|int|bool|list|tuple|str|dict
deriving DecidableEq
inductive eK where|len|int|list|all|min2|max2|sortI
deriving DecidableEq
inductive ef where|append|pop|reverse|clear
deriving DecidableEq
inductive Kd where|zip|enum|prs|ptp
deriving DecidableEq
set_option genInjectivity false in
inductive Ex where
 |var (i:Nat)|lit (w:Wd)
 |bin (op:Bo) (a b:Ex)|neg (a:Ex)|not (a:Ex)|and (a b:Ex)|or (a b:Ex)
 |cmp (op:Co) (a b:Ex)|chain (p q:Co) (a b c:Ex)|ife (c a b:Ex)
 |unit|pair (a b:Ex)
 |call (k:Nat) (args:Ex)|blt (b:eK) (args:Ex)|isi (t:Tg) (a:Ex)
 |lst (args:Ex)|tup (args:Ex)|dict0
 |idx (a b:Ex)   |slB (a lo hi:Ex)
 |meth (n:ef) (o args:Ex)
 |rng (a b c:Ex)
 |comp (elt it cond:Ex)
 |lrng (a:Ex)
 |compP (k:Kd) (elt a b cond:Ex)
 |dget (a b:Ex)
deriving Inhabited
set_option genInjectivity false in
inductive Sm where
 |skip|seq (a b:Sm)
 |asg (i:Nat) (e:Ex)|asgS (o i e:Ex)  |aug (i:Nat) (op:Bo) (e:Ex)
 |ite (c:Ex) (a b:Sm)|forv (i:Nat) (it:Ex) (body:Sm)|fort (i j:Nat) (it:Ex) (body:Sm)|while (c:Ex) (body:Sm)
 |ret (e:Ex)  |expr (e:Ex)   |never
 |unp3 (i j k:Nat) (e:Ex)
 |dput (x:Nat) (k e:Ex)
deriving Inhabited
def av:Nat:=100000
def cI:Int:=18446744073709551616
def xq(i:Int):Bool:=decide (-cI<i)&&decide (i<cI)
def c6(p:Wd->Wd->Option Bool):List Wd->List Wd->Option Bool
 |x::xs,y::ys=>match p x y with
  |some a=>(c6 p xs ys).map (a && ·)
  |none=>none
 |_,_=>some true
def b2i(b:Bool):Int:=if b then 1 else 0
def aT(m:Me)(l:Nat):Bool:=match m[l]? with
 |some (.lst _)=>true
 |_=>false
def sS:Wd->Bool
 |.rol _=>false
 |_=>true
def cB(m:Me):Nat->Wd->Wd->Option Bool
 |0,_,_=>none
 |k+1,x,y=>match x,y with
  |.tup a,.tup b=>(c6 (cB m k) a b).map (· && decide (a.length=b.length))
  |.ref a,.ref b=>if a=b then(if aT m a then some true else none)else match m[a]?,m[b]? with
   |some (.lst xs),some (.lst ys)=>if xs.length=ys.length then c6 (cB m k) xs ys else some false
   |_,_=>none
  |.ref a,y=>if aT m a&&sS y then some false else none
  |x,.ref b=>if aT m b&&sS x then some false else none
  |.rol _,_=>none
  |_,.rol _=>none
  |.non,.non=>some true
  |.bl a,.bl b=>some (a==b)
  |.int a,.int b=>some (decide (a=b))
  |.bl a,.int b=>some (decide (b2i a=b))
  |.int a,.bl b=>some (decide (a=b2i b))
  |.str a,.str b=>some (decide (a=b))
  |_,_=>some false
def yW:Nat:=12
def eO(p:Wd->Wd->Option Bool)(x:Wd):List Wd->Option Bool
 |[]=>some false
 |y::ys=>match p y x with
  |some a=>(eO p x ys).map (a || ·)
  |none=>none
def ix(n:Nat)(i:Int):Option Nat:=
 if 0<=i then(if i<n then some i.toNat else none)else if -(n:Int)<=i then some (i+n).toNat else none
def alloc(m:Me)(xs:List Wd):Rz:=if xs.length<=av then .ok (.ref m.length) (m++[.lst xs])else .no
def zA(m:Me)(l:Nat):Option (List Wd):=match m[l]? with
 |some (.lst xs)=>some xs
 |_=>none
def xT(m:Me):Wd->Option (List Wd)
 |.tup xs=>some xs
 |.rol xs=>some xs
 |.ref l=>zA m l
 |_=>none
def dh(op:Bo)(x y:Wd)(m:Me):Rz:=match x,y with
 |.int i,.int j=>match op with
  |.add=>.ok (.int (i+j)) m
  |.sub=>.ok (.int (i-j)) m
  |.mul=>if xq i || xq j then .ok (.int (i*j)) m else .no
  |.fdiv=>if 0<j/\j<1073741824 then .ok (.int (i/j)) m else .no
  |.mod=>if 0<j then .ok (.int (i%j)) m else .no
  |.pow=>if 0<=j/\j<=1000000/\xq i=true then .ok (.int (i^j.toNat)) m else .no
  |.shr=>if 0<=j/\j<=1000 then .ok (.int (i/2^j.toNat)) m else .no
  |.band=>if 0<=i/\j=1 then .ok (.int (i%2)) m else .no
 |.ref a,.ref b=>match op,m[a]?,m[b]? with
  |.add,some (.lst xs),some (.lst ys)=>alloc m (xs++ys)
  |_,_,_=>.no
 |.ref a,.int k=>match op,m[a]? with
  |.mul,some (.lst xs)=>if -av<=k/\k<=av then alloc m (Qx k.toNat xs).flatten else .no
  |_,_=>.no
 |.tup xs,.tup ys=>match op with
  |.add=>if xs.length+ys.length<=av/\xs.isEmpty=false then .ok (.tup (xs++ys)) m else .no
  |_=>.no
 |_,_=>.no
def dq(o:Option Bool)(m:Me):Rz:=match o with
 |some b=>.ok (.bl b) m
 |none=>.no
def iI(r:Int->Int->Bool)(x y:Wd)(m:Me):Rz:=match x,y with
 |.int i,.int j=>.ok (.bl (r i j)) m
 |_,_=>.no
def x8:List Wd->Option (List Int)
 |[]=>some []
 |.int i::r=>(x8 r).map (i::·)
 |_=>none
def lQ(m:Me)(x y:Wd):Option Bool:=match y with
 |.ref l=>match m[l]? with
  |some (.dct ks _)=>match x with
   |.int _=>some false
   |.tup ws=>(x8 ws).map λk=>decide (k∈ks)
   |_=>none
  |_=>none
 |_=>none
def cZ(op:Co)(x y:Wd)(m:Me):Rz:=match op with
 |.eq=>dq (cB m yW x y) m
 |.ne=>dq ((cB m yW x y).map (!·)) m
 |.isN=>match y,x with
  |.non,.non=>.ok (.bl true) m
  |.non,_=>.ok (.bl false) m
  |_,_=>.no
 |.notN=>match y,x with
  |.non,.non=>.ok (.bl false) m
  |.non,_=>.ok (.bl true) m
  |_,_=>.no
 |.isin=>match xT m y with
  |some ys=>dq (eO (cB m yW) x ys) m
  |none=>dq (lQ m x y) m
 |.lt=>iI (λi j=>decide (i<j)) x y m
 |.le=>iI (λi j=>decide (i<=j)) x y m
def cY(t:Tg)(x:Wd)(m:Me):Option Bool:=match t,x with
 |.int,.int _=>some true
 |.int,.bl _=>some true
 |.bool,.bl _=>some true
 |.str,.str _=>some true
 |.tuple,.tup _=>some true
 |.list,.rol _=>some true
 |t,.ref l=>match m[l]? with
  |some (.lst _)=>some (decide (t=.list))
  |some (.dct _ _)=>some (decide (t=.dict))
  |none=>none
 |_,_=>some false
def cj(n d:Nat):Option Int->Nat
 |none=>d
 |some v=>if v<0 then(v+(n:Int)).toNat else min v.toNat n
def fx:List Wd->Option Bool
 |[]=>some true
 |.bl b::r=>(fx r).map (b && ·)
 |_=>none
def ff(m:Me):Wd->Option (List Wd)
 |.rol xs=>some xs
 |.ref l=>zA m l
 |_=>none
def fU(ns:List Int):List Int:=ns.mergeSort λa b=>decide (a<=b)
def fe(b:eK)(ws:List Wd)(m:Me):Rz:=match b with
 |.sortI=>match ws with
  |[x]=>match (ff m x).bind x8 with
   |some k=>if k.length<64 then alloc m ((fU k).map Wd.int)else .no
   |none=>.no
  |_=>.no
 |.len=>match ws with
  |[x]=>match xT m x with
   |some xs=>.ok (.int xs.length) m
   |none=>.no
  |_=>.no
 |.int=>match ws with
  |[.int i]=>.ok (.int i) m
  |[.bl b]=>.ok (.int (b2i b)) m
  |_=>.no
 |.list=>match ws with
  |[x]=>match xT m x with
   |some xs=>alloc m xs
   |none=>.no
  |_=>.no
 |.all=>match ws with
  |[x]=>match (ff m x).bind fx with
   |some i=>.ok (.bl i) m
   |none=>.no
  |_=>.no
 |.max2=>match ws with
  |[.int i,.int j]=>.ok (.int (if j > i then j else i)) m
  |_=>.no
 |.min2=>match ws with
  |[.int i,.int j]=>.ok (.int (if j<i then j else i)) m
  |_=>.no
def dr(n:ef)(o:Wd)(ws:List Wd)(m:Me):Rz:=match o with
 |.ref l=>match m[l]? with
  |some (.lst xs)=>match n,ws with
   |.append,[y]=>if xs.length<av then .ok .non (m.set l (.lst (xs++[y])))else .no
   |.pop,[]=>match xs[xs.length-1]? with
    |some y=>.ok y (m.set l (.lst xs.dropLast))
    |none=>.no
   |.reverse,[]=>.ok .non (m.set l (.lst xs.reverse))
   |.clear,[]=>.ok .non (m.set l (.lst []))
   |_,_=>.no
  |_=>.no
 |_=>.no
def xr(x:Wd)(m:Me):Bool:=match x with
 |.ref l=>aT m l
 |_=>false
def qt(o i v:Wd)(m:Me):Rz:=match o,i with
 |.ref l,.int k=>match m[l]? with
  |some (.lst xs)=>match ix xs.length k with
   |some j=>.ok .non (m.set l (.lst (xs.set j v)))
   |none=>.no
  |_=>.no
 |_,_=>.no
def jG(x y:Wd)(m:Me):Rz:=match y with
 |.int i=>match xT m x with
  |some xs=>match (ix xs.length i).bind λj=>xs[j]? with
   |some v=>.ok v m
   |none=>.no
  |none=>.no
 |_=>.no
def fT:Wd->Option (List Int)
 |.tup ws=>x8 ws
 |_=>none
def dE{α:Type}:List (List Int)->List α->List Int->Option α
 |k::ks,w::ws,q=>if k=q then some w else dE ks ws q
 |_,_,_=>none
def wZ(ks:List (List Int))(q:List Int):List (List Int):=if q∈ks then ks else ks++[q]
def yB{α:Type}:List (List Int)->List α->List Int->α->List α
 |k::ks,w::ws,q,v=>if k=q then v::ws else w::yB ks ws q v
 |_,ws,_,v=>ws++[v]
def gP(x y:Wd)(m:Me):Rz:=match x with
 |.ref l=>match m[l]? with
  |some (.dct ks ws)=>match (fT y).bind (dE ks ws)with
   |some v=>.ok v m
   |none=>.no
  |_=>.no
 |_=>.no
def gQ(x y v:Wd)(m:Me):Rz:=match x with
 |.ref l=>match m[l]? with
  |some (.dct ks ws)=>match fT y with
   |some q=>if ks.length<av then .ok .non (m.set l (.dct (wZ ks q) (yB ks ws q v)))else .no
   |none=>.no
  |_=>.no
 |_=>.no
def hU(x:Wd)(lo hi:Option Int)(m:Me):Rz:=match ff m x with
 |some xs=>alloc m ((xs.drop (cj xs.length 0 lo)).take (cj xs.length xs.length hi-cj xs.length 0 lo))
 |none=>.no
def fw(lo st:Int):Nat->List Wd
 |0=>[]
 |n+1=>.int lo::fw (lo+st) st n
def eZ(a b c:Int):Nat:=if c=1 then(b-a).toNat else if c=-1 then(a-b).toNat else 0
def iB(a b c:Wd)(m:Me):Rz:=match a,b,c with
 |.int a,.int b,.int c=>if -av<=a/\a<=av/\-av<=b/\b<=av/\(c=1\/c=-1)then .ok (.tup (fw a c (eZ a b c))) m else .no
 |_,_,_=>.no
def Rz.bind(r:Rz)(f:Wd->Me->Rz):Rz:=match r with
 |.ok w m=>f w m
 |r=>r
def xU(c e:Wd->Me->Rz):List Wd->List Wd->Me->Rz
 |[],acc,m=>alloc m acc
 |x::xs,acc,m=>(c x m).bind λb m1=>match b with
  |.bl true=>(e x m1).bind λy m2=>if acc.length<av then xU c e xs (acc++[y]) m2 else .no
  |.bl false=>xU c e xs acc m1
  |_=>.no
def xW(c e:Wd->Me->Rz)(l:Nat):Nat->Nat->List Wd->Me->Rz
 |0,_,_,_=>.no
 |k+1,i,acc,m=>match zA m l with
  |none=>.no
  |some xs=>match xs[i]? with
   |none=>alloc m acc
   |some x=>(c x m).bind λb m1=>match b with
    |.bl true=>(e x m1).bind λy m2=>if acc.length<av then xW c e l k (i+1) (acc++[y]) m2 else .no
    |.bl false=>xW c e l k (i+1) acc m1
    |_=>.no
def iH:Wd->Option (Wd×Wd)
 |.tup [x,y]=>some (x,y)
 |_=>none
def zC(k:Kd)(x y:Wd)(i:Nat)(m:Me):Option (Option (Wd×Wd)):=match k,x,y with
 |.zip,.ref la,.ref lb=>match zA m la,zA m lb with
  |some xs,some ys=>some (match xs[i]?,ys[i]? with
   |some x,some y=>some (x,y)
   |_,_=>none)
  |_,_=>none
 |.enum,.ref la,.int s=>match zA m la with
  |some xs=>some (xs[i]?.map λx=>(.int (s+(i:Int)),x))
  |none=>none
 |.prs,.ref la,.int _=>match zA m la with
  |some xs=>match xs[i]? with
   |none=>some none
   |some w=>(iH w).map some
  |none=>none
 |.ptp,.tup xs,.int _=>match xs[i]? with
  |none=>some none
  |some w=>(iH w).map some
 |_,_,_=>none
def yh(c e:Wd->Wd->Me->Rz)(g:Nat->Me->Option (Option (Wd×Wd))):Nat->Nat->List Wd->Me->Rz
 |0,_,_,_=>.no
 |k+1,i,acc,m=>match g i m with
  |none=>.no
  |some none=>alloc m acc
  |some (some (x,y))=>(c x y m).bind λb m1=>match b with
   |.bl true=>(e x y m1).bind λz m2=>if acc.length<av then yh c e g k (i+1) (acc++[z]) m2 else .no
   |.bl false=>yh c e g k (i+1) acc m1
   |_=>.no
def zn:Wd->List Wd
 |.tup xs=>xs
 |_=>[]
def af(cl:Nat->List Wd->Me->Rz):Ex->En->Me->Rz
 |.var i,env,m=>match env[i]? with
  |some (some w)=>.ok w m
  |_=>.no
 |.lit w,_,m=>.ok w m
 |.bin op a b,env,m=>(af cl a env m).bind λx m1=>(af cl b env m1).bind λy m2=>dh op x y m2
 |.neg a,env,m=>(af cl a env m).bind λx m1=>match x with
  |.int i=>.ok (.int (-i)) m1
  |_=>.no
 |.not a,env,m=>(af cl a env m).bind λx m1=>match x with
  |.bl b=>.ok (.bl (! b)) m1
  |_=>.no
 |.and a b,env,m=>(af cl a env m).bind λx m1=>match x with
  |.bl true=>af cl b env m1
  |.bl false=>.ok (.bl false) m1
  |_=>.no
 |.or a b,env,m=>(af cl a env m).bind λx m1=>match x with
  |.bl false=>af cl b env m1
  |.bl true=>.ok (.bl true) m1
  |_=>.no
 |.cmp op a b,env,m=>(af cl a env m).bind λx m1=>(af cl b env m1).bind λy m2=>cZ op x y m2
 |.chain p q a b c,env,m=>(af cl a env m).bind λx m1=>(af cl b env m1).bind λy m2=>(cZ p x y m2).bind λz m3=>match z with
  |.bl true=>(af cl c env m3).bind λu m4=>cZ q y u m4
  |.bl false=>.ok (.bl false) m3
  |_=>.no
 |.ife c a b,env,m=>(af cl c env m).bind λx m1=>match x with
  |.bl true=>af cl a env m1
  |.bl false=>af cl b env m1
  |_=>.no
 |.unit,_,m=>.ok (.tup []) m
 |.pair a b,env,m=>(af cl a env m).bind λx m1=>(af cl b env m1).bind λy m2=>.ok (.tup (x::zn y)) m2
 |.call k a,env,m=>(af cl a env m).bind λx m1=>cl k (zn x) m1
 |.blt b a,env,m=>(af cl a env m).bind λx m1=>fe b (zn x) m1
 |.isi t a,env,m=>(af cl a env m).bind λx m1=>dq (cY t x m1) m1
 |.lst a,env,m=>(af cl a env m).bind λx m1=>alloc m1 (zn x)
 |.tup a,env,m=>(af cl a env m).bind λx m1=>if(zn x).length<=av then .ok (.tup (zn x)) m1 else .no
 |.dict0,_,m=>.ok (.ref m.length) (m++[.dct [] []])
 |.idx a b,env,m=>(af cl a env m).bind λx m1=>(af cl b env m1).bind λy m2=>jG x y m2
 |.dget a b,env,m=>(af cl a env m).bind λx m1=>(af cl b env m1).bind λy m2=>gP x y m2
 |.slB a lo hi,env,m=>(af cl a env m).bind λx m1=>(af cl lo env m1).bind λy m2=>match y with
  |.int i=>(af cl hi env m2).bind λz m3=>match z with
   |.int j=>hU x (some i) (some j) m3
   |_=>.no
  |_=>.no
 |.meth n o a,env,m=>(af cl o env m).bind λx m1=>match xr x m1 with
  |true=>(af cl a env m1).bind λy m2=>dr n x (zn y) m2
  |false=>.no
 |.rng a b c,env,m=>(af cl a env m).bind λx m1=>(af cl b env m1).bind λy m2=>(af cl c env m2).bind λz m3=>iB x y z m3
 |.comp elt it cond,env,m=>(af cl it env m).bind λx m1=>match x with
  |.tup xs=>xU (λx m=>af cl cond (env++[some x]) m) (λx m=>af cl elt (env++[some x]) m) xs [] m1
  |.rol xs=>xU (λx m=>af cl cond (env++[some x]) m) (λx m=>af cl elt (env++[some x]) m) xs [] m1
  |.ref l=>xW (λx m=>af cl cond (env++[some x]) m) (λx m=>af cl elt (env++[some x]) m) l (av+1) 0 [] m1
  |_=>.no
 |.compP k elt a b cond,env,m=>(af cl a env m).bind λx m1=>(af cl b env m1).bind λy m2=>
  yh (λu v m=>af cl cond (env++[some u]++[some v]) m) (λu v m=>af cl elt (env++[some u]++[some v]) m) (zC k x y) (av+1) 0 [] m2
 |.lrng a,env,m=>(af cl a env m).bind λx m1=>match x with
  |.int j=>if -av<=j/\j<=av then alloc m1 (fw 0 1 j.toNat)else .no
  |_=>.no
def wR(body:Wd->En->Me->Rs):List Wd->En->Me->Rs
 |[],env,m=>.next env m
 |x::xs,env,m=>match body x env m with
  |.next e1 m1=>wR body xs e1 m1
  |.cont e1 m1=>wR body xs e1 m1
  |.brk e1 m1=>.next e1 m1
  |r=>r
def wS(body:Wd->En->Me->Rs)(l:Nat):Nat->Nat->En->Me->Rs
 |0,_,_,_=>.no
 |k+1,i,env,m=>match zA m l with
  |none=>.no
  |some xs=>match xs[i]? with
   |none=>.next env m
   |some x=>match body x env m with
    |.next e1 m1=>wS body l k (i+1) e1 m1
    |.cont e1 m1=>wS body l k (i+1) e1 m1
    |.brk e1 m1=>.next e1 m1
    |r=>r
def je(c:En->Me->Rz)(body:En->Me->Rs):Nat->En->Me->Rs
 |0,_,_=>.no
 |k+1,env,m=>match c env m with
  |.ok (.bl true) m1=>match body env m1 with
   |.next e1 m2=>je c body k e1 m2
   |.cont e1 m2=>je c body k e1 m2
   |.brk e1 m2=>.next e1 m2
   |r=>r
  |.ok (.bl false) m1=>.next env m1
  |.exc c w m1=>.exc c w env m1
  |_=>.no
def Rz.bindS(r:Rz)(env:En)(f:Wd->Me->Rs):Rs:=match r with
 |.ok w m=>f w m
 |.exc c w m=>.exc c w env m
 |.no=>.no
def fv(body:Wd->En->Me->Rs)(w:Wd)(env:En)(m:Me):Rs:=match w with
 |.tup xs=>wR body xs env m
 |.rol xs=>wR body xs env m
 |.ref l=>wS body l (av+1) 0 env m
 |_=>.no
def dw(i j:Nat):Wd->En->Option En:=λw env=>match w with
 |.tup [a,b]=>some ((env.set i (some a)).set j (some b))
 |_=>none
def dL(i j k:Nat)(w:Wd)(m:Me)(env:En):Option En:=match xT m w with
 |some [a,b,c]=>some (((env.set i (some a)).set j (some b)).set k (some c))
 |_=>none
def yX(st:Wd->En->Option En)(b:En->Me->Rs):Wd->En->Me->Rs:=λw env m=>match st w env with
 |some env'=>b env' m
 |none=>.no
def iA(op:Bo)(x y:Wd)(m:Me)(env:En)(f:Wd->Me->Rs):Rs:=match x,y with
 |.int _,.int _=>(dh op x y m).bindS env f
 |_,_=>.no
def bA(cl:Nat->List Wd->Me->Rz):Sm->En->Me->Rs
 |.skip,env,m=>.next env m
 |.seq a b,env,m=>match bA cl a env m with
  |.next e1 m1=>bA cl b e1 m1
  |r=>r
 |.asg i e,env,m=>(af cl e env m).bindS env λw m1=>.next (env.set i (some w)) m1
 |.asgS o i e,env,m=>(af cl e env m).bindS env λw m1=>(af cl o env m1).bindS env λx m2=>(af cl i env m2).bindS env λy m3=>(qt x y w m3).bindS env λ_ m4=>.next env m4
 |.aug i op e,env,m=>match env[i]? with
  |some (some x)=>(af cl e env m).bindS env λy m1=>iA op x y m1 env λz m2=>.next (env.set i (some z)) m2
  |_=>.no
 |.ite c a b,env,m=>(af cl c env m).bindS env λx m1=>match x with
  |.bl true=>bA cl a env m1
  |.bl false=>bA cl b env m1
  |_=>.no
 |.forv i it body,env,m=>(af cl it env m).bindS env λw m1=>fv (λx e m=>bA cl body (e.set i (some x)) m) w env m1
 |.fort i j it body,env,m=>(af cl it env m).bindS env λw m1=>fv (yX (dw i j) (bA cl body)) w env m1
 |.while c body,env,m=>je (af cl c) (bA cl body) 1000000 env m
 |.ret e,env,m=>(af cl e env m).bindS env λw m1=>.ret w m1
 |.expr e,env,m=>(af cl e env m).bindS env λ_ m1=>.next env m1
 |.unp3 i j k e,env,m=>(af cl e env m).bindS env λw m1=>match dL i j k w m1 env with
  |some e1=>.next e1 m1
  |none=>.no
 |.dput x k e,env,m=>(af cl e env m).bindS env λv m1=>(af cl (.var x) env m1).bindS env λd m2=>(af cl k env m2).bindS env λq m3=>(gQ d q v m3).bindS env λ_ m4=>.next env m4
 |.never,_,_=>.no
def wF(a b c d:Ex):Ex:=.tup (.pair a (.pair b (.pair c (.pair d .unit))))
def c9(k:List Nat)(a:Ex):Ex:=.tup (.pair (.lit (.str k)) (.pair a .unit))
def iF(n:Nat)(k1 k2 k3 k4:List Nat)(a b c d mx elt:Ex):Ex:=.compP .ptp elt (wF (c9 k1 a) (c9 k2 b) (c9 k3 c) (c9 k4 d)) (.lit (.int 0)) (.cmp .eq (.var (n+1)) mx)
def du(x y:Int):Ex:=.tup (.pair (.lit (.int x)) (.pair (.lit (.int y)) .unit))
def w5(i:Nat)(k1 k2 k3 k4:List Nat):Ex:=.ife (.cmp .eq (.var i) (.lit (.str k1))) (.lit (.int 0)) (.ife (.cmp .eq (.var i) (.lit (.str k2))) (.lit (.int 1)) (.ife (.cmp .eq (.var i) (.lit (.str k3))) (.lit (.int 2)) (.ife (.cmp .eq (.var i) (.lit (.str k4))) (.lit (.int 3)) (.lit .non))))
def jH{α:Type}(s k1 k2 k3 k4:List Nat)(a b c d:α):Option α:=if s=k1 then some a else if s=k2 then some b else if s=k3 then some c else if s=k4 then some d else none
set_option genInjectivity false in
structure Fn where
 ar:Nat
 sz:Nat
 body:Sm
deriving Inhabited
def yY(fn:Fn)(ws:List Wd):En:=ws.map some++Qx (fn.sz-ws.length) none
def wL(cl:Nat->List Wd->Me->Rz)(fn:Fn)(ws:List Wd)(m:Me):Rz:=
 if ws.length=fn.ar then match bA cl fn.body (yY fn ws) m with
  |.next _ m1=>.ok .non m1
  |.ret w m1=>.ok w m1
  |.exc c w _ m1=>.exc c w m1
  |_=>.no
 else .no
def yR(T:List Fn):Nat->Nat->List Wd->Me->Rz
 |0,_,_,_=>.no
 |d+1,k,ws,m=>match T[k]? with
  |some fn=>wL (yR T d) fn ws m
  |none=>.no
end Mini
namespace Mini
open PySem PySem.Spec PyProof.Rows L2
abbrev St:=L2.St
def KL(K:Qb)(a:Addr)(xs:List V):Prop:=
 ∃(o:Obj) (its:Array Value) (n:Nat),K.lookup a=some o/\o.cls=.type "list" /\ o.dict=none/\o.data=.seq its n/\its.size<=sizeLine/\ay xs its.toList
def eS(K:Qb)(H:Hp)(a:Addr)(vs:List V):Prop:=(∃o,H a=some (.frz o (.lst vs)))\/KL K a vs
def eS.sq {K:Qb}(h:eS K H a vs):bj K H a vs:=by
 rcases h with h|h
 .exact .inl (.inr h)
 .exact .inr h
mutual
def aj(K:Qb)(as:List Addr)(H:Hp):Wd->V->Prop
 |.non,v=>v=.non
 |.bl b,v=>v=.bl b
 |.int i,v=>v=.int i
 |.str s,v=>v=.str ⟨s.toArray⟩
 |.tup xs,v=>∃a vs,v=.ref a/\cb K H a vs/\ae K as H xs vs
 |.rol xs,v=>∃a vs,v=.ref a/\eS K H a vs/\ae K as H xs vs
 |.ref l,v=>∃a,as[l]?=some a/\v=.ref a
def ae(K:Qb)(as:List Addr)(H:Hp):List Wd->List V->Prop
 |[],vs=>vs=[]
 |x::xs,vs=>∃v r,vs=v::r/\aj K as H x v/\ae K as H xs r
end
def bx(K:Qb)(as:List Addr)(H:Hp):Ob->Addr->Prop
 |.lst ws,a=>∃vs,H a=some (.lst vs)/\ae K as H ws vs
 |.dct ks ws,a=>∃xs vs,jF K H a xs/\xs.map (·.1)=ks/\ae K as H ws vs/\ay vs (xs.map (·.2.2))/\ks.Nodup
structure aQ(K:Qb)(as:List Addr)(m:Me)(H:Hp):Prop where
 len:as.length=m.length
 nd:as.Nodup
 obj:∀(l:Nat) (a:Addr) (o:Ob),as[l]?=some a->m[l]?=some o->bx K as H o a
structure Step(as:List Addr)(H:Hp)(as':List Addr)(H':Hp):Prop where
 pre:∃t,as'=as++t
 frame:∀b o,H b=some o->b∉as->H' b=some o
 fresh:∀a∈as',a∈as\/H a=none
section
variable{K:Qb}{as as' as2:List Addr}{H H' H2:Hp}{m m':Me}
def Step.refl:Step as H as H:=⟨⟨[],by simp⟩,λ_ _ h _=>h,λ_ h=>.inl h⟩
def Step.get (T:Step as H as' H'){l:Nat}(h:as[l]?=some a):as'[l]?=some a:=by
 obtain⟨t,rfl⟩:=T.pre;rw[Qg (Qa.mp h).1];exact h
def Step.out (T:Step as H as' H')(h:H b=some o)(hb:b∉as):b∉as':=λz=>by
 rcases T.fresh b z with q|q
 .exact hb q
 .rw[h]at q;cases q
def Step.trans(T:Step as H as' H')(U:Step as' H' as2 H2):Step as H as2 H2:=by
 refine⟨?_,λb o h hb=>U.frame b o (T.frame b o h hb) (T.out h hb),λa ha=>?_⟩
 .obtain ⟨t,rfl⟩:=T.pre;obtain⟨u,rfl⟩:=U.pre;exact⟨t++u,by simp⟩
 .rcases U.fresh a ha with q|q
  .exact T.fresh a q
  .by_cases z:a∈as
   .exact .inl z
   .refine .inr ?_;cases e:H a with
    |none=>rfl
    |some o=>rw[T.frame a o e z]at q;cases q
def aQ.get (S:aQ K as m H){l:Nat}(h:m[l]?=some o):∃a,as[l]?=some a/\bx K as H o a:=by
 have hl:l<as.length:=by rw[S.len];exact(Qa.mp h).1
 exact⟨as[l],by simp[hl],S.obj l _ o (by simp[hl]) h⟩
def LD:HO->Prop
 |.lst _=>True
 |.ext _=>True
 |.dK _=>True
 |_=>False
def aQ.isLst (S:aQ K as m H)(h:a∈as):∃o,H a=some o/\LD o:=by
 obtain⟨l,hl,rfl⟩:=Vd.mp h;have hm:l<m.length:=by rw[<-S.len];exact hl
 have q:=S.obj l as[l] m[l] (by simp[hl]) (by simp[hm]);cases e:m[l]with
 |lst ws=>
  rw[e]at q;obtain⟨vs,h1,_⟩:=q;exact⟨_,h1,trivial⟩
 |dct ks ws=>
  rw[e]at q;obtain⟨xs,vs,h1,_⟩:=q;exact⟨_,h1.1,trivial⟩
def Hs (nt:∀a∈as,∃o,H a=some o/\LD o)(T:Step as H as' H')(h:cb K H a vs):cb K H' a vs:=by
 rcases h with h|h
 .have hn:a∉as:=λz=>by
   obtain⟨u,e,hu⟩:=nt a z;rcases h with h|⟨o,h⟩<;>rw[e]at h<;>cases h<;>exact hu
  rcases h with h|⟨o,h⟩
  .exact .inl (.inl (T.frame _ _ h hn))
  .exact .inl (.inr ⟨o,T.frame _ _ h hn⟩)
 .exact .inr h
def Hr (nt:∀a∈as,∃o,H a=some o/\LD o)(T:Step as H as' H')(h:eS K H a vs):eS K H' a vs:=by
 rcases h with⟨o,h⟩|h
 .have hn:a∉as:=λz=>by
   obtain⟨u,e,hu⟩:=nt a z;rw[e]at h;cases h;exact hu
  exact .inl ⟨o,T.frame _ _ h hn⟩
 .exact .inr h
structure Kp(K:Qb)(H H':Hp):Prop where
 t:∀a vs,cb K H a vs->cb K H' a vs
 f:∀a vs,eS K H a vs->eS K H' a vs
def aQ.kp(S:aQ K as m H)(T:Step as H as' H'):Kp K H H':=⟨λ_ _ h=>Hs (λ_ z=>S.isLst z) T h,λ_ _ h=>Hr (λ_ z=>S.isLst z) T h⟩
def i7 (h:H D=some u)(hu:LD u):Kp K H (L2.aK H D o):=by
 refine⟨λa vs q=>?_,λa vs q=>?_⟩
 .rcases q with (q|⟨x,q⟩)|q
  .exact .inl (.inl (by rw[zl (by rintro rfl;rw[h]at q;cases q;exact hu)];exact q))
  .exact .inl (.inr ⟨x,by rw[zl (by rintro rfl;rw[h]at q;cases q;exact hu)];exact q⟩)
  .exact .inr q
 .rcases q with⟨x,q⟩|q
  .exact .inl ⟨x,by rw[zl (by rintro rfl;rw[h]at q;cases q;exact hu)];exact q⟩
  .exact .inr q
def Kp.upd{D:Addr}{ys:List V}{o:HO}(h:H D=some (.lst ys)):Kp K H (L2.aK H D o):=i7 h trivial
mutual
theorem jI(k:Kp K H H')(g:∀(l:Nat) (a:Addr),as[l]?=some a->as'[l]?=some a):∀(w:Wd) (v:V),aj K as H w v->aj K as' H' w v
 |.non,_,h=>by rw[aj]at h ⊢;exact h
 |.bl _,_,h=>by rw[aj]at h ⊢;exact h
 |.int _,_,h=>by rw[aj]at h ⊢;exact h
 |.str _,_,h=>by rw[aj]at h ⊢;exact h
 |.tup xs,v,h=>by
  rw[aj]at h ⊢;obtain⟨a,vs,e,q,r⟩:=h;exact⟨a,vs,e,k.t _ _ q,bg k g xs vs r⟩
 |.rol xs,v,h=>by
  rw[aj]at h ⊢;obtain⟨a,vs,e,q,r⟩:=h;exact⟨a,vs,e,k.f _ _ q,bg k g xs vs r⟩
 |.ref l,v,h=>by
  rw[aj]at h ⊢;obtain⟨a,q,e⟩:=h;exact⟨a,g _ _ q,e⟩
theorem bg(k:Kp K H H')(g:∀(l:Nat) (a:Addr),as[l]?=some a->as'[l]?=some a):∀(ws:List Wd) (vs:List V),ae K as H ws vs->ae K as' H' ws vs
 |[],_,h=>by rw[ae]at h ⊢;exact h
 |x::xs,vs,h=>by
  rw[ae]at h ⊢;obtain⟨v,r,e,q,t⟩:=h;exact⟨v,r,e,jI k g x v q,bg k g xs r t⟩
end
def bx.mono{ob:Ob}{a:Addr}(k:Kp K H H')(g:∀(l:Nat) (a:Addr),as[l]?=some a->as'[l]?=some a)(e:∀o,H a=some o->H' a=some o)(h:bx K as H ob a):bx K as' H' ob a:=by
 cases ob with
 |lst ws=>obtain⟨vs,h1,h2⟩:=h;exact⟨vs,e _ h1,bg k g _ _ h2⟩
 |dct ks ws=>obtain⟨xs,vs,h1,h2,h3,h4⟩:=h;exact⟨xs,vs,⟨e _ h1.1,λx hx=>k.t _ _ (h1.2 x hx)⟩,h2,bg k g _ _ h3,h4⟩
def aj.mono{w:Wd}{v:V}(h:aj K as H w v)(S:aQ K as m H)(T:Step as H as' H'):aj K as' H' w v:=jI (S.kp T) (λ_ _ e=>T.get e) w v h
def ae.mono{ws:List Wd}{vs:List V}(h:ae K as H ws vs)(S:aQ K as m H)(T:Step as H as' H'):ae K as' H' ws vs:=bg (S.kp T) (λ_ _ e=>T.get e) ws vs h
def ae.kp{ws:List Wd}{vs:List V}(h:ae K as H ws vs)(k:Kp K H H'):ae K as H' ws vs:=bg k (λ_ _ e=>e) ws vs h
def aj.kp{w:Wd}{v:V}(h:aj K as H w v)(k:Kp K H H'):aj K as H' w v:=jI k (λ_ _ e=>e) w v h
def aq:aj K as H .non v↔v=.non:=by rw[aj]
def ah:aj K as H (.bl b) v↔v=.bl b:=by rw[aj]
def aa:aj K as H (.int i) v↔v=.int i:=by rw[aj]
def aB:aj K as H (.str s) v↔v=.str ⟨s.toArray⟩:=by rw[aj]
def ai:aj K as H (.tup xs) v↔∃a vs,v=.ref a/\cb K H a vs/\ae K as H xs vs:=by rw[aj]
def ba:aj K as H (.rol xs) v↔∃a vs,v=.ref a/\eS K H a vs/\ae K as H xs vs:=by rw[aj]
def aE:aj K as H (.ref l) v↔∃a,as[l]?=some a/\v=.ref a:=by rw[aj]
def aw:ae K as H [] vs↔vs=[]:=by rw[ae]
def ao:ae K as H (x::xs) vs↔∃v r,vs=v::r/\aj K as H x v/\ae K as H xs r:=by rw[ae]
theorem ae.length:∀{xs:List Wd}{vs:List V},ae K as H xs vs->xs.length=vs.length
 |[],vs,h=>by rw[aw.mp h];rfl
 |x::xs,vs,h=>by
  obtain⟨v,r,rfl,_,t⟩:=ao.mp h;simp[ae.length t]
theorem ae.get:∀{xs:List Wd}{vs:List V}{i:Nat}{x:Wd},ae K as H xs vs->xs[i]?=some x->∃v,vs[i]?=some v/\aj K as H x v
 |[],_,_,_,_,e=>by simp at e
 |x::xs,vs,0,y,h,e=>by
  obtain⟨v,r,rfl,q,t⟩:=ao.mp h;simp at e;subst e;exact⟨v,rfl,q⟩
 |x::xs,vs,i+1,y,h,e=>by
  obtain⟨v,r,rfl,q,t⟩:=ao.mp h;obtain⟨u,h1,h2⟩:=ae.get (i:=i) (x:=y) t (by simpa using e);exact⟨u,by simpa using h1,h2⟩
def ae.back:∀{xs:List Wd}{vs:List V}{i:Nat}{v:V},ae K as H xs vs->vs[i]?=some v->∃x,xs[i]?=some x/\aj K as H x v:=λ{xs vs i v} h e=>by
 have hi:i<xs.length:=by rw[h.length];exact(Qa.mp e).1
 obtain⟨u,h1,h2⟩:=h.get (i:=i) (x:=xs[i]) (by simp[hi]);rw[e]at h1;cases h1;exact⟨xs[i],by simp[hi],h2⟩
theorem ae.append:∀{xs ys:List Wd}{vs us:List V},ae K as H xs vs->ae K as H ys us->ae K as H (xs++ys) (vs++us)
 |[],ys,vs,us,h,h'=>by rw[aw.mp h];exact h'
 |x::xs,ys,vs,us,h,h'=>by
  obtain⟨v,r,rfl,q,t⟩:=ao.mp h;exact ao.mpr ⟨v,r++us,rfl,q,t.append h'⟩
def ae.one{x:Wd}{v:V}(h:aj K as H x v):ae K as H [x] [v]:=ao.mpr ⟨v,[],rfl,h,aw.mpr rfl⟩
theorem ae.set:∀{xs:List Wd}{vs:List V}{x:Wd}{v:V}(i:Nat),ae K as H xs vs->aj K as H x v->ae K as H (xs.set i x) (vs.set i v)
 |[],vs,_,_,_,h,_=>by rw[aw.mp h];exact aw.mpr rfl
 |y::xs,vs,x,v,0,h,hx=>by
  obtain⟨u,r,rfl,q,t⟩:=ao.mp h;exact ao.mpr ⟨v,r,rfl,hx,t⟩
 |y::xs,vs,x,v,i+1,h,hx=>by
  obtain⟨u,r,rfl,q,t⟩:=ao.mp h;exact ao.mpr ⟨u,r.set i v,rfl,q,t.set i hx⟩
theorem ae.take:∀{xs:List Wd}{vs:List V}(n:Nat),ae K as H xs vs->ae K as H (xs.take n) (vs.take n)
 |_,_,0,_=>aw.mpr rfl
 |[],vs,n+1,h=>by rw[aw.mp h];exact aw.mpr rfl
 |x::xs,vs,n+1,h=>by
  obtain⟨v,r,rfl,q,t⟩:=ao.mp h;exact ao.mpr ⟨v,r.take n,rfl,q,t.take n⟩
theorem ae.drop:∀{xs:List Wd}{vs:List V}(n:Nat),ae K as H xs vs->ae K as H (xs.drop n) (vs.drop n)
 |_,_,0,h=>h
 |[],vs,n+1,h=>by rw[aw.mp h];exact aw.mpr rfl
 |x::xs,vs,n+1,h=>by
  obtain⟨v,r,rfl,q,t⟩:=ao.mp h;exact t.drop n
theorem ae.reverse:∀{xs:List Wd}{vs:List V},ae K as H xs vs->ae K as H xs.reverse vs.reverse
 |[],vs,h=>by rw[aw.mp h];exact aw.mpr rfl
 |x::xs,vs,h=>by
  obtain⟨v,r,rfl,q,t⟩:=ao.mp h;rw[Wb,Wb];exact t.reverse.append (.one q)
theorem ae.dropLast:∀{xs:List Wd}{vs:List V},ae K as H xs vs->ae K as H xs.dropLast vs.dropLast:=λ{xs vs} h=>by
 rw[WG,WG,h.length];exact h.take _
theorem ae.rep (h:ae K as H xs vs):∀k:Nat,ae K as H (Qx k xs).flatten (Qx k vs).flatten
 |0=>aw.mpr rfl
 |k+1=>by
  rw[QY,QY,Wc,Wc];exact h.append (ae.rep h k)
structure aF(K:Qb)(as:List Addr)(H:Hp)(env:En)(σ:St):Prop where
 len:env.length=σ.length
 get:∀(i:Nat) (w:Wd),env[i]?=some (some w)->∃v,σ[i]?=some (some v)/\aj K as H w v
theorem aF.mono{env:En}{σ:St}(G:aF K as H env σ)(S:aQ K as m H)(T:Step as H as' H'):aF K as' H' env σ:=
 ⟨G.len,λi w e=>let⟨v,h1,h2⟩:=G.get i w e;⟨v,h1,h2.mono S T⟩⟩
theorem aF.kp{env:En}{σ:St}(G:aF K as H env σ)(k:Kp K H H'):aF K as H' env σ:=
 ⟨G.len,λi w e=>let⟨v,h1,h2⟩:=G.get i w e;⟨v,h1,h2.kp k⟩⟩
theorem aF.set{env:En}{σ:St}(G:aF K as H env σ){w:Wd}{v:V}(h:aj K as H w v)(i:Nat):aF K as H (env.set i (some w)) (σ.set i (some v)):=by
 refine⟨by simp[G.len],λj x e=>?_⟩;by_cases hj:j=i
 .subst hj;have hl:j<env.length:=by
   have:=(Qa.mp e).1;simpa using this
  rw[QN hl]at e;cases e;exact⟨v,QN (by rw[<-G.len];exact hl),h⟩
 .rw[Qw (Ne.symm hj)]at e;obtain⟨u,h1,h2⟩:=G.get j x e;exact⟨u,by rw[Qw (Ne.symm hj)];exact h1,h2⟩
def aF.push{env:En}{σ:St}(G:aF K as H env σ){w:Wd}{v:V}(h:aj K as H w v):aF K as H (env++[some w]) (σ++[some v]):=by
 refine⟨by simp[G.len],λj x e=>?_⟩;by_cases hj:j<env.length
 .rw[Qg hj]at e;obtain⟨u,h1,h2⟩:=G.get j x e;exact⟨u,by rw[Qg (by rw[<-G.len];exact hj)];exact h1,h2⟩
 .rw[Qi (by lia)]at e;have hz:j-env.length=0:=by
   cases hq:j-env.length with
   |zero=>rfl
   |succ k=>rw[hq]at e;simp at e
  rw[hz]at e;simp at e;subst e;refine⟨v,?_,h⟩;rw[Qi (by rw[<-G.len];lia),<-G.len,hz];rfl
def am(K:Qb)(as:List Addr)(H:Hp)(Q:VK)(r:Rz):Prop:=match r with
 |.ok w m'=>∀as' H' v,Step as H as' H'->aQ K as' m' H'->aj K as' H' w v->Q v H'
 |_=>False
def am.step{Q:VK}{r:Rz}(h:am K as H Q r)(T:Step as H as' H'):am K as' H' Q r:=by
 cases r with
 |ok w m'=>exact λas2 H2 v U S R=>h as2 H2 v (T.trans U) S R
 |exc c w m'=>exact h
 |no=>exact h
theorem am.bind{Q Q1:VK}{r:Rz}{f:Wd->Me->Rz}(h:am K as H Q (r.bind f))
  (k:∀w m' as' H' v,Step as H as' H'->aQ K as' m' H'->aj K as' H' w v->am K as' H' Q (f w m')->Q1 v H'):am K as H Q1 r:=by
 cases r with
 |ok w m'=>exact λas2 H2 v U S R=>k w m' as2 H2 v U S R (am.step (r:=f w m') h U)
 |exc c w m'=>exact h
 |no=>exact h
def eY (h:am K as H Q (r.bind f))(T:Step as H as' H')(k:∀w m2 as2 H2 v,Step as' H' as2 H2->aQ K as2 m2 H2->aj K as2 H2 w v->am K as H Q (f w m2)->Q1 v H2):am K as' H' Q1 r:=by
 cases r with
 |ok w m'=>exact λas2 H2 v U S R=>k w m' as2 H2 v U S R h
 |exc c w m'=>exact h
 |no=>exact h
def aM(K:Qb)(g:En->Me->Rz):TE:=λσ H Q=>∃as env m,aQ K as m H/\aF K as H env σ/\am K as H Q (g env m)
def xY(K:Qb)(g:En->Me->Rz):TT:=λσ H Q=>aM K g σ H λv H'=>∃b,v=.bl b/\Q b H'
theorem am.ok (h:am K as H Q (.ok w m))(S:aQ K as m H)(R:aj K as H w v):Q v H:=h as H v .refl S R
end
def PE.imp{X:Cx}{e:Expr}{t t':TE}(h:PE X e t)(k:∀σ H Q,t' σ H Q->t σ H Q):PE X e t':=λpins s σ H Q I q=>h pins s σ H Q I (k σ H Q q)
def PT.imp{X:Cx}{e:Expr}{t t':TT}(h:PT X e t)(k:∀σ H Q,t' σ H Q->t σ H Q):PT X e t':=λpins s σ H Q I q=>h pins s σ H Q I (k σ H Q q)
def PA.imp{X:Cx}{es:List Expr}{t t':TA}(h:PA X es t)(k:∀σ H Q,t' σ H Q->t σ H Q):PA X es t':=λpos pins s σ H Q I q=>h pos pins s σ H Q I (k σ H Q q)
def PS.imp{X:Cx}{st:Stmt}{t t':TS}(h:PS X st t)(k:∀D σ H,t' D σ H->t D σ H):PS X st t':=λpins s σ H D I q=>h pins s σ H D I (k D σ H q)
def cv.imp{X:Cx}{st:List Stmt}{t t':TS}(h:cv X st t)(k:∀D σ H,t' D σ H->t D σ H):cv X st t':=λpins s σ H D I q=>h pins s σ H D I (k D σ H q)
section
variable{K:Qb}{as:List Addr}{H H':Hp}{m:Me}{Q:VK}{a p:Addr}{l:Nat}{ws xs:List Wd}{vs us:List V}
def xh:av<=sizeLine:=by rw[Mr];decide
def aQ.new(S:aQ K as m H)(hp:H p=none):p∉as:=λz=>by
 obtain⟨us,e,_⟩:=S.isLst z;rw[hp]at e;cases e
def aQ.alloc(S:aQ K as m H)(hp:H p=none)(R:ae K as H ws vs):Step as H (as++[p]) (aK H p (.lst vs))/\aQ K (as++[p]) (m++[.lst ws]) (aK H p (.lst vs)):=by
 have hn:=S.new hp;have T:Step as H (as++[p]) (aK H p (.lst vs)):=⟨⟨[p],rfl⟩,λb o h _=>by rw[zl (zr h hp)];exact h,λb hb=>by
  rcases QL.mp hb with z|z
  .exact .inl z
  .exact .inr (by rw[QP.mp z];exact hp)⟩
 refine⟨T,⟨by simp[S.len],?_,λl b o h1 h2=>?_⟩⟩
 .refine Qz.mpr ⟨S.nd,by simp,λx hx y hy=>?_⟩;rw[QP.mp hy];rintro rfl;exact hn hx
 .by_cases hl:l<as.length
  .rw[Qg hl]at h1;rw[Qg (by rw[<-S.len];exact hl)]at h2;have q:=S.obj l b o h1 h2;cases o with
   |lst ys=>
    obtain⟨zs,e,r⟩:=q;exact⟨zs,by rw[zl (zr e hp)];exact e,r.mono S T⟩
   |dct ks us=>exact bx.mono (ob:=.dct ks us) (S.kp T) (λ_ _ e=>T.get e) (λo e=>by rw[zl (zr e hp)];exact e) q
  .rw[Qi (by lia)]at h1;rw[Qi (by rw[<-S.len];lia)]at h2;have hz:l-as.length=0:=by
    cases hq:l-as.length with
    |zero=>rfl
    |succ k=>rw[hq]at h1;simp at h1
   rw[hz]at h1;rw[<-S.len,hz]at h2;simp at h1 h2;subst h1;subst h2;exact⟨vs,zm,R.mono S T⟩
theorem aQ.set(S:aQ K as m H)(ha:as[l]?=some a)(hm:m[l]?=some (.lst xs))(R:ae K as H ws vs):Step as H as (aK H a (.lst vs))/\aQ K as (m.set l (.lst ws)) (aK H a (.lst vs)):=by
 have hin:a∈as:=Qp ha;have T:Step as H as (aK H a (.lst vs)):=⟨⟨[],by simp⟩,λb o h hb=>by
  rw[zl (by rintro rfl;exact hb hin)];exact h,λb hb=>.inl hb⟩
 refine⟨T,⟨by simp[S.len],S.nd,λk b o h1 h2=>?_⟩⟩;by_cases hk:k=l
 .subst hk;rw[ha]at h1;cases h1;rw[QN (Qa.mp hm).1]at h2;cases h2;exact⟨vs,zm,R.mono S T⟩
 .rw[Qw (Ne.symm hk)]at h2;have q:=S.obj k b o h1 h2;have hb:b≠a:=by
   rintro rfl;obtain⟨i1,e1⟩:=Qa.mp h1;obtain⟨i2,e2⟩:=Qa.mp ha;exact hk ((WI S.nd).mp (e1.trans e2.symm))
  cases o with
  |lst ys=>
   obtain⟨zs,e,r⟩:=q;exact⟨zs,by rw[zl hb];exact e,r.mono S T⟩
  |dct ks us=>exact bx.mono (ob:=.dct ks us) (S.kp T) (λ_ _ e=>T.get e) (λo e=>by rw[zl hb];exact e) q
def aQ.keep(S:aQ K as m H)(T:Step as H as H')(hk:∀a∈as,∀o,H a=some o->H' a=some o):aQ K as m H':=by
 refine⟨S.len,S.nd,λl b o h1 h2=>?_⟩;have q:=S.obj l b o h1 h2;cases o with
 |lst ys=>
  obtain⟨zs,e,r⟩:=q;exact⟨zs,hk b (Qp h1) _ e,r.mono S T⟩
 |dct ks us=>exact bx.mono (ob:=.dct ks us) (S.kp T) (λ_ _ e=>T.get e) (λo e=>hk b (Qp h1) _ e) q
theorem aQ.tup(S:aQ K as m H)(hp:H p=none)(R:ae K as H ws vs):Step as H as (aK H p (.tup vs))/\aQ K as m (aK H p (.tup vs))/\aj K as (aK H p (.tup vs)) (.tup ws) (.ref p):=by
 have T:Step as H as (aK H p (.tup vs)):=⟨⟨[],by simp⟩,λb o h _=>by rw[zl (zr h hp)];exact h,λb hb=>.inl hb⟩;exact⟨T,S.keep T λb _ o e=>by rw[zl (zr e hp)];exact e,ai.mpr ⟨p,vs,rfl,cb.of zm,R.mono S T⟩⟩
def x9(S:aQ K as m H)(R:ae K as H ws vs)(h:am K as H Q (alloc m ws)):vs.length<=av/\∀p,H p=none->Q (.ref p) (aK H p (.lst vs)):=by
 unfold Mini.alloc at h;by_cases hl:ws.length<=av
 .rw[Nj hl]at h;refine⟨by rw[<-R.length];exact hl,λp hp=>?_⟩;obtain⟨T,S'⟩:=S.alloc hp R;refine h _ _ _ T S' (aE.mpr ⟨p,?_,rfl⟩);rw[<-S.len,Qi (Qk _)];simp
 .rw[Nk hl]at h;exact h.elim
def zZ(S:aQ K as m H)(hm:m[l]?=some (.lst xs)):∃a vs,as[l]?=some a/\H a=some (.lst vs)/\ae K as H xs vs:=by
 obtain⟨a,ha,vs,e,r⟩:=S.get hm;exact⟨a,vs,ha,e,r⟩
def zK (h:zA m l=some xs):m[l]?=some (.lst xs):=by
 unfold zA at h;cases e:m[l]? with
 |none=>rw[e]at h;cases h
 |some o=>cases o with
  |lst ys=>rw[e]at h;cases h;rfl
  |dct ks us=>rw[e]at h;cases h
def qu (S:aQ K as m H)(R:aj K as H w v)(h:xT m w=some xs):∃p vs,v=.ref p/\(bj K H p vs\/cb K H p vs)/\ae K as H xs vs:=by
 cases w with
 |tup ys=>
  cases h;obtain⟨b,vs,rfl,q,r⟩:=ai.mp R;exact⟨b,vs,rfl,.inr q,r⟩
 |rol ys=>
  cases h;obtain⟨b,vs,rfl,q,r⟩:=ba.mp R;exact⟨b,vs,rfl,.inl q.sq,r⟩
 |ref l=>
  obtain⟨b,hb,rfl⟩:=aE.mp R;obtain⟨a,vs,ha,e,r⟩:=zZ S (zK h);rw[hb]at ha;cases ha;exact⟨b,vs,rfl,.inl (bj.of e),r⟩
 |non=>cases h
 |bl b=>cases h
 |int i=>cases h
 |str s=>cases h
def ig:Bo->Mb
 |.add=>.Add |.sub=>.Sub |.mul=>.Mult |.fdiv=>.FloorDiv |.mod=>.Mod |.pow=>.Pow |.shr=>.RShift |.band=>.BitAnd
def rB(K:Qb):Bo->R2
 |.add=>λx y H Q=>eD (λi j=>.int (i+j)) x y H Q\/(rG x y H Q\/rZ K x y H Q)
 |.sub=>eD λi j=>.int (i-j)
 |.mul=>λx y H Q=>rI eW (λi j=>.int (i*j)) x y H Q\/rF x y H Q
 |.fdiv=>rI rR λi j=>.int (i/j)
 |.mod=>rI (λ_ j=>0<j) λi j=>.int (i%j)
 |.pow=>rI rQ λi j=>.int (i^j.toNat)
 |.shr=>rI (λ_ j=>0<=j) λi j=>.int (i/2^j.toNat)
 |.band=>eD λi j=>.int (Builtin.bitAnd i j)
def BI (op:Bo):cr X (Mn (ig op)) (rB X.K op):=by
 cases op with
 |add=>exact fE.or (fD.or FT)
 |sub=>exact D9
 |mul=>exact fC.or C0
 |fdiv=>exact FY
 |mod=>exact D8
 |pow=>exact D7
 |shr=>exact D6
 |band=>exact Da
def FP (h:0<=i):Builtin.bitAnd i 1=i%2:=by
 obtain⟨n,rfl⟩:=Wh h;show Int.ofNat (n &&& 1)=_;rw[Nat.and_one_is_mod];rfl
def kN (h:xq i=true):-(2^64)<i/\i<2^64:=by
 unfold xq cI at h;rw[Qr,decide_eq_true_iff,decide_eq_true_iff]at h;lia
def wr [Decidable c](h:am K as H Q (if c then r else .no)):c/\am K as H Q r:=by
 by_cases hc:c
 .rw[Nj hc]at h;exact⟨hc,h⟩
 .rw[Nk hc]at h;exact h.elim
def FN (h:am K as H Q (dh .add (.ref a) (.ref b) m)):∃xs ys,m[a]?=some (.lst xs)/\m[b]?=some (.lst ys)/\am K as H Q (alloc m (xs++ys)):=by
 unfold dh at h;dsimp only at h;generalize m[a]?=p at h ⊢;generalize m[b]?=q at h ⊢;cases p with
 |none=>exact h.elim
 |some o=>
  cases o with
  |dct ks us=>exact h.elim
  |lst xs=>
   cases q with
   |none=>exact h.elim
   |some o=>
    cases o with
    |dct ks us=>exact h.elim
    |lst ys=>exact⟨xs,ys,rfl,rfl,h⟩
def FM (h:am K as H Q (dh .mul (.ref a) (.int k) m)):∃xs,m[a]?=some (.lst xs)/\am K as H Q (if -av<=k/\k<=av then alloc m (Qx k.toNat xs).flatten else .no):=by
 unfold dh at h;dsimp only at h;generalize m[a]?=p at h ⊢;cases p with
 |none=>exact h.elim
 |some o=>
  cases o with
  |dct ks us=>exact h.elim
  |lst xs=>exact⟨xs,rfl,h⟩
def CV (S:aQ K as m H)(Rx:aj K as H x v)(Ry:aj K as H y u)(h:am K as H Q (dh op x y m)):rB K op v u H Q:=by
 cases x with
 |int i=>
  cases y with
  |int j=>
   obtain rfl:=aa.mp Rx;obtain rfl:=aa.mp Ry;cases op with
   |add=>exact .inl ⟨i,j,rfl,rfl,h.ok S (aa.mpr rfl)⟩
   |sub=>exact⟨i,j,rfl,rfl,h.ok S (aa.mpr rfl)⟩
   |mul=>
    obtain⟨hs,h⟩:=wr h;refine .inl ⟨i,j,rfl,rfl,?_,h.ok S (aa.mpr rfl)⟩;rcases Bool.or_eq_true_iff.mp hs with q|q
    .exact .inl (kN q)
    .exact .inr (kN q)
   |fdiv=>
    obtain⟨hs,h⟩:=wr h;exact⟨i,j,rfl,rfl,hs,h.ok S (aa.mpr rfl)⟩
   |mod=>
    obtain⟨hs,h⟩:=wr h;exact⟨i,j,rfl,rfl,hs,h.ok S (aa.mpr rfl)⟩
   |pow=>
    obtain⟨⟨h1,h2,h3⟩,h⟩:=wr h;have h4:=kN h3;exact⟨i,j,rfl,rfl,⟨h1,h2,by lia⟩,h.ok S (aa.mpr rfl)⟩
   |shr=>
    obtain⟨hs,h⟩:=wr h;exact⟨i,j,rfl,rfl,hs.1,h.ok S (aa.mpr rfl)⟩
   |band=>
    obtain⟨⟨h1,rfl⟩,h'⟩:=wr h;refine⟨i,1,rfl,rfl,?_⟩;show Q (.int (Builtin.bitAnd i 1)) H;rw[FP h1];exact h'.ok S (aa.mpr rfl)
  |_=>exact h.elim
 |ref a=>
  obtain⟨pa,ha,rfl⟩:=aE.mp Rx;cases y with
  |ref b=>
   obtain⟨pb,hb,rfl⟩:=aE.mp Ry;cases op with
   |add=>
    obtain⟨xs,ys,e1,e2,h⟩:=FN h;obtain⟨pa',va,ha',ea,ra⟩:=zZ S e1;rw[ha]at ha';cases ha';obtain⟨pb',vb,hb',eb,rb⟩:=zZ S e2;rw[hb]at hb';cases hb';obtain⟨hl,q⟩:=x9 S (ra.append rb) h;rw[QW]at hl;exact .inr (.inl ⟨pa,pb,va,vb,rfl,rfl,ea,eb,Qu hl xh,q⟩)
   |_=>exact h.elim
  |int k=>
   obtain rfl:=aa.mp Ry;cases op with
   |mul=>
    obtain⟨xs,e1,h⟩:=FM h;obtain⟨hk,h⟩:=wr h;obtain⟨pa',va,ha',ea,ra⟩:=zZ S e1;rw[ha]at ha';cases ha';obtain⟨hl,q⟩:=x9 S (ra.rep k.toNat) h;rw[ua]at hl;have hlim:(av:Int)=100000:=rfl;exact .inr ⟨pa,k,va,rfl,rfl,ea,by lia,by lia,by rw[W3];exact Qu hl xh,q⟩
   |_=>exact h.elim
  |_=>exact h.elim
 |tup xs=>
  cases y with
  |tup ys=>
   cases op with
   |add=>
    obtain⟨hc,h⟩:=wr h;obtain⟨pa,va,rfl,qa,ra⟩:=ai.mp Rx;obtain⟨pb,vb,rfl,qb,rb⟩:=ai.mp Ry;have la:=ra.length;have lb:=rb.length;refine .inr (.inr ⟨pa,pb,va,vb,rfl,rfl,qa,qb,?_,?_,λe=>?_,λe p hp=>?_⟩)
    .rintro rfl;cases xs with
     |nil=>simp at hc
     |cons x xs=>simp at la
    .rw[<-la,<-lb];exact Qu hc.1 xh
    .subst e;obtain rfl:ys=[]:=by
      cases ys with
      |nil=>rfl
      |cons y ys=>simp at lb
     refine h.ok S (ai.mpr ⟨pa,va,rfl,qa,?_⟩);rw[QZ];exact ra
    .obtain ⟨T,S',R'⟩:=S.tup hp (ra.append rb);exact h _ _ _ T S' R'
   |_=>exact h.elim
  |_=>exact h.elim
 |_=>exact h.elim
end
end Mini
namespace Mini
open PySem PySem.Spec PyProof.Rows L2
open PySem.SeqAt
section
variable{X:Cx}{pins:List (Addr×Obj)}{σ:St}{s:Shared}{as:List Addr}{H:Hp}{m:Me}
def uU (I:Inv X pins σ H s)(h1:cb X.K H a xs)(h2:bj X.K H a ys):False:=by
 obtain⟨its,_,p,_⟩:=I.tuple h1;obtain⟨its',_,q,_⟩:=I.list h2;exact ne_of_list_tuple q.isList (show s.heap.IsTuple a its.toArray from p) rfl
def tG (I:Inv X pins σ H s)(h1:cb X.K H a xs)(h2:H a=some u)(h3:LD u):False:=by
 rcases h1 with (q|⟨o,q⟩)|⟨o,_,_,hk,_⟩
 .rw[h2]at q;cases q;exact h3
 .rw[h2]at q;cases q;exact h3
 .have:=(I.bs a o (I.ok.mod.kin a o hk)).2;rw[this]at h2;cases h2
def gR (I:Inv X pins σ H s)(h1:KL X.K a xs)(h2:H a=some u):False:=by
 obtain⟨o,_,_,hk,_⟩:=h1;have:=(I.bs a o (I.ok.mod.kin a o hk)).2;rw[this]at h2;cases h2
mutual
theorem v9(I:Inv X pins σ H s)(S:aQ X.K as m H):∀(w w':Wd) (v:V),aj X.K as H w v->aj X.K as H w' v->w=w'
 |.non,w',v,h,h'=>by
  obtain rfl:=aq.mp h;cases w' with
  |non=>rfl
  |bl b=>cases ah.mp h'
  |int i=>cases aa.mp h'
  |str x=>cases aB.mp h'
  |tup xs=>obtain⟨_,_,e,_⟩:=ai.mp h';cases e
  |rol xs=>obtain⟨_,_,e,_⟩:=ba.mp h';cases e
  |ref l=>obtain⟨_,_,e⟩:=aE.mp h';cases e
 |.bl c,w',v,h,h'=>by
  obtain rfl:=ah.mp h;cases w' with
  |non=>cases aq.mp h'
  |bl b=>cases ah.mp h';rfl
  |int i=>cases aa.mp h'
  |str x=>cases aB.mp h'
  |tup xs=>obtain⟨_,_,e,_⟩:=ai.mp h';cases e
  |rol xs=>obtain⟨_,_,e,_⟩:=ba.mp h';cases e
  |ref l=>obtain⟨_,_,e⟩:=aE.mp h';cases e
 |.int c,w',v,h,h'=>by
  obtain rfl:=aa.mp h;cases w' with
  |non=>cases aq.mp h'
  |bl b=>cases ah.mp h'
  |int i=>cases aa.mp h';rfl
  |str x=>cases aB.mp h'
  |tup xs=>obtain⟨_,_,e,_⟩:=ai.mp h';cases e
  |rol xs=>obtain⟨_,_,e,_⟩:=ba.mp h';cases e
  |ref l=>obtain⟨_,_,e⟩:=aE.mp h';cases e
 |.str c,w',v,h,h'=>by
  obtain rfl:=aB.mp h;cases w' with
  |non=>cases aq.mp h'
  |bl b=>cases ah.mp h'
  |int i=>cases aa.mp h'
  |str x=>
   have e:=aB.mp h';injection e with e
   injection e with e
   have:c=x:=by simpa using Nm WC e
   rw[this]
  |tup xs=>obtain⟨_,_,e,_⟩:=ai.mp h';cases e
  |rol xs=>obtain⟨_,_,e,_⟩:=ba.mp h';cases e
  |ref l=>obtain⟨_,_,e⟩:=aE.mp h';cases e
 |.tup xs,w',v,h,h'=>by
  obtain⟨a,vs,rfl,q,r⟩:=ai.mp h;cases w' with
  |non=>cases aq.mp h'
  |bl b=>cases ah.mp h'
  |int i=>cases aa.mp h'
  |str x=>cases aB.mp h'
  |tup ys=>
   obtain⟨b,us,e,q',r'⟩:=ai.mp h';cases e;obtain rfl:=I.tuple_inj q q';rw[cP I S xs ys vs r r']
  |rol ys=>
   obtain⟨b,us,e,q',r'⟩:=ba.mp h';cases e;exact(uU I q q'.sq).elim
  |ref l=>
   obtain⟨b,hb,e⟩:=aE.mp h';cases e;obtain⟨u,e2,e3⟩:=S.isLst (Qp hb);exact(tG I q e2 e3).elim
 |.rol xs,w',v,h,h'=>by
  obtain⟨a,vs,rfl,q,r⟩:=ba.mp h;cases w' with
  |non=>cases aq.mp h'
  |bl b=>cases ah.mp h'
  |int i=>cases aa.mp h'
  |str x=>cases aB.mp h'
  |tup ys=>
   obtain⟨b,us,e,q',r'⟩:=ai.mp h';cases e;exact(uU I q' q.sq).elim
  |rol ys=>
   obtain⟨b,us,e,q',r'⟩:=ba.mp h';cases e;obtain rfl:=I.list_inj q.sq q'.sq;rw[cP I S xs ys vs r r']
  |ref l=>
   obtain⟨b,hb,e⟩:=aE.mp h';cases e;obtain⟨u,e2,e3⟩:=S.isLst (Qp hb);rcases q with⟨o,q⟩|q
   .rw[e2]at q;cases q;exact e3.elim
   .exact (gR I q e2).elim
 |.ref l,w',v,h,h'=>by
  obtain⟨a,ha,rfl⟩:=aE.mp h;obtain⟨u,e2,e3⟩:=S.isLst (Qp ha);cases w' with
  |non=>cases aq.mp h'
  |bl b=>cases ah.mp h'
  |int i=>cases aa.mp h'
  |str x=>cases aB.mp h'
  |tup ys=>
   obtain⟨b,us,e,q',r'⟩:=ai.mp h';cases e;exact(tG I q' e2 e3).elim
  |rol ys=>
   obtain⟨b,us,e,q',r'⟩:=ba.mp h';cases e;rcases q' with⟨o,q'⟩|q'
   .rw[e2]at q';cases q';exact e3.elim
   .exact (gR I q' e2).elim
  |ref l'=>
   obtain⟨b,hb,e⟩:=aE.mp h';cases e;obtain⟨i1,e1⟩:=Qa.mp ha;obtain⟨i2,e2⟩:=Qa.mp hb;rw[(WI S.nd).mp (e1.trans e2.symm)]
theorem cP(I:Inv X pins σ H s)(S:aQ X.K as m H):∀(xs ys:List Wd) (vs:List V),ae X.K as H xs vs->ae X.K as H ys vs->xs=ys
 |[],ys,vs,h,h'=>by
  obtain rfl:=aw.mp h;cases ys with
  |nil=>rfl
  |cons y ys=>obtain⟨_,_,e,_⟩:=ao.mp h';cases e
 |x::xs,ys,vs,h,h'=>by
  obtain⟨v,r,rfl,q,t⟩:=ao.mp h;cases ys with
  |nil=>cases aw.mp h'
  |cons y ys=>
   obtain⟨v',r',e,q',t'⟩:=ao.mp h';cases e;rw[v9 I S x y v q q',cP I S xs ys r t t']
end
theorem qw:∀{xs ys:List Wd}{r:Bool},c6 p xs ys=some r ->
  ∃f:Nat->Bool,(∀j x y,xs[j]?=some x->ys[j]?=some y->p x y=some (f j))/\r=(QA (min xs.length ys.length)).all f
 |[],ys,r,h=>by
  unfold c6 at h;cases h;exact⟨λ_=>true,λj x y e=>by simp at e,by simp⟩
 |_::_,[],r,h=>by
  unfold c6 at h;cases h;exact⟨λ_=>true,λj x y _ e=>by simp at e,by simp⟩
 |x::xs,y::ys,r,h=>by
  unfold c6 at h;cases hp:p x y with
  |none=>rw[hp]at h;cases h
  |some b=>
   rw[hp]at h;simp only[]at h;cases hr:c6 p xs ys with
   |none=>rw[hr]at h;cases h
   |some r'=>
    rw[hr]at h;cases h;obtain⟨f,hf,e⟩:=qw (xs:=xs) (ys:=ys) hr;refine⟨λj=>match j with|0=>b|j+1=>f j,λj x' y' e1 e2=>?_,?_⟩
    .cases j with
     |zero=>simp at e1 e2;subst e1;subst e2;exact hp
     |succ j=>exact hf j x' y' (by simpa using e1) (by simpa using e2)
    .rw[Wp,Wp,Nat.succ_min_succ,Wr,Wo,WP,e];rfl
theorem uT:∀(k:Nat) (w:Wd) (r:Bool),cB m k w w=some r->r=true
 |0,w,r,h=>by cases h
 |k+1,w,r,h=>by
  cases w with
  |non=>cases h;rfl
  |bl b=>cases h;simp
  |int i=>cases h;simp
  |str x=>cases h;simp
  |tup xs=>
   replace h:(c6 (cB m k) xs xs).map (· && decide (xs.length=xs.length))=some r:=h
   cases hr:c6 (cB m k) xs xs with
   |none=>rw[hr]at h;cases h
   |some r'=>
    rw[hr]at h;simp only[QJ,decide_true,Bool.and_true]at h;cases h;obtain⟨f,hf,rfl⟩:=qw hr;rw[Q6];intro j hj;have hj':j<xs.length:=by simpa using hj
    exact uT k xs[j] (f j) (hf j xs[j] xs[j] (by simp[hj']) (by simp[hj']))
  |rol xs=>cases h
  |ref l=>
   replace h:(if l=l then(if aT m l then some true else none)else match m[l]?,m[l]? with
    |some (.lst xs),some (.lst ys)=>if xs.length=ys.length then c6 (cB m k) xs ys else some false
    |_,_=>none)=some r:=h
   simp only[if_true]at h;split at h
   .cases h;rfl
   .cases h
structure Ke(A:LQ)(s:Shared)(u u':Value)(r:Bool):Prop where
 it:EqAt A s u u' r
 eq:RcAt A s u u' r
 ne:RcNeAt A s u u' (! r)
def aX (S:aQ X.K as m H)(I:Inv X pins σ H s)(h:aT m l=true)(R:aj X.K as H (.ref l) v)(ru:RelV v u):∃b its,u=.ref b/\s.heap.IsList b its:=by
 unfold aT at h;cases e:m[l]? with
 |none=>rw[e]at h;cases h
 |some o=>
  cases o with
  |dct ks us=>rw[e]at h;cases h
  |lst xs=>
   obtain⟨b,hb,rfl⟩:=aE.mp R;obtain⟨a,vs,ha,ea,ra⟩:=zZ S e;rw[hb]at ha;cases ha;obtain rfl:u=.ref b:=ru;obtain⟨its,_,p,_⟩:=I.list (bj.of ea);exact⟨b,_,rfl,p.isList⟩
def vS (I:Inv X pins σ H s)(R:aj X.K as H (.tup xs) v)(ru:RelV v u):∃b vs its,v=.ref b/\u=.ref b/\ae X.K as H xs vs/\ay vs its/\s.heap.IsTuple b its.toArray:=by
 obtain⟨b,vs,rfl,q,r⟩:=ai.mp R;obtain rfl:u=.ref b:=ru;obtain⟨its,rv,p,_⟩:=I.tuple q;exact⟨b,vs,its,rfl,rfl,r,rv,p⟩
theorem lr(I:Inv X pins σ H s)(S:aQ X.K as m H):∀(k:Nat) (A:LQ) (w w':Wd) (v v':V) (u u':Value) (r:Bool),A.units+k<Ms->cB m k w w'=some r ->
  aj X.K as H w v->aj X.K as H w' v'->RelV v u->RelV v' u'->Ke A s u u' r
 |0,_,_,_,_,_,_,_,_,_,h,_,_,_,_=>by cases h
 |k+1,A,w,w',v,v',u,u',r,hu,h,R,R',ru,ru'=>by
  have hu0:A.units<Ms:=by lia
  have hu1:A.in1.units+k<Ms:=by show A.units+1+k<Ms;lia
  -- items,pair by pair
  have pairs:∀{xs ys:List Wd}{vs us:List V}{its its':List Value}{r:Bool},ae X.K as H xs vs->ae X.K as H ys us->ay vs its->ay us its'->c6 (cB m k) xs ys=some r ->
    ∃f:Nat->Bool,(∀j (h1:j<its.toArray.size) (h2:j<its'.toArray.size),EqAt A.in1 s its.toArray[j] its'.toArray[j] (f j))/\r=(QA (min its.toArray.size its'.toArray.size)).all f/\its.toArray.size=xs.length/\its'.toArray.size=ys.length:=by
   intro xs ys vs us its its' r r1 r2 rv rv' he;obtain⟨f,hf,e⟩:=qw he;have l1:=r1.length;have l2:=r2.length;have l3:=rv.length;have l4:=rv'.length;have s1:its.toArray.size=xs.length:=by simp;lia
   have s2:its'.toArray.size=ys.length:=by simp;lia
   refine⟨f,λj h1 h2=>?_,by rw[e,s1,s2],s1,s2⟩;have hj:j<xs.length:=by lia
   have hj2:j<ys.length:=by lia
   obtain⟨v1,e1,q1⟩:=r1.get (i:=j) (x:=xs[j]) (by simp[hj]);obtain⟨v2,e2,q2⟩:=r2.get (i:=j) (x:=ys[j]) (by simp[hj2]);obtain⟨u1,e3,q3⟩:=rv.get e1;obtain⟨u2,e4,q4⟩:=rv'.get e2;have z:=lr I S k A.in1 xs[j] ys[j] v1 v2 u1 u2 (f j) hu1 (hf j _ _ (by simp[hj]) (by simp[hj2])) q1 q2 q3 q4;obtain⟨_,e5⟩:=Qa.mp e3;obtain⟨_,e6⟩:=Qa.mp e4;have g1:its.toArray[j]=u1:=by simpa using e5
   have g2:its'.toArray[j]=u2:=by simpa using e6
   rw[g1,g2];exact z.it
  cases w with
  |tup xs=>
   obtain⟨b,vs,its,rfl,rfl,r1,rv,p⟩:=vS I R ru;cases w' with
   |tup ys=>
    obtain⟨b',vs',its',rfl,rfl,r1',rv',p'⟩:=vS I R' ru';have rc:RcAt A s (.ref b) (.ref b') r/\RcNeAt A s (.ref b) (.ref b') (! r):=by
     replace h:(c6 (cB m k) xs ys).map (· && decide (xs.length=ys.length))=some r:=h
     cases hr:c6 (cB m k) xs ys with
     |none=>rw[hr]at h;cases h
     |some r'=>
      rw[hr]at h;simp only[QJ]at h;cases h;obtain⟨f,hf,e,z1,z2⟩:=pairs r1 r1' rv rv' hr;have e2:((QA (min its.toArray.size its'.toArray.size)).all f&&its.toArray.size==its'.toArray.size)=(r'&&decide (xs.length=ys.length)):=by
       rw[e,z1,z2];congr 1
      exact⟨e2▸RcAt.tuples p p' hu0 hf,e2▸RcNeAt.tuples p p' hu0 hf⟩
    refine⟨?_,rc.1,rc.2⟩;by_cases hb:b=b'
    .subst hb;have e:=v9 I S _ _ _ R R';rw[<-e]at h;obtain rfl:=uT _ _ _ h;exact EqAt.same _
    .exact EqAt.of_refs hb rc.1
   |ref l=>
    replace h:(if aT m l&&true then some false else none)=some r:=h
    split at h
    .rename_i hl;cases h;obtain⟨b',its',rfl,q⟩:=aX S I (QD.mp hl).1 R' ru';exact⟨EqAt.tuple_list p q hu0,RcAt.tuple_list p q hu0,RcNeAt.tuple_list p q hu0⟩
    .cases h
   |rol ys=>cases h
   |non=>
    cases h;obtain rfl:=aq.mp R';obtain rfl:u'=.none:=ru';exact⟨EqAt.tuple_none p hu0,RcAt.tuple_none p hu0,RcNeAt.tuple_none p hu0⟩
   |bl c=>
    cases h;obtain rfl:=ah.mp R';obtain rfl:u'=.bool c:=ru';exact⟨EqAt.tuple_bool c p hu0,RcAt.tuple_bool c p hu0,RcNeAt.tuple_bool c p hu0⟩
   |int i=>
    cases h;obtain rfl:=aa.mp R';obtain⟨t,rfl⟩:=ru';exact⟨EqAt.tuple_int i t p hu0,RcAt.tuple_int i t p hu0,RcNeAt.tuple_int i t p hu0⟩
   |str x=>
    cases h;obtain rfl:=aB.mp R';obtain⟨t,rfl⟩:=ru';exact⟨EqAt.tuple_str _ t p hu0,RcAt.tuple_str _ t p hu0,RcNeAt.tuple_str _ t p hu0⟩
  |ref l=>
   cases w' with
   |ref l'=>
    obtain⟨b,hb,rfl⟩:=aE.mp R;obtain⟨b',hb',rfl⟩:=aE.mp R';obtain rfl:u=.ref b:=ru;obtain rfl:u'=.ref b':=ru'
    replace h:(if l=l' then(if aT m l then some true else none)else match m[l]?,m[l']? with
     |some (.lst xs),some (.lst ys)=>if xs.length=ys.length then c6 (cB m k) xs ys else some false
     |_,_=>none)=some r:=h
    by_cases hll:l=l'
    .subst hll;rw[hb]at hb';cases hb';rw[Nj rfl]at h;split at h
     .rename_i hil;cases h;obtain⟨c,its,ec,q⟩:=aX S I hil R (u:=.ref b) rfl;cases ec;have al:(QA its.size).all (λ_=>true)=true:=by simp
      have e1:=RcAt.lists (A:=A) (e:=λ_=>true) q q rfl hu0 (λj h1 h2=>EqAt.same _);have e2:=RcNeAt.lists (A:=A) (e:=λ_=>true) q q rfl hu0 (λj h1 h2=>EqAt.same _);rw[al]at e1 e2;exact⟨EqAt.same _,e1,e2⟩
     .cases h
    .rw[Nk hll]at h;have hbb:b≠b':=by
      rintro rfl;obtain⟨i1,e1⟩:=Qa.mp hb;obtain⟨i2,e2⟩:=Qa.mp hb';exact hll ((WI S.nd).mp (e1.trans e2.symm))
     split at h
     .rename_i xs ys m1 m2;obtain⟨a1,vs,h1,g1,r1⟩:=zZ S m1;rw[hb]at h1;cases h1;obtain⟨a2,us,h2,g2,r2⟩:=zZ S m2;rw[hb']at h2;cases h2;obtain⟨its,rv,p,_⟩:=I.list (bj.of g1);obtain⟨its',rv',p',_⟩:=I.list (bj.of g2);split at h
      .rename_i hl;obtain⟨f,hf,e,z1,z2⟩:=pairs r1 r2 rv rv' h;have hsz:its.toArray.size=its'.toArray.size:=by rw[z1,z2,hl]
       rw[<-hsz,Nat.min_self]at e;have e1:=RcAt.lists p.isList p'.isList hsz hu0 hf;have e2:=RcNeAt.lists p.isList p'.isList hsz hu0 hf;rw[<-e]at e1 e2;exact⟨EqAt.of_refs hbb e1,e1,e2⟩
      .rename_i hl;cases h;have l1:=r1.length;have l2:=r2.length;have l3:=rv.length;have l4:=rv'.length;have hsz:(its.toArray.size != its'.toArray.size)=true:=by
        simp;lia
       have e1:=RcAt.lists_lengths (A:=A) p.isList p'.isList hsz hu0;exact⟨EqAt.of_refs hbb e1,e1,RcNeAt.lists_lengths p.isList p'.isList hsz hu0⟩
     .cases h
   |tup ys=>
    replace h:(if aT m l&&true then some false else none)=some r:=h
    split at h
    .rename_i hl;cases h;obtain⟨b,its,rfl,q⟩:=aX S I (QD.mp hl).1 R ru;obtain⟨b',vs',its',rfl,rfl,r1',rv',p'⟩:=vS I R' ru';exact⟨EqAt.list_tuple q p' hu0,RcAt.list_tuple q p' hu0,RcNeAt.list_tuple q p' hu0⟩
    .cases h
   |rol ys=>
    replace h:(if aT m l&&false then some false else none)=some r:=h
    simp only[Bool.and_false,Qy,if_false]at h;cases h
   |non=>
    replace h:(if aT m l&&true then some false else none)=some r:=h
    split at h
    .rename_i hl;cases h;obtain⟨b,its,rfl,q⟩:=aX S I (QD.mp hl).1 R ru;obtain rfl:=aq.mp R';obtain rfl:u'=.none:=ru';exact⟨EqAt.list_none q hu0,RcAt.list_none q hu0,RcNeAt.list_none q hu0⟩
    .cases h
   |bl c=>
    replace h:(if aT m l&&true then some false else none)=some r:=h
    split at h
    .rename_i hl;cases h;obtain⟨b,its,rfl,q⟩:=aX S I (QD.mp hl).1 R ru;obtain rfl:=ah.mp R';obtain rfl:u'=.bool c:=ru';exact⟨EqAt.list_bool c q hu0,RcAt.list_bool c q hu0,RcNeAt.list_bool c q hu0⟩
    .cases h
   |int i=>
    replace h:(if aT m l&&true then some false else none)=some r:=h
    split at h
    .rename_i hl;cases h;obtain⟨b,its,rfl,q⟩:=aX S I (QD.mp hl).1 R ru;obtain rfl:=aa.mp R';obtain⟨t,rfl⟩:=ru';exact⟨EqAt.list_int i t q hu0,RcAt.list_int i t q hu0,RcNeAt.list_int i t q hu0⟩
    .cases h
   |str x=>
    replace h:(if aT m l&&true then some false else none)=some r:=h
    split at h
    .rename_i hl;cases h;obtain⟨b,its,rfl,q⟩:=aX S I (QD.mp hl).1 R ru;obtain rfl:=aB.mp R';obtain⟨t,rfl⟩:=ru';exact⟨EqAt.list_str _ t q hu0,RcAt.list_str _ t q hu0,RcNeAt.list_str _ t q hu0⟩
    .cases h
  |rol xs=>
   cases w'<;>first|cases h|(replace h:(if aT m _&&false then some false else none)=some r:=h;simp at h)
  |non=>
   obtain rfl:=aq.mp R;obtain rfl:u=.none:=ru;cases w' with
   |rol ys=>cases h
   |ref l=>
    replace h:(if aT m l&&true then some false else none)=some r:=h
    split at h
    .rename_i hl;cases h;obtain⟨b,its,rfl,q⟩:=aX S I (QD.mp hl).1 R' ru';exact⟨EqAt.none_list q hu0,RcAt.none_list q hu0,RcNeAt.none_list q hu0⟩
    .cases h
   |tup ys=>
    cases h;obtain⟨b',vs',its',rfl,rfl,r1',rv',p'⟩:=vS I R' ru';exact⟨EqAt.none_tuple p' hu0,RcAt.none_tuple p' hu0,RcNeAt.none_tuple p' hu0⟩
   |non=>
    cases h;obtain rfl:=aq.mp R';obtain rfl:u'=.none:=ru';exact⟨EqAt.same _,RcAt.none_none,RcNeAt.none_none⟩
   |bl c=>
    cases h;obtain rfl:=ah.mp R';obtain rfl:u'=.bool c:=ru';exact⟨EqAt.none_bool c,RcAt.none_bool c,RcNeAt.none_bool c⟩
   |int i=>
    cases h;obtain rfl:=aa.mp R';obtain⟨t,rfl⟩:=ru';exact⟨EqAt.none_int i t,RcAt.none_int i t,RcNeAt.none_int i t⟩
   |str x=>
    cases h;obtain rfl:=aB.mp R';obtain⟨t,rfl⟩:=ru';exact⟨EqAt.none_str _ t,RcAt.none_str _ t,RcNeAt.none_str _ t⟩
  |bl c=>
   obtain rfl:=ah.mp R;obtain rfl:u=.bool c:=ru;cases w' with
   |rol ys=>cases h
   |ref l=>
    replace h:(if aT m l&&true then some false else none)=some r:=h
    split at h
    .rename_i hl;cases h;obtain⟨b,its,rfl,q⟩:=aX S I (QD.mp hl).1 R' ru';exact⟨EqAt.bool_list c q hu0,RcAt.bool_list c q hu0,RcNeAt.bool_list c q hu0⟩
    .cases h
   |tup ys=>
    cases h;obtain⟨b',vs',its',rfl,rfl,r1',rv',p'⟩:=vS I R' ru';exact⟨EqAt.bool_tuple c p' hu0,RcAt.bool_tuple c p' hu0,RcNeAt.bool_tuple c p' hu0⟩
   |non=>
    cases h;obtain rfl:=aq.mp R';obtain rfl:u'=.none:=ru';exact⟨EqAt.bool_none c,RcAt.bool_none c,RcNeAt.bool_none c⟩
   |bl d=>
    cases h;obtain rfl:=ah.mp R';obtain rfl:u'=.bool d:=ru';exact⟨EqAt.bool_bool c d,RcAt.bool_bool c d,RcNeAt.bool_bool c d⟩
   |int i=>
    cases h;obtain rfl:=aa.mp R';obtain⟨t,rfl⟩:=ru';have e:decide (b2i c=i)=((if c then(1:Int)else 0)==i):=by
     show decide ((if c then(1:Int)else 0)=i)=_;rw[Va]
    rw[e];exact⟨EqAt.bool_int c i t,RcAt.bool_int c i t,RcNeAt.bool_int c i t⟩
   |str x=>
    cases h;obtain rfl:=aB.mp R';obtain⟨t,rfl⟩:=ru';exact⟨EqAt.bool_str c _ t,RcAt.bool_str c _ t,RcNeAt.bool_str c _ t⟩
  |int i=>
   obtain rfl:=aa.mp R;obtain⟨t,rfl⟩:=ru;cases w' with
   |rol ys=>cases h
   |ref l=>
    replace h:(if aT m l&&true then some false else none)=some r:=h
    split at h
    .rename_i hl;cases h;obtain⟨b,its,rfl,q⟩:=aX S I (QD.mp hl).1 R' ru';exact⟨EqAt.int_list i t q hu0,RcAt.int_list i t q hu0,RcNeAt.int_list i t q hu0⟩
    .cases h
   |tup ys=>
    cases h;obtain⟨b',vs',its',rfl,rfl,r1',rv',p'⟩:=vS I R' ru';exact⟨EqAt.int_tuple i t p' hu0,RcAt.int_tuple i t p' hu0,RcNeAt.int_tuple i t p' hu0⟩
   |non=>
    cases h;obtain rfl:=aq.mp R';obtain rfl:u'=.none:=ru';exact⟨EqAt.int_none i t,RcAt.int_none i t,RcNeAt.int_none i t⟩
   |bl d=>
    cases h;obtain rfl:=ah.mp R';obtain rfl:u'=.bool d:=ru';have e:decide (i=b2i d)=(i==(if d then(1:Int)else 0)):=by
     show decide (i=(if d then(1:Int)else 0))=_;rw[Va]
    rw[e];exact⟨EqAt.int_bool i t d,RcAt.int_bool i t d,RcNeAt.int_bool i t d⟩
   |int j=>
    cases h;obtain rfl:=aa.mp R';obtain⟨t',rfl⟩:=ru';have e:decide (i=j)=(i==j):=by rw[Va]
    rw[e];exact⟨EqAt.int_int i t j t',RcAt.int_int i t j t',RcNeAt.int_int i t j t'⟩
   |str x=>
    cases h;obtain rfl:=aB.mp R';obtain⟨t',rfl⟩:=ru';exact⟨EqAt.int_str i t _ t',RcAt.int_str i t _ t',RcNeAt.int_str i t _ t'⟩
  |str x=>
   obtain rfl:=aB.mp R;obtain⟨t,rfl⟩:=ru;cases w' with
   |rol ys=>cases h
   |ref l=>
    replace h:(if aT m l&&true then some false else none)=some r:=h
    split at h
    .rename_i hl;cases h;obtain⟨b,its,rfl,q⟩:=aX S I (QD.mp hl).1 R' ru';exact⟨EqAt.str_list _ t q hu0,RcAt.str_list _ t q hu0,RcNeAt.str_list _ t q hu0⟩
    .cases h
   |tup ys=>
    cases h;obtain⟨b',vs',its',rfl,rfl,r1',rv',p'⟩:=vS I R' ru';exact⟨EqAt.str_tuple _ t p' hu0,RcAt.str_tuple _ t p' hu0,RcNeAt.str_tuple _ t p' hu0⟩
   |non=>
    cases h;obtain rfl:=aq.mp R';obtain rfl:u'=.none:=ru';exact⟨EqAt.str_none _ t,RcAt.str_none _ t,RcNeAt.str_none _ t⟩
   |bl d=>
    cases h;obtain rfl:=ah.mp R';obtain rfl:u'=.bool d:=ru';exact⟨EqAt.str_bool _ t d,RcAt.str_bool _ t d,RcNeAt.str_bool _ t d⟩
   |int j=>
    cases h;obtain rfl:=aa.mp R';obtain⟨t',rfl⟩:=ru';exact⟨EqAt.str_int _ t j t',RcAt.str_int _ t j t',RcNeAt.str_int _ t j t'⟩
   |str y=>
    cases h;obtain rfl:=aB.mp R';obtain⟨t',rfl⟩:=ru';have e:decide (x=y)=((⟨x.toArray⟩:Str) == ⟨y.toArray⟩):=by
     by_cases hxy:x=y
     .subst hxy;simp
     .have:¬(⟨x.toArray⟩:Str)=⟨y.toArray⟩:=λz=>by
       injection z with z
       exact hxy (by simpa using Nm WC z)
      rw[Ni hxy];exact(beq_eq_false_iff_ne.mpr this).symm
    rw[e];exact⟨EqAt.str_str _ t _ t',RcAt.str_str _ t _ t',RcNeAt.str_str _ t _ t'⟩
end
end Mini
namespace L2
open PySem PySem.Spec PyProof.Rows PySem.SeqAt
section
variable{prog:LF}{w:LG}{A:LQ}{E:Value->Shared->Prop}{s:Shared}
def Jm {stored:List Value}(hst:∀v∈stored,∃k' b,v=.ref b/\MY (LN prog w) s.heap k' b)(h:Q false s):LV (LW prog w) A (tableMayTell (.int i t) stored) Q E s:=by
 unfold tableMayTell;split
 .exact Mi h
 .rw[eqIsQuiet_byValue 8 (show carriedByValue (.int i t)=true from rfl)];refine Mc (Mi ?_);simp only[Q4,Qy,if_false];refine Mc ?_;refine M0 _ (λrest r s'=>s'=s/\r=(none,())/\∀v∈rest,∃k' b,v=.ref b/\MY (LN prog w) s.heap k' b) _ ?_ ?_ _ _ ⟨rfl,rfl,hst⟩
  .rintro v rest r s' ⟨rfl,rfl,hr⟩;obtain⟨k',b,rfl,hk⟩:=hr v QF;refine Mc (wpAny_eqIsQuiet_tuple hk ?_);simp only[Q4,Qy,if_false];exact Mi ⟨rfl,rfl,λv hv=>hr v (Qh _ hv)⟩
  .rintro r s' ⟨rfl,rfl,_⟩;exact Mi h
def Hq {xs:List TK}(hu:A.units<Ms)(ho:s.heap.get? d=some o)(hd:o.data=.dict es ep)(he:es.toList=xs.map ls)(his:∀x∈xs,MY (LN prog w) s.heap x.1 x.2.1)(h:Q none s):
  LV (LW prog w) A (dictFind d (.int i t) (hashInt i)) Q E s:=by
 have hmem:∀e∈es,∃x∈xs,e=ls x:=by
  intro e hin;have:e∈xs.map ls:=he▸Vb.mpr hin;obtain⟨x,hx,rfl⟩:=Wi.mp this;exact⟨x,hx,rfl⟩
 have hst:∀v∈(placesWithHash es.size (λi=>es[i]?.map (·.hash)) (hashInt i)).filterMap (λi=>es[i]?.map (·.key)),∃k' b,v=.ref b/\MY (LN prog w) s.heap k' b:=by
  intro v hv;obtain⟨j,_,hi⟩:=WT.mp hv;cases hei:es[j]? with
  |none=>rw[hei]at hi;cases hi
  |some e=>
   rw[hei]at hi;obtain rfl:e.key=v:=by simpa using hi
   obtain⟨x,hx,rfl⟩:=hmem e (W7 hei);exact⟨x.1,x.2.1,rfl,his x hx⟩
 have hne:∀(e:LC),e∈es->∀(Q:Bool->Shared->Prop),Q false s->LV (LW prog w) A (eqBool e.key (.int i t)) Q E s:=by
  intro e hin Q q;obtain⟨x,hx,rfl⟩:=hmem e hin;obtain⟨ob,items,n,h1,h2,h3,_⟩:=his x hx;exact EqAt.tuple_int i t (show s.heap.IsTuple x.2.1 items from⟨ob,h1,h2,n,h3⟩) hu prog w E Q q
 unfold dictFind
 try with_reducible refine Md ?_
 refine Mc (wpAny_dictEntries ho hd ?_);dsimp only;by_cases hall:((Value.int i t::(placesWithHash es.size (λi=>es[i]?.map (·.hash)) (hashInt i)).filterMap (λi=>es[i]?.map (·.key))).all carriedByValue)=true
 .rw[Nj hall];unfold dictWalkPlain;refine Mc ?_;refine M0 _ (λ_ b s'=>s'=s/\b=(none,())) _ ?_ ?_ _ _ ⟨rfl,rfl⟩
  .rintro x rest b s' ⟨rfl,rfl⟩;cases hex:es[x]? with
   |none=>exact Mi ⟨rfl,rfl⟩
   |some e=>
    dsimp only;by_cases hh:(e.hash==hashInt i)=true
    .rw[Nj hh];refine Mc (M1 ho hd (Mc (hne e (W7 hex) _ (Mc (M1 ho hd ?_)))));show LV _ _ (if(ep != ep)=true then _ else _) _ E _;rw[Nk (by simp)];simp only[Qy,if_false];refine Mc (wpAny_rule ?_);exact Mi ⟨rfl,rfl⟩
    .rw[Nk hh];exact Mi ⟨rfl,rfl⟩
  .rintro b s' ⟨rfl,rfl⟩;exact Mi h
 .rw[Nk hall];have hone:¬(((placesWithHash es.size (λi=>es[i]?.map (·.hash)) (hashInt i)).filterMap (λi=>es[i]?.map (·.key))) == [Value.int i t])=true:=by
   intro z;have z:=eq_of_beq z;obtain⟨_,b,e,_⟩:=hst (.int i t) (by rw[z];simp);cases e
  rw[Nk hone];refine Mc (Jm hst ?_);rw[Nk (by simp)];refine Mc ?_;refine M0 _ (λ_ b s'=>s'=s/\b=(none,none)) _ ?_ ?_ _ _ ⟨rfl,rfl⟩
  .rintro x rest b s' ⟨rfl,rfl⟩;cases hex:es[x]? with
   |none=>exact Mi ⟨rfl,rfl⟩
   |some e=>
    dsimp only;by_cases hh:(e.hash==hashInt i)=true
    .rw[Nj hh];refine Mc (M1 ho hd (Mc (hne e (W7 hex) _ (Mc (M1 ho hd ?_)))));show LV _ _ (if(ep != ep)=true then _ else _) _ E _;rw[Nk (by simp)];simp only[Qy,if_false];refine Mc (wpAny_rule ?_)
     first
      |exact Mi ⟨rfl,rfl⟩
      |(rw[Nk (by simp)];exact Mi ⟨rfl,rfl⟩)
      |exact Mc (Mi (Mi ⟨rfl,rfl⟩))
    .rw[Nk hh];exact Mi ⟨rfl,rfl⟩
  .rintro b s' ⟨rfl,rfl⟩;exact Mi h
def CU (hu:A.units+1<Ms)(hd:(d==LL)=false)(hm:s.heap.DictOfH (LM (LN prog w)) d xs)(h:Q (.bool false) {s with toks:=s.toks+1}):
  LV (LW prog w) A (Mo .In (.int i t) (.ref d)) Q E s:=by
 show LV _ _ (do return .bool (<-contains (.ref d) (.int i t))) Q E s;refine Mc ?_;unfold contains
 try with_reducible refine Md ?_
 refine Mc (MX hm.typeIs slot_dict_contains.lookup ?_);show LV _ _ (if(some (Value.builtin "dict.__contains__")==some Value.none)=true then _ else _) _ E s;rw[Nk (by rw[beq_builtin_none];exact QQ)];refine Mc (wpAny_callSpecialUnlessNone?_slot (name:=Str.ofString "__contains__") hm.typeIs slot_dict_contains
  (wpAny_call_entry slot_dict_contains hm.typeIs entry_dict_contains ?_ (args_dict_contains _ _)))
 obtain⟨o,es,ep,ho,_,hdd,he,his,hn⟩:=id hm;show LV _ _ (dictGet d (.int i t) >>= _) _ _ s;refine Mc ?_;unfold dictGet
 try with_reducible refine Md ?_
 refine Mc (wpAny_pyHash_int (Mc (Hq (s:={s with toks:=s.toks+1}) (xs:=xs) (by show A.units+1<Ms;lia) ho hdd he his ?_)));refine Mi ?_;show LV _ _ (Builtin.Dict.pendingKey? d (.int i t) >>= _) _ _ _;exact Mc (wpAny_pendingKey_other hd (Mi ⟨_,rfl,L5 (Mi h)⟩))
end
section
variable{X:Cx}{pins:List (Addr×Obj)}{σ:St}{H:Hp}{s:Shared}
def rA(K:Qb):R2:=λx y H Q=>∃d xs,y=.ref d/\jF K H d xs/\((∃i,x=.int i/\Q (.bl false) H)\/∃a ks,x=.ref a/\cb K H a (ks.map V.int)/\Q (.bl (MZ xs ks).isSome) H)
def CT(hu:X.A.units+64<Ms):cr X (Mo .In) (rA X.K):=by
 intro pins s σ H x y v u Q I rx ry h;obtain⟨d,xs,rfl,hd,h⟩:=h;cases ry;obtain⟨d0,dm⟩:=wY I hd;rcases h with⟨i,rfl,q⟩|⟨a,ks,rfl,hk,q⟩
 .obtain ⟨t,rfl⟩:=rx;exact CU (by lia) d0 dm ⟨.bl false,H,I.tok _,rfl,q⟩
 .cases rx;exact wpAny_in_heap (knd:=LM (LN X.prog X.w)) (by show X.A.units+1<Ms;lia) (jt I hk) d0 dm ⟨.bl (MZ xs ks).isSome,H,I.tok _,rfl,q⟩
end
end L2
namespace Mini
open PySem PySem.Spec PyProof.Rows L2
section
variable{K:Qb}{as:List Addr}{H:Hp}{m:Me}{Q:VK}
theorem kO:∀{ws:List Wd}{k:List Int}{vs:List V},x8 ws=some k->ae K as H ws vs->vs=k.map V.int
 |[],k,vs,h,r=>by cases h;rw[aw.mp r];rfl
 |w::ws,k,vs,h,r=>by
  cases w with
  |int i=>
   have h':(x8 ws).map (i::·)=some k:=h;obtain⟨k',e,rfl⟩:=QE.mp h';obtain⟨v,r',rfl,q,t⟩:=ao.mp r;rw[aa.mp q,kO e t];rfl
  |_=>cases h
def nk {l:Nat}(S:aQ K as m H)(hm:m[l]?=some (.dct ks ws)):∃a xs vs,as[l]?=some a/\jF K H a xs/\xs.map (·.1)=ks/\ae K as H ws vs/\ay vs (xs.map (·.2.2))/\ks.Nodup:=by
 obtain⟨a,ha,xs,vs,r⟩:=S.get hm;exact⟨a,xs,vs,ha,r⟩
def bU {q:List Int}:(MZ xs q).isSome=true↔q∈xs.map (·.1):=by
 unfold MZ;rw[Option.isSome_map,List.find?_isSome];simp only[Wi,Np]
def CS (S:aQ K as m H)(R:aj K as H x v)(R':aj K as H y u)(h:lQ m x y=some b)(q:Q (.bl b) H):rA K v u H Q:=by
 unfold lQ at h;cases y with
 |ref l=>
  obtain⟨a,ha,rfl⟩:=aE.mp R';dsimp only at h;cases e:m[l]? with
  |none=>rw[e]at h;cases h
  |some o=>
   cases o with
   |lst ys=>rw[e]at h;cases h
   |dct ks ws=>
    rw[e]at h;dsimp only at h;obtain⟨a',xs,vs,ha',td,rfl,_⟩:=nk S e;rw[ha]at ha';cases ha';refine⟨a,xs,rfl,td,?_⟩;cases x with
    |int i=>cases h;exact .inl ⟨i,aa.mp R,q⟩
    |tup us=>
     obtain⟨k,hk,rfl⟩:=QE.mp h;obtain⟨c,vs,rfl,sq,r⟩:=ai.mp R;rw[kO hk r]at sq;refine .inr ⟨c,k,rfl,sq,?_⟩;rw[show(MZ xs k).isSome=decide (k∈xs.map (·.1))from by
      rw[W6,bU,Np]]
     exact q
    |_=>cases h
 |_=>cases h
end
end Mini
namespace Mini
open PySem PySem.Spec PyProof.Rows L2
open PySem.SeqAt
def cK:Co->Mp
 |.eq=>.Eq |.ne=>.NotEq |.lt=>.Lt |.le=>.LtE |.isN=>.Is |.notN=>.IsNot |.isin=>.In 
def rC(K:Qb)(op:Co):R2:=λx y H Q=>∃as m w w',aQ K as m H/\aj K as H w x/\aj K as H w' y/\am K as H Q (cZ op w w' m)
section
variable{X:Cx}
def jJ {K:Qb}(S:aQ K as m H)(h:am K as H Q (dq o m)):∃b,o=some b/\Q (.bl b) H:=by
 cases o with
 |none=>exact h.elim
 |some b=>exact⟨b,rfl,h.ok S (ah.mpr rfl)⟩
theorem t8:∀{ys:List Wd}{r:Bool},eO p x ys=some r ->
  ∃f:Wd->Bool,(∀y∈ys,p y x=some (f y))/\r=ys.any f
 |[],r,h=>by cases h;exact⟨λ_=>false,λy hy=>by simp at hy,rfl⟩
 |y::ys,r,h=>by
  unfold eO at h;cases hp:p y x with
  |none=>rw[hp]at h;cases h
  |some b=>
   rw[hp]at h;simp only[]at h;cases hr:eO p x ys with
   |none=>rw[hr]at h;cases h
   |some r'=>
    rw[hr]at h;cases h;obtain⟨f,hf,rfl⟩:=t8 hr
    classical
    refine⟨λz=>(p z x).getD false,λz hz=>?_,?_⟩
    .rcases Qo.mp hz with rfl|hz
     .simp only[hp,Vk]
     .simp only[hf z hz,Vk]
    .rw[WZ,hp];congr 1;refine W6.mpr ?_;rw[Wu,Wu];constructor
     .rintro ⟨z,hz,e⟩;exact⟨z,hz,by rw[hf z hz];exact e⟩
     .rintro ⟨z,hz,e⟩;rw[hf z hz]at e;exact⟨z,hz,e⟩
def uS (I:Inv X pins σ H s)(S:aQ X.K as m H)(hu:A.units+yW<Ms)(R:aj X.K as H w v)(ru:RelV v u)(ry:ae X.K as H ys vs)(rv:ay vs its)(h:eO (cB m yW) w ys=some r):
  ∃e:Value->Bool,(∀y,y∈its.toArray->EqAt A s y u (e y))/\its.toArray.any e=r:=by
 obtain⟨f,hf,rfl⟩:=t8 h
 classical
 -- the plain value of an item
 have pick:∀y,y∈its->∃z,z∈ys/\∃vz,aj X.K as H z vz/\RelV vz y:=λy hy=>by
  obtain⟨j,hj,rfl⟩:=Vd.mp hy;have l1:=ry.length;have l2:=rv.length;have hj1:j<vs.length:=by lia
  obtain⟨u1,e1,q1⟩:=rv.get (i:=j) (x:=vs[j]) (by simp[hj1]);obtain⟨z,e2,q2⟩:=ry.back (i:=j) (v:=vs[j]) (by simp[hj1]);obtain⟨_,e3⟩:=Qa.mp e1;exact⟨z,Qp e2,vs[j],q2,by rw[e3];exact q1⟩
 let e:Value->Bool:=λy=>if hy:y∈its then f (Classical.choose (pick y hy))else false
 have he:∀y (hy:y∈its) z vz,z∈ys->aj X.K as H z vz->RelV vz y->e y=f z:=λy hy z vz hz hr hq=>by
  obtain⟨h1,vz',h2,h3⟩:=Classical.choose_spec (pick y hy);have:e y=f (Classical.choose (pick y hy)):=dif_pos hy;rw[this];have hv:vz'=vz:=h3.inj hq;subst hv;rw[v9 I S _ _ _ h2 hr]
 refine⟨e,λy hy=>?_,?_⟩
 .have hy':y∈its:=by simpa using hy
  obtain⟨z,hz,vz,q1,q2⟩:=pick y hy';rw[he y hy' z vz hz q1 q2];exact(lr I S yW A z w vz v y u (f z) hu (hf z hz) q1 R q2 ru).it
 .refine W6.mpr ?_;rw[List.any_toArray,Wu,Wu];constructor
  .rintro ⟨y,hy,ey⟩;obtain⟨z,hz,vz,q1,q2⟩:=pick y hy;rw[he y hy z vz hz q1 q2]at ey;exact⟨z,hz,ey⟩
  .rintro ⟨z,hz,ez⟩;obtain⟨j,hj,rfl⟩:=Vd.mp hz;obtain⟨v1,e1,q1⟩:=ry.get (i:=j) (x:=ys[j]) (by simp[hj]);obtain⟨u1,e2,q2⟩:=rv.get e1;have hy:u1∈its:=Qp e2;exact⟨u1,hy,by rw[he u1 hy ys[j] v1 (WH hj) q1 q2];exact ez⟩
def jK(hu:X.A.units+64<Ms)(op:Co):cr X (Mo (cK op)) (rC X.K op):=by
 intro pins s σ H x y v u Q I rx ry h;obtain⟨as,m,w,w',S,R,R',q⟩:=h;have hd:yW=12:=rfl;have fin:∀{b:Bool},Q (.bl b) H->EP X pins σ Q (.bool b) s:=λ{b} q=>⟨.bl b,H,I,rfl,q⟩;have cmpI:∀{r:Int->Int->Bool},am X.K as H Q (iI r w w' m)->∃i j,x=.int i/\y=.int j/\Q (.bl (r i j)) H:=λ{r} q=>by
  unfold iI at q;cases w with
  |int i=>
   cases w' with
   |int j=>exact⟨i,j,aa.mp R,aa.mp R',q.ok S (ah.mpr rfl)⟩
   |_=>exact q.elim
  |_=>exact q.elim
 cases op with
 |eq=>
  obtain⟨b,hb,q⟩:=jJ S q;exact(lr I S yW X.A w w' x y v u b (by lia) hb R R' rx ry).eq X.prog X.w X.xe _ (fin q)
 |ne=>
  obtain⟨b,hb,q⟩:=jJ S q;obtain⟨c,hc,rfl⟩:=QE.mp hb;exact(lr I S yW X.A w w' x y v u c (by lia) hc R R' rx ry).ne X.prog X.w X.xe _ (fin q)
 |isin=>
  simp only[cZ]at q;split at q
  .rename_i ys hs;obtain⟨b,hb,q⟩:=jJ S q;obtain⟨p,vs,rfl,hq,r⟩:=qu S R' hs;obtain rfl:u=.ref p:=ry;rcases hq with hq|hq
   .obtain ⟨its,rv,pl,_⟩:=I.list hq;obtain⟨e,he,rfl⟩:=uS (A:=X.A.in1) I S (by show X.A.units+1+yW<Ms;lia) R rx r rv hb;exact in_listAt e pl.isList he (fin q)
   .obtain ⟨its,rv,pl,_⟩:=I.tuple hq;obtain⟨e,he,rfl⟩:=uS (A:=X.A.in1) I S (by show X.A.units+1+yW<Ms;lia) R rx r rv hb;exact in_tupleAt e (show s.heap.IsTuple p its.toArray from pl) he (fin q)
  .obtain ⟨b,hb,q⟩:=jJ S q;exact CT hu pins s σ H x y v u Q I rx ry (CS S R R' hb q)
 |isN=>
  refine C8 pins s σ H x y v u Q I rx ry ?_;simp only[cZ]at q;split at q
  .exact ⟨aq.mp R',by rw[aq.mp R];exact q.ok S (ah.mpr rfl)⟩
  .rename_i hne;refine⟨aq.mp R',?_⟩;have:x≠.non:=λz=>by
    subst z;exact hne (v9 I S _ _ _ R (aq.mpr rfl))
   rw[Ni this];exact q.ok S (ah.mpr rfl)
  .exact q.elim
 |notN=>
  refine FX pins s σ H x y v u Q I rx ry ?_;simp only[cZ]at q;split at q
  .exact ⟨aq.mp R',by rw[aq.mp R];exact q.ok S (ah.mpr rfl)⟩
  .rename_i hne;refine⟨aq.mp R',?_⟩;have:x≠.non:=λz=>by
    subst z;exact hne (v9 I S _ _ _ R (aq.mpr rfl))
   rw[Ni this];exact q.ok S (ah.mpr rfl)
  .exact q.elim
 |lt=>exact CI pins s σ H x y v u Q I rx ry (cmpI q)
 |le=>exact CH pins s σ H x y v u Q I rx ry (cmpI q)
end
end Mini
namespace L2
open PySem PySem.Spec PyProof.Rows
section
variable{O:M5}{key:M6->O.α}
def Le(O:M5)(key:M6->O.α)(x y:M6):Prop:=O.kle (key x) (key y)
def pE(O:M5)(key:M6->O.α)(l:List M6):Prop:=l.Pairwise (Le O key)
def Le.trans{x y z:M6}(h1:Le O key x y)(h2:Le O key y z):Le O key x z:=KeyOrd.kle_trans h1 h2
structure MI(O:M5)(key:M6->O.α)(X Y:List M6)(ia ib:Nat)(L:List M6):Prop where
 ha:ia<=X.length
 hb:ib<=Y.length
 pm:L.Perm (X.take ia++Y.take ib)
 so:pE O key L
 la:∀z∈L,∀x∈X.drop ia,Le O key z x
 lb:∀z∈L,∀y∈Y.drop ib,Le O key z y
def Good(O:M5)(key:M6->O.α)(X Y r:List M6):Prop:=pE O key r/\r.Perm (X++Y)
variable{X Y L:List M6}{ia ib:Nat}
end
section
variable{O:M5}{key:M6->O.α}
structure MH(O:M5)(key:M6->O.α)(X Y:List M6)(na nb:Nat)(L:List M6):Prop where
 ha:na<=X.length
 hb:nb<=Y.length
 pm:L.Perm (X.drop na++Y.drop nb)
 so:pE O key L
 la:∀z∈L,∀x∈X.take na,Le O key x z
 lb:∀z∈L,∀y∈Y.take nb,Le O key y z
variable{X Y L:List M6}{na nb:Nat}
end
section
variable{O:M5}{key:M6->O.α}{S:M6->Prop}
structure Ok(O:M5)(key:M6->O.α)(S:M6->Prop)(st:SortSt)(pend:List (Nat×Nat×Nat))(l:List M6):Prop where
 kind:kindOf st=oneType'
 failed:failedOf st=none
 pend:(pendingOf st).toList=pend
 arr:(arrOf st).toList=l
 all:∀x∈l,S x
end
def fS(ns:List Int):List Int:=ns.mergeSort λa b=>decide (a<=b)
def gS(ns:List Int):(fS ns).Perm ns:=List.mergeSort_perm _ _
def Jl(ns:List Int):(fS ns).Pairwise (·<=·):=by
 have:=List.pairwise_mergeSort (le:=λa b:Int=>decide (a<=b)) (λa b c h1 h2=>by simp only[Np]at *;lia) (λa b=>by simp only[Wx,Np];lia) ns;exact this.imp λh=>No h
def FL (h:ms.Perm ns)(hs:ms.Pairwise (·<=·)):fS ns=ms:=
 List.Perm.eq_of_pairwise (le:=λa b:Int=>a<=b) (λa b _ _ h1 h2=>by lia) (Jl ns) hs ((gS ns).trans h.symm)
theorem uR:∀{ns:List Int}{its:List Value},ay (ns.map V.int) its->MP its ns
 |[],_,.nil=>.nil
 |n::ns,_,.cons r t=>by
  obtain⟨k,rfl⟩:=(r:∃t,_=Value.int n t);exact .cons _ _ (uR t)
theorem uQ:∀{ns:List Int}{its:List Value},MP its ns->ay (ns.map V.int) its
 |_,_,.nil=>.nil
 |_,_,.cons _ _ t=>.cons ⟨_,rfl⟩ (uQ t)
section
variable{X:Cx}
def IR:bG X (.builtin "sorted") (λxs H Q=>∃(p:Addr) (ns:List Int),xs=[.ref p]/\bj X.K H p (ns.map V.int)/\ns.length<64/\∀l,H l=none->Q (.ref l) (aK H l (.lst ((fS ns).map V.int)))):=by
 intro pins s σ H xs us Q I r h;obtain⟨p,ns,rfl,hq,h64,q⟩:=h;obtain⟨u,rfl,rx⟩:=gF r;cases rx;obtain⟨its,r',pl,hz⟩:=I.list hq;have hlen:=r'.length;rw[Qm]at hlen;refine sorted_ints pl.isList (uR r') (by lia) λout ns' h1 h2 h3=>?_;obtain⟨e,he⟩:=sortedAll_at s.heap its out;have e1:fS ns=ns':=FL h2 h3;refine⟨.ref (s.heap.objs.size+1),_,I.laid (a:=s.heap.objs.size+1) (t':=s.toks) (λb o hb=>sortedAll_old hb) (by lia) (show aW X.prog X.w _ _ _ (.lst ((fS ns).map V.int))from⟨?_,out.toList,e,?_,?_⟩),rfl,q _ (I.hok.fresh (by lia))⟩
 .rw[Qm,(gS ns).length_eq];have:(64:Nat)<=sizeLine:=by decide
  lia
 .rw[e1];exact uQ h1
 .exact he
end
end L2
namespace Mini
open PySem PySem.Spec PyProof.Rows L2
section
variable{K:Qb}{as:List Addr}{H H':Hp}{m m':Me}{Q:VK}{X:Cx}
def mS:eK->Option (Str×Value)
 |.len=>some ("len",.builtin "len")
 |.int=>some ("int",.type "int")
 |.list=>some ("list",.type "list")
 |.max2=>some ("max",.builtin "max")
 |.min2=>some ("min",.builtin "min")
 |.all=>some ("all",.builtin "all")
 |.sortI=>some ("sorted",.builtin "sorted")
def Aw(K:Qb)(b:eK):List V->Hp->VK->Prop:=λvs H Q=>∃as m ws,aQ K as m H/\ae K as H ws vs/\am K as H Q (fe b ws m)
def w6 (h:ae K as H [x] vs):∃v,vs=[v]/\aj K as H x v:=by
 obtain⟨v,r,rfl,q,t⟩:=ao.mp h;obtain rfl:=aw.mp t;exact⟨v,rfl,q⟩
def qx (h:ae K as H [x,y] vs):∃v u,vs=[v,u]/\aj K as H x v/\aj K as H y u:=by
 obtain⟨v,r,rfl,q,t⟩:=ao.mp h;obtain⟨u,rfl,q'⟩:=w6 t;exact⟨v,u,rfl,q,q'⟩
def rW (S:aQ K as m H)(R:aj K as H w v)(h:ff m w=some xs):∃p vs,v=.ref p/\bj K H p vs/\ae K as H xs vs:=by
 cases w with
 |rol ys=>
  cases h;obtain⟨a,vs,rfl,hq,rr⟩:=ba.mp R;exact⟨a,vs,rfl,hq.sq,rr⟩
 |ref l=>
  obtain⟨b,hb,rfl⟩:=aE.mp R;obtain⟨a,vs,ha,e,r⟩:=zZ S (zK h);rw[hb]at ha;cases ha;exact⟨b,vs,rfl,bj.of e,r⟩
 |_=>cases h
theorem t7:∀{xs:List Wd}{vs:List V}{i:Bool},ae K as H xs vs->fx xs=some i->∃bs:List Bool,vs=bs.map V.bl/\bs.all id=i
 |[],vs,i,R,h=>by cases h;exact⟨[],aw.mp R,rfl⟩
 |x::xs,vs,i,R,h=>by
  obtain⟨v,r,rfl,q,t⟩:=ao.mp R;cases x with
  |bl j=>
   simp only[fx,QE]at h;obtain⟨k,hk,rfl⟩:=h;obtain⟨ns,rfl,rfl⟩:=t7 t hk;obtain rfl:=ah.mp q;exact⟨j::ns,rfl,by simp⟩
  |_=>cases h
def t6{o:Option (List Wd)}{f:(List Wd)->Rz}(h:am K as H Q (match o with|some a=>f a|none=>.no)):∃a,o=some a/\am K as H Q (f a):=by
 cases o with
 |none=>exact h.elim
 |some a=>exact⟨a,rfl,h⟩
def FK{o:Option Bool}{f:Bool->Rz}(h:am K as H Q (match o with|some a=>f a|none=>.no)):∃a,o=some a/\am K as H Q (f a):=by
 cases o with
 |none=>exact h.elim
 |some a=>exact⟨a,rfl,h⟩
theorem gT:∀(l:List Int),ae K as H (l.map Wd.int) (l.map V.int)
 |[]=>aw.mpr rfl
 |n::l=>ao.mpr ⟨_,_,rfl,aa.mpr rfl,gT l⟩
theorem uP:∀{xs:List Wd}{vs:List V}{k:List Int},ae K as H xs vs->x8 xs=some k->vs=k.map V.int
 |[],vs,k,R,h=>by cases h;exact aw.mp R
 |x::xs,vs,k,R,h=>by
  obtain⟨v,r,rfl,q,t⟩:=ao.mp R;cases x with
  |int j=>
   have h':(x8 xs).map (j::·)=some k:=h;obtain⟨k',hk,rfl⟩:=QE.mp h';rw[uP t hk,aa.mp q];rfl
  |_=>cases h
def Ho (hu:X.A.units+64<Ms)(hc:X.calm=true)(hb:mS b=some (nm,f)):bG X f (Aw X.K b):=by
 intro pins s σ H xs us Q I r h;obtain⟨as,m,ws,S,R,q⟩:=h;cases b with
 |len=>
  cases hb;refine ql pins s σ H xs us Q I r ?_;rcases ws with _|⟨x,_|⟨_,_⟩⟩
  .exact q.elim
  .obtain ⟨ys,hs,q⟩:=t6 (o:=xT m x) (f:=λys=>.ok (.int ys.length) m) q;obtain⟨v,rfl,q1⟩:=w6 R;obtain⟨p,vs,rfl,hq,rr⟩:=qu S q1 hs;refine⟨p,vs,rfl,hq,?_⟩;rw[<-rr.length];exact q.ok S (aa.mpr rfl)
  .exact q.elim
 |int=>
  cases hb;refine HU pins s σ H xs us Q I r ?_;cases ws with
  |nil=>exact q.elim
  |cons x ws=>
   cases x with
   |int i=>
    cases ws with
    |nil=>
     obtain⟨v,rfl,q1⟩:=w6 R;obtain rfl:=aa.mp q1;exact .inl ⟨i,rfl,q.ok S (aa.mpr rfl)⟩
    |cons _ _=>exact q.elim
   |bl i=>
    cases ws with
    |nil=>
     obtain⟨v,rfl,q1⟩:=w6 R;obtain rfl:=ah.mp q1;exact .inr ⟨i,rfl,q.ok S (aa.mpr rfl)⟩
    |cons _ _=>exact q.elim
   |_=>exact q.elim
 |list=>
  cases hb;refine qm pins s σ H xs us Q I r ?_;rcases ws with _|⟨x,_|⟨_,_⟩⟩
  .exact q.elim
  .obtain ⟨ys,hs,q⟩:=t6 (o:=xT m x) (f:=λys=>alloc m ys) q;obtain⟨v,rfl,q1⟩:=w6 R;obtain⟨p,vs,rfl,hq,rr⟩:=qu S q1 hs;exact⟨p,vs,rfl,hq,(x9 S rr q).2⟩
  .exact q.elim
 |sortI=>
  cases hb;refine IR pins s σ H xs us Q I r ?_;rcases ws with _|⟨x,_|⟨_,_⟩⟩
  .exact q.elim
  .replace q:am X.K as H Q (match (ff m x).bind x8 with
    |some k=>if k.length<64 then alloc m ((fU k).map Wd.int)else .no
    |none=>.no):=q
   cases hs:(ff m x).bind x8 with
   |none=>rw[hs]at q;exact q.elim
   |some k=>
    rw[hs]at q;by_cases h64:k.length<64
    .replace q:am X.K as H Q (if k.length<64 then alloc m ((fU k).map Wd.int)else .no):=q
     rw[Nj h64]at q;obtain⟨ys,h1,h2⟩:=QH.mp hs;obtain⟨v,rfl,q1⟩:=w6 R;obtain⟨p,vs,rfl,hq,rr⟩:=rW S q1 h1;obtain rfl:=uP rr h2;exact⟨p,k,rfl,hq,h64,(x9 S (gT _) q).2⟩
    .replace q:am X.K as H Q (if k.length<64 then alloc m ((fU k).map Wd.int)else .no):=q
     rw[Nk h64]at q;exact q.elim
  .exact q.elim
 |all=>
  cases hb;refine Jn hc pins s σ H xs us Q I r ?_;rcases ws with _|⟨x,_|⟨_,_⟩⟩
  .exact q.elim
  .obtain ⟨i,hs,q⟩:=FK (o:=(ff m x).bind fx) (f:=λi=>.ok (.bl i) m) q;obtain⟨ys,h1,h2⟩:=QH.mp hs;obtain⟨v,rfl,q1⟩:=w6 R;obtain⟨p,vs,rfl,hq,rr⟩:=rW S q1 h1;obtain⟨ns,rfl,rfl⟩:=t7 rr h2;exact⟨p,ns,rfl,hq,q.ok S (ah.mpr rfl)⟩
  .exact q.elim
 |max2=>
  cases hb;refine HW hc pins s σ H xs us Q I r ?_;cases ws with
  |nil=>exact q.elim
  |cons x ws=>
   cases x with
   |int i=>
    cases ws with
    |nil=>exact q.elim
    |cons y ws=>
     cases y with
     |int j=>
      cases ws with
      |nil=>
       obtain⟨v,u,rfl,q1,q2⟩:=qx R;obtain rfl:=aa.mp q1;obtain rfl:=aa.mp q2;exact⟨i,j,rfl,q.ok S (aa.mpr rfl)⟩
      |cons _ _=>exact q.elim
     |_=>exact q.elim
   |_=>exact q.elim
 |min2=>
  cases hb;refine HV hc pins s σ H xs us Q I r ?_;cases ws with
  |nil=>exact q.elim
  |cons x ws=>
   cases x with
   |int i=>
    cases ws with
    |nil=>exact q.elim
    |cons y ws=>
     cases y with
     |int j=>
      cases ws with
      |nil=>
       obtain⟨v,u,rfl,q1,q2⟩:=qx R;obtain rfl:=aa.mp q1;obtain rfl:=aa.mp q2;exact⟨i,j,rfl,q.ok S (aa.mpr rfl)⟩
      |cons _ _=>exact q.elim
     |_=>exact q.elim
   |_=>exact q.elim
def CQ (S:aQ K as m H)(R:aj K as H x v)(R':aj K as H y u)(h:am K as H Q (jG x y m)):Av K v u H Q:=by
 unfold jG at h;split at h
 .rename_i i;obtain rfl:=aa.mp R';split at h
  .rename_i xs hs;split at h
   .rename_i w hw;obtain⟨p,vs,rfl,hq,rr⟩:=qu S R hs;have e:∃z,fL vs i=some z/\aj K as H w z:=by
     obtain⟨j,hj,hx⟩:=QH.mp hw;obtain⟨z,hz,rz⟩:=rr.get hx;refine⟨z,?_,rz⟩;unfold fL;have hj':ii vs.length i=some j:=by rw[<-rr.length];exact hj
     rw[hj'];exact hz
    obtain⟨z,hz,rz⟩:=e;rcases hq with hq|hq
    .exact .inl ⟨p,vs,i,z,rfl,rfl,hq,hz,h.ok S rz⟩
    .exact .inr (.inl ⟨p,vs,i,z,rfl,rfl,hq,hz,h.ok S rz⟩)
   .exact h.elim
  .exact h.elim
 .exact h.elim
def CP {Q:Hp->Prop}(S:aQ K as m H)(R:aj K as H o vo)(R':aj K as H i vi)(R2:aj K as H w v)(h:∀m',qt o i w m=.ok .non m'->∀H',Step as H as H'->aQ K as m' H'->Q H')(hne:∃m',qt o i w m=.ok .non m'):m8 vo vi v H Q:=by
 obtain⟨m',hm'⟩:=hne;have h:=h m' hm';unfold qt at hm';split at hm'
 .rename_i l k;split at hm'
  .rename_i xs hl;split at hm'
   .rename_i j hj;cases hm';obtain⟨a,ha,rfl⟩:=aE.mp R;obtain rfl:=aa.mp R';obtain⟨b,vs,hb,e,rr⟩:=zZ S hl;rw[ha]at hb;cases hb;obtain⟨T,S'⟩:=S.set ha hl (rr.set j R2);refine⟨a,vs,k,j,rfl,rfl,e,?_,h _ T S'⟩;rw[<-rr.length];exact hj
   .cases hm'
  .cases hm'
 .cases hm'
def fh:ef->Str×String
 |.append=>("append","list.append") |.pop=>("pop","list.pop") |.reverse=>("reverse","list.reverse") |.clear=>("clear","list.clear") 
def JF(K:Qb)(n:ef):V->List V->Hp->VK->Prop:=λv vs H Q=>∃as m w ws,aQ K as m H/\aj K as H w v/\ae K as H ws vs/\am K as H Q (dr n w ws m)
def tF(n:ef):pF X (fh n).2 (JF X.K n):=by
 intro pins s σ H v vs u us Q I r rs h;obtain⟨as,m,w,ws,S,R,Rs,q⟩:=h;unfold dr at q;split at q
 .rename_i l;split at q
  .rename_i xs hl;obtain⟨a,ha,rfl⟩:=aE.mp R;obtain⟨b,zs,hb,e,rr⟩:=zZ S hl;rw[ha]at hb;cases hb;have hz:zs.length<=sizeLine:=(I.lstM e).1;split at q
   .rename_i y;split at q
    .rename_i hlt;obtain⟨z,rfl,rz⟩:=w6 Rs;obtain⟨T,S'⟩:=S.set ha hl (rr.append (.one rz));exact gN pins s σ H _ _ u us Q I r rs ⟨a,zs,z,rfl,rfl,e,by rw[<-rr.length];exact Qf hlt xh,q _ _ _ T S' (aq.mpr rfl)⟩
    .exact q.elim
   .split at q
    .rename_i y hy;obtain rfl:=aw.mp Rs;obtain⟨z,hz',rz⟩:=rr.get hy;obtain⟨T,S'⟩:=S.set ha hl rr.dropLast;exact C2 pins s σ H _ _ u us Q I r rs ⟨a,zs,z,rfl,rfl,e,by rw[<-rr.length];exact hz',q _ _ _ T S' (rz.mono S T)⟩
    .exact q.elim
   .obtain rfl:=aw.mp Rs;obtain⟨T,S'⟩:=S.set ha hl rr.reverse;exact IU pins s σ H _ _ u us Q I r rs ⟨a,zs,rfl,rfl,e,q _ _ _ T S' (aq.mpr rfl)⟩
   .obtain rfl:=aw.mp Rs;obtain⟨T,S'⟩:=S.set (ws:=[]) (vs:=[]) ha hl (aw.mpr rfl);exact G6 pins s σ H _ _ u us Q I r rs ⟨a,zs,rfl,rfl,e,q _ _ _ T S' (aq.mpr rfl)⟩
   .exact q.elim
  .exact q.elim
 .exact q.elim
def bT:Tg->String
 |.int=> "int" |.bool=> "bool" |.list=> "list" |.tuple=> "tuple" |.str=> "str" |.dict=> "dict"
def qy(K:Qb)(t:Tg):
  QC K (.type "NoneType") (.type (bT t))=some false/\QC K (.type "bool") (.type (bT t))=some (decide (t=.bool\/t=.int))/\QC K (.type "int") (.type (bT t))=some (decide (t=.int)) /\
  QC K (.type "str") (.type (bT t))=some (decide (t=.str))/\QC K (.type "list") (.type (bT t))=some (decide (t=.list))/\QC K (.type "tuple") (.type (bT t))=some (decide (t=.tuple))/\QC K (.type "dict") (.type (bT t))=some (decide (t=.dict)):=by
 cases t<;>refine⟨?_,?_,?_,?_,?_,?_,?_⟩<;>kernel_rfl
def oE(K:Qb)(t:Tg):List V->Hp->VK->Prop:=λvs H Q=>∃as m w v,vs=[v,.ty (bT t)]/\aQ K as m H/\aj K as H w v/\am K as H Q (dq (cY t w m) m)
def nj(m:Me)(t:Tg):cY t .non m=some false/\(∀c,cY t (.bl c) m=some (decide (t=.bool\/t=.int)))/\(∀i,cY t (.int i) m=some (decide (t=.int)))/\(∀x,cY t (.str x) m=some (decide (t=.str)))/\(∀ys,cY t (.tup ys) m=some (decide (t=.tuple)))/\(∀ys,cY t (.rol ys) m=some (decide (t=.list)))/\∀l ys,m[l]?=some (.lst ys)->cY t (.ref l) m=some (decide (t=.list)):=by
 refine⟨?_,λc=>?_,λi=>?_,λx=>?_,λys=>?_,λys=>?_,λl ys h=>?_⟩
 rotate_right
 .have e:cY t (.ref l) m=(match m[l]? with|some (.lst _)=>some (decide (t=.list))|some (.dct _ _)=>some (decide (t=.dict))|none=>none):=by cases t<;>rfl
  rw[e,h]
 all_goals cases t<;>rfl
def qz (m:Me)(t:Tg)(h:m[l]?=some (.dct ks ws)):cY t (.ref l) m=some (decide (t=.dict)):=by
 have e:cY t (.ref l) m=(match m[l]? with|some (.lst _)=>some (decide (t=.list))|some (.dct _ _)=>some (decide (t=.dict))|none=>none):=by cases t<;>rfl
 rw[e,h]
def Hn(t:Tg):bG X (.builtin "isinstance") (oE X.K t):=by
 intro pins s σ H xs us Q I r h;obtain⟨as,m,w,v,rfl,S,R,q⟩:=h;obtain⟨b,hb,q⟩:=jJ S q;obtain⟨u,u',rfl,ru,ru'⟩:=iK r;obtain rfl:u'=.type (bT t):=ru';obtain⟨k1,k2,k3,k4,k5,k6,k7⟩:=qy X.K t;obtain⟨z1,z2,z3,z4,z5,z6,z7⟩:=nj m t;have fin:∀tk,EP X pins σ Q (.bool b) {s with toks:=tk}:=λtk=>⟨.bl b,H,I.tok tk,rfl,q⟩;cases w with
 |non=>
  obtain rfl:=aq.mp R;have e:b=false:=Option.some.inj (hb.symm.trans z1);subst e;exact wE I ru .non k1 fin
 |bl c=>
  obtain rfl:=ah.mp R;have e:b=decide (t=.bool\/t=.int):=Option.some.inj (hb.symm.trans (z2 _));subst e;exact wE I ru (.bl c) k2 fin
 |int i=>
  obtain rfl:=aa.mp R;have e:b=decide (t=.int):=Option.some.inj (hb.symm.trans (z3 _));subst e;exact wE I ru (.int i) k3 fin
 |str x=>
  obtain rfl:=aB.mp R;have e:b=decide (t=.str):=Option.some.inj (hb.symm.trans (z4 _));subst e;exact wE I ru (.str _) k4 fin
 |tup ys=>
  obtain⟨a,vs,rfl,hq,rr⟩:=ai.mp R;have e:b=decide (t=.tuple):=Option.some.inj (hb.symm.trans (z5 _));subst e;obtain rfl:u=.ref a:=ru;obtain⟨its,_,⟨o,h1,h2,_⟩,_⟩:=I.tuple hq;exact QX Vf I.kIn ⟨o,h1,h2⟩ k6 (λz=>nomatch z) fin
 |rol ys=>
  obtain⟨a,vs,rfl,hq,rr⟩:=ba.mp R;have e:b=decide (t=.list):=Option.some.inj (hb.symm.trans (z6 _));subst e;obtain rfl:u=.ref a:=ru;obtain⟨its,_,p,_⟩:=I.list hq.sq;obtain⟨o,n,h1,h2,_⟩:=p;exact QX Wy I.kIn ⟨o,h1,h2⟩ k5 (λz=>nomatch z) fin
 |ref l=>
  obtain⟨a,ha,rfl⟩:=aE.mp R;have hlm:l<m.length:=by rw[<-S.len];exact(Qa.mp ha).1
  have hg:m[l]?=some m[l]:=by simp[hlm]
  cases ho:m[l]with
  |lst ys=>
   rw[ho]at hg;obtain⟨a',us,ha',e2,_⟩:=zZ S hg;rw[ha]at ha';cases ha';have e:b=decide (t=.list):=Option.some.inj (hb.symm.trans (z7 _ _ hg));subst e;exact wE I ru (.lst e2) k5 fin
  |dct ks us=>
   rw[ho]at hg;obtain⟨a',ha',xs,vs,td,_⟩:=S.get hg;rw[ha]at ha';cases ha';have e:b=decide (t=.dict):=Option.some.inj (hb.symm.trans (qz m t hg));subst e;obtain rfl:u=.ref a:=ru;exact QX WS I.kIn (wY I td).2.typeIs k7 (λz=>nomatch z) fin
end
structure fo(J:It)(vs:List V)(ok:Hp->Prop):Prop where
 go:∀i H,ok H->i<vs.length->J.go i H
 yld:∀i H x H',ok H->i<vs.length->J.yld i H x H'->H'=H/\vs[i]?=some x
 stop:∀i H,ok H->vs.length<=i->J.stop i H
def lq(K:Qb)(as:List Addr)(H:Hp)(J:It)(xs:List Wd):Prop:=
 ∃vs ok,fo J vs ok/\ok H/\ae K as H xs vs/\∀H1 H2,Kp K H1 H2->ok H1->ok H2
def rh(K:Qb)(as:List Addr)(H:Hp)(w:Wd)(J:It):Prop:=match w with
 |.tup xs=>lq K as H J xs
 |.rol xs=>lq K as H J xs
 |.ref l=>∃a,as[l]?=some a/\J=pH K a
 |_=>True
def cq(K:Qb)(as:List Addr)(H:Hp)(R:It->Hp->Prop)(r:Rz):Prop:=match r with
 |.ok w m'=>(xT m' w).isSome=true/\∀as' H' J,Step as H as' H'->aQ K as' m' H'->rh K as' H' w J->R J H'
 |_=>False
def ij(K:Qb)(g:En->Me->Rz):TI:=λσ H R=>∃as env m,aQ K as m H/\aF K as H env σ/\cq K as H R (g env m)
def PI.or{X:Cx}{tg e:Expr}{a b:TI}(h1:PI X tg e a)(h2:PI X tg e b):PI X tg e (λσ H R=>a σ H R\/b σ H R):=λpins s σ H R I h=>by
 rcases h with h|h
 .exact h1 pins s σ H R I h
 .exact h2 pins s σ H R I h
def PI.imp{X:Cx}{tg e:Expr}{a b:TI}(h:PI X tg e a)(k:∀σ H R,b σ H R->a σ H R):PI X tg e b:=λpins s σ H R I q=>h pins s σ H R I (k σ H R q)
def kf (h:PE X x (aM X.K g)):PI X tg x (ij X.K g):=by
 refine PI.imp (PI.or (FZ h) (Ea h)) λσ H R q=>?_;obtain⟨as,env,m,S,G,P⟩:=q;cases hr:g env m with
 |no=>rw[hr]at P;exact P.elim
 |exc c w m'=>rw[hr]at P;exact P.elim
 |ok w m'=>
  rw[hr]at P;obtain⟨hs,P⟩:=P;obtain⟨xs,hs⟩:=Q8.mp hs;cases w with
  |tup ys=>
   refine .inr ⟨as,env,m,S,G,?_⟩;rw[hr];intro as' H' v T S' R';obtain⟨a,vs,rfl,hq,rr⟩:=ai.mp R';refine⟨a,rfl,⟨vs,hq⟩,P as' H' _ T S' ⟨vs,λH=>cb X.K H a vs,⟨λi H h hi=>⟨vs,vs[i],h,by simp[hi]⟩,λi H x H' h hi q=>⟨q.1,q.2 vs h⟩,λi H h hi=>⟨vs,h,hi⟩⟩,hq,rr,λH1 H2 k h=>k.t _ _ h⟩⟩
  |rol ys=>
   refine .inl ⟨as,env,m,S,G,?_⟩;rw[hr];intro as' H' v T S' R';obtain⟨a,vs,rfl,hq,rr⟩:=ba.mp R';refine⟨a,rfl,⟨vs,hq.sq⟩,P as' H' _ T S' ⟨vs,λH=>eS X.K H a vs,⟨λi H h hi=>⟨vs,vs[i],h.sq,by simp[hi]⟩,λi H x H' h hi q=>⟨q.1,q.2 vs h.sq⟩,λi H h hi=>⟨vs,h.sq,hi⟩⟩,hq,rr,λH1 H2 k h=>k.f _ _ h⟩⟩
  |ref l=>
   refine .inl ⟨as,env,m,S,G,?_⟩;rw[hr];intro as' H' v T S' R';obtain⟨a,ha,rfl⟩:=aE.mp R';obtain⟨a',us,ha',e,_⟩:=zZ S' (zK hs);rw[ha]at ha';cases ha';exact⟨a,rfl,⟨us,bj.of e⟩,P as' H' _ T S' ⟨a,ha,rfl⟩⟩
  |non=>cases hs
  |bl b=>cases hs
  |int i=>cases hs
  |str x=>cases hs
theorem jL {K:Qb}(st:Int):∀(n:Nat) (lo:Int),ae K as H (fw lo st n) ((QA n).map λ(i:Nat)=>V.int (lo+st*(i:Int)))
 |0,lo=>aw.mpr rfl
 |n+1,lo=>by
  rw[Wr,QT,Wf];refine ao.mpr ⟨_,_,rfl,aa.mpr (by simp),?_⟩;have e:((λ(i:Nat)=>V.int (lo+st*(i:Int))) ∘ Nat.succ)=λ(i:Nat)=>V.int (lo+st+st*(i:Int)):=by
   funext i;show V.int (lo+st*((i.succ:Nat):Int))=_;congr 1;rw[Nat.succ_eq_add_one,Int.natCast_add,Int.mul_add];lia
  rw[e];exact jL st n (lo+st)
def HH{K:Qb}(lo:Int)(n:Nat):fo (i5 lo n) ((QA n).map λ(i:Nat)=>V.int (lo+1*(i:Int))) (λ_=>True):=by
 refine⟨λi H _ hi=>?_,λi H x H' _ hi q=>?_,λi H _ hi=>?_⟩
 .show i<n;simpa using hi
 .obtain ⟨e,rfl⟩:=q;refine⟨e,?_⟩;have hi':i<n:=by simpa using hi
  rw[Qt,WN hi'];simp
 .show n<=i;simpa using hi
end Mini
namespace L2
set_option tactic.hygienic false
open PySem PySem.Spec PyProof.Rows
section
variable{κ:Type}[DecidableEq κ]
def wq(kvs:List (κ×V))(k:κ):Option V:=(kvs.find? λkv=>decide (kv.1=k)).map (·.2)
def jn(kvs:List (κ×V))(k:κ)(v:V):List (κ×V):=
 if(kvs.any λkv=>decide (kv.1=k))=true then kvs.map (λkv=>if kv.1=k then(kv.1,v)else kv)else kvs++[(k,v)]
def we {k:κ}(e:p.1=k):wq (p::r) k=some p.2:=by simp[wq,Ws,e]
def wG {k:κ}(e:¬p.1=k):wq (p::r) k=wq r k:=by simp[wq,Ws,e]
theorem jM(k:κ):∀kvs:List (κ×V),(kvs.any λkv=>decide (kv.1=k))=(wq kvs k).isSome
 |[]=>rfl
 |p::r=>by
  rw[WZ];by_cases e:p.1=k
  .simp only[we e,Nn e,Bool.true_or,Option.isSome_some]
  .rw[wG e,Ni e,Bool.false_or];exact jM k r
def Jy(kvs:List (κ×V))(k:κ)(v:V):(jn kvs k v).length<=kvs.length+1:=by
 unfold jn;split
 .rw[Qm];lia
 .rw[QW,Wp,W5];lia
def Hm {k:κ}(v:V)(h:wq kvs k=none):jn kvs k v=kvs++[(k,v)]:=by
 unfold jn;rw[jM,h];exact Nk (by decide)
def KV.val (r:KV kvs vs)(k:κ):dU (wq kvs k) (M7 vs k):=by
 unfold KV at r
 induction r with
 |nil=>exact True.intro
 |@cons p q ps qs h t ih=>
  obtain⟨h1,h2⟩:=h;by_cases e:p.1=k
  .have e':q.1=k:=h1.symm.trans e;have b:M7 (q::qs) k=some q.2:=by simp[M7,Ws,e']
   rw[we e,b];exact h2
  .have e':¬q.1=k:=λz=>e (h1.trans z);have b:M7 (q::qs) k=M7 qs k:=by simp[M7,Ws,e']
   rw[wG e,b];exact ih
theorem KV.any (r:KV kvs vs)(k:κ):(kvs.any λkv=>decide (kv.1=k))=vs.any λkv=>decide (kv.1=k):=by
 unfold KV at r
 induction r with
 |nil=>rfl
 |cons h t ih=>rw[WZ,WZ,ih,h.1]
def KV.repl{kvs:List (κ×V)}{vs:List (κ×Value)}(r:KV kvs vs)(k:κ){y:V}{u:Value}(ry:RelV y u):
  KV (kvs.map λkv=>if kv.1=k then(kv.1,y)else kv) (vs.map λkv=>if kv.1=k then(kv.1,u)else kv):=by
 unfold KV at r ⊢
 induction r with
 |nil=>exact .nil
 |@cons p q ps qs h t ih=>
  rw[QT,QT];refine .cons ?_ ih;obtain⟨h1,h2⟩:=h;by_cases e:p.1=k
  .rw[Nj e,Nj (h1.symm.trans e)];exact⟨h1,ry⟩
  .rw[Nk e,Nk (λz=>e (h1.trans z))];exact⟨h1,h2⟩
def KV.put{kvs:List (κ×V)}{vs:List (κ×Value)}(r:KV kvs vs)(k:κ){y:V}{u:Value}(ry:RelV y u):KV (jn kvs k y) (stored vs k u):=by
 unfold jn stored;rw[r.any k];by_cases e:(vs.any λkv=>decide (kv.1=k))=true
 .rw[Nj e,Nj e];exact r.repl k ry
 .rw[Nk e,Nk e];exact Paired.snoc r ⟨rfl,ry⟩
def KV.keys {vs:List (κ×Value)}(r:KV kvs vs):kvs.map (·.1)=vs.map (·.1):=by
 unfold KV at r
 induction r with
 |nil=>rfl
 |cons h t ih=>rw[QT,QT,ih,h.1]
theorem KV.length {vs:List (κ×Value)}(r:KV kvs vs):kvs.length=vs.length:=Paired.length r
end
def iM (r:RelV (kV k) u):(zO P w).is k u=true:=by
 cases k with
 |inl i=>obtain⟨t,e⟩:=(show ∃t,u=Value.int i t from r);subst e;exact Jr P w i t
 |inr x=>obtain⟨t,e⟩:=(show ∃t,u=Value.str x t from r);subst e;exact Jq P w x t
theorem gU:∀{ks:List bu}{us:List Value},ay (ks.map kV) us->ItemsAre (zO P w) ks us
 |[],_,r=>by rw[W1]at r;cases r;exact .nil
 |k::ks,_,r=>by
  rw[QT]at r;cases r with
  |cons h t=>exact .cons (iM h) (gU t)
abbrev KT(H:Hp):List (List bu×V)->List (List bu×Addr×Value)->Prop:=LJ λp q=>p.1=q.1/\H q.2.1=some (.tup (p.1.map kV))/\RelV p.2 q.2.2
def KT.val (r:KT H kvs xs)(k:List bu):dU (wq kvs k) ((MZ xs k).map (·.2)):=by
 induction r with
 |nil=>exact True.intro
 |@cons p q ps qs h t ih=>
  obtain⟨h1,_,h2⟩:=h;by_cases e:p.1=k
  .have e':q.1=k:=h1.symm.trans e;have b:MZ (q::qs) k=some q.2:=by simp[MZ,Ws,e']
   rw[we e,b];exact h2
  .have e':¬q.1=k:=λz=>e (h1.trans z);have b:MZ (q::qs) k=MZ qs k:=by simp[MZ,Ws,e']
   rw[wG e,b];exact ih
section
variable{P:LF}{w:LG}{H:Hp}{h:LK}{a:Addr}
def rV (ok:cg P w H h)(e:Rd H a u):aW P w H h a u:=e.ok ok
def m9 (ok:cg P w H h)(e:Rd H a (.dK kvs)):kvs.length<=sizeLine/\(a==LL)=false/\∃vs,KV kvs vs/\h.DictOf (zO P w) a vs:=
 show aW P w H h a (.dK kvs)from rV ok e
def rT (ok:cg P w H h)(e:H a=some (.dK kvs)):kvs.length<=sizeLine/\(a==LL)=false/\∃vs,KV kvs vs/\h.DictOf (zO P w) a vs:=m9 ok (.inl e)
def tE (ok:cg P w H h)(e:H a=some (.tup (ks.map kV))):(LM (zO P w)).is h ks a:=by
 obtain⟨_,its,r,o,h1,h2,n,h3⟩:=(show aW P w H h a (.tup (ks.map kV))from ok a _ e);exact⟨o,its.toArray,n,h1,h2,h3,by simpa using gU r⟩
def sC (ok:cg P w H h)(e:Rd H a (.dT kvs)):kvs.length<=sizeLine/\(a==LL)=false /\
  ∃xs,KT H kvs xs/\h.DictOfH (LM (zO P w)) a xs:=by
 obtain⟨z,y,xs,r,o,es,ep,h1,h2,h3,h4,h5⟩:=(show aW P w H h a (.dT kvs)from rV ok e);refine⟨z,y,xs,r,o,es,ep,h1,h2,h3,h4,λx hx=>?_,h5⟩;have all:∀{l:List (List bu×V)}{m:List (List bu×Addr×Value)},KT H l m->∀x∈m,(LM (zO P w)).is h x.1 x.2.1:=by
  intro l m q
  induction q with
  |nil=>intro x hx;exact nomatch hx
  |@cons p q ps qs hq t ih=>
   intro x hx;rcases Qo.mp hx with e|hx
   .subst e;exact tE ok (by rw[<-hq.1];exact hq.2.1)
   .exact ih x hx
 exact all r x hx
end
def mF(H:Hp)(a:Addr)(y:V)(r:Option V):Prop:=
 (∃kvs k,Rd H a (.dK kvs)/\y=kV k/\r=wq kvs k)\/∃kvs k b,Rd H a (.dT kvs)/\y=.ref b/\H b=some (.tup (k.map kV))/\r=wq kvs k
section
variable{X:Cx}{pins:List (Addr×Obj)}{σ:St}{H:Hp}{s:Shared}{a:Addr}{y v:V}{u:Value}{o:Option V}{A:LQ}{E:Value->Shared->Prop}
def Inv.big(I:Inv X pins σ H s):LL<s.heap.objs.size:=by
 have h:LO<s.heap.objs.size:=(I.mod.glob.keeps I.bk).lt;exact Nat.lt_trans (by decide) h
def HG (hu:A.units+1<Ms)(I:Inv X pins σ H s)(g:mF H a y (some v))(ry:RelV y u)(h:∀w' s',Inv X pins σ H s'->RelV v w'->Q w' s'):
  LV (LW X.prog X.w) A (MC (.ref a) u) Q E s:=by
 rcases g with⟨kvs,k,e,ey,l⟩|⟨kvs,k,b,e,ey,eb,l⟩
 .subst ey;obtain⟨z,hd,vs,rel,dd⟩:=m9 I.hok e;obtain⟨w',hw,rw'⟩:=i6 (v:=v) (o:=M7 vs k) (by rw[l];exact rel.val k);exact M8 (iM ry) dd.mapOf hw (h w' _ (I.tok _) rw')
 .subst ey;cases(show u=Value.ref b from ry);obtain⟨z,hd,xs,rel,dd⟩:=sC I.hok e;obtain⟨w',hw,rw'⟩:=i6 (v:=v) (o:=(MZ xs k).map (·.2)) (by rw[l];exact rel.val k);obtain⟨p,hp,hp2⟩:=QE.mp hw;refine wpAny_getItem_heap (tupleKind_room_in1 hu) (tE I.hok eb) dd hp ?_;rw[hp2];exact h w' _ (I.tok _) rw'
def t5 (I:Inv X pins σ H s)(mu:i4 (H a))(hs:WE a s.heap h')(he:∃q,h'.get? a=some q)(new:aW X.prog X.w (aK H a ob) h' a ob):
  Inv X pins σ (aK H a ob) {s with heap:=h',toks:=t' } :=
 I.write (x:=a) (e:=a) mu (.inl rfl) (λb q hb z=>(hs.2 b hb).trans z) he new
def CO (z:kvs.length<=sizeLine)(hd:(a==LL)=false)(rel:KV kvs vs)(dd:h'.DictOf (zO P w) a vs):
  aW P w H' h' a (.dK kvs):=⟨z,hd,vs,rel,dd⟩
end
def rg(i:Expr):Prop:=∀ov iv,MG i false ov iv=operate [ov,iv] (MC ov iv)
def FJ {id:String}(hl:typeLookup (.type T) "__getitem__"=pure (some (.builtin id)))(hs:rg slice)(h:LV (LW prog w) A (eval value env) (λo s₁=>LV (LW prog w) A (eval slice env) (λi s₂=>s₂.TypeIs o T/\LV (LW prog w) A (MC o i) Q E s₂) E s₁) E s):
  LV (LW prog w) A (eval (.Subscript value slice pos) env) Q E s:=by
 refine Subscript_ (LZ h (λo s₁ h₁=>LZ h₁ (λi s₂ h₂=>?_) λ_ _ x=>x) λ_ _ x=>x);obtain⟨hT,h₂⟩:=h₂;unfold MD;refine Mc ?_;rw[getitemInPython_of_ne hT.not_modules];refine Mc (MX hT hl ?_);have fin:LV (LW prog w) A (MG slice false o i) (λr s₃=>LV (LW prog w) A (letTemporaryGo value o r >>= λ_=>pure r) Q E s₃) E s₂:=by
  rw[hs o i];exact wpAny_operating (LZ h₂ (λr s₃ h₃=>Mc (wpAny_letTemporaryGo (Mi h₃))) λ_ _ x=>x)
 first
  |exact Mi (Mc fin)
  |exact Mc (Mi (Mc fin))
  |exact Mc fin
def Jx (I:Inv X pins σ H s)(g:mF H a y o):s.TypeIs (.ref a) "dict":=by
 rcases g with⟨kvs,k,e,_,_⟩|⟨kvs,k,b,e,_,_,_⟩
 .obtain ⟨_,_,vs,_,dd⟩:=m9 I.hok e;exact dd.typeIs
 .obtain ⟨_,_,xs,_,dd⟩:=sC I.hok e;exact dd.typeIs
def BH(td ty:TE):TE:=λσ H Q=>td σ H λx H1=>ty σ H1 λy H2=>∃a v,x=.ref a/\mF H2 a y (some v)/\Q v H2
section
variable{X:Cx}{o i:Expr}{pos:Pos}{td ty:TE}
def FI(hu:X.A.units+1<Ms)(ho:PE X o td)(hi:PE X i ty)(hs:rg i):PE X (.Subscript o i pos) (BH td ty):=by
 intro pins s σ H Q I h;refine FJ PySem.F.slot_dict_getitem.lookup hs (aZ (ho pins s σ H _ I h) λu s1 ⟨x,H1,I1,rx,q1⟩=>aZ (hi pins s1 σ H1 _ I1 q1) λiv s2 ⟨y,H2,I2,ry,a,v,ex,g,q2⟩=>?_);subst ex;obtain rfl:u=Value.ref a:=rx;exact⟨Jx I2 g,HG hu I2 g ry λw' s3 I3 rw'=>⟨v,H2,I3,rw',q2⟩⟩
end
def Ai (h:LK)(hb:LL<h.objs.size):aW P w H (h.push {cls:=.type "dict",data:=.dict #[]}) h.objs.size (.dK []):=
 ⟨WY _,beq_eq_false_iff_ne.mpr (Ne.symm (QM hb)),[],.nil,Heap.DictOf.new h⟩
def qC:List (TE×TE)->St->Hp->(List (V×V)->Hp->Prop)->Prop
 |[],_,H,Q=>Q [] H
 |(tk,tv)::r,σ,H,Q=>tk σ H λx H1=>tv σ H1 λy H2=>qC r σ H2 λps H3=>Q ((x,y)::ps) H3
abbrev VV:List (V×V)->List (Value×Value)->Prop:=LJ λp q=>RelV p.1 q.1/\RelV p.2 q.2
def iZ(X:Cx)(pos:Pos)(keys:List (Option Expr))(values:List Expr)(trs:List (TE×TE)):Prop:=
 ∀(pins:List (Addr×Obj)) (s:Shared) (σ:St) (H:Hp) (Q:List (V×V)->Hp->Prop),Inv X pins σ H s->qC trs σ H Q ->
  LV (LW X.prog X.w) X.A (evalPairs (pairTrees keys values X.env pos)) (λvs s'=>∃ps H',Inv X pins σ H' s'/\VV ps vs/\Q ps H') X.xe s
def tZ:iZ X pos [] [] []:=λpins s σ H Q I h=>pairTrees_nil_walk ⟨[],H,I,.nil,h⟩
def xC (hk:PE X k tk)(hv:PE X v tv)(hr:iZ X pos ks vs trs):
  iZ X pos (some k::ks) (v::vs) ((tk,tv)::trs):=λpins s σ H Q I h=>
 pairTrees_cons_walk (aZ (hk pins s σ H _ I h) λu s1 ⟨x,H1,I1,rx,q1⟩=>aZ (hv pins s1 σ H1 _ I1 q1) λw2 s2 ⟨y,H2,I2,ry,q2⟩=>
  aZ (hr pins s2 σ H2 _ I2 q2) λws s3 ⟨ps,H3,I3,rel,q3⟩=>⟨(x,y)::ps,H3,I3,.cons ⟨rx,ry⟩ rel,q3⟩)
def xP(kvs more:List (bu×V)):List (bu×V):=more.foldl (λacc kv=>jn acc kv.1 kv.2) kvs
def KV.merge:∀{more:List (bu×V)}{rs:List (bu×Value)}{kvs:List (bu×V)}{vs:List (bu×Value)},KV more rs->KV kvs vs->KV (xP kvs more) (merged vs rs):=by
 intro more rs kvs vs r;unfold KV at r
 induction r generalizing kvs vs with
 |nil=>intro q;exact q
 |@cons p q ps qs h t ih=>
  intro r0;have e:KV (jn kvs p.1 p.2) (stored vs q.1 q.2):=by
   have:=r0.put p.1 h.2;rw[<-h.1];exact this
  exact ih e
theorem vP:∀(more kvs:List (bu×V)),(xP kvs more).length<=kvs.length+more.length
 |[],kvs=>by show kvs.length<=kvs.length+0;lia
 |p::r,kvs=>by
  have h1:=vP r (jn kvs p.1 p.2);have h2:=Jy kvs p.1 p.2;show(xP (jn kvs p.1 p.2) r).length<=_;rw[Wp];lia
theorem vT:∀{kvs:List (bu×V)}{ws:List (Value×Value)},VV (kvs.map λkv=>(kV kv.1,kv.2)) ws->∃rs,Carries (zO P w) ws rs/\KV kvs rs
 |[],_,r=>by rw[W1]at r;cases r;exact⟨[],True.intro,.nil⟩
 |p::kvs,_,r=>by
  rw[QT]at r;cases r with
  |@cons a b as bs h t=>
   obtain⟨rs,c,q⟩:=vT (P:=P) (w:=w) t;obtain⟨b1,b2⟩:=b;exact⟨(p.1,b2)::rs,⟨iM h.1,rfl,c⟩,.cons ⟨rfl,h.2⟩ q⟩
def BG(trs:List (TE×TE)):TE:=λσ H Q=>∀p,H p=none->qC trs σ (aK H p (.dK [])) λps H2=>H2 p=some (.dK [])/\∃kvs:List (bu×V),ps=kvs.map (λkv=>(kV kv.1,kv.2))/\kvs.length<=15/\Q (.ref p) (aK H2 p (.dK (xP [] kvs)))
def FH (h:iZ X pos keys values trs)(hall:keys.all (·.isSome)=true)(hl:keys.length=values.length)(h0:keys≠[])(h15:keys.length<=15):PE X (.Dict keys values pos) (BG trs):=by
 intro pins s σ H Q I q;have hn:=I.hok.fresh (Qk s.heap.objs.size);have I1:=I.laid (a:=s.heap.objs.size) (o:=.dK []) (h':=s.heap.push {cls:=.type "dict",data:=.dict #[]}) (t':=s.toks) (λ_ _ q=>Qq _ q) (Qk _) (Ai s.heap I.big);refine wpAny_Dict_walk (knd:=zO X.prog X.w) hall hl h0 h15 (aZ (h pins _ σ _ _ I1 (q _ hn)) λws s2 ⟨ps,H2,I2,rel,e,kvs,ep,lk,q2⟩=>?_);subst ep;obtain⟨rs,c,rk⟩:=vT (P:=X.prog) (w:=X.w) rel;obtain⟨z,hd,vs0,r0,dd⟩:=rT I2.hok e;cases r0;refine⟨rs,c,dd,λh' dd' hs=>⟨.ref s.heap.objs.size,_,?_,rfl,q2⟩⟩;have hz:(xP [] kvs).length<=sizeLine:=by
  have h1:=vP kvs [];rw[W5]at h1;rw[Mr];lia
 have he:∃q,h'.get? s.heap.objs.size=some q:=let⟨q,_,_,hq,_⟩:=dd';⟨q,hq⟩;exact t5 I2 (by rw[e];exact True.intro) hs he (CO hz hd (rk.merge .nil) dd')
def wT(d:Addr)(o:Obj):HO:=.ext λh=>h.get? d=some o
def FO(P:LF)(w:LG)(d:Addr)(o:Obj)(ep:Nat)(kvs:List (bu×V)):Prop:=
 (d==LL)=false/\∃es vs,o.ExactDict/\o.data=.dict es ep/\KeysOf (zO P w) es/\Pairs (zO P w) es.toList vs/\(vs.map (·.1)).Nodup/\KV kvs vs
def FO.at (f:FO P w d o ep kvs){h:LK}(e:h.get? d=some o):∃vs,KV kvs vs/\h.DictAt (zO P w) d vs ep:=by
 obtain⟨_,es,vs,a,b,c,g,n,r⟩:=f;exact⟨vs,r,o,es,e,a,b,c,g,n⟩
def FG (h:(zO P w).is k u=true):RelV (kV k) u:=by
 cases k with
 |inl i=>exact Value.isInt_shape h
 |inr x=>exact Value.isStrOf_shape h
section
variable{X:Cx}{pins:List (Addr×Obj)}{σ:St}{H:Hp}{s:Shared}
def qD (I:Inv X pins σ H s)(h:H d=some (wT d o)):s.heap.get? d=some o:=(I.hok d _ h).1
def Bv(d:Addr)(o:Obj)(kvs:List (bu×V)):It:=
 ⟨λi H=>H d=some (wT d o)/\i<kvs.length,λi H x H'=>H'=H/\∃kv,kvs[i]?=some kv/\x=kV kv.1,λi H=>H d=some (wT d o)/\kvs.length<=i⟩
def CN {vs:List (bu×Value)}(r:KV kvs vs)(hi:i<kvs.length):∃k v u,kvs[i]?=some (k,v)/\vs[i]?=some (k,u):=by
 have hk:=r.keys;have hl:=r.length;have hi':i<vs.length:=by lia
 refine⟨kvs[i].1,kvs[i].2,vs[i].2,Qe hi,?_⟩;rw[Qe hi'];have e:(kvs.map (·.1))[i]?=(vs.map (·.1))[i]?:=by rw[hk]
 rw[Qt,Qt,Qe hi,Qe hi']at e;have e:=Option.some.inj e;have e:kvs[i].1=vs[i].1:=e;rw[e]
def IQ {K:Qb}(f:FO P w d o ep kvs)(it:Addr):dB P w K tg (Bv d o kvs) [it] it (λi h=>h.IsKeyIter it d i kvs.length ep) where
 mem:=by simp
 obj:=λi h st b hb=>by
  have e:b=it:=by simpa using hb
  subst e;obtain⟨o,e,c,d⟩:=st;exact⟨o,e,λv z=>by rw[d]at z;cases z⟩
 keep:=λi h h' st k=>by
  obtain⟨o,e,r⟩:=st;exact⟨o,k it (by simp) o e,r⟩
 item:=by
  intro X hP hw hK hc i pins s σ H E I hf st hg;subst hP hw hK;obtain⟨hq,hi⟩:=hg;obtain⟨vs,rel,da⟩:=f.at (qD I hq);obtain⟨k,v,u,e1,e2⟩:=CN rel hi;obtain⟨f0,f1,f2,f3,f4,f5⟩:=hf it (by simp);have hl:=rel.length;rw[hl]at st;refine wpAny_pyNext_dict_item st da e2 λkey h' hk st' sb=>?_;have I1:Inv X pins σ H {s with heap:=h' }:=I.turned (t':=s.toks) (λb o hb e=>(sb.2 b hb).trans e) f0 f1 f3 f4 f5;obtain⟨o,e,c,dd⟩:=id st';rw[<-hl]at st';exact⟨key,rfl,lA (s:={s with heap:=h' }) e c dd (by decide) ⟨kV k,H,I1,FG hk,⟨rfl,(k,v),e1,rfl⟩,st',λb hb=>(hf b hb).1⟩⟩
 done:=by
  intro X hP hw hK hc i pins s σ H E I hf st hg;subst hP hw hK;obtain⟨hq,hi⟩:=hg;obtain⟨vs,rel,da⟩:=f.at (qD I hq);obtain⟨f0,f1,f2,f3,f4,f5⟩:=hf it (by simp);have hl:=rel.length;rw[hl]at st;exact wpAny_pyNext_dict_end (I.ok.hd hc) st da (Qn (by lia)) λh' eb=>⟨rfl,I.turned (t':=s.toks) (λb o hb e=>eb b o hb e) f0 f1 f3 f4 f5⟩
 self:=λ_ _ _ _ _ st h=>wpAny_pyIter_keyiter st h
def Az(X:Cx)(tl:TE):TI:=λσ H R=>tl σ H λx H1=>∃d o ep kvs,x=.ref d/\FO X.prog X.w d o ep kvs/\H1 d=some (wT d o)/\R (Bv d o kvs) H1
def Hl (hl:PE X l tl):PI X tg l (Az X tl):=by
 intro pins s σ H R I h;refine aZ (hl pins s σ H _ I h) λv s1 ⟨x,H1,I1,r1,q1⟩=>?_;obtain⟨d,o,ep,kvs,e,f,hq,q⟩:=q1;subst e;cases r1;obtain⟨vs,rel,da⟩:=f.at (qD I1 hq);have hl:=rel.length;refine wpAny_pyIter_dict f.1 da ?_;refine⟨s1.heap.objs.size,[s1.heap.objs.size],_,_,H1,rfl,I1.kept (t':=s1.toks) λb o e=>Qq _ e,IQ f _,⟨_,QR _ rfl,rfl,by rw[hl];rfl⟩,λb hb=>?_,q⟩;have e:b=s1.heap.objs.size:=by simpa using hb
 subst e;exact I1.fpOk (Qk _) (I1.hok.fresh (Qk _))
def gW(X:Cx):R2:=λx y H Q=>∃d o ep kvs k v,x=.ref d/\y=kV k/\FO X.prog X.w d o ep kvs/\H d=some (wT d o)/\wq kvs k=some v/\Q v H
def oR:eg X (gW X):=by
 intro value slice pins s σ H x y v u Q I rx ry h hs;obtain⟨d,o,ep,kvs,k,z,rfl,rfl,f,hq,hv,q⟩:=h;cases rx;obtain⟨vs,rel,da⟩:=f.at (qD I hq);obtain⟨w',hw,rw'⟩:=i6 (v:=z) (o:=M7 vs k) (by rw[<-hv];exact rel.val k);exact MJ (x:=w') da.dictOf.typeIs slot_dict_getitem.lookup
  (M8 (Q:=λr s'=>r=w'/\EP X pins σ Q r s') (iM ry) da.dictOf.mapOf hw ⟨rfl,z,H,I.tok _,rw',q⟩) hs
def gX (h:(kvs.map (·.1)).Nodup):∀{ps:List (bu×V)},((ps++kvs).map (·.1)).Nodup->xP ps kvs=ps++kvs:=by
 induction kvs with
 |nil=>intro ps _;simp[xP]
 |cons a r ih=>
  intro ps hn;have hp:wq ps a.1=none:=by
   cases hz:wq ps a.1 with
   |none=>rfl
   |some y=>
    exfalso;have hs:(wq ps a.1).isSome=true:=by rw[hz];rfl
    rw[<-jM,Wu]at hs;obtain⟨q,hq,he⟩:=hs;have he:=No he;rw[Ww,Qz]at hn;exact hn.2.2 q.1 (List.mem_map_of_mem hq) a.1 (by simp) he
  show xP (jn ps a.1 a.2) r=_;rw[Hm _ hp,ih (by simpa using (QI.mp (by simpa using h)).2) (ps:=ps++[(a.1,a.2)]) (by simpa using hn)];simp
def CM(X:Cx)(trs:List (TE×TE)):TE:=λσ H Q=>∀p,H p=none->qC trs σ (aK H p (.dK [])) λps H2=>H2 p=some (.dK [])/\∃kvs:List (bu×V),ps=kvs.map (λkv=>(kV kv.1,kv.2))/\kvs.length<=15/\(kvs.map (·.1)).Nodup/\∀o ep,FO X.prog X.w p o ep kvs->Q (.ref p) (aK H2 p (wT p o))
def Hk (h:iZ X pos keys values trs)(hall:keys.all (·.isSome)=true)(hl:keys.length=values.length)(h0:keys≠[])(h15:keys.length<=15):PE X (.Dict keys values pos) (CM X trs):=by
 intro pins s σ H Q I q;have hn:=I.hok.fresh (Qk s.heap.objs.size);have I1:=I.laid (a:=s.heap.objs.size) (o:=.dK []) (h':=s.heap.push {cls:=.type "dict",data:=.dict #[]}) (t':=s.toks) (λ_ _ q=>Qq _ q) (Qk _) (Ai s.heap I.big);refine wpAny_Dict_walk (knd:=zO X.prog X.w) hall hl h0 h15 (aZ (h pins _ σ _ _ I1 (q _ hn)) λws s2 ⟨ps,H2,I2,rel,e,kvs,ep,lk,nd,q2⟩=>?_);subst ep;obtain⟨rs,c,rk⟩:=vT (P:=X.prog) (w:=X.w) rel;obtain⟨z,hd,vs0,r0,dd⟩:=rT I2.hok e;cases r0;refine⟨rs,c,dd,λh' dd' hs=>?_⟩;have rm:=rk.merge (kvs:=[]) (vs:=[]) .nil;rw[gX nd (ps:=[]) (by simpa using nd)]at rm;obtain⟨o,es,ep,b1,b2,b3,b4,b5,b6⟩:=dd';refine⟨.ref s.heap.objs.size,_,?_,rfl,q2 o ep ⟨hd,es,_,b2,b3,b4,b5,b6,rm⟩⟩;exact t5 I2 (by rw[e];exact True.intro) hs ⟨_,b1⟩ ⟨b1,⟨_,b1⟩,λh1 h2 hx k=>k o hx⟩
end
def lg(K:Qb)(b:Addr)(xs:List V):Prop:=
 ∃(o:Obj) (its:Array Value) (n:Nat),K.lookup b=some o/\o.cls=.type "tuple" /\ o.data=.seq its n/\its.size<=sizeLine/\ay xs its.toList
abbrev fQ:=List (List Nat×Int×Int)
def pO(K:Qb)(w:LG):List LC->fQ->Prop
 |[],q=>q=[]
 |e::es,q=>∃k x y r t b,q=(k,x,y)::r/\e.key=.str ⟨k.toArray⟩ t/\e.hash=LI w ⟨k.toArray⟩/\e.val=.ref b/\lg K b [.int x,.int y]/\pO K w es r
def iE(K:Qb)(w:LG)(a:Addr)(q:fQ):Prop:=
 (a==LL)=false/\∃o es ep,K.lookup a=some o/\o.ExactDict/\o.data=.dict es ep/\pO K w es.toList q
def pN(K:Qb):List (bu×V)->fQ->Prop
 |[],q=>q=[]
 |kv::kvs,q=>∃k x y r b,q=(k,x,y)::r/\kv=(Sum.inr ⟨k.toArray⟩,.ref b)/\lg K b [.int x,.int y]/\pN K kvs r
theorem tD {K:Qb}:∀(es:List LC) (q:fQ),pO K w es q ->
  ∃kvs vs,(∀e∈es,∃k,(zO P w).is k e.key=true/\e.hash=(zO P w).hash k)/\Pairs (zO P w) es vs/\KV kvs vs/\vs.map (·.1)=q.map (λz=>(Sum.inr ⟨z.1.toArray⟩:bu))/\pN K kvs q
 |[],q,h=>by
  cases(show q=[]from h);exact⟨[],[],by simp,.nil,.nil,rfl,rfl⟩
 |e::es,q,h=>by
  obtain⟨k,x,y,r,t,b,rfl,h1,h2,h3,h4,h5⟩:=h;obtain⟨kvs,vs,g1,g2,g3,g4,g5⟩:=tD (P:=P) es r h5;have hk:(zO P w).is (Sum.inr ⟨k.toArray⟩) e.key=true:=by rw[h1];exact gD _ t
  refine⟨(Sum.inr ⟨k.toArray⟩,.ref b)::kvs,(Sum.inr ⟨k.toArray⟩,.ref b)::vs,λe' he=>?_,.cons hk h3 g2,.cons ⟨rfl,rfl⟩ g3,?_,k,x,y,r,b,rfl,rfl,h4,g5⟩
  .rcases Qo.mp he with rfl|he
   .exact ⟨_,hk,h2⟩
   .exact g1 e' he
  .rw[QT,QT,g4]
def BF {K:Qb}(h:iE K w a q)(nd:(q.map (·.1)).Nodup):∃o ep kvs,K.lookup a=some o/\FO P w a o ep kvs/\pN K kvs q:=by
 obtain⟨h0,o,es,ep,h1,h2,h3,h4⟩:=h;obtain⟨kvs,vs,g1,g2,g3,g4,g5⟩:=tD (P:=P) _ _ h4;refine⟨o,ep,kvs,h1,⟨h0,es,vs,h2,h3,λe he=>g1 e (Vb.mpr he),g2,?_,g3⟩,g5⟩;rw[g4];refine List.Pairwise.map _ (λx y hxy=>?_) (List.pairwise_map.mp nd);intro e;injection e with e
 injection e with e
 exact hxy (by simpa using Nm WC e)
section
variable{X:Cx}{pins:List (Addr×Obj)}{σ:St}{H:Hp}{s:Shared}
def BE(X:Cx):R2:=λx y H Q=>∃d o ep kvs k v,x=.ref d/\y=kV k/\FO X.prog X.w d o ep kvs/\X.K.lookup d=some o/\wq kvs k=some v/\Q v H
def oQ:eg X (BE X):=by
 intro value slice pins s σ H x y v u Q I rx ry h hs;obtain⟨d,o,ep,kvs,k,z,rfl,rfl,f,hq,hv,q⟩:=h;cases rx;obtain⟨vs,rel,da⟩:=f.at (I.kIn d o hq);obtain⟨w',hw,rw'⟩:=i6 (v:=z) (o:=M7 vs k) (by rw[<-hv];exact rel.val k);exact MJ (x:=w') da.dictOf.typeIs slot_dict_getitem.lookup
  (M8 (Q:=λr s'=>r=w'/\EP X pins σ Q r s') (iM ry) da.dictOf.mapOf hw ⟨rfl,z,H,I.tok _,rw',q⟩) hs
end
end L2
namespace Mini
open PySem PySem.Spec PyProof.Rows L2
set_option genInjectivity false in
structure Ctx where
 fns:List Str
 cons:List (Str×Int)
 dcs:List (Str×fQ)
set_option genInjectivity false in
inductive Nd where
 |e (x:Expr)|a (xs:List Expr)
def cA(sc:LA)(x:Str):Bool:=decide (sc.names.lookup x=some .globalImplicit)
def gB(sc:LA)(x:Str):Bool:=decide (sc.names.lookup x=some .local) || (decide (sc.names.lookup x=some .cell) || decide (sc.names.lookup x=some .free))
def zP(x:Str):Bool:=!(x==("__debug__":Str)) && !(x==("__classdict__":Str)) && !(x==("__name__":Str))
def zG:Expr->Bool
 |.Starred _ _=>false
 |_=>true
def yK:Expr->Bool
 |.Set _ _ _=>false
 |_=>true
def yS:Expr->Bool
 |.Slice _ _ _ _=>false
 |_=>true
def kh:Expr->Bool
 |.Call _ _ _ _=>false
 |_=>true
def zo:Ex->Bool
 |.rng _ _ _=>true
 |_=>false
def vU:Ex->Bool
 |.ife _ _ _=>true
 |_=>false
def yo(scope sc:LA):LA:=
 {scope with names:=scope.names.map λ(n,k)=>if(k == .free&&sc.kind == .function&&sc.names.lookup n==some .cell)then(n,.cell)else(n,k)}
def wv(sc:LA)(N:List Str)(scope:LA)(xs:List Str):Bool:=
 decide (scope.kind=.function)&&(xs.all (λx=>decide (scope.names.lookup x=some .local) || decide (scope.names.lookup x=some .cell)) &&
 (scope.names.all (λy=>!(decide (y.2=.local)) || decide (scope.names.lookup y.1=some .local)) &&
 (scope.names.all (λy=>!(decide (y.2=.free)) || (decide (sc.names.lookup y.1=some .cell) || decide (sc.names.lookup y.1=some .free))) &&
 (scope.names.all (λy=>!(decide (y.2=.cell)) || !(decide (scope.names.lookup y.1=some .free))) &&
 (N.all (λy=>decide (y∈xs) || (!(decide (scope.names.lookup y=some .local)) && !(decide (scope.names.lookup y=some .cell)))) &&
 (decide (yH N xs).Nodup&&xs.all (λx=>decide (scope.names.lookup (lS x)=none))))))))
def yE (h:wv X.env.scope X.N scope xs=true):bP X scope xs:=by
 unfold wv at h;simp only[Qr,Wx,Np,Q6,Wn,decide_eq_false_iff_not]at h;obtain⟨h1,h2,h3,h4,h5,h6,h7,h8⟩:=h;refine⟨h1,h2,λy hy e=>?_,λy hy e=>?_,λy hy e=>?_,λy hy e=>?_,h7,h8⟩
 .rcases h3 y hy with z|z
  .exact Nl e z
  .exact z
 .rcases h4 y hy with z|z
  .exact Nl e z
  .exact z
 .rcases h6 y hy with z|z
  .exact Nl z e
  .exact z
 .rcases h5 y hy with z|z
  .exact Nl e z
  .exact z
def kP(K:Qb)(g:List Wd->Me->Rz):Sp:=λvs H Q _=>∃as m ws,aQ K as m H/\ae K as H ws vs/\am K as H Q (g ws m)
def zy:List Str:=["len","int","bool","list","tuple","abs","max","min","isinstance","range","str","dict","sum","all","zip","enumerate","sorted"]
def jN(K:Qb)(w:LG)(mg:Str->Option Value)(C:Ctx):Prop:=(∀(nm:Str) (i:Int),C.cons.lookup nm=some i->∃t,mg nm=some (.int i t))/\∀(nm:Str) (q:fQ),C.dcs.lookup nm=some q->∃a,mg nm=some (.ref a)/\iE K w a q
structure bv(C:Ctx)(X:Cx)(cl:Nat->List Wd->Me->Rz)(d:Nat):Prop where
 room:cc d X.A
 calm:X.calm=true
 fn:∀(k:Nat) (nm:Str),C.fns[k]?=some nm->∃f fd ps,X.mg nm=some (.ref f)/\Q7 X.K (.ref f)=true/\Binds X.K fd ps []/\cf X.prog X.w X.K X.mg X.base dI d f fd ps (kP X.K (cl k))
 con:jN X.K X.w X.mg C
 blt:∀nm∈zy,X.mg nm=none
def bv.comp{C:Ctx}{X Xc:Cx}{cl:Nat->List Wd->Me->Rz}{d:Nat}{scope:LA}{x:List Str}(h:bv C X cl d)(c:bz X scope x Xc):bv C Xc cl d:=by
 refine⟨by rw[c.A];exact h.room,c.calm,λk nm e=>?_,?_,λnm e=>?_⟩
 .obtain ⟨f,fd,ps,h1,h2,h3,h4⟩:=h.fn k nm e;exact⟨f,fd,ps,by rw[c.mg];exact h1,by rw[c.K];exact h2,by rw[c.K];exact h3,by rw[c.prog,c.w,c.K,c.mg,c.base];exact h4⟩
 .rw[c.mg,c.K,c.w];exact h.con
 .rw[c.mg];exact h.blt nm e
def b8(K:Qb)(as:List Addr)(H:Hp)(Q:List V->Hp->Prop)(r:Rz):Prop:=match r with
 |.ok w m'=>∀as' H' vs,Step as H as' H'->aQ K as' m' H'->ae K as' H' (zn w) vs->Q vs H'
 |_=>False
def kj(K:Qb)(g:En->Me->Rz):TA:=λσ H Q=>∃as env m,aQ K as m H/\aF K as H env σ/\b8 K as H Q (g env m)
theorem b8.bind{K:Qb}{as:List Addr}{H:Hp}{Q:VK}{Q1:List V->Hp->Prop}{r:Rz}{f:Wd->Me->Rz}(h:am K as H Q (r.bind f))
  (k:∀w m' as' H' vs,Step as H as' H'->aQ K as' m' H'->ae K as' H' (zn w) vs->am K as' H' Q (f w m')->Q1 vs H'):b8 K as H Q1 r:=by
 cases r with
 |ok w m'=>exact λas2 H2 v U S R=>k w m' as2 H2 v U S R (am.step (r:=f w m') h U)
 |exc c w m'=>exact h
 |no=>exact h
def bX(cl:Nat->List Wd->Me->Rz)(X:Cx)(e:Ex):Nd->Prop
 |.e x=>(zo e=false->PE X x (aM X.K (af cl e))/\(vU e=false->PT X x (xY X.K (af cl e)))/\(∀op vs pos,x=.BoolOp op vs pos->PW X x (xY X.K (af cl e))))/\∀tg,PI X tg x (ij X.K (af cl e))
 |.a xs=>PA X xs (kj X.K (af cl e))
def bX.of{cl:Nat->List Wd->Me->Rz}{X:Cx}{e:Ex}{x:Expr}(h:PE X x (aM X.K (af cl e)))(ht:∀whole,isTrue x X.env whole=(do let v <-whole;standAt x.pos;holding [v] (truthy v)):=by intro _;rfl)
  (hb:∀op vs pos,x≠.BoolOp op vs pos:=by intros;intro z;cases z):bX cl X e (.e x):=
 ⟨λ_=>⟨h,λ_=>tM h ht,λop vs pos z=>Nl z (hb op vs pos)⟩,λtg=>kf h⟩
def zp (h:zG e=true):LY (e::es) env=(false,eval e env)::LY es env:=by
 cases e<;>first|rfl|cases h
theorem yq:∀{es:List Expr},es.all zG=true->(LX pos (LY es env)).any (·.1)=false
 |[],_=>rfl
 |e::es,h=>by
  rw[Wo,Qr]at h;rw[zp h.1];show(false || (LX pos (LY es env)).any (·.1))=false;rw[yq h.2];rfl
section
variable{cl:Nat->List Wd->Me->Rz}{X:Cx}{a b c:Ex}{x y:Expr}{pos:Pos}
def CL (ha:PE X x (aM X.K (af cl a)))(hb:PE X y (aM X.K (af cl b))):PE X (.BinOp x (ig op) y pos) (aM X.K (af cl (.bin op a b))):=by
 refine PE.imp (Ck (BI op) ha hb) λσ H Q h=>?_;obtain⟨as,env,m,S,G,P⟩:=h;refine⟨as,env,m,S,G,am.bind P λx m1 as1 H1 v T1 S1 R1 P1=>?_⟩;refine⟨as1,env,m1,S1,G.mono S T1,am.bind P1 λy m2 as2 H2 u T2 S2 R2 P2=>?_⟩;exact CV S2 (R1.mono S1 T2) R2 P2
def CK(ha:PE X x (aM X.K (af cl a))):PE X (.UnaryOp .USub x pos) (aM X.K (af cl (.neg a))):=by
 refine PE.imp (CJ C9 ha) λσ H Q h=>?_;obtain⟨as,env,m,S,G,P⟩:=h;refine⟨as,env,m,S,G,am.bind P λx m1 as1 H1 v T1 S1 R1 P1=>?_⟩;cases x with
 |int i=>
  obtain rfl:=aa.mp R1;exact⟨i,rfl,P1.ok S1 (aa.mpr rfl)⟩
 |_=>exact P1.elim
def tz(ha:PE X x (aM X.K (af cl a))):PE X (.UnaryOp .Not x pos) (aM X.K (af cl (.not a))):=by
 refine PE.imp (DW ha) λσ H Q h=>?_;obtain⟨as,env,m,S,G,P⟩:=h;refine⟨as,env,m,S,G,am.bind P λx m1 as1 H1 v T1 S1 R1 P1=>?_⟩;cases x with
 |bl k=>
  obtain rfl:=ah.mp R1;exact⟨k,rfl,P1.ok S1 (ah.mpr rfl)⟩
 |_=>exact P1.elim
def Dz(ha:PT X x (xY X.K (af cl a))):PT X (.UnaryOp .Not x pos) (xY X.K (af cl (.not a))):=by
 refine PT.imp (DX ha) λσ H Q h=>?_;obtain⟨as,env,m,S,G,P⟩:=h;refine⟨as,env,m,S,G,am.bind P λx m1 as1 H1 v T1 S1 R1 P1=>?_⟩;cases x with
 |bl k=>
  obtain rfl:=ah.mp R1;obtain⟨b,e,q⟩:=P1.ok S1 (ah.mpr rfl);cases e;exact⟨k,rfl,q⟩
 |_=>exact P1.elim
def Ah {K:Qb}(h:aM K (af cl (.and a b)) σ H Q):aM K (af cl a) σ H λx H1=>∃k,x=.bl k/\if k=true then aM K (af cl b) σ H1 Q else Q (.bl false) H1:=by
 obtain⟨as,env,m,S,G,P⟩:=h;refine⟨as,env,m,S,G,am.bind P λx m1 as1 H1 v T1 S1 R1 P1=>?_⟩;cases x with
 |bl k=>
  obtain rfl:=ah.mp R1;refine⟨k,rfl,?_⟩;cases k with
  |true=>exact qo ⟨as1,env,m1,S1,G.mono S T1,P1⟩
  |false=>exact fg (P1.ok S1 (ah.mpr rfl))
 |_=>exact P1.elim
def tY {K:Qb}(h:aM K (af cl (.or a b)) σ H Q):aM K (af cl a) σ H λx H1=>∃k,x=.bl k/\if k=true then Q (.bl true) H1 else aM K (af cl b) σ H1 Q:=by
 obtain⟨as,env,m,S,G,P⟩:=h;refine⟨as,env,m,S,G,am.bind P λx m1 as1 H1 v T1 S1 R1 P1=>?_⟩;cases x with
 |bl k=>
  obtain rfl:=ah.mp R1;refine⟨k,rfl,?_⟩;cases k with
  |false=>exact fg ⟨as1,env,m1,S1,G.mono S T1,P1⟩
  |true=>exact qo (P1.ok S1 (ah.mpr rfl))
 |_=>exact P1.elim
def Ag {K:Qb}(h:aM K g σ H Q)(k:∀v H,Q v H->Q' v H):aM K g σ H Q':=by
 obtain⟨as,env,m,S,G,P⟩:=h;refine⟨as,env,m,S,G,?_⟩;cases hr:g env m with
 |ok w m'=>rw[hr]at P;exact λas' H' v T S' R=>k _ _ (P as' H' v T S' R)
 |exc c w m'=>rw[hr]at P;exact P
 |no=>rw[hr]at P;exact P
def tx (ha:PE X x (aM X.K (af cl a)))(hb:PE X (.BoolOp .And (y::r) pos) (aM X.K (af cl b))):PE X (.BoolOp .And (x::y::r) pos) (aM X.K (af cl (.and a b))):=
 PE.imp (tL ha hb) λσ H Q h=>Ah h
def sB (ha:PE X x (aM X.K (af cl a)))(hb:PE X (.BoolOp .Or (y::r) pos) (aM X.K (af cl b))):PE X (.BoolOp .Or (x::y::r) pos) (aM X.K (af cl (.or a b))):=
 PE.imp (Cr ha hb) λσ H Q h=>tY h
def PW.imp{e:Expr}{t t':TT}(h:PW X e t)(k:∀σ H Q,t' σ H Q->t σ H Q):PW X e t':=λwhole pins s σ H Q I q=>h whole pins s σ H Q I (k σ H Q q)
def tw (ha:PT X x (xY X.K (af cl a)))(hb:PW X (.BoolOp .And (y::r) pos) (xY X.K (af cl b))):PW X (.BoolOp .And (x::y::r) pos) (xY X.K (af cl (.and a b))):=
 PW.imp (DY ha hb) λσ H Q h=>by
  refine Ag (Ah h) λv H1 q=>?_;obtain⟨k,e,q⟩:=q;refine⟨k,e,?_⟩;cases k with
  |true=>rw[Nj rfl]at q ⊢;exact q
  |false=>
   rw[Nk QQ]at q ⊢;obtain⟨b',e',q⟩:=q;cases e';exact q
def sA (ha:PT X x (xY X.K (af cl a)))(hb:PW X (.BoolOp .Or (y::r) pos) (xY X.K (af cl b))):PW X (.BoolOp .Or (x::y::r) pos) (xY X.K (af cl (.or a b))):=
 PW.imp (Cu ha hb) λσ H Q h=>by
  refine Ag (tY h) λv H1 q=>?_;obtain⟨k,e,q⟩:=q;refine⟨k,e,?_⟩;cases k with
  |false=>rw[Nk QQ]at q ⊢;exact q
  |true=>
   rw[Nj rfl]at q ⊢;obtain⟨b',e',q⟩:=q;cases e';exact q
def lp (h:yK e=true):Mq op e=false:=by
 cases e<;>first|rfl|cases h
def Af {K:Qb}(h:aM K (af cl (.cmp op a b)) σ H Q):eL (rC K op) (aM K (af cl a)) (aM K (af cl b)) σ H Q:=by
 obtain⟨as,env,m,S,G,P⟩:=h;refine⟨as,env,m,S,G,am.bind P λx m1 as1 H1 v T1 S1 R1 P1=>?_⟩;refine⟨as1,env,m1,S1,G.mono S T1,am.bind P1 λy m2 as2 H2 u T2 S2 R2 P2=>?_⟩;exact⟨as2,m2,x,y,S2,R1.mono S1 T2,R2,P2⟩
def tu (hu:X.A.units+64<Ms)(ha:PE X x (aM X.K (af cl a)))(hb:PE X y (aM X.K (af cl b)))(hs:yK y=true):PE X (.Compare x [cK op] [y] pos) (aM X.K (af cl (.cmp op a b))):=
 PE.imp (FW (jK hu op) ha hb (lp hs)) λσ H Q h=>Af h
def Dy (hu:X.A.units+64<Ms)(ha:PE X x (aM X.K (af cl a)))(hb:PE X y (aM X.K (af cl b)))(hs:yK y=true):PT X (.Compare x [cK op] [y] pos) (xY X.K (af cl (.cmp op a b))):=
 PT.imp (uN (jK hu op) ha hb (lp hs)) λσ H Q h=>Af h
end
section
variable{cl:Nat->List Wd->Me->Rz}{X:Cx}{a b c:Ex}{x y z:Expr}{pos:Pos}
def jO {K:Qb}(h:aM K (af cl (.chain p q a b c)) σ H Q):nq (rC K p) (rC K q) (aM K (af cl a)) (aM K (af cl b)) (aM K (af cl c)) σ H Q:=by
 obtain⟨as,env,m,S,G,P⟩:=h;refine⟨as,env,m,S,G,am.bind P λx m1 as1 H1 v T1 S1 R1 P1=>?_⟩;refine⟨as1,env,m1,S1,G.mono S T1,am.bind P1 λy m2 as2 H2 u T2 S2 R2 P2=>?_⟩;refine⟨as2,m2,x,y,S2,R1.mono S1 T2,R2,am.bind P2 λz m3 as3 H3 w T3 S3 R3 P3=>?_⟩;cases z with
 |bl k=>
  obtain rfl:=ah.mp R3;refine⟨k,rfl,?_⟩;cases k with
  |false=>exact fg (P3.ok S3 (ah.mpr rfl))
  |true=>
   refine qo ⟨as3,env,m3,S3,((G.mono S T1).mono S1 T2).mono S2 T3,am.bind P3 λt m4 as4 H4 r T4 S4 R4 P4=>?_⟩;exact⟨as4,m4,y,t,S4,(R2.mono S2 T3).mono S3 T4,R4,P4⟩
 |_=>exact P3.elim
def tq (h:yK z=true):lastMarks [o,o'] [y,z]=false:=by
 show Mq o' z=false;exact lp h
def Ae (hu:X.A.units+64<Ms)(ha:PE X x (aM X.K (af cl a)))(hb:PE X y (aM X.K (af cl b)))(hc:PE X z (aM X.K (af cl c)))(hs:yK z=true):
  PE X (.Compare x [cK p,cK q] [y,z] pos) (aM X.K (af cl (.chain p q a b c))):=
 PE.imp (Hc (jK hu p) (jK hu q) ha hb hc (tq hs)) λσ H Q h=>jO h
def Hj (hu:X.A.units+64<Ms)(ha:PE X x (aM X.K (af cl a)))(hb:PE X y (aM X.K (af cl b)))(hc:PE X z (aM X.K (af cl c)))(hs:yK z=true):
  PT X (.Compare x [cK p,cK q] [y,z] pos) (xY X.K (af cl (.chain p q a b c))):=
 PT.imp (Hb (jK hu p) (jK hu q) ha hb hc (tq hs)) λσ H Q h=>jO h
def Hi {K:Qb}(h:aM K (af cl (.ife c a b)) σ H Q):At (xY K (af cl c)) (aM K (af cl a)) (aM K (af cl b)) σ H Q:=by
 obtain⟨as,env,m,S,G,P⟩:=h;refine⟨as,env,m,S,G,am.bind P λx m1 as1 H1 v T1 S1 R1 P1=>?_⟩;cases x with
 |bl k=>
  obtain rfl:=ah.mp R1;refine⟨k,rfl,?_⟩;cases k with
  |true=>exact qo ⟨as1,env,m1,S1,G.mono S T1,P1⟩
  |false=>exact fg ⟨as1,env,m1,S1,G.mono S T1,P1⟩
 |_=>exact P1.elim
def Dx(hc:PT X z (xY X.K (af cl c)))(ha:PE X x (aM X.K (af cl a)))(hb:PE X y (aM X.K (af cl b))):PE X (.IfExp z x y pos) (aM X.K (af cl (.ife c a b))):=
 PE.imp (ID hc ha hb) λσ H Q h=>Hi h
def FF:PA X [] (kj X.K (af cl .unit)):=PA.imp xf λσ H Q h=>by
 obtain⟨as,env,m,S,G,P⟩:=h;exact P as H [] .refl S (aw.mpr rfl)
def Gc (ha:PE X x (aM X.K (af cl a)))(hb:PA X xs (kj X.K (af cl b)))(hs:zG x=true):PA X (x::xs) (kj X.K (af cl (.pair a b))):=by
 refine PA.imp (zS ha hb (zp hs)) λσ H Q h=>?_;obtain⟨as,env,m,S,G,P⟩:=h;refine⟨as,env,m,S,G,?_⟩;have P':b8 X.K as H Q ((af cl a env m).bind λx m1=>(af cl b env m1).bind λy m2=>.ok (.tup (x::zn y)) m2):=P;cases hr:af cl a env m with
 |no=>rw[hr]at P';exact P'
 |exc c w m'=>rw[hr]at P';exact P'
 |ok w m1=>
  rw[hr]at P';intro as1 H1 v T1 S1 R1;refine⟨as1,env,m1,S1,G.mono S T1,?_⟩;simp only[Rz.bind]at P';cases hr2:af cl b env m1 with
  |no=>rw[hr2]at P';exact P'
  |exc c w' m'=>rw[hr2]at P';exact P'
  |ok w' m2=>
   rw[hr2]at P';intro as2 H2 vs T2 S2 R2;exact P' as2 H2 (v::vs) (T1.trans T2) S2 (ao.mpr ⟨v,vs,rfl,R1.mono S1 T2,R2⟩)
def Gb (hC:bv C X cl d)(hk:C.fns[k]?=some nm)(hg:X.env.scope.names.lookup nm=some .globalImplicit)(hn:zP nm=true)(hs:(x::xs).all zG=true)(ha:PA X (x::xs) (kj X.K (af cl a))):PE X (.Call (.Name nm p) (x::xs) [] pos) (aM X.K (af cl (.call k a))):=by
 obtain⟨f,fd,ps,h1,h2,h3,h4⟩:=hC.fn k nm hk;have hs':=hs;rw[Wo,Qr]at hs';have hdb:(nm==("__debug__":Str))=false:=by
  unfold zP at hn;simp only[Qr,Wn]at hn;exact hn.1.1
 refine PE.imp (FU h4 hC.room hg h1 h2 h3 .nil (BL (X:=X)) ha hdb (zp hs'.1) (yq hs'.2)) λσ H Q h=>?_;obtain⟨as,env,m,S,G,P⟩:=h;refine⟨as,env,m,S,G,b8.bind P λw m1 as1 H1 vs T1 S1 R1 P1=>?_⟩;refine⟨as1,m1,zn w,S1,?_,P1⟩;rw[QZ];exact R1
def yN (hn:zP nm=true):(nm==("__debug__":Str))=false/\(nm==("__classdict__":Str))=false/\nm ≠ "__name__":=by
 unfold zP at hn;simp only[Qr,Wn]at hn;exact⟨hn.1.1,hn.1.2,by simpa using hn.2⟩
def Dw (hC:bv C X cl d)(hb:mS bf=some (nm,f))(hg:X.env.scope.names.lookup nm=some .globalImplicit)(hn:zP nm=true)(hs:(x::xs).all zG=true)(ha:PA X (x::xs) (kj X.K (af cl a))):PE X (.Call (.Name nm p) (x::xs) [] pos) (aM X.K (af cl (.blt bf a))):=by
 obtain⟨n1,n2,n3⟩:=yN hn;have hs':=hs;rw[Wo,Qr]at hs';have hc:=Ho hC.room.units hC.calm hb;have go:PE X (.Call (.Name nm p) (x::xs) [] pos) (oq (Aw X.K bf) (kj X.K (af cl a))):=by
  cases bf with
  |len=>cases hb;exact yQ hc hg (hC.blt _ (by simp[zy])) PySem.boot_len ha n3 n1 (zp hs'.1) (yq hs'.2)
  |int=>cases hb;exact gL hc hg (hC.blt _ (by simp[zy])) PyProof.Rows.boot_int ha n3 n1 (zp hs'.1) (yq hs'.2)
  |list=>cases hb;exact gL hc hg (hC.blt _ (by simp[zy])) PyProof.Rows.boot_list ha n3 n1 (zp hs'.1) (yq hs'.2)
  |max2=>cases hb;exact yQ hc hg (hC.blt _ (by simp[zy])) PyProof.Rows.boot_max ha n3 n1 (zp hs'.1) (yq hs'.2)
  |all=>cases hb;exact yQ hc hg (hC.blt _ (by simp[zy])) PyProof.Rows.boot_all ha n3 n1 (zp hs'.1) (yq hs'.2)
  |min2=>cases hb;exact yQ hc hg (hC.blt _ (by simp[zy])) PyProof.Rows.boot_min ha n3 n1 (zp hs'.1) (yq hs'.2)
  |sortI=>cases hb;exact yQ hc hg (hC.blt _ (by simp[zy])) PyProof.Rows.boot_sorted ha n3 n1 (zp hs'.1) (yq hs'.2)
 refine PE.imp go λσ H Q h=>?_;obtain⟨as,env,m,S,G,P⟩:=h;refine⟨as,env,m,S,G,b8.bind P λw m1 as1 H1 vs T1 S1 R1 P1=>?_⟩;exact⟨as1,m1,zn w,S1,R1,P1⟩
def tX(t:Tg):LP (Str.ofString (bT t))=some (.type (bT t)):=by
 cases t<;>decide +kernel
def Dv (hC:bv C X cl d)(hg:X.env.scope.names.lookup ("isinstance":Str)=some .globalImplicit)(hg':X.env.scope.names.lookup (Str.ofString (bT t))=some .globalImplicit)(hs:zG x=true)(ha:PE X x (aM X.K (af cl a))):PE X (.Call (.Name "isinstance" p) [x,.Name (Str.ofString (bT t)) p'] [] pos) (aM X.K (af cl (.isi t a))):=by
 have hm:X.mg (Str.ofString (bT t))=none:=hC.blt _ (by cases t<;>decide +kernel);have hty:PE X (.Name (Str.ofString (bT t)) p') (tC (.ty (bT t))):=qe hg' hm (tX t) rfl (by cases t<;>decide +kernel) (by cases t<;>decide +kernel);refine PE.imp (yQ (Hn t) hg (hC.blt _ (by simp[zy])) PyProof.Rows.boot_isinstance (zS ha (zS hty xf) (zp hs)) (by decide +kernel) (by decide +kernel) (zp hs) rfl) λσ H Q h=>?_;obtain⟨as,env,m,S,G,P⟩:=h;refine⟨as,env,m,S,G,am.bind P λw m1 as1 H1 v T1 S1 R1 P1=>?_⟩;exact⟨as1,m1,w,v,rfl,S1,R1,P1⟩
def Du (ha:PA X xs (kj X.K (af cl a))):PE X (.List xs pos) (aM X.K (af cl (.lst a))):=by
 refine PE.imp (C7 ha) λσ H Q h=>?_;obtain⟨as,env,m,S,G,P⟩:=h;refine⟨as,env,m,S,G,b8.bind P λw m1 as1 H1 vs T1 S1 R1 P1=>?_⟩;obtain⟨h1,h2⟩:=x9 S1 R1 P1;exact⟨Qu h1 xh,h2⟩
def Dt (ha:PA X xs (kj X.K (af cl a))):PE X (.Tuple xs k pos) (aM X.K (af cl (.tup a))):=by
 refine PE.imp (nn ha) λσ H Q h=>?_;obtain⟨as,env,m,S,G,P⟩:=h;refine⟨as,env,m,S,G,b8.bind P λw m1 as1 H1 vs T1 S1 R1 P1=>?_⟩;split at P1
 .rename_i hl;refine⟨by rw[<-R1.length];exact Qu hl xh,λp hp=>?_⟩;obtain⟨T,S',R'⟩:=S1.tup hp R1;exact P1 _ _ _ T S' R'
 .exact P1.elim
def Ds(ha:PE X x (aM X.K (af cl a)))(hb:PE X y (aM X.K (af cl b)))(hs:yS y=true):PE X (.Subscript x y pos) (aM X.K (af cl (.idx a b))):=by
 have hp:qj y:=λo i=>by cases y<;>first|rfl|cases hs
 refine PE.imp (lu C4 ha hb hp) λσ H Q h=>?_;obtain⟨as,env,m,S,G,P⟩:=h;refine⟨as,env,m,S,G,am.bind P λx m1 as1 H1 v T1 S1 R1 P1=>?_⟩;refine⟨as1,env,m1,S1,G.mono S T1,am.bind P1 λy m2 as2 H2 u T2 S2 R2 P2=>?_⟩;exact CQ S2 (R1.mono S1 T2) R2 P2
end
section
variable{cl:Nat->List Wd->Me->Rz}{X:Cx}{a b c:Ex}{x y z:Expr}{pos:Pos}
def BD {K:Qb}{lo:Option Int}(S:aQ K as m H)(R:aj K as H w v)(h:am K as H Q (hU w lo hi m)):rH K v lo hi H Q:=by
 have hs:∀(n d:Nat) (o:Option Int),cj n d o=HT.cj n d o:=λn d o=>by cases o<;>rfl
 unfold hU at h;split at h
 .rename_i xs hx;have hsq:xT m w=some xs:=by
   cases w with
   |rol ys=>exact hx
   |ref l=>exact hx
   |_=>cases hx
  have key:∃p vs,v=.ref p/\bj K H p vs/\ae K as H xs vs:=by
   cases w with
   |rol ys=>
    cases hx;obtain⟨p,vs,rfl,q,r⟩:=ba.mp R;exact⟨p,vs,rfl,q.sq,r⟩
   |ref l=>
    obtain⟨p,hp,rfl⟩:=aE.mp R;obtain⟨p',vs,hp',e,r⟩:=zZ S (zK hx);rw[hp]at hp';cases hp';exact⟨p,vs,rfl,bj.of e,r⟩
   |_=>cases hx
  obtain⟨p,vs,rfl,q,r⟩:=key;refine⟨p,vs,rfl,q,?_⟩;have e:(vs.drop (cj xs.length 0 lo)).take (cj xs.length xs.length hi-cj xs.length 0 lo)=fV vs lo hi:=by
   unfold fV;rw[r.length,hs,hs]
  rw[<-e];exact(x9 S ((r.drop _).take _) h).2
 .exact h.elim
def Dr (ha:PE X x (aM X.K (af cl a)))(hb:PE X y (aM X.K (af cl b)))(hc:PE X z (aM X.K (af cl c))):PE X (.Subscript x (.Slice (some y) (some z) none p2) pos) (aM X.K (af cl (.slB a b c))):=by
 refine PE.imp (Ha FS ha (uM hb) (uM hc)) λσ H Q h=>?_;obtain⟨as,env,m,S,G,P⟩:=h;refine⟨as,env,m,S,G,am.bind P λx m1 as1 H1 v T1 S1 R1 P1=>?_⟩;refine⟨as1,env,m1,S1,G.mono S T1,am.bind P1 λy m2 as2 H2 u T2 S2 R2 P2=>?_⟩;cases y with
 |int i=>
  refine⟨i,aa.mp R2,as2,env,m2,S2,(G.mono S T1).mono S1 T2,am.bind P2 λz m3 as3 H3 t T3 S3 R3 P3=>?_⟩;cases z with
  |int j=>exact⟨j,aa.mp R3,BD S3 ((R1.mono S1 T2).mono S2 T3) P3⟩
  |_=>exact P3.elim
 |_=>exact P2.elim
def cy (h:kh e=true):ML e f env (eval e env)=eval e env:=by
 cases e<;>first|rfl|cases h
def Dq (h:ys.all zG=true)(hl:ys.length<29):
  ((LX cp (LY ys env)).all (λx=>! x.1)&&(backToKw cp (MM [] env)).all (λx=>x.1.isSome)
   && decide (ys.length+([]:List MN).length+(if([]:List MN).isEmpty then 0 else 1)<30))=true:=by
 have all:∀{es:List Expr},es.all zG=true->(LX cp (LY es env)).all (λx=>! x.1)=true:=by
  intro es
  induction es with
  |nil=>intro _;rfl
  |cons e es ih=>
   intro h;rw[Wo,Qr]at h;rw[zp h.1];show(true&&(LX cp (LY es env)).all (λx=>! x.1))=true;rw[ih h.2];rfl
 rw[all h];have e2:(backToKw cp (MM [] env)).all (λx=>x.1.isSome)=true:=rfl;rw[e2];have e3:decide (ys.length+([]:List MN).length+(if([]:List MN).isEmpty then 0 else 1)<30)=true:=by
  apply Nn;show ys.length+0+0<30;lia
 rw[e3];rfl
def Ad(k:ef):Slot "list" (fh k).1 (fh k).2/\typeOf (.builtin (fh k).2)=pure (.type "method_descriptor"):=by
 cases k with
 |append=>exact⟨PySem.F.slot_list_append,PySem.F.type_list_append⟩
 |pop=>exact⟨PySem.F.slot_list_pop,PySem.F.type_list_pop⟩
 |reverse=>exact⟨PySem.F.slot_list_reverse,PySem.F.type_list_reverse⟩
 |clear=>exact⟨PySem.F.slot_list_clear,PySem.F.type_list_clear⟩
def tW{K:Qb}{as:List Addr}{H:Hp}{Q:VK}{b:Bool}{r:Rz}(h:am K as H Q (match b with|true=>r|false=>.no)):b=true/\am K as H Q r:=by
 cases b with
 |true=>exact⟨rfl,h⟩
 |false=>exact h.elim
def tm (h:xr w m=true):∃l,w=.ref l/\(zA m l).isSome=true:=by
 cases w with
 |ref l=>
  refine⟨l,rfl,?_⟩;unfold xr aT at h;unfold zA;cases e:m[l]? with
  |none=>simp[e]at h
  |some o=>
   cases o with
   |lst xs=>rfl
   |dct ks us=>simp[e]at h
 |_=>cases h
def tj {K:Qb}(S:aQ K as m H)(R:aj K as H w v)(hw:∃l,w=.ref l/\(zA m l).isSome=true):lI K "list" v H:=by
 obtain⟨l,rfl,hs⟩:=hw;obtain⟨p,hp,rfl⟩:=aE.mp R;obtain⟨xs,hs⟩:=Q8.mp hs;obtain⟨p',us,hp',e,_⟩:=zZ S (zK hs);rw[hp]at hp';cases hp';exact .inl ⟨rfl,us,bj.of e⟩
def Hg (ho:PE X x (aM X.K (af cl a)))(hx:kh x=true)(hl:(ap.endLine==pos.line)=true):
  PE X (.Call (.Attribute x (fh k).1 ap) [] [] pos) (aM X.K (af cl (.meth k a .unit))):=by
 obtain⟨f1,f2⟩:=Ad k;refine PE.imp (C3 PySem.F.plainAttrs_list f1 f2 (tF k) ho (cy hx) hl) λσ H Q h=>?_;obtain⟨as,env,m,S,G,P⟩:=h;refine⟨as,env,m,S,G,am.bind P λw m1 as1 H1 v T1 S1 R1 P1=>?_⟩;obtain⟨hl',P1⟩:=tW P1;have P2:am X.K as1 H1 Q (dr k w [] m1):=P1;exact⟨tj S1 R1 (tm hl'),as1,m1,w,[],S1,R1,aw.mpr rfl,P2⟩
def Ga (ho:PE X x (aM X.K (af cl a)))(ha:PA X (y::ys) (kj X.K (af cl b)))(hx:kh x=true)(hl:(ap.endLine==pos.line)=true)(hn:(y::ys).length<29)(hs:(y::ys).all zG=true):
  PE X (.Call (.Attribute x (fh k).1 ap) (y::ys) [] pos) (aM X.K (af cl (.meth k a b))):=by
 obtain⟨f1,f2⟩:=Ad k;have hs':=hs;rw[Wo,Qr]at hs';refine PE.imp (BM PySem.F.plainAttrs_list f1 f2 (tF k) ho ha (cy hx) (Dq hs hn) hl (zp hs'.1) (yq hs'.2)) λσ H Q h=>?_;obtain⟨as,env,m,S,G,P⟩:=h;refine⟨as,env,m,S,G,am.bind P λw m1 as1 H1 v T1 S1 R1 P1=>?_⟩;obtain⟨hl',P1⟩:=tW P1;refine⟨tj S1 R1 (tm hl'),?_⟩;refine⟨as1,env,m1,S1,G.mono S T1,b8.bind P1 λw2 m2 as2 H2 vs T2 S2 R2 P2=>?_⟩;exact⟨as2,m2,w,zn w2,S2,R1.mono S1 T2,R2,P2⟩
def Hf {K:Qb}(S:aQ K as m H)(h:cq K as H R (iB (.int i) (.int j) (.int 1) m)):(-(2^62)<=i/\i<2^62/\-(2^62)<=j/\j<2^62)/\R (i5 i (j-i).toNat) H:=by
 have h':cq K as H R (if -av<=i/\i<=av/\-av<=j/\j<=av/\((1:Int)=1\/(1:Int)=-1)then .ok (.tup (fw i 1 (eZ i j 1))) m else .no):=h;by_cases hc:-(av:Int)<=i/\i<=av/\-(av:Int)<=j/\j<=av/\((1:Int)=1\/(1:Int)=-1)
 .rw[Nj hc]at h';have hlim:(av:Int)=100000:=rfl;refine⟨by lia,h'.2 as H _ .refl S ?_⟩;have e:eZ i j 1=(j-i).toNat:=Nj rfl;rw[e];exact⟨_,λ_=>True,HH i (j-i).toNat (K:=K),trivial,jL 1 (j-i).toNat i,λ_ _ _ _=>trivial⟩
 .rw[Nk hc]at h';exact h'.elim
theorem cq.bind {K:Qb}(h:cq K as H R (r.bind f))(k:∀w m' as' H' v,Step as H as' H'->aQ K as' m' H'->aj K as' H' w v->cq K as' H' R (f w m')->Q1 v H'):am K as H Q1 r:=by
 cases r with
 |ok w m'=>
  intro as2 H2 v U S Rr;refine k w m' as2 H2 v U S Rr ?_;have h':cq K as H R (f w m'):=h;cases hr:f w m' with
  |ok w2 m2=>rw[hr]at h';exact⟨h'.1,λas3 H3 J U3 S3 q=>h'.2 as3 H3 J (U.trans U3) S3 q⟩
  |exc c w2 m2=>rw[hr]at h';exact h'
  |no=>rw[hr]at h';exact h'
 |exc c w m'=>exact h
 |no=>exact h
def F9 (hC:bv C X cl d)(hg:X.env.scope.names.lookup ("range":Str)=some .globalImplicit)(hs:zG x=true)(hb:PE X x (aM X.K (af cl b))):
  PI X tg (.Call (.Name "range" p) [x] [] pos) (ij X.K (af cl (.rng (.lit (.int 0)) b (.lit (.int 1))))):=by
 refine PI.imp (IJ hg (hC.blt _ (by simp[zy])) (zS hb xf (zp hs)) (zp hs)) λσ H R h=>?_;obtain⟨as,env,m,S,G,P⟩:=h;have P':cq X.K as H R ((af cl b env m).bind λy m2=>iB (.int 0) y (.int 1) m2):=P;refine⟨as,env,m,S,G,cq.bind P' λw m1 as1 H1 v T1 S1 R1 P1=>?_⟩;cases w with
 |int j=>
  obtain rfl:=aa.mp R1;obtain⟨⟨_,_,h1,h2⟩,q⟩:=Hf S1 P1;refine⟨j,rfl,h1,h2,?_⟩;simpa using q
 |_=>exact P1.elim
def F8 (hC:bv C X cl d)(hgl:X.env.scope.names.lookup ("list":Str)=some .globalImplicit)(hg:X.env.scope.names.lookup ("range":Str)=some .globalImplicit)(hs:zG x=true)(ha:PE X x (aM X.K (af cl a))):
  PE X (.Call (.Name "list" p) [.Call (.Name "range" p') [x] [] pos'] [] pos) (aM X.K (af cl (.lrng a))):=by
 refine PE.imp (FQ hC.calm hgl (hC.blt _ (by simp[zy])) hg (hC.blt _ (by simp[zy])) (zS ha xf (zp hs)) (zp hs)) λσ H Q h=>?_;obtain⟨as,env,m,S,G,P⟩:=h;refine⟨as,env,m,S,G,am.bind P λw m1 as1 H1 v T1 S1 R1 P1=>?_⟩;cases w with
 |int j=>
  obtain rfl:=aa.mp R1;have hlim:(av:Int)=100000:=rfl;have P1':am X.K as1 H1 Q (if -(av:Int)<=j/\j<=av then alloc m1 (fw 0 1 j.toNat)else .no):=P1;by_cases hc:-(av:Int)<=j/\j<=av
  .rw[Nj hc]at P1';obtain⟨h1,h2⟩:=x9 S1 (jL 1 j.toNat 0) P1';have hz:j.toNat<=sizeLine:=Qu (by have:av=100000:=rfl;lia) xh;exact⟨j,rfl,by lia,by lia,hz,h2⟩
  .rw[Nk hc]at P1';exact P1'.elim
 |_=>exact P1.elim
end
end Mini
namespace L2
set_option tactic.hygienic false
open PySem PySem.Spec PyProof.Rows
section
variable{X:Cx}{pins:List (Addr×Obj)}{σ:St}{H:Hp}{s:Shared}{h':LK}
def pV {ch:List Addr}(I:Inv X pins σ H s)(hf:∀b∈ch,jk X pins H b)(k:∀b o,b∉ch->s.heap.get? b=some o->h'.get? b=some o)(hT:s.heap.objs.size<=T)(hz:xs.length<=sizeLine)(hv:ay xs its)(ht:IsTup h' T its.toArray):Inv X pins σ (aK H T (.tup xs)) {s with heap:=h',toks:=t' }:=by
 have hn:H T=none:=I.hok.fresh hT;have nit:∀b u,H b=some u->b∉ch:=λb u e z=>by rw[(hf b z).1]at e;cases e
 have up:∀b u,H b=some u->aK H T (.tup xs) b=some u:=λb u e=>by rw[zl (zr e hn)];exact e
 refine I.step (g':=s.gens) (d':=s.drawn) (ch:=ch) (λb hb=>?_) (λb o _ _ hc e _=>k b o hc e) (λb o _ _ hc e _=>⟨o.slots,k b o hc e⟩) (λb o hc e n=>?_)
  (λb o hc e=>⟨o,k b o hc e⟩) (λb _ e=>up b _ e) (λb _ _ e=>up b _ e) (λb ps e=>⟨#[],by rw[up b _ e];simp⟩) (λm hm=>?_) (λb u e=>?_) I.bare
 .obtain ⟨f0,f1,f2,f3,f4,f5⟩:=hf b hb;exact⟨f3,f1,f4,f5⟩
 .rw[zl (QM (Qf (Ql e) hT))];exact n
 .obtain ⟨o,es,ep,ho,r⟩:=hm;exact⟨o,es,ep,k _ o (λz=>(hf _ z).2.1 rfl) ho,r⟩
 .by_cases hb:b=T
  .subst hb;rw[zm]at e;cases e;exact⟨hz,its,hv,ht⟩
  .rw[zl hb]at e;refine(I.hok b u e).stay (λc v hc q=>k c v ?_ q) (λc q=>up c _ q) λc _ q=>up c _ q;rcases hc with z|z
   .rw[z];exact nit b u e
   .exact nit c _ z
def Inv.turnedL{t':Nat}{ch:List Addr}(I:Inv X pins σ H s)(hf:∀b∈ch,jk X pins H b)(k:∀b o,b∉ch->s.heap.get? b=some o->h'.get? b=some o):Inv X pins σ H {s with heap:=h',toks:=t' }:=by
 have nit:∀b u,H b=some u->b∉ch:=λb u e z=>by rw[(hf b z).1]at e;cases e
 refine I.step (g':=s.gens) (d':=s.drawn) (ch:=ch) (λb hb=>?_) (λb o _ _ hc e _=>k b o hc e) (λb o _ _ hc e _=>⟨o.slots,k b o hc e⟩) (λb o hc e n=>n)
  (λb o hc e=>⟨o,k b o hc e⟩) (λb _ e=>e) (λb _ _ e=>e) (λb ps e=>⟨#[],by rw[e];simp⟩) (λm hm=>?_) (λb u e=>?_) I.bare
 .obtain ⟨f0,f1,f2,f3,f4,f5⟩:=hf b hb;exact⟨f3,f1,f4,f5⟩
 .obtain ⟨o,es,ep,ho,r⟩:=hm;exact⟨o,es,ep,k _ o (λz=>(hf _ z).2.1 rfl) ho,r⟩
 .refine (I.hok b u e).stay (λc v hc q=>k c v ?_ q) (λc q=>q) λc _ q=>q;rcases hc with z|z
  .rw[z];exact nit b u e
  .exact nit c _ z
end
def Yp(H:Hp)(v:V)(H':Hp)(x y:V):Prop:=∃T,H T=none/\v=.ref T/\H'=aK H T (.tup [x,y])
def pG(K:Qb)(l1 l2:Addr):It:=
 ⟨λi H=>∃xs ys x y,bj K H l1 xs/\bj K H l2 ys/\xs[i]?=some x/\ys[i]?=some y,
  λi H v H'=>∃x y,Yp H v H' x y/\(∀xs,bj K H l1 xs->xs[i]?=some x)/\∀ys,bj K H l2 ys->ys[i]?=some y,
  λi H=>∃xs ys,bj K H l1 xs/\bj K H l2 ys/\(xs.length<=i\/ys.length<=i)⟩
def pJ(K:Qb)(c:Nat)(l:Addr):It:=
 ⟨λi H=>∃xs x,bj K H l xs/\xs[i]?=some x,
  λi H v H'=>∃x,Yp H v H' (.int ((i+c:Nat):Int)) x/\∀xs,bj K H l xs->xs[i]?=some x,
  λi H=>∃xs,bj K H l xs/\xs.length<=i⟩
def HE (hh:A.handled=none)(it l:Addr)(hne:l≠it)(items:Array Value)(c:Nat):
  Draws prog w A it [it,l] (items.size+c) (λi x=>∃j,i=j+c/\items[j]?=some x) (λi h=>∃j,i=j+c/\h.IsListIter it l j/\h.IsList l items):=by
 have D:=Draws.list (prog:=prog) (w:=w) hh it l hne items;refine⟨λi h st=>?_,λi h h' st k=>?_,λi s Q E hi st hQ=>?_,λs Q E st hE=>?_⟩
 .obtain ⟨j,_,h1,h2⟩:=st;exact D.live j h ⟨h1,h2⟩
 .obtain ⟨j,e,h1,h2⟩:=st;obtain⟨q1,q2⟩:=D.frame j h h' ⟨h1,h2⟩ k;exact⟨j,e,q1,q2⟩
 .obtain ⟨j,rfl,h1,h2⟩:=st;refine D.item j s Q E (by lia) ⟨h1,h2⟩ λx h' tk p q sb=>hQ x h' tk ⟨j,rfl,p⟩ ⟨j+1,by lia,q.1,q.2⟩ sb
 .obtain ⟨j,e,h1,h2⟩:=st;have e':j=items.size:=by lia
  subst e';exact D.done s Q E ⟨h1,h2⟩ hE
def Hx (hh:A.handled=none)(it l:Addr)(items:Array Value)(hi:items[i]?=none):
  Draws prog w A it [it,l] 0 (λ_ _=>True) (λk h=>k=0/\h.IsListIter it l i/\h.IsList l items):=by
 refine⟨λk h st=>?_,λk h h' st q=>?_,λk s Q E hk st hQ=>Nl hk (Nat.not_lt_zero _),λs Q E st hE=>?_⟩
 .obtain ⟨o,ho,_⟩:=st.2.1;exact⟨o,ho⟩
 .exact ⟨st.1,st.2.1.at λo e=>q it (by simp) o e,st.2.2.at λo e=>q l (by simp) o e⟩
 .exact wpAny_nextOf_list_end hh st.2.1 st.2.2 hi hE
def Hw {K:Qb}(z TI TO i1 i2 l1 l2:Addr)(D:ZipApart z TI TO i1 i2 l1 l2):
  dB P w K (.Tuple elts k pt) (pG K l1 l2) [z,TI,TO,i1,i2] z (λi h=>IsZip h z TI TO .none/\IsPair h TI (.ref i1) (.ref i2)/\(∃a b,IsPair h TO a b)/\h.IsListIter i1 l1 i/\h.IsListIter i2 l2 i) where
 mem:=by simp
 obj:=λi h st b hb=>by
  obtain⟨hz,hTI,⟨a,c,hTO⟩,⟨o1,e1,c1,d1⟩,o2,e2,c2,d2⟩:=st;simp only[Qo,Q5,or_false]at hb;rcases hb with rfl|rfl|rfl|rfl|rfl
  .exact ⟨_,hz,λv z=>by cases z⟩
  .exact ⟨_,hTI,λv z=>by cases z⟩
  .exact ⟨_,hTO,λv z=>by cases z⟩
  .exact ⟨_,e1,λv z=>by rw[d1]at z;cases z⟩
  .exact ⟨_,e2,λv z=>by rw[d2]at z;cases z⟩
 keep:=λi h h' st k=>by
  obtain⟨hz,hTI,⟨a,c,hTO⟩,h1,h2⟩:=st;exact⟨k z (by simp) _ hz,k TI (by simp) _ hTI,⟨a,c,k TO (by simp) _ hTO⟩,h1.at λo e=>k i1 (by simp) o e,h2.at λo e=>k i2 (by simp) o e⟩
 item:=by
  intro X hP hw hK hc i pins s σ H E I hf st hg;subst hP hw hK;obtain⟨xs,ys,x,y,hq1,hq2,hx,hy⟩:=hg;obtain⟨its1,rv1,p1,_⟩:=I.list hq1;obtain⟨its2,rv2,p2,_⟩:=I.list hq2;obtain⟨u,hu,ru⟩:=rv1.get hx;obtain⟨v,hv,rv⟩:=rv2.get hy;obtain⟨hz,hTI,⟨a,b,hTO⟩,h1,h2⟩:=st;refine wpAny_pyNext_zip_item D hz hTI hTO h1 h2 p1.isList p2.isList (x:=u) (y:=v) (by simpa using hu) (by simpa using hv) λh' a1 a2 a3 a4 a5 a6 hk=>?_;refine⟨_,rfl,wpAny_letOwnedTupleGo_zip (s:={s with heap:=h' }) a1 λh'' hz' hs'=>?_⟩;have sT:z<s.heap.objs.size:=Ql hz;have kk:∀b o,b∉[z,TI,TO,i1,i2]->s.heap.get? b=some o->h''.get? b=some o:=λb o hb e=>
   (hs'.2 b λq=>hb (by simp[q])).trans (hk b o (λq=>hb (by simp[q])) (λq=>hb (by simp[q])) (λq=>hb (by simp[q])) (λq=>hb (by simp[q])) e)
  refine⟨.ref s.heap.objs.size,aK H s.heap.objs.size (.tup [x,y]),?_,rfl,⟨x,y,⟨_,I.hok.fresh (Qk _),rfl,rfl⟩,λzs hz=>by rw[I.list_inj hz hq1];exact hx,λzs hz=>by rw[I.list_inj hz hq2];exact hy⟩,?_,?_⟩
  .have I1:Inv X pins σ (aK H s.heap.objs.size (.tup [x,y])) {s with heap:=h'',toks:=s.toks}:=pV (s:=s) (its:=[u,v]) I hf kk (Qk _) (show(2:Nat)<=sizeLine by decide) (.cons ru (.cons rv .nil)) ⟨_,(hs'.2 _ (WQ sT)).trans a5,rfl,_,rfl⟩;exact I1
  .refine ⟨hz',?_,⟨u,v,?_⟩,?_,?_⟩
   .exact (hs'.2 TI D.TIz).trans (hk TI _ D.TIz D.TITO D.TIi1 D.TIi2 hTI)
   .exact (hs'.2 TO D.TOz).trans a2
   .exact a3.at λo e=>(hs'.2 i1 D.i1z).trans e
   .exact a4.at λo e=>(hs'.2 i2 D.i2z).trans e
  .intro b hb;have hlt:b<s.heap.objs.size:=by
    simp only[Qo,Q5,or_false]at hb;obtain⟨_,e1,_⟩:=h1;obtain⟨_,e2,_⟩:=h2;rcases hb with rfl|rfl|rfl|rfl|rfl
    .exact sT
    .exact Ql hTI
    .exact Ql hTO
    .exact Ql e1
    .exact Ql e2
   rw[zl (QM hlt)];exact(hf b hb).1
 done:=by
  intro X hP hw hK hc i pins s σ H E I hf st hg;subst hP hw hK;obtain⟨xs,ys,hq1,hq2,hx⟩:=hg;obtain⟨its1,rv1,p1,_⟩:=I.list hq1;obtain⟨its2,rv2,p2,_⟩:=I.list hq2;obtain⟨hz,hTI,⟨a,b,hTO⟩,h1,h2⟩:=st;have l1:=rv1.length;have l2:=rv2.length;refine wpAny_pyNext_zip_end (I.ok.hd hc) D hz hTI hTO h1 h2 p1.isList p2.isList ?_ λh' hk=>⟨rfl,?_⟩
  .rcases hx with hx|hx
   .exact .inl (by simp;lia)
   .exact .inr (by simp;lia)
  .exact I.turnedL (t':=s.toks) hf λb o hb e=>hk b o (λq=>hb (by simp[q])) (λq=>hb (by simp[q])) (λq=>hb (by simp[q])) (λq=>hb (by simp[q])) e
 self:=λ_ _ _ _ _ st h=>wpAny_pyIter_zip st.1 h
def HD {K:Qb}(c:Nat)(e it l:Addr)(hei:e≠it)(hle:l≠e)(hli:l≠it):
  dB P w K (.Tuple elts k pt) (pJ K c l) [e,it] e (λi h=>(∃old,IsEnum h e it ((i+c:Nat):Int) old)/\h.IsListIter it l i) where
 mem:=by simp
 obj:=λi h st b hb=>by
  obtain⟨⟨old,he⟩,o1,e1,c1,d1⟩:=st;simp only[Qo,Q5,or_false]at hb;rcases hb with rfl|rfl
  .exact ⟨_,he,λv z=>by cases z⟩
  .exact ⟨_,e1,λv z=>by rw[d1]at z;cases z⟩
 keep:=λi h h' st k=>by
  obtain⟨⟨old,he⟩,h1⟩:=st;exact⟨⟨old,k e (by simp) _ he⟩,h1.at λo q=>k it (by simp) o q⟩
 item:=by
  intro X hP hw hK hc i pins s σ H E I hf st hg;subst hP hw hK;obtain⟨xs,x,hq1,hx⟩:=hg;obtain⟨its1,rv1,p1,_⟩:=I.list hq1;obtain⟨u,hu,ru⟩:=rv1.get hx;obtain⟨⟨old,he⟩,h1⟩:=st;have hil:i<its1.length:=(Qa.mp hu).1;have D:=HE (prog:=X.prog) (w:=X.w) (A:=X.A.in1) (I.ok.hd hc) it l hli its1.toArray c;refine wpAny_pyNext_enum_itemD D he ⟨i,rfl,h1,p1.isList⟩ (by simp;lia) hei (by simp[hei,Ne.symm hle]) λx' h' tk px a1 st' a3 a4 hk=>?_;obtain⟨j,ej,hj⟩:=px;have ej':i=j:=by lia
  subst ej';have hxu:x'=u:=by
   have:its1[i]?=some x':=by simpa using hj
   rw[hu]at this;cases this;rfl
  subst hxu;obtain⟨j',ej',a2,_⟩:=st';have e2:j'=i+1:=by lia
  subst e2;refine⟨_,rfl,wpAny_letOwnedTupleGo_enum (s:={s with heap:=h',toks:=tk+1}) a1 λh'' he' hs'=>?_⟩;have sT:e<s.heap.objs.size:=Ql he;have kk:∀b o,b∉[e,it]->s.heap.get? b=some o->h''.get? b=some o:=λb o hb q=>
   (hs'.2 b λz=>hb (by simp[z])).trans (hk b o (λz=>hb (by simp[z])) (λz=>hb (by simp[z])) q)
  refine⟨.ref s.heap.objs.size,aK H s.heap.objs.size (.tup [.int ((i+c:Nat):Int),x]),?_,rfl,⟨x,⟨_,I.hok.fresh (Qk _),rfl,rfl⟩,λzs hz=>by rw[I.list_inj hz hq1];exact hx⟩,?_,?_⟩
  .have I1:Inv X pins σ (aK H s.heap.objs.size (.tup [.int ((i+c:Nat):Int),x])) {s with heap:=h'',toks:=tk+1}:=pV (s:=s) (its:=[.int ((i+c:Nat):Int) tk,x']) I hf kk (Qk _) (show(2:Nat)<=sizeLine by decide) (.cons ⟨_,rfl⟩ (.cons ru .nil)) ⟨_,(hs'.2 _ (WQ sT)).trans a3,rfl,_,rfl⟩;exact I1
  .refine ⟨⟨x',?_⟩,a2.at λo q=>(hs'.2 it hei.symm).trans q⟩;have:((i+1+c:Nat):Int)=((i+c:Nat):Int)+1:=by lia
   rw[this];exact he'
  .intro b hb;have hlt:b<s.heap.objs.size:=by
    simp only[Qo,Q5,or_false]at hb;obtain⟨_,e1,_⟩:=h1;rcases hb with rfl|rfl
    .exact sT
    .exact Ql e1
   rw[zl (QM hlt)];exact(hf b hb).1
 done:=by
  intro X hP hw hK hc i pins s σ H E I hf st hg;subst hP hw hK;obtain⟨xs,hq1,hx⟩:=hg;obtain⟨its1,rv1,p1,_⟩:=I.list hq1;obtain⟨⟨old,he⟩,h1⟩:=st;have l1:=rv1.length;have D:=Hx (prog:=X.prog) (w:=X.w) (A:=X.A.in1) (I.ok.hd hc) it l its1.toArray (i:=i) (by simp;lia);refine wpAny_pyNext_enum_endD D he ⟨rfl,h1,p1.isList⟩ λh' hk=>⟨rfl,?_⟩;exact I.turnedL (t':=s.toks) hf λb o hb q=>hk b o (λz=>hb (by simp[z])) q
 self:=λ_ _ _ _ _ st h=>by
  obtain⟨⟨old,he⟩,_⟩:=st;exact wpAny_pyIter_enum he h
section
variable{X:Cx}{elts:List Expr}{k:Nat}{pt:Pos}
def pZ(K:Qb)(ta:TA):TI:=λσ H R=>ta σ H λvs H1=>∃l1 l2 xs ys,vs=[.ref l1,.ref l2]/\bj K H1 l1 xs/\bj K H1 l2 ys/\R (pG K l1 l2) H1
def sy(K:Qb)(c:Nat)(ta:TA):TI:=λσ H R=>ta σ H λvs H1=>∃l xs,vs=[.ref l]/\bj K H1 l xs/\R (pJ K c l) H1
def tJ (hg:Gl X "zip")(hm:X.mg "zip"=none)(ha:PA X [a,b] ta)(hs:LY [a,b] X.env=[(false,eval a X.env),(false,eval b X.env)]:=by rfl)(hs2:LY [b] X.env=[(false,eval b X.env)]:=by rfl):
  PI X (.Tuple elts k pt) (.Call (.Name "zip" p) [a,b] [] pos) (pZ X.K ta):=by
 intro pins s σ H R I h;refine Call_ (wW I hg hm PyProof.Rows.boot_zip (PyProof.Rows.callWith_type1 (aZ (ha pos pins s σ H _ I h) λus s1 ⟨vs,H1,I1,r1,q1⟩=>?_) (by rw[hs,hs2]) (by rw[hs2];rfl)));obtain⟨l1,l2,xs,ys,e,g1,g2,q⟩:=q1;subst e;cases r1 with
 |cons r rr=>
  cases rr with
  |cons r' rr=>
   cases rr;cases r;cases r';obtain⟨its1,rv1,p1,_⟩:=I1.list g1;obtain⟨its2,rv2,p2,_⟩:=I1.list g2;have t1:l1<s1.heap.objs.size:=by obtain⟨o,e,_⟩:=p1.isList;exact Ql e
   have t2:l2<s1.heap.objs.size:=by obtain⟨o,e,_⟩:=p2.isList;exact Ql e
   refine call_zip_2 p1.isList p2.isList λh' hz hTI hTO hi1 hi2 hsz hk=>?_;refine wpAny_pyIter_zip (s:={s1 with heap:=h' }) hz ?_;refine⟨_,_,_,_,H1,rfl,I1.kept (t':=s1.toks) hk,Hw (s1.heap.objs.size+4) (s1.heap.objs.size+2) (s1.heap.objs.size+3) s1.heap.objs.size (s1.heap.objs.size+1) l1 l2 ?_,⟨hz,hTI,⟨_,_,hTO⟩,hi1,hi2⟩,λb hb=>?_,q⟩
   .exact zipApart_new t1 t2
   .have hb':s1.heap.objs.size<=b:=by
     simp only[Qo,Q5,or_false]at hb;rcases hb with rfl|rfl|rfl|rfl|rfl
     .exact WJ _ _
     .exact WJ _ _
     .exact WJ _ _
     .exact Qk _
     .exact WJ _ _
    exact I1.fpOk hb' (I1.hok.fresh hb')
def F7 (hg:Gl X "enumerate")(hm:X.mg "enumerate"=none)(ha:PA X [a] ta)(hs:LY [a] X.env=[(false,eval a X.env)]:=by rfl):
  PI X (.Tuple elts k pt) (.Call (.Name "enumerate" p) [a] [] pos) (sy X.K 0 ta):=by
 intro pins s σ H R I h;refine Call_ (wW I hg hm PyProof.Rows.boot_enumerate (PyProof.Rows.callWith_type1 (aZ (ha pos pins s σ H _ I h) λus s1 ⟨vs,H1,I1,r1,q1⟩=>?_) hs rfl));obtain⟨l,xs,e,g1,q⟩:=q1;subst e;cases r1 with
 |cons r rr=>
  cases rr;cases r;obtain⟨its1,rv1,p1,_⟩:=I1.list g1;have t1:l<s1.heap.objs.size:=by obtain⟨o,e,_⟩:=p1.isList;exact Ql e
  refine call_enumerate_list p1.isList λh' he hi hsz hk=>?_;refine wpAny_pyIter_enum (s:={s1 with heap:=h' }) he ?_;refine⟨_,_,_,_,H1,rfl,I1.kept (t':=s1.toks) hk,HD 0 (s1.heap.objs.size+1) s1.heap.objs.size l (Nat.succ_ne_self _) (QM (Vn t1)) (QM t1),⟨⟨_,he⟩,hi⟩,λb hb=>?_,q⟩;have hb':s1.heap.objs.size<=b:=by
   simp only[Qo,Q5,or_false]at hb;rcases hb with rfl|rfl
   .exact WJ _ _
   .exact Qk _
  exact I1.fpOk hb' (I1.hok.fresh hb')
end
end L2
namespace L2
open PySem PySem.Spec PyProof.Rows
open AutoSeq1 (wpAny_loadPart')
end L2
namespace Mini
open PySem PySem.Spec PyProof.Rows L2
section
variable{cl:Nat->List Wd->Me->Rz}{K:Qb}
def aQ.updD{as:List Addr}{m:Me}{H:Hp}{D:Addr}{ys:List V}{o:HO}(S:aQ K as m H)(hD:H D=some (.lst ys))(hn:D∉as):aQ K as m (aK H D o):=by
 refine⟨S.len,S.nd,λl b ob h1 h2=>?_⟩;have q:=S.obj l b ob h1 h2;have hb:b≠D:=by rintro rfl;exact hn (Qp h1)
 cases ob with
 |lst zs=>
  obtain⟨us,e,r⟩:=q;exact⟨us,by rw[zl hb];exact e,r.kp (Kp.upd hD)⟩
 |dct ks ws=>exact bx.mono (ob:=.dct ks ws) (Kp.upd hD) (λ_ _ e=>e) (λo e=>by rw[zl hb];exact e) q
def aQ.join{as:List Addr}{m:Me}{H:Hp}{D:Addr}{ys:List V}{acc:List Wd}(S:aQ K as m H)(hD:H D=some (.lst ys))(hn:D∉as)(R:ae K as H acc ys):aQ K (as++[D]) (m++[.lst acc]) H:=by
 have g:∀(l:Nat) (a:Addr),as[l]?=some a->(as++[D])[l]?=some a:=λl a e=>by
  rw[Qg (Qa.mp e).1];exact e
 have kp:Kp K H H:=⟨λ_ _ h=>h,λ_ _ h=>h⟩;refine⟨by simp[S.len],?_,λl b o h1 h2=>?_⟩
 .refine Qz.mpr ⟨S.nd,by simp,λx hx y hy=>?_⟩;rw[QP.mp hy];rintro rfl;exact hn hx
 .by_cases hl:l<as.length
  .rw[Qg hl]at h1;rw[Qg (by rw[<-S.len];exact hl)]at h2;have q:=S.obj l b o h1 h2;cases o with
   |lst zs=>
    obtain⟨us,e,r⟩:=q;exact⟨us,e,bg kp g _ _ r⟩
   |dct ks ws=>exact bx.mono (ob:=.dct ks ws) kp g (λo e=>e) q
  .rw[Qi (by lia)]at h1;rw[Qi (by rw[<-S.len];lia)]at h2;have hz:l-as.length=0:=by
    cases hq:l-as.length with
    |zero=>rfl
    |succ k=>rw[hq]at h1;simp at h1
   rw[hz]at h1;rw[<-S.len,hz]at h2;simp at h1 h2;subst h1;subst h2;exact⟨ys,hD,bg kp g _ _ R⟩
def Step.updD{as as':List Addr}{H H':Hp}{D:Addr}{o:HO}(T:Step as H as' H')(hD:H D=none):Step as H as' (aK H' D o):=
 ⟨T.pre,λb ob h hb=>by rw[zl (zr h hD)];exact T.frame b ob h hb,T.fresh⟩
def Step.join{as as':List Addr}{H H':Hp}{D:Addr}(T:Step as H as' H')(hD:H D=none):Step as H (as'++[D]) H':=by
 refine⟨?_,T.frame,λa ha=>?_⟩
 .obtain ⟨t,rfl⟩:=T.pre;exact⟨t++[D],by simp⟩
 .rcases QL.mp ha with z|z
  .exact T.fresh a z
  .rw[QP.mp z];exact .inr hD
def wf (S:aQ K as' m H')(T:Step as H as' H')(h0:H D=none)(hD:H' D=some (.lst ys))(hn:D∉as')(R:ae K as' H' acc ys)(h:am K as H Q (alloc m acc)):Q (.ref D) H':=by
 unfold Mini.alloc at h;split at h
 .refine h (as'++[D]) H' (.ref D) (T.join h0) (S.join hD hn R) (aE.mpr ⟨D,?_,rfl⟩);rw[<-S.len,Qi (Qk _)];simp
 .exact h.elim
structure cJ(K:Qb)(as:List Addr)(H:Hp)(D:Addr)(env:En)(σ:St)(as':List Addr)(m':Me)(acc:List Wd)(ys:List V)(H':Hp):Prop where
 T:Step as H as' H'
 S:aQ K as' m' H'
 hD:H' D=some (.lst ys)
 n:D∉as'
 R:ae K as' H' acc ys
 G:aF K as' H' env σ
def cJ.go{as:List Addr}{H:Hp}{D:Addr}{env:En}{σ:St}{as' as2:List Addr}{m' m2:Me}{acc:List Wd}{ys:List V}{H' H2:Hp}(M:cJ K as H D env σ as' m' acc ys H')(U:Step as' H' as2 H2)(S2:aQ K as2 m2 H2):cJ K as H D env σ as2 m2 acc ys H2:=
 ⟨M.T.trans U,S2,U.frame _ _ M.hD M.n,U.out M.hD M.n,M.R.mono M.S U,M.G.mono M.S U⟩
def cJ.push{as:List Addr}{H:Hp}{D:Addr}{env:En}{σ:St}{as':List Addr}{m':Me}{acc:List Wd}{ys:List V}{H':Hp}{w:Wd}{v:V}(M:cJ K as H D env σ as' m' acc ys H')(h0:H D=none)(R:aj K as' H' w v):
  cJ K as H D env σ as' m' (acc++[w]) (ys++[v]) (aK H' D (.lst (ys++[v]))):=by
 have kp:Kp K H' (aK H' D (.lst (ys++[v]))):=Kp.upd M.hD;exact⟨M.T.updD h0,M.S.updD M.hD M.n,zm,M.n,(M.R.append (.one R)).kp kp,M.G.kp kp⟩
def vv{elt cond:Ex}{tc:TT}(htc:∀σ H Q,xY K (af cl cond) σ H Q->tc σ H Q){as1 as':List Addr}{H1 H':Hp}{D:Addr}{env ex:En}{σ sx:St}{m':Me}{acc:List Wd}{ys:List V}{Q:VK}{next:List Wd->Me->Rz}{N:List V->Hp->Prop}
  (h0:H1 D=none) (M:cJ K as1 H1 D env σ as' m' acc ys H') (G:aF K as' H' (env++ex) (σ++sx))
  (Pt:am K as1 H1 Q ((af cl cond (env++ex) m').bind λb m1=>match b with
     |.bl true=>(af cl elt (env++ex) m1).bind λy m2=>if acc.length<av then next (acc++[y]) m2 else .no
     |.bl false=>next acc m1
     |_=>.no))
  (hN:∀as2 m2 acc' ys' H2,Kp K H' H2->(∀(l:Nat) (a:Addr),as'[l]?=some a->as2[l]?=some a)->cJ K as1 H1 D env σ as2 m2 acc' ys' H2->am K as1 H1 Q (next acc' m2)->N ys' H2) :
  tc (σ++sx) H' λb H2=>if b=true then aM K (af cl elt) (σ++sx) H2 λy H3=>H3 D=some (.lst ys)/\ys.length<sizeLine/\N (ys++[y]) (aK H3 D (.lst (ys++[y])))else N ys H2:=by
 refine htc _ _ _ ⟨as',env++ex,m',M.S,G,eY Pt M.T λwb m2 as2 H2 vb T2 S2 R2 P2=>?_⟩;have M2:=M.go T2 S2;cases wb with
 |bl k=>
  obtain rfl:=ah.mp R2;refine⟨k,rfl,?_⟩;cases k with
  |false=>exact fg (hN as2 m2 acc ys H2 (M.S.kp T2) (λ_ _ e=>T2.get e) M2 P2)
  |true=>
   refine qo ⟨as2,env++ex,m2,S2,G.mono M.S T2,eY P2 M2.T λwy m3 as3 H3 vy T3 S3 R3 P3=>?_⟩;have M3:=M2.go T3 S3;have P3':am K as1 H1 Q (if acc.length<av then next (acc++[wy]) m3 else .no):=P3;by_cases hl:acc.length<av
   .rw[Nj hl]at P3';refine⟨M3.hD,by rw[<-M3.R.length];exact Qf hl xh,hN as3 m3 (acc++[wy]) (ys++[vy]) _ ?_ (λ_ _ e=>T3.get (T2.get e)) (M3.push h0 R3) P3'⟩;have k1:=M.S.kp T2;have k2:=S2.kp T3;have k3:Kp K H3 (aK H3 D (.lst (ys++[vy]))):=Kp.upd M3.hD;exact⟨λa vs q=>k3.t _ _ (k2.t _ _ (k1.t _ _ q)),λa vs q=>k3.f _ _ (k2.f _ _ (k1.f _ _ q))⟩
   .rw[Nk hl]at P3';exact P3'.elim
 |_=>exact P2.elim
def cJ.start{as as1:List Addr}{H H1:Hp}{D:Addr}{env:En}{σ:St}{m1:Me}(S1:aQ K as1 m1 H1)(G1:aF K as1 H1 env σ)(hD:H1 D=none):cJ K as1 H1 D env σ as1 m1 [] [] (aK H1 D (.lst [])):=by
 have T:Step as1 H1 as1 (aK H1 D (.lst [])):=Step.updD .refl hD;exact⟨T,S1.keep T λb _ o e=>by rw[zl (zr e hD)];exact e,zm,S1.new hD,aw.mpr rfl,G1.mono S1 T⟩
def nh(K:Qb)(as:List Addr)(J:It)(g:Nat->Me->Option (Option (Wd×Wd))):Prop:=
 ∀(as':List Addr) (m':Me) (H':Hp),(∀(l:Nat) (a:Addr),as[l]?=some a->as'[l]?=some a)->aQ K as' m' H'->∀i,
  (g i m'=some none->J.stop i H')/\∀x y,g i m'=some (some (x,y))->J.go i H'/\∀v H'',J.yld i H' v H''->∃x' y',Yp H' v H'' x' y'/\aj K as' H' x x'/\aj K as' H' y y'
def jP {cond:Ex}{tc:TT}(htc:∀σ H Q,xY K (af cl cond) σ H Q->tc σ H Q)(hJ:nh K as1 J g)(S1:aQ K as1 m1 H1)(G1:aF K as1 H1 env σ)(P:am K as1 H1 Q (yh (λu v m=>af cl cond (env++[some u]++[some v]) m) (λu v m=>af cl elt (env++[some u]++[some v]) m) g (av+1) 0 [] m1)):
  ∀D,H1 D=none->∃W:Nat->Nat->List V->Hp->Prop,(∃m,W 0 m [] (aK H1 D (.lst [])))/\∀i m ys H,W i m ys H ->
   (J.stop i H/\Q (.ref D) H)\/(J.go i H/\∀v H',J.yld i H v H'->∃vs,iQ K v H' vs/\tc (σ++vs.map some) H' λb H2=>if b=true then aM K (af cl elt) (σ++vs.map some) H2 λy H3=>H3 D=some (.lst ys)/\ys.length<sizeLine/\∃m',m'<m/\W (i+1) m' (ys++[y]) (aK H3 D (.lst (ys++[y])))
    else ∃m',m'<m/\W (i+1) m' ys H2):=by
 intro D hD;refine⟨λi n ys H'=>∃as' m' acc,(∀(l:Nat) (a:Addr),as1[l]?=some a->as'[l]?=some a)/\cJ K as1 H1 D env σ as' m' acc ys H' /\
  am K as1 H1 Q (yh (λu v m=>af cl cond (env++[some u]++[some v]) m) (λu v m=>af cl elt (env++[some u]++[some v]) m) g n i acc m'),⟨av+1,as1,m1,[],λ_ _ e=>e,cJ.start (as:=as1) (H:=H1) S1 G1 hD,P⟩,?_⟩
 rintro i n ys H' ⟨as',m',acc,hl,M,Pi⟩;cases n with
 |zero=>exact Pi.elim
 |succ n=>
  unfold yh at Pi;obtain⟨q1,q2⟩:=hJ as' m' H' hl M.S i;cases e:g i m' with
  |none=>rw[e]at Pi;exact Pi.elim
  |some o=>
   rw[e]at Pi;cases o with
   |none=>exact .inl ⟨q1 e,wf M.S M.T hD M.hD M.n M.R Pi⟩
   |some p=>
    obtain⟨x,y⟩:=p;simp only[]at Pi;obtain⟨go,yl⟩:=q2 x y e;refine .inr ⟨go,λv H'' hy=>?_⟩;obtain⟨x',y',⟨T,hT,rfl,rfl⟩,Rx,Ry⟩:=yl v H'' hy;refine⟨[x',y'],⟨T,rfl,cb.of zm,rfl⟩,?_⟩;have U:Step as' H' as' (aK H' T (.tup [x',y'])):=Step.updD .refl hT;have S2:aQ K as' m' (aK H' T (.tup [x',y'])):=M.S.keep U λb _ o e=>by rw[zl (zr e hT)];exact e
    have M2:=M.go U S2;have G2:aF K as' (aK H' T (.tup [x',y'])) (env++[some x,some y]) (σ++[x',y'].map some):=by
     have:=(M2.G.push (Rx.mono M.S U)).push (Ry.mono M.S U);simpa using this
    refine vv htc (ex:=[some x,some y]) (next:=λacc m=>yh (λu v m=>af cl cond (env++[some u]++[some v]) m) (λu v m=>af cl elt (env++[some u]++[some v]) m) g n (i+1) acc m)
     (N:=λzs H2=>∃n',n'<n+1/\∃as' m' acc,(∀(l:Nat) (a:Addr),as1[l]?=some a->as'[l]?=some a)/\cJ K as1 H1 D env σ as' m' acc zs H2/\am K as1 H1 Q (yh (λu v m=>af cl cond (env++[some u]++[some v]) m) (λu v m=>af cl elt (env++[some u]++[some v]) m) g n' (i+1) acc m')) hD M2 G2 (by rw[show env++[some x]++[some y]=env++[some x,some y]from by simp]at Pi;exact Pi) ?_
    intro as2 m2 acc' ys' H2 kp gg M3 P3;exact⟨n,Wj _,as2,m2,acc',λl a e=>gg _ _ (hl l a e),M3,P3⟩
def IP (ha:as[la]?=some a)(hb:as[lb]?=some b):nh K as (pG K a b) (zC .zip (.ref la) (.ref lb)):=by
 intro as' m' H' hl S i;simp only[zC];cases e1:zA m' la with
 |none=>exact⟨λz=>by simp at z,λx y z=>by simp at z⟩
 |some xs=>
  cases e2:zA m' lb with
  |none=>exact⟨λz=>by simp at z,λx y z=>by simp at z⟩
  |some ys=>
   obtain⟨a',us,ha',eH,RL⟩:=zZ S (zK e1);rw[hl _ _ ha]at ha';cases ha';obtain⟨b',vs,hb',eH2,RL2⟩:=zZ S (zK e2);rw[hl _ _ hb]at hb';cases hb';simp only;cases ex:xs[i]? with
   |none=>
    refine⟨λ_=>⟨us,vs,bj.of eH,bj.of eH2,.inl ?_⟩,λx y z=>by simp at z⟩;rw[<-RL.length];exact QV.mp ex
   |some x=>
    cases ey:ys[i]? with
    |none=>
     refine⟨λ_=>⟨us,vs,bj.of eH,bj.of eH2,.inr ?_⟩,λx y z=>by simp at z⟩;rw[<-RL2.length];exact QV.mp ey
    |some y=>
     refine⟨λz=>by simp at z,λx2 y2 z=>?_⟩;simp only[Option.some.injEq,Prod.mk.injEq]at z;obtain⟨rfl,rfl⟩:=z;obtain⟨u0,hu0,Ru⟩:=RL.get ex;obtain⟨v0,hv0,Rv⟩:=RL2.get ey;refine⟨⟨us,vs,u0,v0,bj.of eH,bj.of eH2,hu0,hv0⟩,λv H'' hy=>?_⟩;obtain⟨p,q,yp,k1,k2⟩:=hy;have:=k1 us (bj.of eH);rw[hu0]at this;cases this;have:=k2 vs (bj.of eH2);rw[hv0]at this;cases this;exact⟨_,_,yp,Ru,Rv⟩
def Jw (ha:as[la]?=some a):nh K as (pJ K c a) (zC .enum (.ref la) (.int (c:Int))):=by
 intro as' m' H' hl S i;simp only[zC];cases e1:zA m' la with
 |none=>exact⟨λz=>by simp at z,λx y z=>by simp at z⟩
 |some xs=>
  obtain⟨a',us,ha',eH,RL⟩:=zZ S (zK e1);rw[hl _ _ ha]at ha';cases ha';simp only;cases ex:xs[i]? with
  |none=>
   refine⟨λ_=>⟨us,bj.of eH,?_⟩,λx y z=>by simp at z⟩;rw[<-RL.length];exact QV.mp ex
  |some x=>
   refine⟨λz=>by simp at z,λx2 y2 z=>?_⟩;simp only[QJ,Option.some.injEq,Prod.mk.injEq]at z;obtain⟨rfl,rfl⟩:=z;obtain⟨u0,hu0,Ru⟩:=RL.get ex;refine⟨⟨us,u0,bj.of eH,hu0⟩,λv H'' hy=>?_⟩;obtain⟨p,yp,k1⟩:=hy;have:=k1 us (bj.of eH);rw[hu0]at this;cases this;exact⟨_,_,yp,aa.mpr (by congr 1;lia),Ru⟩
def di:(Rz.ok w m).bind f=f w m:=rfl
def wM (h:g i m=none):yh c e g (k+1) i acc m=.no:=by
 unfold yh;rw[h]
def IN (e:zC .zip w w2 i m=some o):∃la lb xs ys,w=.ref la/\w2=.ref lb/\zA m la=some xs/\zA m lb=some ys:=by
 unfold zC at e;split at e
 .next la lb _=>
  split at e
  .next xs ys e1 e2=>exact⟨la,lb,xs,ys,rfl,rfl,e1,e2⟩
  .cases e
 .contradiction
 .contradiction
 .contradiction
 .cases e
def Jv (e:zC .enum w w2 i m=some o):∃la xs,w=.ref la/\zA m la=some xs:=by
 unfold zC at e;split at e
 .next h=>cases h
 .next la s _=>
  split at e
  .next xs e1=>exact⟨la,xs,rfl,e1⟩
  .cases e
 .contradiction
 .contradiction
 .cases e
def jQ {cond:Ex}(htc:∀σ H Q,xY K (af cl cond) σ H Q->tc σ H Q)(h:aM K (af cl (.compP .zip elt a b cond)) σ H Q):
  jd (iQ K) (pZ K (iJ (aM K (af cl a)) (iJ (aM K (af cl b)) lh))) tc (aM K (af cl elt)) σ H Q:=by
 obtain⟨as,env,m,S,G,P⟩:=h;have P':am K as H Q ((af cl a env m).bind λx m1=>(af cl b env m1).bind λy m2=>
  yh (λu v m=>af cl cond (env++[some u]++[some v]) m) (λu v m=>af cl elt (env++[some u]++[some v]) m) (zC .zip x y) (av+1) 0 [] m2):=P
 refine⟨as,env,m,S,G,eY P' .refl λw m1 as1 H1 v T1 S1 R1 P1=>?_⟩;refine⟨as1,env,m1,S1,G.mono S T1,eY P1 T1 λw2 m2 as2 H2 v2 T2 S2 R2 P2=>?_⟩;have P3:=am.step P2 (T1.trans T2);have G2:=(G.mono S T1).mono S1 T2;have look:∃la lb xs ys,w=.ref la/\w2=.ref lb/\zA m2 la=some xs/\zA m2 lb=some ys:=by
  cases e:zC .zip w w2 0 m2 with
  |none=>rw[wM e]at P3;exact P3.elim
  |some o=>exact IN e
 obtain⟨la,lb,xs,ys,rfl,rfl,e1,e2⟩:=look;obtain⟨a1,ha1,rfl⟩:=aE.mp R1;obtain⟨b1,hb1,rfl⟩:=aE.mp R2;have ha2:=T2.get ha1;obtain⟨a',us,ha',eH,RL⟩:=zZ S2 (zK e1);rw[ha2]at ha';cases ha';obtain⟨b',vs,hb',eH2,RL2⟩:=zZ S2 (zK e2);rw[hb1]at hb';cases hb';exact⟨a1,b1,us,vs,rfl,bj.of eH,bj.of eH2,jP htc (IP ha2 hb1) S2 G2 P3⟩
def Jk {c:Nat}(hz:z=(c:Int)){cond:Ex}(htc:∀σ H Q,xY K (af cl cond) σ H Q->tc σ H Q)(h:aM K (af cl (.compP .enum elt a (.lit (.int z)) cond)) σ H Q):
  jd (iQ K) (sy K c (iJ (aM K (af cl a)) lh)) tc (aM K (af cl elt)) σ H Q:=by
 subst hz;obtain⟨as,env,m,S,G,P⟩:=h;have hl:∀m1,af cl (.lit (.int (c:Int))) env m1=.ok (.int (c:Int)) m1:=λ_=>rfl;have P':am K as H Q ((af cl a env m).bind λx m1=>(af cl (.lit (.int (c:Int))) env m1).bind λy m2=>
  yh (λu v m=>af cl cond (env++[some u]++[some v]) m) (λu v m=>af cl elt (env++[some u]++[some v]) m) (zC .enum x y) (av+1) 0 [] m2):=P
 refine⟨as,env,m,S,G,eY P' .refl λw m1 as1 H1 v T1 S1 R1 P1=>?_⟩;rw[hl,di]at P1;have P3:=am.step P1 T1;have look:∃la xs,w=.ref la/\zA m1 la=some xs:=by
  cases e:zC .enum w (.int (c:Int)) 0 m1 with
  |none=>rw[wM e]at P3;exact P3.elim
  |some o=>exact Jv e
 obtain⟨la,xs,rfl,e1⟩:=look;obtain⟨a1,ha1,rfl⟩:=aE.mp R1;obtain⟨a',us,ha',eH,RL⟩:=zZ S1 (zK e1);rw[ha1]at ha';cases ha';exact⟨a1,us,rfl,bj.of eH,jP htc (Jw ha1) S1 (G.mono S T1) P3⟩
def jR (e:zC .prs w (.int c) i m=some o):∃l xs,w=.ref l/\zA m l=some xs/\((xs[i]?=none/\o=none)\/∃x y,xs[i]?=some (.tup [x,y])/\o=some (x,y)):=by
 cases w with
 |ref l=>
  have e':(match zA m l with
   |some xs=>match xs[i]? with
    |none=>some none
    |some w=>(iH w).map some
   |none=>none)=some o:=e
  cases e1:zA m l with
  |none=>rw[e1]at e';cases e'
  |some xs=>
   simp only[e1]at e';refine⟨l,xs,rfl,e1,?_⟩;cases e2:xs[i]? with
   |none=>simp only[e2]at e';cases e';exact .inl ⟨rfl,rfl⟩
   |some w=>
    simp only[e2]at e';obtain⟨p,hp,rfl⟩:=QE.mp e'
    right
    unfold iH at hp;split at hp
    .next x y=>cases hp;exact⟨x,y,rfl,rfl⟩
    .cases hp
 |_=>cases e
def Jj {cond:Ex}(htc:∀σ H Q,xY K (af cl cond) σ H Q->tc σ H Q)(h:aM K (af cl (.compP .prs elt a (.lit (.int 0)) cond)) σ H Q):
  jd (iQ K) (ij K (af cl a)) tc (aM K (af cl elt)) σ H Q:=by
 obtain⟨as,env,m,S,G,P⟩:=h;refine⟨as,env,m,S,G,?_⟩;have hl:∀m1,af cl (.lit (.int 0)) env m1=.ok (.int 0) m1:=λ_=>rfl;have P':am K as H Q ((af cl a env m).bind λx m1=>(af cl (.lit (.int 0)) env m1).bind λy m2=>
  yh (λu v m=>af cl cond (env++[some u]++[some v]) m) (λu v m=>af cl elt (env++[some u]++[some v]) m) (zC .prs x y) (av+1) 0 [] m2):=P
 clear P;cases hr:af cl a env m with
 |no=>rw[hr]at P';exact P'
 |exc c w m'=>rw[hr]at P';exact P'
 |ok w m1=>
  rw[hr,di,hl,di]at P';have P0:=P';cases e0:zC .prs w (.int 0) 0 m1 with
  |none=>rw[wM e0]at P0;exact P0.elim
  |some o0=>
   obtain⟨l,xs0,rfl,e00,_⟩:=jR e0;refine⟨?_,λas1 H1 J T1 S1 hI D hD=>?_⟩
   .show (zA m1 l).isSome=true;rw[e00];rfl
   .obtain ⟨a,ha,rfl⟩:=hI;have Pc1:=am.step P0 T1;refine⟨λi n ys H'=>∃as' m' acc,as'[l]?=some a/\cJ K as1 H1 D env σ as' m' acc ys H' /\
     am K as1 H1 Q (yh (λu v m=>af cl cond (env++[some u]++[some v]) m) (λu v m=>af cl elt (env++[some u]++[some v]) m) (zC .prs (.ref l) (.int 0)) n i acc m'),⟨av+1,as1,m1,[],ha,cJ.start (as:=as) (H:=H) S1 (G.mono S T1) hD,Pc1⟩,?_⟩
    rintro i n ys H' ⟨as',m',acc,hl,M,Pi⟩;cases n with
    |zero=>exact Pi.elim
    |succ n=>
     cases e:zC .prs (.ref l) (.int 0) i m' with
     |none=>rw[wM e]at Pi;exact Pi.elim
     |some o=>
      unfold yh at Pi;rw[e]at Pi;obtain⟨l',xs,hl',e1,hc⟩:=jR e;cases hl';obtain⟨a',vs,ha',eH,RL⟩:=zZ M.S (zK e1);rw[hl]at ha';cases ha';rcases hc with⟨ex,rfl⟩|⟨x,y,ex,rfl⟩
      .have hle:vs.length<=i:=by rw[<-RL.length];exact QV.mp ex
       exact .inl ⟨⟨vs,bj.of eH,hle⟩,wf M.S M.T hD M.hD M.n M.R Pi⟩
      .obtain ⟨v0,hv0,Rx⟩:=RL.get ex;refine .inr ⟨⟨vs,v0,bj.of eH,hv0⟩,λv H'' hy=>?_⟩;obtain⟨rfl,hy⟩:=hy;have:=hy vs (bj.of eH);rw[hv0]at this;cases this;obtain⟨t,us,rfl,hq,R2⟩:=ai.mp Rx;obtain⟨x',y',rfl,Ra,Rb⟩:=qx R2;refine⟨[x',y'],⟨t,rfl,hq,rfl⟩,?_⟩;have G2:aF K as' H'' (env++[some x,some y]) (σ++[x',y'].map some):=by
        have:=(M.G.push Ra).push Rb;simpa using this
       refine vv htc (ex:=[some x,some y]) (next:=λacc m=>yh (λu v m=>af cl cond (env++[some u]++[some v]) m) (λu v m=>af cl elt (env++[some u]++[some v]) m) (zC .prs (.ref l) (.int 0)) n (i+1) acc m)
        (N:=λzs H2=>∃n',n'<n+1/\∃as' m' acc,as'[l]?=some a/\cJ K as1 H1 D env σ as' m' acc zs H2/\am K as1 H1 Q (yh (λu v m=>af cl cond (env++[some u]++[some v]) m) (λu v m=>af cl elt (env++[some u]++[some v]) m) (zC .prs (.ref l) (.int 0)) n' (i+1) acc m')) hD M G2 (by simp only[]at Pi;rw[show env++[some x]++[some y]=env++[some x,some y]from by simp]at Pi;exact Pi) ?_
       intro as2 m2 acc' ys' H2 kp g M2 P2;exact⟨n,Wj _,as2,m2,acc',g _ _ hl,M2,P2⟩
def kQ {cond:Ex}(htc:∀σ H Q,xY K (af cl cond) σ H Q->tc σ H Q)(h:aM K (af cl (.comp elt it cond)) σ H Q):
  jd lH (ij K (af cl it)) tc (aM K (af cl elt)) σ H Q:=by
 obtain⟨as,env,m,S,G,P⟩:=h;refine⟨as,env,m,S,G,?_⟩;have P':am K as H Q ((af cl it env m).bind λx m1=>match x with
  |.tup xs=>xU (λx m=>af cl cond (env++[some x]) m) (λx m=>af cl elt (env++[some x]) m) xs [] m1
  |.rol xs=>xU (λx m=>af cl cond (env++[some x]) m) (λx m=>af cl elt (env++[some x]) m) xs [] m1
  |.ref l=>xW (λx m=>af cl cond (env++[some x]) m) (λx m=>af cl elt (env++[some x]) m) l (av+1) 0 [] m1
  |_=>.no):=P
 clear P;cases hr:af cl it env m with
 |no=>rw[hr]at P';exact P'
 |exc c w m'=>rw[hr]at P';exact P'
 |ok w m1=>
  rw[hr]at P';have start:∀{as1:List Addr}{H1:Hp}{D:Addr},Step as H as1 H1->aQ K as1 m1 H1->H1 D=none->cJ K as1 H1 D env σ as1 m1 [] [] (aK H1 D (.lst [])):=λ{as1 H1 D} T1 S1 hD=>cJ.start (as:=as) (H:=H) S1 (G.mono S T1) hD
  -- over items that stay
  have seqs:∀(xs:List Wd),am K as H Q (xU (λx m=>af cl cond (env++[some x]) m) (λx m=>af cl elt (env++[some x]) m) xs [] m1) ->
    ∀as1 H1 J,Step as H as1 H1->aQ K as1 m1 H1->lq K as1 H1 J xs->∀D,H1 D=none->∃W:Nat->Nat->List V->Hp->Prop,(∃m,W 0 m [] (aK H1 D (.lst [])))/\∀i m ys H,W i m ys H ->
     (J.stop i H/\Q (.ref D) H)\/(J.go i H/\∀v H',J.yld i H v H'->∃vs,lH v H' vs/\tc (σ++vs.map some) H' λb H2=>if b=true then aM K (af cl elt) (σ++vs.map some) H2 λy H3=>H3 D=some (.lst ys)/\ys.length<sizeLine/\∃m',m'<m/\W (i+1) m' (ys++[y]) (aK H3 D (.lst (ys++[y])))
      else ∃m',m'<m/\W (i+1) m' ys H2):=by
   intro xs Pc as1 H1 J T1 S1 hI D hD;obtain⟨vs,ok,hJ,ok1,RL,stab⟩:=hI;have Pc1:=am.step Pc T1;have hlen:=RL.length;refine⟨λi n ys H'=>∃as' m' acc,i<=xs.length/\n=xs.length-i/\cJ K as1 H1 D env σ as' m' acc ys H'/\ok H'/\ae K as' H' xs vs /\
    am K as1 H1 Q (xU (λx m=>af cl cond (env++[some x]) m) (λx m=>af cl elt (env++[some x]) m) (xs.drop i) acc m'),
    ⟨xs.length,as1,m1,[],WY _,rfl,start T1 S1 hD,stab _ _ (S1.kp (start T1 S1 hD).T) ok1,RL.mono S1 (start T1 S1 hD).T,Pc1⟩,?_⟩
   rintro i n ys H' ⟨as',m',acc,hi,rfl,M,okH,RL',Pi⟩;by_cases hlt:i<xs.length
   .refine .inr ⟨hJ.go i H' okH (by rw[<-hlen];exact hlt),λv H'' hy=>?_⟩;obtain⟨rfl,hv⟩:=hJ.yld i H' v H'' okH (by rw[<-hlen];exact hlt) hy;obtain⟨v',hv',Rx⟩:=RL'.get (i:=i) (x:=xs[i]) (by simp[hlt]);rw[hv]at hv';cases hv';rw[WW hlt]at Pi;refine⟨[v],rfl,vv htc (sx:=[some v]) (next:=λacc m=>xU (λx m=>af cl cond (env++[some x]) m) (λx m=>af cl elt (env++[some x]) m) (xs.drop (i+1)) acc m) (N:=λzs H2=>∃n',n'<xs.length-i/\∃as' m' acc,i+1<=xs.length/\n'=xs.length-(i+1)/\cJ K as1 H1 D env σ as' m' acc zs H2/\ok H2/\ae K as' H2 xs vs/\am K as1 H1 Q (xU (λx m=>af cl cond (env++[some x]) m) (λx m=>af cl elt (env++[some x]) m) (xs.drop (i+1)) acc m')) hD M (M.G.push Rx) Pi ?_⟩;intro as2 m2 acc' ys' H2 kp g M2 P2;exact⟨xs.length-(i+1),by lia,as2,m2,acc',hlt,rfl,M2,stab _ _ kp okH,bg kp g _ _ RL',P2⟩
   .have e:i=xs.length:=by lia
    subst e;rw[List.drop_length]at Pi;exact .inl ⟨hJ.stop _ H' okH (by lia),wf M.S M.T hD M.hD M.n M.R Pi⟩
  cases w with
  |tup xs=>exact⟨rfl,λas1 H1 J T1 S1 hI=>seqs xs P' as1 H1 J T1 S1 hI⟩
  |rol xs=>exact⟨rfl,λas1 H1 J T1 S1 hI=>seqs xs P' as1 H1 J T1 S1 hI⟩
  |ref l=>
   have P2:am K as H Q (xW (λx m=>af cl cond (env++[some x]) m) (λx m=>af cl elt (env++[some x]) m) l (av+1) 0 [] m1):=P';refine⟨?_,λas1 H1 J T1 S1 hI D hD=>?_⟩
   .show (zA m1 l).isSome=true;cases e:zA m1 l with
    |some xs=>rfl
    |none=>
     unfold xW at P2;rw[e]at P2;exact P2.elim
   .obtain ⟨a,ha,rfl⟩:=hI;have Pc1:=am.step P2 T1;refine⟨λi n ys H'=>∃as' m' acc,as'[l]?=some a/\cJ K as1 H1 D env σ as' m' acc ys H' /\
     am K as1 H1 Q (xW (λx m=>af cl cond (env++[some x]) m) (λx m=>af cl elt (env++[some x]) m) l n i acc m'),⟨av+1,as1,m1,[],ha,start T1 S1 hD,Pc1⟩,?_⟩
    rintro i n ys H' ⟨as',m',acc,hl,M,Pi⟩;cases n with
    |zero=>exact Pi.elim
    |succ n=>
     unfold xW at Pi;cases e:zA m' l with
     |none=>rw[e]at Pi;exact Pi.elim
     |some xs=>
      rw[e]at Pi;simp only[]at Pi;obtain⟨a',vs,ha',eH,RL⟩:=zZ M.S (zK e);rw[hl]at ha';cases ha';cases ex:xs[i]? with
      |none=>
       rw[ex]at Pi;have hle:vs.length<=i:=by rw[<-RL.length];exact QV.mp ex
       exact .inl ⟨⟨vs,bj.of eH,hle⟩,wf M.S M.T hD M.hD M.n M.R Pi⟩
      |some x=>
       rw[ex]at Pi;obtain⟨v0,hv0,Rx⟩:=RL.get ex;refine .inr ⟨⟨vs,v0,bj.of eH,hv0⟩,λv H'' hy=>?_⟩;obtain⟨rfl,hy⟩:=hy;have:=hy vs (bj.of eH);rw[hv0]at this;cases this;refine⟨[v0],rfl,vv htc (sx:=[some v0]) (next:=λacc m=>xW (λx m=>af cl cond (env++[some x]) m) (λx m=>af cl elt (env++[some x]) m) l n (i+1) acc m) (N:=λzs H2=>∃n',n'<n+1/\∃as' m' acc,as'[l]?=some a/\cJ K as1 H1 D env σ as' m' acc zs H2/\am K as1 H1 Q (xW (λx m=>af cl cond (env++[some x]) m) (λx m=>af cl elt (env++[some x]) m) l n' (i+1) acc m')) hD M (M.G.push Rx) Pi ?_⟩;intro as2 m2 acc' ys' H2 kp g M2 P2;exact⟨n,Wj _,as2,m2,acc',g _ _ hl,M2,P2⟩
  |non=>exact P'.elim
  |bl k=>exact P'.elim
  |int i=>exact P'.elim
  |str s=>exact P'.elim
end
section
variable{K:Qb}{as:List Addr}{H H':Hp}{m:Me}{Q:VK}
def Ac (h:fT y=some k)(R:aj K as H y v):∃a,v=.ref a/\cb K H a (k.map V.int):=by
 cases y with
 |tup ws=>
  obtain⟨a,vs,rfl,q,r⟩:=ai.mp R;rw[kO h r]at q;exact⟨a,rfl,q⟩
 |_=>cases h
theorem tI:∀{xs:List TK}{ws:List Wd}{vs:List V}{q:List Int}{w:Wd},ae K as H ws vs->ay vs (xs.map (·.2.2))->dE (xs.map (·.1)) ws q=some w->∃p v,MZ xs q=some p/\RelV v p.2/\aj K as H w v
 |[],ws,vs,q,w,r,rv,h=>by cases ws<;>cases h
 |x::xs,ws,vs,q,w,r,rv,h=>by
  cases ws with
  |nil=>cases h
  |cons y ws=>
   obtain⟨v,vs',rfl,r1,r2⟩:=ao.mp r;cases rv with
   |cons p1 p2=>
    have h':(if x.1=q then some y else dE (xs.map (·.1)) ws q)=some w:=h;by_cases e:x.1=q
    .rw[Nj e]at h';cases h';exact⟨x.2,v,by simp[MZ,e],p1,r1⟩
    .rw[Nk e]at h';obtain⟨p,v',h1,h2,h3⟩:=tI r2 p2 h';exact⟨p,v',by simpa [MZ,Ws,e]using h1,h2,h3⟩
def F6 (S:aQ K as m H)(R:aj K as H x v)(R':aj K as H y u)(h:am K as H Q (gP x y m)):rX K v u H Q:=by
 unfold gP at h;cases x with
 |ref l=>
  obtain⟨a,ha,rfl⟩:=aE.mp R;dsimp only at h;cases e:m[l]? with
  |none=>rw[e]at h;exact h.elim
  |some o=>
   cases o with
   |lst ys=>rw[e]at h;exact h.elim
   |dct ks ws=>
    rw[e]at h;dsimp only at h;obtain⟨a',xs,vs,ha',td,rfl,r,rv,nd⟩:=nk S e;rw[ha]at ha';cases ha';cases ek:fT y with
    |none=>rw[ek]at h;exact h.elim
    |some k=>
     rw[ek]at h;obtain⟨b,rfl,qb⟩:=Ac ek R';cases ew:dE (xs.map (·.1)) ws k with
     |none=>simp only[W8,ew]at h;exact h.elim
     |some w=>
      simp only[W8,ew]at h;obtain⟨p,z,h1,h2,h3⟩:=tI r rv ew;exact⟨a,b,k,xs,p,rfl,rfl,qb,td,h1,z,h2,h.ok S h3⟩
 |_=>exact h.elim
def Ju:(storedH xs q a u).map (·.1)=wZ (xs.map (·.1)) q:=by
 unfold storedH wZ;by_cases h:q∈xs.map (·.1)
 .rw[Nj (bU.mpr h),Nj h,keys_map_putAt]
 .rw[Nk (λz=>h (bU.mp z)),Nk h,Ww];rfl
def Jt (h:ks.Nodup):(wZ ks q).Nodup:=by
 unfold wZ;by_cases z:q∈ks
 .rw[Nj z];exact h
 .rw[Nk z];refine Qz.mpr ⟨h,by simp,λx hx y hy e=>?_⟩;rw[QP.mp hy]at e;exact z (e▸hx)
theorem tV (Rw:aj K as H w v):∀{ks:List (List Int)}{ws:List Wd}{vs:List V},ae K as H ws vs->ae K as H (yB ks ws q w) (yB ks vs q v)
 |[],ws,vs,r=>r.append (.one Rw)
 |k::ks,ws,vs,r=>by
  cases ws with
  |nil=>obtain rfl:=aw.mp r;exact ae.one Rw
  |cons x ws=>
   obtain⟨y,vs',rfl,r1,r2⟩:=ao.mp r;show ae K as H (if k=q then w::ws else x::yB ks ws q w) (if k=q then v::vs' else y::yB ks vs' q v);by_cases e:k=q
   .rw[Nj e,Nj e];exact ao.mpr ⟨v,vs',rfl,Rw,r2⟩
   .rw[Nk e,Nk e];exact ao.mpr ⟨y,_,rfl,r1,tV Rw r2⟩
theorem tU:∀{ks:List (List Int)}{vs:List V},q∉ks->ks.length=vs.length->yB ks vs q v=vs++[v]
 |[],vs,_,_=>rfl
 |k::ks,[],_,h=>by cases h
 |k::ks,x::vs,hq,h=>by
  show(if k=q then v::vs else x::yB ks vs q v)=_;rw[Nk (λe=>hq (by simp[e])),tU (λz=>hq (by simp[z])) (by simpa using h)];rfl
theorem tT (ru:RelV v u):∀{xs:List TK}{vs:List V},(xs.map (·.1)).Nodup->q∈xs.map (·.1)->ay vs (xs.map (·.2.2))->ay (yB (xs.map (·.1)) vs q v) ((xs.map (putAt q u)).map (·.2.2))
 |[],vs,_,h,_=>by simp at h
 |x::xs,vs,nd,h,r=>by
  rw[QT,QI]at nd;cases r with
  |@cons y _ vs' _ p1 p2=>
   show ay (if x.1=q then v::vs' else y::yB (xs.map (·.1)) vs' q v) ((putAt q u x).2.2::(xs.map (putAt q u)).map (·.2.2));by_cases e:x.1=q
   .rw[Nj e,map_putAt_of_not_mem xs q u (e▸nd.1)];unfold putAt;rw[Nj e];exact .cons ru p2
   .rw[Nk e];unfold putAt;rw[Nk e];exact .cons p1 (tT ru nd.2 (by simpa [Ne.symm e]using h) p2)
def Js (ru:RelV v u)(nd:(xs.map (·.1)).Nodup)(r:ay vs (xs.map (·.2.2))):ay (yB (xs.map (·.1)) vs q v) ((storedH xs q a u).map (·.2.2)):=by
 unfold storedH;by_cases h:q∈xs.map (·.1)
 .rw[Nj (bU.mpr h)];exact tT ru nd h r
 .rw[Nk (λz=>h (bU.mp z)),Ww];rw[tU h (by have:=r.length;simp at this ⊢;lia)];exact r.append (.cons ru .nil)
def Ji {q:List Int}:∀x∈storedH xs q a u,(∃y∈xs,y.1=x.1/\y.2.1=x.2.1)\/(x.1=q/\x.2.1=a):=λx hx=>by
 unfold storedH at hx;split at hx
 .obtain ⟨y,hy,rfl⟩:=Wi.mp hx;refine .inl ⟨y,hy,?_⟩;unfold putAt;split<;>exact⟨rfl,rfl⟩
 .rcases QL.mp hx with z|z
  .exact .inl ⟨x,z,rfl,rfl⟩
  .rw[QP.mp z];exact .inr ⟨rfl,rfl⟩
def aQ.setD (S:aQ K as m H)(ha:as[l]?=some a)(hm:m[l]?=some (.dct ks ws))(td:jF K H a xs)(ek:xs.map (·.1)=ks)(r:ae K as H ws vs)(rv:ay vs (xs.map (·.2.2)))(nd:ks.Nodup)(qb:cb K H b (q.map V.int))(Rw:aj K as H w v)(ru:RelV v u):
  Step as H as (aK H a (wQ a (storedH xs q b u)))/\aQ K as (m.set l (.dct (wZ ks q) (yB ks ws q w))) (aK H a (wQ a (storedH xs q b u))):=by
 have hin:a∈as:=Qp ha;have T:Step as H as (aK H a (wQ a (storedH xs q b u))):=⟨⟨[],by simp⟩,λc o h hb=>by
  rw[zl (by rintro rfl;exact hb hin)];exact h,λc hb=>.inl hb⟩
 have kp:Kp K H (aK H a (wQ a (storedH xs q b u))):=i7 td.1 trivial;refine⟨T,⟨by simp[S.len],S.nd,λk c o h1 h2=>?_⟩⟩;by_cases hk:k=l
 .subst hk;rw[ha]at h1;cases h1;rw[QN (Qa.mp hm).1]at h2;cases h2;subst ek;refine⟨storedH xs q b u,yB (xs.map (·.1)) vs q v,⟨zm,λx hx=>?_⟩,Ju,(tV Rw r).kp kp,Js ru nd rv,Jt nd⟩;rcases Ji x hx with⟨y,hy,e1,e2⟩|⟨e1,e2⟩
  .rw[<-e1,<-e2];exact kp.t _ _ (td.2 y hy)
  .rw[e1,e2];exact kp.t _ _ qb
 .rw[Qw (Ne.symm hk)]at h2;have q':=S.obj k c o h1 h2;have hb:c≠a:=by
   rintro rfl;obtain⟨i1,e1⟩:=Qa.mp h1;obtain⟨i2,e2⟩:=Qa.mp ha;exact hk ((WI S.nd).mp (e1.trans e2.symm))
  exact bx.mono kp (λ_ _ e=>e) (λo e=>by rw[zl hb];exact e) q'
def aQ.updK(S:aQ K as m H)(k:Kp K H H')(e:∀a∈as,∀o,H a=some o->H' a=some o):aQ K as m H':=
 ⟨S.len,S.nd,λl b o h1 h2=>bx.mono k (λ_ _ e=>e) (e b (Qp h1)) (S.obj l b o h1 h2)⟩
def aQ.newD (S:aQ K as m H)(hp:H p=none):Step as H (as++[p]) (aK H p (wQ p []))/\aQ K (as++[p]) (m++[.dct [] []]) (aK H p (wQ p [])):=by
 have hn:=S.new hp;have T:Step as H (as++[p]) (aK H p (wQ p [])):=⟨⟨[p],rfl⟩,λb o h _=>by rw[zl (zr h hp)];exact h,λb hb=>by
  rcases QL.mp hb with z|z
  .exact .inl z
  .exact .inr (by rw[QP.mp z];exact hp)⟩
 refine⟨T,⟨by simp[S.len],?_,λl b o h1 h2=>?_⟩⟩
 .refine Qz.mpr ⟨S.nd,by simp,λx hx y hy=>?_⟩;rw[QP.mp hy];rintro rfl;exact hn hx
 .by_cases hl:l<as.length
  .rw[Qg hl]at h1;rw[Qg (by rw[<-S.len];exact hl)]at h2;exact bx.mono (S.kp T) (λ_ _ e=>T.get e) (λo e=>by rw[zl (zr e hp)];exact e) (S.obj l b o h1 h2)
  .rw[Qi (by lia)]at h1;rw[Qi (by rw[<-S.len];lia)]at h2;have hz:l-as.length=0:=by
    cases hq:l-as.length with
    |zero=>rfl
    |succ k=>rw[hq]at h1;simp at h1
   rw[hz]at h1;rw[<-S.len,hz]at h2;simp at h1 h2;subst h1;subst h2;exact⟨[],[],⟨zm,λx hx=>by simp at hx⟩,rfl,aw.mpr rfl,.nil,QB⟩
end
section
variable{cl:Nat->List Wd->Me->Rz}{X:Cx}{a b:Ex}{x y:Expr}{pos:Pos}
def Hv:PE X (.Dict [] [] pos) (aM X.K (af cl .dict0)):=by
 refine PE.imp HI λσ H Q h d hd=>?_;obtain⟨as,env,m,S,G,P⟩:=h;obtain⟨T,S'⟩:=S.newD hd;have P':am X.K as H Q (.ok (.ref m.length) (m++[.dct [] []])):=P;refine P' _ _ _ T S' (aE.mpr ⟨d,?_,rfl⟩);rw[<-S.len,Qi (Qk _)];simp
def F5(hu:X.A.units+64<Ms)(ha:PE X x (aM X.K (af cl a)))(hb:PE X y (aM X.K (af cl b)))(hs:yS y=true):PE X (.Subscript x y pos) (aM X.K (af cl (.dget a b))):=by
 have hp:qj y:=λo i=>by cases y<;>first|rfl|cases hs
 refine PE.imp (lu (oP hu) ha hb hp) λσ H Q h=>?_;obtain⟨as,env,m,S,G,P⟩:=h;refine⟨as,env,m,S,G,am.bind P λx m1 as1 H1 v T1 S1 R1 P1=>?_⟩;refine⟨as1,env,m1,S1,G.mono S T1,am.bind P1 λy m2 as2 H2 u T2 S2 R2 P2=>?_⟩;exact F6 S2 (R1.mono S1 T2) R2 P2
end
section
variable{cl:Nat->List Wd->Me->Rz}
def c7 {r:Rz}(h:r.bind f=.ok w m):∃x m1,r=.ok x m1/\f x m1=.ok w m:=by
 cases r with
 |ok x m1=>exact⟨x,m1,rfl,h⟩
 |exc c x m1=>cases h
 |no=>cases h
def F4 (hw:env[i]?=some (some w))(hs:∀s,w≠.str s):af cl (.cmp .eq (.var i) (.lit (.str k))) env m=.ok (.bl false) m\/af cl (.cmp .eq (.var i) (.lit (.str k))) env m=.no:=by
 show((match env[i]? with|some (some w)=>Rz.ok w m|_=>.no).bind λx m1=>(Rz.ok (.str k) m1).bind λy m2=>cZ .eq x y m2)=_\/((match env[i]? with|some (some w)=>Rz.ok w m|_=>.no).bind λx m1=>(Rz.ok (.str k) m1).bind λy m2=>cZ .eq x y m2)=_;rw[hw];cases w with
 |str s=>exact Nl rfl (hs s)
 |rol xs=>exact .inr rfl
 |ref l=>
  show dq (if aT m l&&true then some false else none) m=_\/dq (if aT m l&&true then some false else none) m=_;cases aT m l
  .exact .inr rfl
  .exact .inl rfl
 |_=>exact .inl rfl
def iL (h:af cl c env m=.ok (.bl false) m1):af cl (.ife c a b) env m=af cl b env m1:=by
 show(af cl c env m).bind _=_;rw[h];rfl
def ln (h:af cl c env m=.ok (.bl true) m1):af cl (.ife c a b) env m=af cl a env m1:=by
 show(af cl c env m).bind _=_;rw[h];rfl
def nc (h:af cl c env m=.no):af cl (.ife c a b) env m=.no:=by
 show(af cl c env m).bind _=_;rw[h];rfl
def jf (hw:env[i]?=some (some (.str s))):af cl (.cmp .eq (.var i) (.lit (.str k))) env m=.ok (.bl (decide (s=k))) m:=by
 show((match env[i]? with|some (some w)=>Rz.ok w m|_=>.no).bind λx m1=>(Rz.ok (.str k) m1).bind λy m2=>cZ .eq x y m2)=_;rw[hw];rfl
def F3 (h:af cl (w5 i k1 k2 k3 k4) env m=.ok w m'):m'=m/\(w=.non\/∃s j,env[i]?=some (some (.str s))/\w=.int j/\jH s k1 k2 k3 k4 (0:Int) 1 2 3=some j):=by
 unfold w5 at h;cases e:env[i]? with
 |none=>
  have:af cl (.cmp .eq (.var i) (.lit (.str k1))) env m=.no:=by
   show((match env[i]? with|some (some w)=>Rz.ok w m|_=>.no).bind _)=_;rw[e];rfl
  rw[nc this]at h;cases h
 |some o=>
  cases o with
  |none=>
   have:af cl (.cmp .eq (.var i) (.lit (.str k1))) env m=.no:=by
    show((match env[i]? with|some (some w)=>Rz.ok w m|_=>.no).bind _)=_;rw[e];rfl
   rw[nc this]at h;cases h
  |some x=>
   by_cases hs:∃s,x=.str s
   .obtain ⟨s,rfl⟩:=hs;unfold jH;by_cases q1:s=k1
    .rw[ln (by rw[jf e,Nn q1])]at h;cases h;exact⟨rfl,.inr ⟨s,0,rfl,rfl,by rw[Nj q1]⟩⟩
    rw[iL (by rw[jf e,Ni q1])]at h;by_cases q2:s=k2
    .rw[ln (by rw[jf e,Nn q2])]at h;cases h;exact⟨rfl,.inr ⟨s,1,rfl,rfl,by rw[Nk q1,Nj q2]⟩⟩
    rw[iL (by rw[jf e,Ni q2])]at h;by_cases q3:s=k3
    .rw[ln (by rw[jf e,Nn q3])]at h;cases h;exact⟨rfl,.inr ⟨s,2,rfl,rfl,by rw[Nk q1,Nk q2,Nj q3]⟩⟩
    rw[iL (by rw[jf e,Ni q3])]at h;by_cases q4:s=k4
    .rw[ln (by rw[jf e,Nn q4])]at h;cases h;exact⟨rfl,.inr ⟨s,3,rfl,rfl,by rw[Nk q1,Nk q2,Nk q3,Nj q4]⟩⟩
    rw[iL (by rw[jf e,Ni q4])]at h;cases h;exact⟨rfl,.inl rfl⟩
   .have hs':∀s,x≠.str s:=λs z=>hs ⟨s,z⟩;have go:∀{k:List Nat}{a b:Ex}{r:Rz},af cl (.ife (.cmp .eq (.var i) (.lit (.str k))) a b) env m=.ok w m'->af cl b env m=.ok w m':=λ{k a b r} h=>by
     rcases F4 (cl:=cl) (k:=k) (m:=m) e hs' with z|z
     .rw[iL z]at h;exact h
     .rw[nc z]at h;cases h
    have h:=go (r:=.no) (go (r:=.no) (go (r:=.no) (go (r:=.no) h)));cases h;exact⟨rfl,.inl rfl⟩
def Ab (h:af cl (.idx (wF a b c d) (w5 i k1 k2 k3 k4)) env m=.ok w m'):
  ∃wa m1 wb m2 wc m3 wd s,af cl a env m=.ok wa m1/\af cl b env m1=.ok wb m2/\af cl c env m2=.ok wc m3/\af cl d env m3=.ok wd m'/\env[i]?=some (some (.str s))/\jH s k1 k2 k3 k4 wa wb wc wd=some w:=by
 obtain⟨x,mx,h1,h2⟩:=c7 (show(af cl (wF a b c d) env m).bind (λx m1=>(af cl (w5 i k1 k2 k3 k4) env m1).bind λy m2=>jG x y m2)=_ from h);obtain⟨y,my,h3,h4⟩:=c7 h2;obtain⟨rfl,hy⟩:=F3 h3;obtain⟨z,mz,g1,g2⟩:=c7 (show(af cl (.pair a (.pair b (.pair c (.pair d .unit)))) env m).bind (λx m1=>if(zn x).length<=av then Rz.ok (.tup (zn x)) m1 else .no)=_ from h1);obtain⟨wa,m1,p1,q1⟩:=c7 (show(af cl a env m).bind (λx m1=>(af cl (.pair b (.pair c (.pair d .unit))) env m1).bind λy m2=>Rz.ok (.tup (x::zn y)) m2)=_ from g1);obtain⟨yb,n1,p2,q2⟩:=c7 q1;obtain⟨wb,m2,p3,q3⟩:=c7 (show(af cl b env m1).bind (λx m1=>(af cl (.pair c (.pair d .unit)) env m1).bind λy m2=>Rz.ok (.tup (x::zn y)) m2)=_ from p2);obtain⟨yc,n2,p4,q4⟩:=c7 q3;obtain⟨wc,m3,p5,q5⟩:=c7 (show(af cl c env m2).bind (λx m1=>(af cl (.pair d .unit) env m1).bind λy m2=>Rz.ok (.tup (x::zn y)) m2)=_ from p4);obtain⟨yd,n3,p6,q6⟩:=c7 q5;obtain⟨wd,m4,p7,q7⟩:=c7 (show(af cl d env m3).bind (λx m1=>(Rz.ok (.tup []) m1).bind λy m2=>Rz.ok (.tup (x::zn y)) m2)=_ from p6);cases q7;cases q6;cases q4;cases q2
 replace g2:(if([wa,wb,wc,wd]:List Wd).length<=av then Rz.ok (.tup [wa,wb,wc,wd]) mz else .no)=.ok x my:=g2
 rw[Nj (show([wa,wb,wc,wd]:List Wd).length<=av by show 4<=av;decide)]at g2;cases g2;rcases hy with rfl|⟨s,j,e,rfl,hj⟩
 .cases h4
 .refine ⟨wa,m1,wb,m2,wc,m3,wd,s,p1,p3,p5,?_,e,?_⟩
  .unfold jH at hj;split at hj
   .cases hj;cases h4;exact p7
   .split at hj
    .cases hj;cases h4;exact p7
    .split at hj
     .cases hj;cases h4;exact p7
     .split at hj
      .cases hj;cases h4;exact p7
      .cases hj
  .unfold jH at hj ⊢;split at hj
   .next z=>rw[Nj z];cases hj;cases h4;rfl
   .next z=>
    rw[Nk z];split at hj
    .next z=>rw[Nj z];cases hj;cases h4;rfl
    .next z=>
     rw[Nk z];split at hj
     .next z=>rw[Nj z];cases hj;cases h4;rfl
     .next z=>
      rw[Nk z];split at hj
      .next z=>rw[Nj z];cases hj;cases h4;rfl
      .cases hj
end
section
variable{cl:Nat->List Wd->Me->Rz}{X:Cx}{a b c d:Ex}{x1 x2 x3 x4:Expr}{pos p1 p2 p3 p4 pd pn:Pos}{s1 s2 s3 s4:Str}{i:Nat}{nm:Str}
def w9 {s:Str}(h:s.cps.toList=k):s=⟨k.toArray⟩:=by subst h;simp
def Aa {R:Wd->V->Prop}(h:jH s k1 k2 k3 k4 w1 w2 w3 w4=some w)(r1:R w1 v1)(r2:R w2 v2)(r3:R w3 v3)(r4:R w4 v4)(n12:k1≠k2)(n13:k1≠k3)(n14:k1≠k4)(n23:k2≠k3)(n24:k2≠k4)(n34:k3≠k4):
  ∃v,wq (xP [] [((Sum.inr ⟨k1.toArray⟩:bu),v1),(Sum.inr ⟨k2.toArray⟩,v2),(Sum.inr ⟨k3.toArray⟩,v3),(Sum.inr ⟨k4.toArray⟩,v4)]) (Sum.inr ⟨s.toArray⟩)=some v/\R w v:=by
 have inj:∀{p q:List Nat},p≠q->¬((Sum.inr ⟨p.toArray⟩:bu)=Sum.inr ⟨q.toArray⟩):=λh e=>by
  injection e with e;injection e with e
  exact h (by simpa using Nm WC e)
 have e:xP [] [((Sum.inr ⟨k1.toArray⟩:bu),v1),(Sum.inr ⟨k2.toArray⟩,v2),(Sum.inr ⟨k3.toArray⟩,v3),(Sum.inr ⟨k4.toArray⟩,v4)]=[((Sum.inr ⟨k1.toArray⟩:bu),v1),(Sum.inr ⟨k2.toArray⟩,v2),(Sum.inr ⟨k3.toArray⟩,v3),(Sum.inr ⟨k4.toArray⟩,v4)]:=by
  simp only[xP,Vz,jn,List.any_nil,WZ,QO,Q0,Ni (inj n12),Ni (inj n13),Ni (inj n14),Ni (inj n23),Ni (inj n24),Ni (inj n34),Bool.or_self,Qy,if_false]
 rw[e];unfold jH at h;split at h
 .next z=>subst z;cases h;exact⟨v1,we rfl,r1⟩
 .next z1=>
  rw[wG (inj (Ne.symm z1))];split at h
  .next z=>subst z;cases h;exact⟨v2,we rfl,r2⟩
  .next z2=>
   rw[wG (inj (Ne.symm z2))];split at h
   .next z=>subst z;cases h;exact⟨v3,we rfl,r3⟩
   .next z3=>
    rw[wG (inj (Ne.symm z3))];split at h
    .next z=>subst z;cases h;exact⟨v4,we rfl,r4⟩
    .cases h
def EI {c1 c2 c3 c4}(hu:X.A.units+64<Ms)(e1:s1.cps.toList=k1)(e2:s2.cps.toList=k2)(e3:s3.cps.toList=k3)(e4:s4.cps.toList=k4)(n12:k1≠k2)(n13:k1≠k3)(n14:k1≠k4)(n23:k2≠k3)(n24:k2≠k4)(n34:k3≠k4)(ha:PE X x1 (aM X.K (af cl a)))(hb:PE X x2 (aM X.K (af cl b)))(hc:PE X x3 (aM X.K (af cl c)))(hd:PE X x4 (aM X.K (af cl d)))(hv:PE X (.Name nm pn) (kK i)):
  PE X (.Subscript (.Dict [some (.Constant (.str s1) c1 p1),some (.Constant (.str s2) c2 p2),some (.Constant (.str s3) c3 p3),some (.Constant (.str s4) c4 p4)] [x1,x2,x3,x4] pd) (.Name nm pn) pos) (aM X.K (af cl (.idx (wF a b c d) (w5 i k1 k2 k3 k4)))):=by
 obtain rfl:=w9 e1;obtain rfl:=w9 e2;obtain rfl:=w9 e3;obtain rfl:=w9 e4;refine PE.imp (FI (by lia) (FH (xC wu ha (xC wu hb (xC wu hc (xC wu hd tZ)))) rfl rfl (by simp) (by show 4<=15;decide)) hv λ_ _=>rfl) λσ H Q h=>?_;obtain⟨as,env,m,S,G,P⟩:=h;cases hr:af cl (.idx (wF a b c d) (w5 i k1 k2 k3 k4)) env m with
 |no=>rw[hr]at P;exact P.elim
 |exc c w m'=>rw[hr]at P;exact P.elim
 |ok w m'=>
  rw[hr]at P;obtain⟨wa,m1,wb,m2,wc,m3,wd,s,ea,eb,ec,ed,es,hp⟩:=Ab hr;intro p hpn;have T0:Step as H as (aK H p (.dK [])):=⟨⟨[],by simp⟩,λb o h _=>by rw[zl (zr h hpn)];exact h,λb hb=>.inl hb⟩;have S0:aQ X.K as m (aK H p (.dK [])):=S.keep T0 λb _ o e=>by rw[zl (zr e hpn)];exact e
  have G0:=G.mono S T0;have h0:aK H p (.dK []) p=some (.dK []):=zm;have n0:p∉as:=S.new hpn;refine⟨as,env,m,S0,G0,?_⟩;rw[ea];intro as1 H1 va T1 S1 R1;have h1:=T1.frame _ _ h0 n0;have n1:=T1.out h0 n0;have G1:=G0.mono S0 T1;refine⟨as1,env,m1,S1,G1,?_⟩;rw[eb];intro as2 H2 vb T2 S2 R2;have h2:=T2.frame _ _ h1 n1;have n2:=T2.out h1 n1;have G2:=G1.mono S1 T2;refine⟨as2,env,m2,S2,G2,?_⟩;rw[ec];intro as3 H3 vc T3 S3 R3;have h3:=T3.frame _ _ h2 n2;have n3:=T3.out h2 n2;have G3:=G2.mono S2 T3;refine⟨as3,env,m3,S3,G3,?_⟩;rw[ed];intro as4 H4 vd T4 S4 R4;have h4:=T4.frame _ _ h3 n3;have n4:=T4.out h3 n3;obtain⟨vs,hvs,rs⟩:=G.get i _ es;obtain rfl:=aB.mp rs;obtain⟨v,hv1,hv2⟩:=Aa (R:=aj X.K as4 H4) hp (((R1.mono S1 T2).mono S2 T3).mono S3 T4) ((R2.mono S2 T3).mono S3 T4) (R3.mono S3 T4) R4 n12 n13 n14 n23 n24 n34;refine⟨h4,[((Sum.inr ⟨k1.toArray⟩:bu),va),(Sum.inr ⟨k2.toArray⟩,vb),(Sum.inr ⟨k3.toArray⟩,vc),(Sum.inr ⟨k4.toArray⟩,vd)],rfl,(by show 4<=15;decide),?_⟩;refine⟨.str ⟨s.toArray⟩,hvs,p,v,rfl,.inl ⟨_,Sum.inr ⟨s.toArray⟩,.inl zm,rfl,hv1.symm⟩,?_⟩;generalize xP [] [((Sum.inr ⟨k1.toArray⟩:bu),va),(Sum.inr ⟨k2.toArray⟩,vb),(Sum.inr ⟨k3.toArray⟩,vc),(Sum.inr ⟨k4.toArray⟩,vd)]=mk;have T04:=((T0.trans T1).trans T2).trans (T3.trans T4);have T5:Step as H as4 (aK H4 p (.dK mk)):=⟨T04.pre,λb o h hb=>by rw[zl (zr h hpn)];exact T04.frame b o h hb,T04.fresh⟩;have k6:Kp X.K H4 (aK H4 p (.dK mk)):=i7 h4 trivial;exact P as4 _ v T5 (S4.updK k6 λb hb o e=>by rw[zl (by rintro rfl;exact n4 hb)];exact e) (hv2.kp k6)
end
section
variable{cl:Nat->List Wd->Me->Rz}{X:Cx}
def Dp(x y:Int)(env:En)(m:Me):af cl (du x y) env m=.ok (.tup [.int x,.int y]) m:=
 Nj (e:=Rz.no) (c:=([Wd.int x,.int y]:List Wd).length<=av) (show 2<=av by decide)
def kq {K:Qb}(h:lg K b [.int x,.int y])(as:List Addr)(H:Hp):aj K as H (.tup [.int x,.int y]) (.ref b):=
 ai.mpr ⟨b,[.int x,.int y],rfl,.inr h,ao.mpr ⟨_,_,rfl,aa.mpr rfl,ao.mpr ⟨_,_,rfl,aa.mpr rfl,aw.mpr rfl⟩⟩⟩
def EH (n12:k1≠k2)(n13:k1≠k3)(n14:k1≠k4)(n23:k2≠k3)(n24:k2≠k4)(n34:k3≠k4)(hd:PE X (.Name dn pd) (tC (.ref a)))(D:iE X.K X.w a [(k1,x1,y1),(k2,x2,y2),(k3,x3,y3),(k4,x4,y4)])(hv:PE X (.Name nm pn) (kK i)):
  PE X (.Subscript (.Name dn pd) (.Name nm pn) pos) (aM X.K (af cl (.idx (wF (du x1 y1) (du x2 y2) (du x3 y3) (du x4 y4)) (w5 i k1 k2 k3 k4)))):=by
 refine PE.imp (lu oQ hd hv (λ_ _=>rfl)) λσ H Q h=>?_;obtain⟨as,env,m,S,G,P⟩:=h;cases hr:af cl (.idx (wF (du x1 y1) (du x2 y2) (du x3 y3) (du x4 y4)) (w5 i k1 k2 k3 k4)) env m with
 |no=>rw[hr]at P;exact P.elim
 |exc c w m'=>rw[hr]at P;exact P.elim
 |ok w m'=>
  rw[hr]at P;obtain⟨wa,m1,wb,m2,wc,m3,wd,s,ea,eb,ec,ed,es,hp⟩:=Ab hr;rw[Dp]at ea eb ec ed;cases ea;cases eb;cases ec;cases ed;obtain⟨vs,hvs,rs⟩:=G.get i _ es;obtain rfl:=aB.mp rs;obtain⟨o,ep,kvs,hK,f,dv⟩:=BF (P:=X.prog) D (by simp[n12,n13,n14,n23,n24,n34])
  match kvs,f,dv with
  |[],f,dv=>cases(show _=_ from dv)
  |u1::[],f,dv=>obtain⟨_,_,_,_,b1,e,rfl,t1,dv⟩:=dv;cases e;cases(show _=_ from dv)
  |u1::u2::[],f,dv=>
   obtain⟨_,_,_,_,b1,e,rfl,t1,dv⟩:=dv;cases e;obtain⟨_,_,_,_,b2,e,rfl,t2,dv⟩:=dv;cases e;cases(show _=_ from dv)
  |u1::u2::u3::[],f,dv=>
   obtain⟨_,_,_,_,b1,e,rfl,t1,dv⟩:=dv;cases e;obtain⟨_,_,_,_,b2,e,rfl,t2,dv⟩:=dv;cases e;obtain⟨_,_,_,_,b3,e,rfl,t3,dv⟩:=dv;cases e;cases(show _=_ from dv)
  |u1::u2::u3::u4::r,f,dv=>
   obtain⟨_,_,_,_,b1,e,rfl,t1,dv⟩:=dv;cases e;obtain⟨_,_,_,_,b2,e,rfl,t2,dv⟩:=dv;cases e;obtain⟨_,_,_,_,b3,e,rfl,t3,dv⟩:=dv;cases e;obtain⟨_,_,_,_,b4,e,rfl,t4,dv⟩:=dv;cases e;cases r with
   |cons _ _=>obtain⟨_,_,_,_,_,e,_⟩:=dv;cases e
   |nil=>
    obtain⟨v,hv1,hv2⟩:=Aa (R:=aj X.K as H) hp (kq t1 as H) (kq t2 as H) (kq t3 as H) (kq t4 as H) n12 n13 n14 n23 n24 n34;have nd:([((Sum.inr ⟨k1.toArray⟩:bu),V.ref b1),(Sum.inr ⟨k2.toArray⟩,.ref b2),(Sum.inr ⟨k3.toArray⟩,.ref b3),(Sum.inr ⟨k4.toArray⟩,.ref b4)].map (·.1)).Nodup:=by simp[n12,n13,n14,n23,n24,n34]
    rw[gX nd (ps:=[]) (by simpa using nd),QO]at hv1;exact⟨.str ⟨s.toArray⟩,hvs,a,o,ep,_,Sum.inr ⟨s.toArray⟩,v,rfl,rfl,f,hK,hv1,P as H v Step.refl S hv2⟩
end
end Mini
namespace Mini
open PySem L2
def JO (h0:(a==LL)=false)(h1:K.lookup a=some ⟨.type "dict",none,.dict #[⟨e1,.str ⟨⟨k1⟩⟩ t1,.ref b1⟩,⟨e2,.str ⟨⟨k2⟩⟩ t2,.ref b2⟩,⟨e3,.str ⟨⟨k3⟩⟩ t3,.ref b3⟩,⟨e4,.str ⟨⟨k4⟩⟩ t4,.ref b4⟩] ep,#[]⟩)(u1:K.lookup b1=some ⟨.type "tuple",o1,.seq #[.int x1 r1,.int y1 z1] n1,l1⟩)(u2:K.lookup b2=some ⟨.type "tuple",o2,.seq #[.int x2 r2,.int y2 z2] n2,l2⟩)(u3:K.lookup b3=some ⟨.type "tuple",o3,.seq #[.int x3 r3,.int y3 z3] n3,l3⟩)(u4:K.lookup b4=some ⟨.type "tuple",o4,.seq #[.int x4 r4,.int y4 z4] n4,l4⟩)(q1:e1=LI w ⟨⟨k1⟩⟩)(q2:e2=LI w ⟨⟨k2⟩⟩)(q3:e3=LI w ⟨⟨k3⟩⟩)(q4:e4=LI w ⟨⟨k4⟩⟩):iE K w a [(k1,x1,y1),(k2,x2,y2),(k3,x3,y3),(k4,x4,y4)]:=by
 have tk:∀{b:Addr}{o:Option Addr}{l:Array (Option Value)}{x y:Int}{r z:Tok}{n:Nat},K.lookup b=some ⟨.type "tuple",o,.seq #[.int x r,.int y z] n,l⟩->lg K b [.int x,.int y]:=λh=>
  ⟨_,_,_,h,rfl,rfl,(show 2<=sizeLine by decide),.cons ⟨_,rfl⟩ (.cons ⟨_,rfl⟩ .nil)⟩
 exact⟨h0,_,_,_,h1,⟨rfl,rfl,rfl⟩,rfl,_,_,_,_,_,_,rfl,rfl,q1,rfl,tk u1,_,_,_,_,_,_,rfl,rfl,q2,rfl,tk u2,_,_,_,_,_,_,rfl,rfl,q3,rfl,tk u3,_,_,_,_,_,_,rfl,rfl,q4,rfl,tk u4,rfl⟩
end Mini
namespace Mini
open PySem PySem.Spec PyProof.Rows L2
section
variable{X:Cx}{cl:Nat->List Wd->Me->Rz}
def oG(t u:Tg)(w:Wd)(m:Me):Rz:=(dq (cY t w m) m).bind λx m1=>match x with
 |.bl false=>dq (cY u w m1) m1
 |.bl true=>.ok (.bl true) m1
 |_=>.no
def BC(K:Qb)(t u:Tg):List V->Hp->VK->Prop:=λvs H Q=>∃as m w v p,vs=[v,.ref p]/\cb K H p [.ty (bT t),.ty (bT u)]/\aQ K as m H/\aj K as H w v/\am K as H Q (oG t u w m)
def HC(t u:Tg):bG X (.builtin "isinstance") (BC X.K t u):=by
 intro pins s σ H xs us Q I r h;obtain⟨as,m,w,v,p,rfl,hp,S,R,q⟩:=h;obtain⟨u1,u2,rfl,ru,ru'⟩:=iK r;obtain rfl:u2=.ref p:=ru';obtain⟨its,rt,⟨o,g1,g2,n,g3⟩,_⟩:=I.tuple hp;obtain⟨i1,i2,rfl,r1,r2⟩:=iK rt;obtain rfl:i1=.type (bT t):=r1;obtain rfl:i2=.type (bT u):=r2;obtain⟨oc,od,odt,osl⟩:=o;simp only[]at g2 g3;subst g2;subst g3;obtain⟨k1,k2,k3,k4,k5,k6,k7⟩:=qy X.K t;obtain⟨z1,z2,z3,z4,z5,z6,z7⟩:=nj m t;obtain⟨l1,l2,l3,l4,l5,l6,l7⟩:=qy X.K u;obtain⟨y1,y2,y3,y4,y5,y6,y7⟩:=nj m u;have fin:∀{x T:Value}{Hh:LK->Prop}(Z:PySem.W.KitX X.K x T Hh) (hh:Hh s.heap) {b1 b2:Bool}(e1:QC X.K T (.type (bT t))=some b1) (e2:QC X.K T (.type (bT u))=some b2) (j1:cY t w m=some b1) (j2:cY u w m=some b2) (hx:x≠.builtin "__main__.__loader__#opaque"),
   LV (LW X.prog X.w) X.A (call (.builtin "isinstance") [x,.ref p]) (λv s'=>EP X pins σ Q v s') X.xe s:=by
  intro x T Hh Z hh b1 b2 e1 e2 j1 j2 hx;have ka:WK X.K T [.type (bT t),.type (bT u)]=some (b1 || b2):=by
   show(match QC X.K T (.type (bT t))with|some true=>some true|some false=>WK X.K T [.type (bT u)]|none=>none)=_;rw[e1];cases b1 with
   |true=>rfl
   |false=>
    show(match QC X.K T (.type (bT u))with|some true=>some true|some false=>WK X.K T []|none=>none)=_;rw[e2];cases b2<;>rfl
  refine PySem.W.kia_tup Z I.kIn hh g1 ka hx λtk=>⟨.bl (b1 || b2),H,I.tok tk,rfl,?_⟩;unfold oG at q;rw[j1]at q;cases b1 with
  |true=>exact am.ok (m:=m) q S (ah.mpr rfl)
  |false=>
   replace q:am X.K as H Q (dq (cY u w m) m):=q
   rw[j2]at q;exact am.ok (m:=m) q S (ah.mpr rfl)
 cases w with
 |non=>
  obtain rfl:=aq.mp R;cases(show u1=Value.none from ru);exact fin PySem.W.kitx_none True.intro k1 l1 z1 y1 (λz=>nomatch z)
 |bl c=>
  obtain rfl:=ah.mp R;cases(show u1=Value.bool c from ru);exact fin PySem.W.kitx_bool True.intro k2 l2 (z2 _) (y2 _) (λz=>nomatch z)
 |int i=>
  obtain rfl:=aa.mp R;obtain⟨tk,rfl⟩:=(show ∃tk,u1=Value.int i tk from ru);exact fin PySem.W.kitx_int True.intro k3 l3 (z3 _) (y3 _) (λz=>nomatch z)
 |str x=>
  obtain rfl:=aB.mp R;obtain⟨tk,rfl⟩:=(show ∃tk,u1=Value.str _ tk from ru);exact fin PySem.W.kitx_str True.intro k4 l4 (z4 _) (y4 _) (λz=>nomatch z)
 |tup ys=>
  obtain⟨a,vs,rfl,hq,rr⟩:=ai.mp R;obtain rfl:u1=.ref a:=ru;obtain⟨its,_,⟨o,h1,h2,_⟩,_⟩:=I.tuple hq;exact fin Vf ⟨o,h1,h2⟩ k6 l6 (z5 _) (y5 _) (λz=>nomatch z)
 |rol ys=>
  obtain⟨a,vs,rfl,hq,rr⟩:=ba.mp R;obtain rfl:u1=.ref a:=ru;obtain⟨its,_,pp,_⟩:=I.list hq.sq;obtain⟨o,n,h1,h2,_⟩:=pp;exact fin Wy ⟨o,h1,h2⟩ k5 l5 (z6 _) (y6 _) (λz=>nomatch z)
 |ref l=>
  obtain⟨a,ha,rfl⟩:=aE.mp R;obtain rfl:u1=.ref a:=ru;have hlm:l<m.length:=by rw[<-S.len];exact(Qa.mp ha).1
  have hg:m[l]?=some m[l]:=by simp[hlm]
  cases ho:m[l]with
  |lst ys=>
   rw[ho]at hg;obtain⟨a',us,ha',e2,_⟩:=zZ S hg;rw[ha]at ha';cases ha';obtain⟨its,_,pp,_⟩:=I.list (bj.of e2);obtain⟨o,n,h1,h2,_⟩:=pp;exact fin Wy ⟨o,h1,h2⟩ k5 l5 (z7 _ _ hg) (y7 _ _ hg) (λz=>nomatch z)
  |dct ks us=>
   rw[ho]at hg;obtain⟨a',ha',xs,vs,td,_⟩:=S.get hg;rw[ha]at ha';cases ha';exact fin WS (wY I td).2.typeIs k7 l7 (qz m t hg) (qz m u hg) (λz=>nomatch z)
def EG (hC:bv C X cl d)(hg:X.env.scope.names.lookup ("isinstance":Str)=some .globalImplicit)(hg1:X.env.scope.names.lookup (Str.ofString (bT t))=some .globalImplicit)(hg2:X.env.scope.names.lookup (Str.ofString (bT u))=some .globalImplicit)(hv:PE X (.Name nm pv) (kK i)):PE X (.Call (.Name "isinstance" p) [.Name nm pv,.Tuple [.Name (Str.ofString (bT t)) p1,.Name (Str.ofString (bT u)) p2] k pt] [] pos) (aM X.K (af cl (.or (.isi t (.var i)) (.isi u (.var i))))):=by
 have hty:∀(t:Tg) (p':Pos),X.env.scope.names.lookup (Str.ofString (bT t))=some .globalImplicit->PE X (.Name (Str.ofString (bT t)) p') (tC (.ty (bT t))):=λt p' h=>qe h (hC.blt _ (by cases t<;>decide +kernel)) (tX t) rfl (by cases t<;>decide +kernel) (by cases t<;>decide +kernel);refine PE.imp (yQ (HC t u) hg (hC.blt _ (by simp[zy])) PyProof.Rows.boot_isinstance (zS hv (zS (nn (zS (hty t p1 hg1) (zS (hty u p2 hg2) xf))) xf)) (by decide +kernel) (by decide +kernel) rfl rfl) λσ H Q h=>?_;obtain⟨as,env,m,S,G,P⟩:=h;cases hw:env[i]? with
 |none=>
  have P':am X.K as H Q (((match env[i]? with|some (some w)=>Rz.ok w m|_=>.no).bind λx m1=>dq (cY t x m1) m1).bind λx m1=>match x with |.bl false=>af cl (.isi u (.var i)) env m1 |.bl true=>.ok (.bl true) m1|_=>.no):=P;rw[hw]at P';exact P'.elim
 |some o=>
  have P':am X.K as H Q (((match env[i]? with|some (some w)=>Rz.ok w m|_=>.no).bind λx m1=>dq (cY t x m1) m1).bind λx m1=>match x with |.bl false=>(match env[i]? with|some (some w)=>Rz.ok w m1|_=>.no).bind λx m2=>dq (cY u x m2) m2 |.bl true=>.ok (.bl true) m1|_=>.no):=P;rw[hw]at P';cases o with
  |none=>exact P'.elim
  |some w=>
   obtain⟨v,hv,R⟩:=G.get i w hw;refine⟨v,hv,by show 2<=sizeLine;decide,λq hq=>?_⟩;have T:Step as H as (aK H q (.tup [.ty (bT t),.ty (bT u)])):=⟨⟨[],by simp⟩,λb o h _=>by rw[zl (zr h hq)];exact h,λb hb=>.inl hb⟩;exact⟨as,m,w,v,q,rfl,cb.of zm,S.keep T λb _ o e=>by rw[zl (zr e hq)];exact e,R.mono S T,am.step (r:=oG t u w m) P' T⟩
end
section
set_option tactic.hygienic false
variable{cl:Nat->List Wd->Me->Rz}
def bX.pe (h:bX cl X e (.e x))(hr:zo e=false):PE X x (aM X.K (af cl e)):=(h.1 hr).1
def bX.pt (h:bX cl X e (.e x))(hr:zo e=false)(hi:vU e=false):PT X x (xY X.K (af cl e)):=(h.1 hr).2.1 hi
def bX.pw (h:bX cl X e (.e (.BoolOp op vs pos)))(hr:zo e=false):PW X (.BoolOp op vs pos) (xY X.K (af cl e)):=(h.1 hr).2.2 op vs pos rfl
def bX.pa (h:bX cl X e (.a xs)):PA X xs (kj X.K (af cl e)):=h
def vV (h:gB sc x=true):io sc x:=by
 unfold gB at h;simp only[Wx,Np]at h;exact h
def yI (h:cA sc x=true):sc.names.lookup x=some .globalImplicit:=No h
def ku {K:Qb}(hv:∀as H,aj K as H w v):∀σ H Q,aM K (af cl (.lit w)) σ H Q->tC v σ H Q:=λσ H Q h=>by
 obtain⟨as,env,m,S,G,P⟩:=h;exact am.ok (m:=m) P S (hv as H)
def x6 (hs:yK y=true):∀v,Mm y env v=pure v:=λv=>by
 cases y<;>first|rfl|cases hs
structure aD(C:Ctx)(sc:LA)(N:List Str)(e:Ex)(n:Nd):Prop where
 h:∀(cl:Nat → List Wd → Me → Rz) (d:Nat) (X:Cx),bv C X cl d → X.env.scope=sc → X.N=N → bX cl X e n
def ye (h:aD C sc N e n):∀X:Cx,bv C X cl d->X.env.scope=sc->X.N=N->bX cl X e n:=h.h cl d
def aD.«var»{C:Ctx}{sc:LA}{N:List Str}{i:Nat}{x:Str}{p:Pos}(h1:N[i]?=some x)(h2:gB sc x=true)(h3:zP x=true):aD C sc N (.var i) (.e (.Name x p)):=by
 constructor;intro cl d;intro X hC es eN;subst es;subst eN;obtain⟨n1,n2,_⟩:=yN h3;refine bX.of (PE.imp (wV h1 (vV h2) n1 n2) λσ H Q q=>?_);obtain⟨as,env,m,S,G,P⟩:=q;cases hw:env[i]? with
 |none=>have P':am X.K as H Q (match env[i]? with|some (some w)=>.ok w m|_=>.no):=P;rw[hw]at P';exact P'.elim
 |some o=>
  cases o with
  |none=>have P':am X.K as H Q (match env[i]? with|some (some w)=>.ok w m|_=>.no):=P;rw[hw]at P';exact P'.elim
  |some w=>
   have P':am X.K as H Q (match env[i]? with|some (some w)=>.ok w m|_=>.no):=P;rw[hw]at P';obtain⟨v,hv,R⟩:=G.get i w hw;exact⟨v,hv,am.ok (m:=m) P' S R⟩
def aD.«non»{C:Ctx}{sc:LA}{N:List Str}{k}{p:Pos}:aD C sc N (.lit .non) (.e (.Constant .none k p)):=by
 constructor;intro cl d;intro X hC es eN;exact bX.of (PE.imp D0 (ku λ_ _=>aq.mpr rfl))
def aD.«bl»{C:Ctx}{sc:LA}{N:List Str}{b:Bool}{k}{p:Pos}:aD C sc N (.lit (.bl b)) (.e (.Constant (.bool b) k p)):=by
 constructor;intro cl d;intro X hC es eN;exact bX.of (PE.imp r9 (ku λ_ _=>ah.mpr rfl))
def aD.«int»{C:Ctx}{sc:LA}{N:List Str}{i:Int}{k}{p:Pos}:aD C sc N (.lit (.int i)) (.e (.Constant (.int i) k p)):=by
 constructor;intro cl d;intro X hC es eN;exact bX.of (PE.imp D1 (ku λ_ _=>aa.mpr rfl))
def aD.«str»{C:Ctx}{sc:LA}{N:List Str}{s:Str}{t:List Nat}{k}{p:Pos}(h:s.cps.toList=t):aD C sc N (.lit (.str t)) (.e (.Constant (.str s) k p)):=by
 constructor;intro cl d;intro X hC es eN;subst h;exact bX.of (PE.imp wu (ku λ_ _=>aB.mpr (by simp)))
def aD.«con»{C:Ctx}{sc:LA}{N:List Str}{x:Str}{i:Int}{p:Pos}(h1:cA sc x=true)(h2:C.cons.lookup x=some i)(h3:zP x=true):aD C sc N (.lit (.int i)) (.e (.Name x p)):=by
 constructor;intro cl d;intro X hC es eN;subst es;obtain⟨n1,n2,_⟩:=yN h3;obtain⟨t,ht⟩:=hC.con.1 x i h2;exact bX.of (PE.imp (jp (yI h1) ht (v:=.int i) ⟨t,rfl⟩ n1) (ku λ_ _=>aa.mpr rfl))
def aD.«bin»{C:Ctx}{sc:LA}{N:List Str}{op:Bo}{a b:Ex}{x y:Expr}{p:Pos}(ra:zo a=false)(ha:aD C sc N a (.e x))(rb:zo b=false)(hb:aD C sc N b (.e y)):aD C sc N (.bin op a b) (.e (.BinOp x (ig op) y p)):=by
 constructor;intro cl d;have iha:=ha.h cl d;have ihb:=hb.h cl d;intro X hC es eN;exact bX.of (CL ((iha X hC es eN).pe ra) ((ihb X hC es eN).pe rb))
def aD.«neg»{C:Ctx}{sc:LA}{N:List Str}{a:Ex}{x:Expr}{p:Pos}(ra:zo a=false)(ha:aD C sc N a (.e x)):aD C sc N (.neg a) (.e (.UnaryOp .USub x p)):=by
 constructor;intro cl d;have iha:=ha.h cl d;intro X hC es eN;exact bX.of (CK ((iha X hC es eN).pe ra))
def aD.«not»{C:Ctx}{sc:LA}{N:List Str}{a:Ex}{x:Expr}{p:Pos}(ra:zo a=false)(ia:vU a=false)(ha:aD C sc N a (.e x)):aD C sc N (.not a) (.e (.UnaryOp .Not x p)):=by
 constructor;intro cl d;have iha:=ha.h cl d;intro X hC es eN;have s1:=iha X hC es eN;exact⟨λ_=>⟨tz (s1.pe ra),λ_=>Dz (s1.pt ra ia),λop vs pos z=>by cases z⟩,λtg=>kf (tz (s1.pe ra))⟩
def aD.«and2»{C:Ctx}{sc:LA}{N:List Str}{a b:Ex}{x y:Expr}{p:Pos}(ra:zo a=false)(ia:vU a=false)(ha:aD C sc N a (.e x))(rb:zo b=false)(ib:vU b=false)(hb:aD C sc N b (.e y)):aD C sc N (.and a b) (.e (.BoolOp .And [x,y] p)):=by
 constructor;intro cl d;have iha:=ha.h cl d;have ihb:=hb.h cl d;intro X hC es eN;have sa:=iha X hC es eN;have sb:=ihb X hC es eN;have e:=λ(p:Pos)=>tx (pos:=p) (sa.pe ra) (nu (sb.pe rb));have w:=λ(p:Pos)=>tw (pos:=p) (sa.pt ra ia) (F1 (sb.pt rb ib));exact⟨λ_=>⟨e _,λ_=>(w _).pt,λop vs pos z=>by cases z;exact w _⟩,λtg=>kf (e _)⟩
def aD.«andN»{C:Ctx}{sc:LA}{N:List Str}{a b:Ex}{x y z:Expr}{r:List Expr}{p:Pos}(ra:zo a=false)(ia:vU a=false)(ha:aD C sc N a (.e x))(rb:zo b=false)(hb:aD C sc N b (.e (.BoolOp .And (y::z::r) p))):aD C sc N (.and a b) (.e (.BoolOp .And (x::y::z::r) p)):=by
 constructor;intro cl d;have iha:=ha.h cl d;have ihb:=hb.h cl d;intro X hC es eN;have sa:=iha X hC es eN;have sb:=ihb X hC es eN;have e:=tx (sa.pe ra) (sb.pe rb);have w:=tw (sa.pt ra ia) (sb.pw rb);exact⟨λ_=>⟨e,λ_=>w.pt,λop vs pos z=>by cases z;exact w⟩,λtg=>kf e⟩
def aD.«or2»{C:Ctx}{sc:LA}{N:List Str}{a b:Ex}{x y:Expr}{p:Pos}(ra:zo a=false)(ia:vU a=false)(ha:aD C sc N a (.e x))(rb:zo b=false)(ib:vU b=false)(hb:aD C sc N b (.e y)):aD C sc N (.or a b) (.e (.BoolOp .Or [x,y] p)):=by
 constructor;intro cl d;have iha:=ha.h cl d;have ihb:=hb.h cl d;intro X hC es eN;have sa:=iha X hC es eN;have sb:=ihb X hC es eN;have e:=λ(p:Pos)=>sB (pos:=p) (sa.pe ra) (nu (sb.pe rb));have w:=λ(p:Pos)=>sA (pos:=p) (sa.pt ra ia) (DZ (sb.pt rb ib));exact⟨λ_=>⟨e _,λ_=>(w _).pt,λop vs pos z=>by cases z;exact w _⟩,λtg=>kf (e _)⟩
def aD.«orN»{C:Ctx}{sc:LA}{N:List Str}{a b:Ex}{x y z:Expr}{r:List Expr}{p:Pos}(ra:zo a=false)(ia:vU a=false)(ha:aD C sc N a (.e x))(rb:zo b=false)(hb:aD C sc N b (.e (.BoolOp .Or (y::z::r) p))):aD C sc N (.or a b) (.e (.BoolOp .Or (x::y::z::r) p)):=by
 constructor;intro cl d;have iha:=ha.h cl d;have ihb:=hb.h cl d;intro X hC es eN;have sa:=iha X hC es eN;have sb:=ihb X hC es eN;have e:=sB (sa.pe ra) (sb.pe rb);have w:=sA (sa.pt ra ia) (sb.pw rb);exact⟨λ_=>⟨e,λ_=>w.pt,λop vs pos z=>by cases z;exact w⟩,λtg=>kf e⟩
def aD.«cmp»{C:Ctx}{sc:LA}{N:List Str}{op:Co}{a b:Ex}{x y:Expr}{p:Pos}(hs:yK y=true)(ra:zo a=false)(ha:aD C sc N a (.e x))(rb:zo b=false)(hb:aD C sc N b (.e y)):aD C sc N (.cmp op a b) (.e (.Compare x [cK op] [y] p)):=by
 constructor;intro cl d;have iha:=ha.h cl d;have ihb:=hb.h cl d;intro X hC es eN;have ea:=(iha X hC es eN).pe ra;have eb:=(ihb X hC es eN).pe rb;exact⟨λ_=>⟨tu hC.room.units ea eb hs,λ_=>Dy hC.room.units ea eb hs,λop vs pos z=>by cases z⟩,λtg=>kf (tu hC.room.units ea eb hs)⟩
def aD.«chain»{C:Ctx}{sc:LA}{N:List Str}{o q:Co}{a b c:Ex}{x y z:Expr}{p:Pos}(hs:yK z=true)(ra:zo a=false)(ha:aD C sc N a (.e x))(rb:zo b=false)(hb:aD C sc N b (.e y))(rc:zo c=false)(hc:aD C sc N c (.e z)):aD C sc N (.chain o q a b c) (.e (.Compare x [cK o,cK q] [y,z] p)):=by
 constructor;intro cl d;have iha:=ha.h cl d;have ihb:=hb.h cl d;have ihc:=hc.h cl d;intro X hC es eN;have ea:=(iha X hC es eN).pe ra;have eb:=(ihb X hC es eN).pe rb;have ec:=(ihc X hC es eN).pe rc;exact⟨λ_=>⟨Ae hC.room.units ea eb ec hs,λ_=>Hj hC.room.units ea eb ec hs,λop vs pos z=>by cases z⟩,λtg=>kf (Ae hC.room.units ea eb ec hs)⟩
def aD.«ife»{C:Ctx}{sc:LA}{N:List Str}{a b c:Ex}{x y z:Expr}{p:Pos}(rc:zo c=false)(ic:vU c=false)(hc:aD C sc N c (.e x))(ra:zo a=false)(ha:aD C sc N a (.e y))(rb:zo b=false)(hb:aD C sc N b (.e z)):aD C sc N (.ife c a b) (.e (.IfExp x y z p)):=by
 constructor;intro cl d;have ihc:=hc.h cl d;have iha:=ha.h cl d;have ihb:=hb.h cl d;intro X hC es eN;have e:=λ(p:Pos)=>Dx (pos:=p) ((ihc X hC es eN).pt rc ic) ((iha X hC es eN).pe ra) ((ihb X hC es eN).pe rb);exact⟨λ_=>⟨e _,λz=>(by cases z),λop vs pos z=>(by cases z)⟩,λtg=>kf (e _)⟩
def aD.«unit»{C:Ctx}{sc:LA}{N:List Str}:aD C sc N .unit (.a []):=by
 constructor;intro cl d;intro X hC es eN;exact FF
def aD.«pair»{C:Ctx}{sc:LA}{N:List Str}{a b:Ex}{x:Expr}{xs:List Expr}(hs:zG x=true)(ra:zo a=false)(ha:aD C sc N a (.e x))(hb:aD C sc N b (.a xs)):aD C sc N (.pair a b) (.a (x::xs)):=by
 constructor;intro cl d;have iha:=ha.h cl d;have ihb:=hb.h cl d;intro X hC es eN;exact Gc ((iha X hC es eN).pe ra) (ihb X hC es eN).pa hs
def aD.«call»{C:Ctx}{sc:LA}{N:List Str}{k:Nat}{a:Ex}{f:Str}{y:Expr}{ys:List Expr}{p p':Pos}(h1:C.fns[k]?=some f)(h2:cA sc f=true)(h3:zP f=true)(hs:(y::ys).all zG=true)(ha:aD C sc N a (.a (y::ys))):aD C sc N (.call k a) (.e (.Call (.Name f p) (y::ys) [] p')):=by
 constructor;intro cl d;have iha:=ha.h cl d;intro X hC es eN;subst es;exact bX.of (Gb hC h1 (yI h2) h3 hs (iha X hC rfl eN).pa)
def aD.«blt»{C:Ctx}{sc:LA}{N:List Str}{b:eK}{a:Ex}{nm:Str}{f:Value}{y:Expr}{ys:List Expr}{p p':Pos}(h1:mS b=some (nm,f))(h2:cA sc nm=true)(h3:zP nm=true)(hs:(y::ys).all zG=true)(ha:aD C sc N a (.a (y::ys))):aD C sc N (.blt b a) (.e (.Call (.Name nm p) (y::ys) [] p')):=by
 constructor;intro cl d;have iha:=ha.h cl d;intro X hC es eN;subst es;exact bX.of (Dw hC h1 (yI h2) h3 hs (iha X hC rfl eN).pa)
def aD.«isi»{C:Ctx}{sc:LA}{N:List Str}{t:Tg}{a:Ex}{y:Expr}{p p' p'':Pos}(h1:cA sc "isinstance"=true)(h2:cA sc (Str.ofString (bT t))=true)(hs:zG y=true)(ra:zo a=false)(ha:aD C sc N a (.e y)):aD C sc N (.isi t a) (.e (.Call (.Name "isinstance" p) [y,.Name (Str.ofString (bT t)) p'] [] p'')):=by
 constructor;intro cl d;have iha:=ha.h cl d;intro X hC es eN;subst es;exact bX.of (Dv hC (yI h1) (yI h2) hs ((iha X hC rfl eN).pe ra))
def aD.«isi2»{C:Ctx}{sc:LA}{N:List Str}{t u:Tg}{i:Nat}{x:Str}{p p1 p2 pt pv p'':Pos}{k:Nat}(h1:cA sc "isinstance"=true)(h2:cA sc (Str.ofString (bT t))=true)(h3:cA sc (Str.ofString (bT u))=true)(v1:N[i]?=some x)(v2:gB sc x=true)(v3:zP x=true):aD C sc N (.or (.isi t (.var i)) (.isi u (.var i))) (.e (.Call (.Name "isinstance" p) [.Name x pv,.Tuple [.Name (Str.ofString (bT t)) p1,.Name (Str.ofString (bT u)) p2] k pt] [] p'')):=by
 constructor;intro cl d;intro X hC es eN;subst es;subst eN;obtain⟨n1,n2,_⟩:=yN v3;exact bX.of (EG hC (yI h1) (yI h2) (yI h3) (wV v1 (vV v2) n1 n2))
def aD.«lst»{C:Ctx}{sc:LA}{N:List Str}{a:Ex}{xs:List Expr}{p:Pos}(ha:aD C sc N a (.a xs)):aD C sc N (.lst a) (.e (.List xs p)):=by
 constructor;intro cl d;have iha:=ha.h cl d;intro X hC es eN;exact bX.of (Du (iha X hC es eN).pa)
def aD.«tup»{C:Ctx}{sc:LA}{N:List Str}{a:Ex}{xs:List Expr}{k}{p:Pos}(ha:aD C sc N a (.a xs)):aD C sc N (.tup a) (.e (.Tuple xs k p)):=by
 constructor;intro cl d;have iha:=ha.h cl d;intro X hC es eN;exact bX.of (Dt (iha X hC es eN).pa)
def aD.«idx»{C:Ctx}{sc:LA}{N:List Str}{a b:Ex}{x y:Expr}{p:Pos}(hs:yS y=true)(ra:zo a=false)(ha:aD C sc N a (.e x))(rb:zo b=false)(hb:aD C sc N b (.e y)):aD C sc N (.idx a b) (.e (.Subscript x y p)):=by
 constructor;intro cl d;have iha:=ha.h cl d;have ihb:=hb.h cl d;intro X hC es eN;exact bX.of (Ds ((iha X hC es eN).pe ra) ((ihb X hC es eN).pe rb) hs)
def aD.«dict0»{C:Ctx}{sc:LA}{N:List Str}{p:Pos}:aD C sc N .dict0 (.e (.Dict [] [] p)):=by
 constructor;intro cl d;intro X hC es eN;exact bX.of Hv
def aD.«dget»{C:Ctx}{sc:LA}{N:List Str}{a b:Ex}{x y:Expr}{p:Pos}(hs:yS y=true)(ra:zo a=false)(ha:aD C sc N a (.e x))(rb:zo b=false)(hb:aD C sc N b (.e y)):aD C sc N (.dget a b) (.e (.Subscript x y p)):=by
 constructor;intro cl d;have iha:=ha.h cl d;have ihb:=hb.h cl d;intro X hC es eN;exact bX.of (F5 hC.room.units ((iha X hC es eN).pe ra) ((ihb X hC es eN).pe rb) hs)
def aD.«dsel»{C:Ctx}{sc:LA}{N:List Str}{a b c d:Ex}{x1 x2 x3 x4:Expr}{s1 s2 s3 s4 nm:Str}{c1 c2 c3 c4}{p p1 p2 p3 p4 pd pn:Pos}{i:Nat}{k1 k2 k3 k4:List Nat}(e1:s1.cps.toList=k1)(e2:s2.cps.toList=k2)(e3:s3.cps.toList=k3)(e4:s4.cps.toList=k4)(nd:[k1,k2,k3,k4].Nodup)(h1:N[i]?=some nm)(h2:gB sc nm=true)(h3:zP nm=true)
   (ra:zo a=false) (ha:aD C sc N a (.e x1)) (rb:zo b=false) (hb:aD C sc N b (.e x2)) (rc:zo c=false) (hc:aD C sc N c (.e x3)) (rd:zo d=false) (hd:aD C sc N d (.e x4)) :
   aD C sc N (.idx (wF a b c d) (w5 i k1 k2 k3 k4)) (.e (.Subscript (.Dict [some (.Constant (.str s1) c1 p1),some (.Constant (.str s2) c2 p2),some (.Constant (.str s3) c3 p3),some (.Constant (.str s4) c4 p4)] [x1,x2,x3,x4] pd) (.Name nm pn) p)):=by
 constructor;intro cl d;have iha:=ha.h cl d;have ihb:=hb.h cl d;have ihc:=hc.h cl d;have ihd:=hd.h cl d;intro X hC es eN;subst es;subst eN;obtain⟨n1,n2,_⟩:=yN h3;simp only[QI,Qo,Q5,not_or,or_false]at nd;obtain⟨⟨m12,m13,m14⟩,⟨m23,m24⟩,m34,_⟩:=nd;exact bX.of (EI hC.room.units e1 e2 e3 e4 m12 m13 m14 m23 m24 m34 ((iha X hC rfl rfl).pe ra) ((ihb X hC rfl rfl).pe rb) ((ihc X hC rfl rfl).pe rc) ((ihd X hC rfl rfl).pe rd) (wV h1 (vV h2) n1 n2))
def aD.«dcon»{C:Ctx}{sc:LA}{N:List Str}{x1 y1 x2 y2 x3 y3 x4 y4:Int}{dn nm:Str}{p pd pn:Pos}{i:Nat}{k1 k2 k3 k4:List Nat}(nd:[k1,k2,k3,k4].Nodup)(g1:cA sc dn=true)(g2:C.dcs.lookup dn=some [(k1,x1,y1),(k2,x2,y2),(k3,x3,y3),(k4,x4,y4)])(g3:zP dn=true)(h1:N[i]?=some nm)(h2:gB sc nm=true)(h3:zP nm=true):
   aD C sc N (.idx (wF (du x1 y1) (du x2 y2) (du x3 y3) (du x4 y4)) (w5 i k1 k2 k3 k4)) (.e (.Subscript (.Name dn pd) (.Name nm pn) p)):=by
 constructor;intro cl d;intro X hC es eN;subst es;subst eN;obtain⟨n1,n2,_⟩:=yN h3;obtain⟨m1,_,_⟩:=yN g3;simp only[QI,Qo,Q5,not_or,or_false]at nd;obtain⟨⟨m12,m13,m14⟩,⟨m23,m24⟩,m34,_⟩:=nd;obtain⟨a,ha,hD⟩:=hC.con.2 _ _ g2;exact bX.of (EH m12 m13 m14 m23 m24 m34 (jp (yI g1) ha (v:=.ref a) rfl m1) hD (wV h1 (vV h2) n1 n2))
def aD.«slB»{C:Ctx}{sc:LA}{N:List Str}{a b c:Ex}{x y z:Expr}{p p':Pos}(ra:zo a=false)(ha:aD C sc N a (.e x))(rb:zo b=false)(hb:aD C sc N b (.e y))(rc:zo c=false)(hc:aD C sc N c (.e z)):aD C sc N (.slB a b c) (.e (.Subscript x (.Slice (some y) (some z) none p') p)):=by
 constructor;intro cl d;have iha:=ha.h cl d;have ihb:=hb.h cl d;have ihc:=hc.h cl d;intro X hC es eN;exact bX.of (Dr ((iha X hC es eN).pe ra) ((ihb X hC es eN).pe rb) ((ihc X hC es eN).pe rc))
def aD.«meth0»{C:Ctx}{sc:LA}{N:List Str}{k:ef}{o:Ex}{x:Expr}{ap cp:Pos}(hx:kh x=true)(hl:(ap.endLine==cp.line)=true)(ro:zo o=false)(ho:aD C sc N o (.e x)):aD C sc N (.meth k o .unit) (.e (.Call (.Attribute x (fh k).1 ap) [] [] cp)):=by
 constructor;intro cl d;have iho:=ho.h cl d;intro X hC es eN;exact bX.of (Hg ((iho X hC es eN).pe ro) hx hl)
def aD.«meth»{C:Ctx}{sc:LA}{N:List Str}{k:ef}{o a:Ex}{x y:Expr}{ys:List Expr}{ap cp:Pos}(hx:kh x=true)(hl:(ap.endLine==cp.line)=true)(hn:(y::ys).length<29)(hs:(y::ys).all zG=true)(ro:zo o=false)(ho:aD C sc N o (.e x))(ha:aD C sc N a (.a (y::ys))):aD C sc N (.meth k o a) (.e (.Call (.Attribute x (fh k).1 ap) (y::ys) [] cp)):=by
 constructor;intro cl d;have iho:=ho.h cl d;have iha:=ha.h cl d;intro X hC es eN;exact bX.of (Ga ((iho X hC es eN).pe ro) (iha X hC es eN).pa hx hl hn hs)
def aD.«rng1»{C:Ctx}{sc:LA}{N:List Str}{b:Ex}{y:Expr}{p p':Pos}(hg:cA sc "range"=true)(hs:zG y=true)(rb:zo b=false)(hb:aD C sc N b (.e y)):aD C sc N (.rng (.lit (.int 0)) b (.lit (.int 1))) (.e (.Call (.Name "range" p) [y] [] p')):=by
 constructor;intro cl d;have ihb:=hb.h cl d;intro X hC es eN;subst es;exact⟨λz=>(by cases z),λtg=>F9 hC (yI hg) hs ((ihb X hC rfl eN).pe rb)⟩
def aD.«lrng»{C:Ctx}{sc:LA}{N:List Str}{a:Ex}{y:Expr}{p p' q q':Pos}(hl:cA sc "list"=true)(hg:cA sc "range"=true)(hs:zG y=true)(ra:zo a=false)(ha:aD C sc N a (.e y)):aD C sc N (.lrng a) (.e (.Call (.Name "list" p) [.Call (.Name "range" q) [y] [] q'] [] p')):=by
 constructor;intro cl d;have iha:=ha.h cl d;intro X hC es eN;subst es;exact bX.of (F8 hC (yI hl) (yI hg) hs ((iha X hC rfl eN).pe ra))
def aD.«comp0»{C:Ctx}{sc scope:LA}{N:List Str}{elt it:Ex}{x i:Expr}{y:Str}{p p':Pos}(hs:yK i=true)(hB:wv sc N scope [y]=true)(hi:aD C sc N it (.e i))(re:zo elt=false)(he:aD C (yo scope sc) (yH N [y]) elt (.e x)):aD C sc N (.comp elt it (.lit (.bl true))) (.e (.ListComp x [⟨.Name y p,i,[],0⟩] scope p')):=by
 constructor;intro cl d;have ihi:=hi.h cl d;have ihe:=he.h cl d;intro X hC es eN;subst es;subst eN;have B:=yE hB;have hI:=(ihi X hC rfl rfl).2 (.Name y p);have hset:∀v,Mm i X.env v=pure v:=x6 hs;have body:∀Xc,bz X scope [y] Xc->PE Xc x (aM X.K (af cl elt)):=λXc c=>by
  have q:=(ihe Xc (hC.comp c) c.sc c.N).pe re;rw[c.K]at q;exact q
 refine bX.of (PE.imp (vt B hC.calm (jr B) hI (λXc c=>⟨v8,body Xc c⟩) hset) λσ H Q q=>kQ (λσ H Q q=>?_) q);obtain⟨as,env,m,S,G,P⟩:=q;obtain⟨b,e,q⟩:=am.ok (m:=m) P S (ah.mpr rfl);cases e;exact q
def aD.«comp1»{C:Ctx}{sc scope:LA}{N:List Str}{elt it cond:Ex}{x i f:Expr}{y:Str}{p p':Pos}(hs:yK i=true)(hB:wv sc N scope [y]=true)(hi:aD C sc N it (.e i))(rc:zo cond=false)(ic:vU cond=false)(hc:aD C (yo scope sc) (yH N [y]) cond (.e f))(re:zo elt=false)(he:aD C (yo scope sc) (yH N [y]) elt (.e x)):aD C sc N (.comp elt it cond) (.e (.ListComp x [⟨.Name y p,i,[f],0⟩] scope p')):=by
 constructor;intro cl d;have ihi:=hi.h cl d;have ihc:=hc.h cl d;have ihe:=he.h cl d;intro X hC es eN;subst es;subst eN;have B:=yE hB;have hI:=(ihi X hC rfl rfl).2 (.Name y p);have hset:∀v,Mm i X.env v=pure v:=x6 hs;have body:∀Xc,bz X scope [y] Xc->PE Xc x (aM X.K (af cl elt)):=λXc c=>by
  have q:=(ihe Xc (hC.comp c) c.sc c.N).pe re;rw[c.K]at q;exact q
 refine bX.of (PE.imp (vt B hC.calm (jr B) hI (λXc c=>⟨qp ?_,body Xc c⟩) hset) λσ H Q q=>kQ (λσ H Q q=>q) q);have q:=(ihc Xc (hC.comp c) c.sc c.N).pt rc ic;rw[c.K]at q;exact q
def aD.«compZ0»{C:Ctx}{sc scope:LA}{N:List Str}{elt a b:Ex}{x i j:Expr}{y z:Str}{p p' q q' q2 pt:Pos}{kt:Nat}(hg:cA sc "zip"=true)(hB:wv sc N scope [y,z]=true)(hs:zG i=true)(hs':zG j=true)(ra:zo a=false)(ha:aD C sc N a (.e i))(rb:zo b=false)(hb:aD C sc N b (.e j))(re:zo elt=false)(he:aD C (yo scope sc) (yH N [y,z]) elt (.e x)):
   aD C sc N (.compP .zip elt a b (.lit (.bl true))) (.e (.ListComp x [⟨.Tuple [.Name y p,.Name z q] kt pt,.Call (.Name "zip" q') [i,j] [] q2,[],0⟩] scope p')):=by
 constructor;intro cl d;have iha:=ha.h cl d;have ihb:=hb.h cl d;have ihe:=he.h cl d;intro X hC es eN;subst es;subst eN;have B:=yE hB;have hI:PI X (.Tuple [.Name y p,.Name z q] kt pt) (.Call (.Name "zip" q') [i,j] [] q2) _:=tJ (yI hg) (hC.blt _ (by simp[zy])) (zS ((iha X hC rfl rfl).pe ra) (zS ((ihb X hC rfl rfl).pe rb) xf (zp hs')) (zp hs)) (by rw[zp hs,zp hs'];rfl) (zp hs');have body:∀Xc,bz X scope [y,z] Xc->PE Xc x (aM X.K (af cl elt)):=λXc c=>by
  have q:=(ihe Xc (hC.comp c) c.sc c.N).pe re;rw[c.K]at q;exact q
 refine bX.of (PE.imp (vt B hC.calm (js hC.calm B) hI (λXc c=>⟨v8,body Xc c⟩) (λ_=>rfl)) λσ H Q q=>jQ (λσ H Q q=>?_) q);obtain⟨as,env,m,S,G,P⟩:=q;obtain⟨b,e,q⟩:=am.ok (m:=m) P S (ah.mpr rfl);cases e;exact q
def aD.«compT1»{C:Ctx}{sc scope:LA}{N:List Str}{elt a cond:Ex}{x i f:Expr}{y z:Str}{p p' q pt:Pos}{kt:Nat}(hs:yK i=true)(hB:wv sc N scope [y,z]=true)(ha:aD C sc N a (.e i))(rc:zo cond=false)(ic:vU cond=false)(hc:aD C (yo scope sc) (yH N [y,z]) cond (.e f))(re:zo elt=false)(he:aD C (yo scope sc) (yH N [y,z]) elt (.e x)):
   aD C sc N (.compP .prs elt a (.lit (.int 0)) cond) (.e (.ListComp x [⟨.Tuple [.Name y p,.Name z q] kt pt,i,[f],0⟩] scope p')):=by
 constructor;intro cl d;have iha:=ha.h cl d;have ihc:=hc.h cl d;have ihe:=he.h cl d;intro X hC es eN;subst es;subst eN;have B:=yE hB;have hI:=(iha X hC rfl rfl).2 (.Tuple [.Name y p,.Name z q] kt pt);have hset:∀v,Mm i X.env v=pure v:=x6 hs;have body:∀Xc,bz X scope [y,z] Xc->PE Xc x (aM X.K (af cl elt)):=λXc c=>by
  have q:=(ihe Xc (hC.comp c) c.sc c.N).pe re;rw[c.K]at q;exact q
 refine bX.of (PE.imp (vt B hC.calm (js hC.calm B) hI (λXc c=>⟨qp ?_,body Xc c⟩) hset) λσ H Q q=>Jj (λσ H Q q=>q) q);have q:=(ihc Xc (hC.comp c) c.sc c.N).pt rc ic;rw[c.K]at q;exact q
def aD.«compE0»{C:Ctx}{sc scope:LA}{N:List Str}{elt a:Ex}{x i:Expr}{y z:Str}{p p' q q' q2 pt:Pos}{kt:Nat}(hg:cA sc "enumerate"=true)(hB:wv sc N scope [y,z]=true)(hs:zG i=true)(ra:zo a=false)(ha:aD C sc N a (.e i))(re:zo elt=false)(he:aD C (yo scope sc) (yH N [y,z]) elt (.e x)):
   aD C sc N (.compP .enum elt a (.lit (.int 0)) (.lit (.bl true))) (.e (.ListComp x [⟨.Tuple [.Name y p,.Name z q] kt pt,.Call (.Name "enumerate" q') [i] [] q2,[],0⟩] scope p')):=by
 constructor;intro cl d;have iha:=ha.h cl d;have ihe:=he.h cl d;intro X hC es eN;subst es;subst eN;have B:=yE hB;have hI:PI X (.Tuple [.Name y p,.Name z q] kt pt) (.Call (.Name "enumerate" q') [i] [] q2) _:=F7 (yI hg) (hC.blt _ (by simp[zy])) (zS ((iha X hC rfl rfl).pe ra) xf (zp hs)) (zp hs);have body:∀Xc,bz X scope [y,z] Xc->PE Xc x (aM X.K (af cl elt)):=λXc c=>by
  have q:=(ihe Xc (hC.comp c) c.sc c.N).pe re;rw[c.K]at q;exact q
 refine bX.of (PE.imp (vt B hC.calm (js hC.calm B) hI (λXc c=>⟨v8,body Xc c⟩) (λ_=>rfl)) λσ H Q q=>Jk (c:=0) rfl (λσ H Q q=>?_) q);obtain⟨as,env,m,S,G,P⟩:=q;obtain⟨b,e,q⟩:=am.ok (m:=m) P S (ah.mpr rfl);cases e;exact q
end
def tH:swappedStores [.Subscript o i p1] v env=pure none:=rfl
def ju (h:∀x p,tg≠.Name x p):swapsWithSole [tg] v line env=pure false:=by
 cases v<;>first|rfl|(cases tg<;>first|rfl|exact Nl rfl (h _ _))
def jS:Expr->Bool
 |.ListComp _ _ _ _=>true
 |.SetComp _ _ _ _=>true
 |.DictComp _ _ _ _ _=>true
 |_=>false
def jT (h:jS v=false):L8 v t line env=pure false:=by
 cases v<;>first|rfl|cases h
def az(K:Qb)(as:List Addr)(H:Hp)(D:bZ)(r:Rs):Prop:=match r with
 |.next e m'=>∀as' H' σ',Step as H as' H'->aQ K as' m' H'->aF K as' H' e σ'->D.nx σ' H'
 |.brk e m'=>∀as' H' σ',Step as H as' H'->aQ K as' m' H'->aF K as' H' e σ'->D.bk σ' H'
 |.cont e m'=>∀as' H' σ',Step as H as' H'->aQ K as' m' H'->aF K as' H' e σ'->D.ct σ' H'
 |.ret w m'=>∀as' H' v,Step as H as' H'->aQ K as' m' H'->aj K as' H' w v->D.rt v H'
 |_=>False
def xo(K:Qb)(g:En->Me->Rs):TS:=λD σ H=>∃as env m,aQ K as m H/\aF K as H env σ/\az K as H D (g env m)
section
variable{K:Qb}{as as':List Addr}{H H':Hp}{m:Me}{D:bZ}
def az.step{r:Rs}(h:az K as H D r)(T:Step as H as' H'):az K as' H' D r:=by
 cases r with
 |next e m'=>exact λas2 H2 σ' U S G=>h as2 H2 σ' (T.trans U) S G
 |brk e m'=>exact λas2 H2 σ' U S G=>h as2 H2 σ' (T.trans U) S G
 |cont e m'=>exact λas2 H2 σ' U S G=>h as2 H2 σ' (T.trans U) S G
 |ret w m'=>exact λas2 H2 v U S R=>h as2 H2 v (T.trans U) S R
 |exc c w e m'=>exact h
 |no=>exact h
def az.bind (h:az K as H D (r.bindS env f))(k:∀w m' as' H' v,Step as H as' H'->aQ K as' m' H'->aj K as' H' w v->az K as' H' D (f w m')->Q1 v H'):am K as H Q1 r:=by
 cases r with
 |ok w m'=>exact λas2 H2 v U S R=>k w m' as2 H2 v U S R (az.step (r:=f w m') h U)
 |exc c w m'=>exact h
 |no=>exact h
def az.bindI (h:az K as H D (r.bindS env f))(k:∀w m',az K as H D (f w m')->(xT m' w).isSome=true/\∀as' H' J,Step as H as' H'->aQ K as' m' H'->rh K as' H' w J->R1 J H'):cq K as H R1 r:=by
 cases r with
 |ok w m'=>exact k w m' h
 |exc c w m'=>exact h
 |no=>exact h
theorem az.next (h:az K as H D (.next env m))(S:aQ K as m H)(G:aF K as H env σ):D.nx σ H:=h as H σ .refl S G
end
section
variable{cl:Nat->List Wd->Me->Rz}{X:Cx}{e o i:Ex}{x y z:Expr}{pos:Pos}
def EF:cv X [] (xo X.K (bA cl .skip)):=cv.imp uO λD σ H h=>by
 obtain⟨as,env,m,S,G,P⟩:=h;exact az.next (m:=m) P S G
def Do {st:Stmt}(ha:PS X st (xo X.K (bA cl a)))(hb:cv X sts (xo X.K (bA cl b))):cv X (st::sts) (xo X.K (bA cl (.seq a b))):=
 cv.imp (wX ha hb) λD σ H h=>by
  obtain⟨as,env,m,S,G,P⟩:=h;refine⟨as,env,m,S,G,?_⟩;have P':az X.K as H D (match bA cl a env m with |.next e1 m1=>bA cl b e1 m1|r=>r):=P;cases hr:bA cl a env m with
  |next e1 m1=>
   rw[hr]at P';exact λas' H' σ' T S' G'=>⟨as',e1,m1,S',G',az.step P' T⟩
  |brk e1 m1=>rw[hr]at P';exact P'
  |cont e1 m1=>rw[hr]at P';exact P'
  |ret w m1=>rw[hr]at P';exact P'
  |exc c w e1 m1=>rw[hr]at P';exact P'
  |no=>rw[hr]at P';exact P'
def jU {K:Qb}{i:Nat}(h:xo K (bA cl (.asg i e)) D σ H):fW (aM K (af cl e)) (xp i) D σ H:=by
 obtain⟨as,env,m,S,G,P⟩:=h;refine⟨as,env,m,S,G,az.bind P λw m1 as1 H1 v T1 S1 R1 P1=>?_⟩;exact az.next (m:=m1) P1 S1 ((G.mono S T1).set R1 i)
def Dn(he:PE X x (aM X.K (af cl e))):PS X (.Return (some x) pos) (xo X.K (bA cl (.ret e))):=PS.imp (qf he) λD σ H h=>by
 obtain⟨as,env,m,S,G,P⟩:=h;refine⟨as,env,m,S,G,az.bind P λw m1 as1 H1 v T1 S1 R1 P1=>?_⟩;exact P1 as1 H1 v .refl S1 R1
def EE(he:PE X x (aM X.K (af cl e)))(hc:jS x=false):PS X (.Expr x pos) (xo X.K (bA cl (.expr e))):=PS.imp (F0 he (jT hc)) λD σ H h=>by
 obtain⟨as,env,m,S,G,P⟩:=h;refine⟨as,env,m,S,G,az.bind P λw m1 as1 H1 v T1 S1 R1 P1=>?_⟩;exact az.next (m:=m1) P1 S1 (G.mono S T1)
def Hu{st:Stmt}:PS X st (xo X.K (bA cl .never)):=PS.imp IC λD σ H h=>by
 obtain⟨as,env,m,S,G,P⟩:=h;exact P
def BB (hc:PT X x (xY X.K (af cl e)))(ha:cv X xs (xo X.K (bA cl a)))(hb:cv X ys (xo X.K (bA cl b))):PS X (.If x xs ys pos) (xo X.K (bA cl (.ite e a b))):=
 PS.imp (ng hc ha hb) λD σ H h=>by
  obtain⟨as,env,m,S,G,P⟩:=h;refine⟨as,env,m,S,G,az.bind P λw m1 as1 H1 v T1 S1 R1 P1=>?_⟩;cases w with
  |bl k=>
   obtain rfl:=ah.mp R1;refine⟨k,rfl,?_⟩;cases k with
   |true=>exact qo ⟨as1,env,m1,S1,G.mono S T1,P1⟩
   |false=>exact fg ⟨as1,env,m1,S1,G.mono S T1,P1⟩
  |_=>exact P1.elim
def Ht {K:Qb}{o i:Wd}(S:aQ K as m H)(Ro:aj K as H o vo)(Ri:aj K as H i vi)(Rw:aj K as H w v)(h:az K as H D ((qt o i w m).bindS env f))(k:∀m' H',Step as H as H'->aQ K as m' H'->az K as H' D (f .non m')->Q H'):m8 vo vi v H Q:=by
 have key:∀r,qt o i w m=r->(∃m',r=.ok .non m')\/r=.no:=λr e=>by
  unfold qt at e;split at e
  .split at e
   .split at e
    .exact .inl ⟨_,e.symm⟩
    .exact .inr e.symm
   .exact .inr e.symm
  .exact .inr e.symm
 rcases key _ rfl with⟨m',e⟩|e
 .refine CP S Ro Ri Rw (λm2 e2 H' T S'=>?_) ⟨m',e⟩;rw[e]at e2;cases e2;rw[e]at h;exact k m' H' T S' (az.step (r:=f .non m') h T)
 .rw[e]at h;exact h.elim
def HB {K:Qb}{o i:Wd}(S:aQ K as m H)(Ro:aj K as H o vo)(Ri:aj K as H i vi)(Rw:aj K as H w v)(h:az K as H D ((gQ o i w m).bindS env f))(k:∀m' H',Step as H as H'->aQ K as m' H'->az K as H' D (f .non m')->Q H'):rY K vo vi v H Q:=by
 unfold gQ at h;cases o with
 |ref l=>
  obtain⟨a,ha,rfl⟩:=aE.mp Ro;dsimp only at h;cases e:m[l]? with
  |none=>rw[e]at h;exact h.elim
  |some ob=>
   cases ob with
   |lst ys=>rw[e]at h;exact h.elim
   |dct ks ws=>
    rw[e]at h;dsimp only at h;obtain⟨a',xs,vs,ha',td,ek,r,rv,nd⟩:=nk S e;rw[ha]at ha';cases ha';cases eq:fT i with
    |none=>rw[eq]at h;exact h.elim
    |some q=>
     rw[eq]at h;dsimp only at h;obtain⟨b,rfl,qb⟩:=Ac eq Ri;by_cases hl:ks.length<av
     .rw[Nj hl]at h;refine⟨a,b,q,xs,rfl,rfl,qb,td,?_,λu ru=>?_⟩
      .rw[<-ek,Qm]at hl;exact WR hl
      .obtain ⟨T,S'⟩:=S.setD ha e td ek r rv nd qb Rw ru;exact k _ _ T S' (az.step (r:=f .non _) h T)
     .rw[Nk hl]at h;exact h.elim
 |_=>exact h.elim
def jV {o i:Expr}(hs:yS i=true):∀v,assign (.Subscript o i p) env v=(do
   let ov <-holding [v] (eval o env)
   let iv <-holding [v,ov] (eval i env)
   standAt p
   holding [v,ov,iv] (setItem ov iv v)
   release [v,ov,iv] []):=λv=>by
 cases i<;>first|rfl|cases hs
def EC (hu:X.A.units+64<Ms)(ho:PE X x (aM X.K (af cl (.var j))))(hi:PE X y (aM X.K (af cl i)))(he:PE X z (aM X.K (af cl e)))(hs:yS y=true):PS X (.Assign [.Subscript x y p1] z pos) (xo X.K (bA cl (.dput j i e))):=
 PS.imp (qh he (tf ho hi (BJ hu) (jV hs)) (ju (by intros;intro q;cases q)) tH) λD σ H h=>by
  obtain⟨as,env,m,S,G,P⟩:=h;refine⟨as,env,m,S,G,az.bind P λw m1 as1 H1 v T1 S1 R1 P1=>?_⟩;refine⟨as1,env,m1,S1,G.mono S T1,az.bind P1 λwo m2 as2 H2 vo T2 S2 R2 P2=>?_⟩;refine⟨as2,env,m2,S2,(G.mono S T1).mono S1 T2,az.bind P2 λwi m3 as3 H3 vi T3 S3 R3 P3=>?_⟩;refine HB S3 (R2.mono S2 T3) R3 ((R1.mono S1 T2).mono S2 T3) P3 λm4 H4 T4 S4 P4=>?_;exact az.next (m:=m4) P4 S4 ((((G.mono S T1).mono S1 T2).mono S2 T3).mono S3 T4)
def EB (ho:PE X x (aM X.K (af cl o)))(hi:PE X y (aM X.K (af cl i)))(he:PE X z (aM X.K (af cl e)))(hs:yS y=true):PS X (.Assign [.Subscript x y p1] z pos) (xo X.K (bA cl (.asgS o i e))):=
 PS.imp (qh he (tf ho hi G9 (jV hs)) (ju (by intros;intro q;cases q)) tH) λD σ H h=>by
  obtain⟨as,env,m,S,G,P⟩:=h;refine⟨as,env,m,S,G,az.bind P λw m1 as1 H1 v T1 S1 R1 P1=>?_⟩;refine⟨as1,env,m1,S1,G.mono S T1,az.bind P1 λwo m2 as2 H2 vo T2 S2 R2 P2=>?_⟩;refine⟨as2,env,m2,S2,(G.mono S T1).mono S1 T2,az.bind P2 λwi m3 as3 H3 vi T3 S3 R3 P3=>?_⟩;refine Ht S3 (R2.mono S2 T3) R3 ((R1.mono S1 T2).mono S2 T3) P3 λm4 H4 T4 S4 P4=>?_;exact az.next (m:=m4) P4 S4 ((((G.mono S T1).mono S1 T2).mono S2 T3).mono S3 T4)
end
section
variable{cl:Nat->List Wd->Me->Rz}{X:Cx}{e i j:Ex}{x y z:Expr}{pos:Pos}
def iG:Bo->Bool
 |.add=>true
 |.sub=>true
 |_=>false
def mH:Bo->Int->Int->Int
 |.sub=>λi j=>i-j
 |_=>λi j=>i+j
def BA (h:iG op=true):l9 X (ig op) (lP (mH op)):=by
 cases op with
 |add=>exact Ec
 |sub=>exact Eb
 |_=>cases h
def EA (h:iG op=true){i j:Int}:dh op (.int i) (.int j) m=.ok (.int (mH op i j)) m:=by
 cases op with
 |add=>rfl
 |sub=>rfl
 |_=>cases h
def Ez {K:Qb}(hop:iG op=true)(Rx:aj K as H wx vx)(Ry:aj K as H wy vy)(h:az K as H D (iA op wx wy m env f))(k:∀z,az K as H D (f (.int z) m)->Q (.int z) H):lP (mH op) vx vy H Q:=by
 cases wx with
 |int i=>
  cases wy with
  |int j=>
   have h':az K as H D ((dh op (.int i) (.int j) m).bindS env f):=h;rw[EA hop]at h';exact⟨i,j,aa.mp Rx,aa.mp Ry,k _ h'⟩
  |_=>exact h.elim
 |_=>exact h.elim
def Dm (hop:iG op=true)(hN:X.N.Nodup)(hi:X.N[n]?=some nm)(hx:Loc X.env.scope nm)(hf:X.fn nm=true\/X.env.scope.names.lookup nm=some .local)(he:PE X x (aM X.K (af cl e))):
  PS X (.AugAssign (.Name nm p1) (ig op) x pos) (xo X.K (bA cl (.aug n op e))):=PS.imp (Ed hN hi hx he (BA hop) hf) λD σ H h=>by
 obtain⟨as,env,m,S,G,P⟩:=h;have P':az X.K as H D (match env[n]? with
  |some (some x)=>(af cl e env m).bindS env λy m1=>iA op x y m1 env λz m2=>.next (env.set n (some z)) m2
  |_=>.no):=P
 split at P'
 .rename_i wx hw;obtain⟨vx,hv,Rx⟩:=G.get n wx hw;refine⟨vx,hv,as,env,m,S,G,az.bind P' λwy m1 as1 H1 vy T1 S1 R1 P1=>?_⟩;refine Ez hop (Rx.mono S T1) R1 P1 λz P2=>?_;exact az.next (m:=m1) P2 S1 ((G.mono S T1).set (aa.mpr rfl) n)
 .exact P'.elim
end
section
variable{cl:Nat->List Wd->Me->Rz}{K:Qb}
structure dP(K:Qb)(g:TG)(st:Wd->En->Option En):Prop where
 ok:∀{as:List Addr}{H:Hp}{m:Me}{env env':En}{σ:St}{w:Wd}{v:V}{Q:L2.St->Hp->Prop},aQ K as m H->aF K as H env σ->aj K as H w v->st w env=some env'->(∀σ',aF K as H env' σ'->Q σ' H)->g v σ H Q
def Gy(i:Nat):dP K (xp i) (λw env=>some (env.set i (some w))):=
 ⟨λS G R e k=>by cases e;exact k _ (G.set R i)⟩
def z9(i j:Nat):dP K (iD K 2 (wD (xp i) (wD (xp j) fX))) (dw i j):=by
 refine⟨λ{as H m env env' σ w v Q} S G R e k=>?_⟩;unfold dw at e;split at e
 .rename_i a b;cases e;obtain⟨p,vs,rfl,hq,rr⟩:=ai.mp R;obtain⟨va,vb,rfl,ra,rb⟩:=qx rr;exact⟨p,[va,vb],rfl,hq,rfl,va,[vb],rfl,vb,[],rfl,rfl,k _ ((G.set ra i).set rb j)⟩
 .cases e
def z8{g:TG}{st:Wd->En->Option En}{b:En->Me->Rs}(hg:dP K g st){D:bZ}{as1 as':List Addr}{H1 H':Hp}{m':Me}{env':En}{σ':St}{x:Wd}{v:V}{next:En->Me->Rs}{N:L2.St->Hp->Prop}(T:Step as1 H1 as' H')(S':aQ K as' m' H')(G':aF K as' H' env' σ')(Rx:aj K as' H' x v)
  (Pt:az K as1 H1 D (match yX st b x env' m' with
    |.next e1 m1=>next e1 m1
    |.cont e1 m1=>next e1 m1
    |.brk e1 m1=>.next e1 m1
    |r=>r))
  (hN:∀as2 m2 e2 σ2 H2,Step as' H' as2 H2->aQ K as2 m2 H2->aF K as2 H2 e2 σ2->az K as1 H1 D (next e2 m2)->N σ2 H2) :
  g v σ' H' λσ2 H2=>xo K b {D with nx:=N,ct:=N,bk:=D.nx} σ2 H2:=by
 unfold yX at Pt;cases hs:st x env' with
 |none=>rw[hs]at Pt;exact Pt.elim
 |some e2=>
  rw[hs]at Pt;simp only[]at Pt;refine hg.ok S' G' Rx hs λσ2 G2=>⟨as',e2,m',S',G2,?_⟩;cases hr:b e2 m' with
  |next e3 m3=>rw[hr]at Pt;exact λas3 H3 σ3 U S3 G3=>hN as3 m3 e3 σ3 H3 U S3 G3 Pt
  |cont e3 m3=>rw[hr]at Pt;exact λas3 H3 σ3 U S3 G3=>hN as3 m3 e3 σ3 H3 U S3 G3 Pt
  |brk e3 m3=>rw[hr]at Pt;exact λas3 H3 σ3 U S3 G3=>Pt as3 H3 σ3 (T.trans U) S3 G3
  |ret w' m3=>rw[hr]at Pt;exact λas3 H3 v3 U S3 R3=>Pt as3 H3 v3 (T.trans U) S3 R3
  |exc c w' e3 m3=>rw[hr]at Pt;exact Pt.elim
  |no=>rw[hr]at Pt;exact Pt.elim
def zk {st:Wd->En->Option En}(hg:dP K g st)(h:xo K (λenv m=>(it env m).bindS env λw m1=>fv (yX st b) w env m1) D σ H):rN (ij K it) g (xo K b) D σ H:=by
 obtain⟨as,env,m,S,G,P⟩:=h;refine⟨as,env,m,S,G,az.bindI P λw m1 P1=>?_⟩;have seqs:∀(xs:List Wd),az K as H D (wR (yX st b) xs env m1)->∀as1 H1 J,Step as H as1 H1->aQ K as1 m1 H1->lq K as1 H1 J xs ->
   ∃W:Nat->Nat->L2.St->Hp->Prop,(∃m,W 0 m σ H1)/\∀i m σ H,W i m σ H ->
    (J.stop i H/\D.nx σ H)\/(J.go i H/\∃N:L2.St->Hp->Prop,(∀σ' H',N σ' H'->∃m',m'<m/\W (i+1) m' σ' H')/\∀x H',J.yld i H x H'->g x σ H' λσ2 H2=>xo K b {D with nx:=N,ct:=N,bk:=D.nx} σ2 H2):=by
  intro xs Pc as1 H1 J T1 S1 hI;obtain⟨vs,ok,hJ,ok1,RL,stab⟩:=hI;have hlen:=RL.length;have Pc1:=az.step Pc T1;refine⟨λi n σ' H'=>∃as' m' env',i<=xs.length/\n=xs.length-i/\Step as1 H1 as' H'/\aQ K as' m' H'/\aF K as' H' env' σ'/\ok H'/\ae K as' H' xs vs/\az K as1 H1 D (wR (yX st b) (xs.drop i) env' m'),
   ⟨xs.length,as1,m1,env,WY _,rfl,.refl,S1,G.mono S T1,ok1,RL,Pc1⟩,?_⟩
  rintro i n σ' H' ⟨as',m',env',hi,rfl,T',S',G',okH,RL',Pi⟩;by_cases hlt:i<xs.length
  .refine .inr ⟨hJ.go i H' okH (by rw[<-hlen];exact hlt),λσ2 H2=>∃as2 m2 env2,i+1<=xs.length/\Step as1 H1 as2 H2/\aQ K as2 m2 H2/\aF K as2 H2 env2 σ2/\ok H2/\ae K as2 H2 xs vs/\az K as1 H1 D (wR (yX st b) (xs.drop (i+1)) env2 m2),?_,λv H'' hy=>?_⟩
   .rintro σ2 H2 ⟨as2,m2,env2,q⟩;exact⟨xs.length-(i+1),by lia,as2,m2,env2,q.1,rfl,q.2⟩
   .obtain ⟨rfl,hv⟩:=hJ.yld i H' v H'' okH (by rw[<-hlen];exact hlt) hy;obtain⟨v',hv',Rx⟩:=RL'.get (i:=i) (x:=xs[i]) (by simp[hlt]);rw[hv]at hv';cases hv';rw[WW hlt]at Pi;refine z8 hg (next:=λe m=>wR (yX st b) (xs.drop (i+1)) e m) T' S' G' Rx Pi ?_;intro as2 m2 e2 σ2 H2 U S2 G2 P2;exact⟨as2,m2,e2,hlt,T'.trans U,S2,G2,stab _ _ (S'.kp U) okH,RL'.mono S' U,P2⟩
  .have e:i=xs.length:=by lia
   subst e;rw[List.drop_length]at Pi;exact .inl ⟨hJ.stop _ H' okH (by lia),Pi as' H' σ' T' S' G'⟩
 cases w with
 |tup xs=>exact⟨rfl,λas1 H1 J T1 S1 hI=>seqs xs P1 as1 H1 J T1 S1 hI⟩
 |rol xs=>exact⟨rfl,λas1 H1 J T1 S1 hI=>seqs xs P1 as1 H1 J T1 S1 hI⟩
 |ref l=>
  have P2:az K as H D (wS (yX st b) l (av+1) 0 env m1):=P1;refine⟨?_,λas1 H1 J T1 S1 hI=>?_⟩
  .show (zA m1 l).isSome=true;cases e:zA m1 l with
   |some xs=>rfl
   |none=>
    unfold wS at P2;rw[e]at P2;exact P2.elim
  .obtain ⟨a,ha,rfl⟩:=hI;have Pc1:=az.step P2 T1;refine⟨λi n σ' H'=>∃as' m' env',as'[l]?=some a/\Step as1 H1 as' H'/\aQ K as' m' H'/\aF K as' H' env' σ'/\az K as1 H1 D (wS (yX st b) l n i env' m'),⟨av+1,as1,m1,env,ha,.refl,S1,G.mono S T1,Pc1⟩,?_⟩;rintro i n σ' H' ⟨as',m',env',hl,T',S',G',Pi⟩;cases n with
   |zero=>exact Pi.elim
   |succ n=>
    unfold wS at Pi;cases e:zA m' l with
    |none=>rw[e]at Pi;exact Pi.elim
    |some xs=>
     rw[e]at Pi;simp only[]at Pi;obtain⟨a',vs,ha',eH,RL⟩:=zZ S' (zK e);rw[hl]at ha';cases ha';cases ex:xs[i]? with
     |none=>
      rw[ex]at Pi;have hle:vs.length<=i:=by rw[<-RL.length];exact QV.mp ex
      exact .inl ⟨⟨vs,bj.of eH,hle⟩,Pi as' H' σ' T' S' G'⟩
     |some x=>
      rw[ex]at Pi;obtain⟨v0,hv0,Rx⟩:=RL.get ex;refine .inr ⟨⟨vs,v0,bj.of eH,hv0⟩,λσ2 H2=>∃as2 m2 env2,as2[l]?=some a/\Step as1 H1 as2 H2/\aQ K as2 m2 H2/\aF K as2 H2 env2 σ2/\az K as1 H1 D (wS (yX st b) l n (i+1) env2 m2),?_,λv H'' hy=>?_⟩
      .rintro σ2 H2 q;exact⟨n,Wj _,q⟩
      .obtain ⟨rfl,hy⟩:=hy;have:=hy vs (bj.of eH);rw[hv0]at this;cases this;refine z8 hg (next:=λe m=>wS (yX st b) l n (i+1) e m) T' S' G' Rx Pi ?_;intro as2 m2 e2 σ2 H2 U S2 G2 P2;exact⟨as2,m2,e2,U.get hl,T'.trans U,S2,G2,P2⟩
 |non=>exact P1.elim
 |bl k=>exact P1.elim
 |int i=>exact P1.elim
 |str s=>exact P1.elim
def Jh (h:xo K (bA cl (.while c b)) D σ H):sZ (xY K (af cl c)) (xo K (bA cl b)) D σ H:=by
 obtain⟨as,env,m,S,G,P⟩:=h;refine⟨λn σ' H'=>∃as' m' env',Step as H as' H'/\aQ K as' m' H'/\aF K as' H' env' σ'/\az K as H D (je (af cl c) (bA cl b) n env' m'),⟨1000000,as,m,env,.refl,S,G,P⟩,?_⟩;rintro n σ' H' ⟨as',m',env',T',S',G',Pi⟩;cases n with
 |zero=>exact Pi.elim
 |succ n=>
  unfold je at Pi;refine⟨as',env',m',S',G',?_⟩;cases hr:af cl c env' m' with
  |no=>rw[hr]at Pi;exact Pi.elim
  |exc k w m1=>rw[hr]at Pi;exact Pi.elim
  |ok w m1=>
   rw[hr]at Pi;intro as1 H1 v T1 S1 R1;cases w with
   |bl k=>
    obtain rfl:=ah.mp R1;refine⟨k,rfl,?_⟩;cases k with
    |false=>exact fg (Pi as1 H1 σ' (T'.trans T1) S1 (G'.mono S' T1))
    |true=>
     refine qo ⟨λσ2 H2=>∃as2 m2 env2,Step as H as2 H2/\aQ K as2 m2 H2/\aF K as2 H2 env2 σ2/\az K as H D (je (af cl c) (bA cl b) n env2 m2),λσ2 H2 q=>⟨n,Wj _,q⟩,as1,env',m1,S1,G'.mono S' T1,?_⟩;simp only[]at Pi;have T2:=T'.trans T1;cases hb:bA cl b env' m1 with
     |next e3 m3=>rw[hb]at Pi;exact λas3 H3 σ3 U S3 G3=>⟨as3,m3,e3,T2.trans U,S3,G3,Pi⟩
     |cont e3 m3=>rw[hb]at Pi;exact λas3 H3 σ3 U S3 G3=>⟨as3,m3,e3,T2.trans U,S3,G3,Pi⟩
     |brk e3 m3=>rw[hb]at Pi;exact λas3 H3 σ3 U S3 G3=>Pi as3 H3 σ3 (T2.trans U) S3 G3
     |ret w' m3=>rw[hb]at Pi;exact λas3 H3 v3 U S3 R3=>Pi as3 H3 v3 (T2.trans U) S3 R3
     |exc k w' e3 m3=>rw[hb]at Pi;exact Pi.elim
     |no=>rw[hb]at Pi;exact Pi.elim
   |_=>exact Pi.elim
end
section
set_option tactic.hygienic false
variable{X:Cx}{cl:Nat->List Wd->Me->Rz}
def vL(n j:Nat):Ex->Bool
 |.var i=>decide (i<n) && ! decide (i=j)
 |.lit _=>true
 |.unit=>true
 |.pair a b=>vL n j a&&vL n j b
 |.call _ a=>vL n j a
 |.blt _ a=>vL n j a
 |.idx a b=>vL n j a&&vL n j b
 |_=>false
theorem ve (h:∀i,i<n->i≠j->e1[i]?=e2[i]?):∀(e:Ex) (m:Me),vL n j e=true->af cl e e1 m=af cl e e2 m
 |.var i,m,q=>by
  simp only[vL,Qr,Np,Wn,decide_eq_false_iff_not]at q;unfold af;rw[h i q.1 q.2]
 |.lit _,m,_=>rfl
 |.unit,_,_=>rfl
 |.pair a b,m,q=>by
  simp only[vL,Qr]at q;show(af cl a e1 m).bind (λx m1=>(af cl b e1 m1).bind λy m2=>.ok (.tup (x::zn y)) m2)=(af cl a e2 m).bind (λx m1=>(af cl b e2 m1).bind λy m2=>.ok (.tup (x::zn y)) m2);rw[ve h a m q.1];congr 1;funext x m1;rw[ve h b m1 q.2]
 |.call k a,m,q=>by
  show(af cl a e1 m).bind _=(af cl a e2 m).bind _;rw[ve h a m q]
 |.blt k a,m,q=>by
  show(af cl a e1 m).bind _=(af cl a e2 m).bind _;rw[ve h a m q]
 |.idx a b,m,q=>by
  simp only[vL,Qr]at q;show(af cl a e1 m).bind (λx m1=>(af cl b e1 m1).bind λy m2=>jG x y m2)=(af cl a e2 m).bind (λx m1=>(af cl b e2 m1).bind λy m2=>jG x y m2);rw[ve h a m q.1];congr 1;funext x m1;rw[ve h b m1 q.2]
def et(p:List Nat×Wd):Wd:=.tup [.str p.1,p.2]
def Dl(ws:List (List Nat×Wd))(i:Nat)(m:Me):zC .ptp (.tup (ws.map et)) (.int 0) i m=some (ws[i]?.map λp=>(.str p.1,p.2)):=by
 show(match (ws.map et)[i]? with
  |none=>some none
  |some w=>(iH w).map some)=_
 rw[Qt];cases ws[i]?<;>rfl
def Gx {ws:List (List Nat×Wd)}(hj:j<env.length)(le:vL (env.length+1) j elt=true)(lm:vL (env.length+1) j mx=true)(S:aQ X.K as m H)(G:aF X.K as H (env.set j none) σ)(hs:σ[j]?=some (some (.ref p)))(hp:H p=some (wT p o))(np:p∉as)(f:FO X.prog X.w p o ep kvs)(hl:kvs.length=ws.length)(hk:∀(i:Nat) (k:List Nat) (w:Wd),ws[i]?=some (k,w)->∃v,kvs[i]?=some ((Sum.inr ⟨k.toArray⟩:bu),v)/\wq kvs (Sum.inr ⟨k.toArray⟩)=some v/\aj X.K as H w v)(P:am X.K as H Q (yh (λu v m=>af cl (.cmp .eq (.var (env.length+1)) mx) (env++[some u]++[some v]) m) (λu v m=>af cl elt (env++[some u]++[some v]) m) (zC .ptp (.tup (ws.map et)) (.int 0)) (av+1) 0 [] m)):
  jd lH (Az X (kK j)) (lz (eL (rC X.K .eq) (eL (gW X) (kK j) (kK env.length)) (aM X.K (af cl mx)))) (aM X.K (af cl elt)) σ H Q:=by
 have hjs:j<σ.length:=(Qa.mp hs).1;have hls:env.length=σ.length:=by have:=G.len;simpa using this
 refine⟨.ref p,hs,p,o,ep,kvs,rfl,f,hp,λD hD=>?_⟩;refine⟨λi n ys H'=>∃as' m' acc,cJ X.K as H D (env.set j none) σ as' m' acc ys H' /\
  am X.K as H Q (yh (λu v m=>af cl (.cmp .eq (.var (env.length+1)) mx) (env++[some u]++[some v]) m) (λu v m=>af cl elt (env++[some u]++[some v]) m) (zC .ptp (.tup (ws.map et)) (.int 0)) n i acc m'),⟨av+1,as,m,[],cJ.start (as:=as) (H:=H) S G hD,P⟩,?_⟩
 rintro i n ys H' ⟨as',m',acc,M,Pi⟩;have hp':=M.T.frame _ _ hp np;cases n with
 |zero=>exact Pi.elim
 |succ n=>
  unfold yh at Pi;rw[Dl]at Pi;cases hw:ws[i]? with
  |none=>
   rw[hw]at Pi;have hi:=QV.mp hw;exact .inl ⟨⟨hp',by lia⟩,wf M.S M.T hD M.hD M.n M.R Pi⟩
  |some kw=>
   obtain⟨k,w⟩:=kw;rw[hw]at Pi;obtain⟨v,hv1,hv2,R⟩:=hk i k w hw;have hi:=(Qa.mp hv1).1;refine .inr ⟨⟨hp',hi⟩,λx H'' hy=>?_⟩;obtain⟨rfl,kv,hkv,rfl⟩:=hy;rw[hv1]at hkv;cases hkv;have hlow:∀i',i'<env.length+1->i'≠j->(env++[some (Wd.str k)]++[some w])[i']?=(env.set j none++[some (Wd.str k)])[i']?:=λi' h1 h2=>by
    rw[Qg (by simp;lia)];by_cases z:i'<env.length
    .rw[Qg z,Qg (by simpa using z),Qw (λe=>h2 e.symm)]
    .rw[Qi (by lia),Qi (by simp;lia),Wa]
   have hvar:∀m,af cl (.var (env.length+1)) (env++[some (Wd.str k)]++[some w]) m=.ok w m:=λm=>by
    unfold af;rw[Qi (by simp)];simp
   have e1:∀m,af cl (.cmp .eq (.var (env.length+1)) mx) (env++[some (Wd.str k)]++[some w]) m=(af cl mx (env.set j none++[some (Wd.str k)]) m).bind λy m2=>cZ .eq w y m2:=λm=>by
    show(af cl (.var (env.length+1)) _ m).bind (λx m1=>(af cl mx _ m1).bind λy m2=>cZ .eq x y m2)=_;rw[hvar m];show(af cl mx (env++[some (Wd.str k)]++[some w]) m).bind (λy m2=>cZ .eq w y m2)=_;rw[ve hlow mx m lm]
   have Pi:am X.K as H Q (((af cl mx (env.set j none++[some (Wd.str k)]) m').bind λy m2=>cZ .eq w y m2).bind λb m1=>match b with
     |.bl true=>(af cl elt (env++[some (Wd.str k)]++[some w]) m1).bind λz m2=>if acc.length<av then yh (λu v m=>af cl (.cmp .eq (.var (env.length+1)) mx) (env++[some u]++[some v]) m) (λu v m=>af cl elt (env++[some u]++[some v]) m) (zC .ptp (.tup (ws.map et)) (.int 0)) n (i+1) (acc++[z]) m2 else .no
     |.bl false=>yh (λu v m=>af cl (.cmp .eq (.var (env.length+1)) mx) (env++[some u]++[some v]) m) (λu v m=>af cl elt (env++[some u]++[some v]) m) (zC .ptp (.tup (ws.map et)) (.int 0)) n (i+1) acc m1
     |_=>.no):=by
    have:=Pi;simp only[QJ]at this;rw[e1]at this;exact this
   have G1:aF X.K as' H'' (env.set j none++[some (Wd.str k)]) (σ++[some (V.str ⟨k.toArray⟩)]):=M.G.push (aB.mpr rfl);refine⟨[V.str ⟨k.toArray⟩],rfl,?_⟩;refine⟨.ref p,by rw[Qg hjs];exact hs,.str ⟨k.toArray⟩,by rw[hls,Qi (Qk _)];simp,p,o,ep,kvs,Sum.inr ⟨k.toArray⟩,v,rfl,rfl,f,hp',hv2,?_⟩;have Pi':am X.K as H Q ((af cl mx (env.set j none++[some (Wd.str k)]) m').bind λy m2=>(cZ .eq w y m2).bind λb m1=>match b with
     |.bl true=>(af cl elt (env++[some (Wd.str k)]++[some w]) m1).bind λz m2=>if acc.length<av then yh (λu v m=>af cl (.cmp .eq (.var (env.length+1)) mx) (env++[some u]++[some v]) m) (λu v m=>af cl elt (env++[some u]++[some v]) m) (zC .ptp (.tup (ws.map et)) (.int 0)) n (i+1) (acc++[z]) m2 else .no
     |.bl false=>yh (λu v m=>af cl (.cmp .eq (.var (env.length+1)) mx) (env++[some u]++[some v]) m) (λu v m=>af cl elt (env++[some u]++[some v]) m) (zC .ptp (.tup (ws.map et)) (.int 0)) n (i+1) acc m1
     |_=>.no):=by
    cases z:af cl mx (env.set j none++[some (Wd.str k)]) m' with
    |ok y m2=>rw[z]at Pi;exact Pi
    |exc c y m2=>rw[z]at Pi;exact Pi
    |no=>rw[z]at Pi;exact Pi
   refine⟨as',_,m',M.S,G1,eY Pi' M.T λy m2 as2 H2 u T2 S2 R2 P2=>?_⟩;have M2:=M.go T2 S2;refine⟨as2,m2,w,y,S2,(R.mono S M.T).mono M.S T2,R2,eY P2 M2.T λwb m3 as3 H3 vb T3 S3 R3 P3=>?_⟩;have M3:=M2.go T3 S3;cases wb with
   |bl b=>
    obtain rfl:=ah.mp R3;refine⟨b,rfl,?_⟩;cases b with
    |false=>exact fg ⟨n,Wj _,as3,m3,acc,M3,P3⟩
    |true=>
     have P3:am X.K as H Q ((af cl elt (env++[some (Wd.str k)]++[some w]) m3).bind λz m2=>if acc.length<av then yh (λu v m=>af cl (.cmp .eq (.var (env.length+1)) mx) (env++[some u]++[some v]) m) (λu v m=>af cl elt (env++[some u]++[some v]) m) (zC .ptp (.tup (ws.map et)) (.int 0)) n (i+1) (acc++[z]) m2 else .no):=P3;rw[ve hlow elt m3 le]at P3;refine qo ⟨as3,_,m3,S3,(G1.mono M.S T2).mono S2 T3,eY P3 M3.T λwy m4 as4 H4 vy T4 S4 R4 P4=>?_⟩;have M4:=M3.go T4 S4;by_cases hlm:acc.length<av
     .rw[Nj hlm]at P4;exact⟨M4.hD,by rw[<-M4.R.length];exact Qf hlm xh,n,Wj _,as4,m4,acc++[wy],M4.push hD R4,P4⟩
     .rw[Nk hlm]at P4;exact P4.elim
   |_=>exact P3.elim
def Dk(k:List Nat)(a:Ex)(env:En)(m:Me):af cl (c9 k a) env m=(af cl a env m).bind λw m1=>.ok (et (k,w)) m1:=by
 show((((af cl a env m).bind λy m2=>(Rz.ok (.tup []) m2).bind λz m3=>.ok (.tup (y::zn z)) m3).bind λy m2=>.ok (.tup (Wd.str k::zn y)) m2).bind λx m1=>if(zn x).length<=av then .ok (.tup (zn x)) m1 else .no)=_;cases af cl a env m with
 |ok w m1=>
  show(if([Wd.str k,w]:List Wd).length<=av then Rz.ok (.tup [.str k,w]) m1 else .no)=_;rw[Nj (show([Wd.str k,w]:List Wd).length<=av by show 2<=av;decide)];rfl
 |exc c w m1=>rfl
 |no=>rfl
def Gw (h1:af cl (wF a b c d) env m=.ok w m'):
  ∃wa m1 wb m2 wc m3 wd,af cl a env m=.ok wa m1/\af cl b env m1=.ok wb m2/\af cl c env m2=.ok wc m3/\af cl d env m3=.ok wd m'/\w=.tup [wa,wb,wc,wd]:=by
 obtain⟨z,mz,g1,g2⟩:=c7 (show(af cl (.pair a (.pair b (.pair c (.pair d .unit)))) env m).bind (λx m1=>if(zn x).length<=av then Rz.ok (.tup (zn x)) m1 else .no)=_ from h1);obtain⟨wa,m1,p1,q1⟩:=c7 (show(af cl a env m).bind (λx m1=>(af cl (.pair b (.pair c (.pair d .unit))) env m1).bind λy m2=>Rz.ok (.tup (x::zn y)) m2)=_ from g1);obtain⟨yb,n1,p2,q2⟩:=c7 q1;obtain⟨wb,m2,p3,q3⟩:=c7 (show(af cl b env m1).bind (λx m1=>(af cl (.pair c (.pair d .unit)) env m1).bind λy m2=>Rz.ok (.tup (x::zn y)) m2)=_ from p2);obtain⟨yc,n2,p4,q4⟩:=c7 q3;obtain⟨wc,m3,p5,q5⟩:=c7 (show(af cl c env m2).bind (λx m1=>(af cl (.pair d .unit) env m1).bind λy m2=>Rz.ok (.tup (x::zn y)) m2)=_ from p4);obtain⟨yd,n3,p6,q6⟩:=c7 q5;obtain⟨wd,m4,p7,q7⟩:=c7 (show(af cl d env m3).bind (λx m1=>(Rz.ok (.tup []) m1).bind λy m2=>Rz.ok (.tup (x::zn y)) m2)=_ from p6);cases q7;cases q6;cases q4;cases q2
 replace g2:(if([wa,wb,wc,wd]:List Wd).length<=av then Rz.ok (.tup [wa,wb,wc,wd]) mz else .no)=.ok w m':=g2
 rw[Nj (show([wa,wb,wc,wd]:List Wd).length<=av by show 4<=av;decide)]at g2;cases g2;exact⟨wa,m1,wb,m2,wc,m3,wd,p1,p3,p5,p7,rfl⟩
def jv (h:af cl (c9 k a) env m=.ok w m'):∃u,af cl a env m=.ok u m'/\w=et (k,u):=by
 rw[Dk]at h;obtain⟨u,m1,h1,h2⟩:=c7 h;cases h2;exact⟨u,h1,rfl⟩
def Gv {K:Qb}(h:az K as H D (r.bindS env λw m1=>.ret w m1)):am K as H D.rt r:=by
 cases r with
 |ok w m'=>exact h
 |exc c w m'=>exact h
 |no=>exact h
def Dj {c1 c2 c3 c4}(hu:X.A.units+64<Ms)(hc:X.calm=true)(hN:X.N.Nodup)(hj:X.N[j]?=some mkn)(hl:Loc X.env.scope mkn)(hf:X.fn mkn=true)(e1:s1.cps.toList=k1)(e2:s2.cps.toList=k2)(e3:s3.cps.toList=k3)(e4:s4.cps.toList=k4)(n12:k1≠k2)(n13:k1≠k3)(n14:k1≠k4)(n23:k2≠k3)(n24:k2≠k4)(n34:k3≠k4)(hsw:L8 (.Dict [some (.Constant (.str s1) c1 p1),some (.Constant (.str s2) c2 p2),some (.Constant (.str s3) c3 p3),some (.Constant (.str s4) c4 p4)] [x1,x2,x3,x4] pd) (some (.Name mkn p0)) pa.line X.env=pure false)(ha:PE X x1 (aM X.K (af cl a)))(hb:PE X x2 (aM X.K (af cl b)))(hcc:PE X x3 (aM X.K (af cl c)))(hd:PE X x4 (aM X.K (af cl d)))(hv:PE X (.Name mkn pi) (kK j))(B:bP X scope [side])(hm:∀Xc,bz X scope [side] Xc->PE Xc (.Name mkn pm) (kK j)/\PE Xc (.Name side ps) (kK X.N.length)/\PE Xc xm (aM X.K (af cl mx))/\PE Xc xe (aM X.K (af cl elt)))(hmk:Mq .Eq xm=false)(le:vL (X.N.length+1) j elt=true)(lm:vL (X.N.length+1) j mx=true):
  cv X [.Assign [.Name mkn p0] (.Dict [some (.Constant (.str s1) c1 p1),some (.Constant (.str s2) c2 p2),some (.Constant (.str s3) c3 p3),some (.Constant (.str s4) c4 p4)] [x1,x2,x3,x4] pd) pa,
   .Return (some (.ListComp xe [⟨.Name side pt,.Name mkn pi,[.Compare (.Subscript (.Name mkn pm) (.Name side ps) pq) [.Eq] [xm] pc],0⟩] scope pl)) pr] (xo X.K (bA cl (.ret (iF X.N.length k1 k2 k3 k4 a b c d mx elt)))):=by
 obtain rfl:=w9 e1;obtain rfl:=w9 e2;obtain rfl:=w9 e3;obtain rfl:=w9 e4;intro pins s σ H D I h;have hlen:=I.len;have body:∀Xc,bz X scope [side] Xc->fN Xc [.Compare (.Subscript (.Name mkn pm) (.Name side ps) pq) [.Eq] [xm] pc] (lz (eL (rC X.K .eq) (eL (gW X) (kK j) (kK X.N.length)) (aM X.K (af cl mx))))/\PE Xc xe (aM X.K (af cl elt)):=λXc c=>by
  obtain⟨h1,h2,h3,h4⟩:=hm Xc c;refine⟨qp ?_,h4⟩;have q:=uN (pos:=pc) (jK (X:=Xc) (by rw[c.A];exact hu) .eq) (lu (pos:=pq) oR h1 h2 (λ_ _=>rfl)) h3 hmk;have er:gW Xc=gW X:=by unfold gW;rw[c.prog,c.w]
  rw[c.K,er]at q;exact q
 refine(wX (nr hN hj hl (Hk (xC wu ha (xC wu hb (xC wu hcc (xC wu hd tZ)))) rfl rfl (by simp) (by show 4<=15;decide)) hsw (.inl hf)) (v6 (qf (vt B hc (jr B) (Hl hv) body)))) pins s σ H D I ?_;obtain⟨as,env,m,S,G,P⟩:=h;have hle:env.length=X.N.length:=by rw[G.len,hlen]
 have P:am X.K as H D.rt ((af cl (wF (c9 k1 a) (c9 k2 b) (c9 k3 c) (c9 k4 d)) env m).bind λx m1=>(Rz.ok (.int 0) m1).bind λy m2=>
   yh (λu v m=>af cl (.cmp .eq (.var (X.N.length+1)) mx) (env++[some u]++[some v]) m) (λu v m=>af cl elt (env++[some u]++[some v]) m) (zC .ptp x y) (av+1) 0 [] m2):=Gv P
 cases hr:af cl (wF (c9 k1 a) (c9 k2 b) (c9 k3 c) (c9 k4 d)) env m with
 |no=>rw[hr]at P;exact P.elim
 |exc c w m'=>rw[hr]at P;exact P.elim
 |ok w m4=>
  rw[hr]at P;obtain⟨ta,m1,tb,m2,tc,m3,td,ea,eb,ec,ed,rfl⟩:=Gw hr;obtain⟨wa,fa,rfl⟩:=jv ea;obtain⟨wb,fb,rfl⟩:=jv eb;obtain⟨wc,fc,rfl⟩:=jv ec;obtain⟨wd,fd,rfl⟩:=jv ed;intro p hpn;have T0:Step as H as (aK H p (.dK [])):=⟨⟨[],by simp⟩,λb o h _=>by rw[zl (zr h hpn)];exact h,λb hb=>.inl hb⟩;have S0:aQ X.K as m (aK H p (.dK [])):=S.keep T0 λb _ o e=>by rw[zl (zr e hpn)];exact e
  have G0:=G.mono S T0;have h0:aK H p (.dK []) p=some (.dK []):=zm;have n0:p∉as:=S.new hpn;refine⟨as,env,m,S0,G0,?_⟩;rw[fa];intro as1 H1 va T1 S1 R1;have h1:=T1.frame _ _ h0 n0;have n1:=T1.out h0 n0;have G1:=G0.mono S0 T1;refine⟨as1,env,m1,S1,G1,?_⟩;rw[fb];intro as2 H2 vb T2 S2 R2;have h2:=T2.frame _ _ h1 n1;have n2:=T2.out h1 n1;have G2:=G1.mono S1 T2;refine⟨as2,env,m2,S2,G2,?_⟩;rw[fc];intro as3 H3 vc T3 S3 R3;have h3:=T3.frame _ _ h2 n2;have n3:=T3.out h2 n2;have G3:=G2.mono S2 T3;refine⟨as3,env,m3,S3,G3,?_⟩;rw[fd];intro as4 H4 vd T4 S4 R4;have h4:=T4.frame _ _ h3 n3;have n4:=T4.out h3 n3;have G4:=G3.mono S3 T4;have ne:∀{u v:List Nat},u≠v->(Sum.inr ⟨u.toArray⟩:bu)≠Sum.inr ⟨v.toArray⟩:=λ{u v} h e=>h (by
   have e:=Sum.inr.inj e;have e:u.toArray=v.toArray:=Str.mk.inj e;simpa using Nm WC e)
  refine⟨h4,[((Sum.inr ⟨k1.toArray⟩:bu),va),(Sum.inr ⟨k2.toArray⟩,vb),(Sum.inr ⟨k3.toArray⟩,vc),(Sum.inr ⟨k4.toArray⟩,vd)],rfl,(by show 4<=15;decide),by simp[n12,n13,n14,n23,n24,n34],λo ep f=>?_⟩;have T04:=((T0.trans T1).trans T2).trans (T3.trans T4);have T5:Step as H as4 (aK H4 p (wT p o)):=⟨T04.pre,λb o h hb=>by rw[zl (zr h hpn)];exact T04.frame b o h hb,T04.fresh⟩;have k6:Kp X.K H4 (aK H4 p (wT p o)):=i7 h4 trivial;have S5:aQ X.K as4 m4 (aK H4 p (wT p o)):=S4.updK k6 λb hb o e=>by rw[zl (by rintro rfl;exact n4 hb)];exact e
  have G5:aF X.K as4 (aK H4 p (wT p o)) (env.set j none) (σ.set j (some (.ref p))):=by
   have Gk:=G4.kp k6;refine⟨by simp[Gk.len],λi w e=>?_⟩;by_cases z:i=j
   .subst z;rw[List.getElem?_set_self' ]at e;cases hz:env[i]? with
    |none=>rw[hz]at e;cases e
    |some q=>rw[hz]at e;cases e
   .rw[Qw (λq=>z q.symm)]at e ⊢;exact Gk.get i w e
  have hjn:j<X.N.length:=(Qa.mp hj).1;have res:=Gx (X:=X) (cl:=cl) (elt:=elt) (mx:=mx) (env:=env) (σ:=σ.set j (some (.ref p))) (m:=m4) (H:=aK H4 p (wT p o)) (Q:=D.rt) (p:=p) (o:=o) (ep:=ep) (j:=j) (ws:=[(k1,wa),(k2,wb),(k3,wc),(k4,wd)])
   (by lia) (by rw[hle];exact le) (by rw[hle];exact lm) S5 G5 (by rw[QN (by lia)]) zm n4 f rfl (λi k w hw=>by
    match i,hw with
    |0,hw=>cases hw;exact⟨va,rfl,by simp[wq],((((R1.mono S1 T2).mono S2 T3).mono S3 T4).kp k6)⟩
    |1,hw=>cases hw;exact⟨vb,rfl,by simp[wq,n12],(((R2.mono S2 T3).mono S3 T4).kp k6)⟩
    |2,hw=>cases hw;exact⟨vc,rfl,by simp[wq,n13,n23],((R3.mono S3 T4).kp k6)⟩
    |3,hw=>cases hw;exact⟨vd,rfl,by simp[wq,n14,n24,n34],(R4.kp k6)⟩
    |i+4,hw=>simp at hw) (by
    rw[hle];exact am.step P T5)
  rw[hle]at res;exact res
end
set_option genInjectivity false in
inductive Ns where
 |s (st:Stmt)|b (sts:List Stmt)
def vM(sc:LA)(x:Str):Bool:=decide (sc.names.lookup x=some .local) || decide (sc.names.lookup x=some .cell)
def nY:Expr->Bool
 |.Call _ _ _ _=>true
 |.Name _ _=>true
 |.ListComp _ _ _ _=>true
 |_=>false
def nZ:Expr->Bool
 |.Call _ _ _ _=>true
 |.Name _ _=>true
 |_=>false
def pY(cl:Nat->List Wd->Me->Rz)(X:Cx)(s:Sm):Ns->Prop
 |.s st=>PS X st (xo X.K (bA cl s))
 |.b sts=>cv X sts (xo X.K (bA cl s))
structure eA(X:Cx):Prop where
 nd:X.N.Nodup
 fn:∀x,X.fn x=true
 hp:PassesOwn (LW X.prog X.w) X.A X.env X.xe
section
set_option tactic.hygienic false
variable{cl:Nat->List Wd->Me->Rz}
def xt (h:vM sc x=true):Loc sc x:=by
 unfold vM at h;simp only[Wx,Np]at h;exact h
def tS (hc:X.calm=true)(hX:eA X)(hi:X.N[i]?=some nm)(hl:Loc X.env.scope nm)(B:bP X scope xs)(hT:iY X scope xs tg g un)(hI:PI X tg w wi)(body:∀Xc,bz X scope xs Xc->fN Xc fs tc/\PE Xc x te)(hset:∀v,Mm w X.env v=pure v)(hbind:∀σ H Q,aM X.K (af cl ce) σ H Q->jd un wi tc te σ H Q)(he:PE X (.ListComp x [⟨tg,w,fs,0⟩] scope pos') (aM X.K (af cl ce))):
  PS X (.Assign [.Name nm p1] (.ListComp x [⟨tg,w,fs,0⟩] scope pos') pos) (xo X.K (bA cl (.asg i ce))):=by
 have hsw:∃b:Bool,L8 (.ListComp x [⟨tg,w,fs,0⟩] scope pos') (some (.Name nm p1)) pos.line X.env=pure b:=⟨_,rfl⟩;obtain⟨b,hb⟩:=hsw;cases b with
 |false=>exact PS.imp (nr hX.nd hi hl he hb (.inl (hX.fn nm))) λD σ H q=>jU q
 |true=>
  refine PS.imp (IT B hc hT hI body hX.nd hi hl (.inl (hX.fn nm)) hb hset) λD σ H q=>?_;exact hbind _ _ _ (jU q)
def Dh(i j:Nat)(e:Ex)(env:En)(m:Me):bA cl (.fort i j (.tup (.pair e .unit)) .skip) env m=(af cl e env m).bindS env λw m1=>match dw i j w env with
  |some env'=>.next env' m1
  |none=>.no:=by
 have h:af cl (.tup (.pair e .unit)) env m=(af cl e env m).bind λw m1=>.ok (.tup [w]) m1:=by
  show(((af cl e env m).bind λx m1=>.ok (.tup [x]) m1).bind λx m1=>if(zn x).length<=av then .ok (.tup (zn x)) m1 else .no)=_;cases af cl e env m with
  |ok w m1=>
   simp only[Rz.bind];simp[zn,av]
  |exc c w m1=>rfl
  |no=>rfl
 show(af cl (.tup (.pair e .unit)) env m).bindS env (λw m1=>fv (yX (dw i j) (bA cl .skip)) w env m1)=_;rw[h];cases af cl e env m with
 |ok w m1=>
  show wR (yX (dw i j) (bA cl .skip)) [w] env m1=match dw i j w env with
   |some env'=>.next env' m1
   |none=>.no
  unfold wR yX;cases dw i j w env with
  |none=>rfl
  |some e2=>rfl
 |exc c w m1=>rfl
 |no=>rfl
def Gu {K:Qb}(h:xo K (bA cl (.fort i j (.tup (.pair e .unit)) .skip)) D σ H):fW (aM K (af cl e)) (iD K 2 (wD (xp i) (wD (xp j) fX))) D σ H:=by
 obtain⟨as,env,m,S,G,P⟩:=h;rw[Dh]at P;refine⟨as,env,m,S,G,az.bind P λw m1 as1 H1 v T1 S1 R1 P1=>?_⟩;cases hs:dw i j w env with
 |none=>rw[hs]at P1;exact P1.elim
 |some e2=>rw[hs]at P1;exact(z9 i j).ok S1 (G.mono S T1) R1 hs λσ2 G2=>az.next (m:=m1) P1 S1 G2
def HA {K:Qb}(h:xo K (bA cl (.unp3 i j k e)) D σ H):fW (aM K (af cl e)) (rD K 3 (wD (xp i) (wD (xp j) (wD (xp k) fX)))) D σ H:=by
 obtain⟨as,env,m,S,G,P⟩:=h;have P':az K as H D ((af cl e env m).bindS env λw m1=>match dL i j k w m1 env with
  |some e1=>.next e1 m1
  |none=>.no):=P
 refine⟨as,env,m,S,G,az.bind P' λw m1 as1 H1 v T1 S1 R1 P1=>?_⟩;have fin:∀(ws:List Wd) (vs:List V),xT m1 w=some ws->ae K as1 H1 ws vs->vs.length=3/\wD (xp i) (wD (xp j) (wD (xp k) fX)) vs σ H1 D.nx:=by
  intro ws vs hs rl;unfold dL at P1;rw[hs]at P1
  match ws,P1,rl with
  |[a,b,c],P1,rl=>
   obtain⟨va,r1,rfl,ra,rl⟩:=ao.mp rl;obtain⟨vb,r2,rfl,rb,rl⟩:=ao.mp rl;obtain⟨vc,r3,rfl,rc,rl⟩:=ao.mp rl;rw[aw.mp rl];exact⟨rfl,va,[vb,vc],rfl,vb,[vc],rfl,vc,[],rfl,rfl,az.next (m:=m1) P1 S1 ((((G.mono S T1).set ra i).set rb j).set rc k)⟩
  |[],P1,_=>exact P1.elim
  |[_],P1,_=>exact P1.elim
  |[_,_],P1,_=>exact P1.elim
  |_::_::_::_::_,P1,_=>exact P1.elim
 have no:xT m1 w≠none:=λz=>by
  unfold dL at P1;rw[z]at P1;exact P1
 cases w with
 |tup xs=>
  obtain⟨a,vs,rfl,hq,rl⟩:=ai.mp R1;obtain⟨q1,q2⟩:=fin xs vs rfl rl;exact .inl ⟨a,vs,rfl,hq,q1,q2⟩
 |rol xs=>
  obtain⟨a,vs,rfl,hq,rl⟩:=ba.mp R1;obtain⟨q1,q2⟩:=fin xs vs rfl rl;exact .inr ⟨a,vs,rfl,hq.sq,q1,q2⟩
 |ref l=>
  obtain⟨a,ha,rfl⟩:=aE.mp R1;cases e1:zA m1 l with
  |none=>exact Nl e1 no
  |some xs=>
   obtain⟨a',us,ha',eH,RL⟩:=zZ S1 (zK e1);rw[ha]at ha';cases ha';obtain⟨q1,q2⟩:=fin xs us e1 RL;exact .inr ⟨a,us,rfl,bj.of eH,q1,q2⟩
 |non=>exact Nl rfl no
 |bl _=>exact Nl rfl no
 |int _=>exact Nl rfl no
 |str _=>exact Nl rfl no
structure bO(C:Ctx)(sc:LA)(N:List Str)(s:Sm)(n:Ns):Prop where
 h:∀(cl:Nat → List Wd → Me → Rz) (d:Nat) (X:Cx),bv C X cl d → eA X → X.env.scope=sc → X.N=N → pY cl X s n
def Dg (hC:bv C X cl d)(hX:eA X)(h:bO C X.env.scope X.N s n):pY cl X s n:=h.h cl d X hC hX rfl rfl
def bO.«skip0»{C:Ctx}{sc:LA}{N:List Str}:bO C sc N .skip (.b []):=by
 constructor;intro cl d X hC hX es eN;subst es;subst eN;exact EF
def bO.«one»{C:Ctx}{sc:LA}{N:List Str}{s:Sm}{st:Stmt}(h:bO C sc N s (.s st)):bO C sc N s (.b [st]):=by
 constructor;intro cl d X hC hX es eN;subst es;subst eN;have ih:=h.h cl d X hC hX rfl rfl;exact v6 ih
def bO.«seq»{C:Ctx}{sc:LA}{N:List Str}{a b:Sm}{st st':Stmt}{r:List Stmt}(ha:bO C sc N a (.s st))(hb:bO C sc N b (.b (st'::r))):bO C sc N (.seq a b) (.b (st::st'::r)):=by
 constructor;intro cl d X hC hX es eN;subst es;subst eN;have iha:=ha.h cl d X hC hX rfl rfl;have ihb:=hb.h cl d X hC hX rfl rfl;exact Do iha ihb
def bO.«asg»{C:Ctx}{sc:LA}{N:List Str}{i:Nat}{e:Ex}{x:Str}{v:Expr}{p p':Pos}(hc:jS v=false)(h1:N[i]?=some x)(h2:vM sc x=true)(hr:zo e=false)(he:aD C sc N e (.e v)):bO C sc N (.asg i e) (.s (.Assign [.Name x p] v p')):=by
 constructor;intro cl d X hC hX es eN;subst es;subst eN;exact PS.imp (nr hX.nd h1 (xt h2) ((ye he X hC rfl rfl).pe hr) (jT hc) (.inl (hX.fn _))) λD σ H q=>jU q
def bO.«asgC0»{C:Ctx}{sc:LA}{N:List Str}{i:Nat}{elt it:Ex}{x y:Str}{z w:Expr}{scope:LA}{p p' q q':Pos}(h1:N[i]?=some x)(h2:vM sc x=true)(hs:yK w=true)(hB:wv sc N scope [y]=true)(hi:aD C sc N it (.e w))(re:zo elt=false)(he:aD C (yo scope sc) (yH N [y]) elt (.e z)):
   bO C sc N (.asg i (.comp elt it (.lit (.bl true)))) (.s (.Assign [.Name x p] (.ListComp z [⟨.Name y q,w,[],0⟩] scope q') p')):=by
 constructor;intro cl d X hC hX es eN;subst es;subst eN;have hset:∀v,Mm w X.env v=pure v:=x6 hs;refine tS (fs:=[]) (tc:=_) hC.calm hX h1 (xt h2) (yE hB) (jr (yE hB)) ((ye hi X hC rfl rfl).2 _) (te:=aM X.K (af cl elt)) (λXc c=>⟨v8,?_⟩) hset (λσ H Q q=>kQ (λσ H Q q=>?_) q) ((ye (aD.comp0 hs hB hi re he) X hC rfl rfl).pe rfl)
 .have q:=(ye he Xc (hC.comp c) c.sc c.N).pe re;rw[c.K]at q;exact q
 .obtain ⟨as,env,m,S,G,P⟩:=q;obtain⟨b,e,q⟩:=am.ok (m:=m) P S (ah.mpr rfl);cases e;exact q
def bO.«asgCZ0»{C:Ctx}{sc:LA}{N:List Str}{i:Nat}{elt a b:Ex}{x y y':Str}{z w w':Expr}{scope:LA}{p p' q q' q2 q3 q4 pt:Pos}{kt:Nat}(h1:N[i]?=some x)(h2:vM sc x=true)(hg:cA sc "zip"=true)(hB:wv sc N scope [y,y']=true)(hs:zG w=true)(hs':zG w'=true)(ra:zo a=false)(ha:aD C sc N a (.e w))(rb:zo b=false)(hb:aD C sc N b (.e w'))(re:zo elt=false)(he:aD C (yo scope sc) (yH N [y,y']) elt (.e z)):
   bO C sc N (.asg i (.compP .zip elt a b (.lit (.bl true)))) (.s (.Assign [.Name x p] (.ListComp z [⟨.Tuple [.Name y q,.Name y' q2] kt pt,.Call (.Name "zip" q3) [w,w'] [] q4,[],0⟩] scope q') p')):=by
 constructor;intro cl d X hC hX es eN;subst es;subst eN;refine tS (fs:=[]) (tc:=_) hC.calm hX h1 (xt h2) (yE hB) (js hC.calm (yE hB)) (tJ (yI hg) (hC.blt _ (by simp[zy])) (zS ((ye ha X hC rfl rfl).pe ra) (zS ((ye hb X hC rfl rfl).pe rb) xf (zp hs')) (zp hs)) (by rw[zp hs,zp hs'];rfl) (zp hs')) (te:=aM X.K (af cl elt)) (λXc c=>⟨v8,?_⟩) (λ_=>rfl) (λσ H Q q=>jQ (λσ H Q q=>?_) q) ((ye (aD.compZ0 hg hB hs hs' ra ha rb hb re he) X hC rfl rfl).pe rfl)
 .have q:=(ye he Xc (hC.comp c) c.sc c.N).pe re;rw[c.K]at q;exact q
 .obtain ⟨as,env,m,S,G,P⟩:=q;obtain⟨b,e,q⟩:=am.ok (m:=m) P S (ah.mpr rfl);cases e;exact q
def bO.«sel»{C:Ctx}{sc:LA}{N:List Str}{a b c d elt mx:Ex}{k1 k2 k3 k4:List Nat}{s1 s2 s3 s4 mkn side:Str}{j:Nat}{x1 x2 x3 x4 xe xm:Expr}{scope:LA}{c1 c2 c3 c4}{p0 p1 p2 p3 p4 pd pa pt pi pm ps pq pc pl pr:Pos}(e1:s1.cps.toList=k1)(e2:s2.cps.toList=k2)(e3:s3.cps.toList=k3)(e4:s4.cps.toList=k4)(nd:[k1,k2,k3,k4].Nodup)
   (h1:N[j]?=some mkn) (h2:vM sc mkn=true) (h3:zP mkn=true) (v1:gB sc mkn=true) (g1:(yH N [side])[j]?=some mkn) (v2:gB (yo scope sc) mkn=true) (g2:(yH N [side])[N.length]?=some side) (v3:gB (yo scope sc) side=true) (g3:zP side=true) (hB:wv sc N scope [side]=true)
   (ra:zo a=false) (ha:aD C sc N a (.e x1)) (rb:zo b=false) (hb:aD C sc N b (.e x2)) (rc:zo c=false) (hc:aD C sc N c (.e x3)) (rd:zo d=false) (hd:aD C sc N d (.e x4))
   (rm:zo mx=false) (hm:aD C (yo scope sc) (yH N [side]) mx (.e xm)) (re:zo elt=false) (he:aD C (yo scope sc) (yH N [side]) elt (.e xe)) (hs:yK xm=true) (le:vL (N.length+1) j elt=true) (lm:vL (N.length+1) j mx=true) :
   bO C sc N (.ret (iF N.length k1 k2 k3 k4 a b c d mx elt)) (.b [.Assign [.Name mkn p0] (.Dict [some (.Constant (.str s1) c1 p1),some (.Constant (.str s2) c2 p2),some (.Constant (.str s3) c3 p3),some (.Constant (.str s4) c4 p4)] [x1,x2,x3,x4] pd) pa,
    .Return (some (.ListComp xe [⟨.Name side pt,.Name mkn pi,[.Compare (.Subscript (.Name mkn pm) (.Name side ps) pq) [.Eq] [xm] pc],0⟩] scope pl)) pr]):=by
 constructor;intro cl d X hC hX es eN;subst es;subst eN;simp only[QI,Qo,Q5,not_or,or_false]at nd;obtain⟨⟨n12,n13,n14⟩,⟨n23,n24⟩,n34,_⟩:=nd;obtain⟨o1,o2,_⟩:=yN h3;obtain⟨o3,o4,_⟩:=yN g3;refine Dj hC.room.units hC.calm hX.nd h1 (xt h2) (hX.fn _) e1 e2 e3 e4 n12 n13 n14 n23 n24 n34 (jT rfl) ((ye ha X hC rfl rfl).pe ra) ((ye hb X hC rfl rfl).pe rb) ((ye hc X hC rfl rfl).pe rc) ((ye hd X hC rfl rfl).pe rd) (wV h1 (vV v1) o1 o2) (yE hB) (λXc c=>⟨wV (by rw[c.N];exact g1) (by rw[c.sc];exact vV v2) o1 o2,wV (by rw[c.N];exact g2) (by rw[c.sc];exact vV v3) o3 o4,?_,?_⟩) (lp hs) le lm
 .have q:=(ye hm Xc (hC.comp c) c.sc c.N).pe rm;rw[c.K]at q;exact q
 .have q:=(ye he Xc (hC.comp c) c.sc c.N).pe re;rw[c.K]at q;exact q
def bO.«dput»{C:Ctx}{sc:LA}{N:List Str}{j:Nat}{i e:Ex}{x y z:Expr}{p p':Pos}(hs:yS y=true)(ho:aD C sc N (.var j) (.e x))(ri:zo i=false)(hi:aD C sc N i (.e y))(re:zo e=false)(he:aD C sc N e (.e z)):bO C sc N (.dput j i e) (.s (.Assign [.Subscript x y p] z p')):=by
 constructor;intro cl d X hC hX es eN;subst es;subst eN;exact EC hC.room.units ((ye ho X hC rfl rfl).pe rfl) ((ye hi X hC rfl rfl).pe ri) ((ye he X hC rfl rfl).pe re) hs
def bO.«asgS»{C:Ctx}{sc:LA}{N:List Str}{o i e:Ex}{x y z:Expr}{p p':Pos}(hs:yS y=true)(ro:zo o=false)(ho:aD C sc N o (.e x))(ri:zo i=false)(hi:aD C sc N i (.e y))(re:zo e=false)(he:aD C sc N e (.e z)):bO C sc N (.asgS o i e) (.s (.Assign [.Subscript x y p] z p')):=by
 constructor;intro cl d X hC hX es eN;subst es;subst eN;exact EB ((ye ho X hC rfl rfl).pe ro) ((ye hi X hC rfl rfl).pe ri) ((ye he X hC rfl rfl).pe re) hs
def bO.«aug»{C:Ctx}{sc:LA}{N:List Str}{i:Nat}{op:Bo}{e:Ex}{x:Str}{v:Expr}{p p':Pos}(h1:N[i]?=some x)(h2:vM sc x=true)(h3:iG op=true)(hr:zo e=false)(he:aD C sc N e (.e v)):bO C sc N (.aug i op e) (.s (.AugAssign (.Name x p) (ig op) v p')):=by
 constructor;intro cl d X hC hX es eN;subst es;subst eN;exact Dm h3 hX.nd h1 (xt h2) (.inl (hX.fn _)) ((ye he X hC rfl rfl).pe hr)
def bO.«ite»{C:Ctx}{sc:LA}{N:List Str}{c:Ex}{a b:Sm}{x:Expr}{xs ys:List Stmt}{p:Pos}(rc:zo c=false)(ic:vU c=false)(hc:aD C sc N c (.e x))(ha:bO C sc N a (.b xs))(hb:bO C sc N b (.b ys)):bO C sc N (.ite c a b) (.s (.If x xs ys p)):=by
 constructor;intro cl d X hC hX es eN;subst es;subst eN;have iha:=ha.h cl d X hC hX rfl rfl;have ihb:=hb.h cl d X hC hX rfl rfl;exact BB ((ye hc X hC rfl rfl).pt rc ic) iha ihb
def bO.«forv»{C:Ctx}{sc:LA}{N:List Str}{i:Nat}{it:Ex}{body:Sm}{x:Str}{y:Expr}{sts:List Stmt}{p p':Pos}(h1:N[i]?=some x)(h2:vM sc x=true)(hs:yK y=true)(hi:aD C sc N it (.e y))(hb:bO C sc N body (.b sts)):bO C sc N (.forv i it body) (.s (.For (.Name x p) y sts [] p')):=by
 constructor;intro cl d X hC hX es eN;subst es;subst eN;have ihb:=hb.h cl d X hC hX rfl rfl;have hset:∀v,Mm y X.env v=pure v:=x6 hs;refine PS.imp (sY hX.hp hC.calm ((ye hi X hC rfl rfl).2 _) (xb hX.nd h1 (xt h2) (.inl (hX.fn _))) ihb hset) λD σ H q=>?_;exact zk (Gy i) q
def bO.«unp»{C:Ctx}{sc:LA}{N:List Str}{i j:Nat}{e:Ex}{x x':Str}{v:Expr}{k}{p p' p2 p3:Pos}(h1:N[i]?=some x)(h2:vM sc x=true)(h3:N[j]?=some x')(h4:vM sc x'=true)(hv:nZ v=true)(hr:zo e=false)(he:aD C sc N e (.e v)):
   bO C sc N (.fort i j (.tup (.pair e .unit)) .skip) (.s (.Assign [.Tuple [.Name x p,.Name x' p'] k p2] v p3)):=by
 constructor;intro cl d X hC hX es eN;subst es;subst eN;refine PS.imp (qh ((ye he X hC rfl rfl).pe hr) (qg hC.calm (xc (xb hX.nd h1 (xt h2) (.inl (hX.fn _))) (xc (xb hX.nd h3 (xt h4) (.inl (hX.fn _))) jq))) (ju (by intros;intro q;cases q)) (by cases v<;>first|rfl|cases hv)) λD σ H q=>?_;exact Gu q
def bO.«unp3»{C:Ctx}{sc:LA}{N:List Str}{i j l:Nat}{e:Ex}{x x' x'':Str}{v:Expr}{k}{p p' p2 p3 p4:Pos}(h1:N[i]?=some x)(h2:vM sc x=true)(h3:N[j]?=some x')(h4:vM sc x'=true)(h5:N[l]?=some x'')(h6:vM sc x''=true)(hv:nY v=true)(hr:zo e=false)(he:aD C sc N e (.e v)):
   bO C sc N (.unp3 i j l e) (.s (.Assign [.Tuple [.Name x p,.Name x' p',.Name x'' p4] k p2] v p3)):=by
 constructor;intro cl d X hC hX es eN;subst es;subst eN;refine PS.imp (qh ((ye he X hC rfl rfl).pe hr) (CW hC.calm (xc (xb hX.nd h1 (xt h2) (.inl (hX.fn _))) (xc (xb hX.nd h3 (xt h4) (.inl (hX.fn _))) (xc (xb hX.nd h5 (xt h6) (.inl (hX.fn _))) jq)))) (ju (by intros;intro q;cases q)) (by cases v<;>first|rfl|cases hv)) λD σ H q=>?_;exact HA q
def bO.«fort»{C:Ctx}{sc:LA}{N:List Str}{i j:Nat}{it:Ex}{body:Sm}{x x':Str}{y:Expr}{sts:List Stmt}{k}{p p' p2 p3:Pos}(h1:N[i]?=some x)(h2:vM sc x=true)(h3:N[j]?=some x')(h4:vM sc x'=true)(hs:yK y=true)(hi:aD C sc N it (.e y))(hb:bO C sc N body (.b sts)):bO C sc N (.fort i j it body) (.s (.For (.Tuple [.Name x p,.Name x' p2] k p3) y sts [] p')):=by
 constructor;intro cl d X hC hX es eN;subst es;subst eN;have ihb:=hb.h cl d X hC hX rfl rfl;have hset:∀v,Mm y X.env v=pure v:=x6 hs;refine PS.imp (sY hX.hp hC.calm ((ye hi X hC rfl rfl).2 _) (qg hC.calm (xc (xb hX.nd h1 (xt h2) (.inl (hX.fn _))) (xc (xb hX.nd h3 (xt h4) (.inl (hX.fn _))) jq))) ihb hset) λD σ H q=>?_;exact zk (z9 i j) q
def bO.«while»{C:Ctx}{sc:LA}{N:List Str}{c:Ex}{body:Sm}{x:Expr}{sts:List Stmt}{p:Pos}(rc:zo c=false)(ic:vU c=false)(hc:aD C sc N c (.e x))(hb:bO C sc N body (.b sts)):bO C sc N (.while c body) (.s (.While x sts [] p)):=by
 constructor;intro cl d X hC hX es eN;subst es;subst eN;have ihb:=hb.h cl d X hC hX rfl rfl;exact PS.imp (He hX.hp ((ye hc X hC rfl rfl).pt rc ic) ihb) λD σ H q=>Jh q
def bO.«ret»{C:Ctx}{sc:LA}{N:List Str}{e:Ex}{x:Expr}{p:Pos}(hr:zo e=false)(he:aD C sc N e (.e x)):bO C sc N (.ret e) (.s (.Return (some x) p)):=by
 constructor;intro cl d X hC hX es eN;subst es;subst eN;exact Dn ((ye he X hC rfl rfl).pe hr)
def bO.«expr»{C:Ctx}{sc:LA}{N:List Str}{e:Ex}{x:Expr}{p:Pos}(hc:jS x=false)(hr:zo e=false)(he:aD C sc N e (.e x)):bO C sc N (.expr e) (.s (.Expr x p)):=by
 constructor;intro cl d X hC hX es eN;subst es;subst eN;exact EE ((ye he X hC rfl rfl).pe hr) hc
def bO.«never»{C:Ctx}{sc:LA}{N:List Str}{st:Stmt}:bO C sc N .never (.s st):=by
 constructor;intro cl d X hC hX es eN;subst es;subst eN;exact Hu
end
set_option genInjectivity false in
structure bc where
 nm:Str
 st:Stmt
 N:List Str
 ps:List Str
 fn:Fn
 on:Str
def jW(N ps:List Str)(sc:LA):Bool:=
 decide (sc.kind=.function)&&(decide (sc.isCoroutine=false)&&(decide (sc.isGenerator=false)&&(decide N.Nodup&&(decide (N.take ps.length=ps) &&
  (ps.all (λx=>decide (sc.names.lookup x=some .local) || decide (sc.names.lookup x=some .cell))&&sc.names.all (λy=>!(decide (y.2=.free))))))))
def kR (h:jW N ps sc=true):cL N ps sc:=by
 unfold jW at h;simp only[Qr,Wx,Np,Q6,Wn,decide_eq_false_iff_not]at h;obtain⟨h1,h2,h3,h4,h5,h6,h7⟩:=h;exact⟨h1,h2,h3,h4,h5,h6,h7⟩
structure ma(C:Ctx)(d:bc):Prop where
 sc:jW d.N d.ps (zL d.st)=true
 ar:d.ps.length=d.fn.ar
 sz:d.N.length=d.fn.sz
 body:bO C (zL d.st) d.N d.fn.body (.b (xg d.st))
section
variable{P:LF}{w:LG}{K:Qb}{mg:Str->Option Value}{base:LK}{C:Ctx}{cl:Nat->List Wd->Me->Rz}
def kS (R:ae K as H ws vs)(hl:ws.length=fn.ar)(hN:N.length=fn.sz):aF K as H (yY fn ws) (L2.start N vs):=by
 have hv:=R.length;refine⟨by simp[yY,L2.start,hN,hv],λi w e=>?_⟩;unfold yY at e;by_cases hi:i<ws.length
 .rw[Qg (by simpa using hi),Qt]at e;cases hx:ws[i]? with
  |none=>rw[hx]at e;cases e
  |some x=>
   rw[hx]at e;cases e;obtain⟨v,h1,h2⟩:=R.get hx;refine⟨v,?_,h2⟩;unfold L2.start;rw[Qg (by simp;lia),Qt,h1];rfl
 .rw[Qi (by simpa using hi),Wz]at e;split at e<;>cases e
def Gt (F:eI K d.on d.on d.st f fd)(hd:ma C d)(hfn:∀(i:Nat) (nm:Str),C.fns[i]?=some nm->∃f fd ps,mg nm=some (.ref f)/\Q7 K (.ref f)=true/\Binds K fd ps []/\cf P w K mg base dI k f fd ps (kP K (cl i)))(hcon:jN K w mg C)(hblt:∀nm∈zy,mg nm=none):
  cf P w K mg base dI (k+1) f fd d.ps (kP K (wL cl d.fn)):=by
 obtain⟨h1,h2,h3,h4⟩:=hd;have Sc:=kR h1;have cS:∀{as:List Addr}{H:Hp}{Q:VK}{ws:List Wd}{m:Me},am K as H Q (wL cl d.fn ws m)->ws.length=d.fn.ar:=λ{as H Q ws m} h=>by
  unfold wL at h;split at h
  .assumption
  .exact h.elim
 refine F.ok Sc (λvs H Q E h=>?_) (λcdv A outer s H vs Q E hr h=>?_)
 .obtain ⟨as,m,ws,S,R,q⟩:=h;rw[<-R.length,cS q,h2]
 .obtain ⟨as,m,ws,S,R,q⟩:=h;have ha:=cS q;have hC:bv C (jl dI P w K mg base d.N d.on (zL d.st) f cdv A outer s H E).nox cl k:=⟨hr,rfl,hfn,hcon,hblt⟩;have hX:eA (jl dI P w K mg base d.N d.on (zL d.st) f cdv A outer s H E).nox:=⟨Sc.nd,λ_=>rfl,PassesOwn.never⟩;refine⟨_,Dg hC hX h4,as,yY d.fn ws,m,S,kS R ha h3,?_⟩;unfold wL at q;rw[Nj ha]at q;cases hr:bA cl d.fn.body (yY d.fn ws) m with
  |next e m1=>rw[hr]at q;exact λas' H' σ' T S' G=>q as' H' .non T S' (aq.mpr rfl)
  |ret w m1=>rw[hr]at q;exact λas' H' v T S' R'=>q as' H' v T S' R'
  |brk e m1=>rw[hr]at q;exact q.elim
  |cont e m1=>rw[hr]at q;exact q.elim
  |exc c w e m1=>rw[hr]at q;exact q.elim
  |no=>rw[hr]at q;exact q.elim
def vf(K:Qb)(mg:Str->Option Value)(d:bc):Prop:=∃f fd,eI K d.on d.on d.st f fd/\mg d.nm=some (.ref f)
def eX(d:bc):Prop:=∀(kV doc pm:Value) (an:Option Addr) (cdv ct:Value) (us:List Value),us.length=d.ps.length->bindArgs (Wt d.on d.on (wK d.st) (xg d.st) (zL d.st) .none kV doc pm an cdv ct) ⟨us,[]⟩=pure (d.ps.zip us)
end
def Gs {K:Qb}{D:List bc}{ns:List Int}(hO:iC H)(hS:bj K H a (ns.map V.int))(h:∃m,yR (D.map (·.fn)) k i [.rol (ns.map Wd.int)] []=.ok (.bl true) m):
  kP K (yR (D.map (·.fn)) k i) [.ref a] H (λv _=>v=.bl true) E:=by
 obtain⟨m,h⟩:=h;refine⟨[],[],[.rol (ns.map Wd.int)],⟨rfl,QB,λl a o e=>by simp at e⟩,ao.mpr ⟨.ref a,[],rfl,ba.mpr ⟨a,ns.map V.int,rfl,?_,?_⟩,aw.mpr rfl⟩,?_⟩
 .rcases hS with (hS|⟨o,hS⟩)|hS
  .rcases hO a with z|⟨o,xs,z⟩
   .rw[z]at hS;cases hS
   .rw[z]at hS;cases hS
  .exact .inl ⟨o,hS⟩
  .exact .inr hS
 .have all:∀l:List Int,ae K [] H (l.map Wd.int) (l.map V.int):=by
   intro l
   induction l with
   |nil=>exact aw.mpr rfl
   |cons n l ih=>exact ao.mpr ⟨_,_,rfl,aa.mpr rfl,ih⟩
  exact all ns
 .rw[h];exact λas' H' v T S R=>ah.mp R
theorem aD.v{C:Ctx}{sc:LA}{N:List Str}{i:Nat}{x:Str}{p:Pos}(h1:N[i]?=some x:=by rfl)(h2:gB sc x=true:=by kernel_rfl)(h3:zP x=true:=by kernel_rfl):aD C sc N (.var i) (.e (.Name x p)):=.var h1 h2 h3
def As{P:List Value->Prop}(h:∀a,P [a]):∀us:List Value,us.length=1->P us
 |[a],_=>h a
def nW {P:List Value->Prop}(h:∀a (us:List Value),us.length=n->P (a::us)):∀us:List Value,us.length=n+1->P us
 |a::us,e=>h a us (Nat.succ.inj e)
def lG{P:List Value->Prop}(h:∀a b,P [a,b]):∀us:List Value,us.length=2->P us:=nW λa=>As (P:=λus=>P (a::us)) (h a)
def nX{P:List Value->Prop}(h:∀a b c,P [a,b,c]):∀us:List Value,us.length=3->P us:=nW λa=>lG (P:=λus=>P (a::us)) (h a)
def Jz{P:List Value->Prop}(h:∀a b c d,P [a,b,c,d]):∀us:List Value,us.length=4->P us:=nW λa=>nX (P:=λus=>P (a::us)) (h a)
end Mini
namespace L2
open PySem PySem.Spec PyProof.Rows
def cz(fs:List Addr)(H':Hp)(h h' B:LK):Prop:=∀b o,h'.get? b=some o->(H' b≠none\/∃o₀,h.get? b=some o₀)->b∉fs->B.get? b=some o
def eJ(P:LF)(w:LG):eB:=λouter H s E ev s'=>∃(C e t:Addr) (B:LK) (H':Hp),ev=.ref e/\s'.os=s.os/\LR s'.gens/\Un (bR outer) [] H H' s.heap s'.heap/\cg P w H' s'.heap /\
 Heap.FlyingW B outer e (.ref C) (.ref t) s'.heap/\cz (bR outer) H' s.heap s'.heap B/\E (.ref C) none H'
def u9 (hf:env.frame=some L):bR (env::l)=L::bR l:=by
 unfold bR;rw[WO,hf]
def gY (hl:h.FunFrames base l)(hn:∀b∈bR l,H b=none)(u:Un fs [] H H' h h'):∀b∈bR l,H' b=none:=λb hb=>by
 obtain⟨_,o,ho,_⟩:=hl.mem hb;exact u.free b o ho (hn b hb) (by simp)
theorem aW.ob (x:aW P w H h a o):∃u,h.get? a=some u:=by
 cases o with
 |lst xs=>obtain⟨_,_,_,_,e⟩:=x;exact⟨_,e⟩
 |tup xs=>obtain⟨_,_,_,o,e,_⟩:=x;exact⟨_,e⟩
 |dK kvs=>obtain⟨_,_,_,_,o,_,_,e,_⟩:=x;exact⟨_,e⟩
 |dT kvs=>obtain⟨_,_,_,_,o,_,_,e,_⟩:=x;exact⟨_,e⟩
 |set S n=>obtain⟨o,_,_,_,e,_⟩:=x;exact⟨_,e⟩
 |ins C dx fs=>obtain⟨_,_,_,e,_⟩:=x;exact⟨_,e⟩
 |own y=>exact x
 |xd fs=>obtain⟨_,⟨_,_,_,e,_⟩,_⟩:=x;exact⟨_,e⟩
 |rng lo hi=>obtain⟨_,_,_,e⟩:=x;exact⟨_,e⟩
 |frz ob u=>exact⟨_,x.1⟩
 |tbl ps=>exact⟨_,show h.get? a=some _ from x⟩
 |met f y=>exact⟨_,show h.get? a=some _ from x⟩
 |ext φ=>exact x.2.1
section
variable{P:LF}{w:LG}{H':Hp}{h1 h2 B:LK}
def jX (ok:cg P w H' h1)(hfs:∀b∈fs,H' b=none)(hB:cz fs H' h h1 B)(st:B.StaysIn h2):cg P w H' h2:=λa o e=>
 (ok a o e).stay (λb u hb q=>st b u (hB b u q (.inl (by
  rcases hb with rfl|hb
  .rw[e];simp
  .rw[hb];simp)) λhm=>by
   have:=hfs b hm;rcases hb with rfl|hb
   .rw[e]at this;cases this
   .rw[hb]at this;cases this)) (λ_ q=>q) λ_ _ q=>q
def cz.next{fs:List Addr}{h:LK}(ok:cg P w H' h1)(hB:cz fs H' h h1 B)(st:B.StaysIn h2)(th:∀b o,h.get? b=some o->∃o',h1.get? b=some o'):cz fs H' h h2 B:=λb o e hq hn=>by
 have ex:∃o',h1.get? b=some o':=by
  rcases hq with z|⟨o₀,z⟩
  .cases q:H' b with
   |none=>exact Nl q z
   |some u=>
    exact(ok b u q).ob
  .exact th b o₀ z
 obtain⟨o',e1⟩:=ex;have e2:=hB b o' e1 hq hn;have e3:=st b o' e2;rw[e]at e3;cases e3;exact e2
end
def tR (hL:h₀.objs.size<=L)(hfo:h₀.FunFrames base outer)(hf0:∀b∈bR outer,H₀ b=none)(u0:Un (bR outer) [] H₀ H h₀ h)(u1:Un (L::bR outer) [] H H' h h1)(hB:cz (L::bR outer) H' h h1 B)(st:B.StaysIn h2)(up:h1.UpToSlots h2):Un (bR outer) [] H₀ H' h₀ h2:=by
 have no:∀b:Addr,b∉([]:List Addr):=λb=>by simp
 have nL:∀{b:Addr}{o:Obj},h₀.get? b=some o->b≠L:=λ{b o} e z=>by
  subst z;exact Nl (Qf (Ql e) hL) (Q9 _)
 have kp:∀b o,h₀.get? b=some o->H₀ b=none->b∉bR outer->h2.get? b=some o:=λb o e n hb=>by
  have e1:=u0.keep b o e n hb (no b);have hb':b∉L::bR outer:=λhm=>(Qo.mp hm).elim (nL e) hb;have e2:=u1.keep b o e1 (u0.free b o e n (no b)) hb' (no b);exact st b o (hB b o e2 (.inr ⟨o,e1⟩) hb')
 have sl:∀b o,h₀.get? b=some o->H₀ b=none->b∈bR outer->∃sl,h2.get? b=some {o with slots:=sl}:=λb o e n hb=>by
  obtain⟨s1,e1⟩:=u0.slot b o e n hb (no b);obtain⟨s2,e2⟩:=u1.slot b _ e1 (u0.free b o e n (no b)) (Qh _ hb) (no b);obtain⟨_,o',ho',hd⟩:=hfo.mem hb;rw[e]at ho';cases ho';obtain⟨s3,e3⟩:=up b _ e2 hd;exact⟨s3,e3⟩
 refine⟨λb o e n hb _=>kp b o e n hb,λb o e n hb _=>sl b o e n hb,λb o e n _=>?_,λb o e _=>?_,λb xs q=>u1.tups b xs (u0.tups b xs q),λb o u q=>u1.frzs b o u (u0.frzs b o u q),λb ps q=>?_⟩
 .obtain ⟨o1,e1⟩:=u0.there b o e (no b);exact u1.free b o1 e1 (u0.free b o e n (no b)) (no b)
 .by_cases hb:b∈bR outer
  .obtain ⟨s1,e1⟩:=sl b o e (hf0 b hb) hb;exact⟨_,e1⟩
  .obtain ⟨o1,e1⟩:=u0.there b o e (no b);obtain⟨o2,e2⟩:=u1.there b o1 e1 (no b);have hb':b∉L::bR outer:=λhm=>(Qo.mp hm).elim (nL e) hb;exact⟨o2,st b o2 (hB b o2 e2 (.inr ⟨o1,e1⟩) hb')⟩
 .obtain ⟨m1,e1⟩:=u0.tbls b ps q;obtain⟨m2,e2⟩:=u1.tbls b _ e1;exact⟨m1++m2,by rw[e2,Array.append_assoc]⟩
section
variable{P:LF}{w:LG}{K:Qb}{mg:Str->Option Value}{base:LK}{N:List Str}{qual:Str}{scope:LA}{f:Addr}{cd:Value}{A:LQ}{outer:List Env}{s:Shared}{H:Hp}{E:XK}
def gZ (hL:h₀.objs.size<=L)(hLn:H' L=none)(u0:Un fs [] H₀ H h₀ h)(ok:cg P w H' h1)(th:∀b o,h.get? b=some o->∃o',h1.get? b=some o')(hB:cz (L::fs) H' h h1 B)(st:B.StaysIn h2):cz fs H' h₀ h2 B:=λb o e hq hn=>by
 have hb':b∉L::fs:=λhm=>(Qo.mp hm).elim (λz=>by
  subst z;rcases hq with q|⟨o₀,q⟩
  .exact q hLn
  .exact Nl (Qf (Ql q) hL) (Q9 _)) hn
 refine cz.next ok hB st th b o e (hq.imp id λ⟨o₀,q⟩=>?_) hb';exact u0.there b o₀ q (by simp)
def Ey:jC (eJ P w) (jl (eJ P w) P w K mg base N qual scope f cd A outer s H E) E:=by
 intro pins σ H1 s1 ev s2 I h;obtain⟨C,e,t,B,H2,rfl,os,bare,un,hok,fl,hB,hE⟩:=h;have hfr:(envOfC qual scope s.heap.objs.size f cd).frame=some s.heap.objs.size:=rfl;have un':Un (s.heap.objs.size::bR outer) [] H1 H2 s1.heap s2.heap:=un;have hB':cz (s.heap.objs.size::bR outer) H2 s1.heap s2.heap B:=hB;have fz:=gY I.stack I.stkFree un;refine wpAny_leaves_onW I.ok.frames hfr fl λh' fl' up=>?_;refine⟨C,e,t,B,H2,rfl,os.trans I.os,bare,?_,?_,fl',?_,hE⟩
 .exact tR (Qk _) I.ok.funs I.ok.frf I.base un' hB' fl'.1 up
 .exact jX hok fz hB fl'.1
 .exact gZ (Qk _) (fz _ (by show _∈s.heap.objs.size::bR outer;exact QF)) I.base hok (λb o q=>un.there b o q (by simp)) hB' fl'.1
end
def nM(X:Cx)(E:XK):Prop:=∀(pins:List (Addr×Obj)) (σ:St) (H:Hp) (s:Shared) (h':LK) (e C:Addr) (vs:List Value),Inv X pins σ H s->Heap.MadeExcOf s.heap h' e (.ref C) vs->E (.ref C) none H->X.xe (.ref e) {s with heap:=h' }
section
variable{P:LF}{w:LG}{K:Qb}{mg:Str->Option Value}{base:LK}{N:List Str}{qual:Str}{scope:LA}{f:Addr}{cd:Value}{A:LQ}{outer:List Env}{s:Shared}{H:Hp}{E:XK}
def Gr:nM (jl (eJ P w) P w K mg base N qual scope f cd A outer s H E) E:=by
 intro pins σ H1 s1 h' e C vs I mk hE;have hfr:(envOfC qual scope s.heap.objs.size f cd).frame=some s.heap.objs.size:=rfl;have hin:∀env∈(envOfC qual scope s.heap.objs.size f cd::outer),∀b,env.frame=some b->b∈bR (envOfC qual scope s.heap.objs.size f cd::outer):=λenv he b hb=>WT.mpr ⟨env,he,hb⟩;have hst:s1.heap.FunFrames base (envOfC qual scope s.heap.objs.size f cd::outer):=I.stack;have hfz:∀b∈bR (envOfC qual scope s.heap.objs.size f cd::outer),H1 b=none:=I.stkFree;have hB:cz (s.heap.objs.size::bR outer) H1 s1.heap s1.heap (PySem.W.hideAll s1.heap (bR (envOfC qual scope s.heap.objs.size f cd::outer))):=λb o q _ hn=>VD _ q hn;refine wpAny_leaves_madeW (h:=s1.heap) I.ok.frames hfr (λb o q=>PySem.W.of_hideAll _ q) (PySem.W.funFrames_hide hst hin) mk λh2 t fl _ _ up=>?_;have up':s1.heap.UpToSlots h2:=(Heap.UpToSlots.of_keeps mk.keeps).trans up;refine⟨C,e,t,_,H1,rfl,I.os,I.bare,?_,?_,fl,?_,hE⟩
 .exact tR (Qk _) I.ok.funs I.ok.frf I.base Un.refl hB fl.1 up'
 .exact jX I.hok hfz hB fl.1
 .exact gZ (Qk _) (hfz _ (by show _∈s.heap.objs.size::bR outer;exact QF)) I.base I.hok (λb o q=>⟨o,q⟩) hB fl.1
end
def Df(C:Addr)(E:XK)(t:TA):TS:=λD σ H=>t σ H λvs H1=>vs.length<=sizeLine/\E (.ref C) none H1
section
variable{X:Cx}{x:Str}{C:Addr}{bm:List Value}{Bn newId initId:String}{E:XK}{t:TA}{np cpos pos:Pos}{e₀:Expr}{rest:List Expr}
def Gq(O:OwnCls x C bm newId X.mg X.base)(FB:ExcBaseFacts Bn newId initId bm)(hc:X.calm=true)(hg:Gl X x)(hx:nM X E)(ha:PA X (e₀::rest) t)(hdb:(x==("__debug__":Str))=false:=by decide)
  (he:LY (e₀::rest) X.env=(false,eval e₀ X.env)::LY rest X.env:=by rfl) (hpl:(LX cpos (LY rest X.env)).any (·.1)=false:=by rfl) :
  PS X (.Raise (some (.Call (.Name x np) (e₀::rest) [] cpos)) none pos) (Df C E t):=by
 intro pins s σ H D I h;obtain⟨tl,N,nm,q,bs,hdct,sn,sub,ab,col,dd,k0,k1,k2,k3,k5,mN,hC,hN,hni,T⟩:=O.obj;refine wpAny_Raise_call_subT (k0:=k0) (k1:=k1) (k2:=k2) (k3:=k3) (k5:=k5) (dd:=dd) (col:=col) (ab:=ab) (sub:=sub) (sn:=sn) (hdct:=hdct) (bs:=bs) (q:=q) (nm:=nm) (C:=C) (N:=N) (bm:=tl) (mN:=mN) FB (T.hasType FB.hasBase) (I.ok.hd hc) (by rw[he];exact hpl) hni (jo I hg O.bound ⟨rfl,?_⟩ hdb);have h1:=ha cpos pins s σ H _ I h;rw[he]at h1 ⊢;refine Calls.evalArgs_plain (LZ h1 (λus s2 h2=>?_) λ_ _ y=>y);obtain⟨vs,H1,I1,r,hz,hE⟩:=h2;exact⟨rfl,by rw[<-r.length];exact hz,I1.bk _ _ hC,hN.keeps I1.bk,T.keeps I1.bk,λh' e mk=>hx pins σ H1 s2 h' e C us I1 mk hE⟩
end
end L2
namespace L2
open PySem PySem.Spec PySem.Calls PyProof.Rows PySem.W Builtin Builtin.ObjectAttr Builtin.Getset_descriptor
section
variable{prog:LF}{w:LG}{A:LQ}{E:Value->Shared->Prop}{K:Qb}{x C:Addr}{ox:Obj}{h:LK}{g:Array LS}{d:Drawn}{t:Nat}{os:OsState}
def jY(M:LU)(hx:h.get? x=some ox)(hc:ox.cls=.ref C):Looks M h (typeOf (.ref x)) (.ref C):=hc▸(Looks.ld hx).andThen .now
def Ew (X:K.In h)(hx:h.get? x=some ox)(hc:ox.cls=.ref C)(hm:M9 K C (.type "object")=some true)(hq:R (.ok (.ret (.ref C))) ⟨h,g,d,t,os⟩):
  Mv (LW prog w) A (.call (.builtin "getset_descriptor.__get__") ⟨[.builtin "object.__class__",.ref x,tp],[]⟩) R ⟨h,g,d,t,os⟩:=by
 have L0:=jY (LW prog w) hx hc;have L1:=looks_mroIn (M:=LW prog w) X hm;refine Na KF.slot_gs.plain KF.entry_gs ?_;refine KF.slot_gs.check _ _ _ _ _ _ _ _ KF.type_class (KF.args_gs _ _ _) ?_;unfold Builtin.«getset_descriptor.__get__» descrGet;rw[dga_obj];refine Mc (Mi ?_);unfold descrGetter descrCheckInstance descrNameAndClass isInstance;simp only[KF.owner_class]
 repeat lk
 have z1:Code.quiet (.builtin "object.__class__" ⟨[.ref x],[]⟩)=true:=Code.quiet_builtin _ (by decide +kernel);refine⟨z1,?_⟩;refine codeAny_builtin KF.entry_class ?_;unfold Builtin.«object.__class__» shownTypeOf
 repeat lk
 exact hq
def Hz (X:K.In h)(hx:h.get? x=some ox)(hc:ox.cls=.ref C)(hcl:Nb K (.ref C) "__class__"=some (some (.builtin "object.__class__")))(hm:M9 K C (.type "object")=some true)(hq:Q (.done (.ret (.ref C))) ⟨h,g,d,t,os⟩):LV (LW prog w) A (Builtin.«object.__getattribute__» ⟨[.ref x,.str "__class__" tk],[]⟩) Q E ⟨h,g,d,t,os⟩:=by
 have L0:=jY (LW prog w) hx hc;have L1:=Nc (M:=LW prog w) X hcl;have hT5:(⟨h,g,d,t,os⟩:Shared).TypeIs (.builtin "object.__class__") "getset_descriptor":=F.typeOf_object_class;have f5:=F.typeOf_object_class;have f6:=F.slot_gs_get.lookup;have f7:=F.slot_gs_set.lookup;unfold Builtin.«object.__getattribute__»
 repeat (any_goals (first|assumption|(with_reducible refine Nf hx ?_;rw[hc])|with_reducible refine Looks.at (by assumption) ?_|wp_step))
 refine Ew X hx hc hm ?_
 repeat (any_goals (first|assumption|wp_step))
def Hy (X:K.In h)(hx:h.get? x=some ox)(hc:ox.cls=.ref C)(hb:M9 K C (.type "BaseException")=some true)(hq:Q () ⟨h,g,d,t,os⟩):
  LV (LW prog w) A (checkBuiltinCall "BaseException.__getattribute__" ⟨[.ref x,nameV],[]⟩) Q E ⟨h,g,d,t,os⟩:=by
 have L0:=jY (LW prog w) hx hc;have L1:=looks_mroIn (M:=LW prog w) X hb;have z1:builtinKind "BaseException.__getattribute__"=some .slot:=by decide +kernel
 have z2:splitId "BaseException.__getattribute__"=some ("BaseException","__getattribute__"):=by decide +kernel
 have z3:=F.args_bexc_ga (.ref x) nameV;simp only[checkBuiltinCall,z1,z2];refine Mc ?_;unfold isInstance
 repeat (first|with_reducible refine Looks.at (by assumption) ?_|wp_step)
 exact hq
def Gp (X:K.In h)(hx:h.get? x=some ox)(hc:ox.cls=.ref C)(hb:M9 K C (.type "BaseException")=some true)(hcl:Nb K (.ref C) "__class__"=some (some (.builtin "object.__class__")))(hm:M9 K C (.type "object")=some true)(hq:R (.ok (.ret (.ref C))) ⟨h,g,d,t,os⟩):Mv (LW prog w) A (.call (.builtin "BaseException.__getattribute__") ⟨[.ref x,.str "__class__" tk],[]⟩) R ⟨h,g,d,t,os⟩ :=
 Na F.attr_ValueError.ga.plain F.entry_bexc_ga (Hy X hx hc hb (Hz X hx hc hcl hm hq))
def Ev (X:K.In s.heap)(hx:s.heap.get? x=some ox)(hc:ox.cls=.ref C)(hga:Nb K (.ref C) "__getattribute__"=some (some (.builtin "BaseException.__getattribute__")))(hgt:Nb K (.ref C) "__getattr__"=some none)(hb:M9 K C (.type "BaseException")=some true)(hcl:Nb K (.ref C) "__class__"=some (some (.builtin "object.__class__")))(hm:M9 K C (.type "object")=some true)(hq:Q (some (.ref C)) {s with toks:=s.toks+1}):LV (LW prog w) A (getAttr? (.ref x) "__class__") Q E s:=by
 obtain⟨h,g,d,t,os⟩:=s;have L0:=jY (LW prog w) hx hc;have L1:=Nc (M:=LW prog w) X hga;have L2:=Nc (M:=LW prog w) X hgt;have f3:=F.attr_ValueError.ga.bind (.ref x);have y2:(Value.builtin "BaseException.__getattribute__" == Value.builtin "object.__getattribute__")=false:=by decide +kernel
 have y1:(onTheHeap (Value.ref C)&&Value.builtin "BaseException.__getattribute__" == Value.builtin "object.__getattribute__")=false:=by rw[y2];rfl
 unfold getAttr? getAttrBy? getAttrBy;refine Mc (wpAny_mkText (Mc (wpAny_attempt (Md (Mc (L0.at (Mc (L1.at ?_))))))));dsimp only;rw[Nk (by rw[y1];decide)];unfold getAttrByItsOwn hookBefore callGetattribute
 repeat (any_goals (first|assumption|with_reducible refine Looks.at (by assumption) ?_|wp_step))
 refine Gp (h:=h) X hx hc hb hcl hm ?_
 repeat (any_goals (first|assumption|wp_step))
end
end L2
namespace L2
open PySem PySem.Spec PySem.Calls PyProof.Rows PySem.W
structure dH(K:Qb)(C:Addr):Prop where
 ga:Nb K (.ref C) "__getattribute__"=some (some (.builtin "BaseException.__getattribute__"))
 gt:Nb K (.ref C) "__getattr__"=some none
 be:M9 K C (.type "BaseException")=some true
 cl:Nb K (.ref C) "__class__"=some (some (.builtin "object.__class__"))
 mo:M9 K C (.type "object")=some true
def sN {K:Qb}(h:(clsIn K C).isSome=true):∃c d cd sl,K.lookup C=some ⟨c,d,.cls cd,sl⟩:=by
 unfold clsIn at h;split at h
 .rename_i c d cd sl ho;exact⟨c,d,cd,sl,ho⟩
 .cases h
def dH.ci {K:Qb}(Z:dH K C):(clsIn K C).isSome=true:=by
 obtain⟨cd,a,_⟩:=QH.mp Z.be;rw[a];rfl
def u8 {K:Qb}(Z:dH K C)(hc:ox.cls=.ref C):KitX K (.ref x) (.ref C) (λh=>h.get? x=some ox) where
 ty:=λM h _ p=>jY M p hc
 it:=λM h X _=>by
  obtain⟨c,d,cd,sl,ho⟩:=sN Z.ci;intro A' Q' E' s' k q;unfold isType loadHead;refine Mc (wpAny_loadPart (k _ _ (X _ _ ho)) ?_);exact Mi q
 ne:=λh tp dd its n sl X htp=>by
  obtain⟨c,d,cd,sl',ho⟩:=sN Z.ci;refine Bool.eq_false_iff.mpr λq=>?_;cases Value.ref.inj (beq_iff_eq.mp q);have z:=(X _ _ ho).symm.trans htp;cases z
 ca:=λX p k=>Ev X p hc Z.ga Z.gt Z.be Z.cl Z.mo k
def oF(K:Qb)(x C:Addr):List V->Hp->VK->Prop:=λvs H Q=>
 (∃c u b,vs=[.ref x,c]/\RelV c u/\(∀u',RelV c u'->u'=u)/\kitOne K (.ref C) u=some b/\Q (.bl b) H) \/
 (∃tp ts b,vs=[.ref x,.ref tp]/\H tp=some (.tup ts)/\(∀us,ay ts us->kitAny K (.ref C) us=some b)/\Q (.bl b) H)
def c8 (r:ay [v,w] us):∃a b,us=[a,b]/\RelV v a/\RelV w b:=by
 cases r with
 |cons p q=>
  cases q with
  |cons p' q'=>
   cases q' with
   |nil=>exact⟨_,_,rfl,p,p'⟩
def Go (Z:dH X.K C)(hp:(x,ox)∈X.pn)(hc:ox.cls=.ref C):bG X (.builtin "isinstance") (oF X.K x C):=by
 intro pins s σ H xs us Q I r h;have hx:s.heap.get? x=some ox:=(I.pin (x,ox) (QS _ hp)).1;rcases h with⟨c,u,b,rfl,ru,uq,k,q⟩|⟨tp,ts,b,rfl,ht,k,q⟩
 .obtain ⟨a,a',rfl,ra,ra'⟩:=c8 r;obtain rfl:a=.ref x:=ra;obtain rfl:=uq a' ra';exact kia_one (u8 Z hc) I.kIn hx k (λz=>nomatch z) λtk=>⟨.bl b,H,I.tok tk,rfl,q⟩
 .obtain ⟨a,a',rfl,ra,ra'⟩:=c8 r;obtain rfl:a=.ref x:=ra;obtain rfl:a'=.ref tp:=ra';obtain⟨z,its,rv,⟨oc,od,dat,sl⟩,ho,h1,n,hd⟩:=I.hok tp _ ht;obtain rfl:oc=.type "tuple":=h1;obtain rfl:dat=.seq its.toArray n:=hd;exact kia_tup (u8 Z hc) I.kIn hx ho (k its rv) (λz=>nomatch z) λtk=>⟨.bl b,H,I.tok tk,rfl,q⟩
abbrev Cx.held(X:Cx)(e:Addr)(oe:Obj)(E:Value->Shared->Prop):Cx:={X with A:=X.A.mark (some (.ref e)),calm:=false,pn:=(e,oe)::X.pn,xe:=E}
section
variable{X:Cx}{pins:List (Addr×Obj)}{σ:St}{H:Hp}{s:Shared}{e:Addr}{oe:Obj}{E:Value->Shared->Prop}
theorem Cx.Ok.held(ok:X.Ok):(X.held e oe E).Ok:=
 ⟨ok.mod,ok.kind,ok.glob,ok.blt,ok.above,ok.inj,ok.has,ok.cab,(λz=>by cases z),ok.frames,ok.stk,ok.exf,ok.bs,ok.bsz,ok.noex,ok.exfs,ok.funs,ok.frf⟩
def Inv.unheld(ok:X.Ok)(I:Inv (X.held e oe E) pins σ H s):Inv X pins σ H s:=
 ⟨ok,I.os,I.bare,I.base,I.loc,I.cell,I.free,I.freeC,(λp hp=>I.pin p (Qh _ hp)),I.hok,I.len⟩
end
def Eu (hl:h.FunFrames base l)(hn:∀b∈bR l,H b=none)(u:Un (bR l) [] H H' h h1)(hB:cz (bR l) H' h h1 B)(st:B.StaysIn h2)(up:h1.UpToSlots h2):Un (bR l) [] H H' h h2:=by
 have no:∀b:Addr,b∉([]:List Addr):=λb=>by simp
 have sl:∀b o,h.get? b=some o->b∈bR l->∃sl,h2.get? b=some {o with slots:=sl}:=λb o e hb=>by
  obtain⟨s1,e1⟩:=u.slot b o e (hn b hb) hb (no b);obtain⟨_,o',ho',hd⟩:=hl.mem hb;rw[e]at ho';cases ho';obtain⟨s2,e2⟩:=up b _ e1 hd;exact⟨s2,e2⟩
 refine⟨λb o e n hb _=>?_,λb o e n hb _=>sl b o e hb,u.free,λb o e _=>?_,u.tups,u.frzs,u.tbls⟩
 .have e1:=u.keep b o e n hb (no b);exact st b o (hB b o e1 (.inr ⟨o,e⟩) hb)
 .by_cases hb:b∈bR l
  .obtain ⟨s1,e1⟩:=sl b o e hb;exact⟨_,e1⟩
  .obtain ⟨o1,e1⟩:=u.there b o e (no b);exact⟨o1,st b o1 (hB b o1 e1 (.inr ⟨o,e⟩) hb)⟩
section
variable{M:LU}{A:LQ}{E:Value->Shared->Prop}{bs bs' bm bm':List Value}{nm nm' q q':Str}{C G N N':Addr}{hdct hdct':Bool}{sn sn':List Str}{sub sub':List Value}{ab ab':Bool}{col col':Option Bool}{dd dd':Option Addr}{k0 k1 k2 k3 k5 j0 j1 j2 j3 j5:Option Value}{newId newId':String}
def Gm {os:OsState}(hC:h.get? C=some (Ng nm q C N bs bm hdct sn sub ab col dd k0 k1 k2 k3 k5 newId))(hG:h.get? G=some (Ng nm' q' G N' bs' bm' hdct' sn' sub' ab' col' dd' j0 j1 j2 j3 j5 newId'))(he:h.get? e=some oe)(hcls:oe.cls=.ref C)(y1:(Value.ref G::bm').contains (.type "BaseException")=true)(y2:(Value.ref C::bm).contains (.ref G)=true)(hq:Q true ⟨h,g,d,t,os⟩):LV M A (excMatches (.ref e) (.ref G)) Q E ⟨h,g,d,t,os⟩:=by
 have f:=tc_notTuple;unfold excMatches
 repeat (first|(with_reducible refine Nf he ?_;rw[hcls])|with_reducible refine Nf hG ?_|(with_reducible refine Nh hG ?_;rw[y1])|(with_reducible refine Nh hC ?_;rw[y2])|wp_step)
 exact hq
end
section
variable{X:Cx}{pins:List (Addr×Obj)}{σ:St}{H:Hp}{s:Shared}
def Inv.lost{h':LK}{m':Str->Option Value}{t':Nat}(I:Inv X pins σ H s)(hn:h'.Ns X.env.locals m')(hs:WE X.env.locals s.heap h'):Inv X pins (Qx X.N.length none) H {s with heap:=h',toks:=t' }:=by
 have lo:∀{b:Addr}{o:Obj},X.s₀.heap.get? b=some o->b≠X.env.locals:=λ{b o} e z=>by
  subst z;exact Nl (Qf (Ql e) I.ok.above) (Q9 _)
 refine⟨I.ok,I.os,I.bare,⟨λb o e n hb hx=>?_,λb o e n hb hx=>?_,I.base.free,λb o e hx=>?_,I.base.tups,I.base.frzs,I.base.tbls⟩,⟨m',hn,λj y v e1 e2 _=>?_⟩,λy c e=>?_,I.free,I.freeC,λp hp=>?_,λb ob e=>?_,by simp⟩
 .rw[hs.2 b (lo e)];exact I.base.keep b o e n hb hx
 .obtain ⟨sl,e1⟩:=I.base.slot b o e n hb hx;exact⟨sl,by rw[hs.2 b (lo e)];exact e1⟩
 .obtain ⟨o',e1⟩:=I.base.there b o e hx;exact⟨o',by rw[hs.2 b (lo e)];exact e1⟩
 .rw[Wz]at e2;split at e2<;>cases e2
 .obtain ⟨w',z⟩:=I.cell y c e;exact⟨w',z.sameBut hs (I.cne y c e)⟩
 .obtain ⟨e,n,ne,nf,d⟩:=I.pin p hp;exact⟨by rw[hs.2 p.1 ne];exact e,n,ne,nf,d⟩
 .have hL:=I.free;refine(I.hok b ob e).stay (λc w' hc q=>?_) (λ_ q=>q) λ_ _ q=>q;rw[hs.2 c (λz=>by
   subst z;rcases hc with z|z
   .rw[<-z,hL]at e;cases e
   .rw[hL]at z;cases z)]
  exact q
def Inv.pinE{e:Addr}{oe:Obj}(I:Inv X pins σ H s)(he:s.heap.get? e=some oe)(hn:H e=none)(hl:e≠X.env.locals)(hf:e∉X.fs)(hc:∀v,oe.data≠.cell v):Inv X ((e,oe)::pins) σ H s:=
 I.pins_of λp hp=>by
  rcases Qo.mp hp with rfl|hp
  .exact ⟨he,hn,hl,hf,hc⟩
  .exact I.pin p (Qs _ hp)
def Inv.heldE{e:Addr}{oe:Obj}{E:Value->Shared->Prop}(I:Inv X ((e,oe)::pins) σ H s):Inv (X.held e oe E) pins σ H s:=
 ⟨I.ok.held,I.os,I.bare,I.base,I.loc,I.cell,I.free,I.freeC,(λp hp=>I.pin p (by
  rcases Qo.mp (show p∈(e,oe)::(X.pn++pins)from hp)with rfl|hp
  .exact Qs _ QF
  .rcases QL.mp hp with z|z
   .exact QS _ z
   .exact Qs _ (Qh _ z))),I.hok,I.len⟩
end
def g6(h:LK)(C:Addr)(v:Value):Prop:=∃nm q N bs bm hdct sn sub ab col dd k0 k1 k2 k3 k5 newId,h.get? C=some (Ng nm q C N bs bm hdct sn sub ab col dd k0 k1 k2 k3 k5 newId)/\(Value.ref C::bm).contains v=true
def IB (hst:X.stack=X.env::X.outer)(hfr:X.env.frame=some X.env.locals)(I:Inv X pins σ H1 s1)(os:s2.os=s1.os)(bare:LR s2.gens)(un:Un (bR X.stack) [] H1 H2 s1.heap s2.heap)(hok:cg X.prog X.w H2 s2.heap)(fl:Heap.FlyingW B X.stack e (.ref C) (.ref t) s2.heap)(hB:cz (bR X.stack) H2 s1.heap s2.heap B)(cC:g6 X.base C (.ref G))(cG:g6 X.base G (.type "BaseException"))(hg:Gl X gn)(hm:X.mg gn=some (.ref G))(hdb:(gn==("__debug__":Str))=false)(hN:X.N.Nodup)(hi:X.N[i]?=some n)(hn:X.env.scope.names.lookup n=some .local)(hsuite:∀(oe:Obj) (E':Value->Shared->Prop),oe.cls=.ref C->∃tt,cv (X.held e oe E') (b₀::suite) tt/\tt {nx:=λ_ _=>False,rt:=D.rt} (σ.set i (some (.ref e))) H2):
  LV (LW X.prog X.w) X.A (noteFrame (.ref e) X.env) (λ_ s₂=>LV (LW X.prog X.w) X.A (setFlight (.ref e) none)
   (λ_ s₃=>LV (LW X.prog X.w) X.A (handleBy (.ref e) X.env [.ExceptHandler (some (.Name gn np)) (some n) (b₀::suite) pos]) (SP X pins D) X.xe s₃) X.xe s₂) X.xe s2:=by
 have frames:X.A.frames=some (X.env::X.outer):=by rw[<-hst];exact I.ok.frames
 have fz:=gY I.stack I.stkFree un;have inv:∀{h5:LK},B.StaysIn h5->s2.heap.UpToSlots h5->Inv X pins σ H2 {s2 with heap:=h5}:=λ{h5} st up=>
  I.call' (s':={s2 with heap:=h5}) (ch:=[]) os (Eu I.stack I.stkFree un hB st up) (jX hok fz hB st) bare (λb z=>Nl z (by simp))
 rw[hst]at fl;refine wpAny_looks_onW frames hfr fl λh4 hd4 up4=>?_;refine wpAny_landsW hd4 λh5 fl5 up5=>?_;have I5:=inv fl5.1 (up4.trans up5);obtain⟨oe5,he5,hc5⟩:=fl5.there;obtain⟨nm,q,N,bs,bm,hdct,sn,sub,ab,col,dd,k0,k1,k2,k3,k5,ni,hC,hCG⟩:=cC;obtain⟨nm',q',N',bs',bm',hdct',sn',sub',ab',col',dd',j0,j1,j2,j3,j5,ni',hG,hGB⟩:=cG;refine wpAny_handleBy_cons (codeAny_handlers_test ?_) (by intro z;cases z);refine Calls.Name_function_global I.ok.kind hg (Calls.loadGlobal_global (by rw[I.ok.glob];exact I5.mod.glob.keeps I5.bk) hm ?_) hdb;refine Gm (I5.bk _ _ hC) (I5.bk _ _ hG) he5 hc5 hGB hCG (codeAny_handlers_suite_as ?_);refine lands_againW fl5 λh6 fl6 up6=>?_;have I6:=inv fl6.1 ((up4.trans up5).trans up6);obtain⟨oe,ws,he6,hc6,hd6,_⟩:=fl6.first;have hBe:B.get? e=none:=fl6.2.1;have hHe:H2 e=none:=by
  cases z:H2 e with
  |none=>rfl
  |some u=>
   obtain⟨o,ho⟩:=(hok e u z).ob;have:=hB e o ho (.inl (by rw[z];simp)) (λhm=>by rw[fz e hm]at z;cases z);rw[hBe]at this;cases this
 have hen:∀b∈bR X.stack,b≠e:=λb hb z=>by
  subst z;obtain⟨_,o,ho,hnf⟩:=I6.stack.mem hb;rw[he6]at ho;cases ho;exact hnf ws hd6
 have hL:e≠X.env.locals:=λz=>hen X.env.locals (by rw[hst,u9 hfr];exact QF) z.symm;have hF:e∉X.fs:=λz=>hen e (by rw[hst,u9 hfr];exact Qh _ z) rfl;refine v5 (I6.pinE he6 hHe hL hF (λv z=>by rw[hd6]at z;cases z)) hN hi (.inl hn) (v:=.ref e) rfl (λs7 I7=>?_) (.inr hn);obtain⟨tt,hp,ht⟩:=hsuite oe _ hc6;refine LZ (hp pins s7 _ H2 _ I7.heldE ht) (λf s8 h8=>?_) (λx s8 hx=>hx);cases f with
 |next=>obtain⟨_,_,_,z⟩:=h8;exact z.elim
 |brk=>obtain⟨_,_,_,z⟩:=h8;exact z.elim
 |cont=>obtain⟨_,_,_,z⟩:=h8;exact z.elim
 |ret u=>
  obtain⟨v,σ',H',I8,rv,qq⟩:=h8;have I8':=Inv.unheld I.ok I8;obtain⟨m,hm8,_⟩:=I8'.loc;refine wpAny_nameGoes hn hm8 (by rw[I.ok.kind];rfl) λh' m' hn' hs'=>?_;exact⟨v,_,H',I8'.lost hn' hs',rv,qq⟩
def ol:List Addr->TA
 |[]=>lh
 |a::r=>iJ (tC (.ref a)) (ol r)
def De (h:Q (as.map V.ref) H):ol as σ H Q:=by
 induction as generalizing Q with
 |nil=>exact h
 |cons a r ih=>exact ih (Q:=λxs H2=>Q (.ref a::xs) H2) h
theorem tQ:∀{as:List Addr}{us:List Value},ay (as.map V.ref) us->us=as.map Value.ref
 |[],_,.nil=>rfl
 |a::r,_,.cons p q=>by
  obtain rfl:_=Value.ref a:=p;rw[tQ q];rfl
inductive cU(env:Env)(mg:Str->Option Value):List Expr->List Addr->Prop
 |nil:cU env mg [] []
 |cons {x:Str}{p:Pos}{es:List Expr}{a:Addr}{as:List Addr}(hg:env.kindOf x=some .globalImplicit) (hm:mg x=some (.ref a)) (hd:(x==("__debug__":Str))=false) (h:cU env mg es as):cU env mg (.Name x p::es) (a::as)
def Dd (h:cU X.env X.mg es as):PA X es (ol as):=by
 induction h with
 |nil=>exact xf
 |cons hg hm hd _ ih=>exact zS (jp (v:=.ref _) hg hm rfl hd) ih rfl
def nK(n y:Str)(es:List Expr)(p1 p2 p3 p4 p5 p6 p7 p8 p9 pa pb pc pd pe pf pg ph:Pos)(k1 k2:Nat):List Stmt:=
 [.If (.Call (.Name "isinstance" p1) [.Name n p2,.Tuple es k1 p3] [] p4) [.Return (some (.Constant (.bool false) k2 p5)) p6] [] p7,
  .Return (some (.BoolOp .And [.Call (.Name "isinstance" p8) [.Name n p9,.Name y pa] [] pb,.Call (.Name "isinstance" pc) [.Name n pd,.Name "ValueError" pe] [] pf] pg)) ph]
structure ft(X:Cx)(C G:Addr)(ts:List Addr)(Y:Addr)(r:Bool):Prop where
 ex:g6 X.base C (.ref G)
 kk:dH X.K C
 va:kitOne X.K (.ref C) (.type "ValueError")=some true
 re:∃b1 b2,kitAny X.K (.ref C) (ts.map Value.ref)=some b1/\kitOne X.K (.ref C) (.ref Y)=some b2/\r=(! b1&&b2)
def Gj {σ:St}{D:bZ}(hk:ft X C G ts Y r)(hc:oe.cls=.ref C)(hts:cU X.env X.mg es ts)(hz:ts.length<=1000)(hY:Gl X y)(hmY:X.mg y=some (.ref Y))(hdY:(y==("__debug__":Str))=false)(hI:Gl X "isinstance")(hmI:X.mg "isinstance"=none)(hV:Gl X "ValueError")(hmV:X.mg "ValueError"=none)(hN:X.N[i]?=some n)(hn:X.env.scope.names.lookup n=some .local)(hd1:(n==("__debug__":Str))=false)(hd2:(n==("__classdict__":Str))=false)(hi:i<σ.length)(q:∀p ts',H p=none->D.rt (.bl r) (aK H p (.tup ts'))):
  ∃tt,cv (X.held e oe E') (nK n y es p1 p2 p3 p4 p5 p6 p7 p8 p9 pa pb pc pd pe pf pg ph k1 k2) tt/\tt {nx:=λ_ _=>False,rt:=D.rt} (σ.set i (some (.ref e))) H:=by
 have Z:dH (X.held e oe E').K C:=hk.kk;have hp:(e,oe)∈(X.held e oe E').pn:=QF;have cR:=Go (X:=X.held e oe E') Z hp hc;have bI:LP "isinstance"=some (.builtin "isinstance"):=by rfl
 have bV:LP "ValueError"=some (.type "ValueError"):=by rfl
 have hnm:∀{p:Pos},PE (X.held e oe E') (.Name n p) (kK i):=λ{p}=>wV hN (.inl hn) hd1 hd2;have c1:PE (X.held e oe E') (.Call (.Name "isinstance" p1) [.Name n p2,.Tuple es k1 p3] [] p4) _:=yQ cR hI hmI bI (zS hnm (zS (nn (Dd hts)) xf));have c2:PE (X.held e oe E') (.Call (.Name "isinstance" p8) [.Name n p9,.Name y pa] [] pb) _:=yQ cR hI hmI bI (zS hnm (zS (jp (v:=.ref Y) hY hmY rfl hdY) xf));have c3:PE (X.held e oe E') (.Call (.Name "isinstance" pc) [.Name n pd,.Name "ValueError" pe] [] pf) _:=yQ cR hI hmI bI (zS hnm (zS (qe (v:=.ty "ValueError") hV hmV bV rfl) xf));have s1:=ng (pos:=p7) (tM c1) (v6 (qf (pos:=p6) (r9 (X:=X.held e oe E') (b:=false) (j:=k2) (pos:=p5)))) uO;have s2:=qf (pos:=ph) (tL (pos:=pg) c2 (nu c3));refine⟨_,wX s1 (v6 s2),?_⟩;have hv:(σ.set i (some (V.ref e)))[i]?=some (some (V.ref e)):=QN hi;obtain⟨b1,b2,k1',k2',hr⟩:=hk.re;have sz:(ts.map V.ref).length<=sizeLine:=by
  rw[Qm];exact WR (HN hz)
 refine⟨.ref e,hv,De ⟨sz,λp hp'=>.inr ⟨p,ts.map V.ref,b1,rfl,zm,λus hu=>by rw[tQ hu];exact k1',b1,rfl,?_⟩⟩⟩;cases b1 with
 |true=>
  rw[Nj rfl];have e1:r=false:=by rw[hr];rfl
  rw[e1]at q;exact q p _ hp'
 |false=>
  rw[Nk QQ];refine⟨.ref e,hv,.inl ⟨.ref Y,.ref Y,b2,rfl,rfl,λ_ z=>z,k2',b2,rfl,?_⟩⟩;cases b2 with
  |true=>
   rw[Nj rfl];refine⟨.ref e,hv,.inl ⟨.ty "ValueError",.type "ValueError",true,rfl,rfl,λ_ z=>z,hk.va,?_⟩⟩;have e1:r=true:=by rw[hr];rfl
   rw[e1]at q;exact q p _ hp'
  |false=>
   rw[Nk QQ];have e1:r=false:=by rw[hr];rfl
   rw[e1]at q;exact q p _ hp'
def jZ (F:cf X.prog X.w X.K X.mg X.base (eJ X.prog X.w) k f fd ps sp)(hr:cc k X.A)(hgf:Gl X fnm)(hmf:X.mg fnm=some (.ref f))(hkf:Q7 X.K (.ref f)=true)(hb:Binds X.K fd ps [])(hdf:(fnm==("__debug__":Str))=false)(ha:PA (X.wish Eh) (e0::es) t)(he:LY (e0::es) X.env=(false,eval e0 X.env)::LY es X.env)(hpl:(LX q (LY es X.env)).any (·.1)=false)(I:Inv X pins σ H s)(h:t σ H λvs H1=>sp vs H1 (λ_ _=>False) E)(hx:∀(H1:Hp) (s1:Shared) (ev:Value) (s':Shared),Inv X pins σ H1 s1->eJ X.prog X.w X.stack H1 s1 E ev s'->Eh ev s'):LV (LW X.prog X.w) X.A (eval (.Call (.Name fnm p) (e0::es) [] q) X.env) Q Eh s:=by
 refine Mx (jo I hgf hmf ?_ hdf);refine PySem.W.callWith_K (h₀:=X.base) I.ok.mod.kin hkf (aZ (ha q pins s σ H _ (I.wish Eh) h) λus s1 ⟨vs,H1,I1,r,hsp⟩=>⟨I1.kIn,?_⟩) he hpl;have J:Inv X pins σ H1 s1:=I1.unwish;have hl:us.length=ps.length:=by rw[<-r.length];exact F.len _ _ _ _ hsp
 have hbb:Mu s1 fd ⟨us,[]⟩ (ps.zip us):=by
  have z:=hb s1 us J.kIn (by rw[QZ];exact hl);rw[QZ]at z;exact z
 refine wpAny_call (Mw (F.run X.A X.stack s1 H1 ⟨us,[]⟩ us vs _ _ hr J.env0 hbb r hsp) λres s' hq=>?_);cases res with
 |error ev=>exact hx H1 s1 ev s' J hq
 |ok fl=>
  cases fl with
  |ret u=>obtain⟨_,_,_,_,_,_,_,z⟩:=hq;exact z.elim
  |next=>exact False.elim hq
  |brk=>exact False.elim hq
  |cont=>exact False.elim hq
def Et {i:Nat}(hst:X.stack=X.env::X.outer)(hfr:X.env.frame=some X.env.locals)(F:cf X.prog X.w X.K X.mg X.base (eJ X.prog X.w) k f fd ps sp)(hr:cc k X.A)(hgf:Gl X fnm)(hmf:X.mg fnm=some (.ref f))(hkf:Q7 X.K (.ref f)=true)(hb:Binds X.K fd ps [])(hdf:(fnm==("__debug__":Str))=false)(ha:∀E,PA (X.wish E) (e0::es) t)(hG:g6 X.base G (.type "BaseException"))(hgG:Gl X gn)(hmG:X.mg gn=some (.ref G))(hdG:(gn==("__debug__":Str))=false)(hN:X.N.Nodup)(hi:X.N[i]?=some n)(hn:X.env.scope.names.lookup n=some .local)(hd1:(n==("__debug__":Str))=false)(hd2:(n==("__classdict__":Str))=false)(hts:cU X.env X.mg ns ts)(hz:ts.length<=1000)(hY:Gl X y)(hmY:X.mg y=some (.ref Y))(hdY:(y==("__debug__":Str))=false)(hI:Gl X "isinstance")(hmI:X.mg "isinstance"=none)(hV:Gl X "ValueError")(hmV:X.mg "ValueError"=none)(he:LY (e0::es) X.env=(false,eval e0 X.env)::LY es X.env:=by rfl)(hpl:(LX q (LY es X.env)).any (·.1)=false:=by rfl)(hs:L8 (.Call (.Name fnm p) (e0::es) [] q) none p'.line X.env=pure false:=by rfl):
  PS X (.Try [.Expr (.Call (.Name fnm p) (e0::es) [] q) p'] [.ExceptHandler (some (.Name gn np)) (some n) (nK n y ns p1 p2 p3 p4 p5 p6 p7 p8 p9 pa pb pc pd pe pf pg ph k1 k2) hp] [] [] pos)
   (λD σ H=>t σ H λvs H1=>sp vs H1 (λ_ _=>False) λcls _ H2=>∃C r,cls=.ref C/\ft X C G ts Y r/\∀p ts',H2 p=none->D.rt (.bl r) (aK H2 p (.tup ts'))):=by
 intro pins s σ H D I h;have hiσ:i<σ.length:=by rw[I.len];exact(Qa.mp hi).1
 refine wpAny_Try_except (L7 (L9 (jZ F hr hgf hmf hkf hb hdf (ha _) he hpl I h λH1 s1 ev s' J hq=>?_) I.quiet hs));obtain⟨C,e,tt,B,H2,rfl,os,bare,un,hok,fl,hB,C',rr,eC,hk,hD⟩:=hq;cases eC;exact IB (D:=D) hst hfr J os bare un hok fl hB hk.ex hG hgG hmG hdG hN hi hn λoe E' hc=>Gj hk hc hts hz hY hmY hdY hI hmI hV hmV hi hn hd1 hd2 hiσ hD
end L2
namespace L2
open PySem PySem.Spec PySem.Calls PyProof.Rows
end L2
namespace Mini
open PySem PySem.Spec PyProof.Rows L2
set_option genInjectivity false in
structure Xc where
 g:Str
 rs:List Str
 os:List Str
def Xc.xs(Q:Xc):List Str:=Q.rs++Q.os
def Xc.at {Q:Xc}{c:Nat}(h:Q.rs[c]?=some x):Q.xs[c]?=some x:=by
 unfold Xc.xs;rw[Qg (Qa.mp h).1];exact h
def fA:List Value:=[.type "ValueError",.type "Exception",.type "BaseException",.type "object"]
def sM {K:Qb}(X:K.In h)(q:Wq K C fA "ValueError.__new__"=true):(∀(x:Str) (mg:Str->Option Value),mg x=some (.ref C)->OwnCls x C fA "ValueError.__new__" mg h)/\(We K C v=some true->g6 h C v):=by
 unfold Wq at q;split at q
 .rename_i dd cd sl ho;split at q
  .rename_i C' bm k0 k1 k2 k3 n k5 hm hs;simp only[Qr,beq_iff_eq,Wn]at q;obtain⟨⟨⟨⟨⟨rfl,rfl⟩,q1⟩,q2⟩,q3⟩,q4⟩:=q;have eo:=X _ _ ho;have em:We K C' v=some (cd.mro.contains v):=by
    unfold We PySem.W.clsIn;rw[ho];simp only[WF];rw[hm];rfl
   obtain⟨a1,a2,a3,a4,a5,a6,a7,a8,a9,b1,b2⟩:=cd;dsimp only at hm q1 q3 q4 em;subst hm q1;have es:sl=#[k0,k1,k2,k3,some (.builtin "ValueError.__new__"),k5]:=by
    obtain⟨l⟩:=sl;simp only at hs;rw[hs]
   subst es;have T:=PySem.W.tail_of_in X q2;refine⟨λx mg hb=>⟨hb,bm,a4,a1,a5,a2,a6,a7,a8,a9,b1,dd,k0,k1,k2,k3,k5,_,eo,.of_isNs (PySem.W.isNs_of_in X q3),PySem.W.nsMap_none_of_in X q3 q4,T⟩,λz=>?_⟩;rw[em]at z;exact⟨a1,a5,a4,a2,bm,a6,a7,a8,a9,b1,dd,k0,k1,k2,k3,k5,_,eo,Option.some.inj z⟩
  .cases q
 .cases q
structure fm(K:Qb)(mg:Str->Option Value)(Q:Xc)(G:Addr):Prop where
 g:mg Q.g=some (.ref G)
 ge:Wq K G fA "ValueError.__new__"=true
 gb:We K G (.type "BaseException")=some true
 v:mg "ValueError"=none
 y:∀(c:Nat) (x:Str),Q.xs[c]?=some x->∃A,mg x=some (.ref A)
 x:∀(c:Nat) (x:Str),Q.rs[c]?=some x->∃A,mg x=some (.ref A)/\Wq K A fA "ValueError.__new__"=true/\dH K A/\We K A (.ref G)=some true/\QC K (.ref A) (.type "ValueError")=some true /\
  ∀(c':Nat) (x':Str) (A':Addr),Q.xs[c']?=some x'->mg x'=some (.ref A')->QC K (.ref A) (.ref A')=some (decide (c=c'))
def RX(mg:Str->Option Value)(Q:Xc)(E:XK):VK:=λv H=>∃(c:Nat) (x:Str) (A:Addr),v=.int c/\Q.rs[c]?=some x/\mg x=some (.ref A)/\E (.ref A) none H
def Au(K:Qb)(mg:Str->Option Value)(Q:Xc)(g:List Wd->Me->Rz):Sp:=λvs H _ E=>kP K g vs H (RX mg Q E) E0
def lM(sc:LA)(Q:Xc):List Expr->List Nat->Bool
 |[],[]=>true
 |.Name x _::es,c::cs=>cA sc x&&(zP x&&(decide (Q.xs[c]?=some x)&&lM sc Q es cs))
 |_,_=>false
inductive eU(C:Ctx)(Q:Xc)(xn:List (Nat×Str))(sc:LA)(N:List Str):Sm->List Stmt->Prop
 |ite {c:Ex}{y:Expr}{x msg:Str}{j k:Nat}{np cp p p1 p2:Pos}{rest:List Stmt}(rc:zo c=false) (ic:vU c=false) (hc:aD C sc N c (.e y)) (hx:Q.rs[j]?=some x) (hg:cA sc x=true) (ok:zP x=true) :
   eU C Q xn sc N (.ite c (.ret (.lit (.int j))) .never) (.If y [.Raise (some (.Call (.Name x np) [.Constant (.str msg) k p1] [] cp)) none p2] [] p::rest)
 |call {k:Nat}{a:Ex}{nm:Str}{y:Expr}{ys:List Expr}{p p' p2:Pos}{rest:List Stmt}(hk:xn.lookup k=some nm) (hg:cA sc nm=true) (ok:zP nm=true) (hs:(y::ys).all zG=true) (ha:aD C sc N a (.a (y::ys))) :
   eU C Q xn sc N (.ret (.call k a)) (.Expr (.Call (.Name nm p) (y::ys) [] p') p2::rest)
 |ret {k:Nat}{a:Ex}{nm:Str}{y:Expr}{ys:List Expr}{p p' p2:Pos}{rest:List Stmt}(hk:xn.lookup k=some nm) (hg:cA sc nm=true) (ok:zP nm=true) (hs:(y::ys).all zG=true) (ha:aD C sc N a (.a (y::ys))) :
   eU C Q xn sc N (.ret (.call k a)) (.Return (some (.Call (.Name nm p) (y::ys) [] p')) p2::rest)
theorem bv.wish{C:Ctx}{X:Cx}{cl:Nat->List Wd->Me->Rz}{d:Nat}(h:bv C X cl d)(E:Value->Shared->Prop):bv C (X.wish E) cl d:=⟨h.room,h.calm,h.fn,h.con,h.blt⟩
def ky (h:zP x=true):(x==("__debug__":Str))=false/\(x==("__classdict__":Str))=false:=by
 unfold zP at h;simp only[Qr,Wn]at h;exact⟨h.1.1,h.1.2⟩
def iX(P:LF)(w:LG)(K:Qb)(mg:Str->Option Value)(base:LK)(Q:Xc)(xn:List (Nat×Str))(cl:Nat->List Wd->Me->Rz)(d:Nat):Prop:=∀(k:Nat) (nm:Str),xn.lookup k=some nm ->
 (∃f fd ps,mg nm=some (.ref f)/\Q7 K (.ref f)=true/\Binds K fd ps []/\cf P w K mg base (eJ P w) d f fd ps (Au K mg Q (cl k))) /\
 ∀ws m v m',cl k ws m=.ok v m'->∃(c:Nat) (x:Str),v=.int c/\Q.rs[c]?=some x
section
variable{C:Ctx}{Q:Xc}{xn:List (Nat×Str)}{cl:Nat->List Wd->Me->Rz}{d:Nat}{X:Cx}{G:Addr}
def Es {K:Qb}(S:aQ K as m H)(hp:H p=none)(us:List V):Step as H as (aK H p (.tup us))/\aQ K as m (aK H p (.tup us)):=by
 have T:Step as H as (aK H p (.tup us)):=⟨⟨[],by simp⟩,λb o h _=>by rw[zl (zr h hp)];exact h,λb hb=>.inl hb⟩;refine⟨T,S.keep T λb _ o e=>?_⟩;rw[zl (zr e hp)];exact e
def Dc (hC:bv C X cl d)(hX:eA X.nox)(hO:fm X.K X.mg Q G)(hx:∀x A,X.mg x=some (.ref A)->Wq X.K A fA "ValueError.__new__"=true->OwnCls x A fA "ValueError.__new__" X.mg X.base)(hp:jC (eJ X.prog X.w) X E)(hr:nM X E)(hF:iX X.prog X.w X.K X.mg X.base Q xn cl d)(h:eU C Q xn X.env.scope X.N s sts):cv X sts (λ_ σ H=>xo X.K (bA cl s) {nx:=λ_ _=>False,rt:=RX X.mg Q E} σ H):=by
 induction h with
 |@ite c y x msg j k np cp p p1 p2 rest rc ic hc hxs hg ok=>
  obtain⟨A,hm,hA,hz⟩:=hO.x j x hxs;have pR:=Gq (X:=X) (E:=E) (np:=np) (cpos:=cp) (pos:=p2) (hx x A hm hA) F.excBase_ValueError hC.calm (yI hg) hr (zS (wu (x:=msg) (j:=k) (pos:=p1)) xf) (ky ok).1;have pI:=ng (pos:=p) ((ye hc X hC rfl rfl).pt rc ic) (v6 pR) (kL (X:=X) (sts:=[]));intro pins s σ H D I q;refine wX pI (kL (X:=X) (sts:=rest)) pins s σ H D I ?_;obtain⟨as,env,m,S,G',P⟩:=q;refine⟨as,env,m,S,G',az.bind P λw m1 as1 H1 v T1 S1 R1 P1=>?_⟩;cases w with
  |bl b=>
   obtain rfl:=ah.mp R1;refine⟨b,rfl,?_⟩;cases b with
   |true=>
    refine qo ⟨show 1<=sizeLine by decide,?_⟩;obtain⟨c',x',A',e1,e2,e3,e4⟩:=P1 as1 H1 (.int j) .refl S1 (aa.mpr rfl);have e5:(j:Int)=c':=by injection e1
    have e6:j=c':=by lia
    subst e6;rw[hxs]at e2;cases e2;rw[hm]at e3;cases e3;exact e4
   |false=>exact P1.elim
  |_=>exact P1.elim
 |@call k a nm y ys p p' p2 rest hk hg ok hs ha=>
  obtain⟨⟨f,fd,ps,h1,h2,h3,h4⟩,_⟩:=hF k nm hk;have hs':=hs;rw[Wo,Qr]at hs';intro pins s σ H D I q;have pa:PA (X.wish X.xe) (y::ys) (kj X.K (af cl a)):=ye ha X hC rfl rfl;have go:LV (LW X.prog X.w) X.A (eval (.Call (.Name nm p) (y::ys) [] p') X.env) (λ_ s1=>SP X pins {nx:=λ_ _=>False,rt:=D.rt} .next s1) X.xe s:=by
   refine jZ (E:=E) h4 hC.room (yI hg) h1 h2 h3 (ky ok).1 pa (zp hs'.1) (yq hs'.2) I ?_ λH1 s1 ev s' J z=>hp pins σ H1 s1 ev s' J z;obtain⟨as,env,m,S,G',P⟩:=q;have P0:am X.K as H (RX X.mg Q E) ((af cl a env m).bind λw m1=>cl k (zn w) m1):=az.bind (r:=(af cl a env m).bind λw m1=>cl k (zn w) m1) P λw m1 as1 H1 v T1 S1 R1 P1=>P1 as1 H1 v .refl S1 R1;exact⟨as,env,m,S,G',b8.bind P0 λw m1 as1 H1 vs T1 S1 R1 P1=>⟨as1,m1,zn w,S1,R1,P1⟩⟩
  refine L7 (L9 (LZ go (λv s1 z=>?_) λ_ _ z=>z) I.quiet (jT (by rfl)));obtain⟨_,_,_,z⟩:=z;exact z.elim
 |@ret k a nm y ys p p' p2 rest hk hg ok hs ha=>
  obtain⟨⟨f,fd,ps,h1,h2,h3,h4⟩,_⟩:=hF k nm hk;have hs':=hs;rw[Wo,Qr]at hs';intro pins s σ H D I q;have pa:PA (X.wish X.xe) (y::ys) (kj X.K (af cl a)):=ye ha X hC rfl rfl;have go:LV (LW X.prog X.w) X.A (eval (.Call (.Name nm p) (y::ys) [] p') X.env) (λ_ s1=>SP X pins {nx:=λ_ _=>False,rt:=D.rt} .next s1) X.xe s:=by
   refine jZ (E:=E) h4 hC.room (yI hg) h1 h2 h3 (ky ok).1 pa (zp hs'.1) (yq hs'.2) I ?_ λH1 s1 ev s' J z=>hp pins σ H1 s1 ev s' J z;obtain⟨as,env,m,S,G',P⟩:=q;have P0:am X.K as H (RX X.mg Q E) ((af cl a env m).bind λw m1=>cl k (zn w) m1):=az.bind (r:=(af cl a env m).bind λw m1=>cl k (zn w) m1) P λw m1 as1 H1 v T1 S1 R1 P1=>P1 as1 H1 v .refl S1 R1;exact⟨as,env,m,S,G',b8.bind P0 λw m1 as1 H1 vs T1 S1 R1 P1=>⟨as1,m1,zn w,S1,R1,P1⟩⟩
  refine L7 (wpAny_Return_some (LZ go (λv s1 z=>?_) λ_ _ z=>z));obtain⟨_,_,_,z⟩:=z;exact z.elim
inductive IsT(C:Ctx)(Q:Xc)(xn:List (Nat×Str))(sc:LA)(N:List Str):Sm->List Stmt->Prop
 |mk {k y i:Nat}{a:Ex}{nm n ny:Str}{e0:Expr}{es ns:List Expr}{cs:List Nat}{rest:List Stmt}{p q p' np hp pos p1 p2 p3 p4 p5 p6 p7 p8 p9 pa pb pc pd pe pf pg ph:Pos}{k1 k2:Nat}
   (hk:xn.lookup k=some nm) (hg:cA sc nm=true) (ok:zP nm=true) (hs:(e0::es).all zG=true) (ha:aD C sc N a (.a (e0::es))) (gg:cA sc Q.g=true) (og:zP Q.g=true) (hi:N[i]?=some n) (hn:decide (sc.names.lookup n=some .local)=true) (on:zP n=true)
   (hns:lM sc Q ns cs=true) (hcs:cs.contains y=false) (hz:cs.length<=1000) (hy:Q.rs[y]?=some ny) (gy:cA sc ny=true) (oy:zP ny=true) (gI:cA sc "isinstance"=true) (gV:cA sc "ValueError"=true) :
   IsT C Q xn sc N (.ret (.cmp .eq (.call k a) (.lit (.int y)))) (.Try [.Expr (.Call (.Name nm p) (e0::es) [] q) p'] [.ExceptHandler (some (.Name Q.g np)) (some n) (nK n ny ns p1 p2 p3 p4 p5 p6 p7 p8 p9 pa pb pc pd pe pf pg ph k1 k2) hp] [] [] pos::rest)
theorem sL(hO:fm X.K X.mg Q G):∀{ns:List Expr}{cs:List Nat},lM X.env.scope Q ns cs=true->∃ts,cU X.env X.mg ns ts/\ts.length=cs.length /\
  ∀(c:Nat) (A:Addr),(∀(c':Nat) (x':Str) (A':Addr),Q.xs[c']?=some x'->X.mg x'=some (.ref A')->QC X.K (.ref A) (.ref A')=some (decide (c=c')))->WK X.K (.ref A) (ts.map Value.ref)=some (cs.any λc'=>decide (c=c'))
 |[],[],_=>⟨[],.nil,rfl,λc A _=>rfl⟩
 |[],_::_,h=>by cases h
 |e::es,[],h=>by cases e<;>cases h
 |e::es,c1::cs,h=>by
  cases e with
  |Name x p=>
   replace h:(cA X.env.scope x&&(zP x&&(decide (Q.xs[c1]?=some x)&&lM X.env.scope Q es cs)))=true:=h
   simp only[Qr,Np]at h;obtain⟨h1,h2,h3,h4⟩:=h;obtain⟨ts,t1,t2,t3⟩:=sL hO h4;obtain⟨A,hm⟩:=hO.y c1 x h3;refine⟨A::ts,.cons (yI h1) hm (ky h2).1 t1,by simp[t2],λc B hB=>?_⟩;show(match QC X.K (.ref B) (.ref A)with
    |some true=>some true
    |some false=>WK X.K (.ref B) (ts.map Value.ref)
    |none=>none)=_
   rw[hB c1 x A h3 hm,t3 c B hB];by_cases z:c=c1
   .simp[z]
   .simp[z]
  |_=>cases h
def Db (hC:bv C X cl d)(hst:X.stack=X.env::X.outer)(hfr:X.env.frame=some X.env.locals)(hO:fm X.K X.mg Q G)(hb:∀A v,Wq X.K A fA "ValueError.__new__"=true->We X.K A v=some true->g6 X.base A v)(hF:iX X.prog X.w X.K X.mg X.base Q xn cl d)(hN:X.N.Nodup)(h:IsT C Q xn X.env.scope X.N s sts):cv X sts (xo X.K (bA cl s)):=by
 cases h with
 |@mk k y i a nm n ny e0 es ns cs rest p q p' np hp pos p1 p2 p3 p4 p5 p6 p7 p8 p9 pa pb pc pd pe pf pg ph k1 k2 hk hg ok hs ha gg og hi hn on hns hcs hz hy gy oy gI gV=>
  obtain⟨⟨f,fd,ps,h1,h2,h3,h4⟩,val⟩:=hF k nm hk;have hs':=hs;rw[Wo,Qr]at hs';obtain⟨ts,t1,t2,t3⟩:=sL hO hns;obtain⟨Y,mY,_,_,_,_,_⟩:=hO.x y ny hy;have pT:=Et (X:=X) (G:=G) (Y:=Y) (ts:=ts) (p:=p) (q:=q) (p':=p') (np:=np) (hp:=hp) (pos:=pos) (p1:=p1) (p2:=p2) (p3:=p3) (p4:=p4) (p5:=p5) (p6:=p6) (p7:=p7) (p8:=p8) (p9:=p9) (pa:=pa) (pb:=pb) (pc:=pc) (pd:=pd) (pe:=pe) (pf:=pf) (pg:=pg) (ph:=ph) (k1:=k1) (k2:=k2)
   hst hfr h4 hC.room (yI hg) h1 h2 h3 (ky ok).1 (t:=kj X.K (af cl a)) (λE=>ye ha (X.wish E) (hC.wish E) rfl rfl) (hb G _ hO.ge hO.gb) (yI gg) hO.g (ky og).1 hN hi (No hn) (ky on).1 (ky on).2 t1 (by rw[t2];exact hz)
   (yI gy) mY (ky oy).1 (yI gI) (hC.blt _ (by simp[zy])) (yI gV) hO.v (zp hs'.1) (yq hs'.2) (jT (by rfl))
  intro pins s σ H D I qq;refine wX pT (kL (X:=X) (sts:=rest)) pins s σ H D I ?_;obtain⟨as,env,m,S,G',P⟩:=qq;have P0:am X.K as H D.rt (af cl (.cmp .eq (.call k a) (.lit (.int y))) env m):=az.bind P λw m1 as1 H1 v T1 S1 R1 P1=>P1 as1 H1 v .refl S1 R1;have e1:af cl (.cmp .eq (.call k a) (.lit (.int y))) env m=(af cl a env m).bind λw m1=>(cl k (zn w) m1).bind λu m2=>cZ .eq u (.int y) m2:=by
   show(((af cl a env m).bind λx m1=>cl k (zn x) m1).bind λu m2=>((Rz.ok (.int y) m2).bind λv m3=>cZ .eq u v m3))=_;cases af cl a env m<;>rfl
  rw[e1]at P0;refine⟨as,env,m,S,G',b8.bind P0 λw m1 as1 H1 vs T1 S1 R1 P1=>⟨as1,m1,zn w,S1,R1,?_⟩⟩;cases hcl:cl k (zn w) m1 with
  |exc c w' m2=>rw[hcl]at P1;exact P1.elim
  |no=>rw[hcl]at P1;exact P1.elim
  |ok u m2=>
   rw[hcl]at P1;obtain⟨c,x,rfl,hxs⟩:=val _ _ _ _ hcl;intro as2 H2 v T2 S2 R2;obtain rfl:=aa.mp R2;obtain⟨A,hmA,hAe,hAk,hAm,hAv,hAo⟩:=hO.x c x hxs;refine⟨c,x,A,rfl,hxs,hmA,A,decide (c=y),rfl,⟨hb A _ hAe hAm,hAk,hAv,_,_,t3 c A hAo,hAo y ny Y (Xc.at hy) mY,?_⟩,λp ts' hp=>?_⟩
   .by_cases z:c=y
    .subst z;have:(cs.any λc'=>decide (c=c'))=false:=by
      rw[WX];intro c' hc';have:=hcs;rw[List.contains_eq_any_beq,WX]at this;simpa using this c' hc'
     rw[this];rfl
    .simp[z]
   .obtain ⟨T3,S3⟩:=Es S2 hp ts';have P2:am X.K as1 H1 D.rt (.ok (.bl (decide ((c:Int)=(y:Int)))) m2):=P1;have e2:decide ((c:Int)=(y:Int))=decide (c=y):=by
     by_cases z:c=y
     .simp[z]
     .have:¬(c:Int)=(y:Int):=by lia
      simp[z,this]
    rw[e2]at P2;exact P2 _ _ _ (T2.trans T3) S3 (ah.mpr rfl)
end
structure i3(C:Ctx)(Q:Xc)(xn:List (Nat×Str))(d:bc):Prop where
 sc:jW d.N d.ps (zL d.st)=true
 ar:d.ps.length=d.fn.ar
 sz:d.N.length=d.fn.sz
 body:IsT C Q xn (zL d.st) d.N d.fn.body (xg d.st)
structure fq(C:Ctx)(Q:Xc)(xn:List (Nat×Str))(d:bc):Prop where
 sc:jW d.N d.ps (zL d.st)=true
 ar:d.ps.length=d.fn.ar
 sz:d.N.length=d.fn.sz
 body:eU C Q xn (zL d.st) d.N d.fn.body (xg d.st)
section
variable{P:LF}{w:LG}{K:Qb}{mg:Str->Option Value}{base:LK}{C:Ctx}{cl:Nat->List Wd->Me->Rz}{Q:Xc}{xn:List (Nat×Str)}{G:Addr}
def cS (h:am K as H R (wL cl fn ws m)):ws.length=fn.ar:=by
 unfold wL at h;split at h
 .assumption
 .exact h.elim
def IA (F:eI K d.on d.on d.st f fd)(hd:i3 C Q xn d)(kb:K.In base)(hO:fm K mg Q G)(hF:iX P w K mg base Q xn cl k)(hfn:∀(i:Nat) (nm:Str),C.fns[i]?=some nm->∃f fd ps,mg nm=some (.ref f)/\Q7 K (.ref f)=true/\Binds K fd ps []/\cf P w K mg base dI k f fd ps (kP K (cl i)))(hcon:jN K w mg C)(hblt:∀nm∈zy,mg nm=none):
  cf P w K mg base dI (k+1) f fd d.ps (kP K (wL cl d.fn)):=by
 obtain⟨h1,h2,h3,h4⟩:=hd;have Sc:=kR h1;refine F.ok Sc (λvs H Q' E h=>?_) (λcdv A outer s H vs Q' E hr h=>?_)
 .obtain ⟨as,m,ws,S,R,q⟩:=h;rw[<-R.length,cS q,h2]
 .obtain ⟨as,m,ws,S,R,q⟩:=h;have ha:=cS q;have hC:bv C (jl dI P w K mg base d.N d.on (zL d.st) f cdv A outer s H E).nox cl k:=⟨hr,rfl,hfn,hcon,hblt⟩;refine⟨_,Db hC rfl rfl hO (λA v z1 z2=>(sM kb z1).2 z2) hF Sc.nd h4,as,yY d.fn ws,m,S,kS R ha h3,?_⟩;unfold wL at q;rw[Nj ha]at q;cases hr:bA cl d.fn.body (yY d.fn ws) m with
  |next e m1=>rw[hr]at q;exact λas' H' σ' T S' G'=>q as' H' .non T S' (aq.mpr rfl)
  |ret w m1=>rw[hr]at q;exact λas' H' v T S' R'=>q as' H' v T S' R'
  |brk e m1=>rw[hr]at q;exact q.elim
  |cont e m1=>rw[hr]at q;exact q.elim
  |exc c w e m1=>rw[hr]at q;exact q.elim
  |no=>rw[hr]at q;exact q.elim
def Iz (F:eI K d.on d.on d.st f fd)(hd:fq C Q xn d)(kb:K.In base)(hO:fm K mg Q G)(hF:iX P w K mg base Q xn cl k)(hfn:∀(i:Nat) (nm:Str),C.fns[i]?=some nm->∃f fd ps,mg nm=some (.ref f)/\Q7 K (.ref f)=true/\Binds K fd ps []/\cf P w K mg base dI k f fd ps (kP K (cl i)))(hcon:jN K w mg C)(hblt:∀nm∈zy,mg nm=none):
  cf P w K mg base (eJ P w) (k+1) f fd d.ps (Au K mg Q (wL cl d.fn)):=by
 obtain⟨h1,h2,h3,h4⟩:=hd;have Sc:=kR h1;obtain⟨oc,od,kV,doc,pm,an,cdv,ct,osl,rfl,lk,hcd⟩:=F.ex;refine r6 lk hcd Sc (λvs H Q' E h=>?_) λA outer s H vs Q' E hr h=>?_
 .obtain ⟨as,m,ws,S,R,q⟩:=h;rw[<-R.length,cS q,h2]
 .obtain ⟨as,m,ws,S,R,q⟩:=h;have ha:=cS q;have hC:bv C (jl (eJ P w) P w K mg base d.N d.on (zL d.st) f cdv A outer s H E) cl k:=⟨hr,rfl,hfn,hcon,hblt⟩;refine⟨_,Dc hC ⟨Sc.nd,λ_=>rfl,PassesOwn.never⟩ hO (λx A z1 z2=>(sM (v:=.none) kb z2).1 x mg z1) Ey Gr hF h4,as,yY d.fn ws,m,S,kS R ha h3,?_⟩;unfold wL at q;rw[Nj ha]at q;cases hr:bA cl d.fn.body (yY d.fn ws) m with
  |next e m1=>
   rw[hr]at q;intro as' H' σ' T S' G';obtain⟨_,_,_,z,_⟩:=q as' H' .non T S' (aq.mpr rfl);cases z
  |ret w m1=>rw[hr]at q;exact λas' H' v T S' R'=>q as' H' v T S' R'
  |brk e m1=>rw[hr]at q;exact q.elim
  |cont e m1=>rw[hr]at q;exact q.elim
  |exc c w e m1=>rw[hr]at q;exact q.elim
  |no=>rw[hr]at q;exact q.elim
def nV{sc:LA}{N:List Str}{s:Sm}{sts:List Stmt}(h:eU C Q xn sc N s sts)(hv:∀(k:Nat) (nm:Str),xn.lookup k=some nm->∀ws m v m',cl k ws m=.ok v m'->∃(c:Nat) (x:Str),v=.int c/\Q.rs[c]?=some x)(env:En)(m:Me):
  match bA cl s env m with
  |.ret v _=>∃(c:Nat) (x:Str),v=.int c/\Q.rs[c]?=some x
  |.next _ _=>False
  |_=>True:=by
 induction h generalizing env m with
 |@ite c y x msg j k np cp p p1 p2 rest rc ic hc hxs hg ok=>
  show match (af cl c env m).bindS env (λx m1=>match x with
   |.bl true=>bA cl (.ret (.lit (.int j))) env m1
   |.bl false=>bA cl .never env m1
   |_=>.no)with
   |.ret v _=>_
   |.next _ _=>False
   |_=>True
  cases af cl c env m with
  |ok w m1=>
   cases w with
   |bl b=>
    cases b with
    |true=>exact⟨j,x,rfl,hxs⟩
    |false=>trivial
   |_=>trivial
  |exc _ _ _=>trivial
  |no=>trivial
 |@call k a nm y ys p p' p2 rest hk hg ok hs ha=>
  show match ((af cl a env m).bind λw m1=>cl k (zn w) m1).bindS env (λw m1=>.ret w m1)with
   |.ret v _=>_
   |.next _ _=>False
   |_=>True
  cases af cl a env m with
  |ok w m1=>
   show match (cl k (zn w) m1).bindS env (λw m1=>.ret w m1)with
    |.ret v _=>_
    |.next _ _=>False
    |_=>True
   cases e:cl k (zn w) m1 with
   |ok v m2=>exact hv k nm hk _ _ _ _ e
   |exc _ _ _=>trivial
   |no=>trivial
  |exc _ _ _=>trivial
  |no=>trivial
 |@ret k a nm y ys p p' p2 rest hk hg ok hs ha=>
  show match ((af cl a env m).bind λw m1=>cl k (zn w) m1).bindS env (λw m1=>.ret w m1)with
   |.ret v _=>_
   |.next _ _=>False
   |_=>True
  cases af cl a env m with
  |ok w m1=>
   show match (cl k (zn w) m1).bindS env (λw m1=>.ret w m1)with
    |.ret v _=>_
    |.next _ _=>False
    |_=>True
   cases e:cl k (zn w) m1 with
   |ok v m2=>exact hv k nm hk _ _ _ _ e
   |exc _ _ _=>trivial
   |no=>trivial
  |exc _ _ _=>trivial
  |no=>trivial
def oC (hd:fq C Q xn d)(hv:∀(k:Nat) (nm:Str),xn.lookup k=some nm->∀ws m v m',cl k ws m=.ok v m'->∃(c:Nat) (x:Str),v=.int c/\Q.rs[c]?=some x)(ws:List Wd)(m:Me)(v:Wd)(m':Me)(h:wL cl d.fn ws m=.ok v m'):
  ∃(c:Nat) (x:Str),v=.int c/\Q.rs[c]?=some x:=by
 have z:=nV hd.body hv (yY d.fn ws) m;unfold wL at h;split at h
 .cases e:bA cl d.fn.body (yY d.fn ws) m with
  |ret w m1=>rw[e]at h z;cases h;exact z
  |next _ _=>rw[e]at z;exact z.elim
  |brk _ _=>rw[e]at h;cases h
  |cont _ _=>rw[e]at h;cases h
  |exc _ _ _ _=>rw[e]at h;cases h
  |no=>rw[e]at h;cases h
 .cases h
end
def iu:Nat->List bc->List (Nat×Str)
 |_,[]=>[]
 |n,d::r=>(n,d.nm)::iu (n+1) r
theorem qE:∀{XD:List bc}{n k:Nat}{nm:Str},(iu n XD).lookup k=some nm->∃j d,XD[j]?=some d/\d.nm=nm/\k=n+j
 |[],_,_,_,h=>by cases h
 |d::r,n,k,nm,h=>by
  unfold iu at h;rw[QU]at h;cases e:k==n with
  |true=>
   rw[e]at h;cases h;exact⟨0,d,rfl,rfl,by simpa using e⟩
  |false=>
   rw[e]at h;obtain⟨j,d',h1,h2,h3⟩:=qE h;exact⟨j+1,d',h1,h2,by lia⟩
section
variable{P:LF}{w:LG}{K:Qb}{mg:Str->Option Value}{base:LK}{C:Ctx}{Q:Xc}{xn:List (Nat×Str)}{G:Addr}
theorem sK {D:List bc}(hC:C.fns=D.map (·.nm))(hxn:xn=iu D.length XD)(hD:∀d∈D,ma C d\/i3 C Q xn d)(hX:∀d∈XD,fq C Q xn d)(hB:∀d∈D,eX d)(hBX:∀d∈XD,eX d)(hK:∀d∈D,vf K mg d)(hKX:∀d∈XD,vf K mg d)(kb:K.In base)(hO:fm K mg Q G)(hcon:jN K w mg C)(hblt:∀nm∈zy,mg nm=none):
  ∀k:Nat,(∀(i:Nat) (d:bc),D[i]?=some d->∀f fd,eI K d.on d.on d.st f fd->cf P w K mg base dI k f fd d.ps (kP K (yR (D.map (·.fn)++XD.map (·.fn)) k i)))/\iX P w K mg base Q xn (yR (D.map (·.fn)++XD.map (·.fn)) k) k
 |0=>by
  have no:∀{i:Nat}{vs:List V}{H:Hp}{R:VK}{E:XK},¬kP K (yR (D.map (·.fn)++XD.map (·.fn)) 0 i) vs H R E:=λ{i vs H R E} h=>by
   obtain⟨as,m,ws,S,R,q⟩:=h;exact q
  refine⟨λi d hi f fd F=>⟨λvs H R E h=>(no h).elim,λA outer s H args us vs R E _ _ _ _ h=>(no h).elim⟩,λk nm hk=>⟨?_,λws m v m' h=>by cases h⟩⟩;rw[hxn]at hk;obtain⟨j,d,h1,rfl,rfl⟩:=qE hk;obtain⟨f,fd,F,hm⟩:=hKX d (Qp h1);exact⟨f,fd,d.ps,hm,F.kp,F.binds (hBX d (Qp h1)),⟨λvs H R E h=>(no h).elim,λA outer s H args us vs R E _ _ _ _ h=>(no h).elim⟩⟩
 |k+1=>by
  obtain⟨ih,ihX⟩:=sK hC hxn hD hX hB hBX hK hKX kb hO hcon hblt k;have hfn:∀(j:Nat) (nm:Str),C.fns[j]?=some nm->∃f fd ps,mg nm=some (.ref f)/\Q7 K (.ref f)=true/\Binds K fd ps []/\cf P w K mg base dI k f fd ps (kP K (yR (D.map (·.fn)++XD.map (·.fn)) k j)):=λj nm hj=>by
   rw[hC,Qt]at hj;cases hx:D[j]? with
   |none=>rw[hx]at hj;cases hj
   |some d'=>
    rw[hx]at hj;cases hj;obtain⟨f',fd',F',m'⟩:=hK d' (Qp hx);exact⟨f',fd',d'.ps,m',F'.kp,F'.binds (hB d' (Qp hx)),ih j d' hx f' fd' F'⟩
  have at1:∀{i:Nat}{d:bc},D[i]?=some d->yR (D.map (·.fn)++XD.map (·.fn)) (k+1) i=wL (yR (D.map (·.fn)++XD.map (·.fn)) k) d.fn:=λ{i d} hi=>by
   funext ws m;have z:(D.map bc.fn++XD.map bc.fn)[i]?=some d.fn:=by
    rw[Qg (by rw[Qm];exact(Qa.mp hi).1),Qt,hi];rfl
   show(match ((D.map bc.fn)++(XD.map bc.fn):List Fn)[i]? with
    |some fn=>wL (yR (D.map bc.fn++XD.map bc.fn) k) fn ws m
    |none=>.no)=_
   rw[z]
  have at2:∀{j:Nat}{d:bc},XD[j]?=some d->yR (D.map (·.fn)++XD.map (·.fn)) (k+1) (D.length+j)=wL (yR (D.map (·.fn)++XD.map (·.fn)) k) d.fn:=λ{j d} hi=>by
   funext ws m;have z:(D.map bc.fn++XD.map bc.fn)[D.length+j]?=some d.fn:=by
    rw[Qi (by rw[Qm];lia),Qm,Nat.add_sub_cancel_left,Qt,hi];rfl
   show(match ((D.map bc.fn)++(XD.map bc.fn):List Fn)[D.length+j]? with
    |some fn=>wL (yR (D.map bc.fn++XD.map bc.fn) k) fn ws m
    |none=>.no)=_
   rw[z]
  refine⟨λi d hi f fd F=>?_,λi nm hk=>?_⟩
  .rw[at1 hi];rcases hD d (Qp hi)with h|h
   .exact Gt F h hfn hcon hblt
   .exact IA F h kb hO ihX hfn hcon hblt
  .rw[hxn]at hk;obtain⟨j,d,h1,rfl,rfl⟩:=qE hk;have hm:=Qp h1;obtain⟨f,fd,F,m'⟩:=hKX d hm;rw[at2 h1];exact⟨⟨f,fd,d.ps,m',F.kp,F.binds (hBX d hm),Iz F (hX d hm) kb hO ihX hfn hcon hblt⟩,oC (hX d hm) λk nm hk=>(ihX k nm hk).2⟩
end
def Iy {K:Qb}{ns:List Int}(hO:iC H)(hS:bj K H a (ns.map V.int))(h:∃m,yR T k i [.rol (ns.map Wd.int)] []=.ok (.bl true) m):
  kP K (yR T k i) [.ref a] H (λv _=>v=.bl true) E:=by
 have e:∀l:List Fn,(l.map λf=>(⟨"",.Pass ⟨0,0,0,0⟩,[],[],f,""⟩:bc)).map (·.fn)=l:=λl=>by
  induction l with
  |nil=>rfl
  |cons f l ih=>show f::_=_;rw[ih]
 have z:=Gs (D:=T.map λf=>(⟨"",.Pass ⟨0,0,0,0⟩,[],[],f,""⟩:bc)) (k:=k) (i:=i) (E:=E) hO hS;rw[e]at z;exact z h
def Bz {l:PySem.W.OpenLaw}{Kp:LB->Qb}{D:List bc}{dl:bc}(hn:l.most=some n)(hn2:n<=sizeLine)(hdf:d.params.defaults=[])(hr:cc k MQ)(hY:∀(w:LG) (h:LK),YP w h->(Kp w.params).In h)(hC:C.fns=D.map (·.nm))(hxn:xn=iu D.length XD)(hD:∀d∈D,ma C d\/i3 C Q xn d)(hX:∀d∈XD,fq C Q xn d)(hB:∀d∈D,eX d)(hBX:∀d∈XD,eX d)(hi:D[i]?=some dl)(hx:dl.ps=[x])(hnm:d.name=dl.nm)(F:∀(w:LG) (mg:Str->Option Value) (fa:Addr) (h:LK),(Kp w.params).In h->h.Ns LO mg->mg d.name=some (.ref fa) ->
   ((∀e∈D,vf (Kp w.params) mg e)/\jN (Kp w.params) w mg C/\∀nm∈zy,mg nm=none)/\(∀e∈XD,vf (Kp w.params) mg e)/\∃G,fm (Kp w.params) mg Q G)(hpure:∀ns:List Int,ns.length<=n->∃m,yR (D.map (·.fn)++XD.map (·.fn)) k i [.rol (ns.map Wd.int)] []=.ok (.bl true) m):
  Vx q loose XP YP l.row.toRowW d [] (λf vs=>PySem.call f vs):=by
 refine L2.cE (n:=n) (k:=k) (x:=x) (CX:=λ_=>dI) (sp:=λw=>kP (Kp w.params) (yR (D.map (·.fn)++XD.map (·.fn)) k i)) hn hn2 hdf hr hY ?_ (λw H a ns hl hO hS=>Iy hO hS (hpure ns hl)) λ_ _ _ _ _ z=>z;intro w mg fa h KX Gn hmg;obtain⟨⟨h1,h2,h3⟩,h4,G,h5⟩:=F w mg fa h KX Gn hmg;obtain⟨f,fd,Ff,hm⟩:=h1 dl (Qp hi);rw[hnm,hm]at hmg;cases hmg;refine⟨fd,λs u=>?_,λbase kb nb=>?_⟩
 .obtain ⟨oc,od,kV,doc,pm,an,cdv,ct,osl,rfl,lk,hcd⟩:=Ff.ex;have z:=hB dl (Qp hi) kV doc pm an cdv ct [u] (by rw[hx];rfl);rw[hx]at z;exact .of_eq z
 .rw[<-hx];exact(sK hC hxn hD hX hB hBX h1 h4 kb h5 h2 h3 k).1 i dl hi fa fd Ff
end Mini
namespace Mini
namespace Vl
namespace Lib
inductive Di where|u|r|d|l
deriving DecidableEq
def cH:Di->Di
 |.u=>.d |.r=>.l |.d=>.u |.l=>.r
def bh:List Di:=[.u,.r,.d,.l]
abbrev Pl:=Int×Int
def aP(e:Di)(p:Pl):Pl:=match e with
 |.u=>(p.1-1,p.2) |.r=>(p.1,p.2+1) |.d=>(p.1+1,p.2) |.l=>(p.1,p.2-1)
def bq(n:Nat)(p:Pl):Bool:=decide (0<=p.1)&&decide (p.1<n)&&(decide (0<=p.2)&&decide (p.2<n))
def yr(n:Nat)(p:Pl):Di->Int
 |.u=>p.2 |.r=>n+p.1 |.d=>3*n-1-p.2 |.l=>4*n-1-p.1
abbrev Tr:=Pl->Di->Bool
structure cN(n:Nat)(t:Tr):Prop where
 con:∀p e,bq n p=true->bq n (aP e p)=true->t (aP e p) (cH e)=t p e
 two:∀p,bq n p=true->(bh.filter (t p)).length=2
def bE(f:Di->Bool)(d:Di):Di:=((bh.filter f).filter λe=>! decide (e=d)).headD d
def aL:bq n p=true↔(0<=p.1/\p.1<n)/\(0<=p.2/\p.2<n):=by
 unfold bq;simp only[Qr,Np]
def tP(e:Di):cH (cH e)=e:=by cases e<;>rfl
def kz(e:Di)(p:Pl):aP (cH e) (aP e p)=p:=by
 obtain⟨a,b⟩:=p;cases e<;>simp[aP,cH]<;>lia
def wg (h:(bh.filter f).length=2)(hd:f d=true):f (bE f d)=true/\bE f d≠d/\bE f (bE f d)=d/\(bh.filter f).filter (λe=>! decide (e=d))=[bE f d]:=by
 unfold bE bh at *
 cases h1:f .u<;>cases h2:f .r<;>cases h3:f .d<;>cases h4:f .l<;>simp[h1,h2,h3,h4]at h ⊢<;>cases d<;>simp_all
abbrev bQ:=Pl×Di
def b9(n:Nat)(t:Tr)(s:bQ):Option bQ:=if bq n (aP (bE (t s.1) s.2) s.1)=true then some (aP (bE (t s.1) s.2) s.1,cH (bE (t s.1) s.2))else none
def vW(n:Nat)(t:Tr)(s:bQ):Int:=yr n s.1 (bE (t s.1) s.2)
def wN(n:Nat)(t:Tr):Nat->bQ->List Pl->Option (List Pl×Int)
 |0,_,_=>none
 |k+1,s,acc=>match b9 n t s with
  |some s'=>wN n t k s' (acc++[s'.1])
  |none=>some (acc,vW n t s)
def Good(n:Nat)(t:Tr)(s:bQ):Prop:=bq n s.1=true/\t s.1 s.2=true
def eT(n:Nat)(s:bQ):Prop:=bq n (aP s.2 s.1)=false
def yL (F:cN n t)(g:Good n t s)(h:b9 n t s=some s'):Good n t s'/\bq n (aP s'.2 s'.1)=true/\s=(aP s'.2 s'.1,bE (t (aP s'.2 s'.1)) (cH s'.2)):=by
 unfold b9 at h;obtain⟨o1,o2,o3,_⟩:=wg (F.two s.1 g.1) g.2;split at h
 .next hi=>
  cases h;refine⟨⟨hi,?_⟩,?_,?_⟩
  .show t (aP _ s.1) (cH _)=true;rw[F.con s.1 _ g.1 hi];exact o1
  .show bq n (aP (cH _) (aP _ s.1))=true;rw[kz];exact g.1
  .show s=(aP (cH _) (aP _ s.1),bE (t (aP (cH _) (aP _ s.1))) (cH (cH _)));rw[kz,tP,o3]
 .cases h
def cX(n:Nat)(t:Tr)(s:bQ):Nat->Option bQ
 |0=>some s
 |k+1=>(cX n t s k).bind (b9 n t)
theorem Ax:∀(M:Nat) (g:Nat->Nat),(∀i,i<=M->g i<M)->∃i j,i<j/\j<=M/\g i=g j
 |0,g,h=>by have:=h 0 (Qk 0);lia
 |M+1,g,h=>by
  by_cases q:∃i,i<=M/\g i=g (M+1)
  .obtain ⟨i,hi,e⟩:=q;exact⟨i,M+1,by lia,by lia,e⟩
  .have hv:=h (M+1) (by lia);obtain⟨i,j,h1,h2,h3⟩:=Ax M (λi=>if g i=M then g (M+1)else g i) (λi hi=>by
    show(if g i=M then g (M+1)else g i)<M;have hi':=h i (by lia);have ne:g i≠g (M+1):=λe=>q ⟨i,hi,e⟩;split<;>lia)
   have hi:g i≠g (M+1):=λe=>q ⟨i,by lia,e⟩;have hj:g j≠g (M+1):=λe=>q ⟨j,by lia,e⟩;refine⟨i,j,h1,by lia,?_⟩
   replace h3:(if g i=M then g (M+1)else g i)=(if g j=M then g (M+1)else g j):=h3
   split at h3<;>split at h3<;>lia
def fI:Di->Nat
 |.u=>0 |.r=>1 |.d=>2 |.l=>3
def code(n:Nat)(s:bQ):Nat:=(s.1.1.toNat*n+s.1.2.toNat)*4+fI s.2
def Er (h:bq n s.1=true):code n s<n*n*4:=by
 obtain⟨⟨a0,a1⟩,b0,b1⟩:=aL.mp h;have h1:s.1.1.toNat+1<=n:=by lia
 have h2:s.1.2.toNat<n:=by lia
 have h3:fI s.2<4:=by cases s.2<;>decide
 have h4:(s.1.1.toNat+1)*n<=n*n:=Nat.mul_le_mul_right n h1;rw[Nat.add_mul]at h4;unfold code;generalize s.1.1.toNat*n=x at *
 generalize n*n=y at *
 lia
def Gi (h:bq n s.1=true)(h':bq n s'.1=true)(e:code n s=code n s'):s=s':=by
 obtain⟨⟨a0,a1⟩,b0,b1⟩:=aL.mp h;obtain⟨⟨c0,c1⟩,d0,d1⟩:=aL.mp h';have h3:fI s.2<4:=by cases s.2<;>decide
 have h4:fI s'.2<4:=by cases s'.2<;>decide
 unfold code at e;have e1:fI s.2=fI s'.2:=by lia
 have e2:s.1.1.toNat*n+s.1.2.toNat=s'.1.1.toNat*n+s'.1.2.toNat:=by lia
 have n0:0<n:=by lia
 have m1:s.1.2.toNat<n:=by lia
 have m2:s'.1.2.toNat<n:=by lia
 have e3:s.1.2.toNat=s'.1.2.toNat:=by
  have:=Nm (· % n) e2;simp only[Nat.mul_add_mod_self_right,Nat.mod_eq_of_lt m1,Nat.mod_eq_of_lt m2]at this;exact this
 have e4:s.1.1.toNat=s'.1.1.toNat:=by
  rw[e3]at e2;exact Nat.eq_of_mul_eq_mul_right n0 (Nat.add_right_cancel e2)
 obtain⟨⟨a,b⟩,d⟩:=s;obtain⟨⟨a',b'⟩,d'⟩:=s';simp only at *
 have:d=d':=by cases d<;>cases d'<;>simp[fI]at e1<;>rfl
 rw[this,show a=a' by lia,show b=b' by lia]
section
variable{n:Nat}{t:Tr}{s:bQ}
theorem xD(F:cN n t)(g:Good n t s):∀(k:Nat) (s':bQ),cX n t s k=some s'->Good n t s'
 |0,s',h=>by cases h;exact g
 |k+1,s',h=>by
  obtain⟨s1,h1,h2⟩:=QH.mp h;exact(yL F (xD F g k s1 h1) h2).1
theorem uZ:∀{k m:Nat},k<=m->(cX n t s m).isSome=true->(cX n t s k).isSome=true
 |k,0,h,q=>by
  have e:k=0:=by lia
  subst e;exact q
 |k,m+1,h,q=>by
  by_cases e:k=m+1
  .subst e;exact q
  .refine uZ (m:=m) (by lia) ?_;show(cX n t s m).isSome=true;cases z:cX n t s m with
   |none=>
    have:cX n t s (m+1)=none:=by show(cX n t s m).bind _=none;rw[z];rfl
    rw[this]at q;cases q
   |some _=>rfl
theorem tO(F:cN n t)(g:Good n t s)(hr:eT n s):∀(i j:Nat) (s':bQ),cX n t s i=some s'->cX n t s j=some s'->i=j
 |0,0,_,_,_=>rfl
 |0,j+1,s',h,h'=>by
  cases h;obtain⟨s1,h1,h2⟩:=QH.mp h';have:=(yL F (xD F g j s1 h1) h2).2.1;unfold eT at hr;rw[hr]at this;cases this
 |i+1,0,s',h,h'=>by
  cases h';obtain⟨s1,h1,h2⟩:=QH.mp h;have:=(yL F (xD F g i s1 h1) h2).2.1;unfold eT at hr;rw[hr]at this;cases this
 |i+1,j+1,s',h,h'=>by
  obtain⟨s1,h1,h2⟩:=QH.mp h;obtain⟨s2,h3,h4⟩:=QH.mp h';have e1:=(yL F (xD F g i s1 h1) h2).2.2;have e2:=(yL F (xD F g j s2 h3) h4).2.2;have e:s2=s1:=e2.trans e1.symm;rw[e]at h3;rw[tO F g hr i j s1 h1 h3]
def Gh(F:cN n t)(g:Good n t s)(hr:eT n s):cX n t s (n*n*4)=none:=by
 cases z:cX n t s (n*n*4)with
 |none=>rfl
 |some s0=>
  exfalso;have hs:∀i,i<=n*n*4->(cX n t s i).isSome=true:=λi hi=>uZ hi (by rw[z];rfl);obtain⟨i,j,h1,h2,h3⟩:=Ax (n*n*4) (λi=>code n ((cX n t s i).getD s)) (λi hi=>by
   obtain⟨s1,e⟩:=Q8.mp (hs i hi);show code n ((cX n t s i).getD s)<_;rw[e];exact Er (xD F g i s1 e).1)
  obtain⟨s1,e1⟩:=Q8.mp (hs i (by lia));obtain⟨s2,e2⟩:=Q8.mp (hs j (by lia))
  replace h3:code n ((cX n t s i).getD s)=code n ((cX n t s j).getD s):=h3
  rw[e1,e2]at h3;have:=Gi (xD F g i s1 e1).1 (xD F g j s2 e2).1 h3;rw[<-this]at e2;have:=tO F g hr i j s1 e1 e2;lia
theorem g7 (h:b9 n t s=some s'):∀k,cX n t s (k+1)=cX n t s' k
 |0=>by show(some s).bind (b9 n t)=some s';exact h
 |k+1=>by
  show(cX n t s (k+1)).bind (b9 n t)=(cX n t s' k).bind (b9 n t);rw[g7 h k]
theorem cE:∀(k:Nat) (s:bQ) (acc:List Pl),cX n t s k=none->∃pl ρ,wN n t k s acc=some (pl,ρ)
 |0,s,acc,h=>by cases h
 |k+1,s,acc,h=>by
  show ∃pl ρ,(match b9 n t s with|some s'=>wN n t k s' (acc++[s'.1])|none=>some (acc,vW n t s))=some (pl,ρ);cases e:b9 n t s with
  |none=>exact⟨_,_,rfl⟩
  |some s'=>
   rw[g7 e]at h;exact cE k s' _ h
def Ix(F:cN n t)(g:Good n t s)(hr:eT n s)(acc:List Pl):∃pl ρ,wN n t (n*n*4) s acc=some (pl,ρ):=cE _ s acc (Gh F g hr)
end
end Lib
inductive Dat where
 |non|bl (b:Bool)|int (i:Int)|str (s:List Nat)|tup (xs:List Dat)|lst (xs:List Dat)|scr (ns:List Int)|dct (ks:List (List Int)) (xs:List Dat)
deriving Inhabited
inductive Lv where|no|top|full
deriving DecidableEq,Inhabited
abbrev aO:=List (Option Dat)
inductive Rd where|ok (d:Dat)|exc (c:Nat) (d:Dat)|no
deriving Inhabited
def Rd.bind(r:Rd)(f:Dat->Rd):Rd:=match r with
 |.ok d=>f d
 |.exc c d=>.exc c d
 |.no=>.no
mutual
def ax:Dat->Bool
 |.lst _=>false
 |.tup xs=>aY xs
 |.non=>true
 |.bl _=>true
 |.int _=>true
 |.str _=>true
 |.scr _=>true
 |.dct _ _=>false
def aY:List Dat->Bool
 |[]=>true
 |d::ds=>ax d&&aY ds
end
mutual
def yZ:Nat->Dat->Bool
 |0,_=>false
 |_+1,.scr _=>false
 |_+1,.dct _ _=>false
 |k+1,.tup xs=>bF k xs
 |k+1,.lst xs=>bF k xs
 |_+1,.non=>true
 |_+1,.bl _=>true
 |_+1,.int _=>true
 |_+1,.str _=>true
def bF:Nat->List Dat->Bool
 |_,[]=>true
 |k,d::ds=>yZ k d&&bF k ds
end
mutual
def dt:Dat->Dat->Bool
 |.tup a,.tup b=>cm a b
 |.lst a,.lst b=>cm a b
 |.non,.non=>true
 |.bl a,.bl b=>a==b
 |.int a,.int b=>decide (a=b)
 |.bl a,.int b=>decide (b2i a=b)
 |.int a,.bl b=>decide (a=b2i b)
 |.str a,.str b=>decide (a=b)
 |_,_=>false
def cm:List Dat->List Dat->Bool
 |[],[]=>true
 |x::xs,y::ys=>dt x y&&cm xs ys
 |_,_=>false
end
def xa:Dat->Option (List Dat)
 |.tup xs=>some xs
 |.lst xs=>some xs
 |.scr ns=>some (ns.map .int)
 |_=>none
def dX:Dat->Option (List Dat)
 |.lst xs=>some xs
 |.scr ns=>some (ns.map .int)
 |_=>none
def bp(xs:List Dat):Rd:=if xs.length<=av then .ok (.lst xs)else .no
def zJ(op:Bo)(x y:Dat):Rd:=match x,y with
 |.int i,.int j=>match op with
  |.add=>.ok (.int (i+j))
  |.sub=>.ok (.int (i-j))
  |.mul=>if xq i || xq j then .ok (.int (i*j))else .no
  |.fdiv=>if 0<j/\j<1073741824 then .ok (.int (i/j))else .no
  |.mod=>if 0<j then .ok (.int (i%j))else .no
  |.pow=>if 0<=j/\j<=1000000/\xq i=true then .ok (.int (i^j.toNat))else .no
  |.shr=>if 0<=j/\j<=1000 then .ok (.int (i/2^j.toNat))else .no
  |.band=>if 0<=i/\j=1 then .ok (.int (i%2))else .no
 |.lst xs,.lst ys=>match op with
  |.add=>bp (xs++ys)
  |_=>.no
 |.lst xs,.int k=>match op with
  |.mul=>if -av<=k/\k<=av then bp (Qx k.toNat xs).flatten else .no
  |_=>.no
 |.tup xs,.tup ys=>match op with
  |.add=>if xs.length+ys.length<=av/\xs.isEmpty=false then .ok (.tup (xs++ys))else .no
  |_=>.no
 |_,_=>.no
def fH(x y:Dat):Option Bool:=if yZ yW x&&yZ yW y then some (dt x y)else none
def lR(x:Dat)(ys:List Dat):Option Bool:=if yZ yW x&&bF yW ys then some (ys.any λy=>dt y x)else none
def qF:Option Bool->Rd
 |some b=>.ok (.bl b)
 |none=>.no
def mG(r:Int->Int->Bool)(x y:Dat):Rd:=match x,y with
 |.int i,.int j=>.ok (.bl (r i j))
 |_,_=>.no
def xX:List Dat->Option (List Int)
 |[]=>some []
 |.int i::r=>(xX r).map (i::·)
 |_=>none
def oS(x y:Dat):Option Bool:=match y with
 |.dct ks _=>match x with
  |.int _=>some false
  |.tup ds=>(xX ds).map λk=>decide (k∈ks)
  |_=>none
 |_=>none
def yy(op:Co)(x y:Dat):Rd:=match op with
 |.eq=>qF (fH x y)
 |.ne=>qF ((fH x y).map (!·))
 |.isN=>match y,x with
  |.non,.non=>.ok (.bl true)
  |.non,_=>.ok (.bl false)
  |_,_=>.no
 |.notN=>match y,x with
  |.non,.non=>.ok (.bl false)
  |.non,_=>.ok (.bl true)
  |_,_=>.no
 |.isin=>match xa y with
  |some ys=>qF (lR x ys)
  |none=>qF (oS x y)
 |.lt=>mG (λi j=>decide (i<j)) x y
 |.le=>mG (λi j=>decide (i<=j)) x y
def dY(t:Tg)(x:Dat):Bool:=match t with
 |.int=>match x with
  |.int _=>true
  |.bl _=>true
  |_=>false
 |.bool=>match x with
  |.bl _=>true
  |_=>false
 |.str=>match x with
  |.str _=>true
  |_=>false
 |.tuple=>match x with
  |.tup _=>true
  |_=>false
 |.list=>match x with
  |.scr _=>true
  |.lst _=>true
  |_=>false
 |.dict=>match x with
  |.dct _ _=>true
  |_=>false
def j4:List Dat->Option Bool
 |[]=>some true
 |.bl b::r=>(j4 r).map (b && ·)
 |_=>none
def ir:List Dat->Option (List (Dat×Dat))
 |[]=>some []
 |.tup [x,y]::r=>(ir r).map ((x,y)::·)
 |_=>none
def yO(b:eK)(ws:List Dat):Rd:=match b with
 |.sortI=>match ws with
  |[x]=>match (dX x).bind xX with
   |some k=>if k.length<64 then bp ((fU k).map Dat.int)else .no
   |none=>.no
  |_=>.no
 |.len=>match ws with
  |[x]=>match xa x with
   |some xs=>.ok (.int xs.length)
   |none=>.no
  |_=>.no
 |.int=>match ws with
  |[.int i]=>.ok (.int i)
  |[.bl b]=>.ok (.int (b2i b))
  |_=>.no
 |.list=>match ws with
  |[x]=>match xa x with
   |some xs=>bp xs
   |none=>.no
  |_=>.no
 |.all=>match ws with
  |[x]=>match (dX x).bind j4 with
   |some i=>.ok (.bl i)
   |none=>.no
  |_=>.no
 |.max2=>match ws with
  |[.int i,.int j]=>.ok (.int (if j > i then j else i))
  |_=>.no
 |.min2=>match ws with
  |[.int i,.int j]=>.ok (.int (if j<i then j else i))
  |_=>.no
def zN(x y:Dat):Rd:=match y with
 |.int i=>match xa x with
  |some xs=>match (ix xs.length i).bind λj=>xs[j]? with
   |some v=>.ok v
   |none=>.no
  |none=>.no
 |_=>.no
def wU:Dat->Option (List Int)
 |.tup ds=>xX ds
 |_=>none
def kA(x y:Dat):Rd:=match x with
 |.dct ks ds=>match (wU y).bind (dE ks ds)with
  |some v=>.ok v
  |none=>.no
 |_=>.no
def hZ(x:Dat)(lo hi:Option Int):Rd:=match dX x with
 |some xs=>bp ((xs.drop (cj xs.length 0 lo)).take (cj xs.length xs.length hi-cj xs.length 0 lo))
 |none=>.no
def ym(lo st:Int)(n:Nat):List Dat:=(QA n).map λ(i:Nat)=>.int (lo+st*(i:Int))
def kT(a b c:Dat):Rd:=match a,b,c with
 |.int a,.int b,.int c=>if -av<=a/\a<=av/\-av<=b/\b<=av/\(c=1\/c=-1)then .ok (.tup (ym a c (eZ a b c)))else .no
 |_,_,_=>.no
def yi{α:Type}(c e:α->Rd):List α->List Dat->Rd
 |[],acc=>bp acc
 |x::xs,acc=>(c x).bind λb=>match b with
  |.bl true=>(e x).bind λy=>if acc.length<av then yi c e xs (acc++[y])else .no
  |.bl false=>yi c e xs acc
  |_=>.no
def cQ(d:Dat):Option (List Dat):=match d with
 |.tup xs=>some xs
 |.scr ns=>some (ns.map .int)
 |.lst xs=>if xs.length<=av then some xs else none
 |_=>none
def xi(k:Kd)(x y:Dat):Option (List (Dat×Dat)):=match k,x,y with
 |.zip,.lst xs,.lst ys=>if xs.length<=av/\ys.length<=av then some (xs.zip ys)else none
 |.enum,.lst xs,.int s=>if xs.length<=av then some ((ym s 1 xs.length).zip xs)else none
 |.prs,.lst xs,.int _=>if xs.length<=av then ir xs else none
 |.ptp,.tup xs,.int _=>if xs.length<=av then ir xs else none
 |_,_,_=>none
def zY:Dat->List Dat
 |.tup xs=>xs
 |_=>[]
def pX:Wd->Option Dat
 |.non=>some .non
 |.bl b=>some (.bl b)
 |.int i=>some (.int i)
 |.str s=>some (.str s)
 |_=>none
def ak(cl:Nat->List Dat->Rd):Ex->aO->Rd
 |.var i,de=>match de[i]? with
  |some (some d)=>.ok d
  |_=>.no
 |.lit w,_=>match pX w with
  |some d=>.ok d
  |none=>.no
 |.bin op a b,de=>(ak cl a de).bind λx=>(ak cl b de).bind λy=>zJ op x y
 |.neg a,de=>(ak cl a de).bind λx=>match x with
  |.int i=>.ok (.int (-i))
  |_=>.no
 |.not a,de=>(ak cl a de).bind λx=>match x with
  |.bl b=>.ok (.bl (! b))
  |_=>.no
 |.and a b,de=>(ak cl a de).bind λx=>match x with
  |.bl true=>ak cl b de
  |.bl false=>.ok (.bl false)
  |_=>.no
 |.or a b,de=>(ak cl a de).bind λx=>match x with
  |.bl false=>ak cl b de
  |.bl true=>.ok (.bl true)
  |_=>.no
 |.cmp op a b,de=>(ak cl a de).bind λx=>(ak cl b de).bind λy=>yy op x y
 |.chain p q a b c,de=>(ak cl a de).bind λx=>(ak cl b de).bind λy=>(yy p x y).bind λz=>match z with
  |.bl true=>(ak cl c de).bind λu=>yy q y u
  |.bl false=>.ok (.bl false)
  |_=>.no
 |.ife c a b,de=>(ak cl c de).bind λx=>match x with
  |.bl true=>ak cl a de
  |.bl false=>ak cl b de
  |_=>.no
 |.unit,_=>.ok (.tup [])
 |.pair a b,de=>(ak cl a de).bind λx=>(ak cl b de).bind λy=>.ok (.tup (x::zY y))
 |.call k a,de=>(ak cl a de).bind λx=>cl k (zY x)
 |.blt b a,de=>(ak cl a de).bind λx=>yO b (zY x)
 |.isi t a,de=>(ak cl a de).bind λx=>.ok (.bl (dY t x))
 |.lst a,de=>(ak cl a de).bind λx=>bp (zY x)
 |.tup a,de=>(ak cl a de).bind λx=>if(zY x).length<=av then .ok (.tup (zY x))else .no
 |.dict0,_=>.ok (.dct [] [])
 |.dget a b,de=>(ak cl a de).bind λx=>(ak cl b de).bind λy=>kA x y
 |.idx a b,de=>(ak cl a de).bind λx=>(ak cl b de).bind λy=>zN x y
 |.slB a lo hi,de=>(ak cl a de).bind λx=>(ak cl lo de).bind λy=>match y with
  |.int i=>(ak cl hi de).bind λz=>match z with
   |.int j=>hZ x (some i) (some j)
   |_=>.no
  |_=>.no
 |.meth _ _ _,_=>.no
 |.rng a b c,de=>(ak cl a de).bind λx=>(ak cl b de).bind λy=>(ak cl c de).bind λz=>kT x y z
 |.comp elt it cond,de=>(ak cl it de).bind λx=>match cQ x with
  |some xs=>yi (λx=>ak cl cond (de++[some x])) (λx=>ak cl elt (de++[some x])) xs []
  |none=>.no
 |.compP k elt a b cond,de=>(ak cl a de).bind λx=>(ak cl b de).bind λy=>match xi k x y with
  |some ps=>yi (λp=>ak cl cond (de++[some p.1]++[some p.2])) (λp=>ak cl elt (de++[some p.1]++[some p.2])) ps []
  |none=>.no
 |.lrng a,de=>(ak cl a de).bind λx=>match x with
  |.int j=>if -av<=j/\j<=av then bp (ym 0 1 j.toNat)else .no
  |_=>.no
def j6 (h:env[i]?=some (some w))(m:Me):af cl (.var i) env m=.ok w m:=by
 show(match env[i]? with|some (some w)=>Rz.ok w m|_=>.no)=_;rw[h]
def xF (h:de[i]?=some (some d)):ak cl (.var i) de=.ok d:=by
 show(match de[i]? with|some (some d)=>Rd.ok d|_=>.no)=_;rw[h]
def xH (h:de[i]?=none\/de[i]?=some none):ak cl (.var i) de=.no:=by
 show(match de[i]? with|some (some d)=>Rd.ok d|_=>.no)=_;rcases h with h|h<;>rw[h]
def tN (h:ak cl (.var i) de=.ok d):de[i]?=some (some d):=by
 cases z:de[i]? with
 |none=>rw[xH (.inl z)]at h;cases h
 |some o=>
  cases o with
  |none=>rw[xH (.inr z)]at h;cases h
  |some e=>rw[xF z]at h;cases h;rfl
mutual
def aj(R:Nat->Prop)(m:Me):Dat->Wd->Prop
 |.non,w=>w=.non
 |.bl b,w=>w=.bl b
 |.int i,w=>w=.int i
 |.str s,w=>w=.str s
 |.scr ns,w=>w=.rol (ns.map Wd.int)
 |.tup ds,w=>∃xs,w=.tup xs/\ae R m ds xs
 |.lst ds,w=>∃l xs,w=.ref l/\R l/\m[l]?=some (.lst xs)/\ae R m ds xs
 |.dct ks ds,w=>∃l xs,w=.ref l/\R l/\m[l]?=some (.dct ks xs)/\ae R m ds xs
def ae(R:Nat->Prop)(m:Me):List Dat->List Wd->Prop
 |[],xs=>xs=[]
 |d::ds,xs=>∃x r,xs=x::r/\aj R m d x/\ae R m ds r
end
def Le(m m':Me):Prop:=∀(l:Nat) o,m[l]?=some o->m'[l]?=some o
def Le.refl(m:Me):Le m m:=λ_ _ h=>h
def Le.trans{a b c:Me}(h:Le a b)(k:Le b c):Le a c:=λl o z=>k l o (h l o z)
def Le.app(m x:Me):Le m (m++x):=λl o z=>by
 obtain⟨hl,_⟩:=Qa.mp z;rw[Qg hl];exact z
def Le.len (h:Le a b):a.length<=b.length:=by
 rcases Nat.lt_or_ge b.length a.length with z|z
 .have:=h b.length a[b.length] (Qe z);have:=(Qa.mp this).1;lia
 .exact z
def Rf(R:Nat->Prop)(n:Nat):Nat->Prop:=λl=>R l\/n<=l
mutual
theorem aj.frame{R R':Nat->Prop}{m m':Me}(h:∀(l:Nat) o,R l->m[l]?=some o->R' l/\m'[l]?=some o):∀(d:Dat) (w:Wd),aj R m d w->aj R' m' d w
 |.non,w,q=>by unfold aj at q ⊢;exact q
 |.bl b,w,q=>by unfold aj at q ⊢;exact q
 |.int b,w,q=>by unfold aj at q ⊢;exact q
 |.str b,w,q=>by unfold aj at q ⊢;exact q
 |.scr b,w,q=>by unfold aj at q ⊢;exact q
 |.tup ds,w,q=>by
  unfold aj at q ⊢;obtain⟨xs,rfl,q⟩:=q;exact⟨xs,rfl,ae.frame h ds xs q⟩
 |.lst ds,w,q=>by
  unfold aj at q ⊢;obtain⟨l,xs,rfl,r,z,q⟩:=q;exact⟨l,xs,rfl,(h l _ r z).1,(h l _ r z).2,ae.frame h ds xs q⟩
 |.dct ks ds,w,q=>by
  unfold aj at q ⊢;obtain⟨l,xs,rfl,r,z,q⟩:=q;exact⟨l,xs,rfl,(h l _ r z).1,(h l _ r z).2,ae.frame h ds xs q⟩
theorem ae.frame{R R':Nat->Prop}{m m':Me}(h:∀(l:Nat) o,R l->m[l]?=some o->R' l/\m'[l]?=some o):∀(ds:List Dat) (xs:List Wd),ae R m ds xs->ae R' m' ds xs
 |[],xs,q=>by unfold ae at q ⊢;exact q
 |d::ds,xs,q=>by
  unfold ae at q ⊢;obtain⟨x,r,rfl,a,b⟩:=q;exact⟨x,r,rfl,aj.frame h d x a,ae.frame h ds r b⟩
end
def aj.up{R:Nat->Prop}{m m':Me}{d:Dat}{w:Wd}(n:Nat)(h:Le m m')(q:aj R m d w):aj (Rf R n) m' d w:=
 aj.frame (λl o r z=>⟨.inl r,h l o z⟩) d w q
def ae.up{R:Nat->Prop}{m m':Me}{d:List Dat}{w:List Wd}(n:Nat)(h:Le m m')(q:ae R m d w):ae (Rf R n) m' d w:=
 ae.frame (λl o r z=>⟨.inl r,h l o z⟩) d w q
theorem br:∀{ds:List Dat}{xs:List Wd},ae R m ds xs↔ds.length=xs.length/\∀(i:Nat) d x,ds[i]?=some d->xs[i]?=some x->aj R m d x
 |[],xs=>by
  unfold ae;constructor
  .rintro rfl;exact⟨rfl,by simp⟩
  .rintro ⟨h,_⟩;exact Vr h.symm
 |d::ds,xs=>by
  unfold ae;constructor
  .rintro ⟨x,r,rfl,a,b⟩;obtain⟨hl,hb⟩:=br.mp b;refine⟨by simp[hl],λi e y h1 h2=>?_⟩;cases i with
   |zero=>simp at h1 h2;subst h1;subst h2;exact a
   |succ i=>simp at h1 h2;exact hb i e y h1 h2
  .rintro ⟨hl,h⟩;cases xs with
   |nil=>cases hl
   |cons x r=>
    refine⟨x,r,rfl,h 0 d x rfl rfl,br.mpr ⟨by simpa using hl,λi e y h1 h2=>h (i+1) e y (by simpa using h1) (by simpa using h2)⟩⟩
def ae.len (h:ae R m ds xs):ds.length=xs.length:=(br.mp h).1
def ae.get (h:ae R m ds xs){i:Nat}(z:ds[i]?=some d):∃x,xs[i]?=some x/\aj R m d x:=by
 obtain⟨hl,h⟩:=br.mp h;obtain⟨hi,_⟩:=Qa.mp z;exact⟨xs[i],Qe (by lia),h i d _ z (Qe (by lia))⟩
def ae.nil{R:Nat->Prop}{m:Me}:ae R m [] []:=by unfold ae;rfl
def ae.cons{R:Nat->Prop}{m:Me}{d:Dat}{x:Wd}{ds:List Dat}{xs:List Wd}(a:aj R m d x)(b:ae R m ds xs):ae R m (d::ds) (x::xs):=by
 unfold ae;exact⟨x,xs,rfl,a,b⟩
def ae.cons_inv (h:ae R m (d::ds) xs):∃x r,xs=x::r/\aj R m d x/\ae R m ds r:=by
 unfold ae at h;exact h
def ae.nil_inv (h:ae R m [] xs):xs=[]:=by unfold ae at h;exact h
theorem ae.app:∀{ds es:List Dat}{xs ys:List Wd},ae R m ds xs->ae R m es ys->ae R m (ds++es) (xs++ys)
 |[],es,xs,ys,a,b=>by rw[a.nil_inv];exact b
 |d::ds,es,xs,ys,a,b=>by
  obtain⟨x,r,rfl,p,q⟩:=a.cons_inv;exact .cons p (ae.app q b)
theorem ae.drop{R:Nat->Prop}{m:Me}(n:Nat){ds:List Dat}{xs:List Wd}(h:ae R m ds xs):ae R m (ds.drop n) (xs.drop n):=by
 obtain⟨hl,h⟩:=br.mp h;refine br.mpr ⟨by simp[hl],λi d x a b=>h (n+i) d x (by simpa using a) (by simpa using b)⟩
theorem ae.take{R:Nat->Prop}{m:Me}(n:Nat){ds:List Dat}{xs:List Wd}(h:ae R m ds xs):ae R m (ds.take n) (xs.take n):=by
 obtain⟨hl,h⟩:=br.mp h;refine br.mpr ⟨by simp[hl],λi d x a b=>?_⟩;rw[List.getElem?_take]at a b;split at a
 .next z=>rw[Nj z]at b;exact h i d x a b
 .cases a
theorem ae.rev:∀{ds:List Dat}{xs:List Wd},ae R m ds xs->ae R m ds.reverse xs.reverse
 |[],xs,a=>by rw[a.nil_inv];exact .nil
 |d::ds,xs,a=>by
  obtain⟨x,r,rfl,p,q⟩:=a.cons_inv;rw[Wb,Wb];exact ae.app (ae.rev q) (.cons p .nil)
theorem ae.set{R:Nat->Prop}{m:Me}{ds:List Dat}{xs:List Wd}(h:ae R m ds xs)(j:Nat){d:Dat}{x:Wd}(z:aj R m d x):ae R m (ds.set j d) (xs.set j x):=by
 obtain⟨hl,h⟩:=br.mp h;refine br.mpr ⟨by simp[hl],λi e y a b=>?_⟩;rw[QG]at a b;by_cases q:j=i
 .rw[Nj q]at a b;split at a
  .split at b
   .cases a;cases b;exact z
   .cases b
  .cases a
 .rw[Nk q]at a b;exact h i e y a b
theorem ae.rep (h:ae R m ds xs):∀k:Nat,ae R m (Qx k ds).flatten (Qx k xs).flatten
 |0=>.nil
 |k+1=>by
  rw[QY,QY,Wc,Wc];exact ae.app h (ae.rep h k)
theorem fu:∀(l:List Int),ae R m (l.map Dat.int) (l.map Wd.int)
 |[]=>.nil
 |i::l=>.cons (by unfold aj;rfl) (fu l)
def aa:aj R m (.int i) w↔w=.int i:=by unfold aj;exact Iff.rfl
def ah:aj R m (.bl i) w↔w=.bl i:=by unfold aj;exact Iff.rfl
def aq:aj R m .non w↔w=.non:=by unfold aj;exact Iff.rfl
def aB:aj R m (.str s) w↔w=.str s:=by unfold aj;exact Iff.rfl
def bb:aj R m (.scr s) w↔w=.rol (s.map Wd.int):=by unfold aj;exact Iff.rfl
def ai:aj R m (.tup ds) w↔∃xs,w=.tup xs/\ae R m ds xs:=by
 constructor
 .intro h;unfold aj at h;exact h
 .intro h;unfold aj;exact h
def aC:aj R m (.lst ds) w↔∃l xs,w=.ref l/\R l/\m[l]?=some (.lst xs)/\ae R m ds xs:=by
 constructor
 .intro h;unfold aj at h;exact h
 .intro h;unfold aj;exact h
def bo:aj R m (.dct ks ds) w↔∃l xs,w=.ref l/\R l/\m[l]?=some (.dct ks xs)/\ae R m ds xs:=by
 constructor
 .intro h;unfold aj at h;exact h
 .intro h;unfold aj;exact h
def ag(R:Nat->Prop)(m:Me)(r:Rz)(rd:Rd):Prop:=match rd with
 |.ok d=>∃w m',r=.ok w m'/\Le m m'/\aj (Rf R m.length) m' d w
 |.exc c d=>∃w m',r=.exc c w m'/\Le m m'/\aj (Rf R m.length) m' d w
 |.no=>True
def ag.lift{R:Nat->Prop}{m m1:Me}{r:Rz}{rd:Rd}(h:Le m m1)(q:ag (Rf R m.length) m1 r rd):ag R m r rd:=by
 have hl:=h.len;have fr:∀(m':Me) (d:Dat) (w:Wd),aj (Rf (Rf R m.length) m1.length) m' d w->aj (Rf R m.length) m' d w:=λm' d w=>aj.frame (λl o z k=>⟨by rcases z with (z|z)|z;exact .inl z;exact .inr z;exact .inr (by lia),k⟩) d w;cases rd with
 |ok d=>obtain⟨w,m',rfl,k,z⟩:=q;exact⟨w,m',rfl,h.trans k,fr _ _ _ z⟩
 |exc c d=>obtain⟨w,m',rfl,k,z⟩:=q;exact⟨w,m',rfl,h.trans k,fr _ _ _ z⟩
 |no=>trivial
theorem ag.bind{R:Nat->Prop}{m:Me}{r:Rz}{rd:Rd}{f:Wd->Me->Rz}{g:Dat->Rd}(h:ag R m r rd)
  (k:∀d w m',Le m m'->aj (Rf R m.length) m' d w->ag (Rf R m.length) m' (f w m') (g d)):ag R m (r.bind f) (rd.bind g):=by
 cases rd with
 |ok d=>obtain⟨w,m',rfl,l,z⟩:=h;exact ag.lift l (k d w m' l z)
 |exc c d=>obtain⟨w,m',rfl,l,z⟩:=h;exact⟨w,m',rfl,l,z⟩
 |no=>trivial
def dQ (h:aj R m d w):ag R m (.ok w m) (.ok d):=
 ⟨w,m,rfl,Le.refl m,h.up _ (Le.refl m)⟩
theorem ag.no{R:Nat->Prop}{m:Me}{r:Rz}:ag R m r .no:=trivial
def ag.new{R:Nat->Prop}{m:Me}{ds:List Dat}{xs:List Wd}(h:ae R m ds xs):ag R m (alloc m xs) (bp ds):=by
 unfold bp alloc;rw[h.len];by_cases z:xs.length<=av
 .rw[Nj z,Nj z];exact⟨_,_,rfl,Le.app m _,aC.mpr ⟨_,xs,rfl,.inr (Qk _),by simp,h.up _ (Le.app m _)⟩⟩
 .rw[Nk z,Nk z];exact ag.no
def vw (h:aj R m d w)(z:xa d=some ds):∃xs,xT m w=some xs/\ae R m ds xs:=by
 cases d with
 |tup es=>obtain⟨xs,rfl,q⟩:=ai.mp h;cases z;exact⟨xs,rfl,q⟩
 |lst es=>
  obtain⟨l,xs,rfl,_,e,q⟩:=aC.mp h;cases z;exact⟨xs,by show zA m l=_;unfold zA;rw[e],q⟩
 |scr ns=>rw[bb.mp h];cases z;exact⟨_,rfl,fu ns⟩
 |_=>cases z
def qG (h:aj R m d w)(z:dX d=some ds):∃xs,ff m w=some xs/\ae R m ds xs:=by
 cases d with
 |lst es=>
  obtain⟨l,xs,rfl,_,e,q⟩:=aC.mp h;cases z;exact⟨xs,by show zA m l=_;unfold zA;rw[e],q⟩
 |scr ns=>rw[bb.mp h];cases z;exact⟨_,rfl,fu ns⟩
 |_=>cases z
theorem uY:∀{a b:List Int},a.map Wd.int=b.map Wd.int->a=b
 |[],[],_=>rfl
 |[],_::_,h=>by cases h
 |_::_,[],h=>by cases h
 |x::a,y::b,h=>by
  simp only[QT,List.cons.injEq,Wd.int.injEq]at h;rw[h.1,uY h.2]
mutual
theorem aj.det{R R':Nat->Prop}{m:Me}:∀(d e:Dat) (w:Wd),aj R m d w->aj R' m e w->d=e
 |.non,e,w,q,z=>by rw[aq.mp q]at z;cases e<;>unfold aj at z<;>first|rfl|(exfalso;simp at z)
 |.bl b,e,w,q,z=>by rw[ah.mp q]at z;cases e<;>unfold aj at z<;>first|(injection z with z;rw[z])|(exfalso;simp at z)
 |.int b,e,w,q,z=>by rw[aa.mp q]at z;cases e<;>unfold aj at z<;>first|(injection z with z;rw[z])|(exfalso;simp at z)
 |.str b,e,w,q,z=>by rw[aB.mp q]at z;cases e<;>unfold aj at z<;>first|(injection z with z;rw[z])|(exfalso;simp at z)
 |.scr b,e,w,q,z=>by rw[bb.mp q]at z;cases e<;>unfold aj at z<;>first|(injection z with z;rw[uY z])|(exfalso;simp at z)
 |.tup ds,e,w,q,z=>by
  obtain⟨xs,rfl,q1⟩:=ai.mp q;cases e with
  |tup es=>obtain⟨ys,e,z1⟩:=ai.mp z;cases e;rw[ae.det ds es xs q1 z1]
  |_=>exfalso;unfold aj at z;simp at z
 |.lst ds,e,w,q,z=>by
  obtain⟨l,xs,rfl,_,hm,q1⟩:=aC.mp q;cases e with
  |lst es=>obtain⟨l',ys,e,_,hn,z1⟩:=aC.mp z;cases e;rw[hm]at hn;cases hn;rw[ae.det ds es xs q1 z1]
  |dct ks es=>obtain⟨l',ys,e,_,hn,z1⟩:=bo.mp z;cases e;rw[hm]at hn;cases hn
  |_=>exfalso;unfold aj at z;simp at z
 |.dct ks ds,e,w,q,z=>by
  obtain⟨l,xs,rfl,_,hm,q1⟩:=bo.mp q;cases e with
  |dct ks' es=>obtain⟨l',ys,e,_,hn,z1⟩:=bo.mp z;cases e;rw[hm]at hn;cases hn;rw[ae.det ds es xs q1 z1]
  |lst es=>obtain⟨l',ys,e,_,hn,z1⟩:=aC.mp z;cases e;rw[hm]at hn;cases hn
  |_=>exfalso;unfold aj at z;simp at z
theorem ae.det{R R':Nat->Prop}{m:Me}:∀(ds es:List Dat) (xs:List Wd),ae R m ds xs->ae R' m es xs->ds=es
 |[],es,xs,q,z=>by
  rw[q.nil_inv]at z;cases es with
  |nil=>rfl
  |cons e es=>obtain⟨_,_,h,_⟩:=z.cons_inv;cases h
 |d::ds,es,xs,q,z=>by
  obtain⟨x,r,rfl,a,b⟩:=q.cons_inv;cases es with
  |nil=>cases z.nil_inv
  |cons e es=>
   obtain⟨_,_,h,a',b'⟩:=z.cons_inv;cases h;rw[aj.det d e x a a',ae.det ds es r b b']
end
def sw(d:Dat):yZ 0 d=false:=by cases d<;>rfl
mutual
theorem j7:∀(k:Nat) (d:Dat),yZ k d=true->dt d d=true
 |0,d,h=>by rw[sw]at h;cases h
 |k+1,.non,h=>rfl
 |k+1,.bl b,h=>by show(b==b)=true;simp
 |k+1,.int b,h=>by show decide (b=b)=true;simp
 |k+1,.str b,h=>by show decide (b=b)=true;simp
 |k+1,.scr b,h=>Nl (show false=true from h) (by decide)
 |k+1,.dct _ _,h=>Nl (show false=true from h) (by decide)
 |k+1,.tup ds,h=>bH k ds h
 |k+1,.lst ds,h=>bH k ds h
theorem bH:∀(k:Nat) (ds:List Dat),bF k ds=true->cm ds ds=true
 |k,[],h=>rfl
 |k,d::ds,h=>by
  replace h:(yZ k d&&bF k ds)=true:=h
  show(dt d d&&cm ds ds)=true;rw[Qr]at h ⊢;exact⟨j7 k d h.1,bH k ds h.2⟩
end
theorem qH (ih:∀(d e:Dat) (x y:Wd),yZ k d=true->yZ k e=true->aj R m d x->aj R m e y->cB m k x y=some (dt d e)):
  ∀(ds es:List Dat) (xs ys:List Wd),bF k ds=true->bF k es=true->ae R m ds xs->ae R m es ys->∃q,c6 (cB m k) xs ys=some q/\(q&&decide (xs.length=ys.length))=cm ds es
 |[],es,xs,ys,h1,h2,a,b=>by
  rw[a.nil_inv];cases es with
  |nil=>rw[b.nil_inv];exact⟨true,rfl,rfl⟩
  |cons e es=>obtain⟨y,r,rfl,_,_⟩:=b.cons_inv;exact⟨true,rfl,rfl⟩
 |d::ds,es,xs,ys,h1,h2,a,b=>by
  obtain⟨x,r,rfl,p,q⟩:=a.cons_inv;cases es with
  |nil=>rw[b.nil_inv];exact⟨true,rfl,rfl⟩
  |cons e es=>
   obtain⟨y,s,rfl,p',q'⟩:=b.cons_inv
   replace h1:(yZ k d&&bF k ds)=true:=h1
   replace h2:(yZ k e&&bF k es)=true:=h2
   rw[Qr]at h1 h2;obtain⟨t,ht,hb⟩:=qH ih ds es r s h1.2 h2.2 q q';refine⟨dt d e&&t,?_,?_⟩
   .unfold c6;rw[ih d e x y h1.1 h2.1 p p',ht];rfl
   .show (dt d e&&t&&decide (r.length+1=s.length+1))=(dt d e&&cm ds es);simp only[<-hb,Nat.succ_inj,Bool.and_assoc]
def aX (h:m[l]?=some (.lst xs)):aT m l=true:=by unfold aT;rw[h]
def xA (h:m[l]?=some (.lst xs)):(if aT m l&&true then some false else none)=some false:=by rw[aX h];rfl
theorem nJ:∀(k:Nat) (d e:Dat) (x y:Wd),yZ k d=true->yZ k e=true->aj R m d x->aj R m e y->cB m k x y=some (dt d e)
 |0,d,e,x,y,h,_,_,_=>by rw[sw]at h;cases h
 |k+1,d,e,x,y,h1,h2,a,b=>by
  have ih:=nJ (R:=R) (m:=m) k;cases d with
  |scr ns=>exact Nl (show false=true from h1) (by decide)
  |dct _ _=>exact Nl (show false=true from h1) (by decide)
  |tup ds=>
   obtain⟨xs,rfl,a1⟩:=ai.mp a;cases e with
   |scr ns=>exact Nl (show false=true from h2) (by decide)
   |dct _ _=>exact Nl (show false=true from h2) (by decide)
   |tup es=>
    obtain⟨ys,rfl,b1⟩:=ai.mp b;obtain⟨q,h,e⟩:=qH ih ds es xs ys h1 h2 a1 b1;show(c6 (cB m k) xs ys).map (· && decide (xs.length=ys.length))=some (cm ds es);rw[h,<-e];rfl
   |lst es=>
    obtain⟨l,ys,rfl,_,hm,b⟩:=aC.mp b;exact xA hm
   |non=>rw[aq.mp b];rfl
   |bl _=>rw[ah.mp b];rfl
   |int _=>rw[aa.mp b];rfl
   |str _=>rw[aB.mp b];rfl
  |lst ds=>
   have a0:=a;obtain⟨l,xs,rfl,_,hm,a⟩:=aC.mp a;cases e with
   |scr ns=>exact Nl (show false=true from h2) (by decide)
   |dct _ _=>exact Nl (show false=true from h2) (by decide)
   |lst es=>
    have b0:=b;obtain⟨l',ys,rfl,_,hn,b⟩:=aC.mp b;show(if l=l' then(if aT m l then some true else none)else match m[l]?,m[l']? with
     |some (.lst xs),some (.lst ys)=>if xs.length=ys.length then c6 (cB m k) xs ys else some false
     |_,_=>none)=_
    by_cases q:l=l'
    .subst q;rw[Nj rfl,Nj (aX hm)];rw[aj.det _ _ _ a0 b0]at *
     rw[j7 (k+1) _ h2]
    .rw[Nk q,hm,hn];obtain⟨q,h,e⟩:=qH ih ds es xs ys h1 h2 a b;show(if xs.length=ys.length then c6 (cB m k) xs ys else some false)=some (cm ds es);by_cases z:xs.length=ys.length
     .simp only[z,if_true,h,<-e];simp
     .simp only[z,if_false,<-e];simp
   |tup es=>obtain⟨ys,rfl,b⟩:=ai.mp b;exact xA hm
   |non=>rw[aq.mp b];exact xA hm
   |bl _=>rw[ah.mp b];exact xA hm
   |int _=>rw[aa.mp b];exact xA hm
   |str _=>rw[aB.mp b];exact xA hm
  |non=>
   rw[aq.mp a];cases e with
   |scr ns=>exact Nl (show false=true from h2) (by decide)
   |dct _ _=>exact Nl (show false=true from h2) (by decide)
   |lst es=>obtain⟨l',ys,rfl,_,hn,b⟩:=aC.mp b;exact xA hn
   |tup es=>obtain⟨ys,rfl,b⟩:=ai.mp b;rfl
   |non=>rw[aq.mp b];rfl
   |bl _=>rw[ah.mp b];rfl
   |int _=>rw[aa.mp b];rfl
   |str _=>rw[aB.mp b];rfl
  |bl _=>
   rw[ah.mp a];cases e with
   |scr ns=>exact Nl (show false=true from h2) (by decide)
   |dct _ _=>exact Nl (show false=true from h2) (by decide)
   |lst es=>obtain⟨l',ys,rfl,_,hn,b⟩:=aC.mp b;exact xA hn
   |tup es=>obtain⟨ys,rfl,b⟩:=ai.mp b;rfl
   |non=>rw[aq.mp b];rfl
   |bl _=>rw[ah.mp b];rfl
   |int _=>rw[aa.mp b];rfl
   |str _=>rw[aB.mp b];rfl
  |int _=>
   rw[aa.mp a];cases e with
   |scr ns=>exact Nl (show false=true from h2) (by decide)
   |dct _ _=>exact Nl (show false=true from h2) (by decide)
   |lst es=>obtain⟨l',ys,rfl,_,hn,b⟩:=aC.mp b;exact xA hn
   |tup es=>obtain⟨ys,rfl,b⟩:=ai.mp b;rfl
   |non=>rw[aq.mp b];rfl
   |bl _=>rw[ah.mp b];rfl
   |int _=>rw[aa.mp b];rfl
   |str _=>rw[aB.mp b];rfl
  |str _=>
   rw[aB.mp a];cases e with
   |scr ns=>exact Nl (show false=true from h2) (by decide)
   |dct _ _=>exact Nl (show false=true from h2) (by decide)
   |lst es=>obtain⟨l',ys,rfl,_,hn,b⟩:=aC.mp b;exact xA hn
   |tup es=>obtain⟨ys,rfl,b⟩:=ai.mp b;rfl
   |non=>rw[aq.mp b];rfl
   |bl _=>rw[ah.mp b];rfl
   |int _=>rw[aa.mp b];rfl
   |str _=>rw[aB.mp b];rfl
def uG (h:fH d e=some q)(a:aj R m d x)(b:aj R m e y):cB m yW x y=some q:=by
 unfold fH at h;split at h
 .next z=>simp only[Qr]at z;cases h;exact nJ yW d e x y z.1 z.2 a b
 .cases h
theorem uF (h:yZ yW d=true)(a:aj R m d x):∀(es:List Dat) (ys:List Wd),bF yW es=true->ae R m es ys->eO (cB m yW) x ys=some (es.any λe=>dt e d)
 |[],ys,_,b=>by rw[b.nil_inv];rfl
 |e::es,ys,z,b=>by
  obtain⟨y,r,rfl,p,q⟩:=b.cons_inv
  replace z:(yZ yW e&&bF yW es)=true:=z
  rw[Qr]at z;show(match cB m yW y x with
   |some a=>(eO (cB m yW) x r).map (a || ·)
   |none=>none)=_
  rw[nJ yW e d y x z.1 h p a,uF h a es r z.2 q];rfl
def Ep (h:lR d es=some q)(a:aj R m d x)(b:ae R m es ys):eO (cB m yW) x ys=some q:=by
 unfold lR at h;split at h
 .next z=>simp only[Qr]at z;cases h;exact uF z.1 a es ys z.2 b
 .cases h
theorem ag.int{R:Nat->Prop}{m:Me}{i:Int}:ag R m (.ok (.int i) m) (.ok (.int i)):=dQ (aa.mpr rfl)
theorem ag.bl{R:Nat->Prop}{m:Me}{i:Bool}:ag R m (.ok (.bl i) m) (.ok (.bl i)):=dQ (ah.mpr rfl)
def qI (op:Bo)(a:aj R m d x)(b:aj R m e y):ag R m (dh op x y m) (zJ op d e):=by
 cases d with
 |int i=>
  rw[aa.mp a];cases e with
  |int j=>
   rw[aa.mp b];cases op<;>simp only[dh,zJ]
   .exact ag.int
   .exact ag.int
   .by_cases z:(xq i || xq j)=true
    .rw[Nj z,Nj z];exact ag.int
    .rw[Nk z,Nk z];exact ag.no
   .by_cases z:0<j/\j<1073741824
    .rw[Nj z,Nj z];exact ag.int
    .rw[Nk z,Nk z];exact ag.no
   .by_cases z:0<j
    .rw[Nj z,Nj z];exact ag.int
    .rw[Nk z,Nk z];exact ag.no
   .by_cases z:0<=j/\j<=1000000/\xq i=true
    .rw[Nj z,Nj z];exact ag.int
    .rw[Nk z,Nk z];exact ag.no
   .by_cases z:0<=j/\j<=1000
    .rw[Nj z,Nj z];exact ag.int
    .rw[Nk z,Nk z];exact ag.no
   .by_cases z:0<=i/\j=1
    .rw[Nj z,Nj z];exact ag.int
    .rw[Nk z,Nk z];exact ag.no
  |_=>exact ag.no
 |lst ds=>
  obtain⟨l,xs,rfl,_,hm,a1⟩:=aC.mp a;cases e with
  |lst es=>
   obtain⟨l',ys,rfl,_,hn,b1⟩:=aC.mp b;cases op<;>first|exact ag.no|skip
   simp only[dh,zJ,hm,hn];exact ag.new (a1.app b1)
  |int k=>
   rw[aa.mp b];cases op<;>first|exact ag.no|skip
   simp only[dh,zJ,hm];by_cases z:-(av:Int)<=k/\k<=(av:Int)
   .rw[Nj z,Nj z];exact ag.new (a1.rep _)
   .rw[Nk z,Nk z];exact ag.no
  |_=>exact ag.no
 |tup ds=>
  obtain⟨xs,rfl,a1⟩:=ai.mp a;cases e with
  |tup es=>
   obtain⟨ys,rfl,b1⟩:=ai.mp b;cases op<;>first|exact ag.no|skip
   simp only[dh,zJ];have h1:=a1.len;have h2:=b1.len;have h3:ds.isEmpty=xs.isEmpty:=by cases ds<;>cases xs<;>simp_all
   rw[h1,h2,h3];by_cases z:xs.length+ys.length<=av/\xs.isEmpty=false
   .rw[Nj z,Nj z];exact dQ (ai.mpr ⟨_,rfl,a1.app b1⟩)
   .rw[Nk z,Nk z];exact ag.no
  |_=>exact ag.no
 |_=>exact ag.no
def uE (r:Int->Int->Bool)(a:aj R m d x)(b:aj R m e y):ag R m (iI r x y m) (mG r d e):=by
 cases d with
 |int i=>
  rw[aa.mp a];cases e with
  |int j=>rw[aa.mp b];exact ag.bl
  |_=>exact ag.no
 |_=>exact ag.no
def qJ (h:∀b,q=some b->p=some b):ag R m (dq p m) (qF q):=by
 cases q with
 |none=>exact ag.no
 |some b=>rw[h b rfl];exact ag.bl
def Gg (h:∀b,q=some b->p=some b):ag R m (dq (p.map (!·)) m) (qF (q.map (!·))):=by
 cases q with
 |none=>exact ag.no
 |some b=>rw[h b rfl];exact ag.bl
def Eo (a:aj R m d x)(b:aj R m e y):ag R m (cZ .isN x y m) (yy .isN d e):=by
 cases e with
 |non=>
  rw[aq.mp b];cases d with
  |non=>rw[aq.mp a];exact ag.bl
  |bl _=>rw[ah.mp a];exact ag.bl
  |int _=>rw[aa.mp a];exact ag.bl
  |str _=>rw[aB.mp a];exact ag.bl
  |scr _=>rw[bb.mp a];exact ag.bl
  |tup _=>obtain⟨xs,rfl,_⟩:=ai.mp a;exact ag.bl
  |lst _=>obtain⟨l,xs,rfl,_⟩:=aC.mp a;exact ag.bl
  |dct _ _=>obtain⟨l,xs,rfl,_⟩:=bo.mp a;exact ag.bl
 |_=>exact ag.no
def Gf (a:aj R m d x)(b:aj R m e y):ag R m (cZ .notN x y m) (yy .notN d e):=by
 cases e with
 |non=>
  rw[aq.mp b];cases d with
  |non=>rw[aq.mp a];exact ag.bl
  |bl _=>rw[ah.mp a];exact ag.bl
  |int _=>rw[aa.mp a];exact ag.bl
  |str _=>rw[aB.mp a];exact ag.bl
  |scr _=>rw[bb.mp a];exact ag.bl
  |tup _=>obtain⟨xs,rfl,_⟩:=ai.mp a;exact ag.bl
  |lst _=>obtain⟨l,xs,rfl,_⟩:=aC.mp a;exact ag.bl
  |dct _ _=>obtain⟨l,xs,rfl,_⟩:=bo.mp a;exact ag.bl
 |_=>exact ag.no
theorem kU:∀{ds:List Dat}{xs:List Wd}{k:List Int},ae R m ds xs->xX ds=some k->x8 xs=some k
 |[],xs,k,a,h=>by rw[a.nil_inv];exact h
 |d::ds,xs,k,a,h=>by
  obtain⟨x,r,rfl,p,q⟩:=a.cons_inv;cases d with
  |int j=>
   rw[aa.mp p];simp only[xX,QE]at h;obtain⟨k,hk,rfl⟩:=h;simp only[x8,kU q hk,QJ]
  |_=>simp[xX]at h
def qK (op:Co)(a:aj R m d x)(b:aj R m e y):ag R m (cZ op x y m) (yy op d e):=by
 cases op with
 |eq=>exact qJ λq h=>uG h a b
 |ne=>exact Gg λq h=>uG h a b
 |isN=>exact Eo a b
 |notN=>exact Gf a b
 |isin=>
  simp only[cZ,yy];cases z:xa e with
  |none=>
   cases e with
   |dct ks ds=>
    obtain⟨l,xs,rfl,_,hm,q⟩:=bo.mp b;have hs:xT m (.ref l)=none:=by show zA m l=none;unfold zA;rw[hm]
    rw[hs];refine qJ λt h=>?_;unfold lQ;simp only[hm];cases d with
    |int i=>rw[aa.mp a];exact h
    |tup us=>
     obtain⟨ws,rfl,q⟩:=ai.mp a;have h:(xX us).map (λk=>decide (k∈ks))=some t:=h;obtain⟨k,hk,rfl⟩:=QE.mp h;show(x8 ws).map _=_;rw[kU q hk];rfl
    |_=>cases h
   |_=>exact ag.no
  |some es=>
   obtain⟨ys,h,q⟩:=vw b z;rw[h];exact qJ λt h=>Ep h a q
 |lt=>exact uE _ a b
 |le=>exact uE _ a b
def Em (t:Tg)(a:aj R m d x):ag R m (dq (cY t x m) m) (.ok (.bl (dY t d))):=by
 have h:cY t x m=some (dY t d):=by
  cases d with
  |non=>rw[aq.mp a];cases t<;>rfl
  |bl _=>rw[ah.mp a];cases t<;>rfl
  |int _=>rw[aa.mp a];cases t<;>rfl
  |str _=>rw[aB.mp a];cases t<;>rfl
  |scr _=>rw[bb.mp a];cases t<;>rfl
  |tup _=>obtain⟨xs,rfl,_⟩:=ai.mp a;cases t<;>rfl
  |lst _=>obtain⟨l,xs,rfl,_,hm,_⟩:=aC.mp a;cases t<;>(show(match m[l]? with|some (.lst _)=>_|some (.dct _ _)=>_|none=>_)=_;rw[hm];rfl)
  |dct _ _=>obtain⟨l,xs,rfl,_,hm,_⟩:=bo.mp a;cases t<;>(show(match m[l]? with|some (.lst _)=>_|some (.dct _ _)=>_|none=>_)=_;rw[hm];rfl)
 rw[h];exact ag.bl
def uX (a:aj R m d x)(h:wU d=some k):fT x=some k:=by
 cases d with
 |tup ds=>obtain⟨xs,rfl,q⟩:=ai.mp a;exact kU q h
 |_=>cases h
theorem uD:∀{ks:List (List Int)}{ds:List Dat}{xs:List Wd}{d:Dat},ae R m ds xs->dE ks ds q=some d->∃x,dE ks xs q=some x/\aj R m d x
 |[],ds,xs,d,a,h=>by cases ds<;>cases h
 |k::ks,[],xs,d,a,h=>by cases h
 |k::ks,e::ds,xs,d,a,h=>by
  obtain⟨x,r,rfl,p,z⟩:=a.cons_inv;have h':(if k=q then some e else dE ks ds q)=some d:=h;show ∃y,(if k=q then some x else dE ks r q)=some y/\_;by_cases c:k=q
  .rw[Nj c]at h' ⊢;cases h';exact⟨x,rfl,p⟩
  .rw[Nk c]at h' ⊢;exact uD z h'
def Ar (a:aj R m d x)(b:aj R m e y):ag R m (gP x y m) (kA d e):=by
 cases d with
 |dct ks ds=>
  obtain⟨l,xs,rfl,_,hm,q⟩:=bo.mp a;unfold kA gP;simp only[hm];cases hk:wU e with
  |none=>exact ag.no
  |some k=>
   rw[uX b hk];simp only[W8];cases hv:dE ks ds k with
   |none=>exact ag.no
   |some v=>
    obtain⟨w,h1,h2⟩:=uD q hv;rw[h1];exact dQ h2
 |_=>exact ag.no
theorem uC:∀{ds:List Dat}{xs:List Wd}{i:Bool},ae R m ds xs->j4 ds=some i->fx xs=some i
 |[],xs,i,a,h=>by rw[a.nil_inv];exact h
 |d::ds,xs,i,a,h=>by
  obtain⟨x,r,rfl,p,q⟩:=a.cons_inv;cases d with
  |bl j=>
   rw[ah.mp p];simp only[j4,QE]at h;obtain⟨k,hk,rfl⟩:=h;simp only[fx,uC q hk,QJ]
  |_=>simp[j4]at h
theorem Aq:∀{ds:List Dat}{xs:List Wd}{k:List Int},ae R m ds xs->xX ds=some k->x8 xs=some k
 |[],xs,k,q,h=>by rw[q.nil_inv];exact h
 |d::ds,xs,k,q,h=>by
  obtain⟨x,r,rfl,a,b⟩:=q.cons_inv;cases d with
  |int i=>
   have h':(xX ds).map (i::·)=some k:=h;obtain⟨k',e,rfl⟩:=QE.mp h';rw[aa.mp a];show(x8 r).map (i::·)=_;rw[Aq b e];rfl
  |_=>cases h
def El (b:eK)(a:ae R m ds xs):ag R m (fe b xs m) (yO b ds):=by
 have one:∀{d:Dat}{xs:List Wd},ae R m [d] xs->∃x,xs=[x]/\aj R m d x:=by
  intro d xs h;obtain⟨x,r,rfl,p,q⟩:=h.cons_inv;rw[q.nil_inv];exact⟨x,rfl,p⟩
 cases b with
 |len=>
  cases ds with
  |nil=>exact ag.no
  |cons d ds=>
   cases ds with
   |cons _ _=>exact ag.no
   |nil=>
    obtain⟨x,rfl,p⟩:=one a;show ag R m _ (match xa d with|some i=>.ok (.int i.length)|none=>.no);cases z:xa d with
    |none=>exact ag.no
    |some i=>
     obtain⟨ys,h,q⟩:=vw p z;simp only[fe,h,q.len];exact ag.int
 |int=>
  cases ds with
  |nil=>exact ag.no
  |cons d ds=>
   cases d with
   |int i=>
    cases ds with
    |cons _ _=>exact ag.no
    |nil=>obtain⟨x,rfl,p⟩:=one a;rw[aa.mp p];exact ag.int
   |bl i=>
    cases ds with
    |cons _ _=>exact ag.no
    |nil=>obtain⟨x,rfl,p⟩:=one a;rw[ah.mp p];exact ag.int
   |_=>exact ag.no
 |list=>
  cases ds with
  |nil=>exact ag.no
  |cons d ds=>
   cases ds with
   |cons _ _=>exact ag.no
   |nil=>
    obtain⟨x,rfl,p⟩:=one a;show ag R m _ (match xa d with|some i=>bp i|none=>.no);cases z:xa d with
    |none=>exact ag.no
    |some i=>
     obtain⟨ys,h,q⟩:=vw p z;simp only[fe,h];exact ag.new q
 |all=>
  cases ds with
  |nil=>exact ag.no
  |cons d ds=>
   cases ds with
   |cons _ _=>exact ag.no
   |nil=>
    obtain⟨x,rfl,p⟩:=one a;show ag R m _ (match (dX d).bind j4 with|some i=>.ok (.bl i)|none=>.no);cases z:(dX d).bind j4 with
    |none=>exact ag.no
    |some i=>
     obtain⟨es,z1,z2⟩:=QH.mp z;obtain⟨ys,h,q⟩:=qG p z1;simp only[fe,h,WF,uC q z2];exact ag.bl
 |max2=>
  cases ds with
  |nil=>exact ag.no
  |cons d ds=>
   cases d with
   |int i=>
    cases ds with
    |nil=>exact ag.no
    |cons e ds=>
     cases e with
     |int j=>
      cases ds with
      |cons _ _=>exact ag.no
      |nil=>
       obtain⟨x,r,rfl,p,q⟩:=a.cons_inv;obtain⟨y,rfl,q1⟩:=one q;rw[aa.mp p,aa.mp q1];exact ag.int
     |_=>exact ag.no
   |_=>exact ag.no
 |min2=>
  cases ds with
  |nil=>exact ag.no
  |cons d ds=>
   cases d with
   |int i=>
    cases ds with
    |nil=>exact ag.no
    |cons e ds=>
     cases e with
     |int j=>
      cases ds with
      |cons _ _=>exact ag.no
      |nil=>
       obtain⟨x,r,rfl,p,q⟩:=a.cons_inv;obtain⟨y,rfl,q1⟩:=one q;rw[aa.mp p,aa.mp q1];exact ag.int
     |_=>exact ag.no
   |_=>exact ag.no
 |sortI=>
  cases ds with
  |nil=>exact ag.no
  |cons d ds=>
   cases ds with
   |cons _ _=>exact ag.no
   |nil=>
    obtain⟨x,rfl,p⟩:=one a;show ag R m _ (match (dX d).bind xX with|some k=>if k.length<64 then bp ((fU k).map Dat.int)else .no|none=>.no);cases z:(dX d).bind xX with
    |none=>exact ag.no
    |some k=>
     obtain⟨es,z1,z2⟩:=QH.mp z;obtain⟨ys,h,q⟩:=qG p z1;by_cases h64:k.length<64
     .simp only[fe,h,WF,Aq q z2,Nj h64];exact ag.new (fu _)
     .simp only[Nk h64];exact ag.no
def Ek (a:aj R m d x)(b:aj R m e y):ag R m (jG x y m) (zN d e):=by
 cases e with
 |int i=>
  rw[aa.mp b];simp only[zN,jG];cases z:xa d with
  |none=>exact ag.no
  |some ds=>
   obtain⟨xs,h,q⟩:=vw a z;simp only[h];cases z:(ix ds.length i).bind λj=>ds[j]? with
   |none=>exact ag.no
   |some v=>
    obtain⟨j,h1,h2⟩:=QH.mp z;obtain⟨x,h3,p⟩:=q.get h2;rw[q.len]at h1;simp only[h1,WF,h3];exact dQ p
 |_=>exact ag.no
def DG (lo hi:Option Int)(a:aj R m d x):ag R m (hU x lo hi m) (hZ d lo hi):=by
 simp only[hZ,hU];cases z:dX d with
 |none=>exact ag.no
 |some ds=>
  obtain⟨xs,h,q⟩:=qG a z;simp only[h,q.len];exact ag.new ((q.drop _).take _)
theorem kB (st:Int):∀(n:Nat) (lo:Int),ae R m (ym lo st n) (fw lo st n)
 |0,lo=>.nil
 |n+1,lo=>by
  have h:ym lo st (n+1)=.int lo::ym (lo+st) st n:=by
   unfold ym;rw[Wr,QT,Wf];congr 1
   .simp
   .apply WM;intro i _;show Dat.int _=Dat.int _;congr 1;rw[show((Nat.succ i:Nat):Int)=(i:Int)+1 from rfl,Int.mul_add,Int.mul_one];lia
  rw[h];exact .cons (aa.mpr rfl) (kB st n _)
def Ej (a:aj R m d x)(b:aj R m e y)(c:aj R m f z):ag R m (iB x y z m) (kT d e f):=by
 cases d with
 |int i=>
  cases e with
  |int j=>
   cases f with
   |int k=>
    rw[aa.mp a,aa.mp b,aa.mp c];simp only[iB,kT];split
    .exact dQ (ai.mpr ⟨_,rfl,kB k _ i⟩)
    .exact ag.no
   |_=>exact ag.no
  |_=>exact ag.no
 |_=>exact ag.no
theorem vA {R:Nat->Prop}(hc:∀(R':Nat->Prop) m d x,(∀l,R l->R' l)->Le m0 m->aj R' m d x->ag R' m (c x m) (cd d))(he:∀(R':Nat->Prop) m d x,(∀l,R l->R' l)->Le m0 m->aj R' m d x->ag R' m (e x m) (ed d)):
  ∀(ds:List Dat) (xs:List Wd) (acc:List Dat) (acx:List Wd) (R':Nat->Prop) (m:Me),(∀l,R l->R' l)->Le m0 m->ae R' m ds xs->ae R' m acc acx->ag R' m (xU c e xs acx m) (yi cd ed ds acc)
 |[],xs,acc,acx,R',m,hR,hm,a,b=>by
  rw[a.nil_inv];unfold xU yi;exact ag.new b
 |d::ds,xs,acc,acx,R',m,hR,hm,a,b=>by
  obtain⟨x,r,rfl,p,q⟩:=a.cons_inv;unfold xU yi;refine(hc R' m d x hR hm p).bind λt w m1 l1 k1=>?_;cases t with
  |bl t=>
   rw[ah.mp k1];cases t with
   |true=>
    refine(he _ m1 d x (λl z=>.inl (hR l z)) (hm.trans l1) (p.up _ l1)).bind λt w m2 l2 k2=>?_;simp only[b.len];by_cases z:acx.length<av
    .rw[Nj z,Nj z];exact vA hc he ds r _ _ _ m2 (λl z=>.inl (.inl (hR l z))) ((hm.trans l1).trans l2) ((q.up _ l1).up _ l2) (((b.up _ l1).up _ l2).app (.cons k2 .nil))
    .rw[Nk z,Nk z];exact ag.no
   |false=>exact vA hc he ds r _ _ _ m1 (λl z=>.inl (hR l z)) (hm.trans l1) (q.up _ l1) (b.up _ l1)
  |_=>exact ag.no
theorem kW {R:Nat->Prop}(hl:m0[l]?=some (.lst xs0))(hc:∀(R':Nat->Prop) m d x,(∀l,R l->R' l)->Le m0 m->aj R' m d x->ag R' m (c x m) (cd d))(he:∀(R':Nat->Prop) m d x,(∀l,R l->R' l)->Le m0 m->aj R' m d x->ag R' m (e x m) (ed d)):
  ∀(ds:List Dat) (i k:Nat) (acc:List Dat) (acx:List Wd) (R':Nat->Prop) (m:Me),(∀l,R l->R' l)->Le m0 m->ae R' m ds (xs0.drop i)->i+ds.length=xs0.length->ds.length<k->ae R' m acc acx->ag R' m (xW c e l k i acx m) (yi cd ed ds acc)
 |[],i,0,acc,acx,R',m,hR,hm,a,hi,hk,b=>by simp at hk
 |d::ds,i,0,acc,acx,R',m,hR,hm,a,hi,hk,b=>by simp at hk
 |[],i,k+1,acc,acx,R',m,hR,hm,a,hi,hk,b=>by
  unfold xW yi zA;rw[hm l _ hl];simp only;rw[Qn (by simp at hi;lia)];exact ag.new b
 |d::ds,i,k+1,acc,acx,R',m,hR,hm,a,hi,hk,b=>by
  obtain⟨x,r,e0,p,q⟩:=a.cons_inv;have hx:xs0[i]?=some x:=by
   have:(xs0.drop i)[0]?=some x:=by rw[e0];rfl
   simpa using this
  have hr:r=xs0.drop (i+1):=by
   have:(xs0.drop i).drop 1=r:=by rw[e0];rfl
   rw[<-this,WU]
  rw[hr]at q;have hi':i+1+ds.length=xs0.length:=by simp at hi;lia
  have hk':ds.length<k:=by simp at hk;lia
  unfold xW yi zA;rw[hm l _ hl];simp only;rw[hx];simp only;refine(hc R' m d x hR hm p).bind λt w m1 l1 k1=>?_;cases t with
  |bl t=>
   rw[ah.mp k1];cases t with
   |true=>
    refine(he _ m1 d x (λl z=>.inl (hR l z)) (hm.trans l1) (p.up _ l1)).bind λt w m2 l2 k2=>?_;simp only[b.len];by_cases z:acx.length<av
    .rw[Nj z,Nj z];exact kW hl hc he ds (i+1) k _ _ _ m2 (λl z=>.inl (.inl (hR l z))) ((hm.trans l1).trans l2) ((q.up _ l1).up _ l2) hi' hk' (((b.up _ l1).up _ l2).app (.cons k2 .nil))
    .rw[Nk z,Nk z];exact ag.no
   |false=>exact kW hl hc he ds (i+1) k _ _ _ m1 (λl z=>.inl (hR l z)) (hm.trans l1) (q.up _ l1) hi' hk' (b.up _ l1)
  |_=>exact ag.no
def mT(R:Nat->Prop)(m0:Me)(ps:List (Dat×Dat))(g:Nat->Me->Option (Option (Wd×Wd))):Prop:=
 ∀m,Le m0 m->(∀i p,ps[i]?=some p->∃a b,g i m=some (some (a,b))/\aj R m p.1 a/\aj R m p.2 b)/\∀i,ps.length<=i->g i m=some none
theorem qL{α β:Type}:∀{xs:List α}{ys:List β}{i:Nat}{p:α×β},(xs.zip ys)[i]?=some p->xs[i]?=some p.1/\ys[i]?=some p.2
 |[],_,i,p,h=>by simp at h
 |_::_,[],i,p,h=>by simp at h
 |x::xs,y::ys,0,p,h=>by simp at h;subst h;exact⟨rfl,rfl⟩
 |x::xs,y::ys,i+1,p,h=>by
  have h':(xs.zip ys)[i]?=some p:=by simpa using h
  simpa using qL h'
theorem qM:∀{xs:List Dat}{ps:List (Dat×Dat)},ir xs=some ps->ps.length=xs.length/\∀(i:Nat) p,ps[i]?=some p->xs[i]?=some (.tup [p.1,p.2])
 |[],ps,h=>by cases h;exact⟨rfl,λi p q=>by simp at q⟩
 |d::xs,ps,h=>by
  unfold ir at h;split at h
  .next h0=>cases h0
  .next x y r h0=>
   cases h0;obtain⟨qs,e,rfl⟩:=QE.mp h;obtain⟨a,b⟩:=qM e;refine⟨by simp[a],λi p q=>?_⟩;cases i with
   |zero=>cases q;rfl
   |succ i=>exact b i p q
  .cases h
def g8 (e:xi k x y=some ps)(hx:aj R m0 x a)(hy:aj R m0 y b):mT R m0 ps (zC k a b)/\ps.length<=av:=by
 unfold xi at e;split at e
 .obtain ⟨l,xs,rfl,_,e1,k1⟩:=aC.mp hx;obtain⟨l',ys,rfl,_,e2,k2⟩:=aC.mp hy;split at e
  .next z=>
   cases e;refine⟨λm h=>⟨λi p q=>?_,λi q=>?_⟩,by simp;lia⟩
   .obtain ⟨z1,z2⟩:=qL q;obtain⟨a,a1,a2⟩:=k1.get z1;obtain⟨b,b1,b2⟩:=k2.get z2;refine⟨a,b,?_,aj.frame (λl o r z=>⟨r,h l o z⟩) _ _ a2,aj.frame (λl o r z=>⟨r,h l o z⟩) _ _ b2⟩;simp only[zC,zA];rw[h _ _ e1,h _ _ e2];simp only[a1,b1]
   .simp only[zC,zA];rw[h _ _ e1,h _ _ e2];have l1:=k1.len;have l2:=k2.len;simp only[Vw]at q;simp only;rcases Nat.le_total xs.length ys.length with z3|z3
    .rw[Qn (by lia)]
    .rw[Qn (l:=ys) (by lia)];cases xs[i]?<;>rfl
  .cases e
 .rename_i xs0 st;obtain⟨l,xs,rfl,_,e1,k1⟩:=aC.mp hx;rw[aa.mp hy];split at e
  .next z=>
   cases e;have l1:=k1.len;refine⟨λm h=>⟨λi p q=>?_,λi q=>?_⟩,by simp[ym];lia⟩
   .obtain ⟨z1,z2⟩:=qL q;obtain⟨a,a1,a2⟩:=k1.get z2;have hp:p.1=.int (st+(i:Int)):=by
     simp only[ym,Qt]at z1;cases hr:(QA xs0.length)[i]? with
     |none=>rw[hr]at z1;cases z1
     |some j=>
      rw[hr]at z1;have:=Qa.mp hr;obtain⟨_,hj⟩:=this;simp only[List.getElem_range]at hj;subst hj;simp only[QJ,Option.some.injEq,Int.one_mul]at z1;exact z1.symm
    refine⟨.int (st+(i:Int)),a,?_,by rw[hp];exact aa.mpr rfl,aj.frame (λl o r z=>⟨r,h l o z⟩) _ _ a2⟩;simp only[zC,zA];rw[h _ _ e1];simp only[a1,QJ]
   .simp only[zC,zA];rw[h _ _ e1];simp only[ym,Vw,Qm,List.length_range]at q;simp only;rw[Qn (by lia)];rfl
  .cases e
 .rename_i xs0 st;obtain⟨l,xs,rfl,_,e1,k1⟩:=aC.mp hx;rw[aa.mp hy];split at e
  .next z=>
   have l1:=k1.len;obtain⟨g1,g2⟩:=qM e;refine⟨λm h=>⟨λi p q=>?_,λi q=>?_⟩,by lia⟩
   .obtain ⟨a,a1,a2⟩:=k1.get (g2 i p q);obtain⟨us,rfl,r2⟩:=ai.mp a2;obtain⟨x,r,rfl,ra,rb⟩:=r2.cons_inv;obtain⟨y,r',rfl,rc,rd⟩:=rb.cons_inv;obtain rfl:=rd.nil_inv;refine⟨x,y,?_,aj.frame (λl o r z=>⟨r,h l o z⟩) _ _ ra,aj.frame (λl o r z=>⟨r,h l o z⟩) _ _ rc⟩;simp only[zC,zA];rw[h _ _ e1];simp only[a1];rfl
   .simp only[zC,zA];rw[h _ _ e1];simp only;rw[Qn (by lia)]
  .cases e
 .rename_i xs0 st;obtain⟨xs,rfl,k1⟩:=ai.mp hx;rw[aa.mp hy];split at e
  .next z=>
   have l1:=k1.len;obtain⟨g1,g2⟩:=qM e;refine⟨λm h=>⟨λi p q=>?_,λi q=>?_⟩,by lia⟩
   .obtain ⟨a,a1,a2⟩:=k1.get (g2 i p q);obtain⟨us,rfl,r2⟩:=ai.mp a2;obtain⟨x,r,rfl,ra,rb⟩:=r2.cons_inv;obtain⟨y,r',rfl,rc,rd⟩:=rb.cons_inv;obtain rfl:=rd.nil_inv;refine⟨x,y,?_,aj.frame (λl o r z=>⟨r,h l o z⟩) _ _ ra,aj.frame (λl o r z=>⟨r,h l o z⟩) _ _ rc⟩;simp only[zC,a1];rfl
   .simp only[zC];rw[Qn (by lia)]
  .cases e
 .cases e
theorem kX (hg:mT R m0 ps g)(hc:∀(R':Nat->Prop) m p a b,(∀l,R l->R' l)->Le m0 m->aj R' m p.1 a->aj R' m p.2 b->ag R' m (c a b m) (cd p))(he:∀(R':Nat->Prop) m p a b,(∀l,R l->R' l)->Le m0 m->aj R' m p.1 a->aj R' m p.2 b->ag R' m (e a b m) (ed p)):
  ∀(ds:List (Dat×Dat)) (i k:Nat) (acc:List Dat) (acx:List Wd) (R':Nat->Prop) (m:Me),(∀l,R l->R' l)->Le m0 m->ds=ps.drop i->i+ds.length=ps.length->ds.length<k->ae R' m acc acx->ag R' m (yh c e g k i acx m) (yi cd ed ds acc)
 |[],i,0,acc,acx,R',m,hR,hm,a,hi,hk,b=>by simp at hk
 |d::ds,i,0,acc,acx,R',m,hR,hm,a,hi,hk,b=>by simp at hk
 |[],i,k+1,acc,acx,R',m,hR,hm,a,hi,hk,b=>by
  unfold yh yi;rw[(hg m hm).2 i (by simp at hi;lia)];exact ag.new b
 |d::ds,i,k+1,acc,acx,R',m,hR,hm,a,hi,hk,b=>by
  have hx:ps[i]?=some d:=by
   have:(ps.drop i)[0]?=some d:=by rw[<-a];rfl
   simpa using this
  have hr:ds=ps.drop (i+1):=by
   have:(ps.drop i).drop 1=ds:=by rw[<-a];rfl
   rw[<-this,WU]
  have hi':i+1+ds.length=ps.length:=by simp at hi;lia
  have hk':ds.length<k:=by simp at hk;lia
  obtain⟨u,v,e0,p,q⟩:=(hg m hm).1 i d hx;have up:∀{d:Dat}{w:Wd},aj R m d w->aj R' m d w:=λz=>aj.frame (λl o r z=>⟨hR l r,z⟩) _ _ z;unfold yh yi;rw[e0];simp only;refine(hc R' m d u v hR hm (up p) (up q)).bind λt w m1 l1 k1=>?_;cases t with
  |bl t=>
   rw[ah.mp k1];cases t with
   |true=>
    refine(he _ m1 d u v (λl z=>.inl (hR l z)) (hm.trans l1) ((up p).up _ l1) ((up q).up _ l1)).bind λt w m2 l2 k2=>?_;simp only[b.len];by_cases z:acx.length<av
    .rw[Nj z,Nj z];exact kX hg hc he ds (i+1) k _ _ _ m2 (λl z=>.inl (.inl (hR l z))) ((hm.trans l1).trans l2) hr hi' hk' (((b.up _ l1).up _ l2).app (.cons k2 .nil))
    .rw[Nk z,Nk z];exact ag.no
   |false=>exact kX hg hc he ds (i+1) k _ _ _ m1 (λl z=>.inl (hR l z)) (hm.trans l1) hr hi' hk' (b.up _ l1)
  |_=>exact ag.no
def zu:Ex->List Nat
 |.var i=>[i]
 |.lit _=>[]
 |.bin _ a b=>zu a++zu b
 |.neg a=>zu a
 |.not a=>zu a
 |.and a b=>zu a++zu b
 |.or a b=>zu a++zu b
 |.cmp _ a b=>zu a++zu b
 |.chain _ _ a b c=>zu a++(zu b++zu c)
 |.ife c a b=>zu c++(zu a++zu b)
 |.unit=>[]
 |.pair a b=>zu a++zu b
 |.call _ a=>zu a
 |.blt _ a=>zu a
 |.isi _ a=>zu a
 |.lst a=>zu a
 |.tup a=>zu a
 |.dict0=>[]
 |.dget a b=>zu a++zu b
 |.idx a b=>zu a++zu b
 |.slB a b c=>zu a++(zu b++zu c)
 |.meth _ a b=>zu a++zu b
 |.rng a b c=>zu a++(zu b++zu c)
 |.comp e i c=>zu i++(zu e++zu c)
 |.lrng a=>zu a
 |.compP _ e a b c=>zu a++(zu b++(zu e++zu c))
@[simp]theorem Lq(i:Nat):zu (.var i)=[i]:=rfl
@[simp]theorem Lp(w:Wd):zu (.lit w)=[]:=rfl
@[simp]theorem Lo(a b:Ex):zu (.idx a b)=zu a++zu b:=rfl
@[simp]theorem Ln(a:Ex):zu (.tup a)=zu a:=rfl
@[simp]theorem Lx(a b:Ex):zu (.pair a b)=zu a++zu b:=rfl
@[simp]theorem Lw  : zu (.unit)=[]:=rfl
@[simp]theorem Lm(op:Bo)(a b:Ex):zu (.bin op a b)=zu a++zu b:=rfl
@[simp]theorem Lu(k:Nat)(a:Ex):zu (.call k a)=zu a:=rfl
@[simp]theorem Ll(a:Ex):zu (.neg a)=zu a:=rfl
@[simp]theorem Lk(a:Ex):zu (.lst a)=zu a:=rfl
def bW(R:Nat->Prop)(m:Me)(vs:List Nat)(de:aO)(env:En):Prop:=
 de.length=env.length/\∀i∈vs,∀d,de[i]?=some (some d)->∃w,env[i]?=some (some w)/\aj R m d w
def bW.up{R R':Nat->Prop}{m m':Me}{vs:List Nat}{de:aO}{env:En}(hR:∀l,R l->R' l)(h:Le m m')(q:bW R m vs de env):bW R' m' vs de env:=
 ⟨q.1,λi hi d z=>by
  obtain⟨w,a,b⟩:=q.2 i hi d z;exact⟨w,a,aj.frame (λl o r k=>⟨hR l r,h l o k⟩) d w b⟩⟩
def bW.sub{R:Nat->Prop}{m:Me}{vs us:List Nat}{de:aO}{env:En}(h:∀i∈us,i∈vs)(q:bW R m vs de env):bW R m us de env:=
 ⟨q.1,λi hi=>q.2 i (h i hi)⟩
def bW.left{R:Nat->Prop}{m:Me}{us vs:List Nat}{de:aO}{env:En}(q:bW R m (us++vs) de env):bW R m us de env:=q.sub λ_ h=>QS _ h
def bW.right{R:Nat->Prop}{m:Me}{us vs:List Nat}{de:aO}{env:En}(q:bW R m (us++vs) de env):bW R m vs de env:=q.sub λ_ h=>Qs _ h
def bW.push{R:Nat->Prop}{m:Me}{vs:List Nat}{de:aO}{env:En}{d:Dat}{w:Wd}(q:bW R m vs de env)(h:aj R m d w):bW R m vs (de++[some d]) (env++[some w]):=by
 refine⟨by simp[q.1],λi hi e z=>?_⟩;rw[List.getElem?_append]at z;split at z
 .next k=>
  obtain⟨w,a,b⟩:=q.2 i hi e z;exact⟨w,by rw[Qg (by rw[<-q.1];exact k)];exact a,b⟩
 .next k=>
  rw[Qi (by rw[<-q.1];lia),<-q.1];have:i-de.length=0:=by
   rcases Nat.eq_zero_or_pos (i-de.length)with z0|z0
   .exact z0
   .rw[Qn (by simp;lia)]at z;cases z
  rw[this]at z ⊢;cases z;exact⟨w,rfl,h⟩
def bG(cl:Nat->List Wd->Me->Rz)(cd:Nat->List Dat->Rd):Prop:=∀(k:Nat) (ds:List Dat) (ws:List Wd) (R:Nat->Prop) (m:Me),ae R m ds ws->ag R m (cl k ws m) (cd k ds)
def yT (h:aj R m d w):ae R m (zY d) (zn w):=by
 cases d with
 |tup ds=>obtain⟨xs,rfl,q⟩:=ai.mp h;exact q
 |non=>rw[aq.mp h];exact .nil
 |bl _=>rw[ah.mp h];exact .nil
 |int _=>rw[aa.mp h];exact .nil
 |str _=>rw[aB.mp h];exact .nil
 |scr _=>rw[bb.mp h];exact .nil
 |lst _=>obtain⟨l,xs,rfl,_⟩:=aC.mp h;exact .nil
 |dct _ _=>obtain⟨l,xs,rfl,_⟩:=bo.mp h;exact .nil
theorem zi (H:bG cl cd):∀(e:Ex) (R:Nat->Prop) (m:Me) (de:aO) (env:En),bW R m (zu e) de env->ag R m (af cl e env m) (ak cd e de)
 |.var i,R,m,de,env,q=>by
  cases z:de[i]? with
  |none=>rw[xH (.inl z)];exact ag.no
  |some o=>
   cases o with
   |none=>rw[xH (.inr z)];exact ag.no
   |some d=>
    obtain⟨w,a,b⟩:=q.2 i (QP.mpr rfl) d z;rw[xF z,j6 a];exact dQ b
 |.lit w,R,m,de,env,q=>by
  cases w<;>first|exact ag.no|(exact dQ (by unfold aj;rfl))
 |.bin op a b,R,m,de,env,q=>by
  refine(zi H a R m de env q.left).bind λd w m1 l1 k1=>?_;refine(zi H b _ m1 de env (q.right.up (λ_=>.inl) l1)).bind λd2 w2 m2 l2 k2=>?_;exact qI op (k1.up _ l2) k2
 |.neg a,R,m,de,env,q=>by
  refine(zi H a R m de env q).bind λd w m1 l1 k1=>?_;cases d with
  |int i=>rw[aa.mp k1];exact ag.int
  |_=>exact ag.no
 |.not a,R,m,de,env,q=>by
  refine(zi H a R m de env q).bind λd w m1 l1 k1=>?_;cases d with
  |bl i=>rw[ah.mp k1];exact ag.bl
  |_=>exact ag.no
 |.and a b,R,m,de,env,q=>by
  refine(zi H a R m de env q.left).bind λd w m1 l1 k1=>?_;cases d with
  |bl i=>
   rw[ah.mp k1];cases i with
   |true=>exact zi H b _ m1 de env (q.right.up (λ_=>.inl) l1)
   |false=>exact ag.bl
  |_=>exact ag.no
 |.or a b,R,m,de,env,q=>by
  refine(zi H a R m de env q.left).bind λd w m1 l1 k1=>?_;cases d with
  |bl i=>
   rw[ah.mp k1];cases i with
   |false=>exact zi H b _ m1 de env (q.right.up (λ_=>.inl) l1)
   |true=>exact ag.bl
  |_=>exact ag.no
 |.cmp op a b,R,m,de,env,q=>by
  refine(zi H a R m de env q.left).bind λd w m1 l1 k1=>?_;refine(zi H b _ m1 de env (q.right.up (λ_=>.inl) l1)).bind λd2 w2 m2 l2 k2=>?_;exact qK op (k1.up _ l2) k2
 |.chain o p a b c,R,m,de,env,q=>by
  refine(zi H a R m de env q.left).bind λd w m1 l1 k1=>?_;refine(zi H b _ m1 de env (q.right.left.up (λ_=>.inl) l1)).bind λd2 w2 m2 l2 k2=>?_;refine(qK o (k1.up _ l2) k2).bind λd3 w3 m3 l3 k3=>?_;cases d3 with
  |bl i=>
   rw[ah.mp k3];cases i with
   |false=>exact ag.bl
   |true=>
    refine(zi H c _ m3 de env (q.right.right.up (λ_ h=>.inl (.inl (.inl h))) ((l1.trans l2).trans l3))).bind λd4 w4 m4 l4 k4=>?_;exact qK p ((k2.up _ l3).up _ l4) k4
  |_=>exact ag.no
 |.ife c a b,R,m,de,env,q=>by
  refine(zi H c R m de env q.left).bind λd w m1 l1 k1=>?_;cases d with
  |bl i=>
   rw[ah.mp k1];cases i with
   |true=>exact zi H a _ m1 de env (q.right.left.up (λ_=>.inl) l1)
   |false=>exact zi H b _ m1 de env (q.right.right.up (λ_=>.inl) l1)
  |_=>exact ag.no
 |.unit,R,m,de,env,q=>by
  exact dQ (ai.mpr ⟨[],rfl,.nil⟩)
 |.pair a b,R,m,de,env,q=>by
  refine(zi H a R m de env q.left).bind λd w m1 l1 k1=>?_;refine(zi H b _ m1 de env (q.right.up (λ_=>.inl) l1)).bind λd2 w2 m2 l2 k2=>?_;exact dQ (ai.mpr ⟨_,rfl,.cons (k1.up _ l2) (yT k2)⟩)
 |.call k a,R,m,de,env,q=>by
  refine(zi H a R m de env q).bind λd w m1 l1 k1=>?_;exact H k _ _ _ m1 (yT k1)
 |.blt b a,R,m,de,env,q=>by
  refine(zi H a R m de env q).bind λd w m1 l1 k1=>?_;exact El b (yT k1)
 |.isi t a,R,m,de,env,q=>by
  refine(zi H a R m de env q).bind λd w m1 l1 k1=>?_;exact Em t k1
 |.lst a,R,m,de,env,q=>by
  refine(zi H a R m de env q).bind λd w m1 l1 k1=>?_;exact ag.new (yT k1)
 |.tup a,R,m,de,env,q=>by
  refine(zi H a R m de env q).bind λd w m1 l1 k1=>?_;have k2:=yT k1;simp only[k2.len];split
  .exact dQ (ai.mpr ⟨_,rfl,k2⟩)
  .exact ag.no
 |.dict0,R,m,de,env,q=>by
  exact⟨_,_,rfl,Le.app m _,bo.mpr ⟨_,[],rfl,.inr (Qk _),by simp,.nil⟩⟩
 |.dget a b,R,m,de,env,q=>by
  refine(zi H a R m de env q.left).bind λd w m1 l1 k1=>?_;refine(zi H b _ m1 de env (q.right.up (λ_=>.inl) l1)).bind λd2 w2 m2 l2 k2=>?_;exact Ar (k1.up _ l2) k2
 |.idx a b,R,m,de,env,q=>by
  refine(zi H a R m de env q.left).bind λd w m1 l1 k1=>?_;refine(zi H b _ m1 de env (q.right.up (λ_=>.inl) l1)).bind λd2 w2 m2 l2 k2=>?_;exact Ek (k1.up _ l2) k2
 |.slB a b c,R,m,de,env,q=>by
  refine(zi H a R m de env q.left).bind λd w m1 l1 k1=>?_;refine(zi H b _ m1 de env (q.right.left.up (λ_=>.inl) l1)).bind λd2 w2 m2 l2 k2=>?_;cases d2 with
  |int i=>
   rw[aa.mp k2];refine(zi H c _ m2 de env (q.right.right.up (λ_ h=>.inl (.inl h)) (l1.trans l2))).bind λd3 w3 m3 l3 k3=>?_;cases d3 with
   |int j=>rw[aa.mp k3];exact DG _ _ ((k1.up _ l2).up _ l3)
   |_=>exact ag.no
  |_=>exact ag.no
 |.meth _ _ _,R,m,de,env,q=>by
  exact ag.no
 |.rng a b c,R,m,de,env,q=>by
  refine(zi H a R m de env q.left).bind λd w m1 l1 k1=>?_;refine(zi H b _ m1 de env (q.right.left.up (λ_=>.inl) l1)).bind λd2 w2 m2 l2 k2=>?_;refine(zi H c _ m2 de env (q.right.right.up (λ_ h=>.inl (.inl h)) (l1.trans l2))).bind λd3 w3 m3 l3 k3=>?_;exact Ej ((k1.up _ l2).up _ l3) (k2.up _ l3) k3
 |.lrng a,R,m,de,env,q=>by
  refine(zi H a R m de env q).bind λd w m1 l1 k1=>?_;cases d with
  |int j=>
   rw[aa.mp k1];simp only;split
   .exact ag.new (kB 1 _ 0)
   .exact ag.no
  |_=>exact ag.no
 |.comp elt it cond,R,m,de,env,q=>by
  refine(zi H it R m de env q.left).bind λd w m1 l1 k1=>?_;have hc:∀(R':Nat->Prop) m' d x,(∀l,Rf R m.length l->R' l)->Le m1 m'->aj R' m' d x->ag R' m' (af cl cond (env++[some x]) m') (ak cd cond (de++[some d])):=
   λR' m' d x hR l k=>zi H cond R' m' _ _ ((q.right.right.up (λl h=>hR l (.inl h)) (l1.trans l)).push k)
  have he:∀(R':Nat->Prop) m' d x,(∀l,Rf R m.length l->R' l)->Le m1 m'->aj R' m' d x->ag R' m' (af cl elt (env++[some x]) m') (ak cd elt (de++[some d])):=
   λR' m' d x hR l k=>zi H elt R' m' _ _ ((q.right.left.up (λl h=>hR l (.inl h)) (l1.trans l)).push k)
  cases d with
  |tup ds=>
   obtain⟨xs,rfl,k2⟩:=ai.mp k1;exact vA hc he ds xs [] [] _ m1 (λ_ h=>h) (Le.refl _) k2 .nil
  |scr ns=>
   rw[bb.mp k1];exact vA hc he (ns.map .int) (ns.map .int) [] [] _ m1 (λ_ h=>h) (Le.refl _) (fu ns) .nil
  |lst ds=>
   obtain⟨l,xs,rfl,_,hm,k2⟩:=aC.mp k1;simp only[cQ];by_cases z:ds.length<=av
   .rw[Nj z];have hl:=k2.len;exact kW hm hc he ds 0 (av+1) [] [] _ m1 (λ_ h=>h) (Le.refl _) (by simpa using k2) (by lia) (by lia) .nil
   .rw[Nk z];exact ag.no
  |_=>exact ag.no
 |.compP k elt a b cond,R,m,de,env,q=>by
  refine(zi H a R m de env q.left).bind λd w m1 l1 k1=>?_;refine(zi H b _ m1 de env (q.right.left.up (λl h=>.inl h) l1)).bind λd' w' m2 l2 k2=>?_;have hc:∀(R':Nat->Prop) m' (p:Dat×Dat) x y,(∀l,Rf (Rf R m.length) m1.length l->R' l)->Le m2 m'->aj R' m' p.1 x->aj R' m' p.2 y->ag R' m' (af cl cond (env++[some x]++[some y]) m') (ak cd cond (de++[some p.1]++[some p.2])):=
   λR' m' d x y hR l k k'=>zi H cond R' m' _ _ (((q.right.right.right.up (λl h=>hR l (.inl (.inl h))) ((l1.trans l2).trans l)).push k).push k')
  have he:∀(R':Nat->Prop) m' (p:Dat×Dat) x y,(∀l,Rf (Rf R m.length) m1.length l->R' l)->Le m2 m'->aj R' m' p.1 x->aj R' m' p.2 y->ag R' m' (af cl elt (env++[some x]++[some y]) m') (ak cd elt (de++[some p.1]++[some p.2])):=
   λR' m' d x y hR l k k'=>zi H elt R' m' _ _ (((q.right.right.left.up (λl h=>hR l (.inl (.inl h))) ((l1.trans l2).trans l)).push k).push k')
  cases e:xi k d d' with
  |none=>exact ag.no
  |some ps=>
   obtain⟨pr,hl⟩:=g8 e (k1.up _ l2) k2;exact kX pr hc he ps 0 (av+1) [] [] _ m2 (λ_ h=>h) (Le.refl _) (by simp) (by simp) (by lia) .nil
mutual
def bn(m:Me):Dat->Wd->List Nat->Prop
 |.non,w,A=>w=.non/\A=[]
 |.bl b,w,A=>w=.bl b/\A=[]
 |.int i,w,A=>w=.int i/\A=[]
 |.str s,w,A=>w=.str s/\A=[]
 |.scr ns,w,A=>w=.rol (ns.map Wd.int)/\A=[]
 |.tup ds,w,A=>∃xs,w=.tup xs/\aA m ds xs A
 |.lst ds,w,A=>∃l xs B,w=.ref l/\A=l::B/\m[l]?=some (.lst xs)/\aA m ds xs B
 |.dct ks ds,w,A=>∃l xs B,w=.ref l/\A=l::B/\m[l]?=some (.dct ks xs)/\aA m ds xs B
def aA(m:Me):List Dat->List Wd->List Nat->Prop
 |[],xs,A=>xs=[]/\A=[]
 |d::ds,xs,A=>∃x r B C,xs=x::r/\A=B++C/\bn m d x B/\aA m ds r C
end
def bD:bn m (.lst ds) w A↔∃l xs B,w=.ref l/\A=l::B/\m[l]?=some (.lst xs)/\aA m ds xs B:=by
 constructor
 .intro h;unfold bn at h;exact h
 .intro h;unfold bn;exact h
def bY:bn m (.dct ks ds) w A↔∃l xs B,w=.ref l/\A=l::B/\m[l]?=some (.dct ks xs)/\aA m ds xs B:=by
 constructor
 .intro h;unfold bn at h;exact h
 .intro h;unfold bn;exact h
def bK:bn m (.tup ds) w A↔∃xs,w=.tup xs/\aA m ds xs A:=by
 constructor
 .intro h;unfold bn at h;exact h
 .intro h;unfold bn;exact h
def aA.cons_inv (h:aA m (d::ds) xs A):∃x r B C,xs=x::r/\A=B++C/\bn m d x B/\aA m ds r C:=by unfold aA at h;exact h
def aA.nil_inv (h:aA m [] xs A):xs=[]/\A=[]:=by unfold aA at h;exact h
def aA.nil{m:Me}:aA m [] [] []:=by unfold aA;exact⟨rfl,rfl⟩
def aA.cons{m:Me}{d:Dat}{ds:List Dat}{x:Wd}{xs:List Wd}{B C:List Nat}(a:bn m d x B)(b:aA m ds xs C):aA m (d::ds) (x::xs) (B++C):=by
 unfold aA;exact⟨x,xs,B,C,rfl,rfl,a,b⟩
theorem aA.app:∀{ds es:List Dat}{xs ys:List Wd}{A B:List Nat},aA m ds xs A->aA m es ys B->aA m (ds++es) (xs++ys) (A++B)
 |[],es,xs,ys,A,B,a,b=>by rw[a.nil_inv.1,a.nil_inv.2];exact b
 |d::ds,es,xs,ys,A,B,a,b=>by
  obtain⟨x,r,P,Q,rfl,rfl,p,q⟩:=a.cons_inv;rw[Wm];exact .cons p (aA.app q b)
mutual
theorem bn.frame{m m':Me}:∀(d:Dat) (w:Wd) (A:List Nat),(∀l∈A,∀o,m[l]?=some o->m'[l]?=some o)->bn m d w A->bn m' d w A
 |.non,w,A,h,q=>by unfold bn at q ⊢;exact q
 |.bl _,w,A,h,q=>by unfold bn at q ⊢;exact q
 |.int _,w,A,h,q=>by unfold bn at q ⊢;exact q
 |.str _,w,A,h,q=>by unfold bn at q ⊢;exact q
 |.scr _,w,A,h,q=>by unfold bn at q ⊢;exact q
 |.tup ds,w,A,h,q=>by
  obtain⟨xs,rfl,q1⟩:=bK.mp q;exact bK.mpr ⟨xs,rfl,aA.frame ds xs A h q1⟩
 |.lst ds,w,A,h,q=>by
  obtain⟨l,xs,B,rfl,rfl,hm,q1⟩:=bD.mp q;exact bD.mpr ⟨l,xs,B,rfl,rfl,h l QF _ hm,aA.frame ds xs B (λl hl=>h l (Qh _ hl)) q1⟩
 |.dct ks ds,w,A,h,q=>by
  obtain⟨l,xs,B,rfl,rfl,hm,q1⟩:=bY.mp q;exact bY.mpr ⟨l,xs,B,rfl,rfl,h l QF _ hm,aA.frame ds xs B (λl hl=>h l (Qh _ hl)) q1⟩
theorem aA.frame{m m':Me}:∀(ds:List Dat) (xs:List Wd) (A:List Nat),(∀l∈A,∀o,m[l]?=some o->m'[l]?=some o)->aA m ds xs A->aA m' ds xs A
 |[],xs,A,h,q=>by rw[q.nil_inv.1,q.nil_inv.2];exact .nil
 |d::ds,xs,A,h,q=>by
  obtain⟨x,r,B,C,rfl,rfl,a,b⟩:=q.cons_inv;exact .cons (bn.frame d x B (λl hl=>h l (QS _ hl)) a) (aA.frame ds r C (λl hl=>h l (Qs _ hl)) b)
end
mutual
theorem bn.rep{m:Me}{R:Nat->Prop}:∀(d:Dat) (w:Wd) (A:List Nat),(∀l∈A,R l)->bn m d w A->aj R m d w
 |.non,w,A,h,q=>by unfold bn at q;exact aq.mpr q.1
 |.bl _,w,A,h,q=>by unfold bn at q;exact ah.mpr q.1
 |.int _,w,A,h,q=>by unfold bn at q;exact aa.mpr q.1
 |.str _,w,A,h,q=>by unfold bn at q;exact aB.mpr q.1
 |.scr _,w,A,h,q=>by unfold bn at q;exact bb.mpr q.1
 |.tup ds,w,A,h,q=>by
  obtain⟨xs,rfl,q1⟩:=bK.mp q;exact ai.mpr ⟨xs,rfl,aA.rep ds xs A h q1⟩
 |.lst ds,w,A,h,q=>by
  obtain⟨l,xs,B,rfl,rfl,hm,q1⟩:=bD.mp q;exact aC.mpr ⟨l,xs,rfl,h l QF,hm,aA.rep ds xs B (λl hl=>h l (Qh _ hl)) q1⟩
 |.dct ks ds,w,A,h,q=>by
  obtain⟨l,xs,B,rfl,rfl,hm,q1⟩:=bY.mp q;exact bo.mpr ⟨l,xs,rfl,h l QF,hm,aA.rep ds xs B (λl hl=>h l (Qh _ hl)) q1⟩
theorem aA.rep{m:Me}{R:Nat->Prop}:∀(ds:List Dat) (xs:List Wd) (A:List Nat),(∀l∈A,R l)->aA m ds xs A->ae R m ds xs
 |[],xs,A,h,q=>by rw[q.nil_inv.1];exact .nil
 |d::ds,xs,A,h,q=>by
  obtain⟨x,r,B,C,rfl,rfl,a,b⟩:=q.cons_inv;exact .cons (bn.rep d x B (λl hl=>h l (QS _ hl)) a) (aA.rep ds r C (λl hl=>h l (Qs _ hl)) b)
end
mutual
theorem bn.lt{m:Me}:∀(d:Dat) (w:Wd) (A:List Nat),bn m d w A->∀l∈A,l<m.length
 |.non,w,A,q=>by unfold bn at q;rw[q.2];simp
 |.bl _,w,A,q=>by unfold bn at q;rw[q.2];simp
 |.int _,w,A,q=>by unfold bn at q;rw[q.2];simp
 |.str _,w,A,q=>by unfold bn at q;rw[q.2];simp
 |.scr _,w,A,q=>by unfold bn at q;rw[q.2];simp
 |.tup ds,w,A,q=>by
  obtain⟨xs,rfl,q1⟩:=bK.mp q;exact aA.lt ds xs A q1
 |.lst ds,w,A,q=>by
  obtain⟨l,xs,B,rfl,rfl,hm,q1⟩:=bD.mp q;intro k hk;rcases Qo.mp hk with rfl|hk
  .exact (Qa.mp hm).1
  .exact aA.lt ds xs B q1 k hk
 |.dct ks ds,w,A,q=>by
  obtain⟨l,xs,B,rfl,rfl,hm,q1⟩:=bY.mp q;intro k hk;rcases Qo.mp hk with rfl|hk
  .exact (Qa.mp hm).1
  .exact aA.lt ds xs B q1 k hk
theorem aA.lt{m:Me}:∀(ds:List Dat) (xs:List Wd) (A:List Nat),aA m ds xs A->∀l∈A,l<m.length
 |[],xs,A,q=>by rw[q.nil_inv.2];simp
 |d::ds,xs,A,q=>by
  obtain⟨x,r,B,C,rfl,rfl,a,b⟩:=q.cons_inv;intro k hk;rcases QL.mp hk with hk|hk
  .exact bn.lt d x B a k hk
  .exact aA.lt ds r C b k hk
end
mutual
theorem aj.flat{R:Nat->Prop}{m m':Me}:∀(d:Dat) (w:Wd),ax d=true->aj R m d w->bn m' d w []
 |.non,w,h,q=>by unfold bn;exact⟨aq.mp q,rfl⟩
 |.bl _,w,h,q=>by unfold bn;exact⟨ah.mp q,rfl⟩
 |.int _,w,h,q=>by unfold bn;exact⟨aa.mp q,rfl⟩
 |.str _,w,h,q=>by unfold bn;exact⟨aB.mp q,rfl⟩
 |.scr _,w,h,q=>by unfold bn;exact⟨bb.mp q,rfl⟩
 |.tup ds,w,h,q=>by
  obtain⟨xs,rfl,q1⟩:=ai.mp q;exact bK.mpr ⟨xs,rfl,ae.flat ds xs (by unfold Vl.ax at h;exact h) q1⟩
 |.lst ds,w,h,q=>by unfold Vl.ax at h;cases h
 |.dct ks ds,w,h,q=>by unfold Vl.ax at h;cases h
theorem ae.flat{R:Nat->Prop}{m m':Me}:∀(ds:List Dat) (xs:List Wd),aY ds=true->ae R m ds xs->aA m' ds xs []
 |[],xs,h,q=>by rw[q.nil_inv];exact .nil
 |d::ds,xs,h,q=>by
  obtain⟨x,r,rfl,a,b⟩:=q.cons_inv;unfold aY at h;rw[Qr]at h;exact aA.cons (B:=[]) (C:=[]) (aj.flat d x h.1 a) (ae.flat ds r h.2 b)
end
def bx(R:Nat->Prop)(m:Me)(lv:Lv)(d:Dat)(w:Wd)(A:List Nat):Prop:=match lv with
 |.no=>aj R m d w/\A=[]
 |.top=>∃ds l xs,d=.lst ds/\w=.ref l/\A=[l]/\m[l]?=some (.lst xs)/\ae R m ds xs
 |.full=>bn m d w A
theorem bx.rep (h:∀l,R l->R' l)(k:∀l∈A,R' l)(q:bx R m lv d w A):aj R' m d w:=by
 cases lv with
 |no=>exact aj.frame (λl o r z=>⟨h l r,z⟩) d w q.1
 |top=>
  obtain⟨ds,l,xs,rfl,rfl,rfl,hm,a⟩:=q;exact aC.mpr ⟨l,xs,rfl,k l (by simp),hm,ae.frame (λl o r z=>⟨h l r,z⟩) ds xs a⟩
 |full=>exact bn.rep d w A k q
theorem bx.frame{R R':Nat->Prop}{m m':Me}{lv:Lv}{d:Dat}{w:Wd}{A:List Nat}(h:∀(l:Nat) o,R l->m[l]?=some o->R' l/\m'[l]?=some o)(k:∀l∈A,∀o,m[l]?=some o->m'[l]?=some o)(q:bx R m lv d w A):bx R' m' lv d w A:=by
 cases lv with
 |no=>exact⟨aj.frame h d w q.1,q.2⟩
 |top=>
  obtain⟨ds,l,xs,rfl,rfl,rfl,hm,a⟩:=q;exact⟨ds,l,xs,rfl,rfl,rfl,k l (by simp) _ hm,ae.frame h ds xs a⟩
 |full=>exact bn.frame d w A k q
theorem bx.lt (q:bx R m lv d w A):∀l∈A,l<m.length:=by
 cases lv with
 |no=>rw[q.2];simp
 |top=>
  obtain⟨ds,l,xs,rfl,rfl,rfl,hm,a⟩:=q;intro k hk;rw[QP.mp hk];exact(Qa.mp hm).1
 |full=>exact bn.lt d w A q
def aU(lev:Nat->Lv):Ex->Dat->Lv
 |.comp elt _ _,d=>if ax d then .full else match d with
  |.lst ds=>if ds.all (λx=>aU lev elt x == .full)then .full else .top
  |_=>.no
 |.compP _ elt _ _ _,d=>if ax d then .full else match d with
  |.lst ds=>if ds.all (λx=>aU lev elt x == .full)then .full else .top
  |_=>.no
 |.lst a,d=>if ax d then .full else match d with
  |.lst ds=>if aU lev a (.tup ds) == .full then .full else .top
  |_=>.no
 |.tup a,d=>aU lev a d
 |.pair a b,d=>if ax d then .full else match d with
  |.tup (x::ds)=>if aU lev a x == .full&&aU lev b (.tup ds) == .full then .full else .no
  |_=>.no
 |.call k _,d=>if ax d then .full else lev k
 |.blt .list _,d=>if ax d then .full else match d with
  |.lst ds=>if aY ds then .full else .top
  |_=>.no
 |.lrng _,d=>if ax d then .full else match d with
  |.lst ds=>if aY ds then .full else .top
  |_=>.no
 |.slB _ _ _,d=>if ax d then .full else match d with
  |.lst ds=>if aY ds then .full else .top
  |_=>.no
 |.bin _ _ _,d=>if ax d then .full else match d with
  |.lst ds=>if aY ds then .full else .top
  |_=>.no
 |.dict0,d=>if ax d then .full else match d with
  |.dct _ []=>.full
  |_=>.no
 |_,d=>if ax d then .full else .no
@[simp]theorem Lj(lev:Nat->Lv)(d:Dat):aU lev .dict0 d=if ax d then .full else match d with
  |.dct _ []=>.full
  |_=>.no:=rfl
@[simp]theorem KH(lev:Nat->Lv)(a b:Ex)(d:Dat):aU lev (.dget a b) d=if ax d then .full else .no:=rfl
@[simp]theorem vB(lev:Nat->Lv)(e i c:Ex)(d:Dat):aU lev (.comp e i c) d=if ax d then .full else match d with
  |.lst ds=>if ds.all (λx=>aU lev e x == .full)then .full else .top
  |_=>.no:=rfl
@[simp]theorem xI(lev:Nat->Lv)(k:Kd)(e a b c:Ex)(d:Dat):aU lev (.compP k e a b c) d=if ax d then .full else match d with
  |.lst ds=>if ds.all (λx=>aU lev e x == .full)then .full else .top
  |_=>.no:=rfl
@[simp]theorem Ko(lev:Nat->Lv)(a:Ex)(d:Dat):aU lev (.lst a) d=if ax d then .full else match d with
  |.lst ds=>if aU lev a (.tup ds) == .full then .full else .top
  |_=>.no:=rfl
@[simp]theorem Kn(lev:Nat->Lv)(a:Ex)(d:Dat):aU lev (.tup a) d=aU lev a d:=rfl
@[simp]theorem uB(lev:Nat->Lv)(a b:Ex)(d:Dat):aU lev (.pair a b) d=if ax d then .full else match d with
  |.tup (x::ds)=>if aU lev a x == .full&&aU lev b (.tup ds) == .full then .full else .no
  |_=>.no:=rfl
@[simp]theorem kC(lev:Nat->Lv)(k:Nat)(a:Ex)(d:Dat):aU lev (.call k a) d=if ax d then .full else lev k:=rfl
@[simp]theorem KG(lev:Nat->Lv)(a:Ex)(d:Dat):aU lev (.blt .list a) d=if ax d then .full else match d with
  |.lst ds=>if aY ds then .full else .top
  |_=>.no:=rfl
@[simp]theorem KD(lev:Nat->Lv)(a:Ex)(d:Dat):aU lev (.lrng a) d=if ax d then .full else match d with
  |.lst ds=>if aY ds then .full else .top
  |_=>.no:=rfl
@[simp]theorem Km(lev:Nat->Lv)(a b c:Ex)(d:Dat):aU lev (.slB a b c) d=if ax d then .full else match d with
  |.lst ds=>if aY ds then .full else .top
  |_=>.no:=rfl
@[simp]theorem Kl(lev:Nat->Lv)(op:Bo)(a b:Ex)(d:Dat):aU lev (.bin op a b) d=if ax d then .full else match d with
  |.lst ds=>if aY ds then .full else .top
  |_=>.no:=rfl
@[simp]theorem Kk(lev:Nat->Lv)(i:Nat)(d:Dat):aU lev (.var i) d=if ax d then .full else .no:=rfl
@[simp]theorem Kj(lev:Nat->Lv)(w:Wd)(d:Dat):aU lev (.lit w) d=if ax d then .full else .no:=rfl
@[simp]theorem Ki(lev:Nat->Lv)(a b:Ex)(d:Dat):aU lev (.idx a b) d=if ax d then .full else .no:=rfl
@[simp]theorem Kh(lev:Nat->Lv)(a:Ex)(d:Dat):aU lev (.neg a) d=if ax d then .full else .no:=rfl
@[simp]theorem Kg(lev:Nat->Lv)(a:Ex)(d:Dat):aU lev (.not a) d=if ax d then .full else .no:=rfl
@[simp]theorem Kf(lev:Nat->Lv)(a b:Ex)(d:Dat):aU lev (.and a b) d=if ax d then .full else .no:=rfl
@[simp]theorem Ay(lev:Nat->Lv)(a b:Ex)(d:Dat):aU lev (.or a b) d=if ax d then .full else .no:=rfl
@[simp]theorem KY(lev:Nat->Lv)(op:Co)(a b:Ex)(d:Dat):aU lev (.cmp op a b) d=if ax d then .full else .no:=rfl
@[simp]theorem KW(lev:Nat->Lv)(c a b:Ex)(d:Dat):aU lev (.ife c a b) d=if ax d then .full else .no:=rfl
@[simp]theorem KC(lev:Nat->Lv)(d:Dat):aU lev (.unit) d=if ax d then .full else .no:=rfl
@[simp]theorem KU(lev:Nat->Lv)(t:Tg)(a:Ex)(d:Dat):aU lev (.isi t a) d=if ax d then .full else .no:=rfl
@[simp]theorem KS(lev:Nat->Lv)(a b c:Ex)(d:Dat):aU lev (.rng a b c) d=if ax d then .full else .no:=rfl
@[simp]theorem KB(lev:Nat->Lv)(a:Ex)(d:Dat):aU lev (.blt .len a) d=if ax d then .full else .no:=rfl
@[simp]theorem KA(lev:Nat->Lv)(a:Ex)(d:Dat):aU lev (.blt .int a) d=if ax d then .full else .no:=rfl
@[simp]theorem Kz(lev:Nat->Lv)(a:Ex)(d:Dat):aU lev (.blt .all a) d=if ax d then .full else .no:=rfl
@[simp]theorem Li(lev:Nat->Lv)(a:Ex)(d:Dat):aU lev (.blt .min2 a) d=if ax d then .full else .no:=rfl
@[simp]theorem Lh(lev:Nat->Lv)(a:Ex)(d:Dat):aU lev (.blt .max2 a) d=if ax d then .full else .no:=rfl
def aN(R:Nat->Prop)(m:Me)(lv:Dat->Lv)(r:Rz)(rd:Rd):Prop:=match rd with
 |.ok d=>∃w m' A,r=.ok w m'/\Le m m'/\bx (λl=>Rf R m.length l/\l∉A) m' (lv d) d w A/\A.Nodup/\∀a∈A,m.length<=a
 |.exc c d=>∃w m',r=.exc c w m'/\Le m m'/\aj (Rf R m.length) m' d w
 |.no=>True
def vg(lev:Nat->Lv)(k:Nat)(d:Dat):Lv:=if ax d then .full else lev k
def bM(lev:Nat->Lv)(cl:Nat->List Wd->Me->Rz)(cd:Nat->List Dat->Rd):Prop:=∀(k:Nat) (ds:List Dat) (ws:List Wd) (R:Nat->Prop) (m:Me),ae R m ds ws->aN R m (vg lev k) (cl k ws m) (cd k ds)
def aN.sim (h:aN R m lv r rd):ag R m r rd:=by
 cases rd with
 |ok d=>
  obtain⟨w,m',A,rfl,l,q,_,hA⟩:=h;exact⟨w,m',rfl,l,q.rep (λ_ z=>z.1) (λa z=>.inr (hA a z))⟩
 |exc c d=>exact h
 |no=>trivial
def bM.r (H:bM lev cl cd):bG cl cd:=λk ds ws R m q=>(H k ds ws R m q).sim
def ag.own (h:ag R m r rd)(hl:∀d,lv d=if ax d then .full else .no):aN R m lv r rd:=by
 cases rd with
 |ok d=>
  obtain⟨w,m',rfl,l,q⟩:=h;refine⟨w,m',[],rfl,l,?_,QB,by simp⟩;rw[hl];split
  .next z=>exact q.flat d w z
  .exact ⟨aj.frame (λl o r z=>⟨⟨r,by simp⟩,z⟩) d w q,rfl⟩
 |exc c d=>exact h
 |no=>trivial
theorem aN.lift{R:Nat->Prop}{m m1:Me}{r:Rz}{rd:Rd}{lv:Dat->Lv}(h:Le m m1)(q:aN (Rf R m.length) m1 lv r rd):aN R m lv r rd:=by
 have hl:=h.len;cases rd with
 |ok d=>
  obtain⟨w,m',A,rfl,k,z,nd,hA⟩:=q;exact⟨w,m',A,rfl,h.trans k,z.frame (λl o r z=>⟨⟨by rcases r.1 with (r|r)|r;exact .inl r;exact .inr r;exact .inr (by lia),r.2⟩,z⟩) (λ_ _ _ z=>z),nd,λa ha=>by have:=hA a ha;lia⟩
 |exc c d=>exact ag.lift (rd:=.exc c d) h q
 |no=>trivial
def ag.bindO (h:ag R m r rd)(k:∀d w m',Le m m'->aj (Rf R m.length) m' d w->aN (Rf R m.length) m' lv (f w m') (g d)):aN R m lv (r.bind f) (rd.bind g):=by
 cases rd with
 |ok d=>obtain⟨w,m',rfl,l,z⟩:=h;exact aN.lift l (k d w m' l z)
 |exc c d=>obtain⟨w,m',rfl,l,z⟩:=h;exact⟨w,m',rfl,l,z⟩
 |no=>trivial
theorem aN.no{R:Nat->Prop}{m:Me}{r:Rz}{lv:Dat->Lv}:aN R m lv r .no:=trivial
def aN.new{R:Nat->Prop}{m:Me}{ds:List Dat}{xs:List Wd}{lv:Dat->Lv}(h:ae R m ds xs)(hl:∀es,lv (.lst es)=if aY es then .full else .top):aN R m lv (alloc m xs) (bp ds):=by
 unfold bp alloc;rw[h.len];by_cases z:xs.length<=av
 .rw[Nj z,Nj z];refine⟨_,_,[m.length],rfl,Le.app m _,?_,by simp,by simp⟩;rw[hl];split
  .next f=>exact bD.mpr ⟨_,xs,[],rfl,rfl,by simp,h.flat ds xs f⟩
  .refine ⟨ds,_,xs,rfl,rfl,rfl,by simp,ae.frame (λl o r z=>⟨⟨.inl r,?_⟩,Le.app m _ l o z⟩) ds xs h⟩;have:=(Qa.mp z).1;simp;lia
 .rw[Nk z,Nk z];exact aN.no
def pS (hm:Le m0 m)(h:aA m ds xs A)(nd:A.Nodup)(hA:∀a∈A,m0.length<=a)(hl:lv (.lst ds)=.full)(hlen:ds.length=xs.length):aN R m0 lv (alloc m xs) (bp ds):=by
 unfold bp alloc;rw[hlen];have hlt:=h.lt;by_cases z:xs.length<=av
 .rw[Nj z,Nj z];refine⟨_,_,m.length::A,rfl,hm.trans (Le.app m _),?_,QI.mpr ⟨λq=>by have:=hlt _ q;lia,nd⟩,?_⟩
  .rw[hl];exact bD.mpr ⟨_,xs,A,rfl,rfl,by simp,aA.frame ds xs A (λl hl o q=>Le.app m _ l o q) h⟩
  .intro a ha;rcases Qo.mp ha with rfl|ha
   .exact hm.len
   .exact hA a ha
 .rw[Nk z,Nk z];exact aN.no
theorem aA.len:∀{ds:List Dat}{xs:List Wd}{A:List Nat},aA m ds xs A->ds.length=xs.length
 |[],xs,A,q=>by rw[q.nil_inv.1];rfl
 |d::ds,xs,A,q=>by
  obtain⟨x,r,B,C,rfl,rfl,a,b⟩:=q.cons_inv;simp[aA.len b]
def dD(R:Nat->Prop)(m:Me)(lv:Dat->Lv)(r:Rz)(rd:Rd):Prop:=match rd with
 |.ok d=>∃out m2 outx,d=.lst out/\out.length<=av/\r=alloc m2 outx/\Le m m2/\ae (Rf R m.length) m2 out outx/\((∀y∈out,lv y=.full)->∃A,aA m2 out outx A/\A.Nodup/\∀a∈A,m.length<=a)
 |.exc c d=>∃w m',r=.exc c w m'/\Le m m'/\aj (Rf R m.length) m' d w
 |.no=>True
def cV(m0 m:Me)(lv:Dat->Lv)(acc:List Dat)(acx:List Wd):Prop:=(∀y∈acc,lv y=.full)->∃A,aA m acc acx A/\A.Nodup/\∀a∈A,m0.length<=a
def cV.up{m0 m m':Me}{lv:Dat->Lv}{acc:List Dat}{acx:List Wd}(h:Le m m')(q:cV m0 m lv acc acx):cV m0 m' lv acc acx:=λz=>by
 obtain⟨A,a,b,c⟩:=q z;exact⟨A,aA.frame acc acx A (λl _ o k=>h l o k) a,b,c⟩
def cV.push{m0 m m':Me}{lv:Dat->Lv}{acc:List Dat}{acx:List Wd}{d:Dat}{w:Wd}{B:List Nat}(hm:Le m0 m)(h:Le m m')(q:cV m0 m lv acc acx)(z:lv d=.full->bn m' d w B)(nd:B.Nodup)(hB:∀b∈B,m.length<=b):cV m0 m' lv (acc++[d]) (acx++[w]):=λf=>by
 obtain⟨A,a,b,c⟩:=q λy hy=>f y (QS _ hy);refine⟨A++(B++[]),(aA.frame acc acx A (λl _ o k=>h l o k) a).app (.cons (z (f d (by simp))) .nil),?_,?_⟩
 .rw[QZ];refine Qz.mpr ⟨b,nd,λx hx y hy e=>?_⟩;have:=aA.lt acc acx A a x hx;have:=hB y hy;lia
 .intro x hx;rw[QZ]at hx;rcases QL.mp hx with hx|hx
  .exact c x hx
  .have:=hB x hx;have:=hm.len;lia
theorem vC (hc:∀(R':Nat->Prop) m d x,(∀l,R l->R' l)->Le m0 m->aj R' m d x->ag R' m (c x m) (cd d))(he:∀(R':Nat->Prop) m d x,(∀l,R l->R' l)->Le m0 m->aj R' m d x->aN R' m lv (e x m) (ed d)):
  ∀(ds:List Dat) (xs:List Wd) (acc:List Dat) (acx:List Wd) (m:Me),Le m0 m->ae (Rf R m0.length) m ds xs->ae (Rf R m0.length) m acc acx->cV m0 m lv acc acx->dD R m0 lv (xU c e xs acx m) (yi cd ed ds acc)
 |[],xs,acc,acx,m,hm,a,b,f=>by
  rw[a.nil_inv];unfold xU yi bp;by_cases z:acc.length<=av
  .rw[Nj z];exact⟨acc,m,acx,rfl,z,rfl,hm,b,f⟩
  .rw[Nk z];trivial
 |d::ds,xs,acc,acx,m,hm,a,b,f=>by
  obtain⟨x,r,rfl,p,q⟩:=a.cons_inv;have hl:=hm.len;have sh:∀{n:Nat}{m':Me}{d:Dat}{w:Wd},m0.length<=n->aj (Rf (Rf R m0.length) n) m' d w->aj (Rf R m0.length) m' d w:=λhn k=>aj.frame (λl o r z=>⟨by rcases r with (r|r)|r;exact .inl r;exact .inr r;exact .inr (by lia),z⟩) _ _ k;unfold xU yi;have h1:=hc _ m d x (λl z=>.inl z) hm p;cases e1:cd d with
  |no=>trivial
  |exc k t=>rw[e1]at h1;obtain⟨w,m',h1,l1,k1⟩:=h1;rw[h1];exact⟨w,m',rfl,hm.trans l1,sh hl k1⟩
  |ok t=>
   rw[e1]at h1;obtain⟨w,m1,h1,l1,k1⟩:=h1;rw[h1];simp only[Rz.bind,Rd.bind];cases t with
   |bl t=>
    rw[ah.mp k1];have fr:∀{ds:List Dat}{xs:List Wd},ae (Rf R m0.length) m ds xs->ae (Rf R m0.length) m1 ds xs:=λk=>ae.frame (λl o r z=>⟨r,l1 l o z⟩) _ _ k;cases t with
    |false=>exact vC hc he ds r acc acx m1 (hm.trans l1) (fr q) (fr b) (f.up l1)
    |true=>
     have h2:=he _ m1 d x (λl z=>.inl z) (hm.trans l1) (aj.frame (λl o r z=>⟨r,l1 l o z⟩) _ _ p);have hl1:=(hm.trans l1).len;simp only;cases e2:ed d with
     |no=>trivial
     |exc k t=>rw[e2]at h2;obtain⟨w,m',h2,l2,k2⟩:=h2;rw[h2];exact⟨w,m',rfl,(hm.trans l1).trans l2,sh hl1 k2⟩
     |ok y=>
      rw[e2]at h2;have h3:=h2.sim;obtain⟨w,m2,B,h2,l2,k2,nd,hB⟩:=h2;obtain⟨w',m2',h3,_,k3⟩:=h3;rw[h2]at h3 ⊢;cases h3;simp only[Rz.bind,Rd.bind,b.len];split
      .refine vC hc he ds r _ _ m2 ((hm.trans l1).trans l2) (ae.frame (λl o r z=>⟨r,l2 l o z⟩) _ _ (fr q)) ((ae.frame (λl o r z=>⟨r,l2 l o z⟩) _ _ (fr b)).app (.cons (sh hl1 k3) .nil)) ((f.up l1).push (hm.trans l1) l2 ?_ nd hB);intro z;rw[z]at k2;exact k2
      .trivial
   |_=>trivial
theorem kY (hx0:m0[l]?=some (.lst xs0))(hc:∀(R':Nat->Prop) m d x,(∀l,R l->R' l)->Le m0 m->aj R' m d x->ag R' m (c x m) (cd d))(he:∀(R':Nat->Prop) m d x,(∀l,R l->R' l)->Le m0 m->aj R' m d x->aN R' m lv (e x m) (ed d)):
  ∀(ds:List Dat) (i k:Nat) (acc:List Dat) (acx:List Wd) (m:Me),Le m0 m->ae (Rf R m0.length) m ds (xs0.drop i)->i+ds.length=xs0.length->ds.length<k->ae (Rf R m0.length) m acc acx->cV m0 m lv acc acx->dD R m0 lv (xW c e l k i acx m) (yi cd ed ds acc)
 |[],i,0,acc,acx,m,hm,a,hi,hk,b,f=>by simp at hk
 |d::ds,i,0,acc,acx,m,hm,a,hi,hk,b,f=>by simp at hk
 |[],i,k+1,acc,acx,m,hm,a,hi,hk,b,f=>by
  unfold xW yi zA bp;rw[hm l _ hx0];simp only;rw[Qn (by simp at hi;lia)];by_cases z:acc.length<=av
  .rw[Nj z];exact⟨acc,m,acx,rfl,z,rfl,hm,b,f⟩
  .rw[Nk z];trivial
 |d::ds,i,k+1,acc,acx,m,hm,a,hi,hk,b,f=>by
  obtain⟨x,r,e0,p,q⟩:=a.cons_inv;have hx:xs0[i]?=some x:=by
   have:(xs0.drop i)[0]?=some x:=by rw[e0];rfl
   simpa using this
  have hr:r=xs0.drop (i+1):=by
   have:(xs0.drop i).drop 1=r:=by rw[e0];rfl
   rw[<-this,WU]
  rw[hr]at q;have hi':i+1+ds.length=xs0.length:=by simp at hi;lia
  have hk':ds.length<k:=by simp at hk;lia
  have hl:=hm.len;have sh:∀{n:Nat}{m':Me}{d:Dat}{w:Wd},m0.length<=n->aj (Rf (Rf R m0.length) n) m' d w->aj (Rf R m0.length) m' d w:=λhn k=>aj.frame (λl o r z=>⟨by rcases r with (r|r)|r;exact .inl r;exact .inr r;exact .inr (by lia),z⟩) _ _ k;unfold xW yi zA;rw[hm l _ hx0];simp only;rw[hx];simp only;have h1:=hc _ m d x (λl z=>.inl z) hm p;cases e1:cd d with
  |no=>trivial
  |exc k t=>rw[e1]at h1;obtain⟨w,m',h1,l1,k1⟩:=h1;rw[h1];exact⟨w,m',rfl,hm.trans l1,sh hl k1⟩
  |ok t=>
   rw[e1]at h1;obtain⟨w,m1,h1,l1,k1⟩:=h1;rw[h1];simp only[Rz.bind,Rd.bind];cases t with
   |bl t=>
    rw[ah.mp k1];have fr:∀{ds:List Dat}{xs:List Wd},ae (Rf R m0.length) m ds xs->ae (Rf R m0.length) m1 ds xs:=λk=>ae.frame (λl o r z=>⟨r,l1 l o z⟩) _ _ k;cases t with
    |false=>exact kY hx0 hc he ds (i+1) k acc acx m1 (hm.trans l1) (fr q) hi' hk' (fr b) (f.up l1)
    |true=>
     have h2:=he _ m1 d x (λl z=>.inl z) (hm.trans l1) (aj.frame (λl o r z=>⟨r,l1 l o z⟩) _ _ p);have hl1:=(hm.trans l1).len;simp only;cases e2:ed d with
     |no=>trivial
     |exc k t=>rw[e2]at h2;obtain⟨w,m',h2,l2,k2⟩:=h2;rw[h2];exact⟨w,m',rfl,(hm.trans l1).trans l2,sh hl1 k2⟩
     |ok y=>
      rw[e2]at h2;have h3:=h2.sim;obtain⟨w,m2,B,h2,l2,k2,nd,hB⟩:=h2;obtain⟨w',m2',h3,_,k3⟩:=h3;rw[h2]at h3 ⊢;cases h3;simp only[Rz.bind,Rd.bind,b.len];split
      .refine kY hx0 hc he ds (i+1) k _ _ m2 ((hm.trans l1).trans l2) (ae.frame (λl o r z=>⟨r,l2 l o z⟩) _ _ (fr q)) hi' hk' ((ae.frame (λl o r z=>⟨r,l2 l o z⟩) _ _ (fr b)).app (.cons (sh hl1 k3) .nil)) ((f.up l1).push (hm.trans l1) l2 ?_ nd hB);intro z;rw[z]at k2;exact k2
      .trivial
   |_=>trivial
theorem kZ (hg:mT (Rf R m0.length) m0 ps g)(hc:∀(R':Nat->Prop) m p a b,(∀l,R l->R' l)->Le m0 m->aj R' m p.1 a->aj R' m p.2 b->ag R' m (c a b m) (cd p))(he:∀(R':Nat->Prop) m p a b,(∀l,R l->R' l)->Le m0 m->aj R' m p.1 a->aj R' m p.2 b->aN R' m lv (e a b m) (ed p)):
  ∀(ds:List (Dat×Dat)) (i k:Nat) (acc:List Dat) (acx:List Wd) (m:Me),Le m0 m->ds=ps.drop i->i+ds.length=ps.length->ds.length<k->ae (Rf R m0.length) m acc acx->cV m0 m lv acc acx->dD R m0 lv (yh c e g k i acx m) (yi cd ed ds acc)
 |[],i,0,acc,acx,m,hm,a,hi,hk,b,f=>by simp at hk
 |d::ds,i,0,acc,acx,m,hm,a,hi,hk,b,f=>by simp at hk
 |[],i,k+1,acc,acx,m,hm,a,hi,hk,b,f=>by
  unfold yh yi bp;rw[(hg m hm).2 i (by simp at hi;lia)];simp only;by_cases z:acc.length<=av
  .rw[Nj z];exact⟨acc,m,acx,rfl,z,rfl,hm,b,f⟩
  .rw[Nk z];trivial
 |d::ds,i,k+1,acc,acx,m,hm,a,hi,hk,b,f=>by
  have hx:ps[i]?=some d:=by
   have:(ps.drop i)[0]?=some d:=by rw[<-a];rfl
   simpa using this
  have hr:ds=ps.drop (i+1):=by
   have:(ps.drop i).drop 1=ds:=by rw[<-a];rfl
   rw[<-this,WU]
  have hi':i+1+ds.length=ps.length:=by simp at hi;lia
  have hk':ds.length<k:=by simp at hk;lia
  obtain⟨u,v,e0,p,q⟩:=(hg m hm).1 i d hx;have hl:=hm.len;have sh:∀{n:Nat}{m':Me}{d:Dat}{w:Wd},m0.length<=n->aj (Rf (Rf R m0.length) n) m' d w->aj (Rf R m0.length) m' d w:=λhn k=>aj.frame (λl o r z=>⟨by rcases r with (r|r)|r;exact .inl r;exact .inr r;exact .inr (by lia),z⟩) _ _ k;unfold yh yi;rw[e0];simp only;have h1:=hc _ m d u v (λl z=>.inl z) hm p q;cases e1:cd d with
  |no=>trivial
  |exc k t=>rw[e1]at h1;obtain⟨w,m',h1,l1,k1⟩:=h1;rw[h1];exact⟨w,m',rfl,hm.trans l1,sh hl k1⟩
  |ok t=>
   rw[e1]at h1;obtain⟨w,m1,h1,l1,k1⟩:=h1;rw[h1];simp only[Rz.bind,Rd.bind];cases t with
   |bl t=>
    rw[ah.mp k1];have fr:∀{ds:List Dat}{xs:List Wd},ae (Rf R m0.length) m ds xs->ae (Rf R m0.length) m1 ds xs:=λk=>ae.frame (λl o r z=>⟨r,l1 l o z⟩) _ _ k;cases t with
    |false=>exact kZ hg hc he ds (i+1) k acc acx m1 (hm.trans l1) hr hi' hk' (fr b) (f.up l1)
    |true=>
     have h2:=he _ m1 d u v (λl z=>.inl z) (hm.trans l1) (aj.frame (λl o r z=>⟨r,l1 l o z⟩) _ _ p) (aj.frame (λl o r z=>⟨r,l1 l o z⟩) _ _ q);have hl1:=(hm.trans l1).len;simp only;cases e2:ed d with
     |no=>trivial
     |exc k t=>rw[e2]at h2;obtain⟨w,m',h2,l2,k2⟩:=h2;rw[h2];exact⟨w,m',rfl,(hm.trans l1).trans l2,sh hl1 k2⟩
     |ok y=>
      rw[e2]at h2;have h3:=h2.sim;obtain⟨w,m2,B,h2,l2,k2,nd,hB⟩:=h2;obtain⟨w',m2',h3,_,k3⟩:=h3;rw[h2]at h3 ⊢;cases h3;simp only[Rz.bind,Rd.bind,b.len];split
      .refine kZ hg hc he ds (i+1) k _ _ m2 ((hm.trans l1).trans l2) hr hi' hk' ((ae.frame (λl o r z=>⟨r,l2 l o z⟩) _ _ (fr b)).app (.cons (sh hl1 k3) .nil)) ((f.up l1).push (hm.trans l1) l2 ?_ nd hB);intro z;rw[z]at k2;exact k2
      .trivial
   |_=>trivial
def dD.sim (h:dD R m lv r rd)(hl:∀ds,lw (.lst ds)=if ds.all (λx=>lv x == .full)then .full else .top):aN R m lw r rd:=by
 cases rd with
 |no=>trivial
 |exc c d=>exact h
 |ok d=>
  obtain⟨out,m2,outx,rfl,hlen,rfl,l2,k2,own⟩:=h;have e:=k2.len;cases z:out.all (λx=>lv x == .full)with
  |true=>
   obtain⟨A,a,b,c⟩:=own λy hy=>by simpa using Q6.mp z y hy
   have:=pS (R:=R) (lv:=lw) l2 a b c (by rw[hl,z];rfl) e;unfold bp at this;rw[Nj hlen]at this;exact this
  |false=>
   unfold alloc;rw[<-e,Nj hlen];have ll:=l2.len;refine⟨_,_,[m2.length],rfl,l2.trans (Le.app m2 _),?_,by simp,by simp;exact ll⟩;rw[hl,z];refine⟨out,_,outx,rfl,rfl,rfl,by simp,ae.frame (λl o r z=>⟨⟨r,?_⟩,Le.app m2 _ l o z⟩) out outx k2⟩;have:=(Qa.mp z).1;simp;lia
theorem yC(lev:Nat->Lv):∀(e:Ex) (d:Dat),ax d=true->aU lev e d=.full
 |.tup a,d,h=>yC lev a d h
 |.comp _ _ _,d,h=>Nj h
 |.compP _ _ _ _ _,d,h=>Nj h
 |.lst _,d,h=>Nj h
 |.pair _ _,d,h=>Nj h
 |.call _ _,d,h=>Nj h
 |.blt b _,d,h=>by cases b<;>exact Nj h
 |.lrng _,d,h=>Nj h
 |.slB _ _ _,d,h=>Nj h
 |.bin _ _ _,d,h=>Nj h
 |.var _,d,h=>Nj h
 |.lit _,d,h=>Nj h
 |.neg _,d,h=>Nj h
 |.not _,d,h=>Nj h
 |.and _ _,d,h=>Nj h
 |.or _ _,d,h=>Nj h
 |.cmp _ _ _,d,h=>Nj h
 |.chain _ _ _ _ _,d,h=>Nj h
 |.ife _ _ _,d,h=>Nj h
 |.unit,d,h=>Nj h
 |.isi _ _,d,h=>Nj h
 |.dict0,d,h=>Nj h
 |.dget _ _,d,h=>Nj h
 |.idx _ _,d,h=>Nj h
 |.meth _ _ _,d,h=>Nj h
 |.rng _ _ _,d,h=>Nj h
def aN.newTop{R:Nat->Prop}{m0 m:Me}{ds:List Dat}{xs:List Wd}{lv:Dat->Lv}(hm:Le m0 m)(h:ae (Rf R m0.length) m ds xs)(hl:lv (.lst ds)=.top):aN R m0 lv (alloc m xs) (bp ds):=by
 unfold bp alloc;rw[h.len];by_cases z:xs.length<=av
 .rw[Nj z,Nj z];refine⟨_,_,[m.length],rfl,hm.trans (Le.app m _),?_,by simp,by simp;exact hm.len⟩;rw[hl];refine⟨ds,_,xs,rfl,rfl,rfl,by simp,ae.frame (λl o r z=>⟨⟨r,?_⟩,Le.app m _ l o z⟩) ds xs h⟩;have:=(Qa.mp z).1;simp;lia
 .rw[Nk z,Nk z];exact aN.no
def Ei{R:Nat->Prop}{m:Me}{d e:Dat}{x y:Wd}{lv:Dat->Lv}(op:Bo)(hl:∀d,lv d=if ax d then .full else match d with |.lst ds=>if aY ds then .full else .top|_=>.no)(a:aj R m d x)(b:aj R m e y):aN R m lv (dh op x y m) (zJ op d e):=by
 have hn:∀es,lv (.lst es)=if aY es then .full else .top:=λes=>by rw[hl];simp[ax]
 have hs:=qI op a b;cases d with
 |lst ds=>
  obtain⟨l,xs,rfl,_,hm,a1⟩:=aC.mp a;cases e with
  |lst es=>
   obtain⟨l',ys,rfl,_,hk,b1⟩:=aC.mp b;cases op<;>first|exact aN.no|skip
   simp only[dh,zJ,hm,hk];exact aN.new (a1.app b1) hn
  |int k=>
   rw[aa.mp b];cases op<;>first|exact aN.no|skip
   simp only[dh,zJ,hm];by_cases z:-(av:Int)<=k/\k<=(av:Int)
   .rw[Nj z,Nj z];exact aN.new (a1.rep _) hn
   .rw[Nk z,Nk z];exact aN.no
  |_=>exact aN.no
 |int i=>
  cases e with
  |int j=>
   have hi:∀r:Rd,ag R m (dh op x y m) r->(∀d,r=.ok d->ax d=true)->aN R m lv (dh op x y m) r:=by
    intro r h f;cases r with
    |ok d=>
     obtain⟨w,m',h,l,k⟩:=h;refine⟨w,m',[],h,l,?_,QB,by simp⟩;rw[hl,Nj (f d rfl)];exact k.flat d w (f d rfl)
    |exc c d=>exact h
    |no=>trivial
   refine hi _ hs λd h=>?_;cases op<;>simp only[zJ]at h
   .cases h;rfl
   .cases h;rfl
   all_goals (split at h<;>(cases h;try rfl))
  |_=>exact aN.no
 |tup ds=>
  obtain⟨xs,rfl,a1⟩:=ai.mp a;cases e with
  |tup es=>
   obtain⟨ys,rfl,b1⟩:=ai.mp b;cases op<;>first|exact aN.no|skip
   simp only[zJ]at hs ⊢;split at hs
   .next z=>
    rw[Nj z];obtain⟨w,m',h,l,k⟩:=hs;refine⟨w,m',[],h,l,?_,QB,by simp⟩;rw[hl];split
    .next f=>exact k.flat _ w f
    .exact ⟨aj.frame (λl o r z=>⟨⟨r,by simp⟩,z⟩) _ w k,rfl⟩
   .next z=>rw[Nk z];exact aN.no
  |_=>exact aN.no
 |_=>exact aN.no
theorem ww (H:bM lev cl cd):∀(e:Ex) (R:Nat->Prop) (m:Me) (de:aO) (env:En),bW R m (zu e) de env->aN R m (aU lev e) (af cl e env m) (ak cd e de)
 |.call k a,R,m,de,env,q=>by
  have e:aU lev (.call k a)=vg lev k:=by funext d;simp[vg]
  rw[e];refine(zi H.r a R m de env q).bindO λd w m1 l1 k1=>?_;exact H k _ _ _ m1 (yT k1)
 |.bin op a b,R,m,de,env,q=>by
  refine(zi H.r a R m de env q.left).bindO λd w m1 l1 k1=>?_;refine(zi H.r b _ m1 de env (q.right.up (λ_=>.inl) l1)).bindO λd2 w2 m2 l2 k2=>?_;exact Ei op (λd=>by cases d<;>rfl) (k1.up _ l2) k2
 |.lrng a,R,m,de,env,q=>by
  refine(zi H.r a R m de env q).bindO λd w m1 l1 k1=>?_;cases d with
  |int j=>
   rw[aa.mp k1];simp only;split
   .exact aN.new (kB 1 _ 0) (λes=>by simp[ax])
   .exact aN.no
  |_=>exact aN.no
 |.slB a b c,R,m,de,env,q=>by
  refine(zi H.r a R m de env q.left).bindO λd w m1 l1 k1=>?_;refine(zi H.r b _ m1 de env (q.right.left.up (λ_=>.inl) l1)).bindO λd2 w2 m2 l2 k2=>?_;cases d2 with
  |int i=>
   rw[aa.mp k2];refine(zi H.r c _ m2 de env (q.right.right.up (λ_ h=>.inl (.inl h)) (l1.trans l2))).bindO λd3 w3 m3 l3 k3=>?_;cases d3 with
   |int j=>
    rw[aa.mp k3];simp only[hZ,hU];cases z:dX d with
    |none=>exact aN.no
    |some ds=>
     obtain⟨xs,h,q⟩:=qG ((k1.up m1.length l2).up m2.length l3) z;simp only[h,q.len];exact aN.new ((q.drop _).take _) (λes=>by simp[ax])
   |_=>exact aN.no
  |_=>exact aN.no
 |.blt b a,R,m,de,env,q=>by
  by_cases hb:b=.list
  .subst hb;refine(zi H.r a R m de env q).bindO λd w m1 l1 k1=>?_;have k2:=yT k1;simp only[yO];split
   .next x hx=>
    rw[hx]at k2;obtain⟨x',r,e0,p,q0⟩:=k2.cons_inv;rw[e0,q0.nil_inv];split
    .next z=>obtain⟨ys,h,q⟩:=vw p z;simp only[fe,h];exact aN.new q (λes=>by simp[ax])
    .exact aN.no
   .exact aN.no
  .exact (zi H.r (.blt b a) R m de env q).own λd=>by cases b<;>first|exact Nl rfl hb|rfl
 |.lst a,R,m,de,env,q=>by
  have ih:=ww H a R m de env q;show aN R m _ ((af cl a env m).bind λx m1=>alloc m1 (zn x)) ((ak cd a de).bind λx=>bp (zY x));cases ea:ak cd a de with
  |no=>trivial
  |exc c d=>rw[ea]at ih;obtain⟨w,m',h,l,k⟩:=ih;rw[h];exact⟨w,m',rfl,l,k⟩
  |ok d=>
   rw[ea]at ih;have hs:=ih.sim;obtain⟨w,m1,A,h,l,k,nd,hA⟩:=ih;obtain⟨w',m1',h',_,ks⟩:=hs;rw[h]at h';cases h';rw[h];simp only[Rz.bind,Rd.bind];have ka:=yT ks;cases z:aU lev a (.tup (zY d)) == .full with
   |false=>exact aN.newTop l ka (by simp[ax,z])
   |true=>
    have z':aU lev a (.tup (zY d))=.full:=by simpa using z
    have own:∃B,aA m1 (zY d) (zn w) B/\B.Nodup/\∀b∈B,m.length<=b:=by
     cases d with
     |tup ds=>
      rw[show aU lev a (.tup ds)=.full from z']at k;obtain⟨xs,rfl,k1⟩:=bK.mp k;exact⟨A,k1,nd,hA⟩
     |_=>refine⟨[],?_,QB,by simp⟩;exact ka.flat _ _ rfl
    obtain⟨B,o,nb,hB⟩:=own;exact pS l o nb hB (by simp[ax,z]) ka.len
 |.tup a,R,m,de,env,q=>by
  have ih:=ww H a R m de env q;have el:aU lev (.tup a)=aU lev a:=by funext d;simp
  rw[el];show aN R m _ ((af cl a env m).bind λx m1=>if(zn x).length<=av then .ok (.tup (zn x)) m1 else .no) ((ak cd a de).bind λx=>if(zY x).length<=av then .ok (.tup (zY x))else .no);cases ea:ak cd a de with
  |no=>trivial
  |exc c d=>rw[ea]at ih;obtain⟨w,m',h,l,k⟩:=ih;rw[h];exact⟨w,m',rfl,l,k⟩
  |ok d=>
   rw[ea]at ih;have hs:=ih.sim;obtain⟨w,m1,A,h,l,k,nd,hA⟩:=ih;obtain⟨w',m1',h',_,ks⟩:=hs;rw[h]at h';cases h';rw[h];have ka:=yT ks;simp only[Rz.bind,Rd.bind,ka.len];split
   .cases d with
    |tup ds=>
     obtain⟨xs,rfl,_⟩:=ai.mp ks;exact⟨_,m1,A,rfl,l,k,nd,hA⟩
    |_=>
     refine⟨_,m1,[],rfl,l,?_,QB,by simp⟩;rw[yC lev a _ (by rfl)];exact bK.mpr ⟨_,rfl,ka.flat _ _ rfl⟩
   .trivial
 |.pair a b,R,m,de,env,q=>by
  have iha:=ww H a R m de env q.left;show aN R m _ ((af cl a env m).bind λx m1=>(af cl b env m1).bind λy m2=>.ok (.tup (x::zn y)) m2) ((ak cd a de).bind λx=>(ak cd b de).bind λy=>.ok (.tup (x::zY y)));cases ea:ak cd a de with
  |no=>trivial
  |exc c d=>rw[ea]at iha;obtain⟨w,m',h,l,k⟩:=iha;rw[h];exact⟨w,m',rfl,l,k⟩
  |ok d=>
   rw[ea]at iha;have hs:=iha.sim;obtain⟨w,m1,A,h,l,k,nd,hA⟩:=iha;obtain⟨w',m1',h',_,ks⟩:=hs;rw[h]at h';cases h';rw[h];simp only[Rz.bind,Rd.bind];have ihb:=ww H b _ m1 de env (q.right.up (R':=Rf R m.length) (λ_=>.inl) l);cases eb:ak cd b de with
   |no=>trivial
   |exc c d=>rw[eb]at ihb;obtain⟨w,m',h,l2,k⟩:=ihb;rw[h];exact ag.lift (rd:=.exc c d) l ⟨w,m',rfl,l2,k⟩
   |ok d2=>
    rw[eb]at ihb;have hs2:=ihb.sim;obtain⟨w2,m2,A2,h2,l2,k2,nd2,hA2⟩:=ihb;obtain⟨w2',m2',h2',_,ks2⟩:=hs2;rw[h2]at h2';cases h2';rw[h2];simp only;have ka:=yT ks2;have hl1:=l.len;cases z:(aU lev a d == .full&&aU lev b (.tup (zY d2)) == .full)with
    |false=>
     have:ag R m (.ok (.tup (w::zn w2)) m2) (.ok (.tup (d::zY d2))):=
      ag.lift l (ag.lift l2 (dQ (ai.mpr ⟨_,rfl,.cons (ks.up _ l2) ka⟩)))
     obtain⟨w3,m3,h3,l3,k3⟩:=this;refine⟨w3,m3,[],h3,l3,?_,QB,by simp⟩;by_cases f:ax (.tup (d::zY d2))=true
     .rw[yC lev _ _ f];exact k3.flat _ w3 f
     .have:aU lev (.pair a b) (.tup (d::zY d2))=.no:=by
       rw[uB,Nk f];simp only[z];rfl
      rw[this];exact⟨aj.frame (λl o r z=>⟨⟨r,by simp⟩,z⟩) _ w3 k3,rfl⟩
    |true=>
     rw[Qr]at z;have z1:aU lev a d=.full:=by simpa using z.1
     have z2:aU lev b (.tup (zY d2))=.full:=by simpa using z.2
     rw[z1]at k;have own:∃B,aA m2 (zY d2) (zn w2) B/\B.Nodup/\∀b∈B,m1.length<=b:=by
      cases d2 with
      |tup ds=>
       rw[show aU lev b (.tup ds)=.full from z2]at k2;obtain⟨xs,rfl,k3⟩:=bK.mp k2;exact⟨A2,k3,nd2,hA2⟩
      |_=>refine⟨[],?_,QB,by simp⟩;exact ka.flat _ _ rfl
     obtain⟨B,o,nb,hB⟩:=own;refine⟨_,m2,A++B,rfl,l.trans l2,?_,?_,?_⟩
     .have:aU lev (.pair a b) (.tup (d::zY d2))=.full:=by
       rw[uB];simp only[z1,z2];simp
      rw[this];exact bK.mpr ⟨_,rfl,.cons (bn.frame d w A (λx _ o q=>l2 x o q) k) o⟩
     .refine Qz.mpr ⟨nd,nb,λx hx y hy e=>?_⟩;have:=bn.lt d w A k x hx;have:=hB y hy;lia
     .intro x hx;rcases QL.mp hx with hx|hx
      .exact hA x hx
      .have:=hB x hx;lia
 |.comp elt it cond,R,m,de,env,q=>by
  refine(zi H.r it R m de env q.left).bindO λd w m1 l1 k1=>?_;have hc:∀(R':Nat->Prop) m' d x,(∀l,Rf R m.length l->R' l)->Le m1 m'->aj R' m' d x->ag R' m' (af cl cond (env++[some x]) m') (ak cd cond (de++[some d])):=
   λR' m' d x hR l k=>zi H.r cond R' m' _ _ ((q.right.right.up (λl h=>hR l (.inl h)) (l1.trans l)).push k)
  have he:∀(R':Nat->Prop) m' d x,(∀l,Rf R m.length l->R' l)->Le m1 m'->aj R' m' d x->aN R' m' (aU lev elt) (af cl elt (env++[some x]) m') (ak cd elt (de++[some d])):=
   λR' m' d x hR l k=>ww H elt R' m' _ _ ((q.right.left.up (λl h=>hR l (.inl h)) (l1.trans l)).push k)
  have hl:∀ds,aU lev (.comp elt it cond) (.lst ds)=if ds.all (λx=>aU lev elt x == .full)then .full else .top:=λds=>by simp[ax]
  have acc0:cV m1 m1 (aU lev elt) [] []:=λ_=>⟨[],.nil,QB,by simp⟩;cases d with
  |tup ds=>
   obtain⟨xs,rfl,k2⟩:=ai.mp k1;exact(vC hc he ds xs [] [] m1 (Le.refl _) (k2.up _ (Le.refl _)) .nil acc0).sim hl
  |scr ns=>
   rw[bb.mp k1];exact(vC hc he (ns.map .int) (ns.map .int) [] [] m1 (Le.refl _) (fu ns) .nil acc0).sim hl
  |lst ds=>
   obtain⟨l,xs,rfl,_,hm,k2⟩:=aC.mp k1;simp only[cQ];by_cases z:ds.length<=av
   .rw[Nj z];have hl':=k2.len;exact(kY hm hc he ds 0 (av+1) [] [] m1 (Le.refl _) (by simpa using (k2.up _ (Le.refl _))) (by lia) (by lia) .nil acc0).sim hl
   .rw[Nk z];exact aN.no
  |_=>exact aN.no
 |.compP k elt a b cond,R,m,de,env,q=>by
  refine(zi H.r a R m de env q.left).bindO λd w m1 l1 k1=>?_;refine(zi H.r b _ m1 de env (q.right.left.up (λl h=>.inl h) l1)).bindO λd' w' m2 l2 k2=>?_;have hc:∀(R':Nat->Prop) m' (p:Dat×Dat) x y,(∀l,Rf (Rf R m.length) m1.length l->R' l)->Le m2 m'->aj R' m' p.1 x->aj R' m' p.2 y->ag R' m' (af cl cond (env++[some x]++[some y]) m') (ak cd cond (de++[some p.1]++[some p.2])):=
   λR' m' d x y hR l k k'=>zi H.r cond R' m' _ _ (((q.right.right.right.up (λl h=>hR l (.inl (.inl h))) ((l1.trans l2).trans l)).push k).push k')
  have he:∀(R':Nat->Prop) m' (p:Dat×Dat) x y,(∀l,Rf (Rf R m.length) m1.length l->R' l)->Le m2 m'->aj R' m' p.1 x->aj R' m' p.2 y->aN R' m' (aU lev elt) (af cl elt (env++[some x]++[some y]) m') (ak cd elt (de++[some p.1]++[some p.2])):=
   λR' m' d x y hR l k k'=>ww H elt R' m' _ _ (((q.right.right.left.up (λl h=>hR l (.inl (.inl h))) ((l1.trans l2).trans l)).push k).push k')
  have hl:∀ds,aU lev (.compP k elt a b cond) (.lst ds)=if ds.all (λx=>aU lev elt x == .full)then .full else .top:=λds=>by simp[ax]
  have acc0:cV m2 m2 (aU lev elt) [] []:=λ_=>⟨[],.nil,QB,by simp⟩;cases e:xi k d d' with
  |none=>exact aN.no
  |some ps=>
   obtain⟨pr,hln⟩:=g8 e ((k1.up _ l2).up m2.length (Le.refl _)) (k2.up m2.length (Le.refl _));exact(kZ pr hc he ps 0 (av+1) [] [] m2 (Le.refl _) (by simp) (by simp) (by lia) .nil acc0).sim hl
 |.var i,R,m,de,env,q=>(zi H.r _ R m de env q).own λd=>rfl
 |.lit w,R,m,de,env,q=>(zi H.r _ R m de env q).own λd=>rfl
 |.neg a,R,m,de,env,q=>(zi H.r _ R m de env q).own λd=>rfl
 |.not a,R,m,de,env,q=>(zi H.r _ R m de env q).own λd=>rfl
 |.and a b,R,m,de,env,q=>(zi H.r _ R m de env q).own λd=>rfl
 |.or a b,R,m,de,env,q=>(zi H.r _ R m de env q).own λd=>rfl
 |.cmp op a b,R,m,de,env,q=>(zi H.r _ R m de env q).own λd=>rfl
 |.chain o p a b c,R,m,de,env,q=>(zi H.r _ R m de env q).own λd=>rfl
 |.ife c a b,R,m,de,env,q=>(zi H.r _ R m de env q).own λd=>rfl
 |.unit,R,m,de,env,q=>(zi H.r _ R m de env q).own λd=>rfl
 |.isi t a,R,m,de,env,q=>(zi H.r _ R m de env q).own λd=>rfl
 |.dict0,R,m,de,env,q=>⟨_,_,[m.length],rfl,Le.app m _,bY.mpr ⟨_,[],[],rfl,rfl,by simp,.nil⟩,by simp,by simp⟩
 |.dget a b,R,m,de,env,q=>(zi H.r _ R m de env q).own λd=>rfl
 |.idx a b,R,m,de,env,q=>(zi H.r _ R m de env q).own λd=>rfl
 |.meth _ _ _,R,m,de,env,q=>(zi H.r _ R m de env q).own λd=>rfl
 |.rng a b c,R,m,de,env,q=>(zi H.r _ R m de env q).own λd=>rfl
set_option genInjectivity false in
inductive b7 where
 |next (de:aO) (lv:List Lv)|ret (d:Dat) (l:Lv)|brk (de:aO) (lv:List Lv)|cont (de:aO) (lv:List Lv)|exc (c:Nat) (d:Dat)|no
deriving Inhabited
def Rd.bindS(r:Rd)(f:Dat->b7):b7:=match r with
 |.ok d=>f d
 |.exc c d=>.exc c d
 |.no=>.no
def Rd.okS(r:Rd)(f:Dat->b7):b7:=match r with
 |.ok d=>f d
 |_=>.no
def aR:List Nat->List Lv->List Lv
 |[],lv=>lv
 |i::vs,lv=>aR vs (lv.set i .no)
def cu(de:aO)(j:Nat)(lv:List Lv):List Lv:=match de[j]?,lv[j]? with
 |some (some (.lst _)),some .full=>lv.set j .top
 |some (some (.lst _)),some .top=>lv.set j .top
 |_,_=>lv.set j .no
def yJ(e:Ex)(de:aO)(lv:List Lv):List Lv:=match e with
 |.idx (.var j) b=>cu de j (aR (zu b) lv)
 |.dget (.var i) (.idx (.var _) (.neg (.lit _)))=>aR [i] lv
 |e=>aR (zu e) lv
mutual
def ee:Dat->Nat
 |.lst xs=>dg xs+1
 |.dct _ xs=>dg xs+1
 |.tup xs=>dg xs+1
 |.non=>0
 |.bl _=>0
 |.int _=>0
 |.str _=>0
 |.scr _=>0
def dg:List Dat->Nat
 |[]=>0
 |d::ds=>max (ee d) (dg ds)
end
def zU(lv:List Lv)(j:Nat):Bool:=match lv[j]? with
 |some .top=>true
 |some .full=>true
 |_=>false
def xJ(lev:Nat->Lv)(e:Ex)(d:Dat)(j:Nat)(de:aO)(lv:List Lv):Option (aO×List Lv):=
 if zU lv j=false then none
 else if aU lev e d=.full then some (de,lv)
 else if j∈zu e then none
 else match e with
  |.var i=>if lv[i]?=some .full/\lv[j]?=some .full then some (de.set i none,lv)else some (de,(aR [i] lv).set j .top)
  |e=>some (de,(yJ e de lv).set j .top)
def xj{α:Type}(body:α->aO->List Lv->b7):List α->aO->List Lv->b7
 |[],de,lv=>.next de lv
 |x::xs,de,lv=>match body x de lv with
  |.next d1 l1=>xj body xs d1 l1
  |.cont d1 l1=>xj body xs d1 l1
  |.brk d1 l1=>.next d1 l1
  |r=>r
def yM(c:aO->Rd)(body:aO->List Lv->b7):Nat->aO->List Lv->b7
 |0,_,_=>.no
 |k+1,de,lv=>match c de with
  |.ok (.bl true)=>match body de lv with
   |.next d1 l1=>yM c body k d1 l1
   |.cont d1 l1=>yM c body k d1 l1
   |.brk d1 l1=>.next d1 l1
   |r=>r
  |.ok (.bl false)=>.next de lv
  |.exc c d=>.exc c d
  |_=>.no
def aS(d:Dat):Lv:=if ax d then .full else .no
def cn(lev:Nat->Lv)(e:Ex)(d:Dat)(lv:List Lv):Lv:=if ax d then .full else match e with
 |.var i=>(lv[i]?).getD .no
 |.tup (.pair (.var a) (.pair (.var b) .unit))=>if a≠b/\lv[a]?=some .full/\lv[b]?=some .full then .full else .no
 |e=>aU lev e d
def xK(de:aO)(j:Nat):Option (List Dat):=match de[j]? with
 |some (some (.lst ds))=>some ds
 |_=>none
def vN(lev:Nat->Lv)(i:Nat)(e:Ex)(d:Dat)(de:aO)(lv:List Lv):b7:=
 if aU lev e d=.full then .next (de.set i (some d)) (lv.set i .full)else .next (de.set i (some d)) ((yJ e de lv).set i (aU lev e d))
def mI(lev:Nat->Lv)(j:Nat)(k:Dat)(e:Ex)(d:Dat)(de:aO)(lv:List Lv):b7:=match k,xK de j with
 |.int k,some ds=>match ix ds.length k with
  |some p=>match xJ lev e d j de lv with
   |some (de1,lv1)=>.next (de1.set j (some (.lst (ds.set p d)))) lv1
   |none=>if zU lv j&&decide (ee d<ee (.lst ds))&&(ax d==false)then .next (de.set j (some (.lst (ds.set p d)))) ((aR (zu e) lv).set j .top)else .no
  |none=>.no
 |_,_=>.no
def yt(s t:Sm):Option (Nat×Nat×Ex×Ex×Ex×Ex×Ex):=match t with
 |_=>none
def BO(lev:Nat->Lv)(cl:Nat->List Dat->Rd)(e:Ex)(de:aO)(lv:List Lv):b7:=match e with
  |.meth .append (.var j) (.pair e .unit)=>(ak cl e de).okS λd=>match xK de j with
   |some ds=>if ds.length<av then match xJ lev e d j de lv with
    |some (de1,lv1)=>.next (de1.set j (some (.lst (ds++[d])))) lv1
    |none=>.no
    else .no
   |none=>.no
  |.meth .reverse (.var j) .unit=>match xK de j with
   |some ds=>if zU lv j then .next (de.set j (some (.lst ds.reverse))) lv else .no
   |none=>.no
  |.meth .clear (.var j) .unit=>match xK de j with
   |some ds=>if zU lv j then .next (de.set j (some (.lst []))) lv else .no
   |none=>.no
  |.meth .pop (.var j) .unit=>match xK de j with
   |some ds=>if zU lv j&&decide (ds.length≠0)then .next (de.set j (some (.lst ds.dropLast))) lv else .no
   |none=>.no
  |.meth _ _ _=>.no
  |e=>(ak cl e de).bindS λ_=>.next de lv
def aG(lev:Nat->Lv)(cl:Nat->List Dat->Rd):Sm->aO->List Lv->b7
 |.skip,de,lv=>.next de lv
 |.seq a b,de,lv=>match yt a b with
  |some _=>.no
  |none=>match aG lev cl a de lv with
   |.next d1 l1=>aG lev cl b d1 l1
   |r=>r
 |.asg i e,de,lv=>(ak cl e de).bindS λd=>vN lev i e d de lv
 |.asgS o k e,de,lv=>match o with
  |.var j=>(ak cl e de).okS λd=>(ak cl k de).okS λk=>mI lev j k e d de lv
  |_=>.no
 |.aug i op e,de,lv=>match de[i]? with
  |some (some (.int a))=>(ak cl e de).okS λy=>match y with
   |.int b=>(zJ op (.int a) (.int b)).okS λz=>.next (de.set i (some z)) (lv.set i .full)
   |_=>.no
  |_=>.no
 |.ite c a b,de,lv=>(ak cl c de).bindS λx=>match x with
  |.bl true=>aG lev cl a de lv
  |.bl false=>aG lev cl b de lv
  |_=>.no
 |.forv i it body,de,lv=>(ak cl it de).bindS λd=>match cQ d with
  |some xs=>xj (λx de lv=>aG lev cl body (de.set i (some x)) (lv.set i (aS x))) xs de (if ax d then lv else yJ it de lv)
  |none=>.no
 |.fort i j it body,de,lv=>(ak cl it de).bindS λd=>match cQ d with
  |some xs=>xj (λx de lv=>match x with
    |.tup [a,b]=>aG lev cl body ((de.set i (some a)).set j (some b)) ((lv.set i (aS a)).set j (aS b))
    |_=>.no) xs de (if ax d then lv else yJ it de lv)
  |none=>.no
 |.while c body,de,lv=>yM (ak cl c) (aG lev cl body) 1000000 de lv
 |.ret e,de,lv=>(ak cl e de).bindS λd=>.ret d (cn lev e d lv)
 |.expr e,de,lv=>BO lev cl e de lv
 |.unp3 i j k e,de,lv=>(ak cl e de).bindS λd=>match xa d with
  |some [a,b,c]=>.next (((de.set i (some a)).set j (some b)).set k (some c)) ((((yJ e de lv).set i (aS a)).set j (aS b)).set k (aS c))
  |_=>.no
 |.dput j k e,de,lv=>(ak cl e de).okS λd=>(ak cl k de).okS λq=>match de[j]?,wU q with
  |some (some (.dct ks ds)),some q=>if lv[j]?=some .full/\aU lev e d=.full/\ks.length<av then .next (de.set j (some (.dct (wZ ks q) (yB ks ds q d)))) lv else .no
  |_,_=>.no
 |.never,_,_=>.no
def qN{lev:Nat->Lv}{cl:Nat->List Dat->Rd}{a b:Sm}{de:aO}{lv:List Lv}:aG lev cl (.seq a b) de lv=match yt a b with
  |some _=>.no
  |none=>match aG lev cl a de lv with
   |.next d1 l1=>aG lev cl b d1 l1
   |r=>r:=rfl
def xQ(fn:Fn)(ds:List Dat):aO:=ds.map some++Qx (fn.sz-ds.length) none
def xk(fn:Fn)(ds:List Dat):List Lv:=ds.map aS++Qx (fn.sz-ds.length) .full
def wz:Lv->Lv->Bool
 |_,.no=>true
 |.full,.full=>true
 |.top,.top=>true
 |_,_=>false
def zz(l:Lv):b7->Rd
 |.next _ _=>.ok .non
 |.ret d k=>if ax d || wz k l then .ok d else .no
 |.exc c d=>.exc c d
 |_=>.no
def zB(lev:Nat->Lv)(cl:Nat->List Dat->Rd)(k:Nat)(fn:Fn)(ds:List Dat):Rd:=
 if ds.length=fn.ar then zz (lev k) (aG lev cl fn.body (xQ fn ds) (xk fn ds))else .no
def j8(lev:Nat->Lv)(T:List Fn):Nat->Nat->List Dat->Rd
 |0,_,_=>.no
 |d+1,k,ds=>match T[k]? with
  |some fn=>zB lev (j8 lev T d) k fn ds
  |none=>.no
def xl(RR:Nat->Prop)(A:Nat->List Nat):Nat->Prop:=λl=>RR l/\∀i,l∉A i
structure Inv(lo:Nat)(RR:Nat->Prop)(m:Me)(de:aO)(lv:List Lv)(env:En)(A:Nat->List Nat):Prop where
 len:de.length=env.length
 lvl:lv.length=de.length
 rr:∀l,lo<=l->RR l
 lom:lo<=m.length
 slot:∀i d l,de[i]?=some (some d)->lv[i]?=some l->∃w,env[i]?=some (some w)/\bx (xl RR A) m l d w (A i)
 nd:∀i,(A i).Nodup
 dj:∀i j a,a∈A i->a∈A j->i=j
 bd:∀i a,a∈A i->lo<=a/\a<m.length
def bi(A:Nat->List Nat)(m:Me)(A':Nat->List Nat)(m':Me):Prop:=(∀(l:Nat) o,(∀i,l∉A i)->m[l]?=some o->(∀i,l∉A' i)/\m'[l]?=some o)/\m.length<=m'.length
def bi.refl(A:Nat->List Nat)(m:Me):bi A m A m:=⟨λ_ _ h k=>⟨h,k⟩,Qk _⟩
def bi.trans{A B C:Nat->List Nat}{m m1 m2:Me}(h:bi A m B m1)(k:bi B m1 C m2):bi A m C m2:=
 ⟨λl o a b=>k.1 l o (h.1 l o a b).1 (h.1 l o a b).2,Qu h.2 k.2⟩
def bi.rep (h:bi A m A' m')(q:aj (xl RR A) m d w):aj (xl RR A') m' d w:=
 aj.frame (λl o r z=>⟨⟨r.1,(h.1 l o r.2 z).1⟩,(h.1 l o r.2 z).2⟩) d w q
def bi.repL (h:bi A m A' m')(q:ae (xl RR A) m d w):ae (xl RR A') m' d w:=
 ae.frame (λl o r z=>⟨⟨r.1,(h.1 l o r.2 z).1⟩,(h.1 l o r.2 z).2⟩) d w q
def Inv.getlv (I:Inv lo RR m de lv env A){i:Nat}(h:de[i]?=some o):∃l,lv[i]?=some l:=by
 obtain⟨hi,_⟩:=Qa.mp h;exact⟨_,Qe (by rw[I.lvl];exact hi)⟩
def Inv.envR (I:Inv lo RR m de lv env A)(vs:List Nat):bW RR m vs de env:=
 ⟨I.len,λi _ d h=>by
  obtain⟨l,hl⟩:=I.getlv h;obtain⟨w,a,b⟩:=I.slot i d l h hl;exact⟨w,a,b.rep (λ_ z=>z.1) (λa ha=>I.rr a (I.bd i a ha).1)⟩⟩
def Inv.ext{lo:Nat}{RR:Nat->Prop}{m m':Me}{de:aO}{lv:List Lv}{env:En}{A:Nat->List Nat}(I:Inv lo RR m de lv env A)(h:Le m m'):Inv lo RR m' de lv env A:=
 ⟨I.len,I.lvl,I.rr,Qu I.lom h.len,λi d l a b=>by
  obtain⟨w,p,q⟩:=I.slot i d l a b;exact⟨w,p,q.frame (λl o r z=>⟨r,h l o z⟩) (λl _ o z=>h l o z)⟩,I.nd,I.dj,λi a ha=>⟨(I.bd i a ha).1,Qf (I.bd i a ha).2 h.len⟩⟩
def vD (h:Le m m'):bi A m A m':=⟨λl o a b=>⟨a,h l o b⟩,h.len⟩
def aK(A:Nat->List Nat)(i:Nat)(B:List Nat):Nat->List Nat:=λk=>if k=i then B else A k
def zm:aK A i B i=B:=by simp[aK]
def zl (h:k≠i):aK A i B k=A k:=by simp[aK,h]
def Inv.store{lo:Nat}{RR:Nat->Prop}{m m':Me}{de:aO}{lv:List Lv}{env:En}{A:Nat->List Nat}(I:Inv lo RR m de lv env A)(h:Le m m')(i:Nat){d:Dat}{l:Lv}{w:Wd}{B:List Nat}
  (q:bx (λl=>(xl RR A l\/m.length<=l)/\l∉B) m' l d w B) (nd:B.Nodup) (hB:∀b∈B,m.length<=b) :
  Inv lo RR m' (de.set i (some d)) (lv.set i l) (env.set i (some w)) (aK A i B)/\bi A m (aK A i B) m':=by
 have hlt:=q.lt;have fr:∀(x:Nat) (o:Ob),(∀k,x∉A k)->m[x]?=some o->∀k,x∉aK A i B k:=by
  intro x o hx hm k;by_cases e:k=i
  .subst e;rw[zm];intro hb;have:=hB x hb;have:=(Qa.mp hm).1;lia
  .rw[zl e];exact hx k
 refine⟨⟨by simp[I.len],by simp[I.lvl],I.rr,Qu I.lom h.len,?_,?_,?_,?_⟩,⟨λx o hx hm=>⟨fr x o hx hm,h x o hm⟩,h.len⟩⟩
 .intro k e l' h1 h2;by_cases z:k=i
  .rw[z]at h1 h2 ⊢;rw[QG]at h1 h2;rw[Nj rfl]at h1 h2;split at h1
   .split at h2
    .next q1 q2=>
     cases h1;cases h2;refine⟨w,by rw[QG,Nj rfl,Nj (by rw[<-I.len];exact q1)],?_⟩;rw[zm];refine q.frame (λx o r hm=>⟨⟨?_,λk=>?_⟩,hm⟩) (λ_ _ _ z=>z)
     .rcases r.1 with r1|r1
      .exact r1.1
      .exact I.rr x (Qu I.lom r1)
     .by_cases e:k=i
      .subst e;rw[zm];exact r.2
      .rw[zl e];rcases r.1 with r1|r1
       .exact r1.2 k
       .intro ha;have:=(I.bd k x ha).2;lia
    .cases h2
   .cases h1
  .rw[Qw (Ne.symm z)]at h1 h2;obtain⟨w',a,b⟩:=I.slot k e l' h1 h2;refine⟨w',by rw[Qw (Ne.symm z)];exact a,?_⟩;rw[zl z];exact b.frame (λx o r hm=>⟨⟨r.1,fr x o r.2 hm⟩,h x o hm⟩) (λx _ o hm=>h x o hm)
 .intro k;by_cases e:k=i
  .subst e;rw[zm];exact nd
  .rw[zl e];exact I.nd k
 .intro k j a ha hb;by_cases e:k=i
  .subst e;rw[zm]at ha;by_cases f:j=k
   .exact f.symm
   .rw[zl f]at hb;have:=hB a ha;have:=(I.bd j a hb).2;lia
  .rw[zl e]at ha;by_cases f:j=i
   .subst f;rw[zm]at hb;have:=hB a hb;have:=(I.bd k a ha).2;lia
   .rw[zl f]at hb;exact I.dj k j a ha hb
 .intro k a ha;by_cases e:k=i
  .subst e;rw[zm]at ha;exact⟨Qu I.lom (hB a ha),hlt a ha⟩
  .rw[zl e]at ha;exact⟨(I.bd k a ha).1,Qf (I.bd k a ha).2 h.len⟩
def Inv.weak{lo:Nat}{RR:Nat->Prop}{m:Me}{de:aO}{lv:List Lv}{env:En}{A:Nat->List Nat}(I:Inv lo RR m de lv env A)(i:Nat){l:Lv}{B:List Nat}
  (hB:∀b∈B,b∈A i) (nd:B.Nodup) (q:∀d w,de[i]?=some (some d)->env[i]?=some (some w)->bx (xl RR (aK A i B)) m l d w B) :
  Inv lo RR m de (lv.set i l) env (aK A i B)/\bi A m (aK A i B) m:=by
 have fr:∀x,(∀k,x∉A k)->∀k,x∉aK A i B k:=by
  intro x hx k;by_cases e:k=i
  .subst e;rw[zm];intro hb;exact hx _ (hB x hb)
  .rw[zl e];exact hx k
 have sub:∀k a,a∈aK A i B k->a∈A k:=by
  intro k a ha;by_cases e:k=i
  .subst e;rw[zm]at ha;exact hB a ha
  .rw[zl e]at ha;exact ha
 refine⟨⟨I.len,by simp[I.lvl],I.rr,I.lom,?_,?_,λk j a ha hb=>I.dj k j a (sub k a ha) (sub j a hb),λk a ha=>I.bd k a (sub k a ha)⟩,⟨λx o hx hm=>⟨fr x hx,hm⟩,Qk _⟩⟩
 .intro k e l' h1 h2;by_cases z:k=i
  .subst z;rw[QG,Nj rfl]at h2;split at h2
   .cases h2;obtain⟨l0,hl0⟩:=I.getlv h1;obtain⟨w,a,_⟩:=I.slot k e l0 h1 hl0;refine⟨w,a,?_⟩;rw[zm];exact q e w h1 a
   .cases h2
  .rw[Qw (Ne.symm z)]at h2;obtain⟨w',a,b⟩:=I.slot k e l' h1 h2;refine⟨w',a,?_⟩;rw[zl z];exact b.frame (λx o r hm=>⟨⟨r.1,fr x r.2⟩,hm⟩) (λx _ o hm=>hm)
 .intro k;by_cases e:k=i
  .subst e;rw[zm];exact nd
  .rw[zl e];exact I.nd k
def Inv.down{lo:Nat}{RR:Nat->Prop}{m:Me}{de:aO}{lv:List Lv}{env:En}{A:Nat->List Nat}(I:Inv lo RR m de lv env A)(i:Nat):
  Inv lo RR m de (lv.set i .no) env (aK A i [])/\bi A m (aK A i []) m:=by
 refine I.weak i (by simp) QB λd w h1 h2=>⟨?_,rfl⟩;obtain⟨l,hl⟩:=I.getlv h1;obtain⟨w',a,b⟩:=I.slot i d l h1 hl;rw[h2]at a;cases a;refine b.rep (λx r=>⟨r.1,λk=>?_⟩) (λx hx=>⟨I.rr x (I.bd i x hx).1,λk=>?_⟩)
 .by_cases e:k=i
  .subst e;rw[zm];simp
  .rw[zl e];exact r.2 k
 .by_cases e:k=i
  .subst e;rw[zm];simp
  .rw[zl e];intro ha;exact e (I.dj k i x ha hx)
theorem y9:∀(vs:List Nat) (lv:List Lv) (k:Nat),(aR vs lv)[k]?=if k∈vs/\k<lv.length then some .no else lv[k]?
 |[],lv,k=>by simp[aR]
 |i::vs,lv,k=>by
  unfold aR;rw[y9 vs (lv.set i .no) k];rw[Wa,QG];by_cases a:k∈vs/\k<lv.length
  .rw[Nj a,Nj ⟨Qh _ a.1,a.2⟩]
  .rw[Nk a];by_cases e:i=k
   .subst e;by_cases b:i<lv.length
    .simp[b]
    .simp[b]
   .rw[Nk e];by_cases c:k∈vs
    .have:¬k<lv.length:=λz=>a ⟨c,z⟩;rw[Nk (λz=>this z.2)]
    .rw[Nk (λz=>by rcases Qo.mp z.1 with z1|z1;exact e z1.symm;exact c z1)]
theorem Inv.downs:∀(vs:List Nat) {lv:List Lv}{A:Nat->List Nat},Inv lo RR m de lv env A ->
  ∃A',Inv lo RR m de (aR vs lv) env A'/\bi A m A' m/\(∀i∈vs,A' i=[])/\(∀i,A' i=A i\/A' i=[])/\∀i,i∉vs->A' i=A i
 |[],lv,A,I=>⟨A,I,bi.refl A m,by simp,λi=>.inl rfl,λ_ _=>rfl⟩
 |j::vs,lv,A,I=>by
  obtain⟨I1,K1⟩:=I.down j;obtain⟨A',I2,K2,h1,h2,h3⟩:=Inv.downs vs I1;refine⟨A',I2,K1.trans K2,λi hi=>?_,λi=>?_,λi hi=>?_⟩
  .by_cases q:i∈vs
   .exact h1 i q
   .rw[h3 i q];rcases Qo.mp hi with rfl|hi
    .exact zm
    .exact Nl hi q
  .rcases h2 i with z|z
   .rw[z];by_cases e:i=j
    .subst e;right;exact zm
    .left;exact zl e
   .exact .inr z
  .have:i≠j:=λe=>hi (by rw[e];simp);rw[h3 i (λz=>hi (Qh _ z)),zl this]
theorem Inv.top (I:Inv lo RR m de lv env A)(j:Nat)(hd:de[j]?=some (some (.lst ds)))(hj:zU lv j=true):
  ∃l xs A',Inv lo RR m de (lv.set j .top) env A'/\bi A m A' m/\A' j=[l]/\(∀i,i≠j->A' i=A i)/\env[j]?=some (some (.ref l))/\m[l]?=some (.lst xs)/\ae (xl RR A') m ds xs/\l∈A j:=by
 unfold zU at hj;obtain⟨lj,hl⟩:=I.getlv hd;obtain⟨w,a,b⟩:=I.slot j _ lj hd hl;rw[hl]at hj;have key:∃l xs,w=.ref l/\l∈A j/\m[l]?=some (.lst xs)/\ae (xl RR (aK A j [l])) m ds xs:=by
  cases lj with
  |no=>simp at hj
  |top=>
   obtain⟨es,l,xs,e,rfl,hA,hm,r⟩:=b;cases e;refine⟨l,xs,rfl,by rw[hA];simp,hm,ae.frame (λx o r z=>⟨⟨r.1,λk=>?_⟩,z⟩) _ _ r⟩;by_cases e:k=j
   .subst e;rw[zm,<-hA];exact r.2 k
   .rw[zl e];exact r.2 k
  |full=>
   obtain⟨l,xs,B,rfl,hA,hm,r⟩:=bD.mp b;refine⟨l,xs,rfl,by rw[hA];simp,hm,aA.rep ds xs B (λx hx=>⟨I.rr x (I.bd j x (by rw[hA];exact Qh _ hx)).1,λk=>?_⟩) r⟩;have nd:=I.nd j;rw[hA]at nd;by_cases e:k=j
   .subst e;rw[zm];intro z;rw[QP.mp z]at hx;exact(QI.mp nd).1 hx
   .rw[zl e];intro z;exact e (I.dj k j x z (by rw[hA];exact Qh _ hx))
 obtain⟨l,xs,rfl,hA,hm,r⟩:=key;obtain⟨I',K⟩:=I.weak j (l:=.top) (B:=[l]) (by intro b hb;rw[QP.mp hb];exact hA) (by simp) λd w h1 h2=>by
  rw[hd]at h1;cases h1;rw[a]at h2;cases h2;exact⟨ds,l,xs,rfl,rfl,rfl,hm,r⟩
 exact⟨l,xs,_,I',K,zm,λi hi=>zl hi,a,hm,r,hA⟩
def y0 {m:Me}(h:l≠x):(m.set l o)[x]?=m[x]?:=Qw h
def xZ {m:Me}(h:m[l]?=some p):(m.set l o)[l]?=some o:=by
 rw[QG,Nj rfl,Nj (Qa.mp h).1]
def Inv.putO{lo:Nat}{RR:Nat->Prop}{m m1:Me}{de:aO}{lv:List Lv}{env:En}{A:Nat->List Nat}(I:Inv lo RR m de lv env A)(le:Le m m1){j l:Nat}{ob:Ob}(hl:l∈A j)(A1:Nat->List Nat)
  (h3:∀k a,a∈A1 k->(∃k',a∈A k')\/m.length<=a) (nd1:∀k,(A1 k).Nodup) (dj1:∀i k a,a∈A1 i->a∈A1 k->i=k) (bd1:∀k a,a∈A1 k->lo<=a/\a<m1.length)
  {de1:aO}{lv1:List Lv}(len1:de1.length=de.length) (lvl1:lv1.length=lv.length)
  (live:∀k d lk,k≠j->de1[k]?=some (some d)->lv1[k]?=some lk->de[k]?=some (some d)/\lv[k]?=some lk/\A1 k=A k)
  (sj:∀d lj,de1[j]?=some (some d)->lv1[j]?=some lj->∃w,env[j]?=some (some w)/\bx (xl RR A1) (m1.set l ob) lj d w (A1 j)) :
  Inv lo RR (m1.set l ob) de1 lv1 env A1/\bi A m A1 (m1.set l ob):=by
 have fr:∀(x:Nat) (o:Ob),(∀k,x∉A k)->m[x]?=some o->(∀k,x∉A1 k)/\(m1.set l ob)[x]?=some o:=by
  intro x o hx hm;refine⟨λk ha=>?_,?_⟩
  .rcases h3 k x ha with⟨k',z⟩|z
   .exact hx k' z
   .have:=(Qa.mp hm).1;lia
  .rw[y0 (l:=l) (x:=x) (λe=>hx j (by rw[<-e];exact hl))];exact le x o hm
 refine⟨⟨len1.trans I.len,by rw[lvl1,I.lvl,len1],I.rr,by rw[Wa];exact Qu I.lom le.len,?_,nd1,dj1,λk a ha=>by rw[Wa];exact bd1 k a ha⟩,⟨λx o hx hm=>fr x o hx hm,by rw[Wa];exact le.len⟩⟩;intro k d lk h1 h2;by_cases e:k=j
 .subst e;exact sj d lk h1 h2
 .obtain ⟨a,b,c⟩:=live k d lk e h1 h2;obtain⟨w,p,q⟩:=I.slot k d lk a b;refine⟨w,p,?_⟩;rw[c];refine q.frame (λx o r hm=>⟨⟨r.1,(fr x o r.2 hm).1⟩,(fr x o r.2 hm).2⟩) (λx hx o hm=>?_);rw[y0 (l:=l) (x:=x) (λz=>e (I.dj k j x hx (by rw[<-z];exact hl)))];exact le x o hm
def Inv.put{lo:Nat}{RR:Nat->Prop}{m m1:Me}{de:aO}{lv:List Lv}{env:En}{A:Nat->List Nat}(I:Inv lo RR m de lv env A)(le:Le m m1){j l:Nat}{xs ys:List Wd}(hl:l∈A j)(A1:Nat->List Nat)
  (h3:∀k a,a∈A1 k->(∃k',a∈A k')\/m.length<=a) (nd1:∀k,(A1 k).Nodup) (dj1:∀i k a,a∈A1 i->a∈A1 k->i=k) (bd1:∀k a,a∈A1 k->lo<=a/\a<m1.length)
  {de1:aO}{lv1:List Lv}(len1:de1.length=de.length) (lvl1:lv1.length=lv.length)
  (live:∀k d lk,k≠j->de1[k]?=some (some d)->lv1[k]?=some lk->de[k]?=some (some d)/\lv[k]?=some lk/\A1 k=A k)
  (sj:∀d lj,de1[j]?=some (some d)->lv1[j]?=some lj->∃w,env[j]?=some (some w)/\bx (xl RR A1) (m1.set l (.lst ys)) lj d w (A1 j)) :
  Inv lo RR (m1.set l (.lst ys)) de1 lv1 env A1/\bi A m A1 (m1.set l (.lst ys)):=I.putO le hl A1 h3 nd1 dj1 bd1 len1 lvl1 live sj
def rL(m m1:Me)(ds:List Dat)(xs:List Wd)(ds':List Dat)(ys:List Wd):Prop:=
 ∀B,B.Nodup->aA m ds xs B->∃B',aA m1 ds' ys B'/\B'.Nodup/\∀b∈B',b∈B\/m.length<=b
def pQ(RR:Nat->Prop)(A:Nat->List Nat)(m m1:Me)(ds:List Dat)(xs:List Wd)(ds':List Dat)(ys:List Wd):Prop:=
 ae (xl RR A) m ds xs->ae (λx=>xl RR A x\/m.length<=x) m1 ds' ys
def fR(RR:Nat->Prop)(A:Nat->List Nat)(m m1:Me)(ds:List Dat)(xs:List Wd)(ds':List Dat)(ys:List Wd):Prop:=
 (∀B,B.Nodup->aA m ds xs B->∃B',aA m1 ds' ys B'/\B'.Nodup/\∀b∈B',b∈B\/m.length<=b)/\(ae (xl RR A) m ds xs->ae (λx=>xl RR A x\/m.length<=x) m1 ds' ys)
def Inv.mut (I:Inv lo RR m de lv env A)(hd:de[j]?=some (some (.lst ds)))(hj:zU lv j=true):
  ∃l xs,env[j]?=some (some (.ref l))/\m[l]?=some (.lst xs)/\ae RR m ds xs/\∀(m1:Me) (ds':List Dat) (ys:List Wd),Le m m1->(lv[j]?=some .full->rL m m1 ds xs ds' ys)->(lv[j]?=some .top->pQ RR A m m1 ds xs ds' ys) ->
   ∃A1,Inv lo RR (m1.set l (.lst ys)) (de.set j (some (.lst ds'))) lv env A1/\bi A m A1 (m1.set l (.lst ys)):=by
 unfold zU at hj;obtain⟨lj,hl⟩:=I.getlv hd;obtain⟨w,a,b⟩:=I.slot j _ lj hd hl;rw[hl]at hj;have hjl:j<de.length:=(Qa.mp hd).1;have live:∀(A1:Nat->List Nat),(∀k,k≠j->A1 k=A k)->∀(ds':List Dat) k d lk,k≠j->(de.set j (some (.lst ds')))[k]?=some (some d)->lv[k]?=some lk->de[k]?=some (some d)/\lv[k]?=some lk/\A1 k=A k:=by
  intro A1 h ds' k d lk e h1 h2;rw[Qw (Ne.symm e)]at h1;exact⟨h1,h2,h k e⟩
 cases lj with
 |no=>simp at hj
 |top=>
  obtain⟨es,l,xs,e,rfl,hA,hm,r⟩:=b;cases e;refine⟨l,xs,a,hm,ae.frame (λ_ _ r z=>⟨r.1,z⟩) _ _ r,λm1 ds' ys le _ c=>⟨A,?_⟩⟩;have hlm:=(Qa.mp hm).1;refine I.put le (j:=j) (l:=l) (xs:=xs) (by rw[hA];simp) A (λk a ha=>.inl ⟨k,ha⟩) I.nd I.dj (λk a ha=>⟨(I.bd k a ha).1,Qf (I.bd k a ha).2 le.len⟩) (by simp) rfl (live A (λ_ _=>rfl) ds') ?_;intro d lj h1 h2;rw[QG,Nj rfl,Nj hjl]at h1;cases h1;rw[hl]at h2;cases h2;refine⟨_,a,ds',l,ys,rfl,rfl,hA,xZ (le l _ hm),ae.frame (λx o r z=>?_) _ _ (c hl r)⟩;rcases r with r|r
  .exact ⟨r,by rw[y0 (l:=l) (x:=x) (λe=>r.2 j (by rw[hA,e];simp))];exact z⟩
  .exact ⟨⟨I.rr x (Qu I.lom r),λk hk=>by have:=(I.bd k x hk).2;lia⟩,by rw[y0 (l:=l) (x:=x) (by lia)];exact z⟩
 |full=>
  obtain⟨l,xs,B,rfl,hA,hm,r⟩:=bD.mp b;have hlm:=(Qa.mp hm).1;have nd:=I.nd j;rw[hA]at nd;refine⟨l,xs,a,hm,aA.rep ds xs B (λx hx=>I.rr x (I.bd j x (by rw[hA];exact Qh _ hx)).1) r,λm1 ds' ys le c _=>?_⟩;obtain⟨B',o,nb,hB⟩:=c hl B (QI.mp nd).2 r;have hlB:l∉B':=λz=>by
   rcases hB l z with z|z
   .exact (QI.mp nd).1 z
   .lia
  have sub:∀x∈l::B',x∈A j\/m.length<=x:=by
   intro x hx;rcases Qo.mp hx with rfl|hx
   .left;rw[hA];simp
   .rcases hB x hx with z|z
    .left;rw[hA];exact Qh _ z
    .exact .inr z
  refine⟨aK A j (l::B'),?_⟩;refine I.put le (j:=j) (l:=l) (xs:=xs) (by rw[hA];simp) _ ?_ ?_ ?_ ?_ (by simp) rfl (live _ (λk hk=>zl hk) ds') ?_
  .intro k x hx;by_cases e:k=j
   .subst e;rw[zm]at hx;rcases sub x hx with z|z
    .exact .inl ⟨k,z⟩
    .exact .inr z
   .rw[zl e]at hx;exact .inl ⟨k,hx⟩
  .intro k;by_cases e:k=j
   .subst e;rw[zm];exact QI.mpr ⟨hlB,nb⟩
   .rw[zl e];exact I.nd k
  .intro i k x h1 h2;by_cases e:i=j
   .by_cases f:k=j
    .rw[e,f]
    .rw[e,zm]at h1;rw[zl f]at h2;rcases sub x h1 with z|z
     .rw[e];exact I.dj j k x z h2
     .have:=(I.bd k x h2).2;lia
   .rw[zl e]at h1;by_cases f:k=j
    .rw[f,zm]at h2;rcases sub x h2 with z|z
     .rw[f];exact I.dj i j x h1 z
     .have:=(I.bd i x h1).2;lia
    .rw[zl f]at h2;exact I.dj i k x h1 h2
  .intro k x hx;by_cases e:k=j
   .rw[e,zm]at hx;rcases Qo.mp hx with rfl|hx
    .exact ⟨(I.bd j _ (by rw[hA];simp)).1,Qf hlm le.len⟩
    .refine ⟨?_,aA.lt ds' ys B' o x hx⟩;rcases hB x hx with z|z
     .exact (I.bd j x (by rw[hA];exact Qh _ z)).1
     .exact Qu I.lom z
   .rw[zl e]at hx;exact⟨(I.bd k x hx).1,Qf (I.bd k x hx).2 le.len⟩
  .intro d lj h1 h2;rw[QG,Nj rfl,Nj hjl]at h1;cases h1;rw[hl]at h2;cases h2;refine⟨_,a,?_⟩;rw[zm];exact bD.mpr ⟨l,ys,B',rfl,rfl,xZ (le l _ hm),aA.frame ds' ys B' (λx hx o z=>by rw[y0 (l:=l) (x:=x) (λe=>hlB (by rw[e];exact hx))];exact z) o⟩
theorem aA.item:∀{ds:List Dat}{xs:List Wd}{A:List Nat}{p:Nat}{d:Dat},aA m ds xs A->ds[p]?=some d->∃x B,(xs[p]?=some x/\bn m d x B)/\∀b∈B,b∈A
 |[],xs,A,p,d,h,z=>by simp at z
 |e::ds,xs,A,0,d,h,z=>by
  obtain⟨x,r,B,C,rfl,rfl,a,b⟩:=h.cons_inv;simp at z;subst z;exact⟨x,B,⟨rfl,a⟩,λb hb=>QS _ hb⟩
 |e::ds,xs,A,p+1,d,h,z=>by
  obtain⟨x,r,B,C,rfl,rfl,a,b⟩:=h.cons_inv;obtain⟨y,D,h1,h2⟩:=aA.item b (by simpa using z);exact⟨y,D,by simpa using h1,λb hb=>Qs _ (h2 b hb)⟩
theorem mf:∀{ds:List Dat}{xs:List Wd}{A:List Nat}{p:Nat}{d:Dat},aA m ds xs A->ds[p]?=some d ->
  ∃x B1 Bp B2,xs[p]?=some x/\A=B1++(Bp++B2)/\bn m d x Bp/\(∀(i:Nat) e y,i≠p->ds[i]?=some e->xs[i]?=some y->∃Bi,bn m e y Bi/\∀b∈Bi,b∈B1\/b∈B2)/\∀(m':Me) (d':Dat) (x':Wd) (B':List Nat),(∀l,l∈B1\/l∈B2->∀o,m[l]?=some o->m'[l]?=some o)->bn m' d' x' B'->aA m' (ds.set p d') (xs.set p x') (B1++(B'++B2))
 |[],xs,A,p,d,h,z=>by simp at z
 |e::ds,xs,A,0,d,h,z=>by
  obtain⟨x,r,B,C,rfl,rfl,a,b⟩:=h.cons_inv;simp at z;subst z;refine⟨x,[],B,C,rfl,rfl,a,λi e y hi h1 h2=>?_,λm' d' x' B' fr o=>?_⟩
  .cases i with
   |zero=>exact Nl rfl hi
   |succ i=>
    simp at h1 h2;obtain⟨y',Bi,o,hB⟩:=aA.item b h1;rw[h2]at o;obtain⟨o1,o2⟩:=o;cases o1;exact⟨Bi,o2,λz hz=>.inr (hB z hz)⟩
  show aA m' (d'::ds) (x'::r) (B'++C);exact aA.cons o (aA.frame ds r C (λl hl=>fr l (.inr hl)) b)
 |e::ds,xs,A,p+1,d,h,z=>by
  obtain⟨x,r,B,C,rfl,rfl,a,b⟩:=h.cons_inv;obtain⟨y,B1,Bp,B2,h1,rfl,h3,h5,h4⟩:=mf b (by simpa using z);refine⟨y,B++B1,Bp,B2,by simpa using h1,by simp[Wm],h3,λi e' y' hi g1 g2=>?_,λm' d' x' B' fr o=>?_⟩
  .cases i with
   |zero=>simp at g1 g2;subst g1;subst g2;exact⟨B,a,λz hz=>.inl (QS _ hz)⟩
   |succ i=>
    simp at g1 g2;obtain⟨Bi,o,hB⟩:=h5 i e' y' (by lia) g1 g2;exact⟨Bi,o,λz hz=>by rcases hB z hz with q|q;exact .inl (Qs _ q);exact .inr q⟩
  rw[Wm];exact aA.cons (bn.frame e x B (λl hl=>fr l (.inl (QS _ hl))) a) (h4 m' d' x' B' (λl hl=>fr l (by rcases hl with hl|hl;exact .inl (Qs _ hl);exact .inr hl)) o)
def uA (le:Le m m1)(o:bn m1 d w B0)(nd:B0.Nodup)(hB:∀b∈B0,m.length<=b):fR RR A m m1 ds xs (ds++[d]) (xs++[w]):=by
 refine⟨λB nb q=>⟨B++(B0++[]),(aA.frame ds xs B (λl _ o z=>le l o z) q).app (.cons o .nil),?_,?_⟩,λq=>?_⟩
 .rw[QZ];refine Qz.mpr ⟨nb,nd,λx hx y hy e=>?_⟩;have:=aA.lt ds xs B q x hx;have:=hB y hy;lia
 .intro b hb;rw[QZ]at hb;rcases QL.mp hb with z|z
  .exact .inl z
  .exact .inr (hB b z)
 .exact (ae.frame (λl o r z=>⟨.inl r,le l o z⟩) _ _ q).app (.cons (bn.rep d w B0 (λb hb=>.inr (hB b hb)) o) .nil)
def uz (p:Nat)(le:Le m m1)(o:bn m1 d w B0)(nd:B0.Nodup)(hB:∀b∈B0,m.length<=b):fR RR A m m1 ds xs (ds.set p d) (xs.set p w):=by
 refine⟨λB nb q=>?_,λq=>?_⟩
 .cases hp:ds[p]? with
  |none=>
   have h1:ds.length<=p:=QV.mp hp;rw[Wv h1,Wv (by rw[<-q.len];exact h1)];exact⟨B,aA.frame ds xs B (λl _ o z=>le l o z) q,nb,λb hb=>.inl hb⟩
  |some e=>
   obtain⟨y,B1,Bp,B2,h1,rfl,h3,_,h4⟩:=mf q hp;refine⟨B1++(B0++B2),h4 m1 d w B0 (λl _ o z=>le l o z) o,?_,?_⟩
   .have hlt:=aA.lt ds xs _ q;rw[Qz]at nb ⊢;obtain⟨n1,n2,n3⟩:=nb;rw[Qz]at n2 ⊢;obtain⟨n4,n5,n6⟩:=n2;refine⟨n1,⟨nd,n5,λx hx y hy e=>?_⟩,λx hx y hy e=>?_⟩
    .have:=hB x hx;have:=hlt y (by simp[hy]);lia
    .rcases QL.mp hy with hy|hy
     .have:=hB y hy;have:=hlt x (by simp[hx]);lia
     .exact n3 x hx y (Qs _ hy) e
   .intro b hb;simp only[QL]at hb ⊢;rcases hb with z|z|z
    .exact .inl (.inl z)
    .exact .inr (hB b z)
    .exact .inl (.inr (.inr z))
 .exact (ae.frame (λl o r z=>⟨.inl r,le l o z⟩) _ _ q).set p (bn.rep d w B0 (λb hb=>.inr (hB b hb)) o)
theorem aA.rev:∀{ds:List Dat}{xs:List Wd}{A:List Nat},A.Nodup->aA m ds xs A->∃B,aA m ds.reverse xs.reverse B/\B.Nodup/\∀b∈B,b∈A
 |[],xs,A,nd,h=>by rw[h.nil_inv.1];exact⟨[],.nil,QB,by simp⟩
 |d::ds,xs,A,nd,h=>by
  obtain⟨x,r,B,C,rfl,rfl,a,b⟩:=h.cons_inv;obtain⟨n1,n2,n3⟩:=Qz.mp nd;obtain⟨D,o,nD,hD⟩:=aA.rev n2 b;rw[Wb,Wb];refine⟨D++(B++[]),o.app (.cons a .nil),?_,?_⟩
  .rw[QZ];exact Qz.mpr ⟨nD,n1,λx hx y hy e=>n3 y hy x (hD x hx) e.symm⟩
  .intro b hb;simp only[QZ,QL]at hb ⊢;rcases hb with z|z
   .exact .inr (hD b z)
   .exact .inl z
def dN:fR RR A m m ds xs ds.reverse xs.reverse:=by
 refine⟨λB nb q=>?_,λq=>(ae.frame (λl o r z=>⟨.inl r,z⟩) _ _ q).rev⟩;obtain⟨D,o,nD,hD⟩:=aA.rev nb q;exact⟨D,o,nD,λb hb=>.inl (hD b hb)⟩
def dO:fR RR A m m ds xs [] []:=
 ⟨λB nb q=>⟨[],.nil,QB,by simp⟩,λq=>.nil⟩
theorem pU:∀{ds:List Dat}{xs:List Wd}{A:List Nat},A.Nodup->aA m ds xs A->∃B,aA m ds.dropLast xs.dropLast B/\B.Nodup/\∀b∈B,b∈A
 |[],xs,A,nd,h=>by rw[h.nil_inv.1];exact⟨[],.nil,QB,by simp⟩
 |[d],xs,A,nd,h=>by
  obtain⟨x,r,B,C,rfl,rfl,a,b⟩:=h.cons_inv;rw[b.nil_inv.1];exact⟨[],.nil,QB,by simp⟩
 |d::e::ds,xs,A,nd,h=>by
  obtain⟨x,r,B,C,rfl,rfl,a,b⟩:=h.cons_inv;obtain⟨n1,n2,n3⟩:=Qz.mp nd;obtain⟨D,o,nD,hD⟩:=pU n2 b;obtain⟨y,r',B',C',rfl,rfl,a',b'⟩:=b.cons_inv;refine⟨B++D,.cons a o,Qz.mpr ⟨n1,nD,λx hx y hy e=>n3 x hx y (hD y hy) e⟩,λb hb=>?_⟩;rcases QL.mp hb with z|z
  .exact QS _ z
  .exact Qs _ (hD b z)
def Ap:fR RR A m m ds xs ds.dropLast xs.dropLast:=by
 refine⟨λB nb q=>?_,λq=>?_⟩
 .obtain ⟨D,o,nD,hD⟩:=pU nb q;exact⟨D,o,nD,λb hb=>.inl (hD b hb)⟩
 .rw[WG,WG,<-q.len];exact(ae.frame (λl o r z=>⟨.inl r,z⟩) _ _ q).take _
def Ge (h:ae R m ds xs)(hm:m[l]?=some (.lst xs))(b:aj R m e y):ag R m (jG (.ref l) y m) (zN (.lst ds) e):=by
 cases e with
 |int i=>
  rw[aa.mp b];simp only[zN,jG,xa,xT,zA,hm];cases z:(ix ds.length i).bind λj=>ds[j]? with
  |none=>exact ag.no
  |some v=>
   obtain⟨j,h1,h2⟩:=QH.mp z;obtain⟨x,h3,p⟩:=h.get h2;rw[h.len]at h1;simp only[h1,WF,h3];exact dQ p
 |_=>exact ag.no
def jw (I:Inv lo RR m de lv env A)(h:∀i∈vs,∀l,lv[i]?=some l->l=.no):bW (xl RR A) m vs de env:=
 ⟨I.len,λi hi d hd=>by
  obtain⟨l,hl⟩:=I.getlv hd;obtain⟨w,a,b⟩:=I.slot i d l hd hl;rw[h i hi l hl]at b;exact⟨w,a,b.1⟩⟩
theorem bB:∀(vs:List Nat) (lv:List Lv),(aR vs lv).length=lv.length
 |[],lv=>rfl
 |i::vs,lv=>by unfold aR;rw[bB vs];simp
def uy (de:aO)(j:Nat)(lv:List Lv)(h:k≠j):(cu de j lv)[k]?=lv[k]?:=by
 have q:∃l,cu de j lv=lv.set j l:=by
  unfold cu;generalize de[j]?=p;generalize lv[j]?=q;cases p with
  |none=>exact⟨_,rfl⟩
  |some o=>
   cases o with
   |none=>exact⟨_,rfl⟩
   |some d=>
    cases d with
    |lst ds=>
     cases q with
     |none=>exact⟨_,rfl⟩
     |some l=>cases l<;>exact⟨_,rfl⟩
    |_=>exact⟨_,rfl⟩
 obtain⟨l,e⟩:=q;rw[e];exact Qw (Ne.symm h)
def Eg (e:Ex)(de:aO)(lv:List Lv)(h:k∉zu e):(yJ e de lv)[k]?=lv[k]?:=by
 have gen:∀vs,k∉vs->(aR vs lv)[k]?=lv[k]?:=λvs h=>by rw[y9,Nk (λz=>h z.1)]
 cases e with
 |idx o b=>
  cases o with
  |var j=>
   replace h:k∉j::zu b:=h
   rw[Qo,not_or]at h;show(cu de j (aR (zu b) lv))[k]?=_;rw[uy _ _ _ h.1,gen _ h.2]
  |_=>exact gen _ h
 |dget o b=>
  by_cases q:∃j i w,o=.var j/\b=.idx (.var i) (.neg (.lit w))
  .obtain ⟨j,i,w,rfl,rfl⟩:=q;exact gen [j] (by
    replace h:k∉j::zu (.idx (.var i) (.neg (.lit w))):=h
    rw[Qo,not_or]at h;simpa using h.1)
  .have:yJ (.dget o b) de lv=aR (zu (.dget o b)) lv:=by
    unfold yJ;split
    .next e=>cases e
    .next e=>cases e;exact Nl ⟨_,_,_,rfl,rfl⟩ q
    .rfl
   rw[this];exact gen _ h
 |_=>exact gen _ h
def Inv.topD (I:Inv lo RR m de lv env A)(j:Nat):
  ∃A',Inv lo RR m de (cu de j lv) env A'/\bi A m A' m/\(∀i,i≠j->A' i=A i)/\((∃ds l xs,de[j]?=some (some (.lst ds))/\A' j=[l]/\env[j]?=some (some (.ref l))/\m[l]?=some (.lst xs)/\ae (xl RR A') m ds xs)\/((Vl.cu de j lv)[j]?=some .no\/lv.length<=j)):=by
 by_cases h:(∃ds,de[j]?=some (some (.lst ds)))/\zU lv j=true
 .obtain ⟨⟨ds,hd⟩,ho⟩:=h;obtain⟨l,xs,A',I',K,h1,h2,h3,h4,h5,_⟩:=I.top j hd ho;have:Vl.cu de j lv=lv.set j .top:=by
   unfold Vl.cu;rw[hd];unfold zU at ho;cases z:lv[j]? with
   |none=>rw[z]at ho;simp at ho
   |some l=>rw[z]at ho;cases l<;>simp at ho ⊢
  rw[this];exact⟨A',I',K,h2,.inl ⟨ds,l,xs,hd,h1,h3,h4,h5⟩⟩
 .obtain ⟨I',K⟩:=I.down j;have:Vl.cu de j lv=lv.set j .no:=by
   unfold Vl.cu;split
   .next ds hd hl=>exact Nl ⟨⟨ds,hd⟩,by unfold zU;rw[hl]⟩ h
   .next ds hd hl=>exact Nl ⟨⟨ds,hd⟩,by unfold zU;rw[hl]⟩ h
   .rfl
  rw[this];refine⟨_,I',K,λi hi=>zl hi,.inr ?_⟩;by_cases z:j<lv.length
  .left;rw[QG,Nj rfl,Nj z]
  .right;lia
def Inv.relEv (H:bM lev cl cd)(I:Inv lo RR m de lv env A)(e:Ex):
  ∃A',Inv lo RR m de (yJ e de lv) env A'/\bi A m A' m/\(∀k,k∉zu e->A' k=A k)/\aN (xl RR A') m (aU lev e) (af cl e env m) (ak cd e de):=by
 have gen:yJ e de lv=Vl.aR (zu e) lv->∃A',Inv lo RR m de (yJ e de lv) env A'/\bi A m A' m/\(∀k,k∉zu e->A' k=A k)/\aN (xl RR A') m (aU lev e) (af cl e env m) (ak cd e de):=by
  intro h;rw[h];obtain⟨A',I',K,h1,_,h3⟩:=Inv.downs (zu e) I;refine⟨A',I',K,h3,ww H e _ m de env (jw I' λi hi l hl=>?_)⟩;rw[y9]at hl;split at hl
  .cases hl;rfl
  .next z=>rw[Qn (by have:¬i<lv.length:=λq=>z ⟨hi,q⟩;lia)]at hl;cases hl
 cases e with
 |dget a b=>
  by_cases q:∃j i w,a=.var j/\b=.idx (.var i) (.neg (.lit w))
  .obtain ⟨j,i0,w0,rfl,rfl⟩:=q;show ∃A',Inv lo RR m de (Vl.aR [j] lv) env A'/\_;obtain⟨A1,I1,K1,h1,_,h3⟩:=Inv.downs [j] I;refine⟨A1,I1,K1,λk hk=>h3 k (λz=>hk (by
    have z:k=j:=by simpa using z
    subst z;show k∈k::zu (.idx (.var i0) (.neg (.lit w0)))
    simp)),ag.own ?_ (λd=>rfl)⟩
   show ag _ m ((af cl (.var j) env m).bind λx m1=>(af cl (.idx (.var i0) (.neg (.lit w0))) env m1).bind λy m2=>gP x y m2) ((ak cd (.var j) de).bind λx=>(ak cd (.idx (.var i0) (.neg (.lit w0))) de).bind λy=>kA x y);refine(zi H.r (.var j) _ m de env (jw I1 λi hi l hl=>?_)).bind λd w m1 l1 r1=>?_
   .have hi:i=j:=by simpa using hi
    subst hi;rw[y9]at hl;split at hl
    .cases hl;rfl
    .next z=>rw[Qn (by have:¬i<lv.length:=λq=>z ⟨by simp,q⟩;lia)]at hl;cases hl
   .have hb:=zi H.r (.idx (.var i0) (.neg (.lit w0))) RR m1 de env ((I1.ext l1).envR _);cases z2:ak cd (.idx (.var i0) (.neg (.lit w0))) de with
    |no=>trivial
    |exc c d2=>
     exfalso;have hx:∀(x y:Dat) (c:Nat) (d:Dat),zN x y≠.exc c d:=λx y c d z=>by
      unfold zN at z
      repeat' split at z
      all_goals cases z
     have:(ak cd (.var i0) de).bind (λx=>(ak cd (.neg (.lit w0)) de).bind λy=>zN x y)=.exc c d2:=z2;cases e1:ak cd (.var i0) de with
     |no=>rw[e1]at this;cases this
     |exc _ _=>
      have e1:(match de[i0]? with|some (some d)=>Rd.ok d|_=>.no)=_:=e1;split at e1<;>cases e1
     |ok x=>
      rw[e1]at this;cases e2:ak cd (.neg (.lit w0)) de with
      |no=>
       have this:(ak cd (.neg (.lit w0)) de).bind (λy=>zN x y)=.exc c d2:=this;rw[e2]at this;cases this
      |exc _ _=>
       have e2:(ak cd (.lit w0) de).bind (λx=>match x with |.int i=>Rd.ok (.int (-i))|_=>.no)=_:=e2;cases e3:ak cd (.lit w0) de with
       |no=>rw[e3]at e2;cases e2
       |exc _ _=>
        have e3:(match pX w0 with|some d=>Rd.ok d|none=>.no)=_:=e3;split at e3<;>cases e3
       |ok z=>
        rw[e3]at e2;have e2:(match z with |.int i=>Rd.ok (.int (-i))|_=>.no)=_:=e2;split at e2<;>cases e2
      |ok y=>
       have this:(ak cd (.neg (.lit w0)) de).bind (λy=>zN x y)=.exc c d2:=this;rw[e2]at this;exact hx x y c d2 this
    |ok d2=>
     rw[z2]at hb;obtain⟨w2,m2,e2,l2,r2⟩:=hb;rw[e2];cases hk:wU d2 with
     |none=>
      have:kA d d2=.no:=by
       cases d with
       |dct ks ds=>show(match (wU d2).bind (dE ks ds)with|some v=>Rd.ok v|none=>.no)=_;rw[hk];rfl
       |_=>rfl
      show ag _ _ _ (kA d d2);rw[this];trivial
     |some k=>
      have fl:ax d2=true:=by
       cases d2 with
       |tup ds=>
        have hk:xX ds=some k:=hk;show aY ds=true;clear r2 z2
        induction ds generalizing k with
        |nil=>rfl
        |cons x r ih=>
         cases x with
         |int i=>
          obtain⟨k',e,rfl⟩:=QE.mp (show(xX r).map (i::·)=some k from hk);show(ax (.int i)&&aY r)=true;rw[ih _ e e];rfl
         |_=>cases hk
       |_=>cases hk
      have r3:aj (λ_=>False) m2 d2 w2:=bn.rep d2 w2 [] (by simp) (aj.flat (m':=m2) d2 w2 fl r2);exact ag.lift l2 (Ar (aj.frame (λl o r z=>⟨.inl r,l2 l o z⟩) _ _ r1) (aj.frame (λl o r z=>⟨.inl (by cases r),z⟩) _ _ r3))
  .refine gen ?_;unfold yJ;split
   .next e=>cases e
   .next e=>cases e;exact Nl ⟨_,_,_,rfl,rfl⟩ q
   .rfl
 |idx a b=>
  cases a with
  |var j=>
   show ∃A',Inv lo RR m de (Vl.cu de j (Vl.aR (zu b) lv)) env A'/\_;obtain⟨A1,I1,K1,h1,h2,h3⟩:=Inv.downs (zu b) I;obtain⟨A2,I2,K2,g1,g2⟩:=I1.topD j;have hne:∀k,k∉zu (.idx (.var j) b)->A2 k=A k:=by
    intro k hk
    replace hk:k∉j::zu b:=hk
    rw[Qo,not_or]at hk;rw[g1 k hk.1,h3 k hk.2]
   refine⟨A2,I2,K1.trans K2,hne,?_⟩;have lvno:∀i,i∈zu b->i≠j->∀l,(Vl.cu de j (Vl.aR (zu b) lv))[i]?=some l->l=.no:=by
    intro i hi hij l hl;rw[uy _ _ _ hij,y9]at hl;split at hl
    .cases hl;rfl
    .next z=>rw[Qn (by have:¬i<lv.length:=λq=>z ⟨hi,q⟩;lia)]at hl;cases hl
   rcases g2 with⟨ds,l,xs,hd,hA,he,hm,hr⟩|g2
   .have hjb:j∉zu b:=λz=>by
     have h0:=h1 j z;have hx:l∈A1 j:=by
      have i1:=I1;by_cases q:l∈A1 j
      .exact q
      .exfalso;have:=(K2.1 l _ (λk hk=>?_) hm).1 j
       .rw[hA]at this;exact this (by simp)
       .by_cases ek:k=j
        .rw[ek]at hk;exact q hk
        .have e1:=g1 k ek;rw[<-e1]at hk;exact ek (I2.dj k j l hk (by rw[hA];simp))
     rw[h0]at hx;cases hx
    refine ag.own ?_ (λd=>rfl);show ag _ m ((af cl (.var j) env m).bind λx m1=>(af cl b env m1).bind λy m2=>jG x y m2) ((ak cd (.var j) de).bind λx=>(ak cd b de).bind λy=>zN x y);have e1:af cl (.var j) env m=.ok (.ref l) m:=j6 he m;have e2:ak cd (.var j) de=.ok (.lst ds):=xF hd;rw[e1,e2];simp only[Rz.bind,Rd.bind];refine(zi H.r b _ m de env (jw I2 λi hi=>lvno i hi (λe=>hjb (by rw[<-e];exact hi)))).bind λd2 w2 m2 l2 k2=>?_;exact Ge (hr.up _ l2) (l2 l _ hm) k2
   .refine ww H _ _ m de env (jw I2 λi hi l hl=>?_)
    replace hi:i∈j::zu b:=hi
    rw[Qo]at hi;by_cases e:i=j
    .rw[e]at hl;rcases g2 with g2|g2
     .rw[g2]at hl;cases hl;rfl
     .have:(Vl.cu de j (Vl.aR (zu b) lv)).length=(Vl.aR (zu b) lv).length:=by rw[I2.lvl,I1.lvl]
      rw[Qn (by lia)]at hl;cases hl
    .rcases hi with z|z
     .exact Nl z e
     .exact lvno i z e l hl
  |_=>exact gen rfl
 |_=>exact gen rfl
def aJ(lo:Nat)(RR:Nat->Prop)(A:Nat->List Nat)(m:Me)(r:Rs)(rd:b7):Prop:=match rd with
 |.next de lv=>∃env m' A',r=.next env m'/\Inv lo RR m' de lv env A'/\bi A m A' m'
 |.brk de lv=>∃env m' A',r=.brk env m'/\Inv lo RR m' de lv env A'/\bi A m A' m'
 |.cont de lv=>∃env m' A',r=.cont env m'/\Inv lo RR m' de lv env A'/\bi A m A' m'
 |.ret d l=>∃w m' B,r=.ret w m'/\((∀(x:Nat) o,(∀i,x∉A i)->m[x]?=some o->m'[x]?=some o)/\m.length<=m'.length)/\bx (λx=>RR x/\x∉B) m' l d w B/\B.Nodup/\∀b∈B,lo<=b
 |.exc c d=>∃w e m',r=.exc c w e m'/\((∀(x:Nat) o,(∀i,x∉A i)->m[x]?=some o->m'[x]?=some o)/\m.length<=m'.length)/\aj RR m' d w
 |.no=>True
def aJ.keep{lo:Nat}{RR:Nat->Prop}{A A1:Nat->List Nat}{m m1:Me}{r:Rs}{rd:b7}(K:bi A m A1 m1)(h:aJ lo RR A1 m1 r rd):aJ lo RR A m r rd:=by
 cases rd with
 |next de lv=>obtain⟨e,m',A',h,I,k⟩:=h;exact⟨e,m',A',h,I,K.trans k⟩
 |brk de lv=>obtain⟨e,m',A',h,I,k⟩:=h;exact⟨e,m',A',h,I,K.trans k⟩
 |cont de lv=>obtain⟨e,m',A',h,I,k⟩:=h;exact⟨e,m',A',h,I,K.trans k⟩
 |ret d l=>obtain⟨w,m',B,h,k,z⟩:=h;exact⟨w,m',B,h,⟨λx o a b=>k.1 x o (K.1 x o a b).1 (K.1 x o a b).2,Qu K.2 k.2⟩,z⟩
 |exc c d=>obtain⟨w,e,m',h,k,z⟩:=h;exact⟨w,e,m',h,⟨λx o a b=>k.1 x o (K.1 x o a b).1 (K.1 x o a b).2,Qu K.2 k.2⟩,z⟩
 |no=>trivial
def Inv.rf (I:Inv lo RR m de lv env A)(h:aj (Rf RR m.length) m' d w):aj RR m' d w:=
 aj.frame (λx o r z=>⟨by rcases r with r|r;exact r;exact I.rr x (Qu I.lom r),z⟩) d w h
def Inv.bindE (H:bG cl cd)(I:Inv lo RR m de lv env A)(e:Ex)(k:∀d w m1,ak cd e de=.ok d->af cl e env m=.ok w m1->Le m m1->aj RR m1 d w->aJ lo RR A m1 (f w m1) (g d)):aJ lo RR A m ((af cl e env m).bindS env f) ((ak cd e de).bindS g):=by
 have h:=zi H e RR m de env (I.envR _);cases z:ak cd e de with
 |no=>trivial
 |exc c d=>
  rw[z]at h;obtain⟨w,m',h,l,r⟩:=h;rw[h];exact⟨w,env,m',rfl,⟨λx o _ b=>l x o b,l.len⟩,I.rf r⟩
 |ok d=>
  rw[z]at h;obtain⟨w,m',h,l,r⟩:=h;have:=k d w m' z h l (I.rf r);rw[h];exact aJ.keep (vD l) this
def Inv.own (H:bM lev cl cd)(I:Inv lo RR m de lv env A)(h1:ak cd e de=.ok d)(h2:af cl e env m=.ok w m1):
  ∃B,bx (λx=>RR x/\x∉B) m1 (aU lev e d) d w B/\B.Nodup/\∀b∈B,m.length<=b:=by
 have h:=ww H e RR m de env (I.envR _);rw[h1]at h;obtain⟨w',m',B,h3,l,r,nd,hB⟩:=h;rw[h2]at h3;cases h3;exact⟨B,r.frame (λx o r z=>⟨⟨by rcases r.1 with r|r;exact r;exact I.rr x (Qu I.lom r),r.2⟩,z⟩) (λ_ _ _ z=>z),nd,hB⟩
section
variable{lev:Nat->Lv}{cl:Nat->List Wd->Me->Rz}{cd:Nat->List Dat->Rd}{lo:Nat}{RR:Nat->Prop}{m:Me}{de:aO}{lv:List Lv}{env:En}{A:Nat->List Nat}
def vE (h:xK de j=some ds):de[j]?=some (some (.lst ds)):=by
 unfold xK at h;split at h
 .next z=>cases h;exact z
 .cases h
def vh (h:env[j]?=some (some w))(m:Me):af cl (.var j) env m=.ok w m:=by
 exact j6 h m
def Ef(H:bM lev cl cd)(I:Inv lo RR m de lv env A)(i:Nat)(e:Ex):aJ lo RR A m (bA cl (.asg i e) env m) (aG lev cd (.asg i e) de lv):=by
 have h:aJ lo RR A m ((af cl e env m).bindS env λw m1=>.next (env.set i (some w)) m1) ((ak cd e de).bindS λd=>vN lev i e d de lv):=by
  cases z:ak cd e de with
  |no=>trivial
  |exc c d=>
   have:=I.bindE H.r e (f:=λw m1=>.next (env.set i (some w)) m1) (g:=λd=>.no) (λ_ _ _ _ _ _ _=>trivial);rw[z]at this;exact this
  |ok d=>
   show aJ lo RR A m _ (vN lev i e d de lv);unfold vN;by_cases f:aU lev e d=.full
   .rw[Nj f];have h:=ww H e RR m de env (I.envR _);rw[z]at h;obtain⟨w,m1,B,h2,l,r,nd,hB⟩:=h;rw[h2];rw[f]at r;obtain⟨I',K⟩:=I.store l i (l:=.full) (d:=d) (w:=w) (B:=B) r nd hB;exact⟨_,_,_,rfl,I',K⟩
   .rw[Nk f];obtain⟨A1,I1,K1,_,h⟩:=I.relEv H e;rw[z]at h;obtain⟨w,m1,B,h2,l,r,nd,hB⟩:=h;rw[h2];obtain⟨I',K⟩:=I1.store l i (l:=aU lev e d) (d:=d) (w:=w) (B:=B) r nd hB;exact⟨_,_,_,rfl,I',K1.trans K⟩
 exact h
def Ao (H:bM lev cl cd)(I:Inv lo RR m de lv env A)(hd:de[j]?=some (some (.lst ds)))(h1:ak cd e de=.ok d)(h2:af cl e env m=.ok w m1)(l1:Le m m1)(l2:Le m1 m2)(g:xJ lev e d j de lv=some (de1,lv1))(F:List Dat->Dat->List Dat)(G:List Wd->Wd->List Wd)(cF:∀(m m1:Me) (A:Nat->List Nat) (ds:List Dat) (xs:List Wd) (d:Dat) (w:Wd) (B0:List Nat),Le m m1->bn m1 d w B0->B0.Nodup->(∀b∈B0,m.length<=b)->fR RR A m m1 ds xs (F ds d) (G xs w))(cM:∀(m:Me) (ds:List Dat) (xs:List Wd) (d:Dat) (w:Wd) (B B0:List Nat),(B++B0).Nodup->aA m ds xs B->bn m d w B0->∃B',aA m (F ds d) (G xs w) B'/\B'.Nodup/\∀b∈B',b∈B\/b∈B0)(cT:∀(R:Nat->Prop) (m:Me) (ds:List Dat) (xs:List Wd) (d:Dat) (w:Wd),ae R m ds xs->aj R m d w->ae R m (F ds d) (G xs w)):
  ∃l xs,env[j]?=some (some (.ref l))/\m2[l]?=some (.lst xs)/\ds.length=xs.length/\∃A',Inv lo RR (m2.set l (.lst (G xs w))) (de1.set j (some (.lst (F ds d)))) lv1 env A'/\bi A m A' (m2.set l (.lst (G xs w))):=by
 have l12:=l1.trans l2;unfold xJ at g;split at g
 .cases g
 .next ho=>
  have ho:zU lv j=true:=by simpa using ho
  split at g
  .next f=>
   cases g;obtain⟨B,r,nd,hB⟩:=I.own H h1 h2;rw[f]at r;obtain⟨l,xs,he,hm,hr,put⟩:=I.mut hd ho;have r':bn m2 d w B:=bn.frame d w B (λx _ o z=>l2 x o z) r;refine⟨l,xs,he,l12 l _ hm,hr.len,put m2 _ _ l12 (λ_=>(cF m m2 A ds xs d w B l12 r' nd hB).1) (λ_=>(cF m m2 A ds xs d w B l12 r' nd hB).2)⟩
  .next f=>
   split at g
   .cases g
   .next hj=>
    have share:lv1=(yJ e de lv).set j .top->de1=de->∃l xs,env[j]?=some (some (.ref l))/\m2[l]?=some (.lst xs)/\ds.length=xs.length/\∃A',Inv lo RR (m2.set l (.lst (G xs w))) (de1.set j (some (.lst (F ds d)))) lv1 env A'/\bi A m A' (m2.set l (.lst (G xs w))):=by
     rintro rfl rfl;obtain⟨A1,I1,K1,hA1,h⟩:=I.relEv H e;rw[h1]at h;have ho1:zU (yJ e de1 lv) j=true:=by unfold zU;rw[Eg e _ _ hj];exact ho
     obtain⟨l,xs,A2,I2,K2,g1,g2,he,hm,hr,hlA⟩:=I1.top j hd ho1;have hs:=h.sim;obtain⟨w',m',h3,_,rw0⟩:=hs;rw[h2]at h3;cases h3;have hjl:j<(yJ e de1 lv).length:=by rw[I1.lvl];exact(Qa.mp hd).1
     have ho2:zU ((yJ e de1 lv).set j .top) j=true:=by unfold zU;rw[QG,Nj rfl,Nj hjl]
     have hlv:((yJ e de1 lv).set j .top)[j]?=some .top:=by rw[QG,Nj rfl,Nj hjl]
     obtain⟨l',xs',he',hm',_,put⟩:=I2.mut hd ho2;rw[he]at he';cases he';rw[hm]at hm';cases hm';obtain⟨A3,I3,K3⟩:=put m2 (F ds d) (G xs w) l12 (λz=>by rw[hlv]at z;cases z) (λ_ q=>by
      refine cT _ m2 ds xs d w (ae.frame (λx o r z=>⟨.inl r,l12 x o z⟩) _ _ q) (aj.frame (λx o r z=>⟨?_,l2 x o z⟩) _ _ rw0);rcases r with r|r
      .left
       refine⟨r.1,λk hk=>?_⟩;by_cases ek:k=j
       .rw[ek,g1]at hk;rw[QP.mp hk]at r;exact r.2 j hlA
       .rw[g2 k ek]at hk;exact r.2 k hk
      .exact .inr r)
     exact⟨l,xs,he,l12 l _ hm,hr.len,A3,I3,(K1.trans K2).trans K3⟩
    split at g
    .next i=>
     split at g
     .next hfull=>
      cases g;have hij:i≠j:=λe=>hj (by rw[e];exact QP.mpr rfl)
      -- the move
      have hdi:de[i]?=some (some d):=by
       exact tN h1
      obtain⟨wi,hei,ri⟩:=I.slot i d .full hdi hfull.1;have:af cl (.var i) env m=.ok wi m:=vh hei m;rw[this]at h2;cases h2;obtain⟨wj,hej,rj⟩:=I.slot j _ .full hd hfull.2;obtain⟨l,xs,B,rfl,hA,hm,r⟩:=bD.mp rj;have hlm:=(Qa.mp hm).1;have nd:=I.nd j;rw[hA]at nd;obtain⟨n0,n1⟩:=QI.mp nd;have nBi:(B++A i).Nodup:=Qz.mpr ⟨n1,I.nd i,λx hx y hy e=>by
       subst e;exact hij (I.dj i j x hy (by rw[hA];exact Qh _ hx))⟩
      obtain⟨B',o,nB',hB'⟩:=cM m ds xs d w B (A i) nBi r ri;have lB':l∉B':=λz=>by
       rcases hB' l z with q|q
       .exact n0 q
       .exact hij (I.dj i j l q (by rw[hA];simp))
      have sub:∀x∈l::B',x∈A j\/x∈A i:=by
       intro x hx;rcases Qo.mp hx with rfl|hx
       .left;rw[hA];simp
       .rcases hB' x hx with q|q
        .left;rw[hA];exact Qh _ q
        .exact .inr q
      have hjl:j<de.length:=(Qa.mp hd).1;have hil:i<de.length:=(Qa.mp hdi).1;have ui:aK (aK A i []) j (l::B') i=[]:=by rw[zl hij,zm]
      have uo:∀k,k≠i->k≠j->aK (aK A i []) j (l::B') k=A k:=λk a b=>by rw[zl b,zl a]
      have ll2:=l2.len;refine⟨l,xs,hej,l2 l _ hm,r.len,aK (aK A i []) j (l::B'),?_⟩;refine I.put l2 (j:=j) (l:=l) (xs:=xs) (by rw[hA];simp) _ ?_ ?_ ?_ ?_ (by simp) rfl ?_ ?_
      .intro k x hx
       left
       by_cases e:k=j
       .rw[e,zm]at hx;rcases sub x hx with q|q
        .exact ⟨j,q⟩
        .exact ⟨i,q⟩
       .by_cases f:k=i
        .rw[f,ui]at hx;cases hx
        .rw[uo k f e]at hx;exact⟨k,hx⟩
      .intro k;by_cases e:k=j
       .rw[e,zm];exact QI.mpr ⟨lB',nB'⟩
       .by_cases f:k=i
        .rw[f,ui];simp
        .rw[uo k f e];exact I.nd k
      .have main:∀k x,k≠j->x∈l::B'->x∈aK (aK A i []) j (l::B') k->False:=by
        intro k x e hx hk;by_cases f:k=i
        .rw[f,ui]at hk;cases hk
        .rw[uo k f e]at hk;rcases sub x hx with q|q
         .exact e (I.dj k j x hk q)
         .exact f (I.dj k i x hk q)
       intro a b x ha hb;by_cases e:a=j
       .by_cases f:b=j
        .rw[e,f]
        .rw[e,zm]at ha;exact(main b x f ha hb).elim
       .by_cases f:b=j
        .rw[f,zm]at hb;exact(main a x e hb ha).elim
        .by_cases g:a=i
         .rw[g,ui]at ha;cases ha
         .by_cases h:b=i
          .rw[h,ui]at hb;cases hb
          .rw[uo a g e]at ha;rw[uo b h f]at hb;exact I.dj a b x ha hb
      .intro k x hx;by_cases e:k=j
       .rw[e,zm]at hx;rcases sub x hx with q|q
        .exact ⟨(I.bd j x q).1,Qf (I.bd j x q).2 ll2⟩
        .exact ⟨(I.bd i x q).1,Qf (I.bd i x q).2 ll2⟩
       .by_cases f:k=i
        .rw[f,ui]at hx;cases hx
        .rw[uo k f e]at hx;exact⟨(I.bd k x hx).1,Qf (I.bd k x hx).2 ll2⟩
      .intro k d' lk e g1 g2;rw[Qw (Ne.symm e)]at g1;by_cases f:k=i
       .rw[f,QG,Nj rfl,Nj hil]at g1;cases g1
       .rw[Qw (Ne.symm f)]at g1;exact⟨g1,g2,uo k f e⟩
      .intro d' lj g1 g2;rw[QG,Nj rfl,Nj (by simpa using hjl)]at g1;cases g1;rw[hfull.2]at g2;cases g2;refine⟨_,hej,?_⟩;rw[zm];exact bD.mpr ⟨l,_,B',rfl,rfl,xZ (l2 l _ hm),aA.frame _ _ B' (λx hx o z=>by rw[y0 (l:=l) (x:=x) (λe=>lB' (by rw[e];exact hx))];exact l2 x o z) o⟩
     .cases g;exact share rfl rfl
    .cases g;exact share rfl rfl
end
section
variable{lev:Nat->Lv}{cl:Nat->List Wd->Me->Rz}{cd:Nat->List Dat->Rd}{lo:Nat}{RR:Nat->Prop}{m:Me}{de:aO}{lv:List Lv}{env:En}{A:Nat->List Nat}
def DF (h1:af cl o env m=.ok x m1)(h2:af cl e env m1=.ok w m2)(hl:xr x m1=true:=by simp only[xr,aT];simp_all):af cl (.meth n o (.pair e .unit)) env m=dr n x [w] m2:=by
 show(af cl o env m).bind (λx m1=>match xr x m1 with|true=>((af cl e env m1).bind λa m2=>.ok (.tup [a]) m2).bind λy m2=>dr n x (zn y) m2|false=>.no)=_;rw[h1];show(match xr x m1 with|true=>((af cl e env m1).bind λa m2=>.ok (.tup [a]) m2).bind λy m2=>dr n x (zn y) m2|false=>.no)=_;rw[hl,h2];rfl
def qO (h1:af cl o env m=.ok x m1)(hl:xr x m1=true:=by simp only[xr,aT];simp_all):af cl (.meth n o .unit) env m=dr n x [] m1:=by
 show(af cl o env m).bind (λx m1=>match xr x m1 with|true=>dr n x [] m1|false=>.no)=_;rw[h1];show(match xr x m1 with|true=>dr n x [] m1|false=>.no)=_;rw[hl]
def Ee (n:(B++B0).Nodup)(a:aA m ds xs B)(b:bn m d w B0):∃B',aA m (ds++[d]) (xs++[w]) B'/\B'.Nodup/\∀b∈B',b∈B\/b∈B0:=
 ⟨B++(B0++[]),a.app (.cons b .nil),by simpa using n,λx hx=>by simpa using hx⟩
def Fc (p:Nat)(n:(B++B0).Nodup)(a:aA m ds xs B)(b:bn m d w B0):∃B',aA m (ds.set p d) (xs.set p w) B'/\B'.Nodup/\∀b∈B',b∈B\/b∈B0:=by
 cases hp:ds[p]? with
 |none=>
  have h1:ds.length<=p:=QV.mp hp;rw[Wv h1,Wv (by rw[<-a.len];exact h1)];exact⟨B,a,(Qz.mp n).1,λb hb=>.inl hb⟩
 |some e=>
  obtain⟨y,B1,Bp,B2,h1,rfl,h3,_,h4⟩:=mf a hp;refine⟨B1++(B0++B2),h4 m d w B0 (λl _ o z=>z) b,?_,?_⟩
  .obtain ⟨q1,q2,q3⟩:=Qz.mp n;obtain⟨n1,n2,n3⟩:=Qz.mp q1;obtain⟨n4,n5,n6⟩:=Qz.mp n2;refine Qz.mpr ⟨n1,Qz.mpr ⟨q2,n5,λx hx y hy e=>q3 y (by simp[hy]) x hx e.symm⟩,λx hx y hy e=>?_⟩;rcases QL.mp hy with hy|hy
   .exact q3 x (by simp[hx]) y hy e
   .exact n3 x hx y (by simp[hy]) e
  .intro x hx;simp only[QL]at hx ⊢;rcases hx with z|z|z
   .exact .inl (.inl z)
   .exact .inr z
   .exact .inl (.inr (.inr z))
theorem aJ.okS{r:Rs}{rd:Rd}{g:Dat->b7}(h:∀d,rd=.ok d->aJ lo RR A m r (g d)):aJ lo RR A m r (rd.okS g):=by
 cases rd with
 |ok d=>exact h d rfl
 |_=>trivial
theorem Inv.ok (H:bG cl cd)(I:Inv lo RR m de lv env A)(h:ak cd e de=.ok d)(l:Le m m1):∃w m2,af cl e env m1=.ok w m2/\Le m1 m2/\aj RR m2 d w:=by
 have q:=zi H e RR m1 de env ((I.ext l).envR _);rw[h]at q;obtain⟨w,m2,a,b,c⟩:=q;exact⟨w,m2,a,b,(I.ext l).rf c⟩
def Inv.isRef (I:Inv lo RR m de lv env A){j:Nat}(hd:de[j]?=some (some (.lst ds)))(he:env[j]?=some (some w)):xr w m=true:=by
 obtain⟨lj,hl⟩:=I.getlv hd;obtain⟨w',a,b⟩:=I.slot j _ lj hd hl;rw[he]at a;cases a;obtain⟨l,xs,rfl,_,hm,_⟩:=aC.mp (b.rep (R':=λ_=>True) (λ_ _=>trivial) (λ_ _=>trivial));simp[xr,aT,hm]
def Gd(H:bM lev cl cd)(I:Inv lo RR m de lv env A)(j:Nat)(e:Ex):aJ lo RR A m (bA cl (.expr (.meth .append (.var j) (.pair e .unit))) env m) (aG lev cd (.expr (.meth .append (.var j) (.pair e .unit))) de lv):=by
 show aJ _ _ _ _ ((af cl _ env m).bindS env _) _;refine aJ.okS λd h1=>?_;split
 .next ds hl=>
  split
  .next hlim=>
   split
   .next de1 lv1 g=>
    obtain⟨w,m1,h2,l1,r1⟩:=I.ok H.r h1 (Le.refl m);obtain⟨l,xs,he,hm,hlen,A',I',K⟩:=Ao H I (vE hl) h1 h2 l1 (Le.refl m1) g (λds d=>ds++[d]) (λxs w=>xs++[w])
     (λ_ _ _ _ _ _ _ _ le o nd hB=>uA le o nd hB) (λ_ _ _ _ _ _ _ n a b=>Ee n a b) (λ_ _ _ _ _ _ a b=>a.app (.cons b .nil))
    rw[DF (vh he m) h2 (I.isRef (vE hl) he)];have:dr .append (.ref l) [w] m1=.ok .non (m1.set l (.lst (xs++[w]))):=by
     simp only[dr,hm];rw[Nj (by lia)]
    rw[this];exact⟨_,_,A',rfl,I',K⟩
   .trivial
  .trivial
 .trivial
def GS(I:Inv lo RR m de lv env A)(j:Nat):aJ lo RR A m (bA cl (.expr (.meth .reverse (.var j) .unit)) env m) (aG lev cd (.expr (.meth .reverse (.var j) .unit)) de lv):=by
 show aJ _ _ _ _ ((af cl _ env m).bindS env _) (match xK de j with
   |some ds=>if zU lv j then .next (de.set j (some (.lst ds.reverse))) lv else .no
   |none=>.no)
 split
 .next ds hl=>
  split
  .next ho=>
   obtain⟨l,xs,he,hm,hr,put⟩:=I.mut (vE hl) ho;obtain⟨A',I',K⟩:=put m ds.reverse xs.reverse (Le.refl m) (λ_=>(dN (RR:=RR) (A:=A)).1) (λ_=>dN.2);rw[qO (vh he m)];have:dr .reverse (.ref l) [] m=.ok .non (m.set l (.lst xs.reverse)):=by simp only[dr,hm]
   rw[this];exact⟨_,_,A',rfl,I',K⟩
  .trivial
 .trivial
def GR(I:Inv lo RR m de lv env A)(j:Nat):aJ lo RR A m (bA cl (.expr (.meth .clear (.var j) .unit)) env m) (aG lev cd (.expr (.meth .clear (.var j) .unit)) de lv):=by
 show aJ _ _ _ _ ((af cl _ env m).bindS env _) (match xK de j with
   |some ds=>if zU lv j then .next (de.set j (some (.lst []))) lv else .no
   |none=>.no)
 split
 .next ds hl=>
  split
  .next ho=>
   obtain⟨l,xs,he,hm,hr,put⟩:=I.mut (vE hl) ho;obtain⟨A',I',K⟩:=put m [] [] (Le.refl m) (λ_=>(dO (RR:=RR) (A:=A)).1) (λ_=>dO.2);rw[qO (vh he m)];have:dr .clear (.ref l) [] m=.ok .non (m.set l (.lst [])):=by simp only[dr,hm]
   rw[this];exact⟨_,_,A',rfl,I',K⟩
  .trivial
 .trivial
def Fb(H:bM lev cl cd)(I:Inv lo RR m de lv env A)(i:Nat)(op:Bo)(e:Ex):aJ lo RR A m (bA cl (.aug i op e) env m) (aG lev cd (.aug i op e) de lv):=by
 show aJ _ _ _ _ _ (match de[i]? with
  |some (some (.int a))=>(ak cd e de).okS λy=>match y with
   |.int b=>(zJ op (.int a) (.int b)).okS λz=>.next (de.set i (some z)) (lv.set i .full)
   |_=>.no
  |_=>.no)
 split
 .next a ha=>
  refine aJ.okS λy hy=>?_;split
  .next b=>
   refine aJ.okS λz hz=>?_;obtain⟨la,hla⟩:=I.getlv ha;obtain⟨wa,hea,ra⟩:=I.slot i _ la ha hla;have ra':=ra.rep (R':=RR) (λ_ z=>z.1) (λx hx=>I.rr x (I.bd i x hx).1);rw[aa.mp ra']at hea;show aJ _ _ _ _ (match env[i]? with
    |some (some x)=>(af cl e env m).bindS env λy m1=>iA op x y m1 env λz m2=>.next (env.set i (some z)) m2
    |_=>.no) _
   rw[hea];obtain⟨w,m1,h2,l1,r1⟩:=I.ok H.r hy (Le.refl m);rw[aa.mp r1]at h2;simp only[h2,Rz.bindS,iA];have hs:=qI (R:=RR) (m:=m1) op (d:=.int a) (e:=.int b) (aa.mpr rfl) (aa.mpr rfl);rw[hz]at hs;obtain⟨w3,m3,h3,l3,r3⟩:=hs;rw[h3];have fz:ax z=true:=by
    cases op<;>simp only[zJ]at hz
    .cases hz;rfl
    .cases hz;rfl
    all_goals (split at hz<;>(cases hz;try rfl))
   obtain⟨I',K⟩:=I.store (l1.trans l3) i (l:=.full) (d:=z) (w:=w3) (B:=[]) (r3.flat z w3 fz) QB (by simp);exact⟨_,_,_,rfl,I',K⟩
  .trivial
 .trivial
end
section
variable{lev:Nat->Lv}{cl:Nat->List Wd->Me->Rz}{cd:Nat->List Dat->Rd}{lo:Nat}{RR:Nat->Prop}{m:Me}{de:aO}{lv:List Lv}{env:En}{A:Nat->List Nat}
mutual
theorem aj.avoid{R R':Nat->Prop}{m:Me}{D:Dat}{l:Nat}(hD:aj R' m D (.ref l)):∀(d:Dat) (w:Wd),ee d<ee D->aj R m d w->aj (λx=>R x/\x≠l) m d w
 |.non,w,h,q=>aq.mpr (aq.mp q)
 |.bl _,w,h,q=>ah.mpr (ah.mp q)
 |.int _,w,h,q=>aa.mpr (aa.mp q)
 |.str _,w,h,q=>aB.mpr (aB.mp q)
 |.scr _,w,h,q=>bb.mpr (bb.mp q)
 |.tup ds,w,h,q=>by
  obtain⟨xs,rfl,q1⟩:=ai.mp q;exact ai.mpr ⟨xs,rfl,ae.avoid hD ds xs (by rw[show ee (.tup ds)=dg ds+1 from by simp[ee]]at h;lia) q1⟩
 |.lst ds,w,h,q=>by
  obtain⟨k,xs,rfl,r,hm,q1⟩:=aC.mp q;refine aC.mpr ⟨k,xs,rfl,⟨r,λe=>?_⟩,hm,ae.avoid hD ds xs (by rw[show ee (.lst ds)=dg ds+1 from by simp[ee]]at h;lia) q1⟩;subst e;have:=aj.det _ _ _ q hD;rw[this]at h;lia
 |.dct ks ds,w,h,q=>by
  obtain⟨k,xs,rfl,r,hm,q1⟩:=bo.mp q;refine bo.mpr ⟨k,xs,rfl,⟨r,λe=>?_⟩,hm,ae.avoid hD ds xs (by rw[show ee (.dct ks ds)=dg ds+1 from by simp[ee]]at h;lia) q1⟩;subst e;have:=aj.det _ _ _ q hD;rw[this]at h;lia
theorem ae.avoid{R R':Nat->Prop}{m:Me}{D:Dat}{l:Nat}(hD:aj R' m D (.ref l)):∀(ds:List Dat) (xs:List Wd),dg ds<ee D->ae R m ds xs->ae (λx=>R x/\x≠l) m ds xs
 |[],xs,h,q=>by rw[q.nil_inv];exact .nil
 |d::ds,xs,h,q=>by
  obtain⟨x,r,rfl,a,b⟩:=q.cons_inv;unfold dg at h;exact .cons (aj.avoid hD d x (by lia) a) (ae.avoid hD ds r (by lia) b)
end
def sQ (hm:m[l]?=some (.lst xs))(hk:ix xs.length k=some p):qt (.ref l) (.int k) w m=.ok .non (m.set l (.lst (xs.set p w))):=by
 simp[qt,hm,hk]
def GQ(H:bM lev cl cd)(I:Inv lo RR m de lv env A)(j:Nat)(k e:Ex):aJ lo RR A m (bA cl (.asgS (.var j) k e) env m) (aG lev cd (.asgS (.var j) k e) de lv):=by
 show aJ _ _ _ _ ((af cl e env m).bindS env _) _;refine aJ.okS λd h1=>aJ.okS λkv hk=>?_;unfold mI;split
 .next k' ds hl=>
  have hd:=vE hl;split
  .next p hp=>
   obtain⟨w,m1,h2,l1,r1⟩:=I.ok H.r h1 (Le.refl m);obtain⟨wk,m2,h3,l2,r3⟩:=I.ok H.r hk l1;rw[aa.mp r3]at h3;split
   .next de1 lv1 g=>
    obtain⟨l,xs,he,hm,hlen,A',I',K⟩:=Ao H I hd h1 h2 l1 l2 g (λds d=>ds.set p d) (λxs w=>xs.set p w)
     (λ_ _ _ _ _ _ _ _ le o nd hB=>uz p le o nd hB) (λ_ _ _ _ _ _ _ n a b=>Fc p n a b) (λ_ _ _ _ _ _ a b=>a.set p b)
    simp only[h2,Rz.bindS,vh he m1,h3,sQ hm (by rw[<-hlen];exact hp)];exact⟨_,_,A',rfl,I',K⟩
   .next g=>
    split
    .next c=>
     simp only[Qr,Np]at c;obtain⟨⟨ho,hdep⟩,_⟩:=c;obtain⟨l,xs,A0,I0,K0,g1,g2,he,hm,hr,hlA⟩:=I.top j hd ho;obtain⟨A1,I1,K1,q1,q2,q3⟩:=Inv.downs ((zu e).filter (·≠j)) I0;have hA1j:A1 j=[l]:=by rw[q3 j (by simp),g1]
     have elv:aR ((zu e).filter (·≠j)) (lv.set j .top)=(aR (zu e) lv).set j .top:=by
      apply Wg;intro i;rw[y9,QG];by_cases ei:j=i
      .subst ei;rw[Nk (by simp),Nj rfl,QG,Nj rfl,bB]
      .rw[Nk ei,Qw ei,y9,Wa];have:(i∈(zu e).filter (·≠j))↔i∈zu e:=by simp[Vv];intro _;exact λz=>ei z.symm
       simp only[this]
     rw[elv]at I1;have lno:∀i∈zu e,i≠j->∀x,((aR (zu e) lv).set j .top)[i]?=some x->x=.no:=by
      intro i hi hij x hx;rw[Qw (Ne.symm hij),y9]at hx;split at hx
      .cases hx;rfl
      .next z=>rw[Qn (by have:¬i<lv.length:=λq=>z ⟨hi,q⟩;lia)]at hx;cases hx
     have hr1:ae (xl RR A1) m ds xs:=(K1.repL hr);have env1:bW (λx=>xl RR A1 x\/x=l) m (zu e) de env:=by
      refine⟨I1.len,λi hi d' hd'=>?_⟩;by_cases ei:i=j
      .subst ei;rw[hd]at hd';cases hd';exact⟨_,he,aC.mpr ⟨l,xs,rfl,.inr rfl,hm,ae.frame (λx o r z=>⟨.inl r,z⟩) _ _ hr1⟩⟩
      .obtain ⟨li,hli⟩:=I1.getlv hd';obtain⟨w',a,b⟩:=I1.slot i d' li hd' hli;rw[lno i hi ei li hli]at b;exact⟨w',a,aj.frame (λx o r z=>⟨.inl r,z⟩) _ _ b.1⟩
     have hs:=zi H.r e _ m de env env1;rw[h1]at hs;obtain⟨w',m1',h2',_,rw1⟩:=hs;rw[h2]at h2';cases h2';have rwa:=aj.avoid (D:=.lst ds) (l:=l) (R':=λ_=>True) (m:=m1) (aC.mpr ⟨l,xs,rfl,trivial,l1 l _ hm,ae.frame (λx o r z=>⟨trivial,l1 x o z⟩) _ _ hr1⟩) d w hdep rw1;have hlm:=(Qa.mp hm).1;have hjl:j<lv.length:=by rw[I.lvl];exact(Qa.mp hd).1
     have hlv:((aR (zu e) lv).set j .top)[j]?=some .top:=by rw[QG,Nj rfl,Nj (by rw[bB];exact hjl)]
     obtain⟨l',xs',he',hm',hrr,put⟩:=I1.mut hd (by unfold zU;rw[hlv]);rw[he]at he';cases he';rw[hm]at hm';cases hm';obtain⟨A3,I3,K3⟩:=put m2 (ds.set p d) (xs.set p w) (l1.trans l2) (λz=>by rw[hlv]at z;cases z) (λ_ q=>by
      refine ae.set (ae.frame (λx o r z=>⟨.inl r,(l1.trans l2) x o z⟩) _ _ q) p (aj.frame (λx o r z=>⟨?_,l2 x o z⟩) _ _ rwa);rcases r.1 with (r1|r1)|r1
      .exact .inl r1
      .exact Nl r1 r.2
      .exact .inr r1)
     simp only[h2,Rz.bindS,vh he m1,h3,sQ (l2 l _ (l1 l _ hm)) (by rw[<-hr.len];exact hp)];exact⟨_,_,A3,rfl,I3,(K0.trans K1).trans K3⟩
    .trivial
  .trivial
 .trivial
end
theorem jg(q:List Int):∀(ks:List (List Int)) (n:Nat),(∃p,∀(α:Type) (zs:List α) (v:α),zs.length=n->yB ks zs q v=zs.set p v)\/∀(α:Type) (zs:List α) (v:α),zs.length=n->yB ks zs q v=zs++[v]
 |[],n=>.inr λα zs v _=>by cases zs<;>rfl
 |k::ks,0=>.inr λα zs v h=>by
  cases zs with
  |nil=>rfl
  |cons _ _=>cases h
 |k::ks,n+1=>by
  by_cases e:k=q
  .refine .inl ⟨0,λα zs v h=>?_⟩;cases zs with
   |nil=>cases h
   |cons z zs=>show(if k=q then v::zs else _)=_;rw[Nj e];rfl
  .rcases jg q ks n with⟨p,h⟩|h
   .refine .inl ⟨p+1,λα zs v hz=>?_⟩;cases zs with
    |nil=>cases hz
    |cons z zs=>show(if k=q then _ else z::yB ks zs q v)=_;rw[Nk e,h α zs v (by simpa using hz)];rfl
   .refine .inr λα zs v hz=>?_;cases zs with
    |nil=>cases hz
    |cons z zs=>show(if k=q then _ else z::yB ks zs q v)=_;rw[Nk e,h α zs v (by simpa using hz)];rfl
def Fa (ks:List (List Int))(q:List Int)(hlen:ds.length=xs.length)(le:Le m m1)(o:bn m1 d w B0)(nd:B0.Nodup)(hB:∀b∈B0,m.length<=b):fR RR A m m1 ds xs (yB ks ds q d) (yB ks xs q w):=by
 rcases jg q ks ds.length with⟨p,h⟩|h
 .rw[h _ ds d rfl,h _ xs w hlen.symm];exact uz p le o nd hB
 .rw[h _ ds d rfl,h _ xs w hlen.symm];exact uA le o nd hB
def Inv.mutD (I:Inv lo RR m de lv env A)(hd:de[j]?=some (some (.dct ks ds)))(hl:lv[j]?=some .full):
  ∃l xs,env[j]?=some (some (.ref l))/\m[l]?=some (.dct ks xs)/\ds.length=xs.length/\∀(m1:Me) (ks':List (List Int)) (ds':List Dat) (ys:List Wd),Le m m1->rL m m1 ds xs ds' ys ->
   ∃A1,Inv lo RR (m1.set l (.dct ks' ys)) (de.set j (some (.dct ks' ds'))) lv env A1/\bi A m A1 (m1.set l (.dct ks' ys)):=by
 obtain⟨w,a,b⟩:=I.slot j _ .full hd hl;have hjl:j<de.length:=(Qa.mp hd).1;obtain⟨l,xs,B,rfl,hA,hm,r⟩:=bY.mp b;have hlm:=(Qa.mp hm).1;have nd:=I.nd j;rw[hA]at nd;refine⟨l,xs,a,hm,r.len,λm1 ks' ds' ys le c=>?_⟩;obtain⟨B',o,nb,hB⟩:=c B (QI.mp nd).2 r;have hlB:l∉B':=λz=>by
  rcases hB l z with z|z
  .exact (QI.mp nd).1 z
  .lia
 have sub:∀x∈l::B',x∈A j\/m.length<=x:=by
  intro x hx;rcases Qo.mp hx with rfl|hx
  .left;rw[hA];simp
  .rcases hB x hx with z|z
   .left;rw[hA];exact Qh _ z
   .exact .inr z
 refine⟨aK A j (l::B'),?_⟩;refine I.putO le (j:=j) (l:=l) (by rw[hA];simp) _ ?_ ?_ ?_ ?_ (by simp) rfl ?_ ?_
 .intro k x hx;by_cases e:k=j
  .subst e;rw[zm]at hx;rcases sub x hx with z|z
   .exact .inl ⟨k,z⟩
   .exact .inr z
  .rw[zl e]at hx;exact .inl ⟨k,hx⟩
 .intro k;by_cases e:k=j
  .subst e;rw[zm];exact QI.mpr ⟨hlB,nb⟩
  .rw[zl e];exact I.nd k
 .intro i k x h1 h2;by_cases e:i=j
  .by_cases f:k=j
   .rw[e,f]
   .rw[e,zm]at h1;rw[zl f]at h2;rcases sub x h1 with z|z
    .rw[e];exact I.dj j k x z h2
    .have:=(I.bd k x h2).2;lia
  .rw[zl e]at h1;by_cases f:k=j
   .rw[f,zm]at h2;rcases sub x h2 with z|z
    .rw[f];exact I.dj i j x h1 z
    .have:=(I.bd i x h1).2;lia
   .rw[zl f]at h2;exact I.dj i k x h1 h2
 .intro k x hx;by_cases e:k=j
  .rw[e,zm]at hx;rcases Qo.mp hx with rfl|hx
   .exact ⟨(I.bd j _ (by rw[hA];simp)).1,Qf hlm le.len⟩
   .refine ⟨?_,aA.lt ds' ys B' o x hx⟩;rcases hB x hx with z|z
    .exact (I.bd j x (by rw[hA];exact Qh _ z)).1
    .exact Qu I.lom z
  .rw[zl e]at hx;exact⟨(I.bd k x hx).1,Qf (I.bd k x hx).2 le.len⟩
 .intro k d lk e h1 h2;rw[Qw (Ne.symm e)]at h1;exact⟨h1,h2,zl e⟩
 .intro d lj h1 h2;rw[QG,Nj rfl,Nj hjl]at h1;cases h1;rw[hl]at h2;cases h2;refine⟨_,a,?_⟩;rw[zm];exact bY.mpr ⟨l,ys,B',rfl,rfl,xZ (le l _ hm),aA.frame ds' ys B' (λx hx o z=>by rw[y0 (l:=l) (x:=x) (λe=>hlB (by rw[e];exact hx))];exact z) o⟩
section
variable{lev:Nat->Lv}{cl:Nat->List Wd->Me->Rz}{cd:Nat->List Dat->Rd}{lo:Nat}{RR:Nat->Prop}{m:Me}{de:aO}{lv:List Lv}{env:En}{A:Nat->List Nat}
def GP(H:bM lev cl cd)(I:Inv lo RR m de lv env A)(j:Nat)(k e:Ex):aJ lo RR A m (bA cl (.dput j k e) env m) (aG lev cd (.dput j k e) de lv):=by
 show aJ _ _ _ _ ((af cl e env m).bindS env _) _;refine aJ.okS λd h1=>aJ.okS λkv hk=>?_;split
 .next ks ds q hd hq=>
  split
  .next c=>
   obtain⟨c1,c2,c3⟩:=c;obtain⟨w,m1,h2,l1,r1⟩:=I.ok H.r h1 (Le.refl m);obtain⟨wk,m2,h3,l2,r3⟩:=I.ok H.r hk l1;obtain⟨B,ro,nd,hB⟩:=I.own H h1 h2;rw[c2]at ro;have ro:bn m1 d w B:=ro;obtain⟨l,xs,he,hm,hlen,put⟩:=I.mutD hd c1;obtain⟨A1,I1,K1⟩:=put m2 (wZ ks q) (yB ks ds q d) (yB ks xs q w) (l1.trans l2) (Fa (RR:=RR) (A:=A) ks q hlen (l1.trans l2) (bn.frame d w B (λx _ o z=>l2 x o z) ro) nd hB).1;rw[h2];show aJ _ _ _ _ ((af cl (.var j) env m1).bindS env _) _;rw[vh he m1];show aJ _ _ _ _ ((af cl k env m1).bindS env _) _;rw[h3];have e2:gQ (.ref l) wk w m2=.ok .non (m2.set l (.dct (wZ ks q) (yB ks xs q w))):=by
    unfold gQ;simp only[(l1.trans l2) l _ hm,uX r3 hq,Nj c3]
   show aJ _ _ _ _ ((gQ (.ref l) wk w m2).bindS env _) _;rw[e2];exact⟨env,_,A1,rfl,I1,K1⟩
  .trivial
 .trivial
end
section
variable{lev:Nat->Lv}{cl:Nat->List Wd->Me->Rz}{cd:Nat->List Dat->Rd}{lo:Nat}{RR:Nat->Prop}
def Inv.bindSlot{m:Me}{de:aO}{lv:List Lv}{env:En}{A:Nat->List Nat}(I:Inv lo RR m de lv env A)(i:Nat){d:Dat}{w:Wd}(h:aj (xl RR A) m d w):Inv lo RR m (de.set i (some d)) (lv.set i (aS d)) (env.set i (some w)) (aK A i [])/\bi A m (aK A i []) m:=by
 refine I.store (Le.refl m) i (B:=[]) ?_ QB (by simp);unfold aS;split
 .next f=>exact h.flat d w f
 .exact ⟨aj.frame (λx o r z=>⟨⟨.inl r,by simp⟩,z⟩) _ _ h,rfl⟩
theorem vF (hb:∀x w m de lv env A,Inv lo RR m de lv env A->aj (xl RR A) m x w->aJ lo RR A m (bw w env m) (bd x de lv)):
  ∀(ds:List Dat) (xs:List Wd) (m:Me) (de:aO) (lv:List Lv) (env:En) (A:Nat->List Nat),Inv lo RR m de lv env A->ae (xl RR A) m ds xs->aJ lo RR A m (wR bw xs env m) (xj bd ds de lv)
 |[],xs,m,de,lv,env,A,I,r=>by
  rw[r.nil_inv];exact⟨env,m,A,rfl,I,bi.refl A m⟩
 |d::ds,xs,m,de,lv,env,A,I,r=>by
  obtain⟨x,xs,rfl,a,b⟩:=r.cons_inv;have h:=hb d x m de lv env A I a;unfold wR xj;cases z:bd d de lv with
  |next d1 l1=>
   rw[z]at h;obtain⟨e1,m1,A1,h1,I1,K1⟩:=h;rw[h1];exact aJ.keep K1 (vF hb ds xs m1 d1 l1 e1 A1 I1 (K1.repL b))
  |cont d1 l1=>
   rw[z]at h;obtain⟨e1,m1,A1,h1,I1,K1⟩:=h;rw[h1];exact aJ.keep K1 (vF hb ds xs m1 d1 l1 e1 A1 I1 (K1.repL b))
  |brk d1 l1=>
   rw[z]at h;obtain⟨e1,m1,A1,h1,I1,K1⟩:=h;rw[h1];exact⟨e1,m1,A1,rfl,I1,K1⟩
  |ret d l=>
   rw[z]at h;obtain⟨w,m1,B,h1,k⟩:=h;rw[h1];exact⟨w,m1,B,rfl,k⟩
  |exc c d=>
   rw[z]at h;obtain⟨w,e,m1,h1,k⟩:=h;rw[h1];exact⟨w,e,m1,rfl,k⟩
  |no=>trivial
theorem k8 (hb:∀x w m de lv env A,Inv lo RR m de lv env A->aj (xl RR A) m x w->aJ lo RR A m (bw w env m) (bd x de lv)):
  ∀(ds:List Dat) (i k:Nat) (m:Me) (de:aO) (lv:List Lv) (env:En) (A:Nat->List Nat),Inv lo RR m de lv env A->(∀k,l∉A k)->m[l]?=some (.lst xs0)->ae (xl RR A) m ds (xs0.drop i)->i+ds.length=xs0.length->ds.length<k->aJ lo RR A m (wS bw l k i env m) (xj bd ds de lv)
 |[],i,0,m,de,lv,env,A,I,hl,hm,r,hi,hk=>by simp at hk
 |d::ds,i,0,m,de,lv,env,A,I,hl,hm,r,hi,hk=>by simp at hk
 |[],i,k+1,m,de,lv,env,A,I,hl,hm,r,hi,hk=>by
  unfold wS xj zA;rw[hm];simp only;rw[Qn (by simp at hi;lia)];exact⟨env,m,A,rfl,I,bi.refl A m⟩
 |d::ds,i,k+1,m,de,lv,env,A,I,hl,hm,r,hi,hk=>by
  obtain⟨x,q,e0,a,b⟩:=r.cons_inv;have hx:xs0[i]?=some x:=by
   have:(xs0.drop i)[0]?=some x:=by rw[e0];rfl
   simpa using this
  have hr:q=xs0.drop (i+1):=by
   have:(xs0.drop i).drop 1=q:=by rw[e0];rfl
   rw[<-this,WU]
  rw[hr]at b;have hi':i+1+ds.length=xs0.length:=by simp at hi;lia
  have hk':ds.length<k:=by simp at hk;lia
  have h:=hb d x m de lv env A I a;unfold wS xj zA;rw[hm];simp only;rw[hx];simp only;cases z:bd d de lv with
  |next d1 l1=>
   rw[z]at h;obtain⟨e1,m1,A1,h1,I1,K1⟩:=h;rw[h1];exact aJ.keep K1 (k8 hb ds (i+1) k m1 d1 l1 e1 A1 I1 (K1.1 l _ hl hm).1 (K1.1 l _ hl hm).2 (K1.repL b) hi' hk')
  |cont d1 l1=>
   rw[z]at h;obtain⟨e1,m1,A1,h1,I1,K1⟩:=h;rw[h1];exact aJ.keep K1 (k8 hb ds (i+1) k m1 d1 l1 e1 A1 I1 (K1.1 l _ hl hm).1 (K1.1 l _ hl hm).2 (K1.repL b) hi' hk')
  |brk d1 l1=>
   rw[z]at h;obtain⟨e1,m1,A1,h1,I1,K1⟩:=h;rw[h1];exact⟨e1,m1,A1,rfl,I1,K1⟩
  |ret d l=>
   rw[z]at h;obtain⟨w,m1,B,h1,k⟩:=h;rw[h1];exact⟨w,m1,B,rfl,k⟩
  |exc c d=>
   rw[z]at h;obtain⟨w,e,m1,h1,k⟩:=h;rw[h1];exact⟨w,e,m1,rfl,k⟩
  |no=>trivial
def ux{bw:Wd->En->Me->Rs}{bd:Dat->aO->List Lv->b7}(H:bM lev cl cd)(hb:∀x w m de lv env A,Inv lo RR m de lv env A->aj (xl RR A) m x w->aJ lo RR A m (bw w env m) (bd x de lv)){m:Me}{de:aO}{lv:List Lv}{env:En}{A:Nat->List Nat}(I:Inv lo RR m de lv env A)(it:Ex):
  aJ lo RR A m ((af cl it env m).bindS env λw m1=>fv bw w env m1) ((ak cd it de).bindS λd=>match cQ d with
   |some xs=>xj bd xs de (if ax d then lv else yJ it de lv)
   |none=>.no):=by
 have run:∀(d:Dat) (w:Wd) (m1:Me) (xs:List Dat) (lv1:List Lv) (A1:Nat->List Nat),cQ d=some xs->Inv lo RR m1 de lv1 env A1->aj (xl RR A1) m1 d w->aJ lo RR A1 m1 (fv bw w env m1) (xj bd xs de lv1):=by
  intro d w m1 xs lv1 A1 hi I1 r;cases d with
  |tup ds=>cases hi;obtain⟨ys,rfl,r1⟩:=ai.mp r;exact vF hb _ _ _ _ _ _ _ I1 r1
  |scr ns=>cases hi;rw[bb.mp r];exact vF hb _ _ _ _ _ _ _ I1 (fu ns)
  |lst ds=>
   simp only[cQ]at hi;split at hi
   .next z=>
    cases hi;obtain⟨l,ys,rfl,hR,hm,r1⟩:=aC.mp r;have:=r1.len;exact k8 hb _ 0 (av+1) m1 de lv1 env A1 I1 hR.2 hm (by simpa using r1) (by lia) (by lia)
   .cases hi
  |_=>cases hi
 cases z:ak cd it de with
 |no=>trivial
 |exc c d=>
  have:=I.bindE H.r it (f:=λw m1=>fv bw w env m1) (g:=λd=>.no) (λ_ _ _ _ _ _ _=>trivial);rw[z]at this;exact this
 |ok d=>
  show aJ lo RR A m _ (match cQ d with
   |some xs=>xj bd xs de (if ax d then lv else yJ it de lv)
   |none=>.no)
  cases hi:cQ d with
  |none=>trivial
  |some xs=>
   simp only;split
   .next f=>
    obtain⟨w,m1,h2,l1,r1⟩:=I.ok H.r z (Le.refl m);rw[h2];exact aJ.keep (vD l1) (run d w m1 xs lv A hi (I.ext l1) (bn.rep d w [] (by simp) (r1.flat d w f)))
   .obtain ⟨A1,I1,K1,_,h⟩:=I.relEv H it;rw[z]at h;obtain⟨w,m1,h2,l1,r1⟩:=h.sim;rw[h2];refine aJ.keep (K1.trans (vD l1)) (run d w m1 xs _ A1 hi (I1.ext l1) (aj.frame (λx o r z=>⟨?_,z⟩) _ _ r1));rcases r with r|r
    .exact r
    .exact ⟨I.rr x (Qu I.lom r),λk hk=>by have:=(I1.bd k x hk).2;lia⟩
theorem k9{cw:En->Me->Rz}{bw:En->Me->Rs}{c:aO->Rd}{bd:aO->List Lv->b7}(hc:∀m de lv env A,Inv lo RR m de lv env A->match c de with |.ok d=>∃w m1,cw env m=.ok w m1/\Le m m1/\aj RR m1 d w |.exc k d=>∃w m1,cw env m=.exc k w m1/\Le m m1/\aj RR m1 d w |.no=>True)
  (hb:∀m de lv env A,Inv lo RR m de lv env A->aJ lo RR A m (bw env m) (bd de lv)):∀(k:Nat) (m:Me) (de:aO) (lv:List Lv) (env:En) (A:Nat->List Nat),Inv lo RR m de lv env A->aJ lo RR A m (je cw bw k env m) (yM c bd k de lv)
 |0,m,de,lv,env,A,I=>trivial
 |k+1,m,de,lv,env,A,I=>by
  have h:=hc m de lv env A I;unfold je yM;cases z:c de with
  |no=>trivial
  |exc j d=>
   rw[z]at h;obtain⟨w,m1,h1,l1,r1⟩:=h;rw[h1];exact⟨w,env,m1,rfl,⟨λx o _ b=>l1 x o b,l1.len⟩,r1⟩
  |ok d=>
   rw[z]at h;obtain⟨w,m1,h1,l1,r1⟩:=h;rw[h1];cases d with
   |bl b=>
    rw[ah.mp r1];cases b with
    |false=>exact⟨env,m1,A,rfl,I.ext l1,vD l1⟩
    |true=>
     have h2:=hb m1 de lv env A (I.ext l1);refine aJ.keep (vD l1) ?_;simp only;cases z2:bd de lv with
     |next d1 l2=>
      rw[z2]at h2;obtain⟨e1,m2,A1,h3,I1,K1⟩:=h2;rw[h3];exact aJ.keep K1 (k9 hc hb k m2 d1 l2 e1 A1 I1)
     |cont d1 l2=>
      rw[z2]at h2;obtain⟨e1,m2,A1,h3,I1,K1⟩:=h2;rw[h3];exact aJ.keep K1 (k9 hc hb k m2 d1 l2 e1 A1 I1)
     |brk d1 l2=>
      rw[z2]at h2;obtain⟨e1,m2,A1,h3,I1,K1⟩:=h2;rw[h3];exact⟨e1,m2,A1,rfl,I1,K1⟩
     |ret d l=>
      rw[z2]at h2;obtain⟨w,m2,B,h3,k⟩:=h2;rw[h3];exact⟨w,m2,B,rfl,k⟩
     |exc c d=>
      rw[z2]at h2;obtain⟨w,e,m2,h3,k⟩:=h2;rw[h3];exact⟨w,e,m2,rfl,k⟩
     |no=>trivial
   |_=>trivial
def Inv.drop{m:Me}{de:aO}{lv:List Lv}{env:En}{A:Nat->List Nat}(I:Inv lo RR m de lv env A)(i:Nat)(hi:i<de.length):Inv lo RR m (de.set i none) (lv.set i .full) env A:=by
 refine⟨by simp[I.len],by simp[I.lvl],I.rr,I.lom,λk d l h1 h2=>?_,I.nd,I.dj,I.bd⟩;by_cases e:i=k
 .subst e;rw[QG,Nj rfl]at h1;split at h1
  .cases h1
  .cases h1
 .rw[Qw e]at h1 h2;exact I.slot k d l h1 h2
def GO (I:Inv lo RR m de lv env A)(j:Nat):aJ lo RR A m (bA cl (.expr (.meth .pop (.var j) .unit)) env m) (aG lev cd (.expr (.meth .pop (.var j) .unit)) de lv):=by
 show aJ _ _ _ _ ((af cl _ env m).bindS env _) (match xK de j with
   |some ds=>if zU lv j&&decide (ds.length≠0)then .next (de.set j (some (.lst ds.dropLast))) lv else .no
   |none=>.no)
 split
 .next ds hl=>
  split
  .next ho=>
   simp only[Qr,Np]at ho;obtain⟨l,xs,he,hm,hr,put⟩:=I.mut (vE hl) ho.1;obtain⟨A',I',K⟩:=put m ds.dropLast xs.dropLast (Le.refl m) (λ_=>(Ap (RR:=RR) (A:=A)).1) (λ_=>(Ap (RR:=RR) (A:=A)).2);have e1:=hr.len;obtain⟨y,hy⟩:∃y,xs[xs.length-1]?=some y:=⟨xs[xs.length-1]'(by lia),Qe (by lia)⟩;rw[qO (vh he m)];have:dr .pop (.ref l) [] m=.ok y (m.set l (.lst xs.dropLast)):=by
    simp only[dr,hm];rw[hy]
   rw[this];exact⟨_,_,A',rfl,I',K⟩
  .trivial
 .trivial
def GN (H:bM lev cl cd)(I:Inv lo RR m de lv env A)(i j k:Nat)(e:Ex):aJ lo RR A m (bA cl (.unp3 i j k e) env m) (aG lev cd (.unp3 i j k e) de lv):=by
 show aJ _ _ _ _ ((af cl e env m).bindS env λw m1=>match dL i j k w m1 env with
  |some e1=>.next e1 m1
  |none=>.no) ((ak cd e de).bindS λd=>match xa d with
  |some [a,b,c]=>.next (((de.set i (some a)).set j (some b)).set k (some c)) ((((yJ e de lv).set i (aS a)).set j (aS b)).set k (aS c))
  |_=>.no)
 cases z:ak cd e de with
 |no=>trivial
 |exc c d=>
  have:=I.bindE H.r e (f:=λw m1=>match dL i j k w m1 env with
   |some e1=>.next e1 m1
   |none=>.no) (g:=λd=>.no) (λ_ _ _ _ _ _ _=>trivial)
  rw[z]at this;exact this
 |ok d=>
  show aJ _ _ _ _ _ (match xa d with
   |some [a,b,c]=>.next (((de.set i (some a)).set j (some b)).set k (some c)) ((((yJ e de lv).set i (aS a)).set j (aS b)).set k (aS c))
   |_=>.no)
  split
  .next a b c hs=>
   obtain⟨A1,I1,K1,_,h⟩:=I.relEv H e;rw[z]at h;obtain⟨w,m1,h2,l1,r1⟩:=h.sim;rw[h2];have r:aj (xl RR A1) m1 d w:=by
    refine aj.frame (λx o r z=>⟨?_,z⟩) _ _ r1;rcases r with r|r
    .exact r
    .exact ⟨I.rr x (Qu I.lom r),λk hk=>by have:=(I1.bd k x hk).2;lia⟩
   obtain⟨xs,hq,rl⟩:=vw r hs;obtain⟨x,r2,rfl,ra,rb⟩:=rl.cons_inv;obtain⟨y,r3,rfl,rb1,rc⟩:=rb.cons_inv;obtain⟨u,r4,rfl,rc1,rn⟩:=rc.cons_inv;cases rn.nil_inv;obtain⟨I2,K2⟩:=(I1.ext l1).bindSlot i ra;obtain⟨I3,K3⟩:=I2.bindSlot j (K2.rep rb1);obtain⟨I4,K4⟩:=I3.bindSlot k (K3.rep (K2.rep rc1));refine aJ.keep (((K1.trans (vD l1)).trans K2).trans (K3.trans K4)) ?_;show aJ _ _ _ _ (match dL i j k w m1 env with
    |some e1=>.next e1 m1
    |none=>.no) _
   unfold dL;rw[hq];exact⟨_,_,_,rfl,I4,bi.refl _ _⟩
  .trivial
def E9 (H:bM lev cl cd)(I:Inv lo RR m de lv env A)(e:Ex):aJ lo RR A m (bA cl (.ret e) env m) (aG lev cd (.ret e) de lv):=by
 show aJ _ _ _ _ ((af cl e env m).bindS env _) ((ak cd e de).bindS _);cases z:ak cd e de with
 |no=>trivial
 |exc c d=>
  have:=I.bindE H.r e (f:=λw m1=>.ret w m1) (g:=λd=>.no) (λ_ _ _ _ _ _ _=>trivial);rw[z]at this;exact this
 |ok d=>
  obtain⟨w,m1,h2,l1,r1⟩:=I.ok H.r z (Le.refl m);rw[h2];show aJ lo RR A m (.ret w m1) (.ret d (cn lev e d lv));have kp:(∀(x:Nat) o,(∀i,x∉A i)->m[x]?=some o->m1[x]?=some o)/\m.length<=m1.length:=⟨λx o _ b=>l1 x o b,l1.len⟩;have no:bx (λx=>RR x/\x∉([]:List Nat)) m1 .no d w []:=⟨aj.frame (λx o r z=>⟨⟨r,by simp⟩,z⟩) _ _ r1,rfl⟩;by_cases f:ax d=true
  .refine ⟨w,m1,[],rfl,kp,?_,QB,by simp⟩;unfold cn;rw[Nj f];exact r1.flat d w f
  .unfold cn;rw[Nk f];split
   .next i=>
    have hdi:de[i]?=some (some d):=by
     exact tN z
    obtain⟨l,hl⟩:=I.getlv hdi;obtain⟨w',he,ro⟩:=I.slot i d l hdi hl;rw[vh he m]at h2;cases h2;rw[hl];refine⟨_,_,A i,rfl,kp,?_,I.nd i,λb hb=>(I.bd i b hb).1⟩;exact ro.frame (λx o r z=>⟨⟨r.1,r.2 i⟩,z⟩) (λ_ _ _ z=>z)
   .next a b=>
    split
    .next c=>
     obtain⟨hab,ha,hb⟩:=c;have:∃da db,de[a]?=some (some da)/\de[b]?=some (some db)/\d=.tup [da,db]:=by
      have hz:ak cd (.tup (.pair (.var a) (.pair (.var b) .unit))) de=((ak cd (.var a) de).bind λx=>((ak cd (.var b) de).bind λy=>.ok (.tup [y])).bind λy=>.ok (.tup (x::zY y))).bind λx=>if(zY x).length<=av then .ok (.tup (zY x))else .no:=rfl;rw[hz]at z;cases q1:de[a]? with
      |none=>rw[xH (.inl q1)]at z;cases z
      |some o=>cases o with
       |none=>rw[xH (.inr q1)]at z;cases z
       |some da=>
        rw[xF q1]at z;cases q2:de[b]? with
        |none=>rw[xH (.inl q2)]at z;cases z
        |some o=>cases o with
         |none=>rw[xH (.inr q2)]at z;cases z
         |some db=>
          rw[xF q2]at z;simp[Rd.bind,zY,av]at z;exact⟨da,db,rfl,rfl,z.symm⟩
     obtain⟨da,db,h3,h4,rfl⟩:=this;obtain⟨wa,ea,oa⟩:=I.slot a da .full h3 ha;obtain⟨wb,eb,ob⟩:=I.slot b db .full h4 hb;have hw:af cl (.tup (.pair (.var a) (.pair (.var b) .unit))) env m=.ok (.tup [wa,wb]) m:=by
      show(((af cl (.var a) env m).bind λx m1=>((af cl (.var b) env m1).bind λy m2=>.ok (.tup [y]) m2).bind λy m2=>.ok (.tup (x::zn y)) m2).bind λx m1=>if(zn x).length<=av then .ok (.tup (zn x)) m1 else .no)=_;rw[vh ea m];simp only[Rz.bind];rw[vh eb m];simp[zn,av]
     rw[hw]at h2;cases h2;refine⟨_,_,A a++(A b++[]),rfl,kp,bK.mpr ⟨_,rfl,.cons oa (.cons ob .nil)⟩,?_,?_⟩
     .rw[QZ];exact Qz.mpr ⟨I.nd a,I.nd b,λx hx y hy e=>hab (I.dj a b x hx (by rw[e];exact hy))⟩
     .intro x hx;rw[QZ]at hx;rcases QL.mp hx with q|q
      .exact (I.bd a x q).1
      .exact (I.bd b x q).1
    .exact ⟨w,m1,[],rfl,kp,no,QB,by simp⟩
   .obtain ⟨B,ro,nd,hB⟩:=I.own H z h2;exact⟨w,m1,B,rfl,kp,ro,nd,λb hb=>Qu I.lom (hB b hb)⟩
theorem vj(H:bM lev cl cd):∀(s:Sm) (m:Me) (de:aO) (lv:List Lv) (env:En) (A:Nat->List Nat),Inv lo RR m de lv env A->aJ lo RR A m (bA cl s env m) (aG lev cd s de lv)
 |.skip,m,de,lv,env,A,I=>by show aJ _ _ _ _ (.next env m) (.next de lv);exact⟨env,m,A,rfl,I,bi.refl A m⟩
 |.seq a b,m,de,lv,env,A,I=>by
  cases hv:yt a b with
  |some t=>rw[qN,hv];exact trivial
  |none=>
   have h:=vj H a m de lv env A I;rw[qN,hv];show aJ _ _ _ _ (match bA cl a env m with
    |.next e1 m1=>bA cl b e1 m1
    |r=>r) _
   cases z:aG lev cd a de lv with
   |next d1 l1=>
    rw[z]at h;obtain⟨e1,m1,A1,h1,I1,K1⟩:=h;rw[h1];exact aJ.keep K1 (vj H b m1 d1 l1 e1 A1 I1)
   |cont d1 l1=>
    rw[z]at h;obtain⟨e1,m1,A1,h1,I1,K1⟩:=h;rw[h1];exact⟨e1,m1,A1,rfl,I1,K1⟩
   |brk d1 l1=>
    rw[z]at h;obtain⟨e1,m1,A1,h1,I1,K1⟩:=h;rw[h1];exact⟨e1,m1,A1,rfl,I1,K1⟩
   |ret d l=>
    rw[z]at h;obtain⟨w,m1,B,h1,k⟩:=h;rw[h1];exact⟨w,m1,B,rfl,k⟩
   |exc c d=>
    rw[z]at h;obtain⟨w,e,m1,h1,k⟩:=h;rw[h1];exact⟨w,e,m1,rfl,k⟩
   |no=>trivial
 |.asg i e,m,de,lv,env,A,I=>Ef H I i e
 |.dput j k e,m,de,lv,env,A,I=>GP H I j k e
 |.asgS o k e,m,de,lv,env,A,I=>by
  cases o with
  |var j=>exact GQ H I j k e
  |_=>exact trivial
 |.aug i op e,m,de,lv,env,A,I=>Fb H I i op e
 |.ite c a b,m,de,lv,env,A,I=>by
  refine I.bindE H.r c λd w m1 _ _ l1 r1=>?_;cases d with
  |bl t=>
   rw[ah.mp r1];cases t with
   |true=>exact vj H a m1 de lv env A (I.ext l1)
   |false=>exact vj H b m1 de lv env A (I.ext l1)
  |_=>trivial
 |.forv i it body,m,de,lv,env,A,I=>by
  refine ux H (λx w m de lv env A I r=>?_) I it;obtain⟨I1,K1⟩:=I.bindSlot i r;exact aJ.keep K1 (vj H body _ _ _ _ _ I1)
 |.fort i j it body,m,de,lv,env,A,I=>by
  refine ux H (λx w m de lv env A I r=>?_) I it;split
  .next a b=>
   obtain⟨xs,rfl,r1⟩:=ai.mp r;obtain⟨x,r2,rfl,ra,rb⟩:=r1.cons_inv;obtain⟨y,r3,rfl,rb,rn⟩:=rb.cons_inv;rw[rn.nil_inv];obtain⟨I1,K1⟩:=I.bindSlot i ra;obtain⟨I2,K2⟩:=I1.bindSlot j (K1.rep rb);exact aJ.keep (K1.trans K2) (vj H body _ _ _ _ _ I2)
  .trivial
 |.unp3 i j k e,m,de,lv,env,A,I=>GN H I i j k e
 |.while c body,m,de,lv,env,A,I=>by
  refine k9 (λm de lv env A I=>?_) (λm de lv env A I=>vj H body m de lv env A I) _ m de lv env A I;have h:=zi H.r c RR m de env (I.envR _);cases z:ak cd c de with
  |no=>trivial
  |ok d=>rw[z]at h;obtain⟨w,m1,h1,l1,r1⟩:=h;exact⟨w,m1,h1,l1,I.rf r1⟩
  |exc k d=>rw[z]at h;obtain⟨w,m1,h1,l1,r1⟩:=h;exact⟨w,m1,h1,l1,I.rf r1⟩
 |.ret e,m,de,lv,env,A,I=>E9 H I e
 |.expr e,m,de,lv,env,A,I=>by
  have dflt:aJ lo RR A m (bA cl (.expr e) env m) ((ak cd e de).bindS λ_=>.next de lv):=by
   exact I.bindE H.r e λd w m1 _ _ l1 _=>⟨env,m1,A,rfl,I.ext l1,bi.refl A m1⟩
  cases e with
  |meth n o a=>
   cases n with
   |append=>
    cases o with
    |var j=>
     cases a with
     |pair e u=>cases u with
      |unit=>exact Gd H I j e
      |_=>exact trivial
     |_=>exact trivial
    |_=>exact trivial
   |reverse=>
    cases o with
    |var j=>
     cases a with
     |unit=>exact GS (cl:=cl) (cd:=cd) (lev:=lev) I j
     |_=>exact trivial
    |_=>exact trivial
   |clear=>
    cases o with
    |var j=>
     cases a with
     |unit=>exact GR (cl:=cl) (cd:=cd) (lev:=lev) I j
     |_=>exact trivial
    |_=>exact trivial
   |pop=>
    cases o with
    |var j=>
     cases a with
     |unit=>exact GO (cl:=cl) (cd:=cd) (lev:=lev) I j
     |_=>exact trivial
    |_=>exact trivial
  |_=>exact dflt
 |.never,m,de,lv,env,A,I=>by exact trivial
end
def g9{α β:Type}(f:α->β)(z:β)(xs:List α)(n i:Nat):(xs.map f++Qx n z)[i]?=if i<xs.length then(xs[i]?).map f else if i<xs.length+n then some z else none:=by
 rw[List.getElem?_append,Qm];split
 .rw[Qt]
 .rw[Wz];by_cases h:i-xs.length<n
  .rw[Nj h,Nj (by lia)]
  .rw[Nk h,Nk (by lia)]
def Iw (fn:Fn)(h:ae R m ds ws):Inv m.length (Rf R m.length) m (xQ fn ds) (xk fn ds) (yY fn ws) (λ_=>[]):=by
 have hl:=h.len;refine⟨?_,?_,λl hl=>.inr hl,Qk _,?_,λ_=>QB,(λ_ _ _ h=>by cases h),(λ_ _ h=>by cases h)⟩
 .simp[xQ,yY,hl]
 .simp[xQ,xk]
 .intro i d l h1 h2;unfold xQ at h1;unfold xk at h2;rw[g9]at h1 h2;by_cases hi:i<ds.length
  .rw[Nj hi]at h1 h2;obtain⟨d',e1,e2⟩:=QE.mp h1;cases e2;rw[e1]at h2;cases h2;obtain⟨w,hw,r⟩:=h.get e1;refine⟨w,?_,?_⟩
   .unfold yY;rw[g9,Nj (by lia),hw];rfl
   .unfold aS;split
    .next f=>exact r.flat d w f
    .exact ⟨aj.frame (λx o r z=>⟨⟨.inl r,λ_ h=>by cases h⟩,z⟩) _ _ r,rfl⟩
  .rw[Nk hi]at h1;split at h1<;>cases h1
def E8 (H:bM lev cl cd)(k:Nat)(fn:Fn)(ds:List Dat)(ws:List Wd)(R:Nat->Prop)(m:Me)(h:ae R m ds ws):aN R m (vg lev k) (wL cl fn ws m) (zB lev cd k fn ds):=by
 unfold wL zB;rw[h.len];split
 .have s:=vj H fn.body m _ _ _ _ (Iw fn h);cases z:aG lev cd fn.body (xQ fn ds) (xk fn ds)with
  |next d1 l1=>
   rw[z]at s;obtain⟨e1,m1,A1,h1,I1,K1⟩:=s;rw[h1];refine⟨.non,m1,[],rfl,λl o q=>(K1.1 l o (λ_ h=>by cases h) q).2,?_,QB,by simp⟩;unfold vg bx bn;simp[ax]
  |ret d l=>
   rw[z]at s;obtain⟨w,m1,B,h1,⟨kp,_⟩,ro,nd,hB⟩:=s;rw[h1];have le:Le m m1:=λl o q=>kp l o (λ_ h=>by cases h) q;show aN R m (vg lev k) (.ok w m1) (if ax d || wz l (lev k)then .ok d else .no);split
   .next c=>
    by_cases f:ax d=true
    .refine ⟨w,m1,[],rfl,le,?_,QB,by simp⟩;unfold vg;rw[Nj f];exact(ro.rep (R':=λ_=>True) (λ_ _=>trivial) (λ_ _=>trivial)).flat d w f
    .have g:wz l (lev k)=true:=by simpa [f]using c
     unfold aN vg;simp only[Nk f];cases e:lev k with
     |no=>
      refine⟨w,m1,[],rfl,le,⟨?_,rfl⟩,QB,by simp⟩;exact ro.rep (λx r=>⟨r.1,by simp⟩) (λb hb=>⟨.inr (hB b hb),by simp⟩)
     |top=>
      rw[e]at g;cases l with
      |top=>exact⟨w,m1,B,rfl,le,ro,nd,hB⟩
      |no=>cases g
      |full=>cases g
     |full=>
      rw[e]at g;cases l with
      |full=>exact⟨w,m1,B,rfl,le,ro,nd,hB⟩
      |no=>cases g
      |top=>cases g
   .trivial
  |exc c d=>
   rw[z]at s;obtain⟨w,e,m1,h1,⟨kp,_⟩,r⟩:=s;rw[h1];exact⟨w,m1,rfl,λl o q=>kp l o (λ_ h=>by cases h) q,r⟩
  |brk _ _=>trivial
  |cont _ _=>trivial
  |no=>trivial
 .trivial
theorem An(lev:Nat->Lv)(T:List Fn):∀d:Nat,bM lev (yR T d) (j8 lev T d)
 |0=>λk ds ws R m h=>trivial
 |d+1=>λk ds ws R m h=>by
  unfold yR j8;cases T[k]? with
  |none=>trivial
  |some fn=>exact E8 (An lev T d) k fn ds ws R m h
def E7(lev:Nat->Lv)(T:List Fn)(d i:Nat)(ns:List Int)(h:j8 lev T d i [.scr ns]=.ok (.bl true)):∃m,yR T d i [.rol (ns.map Wd.int)] []=.ok (.bl true) m:=by
 have s:=An lev T d i [.scr ns] [.rol (ns.map Wd.int)] (λ_=>True) [] (.cons (bb.mpr rfl) .nil);rw[h]at s;obtain⟨w,m',h1,_,r⟩:=s.sim;rw[ah.mp r]at h1;exact⟨m',h1⟩
section
variable(lev:Nat->Lv)(cl:Nat->List Dat->Rd)(de:aO)(lv:List Lv)
@[simp]theorem aI(d:Dat)(f:Dat->Rd):(Rd.ok d).bind f=f d:=rfl
@[simp]theorem aV(d:Dat)(f:Dat->b7):(Rd.ok d).bindS f=f d:=rfl
@[simp]theorem eh(d:Dat)(f:Dat->b7):(Rd.ok d).okS f=f d:=rfl
@[simp]theorem ze(i:Int):ak cl (.lit (.int i)) de=.ok (.int i):=rfl
@[simp]theorem Iv(i:Bool):ak cl (.lit (.bl i)) de=.ok (.bl i):=rfl
@[simp]theorem zQ:ak cl (.lit .non) de=.ok .non:=rfl
@[simp]theorem ya(s:List Nat):ak cl (.lit (.str s)) de=.ok (.str s):=rfl
@[simp]theorem zt(op:Bo)(a b:Ex):ak cl (.bin op a b) de=(ak cl a de).bind λx=>(ak cl b de).bind λy=>zJ op x y:=rfl
@[simp]theorem zI(op:Co)(a b:Ex):ak cl (.cmp op a b) de=(ak cl a de).bind λx=>(ak cl b de).bind λy=>yy op x y:=rfl
@[simp]theorem zj:ak cl .unit de=.ok (.tup []):=rfl
@[simp]theorem zg(a b:Ex):ak cl (.pair a b) de=(ak cl a de).bind λx=>(ak cl b de).bind λy=>.ok (.tup (x::zY y)):=rfl
@[simp]theorem zq(k:Nat)(a:Ex):ak cl (.call k a) de=(ak cl a de).bind λx=>cl k (zY x):=rfl
@[simp]theorem yF(b:eK)(a:Ex):ak cl (.blt b a) de=(ak cl a de).bind λx=>yO b (zY x):=rfl
@[simp]theorem ja(t:Tg)(a:Ex):ak cl (.isi t a) de=(ak cl a de).bind λx=>.ok (.bl (dY t x)):=rfl
@[simp]theorem zW(a b:Ex):ak cl (.idx a b) de=(ak cl a de).bind λx=>(ak cl b de).bind λy=>zN x y:=rfl
@[simp]theorem wl(a:Ex):ak cl (.lst a) de=(ak cl a de).bind λx=>bp (zY x):=rfl
@[simp]theorem vk(a:Ex):ak cl (.tup a) de=(ak cl a de).bind λx=>if(zY x).length<=av then .ok (.tup (zY x))else .no:=rfl
@[simp]theorem wA(a b c:Ex):ak cl (.rng a b c) de=(ak cl a de).bind λx=>(ak cl b de).bind λy=>(ak cl c de).bind λz=>kT x y z:=rfl
@[simp]theorem zd(d:Dat)(r:aO):ak cl (.var 0) (some d::r)=.ok d:=rfl
@[simp]theorem za(i:Nat)(d:Option Dat)(r:aO):ak cl (.var (i+1)) (d::r)=ak cl (.var i) r:=rfl
@[simp]theorem wB(a:Ex):ak cl (.neg a) de=(ak cl a de).bind λx=>match x with
  |.int i=>.ok (.int (-i))
  |_=>.no:=rfl
@[simp]theorem xR(a:Ex):ak cl (.not a) de=(ak cl a de).bind λx=>match x with
  |.bl b=>.ok (.bl (! b))
  |_=>.no:=rfl
@[simp]theorem y8(a b:Ex):ak cl (.and a b) de=(ak cl a de).bind λx=>match x with
  |.bl true=>ak cl b de
  |.bl false=>.ok (.bl false)
  |_=>.no:=rfl
@[simp]theorem j9(a b:Ex):ak cl (.or a b) de=(ak cl a de).bind λx=>match x with
  |.bl false=>ak cl b de
  |.bl true=>.ok (.bl true)
  |_=>.no:=rfl
@[simp]theorem gc(p q:Co)(a b c:Ex):ak cl (.chain p q a b c) de=(ak cl a de).bind λx=>(ak cl b de).bind λy=>(yy p x y).bind λz=>match z with
  |.bl true=>(ak cl c de).bind λu=>yy q y u
  |.bl false=>.ok (.bl false)
  |_=>.no:=rfl
@[simp]theorem jb(c a b:Ex):ak cl (.ife c a b) de=(ak cl c de).bind λx=>match x with
  |.bl true=>ak cl a de
  |.bl false=>ak cl b de
  |_=>.no:=rfl
@[simp]theorem E6(a:Ex):ak cl (.lrng a) de=(ak cl a de).bind λx=>match x with
  |.int j=>if -av<=j/\j<=av then bp (ym 0 1 j.toNat)else .no
  |_=>.no:=rfl
def xB(elt it cond:Ex):ak cl (.comp elt it cond) de=(ak cl it de).bind λx=>match cQ x with
  |some xs=>yi (λx=>ak cl cond (de++[some x])) (λx=>ak cl elt (de++[some x])) xs []
  |none=>.no:=rfl
def vm(k:Kd)(elt a b cond:Ex):ak cl (.compP k elt a b cond) de=(ak cl a de).bind λx=>(ak cl b de).bind λy=>match xi k x y with
  |some ps=>yi (λp=>ak cl cond (de++[some p.1]++[some p.2])) (λp=>ak cl elt (de++[some p.1]++[some p.2])) ps []
  |none=>.no:=rfl
@[simp]theorem KR(a b:Int):dt (.int a) (.int b)=decide (a=b):=rfl
@[simp]theorem KQ(a b:Bool):dt (.bl a) (.bl b)=(a==b):=rfl
@[simp]theorem KP(a b:List Nat):dt (.str a) (.str b)=decide (a=b):=rfl
@[simp]theorem KO(a b:List Dat):dt (.tup a) (.tup b)=cm a b:=rfl
@[simp]theorem nI(a b:List Dat):dt (.lst a) (.lst b)=cm a b:=rfl
@[simp]theorem Lg(k:Nat)(a:Int):yZ (k+1) (.int a)=true:=rfl
@[simp]theorem Ky(k:Nat)(a:Bool):yZ (k+1) (.bl a)=true:=rfl
@[simp]theorem Lf(k:Nat)(a:List Nat):yZ (k+1) (.str a)=true:=rfl
@[simp]theorem Ld(k:Nat):yZ (k+1) .non=true:=rfl
@[simp]theorem Lc(k:Nat)(a:List Dat):yZ (k+1) (.tup a)=bF k a:=rfl
@[simp]theorem vn(k:Nat)(a:List Dat):yZ (k+1) (.lst a)=bF k a:=rfl
@[simp]theorem Ls(k:Nat):bF k []=true:=rfl
@[simp]theorem Lz(k:Nat)(d:Dat)(a:List Dat):bF k (d::a)=(yZ k d&&bF k a):=rfl
theorem xu(k:Nat):∀(a:List Dat),bF k a=a.all (yZ k)
 |[]=>by simp
 |d::a=>by simp[xu k a]
@[simp]theorem qP:yW=11+1:=rfl
@[simp]theorem qc(i j:Int):yy .lt (.int i) (.int j)=.ok (.bl (decide (i<j))):=rfl
@[simp]theorem mV(i j:Int):yy .le (.int i) (.int j)=.ok (.bl (decide (i<=j))):=rfl
@[simp]theorem yU(i j:Int):yy .eq (.int i) (.int j)=.ok (.bl (decide (i=j))):=rfl
@[simp]theorem sv(i j:Int):yy .ne (.int i) (.int j)=.ok (.bl (! decide (i=j))):=rfl
@[simp]theorem DE(i j:Bool):yy .eq (.bl i) (.bl j)=.ok (.bl (i==j)):=rfl
@[simp]theorem DD(i j:Bool):yy .ne (.bl i) (.bl j)=.ok (.bl (!(i==j))):=rfl
@[simp]theorem zX(i j:Int):zJ .add (.int i) (.int j)=.ok (.int (i+j)):=rfl
@[simp]theorem yG(i j:Int):zJ .sub (.int i) (.int j)=.ok (.int (i-j)):=rfl
def yz(i j:Int)(h:xq i=true):zJ .mul (.int i) (.int j)=.ok (.int (i*j)):=by simp[zJ,h]
def E5(i j:Int)(h:xq j=true):zJ .mul (.int i) (.int j)=.ok (.int (i*j)):=by simp[zJ,h]
def wO(i j:Int)(h:0<j)(k:j<1073741824):zJ .fdiv (.int i) (.int j)=.ok (.int (i/j)):=by simp[zJ,h,k]
def xw(i j:Int)(h:0<j):zJ .mod (.int i) (.int j)=.ok (.int (i%j)):=by simp[zJ,h]
def nH(i j:Int)(h:0<=j/\j<=1000000/\xq i=true):zJ .pow (.int i) (.int j)=.ok (.int (i^j.toNat)):=by simp only[zJ];rw[Nj h]
def gd (h:-18446744073709551616<i)(k:i<18446744073709551616):xq i=true:=by unfold xq cI;simp[h,k]
@[simp]theorem zh(xs:List Dat):zY (.tup xs)=xs:=rfl
@[simp]theorem Kx(xs:List Dat):yO .len [.lst xs]=.ok (.int xs.length):=rfl
@[simp]theorem Kw(xs:List Dat):yO .len [.tup xs]=.ok (.int xs.length):=rfl
@[simp]theorem Kv(ns:List Int):yO .len [.scr ns]=.ok (.int ns.length):=by simp[yO,xa]
@[simp]theorem KN(b:Bool):yO .int [.bl b]=.ok (.int (b2i b)):=rfl
def xx (h:xs.length<=av):bp xs=.ok (.lst xs):=by unfold bp;rw[Nj h]
def nG (h:i<n):ix n (i:Int)=some i:=by unfold ix;rw[Nj (by lia),Nj (by lia)];simp
def E4 (h:0<n):ix n (-1)=some (n-1):=by unfold ix;rw[Nk (by lia),Nj (by lia)];congr 1;lia
def qQ {i:Nat}(h:xs[i]?=some d):zN (.lst xs) (.int (i:Int))=.ok d:=by
 have:=(Qa.mp h).1;simp[zN,xa,nG this,h]
def vG (h:xs[xs.length-1]?=some d):zN (.lst xs) (.int (-1))=.ok d:=by
 have:=(Qa.mp h).1;simp[zN,xa,E4 (show 0<xs.length by lia),h]
def nF {a b:Int}(h:-av<=a/\a<=av/\-av<=b/\b<=av/\(c=1\/c=-1)):kT (.int a) (.int b) (.int c)=.ok (.tup (ym a c (eZ a b c))):=by
 simp only[kT];rw[Nj h]
@[simp]theorem GM(a c:Int)(n:Nat):(ym a c n).length=n:=by simp[ym]
def xL(a c:Int)(n i:Nat)(h:i<n):(ym a c n)[i]?=some (.int (a+c*(i:Int))):=by
 simp[ym,h]
@[simp]theorem xy(a c:Int):∀(n:Nat),aY (ym a c n)=true:=by
 intro n;unfold ym;generalize QA n=l
 induction l with
 |nil=>rfl
 |cons x l ih=>simp[aY,ax,ih]
@[simp]theorem wm(xs:List Dat):ax (.tup xs)=aY xs:=by rw[ax]
@[simp]theorem wH(xs:List Dat):ax (.lst xs)=false:=by rw[ax]
@[simp]theorem Lb(i:Int):ax (.int i)=true:=by rw[ax]
@[simp]theorem Ku(i:Bool):ax (.bl i)=true:=by rw[ax]
@[simp]theorem La:ax .non=true:=by rw[ax]
@[simp]theorem K9(s:List Nat):ax (.str s)=true:=by rw[ax]
@[simp]theorem K8(s:List Int):ax (.scr s)=true:=by rw[ax]
@[simp]theorem Lr:aY []=true:=by rw[aY]
@[simp]theorem gf(d:Dat)(ds:List Dat):aY (d::ds)=(ax d&&aY ds):=by rw[aY]
@[simp]theorem Ly(l:List Int):aY (l.map Dat.int)=true:=by
 induction l with
 |nil=>rfl
 |cons x l ih=>simp[ih]
@[simp]theorem xS(xs:List Dat):cQ (.tup xs)=some xs:=rfl
@[simp]theorem KM(xs:List Int):cQ (.scr xs)=some (xs.map .int):=rfl
def wn (h:xs.length<=av):cQ (.lst xs)=some xs:=by simp[cQ,h]
@[simp]theorem yj:aG lev cl .skip de lv=.next de lv:=rfl
@[simp]theorem zD(e:Ex):aG lev cl (.ret e) de lv=(ak cl e de).bindS λd=>.ret d (cn lev e d lv):=rfl
@[simp]theorem zE(i:Nat)(e:Ex):aG lev cl (.asg i e) de lv=(ak cl e de).bindS λd=>vN lev i e d de lv:=rfl
@[simp]theorem yu(c:Ex)(a b:Sm):aG lev cl (.ite c a b) de lv=(ak cl c de).bindS λx=>match x with
  |.bl true=>aG lev cl a de lv
  |.bl false=>aG lev cl b de lv
  |_=>.no:=rfl
def zT {lev:Nat->Lv}{de:aO}{lv:List Lv}(h:ax d=true):vN lev i e d de lv=.next (de.set i (some d)) (lv.set i .full):=by
 unfold vN;rw[Nj (yC lev e d h)]
def yD {lev:Nat->Lv}{de:aO}{lv:List Lv}(h:aU lev e d=.full):vN lev i e d de lv=.next (de.set i (some d)) (lv.set i .full):=by
 unfold vN;rw[Nj h]
def yw {body:α->aO->List Lv->b7}(P:Nat->aO->List Lv->Prop)(xs:List α){de:aO}{lv:List Lv}(h0:P 0 de lv)(hs:∀(i:Nat) x de lv,xs[i]?=some x->P i de lv->∃de' lv',body x de lv=.next de' lv'/\P (i+1) de' lv'):∃de' lv',xj body xs de lv=.next de' lv'/\P xs.length de' lv':=by
 induction xs generalizing P de lv with
 |nil=>exact⟨de,lv,rfl,h0⟩
 |cons x xs ih=>
  obtain⟨d1,l1,e1,p1⟩:=hs 0 x de lv rfl h0;unfold xj;rw[e1];exact ih (λi=>P (i+1)) p1 (λi y de lv hy hp=>hs (i+1) y de lv (by simpa using hy) hp)
end
namespace Lib
section
variable{lev:Nat->Lv}{cl:Nat->List Dat->Rd}{k:Nat}
def isInt:Dat->Bool
 |.int _=>true
 |_=>false
def qR:Fn:=⟨1,1,(.ret (.and (.isi .int (.var 0)) (.not (.isi .bool (.var 0)))))⟩
def Iu(d:Dat):zB lev cl k qR [d]=.ok (.bl (isInt d)):=by
 cases d<;>simp[zB,qR,xQ,xk,zz,dY,isInt,cn]
end
end Lib
section
variable(lev:Nat->Lv)(cl:Nat->List Dat->Rd)(de:aO)(lv:List Lv)
@[simp]theorem DC(i:Nat)(op:Bo)(e:Ex):aG lev cl (.aug i op e) de lv=match de[i]? with
  |some (some (.int a))=>(ak cl e de).okS λy=>match y with
   |.int b=>(zJ op (.int a) (.int b)).okS λz=>.next (de.set i (some z)) (lv.set i .full)
   |_=>.no
  |_=>.no:=rfl
@[simp]theorem wP(j:Nat)(e:Ex):aG lev cl (.expr (.meth .append (.var j) (.pair e .unit))) de lv=(ak cl e de).okS λd=>match xK de j with
   |some ds=>if ds.length<av then match xJ lev e d j de lv with
    |some (de1,lv1)=>.next (de1.set j (some (.lst (ds++[d])))) lv1
    |none=>.no
    else .no
   |none=>.no:=rfl
@[simp]theorem E3(j:Nat):aG lev cl (.expr (.meth .reverse (.var j) .unit)) de lv=match xK de j with
   |some ds=>if zU lv j then .next (de.set j (some (.lst ds.reverse))) lv else .no
   |none=>.no:=rfl
def wp(i:Nat)(it:Ex)(body:Sm):aG lev cl (.forv i it body) de lv=(ak cl it de).bindS λd=>match cQ d with
  |some xs=>xj (λx de lv=>aG lev cl body (de.set i (some x)) (lv.set i (aS x))) xs de (if ax d then lv else yJ it de lv)
  |none=>.no:=rfl
def uw(i j:Nat)(it:Ex)(body:Sm):aG lev cl (.fort i j it body) de lv=(ak cl it de).bindS λd=>match cQ d with
  |some xs=>xj (λx de lv=>match x with
    |.tup [a,b]=>aG lev cl body ((de.set i (some a)).set j (some b)) ((lv.set i (aS a)).set j (aS b))
    |_=>.no) xs de (if ax d then lv else yJ it de lv)
  |none=>.no:=rfl
def b7.then(r:b7)(f:aO->List Lv->b7):b7:=match r with
 |.next d l=>f d l
 |r=>r
@[simp]theorem zf(d:aO)(l:List Lv)(f:aO->List Lv->b7):(b7.next d l).then f=f d l:=rfl
@[simp]theorem K7(d:Dat)(l:Lv)(f:aO->List Lv->b7):(b7.ret d l).then f=.ret d l:=rfl
def zH (h:yt a b=none):aG lev cl (.seq a b) de lv=(aG lev cl a de lv).then (aG lev cl b):=by
 rw[qN,h];cases aG lev cl a de lv<;>rfl
def GL(a:Sm)(c d:Sm):yt a (.seq c d)=none:=rfl
@[simp]theorem zF(a:Sm)(c d:Sm):aG lev cl (.seq a (.seq c d)) de lv=(aG lev cl a de lv).then (aG lev cl (.seq c d)):=zH lev cl de lv (GL a c d)
def GK(a:Sm)(e:Ex):yt a (.ret e)=none:=rfl
@[simp]theorem yg(a:Sm)(e:Ex):aG lev cl (.seq a (.ret e)) de lv=(aG lev cl a de lv).then (aG lev cl (.ret e)):=zH lev cl de lv (GK a e)
def GJ(a:Sm)(c:Ex)(x y:Sm):yt a (.ite c x y)=none:=rfl
@[simp]theorem KJ(a:Sm)(c:Ex)(x y:Sm):aG lev cl (.seq a (.ite c x y)) de lv=(aG lev cl a de lv).then (aG lev cl (.ite c x y)):=zH lev cl de lv (GJ a c x y)
def Ir(a:Sm)(i:Nat)(e:Ex)(x:Sm):yt a (.forv i e x)=none:=rfl
@[simp]theorem Kt(a:Sm)(i:Nat)(e:Ex)(x:Sm):aG lev cl (.seq a (.forv i e x)) de lv=(aG lev cl a de lv).then (aG lev cl (.forv i e x)):=zH lev cl de lv (Ir a i e x)
def Iq(a:Sm)(i j:Nat)(e:Ex)(x:Sm):yt a (.fort i j e x)=none:=rfl
@[simp]theorem Ks(a:Sm)(i j:Nat)(e:Ex)(x:Sm):aG lev cl (.seq a (.fort i j e x)) de lv=(aG lev cl a de lv).then (aG lev cl (.fort i j e x)):=zH lev cl de lv (Iq a i j e x)
def Jg(a:Sm)(e:Ex)(x:Sm):yt a (.while e x)=none:=rfl
@[simp]theorem K6(a:Sm)(e:Ex)(x:Sm):aG lev cl (.seq a (.while e x)) de lv=(aG lev cl a de lv).then (aG lev cl (.while e x)):=zH lev cl de lv (Jg a e x)
def GI(a:Sm)(i:Nat)(e:Ex):yt a (.asg i e)=none:=rfl
@[simp]theorem sP(a:Sm)(i:Nat)(e:Ex):aG lev cl (.seq a (.asg i e)) de lv=(aG lev cl a de lv).then (aG lev cl (.asg i e)):=zH lev cl de lv (GI a i e)
def Ip(a:Sm)(o i e:Ex):yt a (.asgS o i e)=none:=rfl
@[simp]theorem Kr(a:Sm)(o i e:Ex):aG lev cl (.seq a (.asgS o i e)) de lv=(aG lev cl a de lv).then (aG lev cl (.asgS o i e)):=zH lev cl de lv (Ip a o i e)
def GH(a:Sm)(i:Nat)(op:Bo)(e:Ex):yt a (.aug i op e)=none:=rfl
@[simp]theorem KI(a:Sm)(i:Nat)(op:Bo)(e:Ex):aG lev cl (.seq a (.aug i op e)) de lv=(aG lev cl a de lv).then (aG lev cl (.aug i op e)):=zH lev cl de lv (GH a i op e)
def Io(a:Sm)(e:Ex):yt a (.expr e)=none:=rfl
@[simp]theorem qS(a:Sm)(e:Ex):aG lev cl (.seq a (.expr e)) de lv=(aG lev cl a de lv).then (aG lev cl (.expr e)):=zH lev cl de lv (Io a e)
def Im(a:Sm): yt a .skip=none:=rfl
@[simp]theorem Kq(a:Sm): aG lev cl (.seq a .skip) de lv=(aG lev cl a de lv).then (aG lev cl .skip):=zH lev cl de lv (Im a)
def Jf(a:Sm): yt a .never=none:=rfl
@[simp]theorem K5(a:Sm): aG lev cl (.seq a .never) de lv=(aG lev cl a de lv).then (aG lev cl .never):=zH lev cl de lv (Jf a)
end
namespace Lib
section
def row(r:List Int):Dat:=.lst (r.map .int)
def au(R:List (List Int)):Dat:=.lst (R.map row)
def jh(t:Int)(b:Bool):Bool:=if b then ! decide (t=1)else !(decide (t=0) || decide (t=1))
end
end Lib
namespace Lib
section
def S(R:List (List Int))(r c:Nat):Int:=((R.take r).map (λx=>x.getD c 0)).sum
def ac(R:List (List Int))(r c:Nat):Int:=((R.getD r []).take c).sum
def lZ(R:List (List Int))(r c:Nat):Bool:=jh (ac R r (c+1)) (decide ((c:Int)=(R.length:Int)-1)) || jh (S R (r+1) c) (decide ((r:Int)=(R.length:Int)-1))
def Sq(R:List (List Int)):Prop:=∀r∈R,r.length=R.length
def uv {r:Nat}(h:R[r]?=some x):zN (au R) (.int (r:Int))=.ok (row x):=qQ (by simp[h])
def vH {c:Nat}(h:x[c]?=some v):zN (row x) (.int (c:Int))=.ok (.int v):=qQ (by simp[h])
def nE(R:List (List Int))(r c:Nat)(x:List Int)(h:R[r]?=some x):S R (r+1) c=S R r c+x.getD c 0:=by
 unfold S;rw[Wl,h];simp
end
end Lib
namespace Lib
section
variable{lev:Nat->Lv}{cl:Nat->List Dat->Rd}{k:Nat}
def kD:Fn:=⟨1,1,(.seq (.ite (.cmp .eq (.bin .mod (.var 0) (.lit (.int 8))) (.lit (.int 5))) (.ret (.bin .add (.lit (.int 1)) (.bin .mod (.bin .fdiv (.var 0) (.lit (.int 8))) (.lit (.int 12))))) .skip) (.ret (.bin .add (.lit (.int 1)) (.bin .mod (.bin .fdiv (.var 0) (.lit (.int 8))) (.lit (.int 6))))))⟩
def Je(c:Int):∃n:Nat,1<=n/\n<=12/\zB lev cl k kD [.int c]=.ok (.int n):=by
 have e1:zJ .mod (.int c) (.int 8)=.ok (.int (c%8)):=xw _ _ (by decide);have e2:zJ .fdiv (.int c) (.int 8)=.ok (.int (c/8)):=wO _ _ (by decide) (by decide);have e3:∀x:Int,zJ .mod (.int x) (.int 12)=.ok (.int (x%12)):=λx=>xw _ _ (by decide);have e4:∀x:Int,zJ .mod (.int x) (.int 6)=.ok (.int (x%6)):=λx=>xw _ _ (by decide);by_cases h:c%8=5
 .refine ⟨(1+c/8%12).toNat,by lia,by lia,?_⟩;have:(((1+c/8%12).toNat:Nat):Int)=1+c/8%12:=by lia
  simp[zB,kD,xQ,xk,zz,cn,e1,e2,e3,e4,h,this]
 .refine ⟨(1+c/8%6).toNat,by lia,by lia,?_⟩;have:(((1+c/8%6).toNat:Nat):Int)=1+c/8%6:=by lia
  simp[zB,kD,xQ,xk,zz,cn,e1,e2,e3,e4,h,this]
def dG(x:List Int):Prop:=∀i,i+1<x.length->x.getD i 0<x.getD (i+1) 0
def iw(cI sm:List Int):Prop:=cI.length=sm.length+1/\∀i,i<sm.length->cI.getD i 0<=sm.getD i 0/\sm.getD i 0<=cI.getD (i+1) 0
def vI {x:List Int}(h:x[i]?=some v):x.getD i 0=v:=by rw[Qj,h];rfl
def jc {x:List Int}(h:i<x.length):x[i]?=some (x.getD i 0):=by
 rw[Qj,Qe h];rfl
end
end Lib
namespace Lib
section
def wt {v:Int}(h:i<x.length):(x++[v]).getD i 0=x.getD i 0:=by
 simp[Qj,Qg h]
def ji {v:Int}:(x++[v]).getD x.length 0=v:=by
 simp[Qj]
def qT {v:List Int}(h:i<x.length):(x++[v]).getD i []=x.getD i []:=by
 simp[Qj,Qg h]
def x5 {v:List Int}:(x++[v]).getD x.length []=v:=by
 simp[Qj]
def dG.app{x:List Int}{v:Int}(h:dG x)(hv:0<x.length->x.getD (x.length-1) 0<v):dG (x++[v]):=by
 intro i hi;simp only[QW,Wp,W5]at hi;by_cases z:i+1<x.length
 .rw[wt (by lia),wt z];exact h i z
 .have e:i+1=x.length:=by lia
  rw[wt (by lia),e,ji];have:=hv (by lia)
  rwa[show x.length-1=i by lia]at this
def yP(n:Nat):List Int:=(QA n).map λ(i:Nat)=>(i:Int)
def Jd(n:Nat):Dat.lst (ym 0 1 n)=row (yP n):=by
 unfold row yP ym;rw[Wf];congr 1;apply WM;intro i _;simp
structure dC(n:Nat)(L:List (List Int)):Prop where
 first:L.getD 0 []=yP n
 len:∀j,j<L.length->(L.getD j []).length+j=n
 inc:∀j,j<L.length->dG (L.getD j [])
 bd:∀j,j<L.length->∀i,i<(L.getD j []).length->0<=(L.getD j []).getD i 0/\(L.getD j []).getD i 0<n
 lace:∀j,j+1<L.length->iw (L.getD j []) (L.getD (j+1) [])
def vX (h:i<n):(yP n).getD i 0=i:=vI (by simp[yP,h])
def dC.one(n:Nat):dC n [yP n]:=by
 refine⟨rfl,?_,?_,?_,?_⟩
 .intro j hj;simp at hj;subst hj;simp[yP]
 .intro j hj i hi;simp at hj;subst hj;simp only[Vi]at hi ⊢;have:i+1<n:=by simpa [yP]using hi
  rw[vX (by lia),vX this];lia
 .intro j hj i hi;simp at hj;subst hj;simp only[Vi]at hi ⊢;have:i<n:=by simpa [yP]using hi
  rw[vX this];lia
 .intro j hj;simp at hj
def dC.app{n:Nat}{L:List (List Int)}{x:List Int}(h:dC n L)(hL:0<L.length)(hi:dG x)(hl:iw (L.getD (L.length-1) []) x):dC n (L++[x]):=by
 have e:=h.len (L.length-1) (by lia);have lt:∀{j},j<L.length->(L++[x]).getD j []=L.getD j []:=λhj=>qT hj;refine⟨by rw[lt hL];exact h.first,?_,?_,?_,?_⟩
 .intro j hj;by_cases z:j<L.length
  .rw[lt z];exact h.len j z
  .have:j=L.length:=by simp at hj;lia
   subst this;rw[x5];have:=hl.1;lia
 .intro j hj;by_cases z:j<L.length
  .rw[lt z];exact h.inc j z
  .have:j=L.length:=by simp at hj;lia
   subst this;rw[x5];exact hi
 .intro j hj i hi';by_cases z:j<L.length
  .rw[lt z]at hi' ⊢;exact h.bd j z i hi'
  .have:j=L.length:=by simp at hj;lia
   subst this;rw[x5]at hi' ⊢;have h1:=hl.2 i hi';have h2:=h.bd (L.length-1) (by lia) i (by have:=hl.1;lia);have h3:=h.bd (L.length-1) (by lia) (i+1) (by have:=hl.1;lia);lia
 .intro j hj;simp only[QW,Wp,W5]at hj;by_cases z:j+1<L.length
  .rw[lt (by lia),lt z];exact h.lace j z
  .have e2:j+1=L.length:=by lia
   rw[lt (by lia),e2,x5]
   rwa[show L.length-1=j by lia]at hl
end
end Lib
namespace Lib
section
theorem yx {c e:β->Rd}{α:Type}(f:α->β)(g:α->Dat):∀(xs:List α) (acc:List Dat),(∀x∈xs,c (f x)=.ok (.bl true))->(∀x∈xs,e (f x)=.ok (g x))->acc.length+xs.length<=av->yi c e (xs.map f) acc=.ok (.lst (acc++xs.map g))
 |[],acc,_,_,h=>by unfold yi;rw[W1];simp only;rw[xx (by simpa using h)];simp
 |x::xs,acc,hc,he,h=>by
  rw[QT];unfold yi;simp only[Wp]at h;rw[hc x (by simp)];simp only[aI];rw[he x (by simp)];simp only[aI];rw[Nj (by lia),yx f g xs (acc++[g x]) (λy hy=>hc y (by simp[hy])) (λy hy=>he y (by simp[hy])) (by simp;lia)];simp
def gh (a s:Int)(n:Nat)(g:Nat->Dat)(hc:∀i,i<n->c (.int (a+s*(i:Int)))=.ok (.bl true))(he:∀i,i<n->e (.int (a+s*(i:Int)))=.ok (g i))(h:n<=av):yi c e (ym a s n) []=.ok (.lst ((QA n).map g)):=by
 unfold ym;rw[yx (λ(i:Nat)=>Dat.int (a+s*(i:Int))) g (QA n) [] (λi hi=>hc i (by simpa using hi)) (λi hi=>he i (by simpa using hi)) (by simpa using h)];simp
def mem(x:List Int)(c:Int):Bool:=x.any (λv=>decide (v=c))
def GG(x:List Int)(c:Int):yy .isin (.int c) (row x)=.ok (.bl (mem x c)):=by
 have h:bF yW (x.map Dat.int)=true:=by
  rw[xu];simp
 have h2:(x.map Dat.int).any (λy=>dt y (.int c))=mem x c:=by
  simp only[mem,List.any_map];congr 1
 simp only[yy,row,xa,lR];rw[h,h2];simp[qF]
def xN(n:Nat)(x y:List Int):List Int:=(QA n).map λ(c:Nat)=>b2i (mem x c)-b2i (mem y c)
def zM(X:List (List Int))(i:Nat):List Int:=if i=0 then[]else X.getD (i-1) []
def sg(X:List (List Int)):List (List Int):=(QA X.length).map λi=>xN X.length (X.getD i []) (zM X i)
end
end Lib
namespace Lib
structure ip(n:Nat)(X:List (List Int)):Prop where
 len:X.length=n
 rlen:∀j,j<n->(X.getD j []).length=j+1
 inc:∀j,j<n->dG (X.getD j [])
 bd:∀j,j<n->∀i,i<j+1->0<=(X.getD j []).getD i 0/\(X.getD j []).getD i 0<n
 lace:∀j,j+1<n->iw (X.getD (j+1) []) (X.getD j [])
 last:X.getD (n-1) []=yP n
def ip.of{n:Nat}{L:List (List Int)}(hn:1<=n)(h:dC n L)(hl:L.length=n):ip n L.reverse:=by
 have g:∀j,j<n->L.reverse.getD j []=L.getD (n-1-j) []:=by
  intro j hj;rw[Qj,Qj,List.getElem?_reverse (by lia),hl]
 refine⟨by simp[hl],λj hj=>?_,λj hj=>?_,λj hj i hi=>?_,λj hj=>?_,?_⟩
 .rw[g j hj];have:=h.len (n-1-j) (by lia);lia
 .rw[g j hj];exact h.inc _ (by lia)
 .rw[g j hj];have:=h.len (n-1-j) (by lia);exact h.bd _ (by lia) i (by lia)
 .rw[g (j+1) hj,g j (by lia)];have:=h.lace (n-1-(j+1)) (by lia)
  rwa[show n-1-(j+1)+1=n-1-j by lia]at this
 .rw[g (n-1) (by lia),show n-1-(n-1)=0 by lia];exact h.first
def dG.lt (h:dG x):∀{i j:Nat},i<j->j<x.length->x.getD i 0<x.getD j 0:=by
 intro i j hij
 induction j with
 |zero=>lia
 |succ j ih=>
  intro hj;have h1:=h j hj;by_cases z:i=j
  .subst z;exact h1
  .have:=ih (by lia) (by lia);lia
def dG.nodup (h:dG x):x.Nodup:=by
 rw[List.Nodup,List.pairwise_iff_getElem];intro i j hi hj hij e;have:=h.lt hij hj;rw[vI (Qe hi),vI (Qe hj)]at this;lia
def E1 {x:List Int}(h:v∈x):∃i,i<x.length/\x.getD i 0=v:=by
 obtain⟨i,hi,e⟩:=List.getElem_of_mem h;exact⟨i,hi,vI (by rw[Qe hi,e])⟩
def cnt(x:List Int)(c:Nat):Int:=((QA c).map λ(j:Nat)=>b2i (mem x j)).sum
def low(x:List Int)(c:Nat):Int:=(x.map λ(v:Int)=>b2i (decide (v<(c:Int)))).sum
def gi(x:List Int)(c:Nat):cnt x (c+1)=cnt x c+b2i (mem x c):=by
 simp[cnt,W4]
def GF(x:List Int)(nd:x.Nodup)(c:Nat):low x (c+1)=low x c+b2i (mem x c):=by
 induction x with
 |nil=>simp[low,mem,b2i]
 |cons v x ih=>
  obtain⟨hv,nd⟩:=QI.mp nd;have ih:=ih nd;have e1:low (v::x) (c+1)=b2i (decide (v<(c+1:Nat)))+low x (c+1):=by simp[low]
  have e2:low (v::x) c=b2i (decide (v<c))+low x c:=by simp[low]
  have e3:mem (v::x) c=(decide (v=c) || mem x c):=by simp[mem]
  rw[e1,e2,e3,ih];by_cases h:v=c
  .have:mem x c=false:=by
    rw[mem,WX];intro w hw;simp only[Np];intro e;exact hv (by rw[h,<-e];exact hw)
   rw[this];simp[h,b2i];lia
  .have:decide (v<(c+1:Nat))=decide (v<c):=by
    by_cases q:v<c
    .simp[q];lia
    .simp[q];lia
   rw[this];simp[h];lia
def GE (h:∀v∈x,0<=v):low x 0=0:=by
 induction x with
 |nil=>rfl
 |cons v x ih=>
  have e:low (v::x) 0=b2i (decide (v<(0:Nat)))+low x 0:=by simp[low]
  rw[e,ih (λw hw=>h w (by simp[hw]))];have:=h v (by simp);have:¬v<((0:Nat):Int):=by simp;lia
  rw[Ni this];rfl
theorem jx (nd:x.Nodup)(h:∀v∈x,0<=v):∀c,cnt x c=low x c
 |0=>by rw[GE h];rfl
 |c+1=>by rw[gi,GF x nd,jx nd h c]
def gj{x:List Int}{n:Nat}(h:∀v∈x,v<n):low x n=x.length:=by
 induction x with
 |nil=>rfl
 |cons v x ih=>
  have e:low (v::x) n=b2i (decide (v<n))+low x n:=by simp[low]
  rw[e,ih (λw hw=>h w (by simp[hw])),Nn (h v (by simp))];simp[b2i];lia
theorem nC:∀(sm cI:List Int),sm.length<=cI.length->(∀i,i<sm.length->cI.getD i 0<=sm.getD i 0)->low sm c<=low cI c
 |[],cI,_,_=>by
  have:∀x:List Int,0<=low x c:=by
   intro x
   induction x with
   |nil=>exact Int.le_refl _
   |cons v x ih=>
    have e:low (v::x) c=b2i (decide (v<c))+low x c:=by simp[low]
    rw[e];unfold b2i;split<;>lia
  exact this cI
 |s::sm,[],h,_=>by simp at h
 |s::sm,b::cI,h,q=>by
  have e1:low (s::sm) c=b2i (decide (s<c))+low sm c:=by simp[low]
  have e2:low (b::cI) c=b2i (decide (b<c))+low cI c:=by simp[low]
  have h0:=q 0 (by simp);simp only[Vi]at h0;have ih:=nC (c:=c) sm cI (by simpa using h) (λi hi=>by simpa using q (i+1) (by simpa using hi));rw[e1,e2];have:b2i (decide (s<c))<=b2i (decide (b<c)):=by
   by_cases z:s<c
   .rw[Nn z,Nn (by lia)];exact Int.le_refl _
   .rw[Ni z];unfold b2i;simp;split<;>lia
  lia
def GD {cI:List Int}(h:iw cI sm):low sm c<=low cI c/\low cI c<=low sm c+1:=by
 obtain⟨hl,h⟩:=h;refine⟨nC sm cI (by lia) (λi hi=>(h i hi).1),?_⟩;cases cI with
 |nil=>simp at hl
 |cons b bs=>
  have e2:low (b::bs) c=b2i (decide (b<c))+low bs c:=by simp[low]
  have:=nC (c:=c) bs sm (by simp at hl;lia) (λi hi=>by have:=(h i (by simp at hl;lia)).2;simpa using this);rw[e2];have:b2i (decide (b<c))<=1:=by unfold b2i;split<;>lia
  lia
def qU(X:List (List Int)):(sg X).length=X.length:=by simp[sg]
def sO (h:r<X.length):(sg X)[r]?=some (xN X.length (X.getD r []) (zM X r)):=by simp[sg,h]
def Il(n:Nat)(x y:List Int):(xN n x y).length=n:=by simp[xN]
def Ik (x y:List Int)(h:c<n):(xN n x y).getD c 0=b2i (mem x c)-b2i (mem y c):=vI (by simp[xN,h])
def Ij (x y:List Int):∀{c:Nat},c<=n->((xN n x y).take c).sum=cnt x c-cnt y c:=by
 intro c hc
 induction c with
 |zero=>simp[cnt]
 |succ c ih=>
  rw[Wl,gi,gi,Vt,ih (by lia)];have:(xN n x y)[c]?=some (b2i (mem x c)-b2i (mem y c)):=by simp[xN,show c<n by lia]
  rw[this];simp;lia
def BN(X:List (List Int)):Sq (sg X):=by
 intro r hr;simp only[sg,Wi]at hr;obtain⟨i,_,rfl⟩:=hr;rw[Il,qU]
def oA (X:List (List Int))(hc:c<X.length):∀{r:Nat},r<=X.length->S (sg X) r c=b2i (mem (zM X r) c):=by
 intro r
 induction r with
 |zero=>intro _;simp[S,zM,mem,b2i]
 |succ r ih=>
  intro hr;rw[nE (sg X) r c _ (sO (by lia)),ih (by lia),Ik _ _ hc];have:zM X (r+1)=X.getD r []:=by simp[zM]
  rw[this];lia
def Jc (h:c<n):mem (yP n) c=true:=by
 rw[mem,Wu];exact⟨c,Wi.mpr ⟨c,by simpa using h,rfl⟩,by simp⟩
def DB (h:ip n X)(hr:r<n)(hc:c<n):lZ (sg X) r c=false:=by
 have hX:=h.len;have b01:∀b:Bool,b2i b=0\/b2i b=1:=by intro b;cases b<;>simp[b2i]
 have hbd:∀j,j<n->∀v∈X.getD j [],0<=v/\v<n:=by
  intro j hj v hv;obtain⟨i,hi,rfl⟩:=E1 hv;rw[h.rlen j hj]at hi;exact h.bd j hj i hi
 have hac:ac (sg X) r (c+1)=low (X.getD r []) (c+1)-low (zM X r) (c+1):=by
  unfold ac;rw[Qj,sO (by lia)];show((xN X.length (X.getD r []) (zM X r)).take (c+1)).sum=_;rw[Ij _ _ (by lia),jx (h.inc r hr).nodup (λv hv=>(hbd r hr v hv).1)];congr 1;unfold zM;split
  .exact jx QB (by simp) _
  .exact jx (h.inc _ (by lia)).nodup (λv hv=>(hbd _ (by lia) v hv).1) _
 have hrange:(ac (sg X) r (c+1)=0\/ac (sg X) r (c+1)=1)/\(c=n-1->ac (sg X) r (c+1)=1):=by
  rw[hac];by_cases z:r=0
  .subst z;have e:zM X 0=[]:=rfl;have e0:low (zM X 0) (c+1)=0:=rfl;have hl:(X.getD 0 []).length=1:=h.rlen 0 hr;have:low (X.getD 0 []) (c+1)=0\/low (X.getD 0 []) (c+1)=1:=by
    cases hx:X.getD 0 []with
    |nil=>rw[hx]at hl;cases hl
    |cons v x=>
     rw[hx]at hl;have:x=[]:=Vr (by simpa using hl);subst this;have:=b01 (decide (v<((c+1:Nat):Int)));simpa [low]using this
   refine⟨by lia,λec=>?_⟩;have hf:low (X.getD 0 []) (c+1)=(X.getD 0 []).length:=gj (λv hv=>by have:=(hbd 0 hr v hv).2;lia);rw[hf,hl,e0];rfl
  .have e:zM X r=X.getD (r-1) []:=by simp[zM,z]
   have hla:=h.lace (r-1) (by lia);rw[show r-1+1=r by lia]at hla;have:=GD (c:=c+1) hla;rw[e];refine⟨by lia,λec=>?_⟩;have hf:low (X.getD r []) (c+1)=(X.getD r []).length:=gj (λv hv=>by have:=(hbd r hr v hv).2;lia);have hg:low (X.getD (r-1) []) (c+1)=(X.getD (r-1) []).length:=gj (λv hv=>by have:=(hbd (r-1) (by lia) v hv).2;lia);rw[hf,hg,h.rlen r hr,h.rlen (r-1) (by lia)];lia
 have hS:S (sg X) (r+1) c=b2i (mem (X.getD r []) c):=by
  rw[oA X (by lia) (by lia)];simp[zM]
 have hSr:(S (sg X) (r+1) c=0\/S (sg X) (r+1) c=1)/\(r=n-1->S (sg X) (r+1) c=1):=by
  rw[hS];refine⟨b01 _,λe=>?_⟩;rw[e,h.last,Jc hc];rfl
 have off:∀(t:Int) (b:Bool),(t=0\/t=1)->(b=true->t=1)->jh t b=false:=by
  intro t b h1 h2;cases b with
  |true=>simp[jh,h2 rfl]
  |false=>rcases h1 with h|h<;>simp[jh,h]
 unfold lZ;rw[Bool.or_eq_false_iff];refine⟨off _ _ hrange.1 λe=>hrange.2 ?_,off _ _ hSr.1 λe=>hSr.2 ?_⟩
 .simp only[Np,qU]at e;lia
 .simp only[Np,qU]at e;lia
end Lib
namespace Lib
section
variable{lev:Nat->Lv}{cl:Nat->List Dat->Rd}{k:Nat}
def nB{α β:Type}{xs:List α}{ys:List β}{i:Nat}{a:α}{b:β}(h:xs[i]?=some a)(h2:ys[i]?=some b):(xs.zip ys)[i]?=some (a,b):=List.getElem?_zip_eq_some.mpr ⟨h,h2⟩
def yf(R:List (List Int))(i:Nat):List Int:=(QA R.length).map λc=>S R i c
def kF(R:List (List Int)):List (List Int):=(QA (R.length+1)).map (yf R)
def Jb(R:List (List Int)):Dat.lst (Qx R.length [Dat.int 0]).flatten=row (yf R 0):=by
 have:(Qx R.length [Dat.int 0]).flatten=Qx R.length (Dat.int 0):=by
  generalize R.length=n
  induction n with
  |zero=>rfl
  |succ n ih=>rw[QY,Wc,ih,QY];rfl
 rw[this];unfold row yf;congr 1;rw[Wf];refine Wg λi=>?_;by_cases h:i<R.length
 .simp[h,S]
 .simp[h]
def EZ(a b:List Int):xi .zip (row a) (row b)=if a.length<=av/\b.length<=av then some ((a.zip b).map λp=>(Dat.int p.1,Dat.int p.2))else none:=by
 simp only[xi,row,Qm];rw[List.zip_map];rfl
def Ii (h:Sq R)(hi:i<R.length):((yf R i).zip (R.getD i [])).map (λp=>p.1+p.2)=yf R (i+1):=by
 obtain⟨x,hx⟩:∃x,R[i]?=some x:=⟨R[i],by simp[hi]⟩;have hg:R.getD i []=x:=by rw[Qj,hx];rfl
 have hl:x.length=R.length:=h x (Qp hx);rw[hg];refine Wg λc=>?_;by_cases hc:c<R.length
 .have e1:(yf R i)[c]?=some (S R i c):=by simp[yf,hc]
  have e2:x[c]?=some (x.getD c 0):=jc (by lia);have e3:(yf R (i+1))[c]?=some (S R (i+1) c):=by simp[yf,hc]
  rw[e3,nE R i c x hx,Qt,nB e1 e2];rfl
 .rw[Qn (by simp[yf];lia),Qn (by simp[yf];lia)]
def lx:Sm:=(.seq (.asg 1 (.compP .zip (.bin .add (.var 4) (.var 5)) (.var 1) (.var 3) (.lit (.bl true)))) (.expr (.meth .append (.var 2) (.pair (.var 1) .unit))))
def mU:Fn:=⟨1,4,(.seq (.asg 1 (.bin .mul (.lst (.pair (.lit (.int 0)) .unit)) (.blt .len (.pair (.var 0) .unit)))) (.seq (.asg 2 (.lst (.pair (.var 1) .unit))) (.seq (.forv 3 (.var 0) lx) (.ret (.var 2)))))⟩
def kG(e:Ex)(x:List Int)(he:∀i:Int,aU lev e (.int i)=.full):(x.map Dat.int).all (λd=>aU lev e d == .full)=true:=by
 rw[WP,Q6];intro v _;simp[he]
def Ih (h:Sq R)(hn:R.length<=100)(hi:i<R.length)(hA:A.length<av):
  aG lev cl lx [some (au R),some (row (yf R i)),some (au A),some (row (R.getD i []))] [.no,l1,.top,.no]=.next [some (au R),some (row (yf R (i+1))),some (au (A++[yf R (i+1)])),some (row (R.getD i []))] [.no,.no,.top,.no]:=by
 have hx:(R.getD i []).length=R.length:=by
  have hg:R.getD i []=R[i]:=by rw[Qj,Qe hi];rfl
  rw[hg];exact h _ (WH hi)
 have hev:ak cl (.compP .zip (.bin .add (.var 4) (.var 5)) (.var 1) (.var 3) (.lit (.bl true))) [some (au R),some (row (yf R i)),some (au A),some (row (R.getD i []))]=.ok (row (yf R (i+1))):=by
  rw[vm];simp only[zd,za,aI,EZ];rw[Nj (by rw[hx];simp[yf];unfold av;lia)];simp only;rw[yx (λ(p:Int×Int)=>(Dat.int p.1,Dat.int p.2)) (λp=>.int (p.1+p.2)) _ [] (λp _=>by simp) (λp _=>by simp) (by rw[Vw,hx];simp[yf];unfold av;lia)];rw[<-Ii h hi];simp[row]
 have hlv:aU lev (.compP .zip (.bin .add (.var 4) (.var 5)) (.var 1) (.var 3) (.lit (.bl true))) (row (yf R (i+1)))=.full:=by
  unfold row
  first|rw[vB]|rw[xI]
  simp only[wH,Qy,if_false];rw[Nj (kG _ _ λi=>by simp)]
 unfold lx;rw[qS,zE,hev];simp only[aV];rw[yD hlv];simp only[zf,Qd,Qc];rw[wP];simp only[zd,za,eh];have hls:xK [some (au R),some (row (yf R (i+1))),some (au A),some (row (R.getD i []))] 2=some (A.map row):=rfl;rw[hls];simp only[Qm];rw[Nj hA];simp[xJ,zU,row,aR,au]
def GC (h:Sq R)(hn:R.length<=100)(hlev:lev k=.no):zB lev cl k mU [au R]=.ok (au (kF R)):=by
 have main:=yw (body:=λx de lv=>aG lev cl lx (de.set 3 (some x)) (lv.set 3 (aS x)))
  (λi de lv=>∃(p3:Option Dat) (l1 l3:Lv),de=[some (au R),some (row (yf R i)),some (au ((kF R).take (i+1))),p3]/\lv=[.no,l1,.top,l3])
  (R.map row) (de:=[some (au R),some (row (yf R 0)),some (au [yf R 0]),none]) (lv:=[.no,.no,.top,.full])
  ⟨none,.no,.full,by simp[kF,Wr],rfl⟩ ?_
 .obtain ⟨de',lv',e,p3,l1,l3,rfl,rfl⟩:=main;unfold zB;rw[Nj (by rfl)];show zz (lev k) (aG lev cl (.seq _ (.seq _ (.seq _ _))) [some (au R),none,none,none] [aS (au R),.full,.full,.full])=_;rw[show aS (au R)=.no from by simp[aS,au],zF];have hlen:yO .len [au R]=.ok (.int R.length):=by simp[au]
  have hmul:zJ .mul (.lst [.int 0]) (.int R.length)=.ok (row (yf R 0)):=by
   simp only[zJ];rw[Nj (by unfold av;lia),Int.toNat_natCast,<-Jb,xx];simp;unfold av;lia
  simp only[zE,zt,wl,zg,zj,ze,yF,zd,aI,zh,hlen];rw[xx (by simp;unfold av;lia)];simp only[aI,hmul,aV];rw[yD (by simp[row])];simp only[zf,Qd,Qc];rw[zF];simp only[zE,wl,zg,zj,zd,za,aI,zh];rw[xx (by simp;unfold av;lia)];have ha:vN lev 2 (.lst (.pair (.var 1) .unit)) (.lst [row (yf R 0)]) [some (au R),some (row (yf R 0)),none,none] [.no,.full,.full,.full]=.next [some (au R),some (row (yf R 0)),some (au [yf R 0]),none] [.no,.no,.top,.full]:=by
   simp[vN,row,yJ,aR,au]
  simp only[aV,ha,zf];rw[yg,wp];have hit:cQ (au R)=some (R.map row):=wn (by simp;unfold av;lia);have hfl:ax (au R)=false:=by simp[au]
  simp only[zd,aV,hit,hfl];have hrel:(if false=true then[Lv.no,Lv.no,Lv.top,Lv.full]else yJ (.var 0) [some (au R),some (row (yf R 0)),some (au [yf R 0]),none] [Lv.no,Lv.no,Lv.top,Lv.full])=[.no,.no,.top,.full]:=rfl;rw[hrel,e,zf];rw[Qm,WD (by simp[kF])];simp[zz,cn,hlev,wz,au]
 .rintro i x de lv hx ⟨p3,l1,l3,rfl,rfl⟩;have hi:i<R.length:=by
   have:=(Qa.mp hx).1;simpa using this
  have hxi:x=row (R.getD i []):=by
   rw[Qt,Qe hi]at hx;cases hx;rw[Qj,Qe hi];rfl
  subst hxi;refine⟨_,_,?_,some (row (R.getD i [])),.no,.no,rfl,rfl⟩;simp only[Qd,Qc,show aS (row (R.getD i []))=.no from by simp[aS,row]];rw[Ih h hn hi (by simp[kF];unfold av;lia)];have e2:(kF R).take (i+1+1)=(kF R).take (i+1)++[yf R (i+1)]:=by
   rw[Wl];congr 1;simp[kF,hi]
  rw[e2]
def GB(s:Int)(x:List Int)(h:x.length<=av):xi .enum (row x) (.int s)=some ((QA x.length).map λ(i:Nat)=>(Dat.int (s+i),Dat.int (x.getD i 0))):=by
 simp only[xi,row,Qm];rw[Nj h];congr 1;refine Wg λi=>?_;by_cases hi:i<x.length
 .rw[nB (a:=Dat.int (s+i)) (b:=Dat.int (x.getD i 0)) (by rw[xL _ _ _ _ hi,Int.one_mul]) (by rw[Qt,jc hi];rfl)];simp[hi]
 .rw[Qn (by simp;lia),Qn (by simp;lia)]
end
end Lib
namespace Lib
section
theorem bH:∀(x:List Int),cm (x.map Dat.int) (x.map Dat.int)=true
 |[]=>rfl
 |v::x=>by simp[cm,bH x]
def DA(x:List Int):yy .ne (row x) (row x)=.ok (.bl false):=by
 have h:yZ yW (row x)=true:=by
  simp only[row,qP,vn];rw[xu];simp
 simp only[yy,fH,h,VC,if_true];simp only[row,nI,bH];rfl
theorem Am:∀(A:List (List Int)),cm (A.map row) (A.map row)=true
 |[]=>rfl
 |v::x=>by simp[cm,Am x,row,bH]
def Ig(A:List (List Int)):yZ yW (au A)=true:=by
 have h:∀x,yZ 11 (row x)=true:=λx=>by
  show yZ (10+1) (row x)=true;simp only[row,vn];rw[xu,WP];simp
 simp only[au,qP,vn];rw[xu,WP,Q6];intro x _;exact h x
def Cj(A:List (List Int)):yy .ne (au A) (au A)=.ok (.bl false):=by
 simp only[yy,fH,Ig A,VC,if_true];simp only[au,nI,Am];rfl
end
end Lib
namespace Lib
section
def GA {x:List Int}(h:x[t]?=some v):(x.take (t+1)).sum=(x.take t).sum+v:=by
 rw[Wl,h,Vt];simp
def Gz(s:Int)(A:List (List Int))(h:A.length<=av):xi .enum (au A) (.int s)=some ((QA A.length).map λ(i:Nat)=>(Dat.int (s+i),row (A.getD i []))):=by
 simp only[xi,au,Qm];rw[Nj h];congr 1;refine Wg λi=>?_;by_cases hi:i<A.length
 .rw[nB (a:=Dat.int (s+i)) (b:=row (A.getD i [])) (by rw[xL _ _ _ _ hi,Int.one_mul]) (by rw[Qt,Qj,Qe hi];rfl)];simp[hi]
 .rw[Qn (by simp;lia),Qn (by simp;lia)]
end
end Lib
namespace Lib
end Lib
namespace Lib
section
variable{lev:Nat->Lv}{cl:Nat->List Dat->Rd}
def uu (h:jh t b=false):(t=0\/t=1)/\(b=true->t=1):=by
 cases b with
 |true=>
  have h':t=1:=by simpa [jh]using h
  exact⟨.inr h',λ_=>h'⟩
 |false=>
  refine⟨?_,λe=>by cases e⟩;simp only[jh,Qy,if_false,Bool.not_eq_false',Wx,Np]at h;exact h
structure bL(R:List (List Int)):Prop where
 sq:Sq R
 row:∀r c,r<R.length->c<=R.length->((R.getD r []).take c).sum=0\/((R.getD r []).take c).sum=1
 rowE:∀r,r<R.length->((R.getD r []).take R.length).sum=1
 col:∀r c,r<=R.length->c<R.length->S R r c=0\/S R r c=1
 colE:∀c,c<R.length->S R R.length c=1
def bL.of{R:List (List Int)}(sq:Sq R)(h:∀r c,r<R.length->c<R.length->lZ R r c=false):bL R:=by
 have q:∀r c,r<R.length->c<R.length->((ac R r (c+1)=0\/ac R r (c+1)=1)/\(c+1=R.length->ac R r (c+1)=1))/\(S R (r+1) c=0\/S R (r+1) c=1)/\(r+1=R.length->S R (r+1) c=1):=by
  intro r c hr hc;have:=h r c hr hc;unfold lZ at this;rw[Bool.or_eq_false_iff]at this;obtain⟨a1,a2⟩:=uu this.1;obtain⟨b1,b2⟩:=uu this.2;exact⟨⟨a1,λe=>a2 (by simp;lia)⟩,b1,λe=>b2 (by simp;lia)⟩
 refine⟨sq,λr c hr hc=>?_,λr hr=>?_,λr c hr hc=>?_,λc hc=>?_⟩
 .cases c with
  |zero=>left;simp
  |succ c=>exact(q r c hr (by lia)).1.1
 .have:=(q r (R.length-1) hr (by lia)).1.2 (by lia);unfold ac at this
  rwa[show R.length-1+1=R.length by lia]at this
 .cases r with
  |zero=>left;simp[S]
  |succ r=>exact(q r c (by lia) hc).2.1
 .have:=(q (R.length-1) c (by lia) hc).2.2 (by lia)
  rwa[show R.length-1+1=R.length by lia]at this
def EY(de:aO)(lv:List Lv)(j:Nat):aG lev cl (.expr (.meth .clear (.var j) .unit)) de lv=match xK de j with
   |some ds=>if zU lv j then .next (de.set j (some (.lst []))) lv else .no
   |none=>.no:=rfl
end
end Lib
namespace Lib
def fl(p:Pl):Pl:=(p.2,p.1)
def ck(R:List (List Int))(r c:Nat):Int:=((R.getD r []).take c).sum
def bS(R:List (List Int))(r c:Nat):Di->Bool
 |.u=>decide (S R r c=((r:Int)+c)%2)
 |.r=>! decide ((if ck R r (c+1)=0 then 1 else 0)=((r:Int)+c)%2)
 |.d=>! decide (S R (r+1) c=((r:Int)+c)%2)
 |.l=>decide ((if ck R r c=0 then 1 else 0)=((r:Int)+c)%2)
def dJ(R:List (List Int)):Tr:=λp d=>bS R p.1.toNat p.2.toNat d
def neg(t:Tr):Tr:=λp d=>! t p d
def ut (h:Sq R)(hr:r<R.length):(R.getD r []).length=R.length:=by
 rw[Qj,Qe hr];exact h _ (WH hr)
def ur (h:Sq R)(hr:r<R.length)(hc:c<R.length):ck R r (c+1)=ck R r c+(R.getD r []).getD c 0:=by
 unfold ck;have hl:=ut h hr;generalize R.getD r []=x at *
 rw[Wl,Vt,Qe (by lia)];simp[Qj,Qe (show c<x.length by lia)]
def um (hr:r<R.length):S R (r+1) c=S R r c+(R.getD r []).getD c 0:=by
 have e:R[r]?=some (R.getD r []):=by rw[Qj,Qe hr];rfl
 exact nE R r c _ e
def rK(r c:Nat):((r:Int)+c)%2=0\/((r:Int)+c)%2=1:=by lia
def Ci (H:bL R)(hr:r<R.length)(hc:c<R.length):(bh.filter (bS R r c)).length=2:=by
 have h1:ck R r c=0\/ck R r c=1:=H.row r c hr (by lia);have h2:ck R r (c+1)=0\/ck R r (c+1)=1:=H.row r (c+1) hr hc;have h3:=H.col r c (by lia) hc;have h4:=H.col (r+1) c hr hc;have e1:=ur H.sq hr hc;have e2:=um (c:=c) hr;have h5:=rK r c;unfold bh;generalize (R.getD r []).getD c 0=a at *
 have e3:bS R r c .u=decide (S R r c=((r:Int)+c)%2):=rfl;have e4:bS R r c .r=! decide ((if ck R r (c+1)=0 then 1 else 0)=((r:Int)+c)%2):=rfl;have e5:bS R r c .d=! decide (S R (r+1) c=((r:Int)+c)%2):=rfl;have e6:bS R r c .l=decide ((if ck R r c=0 then 1 else 0)=((r:Int)+c)%2):=rfl;generalize ((r:Int)+c)%2=o at *
 generalize ck R r c=p at *
 generalize ck R r (c+1)=p' at *
 generalize S R r c=q at *
 generalize S R (r+1) c=q' at *
 simp only[Vp,List.filter_nil,e3,e4,e5,e6];rcases h1 with rfl|rfl<;>rcases h2 with rfl|rfl<;>rcases h3 with rfl|rfl<;>rcases h4 with rfl|rfl<;>rcases h5 with rfl|rfl<;>first|(exfalso;lia)|decide
def sR (H:bL R):cN R.length (dJ R):=by
 have hor:∀r c:Nat,bS R r (c+1) .l=bS R r c .r:=λr c=>by
  show decide ((if ck R r (c+1)=0 then 1 else 0)=((r:Int)+((c+1:Nat):Int))%2)=! decide ((if ck R r (c+1)=0 then 1 else 0)=((r:Int)+c)%2);have h5:=rK r c;rw[<-decide_not];apply decide_eq_decide.mpr;split<;>lia
 have ver:∀r c:Nat,r+1<=R.length->c<R.length->bS R (r+1) c .u=bS R r c .d:=λr c hr hc=>by
  show decide (S R (r+1) c=(((r+1:Nat):Int)+c)%2)=! decide (S R (r+1) c=((r:Int)+c)%2);have h4:=H.col (r+1) c hr hc;rw[<-decide_not];apply decide_eq_decide.mpr;lia
 refine⟨λp e h1 h2=>?_,λp h=>?_⟩
 .obtain ⟨⟨a0,a1⟩,b0,b1⟩:=aL.mp h1;obtain⟨⟨c0,c1⟩,d0,d1⟩:=aL.mp h2;obtain⟨a,b⟩:=p;obtain⟨i,rfl⟩:=Wh a0;obtain⟨j,rfl⟩:=Wh b0;simp only[]at a1 b1;cases e with
  |u=>
   simp only[aP]at c0;obtain⟨k,rfl⟩:∃k,i=k+1:=⟨i-1,by lia⟩;show bS R (((k+1:Nat):Int)-1).toNat j .d=bS R (k+1) j .u;rw[show(((k+1:Nat):Int)-1).toNat=k by lia];exact(ver k j (by lia) (by lia)).symm
  |r=>
   show bS R i ((j:Int)+1).toNat .l=bS R i j .r;rw[show((j:Int)+1).toNat=j+1 by lia];exact hor i j
  |d=>
   simp only[aP]at c1;show bS R ((i:Int)+1).toNat j .u=bS R i j .d;rw[show((i:Int)+1).toNat=i+1 by lia];exact ver i j (by lia) (by lia)
  |l=>
   simp only[aP]at d0;obtain⟨k,rfl⟩:∃k,j=k+1:=⟨j-1,by lia⟩;show bS R i (((k+1:Nat):Int)-1).toNat .r=bS R i (k+1) .l;rw[show(((k+1:Nat):Int)-1).toNat=k by lia];exact(hor i k).symm
 .obtain ⟨⟨a0,a1⟩,b0,b1⟩:=aL.mp h;exact Ci H (by lia) (by lia)
theorem cN.neg{n:Nat}{t:Tr}(F:cN n t):cN n (neg t):=by
 refine⟨λp e h1 h2=>?_,λp h=>?_⟩
 .show (! t (aP e p) (cH e))=! t p e;rw[F.con p e h1 h2]
 .have:=F.two p h;show(bh.filter λd=>! t p d).length=2;unfold bh at *
  cases h1:t p .u<;>cases h2:t p .r<;>cases h3:t p .d<;>cases h4:t p .l<;>simp[h1,h2,h3,h4]at this ⊢
def Cg (H:bL R)(h1:bq R.length p=true)(h2:bq R.length (aP e p)=false):dJ R p e=decide (yr R.length p e%2=0):=by
 obtain⟨⟨a0,a1⟩,b0,b1⟩:=aL.mp h1;have h2:¬(bq R.length (aP e p)=true):=by rw[h2];exact QQ
 rw[aL]at h2;obtain⟨a,b⟩:=p;obtain⟨i,rfl⟩:=Wh a0;obtain⟨j,rfl⟩:=Wh b0;simp only[]at a1 b1;cases e with
 |u=>
  simp only[aP]at h2;have:i=0:=by lia
  subst this;show decide (S R 0 j=(((0:Nat):Int)+j)%2)=decide ((j:Int)%2=0);apply decide_eq_decide.mpr;rw[show S R 0 j=0 from rfl];lia
 |r=>
  simp only[aP]at h2;have:j+1=R.length:=by lia
  have hE:ck R i (j+1)=1:=by rw[this];exact H.rowE i (by lia)
  show(! decide ((if ck R i (j+1)=0 then 1 else 0)=((i:Int)+j)%2))=decide (((R.length:Int)+i)%2=0);rw[hE,<-decide_not];apply decide_eq_decide.mpr;simp only[show ¬((1:Int)=0)from by decide,if_false];lia
 |d=>
  simp only[aP]at h2;have:i+1=R.length:=by lia
  have hE:S R (i+1) j=1:=by rw[this];exact H.colE j (by lia)
  show(! decide (S R (i+1) j=((i:Int)+j)%2))=decide ((3*(R.length:Int)-1-j)%2=0);rw[hE,<-decide_not];apply decide_eq_decide.mpr;lia
 |l=>
  simp only[aP]at h2;have:j=0:=by lia
  subst this;show decide ((if ck R i 0=0 then 1 else 0)=((i:Int)+((0:Nat):Int))%2)=decide ((4*(R.length:Int)-1-i)%2=0);apply decide_eq_decide.mpr;rw[Nj (show ck R i 0=0 from by simp[ck])];lia
def bt(n:Nat)(ρ:Nat):bQ:=match ρ/n with
 |0=>((0,((ρ%n:Nat):Int)),.u)
 |1=>((((ρ%n:Nat):Int),(n:Int)-1),.r)
 |2=>(((n:Int)-1,(n:Int)-1-((ρ%n:Nat):Int)),.d)
 |_=>(((n:Int)-1-((ρ%n:Nat):Int),0),.l)
def qV (hn:0<n)(h:ρ<4*n):bq n (bt n ρ).1=true/\eT n (bt n ρ)/\yr n (bt n ρ).1 (bt n ρ).2=ρ:=by
 have h1:=Nat.div_add_mod ρ n;have h2:=Nat.mod_lt ρ hn;have h3:ρ/n<4:=Vg (by rw[W3];exact h);unfold bt eT;generalize ρ%n=m at *
 generalize hq:ρ/n=q at *
 have hb:∀x:Pl,bq n x=false↔¬((0<=x.1/\x.1<n)/\(0<=x.2/\x.2<n)):=λx=>by rw[<-aL];simp
 match q,h3 with
 |0,_=>exact⟨aL.mpr ⟨⟨by simp,by simp;lia⟩,by simp,by simp;lia⟩,(hb _).mpr (by simp[aP]),by simp[yr];lia⟩
 |1,_=>exact⟨aL.mpr ⟨⟨by simp,by simp;lia⟩,by simp;lia,by simp;lia⟩,(hb _).mpr (by simp[aP]),by simp[yr];lia⟩
 |2,_=>exact⟨aL.mpr ⟨⟨by simp;lia,by simp;lia⟩,by simp;lia,by simp;lia⟩,(hb _).mpr (by simp[aP]),by simp[yr];lia⟩
 |3,_=>exact⟨aL.mpr ⟨⟨by simp;lia,by simp;lia⟩,by simp,by simp;lia⟩,(hb _).mpr (by simp[aP]),by simp[yr];lia⟩
end Lib
namespace Lib
section
variable{lev:Nat->Lv}{cl:Nat->List Dat->Rd}
def EX (hx:x.length<av)(de:aO)(lv:List Lv)(j:Nat)(he:ak cl e de=.ok (.int v))(hd:de[j]?=some (some (row x)))(hj:zU lv j=true):
  aG lev cl (.expr (.meth .append (.var j) (.pair e .unit))) de lv=.next (de.set j (some (row (x++[v])))) lv:=by
 rw[wP,he];simp only[eh];have hls:xK de j=some (x.map Dat.int):=by simp[xK,hd,row]
 rw[hls];simp only[Qm];rw[Nj hx];have hg:xJ lev e (.int v) j de lv=some (de,lv):=by
  unfold xJ;rw[Nk (by simp[hj]),Nj (yC lev e _ rfl)]
 rw[hg];simp[row]
def gk(c:Ex)(body:Sm)(de:aO)(lv:List Lv):aG lev cl (.while c body) de lv=yM (ak cl c) (aG lev cl body) 1000000 de lv:=rfl
def Ja (P:Nat->aO->List Lv->Prop)(N:Nat)(hs:∀t de lv,t<N->P t de lv->c de=.ok (.bl true)/\∃de' lv',body de lv=.next de' lv'/\P (t+1) de' lv')(he:∀de lv,P N de lv->c de=.ok (.bl false)):
  ∀(n t fuel:Nat) (de:aO) (lv:List Lv),t+n=N->n<fuel->P t de lv->∃de' lv',yM c body fuel de lv=.next de' lv'/\P N de' lv':=by
 intro n
 induction n with
 |zero=>
  intro t fuel de lv h1 h2 p;obtain⟨f,rfl⟩:∃f,fuel=f+1:=⟨fuel-1,by lia⟩;have:t=N:=by lia
  subst this;refine⟨de,lv,?_,p⟩;unfold yM;rw[he de lv p]
 |succ n ih=>
  intro t fuel de lv h1 h2 p;obtain⟨f,rfl⟩:∃f,fuel=f+1:=⟨fuel-1,by lia⟩;obtain⟨hc,d1,l1,hb,p1⟩:=hs t de lv (by lia) p;obtain⟨d2,l2,e,p2⟩:=ih (t+1) f d1 l1 (by lia) (by lia) p1;refine⟨d2,l2,?_,p2⟩;unfold yM;rw[hc];simp only;rw[hb];exact e
end
end Lib
namespace Lib
section
def Cf(x:List Int):yy .ne (row x) (row [])=.ok (.bl (! decide (x=[]))):=by
 have h:∀y,yZ yW (row y)=true:=λy=>by
  simp only[row,qP,vn];rw[xu];simp
 simp only[yy,fH,h,VC,if_true];simp only[row,nI,W1];cases x with
 |nil=>rfl
 |cons v x=>simp[cm];rfl
end
end Lib
namespace Lib
end Lib
namespace Lib
end Lib
namespace Lib
structure HF(n:Nat)(G:Nat->Nat->Int):Prop where
 top:∀j,j<=n->G 0 j=j
 left:∀i,i<=n->G i 0=i
 low:∀j,j<=n->G n j=(n:Int)-j
 right:∀i,i<=n->G i n=(n:Int)-i
 across:∀i j,i<=n->j<n->G i (j+1)-G i j=1\/G i (j+1)-G i j=-1
 down:∀i j,i<n->j<=n->G (i+1) j-G i j=1\/G (i+1) j-G i j=-1
end Lib
namespace Lib
end Lib
namespace Lib
end Lib
namespace Lib
section
def mx(a b:Int):Int:=if b > a then b else a
end
end Lib
namespace Lib
section
variable{lev:Nat->Lv}
def xO(q:Nat)(F:Nat->Nat->Int)(i:Nat):List Int:=(QA q).map (F i)
def yA(p q:Nat)(F:Nat->Nat->Int):List (List Int):=(QA p).map (xO q F)
def gm(p q:Nat)(F:Nat->Nat->Int):(yA p q F).length=p:=by simp[yA]
def Al(q:Nat)(F:Nat->Nat->Int)(i:Nat):(xO q F i).length=q:=by simp[xO]
def gp (h:i<p):zN (au (yA p q F)) (.int (i:Int))=.ok (row (xO q F i)):=uv (by simp[yA,h])
def EW (lev:Nat->Lv)(h:∀i:Int,aU lev e (.int i)=.full):aU lev (.comp e it c) (row x)=.full:=by
 unfold row
 first|rw[vB]|rw[xI]
 simp only[wH,Qy,if_false];rw[Nj (kG _ _ h)]
def dR(R:List (List Int))(r c:Nat):Int:=1-2*((R.getD r []).take c).sum
def eF(R:List (List Int))(r c:Nat):Int:=2*S R r c-1
def vJ{n:Nat}(h:n<=100):kT (.int 0) (.int n) (.int 1)=.ok (.tup (ym 0 1 n)):=by
 rw[nF (by unfold av;lia)];simp[eZ]
def arr(n:Nat)(F G:Nat->Nat->Int):Dat:=.tup [au (yA n (n+1) F),au (yA (n+1) n G)]
end
end Lib
namespace Lib
section
variable{lev:Nat->Lv}{cl:Nat->List Dat->Rd}{k:Nat}
def iz:Di->List Nat
 |.u=>[85] |.r=>[82] |.d=>[68] |.l=>[76]
def aH(p:Pl):Dat:=.tup [.int p.1,.int p.2]
def zw(d:Di):Dat:=.str (iz d)
def su{α:Type}(e:Di)(a b c d:α):α:=match e with
 |.u=>a |.r=>b |.d=>c |.l=>d
def Ce(a b:List Nat):yy .eq (.str a) (.str b)=.ok (.bl (decide (a=b))):=rfl
def Cd(a b:List Nat):yy .ne (.str a) (.str b)=.ok (.bl (! decide (a=b))):=rfl
@[simp]theorem KZ(de:aO):ak cl .dict0 de=.ok (.dct [] []):=rfl
@[simp]theorem ul(a b:Ex)(de:aO):ak cl (.dget a b) de=(ak cl a de).bind λx=>(ak cl b de).bind λy=>kA x y:=rfl
def ss(a:Ex)(de:aO):ak cl (.tup (.pair a .unit)) de=(ak cl a de).bind λx=>.ok (.tup [x]):=by
 rw[vk,zg,zj];cases ak cl a de with
 |ok x=>exact Nj (e:=Rd.no) (show 1<=av by decide)
 |_=>rfl
def gs(a b:Ex)(de:aO):ak cl (.tup (.pair a (.pair b .unit))) de=(ak cl a de).bind λx=>(ak cl b de).bind λy=>.ok (.tup [x,y]):=by
 rw[vk,zg,zg,zj];cases ak cl a de with
 |ok x=>
  cases ak cl b de with
  |ok y=>exact Nj (e:=Rd.no) (show 2<=av by decide)
  |_=>rfl
 |_=>rfl
def sr(a b c:Ex)(de:aO):ak cl (.tup (.pair a (.pair b (.pair c .unit)))) de=(ak cl a de).bind λx=>(ak cl b de).bind λy=>(ak cl c de).bind λz=>.ok (.tup [x,y,z]):=by
 rw[vk,zg,zg,zg,zj];cases ak cl a de with
 |ok x=>
  cases ak cl b de with
  |ok y=>
   cases ak cl c de with
   |ok z=>exact Nj (e:=Rd.no) (show 3<=av by decide)
   |_=>rfl
  |_=>rfl
 |_=>rfl
def BY(a b c d:Ex)(de:aO):ak cl (.tup (.pair a (.pair b (.pair c (.pair d .unit))))) de=(ak cl a de).bind λx=>(ak cl b de).bind λy=>(ak cl c de).bind λz=>(ak cl d de).bind λw=>.ok (.tup [x,y,z,w]):=by
 rw[vk,zg,zg,zg,zg,zj];cases ak cl a de with
 |ok x=>
  cases ak cl b de with
  |ok y=>
   cases ak cl c de with
   |ok z=>
    cases ak cl d de with
    |ok w=>exact Nj (e:=Rd.no) (show 4<=av by decide)
    |_=>rfl
   |_=>rfl
  |_=>rfl
 |_=>rfl
def sk(a b c d:Ex)(de:aO):ak cl (.lst (.pair a (.pair b (.pair c (.pair d .unit))))) de=(ak cl a de).bind λx=>(ak cl b de).bind λy=>(ak cl c de).bind λz=>(ak cl d de).bind λw=>.ok (.lst [x,y,z,w]):=by
 rw[wl,zg,zg,zg,zg,zj];cases ak cl a de with
 |ok x=>
  cases ak cl b de with
  |ok y=>
   cases ak cl c de with
   |ok z=>
    cases ak cl d de with
    |ok w=>exact xx (show 4<=av by decide)
    |_=>rfl
   |_=>rfl
  |_=>rfl
 |_=>rfl
def Cc (h:ak cl (.var i) de=.ok (zw e)):ak cl (w5 i [85] [82] [68] [76]) de=.ok (.int (su e 0 1 2 3)):=by
 unfold w5;simp only[jb,zI,ya,h,aI,zw,Ce];cases e<;>rfl
def qW (h:ak cl (.var i) de=.ok (zw e))(ha:ak cl a de=.ok A)(hb:ak cl b de=.ok B)(hc:ak cl c de=.ok C)(hd:ak cl d de=.ok D):
  ak cl (.idx (wF a b c d) (w5 i [85] [82] [68] [76])) de=.ok (su e A B C D):=by
 rw[zW,Cc h];unfold wF;rw[BY];simp only[ha,hb,hc,hd,aI];cases e<;>rfl
def nA:Fn:=⟨2,3,(.seq (.asg 2 (.bin .mod (.var 1) (.var 0))) (.ret (.idx (.lst (.pair (.tup (.pair (.tup (.pair (.lit (.int 0)) (.pair (.var 2) .unit))) (.pair (.lit (.str [85])) .unit))) (.pair (.tup (.pair (.tup (.pair (.var 2) (.pair (.bin .sub (.var 0) (.lit (.int 1))) .unit))) (.pair (.lit (.str [82])) .unit))) (.pair (.tup (.pair (.tup (.pair (.bin .sub (.var 0) (.lit (.int 1))) (.pair (.bin .sub (.bin .sub (.var 0) (.lit (.int 1))) (.var 2)) .unit))) (.pair (.lit (.str [68])) .unit))) (.pair (.tup (.pair (.tup (.pair (.bin .sub (.bin .sub (.var 0) (.lit (.int 1))) (.var 2)) (.pair (.lit (.int 0)) .unit))) (.pair (.lit (.str [76])) .unit))) .unit))))) (.bin .fdiv (.var 1) (.var 0)))))⟩
def Ie {ρ:Nat}(hn:0<n)(hn':n<=12)(h:ρ<4*n):zB lev cl k nA [.int n,.int ρ]=.ok (.tup [aH (bt n ρ).1,zw (bt n ρ).2]):=by
 have e1:zJ .mod (.int ρ) (.int n)=.ok (.int ((ρ%n:Nat):Int)):=xw _ _ (by lia);have e2:zJ .fdiv (.int ρ) (.int n)=.ok (.int ((ρ/n:Nat):Int)):=wO _ _ (by lia) (by lia);have h3:ρ/n<4:=Vg (by rw[W3];exact h);have l2:(2:Nat)<=av:=by decide
 unfold zB;rw[Nj (by rfl)];show zz (lev k) (aG lev cl (.seq (.asg 2 _) (.ret _)) [some (.int n),some (.int ρ),none] _)=_;rw[yg];simp only[zE,zt,zd,za,aI,e1,aV];rw[zT (by simp)];simp only[zf,Qd,Qc,zD,zW,sk,gs,zt,zd,za,ze,ya,aI,yG,e2];unfold bt;generalize ρ%n=m at *
 generalize ρ/n=q at *
 match q,h3 with
 |0,_=>rfl
 |1,_=>rfl
 |2,_=>rfl
 |3,_=>rfl
def pj:Ex:=(.and (.chain .le .lt (.lit (.int 0)) (.idx (.var 5) (.lit (.int 0))) (.var 0)) (.chain .le .lt (.lit (.int 0)) (.idx (.var 5) (.lit (.int 1))) (.var 0)))
def lY:Ex:=(.idx (wF (.tup (.pair (.bin .sub (.var 3) (.lit (.int 1))) (.pair (.var 4) .unit))) (.tup (.pair (.var 3) (.pair (.bin .add (.var 4) (.lit (.int 1))) .unit))) (.tup (.pair (.bin .add (.var 3) (.lit (.int 1))) (.pair (.var 4) .unit))) (.tup (.pair (.var 3) (.pair (.bin .sub (.var 4) (.lit (.int 1))) .unit)))) (w5 2 [85] [82] [68] [76]))
def oZ:Ex:=(.idx (wF (.lit (.str [68])) (.lit (.str [76])) (.lit (.str [85])) (.lit (.str [82]))) (w5 2 [85] [82] [68] [76]))
def oY:Ex:=(.idx (wF (.var 4) (.bin .add (.var 0) (.var 3)) (.bin .sub (.bin .sub (.bin .mul (.lit (.int 3)) (.var 0)) (.lit (.int 1))) (.var 4)) (.bin .sub (.bin .sub (.bin .mul (.lit (.int 4)) (.var 0)) (.lit (.int 1))) (.var 3))) (w5 2 [85] [82] [68] [76]))
def mw:Fn:=⟨3,6,(.seq (.fort 3 4 (.tup (.pair (.var 1) .unit)) .skip) (.seq (.asg 5 lY) (.seq (.ite pj (.ret (.tup (.pair (.var 5) (.pair oZ (.pair (.lit .non) .unit))))) .skip) (.ret (.tup (.pair (.var 1) (.pair (.var 2) (.pair oY .unit))))))))⟩
def Cb {n:Nat}:ak cl pj [some (.int n),d1,d2,d3,d4,some (aH q)]=.ok (.bl (bq n q)):=by
 have g0:zN (aH q) (.int 0)=.ok (.int q.1):=rfl;have g1:zN (aH q) (.int 1)=.ok (.int q.2):=rfl;unfold pj bq;simp only[y8,gc,zW,ze,zd,za,aI,g0,g1,mV,qc];by_cases h1:0<=q.1
 .by_cases h2:q.1<n
  .by_cases h3:0<=q.2
   .simp[h1,h2,h3]
   .simp[h1,h2,h3]
  .simp[h1,h2]
 .simp[h1]
def fK(n:Nat)(p:Pl)(e:Di):Dat:=if bq n (aP e p)=true then .tup [aH (aP e p),zw (cH e),.non]else .tup [aH p,zw e,.int (yr n p e)]
def EV{n:Nat}(hn:n<=12)(p:Pl)(e:Di):zB lev cl k mw [.int n,aH p,zw e]=.ok (fK n p e):=by
 have l1:(1:Nat)<=av:=by decide
 have l2:(2:Nat)<=av:=by decide
 have l3:(3:Nat)<=av:=by decide
 have hv:∀d3 d4 d5,ak cl (.var 2) [some (.int n),some (aH p),some (zw e),d3,d4,d5]=.ok (zw e):=λ_ _ _=>rfl;have m3:zJ .mul (.int 3) (.int n)=.ok (.int (3*n)):=yz _ _ (by decide);have m4:zJ .mul (.int 4) (.int n)=.ok (.int (4*n)):=yz _ _ (by decide);have hS:ak cl lY [some (.int n),some (aH p),some (zw e),some (.int p.1),some (.int p.2),none]=.ok (aH (aP e p)):=by
  unfold lY;rw[qW (hv _ _ _) (A:=aH (aP .u p)) (B:=aH (aP .r p)) (C:=aH (aP .d p)) (D:=aH (aP .l p))]
  .cases e<;>rfl
  all_goals
   simp only[gs,zt,zd,za,ze,aI,yG,zX];rfl
 have hO:∀d5,ak cl oZ [some (.int n),some (aH p),some (zw e),some (.int p.1),some (.int p.2),d5]=.ok (zw (cH e)):=λd5=>by
  unfold oZ;rw[qW (hv _ _ _) (A:=zw .d) (B:=zw .l) (C:=zw .u) (D:=zw .r) rfl rfl rfl rfl];cases e<;>rfl
 have hR:∀d5,ak cl oY [some (.int n),some (aH p),some (zw e),some (.int p.1),some (.int p.2),d5]=.ok (.int (yr n p e)):=λd5=>by
  unfold oY;rw[qW (hv _ _ _) (A:=.int (yr n p .u)) (B:=.int (yr n p .r)) (C:=.int (yr n p .d)) (D:=.int (yr n p .l))]
  .cases e<;>rfl
  .rfl
  .simp only[zt,zd,za,aI,zX];rfl
  .simp only[zt,zd,za,ze,aI,m3,yG];rfl
  .simp only[zt,zd,za,ze,aI,m4,yG];rfl
 unfold zB;rw[Nj (by rfl)];show zz (lev k) (aG lev cl (.seq _ (.seq (.asg 5 lY) (.seq _ (.ret _)))) [some (.int n),some (aH p),some (zw e),none,none,none] _)=_;rw[zF,uw];simp only[ss,zd,za,aI,aV,xS];rw[show aH p=.tup [.int p.1,.int p.2]from rfl];simp only[xj,yj,zf,Qd,Qc];rw[show(.tup [.int p.1,.int p.2]:Dat)=aH p from rfl,zF,zE,hS];simp only[aV];rw[zT (by simp[aH])];simp only[zf,Qd,Qc];rw[yg,yu,Cb];simp only[aV];unfold fK;by_cases hi:bq n (aP e p)=true
 .rw[hi,Nj rfl];simp only[zD,sr,zd,za,zQ,hO,aI,aV];simp[b7.then,zz,aH,zw]
 .rw[Nk hi];simp only[Bool.not_eq_true]at hi;rw[hi];simp only[yj,zf,zD,sr,zd,za,hR,aI,aV];simp[zz,aH,zw]
end
end Lib
namespace Lib
section
variable{lev:Nat->Lv}{cl:Nat->List Dat->Rd}{k:Nat}
def mv:Fn:=⟨3,3,(.ret (.and (.chain .le .lt (.lit (.int 0)) (.var 1) (.var 0)) (.chain .le .lt (.lit (.int 0)) (.var 2) (.var 0))))⟩
def EU {c:Nat}(hr:r<n)(hc:c<n):zB lev cl k mv [.int n,.int r,.int c]=.ok (.bl true):=by
 unfold zB;rw[Nj (by rfl)];show zz (lev k) (aG lev cl (.ret _) [some (.int n),some (.int r),some (.int c)] _)=_;simp only[zD,y8,gc,ze,zd,za,aI,mV,qc];rw[Nn (show(0:Int)<=r by lia),Nn (show(0:Int)<=c by lia)];simp only[aI,qc];rw[Nn (show(r:Int)<n by lia),Nn (show(c:Int)<n by lia)];simp only[aI,aV];simp[zz]
def mr(ki:Nat):Fn:=⟨4,4,(.seq (.ite (.not (.call ki (.pair (.var 0) (.pair (.var 1) (.pair (.var 2) .unit))))) (.ret (.lit .non)) .skip) (.seq (.ite (.and (.cmp .eq (.var 3) (.lit (.str [85]))) (.cmp .eq (.var 1) (.lit (.int 0)))) (.ret (.var 2)) .skip) (.seq (.ite (.and (.cmp .eq (.var 3) (.lit (.str [82]))) (.cmp .eq (.var 2) (.bin .sub (.var 0) (.lit (.int 1))))) (.ret (.bin .add (.var 0) (.var 1))) .skip) (.seq (.ite (.and (.cmp .eq (.var 3) (.lit (.str [68]))) (.cmp .eq (.var 1) (.bin .sub (.var 0) (.lit (.int 1))))) (.ret (.bin .add (.bin .mul (.lit (.int 2)) (.var 0)) (.bin .sub (.bin .sub (.var 0) (.lit (.int 1))) (.var 2)))) .skip) (.seq (.ite (.and (.cmp .eq (.var 3) (.lit (.str [76]))) (.cmp .eq (.var 2) (.lit (.int 0)))) (.ret (.bin .add (.bin .mul (.lit (.int 3)) (.var 0)) (.bin .sub (.bin .sub (.var 0) (.lit (.int 1))) (.var 1)))) .skip) (.ret (.lit .non)))))))⟩
def fy(n:Nat)(p:Pl)(e:Di):Dat:=if bq n (aP e p)=true then .non else .int (yr n p e)
def ET {c:Nat}(hr:r<n)(hc:c<n)(hi:cl ki [.int n,.int r,.int c]=.ok (.bl true))(e:Di):zB lev cl k (mr ki) [.int n,.int r,.int c,zw e]=.ok (fy n ((r:Int),(c:Int)) e):=by
 have m2:zJ .mul (.int 2) (.int n)=.ok (.int (2*n)):=yz _ _ (by decide);have m3:zJ .mul (.int 3) (.int n)=.ok (.int (3*n)):=yz _ _ (by decide);have hq:∀(a b:Di) ,yy .eq (zw a) (zw b)=.ok (.bl (decide (a=b))):=λa b=>by cases a<;>cases b<;>rfl
 have q1:=λa=>hq a .u;have q2:=λa=>hq a .r;have q3:=λa=>hq a .d;have q4:=λa=>hq a .l;unfold zB;rw[Nj (by rfl)];show zz (lev k) (aG lev cl (.seq _ (.seq _ (.seq _ (.seq _ (.seq _ (.ret _)))))) [some (.int n),some (.int r),some (.int c),some (zw e)] _)=_;unfold fy;have s1:Dat.str [85]=zw .u:=rfl;have s2:Dat.str [82]=zw .r:=rfl;have s3:Dat.str [68]=zw .d:=rfl;have s4:Dat.str [76]=zw .l:=rfl;cases e with
 |u=>
  by_cases z:(r:Int)=0
  .have t:bq n (aP .u ((r:Int),(c:Int)))=false:=by
    cases q:bq n (aP .u ((r:Int),(c:Int)))with
    |false=>rfl
    |true=>have:=aL.mp q;simp only[aP]at this;lia
   rw[t];simp only[zF,yg,yu,xR,zq,zg,zj,y8,zI,zt,zd,za,ya,ze,zQ,aI,zh,hi,Q4,aV,yj,zf,s1,s2,s3,s4,q1,q2,q3,q4,yU,yG,zX,m2,m3,zD,reduceCtorEq,decide_false,decide_true,Nn z,Qy,if_false,yr];simp[zz]
   try lia
  .have t:bq n (aP .u ((r:Int),(c:Int)))=true:=aL.mpr (by simp only[aP];lia);rw[t];simp only[zF,yg,yu,xR,zq,zg,zj,y8,zI,zt,zd,za,ya,ze,zQ,aI,zh,hi,Q4,aV,yj,zf,s1,s2,s3,s4,q1,q2,q3,q4,yU,yG,zX,m2,m3,zD,reduceCtorEq,decide_false,decide_true,Ni z,if_true,yr];simp[zz]
 |r=>
  by_cases z:(c:Int)=(n:Int)-1
  .have t:bq n (aP .r ((r:Int),(c:Int)))=false:=by
    cases q:bq n (aP .r ((r:Int),(c:Int)))with
    |false=>rfl
    |true=>have:=aL.mp q;simp only[aP]at this;lia
   rw[t];simp only[zF,yg,yu,xR,zq,zg,zj,y8,zI,zt,zd,za,ya,ze,zQ,aI,zh,hi,Q4,aV,yj,zf,s1,s2,s3,s4,q1,q2,q3,q4,yU,yG,zX,m2,m3,zD,reduceCtorEq,decide_false,decide_true,Nn z,Qy,if_false,yr];simp[zz]
   try lia
  .have t:bq n (aP .r ((r:Int),(c:Int)))=true:=aL.mpr (by simp only[aP];lia);rw[t];simp only[zF,yg,yu,xR,zq,zg,zj,y8,zI,zt,zd,za,ya,ze,zQ,aI,zh,hi,Q4,aV,yj,zf,s1,s2,s3,s4,q1,q2,q3,q4,yU,yG,zX,m2,m3,zD,reduceCtorEq,decide_false,decide_true,Ni z,if_true,yr];simp[zz]
 |d=>
  by_cases z:(r:Int)=(n:Int)-1
  .have t:bq n (aP .d ((r:Int),(c:Int)))=false:=by
    cases q:bq n (aP .d ((r:Int),(c:Int)))with
    |false=>rfl
    |true=>have:=aL.mp q;simp only[aP]at this;lia
   rw[t];simp only[zF,yg,yu,xR,zq,zg,zj,y8,zI,zt,zd,za,ya,ze,zQ,aI,zh,hi,Q4,aV,yj,zf,s1,s2,s3,s4,q1,q2,q3,q4,yU,yG,zX,m2,m3,zD,reduceCtorEq,decide_false,decide_true,Nn z,Qy,if_false,yr];simp[zz]
   try lia
  .have t:bq n (aP .d ((r:Int),(c:Int)))=true:=aL.mpr (by simp only[aP];lia);rw[t];simp only[zF,yg,yu,xR,zq,zg,zj,y8,zI,zt,zd,za,ya,ze,zQ,aI,zh,hi,Q4,aV,yj,zf,s1,s2,s3,s4,q1,q2,q3,q4,yU,yG,zX,m2,m3,zD,reduceCtorEq,decide_false,decide_true,Ni z,if_true,yr];simp[zz]
 |l=>
  by_cases z:(c:Int)=0
  .have t:bq n (aP .l ((r:Int),(c:Int)))=false:=by
    cases q:bq n (aP .l ((r:Int),(c:Int)))with
    |false=>rfl
    |true=>have:=aL.mp q;simp only[aP]at this;lia
   rw[t];simp only[zF,yg,yu,xR,zq,zg,zj,y8,zI,zt,zd,za,ya,ze,zQ,aI,zh,hi,Q4,aV,yj,zf,s1,s2,s3,s4,q1,q2,q3,q4,yU,yG,zX,m2,m3,zD,reduceCtorEq,decide_false,decide_true,Nn z,Qy,if_false,yr];simp[zz]
   try lia
  .have t:bq n (aP .l ((r:Int),(c:Int)))=true:=aL.mpr (by simp only[aP];lia);rw[t];simp only[zF,yg,yu,xR,zq,zg,zj,y8,zI,zt,zd,za,ya,ze,zQ,aI,zh,hi,Q4,aV,yj,zf,s1,s2,s3,s4,q1,q2,q3,q4,yU,yG,zX,m2,m3,zD,reduceCtorEq,decide_false,decide_true,Ni z,if_true,yr];simp[zz]
def mX:Fn:=⟨2,4,(.seq (.asg 2 (.bin .fdiv (.var 1) (.var 0))) (.seq (.asg 3 (.bin .mod (.var 1) (.var 0))) (.seq (.ite (.cmp .eq (.var 2) (.lit (.int 0))) (.ret (.tup (.pair (.lit (.int 0)) (.pair (.var 3) (.pair (.lit (.str [85])) .unit))))) .skip) (.seq (.ite (.cmp .eq (.var 2) (.lit (.int 1))) (.ret (.tup (.pair (.var 3) (.pair (.bin .sub (.var 0) (.lit (.int 1))) (.pair (.lit (.str [82])) .unit))))) .skip) (.seq (.ite (.cmp .eq (.var 2) (.lit (.int 2))) (.ret (.tup (.pair (.bin .sub (.var 0) (.lit (.int 1))) (.pair (.bin .sub (.bin .sub (.var 0) (.lit (.int 1))) (.var 3)) (.pair (.lit (.str [68])) .unit))))) .skip) (.ret (.tup (.pair (.bin .sub (.bin .sub (.var 0) (.lit (.int 1))) (.var 3)) (.pair (.lit (.int 0)) (.pair (.lit (.str [76])) .unit))))))))))⟩
def GX {ρ:Nat}(hn:0<n)(hn':n<=12)(h:ρ<4*n):zB lev cl k mX [.int n,.int ρ]=.ok (.tup [.int (bt n ρ).1.1,.int (bt n ρ).1.2,zw (bt n ρ).2]):=by
 have e1:zJ .mod (.int ρ) (.int n)=.ok (.int ((ρ%n:Nat):Int)):=xw _ _ (by lia);have e2:zJ .fdiv (.int ρ) (.int n)=.ok (.int ((ρ/n:Nat):Int)):=wO _ _ (by lia) (by lia);have h3:ρ/n<4:=Vg (by rw[W3];exact h);unfold zB;rw[Nj (by rfl)];show zz (lev k) (aG lev cl (.seq (.asg 2 _) (.seq (.asg 3 _) (.seq _ (.seq _ (.seq _ (.ret _)))))) [some (.int n),some (.int ρ),none,none] _)=_;rw[zF,zE];simp only[zt,zd,za,aI,e2,aV];rw[zT (by simp)];simp only[zf,Qd,Qc];rw[zF,zE];simp only[zt,zd,za,aI,e1,aV];rw[zT (by simp)];simp only[zf,Qd,Qc,zF,yg,yu,zD,yj,zI,vk,zg,zj,zt,zd,za,ze,ya,aI,yG,yU];unfold bt;generalize ρ%n=m at *
 generalize ρ/n=q at *
 match q,h3 with
 |0,_=>rfl
 |1,_=>rfl
 |2,_=>rfl
 |3,_=>rfl
def lW:Ex:=(.idx (wF (du (-1) 0) (du 0 1) (du 1 0) (du 0 (-1))) (w5 3 [85] [82] [68] [76]))
def mq(kr:Nat):Fn:=⟨4,6,(.seq (.asg 4 (.call kr (.pair (.var 0) (.pair (.var 1) (.pair (.var 2) (.pair (.var 3) .unit)))))) (.seq (.ite (.cmp .notN (.var 4) (.lit .non)) (.ret (.var 4)) .skip) (.seq (.asg 5 lW) (.ret (.tup (.pair (.bin .add (.var 1) (.idx (.var 5) (.lit (.int 0)))) (.pair (.bin .add (.var 2) (.idx (.var 5) (.lit (.int 1)))) .unit)))))))⟩
def zV(n:Nat)(p:Pl)(e:Di):Dat:=if bq n (aP e p)=true then aH (aP e p)else .int (yr n p e)
def ES {n r c:Nat}(e:Di)(h:cl kr [.int n,.int r,.int c,zw e]=.ok (fy n ((r:Int),(c:Int)) e)):zB lev cl k (mq kr) [.int n,.int r,.int c,zw e]=.ok (zV n ((r:Int),(c:Int)) e):=by
 unfold zB;rw[Nj (by rfl)];show zz (lev k) (aG lev cl (.seq (.asg 4 _) (.seq _ (.seq (.asg 5 lW) (.ret _)))) [some (.int n),some (.int r),some (.int c),some (zw e),none,none] _)=_;rw[zF,zE];simp only[zq,zg,zj,zd,za,aI,zh,h,aV];have hfl:ax (fy n ((r:Int),(c:Int)) e)=true:=by unfold fy;split<;>rfl
 rw[zT hfl];simp only[zf,Qd,Qc];rw[zF];unfold fy zV;by_cases q:bq n (aP e ((r:Int),(c:Int)))=true
 .rw[Nj q,Nj q];simp only[yu,zI,zd,za,zQ,aI];rw[show yy .notN .non .non=.ok (.bl false)from rfl];simp only[aV,yj,zf];have hT:ak cl lW [some (.int n),some (.int r),some (.int c),some (zw e),some .non,none]=.ok (aH ((aP e ((r:Int),(c:Int))).1-r,(aP e ((r:Int),(c:Int))).2-c)):=by
   unfold lW;rw[qW (e:=e) (show ak cl (.var 3) [some (.int n),some (.int r),some (.int c),some (zw e),some .non,none]=.ok (zw e)from rfl) (A:=aH (-1,0)) (B:=aH (0,1)) (C:=aH (1,0)) (D:=aH (0,-1)) rfl rfl rfl rfl];have z0:∀x:Int,x-x=0:=λx=>by lia
   have z1:∀x:Int,x-1-x=-1:=λx=>by lia
   have z2:∀x:Int,x+1-x=1:=λx=>by lia
   cases e with
   |u=>show Rd.ok (aH (-1,0))=Rd.ok (aH ((r:Int)-1-r,(c:Int)-c));rw[z1,z0]
   |r=>show Rd.ok (aH (0,1))=Rd.ok (aH ((r:Int)-r,(c:Int)+1-c));rw[z0,z2]
   |d=>show Rd.ok (aH (1,0))=Rd.ok (aH ((r:Int)+1-r,(c:Int)-c));rw[z2,z0]
   |l=>show Rd.ok (aH (0,-1))=Rd.ok (aH ((r:Int)-r,(c:Int)-1-c));rw[z0,z1]
  rw[yg,zE,hT];simp only[aV];rw[zT (by simp[aH])];simp only[zf,Qd,Qc,zD,vk,zg,zj,zt,zW,zd,za,ze,aI];have i0:∀x y:Int,zN (aH (x,y)) (.int 0)=.ok (.int x):=λx y=>rfl;have i1:∀x y:Int,zN (aH (x,y)) (.int 1)=.ok (.int y):=λx y=>rfl;simp only[i0,i1,aI,zX];rw[show(r:Int)+((aP e ((r:Int),(c:Int))).1-r)=(aP e ((r:Int),(c:Int))).1 by lia,show(c:Int)+((aP e ((r:Int),(c:Int))).2-c)=(aP e ((r:Int),(c:Int))).2 by lia];rfl
 .rw[Nk q,Nk q];simp only[yu,zI,zd,za,zQ,aI];rw[show yy .notN (.int (yr n ((r:Int),(c:Int)) e)) .non=.ok (.bl true)from rfl];simp only[aV,zD,zd,za];simp[zz,b7.then]
end
end Lib
namespace Lib
section
variable{lev:Nat->Lv}{cl:Nat->List Dat->Rd}{k:Nat}
theorem wI {α:Type}{c e:β->Rd}(f:α->β)(q:α->Bool)(g:α->Dat):∀(xs:List α) (acc:List Dat),(∀x∈xs,c (f x)=.ok (.bl (q x)))->(∀x∈xs,q x=true->e (f x)=.ok (g x))->acc.length+xs.length<=av->yi c e (xs.map f) acc=.ok (.lst (acc++(xs.filter q).map g))
 |[],acc,_,_,h=>by
  show bp acc=_;rw[xx (by simpa using h)];simp
 |x::xs,acc,hc,he,h=>by
  show(c (f x)).bind _=_;rw[hc x (by simp)];simp only[aI];cases hq:q x with
  |true=>
   simp only[];rw[he x (by simp) hq];simp only[aI];rw[Nj (by simp at h;lia),wI f q g xs _ (λy hy=>hc y (by simp[hy])) (λy hy=>he y (by simp[hy])) (by simp at h ⊢;lia)];simp[Vp,hq]
  |false=>
   simp only[];rw[wI f q g xs _ (λy hy=>hc y (by simp[hy])) (λy hy=>he y (by simp[hy])) (by simp at h ⊢;lia)];simp[Vp,hq]
def ER(e d:Di):decide (iz e=iz d)=decide (e=d):=by cases e<;>cases d<;>rfl
def EQ(f:Di->Bool):(bh.filter f).length<=4:=by
 have:=List.length_filter_le f bh;exact this
def nU:Ex:=(.idx (.comp (.var 7) (.dget (.var 0) (.var 3)) (.cmp .ne (.var 7) (.var 4))) (.lit (.int 0)))
def iP(kb:Nat):Sm:=(.seq (.asg 4 nU) (.seq (.unp3 3 4 6 (.call kb (.pair (.var 1) (.pair (.var 3) (.pair (.var 4) .unit))))) (.ite (.cmp .isN (.var 6) (.lit .non)) (.expr (.meth .append (.var 5) (.pair (.var 3) .unit))) .skip)))
def iO:Ex:=(.cmp .isN (.var 6) (.lit .non))
def mn(ks kb:Nat):Fn:=⟨3,7,(.seq (.fort 3 4 (.tup (.pair (.call ks (.pair (.var 1) (.pair (.var 2) .unit))) .unit)) .skip) (.seq (.asg 5 (.lst (.pair (.var 3) .unit))) (.seq (.asg 6 (.lit .non)) (.seq (.while iO (iP kb)) (.ret (.tup (.pair (.var 5) (.pair (.var 6) .unit))))))))⟩
def SD(n:Nat)(t:Tr)(D:Dat):Prop:=∀p,bq n p=true->kA D (aH p)=.ok (.lst ((bh.filter (t p)).map zw))
def Ca (F:cN n t)(hD:SD n t D)(g:Good n t s):ak cl nU [some D,d1,d2,some (aH s.1),some (zw s.2),d5,d6]=.ok (zw (bE (t s.1) s.2)):=by
 obtain⟨_,_,_,o4⟩:=wg (F.two s.1 g.1) g.2;have hl:=EQ (t s.1);unfold nU;rw[zW,xB];simp only[ul,zd,za,aI,hD s.1 g.1,ze];rw[wn (by rw[Qm];unfold av;lia)];simp only[];rw[wI zw (λe=>! decide (e=s.2)) zw (bh.filter (t s.1)) [] (λe _=>?_) (λe _ _=>?_) (by simp;unfold av;lia),o4]
 .rfl
 rotate_left
 .rfl
 .simp only[Q0,QO,zI,zd,za,aI];rw[show zw e=.str (iz e)from rfl,show zw s.2=.str (iz s.2)from rfl,Cd,ER]
def EO(i j k:Nat)(e:Ex)(de:aO)(lv:List Lv):aG lev cl (.unp3 i j k e) de lv=(ak cl e de).bindS λd=>match xa d with
  |some [a,b,c]=>.next (((de.set i (some a)).set j (some b)).set k (some c)) ((((yJ e de lv).set i (aS a)).set j (aS b)).set k (aS c))
  |_=>.no:=rfl
def EM{kb n:Nat}(hb:∀p e,cl kb [.int n,aH p,zw e]=.ok (fK n p e)){t:Tr}{D:Dat}(F:cN n t)(hD:SD n t D){s:bQ}(g:Good n t s){acc:List Pl}(ha:acc.length<av)(d2:Option Dat)(l0 l1 l2 l3 l4 l6:Lv):
  ∃m0 m1 m2 m3 m4 m6,aG lev cl (iP kb) [some D,some (.int n),d2,some (aH s.1),some (zw s.2),some (.lst (acc.map aH)),some .non] [l0,l1,l2,l3,l4,.full,l6]=.next (match b9 n t s with
   |some s'=>[some D,some (.int n),d2,some (aH s'.1),some (zw s'.2),some (.lst ((acc++[s'.1]).map aH)),some .non]
   |none=>[some D,some (.int n),d2,some (aH s.1),some (zw (bE (t s.1) s.2)),some (.lst (acc.map aH)),some (.int (vW n t s))]) [m0,m1,m2,m3,m4,.full,m6]:=by
 unfold iP;rw[zH lev cl _ _ rfl,zE,Ca F hD g];simp only[aV];rw[zT (by simp[zw])];simp only[zf,Qd,Qc];rw[zH lev cl _ _ rfl,EO];simp only[zq,zg,zj,zd,za,aI,zh,hb,aV];unfold fK b9 vW;by_cases hi:bq n (aP (bE (t s.1) s.2) s.1)=true
 .rw[Nj hi,Nj hi];refine⟨l0,.no,l2,.full,.full,.full,?_⟩;simp only[xa,zf,Qd,Qc,yu,zI,zd,za,zQ,aI];rw[show yy .isN .non .non=.ok (.bl true)from rfl];simp only[aV];rw[wP];simp only[zd,za,eh];rw[show xK [some D,some (.int n),d2,some (aH (aP (bE (t s.1) s.2) s.1)),some (zw (cH (bE (t s.1) s.2))),some (.lst (acc.map aH)),some .non] 5=some (acc.map aH)from rfl];simp only[];rw[Nj (by rw[Qm];exact ha)];unfold xJ;rw[Nk (by simp[yJ,aR,zU]),Nj (yC lev _ _ (by simp[aH]))];simp[yJ,aR,aS,aH,zw]
 .rw[Nk hi,Nk hi];refine⟨l0,.no,l2,.full,.full,.full,?_⟩;simp only[xa,zf,Qd,Qc,yu,zI,zd,za,zQ,aI];rw[show ∀i:Int,yy .isN (.int i) .non=.ok (.bl false)from λ_=>rfl];simp only[aV,yj];simp[yJ,aR,aS,aH,zw]
theorem Ak {n:Nat}(hb:∀p e,cl kb [.int n,aH p,zw e]=.ok (fK n p e))(F:cN n t)(hD:SD n t D)(d2:Option Dat):∀(f:Nat) (s:bQ) (acc pl:List Pl) (ρ:Int),Good n t s->wN n t f s acc=some (pl,ρ)->acc.length+f<=av->∀(fuel:Nat),f+1<=fuel->∀(l0 l1 l2 l3 l4 l6:Lv),
  ∃d3 d4 m0 m1 m2 m3 m4 m6,yM (ak cl iO) (aG lev cl (iP kb)) fuel [some D,some (.int n),d2,some (aH s.1),some (zw s.2),some (.lst (acc.map aH)),some .non] [l0,l1,l2,l3,l4,.full,l6]=.next [some D,some (.int n),d2,d3,d4,some (.lst (pl.map aH)),some (.int ρ)] [m0,m1,m2,m3,m4,.full,m6]
 |0,s,acc,pl,ρ,g,h,ha,fuel,hf,l0,l1,l2,l3,l4,l6=>by cases h
 |f+1,s,acc,pl,ρ,g,h,ha,fuel,hf,l0,l1,l2,l3,l4,l6=>by
  obtain⟨q,rfl⟩:∃q,fuel=q+1:=⟨fuel-1,by lia⟩;obtain⟨m0,m1,m2,m3,m4,m6,hB⟩:=EM (lev:=lev) hb F hD g (acc:=acc) (by lia) d2 l0 l1 l2 l3 l4 l6;have h':(match b9 n t s with|some s'=>wN n t f s' (acc++[s'.1])|none=>some (acc,vW n t s))=some (pl,ρ):=h;have hC:ak cl iO [some D,some (.int n),d2,some (aH s.1),some (zw s.2),some (.lst (acc.map aH)),some .non]=.ok (.bl true):=rfl;have unf:∀(c:aO->Rd) (body:aO->List Lv->b7) (k:Nat) (de:aO) (lv:List Lv),yM c body (k+1) de lv=match c de with
   |.ok (.bl true)=>match body de lv with
    |.next d1 l1=>yM c body k d1 l1
    |.cont d1 l1=>yM c body k d1 l1
    |.brk d1 l1=>.next d1 l1
    |r=>r
   |.ok (.bl false)=>.next de lv
   |.exc c d=>.exc c d
   |_=>.no:=λ_ _ _ _ _=>rfl
  rw[unf,hC];simp only[];rw[hB];simp only[];cases e:b9 n t s with
  |some s'=>
   rw[e]at h';exact Ak hb F hD d2 f s' _ pl ρ (yL F g e).1 h' (by simp;lia) q (by lia) _ _ _ _ _ _
  |none=>
   rw[e]at h';cases h';obtain⟨q',rfl⟩:∃q',q=q'+1:=⟨q-1,by lia⟩;refine⟨some (aH s.1),some (zw (bE (t s.1) s.2)),m0,m1,m2,m3,m4,m6,?_⟩;rw[unf,show ak cl iO [some D,some (.int n),d2,some (aH s.1),some (zw (bE (t s.1) s.2)),some (.lst (acc.map aH)),some (.int (vW n t s))]=.ok (.bl false)from rfl]
def EL {ρ:Nat}(hn:0<n)(hn':n<=12)(hρ:ρ<4*n)(hs:cl ks [.int n,.int ρ]=.ok (.tup [aH (bt n ρ).1,zw (bt n ρ).2]))(hb:∀p e,cl kb [.int n,aH p,zw e]=.ok (fK n p e))(F:cN n t)(hD:SD n t D)(g:Good n t (bt n ρ))(hw:wN n t (n*n*4) (bt n ρ) [(bt n ρ).1]=some (pl,σ))(hk:lev k=.no):zB lev cl k (mn ks kb) [D,.int n,.int ρ]=.ok (.tup [.lst (pl.map aH),.int σ]):=by
 have hnn:n*n*4<=576:=by
  have:n*n<=12*12:=WV hn' hn';lia
 obtain⟨d3,d4,m0,m1,m2,m3,m4,m6,hL⟩:=Ak (lev:=lev) hb F hD (some (.int ρ)) (n*n*4) (bt n ρ) [(bt n ρ).1] pl σ g hw (by simp;unfold av;lia) 1000000 (by lia) (aS D) .full .full .full .full .full;unfold zB;rw[Nj (by rfl)];show zz (lev k) (aG lev cl (.seq _ (.seq _ (.seq _ (.seq (.while iO (iP kb)) (.ret _))))) [some D,some (.int n),some (.int ρ),none,none,none,none] [aS D,aS (.int n),aS (.int ρ),.full,.full,.full,.full])=_;rw[zF,uw];simp only[ss,zq,zg,zj,zd,za,aI,zh,hs,aV,xS];have hfl:ax (.tup [.tup [aH (bt n ρ).1,zw (bt n ρ).2]])=true:=by simp[aH,zw]
 rw[Nj hfl];simp only[xj,yj,zf,Qd,Qc];rw[zF,zE];have hn1:ak cl (.lst (.pair (.var 3) .unit)) [some D,some (.int n),some (.int ρ),some (aH (bt n ρ).1),some (zw (bt n ρ).2),none,none]=.ok (.lst [aH (bt n ρ).1]):=by
  simp only[wl,zg,zj,zd,za,aI,zh];exact xx (show 1<=av by decide)
 rw[hn1];simp only[aV];rw[yD (by simp[aH])];simp only[zf,Qd,Qc];rw[zF,zE];simp only[zQ,aV];rw[zT (by simp)];simp only[zf,Qd,Qc];rw[yg,gk];have hlv:[aS D,aS (.int n),aS (.int ρ),aS (aH (bt n ρ).1),aS (zw (bt n ρ).2),Lv.full,Lv.full]=[aS D,.full,.full,.full,.full,.full,.full]:=by simp[aS,aH,zw]
 rw[hlv];have hL':=hL;rw[show(List.map aH [(bt n ρ).1])=[aH (bt n ρ).1]from rfl]at hL';rw[hL',zf];simp only[zD,gs,zd,za,aI,aV];simp[zz,hk,wz]
end
end Lib
namespace Lib
section
variable{lev:Nat->Lv}{cl:Nat->List Dat->Rd}{k:Nat}
def kH(kb:Nat):Ex:=iF 7 [85] [82] [68] [76] (.idx (.idx (.var 5) (.var 1)) (.var 2)) (.idx (.idx (.var 4) (.var 1)) (.bin .add (.var 2) (.lit (.int 1)))) (.idx (.idx (.var 5) (.bin .add (.var 1) (.lit (.int 1)))) (.var 2)) (.idx (.idx (.var 4) (.var 1)) (.var 2)) (.var 3) (.call kb (.pair (.blt .len (.pair (.var 4) .unit)) (.pair (.var 1) (.pair (.var 2) (.pair (.var 7) .unit)))))
def iN(kb:Nat):Fn:=⟨4,7,(.seq (.asg 4 (.idx (.var 0) (.lit (.int 0)))) (.seq (.asg 5 (.idx (.var 0) (.lit (.int 1)))) (.ret (kH kb))))⟩
def jy (q:List Nat)(a:Ex)(de:aO)(h:ak cl a de=.ok d):ak cl (c9 q a) de=.ok (.tup [.str q,d]):=by
 show(((Rd.ok (.str q)).bind λx=>((ak cl a de).bind λy=>(Rd.ok (.tup [])).bind λz=>Rd.ok (.tup (y::zY z))).bind λy=>Rd.ok (.tup (x::zY y))).bind λx=>_)=_;rw[h];rfl
def GW {r c:Nat}{U:Di->Int}{W:List (List Int)}(hW:W.length=n)(g1:zN (au V) (.int r)=.ok (row (V.getD r [])))(g2:zN (au W) (.int r)=.ok (row (W.getD r [])))(g3:zN (au V) (.int ((r:Int)+1))=.ok (row (V.getD (r+1) [])))(u:zN (row (V.getD r [])) (.int c)=.ok (.int (U .u)))(v:zN (row (W.getD r [])) (.int ((c:Int)+1))=.ok (.int (U .r)))(w:zN (row (V.getD (r+1) [])) (.int c)=.ok (.int (U .d)))(l:zN (row (W.getD r [])) (.int c)=.ok (.int (U .l)))(hb:∀e,cl kb [.int n,.int r,.int c,zw e]=.ok (zV n ((r:Int),(c:Int)) e)):
  ak cl (kH kb) [o0,some (.int r),some (.int c),some (.int mk),some (au W),some (au V),none]=.ok (.lst ((bh.filter λe=>decide (U e=mk)).map (zV n ((r:Int),(c:Int))))):=by
 unfold kH iF;rw[vm];have hlen:yO .len [au W]=.ok (.int n):=by simp[yO,xa,au,hW]
 rw[show ak cl (wF (c9 [85] (.idx (.idx (.var 5) (.var 1)) (.var 2))) (c9 [82] (.idx (.idx (.var 4) (.var 1)) (.bin .add (.var 2) (.lit (.int 1))))) (c9 [68] (.idx (.idx (.var 5) (.bin .add (.var 1) (.lit (.int 1)))) (.var 2))) (c9 [76] (.idx (.idx (.var 4) (.var 1)) (.var 2)))) [o0,some (.int r),some (.int c),some (.int mk),some (au W),some (au V),none]=.ok (.tup (bh.map λd=>.tup [zw d,.int (U d)]))from by
  unfold wF;rw[vk,zg,jy _ _ _ (d:=.int (U .u)) (by simp only[zW,zt,zd,za,ze,aI,g1,u]),zg,jy _ _ _ (d:=.int (U .r)) (by simp only[zW,zt,zd,za,ze,aI,zX,g2,v]),zg,jy _ _ _ (d:=.int (U .d)) (by simp only[zW,zt,zd,za,ze,aI,zX,g3,w]),zg,jy _ _ _ (d:=.int (U .l)) (by simp only[zW,zt,zd,za,ze,aI,g2,l])]
  rfl]
 simp only[ze,aI];rw[show xi .ptp (.tup (bh.map λd=>.tup [zw d,.int (U d)])) (.int 0)=some (bh.map λd=>(zw d,.int (U d)))from rfl];simp only[];rw[wI (λd=>(zw d,Dat.int (U d))) (λd=>decide (U d=mk)) (zV n ((r:Int),(c:Int))) bh [] (λd _=>?_) (λd _ _=>?_) (by simp[bh,av])]
 .rfl
 .simp only[Q0,QO,zI,zd,za,aI,yU]
 .simp only[Q0,QO,zq,yF,zg,zj,zd,za,aI,zh,hlen,hb]
def uk (h:ak cl e de=.ok d)(hv:yt (.asg i e) X=none):∃lv',aG lev cl (.seq (.asg i e) X) de lv=aG lev cl X (de.set i (some d)) lv':=by
 rw[zH lev cl de lv hv,zE,h];simp only[aV];unfold vN;split
 .simp only[zf];exact⟨_,rfl⟩
 .simp only[zf];exact⟨_,rfl⟩
def Aj(n:Nat)(p:Pl)(e:Di):ax (zV n p e)=true:=by
 unfold zV;split<;>rfl
def GV {r c:Nat}{U:Di->Int}{W:List (List Int)}(hW:W.length=n)(g1:zN (au V) (.int r)=.ok (row (V.getD r [])))(g2:zN (au W) (.int r)=.ok (row (W.getD r [])))(g3:zN (au V) (.int ((r:Int)+1))=.ok (row (V.getD (r+1) [])))(u:zN (row (V.getD r [])) (.int c)=.ok (.int (U .u)))(v:zN (row (W.getD r [])) (.int ((c:Int)+1))=.ok (.int (U .r)))(w:zN (row (V.getD (r+1) [])) (.int c)=.ok (.int (U .d)))(l:zN (row (W.getD r [])) (.int c)=.ok (.int (U .l)))(hb:∀e,cl kb [.int n,.int r,.int c,zw e]=.ok (zV n ((r:Int),(c:Int)) e))(hk:lev k=.full):
  zB lev cl k (iN kb) [.tup [au W,au V],.int r,.int c,.int mk]=.ok (.lst ((bh.filter λe=>decide (U e=mk)).map (zV n ((r:Int),(c:Int))))):=by
 unfold zB;rw[Nj (by rfl)];show zz (lev k) (aG lev cl (.seq (.asg 4 _) (.seq (.asg 5 _) (.ret (kH kb)))) [some (.tup [au W,au V]),some (.int r),some (.int c),some (.int mk),none,none,none] _)=_;generalize xk (iN kb) [.tup [au W,au V],.int r,.int c,.int mk]=lv0;obtain⟨lv1,e1⟩:=uk (lev:=lev) (cl:=cl) (i:=4) (e:=.idx (.var 0) (.lit (.int 0))) (d:=au W) (X:=.seq (.asg 5 (.idx (.var 0) (.lit (.int 1)))) (.ret (kH kb))) (de:=[some (.tup [au W,au V]),some (.int r),some (.int c),some (.int mk),none,none,none]) (lv:=lv0) rfl rfl;rw[e1];obtain⟨lv2,e2⟩:=uk (lev:=lev) (cl:=cl) (i:=5) (e:=.idx (.var 0) (.lit (.int 1))) (d:=au V) (X:=.ret (kH kb)) (de:=[some (.tup [au W,au V]),some (.int r),some (.int c),some (.int mk),some (au W),none,none]) (lv:=lv1) rfl rfl;simp only[Qd,Qc];rw[e2];simp only[Qd,Qc,zD];rw[GW (o0:=some (.tup [au W,au V])) hW g1 g2 g3 u v w l hb];simp only[aV];have hl:aU lev (kH kb) (.lst ((bh.filter λe=>decide (U e=mk)).map (zV n ((r:Int),(c:Int)))))=.full:=by
  unfold kH iF;rw[xI];simp[yC,Aj]
 have hl2:∀lv,cn lev (kH kb) (.lst ((bh.filter λe=>decide (U e=mk)).map (zV n ((r:Int),(c:Int))))) lv=.full:=λlv=>by
  unfold cn;rw[Nk (by simp)];exact hl
 rw[hl2];simp[zz,hk,wz]
end
end Lib
namespace Lib
set_option tactic.hygienic false
section
variable{lev:Nat->Lv}{cl:Nat->List Dat->Rd}{k:Nat}
def yV(p:Pl):List Int:=[p.1,p.2]
def cW(R:List (List Int))(b:Bool):Tr:=λp d=>!(dJ R p d==b)
def iy(R:List (List Int))(b:Bool)(p:Pl):Dat:=.lst ((bh.filter (cW R b p)).map zw)
def dW(r:Nat)(c:Nat):List Pl:=(QA c).map λ(j:Nat)=>((r:Int),(j:Int))
def bJ(n r c:Nat):List Pl:=(QA r).flatMap (λi=>dW i n)++dW r c
def cx(R:List (List Int))(b:Bool)(ps:List Pl):Dat:=.dct (ps.map yV) (ps.map (iy R b))
def xz(R:List (List Int))(r c:Nat):List Int:=(QA R.length).map λj=>S R (if j<c then r+1 else r) j
def gu (h:yV p=yV q):p=q:=by
 unfold yV at h;simp only[List.cons.injEq,and_true]at h;exact Prod.ext h.1 h.2
theorem qX {f:Pl->Dat}:∀{ps:List Pl},p∈ps->dE (ps.map yV) (ps.map f) (yV p)=some (f p)
 |[],h=>by simp at h
 |q::ps,h=>by
  show(if yV q=yV p then some (f q)else dE (ps.map yV) (ps.map f) (yV p))=_;by_cases e:yV q=yV p
  .rw[Nj e,gu e]
  .rw[Nk e];refine qX ?_;rcases Qo.mp h with rfl|h
   .exact Nl rfl e
   .exact h
def GU(r c:Nat):dW r (c+1)=dW r c++[((r:Int),(c:Int))]:=by
 unfold dW;rw[W4,Ww];rfl
def uL(n r c:Nat):bJ n r (c+1)=bJ n r c++[((r:Int),(c:Int))]:=by
 unfold bJ;rw[GU,Wm]
def uj(n r:Nat):bJ n r n=bJ n (r+1) 0:=by
 unfold bJ;rw[W4,List.flatMap_append];simp[dW]
def df:p∈dW r c↔p.1=r/\∃j:Nat,j<c/\p.2=j:=by
 unfold dW;simp only[Wi,Vc];constructor
 .rintro ⟨j,hj,rfl⟩;exact⟨rfl,j,hj,rfl⟩
 .rintro ⟨h1,j,hj,h2⟩;exact⟨j,hj,Prod.ext h1.symm h2.symm⟩
def uh:p∈bJ n r c↔(∃i:Nat,i<r/\p∈dW i n)\/p∈dW r c:=by
 unfold bJ;simp only[QL,List.mem_flatMap,Vc]
def jz:((r:Int),(c:Int))∉bJ n r c:=by
 rw[uh];rintro(⟨i,hi,h⟩|h)
 .have:=(df.mp h).1;simp only[]at this;lia
 .obtain ⟨_,j,hj,e⟩:=df.mp h;simp only[]at e;lia
def ug(n:Nat):∀r c,(bJ n r c).length=r*n+c:=by
 intro r c;have h1:∀i m,(dW i m).length=m:=λi m=>by simp[dW]
 unfold bJ;rw[QW,h1];congr 1
 induction r with
 |zero=>simp
 |succ r ih=>rw[W4,List.flatMap_append,QW,ih];simp[h1,Nat.succ_mul]
def qY (h:bq n p=true):p∈bJ n n 0:=by
 obtain⟨⟨a0,a1⟩,b0,b1⟩:=aL.mp h;rw[uh];refine .inl ⟨p.1.toNat,by lia,df.mpr ⟨by lia,p.2.toNat,by lia,by lia⟩⟩
def B9(R:List (List Int))(b:Bool):SD R.length (cW R b) (cx R b (bJ R.length R.length 0)):=λp hp=>by
 show(match (wU (aH p)).bind (dE _ _)with|some v=>Rd.ok v|none=>.no)=_;rw[show wU (aH p)=some (yV p)from rfl];simp only[W8];rw[qX (qY hp)];rfl
def si (h:p∉ps):wZ (ps.map yV) (yV p)=(ps++[p]).map yV:=by
 unfold wZ;rw[Nk,Ww];· rfl
 intro z;obtain⟨q,hq,e⟩:=Wi.mp z;rw[gu e]at hq;exact h hq
theorem mW {f:Pl->Dat}:∀{ps:List Pl},p∉ps->yB (ps.map yV) (ps.map f) (yV p) (f p)=(ps++[p]).map f
 |[],_=>rfl
 |q::ps,h=>by
  show(if yV q=yV p then f p::ps.map f else f q::yB (ps.map yV) (ps.map f) (yV p) (f p))=_;rw[Nk (λe=>h (by rw[gu e];simp)),mW (λz=>h (by simp[z]))];rfl
def GT (hc:c<R.length):(xz R r c)[c]?=some (S R r c):=by
 unfold xz;simp[hc]
def FE (hc:c<R.length):(xz R r c).set c (S R (r+1) c)=xz R r (c+1):=by
 unfold xz;refine Wg λj=>?_;by_cases hj:j<R.length
 .by_cases e:j=c
  .subst e;rw[QN (by simpa using hj)];simp[hj]
  .rw[Qw (Ne.symm e)];simp only[Qt,WN hj,QJ];by_cases q:j<c
   .rw[Nj q,Nj (by lia)]
   .rw[Nk q,Nk (by lia)]
 .rw[Qn (by simpa using hj),Qn (by simpa using hj)]
def FD(R:List (List Int))(r:Nat):xz R r R.length=xz R (r+1) 0:=by
 unfold xz;refine WM λj hj=>?_;rw[Nj (Vc.mp hj),Nk (by lia)]
def uf(P:Prop)[Decidable P]:b2i (decide P)=if P then 1 else 0:=by
 by_cases h:P
 .simp[h,b2i]
 .simp[h,b2i]
def oB:Ex:=(.lst (.pair (.tup (.pair (.lit (.str [85])) (.pair (.var 10) .unit))) (.pair (.tup (.pair (.lit (.str [82])) (.pair (.var 9) .unit))) (.pair (.tup (.pair (.lit (.str [68])) (.pair (.var 11) .unit))) (.pair (.tup (.pair (.lit (.str [76])) (.pair (.var 8) .unit))) .unit)))))
def ie:Ex:=(.compP .prs (.var 13) (.var 12) (.lit (.int 0)) (.cmp .ne (.var 14) (.var 1)))
def iS:Sm:=(.seq (.asg 7 (.bin .mod (.bin .add (.var 4) (.var 6)) (.lit (.int 2)))) (.seq (.asg 8 (.cmp .eq (.blt .int (.pair (.cmp .eq (.var 5) (.lit (.int 0))) .unit)) (.var 7))) (.seq (.asg 5 (.bin .add (.var 5) (.idx (.idx (.var 0) (.var 4)) (.var 6)))) (.seq (.asg 9 (.cmp .ne (.blt .int (.pair (.cmp .eq (.var 5) (.lit (.int 0))) .unit)) (.var 7))) (.seq (.asg 10 (.cmp .eq (.idx (.var 3) (.var 6)) (.var 7))) (.seq (.asgS (.var 3) (.var 6) (.bin .add (.idx (.var 3) (.var 6)) (.idx (.idx (.var 0) (.var 4)) (.var 6)))) (.seq (.asg 11 (.cmp .ne (.idx (.var 3) (.var 6)) (.var 7))) (.seq (.asg 12 oB) (.dput 2 (.tup (.pair (.var 4) (.pair (.var 6) .unit))) ie)))))))))
def nz:Fn:=⟨2,13,(.seq (.asg 2 .dict0) (.seq (.asg 3 (.comp (.lit (.int 0)) (.var 0) (.lit (.bl true)))) (.seq (.forv 4 (.rng (.lit (.int 0)) (.blt .len (.pair (.var 0) .unit)) (.lit (.int 1))) (.seq (.asg 5 (.lit (.int 0))) (.forv 6 (.rng (.lit (.int 0)) (.blt .len (.pair (.var 0) .unit)) (.lit (.int 1))) iS))) (.ret (.var 2)))))⟩
abbrev fi:List Lv:=[.no,.full,.full,.full,.full,.full,.full,.full,.full,.full,.full,.full,.full]
def vp (h:ak cl e de=.ok d)(hf:ax d=true)(hv:yt (.asg i e) X=none):aG lev cl (.seq (.asg i e) X) de lv=aG lev cl X (de.set i (some d)) (lv.set i .full):=by
 rw[zH lev cl de lv hv,zE,h];simp only[aV];rw[zT hf];rfl
def jj (h:ak cl e de=.ok d)(hf:aU lev e d=.full)(hv:yt (.asg i e) X=none):aG lev cl (.seq (.asg i e) X) de lv=aG lev cl X (de.set i (some d)) (lv.set i .full):=by
 rw[zH lev cl de lv hv,zE,h];simp only[aV];rw[yD hf];rfl
def EK (hR:Sq R)(hn:R.length<=12)(hr:r<R.length)(hc:c<R.length)(b:Bool)(o7 o8 o9 o10 o11 o12:Option Dat):
  ∃q7 q8 q9 q10 q11 q12,aG lev cl iS [some (au R),some (.bl b),some (cx R b (bJ R.length r c)),some (row (xz R r c)),some (.int r),some (.int (ck R r c)),some (.int c),o7,o8,o9,o10,o11,o12] fi =
   .next [some (au R),some (.bl b),some (cx R b (bJ R.length r (c+1))),some (row (xz R r (c+1))),some (.int r),some (.int (ck R r (c+1))),some (.int c),q7,q8,q9,q10,q11,q12] fi:=by
 have hm:zJ .mod (.int ((r:Int)+c)) (.int 2)=.ok (.int (((r:Int)+c)%2)):=xw _ _ (by decide);have g1:zN (au R) (.int r)=.ok (row (R.getD r [])):=uv (by rw[Qj,Qe hr];rfl);have g2:zN (row (R.getD r [])) (.int c)=.ok (.int ((R.getD r []).getD c 0)):=vH (jc (by rw[ut hR hr];exact hc));have g3:zN (row (xz R r c)) (.int c)=.ok (.int (S R r c)):=vH (GT hc);have e1:=ur hR hr hc;have e2:=um (c:=c) hr;have g4:zN (row ((xz R r c).set c (S R (r+1) c))) (.int c)=.ok (.int (S R (r+1) c)):=vH (QN (by simpa [xz]using hc));have hbi:∀x:Bool,yO .int [.bl x]=.ok (.int (b2i x)):=λ_=>rfl;refine⟨some (.int (((r:Int)+c)%2)),some (.bl (bS R r c .l)),some (.bl (bS R r c .r)),some (.bl (bS R r c .u)),some (.bl (bS R r c .d)),some (.lst (bh.map λd=>.tup [zw d,.bl (bS R r c d)])),?_⟩;unfold iS;rw[vp (d:=.int (((r:Int)+c)%2)) (by simp only[zt,zd,za,ze,aI,zX,hm]) (by simp) rfl];simp only[Qd,Qc];rw[vp (d:=.bl (bS R r c .l)) (by
  simp only[zI,yF,zg,zj,zd,za,ze,aI,zh,yU,hbi,uf]
  rfl) (by simp) rfl]
 simp only[Qd,Qc];rw[vp (d:=.int (ck R r (c+1))) (by simp only[zt,zW,zd,za,aI,g1,g2,zX,e1]) (by simp) rfl];simp only[Qd,Qc];rw[vp (d:=.bl (bS R r c .r)) (by
  simp only[zI,yF,zg,zj,zd,za,ze,aI,zh,yU,hbi,uf,sv]
  rfl) (by simp) rfl]
 simp only[Qd,Qc];rw[vp (d:=.bl (bS R r c .u)) (by
  simp only[zI,zW,zd,za,aI,g3,yU]
  rfl) (by simp) rfl]
 simp only[Qd,Qc];have hput:∀(o5 o8 o9 o10:Option Dat),aG lev cl (.asgS (.var 3) (.var 6) (.bin .add (.idx (.var 3) (.var 6)) (.idx (.idx (.var 0) (.var 4)) (.var 6)))) [some (au R),some (.bl b),some (cx R b (bJ R.length r c)),some (row (xz R r c)),some (.int r),o5,some (.int c),some (.int (((r:Int)+c)%2)),o8,o9,o10,o11,o12] fi
   = .next [some (au R),some (.bl b),some (cx R b (bJ R.length r c)),some (row ((xz R r c).set c (S R (r+1) c))),some (.int r),o5,some (.int c),some (.int (((r:Int)+c)%2)),o8,o9,o10,o11,o12] fi:=λo5 o8 o9 o10=>by
  show(ak cl (.bin .add (.idx (.var 3) (.var 6)) (.idx (.idx (.var 0) (.var 4)) (.var 6))) _).okS _=_;simp only[zt,zW,zd,za,aI,g1,g2,g3,zX,<-e2,eh];unfold mI;rw[show xK [some (au R),some (.bl b),some (cx R b (bJ R.length r c)),some (row (xz R r c)),some (.int r),o5,some (.int c),some (.int (((r:Int)+c)%2)),o8,o9,o10,o11,o12] 3=some ((xz R r c).map Dat.int)from rfl];simp only[];rw[nG (by simpa [xz]using hc)];simp only[];unfold xJ;rw[Nk (by simp[zU]),Nj (yC lev _ _ (by simp))];simp only[Qd,Qc];rw[show((xz R r c).map Dat.int).set c (.int (S R (r+1) c))=((xz R r c).set c (S R (r+1) c)).map Dat.int from by rw[List.map_set]];rfl
 rw[zH lev cl _ _ rfl,hput];simp only[zf];rw[FE hc]at *
 rw[vp (d:=.bl (bS R r c .d)) (by
  simp only[zI,zW,zd,za,aI,g4,sv]
  rfl) (by simp) rfl]
 simp only[Qd,Qc];rw[jj (d:=.lst (bh.map λd=>.tup [zw d,.bl (bS R r c d)])) (by
  unfold oB;simp only[sk,gs,ya,zd,za,aI]
  rfl) (by simp[oB,bh,zw]) rfl]
 simp only[Qd,Qc];have hp:dJ R ((r:Int),(c:Int))=bS R r c:=by funext d;simp[dJ]
 have hC:∀(o2 o3 o5 o7 o8 o9 o10 o11:Option Dat),ak cl ie [some (au R),some (.bl b),o2,o3,some (.int r),o5,some (.int c),o7,o8,o9,o10,o11,some (.lst (bh.map λd=>.tup [zw d,.bl (bS R r c d)]))]=.ok (iy R b ((r:Int),(c:Int))):=λo2 o3 o5 o7 o8 o9 o10 o11=>by
  unfold ie;rw[vm];simp only[zd,za,ze,aI];rw[show xi .prs (.lst (bh.map λd=>.tup [zw d,.bl (bS R r c d)])) (.int 0)=some (bh.map λd=>(zw d,.bl (bS R r c d)))from rfl];simp only[];rw[wI (λd=>(zw d,Dat.bl (bS R r c d))) (λd=>!(bS R r c d==b)) zw bh [] (λd _=>?_) (λd _ _=>?_) (by simp[bh,av])]
  .unfold iy cW;rw[hp];rfl
  rotate_left
  .rfl
  .simp only[Q0,QO,zI,zd,za,aI,DD]
 show(ak cl ie _).okS _=_;rw[hC];simp only[eh,gs,zd,za,aI];rw[show wU (.tup [.int (r:Int),.int (c:Int)])=some (yV ((r:Int),(c:Int)))from rfl];simp only[WB,WA];unfold cx;simp only[];have hfull:aU lev ie (iy R b ((r:Int),(c:Int)))=.full:=by
  unfold ie iy;rw[xI];simp[zw]
 have hlen:((bJ R.length r c).map yV).length<av:=by
  rw[Qm,ug];have:r*R.length<=12*12:=WV (by lia) hn;unfold av;lia
 rw[Nj ⟨trivial,hfull,hlen⟩];simp only[Qd,Qc];rw[si jz,mW jz,<-uL]
def Ic (hR:Sq R)(hn:R.length<=12)(b:Bool)(hk:lev k=.full):zB lev cl k nz [au R,.bl b]=.ok (cx R b (bJ R.length R.length 0)):=by
 have hlen:yO .len [au R]=.ok (.int R.length):=by simp[yO,xa,au]
 have hrg:kT (.int 0) (.int R.length) (.int 1)=.ok (.tup (ym 0 1 R.length)):=vJ (by lia);have hcol:ak cl (.comp (.lit (.int 0)) (.var 0) (.lit (.bl true))) [some (au R),some (.bl b),some (.dct [] []),none,none,none,none,none,none,none,none,none,none]=.ok (row (xz R 0 0)):=by
  rw[xB];simp only[zd,aI];rw[show cQ (au R)=some (R.map row)from wn (by simp;unfold av;lia)];simp only[];rw[yx row (λ_=>.int 0) R [] (λ_ _=>rfl) (λ_ _=>rfl) (by simp;unfold av;lia)];unfold xz row;rw[QO,Wf];congr 2;refine Wg λj=>?_;by_cases hj:j<R.length
  .simp[hj,S]
  .rw[Qn (by simpa using hj),Qn (by simpa using hj)]
 have main:=yw (body:=λx de lv=>aG lev cl (.seq (.asg 5 (.lit (.int 0))) (.forv 6 (.rng (.lit (.int 0)) (.blt .len (.pair (.var 0) .unit)) (.lit (.int 1))) iS)) (de.set 4 (some x)) (lv.set 4 (aS x)))
  (λr de lv=>lv=fi/\∃o4 o5 o6 o7 o8 o9 o10 o11 o12,de=[some (au R),some (.bl b),some (cx R b (bJ R.length r 0)),some (row (xz R r 0)),o4,o5,o6,o7,o8,o9,o10,o11,o12])
  (ym 0 1 R.length) (de:=[some (au R),some (.bl b),some (cx R b (bJ R.length 0 0)),some (row (xz R 0 0)),none,none,none,none,none,none,none,none,none]) (lv:=fi) ⟨rfl,none,none,none,none,none,none,none,none,none,rfl⟩ (by
   rintro r x de lv hx ⟨rfl,o4,o5,o6,o7,o8,o9,o10,o11,o12,rfl⟩;have hr:r<R.length:=by
    have:=(Qa.mp hx).1;simpa using this
   rw[xL _ _ _ _ hr]at hx;cases hx;rw[show(0:Int)+1*(r:Int)=(r:Int) by lia];simp only[Qd,Qc];rw[vp (d:=.int 0) rfl (by simp) rfl];simp only[Qd,Qc];rw[wp];simp only[wA,ze,yF,zg,zj,zd,aI,zh,hlen,hrg,aV,xS,wm,xy,if_true];have inner:=yw (body:=λx de lv=>aG lev cl iS (de.set 6 (some x)) (lv.set 6 (aS x)))
    (λc de lv=>lv=fi/\∃o6 o7 o8 o9 o10 o11 o12,de=[some (au R),some (.bl b),some (cx R b (bJ R.length r c)),some (row (xz R r c)),some (.int r),some (.int (ck R r c)),o6,o7,o8,o9,o10,o11,o12])
    (ym 0 1 R.length) (de:=[some (au R),some (.bl b),some (cx R b (bJ R.length r 0)),some (row (xz R r 0)),some (.int r),some (.int 0),o6,o7,o8,o9,o10,o11,o12]) (lv:=fi) ⟨rfl,o6,o7,o8,o9,o10,o11,o12,by rw[show ck R r 0=0 from by simp[ck]]⟩ (by
     rintro c x de lv hx ⟨rfl,o6,o7,o8,o9,o10,o11,o12,rfl⟩;have hc:c<R.length:=by
      have:=(Qa.mp hx).1;simpa using this
     rw[xL _ _ _ _ hc]at hx;cases hx;rw[show(0:Int)+1*(c:Int)=(c:Int) by lia];simp only[Qd,Qc];obtain⟨q7,q8,q9,q10,q11,q12,e⟩:=EK (lev:=lev) (cl:=cl) hR hn hr hc b o7 o8 o9 o10 o11 o12;exact⟨_,_,e,rfl,_,_,_,_,_,_,_,rfl⟩)
   obtain⟨de',lv',e,rfl,q6,q7,q8,q9,q10,q11,q12,rfl⟩:=inner;refine⟨_,_,e,rfl,some (.int r),some (.int (ck R r (ym 0 1 R.length).length)),q6,q7,q8,q9,q10,q11,q12,?_⟩;rw[show(ym 0 1 R.length).length=R.length from by simp,uj,FD])
 obtain⟨de',lv',e,rfl,o4,o5,o6,o7,o8,o9,o10,o11,o12,rfl⟩:=main;rw[show(ym 0 1 R.length).length=R.length from by simp]at e;unfold zB;rw[Nj (by rfl)];show zz (lev k) (aG lev cl (.seq (.asg 2 .dict0) (.seq (.asg 3 _) (.seq (.forv 4 _ _) (.ret _)))) [some (au R),some (.bl b),none,none,none,none,none,none,none,none,none,none,none] [aS (au R),aS (.bl b),.full,.full,.full,.full,.full,.full,.full,.full,.full,.full,.full])=_;rw[jj (d:=.dct [] []) rfl (by simp) rfl];simp only[Qd,Qc];rw[jj (d:=row (xz R 0 0)) hcol (by simp[row]) rfl];simp only[Qd,Qc];rw[yg,wp];simp only[wA,ze,yF,zg,zj,zd,aI,zh,hlen,hrg,aV,xS,wm,xy,if_true];rw[show aS (au R)=.no from by simp[aS,au],show aS (.bl b)=.full from by simp[aS]];have e':=e;rw[show cx R b (bJ R.length 0 0)=.dct [] []from rfl]at e';rw[e',zf];simp only[zD,zd,za,aV];simp[zz,cn,hk,wz,cx]
end
end Lib
namespace Lib
section
variable{lev:Nat->Lv}{cl:Nat->List Dat->Rd}{k:Nat}
def eR(ke:Nat):Sm:=.dput 3 (.tup (.pair (.var 4) (.pair (.var 5) .unit))) (.call ke (.pair (.var 2) (.pair (.var 4) (.pair (.var 5) (.pair (.var 1) .unit)))))
def nw(ks ke:Nat):Fn:=⟨2,6,(.seq (.asg 2 (.call ks (.pair (.var 0) .unit))) (.seq (.asg 3 .dict0) (.seq (.forv 4 (.rng (.lit (.int 0)) (.blt .len (.pair (.var 0) .unit)) (.lit (.int 1))) (.forv 5 (.rng (.lit (.int 0)) (.blt .len (.pair (.var 0) .unit)) (.lit (.int 1))) (eR ke))) (.ret (.var 3)))))⟩
def dS(val:Pl->Dat)(ps:List Pl):Dat:=.dct (ps.map yV) (ps.map val)
def EJ {c:Nat}(hr:r<n)(hc:c<n)(hn:n<=12)(hE:cl ke [P,.int r,.int c,.int mk]=.ok (val ((r:Int),(c:Int))))(hlv:lev ke=.full)(o0:Option Dat)(l0 l1 l2:Lv):
  aG lev cl (eR ke) [o0,some (.int mk),some P,some (dS val (bJ n r c)),some (.int r),some (.int c)] [l0,l1,l2,.full,.full,.full]=.next [o0,some (.int mk),some P,some (dS val (bJ n r (c+1))),some (.int r),some (.int c)] [l0,l1,l2,.full,.full,.full]:=by
 unfold eR;have hC:ak cl (.call ke (.pair (.var 2) (.pair (.var 4) (.pair (.var 5) (.pair (.var 1) .unit))))) [o0,some (.int mk),some P,some (dS val (bJ n r c)),some (.int r),some (.int c)]=.ok (val ((r:Int),(c:Int))):=by
  simp only[zq,zg,zj,zd,za,aI,zh,hE]
 show(ak cl (.call ke _) _).okS _=_;rw[hC];simp only[eh,gs,zd,za,aI];rw[show wU (.tup [.int (r:Int),.int (c:Int)])=some (yV ((r:Int),(c:Int)))from rfl];simp only[WB,WA];unfold dS;simp only[];have hfull:aU lev (.call ke (.pair (.var 2) (.pair (.var 4) (.pair (.var 5) (.pair (.var 1) .unit))))) (val ((r:Int),(c:Int)))=.full:=by
  rw[kC,hlv];split<;>rfl
 have hlen:((bJ n r c).map yV).length<av:=by
  rw[Qm,ug];have:r*n<=12*12:=WV (by lia) hn;unfold av;lia
 rw[Nj ⟨trivial,hfull,hlen⟩];simp only[Qd,Qc];rw[si jz,mW jz,<-uL]
def Ib (hn:R.length<=12)(hs:cl ks [au R]=.ok P)(hE:∀r c,r<R.length->c<R.length->cl ke [P,.int (r:Nat),.int (c:Nat),.int mk]=.ok (val ((r:Int),(c:Int))))(hlv:lev ke=.full)(hk:lev k=.full):
  zB lev cl k (nw ks ke) [au R,.int mk]=.ok (dS val (bJ R.length R.length 0)):=by
 have hlen:yO .len [au R]=.ok (.int R.length):=by simp[yO,xa,au]
 have hrg:kT (.int 0) (.int R.length) (.int 1)=.ok (.tup (ym 0 1 R.length)):=vJ (by lia);have main:∀l0 l1 l2,∃o4 o5,aG lev cl (.forv 4 (.rng (.lit (.int 0)) (.blt .len (.pair (.var 0) .unit)) (.lit (.int 1))) (.forv 5 (.rng (.lit (.int 0)) (.blt .len (.pair (.var 0) .unit)) (.lit (.int 1))) (eR ke))) [some (au R),some (.int mk),some P,some (.dct [] []),none,none] [l0,l1,l2,.full,.full,.full]=.next [some (au R),some (.int mk),some P,some (dS val (bJ R.length R.length 0)),o4,o5] [l0,l1,l2,.full,.full,.full]:=λl0 l1 l2=>by
  obtain⟨de',lv',e,rfl,o4,o5,rfl⟩:=yw (body:=λx de lv=>aG lev cl (.forv 5 (.rng (.lit (.int 0)) (.blt .len (.pair (.var 0) .unit)) (.lit (.int 1))) (eR ke)) (de.set 4 (some x)) (lv.set 4 (aS x)))
   (λr de lv=>lv=[l0,l1,l2,.full,.full,.full]/\∃o4 o5,de=[some (au R),some (.int mk),some P,some (dS val (bJ R.length r 0)),o4,o5])
   (ym 0 1 R.length) (de:=[some (au R),some (.int mk),some P,some (dS val (bJ R.length 0 0)),none,none]) (lv:=[l0,l1,l2,.full,.full,.full]) ⟨rfl,none,none,rfl⟩ (by
    rintro r x de lv hx ⟨rfl,o4,o5,rfl⟩;have hr:r<R.length:=by
     have:=(Qa.mp hx).1;simpa using this
    rw[xL _ _ _ _ hr]at hx;cases hx;rw[show(0:Int)+1*(r:Int)=(r:Int) by lia];simp only[Qd,Qc];rw[show aS (.int (r:Int))=.full from by simp[aS],wp];simp only[wA,ze,yF,zg,zj,zd,aI,zh,hlen,hrg,aV,xS,wm,xy,if_true];obtain⟨de',lv',e,rfl,q5,rfl⟩:=yw (body:=λx de lv=>aG lev cl (eR ke) (de.set 5 (some x)) (lv.set 5 (aS x)))
     (λc de lv=>lv=[l0,l1,l2,.full,.full,.full]/\∃o5,de=[some (au R),some (.int mk),some P,some (dS val (bJ R.length r c)),some (.int r),o5])
     (ym 0 1 R.length) (de:=[some (au R),some (.int mk),some P,some (dS val (bJ R.length r 0)),some (.int r),o5]) (lv:=[l0,l1,l2,.full,.full,.full]) ⟨rfl,o5,rfl⟩ (by
      rintro c x de lv hx ⟨rfl,o5,rfl⟩;have hc:c<R.length:=by
       have:=(Qa.mp hx).1;simpa using this
      rw[xL _ _ _ _ hc]at hx;cases hx;rw[show(0:Int)+1*(c:Int)=(c:Int) by lia];simp only[Qd,Qc];rw[show aS (.int (c:Int))=.full from by simp[aS]];exact⟨_,_,EJ hr hc hn (hE r c hr hc) hlv _ l0 l1 l2,rfl,_,rfl⟩)
    refine⟨_,_,e,rfl,some (.int r),q5,?_⟩;rw[show(ym 0 1 R.length).length=R.length from by simp,uj])
  rw[show(ym 0 1 R.length).length=R.length from by simp]at e;refine⟨o4,o5,?_⟩;rw[wp];simp only[wA,ze,yF,zg,zj,zd,aI,zh,hlen,hrg,aV,xS,wm,xy,if_true];exact e
 unfold zB;rw[Nj (by rfl)];show zz (lev k) (aG lev cl (.seq (.asg 2 _) (.seq (.asg 3 .dict0) (.seq (.forv 4 _ (.forv 5 _ (eR ke))) (.ret _)))) [some (au R),some (.int mk),none,none,none,none] [aS (au R),aS (.int mk),.full,.full,.full,.full])=_;have h2:∃l0 l1 l2,aG lev cl (.seq (.asg 2 (.call ks (.pair (.var 0) .unit))) (.seq (.asg 3 .dict0) (.seq (.forv 4 (.rng (.lit (.int 0)) (.blt .len (.pair (.var 0) .unit)) (.lit (.int 1))) (.forv 5 (.rng (.lit (.int 0)) (.blt .len (.pair (.var 0) .unit)) (.lit (.int 1))) (eR ke))) (.ret (.var 3))))) [some (au R),some (.int mk),none,none,none,none] [aS (au R),aS (.int mk),.full,.full,.full,.full]
   = aG lev cl (.seq (.asg 3 .dict0) (.seq (.forv 4 (.rng (.lit (.int 0)) (.blt .len (.pair (.var 0) .unit)) (.lit (.int 1))) (.forv 5 (.rng (.lit (.int 0)) (.blt .len (.pair (.var 0) .unit)) (.lit (.int 1))) (eR ke))) (.ret (.var 3)))) [some (au R),some (.int mk),some P,none,none,none] [l0,l1,l2,.full,.full,.full]:=by
  rw[zF,zE];simp only[zq,zg,zj,zd,aI,zh,hs,aV];unfold vN;split
  .simp only[zf,Qd,Qc];exact⟨_,_,_,rfl⟩
  .simp only[zf,Qd,Qc,yJ,zu,QZ,aR];exact⟨_,_,_,rfl⟩
 obtain⟨l0,l1,l2,h2⟩:=h2;refine(Nm (zz (lev k)) h2).trans ?_;rw[jj (d:=.dct [] []) rfl (by simp) rfl];simp only[Qd,Qc];obtain⟨o4,o5,e⟩:=main l0 l1 l2;rw[yg,e,zf];simp only[zD,zd,za,aV];simp[zz,cn,hk,wz,dS]
end
end Lib
namespace Lib
section
structure AR(n:Nat)(F G:Nat->Nat->Int):Prop where
 f:∀i j,i<n->j<=n->F i j=1\/F i j=-1
 g:∀i j,i<=n->j<n->G i j=1\/G i j=-1
 place:∀r c,r<n->c<n->F r c-F r (c+1)+G r c-G (r+1) c=0
 left:∀r,r<n->F r 0=1
 right:∀r,r<n->F r n=-1
 top:∀c,c<n->G 0 c=-1
 low:∀c,c<n->G n c=1
def pm:Dat:=.tup [.int 1,.int (-1)]
end
end Lib
namespace Lib
end Lib
namespace Lib
section
variable{lev:Nat->Lv}{cl:Nat->List Dat->Rd}{k:Nat}
def ar(W:Nat->Nat->Int)(i j:Nat):Int:=if(decide (W i j=1)==decide (((i:Int)+j)%2=1))=true then 1 else -1
def wd:Dat:=.tup [.int 1,.int 0]
def lf:Fn:=⟨1,1,(.ret (.cmp .eq (.bin .mod (.var 0) (.lit (.int 2))) (.lit (.int 1))))⟩
def Fm(n:Int):zB lev cl k lf [.int n]=.ok (.bl (decide (n%2=1))):=by
 have h:=xw n 2 (by decide);simp[zB,lf,xQ,xk,zz,cn,h]
def FC (lev:Nat->Lv)(h:∀i:Int,aU lev e (.int i)=.full):aU lev (.compP kd e a b c) (row x)=.full:=by
 unfold row
 first|rw[vB]|rw[xI]
 simp only[wH,Qy,if_false];rw[Nj (kG _ _ h)]
def fM(kr:Nat):Ex:=(.compP .enum (.call kr (.pair (.var 1) (.pair (.var 2) .unit))) (.var 0) (.lit (.int 0)) (.lit (.bl true)))
def nv(kr:Nat):Fn:=⟨1,1,(.ret (fM kr))⟩
end
end Lib
namespace Lib
section
variable{lev:Nat->Lv}{cl:Nat->List Dat->Rd}{k:Nat}
def dA(x:List Int):List Int:=(QA (x.length+1)).map λc=>1-2*(x.take c).sum
def Fl (h:c<=x.length):(dA x)[c]?=some (1-2*(x.take c).sum):=by
 simp only[dA,Qt];rw[WN (by lia)];rfl
def pz:Sm:=(.seq (.aug 1 .add (.var 3)) (.expr (.meth .append (.var 2) (.pair (.bin .sub (.lit (.int 1)) (.bin .mul (.lit (.int 2)) (.var 1))) .unit))))
def mm:Fn:=⟨1,4,(.seq (.asg 1 (.lit (.int 0))) (.seq (.asg 2 (.lst (.pair (.lit (.int 1)) .unit))) (.seq (.forv 3 (.var 0) pz) (.ret (.var 2)))))⟩
def Fk(x:List Int)(hx:x.length<=100)(hk:lev k=.full):zB lev cl k mm [row x]=.ok (row (dA x)):=by
 have main:=yw (body:=λd de lv=>aG lev cl pz (de.set 3 (some d)) (lv.set 3 (aS d)))
  (λt de lv=>∃(p3:Option Dat) (l3:Lv),de=[some (row x),some (.int (x.take t).sum),some (row ((dA x).take (t+1))),p3]/\lv=[.no,.full,.full,l3])
  (x.map Dat.int) (de:=[some (row x),some (.int 0),some (row [1]),none]) (lv:=[.no,.full,.full,.full])
  ⟨none,.full,by simp[dA,Wr],rfl⟩ ?_
 .obtain ⟨de',lv',e,p3,l3,rfl,rfl⟩:=main;unfold zB;rw[Nj (by rfl)];show zz (lev k) (aG lev cl (.seq _ (.seq _ (.seq _ _))) [some (row x),none,none,none] [aS (row x),.full,.full,.full])=_;rw[show aS (row x)=.no from by simp[aS,row],zF];simp only[zE,ze,aV];rw[zT (by simp)];simp only[zf,Qd,Qc];rw[zF];simp only[zE,wl,zg,zj,ze,aI,zh];rw[xx (by simp;unfold av;lia)];simp only[aV];rw[yD (by simp)];simp only[zf,Qd,Qc];rw[yg,wp];have hit:cQ (row x)=some (x.map Dat.int):=wn (by simp;unfold av;lia);have hfl:ax (row x)=false:=by simp[row]
  simp only[zd,za,aV,hit,hfl];have hrel:(if false=true then[Lv.no,Lv.full,Lv.full,Lv.full]else yJ (.var 0) [some (row x),some (.int 0),some (.lst [.int 1]),none] [Lv.no,Lv.full,Lv.full,Lv.full])=[.no,.full,.full,.full]:=rfl;rw[hrel,show(some (.lst [.int 1]):Option Dat)=some (row [1])from rfl,e,zf];rw[Qm,WD (l:=dA x) (by simp[dA])];simp only[zD,zd,za,aV,cn,zz,show ax (row (dA x))=false from by simp[row],Qy,if_false,hk];rfl
 .rintro t d de lv hd ⟨p3,l3,rfl,rfl⟩;have ht:t<x.length:=by
   have:=(Qa.mp hd).1;simpa using this
  have hxt:x[t]?=some x[t]:=Qe ht;rw[Qt,hxt]at hd;cases hd;have hlen:((dA x).take (t+1)).length=t+1:=by simp[dA];lia
  have e2:(dA x).take (t+1+1)=(dA x).take (t+1)++[1-2*(x.take (t+1)).sum]:=by
   rw[Wl,Fl (by lia),Option.toList_some]
  refine⟨_,_,?_,some (.int x[t]),aS (.int x[t]),rfl,rfl⟩;unfold pz;simp only[Qd,Qc];rw[qS];simp only[DC,WB,WA,za,zd,eh,zX,zf,Qd,Qc];rw[<-GA hxt];rw[EX (v:=1-2*(x.take (t+1)).sum) (by rw[hlen];unfold av;lia) _ _ 2 (by simp only[zt,ze,zd,za,aI,yz 2 _ (show xq 2=true by decide),yG]) rfl rfl,e2];rfl
def eG(x:List Int):List Int:=x.map λv=>2*v-1
def il:Ex:=(.comp (.bin .sub (.bin .mul (.lit (.int 2)) (.var 1)) (.lit (.int 1))) (.var 0) (.lit (.bl true)))
def ml:Fn:=⟨1,1,(.ret il)⟩
def Fj(x:List Int)(hx:x.length<=100)(hk:lev k=.full):zB lev cl k ml [row x]=.ok (row (eG x)):=by
 have hl:(x.map Dat.int).length<=av:=by simp;unfold av;lia
 have hev:ak cl il [some (row x)]=.ok (row (eG x)):=by
  unfold il;rw[xB];simp only[zd,aI,row,wn hl];rw[yx Dat.int (λv=>.int (2*v-1)) x [] (λv _=>by simp) (λv _=>by simp only[Q0,QO,zt,ze,zd,za,aI,yz 2 _ (show xq 2=true by decide),yG]) (by simpa using hl)];simp only[eG,Wf,QO];rfl
 have hlv:aU lev il (row (eG x))=.full:=EW lev λi=>yC lev _ _ rfl;have hR:∀lv,cn lev il (row (eG x)) lv=.full:=λlv=>by
  unfold cn;rw[Nk (by simp[row])];exact hlv
 unfold zB;rw[Nj (by rfl)];show zz (lev k) (aG lev cl (.ret il) [some (row x)] _)=_;rw[zD,hev];simp only[aV,zz,hR,hk];simp[wz]
def vK(kc:Nat)(it:Ex):Ex:=(.comp (.call kc (.pair (.var 3) .unit)) it (.lit (.bl true)))
def gv (hde:de.length=3)(hi:ak cl it de=.ok (au A))(hA:A.length<=100)(hf:∀x∈A,cl kc [row x]=.ok (row (f x))):ak cl (vK kc it) de=.ok (au (A.map f)):=by
 unfold vK;rw[xB,hi];simp only[aI,au,wn (show(A.map row).length<=av from by simp;unfold av;lia)];rw[yx row (λx=>row (f x)) A [] (λ_ _=>by simp) (λx hx=>?_) (by simp;unfold av;lia)]
 .simp
 .have h3:(de++[some (row x)])[3]?=some (some (row x)):=by rw[Qi (by lia),hde];rfl
  have hv:ak cl (.var 3) (de++[some (row x)])=.ok (row x):=xF h3;simp only[zq,zg,zj,hv,aI,zh,hf x hx]
def gw (h:lev kc=.full):aU lev (vK kc it) (au A)=.full:=by
 unfold vK au
 first|rw[vB]|rw[xI]
 simp only[wH,Qy,if_false];rw[Nj (by
  rw[WP,Q6];intro x _;simp[h])]
def B8 (h:Sq R):R.map dA=yA R.length (R.length+1) (dR R):=by
 refine Wg λi=>?_;by_cases hi:i<R.length
 .simp only[Qt,Qe hi,QJ,yA,WN hi];have:∀c,1-2*(R[i].take c).sum=dR R i c:=λc=>by simp[dR,hi]
  simp only[dA,h _ (WH hi),this];rfl
 .simp[yA,hi]
def B7(R:List (List Int)):(kF R).map eG=yA (R.length+1) R.length (eF R):=by
 unfold kF yA;rw[Wf];refine WM λi _=>?_;simp only[Function.comp_apply,eG,yf,xO,Wf];rfl
def mi(k0 k1 k2:Nat):Fn:=⟨1,3,(.seq (.asg 1 (vK k1 (.var 0))) (.seq (.asg 2 (vK k2 (.call k0 (.pair (.var 0) .unit)))) (.ret (.tup (.pair (.var 1) (.pair (.var 2) .unit))))))⟩
def Fi (h:Sq R)(hn:R.length<=12)(h0:cl k0 [au R]=.ok (au (kF R)))(h1:∀x:List Int,x.length<=100->cl k1 [row x]=.ok (row (dA x)))(h2:∀x:List Int,x.length<=100->cl k2 [row x]=.ok (row (eG x)))(l1:lev k1=.full)(l2:lev k2=.full)(hk:lev k=.full):
  zB lev cl k (mi k0 k1 k2) [au R]=.ok (arr R.length (dR R) (eF R)):=by
 have e1:=gv (cl:=cl) (kc:=k1) (it:=.var 0) (de:=[some (au R),none,none]) (A:=R) (f:=dA) rfl (by simp) (by lia) (λx hx=>h1 x (by rw[h x hx];lia));rw[B8 h]at e1;have e2:=gv (cl:=cl) (kc:=k2) (it:=.call k0 (.pair (.var 0) .unit)) (de:=[some (au R),some (au (yA R.length (R.length+1) (dR R))),none]) (A:=kF R) (f:=eG) rfl (by simp only[zq,zg,zj,zd,aI,zh,h0]) (by simp[kF];lia) (λx hx=>h2 x (by
  obtain⟨i,_,rfl⟩:=Wi.mp hx;simp[yf];lia))
 rw[B7]at e2;unfold zB;rw[Nj (by rfl)];show zz (lev k) (aG lev cl (.seq _ (.seq _ _)) [some (au R),none,none] [aS (au R),.full,.full])=_;rw[zF,zE,e1];simp only[aV];rw[yD (gw l1)];simp only[zf,Qd,Qc];rw[yg,zE,e2];simp only[aV];rw[yD (gw l2)];simp only[zf,Qd,Qc];simp[zz,cn,hk,arr,wz,au,show 2<=av from by decide]
end
end Lib
namespace Lib
section
variable{lev:Nat->Lv}{cl:Nat->List Dat->Rd}{k:Nat}
def wk(F:Nat->Nat->Int)(i j:Nat):Int:=if(decide (F i j=1)==decide (((i:Int)+j)%2=1))=true then 1 else 0
def fZ(ko:Nat):Ex:=(.compP .enum (.ife (.cmp .eq (.cmp .eq (.var 3) (.lit (.int 1))) (.call ko (.pair (.bin .add (.var 0) (.var 2)) .unit))) (.lit (.int 1)) (.lit (.int 0))) (.var 1) (.lit (.int 0)) (.lit (.bl true)))
def mR(ko:Nat):Fn:=⟨2,2,(.ret (fZ ko))⟩
def FA (ho:∀n:Int,cl ko [.int n]=.ok (.bl (decide (n%2=1))))(hq:q<=100)(W:Nat->Nat->Int)(i:Nat)(hk:lev k=.full):zB lev cl k (mR ko) [.int i,row (xO q W i)]=.ok (row (xO q (wk W) i)):=by
 have hev:ak cl (fZ ko) [some (.int i),some (row (xO q W i))]=.ok (row (xO q (wk W) i)):=by
  unfold fZ;rw[vm];simp only[zd,za,ze,aI,GB 0 (xO q W i) (by rw[Al];unfold av;lia),Al];rw[yx (λ(j:Nat)=>(Dat.int (0+(j:Int)),Dat.int ((xO q W i).getD j 0))) (λ(j:Nat)=>.int (wk W i j)) _ [] (λj _=>by simp) (λj hj=>?_) (by simp;unfold av;lia)]
  .simp only[QO,row,xO,Wf];rfl
  .have hj':j<q:=by simpa using hj
   rw[show(xO q W i).getD j 0=W i j from vI (by simp[xO,hj']),Int.zero_add];simp only[Q0,QO,jb,zI,zq,zg,zj,zt,ze,zd,za,aI,zh,zX,ho,yU,DE];unfold wk;cases(decide (W i j=1)==decide (((i:Int)+j)%2=1))<;>rfl
 have hlv:aU lev (fZ ko) (row (xO q (wk W) i))=.full:=FC lev λi=>yC lev _ _ rfl;have hR:∀lv,cn lev (fZ ko) (row (xO q (wk W) i)) lv=.full:=λlv=>by
  unfold cn;rw[Nk (by simp[row])];exact hlv
 unfold zB;rw[Nj (by rfl)];show zz (lev k) (aG lev cl (.ret (fZ ko)) [some (.int i),some (row (xO q W i))] _)=_;rw[zD,hev];simp only[aV,zz,hR,hk];simp[wz]
def Ia (hp:p<=100)(W:Nat->Nat->Int)(hr:∀i:Nat,cl kr [.int i,row (xO q W i)]=.ok (row (xO q (wk W) i)))(hkr:lev kr=.full)(hk:lev k=.full):zB lev cl k (nv kr) [au (yA p q W)]=.ok (au (yA p q (wk W))):=by
 have hev:ak cl (fM kr) [some (au (yA p q W))]=.ok (au (yA p q (wk W))):=by
  unfold fM;rw[vm];simp only[zd,ze,aI];rw[Gz 0 (yA p q W) (by rw[gm];unfold av;lia),gm];simp only;rw[yx (λ(i:Nat)=>(Dat.int (0+(i:Int)),row ((yA p q W).getD i []))) (λ(i:Nat)=>row (xO q (wk W) i)) _ [] (λi _=>by simp) (λi hi=>?_) (by simp;unfold av;lia)]
  .simp only[QO,au,yA,Wf];rfl
  .have hi':i<p:=by simpa using hi
   rw[show(yA p q W).getD i []=xO q W i from by simp[yA,hi'],Int.zero_add];simp only[Q0,QO,zq,zg,zj,za,zd,aI,zh,hr]
 have hlv:aU lev (fM kr) (au (yA p q (wk W)))=.full:=by
  have:((yA p q (wk W)).map row).all (λx=>aU lev (.call kr (.pair (.var 1) (.pair (.var 2) .unit))) x == .full)=true:=by
   rw[WP,Q6];intro x _;simp[row,hkr]
  unfold fM au
  first|rw[vB]|rw[xI]
  simp only[wH,Qy,if_false];rw[Nj this]
 have hR:∀lv,cn lev (fM kr) (au (yA p q (wk W))) lv=.full:=λlv=>by
  unfold cn;rw[Nk (by simp[au])];exact hlv
 unfold zB;rw[Nj (by rfl)];show zz (lev k) (aG lev cl (.ret (fM kr)) [some (au (yA p q W))] _)=_;rw[zD,hev];simp only[aV,zz,hR,hk];simp[wz]
def mh(ka kg:Nat):Fn:=⟨1,2,(.seq (.asg 1 (.call ka (.pair (.var 0) .unit))) (.ret (.tup (.pair (.call kg (.pair (.idx (.var 1) (.lit (.int 0))) .unit)) (.pair (.call kg (.pair (.idx (.var 1) (.lit (.int 1))) .unit)) .unit)))))⟩
def Fh (ha:cl ka [au R]=.ok (arr n F G))(h1:cl kg [au (yA n (n+1) F)]=.ok (au (yA n (n+1) (wk F))))(h2:cl kg [au (yA (n+1) n G)]=.ok (au (yA (n+1) n (wk G))))(hkg:lev kg=.full)(hka:lev ka=.full)(hk:lev k=.full):
  zB lev cl k (mh ka kg) [au R]=.ok (arr n (wk F) (wk G)):=by
 have i0:zN (arr n F G) (.int 0)=.ok (au (yA n (n+1) F)):=rfl;have i1:zN (arr n F G) (.int 1)=.ok (au (yA (n+1) n G)):=rfl;unfold zB;rw[Nj (by rfl)];show zz (lev k) (aG lev cl (.seq _ (.ret _)) [some (au R),none] _)=_;rw[yg];simp only[zE,zq,zg,zj,zd,aI,zh,ha,aV];rw[yD (by simp[hka])];simp only[zf,Qd,Qc,zD,vk,zq,zg,zj,zW,ze,zd,za,aI,zh,i0,i1,h1,h2];simp[zz,cn,hkg,hk,arr,wz,au,show 2<=av from by decide]
end
end Lib
namespace Lib
section
def eQ(b:Bool):Int:=if b=true then 1 else 0
def qZ [Decidable p](h:F i j=1↔p):wk F i j=eQ (decide p==decide (((i:Int)+j)%2=1)):=by
 unfold wk eQ;rw[show decide (F i j=1)=decide p from decide_eq_decide.mpr h]
def BX (H:bL R)(hr:r<R.length)(hc:c<R.length)(hF:∀i j,i<R.length->j<=R.length->F i j=1-2*ck R i j)(hG:∀i j,i<=R.length->j<R.length->G i j=2*S R i j-1):
  wk G r c=eQ (bS R r c .u)/\wk F r (c+1)=eQ (bS R r c .r)/\wk G (r+1) c=eQ (bS R r c .d)/\wk F r c=eQ (bS R r c .l):=by
 have q:((r:Int)+c)%2=0\/((r:Int)+c)%2=1:=by lia
 have q1:((r:Int)+((c+1:Nat):Int))%2=1-((r:Int)+c)%2:=by lia
 have q2:(((r+1:Nat):Int)+(c:Int))%2=1-((r:Int)+c)%2:=by lia
 have s1:=H.col r c (by lia) hc;have s2:=H.col (r+1) c (by lia) hc;have t1:ck R r c=0\/ck R r c=1:=H.row r c hr (by lia);have t2:ck R r (c+1)=0\/ck R r (c+1)=1:=H.row r (c+1) hr (by lia);have f1:=hF r c hr (by lia);have f2:=hF r (c+1) hr (by lia);have g1:=hG r c (by lia) hc;have g2:=hG (r+1) c (by lia) hc;refine⟨?_,?_,?_,?_⟩
 .rw[qZ (p:=S R r c=1) (by lia)];unfold bS;rcases s1 with s|s<;>rcases q with q|q<;>rw[s,q]<;>rfl
 .rw[qZ (p:=ck R r (c+1)=0) (by lia),q1];unfold bS;rcases t2 with s|s<;>rcases q with q|q<;>rw[s,q]<;>rfl
 .rw[qZ (p:=S R (r+1) c=1) (by lia),q2];unfold bS;rcases s2 with s|s<;>rcases q with q|q<;>rw[s,q]<;>rfl
 .rw[qZ (p:=ck R r c=0) (by lia)];unfold bS;rcases t1 with s|s<;>rcases q with q|q<;>rw[s,q]<;>rfl
end
end Lib
namespace Lib
section
def Fg (hp:bq n p=true)(h:zV n p e=zV n p f):e=f:=by
 obtain⟨⟨a0,a1⟩,b0,b1⟩:=aL.mp hp;obtain⟨a,b⟩:=p;simp only[]at a0 a1 b0 b1;unfold zV at h;by_cases h1:bq n (aP e (a,b))=true
 .rw[Nj h1]at h;by_cases h2:bq n (aP f (a,b))=true
  .rw[Nj h2]at h;have h:Dat.tup [.int (aP e (a,b)).1,.int (aP e (a,b)).2]=Dat.tup [.int (aP f (a,b)).1,.int (aP f (a,b)).2]:=h;simp only[Dat.tup.injEq,List.cons.injEq,Dat.int.injEq,and_true]at h;cases e<;>cases f<;>simp only[aP]at h<;>first|rfl|lia
  .rw[Nk h2]at h;cases h
 .rw[Nk h1]at h;by_cases h2:bq n (aP f (a,b))=true
  .rw[Nj h2]at h;cases h
  .rw[Nk h2]at h;simp only[Dat.int.injEq]at h;cases e<;>cases f<;>simp only[yr]at h<;>first|rfl|lia
end
end Lib
namespace Lib
set_option tactic.hygienic false
section
variable{lev:Nat->Lv}{cl:Nat->List Dat->Rd}{k:Nat}
def nR(pre:List Dat)(x y:Dat):zN (.lst (pre++[x,y])) (.int (-1))=.ok y:=vG (by simp)
def B6(pre:List Dat)(x y:Dat):zN (.lst (pre++[x,y])) (.int (-2))=.ok x:=by
 have hi:ix (pre++[x,y]).length (-2)=some pre.length:=by
  unfold ix;rw[Nk (by lia),Nj (by simp;lia)];congr 1;simp;lia
 show(match (ix (pre++[x,y]).length (-2)).bind λj=>(pre++[x,y])[j]? with|some v=>Rd.ok v|none=>.no)=_;rw[hi];simp
def c8 (h:(bh.filter f).length=2)(hd:f d=true):bh.filter f=[d,bE f d]\/bh.filter f=[bE f d,d]:=by
 unfold bE bh at *
 cases h1:f .u<;>cases h2:f .r<;>cases h3:f .d<;>cases h4:f .l<;>simp[h1,h2,h3,h4]at h ⊢<;>cases d<;>simp_all
def sf(a b c d:Int):yy .eq (.tup [.int a,.int b]) (.tup [.int c,.int d])=.ok (.bl (decide (a=c)&&(decide (b=d)&&true))):=rfl
def BW(a b c:Int):yy .eq (.tup [.int a,.int b]) (.int c)=.ok (.bl false):=rfl
def BV(a b c:Int):yy .eq (.int c) (.tup [.int a,.int b])=.ok (.bl false):=rfl
def sJ (hp:bq n p=true)(e f:Di):yy .eq (zV n p e) (zV n p f)=.ok (.bl (decide (e=f))):=by
 by_cases q:e=f
 .subst q;rw[Nn rfl];unfold zV;split
  .show yy .eq (.tup [.int _,.int _]) (.tup [.int _,.int _])=_;rw[sf];simp
  .rw[yU];simp
 .rw[Ni q];have hne:zV n p e≠zV n p f:=λz=>q (Fg hp z);unfold zV at hne ⊢;by_cases h1:bq n (aP e p)=true
  .rw[Nj h1]at hne ⊢;by_cases h2:bq n (aP f p)=true
   .rw[Nj h2]at hne ⊢;show yy .eq (.tup [.int _,.int _]) (.tup [.int _,.int _])=_;rw[sf];have:¬((aP e p).1=(aP f p).1/\(aP e p).2=(aP f p).2):=λz=>hne (by unfold aH;rw[z.1,z.2]);by_cases z1:(aP e p).1=(aP f p).1
    .have z2:¬(aP e p).2=(aP f p).2:=λz2=>this ⟨z1,z2⟩;simp[z2]
    .simp[z1]
   .rw[Nk h2];exact BW _ _ _
  .rw[Nk h1]at hne ⊢;by_cases h2:bq n (aP f p)=true
   .rw[Nj h2];exact BV _ _ _
   .rw[Nk h2]at hne ⊢;rw[yU,Ni (λz=>hne (by rw[z]))]
def kI(n:Nat)(t:Tr)(p:Pl):Dat:=.lst ((bh.filter (t p)).map (zV n p))
structure ED(n:Nat)(t:Tr)(D:Dat):Prop where
 get:∀p,bq n p=true->kA D (aH p)=.ok (kI n t p)
 isin:∀p,bq n p=true->yy .isin (aH p) D=.ok (.bl true)
 out:∀i:Int,yy .isin (.int i) D=.ok (.bl false)
def B5 (h:∀p,bq n p=true->val p=kI n t p):ED n t (dS val (bJ n n 0)) where
 get:=λp hp=>by
  show(match (wU (aH p)).bind (dE _ _)with|some v=>Rd.ok v|none=>.no)=_;rw[show wU (aH p)=some (yV p)from rfl];simp only[W8];rw[qX (qY hp)];simp only[h p hp]
 isin:=λp hp=>by
  show qF ((xX [.int p.1,.int p.2]).map λk=>decide (k∈(bJ n n 0).map yV))=_;rw[show xX [.int p.1,.int p.2]=some (yV p)from rfl];show Rd.ok (.bl (decide (yV p∈(bJ n n 0).map yV)))=_;rw[Nn (List.mem_map_of_mem (qY hp))]
 out:=λ_=>rfl
def fB:Ex:=(.and (.cmp .isin (.idx (.var 3) (.neg (.lit (.int 1)))) (.var 0)) (.cmp .ne (.idx (.var 3) (.neg (.lit (.int 1)))) (.var 1)))
def lL:Ex:=(.ife (.cmp .eq (.idx (.var 4) (.lit (.int 0))) (.idx (.var 3) (.neg (.lit (.int 2))))) (.idx (.var 4) (.lit (.int 1))) (.idx (.var 4) (.lit (.int 0))))
def lK:Ex:=(.dget (.var 0) (.idx (.var 3) (.neg (.lit (.int 1)))))
def iR:Sm:=(.seq (.asg 4 lK) (.expr (.meth .append (.var 3) (.pair lL .unit))))
def nQ:Fn:=⟨3,5,(.seq (.asg 3 (.lst (.pair (.var 1) (.pair (.var 2) .unit)))) (.seq (.while fB iR) (.ret (.var 3))))⟩
def B4 (F:cN n t)(g:Good n t s)(pre:List Dat):
  ak cl lL [d0,d1,d2,some (.lst (pre++[zV n s.1 s.2,aH s.1])),some (kI n t s.1)]=.ok (zV n s.1 (bE (t s.1) s.2)):=by
 have h2:=B6 pre (zV n s.1 s.2) (aH s.1);obtain⟨_,o2,_⟩:=wg (F.two s.1 g.1) g.2;unfold lL kI;rcases c8 (F.two s.1 g.1) g.2 with e|e
 .rw[e];have i0:zN (.lst ([s.2,bE (t s.1) s.2].map (zV n s.1))) (.int 0)=.ok (zV n s.1 s.2):=rfl;have i1:zN (.lst ([s.2,bE (t s.1) s.2].map (zV n s.1))) (.int 1)=.ok (zV n s.1 (bE (t s.1) s.2)):=rfl;simp only[jb,zI,zW,wB,ze,zd,za,aI,i0,i1,h2,sJ g.1,decide_true]
 .rw[e];have i0:zN (.lst ([bE (t s.1) s.2,s.2].map (zV n s.1))) (.int 0)=.ok (zV n s.1 (bE (t s.1) s.2)):=rfl;simp only[jb,zI,zW,wB,ze,zd,za,aI,i0,h2,sJ g.1,Ni o2]
def Fe (F:cN n t)(hD:ED n t D)(g:Good n t s)(pre:List Dat)(hl:pre.length+2<av)(l0 l1 l2 l4:Lv):
  ∃m0 m4,aG lev cl iR [some D,d1,d2,some (.lst (pre++[zV n s.1 s.2,aH s.1])),d4] [l0,l1,l2,.full,l4] =
   .next [some D,d1,d2,some (.lst ((pre++[zV n s.1 s.2,aH s.1])++[zV n s.1 (bE (t s.1) s.2)])),some (kI n t s.1)] [m0,l1,l2,.full,m4]:=by
 have h1:=nR pre (zV n s.1 s.2) (aH s.1);have hG:ak cl lK [some D,d1,d2,some (.lst (pre++[zV n s.1 s.2,aH s.1])),d4]=.ok (kI n t s.1):=by
  unfold lK;simp only[ul,zW,wB,ze,zd,za,aI,h1,hD.get s.1 g.1]
 unfold iR;rw[zH lev cl _ _ rfl,zE,hG];simp only[aV];have go:∀m0 m4,∃m0' m4',aG lev cl (.expr (.meth .append (.var 3) (.pair lL .unit))) [some D,d1,d2,some (.lst (pre++[zV n s.1 s.2,aH s.1])),some (kI n t s.1)] [m0,l1,l2,.full,m4] =
   .next [some D,d1,d2,some (.lst ((pre++[zV n s.1 s.2,aH s.1])++[zV n s.1 (bE (t s.1) s.2)])),some (kI n t s.1)] [m0',l1,l2,.full,m4']:=λm0 m4=>by
  refine⟨m0,m4,?_⟩;rw[wP,B4 F g];simp only[eh];rw[show xK [some D,d1,d2,some (.lst (pre++[zV n s.1 s.2,aH s.1])),some (kI n t s.1)] 3=some (pre++[zV n s.1 s.2,aH s.1])from rfl];simp only[];rw[Nj (by simp;lia)];unfold xJ;rw[Nk (by simp[zU]),Nj (yC lev _ _ (Aj _ _ _))];simp only[Qd,Qc]
 unfold vN;split
 .simp only[zf,Qd,Qc];exact go _ _
 .rw[show yJ lK [some D,d1,d2,some (.lst (pre++[zV n s.1 s.2,aH s.1])),d4] [l0,l1,l2,.full,l4]=[.no,l1,l2,.full,l4]from rfl];simp only[zf,Qd,Qc];exact go _ _
def B3 (hD:ED n t D)(hp:bq n p=true)(pre:List Dat)(x:Dat):ak cl fB [some D,some (.int ρ),d2,some (.lst (pre++[x,aH p])),d4]=.ok (.bl true):=by
 have h1:=nR pre x (aH p);unfold fB;simp only[y8,zI,zW,wB,ze,zd,za,aI,h1,hD.isin p hp];rfl
def Fd (hD:ED n t D)(pre:List Dat)(x:Dat):ak cl fB [some D,d1,d2,some (.lst (pre++[x,.int i])),d4]=.ok (.bl false):=by
 have h1:=nR pre x (.int i);unfold fB;simp only[y8,zI,zW,wB,ze,zd,za,aI,h1,hD.out i]
theorem ue (F:cN n t)(hD:ED n t D)(ρ:Int)(d2:Option Dat):∀(f:Nat) (s:bQ) (acc pl:List Pl) (σ:Int),Good n t s->wN n t f s acc=some (pl,σ)->acc.length+f+2<=av->(∃pre,.int ρ::acc.map aH=pre++[zV n s.1 s.2,aH s.1])->∀(fuel:Nat),f+1<=fuel->∀(d4:Option Dat) (l0 l1 l2 l4:Lv),
  ∃q4 m0 m4,yM (ak cl fB) (aG lev cl iR) fuel [some D,some (.int ρ),d2,some (.lst (.int ρ::acc.map aH)),d4] [l0,l1,l2,.full,l4]=.next [some D,some (.int ρ),d2,some (.lst (.int ρ::pl.map aH++[.int σ])),q4] [m0,l1,l2,.full,m4]
 |0,s,acc,pl,σ,g,h,ha,hp,fuel,hf,d4,l0,l1,l2,l4=>by cases h
 |f+1,s,acc,pl,σ,g,h,ha,⟨pre,hp⟩,fuel,hf,d4,l0,l1,l2,l4=>by
  obtain⟨q,rfl⟩:∃q,fuel=q+1:=⟨fuel-1,by lia⟩;have hlen:pre.length+2=acc.length+1:=by
   have:=Nm List.length hp;simpa using this.symm
  obtain⟨m0,m4,hB⟩:=Fe (lev:=lev) (cl:=cl) F hD g (d1:=some (.int ρ)) (d2:=d2) (d4:=d4) pre (by lia) l0 l1 l2 l4;have h':(match b9 n t s with|some s'=>wN n t f s' (acc++[s'.1])|none=>some (acc,vW n t s))=some (pl,σ):=h;have unf:∀(c:aO->Rd) (body:aO->List Lv->b7) (k:Nat) (de:aO) (lv:List Lv),yM c body (k+1) de lv=match c de with
   |.ok (.bl true)=>match body de lv with
    |.next d1 l1=>yM c body k d1 l1
    |.cont d1 l1=>yM c body k d1 l1
    |.brk d1 l1=>.next d1 l1
    |r=>r
   |.ok (.bl false)=>.next de lv
   |.exc c d=>.exc c d
   |_=>.no:=λ_ _ _ _ _=>rfl
  rw[unf,hp,B3 hD g.1];simp only[];rw[hB];simp only[];rw[<-hp];unfold b9 vW at h';by_cases hi:bq n (aP (bE (t s.1) s.2) s.1)=true
  .rw[Nj hi]at h';have hb:zV n s.1 (bE (t s.1) s.2)=aH (aP (bE (t s.1) s.2) s.1):=by unfold zV;rw[Nj hi]
   have en:b9 n t s=some (aP (bE (t s.1) s.2) s.1,cH (bE (t s.1) s.2)):=by unfold b9;rw[Nj hi]
   rw[hb];have e:(.int ρ::acc.map aH)++[aH (aP (bE (t s.1) s.2) s.1)]=.int ρ::(acc++[aP (bE (t s.1) s.2) s.1]).map aH:=by simp
   rw[e];refine ue F hD ρ d2 f _ _ pl σ (yL F g en).1 h' (by simp;lia) ⟨pre++[zV n s.1 s.2],?_⟩ q (by lia) _ _ _ _ _;rw[<-e,hp,Wm,Wm];have hb2:zV n (aP (bE (t s.1) s.2) s.1) (cH (bE (t s.1) s.2))=aH s.1:=by
    unfold zV;rw[kz,Nj g.1]
   simp[hb2]
  .rw[Nk hi]at h';cases h';have hb:zV n s.1 (bE (t s.1) s.2)=.int (yr n s.1 (bE (t s.1) s.2)):=by unfold zV;rw[Nk hi]
   rw[hb];obtain⟨q',rfl⟩:∃q',q=q'+1:=⟨q-1,by lia⟩;refine⟨some (kI n t s.1),m0,m4,?_⟩;rw[unf,show(Dat.int ρ::acc.map aH)++[.int (yr n s.1 (bE (t s.1) s.2))]=(pre++[zV n s.1 s.2])++[aH s.1,.int (yr n s.1 (bE (t s.1) s.2))]from by rw[hp];simp,Fd hD]
def HZ (hn:0<n)(hn':n<=12)(hρ:ρ<4*n)(F:cN n t)(hD:ED n t D)(g:Good n t (bt n ρ))(hr:bq n (aP (bt n ρ).2 (bt n ρ).1)=false)(he:yr n (bt n ρ).1 (bt n ρ).2=ρ)(hw:wN n t (n*n*4) (bt n ρ) [(bt n ρ).1]=some (pl,σ))(hk:lev k=.full):zB lev cl k nQ [D,.int ρ,aH (bt n ρ).1]=.ok (.lst (.int ρ::pl.map aH++[.int σ])):=by
 have hnn:n*n*4<=576:=by
  have:n*n<=12*12:=WV hn' hn';lia
 have hb:zV n (bt n ρ).1 (bt n ρ).2=.int ρ:=by
  unfold zV;rw[Nk (by rw[hr];decide),he]
 obtain⟨q4,m0,m4,hL⟩:=ue (lev:=lev) (cl:=cl) F hD ρ (some (aH (bt n ρ).1)) (n*n*4) (bt n ρ) [(bt n ρ).1] pl σ g hw (by simp;unfold av;lia) ⟨[],by rw[hb];rfl⟩ 1000000 (by lia) none (aS D) .full .full .full;have fl:∀pl:List Pl,aY (pl.map aH)=true:=λpl=>by
  induction pl with
  |nil=>rfl
  |cons a l ih=>rw[QT,gf,ih];simp[aH]
 unfold zB;rw[Nj (by rfl)];show zz (lev k) (aG lev cl (.seq (.asg 3 _) (.seq (.while fB iR) (.ret _))) [some D,some (.int ρ),some (aH (bt n ρ).1),none,none] [aS D,aS (.int ρ),aS (aH (bt n ρ).1),.full,.full])=_;rw[show aS (.int (ρ:Int))=.full from by simp[aS],show aS (aH (bt n ρ).1)=.full from by simp[aS,aH]];rw[jj (d:=.lst [.int ρ,aH (bt n ρ).1]) (by
  simp only[wl,zg,zj,zd,za,aI,zh];exact xx (show 2<=av by decide)) (by simp[aH]) rfl]
 simp only[Qd,Qc];rw[yg,gk];have hL':=hL;rw[show(List.map aH [(bt n ρ).1])=[aH (bt n ρ).1]from rfl]at hL';rw[hL',zf];simp only[zD,zd,za,aV];simp[zz,cn,hk,wz]
end
end Lib
namespace Lib
def HY(R:List (List Int)):cW R false=dJ R:=by
 funext p d;show(!(dJ R p d==false))=_;cases dJ R p d<;>rfl
end Lib
namespace Lib
section
variable{n:Nat}{t:Tr}
def Ch(n:Nat)(t:Tr):bQ->List bQ->bQ->Prop
 |s,[],l=>s=l
 |s,q::qs,l=>b9 n t s=some q/\Ch n t q qs l
def dM(t:Tr)(s:bQ):bQ:=(s.1,bE (t s.1) s.2)
theorem nT:∀(k:Nat) (s:bQ) (acc pl:List Pl) (σ:Int),wN n t k s acc=some (pl,σ)->∃qs l,Ch n t s qs l/\b9 n t l=none/\pl=acc++qs.map (·.1)/\σ=vW n t l/\qs.length<k
 |0,_,_,_,_,h=>by cases h
 |k+1,s,acc,pl,σ,h=>by
  have h':(match b9 n t s with|some s'=>wN n t k s' (acc++[s'.1])|none=>some (acc,vW n t s))=some (pl,σ):=h;cases e:b9 n t s with
  |none=>
   rw[e]at h';cases h';exact⟨[],s,rfl,e,by simp,rfl,by simp⟩
  |some s'=>
   rw[e]at h';obtain⟨qs,l,h1,h2,h3,h4,h5⟩:=nT k s' _ pl σ h';exact⟨s'::qs,l,⟨e,h1⟩,h2,by rw[h3];simp,h4,by simp;lia⟩
theorem ud:∀(qs:List bQ) (k:Nat) (s:bQ) (l:bQ) (acc:List Pl),Ch n t s qs l->b9 n t l=none->qs.length<k->wN n t k s acc=some (acc++qs.map (·.1),vW n t l)
 |[],k,s,l,acc,h,e,hk=>by
  cases(show s=l from h);obtain⟨j,rfl⟩:∃j,k=j+1:=⟨k-1,by simp at hk;lia⟩;show(match b9 n t s with|some s'=>wN n t j s' (acc++[s'.1])|none=>some (acc,vW n t s))=_;rw[e];simp
 |q::qs,k,s,l,acc,h,e,hk=>by
  obtain⟨h1,h2⟩:=h;obtain⟨j,rfl⟩:∃j,k=j+1:=⟨k-1,by simp at hk;lia⟩;show(match b9 n t s with|some s'=>wN n t j s' (acc++[s'.1])|none=>some (acc,vW n t s))=_;rw[h1];simp only[];rw[ud qs j q l _ h2 e (by simp at hk;lia)];simp
theorem nS(F:cN n t):∀(qs:List bQ) (s l:bQ),Good n t s->Ch n t s qs l->Good n t l
 |[],s,l,g,h=>by cases(show s=l from h);exact g
 |q::qs,s,l,g,h=>nS F qs q l (yL F g h.1).1 h.2
theorem uc:∀(qs:List bQ) (s l x:bQ),Ch n t s qs l->b9 n t l=some x->Ch n t s (qs++[x]) x
 |[],s,l,x,h,e=>by cases(show s=l from h);exact⟨e,rfl⟩
 |q::qs,s,l,x,h,e=>⟨h.1,uc qs q l x h.2 e⟩
theorem sI:∀(qs:List bQ) (s l x:bQ),Ch n t s (qs++[x]) l->∃l',Ch n t s qs l'/\b9 n t l'=some x/\l=x
 |[],s,l,x,h=>⟨s,rfl,h.1,h.2.symm⟩
 |q::qs,s,l,x,h=>by
  obtain⟨l',h1,h2,h3⟩:=sI qs q l x h.2;exact⟨l',⟨h.1,h1⟩,h2,h3⟩
def Fz (F:cN n t)(g:Good n t s):Good n t (dM t s):=⟨g.1,(wg (F.two s.1 g.1) g.2).1⟩
def uI (F:cN n t)(g:Good n t s)(h:b9 n t s=some q):b9 n t (dM t q)=some (dM t s):=by
 have gq:=(yL F g h).1;obtain⟨_,_,o3,_⟩:=wg (F.two q.1 gq.1) gq.2;unfold b9;show(if bq n (aP (bE (t q.1) (bE (t q.1) q.2)) q.1)=true then some (aP (bE (t q.1) (bE (t q.1) q.2)) q.1,cH (bE (t q.1) (bE (t q.1) q.2)))else none)=_;rw[o3];unfold b9 at h;split at h
 .cases h;show(if bq n (aP (cH _) (aP _ s.1))=true then some (aP (cH _) (aP _ s.1),cH (cH _))else none)=_;rw[kz,tP,Nj g.1];rfl
 .cases h
def DV (F:cN n t)(g:Good n t s)(hr:eT n s):b9 n t (dM t s)=none/\vW n t (dM t s)=yr n s.1 s.2:=by
 have o3:=(wg (F.two s.1 g.1) g.2).2.2.1;constructor
 .unfold b9;show(if bq n (aP (bE (t s.1) (bE (t s.1) s.2)) s.1)=true then _ else none)=none;rw[o3,Nk (by unfold eT at hr;rw[hr];decide)]
 .show yr n s.1 (bE (t s.1) (bE (t s.1) s.2))=_;rw[o3]
theorem sH(F:cN n t):∀(qs:List bQ) (s l:bQ),Good n t s->Ch n t s qs l->∃qs',Ch n t (dM t l) qs' (dM t s)/\l.1::qs'.map (·.1)=(s.1::qs.map (·.1)).reverse/\qs'.length=qs.length
 |[],s,l,g,h=>by cases(show s=l from h);exact⟨[],rfl,rfl,rfl⟩
 |q::qs,s,l,g,h=>by
  obtain⟨qs',h1,h2,h3⟩:=sH F qs q l (yL F g h.1).1 h.2;refine⟨qs'++[dM t s],uc qs' _ _ _ h1 (uI F g h.1),?_,by simp[h3]⟩;rw[Ww,<-Q0,h2,QT,Wb];simp[dM]
def BZ(e:Di)(p:Pl):aP e p≠p:=λh=>by
 have h1:=Nm Prod.fst h;have h2:=Nm Prod.snd h;cases e<;>simp only[aP]at h1 h2<;>lia
theorem se(F:cN n t):∀(k:Nat) (s:bQ) (qs:List bQ) (l:bQ),qs.length<=k->Good n t s->Ch n t s qs l->dM t l=s->False
 |k,s,[],l,_,g,h,e=>by
  cases(show s=l from h);exact(wg (F.two s.1 g.1) g.2).2.1 (Nm Prod.snd e)
 |0,s,q::qs,l,hk,g,h,e=>by simp at hk
 |k+1,s,q::qs,l,hk,g,h,e=>by
  rcases List.eq_nil_or_concat qs with z|⟨qs0,x,z⟩
  .subst z;obtain⟨h1,h2⟩:=h;cases(show q=l from h2);have e1:q.1=s.1:=by rw[<-e];rfl
   unfold b9 at h1;split at h1
   .cases h1;exact BZ _ _ e1
   .cases h1
  .rw[List.concat_eq_append]at z;subst z;obtain⟨h1,h2⟩:=h;obtain⟨l',g1,g2,g3⟩:=sI qs0 q l x h2;subst g3;have gq:=(yL F g h1).1;have gl':=nS F qs0 q l' gq g1;have r:=uI F gl' g2;rw[e,h1]at r;cases r;exact se F k (dM t l') qs0 l' (by simp at hk;lia) gq g1 rfl
end
def DU (h:bq n p=true):0<=yr n p e/\yr n p e<4*n:=by
 obtain⟨⟨a0,a1⟩,b0,b1⟩:=aL.mp h;cases e<;>simp only[yr]<;>lia
def Fy (hp:bq n p=true)(hq:bq n q=true)(rp:bq n (aP e p)=false)(rq:bq n (aP f q)=false)(h:yr n p e=yr n q f):(p,e)=(q,f):=by
 obtain⟨⟨a0,a1⟩,b0,b1⟩:=aL.mp hp;obtain⟨⟨c0,c1⟩,d0,d1⟩:=aL.mp hq;have rp:¬(bq n (aP e p)=true):=by rw[rp];exact QQ
 have rq:¬(bq n (aP f q)=true):=by rw[rq];exact QQ
 rw[aL]at rp rq;obtain⟨a,b⟩:=p;obtain⟨c,d⟩:=q;simp only[]at a0 a1 b0 b1 c0 c1 d0 d1;have key:e=f/\a=c/\b=d:=by
  cases e<;>cases f<;>simp only[aP]at rp rq<;>simp only[yr]at h<;>first|(exfalso;lia)|(refine⟨rfl,?_,?_⟩<;>lia)
 obtain⟨rfl,rfl,rfl⟩:=key;rfl
def nP (H:bL R)(b:Bool):cN R.length (cW R b):=by
 cases b with
 |false=>rw[HY];exact sR H
 |true=>
  have e:cW R true=neg (dJ R):=by
   funext p d;show(!(dJ R p d==true))=! dJ R p d;cases dJ R p d<;>rfl
  rw[e];exact(sR H).neg
def bN(b:Bool):Nat:=if b then 1 else 0
def sG (H:bL R)(b:Bool)(h1:bq R.length p=true)(h2:bq R.length (aP e p)=false):cW R b p e=decide (yr R.length p e%2=(bN b:Int)):=by
 show(!(dJ R p e==b))=_;rw[Cg H h1 h2];have q:yr R.length p e%2=0\/yr R.length p e%2=1:=by lia
 cases b<;>rcases q with q|q<;>rw[q]<;>rfl
def nO (H:bL R)(b:Bool)(hj:j<2*R.length):Good R.length (cW R b) (bt R.length (2*j+bN b)):=by
 have hb:bN b=0\/bN b=1:=by cases b<;>simp[bN]
 obtain⟨h1,h2,h3⟩:=qV (n:=R.length) (ρ:=2*j+bN b) (by lia) (by lia);refine⟨h1,?_⟩;rw[sG H b h1 h2,h3];exact Nn (by lia)
abbrev Wk(R:List (List Int))(b:Bool)(j:Nat):Option (List Pl×Int):=wN R.length (cW R b) (R.length*R.length*4) (bt R.length (2*j+bN b)) [(bt R.length (2*j+bN b)).1]
def Fx (H:bL R)(b:Bool)(hj:j<2*R.length):
  ∃i pl,i<2*R.length/\i≠j/\Wk R b j=some (pl,((2*i+bN b:Nat):Int))/\Wk R b i=some (pl.reverse,((2*j+bN b:Nat):Int)):=by
 have hb:bN b=0\/bN b=1:=by cases b<;>simp[bN]
 have F:=nP H b;have g:=nO H b hj;obtain⟨h1,h2,h3⟩:=qV (n:=R.length) (ρ:=2*j+bN b) (by lia) (by lia);obtain⟨pl,σ,hw⟩:=Ix F g h2 [(bt R.length (2*j+bN b)).1];obtain⟨qs,l,c1,c2,c3,c4,c5⟩:=nT _ _ _ _ _ hw;have gl:=nS F qs _ l g c1;have hout:bq R.length (aP (bE (cW R b l.1) l.2) l.1)=false:=by
  unfold b9 at c2;split at c2
  .cases c2
  .next z=>simpa using z
 have gr:=Fz F gl;have hσ:σ=yr R.length l.1 (bE (cW R b l.1) l.2):=c4;have hpar:σ%2=(bN b:Int):=by
  have:=gr.2;rw[show cW R b (dM (cW R b) l).1 (dM (cW R b) l).2=cW R b l.1 (bE (cW R b l.1) l.2)from rfl,sG H b gl.1 hout,<-hσ]at this;exact No this
 obtain⟨r1,r2⟩:=DU (e:=bE (cW R b l.1) l.2) gl.1;rw[<-hσ]at r1 r2;obtain⟨i,hi⟩:∃i:Nat,σ=((2*i+bN b:Nat):Int):=⟨(σ/2).toNat,by rcases hb with z|z<;>rw[z]at hpar ⊢<;>lia⟩;have hi2:i<2*R.length:=by lia
 obtain⟨e1,e2,e3⟩:=qV (n:=R.length) (ρ:=2*i+bN b) (by lia) (by lia);have hent:bt R.length (2*i+bN b)=dM (cW R b) l:=by
  have q:=Fy (p:=(bt R.length (2*i+bN b)).1) (q:=l.1) (e:=(bt R.length (2*i+bN b)).2) (f:=bE (cW R b l.1) l.2) e1 gl.1 e2 hout (by rw[e3,<-hi,hσ]);exact q
 obtain⟨qs',d1,d2,d3⟩:=sH F qs _ l g c1;obtain⟨hend,hro⟩:=DV F g h2;rw[h3]at hro;refine⟨i,pl,hi2,λz=>?_,by rw[<-hi];exact hw,?_⟩
 .subst z;exact se F qs.length _ qs l (Qk _) g c1 hent.symm
 .show wN _ _ _ _ _=_;rw[hent,ud qs' _ _ _ _ d1 hend (by lia),hro,c3];show some ([l.1]++_,_)=_;rw[List.singleton_append,d2];rfl
def Fw (H:bL R)(b:Bool):∃(L:Nat->Nat) (P:Nat->List Pl),∀j,j<2*R.length->L j<2*R.length/\L j≠j/\L (L j)=j/\P (L j)=(P j).reverse/\Wk R b j=some (P j,((2*L j+bN b:Nat):Int)):=by
 have key:∀j:Nat,∃i:Nat,∃pl:List Pl,j<2*R.length->i<2*R.length/\i≠j/\Wk R b j=some (pl,((2*i+bN b:Nat):Int))/\Wk R b i=some (pl.reverse,((2*j+bN b:Nat):Int)):=λj=>by
  by_cases hj:j<2*R.length
  .obtain ⟨i,pl,h⟩:=Fx H b hj;exact⟨i,pl,λ_=>h⟩
  .exact ⟨0,[],λz=>Nl z hj⟩
 obtain⟨L,hL⟩:=Classical.axiomOfChoice key;obtain⟨P,hP⟩:=Classical.axiomOfChoice hL;refine⟨L,P,λj hj=>?_⟩;obtain⟨h1,h2,h3,h4⟩:=hP j hj;obtain⟨_,_,g3,_⟩:=hP (L j) h1;rw[h4]at g3;simp only[Option.some.injEq,Prod.mk.injEq]at g3;refine⟨h1,h2,?_,g3.1.symm,h3⟩;have:=g3.2;lia
end Lib
namespace Lib
section
variable{lev:Nat->Lv}{cl:Nat->List Dat->Rd}{k:Nat}
def dy(b:Bool):Int:=if b then 0 else 1
def vY (h:i<p):(yA p q F).getD i []=xO q F i:=by simp[yA,Qj,h]
def lB (h:j<q):zN (row (xO q F i)) (.int (j:Int))=.ok (.int (F i j)):=vH (by simp[xO,h])
def BU(x b:Bool):decide (eQ x=dy b)=!(x==b):=by cases x<;>cases b<;>rfl
def CC (H:bL R)(b:Bool)(hr:r<R.length)(hc:c<R.length)(hb:∀e,cl kb [.int R.length,.int r,.int c,zw e]=.ok (zV R.length ((r:Int),(c:Int)) e))(hk:lev k=.full):
  zB lev cl k (iN kb) [arr R.length (wk (dR R)) (wk (eF R)),.int r,.int c,.int (dy b)]=.ok (kI R.length (cW R b) ((r:Int),(c:Int))):=by
 obtain⟨w1,w2,w3,w4⟩:=BX H hr hc (F:=dR R) (G:=eF R) (λi j _ _=>rfl) (λi j _ _=>rfl);have e:=GV (lev:=lev) (k:=k) (cl:=cl) (kb:=kb) (n:=R.length) (r:=r) (c:=c) (mk:=dy b) (U:=λe=>eQ (bS R r c e)) (W:=yA R.length (R.length+1) (wk (dR R))) (V:=yA (R.length+1) R.length (wk (eF R))) (gm _ _ _)
  (by rw[vY (by lia)];exact gp (by lia)) (by rw[vY hr];exact gp hr) (by rw[vY (by lia)];exact gp (i:=r+1) (by lia))
  (by rw[vY (by lia),lB hc,w1]) (by rw[vY hr];exact(lB (j:=c+1) (by lia)).trans (by rw[w2])) (by rw[vY (by lia),lB hc,w3]) (by rw[vY hr,lB (by lia),w4]) hb hk
 rw[show arr R.length (wk (dR R)) (wk (eF R))=.tup [au (yA R.length (R.length+1) (wk (dR R))),au (yA (R.length+1) R.length (wk (eF R)))]from rfl,e];unfold kI;congr 3;refine List.filter_congr λd _=>?_;show decide (eQ (bS R r c d)=dy b)=!(dJ R ((r:Int),(c:Int)) d==b);rw[BU];rfl
def gx (h:lev kt=.full):cn lev (.call kt a) X lv=.full:=by
 unfold cn;split
 .rfl
 .show aU lev (.call kt a) X=.full;rw[kC,h];split<;>rfl
def mE(kp kt:Nat):Fn:=⟨4,6,(.seq (.asg 4 (.ife (.cmp .eq (.var 3) (.lit (.int 1))) (.bin .mul (.lit (.int 2)) (.var 2)) (.bin .add (.bin .mul (.lit (.int 2)) (.var 2)) (.lit (.int 1))))) (.seq (.asg 5 (.call kp (.pair (.var 1) (.pair (.var 4) .unit)))) (.ret (.call kt (.pair (.var 0) (.pair (.var 4) (.pair (.tup (.pair (.idx (.var 5) (.lit (.int 0))) (.pair (.idx (.var 5) (.lit (.int 1))) .unit))) .unit)))))))⟩
def DT {n:Nat}(b:Bool)(hp:cl kp [.int n,.int ((2*j+bN b:Nat):Int)]=.ok (.tup [.int (bt n (2*j+bN b)).1.1,.int (bt n (2*j+bN b)).1.2,zw (bt n (2*j+bN b)).2]))(ht:cl kt [D,.int ((2*j+bN b:Nat):Int),aH (bt n (2*j+bN b)).1]=.ok X)(hkt:lev kt=.full)(hk:lev k=.full):
  zB lev cl k (mE kp kt) [D,.int n,.int j,.int (dy b)]=.ok X:=by
 have m2:zJ .mul (.int 2) (.int (j:Int))=.ok (.int (2*(j:Int))):=yz _ _ (by decide);have hroad:∀d4 d5:Option Dat,ak cl (.ife (.cmp .eq (.var 3) (.lit (.int 1))) (.bin .mul (.lit (.int 2)) (.var 2)) (.bin .add (.bin .mul (.lit (.int 2)) (.var 2)) (.lit (.int 1)))) [some D,some (.int n),some (.int j),some (.int (dy b)),d4,d5]=.ok (.int ((2*j+bN b:Nat):Int)):=λd4 d5=>by
  cases b with
  |false=>
   simp only[jb,zI,zt,ze,zd,za,aI,yU,m2];rfl
  |true=>
   simp only[jb,zI,zt,ze,zd,za,aI,yU,m2,zX];rfl
 unfold zB;rw[Nj (by rfl)];show zz (lev k) (aG lev cl (.seq (.asg 4 _) (.seq (.asg 5 _) (.ret _))) [some D,some (.int n),some (.int j),some (.int (dy b)),none,none] _)=_;rw[vp (hroad _ _) (by simp) rfl];simp only[Qd,Qc];generalize ((2*j+bN b:Nat):Int)=ρ at *
 generalize bt n (2*j+bN b)=s at *
 rw[vp (d:=.tup [.int s.1.1,.int s.1.2,zw s.2]) (by simp only[zq,zg,zj,zd,za,aI,zh,hp]) (by simp[zw]) rfl];simp only[Qd,Qc,zD];have i0:zN (.tup [.int s.1.1,.int s.1.2,zw s.2]) (.int 0)=.ok (.int s.1.1):=rfl;have i1:zN (.tup [.int s.1.1,.int s.1.2,zw s.2]) (.int 1)=.ok (.int s.1.2):=rfl;simp only[zq,zg,zj,gs,zW,ze,zd,za,aI,zh,i0,i1];rw[show(Dat.tup [.int s.1.1,.int s.1.2])=aH s.1 from rfl,ht];simp only[aV];rw[gx hkt];simp[zz,hk,wz]
def mD(ka kr:Nat):Fn:=⟨2,4,(.seq (.asg 2 (.blt .len (.pair (.var 0) .unit))) (.seq (.asg 3 (.call ka (.pair (.var 0) (.pair (.var 1) .unit)))) (.ret (.comp (.bin .fdiv (.idx (.call kr (.pair (.var 3) (.pair (.var 2) (.pair (.var 4) (.pair (.var 1) .unit))))) (.neg (.lit (.int 1)))) (.lit (.int 2))) (.rng (.lit (.int 0)) (.bin .mul (.lit (.int 2)) (.var 2)) (.lit (.int 1))) (.lit (.bl true))))))⟩
def DS (hn:R.length<=12)(b:Bool)(hs:cl ka [au R,.int (dy b)]=.ok D)(hlv:lev ka=.full){L:Nat->Nat}{P:Nat->List Dat}(hw:∀j,j<2*R.length->cl kr [D,.int R.length,.int j,.int (dy b)]=.ok (.lst (P j++[.int ((2*L j+bN b:Nat):Int)])))(hk:lev k=.full):
  zB lev cl k (mD ka kr) [au R,.int (dy b)]=.ok (row ((QA (2*R.length)).map λj=>(L j:Int))):=by
 have hlen:yO .len [au R]=.ok (.int R.length):=by simp[yO,xa,au]
 have m2:zJ .mul (.int 2) (.int R.length)=.ok (.int ((2*R.length:Nat):Int)):=by rw[yz _ _ (by decide)];simp
 have hrg:kT (.int 0) (.int ((2*R.length:Nat):Int)) (.int 1)=.ok (.tup (ym 0 1 (2*R.length))):=vJ (by lia);have hb:bN b=0\/bN b=1:=by cases b<;>simp[bN]
 unfold zB;rw[Nj (by rfl)];show zz (lev k) (aG lev cl (.seq (.asg 2 _) (.seq (.asg 3 _) (.ret _))) [some (au R),some (.int (dy b)),none,none] [aS (au R),aS (.int (dy b)),.full,.full])=_;rw[vp (d:=.int R.length) (by simp only[yF,zg,zj,zd,aI,zh,hlen]) (by simp) rfl];simp only[Qd,Qc];rw[jj (d:=D) (by simp only[zq,zg,zj,zd,za,aI,zh,hs]) (by rw[kC,hlv];split<;>rfl) rfl];simp only[Qd,Qc,zD];rw[xB];simp only[wA,ze,zt,zd,za,aI,m2,hrg,xS];rw[gh 0 1 (2*R.length) (λj=>.int (L j)) (λj _=>rfl) (λj hj=>?_) (by unfold av;lia)]
 .simp only[aV];have hr:(Dat.lst ((QA (2*R.length)).map λj=>Dat.int (L j)))=row ((QA (2*R.length)).map λj=>(L j:Int)):=by simp only[row,Wf];rfl
  rw[hr];simp[zz,cn,row,hk,wz]
 .rw[show(0+1*(j:Int))=(j:Int) by lia];simp only[Q0,QO,zt,zW,zq,wB,zg,zj,ze,zd,za,aI,zh,hw j hj];rw[vG (d:=.int ((2*L j+bN b:Nat):Int)) (by simp)];simp only[aI];rw[wO _ _ (by decide) (by decide),show(((2*L j+bN b:Nat):Int))/2=(L j:Int) by lia]
def mC(k:Nat)(m:Int):Fn:=⟨1,1,(.ret (.call k (.pair (.var 0) (.pair (.lit (.int m)) .unit))))⟩
def DR (h:cl kl [d,.int m]=.ok X)(hl:lev kl=.full)(hk:lev k=.full):zB lev cl k (mC kl m) [d]=.ok X:=by
 unfold zB;rw[Nj (by rfl)];show zz (lev k) (aG lev cl (.ret _) [some d] [aS d])=_;rw[zD];simp only[zq,zg,zj,ze,zd,aI,zh,h,aV];rw[gx hl];simp[zz,hk,wz]
end
end Lib
namespace Lib
section
variable{lev:Nat->Lv}{cl:Nat->List Dat->Rd}{k:Nat}
def gz:Fn:=⟨2,2,(.seq (.ite (.cmp .lt (.var 1) (.blt .len (.pair (.var 0) .unit))) (.ret (.idx (.var 0) (.var 1))) .skip) (.ret (.lit (.int 0))))⟩
def HX(ns:List Int)(i:Nat):∃c:Int,zB lev cl k gz [.scr ns,.int i]=.ok (.int c):=by
 by_cases h:i<ns.length
 .refine ⟨ns[i],?_⟩;have h1:zN (.scr ns) (.int (i:Int))=.ok (.int ns[i]):=by simp[zN,xa,nG h,h]
  simp[zB,gz,xQ,xk,zz,cn,h,h1]
 .refine ⟨0,?_⟩;simp[zB,gz,xQ,xk,zz,cn,h]
def mQ:Fn:=⟨2,3,(.seq (.asg 2 (.bin .mod (.bin .mul (.bin .add (.bin .add (.bin .mod (.var 0) (.bin .pow (.lit (.int 10)) (.lit (.int 40)))) (.bin .mul (.var 1) (.var 1))) (.lit (.int 17))) (.bin .add (.lit (.int 30103)) (.bin .mul (.lit (.int 2)) (.var 1)))) (.lit (.int 86028121)))) (.ret (.bin .fdiv (.bin .mod (.bin .mul (.var 2) (.var 2)) (.lit (.int 86028157))) (.lit (.int 7)))))⟩
def Fv(c j:Int)(h:0<=j)(h':j<=100000):∃v:Int,zB lev cl k mQ [.int c,.int j]=.ok (.int v):=by
 have e1:zJ .pow (.int 10) (.int 40)=.ok (.int (10^40)):=nH 10 40 ⟨by decide,by decide,by decide⟩;have e2:zJ .mod (.int c) (.int (10^40))=.ok (.int (c%10^40)):=xw _ _ (by decide);generalize (10:Int)^40=P at *
 have e3:zJ .mul (.int j) (.int j)=.ok (.int (j*j)):=yz _ _ (gd (by lia) (by lia));have e4:∀x:Int,zJ .mul (.int x) (.int (30103+2*j))=.ok (.int (x*(30103+2*j))):=λx=>E5 _ _ (gd (by lia) (by lia));have e5:zJ .mul (.int 2) (.int j)=.ok (.int (2*j)):=yz _ _ (by decide);have e6:∀x:Int,zJ .mod (.int x) (.int 86028121)=.ok (.int (x%86028121)):=λx=>xw _ _ (by decide);have e7:∀x:Int,zJ .mod (.int x) (.int 86028157)=.ok (.int (x%86028157)):=λx=>xw _ _ (by decide);have e8:∀x:Int,zJ .fdiv (.int x) (.int 7)=.ok (.int (x/7)):=λx=>wO _ _ (by decide) (by decide);have e9:∀y:Int,zJ .mul (.int (y%86028121)) (.int (y%86028121))=.ok (.int (y%86028121*(y%86028121))):=λy=>yz _ _ (gd (by lia) (by lia));generalize hy:(c%P+j*j+17)*(30103+2*j)=y;refine⟨y%86028121*(y%86028121)%86028157/7,?_⟩;unfold zB;rw[Nj (by rfl)];show zz (lev k) (aG lev cl (.seq (.asg 2 _) (.ret _)) [some (.int c),some (.int j),none] _)=_;rw[yg];simp only[zE,zt,zd,za,ze,aI,e1,e2,e3,e5,zX,e4,hy,e6,aV];rw[zT (by simp)];simp only[zf,Qd,Qc,zD,zt,zd,za,ze,aI,e9,e7,e8,aV];simp[zz]
def oV:Ex:=(.bin .add (.idx (.var 5) (.var 7)) (.blt .int (.pair (.and (.cmp .ne (.var 6) (.lst .unit)) (.cmp .eq (.idx (.var 6) (.neg (.lit (.int 1)))) (.idx (.var 5) (.var 7)))) .unit)))
def iV:Ex:=(.bin .add (.bin .sub (.idx (.var 5) (.bin .add (.var 7) (.lit (.int 1)))) (.var 8)) (.lit (.int 1)))
def iW(km:Nat):Sm:=(.seq (.asg 8 oV) (.seq (.asg 9 (.var 3)) (.seq (.ite (.or (.cmp .lt (.var 0) (.bin .pow (.lit (.int 10)) (.lit (.int 18)))) (.cmp .eq (.var 3) (.lit (.int 0)))) (.asg 9 (.call km (.pair (.var 0) (.pair (.var 4) .unit)))) .skip) (.seq (.expr (.meth .append (.var 6) (.pair (.bin .add (.var 8) (.bin .mod (.var 9) iV)) .unit))) (.seq (.asg 3 (.bin .fdiv (.var 3) iV)) (.asg 4 (.bin .add (.var 4) (.lit (.int 1)))))))))
def kJ(l2 l5:Lv):List Lv:=[.full,.full,l2,.full,.full,l5,.full,.full,.full,.full,.full,.full]
def CB (hm:m+1<last.length)(hl:dG last)(ha:acc.length=m)(hb:∀i,i<m->acc.getD i 0<=last.getD (i+1) 0)(hg:∀i,i<m->last.getD i 0<=acc.getD i 0):
  ∃low:Int,last.getD m 0<=low/\low<=last.getD (m+1) 0/\(0<m->acc.getD (m-1) 0<low)/\ak cl oV [a,b,f,g,h,some (row last),some (row acc),some (.int m),o8,o9,o10,o11]=.ok (.int low):=by
 have g1:zN (row last) (.int (m:Int))=.ok (.int (last.getD m 0)):=vH (jc (by lia));have hi:=hl m hm;have hnew:bp []=.ok (row []):=rfl;unfold oV;simp only[zt,zW,yF,zg,zj,y8,zI,wl,wB,ze,za,zd,aI,zh,hnew,g1];rw[Cf];by_cases z:acc=[]
 .subst z;refine⟨last.getD m 0,by lia,by lia,λh=>by simp at ha;lia,?_⟩;simp[yO,b2i]
 .have hm0:0<m:=by cases acc with
   |nil=>exact Nl rfl z
   |cons _ _=>simp at ha;lia
  have g3:zN (row acc) (.int (-1))=.ok (.int (acc.getD (m-1) 0)):=by
   refine vG ?_;rw[Qm,ha,Qt,jc (by lia)];rfl
  have h1:=hb (m-1) (by lia);rw[show m-1+1=m by lia]at h1;simp only[z,decide_false,Bool.not_false,aI,g3,yU,g1];by_cases q:acc.getD (m-1) 0=last.getD m 0
  .refine ⟨last.getD m 0+1,by lia,by lia,λ_=>by lia,?_⟩;rw[Nn q];simp[yO,b2i]
  .refine ⟨last.getD m 0,by lia,by lia,λ_=>by lia,?_⟩;rw[Ni q];simp[yO,b2i]
def DQ (hmx:∀c j:Int,0<=j->j<=100000->∃v:Int,cl km [.int c,.int j]=.ok (.int v))(ht:0<=turn/\turn<=100000)(hm:m+1<last.length)(hl:dG last)(ha:acc.length=m)(hb:∀i,i<m->acc.getD i 0<=last.getD (i+1) 0)(hg:∀i,i<m->last.getD i 0<=acc.getD i 0)(hlim:last.length<=100)(hbd:∀i,i<last.length->0<=last.getD i 0/\last.getD i 0<=1000):
  ∃(w rest':Int) (p8 p9:Option Dat),aG lev cl (iW km) [some (.int cell),some n,some (.lst rows),some (.int rest),some (.int turn),some (row last),some (row acc),some (.int m),o8,o9,o10,o11] (kJ l2 l5)=.next [some (.int cell),some n,some (.lst rows),some (.int rest'),some (.int (turn+1)),some (row last),some (row (acc++[w])),some (.int m),p8,p9,o10,o11] (kJ l2 l5)
   /\ last.getD m 0<=w/\w<=last.getD (m+1) 0/\(0<m->acc.getD (m-1) 0<w):=by
 obtain⟨low,l1,l2',l3,hlow⟩:=CB (cl:=cl) (a:=some (.int cell)) (b:=some n) (f:=some (.lst rows)) (g:=some (.int rest)) (h:=some (.int turn)) (o8:=o8) (o9:=o9) (o10:=o10) (o11:=o11) hm hl ha hb hg;have g2:zN (row last) (.int ((m:Int)+1))=.ok (.int (last.getD (m+1) 0)):=vH (c:=m+1) (jc hm);have h10:zJ .pow (.int 10) (.int 18)=.ok (.int (10^18)):=nH 10 18 ⟨by decide,by decide,by decide⟩;generalize (10:Int)^18=P at h10;have b1:=hbd m (by lia);have b2:=hbd (m+1) hm;have pos:0<last.getD (m+1) 0-low+1:=by lia
 have num:∃num:Int,aG lev cl (.ite (.or (.cmp .lt (.var 0) (.bin .pow (.lit (.int 10)) (.lit (.int 18)))) (.cmp .eq (.var 3) (.lit (.int 0)))) (.asg 9 (.call km (.pair (.var 0) (.pair (.var 4) .unit)))) .skip) [some (.int cell),some n,some (.lst rows),some (.int rest),some (.int turn),some (row last),some (row acc),some (.int m),some (.int low),some (.int rest),o10,o11] (kJ l2 l5)=.next [some (.int cell),some n,some (.lst rows),some (.int rest),some (.int turn),some (row last),some (row acc),some (.int m),some (.int low),some (.int num),o10,o11] (kJ l2 l5):=by
  obtain⟨v,hv⟩:=hmx cell turn ht.1 ht.2;have hc:∃b:Bool,ak cl (.or (.cmp .lt (.var 0) (.bin .pow (.lit (.int 10)) (.lit (.int 18)))) (.cmp .eq (.var 3) (.lit (.int 0)))) [some (.int cell),some n,some (.lst rows),some (.int rest),some (.int turn),some (row last),some (row acc),some (.int m),some (.int low),some (.int rest),o10,o11]=.ok (.bl b):=by
   simp only[j9,zI,zt,ze,za,zd,aI,h10,qc,yU];by_cases q:cell<P
   .exact ⟨true,by simp[q]⟩
   .exact ⟨decide (rest=0),by simp[q]⟩
  obtain⟨b,hc⟩:=hc;rw[yu,hc];simp only[aV];cases b with
  |true=>
   refine⟨v,?_⟩;simp only[zE,zq,zg,zj,za,zd,aI,zh,hv,aV];rw[zT (by simp)];rfl
  |false=>exact⟨rest,by simp only[yj]⟩
 obtain⟨num,hnum⟩:=num;have q1:=Vy num (b:=last.getD (m+1) 0-low+1) (by lia);have q2:=Int.emod_lt_of_pos num pos;have hw:∀(o3 o4 o6 o9:Option Dat),ak cl iV [some (.int cell),some n,some (.lst rows),o3,o4,some (row last),o6,some (.int m),some (.int low),o9,o10,o11]=.ok (.int (last.getD (m+1) 0-low+1)):=λo3 o4 o6 o9=>by
  unfold iV;simp only[zt,zW,ze,za,zd,aI,zX,g2,yG]
 have hmod:zJ .mod (.int num) (.int (last.getD (m+1) 0-low+1))=.ok (.int (num % (last.getD (m+1) 0-low+1))):=xw _ _ pos;have hdiv:zJ .fdiv (.int rest) (.int (last.getD (m+1) 0-low+1))=.ok (.int (rest / (last.getD (m+1) 0-low+1))):=wO _ _ pos (by lia);refine⟨low+num % (last.getD (m+1) 0-low+1),rest / (last.getD (m+1) 0-low+1),some (.int low),some (.int num),?_,by lia,by lia,λh=>by have:=l3 h;lia⟩;unfold iW;rw[zF,zE,hlow];simp only[aV];rw[zT (by simp)];simp only[zf,kJ,Qd,Qc];rw[zF,zE];simp only[za,zd,aV];rw[zT (by simp)];simp only[zf,Qd,Qc];rw[zF];have hnum':=hnum;unfold kJ at hnum';rw[hnum',zf,zF,wP];simp only[zt,za,zd,hw,aI,hmod,zX,eh];rw[show xK [some (.int cell),some n,some (.lst rows),some (.int rest),some (.int turn),some (row last),some (row acc),some (.int m),some (.int low),some (.int num),o10,o11] 6=some (acc.map Dat.int)from rfl];simp only[Qm];rw[Nj (by unfold av;lia)];have hgv:xJ lev (.bin .add (.var 8) (.bin .mod (.var 9) iV)) (.int (low+num % (last.getD (m+1) 0-low+1))) 6 [some (.int cell),some n,some (.lst rows),some (.int rest),some (.int turn),some (row last),some (row acc),some (.int m),some (.int low),some (.int num),o10,o11] [.full,.full,l2,.full,.full,l5,.full,.full,.full,.full,.full,.full]=some ([some (.int cell),some n,some (.lst rows),some (.int rest),some (.int turn),some (row last),some (row acc),some (.int m),some (.int low),some (.int num),o10,o11],[.full,.full,l2,.full,.full,l5,.full,.full,.full,.full,.full,.full]):=by
  unfold xJ;rw[Nk (by simp[zU]),Nj (yC lev _ _ (by simp))]
 rw[hgv];simp only[zf,Qd,Qc];rw[sP,zE];simp only[zt,za,zd,hw,aI,hdiv,aV];rw[zT (by simp)];simp only[zf,Qd,Qc,zE,zt,za,zd,ze,aI,zX,aV];rw[zT (by simp)];simp[row]
end
end Lib
namespace Lib
set_option tactic.hygienic false
section
variable{lev:Nat->Lv}{cl:Nat->List Dat->Rd}{k:Nat}
def CA (hmx:∀c j:Int,0<=j->j<=100000->∃v:Int,cl km [.int c,.int j]=.ok (.int v)){turn:Int}{kk:Nat}(ht:0<=turn/\turn+kk<=100000)(hlen:last.length=kk+1)(hl:dG last)(hlim:last.length<=100)(hbd:∀i,i<last.length->0<=last.getD i 0/\last.getD i 0<=1000):
  ∃(acc:List Int) (rest':Int) (p7 p8 p9:Option Dat),xj (λx de lv=>aG lev cl (iW km) (de.set 7 (some x)) (lv.set 7 (aS x))) (ym 0 1 kk) [some (.int cell),some n,some (.lst rows),some (.int rest),some (.int turn),some (row last),some (row []),o7,o8,o9,o10,o11] (kJ l2 l5) =
   .next [some (.int cell),some n,some (.lst rows),some (.int rest'),some (.int (turn+kk)),some (row last),some (row acc),p7,p8,p9,o10,o11] (kJ l2 l5)/\dG acc/\iw last acc:=by
 have main:=yw (body:=λx de lv=>aG lev cl (iW km) (de.set 7 (some x)) (lv.set 7 (aS x)))
  (λm de lv=>∃(acc:List Int) (rest':Int) (p7 p8 p9:Option Dat),de=[some (.int cell),some n,some (.lst rows),some (.int rest'),some (.int (turn+m)),some (row last),some (row acc),p7,p8,p9,o10,o11]/\lv=kJ l2 l5/\acc.length=m/\dG acc/\(∀i,i<m->last.getD i 0<=acc.getD i 0/\acc.getD i 0<=last.getD (i+1) 0))
  (ym 0 1 kk) (de:=[some (.int cell),some n,some (.lst rows),some (.int rest),some (.int turn),some (row last),some (row []),o7,o8,o9,o10,o11]) (lv:=kJ l2 l5)
  ⟨[],rest,o7,o8,o9,by simp,rfl,rfl,λi hi=>by simp at hi,λi hi=>by lia⟩ ?_
 .obtain ⟨de',lv',e,acc,rest',p7,p8,p9,rfl,rfl,h1,h2,h3⟩:=main;rw[GM]at h1 h3 e;exact⟨acc,rest',p7,p8,p9,e,h2,⟨by lia,λi hi=>h3 i (by lia)⟩⟩
 .rintro m x de lv hx' ⟨acc,rest',p7,p8,p9,rfl,rfl,h1,h2,h3⟩;have hmk:m<kk:=by
   have:=(Qa.mp hx').1;simpa using this
  rw[xL _ _ _ _ hmk]at hx';cases hx';have e1:(0:Int)+1*(m:Int)=(m:Int):=by lia
  obtain⟨w,rest2,q8,q9,e,b1,b2,b3⟩:=DQ (lev:=lev) (cl:=cl) (cell:=cell) (rest:=rest') (turn:=turn+m) (n:=n) (rows:=rows) (last:=last) (acc:=acc) (m:=m) (o8:=p8) (o9:=p9) (o10:=o10) (o11:=o11) (l2:=l2) (l5:=l5) hmx (by lia) (by lia) hl h1 (λi hi=>(h3 i hi).2) (λi hi=>(h3 i hi).1) hlim hbd;refine⟨_,_,?_,acc++[w],rest2,some (.int m),q8,q9,rfl,rfl,by simp[h1],h2.app (λh=>?_),λi hi=>?_⟩
  .simp only[e1,kJ,Qd,Qc,show aS (.int (m:Int))=.full from by simp[aS]];rw[show turn+((m+1:Nat):Int)=turn+m+1 by lia];exact e
  .rw[h1]at h ⊢;exact b3 h
  .by_cases z:i<m
   .rw[wt (by lia)];exact h3 i z
   .have:i=acc.length:=by lia
    subst this;rw[ji,h1];exact⟨b1,b2⟩
def lV(km:Nat):Sm:=(.seq (.asg 5 (.idx (.var 2) (.neg (.lit (.int 1))))) (.seq (.asg 6 (.lst .unit)) (.seq (.forv 7 (.rng (.lit (.int 0)) (.bin .sub (.blt .len (.pair (.var 5) .unit)) (.lit (.int 1))) (.lit (.int 1))) (iW km)) (.expr (.meth .append (.var 2) (.pair (.var 6) .unit))))))
def lU:Ex:=(.cmp .lt (.blt .len (.pair (.var 2) .unit)) (.var 1))
def DP(cell:Int)(n t:Nat)(de:aO)(lv:List Lv):Prop:=∃(L:List (List Int)) (rest turn:Int) (o5 o6 o7 o8 o9:Option Dat) (l2 l5 l6:Lv),de=[some (.int cell),some (.int n),some (au L),some (.int rest),some (.int turn),o5,o6,o7,o8,o9,none,none]/\lv=[.full,.full,l2,.full,.full,l5,l6,.full,.full,.full,.full,.full]/\(l2=.full\/l2=.top)/\L.length=t+1/\dC n L/\0<=turn/\turn<=100*t
def sF (h:DP cell n t de lv):ak cl lU de=.ok (.bl (decide (t+1<n))):=by
 obtain⟨L,rest,turn,o5,o6,o7,o8,o9,l2,l5,l6,rfl,rfl,hl2,h1,h2,h3⟩:=h;have hlen:yO .len [au L]=.ok (.int L.length):=by simp[au]
 unfold lU;simp only[zI,yF,zg,zj,za,zd,aI,zh,hlen,qc];rw[show decide ((L.length:Int)<(n:Int))=decide (t+1<n)from decide_eq_decide.mpr (by lia)]
def Cz (hmx:∀c j:Int,0<=j->j<=100000->∃v:Int,cl km [.int c,.int j]=.ok (.int v))(hn:n<=12)(ht:t+1<n)(h:DP cell n t de lv):∃de' lv',aG lev cl (lV km) de lv=.next de' lv'/\DP cell n (t+1) de' lv':=by
 obtain⟨L,rest,turn,o5,o6,o7,o8,o9,l2,l5,l6,rfl,rfl,hl2,h1,h2,h3,h4⟩:=h;have hd:zN (au L) (.int (-1))=.ok (row (L.getD t [])):=by
  refine vG ?_;rw[Qm,h1,Qt,Qj,show t+1-1=t by lia,Qe (by lia)];rfl
 have hl:=h2.len t (by lia);have hlen:yO .len [row (L.getD t [])]=.ok (.int ((L.getD t []).length:Nat)):=by simp[row]
 have hnew:bp []=.ok (row []):=rfl;have hrng:kT (.int 0) (.int (((L.getD t []).length:Nat)-1:Int)) (.int 1)=.ok (.tup (ym 0 1 (n-1-t))):=by
  rw[show(((L.getD t []).length:Nat)-1:Int)=((n-1-t:Nat):Int) by lia,nF (by unfold av;lia)];simp[eZ]
 obtain⟨acc,rest',p7,p8,p9,e,hinc,hlace⟩:=CA (lev:=lev) (cl:=cl) (km:=km) hmx (cell:=cell) (rest:=rest) (turn:=turn) (n:=.int n) (rows:=L.map row) (last:=L.getD t []) (kk:=n-1-t) (o7:=o7) (o8:=o8) (o9:=o9) (o10:=none) (o11:=none) (l2:=.top) (l5:=.no) (by lia) (by lia) (h2.inc t (by lia)) (by lia) (λj hj=>by have:=h2.bd t (by lia) j hj;lia);refine⟨[some (.int cell),some (.int n),some (au (L++[acc])),some (.int rest'),some (.int (turn+(n-1-t:Nat))),some (row (L.getD t [])),some (row acc),p7,p8,p9,none,none],[.full,.full,.top,.full,.full,.no,.no,.full,.full,.full,.full,.full],?_,L++[acc],rest',_,_,_,_,_,_,.top,.no,.no,rfl,rfl,Or.inr rfl,by simp[h1],h2.app (by lia) hinc (by rw[show L.length-1=t by lia];exact hlace),by lia,by lia⟩;unfold lV;rw[zF];simp only[zE,zW,wB,za,zd,ze,aI,hd,aV];rw[show vN lev 5 (.idx (.var 2) (.neg (.lit (.int 1)))) (row (L.getD t [])) [some (.int cell),some (.int n),some (au L),some (.int rest),some (.int turn),o5,o6,o7,o8,o9,none,none] [.full,.full,l2,.full,.full,l5,l6,.full,.full,.full,.full,.full]=.next [some (.int cell),some (.int n),some (au L),some (.int rest),some (.int turn),some (row (L.getD t [])),o6,o7,o8,o9,none,none] [.full,.full,.top,.full,.full,.no,l6,.full,.full,.full,.full,.full]from by
  rcases hl2 with rfl|rfl<;>rfl]
 simp only[zf];rw[zF];simp only[zE,wl,zj,aI,zh,hnew,aV];rw[yD (by simp[row])];simp only[zf,Qd,Qc];rw[qS,wp];simp only[wA,zt,yF,zg,zj,zh,ze,za,zd,aI,hlen,yG,hrng,aV,xS,wm,xy,if_true];rw[show[Lv.full,Lv.full,Lv.top,Lv.full,Lv.full,Lv.no,Lv.full,Lv.full,Lv.full,Lv.full,Lv.full,Lv.full]=kJ .top .no from rfl,show(some (au L):Option Dat)=some (.lst (L.map row))from rfl,e,zf,wP];simp only[za,zd,eh,xK,WB,WA];rw[Nj (by rw[Qm,h1];unfold av;lia)];have hg:xJ lev (.var 6) (row acc) 2 [some (.int cell),some (.int n),some (.lst (L.map row)),some (.int rest'),some (.int (turn+(n-1-t:Nat))),some (row (L.getD t [])),some (row acc),p7,p8,p9,none,none] (kJ .top .no)=some ([some (.int cell),some (.int n),some (.lst (L.map row)),some (.int rest'),some (.int (turn+(n-1-t:Nat))),some (row (L.getD t [])),some (row acc),p7,p8,p9,none,none],[.full,.full,.top,.full,.full,.no,.no,.full,.full,.full,.full,.full]):=by
  simp[xJ,zU,kJ,row,aR]
 rw[hg];simp[au]
def im:Ex:=(.comp (.bin .sub (.blt .int (.pair (.cmp .isin (.var 12) (.var 6)) .unit)) (.blt .int (.pair (.cmp .isin (.var 12) (.var 11)) .unit))) (.rng (.lit (.int 0)) (.var 1) (.lit (.int 1))) (.lit (.bl true)))
def lT:Sm:=(.seq (.expr (.meth .append (.var 10) (.pair im .unit))) (.asg 11 (.var 6)))
def DO (hX:X.length<=100)(hi:i<X.length)(hn:n=X.length):
  aG lev cl lT [a,some (.int n),d2,d3,d4,d5,some (row (X.getD i [])),d7,d8,d9,some (au ((sg X).take i)),some (row (zM X i))] [.full,.full,l2,.full,.full,l5,.no,.full,.full,.full,.full,l11]=.next [a,some (.int n),d2,d3,d4,d5,some (row (X.getD i [])),d7,d8,d9,some (au ((sg X).take (i+1))),some (row (zM X (i+1)))] [.full,.full,l2,.full,.full,l5,.no,.full,.full,.full,.full,.no]:=by
 subst hn;have hrng:kT (.int 0) (.int X.length) (.int 1)=.ok (.tup (ym 0 1 X.length)):=by
  rw[nF (by unfold av;lia)];simp[eZ]
 have hcomp:ak cl im [a,some (.int X.length),d2,d3,d4,d5,some (row (X.getD i [])),d7,d8,d9,some (au ((sg X).take i)),some (row (zM X i))]=.ok (row (xN X.length (X.getD i []) (zM X i))):=by
  unfold im;rw[xB];simp only[wA,ze,za,zd,aI,hrng,xS];rw[gh 0 1 X.length (λc=>.int (b2i (mem (X.getD i []) c)-b2i (mem (zM X i) c)))]
  .simp[row,xN]
  .intro j hj;simp
  .intro j hj;simp[GG]
  .unfold av;lia
 have hlim:((sg X).take i).length<av:=by simp[sg];unfold av;lia
 have e2:(sg X).take (i+1)=(sg X).take i++[xN X.length (X.getD i []) (zM X i)]:=by
  rw[Wl];congr 1;simp[sg,hi]
 have hall:aU lev im (row (xN X.length (X.getD i []) (zM X i)))=.full:=by
  unfold row im
  first|rw[vB]|rw[xI]
  simp only[wH,Qy,if_false];rw[Nj (kG _ _ λi=>by simp)]
 unfold lT;rw[sP,wP,hcomp];simp only[eh];rw[show xK [a,some (.int X.length),d2,d3,d4,d5,some (row (X.getD i [])),d7,d8,d9,some (au ((sg X).take i)),some (row (zM X i))] 10=some (((sg X).take i).map row)from rfl];simp only[Qm];rw[Nj hlim];have hg:xJ lev im (row (xN X.length (X.getD i []) (zM X i))) 10 [a,some (.int X.length),d2,d3,d4,d5,some (row (X.getD i [])),d7,d8,d9,some (au ((sg X).take i)),some (row (zM X i))] [.full,.full,l2,.full,.full,l5,.no,.full,.full,.full,.full,l11]=some ([a,some (.int X.length),d2,d3,d4,d5,some (row (X.getD i [])),d7,d8,d9,some (au ((sg X).take i)),some (row (zM X i))],[.full,.full,l2,.full,.full,l5,.no,.full,.full,.full,.full,l11]):=by
  unfold xJ;rw[Nk (by simp[zU]),Nj hall]
 rw[hg];simp only[zf,Qd,Qc,zE,za,zd,aV];rw[e2];rw[show zM X (i+1)=X.getD i []from by simp[zM]];rw[show(au (List.take i (sg X)++[xN X.length (X.getD i []) (zM X i)]))=.lst ((List.take i (sg X)).map row++[row (xN X.length (X.getD i []) (zM X i))])from by simp[au]];rfl
def nN(km:Nat):Fn:=⟨2,12,(.seq (.asg 2 (.lst (.pair (.lrng (.var 1)) .unit))) (.seq (.asg 3 (.var 0)) (.seq (.asg 4 (.lit (.int 0))) (.seq (.while lU (lV km)) (.seq (.expr (.meth .reverse (.var 2) .unit)) (.seq (.asg 10 (.lst .unit)) (.seq (.asg 11 (.lst .unit)) (.seq (.forv 6 (.var 2) lT) (.ret (.var 10))))))))))⟩
def IH (hmx:∀c j:Int,0<=j->j<=100000->∃v:Int,cl km [.int c,.int j]=.ok (.int v))(hn:1<=n)(hn':n<=12)(cell:Int)(hlev:lev k=.no\/lev k=.full):
  ∃X,ip n X/\zB lev cl k (nN km) [.int cell,.int n]=.ok (au (sg X)):=by
 have hl:ak cl (.lrng (.var 1)) [some (.int cell),some (.int n),none,none,none,none,none,none,none,none,none,none]=.ok (row (yP n)):=by
  simp only[E6,za,zd,aI];rw[Nj (by unfold av;lia),xx (by simp;unfold av;lia),<-Jd];simp
 have hnew:bp [row (yP n)]=.ok (au [yP n]):=by rw[xx (by simp[av])];rfl
 have hnew0:bp []=.ok (row []):=rfl;obtain⟨de',lv',e,L,rest,turn,o5,o6,o7,o8,o9,l2,l5,l6,rfl,rfl,hl2,h1,h2,h3⟩:=Ja (c:=ak cl lU) (body:=aG lev cl (lV km)) (DP cell n) (n-1)
  (λt de lv ht p=>⟨by rw[sF p];simp;lia,Cz hmx (by lia) (by lia) p⟩)
  (λde lv p=>by rw[sF p];simp;lia) (n-1) 0 1000000 [some (.int cell),some (.int n),some (au [yP n]),some (.int cell),some (.int 0),none,none,none,none,none,none,none] [.full,.full,.full,.full,.full,.full,.full,.full,.full,.full,.full,.full]
  (by lia) (by lia) ⟨[yP n],cell,0,none,none,none,none,none,.full,.full,.full,rfl,rfl,Or.inl rfl,rfl,dC.one n,by lia,by lia⟩
 have hX:ip n L.reverse:=ip.of hn h2 (by lia);have hXl:=hX.len;refine⟨L.reverse,hX,?_⟩;generalize hXe:L.reverse=X at *
 have main:=yw (body:=λx de lv=>aG lev cl lT (de.set 6 (some x)) (lv.set 6 (aS x)))
  (λi de lv=>∃(p6:Option Dat) (m6 m11 m2:Lv),de=[some (.int cell),some (.int n),some (au X),some (.int rest),some (.int turn),o5,p6,o7,o8,o9,some (au ((sg X).take i)),some (row (zM X i))]/\lv=[.full,.full,m2,.full,.full,l5,m6,.full,.full,.full,.full,m11])
  (X.map row) (de:=[some (.int cell),some (.int n),some (au X),some (.int rest),some (.int turn),o5,o6,o7,o8,o9,some (au []),some (row [])]) (lv:=[.full,.full,.no,.full,.full,l5,l6,.full,.full,.full,.full,.full])
  ⟨o6,l6,.full,.no,rfl,rfl⟩ ?_
 .obtain ⟨de',lv',e3,p6,m6,m11,m2,rfl,rfl⟩:=main;unfold zB;rw[Nj (by rfl)];show zz (lev k) (aG lev cl (.seq _ (.seq _ (.seq _ (.seq _ (.seq _ (.seq _ (.seq _ (.seq _ _)))))))) [some (.int cell),some (.int n),none,none,none,none,none,none,none,none,none,none] [aS (.int cell),aS (.int n),.full,.full,.full,.full,.full,.full,.full,.full,.full,.full])=_;simp only[show ∀i:Int,aS (.int i)=.full from λi=>by simp[aS]];rw[zF];simp only[zE,wl,zg,zj,hl,aI,zh,hnew,aV];rw[yD (by simp[au,row])];simp only[zf,Qd,Qc];rw[zF];simp only[zE,za,zd,aV];rw[zT (by simp)];simp only[zf,Qd,Qc];rw[zF];simp only[zE,ze,aV];rw[zT (by simp)];simp only[zf,Qd,Qc];rw[zF,gk,e,zf,zF,E3];rw[show xK [some (.int cell),some (.int n),some (au L),some (.int rest),some (.int turn),o5,o6,o7,o8,o9,none,none] 2=some (L.map row)from rfl];simp only[];rw[Nj (by rcases hl2 with rfl|rfl<;>rfl),<-List.map_reverse,hXe];simp only[zf,Qd,Qc];rw[zF];simp only[zE,wl,zj,aI,zh,hnew0,aV];rw[yD (by simp[row])];simp only[zf,Qd,Qc];rw[zF];simp only[zE,wl,zj,aI,zh,hnew0,aV];rw[yD (by simp[row])];simp only[zf,Qd,Qc];rw[yg,wp];have hit:cQ (au X)=some (X.map row):=wn (by simp;unfold av;lia);have hfl:ax (au X)=false:=by simp[au]
  rw[show(Dat.lst (X.map row))=au X from rfl];simp only[za,zd,aV,hit,hfl];have hrel:(if false=true then[Lv.full,Lv.full,l2,Lv.full,Lv.full,l5,l6,Lv.full,Lv.full,Lv.full,Lv.full,Lv.full]else yJ (.var 2) [some (.int cell),some (.int n),some (au X),some (.int rest),some (.int turn),o5,o6,o7,o8,o9,some (row []),some (row [])] [Lv.full,Lv.full,l2,Lv.full,Lv.full,l5,l6,Lv.full,Lv.full,Lv.full,Lv.full,Lv.full])=[.full,.full,.no,.full,.full,l5,l6,.full,.full,.full,.full,.full]:=rfl;rw[hrel];have e3':=e3;rw[show(some (au []):Option Dat)=some (row [])from rfl]at e3';rw[e3',zf];have hg:wz .full (lev k)=true:=by rcases hlev with h|h<;>rw[h]<;>rfl
  rw[Qm,WD (by simp[sg])];simp[zz,cn,hg,au]
 .rintro i x de lv hx ⟨p6,m6,m11,m2,rfl,rfl⟩;have hi:i<X.length:=by
   have:=(Qa.mp hx).1;simpa using this
  have hxi:x=row (X.getD i []):=by
   rw[Qt,Qe hi]at hx;cases hx;rw[Qj,Qe hi];rfl
  subst hxi;refine⟨_,_,?_,some (row (X.getD i [])),.no,.no,m2,rfl,rfl⟩;simp only[Qd,Qc,show aS (row (X.getD i []))=.no from by simp[aS,row]];exact DO (by lia) hi (by lia)
end
end Lib
namespace Lib
end Lib
namespace Lib
section
def oM:List Lv:=[.no,.full,.full,.full,.full,.full]
end
end Lib
namespace Lib
end Lib
namespace Lib
end Lib
namespace Lib
section
variable{lev:Nat->Lv}{cl:Nat->List Dat->Rd}{k:Nat}
def ab(i:Int):Int:=if i<0 then -i else i
def Cy (v:Bool)(k:Lv):zz l (.ret (.bl v) k)=.ok (.bl v):=by simp[zz]
def mP:Fn:=⟨1,1,(.ret (.comp (.blt .list (.pair (.var 1) .unit)) (.var 0) (.lit (.bl true))))⟩
def Fu(x:List Int)(h:x.length<=av):yO .list [row x]=.ok (row x):=by
 show(match xa (row x)with
  |some xs=>bp xs
  |none=>.no)=_
 exact xx (by simpa using h)
def DN (h1:R.length<=av)(h2:∀x∈R,x.length<=av)(hj:de[j]?=some (some (au R)))(hm:de.length=m):ak cl (.comp (.blt .list (.pair (.var m) .unit)) (.var j) (.lit (.bl true))) de=.ok (au R):=by
 subst hm;rw[xB];simp only[xF hj,aI];rw[show cQ (au R)=some (R.map row)from wn (by simpa using h1)];simp only[];rw[yx row row R [] (λv _=>by simp) (λx hx=>?_) (by simpa using h1)]
 .simp[au]
 .have e:ak cl (.var de.length) (de++[some (row x)])=.ok (row x):=xF (by rw[Qi (Qk _)];simp);simp only[yF,zg,zj,e,aI,zh,Fu x (h2 x hx)]
def Ft (h1:R.length<=av)(h2:∀x∈R,x.length<=av)(hk:lev k=.no):zB lev cl k mP [au R]=.ok (au R):=by
 unfold zB;rw[Nj (by rfl)];show zz (lev k) (aG lev cl (.ret _) [some (au R)] _)=_;rw[zD,DN (j:=0) (m:=1) h1 h2 (de:=[some (au R)]) rfl rfl,hk];simp[zz,wz]
def mB(kx:Nat):Fn:=⟨2,3,(.ret (.cmp .eq (.call kx (.pair (.var 0) (.pair (.var 1) .unit))) (.lit (.int 0))))⟩
def DM (h:cl kx [a,b]=.ok (.int 0)):zB lev cl k (mB kx) [a,b]=.ok (.bl true):=by
 unfold zB;rw[Nj (by rfl)];show zz (lev k) (aG lev cl (.ret _) [some a,some b,none] _)=_;rw[zD];simp only[zI,zq,zg,zj,za,zd,ze,aI,zh,h,yU,aV];exact Cy _ _
end
end Lib
namespace Lib
section
variable{lev:Nat->Lv}{cl:Nat->List Dat->Rd}{k:Nat}
def lN(kw:Nat):Ex:=(.not (.and (.call kw (.pair (.var 0) .unit)) (.chain .le .lt (.lit (.int 0)) (.var 0) (.var 1))))
def mO(kw:Nat):Fn:=⟨2,2,(.ite (lN kw) .never .skip)⟩
def sd(kw:Nat):Fn:=⟨2,2,(.ite (lN kw) (.ret (.lit (.int 0))) .never)⟩
def sE (hw:∀d,cl kw [d]=.ok (.bl (isInt d)))(i m:Int):ak cl (lN kw) [some (.int i),some (.int m)]=.ok (.bl (!(decide (0<=i/\i<m)))):=by
 unfold lN;simp only[xR,y8,zq,zg,zj,gc,ze,zd,za,aI,zh,hw,show isInt (.int i)=true from rfl,mV,qc];by_cases h:0<=i
 .by_cases h':i<m<;>simp[h,h']
 .simp[h]
def Fs (hw:∀d,cl kw [d]=.ok (.bl (isInt d)))(h:0<=i/\i<m):zB lev cl k (mO kw) [.int i,.int m]=.ok .non:=by
 unfold zB;rw[Nj (by rfl)];show zz (lev k) (aG lev cl (.ite _ .never .skip) [some (.int i),some (.int m)] _)=_;rw[yu,sE hw,Nn h];rfl
def IG (hw:∀d,cl kw [d]=.ok (.bl (isInt d)))(h:¬(0<=i/\i<m)):zB lev cl k (sd kw) [.int i,.int m]=.ok (.int 0):=by
 unfold zB;rw[Nj (by rfl)];show zz (lev k) (aG lev cl (.ite _ (.ret _) .never) [some (.int i),some (.int m)] _)=_;rw[yu,sE hw,Ni h];simp only[Bool.not_false,aV,zD,ze];simp[zz]
def rM(kx:Nat):Fn:=⟨3,3,(.ret (.call kx (.pair (.var 1) (.pair (.bin .mul (.lit (.int 2)) (.blt .len (.pair (.var 0) .unit))) .unit))))⟩
def Fq (h:cl kx [.int i,.int ((2*R.length:Nat):Int)]=.ok (.int 0)):zB lev cl k (rM kx) [au R,.int i,.int m]=.ok (.int 0):=by
 have hlen:yO .len [au R]=.ok (.int R.length):=by simp[yO,xa,au]
 have m2:zJ .mul (.int 2) (.int R.length)=.ok (.int ((2*R.length:Nat):Int)):=by rw[yz _ _ (by decide)];simp
 unfold zB;rw[Nj (by rfl)];show zz (lev k) (aG lev cl (.ret _) [some (au R),some (.int i),some (.int m)] _)=_;rw[zD];simp only[zq,zg,zj,zt,yF,ze,zd,za,aI,zh,hlen,m2,h,aV];simp[zz]
def ly(kx:Nat)(m:Int):Fn:=⟨2,2,(.ret (.call kx (.pair (.var 0) (.pair (.var 1) (.pair (.lit (.int m)) .unit)))))⟩
def uK (h:cl kx [a,b,.int m]=.ok X)(hl:ax X=true\/lev kx=.full)(hk:ax X=true\/lev k=.full):zB lev cl k (ly kx m) [a,b]=.ok X:=by
 unfold zB;rw[Nj (by rfl)];show zz (lev k) (aG lev cl (.ret _) [some a,some b] _)=_;rw[zD];simp only[zq,zg,zj,ze,zd,za,aI,zh,h,aV];rcases hl with hl|hl
 .simp[zz,hl]
 .rw[gx hl];rcases hk with hk|hk
  .simp[zz,hk]
  .simp[zz,hk,wz]
def Cw(a lo hi:Ex)(de:aO):ak cl (.slB a lo hi) de=(ak cl a de).bind λx=>(ak cl lo de).bind λy=>match y with
  |.int i=>(ak cl hi de).bind λz=>match z with
   |.int j=>hZ x (some i) (some j)
   |_=>.no
  |_=>.no:=rfl
def Cv(x y:Dat)(ds:List Dat)(h:ds.length<=1000):hZ (.lst (x::ds++[y])) (some 1) (some (-1))=.ok (.lst ds):=by
 show bp (((x::ds++[y]).drop (cj (x::ds++[y]).length 0 (some 1))).take (cj (x::ds++[y]).length (x::ds++[y]).length (some (-1))-cj (x::ds++[y]).length 0 (some 1)))=_;have e1:cj (x::ds++[y]).length 0 (some 1)=1:=by unfold cj;simp
 have e2:cj (x::ds++[y]).length (x::ds++[y]).length (some (-1))=ds.length+1:=by unfold cj;simp;lia
 rw[e1,e2];simp only[Q0,List.drop_succ_cons,List.drop_zero,Nat.add_sub_cancel];rw[List.take_left,xx (by unfold av;lia)]
def DL(pl:List Pl):aY (pl.map aH)=true:=by
 induction pl with
 |nil=>rfl
 |cons a l ih=>rw[QT,gf,ih];simp[aH]
def lc(kn kr ka:Nat):Fn:=⟨3,3,(.seq (.expr (.call kn (.pair (.var 1) (.pair (.bin .mul (.lit (.int 2)) (.blt .len (.pair (.var 0) .unit))) .unit)))) (.ret (.slB (.call kr (.pair (.call ka (.pair (.var 0) (.pair (.var 2) .unit))) (.pair (.blt .len (.pair (.var 0) .unit)) (.pair (.var 1) (.pair (.var 2) .unit))))) (.lit (.int 1)) (.neg (.lit (.int 1))))))⟩
def DK {j:Nat}{pl:List Pl}(hp:pl.length<=1000)(hn:cl kn [.int j,.int ((2*R.length:Nat):Int)]=.ok .non)(ha:cl ka [au R,.int m]=.ok D)(hr:cl kr [D,.int R.length,.int j,.int m]=.ok (.lst (x::pl.map aH++[y])))(hk:lev k=.full):zB lev cl k (lc kn kr ka) [au R,.int j,.int m]=.ok (.lst (pl.map aH)):=by
 have hlen:yO .len [au R]=.ok (.int R.length):=by simp[yO,xa,au]
 have m2:zJ .mul (.int 2) (.int R.length)=.ok (.int ((2*R.length:Nat):Int)):=by rw[yz _ _ (by decide)];simp
 unfold zB;rw[Nj (by rfl)];show zz (lev k) (aG lev cl (.seq (.expr _) (.ret _)) [some (au R),some (.int j),some (.int m)] _)=_;generalize xk (lc kn kr ka) [au R,.int j,.int m]=lv0;rw[yg];have e1:aG lev cl (.expr (.call kn (.pair (.var 1) (.pair (.bin .mul (.lit (.int 2)) (.blt .len (.pair (.var 0) .unit))) .unit)))) [some (au R),some (.int j),some (.int m)] lv0=.next [some (au R),some (.int j),some (.int m)] lv0:=by
  show(ak cl (.call kn _) _).bindS _=_;simp only[zq,zg,zj,zt,yF,ze,zd,za,aI,zh,hlen,m2,hn,aV]
 rw[e1,zf,zD,Cw];simp only[zq,zg,zj,yF,wB,ze,zd,za,aI,zh,hlen,ha,hr];rw[Cv x y _ (by simpa using hp)];simp only[aV];have hl:∀(a b c:Ex) lv,cn lev (.slB a b c) (.lst (pl.map aH)) lv=.full:=λa b c lv=>by
  unfold cn;split
  .rfl
  .show aU lev (.slB a b c) (.lst (pl.map aH))=.full;show(if ax (.lst (pl.map aH))then Lv.full else if aY (pl.map aH)then .full else .top)=.full;rw[DL];simp
 rw[hl];simp[zz,hk,wz]
def BS(pl:List Pl):yy .ne (.lst (pl.map aH)) (.lst (pl.map aH))=.ok (.bl false):=by
 have h:yZ 12 (.lst (pl.map aH))=true:=by
  rw[show(12:Nat)=11+1 from rfl,vn,xu,Q6];intro d hd;obtain⟨p,_,rfl⟩:=Wi.mp hd;rfl
 show qF ((if yZ 12 (.lst (pl.map aH))&&yZ 12 (.lst (pl.map aH))then some (dt (.lst (pl.map aH)) (.lst (pl.map aH)))else none).map (!·))=_;rw[h,j7 12 _ h];rfl
end
end Lib
namespace Lib
section
variable{lev:Nat->Lv}{cl:Nat->List Dat->Rd}{k:Nat}
def lF:Sm:=(.ite (.or (.not (.isi .int (.var 1))) (.isi .bool (.var 1))) (.ret (.lit (.bl false))) .skip)
def i9:Fn:=⟨1,2,(.seq (.forv 1 (.var 0) lF) (.ret (.or (.isi .list (.var 0)) (.isi .tuple (.var 0)))))⟩
def uH {is:List Int}(hi:cQ d=some (is.map Dat.int))(ht:dY .list d=true\/dY .tuple d=true):zB lev cl k i9 [d]=.ok (.bl true):=by
 unfold zB;rw[Nj (by rfl)];show zz (lev k) (aG lev cl (.seq (.forv 1 _ lF) (.ret _)) [some d,none] _)=_;generalize xk i9 [d]=lv0;rw[yg,wp];simp only[zd,aV,hi];obtain⟨de',lv',e,q1,rfl⟩:=yw (body:=λx de lv=>aG lev cl lF (de.set 1 (some x)) (lv.set 1 (aS x))) (λ_ de _=>∃q1,de=[some d,q1]) (is.map Dat.int) (de:=[some d,none]) (lv:=if ax d then lv0 else yJ (.var 0) [some d,none] lv0) ⟨none,rfl⟩ (by
  rintro j x de lv hx ⟨q1,rfl⟩;obtain⟨i,_,rfl⟩:=Wi.mp (Qp hx);refine⟨[some d,some (.int i)],lv.set 1 (aS (.int i)),?_,some (.int i),rfl⟩;simp only[Qd,Qc];unfold lF;rw[yu];simp only[j9,xR,ja,zd,za,aI,show dY .int (.int i)=true from rfl,show dY .bool (.int i)=false from rfl,Q4,aV,yj])
 rw[e,zf,zD];rcases ht with h|h
 .simp only[j9,ja,zd,aI,h,aV];simp[zz]
 .cases h2:dY .list d with
  |true=>
   simp only[j9,ja,zd,aI,h2,aV];simp[zz]
  |false=>
   simp only[j9,ja,zd,aI,h2,h,aV];simp[zz]
def IF{α:Type}(l:List α):yO .all [.lst (l.map λ_=>Dat.bl true)]=.ok (.bl true):=by
 have h:j4 (l.map λ_=>Dat.bl true)=some true:=by
  induction l with
  |nil=>rfl
  |cons a l ih=>
   show(j4 (l.map λ_=>Dat.bl true)).map (true && ·)=_;rw[ih];rfl
 show(match (dX (.lst (l.map λ_=>Dat.bl true))).bind j4 with|some b=>Rd.ok (.bl b)|none=>.no)=_;rw[show(dX (.lst (l.map λ_=>Dat.bl true))).bind j4=some true from h]
def BR (h:Wk R b j=some (pl,σ)):pl≠[]:=by
 obtain⟨qs,l,_,_,c3,_⟩:=nT _ _ _ _ _ h;rw[c3];simp
end
end Lib
namespace Lib
end Lib
namespace Lib
section
def tr(G:Nat->Nat->Int):Nat->Nat->Int:=λi j=>G j i
end
end Lib
namespace Lib
section
variable{lev:Nat->Lv}{cl:Nat->List Dat->Rd}
theorem bB:∀(vs:List Nat) (lv:List Lv),(aR vs lv).length=lv.length
 |[],lv=>rfl
 |i::vs,lv=>by
  show(aR vs (lv.set i .no)).length=_;rw[bB vs,Wa]
def Fp:(yJ e de lv).length=lv.length:=by
 unfold yJ;split
 .unfold cu;split<;>rw[Wa,bB]
 .exact bB _ _
 .exact bB _ _
def DJ(j:Nat)(de:aO)(lv:List Lv):aG lev cl (.expr (.meth .pop (.var j) .unit)) de lv=match xK de j with
  |some ds=>if zU lv j&&decide (ds.length≠0)then .next (de.set j (some (.lst ds.dropLast))) lv else .no
  |none=>.no:=rfl
end
end Lib
namespace Lib
end Lib
end Vl
end Mini
namespace Mini
open PySem
end Mini
namespace R43
set_option tactic.hygienic false
open PySem L2 Mini
def f0:Fn:=Mini.Vl.Lib.qR
abbrev qdd(a:Str)(i:Nat)(N:List Str)(k:Nat)(f:Fn):bc:=⟨a,top i,N,N.take k,f,a⟩
abbrev d0:=qdd "is_whole" 11 ["thing"] 1 f0
def f1:Fn:=Mini.Vl.Lib.mv
abbrev d1:=qdd "is_place" 13 ["n","r","c"] 3 f1
def f2:Fn:=Mini.Vl.Lib.mr 1
abbrev d2:=qdd "road_over" 14 ["n","r","c","side"] 4 f2
def f3:Fn:=Mini.Vl.Lib.mO 0
abbrev d3:=qdd "need_road" 15 ["road","roads"] 2 f3
def f4:Fn:=Mini.Vl.Lib.mX
abbrev d4:=qdd "place_at" 16 ["n","road","stretch","t"] 2 f4
def f5:Fn:=Mini.Vl.Lib.mU
abbrev d5:=qdd "column_sums" 18 ["state","sums","told","row"] 1 f5
def f6:Fn:=Mini.Vl.Lib.mm
abbrev d6:=qdd "across_row" 20 ["row","total","told","sign"] 1 f6
def f7:Fn:=Mini.Vl.Lib.ml
abbrev d7:=qdd "down_row" 21 ["sums"] 1 f7
def f8:Fn:=Mini.Vl.Lib.mi 5 6 7
abbrev d8:=qdd "arrows_of" 22 ["state","across","down"] 1 f8
def f9:Fn:=Mini.Vl.Lib.lf
abbrev d9:=qdd "is_odd" 24 ["number"] 1 f9
def AY:Fn:=Mini.Vl.Lib.mR 9
abbrev fJ:=qdd "walked_row" 25 ["i","row"] 2 AY
def AX:Fn:=Mini.Vl.Lib.nv 10
abbrev fk:=qdd "walked_grid" 26 ["grid"] 1 AX
def AW:Fn:=Mini.Vl.Lib.mh 8 11
abbrev Br:=qdd "sides_of" 27 ["state","pair"] 1 AW
def AV:Fn:=Mini.Vl.Lib.mq 2
abbrev Bq:=qdd "beyond" 32 ["n","r","c","side","road","step"] 4 AV
def AU:Fn:=Mini.Vl.Lib.iN 13
abbrev Bm:=qdd "ends_at" 33 ["pair","r","c","mark","across","down","marks"] 4 AU
def AT:Fn:=Mini.Vl.Lib.nw 12 14
abbrev Bl:=qdd "all_ends" 34 ["state","mark","pair","ends","r","c"] 2 AT
def AS:Fn:=Mini.Vl.Lib.nQ
abbrev Bk:=qdd "trail" 35 ["ends","behind","start","told","both"] 3 AS
def AQ:Fn:=Mini.Vl.Lib.mE 4 16
abbrev Bj:=qdd "road_trail" 36 ["ends","n","k","mark","road","place"] 4 AQ
def AO:Fn:=Mini.Vl.Lib.lc 3 17 15
abbrev Bh:=qdd "way_over" 37 ["state","k","mark"] 3 AO
def AN:Fn:=Mini.Vl.Lib.ly 18 0
abbrev Bg:=qdd "way_beside" 38 ["state","k"] 2 AN
def AM:Fn:=Mini.Vl.Lib.mD 15 17
abbrev Bf:=qdd "links_over" 39 ["state","mark","n","ends"] 2 AM
def AL:Fn:=Mini.Vl.Lib.mC 20 0
abbrev Be:=qdd "links_beside" 40 ["state"] 1 AL
def AK:Fn:=Mini.Vl.Lib.gz
abbrev Bd:=qdd "_law_cell_at" 42 ["_law_script","_law_k"] 2 AK
def AJ:Fn:=Mini.Vl.Lib.mQ
abbrev Bc:=qdd "_law_mixed" 43 ["_law_cell","_law_k","_law_one"] 2 AJ
def AI:Fn:=Mini.Vl.Lib.kD
abbrev Bb:=qdd "_law_size" 44 ["_law_cell"] 1 AI
def AH:Fn:=Mini.Vl.Lib.nN 23
abbrev Ba:=qdd "_law_drawn" 45 ["_law_cell","_law_n","_law_rows","_law_rest","_law_turn","_law_below","_law_row","_law_m","_law_low","_law_digit","_law_signs","_law_ahead"] 2 AH
def AG:Fn:=Mini.Vl.Lib.nz
abbrev A9:=qdd "_law_sides" 46 ["_law_signs","_law_beside","_law_sides_here","_law_columns","_law_r","_law_total","_law_c","_law_odd","_law_left","_law_right","_law_above","_law_below","_law_some"] 2 AG
def AF:Fn:=Mini.Vl.Lib.nA
abbrev A8:=qdd "_law_start" 47 ["_law_n","_law_road","_law_t"] 2 AF
def AE:Fn:=Mini.Vl.Lib.mw
abbrev A7:=qdd "_law_beyond" 48 ["_law_n","_law_place","_law_side","_law_r","_law_c","_law_step"] 3 AE
def AD:Fn:=Mini.Vl.Lib.mn 27 28
abbrev A6:=qdd "_law_walk" 49 ["_law_sides_here","_law_n","_law_road","_law_place","_law_side","_law_places","_law_end"] 3 AD
def AC:Fn:=Mini.Vl.Lib.mP
abbrev A5:=qdd "_law_copy" 50 ["_law_rows"] 1 AC
def AB:Fn:=Mini.Vl.Lib.mB 36
abbrev oX:=qdd "_law_refused" 51 ["_law_signs","_law_k","e"] 2 AB
def AA:Fn:=⟨1,2,(.seq (.forv 1 (.var 0) (.ite (.or (.not (.isi .int (.var 1))) (.isi .bool (.var 1))) (.ret (.lit (.bl false))) .skip)) (.ret (.or (.isi .list (.var 0)) (.isi .tuple (.var 0)))))⟩
abbrev A4:=qdd "_law_wholes" 52 ["_law_found","_law_number"] 1 AA
def ik:Fn:=⟨1,12,(.seq (.asg 1 (.call 24 (.pair (.call 22 (.pair (.var 0) (.pair (.lit (.int 0)) .unit))) .unit))) (.seq (.asg 2 (.call 25 (.pair (.call 22 (.pair (.var 0) (.pair (.lit (.int 1)) .unit))) (.pair (.var 1) .unit)))) (.seq (.asg 3 (.call 26 (.pair (.var 2) (.pair (.lit (.bl true)) .unit)))) (.seq (.asg 4 (.comp (.call 29 (.pair (.var 3) (.pair (.var 1) (.pair (.bin .add (.bin .mul (.lit (.int 2)) (.var 12)) (.lit (.int 1))) .unit)))) (.rng (.lit (.int 0)) (.bin .mul (.lit (.int 2)) (.var 1)) (.lit (.int 1))) (.lit (.bl true)))) (.seq (.asg 5 (.comp (.bin .fdiv (.idx (.var 12) (.lit (.int 1))) (.lit (.int 2))) (.var 4) (.lit (.bl true)))) (.seq (.asg 6 (.call 30 (.pair (.var 2) .unit))) (.seq (.forv 7 (.rng (.lit (.int 0)) (.blt .min2 (.pair (.bin .mul (.lit (.int 2)) (.var 1)) (.pair (.lit (.int 10)) .unit))) (.lit (.int 1))) (.seq (.asg 8 (.bin .mod (.bin .add (.call 22 (.pair (.var 0) (.pair (.lit (.int 2)) .unit))) (.var 7)) (.bin .mul (.lit (.int 2)) (.var 1)))) (.seq (.asg 9 (.call 19 (.pair (.var 6) (.pair (.var 8) .unit)))) (.seq (.ite (.or (.not (.isi .list (.var 9))) (.or (.cmp .ne (.var 9) (.idx (.idx (.var 4) (.var 8)) (.lit (.int 0)))) (.not (.blt .all (.pair (.comp (.call 32 (.pair (.var 12) .unit)) (.var 9) (.lit (.bl true))) .unit))))) (.ret (.lit (.bl false))) .skip) (.expr (.meth .pop (.var 9) .unit)))))) (.seq (.forv 7 (.rng (.lit (.int 0)) (.lit (.int 2)) (.lit (.int 1))) (.seq (.asg 10 (.call 21 (.pair (.var 6) .unit))) (.seq (.ite (.or (.not (.isi .list (.var 10))) (.or (.cmp .ne (.var 10) (.var 5)) (.or (.not (.call 32 (.pair (.var 10) .unit))) (.cmp .ne (.var 6) (.var 2))))) (.ret (.lit (.bl false))) .skip) (.expr (.meth .clear (.var 10) .unit))))) (.seq (.asg 11 (.bin .mod (.call 22 (.pair (.var 0) (.pair (.lit (.int 3)) .unit))) (.bin .pow (.lit (.int 10)) (.lit (.int 29))))) (.ret (.and (.call 31 (.pair (.var 6) (.pair (.bin .sub (.neg (.lit (.int 1))) (.var 11)) .unit))) (.and (.call 31 (.pair (.var 6) (.pair (.bin .mul (.lit (.int 2)) (.var 1)) .unit))) (.call 31 (.pair (.var 6) (.pair (.bin .add (.bin .mul (.lit (.int 2)) (.var 1)) (.var 11)) .unit)))))))))))))))⟩
abbrev oW:=qdd "law" 53 ["_law_script","_law_n","_law_signs","_law_sides_here","_law_walks","_law_due","_law_handed","_law_turn","_law_k","_law_found","_law_told","_law_far"] 1 ik
def D:List bc:=[d0,d1,d2,d3,d4,d5,d6,d7,d8,d9,fJ,fk,Br,Bq,Bm,Bl,Bk,Bj,Bh,Bg,Bf,Be,Bd,Bc,Bb,Ba,A9,A8,A7,A6,A5,oX,A4,oW]
def C:Mini.Ctx:=⟨D.map (·.nm),[("WALKED",1),("BESIDE",0)],[("STEPS",[([85],-1,0),([82],0,1),([68],1,0),([76],0,-1)])]⟩
def x0:Fn:=⟨2,2,(.ite (.not (.and (.call 0 (.pair (.var 0) .unit)) (.chain .le .lt (.lit (.int 0)) (.var 0) (.var 1)))) (.ret (.lit (.int 0))) .never)⟩
abbrev fY:=qdd "need_road" 15 ["road","roads"] 2 x0
def x1:Fn:=⟨3,3,(.ret (.call 34 (.pair (.var 1) (.pair (.bin .mul (.lit (.int 2)) (.blt .len (.pair (.var 0) .unit))) .unit))))⟩
abbrev lE:=qdd "way_over" 37 ["state","k","mark"] 3 x1
def x2:Fn:=⟨2,2,(.ret (.call 35 (.pair (.var 0) (.pair (.var 1) (.pair (.lit (.int 0)) .unit)))))⟩
abbrev lC:=qdd "way_beside" 38 ["state","k"] 2 x2
def XD:List bc:=[fY,lE,lC]
def XN:List (Nat×Str):=[(34,"need_road"),(35,"way_over"),(36,"way_beside")]
def Q:Xc:=⟨"GyreError",["NoRoad"],["NoName","NoText","NoSize","NoState","NoSquare","NoTurn","Unlike"]⟩
def oJ:fq C Q XN fY:=⟨by decide +kernel,rfl,rfl,eU.ite (j:=0) rfl rfl (.not rfl rfl (.and2 rfl rfl (.call rfl (by kernel_rfl) (by kernel_rfl) rfl (.pair rfl rfl .v .unit)) rfl rfl (.chain rfl rfl .int rfl .v rfl .v))) rfl (by kernel_rfl) (by kernel_rfl)⟩
def oI:fq C Q XN lE:=⟨by decide +kernel,rfl,rfl,eU.call rfl (by kernel_rfl) (by kernel_rfl) rfl (.pair rfl rfl .v (.pair rfl rfl (.bin rfl .int rfl (.blt rfl (by kernel_rfl) (by kernel_rfl) rfl (.pair rfl rfl .v .unit))) .unit))⟩
def oH:fq C Q XN lC:=⟨by decide +kernel,rfl,rfl,eU.ret rfl (by kernel_rfl) (by kernel_rfl) rfl (.pair rfl rfl .v (.pair rfl rfl .v (.pair rfl rfl (.con (by kernel_rfl) (by kernel_rfl) (by kernel_rfl)) .unit)))⟩
def oK:i3 C Q XN oX:=⟨by decide +kernel,rfl,rfl,IsT.mk (y:=0) (i:=2) (cs:=[1,2,3,4,5,6,7]) rfl (by kernel_rfl) (by kernel_rfl) rfl (.pair rfl rfl .v (.pair rfl rfl .v .unit)) (by kernel_rfl) (by kernel_rfl) rfl (by kernel_rfl) (by kernel_rfl) (by kernel_rfl) rfl (by decide) rfl (by kernel_rfl) (by kernel_rfl) (by kernel_rfl) (by kernel_rfl)⟩
def ac {P:bc->Prop}(h:P a)(t:∀d∈l,P d):∀d∈a::l,P d:=Ve.mpr ⟨h,t⟩
set_option maxHeartbeats 0 in
def BQ:∀d∈D,ma C d\/i3 C Q XN d:=by
 unfold D;repeat' refine Ve.2 ⟨?_,?_⟩
 all_goals first|exact .inr oK|exact λ_ h=>(Q5 h).elim|(refine .inl ⟨by decide +kernel,rfl,rfl,?_⟩;repeat' first|exact .v|exact .int|exact .unit|refine .pair rfl rfl ?_ ?_|refine .bin rfl ?_ rfl ?_|refine .seq ?_ ?_|refine .one ?_|refine .ret rfl ?_|refine .call rfl ?_ ?_ rfl ?_|refine .cmp rfl rfl ?_ rfl ?_|refine .tup ?_|refine .str ?_|refine .blt rfl ?_ ?_ rfl ?_|exact .skip0|refine .ite rfl rfl ?_ ?_ ?_|refine .lst ?_|refine .and2 rfl rfl ?_ rfl rfl ?_|refine .expr rfl rfl ?_|refine .forv rfl ?_ rfl ?_ ?_|refine .rng1 ?_ rfl rfl ?_|refine .neg rfl ?_|refine .not rfl rfl ?_|exact .non|refine .meth rfl rfl ?_ rfl rfl ?_ ?_|refine .isi ?_ ?_ rfl rfl ?_|refine .chain rfl rfl ?_ rfl ?_ rfl ?_|refine .comp0 rfl ?_ ?_ rfl ?_|refine .asgC0 rfl ?_ rfl ?_ ?_ rfl ?_|refine .or2 rfl rfl ?_ rfl rfl ?_|exact .bl|refine .ife rfl rfl ?_ rfl ?_ rfl ?_|refine bO.«while» rfl rfl ?_ ?_|refine .con ?_ ?_ ?_|refine .meth0 rfl rfl rfl ?_|refine .dsel ?_ ?_ ?_ ?_ ?_ rfl ?_ ?_ rfl ?_ rfl ?_ rfl ?_ rfl ?_|refine .orN rfl rfl ?_ rfl ?_|refine .compE0 ?_ ?_ rfl rfl ?_ rfl ?_|exact .dict0|refine .dput rfl ?_ rfl ?_ rfl ?_|refine .dget rfl rfl ?_ rfl ?_|refine .unp rfl ?_ rfl ?_ rfl rfl ?_|exact .never|refine .asgCZ0 rfl ?_ ?_ ?_ rfl rfl rfl ?_ rfl ?_ rfl ?_|refine .aug rfl ?_ rfl rfl ?_|refine .dcon ?_ ?_ ?_ ?_ rfl ?_ ?_|refine .sel (j:=6) ?_ ?_ ?_ ?_ ?_ rfl ?_ ?_ ?_ rfl ?_ rfl ?_ ?_ ?_ rfl ?_ rfl ?_ rfl ?_ rfl ?_ rfl ?_ rfl ?_ rfl rfl rfl|refine .slB rfl ?_ rfl ?_ rfl ?_|refine .lrng ?_ ?_ rfl rfl ?_|refine .asgS rfl rfl ?_ rfl ?_ rfl ?_|refine .compT1 rfl ?_ ?_ rfl rfl ?_ rfl ?_|refine .comp1 rfl ?_ ?_ rfl rfl ?_ rfl ?_|refine .unp3 rfl ?_ rfl ?_ rfl ?_ rfl rfl ?_|refine .isi2 ?_ ?_ ?_ rfl ?_ ?_|refine .andN rfl rfl ?_ rfl ?_|refine .asg rfl rfl ?_ rfl ?_|refine .idx rfl rfl ?_ rfl ?_|kernel_rfl|decide)
def JG:∀d∈XD,fq C Q XN d:=ac oJ (ac oI (ac oH (λ_ h=>nomatch h)))
def JR:eX fY:=λ_ _ _ _ _ _=>lG (λ_ _=>rfl)
def JQ:eX lE:=λ_ _ _ _ _ _=>nX (λ_ _ _=>rfl)
def JP:eX lC:=λ_ _ _ _ _ _=>lG (λ_ _=>rfl)
def pk:∀d∈XD,eX d:=ac JR (ac JQ (ac JP (λ_ h=>nomatch h)))
set_option maxHeartbeats 0 in
def JS:∀d∈D,eX d:=by
 unfold D;repeat' refine Ve.2 ⟨?_,?_⟩
 all_goals first|exact λ_ _ _ _ _ _=>As (λ_=>rfl)|exact λ_ _ _ _ _ _=>lG (λ_ _=>rfl)|exact λ_ _ _ _ _ _=>nX (λ_ _ _=>rfl)|exact λ_ _ _ _ _ _=>Jz (λ_ _ _ _=>rfl)|exact λ_ h=>(Q5 h).elim
def dk {K:Qb}(X:K.In h)(G:h.Ns LO mg){kV:Value}(g:Q3 K LO d.nm=some (some (.ref a)))(l:K.lookup a=some ⟨oc,od,.func (Wt d.on d.on (wK d.st) (xg d.st) (zL d.st) .none kV dc pm an cd ct),sl⟩)(c:W2 K cd d.on=true)(k:Q7 K (.ref a)=true):vf K mg d:=⟨a,_,CZ l c k,QK X G g⟩
def mk{K:Qb}{w:LG}{h:LK}{mg:Str->Option Value}(X:K.In h)(G:h.Ns LO mg){cG u0 u1 u2 u3 u4 u5 u6 u7:Addr}{t0 t1:Tok}
  (hD:∀e∈D,vf K mg e) (hX:∀e∈XD,vf K mg e)
  (e0:Q3 K LO "WALKED"=some (some (.int 1 t0)))
  (e1:Q3 K LO "BESIDE"=some (some (.int 0 t1)))
  {sa0:Addr}(s0:Q3 K LO "STEPS"=some (some (.ref sa0))) (v0:iE K w sa0 [([85],-1,0),([82],0,1),([68],1,0),([76],0,-1)])
  (z:∀nm∈zy,Q3 K LO nm=some none)
  (xG:Q3 K LO "GyreError"=some (some (.ref cG)))
  (xg0:Q3 K LO "NoRoad"=some (some (.ref u0)))
  (xg1:Q3 K LO "NoName"=some (some (.ref u1)))
  (xg2:Q3 K LO "NoText"=some (some (.ref u2)))
  (xg3:Q3 K LO "NoSize"=some (some (.ref u3)))
  (xg4:Q3 K LO "NoState"=some (some (.ref u4)))
  (xg5:Q3 K LO "NoSquare"=some (some (.ref u5)))
  (xg6:Q3 K LO "NoTurn"=some (some (.ref u6)))
  (xg7:Q3 K LO "Unlike"=some (some (.ref u7)))
  (xE:Wq K cG [.type "ValueError",.type "Exception",.type "BaseException",.type "object"] "ValueError.__new__"=true)
  (xM:We K cG (.type "BaseException")=some true)
  (xV:Q3 K LO "ValueError"=some none)
  (xe0:Wq K u0 [.type "ValueError",.type "Exception",.type "BaseException",.type "object"] "ValueError.__new__"=true)
  (xa0:WL K (.ref u0) "__getattribute__"=some (some (.builtin "BaseException.__getattribute__")))
  (xb0:WL K (.ref u0) "__getattr__"=some none)
  (xc0:We K u0 (.type "BaseException")=some true)
  (fY:WL K (.ref u0) "__class__"=some (some (.builtin "object.__class__")))
  (xo0:We K u0 (.type "object")=some true)
  (xm0:We K u0 (.ref cG)=some true)
  (xv0:QC K (.ref u0) (.type "ValueError")=some true)
  (xk0_0:QC K (.ref u0) (.ref u0)=some true)
  (xk0_1:QC K (.ref u0) (.ref u1)=some false)
  (xk0_2:QC K (.ref u0) (.ref u2)=some false)
  (xk0_3:QC K (.ref u0) (.ref u3)=some false)
  (xk0_4:QC K (.ref u0) (.ref u4)=some false)
  (xk0_5:QC K (.ref u0) (.ref u5)=some false)
  (xk0_6:QC K (.ref u0) (.ref u6)=some false)
  (xk0_7:QC K (.ref u0) (.ref u7)=some false)
  : ((∀e∈D,vf K mg e)/\jN K w mg C/\∀nm∈zy,mg nm=none)/\(∀e∈XD,vf K mg e)/\∃G,fm K mg Q G:=by
 refine⟨⟨λd hd=>?_,⟨λnm i hi=>?_,λnm qq hi=>?_⟩,λnm hn=>?_⟩,λd hd=>?_,cG,QK X G xG,xE,xM,PySem.W.mg_none_of X G xV,λc x hx=>?_,λc x hx=>?_⟩
 .exact hD d hd
 .unfold C at hi;rw[QU]at hi;cases q0:nm==("WALKED":Str)with
  |true=>
   rw[q0]at hi;cases hi;rw[beq_iff_eq.mp q0];exact⟨t0,QK X G e0⟩
  |false=>
  rw[q0]at hi;rw[QU]at hi;cases q1:nm==("BESIDE":Str)with
  |true=>
   rw[q1]at hi;cases hi;rw[beq_iff_eq.mp q1];exact⟨t1,QK X G e1⟩
  |false=>
  rw[q1]at hi;cases hi
 .unfold C at hi;rw[QU]at hi;cases q0:nm==("STEPS":Str)with
  |true=>
   rw[q0]at hi;cases hi;rw[beq_iff_eq.mp q0];exact⟨sa0,QK X G s0,v0⟩
  |false=>
  rw[q0]at hi;cases hi
 .exact PySem.W.mg_none_of X G (z nm hn)
 .exact hX d hd
 .have hx':(["NoRoad","NoName","NoText","NoSize","NoState","NoSquare","NoTurn","Unlike"]:List Str)[c]?=some x:=hx
  match c,hx' with
  |0,h=>cases h;exact⟨u0,QK X G xg0⟩
  |1,h=>cases h;exact⟨u1,QK X G xg1⟩
  |2,h=>cases h;exact⟨u2,QK X G xg2⟩
  |3,h=>cases h;exact⟨u3,QK X G xg3⟩
  |4,h=>cases h;exact⟨u4,QK X G xg4⟩
  |5,h=>cases h;exact⟨u5,QK X G xg5⟩
  |6,h=>cases h;exact⟨u6,QK X G xg6⟩
  |7,h=>cases h;exact⟨u7,QK X G xg7⟩
  |_+8,h=>cases h
 .have hx':(["NoRoad"]:List Str)[c]?=some x:=hx
  match c,hx' with
  |0,h=>
   cases h;refine⟨u0,QK X G xg0,xe0,⟨xa0,xb0,xc0,fY,xo0⟩,xm0,xv0,λc' x' A' h1 h2=>?_⟩;have h3:(["NoRoad","NoName","NoText","NoSize","NoState","NoSquare","NoTurn","Unlike"]:List Str)[c']?=some x':=h1
   match c',h3 with
   |0,h3=>cases h3;rw[QK X G xg0]at h2;cases h2;exact xk0_0
   |1,h3=>cases h3;rw[QK X G xg1]at h2;cases h2;exact xk0_1
   |2,h3=>cases h3;rw[QK X G xg2]at h2;cases h2;exact xk0_2
   |3,h3=>cases h3;rw[QK X G xg3]at h2;cases h2;exact xk0_3
   |4,h3=>cases h3;rw[QK X G xg4]at h2;cases h2;exact xk0_4
   |5,h3=>cases h3;rw[QK X G xg5]at h2;cases h2;exact xk0_5
   |6,h3=>cases h3;rw[QK X G xg6]at h2;cases h2;exact xk0_6
   |7,h3=>cases h3;rw[QK X G xg7]at h2;cases h2;exact xk0_7
   |_+8,h3=>cases h3
  |_+1,h=>cases h
end R43
namespace R43
open Mini
def T:List Fn:=[f0,f1,f2,f3,f4,f5,f6,f7,f8,f9,AY,AX,AW,AV,AU,AT,AS,AQ,AO,AN,AM,AL,AK,AJ,AI,AH,AG,AF,AE,AD,AC,AB,AA,ik,x0,x1,x2]
open Vl Vl.Lib
def wC(k:Nat):Lv:=if k=5\/k=25\/k=29\/k=30 then .no else .full
abbrev CD(d:Nat):=j8 wC T d
def zR (h:T[k]?=some f)(ds:List Dat):CD (d+1) k ds=zB wC (CD d) k f ds:=by
 show j8 wC T (d+1) k ds=_;unfold j8;rw[h]
def H0(d:Nat)(x:Dat):CD (d+1) 0 [x]=.ok (.bl (isInt x)):=by rw[zR (f:=qR) rfl];exact Iu x
def H3 (d:Nat)(h:0<=i/\i<m):CD (d+2) 3 [.int i,.int m]=.ok .non:=by rw[zR (f:=mO 0) rfl];exact Fs (H0 d) h
def JV (d:Nat)(h:¬(0<=i/\i<m)):CD (d+2) 34 [.int i,.int m]=.ok (.int 0):=by rw[zR (f:=sd 0) rfl];exact IG (H0 d) h
def JU (d:Nat)(h:¬(0<=i/\i<((2*R.length:Nat):Int))):CD (d+3) 35 [au R,.int i,.int m]=.ok (.int 0):=by rw[zR (f:=rM 34) rfl];exact Fq (JV d h)
def JT (d:Nat)(h:¬(0<=i/\i<((2*R.length:Nat):Int))):CD (d+4) 36 [au R,.int i]=.ok (.int 0):=by rw[zR (f:=ly 35 0) rfl];exact uK (JU d h) (.inl rfl) (.inl rfl)
def H1 (d:Nat){c:Nat}(hr:r<n)(hc:c<n):CD (d+1) 1 [.int n,.int r,.int c]=.ok (.bl true):=by rw[zR (f:=mv) rfl];exact EU hr hc
def H2 (d:Nat){c:Nat}(hr:r<n)(hc:c<n)(e:Di):CD (d+2) 2 [.int n,.int r,.int c,zw e]=.ok (fy n ((r:Int),(c:Int)) e):=by rw[zR (f:=mr 1) rfl];exact ET hr hc (H1 d hr hc) e
def H4 (d:Nat){ρ:Nat}(hn:0<n)(hn':n<=12)(h:ρ<4*n):CD (d+1) 4 [.int n,.int ρ]=.ok (.tup [.int (bt n ρ).1.1,.int (bt n ρ).1.2,zw (bt n ρ).2]):=by rw[zR (f:=mX) rfl];exact GX hn hn' h
def H5 (d:Nat)(h:Sq R)(hn:R.length<=100):CD (d+1) 5 [au R]=.ok (au (kF R)):=by rw[zR (f:=mU) rfl];exact GC h hn rfl
def H6(d:Nat)(x:List Int)(hx:x.length<=100):CD (d+1) 6 [row x]=.ok (row (dA x)):=by rw[zR (f:=mm) rfl];exact Fk x hx rfl
def H7(d:Nat)(x:List Int)(hx:x.length<=100):CD (d+1) 7 [row x]=.ok (row (eG x)):=by rw[zR (f:=ml) rfl];exact Fj x hx rfl
def H8 (d:Nat)(h:Sq R)(hn:R.length<=12):CD (d+2) 8 [au R]=.ok (arr R.length (dR R) (eF R)):=by rw[zR (f:=mi 5 6 7) rfl];exact Fi h hn (H5 d h (by lia)) (H6 d) (H7 d) rfl rfl rfl
def H9(d:Nat)(n:Int):CD (d+1) 9 [.int n]=.ok (.bl (decide (n%2=1))):=by rw[zR (f:=lf) rfl];exact Fm n
def Kc (d:Nat)(hq:q<=100)(W:Nat->Nat->Int)(i:Nat):CD (d+2) 10 [.int i,row (xO q W i)]=.ok (row (xO q (wk W) i)):=by rw[zR (f:=mR 9) rfl];exact FA (H9 d) hq W i rfl
def By (d:Nat)(hp:p<=100)(hq:q<=100)(W:Nat->Nat->Int):CD (d+3) 11 [au (yA p q W)]=.ok (au (yA p q (wk W))):=by rw[zR (f:=nv 10) rfl];exact Ia hp W (Kc d hq W) rfl rfl
def Kb (d:Nat)(h:bL R)(hn:R.length<=12):CD (d+4) 12 [au R]=.ok (arr R.length (wk (dR R)) (wk (eF R))):=by
 rw[zR (f:=mh 8 11) rfl];exact Fh (H8 (d+1) h.sq hn) (By d (by lia) (by lia) _) (By d (by lia) (by lia) _) rfl rfl rfl
def Ka (d:Nat){c:Nat}(hr:r<n)(hc:c<n)(e:Di):CD (d+3) 13 [.int n,.int r,.int c,zw e]=.ok (zV n ((r:Int),(c:Int)) e):=by rw[zR (f:=mq 2) rfl];exact ES e (H2 d hr hc e)
def J9 (d:Nat)(H:bL R)(b:Bool)(r c:Nat)(hr:r<R.length)(hc:c<R.length):CD (d+4) 14 [arr R.length (wk (dR R)) (wk (eF R)),.int r,.int c,.int (dy b)]=.ok (kI R.length (cW R b) ((r:Int),(c:Int))):=by
 rw[zR (f:=iN 13) rfl];exact CC H b hr hc (λe=>Ka d hr hc e) rfl
abbrev EN(R:List (List Int))(b:Bool):Dat:=dS (kI R.length (cW R b)) (bJ R.length R.length 0)
def Bx (d:Nat)(H:bL R)(hn:R.length<=12)(b:Bool):CD (d+5) 15 [au R,.int (dy b)]=.ok (EN R b):=by
 rw[zR (f:=nw 12 14) rfl];exact Ib hn (Kb d H hn) (J9 d H b) rfl rfl
def J8 (d:Nat)(H:bL R)(hn:R.length<=12)(b:Bool)(hj:j<2*R.length)(hw:Wk R b j=some (pl,σ)):CD (d+1) 16 [EN R b,.int ((2*j+bN b:Nat):Int),aH (bt R.length (2*j+bN b)).1]=.ok (.lst (.int ((2*j+bN b:Nat):Int)::pl.map aH++[.int σ])):=by
 have hb:bN b=0\/bN b=1:=by cases b<;>simp[bN]
 obtain⟨h1,h2,h3⟩:=qV (n:=R.length) (ρ:=2*j+bN b) (by lia) (by lia);rw[zR (f:=nQ) rfl];exact HZ (by lia) hn (by lia) (nP H b) (B5 λ_ _=>rfl) (nO H b hj) h2 h3 hw rfl
def Bw (d:Nat)(H:bL R)(hn:R.length<=12)(b:Bool)(hj:j<2*R.length)(hw:Wk R b j=some (pl,σ)):CD (d+2) 17 [EN R b,.int R.length,.int j,.int (dy b)]=.ok (.lst (.int ((2*j+bN b:Nat):Int)::pl.map aH++[.int σ])):=by
 have hb:bN b=0\/bN b=1:=by cases b<;>simp[bN]
 rw[zR (f:=mE 4 16) rfl];exact DT b (H4 d (by lia) hn (by lia)) (J8 d H hn b hj hw) rfl rfl
def J5 (d:Nat)(H:bL R)(hn:R.length<=12)(b:Bool){L:Nat->Nat}{P:Nat->List Pl}(hL:∀j,j<2*R.length->Wk R b j=some (P j,((2*L j+bN b:Nat):Int))):CD (d+6) 20 [au R,.int (dy b)]=.ok (row ((QA (2*R.length)).map λj=>(L j:Int))):=by
 rw[zR (f:=mD 15 17) rfl];exact DS hn b (Bx d H hn b) rfl (P:=λj=>.int ((2*j+bN b:Nat):Int)::(P j).map aH) (λj hj=>Bw (d+3) H hn b hj (hL j hj)) rfl
def me(d:Nat)(ns:List Int)(i:Nat):∃c:Int,CD (d+1) 22 [.scr ns,.int i]=.ok (.int c):=by rw[zR (f:=gz) rfl];exact HX ns i
def J3(d:Nat)(c j:Int)(h:0<=j)(h':j<=100000):∃v:Int,CD (d+1) 23 [.int c,.int j]=.ok (.int v):=by rw[zR (f:=mQ) rfl];exact Fv c j h h'
def J2(d:Nat)(c:Int):∃n:Nat,1<=n/\n<=12/\CD (d+1) 24 [.int c]=.ok (.int n):=by rw[zR (f:=kD) rfl];exact Je c
def J1 (d:Nat)(hn:1<=n)(hn':n<=12)(cell:Int):∃R,bL R/\R.length=n/\CD (d+2) 25 [.int cell,.int n]=.ok (au R):=by
 rw[zR (f:=nN 23) rfl];obtain⟨X,hX,e⟩:=IH (lev:=wC) (k:=25) (J3 d) hn hn' cell (.inl rfl);have hXl:=hX.len;have hl:(sg X).length=n:=by rw[qU,hXl]
 exact⟨sg X,bL.of (BN X) λr c a b=>DB hX (by lia) (by lia),hl,e⟩
def J0 (d:Nat)(hR:Sq R)(hn:R.length<=12)(b:Bool):CD (d+1) 26 [au R,.bl b]=.ok (cx R b (bJ R.length R.length 0)):=by
 rw[zR (f:=nz) rfl];exact Ic hR hn b rfl
def JZ (d:Nat){ρ:Nat}(hn:0<n)(hn':n<=12)(h:ρ<4*n):CD (d+1) 27 [.int n,.int ρ]=.ok (.tup [aH (bt n ρ).1,zw (bt n ρ).2]):=by
 rw[zR (f:=nA) rfl];exact Ie hn hn' h
def JY(d:Nat){n:Nat}(hn:n<=12)(p:Pl)(e:Di):CD (d+1) 28 [.int n,aH p,zw e]=.ok (fK n p e):=by
 rw[zR (f:=mw) rfl];exact EV hn p e
def JX (d:Nat)(H:bL R)(hn:R.length<=12)(b:Bool)(hj:j<2*R.length)(hw:Wk R b j=some (pl,σ)):
  CD (d+2) 29 [cx R b (bJ R.length R.length 0),.int R.length,.int ((2*j+bN b:Nat):Int)]=.ok (.tup [.lst (pl.map aH),.int σ]):=by
 have hb:bN b=0\/bN b=1:=by cases b<;>simp[bN]
 rw[zR (f:=mn 27 28) rfl];exact EL (by lia) hn (by lia) (JZ d (by lia) hn (by lia)) (JY d hn) (nP H b) (B9 R b) (nO H b hj) hw rfl
def JW (d:Nat)(h1:R.length<=12)(h:Sq R):CD (d+1) 30 [au R]=.ok (au R):=by
 rw[zR (f:=mP) rfl];exact Ft (by unfold av;lia) (λx hx=>by rw[h x hx];unfold av;lia) rfl
theorem uJ:∀(k:Nat) (s:bQ) (acc pl:List Pl) (σ:Int),wN n t k s acc=some (pl,σ)->pl.length<=acc.length+k
 |0,_,_,_,_,h=>by cases h
 |k+1,s,acc,pl,σ,h=>by
  have h':(match b9 n t s with|some s'=>wN n t k s' (acc++[s'.1])|none=>some (acc,vW n t s))=some (pl,σ):=h;cases e:b9 n t s with
  |none=>rw[e]at h';cases h';lia
  |some s'=>
   rw[e]at h';have:=uJ k s' _ pl σ h';simp at this;lia
def sD (hn:R.length<=12)(h:Wk R b j=some (pl,σ)):pl.length<=1000:=by
 have:=uJ _ _ _ _ _ h;have h2:R.length*R.length<=12*12:=WV hn hn;simp at this;lia
def J7 (d:Nat)(H:bL R)(hn:R.length<=12)(b:Bool)(hj:j<2*R.length)(hw:Wk R b j=some (pl,σ)):CD (d+6) 18 [au R,.int j,.int (dy b)]=.ok (.lst (pl.map aH)):=by
 rw[zR (f:=lc 3 17 15) rfl];exact DK (sD hn hw) (H3 (d+3) (by lia)) (Bx d H hn b) (Bw (d+3) H hn b hj hw) rfl
def J6 (d:Nat)(H:bL R)(hn:R.length<=12)(hj:j<2*R.length)(hw:Wk R true j=some (pl,σ)):CD (d+7) 19 [au R,.int j]=.ok (.lst (pl.map aH)):=by
 rw[zR (f:=ly 18 0) rfl];exact uK (J7 d H hn true hj hw) (.inr rfl) (.inr rfl)
def J4 (d:Nat)(H:bL R)(hn:R.length<=12){L:Nat->Nat}{P:Nat->List Pl}(hL:∀j,j<2*R.length->Wk R true j=some (P j,((2*L j+bN true:Nat):Int))):CD (d+7) 21 [au R]=.ok (row ((QA (2*R.length)).map λj=>(L j:Int))):=by
 rw[zR (f:=mC 20 0) rfl];exact DR (J5 d H hn true hL) rfl rfl
def pM (d:Nat)(h:¬(0<=i/\i<((2*R.length:Nat):Int))):CD (d+5) 31 [au R,.int i]=.ok (.bl true):=by rw[zR (f:=mB 36) rfl];exact DM (JT d h)
def pL(d:Nat)(p:Pl):CD (d+1) 32 [aH p]=.ok (.bl true):=by rw[zR (f:=i9) rfl];exact uH (is:=[p.1,p.2]) rfl (.inr rfl)
def pK (d:Nat)(h:x.length<=1000):CD (d+1) 32 [row x]=.ok (.bl true):=by rw[zR (f:=i9) rfl];exact uH (is:=x) (wn (by rw[Qm];unfold av;lia)) (.inl rfl)
def i8(r:b7):Prop:=∃l,r=.ret (.bl true) l
def vZ (h:ak cl e de=.ok d)(hv:yt (.asg i e) X=none)(hl:lv.length=12)(k:∀lv,lv.length=12->i8 (aG wC cl X (de.set i (some d)) lv)):i8 (aG wC cl (.seq (.asg i e) X) de lv):=by
 rw[zH wC cl de lv hv,zE,h];simp only[aV];unfold vN;split
 .simp only[zf];exact k _ (by rw[Wa];exact hl)
 .simp only[zf];exact k _ (by rw[Wa,Fp];exact hl)
def kE:Ex:=(.bin .mod (.bin .add (.call 22 (.pair (.var 0) (.pair (.lit (.int 2)) .unit))) (.var 7)) (.bin .mul (.lit (.int 2)) (.var 1)))
def oN:Sm:=(.seq (.asg 9 (.call 19 (.pair (.var 6) (.pair (.var 8) .unit)))) (.seq (.ite (.or (.not (.isi .list (.var 9))) (.or (.cmp .ne (.var 9) (.idx (.idx (.var 4) (.var 8)) (.lit (.int 0)))) (.not (.blt .all (.pair (.comp (.call 32 (.pair (.var 12) .unit)) (.var 9) (.lit (.bl true))) .unit))))) (.ret (.lit (.bl false))) .skip) (.expr (.meth .pop (.var 9) .unit))))
def lO:Sm:=(.seq (.asg 8 kE) oN)
abbrev bC(m:Nat)(L:Nat->Nat)(P:Nat->List Pl):List Dat:=(QA m).map λj=>.tup [.lst ((P j).map aH),.int ((2*L j+1:Nat):Int)]
abbrev dF(m:Nat)(L:Nat->Nat):Dat:=row ((QA m).map λj=>(L j:Int))
def DI (H:bL R)(hn:R.length<=12)(hL:∀j,j<2*R.length->Wk R true j=some (P j,((2*L j+bN true:Nat):Int)))(hj:j<2*R.length)(d0 d1 d2 d3 d5 d7 d9 fJ fk:Option Dat)(lv:List Lv)(hl:lv.length=12):
  ∃q9 lv',lv'.length=12/\aG wC (CD 8) oN [d0,d1,d2,d3,some (.lst (bC (2*R.length) L P)),d5,some (au R),d7,some (.int j),d9,fJ,fk] lv=.next [d0,d1,d2,d3,some (.lst (bC (2*R.length) L P)),d5,some (au R),d7,some (.int j),q9,fJ,fk] lv':=by
 have hp:=sD hn (hL j hj);have h0:=BR (hL j hj);have c19:=(show CD 8 19 _=_ from J6 1 H hn hj (hL j hj));have hix:zN (.lst (bC (2*R.length) L P)) (.int (j:Int))=.ok (.tup [.lst ((P j).map aH),.int ((2*L j+1:Nat):Int)]):=by
  exact qQ (by simp[bC,hj])
 have hall:∀de:aO,de.length=12->ak (CD 8) (.var 9) de=.ok (.lst ((P j).map aH))->ak (CD 8) (.comp (.call 32 (.pair (.var 12) .unit)) (.var 9) (.lit (.bl true))) de=.ok (.lst ((P j).map λ_=>Dat.bl true)):=by
  intro de hde h9;rw[xB,h9,aI,wn (by rw[Qm];unfold av;lia)];show yi _ _ ((P j).map aH) []=_;rw[yx aH (λ_=>Dat.bl true) (P j) [] (λx _=>rfl) (λx _=>?_) (by unfold av;simp;lia)]
  .rfl
  .have hv:ak (CD 8) (.var 12) (de++[some (aH x)])=.ok (aH x):=by
    rcases de with _|⟨a0,_|⟨a1,_|⟨a2,_|⟨a3,_|⟨a4,_|⟨a5,_|⟨a6,_|⟨a7,_|⟨a8,_|⟨a9,_|⟨a10,_|⟨a11,_|⟨a12,_⟩⟩⟩⟩⟩⟩⟩⟩⟩⟩⟩⟩⟩<;>first|rfl|(simp at hde;done)
   simp only[zq,zg,zj,hv,aI,zh];exact pL 7 x
 unfold oN;rw[jj (d:=.lst ((P j).map aH)) (by simp only[zq,zg,zj,zd,za,aI,zh,c19]) (by rw[kC];split<;>rfl) rfl];simp only[Qd,Qc];rw[zH wC (CD 8) _ _ rfl,yu];simp only[j9,xR,ja,zI,yF,zg,zj,zW,ze,zd,za,aI,zh,show dY .list (.lst ((P j).map aH))=true from rfl,hix,Q4];rw[show ∀x y:Dat,zN (.tup [x,y]) (.int 0)=.ok x from λ_ _=>rfl];simp only[aI,BS];rw[hall _ rfl rfl];simp only[aI,zh,IF,Q4,aV,yj,zf];rw[DJ];rw[show ∀(a b c d e f g h i k l:Option Dat) (xs:List Dat),xK [a,b,c,d,e,f,g,h,i,some (.lst xs),k,l] 9=some xs from λ_ _ _ _ _ _ _ _ _ _ _ _=>rfl];simp only[];rw[Nj (by
  have ow:zU (lv.set 9 .full) 9=true:=by
   unfold zU;rw[QN (by lia)]
  rw[ow];simp;exact h0)]
 exact⟨_,_,by simp[hl],rfl⟩
def iU:Sm:=(.seq (.asg 10 (.call 21 (.pair (.var 6) .unit))) (.seq (.ite (.or (.not (.isi .list (.var 10))) (.or (.cmp .ne (.var 10) (.var 5)) (.or (.not (.call 32 (.pair (.var 10) .unit))) (.cmp .ne (.var 6) (.var 2))))) (.ret (.lit (.bl false))) .skip) (.expr (.meth .clear (.var 10) .unit))))
def DH (H:bL R)(hn:R.length<=12){P:Nat->List Pl}(hL:∀j,j<2*R.length->Wk R true j=some (P j,((2*L j+bN true:Nat):Int)))(d0 d1 d3 d4 d7 d8 d9 fJ fk:Option Dat)(lv:List Lv)(hl:lv.length=12):
  ∃q10 lv',lv'.length=12/\aG wC (CD 8) iU [d0,d1,some (au R),d3,d4,some (dF (2*R.length) L),some (au R),d7,d8,d9,fJ,fk] lv=.next [d0,d1,some (au R),d3,d4,some (dF (2*R.length) L),some (au R),d7,d8,d9,q10,fk] lv':=by
 have c21:=(show CD 8 21 _=_ from J4 1 H hn hL);have c32:=(show CD 8 32 _=_ from pK 7 (x:=(QA (2*R.length)).map λj=>(L j:Int)) (by simp;lia));unfold iU;rw[jj (d:=dF (2*R.length) L) (by simp only[zq,zg,zj,zd,za,aI,zh,c21]) (by rw[kC];split<;>rfl) rfl];simp only[Qd,Qc];rw[zH wC (CD 8) _ _ rfl,yu];simp only[j9,xR,ja,zI,zq,zg,zj,zd,za,aI,zh,show ∀x,dY .list (row x)=true from λ_=>rfl,DA,c32,Cj,Q4,aV,yj,zf];rw[EY];rw[show ∀(a b c d e f g h i k l:Option Dat) (xs:List Int),xK [a,b,c,d,e,f,g,h,i,k,some (row xs),l] 10=some (xs.map Dat.int)from λ_ _ _ _ _ _ _ _ _ _ _ _=>rfl];simp only[];rw[Nj (by
  unfold zU;rw[QN (by lia)])]
 exact⟨_,_,by simp[hl],rfl⟩
def Fo(ns:List Int):CD 9 33 [.scr ns]=.ok (.bl true):=by
 rw[zR (d:=8) (f:=ik) rfl];obtain⟨c0,h0⟩:=me 7 ns 0;obtain⟨c1,h1⟩:=me 7 ns 1;obtain⟨c2,h2⟩:=me 7 ns 2;obtain⟨c3,h3⟩:=me 7 ns 3;obtain⟨n,hn1,hn2,h4⟩:=J2 7 c0;obtain⟨R,H,rfl,h5⟩:=J1 6 hn1 hn2 c1;obtain⟨L,P,hL⟩:=Fw H true;have hw:∀j,j<2*R.length->Wk R true j=some (P j,((2*L j+bN true:Nat):Int)):=λj hj=>(hL j hj).2.2.2.2;have h0':CD 8 22 [.scr ns,.int 0]=.ok (.int c0):=h0;have h1':CD 8 22 [.scr ns,.int 1]=.ok (.int c1):=h1;have h2':CD 8 22 [.scr ns,.int 2]=.ok (.int c2):=h2;have h3':CD 8 22 [.scr ns,.int 3]=.ok (.int c3):=h3;have h26:=(show CD 8 26 [au R,.bl true]=_ from J0 7 H.sq hn2 true);have h30:=(show CD 8 30 [au R]=_ from JW 7 hn2 H.sq);have m2:zJ .mul (.int 2) (.int R.length)=.ok (.int ((2*R.length:Nat):Int)):=by rw[yz _ _ (by decide)];simp
 have hwk:∀d4:Option Dat,ak (CD 8) (.comp (.call 29 (.pair (.var 3) (.pair (.var 1) (.pair (.bin .add (.bin .mul (.lit (.int 2)) (.var 12)) (.lit (.int 1))) .unit)))) (.rng (.lit (.int 0)) (.bin .mul (.lit (.int 2)) (.var 1)) (.lit (.int 1))) (.lit (.bl true))) [some (.scr ns),some (.int R.length),some (au R),some (cx R true (bJ R.length R.length 0)),d4,none,none,none,none,none,none,none]=.ok (.lst (bC (2*R.length) L P)):=by
  intro d4;rw[xB];simp only[wA,ze,zt,zd,za,aI,m2,vJ (show 2*R.length<=100 by lia),xS];rw[gh 0 1 (2*R.length) (λj=>.tup [.lst ((P j).map aH),.int ((2*L j+1:Nat):Int)]) (λj _=>rfl) (λj hj=>?_) (by unfold av;lia)];have mj:zJ .mul (.int 2) (.int (j:Int))=.ok (.int (2*(j:Int))):=yz _ _ (by decide);have c:=(show CD 8 29 _=_ from JX 6 H hn2 true hj (hw j hj));rw[show((2*j+bN true:Nat):Int)=2*(j:Int)+1 from rfl]at c;rw[show(0+1*(j:Int))=(j:Int) by lia];simp only[Q0,QO,zt,zq,zg,zj,ze,zd,za,aI,zh,mj,zX,c];rfl
 have hdue:∀d5:Option Dat,ak (CD 8) (.comp (.bin .fdiv (.idx (.var 12) (.lit (.int 1))) (.lit (.int 2))) (.var 4) (.lit (.bl true))) [some (.scr ns),some (.int R.length),some (au R),some (cx R true (bJ R.length R.length 0)),some (.lst (bC (2*R.length) L P)),d5,none,none,none,none,none,none]=.ok (dF (2*R.length) L):=by
  intro d5;rw[xB];simp only[zd,za,aI];rw[wn (by rw[Qm,List.length_range];unfold av;lia)];show yi _ _ (bC (2*R.length) L P) []=_;unfold bC;rw[yx (λj=>Dat.tup [.lst ((P j).map aH),.int ((2*L j+1:Nat):Int)]) (λj=>.int (L j)) (QA (2*R.length)) [] (λx _=>rfl) (λj _=>?_) (by unfold av;simp;lia)]
  .simp only[dF,row,Wf];rfl
  .simp only[Q0,QO,zt,zW,ze,zd,za,aI];rw[show ∀x y:Dat,zN (.tup [x,y]) (.int 1)=.ok y from λ_ _=>rfl];simp only[aI];rw[wO _ _ (by decide) (by decide),show(((2*L j+1:Nat):Int))/2=(L j:Int) by lia]
 suffices hs:i8 (aG wC (CD 8) ik.body [some (.scr ns),none,none,none,none,none,none,none,none,none,none,none] [aS (.scr ns),.full,.full,.full,.full,.full,.full,.full,.full,.full,.full,.full]) by
  obtain⟨l,hs⟩:=hs;unfold zB;rw[Nj (by rfl)];show zz _ (aG wC (CD 8) ik.body [some (.scr ns),none,none,none,none,none,none,none,none,none,none,none] [aS (.scr ns),.full,.full,.full,.full,.full,.full,.full,.full,.full,.full,.full])=_;rw[hs];simp[zz]
 unfold ik;refine vZ (d:=.int R.length) (by simp only[zq,zg,zj,zd,ze,aI,zh,h0',h4]) rfl rfl λlv1 l1=>?_;simp only[Qd,Qc];refine vZ (d:=au R) (by simp only[zq,zg,zj,zd,za,ze,aI,zh,h1',h5]) rfl l1 λlv2 l2=>?_;simp only[Qd,Qc];refine vZ (d:=cx R true (bJ R.length R.length 0)) (by simp only[zq,zg,zj,Iv,zd,za,aI,zh,h26]) rfl l2 λlv3 l3=>?_;simp only[Qd,Qc];refine vZ (d:=.lst (bC (2*R.length) L P)) (hwk _) rfl l3 λlv4 l4=>?_;simp only[Qd,Qc];refine vZ (d:=dF (2*R.length) L) (hdue _) rfl l4 λlv5 l5=>?_;simp only[Qd,Qc];refine vZ (d:=au R) (by simp only[zq,zg,zj,zd,za,aI,zh,h30]) rfl l5 λlv6 l6=>?_;simp only[Qd,Qc];obtain⟨t,ht,hmin⟩:∃t:Nat,t<=24/\yO .min2 [.int ((2*R.length:Nat):Int),.int 10]=.ok (.int (t:Int)):=by
  rcases Nat.le_total (2*R.length) 10 with z|z
  .exact ⟨2*R.length,by lia,by simp only[yO];rw[Nk (by lia)]⟩
  .exact ⟨10,by lia,by simp only[yO];split<;>(congr 2<;>lia)⟩
 obtain⟨de',lv',e,k1,o7,o8,o9,rfl⟩:=yw (body:=λx de lv=>aG wC (CD 8) lO (de.set 7 (some x)) (lv.set 7 (aS x)))
  (λ_ de lv=>lv.length=12/\∃o7 o8 o9,de=[some (.scr ns),some (.int R.length),some (au R),some (cx R true (bJ R.length R.length 0)),some (.lst (bC (2*R.length) L P)),some (dF (2*R.length) L),some (au R),o7,o8,o9,none,none])
  (ym 0 1 t) (de:=[some (.scr ns),some (.int R.length),some (au R),some (cx R true (bJ R.length R.length 0)),some (.lst (bC (2*R.length) L P)),some (dF (2*R.length) L),some (au R),none,none,none,none,none]) (lv:=lv6) ⟨l6,none,none,none,rfl⟩ (by
   rintro i x de lv hx ⟨hl,o7,o8,o9,rfl⟩;have hi:i<t:=by
    have:=(Qa.mp hx).1;simpa using this
   rw[xL _ _ _ _ hi]at hx;cases hx;rw[show(0:Int)+1*(i:Int)=(i:Int) by lia];simp only[Qd,Qc];have hm:zJ .mod (.int (c2+(i:Int))) (.int ((2*R.length:Nat):Int))=.ok (.int ((c2+(i:Int)) % ((2*R.length:Nat):Int))):=xw _ _ (by lia);obtain⟨j,hj⟩:=Wh (Vy (c2+(i:Int)) (show((2*R.length:Nat):Int)≠0 by lia));have hjl:=Int.emod_lt_of_pos (c2+(i:Int)) (show(0:Int)<((2*R.length:Nat):Int) by lia);rw[hj]at hjl hm;obtain⟨q9,lv',k1,e⟩:=DI H hn2 hw (j:=j) (by lia) (some (.scr ns)) (some (.int R.length)) (some (au R)) (some (cx R true (bJ R.length R.length 0))) (some (dF (2*R.length) L)) (some (.int i)) o9 none none ((lv.set 7 (aS (.int i))).set 8 .full) (by simp[hl]);refine⟨_,lv',?_,k1,some (.int i),some (.int j),q9,rfl⟩;unfold lO;rw[vp (d:=.int j) (by
    unfold kE;simp only[zt,zq,zg,zj,ze,zd,za,aI,zh,h2',zX,m2,hm]) (by simp) rfl]
   simp only[Qd,Qc];exact e)
 have hfor:aG wC (CD 8) (.forv 7 (.rng (.lit (.int 0)) (.blt .min2 (.pair (.bin .mul (.lit (.int 2)) (.var 1)) (.pair (.lit (.int 10)) .unit))) (.lit (.int 1))) lO) [some (.scr ns),some (.int R.length),some (au R),some (cx R true (bJ R.length R.length 0)),some (.lst (bC (2*R.length) L P)),some (dF (2*R.length) L),some (au R),none,none,none,none,none] lv6=.next [some (.scr ns),some (.int R.length),some (au R),some (cx R true (bJ R.length R.length 0)),some (.lst (bC (2*R.length) L P)),some (dF (2*R.length) L),some (au R),o7,o8,o9,none,none] lv':=by
  rw[wp];simp only[wA,ze,yF,zg,zj,zt,zd,za,aI,zh,m2,hmin,vJ (show t<=100 by lia),aV,xS,wm,xy,if_true];exact e
 refine(show i8 (aG wC (CD 8) (.seq (.forv 7 _ lO) (.seq (.forv 7 _ iU) _)) _ lv6)from ?_);rw[zH wC (CD 8) _ _ rfl,hfor,zf];obtain⟨de2,lv2,e2,k2,p7,p10,rfl⟩:=yw (body:=λx de lv=>aG wC (CD 8) iU (de.set 7 (some x)) (lv.set 7 (aS x)))
  (λ_ de lv=>lv.length=12/\∃p7 p10,de=[some (.scr ns),some (.int R.length),some (au R),some (cx R true (bJ R.length R.length 0)),some (.lst (bC (2*R.length) L P)),some (dF (2*R.length) L),some (au R),p7,o8,o9,p10,none])
  (ym 0 1 2) (de:=[some (.scr ns),some (.int R.length),some (au R),some (cx R true (bJ R.length R.length 0)),some (.lst (bC (2*R.length) L P)),some (dF (2*R.length) L),some (au R),o7,o8,o9,none,none]) (lv:=lv') ⟨k1,o7,none,rfl⟩ (by
   rintro i x de lv hx ⟨hl,p7,p10,rfl⟩;obtain⟨q10,lv3,k3,e3⟩:=DH H hn2 hw (some (.scr ns)) (some (.int R.length)) (some (cx R true (bJ R.length R.length 0))) (some (.lst (bC (2*R.length) L P))) (some x) o8 o9 p10 none (lv.set 7 (aS x)) (by simp[hl]);exact⟨_,_,e3,k3,some x,q10,rfl⟩)
 have hfor2:aG wC (CD 8) (.forv 7 (.rng (.lit (.int 0)) (.lit (.int 2)) (.lit (.int 1))) iU) [some (.scr ns),some (.int R.length),some (au R),some (cx R true (bJ R.length R.length 0)),some (.lst (bC (2*R.length) L P)),some (dF (2*R.length) L),some (au R),o7,o8,o9,none,none] lv'=.next [some (.scr ns),some (.int R.length),some (au R),some (cx R true (bJ R.length R.length 0)),some (.lst (bC (2*R.length) L P)),some (dF (2*R.length) L),some (au R),p7,o8,o9,p10,none] lv2:=by
  rw[wp];simp only[wA,ze,aI];rw[show kT (.int 0) (.int 2) (.int 1)=.ok (.tup (ym 0 1 2))from vJ (n:=2) (by lia)];simp only[aV,xS,wm,xy,if_true];exact e2
 rw[zH wC (CD 8) _ _ rfl,hfor2,zf];have hpw:zJ .pow (.int 10) (.int 29)=.ok (.int (10^29)):=nH 10 29 (by decide);obtain⟨f,hf0,hfm⟩:∃f:Int,0<=f/\zJ .mod (.int c3) (.int (10^29))=.ok (.int f):=⟨c3%10^29,Vy _ (by decide),xw _ _ (by decide)⟩;refine vZ (d:=.int f) (by simp only[zt,zq,zg,zj,ze,zd,aI,zh,h3',hpw,hfm]) rfl k2 λlv7 l7=>?_;simp only[Qd,Qc];have a2:=(show CD 8 31 [au R,.int ((2*R.length:Nat):Int)]=_ from pM 3 (R:=R) (by lia));have a3:=(show CD 8 31 [au R,.int (-1-f)]=_ from pM 3 (R:=R) (i:=-1-f) (by lia));have a4:=(show CD 8 31 [au R,.int (((2*R.length:Nat):Int)+f)]=_ from pM 3 (R:=R) (i:=((2*R.length:Nat):Int)+f) (by lia));rw[zD];simp only[y8,zq,zg,zj,wB,zt,ze,zd,za,aI,zh,m2,yG,zX,a2,a3,a4];exact⟨_,rfl⟩
def pure(ns:List Int)(_:ns.length<=63):∃m,yR (D.map (·.fn)++XD.map (·.fn)) 9 33 [.rol (ns.map Wd.int)] []=.ok (.bl true) m:=E7 wC T 9 33 ns (Fo ns)
end R43
namespace Mini
open PySem PySem.Spec PyProof.Rows L2
def BP {run:Value->List Value->Sem Value}{K:LB->Qb}(e:∀P,as=(K P).map (·.1))(h:Vx q loose XP (λw h=>(K w.params).In h) r d kwd run):PySem.W.WalkX q loose XP (PySem.W.X.obsZ as) (PySem.W.X.valZ K n t) r d kwd run:=
 λw s₀ s₁ mg mb G y a o pm cd doc dV kV h1 h2 h3 h4 h5 h6 args vals as' L p1 p2 p3 p4 p5=>h w s₀ s₁ mg mb G (PySem.W.InK.keeps (K:=K) w _ _ (PySem.W.X.z_facts e y).2.1 L.keeps) a o pm cd doc dV kV h1 h2 h3 h4 h5 h6 args vals as' p1 p2 p3 p4 p5
end Mini
namespace R43
open PySem L2 Mini PySem.W
def JN (X:(K P).In h)(G:h.Ns LO mg)(g:nsIn (K P) LO d.nm=some (some (.ref a)))(l:(K P).lookup a=some (fO d.on d.st m c))(k:codeIn (K P) (.ref c) d.on=true):vf (K P) mg d:=
 dk X G g l k (by show(match (K P).lookup a with|some ⟨_,_,.func _,_⟩=>true|some ⟨_,_,.cls _,_⟩=>_|_=>false)=true;rw[l];rfl)
def AZ (X:(K P).In h)(G:h.Ns LO mg){l:List (bc×Addr×Addr×Value)}(e:l.map (λx=>(nsIn (K P) LO x.1.nm,(K P).lookup x.2.1,codeIn (K P) (.ref x.2.2.1) x.1.on))=l.map λx=>(some (some (.ref x.2.1)),some (fO x.1.on x.1.st x.2.2.2 x.2.2.1),true)):∀d∈l.map (·.1),vf (K P) mg d:=λd hd=>by
 obtain⟨x,hx,rfl⟩:=Wi.mp hd;have q:=List.map_inj_left.mp e x hx;exact JN X G (Nm (·.1) q) (Nm (·.2.1) q) (Nm (·.2.2) q)
def lD:List (bc×Addr×Addr×Value):=[(d0,137,136,m0),(d1,144,143,m1),(d2,151,150,m1),(d3,158,157,m1),(d4,165,164,m1),(d5,170,169,m2),(d6,177,176,m3),(d7,182,181,m3),(d8,187,186,m3),(d9,194,193,m4),(fJ,199,198,m4),(fk,204,203,m4),(Br,211,210,m4),(Bq,223,222,m5),(Bm,228,227,m5),(Bl,235,234,m5),(Bk,242,241,m5),(Bj,249,248,m5),(Bh,256,255,m5),(Bg,263,262,m5),(Bf,268,267,m5),(Be,275,274,m5),(Bd,282,281,m6),(Bc,289,288,m6),(Bb,296,295,m6),(Ba,301,300,m6),(A9,306,305,m6),(A8,313,312,m6),(A7,320,319,m6),(A6,325,324,m6),(A5,330,329,m6),(oX,337,336,m6),(A4,344,343,m6),(oW,349,348,m6)]
def lX:List (bc×Addr×Addr×Value):=[(fY,158,157,m1),(lE,256,255,m5),(lC,263,262,m5)]
section
variable(P:LB)
def zb:∀nm∈zy,nsIn (K P) LO nm=some none:=(List.map_inj_left (g:=λ_=>some none)).1 (by kernel_rfl)
end
end R43
open PySem PySem.W PyProof.Rows
set_option maxRecDepth 100000 in
theorem PySem.Challenge.cw_loopgyre_k43_ways_and_links_beside_holds : PySem.Challenge.rw_loopgyre_k43_ways_and_links_beside.Holds := by
 w_on;o_law
 refine holds_openX (q:=R43.qv) (loose:=R43.eE) (Xt:=R43.Xt) (XP:=XL R43.qv []) (Yf:=X.obsZ R43.as) (Ya:=X.valZ R43.K 350 655) (N:=6330) R43.hl (λs e=>xl_of s (QD.mp e).1) XL.keeps (by rfl) (by rfl) (by rfl) (λs e=>recFacts_of (QD.mp e).2) (by rfl) (by assumption) (by decide +kernel) ⟨rfl,rfl,rfl,rfl,rfl,by decide +kernel⟩ ?hw ?hc
 case hw=>w_witness2
 refine Mini.BP (K:=R43.K) (λ_=>rfl) ?_;refine Mini.Bz (l:=PySem.Challenge.rw_loopgyre_k43_ways_and_links_beside) (D:=R43.D) (XD:=R43.XD) (C:=R43.C) (Q:=R43.Q) (xn:=R43.XN) (k:=9) (i:=33) (dl:=R43.oW) (x:="_law_script") (n:=63) rfl (by decide) rfl ⟨rfl,by decide,by decide⟩ (λw h Y=>Y) rfl rfl R43.BQ R43.JG R43.JS R43.pk rfl rfl rfl ?F R43.pure
 case F=>
  intro w mg fa h KX G hmg;exact R43.mk KX G (t0:=455) (t1:=457) (cG:=24) (u0:=92) (u1:=128) (u2:=116) (u3:=104) (u4:=44) (u5:=56) (u6:=68) (u7:=80) (R43.AZ KX G (l:=R43.lD) (by kernel_rfl)) (R43.AZ KX G (l:=R43.lX) (by kernel_rfl)) (by kernel_rfl) (by kernel_rfl) (sa0:=212) (by kernel_rfl) (Mini.JO (a:=212) (b1:=213) (b2:=214) (b3:=215) (b4:=216) (t1:=459) (t2:=463) (t3:=466) (t4:=469) (ep:=4) (r1:=461) (z1:=462) (n1:=0) (o1:=none) (l1:=#[]) (r2:=464) (z2:=465) (n2:=0) (o2:=none) (l2:=#[]) (r3:=467) (z3:=468) (n3:=0) (o3:=none) (l3:=#[]) (r4:=470) (z4:=472) (n4:=0) (o4:=none) (l4:=#[]) (e1:=PyData.keyHash w.params ⟨⟨[85]⟩⟩) (e2:=PyData.keyHash w.params ⟨⟨[82]⟩⟩) (e3:=PyData.keyHash w.params ⟨⟨[68]⟩⟩) (e4:=PyData.keyHash w.params ⟨⟨[76]⟩⟩) rfl (by kernel_rfl) (by kernel_rfl) (by kernel_rfl) (by kernel_rfl) (by kernel_rfl) rfl rfl rfl rfl) (R43.zb w.params) (by kernel_rfl) (by kernel_rfl) (by kernel_rfl) (by kernel_rfl) (by kernel_rfl) (by kernel_rfl) (by kernel_rfl) (by kernel_rfl) (by kernel_rfl) (by kernel_rfl) (by kernel_rfl) (by kernel_rfl) (by kernel_rfl) (by kernel_rfl) (by kernel_rfl) (by kernel_rfl) (by kernel_rfl) (by kernel_rfl) (by kernel_rfl) (by kernel_rfl) (by kernel_rfl) (by kernel_rfl) (by kernel_rfl) (by kernel_rfl) (by kernel_rfl) (by kernel_rfl) (by kernel_rfl) (by kernel_rfl)
