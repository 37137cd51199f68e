import PyProof.Rows.All
import Wide.All
import OpenK.AllK
import Wide.FinOn
import Lean
import PyProof.EqAt
import PyProof.EqKinds
import PyProof.NeKinds
import PyProof.TupleCall
import OpenK.KOwn
import PyProof.WalkInts
import KE.KIsAll
import KE.RegKIsAll
import PyProof.ExcAttrAll.ValueError
import OpenK.KMake
import PyProof.ExcInit
import PySem.Challenge.RW_loopgyre_k23_no_sides
open PySem renaming Scope→K9,Params→La,Program→Lb,World→Lc,Heap→Ld,mainGlobals→Lf,bootBuiltins→Lg,Around→Lh,GenState→Lj,Drawn→Lk,Model→Ll,wpAny→Lm,model→Ln,backTo→Lo,starEach→Lp,wpAny_mono→Lq,wpAny_truthy_bool→Lr,wpAny_execs_nil→Ls,wpAny_execs_cons→Lu,swapsWith→Lw,assignEach→Lx,wpAny_bind→Ly,wpAny_holding→Lz,wpAny_standAt→LA,wpAny_passesOwn→LB,letOwnedTupleGo→LC,wpAny_pure→LF,wpAny_pyIter_list→LG,foldedSetIterable→LH,binaryOp→LI,compareOp→LJ,CmpOp→LK,behindInMarks→LL,sizeLine_eq→LM,attributeBase→LN,recursionLimit→LO,cLine→LP,FuncData→LQ,BindsTo→LR,codeAny→LS,wpAny_call→LU,codeAny_mono→LV,wpAny_Call_Name_kw→LW,NameKind→LX,bindL→LY,bindC→LZ,leaving→L4,cellsFrom→L5,codeAny_call_function→L6,wpAny_newFunctionEnv_cells→L7,concat_meets→L8,noFill_tuple_add→L9,seq_tuple_add→Ma,IsPart→Mb,wpAny_field→Mc,getItem→Md,wpAny_newObj_type→Mf,seqIndex?→Mg,seqIndex_of→Mh,seqIndex_neg→Mi,sliceBounds→Mk,keywordEach→Ml,Keyword→Mm,call_meets→Mn,callerA→Mp,pushCells→Mq,pushCells_keeps→Mr,newFunctionEnv→Ms,relabel→Mt,notedBy→Mu,noteFrame→Mv,wpAny_comprehension_free→Mw,OsState→My,codeAny_call_builtin→MB,isInstance→MC,wpAny_loadPart_at→MF,onTheHeap→MG,callGetattribute→MH,excClassObj→MI,wpAny_isSubtype_exc→MJ,ExcBaseFacts→ML,wpAny_setField→MM
open PyProof.Rows renaming AllBare→Li,subscriptTail_builtinR→Mj,IntsAre→Mo,Keyed→Mx
open PySem.W renaming mroIn→Mz,looks_mroIn→MA,findIn→MD,looks_findIn→ME,notCls→MK
open List renaming getElem?_eq_some_iff→Qa,getElem?_eq_getElem→Qc,set_cons_zero→Qd,set_cons_succ→Qe,getD_eq_getElem?_getD→Qf,getElem?_set_ne→Qg,mem_cons_of_mem→Ql,size_toArray→Qm,getElem?_map→Qn,getElem?_append_right→Qo,getElem?_eq_none→Qq,mem_cons→Qr,getElem?_append_left→Qs,nodup_append→Qt,replicate→Qv,mem_append_right→Qw,length_map→Qx,getElem?_set→Qy,mem_append→Qz,nodup_nil→QB,mem_of_getElem?→QC,getElem_mem→QE,all_eq_true→QF,nil_append→QG,mem_cons_self→QH,range→QI,mem_map→QM,mem_singleton→QN,getElem?_set_self→QO,nodup_cons→QP,append_nil→QU,lookup_cons→QV,cons_append→QW,mem_append_left→QY,replicate_succ→Q0,mem_range→Q3,length_append→Q4,take_of_length_le→Q9,map_map→Wa,reverse_cons→We,flatten_cons→Wf,map_cons→Wg,length_cons→Wh,getElem?_eq_none_iff→Wk,take_add_one→Wl,all_cons→Wm,length_set→Wp,ext_getElem?→Wr,forall_mem_cons→Wu,not_mem_nil→Wv,mem_or_eq_of_mem_set→Wx,set_eq_of_length_le→Wz,getElem?_replicate→WD,all_map→WE,dropLast_eq_take→WF,any_eq_true→WH,map_congr_left→WM,getElem?_range→WN,filterMap_cons→WO,drop_drop→WR,append_assoc→WV,getElem_inj→WY,range_succ_eq_map→WZ,of_mem_zip→W3,set_append_right→W4,mem_iff_getElem→W7,getD_cons_zero→Vb,mem_filterMap→Vc,all_eq_false→Ve,eraseIdxIfInBounds_toArray→Vh,length_take→Vi,eq_nil_of_length_eq_zero→Vj,sum_append→Vm,mem_filter→Vn,length_nil→Vo,drop_eq_getElem_cons→Vt,getElem?_cons_zero→Vw,getElem?_cons_succ→Vx,map_nil→Vy
open PySem.W renaming Frag→Qb,kitOne→QA,keepIn→QK,mg_of→Q5,nsIn→Q6,fnOf→Wc,kia_one→Wj,mroIn→Ww,findIn→WA,codeIn→WB,cellsFrom_some→WC,WalkO→Vq
open Nat renaming lt_of_lt_of_le→Qh,le_refl→Qk,le_trans→Qp,ne_of_lt→QL,lt_irrefl→QZ,add_right_comm→Wo,lt_succ_self→WI,ne_of_gt→WQ,le_succ→WX,le_of_lt→W1,le_of_eq→W2,lt_succ_of_lt→Vg,zero_le→Vk,lt_succ_iff_lt_or_eq→Vv
open PySem.Heap renaming get?_push_of_some→Qi,lt_size→Qu,get?_push_size→QT,get?_update_other→Wb,get?_update_self→WG,get?_none_of_le→WJ,size_push→WS,SameBut→W0,MadeExcOf→W8
open Bool renaming and_eq_true→Qj,and_eq_true_iff→QD,false_eq_true→QR,not_true→Q8,false_ne_true→Wi,not_eq_true'→Ws,or_eq_true→WK,and_false→WT,beq_eq_decide_eq→W6,or_eq_false_iff→W9,eq_iff_iff→Vp,not_false→Vr,false_and→Vs
open Option renaming map_some→QJ,bind_eq_some_iff→QS,map_eq_some_iff→QX,bind_some→Wn,isSome_iff_exists→Wy,getD_some→WW,toList_some→Va
open Int renaming emod_two_eq→Wq,emod_lt_of_pos→WU,emod_nonneg→W5,fdiv_eq_ediv_of_nonneg→Vu
open Array renaming getElem?_eq_some_iff→Wt,length_toList→WL,toList→Vd,getElem?_setIfInBounds_ne→Vf,getElem?_toList→Vz
set_option Elab.async false
set_option linter.all false
set_option maxRecDepth 100000
set_option genSizeOf false
set_option maxHeartbeats 0
set_option tactic.hygienic false
set_option bootstrap.genMatcherCode false
set_option compiler.extract_closed false
set_option backward.eqns.nonrecursive false
set_option backward.eqns.deepRecursiveSplit false
noncomputable section
noncomputable def MN.{u}:=@if_pos.{u}
noncomputable def MO.{u}:=@if_neg.{u}
noncomputable def MP.{u}:=@absurd.{u}
noncomputable def MQ.{u,v}:=@congrArg.{u,v}
noncomputable def MR:=@decide_eq_false
noncomputable def MS:=@decide_eq_true
noncomputable def MT:=@of_decide_eq_true
noncomputable def MU:=@decide_eq_true_eq
namespace L2
open PySem PySem.Spec PyProof.Rows
noncomputable def xV(s:Stmt):Arguments:=match s with
 |.FunctionDef _ a _ _ _ _ _ _ _ _=>a
 |_=>{posonlyargs:=[],args:=[],vararg:=none,kwonlyargs:=[],kw_defaults:=[],kwarg:=none,defaults:=[]}
noncomputable def zU(s:Stmt):List Stmt:=match s with
 |.FunctionDef _ _ b _ _ _ _ _ _ _=>b
 |_=>[]
noncomputable def zo(s:Stmt):K9:=match s with
 |.FunctionDef _ _ _ _ _ _ sc _ _ _=>sc
 |_=>{kind:=.function,names:=[],isGenerator:=false,isCoroutine:=false}
end L2
namespace R23
open PySem L2 PySem.W
noncomputable def top(i:Nat):Stmt:=PySem.Challenge.pw_loopgyre_k23_no_sides.main.body.getD i (.Pass ⟨0,0,0,0⟩)
noncomputable def ge(P:La)(s:Str)(t:Tok)(v:Value):DictEntry:=⟨PyData.keyHash P s,.str s t,v⟩
noncomputable def cO(s:Str)(t l n f a q b c d e u v:Nat):Obj:=⟨.type "code",none,.fields #[.str s t,.str s (t+1),.str "/claim/cut.py" (t+2),.int l 0,.int n 0,.int 0 0,.int 0 0,.int f 0,.ref a,.bool true,.int q 0,.ref b,.none,.ref c,.ref d,.ref e,.int u 0,.int l 0,.str "/claim/cut.py" v],#[]⟩
noncomputable def fO(n:Str)(d:Stmt)(m:Value)(c:Addr):Obj:=⟨.type "function",none,.func (fnOf n n (xV d) (zU d) (zo d) .none .none .none m none (.ref c) .none),#[]⟩
noncomputable def dQ:Stmt:=match top 2 with
 |.ClassDef _ _ _ b _ _ _ _ _ _ _=>b.getD 0 (.Pass ⟨0,0,0,0⟩)
 |s=>s
noncomputable def iO(m:Value)(c:Addr):Obj:=⟨.type "function",none,.func (fnOf "__init__" "NoState.__init__" (xV dQ) (zU dQ) (zo dQ) .none .none .none m none (.ref c) .none),#[]⟩
noncomputable def cN:ClassData:=⟨"NoState",[(.ref 24)],[(.ref 44),(.ref 24),(.type "ValueError"),(.type "Exception"),(.type "BaseException"),(.type "object")],43,"NoState",true,[],[],false,none,false⟩
noncomputable def m0:Value:=.str "loopgyre.errors" 187
noncomputable def m1:Value:=.str "loopgyre.kinds" 344
noncomputable def m2:Value:=.str "loopgyre.arrows" 394
noncomputable def m3:Value:=.str "loopgyre.sides" 443
noncomputable def m4:Value:=.str "law_loopgyre_k23_no_sides" 471
noncomputable def dt(s:Str)(t l n f a q b e u v:Nat):Obj:=⟨.type "code",none,.fields #[.str s t,.str s (t+1),.str "/claim/cut.py" (t+2),.int l 0,.int n 0,.int 0 0,.int 0 0,.int f 0,.ref a,.bool true,.int q 0,.ref b,.none,.none,.none,.ref e,.int u 0,.int l 0,.str "/claim/cut.py" v],#[]⟩
noncomputable def fB(P:La)(t u l x:Nat):Obj:=⟨.type "dict",none,.dict #[ge P "__module__" t (.str "loopgyre.errors" u),ge P "__firstlineno__" (t+4) (.int l (t+3)),ge P "__static_attributes__" (t+5) (.ref x),ge P "__doc__" (t+6) .none] 2,#[]⟩
noncomputable def fC(s:Str)(g a d r t:Nat):Obj:=⟨.type "type",none,.cls ⟨s,[.ref g],[.ref a,.ref g,.type "ValueError",.type "Exception",.type "BaseException",.type "object"],d,s,true,[],[],false,none,false⟩,#[some (.ref r),none,some (.str s t),some (.str s (t+8)),some (.builtin "ValueError.__new__"),some (.bool true)]⟩
noncomputable def K(P:La):Frag:=[(3,⟨.type "dict",none,.dict #[ge P "__name__" 165 (.str "law_loopgyre_k23_no_sides" 471),ge P "__doc__" 166 .none,ge P "__package__" 167 .none,ge P "__loader__" 168 (.builtin "__main__.__loader__#opaque"),ge P "__spec__" 169 .none,ge P "__annotations__" 170 (.ref 6),ge P "__builtins__" 171 (.ref 4),ge P "__file__" 173 (.str "/claim/cut.py" 172),ge P "__cached__" 174 .none,ge P "GyreError" 206 (.ref 24),ge P "NoState" 231 (.ref 44),ge P "NoSquare" 247 (.ref 56),ge P "NoTurn" 263 (.ref 68),ge P "Unlike" 279 (.ref 80),ge P "NoRoad" 295 (.ref 92),ge P "NoSize" 311 (.ref 104),ge P "NoText" 327 (.ref 116),ge P "NoName" 343 (.ref 128),ge P "GREATEST_SIZE" 347 (.int 12 346),ge P "is_whole" 354 (.ref 137),ge P "is_size_to" 362 (.ref 144),ge P "is_size" 369 (.ref 151),ge P "is_number_row" 375 (.ref 156),ge P "is_number_grid" 381 (.ref 161),ge P "are_among" 387 (.ref 166),ge P "is_grid_of" 393 (.ref 171),ge P "is_side_pair" 405 (.ref 178),ge P "is_faulty_place" 420 (.ref 185),ge P "first_faulty_place" 430 (.ref 192),ge P "signs_of_row" 436 (.ref 197),ge P "state_of_arrows" 442 (.ref 202),ge P "is_odd" 451 (.ref 209),ge P "arrow_row" 457 (.ref 214),ge P "arrow_grid" 463 (.ref 219),ge P "state_of_sides" 470 (.ref 226),ge P "_law_cell_at" 480 (.ref 233),ge P "_law_whole" 487 (.ref 240),ge P "_law_numbers" 499 (.ref 247),ge P "_law_size_by" 506 (.ref 254),ge P "_law_triangle_by" 520 (.ref 261),ge P "_law_state_by" 526 (.ref 266),ge P "_law_arrows_by" 532 (.ref 271),ge P "_law_sides_by" 538 (.ref 276),ge P "_law_same" 544 (.ref 281),ge P "_law_copied" 550 (.ref 286),ge P "_law_bad_form" 564 (.ref 293),ge P "_law_other" 571 (.ref 300),ge P "_law_flipped" 577 (.ref 305),ge P "_law_is_wrong" 590 (.ref 312),ge P "_law_fault" 600 (.ref 319),ge P "_law_spot_of" 608 (.ref 326),ge P "_law_floor" 614 (.ref 331),ge P "law" 629 (.ref 338)] 53,#[]⟩),(23,⟨.type "dict",none,.dict #[ge P "__module__" 196 (.str "loopgyre.errors" 187),ge P "__firstlineno__" 200 (.int 2 199),ge P "__static_attributes__" 201 (.ref 22),ge P "__weakref__" 203 (.ref 25),ge P "__doc__" 204 .none] 3,#[]⟩),(24,⟨.type "type",none,.cls ⟨"GyreError",[(.type "ValueError")],[(.ref 24),(.type "ValueError"),(.type "Exception"),(.type "BaseException"),(.type "object")],23,"GyreError",true,[],[(.ref 44),(.ref 56),(.ref 68),(.ref 80),(.ref 92),(.ref 104),(.ref 116),(.ref 128)],false,none,false⟩,#[(some (.ref 15)),none,(some (.str "GyreError" 189)),(some (.str "GyreError" 197)),(some (.builtin "ValueError.__new__")),(some (.bool true))]⟩),(40,⟨.type "code",none,.fields #[(.str "__init__" 219),(.str "NoState.__init__" 220),(.str "/claim/cut.py" 221),(.int 6 0),(.int 2 0),(.int 0 0),(.int 0 0),(.int 3 0),(.ref 35),(.bool true),(.int 181 0),(.ref 36),.none,(.ref 37),(.ref 38),(.ref 39),(.int 224 0),(.int 6 0),(.str "/claim/cut.py" 225)],#[]⟩),(41,iO m0 40),(43,⟨.type "dict",none,.dict #[ge P "__module__" 214 (.str "loopgyre.errors" 187),ge P "__firstlineno__" 218 (.int 4 217),ge P "__init__" 226 (.ref 41),ge P "__static_attributes__" 228 (.ref 42),ge P "__doc__" 229 .none] 2,#[]⟩),(44,⟨.type "type",none,.cls cN,#[(some (.ref 28)),none,(some (.str "NoState" 207)),(some (.str "NoState" 215)),(some (.builtin "ValueError.__new__")),(some (.bool true))]⟩),(55,fB P 239 187 8 54),(56,fC "NoSquare" 24 56 55 47 232),(67,fB P 255 187 10 66),(68,fC "NoTurn" 24 68 67 59 248),(79,fB P 271 187 12 78),(80,fC "Unlike" 24 80 79 71 264),(91,fB P 287 187 14 90),(92,fC "NoRoad" 24 92 91 83 280),(103,fB P 303 187 16 102),(104,fC "NoSize" 24 104 103 95 296),(115,fB P 319 187 18 114),(116,fC "NoText" 24 116 115 107 312),(127,fB P 335 187 20 126),(128,fC "NoName" 24 128 127 119 328),(136,cO "is_whole" 348 24 1 3 131 181 132 133 134 135 352 353),(137,fO "is_whole" (top 12) m1 136),(143,cO "is_size_to" 355 26 2 3 138 181 139 140 141 142 360 361),(144,fO "is_size_to" (top 13) m1 143),(150,cO "is_size" 363 28 1 3 145 181 146 147 148 149 367 368),(151,fO "is_size" (top 14) m1 150),(155,dt "is_number_row" 370 30 2 3 152 181 153 154 373 374),(156,fO "is_number_row" (top 15) m1 155),(160,dt "is_number_grid" 376 32 3 3 157 181 158 159 379 380),(161,fO "is_number_grid" (top 16) m1 160),(165,dt "are_among" 382 36 2 3 162 181 163 164 385 386),(166,fO "are_among" (top 17) m1 165),(170,dt "is_grid_of" 388 38 4 3 167 181 168 169 391 392),(171,fO "is_grid_of" (top 18) m1 170),(177,cO "is_side_pair" 396 41 2 3 172 181 173 174 175 176 403 404),(178,fO "is_side_pair" (top 20) m2 177),(184,cO "is_faulty_place" 406 49 4 3 179 181 180 181 182 183 418 419),(185,fO "is_faulty_place" (top 21) m2 184),(191,cO "first_faulty_place" 421 60 2 3 186 181 187 188 189 190 428 429),(192,fO "first_faulty_place" (top 22) m2 191),(196,dt "signs_of_row" 431 66 1 3 193 181 194 195 434 435),(197,fO "signs_of_row" (top 23) m2 196),(201,dt "state_of_arrows" 437 68 1 3 198 181 199 200 440 441),(202,fO "state_of_arrows" (top 24) m2 201),(208,cO "is_odd" 445 76 1 3 203 181 204 205 206 207 449 450),(209,fO "is_odd" (top 26) m3 208),(213,dt "arrow_row" 452 78 2 3 210 181 211 212 455 456),(214,fO "arrow_row" (top 27) m3 213),(218,dt "arrow_grid" 458 80 1 3 215 181 216 217 461 462),(219,fO "arrow_grid" (top 28) m3 218),(225,cO "state_of_sides" 464 82 1 3 220 181 221 222 223 224 468 469),(226,fO "state_of_sides" (top 29) m3 225),(232,cO "_law_cell_at" 473 87 2 3 227 181 228 229 230 231 478 479),(233,fO "_law_cell_at" (top 31) m4 232),(239,cO "_law_whole" 481 91 1 3 234 181 235 236 237 238 485 486),(240,fO "_law_whole" (top 32) m4 239),(246,cO "_law_numbers" 488 93 2 3 241 181 242 243 244 245 497 498),(247,fO "_law_numbers" (top 33) m4 246),(253,cO "_law_size_by" 500 104 1 3 248 181 249 250 251 252 504 505),(254,fO "_law_size_by" (top 34) m4 253),(260,cO "_law_triangle_by" 507 108 2 3 255 181 256 257 258 259 518 519),(261,fO "_law_triangle_by" (top 35) m4 260),(265,dt "_law_state_by" 521 121 1 3 262 181 263 264 524 525),(266,fO "_law_state_by" (top 36) m4 265),(270,dt "_law_arrows_by" 527 129 1 3 267 181 268 269 530 531),(271,fO "_law_arrows_by" (top 37) m4 270),(275,dt "_law_sides_by" 533 136 1 3 272 181 273 274 536 537),(276,fO "_law_sides_by" (top 38) m4 275),(280,dt "_law_same" 539 146 2 3 277 181 278 279 542 543),(281,fO "_law_same" (top 39) m4 280),(285,dt "_law_copied" 545 155 1 3 282 181 283 284 548 549),(286,fO "_law_copied" (top 40) m4 285),(292,cO "_law_bad_form" 551 161 3 3 287 181 288 289 290 291 562 563),(293,fO "_law_bad_form" (top 41) m4 292),(299,cO "_law_other" 565 181 1 3 294 181 295 296 297 298 569 570),(300,fO "_law_other" (top 42) m4 299),(304,dt "_law_flipped" 572 183 3 3 301 181 302 303 575 576),(305,fO "_law_flipped" (top 43) m4 304),(311,cO "_law_is_wrong" 578 207 3 3 306 181 307 308 309 310 588 589),(312,fO "_law_is_wrong" (top 44) m4 311),(318,cO "_law_fault" 591 220 1 3 313 181 314 315 316 317 598 599),(319,fO "_law_fault" (top 45) m4 318),(325,cO "_law_spot_of" 601 227 1 3 320 181 321 322 323 324 606 607),(326,fO "_law_spot_of" (top 46) m4 325),(330,dt "_law_floor" 609 237 1 3 327 181 328 329 612 613),(331,fO "_law_floor" (top 47) m4 330),(337,cO "law" 615 239 1 3 332 181 333 334 335 336 627 628),(338,fO "law" (top 48) m4 337)]
noncomputable def as:List Addr:=[3,23,24,40,41,43,44,55,56,67,68,79,80,91,92,103,104,115,116,127,128,136,137,143,144,150,151,155,156,160,161,165,166,170,171,177,178,184,185,191,192,196,197,201,202,208,209,213,214,218,219,225,226,232,233,239,240,246,247,253,254,260,261,265,266,270,271,275,276,280,281,285,286,292,293,299,300,304,305,311,312,318,319,325,326,330,331,337,338]
noncomputable def qv:Lb:={PySem.Challenge.pw_loopgyre_k23_no_sides with main:={PySem.Challenge.pw_loopgyre_k23_no_sides.main with body:=[1,2,3,4,5,6,7,8,9,11,12,13,14,15,16,17,18,20,21,22,23,24,26,27,28,29,31,32,33,34,35,36,37,38,39,40,41,42,43,44,45,46,47,48].map top} }
noncomputable def fN:List Str:=[]
noncomputable def Xt(s:Shared):Bool:=xlAt qv [] s&&recOk (RowW.records PySem.Challenge.rw_loopgyre_k23_no_sides.row.toRowW) s
theorem hj{α β γ δ:Type}{o:Option Shared}{f:Shared->α×β×γ}{g:α×β×γ}{k:Shared->δ}{d:δ}(a:o.map (λs=>((f s).1,(f s).2.1))=some (g.1,g.2.1))(b:o.map (λs=>(f s).2.2)=some g.2.2)(c:o.map k=some d):o.map (λs=>(f s,k s))=some (g,d):=by
 cases o with
 |none=>cases a
 |some s=>
  simp only[QJ,Option.some.injEq,Prod.mk.injEq]at a b c ⊢
  exact⟨Prod.ext a.1 (Prod.ext a.2 b),c⟩
noncomputable def rn(w:Lc):Option Shared:=openEnds treeTable PySem.Challenge.pw_loopgyre_k23_no_sides w 6066
noncomputable def sn(s:Shared):=openSeen qv fN (importedModules PySem.Challenge.pw_loopgyre_k23_no_sides.main.body) Xt true s
theorem Jv(w:Lc):(rn w).map (λs=>((sn s).1,(sn s).2.1))=some ((openGood qv fN).1,(openGood qv fN).2.1):=by kernel_rfl
theorem Ju(w:Lc):(rn w).map (λs=>(sn s).2.2)=some (openGood qv fN).2.2:=by kernel_rfl
theorem Jt(w:Lc):(rn w).map (X.obsZ as)=some (X.valZ K 339 630 w):=by kernel_rfl
theorem hl:LeftO PySem.Challenge.pw_loopgyre_k23_no_sides qv fN Xt (X.obsZ as) (X.valZ K 339 630) 6066:=λw=>hj (Jv w) (Ju w) (Jt w)
end R23
namespace L2
open PySem PySem.Spec PyProof.Rows
abbrev JD:=Sum Int Str
set_option genInjectivity false in
inductive V where
 |non|bl (b:Bool)|int (i:Int)|str (x:Str)|byt (b:Array UInt8)|flt (b:UInt64)|ref (a:Addr)|ty (n:String)
 deriving DecidableEq
noncomputable def RelV:V->Value->Prop
 |.non,u=>u=Value.none
 |.bl b,u=>u=Value.bool b
 |.int i,u=>∃t,u=Value.int i t
 |.str x,u=>∃t,u=Value.str x t
 |.byt b,u=>∃t,u=Value.bytes b t
 |.flt b,u=>∃t,u=Value.float b t
 |.ref a,u=>u=Value.ref a
 |.ty n,u=>u=Value.type n
abbrev aA:List V->List Value->Prop:=Paired RelV
theorem aA.length (r:aA xs us):xs.length=us.length:=Paired.length r
theorem aA.get:∀{xs:List V}{us:List Value}{i:Nat}{x:V},aA xs us->xs[i]?=some x->∃u,us[i]?=some u/\RelV x u
 |_,_,_,_,.nil,e=>by simp at e
 |_,_,0,_,.cons r _,e=>by simp at e;subst e;exact⟨_,rfl,r⟩
 |_,_,i+1,x,.cons _ t,e=>by
  obtain⟨u,h1,h2⟩:=aA.get (i:=i) (x:=x) t (by simpa using e);exact⟨u,by simpa using h1,h2⟩
theorem aA.set (r:RelV x u):∀{xs:List V}{us:List Value}(i:Nat),aA xs us->aA (xs.set i x) (us.set i u)
 |_,_,_,.nil=>.nil
 |_,_,0,.cons _ t=>.cons r t
 |_,_,i+1,.cons q t=>.cons q (aA.set r i t)
theorem aA.append:∀{xs ys:List V}{us ws:List Value},aA xs us->aA ys ws->aA (xs++ys) (us++ws)
 |_,_,_,_,.nil,s=>s
 |_,_,_,_,.cons r t,s=>.cons r (aA.append t s)
theorem aA.take:∀{xs:List V}{us:List Value}(n:Nat),aA xs us->aA (xs.take n) (us.take n)
 |_,_,0,_=>.nil
 |_,_,_+1,.nil=>.nil
 |_,_,n+1,.cons r t=>.cons r (aA.take n t)
theorem aA.drop:∀{xs:List V}{us:List Value}(n:Nat),aA xs us->aA (xs.drop n) (us.drop n)
 |_,_,0,r=>r
 |_,_,_+1,.nil=>.nil
 |_,_,n+1,.cons _ t=>aA.drop n t
noncomputable def eU:Option V->Option Value->Prop
 |some v,some u=>RelV v u
 |none,none=>True
 |_,_=>False
noncomputable def kV:JD->V
 |.inl i=>.int i
 |.inr x=>.str x
set_option genInjectivity false in
inductive HO where
 |lst (xs:List V)
 |tup (xs:List V)
 |own (x:Addr)
 |xd (fs:List (Str×V))
 |frz (o:Obj) (u:HO)
 |tbl (ps:Array Value)
 |ext (φ:Ld->Prop)
abbrev Hp:=Addr->Option HO
noncomputable def aJ(H:Hp)(a:Addr)(o:HO):Hp:=λb=>if b=a then some o else H b
def zn:aJ H a o a=some o:=by unfold aJ;rw[MN rfl]
def zi (h:b≠a):aJ H a o b=H b:=by unfold aJ;rw[MO h]
def zt {H:Hp}(h:H a=some o)(h':H b=none):a≠b:=by
 intro e;subst e;rw[h]at h';cases h'
section
variable(P:Lb)(w:Lc)
noncomputable def bv(P:Lb)(w:Lc)(H:Hp)(h:Ld)(a:Addr):HO->Prop
 |.lst xs=>xs.length<=sizeLine/\∃(its:List Value) (n:Nat),aA xs its/\h.get? a=some {cls:=.type "list",data:=.seq its.toArray n}
 |.tup xs=>xs.length<=sizeLine/\∃its:List Value,aA xs its/\IsTup h a its.toArray
 |.own _=>∃o,h.get? a=some o
 |.xd fs=>∃mA,h.Ns1 a mA/\∀f,eU (fs.lookup f) (mA f)
 |.frz o u=>h.get? a=some o/\bv P w H h a u
 |.tbl ps=>h.get? a=some {cls:=.none,data:=.fields ps}
 |.ext φ=>φ h/\(∃o,h.get? a=some o)/\∀h1 h2:Ld,φ h1->(∀o,h1.get? a=some o->h2.get? a=some o)->φ h2
noncomputable def bP(H:Hp)(h:Ld):Prop:=∀a o,H a=some o->bv P w H h a o
end
section
variable{P:Lb}{w:Lc}{H H':Hp}{h h':Ld}{a:Addr}{o:HO}
theorem bv.lt(x:bv P w H h a o):a<h.objs.size:=by
 cases o with
 |lst xs=>obtain⟨_,_,_,_,e⟩:=x;exact Qu e
 |tup xs=>obtain⟨_,_,_,p⟩:=x;exact p.lt
 |own y=>obtain⟨_,e⟩:=x;exact Qu e
 |xd fs=>obtain⟨_,⟨_,_,_,e,_⟩,_⟩:=x;exact Qu e
 |frz ob u=>obtain⟨e,_⟩:=x;exact Qu e
 |tbl ps=>exact Qu (show h.get? a=some _ from x)
 |ext φ=>obtain⟨_,⟨_,e⟩,_⟩:=x;exact Qu e
def bv.stay(x:bv P w H h a o)(k:∀b u,(b=a\/H b=some (.own a))->h.get? b=some u->h'.get? b=some u)
  (ho:∀b,H b=some (.own a)->H' b=some (.own a)) (ht:∀b xs,H b=some (.tup xs)->H' b=some (.tup xs)):bv P w H' h' a o:=by
 induction o with
 |lst xs=>obtain⟨z,its,n,r,e⟩:=x;exact⟨z,its,n,r,k _ _ (.inl rfl) e⟩
 |tup xs=>obtain⟨z,its,r,ob,e,c⟩:=x;exact⟨z,its,r,ob,k _ _ (.inl rfl) e,c⟩
 |own y=>obtain⟨ob,e⟩:=x;exact⟨ob,k _ _ (.inl rfl) e⟩
 |xd fs=>obtain⟨mA,⟨od,es,ep,e,c⟩,r⟩:=x;exact⟨mA,⟨od,es,ep,k _ _ (.inl rfl) e,c⟩,r⟩
 |frz ob u ih=>obtain⟨e,q⟩:=x;exact⟨k _ _ (.inl rfl) e,ih q⟩
 |tbl ps=>
  have e:h.get? a=some {cls:=.none,data:=.fields ps}:=x;show h'.get? a=some {cls:=.none,data:=.fields ps};exact k a _ (.inl rfl) e
 |ext φ=>obtain⟨p,⟨o,e⟩,st⟩:=x;exact⟨st _ _ p λo q=>k _ _ (.inl rfl) q,⟨o,k _ _ (.inl rfl) e⟩,st⟩
theorem bP.lt(x:bP P w H h)(e:H a=some o):a<h.objs.size:=(x a o e).lt
def bP.fresh(x:bP P w H h)(e:h.objs.size<=a):H a=none:=by
 cases q:H a with
 |none=>rfl
 |some u=>exact MP (Qh (x.lt q) e) (QZ _)
def bP.kept(x:bP P w H h)(k:∀b u,h.get? b=some u->h'.get? b=some u):bP P w H h':=λa o e=>
 (x a o e).stay (λb u _ q=>k b u q) (λ_ q=>q) λ_ _ q=>q
def bP.laid(x:bP P w H h)(k:∀b u,h.get? b=some u->h'.get? b=some u)(hp:h.objs.size<=a)(new:bv P w (aJ H a o) h' a o):bP P w (aJ H a o) h':=λb u e=>by
 have hn:=x.fresh hp;by_cases hb:b=a
 .subst hb;rw[zn]at e;cases e;exact new
 .rw[zi hb]at e;exact(x b u e).stay (λc v _ q=>k c v q) (λc q=>by rw[zi (zt q hn)];exact q) λc xs q=>by rw[zi (zt q hn)];exact q
end
noncomputable def Rd(H:Hp)(a:Addr)(u:HO):Prop:=H a=some u\/∃o,H a=some (.frz o u)
def Rd.ok (r:Rd H a u)(x:bP P w H h):bv P w H h a u:=by
 rcases r with r|⟨o,r⟩
 .exact x a u r
 .obtain ⟨_,q⟩:=x a _ r;exact q
noncomputable def lU:Option HO->Prop
 |some (.lst _)=>True
 |some (.ext _)=>True
 |_=>False
section
variable{P:Lb}{w:Lc}{H:Hp}{h h':Ld}{x e:Addr}{o':HO}
def bP.write(ok:bP P w H h)(mu:lU (H x))(he:e=x\/H e=some (.own x))(k:∀b u,b≠e->h.get? b=some u->h'.get? b=some u)(heo:∃u,h'.get? e=some u)
  (new:bv P w (aJ H x o') h' x o'):bP P w (aJ H x o') h':=λb u q=>by
 have nown:∀c y,H c=some (.own y)->c≠x:=λc y r z=>by subst z;rw[r]at mu;exact mu
 have ntup:∀c xs,H c=some (.tup xs)->c≠x:=λc xs r z=>by subst z;rw[r]at mu;exact mu
 by_cases hb:b=x
 .subst hb;rw[zn]at q;cases q;exact new
 .rw[zi hb]at q;by_cases hbe:b=e
  .have q':H b=some (.own x):=by
    rcases he with z|z
    .exact MP (hbe.trans z) hb
    .rw[hbe];exact z
   rw[q]at q';cases q';obtain⟨v,hv⟩:=heo;exact⟨v,by rw[hbe];exact hv⟩
  .refine (ok b u q).stay (λc v hc r=>k c v ?_ r) (λc r=>by rw[zi (nown c b r)];exact r) λc xs r=>by rw[zi (ntup c xs r)];exact r
   rcases hc with rfl|hc
   .exact hbe
   .rintro rfl;rcases he with z|z
    .exact nown c b hc z
    .rw[hc]at z;cases z;exact hb rfl
end
structure Un(fs ex:List Addr)(H H':Hp)(h h':Ld):Prop where
 keep:∀b o,h.get? b=some o->H b=none->b∉fs->b∉ex->h'.get? b=some o
 slot:∀b o,h.get? b=some o->H b=none->b∈fs->b∉ex->∃sl,h'.get? b=some {o with slots:=sl}
 free:∀b o,h.get? b=some o->H b=none->b∉ex->H' b=none
 there:∀b o,h.get? b=some o->b∉ex->∃o',h'.get? b=some o'
 tups:∀b xs,H b=some (.tup xs)->H' b=some (.tup xs)
 frzs:∀b o u,H b=some (.frz o u)->H' b=some (.frz o u)
 tbls:∀b ps,H b=some (.tbl ps)->∃more,H' b=some (.tbl (ps++more))
section
variable{fs ex:List Addr}{H H1:Hp}{h h1 h':Ld}{a x e:Addr}{o:HO}
def Un.any (u:Un fs ex H H1 h h1)(q:h.get? b=some ob)(n:H b=none)(hx:b∉ex):∃sl,h1.get? b=some {ob with slots:=sl}:=by
 by_cases hb:b∈fs
 .exact u.slot b ob q n hb hx
 .exact ⟨ob.slots,u.keep b ob q n hb hx⟩
def Un.kept(k:∀b u,h.get? b=some u->h'.get? b=some u):Un fs ex H H h h':=
 ⟨λb ob q _ _ _=>k b ob q,λb ob q _ _ _=>⟨ob.slots,k b ob q⟩,λ_ _ _ n _=>n,λb ob q _=>⟨ob,k b ob q⟩,λ_ _ q=>q,λ_ _ _ q=>q,λ_ ps q=>⟨#[],by rw[q];simp⟩⟩
def Un.refl:Un fs ex H H h h:=Un.kept λ_ _ q=>q
def Un.laid(k:∀b u,h.get? b=some u->h'.get? b=some u)(hp:h.objs.size<=a)(hn:H a=none):Un fs ex H (aJ H a o) h h' where
 keep:=λb u q _ _ _=>k b u q
 slot:=λb u q _ _ _=>⟨u.slots,k b u q⟩
 free:=λb u q n _=>by rw[zi (QL (Qh (Qu q) hp))];exact n
 there:=λb u q _=>⟨u,k b u q⟩
 tups:=λb xs q=>by rw[zi (zt q hn)];exact q
 frzs:=λb u xs q=>by rw[zi (zt q hn)];exact q
 tbls:=λb ps q=>⟨#[],by rw[zi (zt q hn),q];simp⟩
def Un.write(mu:lU (H x))(he:e=x\/H e=some (.own x))(k:∀b u,b≠e->h.get? b=some u->h'.get? b=some u)(heo:∃u,h'.get? e=some u):Un fs ex H (aJ H x o) h h':=by
 have hx:∀b,H b=none->b≠x:=λb n z=>by subst z;rw[n]at mu;exact mu
 have hb:∀b,H b=none->b≠e:=λb n z=>by
  subst z;rcases he with r|r
  .exact hx b n r
  .rw[n]at r;cases r
 have hm:∀b u,H b=some u->¬lU (some u)->b≠x:=λb u q nm z=>by subst z;rw[q]at mu;exact nm mu
 refine⟨λb u q n _ _=>k b u (hb b n) q,λb u q n _ _=>⟨u.slots,k b u (hb b n) q⟩,λb u q n _=>by rw[zi (hx b n)];exact n,λb u q _=>?_,
  λb xs q=>by rw[zi (hm b _ q λz=>z)];exact q,λb u xs q=>by rw[zi (hm b _ q λz=>z)];exact q,λb ps q=>⟨#[],by rw[zi (hm b _ q λz=>z),q];simp⟩⟩
 by_cases hbe:b=e
 .subst hbe;exact heo
 .exact ⟨u,k b u hbe q⟩
end
noncomputable def lI(h:Ld)(H:Hp):List Addr:=(QI h.objs.size).filter λa=>(H a).isSome
noncomputable def qL(h:Ld)(H:Hp):Ld:=PySem.W.hideAll h (lI h H)
def Iw(h:Ld)(H:Hp):(qL h H).objs.size=h.objs.size:=PySem.W.hideAll_size _ _
def HD (e:h.get? b=some o)(n:H b=none):(qL h H).get? b=some o:=
 PySem.W.hideAll_get _ e λhm=>by
  have q:(H b).isSome=true:=(Vn.mp hm).2;rw[n]at q;simp at q
def Fd (e:(qL h H).get? b=some o):h.get? b=some o/\H b=none:=by
 have e':h.get? b=some o:=PySem.W.of_hideAll (lI h H) e;refine⟨e',?_⟩;cases q:H b with
 |none=>rfl
 |some x=>
  have hm:b∈lI h H:=Vn.mpr ⟨Q3.mpr (Qu e'),by simp[q]⟩;have z:(qL h H).get? b=none:=PySem.W.hideAll_none (lI h H) hm;rw[z]at e;cases e
structure Mod(K:Qb)(mg:Str->Option Value)(base:Ld):Prop where
 kin:K.In base
 glob:base.Ns Lf mg
 blt:∃mb,base.Ns builtinsNs mb/\∀x:Str,x ≠ "__name__" -> mb x=Lg x
 nolimit:base.NoLimit
set_option genInjectivity false in
structure Cx where
 prog:Lb
 w:Lc
 K:Qb
 mg:Str->Option Value
 base:Ld
 A:Lh
 N:List Str
 s₀:Shared
 H₀:Hp
 env:Env
 outer:List Env
 stack:List Env
 ex:List Addr
 fn:Str->Bool
 calm:Bool
 pn:List (Addr×Obj)
 xe:Value->Shared->Prop
noncomputable def bz(l:List Env):List Addr:=l.filterMap (·.frame)
abbrev Cx.fs(X:Cx):List Addr:=bz X.outer
noncomputable def fU(sc:K9)(x:Str):Prop:=sc.names.lookup x=some .local\/sc.names.lookup x=some .cell\/sc.names.lookup x=some .free
noncomputable def Loc(sc:K9)(x:Str):Prop:=sc.names.lookup x=some .local\/sc.names.lookup x=some .cell
noncomputable def sC(env:Env)(h:Ld)(m:Str->Option Value)(x:Str)(u:Value):Prop:=
 (env.kindOf x=some .local/\m x=some u)\/((env.kindOf x=some .cell\/env.kindOf x=some .free)/\∃c,env.cells.lookup x=some c/\h.IsCell c (some u))
structure Cx.Ok(X:Cx):Prop where
 mod:Mod X.K X.mg X.base
 kind:X.env.scope.kind=.function
 glob:X.env.globals=Lf
 blt:X.env.builtins=builtinsNs
 above:X.s₀.heap.objs.size<=X.env.locals
 inj:∀x y c,X.env.cells.lookup x=some c->X.env.cells.lookup y=some c->x=y
 has:∀x,(X.env.kindOf x=some .cell\/X.env.kindOf x=some .free)->∃c,X.env.cells.lookup x=some c
 cab:∀x c,X.fn x=true->X.env.cells.lookup x=some c->X.s₀.heap.objs.size<=c
 hd:X.calm=true->X.A.handled=none
 frames:X.A.frames=some X.stack
 stk:X.stack=X.outer\/(X.stack=X.env::X.outer/\X.env.frame=some X.env.locals)
 exf:∀b∈X.ex,b≠X.env.locals/\∀x c,X.env.cells.lookup x=some c->c≠b
 bs:∀b o,X.base.get? b=some o->X.s₀.heap.get? b=some o/\X.H₀ b=none
 bsz:X.base.objs.size<=X.s₀.heap.objs.size
 noex:∀b o,X.base.get? b=some o->b∉X.ex
 exfs:∀b∈X.ex,b∉X.fs
 funs:X.s₀.heap.FunFrames X.base X.outer
 frf:∀b∈X.fs,X.H₀ b=none
structure Inv(X:Cx)(pins:List (Addr×Obj))(σ:List (Option V))(H:Hp)(s:Shared):Prop where
 ok:X.Ok
 os:s.os=X.s₀.os
 bare:Li s.gens
 base:Un X.fs X.ex X.H₀ H X.s₀.heap s.heap
 loc:∃m,s.heap.Ns X.env.locals m/\∀(i:Nat) (x:Str) (v:V),X.N[i]?=some x->σ[i]?=some (some v)->fU X.env.scope x->∃u,RelV v u/\sC X.env s.heap m x u
 cell:∀x c,X.env.cells.lookup x=some c->∃v,s.heap.IsCell c v
 free:H X.env.locals=none
 freeC:∀x c,X.env.cells.lookup x=some c->H c=none
 pin:∀p∈X.pn++pins,s.heap.get? p.1=some p.2/\H p.1=none/\p.1≠X.env.locals/\p.1∉X.fs/\∀v,p.2.data≠.cell v
 hok:bP X.prog X.w H s.heap
 len:σ.length=X.N.length
section
variable{X:Cx}{pins:List (Addr×Obj)}{σ:List (Option V)}{H H':Hp}{s:Shared}{h':Ld}
def Cx.Ok.nofr (ok:X.Ok)(e:X.base.get? b=some o):b∉X.fs:=λhb=>by
 have:=(ok.funs.mem hb).1;rw[e]at this;cases this
theorem Inv.bs(I:Inv X pins σ H s):∀b o,X.base.get? b=some o->s.heap.get? b=some o/\H b=none:=λb o e=>
 ⟨I.base.keep b o (I.ok.bs b o e).1 (I.ok.bs b o e).2 (I.ok.nofr e) (I.ok.noex b o e),I.base.free b o (I.ok.bs b o e).1 (I.ok.bs b o e).2 (I.ok.noex b o e)⟩
def Inv.bk(I:Inv X pins σ H s):∀b o,X.base.get? b=some o->s.heap.get? b=some o:=λb o e=>(I.bs b o e).1
theorem Inv.mod(I:Inv X pins σ H s):Mod X.K X.mg X.base:=I.ok.mod
def Inv.kIn(I:Inv X pins σ H s):X.K.In s.heap:=I.ok.mod.kin.keeps I.bk
theorem Inv.lt(I:Inv X pins σ H s):X.env.locals<s.heap.objs.size:=let⟨_,hn,_⟩:=I.loc;hn.lt
def Inv.sz(I:Inv X pins σ H s):X.s₀.heap.objs.size<=s.heap.objs.size:=Qp I.ok.above (W1 I.lt)
def Inv.nofs (I:Inv X pins σ H s)(h:s.heap.objs.size<=a):a∉X.fs:=λhb=>by
 obtain⟨_,o,ho,_⟩:=I.ok.funs.mem hb;exact MP (Qh (Qu ho) (Qp I.sz h)) (QZ _)
def Inv.cne(I:Inv X pins σ H s):∀x c,X.env.cells.lookup x=some c->c≠X.env.locals:=λx c e z=>by
 obtain⟨v,o,ho,hd⟩:=I.cell x c e;obtain⟨m,⟨o',es,ep,ho',hd',_⟩,_⟩:=I.loc;rw[z,ho']at ho;cases ho;rw[hd']at hd;cases hd
theorem Inv.funs(I:Inv X pins σ H s):s.heap.FunFrames X.base X.outer:=by
 have all:∀(l:List Env),(∀b∈bz l,b∈X.fs)->X.s₀.heap.FunFrames X.base l->s.heap.FunFrames X.base l:=by
  intro l
  induction l with
  |nil=>intro _ _;trivial
  |cons env r ih=>
   intro hs hl;obtain⟨hk,⟨L,o,hf,hn,ho,hd⟩,hr⟩:=hl;have hL:L∈X.fs:=hs L (by unfold bz;rw[WO,hf];exact QH);obtain⟨sl,e⟩:=I.base.slot L o ho (I.ok.frf L hL) hL λz=>I.ok.exfs L z hL;exact⟨hk,⟨L,_,hf,hn,e,hd⟩,ih (λb hb=>hs b (by unfold bz;rw[WO,hf];exact Ql _ hb)) hr⟩
 exact all X.outer (λ_ hb=>hb) I.ok.funs
theorem Inv.stack(I:Inv X pins σ H s):s.heap.FunFrames X.base X.stack:=by
 rcases I.ok.stk with e|⟨e,hf⟩
 .rw[e];exact I.funs
 .rw[e];obtain⟨m,hn,_⟩:=I.loc;refine .cons (by rw[I.ok.kind];decide) hf hn ?_ I.funs;exact WJ (Qp I.ok.bsz I.ok.above)
def Inv.stkSub(I:Inv X pins σ H s):∀b∈bz X.stack,b∈X.env.locals::X.fs:=λb hb=>by
 rcases I.ok.stk with e|⟨e,hf⟩
 .rw[e]at hb;exact Ql _ hb
 .rw[e]at hb;unfold bz at hb;rw[WO,hf]at hb;exact hb
def Inv.stkFree(I:Inv X pins σ H s):∀b∈bz X.stack,H b=none:=λb hb=>by
 rcases Qr.mp (I.stkSub b hb)with e|hb
 .rw[e];exact I.free
 .obtain ⟨_,o,ho,_⟩:=I.ok.funs.mem hb;exact I.base.free b o ho (I.ok.frf b hb) λz=>I.ok.exfs b z hb
def Inv.step{g':Array Lj}{t':Nat}{d':Lk}{ch:List Addr}(I:Inv X pins σ H s)
  (hch:∀b∈ch,(b∈X.ex\/X.s₀.heap.objs.size<=b)/\b≠X.env.locals/\(∀x c,X.env.cells.lookup x=some c->c≠b)/\∀p∈X.pn++pins,p.1≠b)
  (keep:∀b o,b≠X.env.locals->b∉X.fs->b∉ch->s.heap.get? b=some o->H b=none->h'.get? b=some o)
  (slot:∀b o,b≠X.env.locals->b∈X.fs->b∉ch->s.heap.get? b=some o->H b=none->∃sl,h'.get? b=some {o with slots:=sl}) (free:∀b o,b∉ch->s.heap.get? b=some o->H b=none->H' b=none)
  (there:∀b o,b∉ch->s.heap.get? b=some o->∃o',h'.get? b=some o')
  (tups:∀b xs,H b=some (.tup xs)->H' b=some (.tup xs)) (frzs:∀b o u,H b=some (.frz o u)->H' b=some (.frz o u)) (tbls:∀b ps,H b=some (.tbl ps)->∃more,H' b=some (.tbl (ps++more)))
  (ns:∀m,s.heap.Ns X.env.locals m->h'.Ns X.env.locals m) (hok:bP X.prog X.w H' h') (hg:Li g') :
  Inv X pins σ H' {s with heap:=h',gens:=g',drawn:=d',toks:=t' }:=by
 have neL:∀b o,X.s₀.heap.get? b=some o->b≠X.env.locals:=λb o e=>QL (Qh (Qu e) I.ok.above);have neC:∀b o,X.s₀.heap.get? b=some o->b∉X.ex->b∉ch:=λb o e hx hb=>by
  rcases(hch b hb).1 with z|z
  .exact hx z
  .exact MP (Qh (Qu e) z) (QZ _)
 have cellK:∀x c,X.env.cells.lookup x=some c->∀v,s.heap.IsCell c v->h'.IsCell c v:=λx c e v ⟨o,ho,hd⟩=>by
  have nch:c∉ch:=λz=>(hch c z).2.2.1 x c e rfl;by_cases hc:c∈X.fs
  .obtain ⟨sl,q⟩:=slot c o (I.cne x c e) hc nch ho (I.freeC x c e);exact⟨_,q,hd⟩
  .exact ⟨o,keep c o (I.cne x c e) hc nch ho (I.freeC x c e),hd⟩
 refine⟨I.ok,I.os,hg,⟨λb o e n hb hx=>?_,λb o e n hb hx=>?_,λb o e n hx=>?_,λb o e hx=>?_,λb xs e=>tups b xs (I.base.tups b xs e),λb o xs e=>frzs b o xs (I.base.frzs b o xs e),λb ps e=>?_⟩,?_,λx c e=>?_,?_,λx c e=>?_,λp hp=>?_,hok,I.len⟩
 .exact keep b o (neL b o e) hb (neC b o e hx) (I.base.keep b o e n hb hx) (I.base.free b o e n hx)
 .obtain ⟨sl,e1⟩:=I.base.slot b o e n hb hx;obtain⟨sl',e2⟩:=slot b _ (neL b o e) hb (neC b o e hx) e1 (I.base.free b o e n hx);exact⟨sl',e2⟩
 .obtain ⟨o',e1⟩:=I.base.there b o e hx;exact free b o' (neC b o e hx) e1 (I.base.free b o e n hx)
 .obtain ⟨o',e1⟩:=I.base.there b o e hx;exact there b o' (neC b o e hx) e1
 .obtain ⟨m1,e1⟩:=I.base.tbls b ps e;obtain⟨m2,e2⟩:=tbls b _ e1;exact⟨m1++m2,by rw[e2,Array.append_assoc]⟩
 .obtain ⟨m,hn,hl⟩:=I.loc;refine⟨m,ns m hn,λi x v e1 e2 e3=>?_⟩;obtain⟨u,r,l⟩:=hl i x v e1 e2 e3;refine⟨u,r,?_⟩;rcases l with l|⟨k,c,e,z⟩
  .exact .inl l
  .exact .inr ⟨k,c,e,cellK x c e _ z⟩
 .obtain ⟨v,z⟩:=I.cell x c e;exact⟨v,cellK x c e v z⟩
 .obtain ⟨m,⟨o,_,_,ho,_⟩,_⟩:=I.loc;exact free _ o (λz=>(hch _ z).2.1 rfl) ho I.free
 .obtain ⟨v,o,ho,hd⟩:=I.cell x c e;exact free c o (λz=>(hch c z).2.2.1 x c e rfl) ho (I.freeC x c e)
 .obtain ⟨e,n,ne,nf,d⟩:=I.pin p hp;have nch:p.1∉ch:=λz=>(hch p.1 z).2.2.2 p hp rfl;exact⟨keep p.1 p.2 ne nf nch e n,free p.1 p.2 nch e n,ne,nf,d⟩
def Inv.un{t':Nat}(I:Inv X pins σ H s)(u:Un X.fs [] H H' s.heap h')(hok:bP X.prog X.w H' h'):Inv X pins σ H' {s with heap:=h',toks:=t' }:=by
 obtain⟨m,⟨o,es,ep,ho,r⟩,_⟩:=id I.loc;obtain⟨sl,hL⟩:=u.any ho I.free (by simp);exact I.step (g':=s.gens) (d':=s.drawn) (ch:=[]) (λ_ z=>nomatch z) (λb o _ hb _ e n=>u.keep b o e n hb (by simp)) (λb o _ hb _ e n=>u.slot b o e n hb (by simp)) (λb o _ e n=>u.free b o e n (by simp)) (λb o _ e=>u.there b o e (by simp)) u.tups u.frzs u.tbls (λm' hm=>by
  obtain⟨o',es',ep',ho',r'⟩:=hm;rw[ho]at ho';cases ho';exact⟨_,es',ep',hL,r'⟩) hok I.bare
def Inv.call{g':Array Lj}{t':Nat}{d':Lk}{ch:List Addr}(I:Inv X pins σ H s)(u:Un (bz X.stack) ch H H' s.heap h')(hok:bP X.prog X.w H' h')(hg:Li g')
  (hch:∀b∈ch,(b∈X.ex\/X.s₀.heap.objs.size<=b)/\b≠X.env.locals/\(∀x c,X.env.cells.lookup x=some c->c≠b)/\∀p∈X.pn++pins,p.1≠b) :
  Inv X pins σ H' {s with heap:=h',gens:=g',drawn:=d',toks:=t' }:=by
 obtain⟨m,⟨o,es,ep,ho,r⟩,_⟩:=id I.loc;obtain⟨sl,hL⟩:=u.any ho I.free λz=>(hch _ z).2.1 rfl;exact I.step (ch:=ch) hch (λb o hL hb hc e n=>u.keep b o e n (λz=>(Qr.mp (I.stkSub b z)).elim hL hb) hc) (λb o _ _ hc e n=>u.any e n hc) (λb o hc e n=>u.free b o e n hc) (λb o hc e=>u.there b o e hc) u.tups u.frzs u.tbls (λm' hm=>by
  obtain⟨o',es',ep',ho',r'⟩:=hm;rw[ho]at ho';cases ho';exact⟨_,es',ep',hL,r'⟩) hok hg
def Inv.turned{t':Nat}{it:Addr}(I:Inv X pins σ H s)(k:∀b o,b≠it->s.heap.get? b=some o->h'.get? b=some o)(hn:H it=none)(hL:it≠X.env.locals)
  (h1:it∈X.ex\/X.s₀.heap.objs.size<=it) (h2:∀x c,X.env.cells.lookup x=some c->c≠it) (h3:∀p∈X.pn++pins,p.1≠it):Inv X pins σ H {s with heap:=h',toks:=t' }:=by
 have nit:∀b u,H b=some u->b≠it:=λb u e z=>by rw[z,hn]at e;cases e
 refine I.step (g':=s.gens) (d':=s.drawn) (ch:=[it]) (λb hb=>?_) (λb o _ _ hc e _=>k b o (λz=>hc (by simp[z])) e) (λb o _ _ hc e _=>⟨o.slots,k b o (λz=>hc (by simp[z])) e⟩) (λ_ _ _ _ n=>n)
  (λb o hc e=>⟨o,k b o (λz=>hc (by simp[z])) e⟩) (λ_ _ e=>e) (λ_ _ _ e=>e) (λb ps e=>⟨#[],by rw[e];simp⟩) (λm hm=>?_) (λb u e=>?_) I.bare
 .have e:b=it:=by simpa using hb
  subst e;exact⟨h1,hL,h2,h3⟩
 .obtain ⟨o,es,ep,ho,r⟩:=hm;exact⟨o,es,ep,k _ o (Ne.symm hL) ho,r⟩
 .refine (I.hok b u e).stay (λc v hc q=>k c v ?_ q) (λ_ q=>q) λ_ _ q=>q;rcases hc with z|z
  .rw[z];exact nit b u e
  .exact nit c _ z
def Inv.tok(I:Inv X pins σ H s)(t:Nat):Inv X pins σ H {s with toks:=t}:=I.un (h':=s.heap) (t':=t) Un.refl I.hok
theorem Inv.kept{t':Nat}(I:Inv X pins σ H s)(k:∀b u,s.heap.get? b=some u->h'.get? b=some u):Inv X pins σ H {s with heap:=h',toks:=t' }:=I.un (Un.kept k) (I.hok.kept k)
theorem Inv.laid{a:Addr}{o:HO}{t':Nat}(I:Inv X pins σ H s)(k:∀b u,s.heap.get? b=some u->h'.get? b=some u)(hp:s.heap.objs.size<=a)(new:bv X.prog X.w (aJ H a o) h' a o):
  Inv X pins σ (aJ H a o) {s with heap:=h',toks:=t' }:=I.un (Un.laid k hp (I.hok.fresh hp)) (I.hok.laid k hp new)
theorem Inv.write{x e:Addr}{o:HO}{t':Nat}(I:Inv X pins σ H s)(mu:lU (H x))(he:e=x\/H e=some (.own x))(k:∀b u,b≠e->s.heap.get? b=some u->h'.get? b=some u)(heo:∃u,h'.get? e=some u)
  (new:bv X.prog X.w (aJ H x o) h' x o):Inv X pins σ (aJ H x o) {s with heap:=h',toks:=t' }:=I.un (Un.write mu he k heo) (I.hok.write mu he k heo new)
def Inv.pins_of{pins':List (Addr×Obj)}(I:Inv X pins σ H s)(h:∀p∈pins',s.heap.get? p.1=some p.2/\H p.1=none/\p.1≠X.env.locals/\p.1∉X.fs/\∀v,p.2.data≠.cell v):Inv X pins' σ H s:=
 ⟨I.ok,I.os,I.bare,I.base,I.loc,I.cell,I.free,I.freeC,λp hp=>(Qz.mp hp).elim (λz=>I.pin p (QY _ z)) (h p),I.hok,I.len⟩
def jZ {N:List Str}(hN:N.Nodup){j:Nat}(a:N[i]?=some x)(b:N[j]?=some x):i=j:=by
 obtain⟨h1,e1⟩:=Qa.mp a;obtain⟨h2,e2⟩:=Qa.mp b;exact(WY hN).mp (e1.trans e2.symm)
def g0 (I:Inv X pins σ H s)(hN:X.N.Nodup)(hi:X.N[i]?=some x)(hx:Loc X.env.scope x)(r:RelV v u)(h:∀s',Inv X pins (σ.set i (some v)) H s'->(∃a,W0 a s.heap s'.heap/\(a=X.env.locals\/X.env.cells.lookup x=some a))->Q () s')(hf:X.fn x=true\/X.env.scope.names.lookup x=some .local:=by first|exact .inl rfl|exact .inr rfl|assumption):Lm M A (storeName X.env x u) Q E s:=by
 obtain⟨m,hn,hl⟩:=id I.loc;have hcls:(X.env.scope.kind == .class || (X.env.scope.kind == .module&&X.env.locals != X.env.globals))=false:=by rw[I.ok.kind];rfl
 have hiσ:i<σ.length:=by rw[I.len];exact(Qa.mp hi).1
 have cne:=I.cne;have tracked:∀{a:Addr}{h':Ld},(∃o,s.heap.get? a=some o/\H a=none)->W0 a s.heap h'->bP X.prog X.w H h':=λ{a h'} ha hs b ob e=>by
  obtain⟨_,_,hfree⟩:=ha;refine(I.hok b ob e).stay (λc w' hc q=>(hs.2 c ?_).trans q) (λ_ q=>q) λ_ _ q=>q;rintro rfl;rcases hc with rfl|hc
  .rw[hfree]at e;cases e
  .rw[hfree]at hc;cases hc
 rcases hx with hk|hk
 .refine wpAny_storeName_local hk hn (λh' hn' hs=>?_) hcls;obtain⟨oL,_,_,hoL,_⟩:=id hn;refine h _ ⟨I.ok,I.os,I.bare,⟨λb o e n hb hx=>?_,λb o e n hb hx=>?_,I.base.free,λb o e hx=>?_,I.base.tups,I.base.frzs,I.base.tbls⟩,⟨_,hn',λj y v' e1 e2 e3=>?_⟩,λy c e=>?_,I.free,I.freeC,λp hp=>?_,tracked ⟨oL,hoL,I.free⟩ hs,by simpa using I.len⟩ ⟨_,hs,.inl rfl⟩
  .exact (hs.2 b (QL (Qh (Qu e) I.ok.above))).trans (I.base.keep b o e n hb hx)
  .obtain ⟨sl,e1⟩:=I.base.slot b o e n hb hx;exact⟨sl,(hs.2 b (QL (Qh (Qu e) I.ok.above))).trans e1⟩
  .obtain ⟨o',e1⟩:=I.base.there b o e hx;exact⟨o',(hs.2 b (QL (Qh (Qu e) I.ok.above))).trans e1⟩
  .by_cases hj:j=i
   .subst hj;rw[hi]at e1;cases e1;rw[QO hiσ]at e2;cases e2;exact⟨u,r,.inl ⟨hk,by simp⟩⟩
   .rw[Qg (Ne.symm hj)]at e2;obtain⟨u',r',q⟩:=hl j y v' e1 e2 e3;refine⟨u',r',?_⟩;rcases q with⟨k,e⟩|⟨k,c,e,z⟩
    .refine .inl ⟨k,?_⟩;have:y≠x:=λe=>hj (jZ hN e1 (e▸hi));simp[this,e]
    .exact .inr ⟨k,c,e,z.sameBut hs (cne y c e)⟩
  .obtain ⟨w',z⟩:=I.cell y c e;exact⟨w',z.sameBut hs (cne y c e)⟩
  .obtain ⟨e,n,ne,nf,d⟩:=I.pin p hp;exact⟨(hs.2 p.1 ne).trans e,n,ne,nf,d⟩
 .have hfn:X.fn x=true:=by
   rcases hf with z|z
   .exact z
   .rw[z]at hk;cases hk
  obtain⟨c,hc⟩:=I.ok.has x (.inl hk);obtain⟨w',z⟩:=I.cell x c hc;refine wpAny_storeName_cell I.ok.kind hk hc z (λh' hc' hs=>?_);obtain⟨oc,hoc,hocd⟩:=id z;refine h {s with heap:=h' } ⟨I.ok,I.os,I.bare,⟨λb o e n hb hx=>?_,λb o e n hb hx=>?_,I.base.free,λb o e hx=>?_,I.base.tups,I.base.frzs,I.base.tbls⟩,⟨m,hn.sameBut hs (Ne.symm (cne x c hc)),λj y v' e1 e2 e3=>?_⟩,λy c' e=>?_,I.free,I.freeC,λp hp=>?_,tracked ⟨oc,hoc,I.freeC x c hc⟩ hs,by simpa using I.len⟩ ⟨c,hs,.inr hc⟩
  .exact (hs.2 b (QL (Qh (Qu e) (I.ok.cab x c hfn hc)))).trans (I.base.keep b o e n hb hx)
  .obtain ⟨sl,e1⟩:=I.base.slot b o e n hb hx;exact⟨sl,(hs.2 b (QL (Qh (Qu e) (I.ok.cab x c hfn hc)))).trans e1⟩
  .obtain ⟨o',e1⟩:=I.base.there b o e hx;exact⟨o',(hs.2 b (QL (Qh (Qu e) (I.ok.cab x c hfn hc)))).trans e1⟩
  .by_cases hj:j=i
   .subst hj;rw[hi]at e1;cases e1;rw[QO hiσ]at e2;cases e2;exact⟨u,r,.inr ⟨.inl hk,c,hc,hc'⟩⟩
   .rw[Qg (Ne.symm hj)]at e2;obtain⟨u',r',q⟩:=hl j y v' e1 e2 e3;refine⟨u',r',?_⟩;rcases q with q|⟨k,c',e,z'⟩
    .exact .inl q
    .refine .inr ⟨k,c',e,z'.sameBut hs ?_⟩;rintro rfl;exact hj (jZ hN e1 (I.ok.inj _ _ _ e hc▸hi))
  .by_cases hcc:c'=c
   .subst hcc;exact⟨_,hc'⟩
   .obtain ⟨w2,z2⟩:=I.cell y c' e;exact⟨w2,z2.sameBut hs hcc⟩
  .obtain ⟨e,n,ne,nf,d⟩:=I.pin p hp;refine⟨(hs.2 p.1 ?_).trans e,n,ne,nf,d⟩;intro q;rw[q,hoc]at e;have q':oc=p.2:=Option.some.inj e;exact d w' (by rw[<-q'];exact hocd)
def j4 (I:Inv X pins σ H s)(hN:X.N.Nodup)(hi:X.N[i]?=some x)(hx:Loc X.env.scope x)(r:RelV v u)(h:∀s',Inv X pins (σ.set i (some v)) H s'->Q () s')(hf:X.fn x=true\/X.env.scope.names.lookup x=some .local:=by first|exact .inl rfl|exact .inr rfl|assumption):Lm M A (storeName X.env x u) Q E s:=
 g0 I hN hi hx r (λs' I' _=>h s' I') hf
def Inv.call'{s':Shared}{ch:List Addr}(I:Inv X pins σ H s)(ho:s'.os=s.os)(u:Un (bz X.stack) ch H H' s.heap s'.heap)(hok:bP X.prog X.w H' s'.heap)(hg:Li s'.gens)
  (hch:∀b∈ch,(b∈X.ex\/X.s₀.heap.objs.size<=b)/\b≠X.env.locals/\(∀x c,X.env.cells.lookup x=some c->c≠b)/\∀p∈X.pn++pins,p.1≠b):Inv X pins σ H' s':=by
 obtain⟨h',g',d',t',o'⟩:=s';have e:o'=s.os:=ho;subst e;exact I.call (g':=g') (t':=t') (d':=d') u hok hg hch
end
abbrev XK:=Value->Option Addr->Hp->Prop
abbrev St:=List (Option V)
abbrev VK:=V->Hp->Prop
abbrev TE:=St->Hp->VK->Prop
abbrev TT:=St->Hp->(Bool->Hp->Prop)->Prop
abbrev TA:=St->Hp->(List V->Hp->Prop)->Prop
set_option genInjectivity false in
structure cb where
 nx:St->Hp->Prop
 rt:VK
 bk:St->Hp->Prop:=λ_ _=>False
 ct:St->Hp->Prop:=λ_ _=>False
abbrev TS:=cb->St->Hp->Prop
noncomputable def EP(X:Cx)(pins:List (Addr×Obj))(σ:St)(Q:VK)(u:Value)(s':Shared):Prop:=∃v H',Inv X pins σ H' s'/\RelV v u/\Q v H'
noncomputable def TP(X:Cx)(pins:List (Addr×Obj))(σ:St)(Q:Bool->Hp->Prop)(b:Bool)(s':Shared):Prop:=∃H',Inv X pins σ H' s'/\Q b H'
noncomputable def AP(X:Cx)(pins:List (Addr×Obj))(σ:St)(Q:List V->Hp->Prop)(us:List Value)(s':Shared):Prop:=∃vs H',Inv X pins σ H' s'/\aA vs us/\Q vs H'
noncomputable def SP(X:Cx)(pins:List (Addr×Obj))(D:cb)(f:Flow)(s':Shared):Prop:=
 match f with
 |.next=>∃σ' H',Inv X pins σ' H' s'/\D.nx σ' H'
 |.brk=>∃σ' H',Inv X pins σ' H' s'/\D.bk σ' H'
 |.cont=>∃σ' H',Inv X pins σ' H' s'/\D.ct σ' H'
 |.ret u=>∃v σ' H',Inv X pins σ' H' s'/\RelV v u/\D.rt v H'
noncomputable def PE(X:Cx)(e:Expr)(t:TE):Prop:=
 ∀(pins:List (Addr×Obj)) (s:Shared) (σ:St) (H:Hp) (Q:VK),Inv X pins σ H s->t σ H Q->Lm (Ln X.prog X.w) X.A (eval e X.env) (EP X pins σ Q) X.xe s
noncomputable def PT(X:Cx)(e:Expr)(t:TT):Prop:=
 ∀(pins:List (Addr×Obj)) (s:Shared) (σ:St) (H:Hp) (Q:Bool->Hp->Prop),Inv X pins σ H s->t σ H Q->Lm (Ln X.prog X.w) X.A (isTrue e X.env (eval e X.env)) (TP X pins σ Q) X.xe s
noncomputable def PW(X:Cx)(e:Expr)(t:TT):Prop:=
 ∀(whole:Sem Value) (pins:List (Addr×Obj)) (s:Shared) (σ:St) (H:Hp) (Q:Bool->Hp->Prop),Inv X pins σ H s->t σ H Q->Lm (Ln X.prog X.w) X.A (isTrue e X.env whole) (TP X pins σ Q) X.xe s
def PW.pt (h:PW X e t):PT X e t:=h _
noncomputable def PA(X:Cx)(es:List Expr)(t:TA):Prop:=
 ∀(pos:Pos) (pins:List (Addr×Obj)) (s:Shared) (σ:St) (H:Hp) (Q:List V->Hp->Prop),Inv X pins σ H s->t σ H Q->Lm (Ln X.prog X.w) X.A (spliced (Lo pos (Lp es X.env))) (AP X pins σ Q) X.xe s
noncomputable def PS(X:Cx)(st:Stmt)(t:TS):Prop:=
 ∀(pins:List (Addr×Obj)) (s:Shared) (σ:St) (H:Hp) (D:cb),Inv X pins σ H s->t D σ H->Lm (Ln X.prog X.w) X.A (exec st X.env) (SP X pins D) X.xe s
noncomputable def cf(X:Cx)(st:List Stmt)(t:TS):Prop:=
 ∀(pins:List (Addr×Obj)) (s:Shared) (σ:St) (H:Hp) (D:cb),Inv X pins σ H s->t D σ H->Lm (Ln X.prog X.w) X.A (execs st X.env) (SP X pins D) X.xe s
def bc (h:Lm M A t Q E s)(hQ:∀a s,Q a s->Q' a s):Lm M A t Q' E s:=Lq h hQ λ_ _ x=>x
section
variable{X:Cx}
noncomputable def ii(i:Nat):TE:=λσ H Q=>∃v,σ[i]?=some (some v)/\Q v H
noncomputable def tC(v:V):TE:=λ_ H Q=>Q v H
def jc (hN:X.N[i]?=some x)(hv:fU X.env.scope x)(hd:(x==("__debug__":Str))=false:=by decide)(hcd:(x==("__classdict__":Str))=false:=by decide):PE X (.Name x pos) (ii i):=by
 intro pins s σ H Q I h;obtain⟨v,e,h⟩:=h;obtain⟨m,hn,hl⟩:=I.loc;obtain⟨u,r,l⟩:=hl i x v hN e hv;have fin:EP X pins σ Q u s:=⟨v,H,I,r,h⟩;rcases l with⟨hk,hm⟩|⟨hk,c,hc,hcell⟩
 .exact wpAny_Name (wpAny_loadName_local I.ok.kind hk hn hm fin) hd
 .rcases hk with hk|hk
  .exact wpAny_Name (wpAny_loadName_cell I.ok.kind hk hc hcell fin) hd
  .exact wpAny_Name (wpAny_loadName_free I.ok.kind hk hc hcell fin hcd) hd
def E4{i j pos}:PE X (.Constant (.int i) j pos) (tC (.int i)):=λ_ _ _ H _ I h=>wpAny_Constant_int ⟨.int i,H,I.tok _,⟨_,rfl⟩,h⟩
def Dh{b j pos}:PE X (.Constant (.bool b) j pos) (tC (.bl b)):=λ_ _ _ H _ I h=>Constant_bool ⟨.bl b,H,I,rfl,h⟩
def nh{j pos}:PE X (.Constant .none j pos) (tC .non):=λ_ _ _ H _ I h=>Constant_none ⟨.non,H,I,rfl,h⟩
def qM{x j pos}:PE X (.Constant (.str x) j pos) (tC (.str x)):=λ_ _ _ H _ I h=>Calls.Constant_str ⟨.str x,H,I.tok _,⟨_,rfl⟩,h⟩
noncomputable def Gl(X:Cx)(x:Str):Prop:=X.env.kindOf x=some .globalImplicit
def jP (I:Inv X pins σ H s)(hg:Gl X x)(hm:X.mg x=some u)(h:Q u s)(hd:(x==("__debug__":Str))=false:=by decide):Lm (Ln X.prog X.w) X.A (eval (.Name x pos) X.env) Q E s:=
 Calls.Name_function_global I.ok.kind hg (Calls.loadGlobal_global (by rw[I.ok.glob];exact I.mod.glob.keeps I.bk) hm h) hd
def kh (I:Inv X pins σ H s)(hg:Gl X x)(hm:X.mg x=none)(hv:Lg x=some u)(h:Q u s)(hn:x ≠ "__name__":=by decide)(hd:(x==("__debug__":Str))=false:=by decide):Lm (Ln X.prog X.w) X.A (eval (.Name x pos) X.env) Q E s:=by
 obtain⟨mb,h1,h2⟩:=I.mod.blt;exact Calls.Name_function_global I.ok.kind hg (Calls.loadGlobal_builtin (by rw[I.ok.glob];exact I.mod.glob.keeps I.bk) hm (by rw[I.ok.blt];exact h1.keeps I.bk) ((h2 x hn).trans hv) h) hd
def qN (hg:Gl X x)(hm:X.mg x=some u)(r:RelV v u)(hd:(x==("__debug__":Str))=false:=by decide):PE X (.Name x pos) (tC v):=
 λ_ _ _ H _ I h=>jP I hg hm ⟨v,H,I,r,h⟩ hd
def uL (hg:Gl X x)(hm:X.mg x=none)(hv:Lg x=some u)(r:RelV v u)(hn:x ≠ "__name__":=by decide)(hd:(x==("__debug__":Str))=false:=by decide):PE X (.Name x pos) (tC v):=
 λ_ _ _ H _ I h=>kh I hg hm hv ⟨v,H,I,r,h⟩ hn hd
variable{a b:Expr}{ta tb:TE}{pos:Pos}
noncomputable def tB(t:TE):TT:=λσ H Q=>t σ H λx H1=>∃c,x=.bl c/\Q c H1
def qO (h:PE X e t)(he:∀whole,isTrue e X.env whole=(do let v <-whole;standAt e.pos;holding [v] (truthy v)):=by intro _;rfl):PT X e (tB t):=by
 intro pins s σ H Q I hw;refine isTrue_plain (bc (h pins s σ H _ I hw) λv s1 ⟨x,H1,I1,r1,q1⟩=>?_) (he _);obtain⟨d,rfl,q⟩:=q1;cases r1;exact Lr ⟨H1,I1,q⟩
variable{tA tB':TT}{rest:List Expr}
noncomputable def oK(t u:TT):TT:=λσ H Q=>t σ H λc H1=>if c=true then u σ H1 Q else Q false H1
noncomputable def Jm(t u:TT):TT:=λσ H Q=>t σ H λc H1=>if c=true then Q true H1 else u σ H1 Q
noncomputable def oE(t:TT):TT:=λσ H Q=>t σ H λc H1=>Q (! c) H1
def Fc(ha:PT X a tA):PW X (.BoolOp .And [a] pos) tA:=by
 intro wh pins s σ H Q I h;refine isTrue_and (bc (ha pins s σ H Q I h) λc s1 e=>?_);cases c with
 |true=>exact isTrue_and_nil e
 |false=>exact e
def um(ha:PT X a tA):PW X (.BoolOp .Or [a] pos) tA:=by
 intro wh pins s σ H Q I h;refine isTrue_or (bc (ha pins s σ H Q I h) λc s1 e=>?_);cases c with
 |false=>exact isTrue_or_nil e
 |true=>exact e
def DN(ha:PT X a tA)(hb:PW X (.BoolOp .And (b::rest) pos) tB'):PW X (.BoolOp .And (a::b::rest) pos) (oK tA tB'):=by
 intro wh pins s σ H Q I h;refine isTrue_and (bc (ha pins s σ H _ I h) λc s1 ⟨H1,I1,q1⟩=>?_);cases c with
 |true=>exact hb wh pins s1 σ H1 Q I1 q1
 |false=>exact⟨H1,I1,q1⟩
def sO(ha:PT X a tA)(hb:PW X (.BoolOp .Or (b::rest) pos) tB'):PW X (.BoolOp .Or (a::b::rest) pos) (Jm tA tB'):=by
 intro wh pins s σ H Q I h;refine isTrue_or (bc (ha pins s σ H _ I h) λc s1 ⟨H1,I1,q1⟩=>?_);cases c with
 |true=>exact⟨H1,I1,q1⟩
 |false=>exact hb wh pins s1 σ H1 Q I1 q1
def ng(ha:PT X a tA):PT X (.UnaryOp .Not a pos) (oE tA):=by
 intro pins s σ H Q I h;exact isTrue_not (ha pins s σ H (λc H1=>Q (! c) H1) I h)
noncomputable def Dg(ta tb:TE):TE:=λσ H Q=>ta σ H λx H1=>∃c,x=.bl c/\if c=true then tb σ H1 Q else Q (.bl false) H1
noncomputable def oC(ta tb:TE):TE:=λσ H Q=>ta σ H λx H1=>∃c,x=.bl c/\if c=true then Q (.bl true) H1 else tb σ H1 Q
noncomputable def Df(ta:TE):TE:=λσ H Q=>ta σ H λx H1=>∃c,x=.bl c/\Q (.bl (! c)) H1
def ul {op}(h:PE X a t):PE X (.BoolOp op [a] pos) t:=λpins s σ H Q I hw=>BoolOp_one (h pins s σ H Q I hw)
def DM(ha:PE X a ta)(hb:PE X (.BoolOp .And (b::rest) pos) tb):PE X (.BoolOp .And (a::b::rest) pos) (Dg ta tb):=by
 intro pins s σ H Q I h;refine BoolOp_and (bc (ha pins s σ H _ I h) λv s1 ⟨x,H1,I1,r1,q1⟩=>?_);obtain⟨c,rfl,q1⟩:=q1;cases r1;refine Lr ?_;cases c with
 |true=>exact hb pins s1 σ H1 Q I1 q1
 |false=>exact⟨.bl false,H1,I1,rfl,q1⟩
def Dd(ha:PE X a ta)(hb:PE X (.BoolOp .Or (b::rest) pos) tb):PE X (.BoolOp .Or (a::b::rest) pos) (oC ta tb):=by
 intro pins s σ H Q I h;refine BoolOp_or (bc (ha pins s σ H _ I h) λv s1 ⟨x,H1,I1,r1,q1⟩=>?_);obtain⟨c,rfl,q1⟩:=q1;cases r1;refine Lr ?_;cases c with
 |false=>exact hb pins s1 σ H1 Q I1 q1
 |true=>exact⟨.bl true,H1,I1,rfl,q1⟩
def DL(ha:PE X a ta):PE X (.UnaryOp .Not a pos) (Df ta):=by
 intro pins s σ H Q I h;refine UnaryOp_ (bc (ha pins s σ H _ I h) λv s1 ⟨x,H1,I1,r1,q1⟩=>?_);obtain⟨c,rfl,q1⟩:=q1;cases r1;exact not_of (Lr ⟨.bl (! c),H1,I1,rfl,q1⟩)
noncomputable def AI(t:TT)(ta tb:TE):TE:=λσ H Q=>t σ H λc H1=>if c=true then ta σ H1 Q else tb σ H1 Q
def Ih (hc:PT X c tA)(ha:PE X a ta)(hb:PE X b tb):PE X (.IfExp c a b pos) (AI tA ta tb):=by
 intro pins s σ H Q I h;refine wpAny_IfExp (bc (hc pins s σ H _ I h) λd s1 ⟨H1,I1,q1⟩=>?_);cases d with
 |true=>exact ha pins s1 σ H1 Q I1 q1
 |false=>exact hb pins s1 σ H1 Q I1 q1
end
noncomputable def bE(K:Qb)(H:Hp)(a:Addr)(xs:List V):Prop:=
 Rd H a (.lst xs) \/
  ∃(o:Obj) (its:Array Value) (n:Nat),K.lookup a=some o/\o.cls=.type "list" /\ o.dict=none/\o.data=.seq its n/\its.size<=sizeLine/\aA xs its.toList
noncomputable def bU(K:Qb)(H:Hp)(a:Addr)(xs:List V):Prop:=
 Rd H a (.tup xs) \/
  ∃(o:Obj) (its:Array Value) (n:Nat),K.lookup a=some o/\o.cls=.type "tuple" /\ o.data=.seq its n/\its.size<=sizeLine/\aA xs its.toList
noncomputable def rh:Value->Option V
 |.none=>some .non
 |.bool b=>some (.bl b)
 |.int i _=>some (.int i)
 |.str x _=>some (.str x)
 |.bytes b _=>some (.byt b)
 |.float b _=>some (.flt b)
 |.ref a=>some (.ref a)
 |.type n=>some (.ty n)
 |_=>none
def RelV.abs (r:RelV x u):rh u=some x:=by
 cases x with
 |non=>cases r;rfl
 |bl _=>cases r;rfl
 |int _=>obtain⟨t,rfl⟩:=r;rfl
 |str _=>obtain⟨t,rfl⟩:=r;rfl
 |byt _=>obtain⟨t,rfl⟩:=r;rfl
 |flt _=>obtain⟨t,rfl⟩:=r;rfl
 |ref _=>cases r;rfl
 |ty _=>cases r;rfl
theorem RelV.inj (r:RelV x u)(q:RelV y u):x=y:=Option.some.inj (r.abs.symm.trans q.abs)
theorem aA.inj:∀{xs ys:List V}{us:List Value},aA xs us->aA ys us->xs=ys
 |_,_,_,.nil,.nil=>rfl
 |_,_,_,.cons r t,.cons r' t'=>by rw[r.inj r',aA.inj t t']
section
variable{X:Cx}{pins:List (Addr×Obj)}{σ:St}{H:Hp}{s:Shared}{a:Addr}{xs ys:List V}
def bE.of{K:Qb}(h:H a=some (.lst xs)):bE K H a xs:=.inl (.inl h)
def bU.of{K:Qb}(h:H a=some (.tup xs)):bU K H a xs:=.inl (.inl h)
def Inv.list(I:Inv X pins σ H s)(h:bE X.K H a xs):∃its:List Value,aA xs its/\PlainL s.heap a its.toArray/\xs.length<=sizeLine:=by
 rcases h with h|⟨o,its,n,hk,hc,hd,hs,hz,r⟩
 .obtain ⟨z,its,n,r,e⟩:=h.ok I.hok;exact⟨its,r,⟨_,n,e,rfl,rfl,rfl⟩,z⟩
 .refine ⟨its.toList,r,⟨o,n,I.kIn a o hk,hc,hd,by simpa using hs⟩,?_⟩;have e:=r.length;simp only[WL]at e;lia
def Inv.tuple(I:Inv X pins σ H s)(h:bU X.K H a xs):∃its:List Value,aA xs its/\IsTup s.heap a its.toArray/\xs.length<=sizeLine:=by
 rcases h with h|⟨o,its,n,hk,hc,hs,hz,r⟩
 .obtain ⟨z,its,r,p⟩:=h.ok I.hok;exact⟨its,r,p,z⟩
 .refine ⟨its.toList,r,⟨o,I.kIn a o hk,hc,n,by simpa using hs⟩,?_⟩;have e:=r.length;simp only[WL]at e;lia
def Inv.list_inj(I:Inv X pins σ H s)(h:bE X.K H a xs)(h':bE X.K H a ys):xs=ys:=by
 obtain⟨its,r,⟨o,n,e,_,_,d⟩,_⟩:=I.list h;obtain⟨its',r',⟨o',n',e',_,_,d'⟩,_⟩:=I.list h';rw[e]at e';cases e';rw[d]at d';injection d' with d1 _
 have:its=its':=by simpa using MQ Vd d1
 subst this;exact r.inj r'
def Inv.tuple_inj(I:Inv X pins σ H s)(h:bU X.K H a xs)(h':bU X.K H a ys):xs=ys:=by
 obtain⟨its,r,⟨o,e,_,n,d⟩,_⟩:=I.tuple h;obtain⟨its',r',⟨o',e',_,n',d'⟩,_⟩:=I.tuple h';rw[e]at e';cases e';rw[d]at d';injection d' with d1 _
 have:its=its':=by simpa using MQ Vd d1
 subst this;exact r.inj r'
end
abbrev Cx.wish(X:Cx)(E:Value->Shared->Prop):Cx:={X with xe:=E}
abbrev Cx.nox(X:Cx):Cx:=X.wish λ_ _=>False
theorem Cx.Ok.wish{X:Cx}(ok:X.Ok)(E:Value->Shared->Prop):(X.wish E).Ok:=
 ⟨ok.mod,ok.kind,ok.glob,ok.blt,ok.above,ok.inj,ok.has,ok.cab,ok.hd,ok.frames,ok.stk,ok.exf,ok.bs,ok.bsz,ok.noex,ok.exfs,ok.funs,ok.frf⟩
def Cx.Ok.unwish {X:Cx}(ok:(X.wish E).Ok):X.Ok:=
 ⟨ok.mod,ok.kind,ok.glob,ok.blt,ok.above,ok.inj,ok.has,ok.cab,ok.hd,ok.frames,ok.stk,ok.exf,ok.bs,ok.bsz,ok.noex,ok.exfs,ok.funs,ok.frf⟩
section
variable{X:Cx}{pins:List (Addr×Obj)}{σ:St}{H:Hp}{s:Shared}{E:Value->Shared->Prop}
theorem Inv.wish(I:Inv X pins σ H s)(E:Value->Shared->Prop):Inv (X.wish E) pins σ H s:=⟨I.ok.wish E,I.os,I.bare,I.base,I.loc,I.cell,I.free,I.freeC,I.pin,I.hok,I.len⟩
theorem Inv.unwish(I:Inv (X.wish E) pins σ H s):Inv X pins σ H s:=⟨I.ok.unwish,I.os,I.bare,I.base,I.loc,I.cell,I.free,I.freeC,I.pin,I.hok,I.len⟩
theorem SP.unwish{D:cb}{f:Flow}{s':Shared}(h:SP (X.wish E) pins D f s'):SP X pins D f s':=by
 cases f with
 |next=>obtain⟨σ',H',I,q⟩:=h;exact⟨σ',H',I.unwish,q⟩
 |brk=>obtain⟨σ',H',I,q⟩:=h;exact⟨σ',H',I.unwish,q⟩
 |cont=>obtain⟨σ',H',I,q⟩:=h;exact⟨σ',H',I.unwish,q⟩
 |ret u=>obtain⟨v,σ',H',I,r,q⟩:=h;exact⟨v,σ',H',I.unwish,r,q⟩
theorem cf.nox{st:List Stmt}{t:TS}(h:cf X.nox st t):cf X st t:=λpins s σ H D I hw=>
 Lq (h pins s σ H D (I.wish _) hw) (λ_ _ q=>q.unwish) λ_ _ z=>False.elim z
end
section
variable{X:Cx}{st:Stmt}{rest:List Stmt}{t u:TS}{e:Expr}{te:TE}{pos:Pos}
noncomputable def Dc:TS:=λD σ H=>D.nx σ H
noncomputable def oA(t u:TS):TS:=λD σ H=>t {D with nx:=u D} σ H
def vL:cf X [] Dc:=λ_ _ σ H _ I h=>Ls ⟨σ,H,I,h⟩
set_option tactic.hygienic true in
def xC(h1:PS X st t)(h2:cf X rest u):cf X (st::rest) (oA t u):=by
 intro pins s σ H D I h;refine Lu (bc (h1 pins s σ H {D with nx:=u D} I h) λf s1 q=>?_);cases f with
 |next=>
  obtain⟨σ',H',I',q⟩:=q;exact h2 pins s1 σ' H' D I' q
 |ret v=>exact q
 |brk=>exact q
 |cont=>exact q
def xz(h1:PS X st t):cf X [st] t:=by
 intro pins s σ H D I h;refine Lu (bc (h1 pins s σ H D I h) λf s1 q=>?_);cases f with
 |next=>exact Ls q
 |ret v=>exact q
 |brk=>exact q
 |cont=>exact q
def Inv.quiet (I:Inv X pins σ H s):interactive X.env=false:=by simp[interactive,I.ok.kind]
noncomputable def Db(te:TE):TS:=λD σ H=>te σ H λ_ H1=>D.nx σ H1
def Fb(he:PE X e te)(hs:Lw e none pos.line X.env=pure false:=by rfl):PS X (.Expr e pos) (Db te):=by
 intro pins s σ H D I h;exact wpAny_Expr_any (bc (he pins s σ H _ I h) λv s1 ⟨x,H1,I1,r1,q1⟩=>⟨σ,H1,I1,q1⟩) I.quiet hs
noncomputable def oB(te:TE):TS:=λD σ H=>te σ H D.rt
def jd(he:PE X e te):PS X (.Return (some e) pos) (oB te):=by
 intro pins s σ H D I h;exact wpAny_Return_some (bc (he pins s σ H _ I h) λv s1 ⟨x,H1,I1,r1,q1⟩=>⟨x,σ,H1,I1,r1,q1⟩)
noncomputable def oH(c:TT)(t u:TS):TS:=λD σ H=>c σ H λb H1=>if b=true then t D σ H1 else u D σ H1
def g9 (hc:PT X c tc)(ha:cf X a t)(hb:cf X b u):PS X (.If c a b pos) (oH tc t u):=by
 intro pins s σ H D I h;refine wpAny_If (bc (hc pins s σ H _ I h) λd s1 ⟨H1,I1,q1⟩=>?_);cases d with
 |true=>exact ha pins s1 σ H1 D I1 q1
 |false=>exact hb pins s1 σ H1 D I1 q1
noncomputable def DK:TS:=λ_ _ _=>False
def Ig:PS X st DK:=λ_ _ _ _ _ _ h=>h.elim
end
abbrev TG:=V->St->Hp->(St->Hp->Prop)->Prop
abbrev fG:=List V->St->Hp->(St->Hp->Prop)->Prop
noncomputable def PG(X:Cx)(target:Expr)(t:TG):Prop:=
 ∀(pins:List (Addr×Obj)) (s:Shared) (σ:St) (H:Hp) (v:V) (u:Value) (Q:St->Hp->Prop),Inv X pins σ H s->RelV v u->t v σ H Q ->
  Lm (Ln X.prog X.w) X.A (assign target X.env u) (λ_ s'=>∃σ' H',Inv X pins σ' H' s'/\Q σ' H') X.xe s
noncomputable def lS(X:Cx)(ts:List Expr)(t:fG):Prop:=
 ∀(pins:List (Addr×Obj)) (s:Shared) (σ:St) (H:Hp) (vs:List V) (us:List Value) (Q:St->Hp->Prop),Inv X pins σ H s->aA vs us->t vs σ H Q ->
  Lm (Ln X.prog X.w) X.A (assignInOrder ((Lx ts X.env).map (·.2)) us) (λ_ s'=>∃σ' H',Inv X pins σ' H' s'/\Q σ' H') X.xe s
abbrev mz:=V->V->V->Hp->(Hp->Prop)->Prop
noncomputable def sB(X:Cx)(t:mz):Prop:=
 ∀(pins:List (Addr×Obj)) (s:Shared) (σ:St) (H:Hp) (o i v:V) (ov iv u:Value) (Q:Hp->Prop),Inv X pins σ H s->RelV o ov->RelV i iv->RelV v u->t o i v H Q ->
  Lm (Ln X.prog X.w) X.A (setItem ov iv u) (λ_ s'=>∃H',Inv X pins σ H' s'/\Q H') X.xe s
section
variable{X:Cx}{pos:Pos}
noncomputable def x9(i:Nat):TG:=λv σ H Q=>Q (σ.set i (some v)) H
def xh (hN:X.N.Nodup)(hi:X.N[i]?=some x)(hx:Loc X.env.scope x)(hf:X.fn x=true\/X.env.scope.names.lookup x=some .local:=by first|exact .inl rfl|exact .inr rfl|assumption):PG X (.Name x pos) (x9 i):=by
 intro pins s σ H v u Q I r h;exact wpAny_assign_Name (j4 I hN hi hx r (λs' I'=>⟨_,H,I',h⟩) hf)
noncomputable def il:fG:=λvs σ H Q=>vs=[]/\Q σ H
noncomputable def v9(t:TG)(u:fG):fG:=λvs σ H Q=>∃v r,vs=v::r/\t v σ H λσ' H'=>u r σ' H' Q
def jQ:lS X [] il:=by
 intro pins s σ H vs us Q I r h;obtain⟨e,h⟩:=h;subst e;cases r;exact assignInOrder_nil ⟨σ,H,I,h⟩
def xi (h1:PG X e t)(h2:lS X es u)(hs:(Lx (e::es) X.env).map (·.2)=assign e X.env::(Lx es X.env).map (·.2):=by rfl):lS X (e::es) (v9 t u):=by
 intro pins s σ H vs us Q I r h;obtain⟨v,vr,e1,h⟩:=h;subst e1;cases r with
 |cons r rr=>
  rw[hs];refine assignInOrder_cons (bc (h1 pins s σ H _ _ _ I r h) λ_ s1 ⟨σ1,H1,I1,q1⟩=>?_);exact h2 pins s1 σ1 H1 _ _ Q I1 rr q1
noncomputable def ik(K:Qb)(n:Nat)(t:fG):TG:=λv σ H Q=>∃a xs,v=.ref a/\bU K H a xs/\xs.length=n/\t xs σ H Q
def qQ (hc:X.calm=true)(h:lS X es t)(hn:(Lx es X.env).length=n:=by rfl)(hst:(Lx es X.env).findIdx? (·.1)=none:=by rfl):PG X (.Tuple es k pos) (ik X.K n t):=by
 intro pins s σ H v u Q I r hw;obtain⟨a,xs,e1,hq,hl,hw⟩:=hw;subst e1;cases r;obtain⟨its,rv,ht,hz⟩:=I.tuple hq;refine assign_Tuple_tuple (I.ok.hd hc) ht (by simp[hn,<-hl,rv.length]) hst λh' hx=>?_;have I1:Inv X pins σ H {s with heap:=h' }:=I.kept (t':=s.toks) λb o e=>hx b o (QL (Qu e)) e;exact h pins _ σ H xs _ Q I1 (by simpa using rv) hw
noncomputable def pH(to ti:TE)(t:mz):TG:=λv σ H Q=>to σ H λo H1=>ti σ H1 λi H2=>t o i v H2 λH3=>Q σ H3
def DJ (ho:PE X o to)(hi:PE X i ti)(hs:sB X t)(ha:∀v,assign (.Subscript o i pos) X.env v=(do
   let ov <-holding [v] (eval o X.env)
   let iv <-holding [v,ov] (eval i X.env)
   standAt pos
   holding [v,ov,iv] (setItem ov iv v)
   release [v,ov,iv] []):=by intro _;rfl):PG X (.Subscript o i pos) (pH to ti t):=by
 intro pins s σ H v u Q I r h;rw[ha];refine Ly (Lz (bc (ho pins s σ H _ I h) λov s1 ⟨x,H1,I1,r1,q1⟩=>?_));refine Ly (Lz (bc (hi pins s1 σ H1 _ I1 q1) λiv s2 ⟨y,H2,I2,r2,q2⟩=>?_));refine Ly (LA (Ly (Lz (bc (hs pins s2 σ H2 x y v ov iv u _ I2 r1 r2 r q2) λ_ s3 ⟨H3,I3,q3⟩=>?_))));exact wpAny_release ⟨σ,H3,I3,q3⟩
noncomputable def ij(te:TE)(g:TG):TS:=λD σ H=>te σ H λx H1=>g x σ H1 D.nx
def uk (he:PE X e te)(hg:PG X tg g)(hs:swapsWithSole [tg] e pos.line X.env=pure false:=by rfl)(hw:swappedStores [tg] e X.env=pure none:=by rfl)(h1:(Lx [tg] X.env).map (·.2)=[assign tg X.env]:=by rfl):PS X (.Assign [tg] e pos) (ij te g):=by
 intro pins s σ H D I h;refine wpAny_Assign_stores (bc (he pins s σ H _ I h) λv s1 ⟨x,H1,I1,r1,q1⟩=>?_) hs hw;rw[h1];exact bc (hg pins s1 σ H1 x v _ I1 r1 q1) λ_ s2 q=>q
def uj (hN:X.N.Nodup)(hi:X.N[i]?=some x)(hx:Loc X.env.scope x)(he:PE X e te)(hs:Lw e (some (.Name x pos')) pos.line X.env=pure false:=by rfl)(hf:X.fn x=true\/X.env.scope.names.lookup x=some .local:=by first|exact .inl rfl|exact .inr rfl|assumption):
  PS X (.Assign [.Name x pos'] e pos) (ij te (x9 i)):=by
 intro pins s σ H D I h;refine wpAny_Assign_Name (bc (he pins s σ H _ I h) λv s1 ⟨y,H1,I1,r1,q1⟩=>?_) hs;exact j4 I1 hN hi hx r1 (λs2 I2=>⟨_,H1,I2,q1⟩) hf
end
section
variable{X:Cx}{pos:Pos}
noncomputable def uh(c:TT)(tb:TS):TS:=λD σ H=>∃W:Nat->St->Hp->Prop,(∃m,W m σ H)/\∀m σ H,W m σ H ->
 c σ H λb H1=>if b=true then ∃N:St->Hp->Prop,(∀σ' H',N σ' H'->∃m',m'<m/\W m' σ' H')/\tb {D with nx:=N,ct:=N,bk:=D.nx} σ H1 else D.nx σ H1
set_option tactic.hygienic true in
def GU (hp:PassesOwn (Ln X.prog X.w) X.A X.env X.xe)(hc:PT X c tc)(hb:cf X body tb):PS X (.While c body [] pos) (uh tc tb):=by
 intro pins s σ H D I h;obtain⟨W,⟨m0,w0⟩,turn⟩:=h;refine wpAny_While (codeAny_whileLoop (λn s'=>∃σ' H',Inv X pins σ' H' s'/\W n σ' H') ?_ m0 ⟨σ,H,I,w0⟩);rintro n s1 ⟨σ1,H1,I1,w1⟩;refine LB hp (bc (hc pins s1 σ1 H1 _ I1 (turn n σ1 H1 w1)) λb s2 ⟨H2,I2,q2⟩=>?_);cases b with
 |true=>
  obtain⟨N,hN,q2⟩:=q2;rw[MN rfl];refine LB hp (bc (hb pins s2 σ1 H2 _ I2 q2) λf s3 q3=>?_);cases f with
  |next=>
   obtain⟨σ3,H3,I3,n3⟩:=q3;obtain⟨m',hm,w3⟩:=hN σ3 H3 n3;exact⟨m',hm,σ3,H3,I3,w3⟩
  |cont=>
   obtain⟨σ3,H3,I3,n3⟩:=q3;obtain⟨m',hm,w3⟩:=hN σ3 H3 n3;exact⟨m',hm,σ3,H3,I3,w3⟩
  |brk=>exact q3
  |ret v=>exact q3
 |false=>
  rw[MO Wi];exact Ls ⟨σ1,H2,I2,q2⟩
end
set_option genInjectivity false in
structure It where
 go:Nat->Hp->Prop
 yld:Nat->Hp->V->Hp->Prop
 stop:Nat->Hp->Prop
noncomputable def jL(X:Cx)(pins:List (Addr×Obj))(H:Hp)(b:Addr):Prop:=
 H b=none/\b≠X.env.locals/\b∉X.fs/\(b∈X.ex\/X.s₀.heap.objs.size<=b)/\(∀x c,X.env.cells.lookup x=some c->c≠b)/\∀p∈X.pn++pins,p.1≠b
def Inv.fpOk (I:Inv X pins σ H s)(hb:s.heap.objs.size<=b)(hn:H' b=none):jL X pins H' b:=by
 refine⟨hn,WQ (Qh I.lt hb),I.nofs hb,.inr (Qp I.sz hb),λx c e z=>?_,λp hp z=>?_⟩
 .obtain ⟨v,q⟩:=I.cell x c e;exact MP (Qh q.lt (by rw[z];exact hb)) (QZ _)
 .exact MP (Qh (Qu (I.pin p hp).1) (by rw[z];exact hb)) (QZ _)
structure dF(P:Lb)(w:Lc)(K:Qb)(tg:Expr)(J:It)(fp:List Addr)(it:Addr)(tn:Nat->Ld->Prop):Prop where
 mem:it∈fp
 obj:∀i h,tn i h->∀b∈fp,∃o,h.get? b=some o/\∀v,o.data≠.cell v
 keep:∀i h h',tn i h->(∀b∈fp,∀o,h.get? b=some o->h'.get? b=some o)->tn i h'
 item:∀(X:Cx),X.prog=P->X.w=w->X.K=K->X.calm=true->∀(i:Nat) (pins:List (Addr×Obj)) (s:Shared) (σ:St) (H:Hp) (E:Value->Shared->Prop),Inv X pins σ H s->(∀b∈fp,jL X pins H b)->tn i s.heap->J.go i H ->
  Lm (Ln P w) X.A (pyNext (.ref it)) (λr s1=>∃u,r=some u /\
   Lm (Ln P w) X.A (LC tg (.ref it) u) (λ_ s2=>∃x H',Inv X pins σ H' s2/\RelV x u/\J.yld i H x H'/\tn (i+1) s2.heap/\∀b∈fp,H' b=none) E s1) E s
 done:∀(X:Cx),X.prog=P->X.w=w->X.K=K->X.calm=true->∀(i:Nat) (pins:List (Addr×Obj)) (s:Shared) (σ:St) (H:Hp) (E:Value->Shared->Prop),Inv X pins σ H s->(∀b∈fp,jL X pins H b)->tn i s.heap->J.stop i H ->
  Lm (Ln P w) X.A (pyNext (.ref it)) (λr s1=>r=none/\Inv X pins σ H s1) E s
 self:∀(A:Lh) (i:Nat) (s:Shared) (Q:Value->Shared->Prop) (E:Value->Shared->Prop),tn i s.heap->Q (.ref it) s->Lm (Ln P w) A (pyIter (.ref it)) Q E s
abbrev TI:=St->Hp->(It->Hp->Prop)->Prop
noncomputable def B5(X:Cx)(pins:List (Addr×Obj))(σ:St)(tg:Expr)(R:It->Hp->Prop)(itv:Value)(s2:Shared):Prop:=
 ∃(it:Addr) (fp:List Addr) (tn:Nat->Ld->Prop) (J:It) (H':Hp),itv=.ref it/\Inv X pins σ H' s2/\dF X.prog X.w X.K tg J fp it tn/\tn 0 s2.heap/\(∀b∈fp,jL X pins H' b)/\R J H'
noncomputable def PI(X:Cx)(tg iter:Expr)(wi:TI):Prop:=
 ∀(pins:List (Addr×Obj)) (s:Shared) (σ:St) (H:Hp) (R:It->Hp->Prop),Inv X pins σ H s->wi σ H R ->
  Lm (Ln X.prog X.w) X.A (eval iter X.env) (λv s1=>Lm (Ln X.prog X.w) X.A (pyIter v) (B5 X pins σ tg R) X.xe s1) X.xe s
def mT (ho:s.heap.get? it=some o)(hc:o.cls=.type n)(hd:o.data=.fields vs)(hn:["enumerate","zip","dict_itemiterator","dict_reverseitemiterator","odict_iterator","itertools.zip_longest","itertools.pairwise"].contains n=false)(hQ:Q () s):Lm M A (LC tg (.ref it) u) Q E s:=by
 unfold LC;cases tg<;>first
  |exact LF hQ
  | (cases u <;> first
    |exact LF hQ
    | (refine Ly (wpAny_load ho ?_)
       rw[hc,hd];show Lm M A (if(["enumerate","zip","dict_itemiterator","dict_reverseitemiterator","odict_iterator","itertools.zip_longest","itertools.pairwise"].contains n&&vs[0]?==some (rawInt _))=true then _ else _) Q E s;rw[MO (by intro h;rw[hn,Vs]at h;cases h)];exact LF hQ))
noncomputable def rN(K:Qb)(a:Addr):It:=
 ⟨λi H=>∃xs x,bE K H a xs/\xs[i]?=some x,λi H x H'=>H'=H/\∀xs,bE K H a xs->xs[i]?=some x,λi H=>∃xs,bE K H a xs/\xs.length<=i⟩
noncomputable def B7(K:Qb)(a:Addr):It:=
 ⟨λi H=>∃xs x,bU K H a xs/\xs[i]?=some x,λi H x H'=>H'=H/\∀xs,bU K H a xs->xs[i]?=some x,λi H=>∃xs,bU K H a xs/\xs.length<=i⟩
noncomputable def iK(lo:Int)(n:Nat):It:=⟨λi _=>i<n,λi H x H'=>H'=H/\x=.int (lo+i),λi _=>n<=i⟩
def Iv {K:Qb}(a it:Addr):dF P w K tg (rN K a) [it] it (λi h=>h.IsListIter it a i) where
 mem:=by simp
 obj:=λi h st b hb=>by
  have e:b=it:=by simpa using hb
  subst e;obtain⟨o,e,c,d⟩:=st;exact⟨o,e,λv z=>by rw[d]at z;cases z⟩
 keep:=λi h h' st k=>st.at λo e=>k it (by simp) o e
 item:=by
  intro X hP hw hK hc i pins s σ H E I hf st hg;subst hP hw hK;obtain⟨xs,x,hq,hx⟩:=hg;obtain⟨its,rv,p,hz⟩:=I.list hq;obtain⟨u,hu,ru⟩:=rv.get hx;obtain⟨f0,f1,f2,f3,f4,f5⟩:=hf it (by simp);refine wpAny_pyNext_list_item st p.isList (x:=u) (by simpa using hu) λh' st' sb=>?_;have I1:Inv X pins σ H {s with heap:=h' }:=I.turned (t':=s.toks) (λb o hb e=>(sb.2 b hb).trans e) f0 f1 f3 f4 f5;obtain⟨o,e,c,d⟩:=id st';exact⟨u,rfl,mT (s:={s with heap:=h' }) e c d (by decide) ⟨x,H,I1,ru,⟨rfl,λys hy=>by rw[I.list_inj hy hq];exact hx⟩,st',λb hb=>(hf b hb).1⟩⟩
 done:=by
  intro X hP hw hK hc i pins s σ H E I hf st hg;subst hP hw hK;obtain⟨xs,hq,hx⟩:=hg;obtain⟨its,rv,p,hz⟩:=I.list hq;obtain⟨f0,f1,f2,f3,f4,f5⟩:=hf it (by simp);have hl:=rv.length;exact wpAny_pyNext_list_end (I.ok.hd hc) st p.isList (by simp;lia) λh' eb=>⟨rfl,I.turned (t':=s.toks) (λb o hb e=>eb b o hb e) f0 f1 f3 f4 f5⟩
 self:=λ_ _ _ _ _ st h=>wpAny_pyIter_listiter st h
def ID {K:Qb}(a it:Addr):dF P w K tg (B7 K a) [it] it (λi h=>h.IsTupleIter it a i) where
 mem:=by simp
 obj:=λi h st b hb=>by
  have e:b=it:=by simpa using hb
  subst e;obtain⟨o,e,c,d⟩:=st;exact⟨o,e,λv z=>by rw[d]at z;cases z⟩
 keep:=λi h h' st k=>st.at λo e=>k it (by simp) o e
 item:=by
  intro X hP hw hK hc i pins s σ H E I hf st hg;subst hP hw hK;obtain⟨xs,x,hq,hx⟩:=hg;obtain⟨its,rv,p,hz⟩:=I.tuple hq;obtain⟨u,hu,ru⟩:=rv.get hx;obtain⟨f0,f1,f2,f3,f4,f5⟩:=hf it (by simp);refine wpAny_pyNext_tuple_item st (show s.heap.IsTuple a its.toArray from p) (x:=u) (by simpa using hu) λh' st' sb=>?_;have I1:Inv X pins σ H {s with heap:=h' }:=I.turned (t':=s.toks) (λb o hb e=>(sb.2 b hb).trans e) f0 f1 f3 f4 f5;obtain⟨o,e,c,d⟩:=id st';exact⟨u,rfl,mT (s:={s with heap:=h' }) e c d (by decide) ⟨x,H,I1,ru,⟨rfl,λys hy=>by rw[I.tuple_inj hy hq];exact hx⟩,st',λb hb=>(hf b hb).1⟩⟩
 done:=by
  intro X hP hw hK hc i pins s σ H E I hf st hg;subst hP hw hK;obtain⟨xs,hq,hx⟩:=hg;obtain⟨its,rv,p,hz⟩:=I.tuple hq;obtain⟨f0,f1,f2,f3,f4,f5⟩:=hf it (by simp);have hl:=rv.length;exact wpAny_pyNext_tuple_end (I.ok.hd hc) st (show s.heap.IsTuple a its.toArray from p) (by simp;lia) λh' eb=>⟨rfl,I.turned (t':=s.toks) (λb o hb e=>eb b o hb e) f0 f1 f3 f4 f5⟩
 self:=λ_ _ _ _ _ st h=>wpAny_pyIter_tupleiter st h
def IC {K:Qb}(it:Addr)(lo:Int)(n:Nat):dF P w K tg (iK lo n) [it] it (λi h=>IsRangeIter h it (lo+(i:Nat)*1) ((n:Int)-(i:Nat)) 1) where
 mem:=by simp
 obj:=λi h st b hb=>by
  have e:b=it:=by simpa using hb
  subst e;exact⟨_,st,λv z=>by
   have z':Data.fields _=Data.cell v:=z;cases z'⟩
 keep:=λi h h' st k=>k it (by simp) _ st
 item:=by
  intro X hP hw hK hc i pins s σ H E I hf st hg;subst hP hw hK;obtain⟨f0,f1,f2,f3,f4,f5⟩:=hf it (by simp);have W:=Walks.range (prog:=X.prog) (w:=X.w) (I.ok.hd hc) it lo 1 n;refine W.item i s _ _ hg st λv h' tk hv st' kk=>?_;obtain⟨t,rfl⟩:=hv;have I1:Inv X pins σ H {s with heap:=h',toks:=tk}:=I.turned (λb o hb e=>kk b o (by simpa using hb) e) f0 f1 f3 f4 f5;refine⟨_,rfl,mT (s:={s with heap:=h',toks:=tk}) (n:="range_iterator") st' rfl rfl (by decide) ⟨.int (lo+i),H,I1,⟨t,?_⟩,⟨rfl,rfl⟩,st',λb hb=>(hf b hb).1⟩⟩;rw[Int.mul_one]
 done:=by
  intro X hP hw hK hc i pins s σ H E I hf st hg;subst hP hw hK;obtain⟨f0,f1,f2,f3,f4,f5⟩:=hf it (by simp);exact wpAny_pyNext_range_end (I.ok.hd hc) st (by have:n<=i:=hg;lia) λh' eb=>⟨rfl,I.turned (t':=s.toks) (λb o hb e=>eb b o hb e) f0 f1 f3 f4 f5⟩
 self:=λ_ _ _ _ _ st h=>wpAny_pyIter_rangeiter st h
section
variable{X:Cx}{tg:Expr}
noncomputable def Da(K:Qb)(tl:TE):TI:=λσ H R=>tl σ H λx H1=>∃a,x=.ref a/\(∃xs,bE K H1 a xs)/\R (rN K a) H1
noncomputable def pF(K:Qb)(tl:TE):TI:=λσ H R=>tl σ H λx H1=>∃a,x=.ref a/\(∃xs,bU K H1 a xs)/\R (B7 K a) H1
def Fa (hl:PE X l tl):PI X tg l (Da X.K tl):=by
 intro pins s σ H R I h;refine bc (hl pins s σ H _ I h) λv s1 ⟨x,H1,I1,r1,q1⟩=>?_;obtain⟨a,e,⟨xs,hq⟩,q⟩:=q1;subst e;cases r1;obtain⟨its,rv,p,hz⟩:=I1.list hq;refine LG p.isList ?_;refine⟨s1.heap.objs.size,[s1.heap.objs.size],_,_,H1,rfl,I1.kept (t':=s1.toks) λb o e=>Qi _ e,Iv a _,⟨_,QT _ rfl,rfl,rfl⟩,λb hb=>?_,q⟩;have e:b=s1.heap.objs.size:=by simpa using hb
 subst e;exact I1.fpOk (Qk _) (I1.hok.fresh (Qk _))
def DI (hl:PE X l tl):PI X tg l (pF X.K tl):=by
 intro pins s σ H R I h;refine bc (hl pins s σ H _ I h) λv s1 ⟨x,H1,I1,r1,q1⟩=>?_;obtain⟨a,e,⟨xs,hq⟩,q⟩:=q1;subst e;cases r1;obtain⟨its,rv,p,hz⟩:=I1.tuple hq;refine wpAny_pyIter_tuple (show s1.heap.IsTuple a its.toArray from p) ?_;refine⟨s1.heap.objs.size,[s1.heap.objs.size],_,_,H1,rfl,I1.kept (t':=s1.toks) λb o e=>Qi _ e,ID a _,⟨_,QT _ rfl,rfl,rfl⟩,λb hb=>?_,q⟩;have e:b=s1.heap.objs.size:=by simpa using hb
 subst e;exact I1.fpOk (Qk _) (I1.hok.fresh (Qk _))
def GT {lo:Int}(I:Inv X pins σ H s)(h1:-(2^62)<=lo)(h2:lo<2^62)(h3:-(2^62)<=hi)(h4:hi<2^62)(q:R (iK lo (hi-lo).toNat) H):Lm (Ln X.prog X.w) X.A (pyIter (.ref s.heap.objs.size)) (B5 X pins σ tg R) E {s with heap:=s.heap.push {cls:=.type "range",data:=.fields #[.int lo t,.int hi u,.int 1 v]},toks:=tk}:=by
 refine wpAny_pyIter_range (IsRange.new ..) (small_one h1 h2 h3 h4) ?_;have I1:Inv X pins σ H {s with heap:=s.heap.push {cls:=.type "range",data:=.fields #[.int lo t,.int hi u,.int 1 v]},toks:=tk}:=I.kept λb o e=>Qi _ e;refine⟨(s.heap.push {cls:=.type "range",data:=.fields #[.int lo t,.int hi u,.int 1 v]}).objs.size,[(s.heap.push {cls:=.type "range",data:=.fields #[.int lo t,.int hi u,.int 1 v]}).objs.size],_,_,H,rfl,
  I1.kept (t':=tk) λb o e=>Qi _ e,IC _ lo (hi-lo).toNat,?_,λb hb=>?_,q⟩
 .have e1:lo+((0:Nat):Int)*1=lo:=by simp
  have e2:(((hi-lo).toNat:Nat):Int)-((0:Nat):Int)=Builtin.Range.rangeSize lo hi 1:=by rw[rangeSize_one];split<;>lia
  show IsRangeIter _ _ (lo+((0:Nat):Int)*1) ((((hi-lo).toNat:Nat):Int)-((0:Nat):Int)) 1;rw[e1,e2];exact QT _ rfl
 .have e:b=(s.heap.push {cls:=.type "range",data:=.fields #[.int lo t,.int hi u,.int 1 v]}).objs.size:=by simpa using hb
  subst e;exact I1.fpOk (Qk _) (I1.hok.fresh (Qk _))
noncomputable def C9(ta:TA):TI:=λσ H R=>ta σ H λvs H1=>∃j:Int,vs=[.int j]/\-(2^62)<=j/\j<2^62/\R (iK 0 j.toNat) H1
def Iu (hg:Gl X "range")(hm:X.mg "range"=none)(ha:PA X [a] ta)(hs:Lp [a] X.env=[(false,eval a X.env)]:=by rfl):PI X tg (.Call (.Name "range" p) [a] [] pos) (C9 ta):=by
 intro pins s σ H R I h;refine Call_ (kh I hg hm boot_range (PyProof.Rows.callWith_type1 (bc (ha pos pins s σ H _ I h) λus s1 ⟨vs,H1,I1,r1,q1⟩=>?_) hs rfl));obtain⟨j,e,q1,q2,q⟩:=q1;subst e;cases r1 with
 |cons r rr=>
  cases rr;obtain⟨t,rfl⟩:=r;exact call_range_1 (GT I1 (by lia) (by lia) q1 q2 (by simpa using q))
noncomputable def sy(wi:TI)(g:TG)(tb:TS):TS:=λD σ H=>wi σ H λJ H1=>∃W:Nat->Nat->St->Hp->Prop,(∃m,W 0 m σ H1)/\∀i m σ H,W i m σ H ->
 (J.stop i H/\D.nx σ H)\/(J.go i H/\∃N:St->Hp->Prop,(∀σ' H',N σ' H'->∃m',m'<m/\W (i+1) m' σ' H')/\∀x H',J.yld i H x H'->g x σ H' λσ2 H2=>tb {D with nx:=N,ct:=N,bk:=D.nx} σ2 H2)
noncomputable def j6(fp:List Addr)(h:Ld):List (Addr×Obj):=fp.filterMap λb=>(h.get? b).map λo=>(b,o)
def wX (hb:b∈fp)(e:h.get? b=some o):(b,o)∈j6 fp h:=Vc.mpr ⟨b,hb,by rw[e];rfl⟩
def Ir (hp:p∈j6 fp h):p.1∈fp/\h.get? p.1=some p.2:=by
 obtain⟨b,hb,e⟩:=Vc.mp hp;cases q:h.get? b with
 |none=>rw[q]at e;cases e
 |some o=>
  rw[q]at e;have e':(b,o)=p:=Option.some.inj e;subst e';exact⟨hb,q⟩
def Inv.pinned{pins:List (Addr×Obj)}{σ:St}{H:Hp}{s:Shared}{fp:List Addr}(I:Inv X pins σ H s)(hf:∀b∈fp,jL X pins H b)(ho:∀b∈fp,∃o,s.heap.get? b=some o/\∀v,o.data≠.cell v):Inv X (pins++j6 fp s.heap) σ H s:=
 I.pins_of λp hp=>(Qz.mp hp).elim (λz=>I.pin p (Qw _ z)) λz=>by
  obtain⟨hb,e⟩:=Ir z;obtain⟨f0,f1,f2,_⟩:=hf p.1 hb;obtain⟨o,e',d⟩:=ho p.1 hb;rw[e]at e';cases e';exact⟨e,f0,f1,f2,d⟩
def Inv.unpinned{pins pl:List (Addr×Obj)}{σ:St}{H:Hp}{s:Shared}(I:Inv X (pins++pl) σ H s):Inv X pins σ H s:=I.pins_of λp hp=>I.pin p (Qw _ (QY _ hp))
def nc (hp:PassesOwn (Ln X.prog X.w) X.A X.env X.xe)(hc:X.calm=true)(hi:PI X tg iter wi)(hg:PG X tg g)(hb:cf X body tb)(hs:∀x,LH iter X.env x=pure x:=by intro _;rfl):PS X (.For tg iter body [] pos) (sy wi g tb):=by
 intro pins s σ H D I h;refine wpAny_For (bc (hi pins s σ H _ I h) λv s1 h1=>bc h1 λitv s2 h2=>?_) hs;obtain⟨it,fp,tn,J,H2,e,I2,T,st2,f2,W,⟨m0,w0⟩,turn⟩:=h2;subst e
 -- what stays true of the iterator's objects through the loop
 have stat:∀{H':Hp},(∀b∈fp,H' b=none)->∀b∈fp,jL X pins H' b:=λhn b hb=>⟨hn b hb,(f2 b hb).2⟩;refine codeAny_forLoop_any (λn s'=>∃i σ' H',Inv X pins σ' H' s'/\tn i s'.heap/\(∀b∈fp,H' b=none)/\W i n σ' H') ?_ m0 ⟨0,σ,H2,I2,st2,λb hb=>(f2 b hb).1,w0⟩;rintro n s3 ⟨i,σ3,H3,I3,st3,fr3,w3⟩;rcases turn i n σ3 H3 w3 with⟨stop,qn⟩|⟨go,N,hN,step⟩
 .refine LB hp (bc (T.done X rfl rfl rfl hc i pins s3 σ3 H3 X.xe I3 (stat fr3) st3 stop) λr s4 ⟨hr,I4⟩=>?_);subst hr;exact Ls ⟨σ3,H3,I4,qn⟩
 .refine LB hp (bc (T.item X rfl rfl rfl hc i pins s3 σ3 H3 X.xe I3 (stat fr3) st3 go) λr s4 ⟨u,hr,h4⟩=>?_);subst hr;refine LB hp (bc h4 λ_ s5 ⟨x,H5,I5,r5,y5,st5,fr5⟩=>?_);have I5':=I5.pinned (stat fr5) (T.obj _ _ st5);refine LB hp (bc (hg _ s5 σ3 H5 x u _ I5' r5 (step x H5 y5)) λ_ s6 ⟨σ6,H6,I6,q6⟩=>?_);refine LB hp (bc (hb _ s6 σ6 H6 _ I6 q6) λf s7 q7=>?_);have again:∀{σ7:St}{H7:Hp},Inv X (pins++j6 fp s5.heap) σ7 H7 s7->N σ7 H7->∃m,m<n/\∃i σ' H',Inv X pins σ' H' s7/\tn i s7.heap/\(∀b∈fp,H' b=none)/\W i m σ' H':=λ{σ7 H7} I7 n7=>by
   obtain⟨m',hm,w7⟩:=hN σ7 H7 n7;refine⟨m',hm,i+1,σ7,H7,I7.unpinned,T.keep _ _ _ st5 λb hb o e=>(I7.pin (b,o) (Qw _ (Qw _ (wX hb e)))).1,λb hb=>?_,w7⟩;obtain⟨o,e,d⟩:=T.obj _ _ st5 b hb;exact(I7.pin (b,o) (Qw _ (Qw _ (wX hb e)))).2.1
  cases f with
  |next=>obtain⟨σ7,H7,I7,n7⟩:=q7;exact again I7 n7
  |cont=>obtain⟨σ7,H7,I7,n7⟩:=q7;exact again I7 n7
  |brk=>obtain⟨σ7,H7,I7,q7⟩:=q7;exact⟨σ7,H7,I7.unpinned,q7⟩
  |ret v=>obtain⟨x7,σ7,H7,I7,r7,q7⟩:=q7;exact⟨x7,σ7,H7,I7.unpinned,r7,q7⟩
end
abbrev R2:=V->V->Hp->VK->Prop
noncomputable def bS(X:Cx)(f:Value->Value->Sem Value)(r:R2):Prop:=
 ∀(pins:List (Addr×Obj)) (s:Shared) (σ:St) (H:Hp) (x y:V) (v u:Value) (Q:VK),Inv X pins σ H s->RelV x v->RelV y u->r x y H Q ->
  Lm (Ln X.prog X.w) X.A (f v u) (EP X pins σ Q) X.xe s
noncomputable def rK(X:Cx)(f:Value->Sem Value)(r:V->Hp->VK->Prop):Prop:=
 ∀(pins:List (Addr×Obj)) (s:Shared) (σ:St) (H:Hp) (x:V) (v:Value) (Q:VK),Inv X pins σ H s->RelV x v->r x H Q ->
  Lm (Ln X.prog X.w) X.A (f v) (EP X pins σ Q) X.xe s
noncomputable def aU(X:Cx)(f:Value)(r:List V->Hp->VK->Prop):Prop:=
 ∀(pins:List (Addr×Obj)) (s:Shared) (σ:St) (H:Hp) (xs:List V) (us:List Value) (Q:VK),Inv X pins σ H s->aA xs us->r xs H Q ->
  Lm (Ln X.prog X.w) X.A (call f us) (EP X pins σ Q) X.xe s
noncomputable def iy(r:R2)(ta tb:TE):TE:=λσ H Q=>ta σ H λx H1=>tb σ H1 λy H2=>r x y H2 Q
noncomputable def Jk(r:V->Hp->VK->Prop)(ta:TE):TE:=λσ H Q=>ta σ H λx H1=>r x H1 Q
noncomputable def rI(C:Int->Int->Prop)(g:Int->Int->V):R2:=λx y H Q=>∃i j,x=.int i/\y=.int j/\C i j/\Q (g i j) H
noncomputable def dL(g:Int->Int->V):R2:=λx y H Q=>∃i j,x=.int i/\y=.int j/\Q (g i j) H
noncomputable def rU(g:Int->V):V->Hp->VK->Prop:=λx H Q=>∃i,x=.int i/\Q (g i) H
section
variable{X:Cx}{a b:Expr}{ta tb:TE}{pos:Pos}
def my (ha:PE X a ta)(hb:PE X b tb){R:V->V->Hp->Prop}(I:Inv X pins σ H s)(h:ta σ H λx H1=>tb σ H1 λy H2=>R x y H2){f:Value->Value->Sem Value}(hf:∀v u s2 x y H2,Inv X pins σ H2 s2->RelV x v->RelV y u->R x y H2->Lm (Ln X.prog X.w) X.A (f v u) Q X.xe s2):
  Lm (Ln X.prog X.w) X.A (eval a X.env) (λv s₁=>Lm (Ln X.prog X.w) X.A (eval b X.env) (λu s₂=>Lm (Ln X.prog X.w) X.A (f v u) Q X.xe s₂) X.xe s₁) X.xe s:=by
 refine bc (ha pins s σ H _ I h) λv s1 ⟨x,H1,I1,r1,q1⟩=>?_;refine bc (hb pins s1 σ H1 _ I1 q1) λu s2 ⟨y,H2,I2,r2,q2⟩=>?_;exact hf v u s2 x y H2 I2 r1 r2 q2
def C8 (ho:bS X (LI op) r)(ha:PE X a ta)(hb:PE X b tb):PE X (.BinOp a op b pos) (iy r ta tb):=by
 intro pins s σ H Q I h;exact wpAny_BinOp (my ha hb I h λv u s2 x y H2 I2 rx ry q=>ho pins s2 σ H2 x y v u Q I2 rx ry q)
def Dt (ho:rK X (unaryOp op) r)(ha:PE X a ta):PE X (.UnaryOp op a pos) (Jk r ta):=by
 intro pins s σ H Q I h;exact UnaryOp_ (bc (ha pins s σ H _ I h) λv s1 ⟨x,H1,I1,r1,q1⟩=>ho pins s1 σ H1 x v Q I1 r1 q1)
def iz {g:Int->Int->Int}(rule:∀(i j:Int) (t u:Tok) (s:Shared) (Q:Value->Shared->Prop) (E:Value->Shared->Prop),C i j->Q (.int (g i j) s.toks) {s with toks:=s.toks+1}->Lm (Ln X.prog X.w) X.A (f (.int i t) (.int j u)) Q E s):
  bS X f (rI C λi j=>.int (g i j)):=by
 intro pins s σ H x y v u Q I rx ry h;obtain⟨i,j,rfl,rfl,hc,q⟩:=h;obtain⟨t,rfl⟩:=rx;obtain⟨t',rfl⟩:=ry;exact rule i j t t' s _ _ hc ⟨.int (g i j),H,I.tok _,⟨_,rfl⟩,q⟩
def mx {g:Int->Int->Int}(rule:∀(i j:Int) (t u:Tok) (s:Shared) (Q:Value->Shared->Prop) (E:Value->Shared->Prop),Q (.int (g i j) s.toks) {s with toks:=s.toks+1}->Lm (Ln X.prog X.w) X.A (f (.int i t) (.int j u)) Q E s):
  bS X f (dL λi j=>.int (g i j)):=by
 intro pins s σ H x y v u Q I rx ry h;obtain⟨i,j,rfl,rfl,q⟩:=h;obtain⟨t,rfl⟩:=rx;obtain⟨t',rfl⟩:=ry;exact rule i j t t' s _ _ ⟨.int (g i j),H,I.tok _,⟨_,rfl⟩,q⟩
def iU {g:Int->Int->Bool}(rule:∀(i j:Int) (t u:Tok) (s:Shared) (Q:Value->Shared->Prop) (E:Value->Shared->Prop),Q (.bool (g i j)) s->Lm (Ln X.prog X.w) X.A (f (.int i t) (.int j u)) Q E s):
  bS X f (dL λi j=>.bl (g i j)):=by
 intro pins s σ H x y v u Q I rx ry h;obtain⟨i,j,rfl,rfl,q⟩:=h;obtain⟨t,rfl⟩:=rx;obtain⟨t',rfl⟩:=ry;exact rule i j t t' s _ _ ⟨.bl (g i j),H,I,rfl,q⟩
noncomputable def sF(i j:Int):Prop:=0<j/\j<1073741824
noncomputable def sE(i j:Int):Prop:=0<=j/\j<=1000000/\i.natAbs<2^64
noncomputable def eZ(i j:Int):Prop:=(-(2^64)<i/\i<2^64)\/(-(2^64)<j/\j<2^64)
def eZ.ok (h:eZ i j):IntMulOk i j:=by
 rcases h with⟨h1,h2⟩|⟨h1,h2⟩
 .exact .of_left (intBits_le_64 h1 h2)
 .exact .of_right (intBits_le_64 h1 h2)
def IB(k:Nat):(0:Int)<=2^k:=by
 rw[two_pow_cast];exact Int.natCast_nonneg _
def fx:bS X (LI .Add) (dL λi j=>.int (i+j)):=mx λ_ _ _ _ _ _ _ q=>add_int q
def DH:bS X (LI .Sub) (dL λi j=>.int (i-j)):=mx λ_ _ _ _ _ _ _ q=>sub_int q
def fv:bS X (LI .Mult) (rI eZ λi j=>.int (i*j)):=iz λ_ _ _ _ _ _ _ hc q=>mul_int q hc.ok
def E9:bS X (LI .FloorDiv) (rI sF λi j=>.int (i/j)):=iz λi j _ _ _ _ _ hc q=>by
 have h1:(0:Int)<j:=hc.1;have h2:j<1073741824:=hc.2;exact floordiv_int (by lia) (by rw[Vu i (by lia)];exact q) (.inl (PyProof.noPylong_small (by lia)))
def DG:bS X (LI .Mod) (rI (λ_ j=>0<j) λi j=>.int (i%j)):=iz λi j _ _ _ _ _ hc q=>by
 have h1:(0:Int)<j:=hc;exact mod_int' (by lia) (by rw[Int.fmod_eq_emod_of_nonneg i (by lia)];exact q)
def DF:bS X (LI .Pow) (rI sE λi j=>.int (i^j.toNat)):=iz λ_ _ _ _ _ _ _ hc q=>pow_int_small hc.1 hc.2.1 hc.2.2 q
def DE:bS X (LI .RShift) (rI (λ_ j=>0<=j) λi j=>.int (i/2^j.toNat)):=iz λi j _ _ _ _ _ hc q=>
 rshift_int hc (by rw[Vu i (IB _)];exact q)
def DD:bS X (LI .BitAnd) (dL λi j=>.int (Builtin.bitAnd i j)):=mx λ_ _ _ _ _ _ _ q=>and_int q
def Jj {g:Int->Int}(rule:∀(i:Int) (t:Tok) (s:Shared) (Q:Value->Shared->Prop) (E:Value->Shared->Prop),Q (.int (g i) s.toks) {s with toks:=s.toks+1}->Lm (Ln X.prog X.w) X.A (f (.int i t)) Q E s):
  rK X f (rU λi=>.int (g i)):=by
 intro pins s σ H x v Q I rx h;obtain⟨i,rfl,q⟩:=h;obtain⟨t,rfl⟩:=rx;exact rule i t s _ _ ⟨.int (g i),H,I.tok _,⟨_,rfl⟩,q⟩
def DC:rK X (unaryOp .USub) (rU λi=>.int (-i)):=Jj λ_ _ _ _ _ q=>neg_int q
end
section
variable{X:Cx}{a b c:Expr}{ta tb tc:TE}{pos:Pos}
def tS (I:Inv X pins σ H s)(q:Q (.bl k) H)(e:k=k'):EP X pins σ Q (.bool k') s:=by
 subst e;exact⟨.bl k,H,I,rfl,q⟩
def Ds:bS X (LJ .Lt) (dL λi j=>.bl (decide (i<j))):=iU λ_ _ _ _ _ _ _ q=>lt_int q
def Dr:bS X (LJ .LtE) (dL λi j=>.bl (decide (i<=j))):=iU λ_ _ _ _ _ _ _ q=>le_int q
def Dq:bS X (LJ .Gt) (dL λi j=>.bl (decide (j<i))):=iU λ_ _ _ _ _ _ _ q=>gt_int q
def Dp:bS X (LJ .GtE) (dL λi j=>.bl (decide (j<=i))):=iU λ_ _ _ _ _ _ _ q=>ge_int q
def DB:bS X (LJ .Is) (λx y H Q=>y=.non/\Q (.bl (decide (x=.non))) H):=by
 intro pins s σ H x y v u Q I rx ry h;obtain⟨rfl,q⟩:=h;cases ry;refine is_none_gen (tS I q ?_);cases x<;>first
  |(cases rx;rfl)
  |(obtain⟨t,rfl⟩:=rx;rfl)
def E8:bS X (LJ .IsNot) (λx y H Q=>y=.non/\Q (.bl (! decide (x=.non))) H):=by
 intro pins s σ H x y v u Q I rx ry h;obtain⟨rfl,q⟩:=h;cases ry;refine isnot_none_gen (tS I q ?_);cases x<;>first
  |(cases rx;rfl)
  |(obtain⟨t,rfl⟩:=rx;rfl)
def bS.or{f:Value->Value->Sem Value}{r r':R2}(h:bS X f r)(h':bS X f r'):bS X f (λx y H Q=>r x y H Q\/r' x y H Q):=by
 intro pins s σ H x y v u Q I rx ry q;rcases q with q|q
 .exact h pins s σ H x y v u Q I rx ry q
 .exact h' pins s σ H x y v u Q I rx ry q
def E7 (ho:bS X (LJ op) r)(ha:PE X a ta)(hb:PE X b tb)(hm:LL op b=false):PE X (.Compare a [op] [b] pos) (iy r ta tb):=by
 intro pins s σ H Q I h;exact wpAny_Compare1 (my ha hb I h λv u s2 x y H2 I2 rx ry q=>ho pins s2 σ H2 x y v u Q I2 rx ry q) hm
noncomputable def sN(t:TE):TT:=λσ H Q=>t σ H λx H'=>∃k,x=.bl k/\Q k H'
def E6 (ho:bS X (LJ op) r)(ha:PE X a ta)(hb:PE X b tb)(hm:LL op b=false):PT X (.Compare a [op] [b] pos) (sN (iy r ta tb)):=by
 intro pins s σ H Q I h;refine wpAny_isTrue_Compare1 (bc (ha pins s σ H _ I h) λv s1 ⟨x,H1,I1,r1,q1⟩=>bc (hb pins s1 σ H1 _ I1 q1) λu s2 ⟨y,H2,I2,r2,q2⟩=>
  bc (ho pins s2 σ H2 x y v u _ I2 r1 r2 q2) λc s3 ⟨z,H3,I3,r3,k,e,q3⟩=>?_) hm
 subst e;cases r3;exact Lr ⟨H3,I3,q3⟩
noncomputable def mZ(r r':R2)(ta tb tc:TE):TE:=λσ H Q=>ta σ H λx H1=>tb σ H1 λy H2=>r x y H2 λz H3=>∃k,z=.bl k /\
 (if k=true then tc σ H3 λw' H4=>r' y w' H4 Q else Q (.bl false) H3)
def GS (ho:bS X (LJ op) r)(ho':bS X (LJ op') r')(ha:PE X a ta)(hb:PE X b tb)(hc:PE X c tc)(hm:lastMarks [op,op'] [b,c]=false:=by with_unfolding_all rfl):PE X (.Compare a [op,op'] [b,c] pos) (mZ r r' ta tb tc):=by
 intro pins s σ H Q I h;refine Compare_chain (bc (ha pins s σ H _ I h) λv s1 ⟨x,H1,I1,r1,q1⟩=>chain_link (bc (hb pins s1 σ H1 _ I1 q1) λu s2 ⟨y,H2,I2,r2,q2⟩=>
  bc (ho pins s2 σ H2 x y v u _ I2 r1 r2 q2) λd s3 ⟨z,H3,I3,r3,k,e,q3⟩=>?_)) hm
 subst e;cases r3;refine Lr ?_;cases k with
 |false=>exact ite_ff ⟨.bl false,H3,I3,rfl,q3⟩
 |true=>exact ite_tt (chain_last (bc (hc pins s3 σ H3 _ I3 q3) λw' s4 ⟨z',H4,I4,r4,q4⟩=>ho' pins s4 σ H4 y z' u w' Q I4 r2 r4 q4))
def GR (ho:bS X (LJ op) r)(ho':bS X (LJ op') r')(ha:PE X a ta)(hb:PE X b tb)(hc:PE X c tc)(hm:lastMarks [op,op'] [b,c]=false:=by with_unfolding_all rfl):PT X (.Compare a [op,op'] [b,c] pos) (sN (mZ r r' ta tb tc)):=by
 intro pins s σ H Q I h;refine isTrue_chain (bc (ha pins s σ H _ I h) λv s1 ⟨x,H1,I1,r1,q1⟩=>test_link (bc (hb pins s1 σ H1 _ I1 q1) λu s2 ⟨y,H2,I2,r2,q2⟩=>
  bc (ho pins s2 σ H2 x y v u _ I2 r1 r2 q2) λd s3 ⟨z,H3,I3,r3,k,e,q3⟩=>?_)) hm
 subst e;cases r3;refine Lr ?_;cases k with
 |false=>
  obtain⟨k',e',q'⟩:=q3;cases e';exact ite_ff ⟨H3,I3,q'⟩
 |true=>
  refine ite_tt (test_last (bc (hc pins s3 σ H3 _ I3 q3) λw' s4 ⟨z',H4,I4,r4,q4⟩=>bc (ho' pins s4 σ H4 y z' u w' _ I4 r2 r4 q4) λd' s5 ⟨z2,H5,I5,r5,k2,e2,q5⟩=>?_));subst e2;cases r5;exact Lr ⟨H5,I5,q5⟩
def j7:(sizeLine:Nat)<2^63:=by rw[LM];decide
def jD (r:aA [x] us):∃u,us=[u]/\RelV x u:=by
 cases r with
 |cons r1 r2=>cases r2;exact⟨_,rfl,r1⟩
def sM (r:aA [x,y] us):∃u w',us=[u,w']/\RelV x u/\RelV y w':=by
 cases r with
 |cons r1 r2=>
  cases r2 with
  |cons r3 r4=>cases r4;exact⟨_,_,rfl,r1,r3⟩
def GQ:aU X (.builtin "abs") (λxs H Q=>∃i,xs=[.int i]/\Q (.int (if i<0 then -i else i)) H):=by
 intro pins s σ H xs us Q I r h;obtain⟨i,rfl,q⟩:=h;obtain⟨u,rfl,t,rfl⟩:=jD r;exact call_abs_int λu tk=>⟨.int (if i<0 then -i else i),H,I.tok _,⟨_,rfl⟩,q⟩
def Iq(hc:X.calm=true):aU X (.builtin "max") (λxs H Q=>∃i j,xs=[.int i,.int j]/\Q (.int (if j > i then j else i)) H):=by
 intro pins s σ H xs us Q I r h;obtain⟨i,j,rfl,q⟩:=h;obtain⟨u,w',rfl,⟨t,rfl⟩,⟨t',rfl⟩⟩:=sM r;refine max_two_ints (I.ok.hd hc) λh' tk k=>⟨_,H,I.kept k,?_,q⟩;by_cases hj:j > i
 .rw[MN hj,MN hj];exact⟨_,rfl⟩
 .rw[MO hj,MO hj];exact⟨_,rfl⟩
def Ip:aU X (.type "int") (λxs H Q=>(∃i,xs=[.int i]/\Q (.int i) H)\/∃k,xs=[.bl k]/\Q (.int (if k then 1 else 0)) H):=by
 intro pins s σ H xs us Q I r h;rcases h with⟨i,rfl,q⟩|⟨k,rfl,q⟩
 .obtain ⟨u,rfl,t,rfl⟩:=jD r;exact call_int_int ⟨.int i,H,I,⟨_,rfl⟩,q⟩
 .obtain ⟨u,rfl,r1⟩:=jD r;cases r1;exact call_int_bool ⟨.int (if k then 1 else 0),H,I.tok _,⟨_,rfl⟩,q⟩
end
def eU.some_of (r:eU (some v) o):∃u,o=some u/\RelV v u:=by
 cases o with
 |none=>exact(show False from r).elim
 |some u=>exact⟨u,rfl,r⟩
def Io (r:RelV v u):PySem.W.handedIn u=true:=by
 cases v with
 |non=>cases(show u=Value.none from r);rfl
 |bl b=>cases(show u=Value.bool b from r);rfl
 |int i=>obtain⟨t,e⟩:=(show ∃t,u=Value.int i t from r);cases e;rfl
 |str x=>obtain⟨t,e⟩:=(show ∃t,u=Value.str x t from r);cases e;rfl
 |byt b=>obtain⟨t,e⟩:=(show ∃t,u=Value.bytes b t from r);cases e;rfl
 |flt b=>obtain⟨t,e⟩:=(show ∃t,u=Value.float b t from r);cases e;rfl
 |ref a=>cases(show u=Value.ref a from r);rfl
 |ty n=>cases(show u=Value.type n from r);rfl
section
variable{s:Shared}{f:Str}{A:Lh}{E:Value->Shared->Prop}
def E5 (hb:LN e f env (eval e env)=eval e env)(h:Lm (Ln prog w) A (eval e env) (λo s₁=>Lm (Ln prog w) A (getAttr o f true) Q E s₁) E s):Lm (Ln prog w) A (eval (.Attribute e f pos) env) Q E s:=
 Attribute_any_ h (by rw[arm_eval_Attribute,hb])
end
section
variable{X:Cx}{pins:List (Addr×Obj)}{σ:St}{H:Hp}{s:Shared}{A:Lh}{E:Value->Shared->Prop}{Q:Value->Shared->Prop}{c:Value}{b:Bool}
inductive dv(K:Qb)(H:Hp):V->Value->Prop where
 |non:dv K H .non (.type "NoneType")
 |bl (x:Bool):dv K H (.bl x) (.type "bool")
 |int (i:Int):dv K H (.int i) (.type "int")
 |str (x:Str):dv K H (.str x) (.type "str")
 |lst {a:Addr}{xs:List V}(e:H a=some (.lst xs)):dv K H (.ref a) (.type "list")
 |tup {a:Addr}{xs:List V}(e:H a=some (.tup xs)):dv K H (.ref a) (.type "tuple")
def wQ (I:Inv X pins σ H s)(rx:RelV x u)(ty:dv X.K H x t)(e:QA X.K t c=some b)(h:∀tk,Q (.bool b) {s with toks:=tk}):
  Lm (Ln X.prog X.w) A (call (.builtin "isinstance") [u,c]) Q E s:=by
 cases ty with
 |non=>cases(show u=Value.none from rx);exact Wj PySem.W.kitx_none I.kIn True.intro e (λz=>nomatch z) h
 |bl y=>cases(show u=Value.bool y from rx);exact Wj PySem.W.kitx_bool I.kIn True.intro e (λz=>nomatch z) h
 |int i=>obtain⟨t,q⟩:=(show ∃t,u=Value.int i t from rx);cases q;exact Wj PySem.W.kitx_int I.kIn True.intro e (λz=>nomatch z) h
 |str y=>obtain⟨t,q⟩:=(show ∃t,u=Value.str y t from rx);cases q;exact Wj PySem.W.kitx_str I.kIn True.intro e (λz=>nomatch z) h
 |@lst a xs ea=>
  cases(show u=Value.ref a from rx);obtain⟨_,_,n,_,h1⟩:=(show bv X.prog X.w H s.heap a (.lst xs)from I.hok a _ ea);exact Wj PySem.W.kitx_list I.kIn ⟨_,h1,rfl⟩ e (λz=>nomatch z) h
 |@tup a xs ea=>
  cases(show u=Value.ref a from rx);obtain⟨_,_,_,p⟩:=(show bv X.prog X.w H s.heap a (.tup xs)from I.hok a _ ea);obtain⟨o,h1,h2,_⟩:=p;exact Wj PySem.W.kitx_tuple I.kIn ⟨o,h1,h2⟩ e (λz=>nomatch z) h
end
structure bM(k:Nat)(A:Lh):Prop where
 hd:A.handled=none
 dp:A.depth+3*k+5<LO
 un:A.units+16*k+200<LP
theorem bM.deeper{k:Nat}{A:Lh}(r:bM (k+1) A)(env:Env):bM k (A.deeper env):=
 ⟨r.hd,by have:=r.dp;show A.depth+1+3*k+5<_;lia,by have:=r.un;show A.units+3+16*k+200<_;lia⟩
def IA {A:Lh}:(A.under (.builtin "type.__call__" ⟨.ref C::us,kw⟩)).depth=A.depth+1:=by
 first|rfl|simp[Around.under,Code.weight,Code.isCreation,Code.isGuard,Code.isCaller,Code.frames,Code.isFrame,guardIds]
theorem bM.depth (r:bM k A):A.depth<LO:=by have:=r.dp;lia
theorem bM.units (r:bM k A):A.units+64<LP:=by have:=r.un;lia
noncomputable def mw:TA:=λ_ H Q=>Q [] H
noncomputable def mS(ta:TE)(tr:TA):TA:=λσ H Q=>ta σ H λx H1=>tr σ H1 λxs H2=>Q (x::xs) H2
section
variable{X:Cx}{e:Expr}{es:List Expr}{te:TE}{t:TA}{pos:Pos}
def xO:PA X [] mw:=λ_ _ _ _ H Q I h=>Calls.spliced_nil ⟨[],H,I,.nil,h⟩
def yu(ha:PE X e te)(hr:PA X es t)(hs:Lp (e::es) X.env=(false,eval e X.env)::Lp es X.env:=by rfl):PA X (e::es) (mS te t):=by
 intro pos pins s σ H Q I h;rw[hs];show Lm _ _ (spliced ((false,eval e X.env)::Lo pos (Lp es X.env))) _ _ s;refine Calls.spliced_cons (bc (ha pins s σ H _ I h) λu s1 ⟨x,H1,I1,r1,q1⟩=>?_);exact bc (hr pos pins s1 σ H1 _ I1 q1) λus s2 ⟨xs,H2,I2,r2,q2⟩=>⟨x::xs,H2,I2,.cons r1 r2,q2⟩
noncomputable def oz(t:TA):TE:=λσ H Q=>t σ H λxs H1=>xs.length<=sizeLine/\∀p,H1 p=none->Q (.ref p) (aJ H1 p (.tup xs))
noncomputable def oG(t:TA):TE:=λσ H Q=>t σ H λxs H1=>xs.length<=sizeLine/\∀p,H1 p=none->Q (.ref p) (aJ H1 p (.lst xs))
def tR{x1}(h:PA X es t):PE X (.Tuple es x1 pos) (oz t):=by
 intro pins s σ H Q I hq;refine wpAny_Tuple_spliced (bc (h pos pins s σ H _ I hq) λus s1 ⟨xs,H1,I1,r,z,q⟩=>⟨by rw[<-r.length];exact z,?_⟩);have hf:H1 s1.heap.objs.size=none:=I1.hok.fresh (Qk _);refine⟨.ref s1.heap.objs.size,aJ H1 s1.heap.objs.size (.tup xs),I1.laid (t':=s1.toks) (λb u e=>Qi _ e) (Qk _) ?_,rfl,q _ hf⟩;exact⟨z,us,r,⟨_,QT _ rfl,rfl,_,rfl⟩⟩
def DA(h:PA X es t):PE X (.List es pos) (oG t):=by
 intro pins s σ H Q I hq;refine wpAny_List_spliced (bc (h pos pins s σ H _ I hq) λus s1 ⟨xs,H1,I1,r,z,q⟩=>⟨by rw[<-r.length];exact z,?_⟩);have hf:H1 s1.heap.objs.size=none:=I1.hok.fresh (Qk _);refine⟨.ref s1.heap.objs.size,aJ H1 s1.heap.objs.size (.lst xs),I1.laid (t':=s1.toks) (λb u e=>Qi _ e) (Qk _) ?_,rfl,q _ hf⟩;exact⟨z,us,0,r,QT _ rfl⟩
end
abbrev Sp:=List V->Hp->VK->XK->Prop
abbrev dN:=List Env->Hp->Shared->XK->Value->Shared->Prop
structure cZ(P:Lb)(w:Lc)(K:Qb)(mg:Str->Option Value)(base:Ld)(A:Lh)(outer:List Env)(s:Shared)(H:Hp):Prop where
 frames:A.frames=some outer
 mod:Mod K mg base
 bs:∀b o,base.get? b=some o->s.heap.get? b=some o/\H b=none
 bsz:base.objs.size<=s.heap.objs.size
 funs:s.heap.FunFrames base outer
 frf:∀b∈bz outer,H b=none
 hok:bP P w H s.heap
 bare:Li s.gens
noncomputable def CE(outer:List Env)(P:Lb)(w:Lc)(H:Hp)(s:Shared)(Q:VK)(u:Value)(s':Shared):Prop:=
 ∃v H',s'.os=s.os/\Li s'.gens/\Un (bz outer) [] H H' s.heap s'.heap/\bP P w H' s'.heap/\RelV v u/\Q v H'
noncomputable def CR(CX:dN)(outer:List Env)(P:Lb)(w:Lc)(H:Hp)(s:Shared)(Q:VK)(E:XK)(r:Result)(s':Shared):Prop:=
 match r with
 |.ok (.ret u)=>CE outer P w H s Q u s'
 |.ok _=>False
 |.error e=>CX outer H s E e s'
structure bC(P:Lb)(w:Lc)(K:Qb)(mg:Str->Option Value)(base:Ld)(CX:dN)(k:Nat)(f:Addr)(fd:LQ)(ps:List Str)(sp:Sp):Prop where
 len:∀vs H Q E,sp vs H Q E->vs.length=ps.length
 run:∀(A:Lh) (outer:List Env) (s:Shared) (H:Hp) (args:Args) (us:List Value) (vs:List V) (Q:VK) (E:XK),bM k A->cZ P w K mg base A outer s H->LR s fd args (ps.zip us)->aA vs us->sp vs H Q E ->
  LS (Ln P w) A (.call (.ref f) args) (CR CX outer P w H s Q E) s
def cZ.make{P:Lb}{w:Lc}{K:Qb}{mg:Str->Option Value}{base:Ld}{A:Lh}{outer:List Env}{s:Shared}{H:Hp}(e:cZ P w K mg base A outer s H)(C:Addr)(us:List Value)(kw:List (Str×Value)):
  cZ P w K mg base (A.under (.builtin "type.__call__" ⟨.ref C::us,kw⟩)) outer s H:=⟨by first|exact e.frames|(simpa [Around.under,Code.envs,Code.isFrame,pushEnvs]using e.frames),e.mod,e.bs,e.bsz,e.funs,e.frf,e.hok,e.bare⟩
section
variable{X:Cx}{pins:List (Addr×Obj)}{σ:St}{H:Hp}{s s':Shared}
def Inv.env0(I:Inv X pins σ H s):cZ X.prog X.w X.K X.mg X.base X.A X.stack s H:=
 ⟨I.ok.frames,I.ok.mod,I.bs,Qp I.ok.bsz I.sz,I.stack,I.stkFree,I.hok,I.bare⟩
def Inv.after (I:Inv X pins σ H s)(h:CE X.stack X.prog X.w H s Q u s'):EP X pins σ Q u s':=by
 obtain⟨v,H',os,bare,un,hok,r,q⟩:=h;obtain⟨hh,g,d,t,os'⟩:=s';obtain rfl:os'=s.os:=os;exact⟨v,H',I.call (h':=hh) (g':=g) (d':=d) (t':=t) (ch:=[]) un hok bare (λb z=>MP z (by simp)),r,q⟩
end
noncomputable def Do(sp:Sp)(dvs:List V)(E:XK)(t:TA):TE:=λσ H Q=>t σ H λvs H1=>sp (vs++dvs) H1 Q E
noncomputable def Binds(K:Qb)(fd:LQ)(ps:List Str)(ds:List Value):Prop:=
 ∀(s:Shared) (us:List Value),K.In s.heap->(us++ds).length=ps.length->LR s fd ⟨us,[]⟩ (ps.zip (us++ds))
def Binds.all{K:Qb}{fd:LQ}{ps:List Str}(h:∀us:List Value,us.length=ps.length->bindArgs fd ⟨us,[]⟩=pure (ps.zip us)):Binds K fd ps []:=λs us _ hl=>by
 rw[QU]at hl ⊢;exact .of_eq (h us hl)
noncomputable def j8(CX:dN)(X:Cx)(E:XK):Prop:=∀(pins:List (Addr×Obj)) (σ:St) (H:Hp) (s:Shared) (e:Value) (s':Shared),Inv X pins σ H s->CX X.stack H s E e s'->X.xe e s'
section
variable{X:Cx}{CX:dN}{k:Nat}{f:Addr}{fd:LQ}{ps:List Str}{sp:Sp}{dvs:List V}{ds:List Value}{E:XK}{x:Str}{p pos:Pos}{e:Expr}{es:List Expr}{t:TA}
def Dz (F:bC X.prog X.w X.K X.mg X.base CX k f fd ps sp)(hr:bM k X.A)(hb:Binds X.K fd ps ds)(hd:aA dvs ds)(hx:j8 CX X E)(I:Inv X pins σ H s)(r:aA vs us)(h:sp (vs++dvs) H Q E):Lm (Ln X.prog X.w) X.A (call (.ref f) us) (EP X pins σ Q) X.xe s:=by
 have r2:aA (vs++dvs) (us++ds):=r.append hd;have hl:(us++ds).length=ps.length:=by rw[<-r2.length];exact F.len _ _ _ _ h
 refine LU (LV (F.run X.A X.stack s H ⟨us,[]⟩ (us++ds) (vs++dvs) Q E hr I.env0 (hb s us I.kIn hl) r2 h) λr s' hq=>?_);cases r with
 |error e=>exact hx pins σ H s e s' I hq
 |ok fl=>
  cases fl with
  |ret u=>exact I.after hq
  |next=>exact False.elim hq
  |brk=>exact False.elim hq
  |cont=>exact False.elim hq
def FM(F:bC X.prog X.w X.K X.mg X.base CX k f fd ps sp)(hr:bM k X.A)(hg:Gl X x)(hm:X.mg x=some (.ref f))(hk:QK X.K (.ref f)=true)(hb:Binds X.K fd ps ds)(hd:aA dvs ds)(hx:j8 CX X E)
  (ha:PA X (e::es) t) (hdb:(x==("__debug__":Str))=false:=by decide) (he:Lp (e::es) X.env=(false,eval e X.env)::Lp es X.env:=by rfl) (hpl:(Lo pos (Lp es X.env)).any (·.1)=false:=by rfl) :
  PE X (.Call (.Name x p) (e::es) [] pos) (Do sp dvs E t):=by
 intro pins s σ H Q I h;refine LW (jP I hg hm ?_ hdb);refine PySem.W.callWith_K (h₀:=X.base) I.ok.mod.kin hk (bc (ha pos pins s σ H _ I h) λus s1 ⟨vs,H1,I1,r,q⟩=>⟨I1.kIn,?_⟩) he hpl;exact Dz F hr hb hd hx I1 r q
end
structure bT(N P:List Str)(sc:K9):Prop where
 kind:sc.kind=.function
 co:sc.isCoroutine=false
 gen:sc.isGenerator=false
 nd:N.Nodup
 pre:N.take P.length=P
 par:∀x∈P,sc.names.lookup x=some .local\/sc.names.lookup x=some .cell
 nofree:∀y∈sc.names,y.2≠.free
theorem qc {kindOf:Str->Option LX}:∀{binds:List (Str×Value)}{m:Str->Option Value},(∀v,(x,v)∉binds)->LY kindOf binds m x=m x
 |[],_,_=>rfl
 |(n,v)::r,m,h=>by
  unfold LY;rw[qc λw hw=>h w (Ql _ hw)];split
  .have:x≠n:=by rintro rfl;exact h v QH
   simp[this]
  .rfl
theorem qd {kindOf:Str->Option LX}:∀{binds:List (Str×Value)}{m:Str->Option Value},(∀v,(x,v)∉binds)->LZ kindOf binds m x=m x
 |[],_,_=>rfl
 |(n,v)::r,m,h=>by
  unfold LZ;rw[qd λw hw=>h w (Ql _ hw)];split
  .rfl
  .have:x≠n:=by rintro rfl;exact h v QH
   simp[this]
theorem qe {kindOf:Str->Option LX}:∀{P:List Str}{vs:List Value}{i:Nat}{m:Str->Option Value},P.Nodup->P[i]?=some x->vs[i]?=some v->kindOf x=some .local ->
  LY kindOf (P.zip vs) m x=some v
 |[],_,_,_,_,h,_,_=>by simp at h
 |_::_,[],_,_,_,_,h,_=>by simp at h
 |p::P,w::vs,0,m,nd,h1,h2,hk=>by
  simp at h1 h2;subst h1;subst h2;show LY kindOf ((p,w)::P.zip vs) m p=_;unfold LY;rw[qc λv hv=>(QP.mp nd).1 (W3 hv).1,MN hk];simp
 |p::P,w::vs,i+1,m,nd,h1,h2,hk=>by
  show LY kindOf ((p,w)::P.zip vs) m x=_;unfold LY;exact qe (i:=i) (QP.mp nd).2 (by simpa using h1) (by simpa using h2) hk
theorem qf {kindOf:Str->Option LX}:∀{P:List Str}{vs:List Value}{i:Nat}{m:Str->Option Value},P.Nodup->P[i]?=some x->vs[i]?=some v->kindOf x≠some .local ->
  LZ kindOf (P.zip vs) m x=some v
 |[],_,_,_,_,h,_,_=>by simp at h
 |_::_,[],_,_,_,_,h,_=>by simp at h
 |p::P,w::vs,0,m,nd,h1,h2,hk=>by
  simp at h1 h2;subst h1;subst h2;show LZ kindOf ((p,w)::P.zip vs) m p=_;unfold LZ;rw[qd λv hv=>(QP.mp nd).1 (W3 hv).1,MO hk];simp
 |p::P,w::vs,i+1,m,nd,h1,h2,hk=>by
  show LZ kindOf ((p,w)::P.zip vs) m x=_;unfold LZ;exact qf (i:=i) (QP.mp nd).2 (by simpa using h1) (by simpa using h2) hk
noncomputable def start(N:List Str)(vs:List V):St:=vs.map some++Qv (N.length-vs.length) none
noncomputable def vY(CX:dN)(P:Lb)(w:Lc)(K:Qb)(mg:Str->Option Value)(base:Ld)(N:List Str)(qual:Str)(scope:K9)(f:Addr)(cd:Value)(A:Lh)(outer:List Env)(s:Shared)(H:Hp)(E:XK):Cx where
 prog:=P
 w:=w
 K:=K
 mg:=mg
 base:=base
 A:=A.deeper (envOfC qual scope s.heap.objs.size f cd)
 N:=N
 s₀:=s
 H₀:=H
 env:=envOfC qual scope s.heap.objs.size f cd
 outer:=outer
 stack:=envOfC qual scope s.heap.objs.size f cd::outer
 ex:=[]
 calm:=true
 fn:=λ_=>true
 pn:=[]
 xe:=λe s'=>Lm (Ln P w) (A.deeper (envOfC qual scope s.heap.objs.size f cd)) (L4 (envOfC qual scope s.heap.objs.size f cd) e) (λ_ s''=>CX outer H s E e s'') (λe' s''=>CX outer H s E e' s'') s'
def AA {sc:K9}(h:sc.names.lookup x=some .cell):∃c,(L5 n sc.names []).lookup x=some c:=by
 have q:=WC sc.names n [] (.inl h);exact Wy.mp q
def qg {K:Qb}(S:bT N ps scope)(hd:A.handled=none)(e0:cZ P w K mg base A outer s H)(hl:vs.length=ps.length)(r:aA vs us)(x:InCallC s s.heap.objs.size (LY (envOfC qual scope s.heap.objs.size f cd).kindOf (ps.zip us) λ_=>none) (L5 (s.heap.objs.size+1) scope.names []) (LZ (envOfC qual scope s.heap.objs.size f cd).kindOf (ps.zip us) λ_=>none) s1):
  Inv (vY CX P w K mg base N qual scope f cd A outer s H E) [] (start N vs) H s1:=by
 have hpl:ps.length<=N.length:=by have:=MQ List.length S.pre;rw[Vi]at this;lia
 obtain⟨h1,tk,rfl,hk⟩:=x.done;have noA:∀b:Addr,b∉(vY CX P w K mg base N qual scope f cd A outer s H E).ex:=λb z=>MP (show b∈([]:List Addr)from z) (by simp);refine⟨⟨e0.mod,S.kind,rfl,rfl,Qk _,λy z c h1 h2=>?_,λy hy=>?_,λy c _ h=>?_,λ_=>hd,Around.frames_deeper e0.frames,.inr ⟨rfl,rfl⟩,λb z=>MP z (noA b),e0.bs,e0.bsz,λb _ _=>noA b,λb z=>MP z (noA b),e0.funs,e0.frf⟩,
  rfl,e0.bare,Un.kept hk,⟨_,x.toInCall.ns,λi y v h1 h2 h3=>?_⟩,λy c h=>⟨_,x.cell y c h⟩,e0.hok.fresh (Qk _),λy c h=>?_,λp hp=>MP (show p∈([]:List (Addr×Obj))from hp) (by simp),e0.hok.kept hk,?_⟩
 .exact name_of_addr x.apart (PySem.mem_of_lookup h1) (PySem.mem_of_lookup h2)
 .have hy:scope.names.lookup y=some .cell\/scope.names.lookup y=some .free:=hy;rcases hy with hy|hy
  .exact AA hy
  .exact MP rfl (S.nofree _ (PySem.mem_of_lookup hy))
 .exact W1 (x.above y c (PySem.mem_of_lookup h))
 .have hi:i<vs.length:=by
   unfold start at h2;by_cases hi:i<vs.length
   .exact hi
   .rw[Qo (by simpa using hi)]at h2;rw[WD]at h2;split at h2<;>cases h2
  have ha:vs[i]?=some v:=by
   unfold start at h2;rw[Qs (by simpa using hi),Qn]at h2;cases e:vs[i]? with
   |none=>rw[e]at h2;cases h2
   |some a=>rw[e]at h2;cases h2;rfl
  obtain⟨u,hu,rv⟩:=r.get ha;have hp:ps[i]?=some y:=by
   rw[<-S.pre,List.getElem?_take_of_lt (by lia)];exact h1
  have ndP:ps.Nodup:=by rw[<-S.pre];exact S.nd.sublist (List.take_sublist _ _)
  refine⟨u,rv,?_⟩;rcases S.par y (QC hp)with k|k
  .exact .inl ⟨k,qe ndP hp hu k⟩
  .obtain ⟨c,e⟩:=AA (n:=s.heap.objs.size+1) k;refine .inr ⟨.inl k,c,e,?_⟩;have q:=x.cell y c e;rw[qf ndP hp hu (by show scope.names.lookup y≠_;rw[k];decide)]at q;exact q
 .exact e0.hok.fresh (W1 (x.above y c (PySem.mem_of_lookup h)))
 .unfold start;show _=N.length;rw[Q4,Qx,List.length_replicate];lia
set_option tactic.hygienic true in
def mR {K:Qb}{kV:Value}(lk:K.lookup f=some ⟨oc,od,.func (Wc name qual params body scope dV kV doc pm an cdv ct),osl⟩)(hcd:WB K cdv qual=true)(S:bT N ps scope)(len:∀vs H Q E,sp vs H Q E->vs.length=ps.length)(hbody:∀(A:Lh) (outer:List Env) (s:Shared) (H:Hp) (vs:List V) (Q:VK) (E:XK),bM k (A.deeper (envOfC qual scope s.heap.objs.size f cdv))->sp vs H Q E ->
   ∃t,cf (vY CX P w K mg base N qual scope f cdv A outer s H E) body t/\t {nx:=λ_ H'=>Q .non H',rt:=Q} (start N vs) H):
  bC P w K mg base CX (k+1) f (Wc name qual params body scope dV kV doc pm an cdv ct) ps sp:=by
 refine⟨len,λA outer s H args us vs Q E hr e0 hb r hsp=>?_⟩;have hl:=len _ _ _ _ hsp;have KX:K.In s.heap:=e0.mod.kin.keeps λb o e=>(e0.bs b o e).1;have aq:s.heap.NoLimit:=e0.mod.nolimit.keeps λb o e=>(e0.bs b o e).1;have hkind:∀y∈ps.zip us,scope.names.lookup y.1=some .local\/(scope.names.lookup y.1=some .cell/\((L5 (s.heap.objs.size+1) scope.names []).lookup y.1).isSome=true):=λ⟨n,v⟩ hy=>by
  rcases S.par n (W3 hy).1 with q|q
  .exact .inl q
  .exact .inr ⟨q,WC _ _ _ (.inl q)⟩
 refine L6 hr.depth (KX _ _ lk) rfl S.co S.gen rfl (PySem.W.codeRec_of KX hcd) (hb _ _ _ _ ?_);refine L7 S.kind hkind λenv he s1 x=>?_;subst he;refine⟨aq.keeps x.toInCall.keep,codeAny_func ?_⟩;obtain⟨t,ht,hq⟩:=hbody A outer s H vs Q E (hr.deeper _) hsp;have I:Inv (vY CX P w K mg base N qual scope f cdv A outer s H E) [] (start N vs) H s1:=qg S hr.hd e0 hl r x;refine Lq (ht [] s1 (start N vs) H _ I hq) (λfl s' hs=>?_) λe s' hs=>hs;have fin:∀{σ':St}{H':Hp}{v:V}{u:Value},Inv (vY CX P w K mg base N qual scope f cdv A outer s H E) [] σ' H' s'->RelV v u->Q v H'->CE outer P w H s Q u s':=
  λ{σ' H' v u} J rv q=>⟨v,H',J.os,J.bare,J.base,J.hok,rv,q⟩
 cases fl with
 |ret u=>
  obtain⟨v,σ',H',J,rv,q⟩:=hs;exact fin J rv q
 |next=>
  obtain⟨σ',H',J,q⟩:=hs;exact fin (v:=V.non) (u:=Value.none) J rfl q
 |brk=>
  obtain⟨_,_,_,q⟩:=hs;exact False.elim q
 |cont=>
  obtain⟨_,_,_,q⟩:=hs;exact False.elim q
section
variable{X:Cx}{x:Str}{p pos:Pos}{e:Expr}{es:List Expr}{t:TA}{id T:String}{r:List V->Hp->VK->Prop}
noncomputable def oI(r:List V->Hp->VK->Prop)(t:TA):TE:=λσ H Q=>t σ H λvs H1=>r vs H1 Q
def xj(hc:aU X (.builtin id) r)(hg:Gl X x)(hm:X.mg x=none)(hv:Lg x=some (.builtin id))(ha:PA X (e::es) t)(hn:x ≠ "__name__":=by decide)(hdb:(x==("__debug__":Str))=false:=by decide)
  (he:Lp (e::es) X.env=(false,eval e X.env)::Lp es X.env:=by rfl) (hpl:(Lo pos (Lp es X.env)).any (·.1)=false:=by rfl):PE X (.Call (.Name x p) (e::es) [] pos) (oI r t):=by
 intro pins s σ H Q I h;refine LW (kh I hg hm hv ?_ hn hdb);exact PyProof.Rows.callWith_builtin1 (bc (ha pos pins s σ H _ I h) λus s1 ⟨vs,H1,I1,r1,q1⟩=>hc pins s1 σ H1 vs us Q I1 r1 q1) he hpl
def je(hc:aU X (.type T) r)(hg:Gl X x)(hm:X.mg x=none)(hv:Lg x=some (.type T))(ha:PA X (e::es) t)(hn:x ≠ "__name__":=by decide)(hdb:(x==("__debug__":Str))=false:=by decide)
  (he:Lp (e::es) X.env=(false,eval e X.env)::Lp es X.env:=by rfl) (hpl:(Lo pos (Lp es X.env)).any (·.1)=false:=by rfl):PE X (.Call (.Name x p) (e::es) [] pos) (oI r t):=by
 intro pins s σ H Q I h;refine LW (kh I hg hm hv ?_ hn hdb);exact PyProof.Rows.callWith_type1 (bc (ha pos pins s σ H _ I h) λus s1 ⟨vs,H1,I1,r1,q1⟩=>hc pins s1 σ H1 vs us Q I1 r1 q1) he hpl
end
end L2
namespace HT
open PySem PyProof.Rows
section
variable{prog:Lb}{w:Lc}{A:Lh}{E:Value->Shared->Prop}{s:Shared}
def eM (ht:IsTup s.heap t vs.toArray)(hb:IsTup s.heap b ws.toArray)(hv:vs≠[])(h1:ws=[]->Q (.ref t) s)(h2:ws≠[]->Q (.ref s.heap.objs.size) {s with heap:=s.heap.push {cls:=.type "tuple",data:=.seq (vs++ws).toArray} })(hsz:vs.length+ws.length<=sizeLine):Lm (Ln prog w) A (LI .Add (.ref t) (.ref b)) Q E s:=by
 obtain⟨⟨cls,dd,data,sl⟩,ho,hc,n,hd⟩:=id ht;obtain⟨⟨cls2,dd2,data2,sl2⟩,ho2,hc2,n2,hd2⟩:=id hb;simp only at hc hd hc2 hd2;subst hc hd hc2 hd2;have e:vs.toArray++ws.toArray=(vs++ws).toArray:=by simp
 by_cases hw:ws=[]
 .exact L8 ⟨_,ho,rfl⟩ ⟨_,ho2,rfl⟩ L9 Ma PySem.F.slot_tuple_add PySem.F.entry_tuple_add (PySem.F.args_tuple_add_2 _ _)
   (tuple_addW1 t b vs.toArray ws.toArray n n2 dd dd2 sl sl2 (by simpa using hv) (by simp[hw])) ⟨ho,ho2,h1 hw⟩
 .refine L8 ⟨_,ho,rfl⟩ ⟨_,ho2,rfl⟩ L9 Ma PySem.F.slot_tuple_add PySem.F.entry_tuple_add (PySem.F.args_tuple_add_2 _ _)
   (tuple_addW2 t b vs.toArray ws.toArray n n2 dd dd2 sl sl2 (by simpa using hv) (by simpa using hw) (by rw[Qm,Qm];exact hsz)) ⟨ho,ho2,?_⟩
  rw[e];exact h2 hw
noncomputable def aQ(n d:Nat):Option Int->Nat
 |none=>d
 |some v=>if v<0 then(v+(n:Int)).toNat else min v.toNat n
def Dy(n d:Nat)(hd:d<=n)(o:Option Int):aQ n d o<=n:=by
 cases o with
 |none=>exact hd
 |some v=>
  show(if v<0 then(v+(n:Int)).toNat else min v.toNat n)<=n;by_cases hv:v<0
  .rw[MN hv];lia
  .rw[MO hv];exact Nat.min_le_right _ _
def uK(v:Int)(n d:Nat):(if v<0 then max (v+(n:Int)) 0 else min v (n:Int))=((aQ n d (some v):Nat):Int):=by
 show(if v<0 then max (v+(n:Int)) 0 else min v (n:Int))=(((if v<0 then(v+(n:Int)).toNat else min v.toNat n):Nat):Int);by_cases hv:v<0
 .simp only[MN hv];lia
 .simp only[MO hv];lia
def Iz(lo hi:Option Int)(n:Nat):Builtin.Slice.sliceAdjust lo hi 1 (n:Int)=(((aQ n 0 lo:Nat):Int),((aQ n n hi:Nat):Int)):=by
 have h1:¬((1:Int)<0):=by lia
 unfold Builtin.Slice.sliceAdjust;simp only[h1,if_false];refine Prod.ext ?_ ?_
 .cases lo with
  |none=>rfl
  |some v=>exact uK v n 0
 .cases hi with
  |none=>rfl
  |some v=>exact uK v n n
def Iy(i j:Nat):Builtin.Slice.slicePlaces (i:Int) (j:Int) 1=j-i:=by
 unfold Builtin.Slice.slicePlaces;have h1:(1:Int) > 0:=by lia
 simp only[h1,if_true,Int.ediv_one];split<;>lia
def j9 (p:Mb v o)(h:Q o s):Lm (Ln prog w) A (Builtin.Slice.slicePartIndex v) Q E s:=by
 cases p with
 |none=>exact slicePart_none h
 |int i t=>exact slicePart_int h
def jf {lo:Option Int}{Q:Int×Int×Nat->Shared->Prop}(hs:s.heap.IsSliceOf sl vl vu .none)(pl:Mb vl lo)(pu:Mb vu hi)(h:Q (((aQ n 0 lo:Nat):Int),1,aQ n n hi-aQ n 0 lo) s):Lm (Ln prog w) A (Builtin.Slice.sliceApplied (.ref sl) (pure (n:Int))) Q E s:=by
 obtain⟨os,hos,hcs,hds⟩:=id hs;unfold Builtin.Slice.sliceApplied Builtin.Slice.sliceFields;refine Ly (Ly (Mc hos hds (x:=vl) rfl (Ly (Mc hos hds (x:=vu) rfl (Ly (Mc hos hds (x:=.none) rfl (LF ?_)))))));refine Ly (slicePart_none ?_);show Lm _ _ (if((1:Int)==0)=true then _ else _) _ _ s;rw[MO (by decide)];refine Ly (j9 pl (Ly (j9 pu (Ly (LF ?_)))));show Lm _ _ (match Builtin.Slice.sliceAdjust lo hi 1 (n:Int)with|(lo,hi)=>pure (lo,(1:Int),Builtin.Slice.slicePlaces lo hi 1)) _ _ s;rw[Iz lo hi n];show Lm _ _ (pure (((aQ n 0 lo:Nat):Int),(1:Int),Builtin.Slice.slicePlaces ((aQ n 0 lo:Nat):Int) ((aQ n n hi:Nat):Int) 1)) _ _ s;rw[Iy];exact LF h
def GP(xs:Array Value)(i k:Nat):((QI k).filterMap λ(m:Nat)=>xs[((i:Int)+(m:Int)*1).toNat]?).toArray=((xs.toList.drop i).take k).toArray:=by
 have e:(λ(m:Nat)=>xs[((i:Int)+(m:Int)*1).toNat]?)=λm=>xs[i+m]?:=by
  funext m;have:((i:Int)+(m:Int)*1).toNat=i+m:=by lia
  rw[this]
 rw[e];have:=pick_run xs i k;rw[List.filterMap_map]at this;have e2:((λx=>xs[x]?) ∘ λx=>i+x)=λm=>xs[i+m]?:=rfl;rw[e2]at this;rw[this]
def cm {lo:Option Int}(ht:IsTup s.heap t items)(hs:s.heap.IsSliceOf sl vl vu .none)(pl:Mb vl lo)(pu:Mb vu hi)(hw:¬(aQ items.size 0 lo=0/\aQ items.size items.size hi=items.size))(h:Q (.ref s.heap.objs.size) {s with heap:=s.heap.push {cls:=.type "tuple",data:=.seq ((items.toList.drop (aQ items.size 0 lo)).take (aQ items.size items.size hi-aQ items.size 0 lo)).toArray} })(hsz:items.size<=sizeLine):Lm (Ln prog w) A (Md (.ref t) (.ref sl)) Q E s:=by
 have htake:sizeOk (.seq ((items.toList.drop (aQ items.size 0 lo)).take (aQ items.size items.size hi-aQ items.size 0 lo)).toArray):=by
  show((items.toList.drop (aQ items.size 0 lo)).take (aQ items.size items.size hi-aQ items.size 0 lo)).toArray.size<=sizeLine;rw[Qm,Vi,List.length_drop,WL];lia
 have hj:aQ items.size items.size hi<=items.size:=Dy _ _ (Qk _) hi;obtain⟨os,hos,hcs,hds⟩:=id hs;have hTs:s.TypeIs (.ref sl) "slice":=⟨os,hos,hcs⟩;unfold Md
 try with_reducible refine Lz ?_
 first|refine Ly (LF ?_)|skip
 refine Ly (wpAny_sequenceKey ht.typeIs (by decide) ?_);refine Ly (wpAny_callSpecial?_slot (name:=Str.ofString "__getitem__") ht.typeIs PyProof.Rows.slot_tuple_getitem
  (wpAny_call_entry PyProof.Rows.slot_tuple_getitem ht.typeIs entry_tuple_getitem ?_ (args_tuple_getitem _ _)))
 show Lm _ _ (Builtin.Tuple.tupleItemsOf (.ref t) >>= _) _ _ s;refine Ly (tupleItemsOf_ ht ?_);refine Ly (wpAny_typeOf hTs ?_);rw[MN (by decide)];refine Ly (jf hs pl pu ?_);have hno:¬((((aQ items.size 0 lo:Nat):Int)==0&&(1:Int)==1&&(aQ items.size items.size hi-aQ items.size 0 lo)==items.size)=true):=by
  intro q;rw[Qj,Qj]at q;have q1:((aQ items.size 0 lo:Nat):Int)=0:=eq_of_beq q.1.1;have q2:aQ items.size items.size hi-aQ items.size 0 lo=items.size:=eq_of_beq q.2;exact hw ⟨by lia,by lia⟩
 show Lm _ _ (if(((aQ items.size 0 lo:Nat):Int)==0&&(1:Int)==1&&(aQ items.size items.size hi-aQ items.size 0 lo)==items.size)=true then _ else _) _ _ s;rw[MO hno,GP]
 first
  |exact Ly (m:=Builtin.Tuple.tupleExact _) (Mf (LF ⟨_,rfl,LF h⟩) htake)
  |exact Ly (m:=Builtin.Tuple.tupleExact _) (Mf (Ly (LF (LF ⟨_,rfl,LF h⟩))) htake)
  |exact Ly (Ly (m:=Builtin.Tuple.tupleExact _) (Mf (LF (LF ⟨_,rfl,LF h⟩)) htake))
  |exact Ly (Ly (m:=Builtin.Tuple.tupleExact _) (Mf (LF ⟨_,rfl,LF h⟩) htake))
end
end HT
namespace L2
open PySem PySem.Spec PyProof.Rows
abbrev TO:=St->Hp->(Option Int->Hp->Prop)->Prop
noncomputable def PO(X:Cx)(e:Option Expr)(t:TO):Prop:=
 ∀(pins:List (Addr×Obj)) (s:Shared) (σ:St) (H:Hp) (Q:Option Int->Hp->Prop),Inv X pins σ H s->t σ H Q ->
  Lm (Ln X.prog X.w) X.A (evalPart e X.env) (λu s'=>∃o H',Inv X pins σ H' s'/\Mb u o/\Q o H') X.xe s
noncomputable def FL:TO:=λ_ H Q=>Q none H
noncomputable def Dn(t:TE):TO:=λσ H Q=>t σ H λx H1=>∃i,x=.int i/\Q (some i) H1
section
variable{X:Cx}{e:Expr}{te:TE}{lo hi:Option Expr}{tl th:TO}{pos p2:Pos}
def FK:PO X none FL:=by
 intro pins s σ H Q I h;rw[evalPart_none];exact LF ⟨none,H,I,.none,h⟩
def FJ(h:PE X e te):PO X (some e) (Dn te):=by
 intro pins s σ H Q I hw;rw[evalPart_some];refine bc (h pins s σ H _ I hw) λu s1 ⟨x,H1,I1,r1,q1⟩=>?_;obtain⟨i,rfl,q⟩:=q1;obtain⟨t,rfl⟩:=r1;exact⟨some i,H1,I1,.int i t,q⟩
noncomputable def fH(X:Cx)(r:V->Option Int->Option Int->Hp->VK->Prop):Prop:=
 ∀(pins:List (Addr×Obj)) (s:Shared) (σ:St) (H:Hp) (x:V) (v vl vu:Value) (lo hi:Option Int) (sl:Addr) (Q:VK),Inv X pins σ H s->RelV x v->s.heap.IsSliceOf sl vl vu .none->Mb vl lo->Mb vu hi->r x lo hi H Q ->
  ∃T id,typeLookup (.type T) "__getitem__"=pure (some (.builtin id))/\s.TypeIs v T/\Lm (Ln X.prog X.w) X.A (Md v (.ref sl)) (EP X pins σ Q) X.xe s
def fH.or{r r':V->Option Int->Option Int->Hp->VK->Prop}(h:fH X r)(h':fH X r'):fH X (λx lo hi H Q=>r x lo hi H Q\/r' x lo hi H Q):=by
 intro pins s σ H x v vl vu lo hi sl Q I rx hs pl pu q;rcases q with q|q
 .exact h pins s σ H x v vl vu lo hi sl Q I rx hs pl pu q
 .exact h' pins s σ H x v vl vu lo hi sl Q I rx hs pl pu q
noncomputable def Jl(r:V->Option Int->Option Int->Hp->VK->Prop)(te:TE)(tl th:TO):TE:=λσ H Q=>te σ H λx H1=>tl σ H1 λl H2=>th σ H2 λu H3=>r x l u H3 Q
def GO (hr:fH X r)(he:PE X e te)(hl:PO X lo tl)(hu:PO X hi th):PE X (.Subscript e (.Slice lo hi none p2) pos) (Jl r te tl th):=by
 intro pins s σ H Q I h;refine Subscript_ (bc (he pins s σ H _ I h) λv s1 ⟨x,H1,I1,r1,q1⟩=>?_);refine wpAny_Slice (bc (hl pins s1 σ H1 _ I1 q1) λvl s2 ⟨l,H2,I2,pl,q2⟩=>bc (hu pins s2 σ H2 _ I2 q2) λvu s3 ⟨u,H3,I3,pu,q3⟩=>?_);rw[evalPart_none];refine LF ?_;have I4:Inv X pins σ H3 {s3 with heap:=s3.heap.push {cls:=.type "slice",data:=.fields #[vl,vu,.none]} }:=I3.kept (t':=s3.toks) λb ob q=>Qi _ q;obtain⟨T,id,hT,ht,hg⟩:=hr pins {s3 with heap:=s3.heap.push {cls:=.type "slice",data:=.fields #[vl,vu,.none]} } σ H3 x v vl vu l u s3.heap.objs.size Q I4 r1 (Heap.IsSliceOf.new ..) pl pu q3;show Lm (Ln X.prog X.w) X.A (subscriptTail e (.Slice lo hi none p2) v (.ref s3.heap.objs.size)) (EP X pins σ Q) X.xe {s3 with heap:=s3.heap.push {cls:=.type "slice",data:=.fields #[vl,vu,.none]} };exact tail_any (ops:=[.ref s3.heap.objs.size,v]) ht hT hg (by with_unfolding_all rfl)
noncomputable def gS(xs:List V)(lo hi:Option Int):List V:=(xs.drop (HT.aQ xs.length 0 lo)).take (HT.aQ xs.length xs.length hi-HT.aQ xs.length 0 lo)
def jE(xs:List V)(lo hi:Option Int):(gS xs lo hi).length<=xs.length:=by
 unfold gS;rw[Vi,List.length_drop];lia
noncomputable def sD(K:Qb):V->Option Int->Option Int->Hp->VK->Prop:=λx lo hi H Q=>∃a xs,x=.ref a/\bU K H a xs /\
 ¬(HT.aQ xs.length 0 lo=0/\HT.aQ xs.length xs.length hi=xs.length)/\∀p,H p=none->Q (.ref p) (aJ H p (.tup (gS xs lo hi)))
def Dx:fH X (sD X.K):=by
 intro pins s σ H x v vl vu lo hi sl Q I rx hs pl pu h;obtain⟨a,xs,rfl,hx,hw,q⟩:=h;cases rx;obtain⟨its,r,ht,hz⟩:=I.tuple hx;have hlen:its.toArray.size=xs.length:=by rw[Qm];exact r.length.symm
 refine⟨"tuple",_,PyProof.Rows.slot_tuple_getitem.lookup,ht.typeIs,?_⟩;refine HT.cm ht hs pl pu (by rw[hlen];exact hw) ?_ (by rw[hlen];exact hz);rw[hlen];refine⟨.ref s.heap.objs.size,_,I.laid (t':=s.toks) (o:=.tup (gS xs lo hi)) (λb ob q=>Qi _ q) (Qk _) ?_,rfl,q _ (I.hok.fresh (Qk _))⟩;exact⟨Qp (jE xs lo hi) hz,_,(r.drop (HT.aQ xs.length 0 lo)).take (HT.aQ xs.length xs.length hi-HT.aQ xs.length 0 lo),IsTup.new _ _⟩
noncomputable def sL(K:Qb):R2:=λx y H Q=>∃a b xs ys,x=.ref a/\y=.ref b/\bU K H a xs/\bU K H b ys/\xs≠[]/\xs.length+ys.length<=sizeLine /\
 (ys=[]->Q (.ref a) H)/\(ys≠[]->∀p,H p=none->Q (.ref p) (aJ H p (.tup (xs++ys))))
def aA.nil_iff (r:aA xs us):us=[]↔xs=[]:=by
 cases r with
 |nil=>simp
 |cons _ _=>simp
def eG:bS X (LI .Add) (sL X.K):=by
 intro pins s σ H x y v u Q I rx ry h;obtain⟨a,b,xs,ys,rfl,rfl,ha,hb,hx,hz,q1,q2⟩:=h;cases rx;cases ry;obtain⟨its,r1,p1,_⟩:=I.tuple ha;obtain⟨its2,r2,p2,_⟩:=I.tuple hb;refine HT.eM p1 p2 (λz=>hx (r1.nil_iff.mp z)) (λz=>⟨.ref a,H,I,rfl,q1 (r2.nil_iff.mp z)⟩) (λz=>?_) (by rw[<-r1.length,<-r2.length];exact hz);refine⟨.ref s.heap.objs.size,_,I.laid (t':=s.toks) (o:=.tup (xs++ys)) (λb ob q=>Qi _ q) (Qk _) ?_,rfl,q2 (λw=>z (r2.nil_iff.mpr w)) _ (I.hok.fresh (Qk _))⟩;exact⟨by rw[Q4];exact hz,_,r1.append r2,IsTup.new _ _⟩
end
noncomputable def fP(n:Nat)(i:Int):Option Nat:=if 0<=i then(if i<n then some i.toNat else none)else if -(n:Int)<=i then some (i+n).toNat else none
noncomputable def fE{α:Type}(xs:List α)(i:Int):Option α:=(fP xs.length i).bind λj=>xs[j]?
def uJ (h:fP n i=some j):Mg i n=some j/\j<n/\-(n:Int)<=i/\i<n:=by
 unfold fP at h;by_cases h0:0<=i
 .rw[MN h0]at h;by_cases h1:i<n
  .rw[MN h1]at h;have e:i.toNat=j:=Option.some.inj h;exact⟨by rw[Mh h0 h1,e],by lia,by lia,h1⟩
  .rw[MO h1]at h;cases h
 .rw[MO h0]at h;by_cases h1:-(n:Int)<=i
  .rw[MN h1]at h;have e:(i+n).toNat=j:=Option.some.inj h;exact⟨by rw[Mi (by lia) h1,e],by lia,h1,by lia⟩
  .rw[MO h1]at h;cases h
def qR (h:fE xs i=some v):∃j,Mg i xs.length=some j/\xs[j]?=some v/\j<xs.length/\-(xs.length:Int)<=i/\i<xs.length:=by
 unfold fE at h;cases e:fP xs.length i with
 |none=>rw[e]at h;cases h
 |some j=>
  rw[e]at h;obtain⟨h1,h2,h3,h4⟩:=uJ e;exact⟨j,h1,h,h2,h3,h4⟩
noncomputable def uI(b:Expr):Prop:=∀o i,subscripted b false o i=operate [o,i] (Md o i)
noncomputable def eV(X:Cx)(r:R2):Prop:=
 ∀(value slice:Expr) (pins:List (Addr×Obj)) (s:Shared) (σ:St) (H:Hp) (x y:V) (v u:Value) (Q:VK),Inv X pins σ H s->RelV x v->RelV y u->r x y H Q ->
  subscripted slice false v u=operate [v,u] (Md v u)->Lm (Ln X.prog X.w) X.A (subscriptTail value slice v u) (EP X pins σ Q) X.xe s
noncomputable def rM(X:Cx)(id:String)(r:V->List V->Hp->VK->Prop):Prop:=
 ∀(pins:List (Addr×Obj)) (s:Shared) (σ:St) (H:Hp) (x:V) (xs:List V) (v:Value) (us:List Value) (Q:VK),Inv X pins σ H s->RelV x v->aA xs us->r x xs H Q ->
  Lm (Ln X.prog X.w) X.A (call (.builtin id) (v::us)) (EP X pins σ Q) X.xe s
section
variable{X:Cx}{a b:Expr}{ta tb:TE}{pos:Pos}
def eV.or{r r':R2}(h:eV X r)(h':eV X r'):eV X (λx y H Q=>r x y H Q\/r' x y H Q):=by
 intro value slice pins s σ H x y v u Q I rx ry q hs;rcases q with q|q
 .exact h value slice pins s σ H x y v u Q I rx ry q hs
 .exact h' value slice pins s σ H x y v u Q I rx ry q hs
def Cs (hr:eV X r)(ha:PE X a ta)(hb:PE X b tb)(hs:uI b):PE X (.Subscript a b pos) (iy r ta tb):=by
 intro pins s σ H Q I h;exact Subscript_ (my ha hb I h λv u s2 x y H2 I2 rx ry q=>hr a b pins s2 σ H2 x y v u Q I2 rx ry q (hs _ _))
noncomputable def ss(K:Qb):R2:=λx y H Q=>∃p xs i v,x=.ref p/\y=.int i/\bE K H p xs/\fE xs i=some v/\Q v H
noncomputable def sr(K:Qb):R2:=λx y H Q=>∃p xs i v,x=.ref p/\y=.int i/\bU K H p xs/\fE xs i=some v/\Q v H
noncomputable def so:R2:=λx y H Q=>∃z i c,x=.str z/\y=.int i/\z.length<=sizeLine/\fE z.cps.toList i=some c/\Q (.str ⟨#[c]⟩) H
def eJ:eV X (ss X.K):=by
 intro value slice pins s σ H x y v u Q I rx ry h hs;obtain⟨p,xs,i,z,rfl,rfl,hq,he,q⟩:=h;cases rx;obtain⟨t,rfl⟩:=ry;obtain⟨its,r,pl,hz⟩:=I.list hq;obtain⟨j,h1,h2,h3,h4,h5⟩:=qR he;obtain⟨w,ew,rw'⟩:=r.get h2;have hl:=r.length;have hn:=j7;have fin:EP X pins σ Q w s:=⟨z,H,I,rw',q⟩;by_cases h0:0<=i
 .have hj:i.toNat=j:=by
   rw[Mh h0 h5]at h1;exact Option.some.inj h1
  exact item_listR pl.isList h0 (by lia) (by rw[hj];simpa using ew) fin hs
 .have hj:(i+(its.toArray.size:Int)).toNat=j:=by
   rw[Mi (by lia) h4]at h1;rw[Qm,<-hl];exact Option.some.inj h1
  exact Mj (x:=w) pl.isList.typeIs slot_list_getitem.lookup
   (wpAny_getItem_list_neg (Q:=λr s'=>r=w/\EP X pins σ Q r s') pl.isList (by lia) (by rw[Qm]<;>lia) (by lia) (by rw[hj];simpa using ew) ⟨rfl,fin⟩) hs
def fA:eV X (sr X.K):=by
 intro value slice pins s σ H x y v u Q I rx ry h hs;obtain⟨p,xs,i,z,rfl,rfl,hq,he,q⟩:=h;cases rx;obtain⟨t,rfl⟩:=ry;obtain⟨its,r,pl,hz⟩:=I.tuple hq;obtain⟨j,h1,h2,h3,h4,h5⟩:=qR he;obtain⟨w,ew,rw'⟩:=r.get h2;have hl:=r.length;have hn:=j7;have fin:EP X pins σ Q w s:=⟨z,H,I,rw',q⟩;exact Mj (x:=w) pl.typeIs slot_tuple_getitem.lookup
  (getItem_tuple (j:=j) (Q:=λr s'=>r=w/\EP X pins σ Q r s') pl (by lia) (by lia) (by rw[Qm,<-hl];exact h1) (by simpa using ew) ⟨rfl,fin⟩) hs
def Dw:eV X so:=by
 intro value slice pins s σ H x y v u Q I rx ry h hs;obtain⟨z,i,c,rfl,rfl,hz,he,q⟩:=h;obtain⟨t,rfl⟩:=rx;obtain⟨t',rfl⟩:=ry;obtain⟨j,h1,h2,h3,h4,h5⟩:=qR he;have hl:z.cps.toList.length=z.length:=by simp[Str.length]
 rw[hl]at h1 h4 h5;have hn:=j7;exact tail_any (typeIs_str s z t) slot_str_getitem.lookup (getItem_str (c:=c) (by
  have e1:decide (i < -(2^63:Int))=false:=MR (by lia);have e2:decide (i ≥ 2^63)=false:=MR (by lia);rw[e1,e2,Bool.or_false]) (by rw[h1];simpa using h2) ⟨.str ⟨#[c]⟩,H,I.tok _,⟨_,rfl⟩,q⟩) hs
noncomputable def AK(K:Qb):R2:=λx y H Q=>ss K x y H Q\/sr K x y H Q\/so x y H Q
def Dv:eV X (AK X.K):=eJ.or (fA.or Dw)
def Ix(its:List Value)(n j:Nat)(u:Value):Obj.mapSeq (·.setIfInBounds j u) {cls:=.type "list",data:=.seq its.toArray n}={cls:=.type "list",data:=.seq (its.set j u).toArray n}:=by
 simp[Obj.mapSeq]
theorem Inv.lst (I:Inv X pins σ H s)(h:H p=some (.lst xs)):
  ∃(its:List Value) (n:Nat),aA xs its/\s.heap.get? p=some {cls:=.type "list",data:=.seq its.toArray n}/\xs.length<=sizeLine:=by
 obtain⟨z,its,n,r,e⟩:=I.hok p _ h;exact⟨its,n,r,e,z⟩
def Inv.lstUpd{pins:List (Addr×Obj)}{σ:St}{H:Hp}{s:Shared}{p:Addr}{xs ys:List V}{its its':List Value}{n n':Nat}{f:Obj->Obj}(I:Inv X pins σ H s)(h:H p=some (.lst xs))
  (ho:s.heap.get? p=some {cls:=.type "list",data:=.seq its.toArray n}) (hf:f {cls:=.type "list",data:=.seq its.toArray n}={cls:=.type "list",data:=.seq its'.toArray n' }) (r:aA ys its') (hz:ys.length<=sizeLine) (t:Nat) :
  Inv X pins σ (aJ H p (.lst ys)) {s with heap:=s.heap.update p f,toks:=t}:=by
 have e:(s.heap.update p f).get? p=some {cls:=.type "list",data:=.seq its'.toArray n' }:=by
  rw[WG f ho (by rw[hf]<;>rfl),hf]
 refine I.write (x:=p) (e:=p) (by rw[h];trivial) (.inl rfl) (λb u hb q=>(Wb _ _ (Ne.symm hb)).trans q) ⟨_,e⟩ ?_;exact⟨hz,its',n',r,e⟩
noncomputable def mQ:V->V->V->Hp->(Hp->Prop)->Prop:=λo i v H Q=>∃p xs k j,o=.ref p/\i=.int k/\H p=some (.lst xs)/\fP xs.length k=some j/\Q (aJ H p (.lst (xs.set j v)))
def GN:sB X mQ:=by
 intro pins s σ H o i v ov iv u Q I ro ri rv h;obtain⟨p,xs,k,j,rfl,rfl,hp,hj,q⟩:=h;cases ro;obtain⟨t,rfl⟩:=ri;obtain⟨its,n,r,ho,hz⟩:=I.lst hp;obtain⟨h1,h2,h3,h4⟩:=uJ hj;have hl:=r.length;have hn:=j7;have I':Inv X pins σ (aJ H p (.lst (xs.set j v))) {s with heap:=s.heap.update p (Obj.mapSeq (·.setIfInBounds j u))} :=
  I.lstUpd hp ho (Ix its n j u) (r.set rv j) (by rw[Wp];exact hz) s.toks
 by_cases h0:0<=k
 .have hk:k.toNat=j:=by
   rw[Mh h0 h4]at h1;exact Option.some.inj h1
  exact PySem.W.ki_setAt ho h0 (by lia) (by rw[Qm,<-hl];exact h4) (by rw[hk];exact⟨_,I',q⟩)
 .have hk:(k+(its.toArray.size:Int)).toNat=j:=by
   rw[Mi (by lia) h3]at h1;rw[Qm,<-hl];exact Option.some.inj h1
  exact PySem.W.ki_setBack ho (by lia) (by rw[Qm,<-hl];exact h3) (by lia) (by rw[hk];exact⟨_,I',q⟩)
def qS(lo hi:Option Int)(n:Nat):(Mk lo hi none n).1=((HT.aQ n 0 lo:Nat):Int)/\(Mk lo hi none n).2.1=((HT.aQ n n hi:Nat):Int)/\(Mk lo hi none n).2.2=1:=by
 refine⟨?_,?_,rfl⟩
 .cases lo with
  |none=>simp[Mk,HT.aQ]
  |some i=>
   simp only[Mk,HT.aQ,Option.getD_none,show(1:Int) > 0 by decide,if_true];by_cases h:i<0
   .simp only[h,if_true]<;>lia
   .simp only[h,if_false]<;>lia
 .cases hi with
  |none=>simp[Mk,HT.aQ]
  |some i=>
   simp only[Mk,HT.aQ,Option.getD_none,show(1:Int) > 0 by decide,if_true];by_cases h:i<0
   .simp only[h,if_true]<;>lia
   .simp only[h,if_false]<;>lia
def gT(its:List Value)(lo hi:Option Int):slicePick its.toArray lo hi none=((its.drop (HT.aQ its.length 0 lo)).take (HT.aQ its.length its.length hi-HT.aQ its.length 0 lo)).toArray:=by
 obtain⟨h1,h2,h3⟩:=qS lo hi its.toArray.size;unfold slicePick;rw[h1,h2,h3];simp only[sliceRange_one,pick_run,Qm]<;>rfl
noncomputable def mv(K:Qb):V->Option Int->Option Int->Hp->VK->Prop:=λx lo hi H Q=>∃a xs,x=.ref a/\bE K H a xs/\∀p,H p=none->Q (.ref p) (aJ H p (.lst (gS xs lo hi)))
def eu:fH X (mv X.K):=by
 intro pins s σ H x v vl vu lo hi sl Q I rx hs pl pu h;obtain⟨a,xs,rfl,hx,q⟩:=h;cases rx;obtain⟨its,r,ht,hz⟩:=I.list hx;have hlen:=r.length;refine⟨"list",_,slot_list_getitem.lookup,ht.isList.typeIs,?_⟩;refine wpAny_getItem_list_slice ht.isList hs pl pu .none (by simp) ?_ (by rw[Qm]<;>lia);rw[gT,<-hlen];refine⟨.ref s.heap.objs.size,_,I.laid (t':=s.toks) (o:=.lst (gS xs lo hi)) (λb ob q=>Qi _ q) (Qk _) ?_,rfl,q _ (I.hok.fresh (Qk _))⟩;exact⟨Qp (jE xs lo hi) hz,_,0,(r.drop (HT.aQ xs.length 0 lo)).take (HT.aQ xs.length xs.length hi-HT.aQ xs.length 0 lo),QT _ rfl⟩
def qT:aU X (.builtin "len") (λxs H Q=>∃p ys,xs=[.ref p]/\(bE X.K H p ys\/bU X.K H p ys)/\Q (.int ys.length) H):=by
 intro pins s σ H xs us Q I r h;obtain⟨p,ys,rfl,hq,q⟩:=h;obtain⟨u,rfl,rx⟩:=jD r;cases rx;have hn:=j7;rcases hq with hq|hq
 .obtain ⟨its,r',pl,hz⟩:=I.list hq;have hlen:=r'.length;exact Calls.call_len_list pl.isList (by simp only[Qm]<;>lia) ⟨.int ys.length,H,I.tok _,⟨s.toks+1,by rw[Qm,hlen]⟩,q⟩
 .obtain ⟨its,r',pl,hz⟩:=I.tuple hq;have hlen:=r'.length;exact len_tuple pl (by simp only[Qm]<;>lia) ⟨.int ys.length,H,I.tok _,⟨s.toks+1,by rw[Qm,hlen]⟩,q⟩
def qU:aU X (.type "list") (λxs H Q=>∃p ys,xs=[.ref p]/\(bE X.K H p ys\/bU X.K H p ys)/\∀l,H l=none->Q (.ref l) (aJ H l (.lst ys))):=by
 intro pins s σ H xs us Q I r h;obtain⟨p,ys,rfl,hq,q⟩:=h;obtain⟨u,rfl,rx⟩:=jD r;cases rx;have fin:∀(its:List Value),aA ys its->ys.length<=sizeLine->∀(h':Ld) (c':Nat),(∀b o',s.heap.get? b=some o'->h'.get? b=some o') ->
   h'.get? s.heap.objs.size=some {cls:=.type "list",dict:=none,data:=.seq its.toArray c',slots:=#[]}->EP X pins σ Q (.ref s.heap.objs.size) {s with heap:=h' }:=λits r' hz h' c' kp e=>
  ⟨.ref s.heap.objs.size,_,I.laid (t':=s.toks) kp (Qk _) (show bv X.prog X.w _ h' _ (.lst ys)from⟨hz,its,c',r',e⟩),rfl,q _ (I.hok.fresh (Qk _))⟩
 rcases hq with hq|hq
 .obtain ⟨its,r',pl,hz⟩:=I.list hq;have hlen:=r'.length;obtain⟨o,ho,hc,n,hd⟩:=pl.isList;exact call_list_seq p (.inl rfl) ho hc hd (λh' c' kp e=>fin its r' hz h' c' kp e) (by simp only[Qm]<;>lia)
 .obtain ⟨its,r',pl,hz⟩:=I.tuple hq;have hlen:=r'.length;obtain⟨o,ho,hc,n,hd⟩:=pl;exact call_list_seq p (.inr rfl) ho hc hd (λh' c' kp e=>fin its r' hz h' c' kp e) (by simp only[Qm]<;>lia)
def gU:aU X (.type "tuple") (λxs H Q=>∃p ys,xs=[.ref p]/\((bE X.K H p ys/\∀l,H l=none->Q (.ref l) (aJ H l (.tup ys)))\/(bU X.K H p ys/\Q (.ref p) H))):=by
 intro pins s σ H xs us Q I r h;obtain⟨p,ys,rfl,h⟩:=h;obtain⟨u,rfl,rx⟩:=jD r;cases rx;rcases h with⟨hq,q⟩|⟨hq,q⟩
 .obtain ⟨its,r',pl,hz⟩:=I.list hq;have hlen:=r'.length;refine call_tuple_list pl.isList (λh' kp=>?_) (by simp only[Qm]<;>lia);have I1:Inv X pins σ H {s with heap:=h' }:=I.kept (t':=s.toks) kp;have I2:Inv X pins σ (aJ H h'.objs.size (.tup ys)) {s with heap:=h'.push {cls:=.type "tuple",data:=.seq its.toArray} } :=
   I1.laid (t':=s.toks) (λb o e=>Qi _ e) (Qk _) (show bv X.prog X.w _ _ _ (.tup ys)from⟨hz,its,r',IsTup.new _ _⟩)
  exact⟨.ref h'.objs.size,_,I2,rfl,q _ (I1.hok.fresh (Qk _))⟩
 .obtain ⟨its,r',pl,hz⟩:=I.tuple hq;exact call_tuple_same pl ⟨.ref p,H,I,rfl,q⟩
noncomputable def lH(K:Qb)(T:String)(x:V)(H:Hp):Prop:=match x with
 |.ref p=>T="list" /\ ∃xs,bE K H p xs
 |_=>False
def tQ (I:Inv X pins σ H s)(r:RelV x v)(ty:lH X.K T x H):
  s.TypeIs v T/\∀a,v=.ref a->∃ob,s.heap.get? a=some ob/\ob.dict=none:=by
 cases x with
 |ref p=>
  cases r;obtain⟨rfl,xs,hq⟩:=ty;obtain⟨its,_,pl,_⟩:=I.list hq;refine⟨pl.isList.typeIs,λa e=>?_⟩;cases e;obtain⟨o,n,e,c,hd,_⟩:=pl;exact⟨o,e,hd⟩
 |_=>exact False.elim ty
noncomputable def oJ(K:Qb)(T:String)(r:V->List V->Hp->VK->Prop)(to:TE):TE:=λσ H Q=>to σ H λx H1=>lH K T x H1/\r x [] H1 Q
noncomputable def Jn(K:Qb)(T:String)(r:V->List V->Hp->VK->Prop)(to:TE)(t:TA):TE:=λσ H Q=>to σ H λx H1=>lH K T x H1/\t σ H1 λxs H2=>r x xs H2 Q
variable{o e:Expr}{es:List Expr}{to:TE}{t:TA}{name:Str}{apos cpos:Pos}{T id:String}{r:V->List V->Hp->VK->Prop}
def Du(pa:PlainAttrs T)(slot:Slot T name id)(hty:typeOf (.builtin id)=pure (.type "method_descriptor"))(hm:rM X id r)(ho:PE X o to)
  (hbase:LN o name X.env (eval o X.env)=eval o X.env:=by rfl) (hline:(apos.endLine==cpos.line)=true:=by rfl):PE X (.Call (.Attribute o name apos) [] [] cpos) (oJ X.K T r to):=by
 intro pins s σ H Q I h;refine wpAny_Call_method0_late hbase hline (bc (ho pins s σ H _ I h) λv s1 ⟨x,H1,I1,r1,ty,q1⟩=>?_);obtain⟨h1,h2⟩:=tQ I1 r1 ty;exact⟨T,id,pa,slot,hty,h1,h2,Calls.callWith_builtin rfl (PySem.evalArgs_none (hm pins s1 σ H1 x [] v [] Q I1 r1 .nil q1))⟩
def Cr(pa:PlainAttrs T)(slot:Slot T name id)(hty:typeOf (.builtin id)=pure (.type "method_descriptor"))(hm:rM X id r)(ho:PE X o to)(ha:PA X (e::es) t)
  (hbase:LN o name X.env (eval o X.env)=eval o X.env:=by rfl)
  (hfew:((Lo cpos (Lp (e::es) X.env)).all (λx=>! x.1)&&(backToKw cpos (Ml [] X.env)).all (λx=>x.1.isSome)
   && decide ((e::es).length+([]:List Mm).length+(if([]:List Mm).isEmpty then 0 else 1)<30))=true:=by rfl)
  (hline:(apos.endLine==cpos.line)=true:=by rfl) (hs:Lp (e::es) X.env=(false,eval e X.env)::Lp es X.env:=by rfl) (hplain:(Lo cpos (Lp es X.env)).any (·.1)=false:=by rfl) :
  PE X (.Call (.Attribute o name apos) (e::es) [] cpos) (Jn X.K T r to t):=by
 intro pins s σ H Q I h;refine wpAny_Call_method_late hbase hfew hline rfl (bc (ho pins s σ H _ I h) λv s1 ⟨x,H1,I1,r1,ty,q1⟩=>?_);obtain⟨h1,h2⟩:=tQ I1 r1 ty;refine⟨T,id,pa,slot,hty,h1,h2,?_⟩;have hA:=ha cpos pins s1 σ H1 _ I1 q1;rw[hs]at hA ⊢;refine Calls.callWith_builtin (by show(false || (Lo cpos (Lp es X.env)).any (·.1))=false;rw[hplain]<;>rfl) (Calls.evalArgs_plain ?_);exact bc hA λus s2 ⟨vs,H2,I2,r2,q2⟩=>hm pins s2 σ H2 x vs v us Q I2 r1 r2 q2
end
noncomputable def iJ(X:Cx)(id:String)(r:V->List V->Hp->VK->Prop):Prop:=
 ∀(pins:List (Addr×Obj)) (s:Shared) (σ:St) (H:Hp) (x:V) (xs:List V) (v:Value) (us:List Value) (Q:VK),Inv X pins σ H s->RelV x v->aA xs us->r x xs H Q ->
  Lm (Ln X.prog X.w) X.A (call (.builtin id) (v::us)) (EP X pins σ Q) X.xe s
def aA.one:∀{x:V}{us:List Value},aA [x] us->∃u,us=[u]/\RelV x u
 |_,_,.cons r .nil=>⟨_,rfl,r⟩
def aA.zero:∀{us:List Value},aA [] us->us=[]
 |_,.nil=>rfl
theorem aA.dropLast{xs:List V}{us:List Value}(h:aA xs us):aA xs.dropLast us.dropLast:=by
 induction h with
 |nil=>exact .nil
 |cons r t ih=>
  cases t with
  |nil=>exact .nil
  |cons q t'=>exact .cons r ih
theorem aA.eraseIdx:∀{xs:List V}{us:List Value}(i:Nat),aA xs us->aA (xs.eraseIdx i) (us.eraseIdx i)
 |_,_,_,.nil=>.nil
 |_,_,0,.cons _ t=>t
 |_,_,i+1,.cons r t=>.cons r (aA.eraseIdx i t)
theorem aA.reverse{xs:List V}{us:List Value}(h:aA xs us):aA xs.reverse us.reverse:=by
 induction h with
 |nil=>exact .nil
 |cons r t ih=>rw[We,We];exact aA.append ih (.cons r .nil)
theorem aA.rep (h:aA xs us):∀k:Nat,aA (Qv k xs).flatten (Qv k us).flatten
 |0=>.nil
 |k+1=>by
  rw[Q0,Q0,Wf,Wf];exact aA.append h (aA.rep h k)
def IW{α:Type}(l:List α):l.eraseIdx (l.length-1)=l.dropLast:=by
 induction l with
 |nil=>rfl
 |cons a r ih=>
  cases r with
  |nil=>rfl
  |cons b r=>
   have e:(a::b::r).length-1=((b::r).length-1)+1:=by
    have h1:(a::b::r).length=r.length+2:=rfl;have h2:(b::r).length=r.length+1:=rfl;lia
   rw[e,List.eraseIdx_cons_succ,ih]
   all_goals rfl
theorem qh{α:Type}:∀(l:List α) (i:Nat),(l.eraseIdx i).length<=l.length
 |[],_=>Qk _
 |_::_,0=>WX _
 |_::r,i+1=>Nat.succ_le_succ (qh r i)
theorem qi(its:List Value):∀(k:Nat) (acc:List Value),
  List.foldl (λx1 x2=>x1++x2) acc.toArray (Qv k its.toArray)=(acc++(Qv k its).flatten).toArray
 |0,acc=>by simp
 |k+1,acc=>by
  have e:acc.toArray++its.toArray=(acc++its).toArray:=by simp
  have e2:(acc++its)++(Qv k its).flatten=acc++(Qv (k+1) its).flatten:=by
   rw[Q0,Wf,WV]
  rw[<-e2,<-qi its k (acc++its),<-e,Q0,List.foldl_cons]
section
variable{X:Cx}{pins:List (Addr×Obj)}{σ:St}{H:Hp}{s:Shared}{l:Addr}{xs ys:List V}
def Inv.lset{its its':List Value}{n:Nat}{f:Array Value->Array Value}{t':Nat}(I:Inv X pins σ H s)(hH:H l=some (.lst xs))
  (e:s.heap.get? l=some {cls:=.type "list",data:=.seq its.toArray n}) (hf:f its.toArray=its'.toArray) (hv:aA ys its') (hz:ys.length<=sizeLine) :
  Inv X pins σ (aJ H l (.lst ys)) {s with heap:=s.heap.update l (Obj.mapSeq f),toks:=t' }:=by
 have q:=PySem.IsL.update e f;rw[hf]at q;refine I.write (x:=l) (e:=l) (by rw[hH];exact trivial) (.inl rfl) (λb' u hb hu=>(Wb s.heap (Obj.mapSeq f) (Ne.symm hb)).trans hu) ⟨_,q⟩ ?_;exact⟨hz,its',_,hv,q⟩
def Inv.lnew{its:List Value}{t':Nat}(I:Inv X pins σ H s)(hv:aA ys its)(hz:ys.length<=sizeLine):
  Inv X pins σ (aJ H s.heap.objs.size (.lst ys)) {s with heap:=s.heap.push {cls:=.type "list",data:=.seq its.toArray},toks:=t' } :=
 I.laid (λ_ _ q=>Qi _ q) (Qk _) ⟨hz,its,0,hv,QT _ rfl⟩
theorem Inv.fresh(I:Inv X pins σ H s):H s.heap.objs.size=none:=I.hok.fresh (Qk _)
def Inv.lstM(I:Inv X pins σ H s)(hH:H l=some (.lst xs)):xs.length<=sizeLine/\∃(its:List Value) (n:Nat),aA xs its/\xs.length=its.length/\s.heap.get? l=some {cls:=.type "list",data:=.seq its.toArray n}:=by
 obtain⟨z,its,n,r,e⟩:=I.hok l _ hH;exact⟨z,its,n,r,r.length,e⟩
def GM (h:n<=sizeLine):Builtin.List.listTooLong n=false:=by
 unfold Builtin.List.listTooLong;exact MR (by lia)
end
section
variable{X:Cx}
noncomputable def FI:V->List V->Hp->VK->Prop:=λx vs H Q=>∃l xs y,x=.ref l/\vs=[y]/\H l=some (.lst xs)/\xs.length<sizeLine/\Q .non (aJ H l (.lst (xs++[y])))
def qj:iJ X "list.append" FI:=by
 intro pins s σ H x vs v us Q I rx rv h;obtain⟨l,xs,y,rfl,rfl,hH,hz,q⟩:=h;cases rx;obtain⟨u,rfl,ru⟩:=rv.one;obtain⟨z,its,n,r,hl,e⟩:=I.lstM hH;refine Mn F.slot_list_append ⟨_,e,rfl⟩ F.entry_list_append (F.args_list_append_2 _ _) (PySem.list_append l its.toArray n u (by rw[Qm];lia)) ⟨e,?_⟩;refine⟨.non,_,I.lset (its':=its++[u]) hH e (by simp) (r.append (.cons ru .nil)) ?_,rfl,q⟩;rw[Q4,List.length_singleton];lia
noncomputable def oU:V->List V->Hp->VK->Prop:=λx vs H Q=>∃l xs y,x=.ref l/\vs=[]/\H l=some (.lst xs)/\xs[xs.length-1]?=some y/\Q y (aJ H l (.lst xs.dropLast))
def Ee:iJ X "list.pop" oU:=by
 intro pins s σ H x vs v us Q I rx rv h;obtain⟨l,xs,y,rfl,rfl,hH,hy,q⟩:=h;cases rx;have hus:=rv.zero;subst hus;obtain⟨z,its,n,r,hl,e⟩:=I.lstM hH;obtain⟨u,hu,ru⟩:=r.get hy;have hy':its.toArray[its.toArray.size-1]?=some u:=by
  show its.toArray[its.length-1]?=some u;rw[<-Vz,<-hl];exact hu
 refine Mn F.slot_list_pop ⟨_,e,rfl⟩ F.entry_list_pop (F.args_list_pop_1 _) (MeetsSeq.list_pop_last l its.toArray n u hy' (by rw[Qm];lia)) ⟨e,?_⟩;refine⟨y,_,I.lset (its':=its.dropLast) hH e ?_ r.dropLast ?_,ru,q⟩
 .show its.toArray.eraseIdxIfInBounds (its.toArray.size-1)=its.dropLast.toArray;rw[Qm,Vh,IW]
 .rw[List.length_dropLast];lia
noncomputable def Ed:V->List V->Hp->VK->Prop:=λx vs H Q=>∃l xs i k y,x=.ref l/\vs=[.int i]/\H l=some (.lst xs)/\-(2^63)<=i/\i<2^63/\Mg i xs.length=some k/\xs[k]?=some y/\Q y (aJ H l (.lst (xs.eraseIdx k)))
def GL:iJ X "list.pop" Ed:=by
 intro pins s σ H x vs v us Q I rx rv h;obtain⟨l,xs,i,k,y,rfl,rfl,hH,h1,h2,hk,hy,q⟩:=h;cases rx;obtain⟨u,rfl,ru⟩:=rv.one;obtain⟨t,rfl⟩:=ru;obtain⟨z,its,n,r,hl,e⟩:=I.lstM hH;obtain⟨w,hw,rw'⟩:=r.get hy;refine Mn F.slot_list_pop ⟨_,e,rfl⟩ F.entry_list_pop (F.args_list_pop_2 _ _)
  (MeetsSeq.list_pop_at l its.toArray n i t k w (fitsIndex_both h1 h2) (by rw[Qm,<-hl];exact hk) (by rw[<-Vz];exact hw) (by rw[Qm];lia)) ⟨e,?_⟩
 refine⟨y,_,I.lset (its':=its.eraseIdx k) hH e ?_ (r.eraseIdx k) ?_,rw',q⟩
 .show its.toArray.eraseIdxIfInBounds k=(its.eraseIdx k).toArray;rw[Vh]
 .have:=qh xs k;lia
noncomputable def GK:V->List V->Hp->VK->Prop:=λx vs H Q=>∃l xs,x=.ref l/\vs=[]/\H l=some (.lst xs)/\Q .non (aJ H l (.lst xs.reverse))
def IV:iJ X "list.reverse" GK:=by
 intro pins s σ H x vs v us Q I rx rv h;obtain⟨l,xs,rfl,rfl,hH,q⟩:=h;cases rx;have hus:=rv.zero;subst hus;obtain⟨z,its,n,r,hl,e⟩:=I.lstM hH;refine Mn F.slot_list_reverse ⟨_,e,rfl⟩ F.entry_list_reverse (F.args_list_reverse_1 _) (AutoSeq1.list_reverse_list_0 l its.toArray n (by rw[Qm];lia)) ⟨e,?_⟩;refine⟨.non,_,I.lset (its':=its.reverse) hH e (by simp) r.reverse ?_,rfl,q⟩;rw[List.length_reverse];lia
noncomputable def sk:R2:=λx y H Q=>∃l b xs zs,x=.ref l/\y=.ref b/\H l=some (.lst xs)/\H b=some (.lst zs)/\xs.length+zs.length<=sizeLine/\∀p,H p=none->Q (.ref p) (aJ H p (.lst (xs++zs)))
def fw:bS X (LI .Add) sk:=by
 intro pins s σ H x y v u Q I rx ry h;obtain⟨l,b,xs,zs,rfl,rfl,hH,hB,hz,q⟩:=h;cases rx;cases ry;obtain⟨z,its,n,r,hl,e⟩:=I.lstM hH;obtain⟨z2,its2,n2,r2,hl2,e2⟩:=I.lstM hB;refine PySem.P.add_list e e2 ?_ (by rw[Qm,Qm];lia);have ea:its.toArray++its2.toArray=(its++its2).toArray:=by simp
 rw[ea];exact⟨.ref _,_,I.lnew (t':=s.toks) (r.append r2) (by rw[Q4];lia),rfl,q _ I.fresh⟩
noncomputable def si:R2:=λx y H Q=>∃l k xs,x=.ref l/\y=.int k/\H l=some (.lst xs)/\-(2^63)<=k/\k<2^63/\xs.length*k.toNat<=sizeLine /\
 ∀p,H p=none->Q (.ref p) (aJ H p (.lst (Qv k.toNat xs).flatten))
def uH{α:Type}(xs:List α)(k:Nat):(Qv k xs).flatten.length=k*xs.length:=by
 induction k with
 |zero=>simp
 |succ k ih=>rw[Q0,Wf,Q4,ih,Nat.succ_mul,Nat.add_comm]
def Ec:bS X (LI .Mult) si:=by
 intro pins s σ H x y v u Q I rx ry h;obtain⟨l,k,xs,rfl,rfl,hH,h1,h2,hz,q⟩:=h;cases rx;obtain⟨t,rfl⟩:=ry;obtain⟨z,its,n,r,hl,e⟩:=I.lstM hH;have hlen:its.toArray.size*k.toNat<=sizeLine:=by rw[Qm,<-hl];exact hz
 have hcap:¬its.toArray.size*k.toNat > (2^63-1)/8:=by
  have:(sizeLine:Nat)<=(2^63-1)/8:=by decide
  lia
 have hfit:¬(! Builtin.List.listFitsIndex k)=true:=by
  rw[fitsIndex_both h1 h2];exact Wi
 have hlong:¬Builtin.List.listTooLong (its.toArray.size*k.toNat)=true:=by
  rw[GM hlen];exact Wi
 have hnew:List.foldl (λx1 x2=>x1++x2) #[] (Qv (if its.toArray.isEmpty=true then 0 else k.toNat) its.toArray)=(Qv k.toNat its).flatten.toArray:=by
  have f0:∀m:Nat,List.foldl (λx1 x2=>x1++x2) #[] (Qv m its.toArray)=(Qv m its).flatten.toArray:=λm=>by
   have:=qi its m [];rw[QG]at this;exact this
  rw[f0];cases its with
  |nil=>simp
  |cons a r'=>rw[MO (by simp)]
 refine wpAny_binaryOp_repeat_ref (T:="list") (U:="int") (by decide) ⟨_,e,rfl⟩ (λs'=>typeIs_int s' k t) noFill_list_mul F.fills_int_mul F.slot_int_rmul repeat_list F.slot_int_index.lookup
  (Mn F.slot_int_rmul (typeIs_int s k t) F.entry_int_rmul (F.args_int_rmul_2 _ _) (int___rmul___int_list k t l its.toArray n)
   ⟨e,rfl,⟨_,e,rfl⟩,Mn F.slot_list_mul ⟨_,e,rfl⟩ F.entry_list_mul (F.args_list_mul_2 _ _) (AutoListH.list___mul___list_int_3 l its.toArray n k t hfit hcap hlong) ⟨e,?_⟩⟩)
 rw[hnew];exact⟨.ref _,_,I.lnew (t':=s.toks) (r.rep k.toNat) (by rw[uH,Nat.mul_comm];exact hz),rfl,q _ I.fresh⟩
end
end L2
namespace Att
open PySem PySem.W PySem.Calls PyProof.Rows
def jM:∀(ns:List Int) (vs:List Value),WellAll P h vs (ns.map WData.int)->Mo vs ns:=by
 intro ns
 induction ns with
 |nil=>
  intro vs w;rw[Vy]at w;cases w;exact .nil
 |cons n ns ih=>
  intro vs w;rw[Wg]at w;cases w with
  |cons a b=>
   cases a;exact .cons _ _ (ih _ b)
def Im {l:OpenLaw}(hn:l.most=some n)(hpre:l.row.toRowW.claim.pre args=true)(hwl:WellAll P h vals args):
  ∃a vs ns,vals=[Value.ref a]/\args=[WData.list (ns.map WData.int)]/\h.get? a=some {cls:=.type "list",data:=.seq vs.toArray}/\Mo vs ns/\ns.length<=n:=by
 have hsh:WShape.hasAll [] args [.list .int]=true:=(pre_splitW hpre).1;have hc:l.pre.holds [] {args:=args}=true:=(pre_splitW hpre).2;obtain⟨d,r,rfl,h1,h2⟩:=hasAllW_cons hsh;obtain rfl:=hasAllW_nil h2;obtain⟨xs,rfl,h3⟩:=hasW_list h1;obtain⟨ns,rfl⟩:=items_int h3;have hlen:ns.length<=n:=by
  unfold OpenLaw.pre at hc;have h4:(WTm.not (.lt (.lit (.int (n:Int))) (.len (.arg 0)))).holds [] {args:=[.list (ns.map .int)]}=true:=by
   have h4:=(holds_andW hc).1;rw[hn]at h4;exact h4
  have h5:=condW_of h4 (w_not (w_lt w_lit (w_len_list (w_arg rfl))));rw[Qx]at h5;refine Nat.le_of_not_lt λq=>?_;have q':(n:Int)<((ns.length:Nat):Int):=by lia
  first
   |(rw[MS q']at h5;exact MP h5 (by decide))
   |(simp at h5;lia)
 cases hwl with
 |cons w1 w2=>
  cases w2;cases w1 with
  |list ho hall=>exact⟨_,_,ns,rfl,rfl,ho,jM ns _ hall,hlen⟩
def Il(l:OpenLaw)(args:List WData):l.row.toRowW.claim.post args (.bool true) args=true:=
 postW_of (r:=l.row.toRowW) (X:=(true==true))
  (show WShape.has [] (.bool true) .bool=true by first|rfl|decide|simp[WShape.has,WShape.arms,WShape.armsAll])
  (show(WTm.eq .res (.lit (.bool true))).value [] {args:=args,res:=some (.bool true),after:=args}=some (.bool (true==true))from w_eq_bool (w_res rfl) w_lit) rfl
def dg {l:OpenLaw}(hn:l.most=some n)(hdf:d.params.defaults=[])(call:∀(w:Lc) (s₀ s₁:Shared) (mg mb:Str->Option Value) (fa:Addr) (o:Obj) (pm cd doc:Value) (a:Addr) (vs:List Value) (ns:List Int),
   Ground q loose [] XP w s₀ mg mb s₁.heap->YP w s₁.heap ->
   s₁.heap.get? fa=some o->o.data=.func (docDef d.name d.params d.body d.scope pm cd doc)->s₁.heap.CodeRec cd d.name->mg d.name=some (.ref fa) ->
   s₁.heap.get? a=some {cls:=.type "list",data:=.seq vs.toArray}->Mo vs ns->ns.length<=n->s₁.gens=#[] ->
   LS (Ln l.prog w) Mp (.call (.ref fa) ⟨[.ref a],[]⟩) (λr s'=>r=.ok (.ret (.bool true))/\OldK s₁.heap s'.heap/\s'.os=s₁.os/\Li s'.gens) s₁):
  WalkO q loose XP YP l.row.toRowW d [] (λf vs=>PySem.call f vs):=by
 intro w s₀ s₁ mg mb G Y fa o pm cd doc dV kV ho hd hcd hD hmg hg args vals as hpre hlay hrd hwl hlo;obtain rfl:dV=.none:=Dflts.none hD hdf;obtain rfl:kV=.none:=Dflts.noKw hD;obtain⟨a,vs,ns,rfl,rfl,hobj,hints,hlen⟩:=Im hn hpre hwl;refine enter_call (LV (call w s₀ s₁ mg mb fa o pm cd doc a vs ns G Y ho (fd_plain hd) hcd hmg hobj hints hlen hg) λr s' hq=>?_);obtain⟨rfl,h2,h3,h4⟩:=hq;exact⟨.inl ⟨.bool true,.bool true,[],rfl,λ_=>rfl,.bool true,Il l _,λ_=>⟨List.Pairwise.nil,λ_ hm=>(nomatch hm)⟩⟩,h2,h3,h4⟩
end Att
namespace L2
open PySem PySem.Spec PyProof.Rows
theorem qk:∀{vs:List Value}{ns:List Int},Mo vs ns->aA (ns.map V.int) vs
 |_,_,.nil=>.nil
 |_,_,.cons n t h=>.cons ⟨t,rfl⟩ (qk h)
noncomputable def ie(H:Hp):Prop:=∀b,H b=none\/∃o xs,H b=some (.frz o (.lst xs))
def GJ {K:Qb}(KX:K.In s₁.heap)(hns:s₁.heap.Ns Lf mg)(hb:s₁.heap.Ns builtinsNs mb)(hbb:∀x:Str,x ≠ "__name__" -> mb x=Lg x)(hlim:s₁.heap.NoLimit)(hg:s₁.gens=#[])(ha:s₁.heap.get? a=some {cls:=.type "list",data:=.seq vs.toArray})(hi:Mo vs ns)(hl:ns.length<=sizeLine)(hr:bM k Mp)(F:∀base:Ld,K.In base->base.Ns Lf mg->bC P w K mg base CX k fa fd [x] sp)(hbind:∀(s:Shared) (u:Value),LR s fd ⟨[u],[]⟩ [(x,u)])(hsp:∀H:Hp,ie H->bE K H a (ns.map V.int)->sp [.ref a] H (λv _=>v=.bl true) λ_ _ _=>False)(hCX:∀H e s',CX [] H s₁ (λ_ _ _=>False) e s'->False):
  LS (Ln P w) Mp (.call (.ref fa) ⟨[.ref a],[]⟩) (λr s'=>r=.ok (.ret (.bool true))/\OldK s₁.heap s'.heap/\s'.os=s₁.os/\Li s'.gens) s₁:=by
 have rv:=qk hi;have lenV:=hi.length
 -- from an abstract heap in which nothing but the script may be tracked
 have core:∀H:Hp,ie H->bE K H a (ns.map V.int)->bP P w H s₁.heap->(∀b,H b≠none->b=a)->(H a≠none->K.lookup a=none) ->
   LS (Ln P w) Mp (.call (.ref fa) ⟨[.ref a],[]⟩) (λr s'=>r=.ok (.ret (.bool true))/\OldK s₁.heap s'.heap/\s'.os=s₁.os/\Li s'.gens) s₁:=by
  intro H hO hS hok hA hK;have cq:∀{b:Addr}{o:Obj},s₁.heap.get? b=some o->H b=none->(qL s₁.heap H).get? b=some o:=λe n=>HD e n;have noA:∀{b:Addr}{o:Obj}{es:Array DictEntry}{ep:Nat},s₁.heap.get? b=some o->o.data=.dict es ep->H b=none:=λ{b o es ep} e d=>by
   cases q:H b with
   |none=>rfl
   |some u=>
    have e':b=a:=hA b (by rw[q];simp);subst e';rw[ha]at e;cases e;have d':Data.seq vs.toArray _=Data.dict es ep:=d;cases d'
  have nsK:∀{b:Addr}{m:Str->Option Value},s₁.heap.Ns b m->(qL s₁.heap H).Ns b m:=λ{b m} ⟨o,es,ep,e,d,r⟩=>⟨o,es,ep,cq e (noA e d),d,r⟩;have hKb:K.In (qL s₁.heap H):=λb o e=>cq (KX b o e) (by
   cases q:H b with
   |none=>rfl
   |some u=>
    have e':b=a:=hA b (by rw[q];simp);subst e';rw[hK (by rw[q];simp)]at e;cases e)
  have hM:Mod K mg (qL s₁.heap H):=⟨hKb,nsK hns,⟨mb,nsK hb,hbb⟩,let⟨mc,h1,h2⟩:=hlim;⟨mc,nsK h1,h2⟩⟩;have e0:cZ P w K mg (qL s₁.heap H) Mp [] s₁ H:=⟨rfl,hM,λb o e=>Fd e,W2 (Iw _ _),trivial,λb hb=>MP (show b∈([]:List Addr)from hb) (by simp),hok,.of_eq hg⟩;refine LV ((F _ hKb (nsK hns)).run Mp [] s₁ H ⟨[.ref a],[]⟩ [.ref a] [.ref a] _ _ hr e0 (hbind s₁ (.ref a)) (.cons rfl .nil) (hsp H hO hS)) λr s' h=>?_;cases r with
  |error e=>exact(hCX H e s' h).elim
  |ok fl=>
   cases fl with
   |next=>exact False.elim h
   |brk=>exact False.elim h
   |cont=>exact False.elim h
   |ret u=>
    obtain⟨v,H',os,bare,un,hok',r',q⟩:=h;have q':v=.bl true:=q;subst q';obtain rfl:u=Value.bool true:=r';refine⟨rfl,OldK.of_keep λb o e=>?_,os,bare⟩;cases q:H b with
    |none=>exact un.keep b o e q (by intro z;exact MP (show b∈([]:List Addr)from z) (by simp)) (by simp)
    |some u=>
     rcases hO b with z|⟨ob,xs,z⟩
     .rw[q]at z;cases z
     .have z2:=un.frzs b ob _ z;obtain⟨e1,_⟩:=hok b _ z;obtain⟨e2,_⟩:=hok' b _ z2;rw[e]at e1;cases e1;exact e2
 cases hk:K.lookup a with
 |some o=>
  -- the script is one of the module's own objects
  have e:=KX a o hk;rw[ha]at e;cases e;refine core (λ_=>none) (λ_=>.inl rfl) (.inr ⟨_,vs.toArray,_,hk,rfl,rfl,rfl,by rw[Qm,lenV];exact hl,by simpa using rv⟩) (λb u z=>by have z':(none:Option HO)=some u:=z;cases z') (λb z=>MP rfl z) λz=>MP rfl z
 |none=>
  refine core (λb=>if b=a then some (.frz {cls:=.type "list",data:=.seq vs.toArray} (.lst (ns.map V.int)))else none) (λb=>?_) (.inl (.inr ⟨{cls:=.type "list",data:=.seq vs.toArray},MN rfl⟩)) (λb u z=>?_) (λb z=>?_) λ_=>hk
  .by_cases hb:b=a
   .exact .inr ⟨_,_,MN hb⟩
   .exact .inl (MO hb)
  .by_cases hb:b=a
   .have z':=(MN hb).symm.trans z;cases z';subst hb;exact⟨ha,by rw[Qx];exact hl,vs,_,rv,ha⟩
   .have z':=(MO hb).symm.trans z;cases z'
  .by_cases hb:b=a
   .exact hb
   .exact MP (MO hb) z
def FH {l:PySem.W.OpenLaw}{K:La->Qb}{CX:Lc->dN}{sp:Lc->Sp}(hn:l.most=some n)(hn2:n<=sizeLine)(hdf:d.params.defaults=[])(hr:bM k Mp)(hY:∀(w:Lc) (h:Ld),YP w h->(K w.params).In h)(F:∀(w:Lc) (mg:Str->Option Value) (fa:Addr) (h:Ld),(K w.params).In h->h.Ns Lf mg->mg d.name=some (.ref fa) ->
   ∃fd:LQ,(∀(s:Shared) (u:Value),LR s fd ⟨[u],[]⟩ [(x,u)]) /\
    ∀base:Ld,(K w.params).In base->base.Ns Lf mg->bC l.prog w (K w.params) mg base (CX w) k fa fd [x] (sp w))(hsp:∀(w:Lc) (H:Hp) (a:Addr) (ns:List Int),ns.length<=n->ie H->bE (K w.params) H a (ns.map V.int)->sp w [.ref a] H (λv _=>v=.bl true) λ_ _ _=>False)(hCX:∀(w:Lc) (H:Hp) (s:Shared) (e:Value) (s':Shared),CX w [] H s (λ_ _ _=>False) e s'->False):
  Vq q loose XP YP l.row.toRowW d [] (λf vs=>PySem.call f vs):=by
 refine Att.dg hn hdf λw s₀ s₁ mg mb fa o pm cd doc a vs ns G Y ho hd hcd hmg hobj hints hlen hg=>?_;have KX:=hY w _ Y;obtain⟨fd,hb,hF⟩:=F w mg fa _ KX G.T.g hmg;exact GJ KX G.T.g G.T.b G.T.builtins G.T.nolimit hg hobj hints (Qp hlen hn2) hr hF hb (λH hO hS=>hsp w H a ns hlen hO hS) λH e s'=>hCX w H s₁ e s'
abbrev c5:dN:=λ_ _ _ _ _ _=>False
abbrev E0:XK:=λ_ _ _=>False
def Cq:j8 c5 X E0:=λ_ _ _ _ _ _ _ h=>h.elim
structure dM(K:Qb)(x qual:Str)(st:Stmt)(f:Addr)(fd:LQ):Prop where
 ex:∃(oc:Value) (od:Option Addr) (kV doc pm:Value) (an:Option Addr) (cdv ct:Value) (osl:Array (Option Value)),
  fd=Wc x qual (xV st) (zU st) (zo st) .none kV doc pm an cdv ct/\K.lookup f=some ⟨oc,od,.func fd,osl⟩/\WB K cdv qual=true
 kp:QK K (.ref f)=true
section
variable{P:Lb}{w:Lc}{K:Qb}{mg:Str->Option Value}{base:Ld}
def dM.ok {st:Stmt}(F:dM K x qual st f fd)(S:bT N ps (zo st))(len:∀vs H Q E,sp vs H Q E->vs.length=ps.length)(hbody:∀(cdv:Value) (A:Lh) (outer:List Env) (s:Shared) (H:Hp) (vs:List V) (Q:VK) (E:XK),bM k (A.deeper (envOfC qual (zo st) s.heap.objs.size f cdv))->sp vs H Q E ->
   ∃t,cf (vY c5 P w K mg base N qual (zo st) f cdv A outer s H E).nox (zU st) t/\t {nx:=λ_ H'=>Q .non H',rt:=Q} (start N vs) H):bC P w K mg base c5 (k+1) f fd ps sp:=by
 obtain⟨oc,od,kV,doc,pm,an,cdv,ct,osl,rfl,lk,hcd⟩:=F.ex;refine mR lk hcd S len λA outer s H vs Q E hr hsp=>?_;obtain⟨t,h,q⟩:=hbody cdv A outer s H vs Q E hr hsp;exact⟨t,h.nox,q⟩
def dM.binds {st:Stmt}(F:dM K x qual st f fd)(h:∀(kV doc pm:Value) (an:Option Addr) (cdv ct:Value) (us:List Value),us.length=ps.length->bindArgs (Wc x qual (xV st) (zU st) (zo st) .none kV doc pm an cdv ct) ⟨us,[]⟩=pure (ps.zip us)):Binds K fd ps []:=by
 obtain⟨oc,od,kV,doc,pm,an,cdv,ct,osl,rfl,lk,hcd⟩:=F.ex;exact .all (h kV doc pm an cdv ct)
def nC {st:Stmt}{kV:Value}(l:K.lookup f=some ⟨oc,od,.func (Wc x qual (xV st) (zU st) (zo st) .none kV doc pm an cdv ct),osl⟩)(c:WB K cdv qual=true)(k:QK K (.ref f)=true):dM K x qual st f (Wc x qual (xV st) (zU st) (zo st) .none kV doc pm an cdv ct):=⟨⟨oc,od,kV,doc,pm,an,cdv,ct,osl,rfl,l,c⟩,k⟩
end
def Ik (h:n<=1000):n<sizeLine:=Nat.lt_of_le_of_lt h (by decide)
def gW {B:Prop}(h:B):if false=true then A else B:=by
 rw[MO Wi];exact h
def gX {B:Prop}(h:A):if true=true then A else B:=by
 rw[MN rfl];exact h
noncomputable def ki(env:Env):List (Str×LX)->List (Str×Addr)->List (Str×Addr)
 |[],acc=>acc
 |(n,k)::r,acc=>if k == .free then ki env r ((n,(env.cells.lookup n).getD 0)::acc)else ki env r acc
theorem kC (f:Str×LX->List (Str×Addr)->Sem (ForInStep (List (Str×Addr))))(hf:∀n k cs,f (n,k) cs=if k == .free then(do let a <-cellOf env n;pure (.yield ((n,a)::cs)))else pure (.yield cs)):
  ∀(names:List (Str×LX)) (acc:List (Str×Addr)),(∀y∈names,y.2=.free->∃c,env.cells.lookup y.1=some c)->forIn names acc f=pure (ki env names acc)
 |[],acc,_=>by rw[List.forIn_nil];rfl
 |(n,k)::r,acc,h=>by
  have ih:=kC f hf r;rw[List.forIn_cons,hf];unfold ki;cases hk:k==NameKind.free with
  |true=>
   obtain⟨c,hc⟩:=h (n,k) QH (by simpa using hk);have hc':env.cells.lookup n=some c:=hc;have e1:cellOf env n=pure c:=by unfold cellOf;rw[hc']
   simp only[if_true,e1,hc',WW,pure_bind];exact ih _ λy hy=>h y (Ql _ hy)
  |false=>
   simp only[QR,if_false,pure_bind];exact ih _ λy hy=>h y (Ql _ hy)
def gc (h:∀y∈scope.names,y.2=.free->∃c,env.cells.lookup y.1=some c):closureFor scope env=pure (ki env scope.names []):=by
 unfold closureFor;simp only[];rw[kC (env:=env) _ (λn k cs=>by cases hk:k==NameKind.free<;>simp[hk]) scope.names [] h];rfl
theorem vM:∀{names:List (Str×LX)}{acc:List (Str×Addr)},(∀z∈names,z.2=.free->∃c,env.cells.lookup z.1=some c)->(ki env names acc).lookup y=some c ->
  acc.lookup y=some c\/((y,NameKind.free)∈names/\env.cells.lookup y=some c)
 |[],acc,_,e=>.inl e
 |(n,k)::r,acc,h,e=>by
  unfold ki at e;have h':∀z∈r,z.2=.free->∃c,env.cells.lookup z.1=some c:=λz hz=>h z (Ql _ hz);cases hk:k==NameKind.free with
  |true=>
   have hk':k=.free:=by simpa using hk
   subst hk';rw[hk,MN rfl]at e;rcases vM h' e with q|⟨q1,q2⟩
   .rw[QV]at q;cases hy:y==n with
    |true=>
     rw[hy]at q;have:y=n:=by simpa using hy
     subst this;obtain⟨c',hc'⟩:=h (y,.free) QH rfl;have hc'':env.cells.lookup y=some c':=hc';rw[hc'']at q;refine .inr ⟨QH,?_⟩;rw[hc''];exact q
    |false=>rw[hy]at q;exact .inl q
   .exact .inr ⟨Ql _ q1,q2⟩
  |false=>
   rw[hk,MO (by simp)]at e;rcases vM h' e with q|⟨q1,q2⟩
   .exact .inl q
   .exact .inr ⟨Ql _ q1,q2⟩
theorem jg:∀{names:List (Str×LX)}{acc:List (Str×Addr)},((y,NameKind.free)∈names\/(acc.lookup y).isSome=true)->((ki env names acc).lookup y).isSome=true
 |[],acc,h=>by
  rcases h with h|h
  .cases h
  .exact h
 |(n,k)::r,acc,h=>by
  unfold ki;cases hk:k==NameKind.free with
  |true=>
   rw[MN rfl];refine jg ?_;rcases h with h|h
   .rcases Qr.mp h with e|e
    .cases e;exact .inr (by rw[QV];simp)
    .exact .inl e
   .refine .inr ?_;rw[QV];split
    .rfl
    .exact h
  |false=>
   rw[MO (by simp)];refine jg ?_;rcases h with h|h
   .rcases Qr.mp h with e|e
    .cases e;cases hk
    .exact .inl e
   .exact .inr h
theorem mP:∀{names:List (Str×LX)}{h:Ld}{acc:List (Str×Addr)},(L5 h.objs.size names acc).lookup y=some c ->
  acc.lookup y=some c\/(h.objs.size<=c/\(Mq h names).IsCell c none/\(y,NameKind.cell)∈names)
 |[],h,acc,e=>.inl e
 |(n,k)::r,h,acc,e=>by
  unfold L5 at e;cases hk:k==NameKind.cell with
  |true=>
   have hk':k=.cell:=by simpa using hk
   subst hk';rw[hk,MN rfl]at e;have ih:=mP (y:=y) (c:=c) (names:=r) (h:=h.push {cls:=.type "cell",data:=.cell none}) (acc:=(n,h.objs.size)::acc);rw[WS]at ih;have hp:Mq h ((n,NameKind.cell)::r)=Mq (h.push {cls:=.type "cell",data:=.cell none}) r:=by
    exact MN hk
   rcases ih e with q|⟨q1,q2,q3⟩
   .rw[QV]at q;cases hy:y==n with
    |true=>
     rw[hy]at q;cases q;have hyn:y=n:=by simpa using hy
     subst hyn;refine .inr ⟨Qk _,?_,QH⟩;rw[hp];exact⟨_,Mr _ _ _ _ (QT _ rfl),rfl⟩
    |false=>rw[hy]at q;exact .inl q
   .exact .inr ⟨Qp (WX _) q1,by rw[hp];exact q2,Ql _ q3⟩
  |false=>
   rw[hk,MO (by simp)]at e;have hp:Mq h ((n,k)::r)=Mq h r:=by
    show(if(k==NameKind.cell)=true then _ else _)=_;rw[hk,MO (by simp)]
   rcases mP e with q|⟨q1,q2,q3⟩
   .exact .inl q
   .exact .inr ⟨q1,by rw[hp];exact q2,Ql _ q3⟩
theorem mO {lo:Nat}:∀{names:List (Str×LX)}{n:Nat}{acc:List (Str×Addr)},((y,NameKind.cell)∈names\/∀c,acc.lookup y=some c->lo<=c)->lo<=n->(L5 n names acc).lookup y=some c->lo<=c
 |[],n,acc,h,_,e=>by
  rcases h with h|h
  .cases h
  .exact h c e
 |(m,k)::r,n,acc,h,hn,e=>by
  unfold L5 at e;cases hk:k==NameKind.cell with
  |true=>
   rw[hk,MN rfl]at e;refine mO ?_ (Qp hn (WX _)) e;by_cases hy:y=m
   .subst hy;refine .inr λc hc=>?_;rw[QV,beq_self_eq_true]at hc;cases hc;exact hn
   .rcases h with h|h
    .rcases Qr.mp h with z|z
     .cases z;exact MP rfl hy
     .exact .inl z
    .refine .inr λc hc=>?_;rw[QV]at hc;have:(y==m)=false:=by simpa using hy
     rw[this]at hc;exact h c hc
  |false=>
   rw[hk,MO (by simp)]at e;refine mO ?_ hn e;rcases h with h|h
   .rcases Qr.mp h with z|z
    .cases z;cases hk
    .exact .inl z
   .exact .inr h
theorem nB:∀{names:List (Str×LX)}{n:Nat}{acc:List (Str×Addr)},(∀y z c,acc.lookup y=some c->acc.lookup z=some c->y=z)->(∀y c,acc.lookup y=some c->c<n) ->
  ∀y z c,(L5 n names acc).lookup y=some c->(L5 n names acc).lookup z=some c->y=z
 |[],n,acc,hi,_=>hi
 |(m,k)::r,n,acc,hi,hl=>by
  unfold L5;cases hk:k==NameKind.cell with
  |true=>
   rw[MN rfl];refine nB (λy z c e1 e2=>?_) λy c e=>?_
   .rw[QV]at e1 e2;cases hy:y==m<;>cases hz:z==m<;>rw[hy]at e1<;>rw[hz]at e2
    .exact hi y z c e1 e2
    .cases e2;exact MP (hl y _ e1) (QZ _)
    .cases e1;exact MP (hl z _ e2) (QZ _)
    .exact (by simpa using hy:y=m).trans (by simpa using hz:z=m).symm
   .rw[QV]at e;cases hy:y==m<;>rw[hy]at e
    .exact Vg (hl y c e)
    .cases e;exact WI _
  |false=>
   rw[MO (by simp)];exact nB hi hl
def Jh (hQ:Q {scope:=scope,locals:=s.heap.objs.size,globals:=globals,cells:=L5 (s.heap.objs.size+1) scope.names cl,qual:=qual,func:=none,code:=outer.code,frame:=outer.frame,builtins:=outer.builtins}
   {s with heap:=Mq (s.heap.push {cls:=.type "dict",data:=.dict #[]}) scope.names}):
  Lm M A (Ms scope globals cl [] qual none .none (some outer)) Q E s:=by
 simp only[Ms,Option.isSome_some,if_true];refine Ly (wpAny_alloc ?_);refine Ly (wpAny_layCells _ (λname kind cells=>by cases hkc:kind==NameKind.cell<;>simp[hkc]) _ _ _ _ ?_);rw[show({s with heap:=s.heap.push {cls:=.type "dict",data:=.dict #[]} }:Shared).heap.objs.size=s.heap.objs.size+1 from WS ..];simp only[List.forIn_nil];exact Ly (LF (LF hQ))
def yx:(Mt scope env).names.lookup y=(scope.names.lookup y).map λk=>if(k==NameKind.free&&env.scope.kind == .function&&env.kindOf y==some .cell)then NameKind.cell else k:=by
 have all:∀l:List (Str×LX),(l.map λ(n,k)=>if(k==NameKind.free&&env.scope.kind == .function&&env.kindOf n==some .cell)then(n,NameKind.cell)else(n,k)).lookup y=(l.lookup y).map λk=>if(k==NameKind.free&&env.scope.kind == .function&&env.kindOf y==some .cell)then NameKind.cell else k:=by
  intro l
  induction l with
  |nil=>rfl
  |cons p r ih=>
   obtain⟨n,k⟩:=p;rw[Wg,QV];by_cases hc:(k==NameKind.free&&env.scope.kind == .function&&env.kindOf n==some .cell)=true
   .simp only[hc,if_true,QV];cases hy:y==n with
    |true=>
     have:y=n:=by simpa using hy
     subst this;simp only[QJ,hc,if_true]
    |false=>exact ih
   .simp only[MO hc,QV];cases hy:y==n with
    |true=>
     have:y=n:=by simpa using hy
     subst this;simp only[QJ,MO hc]
    |false=>exact ih
 exact all scope.names
noncomputable def lP(x:Str):Str:=⟨x.cps.push 0⟩
noncomputable def wv(N xs:List Str):List Str:=(N.map λy=>if y∈xs then lP y else y)++xs
def HC(N xs:List Str):(wv N xs).length=N.length+xs.length:=by simp[wv]
def kj(N xs:List Str)(j:Nat):(wv N xs)[N.length+j]?=xs[j]?:=by
 unfold wv;rw[Qo (by simp)];simp
def HB (hi:i<N.length)(h:(wv N xs)[i]?=some y):(∃x∈xs,y=lP x)\/(N[i]?=some y/\y∉xs):=by
 unfold wv at h;rw[Qs (by simpa using hi),Qn]at h;obtain⟨z,hz⟩:∃z,N[i]?=some z:=⟨N[i],by simp[hi]⟩;rw[hz]at h;by_cases e:z∈xs
 .simp only[QJ,MN e]at h;exact .inl ⟨z,e,(Option.some.inj h).symm⟩
 .simp only[QJ,MO e]at h;have e2:z=y:=Option.some.inj h;subst e2;exact .inr ⟨hz,e⟩
structure bK(X:Cx)(scope:K9)(xs:List Str)(Xc:Cx):Prop where
 prog:Xc.prog=X.prog
 w:Xc.w=X.w
 K:Xc.K=X.K
 mg:Xc.mg=X.mg
 base:Xc.base=X.base
 A:Xc.A=X.A
 N:Xc.N=wv X.N xs
 sc:Xc.env.scope=Mt scope X.env
 calm:Xc.calm=true
 stack:Xc.stack=X.stack
noncomputable def iG(X:Cx)(ifs:List Expr)(t:TT):Prop:=
 ∀(pins:List (Addr×Obj)) (s:Shared) (σ:St) (H:Hp) (Q:Bool->Hp->Prop),Inv X pins σ H s->t σ H Q ->
  Lm (Ln X.prog X.w) X.A (forIn ifs true λc r=>if r=true then do let ok <-isTrue c X.env (eval c X.env);pure (ForInStep.yield ok)else pure (ForInStep.yield r)) (TP X pins σ Q) X.xe s
def qV:iG X [] (λ_ H Q=>Q true H):=λ_ _ _ H _ I h=>wpAny_tests_nil ⟨H,I,h⟩
structure bH(X:Cx)(scope:K9)(xs:List Str):Prop where
 kind:scope.kind=.function
 own:∀x∈xs,scope.names.lookup x=some .local\/scope.names.lookup x=some .cell
 locs:∀y∈scope.names,y.2=.local->scope.names.lookup y.1=some .local
 free:∀y∈scope.names,y.2=.free->X.env.scope.names.lookup y.1=some .cell\/X.env.scope.names.lookup y.1=some .free
 alone:∀y∈X.N,y∉xs->scope.names.lookup y≠some .local/\scope.names.lookup y≠some .cell
 one:∀y∈scope.names,y.2=.cell->scope.names.lookup y.1≠some .free
 nd:(wv X.N xs).Nodup
 dumN:∀x∈xs,scope.names.lookup (lP x)=none
def qW{prog:Lb}{w:Lc}{A:Lh}{R:Result->Shared->Prop}{s:Shared}{elt target iter:Expr}{ifs:List Expr}{scope:K9}{pos:Pos}{it acc:Value}{env:Env}(I:Nat->Shared->Prop)
  (turn:∀n s,I n s->Lm (Ln prog w) A (pyNext it) (λr s₁=>match r with
   |none=>R (.ok .next) s₁
   |some v=>Lm (Ln prog w) A (LC target it v) (λ_ s₁'=>Lm (Ln prog w) A (assign target env v) (λ_ s₂=>
     Lm (Ln prog w) A (forIn ifs true λc r=>if r=true then do let ok <-isTrue c env (eval c env);pure (ForInStep.yield ok)else pure (ForInStep.yield r)) (λok s₃=>
      if ok=true then Lm (Ln prog w) A (eval elt env) (λx s₄=>
       Lm (Ln prog w) A (call (.builtin "list.append") [acc,x]) (λ_ s₅=>∃m,m<n/\I m s₅) (Mu (Ln prog w) A env λe s'=>R (.error e) s') s₄) (Mu (Ln prog w) A env λe s'=>R (.error e) s') s₃
      else ∃m,m<n/\I m s₃) (Mu (Ln prog w) A env λe s'=>R (.error e) s') s₂) (Mu (Ln prog w) A env λe s'=>R (.error e) s') s₁') (Mu (Ln prog w) A env λe s'=>R (.error e) s') s₁) (Mu (Ln prog w) A env λe s'=>R (.error e) s') s)
  (n:Nat) (h:I n s):LS (Ln prog w) A (.compLoop (.ListComp elt [⟨target,iter,ifs,0⟩] scope pos) 0 it acc env) R s:=by
 refine codeAny_loop rfl I (λn s hI=>?_) n h;show Lm _ A ((compTurn (.ListComp elt [⟨target,iter,ifs,0⟩] scope pos) 0 it acc env).onRaise (λx=>do Mv x env;theTreesLotGoes x)) _ _ s;refine wpAny_noted ?_;rw[compTurn_list];refine Ly (LA (Ly (Lq (turn n s hI) (λr s₁ h₁=>?_) λ_ _ h'=>h')));cases r with
 |none=>exact LF h₁
 |some v=>
  refine Ly (Lq h₁ (λ_ s₁' h₁'=>?_) λ_ _ h'=>h');refine Ly (Lq h₁' (λ_ s₂ h₂=>Ly (Lq h₂ (λok s₃ h₃=>?_) λ_ _ h'=>h')) λ_ _ h'=>h');cases ok with
  |false=>exact LF ⟨rfl,h₃⟩
  |true=>
   exact Ly (Ly (Lq h₃ (λx s₄ h₄=>Ly (Lq h₄ (λ_ s₅ h₅=>LF (LF ⟨rfl,h₅⟩)) λ_ _ h'=>h')) λ_ _ h'=>h'))
noncomputable def iq(un:V->Hp->List V->Prop)(wi:TI)(tc:TT)(te:TE):TE:=λσ H Q=>wi σ H λJ H1=>∀D,H1 D=none->∃W:Nat->Nat->List V->Hp->Prop,(∃m,W 0 m [] (aJ H1 D (.lst [])))/\∀i m ys H,W i m ys H ->
 (J.stop i H/\Q (.ref D) H)\/(J.go i H/\∀v H',J.yld i H v H'->∃vs,un v H' vs/\tc (σ++vs.map some) H' λb H2=>if b=true then te (σ++vs.map some) H2 λy H3=>H3 D=some (.lst ys)/\ys.length<sizeLine/\∃m',m'<m/\W (i+1) m' (ys++[y]) (aJ H3 D (.lst (ys++[y])))
  else ∃m',m'<m/\W (i+1) m' ys H2)
def gd {un:V->Hp->List V->Prop}(B:bH X scope xs)(hc:X.calm=true)(hpg:∀Xc,bK X scope xs Xc->(∀x∈xs,Loc Xc.env.scope x/\(Xc.fn x=true\/Xc.env.scope.names.lookup x=some .local))->PG Xc tg g)(hun:∀v H vs os,os.length=xs.length->un v H vs->vs.length=xs.length/\g v (σ++os) H λσ2 H2=>σ2=σ++vs.map some/\H2=H)(hbody:∀Xc,bK X scope xs Xc->iG Xc ifs tc/\PE Xc elt te)(I:Inv X pins σ H s)(T:dF X.prog X.w X.K tg J fp it tn)(st:tn 0 s.heap)(hfp:∀b∈fp,jL X pins H b)(W:Nat->Nat->List V->Hp->Prop)(m0:Nat)(w0:W 0 m0 [] H)(turn:∀i m ys H,W i m ys H->(J.stop i H/\∀s' m' C,Inv X pins σ H s'->s'.heap.Ns C m'->s.heap.objs.size<=C->H C=none->compPost (Ln X.prog X.w) X.A X.xe use Q (.ref D) C (.ok .next) s') \/
   (J.go i H/\∀v H',J.yld i H v H'->∃vs,un v H' vs/\tc (σ++vs.map some) H' λb H2=>if b=true then te (σ++vs.map some) H2 λy H3=>H3 D=some (.lst ys)/\ys.length<sizeLine/\∃m',m'<m/\W (i+1) m' (ys++[y]) (aJ H3 D (.lst (ys++[y])))
    else ∃m',m'<m/\W (i+1) m' ys H2)):
  Lm (Ln X.prog X.w) X.A (Ms scope X.env.globals (ki X.env scope.names []) [] X.env.qual none .none (some X.env)) (λcenv s₄=>
   LS (Ln X.prog X.w) X.A (.compStart (.ListComp elt [⟨tg,iter,ifs,0⟩] scope pos) 0 (.ref it) (.ref D) {cenv with scope:=Mt scope X.env}) (compPost (Ln X.prog X.w) X.A X.xe use Q (.ref D) cenv.locals) s₄) X.xe s:=by
 refine Jh ?_;have hcl:∀y∈scope.names,y.2=.free->∃c,X.env.cells.lookup y.1=some c:=λy hy hf=>by
  rcases B.free y hy hf with q|q
  .exact I.ok.has y.1 (.inl q)
  .exact I.ok.has y.1 (.inr q)
 -- the block's own parts
 generalize hC:s.heap.objs.size=C;generalize hcs:L5 (C+1) scope.names (ki X.env scope.names [])=cs;generalize hh4:Mq (s.heap.push {cls:=.type "dict",data:=.dict #[]}) scope.names=h4;have szP:(s.heap.push {cls:=.type "dict",data:=.dict #[]}).objs.size=C+1:=by rw[WS,hC]
 have keep4:∀b o,s.heap.get? b=some o->h4.get? b=some o:=λb o e=>hh4▸Mr _ _ _ _ (Qi _ e);have nsC:h4.Ns C (λ_=>none):=by
  have q:=(Heap.Ns.new s.heap (.type "dict")).keeps (Mr scope.names (s.heap.push {cls:=.type "dict",data:=.dict #[]}));rw[hC,hh4]at q;exact q
 -- a cell of the block: one of its own,or one of those around
 have csIn:∀y c,cs.lookup y=some c->((y,NameKind.free)∈scope.names/\X.env.cells.lookup y=some c)\/(C+1<=c/\h4.IsCell c none/\(y,NameKind.cell)∈scope.names):=λy c e=>by
  have q:=mP (y:=y) (c:=c) (names:=scope.names) (h:=s.heap.push {cls:=.type "dict",data:=.dict #[]}) (acc:=ki X.env scope.names []);rw[szP,hcs,hh4]at q;rcases q e with q|q
  .rcases vM hcl q with z|z
   .cases z
   .exact .inl z
  .exact .inr q
 have oldC:∀y c,X.env.cells.lookup y=some c->c<C:=λy c e=>by
  obtain⟨v,q⟩:=I.cell y c e;rw[<-hC];exact q.lt
 have fpC:∀b∈fp,b<C:=λb hb=>by
  obtain⟨o,e,_⟩:=T.obj _ _ st b hb;rw[<-hC];exact Qu e
 let cenv:Env:={scope:=Mt scope X.env,locals:=C,globals:=X.env.globals,cells:=cs,qual:=X.env.qual,func:=none,code:=X.env.code,frame:=X.env.frame,builtins:=X.env.builtins}
 let RR:Result->Shared->Prop:=compPost (Ln X.prog X.w) X.A X.xe use Q (.ref D) C
 let Xc:Cx:={X with N:=wv X.N xs,s₀:=s,H₀:=H,env:=cenv,outer:=X.stack,stack:=X.stack,ex:=fp,fn:=λy=>decide (scope.names.lookup y=some .cell),calm:=true,pn:=[],xe:=Mu (Ln X.prog X.w) X.A cenv λe s'=>RR (.error e) s' }
 have hXc:bK X scope xs Xc:=⟨rfl,rfl,rfl,rfl,rfl,rfl,rfl,rfl,rfl,rfl⟩;obtain⟨hT,hE⟩:=hbody Xc hXc;have ok:Xc.Ok:=by
  refine⟨I.ok.mod,B.kind,I.ok.glob,I.ok.blt,W2 hC,?_,λy hy=>?_,λy c hf e=>?_,λ_=>I.ok.hd hc,I.ok.frames,.inl rfl,λb hb=>⟨QL (fpC b hb),λy c e=>?_⟩,I.bs,Qp I.ok.bsz I.sz,λb o e hb=>?_,λb hb hf=>?_,I.stack,I.stkFree⟩
  .show ∀y z c,cs.lookup y=some c->cs.lookup z=some c->y=z;rw[<-hcs];refine nB (λy z c e1 e2=>?_) λy c e=>?_
   .rcases vM hcl e1 with q|q
    .cases q
    .rcases vM hcl e2 with q'|q'
     .cases q'
     .exact I.ok.inj y z c q.2 q'.2
   .rcases vM hcl e with q|q
    .cases q
    .exact Vg (oldC y c q.2)
  .have hy':(Mt scope X.env).names.lookup y=some .cell\/(Mt scope X.env).names.lookup y=some .free:=hy;rw[yx]at hy';show ∃c,cs.lookup y=some c;rw[<-hcs];refine Wy.mp (WC _ _ _ ?_);cases hk:scope.names.lookup y with
   |none=>rw[hk]at hy';rcases hy' with z|z<;>cases z
   |some k=>
    rw[hk]at hy';have kk:k=.cell\/k=.free:=by
     simp only[QJ]at hy';by_cases hcnd:(k==NameKind.free&&X.env.scope.kind == .function&&X.env.kindOf y==some .cell)=true
     .refine .inr ?_;have:=(QD.mp (QD.mp hcnd).1).1;simpa using this
     .rw[MO hcnd]at hy';rcases hy' with z|z
      .exact .inl (Option.some.inj z)
      .exact .inr (Option.some.inj z)
    rcases kk with rfl|rfl
    .exact .inl rfl
    .exact .inr (jg (.inl (PySem.mem_of_lookup hk)))
  .show s.heap.objs.size<=c;rw[hC];have e':cs.lookup y=some c:=e;rw[<-hcs]at e';exact Qp (WX _) (mO (lo:=C+1) (.inl (PySem.mem_of_lookup (MT hf))) (Qk _) e')
  .show c≠b;rintro rfl;rcases csIn y c e with⟨_,z⟩|⟨z,_,_⟩
   .exact (hfp c hb).2.2.2.2.1 y c z rfl
   .exact MP (Qh (fpC c hb) (Qp (WX _) z)) (QZ _)
  .rcases (hfp b hb).2.2.2.1 with z|z
   .exact I.ok.noex b o e z
   .exact MP (Qh (Qu (I.ok.bs b o e).1) z) (QZ _)
  .rcases Qr.mp (I.stkSub b hf)with z|z
   .exact (hfp b hb).2.1 z
   .exact (hfp b hb).2.2.1 z
 have frC:H C=none:=I.hok.fresh (W2 hC);have frN:∀c,C<=c->H c=none:=λc hc'=>I.hok.fresh (by rw[hC];exact hc');have hσ:σ.length=X.N.length:=I.len;have I4:Inv Xc [] (σ++xs.map λ_=>none) H {s with heap:=h4}:=by
  refine⟨ok,rfl,I.bare,Un.kept keep4,⟨_,nsC,λi y v e1 e2 e3=>?_⟩,λy c e=>?_,frC,λy c e=>?_,λp hp=>MP (show p∈([]:List (Addr×Obj))from hp) (by simp),I.hok.kept keep4,?_⟩
  .have hi:i<σ.length:=by
    by_cases hi:i<σ.length
    .exact hi
    .rw[Qo (by lia),Qn]at e2;cases hz:xs[i-σ.length]? with
     |none=>rw[hz]at e2;simp at e2
     |some k=>rw[hz]at e2;simp at e2
   rw[Qs hi]at e2;have vis:scope.names.lookup y=some .local\/scope.names.lookup y=some .cell\/scope.names.lookup y=some .free:=by
    have e3':fU (Mt scope X.env) y:=e3;unfold fU at e3';rw[yx]at e3';cases hk:scope.names.lookup y with
    |none=>rw[hk]at e3';rcases e3' with z|z|z<;>cases z
    |some k=>
     rw[hk]at e3';simp only[QJ]at e3';by_cases hcnd:(k==NameKind.free&&X.env.scope.kind == .function&&X.env.kindOf y==some .cell)=true
     .have:=(QD.mp (QD.mp hcnd).1).1;exact .inr (.inr (by rw[show k=.free by simpa using this]))
     .rw[MO hcnd]at e3';exact e3'
   rcases HB (by rw[<-hσ];exact hi) e1 with z|⟨z,zx⟩
   .obtain ⟨x,hx,z⟩:=z;subst z;rw[B.dumN x hx]at vis;rcases vis with q|q|q<;>cases q
   .have hfree:scope.names.lookup y=some .free:=by
     rcases vis with q|q|q
     .exact MP q (B.alone y (QC z) zx).1
     .exact MP q (B.alone y (QC z) zx).2
     .exact q
    have kout:=B.free _ (PySem.mem_of_lookup hfree) rfl;obtain⟨m,hn,hl⟩:=I.loc;obtain⟨u,r,l⟩:=hl i y v z e2 (kout.elim (λq=>.inr (.inl q)) λq=>.inr (.inr q));refine⟨u,r,?_⟩;rcases l with⟨k,_⟩|⟨_,c,ec,zc⟩
    .have k':X.env.scope.names.lookup y=some .local:=k;rcases kout with q|q<;>rw[k']at q<;>cases q
    .have hsome:∃c',cs.lookup y=some c':=ok.has y (by
      show(Mt scope X.env).names.lookup y=some .cell\/(Mt scope X.env).names.lookup y=some .free;rw[yx,hfree];simp only[QJ];split
      .exact .inl rfl
      .exact .inr rfl)
     obtain⟨c',ec'⟩:=hsome;refine .inr ⟨?_,c',ec',?_⟩
     .show (Mt scope X.env).names.lookup y=some .cell\/(Mt scope X.env).names.lookup y=some .free;rw[yx,hfree];simp only[QJ];split
      .exact .inl rfl
      .exact .inr rfl
     .rcases csIn y c' ec' with⟨_,q⟩|⟨_,_,q⟩
      .rw[ec]at q;cases q;exact zc.keeps keep4
      .exact MP hfree (B.one (y,.cell) q rfl)
  .rcases csIn y c e with⟨_,q⟩|⟨_,q,_⟩
   .obtain ⟨v,z⟩:=I.cell y c q;exact⟨v,z.keeps keep4⟩
   .exact ⟨_,q⟩
  .rcases csIn y c e with⟨_,q⟩|⟨q,_,_⟩
   .exact I.freeC y c q
   .exact frN c (by lia)
  .show (σ++xs.map λ_=>none).length=(wv X.N xs).length;rw[HC,Q4,hσ,Qx]
 -- the loop
 have hLoc:∀x∈xs,Loc Xc.env.scope x/\(Xc.fn x=true\/Xc.env.scope.names.lookup x=some .local):=λx hx=>by
  constructor
  .show (Mt scope X.env).names.lookup x=some .local\/(Mt scope X.env).names.lookup x=some .cell;rw[yx];rcases B.own x hx with q|q<;>rw[q]
   .exact .inl rfl
   .exact .inr rfl
  .rcases B.own x hx with q|q
   .refine .inr ?_;show(Mt scope X.env).names.lookup x=some .local;rw[yx,q];rfl
   .exact .inl (MS q)
 have hg:PG Xc tg g:=hpg Xc hXc hLoc;have fpX:∀{H':Hp},(∀b∈fp,H' b=none)->∀b∈fp,jL Xc [] H' b:=λhn b hb=>
  ⟨hn b hb,QL (fpC b hb),λz=>ok.exfs b hb z,.inl hb,λy c e=>(ok.exf b hb).2 y c e,λp hp=>MP (show p∈([]:List (Addr×Obj))from hp) (by simp)⟩
 have loop:LS (Ln X.prog X.w) X.A (.compLoop (.ListComp elt [⟨tg,iter,ifs,0⟩] scope pos) 0 (.ref it) (.ref D) cenv) RR {s with heap:=h4}:=by
  refine qW (λn s'=>∃i os ys H',os.length=xs.length/\Inv Xc [] (σ++os) H' s'/\tn i s'.heap/\(∀b∈fp,H' b=none)/\W i n ys H') ?_ m0 ⟨0,_,[],H,Qx _,I4,T.keep _ _ _ st λb _ o e=>keep4 b o e,λb hb=>(hfp b hb).1,w0⟩;rintro n s3 ⟨i,os,ys,H3,hos,I3,st3,fr3,w3⟩;rcases turn i n ys H3 w3 with⟨stop,fin⟩|⟨go,step⟩
  .refine bc (T.done Xc rfl rfl rfl rfl i [] s3 (σ++os) H3 Xc.xe I3 (fpX fr3) st3 stop) λr s4 ⟨hr,I4⟩=>?_;subst hr;obtain⟨m,hn,_⟩:=id I4.loc;refine fin s4 m C ?_ hn (W2 hC) I4.free;exact I.call' (ch:=fp) I4.os I4.base I4.hok I4.bare λb hb=>⟨(hfp b hb).2.2.2.1,(hfp b hb).2.1,(hfp b hb).2.2.2.2.1,(hfp b hb).2.2.2.2.2⟩
  .refine bc (T.item Xc rfl rfl rfl rfl i [] s3 (σ++os) H3 Xc.xe I3 (fpX fr3) st3 go) λr s4 ⟨u,hr,h4'⟩=>?_;subst hr;refine bc h4' λ_ s5 ⟨v,H5,I5,r5,y5,st5,fr5⟩=>?_;have I5':=I5.pinned (fpX fr5) (T.obj _ _ st5);obtain⟨vs,hvs,step5⟩:=step v H5 y5;obtain⟨hvl,hset⟩:=hun v H5 vs os hos hvs;refine bc (hg _ s5 (σ++os) H5 v u (λσ2 H2=>σ2=σ++vs.map some/\H2=H5) I5' r5 hset) λ_ s6 ⟨σ6,H6,I6,e6,e6'⟩=>?_;subst e6;subst e6';have back:∀{H7:Hp}{s7:Shared},Inv Xc ([]++j6 fp s5.heap) (σ++vs.map some) H7 s7->tn (i+1) s7.heap/\(∀b∈fp,H7 b=none)/\Inv Xc [] (σ++vs.map some) H7 s7:=λ{H7 s7} I7=>by
    refine⟨T.keep _ _ _ st5 λb hb ob e=>(I7.pin (b,ob) (Qw _ (Qw _ (wX hb e)))).1,λb hb=>?_,I7.unpinned⟩;obtain⟨ob,e,_⟩:=T.obj _ _ st5 b hb;exact(I7.pin (b,ob) (Qw _ (Qw _ (wX hb e)))).2.1
   refine bc (hT _ s6 (σ++vs.map some) H6 _ I6 step5) λb s7 ⟨H7,I7,q7⟩=>?_;cases b with
   |false=>
    rw[MO Wi]at q7 ⊢;obtain⟨m',hm,w7⟩:=q7;obtain⟨t1,t2,t3⟩:=back I7;exact⟨m',hm,i+1,_,ys,H7,(by rw[Qx];exact hvl),t3,t1,t2,w7⟩
   |true=>
    rw[MN rfl]at q7 ⊢;refine bc (hE _ s7 (σ++vs.map some) H7 _ I7 q7) λyv s8 ⟨y,H8,I8,r8,hD8,hl8,m',hm,w8⟩=>?_;refine bc (qj (X:=Xc) _ s8 (σ++vs.map some) H8 (.ref D) [y] (.ref D) [yv] (λ_ H9=>H9=aJ H8 D (.lst (ys++[y]))) I8 rfl (.cons r8 .nil) ⟨D,ys,y,rfl,rfl,hD8,hl8,rfl⟩) λ_ s9 ⟨_,H9,I9,_,e9⟩=>?_;subst e9;obtain⟨t1,t2,t3⟩:=back I9;exact⟨m',hm,i+1,_,ys++[y],_,(by rw[Qx];exact hvl),t3,t1,t2,w8⟩
 refine codeAny_compStart_list loop ?_;exact T.self X.A 0 _ _ _ (T.keep _ _ _ st λb _ o e=>keep4 b o e) loop
section
variable{X:Cx}{elt iter tg:Expr}{xs:List Str}{y:Str}{g:TG}{un:V->Hp->List V->Prop}{py:Pos}{ifs:List Expr}{scope:K9}{pos spos:Pos}{wi:TI}{tc:TT}{te:TE}
def Inv.aside{pins:List (Addr×Obj)}{σ:St}{H:Hp}{s:Shared}{C lo:Addr}{h':Ld}(I:Inv X pins σ H s)(hlo:lo<=C)(hL:X.env.locals<lo)(hcell:∀y c,X.env.cells.lookup y=some c->c<lo)(hpin:∀p∈X.pn++pins,p.1<lo)
  (hn:H C=none) (hs:W0 C s.heap h'):Inv X pins σ H {s with heap:=h' } :=
 I.turned (it:=C) (t':=s.toks) (λb o hb e=>(hs.2 b hb).trans e) hn (WQ (Qh hL hlo)) (.inr (Qp I.ok.above (Qp (W1 hL) hlo)))
  (λy c e=>QL (Qh (hcell y c e) hlo)) λp hp=>QL (Qh (hpin p hp) hlo)
def Inv.below (I:Inv X pins σ H s):X.env.locals<s.heap.objs.size/\(∀y c,X.env.cells.lookup y=some c->c<s.heap.objs.size)/\∀p∈X.pn++pins,p.1<s.heap.objs.size:=
 ⟨I.lt,λy c e=>let⟨_,z⟩:=I.cell y c e;z.lt,λp hp=>Qu (I.pin p hp).1⟩
def kc(B:bH X scope xs)(ok:X.Ok):closureFor scope X.env=pure (ki X.env scope.names []):=
 gc λy hy hf=>(B.free y hy hf).elim (λq=>ok.has y.1 (.inl q)) λq=>ok.has y.1 (.inr q)
structure iF(X:Cx)(scope:K9)(xs:List Str)(tg:Expr)(g:TG)(un:V->Hp->List V->Prop):Prop where
 pg:∀Xc,bK X scope xs Xc->(∀x∈xs,Loc Xc.env.scope x/\(Xc.fn x=true\/Xc.env.scope.names.lookup x=some .local))->PG Xc tg g
 un:∀v H vs os (σ:St),σ.length=X.N.length->os.length=xs.length->un v H vs->vs.length=xs.length/\g v (σ++os) H λσ2 H2=>σ2=σ++vs.map some/\H2=H
noncomputable def ou(v:V)(_:Hp)(vs:List V):Prop:=vs=[v]
def tP{α:Type}{l:List α}(h:l.length=1):∃a,l=[a]:=by
 cases l with
 |nil=>cases h
 |cons a t=>
  cases t with
  |nil=>exact⟨a,rfl⟩
  |cons b t=>cases h
def tO{α:Type}{l:List α}(h:l.length=2):∃a b,l=[a,b]:=by
 cases l with
 |nil=>cases h
 |cons a t=>
  obtain⟨b,rfl⟩:=tP (Nat.succ.inj h);exact⟨a,b,rfl⟩
def uG (B:bH X scope [x]):iF X scope [x] (.Name x px) (x9 X.N.length) ou:=by
 refine⟨λXc c h=>?_,λv H vs os σ hσ ho hv=>?_⟩
 .exact xh (by rw[c.N];exact B.nd) (by rw[c.N];exact kj X.N [x] 0) (h x (by simp)).1 (h x (by simp)).2
 .cases hv;refine⟨rfl,?_,rfl⟩;obtain⟨o,rfl⟩:=tP ho;rw[<-hσ,W4 _ _ (Qk _)];simp
noncomputable def oq(K:Qb)(v:V)(H:Hp)(vs:List V):Prop:=∃a,v=.ref a/\bU K H a vs/\vs.length=2
def FG (hc:X.calm=true)(B:bH X scope [x,y]):iF X scope [x,y] (.Tuple [.Name x px,.Name y py] k pt) (ik X.K 2 (v9 (x9 X.N.length) (v9 (x9 (X.N.length+1)) il))) (oq X.K):=by
 refine⟨λXc c h=>?_,λv H vs os σ hσ ho hv=>?_⟩
 .have nd:Xc.N.Nodup:=by rw[c.N];exact B.nd
  rw[<-c.K];exact qQ c.calm (xi (xh nd (by rw[c.N];exact kj X.N [x,y] 0) (h x (by simp)).1 (h x (by simp)).2) (xi (xh nd (by rw[c.N];exact kj X.N [x,y] 1) (h y (by simp)).1 (h y (by simp)).2) jQ))
 .obtain ⟨a,e1,e2,e3⟩:=hv;obtain⟨u,w,rfl⟩:=tO e3;obtain⟨o,p,rfl⟩:=tO ho;refine⟨rfl,a,[u,w],e1,e2,rfl,u,[w],rfl,w,[],rfl,rfl,?_,rfl⟩;rw[<-hσ,W4 _ _ (Qk _),W4 _ _ (by lia)];simp
def uF(B:bH X scope xs)(hc:X.calm=true)(hT:iF X scope xs tg g un)(hi:PI X tg iter wi)(hbody:∀Xc,bK X scope xs Xc->iG Xc ifs tc/\PE Xc elt te)
  (hs:∀v,LH iter X.env v=pure v:=by intro _;rfl):PE X (.ListComp elt [⟨tg,iter,ifs,0⟩] scope pos) (iq un wi tc te):=by
 intro pins s σ H Q I h;rw[eval_ListComp];refine Mw (use:=none) (cl:=ki X.env scope.names []) rfl hs (kc B I.ok) B.kind B.locs ?_;refine bc (hi pins s σ H _ I h) λxv s1 h1=>bc h1 λitv s2 h2=>?_;obtain⟨it,fp,tn,J,H2,e,I2,T,st2,f2,q2⟩:=h2;subst e;refine Mf ?_;have I3:=I2.lnew (its:=[]) (ys:=[]) (t':=s2.toks) .nil (Vk _);obtain⟨W,⟨m0,w0⟩,turn⟩:=q2 s2.heap.objs.size (I2.hok.fresh (Qk _));have fp3:∀b∈fp,jL X pins (aJ H2 s2.heap.objs.size (.lst [])) b:=λb hb=>by
  obtain⟨o,e,_⟩:=T.obj _ _ st2 b hb;exact⟨by rw[zi (QL (Qu e))];exact(f2 b hb).1,(f2 b hb).2⟩
 obtain⟨b1,b2,b3⟩:=I3.below;refine gd B hc hT.pg (λv H vs os h1 h2=>hT.un v H vs os σ I.len h1 h2) hbody I3 T (T.keep _ _ _ st2 λb _ o e=>Qi _ e) fp3 W m0 w0 λi m ys H4 w=>?_;rcases turn i m ys H4 w with⟨stop,q⟩|r
 .exact .inl ⟨stop,λs' m' C I' hn hC hCn=>⟨m',hn,λh' hsb=>⟨.ref s2.heap.objs.size,H4,I'.aside hC b1 b2 b3 hCn hsb,rfl,q⟩⟩⟩
 .exact .inr r
def IU (B:bH X scope xs)(hc:X.calm=true)(hT:iF X scope xs tg g un)(hi:PI X tg iter wi)(hbody:∀Xc,bK X scope xs Xc->iG Xc ifs tc/\PE Xc elt te)(hN:X.N.Nodup)(hy:X.N[i]?=some y)(hx:Loc X.env.scope y)(hf:X.fn y=true\/X.env.scope.names.lookup y=some .local)(hsw:Lw (.ListComp elt [⟨tg,iter,ifs,0⟩] scope pos) (some (.Name y py)) spos.line X.env=pure true)(hs:∀v,LH iter X.env v=pure v:=by intro _;rfl):PS X (.Assign [.Name y py] (.ListComp elt [⟨tg,iter,ifs,0⟩] scope pos) spos) (ij (iq un wi tc te) (x9 i)):=by
 intro pins s σ H D I h;rw[exec_Assign_Name_used _ _ _ _ hsw];refine Ly (LA (Ly ?_));show Lm _ X.A (do let _ <-comprehension (.ListComp elt [⟨tg,iter,ifs,0⟩] scope pos) scope X.env _ (newList []) false (eval iter X.env) (some (assign (.Name y py) X.env))) _ _ s;refine Ly (Lq (Mw (use:=some (assign (.Name y py) X.env)) (cl:=ki X.env scope.names []) (Q:=λ_ s'=>SP X pins D .next s') rfl hs (kc B I.ok) B.kind B.locs ?_)
  (λ_ s' hq=>LF (LF hq)) λ_ _ e=>e)
 refine bc (hi pins s σ H _ I h) λxv s1 h1=>bc h1 λitv s2 h2=>?_;obtain⟨it,fp,tn,J,H2,e,I2,T,st2,f2,q2⟩:=h2;subst e;refine Mf ?_;have I3:=I2.lnew (its:=[]) (ys:=[]) (t':=s2.toks) .nil (Vk _);obtain⟨W,⟨m0,w0⟩,turn⟩:=q2 s2.heap.objs.size (I2.hok.fresh (Qk _));have fp3:∀b∈fp,jL X pins (aJ H2 s2.heap.objs.size (.lst [])) b:=λb hb=>by
  obtain⟨o,e,_⟩:=T.obj _ _ st2 b hb;exact⟨by rw[zi (QL (Qu e))];exact(f2 b hb).1,(f2 b hb).2⟩
 obtain⟨b1,b2,b3⟩:=I3.below;refine gd B hc hT.pg (λv H vs os h1 h2=>hT.un v H vs os σ I.len h1 h2) hbody I3 T (T.keep _ _ _ st2 λb _ o e=>Qi _ e) fp3 W m0 w0 λi' m ys H4 w=>?_;rcases turn i' m ys H4 w with⟨stop,q⟩|r
 .refine .inl ⟨stop,λs' m' C I' hn hC hCn=>?_⟩;refine wpAny_assign_Name (g0 I' hN hy hx (v:=.ref s2.heap.objs.size) rfl (λs'' I'' ⟨a,sb,ha⟩=>?_) hf);have hCa:C≠a:=by
   rcases ha with rfl|ha
   .exact WQ (Qh b1 hC)
   .exact WQ (Qh (b2 _ _ ha) hC)
  exact⟨m',hn.sameBut sb hCa,λh' hsb=>⟨_,H4,I''.aside hC b1 b2 b3 hCn hsb,q⟩⟩
 .exact .inr r
end
section
variable{X:Cx}
theorem aA.at (h:aA xs us){i:Nat}(e:us[i]?=some u):∃x,xs[i]?=some x/\RelV x u:=by
 have hl:=h.length;have hi:=(Qa.mp e).1;have hx:xs[i]?=some xs[i]:=Qc (by lia);obtain⟨u',h1,h2⟩:=h.get hx;rw[e]at h1;cases h1;exact⟨_,hx,h2⟩
def HA(bs:List Bool):(QI bs.length).all (λi=>bs.getD i true)=bs.all id:=by
 rw[Vp,QF,QF];constructor
 .intro h b hb;obtain⟨i,hi,e⟩:=List.getElem_of_mem hb;have:=h i (by simpa using hi);rw[Qf,Qc hi]at this;simpa [e]using this
 .intro h i hi;have hi':i<bs.length:=by simpa using hi
  rw[Qf,Qc hi'];exact h _ (QE hi')
def Jg(hc:X.calm=true):aU X (.builtin "all") (λxs H Q=>∃(p:Addr) (bs:List Bool),xs=[.ref p]/\bE X.K H p (bs.map V.bl)/\Q (.bl (bs.all id)) H):=by
 intro pins s σ H xs us Q I r h;obtain⟨p,bs,rfl,hq,q⟩:=h;obtain⟨u,rfl,rx⟩:=jD r;cases rx;obtain⟨its,r',pl,hz⟩:=I.list hq;have hlen:=r'.length;have hp:∃o,s.heap.get? p=some o:=by obtain⟨o,ho,_⟩:=pl.isList;exact⟨o,ho⟩
 obtain⟨o,ho⟩:=hp;have hlt:=Qu ho;refine call_all_walk (LG pl.isList ?_);refine⟨s.heap.objs.size,_,_,_,_,_,λi=>bs.getD i true,rfl,Walks.list (A:=X.A.in1) (I.ok.hd hc) s.heap.objs.size p (QL hlt) its.toArray,⟨⟨_,QT _ rfl,rfl,rfl⟩,pl.isList.at λo e=>Qi _ e⟩,?_,λh' tk hk=>?_⟩
 .intro i v s2 Q2 E2 hv hQ;have hv':its[i]?=some v:=by simpa using hv
  obtain⟨y,hy,ry⟩:=r'.at hv';rw[Qn]at hy;cases hb:bs[i]? with
  |none=>rw[hb]at hy;cases hy
  |some b=>
   rw[hb]at hy;cases hy;have:v=.bool b:=ry;subst this;have e:bs.getD i true=b:=by rw[Qf,hb];rfl
   have hQ':Q2 (bs.getD i true) s2:=hQ;rw[e]at hQ';exact Lr hQ'
 .have e:its.toArray.size=bs.length:=by simp at hlen ⊢;lia
  rw[e,HA];exact⟨.bl (bs.all id),H,I.kept (t':=tk) λb o e=>hk b o (λhb=>by
   have:b=s.heap.objs.size:=by simpa using hb
   exact MP (Qu e) (by rw[this];exact QZ _)) (Qi _ e),rfl,q⟩
theorem jF(ns:List Int):∀n,n<=ns.length->preSum (λi=>ns.getD i 0) n=(ns.take n).sum
 |0,_=>by simp[preSum]
 |n+1,h=>by
  have e:ns[n]?=some (ns.getD n 0):=by rw[Qf,Qc (by lia)];rfl
  rw[preSum,jF ns n (by lia),Wl,e,Vm];simp
def Jf(hc:X.calm=true):aU X (.builtin "sum") (λxs H Q=>∃(p:Addr) (ns:List Int),xs=[.ref p]/\bE X.K H p (ns.map V.int)/\Q (.int ns.sum) H):=by
 intro pins s σ H xs us Q I r h;obtain⟨p,ns,rfl,hq,q⟩:=h;obtain⟨u,rfl,rx⟩:=jD r;cases rx;obtain⟨its,r',pl,hz⟩:=I.list hq;have hlen:=r'.length;have hp:∃o,s.heap.get? p=some o:=by obtain⟨o,ho,_⟩:=pl.isList;exact⟨o,ho⟩
 obtain⟨o,ho⟩:=hp;have hlt:=Qu ho;refine call_sum_walkG (LG pl.isList ?_);refine⟨s.heap.objs.size,_,_,_,_,_,λi=>ns.getD i 0,rfl,Walks.list (A:=X.A.in1) (I.ok.hd hc) s.heap.objs.size p (QL hlt) its.toArray,⟨⟨_,QT _ rfl,rfl,rfl⟩,pl.isList.at λo e=>Qi _ e⟩,?_,?_,λh' tk t' hk=>?_⟩
 .intro b hb;have h1:s.heap.objs.size<(s.heap.push {cls:=.type "list_iterator",data:=.fields #[.ref p,.int 0 0]}).objs.size:=Qu (QT _ rfl);have:b=s.heap.objs.size\/b=p:=by simpa using hb
  rcases this with rfl|rfl
  .exact h1
  .exact Nat.lt_trans hlt h1
 .intro i v hv;have hv':its[i]?=some v:=by simpa using hv
  obtain⟨y,hy,ry⟩:=r'.at hv';rw[Qn]at hy;cases hb:ns[i]? with
  |none=>rw[hb]at hy;cases hy
  |some b=>
   rw[hb]at hy;cases hy;obtain⟨t,rfl⟩:=(ry:∃t,v=.int b t);have e:ns.getD i 0=b:=by rw[Qf,hb];rfl
   exact⟨t,by show Value.int b t=Value.int (ns.getD i 0) t;rw[e]⟩
 .have e:its.toArray.size=ns.length:=by simp at hlen ⊢;lia
  rw[e,jF ns ns.length (Qk _),List.take_length];exact⟨.int ns.sum,H,I.kept (t':=tk) λb o e=>hk b o (λhb=>by
   have:b=s.heap.objs.size:=by simpa using hb
   exact MP (Qu e) (by rw[this];exact QZ _)) (Qi _ e),⟨t',rfl⟩,q⟩
noncomputable def Cp(ta:TA):TE:=λσ H Q=>ta σ H λvs H1=>∃j:Int,vs=[.int j]/\-(2^30)<=j/\j<2^24/\j.toNat<=sizeLine/\∀l,H1 l=none->Q (.ref l) (aJ H1 l (.lst ((QI j.toNat).map λ(i:Nat)=>V.int ((0:Int)+1*(i:Int)))))
def FF (hc:X.calm=true)(hgl:Gl X "list")(hml:X.mg "list"=none)(hg:Gl X "range")(hm:X.mg "range"=none)(ha:PA X [a] ta)(hs:Lp [a] X.env=[(false,eval a X.env)]:=by rfl):
  PE X (.Call (.Name "list" p) [.Call (.Name "range" p') [a] [] pos'] [] pos) (Cp ta):=by
 intro pins s σ H Q I h;refine LW (kh I hgl hml PyProof.Rows.boot_list ?_ (by decide) (by decide));refine PyProof.Rows.callWith_type1 ?_ rfl rfl;refine Calls.spliced_cons ?_;refine Call_ (kh I hg hm boot_range (PyProof.Rows.callWith_type1 (bc (ha pos' pins s σ H _ I h) λus s1 ⟨vs,H1,I1,r1,q1⟩=>?_) hs rfl));obtain⟨j,e,q1,q2,q3,q⟩:=q1;subst e;cases r1 with
 |cons r rr=>
  cases rr;obtain⟨t,rfl⟩:=r;refine call_range_1 (Calls.spliced_nil ?_);have hn:Builtin.Range.rangeSize 0 j 1=(j.toNat:Int):=by rw[rangeSize_one];split<;>lia
  refine call_list_range (n:=j.toNat) (I1.ok.hd hc) (IsRange.new ..) (small_one (by lia) (by lia) (by lia) (by lia)) hn (by lia) λh' tk acc' c' kp e hacc=>?_;have I2:Inv X pins σ H1 {s1 with heap:=s1.heap.push {cls:=.type "range",data:=.fields #[.int 0 s1.toks,.int j t,.int 1 (s1.toks+1)]},toks:=s1.toks+1+1}:=I1.kept λb o e=>Qi _ e;have hv:aA ((QI j.toNat).map λ(i:Nat)=>V.int ((0:Int)+1*(i:Int))) acc'.toList:=by
   have gen:∀(us:List Value) (n:Nat),us.length=n->∀m:Nat,(∀i v,us[i]?=some v->∃t,v=Value.int ((0:Int)+((m+i:Nat):Int)*1) t)->aA ((List.range' m n).map λ(i:Nat)=>V.int ((0:Int)+1*(i:Int))) us:=by
    intro us
    induction us with
    |nil=>intro n hn m _;simp at hn;subst hn;exact .nil
    |cons u us ih=>
     intro n hn m hu;cases n with
     |zero=>simp at hn
     |succ n=>
      rw[List.range'_succ,Wg];obtain⟨t,rfl⟩:=hu 0 u rfl;refine .cons ⟨t,?_⟩ (ih n (by simpa using hn) (m+1) λi v hv=>?_)
      .congr 1;simp
      .obtain ⟨t,e⟩:=hu (i+1) v (by simpa using hv);exact⟨t,by rw[e];congr 2;congr 1;lia⟩
   have:=gen acc'.toList j.toNat (by rw[WL];exact hacc.1) 0 (λi v hv=>by
    obtain⟨t,e⟩:=hacc.2 i v (by simpa using hv);exact⟨t,by rw[e];simp⟩)
   rw[<-List.range_eq_range']at this;exact this
  refine⟨.ref _,_,I2.laid (t':=tk) kp (Qk _) (show bv X.prog X.w _ h' _ (.lst ((QI j.toNat).map λ(i:Nat)=>V.int ((0:Int)+1*(i:Int))))from⟨by simpa using q3,acc'.toList,c',hv,by simpa using e⟩),rfl,q _ (I2.hok.fresh (Qk _))⟩
end
end L2
namespace Mini
inductive Wd where
 |non|bl (b:Bool)|int (i:Int)|str (s:List Nat)|tup (xs:List Wd)|rol (xs:List Wd)|ref (l:Nat)
deriving Inhabited
inductive Ob where
 |lst (xs:List Wd)
deriving Inhabited
abbrev Me:=List Ob
set_option tactic.hygienic true in
abbrev En:=List (Option Wd)
set_option genInjectivity false in
inductive Rz where
 |ok (w:Wd) (m:Me)|exc (c:Nat) (w:Wd) (m:Me)|no
deriving Inhabited
set_option genInjectivity false in
inductive Rs where
 |next (e:En) (m:Me)|ret (w:Wd) (m:Me)|brk (e:En) (m:Me)|cont (e:En) (m:Me)
 |exc (c:Nat) (w:Wd) (e:En) (m:Me)|no
deriving Inhabited
inductive Bo where|add|sub|mul|fdiv|mod|pow|shr|band
deriving DecidableEq
inductive Co where|eq|ne|lt|le|gt|ge|isN|notN|isin
deriving DecidableEq
inductive Tg where|int|bool|list|tuple|str|dict
deriving DecidableEq
inductive eg where|len|int|list|tuple|sum|all|abs|max2
deriving DecidableEq
inductive dH where|append|pop|reverse|clear|insert
deriving DecidableEq
inductive Kd where|zip|enum|prs|ptp
deriving DecidableEq
set_option genInjectivity false in
inductive Ex where
 |var (i:Nat)|lit (w:Wd)
 |bin (op:Bo) (a b:Ex)|neg (a:Ex)|not (a:Ex)|and (a b:Ex)|or (a b:Ex)
 |cmp (op:Co) (a b:Ex)|chain (p q:Co) (a b c:Ex)|ife (c a b:Ex)
 |unit|pair (a b:Ex)
 |call (k:Nat) (args:Ex)|blt (b:eg) (args:Ex)|isi (t:Tg) (a:Ex)
 |lst (args:Ex)|tup (args:Ex)
 |idx (a b:Ex)  |slH (a hi:Ex)
 |meth (n:dH) (o args:Ex)
 |rng (a b c:Ex)
 |comp (elt it cond:Ex)
 |lrng (a:Ex)
 |compP (k:Kd) (elt a b cond:Ex)
deriving Inhabited
set_option genInjectivity false in
inductive Sm where
 |skip|seq (a b:Sm)
 |asg (i:Nat) (e:Ex)|asgS (o i e:Ex)
 |ite (c:Ex) (a b:Sm)|forv (i:Nat) (it:Ex) (body:Sm)|fort (i j:Nat) (it:Ex) (body:Sm)|while (c:Ex) (body:Sm)
 |ret (e:Ex)  |expr (e:Ex)   |never
 |appPop (j a x:Nat) (e:Ex)
 |for3 (i j k:Nat) (it:Ex) (body:Sm)
deriving Inhabited
noncomputable def aq:Nat:=100000
noncomputable def cz:Int:=18446744073709551616
noncomputable def yJ(i:Int):Bool:=decide (-cz<i)&&decide (i<cz)
noncomputable def cQ(p:Wd->Wd->Option Bool):List Wd->List Wd->Option Bool
 |x::xs,y::ys=>match p x y with
  |some a=>(cQ p xs ys).map (a && ·)
  |none=>none
 |_,_=>some true
noncomputable def b2i(b:Bool):Int:=if b then 1 else 0
noncomputable def aW(m:Me)(l:Nat):Bool:=match m[l]? with
 |some (.lst _)=>true
 |_=>false
noncomputable def tN:Wd->Bool
 |.rol _=>false
 |_=>true
noncomputable def cy(m:Me):Nat->Wd->Wd->Option Bool
 |0,_,_=>none
 |k+1,x,y=>match x,y with
  |.tup a,.tup b=>(cQ (cy m k) a b).map (· && decide (a.length=b.length))
  |.ref a,.ref b=>if a=b then(if aW m a then some true else none)else match m[a]?,m[b]? with
   |some (.lst xs),some (.lst ys)=>if xs.length=ys.length then cQ (cy m k) xs ys else some false
   |_,_=>none
  |.ref a,y=>if aW m a&&tN y then some false else none
  |x,.ref b=>if aW m b&&tN x then some false else none
  |.rol _,_=>none
  |_,.rol _=>none
  |.non,.non=>some true
  |.bl a,.bl b=>some (a==b)
  |.int a,.int b=>some (decide (a=b))
  |.bl a,.int b=>some (decide (b2i a=b))
  |.int a,.bl b=>some (decide (a=b2i b))
  |.str a,.str b=>some (decide (a=b))
  |_,_=>some false
noncomputable def yT:Nat:=12
noncomputable def eK(p:Wd->Wd->Option Bool)(x:Wd):List Wd->Option Bool
 |[]=>some false
 |y::ys=>match p y x with
  |some a=>(eK p x ys).map (a || ·)
  |none=>none
noncomputable def ix(n:Nat)(i:Int):Option Nat:=
 if 0<=i then(if i<n then some i.toNat else none)else if -(n:Int)<=i then some (i+n).toNat else none
noncomputable def alloc(m:Me)(xs:List Wd):Rz:=if xs.length<=aq then .ok (.ref m.length) (m++[.lst xs])else .no
noncomputable def zK(m:Me)(l:Nat):Option (List Wd):=match m[l]? with
 |some (.lst xs)=>some xs
 |_=>none
noncomputable def yF(m:Me):Wd->Option (List Wd)
 |.tup xs=>some xs
 |.rol xs=>some xs
 |.ref l=>zK m l
 |_=>none
noncomputable def cJ(op:Bo)(x y:Wd)(m:Me):Rz:=match x,y with
 |.int i,.int j=>match op with
  |.add=>.ok (.int (i+j)) m
  |.sub=>.ok (.int (i-j)) m
  |.mul=>if yJ i || yJ j then .ok (.int (i*j)) m else .no
  |.fdiv=>if 0<j/\j<1073741824 then .ok (.int (i/j)) m else .no
  |.mod=>if 0<j then .ok (.int (i%j)) m else .no
  |.pow=>if 0<=j/\j<=1000000/\yJ i=true then .ok (.int (i^j.toNat)) m else .no
  |.shr=>if 0<=j/\j<=1000 then .ok (.int (i/2^j.toNat)) m else .no
  |.band=>if 0<=i/\j=1 then .ok (.int (i%2)) m else .no
 |.ref a,.ref b=>match op,m[a]?,m[b]? with
  |.add,some (.lst xs),some (.lst ys)=>alloc m (xs++ys)
  |_,_,_=>.no
 |.ref a,.int k=>match op,m[a]? with
  |.mul,some (.lst xs)=>if -aq<=k/\k<=aq then alloc m (Qv k.toNat xs).flatten else .no
  |_,_=>.no
 |.tup xs,.tup ys=>match op with
  |.add=>if xs.length+ys.length<=aq then .ok (.tup (xs++ys)) m else .no
  |_=>.no
 |_,_=>.no
noncomputable def dO(o:Option Bool)(m:Me):Rz:=match o with
 |some b=>.ok (.bl b) m
 |none=>.no
noncomputable def gf(r:Int->Int->Bool)(x y:Wd)(m:Me):Rz:=match x,y with
 |.int i,.int j=>.ok (.bl (r i j)) m
 |_,_=>.no
noncomputable def cop(op:Co)(x y:Wd)(m:Me):Rz:=match op with
 |.eq=>dO (cy m yT x y) m
 |.ne=>dO ((cy m yT x y).map (!·)) m
 |.isN=>match y,x with
  |.non,.non=>.ok (.bl true) m
  |.non,_=>.ok (.bl false) m
  |_,_=>.no
 |.notN=>match y,x with
  |.non,.non=>.ok (.bl false) m
  |.non,_=>.ok (.bl true) m
  |_,_=>.no
 |.isin=>match yF m y with
  |some ys=>dO (eK (cy m yT) x ys) m
  |none=>.no
 |.lt=>gf (λi j=>decide (i<j)) x y m
 |.le=>gf (λi j=>decide (i<=j)) x y m
 |.gt=>gf (λi j=>decide (j<i)) x y m
 |.ge=>gf (λi j=>decide (j<=i)) x y m
noncomputable def dz(t:Tg)(x:Wd)(m:Me):Option Bool:=match t,x with
 |.int,.int _=>some true
 |.int,.bl _=>some true
 |.bool,.bl _=>some true
 |.str,.str _=>some true
 |.tuple,.tup _=>some true
 |.list,.rol _=>some true
 |t,.ref l=>match m[l]? with
  |some (.lst _)=>some (decide (t=.list))
  |none=>none
 |_,_=>some false
noncomputable def aQ(n d:Nat):Option Int->Nat
 |none=>d
 |some v=>if v<0 then(v+(n:Int)).toNat else min v.toNat n
noncomputable def fq:List Wd->Option Int
 |[]=>some 0
 |.int i::r=>(fq r).map (i+·)
 |_=>none
noncomputable def fo:List Wd->Option Bool
 |[]=>some true
 |.bl b::r=>(fo r).map (b && ·)
 |_=>none
noncomputable def fe(m:Me):Wd->Option (List Wd)
 |.rol xs=>some xs
 |.ref l=>zK m l
 |_=>none
noncomputable def gY(b:eg)(ws:List Wd)(m:Me):Rz:=match b with
 |.len=>match ws with
  |[x]=>match yF m x with
   |some xs=>.ok (.int xs.length) m
   |none=>.no
  |_=>.no
 |.int=>match ws with
  |[.int i]=>.ok (.int i) m
  |[.bl b]=>.ok (.int (b2i b)) m
  |_=>.no
 |.list=>match ws with
  |[x]=>match yF m x with
   |some xs=>alloc m xs
   |none=>.no
  |_=>.no
 |.tuple=>match ws with
  |[x]=>match yF m x with
   |some xs=>.ok (.tup xs) m
   |none=>.no
  |_=>.no
 |.sum=>match ws with
  |[x]=>match (fe m x).bind fq with
   |some i=>.ok (.int i) m
   |none=>.no
  |_=>.no
 |.all=>match ws with
  |[x]=>match (fe m x).bind fo with
   |some i=>.ok (.bl i) m
   |none=>.no
  |_=>.no
 |.abs=>match ws with
  |[.int i]=>.ok (.int (if i<0 then -i else i)) m
  |_=>.no
 |.max2=>match ws with
  |[.int i,.int j]=>.ok (.int (if j > i then j else i)) m
  |_=>.no
noncomputable def cj(n:dH)(o:Wd)(ws:List Wd)(m:Me):Rz:=match o with
 |.ref l=>match m[l]? with
  |some (.lst xs)=>match n,ws with
   |.append,[y]=>if xs.length<aq then .ok .non (m.set l (.lst (xs++[y])))else .no
   |.pop,[]=>match xs[xs.length-1]? with
    |some y=>.ok y (m.set l (.lst xs.dropLast))
    |none=>.no
   |.reverse,[]=>.ok .non (m.set l (.lst xs.reverse))
   |.pop,[.int k]=>if k=0 then match xs with
    |y::r=>.ok y (m.set l (.lst r))
    |[]=>.no
    else .no
   |.insert,[.int k,y]=>if k=0/\xs.length<aq then .ok .non (m.set l (.lst (y::xs)))else .no
   |_,_=>.no
  |_=>.no
 |_=>.no
noncomputable def yC(x:Wd)(m:Me):Bool:=match x with
 |.ref l=>aW m l
 |_=>false
noncomputable def km(o i v:Wd)(m:Me):Rz:=match o,i with
 |.ref l,.int k=>match m[l]? with
  |some (.lst xs)=>match ix xs.length k with
   |some j=>.ok .non (m.set l (.lst (xs.set j v)))
   |none=>.no
  |_=>.no
 |_,_=>.no
noncomputable def vZ(x y:Wd)(m:Me):Rz:=match y with
 |.int i=>match yF m x with
  |some xs=>match (ix xs.length i).bind λj=>xs[j]? with
   |some v=>.ok v m
   |none=>.no
  |none=>.no
 |_=>.no
noncomputable def fu(x:Wd)(lo hi:Option Int)(m:Me):Rz:=match x with
 |.tup xs=>if aQ xs.length 0 lo=0/\aQ xs.length xs.length hi=xs.length then .no else .ok (.tup ((xs.drop (aQ xs.length 0 lo)).take (aQ xs.length xs.length hi-aQ xs.length 0 lo))) m
 |x=>match fe m x with
 |some xs=>alloc m ((xs.drop (aQ xs.length 0 lo)).take (aQ xs.length xs.length hi-aQ xs.length 0 lo))
 |none=>.no
noncomputable def jN(lo st:Int):Nat->List Wd
 |0=>[]
 |n+1=>.int lo::jN (lo+st) st n
noncomputable def v6(a b c:Int):Nat:=if c=1 then(b-a).toNat else if c=-1 then(a-b).toNat else if c=-2 then((a-b+1)/2).toNat else 0
noncomputable def fm(a b c:Wd)(m:Me):Rz:=match a,b,c with
 |.int a,.int b,.int c=>if -aq<=a/\a<=aq/\-aq<=b/\b<=aq/\(c=1\/c=-1\/c=-2)then .ok (.tup (jN a c (v6 a b c))) m else .no
 |_,_,_=>.no
noncomputable def Rz.bind(r:Rz)(f:Wd->Me->Rz):Rz:=match r with
 |.ok w m=>f w m
 |r=>r
noncomputable def xS(c e:Wd->Me->Rz):List Wd->List Wd->Me->Rz
 |[],acc,m=>alloc m acc
 |x::xs,acc,m=>(c x m).bind λb m1=>match b with
  |.bl true=>(e x m1).bind λy m2=>if acc.length<aq then xS c e xs (acc++[y]) m2 else .no
  |.bl false=>xS c e xs acc m1
  |_=>.no
noncomputable def xT(c e:Wd->Me->Rz)(l:Nat):Nat->Nat->List Wd->Me->Rz
 |0,_,_,_=>.no
 |k+1,i,acc,m=>match zK m l with
  |none=>.no
  |some xs=>match xs[i]? with
   |none=>alloc m acc
   |some x=>(c x m).bind λb m1=>match b with
    |.bl true=>(e x m1).bind λy m2=>if acc.length<aq then xT c e l k (i+1) (acc++[y]) m2 else .no
    |.bl false=>xT c e l k (i+1) acc m1
    |_=>.no
noncomputable def sK:Wd->Option (Wd×Wd)
 |.tup [x,y]=>some (x,y)
 |_=>none
noncomputable def mG(m:Me):Wd->Option (List Wd)
 |.tup xs=>some xs
 |.ref l=>zK m l
 |_=>none
noncomputable def yU(k:Kd)(x y:Wd)(i:Nat)(m:Me):Option (Option (Wd×Wd)):=match k,x,y with
 |.zip,x,y=>match mG m x,mG m y with
  |some xs,some ys=>some (match xs[i]?,ys[i]? with
   |some x,some y=>some (x,y)
   |_,_=>none)
  |_,_=>none
 |.enum,.ref la,.int s=>match zK m la with
  |some xs=>some (xs[i]?.map λx=>(.int (s+(i:Int)),x))
  |none=>none
 |.prs,.ref la,.int _=>match zK m la with
  |some xs=>match xs[i]? with
   |none=>some none
   |some w=>(sK w).map some
  |none=>none
 |.ptp,.tup xs,.int _=>match xs[i]? with
  |none=>some none
  |some w=>(sK w).map some
 |_,_,_=>none
noncomputable def xD(c e:Wd->Wd->Me->Rz)(g:Nat->Me->Option (Option (Wd×Wd))):Nat->Nat->List Wd->Me->Rz
 |0,_,_,_=>.no
 |k+1,i,acc,m=>match g i m with
  |none=>.no
  |some none=>alloc m acc
  |some (some (x,y))=>(c x y m).bind λb m1=>match b with
   |.bl true=>(e x y m1).bind λz m2=>if acc.length<aq then xD c e g k (i+1) (acc++[z]) m2 else .no
   |.bl false=>xD c e g k (i+1) acc m1
   |_=>.no
noncomputable def zq:Wd->List Wd
 |.tup xs=>xs
 |_=>[]
noncomputable def af(cl:Nat->List Wd->Me->Rz):Ex->En->Me->Rz
 |.var i,env,m=>match env[i]? with
  |some (some w)=>.ok w m
  |_=>.no
 |.lit w,_,m=>.ok w m
 |.bin op a b,env,m=>(af cl a env m).bind λx m1=>(af cl b env m1).bind λy m2=>cJ op x y m2
 |.neg a,env,m=>(af cl a env m).bind λx m1=>match x with
  |.int i=>.ok (.int (-i)) m1
  |_=>.no
 |.not a,env,m=>(af cl a env m).bind λx m1=>match x with
  |.bl b=>.ok (.bl (! b)) m1
  |_=>.no
 |.and a b,env,m=>(af cl a env m).bind λx m1=>match x with
  |.bl true=>af cl b env m1
  |.bl false=>.ok (.bl false) m1
  |_=>.no
 |.or a b,env,m=>(af cl a env m).bind λx m1=>match x with
  |.bl false=>af cl b env m1
  |.bl true=>.ok (.bl true) m1
  |_=>.no
 |.cmp op a b,env,m=>(af cl a env m).bind λx m1=>(af cl b env m1).bind λy m2=>cop op x y m2
 |.chain p q a b c,env,m=>(af cl a env m).bind λx m1=>(af cl b env m1).bind λy m2=>(cop p x y m2).bind λz m3=>match z with
  |.bl true=>(af cl c env m3).bind λu m4=>cop q y u m4
  |.bl false=>.ok (.bl false) m3
  |_=>.no
 |.ife c a b,env,m=>(af cl c env m).bind λx m1=>match x with
  |.bl true=>af cl a env m1
  |.bl false=>af cl b env m1
  |_=>.no
 |.unit,_,m=>.ok (.tup []) m
 |.pair a b,env,m=>(af cl a env m).bind λx m1=>(af cl b env m1).bind λy m2=>.ok (.tup (x::zq y)) m2
 |.call k a,env,m=>(af cl a env m).bind λx m1=>cl k (zq x) m1
 |.blt b a,env,m=>(af cl a env m).bind λx m1=>gY b (zq x) m1
 |.isi t a,env,m=>(af cl a env m).bind λx m1=>dO (dz t x m1) m1
 |.lst a,env,m=>(af cl a env m).bind λx m1=>alloc m1 (zq x)
 |.tup a,env,m=>(af cl a env m).bind λx m1=>if(zq x).length<=aq then .ok (.tup (zq x)) m1 else .no
 |.idx a b,env,m=>(af cl a env m).bind λx m1=>(af cl b env m1).bind λy m2=>vZ x y m2
 |.slH a hi,env,m=>(af cl a env m).bind λx m1=>(af cl hi env m1).bind λy m2=>match y with
  |.int i=>fu x none (some i) m2
  |_=>.no
 |.meth n o a,env,m=>(af cl o env m).bind λx m1=>match yC x m1 with
  |true=>(af cl a env m1).bind λy m2=>cj n x (zq y) m2
  |false=>.no
 |.rng a b c,env,m=>(af cl a env m).bind λx m1=>(af cl b env m1).bind λy m2=>(af cl c env m2).bind λz m3=>fm x y z m3
 |.comp elt it cond,env,m=>(af cl it env m).bind λx m1=>match x with
  |.tup xs=>xS (λx m=>af cl cond (env++[some x]) m) (λx m=>af cl elt (env++[some x]) m) xs [] m1
  |.rol xs=>xS (λx m=>af cl cond (env++[some x]) m) (λx m=>af cl elt (env++[some x]) m) xs [] m1
  |.ref l=>xT (λx m=>af cl cond (env++[some x]) m) (λx m=>af cl elt (env++[some x]) m) l (aq+1) 0 [] m1
  |_=>.no
 |.compP k elt a b cond,env,m=>(af cl a env m).bind λx m1=>(af cl b env m1).bind λy m2=>
  xD (λu v m=>af cl cond (env++[some u]++[some v]) m) (λu v m=>af cl elt (env++[some u]++[some v]) m) (yU k x y) (aq+1) 0 [] m2
 |.lrng a,env,m=>(af cl a env m).bind λx m1=>match x with
  |.int j=>if -aq<=j/\j<=aq then alloc m1 (jN 0 1 j.toNat)else .no
  |_=>.no
noncomputable def ww(body:Wd->En->Me->Rs):List Wd->En->Me->Rs
 |[],env,m=>.next env m
 |x::xs,env,m=>match body x env m with
  |.next e1 m1=>ww body xs e1 m1
  |.cont e1 m1=>ww body xs e1 m1
  |.brk e1 m1=>.next e1 m1
  |r=>r
noncomputable def wc(body:Wd->En->Me->Rs)(l:Nat):Nat->Nat->En->Me->Rs
 |0,_,_,_=>.no
 |k+1,i,env,m=>match zK m l with
  |none=>.no
  |some xs=>match xs[i]? with
   |none=>.next env m
   |some x=>match body x env m with
    |.next e1 m1=>wc body l k (i+1) e1 m1
    |.cont e1 m1=>wc body l k (i+1) e1 m1
    |.brk e1 m1=>.next e1 m1
    |r=>r
noncomputable def jG(c:En->Me->Rz)(body:En->Me->Rs):Nat->En->Me->Rs
 |0,_,_=>.no
 |k+1,env,m=>match c env m with
  |.ok (.bl true) m1=>match body env m1 with
   |.next e1 m2=>jG c body k e1 m2
   |.cont e1 m2=>jG c body k e1 m2
   |.brk e1 m2=>.next e1 m2
   |r=>r
  |.ok (.bl false) m1=>.next env m1
  |.exc c w m1=>.exc c w env m1
  |_=>.no
noncomputable def Rz.bindS(r:Rz)(env:En)(f:Wd->Me->Rs):Rs:=match r with
 |.ok w m=>f w m
 |.exc c w m=>.exc c w env m
 |.no=>.no
noncomputable def fc(body:Wd->En->Me->Rs)(w:Wd)(env:En)(m:Me):Rs:=match w with
 |.tup xs=>ww body xs env m
 |.rol xs=>ww body xs env m
 |.ref l=>wc body l (aq+1) 0 env m
 |_=>.no
noncomputable def cV(i j:Nat):Wd->En->Option En:=λw env=>match w with
 |.tup [a,b]=>some ((env.set i (some a)).set j (some b))
 |_=>none
noncomputable def iV(i j k:Nat):Wd->En->Option En:=λw env=>match w with
 |.tup [a,b,c]=>some (((env.set i (some a)).set j (some b)).set k (some c))
 |_=>none
noncomputable def yN(st:Wd->En->Option En)(b:En->Me->Rs):Wd->En->Me->Rs:=λw env m=>match st w env with
 |some env'=>b env' m
 |none=>.no
noncomputable def aF(cl:Nat->List Wd->Me->Rz):Sm->En->Me->Rs
 |.skip,env,m=>.next env m
 |.seq a b,env,m=>match aF cl a env m with
  |.next e1 m1=>aF cl b e1 m1
  |r=>r
 |.asg i e,env,m=>(af cl e env m).bindS env λw m1=>.next (env.set i (some w)) m1
 |.asgS o i e,env,m=>(af cl e env m).bindS env λw m1=>(af cl o env m1).bindS env λx m2=>(af cl i env m2).bindS env λy m3=>(km x y w m3).bindS env λ_ m4=>.next env m4
 |.ite c a b,env,m=>(af cl c env m).bindS env λx m1=>match x with
  |.bl true=>aF cl a env m1
  |.bl false=>aF cl b env m1
  |_=>.no
 |.forv i it body,env,m=>(af cl it env m).bindS env λw m1=>fc (λx e m=>aF cl body (e.set i (some x)) m) w env m1
 |.fort i j it body,env,m=>(af cl it env m).bindS env λw m1=>fc (yN (cV i j) (aF cl body)) w env m1
 |.while c body,env,m=>jG (af cl c) (aF cl body) 1000000 env m
 |.ret e,env,m=>(af cl e env m).bindS env λw m1=>.ret w m1
 |.expr e,env,m=>(af cl e env m).bindS env λ_ m1=>.next env m1
 |.appPop j a x e,env,m=>(af cl (.meth .append (.var j) (.pair (.bin .add (.var a) (.bin .mod (.meth .pop (.var x) (.pair (.lit (.int 0)) .unit)) e)) .unit)) env m).bindS env λ_ m1=>.next env m1
 |.for3 i j k it body,env,m=>(af cl it env m).bindS env λw m1=>fc (yN (iV i j k) (aF cl body)) w env m1
 |.never,_,_=>.no
set_option genInjectivity false in
structure Fn where
 ar:Nat
 sz:Nat
 body:Sm
deriving Inhabited
noncomputable def yi(fn:Fn)(ws:List Wd):En:=ws.map some++Qv (fn.sz-ws.length) none
noncomputable def yR(cl:Nat->List Wd->Me->Rz)(fn:Fn)(ws:List Wd)(m:Me):Rz:=
 if ws.length=fn.ar then match aF cl fn.body (yi fn ws) m with
  |.next _ m1=>.ok .non m1
  |.ret w m1=>.ok w m1
  |.exc c w _ m1=>.exc c w m1
  |_=>.no
 else .no
noncomputable def yj(T:List Fn):Nat->Nat->List Wd->Me->Rz
 |0,_,_,_=>.no
 |d+1,k,ws,m=>match T[k]? with
  |some fn=>yR (yj T d) fn ws m
  |none=>.no
end Mini
namespace Mini
open PySem PySem.Spec PyProof.Rows L2
abbrev St:=L2.St
noncomputable def KL(K:Qb)(a:Addr)(xs:List V):Prop:=
 ∃(o:Obj) (its:Array Value) (n:Nat),K.lookup a=some o/\o.cls=.type "list" /\ o.dict=none/\o.data=.seq its n/\its.size<=sizeLine/\aA xs its.toList
noncomputable def eS(K:Qb)(H:Hp)(a:Addr)(vs:List V):Prop:=(∃o,H a=some (.frz o (.lst vs)))\/KL K a vs
def eS.sq {K:Qb}(h:eS K H a vs):bE K H a vs:=by
 rcases h with h|h
 .exact .inl (.inr h)
 .exact .inr h
mutual
noncomputable def ai(K:Qb)(as:List Addr)(H:Hp):Wd->V->Prop
 |.non,v=>v=.non
 |.bl b,v=>v=.bl b
 |.int i,v=>v=.int i
 |.str s,v=>v=.str ⟨s.toArray⟩
 |.tup xs,v=>∃a vs,v=.ref a/\bU K H a vs/\ae K as H xs vs
 |.rol xs,v=>∃a vs,v=.ref a/\eS K H a vs/\ae K as H xs vs
 |.ref l,v=>∃a,as[l]?=some a/\v=.ref a
noncomputable def ae(K:Qb)(as:List Addr)(H:Hp):List Wd->List V->Prop
 |[],vs=>vs=[]
 |x::xs,vs=>∃v r,vs=v::r/\ai K as H x v/\ae K as H xs r
end
noncomputable def bJ(K:Qb)(as:List Addr)(H:Hp):Ob->Addr->Prop
 |.lst ws,a=>∃vs,H a=some (.lst vs)/\ae K as H ws vs
structure aR(K:Qb)(as:List Addr)(m:Me)(H:Hp):Prop where
 len:as.length=m.length
 nd:as.Nodup
 obj:∀(l:Nat) (a:Addr) (o:Ob),as[l]?=some a->m[l]?=some o->bJ K as H o a
structure Step(as:List Addr)(H:Hp)(as':List Addr)(H':Hp):Prop where
 pre:∃t,as'=as++t
 frame:∀b o,H b=some o->b∉as->H' b=some o
 fresh:∀a∈as',a∈as\/H a=none
section
variable{K:Qb}{as as' as2:List Addr}{H H' H2:Hp}{m m':Me}
def Step.refl:Step as H as H:=⟨⟨[],by simp⟩,λ_ _ h _=>h,λ_ h=>.inl h⟩
def Step.get (T:Step as H as' H'){l:Nat}(h:as[l]?=some a):as'[l]?=some a:=by
 obtain⟨t,rfl⟩:=T.pre;rw[Qs (Qa.mp h).1];exact h
def Step.out (T:Step as H as' H')(h:H b=some o)(hb:b∉as):b∉as':=λz=>by
 rcases T.fresh b z with q|q
 .exact hb q
 .rw[h]at q;cases q
def Step.trans(T:Step as H as' H')(U:Step as' H' as2 H2):Step as H as2 H2:=by
 refine⟨?_,λb o h hb=>U.frame b o (T.frame b o h hb) (T.out h hb),λa ha=>?_⟩
 .obtain ⟨t,rfl⟩:=T.pre;obtain⟨u,rfl⟩:=U.pre;exact⟨t++u,by simp⟩
 .rcases U.fresh a ha with q|q
  .exact T.fresh a q
  .by_cases z:a∈as
   .exact .inl z
   .refine .inr ?_;cases e:H a with
    |none=>rfl
    |some o=>rw[T.frame a o e z]at q;cases q
def aR.get (S:aR K as m H){l:Nat}(h:m[l]?=some o):∃a,as[l]?=some a/\bJ K as H o a:=by
 have hl:l<as.length:=by rw[S.len];exact(Qa.mp h).1
 exact⟨as[l],by simp[hl],S.obj l _ o (by simp[hl]) h⟩
noncomputable def LD:HO->Prop
 |.lst _=>True
 |.ext _=>True
 |_=>False
def aR.isLst (S:aR K as m H)(h:a∈as):∃o,H a=some o/\LD o:=by
 obtain⟨l,hl,rfl⟩:=W7.mp h;have hm:l<m.length:=by rw[<-S.len];exact hl
 have q:=S.obj l as[l] m[l] (by simp[hl]) (by simp[hm]);cases e:m[l]with
 |lst ws=>
  rw[e]at q;obtain⟨vs,h1,_⟩:=q;exact⟨_,h1,trivial⟩
def GI (nt:∀a∈as,∃o,H a=some o/\LD o)(T:Step as H as' H')(h:bU K H a vs):bU K H' a vs:=by
 rcases h with h|h
 .have hn:a∉as:=λz=>by
   obtain⟨u,e,hu⟩:=nt a z;rcases h with h|⟨o,h⟩<;>rw[e]at h<;>cases h<;>exact hu
  rcases h with h|⟨o,h⟩
  .exact .inl (.inl (T.frame _ _ h hn))
  .exact .inl (.inr ⟨o,T.frame _ _ h hn⟩)
 .exact .inr h
def G8 (nt:∀a∈as,∃o,H a=some o/\LD o)(T:Step as H as' H')(h:eS K H a vs):eS K H' a vs:=by
 rcases h with⟨o,h⟩|h
 .have hn:a∉as:=λz=>by
   obtain⟨u,e,hu⟩:=nt a z;rw[e]at h;cases h;exact hu
  exact .inl ⟨o,T.frame _ _ h hn⟩
 .exact .inr h
structure Kp(K:Qb)(H H':Hp):Prop where
 t:∀a vs,bU K H a vs->bU K H' a vs
 f:∀a vs,eS K H a vs->eS K H' a vs
def aR.kp(S:aR K as m H)(T:Step as H as' H'):Kp K H H':=⟨λ_ _ h=>GI (λ_ z=>S.isLst z) T h,λ_ _ h=>G8 (λ_ z=>S.isLst z) T h⟩
def Kp.updL{D:Addr}{u o:HO}(h:H D=some u)(hu:LD u):Kp K H (L2.aJ H D o):=by
 refine⟨λa vs q=>?_,λa vs q=>?_⟩
 .rcases q with (q|⟨x,q⟩)|q
  .exact .inl (.inl (by rw[zi (by rintro rfl;rw[h]at q;cases q;exact hu)];exact q))
  .exact .inl (.inr ⟨x,by rw[zi (by rintro rfl;rw[h]at q;cases q;exact hu)];exact q⟩)
  .exact .inr q
 .rcases q with⟨x,q⟩|q
  .exact .inl ⟨x,by rw[zi (by rintro rfl;rw[h]at q;cases q;exact hu)];exact q⟩
  .exact .inr q
def Kp.upd{D:Addr}{ys:List V}{o:HO}(h:H D=some (.lst ys)):Kp K H (L2.aJ H D o):=Kp.updL h trivial
mutual
theorem gi(k:Kp K H H')(g:∀(l:Nat) (a:Addr),as[l]?=some a->as'[l]?=some a):∀(w:Wd) (v:V),ai K as H w v->ai K as' H' w v
 |.non,_,h=>by rw[ai]at h ⊢;exact h
 |.bl _,_,h=>by rw[ai]at h ⊢;exact h
 |.int _,_,h=>by rw[ai]at h ⊢;exact h
 |.str _,_,h=>by rw[ai]at h ⊢;exact h
 |.tup xs,v,h=>by
  rw[ai]at h ⊢;obtain⟨a,vs,e,q,r⟩:=h;exact⟨a,vs,e,k.t _ _ q,bt k g xs vs r⟩
 |.rol xs,v,h=>by
  rw[ai]at h ⊢;obtain⟨a,vs,e,q,r⟩:=h;exact⟨a,vs,e,k.f _ _ q,bt k g xs vs r⟩
 |.ref l,v,h=>by
  rw[ai]at h ⊢;obtain⟨a,q,e⟩:=h;exact⟨a,g _ _ q,e⟩
theorem bt(k:Kp K H H')(g:∀(l:Nat) (a:Addr),as[l]?=some a->as'[l]?=some a):∀(ws:List Wd) (vs:List V),ae K as H ws vs->ae K as' H' ws vs
 |[],_,h=>by rw[ae]at h ⊢;exact h
 |x::xs,vs,h=>by
  rw[ae]at h ⊢;obtain⟨v,r,e,q,t⟩:=h;exact⟨v,r,e,gi k g x v q,bt k g xs r t⟩
end
def ai.mono{w:Wd}{v:V}(h:ai K as H w v)(S:aR K as m H)(T:Step as H as' H'):ai K as' H' w v:=gi (S.kp T) (λ_ _ e=>T.get e) w v h
def ae.mono{ws:List Wd}{vs:List V}(h:ae K as H ws vs)(S:aR K as m H)(T:Step as H as' H'):ae K as' H' ws vs:=bt (S.kp T) (λ_ _ e=>T.get e) ws vs h
def ae.kp{ws:List Wd}{vs:List V}(h:ae K as H ws vs)(k:Kp K H H'):ae K as H' ws vs:=bt k (λ_ _ e=>e) ws vs h
def ai.kp{w:Wd}{v:V}(h:ai K as H w v)(k:Kp K H H'):ai K as H' w v:=gi k (λ_ _ e=>e) w v h
def am:ai K as H .non v↔v=.non:=by rw[ai]
def ah:ai K as H (.bl b) v↔v=.bl b:=by rw[ai]
def aa:ai K as H (.int i) v↔v=.int i:=by rw[ai]
def az:ai K as H (.str s) v↔v=.str ⟨s.toArray⟩:=by rw[ai]
def aj:ai K as H (.tup xs) v↔∃a vs,v=.ref a/\bU K H a vs/\ae K as H xs vs:=by rw[ai]
def bi:ai K as H (.rol xs) v↔∃a vs,v=.ref a/\eS K H a vs/\ae K as H xs vs:=by rw[ai]
def aM:ai K as H (.ref l) v↔∃a,as[l]?=some a/\v=.ref a:=by rw[ai]
def aB:ae K as H [] vs↔vs=[]:=by rw[ae]
def aw:ae K as H (x::xs) vs↔∃v r,vs=v::r/\ai K as H x v/\ae K as H xs r:=by rw[ae]
theorem ae.length:∀{xs:List Wd}{vs:List V},ae K as H xs vs->xs.length=vs.length
 |[],vs,h=>by rw[aB.mp h];rfl
 |x::xs,vs,h=>by
  obtain⟨v,r,rfl,_,t⟩:=aw.mp h;simp[ae.length t]
theorem ae.get:∀{xs:List Wd}{vs:List V}{i:Nat}{x:Wd},ae K as H xs vs->xs[i]?=some x->∃v,vs[i]?=some v/\ai K as H x v
 |[],_,_,_,_,e=>by simp at e
 |x::xs,vs,0,y,h,e=>by
  obtain⟨v,r,rfl,q,t⟩:=aw.mp h;simp at e;subst e;exact⟨v,rfl,q⟩
 |x::xs,vs,i+1,y,h,e=>by
  obtain⟨v,r,rfl,q,t⟩:=aw.mp h;obtain⟨u,h1,h2⟩:=ae.get (i:=i) (x:=y) t (by simpa using e);exact⟨u,by simpa using h1,h2⟩
def ae.back:∀{xs:List Wd}{vs:List V}{i:Nat}{v:V},ae K as H xs vs->vs[i]?=some v->∃x,xs[i]?=some x/\ai K as H x v:=λ{xs vs i v} h e=>by
 have hi:i<xs.length:=by rw[h.length];exact(Qa.mp e).1
 obtain⟨u,h1,h2⟩:=h.get (i:=i) (x:=xs[i]) (by simp[hi]);rw[e]at h1;cases h1;exact⟨xs[i],by simp[hi],h2⟩
theorem ae.append:∀{xs ys:List Wd}{vs us:List V},ae K as H xs vs->ae K as H ys us->ae K as H (xs++ys) (vs++us)
 |[],ys,vs,us,h,h'=>by rw[aB.mp h];exact h'
 |x::xs,ys,vs,us,h,h'=>by
  obtain⟨v,r,rfl,q,t⟩:=aw.mp h;exact aw.mpr ⟨v,r++us,rfl,q,t.append h'⟩
def ae.one{x:Wd}{v:V}(h:ai K as H x v):ae K as H [x] [v]:=aw.mpr ⟨v,[],rfl,h,aB.mpr rfl⟩
theorem ae.set:∀{xs:List Wd}{vs:List V}{x:Wd}{v:V}(i:Nat),ae K as H xs vs->ai K as H x v->ae K as H (xs.set i x) (vs.set i v)
 |[],vs,_,_,_,h,_=>by rw[aB.mp h];exact aB.mpr rfl
 |y::xs,vs,x,v,0,h,hx=>by
  obtain⟨u,r,rfl,q,t⟩:=aw.mp h;exact aw.mpr ⟨v,r,rfl,hx,t⟩
 |y::xs,vs,x,v,i+1,h,hx=>by
  obtain⟨u,r,rfl,q,t⟩:=aw.mp h;exact aw.mpr ⟨u,r.set i v,rfl,q,t.set i hx⟩
set_option tactic.hygienic true in
theorem ae.take:∀{xs:List Wd}{vs:List V}(n:Nat),ae K as H xs vs->ae K as H (xs.take n) (vs.take n)
 |_,_,0,_=>aB.mpr rfl
 |[],vs,n+1,h=>by rw[aB.mp h];exact aB.mpr rfl
 |x::xs,vs,n+1,h=>by
  obtain⟨v,r,rfl,q,t⟩:=aw.mp h;exact aw.mpr ⟨v,r.take n,rfl,q,t.take n⟩
theorem ae.drop:∀{xs:List Wd}{vs:List V}(n:Nat),ae K as H xs vs->ae K as H (xs.drop n) (vs.drop n)
 |_,_,0,h=>h
 |[],vs,n+1,h=>by rw[aB.mp h];exact aB.mpr rfl
 |x::xs,vs,n+1,h=>by
  obtain⟨v,r,rfl,q,t⟩:=aw.mp h;exact t.drop n
theorem ae.reverse:∀{xs:List Wd}{vs:List V},ae K as H xs vs->ae K as H xs.reverse vs.reverse
 |[],vs,h=>by rw[aB.mp h];exact aB.mpr rfl
 |x::xs,vs,h=>by
  obtain⟨v,r,rfl,q,t⟩:=aw.mp h;rw[We,We];exact t.reverse.append (.one q)
theorem ae.dropLast:∀{xs:List Wd}{vs:List V},ae K as H xs vs->ae K as H xs.dropLast vs.dropLast:=λ{xs vs} h=>by
 rw[WF,WF,h.length];exact h.take _
theorem ae.rep (h:ae K as H xs vs):∀k:Nat,ae K as H (Qv k xs).flatten (Qv k vs).flatten
 |0=>aB.mpr rfl
 |k+1=>by
  rw[Q0,Q0,Wf,Wf];exact h.append (ae.rep h k)
structure aD(K:Qb)(as:List Addr)(H:Hp)(env:En)(σ:St):Prop where
 len:env.length=σ.length
 get:∀(i:Nat) (w:Wd),env[i]?=some (some w)->∃v,σ[i]?=some (some v)/\ai K as H w v
theorem aD.mono{env:En}{σ:St}(G:aD K as H env σ)(S:aR K as m H)(T:Step as H as' H'):aD K as' H' env σ:=
 ⟨G.len,λi w e=>let⟨v,h1,h2⟩:=G.get i w e;⟨v,h1,h2.mono S T⟩⟩
theorem aD.kp{env:En}{σ:St}(G:aD K as H env σ)(k:Kp K H H'):aD K as H' env σ:=
 ⟨G.len,λi w e=>let⟨v,h1,h2⟩:=G.get i w e;⟨v,h1,h2.kp k⟩⟩
theorem aD.set{env:En}{σ:St}(G:aD K as H env σ){w:Wd}{v:V}(h:ai K as H w v)(i:Nat):aD K as H (env.set i (some w)) (σ.set i (some v)):=by
 refine⟨by simp[G.len],λj x e=>?_⟩;by_cases hj:j=i
 .subst hj;have hl:j<env.length:=by
   have:=(Qa.mp e).1;simpa using this
  rw[QO hl]at e;cases e;exact⟨v,QO (by rw[<-G.len];exact hl),h⟩
 .rw[Qg (Ne.symm hj)]at e;obtain⟨u,h1,h2⟩:=G.get j x e;exact⟨u,by rw[Qg (Ne.symm hj)];exact h1,h2⟩
def aD.push{env:En}{σ:St}(G:aD K as H env σ){w:Wd}{v:V}(h:ai K as H w v):aD K as H (env++[some w]) (σ++[some v]):=by
 refine⟨by simp[G.len],λj x e=>?_⟩;by_cases hj:j<env.length
 .rw[Qs hj]at e;obtain⟨u,h1,h2⟩:=G.get j x e;exact⟨u,by rw[Qs (by rw[<-G.len];exact hj)];exact h1,h2⟩
 .rw[Qo (by lia)]at e;have hz:j-env.length=0:=by
   cases hq:j-env.length with
   |zero=>rfl
   |succ k=>rw[hq]at e;simp at e
  rw[hz]at e;simp at e;subst e;refine⟨v,?_,h⟩;rw[Qo (by rw[<-G.len];lia),<-G.len,hz];rfl
noncomputable def ay(K:Qb)(as:List Addr)(H:Hp)(Q:VK)(r:Rz):Prop:=match r with
 |.ok w m'=>∀as' H' v,Step as H as' H'->aR K as' m' H'->ai K as' H' w v->Q v H'
 |_=>False
def ay.step{Q:VK}{r:Rz}(h:ay K as H Q r)(T:Step as H as' H'):ay K as' H' Q r:=by
 cases r with
 |ok w m'=>exact λas2 H2 v U S R=>h as2 H2 v (T.trans U) S R
 |exc c w m'=>exact h
 |no=>exact h
theorem ay.bind{Q Q1:VK}{r:Rz}{f:Wd->Me->Rz}(h:ay K as H Q (r.bind f))
  (k:∀w m' as' H' v,Step as H as' H'->aR K as' m' H'->ai K as' H' w v->ay K as' H' Q (f w m')->Q1 v H'):ay K as H Q1 r:=by
 cases r with
 |ok w m'=>exact λas2 H2 v U S R=>k w m' as2 H2 v U S R (ay.step (r:=f w m') h U)
 |exc c w m'=>exact h
 |no=>exact h
def lY (h:ay K as H Q (r.bind f))(T:Step as H as' H')(k:∀w m2 as2 H2 v,Step as' H' as2 H2->aR K as2 m2 H2->ai K as2 H2 w v->ay K as H Q (f w m2)->Q1 v H2):ay K as' H' Q1 r:=by
 cases r with
 |ok w m'=>exact λas2 H2 v U S R=>k w m' as2 H2 v U S R h
 |exc c w m'=>exact h
 |no=>exact h
noncomputable def aT(K:Qb)(g:En->Me->Rz):TE:=λσ H Q=>∃as env m,aR K as m H/\aD K as H env σ/\ay K as H Q (g env m)
noncomputable def wu(K:Qb)(g:En->Me->Rz):TT:=λσ H Q=>aT K g σ H λv H'=>∃b,v=.bl b/\Q b H'
theorem ay.ok (h:ay K as H Q (.ok w m))(S:aR K as m H)(R:ai K as H w v):Q v H:=h as H v .refl S R
end
def PE.imp{X:Cx}{e:Expr}{t t':TE}(h:PE X e t)(k:∀σ H Q,t' σ H Q->t σ H Q):PE X e t':=λpins s σ H Q I q=>h pins s σ H Q I (k σ H Q q)
def PT.imp{X:Cx}{e:Expr}{t t':TT}(h:PT X e t)(k:∀σ H Q,t' σ H Q->t σ H Q):PT X e t':=λpins s σ H Q I q=>h pins s σ H Q I (k σ H Q q)
def PA.imp{X:Cx}{es:List Expr}{t t':TA}(h:PA X es t)(k:∀σ H Q,t' σ H Q->t σ H Q):PA X es t':=λpos pins s σ H Q I q=>h pos pins s σ H Q I (k σ H Q q)
def PS.imp{X:Cx}{st:Stmt}{t t':TS}(h:PS X st t)(k:∀D σ H,t' D σ H->t D σ H):PS X st t':=λpins s σ H D I q=>h pins s σ H D I (k D σ H q)
def cf.imp{X:Cx}{st:List Stmt}{t t':TS}(h:cf X st t)(k:∀D σ H,t' D σ H->t D σ H):cf X st t':=λpins s σ H D I q=>h pins s σ H D I (k D σ H q)
end Mini
namespace L2
open PySem PySem.Spec PyProof.Rows
section
variable{X:Cx}
noncomputable def sJ(K:Qb):R2:=λx y H Q=>∃a b ys,x=.ref a/\y=.ref b/\bU K H a []/\bU K H b ys/\Q (.ref b) H
def FE:bS X (LI .Add) (sJ X.K):=by
 intro pins s σ H x y v u Q I rx ry h;obtain⟨a,b,ys,rfl,rfl,ha,hb,q⟩:=h;cases rx;cases ry;obtain⟨its,r1,p1,_⟩:=I.tuple ha;obtain⟨its2,r2,p2,_⟩:=I.tuple hb;cases r1;obtain⟨⟨c1,d1,f1,l1⟩,g1,e1,n1,k1⟩:=p1;obtain⟨⟨c2,d2,f2,l2⟩,g2,e2,n2,k2⟩:=p2;simp only at e1 e2 k1 k2;subst e1 e2 k1 k2;have m:=tuple_addW0 a b #[] its2.toArray n1 n2 d1 d2 l1 l2 rfl;exact L8 ⟨_,g1,rfl⟩ ⟨_,g2,rfl⟩ L9 Ma PySem.F.slot_tuple_add PySem.F.entry_tuple_add (PySem.F.args_tuple_add_2 _ _) m ⟨g1,g2,.ref b,H,I,rfl,q⟩
end
end L2
namespace Mini
open PySem PySem.Spec PyProof.Rows L2
section
variable{K:Qb}{as:List Addr}{H H':Hp}{m:Me}{Q:VK}{a p:Addr}{l:Nat}{ws xs:List Wd}{vs us:List V}
def xl:aq<=sizeLine:=by rw[LM];decide
def aR.new(S:aR K as m H)(hp:H p=none):p∉as:=λz=>by
 obtain⟨us,e,_⟩:=S.isLst z;rw[hp]at e;cases e
def aR.alloc(S:aR K as m H)(hp:H p=none)(R:ae K as H ws vs):Step as H (as++[p]) (aJ H p (.lst vs))/\aR K (as++[p]) (m++[.lst ws]) (aJ H p (.lst vs)):=by
 have hn:=S.new hp;have T:Step as H (as++[p]) (aJ H p (.lst vs)):=⟨⟨[p],rfl⟩,λb o h _=>by rw[zi (zt h hp)];exact h,λb hb=>by
  rcases Qz.mp hb with z|z
  .exact .inl z
  .exact .inr (by rw[QN.mp z];exact hp)⟩
 refine⟨T,⟨by simp[S.len],?_,λl b o h1 h2=>?_⟩⟩
 .refine Qt.mpr ⟨S.nd,by simp,λx hx y hy=>?_⟩;rw[QN.mp hy];rintro rfl;exact hn hx
 .by_cases hl:l<as.length
  .rw[Qs hl]at h1;rw[Qs (by rw[<-S.len];exact hl)]at h2;have q:=S.obj l b o h1 h2;cases o with
   |lst ys=>
    obtain⟨zs,e,r⟩:=q;exact⟨zs,by rw[zi (zt e hp)];exact e,r.mono S T⟩
  .rw[Qo (by lia)]at h1;rw[Qo (by rw[<-S.len];lia)]at h2;have hz:l-as.length=0:=by
    cases hq:l-as.length with
    |zero=>rfl
    |succ k=>rw[hq]at h1;simp at h1
   rw[hz]at h1;rw[<-S.len,hz]at h2;simp at h1 h2;subst h1;subst h2;exact⟨vs,zn,R.mono S T⟩
theorem aR.set(S:aR K as m H)(ha:as[l]?=some a)(hm:m[l]?=some (.lst xs))(R:ae K as H ws vs):Step as H as (aJ H a (.lst vs))/\aR K as (m.set l (.lst ws)) (aJ H a (.lst vs)):=by
 have hin:a∈as:=QC ha;have T:Step as H as (aJ H a (.lst vs)):=⟨⟨[],by simp⟩,λb o h hb=>by
  rw[zi (by rintro rfl;exact hb hin)];exact h,λb hb=>.inl hb⟩
 refine⟨T,⟨by simp[S.len],S.nd,λk b o h1 h2=>?_⟩⟩;by_cases hk:k=l
 .subst hk;rw[ha]at h1;cases h1;rw[QO (Qa.mp hm).1]at h2;cases h2;exact⟨vs,zn,R.mono S T⟩
 .rw[Qg (Ne.symm hk)]at h2;have q:=S.obj k b o h1 h2;have hb:b≠a:=by
   rintro rfl;obtain⟨i1,e1⟩:=Qa.mp h1;obtain⟨i2,e2⟩:=Qa.mp ha;exact hk ((WY S.nd).mp (e1.trans e2.symm))
  cases o with
  |lst ys=>
   obtain⟨zs,e,r⟩:=q;exact⟨zs,by rw[zi hb];exact e,r.mono S T⟩
def aR.keep(S:aR K as m H)(T:Step as H as H')(hk:∀a∈as,∀o,H a=some o->H' a=some o):aR K as m H':=by
 refine⟨S.len,S.nd,λl b o h1 h2=>?_⟩;have q:=S.obj l b o h1 h2;cases o with
 |lst ys=>
  obtain⟨zs,e,r⟩:=q;exact⟨zs,hk b (QC h1) _ e,r.mono S T⟩
theorem aR.tup(S:aR K as m H)(hp:H p=none)(R:ae K as H ws vs):Step as H as (aJ H p (.tup vs))/\aR K as m (aJ H p (.tup vs))/\ai K as (aJ H p (.tup vs)) (.tup ws) (.ref p):=by
 have T:Step as H as (aJ H p (.tup vs)):=⟨⟨[],by simp⟩,λb o h _=>by rw[zi (zt h hp)];exact h,λb hb=>.inl hb⟩;exact⟨T,S.keep T λb _ o e=>by rw[zi (zt e hp)];exact e,aj.mpr ⟨p,vs,rfl,bU.of zn,R.mono S T⟩⟩
def wR(S:aR K as m H)(R:ae K as H ws vs)(h:ay K as H Q (alloc m ws)):vs.length<=aq/\∀p,H p=none->Q (.ref p) (aJ H p (.lst vs)):=by
 unfold Mini.alloc at h;by_cases hl:ws.length<=aq
 .rw[MN hl]at h;refine⟨by rw[<-R.length];exact hl,λp hp=>?_⟩;obtain⟨T,S'⟩:=S.alloc hp R;refine h _ _ _ T S' (aM.mpr ⟨p,?_,rfl⟩);rw[<-S.len,Qo (Qk _)];simp
 .rw[MO hl]at h;exact h.elim
def yH(S:aR K as m H)(hm:m[l]?=some (.lst xs)):∃a vs,as[l]?=some a/\H a=some (.lst vs)/\ae K as H xs vs:=by
 obtain⟨a,ha,vs,e,r⟩:=S.get hm;exact⟨a,vs,ha,e,r⟩
def yD (h:zK m l=some xs):m[l]?=some (.lst xs):=by
 unfold zK at h;cases e:m[l]? with
 |none=>rw[e]at h;cases h
 |some o=>cases o with
  |lst ys=>rw[e]at h;cases h;rfl
def gj (S:aR K as m H)(R:ai K as H w v)(h:yF m w=some xs):∃p vs,v=.ref p/\(bE K H p vs\/bU K H p vs)/\ae K as H xs vs:=by
 cases w with
 |tup ys=>
  cases h;obtain⟨b,vs,rfl,q,r⟩:=aj.mp R;exact⟨b,vs,rfl,.inr q,r⟩
 |rol ys=>
  cases h;obtain⟨b,vs,rfl,q,r⟩:=bi.mp R;exact⟨b,vs,rfl,.inl q.sq,r⟩
 |ref l=>
  obtain⟨b,hb,rfl⟩:=aM.mp R;obtain⟨a,vs,ha,e,r⟩:=yH S (yD h);rw[hb]at ha;cases ha;exact⟨b,vs,rfl,.inl (bE.of e),r⟩
 |non=>cases h
 |bl b=>cases h
 |int i=>cases h
 |str s=>cases h
noncomputable def oY:Bo->Operator
 |.add=>.Add |.sub=>.Sub |.mul=>.Mult |.fdiv=>.FloorDiv |.mod=>.Mod |.pow=>.Pow |.shr=>.RShift |.band=>.BitAnd
noncomputable def rB(K:Qb):Bo->R2
 |.add=>λx y H Q=>dL (λi j=>.int (i+j)) x y H Q\/(sk x y H Q\/(sL K x y H Q\/sJ K x y H Q))
 |.sub=>dL λi j=>.int (i-j)
 |.mul=>λx y H Q=>rI eZ (λi j=>.int (i*j)) x y H Q\/si x y H Q
 |.fdiv=>rI sF λi j=>.int (i/j)
 |.mod=>rI (λ_ j=>0<j) λi j=>.int (i%j)
 |.pow=>rI sE λi j=>.int (i^j.toNat)
 |.shr=>rI (λ_ j=>0<=j) λi j=>.int (i/2^j.toNat)
 |.band=>dL λi j=>.int (Builtin.bitAnd i j)
def Cn (op:Bo):bS X (LI (oY op)) (rB X.K op):=by
 cases op with
 |add=>exact fx.or (fw.or (eG.or FE))
 |sub=>exact DH
 |mul=>exact fv.or Ec
 |fdiv=>exact E9
 |mod=>exact DG
 |pow=>exact DF
 |shr=>exact DE
 |band=>exact DD
def FD (h:0<=i):Builtin.bitAnd i 1=i%2:=by
 obtain⟨n,rfl⟩:=Int.eq_ofNat_of_zero_le h;show Int.ofNat (n &&& 1)=_;rw[Nat.and_one_is_mod];rfl
def jh (h:yJ i=true):-(2^64)<i/\i<2^64:=by
 unfold yJ cz at h;rw[Qj,decide_eq_true_iff,decide_eq_true_iff]at h;lia
def wx [Decidable c](h:ay K as H Q (if c then r else .no)):c/\ay K as H Q r:=by
 by_cases hc:c
 .rw[MN hc]at h;exact⟨hc,h⟩
 .rw[MO hc]at h;exact h.elim
def FC (h:ay K as H Q (cJ .add (.ref a) (.ref b) m)):∃xs ys,m[a]?=some (.lst xs)/\m[b]?=some (.lst ys)/\ay K as H Q (alloc m (xs++ys)):=by
 unfold cJ at h;dsimp only at h;generalize m[a]?=p at h ⊢;generalize m[b]?=q at h ⊢;cases p with
 |none=>exact h.elim
 |some o=>
  cases o with
  |lst xs=>
   cases q with
   |none=>exact h.elim
   |some o=>
    cases o with
    |lst ys=>exact⟨xs,ys,rfl,rfl,h⟩
def FB (h:ay K as H Q (cJ .mul (.ref a) (.int k) m)):∃xs,m[a]?=some (.lst xs)/\ay K as H Q (if -aq<=k/\k<=aq then alloc m (Qv k.toNat xs).flatten else .no):=by
 unfold cJ at h;dsimp only at h;generalize m[a]?=p at h ⊢;cases p with
 |none=>exact h.elim
 |some o=>
  cases o with
  |lst xs=>exact⟨xs,rfl,h⟩
set_option tactic.hygienic true in
def Ea (S:aR K as m H)(Rx:ai K as H x v)(Ry:ai K as H y u)(h:ay K as H Q (cJ op x y m)):rB K op v u H Q:=by
 cases x with
 |int i=>
  cases y with
  |int j=>
   obtain rfl:=aa.mp Rx;obtain rfl:=aa.mp Ry;cases op with
   |add=>exact .inl ⟨i,j,rfl,rfl,h.ok S (aa.mpr rfl)⟩
   |sub=>exact⟨i,j,rfl,rfl,h.ok S (aa.mpr rfl)⟩
   |mul=>
    obtain⟨hs,h⟩:=wx h;refine .inl ⟨i,j,rfl,rfl,?_,h.ok S (aa.mpr rfl)⟩;rcases Bool.or_eq_true_iff.mp hs with q|q
    .exact .inl (jh q)
    .exact .inr (jh q)
   |fdiv=>
    obtain⟨hs,h⟩:=wx h;exact⟨i,j,rfl,rfl,hs,h.ok S (aa.mpr rfl)⟩
   |mod=>
    obtain⟨hs,h⟩:=wx h;exact⟨i,j,rfl,rfl,hs,h.ok S (aa.mpr rfl)⟩
   |pow=>
    obtain⟨⟨h1,h2,h3⟩,h⟩:=wx h;have h4:=jh h3;exact⟨i,j,rfl,rfl,⟨h1,h2,by lia⟩,h.ok S (aa.mpr rfl)⟩
   |shr=>
    obtain⟨hs,h⟩:=wx h;exact⟨i,j,rfl,rfl,hs.1,h.ok S (aa.mpr rfl)⟩
   |band=>
    obtain⟨⟨h1,rfl⟩,h'⟩:=wx h;refine⟨i,1,rfl,rfl,?_⟩;show Q (.int (Builtin.bitAnd i 1)) H;rw[FD h1];exact h'.ok S (aa.mpr rfl)
  |_=>exact h.elim
 |ref a=>
  obtain⟨pa,ha,rfl⟩:=aM.mp Rx;cases y with
  |ref b=>
   obtain⟨pb,hb,rfl⟩:=aM.mp Ry;cases op with
   |add=>
    obtain⟨xs,ys,e1,e2,h⟩:=FC h;obtain⟨pa',va,ha',ea,ra⟩:=yH S e1;rw[ha]at ha';cases ha';obtain⟨pb',vb,hb',eb,rb⟩:=yH S e2;rw[hb]at hb';cases hb';obtain⟨hl,q⟩:=wR S (ra.append rb) h;rw[Q4]at hl;exact .inr (.inl ⟨pa,pb,va,vb,rfl,rfl,ea,eb,Qp hl xl,q⟩)
   |_=>exact h.elim
  |int k=>
   obtain rfl:=aa.mp Ry;cases op with
   |mul=>
    obtain⟨xs,e1,h⟩:=FB h;obtain⟨hk,h⟩:=wx h;obtain⟨pa',va,ha',ea,ra⟩:=yH S e1;rw[ha]at ha';cases ha';obtain⟨hl,q⟩:=wR S (ra.rep k.toNat) h;rw[uH]at hl;have hlim:(aq:Int)=100000:=rfl;exact .inr ⟨pa,k,va,rfl,rfl,ea,by lia,by lia,by rw[Nat.mul_comm];exact Qp hl xl,q⟩
   |_=>exact h.elim
  |_=>exact h.elim
 |tup xs=>
  cases y with
  |tup ys=>
   cases op with
   |add=>
    obtain⟨hc,h⟩:=wx h;obtain⟨pa,va,rfl,qa,ra⟩:=aj.mp Rx;obtain⟨pb,vb,rfl,qb,rb⟩:=aj.mp Ry;have la:=ra.length;have lb:=rb.length;by_cases hv:va=[]
    .subst hv;obtain rfl:xs=[]:=by
      cases xs with
      |nil=>rfl
      |cons x xs=>simp at la
     exact .inr (.inr (.inr ⟨pa,pb,vb,rfl,rfl,qa,qb,h.ok S Ry⟩))
    refine .inr (.inr (.inl ⟨pa,pb,va,vb,rfl,rfl,qa,qb,hv,?_,λe=>?_,λe p hp=>?_⟩))
    .rw[<-la,<-lb];exact Qp hc xl
    .subst e;obtain rfl:ys=[]:=by
      cases ys with
      |nil=>rfl
      |cons y ys=>simp at lb
     refine h.ok S (aj.mpr ⟨pa,va,rfl,qa,?_⟩);rw[QU];exact ra
    .obtain ⟨T,S',R'⟩:=S.tup hp (ra.append rb);exact h _ _ _ T S' R'
   |_=>exact h.elim
  |_=>exact h.elim
 |_=>exact h.elim
end
end Mini
namespace Mini
open PySem PySem.Spec PyProof.Rows L2
open PySem.SeqAt
section
variable{X:Cx}{pins:List (Addr×Obj)}{σ:St}{s:Shared}{as:List Addr}{H:Hp}{m:Me}
def Az (I:Inv X pins σ H s)(h1:bU X.K H a xs)(h2:bE X.K H a ys):False:=by
 obtain⟨its,_,p,_⟩:=I.tuple h1;obtain⟨its',_,q,_⟩:=I.list h2;exact ne_of_list_tuple q.isList (show s.heap.IsTuple a its.toArray from p) rfl
def ud (I:Inv X pins σ H s)(h1:bU X.K H a xs)(h2:H a=some u)(h3:LD u):False:=by
 rcases h1 with (q|⟨o,q⟩)|⟨o,_,_,hk,_⟩
 .rw[h2]at q;cases q;exact h3
 .rw[h2]at q;cases q;exact h3
 .have:=(I.bs a o (I.ok.mod.kin a o hk)).2;rw[this]at h2;cases h2
def ql (I:Inv X pins σ H s)(h1:KL X.K a xs)(h2:H a=some u):False:=by
 obtain⟨o,_,_,hk,_⟩:=h1;have:=(I.bs a o (I.ok.mod.kin a o hk)).2;rw[this]at h2;cases h2
mutual
theorem kD(I:Inv X pins σ H s)(S:aR X.K as m H):∀(w w':Wd) (v:V),ai X.K as H w v->ai X.K as H w' v->w=w'
 |.non,w',v,h,h'=>by
  obtain rfl:=am.mp h;cases w' with
  |non=>rfl
  |bl b=>cases ah.mp h'
  |int i=>cases aa.mp h'
  |str x=>cases az.mp h'
  |tup xs=>obtain⟨_,_,e,_⟩:=aj.mp h';cases e
  |rol xs=>obtain⟨_,_,e,_⟩:=bi.mp h';cases e
  |ref l=>obtain⟨_,_,e⟩:=aM.mp h';cases e
 |.bl c,w',v,h,h'=>by
  obtain rfl:=ah.mp h;cases w' with
  |non=>cases am.mp h'
  |bl b=>cases ah.mp h';rfl
  |int i=>cases aa.mp h'
  |str x=>cases az.mp h'
  |tup xs=>obtain⟨_,_,e,_⟩:=aj.mp h';cases e
  |rol xs=>obtain⟨_,_,e,_⟩:=bi.mp h';cases e
  |ref l=>obtain⟨_,_,e⟩:=aM.mp h';cases e
 |.int c,w',v,h,h'=>by
  obtain rfl:=aa.mp h;cases w' with
  |non=>cases am.mp h'
  |bl b=>cases ah.mp h'
  |int i=>cases aa.mp h';rfl
  |str x=>cases az.mp h'
  |tup xs=>obtain⟨_,_,e,_⟩:=aj.mp h';cases e
  |rol xs=>obtain⟨_,_,e,_⟩:=bi.mp h';cases e
  |ref l=>obtain⟨_,_,e⟩:=aM.mp h';cases e
 |.str c,w',v,h,h'=>by
  obtain rfl:=az.mp h;cases w' with
  |non=>cases am.mp h'
  |bl b=>cases ah.mp h'
  |int i=>cases aa.mp h'
  |str x=>
   have e:=az.mp h';injection e with e
   injection e with e
   have:c=x:=by simpa using MQ Vd e
   rw[this]
  |tup xs=>obtain⟨_,_,e,_⟩:=aj.mp h';cases e
  |rol xs=>obtain⟨_,_,e,_⟩:=bi.mp h';cases e
  |ref l=>obtain⟨_,_,e⟩:=aM.mp h';cases e
 |.tup xs,w',v,h,h'=>by
  obtain⟨a,vs,rfl,q,r⟩:=aj.mp h;cases w' with
  |non=>cases am.mp h'
  |bl b=>cases ah.mp h'
  |int i=>cases aa.mp h'
  |str x=>cases az.mp h'
  |tup ys=>
   obtain⟨b,us,e,q',r'⟩:=aj.mp h';cases e;obtain rfl:=I.tuple_inj q q';rw[cA I S xs ys vs r r']
  |rol ys=>
   obtain⟨b,us,e,q',r'⟩:=bi.mp h';cases e;exact(Az I q q'.sq).elim
  |ref l=>
   obtain⟨b,hb,e⟩:=aM.mp h';cases e;obtain⟨u,e2,e3⟩:=S.isLst (QC hb);exact(ud I q e2 e3).elim
 |.rol xs,w',v,h,h'=>by
  obtain⟨a,vs,rfl,q,r⟩:=bi.mp h;cases w' with
  |non=>cases am.mp h'
  |bl b=>cases ah.mp h'
  |int i=>cases aa.mp h'
  |str x=>cases az.mp h'
  |tup ys=>
   obtain⟨b,us,e,q',r'⟩:=aj.mp h';cases e;exact(Az I q' q.sq).elim
  |rol ys=>
   obtain⟨b,us,e,q',r'⟩:=bi.mp h';cases e;obtain rfl:=I.list_inj q.sq q'.sq;rw[cA I S xs ys vs r r']
  |ref l=>
   obtain⟨b,hb,e⟩:=aM.mp h';cases e;obtain⟨u,e2,e3⟩:=S.isLst (QC hb);rcases q with⟨o,q⟩|q
   .rw[e2]at q;cases q;exact e3.elim
   .exact (ql I q e2).elim
 |.ref l,w',v,h,h'=>by
  obtain⟨a,ha,rfl⟩:=aM.mp h;obtain⟨u,e2,e3⟩:=S.isLst (QC ha);cases w' with
  |non=>cases am.mp h'
  |bl b=>cases ah.mp h'
  |int i=>cases aa.mp h'
  |str x=>cases az.mp h'
  |tup ys=>
   obtain⟨b,us,e,q',r'⟩:=aj.mp h';cases e;exact(ud I q' e2 e3).elim
  |rol ys=>
   obtain⟨b,us,e,q',r'⟩:=bi.mp h';cases e;rcases q' with⟨o,q'⟩|q'
   .rw[e2]at q';cases q';exact e3.elim
   .exact (ql I q' e2).elim
  |ref l'=>
   obtain⟨b,hb,e⟩:=aM.mp h';cases e;obtain⟨i1,e1⟩:=Qa.mp ha;obtain⟨i2,e2⟩:=Qa.mp hb;rw[(WY S.nd).mp (e1.trans e2.symm)]
theorem cA(I:Inv X pins σ H s)(S:aR X.K as m H):∀(xs ys:List Wd) (vs:List V),ae X.K as H xs vs->ae X.K as H ys vs->xs=ys
 |[],ys,vs,h,h'=>by
  obtain rfl:=aB.mp h;cases ys with
  |nil=>rfl
  |cons y ys=>obtain⟨_,_,e,_⟩:=aw.mp h';cases e
 |x::xs,ys,vs,h,h'=>by
  obtain⟨v,r,rfl,q,t⟩:=aw.mp h;cases ys with
  |nil=>cases aB.mp h'
  |cons y ys=>
   obtain⟨v',r',e,q',t'⟩:=aw.mp h';cases e;rw[kD I S x y v q q',cA I S xs ys r t t']
end
theorem qX:∀{xs ys:List Wd}{r:Bool},cQ p xs ys=some r ->
  ∃f:Nat->Bool,(∀j x y,xs[j]?=some x->ys[j]?=some y->p x y=some (f j))/\r=(QI (min xs.length ys.length)).all f
 |[],ys,r,h=>by
  unfold cQ at h;cases h;exact⟨λ_=>true,λj x y e=>by simp at e,by simp⟩
 |_::_,[],r,h=>by
  unfold cQ at h;cases h;exact⟨λ_=>true,λj x y _ e=>by simp at e,by simp⟩
 |x::xs,y::ys,r,h=>by
  unfold cQ at h;cases hp:p x y with
  |none=>rw[hp]at h;cases h
  |some b=>
   rw[hp]at h;simp only[]at h;cases hr:cQ p xs ys with
   |none=>rw[hr]at h;cases h
   |some r'=>
    rw[hr]at h;cases h;obtain⟨f,hf,e⟩:=qX (xs:=xs) (ys:=ys) hr;refine⟨λj=>match j with|0=>b|j+1=>f j,λj x' y' e1 e2=>?_,?_⟩
    .cases j with
     |zero=>simp at e1 e2;subst e1;subst e2;exact hp
     |succ j=>exact hf j x' y' (by simpa using e1) (by simpa using e2)
    .rw[Wh,Wh,Nat.succ_min_succ,WZ,Wm,WE,e];rfl
theorem Ay:∀(k:Nat) (w:Wd) (r:Bool),cy m k w w=some r->r=true
 |0,w,r,h=>by cases h
 |k+1,w,r,h=>by
  cases w with
  |non=>cases h;rfl
  |bl b=>cases h;simp
  |int i=>cases h;simp
  |str x=>cases h;simp
  |tup xs=>
   replace h:(cQ (cy m k) xs xs).map (· && decide (xs.length=xs.length))=some r:=h
   cases hr:cQ (cy m k) xs xs with
   |none=>rw[hr]at h;cases h
   |some r'=>
    rw[hr]at h;simp only[QJ,decide_true,Bool.and_true]at h;cases h;obtain⟨f,hf,rfl⟩:=qX hr;rw[QF];intro j hj;have hj':j<xs.length:=by simpa using hj
    exact Ay k xs[j] (f j) (hf j xs[j] xs[j] (by simp[hj']) (by simp[hj']))
  |rol xs=>cases h
  |ref l=>
   replace h:(if l=l then(if aW m l then some true else none)else match m[l]?,m[l]? with
    |some (.lst xs),some (.lst ys)=>if xs.length=ys.length then cQ (cy m k) xs ys else some false
    |_,_=>none)=some r:=h
   simp only[if_true]at h;split at h
   .cases h;rfl
   .cases h
structure JW(A:Lh)(s:Shared)(u u':Value)(r:Bool):Prop where
 it:EqAt A s u u' r
 eq:RcAt A s u u' r
 ne:RcNeAt A s u u' (! r)
def aS (S:aR X.K as m H)(I:Inv X pins σ H s)(h:aW m l=true)(R:ai X.K as H (.ref l) v)(ru:RelV v u):∃b its,u=.ref b/\s.heap.IsList b its:=by
 unfold aW at h;cases e:m[l]? with
 |none=>rw[e]at h;cases h
 |some o=>
  cases o with
  |lst xs=>
   obtain⟨b,hb,rfl⟩:=aM.mp R;obtain⟨a,vs,ha,ea,ra⟩:=yH S e;rw[hb]at ha;cases ha;obtain rfl:u=.ref b:=ru;obtain⟨its,_,p,_⟩:=I.list (bE.of ea);exact⟨b,_,rfl,p.isList⟩
def kq (I:Inv X pins σ H s)(R:ai X.K as H (.tup xs) v)(ru:RelV v u):∃b vs its,v=.ref b/\u=.ref b/\ae X.K as H xs vs/\aA vs its/\s.heap.IsTuple b its.toArray:=by
 obtain⟨b,vs,rfl,q,r⟩:=aj.mp R;obtain rfl:u=.ref b:=ru;obtain⟨its,rv,p,_⟩:=I.tuple q;exact⟨b,vs,its,rfl,rfl,r,rv,p⟩
set_option tactic.hygienic true in
theorem iY(I:Inv X pins σ H s)(S:aR X.K as m H):∀(k:Nat) (A:Lh) (w w':Wd) (v v':V) (u u':Value) (r:Bool),A.units+k<LP->cy m k w w'=some r ->
  ai X.K as H w v->ai X.K as H w' v'->RelV v u->RelV v' u'->JW A s u u' r
 |0,_,_,_,_,_,_,_,_,_,h,_,_,_,_=>by cases h
 |k+1,A,w,w',v,v',u,u',r,hu,h,R,R',ru,ru'=>by
  have hu0:A.units<LP:=by lia
  have hu1:A.in1.units+k<LP:=by show A.units+1+k<LP;lia
  -- items,pair by pair
  have pairs:∀{xs ys:List Wd}{vs us:List V}{its its':List Value}{r:Bool},ae X.K as H xs vs->ae X.K as H ys us->aA vs its->aA us its'->cQ (cy m k) xs ys=some r ->
    ∃f:Nat->Bool,(∀j (h1:j<its.toArray.size) (h2:j<its'.toArray.size),EqAt A.in1 s its.toArray[j] its'.toArray[j] (f j))/\r=(QI (min its.toArray.size its'.toArray.size)).all f/\its.toArray.size=xs.length/\its'.toArray.size=ys.length:=by
   intro xs ys vs us its its' r r1 r2 rv rv' he;obtain⟨f,hf,e⟩:=qX he;have l1:=r1.length;have l2:=r2.length;have l3:=rv.length;have l4:=rv'.length;have s1:its.toArray.size=xs.length:=by simp;lia
   have s2:its'.toArray.size=ys.length:=by simp;lia
   refine⟨f,λj h1 h2=>?_,by rw[e,s1,s2],s1,s2⟩;have hj:j<xs.length:=by lia
   have hj2:j<ys.length:=by lia
   obtain⟨v1,e1,q1⟩:=r1.get (i:=j) (x:=xs[j]) (by simp[hj]);obtain⟨v2,e2,q2⟩:=r2.get (i:=j) (x:=ys[j]) (by simp[hj2]);obtain⟨u1,e3,q3⟩:=rv.get e1;obtain⟨u2,e4,q4⟩:=rv'.get e2;have z:=iY I S k A.in1 xs[j] ys[j] v1 v2 u1 u2 (f j) hu1 (hf j _ _ (by simp[hj]) (by simp[hj2])) q1 q2 q3 q4;obtain⟨_,e5⟩:=Qa.mp e3;obtain⟨_,e6⟩:=Qa.mp e4;have g1:its.toArray[j]=u1:=by simpa using e5
   have g2:its'.toArray[j]=u2:=by simpa using e6
   rw[g1,g2];exact z.it
  cases w with
  |tup xs=>
   obtain⟨b,vs,its,rfl,rfl,r1,rv,p⟩:=kq I R ru;cases w' with
   |tup ys=>
    obtain⟨b',vs',its',rfl,rfl,r1',rv',p'⟩:=kq I R' ru';have rc:RcAt A s (.ref b) (.ref b') r/\RcNeAt A s (.ref b) (.ref b') (! r):=by
     replace h:(cQ (cy m k) xs ys).map (· && decide (xs.length=ys.length))=some r:=h
     cases hr:cQ (cy m k) xs ys with
     |none=>rw[hr]at h;cases h
     |some r'=>
      rw[hr]at h;simp only[QJ]at h;cases h;obtain⟨f,hf,e,z1,z2⟩:=pairs r1 r1' rv rv' hr;have e2:((QI (min its.toArray.size its'.toArray.size)).all f&&its.toArray.size==its'.toArray.size)=(r'&&decide (xs.length=ys.length)):=by
       rw[e,z1,z2];congr 1
      exact⟨e2▸RcAt.tuples p p' hu0 hf,e2▸RcNeAt.tuples p p' hu0 hf⟩
    refine⟨?_,rc.1,rc.2⟩;by_cases hb:b=b'
    .subst hb;have e:=kD I S _ _ _ R R';rw[<-e]at h;obtain rfl:=Ay _ _ _ h;exact EqAt.same _
    .exact EqAt.of_refs hb rc.1
   |ref l=>
    replace h:(if aW m l&&true then some false else none)=some r:=h
    split at h
    .rename_i hl;cases h;obtain⟨b',its',rfl,q⟩:=aS S I (QD.mp hl).1 R' ru';exact⟨EqAt.tuple_list p q hu0,RcAt.tuple_list p q hu0,RcNeAt.tuple_list p q hu0⟩
    .cases h
   |rol ys=>cases h
   |non=>
    cases h;obtain rfl:=am.mp R';obtain rfl:u'=.none:=ru';exact⟨EqAt.tuple_none p hu0,RcAt.tuple_none p hu0,RcNeAt.tuple_none p hu0⟩
   |bl c=>
    cases h;obtain rfl:=ah.mp R';obtain rfl:u'=.bool c:=ru';exact⟨EqAt.tuple_bool c p hu0,RcAt.tuple_bool c p hu0,RcNeAt.tuple_bool c p hu0⟩
   |int i=>
    cases h;obtain rfl:=aa.mp R';obtain⟨t,rfl⟩:=ru';exact⟨EqAt.tuple_int i t p hu0,RcAt.tuple_int i t p hu0,RcNeAt.tuple_int i t p hu0⟩
   |str x=>
    cases h;obtain rfl:=az.mp R';obtain⟨t,rfl⟩:=ru';exact⟨EqAt.tuple_str _ t p hu0,RcAt.tuple_str _ t p hu0,RcNeAt.tuple_str _ t p hu0⟩
  |ref l=>
   cases w' with
   |ref l'=>
    obtain⟨b,hb,rfl⟩:=aM.mp R;obtain⟨b',hb',rfl⟩:=aM.mp R';obtain rfl:u=.ref b:=ru;obtain rfl:u'=.ref b':=ru'
    replace h:(if l=l' then(if aW m l then some true else none)else match m[l]?,m[l']? with
     |some (.lst xs),some (.lst ys)=>if xs.length=ys.length then cQ (cy m k) xs ys else some false
     |_,_=>none)=some r:=h
    by_cases hll:l=l'
    .subst hll;rw[hb]at hb';cases hb';rw[MN rfl]at h;split at h
     .rename_i hil;cases h;obtain⟨c,its,ec,q⟩:=aS S I hil R (u:=.ref b) rfl;cases ec;have al:(QI its.size).all (λ_=>true)=true:=by simp
      have e1:=RcAt.lists (A:=A) (e:=λ_=>true) q q rfl hu0 (λj h1 h2=>EqAt.same _);have e2:=RcNeAt.lists (A:=A) (e:=λ_=>true) q q rfl hu0 (λj h1 h2=>EqAt.same _);rw[al]at e1 e2;exact⟨EqAt.same _,e1,e2⟩
     .cases h
    .rw[MO hll]at h;have hbb:b≠b':=by
      rintro rfl;obtain⟨i1,e1⟩:=Qa.mp hb;obtain⟨i2,e2⟩:=Qa.mp hb';exact hll ((WY S.nd).mp (e1.trans e2.symm))
     split at h
     .rename_i xs ys m1 m2;obtain⟨a1,vs,h1,g1,r1⟩:=yH S m1;rw[hb]at h1;cases h1;obtain⟨a2,us,h2,g2,r2⟩:=yH S m2;rw[hb']at h2;cases h2;obtain⟨its,rv,p,_⟩:=I.list (bE.of g1);obtain⟨its',rv',p',_⟩:=I.list (bE.of g2);split at h
      .rename_i hl;obtain⟨f,hf,e,z1,z2⟩:=pairs r1 r2 rv rv' h;have hsz:its.toArray.size=its'.toArray.size:=by rw[z1,z2,hl]
       rw[<-hsz,Nat.min_self]at e;have e1:=RcAt.lists p.isList p'.isList hsz hu0 hf;have e2:=RcNeAt.lists p.isList p'.isList hsz hu0 hf;rw[<-e]at e1 e2;exact⟨EqAt.of_refs hbb e1,e1,e2⟩
      .rename_i hl;cases h;have l1:=r1.length;have l2:=r2.length;have l3:=rv.length;have l4:=rv'.length;have hsz:(its.toArray.size != its'.toArray.size)=true:=by
        simp;lia
       have e1:=RcAt.lists_lengths (A:=A) p.isList p'.isList hsz hu0;exact⟨EqAt.of_refs hbb e1,e1,RcNeAt.lists_lengths p.isList p'.isList hsz hu0⟩
     .cases h
   |tup ys=>
    replace h:(if aW m l&&true then some false else none)=some r:=h
    split at h
    .rename_i hl;cases h;obtain⟨b,its,rfl,q⟩:=aS S I (QD.mp hl).1 R ru;obtain⟨b',vs',its',rfl,rfl,r1',rv',p'⟩:=kq I R' ru';exact⟨EqAt.list_tuple q p' hu0,RcAt.list_tuple q p' hu0,RcNeAt.list_tuple q p' hu0⟩
    .cases h
   |rol ys=>
    replace h:(if aW m l&&false then some false else none)=some r:=h
    simp only[WT,QR,if_false]at h;cases h
   |non=>
    replace h:(if aW m l&&true then some false else none)=some r:=h
    split at h
    .rename_i hl;cases h;obtain⟨b,its,rfl,q⟩:=aS S I (QD.mp hl).1 R ru;obtain rfl:=am.mp R';obtain rfl:u'=.none:=ru';exact⟨EqAt.list_none q hu0,RcAt.list_none q hu0,RcNeAt.list_none q hu0⟩
    .cases h
   |bl c=>
    replace h:(if aW m l&&true then some false else none)=some r:=h
    split at h
    .rename_i hl;cases h;obtain⟨b,its,rfl,q⟩:=aS S I (QD.mp hl).1 R ru;obtain rfl:=ah.mp R';obtain rfl:u'=.bool c:=ru';exact⟨EqAt.list_bool c q hu0,RcAt.list_bool c q hu0,RcNeAt.list_bool c q hu0⟩
    .cases h
   |int i=>
    replace h:(if aW m l&&true then some false else none)=some r:=h
    split at h
    .rename_i hl;cases h;obtain⟨b,its,rfl,q⟩:=aS S I (QD.mp hl).1 R ru;obtain rfl:=aa.mp R';obtain⟨t,rfl⟩:=ru';exact⟨EqAt.list_int i t q hu0,RcAt.list_int i t q hu0,RcNeAt.list_int i t q hu0⟩
    .cases h
   |str x=>
    replace h:(if aW m l&&true then some false else none)=some r:=h
    split at h
    .rename_i hl;cases h;obtain⟨b,its,rfl,q⟩:=aS S I (QD.mp hl).1 R ru;obtain rfl:=az.mp R';obtain⟨t,rfl⟩:=ru';exact⟨EqAt.list_str _ t q hu0,RcAt.list_str _ t q hu0,RcNeAt.list_str _ t q hu0⟩
    .cases h
  |rol xs=>
   cases w'<;>first|cases h|(replace h:(if aW m _&&false then some false else none)=some r:=h;simp at h)
  |non=>
   obtain rfl:=am.mp R;obtain rfl:u=.none:=ru;cases w' with
   |rol ys=>cases h
   |ref l=>
    replace h:(if aW m l&&true then some false else none)=some r:=h
    split at h
    .rename_i hl;cases h;obtain⟨b,its,rfl,q⟩:=aS S I (QD.mp hl).1 R' ru';exact⟨EqAt.none_list q hu0,RcAt.none_list q hu0,RcNeAt.none_list q hu0⟩
    .cases h
   |tup ys=>
    cases h;obtain⟨b',vs',its',rfl,rfl,r1',rv',p'⟩:=kq I R' ru';exact⟨EqAt.none_tuple p' hu0,RcAt.none_tuple p' hu0,RcNeAt.none_tuple p' hu0⟩
   |non=>
    cases h;obtain rfl:=am.mp R';obtain rfl:u'=.none:=ru';exact⟨EqAt.same _,RcAt.none_none,RcNeAt.none_none⟩
   |bl c=>
    cases h;obtain rfl:=ah.mp R';obtain rfl:u'=.bool c:=ru';exact⟨EqAt.none_bool c,RcAt.none_bool c,RcNeAt.none_bool c⟩
   |int i=>
    cases h;obtain rfl:=aa.mp R';obtain⟨t,rfl⟩:=ru';exact⟨EqAt.none_int i t,RcAt.none_int i t,RcNeAt.none_int i t⟩
   |str x=>
    cases h;obtain rfl:=az.mp R';obtain⟨t,rfl⟩:=ru';exact⟨EqAt.none_str _ t,RcAt.none_str _ t,RcNeAt.none_str _ t⟩
  |bl c=>
   obtain rfl:=ah.mp R;obtain rfl:u=.bool c:=ru;cases w' with
   |rol ys=>cases h
   |ref l=>
    replace h:(if aW m l&&true then some false else none)=some r:=h
    split at h
    .rename_i hl;cases h;obtain⟨b,its,rfl,q⟩:=aS S I (QD.mp hl).1 R' ru';exact⟨EqAt.bool_list c q hu0,RcAt.bool_list c q hu0,RcNeAt.bool_list c q hu0⟩
    .cases h
   |tup ys=>
    cases h;obtain⟨b',vs',its',rfl,rfl,r1',rv',p'⟩:=kq I R' ru';exact⟨EqAt.bool_tuple c p' hu0,RcAt.bool_tuple c p' hu0,RcNeAt.bool_tuple c p' hu0⟩
   |non=>
    cases h;obtain rfl:=am.mp R';obtain rfl:u'=.none:=ru';exact⟨EqAt.bool_none c,RcAt.bool_none c,RcNeAt.bool_none c⟩
   |bl d=>
    cases h;obtain rfl:=ah.mp R';obtain rfl:u'=.bool d:=ru';exact⟨EqAt.bool_bool c d,RcAt.bool_bool c d,RcNeAt.bool_bool c d⟩
   |int i=>
    cases h;obtain rfl:=aa.mp R';obtain⟨t,rfl⟩:=ru';have e:decide (b2i c=i)=((if c then(1:Int)else 0)==i):=by
     show decide ((if c then(1:Int)else 0)=i)=_;rw[W6]
    rw[e];exact⟨EqAt.bool_int c i t,RcAt.bool_int c i t,RcNeAt.bool_int c i t⟩
   |str x=>
    cases h;obtain rfl:=az.mp R';obtain⟨t,rfl⟩:=ru';exact⟨EqAt.bool_str c _ t,RcAt.bool_str c _ t,RcNeAt.bool_str c _ t⟩
  |int i=>
   obtain rfl:=aa.mp R;obtain⟨t,rfl⟩:=ru;cases w' with
   |rol ys=>cases h
   |ref l=>
    replace h:(if aW m l&&true then some false else none)=some r:=h
    split at h
    .rename_i hl;cases h;obtain⟨b,its,rfl,q⟩:=aS S I (QD.mp hl).1 R' ru';exact⟨EqAt.int_list i t q hu0,RcAt.int_list i t q hu0,RcNeAt.int_list i t q hu0⟩
    .cases h
   |tup ys=>
    cases h;obtain⟨b',vs',its',rfl,rfl,r1',rv',p'⟩:=kq I R' ru';exact⟨EqAt.int_tuple i t p' hu0,RcAt.int_tuple i t p' hu0,RcNeAt.int_tuple i t p' hu0⟩
   |non=>
    cases h;obtain rfl:=am.mp R';obtain rfl:u'=.none:=ru';exact⟨EqAt.int_none i t,RcAt.int_none i t,RcNeAt.int_none i t⟩
   |bl d=>
    cases h;obtain rfl:=ah.mp R';obtain rfl:u'=.bool d:=ru';have e:decide (i=b2i d)=(i==(if d then(1:Int)else 0)):=by
     show decide (i=(if d then(1:Int)else 0))=_;rw[W6]
    rw[e];exact⟨EqAt.int_bool i t d,RcAt.int_bool i t d,RcNeAt.int_bool i t d⟩
   |int j=>
    cases h;obtain rfl:=aa.mp R';obtain⟨t',rfl⟩:=ru';have e:decide (i=j)=(i==j):=by rw[W6]
    rw[e];exact⟨EqAt.int_int i t j t',RcAt.int_int i t j t',RcNeAt.int_int i t j t'⟩
   |str x=>
    cases h;obtain rfl:=az.mp R';obtain⟨t',rfl⟩:=ru';exact⟨EqAt.int_str i t _ t',RcAt.int_str i t _ t',RcNeAt.int_str i t _ t'⟩
  |str x=>
   obtain rfl:=az.mp R;obtain⟨t,rfl⟩:=ru;cases w' with
   |rol ys=>cases h
   |ref l=>
    replace h:(if aW m l&&true then some false else none)=some r:=h
    split at h
    .rename_i hl;cases h;obtain⟨b,its,rfl,q⟩:=aS S I (QD.mp hl).1 R' ru';exact⟨EqAt.str_list _ t q hu0,RcAt.str_list _ t q hu0,RcNeAt.str_list _ t q hu0⟩
    .cases h
   |tup ys=>
    cases h;obtain⟨b',vs',its',rfl,rfl,r1',rv',p'⟩:=kq I R' ru';exact⟨EqAt.str_tuple _ t p' hu0,RcAt.str_tuple _ t p' hu0,RcNeAt.str_tuple _ t p' hu0⟩
   |non=>
    cases h;obtain rfl:=am.mp R';obtain rfl:u'=.none:=ru';exact⟨EqAt.str_none _ t,RcAt.str_none _ t,RcNeAt.str_none _ t⟩
   |bl d=>
    cases h;obtain rfl:=ah.mp R';obtain rfl:u'=.bool d:=ru';exact⟨EqAt.str_bool _ t d,RcAt.str_bool _ t d,RcNeAt.str_bool _ t d⟩
   |int j=>
    cases h;obtain rfl:=aa.mp R';obtain⟨t',rfl⟩:=ru';exact⟨EqAt.str_int _ t j t',RcAt.str_int _ t j t',RcNeAt.str_int _ t j t'⟩
   |str y=>
    cases h;obtain rfl:=az.mp R';obtain⟨t',rfl⟩:=ru';have e:decide (x=y)=((⟨x.toArray⟩:Str) == ⟨y.toArray⟩):=by
     by_cases hxy:x=y
     .subst hxy;simp
     .have:¬(⟨x.toArray⟩:Str)=⟨y.toArray⟩:=λz=>by
       injection z with z
       exact hxy (by simpa using MQ Vd z)
      rw[MR hxy];exact(beq_eq_false_iff_ne.mpr this).symm
    rw[e];exact⟨EqAt.str_str _ t _ t',RcAt.str_str _ t _ t',RcNeAt.str_str _ t _ t'⟩
end
end Mini
namespace L2
open PySem PySem.Spec PyProof.Rows PySem.SeqAt
end L2
namespace Mini
open PySem PySem.Spec PyProof.Rows L2
end Mini
namespace Mini
open PySem PySem.Spec PyProof.Rows L2
open PySem.SeqAt
noncomputable def cK:Co->LK
 |.eq=>.Eq |.ne=>.NotEq |.lt=>.Lt |.le=>.LtE |.gt=>.Gt |.ge=>.GtE |.isN=>.Is |.notN=>.IsNot |.isin=>.In 
noncomputable def rC(K:Qb)(op:Co):R2:=λx y H Q=>∃as m w w',aR K as m H/\ai K as H w x/\ai K as H w' y/\ay K as H Q (cop op w w' m)
section
variable{X:Cx}
def qY {K:Qb}(S:aR K as m H)(h:ay K as H Q (dO o m)):∃b,o=some b/\Q (.bl b) H:=by
 cases o with
 |none=>exact h.elim
 |some b=>exact⟨b,rfl,h.ok S (ah.mpr rfl)⟩
theorem uE:∀{ys:List Wd}{r:Bool},eK p x ys=some r ->
  ∃f:Wd->Bool,(∀y∈ys,p y x=some (f y))/\r=ys.any f
 |[],r,h=>by cases h;exact⟨λ_=>false,λy hy=>by simp at hy,rfl⟩
 |y::ys,r,h=>by
  unfold eK at h;cases hp:p y x with
  |none=>rw[hp]at h;cases h
  |some b=>
   rw[hp]at h;simp only[]at h;cases hr:eK p x ys with
   |none=>rw[hr]at h;cases h
   |some r'=>
    rw[hr]at h;cases h;obtain⟨f,hf,rfl⟩:=uE hr
    classical
    refine⟨λz=>(p z x).getD false,λz hz=>?_,?_⟩
    .rcases Qr.mp hz with rfl|hz
     .simp only[hp,WW]
     .simp only[hf z hz,WW]
    .rw[List.any_cons,hp];congr 1;refine Vp.mpr ?_;rw[WH,WH];constructor
     .rintro ⟨z,hz,e⟩;exact⟨z,hz,by rw[hf z hz];exact e⟩
     .rintro ⟨z,hz,e⟩;rw[hf z hz]at e;exact⟨z,hz,e⟩
def Ax (I:Inv X pins σ H s)(S:aR X.K as m H)(hu:A.units+yT<LP)(R:ai X.K as H w v)(ru:RelV v u)(ry:ae X.K as H ys vs)(rv:aA vs its)(h:eK (cy m yT) w ys=some r):
  ∃e:Value->Bool,(∀y,y∈its.toArray->EqAt A s y u (e y))/\its.toArray.any e=r:=by
 obtain⟨f,hf,rfl⟩:=uE h
 classical
 -- the plain value of an item
 have pick:∀y,y∈its->∃z,z∈ys/\∃vz,ai X.K as H z vz/\RelV vz y:=λy hy=>by
  obtain⟨j,hj,rfl⟩:=W7.mp hy;have l1:=ry.length;have l2:=rv.length;have hj1:j<vs.length:=by lia
  obtain⟨u1,e1,q1⟩:=rv.get (i:=j) (x:=vs[j]) (by simp[hj1]);obtain⟨z,e2,q2⟩:=ry.back (i:=j) (v:=vs[j]) (by simp[hj1]);obtain⟨_,e3⟩:=Qa.mp e1;exact⟨z,QC e2,vs[j],q2,by rw[e3];exact q1⟩
 let e:Value->Bool:=λy=>if hy:y∈its then f (Classical.choose (pick y hy))else false
 have he:∀y (hy:y∈its) z vz,z∈ys->ai X.K as H z vz->RelV vz y->e y=f z:=λy hy z vz hz hr hq=>by
  obtain⟨h1,vz',h2,h3⟩:=Classical.choose_spec (pick y hy);have:e y=f (Classical.choose (pick y hy)):=dif_pos hy;rw[this];have hv:vz'=vz:=h3.inj hq;subst hv;rw[kD I S _ _ _ h2 hr]
 refine⟨e,λy hy=>?_,?_⟩
 .have hy':y∈its:=by simpa using hy
  obtain⟨z,hz,vz,q1,q2⟩:=pick y hy';rw[he y hy' z vz hz q1 q2];exact(iY I S yT A z w vz v y u (f z) hu (hf z hz) q1 R q2 ru).it
 .refine Vp.mpr ?_;rw[List.any_toArray,WH,WH];constructor
  .rintro ⟨y,hy,ey⟩;obtain⟨z,hz,vz,q1,q2⟩:=pick y hy;rw[he y hy z vz hz q1 q2]at ey;exact⟨z,hz,ey⟩
  .rintro ⟨z,hz,ez⟩;obtain⟨j,hj,rfl⟩:=W7.mp hz;obtain⟨v1,e1,q1⟩:=ry.get (i:=j) (x:=ys[j]) (by simp[hj]);obtain⟨u1,e2,q2⟩:=rv.get e1;have hy:u1∈its:=QC e2;exact⟨u1,hy,by rw[he u1 hy ys[j] v1 (QE hj) q1 q2];exact ez⟩
set_option tactic.hygienic true in
def qm(hu:X.A.units+64<LP)(op:Co):bS X (LJ (cK op)) (rC X.K op):=by
 intro pins s σ H x y v u Q I rx ry h;obtain⟨as,m,w,w',S,R,R',q⟩:=h;have hd:yT=12:=rfl;have fin:∀{b:Bool},Q (.bl b) H->EP X pins σ Q (.bool b) s:=λ{b} q=>⟨.bl b,H,I,rfl,q⟩;have cmpI:∀{r:Int->Int->Bool},ay X.K as H Q (gf r w w' m)->∃i j,x=.int i/\y=.int j/\Q (.bl (r i j)) H:=λ{r} q=>by
  unfold gf at q;cases w with
  |int i=>
   cases w' with
   |int j=>exact⟨i,j,aa.mp R,aa.mp R',q.ok S (ah.mpr rfl)⟩
   |_=>exact q.elim
  |_=>exact q.elim
 cases op with
 |eq=>
  obtain⟨b,hb,q⟩:=qY S q;exact(iY I S yT X.A w w' x y v u b (by lia) hb R R' rx ry).eq X.prog X.w X.xe _ (fin q)
 |ne=>
  obtain⟨b,hb,q⟩:=qY S q;obtain⟨c,hc,rfl⟩:=QX.mp hb;exact(iY I S yT X.A w w' x y v u c (by lia) hc R R' rx ry).ne X.prog X.w X.xe _ (fin q)
 |isin=>
  simp only[cop]at q;split at q
  .rename_i ys hs;obtain⟨b,hb,q⟩:=qY S q;obtain⟨p,vs,rfl,hq,r⟩:=gj S R' hs;obtain rfl:u=.ref p:=ry;rcases hq with hq|hq
   .obtain ⟨its,rv,pl,_⟩:=I.list hq;obtain⟨e,he,rfl⟩:=Ax (A:=X.A.in1) I S (by show X.A.units+1+yT<LP;lia) R rx r rv hb;exact in_listAt e pl.isList he (fin q)
   .obtain ⟨its,rv,pl,_⟩:=I.tuple hq;obtain⟨e,he,rfl⟩:=Ax (A:=X.A.in1) I S (by show X.A.units+1+yT<LP;lia) R rx r rv hb;exact in_tupleAt e (show s.heap.IsTuple p its.toArray from pl) he (fin q)
  .exact q.elim
 |isN=>
  refine DB pins s σ H x y v u Q I rx ry ?_;simp only[cop]at q;split at q
  .exact ⟨am.mp R',by rw[am.mp R];exact q.ok S (ah.mpr rfl)⟩
  .rename_i hne;refine⟨am.mp R',?_⟩;have:x≠.non:=λz=>by
    subst z;exact hne (kD I S _ _ _ R (am.mpr rfl))
   rw[MR this];exact q.ok S (ah.mpr rfl)
  .exact q.elim
 |notN=>
  refine E8 pins s σ H x y v u Q I rx ry ?_;simp only[cop]at q;split at q
  .exact ⟨am.mp R',by rw[am.mp R];exact q.ok S (ah.mpr rfl)⟩
  .rename_i hne;refine⟨am.mp R',?_⟩;have:x≠.non:=λz=>by
    subst z;exact hne (kD I S _ _ _ R (am.mpr rfl))
   rw[MR this];exact q.ok S (ah.mpr rfl)
  .exact q.elim
 |lt=>exact Ds pins s σ H x y v u Q I rx ry (cmpI q)
 |le=>exact Dr pins s σ H x y v u Q I rx ry (cmpI q)
 |gt=>exact Dq pins s σ H x y v u Q I rx ry (cmpI (r:=λi j=>decide (j<i)) q)
 |ge=>exact Dp pins s σ H x y v u Q I rx ry (cmpI (r:=λi j=>decide (j<=i)) q)
end
end Mini
namespace L2
open PySem PySem.Spec PyProof.Rows
section
variable{X:Cx}
noncomputable def oX:V->List V->Hp->VK->Prop:=λx vs H Q=>∃l xs y,x=.ref l/\vs=[.int 0,y]/\H l=some (.lst xs)/\xs.length<sizeLine/\Q .non (aJ H l (.lst (y::xs)))
def D9:iJ X "list.insert" oX:=by
 intro pins s σ H x vs v us Q I rx rv h;obtain⟨l,xs,y,rfl,rfl,hH,hz,q⟩:=h;cases rx;obtain⟨u0,u,rfl,ru0,ru⟩:∃u0 u,us=[u0,u]/\RelV (.int 0) u0/\RelV y u:=by
  cases rv with
  |cons a r=>
   cases r with
   |cons b r=>cases r;exact⟨_,_,rfl,a,b⟩
 obtain⟨t,rfl⟩:=ru0;obtain⟨z,its,n,r,hl,e⟩:=I.lstM hH;refine Mn F.slot_list_insert ⟨_,e,rfl⟩ F.entry_list_insert (F.args_list_insert_3 _ _ _) (AutoListH.list_insert_list_int_val_1 l its.toArray n 0 t u (by decide) (by rw[Qm];lia)) ⟨e,?_⟩;refine⟨.non,_,I.lset (its':=u::its) hH e ?_ (.cons ru r) ?_,rfl,q⟩
 .simp
 .rw[Wh];lia
end
section
variable{O:KeyOrd}{key:Mx->O.α}
noncomputable def Le(O:KeyOrd)(key:Mx->O.α)(x y:Mx):Prop:=O.kle (key x) (key y)
def Le.trans{x y z:Mx}(h1:Le O key x y)(h2:Le O key y z):Le O key x z:=KeyOrd.kle_trans h1 h2
variable{X Y L:List Mx}{ia ib:Nat}
end
section
variable{O:KeyOrd}{key:Mx->O.α}
variable{X Y L:List Mx}{na nb:Nat}
end
end L2
namespace Mini
open PySem PySem.Spec PyProof.Rows L2
section
variable{K:Qb}{as:List Addr}{H H':Hp}{m m':Me}{Q:VK}{X:Cx}
noncomputable def mI:eg->Option (Str×Value)
 |.len=>some ("len",.builtin "len")
 |.int=>some ("int",.type "int")
 |.list=>some ("list",.type "list")
 |.tuple=>some ("tuple",.type "tuple")
 |.abs=>some ("abs",.builtin "abs")
 |.max2=>some ("max",.builtin "max")
 |.sum=>some ("sum",.builtin "sum")
 |.all=>some ("all",.builtin "all")
noncomputable def AL(K:Qb)(b:eg):List V->Hp->VK->Prop:=λvs H Q=>∃as m ws,aR K as m H/\ae K as H ws vs/\ay K as H Q (gY b ws m)
def we (h:ae K as H [x] vs):∃v,vs=[v]/\ai K as H x v:=by
 obtain⟨v,r,rfl,q,t⟩:=aw.mp h;obtain rfl:=aB.mp t;exact⟨v,rfl,q⟩
def qZ (h:ae K as H [x,y] vs):∃v u,vs=[v,u]/\ai K as H x v/\ai K as H y u:=by
 obtain⟨v,r,rfl,q,t⟩:=aw.mp h;obtain⟨u,rfl,q'⟩:=we t;exact⟨v,u,rfl,q,q'⟩
def sI (S:aR K as m H)(R:ai K as H w v)(h:fe m w=some xs):∃p vs,v=.ref p/\bE K H p vs/\ae K as H xs vs:=by
 cases w with
 |rol ys=>
  cases h;obtain⟨a,vs,rfl,hq,rr⟩:=bi.mp R;exact⟨a,vs,rfl,hq.sq,rr⟩
 |ref l=>
  obtain⟨b,hb,rfl⟩:=aM.mp R;obtain⟨a,vs,ha,e,r⟩:=yH S (yD h);rw[hb]at ha;cases ha;exact⟨b,vs,rfl,bE.of e,r⟩
 |_=>cases h
theorem uD:∀{xs:List Wd}{vs:List V}{i:Int},ae K as H xs vs->fq xs=some i->∃ns:List Int,vs=ns.map V.int/\ns.sum=i
 |[],vs,i,R,h=>by cases h;exact⟨[],aB.mp R,rfl⟩
 |x::xs,vs,i,R,h=>by
  obtain⟨v,r,rfl,q,t⟩:=aw.mp R;cases x with
  |int j=>
   simp only[fq,QX]at h;obtain⟨k,hk,rfl⟩:=h;obtain⟨ns,rfl,rfl⟩:=uD t hk;obtain rfl:=aa.mp q;exact⟨j::ns,rfl,by simp⟩
  |_=>cases h
theorem uC:∀{xs:List Wd}{vs:List V}{i:Bool},ae K as H xs vs->fo xs=some i->∃bs:List Bool,vs=bs.map V.bl/\bs.all id=i
 |[],vs,i,R,h=>by cases h;exact⟨[],aB.mp R,rfl⟩
 |x::xs,vs,i,R,h=>by
  obtain⟨v,r,rfl,q,t⟩:=aw.mp R;cases x with
  |bl j=>
   simp only[fo,QX]at h;obtain⟨k,hk,rfl⟩:=h;obtain⟨ns,rfl,rfl⟩:=uC t hk;obtain rfl:=ah.mp q;exact⟨j::ns,rfl,by simp⟩
  |_=>cases h
def nY{o:Option (List Wd)}{f:(List Wd)->Rz}(h:ay K as H Q (match o with|some a=>f a|none=>.no)):∃a,o=some a/\ay K as H Q (f a):=by
 cases o with
 |none=>exact h.elim
 |some a=>exact⟨a,rfl,h⟩
def FA{o:Option Int}{f:Int->Rz}(h:ay K as H Q (match o with|some a=>f a|none=>.no)):∃a,o=some a/\ay K as H Q (f a):=by
 cases o with
 |none=>exact h.elim
 |some a=>exact⟨a,rfl,h⟩
def Fz{o:Option Bool}{f:Bool->Rz}(h:ay K as H Q (match o with|some a=>f a|none=>.no)):∃a,o=some a/\ay K as H Q (f a):=by
 cases o with
 |none=>exact h.elim
 |some a=>exact⟨a,rfl,h⟩
set_option tactic.hygienic true in
def G7 (hu:X.A.units+64<LP)(hc:X.calm=true)(hb:mI b=some (nm,f)):aU X f (AL X.K b):=by
 intro pins s σ H xs us Q I r h;obtain⟨as,m,ws,S,R,q⟩:=h;cases b with
 |len=>
  cases hb;refine qT pins s σ H xs us Q I r ?_;rcases ws with _|⟨x,_|⟨_,_⟩⟩
  .exact q.elim
  .obtain ⟨ys,hs,q⟩:=nY (o:=yF m x) (f:=λys=>.ok (.int ys.length) m) q;obtain⟨v,rfl,q1⟩:=we R;obtain⟨p,vs,rfl,hq,rr⟩:=gj S q1 hs;refine⟨p,vs,rfl,hq,?_⟩;rw[<-rr.length];exact q.ok S (aa.mpr rfl)
  .exact q.elim
 |int=>
  cases hb;refine Ip pins s σ H xs us Q I r ?_;cases ws with
  |nil=>exact q.elim
  |cons x ws=>
   cases x with
   |int i=>
    cases ws with
    |nil=>
     obtain⟨v,rfl,q1⟩:=we R;obtain rfl:=aa.mp q1;exact .inl ⟨i,rfl,q.ok S (aa.mpr rfl)⟩
    |cons _ _=>exact q.elim
   |bl i=>
    cases ws with
    |nil=>
     obtain⟨v,rfl,q1⟩:=we R;obtain rfl:=ah.mp q1;exact .inr ⟨i,rfl,q.ok S (aa.mpr rfl)⟩
    |cons _ _=>exact q.elim
   |_=>exact q.elim
 |list=>
  cases hb;refine qU pins s σ H xs us Q I r ?_;rcases ws with _|⟨x,_|⟨_,_⟩⟩
  .exact q.elim
  .obtain ⟨ys,hs,q⟩:=nY (o:=yF m x) (f:=λys=>alloc m ys) q;obtain⟨v,rfl,q1⟩:=we R;obtain⟨p,vs,rfl,hq,rr⟩:=gj S q1 hs;exact⟨p,vs,rfl,hq,(wR S rr q).2⟩
  .exact q.elim
 |tuple=>
  cases hb;refine gU pins s σ H xs us Q I r ?_;rcases ws with _|⟨x,_|⟨_,_⟩⟩
  .exact q.elim
  .obtain ⟨ys,hs,q⟩:=nY (o:=yF m x) (f:=λys=>.ok (.tup ys) m) q;obtain⟨v,rfl,q1⟩:=we R;obtain⟨p,vs,rfl,hq,rr⟩:=gj S q1 hs;refine⟨p,vs,rfl,?_⟩;rcases hq with hq|hq
   .refine .inl ⟨hq,λl hl=>?_⟩;obtain⟨T,S',R'⟩:=S.tup hl rr;exact q _ _ _ T S' R'
   .exact .inr ⟨hq,q.ok S (aj.mpr ⟨p,vs,rfl,hq,rr⟩)⟩
  .exact q.elim
 |abs=>
  cases hb;refine GQ pins s σ H xs us Q I r ?_;cases ws with
  |nil=>exact q.elim
  |cons x ws=>
   cases x with
   |int i=>
    cases ws with
    |nil=>
     obtain⟨v,rfl,q1⟩:=we R;obtain rfl:=aa.mp q1;exact⟨i,rfl,q.ok S (aa.mpr rfl)⟩
    |cons _ _=>exact q.elim
   |_=>exact q.elim
 |sum=>
  cases hb;refine Jf hc pins s σ H xs us Q I r ?_;rcases ws with _|⟨x,_|⟨_,_⟩⟩
  .exact q.elim
  .obtain ⟨i,hs,q⟩:=FA (o:=(fe m x).bind fq) (f:=λi=>.ok (.int i) m) q;obtain⟨ys,h1,h2⟩:=QS.mp hs;obtain⟨v,rfl,q1⟩:=we R;obtain⟨p,vs,rfl,hq,rr⟩:=sI S q1 h1;obtain⟨ns,rfl,rfl⟩:=uD rr h2;exact⟨p,ns,rfl,hq,q.ok S (aa.mpr rfl)⟩
  .exact q.elim
 |all=>
  cases hb;refine Jg hc pins s σ H xs us Q I r ?_;rcases ws with _|⟨x,_|⟨_,_⟩⟩
  .exact q.elim
  .obtain ⟨i,hs,q⟩:=Fz (o:=(fe m x).bind fo) (f:=λi=>.ok (.bl i) m) q;obtain⟨ys,h1,h2⟩:=QS.mp hs;obtain⟨v,rfl,q1⟩:=we R;obtain⟨p,vs,rfl,hq,rr⟩:=sI S q1 h1;obtain⟨ns,rfl,rfl⟩:=uC rr h2;exact⟨p,ns,rfl,hq,q.ok S (ah.mpr rfl)⟩
  .exact q.elim
 |max2=>
  cases hb;refine Iq hc pins s σ H xs us Q I r ?_;cases ws with
  |nil=>exact q.elim
  |cons x ws=>
   cases x with
   |int i=>
    cases ws with
    |nil=>exact q.elim
    |cons y ws=>
     cases y with
     |int j=>
      cases ws with
      |nil=>
       obtain⟨v,u,rfl,q1,q2⟩:=qZ R;obtain rfl:=aa.mp q1;obtain rfl:=aa.mp q2;exact⟨i,j,rfl,q.ok S (aa.mpr rfl)⟩
      |cons _ _=>exact q.elim
     |_=>exact q.elim
   |_=>exact q.elim
set_option tactic.hygienic true in
def D8 (S:aR K as m H)(R:ai K as H x v)(R':ai K as H y u)(h:ay K as H Q (vZ x y m)):AK K v u H Q:=by
 unfold vZ at h;split at h
 .rename_i i;obtain rfl:=aa.mp R';split at h
  .rename_i xs hs;split at h
   .rename_i w hw;obtain⟨p,vs,rfl,hq,rr⟩:=gj S R hs;have e:∃z,fE vs i=some z/\ai K as H w z:=by
     obtain⟨j,hj,hx⟩:=QS.mp hw;obtain⟨z,hz,rz⟩:=rr.get hx;refine⟨z,?_,rz⟩;unfold fE;have hj':fP vs.length i=some j:=by rw[<-rr.length];exact hj
     rw[hj'];exact hz
    obtain⟨z,hz,rz⟩:=e;rcases hq with hq|hq
    .exact .inl ⟨p,vs,i,z,rfl,rfl,hq,hz,h.ok S rz⟩
    .exact .inr (.inl ⟨p,vs,i,z,rfl,rfl,hq,hz,h.ok S rz⟩)
   .exact h.elim
  .exact h.elim
 .exact h.elim
set_option tactic.hygienic true in
def D7 {Q:Hp->Prop}(S:aR K as m H)(R:ai K as H o vo)(R':ai K as H i vi)(R2:ai K as H w v)(h:∀m',km o i w m=.ok .non m'->∀H',Step as H as H'->aR K as m' H'->Q H')(hne:∃m',km o i w m=.ok .non m'):mQ vo vi v H Q:=by
 obtain⟨m',hm'⟩:=hne;have h:=h m' hm';unfold km at hm';split at hm'
 .rename_i l k;split at hm'
  .rename_i xs hl;split at hm'
   .rename_i j hj;cases hm';obtain⟨a,ha,rfl⟩:=aM.mp R;obtain rfl:=aa.mp R';obtain⟨b,vs,hb,e,rr⟩:=yH S hl;rw[ha]at hb;cases hb;obtain⟨T,S'⟩:=S.set ha hl (rr.set j R2);refine⟨a,vs,k,j,rfl,rfl,e,?_,h _ T S'⟩;rw[<-rr.length];exact hj
   .cases hm'
  .cases hm'
 .cases hm'
noncomputable def fi:dH->Str×String
 |.append=>("append","list.append") |.pop=>("pop","list.pop") |.reverse=>("reverse","list.reverse") |.clear=>("clear","list.clear") |.insert=>("insert","list.insert")
noncomputable def Jq(K:Qb)(n:dH):V->List V->Hp->VK->Prop:=λv vs H Q=>∃as m w ws,aR K as m H/\ai K as H w v/\ae K as H ws vs/\ay K as H Q (cj n w ws m)
set_option tactic.hygienic true in
def uc(n:dH):rM X (fi n).2 (Jq X.K n):=by
 intro pins s σ H v vs u us Q I r rs h;obtain⟨as,m,w,ws,S,R,Rs,q⟩:=h;unfold cj at q;split at q
 .rename_i l;split at q
  .rename_i xs hl;obtain⟨a,ha,rfl⟩:=aM.mp R;obtain⟨b,zs,hb,e,rr⟩:=yH S hl;rw[ha]at hb;cases hb;have hz:zs.length<=sizeLine:=(I.lstM e).1;split at q
   .rename_i y;split at q
    .rename_i hlt;obtain⟨z,rfl,rz⟩:=we Rs;obtain⟨T,S'⟩:=S.set ha hl (rr.append (.one rz));exact qj pins s σ H _ _ u us Q I r rs ⟨a,zs,z,rfl,rfl,e,by rw[<-rr.length];exact Qh hlt xl,q _ _ _ T S' (am.mpr rfl)⟩
    .exact q.elim
   .split at q
    .rename_i y hy;obtain rfl:=aB.mp Rs;obtain⟨z,hz',rz⟩:=rr.get hy;obtain⟨T,S'⟩:=S.set ha hl rr.dropLast;exact Ee pins s σ H _ _ u us Q I r rs ⟨a,zs,z,rfl,rfl,e,by rw[<-rr.length];exact hz',q _ _ _ T S' (rz.mono S T)⟩
    .exact q.elim
   .obtain rfl:=aB.mp Rs;obtain⟨T,S'⟩:=S.set ha hl rr.reverse;exact IV pins s σ H _ _ u us Q I r rs ⟨a,zs,rfl,rfl,e,q _ _ _ T S' (am.mpr rfl)⟩
   .rename_i k0;split at q
    .rename_i hk0;subst hk0;split at q
     .rename_i y0 r0;obtain⟨z,rfl,rz⟩:=we Rs;obtain rfl:=aa.mp rz;obtain⟨z0,zr,rfl,ra,rb⟩:=aw.mp rr;obtain⟨T,S'⟩:=S.set ha hl rb;exact GL pins s σ H _ _ u us Q I r rs ⟨a,z0::zr,0,0,z0,rfl,rfl,e,by decide,by decide,by simp[Mg],rfl,q _ _ _ T S' (ra.mono S T)⟩
     .exact q.elim
    .exact q.elim
   .rename_i k0 y0;split at q
    .rename_i hk0;obtain⟨rfl,hlt⟩:=hk0;obtain⟨z1,z2,rfl,rz1,rz2⟩:=qZ Rs;obtain rfl:=aa.mp rz1;obtain⟨T,S'⟩:=S.set ha hl (aw.mpr ⟨_,_,rfl,rz2,rr⟩);exact D9 pins s σ H _ _ u us Q I r rs ⟨a,zs,z2,rfl,rfl,e,by rw[<-rr.length];exact Qh hlt xl,q _ _ _ T S' (am.mpr rfl)⟩
    .exact q.elim
   .exact q.elim
  .exact q.elim
 .exact q.elim
noncomputable def c8:Tg->String
 |.int=> "int" |.bool=> "bool" |.list=> "list" |.tuple=> "tuple" |.str=> "str" |.dict=> "dict"
def Fy(K:Qb)(t:Tg):
  QA K (.type "NoneType") (.type (c8 t))=some false/\QA K (.type "bool") (.type (c8 t))=some (decide (t=.bool\/t=.int))/\QA K (.type "int") (.type (c8 t))=some (decide (t=.int)) /\
  QA K (.type "str") (.type (c8 t))=some (decide (t=.str))/\QA K (.type "list") (.type (c8 t))=some (decide (t=.list))/\QA K (.type "tuple") (.type (c8 t))=some (decide (t=.tuple))/\QA K (.type "dict") (.type (c8 t))=some (decide (t=.dict)):=by
 cases t<;>refine⟨?_,?_,?_,?_,?_,?_,?_⟩<;>kernel_rfl
noncomputable def oV(K:Qb)(t:Tg):List V->Hp->VK->Prop:=λvs H Q=>∃as m w v,vs=[v,.ty (c8 t)]/\aR K as m H/\ai K as H w v/\ay K as H Q (dO (dz t w m) m)
def D6(m:Me)(t:Tg):dz t .non m=some false/\(∀c,dz t (.bl c) m=some (decide (t=.bool\/t=.int)))/\(∀i,dz t (.int i) m=some (decide (t=.int)))/\(∀x,dz t (.str x) m=some (decide (t=.str)))/\(∀ys,dz t (.tup ys) m=some (decide (t=.tuple)))/\(∀ys,dz t (.rol ys) m=some (decide (t=.list)))/\∀l ys,m[l]?=some (.lst ys)->dz t (.ref l) m=some (decide (t=.list)):=by
 refine⟨?_,λc=>?_,λi=>?_,λx=>?_,λys=>?_,λys=>?_,λl ys h=>?_⟩
 rotate_right
 .have e:dz t (.ref l) m=(match m[l]? with|some (.lst _)=>some (decide (t=.list))|none=>none):=by cases t<;>rfl
  rw[e,h]
 all_goals cases t<;>rfl
def G6(t:Tg):aU X (.builtin "isinstance") (oV X.K t):=by
 intro pins s σ H xs us Q I r h;obtain⟨as,m,w,v,rfl,S,R,q⟩:=h;obtain⟨b,hb,q⟩:=qY S q;obtain⟨u,u',rfl,ru,ru'⟩:=sM r;obtain rfl:u'=.type (c8 t):=ru';obtain⟨k1,k2,k3,k4,k5,k6,k7⟩:=Fy X.K t;obtain⟨z1,z2,z3,z4,z5,z6,z7⟩:=D6 m t;have fin:∀tk,EP X pins σ Q (.bool b) {s with toks:=tk}:=λtk=>⟨.bl b,H,I.tok tk,rfl,q⟩;cases w with
 |non=>
  obtain rfl:=am.mp R;have e:b=false:=Option.some.inj (hb.symm.trans z1);subst e;exact wQ I ru .non k1 fin
 |bl c=>
  obtain rfl:=ah.mp R;have e:b=decide (t=.bool\/t=.int):=Option.some.inj (hb.symm.trans (z2 _));subst e;exact wQ I ru (.bl c) k2 fin
 |int i=>
  obtain rfl:=aa.mp R;have e:b=decide (t=.int):=Option.some.inj (hb.symm.trans (z3 _));subst e;exact wQ I ru (.int i) k3 fin
 |str x=>
  obtain rfl:=az.mp R;have e:b=decide (t=.str):=Option.some.inj (hb.symm.trans (z4 _));subst e;exact wQ I ru (.str _) k4 fin
 |tup ys=>
  obtain⟨a,vs,rfl,hq,rr⟩:=aj.mp R;have e:b=decide (t=.tuple):=Option.some.inj (hb.symm.trans (z5 _));subst e;obtain rfl:u=.ref a:=ru;obtain⟨its,_,⟨o,h1,h2,_⟩,_⟩:=I.tuple hq;exact Wj PySem.W.kitx_tuple I.kIn ⟨o,h1,h2⟩ k6 (λz=>nomatch z) fin
 |rol ys=>
  obtain⟨a,vs,rfl,hq,rr⟩:=bi.mp R;have e:b=decide (t=.list):=Option.some.inj (hb.symm.trans (z6 _));subst e;obtain rfl:u=.ref a:=ru;obtain⟨its,_,p,_⟩:=I.list hq.sq;obtain⟨o,n,h1,h2,_⟩:=p;exact Wj PySem.W.kitx_list I.kIn ⟨o,h1,h2⟩ k5 (λz=>nomatch z) fin
 |ref l=>
  obtain⟨a,ha,rfl⟩:=aM.mp R;have hlm:l<m.length:=by rw[<-S.len];exact(Qa.mp ha).1
  have hg:m[l]?=some m[l]:=by simp[hlm]
  cases ho:m[l]with
  |lst ys=>
   rw[ho]at hg;obtain⟨a',us,ha',e2,_⟩:=yH S hg;rw[ha]at ha';cases ha';have e:b=decide (t=.list):=Option.some.inj (hb.symm.trans (z7 _ _ hg));subst e;exact wQ I ru (.lst e2) k5 fin
end
structure fk(J:It)(vs:List V)(ok:Hp->Prop):Prop where
 go:∀i H,ok H->i<vs.length->J.go i H
 yld:∀i H x H',ok H->i<vs.length->J.yld i H x H'->H'=H/\vs[i]?=some x
 stop:∀i H,ok H->vs.length<=i->J.stop i H
noncomputable def iX(K:Qb)(as:List Addr)(H:Hp)(J:It)(xs:List Wd):Prop:=
 ∃vs ok,fk J vs ok/\ok H/\ae K as H xs vs/\∀H1 H2,Kp K H1 H2->ok H1->ok H2
noncomputable def sf(K:Qb)(as:List Addr)(H:Hp)(w:Wd)(J:It):Prop:=match w with
 |.tup xs=>iX K as H J xs
 |.rol xs=>iX K as H J xs
 |.ref l=>∃a,as[l]?=some a/\J=rN K a
 |_=>True
noncomputable def bX(K:Qb)(as:List Addr)(H:Hp)(R:It->Hp->Prop)(r:Rz):Prop:=match r with
 |.ok w m'=>(yF m' w).isSome=true/\∀as' H' J,Step as H as' H'->aR K as' m' H'->sf K as' H' w J->R J H'
 |_=>False
noncomputable def iB(K:Qb)(g:En->Me->Rz):TI:=λσ H R=>∃as env m,aR K as m H/\aD K as H env σ/\bX K as H R (g env m)
def PI.or{X:Cx}{tg e:Expr}{a b:TI}(h1:PI X tg e a)(h2:PI X tg e b):PI X tg e (λσ H R=>a σ H R\/b σ H R):=λpins s σ H R I h=>by
 rcases h with h|h
 .exact h1 pins s σ H R I h
 .exact h2 pins s σ H R I h
def PI.imp{X:Cx}{tg e:Expr}{a b:TI}(h:PI X tg e a)(k:∀σ H R,b σ H R->a σ H R):PI X tg e b:=λpins s σ H R I q=>h pins s σ H R I (k σ H R q)
def jH (h:PE X x (aT X.K g)):PI X tg x (iB X.K g):=by
 refine PI.imp (PI.or (Fa h) (DI h)) λσ H R q=>?_;obtain⟨as,env,m,S,G,P⟩:=q;cases hr:g env m with
 |no=>rw[hr]at P;exact P.elim
 |exc c w m'=>rw[hr]at P;exact P.elim
 |ok w m'=>
  rw[hr]at P;obtain⟨hs,P⟩:=P;obtain⟨xs,hs⟩:=Wy.mp hs;cases w with
  |tup ys=>
   refine .inr ⟨as,env,m,S,G,?_⟩;rw[hr];intro as' H' v T S' R';obtain⟨a,vs,rfl,hq,rr⟩:=aj.mp R';refine⟨a,rfl,⟨vs,hq⟩,P as' H' _ T S' ⟨vs,λH=>bU X.K H a vs,⟨λi H h hi=>⟨vs,vs[i],h,by simp[hi]⟩,λi H x H' h hi q=>⟨q.1,q.2 vs h⟩,λi H h hi=>⟨vs,h,hi⟩⟩,hq,rr,λH1 H2 k h=>k.t _ _ h⟩⟩
  |rol ys=>
   refine .inl ⟨as,env,m,S,G,?_⟩;rw[hr];intro as' H' v T S' R';obtain⟨a,vs,rfl,hq,rr⟩:=bi.mp R';refine⟨a,rfl,⟨vs,hq.sq⟩,P as' H' _ T S' ⟨vs,λH=>eS X.K H a vs,⟨λi H h hi=>⟨vs,vs[i],h.sq,by simp[hi]⟩,λi H x H' h hi q=>⟨q.1,q.2 vs h.sq⟩,λi H h hi=>⟨vs,h.sq,hi⟩⟩,hq,rr,λH1 H2 k h=>k.f _ _ h⟩⟩
  |ref l=>
   refine .inl ⟨as,env,m,S,G,?_⟩;rw[hr];intro as' H' v T S' R';obtain⟨a,ha,rfl⟩:=aM.mp R';obtain⟨a',us,ha',e,_⟩:=yH S' (yD hs);rw[ha]at ha';cases ha';exact⟨a,rfl,⟨us,bE.of e⟩,P as' H' _ T S' ⟨a,ha,rfl⟩⟩
  |non=>cases hs
  |bl b=>cases hs
  |int i=>cases hs
  |str x=>cases hs
theorem gl {K:Qb}(st:Int):∀(n:Nat) (lo:Int),ae K as H (jN lo st n) ((QI n).map λ(i:Nat)=>V.int (lo+st*(i:Int)))
 |0,lo=>aB.mpr rfl
 |n+1,lo=>by
  rw[WZ,Wg,Wa];refine aw.mpr ⟨_,_,rfl,aa.mpr (by simp),?_⟩;have e:((λ(i:Nat)=>V.int (lo+st*(i:Int))) ∘ Nat.succ)=λ(i:Nat)=>V.int (lo+st+st*(i:Int)):=by
   funext i;show V.int (lo+st*((i.succ:Nat):Int))=_;congr 1;rw[Nat.succ_eq_add_one,Int.natCast_add,Int.mul_add];lia
  rw[e];exact gl st n (lo+st)
def Hz{K:Qb}(lo:Int)(n:Nat):fk (iK lo n) ((QI n).map λ(i:Nat)=>V.int (lo+1*(i:Int))) (λ_=>True):=by
 refine⟨λi H _ hi=>?_,λi H x H' _ hi q=>?_,λi H _ hi=>?_⟩
 .show i<n;simpa using hi
 .obtain ⟨e,rfl⟩:=q;refine⟨e,?_⟩;have hi':i<n:=by simpa using hi
  rw[Qn,WN hi'];simp
 .show n<=i;simpa using hi
end Mini
namespace L2
open PySem PySem.Spec PyProof.Rows
noncomputable def rL(K:Qb)(b:Addr)(xs:List V):Prop:=
 ∃(o:Obj) (its:Array Value) (n:Nat),K.lookup b=some o/\o.cls=.type "tuple" /\ o.data=.seq its n/\its.size<=sizeLine/\aA xs its.toList
abbrev lW:=List (List Nat×Int×Int)
noncomputable def Cf(K:Qb)(w:Lc):List DictEntry->lW->Prop
 |[],q=>q=[]
 |e::es,q=>∃k x y r t b,q=(k,x,y)::r/\e.key=.str ⟨k.toArray⟩ t/\e.hash=hashStr w ⟨k.toArray⟩/\e.val=.ref b/\rL K b [.int x,.int y]/\Cf K w es r
noncomputable def rV(K:Qb)(w:Lc)(a:Addr)(q:lW):Prop:=
 (a==sysModules)=false/\∃o es ep,K.lookup a=some o/\o.ExactDict/\o.data=.dict es ep/\Cf K w es.toList q
end L2
namespace Mini
open PySem PySem.Spec PyProof.Rows L2
set_option genInjectivity false in
structure Ctx where
 fns:List Str
 cons:List (Str×Int)
 dcs:List (Str×lW)
set_option genInjectivity false in
inductive Nd where
 |e (x:Expr)|a (xs:List Expr)
noncomputable def cW(sc:K9)(x:Str):Bool:=decide (sc.names.lookup x=some .globalImplicit)
noncomputable def ig(sc:K9)(x:Str):Bool:=decide (sc.names.lookup x=some .local) || (decide (sc.names.lookup x=some .cell) || decide (sc.names.lookup x=some .free))
noncomputable def zA(x:Str):Bool:=!(x==("__debug__":Str)) && !(x==("__classdict__":Str)) && !(x==("__name__":Str))
noncomputable def zJ:Expr->Bool
 |.Starred _ _=>false
 |_=>true
noncomputable def y7:Expr->Bool
 |.Set _ _ _=>false
 |_=>true
noncomputable def wS:Expr->Bool
 |.Slice _ _ _ _=>false
 |_=>true
noncomputable def kE:Expr->Bool
 |.Call _ _ _ _=>false
 |_=>true
noncomputable def zC:Ex->Bool
 |.rng _ _ _=>true
 |_=>false
noncomputable def kF:Ex->Bool
 |.ife _ _ _=>true
 |_=>false
noncomputable def gm(scope sc:K9):K9:=
 {scope with names:=scope.names.map λ(n,k)=>if(k == .free&&sc.kind == .function&&sc.names.lookup n==some .cell)then(n,.cell)else(n,k)}
noncomputable def gp(sc:K9)(N:List Str)(scope:K9)(xs:List Str):Bool:=
 decide (scope.kind=.function)&&(xs.all (λx=>decide (scope.names.lookup x=some .local) || decide (scope.names.lookup x=some .cell)) &&
 (scope.names.all (λy=>!(decide (y.2=.local)) || decide (scope.names.lookup y.1=some .local)) &&
 (scope.names.all (λy=>!(decide (y.2=.free)) || (decide (sc.names.lookup y.1=some .cell) || decide (sc.names.lookup y.1=some .free))) &&
 (scope.names.all (λy=>!(decide (y.2=.cell)) || !(decide (scope.names.lookup y.1=some .free))) &&
 (N.all (λy=>decide (y∈xs) || (!(decide (scope.names.lookup y=some .local)) && !(decide (scope.names.lookup y=some .cell)))) &&
 (decide (wv N xs).Nodup&&xs.all (λx=>decide (scope.names.lookup (lP x)=none))))))))
def vN (h:gp X.env.scope X.N scope xs=true):bH X scope xs:=by
 unfold gp at h;simp only[Qj,WK,MU,QF,Ws,decide_eq_false_iff_not]at h;obtain⟨h1,h2,h3,h4,h5,h6,h7,h8⟩:=h;refine⟨h1,h2,λy hy e=>?_,λy hy e=>?_,λy hy e=>?_,λy hy e=>?_,h7,h8⟩
 .rcases h3 y hy with z|z
  .exact MP e z
  .exact z
 .rcases h4 y hy with z|z
  .exact MP e z
  .exact z
 .rcases h6 y hy with z|z
  .exact MP z e
  .exact z
 .rcases h5 y hy with z|z
  .exact MP e z
  .exact z
noncomputable def ji(K:Qb)(g:List Wd->Me->Rz):Sp:=λvs H Q _=>∃as m ws,aR K as m H/\ae K as H ws vs/\ay K as H Q (g ws m)
noncomputable def zF:List Str:=["len","int","bool","list","tuple","abs","max","min","isinstance","range","str","dict","sum","all","zip","enumerate","sorted","reversed"]
noncomputable def jI(K:Qb)(w:Lc)(mg:Str->Option Value)(C:Ctx):Prop:=(∀(nm:Str) (i:Int),C.cons.lookup nm=some i->∃t,mg nm=some (.int i t))/\∀(nm:Str) (q:lW),C.dcs.lookup nm=some q->∃a,mg nm=some (.ref a)/\rV K w a q
structure bq(C:Ctx)(X:Cx)(cl:Nat->List Wd->Me->Rz)(d:Nat):Prop where
 room:bM d X.A
 calm:X.calm=true
 fn:∀(k:Nat) (nm:Str),C.fns[k]?=some nm->∃f fd ps,X.mg nm=some (.ref f)/\QK X.K (.ref f)=true/\Binds X.K fd ps []/\bC X.prog X.w X.K X.mg X.base c5 d f fd ps (ji X.K (cl k))
 con:jI X.K X.w X.mg C
 blt:∀nm∈zF,X.mg nm=none
def bq.comp{C:Ctx}{X Xc:Cx}{cl:Nat->List Wd->Me->Rz}{d:Nat}{scope:K9}{x:List Str}(h:bq C X cl d)(c:bK X scope x Xc):bq C Xc cl d:=by
 refine⟨by rw[c.A];exact h.room,c.calm,λk nm e=>?_,?_,λnm e=>?_⟩
 .obtain ⟨f,fd,ps,h1,h2,h3,h4⟩:=h.fn k nm e;exact⟨f,fd,ps,by rw[c.mg];exact h1,by rw[c.K];exact h2,by rw[c.K];exact h3,by rw[c.prog,c.w,c.K,c.mg,c.base];exact h4⟩
 .rw[c.mg,c.K,c.w];exact h.con
 .rw[c.mg];exact h.blt nm e
noncomputable def cr(K:Qb)(as:List Addr)(H:Hp)(Q:List V->Hp->Prop)(r:Rz):Prop:=match r with
 |.ok w m'=>∀as' H' vs,Step as H as' H'->aR K as' m' H'->ae K as' H' (zq w) vs->Q vs H'
 |_=>False
noncomputable def kG(K:Qb)(g:En->Me->Rz):TA:=λσ H Q=>∃as env m,aR K as m H/\aD K as H env σ/\cr K as H Q (g env m)
theorem cr.bind{K:Qb}{as:List Addr}{H:Hp}{Q:VK}{Q1:List V->Hp->Prop}{r:Rz}{f:Wd->Me->Rz}(h:ay K as H Q (r.bind f))
  (k:∀w m' as' H' vs,Step as H as' H'->aR K as' m' H'->ae K as' H' (zq w) vs->ay K as' H' Q (f w m')->Q1 vs H'):cr K as H Q1 r:=by
 cases r with
 |ok w m'=>exact λas2 H2 v U S R=>k w m' as2 H2 v U S R (ay.step (r:=f w m') h U)
 |exc c w m'=>exact h
 |no=>exact h
noncomputable def bW(cl:Nat->List Wd->Me->Rz)(X:Cx)(e:Ex):Nd->Prop
 |.e x=>(zC e=false->PE X x (aT X.K (af cl e))/\(kF e=false->PT X x (wu X.K (af cl e)))/\(∀op vs pos,x=.BoolOp op vs pos->PW X x (wu X.K (af cl e))))/\∀tg,PI X tg x (iB X.K (af cl e))
 |.a xs=>PA X xs (kG X.K (af cl e))
def bW.of{cl:Nat->List Wd->Me->Rz}{X:Cx}{e:Ex}{x:Expr}(h:PE X x (aT X.K (af cl e)))(ht:∀whole,isTrue x X.env whole=(do let v <-whole;standAt x.pos;holding [v] (truthy v)):=by intro _;rfl)
  (hb:∀op vs pos,x≠.BoolOp op vs pos:=by intros;intro z;cases z):bW cl X e (.e x):=
 ⟨λ_=>⟨h,λ_=>qO h ht,λop vs pos z=>MP z (hb op vs pos)⟩,λtg=>jH h⟩
def zB (h:zJ e=true):Lp (e::es) env=(false,eval e env)::Lp es env:=by
 cases e<;>first|rfl|cases h
theorem yy:∀{es:List Expr},es.all zJ=true->(Lo pos (Lp es env)).any (·.1)=false
 |[],_=>rfl
 |e::es,h=>by
  rw[Wm,Qj]at h;rw[zB h.1];show(false || (Lo pos (Lp es env)).any (·.1))=false;rw[yy h.2];rfl
section
variable{cl:Nat->List Wd->Me->Rz}{X:Cx}{a b c:Ex}{x y:Expr}{pos:Pos}
def D5 (ha:PE X x (aT X.K (af cl a)))(hb:PE X y (aT X.K (af cl b))):PE X (.BinOp x (oY op) y pos) (aT X.K (af cl (.bin op a b))):=by
 refine PE.imp (C8 (Cn op) ha hb) λσ H Q h=>?_;obtain⟨as,env,m,S,G,P⟩:=h;refine⟨as,env,m,S,G,ay.bind P λx m1 as1 H1 v T1 S1 R1 P1=>?_⟩;refine⟨as1,env,m1,S1,G.mono S T1,ay.bind P1 λy m2 as2 H2 u T2 S2 R2 P2=>?_⟩;exact Ea S2 (R1.mono S1 T2) R2 P2
def D4(ha:PE X x (aT X.K (af cl a))):PE X (.UnaryOp .USub x pos) (aT X.K (af cl (.neg a))):=by
 refine PE.imp (Dt DC ha) λσ H Q h=>?_;obtain⟨as,env,m,S,G,P⟩:=h;refine⟨as,env,m,S,G,ay.bind P λx m1 as1 H1 v T1 S1 R1 P1=>?_⟩;cases x with
 |int i=>
  obtain rfl:=aa.mp R1;exact⟨i,rfl,P1.ok S1 (aa.mpr rfl)⟩
 |_=>exact P1.elim
def ub(ha:PE X x (aT X.K (af cl a))):PE X (.UnaryOp .Not x pos) (aT X.K (af cl (.not a))):=by
 refine PE.imp (DL ha) λσ H Q h=>?_;obtain⟨as,env,m,S,G,P⟩:=h;refine⟨as,env,m,S,G,ay.bind P λx m1 as1 H1 v T1 S1 R1 P1=>?_⟩;cases x with
 |bl k=>
  obtain rfl:=ah.mp R1;exact⟨k,rfl,P1.ok S1 (ah.mpr rfl)⟩
 |_=>exact P1.elim
def D3(ha:PT X x (wu X.K (af cl a))):PT X (.UnaryOp .Not x pos) (wu X.K (af cl (.not a))):=by
 refine PT.imp (ng ha) λσ H Q h=>?_;obtain⟨as,env,m,S,G,P⟩:=h;refine⟨as,env,m,S,G,ay.bind P λx m1 as1 H1 v T1 S1 R1 P1=>?_⟩;cases x with
 |bl k=>
  obtain rfl:=ah.mp R1;obtain⟨b,e,q⟩:=P1.ok S1 (ah.mpr rfl);cases e;exact⟨k,rfl,q⟩
 |_=>exact P1.elim
def Aw {K:Qb}(h:aT K (af cl (.and a b)) σ H Q):aT K (af cl a) σ H λx H1=>∃k,x=.bl k/\if k=true then aT K (af cl b) σ H1 Q else Q (.bl false) H1:=by
 obtain⟨as,env,m,S,G,P⟩:=h;refine⟨as,env,m,S,G,ay.bind P λx m1 as1 H1 v T1 S1 R1 P1=>?_⟩;cases x with
 |bl k=>
  obtain rfl:=ah.mp R1;refine⟨k,rfl,?_⟩;cases k with
  |true=>exact gX ⟨as1,env,m1,S1,G.mono S T1,P1⟩
  |false=>exact gW (P1.ok S1 (ah.mpr rfl))
 |_=>exact P1.elim
def uB {K:Qb}(h:aT K (af cl (.or a b)) σ H Q):aT K (af cl a) σ H λx H1=>∃k,x=.bl k/\if k=true then Q (.bl true) H1 else aT K (af cl b) σ H1 Q:=by
 obtain⟨as,env,m,S,G,P⟩:=h;refine⟨as,env,m,S,G,ay.bind P λx m1 as1 H1 v T1 S1 R1 P1=>?_⟩;cases x with
 |bl k=>
  obtain rfl:=ah.mp R1;refine⟨k,rfl,?_⟩;cases k with
  |false=>exact gW ⟨as1,env,m1,S1,G.mono S T1,P1⟩
  |true=>exact gX (P1.ok S1 (ah.mpr rfl))
 |_=>exact P1.elim
def Av {K:Qb}(h:aT K g σ H Q)(k:∀v H,Q v H->Q' v H):aT K g σ H Q':=by
 obtain⟨as,env,m,S,G,P⟩:=h;refine⟨as,env,m,S,G,?_⟩;cases hr:g env m with
 |ok w m'=>rw[hr]at P;exact λas' H' v T S' R=>k _ _ (P as' H' v T S' R)
 |exc c w m'=>rw[hr]at P;exact P
 |no=>rw[hr]at P;exact P
def ua (ha:PE X x (aT X.K (af cl a)))(hb:PE X (.BoolOp .And (y::r) pos) (aT X.K (af cl b))):PE X (.BoolOp .And (x::y::r) pos) (aT X.K (af cl (.and a b))):=
 PE.imp (DM ha hb) λσ H Q h=>Aw h
def Cm (ha:PE X x (aT X.K (af cl a)))(hb:PE X (.BoolOp .Or (y::r) pos) (aT X.K (af cl b))):PE X (.BoolOp .Or (x::y::r) pos) (aT X.K (af cl (.or a b))):=
 PE.imp (Dd ha hb) λσ H Q h=>uB h
def PW.imp{e:Expr}{t t':TT}(h:PW X e t)(k:∀σ H Q,t' σ H Q->t σ H Q):PW X e t':=λwhole pins s σ H Q I q=>h whole pins s σ H Q I (k σ H Q q)
def tZ (ha:PT X x (wu X.K (af cl a)))(hb:PW X (.BoolOp .And (y::r) pos) (wu X.K (af cl b))):PW X (.BoolOp .And (x::y::r) pos) (wu X.K (af cl (.and a b))):=
 PW.imp (DN ha hb) λσ H Q h=>by
  refine Av (Aw h) λv H1 q=>?_;obtain⟨k,e,q⟩:=q;refine⟨k,e,?_⟩;cases k with
  |true=>rw[MN rfl]at q ⊢;exact q
  |false=>
   rw[MO Wi]at q ⊢;obtain⟨b',e',q⟩:=q;cases e';exact q
def Ck (ha:PT X x (wu X.K (af cl a)))(hb:PW X (.BoolOp .Or (y::r) pos) (wu X.K (af cl b))):PW X (.BoolOp .Or (x::y::r) pos) (wu X.K (af cl (.or a b))):=
 PW.imp (sO ha hb) λσ H Q h=>by
  refine Av (uB h) λv H1 q=>?_;obtain⟨k,e,q⟩:=q;refine⟨k,e,?_⟩;cases k with
  |false=>rw[MO Wi]at q ⊢;exact q
  |true=>
   rw[MN rfl]at q ⊢;obtain⟨b',e',q⟩:=q;cases e';exact q
def mU (h:y7 e=true):LL op e=false:=by
 cases e<;>first|rfl|cases h
def Au {K:Qb}(h:aT K (af cl (.cmp op a b)) σ H Q):iy (rC K op) (aT K (af cl a)) (aT K (af cl b)) σ H Q:=by
 obtain⟨as,env,m,S,G,P⟩:=h;refine⟨as,env,m,S,G,ay.bind P λx m1 as1 H1 v T1 S1 R1 P1=>?_⟩;refine⟨as1,env,m1,S1,G.mono S T1,ay.bind P1 λy m2 as2 H2 u T2 S2 R2 P2=>?_⟩;exact⟨as2,m2,x,y,S2,R1.mono S1 T2,R2,P2⟩
def tY (hu:X.A.units+64<LP)(ha:PE X x (aT X.K (af cl a)))(hb:PE X y (aT X.K (af cl b)))(hs:y7 y=true):PE X (.Compare x [cK op] [y] pos) (aT X.K (af cl (.cmp op a b))):=
 PE.imp (E7 (qm hu op) ha hb (mU hs)) λσ H Q h=>Au h
def D1 (hu:X.A.units+64<LP)(ha:PE X x (aT X.K (af cl a)))(hb:PE X y (aT X.K (af cl b)))(hs:y7 y=true):PT X (.Compare x [cK op] [y] pos) (wu X.K (af cl (.cmp op a b))):=
 PT.imp (E6 (qm hu op) ha hb (mU hs)) λσ H Q h=>Au h
end
section
variable{cl:Nat->List Wd->Me->Rz}{X:Cx}{a b c:Ex}{x y z:Expr}{pos:Pos}
def gq {K:Qb}(h:aT K (af cl (.chain p q a b c)) σ H Q):mZ (rC K p) (rC K q) (aT K (af cl a)) (aT K (af cl b)) (aT K (af cl c)) σ H Q:=by
 obtain⟨as,env,m,S,G,P⟩:=h;refine⟨as,env,m,S,G,ay.bind P λx m1 as1 H1 v T1 S1 R1 P1=>?_⟩;refine⟨as1,env,m1,S1,G.mono S T1,ay.bind P1 λy m2 as2 H2 u T2 S2 R2 P2=>?_⟩;refine⟨as2,m2,x,y,S2,R1.mono S1 T2,R2,ay.bind P2 λz m3 as3 H3 w T3 S3 R3 P3=>?_⟩;cases z with
 |bl k=>
  obtain rfl:=ah.mp R3;refine⟨k,rfl,?_⟩;cases k with
  |false=>exact gW (P3.ok S3 (ah.mpr rfl))
  |true=>
   refine gX ⟨as3,env,m3,S3,((G.mono S T1).mono S1 T2).mono S2 T3,ay.bind P3 λt m4 as4 H4 r T4 S4 R4 P4=>?_⟩;exact⟨as4,m4,y,t,S4,(R2.mono S2 T3).mono S3 T4,R4,P4⟩
 |_=>exact P3.elim
def tX (h:y7 z=true):lastMarks [o,o'] [y,z]=false:=by
 show LL o' z=false;exact mU h
def At (hu:X.A.units+64<LP)(ha:PE X x (aT X.K (af cl a)))(hb:PE X y (aT X.K (af cl b)))(hc:PE X z (aT X.K (af cl c)))(hs:y7 z=true):
  PE X (.Compare x [cK p,cK q] [y,z] pos) (aT X.K (af cl (.chain p q a b c))):=
 PE.imp (GS (qm hu p) (qm hu q) ha hb hc (tX hs)) λσ H Q h=>gq h
def G5 (hu:X.A.units+64<LP)(ha:PE X x (aT X.K (af cl a)))(hb:PE X y (aT X.K (af cl b)))(hc:PE X z (aT X.K (af cl c)))(hs:y7 z=true):
  PT X (.Compare x [cK p,cK q] [y,z] pos) (wu X.K (af cl (.chain p q a b c))):=
 PT.imp (GR (qm hu p) (qm hu q) ha hb hc (tX hs)) λσ H Q h=>gq h
def G4 {K:Qb}(h:aT K (af cl (.ife c a b)) σ H Q):AI (wu K (af cl c)) (aT K (af cl a)) (aT K (af cl b)) σ H Q:=by
 obtain⟨as,env,m,S,G,P⟩:=h;refine⟨as,env,m,S,G,ay.bind P λx m1 as1 H1 v T1 S1 R1 P1=>?_⟩;cases x with
 |bl k=>
  obtain rfl:=ah.mp R1;refine⟨k,rfl,?_⟩;cases k with
  |true=>exact gX ⟨as1,env,m1,S1,G.mono S T1,P1⟩
  |false=>exact gW ⟨as1,env,m1,S1,G.mono S T1,P1⟩
 |_=>exact P1.elim
def D0(hc:PT X z (wu X.K (af cl c)))(ha:PE X x (aT X.K (af cl a)))(hb:PE X y (aT X.K (af cl b))):PE X (.IfExp z x y pos) (aT X.K (af cl (.ife c a b))):=
 PE.imp (Ih hc ha hb) λσ H Q h=>G4 h
def Fx:PA X [] (kG X.K (af cl .unit)):=PA.imp xO λσ H Q h=>by
 obtain⟨as,env,m,S,G,P⟩:=h;exact P as H [] .refl S (aB.mpr rfl)
def Fw (ha:PE X x (aT X.K (af cl a)))(hb:PA X xs (kG X.K (af cl b)))(hs:zJ x=true):PA X (x::xs) (kG X.K (af cl (.pair a b))):=by
 refine PA.imp (yu ha hb (zB hs)) λσ H Q h=>?_;obtain⟨as,env,m,S,G,P⟩:=h;refine⟨as,env,m,S,G,?_⟩;have P':cr X.K as H Q ((af cl a env m).bind λx m1=>(af cl b env m1).bind λy m2=>.ok (.tup (x::zq y)) m2):=P;cases hr:af cl a env m with
 |no=>rw[hr]at P';exact P'
 |exc c w m'=>rw[hr]at P';exact P'
 |ok w m1=>
  rw[hr]at P';intro as1 H1 v T1 S1 R1;refine⟨as1,env,m1,S1,G.mono S T1,?_⟩;simp only[Rz.bind]at P';cases hr2:af cl b env m1 with
  |no=>rw[hr2]at P';exact P'
  |exc c w' m'=>rw[hr2]at P';exact P'
  |ok w' m2=>
   rw[hr2]at P';intro as2 H2 vs T2 S2 R2;exact P' as2 H2 (v::vs) (T1.trans T2) S2 (aw.mpr ⟨v,vs,rfl,R1.mono S1 T2,R2⟩)
def Fv (hC:bq C X cl d)(hk:C.fns[k]?=some nm)(hg:X.env.scope.names.lookup nm=some .globalImplicit)(hn:zA nm=true)(hs:(x::xs).all zJ=true)(ha:PA X (x::xs) (kG X.K (af cl a))):PE X (.Call (.Name nm p) (x::xs) [] pos) (aT X.K (af cl (.call k a))):=by
 obtain⟨f,fd,ps,h1,h2,h3,h4⟩:=hC.fn k nm hk;have hs':=hs;rw[Wm,Qj]at hs';have hdb:(nm==("__debug__":Str))=false:=by
  unfold zA at hn;simp only[Qj,Ws]at hn;exact hn.1.1
 refine PE.imp (FM h4 hC.room hg h1 h2 h3 .nil (Cq (X:=X)) ha hdb (zB hs'.1) (yy hs'.2)) λσ H Q h=>?_;obtain⟨as,env,m,S,G,P⟩:=h;refine⟨as,env,m,S,G,cr.bind P λw m1 as1 H1 vs T1 S1 R1 P1=>?_⟩;refine⟨as1,m1,zq w,S1,?_,P1⟩;rw[QU];exact R1
def jj (hn:zA nm=true):(nm==("__debug__":Str))=false/\(nm==("__classdict__":Str))=false/\nm ≠ "__name__":=by
 unfold zA at hn;simp only[Qj,Ws]at hn;exact⟨hn.1.1,hn.1.2,by simpa using hn.2⟩
def DZ (hC:bq C X cl d)(hb:mI bf=some (nm,f))(hg:X.env.scope.names.lookup nm=some .globalImplicit)(hn:zA nm=true)(hs:(x::xs).all zJ=true)(ha:PA X (x::xs) (kG X.K (af cl a))):PE X (.Call (.Name nm p) (x::xs) [] pos) (aT X.K (af cl (.blt bf a))):=by
 obtain⟨n1,n2,n3⟩:=jj hn;have hs':=hs;rw[Wm,Qj]at hs';have hc:=G7 hC.room.units hC.calm hb;have go:PE X (.Call (.Name nm p) (x::xs) [] pos) (oI (AL X.K bf) (kG X.K (af cl a))):=by
  cases bf with
  |len=>cases hb;exact xj hc hg (hC.blt _ (by simp[zF])) PySem.boot_len ha n3 n1 (zB hs'.1) (yy hs'.2)
  |int=>cases hb;exact je hc hg (hC.blt _ (by simp[zF])) PyProof.Rows.boot_int ha n3 n1 (zB hs'.1) (yy hs'.2)
  |list=>cases hb;exact je hc hg (hC.blt _ (by simp[zF])) PyProof.Rows.boot_list ha n3 n1 (zB hs'.1) (yy hs'.2)
  |tuple=>cases hb;exact je hc hg (hC.blt _ (by simp[zF])) PyProof.Rows.boot_tuple ha n3 n1 (zB hs'.1) (yy hs'.2)
  |abs=>cases hb;exact xj hc hg (hC.blt _ (by simp[zF])) PyProof.Rows.boot_abs ha n3 n1 (zB hs'.1) (yy hs'.2)
  |max2=>cases hb;exact xj hc hg (hC.blt _ (by simp[zF])) PyProof.Rows.boot_max ha n3 n1 (zB hs'.1) (yy hs'.2)
  |sum=>cases hb;exact xj hc hg (hC.blt _ (by simp[zF])) PyProof.Rows.boot_sum ha n3 n1 (zB hs'.1) (yy hs'.2)
  |all=>cases hb;exact xj hc hg (hC.blt _ (by simp[zF])) PyProof.Rows.boot_all ha n3 n1 (zB hs'.1) (yy hs'.2)
 refine PE.imp go λσ H Q h=>?_;obtain⟨as,env,m,S,G,P⟩:=h;refine⟨as,env,m,S,G,cr.bind P λw m1 as1 H1 vs T1 S1 R1 P1=>?_⟩;exact⟨as1,m1,zq w,S1,R1,P1⟩
def Fu(t:Tg):Lg (Str.ofString (c8 t))=some (.type (c8 t)):=by
 cases t<;>decide +kernel
def DY (hC:bq C X cl d)(hg:X.env.scope.names.lookup ("isinstance":Str)=some .globalImplicit)(hg':X.env.scope.names.lookup (Str.ofString (c8 t))=some .globalImplicit)(hs:zJ x=true)(ha:PE X x (aT X.K (af cl a))):PE X (.Call (.Name "isinstance" p) [x,.Name (Str.ofString (c8 t)) p'] [] pos) (aT X.K (af cl (.isi t a))):=by
 have hm:X.mg (Str.ofString (c8 t))=none:=hC.blt _ (by cases t<;>decide +kernel);have hty:PE X (.Name (Str.ofString (c8 t)) p') (tC (.ty (c8 t))):=uL hg' hm (Fu t) rfl (by cases t<;>decide +kernel) (by cases t<;>decide +kernel);refine PE.imp (xj (G6 t) hg (hC.blt _ (by simp[zF])) PyProof.Rows.boot_isinstance (yu ha (yu hty xO) (zB hs)) (by decide +kernel) (by decide +kernel) (zB hs) rfl) λσ H Q h=>?_;obtain⟨as,env,m,S,G,P⟩:=h;refine⟨as,env,m,S,G,ay.bind P λw m1 as1 H1 v T1 S1 R1 P1=>?_⟩;exact⟨as1,m1,w,v,rfl,S1,R1,P1⟩
def DX (ha:PA X xs (kG X.K (af cl a))):PE X (.List xs pos) (aT X.K (af cl (.lst a))):=by
 refine PE.imp (DA ha) λσ H Q h=>?_;obtain⟨as,env,m,S,G,P⟩:=h;refine⟨as,env,m,S,G,cr.bind P λw m1 as1 H1 vs T1 S1 R1 P1=>?_⟩;obtain⟨h1,h2⟩:=wR S1 R1 P1;exact⟨Qp h1 xl,h2⟩
set_option tactic.hygienic true in
def DW (ha:PA X xs (kG X.K (af cl a))):PE X (.Tuple xs k pos) (aT X.K (af cl (.tup a))):=by
 refine PE.imp (tR ha) λσ H Q h=>?_;obtain⟨as,env,m,S,G,P⟩:=h;refine⟨as,env,m,S,G,cr.bind P λw m1 as1 H1 vs T1 S1 R1 P1=>?_⟩;split at P1
 .rename_i hl;refine⟨by rw[<-R1.length];exact Qp hl xl,λp hp=>?_⟩;obtain⟨T,S',R'⟩:=S1.tup hp R1;exact P1 _ _ _ T S' R'
 .exact P1.elim
def DV(ha:PE X x (aT X.K (af cl a)))(hb:PE X y (aT X.K (af cl b)))(hs:wS y=true):PE X (.Subscript x y pos) (aT X.K (af cl (.idx a b))):=by
 have hp:uI y:=λo i=>by cases y<;>first|rfl|cases hs
 refine PE.imp (Cs Dv ha hb hp) λσ H Q h=>?_;obtain⟨as,env,m,S,G,P⟩:=h;refine⟨as,env,m,S,G,ay.bind P λx m1 as1 H1 v T1 S1 R1 P1=>?_⟩;refine⟨as1,env,m1,S1,G.mono S T1,ay.bind P1 λy m2 as2 H2 u T2 S2 R2 P2=>?_⟩;exact D8 S2 (R1.mono S1 T2) R2 P2
end
section
variable{cl:Nat->List Wd->Me->Rz}{X:Cx}{a b c:Ex}{x y:Expr}{pos:Pos}
set_option tactic.hygienic true in
def Cj {K:Qb}{lo:Option Int}(S:aR K as m H)(R:ai K as H w v)(h:ay K as H Q (fu w lo hi m)):mv K v lo hi H Q\/sD K v lo hi H Q:=by
 have hs:∀(n d:Nat) (o:Option Int),aQ n d o=HT.aQ n d o:=λn d o=>by cases o<;>rfl
 have key:∀{xs:List Wd}{p:Addr}{vs:List V},bE K H p vs->ae K as H xs vs->ay K as H Q (alloc m ((xs.drop (aQ xs.length 0 lo)).take (aQ xs.length xs.length hi-aQ xs.length 0 lo)))->mv K (.ref p) lo hi H Q:=λ{xs p vs} q r h=>by
  refine⟨p,vs,rfl,q,?_⟩;have e:(vs.drop (aQ xs.length 0 lo)).take (aQ xs.length xs.length hi-aQ xs.length 0 lo)=gS vs lo hi:=by
   unfold gS;rw[r.length,hs,hs]
  rw[<-e];exact(wR S ((r.drop _).take _) h).2
 cases w with
 |tup xs=>
  obtain⟨p,vs,rfl,q,r⟩:=aj.mp R;have h':ay K as H Q (if aQ xs.length 0 lo=0/\aQ xs.length xs.length hi=xs.length then .no else .ok (.tup ((xs.drop (aQ xs.length 0 lo)).take (aQ xs.length xs.length hi-aQ xs.length 0 lo))) m):=h;by_cases c:aQ xs.length 0 lo=0/\aQ xs.length xs.length hi=xs.length
  .rw[MN c]at h';exact h'.elim
  .rw[MO c]at h';refine .inr ⟨p,vs,rfl,q,by rw[<-r.length,<-hs,<-hs];exact c,λl hl=>?_⟩;have e:(vs.drop (aQ xs.length 0 lo)).take (aQ xs.length xs.length hi-aQ xs.length 0 lo)=gS vs lo hi:=by
    unfold gS;rw[r.length,hs,hs]
   obtain⟨T,S',R'⟩:=S.tup hl ((r.drop (aQ xs.length 0 lo)).take (aQ xs.length xs.length hi-aQ xs.length 0 lo));rw[<-e];exact h' _ _ _ T S' R'
 |rol ys=>
  obtain⟨p,vs,rfl,q,r⟩:=bi.mp R;exact .inl (key q.sq r h)
 |ref l=>
  obtain⟨p,hp,rfl⟩:=aM.mp R;have h':ay K as H Q (match zK m l with
   |some xs=>alloc m ((xs.drop (aQ xs.length 0 lo)).take (aQ xs.length xs.length hi-aQ xs.length 0 lo))
   |none=>.no):=h
  cases hx:zK m l with
  |none=>rw[hx]at h';exact h'.elim
  |some xs=>
   rw[hx]at h';obtain⟨p',vs,hp',e,r⟩:=yH S (yD hx);rw[hp]at hp';cases hp';exact .inl (key (bE.of e) r h')
 |_=>exact h.elim
def DU (ha:PE X x (aT X.K (af cl a)))(hb:PE X y (aT X.K (af cl b))):PE X (.Subscript x (.Slice none (some y) none p2) pos) (aT X.K (af cl (.slH a b))):=by
 refine PE.imp (GO (eu.or Dx) ha FK (FJ hb)) λσ H Q h=>?_;obtain⟨as,env,m,S,G,P⟩:=h;refine⟨as,env,m,S,G,ay.bind P λx m1 as1 H1 v T1 S1 R1 P1=>?_⟩;refine⟨as1,env,m1,S1,G.mono S T1,ay.bind P1 λy m2 as2 H2 u T2 S2 R2 P2=>?_⟩;cases y with
 |int i=>exact⟨i,aa.mp R2,Cj S2 (R1.mono S1 T2) P2⟩
 |_=>exact P2.elim
def cq (h:kE e=true):LN e f env (eval e env)=eval e env:=by
 cases e<;>first|rfl|cases h
def DT (h:ys.all zJ=true)(hl:ys.length<29):
  ((Lo cp (Lp ys env)).all (λx=>! x.1)&&(backToKw cp (Ml [] env)).all (λx=>x.1.isSome)
   && decide (ys.length+([]:List Mm).length+(if([]:List Mm).isEmpty then 0 else 1)<30))=true:=by
 have all:∀{es:List Expr},es.all zJ=true->(Lo cp (Lp es env)).all (λx=>! x.1)=true:=by
  intro es
  induction es with
  |nil=>intro _;rfl
  |cons e es ih=>
   intro h;rw[Wm,Qj]at h;rw[zB h.1];show(true&&(Lo cp (Lp es env)).all (λx=>! x.1))=true;rw[ih h.2];rfl
 rw[all h];have e2:(backToKw cp (Ml [] env)).all (λx=>x.1.isSome)=true:=rfl;rw[e2];have e3:decide (ys.length+([]:List Mm).length+(if([]:List Mm).isEmpty then 0 else 1)<30)=true:=by
  apply MS;show ys.length+0+0<30;lia
 rw[e3];rfl
def As(k:dH):Slot "list" (fi k).1 (fi k).2/\typeOf (.builtin (fi k).2)=pure (.type "method_descriptor"):=by
 cases k with
 |append=>exact⟨PySem.F.slot_list_append,PySem.F.type_list_append⟩
 |pop=>exact⟨PySem.F.slot_list_pop,PySem.F.type_list_pop⟩
 |reverse=>exact⟨PySem.F.slot_list_reverse,PySem.F.type_list_reverse⟩
 |clear=>exact⟨PySem.F.slot_list_clear,PySem.F.type_list_clear⟩
 |insert=>exact⟨PySem.F.slot_list_insert,PySem.F.type_list_insert⟩
def uA{K:Qb}{as:List Addr}{H:Hp}{Q:VK}{b:Bool}{r:Rz}(h:ay K as H Q (match b with|true=>r|false=>.no)):b=true/\ay K as H Q r:=by
 cases b with
 |true=>exact⟨rfl,h⟩
 |false=>exact h.elim
def tW (h:yC w m=true):∃l,w=.ref l/\(zK m l).isSome=true:=by
 cases w with
 |ref l=>
  refine⟨l,rfl,?_⟩;unfold yC aW at h;unfold zK;cases e:m[l]? with
  |none=>simp[e]at h
  |some o=>
   cases o with
   |lst xs=>rfl
 |_=>cases h
def tV {K:Qb}(S:aR K as m H)(R:ai K as H w v)(hw:∃l,w=.ref l/\(zK m l).isSome=true):lH K "list" v H:=by
 obtain⟨l,rfl,hs⟩:=hw;obtain⟨p,hp,rfl⟩:=aM.mp R;obtain⟨xs,hs⟩:=Wy.mp hs;obtain⟨p',us,hp',e,_⟩:=yH S (yD hs);rw[hp]at hp';cases hp';exact⟨rfl,us,bE.of e⟩
def G0 (ho:PE X x (aT X.K (af cl a)))(hx:kE x=true)(hl:(ap.endLine==pos.line)=true):
  PE X (.Call (.Attribute x (fi k).1 ap) [] [] pos) (aT X.K (af cl (.meth k a .unit))):=by
 obtain⟨f1,f2⟩:=As k;refine PE.imp (Du PySem.F.plainAttrs_list f1 f2 (uc k) ho (cq hx) hl) λσ H Q h=>?_;obtain⟨as,env,m,S,G,P⟩:=h;refine⟨as,env,m,S,G,ay.bind P λw m1 as1 H1 v T1 S1 R1 P1=>?_⟩;obtain⟨hl',P1⟩:=uA P1;have P2:ay X.K as1 H1 Q (cj k w [] m1):=P1;exact⟨tV S1 R1 (tW hl'),as1,m1,w,[],S1,R1,aB.mpr rfl,P2⟩
def Ft (ho:PE X x (aT X.K (af cl a)))(ha:PA X (y::ys) (kG X.K (af cl b)))(hx:kE x=true)(hl:(ap.endLine==pos.line)=true)(hn:(y::ys).length<29)(hs:(y::ys).all zJ=true):
  PE X (.Call (.Attribute x (fi k).1 ap) (y::ys) [] pos) (aT X.K (af cl (.meth k a b))):=by
 obtain⟨f1,f2⟩:=As k;have hs':=hs;rw[Wm,Qj]at hs';refine PE.imp (Cr PySem.F.plainAttrs_list f1 f2 (uc k) ho ha (cq hx) (DT hs hn) hl (zB hs'.1) (yy hs'.2)) λσ H Q h=>?_;obtain⟨as,env,m,S,G,P⟩:=h;refine⟨as,env,m,S,G,ay.bind P λw m1 as1 H1 v T1 S1 R1 P1=>?_⟩;obtain⟨hl',P1⟩:=uA P1;refine⟨tV S1 R1 (tW hl'),?_⟩;refine⟨as1,env,m1,S1,G.mono S T1,cr.bind P1 λw2 m2 as2 H2 vs T2 S2 R2 P2=>?_⟩;exact⟨as2,m2,w,zq w2,S2,R1.mono S1 T2,R2,P2⟩
def GZ {K:Qb}(S:aR K as m H)(h:bX K as H R (fm (.int i) (.int j) (.int 1) m)):(-(2^62)<=i/\i<2^62/\-(2^62)<=j/\j<2^62)/\R (iK i (j-i).toNat) H:=by
 have h':bX K as H R (if -aq<=i/\i<=aq/\-aq<=j/\j<=aq/\((1:Int)=1\/(1:Int)=-1\/(1:Int)=-2)then .ok (.tup (jN i 1 (v6 i j 1))) m else .no):=h;by_cases hc:-(aq:Int)<=i/\i<=aq/\-(aq:Int)<=j/\j<=aq/\((1:Int)=1\/(1:Int)=-1\/(1:Int)=-2)
 .rw[MN hc]at h';have hlim:(aq:Int)=100000:=rfl;refine⟨by lia,h'.2 as H _ .refl S ?_⟩;have e:v6 i j 1=(j-i).toNat:=MN rfl;rw[e];exact⟨_,λ_=>True,Hz i (j-i).toNat (K:=K),trivial,gl 1 (j-i).toNat i,λ_ _ _ _=>trivial⟩
 .rw[MO hc]at h';exact h'.elim
theorem bX.bind {K:Qb}(h:bX K as H R (r.bind f))(k:∀w m' as' H' v,Step as H as' H'->aR K as' m' H'->ai K as' H' w v->bX K as' H' R (f w m')->Q1 v H'):ay K as H Q1 r:=by
 cases r with
 |ok w m'=>
  intro as2 H2 v U S Rr;refine k w m' as2 H2 v U S Rr ?_;have h':bX K as H R (f w m'):=h;cases hr:f w m' with
  |ok w2 m2=>rw[hr]at h';exact⟨h'.1,λas3 H3 J U3 S3 q=>h'.2 as3 H3 J (U.trans U3) S3 q⟩
  |exc c w2 m2=>rw[hr]at h';exact h'
  |no=>rw[hr]at h';exact h'
 |exc c w m'=>exact h
 |no=>exact h
def Fs (hC:bq C X cl d)(hg:X.env.scope.names.lookup ("range":Str)=some .globalImplicit)(hs:zJ x=true)(hb:PE X x (aT X.K (af cl b))):
  PI X tg (.Call (.Name "range" p) [x] [] pos) (iB X.K (af cl (.rng (.lit (.int 0)) b (.lit (.int 1))))):=by
 refine PI.imp (Iu hg (hC.blt _ (by simp[zF])) (yu hb xO (zB hs)) (zB hs)) λσ H R h=>?_;obtain⟨as,env,m,S,G,P⟩:=h;have P':bX X.K as H R ((af cl b env m).bind λy m2=>fm (.int 0) y (.int 1) m2):=P;refine⟨as,env,m,S,G,bX.bind P' λw m1 as1 H1 v T1 S1 R1 P1=>?_⟩;cases w with
 |int j=>
  obtain rfl:=aa.mp R1;obtain⟨⟨_,_,h1,h2⟩,q⟩:=GZ S1 P1;refine⟨j,rfl,h1,h2,?_⟩;simpa using q
 |_=>exact P1.elim
def Fq (hC:bq C X cl d)(hgl:X.env.scope.names.lookup ("list":Str)=some .globalImplicit)(hg:X.env.scope.names.lookup ("range":Str)=some .globalImplicit)(hs:zJ x=true)(ha:PE X x (aT X.K (af cl a))):
  PE X (.Call (.Name "list" p) [.Call (.Name "range" p') [x] [] pos'] [] pos) (aT X.K (af cl (.lrng a))):=by
 refine PE.imp (FF hC.calm hgl (hC.blt _ (by simp[zF])) hg (hC.blt _ (by simp[zF])) (yu ha xO (zB hs)) (zB hs)) λσ H Q h=>?_;obtain⟨as,env,m,S,G,P⟩:=h;refine⟨as,env,m,S,G,ay.bind P λw m1 as1 H1 v T1 S1 R1 P1=>?_⟩;cases w with
 |int j=>
  obtain rfl:=aa.mp R1;have hlim:(aq:Int)=100000:=rfl;have P1':ay X.K as1 H1 Q (if -(aq:Int)<=j/\j<=aq then alloc m1 (jN 0 1 j.toNat)else .no):=P1;by_cases hc:-(aq:Int)<=j/\j<=aq
  .rw[MN hc]at P1';obtain⟨h1,h2⟩:=wR S1 (gl 1 j.toNat 0) P1';have hz:j.toNat<=sizeLine:=Qp (by have:aq=100000:=rfl;lia) xl;exact⟨j,rfl,by lia,by lia,hz,h2⟩
  .rw[MO hc]at P1';exact P1'.elim
 |_=>exact P1.elim
end
end Mini
namespace L2
open PySem PySem.Spec PyProof.Rows
section
variable{X:Cx}{pins:List (Addr×Obj)}{σ:St}{H:Hp}{s:Shared}{h':Ld}
def Inv.turnedT{t':Nat}{ch:List Addr}{T:Addr}{xs:List V}{its:List Value}(I:Inv X pins σ H s)(hf:∀b∈ch,jL X pins H b)(k:∀b o,b∉ch->s.heap.get? b=some o->h'.get? b=some o)
  (hT:s.heap.objs.size<=T) (hz:xs.length<=sizeLine) (hv:aA xs its) (ht:IsTup h' T its.toArray):Inv X pins σ (aJ H T (.tup xs)) {s with heap:=h',toks:=t' }:=by
 have hn:H T=none:=I.hok.fresh hT;have nit:∀b u,H b=some u->b∉ch:=λb u e z=>by rw[(hf b z).1]at e;cases e
 have up:∀b u,H b=some u->aJ H T (.tup xs) b=some u:=λb u e=>by rw[zi (zt e hn)];exact e
 refine I.step (g':=s.gens) (d':=s.drawn) (ch:=ch) (λb hb=>?_) (λb o _ _ hc e _=>k b o hc e) (λb o _ _ hc e _=>⟨o.slots,k b o hc e⟩) (λb o hc e n=>?_)
  (λb o hc e=>⟨o,k b o hc e⟩) (λb _ e=>up b _ e) (λb _ _ e=>up b _ e) (λb ps e=>⟨#[],by rw[up b _ e];simp⟩) (λm hm=>?_) (λb u e=>?_) I.bare
 .obtain ⟨f0,f1,f2,f3,f4,f5⟩:=hf b hb;exact⟨f3,f1,f4,f5⟩
 .rw[zi (QL (Qh (Qu e) hT))];exact n
 .obtain ⟨o,es,ep,ho,r⟩:=hm;exact⟨o,es,ep,k _ o (λz=>(hf _ z).2.1 rfl) ho,r⟩
 .by_cases hb:b=T
  .subst hb;rw[zn]at e;cases e;exact⟨hz,its,hv,ht⟩
  .rw[zi hb]at e;refine(I.hok b u e).stay (λc v hc q=>k c v ?_ q) (λc q=>up c _ q) λc _ q=>up c _ q;rcases hc with z|z
   .rw[z];exact nit b u e
   .exact nit c _ z
def Inv.turnedL{t':Nat}{ch:List Addr}(I:Inv X pins σ H s)(hf:∀b∈ch,jL X pins H b)(k:∀b o,b∉ch->s.heap.get? b=some o->h'.get? b=some o):Inv X pins σ H {s with heap:=h',toks:=t' }:=by
 have nit:∀b u,H b=some u->b∉ch:=λb u e z=>by rw[(hf b z).1]at e;cases e
 refine I.step (g':=s.gens) (d':=s.drawn) (ch:=ch) (λb hb=>?_) (λb o _ _ hc e _=>k b o hc e) (λb o _ _ hc e _=>⟨o.slots,k b o hc e⟩) (λb o hc e n=>n)
  (λb o hc e=>⟨o,k b o hc e⟩) (λb _ e=>e) (λb _ _ e=>e) (λb ps e=>⟨#[],by rw[e];simp⟩) (λm hm=>?_) (λb u e=>?_) I.bare
 .obtain ⟨f0,f1,f2,f3,f4,f5⟩:=hf b hb;exact⟨f3,f1,f4,f5⟩
 .obtain ⟨o,es,ep,ho,r⟩:=hm;exact⟨o,es,ep,k _ o (λz=>(hf _ z).2.1 rfl) ho,r⟩
 .refine (I.hok b u e).stay (λc v hc q=>k c v ?_ q) (λc q=>q) λc _ q=>q;rcases hc with z|z
  .rw[z];exact nit b u e
  .exact nit c _ z
end
noncomputable def Yp(H:Hp)(v:V)(H':Hp)(x y:V):Prop:=∃T,H T=none/\v=.ref T/\H'=aJ H T (.tup [x,y])
noncomputable def rO(K:Qb)(c:Nat)(l:Addr):It:=
 ⟨λi H=>∃xs x,bE K H l xs/\xs[i]?=some x,
  λi H v H'=>∃x,Yp H v H' (.int ((i+c:Nat):Int)) x/\∀xs,bE K H l xs->xs[i]?=some x,
  λi H=>∃xs,bE K H l xs/\xs.length<=i⟩
def Hy (hh:A.handled=none)(it l:Addr)(hne:l≠it)(items:Array Value)(c:Nat):
  Draws prog w A it [it,l] (items.size+c) (λi x=>∃j,i=j+c/\items[j]?=some x) (λi h=>∃j,i=j+c/\h.IsListIter it l j/\h.IsList l items):=by
 have D:=Draws.list (prog:=prog) (w:=w) hh it l hne items;refine⟨λi h st=>?_,λi h h' st k=>?_,λi s Q E hi st hQ=>?_,λs Q E st hE=>?_⟩
 .obtain ⟨j,_,h1,h2⟩:=st;exact D.live j h ⟨h1,h2⟩
 .obtain ⟨j,e,h1,h2⟩:=st;obtain⟨q1,q2⟩:=D.frame j h h' ⟨h1,h2⟩ k;exact⟨j,e,q1,q2⟩
 .obtain ⟨j,rfl,h1,h2⟩:=st;refine D.item j s Q E (by lia) ⟨h1,h2⟩ λx h' tk p q sb=>hQ x h' tk ⟨j,rfl,p⟩ ⟨j+1,by lia,q.1,q.2⟩ sb
 .obtain ⟨j,e,h1,h2⟩:=st;have e':j=items.size:=by lia
  subst e';exact D.done s Q E ⟨h1,h2⟩ hE
def GY (hh:A.handled=none)(it l:Addr)(items:Array Value)(hi:items[i]?=none):
  Draws prog w A it [it,l] 0 (λ_ _=>True) (λk h=>k=0/\h.IsListIter it l i/\h.IsList l items):=by
 refine⟨λk h st=>?_,λk h h' st q=>?_,λk s Q E hk st hQ=>MP hk (Nat.not_lt_zero _),λs Q E st hE=>?_⟩
 .obtain ⟨o,ho,_⟩:=st.2.1;exact⟨o,ho⟩
 .exact ⟨st.1,st.2.1.at λo e=>q it (by simp) o e,st.2.2.at λo e=>q l (by simp) o e⟩
 .exact wpAny_nextOf_list_end hh st.2.1 st.2.2 hi hE
def Hx {K:Qb}(c:Nat)(e it l:Addr)(hei:e≠it)(hle:l≠e)(hli:l≠it):
  dF P w K (.Tuple elts k pt) (rO K c l) [e,it] e (λi h=>(∃old,IsEnum h e it ((i+c:Nat):Int) old)/\h.IsListIter it l i) where
 mem:=by simp
 obj:=λi h st b hb=>by
  obtain⟨⟨old,he⟩,o1,e1,c1,d1⟩:=st;simp only[Qr,Wv,or_false]at hb;rcases hb with rfl|rfl
  .exact ⟨_,he,λv z=>by cases z⟩
  .exact ⟨_,e1,λv z=>by rw[d1]at z;cases z⟩
 keep:=λi h h' st k=>by
  obtain⟨⟨old,he⟩,h1⟩:=st;exact⟨⟨old,k e (by simp) _ he⟩,h1.at λo q=>k it (by simp) o q⟩
 item:=by
  intro X hP hw hK hc i pins s σ H E I hf st hg;subst hP hw hK;obtain⟨xs,x,hq1,hx⟩:=hg;obtain⟨its1,rv1,p1,_⟩:=I.list hq1;obtain⟨u,hu,ru⟩:=rv1.get hx;obtain⟨⟨old,he⟩,h1⟩:=st;have hil:i<its1.length:=(Qa.mp hu).1;have D:=Hy (prog:=X.prog) (w:=X.w) (A:=X.A.in1) (I.ok.hd hc) it l hli its1.toArray c;refine wpAny_pyNext_enum_itemD D he ⟨i,rfl,h1,p1.isList⟩ (by simp;lia) hei (by simp[hei,Ne.symm hle]) λx' h' tk px a1 st' a3 a4 hk=>?_;obtain⟨j,ej,hj⟩:=px;have ej':i=j:=by lia
  subst ej';have hxu:x'=u:=by
   have:its1[i]?=some x':=by simpa using hj
   rw[hu]at this;cases this;rfl
  subst hxu;obtain⟨j',ej',a2,_⟩:=st';have e2:j'=i+1:=by lia
  subst e2;refine⟨_,rfl,wpAny_letOwnedTupleGo_enum (s:={s with heap:=h',toks:=tk+1}) a1 λh'' he' hs'=>?_⟩;have sT:e<s.heap.objs.size:=Qu he;have kk:∀b o,b∉[e,it]->s.heap.get? b=some o->h''.get? b=some o:=λb o hb q=>
   (hs'.2 b λz=>hb (by simp[z])).trans (hk b o (λz=>hb (by simp[z])) (λz=>hb (by simp[z])) q)
  refine⟨.ref s.heap.objs.size,aJ H s.heap.objs.size (.tup [.int ((i+c:Nat):Int),x]),?_,rfl,⟨x,⟨_,I.hok.fresh (Qk _),rfl,rfl⟩,λzs hz=>by rw[I.list_inj hz hq1];exact hx⟩,?_,?_⟩
  .have I1:Inv X pins σ (aJ H s.heap.objs.size (.tup [.int ((i+c:Nat):Int),x])) {s with heap:=h'',toks:=tk+1}:=Inv.turnedT (s:=s) (its:=[.int ((i+c:Nat):Int) tk,x']) I hf kk (Qk _) (show(2:Nat)<=sizeLine by decide) (.cons ⟨_,rfl⟩ (.cons ru .nil)) ⟨_,(hs'.2 _ (WQ sT)).trans a3,rfl,_,rfl⟩;exact I1
  .refine ⟨⟨x',?_⟩,a2.at λo q=>(hs'.2 it hei.symm).trans q⟩;have:((i+1+c:Nat):Int)=((i+c:Nat):Int)+1:=by lia
   rw[this];exact he'
  .intro b hb;have hlt:b<s.heap.objs.size:=by
    simp only[Qr,Wv,or_false]at hb;obtain⟨_,e1,_⟩:=h1;rcases hb with rfl|rfl
    .exact sT
    .exact Qu e1
   rw[zi (QL hlt)];exact(hf b hb).1
 done:=by
  intro X hP hw hK hc i pins s σ H E I hf st hg;subst hP hw hK;obtain⟨xs,hq1,hx⟩:=hg;obtain⟨its1,rv1,p1,_⟩:=I.list hq1;obtain⟨⟨old,he⟩,h1⟩:=st;have l1:=rv1.length;have D:=GY (prog:=X.prog) (w:=X.w) (A:=X.A.in1) (I.ok.hd hc) it l its1.toArray (i:=i) (by simp;lia);refine wpAny_pyNext_enum_endD D he ⟨rfl,h1,p1.isList⟩ λh' hk=>⟨rfl,?_⟩;exact I.turnedL (t':=s.toks) hf λb o hb q=>hk b o (λz=>hb (by simp[z])) q
 self:=λ_ _ _ _ _ st h=>by
  obtain⟨⟨old,he⟩,_⟩:=st;exact wpAny_pyIter_enum he h
section
variable{X:Cx}{elts:List Expr}{k:Nat}{pt:Pos}
noncomputable def sH(K:Qb)(c:Nat)(ta:TA):TI:=λσ H R=>ta σ H λvs H1=>∃l xs,vs=[.ref l]/\bE K H1 l xs/\R (rO K c l) H1
def Fp (hg:Gl X "enumerate")(hm:X.mg "enumerate"=none)(ha:PA X [a] ta)(hs:Lp [a] X.env=[(false,eval a X.env)]:=by rfl):
  PI X (.Tuple elts k pt) (.Call (.Name "enumerate" p) [a] [] pos) (sH X.K 0 ta):=by
 intro pins s σ H R I h;refine Call_ (kh I hg hm PyProof.Rows.boot_enumerate (PyProof.Rows.callWith_type1 (bc (ha pos pins s σ H _ I h) λus s1 ⟨vs,H1,I1,r1,q1⟩=>?_) hs rfl));obtain⟨l,xs,e,g1,q⟩:=q1;subst e;cases r1 with
 |cons r rr=>
  cases rr;cases r;obtain⟨its1,rv1,p1,_⟩:=I1.list g1;have t1:l<s1.heap.objs.size:=by obtain⟨o,e,_⟩:=p1.isList;exact Qu e
  refine call_enumerate_list p1.isList λh' he hi hsz hk=>?_;refine wpAny_pyIter_enum (s:={s1 with heap:=h' }) he ?_;refine⟨_,_,_,_,H1,rfl,I1.kept (t':=s1.toks) hk,Hx 0 (s1.heap.objs.size+1) s1.heap.objs.size l (Nat.succ_ne_self _) (QL (Vg t1)) (QL t1),⟨⟨_,he⟩,hi⟩,λb hb=>?_,q⟩;have hb':s1.heap.objs.size<=b:=by
   simp only[Qr,Wv,or_false]at hb;rcases hb with rfl|rfl
   .exact Nat.le_add_right _ _
   .exact Qk _
  exact I1.fpOk hb' (I1.hok.fresh hb')
end
end L2
namespace L2
open PySem PySem.Spec PyProof.Rows
open AutoSeq1 (wpAny_loadPart')
end L2
namespace L2
open PySem PySem.Spec PyProof.Rows
end L2
namespace Mini
open PySem PySem.Spec PyProof.Rows L2
section
variable{cl:Nat->List Wd->Me->Rz}{K:Qb}
def aR.updD{as:List Addr}{m:Me}{H:Hp}{D:Addr}{ys:List V}{o:HO}(S:aR K as m H)(hD:H D=some (.lst ys))(hn:D∉as):aR K as m (aJ H D o):=by
 refine⟨S.len,S.nd,λl b ob h1 h2=>?_⟩;have q:=S.obj l b ob h1 h2;have hb:b≠D:=by rintro rfl;exact hn (QC h1)
 cases ob with
 |lst zs=>
  obtain⟨us,e,r⟩:=q;exact⟨us,by rw[zi hb];exact e,r.kp (Kp.upd hD)⟩
def aR.join{as:List Addr}{m:Me}{H:Hp}{D:Addr}{ys:List V}{acc:List Wd}(S:aR K as m H)(hD:H D=some (.lst ys))(hn:D∉as)(R:ae K as H acc ys):aR K (as++[D]) (m++[.lst acc]) H:=by
 have g:∀(l:Nat) (a:Addr),as[l]?=some a->(as++[D])[l]?=some a:=λl a e=>by
  rw[Qs (Qa.mp e).1];exact e
 have kp:Kp K H H:=⟨λ_ _ h=>h,λ_ _ h=>h⟩;refine⟨by simp[S.len],?_,λl b o h1 h2=>?_⟩
 .refine Qt.mpr ⟨S.nd,by simp,λx hx y hy=>?_⟩;rw[QN.mp hy];rintro rfl;exact hn hx
 .by_cases hl:l<as.length
  .rw[Qs hl]at h1;rw[Qs (by rw[<-S.len];exact hl)]at h2;have q:=S.obj l b o h1 h2;cases o with
   |lst zs=>
    obtain⟨us,e,r⟩:=q;exact⟨us,e,bt kp g _ _ r⟩
  .rw[Qo (by lia)]at h1;rw[Qo (by rw[<-S.len];lia)]at h2;have hz:l-as.length=0:=by
    cases hq:l-as.length with
    |zero=>rfl
    |succ k=>rw[hq]at h1;simp at h1
   rw[hz]at h1;rw[<-S.len,hz]at h2;simp at h1 h2;subst h1;subst h2;exact⟨ys,hD,bt kp g _ _ R⟩
def Step.updD{as as':List Addr}{H H':Hp}{D:Addr}{o:HO}(T:Step as H as' H')(hD:H D=none):Step as H as' (aJ H' D o):=
 ⟨T.pre,λb ob h hb=>by rw[zi (zt h hD)];exact T.frame b ob h hb,T.fresh⟩
def Step.join{as as':List Addr}{H H':Hp}{D:Addr}(T:Step as H as' H')(hD:H D=none):Step as H (as'++[D]) H':=by
 refine⟨?_,T.frame,λa ha=>?_⟩
 .obtain ⟨t,rfl⟩:=T.pre;exact⟨t++[D],by simp⟩
 .rcases Qz.mp ha with z|z
  .exact T.fresh a z
  .rw[QN.mp z];exact .inr hD
def ku (S:aR K as' m H')(T:Step as H as' H')(h0:H D=none)(hD:H' D=some (.lst ys))(hn:D∉as')(R:ae K as' H' acc ys)(h:ay K as H Q (alloc m acc)):Q (.ref D) H':=by
 unfold Mini.alloc at h;split at h
 .refine h (as'++[D]) H' (.ref D) (T.join h0) (S.join hD hn R) (aM.mpr ⟨D,?_,rfl⟩);rw[<-S.len,Qo (Qk _)];simp
 .exact h.elim
structure cY(K:Qb)(as:List Addr)(H:Hp)(D:Addr)(env:En)(σ:St)(as':List Addr)(m':Me)(acc:List Wd)(ys:List V)(H':Hp):Prop where
 T:Step as H as' H'
 S:aR K as' m' H'
 hD:H' D=some (.lst ys)
 n:D∉as'
 R:ae K as' H' acc ys
 G:aD K as' H' env σ
def cY.go{as:List Addr}{H:Hp}{D:Addr}{env:En}{σ:St}{as' as2:List Addr}{m' m2:Me}{acc:List Wd}{ys:List V}{H' H2:Hp}(M:cY K as H D env σ as' m' acc ys H')(U:Step as' H' as2 H2)(S2:aR K as2 m2 H2):cY K as H D env σ as2 m2 acc ys H2:=
 ⟨M.T.trans U,S2,U.frame _ _ M.hD M.n,U.out M.hD M.n,M.R.mono M.S U,M.G.mono M.S U⟩
def cY.push{as:List Addr}{H:Hp}{D:Addr}{env:En}{σ:St}{as':List Addr}{m':Me}{acc:List Wd}{ys:List V}{H':Hp}{w:Wd}{v:V}(M:cY K as H D env σ as' m' acc ys H')(h0:H D=none)(R:ai K as' H' w v):
  cY K as H D env σ as' m' (acc++[w]) (ys++[v]) (aJ H' D (.lst (ys++[v]))):=by
 have kp:Kp K H' (aJ H' D (.lst (ys++[v]))):=Kp.upd M.hD;exact⟨M.T.updD h0,M.S.updD M.hD M.n,zn,M.n,(M.R.append (.one R)).kp kp,M.G.kp kp⟩
set_option tactic.hygienic true in
def jk{elt cond:Ex}{tc:TT}(htc:∀σ H Q,wu K (af cl cond) σ H Q->tc σ H Q){as1 as':List Addr}{H1 H':Hp}{D:Addr}{env ex:En}{σ sx:St}{m':Me}{acc:List Wd}{ys:List V}{Q:VK}{next:List Wd->Me->Rz}{N:List V->Hp->Prop}
  (h0:H1 D=none) (M:cY K as1 H1 D env σ as' m' acc ys H') (G:aD K as' H' (env++ex) (σ++sx))
  (Pt:ay K as1 H1 Q ((af cl cond (env++ex) m').bind λb m1=>match b with
     |.bl true=>(af cl elt (env++ex) m1).bind λy m2=>if acc.length<aq then next (acc++[y]) m2 else .no
     |.bl false=>next acc m1
     |_=>.no))
  (hN:∀as2 m2 acc' ys' H2,Kp K H' H2->(∀(l:Nat) (a:Addr),as'[l]?=some a->as2[l]?=some a)->cY K as1 H1 D env σ as2 m2 acc' ys' H2->ay K as1 H1 Q (next acc' m2)->N ys' H2) :
  tc (σ++sx) H' λb H2=>if b=true then aT K (af cl elt) (σ++sx) H2 λy H3=>H3 D=some (.lst ys)/\ys.length<sizeLine/\N (ys++[y]) (aJ H3 D (.lst (ys++[y])))else N ys H2:=by
 refine htc _ _ _ ⟨as',env++ex,m',M.S,G,lY Pt M.T λwb m2 as2 H2 vb T2 S2 R2 P2=>?_⟩;have M2:=M.go T2 S2;cases wb with
 |bl k=>
  obtain rfl:=ah.mp R2;refine⟨k,rfl,?_⟩;cases k with
  |false=>exact gW (hN as2 m2 acc ys H2 (M.S.kp T2) (λ_ _ e=>T2.get e) M2 P2)
  |true=>
   refine gX ⟨as2,env++ex,m2,S2,G.mono M.S T2,lY P2 M2.T λwy m3 as3 H3 vy T3 S3 R3 P3=>?_⟩;have M3:=M2.go T3 S3;have P3':ay K as1 H1 Q (if acc.length<aq then next (acc++[wy]) m3 else .no):=P3;by_cases hl:acc.length<aq
   .rw[MN hl]at P3';refine⟨M3.hD,by rw[<-M3.R.length];exact Qh hl xl,hN as3 m3 (acc++[wy]) (ys++[vy]) _ ?_ (λ_ _ e=>T3.get (T2.get e)) (M3.push h0 R3) P3'⟩;have k1:=M.S.kp T2;have k2:=S2.kp T3;have k3:Kp K H3 (aJ H3 D (.lst (ys++[vy]))):=Kp.upd M3.hD;exact⟨λa vs q=>k3.t _ _ (k2.t _ _ (k1.t _ _ q)),λa vs q=>k3.f _ _ (k2.f _ _ (k1.f _ _ q))⟩
   .rw[MO hl]at P3';exact P3'.elim
 |_=>exact P2.elim
def cY.start{as as1:List Addr}{H H1:Hp}{D:Addr}{env:En}{σ:St}{m1:Me}(S1:aR K as1 m1 H1)(G1:aD K as1 H1 env σ)(hD:H1 D=none):cY K as1 H1 D env σ as1 m1 [] [] (aJ H1 D (.lst [])):=by
 have T:Step as1 H1 as1 (aJ H1 D (.lst [])):=Step.updD .refl hD;exact⟨T,S1.keep T λb _ o e=>by rw[zi (zt e hD)];exact e,zn,S1.new hD,aB.mpr rfl,G1.mono S1 T⟩
noncomputable def tU(K:Qb)(as:List Addr)(H:Hp)(J:It)(g:Nat->Me->Option (Option (Wd×Wd))):Prop:=
 ∀(as':List Addr) (m':Me) (H':Hp),(∀(l:Nat) (a:Addr),as[l]?=some a->as'[l]?=some a)->Step as H as' H'->aR K as' m' H'->∀i,
  (g i m'=some none->J.stop i H')/\∀x y,g i m'=some (some (x,y))->J.go i H'/\∀v H'',J.yld i H' v H''->∃x' y',Yp H' v H'' x' y'/\ai K as' H' x x'/\ai K as' H' y y'
def IT {cond:Ex}{tc:TT}(htc:∀σ H Q,wu K (af cl cond) σ H Q->tc σ H Q)(hJ:tU K as1 H1 J g)(S1:aR K as1 m1 H1)(G1:aD K as1 H1 env σ)(P:ay K as1 H1 Q (xD (λu v m=>af cl cond (env++[some u]++[some v]) m) (λu v m=>af cl elt (env++[some u]++[some v]) m) g (aq+1) 0 [] m1)):
  ∀D,H1 D=none->∃W:Nat->Nat->List V->Hp->Prop,(∃m,W 0 m [] (aJ H1 D (.lst [])))/\∀i m ys H,W i m ys H ->
   (J.stop i H/\Q (.ref D) H)\/(J.go i H/\∀v H',J.yld i H v H'->∃vs,oq K v H' vs/\tc (σ++vs.map some) H' λb H2=>if b=true then aT K (af cl elt) (σ++vs.map some) H2 λy H3=>H3 D=some (.lst ys)/\ys.length<sizeLine/\∃m',m'<m/\W (i+1) m' (ys++[y]) (aJ H3 D (.lst (ys++[y])))
    else ∃m',m'<m/\W (i+1) m' ys H2):=by
 intro D hD;refine⟨λi n ys H'=>∃as' m' acc,(∀(l:Nat) (a:Addr),as1[l]?=some a->as'[l]?=some a)/\cY K as1 H1 D env σ as' m' acc ys H' /\
  ay K as1 H1 Q (xD (λu v m=>af cl cond (env++[some u]++[some v]) m) (λu v m=>af cl elt (env++[some u]++[some v]) m) g n i acc m'),⟨aq+1,as1,m1,[],λ_ _ e=>e,cY.start (as:=as1) (H:=H1) S1 G1 hD,P⟩,?_⟩
 rintro i n ys H' ⟨as',m',acc,hl,M,Pi⟩;cases n with
 |zero=>exact Pi.elim
 |succ n=>
  unfold xD at Pi;obtain⟨q1,q2⟩:=hJ as' m' H' hl M.T M.S i;cases e:g i m' with
  |none=>rw[e]at Pi;exact Pi.elim
  |some o=>
   rw[e]at Pi;cases o with
   |none=>exact .inl ⟨q1 e,ku M.S M.T hD M.hD M.n M.R Pi⟩
   |some p=>
    obtain⟨x,y⟩:=p;simp only[]at Pi;obtain⟨go,yl⟩:=q2 x y e;refine .inr ⟨go,λv H'' hy=>?_⟩;obtain⟨x',y',⟨T,hT,rfl,rfl⟩,Rx,Ry⟩:=yl v H'' hy;refine⟨[x',y'],⟨T,rfl,bU.of zn,rfl⟩,?_⟩;have U:Step as' H' as' (aJ H' T (.tup [x',y'])):=Step.updD .refl hT;have S2:aR K as' m' (aJ H' T (.tup [x',y'])):=M.S.keep U λb _ o e=>by rw[zi (zt e hT)];exact e
    have M2:=M.go U S2;have G2:aD K as' (aJ H' T (.tup [x',y'])) (env++[some x,some y]) (σ++[x',y'].map some):=by
     have:=(M2.G.push (Rx.mono M.S U)).push (Ry.mono M.S U);simpa using this
    refine jk htc (ex:=[some x,some y]) (next:=λacc m=>xD (λu v m=>af cl cond (env++[some u]++[some v]) m) (λu v m=>af cl elt (env++[some u]++[some v]) m) g n (i+1) acc m)
     (N:=λzs H2=>∃n',n'<n+1/\∃as' m' acc,(∀(l:Nat) (a:Addr),as1[l]?=some a->as'[l]?=some a)/\cY K as1 H1 D env σ as' m' acc zs H2/\ay K as1 H1 Q (xD (λu v m=>af cl cond (env++[some u]++[some v]) m) (λu v m=>af cl elt (env++[some u]++[some v]) m) g n' (i+1) acc m')) hD M2 G2 (by rw[show env++[some x]++[some y]=env++[some x,some y]from by simp]at Pi;exact Pi) ?_
    intro as2 m2 acc' ys' H2 kp gg M3 P3;exact⟨n,WI _,as2,m2,acc',λl a e=>gg _ _ (hl l a e),M3,P3⟩
def Je (ha:as[la]?=some a):tU K as H (rO K c a) (yU .enum (.ref la) (.int (c:Int))):=by
 intro as' m' H' hl T S i;simp only[yU];cases e1:zK m' la with
 |none=>exact⟨λz=>by simp at z,λx y z=>by simp at z⟩
 |some xs=>
  obtain⟨a',us,ha',eH,RL⟩:=yH S (yD e1);rw[hl _ _ ha]at ha';cases ha';simp only;cases ex:xs[i]? with
  |none=>
   refine⟨λ_=>⟨us,bE.of eH,?_⟩,λx y z=>by simp at z⟩;rw[<-RL.length];exact Wk.mp ex
  |some x=>
   refine⟨λz=>by simp at z,λx2 y2 z=>?_⟩;simp only[QJ,Option.some.injEq,Prod.mk.injEq]at z;obtain⟨rfl,rfl⟩:=z;obtain⟨u0,hu0,Ru⟩:=RL.get ex;refine⟨⟨us,u0,bE.of eH,hu0⟩,λv H'' hy=>?_⟩;obtain⟨p,yp,k1⟩:=hy;have:=k1 us (bE.of eH);rw[hu0]at this;cases this;exact⟨_,_,yp,aa.mpr (by congr 1;lia),Ru⟩
def eP:(Rz.ok w m).bind f=f w m:=rfl
def IS (h:g i m=none):xD c e g (k+1) i acc m=.no:=by
 unfold xD;rw[h]
set_option tactic.hygienic true in
def Jd (e:yU .enum w w2 i m=some o):∃la xs,w=.ref la/\zK m la=some xs:=by
 unfold yU at e;split at e
 .next h=>cases h
 .next la s _=>
  split at e
  .next xs e1=>exact⟨la,xs,rfl,e1⟩
  .cases e
 .contradiction
 .contradiction
 .cases e
def IR {c:Nat}(hz:z=(c:Int)){cond:Ex}(htc:∀σ H Q,wu K (af cl cond) σ H Q->tc σ H Q)(h:aT K (af cl (.compP .enum elt a (.lit (.int z)) cond)) σ H Q):
  iq (oq K) (sH K c (mS (aT K (af cl a)) mw)) tc (aT K (af cl elt)) σ H Q:=by
 subst hz;obtain⟨as,env,m,S,G,P⟩:=h;have hl:∀m1,af cl (.lit (.int (c:Int))) env m1=.ok (.int (c:Int)) m1:=λ_=>rfl;have P':ay K as H Q ((af cl a env m).bind λx m1=>(af cl (.lit (.int (c:Int))) env m1).bind λy m2=>
  xD (λu v m=>af cl cond (env++[some u]++[some v]) m) (λu v m=>af cl elt (env++[some u]++[some v]) m) (yU .enum x y) (aq+1) 0 [] m2):=P
 refine⟨as,env,m,S,G,lY P' .refl λw m1 as1 H1 v T1 S1 R1 P1=>?_⟩;rw[hl,eP]at P1;have P3:=ay.step P1 T1;have look:∃la xs,w=.ref la/\zK m1 la=some xs:=by
  cases e:yU .enum w (.int (c:Int)) 0 m1 with
  |none=>rw[IS e]at P3;exact P3.elim
  |some o=>exact Jd e
 obtain⟨la,xs,rfl,e1⟩:=look;obtain⟨a1,ha1,rfl⟩:=aM.mp R1;obtain⟨a',us,ha',eH,RL⟩:=yH S1 (yD e1);rw[ha1]at ha';cases ha';exact⟨a1,us,rfl,bE.of eH,IT htc (Je ha1) S1 (G.mono S T1) P3⟩
def qo {cond:Ex}(htc:∀σ H Q,wu K (af cl cond) σ H Q->tc σ H Q)(h:aT K (af cl (.comp elt it cond)) σ H Q):
  iq ou (iB K (af cl it)) tc (aT K (af cl elt)) σ H Q:=by
 obtain⟨as,env,m,S,G,P⟩:=h;refine⟨as,env,m,S,G,?_⟩;have P':ay K as H Q ((af cl it env m).bind λx m1=>match x with
  |.tup xs=>xS (λx m=>af cl cond (env++[some x]) m) (λx m=>af cl elt (env++[some x]) m) xs [] m1
  |.rol xs=>xS (λx m=>af cl cond (env++[some x]) m) (λx m=>af cl elt (env++[some x]) m) xs [] m1
  |.ref l=>xT (λx m=>af cl cond (env++[some x]) m) (λx m=>af cl elt (env++[some x]) m) l (aq+1) 0 [] m1
  |_=>.no):=P
 clear P;cases hr:af cl it env m with
 |no=>rw[hr]at P';exact P'
 |exc c w m'=>rw[hr]at P';exact P'
 |ok w m1=>
  rw[hr]at P';have start:∀{as1:List Addr}{H1:Hp}{D:Addr},Step as H as1 H1->aR K as1 m1 H1->H1 D=none->cY K as1 H1 D env σ as1 m1 [] [] (aJ H1 D (.lst [])):=λ{as1 H1 D} T1 S1 hD=>cY.start (as:=as) (H:=H) S1 (G.mono S T1) hD
  -- over items that stay
  have seqs:∀(xs:List Wd),ay K as H Q (xS (λx m=>af cl cond (env++[some x]) m) (λx m=>af cl elt (env++[some x]) m) xs [] m1) ->
    ∀as1 H1 J,Step as H as1 H1->aR K as1 m1 H1->iX K as1 H1 J xs->∀D,H1 D=none->∃W:Nat->Nat->List V->Hp->Prop,(∃m,W 0 m [] (aJ H1 D (.lst [])))/\∀i m ys H,W i m ys H ->
     (J.stop i H/\Q (.ref D) H)\/(J.go i H/\∀v H',J.yld i H v H'->∃vs,ou v H' vs/\tc (σ++vs.map some) H' λb H2=>if b=true then aT K (af cl elt) (σ++vs.map some) H2 λy H3=>H3 D=some (.lst ys)/\ys.length<sizeLine/\∃m',m'<m/\W (i+1) m' (ys++[y]) (aJ H3 D (.lst (ys++[y])))
      else ∃m',m'<m/\W (i+1) m' ys H2):=by
   intro xs Pc as1 H1 J T1 S1 hI D hD;obtain⟨vs,ok,hJ,ok1,RL,stab⟩:=hI;have Pc1:=ay.step Pc T1;have hlen:=RL.length;refine⟨λi n ys H'=>∃as' m' acc,i<=xs.length/\n=xs.length-i/\cY K as1 H1 D env σ as' m' acc ys H'/\ok H'/\ae K as' H' xs vs /\
    ay K as1 H1 Q (xS (λx m=>af cl cond (env++[some x]) m) (λx m=>af cl elt (env++[some x]) m) (xs.drop i) acc m'),
    ⟨xs.length,as1,m1,[],Vk _,rfl,start T1 S1 hD,stab _ _ (S1.kp (start T1 S1 hD).T) ok1,RL.mono S1 (start T1 S1 hD).T,Pc1⟩,?_⟩
   rintro i n ys H' ⟨as',m',acc,hi,rfl,M,okH,RL',Pi⟩;by_cases hlt:i<xs.length
   .refine .inr ⟨hJ.go i H' okH (by rw[<-hlen];exact hlt),λv H'' hy=>?_⟩;obtain⟨rfl,hv⟩:=hJ.yld i H' v H'' okH (by rw[<-hlen];exact hlt) hy;obtain⟨v',hv',Rx⟩:=RL'.get (i:=i) (x:=xs[i]) (by simp[hlt]);rw[hv]at hv';cases hv';rw[Vt hlt]at Pi;refine⟨[v],rfl,jk htc (sx:=[some v]) (next:=λacc m=>xS (λx m=>af cl cond (env++[some x]) m) (λx m=>af cl elt (env++[some x]) m) (xs.drop (i+1)) acc m) (N:=λzs H2=>∃n',n'<xs.length-i/\∃as' m' acc,i+1<=xs.length/\n'=xs.length-(i+1)/\cY K as1 H1 D env σ as' m' acc zs H2/\ok H2/\ae K as' H2 xs vs/\ay K as1 H1 Q (xS (λx m=>af cl cond (env++[some x]) m) (λx m=>af cl elt (env++[some x]) m) (xs.drop (i+1)) acc m')) hD M (M.G.push Rx) Pi ?_⟩;intro as2 m2 acc' ys' H2 kp g M2 P2;exact⟨xs.length-(i+1),by lia,as2,m2,acc',hlt,rfl,M2,stab _ _ kp okH,bt kp g _ _ RL',P2⟩
   .have e:i=xs.length:=by lia
    subst e;rw[List.drop_length]at Pi;exact .inl ⟨hJ.stop _ H' okH (by lia),ku M.S M.T hD M.hD M.n M.R Pi⟩
  cases w with
  |tup xs=>exact⟨rfl,λas1 H1 J T1 S1 hI=>seqs xs P' as1 H1 J T1 S1 hI⟩
  |rol xs=>exact⟨rfl,λas1 H1 J T1 S1 hI=>seqs xs P' as1 H1 J T1 S1 hI⟩
  |ref l=>
   have P2:ay K as H Q (xT (λx m=>af cl cond (env++[some x]) m) (λx m=>af cl elt (env++[some x]) m) l (aq+1) 0 [] m1):=P';refine⟨?_,λas1 H1 J T1 S1 hI D hD=>?_⟩
   .show (zK m1 l).isSome=true;cases e:zK m1 l with
    |some xs=>rfl
    |none=>
     unfold xT at P2;rw[e]at P2;exact P2.elim
   .obtain ⟨a,ha,rfl⟩:=hI;have Pc1:=ay.step P2 T1;refine⟨λi n ys H'=>∃as' m' acc,as'[l]?=some a/\cY K as1 H1 D env σ as' m' acc ys H' /\
     ay K as1 H1 Q (xT (λx m=>af cl cond (env++[some x]) m) (λx m=>af cl elt (env++[some x]) m) l n i acc m'),⟨aq+1,as1,m1,[],ha,start T1 S1 hD,Pc1⟩,?_⟩
    rintro i n ys H' ⟨as',m',acc,hl,M,Pi⟩;cases n with
    |zero=>exact Pi.elim
    |succ n=>
     unfold xT at Pi;cases e:zK m' l with
     |none=>rw[e]at Pi;exact Pi.elim
     |some xs=>
      rw[e]at Pi;simp only[]at Pi;obtain⟨a',vs,ha',eH,RL⟩:=yH M.S (yD e);rw[hl]at ha';cases ha';cases ex:xs[i]? with
      |none=>
       rw[ex]at Pi;have hle:vs.length<=i:=by rw[<-RL.length];exact Wk.mp ex
       exact .inl ⟨⟨vs,bE.of eH,hle⟩,ku M.S M.T hD M.hD M.n M.R Pi⟩
      |some x=>
       rw[ex]at Pi;obtain⟨v0,hv0,Rx⟩:=RL.get ex;refine .inr ⟨⟨vs,v0,bE.of eH,hv0⟩,λv H'' hy=>?_⟩;obtain⟨rfl,hy⟩:=hy;have:=hy vs (bE.of eH);rw[hv0]at this;cases this;refine⟨[v0],rfl,jk htc (sx:=[some v0]) (next:=λacc m=>xT (λx m=>af cl cond (env++[some x]) m) (λx m=>af cl elt (env++[some x]) m) l n (i+1) acc m) (N:=λzs H2=>∃n',n'<n+1/\∃as' m' acc,as'[l]?=some a/\cY K as1 H1 D env σ as' m' acc zs H2/\ay K as1 H1 Q (xT (λx m=>af cl cond (env++[some x]) m) (λx m=>af cl elt (env++[some x]) m) l n' (i+1) acc m')) hD M (M.G.push Rx) Pi ?_⟩;intro as2 m2 acc' ys' H2 kp g M2 P2;exact⟨n,WI _,as2,m2,acc',g _ _ hl,M2,P2⟩
  |non=>exact P'.elim
  |bl k=>exact P'.elim
  |int i=>exact P'.elim
  |str s=>exact P'.elim
end
end Mini
namespace Mini
open PySem L2
end Mini
namespace Mini
open PySem PySem.Spec PyProof.Rows L2
section
noncomputable def AM(t u:Tg)(w:Wd)(m:Me):Rz:=(dO (dz t w m) m).bind λx m1=>match x with
 |.bl false=>dO (dz u w m1) m1
 |.bl true=>.ok (.bl true) m1
 |_=>.no
end
end Mini
namespace L2
open PySem PySem.Spec PyProof.Rows
end L2
namespace PySem
open Sem (wp)
open AutoSeq1 (wpAny_loadPart')
end PySem
namespace L2
open PySem PySem.Spec PyProof.Rows
end L2
namespace Mini
open PySem PySem.Spec PyProof.Rows L2
end Mini
namespace L2
open PySem PySem.Spec PyProof.Rows
end L2
namespace Mini
open PySem PySem.Spec PyProof.Rows L2
end Mini
namespace L2
open PySem PySem.Spec PyProof.Rows
open PySem.W (KatTups KatLex KatGo kat_lt kat_cons kat_nil kat_go kat_yes kat_no kat_kind)
end L2
namespace L2
open PySem PySem.Spec PyProof.Rows
open PySem.SeqAt PySem.MeetsSeq PySem.MeetsSeq2 PySem.MeetsSeq3
open PySem.W (KatTups KatLex KatGo kat_lt kat_cons kat_nil kat_go kat_yes kat_no)
end L2
namespace L2
open PySem PySem.Spec PyProof.Rows
end L2
namespace PySem
end PySem
namespace L2
open PySem PySem.Spec PyProof.Rows
end L2
namespace Mini
open PySem PySem.Spec PyProof.Rows L2
section
variable{cl:Nat->List Wd->Me->Rz}
def bW.pe (h:bW cl X e (.e x))(hr:zC e=false):PE X x (aT X.K (af cl e)):=(h.1 hr).1
def bW.pt (h:bW cl X e (.e x))(hr:zC e=false)(hi:kF e=false):PT X x (wu X.K (af cl e)):=(h.1 hr).2.1 hi
def bW.pw (h:bW cl X e (.e (.BoolOp op vs pos)))(hr:zC e=false):PW X (.BoolOp op vs pos) (wu X.K (af cl e)):=(h.1 hr).2.2 op vs pos rfl
def bW.pa (h:bW cl X e (.a xs)):PA X xs (kG X.K (af cl e)):=h
def tT (h:ig sc x=true):fU sc x:=by
 unfold ig at h;simp only[WK,MU]at h;exact h
def xo (h:cW sc x=true):sc.names.lookup x=some .globalImplicit:=MT h
def kH {K:Qb}(hv:∀as H,ai K as H w v):∀σ H Q,aT K (af cl (.lit w)) σ H Q->tC v σ H Q:=λσ H Q h=>by
 obtain⟨as,env,m,S,G,P⟩:=h;exact ay.ok (m:=m) P S (hv as H)
def xY (hs:y7 y=true):∀v,LH y env v=pure v:=λv=>by
 cases y<;>first|rfl|cases hs
structure aN(C:Ctx)(sc:K9)(N:List Str)(e:Ex)(n:Nd):Prop where
 h:∀(cl:Nat → List Wd → Me → Rz) (d:Nat) (X:Cx),bq C X cl d → X.env.scope=sc → X.N=N → bW cl X e n
def y9 (h:aN C sc N e n):∀X:Cx,bq C X cl d->X.env.scope=sc->X.N=N->bW cl X e n:=h.h cl d
def aN.«var»{C:Ctx}{sc:K9}{N:List Str}{i:Nat}{x:Str}{p:Pos}(h1:N[i]?=some x)(h2:ig sc x=true)(h3:zA x=true):aN C sc N (.var i) (.e (.Name x p)):=by
 constructor;intro cl d;intro X hC es eN;subst es;subst eN;obtain⟨n1,n2,_⟩:=jj h3;refine bW.of (PE.imp (jc h1 (tT h2) n1 n2) λσ H Q q=>?_);obtain⟨as,env,m,S,G,P⟩:=q;cases hw:env[i]? with
 |none=>have P':ay X.K as H Q (match env[i]? with|some (some w)=>.ok w m|_=>.no):=P;rw[hw]at P';exact P'.elim
 |some o=>
  cases o with
  |none=>have P':ay X.K as H Q (match env[i]? with|some (some w)=>.ok w m|_=>.no):=P;rw[hw]at P';exact P'.elim
  |some w=>
   have P':ay X.K as H Q (match env[i]? with|some (some w)=>.ok w m|_=>.no):=P;rw[hw]at P';obtain⟨v,hv,R⟩:=G.get i w hw;exact⟨v,hv,ay.ok (m:=m) P' S R⟩
def aN.«non»{C:Ctx}{sc:K9}{N:List Str}{k}{p:Pos}:aN C sc N (.lit .non) (.e (.Constant .none k p)):=by
 constructor;intro cl d;intro X hC es eN;exact bW.of (PE.imp nh (kH λ_ _=>am.mpr rfl))
def aN.«bl»{C:Ctx}{sc:K9}{N:List Str}{b:Bool}{k}{p:Pos}:aN C sc N (.lit (.bl b)) (.e (.Constant (.bool b) k p)):=by
 constructor;intro cl d;intro X hC es eN;exact bW.of (PE.imp Dh (kH λ_ _=>ah.mpr rfl))
def aN.«int»{C:Ctx}{sc:K9}{N:List Str}{i:Int}{k}{p:Pos}:aN C sc N (.lit (.int i)) (.e (.Constant (.int i) k p)):=by
 constructor;intro cl d;intro X hC es eN;exact bW.of (PE.imp E4 (kH λ_ _=>aa.mpr rfl))
def aN.«str»{C:Ctx}{sc:K9}{N:List Str}{s:Str}{t:List Nat}{k}{p:Pos}(h:s.cps.toList=t):aN C sc N (.lit (.str t)) (.e (.Constant (.str s) k p)):=by
 constructor;intro cl d;intro X hC es eN;subst h;exact bW.of (PE.imp qM (kH λ_ _=>az.mpr (by simp)))
def aN.«con»{C:Ctx}{sc:K9}{N:List Str}{x:Str}{i:Int}{p:Pos}(h1:cW sc x=true)(h2:C.cons.lookup x=some i)(h3:zA x=true):aN C sc N (.lit (.int i)) (.e (.Name x p)):=by
 constructor;intro cl d;intro X hC es eN;subst es;obtain⟨n1,n2,_⟩:=jj h3;obtain⟨t,ht⟩:=hC.con.1 x i h2;exact bW.of (PE.imp (qN (xo h1) ht (v:=.int i) ⟨t,rfl⟩ n1) (kH λ_ _=>aa.mpr rfl))
def aN.«bin»{C:Ctx}{sc:K9}{N:List Str}{op:Bo}{a b:Ex}{x y:Expr}{p:Pos}(ra:zC a=false)(ha:aN C sc N a (.e x))(rb:zC b=false)(hb:aN C sc N b (.e y)):aN C sc N (.bin op a b) (.e (.BinOp x (oY op) y p)):=by
 constructor;intro cl d;have iha:=ha.h cl d;have ihb:=hb.h cl d;intro X hC es eN;exact bW.of (D5 ((iha X hC es eN).pe ra) ((ihb X hC es eN).pe rb))
def aN.«neg»{C:Ctx}{sc:K9}{N:List Str}{a:Ex}{x:Expr}{p:Pos}(ra:zC a=false)(ha:aN C sc N a (.e x)):aN C sc N (.neg a) (.e (.UnaryOp .USub x p)):=by
 constructor;intro cl d;have iha:=ha.h cl d;intro X hC es eN;exact bW.of (D4 ((iha X hC es eN).pe ra))
def aN.«not»{C:Ctx}{sc:K9}{N:List Str}{a:Ex}{x:Expr}{p:Pos}(ra:zC a=false)(ia:kF a=false)(ha:aN C sc N a (.e x)):aN C sc N (.not a) (.e (.UnaryOp .Not x p)):=by
 constructor;intro cl d;have iha:=ha.h cl d;intro X hC es eN;have s1:=iha X hC es eN;exact⟨λ_=>⟨ub (s1.pe ra),λ_=>D3 (s1.pt ra ia),λop vs pos z=>by cases z⟩,λtg=>jH (ub (s1.pe ra))⟩
def aN.«and2»{C:Ctx}{sc:K9}{N:List Str}{a b:Ex}{x y:Expr}{p:Pos}(ra:zC a=false)(ia:kF a=false)(ha:aN C sc N a (.e x))(rb:zC b=false)(ib:kF b=false)(hb:aN C sc N b (.e y)):aN C sc N (.and a b) (.e (.BoolOp .And [x,y] p)):=by
 constructor;intro cl d;have iha:=ha.h cl d;have ihb:=hb.h cl d;intro X hC es eN;have sa:=iha X hC es eN;have sb:=ihb X hC es eN;have e:=λ(p:Pos)=>ua (pos:=p) (sa.pe ra) (ul (sb.pe rb));have w:=λ(p:Pos)=>tZ (pos:=p) (sa.pt ra ia) (Fc (sb.pt rb ib));exact⟨λ_=>⟨e _,λ_=>(w _).pt,λop vs pos z=>by cases z;exact w _⟩,λtg=>jH (e _)⟩
def aN.«andN»{C:Ctx}{sc:K9}{N:List Str}{a b:Ex}{x y z:Expr}{r:List Expr}{p:Pos}(ra:zC a=false)(ia:kF a=false)(ha:aN C sc N a (.e x))(rb:zC b=false)(hb:aN C sc N b (.e (.BoolOp .And (y::z::r) p))):aN C sc N (.and a b) (.e (.BoolOp .And (x::y::z::r) p)):=by
 constructor;intro cl d;have iha:=ha.h cl d;have ihb:=hb.h cl d;intro X hC es eN;have sa:=iha X hC es eN;have sb:=ihb X hC es eN;have e:=ua (sa.pe ra) (sb.pe rb);have w:=tZ (sa.pt ra ia) (sb.pw rb);exact⟨λ_=>⟨e,λ_=>w.pt,λop vs pos z=>by cases z;exact w⟩,λtg=>jH e⟩
def aN.«or2»{C:Ctx}{sc:K9}{N:List Str}{a b:Ex}{x y:Expr}{p:Pos}(ra:zC a=false)(ia:kF a=false)(ha:aN C sc N a (.e x))(rb:zC b=false)(ib:kF b=false)(hb:aN C sc N b (.e y)):aN C sc N (.or a b) (.e (.BoolOp .Or [x,y] p)):=by
 constructor;intro cl d;have iha:=ha.h cl d;have ihb:=hb.h cl d;intro X hC es eN;have sa:=iha X hC es eN;have sb:=ihb X hC es eN;have e:=λ(p:Pos)=>Cm (pos:=p) (sa.pe ra) (ul (sb.pe rb));have w:=λ(p:Pos)=>Ck (pos:=p) (sa.pt ra ia) (um (sb.pt rb ib));exact⟨λ_=>⟨e _,λ_=>(w _).pt,λop vs pos z=>by cases z;exact w _⟩,λtg=>jH (e _)⟩
def aN.«cmp»{C:Ctx}{sc:K9}{N:List Str}{op:Co}{a b:Ex}{x y:Expr}{p:Pos}(hs:y7 y=true)(ra:zC a=false)(ha:aN C sc N a (.e x))(rb:zC b=false)(hb:aN C sc N b (.e y)):aN C sc N (.cmp op a b) (.e (.Compare x [cK op] [y] p)):=by
 constructor;intro cl d;have iha:=ha.h cl d;have ihb:=hb.h cl d;intro X hC es eN;have ea:=(iha X hC es eN).pe ra;have eb:=(ihb X hC es eN).pe rb;exact⟨λ_=>⟨tY hC.room.units ea eb hs,λ_=>D1 hC.room.units ea eb hs,λop vs pos z=>by cases z⟩,λtg=>jH (tY hC.room.units ea eb hs)⟩
def aN.«chain»{C:Ctx}{sc:K9}{N:List Str}{o q:Co}{a b c:Ex}{x y z:Expr}{p:Pos}(hs:y7 z=true)(ra:zC a=false)(ha:aN C sc N a (.e x))(rb:zC b=false)(hb:aN C sc N b (.e y))(rc:zC c=false)(hc:aN C sc N c (.e z)):aN C sc N (.chain o q a b c) (.e (.Compare x [cK o,cK q] [y,z] p)):=by
 constructor;intro cl d;have iha:=ha.h cl d;have ihb:=hb.h cl d;have ihc:=hc.h cl d;intro X hC es eN;have ea:=(iha X hC es eN).pe ra;have eb:=(ihb X hC es eN).pe rb;have ec:=(ihc X hC es eN).pe rc;exact⟨λ_=>⟨At hC.room.units ea eb ec hs,λ_=>G5 hC.room.units ea eb ec hs,λop vs pos z=>by cases z⟩,λtg=>jH (At hC.room.units ea eb ec hs)⟩
def aN.«ife»{C:Ctx}{sc:K9}{N:List Str}{a b c:Ex}{x y z:Expr}{p:Pos}(rc:zC c=false)(ic:kF c=false)(hc:aN C sc N c (.e x))(ra:zC a=false)(ha:aN C sc N a (.e y))(rb:zC b=false)(hb:aN C sc N b (.e z)):aN C sc N (.ife c a b) (.e (.IfExp x y z p)):=by
 constructor;intro cl d;have ihc:=hc.h cl d;have iha:=ha.h cl d;have ihb:=hb.h cl d;intro X hC es eN;have e:=λ(p:Pos)=>D0 (pos:=p) ((ihc X hC es eN).pt rc ic) ((iha X hC es eN).pe ra) ((ihb X hC es eN).pe rb);exact⟨λ_=>⟨e _,λz=>(by cases z),λop vs pos z=>(by cases z)⟩,λtg=>jH (e _)⟩
def aN.«unit»{C:Ctx}{sc:K9}{N:List Str}:aN C sc N .unit (.a []):=by
 constructor;intro cl d;intro X hC es eN;exact Fx
def aN.«pair»{C:Ctx}{sc:K9}{N:List Str}{a b:Ex}{x:Expr}{xs:List Expr}(hs:zJ x=true)(ra:zC a=false)(ha:aN C sc N a (.e x))(hb:aN C sc N b (.a xs)):aN C sc N (.pair a b) (.a (x::xs)):=by
 constructor;intro cl d;have iha:=ha.h cl d;have ihb:=hb.h cl d;intro X hC es eN;exact Fw ((iha X hC es eN).pe ra) (ihb X hC es eN).pa hs
def aN.«call»{C:Ctx}{sc:K9}{N:List Str}{k:Nat}{a:Ex}{f:Str}{y:Expr}{ys:List Expr}{p p':Pos}(h1:C.fns[k]?=some f)(h2:cW sc f=true)(h3:zA f=true)(hs:(y::ys).all zJ=true)(ha:aN C sc N a (.a (y::ys))):aN C sc N (.call k a) (.e (.Call (.Name f p) (y::ys) [] p')):=by
 constructor;intro cl d;have iha:=ha.h cl d;intro X hC es eN;subst es;exact bW.of (Fv hC h1 (xo h2) h3 hs (iha X hC rfl eN).pa)
def aN.«blt»{C:Ctx}{sc:K9}{N:List Str}{b:eg}{a:Ex}{nm:Str}{f:Value}{y:Expr}{ys:List Expr}{p p':Pos}(h1:mI b=some (nm,f))(h2:cW sc nm=true)(h3:zA nm=true)(hs:(y::ys).all zJ=true)(ha:aN C sc N a (.a (y::ys))):aN C sc N (.blt b a) (.e (.Call (.Name nm p) (y::ys) [] p')):=by
 constructor;intro cl d;have iha:=ha.h cl d;intro X hC es eN;subst es;exact bW.of (DZ hC h1 (xo h2) h3 hs (iha X hC rfl eN).pa)
def aN.«isi»{C:Ctx}{sc:K9}{N:List Str}{t:Tg}{a:Ex}{y:Expr}{p p' p'':Pos}(h1:cW sc "isinstance"=true)(h2:cW sc (Str.ofString (c8 t))=true)(hs:zJ y=true)(ra:zC a=false)(ha:aN C sc N a (.e y)):aN C sc N (.isi t a) (.e (.Call (.Name "isinstance" p) [y,.Name (Str.ofString (c8 t)) p'] [] p'')):=by
 constructor;intro cl d;have iha:=ha.h cl d;intro X hC es eN;subst es;exact bW.of (DY hC (xo h1) (xo h2) hs ((iha X hC rfl eN).pe ra))
def aN.«lst»{C:Ctx}{sc:K9}{N:List Str}{a:Ex}{xs:List Expr}{p:Pos}(ha:aN C sc N a (.a xs)):aN C sc N (.lst a) (.e (.List xs p)):=by
 constructor;intro cl d;have iha:=ha.h cl d;intro X hC es eN;exact bW.of (DX (iha X hC es eN).pa)
def aN.«tup»{C:Ctx}{sc:K9}{N:List Str}{a:Ex}{xs:List Expr}{k}{p:Pos}(ha:aN C sc N a (.a xs)):aN C sc N (.tup a) (.e (.Tuple xs k p)):=by
 constructor;intro cl d;have iha:=ha.h cl d;intro X hC es eN;exact bW.of (DW (iha X hC es eN).pa)
def aN.«idx»{C:Ctx}{sc:K9}{N:List Str}{a b:Ex}{x y:Expr}{p:Pos}(hs:wS y=true)(ra:zC a=false)(ha:aN C sc N a (.e x))(rb:zC b=false)(hb:aN C sc N b (.e y)):aN C sc N (.idx a b) (.e (.Subscript x y p)):=by
 constructor;intro cl d;have iha:=ha.h cl d;have ihb:=hb.h cl d;intro X hC es eN;exact bW.of (DV ((iha X hC es eN).pe ra) ((ihb X hC es eN).pe rb) hs)
def aN.«slH»{C:Ctx}{sc:K9}{N:List Str}{a b:Ex}{x y:Expr}{p p':Pos}(ra:zC a=false)(ha:aN C sc N a (.e x))(rb:zC b=false)(hb:aN C sc N b (.e y)):aN C sc N (.slH a b) (.e (.Subscript x (.Slice none (some y) none p') p)):=by
 constructor;intro cl d;have iha:=ha.h cl d;have ihb:=hb.h cl d;intro X hC es eN;exact bW.of (DU ((iha X hC es eN).pe ra) ((ihb X hC es eN).pe rb))
def aN.«meth0»{C:Ctx}{sc:K9}{N:List Str}{k:dH}{o:Ex}{x:Expr}{ap cp:Pos}(hx:kE x=true)(hl:(ap.endLine==cp.line)=true)(ro:zC o=false)(ho:aN C sc N o (.e x)):aN C sc N (.meth k o .unit) (.e (.Call (.Attribute x (fi k).1 ap) [] [] cp)):=by
 constructor;intro cl d;have iho:=ho.h cl d;intro X hC es eN;exact bW.of (G0 ((iho X hC es eN).pe ro) hx hl)
def aN.«meth»{C:Ctx}{sc:K9}{N:List Str}{k:dH}{o a:Ex}{x y:Expr}{ys:List Expr}{ap cp:Pos}(hx:kE x=true)(hl:(ap.endLine==cp.line)=true)(hn:(y::ys).length<29)(hs:(y::ys).all zJ=true)(ro:zC o=false)(ho:aN C sc N o (.e x))(ha:aN C sc N a (.a (y::ys))):aN C sc N (.meth k o a) (.e (.Call (.Attribute x (fi k).1 ap) (y::ys) [] cp)):=by
 constructor;intro cl d;have iho:=ho.h cl d;have iha:=ha.h cl d;intro X hC es eN;exact bW.of (Ft ((iho X hC es eN).pe ro) (iha X hC es eN).pa hx hl hn hs)
def aN.«rng1»{C:Ctx}{sc:K9}{N:List Str}{b:Ex}{y:Expr}{p p':Pos}(hg:cW sc "range"=true)(hs:zJ y=true)(rb:zC b=false)(hb:aN C sc N b (.e y)):aN C sc N (.rng (.lit (.int 0)) b (.lit (.int 1))) (.e (.Call (.Name "range" p) [y] [] p')):=by
 constructor;intro cl d;have ihb:=hb.h cl d;intro X hC es eN;subst es;exact⟨λz=>(by cases z),λtg=>Fs hC (xo hg) hs ((ihb X hC rfl eN).pe rb)⟩
def aN.«lrng»{C:Ctx}{sc:K9}{N:List Str}{a:Ex}{y:Expr}{p p' q q':Pos}(hl:cW sc "list"=true)(hg:cW sc "range"=true)(hs:zJ y=true)(ra:zC a=false)(ha:aN C sc N a (.e y)):aN C sc N (.lrng a) (.e (.Call (.Name "list" p) [.Call (.Name "range" q) [y] [] q'] [] p')):=by
 constructor;intro cl d;have iha:=ha.h cl d;intro X hC es eN;subst es;exact bW.of (Fq hC (xo hl) (xo hg) hs ((iha X hC rfl eN).pe ra))
def aN.«comp0»{C:Ctx}{sc scope:K9}{N:List Str}{elt it:Ex}{x i:Expr}{y:Str}{p p':Pos}(hs:y7 i=true)(hB:gp sc N scope [y]=true)(hi:aN C sc N it (.e i))(re:zC elt=false)(he:aN C (gm scope sc) (wv N [y]) elt (.e x)):aN C sc N (.comp elt it (.lit (.bl true))) (.e (.ListComp x [⟨.Name y p,i,[],0⟩] scope p')):=by
 constructor;intro cl d;have ihi:=hi.h cl d;have ihe:=he.h cl d;intro X hC es eN;subst es;subst eN;have B:=vN hB;have hI:=(ihi X hC rfl rfl).2 (.Name y p);have hset:∀v,LH i X.env v=pure v:=xY hs;have body:∀Xc,bK X scope [y] Xc->PE Xc x (aT X.K (af cl elt)):=λXc c=>by
  have q:=(ihe Xc (hC.comp c) c.sc c.N).pe re;rw[c.K]at q;exact q
 refine bW.of (PE.imp (uF B hC.calm (uG B) hI (λXc c=>⟨qV,body Xc c⟩) hset) λσ H Q q=>qo (λσ H Q q=>?_) q);obtain⟨as,env,m,S,G,P⟩:=q;obtain⟨b,e,q⟩:=ay.ok (m:=m) P S (ah.mpr rfl);cases e;exact q
def aN.«compE0»{C:Ctx}{sc scope:K9}{N:List Str}{elt a:Ex}{x i:Expr}{y z:Str}{p p' q q' q2 pt:Pos}{kt:Nat}(hg:cW sc "enumerate"=true)(hB:gp sc N scope [y,z]=true)(hs:zJ i=true)(ra:zC a=false)(ha:aN C sc N a (.e i))(re:zC elt=false)(he:aN C (gm scope sc) (wv N [y,z]) elt (.e x)):
   aN C sc N (.compP .enum elt a (.lit (.int 0)) (.lit (.bl true))) (.e (.ListComp x [⟨.Tuple [.Name y p,.Name z q] kt pt,.Call (.Name "enumerate" q') [i] [] q2,[],0⟩] scope p')):=by
 constructor;intro cl d;have iha:=ha.h cl d;have ihe:=he.h cl d;intro X hC es eN;subst es;subst eN;have B:=vN hB;have hI:PI X (.Tuple [.Name y p,.Name z q] kt pt) (.Call (.Name "enumerate" q') [i] [] q2) _:=Fp (xo hg) (hC.blt _ (by simp[zF])) (yu ((iha X hC rfl rfl).pe ra) xO (zB hs)) (zB hs);have body:∀Xc,bK X scope [y,z] Xc->PE Xc x (aT X.K (af cl elt)):=λXc c=>by
  have q:=(ihe Xc (hC.comp c) c.sc c.N).pe re;rw[c.K]at q;exact q
 refine bW.of (PE.imp (uF B hC.calm (FG hC.calm B) hI (λXc c=>⟨qV,body Xc c⟩) (λ_=>rfl)) λσ H Q q=>IR (c:=0) rfl (λσ H Q q=>?_) q);obtain⟨as,env,m,S,G,P⟩:=q;obtain⟨b,e,q⟩:=ay.ok (m:=m) P S (ah.mpr rfl);cases e;exact q
end
def DS:swappedStores [.Subscript o i p1] v env=pure none:=rfl
def uz (h:∀x p,tg≠.Name x p):swapsWithSole [tg] v line env=pure false:=by
 cases v<;>first|rfl|(cases tg<;>first|rfl|exact MP rfl (h _ _))
noncomputable def gr:Expr->Bool
 |.ListComp _ _ _ _=>true
 |.SetComp _ _ _ _=>true
 |.DictComp _ _ _ _ _=>true
 |_=>false
def nA (h:gr v=false):Lw v t line env=pure false:=by
 cases v<;>first|rfl|cases h
noncomputable def aC(K:Qb)(as:List Addr)(H:Hp)(D:cb)(r:Rs):Prop:=match r with
 |.next e m'=>∀as' H' σ',Step as H as' H'->aR K as' m' H'->aD K as' H' e σ'->D.nx σ' H'
 |.brk e m'=>∀as' H' σ',Step as H as' H'->aR K as' m' H'->aD K as' H' e σ'->D.bk σ' H'
 |.cont e m'=>∀as' H' σ',Step as H as' H'->aR K as' m' H'->aD K as' H' e σ'->D.ct σ' H'
 |.ret w m'=>∀as' H' v,Step as H as' H'->aR K as' m' H'->ai K as' H' w v->D.rt v H'
 |_=>False
noncomputable def xP(K:Qb)(g:En->Me->Rs):TS:=λD σ H=>∃as env m,aR K as m H/\aD K as H env σ/\aC K as H D (g env m)
section
variable{K:Qb}{as as':List Addr}{H H':Hp}{m:Me}{D:cb}
set_option tactic.hygienic true in
def aC.step{r:Rs}(h:aC K as H D r)(T:Step as H as' H'):aC K as' H' D r:=by
 cases r with
 |next e m'=>exact λas2 H2 σ' U S G=>h as2 H2 σ' (T.trans U) S G
 |brk e m'=>exact λas2 H2 σ' U S G=>h as2 H2 σ' (T.trans U) S G
 |cont e m'=>exact λas2 H2 σ' U S G=>h as2 H2 σ' (T.trans U) S G
 |ret w m'=>exact λas2 H2 v U S R=>h as2 H2 v (T.trans U) S R
 |exc c w e m'=>exact h
 |no=>exact h
def aC.bind (h:aC K as H D (r.bindS env f))(k:∀w m' as' H' v,Step as H as' H'->aR K as' m' H'->ai K as' H' w v->aC K as' H' D (f w m')->Q1 v H'):ay K as H Q1 r:=by
 cases r with
 |ok w m'=>exact λas2 H2 v U S R=>k w m' as2 H2 v U S R (aC.step (r:=f w m') h U)
 |exc c w m'=>exact h
 |no=>exact h
def aC.bindI (h:aC K as H D (r.bindS env f))(k:∀w m',aC K as H D (f w m')->(yF m' w).isSome=true/\∀as' H' J,Step as H as' H'->aR K as' m' H'->sf K as' H' w J->R1 J H'):bX K as H R1 r:=by
 cases r with
 |ok w m'=>exact k w m' h
 |exc c w m'=>exact h
 |no=>exact h
theorem aC.next (h:aC K as H D (.next env m))(S:aR K as m H)(G:aD K as H env σ):D.nx σ H:=h as H σ .refl S G
end
section
variable{cl:Nat->List Wd->Me->Rz}{X:Cx}{e o i:Ex}{x y z:Expr}{pos:Pos}
def FV:cf X [] (xP X.K (aF cl .skip)):=cf.imp vL λD σ H h=>by
 obtain⟨as,env,m,S,G,P⟩:=h;exact aC.next (m:=m) P S G
set_option tactic.hygienic true in
def DR {st:Stmt}(ha:PS X st (xP X.K (aF cl a)))(hb:cf X sts (xP X.K (aF cl b))):cf X (st::sts) (xP X.K (aF cl (.seq a b))):=
 cf.imp (xC ha hb) λD σ H h=>by
  obtain⟨as,env,m,S,G,P⟩:=h;refine⟨as,env,m,S,G,?_⟩;have P':aC X.K as H D (match aF cl a env m with |.next e1 m1=>aF cl b e1 m1|r=>r):=P;cases hr:aF cl a env m with
  |next e1 m1=>
   rw[hr]at P';exact λas' H' σ' T S' G'=>⟨as',e1,m1,S',G',aC.step P' T⟩
  |brk e1 m1=>rw[hr]at P';exact P'
  |cont e1 m1=>rw[hr]at P';exact P'
  |ret w m1=>rw[hr]at P';exact P'
  |exc c w e1 m1=>rw[hr]at P';exact P'
  |no=>rw[hr]at P';exact P'
def gs {K:Qb}{i:Nat}(h:xP K (aF cl (.asg i e)) D σ H):ij (aT K (af cl e)) (x9 i) D σ H:=by
 obtain⟨as,env,m,S,G,P⟩:=h;refine⟨as,env,m,S,G,aC.bind P λw m1 as1 H1 v T1 S1 R1 P1=>?_⟩;exact aC.next (m:=m1) P1 S1 ((G.mono S T1).set R1 i)
def DQ(he:PE X x (aT X.K (af cl e))):PS X (.Return (some x) pos) (xP X.K (aF cl (.ret e))):=PS.imp (jd he) λD σ H h=>by
 obtain⟨as,env,m,S,G,P⟩:=h;refine⟨as,env,m,S,G,aC.bind P λw m1 as1 H1 v T1 S1 R1 P1=>?_⟩;exact P1 as1 H1 v .refl S1 R1
def FU(he:PE X x (aT X.K (af cl e)))(hc:gr x=false):PS X (.Expr x pos) (xP X.K (aF cl (.expr e))):=PS.imp (Fb he (nA hc)) λD σ H h=>by
 obtain⟨as,env,m,S,G,P⟩:=h;refine⟨as,env,m,S,G,aC.bind P λw m1 as1 H1 v T1 S1 R1 P1=>?_⟩;exact aC.next (m:=m1) P1 S1 (G.mono S T1)
def GX{st:Stmt}:PS X st (xP X.K (aF cl .never)):=PS.imp Ig λD σ H h=>by
 obtain⟨as,env,m,S,G,P⟩:=h;exact P
def Ci (hc:PT X x (wu X.K (af cl e)))(ha:cf X xs (xP X.K (aF cl a)))(hb:cf X ys (xP X.K (aF cl b))):PS X (.If x xs ys pos) (xP X.K (aF cl (.ite e a b))):=
 PS.imp (g9 hc ha hb) λD σ H h=>by
  obtain⟨as,env,m,S,G,P⟩:=h;refine⟨as,env,m,S,G,aC.bind P λw m1 as1 H1 v T1 S1 R1 P1=>?_⟩;cases w with
  |bl k=>
   obtain rfl:=ah.mp R1;refine⟨k,rfl,?_⟩;cases k with
   |true=>exact gX ⟨as1,env,m1,S1,G.mono S T1,P1⟩
   |false=>exact gW ⟨as1,env,m1,S1,G.mono S T1,P1⟩
  |_=>exact P1.elim
def GW {K:Qb}{o i:Wd}(S:aR K as m H)(Ro:ai K as H o vo)(Ri:ai K as H i vi)(Rw:ai K as H w v)(h:aC K as H D ((km o i w m).bindS env f))(k:∀m' H',Step as H as H'->aR K as m' H'->aC K as H' D (f .non m')->Q H'):mQ vo vi v H Q:=by
 have key:∀r,km o i w m=r->(∃m',r=.ok .non m')\/r=.no:=λr e=>by
  unfold km at e;split at e
  .split at e
   .split at e
    .exact .inl ⟨_,e.symm⟩
    .exact .inr e.symm
   .exact .inr e.symm
  .exact .inr e.symm
 rcases key _ rfl with⟨m',e⟩|e
 .refine D7 S Ro Ri Rw (λm2 e2 H' T S'=>?_) ⟨m',e⟩;rw[e]at e2;cases e2;rw[e]at h;exact k m' H' T S' (aC.step (r:=f .non m') h T)
 .rw[e]at h;exact h.elim
def IQ {o i:Expr}(hs:wS i=true):∀v,assign (.Subscript o i p) env v=(do
   let ov <-holding [v] (eval o env)
   let iv <-holding [v,ov] (eval i env)
   standAt p
   holding [v,ov,iv] (setItem ov iv v)
   release [v,ov,iv] []):=λv=>by
 cases i<;>first|rfl|cases hs
def FT (ho:PE X x (aT X.K (af cl o)))(hi:PE X y (aT X.K (af cl i)))(he:PE X z (aT X.K (af cl e)))(hs:wS y=true):PS X (.Assign [.Subscript x y p1] z pos) (xP X.K (aF cl (.asgS o i e))):=
 PS.imp (uk he (DJ ho hi GN (IQ hs)) (uz (by intros;intro q;cases q)) DS) λD σ H h=>by
  obtain⟨as,env,m,S,G,P⟩:=h;refine⟨as,env,m,S,G,aC.bind P λw m1 as1 H1 v T1 S1 R1 P1=>?_⟩;refine⟨as1,env,m1,S1,G.mono S T1,aC.bind P1 λwo m2 as2 H2 vo T2 S2 R2 P2=>?_⟩;refine⟨as2,env,m2,S2,(G.mono S T1).mono S1 T2,aC.bind P2 λwi m3 as3 H3 vi T3 S3 R3 P3=>?_⟩;refine GW S3 (R2.mono S2 T3) R3 ((R1.mono S1 T2).mono S2 T3) P3 λm4 H4 T4 S4 P4=>?_;exact aC.next (m:=m4) P4 S4 ((((G.mono S T1).mono S1 T2).mono S2 T3).mono S3 T4)
end
section
variable{cl:Nat->List Wd->Me->Rz}{K:Qb}
structure dm(K:Qb)(g:TG)(st:Wd->En->Option En):Prop where
 ok:∀{as:List Addr}{H:Hp}{m:Me}{env env':En}{σ:St}{w:Wd}{v:V}{Q:L2.St->Hp->Prop},aR K as m H->aD K as H env σ->ai K as H w v->st w env=some env'->(∀σ',aD K as H env' σ'->Q σ' H)->g v σ H Q
def GV(i:Nat):dm K (x9 i) (λw env=>some (env.set i (some w))):=
 ⟨λS G R e k=>by cases e;exact k _ (G.set R i)⟩
set_option tactic.hygienic true in
def Ar(i j:Nat):dm K (ik K 2 (v9 (x9 i) (v9 (x9 j) il))) (cV i j):=by
 refine⟨λ{as H m env env' σ w v Q} S G R e k=>?_⟩;unfold cV at e;split at e
 .rename_i a b;cases e;obtain⟨p,vs,rfl,hq,rr⟩:=aj.mp R;obtain⟨va,vb,rfl,ra,rb⟩:=qZ rr;exact⟨p,[va,vb],rfl,hq,rfl,va,[vb],rfl,vb,[],rfl,rfl,k _ ((G.set ra i).set rb j)⟩
 .cases e
set_option tactic.hygienic true in
def He(i j l:Nat):dm K (ik K 3 (v9 (x9 i) (v9 (x9 j) (v9 (x9 l) il)))) (iV i j l):=by
 refine⟨λ{as H m env env' σ w v Q} S G R e k=>?_⟩;unfold iV at e;split at e
 .rename_i a b c;cases e;obtain⟨p,vs,rfl,hq,rr⟩:=aj.mp R;obtain⟨va,r1,rfl,ra,rr⟩:=aw.mp rr;obtain⟨vb,vc,rfl,rb,rc⟩:=qZ rr;exact⟨p,[va,vb,vc],rfl,hq,rfl,va,[vb,vc],rfl,vb,[vc],rfl,vc,[],rfl,rfl,k _ (((G.set ra i).set rb j).set rc l)⟩
 .cases e
set_option tactic.hygienic true in
def Aq{g:TG}{st:Wd->En->Option En}{b:En->Me->Rs}(hg:dm K g st){D:cb}{as1 as':List Addr}{H1 H':Hp}{m':Me}{env':En}{σ':St}{x:Wd}{v:V}{next:En->Me->Rs}{N:L2.St->Hp->Prop}(T:Step as1 H1 as' H')(S':aR K as' m' H')(G':aD K as' H' env' σ')(Rx:ai K as' H' x v)
  (Pt:aC K as1 H1 D (match yN st b x env' m' with
    |.next e1 m1=>next e1 m1
    |.cont e1 m1=>next e1 m1
    |.brk e1 m1=>.next e1 m1
    |r=>r))
  (hN:∀as2 m2 e2 σ2 H2,Step as' H' as2 H2->aR K as2 m2 H2->aD K as2 H2 e2 σ2->aC K as1 H1 D (next e2 m2)->N σ2 H2) :
  g v σ' H' λσ2 H2=>xP K b {D with nx:=N,ct:=N,bk:=D.nx} σ2 H2:=by
 unfold yN at Pt;cases hs:st x env' with
 |none=>rw[hs]at Pt;exact Pt.elim
 |some e2=>
  rw[hs]at Pt;simp only[]at Pt;refine hg.ok S' G' Rx hs λσ2 G2=>⟨as',e2,m',S',G2,?_⟩;cases hr:b e2 m' with
  |next e3 m3=>rw[hr]at Pt;exact λas3 H3 σ3 U S3 G3=>hN as3 m3 e3 σ3 H3 U S3 G3 Pt
  |cont e3 m3=>rw[hr]at Pt;exact λas3 H3 σ3 U S3 G3=>hN as3 m3 e3 σ3 H3 U S3 G3 Pt
  |brk e3 m3=>rw[hr]at Pt;exact λas3 H3 σ3 U S3 G3=>Pt as3 H3 σ3 (T.trans U) S3 G3
  |ret w' m3=>rw[hr]at Pt;exact λas3 H3 v3 U S3 R3=>Pt as3 H3 v3 (T.trans U) S3 R3
  |exc c w' e3 m3=>rw[hr]at Pt;exact Pt.elim
  |no=>rw[hr]at Pt;exact Pt.elim
def gu {st:Wd->En->Option En}(hg:dm K g st)(h:xP K (λenv m=>(it env m).bindS env λw m1=>fc (yN st b) w env m1) D σ H):sy (iB K it) g (xP K b) D σ H:=by
 obtain⟨as,env,m,S,G,P⟩:=h;refine⟨as,env,m,S,G,aC.bindI P λw m1 P1=>?_⟩;have seqs:∀(xs:List Wd),aC K as H D (ww (yN st b) xs env m1)->∀as1 H1 J,Step as H as1 H1->aR K as1 m1 H1->iX K as1 H1 J xs ->
   ∃W:Nat->Nat->L2.St->Hp->Prop,(∃m,W 0 m σ H1)/\∀i m σ H,W i m σ H ->
    (J.stop i H/\D.nx σ H)\/(J.go i H/\∃N:L2.St->Hp->Prop,(∀σ' H',N σ' H'->∃m',m'<m/\W (i+1) m' σ' H')/\∀x H',J.yld i H x H'->g x σ H' λσ2 H2=>xP K b {D with nx:=N,ct:=N,bk:=D.nx} σ2 H2):=by
  intro xs Pc as1 H1 J T1 S1 hI;obtain⟨vs,ok,hJ,ok1,RL,stab⟩:=hI;have hlen:=RL.length;have Pc1:=aC.step Pc T1;refine⟨λi n σ' H'=>∃as' m' env',i<=xs.length/\n=xs.length-i/\Step as1 H1 as' H'/\aR K as' m' H'/\aD K as' H' env' σ'/\ok H'/\ae K as' H' xs vs/\aC K as1 H1 D (ww (yN st b) (xs.drop i) env' m'),
   ⟨xs.length,as1,m1,env,Vk _,rfl,.refl,S1,G.mono S T1,ok1,RL,Pc1⟩,?_⟩
  rintro i n σ' H' ⟨as',m',env',hi,rfl,T',S',G',okH,RL',Pi⟩;by_cases hlt:i<xs.length
  .refine .inr ⟨hJ.go i H' okH (by rw[<-hlen];exact hlt),λσ2 H2=>∃as2 m2 env2,i+1<=xs.length/\Step as1 H1 as2 H2/\aR K as2 m2 H2/\aD K as2 H2 env2 σ2/\ok H2/\ae K as2 H2 xs vs/\aC K as1 H1 D (ww (yN st b) (xs.drop (i+1)) env2 m2),?_,λv H'' hy=>?_⟩
   .rintro σ2 H2 ⟨as2,m2,env2,q⟩;exact⟨xs.length-(i+1),by lia,as2,m2,env2,q.1,rfl,q.2⟩
   .obtain ⟨rfl,hv⟩:=hJ.yld i H' v H'' okH (by rw[<-hlen];exact hlt) hy;obtain⟨v',hv',Rx⟩:=RL'.get (i:=i) (x:=xs[i]) (by simp[hlt]);rw[hv]at hv';cases hv';rw[Vt hlt]at Pi;refine Aq hg (next:=λe m=>ww (yN st b) (xs.drop (i+1)) e m) T' S' G' Rx Pi ?_;intro as2 m2 e2 σ2 H2 U S2 G2 P2;exact⟨as2,m2,e2,hlt,T'.trans U,S2,G2,stab _ _ (S'.kp U) okH,RL'.mono S' U,P2⟩
  .have e:i=xs.length:=by lia
   subst e;rw[List.drop_length]at Pi;exact .inl ⟨hJ.stop _ H' okH (by lia),Pi as' H' σ' T' S' G'⟩
 cases w with
 |tup xs=>exact⟨rfl,λas1 H1 J T1 S1 hI=>seqs xs P1 as1 H1 J T1 S1 hI⟩
 |rol xs=>exact⟨rfl,λas1 H1 J T1 S1 hI=>seqs xs P1 as1 H1 J T1 S1 hI⟩
 |ref l=>
  have P2:aC K as H D (wc (yN st b) l (aq+1) 0 env m1):=P1;refine⟨?_,λas1 H1 J T1 S1 hI=>?_⟩
  .show (zK m1 l).isSome=true;cases e:zK m1 l with
   |some xs=>rfl
   |none=>
    unfold wc at P2;rw[e]at P2;exact P2.elim
  .obtain ⟨a,ha,rfl⟩:=hI;have Pc1:=aC.step P2 T1;refine⟨λi n σ' H'=>∃as' m' env',as'[l]?=some a/\Step as1 H1 as' H'/\aR K as' m' H'/\aD K as' H' env' σ'/\aC K as1 H1 D (wc (yN st b) l n i env' m'),⟨aq+1,as1,m1,env,ha,.refl,S1,G.mono S T1,Pc1⟩,?_⟩;rintro i n σ' H' ⟨as',m',env',hl,T',S',G',Pi⟩;cases n with
   |zero=>exact Pi.elim
   |succ n=>
    unfold wc at Pi;cases e:zK m' l with
    |none=>rw[e]at Pi;exact Pi.elim
    |some xs=>
     rw[e]at Pi;simp only[]at Pi;obtain⟨a',vs,ha',eH,RL⟩:=yH S' (yD e);rw[hl]at ha';cases ha';cases ex:xs[i]? with
     |none=>
      rw[ex]at Pi;have hle:vs.length<=i:=by rw[<-RL.length];exact Wk.mp ex
      exact .inl ⟨⟨vs,bE.of eH,hle⟩,Pi as' H' σ' T' S' G'⟩
     |some x=>
      rw[ex]at Pi;obtain⟨v0,hv0,Rx⟩:=RL.get ex;refine .inr ⟨⟨vs,v0,bE.of eH,hv0⟩,λσ2 H2=>∃as2 m2 env2,as2[l]?=some a/\Step as1 H1 as2 H2/\aR K as2 m2 H2/\aD K as2 H2 env2 σ2/\aC K as1 H1 D (wc (yN st b) l n (i+1) env2 m2),?_,λv H'' hy=>?_⟩
      .rintro σ2 H2 q;exact⟨n,WI _,q⟩
      .obtain ⟨rfl,hy⟩:=hy;have:=hy vs (bE.of eH);rw[hv0]at this;cases this;refine Aq hg (next:=λe m=>wc (yN st b) l n (i+1) e m) T' S' G' Rx Pi ?_;intro as2 m2 e2 σ2 H2 U S2 G2 P2;exact⟨as2,m2,e2,U.get hl,T'.trans U,S2,G2,P2⟩
 |non=>exact P1.elim
 |bl k=>exact P1.elim
 |int i=>exact P1.elim
 |str s=>exact P1.elim
set_option tactic.hygienic true in
def IP (h:xP K (aF cl (.while c b)) D σ H):uh (wu K (af cl c)) (xP K (aF cl b)) D σ H:=by
 obtain⟨as,env,m,S,G,P⟩:=h;refine⟨λn σ' H'=>∃as' m' env',Step as H as' H'/\aR K as' m' H'/\aD K as' H' env' σ'/\aC K as H D (jG (af cl c) (aF cl b) n env' m'),⟨1000000,as,m,env,.refl,S,G,P⟩,?_⟩;rintro n σ' H' ⟨as',m',env',T',S',G',Pi⟩;cases n with
 |zero=>exact Pi.elim
 |succ n=>
  unfold jG at Pi;refine⟨as',env',m',S',G',?_⟩;cases hr:af cl c env' m' with
  |no=>rw[hr]at Pi;exact Pi.elim
  |exc k w m1=>rw[hr]at Pi;exact Pi.elim
  |ok w m1=>
   rw[hr]at Pi;intro as1 H1 v T1 S1 R1;cases w with
   |bl k=>
    obtain rfl:=ah.mp R1;refine⟨k,rfl,?_⟩;cases k with
    |false=>exact gW (Pi as1 H1 σ' (T'.trans T1) S1 (G'.mono S' T1))
    |true=>
     refine gX ⟨λσ2 H2=>∃as2 m2 env2,Step as H as2 H2/\aR K as2 m2 H2/\aD K as2 H2 env2 σ2/\aC K as H D (jG (af cl c) (aF cl b) n env2 m2),λσ2 H2 q=>⟨n,WI _,q⟩,as1,env',m1,S1,G'.mono S' T1,?_⟩;simp only[]at Pi;have T2:=T'.trans T1;cases hb:aF cl b env' m1 with
     |next e3 m3=>rw[hb]at Pi;exact λas3 H3 σ3 U S3 G3=>⟨as3,m3,e3,T2.trans U,S3,G3,Pi⟩
     |cont e3 m3=>rw[hb]at Pi;exact λas3 H3 σ3 U S3 G3=>⟨as3,m3,e3,T2.trans U,S3,G3,Pi⟩
     |brk e3 m3=>rw[hb]at Pi;exact λas3 H3 σ3 U S3 G3=>Pi as3 H3 σ3 (T2.trans U) S3 G3
     |ret w' m3=>rw[hb]at Pi;exact λas3 H3 v3 U S3 R3=>Pi as3 H3 v3 (T2.trans U) S3 R3
     |exc k w' e3 m3=>rw[hb]at Pi;exact Pi.elim
     |no=>rw[hb]at Pi;exact Pi.elim
   |_=>exact Pi.elim
end
set_option genInjectivity false in
inductive Ns where
 |s (st:Stmt)|b (sts:List Stmt)
noncomputable def jl(sc:K9)(x:Str):Bool:=decide (sc.names.lookup x=some .local) || decide (sc.names.lookup x=some .cell)
noncomputable def oo:Expr->Bool
 |.Call _ _ _ _=>true
 |.Name _ _=>true
 |_=>false
noncomputable def iW(cl:Nat->List Wd->Me->Rz)(X:Cx)(s:Sm):Ns->Prop
 |.s st=>PS X st (xP X.K (aF cl s))
 |.b sts=>cf X sts (xP X.K (aF cl s))
structure dU(X:Cx):Prop where
 nd:X.N.Nodup
 fn:∀x,X.fn x=true
 hp:PassesOwn (Ln X.prog X.w) X.A X.env X.xe
section
variable{cl:Nat->List Wd->Me->Rz}
def wH (h:jl sc x=true):Loc sc x:=by
 unfold jl at h;simp only[WK,MU]at h;exact h
def FS (hc:X.calm=true)(hX:dU X)(hi:X.N[i]?=some nm)(hl:Loc X.env.scope nm)(B:bH X scope xs)(hT:iF X scope xs tg g un)(hI:PI X tg w wi)(body:∀Xc,bK X scope xs Xc->iG Xc fs tc/\PE Xc x te)(hset:∀v,LH w X.env v=pure v)(hbind:∀σ H Q,aT X.K (af cl ce) σ H Q->iq un wi tc te σ H Q)(he:PE X (.ListComp x [⟨tg,w,fs,0⟩] scope pos') (aT X.K (af cl ce))):
  PS X (.Assign [.Name nm p1] (.ListComp x [⟨tg,w,fs,0⟩] scope pos') pos) (xP X.K (aF cl (.asg i ce))):=by
 have hsw:∃b:Bool,Lw (.ListComp x [⟨tg,w,fs,0⟩] scope pos') (some (.Name nm p1)) pos.line X.env=pure b:=⟨_,rfl⟩;obtain⟨b,hb⟩:=hsw;cases b with
 |false=>exact PS.imp (uj hX.nd hi hl he hb (.inl (hX.fn nm))) λD σ H q=>gs q
 |true=>
  refine PS.imp (IU B hc hT hI body hX.nd hi hl (.inl (hX.fn nm)) hb hset) λD σ H q=>?_;exact hbind _ _ _ (gs q)
def DP(i j:Nat)(e:Ex)(env:En)(m:Me):aF cl (.fort i j (.tup (.pair e .unit)) .skip) env m=(af cl e env m).bindS env λw m1=>match cV i j w env with
  |some env'=>.next env' m1
  |none=>.no:=by
 have h:af cl (.tup (.pair e .unit)) env m=(af cl e env m).bind λw m1=>.ok (.tup [w]) m1:=by
  show(((af cl e env m).bind λx m1=>.ok (.tup [x]) m1).bind λx m1=>if(zq x).length<=aq then .ok (.tup (zq x)) m1 else .no)=_;cases af cl e env m with
  |ok w m1=>
   simp only[Rz.bind];simp[zq,aq]
  |exc c w m1=>rfl
  |no=>rfl
 show(af cl (.tup (.pair e .unit)) env m).bindS env (λw m1=>fc (yN (cV i j) (aF cl .skip)) w env m1)=_;rw[h];cases af cl e env m with
 |ok w m1=>
  show ww (yN (cV i j) (aF cl .skip)) [w] env m1=match cV i j w env with
   |some env'=>.next env' m1
   |none=>.no
  unfold ww yN;cases cV i j w env with
  |none=>rfl
  |some e2=>rfl
 |exc c w m1=>rfl
 |no=>rfl
def Hd {K:Qb}(h:xP K (aF cl (.fort i j (.tup (.pair e .unit)) .skip)) D σ H):ij (aT K (af cl e)) (ik K 2 (v9 (x9 i) (v9 (x9 j) il))) D σ H:=by
 obtain⟨as,env,m,S,G,P⟩:=h;rw[DP]at P;refine⟨as,env,m,S,G,aC.bind P λw m1 as1 H1 v T1 S1 R1 P1=>?_⟩;cases hs:cV i j w env with
 |none=>rw[hs]at P1;exact P1.elim
 |some e2=>rw[hs]at P1;exact(Ar i j).ok S1 (G.mono S T1) R1 hs λσ2 G2=>aC.next (m:=m1) P1 S1 G2
structure bG(C:Ctx)(sc:K9)(N:List Str)(s:Sm)(n:Ns):Prop where
 h:∀(cl:Nat → List Wd → Me → Rz) (d:Nat) (X:Cx),bq C X cl d → dU X → X.env.scope=sc → X.N=N → iW cl X s n
def nz (hC:bq C X cl d)(hX:dU X)(h:bG C X.env.scope X.N s n):iW cl X s n:=h.h cl d X hC hX rfl rfl
def bG.«skip0»{C:Ctx}{sc:K9}{N:List Str}:bG C sc N .skip (.b []):=by
 constructor;intro cl d X hC hX es eN;subst es;subst eN;exact FV
def bG.«one»{C:Ctx}{sc:K9}{N:List Str}{s:Sm}{st:Stmt}(h:bG C sc N s (.s st)):bG C sc N s (.b [st]):=by
 constructor;intro cl d X hC hX es eN;subst es;subst eN;have ih:=h.h cl d X hC hX rfl rfl;exact xz ih
def bG.«seq»{C:Ctx}{sc:K9}{N:List Str}{a b:Sm}{st st':Stmt}{r:List Stmt}(ha:bG C sc N a (.s st))(hb:bG C sc N b (.b (st'::r))):bG C sc N (.seq a b) (.b (st::st'::r)):=by
 constructor;intro cl d X hC hX es eN;subst es;subst eN;have iha:=ha.h cl d X hC hX rfl rfl;have ihb:=hb.h cl d X hC hX rfl rfl;exact DR iha ihb
def bG.«asg»{C:Ctx}{sc:K9}{N:List Str}{i:Nat}{e:Ex}{x:Str}{v:Expr}{p p':Pos}(hc:gr v=false)(h1:N[i]?=some x)(h2:jl sc x=true)(hr:zC e=false)(he:aN C sc N e (.e v)):bG C sc N (.asg i e) (.s (.Assign [.Name x p] v p')):=by
 constructor;intro cl d X hC hX es eN;subst es;subst eN;exact PS.imp (uj hX.nd h1 (wH h2) ((y9 he X hC rfl rfl).pe hr) (nA hc) (.inl (hX.fn _))) λD σ H q=>gs q
def bG.«asgC0»{C:Ctx}{sc:K9}{N:List Str}{i:Nat}{elt it:Ex}{x y:Str}{z w:Expr}{scope:K9}{p p' q q':Pos}(h1:N[i]?=some x)(h2:jl sc x=true)(hs:y7 w=true)(hB:gp sc N scope [y]=true)(hi:aN C sc N it (.e w))(re:zC elt=false)(he:aN C (gm scope sc) (wv N [y]) elt (.e z)):
   bG C sc N (.asg i (.comp elt it (.lit (.bl true)))) (.s (.Assign [.Name x p] (.ListComp z [⟨.Name y q,w,[],0⟩] scope q') p')):=by
 constructor;intro cl d X hC hX es eN;subst es;subst eN;have hset:∀v,LH w X.env v=pure v:=xY hs;refine FS (fs:=[]) (tc:=_) hC.calm hX h1 (wH h2) (vN hB) (uG (vN hB)) ((y9 hi X hC rfl rfl).2 _) (te:=aT X.K (af cl elt)) (λXc c=>⟨qV,?_⟩) hset (λσ H Q q=>qo (λσ H Q q=>?_) q) ((y9 (aN.comp0 hs hB hi re he) X hC rfl rfl).pe rfl)
 .have q:=(y9 he Xc (hC.comp c) c.sc c.N).pe re;rw[c.K]at q;exact q
 .obtain ⟨as,env,m,S,G,P⟩:=q;obtain⟨b,e,q⟩:=ay.ok (m:=m) P S (ah.mpr rfl);cases e;exact q
def bG.«asgS»{C:Ctx}{sc:K9}{N:List Str}{o i e:Ex}{x y z:Expr}{p p':Pos}(hs:wS y=true)(ro:zC o=false)(ho:aN C sc N o (.e x))(ri:zC i=false)(hi:aN C sc N i (.e y))(re:zC e=false)(he:aN C sc N e (.e z)):bG C sc N (.asgS o i e) (.s (.Assign [.Subscript x y p] z p')):=by
 constructor;intro cl d X hC hX es eN;subst es;subst eN;exact FT ((y9 ho X hC rfl rfl).pe ro) ((y9 hi X hC rfl rfl).pe ri) ((y9 he X hC rfl rfl).pe re) hs
def bG.«ite»{C:Ctx}{sc:K9}{N:List Str}{c:Ex}{a b:Sm}{x:Expr}{xs ys:List Stmt}{p:Pos}(rc:zC c=false)(ic:kF c=false)(hc:aN C sc N c (.e x))(ha:bG C sc N a (.b xs))(hb:bG C sc N b (.b ys)):bG C sc N (.ite c a b) (.s (.If x xs ys p)):=by
 constructor;intro cl d X hC hX es eN;subst es;subst eN;have iha:=ha.h cl d X hC hX rfl rfl;have ihb:=hb.h cl d X hC hX rfl rfl;exact Ci ((y9 hc X hC rfl rfl).pt rc ic) iha ihb
def bG.«forv»{C:Ctx}{sc:K9}{N:List Str}{i:Nat}{it:Ex}{body:Sm}{x:Str}{y:Expr}{sts:List Stmt}{p p':Pos}(h1:N[i]?=some x)(h2:jl sc x=true)(hs:y7 y=true)(hi:aN C sc N it (.e y))(hb:bG C sc N body (.b sts)):bG C sc N (.forv i it body) (.s (.For (.Name x p) y sts [] p')):=by
 constructor;intro cl d X hC hX es eN;subst es;subst eN;have ihb:=hb.h cl d X hC hX rfl rfl;have hset:∀v,LH y X.env v=pure v:=xY hs;refine PS.imp (nc hX.hp hC.calm ((y9 hi X hC rfl rfl).2 _) (xh hX.nd h1 (wH h2) (.inl (hX.fn _))) ihb hset) λD σ H q=>?_;exact gu (GV i) q
def bG.«unp»{C:Ctx}{sc:K9}{N:List Str}{i j:Nat}{e:Ex}{x x':Str}{v:Expr}{k}{p p' p2 p3:Pos}(h1:N[i]?=some x)(h2:jl sc x=true)(h3:N[j]?=some x')(h4:jl sc x'=true)(hv:oo v=true)(hr:zC e=false)(he:aN C sc N e (.e v)):
   bG C sc N (.fort i j (.tup (.pair e .unit)) .skip) (.s (.Assign [.Tuple [.Name x p,.Name x' p'] k p2] v p3)):=by
 constructor;intro cl d X hC hX es eN;subst es;subst eN;refine PS.imp (uk ((y9 he X hC rfl rfl).pe hr) (qQ hC.calm (xi (xh hX.nd h1 (wH h2) (.inl (hX.fn _))) (xi (xh hX.nd h3 (wH h4) (.inl (hX.fn _))) jQ))) (uz (by intros;intro q;cases q)) (by cases v<;>first|rfl|cases hv)) λD σ H q=>?_;exact Hd q
def bG.«fort»{C:Ctx}{sc:K9}{N:List Str}{i j:Nat}{it:Ex}{body:Sm}{x x':Str}{y:Expr}{sts:List Stmt}{k}{p p' p2 p3:Pos}(h1:N[i]?=some x)(h2:jl sc x=true)(h3:N[j]?=some x')(h4:jl sc x'=true)(hs:y7 y=true)(hi:aN C sc N it (.e y))(hb:bG C sc N body (.b sts)):bG C sc N (.fort i j it body) (.s (.For (.Tuple [.Name x p,.Name x' p2] k p3) y sts [] p')):=by
 constructor;intro cl d X hC hX es eN;subst es;subst eN;have ihb:=hb.h cl d X hC hX rfl rfl;have hset:∀v,LH y X.env v=pure v:=xY hs;refine PS.imp (nc hX.hp hC.calm ((y9 hi X hC rfl rfl).2 _) (qQ hC.calm (xi (xh hX.nd h1 (wH h2) (.inl (hX.fn _))) (xi (xh hX.nd h3 (wH h4) (.inl (hX.fn _))) jQ))) ihb hset) λD σ H q=>?_;exact gu (Ar i j) q
def bG.«for3»{C:Ctx}{sc:K9}{N:List Str}{i j l:Nat}{it:Ex}{body:Sm}{x x' x'':Str}{y:Expr}{sts:List Stmt}{k}{p p' p2 p3 p4:Pos}(h1:N[i]?=some x)(h2:jl sc x=true)(h3:N[j]?=some x')(h4:jl sc x'=true)(h5:N[l]?=some x'')(h6:jl sc x''=true)(hs:y7 y=true)(hi:aN C sc N it (.e y))(hb:bG C sc N body (.b sts)):bG C sc N (.for3 i j l it body) (.s (.For (.Tuple [.Name x p,.Name x' p2,.Name x'' p4] k p3) y sts [] p')):=by
 constructor;intro cl d X hC hX es eN;subst es;subst eN;have ihb:=hb.h cl d X hC hX rfl rfl;have hset:∀v,LH y X.env v=pure v:=xY hs;refine PS.imp (nc hX.hp hC.calm ((y9 hi X hC rfl rfl).2 _) (qQ hC.calm (xi (xh hX.nd h1 (wH h2) (.inl (hX.fn _))) (xi (xh hX.nd h3 (wH h4) (.inl (hX.fn _))) (xi (xh hX.nd h5 (wH h6) (.inl (hX.fn _))) jQ)))) ihb hset) λD σ H q=>?_;exact gu (He i j l) q
def bG.«appPop»{C:Ctx}{sc:K9}{N:List Str}{j a x:Nat}{e:Ex}{n:Ns}(h:bG C sc N (.expr (.meth .append (.var j) (.pair (.bin .add (.var a) (.bin .mod (.meth .pop (.var x) (.pair (.lit (.int 0)) .unit)) e)) .unit))) n):bG C sc N (.appPop j a x e) n:=by
 constructor;intro cl d X hC hX es eN;subst es;subst eN;have ih:=h.h cl d X hC hX rfl rfl;have e:aF cl (.appPop j a x e)=aF cl (.expr (.meth .append (.var j) (.pair (.bin .add (.var a) (.bin .mod (.meth .pop (.var x) (.pair (.lit (.int 0)) .unit)) e)) .unit))):=by
  funext env m;rfl
 cases n with
 |s st=>unfold iW at ih ⊢;rw[e];exact ih
 |b sts=>unfold iW at ih ⊢;rw[e];exact ih
def bG.«while»{C:Ctx}{sc:K9}{N:List Str}{c:Ex}{body:Sm}{x:Expr}{sts:List Stmt}{p:Pos}(rc:zC c=false)(ic:kF c=false)(hc:aN C sc N c (.e x))(hb:bG C sc N body (.b sts)):bG C sc N (.while c body) (.s (.While x sts [] p)):=by
 constructor;intro cl d X hC hX es eN;subst es;subst eN;have ihb:=hb.h cl d X hC hX rfl rfl;exact PS.imp (GU hX.hp ((y9 hc X hC rfl rfl).pt rc ic) ihb) λD σ H q=>IP q
def bG.«ret»{C:Ctx}{sc:K9}{N:List Str}{e:Ex}{x:Expr}{p:Pos}(hr:zC e=false)(he:aN C sc N e (.e x)):bG C sc N (.ret e) (.s (.Return (some x) p)):=by
 constructor;intro cl d X hC hX es eN;subst es;subst eN;exact DQ ((y9 he X hC rfl rfl).pe hr)
def bG.«expr»{C:Ctx}{sc:K9}{N:List Str}{e:Ex}{x:Expr}{p:Pos}(hc:gr x=false)(hr:zC e=false)(he:aN C sc N e (.e x)):bG C sc N (.expr e) (.s (.Expr x p)):=by
 constructor;intro cl d X hC hX es eN;subst es;subst eN;exact FU ((y9 he X hC rfl rfl).pe hr) hc
def bG.«never»{C:Ctx}{sc:K9}{N:List Str}{st:Stmt}:bG C sc N .never (.s st):=by
 constructor;intro cl d X hC hX es eN;subst es;subst eN;exact GX
end
set_option genInjectivity false in
structure bg where
 nm:Str
 st:Stmt
 N:List Str
 ps:List Str
 fn:Fn
 on:Str
noncomputable def xQ(N ps:List Str)(sc:K9):Bool:=
 decide (sc.kind=.function)&&(decide (sc.isCoroutine=false)&&(decide (sc.isGenerator=false)&&(decide N.Nodup&&(decide (N.take ps.length=ps) &&
  (ps.all (λx=>decide (sc.names.lookup x=some .local) || decide (sc.names.lookup x=some .cell))&&sc.names.all (λy=>!(decide (y.2=.free))))))))
def wT (h:xQ N ps sc=true):bT N ps sc:=by
 unfold xQ at h;simp only[Qj,WK,MU,QF,Ws,decide_eq_false_iff_not]at h;obtain⟨h1,h2,h3,h4,h5,h6,h7⟩:=h;exact⟨h1,h2,h3,h4,h5,h6,h7⟩
structure lT(C:Ctx)(d:bg):Prop where
 sc:xQ d.N d.ps (zo d.st)=true
 ar:d.ps.length=d.fn.ar
 sz:d.N.length=d.fn.sz
 body:bG C (zo d.st) d.N d.fn.body (.b (zU d.st))
section
variable{P:Lb}{w:Lc}{K:Qb}{mg:Str->Option Value}{base:Ld}{C:Ctx}{cl:Nat->List Wd->Me->Rz}
def vO (R:ae K as H ws vs)(hl:ws.length=fn.ar)(hN:N.length=fn.sz):aD K as H (yi fn ws) (L2.start N vs):=by
 have hv:=R.length;refine⟨by simp[yi,L2.start,hN,hv],λi w e=>?_⟩;unfold yi at e;by_cases hi:i<ws.length
 .rw[Qs (by simpa using hi),Qn]at e;cases hx:ws[i]? with
  |none=>rw[hx]at e;cases e
  |some x=>
   rw[hx]at e;cases e;obtain⟨v,h1,h2⟩:=R.get hx;refine⟨v,?_,h2⟩;unfold L2.start;rw[Qs (by simp;lia),Qn,h1];rfl
 .rw[Qo (by simpa using hi),WD]at e;split at e<;>cases e
set_option tactic.hygienic true in
def Hc (F:dM K d.on d.on d.st f fd)(hd:lT C d)(hfn:∀(i:Nat) (nm:Str),C.fns[i]?=some nm->∃f fd ps,mg nm=some (.ref f)/\QK K (.ref f)=true/\Binds K fd ps []/\bC P w K mg base c5 k f fd ps (ji K (cl i)))(hcon:jI K w mg C)(hblt:∀nm∈zF,mg nm=none):
  bC P w K mg base c5 (k+1) f fd d.ps (ji K (yR cl d.fn)):=by
 obtain⟨h1,h2,h3,h4⟩:=hd;have Sc:=wT h1;have dh:∀{as:List Addr}{H:Hp}{Q:VK}{ws:List Wd}{m:Me},ay K as H Q (yR cl d.fn ws m)->ws.length=d.fn.ar:=λ{as H Q ws m} h=>by
  unfold yR at h;split at h
  .assumption
  .exact h.elim
 refine F.ok Sc (λvs H Q E h=>?_) (λcdv A outer s H vs Q E hr h=>?_)
 .obtain ⟨as,m,ws,S,R,q⟩:=h;rw[<-R.length,dh q,h2]
 .obtain ⟨as,m,ws,S,R,q⟩:=h;have ha:=dh q;have hC:bq C (vY c5 P w K mg base d.N d.on (zo d.st) f cdv A outer s H E).nox cl k:=⟨hr,rfl,hfn,hcon,hblt⟩;have hX:dU (vY c5 P w K mg base d.N d.on (zo d.st) f cdv A outer s H E).nox:=⟨Sc.nd,λ_=>rfl,PassesOwn.never⟩;refine⟨_,nz hC hX h4,as,yi d.fn ws,m,S,vO R ha h3,?_⟩;unfold yR at q;rw[MN ha]at q;cases hr:aF cl d.fn.body (yi d.fn ws) m with
  |next e m1=>rw[hr]at q;exact λas' H' σ' T S' G=>q as' H' .non T S' (am.mpr rfl)
  |ret w m1=>rw[hr]at q;exact λas' H' v T S' R'=>q as' H' v T S' R'
  |brk e m1=>rw[hr]at q;exact q.elim
  |cont e m1=>rw[hr]at q;exact q.elim
  |exc c w e m1=>rw[hr]at q;exact q.elim
  |no=>rw[hr]at q;exact q.elim
noncomputable def wf(K:Qb)(mg:Str->Option Value)(d:bg):Prop:=∃f fd,dM K d.on d.on d.st f fd/\mg d.nm=some (.ref f)
noncomputable def ef(d:bg):Prop:=∀(kV doc pm:Value) (an:Option Addr) (cdv ct:Value) (us:List Value),us.length=d.ps.length->bindArgs (Wc d.on d.on (xV d.st) (zU d.st) (zo d.st) .none kV doc pm an cdv ct) ⟨us,[]⟩=pure (d.ps.zip us)
end
def Hb {K:Qb}{D:List bg}{ns:List Int}(hO:ie H)(hS:bE K H a (ns.map V.int))(h:∃m,yj (D.map (·.fn)) k i [.rol (ns.map Wd.int)] []=.ok (.bl true) m):
  ji K (yj (D.map (·.fn)) k i) [.ref a] H (λv _=>v=.bl true) E:=by
 obtain⟨m,h⟩:=h;refine⟨[],[],[.rol (ns.map Wd.int)],⟨rfl,QB,λl a o e=>by simp at e⟩,aw.mpr ⟨.ref a,[],rfl,bi.mpr ⟨a,ns.map V.int,rfl,?_,?_⟩,aB.mpr rfl⟩,?_⟩
 .rcases hS with (hS|⟨o,hS⟩)|hS
  .rcases hO a with z|⟨o,xs,z⟩
   .rw[z]at hS;cases hS
   .rw[z]at hS;cases hS
  .exact .inl ⟨o,hS⟩
  .exact .inr hS
 .have all:∀l:List Int,ae K [] H (l.map Wd.int) (l.map V.int):=by
   intro l
   induction l with
   |nil=>exact aB.mpr rfl
   |cons n l ih=>exact aw.mpr ⟨_,_,rfl,aa.mpr rfl,ih⟩
  exact all ns
 .rw[h];exact λas' H' v T S R=>ah.mp R
theorem aN.v{C:Ctx}{sc:K9}{N:List Str}{i:Nat}{x:Str}{p:Pos}(h1:N[i]?=some x:=by rfl)(h2:ig sc x=true:=by kernel_rfl)(h3:zA x=true:=by kernel_rfl):aN C sc N (.var i) (.e (.Name x p)):=.var h1 h2 h3
def lz{P:List Value->Prop}(h:∀a,P [a]):∀us:List Value,us.length=1->P us
 |[a],_=>h a
def ol {P:List Value->Prop}(h:∀a (us:List Value),us.length=n->P (a::us)):∀us:List Value,us.length=n+1->P us
 |a::us,e=>h a us (Nat.succ.inj e)
def om{P:List Value->Prop}(h:∀a b,P [a,b]):∀us:List Value,us.length=2->P us:=ol λa=>lz (P:=λus=>P (a::us)) (h a)
def AH{P:List Value->Prop}(h:∀a b c,P [a,b,c]):∀us:List Value,us.length=3->P us:=ol λa=>om (P:=λus=>P (a::us)) (h a)
def Ji{P:List Value->Prop}(h:∀a b c d,P [a,b,c,d]):∀us:List Value,us.length=4->P us:=ol λa=>AH (P:=λus=>P (a::us)) (h a)
end Mini
namespace L2
open PySem PySem.Spec PyProof.Rows
noncomputable def cx(fs:List Addr)(H':Hp)(h h' B:Ld):Prop:=∀b o,h'.get? b=some o->(H' b≠none\/∃o₀,h.get? b=some o₀)->b∉fs->B.get? b=some o
def gv (hf:env.frame=some L):bz (env::l)=L::bz l:=by
 unfold bz;rw[WO,hf]
def qp (hl:h.FunFrames base l)(hn:∀b∈bz l,H b=none)(u:Un fs [] H H' h h'):∀b∈bz l,H' b=none:=λb hb=>by
 obtain⟨_,o,ho,_⟩:=hl.mem hb;exact u.free b o ho (hn b hb) (by simp)
theorem bv.ob (x:bv P w H h a o):∃u,h.get? a=some u:=by
 cases o with
 |lst xs=>obtain⟨_,_,_,_,e⟩:=x;exact⟨_,e⟩
 |tup xs=>obtain⟨_,_,_,o,e,_⟩:=x;exact⟨_,e⟩
 |own y=>exact x
 |xd fs=>obtain⟨_,⟨_,_,_,e,_⟩,_⟩:=x;exact⟨_,e⟩
 |frz ob u=>exact⟨_,x.1⟩
 |tbl ps=>exact⟨_,show h.get? a=some _ from x⟩
 |ext φ=>exact x.2.1
section
variable{P:Lb}{w:Lc}{H':Hp}{h1 h2 B:Ld}
def gw (ok:bP P w H' h1)(hfs:∀b∈fs,H' b=none)(hB:cx fs H' h h1 B)(st:B.StaysIn h2):bP P w H' h2:=λa o e=>
 (ok a o e).stay (λb u hb q=>st b u (hB b u q (.inl (by
  rcases hb with rfl|hb
  .rw[e];simp
  .rw[hb];simp)) λhm=>by
   have:=hfs b hm;rcases hb with rfl|hb
   .rw[e]at this;cases this
   .rw[hb]at this;cases this)) (λ_ q=>q) λ_ _ q=>q
def cx.next{fs:List Addr}{h:Ld}(ok:bP P w H' h1)(hB:cx fs H' h h1 B)(st:B.StaysIn h2)(th:∀b o,h.get? b=some o->∃o',h1.get? b=some o'):cx fs H' h h2 B:=λb o e hq hn=>by
 have ex:∃o',h1.get? b=some o':=by
  rcases hq with z|⟨o₀,z⟩
  .cases q:H' b with
   |none=>exact MP q z
   |some u=>
    exact(ok b u q).ob
  .exact th b o₀ z
 obtain⟨o',e1⟩:=ex;have e2:=hB b o' e1 hq hn;have e3:=st b o' e2;rw[e]at e3;cases e3;exact e2
end
def uy (hL:h₀.objs.size<=L)(hfo:h₀.FunFrames base outer)(hf0:∀b∈bz outer,H₀ b=none)(u0:Un (bz outer) [] H₀ H h₀ h)(u1:Un (L::bz outer) [] H H' h h1)(hB:cx (L::bz outer) H' h h1 B)(st:B.StaysIn h2)(up:h1.UpToSlots h2):Un (bz outer) [] H₀ H' h₀ h2:=by
 have no:∀b:Addr,b∉([]:List Addr):=λb=>by simp
 have nL:∀{b:Addr}{o:Obj},h₀.get? b=some o->b≠L:=λ{b o} e z=>by
  subst z;exact MP (Qh (Qu e) hL) (QZ _)
 have kp:∀b o,h₀.get? b=some o->H₀ b=none->b∉bz outer->h2.get? b=some o:=λb o e n hb=>by
  have e1:=u0.keep b o e n hb (no b);have hb':b∉L::bz outer:=λhm=>(Qr.mp hm).elim (nL e) hb;have e2:=u1.keep b o e1 (u0.free b o e n (no b)) hb' (no b);exact st b o (hB b o e2 (.inr ⟨o,e1⟩) hb')
 have sl:∀b o,h₀.get? b=some o->H₀ b=none->b∈bz outer->∃sl,h2.get? b=some {o with slots:=sl}:=λb o e n hb=>by
  obtain⟨s1,e1⟩:=u0.slot b o e n hb (no b);obtain⟨s2,e2⟩:=u1.slot b _ e1 (u0.free b o e n (no b)) (Ql _ hb) (no b);obtain⟨_,o',ho',hd⟩:=hfo.mem hb;rw[e]at ho';cases ho';obtain⟨s3,e3⟩:=up b _ e2 hd;exact⟨s3,e3⟩
 refine⟨λb o e n hb _=>kp b o e n hb,λb o e n hb _=>sl b o e n hb,λb o e n _=>?_,λb o e _=>?_,λb xs q=>u1.tups b xs (u0.tups b xs q),λb o u q=>u1.frzs b o u (u0.frzs b o u q),λb ps q=>?_⟩
 .obtain ⟨o1,e1⟩:=u0.there b o e (no b);exact u1.free b o1 e1 (u0.free b o e n (no b)) (no b)
 .by_cases hb:b∈bz outer
  .obtain ⟨s1,e1⟩:=sl b o e (hf0 b hb) hb;exact⟨_,e1⟩
  .obtain ⟨o1,e1⟩:=u0.there b o e (no b);obtain⟨o2,e2⟩:=u1.there b o1 e1 (no b);have hb':b∉L::bz outer:=λhm=>(Qr.mp hm).elim (nL e) hb;exact⟨o2,st b o2 (hB b o2 e2 (.inr ⟨o1,e1⟩) hb')⟩
 .obtain ⟨m1,e1⟩:=u0.tbls b ps q;obtain⟨m2,e2⟩:=u1.tbls b _ e1;exact⟨m1++m2,by rw[e2,Array.append_assoc]⟩
section
variable{P:Lb}{w:Lc}{H:Hp}
def qr (hL:h₀.objs.size<=L)(hLn:H' L=none)(u0:Un fs [] H₀ H h₀ h)(ok:bP P w H' h1)(th:∀b o,h.get? b=some o->∃o',h1.get? b=some o')(hB:cx (L::fs) H' h h1 B)(st:B.StaysIn h2):cx fs H' h₀ h2 B:=λb o e hq hn=>by
 have hb':b∉L::fs:=λhm=>(Qr.mp hm).elim (λz=>by
  subst z;rcases hq with q|⟨o₀,q⟩
  .exact q hLn
  .exact MP (Qh (Qu q) hL) (QZ _)) hn
 refine cx.next ok hB st th b o e (hq.imp id λ⟨o₀,q⟩=>?_) hb';exact u0.there b o₀ q (by simp)
end
end L2
namespace L2
open PySem PySem.Spec PySem.Calls PyProof.Rows PySem.W Builtin Builtin.ObjectAttr Builtin.Getset_descriptor
section
variable{prog:Lb}{w:Lc}{A:Lh}{E:Value->Shared->Prop}{K:Qb}{x C:Addr}{ox:Obj}{h:Ld}{g:Array Lj}{d:Lk}{t:Nat}{os:My}
def gx(M:Ll)(hx:h.get? x=some ox)(hc:ox.cls=.ref C):Looks M h (typeOf (.ref x)) (.ref C):=hc▸(Looks.ld hx).andThen .now
def FR (X:K.In h)(hx:h.get? x=some ox)(hc:ox.cls=.ref C)(hm:Mz K C (.type "object")=some true)(hq:R (.ok (.ret (.ref C))) ⟨h,g,d,t,os⟩):
  LS (Ln prog w) A (.call (.builtin "getset_descriptor.__get__") ⟨[.builtin "object.__class__",.ref x,tp],[]⟩) R ⟨h,g,d,t,os⟩:=by
 have L0:=gx (Ln prog w) hx hc;have L1:=MA (M:=Ln prog w) X hm;refine MB KF.slot_gs.plain KF.entry_gs ?_;refine KF.slot_gs.check _ _ _ _ _ _ _ _ KF.type_class (KF.args_gs _ _ _) ?_;unfold Builtin.«getset_descriptor.__get__» descrGet;rw[dga_obj];refine Ly (LF ?_);unfold descrGetter descrCheckInstance descrNameAndClass MC;simp only[KF.owner_class]
 repeat lk
 have z1:Code.quiet (.builtin "object.__class__" ⟨[.ref x],[]⟩)=true:=Code.quiet_builtin _ (by decide +kernel);refine⟨z1,?_⟩;refine codeAny_builtin KF.entry_class ?_;unfold Builtin.«object.__class__» shownTypeOf
 repeat lk
 exact hq
def Hw (X:K.In h)(hx:h.get? x=some ox)(hc:ox.cls=.ref C)(hcl:MD K (.ref C) "__class__"=some (some (.builtin "object.__class__")))(hm:Mz K C (.type "object")=some true)(hq:Q (.done (.ret (.ref C))) ⟨h,g,d,t,os⟩):Lm (Ln prog w) A (Builtin.«object.__getattribute__» ⟨[.ref x,.str "__class__" tk],[]⟩) Q E ⟨h,g,d,t,os⟩:=by
 have L0:=gx (Ln prog w) hx hc;have L1:=ME (M:=Ln prog w) X hcl;have hT5:(⟨h,g,d,t,os⟩:Shared).TypeIs (.builtin "object.__class__") "getset_descriptor":=F.typeOf_object_class;have f5:=F.typeOf_object_class;have f6:=F.slot_gs_get.lookup;have f7:=F.slot_gs_set.lookup;unfold Builtin.«object.__getattribute__»
 repeat (any_goals (first|assumption|(with_reducible refine MF hx ?_;rw[hc])|with_reducible refine Looks.at (by assumption) ?_|wp_step))
 refine FR X hx hc hm ?_
 repeat (any_goals (first|assumption|wp_step))
def qt (X:K.In h)(hx:h.get? x=some ox)(hc:ox.cls=.ref C)(hb:Mz K C (.type "BaseException")=some true)(hq:Q () ⟨h,g,d,t,os⟩):
  Lm (Ln prog w) A (checkBuiltinCall "BaseException.__getattribute__" ⟨[.ref x,nameV],[]⟩) Q E ⟨h,g,d,t,os⟩:=by
 have L0:=gx (Ln prog w) hx hc;have L1:=MA (M:=Ln prog w) X hb;have z1:builtinKind "BaseException.__getattribute__"=some .slot:=by decide +kernel
 have z2:splitId "BaseException.__getattribute__"=some ("BaseException","__getattribute__"):=by decide +kernel
 have z3:=F.args_bexc_ga (.ref x) nameV;simp only[checkBuiltinCall,z1,z2];refine Ly ?_;unfold MC
 repeat (first|with_reducible refine Looks.at (by assumption) ?_|wp_step)
 exact hq
def Ha (X:K.In h)(hx:h.get? x=some ox)(hc:ox.cls=.ref C)(hb:Mz K C (.type "BaseException")=some true)(hcl:MD K (.ref C) "__class__"=some (some (.builtin "object.__class__")))(hm:Mz K C (.type "object")=some true)(hq:R (.ok (.ret (.ref C))) ⟨h,g,d,t,os⟩):LS (Ln prog w) A (.call (.builtin "BaseException.__getattribute__") ⟨[.ref x,.str "__class__" tk],[]⟩) R ⟨h,g,d,t,os⟩ :=
 MB F.attr_ValueError.ga.plain F.entry_bexc_ga (qt X hx hc hb (Hw X hx hc hcl hm hq))
def FQ (X:K.In s.heap)(hx:s.heap.get? x=some ox)(hc:ox.cls=.ref C)(hga:MD K (.ref C) "__getattribute__"=some (some (.builtin "BaseException.__getattribute__")))(hgt:MD K (.ref C) "__getattr__"=some none)(hb:Mz K C (.type "BaseException")=some true)(hcl:MD K (.ref C) "__class__"=some (some (.builtin "object.__class__")))(hm:Mz K C (.type "object")=some true)(hq:Q (some (.ref C)) {s with toks:=s.toks+1}):Lm (Ln prog w) A (getAttr? (.ref x) "__class__") Q E s:=by
 obtain⟨h,g,d,t,os⟩:=s;have L0:=gx (Ln prog w) hx hc;have L1:=ME (M:=Ln prog w) X hga;have L2:=ME (M:=Ln prog w) X hgt;have f3:=F.attr_ValueError.ga.bind (.ref x);have y2:(Value.builtin "BaseException.__getattribute__" == Value.builtin "object.__getattribute__")=false:=by decide +kernel
 have y1:(MG (Value.ref C)&&Value.builtin "BaseException.__getattribute__" == Value.builtin "object.__getattribute__")=false:=by rw[y2];rfl
 unfold getAttr? getAttrBy? getAttrBy;refine Ly (wpAny_mkText (Ly (wpAny_attempt (Lz (Ly (L0.at (Ly (L1.at ?_))))))));dsimp only;rw[MO (by rw[y1];decide)];unfold getAttrByItsOwn hookBefore MH
 repeat (any_goals (first|assumption|with_reducible refine Looks.at (by assumption) ?_|wp_step))
 refine Ha (h:=h) X hx hc hb hcl hm ?_
 repeat (any_goals (first|assumption|wp_step))
end
end L2
namespace L2
open PySem PySem.Spec PySem.Calls PyProof.Rows PySem.W
structure dq(K:Qb)(C:Addr):Prop where
 ga:MD K (.ref C) "__getattribute__"=some (some (.builtin "BaseException.__getattribute__"))
 gt:MD K (.ref C) "__getattr__"=some none
 be:Mz K C (.type "BaseException")=some true
 cl:MD K (.ref C) "__class__"=some (some (.builtin "object.__class__"))
 mo:Mz K C (.type "object")=some true
set_option tactic.hygienic true in
def ug {K:Qb}(h:(clsIn K C).isSome=true):∃c d cd sl,K.lookup C=some ⟨c,d,.cls cd,sl⟩:=by
 unfold clsIn at h;split at h
 .rename_i c d cd sl ho;exact⟨c,d,cd,sl,ho⟩
 .cases h
def dq.ci {K:Qb}(Z:dq K C):(clsIn K C).isSome=true:=by
 obtain⟨cd,a,_⟩:=QS.mp Z.be;rw[a];rfl
def Ap {K:Qb}(Z:dq K C)(hc:ox.cls=.ref C):KitX K (.ref x) (.ref C) (λh=>h.get? x=some ox) where
 ty:=λM h _ p=>gx M p hc
 it:=λM h X _=>by
  obtain⟨c,d,cd,sl,ho⟩:=ug Z.ci;intro A' Q' E' s' k q;unfold isType loadHead;refine Ly (wpAny_loadPart (k _ _ (X _ _ ho)) ?_);exact LF q
 ne:=λh tp dd its n sl X htp=>by
  obtain⟨c,d,cd,sl',ho⟩:=ug Z.ci;refine Bool.eq_false_iff.mpr λq=>?_;cases Value.ref.inj (beq_iff_eq.mp q);have z:=(X _ _ ho).symm.trans htp;cases z
 ca:=λX p k=>FQ X p hc Z.ga Z.gt Z.be Z.cl Z.mo k
noncomputable def oW(K:Qb)(x C:Addr):List V->Hp->VK->Prop:=λvs H Q=>
 (∃c u b,vs=[.ref x,c]/\RelV c u/\(∀u',RelV c u'->u'=u)/\kitOne K (.ref C) u=some b/\Q (.bl b) H) \/
 (∃tp ts b,vs=[.ref x,.ref tp]/\H tp=some (.tup ts)/\(∀us,aA ts us->kitAny K (.ref C) us=some b)/\Q (.bl b) H)
def uf (r:aA [v,w] us):∃a b,us=[a,b]/\RelV v a/\RelV w b:=by
 cases r with
 |cons p q=>
  cases q with
  |cons p' q'=>
   cases q' with
   |nil=>exact⟨_,_,rfl,p,p'⟩
def FP (hl:h.FunFrames base l)(hn:∀b∈bz l,H b=none)(u:Un (bz l) [] H H' h h1)(hB:cx (bz l) H' h h1 B)(st:B.StaysIn h2)(up:h1.UpToSlots h2):Un (bz l) [] H H' h h2:=by
 have no:∀b:Addr,b∉([]:List Addr):=λb=>by simp
 have sl:∀b o,h.get? b=some o->b∈bz l->∃sl,h2.get? b=some {o with slots:=sl}:=λb o e hb=>by
  obtain⟨s1,e1⟩:=u.slot b o e (hn b hb) hb (no b);obtain⟨_,o',ho',hd⟩:=hl.mem hb;rw[e]at ho';cases ho';obtain⟨s2,e2⟩:=up b _ e1 hd;exact⟨s2,e2⟩
 refine⟨λb o e n hb _=>?_,λb o e n hb _=>sl b o e hb,u.free,λb o e _=>?_,u.tups,u.frzs,u.tbls⟩
 .have e1:=u.keep b o e n hb (no b);exact st b o (hB b o e1 (.inr ⟨o,e⟩) hb)
 .by_cases hb:b∈bz l
  .obtain ⟨s1,e1⟩:=sl b o e hb;exact⟨_,e1⟩
  .obtain ⟨o1,e1⟩:=u.there b o e (no b);exact⟨o1,st b o1 (hB b o1 e1 (.inr ⟨o,e⟩) hb)⟩
section
variable{M:Ll}{A:Lh}{E:Value->Shared->Prop}{bs bs' bm bm':List Value}{nm nm' q q':Str}{C G N N':Addr}{hdct hdct':Bool}{sn sn':List Str}{sub sub':List Value}{ab ab':Bool}{col col':Option Bool}{dd dd':Option Addr}{k0 k1 k2 k3 k5 j0 j1 j2 j3 j5:Option Value}{newId newId':String}
def G9 {os:My}(hC:h.get? C=some (MI nm q C N bs bm hdct sn sub ab col dd k0 k1 k2 k3 k5 newId))(hG:h.get? G=some (MI nm' q' G N' bs' bm' hdct' sn' sub' ab' col' dd' j0 j1 j2 j3 j5 newId'))(he:h.get? e=some oe)(hcls:oe.cls=.ref C)(y1:(Value.ref G::bm').contains (.type "BaseException")=true)(y2:(Value.ref C::bm).contains (.ref G)=true)(hq:Q true ⟨h,g,d,t,os⟩):Lm M A (excMatches (.ref e) (.ref G)) Q E ⟨h,g,d,t,os⟩:=by
 have f:=tc_notTuple;unfold excMatches
 repeat (first|(with_reducible refine MF he ?_;rw[hcls])|with_reducible refine MF hG ?_|(with_reducible refine MJ hG ?_;rw[y1])|(with_reducible refine MJ hC ?_;rw[y2])|wp_step)
 exact hq
end
section
variable{X:Cx}{pins:List (Addr×Obj)}{σ:St}{H:Hp}{s:Shared}
def Inv.lost{h':Ld}{m':Str->Option Value}{t':Nat}(I:Inv X pins σ H s)(hn:h'.Ns X.env.locals m')(hs:W0 X.env.locals s.heap h'):Inv X pins (Qv X.N.length none) H {s with heap:=h',toks:=t' }:=by
 have lo:∀{b:Addr}{o:Obj},X.s₀.heap.get? b=some o->b≠X.env.locals:=λ{b o} e z=>by
  subst z;exact MP (Qh (Qu e) I.ok.above) (QZ _)
 refine⟨I.ok,I.os,I.bare,⟨λb o e n hb hx=>?_,λb o e n hb hx=>?_,I.base.free,λb o e hx=>?_,I.base.tups,I.base.frzs,I.base.tbls⟩,⟨m',hn,λj y v e1 e2 _=>?_⟩,λy c e=>?_,I.free,I.freeC,λp hp=>?_,λb ob e=>?_,by simp⟩
 .rw[hs.2 b (lo e)];exact I.base.keep b o e n hb hx
 .obtain ⟨sl,e1⟩:=I.base.slot b o e n hb hx;exact⟨sl,by rw[hs.2 b (lo e)];exact e1⟩
 .obtain ⟨o',e1⟩:=I.base.there b o e hx;exact⟨o',by rw[hs.2 b (lo e)];exact e1⟩
 .rw[WD]at e2;split at e2<;>cases e2
 .obtain ⟨w',z⟩:=I.cell y c e;exact⟨w',z.sameBut hs (I.cne y c e)⟩
 .obtain ⟨e,n,ne,nf,d⟩:=I.pin p hp;exact⟨by rw[hs.2 p.1 ne];exact e,n,ne,nf,d⟩
 .have hL:=I.free;refine(I.hok b ob e).stay (λc w' hc q=>?_) (λ_ q=>q) λ_ _ q=>q;rw[hs.2 c (λz=>by
   subst z;rcases hc with z|z
   .rw[<-z,hL]at e;cases e
   .rw[hL]at z;cases z)]
  exact q
end
noncomputable def kI(h:Ld)(C:Addr)(v:Value):Prop:=∃nm q N bs bm hdct sn sub ab col dd k0 k1 k2 k3 k5 newId,h.get? C=some (MI nm q C N bs bm hdct sn sub ab col dd k0 k1 k2 k3 k5 newId)/\(Value.ref C::bm).contains v=true
noncomputable def oF:List Addr->TA
 |[]=>mw
 |a::r=>mS (tC (.ref a)) (oF r)
def DO (h:Q (as.map V.ref) H):oF as σ H Q:=by
 induction as generalizing Q with
 |nil=>exact h
 |cons a r ih=>exact ih (Q:=λxs H2=>Q (.ref a::xs) H2) h
theorem ux:∀{as:List Addr}{us:List Value},aA (as.map V.ref) us->us=as.map Value.ref
 |[],_,.nil=>rfl
 |a::r,_,.cons p q=>by
  obtain rfl:_=Value.ref a:=p;rw[ux q];rfl
inductive cU(env:Env)(mg:Str->Option Value):List Expr->List Addr->Prop
 |nil:cU env mg [] []
 |cons {x:Str}{p:Pos}{es:List Expr}{a:Addr}{as:List Addr}(hg:env.kindOf x=some .globalImplicit) (hm:mg x=some (.ref a)) (hd:(x==("__debug__":Str))=false) (h:cU env mg es as):cU env mg (.Name x p::es) (a::as)
def Em (h:cU X.env X.mg es as):PA X es (oF as):=by
 induction h with
 |nil=>exact xO
 |cons hg hm hd _ ih=>exact yu (qN (v:=.ref _) hg hm rfl hd) ih rfl
end L2
namespace L2
open PySem PySem.Spec PySem.Calls PyProof.Rows
end L2
namespace Mini
open PySem PySem.Spec PyProof.Rows L2
set_option genInjectivity false in
structure Xc where
 g:Str
 rs:List Str
 os:List Str
theorem bq.wish{C:Ctx}{X:Cx}{cl:Nat->List Wd->Me->Rz}{d:Nat}(h:bq C X cl d)(E:Value->Shared->Prop):bq C (X.wish E) cl d:=⟨h.room,h.calm,h.fn,h.con,h.blt⟩
def vk (h:zA x=true):(x==("__debug__":Str))=false/\(x==("__classdict__":Str))=false:=by
 unfold zA at h;simp only[Qj,Ws]at h;exact⟨h.1.1,h.1.2⟩
section
variable{C:Ctx}{Q:Xc}{xn:List (Nat×Str)}{X:Cx}
def ue {st:Stmt}(h:PS X.nox st t):PS X st t:=λpins s σ H D I hw=>
 Lq (h pins s σ H D (I.wish _) hw) (λ_ _ q=>q.unwish) λ_ _ z=>False.elim z
end
section
variable{K:Qb}{cl:Nat->List Wd->Me->Rz}
def dh (h:ay K as H R (yR cl fn ws m)):ws.length=fn.ar:=by
 unfold yR at h;split at h
 .assumption
 .exact h.elim
end
end Mini
namespace L2
open PySem PySem.Spec PySem.Calls PyProof.Rows PySem.W
set_option tactic.hygienic true in
def Inv.gone{X:Cx}{pins:List (Addr×Obj)}{σ:St}{H:Hp}{s:Shared}{h':Ld}{m:Str->Option Value}{v:Option Value}{t' i:Nat}{n:Str}(I:Inv X pins σ H s)(hN:X.N.Nodup)(hi:X.N[i]?=some n)
  (hl:∀(i:Nat) (x:Str) (v:V),X.N[i]?=some x->σ[i]?=some (some v)->fU X.env.scope x->∃u,RelV v u/\sC X.env s.heap m x u) (hn:h'.Ns X.env.locals (λx=>if x=n then v else m x)) (hs:W0 X.env.locals s.heap h'):Inv X pins (σ.set i none) H {s with heap:=h',toks:=t' }:=by
 have lo:∀{b:Addr}{o:Obj},X.s₀.heap.get? b=some o->b≠X.env.locals:=λ{b o} e z=>by
  subst z;exact MP (Qh (Qu e) I.ok.above) (QZ _)
 refine⟨I.ok,I.os,I.bare,⟨λb o e n hb hx=>?_,λb o e n hb hx=>?_,I.base.free,λb o e hx=>?_,I.base.tups,I.base.frzs,I.base.tbls⟩,⟨_,hn,λj y w e1 e2 e3=>?_⟩,λy c e=>?_,I.free,I.freeC,λp hp=>?_,λb ob e=>?_,by rw[Wp];exact I.len⟩
 .rw[hs.2 b (lo e)];exact I.base.keep b o e n hb hx
 .obtain ⟨sl,e1⟩:=I.base.slot b o e n hb hx;exact⟨sl,by rw[hs.2 b (lo e)];exact e1⟩
 .obtain ⟨o',e1⟩:=I.base.there b o e hx;exact⟨o',by rw[hs.2 b (lo e)];exact e1⟩
 .have hj:j≠i:=by
   rintro rfl;rw[Qy]at e2;split at e2
   .split at e2<;>cases e2
   .rename_i z;exact z rfl
  rw[Qg (Ne.symm hj)]at e2;obtain⟨u,r,q⟩:=hl j y w e1 e2 e3;refine⟨u,r,?_⟩;rcases q with⟨k,e⟩|⟨k,c,e,z⟩
  .refine .inl ⟨k,?_⟩;have:y≠n:=λe=>hj (jZ hN e1 (e▸hi));show(if y=n then v else m y)=some u;rw[MO this];exact e
  .exact .inr ⟨k,c,e,z.sameBut hs (I.cne y c e)⟩
 .obtain ⟨w',z⟩:=I.cell y c e;exact⟨w',z.sameBut hs (I.cne y c e)⟩
 .obtain ⟨e,n,ne,nf,d⟩:=I.pin p hp;exact⟨by rw[hs.2 p.1 ne];exact e,n,ne,nf,d⟩
 .have hL:=I.free;refine(I.hok b ob e).stay (λc w' hc q=>?_) (λ_ q=>q) λ_ _ q=>q;rw[hs.2 c (λz=>by
   subst z;rcases hc with z|z
   .rw[<-z,hL]at e;cases e
   .rw[hL]at z;cases z)]
  exact q
noncomputable def dX(oe:Obj):HO:=.frz oe (.ext λ_=>True)
def Inv.track{X:Cx}{pins:List (Addr×Obj)}{σ:St}{H:Hp}{s:Shared}{e:Addr}{oe:Obj}(I:Inv X pins σ H s)(he:s.heap.get? e=some oe)(hn:H e=none)(h0:X.s₀.heap.get? e=none)(hl:e≠X.env.locals)
  (hc:∀x c,X.env.cells.lookup x=some c->c≠e) (hp:∀p∈X.pn++pins,p.1≠e):Inv X pins σ (aJ H e (dX oe)) s:=by
 have up:∀{b:Addr}{o:HO},H b=some o->aJ H e (dX oe) b=some o:=λ{b o} z=>by
  rw[zi (zt z hn)];exact z
 refine⟨I.ok,I.os,I.bare,⟨I.base.keep,I.base.slot,λb o e1 e2 e3=>?_,I.base.there,λb xs z=>up (I.base.tups b xs z),λb o u z=>up (I.base.frzs b o u z),λb ps z=>?_⟩,I.loc,I.cell,?_,λx c z=>?_,λp z=>?_,λa o z=>?_,I.len⟩
 .rw[zi (λz=>by rw[z,h0]at e1;cases e1)];exact I.base.free b o e1 e2 e3
 .obtain ⟨more,q⟩:=I.base.tbls b ps z;exact⟨more,up q⟩
 .rw[zi (Ne.symm hl)];exact I.free
 .rw[zi (hc x c z)];exact I.freeC x c z
 .obtain ⟨a1,a2,a3⟩:=I.pin p z;exact⟨a1,by rw[zi (hp p z)];exact a2,a3⟩
 .by_cases q:a=e
  .subst q;rw[zn]at z;cases z;exact⟨he,trivial,⟨oe,he⟩,λ_ _ _ _=>trivial⟩
  .rw[zi q]at z;exact(I.hok a o z).stay (λ_ _ _ q=>q) (λ_ q=>up q) λ_ _ q=>up q
abbrev Cx.heldT(X:Cx)(e:Addr)(E:Value->Shared->Prop):Cx:={X with A:=X.A.mark (some (.ref e)),calm:=false,xe:=E}
section
variable{X:Cx}{pins:List (Addr×Obj)}{σ:St}{H:Hp}{s:Shared}{e:Addr}{E:Value->Shared->Prop}
theorem Inv.heldT(I:Inv X pins σ H s):Inv (X.heldT e E) pins σ H s:=
 ⟨⟨I.ok.mod,I.ok.kind,I.ok.glob,I.ok.blt,I.ok.above,I.ok.inj,I.ok.has,I.ok.cab,(λz=>by cases z),I.ok.frames,I.ok.stk,I.ok.exf,I.ok.bs,I.ok.bsz,I.ok.noex,I.ok.exfs,I.ok.funs,I.ok.frf⟩,I.os,I.bare,I.base,I.loc,I.cell,I.free,I.freeC,I.pin,I.hok,I.len⟩
def r6(ok:X.Ok)(I:Inv (X.heldT e E) pins σ H s):Inv X pins σ H s:=
 ⟨ok,I.os,I.bare,I.base,I.loc,I.cell,I.free,I.freeC,I.pin,I.hok,I.len⟩
end
def Gg (Z:dq X.K C)(hc:ox.cls=.ref C):aU X (.builtin "isinstance") (λvs H Q=>H x=some (dX ox)/\oW X.K x C vs H Q):=by
 intro pins s σ H xs us Q I r ⟨hH,h⟩;have hx:s.heap.get? x=some ox:=(I.hok x _ hH).1;rcases h with⟨c,u,b,rfl,ru,uq,k,q⟩|⟨tp,ts,b,rfl,ht,k,q⟩
 .obtain ⟨a,a',rfl,ra,ra'⟩:=uf r;obtain rfl:a=.ref x:=ra;obtain rfl:=uq a' ra';exact kia_one (Ap Z hc) I.kIn hx k (λz=>nomatch z) λtk=>⟨.bl b,H,I.tok tk,rfl,q⟩
 .obtain ⟨a,a',rfl,ra,ra'⟩:=uf r;obtain rfl:a=.ref x:=ra;obtain rfl:a'=.ref tp:=ra';obtain⟨z,its,rv,⟨oc,od,dat,sl⟩,ho,h1,n,hd⟩:=I.hok tp _ ht;obtain rfl:oc=.type "tuple":=h1;obtain rfl:dat=.seq its.toArray n:=hd;exact kia_tup (Ap Z hc) I.kIn hx ho (k its rv) (λz=>nomatch z) λtk=>⟨.bl b,H,I.tok tk,rfl,q⟩
end L2
namespace Mini
open PySem PySem.Spec PyProof.Rows L2
def nX {K:Qb}(S:aR K as m H)(hp:H p=none)(o:HO):Step as H as (aJ H p o)/\aR K as m (aJ H p o):=by
 have T:Step as H as (aJ H p o):=⟨⟨[],by simp⟩,λb o' h _=>by rw[zi (zt h hp)];exact h,λb hb=>.inl hb⟩;refine⟨T,S.keep T λb _ o' e=>?_⟩;rw[zi (zt e hp)];exact e
end Mini
namespace L2
open PySem PySem.Spec PySem.Calls PyProof.Rows PySem.W Builtin Builtin.ObjectAttr
section
variable{prog:Lb}{w:Lc}{A:Lh}{E:Value->Shared->Prop}{K:Qb}{x C:Addr}{ox:Obj}{s:Shared}{name:Str}{v:Value}
def Hv (X:K.In s.heap)(hx:s.heap.get? x=some ox)(hc:ox.cls=.ref C)(hnc:MK ox=true)(hdn:ox.dict=none)(hcd:clsIn K C=some cd)(hdd:cd.hasDict=true)(hpass:∀self,refuseLoop self "__setattr__" cd.mro=pure ())(hs:MD K (.ref C) "__setattr__"=some (some (.builtin "object.__setattr__")))(hm:Mz K C (.type "object")=some true)(hn:MD K (.ref C) name=some none)(h:∀h' tk' D,s.heap.get? D=none->h'.get? x=some {ox with dict:=some D}->h'.Ns1 D (λy=>if y=name then some v else none)->(∀b o,b≠x->s.heap.get? b=some o->h'.get? b=some o)->Q () {s with heap:=h',toks:=tk' }):
  Lm (Ln prog w) A (setAttr (.ref x) name v) Q E s:=by
 obtain⟨h₀,g,d,t,os⟩:=s;dsimp only at hx X h ⊢;have SF:=PySem.F.store_object;have I:InstAt h₀ x ox C none:=⟨hx,hc,hnc,by rw[hdn];trivial⟩;refine set_plain X I hs ?_;have L0:=I.type (M:=Ln prog w);have sub:Looks (Ln prog w) h₀ (MC (.ref x) (.type "object")) true:=L0.andThen (MA X hm);refine MB SF.slot.plain SF.entry (@check_slot (Ln prog w) _ _ ⟨h₀,g,d,t+1,os⟩ "object.__setattr__" "object" "__setattr__" (.ref x) [.str name t,v] [] _ SF.kind SF.split sub (SF.args (.ref x) (.str name t) v) ?_);have L1:Looks (Ln prog w) h₀ (mroOf (.ref C)) cd.mro:=(looks_clsIn X hcd).andThen .now;have L2:=ME (M:=Ln prog w) X hn;have L3:=looks_clsIn (M:=Ln prog w) X hcd;rw[osa_eq,refuse_eq];refine Ly (Ly (L0.at (Ly (L1.at ?_))));rw[hpass];refine LF (Ly (L0.at (Ly (L2.at (Ly (LF (a:=(none:Option Value)) ?_))))));obtain⟨oc,od,odt,osl⟩:=ox;dsimp only at hc hdn;subst hc hdn;have hxs:x≠h₀.objs.size:=QL (Qu hx);have hx₁:(h₀.push {cls:=.type "dict",data:=.dict #[]}).get? x=some ⟨.ref C,none,odt,osl⟩:=Qi _ hx;refine Ly (LF (Ly (Ly (wpAny_loadPart hx (Ly (L3.at ?_))))));rw[hdd];have hcls:∀c,odt≠.cls c:=λc z=>by subst z;cases hnc
 have step:∀{Q':Option Addr->Shared->Prop},Q' (some h₀.objs.size) ⟨(h₀.push {cls:=.type "dict",data:=.dict #[]}).update x λo=>{o with dict:=some h₀.objs.size},g,d,t+1,os⟩ ->
   Lm (Ln prog w) A.in1 (do
    let d <-alloc {cls:=.type "dict",data:=.dict #[]}
    update x λo=>{o with dict:=some d}
    dictMade (.ref C) x d) Q' (λe s'=>E e s') ⟨h₀,g,d,t+1,os⟩:=λ{Q'} hq=>
  Ly (wpAny_alloc' (Ly (wpAny_update' hx₁ (LF hq))))
 have hgx:((h₀.push {cls:=.type "dict",data:=.dict #[]}).update x λo=>{o with dict:=some h₀.objs.size}).get? x=some ⟨.ref C,some h₀.objs.size,odt,osl⟩:=by
  refine WG _ hx₁ ?_;have hfr:=(Heap.get?_some_iff.mp hx).2;cases odt<;>first|rfl|exact hfr
 have hgd:((h₀.push {cls:=.type "dict",data:=.dict #[]}).update x λo=>{o with dict:=some h₀.objs.size}).get? h₀.objs.size=some {cls:=.type "dict",data:=.dict #[]} :=
  (Heap.get?_update_ne _ _ _ _ hxs.symm).trans (Heap.get?_push_at rfl rfl)
 have hnd:((h₀.push {cls:=.type "dict",data:=.dict #[]}).update x λo=>{o with dict:=some h₀.objs.size}).Ns h₀.objs.size (λ_=>none):=
  ⟨_,#[],_,hgd,rfl,λe he=>MP he (by simp),λ_=>rfl⟩
 have fin:∀{Q':Fin->Shared->Prop},(∀h' tk' D,h₀.get? D=none->h'.get? x=some ⟨.ref C,some D,odt,osl⟩->h'.Ns1 D (λy=>if y=name then some v else none)->(∀b o,b≠x->h₀.get? b=some o->h'.get? b=some o)->Q' (.done (.ret .none)) ⟨h',g,d,tk',os⟩) ->
   Lm (Ln prog w) A.in1 (storeInDict h₀.objs.size (.str name t) name v) Q' (λe s'=>E e s') ⟨(h₀.push {cls:=.type "dict",data:=.dict #[]}).update x λo=>{o with dict:=some h₀.objs.size},g,d,t+1,os⟩:=λ{Q'} hq=>by
  unfold storeInDict newKeyGuard;refine Ly (LF (Ly (wpAny_nsSet1 (Heap.Ns1.of_empty hnd) λh' hn' hs=>?_)));obtain⟨oD,esD,epD,hoD,hdD,hcD⟩:=hn'.count (Within.cons name v Within.nil);refine Ly (wpAny_lookBehind hoD (by rw[hdD];exact pastItsLine_dict (Qp hcD (by rw[Wh,Vo,LM];lia))) ?_);refine LF ?_;refine hq h' _ h₀.objs.size (WJ (Qk _)) ((hs.2 x hxs).trans hgx) hn' λb o hbx hb=>?_;exact(hs.2 b (QL (Qu hb))).trans ((Heap.get?_update_ne _ _ _ _ hbx).trans (Qi _ hb))
 rw[MO (by decide)];dsimp only;rw[MO (by simp[typeHasDict])];split
 .exact MP rfl (hcls _)
 .exact step (fin λh' tk' D a1 a2 a3 a4=>h h' tk' D a1 a2 a3 a4)
end
end L2
namespace L2
open PySem PySem.Spec PySem.Calls PyProof.Rows PySem.W
section
variable{prog:Lb}{w:Lc}{A:Lh}{E:Value->Shared->Prop}{K:Qb}{h:Ld}{g:Array Lj}{d:Lk}{t:Nat}{os:My}
variable{nm q:Str}{C N fI:Addr}{bs bm bmB:List Value}{hdct:Bool}{sn:List Str}{sub:List Value}{ab:Bool}{col:Option Bool}{dd:Option Addr}{k0 k1 k2 k3 k5:Option Value}{B newId initId:String}
def Gf (F:ML B newId initId bmB)(T:OwnTail h bmB bm)(X:K.In h)(hC:h.get? C=some (MI nm q C N bs bm hdct sn sub ab col dd k0 k1 k2 k3 k5 newId))(hi:MD K (.ref C) "__init__"=some (some (.ref fI)))(hf:typeIn K (.ref fI)=some (.type "function"))(hq:∀h' e,W8 h h' e (.ref C) rest->h.objs.size<=h'.objs.size->Lm (Ln prog w) A (call (.ref fI) (.ref e::rest)) (λr s'=>r=.none/\Q (.done (.ret (.ref e))) s') E ⟨h',g,d,t,os⟩)(hrest:rest.length<=sizeLine):
  Lm (Ln prog w) A (Builtin.«type.__call__» ⟨.ref C::rest,[]⟩) Q E ⟨h,g,d,t,os⟩:=by
 repeat (first|with_reducible refine MF hC ?_|with_reducible refine wpAny_madeBy_exc hC ?_|wp_step)
 refine codeAny_call_builtin_code (Code.quiet_builtin _ F.quiet) (wpAny_check_new_subT F T hC ?_);refine codeAny_exc_new_subT F T hC ?_ hrest;show Lm _ _ _ _ _ _;have kp:∀b o,h.get? b=some o->((h.push {cls:=.type "tuple",data:=.seq rest.toArray}).push {cls:=.ref C,data:=.fields #[.ref h.objs.size,.none,.none,.none,.bool false,.none]}).get? b=some o:=λb o e=>Qi _ (Qi _ e);have X₁:=X.keeps kp;have hC₁:=kp _ _ hC;have hget:((h.push {cls:=.type "tuple",data:=.seq rest.toArray}).push {cls:=.ref C,data:=.fields #[.ref h.objs.size,.none,.none,.none,.bool false,.none]}).get? (h.objs.size+1)=some {cls:=.ref C,data:=.fields #[.ref h.objs.size,.none,.none,.none,.bool false,.none]}:=by heap_get
 have hcC:(Value.ref C::bm).contains (.ref C)=true:=by simp
 have mk:W8 h _ (h.objs.size+1) (.ref C) rest:=⟨kp,WJ (WX _),h.objs.size,hget,WJ (Qk _),Qi _ (Heap.get?_push_at rfl rfl)⟩;unfold MC
 repeat (first|with_reducible refine MF hget ?_|(with_reducible refine MJ hC₁ ?_;rw[hcC])|wp_step)
 show Lm _ _ (typeLookup (.ref C) _) _ _ _;refine(ME X₁ hi).at (Lz (Ly ((bind_fn X₁ _ hf).at ?_)));refine Ly (Lq (hq _ _ mk (by rw[WS,WS];lia)) (λr s' hr=>?_) λ_ _ x=>x);obtain⟨rfl,hQ⟩:=hr
 wp_walk
 exact hQ
end
section
variable{prog:Lb}{w:Lc}{A:Lh}{E:Value->Shared->Prop}{K:Qb}{h:Ld}{g:Array Lj}{d:Lk}{t:Nat}{os:My}
variable{nm q:Str}{C N fI:Addr}{bs bm bmB:List Value}{hdct:Bool}{sn:List Str}{sub:List Value}{ab:Bool}{col:Option Bool}{dd:Option Addr}{k0 k1 k2 k3 k5:Option Value}{B newId initId:String}
def Ge (F:ML B newId initId bmB)(T:OwnTail h bmB bm)(X:K.In h)(hC:h.get? C=some (MI nm q C N bs bm hdct sn sub ab col dd k0 k1 k2 k3 k5 newId))(hi:MD K (.ref C) "__init__"=some (some (.ref fI)))(hf:typeIn K (.ref fI)=some (.type "function"))(hq:∀h' e,W8 h h' e (.ref C) rest->h.objs.size<=h'.objs.size->Lm (Ln prog w) (A.under (.builtin "type.__call__" ⟨.ref C::rest,[]⟩)) (call (.ref fI) (.ref e::rest)) (λr s'=>r=.none/\Q (.ref e) s') E ⟨h',g,d,t,os⟩)(hrest:rest.length<=sizeLine):
  Lm (Ln prog w) A (call (.ref C) rest) Q E ⟨h,g,d,t,os⟩:=by
 have f1:=tc_lookup;have f2:=tc_bind (.ref C);have hT:(⟨h,g,d,t,os⟩:Shared).TypeIs (.ref C) "type":=⟨_,hC,rfl⟩;refine LU (codeAny_of_tree ?_);show Lm _ _ (callAny (.ref C) _) _ _ _
 repeat (any_goals (first|assumption|with_reducible refine MF hC ?_|wp_step))
 exact⟨rfl,codeAny_call_builtin_at (Code.quiet_builtin _ (by decide +kernel)) entry_typeCall (wpAny_check_type_call_sub hC (Gf F T X hC hi hf hq hrest))⟩
def Hu (hbase:bm.contains (.type "BaseException")=true)(hh:A.handled=none)(h:Lm M A x (λv s₁=>∃e oe t,v=.ref e/\s₁.heap.get? C=some (MI nm q C N bs bm hdct sn sub ab col dd k0 k1 k2 k3 k5 newId) /\
   s₁.heap.get? e=some oe/\oe.cls=.ref C/\oe.data=.fields #[.ref t,.none,.none,.none,.bool false,.none]/\E (.ref e) s₁) E s):
  Lm M A (raiseStmt env (some x) none) Q E s:=by
 have hcB:(Value.ref C::bm).contains (.type "BaseException")=true:=by rw[List.contains_cons,hbase,Bool.or_true]
 unfold raiseStmt;refine Ly (Lq h (λv s₁ h₁=>?_) λ_ _ x=>x);obtain⟨e,oe,t,rfl,hC,he,hc,hd,hE⟩:=h₁;obtain⟨oc,od,odt,osl⟩:=oe;dsimp only at hc hd;subst hc hd;obtain⟨hp,g,d,tk,os⟩:=s₁
 repeat (first|with_reducible refine MF he ?_|with_reducible refine MF hC ?_|(with_reducible refine MJ hC ?_;rw[hcB])|wp_step)
 exact wpAny_raiseNew_none hh hE
def Ht (F:ML B newId initId bmB)(hbase:bm.contains (.type "BaseException")=true)(hh:A.handled=none)(hplain:(Lo cpos (Lp args env)).any (·.1)=false)(hi:MD K (.ref C) "__init__"=some (some (.ref fI)))(hf:typeIn K (.ref fI)=some (.type "function"))(h:Lm (Ln prog w) A (eval (.Name x np) env) (λf s₁=>f=.ref C/\Lm (Ln prog w) A (evalArgs (.ref C) true (Lo cpos (Lp args env)) [])
   (λa s₂=>a.kw=[]/\a.pos.length<=sizeLine/\s₂.heap.get? C=some (MI nm q C N bs bm hdct sn sub ab col dd k0 k1 k2 k3 k5 newId)/\K.In s₂.heap/\OwnTail s₂.heap bmB bm /\
    ∀h' e,W8 s₂.heap h' e (.ref C) a.pos->s₂.heap.objs.size<=h'.objs.size->Lm (Ln prog w) (A.under (.builtin "type.__call__" ⟨.ref C::a.pos,[]⟩)) (call (.ref fI) (.ref e::a.pos))
     (λr s'=>r=.none/\∃oe t,s'.heap.get? C=some (MI nm q C N bs bm hdct sn sub ab col dd k0 k1 k2 k3 k5 newId)/\s'.heap.get? e=some oe/\oe.cls=.ref C/\oe.data=.fields #[.ref t,.none,.none,.none,.bool false,.none]/\E (.ref e) s') E {s₂ with heap:=h' }) E s₁) E s):
  Lm (Ln prog w) A (exec (.Raise (some (.Call (.Name x np) args [] cpos)) none pos) env) Q E s:=by
 rw[arm_exec_Raise];simp only[evalOpt,Option.map];refine Ly (LA (Hu (C:=C) (nm:=nm) (q:=q) (N:=N) (bs:=bs) (bm:=bm) (hdct:=hdct) (sn:=sn) (sub:=sub) (ab:=ab) (col:=col) (dd:=dd) (k0:=k0) (k1:=k1) (k2:=k2) (k3:=k3) (k5:=k5) (newId:=newId) hbase hh ?_));refine Ly (Lq (wpAny_Call_ofName (Lq h (λf s₁ h₁=>?_) λ_ _ x=>x)) (λv s₃ h₃=>Ly (LA (LF h₃))) λ_ _ x=>x);obtain⟨rfl,h₁⟩:=h₁;unfold callWith;refine Ly (Lz (Lq h₁ (λa s₂ h₂=>Ly (LA ?_)) λ_ _ x=>x));obtain⟨apos,akw⟩:=a;obtain⟨hkw,hlen,hC,hX,T,h₂⟩:=h₂;obtain rfl:akw=[]:=hkw;obtain⟨hp,g,d,tk,os⟩:=s₂;simp only[hplain];refine Ly (wpAny_keeperOf_exc hC ?_);refine Ly (Ge (hrest:=hlen) F T hX hC hi hf λh' e hm hz=>Lq (h₂ h' e hm hz) (λr s' hr=>⟨hr.1,Ly (Lz (wpAny_point (LF ?_)))⟩) λ_ _ y=>y);obtain⟨_,oe,t,e1,e2,e3,e4,e5⟩:=hr;exact⟨e,oe,t,rfl,e1,e2,e3,e4,e5⟩
end
end L2
namespace L2
open PySem PySem.Spec PySem.Calls PyProof.Rows PySem.W Builtin Builtin.ObjectAttr
structure dG(K:Qb)(C fI:Addr)(n:Str):Prop where
 cd:∃cd,clsIn K C=some cd/\cd.hasDict=true/\∀self,refuseLoop self "__setattr__" cd.mro=pure ()
 sa:MD K (.ref C) "__setattr__"=some (some (.builtin "object.__setattr__"))
 ob:Mz K C (.type "object")=some true
 no:MD K (.ref C) n=some none
 ini:MD K (.ref C) "__init__"=some (some (.ref fI))
 fn:typeIn K (.ref fI)=some (.type "function")
section
variable{P:Lb}{w:Lc}{K:Qb}{mg:Str->Option Value}{base:Ld}{A:Lh}{outer:List Env}{s:Shared}{H:Hp}
variable{fI:Addr}{qual a0 a1:Str}{params:Arguments}{scope:K9}{dV kV doc pm cdv ct oc:Value}{an od:Option Addr}{osl:Array (Option Value)}{p1 p2 p3 p4:Pos}
def Gd (lk:K.lookup fI=some ⟨oc,od,.func (Wc "__init__" qual params [.Assign [.Attribute (.Name a0 p1) a1 p2] (.Name a1 p3) p4] scope dV kV doc pm an cdv ct),osl⟩)(hcd:WB K cdv qual=true)(S:bT [a0,a1] [a0,a1] scope)(hb:Binds K (Wc "__init__" qual params [.Assign [.Attribute (.Name a0 p1) a1 p2] (.Name a1 p3) p4] scope dV kV doc pm an cdv ct) [a0,a1] [])(l0:scope.names.lookup a0=some .local)(l1:scope.names.lookup a1=some .local)(d0:(a0==("__debug__":Str))=false)(d0':(a0==("__classdict__":Str))=false)(d1:(a1==("__debug__":Str))=false)(d1':(a1==("__classdict__":Str))=false)(hs:∀env,Lw (.Name a1 p3) (some (.Attribute (.Name a0 p1) a1 p2)) p4.line env=pure false)(O:dG K C fI a1)(hr:A.depth<LO)(hh:A.handled=none)(e0:cZ P w K mg base A outer s H)(he:s.heap.get? e=some oe)(hHe:H e=none)(hef:e∉bz outer)(hc:oe.cls=.ref C)(hnc:MK oe=true)(hdn:oe.dict=none)(rv:RelV v u)(hq:∀s' D u',s'.os=s.os->Li s'.gens->s.heap.get? D=none->s'.heap.get? e=some {oe with dict:=some D}->s'.heap.Ns1 D (λy=>if y=a1 then some u' else none)->RelV v u'->bP P w H s'.heap ->
   (∀b o,b≠e->s.heap.get? b=some o->H b=none->b∉bz outer->s'.heap.get? b=some o)->(∀b o,b≠e->s.heap.get? b=some o->H b=none->b∈bz outer->∃sl,s'.heap.get? b=some {o with slots:=sl}) ->
   (∀b o,s.heap.get? b=some o->∃o',s'.heap.get? b=some o')->R .none s'):
  Lm (Ln P w) A (call (.ref fI) [.ref e,u]) R E s:=by
 have KX:K.In s.heap:=e0.mod.kin.keeps λb o e=>(e0.bs b o e).1;have aq:s.heap.NoLimit:=e0.mod.nolimit.keeps λb o e=>(e0.bs b o e).1;have hkind:∀y∈[a0,a1].zip [Value.ref e,u],scope.names.lookup y.1=some .local\/(scope.names.lookup y.1=some .cell/\((L5 (s.heap.objs.size+1) scope.names []).lookup y.1).isSome=true):=λ⟨n,v⟩ hy=>by
  rcases S.par n (W3 hy).1 with q|q
  .exact .inl q
  .exact .inr ⟨q,WC _ _ _ (.inl q)⟩
 have hbb:LR s (Wc "__init__" qual params [.Assign [.Attribute (.Name a0 p1) a1 p2] (.Name a1 p3) p4] scope dV kV doc pm an cdv ct) ⟨[.ref e,u],[]⟩ ([a0,a1].zip [Value.ref e,u]):=by
  have z:=hb s [.ref e,u] KX rfl;rw[QU]at z;exact z
 refine LU (L6 hr (KX _ _ lk) rfl S.co S.gen rfl (PySem.W.codeRec_of KX hcd) (hbb _ _ _ _ ?_));refine L7 S.kind hkind λenv hen s1 x=>?_;subst hen;refine⟨aq.keeps x.toInCall.keep,codeAny_func ?_⟩;have I:Inv (vY c5 P w K mg base [a0,a1] qual scope fI cdv A outer s H (λ_ _ _=>False)) [] (start [a0,a1] [.ref e,v]) H s1:=qg S hh e0 rfl (.cons rfl (.cons rv .nil)) x;have pv:∀E',PE ((vY c5 P w K mg base [a0,a1] qual scope fI cdv A outer s H (λ_ _ _=>False)).wish E') (.Name a1 p3) (ii 1):=λE'=>jc rfl (.inl l1) d1 d1';have ps:∀E',PE ((vY c5 P w K mg base [a0,a1] qual scope fI cdv A outer s H (λ_ _ _=>False)).wish E') (.Name a0 p1) (ii 0):=λE'=>jc rfl (.inl l0) d0 d0';refine Lu (plainObj_wpAny_Assign_Attribute (bc (pv _ [] s1 _ H (λy H1=>y=v/\H1=H) (I.wish _) ⟨v,rfl,rfl,rfl⟩) λu1 s2 h2=>?_) (hs _));obtain⟨y,H1,I1,ry,rfl,rfl⟩:=h2;refine bc (ps _ [] s2 _ H1 (λy H2=>y=.ref e/\H2=H1) I1 ⟨.ref e,rfl,rfl,rfl⟩) λov s3 h3=>?_;obtain⟨y',H2,I2,ry',rfl,rfl⟩:=h3;obtain rfl:ov=.ref e:=ry';obtain⟨cd,hcd,hdd,hpass⟩:=O.cd;have noA:∀b:Addr,b∉([]:List Addr):=λb z=>MP z (by simp);have he3:s3.heap.get? e=some oe:=I2.base.keep e oe he hHe hef (noA _);refine Hv I2.kIn he3 hc hnc hdn hcd hdd hpass O.sa O.ob O.no λh' tk' D hD hx hns hk=>Ls ?_;have hsz:∀{b:Addr},s3.heap.get? b=none->s.heap.get? b=none:=λ{b} z=>by
  cases q:s.heap.get? b with
  |none=>rfl
  |some o=>
   obtain⟨o',z'⟩:=I2.base.there b o q (noA _);rw[z]at z';cases z'
 refine hq _ D u1 I2.os I2.bare (hsz hD) hx hns ry (λa o z=>(I2.hok a o z).stay (λb u' hb q=>hk b u' (λeb=>?_) q) (λ_ q=>q) λ_ _ q=>q)
  (λb o ne q n hb=>hk b o ne (I2.base.keep b o q n hb (noA _))) (λb o ne q n hb=>?_) (λb o q=>?_)
 .subst eb;rcases hb with rfl|hb
  .rw[hHe]at z;cases z
  .rw[hHe]at hb;cases hb
 .obtain ⟨sl,q'⟩:=I2.base.slot b o q n hb (noA _);exact⟨sl,hk b _ ne q'⟩
 .by_cases eb:b=e
  .subst eb;exact⟨_,hx⟩
  .obtain ⟨o',q'⟩:=I2.base.there b o q (noA _);exact⟨o',hk b o' eb q'⟩
end
end L2
namespace L2
open PySem PySem.Spec PySem.Calls PyProof.Rows PySem.W
structure dZ(B:Ld)(l:List Env)(e:Addr)(o:Obj)(z fl:Value)(g:Ld):Prop where
 st:B.StaysIn g
 no:B.get? e=none
 fr:g.FunFrames B l
 ob:∃xs T p ys,g.get? e=some {o with data:=.fields xs}/\xs[0]?=some z/\xs[1]?=some (.ref T)/\B.get? T=none/\T≠e/\g.get? T=some p/\p.data=.fields ys/\ys[3]?=some fl/\xs[2]?=some .none
section
variable{M:Ll}{A:Lh}{E:Value->Shared->Prop}{s:Shared}{B:Ld}{env:Env}{outer:List Env}{L e:Addr}{o:Obj}{z fl:Value}
def uw (fs:A.frames=some (env::outer))(le:env.frame=some L)(fr:s.heap.FunFrames B (env::outer))(st:B.StaysIn s.heap)(no:B.get? e=none)(oe:s.heap.get? e=some {o with data:=.fields xs})(sz:1<xs.size)(x0:xs[0]?=some z)(x2:xs[2]?=some .none)(k:∀g,dZ B (env::outer) e o z (rawInt L) g->s.heap.UpToSlots g->Q () {s with heap:=g}):
  Lm M A (do let a <-frameOf env;let pl <-entryPlaceOf L had;let b <-EntryCells.newEntry hd a .none (rawInt L) .none pl;setField (.ref e) 1 b) Q E s:=by
 have ne:e∉(env::outer).filterMap (·.frame):=λhm=>by
  obtain⟨_,u,hu,nu⟩:=fr.mem hm;cases oe.symm.trans hu;exact nu xs rfl
 refine Ly (wpAny_frameOf_fun fs fr le λg1 sl=>Ly (wpAny_entryPlaceOf λpl ip=>?_));unfold EntryCells.newEntry newFields;refine Ly (Mf ?_ (ip.sizeOk5 _ _ _ _ _));generalize hT:({cls:=.type "traceback",dict:=none,data:=.fields ([hd,.ref L,.none,rawInt L,.none]++(if pl.isEmpty then Qv 6 Value.none else pl)).toArray}:Obj)=tb;have e1:g1.get? e=some {o with data:=.fields xs}:=(sl.2.1 e ne).trans oe;have e2:=Qi tb e1;have Te:g1.objs.size≠e:=WQ (Qu e1);have b1:B.StaysIn g1:=λb u hb=>by
  rw[sl.2.1 b (λhm=>by rw[(fr.mem hm).1]at hb;cases hb)];exact st b u hb
 refine MM e2 rfl sz (k _ ?_ ?_)
 .have e3:((g1.push tb).update e (Obj.mapFields (·.setIfInBounds 1 (Value.ref g1.objs.size)))).get? e=some {o with data:=.fields (xs.setIfInBounds 1 (.ref g1.objs.size))}:=WG _ e2 rfl;have t3:((g1.push tb).update e (Obj.mapFields (·.setIfInBounds 1 (Value.ref g1.objs.size)))).get? g1.objs.size=some tb:=(Wb _ _ (Ne.symm Te)).trans (QT g1 (by subst hT;rfl));have kp:∀b u,b≠e->g1.get? b=some u->((g1.push tb).update e (Obj.mapFields (·.setIfInBounds 1 (Value.ref g1.objs.size)))).get? b=some u:=λb u nb hb=>(Wb _ _ (Ne.symm nb)).trans (Qi _ hb);refine⟨λb u hb=>kp b u (λq=>by rw[q,no]at hb;cases hb) (b1 b u hb),no,fr.of_keeps λb u hb nf=>?_,⟨_,g1.objs.size,tb,_,e3,?_,?_,b1.fresh,Te,t3,by subst hT;rfl,?_,by rw[Vf (by decide)];exact x2⟩⟩
  .obtain ⟨q,hq⟩:=sl.2.2 b u hb;exact⟨_,kp b _ (λh=>by subst h;cases oe.symm.trans hb;exact nf xs rfl) hq,rfl⟩
  .rw[Vf (by decide)];exact x0
  .simp[sz]
  .first
    |(simp;done)
    |(rcases ip with rfl|⟨_,_,_,_,_,_,_,rfl⟩<;>simp)
 .intro b u hb nf;obtain⟨q,hq⟩:=sl.2.2 b u hb;exact⟨q,(Wb _ _ (λh=>by subst h;cases oe.symm.trans hb;exact nf xs rfl)).trans (Qi _ hq)⟩
def kJ (f:dZ B l e o z fl s.heap)(k:∀g,dZ B l e o z .none g->s.heap.UpToSlots g->Q () {s with heap:=g}):Lm M A (setFlight (.ref e) none) Q E s:=by
 obtain⟨xs,T,p,ys,q1,q2,q3,q4,q5,q6,q7,q8,q9⟩:=f.ob;have s3:3<ys.size:=(Wt.mp q8).1;unfold setFlight;refine Ly (Mc q1 rfl q3 ?_);rw[MN (show(Value.ref T != Value.none)=true by simp)];have ot:∀{b:Addr},b≠T->(s.heap.update T (Obj.mapFields (·.setIfInBounds 3 Value.none))).get? b=s.heap.get? b:=λ{b} nb=>Wb _ _ (Ne.symm nb);have nr:∀{b:Addr}{u:Obj},s.heap.get? b=some u->(∀vs,u.data≠.fields vs)->b≠T:=λ{b u} hb nf h=>by subst h;cases q6.symm.trans hb;exact nf ys q7
 refine MM q6 q7 s3 (k _ ⟨λb u hb=>(ot λh=>by rw[h,q4]at hb;cases hb).trans (f.st b u hb),f.no,f.fr.of_keeps λb u hb nf=>⟨u,(ot (nr hb nf)).trans hb,rfl⟩,⟨xs,T,_,_,(ot (Ne.symm q5)).trans q1,q2,q3,q4,q5,WG _ q6 (Obj.isFreed_of_fields (Obj.data_mapFields q7 _)),Obj.data_mapFields q7 _,by simp[s3],q9⟩⟩ λb u hb nf=>⟨u.slots,(ot (nr hb nf)).trans hb⟩)
def Ao (fs:A.frames=some (env::outer))(le:env.frame=some L)(f:dZ B (env::outer) e o z .none s.heap)(k:∀g,dZ B (env::outer) e o z (rawInt L) g->s.heap.UpToSlots g->Q () {s with heap:=g}):Lm M A (Mv (.ref e) env) Q E s:=by
 obtain⟨xs,T,p,ys,q1,q2,q3,q4,q5,q6,q7,q8,q9⟩:=f.ob;have s3:3<ys.size:=(Wt.mp q8).1;unfold Mv;simp only[le];refine Ly (Mc q1 rfl q3 ?_);rw[MN (show(Value.ref T != Value.none)=true by simp)];refine Ly (Mc q6 q7 q8 ?_);rw[MO (show ¬(Value.none==rawInt L)=true by simp[rawInt])];have ot:∀{b:Addr},b≠T->(s.heap.update T (Obj.mapFields (·.setIfInBounds 3 Value.none))).get? b=s.heap.get? b:=λ{b} nb=>Wb _ _ (Ne.symm nb);have nr:∀{b:Addr}{u:Obj},s.heap.get? b=some u->(∀vs,u.data≠.fields vs)->b≠T:=λ{b u} hb nf h=>by subst h;cases q6.symm.trans hb;exact nf ys q7
 refine Ly (MM q6 q7 s3 ?_);refine uw (s:={s with heap:=s.heap.update T (Obj.mapFields (·.setIfInBounds 3 Value.none))}) fs le (f.fr.of_keeps λb u hb nf=>⟨u,(ot (nr hb nf)).trans hb,rfl⟩) (λb u hb=>(ot λh=>by rw[h,q4]at hb;cases hb).trans (f.st b u hb)) f.no ((ot (Ne.symm q5)).trans q1) (Wt.mp q3).1 q2 q9 λg fg up=>k g fg λb u hb nf=>?_;exact up b u ((ot (nr hb nf)).trans hb) nf
def Hs (fs:A.frames=some (env::outer))(le:env.frame=some L)(fr:s.heap.FunFrames B (env::outer))(st:B.StaysIn s.heap)(no:B.get? e=none)(oe:s.heap.get? e=some {o with data:=.fields xs})(x1:xs[1]?=some .none)(x0:xs[0]?=some z)(x2:xs[2]?=some .none)(k:∀g,dZ B outer e o z .none g->s.heap.UpToSlots g->Q () {s with heap:=g}):Lm M A (L4 env (.ref e)) Q E s:=by
 unfold L4 Mv;simp only[le];refine Ly (Ly (Mc oe rfl x1 ?_));rw[MO (by decide)];refine uw fs le fr st no oe (Wt.mp x1).1 x0 x2 λg fg up=>kJ fg λg2 fg2 up2=>k g2 ⟨fg2.st,fg2.no,fg2.fr.2.2,fg2.ob⟩ (up.trans up2)
def Hr (fs:A.frames=some (env::outer))(le:env.frame=some L)(f:dZ B (env::outer) e o z .none s.heap)(k:∀g,dZ B outer e o z .none g->s.heap.UpToSlots g->Q () {s with heap:=g}):Lm M A (L4 env (.ref e)) Q E s:=by
 unfold L4;refine Ly (Ao fs le f λg fg up=>?_);exact kJ fg λg2 fg2 up2=>k g2 ⟨fg2.st,fg2.no,fg2.fr.2.2,fg2.ob⟩ (up.trans up2)
end
noncomputable def dw(P:Lb)(w:Lc):dN:=λouter H s E ev s'=>∃(C e D:Addr) (o:Obj) (z:Value) (B:Ld) (H':Hp),ev=.ref e/\s'.os=s.os/\Li s'.gens/\Un (bz outer) [] H H' s.heap s'.heap/\bP P w H' s'.heap /\
 dZ B outer e o z .none s'.heap/\o.cls=.ref C/\o.dict=some D/\cx (bz outer) H' s.heap s'.heap B/\E (.ref C) (some D) H'
structure cS(P:Lb)(w:Lc)(fs:List Addr)(H:Hp)(s s':Shared)(C e D:Addr)(oe:Obj)(n:Str)(v:V):Prop where
 os:s'.os=s.os
 bare:Li s'.gens
 ne:s.heap.get? e=none
 nD:s.heap.get? D=none
 De:D≠e
 he:s'.heap.get? e=some oe
 cl:oe.cls=.ref C
 di:oe.dict=some D
 da:∃t,oe.data=.fields #[.ref t,.none,.none,.none,.bool false,.none]
 ns:∃u,s'.heap.Ns1 D (λy=>if y=n then some u else none)/\RelV v u
 hok:bP P w H s'.heap
 keep:∀b o,s.heap.get? b=some o->H b=none->b∉fs->s'.heap.get? b=some o
 slot:∀b o,s.heap.get? b=some o->H b=none->b∈fs->∃sl,s'.heap.get? b=some {o with slots:=sl}
 there:∀b o,s.heap.get? b=some o->∃o',s'.heap.get? b=some o'
noncomputable def jR(X:Cx)(n:Str)(E:XK):Prop:=∀(pins:List (Addr×Obj)) (σ:St) (H:Hp) (s s':Shared) (C e D:Addr) (oe:Obj) (v:V),Inv X pins σ H s->cS X.prog X.w (bz X.stack) H s s' C e D oe n v->E (.ref C) (some D) (aJ H D (.xd [(n,v)]))->X.xe (.ref e) s'
section
variable{P:Lb}{w:Lc}{fs:List Addr}{H:Hp}{s s':Shared}{C e D:Addr}{oe:Obj}{n:Str}{v:V}
def xZ (hk:bP P w H s.heap)(h:s.heap.get? b=none):H b=none:=by
 cases z:H b with
 |none=>rfl
 |some u=>
  obtain⟨o,ho⟩:=(hk b u z).ob;rw[h]at ho;cases ho
def cS.hokD(m:cS P w fs H s s' C e D oe n v)(hk:bP P w H s.heap):bP P w (aJ H D (.xd [(n,v)])) s'.heap:=λa o z=>by
 have hD:=xZ hk m.nD;by_cases q:a=D
 .subst q;rw[zn]at z;cases z;obtain⟨u,hu,r⟩:=m.ns;refine⟨_,hu,λf=>?_⟩;rw[QV];by_cases y:f=n
  .subst y;simp only[beq_self_eq_true,if_true];exact r
  .have:(f==n)=false:=by simpa using y
   simp only[this,MO y];trivial
 .rw[zi q]at z;exact(m.hok a o z).stay (λ_ _ _ q=>q) (λ_ q=>by rw[zi (zt q hD)];exact q) λ_ _ q=>by rw[zi (zt q hD)];exact q
def cS.un(m:cS P w fs H s s' C e D oe n v)(hk:bP P w H s.heap):Un fs [] H (aJ H D (.xd [(n,v)])) s.heap s'.heap:=by
 have hD:=xZ hk m.nD;refine⟨λb o q1 q2 q3 _=>m.keep b o q1 q2 q3,λb o q1 q2 q3 _=>m.slot b o q1 q2 q3,λb o q1 q2 _=>?_,λb o q _=>m.there b o q,λb xs q=>?_,λb o u q=>?_,λb ps q=>⟨#[],?_⟩⟩
 .rw[zi (λz=>by rw[z,m.nD]at q1;cases q1)];exact q2
 .rw[zi (zt q hD)];exact q
 .rw[zi (zt q hD)];exact q
 .rw[zi (zt q hD),Array.append_empty];exact q
end
theorem kK {h h':Ld}:∀{l:List Env},h.FunFrames base l->(∀b∈bz l,∀o,h.get? b=some o->∃sl,h'.get? b=some {o with slots:=sl})->h'.FunFrames base l
 |[],_,_=>trivial
 |env::l,⟨hk,⟨L,o,hf,hn,ho,hd⟩,hr⟩,k=>by
  obtain⟨sl,q⟩:=k L (by rw[gv hf];exact QH) o ho;exact⟨hk,⟨L,_,hf,hn,q,hd⟩,kK hr λb hb=>k b (by rw[gv hf];exact Ql _ hb)⟩
section
variable{P:Lb}{w:Lc}{K:Qb}{mg:Str->Option Value}{base:Ld}{N:List Str}{qual:Str}{scope:K9}{f:Addr}{cd:Value}{A:Lh}{outer:List Env}{s:Shared}{H:Hp}{E:XK}{n:Str}
def qu:jR (vY (dw P w) P w K mg base N qual scope f cd A outer s H E) n E:=by
 intro pins σ H1 s1 s2 C e D oe v I m hE;have hfr:(envOfC qual scope s.heap.objs.size f cd).frame=some s.heap.objs.size:=rfl;have hst:s1.heap.FunFrames base (envOfC qual scope s.heap.objs.size f cd::outer):=I.stack;have hfz:∀b∈bz (envOfC qual scope s.heap.objs.size f cd::outer),H1 b=none:=I.stkFree;have hD:=xZ I.hok m.nD;have he:=xZ I.hok m.ne;have hfz':∀b∈bz (envOfC qual scope s.heap.objs.size f cd::outer),aJ H1 D (.xd [(n,v)]) b=none:=λb hb=>by
  obtain⟨_,o,ho,_⟩:=hst.mem hb;rw[zi (λz=>by rw[z,m.nD]at ho;cases ho)];exact hfz b hb
 have hst2:s2.heap.FunFrames base (envOfC qual scope s.heap.objs.size f cd::outer):=kK hst λb hb o ho=>m.slot b o ho (hfz b hb) hb;obtain⟨t,hda⟩:=m.da;have hok2:=m.hokD I.hok;have hB:cx (s.heap.objs.size::bz outer) (aJ H1 D (.xd [(n,v)])) s1.heap s2.heap (hideAll s2.heap (e::bz (envOfC qual scope s.heap.objs.size f cd::outer))):=λb o q hq hn=>by
  refine hideAll_get _ q λhm=>?_;rcases Qr.mp hm with z|z
  .subst z;rcases hq with y|⟨o₀,y⟩
   .rw[zi (Ne.symm m.De)]at y;exact y he
   .rw[m.ne]at y;cases y
  .exact hn z
 have eo:({oe with data:=.fields #[.ref t,.none,.none,.none,.bool false,.none]}:Obj)=oe:=by
  obtain⟨a,b,c,d⟩:=oe;dsimp only at hda;subst hda;rfl
 refine Hs (o:=oe) (z:=.ref t) I.ok.frames hfr (funFrames_hide hst2 λenv he b hb=>Ql _ (Vc.mpr ⟨env,he,hb⟩)) (λb o q=>of_hideAll _ q) (hideAll_none _ (QH)) (by rw[eo];exact m.he) rfl rfl rfl λg fg up=>?_;refine⟨C,e,D,oe,.ref t,_,aJ H1 D (.xd [(n,v)]),rfl,m.os.trans I.os,m.bare,?_,?_,fg,m.cl,m.di,?_,hE⟩
 .exact uy (Qk _) I.ok.funs I.ok.frf I.base (m.un I.hok) hB fg.st up
 .exact gw hok2 hfz' hB fg.st
 .exact qr (Qk _) (hfz' _ (by show _∈s.heap.objs.size::bz outer;exact QH)) I.base hok2 (λb o q=>m.there b o q) hB fg.st
end
noncomputable def oh:List Value:=[.type "ValueError",.type "Exception",.type "BaseException",.type "object"]
noncomputable def vq(K:Frag)(C:Addr):Bool:=match K.lookup C with
 |some ⟨.type "type",_,.cls cd,sl⟩=>(match cd.mro,sl.toList with
  |.ref C'::bm,[_,_,_,_,some (.builtin n),_]=>C'==C&&n == "ValueError.__new__" && ! cd.hasDel&&tailIn K oh bm
  |_,_=>false)
 |_=>false
set_option tactic.hygienic true in
def mH {K:Frag}(X:K.In h)(q:vq K C=true):(∃nm q N bs bm hdct sn sub ab col dd k0 k1 k2 k3 k5,K.lookup C=some (MI nm q C N bs bm hdct sn sub ab col dd k0 k1 k2 k3 k5 "ValueError.__new__")/\h.get? C=some (MI nm q C N bs bm hdct sn sub ab col dd k0 k1 k2 k3 k5 "ValueError.__new__")/\OwnTail h oh bm/\tailIn K oh bm=true)/\∀v,Mz K C v=some true->kI h C v:=by
 unfold vq at q;split at q
 .rename_i dd cd sl ho;split at q
  .rename_i C' bm k0 k1 k2 k3 n k5 hm hs;simp only[Qj,beq_iff_eq,Ws]at q;obtain⟨⟨⟨rfl,rfl⟩,q1⟩,q2⟩:=q;have eo:=X _ _ ho;have em:∀v,Mz K C' v=some (cd.mro.contains v):=λv=>by
    unfold Mz clsIn;rw[ho];simp only[Wn];rw[hm];rfl
   obtain⟨a1,a2,a3,a4,a5,a6,a7,a8,a9,b1,b2⟩:=cd;dsimp only at hm q1 em;subst hm q1;have es:sl=#[k0,k1,k2,k3,some (.builtin "ValueError.__new__"),k5]:=by
    obtain⟨l⟩:=sl;simp only at hs;rw[hs]
   subst es;refine⟨⟨a1,a5,a4,a2,bm,a6,a7,a8,a9,b1,dd,k0,k1,k2,k3,k5,ho,eo,tail_of_in X q2,q2⟩,λv z=>?_⟩;rw[em]at z;exact⟨a1,a5,a4,a2,bm,a6,a7,a8,a9,b1,dd,k0,k1,k2,k3,k5,_,eo,Option.some.inj z⟩
  .cases q
 .cases q
structure bB(K:Frag)(C fI:Addr)(n a0:Str)(st:Stmt):Prop where
 cls:vq K C=true
 own:dG K C fI n
 fn:∃fd qual,dM K "__init__" qual st fI fd/\Binds K fd [a0,n] []
 sc:bT [a0,n] [a0,n] (zo st)
 body:∃p1 p2 p3 p4,zU st=[.Assign [.Attribute (.Name a0 p1) n p2] (.Name n p3) p4]/\∀env,Lw (.Name n p3) (some (.Attribute (.Name a0 p1) n p2)) p4.line env=pure false
 l0:(zo st).names.lookup a0=some .local
 l1:(zo st).names.lookup n=some .local
 d0:(a0==("__debug__":Str))=false/\(a0==("__classdict__":Str))=false
 d1:(n==("__debug__":Str))=false/\(n==("__classdict__":Str))=false
def Hq {st:Stmt}{E:XK}(hb:X.mg x=some (.ref C))(O:bB X.K C fI n a0 st)(hr:bM k X.A)(hc:X.calm=true)(hg:Gl X x)(hx:∀(H:Hp) (s s':Shared) (e D:Addr) (oe:Obj) (v:V),Inv X pins σ H s->cS X.prog X.w (bz X.stack) H s s' C e D oe n v->E (.ref C) (some D) (aJ H D (.xd [(n,v)]))->X.xe (.ref e) s')(ha:PA X [e₀] t)(I:Inv X pins σ H s)(h:t σ H λvs H1=>∃v,vs=[v]/\∀D',H1 D'=none->E (.ref C) (some D') (aJ H1 D' (.xd [(n,v)])))(hdb:(x==("__debug__":Str))=false)(he:Lp [e₀] X.env=(false,eval e₀ X.env)::Lp [] X.env):Lm (Ln X.prog X.w) X.A (exec (.Raise (some (.Call (.Name x np) [e₀] [] cpos)) none pos) X.env) QQ X.xe s:=by
 obtain⟨⟨nm,q,N,bs,bm,hdct,sn,sub,ab,col,dd,k0,k1,k2,k3,k5,lC,hC,T,tl⟩,_⟩:=mH I.ok.mod.kin O.cls;obtain⟨fd,qual,Fi,hB⟩:=O.fn;obtain⟨p1,p2,p3,p4,eb,hs⟩:=O.body;obtain⟨oc,od,kV,doc,pm,an,cdv,ct,osl,rfl,lk,hcd⟩:=Fi.ex;rw[eb]at lk hB;refine Ht (K:=X.K) (fI:=fI) (k0:=k0) (k1:=k1) (k2:=k2) (k3:=k3) (k5:=k5) (dd:=dd) (col:=col) (ab:=ab) (sub:=sub) (sn:=sn) (hdct:=hdct) (bs:=bs) (q:=q) (nm:=nm) (C:=C) (N:=N) (bm:=bm) PySem.F.excBase_ValueError (T.hasType PySem.F.excBase_ValueError.hasBase) (I.ok.hd hc) (by rw[he];rfl) O.own.ini O.own.fn (jP I hg hb ⟨rfl,?_⟩ hdb);have h1:=ha cpos pins s σ H _ I h;rw[he]at h1 ⊢;refine Calls.evalArgs_plain (Lq h1 (λus s2 h2=>?_) λ_ _ y=>y);obtain⟨vs,H1,I1,r,v,rfl,hE⟩:=h2;obtain⟨u,rfl,ru⟩:∃u,us=[u]/\RelV v u:=by
  cases r with
  |cons p q=>cases q with
   |nil=>exact⟨_,rfl,p⟩
 have hC2:=I1.bk _ _ hC;refine⟨rfl,show 1<=sizeLine by decide,hC2,I1.kIn,T.keeps I1.bk,λh' e mk hz=>?_⟩;obtain⟨tt,he',htn,ht⟩:=mk.there;have hHe:H1 e=none:=xZ I1.hok mk.new;have hef:e∉bz X.stack:=λhm=>by
  obtain⟨_,o,ho,_⟩:=I1.stack.mem hm;rw[mk.new]at ho;cases ho
 have hok':bP X.prog X.w H1 h':=λa o z=>(I1.hok a o z).stay (λb u _ q=>mk.keeps b u q) (λ_ q=>q) λ_ _ q=>q;have e1:=I1.env0;have e2:cZ X.prog X.w X.K X.mg X.base X.A X.stack {s2 with heap:=h' } H1:=⟨e1.frames,e1.mod,λb o q=>⟨mk.keeps b o (e1.bs b o q).1,(e1.bs b o q).2⟩,Qp e1.bsz hz,e1.funs.of_keeps λb o q _=>⟨o,mk.keeps b o q,rfl⟩,e1.frf,hok',e1.bare⟩;refine Gd (A:=X.A.under (.builtin "type.__call__" ⟨.ref C::[u],[]⟩)) (outer:=X.stack) (H:=H1) (e:=e) (v:=v) lk hcd O.sc hB O.l0 O.l1 O.d0.1 O.d0.2 O.d1.1 O.d1.2 hs O.own (by rw[IA];have:=hr.dp;lia) hr.hd (e2.make _ _ _) he' hHe hef rfl rfl rfl ru λs' D' u' a1 a2 a3 a4 a5 a6 a7 a8 a9 a10=>?_;have keep:∀b o,s2.heap.get? b=some o->H1 b=none->b∉bz X.stack->s'.heap.get? b=some o:=λb o q1 q2 q3=>a8 b o (λz=>by rw[z,mk.new]at q1;cases q1) (mk.keeps b o q1) q2 q3;have nD:s2.heap.get? D'=none:=by
  cases z:s2.heap.get? D' with
  |none=>rfl
  |some o=>
   have:h'.get? D'=none:=a3;rw[mk.keeps _ _ z]at this;cases this
 have hCn:H1 C=none:=(e1.bs C _ hC).2;have hCf:C∉bz X.stack:=λhm=>by
  obtain⟨q,_⟩:=I1.stack.mem hm;rw[hC]at q;cases q
 refine⟨rfl,_,tt,keep C _ hC2 hCn hCf,a4,rfl,rfl,?_⟩;refine hx H1 s2 s' e D' _ v I1 ⟨a1,a2,mk.new,nD,λz=>?_,a4,rfl,rfl,⟨tt,rfl⟩,⟨u',a5,a6⟩,a7,keep,λb o q1 q2 q3=>a9 b o (λz=>by rw[z,mk.new]at q1;cases q1) (mk.keeps b o q1) q2 q3,λb o q=>a10 b o (mk.keeps b o q)⟩ (hE D' (xZ I1.hok nD));have:h'.get? D'=none:=a3;rw[z,he']at this;cases this
def jm {st:Stmt}(hb:X.mg x=some (.ref C))(O:bB X.K C fI n a0 st)(hr:bM k X.A)(hc:X.calm=true)(hg:Gl X x)(hx:jR X n E)(ha:PA X [e₀] t)(hdb:(x==("__debug__":Str))=false:=by decide)(he:Lp [e₀] X.env=(false,eval e₀ X.env)::Lp [] X.env:=by rfl):
  PS X (.Raise (some (.Call (.Name x np) [e₀] [] cpos)) none pos) (λ_ σ H=>t σ H λvs H1=>∃v,vs=[v]/\∀D',H1 D'=none->E (.ref C) (some D') (aJ H1 D' (.xd [(n,v)]))):=by
 intro pins s σ H D I h;exact Hq hb O hr hc hg (λH s s' e D oe v=>hx pins σ H s s' C e D oe v) ha I h hdb he
end L2
namespace L2
open PySem PySem.Spec PySem.Calls PyProof.Rows PySem.W Builtin Builtin.ObjectAttr
section
variable{prog:Lb}{w:Lc}{A:Lh}{E:Value->Shared->Prop}{K:Qb}{x C:Addr}{ox oD:Obj}{h:Ld}{g:Array Lj}{d:Lk}{t:Nat}{os:My}{name:Str}{v:Value}
def FO (X:K.In h)(I:InstAt h x ox C (some oD))(hf:findObj K C (some oD) name=some (.value v))(hq:Q (.done (.ret v)) ⟨h,g,d,t,os⟩):
  Lm (Ln prog w) A (Builtin.«object.__getattribute__» ⟨[.ref x,.str name tk],[]⟩) Q E ⟨h,g,d,t,os⟩:=by
 have L0:=I.type (M:=Ln prog w);have L1:=looks_find (M:=Ln prog w) X I hf;unfold Builtin.«object.__getattribute__»
 repeat (any_goals (first|assumption|with_reducible refine Looks.at (by assumption) ?_|wp_step))
def Gc (X:K.In s.heap)(I:InstAt s.heap x ox C (some oD))(Z:dq K C)(hf:findObj K C (some oD) name=some (.value v))(hh:handedIn v=true)(hq:Q v {s with toks:=s.toks+1}):Lm (Ln prog w) A (getAttr (.ref x) name b) Q E s:=by
 obtain⟨h,g,d,t,os⟩:=s;have hx:=I.at_;have hc:=I.cls;have L0:=I.type (M:=Ln prog w);have L1:=ME (M:=Ln prog w) X Z.ga;have L2:=ME (M:=Ln prog w) X Z.gt;have f3:=F.attr_ValueError.ga.bind (.ref x);have y2:(Value.builtin "BaseException.__getattribute__" == Value.builtin "object.__getattribute__")=false:=by decide +kernel
 have y1:(MG (Value.ref C)&&Value.builtin "BaseException.__getattribute__" == Value.builtin "object.__getattribute__")=false:=by rw[y2];rfl
 have y3:(b&&MG (Value.builtin "BaseException.__getattribute__"))=false:=by rw[show MG (Value.builtin "BaseException.__getattribute__")=false from rfl,WT]
 have hO:=handedOut_of hh;unfold getAttr getAttrBy;refine Ly (wpAny_mkText (Lz (Ly (L0.at (Ly (L1.at ?_))))));dsimp only;rw[MO (by rw[y1];decide)];have hcg:∀nv:Value,MH (.ref x) nv (.builtin "BaseException.__getattribute__") b=boundAndCalled (.builtin "BaseException.__getattribute__") (.ref x) nv:=λnv=>by
  unfold MH;rw[MO (by rw[y3];decide)]
 unfold getAttrByItsOwn hookBefore;rw[hcg]
 repeat (any_goals (first|assumption|with_reducible refine Looks.at (by assumption) ?_|wp_step))
 refine MB F.attr_ValueError.ga.plain F.entry_bexc_ga (qt X hx hc Z.be (FO X I hf ?_))
 repeat (any_goals (first|assumption|wp_step))
end
end L2
namespace L2
open PySem PySem.Spec PySem.Calls PyProof.Rows PySem.W
set_option tactic.hygienic true in
theorem lookIn_ns {h:Heap}{dx:Addr}{mA:Str->Option Value}(n:h.Ns1 dx mA):∃ od,h.get? dx=some od/\∀ name,PySem.W.lookIn name od=some (mA name):=by
 obtain ⟨o,es,ep,ho,hd,hk,_,hm⟩:=n
 refine ⟨o,ho,fun name=>?_⟩
 have e:=hm name
 unfold nsFind findBy at e
 rw[<- Array.find?_toList] at e
 unfold PySem.W.lookIn
 rw[hd]
 dsimp only
 split
 ·rename_i y q
  rw[q] at e
  exact congrArg some e
 ·rename_i q
  rw[q] at e
  have a:es.toList.any (·.refKey)=false:=by
   rw[List.any_eq_false]
   intro y hy
   obtain ⟨z,t,hkey⟩:=hk y (Array.mem_toList_iff.mp hy)
   simp[DictEntry.refKey,hkey]
  have a':¬ es.toList.any (·.refKey)=true:=by rw[a];exact Bool.false_ne_true
  rw[if_neg a']
  exact congrArg some e
def FN {i:Nat}(hN:X.N[i]?=some n)(hn:X.env.scope.names.lookup n=some .local)(hd1:(n==("__debug__":Str))=false)(hd2:(n==("__classdict__":Str))=false)(Z:dq X.K C)(O:dG X.K C fI f)(hc:oe.cls=.ref C)(hnc:MK oe=true)(hdi:oe.dict=some D)(hb:LN (.Name n p) f X.env (eval (.Name n p) X.env)=eval (.Name n p) X.env:=by rfl):
  PE X (.Attribute (.Name n p) f pos) (λσ H Q=>σ[i]?=some (some (V.ref e))/\H e=some (dX oe)/\∃fs v,H D=some (.xd fs)/\fs.lookup f=some v/\Q v H):=by
 intro pins s σ H Q I h;obtain⟨hσ,hH,fs,v,hD,hl,q⟩:=h;have pv:PE X (.Name n p) (ii i):=jc hN (.inl hn) hd1 hd2;refine E5 hb (bc (pv pins s σ H (λx H1=>x=.ref e/\H1=H) I ⟨.ref e,hσ,rfl,rfl⟩) λu s1 ⟨x,H1,I1,rx,ex,eH⟩=>?_);subst ex eH;obtain rfl:u=Value.ref e:=rx;have hx:s1.heap.get? e=some oe:=(I1.hok e _ hH).1;obtain⟨mA,hns,r⟩:=I1.hok D _ hD;obtain⟨u,hu,ru⟩:=eU.some_of (v:=v) (o:=mA f) (by rw[<-hl];exact r f);obtain⟨od,ho,hlk⟩:=lookIn_ns hns;obtain⟨cd,k1,k2,_⟩:=O.cd;have hh:hasDictIn X.K C=true:=by unfold hasDictIn;rw[k1];exact k2
 refine Gc I1.kIn ⟨hx,hc,hnc,by rw[hdi];exact ho⟩ Z (findObj_own hh O.no rfl (by rw[hlk,hu])) (Io ru) ⟨v,H1,I1.tok _,ru,q⟩
set_option tactic.hygienic true in
def Jc (hst:X.stack=X.env::X.outer)(hfr:X.env.frame=some X.env.locals)(I:Inv X pins σ H1 s1)(os:s2.os=s1.os)(bare:Li s2.gens)(un:Un (bz X.stack) [] H1 H2 s1.heap s2.heap)(hok:bP X.prog X.w H2 s2.heap)(fl:dZ B X.stack e o zz .none s2.heap)(hoc:o.cls=.ref C)(hod:o.dict=some D')(hB:cx (bz X.stack) H2 s1.heap s2.heap B)(cC:kI X.base C (.ref G))(cG:kI X.base G (.type "BaseException"))(hg:Gl X gn)(hm:X.mg gn=some (.ref G))(hdb:(gn==("__debug__":Str))=false)(hN:X.N.Nodup)(hi:X.N[i]?=some n)(hn:X.env.scope.names.lookup n=some .local)(hex:X.ex=[])(hsuite:∀(oe:Obj) (E':Value->Shared->Prop),oe.cls=.ref C->MK oe=true->oe.dict=some D'->H2 e=none->∃tt,cf (X.heldT e E') (b₀::suite) tt/\tt {nx:=λσ' H'=>D.nx (σ'.set i none) H',rt:=D.rt} (σ.set i (some (.ref e))) (aJ H2 e (dX oe))):
  Lm (Ln X.prog X.w) X.A (Mv (.ref e) X.env) (λ_ s₂=>Lm (Ln X.prog X.w) X.A (setFlight (.ref e) none)
   (λ_ s₃=>Lm (Ln X.prog X.w) X.A (handleBy (.ref e) X.env [.ExceptHandler (some (.Name gn np)) (some n) (b₀::suite) pos]) (SP X pins D) X.xe s₃) X.xe s₂) X.xe s2:=by
 have frames:X.A.frames=some (X.env::X.outer):=by rw[<-hst];exact I.ok.frames
 have fz:=qp I.stack I.stkFree un;have inv:∀{h5:Ld},B.StaysIn h5->s2.heap.UpToSlots h5->Inv X pins σ H2 {s2 with heap:=h5}:=λ{h5} st up=>
  I.call' (s':={s2 with heap:=h5}) (ch:=[]) os (FP I.stack I.stkFree un hB st up) (gw hok fz hB st) bare (λb z=>MP z (by simp))
 rw[hst]at fl;refine Ao frames hfr fl λh4 hd4 up4=>?_;refine kJ hd4 λh5 fl5 up5=>?_;have I5:=inv fl5.st (up4.trans up5);obtain⟨xs5,_,_,_,he5,_⟩:=fl5.ob;obtain⟨nm,q,N,bs,bm,hdct,sn,sub,ab,col,dd,k0,k1,k2,k3,k5,ni,hC,hCG⟩:=cC;obtain⟨nm',q',N',bs',bm',hdct',sn',sub',ab',col',dd',j0,j1,j2,j3,j5,ni',hG,hGB⟩:=cG;refine wpAny_handleBy_cons (codeAny_handlers_test ?_) (by intro z;cases z);refine Calls.Name_function_global I.ok.kind hg (Calls.loadGlobal_global (by rw[I.ok.glob];exact I5.mod.glob.keeps I5.bk) hm ?_) hdb;refine G9 (I5.bk _ _ hC) (I5.bk _ _ hG) he5 hoc hGB hCG (codeAny_handlers_suite_as ?_);refine kJ fl5 λh6 fl6 up6=>?_;have I6:=inv fl6.st ((up4.trans up5).trans up6);obtain⟨ws,_,_,_,he6,_⟩:=fl6.ob;have hBe:B.get? e=none:=fl6.no;have hHe:H2 e=none:=by
  cases z:H2 e with
  |none=>rfl
  |some u=>
   obtain⟨o,ho⟩:=(hok e u z).ob;have:=hB e o ho (.inl (by rw[z];simp)) (λhm=>by rw[fz e hm]at z;cases z);rw[hBe]at this;cases this
 have hen:∀b∈bz X.stack,b≠e:=λb hb z=>by
  subst z;obtain⟨_,o,ho,hnf⟩:=I6.stack.mem hb;rw[he6]at ho;cases ho;exact hnf ws rfl
 have hL:e≠X.env.locals:=λz=>hen X.env.locals (by rw[hst,gv hfr];exact QH) z.symm;have hS1:s1.heap.get? e=none:=by
  cases z:s1.heap.get? e with
  |none=>rfl
  |some o1=>
   obtain⟨o2,h2⟩:=un.there e o1 z (by simp);have:=hB e o2 h2 (.inr ⟨o1,z⟩) (λhm=>hen e hm rfl);rw[hBe]at this;cases this
 have hS0:X.s₀.heap.get? e=none:=by
  cases z:X.s₀.heap.get? e with
  |none=>rfl
  |some o1=>
   obtain⟨o2,h2⟩:=I.base.there e o1 z (by rw[hex];simp);rw[hS1]at h2;cases h2
 have hCe:∀x c,X.env.cells.lookup x=some c->c≠e:=λx c z q=>by
  subst q;obtain⟨v,hv⟩:=I.cell x c z;obtain⟨o,ho,_⟩:=hv;rw[hS1]at ho;cases ho
 have hPe:∀p∈X.pn++pins,p.1≠e:=λp hp q=>by
  have:=(I.pin p hp).1;rw[q,hS1]at this;cases this
 refine j4 (I6.track he6 hHe hS0 hL hCe hPe) hN hi (.inl hn) (v:=.ref e) rfl (λs7 I7=>?_) (.inr hn);obtain⟨tt,hp,ht⟩:=hsuite {o with data:=.fields ws} _ hoc rfl hod hHe;refine Lq (hp pins s7 _ _ _ I7.heldT ht) (λf s8 h8=>?_) (λx s8 hx=>hx);cases f with
 |brk=>obtain⟨_,_,_,z⟩:=h8;exact z.elim
 |cont=>obtain⟨_,_,_,z⟩:=h8;exact z.elim
 |ret u=>
  obtain⟨v,σ',H',I8,rv,qq⟩:=h8;have I8':=r6 I.ok I8;obtain⟨m,hm8,_⟩:=I8'.loc;refine wpAny_nameGoes hn hm8 (by rw[I.ok.kind];rfl) λh' m' hn' hs'=>?_;exact⟨v,_,H',I8'.lost hn' hs',rv,qq⟩
 |next=>
  obtain⟨σ',H',I8,qq⟩:=h8;have I8':=r6 I.ok I8;obtain⟨m,hm8,hl8⟩:=I8'.loc;refine wpAny_nameGoes_keeps hn hm8 (by rw[I.ok.kind];rfl) λh' v' hn' hs'=>?_;exact⟨_,H',I8'.gone hN hi hl8 hn' hs',qq⟩
def qw (F:bC X.prog X.w X.K X.mg X.base CX k f fd ps sp)(hr:bM k X.A)(hgf:Gl X fnm)(hmf:X.mg fnm=some (.ref f))(hkf:QK X.K (.ref f)=true)(hb:Binds X.K fd ps [])(hdf:(fnm==("__debug__":Str))=false)(ha:PA (X.wish Eh) (e0::es) t)(he:Lp (e0::es) X.env=(false,eval e0 X.env)::Lp es X.env)(hpl:(Lo q (Lp es X.env)).any (·.1)=false)(I:Inv X pins σ H s)(h:t σ H λvs H1=>sp vs H1 R E)(hx:∀(H1:Hp) (s1:Shared) (ev:Value) (s':Shared),Inv X pins σ H1 s1->CX X.stack H1 s1 E ev s'->Eh ev s'):Lm (Ln X.prog X.w) X.A (eval (.Call (.Name fnm p) (e0::es) [] q) X.env) (EP X pins σ R) Eh s:=by
 refine LW (jP I hgf hmf ?_ hdf);refine PySem.W.callWith_K (h₀:=X.base) I.ok.mod.kin hkf (bc (ha q pins s σ H _ (I.wish Eh) h) λus s1 ⟨vs,H1,I1,r,hsp⟩=>⟨I1.kIn,?_⟩) he hpl;have J:Inv X pins σ H1 s1:=I1.unwish;have hl:us.length=ps.length:=by rw[<-r.length];exact F.len _ _ _ _ hsp
 have hbb:LR s1 fd ⟨us,[]⟩ (ps.zip us):=by
  have z:=hb s1 us J.kIn (by rw[QU];exact hl);rw[QU]at z;exact z
 refine LU (LV (F.run X.A X.stack s1 H1 ⟨us,[]⟩ us vs _ _ hr J.env0 hbb r hsp) λres s' hq=>?_);cases res with
 |error ev=>exact hx H1 s1 ev s' J hq
 |ok fl=>
  cases fl with
  |ret u=>exact J.after hq
  |next=>exact False.elim hq
  |brk=>exact False.elim hq
  |cont=>exact False.elim hq
def EO (hst:X.stack=X.env::X.outer)(hfr:X.env.frame=some X.env.locals)(hex:X.ex=[])(F:bC X.prog X.w X.K X.mg X.base (dw X.prog X.w) k f fd ps sp)(hr:bM k X.A)(hgf:Gl X fnm)(hmf:X.mg fnm=some (.ref f))(hkf:QK X.K (.ref f)=true)(hb:Binds X.K fd ps [])(hdf:(fnm==("__debug__":Str))=false)(ha:∀E,PA (X.wish E) (e0::es) t)(hG:kI X.base G (.type "BaseException"))(hgG:Gl X gn)(hmG:X.mg gn=some (.ref G))(hdG:(gn==("__debug__":Str))=false)(hN:X.N.Nodup)(hi:X.N[i]?=some n)(hn:X.env.scope.names.lookup n=some .local)(he:Lp (e0::es) X.env=(false,eval e0 X.env)::Lp es X.env:=by rfl)(hpl:(Lo q (Lp es X.env)).any (·.1)=false:=by rfl)(hs:Lw (.Call (.Name fnm p) (e0::es) [] q) none p'.line X.env=pure false:=by rfl):
  PS X (.Try [.Expr (.Call (.Name fnm p) (e0::es) [] q) p'] [.ExceptHandler (some (.Name gn np)) (some n) (b₀::suite) hp] [] [] pos)
   (λD σ H=>t σ H λvs H1=>sp vs H1 (λ_ H2=>D.nx σ H2) λcls dx H2=>∃C D',cls=.ref C/\dx=some D'/\kI X.base C (.ref G)/\∀(e:Addr) (oe:Obj) (E':Value->Shared->Prop),oe.cls=.ref C->MK oe=true->oe.dict=some D'->H2 e=none ->
    ∃tt,cf (X.heldT e E') (b₀::suite) tt/\tt {nx:=λσ' H'=>D.nx (σ'.set i none) H',rt:=D.rt} (σ.set i (some (.ref e))) (aJ H2 e (dX oe))):=by
 intro pins s σ H D I h;refine wpAny_Try_except (Lu (wpAny_Expr_any (Lq (qw (Eh:=λev s'=>_) F hr hgf hmf hkf hb hdf (ha _) he hpl I h λH1 s1 ev s' J hq=>?_) (λu s1 z=>?_) λ_ _ y=>y) I.quiet hs))
 .obtain ⟨C,e,D',o,zz,B,H2,rfl,os,bare,un,hok,fl,hoc,hod,hB,C',D2,eC,eD,hk,hD⟩:=hq;cases eC;cases eD;exact Jc (D:=D) hst hfr J os bare un hok fl hoc hod hB hk hG hgG hmG hdG hN hi hn hex λoe E' hc hnc hdi hz=>hD e oe E' hc hnc hdi hz
 .obtain ⟨v,H2,I2,r,qn⟩:=z;exact Ls (Ls ⟨σ,H2,I2,qn⟩)
end L2
namespace Mini
open PySem PySem.Spec PyProof.Rows L2
noncomputable def xF(K:Qb)(as:List Addr)(H:Hp)(R:VK)(E:VK)(r:Rs):Prop:=match r with
 |.ret (.tup []) m'=>∀as' H' v,Step as H as' H'->aR K as' m' H'->R v H'
 |.ret (.tup [w]) m'=>∀as' H' v,Step as H as' H'->aR K as' m' H'->ai K as' H' w v->E v H'
 |_=>False
noncomputable def mK(K:Qb)(as:List Addr)(H:Hp)(R:VK)(E:VK)(r:Rz):Prop:=match r with
 |.ok (.tup []) m'=>∀as' H' v,Step as H as' H'->aR K as' m' H'->R v H'
 |.ok (.tup [w]) m'=>∀as' H' v,Step as H as' H'->aR K as' m' H'->ai K as' H' w v->E v H'
 |_=>False
noncomputable def eY(A:Addr)(n:Str)(E:XK):VK:=λv H=>∀D',H D'=none->E (.ref A) (some D') (aJ H D' (.xd [(n,v)]))
noncomputable def spS(K:Qb)(A:Addr)(n:Str)(g:List Wd->Me->Rz):Sp:=λvs H R E=>∃as m ws,aR K as m H/\ae K as H ws vs/\mK K as H R (eY A n E) (g ws m)
def tE {K:Qb}(h:mK K as H R E (.ok w m)):xF K as H R E (.ret w m):=by
 cases w with
 |tup xs=>
  cases xs with
  |nil=>exact h
  |cons a l=>
   cases l with
   |nil=>exact h
   |cons b l=>exact h.elim
 |_=>exact h.elim
inductive iL(C:Ctx)(x:Str)(sc:K9)(N:List Str):Sm->List Stmt->Prop
 |mk {c c2 e1 e2:Ex}{y y2:Expr}{st1 st4:Stmt}{i k1:Nat}{sp:Str}{np cp p p1 p2 np' cp' p' p1' p2':Pos}(rc:zC c=false) (ic:kF c=false) (hc:aN C sc N c (.e y)) (h1:bG C sc N (.asg i e1) (.s st1)) (rc2:zC c2=false) (ic2:kF c2=false) (hc2:aN C sc N c2 (.e y2))
   (h4:bG C sc N (.ret e2) (.s st4)) (hi:N[i]?=some sp) (hv:ig sc sp=true) (ov:zA sp=true) (hg:cW sc x=true) (ok:zA x=true) :
   iL C x sc N (.seq (.ite c (.ret (.tup (.pair (.lit .non) .unit))) .skip) (.seq (.asg i e1) (.seq (.ite c2 (.ret (.tup (.pair (.var i) .unit))) .skip) (.seq (.expr e2) (.ret (.tup .unit))))))
    [.If y [.Raise (some (.Call (.Name x np) [.Constant .none k1 p1] [] cp)) none p2] [] p,st1,.If y2 [.Raise (some (.Call (.Name x np') [.Name sp p1'] [] cp')) none p2'] [] p',st4]
section
variable{C:Ctx}{X:Cx}{cl:Nat->List Wd->Me->Rz}{d:Nat}{x n a0:Str}{A fI:Addr}{st:Stmt}{E:XK}
def An:aF cl (.ret (.tup (.pair e .unit))) env m=(af cl e env m).bindS env λw m1=>.ret (.tup [w]) m1:=by
 show((((af cl e env m).bind λx m1=>(Rz.ok (.tup []) m1).bind λy m2=>.ok (.tup (x::zq y)) m2).bind λx m1=>if(zq x).length<=aq then .ok (.tup (zq x)) m1 else .no).bindS env λw m1=>.ret w m1)=_;cases af cl e env m with
 |ok w m1=>rfl
 |exc c w m1=>rfl
 |no=>rfl
def El (hC:bq C X cl d)(hX:dU X.nox)(hm:X.mg x=some (.ref A))(O:bB X.K A fI n a0 st)(hr:jR X n E)(h:iL C x X.env.scope X.N s sts):
  cf X sts (λD σ H=>∃as env m,aR X.K as m H/\aD X.K as H env σ/\xF X.K as H D.rt (eY A n E) (aF cl s env m)):=by
 cases h with
 |@mk c c2 e1 e2 y y2 st1 st4 i k1 sp np cp p p1 p2 np' cp' p' p1' p2' rc ic hc h1 rc2 ic2 hc2 h4 hi hv ov hg ok=>
  have r1:=jm (X:=X) (E:=E) (np:=np) (cpos:=cp) (pos:=p2) hm O hC.room hC.calm (xo hg) hr (yu (nh (X:=X) (j:=k1) (pos:=p1)) xO) (vk ok).1;have r2:=jm (X:=X) (E:=E) (np:=np') (cpos:=cp') (pos:=p2') hm O hC.room hC.calm (xo hg) hr (yu (jc (X:=X) (pos:=p1') hi (tT hv) (vk ov).1 (vk ov).2) xO) (vk ok).1;have i1:=g9 (pos:=p) ((y9 hc X hC rfl rfl).pt rc ic) (xz r1) (vL (X:=X));have i2:=g9 (pos:=p') ((y9 hc2 X hC rfl rfl).pt rc2 ic2) (xz r2) (vL (X:=X));have q1:PS X st1 (xP X.K (aF cl (.asg i e1))):=ue (nz (hC.wish _) hX h1);have q4:PS X st4 (xP X.K (aF cl (.ret e2))):=ue (nz (hC.wish _) hX h4);intro pins s0 σ H D I q;refine xC i1 (xC q1 (xC i2 (xz q4))) pins s0 σ H D I ?_;obtain⟨as,env,m,S,G',P⟩:=q;refine⟨as,env,m,S,G',?_⟩;have P0:xF X.K as H D.rt (eY A n E) (match (af cl c env m).bindS env (λx m1=>match x with
    |.bl true=>aF cl (.ret (.tup (.pair (.lit .non) .unit))) env m1
    |.bl false=>.next env m1
    |_=>.no)with
   |.next e m1=>aF cl (.seq (.asg i e1) (.seq (.ite c2 (.ret (.tup (.pair (.var i) .unit))) .skip) (.seq (.expr e2) (.ret (.tup .unit))))) e m1
   |r=>r):=P
  cases hev:af cl c env m with
  |exc _ _ _=>rw[hev]at P0;exact P0.elim
  |no=>rw[hev]at P0;exact P0.elim
  |ok w m1=>
   rw[hev]at P0;intro as1 H1 v T1 S1 R1;cases w with
   |bl b=>
    obtain rfl:=ah.mp R1;refine⟨b,rfl,?_⟩;cases b with
    |true=>
     refine gX ⟨.non,rfl,λD' hD'=>?_⟩;have P1:xF X.K as H D.rt (eY A n E) (.ret (.tup [.non]) m1):=P0;exact P1 as1 H1 .non T1 S1 (am.mpr rfl) D' hD'
    |false=>
     refine gW ?_;have P1:xF X.K as H D.rt (eY A n E) (match (af cl e1 env m1).bindS env (λw m2=>.next (env.set i (some w)) m2)with
      |.next e m2=>aF cl (.seq (.ite c2 (.ret (.tup (.pair (.var i) .unit))) .skip) (.seq (.expr e2) (.ret (.tup .unit)))) e m2
      |r=>r):=P0
     refine⟨as1,env,m1,S1,G'.mono S T1,?_⟩;show aC X.K as1 H1 _ ((af cl e1 env m1).bindS env (λw m2=>.next (env.set i (some w)) m2));cases hev1:af cl e1 env m1 with
     |exc _ _ _=>rw[hev1]at P1;exact P1.elim
     |no=>rw[hev1]at P1;exact P1.elim
     |ok w1 m2=>
      rw[hev1]at P1;intro as2 H2 σ2 T2 S2 G2;refine⟨as2,env.set i (some w1),m2,S2,G2,?_⟩;have P2:xF X.K as H D.rt (eY A n E) (match (af cl c2 (env.set i (some w1)) m2).bindS (env.set i (some w1)) (λx m3=>match x with
        |.bl true=>aF cl (.ret (.tup (.pair (.var i) .unit))) (env.set i (some w1)) m3
        |.bl false=>.next (env.set i (some w1)) m3
        |_=>.no)with
       |.next e m3=>aF cl (.seq (.expr e2) (.ret (.tup .unit))) e m3
       |r=>r):=P1
      cases hev2:af cl c2 (env.set i (some w1)) m2 with
      |exc _ _ _=>rw[hev2]at P2;exact P2.elim
      |no=>rw[hev2]at P2;exact P2.elim
      |ok w2 m3=>
       rw[hev2]at P2;intro as3 H3 v3 T3 S3 R3;cases w2 with
       |bl b2=>
        obtain rfl:=ah.mp R3;refine⟨b2,rfl,?_⟩;have T123:=(T1.trans T2).trans T3;have G3:=G2.mono S2 T3;cases b2 with
        |true=>
         have P3:xF X.K as H D.rt (eY A n E) (match aF cl (.ret (.tup (.pair (.var i) .unit))) (env.set i (some w1)) m3 with
          |.next e m3=>aF cl (.seq (.expr e2) (.ret (.tup .unit))) e m3
          |r=>r):=P2
         rw[An]at P3;have P4:xF X.K as H D.rt (eY A n E) (match (match (env.set i (some w1))[i]? with|some (some w)=>Rz.ok w m3|_=>.no).bindS (env.set i (some w1)) (λw m1=>.ret (.tup [w]) m1)with
          |.next e m3=>aF cl (.seq (.expr e2) (.ret (.tup .unit))) e m3
          |r=>r):=P3
         cases hw:(env.set i (some w1))[i]? with
         |none=>rw[hw]at P4;exact P4.elim
         |some o=>
          cases o with
          |none=>rw[hw]at P4;exact P4.elim
          |some w=>
           rw[hw]at P4;obtain⟨v4,hv4,R4⟩:=G3.get i _ hw;refine gX ⟨v4,hv4,v4,rfl,λD' hD'=>?_⟩;exact P4 as3 H3 v4 T123 S3 R4 D' hD'
        |false=>
         refine gW ⟨as3,env.set i (some w1),m3,S3,G3,?_⟩;have P3:xF X.K as H D.rt (eY A n E) (match (af cl e2 (env.set i (some w1)) m3).bindS (env.set i (some w1)) (λ_ m4=>.next (env.set i (some w1)) m4)with
          |.next e m4=>aF cl (.ret (.tup .unit)) e m4
          |r=>r):=P2
         show aC X.K as3 H3 _ ((af cl e2 (env.set i (some w1)) m3).bindS (env.set i (some w1)) (λw m4=>.ret w m4));cases hev3:af cl e2 (env.set i (some w1)) m3 with
         |exc _ _ _=>rw[hev3]at P3;exact P3.elim
         |no=>rw[hev3]at P3;exact P3.elim
         |ok w4 m4=>
          rw[hev3]at P3;have P4:xF X.K as H D.rt (eY A n E) (.ret (.tup []) m4):=P3;exact λas4 H4 v4 T4 S4 _=>P4 as4 H4 v4 (T123.trans T4) S4
       |_=>exact P2.elim
   |_=>exact P0.elim
end
structure iH(C:Ctx)(x:Str)(d:bg):Prop where
 sc:xQ d.N d.ps (zo d.st)=true
 ar:d.ps.length=d.fn.ar
 sz:d.N.length=d.fn.sz
 body:iL C x (zo d.st) d.N d.fn.body (zU d.st)
section
variable{P:Lb}{w:Lc}{K:Qb}{mg:Str->Option Value}{base:Ld}{C:Ctx}{cl:Nat->List Wd->Me->Rz}{x n a0:Str}{A fI:Addr}{st:Stmt}
def lu (h:mK K as H R E (yR cl fn ws m)):ws.length=fn.ar:=by
 unfold yR at h;split at h
 .assumption
 .exact h.elim
def oi{sc:K9}{N:List Str}{s:Sm}{sts:List Stmt}(h:iL C x sc N s sts)(env:En)(m:Me):match aF cl s env m with
  |.ret v _=>v=.tup []\/∃w,v=.tup [w]
  |.next _ _=>False
  |_=>True:=by
 cases h with
 |@mk c c2 e1 e2 y y2 st1 st4 i k1 sp np cp p p1 p2 np' cp' p' p1' p2' rc ic hc h1 rc2 ic2 hc2 h4 hi hv ov hg ok=>
  show match (match (af cl c env m).bindS env (λx m1=>match x with
    |.bl true=>aF cl (.ret (.tup (.pair (.lit .non) .unit))) env m1
    |.bl false=>.next env m1
    |_=>.no)with
   |.next e m1=>aF cl (.seq (.asg i e1) (.seq (.ite c2 (.ret (.tup (.pair (.var i) .unit))) .skip) (.seq (.expr e2) (.ret (.tup .unit))))) e m1
   |r=>r)with
   |.ret v _=>v=.tup []\/∃w,v=.tup [w]
   |.next _ _=>False
   |_=>True
  cases af cl c env m with
  |exc _ _ _=>trivial
  |no=>trivial
  |ok w m1=>
   cases w with
   |bl b=>
    cases b with
    |true=>exact .inr ⟨_,rfl⟩
    |false=>
     show match (match (af cl e1 env m1).bindS env (λw m2=>.next (env.set i (some w)) m2)with
      |.next e m2=>aF cl (.seq (.ite c2 (.ret (.tup (.pair (.var i) .unit))) .skip) (.seq (.expr e2) (.ret (.tup .unit)))) e m2
      |r=>r)with
      |.ret v _=>v=.tup []\/∃w,v=.tup [w]
      |.next _ _=>False
      |_=>True
     cases af cl e1 env m1 with
     |exc _ _ _=>trivial
     |no=>trivial
     |ok w1 m2=>
      show match (match (af cl c2 (env.set i (some w1)) m2).bindS (env.set i (some w1)) (λx m3=>match x with
        |.bl true=>aF cl (.ret (.tup (.pair (.var i) .unit))) (env.set i (some w1)) m3
        |.bl false=>.next (env.set i (some w1)) m3
        |_=>.no)with
       |.next e m3=>aF cl (.seq (.expr e2) (.ret (.tup .unit))) e m3
       |r=>r)with
       |.ret v _=>v=.tup []\/∃w,v=.tup [w]
       |.next _ _=>False
       |_=>True
      cases af cl c2 (env.set i (some w1)) m2 with
      |exc _ _ _=>trivial
      |no=>trivial
      |ok w2 m3=>
       cases w2 with
       |bl b2=>
        cases b2 with
        |true=>
         show match (match aF cl (.ret (.tup (.pair (.var i) .unit))) (env.set i (some w1)) m3 with
          |.next e m3=>aF cl (.seq (.expr e2) (.ret (.tup .unit))) e m3
          |r=>r)with
          |.ret v _=>v=.tup []\/∃w,v=.tup [w]
          |.next _ _=>False
          |_=>True
         rw[An];cases af cl (.var i) (env.set i (some w1)) m3 with
         |ok w m4=>exact .inr ⟨_,rfl⟩
         |exc _ _ _=>trivial
         |no=>trivial
        |false=>
         show match (match (af cl e2 (env.set i (some w1)) m3).bindS (env.set i (some w1)) (λ_ m4=>.next (env.set i (some w1)) m4)with
          |.next e m4=>aF cl (.ret (.tup .unit)) e m4
          |r=>r)with
          |.ret v _=>v=.tup []\/∃w,v=.tup [w]
          |.next _ _=>False
          |_=>True
         cases af cl e2 (env.set i (some w1)) m3 with
         |ok w m4=>exact .inl rfl
         |exc _ _ _=>trivial
         |no=>trivial
       |_=>trivial
   |_=>trivial
set_option tactic.hygienic true in
def oS (hd:iH C x d)(ws:List Wd)(m:Me)(v:Wd)(m':Me)(h:yR cl d.fn ws m=.ok v m'):v=.tup []\/∃w,v=.tup [w]:=by
 have z:=oi (cl:=cl) hd.body (yi d.fn ws) m;unfold yR at h;split at h
 .cases e:aF cl d.fn.body (yi d.fn ws) m with
  |ret w m1=>rw[e]at h z;cases h;exact z
  |next _ _=>rw[e]at z;exact z.elim
  |brk _ _=>rw[e]at h;cases h
  |cont _ _=>rw[e]at h;cases h
  |exc _ _ _ _=>rw[e]at h;cases h
  |no=>rw[e]at h;cases h
 .cases h
set_option tactic.hygienic true in
def Ho (F:dM K d.on d.on d.st f fd)(hd:iH C x d)(hm:mg x=some (.ref A))(O:bB K A fI n a0 st)(hfn:∀(i:Nat) (nm:Str),C.fns[i]?=some nm->∃f fd ps,mg nm=some (.ref f)/\QK K (.ref f)=true/\Binds K fd ps []/\bC P w K mg base c5 k f fd ps (ji K (cl i)))(hcon:jI K w mg C)(hblt:∀nm∈zF,mg nm=none):
  bC P w K mg base (dw P w) (k+1) f fd d.ps (spS K A n (yR cl d.fn)):=by
 obtain⟨h1,h2,h3,h4⟩:=hd;have Sc:=wT h1;obtain⟨oc,od,kV,doc,pm,an,cdv,ct,osl,rfl,lk,hcd⟩:=F.ex;refine mR lk hcd Sc (λvs H Q' E h=>?_) λA' outer s H vs Q' E hr h=>?_
 .obtain ⟨as,m,ws,S,R,q⟩:=h;rw[<-R.length,lu q,h2]
 .obtain ⟨as,m,ws,S,R,q⟩:=h;have ha:=lu q;have hC:bq C (vY (dw P w) P w K mg base d.N d.on (zo d.st) f cdv A' outer s H E) cl k:=⟨hr,rfl,hfn,hcon,hblt⟩;refine⟨_,El hC ⟨Sc.nd,λ_=>rfl,PassesOwn.never⟩ hm O qu h4,as,yi d.fn ws,m,S,vO R ha h3,?_⟩;unfold yR at q;rw[MN ha]at q;cases hr:aF cl d.fn.body (yi d.fn ws) m with
  |next e m1=>rw[hr]at q;exact q.elim
  |ret w m1=>rw[hr]at q;exact tE q
  |brk e m1=>rw[hr]at q;exact q.elim
  |cont e m1=>rw[hr]at q;exact q.elim
  |exc c w e m1=>rw[hr]at q;exact q.elim
  |no=>rw[hr]at q;exact q.elim
end
structure fV(K:Qb)(mg:Str->Option Value)(Q:Xc)(G A:Addr):Prop where
 g:mg Q.g=some (.ref G)
 ge:vq K G=true
 gb:Ww K G (.type "BaseException")=some true
 x:∃nx,Q.rs=[nx]/\mg nx=some (.ref A)
 xe:dq K A
 xm:Ww K A (.ref G)=some true
 xk:QA K (.ref A) (.ref A)=some true
 o:∀(c:Nat) (x:Str),Q.os[c]?=some x->∃B,mg x=some (.ref B)/\QA K (.ref A) (.ref B)=some false
noncomputable def lM(sc:K9)(os:List Str):List Expr->Bool
 |[]=>true
 |.Name x _::es=>cW sc x&&(zA x&&(os.contains x&&lM sc os es))
 |_=>false
set_option tactic.hygienic true in
theorem se {X:Cx}(hO:fV X.K X.mg Q G A):∀{ns:List Expr},lM X.env.scope Q.os ns=true->∃ts,cU X.env X.mg ns ts/\ts.length=ns.length/\PySem.W.kitAny X.K (.ref A) (ts.map Value.ref)=some false
 |[],_=>⟨[],.nil,rfl,rfl⟩
 |e::es,h=>by
  unfold lM at h;split at h
  .rename_i q;cases q
  .rename_i x p es' q;cases q;simp only[Qj]at h;obtain⟨h1,h2,h3,h4⟩:=h;obtain⟨c,hc⟩:=List.getElem?_of_mem (List.contains_iff_mem.mp h3);obtain⟨B,mB,kB⟩:=hO.o c x hc;obtain⟨ts,a1,a2,a3⟩:=se hO h4;refine⟨B::ts,.cons (xo h1) mB (vk h2).1 a1,by simp[a2],?_⟩;show(match QA X.K (.ref A) (.ref B)with|some true=>some true|some false=>PySem.W.kitAny X.K (.ref A) (ts.map Value.ref)|none=>none)=some false;rw[kB];exact a3
  .cases h
end Mini
namespace L2
open PySem PySem.Spec PySem.Calls PyProof.Rows PySem.W
noncomputable def nw(n ny f:Str)(es:List Expr)(ta tb:Str)(p1 p2 p3 p4 p5 p6 p7 p8 p9 pa pb pc pd pe pf pg ph pi pj pk pl pm pn po:Pos)(k1 k2 k3:Nat):List Stmt:=
 [.If (.BoolOp .Or [.Call (.Name "isinstance" p1) [.Name n p2,.Tuple es k1 p3] [] p4,.UnaryOp .Not (.Call (.Name "isinstance" p5) [.Name n p6,.Name "ValueError" p7] [] p8) p9] pa) [.Return (some (.Constant (.str ta) k2 pb)) pc] [] pd,
  .If (.UnaryOp .Not (.Call (.Name "isinstance" pe) [.Name n pf,.Name ny pg] [] ph) pi) [.Return (some (.Constant (.str tb) k3 pj)) pk] [] pl,
  .Return (some (.Attribute (.Name n pm) f pn)) po]
def Hn {i:Nat}(hk:dq X.K C)(O:dG X.K C fI f)(hva:kitOne X.K (.ref C) (.type "ValueError")=some true)(h1:kitOne X.K (.ref C) (.ref Y)=some true)(hany:kitAny X.K (.ref C) (ts.map Value.ref)=some false)(hc:oe.cls=.ref C)(hnc:MK oe=true)(hdi:oe.dict=some D')(hts:cU X.env X.mg es ts)(hz:ts.length<=1000)(hY:Gl X ny)(hmY:X.mg ny=some (.ref Y))(hdY:(ny==("__debug__":Str))=false)(hI:Gl X "isinstance")(hmI:X.mg "isinstance"=none)(hV:Gl X "ValueError")(hmV:X.mg "ValueError"=none)(hN:X.N[i]?=some n)(hn:X.env.scope.names.lookup n=some .local)(hd1:(n==("__debug__":Str))=false)(hd2:(n==("__classdict__":Str))=false)(hv:σ[i]?=some (some (V.ref e)))(hH:H e=some (dX oe))(hD:H D'=some (.xd fs))(hl:fs.lookup f=some v)(hla:LN (.Name n pm) f X.env (eval (.Name n pm) X.env)=eval (.Name n pm) X.env)(q:∀q2 ts',H q2=none->D.rt v (aJ H q2 (.tup ts'))):
  ∃tt,cf X (nw n ny f es ta tb p1 p2 p3 p4 p5 p6 p7 p8 p9 pa pb pc pd pe pf pg ph pi pj pk pl pm pn po k1 k2 k3) tt/\tt D σ H:=by
 have cR:=Gg (X:=X) (x:=e) hk hc;have bI:Lg "isinstance"=some (.builtin "isinstance"):=by rfl
 have bV:Lg "ValueError"=some (.type "ValueError"):=by rfl
 have hnm:∀{p:Pos},PE X (.Name n p) (ii i):=λ{p}=>jc hN (.inl hn) hd1 hd2;have c1:PE X (.Call (.Name "isinstance" p1) [.Name n p2,.Tuple es k1 p3] [] p4) _:=xj cR hI hmI bI (yu hnm (yu (tR (Em hts)) xO));have c2:PE X (.Call (.Name "isinstance" p5) [.Name n p6,.Name "ValueError" p7] [] p8) _:=xj cR hI hmI bI (yu hnm (yu (uL (v:=.ty "ValueError") hV hmV bV rfl) xO));have c3:PE X (.Call (.Name "isinstance" pe) [.Name n pf,.Name ny pg] [] ph) _:=xj cR hI hmI bI (yu hnm (yu (qN (v:=.ref Y) hY hmY rfl hdY) xO));have s1:=g9 (pos:=pd) (sO (pos:=pa) (qO c1) (um (ng (pos:=p9) (qO c2)))).pt (xz (jd (pos:=pc) (qM (X:=X) (x:=ta) (j:=k2) (pos:=pb)))) vL;have s2:=g9 (pos:=pl) (ng (pos:=pi) (qO c3)) (xz (jd (pos:=pk) (qM (X:=X) (x:=tb) (j:=k3) (pos:=pj)))) vL;have s3:=jd (pos:=po) (FN (pos:=pn) (e:=e) (D:=D') hN hn hd1 hd2 hk O hc hnc hdi hla);refine⟨_,xC s1 (xC s2 (xz s3)),?_⟩;have sz:(ts.map V.ref).length<=sizeLine:=by
  rw[Qx];exact W1 (Ik hz)
 refine⟨.ref e,hv,DO ⟨sz,λq2 h2=>⟨by rw[zi (zt hH h2)];exact hH,.inr ⟨q2,ts.map V.ref,false,rfl,zn,λus hu=>by rw[ux hu];exact hany,false,rfl,?_⟩⟩⟩⟩;have hH2:aJ H q2 (.tup (ts.map V.ref)) e=some (dX oe):=by rw[zi (zt hH h2)];exact hH
 have hD2:aJ H q2 (.tup (ts.map V.ref)) D'=some (.xd fs):=by rw[zi (zt hD h2)];exact hD
 refine⟨.ref e,hv,hH2,.inl ⟨.ty "ValueError",.type "ValueError",true,rfl,rfl,λ_ z=>z,hva,true,rfl,?_⟩⟩;refine⟨.ref e,hv,hH2,.inl ⟨.ref Y,.ref Y,true,rfl,rfl,λ_ z=>z,h1,true,rfl,?_⟩⟩;exact⟨hv,hH2,fs,v,hD2,hl,q q2 _ h2⟩
end L2
namespace Mini
open PySem PySem.Spec PyProof.Rows L2
inductive lV(C:Ctx)(Q:Xc)(kx:Nat)(nm f:Str)(sc:K9)(N:List Str):Sm->List Stmt->Prop
 |mk {i:Nat}{a:Ex}{n ny ta tb tc:Str}{lb:List Nat}{a0:Expr}{es ns:List Expr}{p q p' np hp pos r1 r2 p1 p2 p3 p4 p5 p6 p7 p8 p9 pa pb pc pd pe pf pg ph pi pj pk pl pm pn po:Pos}{k1 k2 k3 k4:Nat}
   (hg:cW sc nm=true) (ok:zA nm=true) (hs:(a0::es).all zJ=true) (ha:aN C sc N a (.a (a0::es))) (gg:cW sc Q.g=true) (og:zA Q.g=true) (hi:N[i]?=some n) (hn:decide (sc.names.lookup n=some .local)=true) (on:zA n=true)
   (hns:lM sc Q.os ns=true) (hz:ns.length<=1000) (hy:Q.rs=[ny]) (gy:cW sc ny=true) (oy:zA ny=true) (gI:cW sc "isinstance"=true) (gV:cW sc "ValueError"=true) (e2:tc.cps.toList=lb) :
   lV C Q kx nm f sc N (.seq (.asg i (.call kx a)) (.ite (.cmp .eq (.blt .len (.pair (.var i) .unit)) (.lit (.int 0))) (.ret (.lit (.str lb))) (.ret (.idx (.var i) (.lit (.int 0))))))
    [.Try [.Expr (.Call (.Name nm p) (a0::es) [] q) p'] [.ExceptHandler (some (.Name Q.g np)) (some n) (nw n ny f ns ta tb p1 p2 p3 p4 p5 p6 p7 p8 p9 pa pb pc pd pe pf pg ph pi pj pk pl pm pn po k1 k2 k3) hp] [] [] pos,.Return (some (.Constant (.str tc) k4 r1)) r2]
section
variable{C:Ctx}{Q:Xc}{X:Cx}{cl:Nat->List Wd->Me->Rz}{d kx:Nat}{G A fI:Addr}{nm f:Str}
def Ek (hC:bq C X cl d)(hst:X.stack=X.env::X.outer)(hfr:X.env.frame=some X.env.locals)(hex:X.ex=[])(hO:fV X.K X.mg Q G A)(va:QA X.K (.ref A) (.type "ValueError")=some true)(mV:X.mg "ValueError"=none)(kb:X.K.In X.base)(On:dG X.K A fI f)(eA:vq X.K A=true)(hF:∃fa fd ps,X.mg nm=some (.ref fa)/\QK X.K (.ref fa)=true/\Binds X.K fd ps []/\bC X.prog X.w X.K X.mg X.base (dw X.prog X.w) d fa fd ps (spS X.K A f (cl kx)))(val:∀ws m v m',cl kx ws m=.ok v m'->v=.tup []\/∃w,v=.tup [w])(hN:X.N.Nodup)(h:lV C Q kx nm f X.env.scope X.N s sts):cf X sts (xP X.K (aF cl s)):=by
 cases h with
 |@mk i a n ny ta tb tc lb a0 es ns p q p' np hp pos r1 r2 p1 p2 p3 p4 p5 p6 p7 p8 p9 pa pb pc pd pe pf pg ph pi pj pk pl pm pn po k1 k2 k3 k4 hg ok hs ha gg og hi hn on hns hz hy gy oy gI gV e2=>
  obtain⟨fa,fd,ps,f1,f2,f3,f4⟩:=hF;have hs':=hs;rw[Wm,Qj]at hs';have hn':=MT hn;obtain⟨ts,u1,u2,u3⟩:=se hO hns;obtain⟨ny',hrs,mY⟩:=hO.x;rw[hy]at hrs;cases hrs;have hGB:kI X.base G (.type "BaseException"):=(mH kb hO.ge).2 _ hO.gb;have hAG:kI X.base A (.ref G):=(mH kb eA).2 _ hO.xm;have pT:PS X (.Try [.Expr (.Call (.Name nm p) (a0::es) [] q) p'] [.ExceptHandler (some (.Name Q.g np)) (some n) (nw n ny f ns ta tb p1 p2 p3 p4 p5 p6 p7 p8 p9 pa pb pc pd pe pf pg ph pi pj pk pl pm pn po k1 k2 k3) hp] [] [] pos) _:=EO (X:=X) (G:=G) (p:=p) (q:=q) (p':=p') (np:=np) (hp:=hp) (pos:=pos)
   hst hfr hex f4 hC.room (xo hg) f1 f2 f3 (vk ok).1 (t:=kG X.K (af cl a)) (λE=>y9 ha (X.wish E) (hC.wish E) rfl rfl) hGB (xo gg) hO.g (vk og).1 hN hi hn' (zB hs'.1) (yy hs'.2) (nA (by rfl))
  have pR:PS X (.Return (some (.Constant (.str tc) k4 r1)) r2) _:=jd (pos:=r2) (qM (X:=X) (x:=tc) (j:=k4) (pos:=r1));intro pins s σ H D I qq;refine xC pT (xz pR) pins s σ H D I ?_;have hiσ:i<σ.length:=by rw[I.len];exact(Qa.mp hi).1
  obtain⟨as,env,m,S,G',P⟩:=qq;have P0:aC X.K as H D (match ((af cl a env m).bind λw m1=>cl kx (zq w) m1).bindS env (λw m1=>.next (env.set i (some w)) m1)with
   |.next e m1=>aF cl (.ite (.cmp .eq (.blt .len (.pair (.var i) .unit)) (.lit (.int 0))) (.ret (.lit (.str lb))) (.ret (.idx (.var i) (.lit (.int 0))))) e m1
   |r=>r):=P
  refine⟨as,env,m,S,G',?_⟩;cases hev:af cl a env m with
  |exc _ _ _=>rw[hev]at P0;exact P0.elim
  |no=>rw[hev]at P0;exact P0.elim
  |ok wa m1=>
   rw[hev]at P0;intro as1 H1 vs T1 S1 R1;refine⟨as1,m1,zq wa,S1,R1,?_⟩;have P1:aC X.K as H D (match (cl kx (zq wa) m1).bindS env (λw m1=>.next (env.set i (some w)) m1)with
    |.next e m1=>aF cl (.ite (.cmp .eq (.blt .len (.pair (.var i) .unit)) (.lit (.int 0))) (.ret (.lit (.str lb))) (.ret (.idx (.var i) (.lit (.int 0))))) e m1
    |r=>r):=P0
   cases hcl:cl kx (zq wa) m1 with
   |exc c w' m2=>rw[hcl]at P1;exact P1.elim
   |no=>rw[hcl]at P1;exact P1.elim
   |ok u m2=>
    rw[hcl]at P1;have hie:i<env.length:=by rw[G'.len];exact hiσ
    have hi2:(env.set i (some u))[i]?=some (some u):=QO hie;have ec:∀xs,u=.tup xs->af cl (.cmp .eq (.blt .len (.pair (.var i) .unit)) (.lit (.int 0))) (env.set i (some u)) m2=.ok (.bl (decide ((xs.length:Int)=0))) m2:=λxs e=>by
     show((((match (env.set i (some u))[i]? with|some (some w)=>Rz.ok w m2|_=>.no).bind λx m1=>(Rz.ok (.tup []) m1).bind λy m2=>.ok (.tup (x::zq y)) m2).bind λx m1=>gY .len (zq x) m1).bind λx m1=>(Rz.ok (.int 0) m1).bind λy m2=>cop .eq x y m2)=_;rw[hi2,e];rfl
    have P3:aC X.K as H D ((af cl (.cmp .eq (.blt .len (.pair (.var i) .unit)) (.lit (.int 0))) (env.set i (some u)) m2).bindS (env.set i (some u)) λb m3=>match b with
     |.bl true=>aF cl (.ret (.lit (.str lb))) (env.set i (some u)) m3
     |.bl false=>aF cl (.ret (.idx (.var i) (.lit (.int 0)))) (env.set i (some u)) m3
     |_=>.no):=P1
    rcases val _ _ _ _ hcl with rfl|⟨w,rfl⟩
    .rw[ec [] rfl]at P3;intro as2 H2 v2 T2 S2;have P4:aC X.K as H D (.ret (.str lb) m2):=P3;exact P4 as2 H2 (.str tc) (T1.trans T2) S2 (az.mpr (by subst e2;simp))
    .rw[ec [w] rfl]at P3;intro as2 H2 v2 T2 S2 R2 D' hD';have e3:af cl (.idx (.var i) (.lit (.int 0))) (env.set i (some (.tup [w]))) m2=.ok w m2:=by
      show((match (env.set i (some (.tup [w])))[i]? with|some (some w)=>Rz.ok w m2|_=>.no).bind λx m1=>(Rz.ok (.int 0) m1).bind λy m2=>vZ x y m2)=_;rw[hi2];rfl
     have P4:aC X.K as H D ((af cl (.idx (.var i) (.lit (.int 0))) (env.set i (some (.tup [w]))) m2).bindS (env.set i (some (.tup [w]))) λw m1=>.ret w m1):=P3;rw[e3]at P4;refine⟨A,D',rfl,rfl,hAG,λe oe E' hoe hnc hdi hHe=>?_⟩;have hv:(σ.set i (some (V.ref e)))[i]?=some (some (V.ref e)):=QO hiσ;have hDe:D'≠e:=λz=>by rw[z,zn]at hHe;cases hHe
     have hxd:aJ (aJ H2 D' (.xd [(f,v2)])) e (dX oe) D'=some (.xd [(f,v2)]):=by rw[zi hDe];exact zn
     refine Hn (X:=X.heldT e E') (C:=A) (Y:=A) (e:=e) (fs:=[(f,v2)]) (v:=v2) hO.xe On va hO.xk u3 hoe hnc hdi u1 (by rw[u2];exact hz) (xo gy) mY (vk oy).1 (xo gI) (hC.blt _ (by simp[zF])) (xo gV) mV hi hn' (vk on).1 (vk on).2 hv zn hxd (by simp) rfl λq2 ts' h2=>?_;obtain⟨Ta,Sa⟩:=nX S2 hD' (.xd [(f,v2)]);obtain⟨Tb,Sb⟩:=nX Sa hHe (dX oe);obtain⟨Tc,Sc⟩:=nX Sb h2 (.tup ts');have TT:=(Ta.trans Tb).trans Tc;exact P4 as2 _ v2 ((T1.trans T2).trans TT) Sc (R2.mono S2 TT)
end
structure iI(C:Ctx)(Q:Xc)(kx:Nat)(nm f:Str)(d:bg):Prop where
 sc:xQ d.N d.ps (zo d.st)=true
 ar:d.ps.length=d.fn.ar
 sz:d.N.length=d.fn.sz
 body:lV C Q kx nm f (zo d.st) d.N d.fn.body (zU d.st)
section
variable{P:Lb}{w:Lc}{K:Qb}{mg:Str->Option Value}{base:Ld}{C:Ctx}{Q:Xc}{cl:Nat->List Wd->Me->Rz}{kx:Nat}{nm f:Str}{G A fI:Addr}
set_option tactic.hygienic true in
def Hm (F:dM K d.on d.on d.st fa fd)(hd:iI C Q kx nm f d)(kb:K.In base)(hO:fV K mg Q G A)(va:QA K (.ref A) (.type "ValueError")=some true)(mV:mg "ValueError"=none)(On:dG K A fI f)(eA:vq K A=true)(hF:∃fa fd ps,mg nm=some (.ref fa)/\QK K (.ref fa)=true/\Binds K fd ps []/\bC P w K mg base (dw P w) k fa fd ps (spS K A f (cl kx)))(val:∀ws m v m',cl kx ws m=.ok v m'->v=.tup []\/∃w,v=.tup [w])(hfn:∀(i:Nat) (nm:Str),C.fns[i]?=some nm->∃f fd ps,mg nm=some (.ref f)/\QK K (.ref f)=true/\Binds K fd ps []/\bC P w K mg base c5 k f fd ps (ji K (cl i)))(hcon:jI K w mg C)(hblt:∀nm∈zF,mg nm=none):
  bC P w K mg base c5 (k+1) fa fd d.ps (ji K (yR cl d.fn)):=by
 obtain⟨h1,h2,h3,h4⟩:=hd;have Sc:=wT h1;refine F.ok Sc (λvs H Q' E h=>?_) (λcdv A' outer s H vs Q' E hr h=>?_)
 .obtain ⟨as,m,ws,S,R,q⟩:=h;rw[<-R.length,dh q,h2]
 .obtain ⟨as,m,ws,S,R,q⟩:=h;have ha:=dh q;have hC:bq C (vY c5 P w K mg base d.N d.on (zo d.st) fa cdv A' outer s H E).nox cl k:=⟨hr,rfl,hfn,hcon,hblt⟩;refine⟨_,Ek hC rfl rfl rfl hO va mV kb On eA hF val Sc.nd h4,as,yi d.fn ws,m,S,vO R ha h3,?_⟩;unfold yR at q;rw[MN ha]at q;cases hr:aF cl d.fn.body (yi d.fn ws) m with
  |next e m1=>rw[hr]at q;exact λas' H' σ' T S' G'=>q as' H' .non T S' (am.mpr rfl)
  |ret w m1=>rw[hr]at q;exact λas' H' v T S' R'=>q as' H' v T S' R'
  |brk e m1=>rw[hr]at q;exact q.elim
  |cont e m1=>rw[hr]at q;exact q.elim
  |exc c w e m1=>rw[hr]at q;exact q.elim
  |no=>rw[hr]at q;exact q.elim
end
end Mini
namespace L2
open PySem PySem.Spec PySem.Calls PyProof.Rows PySem.W
section
variable{P:Lb}{w:Lc}{K:Qb}{mg:Str->Option Value}{base:Ld}{N:List Str}{qual:Str}{scope:K9}{f:Addr}{cd:Value}{A:Lh}{outer:List Env}{s:Shared}{H:Hp}{E:XK}
def Gb:j8 (dw P w) (vY (dw P w) P w K mg base N qual scope f cd A outer s H E) E:=by
 intro pins σ H1 s1 ev s2 I h;obtain⟨C,e,D,o,z,B,H2,rfl,os,bare,un,hok,fl,hcl,hdi,hB,hE⟩:=h;have hfr:(envOfC qual scope s.heap.objs.size f cd).frame=some s.heap.objs.size:=rfl;have un':Un (s.heap.objs.size::bz outer) [] H1 H2 s1.heap s2.heap:=un;have hB':cx (s.heap.objs.size::bz outer) H2 s1.heap s2.heap B:=hB;have fz:=qp I.stack I.stkFree un;refine Hr I.ok.frames hfr fl λh' fl' up=>?_;refine⟨C,e,D,o,z,B,H2,rfl,os.trans I.os,bare,?_,?_,fl',hcl,hdi,?_,hE⟩
 .exact uy (Qk _) I.ok.funs I.ok.frf I.base un' hB' fl'.st up
 .exact gw hok fz hB fl'.st
 .exact qr (Qk _) (fz _ (by show _∈s.heap.objs.size::bz outer;exact QH)) I.base hok (λb o q=>un.there b o q (by simp)) hB' fl'.st
end
end L2
namespace Mini
open PySem PySem.Spec PyProof.Rows L2
inductive eX(C:Ctx)(x:Str)(kx:Nat)(nm:Str)(sc:K9)(N:List Str):Sm->List Stmt->Prop
 |mk {c a:Ex}{y y0:Expr}{ys:List Expr}{k1:Nat}{np cp p p1 p2 p3 p4 p5:Pos}(rc:zC c=false) (ic:kF c=false) (hc:aN C sc N c (.e y)) (hg:cW sc x=true) (ok:zA x=true) (hgf:cW sc nm=true) (okf:zA nm=true) (hs:(y0::ys).all zJ=true) (ha:aN C sc N a (.a (y0::ys))) :
   eX C x kx nm sc N (.seq (.ite c (.ret (.tup (.pair (.lit .non) .unit))) .skip) (.ret (.call kx a)))
    [.If y [.Raise (some (.Call (.Name x np) [.Constant .none k1 p1] [] cp)) none p2] [] p,.Return (some (.Call (.Name nm p3) (y0::ys) [] p4)) p5]
section
variable{C:Ctx}{X:Cx}{cl:Nat->List Wd->Me->Rz}{d kx:Nat}{x n a0 nm:Str}{A fI:Addr}{st:Stmt}{E:XK}
def EN (hC:bq C X cl d)(hm:X.mg x=some (.ref A))(O:bB X.K A fI n a0 st)(hr:jR X n E)(hp:j8 (dw X.prog X.w) X E)(hF:∃fa fd ps,X.mg nm=some (.ref fa)/\QK X.K (.ref fa)=true/\Binds X.K fd ps []/\bC X.prog X.w X.K X.mg X.base (dw X.prog X.w) d fa fd ps (spS X.K A n (cl kx)))(val:∀ws m v m',cl kx ws m=.ok v m'->v=.tup []\/∃w,v=.tup [w])(h:eX C x kx nm X.env.scope X.N s sts):
  cf X sts (λD σ H=>∃as env m,aR X.K as m H/\aD X.K as H env σ/\xF X.K as H D.rt (eY A n E) (aF cl s env m)):=by
 cases h with
 |@mk c a y y0 ys k1 np cp p p1 p2 p3 p4 p5 rc ic hc hg ok hgf okf hs ha=>
  obtain⟨fa,fd,ps,f1,f2,f3,f4⟩:=hF;have hs':=hs;rw[Wm,Qj]at hs';have r1:=jm (X:=X) (E:=E) (np:=np) (cpos:=cp) (pos:=p2) hm O hC.room hC.calm (xo hg) hr (yu (nh (X:=X) (j:=k1) (pos:=p1)) xO) (vk ok).1;have i1:=g9 (pos:=p) ((y9 hc X hC rfl rfl).pt rc ic) (xz r1) (vL (X:=X));have pa:PA (X.wish X.xe) (y0::ys) (kG X.K (af cl a)):=y9 ha X hC rfl rfl;have pC:PE X (.Call (.Name nm p3) (y0::ys) [] p4) (λσ H R=>kG X.K (af cl a) σ H λvs H1=>spS X.K A n (cl kx) vs H1 R E):=λpins s σ H R I q=>
   qw (R:=R) (E:=E) f4 hC.room (xo hgf) f1 f2 f3 (vk okf).1 pa (zB hs'.1) (yy hs'.2) I q λH1 s1 ev s' J z=>hp pins σ H1 s1 ev s' J z
  intro pins s0 σ H D I q;refine xC i1 (xz (jd (pos:=p5) pC)) pins s0 σ H D I ?_;obtain⟨as,env,m,S,G',P⟩:=q;refine⟨as,env,m,S,G',?_⟩;have P0:xF X.K as H D.rt (eY A n E) (match (af cl c env m).bindS env (λx m1=>match x with
    |.bl true=>aF cl (.ret (.tup (.pair (.lit .non) .unit))) env m1
    |.bl false=>.next env m1
    |_=>.no)with
   |.next e m1=>aF cl (.ret (.call kx a)) e m1
   |r=>r):=P
  cases hev:af cl c env m with
  |exc _ _ _=>rw[hev]at P0;exact P0.elim
  |no=>rw[hev]at P0;exact P0.elim
  |ok w m1=>
   rw[hev]at P0;intro as1 H1 v T1 S1 R1;cases w with
   |bl b=>
    obtain rfl:=ah.mp R1;refine⟨b,rfl,?_⟩;cases b with
    |true=>
     refine gX ⟨.non,rfl,λD' hD'=>?_⟩;have P1:xF X.K as H D.rt (eY A n E) (.ret (.tup [.non]) m1):=P0;exact P1 as1 H1 .non T1 S1 (am.mpr rfl) D' hD'
    |false=>
     refine gW ⟨as1,env,m1,S1,G'.mono S T1,?_⟩;have P1:xF X.K as H D.rt (eY A n E) (((af cl a env m1).bind λw m2=>cl kx (zq w) m2).bindS env λw m2=>.ret w m2):=P0;cases hev1:af cl a env m1 with
     |exc _ _ _=>rw[hev1]at P1;exact P1.elim
     |no=>rw[hev1]at P1;exact P1.elim
     |ok wa m2=>
      rw[hev1]at P1;intro as2 H2 vs T2 S2 R2;refine⟨as2,m2,zq wa,S2,R2,?_⟩;have P2:xF X.K as H D.rt (eY A n E) ((cl kx (zq wa) m2).bindS env λw m2=>.ret w m2):=P1;cases hcl:cl kx (zq wa) m2 with
      |exc _ _ _=>rw[hcl]at P2;exact P2.elim
      |no=>rw[hcl]at P2;exact P2.elim
      |ok u m3=>
       rw[hcl]at P2;have T12:=T1.trans T2;rcases val _ _ _ _ hcl with rfl|⟨w,rfl⟩
       .have P3:xF X.K as H D.rt (eY A n E) (.ret (.tup []) m3):=P2;exact λas3 H3 v3 T3 S3=>P3 as3 H3 v3 (T12.trans T3) S3
       .have P3:xF X.K as H D.rt (eY A n E) (.ret (.tup [w]) m3):=P2;exact λas3 H3 v3 T3 S3 R3=>P3 as3 H3 v3 (T12.trans T3) S3 R3
   |_=>exact P0.elim
end
structure dW(C:Ctx)(x:Str)(kx:Nat)(nm:Str)(d:bg):Prop where
 sc:xQ d.N d.ps (zo d.st)=true
 ar:d.ps.length=d.fn.ar
 sz:d.N.length=d.fn.sz
 body:eX C x kx nm (zo d.st) d.N d.fn.body (zU d.st)
section
variable{P:Lb}{w:Lc}{K:Qb}{mg:Str->Option Value}{base:Ld}{C:Ctx}{cl:Nat->List Wd->Me->Rz}{x n a0 nm:Str}{kx:Nat}{A fI:Addr}{st:Stmt}
def Ch (hd:dW C x kx nm d)(val:∀ws m v m',cl kx ws m=.ok v m'->v=.tup []\/∃w,v=.tup [w])(ws:List Wd)(m:Me)(v:Wd)(m':Me)(h:yR cl d.fn ws m=.ok v m'):v=.tup []\/∃w,v=.tup [w]:=by
 obtain⟨_,_,_,hb⟩:=hd;unfold yR at h;split at h
 .generalize yi d.fn ws=env at h;generalize d.fn.body=s at h hb;generalize zU d.st=sts at hb;cases hb with
  |@mk c a y y0 ys k1 np cp p p1 p2 p3 p4 p5 rc ic hc hg ok hgf okf hs ha=>
   have e:aF cl (.seq (.ite c (.ret (.tup (.pair (.lit .non) .unit))) .skip) (.ret (.call kx a))) env m=match (af cl c env m).bindS env (λx m1=>match x with
    |.bl true=>aF cl (.ret (.tup (.pair (.lit .non) .unit))) env m1
    |.bl false=>.next env m1
    |_=>.no)with
    |.next e m1=>aF cl (.ret (.call kx a)) e m1
    |r=>r:=rfl
   rw[e]at h;cases hev:af cl c env m with
   |exc _ _ _=>rw[hev]at h;cases h
   |no=>rw[hev]at h;cases h
   |ok w m1=>
    rw[hev]at h;cases w with
    |bl b=>
     cases b with
     |true=>cases h;exact .inr ⟨_,rfl⟩
     |false=>
      have h1:(match ((af cl a env m1).bind λw m2=>cl kx (zq w) m2).bindS env λw m2=>.ret w m2 with
       |.next _ m1=>Rz.ok .non m1
       |.ret w m1=>.ok w m1
       |.exc c w _ m1=>.exc c w m1
       |_=>.no)=.ok v m':=h
      cases hev1:af cl a env m1 with
      |exc _ _ _=>rw[hev1]at h1;cases h1
      |no=>rw[hev1]at h1;cases h1
      |ok wa m2=>
       rw[hev1]at h1;have h2:(match (cl kx (zq wa) m2).bindS env λw m2=>.ret w m2 with
        |.next _ m1=>Rz.ok .non m1
        |.ret w m1=>.ok w m1
        |.exc c w _ m1=>.exc c w m1
        |_=>.no)=.ok v m':=h1
       cases hcl:cl kx (zq wa) m2 with
       |exc _ _ _=>rw[hcl]at h2;cases h2
       |no=>rw[hcl]at h2;cases h2
       |ok u m3=>
        rw[hcl]at h2;cases h2;exact val _ _ _ _ hcl
    |_=>cases h
 .cases h
set_option tactic.hygienic true in
def IN (F:dM K d.on d.on d.st f fd)(hd:dW C x kx nm d)(hm:mg x=some (.ref A))(O:bB K A fI n a0 st)(hF:∃fa fd ps,mg nm=some (.ref fa)/\QK K (.ref fa)=true/\Binds K fd ps []/\bC P w K mg base (dw P w) k fa fd ps (spS K A n (cl kx)))(val:∀ws m v m',cl kx ws m=.ok v m'->v=.tup []\/∃w,v=.tup [w])(hfn:∀(i:Nat) (nm:Str),C.fns[i]?=some nm->∃f fd ps,mg nm=some (.ref f)/\QK K (.ref f)=true/\Binds K fd ps []/\bC P w K mg base c5 k f fd ps (ji K (cl i)))(hcon:jI K w mg C)(hblt:∀nm∈zF,mg nm=none):
  bC P w K mg base (dw P w) (k+1) f fd d.ps (spS K A n (yR cl d.fn)):=by
 obtain⟨h1,h2,h3,h4⟩:=hd;have Sc:=wT h1;obtain⟨oc,od,kV,doc,pm,an,cdv,ct,osl,rfl,lk,hcd⟩:=F.ex;refine mR lk hcd Sc (λvs H Q' E h=>?_) λA' outer s H vs Q' E hr h=>?_
 .obtain ⟨as,m,ws,S,R,q⟩:=h;rw[<-R.length,lu q,h2]
 .obtain ⟨as,m,ws,S,R,q⟩:=h;have ha:=lu q;have hC:bq C (vY (dw P w) P w K mg base d.N d.on (zo d.st) f cdv A' outer s H E) cl k:=⟨hr,rfl,hfn,hcon,hblt⟩;refine⟨_,EN hC hm O qu Gb hF val h4,as,yi d.fn ws,m,S,vO R ha h3,?_⟩;unfold yR at q;rw[MN ha]at q;cases hr:aF cl d.fn.body (yi d.fn ws) m with
  |next e m1=>rw[hr]at q;exact q.elim
  |ret w m1=>rw[hr]at q;exact tE q
  |brk e m1=>rw[hr]at q;exact q.elim
  |cont e m1=>rw[hr]at q;exact q.elim
  |exc c w e m1=>rw[hr]at q;exact q.elim
  |no=>rw[hr]at q;exact q.elim
end
section
variable{P:Lb}{w:Lc}{K:Qb}{mg:Str->Option Value}{base:Ld}{C:Ctx}{Q:Xc}{x n a0:Str}{G A fI:Addr}{st:Stmt}
theorem tD {D:List bg}(hC:C.fns=D.map (·.nm))(hD:∀d∈D,lT C d\/iI C Q (D.length+1) xe.nm n d)(hX:iH C x xd)(hX2:dW C x D.length xd.nm xe)(hB:∀d∈D,ef d)(hBX:ef xd)(hBE:ef xe)(hK:∀d∈D,wf K mg d)(hKX:wf K mg xd)(hKE:wf K mg xe)(kb:K.In base)(hO:fV K mg Q G A)(va:QA K (.ref A) (.type "ValueError")=some true)(mV:mg "ValueError"=none)(hm:mg x=some (.ref A))(O:bB K A fI n a0 st)(hcon:jI K w mg C)(hblt:∀nm∈zF,mg nm=none):
  ∀k:Nat,(∀(i:Nat) (d:bg),D[i]?=some d->∀f fd,dM K d.on d.on d.st f fd->bC P w K mg base c5 k f fd d.ps (ji K (yj (D.map (·.fn)++[xd.fn,xe.fn]) k i))) /\
   (∀(j:Nat) (e:bg),[xd,xe][j]?=some e->∃f fd ps,mg e.nm=some (.ref f)/\QK K (.ref f)=true/\Binds K fd ps []/\bC P w K mg base (dw P w) k f fd ps (spS K A n (yj (D.map (·.fn)++[xd.fn,xe.fn]) k (D.length+j)))) /\
   ∀(j:Nat),j<2->∀ws m v m',yj (D.map (·.fn)++[xd.fn,xe.fn]) k (D.length+j) ws m=.ok v m'->v=.tup []\/∃w,v=.tup [w]
 |0=>by
  have no:∀{i:Nat}{vs:List V}{H:Hp}{R:VK}{E:XK},¬ji K (yj (D.map (·.fn)++[xd.fn,xe.fn]) 0 i) vs H R E:=λ{i vs H R E} h=>by
   obtain⟨as,m,ws,S,R,q⟩:=h;exact q
  have noS:∀{i:Nat}{vs:List V}{H:Hp}{R:VK}{E:XK},¬spS K A n (yj (D.map (·.fn)++[xd.fn,xe.fn]) 0 i) vs H R E:=λ{i vs H R E} h=>by
   obtain⟨as,m,ws,S,R,q⟩:=h;exact q
  refine⟨λi d hi f fd F=>⟨λvs H R E h=>(no h).elim,λA outer s H args us vs R E _ _ _ _ h=>(no h).elim⟩,λj e hj=>?_,λj _ ws m v m' h=>by cases h⟩;have key:∀{e:bg},wf K mg e->ef e->∃f fd ps,mg e.nm=some (.ref f)/\QK K (.ref f)=true/\Binds K fd ps []/\bC P w K mg base (dw P w) 0 f fd ps (spS K A n (yj (D.map (·.fn)++[xd.fn,xe.fn]) 0 (D.length+j))):=λ{e} hk hb=>by
   obtain⟨f,fd,F,hm⟩:=hk;exact⟨f,fd,e.ps,hm,F.kp,F.binds hb,⟨λvs H R E h=>(noS h).elim,λA outer s H args us vs R E _ _ _ _ h=>(noS h).elim⟩⟩
  match j,hj with
  |0,hj=>cases hj;exact key hKX hBX
  |1,hj=>cases hj;exact key hKE hBE
  |j+2,hj=>cases hj
 |k+1=>by
  obtain⟨ih,ihX,ihV⟩:=tD hC hD hX hX2 hB hBX hBE hK hKX hKE kb hO va mV hm O hcon hblt k;have hfn:∀(j:Nat) (nm:Str),C.fns[j]?=some nm->∃f fd ps,mg nm=some (.ref f)/\QK K (.ref f)=true/\Binds K fd ps []/\bC P w K mg base c5 k f fd ps (ji K (yj (D.map (·.fn)++[xd.fn,xe.fn]) k j)):=λj nm hj=>by
   rw[hC,Qn]at hj;cases hx:D[j]? with
   |none=>rw[hx]at hj;cases hj
   |some d'=>
    rw[hx]at hj;cases hj;obtain⟨f',fd',F',m'⟩:=hK d' (QC hx);exact⟨f',fd',d'.ps,m',F'.kp,F'.binds (hB d' (QC hx)),ih j d' hx f' fd' F'⟩
  have at1:∀{i:Nat}{d:bg},D[i]?=some d->yj (D.map (·.fn)++[xd.fn,xe.fn]) (k+1) i=yR (yj (D.map (·.fn)++[xd.fn,xe.fn]) k) d.fn:=λ{i d} hi=>by
   funext ws m;have z:(D.map bg.fn++[xd.fn,xe.fn])[i]?=some d.fn:=by
    rw[Qs (by rw[Qx];exact(Qa.mp hi).1),Qn,hi];rfl
   show(match ((D.map bg.fn)++[xd.fn,xe.fn]:List Fn)[i]? with
    |some fn=>yR (yj (D.map bg.fn++[xd.fn,xe.fn]) k) fn ws m
    |none=>.no)=_
   rw[z]
  have at2:∀(j:Nat) (e:bg),[xd,xe][j]?=some e->yj (D.map (·.fn)++[xd.fn,xe.fn]) (k+1) (D.length+j)=yR (yj (D.map (·.fn)++[xd.fn,xe.fn]) k) e.fn:=λj e hj=>by
   funext ws m;have z:(D.map bg.fn++[xd.fn,xe.fn])[D.length+j]?=some e.fn:=by
    rw[Qo (by rw[Qx];lia),Qx,Nat.add_sub_cancel_left]
    match j,hj with
    |0,hj=>cases hj;rfl
    |1,hj=>cases hj;rfl
    |j+2,hj=>cases hj
   show(match ((D.map bg.fn)++[xd.fn,xe.fn]:List Fn)[D.length+j]? with
    |some fn=>yR (yj (D.map bg.fn++[xd.fn,xe.fn]) k) fn ws m
    |none=>.no)=_
   rw[z]
  have x0:=ihX 0 xd rfl;have v0:=ihV 0 (by lia);refine⟨λi d hi f fd F=>?_,λj e hj=>?_,λj hj=>?_⟩
  .rw[at1 hi];rcases hD d (QC hi)with h|h
   .exact Hc F h hfn hcon hblt
   .exact Hm F h kb hO va mV O.own O.cls (ihX 1 xe rfl) (ihV 1 (by lia)) hfn hcon hblt
  .rw[at2 j e hj]
   match j,hj with
   |0,hj=>
    cases hj;obtain⟨f,fd,F,m'⟩:=hKX;exact⟨f,fd,xd.ps,m',F.kp,F.binds hBX,Ho F hX hm O hfn hcon hblt⟩
   |1,hj=>
    cases hj;obtain⟨f,fd,F,m'⟩:=hKE;exact⟨f,fd,xe.ps,m',F.kp,F.binds hBE,IN F hX2 hm O x0 v0 hfn hcon hblt⟩
   |j+2,hj=>cases hj
  .match j,hj with
   |0,_=>rw[at2 0 xd rfl];exact oS hX
   |1,_=>rw[at2 1 xe rfl];exact Ch hX2 v0
end
def Hl {K:Qb}{ns:List Int}(hO:ie H)(hS:bE K H a (ns.map V.int))(h:∃m,yj T k i [.rol (ns.map Wd.int)] []=.ok (.bl true) m):
  ji K (yj T k i) [.ref a] H (λv _=>v=.bl true) E:=by
 have e:∀l:List Fn,(l.map λf=>(⟨"",.Pass ⟨0,0,0,0⟩,[],[],f,""⟩:bg)).map (·.fn)=l:=λl=>by
  induction l with
  |nil=>rfl
  |cons f l ih=>show f::_=_;rw[ih]
 have z:=Hb (D:=T.map λf=>(⟨"",.Pass ⟨0,0,0,0⟩,[],[],f,""⟩:bg)) (k:=k) (i:=i) (E:=E) hO hS;rw[e]at z;exact z h
def Cg {l:PySem.W.OpenLaw}{Kp:La->Qb}{D:List bg}{st:Stmt}{dl:bg}(hn:l.most=some n)(hn2:n<=sizeLine)(hdf:d.params.defaults=[])(hr:bM k Mp)(hY:∀(w:Lc) (h:Ld),YP w h->(Kp w.params).In h)(hC:C.fns=D.map (·.nm))(hD:∀d∈D,lT C d\/iI C Q (D.length+1) xe.nm nn d)(hX:iH C xc xd)(hX2:dW C xc D.length xd.nm xe)(hB:∀d∈D,ef d)(hBX:ef xd)(hBE:ef xe)(hi:D[i]?=some dl)(hx:dl.ps=[x])(hnm:d.name=dl.nm)(F:∀(w:Lc) (mg:Str->Option Value) (fa:Addr) (h:Ld),(Kp w.params).In h->h.Ns Lf mg->mg d.name=some (.ref fa) ->
   ((∀e∈D,wf (Kp w.params) mg e)/\jI (Kp w.params) w mg C/\∀nm∈zF,mg nm=none)/\wf (Kp w.params) mg xd/\wf (Kp w.params) mg xe/\∃G A fI,fV (Kp w.params) mg Q G A/\QA (Kp w.params) (.ref A) (.type "ValueError")=some true/\mg "ValueError"=none/\mg xc=some (.ref A)/\bB (Kp w.params) A fI nn a0 st)(hpure:∀ns:List Int,ns.length<=n->∃m,yj (D.map (·.fn)++[xd.fn,xe.fn]) k i [.rol (ns.map Wd.int)] []=.ok (.bl true) m):
  Vq q loose XP YP l.row.toRowW d [] (λf vs=>PySem.call f vs):=by
 refine L2.FH (n:=n) (k:=k) (x:=x) (CX:=λ_=>c5) (sp:=λw=>ji (Kp w.params) (yj (D.map (·.fn)++[xd.fn,xe.fn]) k i)) hn hn2 hdf hr hY ?_ (λw H a ns hl hO hS=>Hl hO hS (hpure ns hl)) λ_ _ _ _ _ z=>z;intro w mg fa h KX Gn hmg;obtain⟨⟨h1,h2,h3⟩,h4,h9,G,A,fI,h5,ha,hb,h6,h7⟩:=F w mg fa h KX Gn hmg;obtain⟨f,fd,Ff,hm⟩:=h1 dl (QC hi);rw[hnm,hm]at hmg;cases hmg;refine⟨fd,λs u=>?_,λbase kb nb=>?_⟩
 .obtain ⟨oc,od,kV,doc,pm,an,cdv,ct,osl,rfl,lk,hcd⟩:=Ff.ex;have z:=hB dl (QC hi) kV doc pm an cdv ct [u] (by rw[hx];rfl);rw[hx]at z;exact .of_eq z
 .rw[<-hx];exact(tD hC hD hX hX2 hB hBX hBE h1 h4 h9 kb h5 ha hb h6 h7 h2 h3 k).1 i dl hi fa fd Ff
end Mini
namespace Mini
namespace Vl
inductive Dat where
 |non|bl (b:Bool)|int (i:Int)|str (s:List Nat)|tup (xs:List Dat)|lst (xs:List Dat)|scr (ns:List Int)
deriving Inhabited
inductive Lv where|no|top|full
deriving DecidableEq,Inhabited
abbrev aO:=List (Option Dat)
inductive Rd where|ok (d:Dat)|exc (c:Nat) (d:Dat)|no
deriving Inhabited
noncomputable def Rd.bind(r:Rd)(f:Dat->Rd):Rd:=match r with
 |.ok d=>f d
 |.exc c d=>.exc c d
 |.no=>.no
mutual
noncomputable def ax:Dat->Bool
 |.lst _=>false
 |.tup xs=>ba xs
 |.non=>true
 |.bl _=>true
 |.int _=>true
 |.str _=>true
 |.scr _=>true
noncomputable def ba:List Dat->Bool
 |[]=>true
 |d::ds=>ax d&&ba ds
end
mutual
noncomputable def yS:Nat->Dat->Bool
 |0,_=>false
 |_+1,.scr _=>false
 |k+1,.tup xs=>bu k xs
 |k+1,.lst xs=>bu k xs
 |_+1,.non=>true
 |_+1,.bl _=>true
 |_+1,.int _=>true
 |_+1,.str _=>true
noncomputable def bu:Nat->List Dat->Bool
 |_,[]=>true
 |k,d::ds=>yS k d&&bu k ds
end
mutual
noncomputable def c9:Dat->Dat->Bool
 |.tup a,.tup b=>cn a b
 |.lst a,.lst b=>cn a b
 |.non,.non=>true
 |.bl a,.bl b=>a==b
 |.int a,.int b=>decide (a=b)
 |.bl a,.int b=>decide (b2i a=b)
 |.int a,.bl b=>decide (a=b2i b)
 |.str a,.str b=>decide (a=b)
 |_,_=>false
noncomputable def cn:List Dat->List Dat->Bool
 |[],[]=>true
 |x::xs,y::ys=>c9 x y&&cn xs ys
 |_,_=>false
end
noncomputable def wI:Dat->Option (List Dat)
 |.tup xs=>some xs
 |.lst xs=>some xs
 |.scr ns=>some (ns.map .int)
 |_=>none
noncomputable def cB:Dat->Option (List Dat)
 |.lst xs=>some xs
 |.scr ns=>some (ns.map .int)
 |_=>none
noncomputable def yO(xs:List Dat):Rd:=if xs.length<=aq then .ok (.lst xs)else .no
noncomputable def yY(op:Bo)(x y:Dat):Rd:=match x,y with
 |.int i,.int j=>match op with
  |.add=>.ok (.int (i+j))
  |.sub=>.ok (.int (i-j))
  |.mul=>if yJ i || yJ j then .ok (.int (i*j))else .no
  |.fdiv=>if 0<j/\j<1073741824 then .ok (.int (i/j))else .no
  |.mod=>if 0<j then .ok (.int (i%j))else .no
  |.pow=>if 0<=j/\j<=1000000/\yJ i=true then .ok (.int (i^j.toNat))else .no
  |.shr=>if 0<=j/\j<=1000 then .ok (.int (i/2^j.toNat))else .no
  |.band=>if 0<=i/\j=1 then .ok (.int (i%2))else .no
 |.lst xs,.lst ys=>match op with
  |.add=>yO (xs++ys)
  |_=>.no
 |.lst xs,.int k=>match op with
  |.mul=>if -aq<=k/\k<=aq then yO (Qv k.toNat xs).flatten else .no
  |_=>.no
 |.tup xs,.tup ys=>match op with
  |.add=>if xs.length+ys.length<=aq then .ok (.tup (xs++ys))else .no
  |_=>.no
 |_,_=>.no
noncomputable def dT(x y:Dat):Option Bool:=if yS yT x&&yS yT y then some (c9 x y)else none
noncomputable def iA(x:Dat)(ys:List Dat):Option Bool:=if yS yT x&&bu yT ys then some (ys.any λy=>c9 y x)else none
noncomputable def ff:Option Bool->Rd
 |some b=>.ok (.bl b)
 |none=>.no
noncomputable def gk(r:Int->Int->Bool)(x y:Dat):Rd:=match x,y with
 |.int i,.int j=>.ok (.bl (r i j))
 |_,_=>.no
noncomputable def yL(op:Co)(x y:Dat):Rd:=match op with
 |.eq=>ff (dT x y)
 |.ne=>ff ((dT x y).map (!·))
 |.isN=>match y,x with
  |.non,.non=>.ok (.bl true)
  |.non,_=>.ok (.bl false)
  |_,_=>.no
 |.notN=>match y,x with
  |.non,.non=>.ok (.bl false)
  |.non,_=>.ok (.bl true)
  |_,_=>.no
 |.isin=>match wI y with
  |some ys=>ff (iA x ys)
  |none=>.no
 |.lt=>gk (λi j=>decide (i<j)) x y
 |.le=>gk (λi j=>decide (i<=j)) x y
 |.gt=>gk (λi j=>decide (j<i)) x y
 |.ge=>gk (λi j=>decide (j<=i)) x y
noncomputable def ck(t:Tg)(x:Dat):Bool:=match t with
 |.int=>match x with
  |.int _=>true
  |.bl _=>true
  |_=>false
 |.bool=>match x with
  |.bl _=>true
  |_=>false
 |.str=>match x with
  |.str _=>true
  |_=>false
 |.tuple=>match x with
  |.tup _=>true
  |_=>false
 |.list=>match x with
  |.scr _=>true
  |.lst _=>true
  |_=>false
 |.dict=>match x with
  |_=>false
noncomputable def en:List Dat->Option Int
 |[]=>some 0
 |.int i::r=>(en r).map (i+·)
 |_=>none
noncomputable def gz:List Dat->Option Bool
 |[]=>some true
 |.bl b::r=>(gz r).map (b && ·)
 |_=>none
noncomputable def gh:List Dat->Option (List (Dat×Dat))
 |[]=>some []
 |.tup [x,y]::r=>(gh r).map ((x,y)::·)
 |_=>none
noncomputable def yM(b:eg)(ws:List Dat):Rd:=match b with
 |.len=>match ws with
  |[x]=>match wI x with
   |some xs=>.ok (.int xs.length)
   |none=>.no
  |_=>.no
 |.int=>match ws with
  |[.int i]=>.ok (.int i)
  |[.bl b]=>.ok (.int (b2i b))
  |_=>.no
 |.list=>match ws with
  |[x]=>match wI x with
   |some xs=>yO xs
   |none=>.no
  |_=>.no
 |.tuple=>match ws with
  |[x]=>match wI x with
   |some xs=>.ok (.tup xs)
   |none=>.no
  |_=>.no
 |.sum=>match ws with
  |[x]=>match (cB x).bind en with
   |some i=>.ok (.int i)
   |none=>.no
  |_=>.no
 |.all=>match ws with
  |[x]=>match (cB x).bind gz with
   |some i=>.ok (.bl i)
   |none=>.no
  |_=>.no
 |.abs=>match ws with
  |[.int i]=>.ok (.int (if i<0 then -i else i))
  |_=>.no
 |.max2=>match ws with
  |[.int i,.int j]=>.ok (.int (if j > i then j else i))
  |_=>.no
noncomputable def yt(x y:Dat):Rd:=match y with
 |.int i=>match wI x with
  |some xs=>match (ix xs.length i).bind λj=>xs[j]? with
   |some v=>.ok v
   |none=>.no
  |none=>.no
 |_=>.no
noncomputable def dK(x:Dat)(lo hi:Option Int):Rd:=match x with
 |.tup xs=>if aQ xs.length 0 lo=0/\aQ xs.length xs.length hi=xs.length then .no else .ok (.tup ((xs.drop (aQ xs.length 0 lo)).take (aQ xs.length xs.length hi-aQ xs.length 0 lo)))
 |x=>match cB x with
 |some xs=>yO ((xs.drop (aQ xs.length 0 lo)).take (aQ xs.length xs.length hi-aQ xs.length 0 lo))
 |none=>.no
noncomputable def yA(lo st:Int)(n:Nat):List Dat:=(QI n).map λ(i:Nat)=>.int (lo+st*(i:Int))
noncomputable def kL(a b c:Dat):Rd:=match a,b,c with
 |.int a,.int b,.int c=>if -aq<=a/\a<=aq/\-aq<=b/\b<=aq/\(c=1\/c=-1\/c=-2)then .ok (.tup (yA a c (v6 a b c)))else .no
 |_,_,_=>.no
noncomputable def yn{α:Type}(c e:α->Rd):List α->List Dat->Rd
 |[],acc=>yO acc
 |x::xs,acc=>(c x).bind λb=>match b with
  |.bl true=>(e x).bind λy=>if acc.length<aq then yn c e xs (acc++[y])else .no
  |.bl false=>yn c e xs acc
  |_=>.no
noncomputable def cL(d:Dat):Option (List Dat):=match d with
 |.tup xs=>some xs
 |.scr ns=>some (ns.map .int)
 |.lst xs=>if xs.length<=aq then some xs else none
 |_=>none
noncomputable def fL:Dat->Option (List Dat)
 |.tup xs=>some xs
 |.lst xs=>some xs
 |_=>none
noncomputable def wJ(k:Kd)(x y:Dat):Option (List (Dat×Dat)):=match k,x,y with
 |.zip,x,y=>match fL x,fL y with
  |some xs,some ys=>if xs.length<=aq/\ys.length<=aq then some (xs.zip ys)else none
  |_,_=>none
 |.enum,.lst xs,.int s=>if xs.length<=aq then some ((yA s 1 xs.length).zip xs)else none
 |.prs,.lst xs,.int _=>if xs.length<=aq then gh xs else none
 |.ptp,.tup xs,.int _=>if xs.length<=aq then gh xs else none
 |_,_,_=>none
noncomputable def yg:Dat->List Dat
 |.tup xs=>xs
 |_=>[]
noncomputable def pp:Wd->Option Dat
 |.non=>some .non
 |.bl b=>some (.bl b)
 |.int i=>some (.int i)
 |.str s=>some (.str s)
 |_=>none
noncomputable def ao(cl:Nat->List Dat->Rd):Ex->aO->Rd
 |.var i,de=>match de[i]? with
  |some (some d)=>.ok d
  |_=>.no
 |.lit w,_=>match pp w with
  |some d=>.ok d
  |none=>.no
 |.bin op a b,de=>(ao cl a de).bind λx=>(ao cl b de).bind λy=>yY op x y
 |.neg a,de=>(ao cl a de).bind λx=>match x with
  |.int i=>.ok (.int (-i))
  |_=>.no
 |.not a,de=>(ao cl a de).bind λx=>match x with
  |.bl b=>.ok (.bl (! b))
  |_=>.no
 |.and a b,de=>(ao cl a de).bind λx=>match x with
  |.bl true=>ao cl b de
  |.bl false=>.ok (.bl false)
  |_=>.no
 |.or a b,de=>(ao cl a de).bind λx=>match x with
  |.bl false=>ao cl b de
  |.bl true=>.ok (.bl true)
  |_=>.no
 |.cmp op a b,de=>(ao cl a de).bind λx=>(ao cl b de).bind λy=>yL op x y
 |.chain p q a b c,de=>(ao cl a de).bind λx=>(ao cl b de).bind λy=>(yL p x y).bind λz=>match z with
  |.bl true=>(ao cl c de).bind λu=>yL q y u
  |.bl false=>.ok (.bl false)
  |_=>.no
 |.ife c a b,de=>(ao cl c de).bind λx=>match x with
  |.bl true=>ao cl a de
  |.bl false=>ao cl b de
  |_=>.no
 |.unit,_=>.ok (.tup [])
 |.pair a b,de=>(ao cl a de).bind λx=>(ao cl b de).bind λy=>.ok (.tup (x::yg y))
 |.call k a,de=>(ao cl a de).bind λx=>cl k (yg x)
 |.blt b a,de=>(ao cl a de).bind λx=>yM b (yg x)
 |.isi t a,de=>(ao cl a de).bind λx=>.ok (.bl (ck t x))
 |.lst a,de=>(ao cl a de).bind λx=>yO (yg x)
 |.tup a,de=>(ao cl a de).bind λx=>if(yg x).length<=aq then .ok (.tup (yg x))else .no
 |.idx a b,de=>(ao cl a de).bind λx=>(ao cl b de).bind λy=>yt x y
 |.slH a hi,de=>(ao cl a de).bind λx=>(ao cl hi de).bind λy=>match y with
  |.int i=>dK x none (some i)
  |_=>.no
 |.meth _ _ _,_=>.no
 |.rng a b c,de=>(ao cl a de).bind λx=>(ao cl b de).bind λy=>(ao cl c de).bind λz=>kL x y z
 |.comp elt it cond,de=>(ao cl it de).bind λx=>match cL x with
  |some xs=>yn (λx=>ao cl cond (de++[some x])) (λx=>ao cl elt (de++[some x])) xs []
  |none=>.no
 |.compP k elt a b cond,de=>(ao cl a de).bind λx=>(ao cl b de).bind λy=>match wJ k x y with
  |some ps=>yn (λp=>ao cl cond (de++[some p.1]++[some p.2])) (λp=>ao cl elt (de++[some p.1]++[some p.2])) ps []
  |none=>.no
 |.lrng a,de=>(ao cl a de).bind λx=>match x with
  |.int j=>if -aq<=j/\j<=aq then yO (yA 0 1 j.toNat)else .no
  |_=>.no
def kM (h:env[i]?=some (some w))(m:Me):af cl (.var i) env m=.ok w m:=by
 show(match env[i]? with|some (some w)=>Rz.ok w m|_=>.no)=_;rw[h]
def vt (h:de[i]?=some (some d)):ao cl (.var i) de=.ok d:=by
 show(match de[i]? with|some (some d)=>Rd.ok d|_=>.no)=_;rw[h]
def xH (h:de[i]?=none\/de[i]?=some none):ao cl (.var i) de=.no:=by
 show(match de[i]? with|some (some d)=>Rd.ok d|_=>.no)=_;rcases h with h|h<;>rw[h]
def uv (h:ao cl (.var i) de=.ok d):de[i]?=some (some d):=by
 cases z:de[i]? with
 |none=>rw[xH (.inl z)]at h;cases h
 |some o=>
  cases o with
  |none=>rw[xH (.inr z)]at h;cases h
  |some e=>rw[vt z]at h;cases h;rfl
mutual
noncomputable def ai(R:Nat->Prop)(m:Me):Dat->Wd->Prop
 |.non,w=>w=.non
 |.bl b,w=>w=.bl b
 |.int i,w=>w=.int i
 |.str s,w=>w=.str s
 |.scr ns,w=>w=.rol (ns.map Wd.int)
 |.tup ds,w=>∃xs,w=.tup xs/\ae R m ds xs
 |.lst ds,w=>∃l xs,w=.ref l/\R l/\m[l]?=some (.lst xs)/\ae R m ds xs
noncomputable def ae(R:Nat->Prop)(m:Me):List Dat->List Wd->Prop
 |[],xs=>xs=[]
 |d::ds,xs=>∃x r,xs=x::r/\ai R m d x/\ae R m ds r
end
noncomputable def Le(m m':Me):Prop:=∀(l:Nat) o,m[l]?=some o->m'[l]?=some o
def Le.refl(m:Me):Le m m:=λ_ _ h=>h
def Le.trans{a b c:Me}(h:Le a b)(k:Le b c):Le a c:=λl o z=>k l o (h l o z)
def Le.app(m x:Me):Le m (m++x):=λl o z=>by
 obtain⟨hl,_⟩:=Qa.mp z;rw[Qs hl];exact z
def Le.len (h:Le a b):a.length<=b.length:=by
 rcases Nat.lt_or_ge b.length a.length with z|z
 .have:=h b.length a[b.length] (Qc z);have:=(Qa.mp this).1;lia
 .exact z
noncomputable def Rf(R:Nat->Prop)(n:Nat):Nat->Prop:=λl=>R l\/n<=l
mutual
theorem ai.frame{R R':Nat->Prop}{m m':Me}(h:∀(l:Nat) o,R l->m[l]?=some o->R' l/\m'[l]?=some o):∀(d:Dat) (w:Wd),ai R m d w->ai R' m' d w
 |.non,w,q=>by unfold ai at q ⊢;exact q
 |.bl b,w,q=>by unfold ai at q ⊢;exact q
 |.int b,w,q=>by unfold ai at q ⊢;exact q
 |.str b,w,q=>by unfold ai at q ⊢;exact q
 |.scr b,w,q=>by unfold ai at q ⊢;exact q
 |.tup ds,w,q=>by
  unfold ai at q ⊢;obtain⟨xs,rfl,q⟩:=q;exact⟨xs,rfl,ae.frame h ds xs q⟩
 |.lst ds,w,q=>by
  unfold ai at q ⊢;obtain⟨l,xs,rfl,r,z,q⟩:=q;exact⟨l,xs,rfl,(h l _ r z).1,(h l _ r z).2,ae.frame h ds xs q⟩
theorem ae.frame{R R':Nat->Prop}{m m':Me}(h:∀(l:Nat) o,R l->m[l]?=some o->R' l/\m'[l]?=some o):∀(ds:List Dat) (xs:List Wd),ae R m ds xs->ae R' m' ds xs
 |[],xs,q=>by unfold ae at q ⊢;exact q
 |d::ds,xs,q=>by
  unfold ae at q ⊢;obtain⟨x,r,rfl,a,b⟩:=q;exact⟨x,r,rfl,ai.frame h d x a,ae.frame h ds r b⟩
end
def ai.up{R:Nat->Prop}{m m':Me}{d:Dat}{w:Wd}(n:Nat)(h:Le m m')(q:ai R m d w):ai (Rf R n) m' d w:=
 ai.frame (λl o r z=>⟨.inl r,h l o z⟩) d w q
def ae.up{R:Nat->Prop}{m m':Me}{d:List Dat}{w:List Wd}(n:Nat)(h:Le m m')(q:ae R m d w):ae (Rf R n) m' d w:=
 ae.frame (λl o r z=>⟨.inl r,h l o z⟩) d w q
theorem bn:∀{ds:List Dat}{xs:List Wd},ae R m ds xs↔ds.length=xs.length/\∀(i:Nat) d x,ds[i]?=some d->xs[i]?=some x->ai R m d x
 |[],xs=>by
  unfold ae;constructor
  .rintro rfl;exact⟨rfl,by simp⟩
  .rintro ⟨h,_⟩;exact Vj h.symm
 |d::ds,xs=>by
  unfold ae;constructor
  .rintro ⟨x,r,rfl,a,b⟩;obtain⟨hl,hb⟩:=bn.mp b;refine⟨by simp[hl],λi e y h1 h2=>?_⟩;cases i with
   |zero=>simp at h1 h2;subst h1;subst h2;exact a
   |succ i=>simp at h1 h2;exact hb i e y h1 h2
  .rintro ⟨hl,h⟩;cases xs with
   |nil=>cases hl
   |cons x r=>
    refine⟨x,r,rfl,h 0 d x rfl rfl,bn.mpr ⟨by simpa using hl,λi e y h1 h2=>h (i+1) e y (by simpa using h1) (by simpa using h2)⟩⟩
def ae.len (h:ae R m ds xs):ds.length=xs.length:=(bn.mp h).1
def ae.get (h:ae R m ds xs){i:Nat}(z:ds[i]?=some d):∃x,xs[i]?=some x/\ai R m d x:=by
 obtain⟨hl,h⟩:=bn.mp h;obtain⟨hi,_⟩:=Qa.mp z;exact⟨xs[i],Qc (by lia),h i d _ z (Qc (by lia))⟩
def ae.nil{R:Nat->Prop}{m:Me}:ae R m [] []:=by unfold ae;rfl
def ae.cons{R:Nat->Prop}{m:Me}{d:Dat}{x:Wd}{ds:List Dat}{xs:List Wd}(a:ai R m d x)(b:ae R m ds xs):ae R m (d::ds) (x::xs):=by
 unfold ae;exact⟨x,xs,rfl,a,b⟩
def ae.cons_inv (h:ae R m (d::ds) xs):∃x r,xs=x::r/\ai R m d x/\ae R m ds r:=by
 unfold ae at h;exact h
def ae.nil_inv (h:ae R m [] xs):xs=[]:=by unfold ae at h;exact h
theorem ae.app:∀{ds es:List Dat}{xs ys:List Wd},ae R m ds xs->ae R m es ys->ae R m (ds++es) (xs++ys)
 |[],es,xs,ys,a,b=>by rw[a.nil_inv];exact b
 |d::ds,es,xs,ys,a,b=>by
  obtain⟨x,r,rfl,p,q⟩:=a.cons_inv;exact .cons p (ae.app q b)
theorem ae.drop{R:Nat->Prop}{m:Me}(n:Nat){ds:List Dat}{xs:List Wd}(h:ae R m ds xs):ae R m (ds.drop n) (xs.drop n):=by
 obtain⟨hl,h⟩:=bn.mp h;refine bn.mpr ⟨by simp[hl],λi d x a b=>h (n+i) d x (by simpa using a) (by simpa using b)⟩
set_option tactic.hygienic true in
theorem ae.take{R:Nat->Prop}{m:Me}(n:Nat){ds:List Dat}{xs:List Wd}(h:ae R m ds xs):ae R m (ds.take n) (xs.take n):=by
 obtain⟨hl,h⟩:=bn.mp h;refine bn.mpr ⟨by simp[hl],λi d x a b=>?_⟩;rw[List.getElem?_take]at a b;split at a
 .next z=>rw[MN z]at b;exact h i d x a b
 .cases a
theorem ae.rev:∀{ds:List Dat}{xs:List Wd},ae R m ds xs->ae R m ds.reverse xs.reverse
 |[],xs,a=>by rw[a.nil_inv];exact .nil
 |d::ds,xs,a=>by
  obtain⟨x,r,rfl,p,q⟩:=a.cons_inv;rw[We,We];exact ae.app (ae.rev q) (.cons p .nil)
theorem ae.set{R:Nat->Prop}{m:Me}{ds:List Dat}{xs:List Wd}(h:ae R m ds xs)(j:Nat){d:Dat}{x:Wd}(z:ai R m d x):ae R m (ds.set j d) (xs.set j x):=by
 obtain⟨hl,h⟩:=bn.mp h;refine bn.mpr ⟨by simp[hl],λi e y a b=>?_⟩;rw[Qy]at a b;by_cases q:j=i
 .rw[MN q]at a b;split at a
  .split at b
   .cases a;cases b;exact z
   .cases b
  .cases a
 .rw[MO q]at a b;exact h i e y a b
theorem ae.rep (h:ae R m ds xs):∀k:Nat,ae R m (Qv k ds).flatten (Qv k xs).flatten
 |0=>.nil
 |k+1=>by
  rw[Q0,Q0,Wf,Wf];exact ae.app h (ae.rep h k)
theorem dI:∀(l:List Int),ae R m (l.map Dat.int) (l.map Wd.int)
 |[]=>.nil
 |i::l=>.cons (by unfold ai;rfl) (dI l)
def aa:ai R m (.int i) w↔w=.int i:=by unfold ai;exact Iff.rfl
def ah:ai R m (.bl i) w↔w=.bl i:=by unfold ai;exact Iff.rfl
def am:ai R m .non w↔w=.non:=by unfold ai;exact Iff.rfl
def az:ai R m (.str s) w↔w=.str s:=by unfold ai;exact Iff.rfl
def aY:ai R m (.scr s) w↔w=.rol (s.map Wd.int):=by unfold ai;exact Iff.rfl
def aj:ai R m (.tup ds) w↔∃xs,w=.tup xs/\ae R m ds xs:=by
 constructor
 .intro h;unfold ai at h;exact h
 .intro h;unfold ai;exact h
def au:ai R m (.lst ds) w↔∃l xs,w=.ref l/\R l/\m[l]?=some (.lst xs)/\ae R m ds xs:=by
 constructor
 .intro h;unfold ai at h;exact h
 .intro h;unfold ai;exact h
noncomputable def ag(R:Nat->Prop)(m:Me)(r:Rz)(rd:Rd):Prop:=match rd with
 |.ok d=>∃w m',r=.ok w m'/\Le m m'/\ai (Rf R m.length) m' d w
 |.exc c d=>∃w m',r=.exc c w m'/\Le m m'/\ai (Rf R m.length) m' d w
 |.no=>True
def ag.lift{R:Nat->Prop}{m m1:Me}{r:Rz}{rd:Rd}(h:Le m m1)(q:ag (Rf R m.length) m1 r rd):ag R m r rd:=by
 have hl:=h.len;have fr:∀(m':Me) (d:Dat) (w:Wd),ai (Rf (Rf R m.length) m1.length) m' d w->ai (Rf R m.length) m' d w:=λm' d w=>ai.frame (λl o z k=>⟨by rcases z with (z|z)|z;exact .inl z;exact .inr z;exact .inr (by lia),k⟩) d w;cases rd with
 |ok d=>obtain⟨w,m',rfl,k,z⟩:=q;exact⟨w,m',rfl,h.trans k,fr _ _ _ z⟩
 |exc c d=>obtain⟨w,m',rfl,k,z⟩:=q;exact⟨w,m',rfl,h.trans k,fr _ _ _ z⟩
 |no=>trivial
theorem ag.bind{R:Nat->Prop}{m:Me}{r:Rz}{rd:Rd}{f:Wd->Me->Rz}{g:Dat->Rd}(h:ag R m r rd)
  (k:∀d w m',Le m m'->ai (Rf R m.length) m' d w->ag (Rf R m.length) m' (f w m') (g d)):ag R m (r.bind f) (rd.bind g):=by
 cases rd with
 |ok d=>obtain⟨w,m',rfl,l,z⟩:=h;exact ag.lift l (k d w m' l z)
 |exc c d=>obtain⟨w,m',rfl,l,z⟩:=h;exact⟨w,m',rfl,l,z⟩
 |no=>trivial
def dy (h:ai R m d w):ag R m (.ok w m) (.ok d):=
 ⟨w,m,rfl,Le.refl m,h.up _ (Le.refl m)⟩
theorem ag.no{R:Nat->Prop}{m:Me}{r:Rz}:ag R m r .no:=trivial
def ag.new{R:Nat->Prop}{m:Me}{ds:List Dat}{xs:List Wd}(h:ae R m ds xs):ag R m (alloc m xs) (yO ds):=by
 unfold yO alloc;rw[h.len];by_cases z:xs.length<=aq
 .rw[MN z,MN z];exact⟨_,_,rfl,Le.app m _,au.mpr ⟨_,xs,rfl,.inr (Qk _),by simp,h.up _ (Le.app m _)⟩⟩
 .rw[MO z,MO z];exact ag.no
def vP (h:ai R m d w)(z:wI d=some ds):∃xs,yF m w=some xs/\ae R m ds xs:=by
 cases d with
 |tup es=>obtain⟨xs,rfl,q⟩:=aj.mp h;cases z;exact⟨xs,rfl,q⟩
 |lst es=>
  obtain⟨l,xs,rfl,_,e,q⟩:=au.mp h;cases z;exact⟨xs,by show zK m l=_;unfold zK;rw[e],q⟩
 |scr ns=>rw[aY.mp h];cases z;exact⟨_,rfl,dI ns⟩
 |_=>cases z
def ls (h:ai R m d w)(z:cB d=some ds):∃xs,fe m w=some xs/\ae R m ds xs:=by
 cases d with
 |lst es=>
  obtain⟨l,xs,rfl,_,e,q⟩:=au.mp h;cases z;exact⟨xs,by show zK m l=_;unfold zK;rw[e],q⟩
 |scr ns=>rw[aY.mp h];cases z;exact⟨_,rfl,dI ns⟩
 |_=>cases z
theorem kN:∀{a b:List Int},a.map Wd.int=b.map Wd.int->a=b
 |[],[],_=>rfl
 |[],_::_,h=>by cases h
 |_::_,[],h=>by cases h
 |x::a,y::b,h=>by
  simp only[Wg,List.cons.injEq,Wd.int.injEq]at h;rw[h.1,kN h.2]
mutual
theorem ai.det{R R':Nat->Prop}{m:Me}:∀(d e:Dat) (w:Wd),ai R m d w->ai R' m e w->d=e
 |.non,e,w,q,z=>by rw[am.mp q]at z;cases e<;>unfold ai at z<;>first|rfl|(exfalso;simp at z)
 |.bl b,e,w,q,z=>by rw[ah.mp q]at z;cases e<;>unfold ai at z<;>first|(injection z with z;rw[z])|(exfalso;simp at z)
 |.int b,e,w,q,z=>by rw[aa.mp q]at z;cases e<;>unfold ai at z<;>first|(injection z with z;rw[z])|(exfalso;simp at z)
 |.str b,e,w,q,z=>by rw[az.mp q]at z;cases e<;>unfold ai at z<;>first|(injection z with z;rw[z])|(exfalso;simp at z)
 |.scr b,e,w,q,z=>by rw[aY.mp q]at z;cases e<;>unfold ai at z<;>first|(injection z with z;rw[kN z])|(exfalso;simp at z)
 |.tup ds,e,w,q,z=>by
  obtain⟨xs,rfl,q1⟩:=aj.mp q;cases e with
  |tup es=>obtain⟨ys,e,z1⟩:=aj.mp z;cases e;rw[ae.det ds es xs q1 z1]
  |_=>exfalso;unfold ai at z;simp at z
 |.lst ds,e,w,q,z=>by
  obtain⟨l,xs,rfl,_,hm,q1⟩:=au.mp q;cases e with
  |lst es=>obtain⟨l',ys,e,_,hn,z1⟩:=au.mp z;cases e;rw[hm]at hn;cases hn;rw[ae.det ds es xs q1 z1]
  |_=>exfalso;unfold ai at z;simp at z
theorem ae.det{R R':Nat->Prop}{m:Me}:∀(ds es:List Dat) (xs:List Wd),ae R m ds xs->ae R' m es xs->ds=es
 |[],es,xs,q,z=>by
  rw[q.nil_inv]at z;cases es with
  |nil=>rfl
  |cons e es=>obtain⟨_,_,h,_⟩:=z.cons_inv;cases h
 |d::ds,es,xs,q,z=>by
  obtain⟨x,r,rfl,a,b⟩:=q.cons_inv;cases es with
  |nil=>cases z.nil_inv
  |cons e es=>
   obtain⟨_,_,h,a',b'⟩:=z.cons_inv;cases h;rw[ai.det d e x a a',ae.det ds es r b b']
end
def sG(d:Dat):yS 0 d=false:=by cases d<;>rfl
mutual
theorem kO:∀(k:Nat) (d:Dat),yS k d=true->c9 d d=true
 |0,d,h=>by rw[sG]at h;cases h
 |k+1,.non,h=>rfl
 |k+1,.bl b,h=>by show(b==b)=true;simp
 |k+1,.int b,h=>by show decide (b=b)=true;simp
 |k+1,.str b,h=>by show decide (b=b)=true;simp
 |k+1,.scr b,h=>MP (show false=true from h) (by decide)
 |k+1,.tup ds,h=>bF k ds h
 |k+1,.lst ds,h=>bF k ds h
theorem bF:∀(k:Nat) (ds:List Dat),bu k ds=true->cn ds ds=true
 |k,[],h=>rfl
 |k,d::ds,h=>by
  replace h:(yS k d&&bu k ds)=true:=h
  show(c9 d d&&cn ds ds)=true;rw[Qj]at h ⊢;exact⟨kO k d h.1,bF k ds h.2⟩
end
theorem nW (ih:∀(d e:Dat) (x y:Wd),yS k d=true->yS k e=true->ai R m d x->ai R m e y->cy m k x y=some (c9 d e)):
  ∀(ds es:List Dat) (xs ys:List Wd),bu k ds=true->bu k es=true->ae R m ds xs->ae R m es ys->∃q,cQ (cy m k) xs ys=some q/\(q&&decide (xs.length=ys.length))=cn ds es
 |[],es,xs,ys,h1,h2,a,b=>by
  rw[a.nil_inv];cases es with
  |nil=>rw[b.nil_inv];exact⟨true,rfl,rfl⟩
  |cons e es=>obtain⟨y,r,rfl,_,_⟩:=b.cons_inv;exact⟨true,rfl,rfl⟩
 |d::ds,es,xs,ys,h1,h2,a,b=>by
  obtain⟨x,r,rfl,p,q⟩:=a.cons_inv;cases es with
  |nil=>rw[b.nil_inv];exact⟨true,rfl,rfl⟩
  |cons e es=>
   obtain⟨y,s,rfl,p',q'⟩:=b.cons_inv
   replace h1:(yS k d&&bu k ds)=true:=h1
   replace h2:(yS k e&&bu k es)=true:=h2
   rw[Qj]at h1 h2;obtain⟨t,ht,hb⟩:=nW ih ds es r s h1.2 h2.2 q q';refine⟨c9 d e&&t,?_,?_⟩
   .unfold cQ;rw[ih d e x y h1.1 h2.1 p p',ht];rfl
   .show (c9 d e&&t&&decide (r.length+1=s.length+1))=(c9 d e&&cn ds es);simp only[<-hb,Nat.succ_inj,Bool.and_assoc]
def aS (h:m[l]?=some (.lst xs)):aW m l=true:=by unfold aW;rw[h]
def xA (h:m[l]?=some (.lst xs)):(if aW m l&&true then some false else none)=some false:=by rw[aS h];rfl
theorem nq:∀(k:Nat) (d e:Dat) (x y:Wd),yS k d=true->yS k e=true->ai R m d x->ai R m e y->cy m k x y=some (c9 d e)
 |0,d,e,x,y,h,_,_,_=>by rw[sG]at h;cases h
 |k+1,d,e,x,y,h1,h2,a,b=>by
  have ih:=nq (R:=R) (m:=m) k;cases d with
  |scr ns=>exact MP (show false=true from h1) (by decide)
  |tup ds=>
   obtain⟨xs,rfl,a1⟩:=aj.mp a;cases e with
   |scr ns=>exact MP (show false=true from h2) (by decide)
   |tup es=>
    obtain⟨ys,rfl,b1⟩:=aj.mp b;obtain⟨q,h,e⟩:=nW ih ds es xs ys h1 h2 a1 b1;show(cQ (cy m k) xs ys).map (· && decide (xs.length=ys.length))=some (cn ds es);rw[h,<-e];rfl
   |lst es=>
    obtain⟨l,ys,rfl,_,hm,b⟩:=au.mp b;exact xA hm
   |non=>rw[am.mp b];rfl
   |bl _=>rw[ah.mp b];rfl
   |int _=>rw[aa.mp b];rfl
   |str _=>rw[az.mp b];rfl
  |lst ds=>
   have a0:=a;obtain⟨l,xs,rfl,_,hm,a⟩:=au.mp a;cases e with
   |scr ns=>exact MP (show false=true from h2) (by decide)
   |lst es=>
    have b0:=b;obtain⟨l',ys,rfl,_,hn,b⟩:=au.mp b;show(if l=l' then(if aW m l then some true else none)else match m[l]?,m[l']? with
     |some (.lst xs),some (.lst ys)=>if xs.length=ys.length then cQ (cy m k) xs ys else some false
     |_,_=>none)=_
    by_cases q:l=l'
    .subst q;rw[MN rfl,MN (aS hm)];rw[ai.det _ _ _ a0 b0]at *
     rw[kO (k+1) _ h2]
    .rw[MO q,hm,hn];obtain⟨q,h,e⟩:=nW ih ds es xs ys h1 h2 a b;show(if xs.length=ys.length then cQ (cy m k) xs ys else some false)=some (cn ds es);by_cases z:xs.length=ys.length
     .simp only[z,if_true,h,<-e];simp
     .simp only[z,if_false,<-e];simp
   |tup es=>obtain⟨ys,rfl,b⟩:=aj.mp b;exact xA hm
   |non=>rw[am.mp b];exact xA hm
   |bl _=>rw[ah.mp b];exact xA hm
   |int _=>rw[aa.mp b];exact xA hm
   |str _=>rw[az.mp b];exact xA hm
  |non=>
   rw[am.mp a];cases e with
   |scr ns=>exact MP (show false=true from h2) (by decide)
   |lst es=>obtain⟨l',ys,rfl,_,hn,b⟩:=au.mp b;exact xA hn
   |tup es=>obtain⟨ys,rfl,b⟩:=aj.mp b;rfl
   |non=>rw[am.mp b];rfl
   |bl _=>rw[ah.mp b];rfl
   |int _=>rw[aa.mp b];rfl
   |str _=>rw[az.mp b];rfl
  |bl _=>
   rw[ah.mp a];cases e with
   |scr ns=>exact MP (show false=true from h2) (by decide)
   |lst es=>obtain⟨l',ys,rfl,_,hn,b⟩:=au.mp b;exact xA hn
   |tup es=>obtain⟨ys,rfl,b⟩:=aj.mp b;rfl
   |non=>rw[am.mp b];rfl
   |bl _=>rw[ah.mp b];rfl
   |int _=>rw[aa.mp b];rfl
   |str _=>rw[az.mp b];rfl
  |int _=>
   rw[aa.mp a];cases e with
   |scr ns=>exact MP (show false=true from h2) (by decide)
   |lst es=>obtain⟨l',ys,rfl,_,hn,b⟩:=au.mp b;exact xA hn
   |tup es=>obtain⟨ys,rfl,b⟩:=aj.mp b;rfl
   |non=>rw[am.mp b];rfl
   |bl _=>rw[ah.mp b];rfl
   |int _=>rw[aa.mp b];rfl
   |str _=>rw[az.mp b];rfl
  |str _=>
   rw[az.mp a];cases e with
   |scr ns=>exact MP (show false=true from h2) (by decide)
   |lst es=>obtain⟨l',ys,rfl,_,hn,b⟩:=au.mp b;exact xA hn
   |tup es=>obtain⟨ys,rfl,b⟩:=aj.mp b;rfl
   |non=>rw[am.mp b];rfl
   |bl _=>rw[ah.mp b];rfl
   |int _=>rw[aa.mp b];rfl
   |str _=>rw[az.mp b];rfl
set_option tactic.hygienic true in
def uu (h:dT d e=some q)(a:ai R m d x)(b:ai R m e y):cy m yT x y=some q:=by
 unfold dT at h;split at h
 .next z=>simp only[Qj]at z;cases h;exact nq yT d e x y z.1 z.2 a b
 .cases h
theorem ut (h:yS yT d=true)(a:ai R m d x):∀(es:List Dat) (ys:List Wd),bu yT es=true->ae R m es ys->eK (cy m yT) x ys=some (es.any λe=>c9 e d)
 |[],ys,_,b=>by rw[b.nil_inv];rfl
 |e::es,ys,z,b=>by
  obtain⟨y,r,rfl,p,q⟩:=b.cons_inv
  replace z:(yS yT e&&bu yT es)=true:=z
  rw[Qj]at z;show(match cy m yT y x with
   |some a=>(eK (cy m yT) x r).map (a || ·)
   |none=>none)=_
  rw[nq yT e d y x z.1 h p a,ut h a es r z.2 q];rfl
set_option tactic.hygienic true in
def EM (h:iA d es=some q)(a:ai R m d x)(b:ae R m es ys):eK (cy m yT) x ys=some q:=by
 unfold iA at h;split at h
 .next z=>simp only[Qj]at z;cases h;exact ut z.1 a es ys z.2 b
 .cases h
theorem ag.int{R:Nat->Prop}{m:Me}{i:Int}:ag R m (.ok (.int i) m) (.ok (.int i)):=dy (aa.mpr rfl)
theorem ag.bl{R:Nat->Prop}{m:Me}{i:Bool}:ag R m (.ok (.bl i) m) (.ok (.bl i)):=dy (ah.mpr rfl)
def ur (op:Bo)(a:ai R m d x)(b:ai R m e y):ag R m (cJ op x y m) (yY op d e):=by
 cases d with
 |int i=>
  rw[aa.mp a];cases e with
  |int j=>
   rw[aa.mp b];cases op<;>simp only[cJ,yY]
   .exact ag.int
   .exact ag.int
   .by_cases z:(yJ i || yJ j)=true
    .rw[MN z,MN z];exact ag.int
    .rw[MO z,MO z];exact ag.no
   .by_cases z:0<j/\j<1073741824
    .rw[MN z,MN z];exact ag.int
    .rw[MO z,MO z];exact ag.no
   .by_cases z:0<j
    .rw[MN z,MN z];exact ag.int
    .rw[MO z,MO z];exact ag.no
   .by_cases z:0<=j/\j<=1000000/\yJ i=true
    .rw[MN z,MN z];exact ag.int
    .rw[MO z,MO z];exact ag.no
   .by_cases z:0<=j/\j<=1000
    .rw[MN z,MN z];exact ag.int
    .rw[MO z,MO z];exact ag.no
   .by_cases z:0<=i/\j=1
    .rw[MN z,MN z];exact ag.int
    .rw[MO z,MO z];exact ag.no
  |_=>exact ag.no
 |lst ds=>
  obtain⟨l,xs,rfl,_,hm,a1⟩:=au.mp a;cases e with
  |lst es=>
   obtain⟨l',ys,rfl,_,hn,b1⟩:=au.mp b;cases op<;>first|exact ag.no|skip
   simp only[cJ,yY,hm,hn];exact ag.new (a1.app b1)
  |int k=>
   rw[aa.mp b];cases op<;>first|exact ag.no|skip
   simp only[cJ,yY,hm];by_cases z:-(aq:Int)<=k/\k<=(aq:Int)
   .rw[MN z,MN z];exact ag.new (a1.rep _)
   .rw[MO z,MO z];exact ag.no
  |_=>exact ag.no
 |tup ds=>
  obtain⟨xs,rfl,a1⟩:=aj.mp a;cases e with
  |tup es=>
   obtain⟨ys,rfl,b1⟩:=aj.mp b;cases op<;>first|exact ag.no|skip
   simp only[cJ,yY];have h1:=a1.len;have h2:=b1.len;rw[h1,h2];by_cases z:xs.length+ys.length<=aq
   .rw[MN z,MN z];exact dy (aj.mpr ⟨_,rfl,a1.app b1⟩)
   .rw[MO z,MO z];exact ag.no
  |_=>exact ag.no
 |_=>exact ag.no
def jS (r:Int->Int->Bool)(a:ai R m d x)(b:ai R m e y):ag R m (gf r x y m) (gk r d e):=by
 cases d with
 |int i=>
  rw[aa.mp a];cases e with
  |int j=>rw[aa.mp b];exact ag.bl
  |_=>exact ag.no
 |_=>exact ag.no
def Ad (h:∀b,q=some b->p=some b):ag R m (dO p m) (ff q):=by
 cases q with
 |none=>exact ag.no
 |some b=>rw[h b rfl];exact ag.bl
def Ga (h:∀b,q=some b->p=some b):ag R m (dO (p.map (!·)) m) (ff (q.map (!·))):=by
 cases q with
 |none=>exact ag.no
 |some b=>rw[h b rfl];exact ag.bl
def EL (a:ai R m d x)(b:ai R m e y):ag R m (cop .isN x y m) (yL .isN d e):=by
 cases e with
 |non=>
  rw[am.mp b];cases d with
  |non=>rw[am.mp a];exact ag.bl
  |bl _=>rw[ah.mp a];exact ag.bl
  |int _=>rw[aa.mp a];exact ag.bl
  |str _=>rw[az.mp a];exact ag.bl
  |scr _=>rw[aY.mp a];exact ag.bl
  |tup _=>obtain⟨xs,rfl,_⟩:=aj.mp a;exact ag.bl
  |lst _=>obtain⟨l,xs,rfl,_⟩:=au.mp a;exact ag.bl
 |_=>exact ag.no
def F9 (a:ai R m d x)(b:ai R m e y):ag R m (cop .notN x y m) (yL .notN d e):=by
 cases e with
 |non=>
  rw[am.mp b];cases d with
  |non=>rw[am.mp a];exact ag.bl
  |bl _=>rw[ah.mp a];exact ag.bl
  |int _=>rw[aa.mp a];exact ag.bl
  |str _=>rw[az.mp a];exact ag.bl
  |scr _=>rw[aY.mp a];exact ag.bl
  |tup _=>obtain⟨xs,rfl,_⟩:=aj.mp a;exact ag.bl
  |lst _=>obtain⟨l,xs,rfl,_⟩:=au.mp a;exact ag.bl
 |_=>exact ag.no
def nV (op:Co)(a:ai R m d x)(b:ai R m e y):ag R m (cop op x y m) (yL op d e):=by
 cases op with
 |eq=>exact Ad λq h=>uu h a b
 |ne=>exact Ga λq h=>uu h a b
 |isN=>exact EL a b
 |notN=>exact F9 a b
 |isin=>
  simp only[cop,yL];cases z:wI e with
  |none=>
   cases e with
   |_=>exact ag.no
  |some es=>
   obtain⟨ys,h,q⟩:=vP b z;rw[h];exact Ad λt h=>EM h a q
 |lt=>exact jS _ a b
 |le=>exact jS _ a b
 |gt=>exact jS _ a b
 |ge=>exact jS _ a b
def EK (t:Tg)(a:ai R m d x):ag R m (dO (dz t x m) m) (.ok (.bl (ck t d))):=by
 have h:dz t x m=some (ck t d):=by
  cases d with
  |non=>rw[am.mp a];cases t<;>rfl
  |bl _=>rw[ah.mp a];cases t<;>rfl
  |int _=>rw[aa.mp a];cases t<;>rfl
  |str _=>rw[az.mp a];cases t<;>rfl
  |scr _=>rw[aY.mp a];cases t<;>rfl
  |tup _=>obtain⟨xs,rfl,_⟩:=aj.mp a;cases t<;>rfl
  |lst _=>obtain⟨l,xs,rfl,_,hm,_⟩:=au.mp a;cases t<;>(show(match m[l]? with|some (.lst _)=>_|none=>_)=_;rw[hm];rfl)
 rw[h];exact ag.bl
theorem Ac:∀{ds:List Dat}{xs:List Wd}{i:Int},ae R m ds xs->en ds=some i->fq xs=some i
 |[],xs,i,a,h=>by rw[a.nil_inv];exact h
 |d::ds,xs,i,a,h=>by
  obtain⟨x,r,rfl,p,q⟩:=a.cons_inv;cases d with
  |int j=>
   rw[aa.mp p];simp only[en,QX]at h;obtain⟨k,hk,rfl⟩:=h;simp only[fq,Ac q hk,QJ]
  |_=>simp[en]at h
theorem Ab:∀{ds:List Dat}{xs:List Wd}{i:Bool},ae R m ds xs->gz ds=some i->fo xs=some i
 |[],xs,i,a,h=>by rw[a.nil_inv];exact h
 |d::ds,xs,i,a,h=>by
  obtain⟨x,r,rfl,p,q⟩:=a.cons_inv;cases d with
  |bl j=>
   rw[ah.mp p];simp only[gz,QX]at h;obtain⟨k,hk,rfl⟩:=h;simp only[fo,Ab q hk,QJ]
  |_=>simp[gz]at h
def EJ (b:eg)(a:ae R m ds xs):ag R m (gY b xs m) (yM b ds):=by
 have one:∀{d:Dat}{xs:List Wd},ae R m [d] xs->∃x,xs=[x]/\ai R m d x:=by
  intro d xs h;obtain⟨x,r,rfl,p,q⟩:=h.cons_inv;rw[q.nil_inv];exact⟨x,rfl,p⟩
 cases b with
 |len=>
  cases ds with
  |nil=>exact ag.no
  |cons d ds=>
   cases ds with
   |cons _ _=>exact ag.no
   |nil=>
    obtain⟨x,rfl,p⟩:=one a;show ag R m _ (match wI d with|some i=>.ok (.int i.length)|none=>.no);cases z:wI d with
    |none=>exact ag.no
    |some i=>
     obtain⟨ys,h,q⟩:=vP p z;simp only[gY,h,q.len];exact ag.int
 |int=>
  cases ds with
  |nil=>exact ag.no
  |cons d ds=>
   cases d with
   |int i=>
    cases ds with
    |cons _ _=>exact ag.no
    |nil=>obtain⟨x,rfl,p⟩:=one a;rw[aa.mp p];exact ag.int
   |bl i=>
    cases ds with
    |cons _ _=>exact ag.no
    |nil=>obtain⟨x,rfl,p⟩:=one a;rw[ah.mp p];exact ag.int
   |_=>exact ag.no
 |list=>
  cases ds with
  |nil=>exact ag.no
  |cons d ds=>
   cases ds with
   |cons _ _=>exact ag.no
   |nil=>
    obtain⟨x,rfl,p⟩:=one a;show ag R m _ (match wI d with|some i=>yO i|none=>.no);cases z:wI d with
    |none=>exact ag.no
    |some i=>
     obtain⟨ys,h,q⟩:=vP p z;simp only[gY,h];exact ag.new q
 |tuple=>
  cases ds with
  |nil=>exact ag.no
  |cons d ds=>
   cases ds with
   |cons _ _=>exact ag.no
   |nil=>
    obtain⟨x,rfl,p⟩:=one a;show ag R m _ (match wI d with|some i=>.ok (.tup i)|none=>.no);cases z:wI d with
    |none=>exact ag.no
    |some i=>
     obtain⟨ys,h,q⟩:=vP p z;simp only[gY,h];exact dy (aj.mpr ⟨_,rfl,q⟩)
 |sum=>
  cases ds with
  |nil=>exact ag.no
  |cons d ds=>
   cases ds with
   |cons _ _=>exact ag.no
   |nil=>
    obtain⟨x,rfl,p⟩:=one a;show ag R m _ (match (cB d).bind en with|some i=>.ok (.int i)|none=>.no);cases z:(cB d).bind en with
    |none=>exact ag.no
    |some i=>
     obtain⟨es,z1,z2⟩:=QS.mp z;obtain⟨ys,h,q⟩:=ls p z1;simp only[gY,h,Wn,Ac q z2];exact ag.int
 |all=>
  cases ds with
  |nil=>exact ag.no
  |cons d ds=>
   cases ds with
   |cons _ _=>exact ag.no
   |nil=>
    obtain⟨x,rfl,p⟩:=one a;show ag R m _ (match (cB d).bind gz with|some i=>.ok (.bl i)|none=>.no);cases z:(cB d).bind gz with
    |none=>exact ag.no
    |some i=>
     obtain⟨es,z1,z2⟩:=QS.mp z;obtain⟨ys,h,q⟩:=ls p z1;simp only[gY,h,Wn,Ab q z2];exact ag.bl
 |abs=>
  cases ds with
  |nil=>exact ag.no
  |cons d ds=>
   cases d with
   |int i=>
    cases ds with
    |cons _ _=>exact ag.no
    |nil=>obtain⟨x,rfl,p⟩:=one a;rw[aa.mp p];exact ag.int
   |_=>exact ag.no
 |max2=>
  cases ds with
  |nil=>exact ag.no
  |cons d ds=>
   cases d with
   |int i=>
    cases ds with
    |nil=>exact ag.no
    |cons e ds=>
     cases e with
     |int j=>
      cases ds with
      |cons _ _=>exact ag.no
      |nil=>
       obtain⟨x,r,rfl,p,q⟩:=a.cons_inv;obtain⟨y,rfl,q1⟩:=one q;rw[aa.mp p,aa.mp q1];exact ag.int
     |_=>exact ag.no
   |_=>exact ag.no
def EI (a:ai R m d x)(b:ai R m e y):ag R m (vZ x y m) (yt d e):=by
 cases e with
 |int i=>
  rw[aa.mp b];simp only[yt,vZ];cases z:wI d with
  |none=>exact ag.no
  |some ds=>
   obtain⟨xs,h,q⟩:=vP a z;simp only[h];cases z:(ix ds.length i).bind λj=>ds[j]? with
   |none=>exact ag.no
   |some v=>
    obtain⟨j,h1,h2⟩:=QS.mp z;obtain⟨x,h3,p⟩:=q.get h2;rw[q.len]at h1;simp only[h1,Wn,h3];exact dy p
 |_=>exact ag.no
def tz{x:Wd}{m:Me}{lo hi:Option Int}(h:∀xs,x≠.tup xs):fu x lo hi m=match fe m x with
  |some xs=>alloc m ((xs.drop (aQ xs.length 0 lo)).take (aQ xs.length xs.length hi-aQ xs.length 0 lo))
  |none=>.no:=by
 cases x with
 |tup xs=>exact MP rfl (h xs)
 |_=>rfl
def Aa{d:Dat}{lo hi:Option Int}(h:∀ds,d≠.tup ds):dK d lo hi=match cB d with
  |some xs=>yO ((xs.drop (aQ xs.length 0 lo)).take (aQ xs.length xs.length hi-aQ xs.length 0 lo))
  |none=>.no:=by
 cases d with
 |tup xs=>exact MP rfl (h xs)
 |_=>rfl
def z9 (a:ai R m d x)(h:∀ds,d≠.tup ds):∀xs,x≠.tup xs:=λxs e=>by
 subst e;cases d with
 |tup ds=>exact h ds rfl
 |non=>have:=am.mp a;cases this
 |bl _=>have:=ah.mp a;cases this
 |int _=>have:=aa.mp a;cases this
 |str _=>have:=az.mp a;cases this
 |scr _=>have:=aY.mp a;cases this
 |lst _=>obtain⟨l,ys,e,_⟩:=au.mp a;cases e
def z8 (lo hi:Option Int)(a:ai R m (.tup ds) x):ag R m (fu x lo hi m) (dK (.tup ds) lo hi):=by
 obtain⟨xs,rfl,q⟩:=aj.mp a;simp only[dK,fu,q.len];by_cases z:aQ xs.length 0 lo=0/\aQ xs.length xs.length hi=xs.length
 .rw[MN z,MN z];exact ag.no
 .rw[MO z,MO z];exact dy (aj.mpr ⟨_,rfl,(q.drop _).take _⟩)
def Ej (lo hi:Option Int)(a:ai R m d x):ag R m (fu x lo hi m) (dK d lo hi):=by
 by_cases t:∃ds,d=.tup ds
 .obtain ⟨ds,rfl⟩:=t;exact z8 lo hi a
 have t':∀ds,d≠.tup ds:=λds e=>t ⟨ds,e⟩;rw[tz (z9 a t'),Aa t'];cases z:cB d with
 |none=>exact ag.no
 |some ds=>
  obtain⟨xs,h,q⟩:=ls a z;simp only[h,q.len];exact ag.new ((q.drop _).take _)
theorem kP (st:Int):∀(n:Nat) (lo:Int),ae R m (yA lo st n) (jN lo st n)
 |0,lo=>.nil
 |n+1,lo=>by
  have h:yA lo st (n+1)=.int lo::yA (lo+st) st n:=by
   unfold yA;rw[WZ,Wg,Wa];congr 1
   .simp
   .apply WM;intro i _;show Dat.int _=Dat.int _;congr 1;rw[show((Nat.succ i:Nat):Int)=(i:Int)+1 from rfl,Int.mul_add,Int.mul_one];lia
  rw[h];exact .cons (aa.mpr rfl) (kP st n _)
def EH (a:ai R m d x)(b:ai R m e y)(c:ai R m f z):ag R m (fm x y z m) (kL d e f):=by
 cases d with
 |int i=>
  cases e with
  |int j=>
   cases f with
   |int k=>
    rw[aa.mp a,aa.mp b,aa.mp c];simp only[fm,kL];split
    .exact dy (aj.mpr ⟨_,rfl,kP k _ i⟩)
    .exact ag.no
   |_=>exact ag.no
  |_=>exact ag.no
 |_=>exact ag.no
theorem vQ {R:Nat->Prop}(hc:∀(R':Nat->Prop) m d x,(∀l,R l->R' l)->Le m0 m->ai R' m d x->ag R' m (c x m) (cd d))(he:∀(R':Nat->Prop) m d x,(∀l,R l->R' l)->Le m0 m->ai R' m d x->ag R' m (e x m) (ed d)):
  ∀(ds:List Dat) (xs:List Wd) (acc:List Dat) (acx:List Wd) (R':Nat->Prop) (m:Me),(∀l,R l->R' l)->Le m0 m->ae R' m ds xs->ae R' m acc acx->ag R' m (xS c e xs acx m) (yn cd ed ds acc)
 |[],xs,acc,acx,R',m,hR,hm,a,b=>by
  rw[a.nil_inv];unfold xS yn;exact ag.new b
 |d::ds,xs,acc,acx,R',m,hR,hm,a,b=>by
  obtain⟨x,r,rfl,p,q⟩:=a.cons_inv;unfold xS yn;refine(hc R' m d x hR hm p).bind λt w m1 l1 k1=>?_;cases t with
  |bl t=>
   rw[ah.mp k1];cases t with
   |true=>
    refine(he _ m1 d x (λl z=>.inl (hR l z)) (hm.trans l1) (p.up _ l1)).bind λt w m2 l2 k2=>?_;simp only[b.len];by_cases z:acx.length<aq
    .rw[MN z,MN z];exact vQ hc he ds r _ _ _ m2 (λl z=>.inl (.inl (hR l z))) ((hm.trans l1).trans l2) ((q.up _ l1).up _ l2) (((b.up _ l1).up _ l2).app (.cons k2 .nil))
    .rw[MO z,MO z];exact ag.no
   |false=>exact vQ hc he ds r _ _ _ m1 (λl z=>.inl (hR l z)) (hm.trans l1) (q.up _ l1) (b.up _ l1)
  |_=>exact ag.no
theorem jn {R:Nat->Prop}(hl:m0[l]?=some (.lst xs0))(hc:∀(R':Nat->Prop) m d x,(∀l,R l->R' l)->Le m0 m->ai R' m d x->ag R' m (c x m) (cd d))(he:∀(R':Nat->Prop) m d x,(∀l,R l->R' l)->Le m0 m->ai R' m d x->ag R' m (e x m) (ed d)):
  ∀(ds:List Dat) (i k:Nat) (acc:List Dat) (acx:List Wd) (R':Nat->Prop) (m:Me),(∀l,R l->R' l)->Le m0 m->ae R' m ds (xs0.drop i)->i+ds.length=xs0.length->ds.length<k->ae R' m acc acx->ag R' m (xT c e l k i acx m) (yn cd ed ds acc)
 |[],i,0,acc,acx,R',m,hR,hm,a,hi,hk,b=>by simp at hk
 |d::ds,i,0,acc,acx,R',m,hR,hm,a,hi,hk,b=>by simp at hk
 |[],i,k+1,acc,acx,R',m,hR,hm,a,hi,hk,b=>by
  unfold xT yn zK;rw[hm l _ hl];simp only;rw[Qq (by simp at hi;lia)];exact ag.new b
 |d::ds,i,k+1,acc,acx,R',m,hR,hm,a,hi,hk,b=>by
  obtain⟨x,r,e0,p,q⟩:=a.cons_inv;have hx:xs0[i]?=some x:=by
   have:(xs0.drop i)[0]?=some x:=by rw[e0];rfl
   simpa using this
  have hr:r=xs0.drop (i+1):=by
   have:(xs0.drop i).drop 1=r:=by rw[e0];rfl
   rw[<-this,WR]
  rw[hr]at q;have hi':i+1+ds.length=xs0.length:=by simp at hi;lia
  have hk':ds.length<k:=by simp at hk;lia
  unfold xT yn zK;rw[hm l _ hl];simp only;rw[hx];simp only;refine(hc R' m d x hR hm p).bind λt w m1 l1 k1=>?_;cases t with
  |bl t=>
   rw[ah.mp k1];cases t with
   |true=>
    refine(he _ m1 d x (λl z=>.inl (hR l z)) (hm.trans l1) (p.up _ l1)).bind λt w m2 l2 k2=>?_;simp only[b.len];by_cases z:acx.length<aq
    .rw[MN z,MN z];exact jn hl hc he ds (i+1) k _ _ _ m2 (λl z=>.inl (.inl (hR l z))) ((hm.trans l1).trans l2) ((q.up _ l1).up _ l2) hi' hk' (((b.up _ l1).up _ l2).app (.cons k2 .nil))
    .rw[MO z,MO z];exact ag.no
   |false=>exact jn hl hc he ds (i+1) k _ _ _ m1 (λl z=>.inl (hR l z)) (hm.trans l1) (q.up _ l1) hi' hk' (b.up _ l1)
  |_=>exact ag.no
noncomputable def mJ(R:Nat->Prop)(m0:Me)(ps:List (Dat×Dat))(g:Nat->Me->Option (Option (Wd×Wd))):Prop:=
 ∀m,Le m0 m->(∀i p,ps[i]?=some p->∃a b,g i m=some (some (a,b))/\ai R m p.1 a/\ai R m p.2 b)/\∀i,ps.length<=i->g i m=some none
theorem nU{α β:Type}:∀{xs:List α}{ys:List β}{i:Nat}{p:α×β},(xs.zip ys)[i]?=some p->xs[i]?=some p.1/\ys[i]?=some p.2
 |[],_,i,p,h=>by simp at h
 |_::_,[],i,p,h=>by simp at h
 |x::xs,y::ys,0,p,h=>by simp at h;subst h;exact⟨rfl,rfl⟩
 |x::xs,y::ys,i+1,p,h=>by
  have h':(xs.zip ys)[i]?=some p:=by simpa using h
  simpa using nU h'
set_option tactic.hygienic true in
theorem nT:∀{xs:List Dat}{ps:List (Dat×Dat)},gh xs=some ps->ps.length=xs.length/\∀(i:Nat) p,ps[i]?=some p->xs[i]?=some (.tup [p.1,p.2])
 |[],ps,h=>by cases h;exact⟨rfl,λi p q=>by simp at q⟩
 |d::xs,ps,h=>by
  unfold gh at h;split at h
  .next h0=>cases h0
  .next x y r h0=>
   cases h0;obtain⟨qs,e,rfl⟩:=QX.mp h;obtain⟨a,b⟩:=nT e;refine⟨by simp[a],λi p q=>?_⟩;cases i with
   |zero=>cases q;rfl
   |succ i=>exact b i p q
  .cases h
def tx (hx:ai R m0 x a)(h:fL x=some ds):∃xs,(∀m,Le m0 m->mG m a=some xs)/\ae R m0 ds xs:=by
 cases x with
 |tup es=>
  cases h;obtain⟨xs,rfl,q⟩:=aj.mp hx;exact⟨xs,λm h=>rfl,q⟩
 |lst es=>
  cases h;obtain⟨l,xs,rfl,_,e1,q⟩:=au.mp hx;exact⟨xs,λm h=>by show zK m l=_;unfold zK;rw[h _ _ e1],q⟩
 |_=>cases h
set_option tactic.hygienic true in
def qy (e:wJ k x y=some ps)(hx:ai R m0 x a)(hy:ai R m0 y b):mJ R m0 ps (yU k a b)/\ps.length<=aq:=by
 unfold wJ at e;split at e
 .cases f1:fL x with
  |none=>rw[f1]at e;cases e
  |some ds1=>
   cases f2:fL y with
   |none=>rw[f1,f2]at e;cases e
   |some ds2=>
    rw[f1,f2]at e;obtain⟨xs,e1,k1⟩:=tx hx f1;obtain⟨ys,e2,k2⟩:=tx hy f2;dsimp only at e;split at e
    .next z=>
     cases e;refine⟨λm h=>⟨λi p q=>?_,λi q=>?_⟩,by simp;lia⟩
     .obtain ⟨z1,z2⟩:=nU q;obtain⟨a,a1,a2⟩:=k1.get z1;obtain⟨b,b1,b2⟩:=k2.get z2;refine⟨a,b,?_,ai.frame (λl o r z=>⟨r,h l o z⟩) _ _ a2,ai.frame (λl o r z=>⟨r,h l o z⟩) _ _ b2⟩;simp only[yU,e1 m h,e2 m h,a1,b1]
     .simp only[yU,e1 m h,e2 m h];have l1:=k1.len;have l2:=k2.len;simp only[List.length_zip]at q;rcases Nat.le_total xs.length ys.length with z3|z3
      .rw[Qq (by lia)]
      .rw[Qq (l:=ys) (by lia)];cases xs[i]?<;>rfl
    .cases e
 .rename_i xs0 st;obtain⟨l,xs,rfl,_,e1,k1⟩:=au.mp hx;rw[aa.mp hy];split at e
  .next z=>
   cases e;have l1:=k1.len;refine⟨λm h=>⟨λi p q=>?_,λi q=>?_⟩,by simp[yA];lia⟩
   .obtain ⟨z1,z2⟩:=nU q;obtain⟨a,a1,a2⟩:=k1.get z2;have hp:p.1=.int (st+(i:Int)):=by
     simp only[yA,Qn]at z1;cases hr:(QI xs0.length)[i]? with
     |none=>rw[hr]at z1;cases z1
     |some j=>
      rw[hr]at z1;have:=Qa.mp hr;obtain⟨_,hj⟩:=this;simp only[List.getElem_range]at hj;subst hj;simp only[QJ,Option.some.injEq,Int.one_mul]at z1;exact z1.symm
    refine⟨.int (st+(i:Int)),a,?_,by rw[hp];exact aa.mpr rfl,ai.frame (λl o r z=>⟨r,h l o z⟩) _ _ a2⟩;simp only[yU,zK];rw[h _ _ e1];simp only[a1,QJ]
   .simp only[yU,zK];rw[h _ _ e1];simp only[yA,List.length_zip,Qx,List.length_range]at q;simp only;rw[Qq (by lia)];rfl
  .cases e
 .rename_i xs0 st;obtain⟨l,xs,rfl,_,e1,k1⟩:=au.mp hx;rw[aa.mp hy];split at e
  .next z=>
   have l1:=k1.len;obtain⟨g1,g2⟩:=nT e;refine⟨λm h=>⟨λi p q=>?_,λi q=>?_⟩,by lia⟩
   .obtain ⟨a,a1,a2⟩:=k1.get (g2 i p q);obtain⟨us,rfl,r2⟩:=aj.mp a2;obtain⟨x,r,rfl,ra,rb⟩:=r2.cons_inv;obtain⟨y,r',rfl,rc,rd⟩:=rb.cons_inv;obtain rfl:=rd.nil_inv;refine⟨x,y,?_,ai.frame (λl o r z=>⟨r,h l o z⟩) _ _ ra,ai.frame (λl o r z=>⟨r,h l o z⟩) _ _ rc⟩;simp only[yU,zK];rw[h _ _ e1];simp only[a1];rfl
   .simp only[yU,zK];rw[h _ _ e1];simp only;rw[Qq (by lia)]
  .cases e
 .rename_i xs0 st;obtain⟨xs,rfl,k1⟩:=aj.mp hx;rw[aa.mp hy];split at e
  .next z=>
   have l1:=k1.len;obtain⟨g1,g2⟩:=nT e;refine⟨λm h=>⟨λi p q=>?_,λi q=>?_⟩,by lia⟩
   .obtain ⟨a,a1,a2⟩:=k1.get (g2 i p q);obtain⟨us,rfl,r2⟩:=aj.mp a2;obtain⟨x,r,rfl,ra,rb⟩:=r2.cons_inv;obtain⟨y,r',rfl,rc,rd⟩:=rb.cons_inv;obtain rfl:=rd.nil_inv;refine⟨x,y,?_,ai.frame (λl o r z=>⟨r,h l o z⟩) _ _ ra,ai.frame (λl o r z=>⟨r,h l o z⟩) _ _ rc⟩;simp only[yU,a1];rfl
   .simp only[yU];rw[Qq (by lia)]
  .cases e
 .cases e
theorem jo (hg:mJ R m0 ps g)(hc:∀(R':Nat->Prop) m p a b,(∀l,R l->R' l)->Le m0 m->ai R' m p.1 a->ai R' m p.2 b->ag R' m (c a b m) (cd p))(he:∀(R':Nat->Prop) m p a b,(∀l,R l->R' l)->Le m0 m->ai R' m p.1 a->ai R' m p.2 b->ag R' m (e a b m) (ed p)):
  ∀(ds:List (Dat×Dat)) (i k:Nat) (acc:List Dat) (acx:List Wd) (R':Nat->Prop) (m:Me),(∀l,R l->R' l)->Le m0 m->ds=ps.drop i->i+ds.length=ps.length->ds.length<k->ae R' m acc acx->ag R' m (xD c e g k i acx m) (yn cd ed ds acc)
 |[],i,0,acc,acx,R',m,hR,hm,a,hi,hk,b=>by simp at hk
 |d::ds,i,0,acc,acx,R',m,hR,hm,a,hi,hk,b=>by simp at hk
 |[],i,k+1,acc,acx,R',m,hR,hm,a,hi,hk,b=>by
  unfold xD yn;rw[(hg m hm).2 i (by simp at hi;lia)];exact ag.new b
 |d::ds,i,k+1,acc,acx,R',m,hR,hm,a,hi,hk,b=>by
  have hx:ps[i]?=some d:=by
   have:(ps.drop i)[0]?=some d:=by rw[<-a];rfl
   simpa using this
  have hr:ds=ps.drop (i+1):=by
   have:(ps.drop i).drop 1=ds:=by rw[<-a];rfl
   rw[<-this,WR]
  have hi':i+1+ds.length=ps.length:=by simp at hi;lia
  have hk':ds.length<k:=by simp at hk;lia
  obtain⟨u,v,e0,p,q⟩:=(hg m hm).1 i d hx;have up:∀{d:Dat}{w:Wd},ai R m d w->ai R' m d w:=λz=>ai.frame (λl o r z=>⟨hR l r,z⟩) _ _ z;unfold xD yn;rw[e0];simp only;refine(hc R' m d u v hR hm (up p) (up q)).bind λt w m1 l1 k1=>?_;cases t with
  |bl t=>
   rw[ah.mp k1];cases t with
   |true=>
    refine(he _ m1 d u v (λl z=>.inl (hR l z)) (hm.trans l1) ((up p).up _ l1) ((up q).up _ l1)).bind λt w m2 l2 k2=>?_;simp only[b.len];by_cases z:acx.length<aq
    .rw[MN z,MN z];exact jo hg hc he ds (i+1) k _ _ _ m2 (λl z=>.inl (.inl (hR l z))) ((hm.trans l1).trans l2) hr hi' hk' (((b.up _ l1).up _ l2).app (.cons k2 .nil))
    .rw[MO z,MO z];exact ag.no
   |false=>exact jo hg hc he ds (i+1) k _ _ _ m1 (λl z=>.inl (hR l z)) (hm.trans l1) hr hi' hk' (b.up _ l1)
  |_=>exact ag.no
noncomputable def zv:Ex->List Nat
 |.var i=>[i]
 |.lit _=>[]
 |.bin _ a b=>zv a++zv b
 |.neg a=>zv a
 |.not a=>zv a
 |.and a b=>zv a++zv b
 |.or a b=>zv a++zv b
 |.cmp _ a b=>zv a++zv b
 |.chain _ _ a b c=>zv a++(zv b++zv c)
 |.ife c a b=>zv c++(zv a++zv b)
 |.unit=>[]
 |.pair a b=>zv a++zv b
 |.call _ a=>zv a
 |.blt _ a=>zv a
 |.isi _ a=>zv a
 |.lst a=>zv a
 |.tup a=>zv a
 |.idx a b=>zv a++zv b
 |.slH a b=>zv a++zv b
 |.meth _ a b=>zv a++zv b
 |.rng a b c=>zv a++(zv b++zv c)
 |.comp e i c=>zv i++(zv e++zv c)
 |.lrng a=>zv a
 |.compP _ e a b c=>zv a++(zv b++(zv e++zv c))
@[simp]theorem KD(i:Nat):zv (.var i)=[i]:=rfl
@[simp]theorem KC(w:Wd):zv (.lit w)=[]:=rfl
@[simp]theorem KB(a b:Ex):zv (.idx a b)=zv a++zv b:=rfl
@[simp]theorem KA(a:Ex):zv (.tup a)=zv a:=rfl
@[simp]theorem K7(a b:Ex):zv (.pair a b)=zv a++zv b:=rfl
@[simp]theorem K6  : zv (.unit)=[]:=rfl
@[simp]theorem Kz(op:Bo)(a b:Ex):zv (.bin op a b)=zv a++zv b:=rfl
@[simp]theorem K5(k:Nat)(a:Ex):zv (.call k a)=zv a:=rfl
@[simp]theorem Ky(a:Ex):zv (.neg a)=zv a:=rfl
@[simp]theorem Kx(a:Ex):zv (.lst a)=zv a:=rfl
noncomputable def bN(R:Nat->Prop)(m:Me)(vs:List Nat)(de:aO)(env:En):Prop:=
 de.length=env.length/\∀i∈vs,∀d,de[i]?=some (some d)->∃w,env[i]?=some (some w)/\ai R m d w
def bN.up{R R':Nat->Prop}{m m':Me}{vs:List Nat}{de:aO}{env:En}(hR:∀l,R l->R' l)(h:Le m m')(q:bN R m vs de env):bN R' m' vs de env:=
 ⟨q.1,λi hi d z=>by
  obtain⟨w,a,b⟩:=q.2 i hi d z;exact⟨w,a,ai.frame (λl o r k=>⟨hR l r,h l o k⟩) d w b⟩⟩
def bN.sub{R:Nat->Prop}{m:Me}{vs us:List Nat}{de:aO}{env:En}(h:∀i∈us,i∈vs)(q:bN R m vs de env):bN R m us de env:=
 ⟨q.1,λi hi=>q.2 i (h i hi)⟩
def bN.left{R:Nat->Prop}{m:Me}{us vs:List Nat}{de:aO}{env:En}(q:bN R m (us++vs) de env):bN R m us de env:=q.sub λ_ h=>QY _ h
def bN.right{R:Nat->Prop}{m:Me}{us vs:List Nat}{de:aO}{env:En}(q:bN R m (us++vs) de env):bN R m vs de env:=q.sub λ_ h=>Qw _ h
set_option tactic.hygienic true in
def bN.push{R:Nat->Prop}{m:Me}{vs:List Nat}{de:aO}{env:En}{d:Dat}{w:Wd}(q:bN R m vs de env)(h:ai R m d w):bN R m vs (de++[some d]) (env++[some w]):=by
 refine⟨by simp[q.1],λi hi e z=>?_⟩;rw[List.getElem?_append]at z;split at z
 .next k=>
  obtain⟨w,a,b⟩:=q.2 i hi e z;exact⟨w,by rw[Qs (by rw[<-q.1];exact k)];exact a,b⟩
 .next k=>
  rw[Qo (by rw[<-q.1];lia),<-q.1];have:i-de.length=0:=by
   rcases Nat.eq_zero_or_pos (i-de.length)with z0|z0
   .exact z0
   .rw[Qq (by simp;lia)]at z;cases z
  rw[this]at z ⊢;cases z;exact⟨w,rfl,h⟩
noncomputable def aU(cl:Nat->List Wd->Me->Rz)(cd:Nat->List Dat->Rd):Prop:=∀(k:Nat) (ds:List Dat) (ws:List Wd) (R:Nat->Prop) (m:Me),ae R m ds ws->ag R m (cl k ws m) (cd k ds)
def yZ (h:ai R m d w):ae R m (yg d) (zq w):=by
 cases d with
 |tup ds=>obtain⟨xs,rfl,q⟩:=aj.mp h;exact q
 |non=>rw[am.mp h];exact .nil
 |bl _=>rw[ah.mp h];exact .nil
 |int _=>rw[aa.mp h];exact .nil
 |str _=>rw[az.mp h];exact .nil
 |scr _=>rw[aY.mp h];exact .nil
 |lst _=>obtain⟨l,xs,rfl,_⟩:=au.mp h;exact .nil
theorem zj (H:aU cl cd):∀(e:Ex) (R:Nat->Prop) (m:Me) (de:aO) (env:En),bN R m (zv e) de env->ag R m (af cl e env m) (ao cd e de)
 |.var i,R,m,de,env,q=>by
  cases z:de[i]? with
  |none=>rw[xH (.inl z)];exact ag.no
  |some o=>
   cases o with
   |none=>rw[xH (.inr z)];exact ag.no
   |some d=>
    obtain⟨w,a,b⟩:=q.2 i (QN.mpr rfl) d z;rw[vt z,kM a];exact dy b
 |.lit w,R,m,de,env,q=>by
  cases w<;>first|exact ag.no|(exact dy (by unfold ai;rfl))
 |.bin op a b,R,m,de,env,q=>by
  refine(zj H a R m de env q.left).bind λd w m1 l1 k1=>?_;refine(zj H b _ m1 de env (q.right.up (λ_=>.inl) l1)).bind λd2 w2 m2 l2 k2=>?_;exact ur op (k1.up _ l2) k2
 |.neg a,R,m,de,env,q=>by
  refine(zj H a R m de env q).bind λd w m1 l1 k1=>?_;cases d with
  |int i=>rw[aa.mp k1];exact ag.int
  |_=>exact ag.no
 |.not a,R,m,de,env,q=>by
  refine(zj H a R m de env q).bind λd w m1 l1 k1=>?_;cases d with
  |bl i=>rw[ah.mp k1];exact ag.bl
  |_=>exact ag.no
 |.and a b,R,m,de,env,q=>by
  refine(zj H a R m de env q.left).bind λd w m1 l1 k1=>?_;cases d with
  |bl i=>
   rw[ah.mp k1];cases i with
   |true=>exact zj H b _ m1 de env (q.right.up (λ_=>.inl) l1)
   |false=>exact ag.bl
  |_=>exact ag.no
 |.or a b,R,m,de,env,q=>by
  refine(zj H a R m de env q.left).bind λd w m1 l1 k1=>?_;cases d with
  |bl i=>
   rw[ah.mp k1];cases i with
   |false=>exact zj H b _ m1 de env (q.right.up (λ_=>.inl) l1)
   |true=>exact ag.bl
  |_=>exact ag.no
 |.cmp op a b,R,m,de,env,q=>by
  refine(zj H a R m de env q.left).bind λd w m1 l1 k1=>?_;refine(zj H b _ m1 de env (q.right.up (λ_=>.inl) l1)).bind λd2 w2 m2 l2 k2=>?_;exact nV op (k1.up _ l2) k2
 |.chain o p a b c,R,m,de,env,q=>by
  refine(zj H a R m de env q.left).bind λd w m1 l1 k1=>?_;refine(zj H b _ m1 de env (q.right.left.up (λ_=>.inl) l1)).bind λd2 w2 m2 l2 k2=>?_;refine(nV o (k1.up _ l2) k2).bind λd3 w3 m3 l3 k3=>?_;cases d3 with
  |bl i=>
   rw[ah.mp k3];cases i with
   |false=>exact ag.bl
   |true=>
    refine(zj H c _ m3 de env (q.right.right.up (λ_ h=>.inl (.inl (.inl h))) ((l1.trans l2).trans l3))).bind λd4 w4 m4 l4 k4=>?_;exact nV p ((k2.up _ l3).up _ l4) k4
  |_=>exact ag.no
 |.ife c a b,R,m,de,env,q=>by
  refine(zj H c R m de env q.left).bind λd w m1 l1 k1=>?_;cases d with
  |bl i=>
   rw[ah.mp k1];cases i with
   |true=>exact zj H a _ m1 de env (q.right.left.up (λ_=>.inl) l1)
   |false=>exact zj H b _ m1 de env (q.right.right.up (λ_=>.inl) l1)
  |_=>exact ag.no
 |.unit,R,m,de,env,q=>by
  exact dy (aj.mpr ⟨[],rfl,.nil⟩)
 |.pair a b,R,m,de,env,q=>by
  refine(zj H a R m de env q.left).bind λd w m1 l1 k1=>?_;refine(zj H b _ m1 de env (q.right.up (λ_=>.inl) l1)).bind λd2 w2 m2 l2 k2=>?_;exact dy (aj.mpr ⟨_,rfl,.cons (k1.up _ l2) (yZ k2)⟩)
 |.call k a,R,m,de,env,q=>by
  refine(zj H a R m de env q).bind λd w m1 l1 k1=>?_;exact H k _ _ _ m1 (yZ k1)
 |.blt b a,R,m,de,env,q=>by
  refine(zj H a R m de env q).bind λd w m1 l1 k1=>?_;exact EJ b (yZ k1)
 |.isi t a,R,m,de,env,q=>by
  refine(zj H a R m de env q).bind λd w m1 l1 k1=>?_;exact EK t k1
 |.lst a,R,m,de,env,q=>by
  refine(zj H a R m de env q).bind λd w m1 l1 k1=>?_;exact ag.new (yZ k1)
 |.tup a,R,m,de,env,q=>by
  refine(zj H a R m de env q).bind λd w m1 l1 k1=>?_;have k2:=yZ k1;simp only[k2.len];split
  .exact dy (aj.mpr ⟨_,rfl,k2⟩)
  .exact ag.no
 |.idx a b,R,m,de,env,q=>by
  refine(zj H a R m de env q.left).bind λd w m1 l1 k1=>?_;refine(zj H b _ m1 de env (q.right.up (λ_=>.inl) l1)).bind λd2 w2 m2 l2 k2=>?_;exact EI (k1.up _ l2) k2
 |.slH a b,R,m,de,env,q=>by
  refine(zj H a R m de env q.left).bind λd w m1 l1 k1=>?_;refine(zj H b _ m1 de env (q.right.up (λ_=>.inl) l1)).bind λd2 w2 m2 l2 k2=>?_;cases d2 with
  |int i=>rw[aa.mp k2];exact Ej _ _ (k1.up _ l2)
  |_=>exact ag.no
 |.meth _ _ _,R,m,de,env,q=>by
  exact ag.no
 |.rng a b c,R,m,de,env,q=>by
  refine(zj H a R m de env q.left).bind λd w m1 l1 k1=>?_;refine(zj H b _ m1 de env (q.right.left.up (λ_=>.inl) l1)).bind λd2 w2 m2 l2 k2=>?_;refine(zj H c _ m2 de env (q.right.right.up (λ_ h=>.inl (.inl h)) (l1.trans l2))).bind λd3 w3 m3 l3 k3=>?_;exact EH ((k1.up _ l2).up _ l3) (k2.up _ l3) k3
 |.lrng a,R,m,de,env,q=>by
  refine(zj H a R m de env q).bind λd w m1 l1 k1=>?_;cases d with
  |int j=>
   rw[aa.mp k1];simp only;split
   .exact ag.new (kP 1 _ 0)
   .exact ag.no
  |_=>exact ag.no
 |.comp elt it cond,R,m,de,env,q=>by
  refine(zj H it R m de env q.left).bind λd w m1 l1 k1=>?_;have hc:∀(R':Nat->Prop) m' d x,(∀l,Rf R m.length l->R' l)->Le m1 m'->ai R' m' d x->ag R' m' (af cl cond (env++[some x]) m') (ao cd cond (de++[some d])):=
   λR' m' d x hR l k=>zj H cond R' m' _ _ ((q.right.right.up (λl h=>hR l (.inl h)) (l1.trans l)).push k)
  have he:∀(R':Nat->Prop) m' d x,(∀l,Rf R m.length l->R' l)->Le m1 m'->ai R' m' d x->ag R' m' (af cl elt (env++[some x]) m') (ao cd elt (de++[some d])):=
   λR' m' d x hR l k=>zj H elt R' m' _ _ ((q.right.left.up (λl h=>hR l (.inl h)) (l1.trans l)).push k)
  cases d with
  |tup ds=>
   obtain⟨xs,rfl,k2⟩:=aj.mp k1;exact vQ hc he ds xs [] [] _ m1 (λ_ h=>h) (Le.refl _) k2 .nil
  |scr ns=>
   rw[aY.mp k1];exact vQ hc he (ns.map .int) (ns.map .int) [] [] _ m1 (λ_ h=>h) (Le.refl _) (dI ns) .nil
  |lst ds=>
   obtain⟨l,xs,rfl,_,hm,k2⟩:=au.mp k1;simp only[cL];by_cases z:ds.length<=aq
   .rw[MN z];have hl:=k2.len;exact jn hm hc he ds 0 (aq+1) [] [] _ m1 (λ_ h=>h) (Le.refl _) (by simpa using k2) (by lia) (by lia) .nil
   .rw[MO z];exact ag.no
  |_=>exact ag.no
 |.compP k elt a b cond,R,m,de,env,q=>by
  refine(zj H a R m de env q.left).bind λd w m1 l1 k1=>?_;refine(zj H b _ m1 de env (q.right.left.up (λl h=>.inl h) l1)).bind λd' w' m2 l2 k2=>?_;have hc:∀(R':Nat->Prop) m' (p:Dat×Dat) x y,(∀l,Rf (Rf R m.length) m1.length l->R' l)->Le m2 m'->ai R' m' p.1 x->ai R' m' p.2 y->ag R' m' (af cl cond (env++[some x]++[some y]) m') (ao cd cond (de++[some p.1]++[some p.2])):=
   λR' m' d x y hR l k k'=>zj H cond R' m' _ _ (((q.right.right.right.up (λl h=>hR l (.inl (.inl h))) ((l1.trans l2).trans l)).push k).push k')
  have he:∀(R':Nat->Prop) m' (p:Dat×Dat) x y,(∀l,Rf (Rf R m.length) m1.length l->R' l)->Le m2 m'->ai R' m' p.1 x->ai R' m' p.2 y->ag R' m' (af cl elt (env++[some x]++[some y]) m') (ao cd elt (de++[some p.1]++[some p.2])):=
   λR' m' d x y hR l k k'=>zj H elt R' m' _ _ (((q.right.right.left.up (λl h=>hR l (.inl (.inl h))) ((l1.trans l2).trans l)).push k).push k')
  cases e:wJ k d d' with
  |none=>exact ag.no
  |some ps=>
   obtain⟨pr,hl⟩:=qy e (k1.up _ l2) k2;exact jo pr hc he ps 0 (aq+1) [] [] _ m2 (λ_ h=>h) (Le.refl _) (by simp) (by simp) (by lia) .nil
mutual
noncomputable def bh(m:Me):Dat->Wd->List Nat->Prop
 |.non,w,A=>w=.non/\A=[]
 |.bl b,w,A=>w=.bl b/\A=[]
 |.int i,w,A=>w=.int i/\A=[]
 |.str s,w,A=>w=.str s/\A=[]
 |.scr ns,w,A=>w=.rol (ns.map Wd.int)/\A=[]
 |.tup ds,w,A=>∃xs,w=.tup xs/\av m ds xs A
 |.lst ds,w,A=>∃l xs B,w=.ref l/\A=l::B/\m[l]?=some (.lst xs)/\av m ds xs B
noncomputable def av(m:Me):List Dat->List Wd->List Nat->Prop
 |[],xs,A=>xs=[]/\A=[]
 |d::ds,xs,A=>∃x r B C,xs=x::r/\A=B++C/\bh m d x B/\av m ds r C
end
def aZ:bh m (.lst ds) w A↔∃l xs B,w=.ref l/\A=l::B/\m[l]?=some (.lst xs)/\av m ds xs B:=by
 constructor
 .intro h;unfold bh at h;exact h
 .intro h;unfold bh;exact h
def bx:bh m (.tup ds) w A↔∃xs,w=.tup xs/\av m ds xs A:=by
 constructor
 .intro h;unfold bh at h;exact h
 .intro h;unfold bh;exact h
def av.cons_inv (h:av m (d::ds) xs A):∃x r B C,xs=x::r/\A=B++C/\bh m d x B/\av m ds r C:=by unfold av at h;exact h
def av.nil_inv (h:av m [] xs A):xs=[]/\A=[]:=by unfold av at h;exact h
def av.nil{m:Me}:av m [] [] []:=by unfold av;exact⟨rfl,rfl⟩
def av.cons{m:Me}{d:Dat}{ds:List Dat}{x:Wd}{xs:List Wd}{B C:List Nat}(a:bh m d x B)(b:av m ds xs C):av m (d::ds) (x::xs) (B++C):=by
 unfold av;exact⟨x,xs,B,C,rfl,rfl,a,b⟩
theorem av.app:∀{ds es:List Dat}{xs ys:List Wd}{A B:List Nat},av m ds xs A->av m es ys B->av m (ds++es) (xs++ys) (A++B)
 |[],es,xs,ys,A,B,a,b=>by rw[a.nil_inv.1,a.nil_inv.2];exact b
 |d::ds,es,xs,ys,A,B,a,b=>by
  obtain⟨x,r,P,Q,rfl,rfl,p,q⟩:=a.cons_inv;rw[WV];exact .cons p (av.app q b)
mutual
theorem bh.frame{m m':Me}:∀(d:Dat) (w:Wd) (A:List Nat),(∀l∈A,∀o,m[l]?=some o->m'[l]?=some o)->bh m d w A->bh m' d w A
 |.non,w,A,h,q=>by unfold bh at q ⊢;exact q
 |.bl _,w,A,h,q=>by unfold bh at q ⊢;exact q
 |.int _,w,A,h,q=>by unfold bh at q ⊢;exact q
 |.str _,w,A,h,q=>by unfold bh at q ⊢;exact q
 |.scr _,w,A,h,q=>by unfold bh at q ⊢;exact q
 |.tup ds,w,A,h,q=>by
  obtain⟨xs,rfl,q1⟩:=bx.mp q;exact bx.mpr ⟨xs,rfl,av.frame ds xs A h q1⟩
 |.lst ds,w,A,h,q=>by
  obtain⟨l,xs,B,rfl,rfl,hm,q1⟩:=aZ.mp q;exact aZ.mpr ⟨l,xs,B,rfl,rfl,h l QH _ hm,av.frame ds xs B (λl hl=>h l (Ql _ hl)) q1⟩
theorem av.frame{m m':Me}:∀(ds:List Dat) (xs:List Wd) (A:List Nat),(∀l∈A,∀o,m[l]?=some o->m'[l]?=some o)->av m ds xs A->av m' ds xs A
 |[],xs,A,h,q=>by rw[q.nil_inv.1,q.nil_inv.2];exact .nil
 |d::ds,xs,A,h,q=>by
  obtain⟨x,r,B,C,rfl,rfl,a,b⟩:=q.cons_inv;exact .cons (bh.frame d x B (λl hl=>h l (QY _ hl)) a) (av.frame ds r C (λl hl=>h l (Qw _ hl)) b)
end
mutual
theorem bh.rep{m:Me}{R:Nat->Prop}:∀(d:Dat) (w:Wd) (A:List Nat),(∀l∈A,R l)->bh m d w A->ai R m d w
 |.non,w,A,h,q=>by unfold bh at q;exact am.mpr q.1
 |.bl _,w,A,h,q=>by unfold bh at q;exact ah.mpr q.1
 |.int _,w,A,h,q=>by unfold bh at q;exact aa.mpr q.1
 |.str _,w,A,h,q=>by unfold bh at q;exact az.mpr q.1
 |.scr _,w,A,h,q=>by unfold bh at q;exact aY.mpr q.1
 |.tup ds,w,A,h,q=>by
  obtain⟨xs,rfl,q1⟩:=bx.mp q;exact aj.mpr ⟨xs,rfl,av.rep ds xs A h q1⟩
 |.lst ds,w,A,h,q=>by
  obtain⟨l,xs,B,rfl,rfl,hm,q1⟩:=aZ.mp q;exact au.mpr ⟨l,xs,rfl,h l QH,hm,av.rep ds xs B (λl hl=>h l (Ql _ hl)) q1⟩
theorem av.rep{m:Me}{R:Nat->Prop}:∀(ds:List Dat) (xs:List Wd) (A:List Nat),(∀l∈A,R l)->av m ds xs A->ae R m ds xs
 |[],xs,A,h,q=>by rw[q.nil_inv.1];exact .nil
 |d::ds,xs,A,h,q=>by
  obtain⟨x,r,B,C,rfl,rfl,a,b⟩:=q.cons_inv;exact .cons (bh.rep d x B (λl hl=>h l (QY _ hl)) a) (av.rep ds r C (λl hl=>h l (Qw _ hl)) b)
end
mutual
theorem bh.lt{m:Me}:∀(d:Dat) (w:Wd) (A:List Nat),bh m d w A->∀l∈A,l<m.length
 |.non,w,A,q=>by unfold bh at q;rw[q.2];simp
 |.bl _,w,A,q=>by unfold bh at q;rw[q.2];simp
 |.int _,w,A,q=>by unfold bh at q;rw[q.2];simp
 |.str _,w,A,q=>by unfold bh at q;rw[q.2];simp
 |.scr _,w,A,q=>by unfold bh at q;rw[q.2];simp
 |.tup ds,w,A,q=>by
  obtain⟨xs,rfl,q1⟩:=bx.mp q;exact av.lt ds xs A q1
 |.lst ds,w,A,q=>by
  obtain⟨l,xs,B,rfl,rfl,hm,q1⟩:=aZ.mp q;intro k hk;rcases Qr.mp hk with rfl|hk
  .exact (Qa.mp hm).1
  .exact av.lt ds xs B q1 k hk
theorem av.lt{m:Me}:∀(ds:List Dat) (xs:List Wd) (A:List Nat),av m ds xs A->∀l∈A,l<m.length
 |[],xs,A,q=>by rw[q.nil_inv.2];simp
 |d::ds,xs,A,q=>by
  obtain⟨x,r,B,C,rfl,rfl,a,b⟩:=q.cons_inv;intro k hk;rcases Qz.mp hk with hk|hk
  .exact bh.lt d x B a k hk
  .exact av.lt ds r C b k hk
end
mutual
theorem ai.flat{R:Nat->Prop}{m m':Me}:∀(d:Dat) (w:Wd),ax d=true->ai R m d w->bh m' d w []
 |.non,w,h,q=>by unfold bh;exact⟨am.mp q,rfl⟩
 |.bl _,w,h,q=>by unfold bh;exact⟨ah.mp q,rfl⟩
 |.int _,w,h,q=>by unfold bh;exact⟨aa.mp q,rfl⟩
 |.str _,w,h,q=>by unfold bh;exact⟨az.mp q,rfl⟩
 |.scr _,w,h,q=>by unfold bh;exact⟨aY.mp q,rfl⟩
 |.tup ds,w,h,q=>by
  obtain⟨xs,rfl,q1⟩:=aj.mp q;exact bx.mpr ⟨xs,rfl,ae.flat ds xs (by unfold Vl.ax at h;exact h) q1⟩
 |.lst ds,w,h,q=>by unfold Vl.ax at h;cases h
theorem ae.flat{R:Nat->Prop}{m m':Me}:∀(ds:List Dat) (xs:List Wd),ba ds=true->ae R m ds xs->av m' ds xs []
 |[],xs,h,q=>by rw[q.nil_inv];exact .nil
 |d::ds,xs,h,q=>by
  obtain⟨x,r,rfl,a,b⟩:=q.cons_inv;unfold ba at h;rw[Qj]at h;exact av.cons (B:=[]) (C:=[]) (ai.flat d x h.1 a) (ae.flat ds r h.2 b)
end
noncomputable def bJ(R:Nat->Prop)(m:Me)(lv:Lv)(d:Dat)(w:Wd)(A:List Nat):Prop:=match lv with
 |.no=>ai R m d w/\A=[]
 |.top=>∃ds l xs,d=.lst ds/\w=.ref l/\A=[l]/\m[l]?=some (.lst xs)/\ae R m ds xs
 |.full=>bh m d w A
theorem bJ.rep (h:∀l,R l->R' l)(k:∀l∈A,R' l)(q:bJ R m lv d w A):ai R' m d w:=by
 cases lv with
 |no=>exact ai.frame (λl o r z=>⟨h l r,z⟩) d w q.1
 |top=>
  obtain⟨ds,l,xs,rfl,rfl,rfl,hm,a⟩:=q;exact au.mpr ⟨l,xs,rfl,k l (by simp),hm,ae.frame (λl o r z=>⟨h l r,z⟩) ds xs a⟩
 |full=>exact bh.rep d w A k q
theorem bJ.frame{R R':Nat->Prop}{m m':Me}{lv:Lv}{d:Dat}{w:Wd}{A:List Nat}(h:∀(l:Nat) o,R l->m[l]?=some o->R' l/\m'[l]?=some o)(k:∀l∈A,∀o,m[l]?=some o->m'[l]?=some o)(q:bJ R m lv d w A):bJ R' m' lv d w A:=by
 cases lv with
 |no=>exact⟨ai.frame h d w q.1,q.2⟩
 |top=>
  obtain⟨ds,l,xs,rfl,rfl,rfl,hm,a⟩:=q;exact⟨ds,l,xs,rfl,rfl,rfl,k l (by simp) _ hm,ae.frame h ds xs a⟩
 |full=>exact bh.frame d w A k q
theorem bJ.lt (q:bJ R m lv d w A):∀l∈A,l<m.length:=by
 cases lv with
 |no=>rw[q.2];simp
 |top=>
  obtain⟨ds,l,xs,rfl,rfl,rfl,hm,a⟩:=q;intro k hk;rw[QN.mp hk];exact(Qa.mp hm).1
 |full=>exact bh.lt d w A q
noncomputable def aV(lev:Nat->Lv):Ex->Dat->Lv
 |.comp elt _ _,d=>if ax d then .full else match d with
  |.lst ds=>if ds.all (λx=>aV lev elt x == .full)then .full else .top
  |_=>.no
 |.compP _ elt _ _ _,d=>if ax d then .full else match d with
  |.lst ds=>if ds.all (λx=>aV lev elt x == .full)then .full else .top
  |_=>.no
 |.lst a,d=>if ax d then .full else match d with
  |.lst ds=>if aV lev a (.tup ds) == .full then .full else .top
  |_=>.no
 |.tup a,d=>aV lev a d
 |.pair a b,d=>if ax d then .full else match d with
  |.tup (x::ds)=>if aV lev a x == .full&&aV lev b (.tup ds) == .full then .full else .no
  |_=>.no
 |.call k _,d=>if ax d then .full else lev k
 |.blt .list _,d=>if ax d then .full else match d with
  |.lst ds=>if ba ds then .full else .top
  |_=>.no
 |.lrng _,d=>if ax d then .full else match d with
  |.lst ds=>if ba ds then .full else .top
  |_=>.no
 |.slH _ _,d=>if ax d then .full else match d with
  |.lst ds=>if ba ds then .full else .top
  |_=>.no
 |.bin _ _ _,d=>if ax d then .full else match d with
  |.lst ds=>if ba ds then .full else .top
  |_=>.no
 |_,d=>if ax d then .full else .no
@[simp]theorem kQ(lev:Nat->Lv)(e i c:Ex)(d:Dat):aV lev (.comp e i c) d=if ax d then .full else match d with
  |.lst ds=>if ds.all (λx=>aV lev e x == .full)then .full else .top
  |_=>.no:=rfl
@[simp]theorem vv(lev:Nat->Lv)(k:Kd)(e a b c:Ex)(d:Dat):aV lev (.compP k e a b c) d=if ax d then .full else match d with
  |.lst ds=>if ds.all (λx=>aV lev e x == .full)then .full else .top
  |_=>.no:=rfl
@[simp]theorem Ka(lev:Nat->Lv)(a:Ex)(d:Dat):aV lev (.lst a) d=if ax d then .full else match d with
  |.lst ds=>if aV lev a (.tup ds) == .full then .full else .top
  |_=>.no:=rfl
@[simp]theorem J9(lev:Nat->Lv)(a:Ex)(d:Dat):aV lev (.tup a) d=aV lev a d:=rfl
@[simp]theorem zk(lev:Nat->Lv)(a b:Ex)(d:Dat):aV lev (.pair a b) d=if ax d then .full else match d with
  |.tup (x::ds)=>if aV lev a x == .full&&aV lev b (.tup ds) == .full then .full else .no
  |_=>.no:=rfl
@[simp]theorem KV(lev:Nat->Lv)(k:Nat)(a:Ex)(d:Dat):aV lev (.call k a) d=if ax d then .full else lev k:=rfl
@[simp]theorem KU(lev:Nat->Lv)(a:Ex)(d:Dat):aV lev (.blt .list a) d=if ax d then .full else match d with
  |.lst ds=>if ba ds then .full else .top
  |_=>.no:=rfl
@[simp]theorem KT(lev:Nat->Lv)(a:Ex)(d:Dat):aV lev (.lrng a) d=if ax d then .full else match d with
  |.lst ds=>if ba ds then .full else .top
  |_=>.no:=rfl
@[simp]theorem J8(lev:Nat->Lv)(a b:Ex)(d:Dat):aV lev (.slH a b) d=if ax d then .full else match d with
  |.lst ds=>if ba ds then .full else .top
  |_=>.no:=rfl
@[simp]theorem J7(lev:Nat->Lv)(op:Bo)(a b:Ex)(d:Dat):aV lev (.bin op a b) d=if ax d then .full else match d with
  |.lst ds=>if ba ds then .full else .top
  |_=>.no:=rfl
@[simp]theorem J6(lev:Nat->Lv)(i:Nat)(d:Dat):aV lev (.var i) d=if ax d then .full else .no:=rfl
@[simp]theorem J5(lev:Nat->Lv)(w:Wd)(d:Dat):aV lev (.lit w) d=if ax d then .full else .no:=rfl
@[simp]theorem J4(lev:Nat->Lv)(a b:Ex)(d:Dat):aV lev (.idx a b) d=if ax d then .full else .no:=rfl
@[simp]theorem J3(lev:Nat->Lv)(a:Ex)(d:Dat):aV lev (.neg a) d=if ax d then .full else .no:=rfl
@[simp]theorem J2(lev:Nat->Lv)(a:Ex)(d:Dat):aV lev (.not a) d=if ax d then .full else .no:=rfl
@[simp]theorem J1(lev:Nat->Lv)(a b:Ex)(d:Dat):aV lev (.and a b) d=if ax d then .full else .no:=rfl
@[simp]theorem AO(lev:Nat->Lv)(a b:Ex)(d:Dat):aV lev (.or a b) d=if ax d then .full else .no:=rfl
@[simp]theorem J0(lev:Nat->Lv)(op:Co)(a b:Ex)(d:Dat):aV lev (.cmp op a b) d=if ax d then .full else .no:=rfl
@[simp]theorem JZ(lev:Nat->Lv)(c a b:Ex)(d:Dat):aV lev (.ife c a b) d=if ax d then .full else .no:=rfl
@[simp]theorem KS(lev:Nat->Lv)(d:Dat):aV lev (.unit) d=if ax d then .full else .no:=rfl
@[simp]theorem JY(lev:Nat->Lv)(t:Tg)(a:Ex)(d:Dat):aV lev (.isi t a) d=if ax d then .full else .no:=rfl
@[simp]theorem JX(lev:Nat->Lv)(a b c:Ex)(d:Dat):aV lev (.rng a b c) d=if ax d then .full else .no:=rfl
@[simp]theorem Kn(lev:Nat->Lv)(a:Ex)(d:Dat):aV lev (.blt .len a) d=if ax d then .full else .no:=rfl
@[simp]theorem Km(lev:Nat->Lv)(a:Ex)(d:Dat):aV lev (.blt .int a) d=if ax d then .full else .no:=rfl
@[simp]theorem K4(lev:Nat->Lv)(a:Ex)(d:Dat):aV lev (.blt .tuple a) d=if ax d then .full else .no:=rfl
@[simp]theorem Kl(lev:Nat->Lv)(a:Ex)(d:Dat):aV lev (.blt .sum a) d=if ax d then .full else .no:=rfl
@[simp]theorem Kk(lev:Nat->Lv)(a:Ex)(d:Dat):aV lev (.blt .all a) d=if ax d then .full else .no:=rfl
@[simp]theorem Kj(lev:Nat->Lv)(a:Ex)(d:Dat):aV lev (.blt .abs a) d=if ax d then .full else .no:=rfl
@[simp]theorem Kw(lev:Nat->Lv)(a:Ex)(d:Dat):aV lev (.blt .max2 a) d=if ax d then .full else .no:=rfl
noncomputable def aL(R:Nat->Prop)(m:Me)(lv:Dat->Lv)(r:Rz)(rd:Rd):Prop:=match rd with
 |.ok d=>∃w m' A,r=.ok w m'/\Le m m'/\bJ (λl=>Rf R m.length l/\l∉A) m' (lv d) d w A/\A.Nodup/\∀a∈A,m.length<=a
 |.exc c d=>∃w m',r=.exc c w m'/\Le m m'/\ai (Rf R m.length) m' d w
 |.no=>True
noncomputable def wK(lev:Nat->Lv)(k:Nat)(d:Dat):Lv:=if ax d then .full else lev k
noncomputable def br(lev:Nat->Lv)(cl:Nat->List Wd->Me->Rz)(cd:Nat->List Dat->Rd):Prop:=∀(k:Nat) (ds:List Dat) (ws:List Wd) (R:Nat->Prop) (m:Me),ae R m ds ws->aL R m (wK lev k) (cl k ws m) (cd k ds)
def aL.sim (h:aL R m lv r rd):ag R m r rd:=by
 cases rd with
 |ok d=>
  obtain⟨w,m',A,rfl,l,q,_,hA⟩:=h;exact⟨w,m',rfl,l,q.rep (λ_ z=>z.1) (λa z=>.inr (hA a z))⟩
 |exc c d=>exact h
 |no=>trivial
def br.r (H:br lev cl cd):aU cl cd:=λk ds ws R m q=>(H k ds ws R m q).sim
set_option tactic.hygienic true in
def ag.own (h:ag R m r rd)(hl:∀d,lv d=if ax d then .full else .no):aL R m lv r rd:=by
 cases rd with
 |ok d=>
  obtain⟨w,m',rfl,l,q⟩:=h;refine⟨w,m',[],rfl,l,?_,QB,by simp⟩;rw[hl];split
  .next z=>exact q.flat d w z
  .exact ⟨ai.frame (λl o r z=>⟨⟨r,by simp⟩,z⟩) d w q,rfl⟩
 |exc c d=>exact h
 |no=>trivial
theorem aL.lift{R:Nat->Prop}{m m1:Me}{r:Rz}{rd:Rd}{lv:Dat->Lv}(h:Le m m1)(q:aL (Rf R m.length) m1 lv r rd):aL R m lv r rd:=by
 have hl:=h.len;cases rd with
 |ok d=>
  obtain⟨w,m',A,rfl,k,z,nd,hA⟩:=q;exact⟨w,m',A,rfl,h.trans k,z.frame (λl o r z=>⟨⟨by rcases r.1 with (r|r)|r;exact .inl r;exact .inr r;exact .inr (by lia),r.2⟩,z⟩) (λ_ _ _ z=>z),nd,λa ha=>by have:=hA a ha;lia⟩
 |exc c d=>exact ag.lift (rd:=.exc c d) h q
 |no=>trivial
def ag.bindO (h:ag R m r rd)(k:∀d w m',Le m m'->ai (Rf R m.length) m' d w->aL (Rf R m.length) m' lv (f w m') (g d)):aL R m lv (r.bind f) (rd.bind g):=by
 cases rd with
 |ok d=>obtain⟨w,m',rfl,l,z⟩:=h;exact aL.lift l (k d w m' l z)
 |exc c d=>obtain⟨w,m',rfl,l,z⟩:=h;exact⟨w,m',rfl,l,z⟩
 |no=>trivial
theorem aL.no{R:Nat->Prop}{m:Me}{r:Rz}{lv:Dat->Lv}:aL R m lv r .no:=trivial
set_option tactic.hygienic true in
def aL.new{R:Nat->Prop}{m:Me}{ds:List Dat}{xs:List Wd}{lv:Dat->Lv}(h:ae R m ds xs)(hl:∀es,lv (.lst es)=if ba es then .full else .top):aL R m lv (alloc m xs) (yO ds):=by
 unfold yO alloc;rw[h.len];by_cases z:xs.length<=aq
 .rw[MN z,MN z];refine⟨_,_,[m.length],rfl,Le.app m _,?_,by simp,by simp⟩;rw[hl];split
  .next f=>exact aZ.mpr ⟨_,xs,[],rfl,rfl,by simp,h.flat ds xs f⟩
  .refine ⟨ds,_,xs,rfl,rfl,rfl,by simp,ae.frame (λl o r z=>⟨⟨.inl r,?_⟩,Le.app m _ l o z⟩) ds xs h⟩;have:=(Qa.mp z).1;simp;lia
 .rw[MO z,MO z];exact aL.no
def rY (hm:Le m0 m)(h:av m ds xs A)(nd:A.Nodup)(hA:∀a∈A,m0.length<=a)(hl:lv (.lst ds)=.full)(hlen:ds.length=xs.length):aL R m0 lv (alloc m xs) (yO ds):=by
 unfold yO alloc;rw[hlen];have hlt:=h.lt;by_cases z:xs.length<=aq
 .rw[MN z,MN z];refine⟨_,_,m.length::A,rfl,hm.trans (Le.app m _),?_,QP.mpr ⟨λq=>by have:=hlt _ q;lia,nd⟩,?_⟩
  .rw[hl];exact aZ.mpr ⟨_,xs,A,rfl,rfl,by simp,av.frame ds xs A (λl hl o q=>Le.app m _ l o q) h⟩
  .intro a ha;rcases Qr.mp ha with rfl|ha
   .exact hm.len
   .exact hA a ha
 .rw[MO z,MO z];exact aL.no
theorem av.len:∀{ds:List Dat}{xs:List Wd}{A:List Nat},av m ds xs A->ds.length=xs.length
 |[],xs,A,q=>by rw[q.nil_inv.1];rfl
 |d::ds,xs,A,q=>by
  obtain⟨x,r,B,C,rfl,rfl,a,b⟩:=q.cons_inv;simp[av.len b]
noncomputable def dr(R:Nat->Prop)(m:Me)(lv:Dat->Lv)(r:Rz)(rd:Rd):Prop:=match rd with
 |.ok d=>∃out m2 outx,d=.lst out/\out.length<=aq/\r=alloc m2 outx/\Le m m2/\ae (Rf R m.length) m2 out outx/\((∀y∈out,lv y=.full)->∃A,av m2 out outx A/\A.Nodup/\∀a∈A,m.length<=a)
 |.exc c d=>∃w m',r=.exc c w m'/\Le m m'/\ai (Rf R m.length) m' d w
 |.no=>True
noncomputable def cI(m0 m:Me)(lv:Dat->Lv)(acc:List Dat)(acx:List Wd):Prop:=(∀y∈acc,lv y=.full)->∃A,av m acc acx A/\A.Nodup/\∀a∈A,m0.length<=a
def cI.up{m0 m m':Me}{lv:Dat->Lv}{acc:List Dat}{acx:List Wd}(h:Le m m')(q:cI m0 m lv acc acx):cI m0 m' lv acc acx:=λz=>by
 obtain⟨A,a,b,c⟩:=q z;exact⟨A,av.frame acc acx A (λl _ o k=>h l o k) a,b,c⟩
def cI.push{m0 m m':Me}{lv:Dat->Lv}{acc:List Dat}{acx:List Wd}{d:Dat}{w:Wd}{B:List Nat}(hm:Le m0 m)(h:Le m m')(q:cI m0 m lv acc acx)(z:lv d=.full->bh m' d w B)(nd:B.Nodup)(hB:∀b∈B,m.length<=b):cI m0 m' lv (acc++[d]) (acx++[w]):=λf=>by
 obtain⟨A,a,b,c⟩:=q λy hy=>f y (QY _ hy);refine⟨A++(B++[]),(av.frame acc acx A (λl _ o k=>h l o k) a).app (.cons (z (f d (by simp))) .nil),?_,?_⟩
 .rw[QU];refine Qt.mpr ⟨b,nd,λx hx y hy e=>?_⟩;have:=av.lt acc acx A a x hx;have:=hB y hy;lia
 .intro x hx;rw[QU]at hx;rcases Qz.mp hx with hx|hx
  .exact c x hx
  .have:=hB x hx;have:=hm.len;lia
theorem vR (hc:∀(R':Nat->Prop) m d x,(∀l,R l->R' l)->Le m0 m->ai R' m d x->ag R' m (c x m) (cd d))(he:∀(R':Nat->Prop) m d x,(∀l,R l->R' l)->Le m0 m->ai R' m d x->aL R' m lv (e x m) (ed d)):
  ∀(ds:List Dat) (xs:List Wd) (acc:List Dat) (acx:List Wd) (m:Me),Le m0 m->ae (Rf R m0.length) m ds xs->ae (Rf R m0.length) m acc acx->cI m0 m lv acc acx->dr R m0 lv (xS c e xs acx m) (yn cd ed ds acc)
 |[],xs,acc,acx,m,hm,a,b,f=>by
  rw[a.nil_inv];unfold xS yn yO;by_cases z:acc.length<=aq
  .rw[MN z];exact⟨acc,m,acx,rfl,z,rfl,hm,b,f⟩
  .rw[MO z];trivial
 |d::ds,xs,acc,acx,m,hm,a,b,f=>by
  obtain⟨x,r,rfl,p,q⟩:=a.cons_inv;have hl:=hm.len;have sh:∀{n:Nat}{m':Me}{d:Dat}{w:Wd},m0.length<=n->ai (Rf (Rf R m0.length) n) m' d w->ai (Rf R m0.length) m' d w:=λhn k=>ai.frame (λl o r z=>⟨by rcases r with (r|r)|r;exact .inl r;exact .inr r;exact .inr (by lia),z⟩) _ _ k;unfold xS yn;have h1:=hc _ m d x (λl z=>.inl z) hm p;cases e1:cd d with
  |no=>trivial
  |exc k t=>rw[e1]at h1;obtain⟨w,m',h1,l1,k1⟩:=h1;rw[h1];exact⟨w,m',rfl,hm.trans l1,sh hl k1⟩
  |ok t=>
   rw[e1]at h1;obtain⟨w,m1,h1,l1,k1⟩:=h1;rw[h1];simp only[Rz.bind,Rd.bind];cases t with
   |bl t=>
    rw[ah.mp k1];have fr:∀{ds:List Dat}{xs:List Wd},ae (Rf R m0.length) m ds xs->ae (Rf R m0.length) m1 ds xs:=λk=>ae.frame (λl o r z=>⟨r,l1 l o z⟩) _ _ k;cases t with
    |false=>exact vR hc he ds r acc acx m1 (hm.trans l1) (fr q) (fr b) (f.up l1)
    |true=>
     have h2:=he _ m1 d x (λl z=>.inl z) (hm.trans l1) (ai.frame (λl o r z=>⟨r,l1 l o z⟩) _ _ p);have hl1:=(hm.trans l1).len;simp only;cases e2:ed d with
     |no=>trivial
     |exc k t=>rw[e2]at h2;obtain⟨w,m',h2,l2,k2⟩:=h2;rw[h2];exact⟨w,m',rfl,(hm.trans l1).trans l2,sh hl1 k2⟩
     |ok y=>
      rw[e2]at h2;have h3:=h2.sim;obtain⟨w,m2,B,h2,l2,k2,nd,hB⟩:=h2;obtain⟨w',m2',h3,_,k3⟩:=h3;rw[h2]at h3 ⊢;cases h3;simp only[Rz.bind,Rd.bind,b.len];split
      .refine vR hc he ds r _ _ m2 ((hm.trans l1).trans l2) (ae.frame (λl o r z=>⟨r,l2 l o z⟩) _ _ (fr q)) ((ae.frame (λl o r z=>⟨r,l2 l o z⟩) _ _ (fr b)).app (.cons (sh hl1 k3) .nil)) ((f.up l1).push (hm.trans l1) l2 ?_ nd hB);intro z;rw[z]at k2;exact k2
      .trivial
   |_=>trivial
theorem jp (hx0:m0[l]?=some (.lst xs0))(hc:∀(R':Nat->Prop) m d x,(∀l,R l->R' l)->Le m0 m->ai R' m d x->ag R' m (c x m) (cd d))(he:∀(R':Nat->Prop) m d x,(∀l,R l->R' l)->Le m0 m->ai R' m d x->aL R' m lv (e x m) (ed d)):
  ∀(ds:List Dat) (i k:Nat) (acc:List Dat) (acx:List Wd) (m:Me),Le m0 m->ae (Rf R m0.length) m ds (xs0.drop i)->i+ds.length=xs0.length->ds.length<k->ae (Rf R m0.length) m acc acx->cI m0 m lv acc acx->dr R m0 lv (xT c e l k i acx m) (yn cd ed ds acc)
 |[],i,0,acc,acx,m,hm,a,hi,hk,b,f=>by simp at hk
 |d::ds,i,0,acc,acx,m,hm,a,hi,hk,b,f=>by simp at hk
 |[],i,k+1,acc,acx,m,hm,a,hi,hk,b,f=>by
  unfold xT yn zK yO;rw[hm l _ hx0];simp only;rw[Qq (by simp at hi;lia)];by_cases z:acc.length<=aq
  .rw[MN z];exact⟨acc,m,acx,rfl,z,rfl,hm,b,f⟩
  .rw[MO z];trivial
 |d::ds,i,k+1,acc,acx,m,hm,a,hi,hk,b,f=>by
  obtain⟨x,r,e0,p,q⟩:=a.cons_inv;have hx:xs0[i]?=some x:=by
   have:(xs0.drop i)[0]?=some x:=by rw[e0];rfl
   simpa using this
  have hr:r=xs0.drop (i+1):=by
   have:(xs0.drop i).drop 1=r:=by rw[e0];rfl
   rw[<-this,WR]
  rw[hr]at q;have hi':i+1+ds.length=xs0.length:=by simp at hi;lia
  have hk':ds.length<k:=by simp at hk;lia
  have hl:=hm.len;have sh:∀{n:Nat}{m':Me}{d:Dat}{w:Wd},m0.length<=n->ai (Rf (Rf R m0.length) n) m' d w->ai (Rf R m0.length) m' d w:=λhn k=>ai.frame (λl o r z=>⟨by rcases r with (r|r)|r;exact .inl r;exact .inr r;exact .inr (by lia),z⟩) _ _ k;unfold xT yn zK;rw[hm l _ hx0];simp only;rw[hx];simp only;have h1:=hc _ m d x (λl z=>.inl z) hm p;cases e1:cd d with
  |no=>trivial
  |exc k t=>rw[e1]at h1;obtain⟨w,m',h1,l1,k1⟩:=h1;rw[h1];exact⟨w,m',rfl,hm.trans l1,sh hl k1⟩
  |ok t=>
   rw[e1]at h1;obtain⟨w,m1,h1,l1,k1⟩:=h1;rw[h1];simp only[Rz.bind,Rd.bind];cases t with
   |bl t=>
    rw[ah.mp k1];have fr:∀{ds:List Dat}{xs:List Wd},ae (Rf R m0.length) m ds xs->ae (Rf R m0.length) m1 ds xs:=λk=>ae.frame (λl o r z=>⟨r,l1 l o z⟩) _ _ k;cases t with
    |false=>exact jp hx0 hc he ds (i+1) k acc acx m1 (hm.trans l1) (fr q) hi' hk' (fr b) (f.up l1)
    |true=>
     have h2:=he _ m1 d x (λl z=>.inl z) (hm.trans l1) (ai.frame (λl o r z=>⟨r,l1 l o z⟩) _ _ p);have hl1:=(hm.trans l1).len;simp only;cases e2:ed d with
     |no=>trivial
     |exc k t=>rw[e2]at h2;obtain⟨w,m',h2,l2,k2⟩:=h2;rw[h2];exact⟨w,m',rfl,(hm.trans l1).trans l2,sh hl1 k2⟩
     |ok y=>
      rw[e2]at h2;have h3:=h2.sim;obtain⟨w,m2,B,h2,l2,k2,nd,hB⟩:=h2;obtain⟨w',m2',h3,_,k3⟩:=h3;rw[h2]at h3 ⊢;cases h3;simp only[Rz.bind,Rd.bind,b.len];split
      .refine jp hx0 hc he ds (i+1) k _ _ m2 ((hm.trans l1).trans l2) (ae.frame (λl o r z=>⟨r,l2 l o z⟩) _ _ (fr q)) hi' hk' ((ae.frame (λl o r z=>⟨r,l2 l o z⟩) _ _ (fr b)).app (.cons (sh hl1 k3) .nil)) ((f.up l1).push (hm.trans l1) l2 ?_ nd hB);intro z;rw[z]at k2;exact k2
      .trivial
   |_=>trivial
theorem jq (hg:mJ (Rf R m0.length) m0 ps g)(hc:∀(R':Nat->Prop) m p a b,(∀l,R l->R' l)->Le m0 m->ai R' m p.1 a->ai R' m p.2 b->ag R' m (c a b m) (cd p))(he:∀(R':Nat->Prop) m p a b,(∀l,R l->R' l)->Le m0 m->ai R' m p.1 a->ai R' m p.2 b->aL R' m lv (e a b m) (ed p)):
  ∀(ds:List (Dat×Dat)) (i k:Nat) (acc:List Dat) (acx:List Wd) (m:Me),Le m0 m->ds=ps.drop i->i+ds.length=ps.length->ds.length<k->ae (Rf R m0.length) m acc acx->cI m0 m lv acc acx->dr R m0 lv (xD c e g k i acx m) (yn cd ed ds acc)
 |[],i,0,acc,acx,m,hm,a,hi,hk,b,f=>by simp at hk
 |d::ds,i,0,acc,acx,m,hm,a,hi,hk,b,f=>by simp at hk
 |[],i,k+1,acc,acx,m,hm,a,hi,hk,b,f=>by
  unfold xD yn yO;rw[(hg m hm).2 i (by simp at hi;lia)];simp only;by_cases z:acc.length<=aq
  .rw[MN z];exact⟨acc,m,acx,rfl,z,rfl,hm,b,f⟩
  .rw[MO z];trivial
 |d::ds,i,k+1,acc,acx,m,hm,a,hi,hk,b,f=>by
  have hx:ps[i]?=some d:=by
   have:(ps.drop i)[0]?=some d:=by rw[<-a];rfl
   simpa using this
  have hr:ds=ps.drop (i+1):=by
   have:(ps.drop i).drop 1=ds:=by rw[<-a];rfl
   rw[<-this,WR]
  have hi':i+1+ds.length=ps.length:=by simp at hi;lia
  have hk':ds.length<k:=by simp at hk;lia
  obtain⟨u,v,e0,p,q⟩:=(hg m hm).1 i d hx;have hl:=hm.len;have sh:∀{n:Nat}{m':Me}{d:Dat}{w:Wd},m0.length<=n->ai (Rf (Rf R m0.length) n) m' d w->ai (Rf R m0.length) m' d w:=λhn k=>ai.frame (λl o r z=>⟨by rcases r with (r|r)|r;exact .inl r;exact .inr r;exact .inr (by lia),z⟩) _ _ k;unfold xD yn;rw[e0];simp only;have h1:=hc _ m d u v (λl z=>.inl z) hm p q;cases e1:cd d with
  |no=>trivial
  |exc k t=>rw[e1]at h1;obtain⟨w,m',h1,l1,k1⟩:=h1;rw[h1];exact⟨w,m',rfl,hm.trans l1,sh hl k1⟩
  |ok t=>
   rw[e1]at h1;obtain⟨w,m1,h1,l1,k1⟩:=h1;rw[h1];simp only[Rz.bind,Rd.bind];cases t with
   |bl t=>
    rw[ah.mp k1];have fr:∀{ds:List Dat}{xs:List Wd},ae (Rf R m0.length) m ds xs->ae (Rf R m0.length) m1 ds xs:=λk=>ae.frame (λl o r z=>⟨r,l1 l o z⟩) _ _ k;cases t with
    |false=>exact jq hg hc he ds (i+1) k acc acx m1 (hm.trans l1) hr hi' hk' (fr b) (f.up l1)
    |true=>
     have h2:=he _ m1 d u v (λl z=>.inl z) (hm.trans l1) (ai.frame (λl o r z=>⟨r,l1 l o z⟩) _ _ p) (ai.frame (λl o r z=>⟨r,l1 l o z⟩) _ _ q);have hl1:=(hm.trans l1).len;simp only;cases e2:ed d with
     |no=>trivial
     |exc k t=>rw[e2]at h2;obtain⟨w,m',h2,l2,k2⟩:=h2;rw[h2];exact⟨w,m',rfl,(hm.trans l1).trans l2,sh hl1 k2⟩
     |ok y=>
      rw[e2]at h2;have h3:=h2.sim;obtain⟨w,m2,B,h2,l2,k2,nd,hB⟩:=h2;obtain⟨w',m2',h3,_,k3⟩:=h3;rw[h2]at h3 ⊢;cases h3;simp only[Rz.bind,Rd.bind,b.len];split
      .refine jq hg hc he ds (i+1) k _ _ m2 ((hm.trans l1).trans l2) hr hi' hk' ((ae.frame (λl o r z=>⟨r,l2 l o z⟩) _ _ (fr b)).app (.cons (sh hl1 k3) .nil)) ((f.up l1).push (hm.trans l1) l2 ?_ nd hB);intro z;rw[z]at k2;exact k2
      .trivial
   |_=>trivial
def dr.sim (h:dr R m lv r rd)(hl:∀ds,lw (.lst ds)=if ds.all (λx=>lv x == .full)then .full else .top):aL R m lw r rd:=by
 cases rd with
 |no=>trivial
 |exc c d=>exact h
 |ok d=>
  obtain⟨out,m2,outx,rfl,hlen,rfl,l2,k2,own⟩:=h;have e:=k2.len;cases z:out.all (λx=>lv x == .full)with
  |true=>
   obtain⟨A,a,b,c⟩:=own λy hy=>by simpa using QF.mp z y hy
   have:=rY (R:=R) (lv:=lw) l2 a b c (by rw[hl,z];rfl) e;unfold yO at this;rw[MN hlen]at this;exact this
  |false=>
   unfold alloc;rw[<-e,MN hlen];have ll:=l2.len;refine⟨_,_,[m2.length],rfl,l2.trans (Le.app m2 _),?_,by simp,by simp;exact ll⟩;rw[hl,z];refine⟨out,_,outx,rfl,rfl,rfl,by simp,ae.frame (λl o r z=>⟨⟨r,?_⟩,Le.app m2 _ l o z⟩) out outx k2⟩;have:=(Qa.mp z).1;simp;lia
theorem xI(lev:Nat->Lv):∀(e:Ex) (d:Dat),ax d=true->aV lev e d=.full
 |.tup a,d,h=>xI lev a d h
 |.comp _ _ _,d,h=>MN h
 |.compP _ _ _ _ _,d,h=>MN h
 |.lst _,d,h=>MN h
 |.pair _ _,d,h=>MN h
 |.call _ _,d,h=>MN h
 |.blt b _,d,h=>by cases b<;>exact MN h
 |.lrng _,d,h=>MN h
 |.slH _ _,d,h=>MN h
 |.bin _ _ _,d,h=>MN h
 |.var _,d,h=>MN h
 |.lit _,d,h=>MN h
 |.neg _,d,h=>MN h
 |.not _,d,h=>MN h
 |.and _ _,d,h=>MN h
 |.or _ _,d,h=>MN h
 |.cmp _ _ _,d,h=>MN h
 |.chain _ _ _ _ _,d,h=>MN h
 |.ife _ _ _,d,h=>MN h
 |.unit,d,h=>MN h
 |.isi _ _,d,h=>MN h
 |.idx _ _,d,h=>MN h
 |.meth _ _ _,d,h=>MN h
 |.rng _ _ _,d,h=>MN h
def aL.newTop{R:Nat->Prop}{m0 m:Me}{ds:List Dat}{xs:List Wd}{lv:Dat->Lv}(hm:Le m0 m)(h:ae (Rf R m0.length) m ds xs)(hl:lv (.lst ds)=.top):aL R m0 lv (alloc m xs) (yO ds):=by
 unfold yO alloc;rw[h.len];by_cases z:xs.length<=aq
 .rw[MN z,MN z];refine⟨_,_,[m.length],rfl,hm.trans (Le.app m _),?_,by simp,by simp;exact hm.len⟩;rw[hl];refine⟨ds,_,xs,rfl,rfl,rfl,by simp,ae.frame (λl o r z=>⟨⟨r,?_⟩,Le.app m _ l o z⟩) ds xs h⟩;have:=(Qa.mp z).1;simp;lia
 .rw[MO z,MO z];exact aL.no
set_option tactic.hygienic true in
def EG{R:Nat->Prop}{m:Me}{d e:Dat}{x y:Wd}{lv:Dat->Lv}(op:Bo)(hl:∀d,lv d=if ax d then .full else match d with |.lst ds=>if ba ds then .full else .top|_=>.no)(a:ai R m d x)(b:ai R m e y):aL R m lv (cJ op x y m) (yY op d e):=by
 have hn:∀es,lv (.lst es)=if ba es then .full else .top:=λes=>by rw[hl];simp[ax]
 have hs:=ur op a b;cases d with
 |lst ds=>
  obtain⟨l,xs,rfl,_,hm,a1⟩:=au.mp a;cases e with
  |lst es=>
   obtain⟨l',ys,rfl,_,hk,b1⟩:=au.mp b;cases op<;>first|exact aL.no|skip
   simp only[cJ,yY,hm,hk];exact aL.new (a1.app b1) hn
  |int k=>
   rw[aa.mp b];cases op<;>first|exact aL.no|skip
   simp only[cJ,yY,hm];by_cases z:-(aq:Int)<=k/\k<=(aq:Int)
   .rw[MN z,MN z];exact aL.new (a1.rep _) hn
   .rw[MO z,MO z];exact aL.no
  |_=>exact aL.no
 |int i=>
  cases e with
  |int j=>
   have hi:∀r:Rd,ag R m (cJ op x y m) r->(∀d,r=.ok d->ax d=true)->aL R m lv (cJ op x y m) r:=by
    intro r h f;cases r with
    |ok d=>
     obtain⟨w,m',h,l,k⟩:=h;refine⟨w,m',[],h,l,?_,QB,by simp⟩;rw[hl,MN (f d rfl)];exact k.flat d w (f d rfl)
    |exc c d=>exact h
    |no=>trivial
   refine hi _ hs λd h=>?_;cases op<;>simp only[yY]at h
   .cases h;rfl
   .cases h;rfl
   all_goals (split at h<;>(cases h;try rfl))
  |_=>exact aL.no
 |tup ds=>
  obtain⟨xs,rfl,a1⟩:=aj.mp a;cases e with
  |tup es=>
   obtain⟨ys,rfl,b1⟩:=aj.mp b;cases op<;>first|exact aL.no|skip
   simp only[yY]at hs ⊢;split at hs
   .next z=>
    rw[MN z];obtain⟨w,m',h,l,k⟩:=hs;refine⟨w,m',[],h,l,?_,QB,by simp⟩;rw[hl];split
    .next f=>exact k.flat _ w f
    .exact ⟨ai.frame (λl o r z=>⟨⟨r,by simp⟩,z⟩) _ w k,rfl⟩
   .next z=>rw[MO z];exact aL.no
  |_=>exact aL.no
 |_=>exact aL.no
set_option tactic.hygienic true in
def Ei{R:Nat->Prop}{m:Me}{d:Dat}{x:Wd}{lv:Dat->Lv}(lo hi:Option Int)(hl:∀d,lv d=if ax d then .full else match d with |.lst ds=>if ba ds then .full else .top|_=>.no)(a:ai R m d x):aL R m lv (fu x lo hi m) (dK d lo hi):=by
 have hn:∀es,lv (.lst es)=if ba es then .full else .top:=λes=>by rw[hl];simp[ax]
 by_cases t:∃ds,d=.tup ds
 .obtain ⟨ds,rfl⟩:=t;have hs:=z8 lo hi a;simp only[dK]at hs ⊢;split at hs
  .next z=>rw[MN z];exact aL.no
  .next z=>
   rw[MO z];obtain⟨w,m',h,l,k⟩:=hs;refine⟨w,m',[],h,l,?_,QB,by simp⟩;rw[hl];split
   .next f=>exact k.flat _ w f
   .exact ⟨ai.frame (λl o r z=>⟨⟨r,by simp⟩,z⟩) _ w k,rfl⟩
 have t':∀ds,d≠.tup ds:=λds e=>t ⟨ds,e⟩;rw[tz (z9 a t'),Aa t'];cases z:cB d with
 |none=>exact aL.no
 |some ds=>
  obtain⟨xs,h,q⟩:=ls a z;simp only[h,q.len];exact aL.new ((q.drop _).take _) hn
set_option tactic.hygienic true in
theorem wL (H:br lev cl cd):∀(e:Ex) (R:Nat->Prop) (m:Me) (de:aO) (env:En),bN R m (zv e) de env->aL R m (aV lev e) (af cl e env m) (ao cd e de)
 |.call k a,R,m,de,env,q=>by
  have e:aV lev (.call k a)=wK lev k:=by funext d;simp[wK]
  rw[e];refine(zj H.r a R m de env q).bindO λd w m1 l1 k1=>?_;exact H k _ _ _ m1 (yZ k1)
 |.bin op a b,R,m,de,env,q=>by
  refine(zj H.r a R m de env q.left).bindO λd w m1 l1 k1=>?_;refine(zj H.r b _ m1 de env (q.right.up (λ_=>.inl) l1)).bindO λd2 w2 m2 l2 k2=>?_;exact EG op (λd=>by cases d<;>rfl) (k1.up _ l2) k2
 |.lrng a,R,m,de,env,q=>by
  refine(zj H.r a R m de env q).bindO λd w m1 l1 k1=>?_;cases d with
  |int j=>
   rw[aa.mp k1];simp only;split
   .exact aL.new (kP 1 _ 0) (λes=>by simp[ax])
   .exact aL.no
  |_=>exact aL.no
 |.slH a b,R,m,de,env,q=>by
  refine(zj H.r a R m de env q.left).bindO λd w m1 l1 k1=>?_;refine(zj H.r b _ m1 de env (q.right.up (λ_=>.inl) l1)).bindO λd2 w2 m2 l2 k2=>?_;cases d2 with
  |int i=>
   rw[aa.mp k2];exact Ei _ _ (λd=>by cases d<;>rfl) (k1.up m1.length l2)
  |_=>exact aL.no
 |.blt b a,R,m,de,env,q=>by
  by_cases hb:b=.list
  .subst hb;refine(zj H.r a R m de env q).bindO λd w m1 l1 k1=>?_;have k2:=yZ k1;simp only[yM];split
   .next x hx=>
    rw[hx]at k2;obtain⟨x',r,e0,p,q0⟩:=k2.cons_inv;rw[e0,q0.nil_inv];split
    .next z=>obtain⟨ys,h,q⟩:=vP p z;simp only[gY,h];exact aL.new q (λes=>by simp[ax])
    .exact aL.no
   .exact aL.no
  .exact (zj H.r (.blt b a) R m de env q).own λd=>by cases b<;>first|exact MP rfl hb|rfl
 |.lst a,R,m,de,env,q=>by
  have ih:=wL H a R m de env q;show aL R m _ ((af cl a env m).bind λx m1=>alloc m1 (zq x)) ((ao cd a de).bind λx=>yO (yg x));cases ea:ao cd a de with
  |no=>trivial
  |exc c d=>rw[ea]at ih;obtain⟨w,m',h,l,k⟩:=ih;rw[h];exact⟨w,m',rfl,l,k⟩
  |ok d=>
   rw[ea]at ih;have hs:=ih.sim;obtain⟨w,m1,A,h,l,k,nd,hA⟩:=ih;obtain⟨w',m1',h',_,ks⟩:=hs;rw[h]at h';cases h';rw[h];simp only[Rz.bind,Rd.bind];have ka:=yZ ks;cases z:aV lev a (.tup (yg d)) == .full with
   |false=>exact aL.newTop l ka (by simp[ax,z])
   |true=>
    have z':aV lev a (.tup (yg d))=.full:=by simpa using z
    have own:∃B,av m1 (yg d) (zq w) B/\B.Nodup/\∀b∈B,m.length<=b:=by
     cases d with
     |tup ds=>
      rw[show aV lev a (.tup ds)=.full from z']at k;obtain⟨xs,rfl,k1⟩:=bx.mp k;exact⟨A,k1,nd,hA⟩
     |_=>refine⟨[],?_,QB,by simp⟩;exact ka.flat _ _ rfl
    obtain⟨B,o,nb,hB⟩:=own;exact rY l o nb hB (by simp[ax,z]) ka.len
 |.tup a,R,m,de,env,q=>by
  have ih:=wL H a R m de env q;have el:aV lev (.tup a)=aV lev a:=by funext d;simp
  rw[el];show aL R m _ ((af cl a env m).bind λx m1=>if(zq x).length<=aq then .ok (.tup (zq x)) m1 else .no) ((ao cd a de).bind λx=>if(yg x).length<=aq then .ok (.tup (yg x))else .no);cases ea:ao cd a de with
  |no=>trivial
  |exc c d=>rw[ea]at ih;obtain⟨w,m',h,l,k⟩:=ih;rw[h];exact⟨w,m',rfl,l,k⟩
  |ok d=>
   rw[ea]at ih;have hs:=ih.sim;obtain⟨w,m1,A,h,l,k,nd,hA⟩:=ih;obtain⟨w',m1',h',_,ks⟩:=hs;rw[h]at h';cases h';rw[h];have ka:=yZ ks;simp only[Rz.bind,Rd.bind,ka.len];split
   .cases d with
    |tup ds=>
     obtain⟨xs,rfl,_⟩:=aj.mp ks;exact⟨_,m1,A,rfl,l,k,nd,hA⟩
    |_=>
     refine⟨_,m1,[],rfl,l,?_,QB,by simp⟩;rw[xI lev a _ (by rfl)];exact bx.mpr ⟨_,rfl,ka.flat _ _ rfl⟩
   .trivial
 |.pair a b,R,m,de,env,q=>by
  have iha:=wL H a R m de env q.left;show aL R m _ ((af cl a env m).bind λx m1=>(af cl b env m1).bind λy m2=>.ok (.tup (x::zq y)) m2) ((ao cd a de).bind λx=>(ao cd b de).bind λy=>.ok (.tup (x::yg y)));cases ea:ao cd a de with
  |no=>trivial
  |exc c d=>rw[ea]at iha;obtain⟨w,m',h,l,k⟩:=iha;rw[h];exact⟨w,m',rfl,l,k⟩
  |ok d=>
   rw[ea]at iha;have hs:=iha.sim;obtain⟨w,m1,A,h,l,k,nd,hA⟩:=iha;obtain⟨w',m1',h',_,ks⟩:=hs;rw[h]at h';cases h';rw[h];simp only[Rz.bind,Rd.bind];have ihb:=wL H b _ m1 de env (q.right.up (R':=Rf R m.length) (λ_=>.inl) l);cases eb:ao cd b de with
   |no=>trivial
   |exc c d=>rw[eb]at ihb;obtain⟨w,m',h,l2,k⟩:=ihb;rw[h];exact ag.lift (rd:=.exc c d) l ⟨w,m',rfl,l2,k⟩
   |ok d2=>
    rw[eb]at ihb;have hs2:=ihb.sim;obtain⟨w2,m2,A2,h2,l2,k2,nd2,hA2⟩:=ihb;obtain⟨w2',m2',h2',_,ks2⟩:=hs2;rw[h2]at h2';cases h2';rw[h2];simp only;have ka:=yZ ks2;have hl1:=l.len;cases z:(aV lev a d == .full&&aV lev b (.tup (yg d2)) == .full)with
    |false=>
     have:ag R m (.ok (.tup (w::zq w2)) m2) (.ok (.tup (d::yg d2))):=
      ag.lift l (ag.lift l2 (dy (aj.mpr ⟨_,rfl,.cons (ks.up _ l2) ka⟩)))
     obtain⟨w3,m3,h3,l3,k3⟩:=this;refine⟨w3,m3,[],h3,l3,?_,QB,by simp⟩;by_cases f:ax (.tup (d::yg d2))=true
     .rw[xI lev _ _ f];exact k3.flat _ w3 f
     .have:aV lev (.pair a b) (.tup (d::yg d2))=.no:=by
       rw[zk,MO f];simp only[z];rfl
      rw[this];exact⟨ai.frame (λl o r z=>⟨⟨r,by simp⟩,z⟩) _ w3 k3,rfl⟩
    |true=>
     rw[Qj]at z;have z1:aV lev a d=.full:=by simpa using z.1
     have z2:aV lev b (.tup (yg d2))=.full:=by simpa using z.2
     rw[z1]at k;have own:∃B,av m2 (yg d2) (zq w2) B/\B.Nodup/\∀b∈B,m1.length<=b:=by
      cases d2 with
      |tup ds=>
       rw[show aV lev b (.tup ds)=.full from z2]at k2;obtain⟨xs,rfl,k3⟩:=bx.mp k2;exact⟨A2,k3,nd2,hA2⟩
      |_=>refine⟨[],?_,QB,by simp⟩;exact ka.flat _ _ rfl
     obtain⟨B,o,nb,hB⟩:=own;refine⟨_,m2,A++B,rfl,l.trans l2,?_,?_,?_⟩
     .have:aV lev (.pair a b) (.tup (d::yg d2))=.full:=by
       rw[zk];simp only[z1,z2];simp
      rw[this];exact bx.mpr ⟨_,rfl,.cons (bh.frame d w A (λx _ o q=>l2 x o q) k) o⟩
     .refine Qt.mpr ⟨nd,nb,λx hx y hy e=>?_⟩;have:=bh.lt d w A k x hx;have:=hB y hy;lia
     .intro x hx;rcases Qz.mp hx with hx|hx
      .exact hA x hx
      .have:=hB x hx;lia
 |.comp elt it cond,R,m,de,env,q=>by
  refine(zj H.r it R m de env q.left).bindO λd w m1 l1 k1=>?_;have hc:∀(R':Nat->Prop) m' d x,(∀l,Rf R m.length l->R' l)->Le m1 m'->ai R' m' d x->ag R' m' (af cl cond (env++[some x]) m') (ao cd cond (de++[some d])):=
   λR' m' d x hR l k=>zj H.r cond R' m' _ _ ((q.right.right.up (λl h=>hR l (.inl h)) (l1.trans l)).push k)
  have he:∀(R':Nat->Prop) m' d x,(∀l,Rf R m.length l->R' l)->Le m1 m'->ai R' m' d x->aL R' m' (aV lev elt) (af cl elt (env++[some x]) m') (ao cd elt (de++[some d])):=
   λR' m' d x hR l k=>wL H elt R' m' _ _ ((q.right.left.up (λl h=>hR l (.inl h)) (l1.trans l)).push k)
  have hl:∀ds,aV lev (.comp elt it cond) (.lst ds)=if ds.all (λx=>aV lev elt x == .full)then .full else .top:=λds=>by simp[ax]
  have acc0:cI m1 m1 (aV lev elt) [] []:=λ_=>⟨[],.nil,QB,by simp⟩;cases d with
  |tup ds=>
   obtain⟨xs,rfl,k2⟩:=aj.mp k1;exact(vR hc he ds xs [] [] m1 (Le.refl _) (k2.up _ (Le.refl _)) .nil acc0).sim hl
  |scr ns=>
   rw[aY.mp k1];exact(vR hc he (ns.map .int) (ns.map .int) [] [] m1 (Le.refl _) (dI ns) .nil acc0).sim hl
  |lst ds=>
   obtain⟨l,xs,rfl,_,hm,k2⟩:=au.mp k1;simp only[cL];by_cases z:ds.length<=aq
   .rw[MN z];have hl':=k2.len;exact(jp hm hc he ds 0 (aq+1) [] [] m1 (Le.refl _) (by simpa using (k2.up _ (Le.refl _))) (by lia) (by lia) .nil acc0).sim hl
   .rw[MO z];exact aL.no
  |_=>exact aL.no
 |.compP k elt a b cond,R,m,de,env,q=>by
  refine(zj H.r a R m de env q.left).bindO λd w m1 l1 k1=>?_;refine(zj H.r b _ m1 de env (q.right.left.up (λl h=>.inl h) l1)).bindO λd' w' m2 l2 k2=>?_;have hc:∀(R':Nat->Prop) m' (p:Dat×Dat) x y,(∀l,Rf (Rf R m.length) m1.length l->R' l)->Le m2 m'->ai R' m' p.1 x->ai R' m' p.2 y->ag R' m' (af cl cond (env++[some x]++[some y]) m') (ao cd cond (de++[some p.1]++[some p.2])):=
   λR' m' d x y hR l k k'=>zj H.r cond R' m' _ _ (((q.right.right.right.up (λl h=>hR l (.inl (.inl h))) ((l1.trans l2).trans l)).push k).push k')
  have he:∀(R':Nat->Prop) m' (p:Dat×Dat) x y,(∀l,Rf (Rf R m.length) m1.length l->R' l)->Le m2 m'->ai R' m' p.1 x->ai R' m' p.2 y->aL R' m' (aV lev elt) (af cl elt (env++[some x]++[some y]) m') (ao cd elt (de++[some p.1]++[some p.2])):=
   λR' m' d x y hR l k k'=>wL H elt R' m' _ _ (((q.right.right.left.up (λl h=>hR l (.inl (.inl h))) ((l1.trans l2).trans l)).push k).push k')
  have hl:∀ds,aV lev (.compP k elt a b cond) (.lst ds)=if ds.all (λx=>aV lev elt x == .full)then .full else .top:=λds=>by simp[ax]
  have acc0:cI m2 m2 (aV lev elt) [] []:=λ_=>⟨[],.nil,QB,by simp⟩;cases e:wJ k d d' with
  |none=>exact aL.no
  |some ps=>
   obtain⟨pr,hln⟩:=qy e ((k1.up _ l2).up m2.length (Le.refl _)) (k2.up m2.length (Le.refl _));exact(jq pr hc he ps 0 (aq+1) [] [] m2 (Le.refl _) (by simp) (by simp) (by lia) .nil acc0).sim hl
 |.var i,R,m,de,env,q=>(zj H.r _ R m de env q).own λd=>rfl
 |.lit w,R,m,de,env,q=>(zj H.r _ R m de env q).own λd=>rfl
 |.neg a,R,m,de,env,q=>(zj H.r _ R m de env q).own λd=>rfl
 |.not a,R,m,de,env,q=>(zj H.r _ R m de env q).own λd=>rfl
 |.and a b,R,m,de,env,q=>(zj H.r _ R m de env q).own λd=>rfl
 |.or a b,R,m,de,env,q=>(zj H.r _ R m de env q).own λd=>rfl
 |.cmp op a b,R,m,de,env,q=>(zj H.r _ R m de env q).own λd=>rfl
 |.chain o p a b c,R,m,de,env,q=>(zj H.r _ R m de env q).own λd=>rfl
 |.ife c a b,R,m,de,env,q=>(zj H.r _ R m de env q).own λd=>rfl
 |.unit,R,m,de,env,q=>(zj H.r _ R m de env q).own λd=>rfl
 |.isi t a,R,m,de,env,q=>(zj H.r _ R m de env q).own λd=>rfl
 |.idx a b,R,m,de,env,q=>(zj H.r _ R m de env q).own λd=>rfl
 |.meth _ _ _,R,m,de,env,q=>(zj H.r _ R m de env q).own λd=>rfl
 |.rng a b c,R,m,de,env,q=>(zj H.r _ R m de env q).own λd=>rfl
set_option genInjectivity false in
inductive bQ where
 |next (de:aO) (lv:List Lv)|ret (d:Dat) (l:Lv)|brk (de:aO) (lv:List Lv)|cont (de:aO) (lv:List Lv)|exc (c:Nat) (d:Dat)|no
deriving Inhabited
noncomputable def Rd.bindS(r:Rd)(f:Dat->bQ):bQ:=match r with
 |.ok d=>f d
 |.exc c d=>.exc c d
 |.no=>.no
noncomputable def Rd.okS(r:Rd)(f:Dat->bQ):bQ:=match r with
 |.ok d=>f d
 |_=>.no
noncomputable def bb:List Nat->List Lv->List Lv
 |[],lv=>lv
 |i::vs,lv=>bb vs (lv.set i .no)
noncomputable def cg(de:aO)(j:Nat)(lv:List Lv):List Lv:=match de[j]?,lv[j]? with
 |some (some (.lst _)),some .full=>lv.set j .top
 |some (some (.lst _)),some .top=>lv.set j .top
 |_,_=>lv.set j .no
noncomputable def wg(e:Ex)(de:aO)(lv:List Lv):List Lv:=match e with
 |.idx (.var j) b=>cg de j (bb (zv b) lv)
 |e=>bb (zv e) lv
mutual
noncomputable def dY:Dat->Nat
 |.lst xs=>du xs+1
 |.tup xs=>du xs+1
 |.non=>0
 |.bl _=>0
 |.int _=>0
 |.str _=>0
 |.scr _=>0
noncomputable def du:List Dat->Nat
 |[]=>0
 |d::ds=>max (dY d) (du ds)
end
noncomputable def yo(lv:List Lv)(j:Nat):Bool:=match lv[j]? with
 |some .top=>true
 |some .full=>true
 |_=>false
noncomputable def wl(lev:Nat->Lv)(e:Ex)(d:Dat)(j:Nat)(de:aO)(lv:List Lv):Option (aO×List Lv):=
 if yo lv j=false then none
 else if aV lev e d=.full then some (de,lv)
 else if j∈zv e then none
 else match e with
  |.var i=>if lv[i]?=some .full/\lv[j]?=some .full then some (de.set i none,lv)else some (de,(bb [i] lv).set j .top)
  |e=>some (de,(wg e de lv).set j .top)
noncomputable def yB{α:Type}(body:α->aO->List Lv->bQ):List α->aO->List Lv->bQ
 |[],de,lv=>.next de lv
 |x::xs,de,lv=>match body x de lv with
  |.next d1 l1=>yB body xs d1 l1
  |.cont d1 l1=>yB body xs d1 l1
  |.brk d1 l1=>.next d1 l1
  |r=>r
noncomputable def wY(c:aO->Rd)(body:aO->List Lv->bQ):Nat->aO->List Lv->bQ
 |0,_,_=>.no
 |k+1,de,lv=>match c de with
  |.ok (.bl true)=>match body de lv with
   |.next d1 l1=>wY c body k d1 l1
   |.cont d1 l1=>wY c body k d1 l1
   |.brk d1 l1=>.next d1 l1
   |r=>r
  |.ok (.bl false)=>.next de lv
  |.exc c d=>.exc c d
  |_=>.no
noncomputable def bo(d:Dat):Lv:=if ax d then .full else .no
noncomputable def bO(lev:Nat->Lv)(e:Ex)(d:Dat)(lv:List Lv):Lv:=if ax d then .full else match e with
 |.var i=>(lv[i]?).getD .no
 |.tup (.pair (.var a) (.pair (.var b) .unit))=>if a≠b/\lv[a]?=some .full/\lv[b]?=some .full then .full else .no
 |e=>aV lev e d
noncomputable def xJ(de:aO)(j:Nat):Option (List Dat):=match de[j]? with
 |some (some (.lst ds))=>some ds
 |_=>none
noncomputable def jr(lev:Nat->Lv)(i:Nat)(e:Ex)(d:Dat)(de:aO)(lv:List Lv):bQ:=
 if aV lev e d=.full then .next (de.set i (some d)) (lv.set i .full)else .next (de.set i (some d)) ((wg e de lv).set i (aV lev e d))
noncomputable def sv(lev:Nat->Lv)(j:Nat)(k:Dat)(e:Ex)(d:Dat)(de:aO)(lv:List Lv):bQ:=match k,xJ de j with
 |.int k,some ds=>match ix ds.length k with
  |some p=>match wl lev e d j de lv with
   |some (de1,lv1)=>.next (de1.set j (some (.lst (ds.set p d)))) lv1
   |none=>if yo lv j&&decide (dY d<dY (.lst ds))&&(ax d==false)then .next (de.set j (some (.lst (ds.set p d)))) ((bb (zv e) lv).set j .top)else .no
  |none=>.no
 |_,_=>.no
noncomputable def fZ(j:Nat)(r:Dat)(de:aO)(lv:List Lv)(f:List Dat->Option (List Dat)):Option aO:=match r,xJ de j with
 |.int k,some ds=>match (ix ds.length k).bind λp=>(ds[p]?).bind λd=>match d with
   |.lst es=>(f es).map λes1=>ds.set p (.lst es1)
   |_=>none with
  |some ds1=>if lv[j]?=some .full then some (de.set j (some (.lst ds1)))else none
  |none=>none
 |_,_=>none
noncomputable def lJ(o:Option aO)(lv:List Lv):bQ:=match o with
 |some de=>.next de lv
 |none=>.no
noncomputable def lg(k d:Dat)(es:List Dat):Option (List Dat):=match k with
 |.int k=>(ix es.length k).map λp=>es.set p d
 |_=>none
noncomputable def yP(_ _:Sm):Option Unit:=none
noncomputable def iw(lev:Nat->Lv)(cl:Nat->List Dat->Rd)(e:Ex)(de:aO)(lv:List Lv):bQ:=match e with
  |.meth .append (.var j) (.pair e .unit)=>(ao cl e de).okS λd=>match xJ de j with
   |some ds=>if ds.length<aq then match wl lev e d j de lv with
    |some (de1,lv1)=>.next (de1.set j (some (.lst (ds++[d])))) lv1
    |none=>.no
    else .no
   |none=>.no
  |.meth .append (.idx (.var j) r) (.pair e .unit)=>(ao cl r de).okS λr=>(ao cl e de).okS λd=>if aV lev e d=.full then lJ (fZ j r de lv λes=>if es.length<aq then some (es++[d])else none) lv else .no
  |.meth .insert (.var j) (.pair (.lit (.int 0)) (.pair e .unit))=>(ao cl e de).okS λd=>match xJ de j with
   |some ds=>if ds.length<aq then match wl lev e d j de lv with
    |some (de1,lv1)=>.next (de1.set j (some (.lst (d::ds)))) lv1
    |none=>.no
    else .no
   |none=>.no
  |.meth .reverse (.var j) .unit=>match xJ de j with
   |some ds=>if yo lv j then .next (de.set j (some (.lst ds.reverse))) lv else .no
   |none=>.no
  |.meth .pop (.var j) .unit=>match xJ de j with
   |some ds=>if yo lv j&&decide (ds.length≠0)then .next (de.set j (some (.lst ds.dropLast))) lv else .no
   |none=>.no
  |.meth _ _ _=>.no
  |e=>(ao cl e de).bindS λ_=>.next de lv
noncomputable def aG(lev:Nat->Lv)(cl:Nat->List Dat->Rd):Sm->aO->List Lv->bQ
 |.skip,de,lv=>.next de lv
 |.seq a b,de,lv=>match aG lev cl a de lv with
  |.next d1 l1=>aG lev cl b d1 l1
  |r=>r
 |.asg i e,de,lv=>(ao cl e de).bindS λd=>jr lev i e d de lv
 |.asgS o k e,de,lv=>match o with
  |.var j=>(ao cl e de).okS λd=>(ao cl k de).okS λk=>sv lev j k e d de lv
  |.idx (.var j) r=>(ao cl e de).okS λd=>(ao cl r de).okS λr=>(ao cl k de).okS λk=>
    if aV lev e d=.full then lJ (fZ j r de lv (lg k d)) lv
    else if j∈zv e then .no else lJ (fZ j r de lv (lg k d)) ((wg e de lv).set j .top)
  |_=>.no
 |.ite c a b,de,lv=>(ao cl c de).bindS λx=>match x with
  |.bl true=>aG lev cl a de lv
  |.bl false=>aG lev cl b de lv
  |_=>.no
 |.forv i it body,de,lv=>(ao cl it de).bindS λd=>match cL d with
  |some xs=>yB (λx de lv=>aG lev cl body (de.set i (some x)) (lv.set i (bo x))) xs de (if ax d then lv else wg it de lv)
  |none=>.no
 |.fort i j it body,de,lv=>(ao cl it de).bindS λd=>match cL d with
  |some xs=>yB (λx de lv=>match x with
    |.tup [a,b]=>aG lev cl body ((de.set i (some a)).set j (some b)) ((lv.set i (bo a)).set j (bo b))
    |_=>.no) xs de (if ax d then lv else wg it de lv)
  |none=>.no
 |.while c body,de,lv=>wY (ao cl c) (aG lev cl body) 1000000 de lv
 |.ret e,de,lv=>(ao cl e de).bindS λd=>.ret d (bO lev e d lv)
 |.expr e,de,lv=>iw lev cl e de lv
 |.appPop j a x e,de,lv=>match xJ de x,de[a]?,xJ de j with
  |some (.int v::r),some (some (.int low)),some ds=>(ao cl e (de.set x (some (.lst r)))).okS λd=>match d with
   |.int k=>if j≠x/\a≠x/\yo lv j=true/\yo lv x=true/\0<k/\ds.length<aq then .next ((de.set x (some (.lst r))).set j (some (.lst (ds++[.int (low+v%k)])))) lv else .no
   |_=>.no
  |_,_,_=>.no
 |.for3 _ _ _ _ _,_,_=>.no
 |.never,_,_=>.no
def u9{lev:Nat->Lv}{cl:Nat->List Dat->Rd}{a b:Sm}{de:aO}{lv:List Lv}:aG lev cl (.seq a b) de lv=match aG lev cl a de lv with
  |.next d1 l1=>aG lev cl b d1 l1
  |r=>r:=rfl
noncomputable def zT(fn:Fn)(ds:List Dat):aO:=ds.map some++Qv (fn.sz-ds.length) none
noncomputable def zP(fn:Fn)(ds:List Dat):List Lv:=ds.map bo++Qv (fn.sz-ds.length) .full
noncomputable def jO:Lv->Lv->Bool
 |_,.no=>true
 |.full,.full=>true
 |.top,.top=>true
 |_,_=>false
noncomputable def zG(l:Lv):bQ->Rd
 |.next _ _=>.ok .non
 |.ret d k=>if ax d || jO k l then .ok d else .no
 |.exc c d=>.exc c d
 |_=>.no
noncomputable def zw(lev:Nat->Lv)(cl:Nat->List Dat->Rd)(k:Nat)(fn:Fn)(ds:List Dat):Rd:=
 if ds.length=fn.ar then zG (lev k) (aG lev cl fn.body (zT fn ds) (zP fn ds))else .no
noncomputable def qz(lev:Nat->Lv)(T:List Fn):Nat->Nat->List Dat->Rd
 |0,_,_=>.no
 |d+1,k,ds=>match T[k]? with
  |some fn=>zw lev (qz lev T d) k fn ds
  |none=>.no
noncomputable def xg(RR:Nat->Prop)(A:Nat->List Nat):Nat->Prop:=λl=>RR l/\∀i,l∉A i
structure Inv(lo:Nat)(RR:Nat->Prop)(m:Me)(de:aO)(lv:List Lv)(env:En)(A:Nat->List Nat):Prop where
 len:de.length=env.length
 lvl:lv.length=de.length
 rr:∀l,lo<=l->RR l
 lom:lo<=m.length
 slot:∀i d l,de[i]?=some (some d)->lv[i]?=some l->∃w,env[i]?=some (some w)/\bJ (xg RR A) m l d w (A i)
 nd:∀i,(A i).Nodup
 dj:∀i j a,a∈A i->a∈A j->i=j
 bd:∀i a,a∈A i->lo<=a/\a<m.length
noncomputable def bj(A:Nat->List Nat)(m:Me)(A':Nat->List Nat)(m':Me):Prop:=(∀(l:Nat) o,(∀i,l∉A i)->m[l]?=some o->(∀i,l∉A' i)/\m'[l]?=some o)/\m.length<=m'.length
def bj.refl(A:Nat->List Nat)(m:Me):bj A m A m:=⟨λ_ _ h k=>⟨h,k⟩,Qk _⟩
def bj.trans{A B C:Nat->List Nat}{m m1 m2:Me}(h:bj A m B m1)(k:bj B m1 C m2):bj A m C m2:=
 ⟨λl o a b=>k.1 l o (h.1 l o a b).1 (h.1 l o a b).2,Qp h.2 k.2⟩
def bj.rep (h:bj A m A' m')(q:ai (xg RR A) m d w):ai (xg RR A') m' d w:=
 ai.frame (λl o r z=>⟨⟨r.1,(h.1 l o r.2 z).1⟩,(h.1 l o r.2 z).2⟩) d w q
def bj.repL (h:bj A m A' m')(q:ae (xg RR A) m d w):ae (xg RR A') m' d w:=
 ae.frame (λl o r z=>⟨⟨r.1,(h.1 l o r.2 z).1⟩,(h.1 l o r.2 z).2⟩) d w q
def Inv.getlv (I:Inv lo RR m de lv env A){i:Nat}(h:de[i]?=some o):∃l,lv[i]?=some l:=by
 obtain⟨hi,_⟩:=Qa.mp h;exact⟨_,Qc (by rw[I.lvl];exact hi)⟩
def Inv.envR (I:Inv lo RR m de lv env A)(vs:List Nat):bN RR m vs de env:=
 ⟨I.len,λi _ d h=>by
  obtain⟨l,hl⟩:=I.getlv h;obtain⟨w,a,b⟩:=I.slot i d l h hl;exact⟨w,a,b.rep (λ_ z=>z.1) (λa ha=>I.rr a (I.bd i a ha).1)⟩⟩
def Inv.ext{lo:Nat}{RR:Nat->Prop}{m m':Me}{de:aO}{lv:List Lv}{env:En}{A:Nat->List Nat}(I:Inv lo RR m de lv env A)(h:Le m m'):Inv lo RR m' de lv env A:=
 ⟨I.len,I.lvl,I.rr,Qp I.lom h.len,λi d l a b=>by
  obtain⟨w,p,q⟩:=I.slot i d l a b;exact⟨w,p,q.frame (λl o r z=>⟨r,h l o z⟩) (λl _ o z=>h l o z)⟩,I.nd,I.dj,λi a ha=>⟨(I.bd i a ha).1,Qh (I.bd i a ha).2 h.len⟩⟩
def kR (h:Le m m'):bj A m A m':=⟨λl o a b=>⟨a,h l o b⟩,h.len⟩
noncomputable def aJ(A:Nat->List Nat)(i:Nat)(B:List Nat):Nat->List Nat:=λk=>if k=i then B else A k
def zn:aJ A i B i=B:=by simp[aJ]
def zi (h:k≠i):aJ A i B k=A k:=by simp[aJ,h]
set_option tactic.hygienic true in
def Inv.store{lo:Nat}{RR:Nat->Prop}{m m':Me}{de:aO}{lv:List Lv}{env:En}{A:Nat->List Nat}(I:Inv lo RR m de lv env A)(h:Le m m')(i:Nat){d:Dat}{l:Lv}{w:Wd}{B:List Nat}
  (q:bJ (λl=>(xg RR A l\/m.length<=l)/\l∉B) m' l d w B) (nd:B.Nodup) (hB:∀b∈B,m.length<=b) :
  Inv lo RR m' (de.set i (some d)) (lv.set i l) (env.set i (some w)) (aJ A i B)/\bj A m (aJ A i B) m':=by
 have hlt:=q.lt;have fr:∀(x:Nat) (o:Ob),(∀k,x∉A k)->m[x]?=some o->∀k,x∉aJ A i B k:=by
  intro x o hx hm k;by_cases e:k=i
  .subst e;rw[zn];intro hb;have:=hB x hb;have:=(Qa.mp hm).1;lia
  .rw[zi e];exact hx k
 refine⟨⟨by simp[I.len],by simp[I.lvl],I.rr,Qp I.lom h.len,?_,?_,?_,?_⟩,⟨λx o hx hm=>⟨fr x o hx hm,h x o hm⟩,h.len⟩⟩
 .intro k e l' h1 h2;by_cases z:k=i
  .rw[z]at h1 h2 ⊢;rw[Qy]at h1 h2;rw[MN rfl]at h1 h2;split at h1
   .split at h2
    .next q1 q2=>
     cases h1;cases h2;refine⟨w,by rw[Qy,MN rfl,MN (by rw[<-I.len];exact q1)],?_⟩;rw[zn];refine q.frame (λx o r hm=>⟨⟨?_,λk=>?_⟩,hm⟩) (λ_ _ _ z=>z)
     .rcases r.1 with r1|r1
      .exact r1.1
      .exact I.rr x (Qp I.lom r1)
     .by_cases e:k=i
      .subst e;rw[zn];exact r.2
      .rw[zi e];rcases r.1 with r1|r1
       .exact r1.2 k
       .intro ha;have:=(I.bd k x ha).2;lia
    .cases h2
   .cases h1
  .rw[Qg (Ne.symm z)]at h1 h2;obtain⟨w',a,b⟩:=I.slot k e l' h1 h2;refine⟨w',by rw[Qg (Ne.symm z)];exact a,?_⟩;rw[zi z];exact b.frame (λx o r hm=>⟨⟨r.1,fr x o r.2 hm⟩,h x o hm⟩) (λx _ o hm=>h x o hm)
 .intro k;by_cases e:k=i
  .subst e;rw[zn];exact nd
  .rw[zi e];exact I.nd k
 .intro k j a ha hb;by_cases e:k=i
  .subst e;rw[zn]at ha;by_cases f:j=k
   .exact f.symm
   .rw[zi f]at hb;have:=hB a ha;have:=(I.bd j a hb).2;lia
  .rw[zi e]at ha;by_cases f:j=i
   .subst f;rw[zn]at hb;have:=hB a hb;have:=(I.bd k a ha).2;lia
   .rw[zi f]at hb;exact I.dj k j a ha hb
 .intro k a ha;by_cases e:k=i
  .subst e;rw[zn]at ha;exact⟨Qp I.lom (hB a ha),hlt a ha⟩
  .rw[zi e]at ha;exact⟨(I.bd k a ha).1,Qh (I.bd k a ha).2 h.len⟩
def Inv.weak{lo:Nat}{RR:Nat->Prop}{m:Me}{de:aO}{lv:List Lv}{env:En}{A:Nat->List Nat}(I:Inv lo RR m de lv env A)(i:Nat){l:Lv}{B:List Nat}
  (hB:∀b∈B,b∈A i) (nd:B.Nodup) (q:∀d w,de[i]?=some (some d)->env[i]?=some (some w)->bJ (xg RR (aJ A i B)) m l d w B) :
  Inv lo RR m de (lv.set i l) env (aJ A i B)/\bj A m (aJ A i B) m:=by
 have fr:∀x,(∀k,x∉A k)->∀k,x∉aJ A i B k:=by
  intro x hx k;by_cases e:k=i
  .subst e;rw[zn];intro hb;exact hx _ (hB x hb)
  .rw[zi e];exact hx k
 have sub:∀k a,a∈aJ A i B k->a∈A k:=by
  intro k a ha;by_cases e:k=i
  .subst e;rw[zn]at ha;exact hB a ha
  .rw[zi e]at ha;exact ha
 refine⟨⟨I.len,by simp[I.lvl],I.rr,I.lom,?_,?_,λk j a ha hb=>I.dj k j a (sub k a ha) (sub j a hb),λk a ha=>I.bd k a (sub k a ha)⟩,⟨λx o hx hm=>⟨fr x hx,hm⟩,Qk _⟩⟩
 .intro k e l' h1 h2;by_cases z:k=i
  .subst z;rw[Qy,MN rfl]at h2;split at h2
   .cases h2;obtain⟨l0,hl0⟩:=I.getlv h1;obtain⟨w,a,_⟩:=I.slot k e l0 h1 hl0;refine⟨w,a,?_⟩;rw[zn];exact q e w h1 a
   .cases h2
  .rw[Qg (Ne.symm z)]at h2;obtain⟨w',a,b⟩:=I.slot k e l' h1 h2;refine⟨w',a,?_⟩;rw[zi z];exact b.frame (λx o r hm=>⟨⟨r.1,fr x r.2⟩,hm⟩) (λx _ o hm=>hm)
 .intro k;by_cases e:k=i
  .subst e;rw[zn];exact nd
  .rw[zi e];exact I.nd k
def Inv.down{lo:Nat}{RR:Nat->Prop}{m:Me}{de:aO}{lv:List Lv}{env:En}{A:Nat->List Nat}(I:Inv lo RR m de lv env A)(i:Nat):
  Inv lo RR m de (lv.set i .no) env (aJ A i [])/\bj A m (aJ A i []) m:=by
 refine I.weak i (by simp) QB λd w h1 h2=>⟨?_,rfl⟩;obtain⟨l,hl⟩:=I.getlv h1;obtain⟨w',a,b⟩:=I.slot i d l h1 hl;rw[h2]at a;cases a;refine b.rep (λx r=>⟨r.1,λk=>?_⟩) (λx hx=>⟨I.rr x (I.bd i x hx).1,λk=>?_⟩)
 .by_cases e:k=i
  .subst e;rw[zn];simp
  .rw[zi e];exact r.2 k
 .by_cases e:k=i
  .subst e;rw[zn];simp
  .rw[zi e];intro ha;exact e (I.dj k i x ha hx)
theorem xu:∀(vs:List Nat) (lv:List Lv) (k:Nat),(bb vs lv)[k]?=if k∈vs/\k<lv.length then some .no else lv[k]?
 |[],lv,k=>by simp[bb]
 |i::vs,lv,k=>by
  unfold bb;rw[xu vs (lv.set i .no) k];rw[Wp,Qy];by_cases a:k∈vs/\k<lv.length
  .rw[MN a,MN ⟨Ql _ a.1,a.2⟩]
  .rw[MO a];by_cases e:i=k
   .subst e;by_cases b:i<lv.length
    .simp[b]
    .simp[b]
   .rw[MO e];by_cases c:k∈vs
    .have:¬k<lv.length:=λz=>a ⟨c,z⟩;rw[MO (λz=>this z.2)]
    .rw[MO (λz=>by rcases Qr.mp z.1 with z1|z1;exact e z1.symm;exact c z1)]
theorem Inv.downs:∀(vs:List Nat) {lv:List Lv}{A:Nat->List Nat},Inv lo RR m de lv env A ->
  ∃A',Inv lo RR m de (bb vs lv) env A'/\bj A m A' m/\(∀i∈vs,A' i=[])/\(∀i,A' i=A i\/A' i=[])/\∀i,i∉vs->A' i=A i
 |[],lv,A,I=>⟨A,I,bj.refl A m,by simp,λi=>.inl rfl,λ_ _=>rfl⟩
 |j::vs,lv,A,I=>by
  obtain⟨I1,K1⟩:=I.down j;obtain⟨A',I2,K2,h1,h2,h3⟩:=Inv.downs vs I1;refine⟨A',I2,K1.trans K2,λi hi=>?_,λi=>?_,λi hi=>?_⟩
  .by_cases q:i∈vs
   .exact h1 i q
   .rw[h3 i q];rcases Qr.mp hi with rfl|hi
    .exact zn
    .exact MP hi q
  .rcases h2 i with z|z
   .rw[z];by_cases e:i=j
    .subst e;right;exact zn
    .left;exact zi e
   .exact .inr z
  .have:i≠j:=λe=>hi (by rw[e];simp);rw[h3 i (λz=>hi (Ql _ z)),zi this]
theorem Inv.top (I:Inv lo RR m de lv env A)(j:Nat)(hd:de[j]?=some (some (.lst ds)))(hj:yo lv j=true):
  ∃l xs A',Inv lo RR m de (lv.set j .top) env A'/\bj A m A' m/\A' j=[l]/\(∀i,i≠j->A' i=A i)/\env[j]?=some (some (.ref l))/\m[l]?=some (.lst xs)/\ae (xg RR A') m ds xs/\l∈A j:=by
 unfold yo at hj;obtain⟨lj,hl⟩:=I.getlv hd;obtain⟨w,a,b⟩:=I.slot j _ lj hd hl;rw[hl]at hj;have key:∃l xs,w=.ref l/\l∈A j/\m[l]?=some (.lst xs)/\ae (xg RR (aJ A j [l])) m ds xs:=by
  cases lj with
  |no=>simp at hj
  |top=>
   obtain⟨es,l,xs,e,rfl,hA,hm,r⟩:=b;cases e;refine⟨l,xs,rfl,by rw[hA];simp,hm,ae.frame (λx o r z=>⟨⟨r.1,λk=>?_⟩,z⟩) _ _ r⟩;by_cases e:k=j
   .subst e;rw[zn,<-hA];exact r.2 k
   .rw[zi e];exact r.2 k
  |full=>
   obtain⟨l,xs,B,rfl,hA,hm,r⟩:=aZ.mp b;refine⟨l,xs,rfl,by rw[hA];simp,hm,av.rep ds xs B (λx hx=>⟨I.rr x (I.bd j x (by rw[hA];exact Ql _ hx)).1,λk=>?_⟩) r⟩;have nd:=I.nd j;rw[hA]at nd;by_cases e:k=j
   .subst e;rw[zn];intro z;rw[QN.mp z]at hx;exact(QP.mp nd).1 hx
   .rw[zi e];intro z;exact e (I.dj k j x z (by rw[hA];exact Ql _ hx))
 obtain⟨l,xs,rfl,hA,hm,r⟩:=key;obtain⟨I',K⟩:=I.weak j (l:=.top) (B:=[l]) (by intro b hb;rw[QN.mp hb];exact hA) (by simp) λd w h1 h2=>by
  rw[hd]at h1;cases h1;rw[a]at h2;cases h2;exact⟨ds,l,xs,rfl,rfl,rfl,hm,r⟩
 exact⟨l,xs,_,I',K,zn,λi hi=>zi hi,a,hm,r,hA⟩
def zR {m:Me}(h:l≠x):(m.set l o)[x]?=m[x]?:=Qg h
def xp {m:Me}(h:m[l]?=some p):(m.set l o)[l]?=some o:=by
 rw[Qy,MN rfl,MN (Qa.mp h).1]
def Inv.putO{lo:Nat}{RR:Nat->Prop}{m m1:Me}{de:aO}{lv:List Lv}{env:En}{A:Nat->List Nat}(I:Inv lo RR m de lv env A)(le:Le m m1){j l:Nat}{ob:Ob}(hl:l∈A j)(A1:Nat->List Nat)
  (h3:∀k a,a∈A1 k->(∃k',a∈A k')\/m.length<=a) (nd1:∀k,(A1 k).Nodup) (dj1:∀i k a,a∈A1 i->a∈A1 k->i=k) (bd1:∀k a,a∈A1 k->lo<=a/\a<m1.length)
  {de1:aO}{lv1:List Lv}(len1:de1.length=de.length) (lvl1:lv1.length=lv.length)
  (live:∀k d lk,k≠j->de1[k]?=some (some d)->lv1[k]?=some lk->de[k]?=some (some d)/\lv[k]?=some lk/\A1 k=A k)
  (sj:∀d lj,de1[j]?=some (some d)->lv1[j]?=some lj->∃w,env[j]?=some (some w)/\bJ (xg RR A1) (m1.set l ob) lj d w (A1 j)) :
  Inv lo RR (m1.set l ob) de1 lv1 env A1/\bj A m A1 (m1.set l ob):=by
 have fr:∀(x:Nat) (o:Ob),(∀k,x∉A k)->m[x]?=some o->(∀k,x∉A1 k)/\(m1.set l ob)[x]?=some o:=by
  intro x o hx hm;refine⟨λk ha=>?_,?_⟩
  .rcases h3 k x ha with⟨k',z⟩|z
   .exact hx k' z
   .have:=(Qa.mp hm).1;lia
  .rw[zR (l:=l) (x:=x) (λe=>hx j (by rw[<-e];exact hl))];exact le x o hm
 refine⟨⟨len1.trans I.len,by rw[lvl1,I.lvl,len1],I.rr,by rw[Wp];exact Qp I.lom le.len,?_,nd1,dj1,λk a ha=>by rw[Wp];exact bd1 k a ha⟩,⟨λx o hx hm=>fr x o hx hm,by rw[Wp];exact le.len⟩⟩;intro k d lk h1 h2;by_cases e:k=j
 .subst e;exact sj d lk h1 h2
 .obtain ⟨a,b,c⟩:=live k d lk e h1 h2;obtain⟨w,p,q⟩:=I.slot k d lk a b;refine⟨w,p,?_⟩;rw[c];refine q.frame (λx o r hm=>⟨⟨r.1,(fr x o r.2 hm).1⟩,(fr x o r.2 hm).2⟩) (λx hx o hm=>?_);rw[zR (l:=l) (x:=x) (λz=>e (I.dj k j x hx (by rw[<-z];exact hl)))];exact le x o hm
def Inv.put{lo:Nat}{RR:Nat->Prop}{m m1:Me}{de:aO}{lv:List Lv}{env:En}{A:Nat->List Nat}(I:Inv lo RR m de lv env A)(le:Le m m1){j l:Nat}{xs ys:List Wd}(hl:l∈A j)(A1:Nat->List Nat)
  (h3:∀k a,a∈A1 k->(∃k',a∈A k')\/m.length<=a) (nd1:∀k,(A1 k).Nodup) (dj1:∀i k a,a∈A1 i->a∈A1 k->i=k) (bd1:∀k a,a∈A1 k->lo<=a/\a<m1.length)
  {de1:aO}{lv1:List Lv}(len1:de1.length=de.length) (lvl1:lv1.length=lv.length)
  (live:∀k d lk,k≠j->de1[k]?=some (some d)->lv1[k]?=some lk->de[k]?=some (some d)/\lv[k]?=some lk/\A1 k=A k)
  (sj:∀d lj,de1[j]?=some (some d)->lv1[j]?=some lj->∃w,env[j]?=some (some w)/\bJ (xg RR A1) (m1.set l (.lst ys)) lj d w (A1 j)) :
  Inv lo RR (m1.set l (.lst ys)) de1 lv1 env A1/\bj A m A1 (m1.set l (.lst ys)):=I.putO le hl A1 h3 nd1 dj1 bd1 len1 lvl1 live sj
noncomputable def su(m m1:Me)(ds:List Dat)(xs:List Wd)(ds':List Dat)(ys:List Wd):Prop:=
 ∀B,B.Nodup->av m ds xs B->∃B',av m1 ds' ys B'/\B'.Nodup/\∀b∈B',b∈B\/m.length<=b
noncomputable def rW(RR:Nat->Prop)(A:Nat->List Nat)(m m1:Me)(ds:List Dat)(xs:List Wd)(ds':List Dat)(ys:List Wd):Prop:=
 ae (xg RR A) m ds xs->ae (λx=>xg RR A x\/m.length<=x) m1 ds' ys
noncomputable def ee(RR:Nat->Prop)(A:Nat->List Nat)(m m1:Me)(ds:List Dat)(xs:List Wd)(ds':List Dat)(ys:List Wd):Prop:=
 (∀B,B.Nodup->av m ds xs B->∃B',av m1 ds' ys B'/\B'.Nodup/\∀b∈B',b∈B\/m.length<=b)/\(ae (xg RR A) m ds xs->ae (λx=>xg RR A x\/m.length<=x) m1 ds' ys)
def Inv.mut (I:Inv lo RR m de lv env A)(hd:de[j]?=some (some (.lst ds)))(hj:yo lv j=true):
  ∃l xs,env[j]?=some (some (.ref l))/\m[l]?=some (.lst xs)/\ae RR m ds xs/\∀(m1:Me) (ds':List Dat) (ys:List Wd),Le m m1->(lv[j]?=some .full->su m m1 ds xs ds' ys)->(lv[j]?=some .top->rW RR A m m1 ds xs ds' ys) ->
   ∃A1,Inv lo RR (m1.set l (.lst ys)) (de.set j (some (.lst ds'))) lv env A1/\bj A m A1 (m1.set l (.lst ys)):=by
 unfold yo at hj;obtain⟨lj,hl⟩:=I.getlv hd;obtain⟨w,a,b⟩:=I.slot j _ lj hd hl;rw[hl]at hj;have hjl:j<de.length:=(Qa.mp hd).1;have live:∀(A1:Nat->List Nat),(∀k,k≠j->A1 k=A k)->∀(ds':List Dat) k d lk,k≠j->(de.set j (some (.lst ds')))[k]?=some (some d)->lv[k]?=some lk->de[k]?=some (some d)/\lv[k]?=some lk/\A1 k=A k:=by
  intro A1 h ds' k d lk e h1 h2;rw[Qg (Ne.symm e)]at h1;exact⟨h1,h2,h k e⟩
 cases lj with
 |no=>simp at hj
 |top=>
  obtain⟨es,l,xs,e,rfl,hA,hm,r⟩:=b;cases e;refine⟨l,xs,a,hm,ae.frame (λ_ _ r z=>⟨r.1,z⟩) _ _ r,λm1 ds' ys le _ c=>⟨A,?_⟩⟩;have hlm:=(Qa.mp hm).1;refine I.put le (j:=j) (l:=l) (xs:=xs) (by rw[hA];simp) A (λk a ha=>.inl ⟨k,ha⟩) I.nd I.dj (λk a ha=>⟨(I.bd k a ha).1,Qh (I.bd k a ha).2 le.len⟩) (by simp) rfl (live A (λ_ _=>rfl) ds') ?_;intro d lj h1 h2;rw[Qy,MN rfl,MN hjl]at h1;cases h1;rw[hl]at h2;cases h2;refine⟨_,a,ds',l,ys,rfl,rfl,hA,xp (le l _ hm),ae.frame (λx o r z=>?_) _ _ (c hl r)⟩;rcases r with r|r
  .exact ⟨r,by rw[zR (l:=l) (x:=x) (λe=>r.2 j (by rw[hA,e];simp))];exact z⟩
  .exact ⟨⟨I.rr x (Qp I.lom r),λk hk=>by have:=(I.bd k x hk).2;lia⟩,by rw[zR (l:=l) (x:=x) (by lia)];exact z⟩
 |full=>
  obtain⟨l,xs,B,rfl,hA,hm,r⟩:=aZ.mp b;have hlm:=(Qa.mp hm).1;have nd:=I.nd j;rw[hA]at nd;refine⟨l,xs,a,hm,av.rep ds xs B (λx hx=>I.rr x (I.bd j x (by rw[hA];exact Ql _ hx)).1) r,λm1 ds' ys le c _=>?_⟩;obtain⟨B',o,nb,hB⟩:=c hl B (QP.mp nd).2 r;have hlB:l∉B':=λz=>by
   rcases hB l z with z|z
   .exact (QP.mp nd).1 z
   .lia
  have sub:∀x∈l::B',x∈A j\/m.length<=x:=by
   intro x hx;rcases Qr.mp hx with rfl|hx
   .left;rw[hA];simp
   .rcases hB x hx with z|z
    .left;rw[hA];exact Ql _ z
    .exact .inr z
  refine⟨aJ A j (l::B'),?_⟩;refine I.put le (j:=j) (l:=l) (xs:=xs) (by rw[hA];simp) _ ?_ ?_ ?_ ?_ (by simp) rfl (live _ (λk hk=>zi hk) ds') ?_
  .intro k x hx;by_cases e:k=j
   .subst e;rw[zn]at hx;rcases sub x hx with z|z
    .exact .inl ⟨k,z⟩
    .exact .inr z
   .rw[zi e]at hx;exact .inl ⟨k,hx⟩
  .intro k;by_cases e:k=j
   .subst e;rw[zn];exact QP.mpr ⟨hlB,nb⟩
   .rw[zi e];exact I.nd k
  .intro i k x h1 h2;by_cases e:i=j
   .by_cases f:k=j
    .rw[e,f]
    .rw[e,zn]at h1;rw[zi f]at h2;rcases sub x h1 with z|z
     .rw[e];exact I.dj j k x z h2
     .have:=(I.bd k x h2).2;lia
   .rw[zi e]at h1;by_cases f:k=j
    .rw[f,zn]at h2;rcases sub x h2 with z|z
     .rw[f];exact I.dj i j x h1 z
     .have:=(I.bd i x h1).2;lia
    .rw[zi f]at h2;exact I.dj i k x h1 h2
  .intro k x hx;by_cases e:k=j
   .rw[e,zn]at hx;rcases Qr.mp hx with rfl|hx
    .exact ⟨(I.bd j _ (by rw[hA];simp)).1,Qh hlm le.len⟩
    .refine ⟨?_,av.lt ds' ys B' o x hx⟩;rcases hB x hx with z|z
     .exact (I.bd j x (by rw[hA];exact Ql _ z)).1
     .exact Qp I.lom z
   .rw[zi e]at hx;exact⟨(I.bd k x hx).1,Qh (I.bd k x hx).2 le.len⟩
  .intro d lj h1 h2;rw[Qy,MN rfl,MN hjl]at h1;cases h1;rw[hl]at h2;cases h2;refine⟨_,a,?_⟩;rw[zn];exact aZ.mpr ⟨l,ys,B',rfl,rfl,xp (le l _ hm),av.frame ds' ys B' (λx hx o z=>by rw[zR (l:=l) (x:=x) (λe=>hlB (by rw[e];exact hx))];exact z) o⟩
theorem av.item:∀{ds:List Dat}{xs:List Wd}{A:List Nat}{p:Nat}{d:Dat},av m ds xs A->ds[p]?=some d->∃x B,(xs[p]?=some x/\bh m d x B)/\∀b∈B,b∈A
 |[],xs,A,p,d,h,z=>by simp at z
 |e::ds,xs,A,0,d,h,z=>by
  obtain⟨x,r,B,C,rfl,rfl,a,b⟩:=h.cons_inv;simp at z;subst z;exact⟨x,B,⟨rfl,a⟩,λb hb=>QY _ hb⟩
 |e::ds,xs,A,p+1,d,h,z=>by
  obtain⟨x,r,B,C,rfl,rfl,a,b⟩:=h.cons_inv;obtain⟨y,D,h1,h2⟩:=av.item b (by simpa using z);exact⟨y,D,by simpa using h1,λb hb=>Qw _ (h2 b hb)⟩
theorem av.split:∀{ds:List Dat}{xs:List Wd}{A:List Nat}{p:Nat}{d:Dat},av m ds xs A->ds[p]?=some d ->
  ∃x B1 Bp B2,xs[p]?=some x/\A=B1++(Bp++B2)/\bh m d x Bp/\(∀(i:Nat) e y,i≠p->ds[i]?=some e->xs[i]?=some y->∃Bi,bh m e y Bi/\∀b∈Bi,b∈B1\/b∈B2)/\∀(m':Me) (d':Dat) (x':Wd) (B':List Nat),(∀l,l∈B1\/l∈B2->∀o,m[l]?=some o->m'[l]?=some o)->bh m' d' x' B'->av m' (ds.set p d') (xs.set p x') (B1++(B'++B2))
 |[],xs,A,p,d,h,z=>by simp at z
 |e::ds,xs,A,0,d,h,z=>by
  obtain⟨x,r,B,C,rfl,rfl,a,b⟩:=h.cons_inv;simp at z;subst z;refine⟨x,[],B,C,rfl,rfl,a,λi e y hi h1 h2=>?_,λm' d' x' B' fr o=>?_⟩
  .cases i with
   |zero=>exact MP rfl hi
   |succ i=>
    simp at h1 h2;obtain⟨y',Bi,o,hB⟩:=av.item b h1;rw[h2]at o;obtain⟨o1,o2⟩:=o;cases o1;exact⟨Bi,o2,λz hz=>.inr (hB z hz)⟩
  show av m' (d'::ds) (x'::r) (B'++C);exact av.cons o (av.frame ds r C (λl hl=>fr l (.inr hl)) b)
 |e::ds,xs,A,p+1,d,h,z=>by
  obtain⟨x,r,B,C,rfl,rfl,a,b⟩:=h.cons_inv;obtain⟨y,B1,Bp,B2,h1,rfl,h3,h5,h4⟩:=av.split b (by simpa using z);refine⟨y,B++B1,Bp,B2,by simpa using h1,by simp[WV],h3,λi e' y' hi g1 g2=>?_,λm' d' x' B' fr o=>?_⟩
  .cases i with
   |zero=>simp at g1 g2;subst g1;subst g2;exact⟨B,a,λz hz=>.inl (QY _ hz)⟩
   |succ i=>
    simp at g1 g2;obtain⟨Bi,o,hB⟩:=h5 i e' y' (by lia) g1 g2;exact⟨Bi,o,λz hz=>by rcases hB z hz with q|q;exact .inl (Qw _ q);exact .inr q⟩
  rw[WV];exact av.cons (bh.frame e x B (λl hl=>fr l (.inl (QY _ hl))) a) (h4 m' d' x' B' (λl hl=>fr l (by rcases hl with hl|hl;exact .inl (Qw _ hl);exact .inr hl)) o)
def nS (le:Le m m1)(o:bh m1 d w B0)(nd:B0.Nodup)(hB:∀b∈B0,m.length<=b):ee RR A m m1 ds xs (ds++[d]) (xs++[w]):=by
 refine⟨λB nb q=>⟨B++(B0++[]),(av.frame ds xs B (λl _ o z=>le l o z) q).app (.cons o .nil),?_,?_⟩,λq=>?_⟩
 .rw[QU];refine Qt.mpr ⟨nb,nd,λx hx y hy e=>?_⟩;have:=av.lt ds xs B q x hx;have:=hB y hy;lia
 .intro b hb;rw[QU]at hb;rcases Qz.mp hb with z|z
  .exact .inl z
  .exact .inr (hB b z)
 .exact (ae.frame (λl o r z=>⟨.inl r,le l o z⟩) _ _ q).app (.cons (bh.rep d w B0 (λb hb=>.inr (hB b hb)) o) .nil)
def uZ (p:Nat)(le:Le m m1)(o:bh m1 d w B0)(nd:B0.Nodup)(hB:∀b∈B0,m.length<=b):ee RR A m m1 ds xs (ds.set p d) (xs.set p w):=by
 refine⟨λB nb q=>?_,λq=>?_⟩
 .cases hp:ds[p]? with
  |none=>
   have h1:ds.length<=p:=Wk.mp hp;rw[Wz h1,Wz (by rw[<-q.len];exact h1)];exact⟨B,av.frame ds xs B (λl _ o z=>le l o z) q,nb,λb hb=>.inl hb⟩
  |some e=>
   obtain⟨y,B1,Bp,B2,h1,rfl,h3,_,h4⟩:=av.split q hp;refine⟨B1++(B0++B2),h4 m1 d w B0 (λl _ o z=>le l o z) o,?_,?_⟩
   .have hlt:=av.lt ds xs _ q;rw[Qt]at nb ⊢;obtain⟨n1,n2,n3⟩:=nb;rw[Qt]at n2 ⊢;obtain⟨n4,n5,n6⟩:=n2;refine⟨n1,⟨nd,n5,λx hx y hy e=>?_⟩,λx hx y hy e=>?_⟩
    .have:=hB x hx;have:=hlt y (by simp[hy]);lia
    .rcases Qz.mp hy with hy|hy
     .have:=hB y hy;have:=hlt x (by simp[hx]);lia
     .exact n3 x hx y (Qw _ hy) e
   .intro b hb;simp only[Qz]at hb ⊢;rcases hb with z|z|z
    .exact .inl (.inl z)
    .exact .inr (hB b z)
    .exact .inl (.inr (.inr z))
 .exact (ae.frame (λl o r z=>⟨.inl r,le l o z⟩) _ _ q).set p (bh.rep d w B0 (λb hb=>.inr (hB b hb)) o)
theorem av.rev:∀{ds:List Dat}{xs:List Wd}{A:List Nat},A.Nodup->av m ds xs A->∃B,av m ds.reverse xs.reverse B/\B.Nodup/\∀b∈B,b∈A
 |[],xs,A,nd,h=>by rw[h.nil_inv.1];exact⟨[],.nil,QB,by simp⟩
 |d::ds,xs,A,nd,h=>by
  obtain⟨x,r,B,C,rfl,rfl,a,b⟩:=h.cons_inv;obtain⟨n1,n2,n3⟩:=Qt.mp nd;obtain⟨D,o,nD,hD⟩:=av.rev n2 b;rw[We,We];refine⟨D++(B++[]),o.app (.cons a .nil),?_,?_⟩
  .rw[QU];exact Qt.mpr ⟨nD,n1,λx hx y hy e=>n3 y hy x (hD x hx) e.symm⟩
  .intro b hb;simp only[QU,Qz]at hb ⊢;rcases hb with z|z
   .exact .inr (hD b z)
   .exact .inl z
def dA:ee RR A m m ds xs ds.reverse xs.reverse:=by
 refine⟨λB nb q=>?_,λq=>(ae.frame (λl o r z=>⟨.inl r,z⟩) _ _ q).rev⟩;obtain⟨D,o,nD,hD⟩:=av.rev nb q;exact⟨D,o,nD,λb hb=>.inl (hD b hb)⟩
def F8 (le:Le m m1)(o:bh m1 d w B0)(nd:B0.Nodup)(hB:∀b∈B0,m.length<=b):ee RR A m m1 ds xs (d::ds) (w::xs):=by
 refine⟨λB nb q=>⟨B0++B,.cons o (av.frame ds xs B (λl _ o z=>le l o z) q),?_,?_⟩,λq=>?_⟩
 .refine Qt.mpr ⟨nd,nb,λx hx y hy e=>?_⟩;have:=av.lt ds xs B q y hy;have:=hB x hx;lia
 .intro b hb;rcases Qz.mp hb with z|z
  .exact .inr (hB b z)
  .exact .inl z
 .exact .cons (bh.rep d w B0 (λb hb=>.inr (hB b hb)) o) (ae.frame (λl o r z=>⟨.inl r,le l o z⟩) _ _ q)
theorem rX:∀{ds:List Dat}{xs:List Wd}{A:List Nat},A.Nodup->av m ds xs A->∃B,av m ds.dropLast xs.dropLast B/\B.Nodup/\∀b∈B,b∈A
 |[],xs,A,nd,h=>by rw[h.nil_inv.1];exact⟨[],.nil,QB,by simp⟩
 |[d],xs,A,nd,h=>by
  obtain⟨x,r,B,C,rfl,rfl,a,b⟩:=h.cons_inv;rw[b.nil_inv.1];exact⟨[],.nil,QB,by simp⟩
 |d::e::ds,xs,A,nd,h=>by
  obtain⟨x,r,B,C,rfl,rfl,a,b⟩:=h.cons_inv;obtain⟨n1,n2,n3⟩:=Qt.mp nd;obtain⟨D,o,nD,hD⟩:=rX n2 b;obtain⟨y,r',B',C',rfl,rfl,a',b'⟩:=b.cons_inv;refine⟨B++D,.cons a o,Qt.mpr ⟨n1,nD,λx hx y hy e=>n3 x hx y (hD y hy) e⟩,λb hb=>?_⟩;rcases Qz.mp hb with z|z
  .exact QY _ z
  .exact Qw _ (hD b z)
def AG:ee RR A m m ds xs ds.dropLast xs.dropLast:=by
 refine⟨λB nb q=>?_,λq=>?_⟩
 .obtain ⟨D,o,nD,hD⟩:=rX nb q;exact⟨D,o,nD,λb hb=>.inl (hD b hb)⟩
 .rw[WF,WF,<-q.len];exact(ae.frame (λl o r z=>⟨.inl r,z⟩) _ _ q).take _
def AF:ee RR A m m (d::ds) (w::xs) ds xs:=by
 refine⟨λB nb q=>?_,λq=>?_⟩
 .obtain ⟨x,r,B1,C,e,rfl,a,b⟩:=q.cons_inv;cases e;exact⟨C,b,(Qt.mp nb).2.1,λb hb=>.inl (Qw _ hb)⟩
 .obtain ⟨x,r,e,a,b⟩:=q.cons_inv;cases e;exact ae.frame (λl o r z=>⟨.inl r,z⟩) _ _ b
def Inv.mutIn (I:Inv lo RR m de lv env A)(hd:de[j]?=some (some (.lst ds)))(hf:lv[j]?=some .full)(hp:ds[p]?=some (.lst es)):
  ∃l xs l2 us,env[j]?=some (some (.ref l))/\m[l]?=some (.lst xs)/\xs[p]?=some (.ref l2)/\m[l2]?=some (.lst us)/\ds.length=xs.length/\ae RR m es us /\
   (∀(m1:Me) (es':List Dat) (vs:List Wd),Le m m1->su m m1 es us es' vs ->
    ∃A1,Inv lo RR (m1.set l2 (.lst vs)) (de.set j (some (.lst (ds.set p (.lst es'))))) lv env A1/\bj A m A1 (m1.set l2 (.lst vs))) /\
   (∀(m1:Me) (q:Nat) (d:Dat) (w:Wd),Le m m1->ai (λx=>xg RR A x\/m.length<=x) m1 d w ->
    ∃A1,Inv lo RR (m1.set l2 (.lst (us.set q w))) (de.set j (some (.lst (ds.set p (.lst (es.set q d)))))) (lv.set j .top) env A1/\bj A m A1 (m1.set l2 (.lst (us.set q w)))):=by
 obtain⟨w,a,b⟩:=I.slot j _ .full hd hf;obtain⟨l,xs,B,rfl,hA,hm,r⟩:=aZ.mp b;obtain⟨x,B1,Bp,B2,h1,hB,h3,h5,h4⟩:=r.split hp;obtain⟨l2,us,Bq,rfl,rfl,hm2,r2⟩:=aZ.mp h3;have hjl:j<de.length:=(Qa.mp hd).1;have nd:=I.nd j;rw[hA,hB]at nd;have hlm:=(Qa.mp hm).1;have hlm2:=(Qa.mp hm2).1;obtain⟨n0,n1⟩:=QP.mp nd;obtain⟨n2,n3,n4⟩:=Qt.mp n1;obtain⟨n5,n6,n7⟩:=Qt.mp n3;obtain⟨n8,n9⟩:=QP.mp n5;have inA:∀{x},x=l\/x∈B1\/x=l2\/x∈Bq\/x∈B2->x∈A j:=by
  intro x hx;rw[hA,hB];simp only[Qr,Qz];rcases hx with z|z|z|z|z
  .exact .inl z
  .exact .inr (.inl z)
  .exact .inr (.inr (.inl (.inl z)))
  .exact .inr (.inr (.inl (.inr z)))
  .exact .inr (.inr (.inr z))
 have l2B1:l2∉B1:=λz=>n4 l2 z l2 (by simp) rfl;have l2B2:l2∉B2:=λz=>n7 l2 (by simp) l2 z rfl;have hll:l≠l2:=λe=>n0 (by rw[e];simp);have live:∀(A1:Nat->List Nat) (lv1:List Lv),(∀k,k≠j->A1 k=A k)->(∀k,k≠j->lv1[k]?=lv[k]?)->∀(ds':List Dat) k d lk,k≠j->(de.set j (some (.lst ds')))[k]?=some (some d)->lv1[k]?=some lk->de[k]?=some (some d)/\lv[k]?=some lk/\A1 k=A k:=by
  intro A1 lv1 h hlv ds' k d lk e h1 h2;rw[Qg (Ne.symm e)]at h1;rw[hlv k e]at h2;exact⟨h1,h2,h k e⟩
 refine⟨l,xs,l2,us,a,hm,h1,hm2,r.len,av.rep es us Bq (λx hx=>I.rr x (I.bd j x (inA (.inr (.inr (.inr (.inl hx)))))).1) r2,?_,?_⟩
 .intro m1 es' vs le c;obtain⟨Bq',o,nb,hBq⟩:=c Bq n9 r2;have hlt:=av.lt es' vs Bq' o;have l2q:l2∉Bq':=λz=>by
   rcases hBq l2 z with z|z
   .exact n8 z
   .lia
  have sub:∀x∈l::(B1++((l2::Bq')++B2)),x∈A j\/m.length<=x:=by
   intro x hx;simp only[Qr,Qz]at hx;rcases hx with z|z|(z|z)|z
   .exact .inl (inA (.inl z))
   .exact .inl (inA (.inr (.inl z)))
   .exact .inl (inA (.inr (.inr (.inl z))))
   .rcases hBq x z with z|z
    .exact .inl (inA (.inr (.inr (.inr (.inl z)))))
    .exact .inr z
   .exact .inl (inA (.inr (.inr (.inr (.inr z)))))
  have nd1:(l::(B1++((l2::Bq')++B2))).Nodup:=by
   refine QP.mpr ⟨?_,Qt.mpr ⟨n2,Qt.mpr ⟨QP.mpr ⟨l2q,nb⟩,n6,?_⟩,?_⟩⟩
   .intro z;simp only[Qr,Qz]at z n0;rcases z with z|(z|z)|z
    .exact n0 (.inl z)
    .exact hll z
    .rcases hBq l z with z|z
     .exact n0 (.inr (.inl (.inr z)))
     .lia
    .exact n0 (.inr (.inr z))
   .intro x hx y hy e;subst e;rcases Qr.mp hx with z|z
    .subst z;exact l2B2 hy
    .rcases hBq x z with z|z
     .exact n7 x (Ql _ z) x hy rfl
     .have:=(I.bd j x (inA (.inr (.inr (.inr (.inr hy)))))).2;lia
   .intro x hx y hy e;subst e;simp only[Qr,Qz]at hy;rcases hy with (z|z)|z
    .subst z;exact l2B1 hx
    .rcases hBq x z with z|z
     .exact n4 x hx x (by simp[z]) rfl
     .have:=(I.bd j x (inA (.inr (.inl hx)))).2;lia
    .exact n4 x hx x (by simp[z]) rfl
  refine⟨aJ A j (l::(B1++((l2::Bq')++B2))),?_⟩;refine I.put le (j:=j) (l:=l2) (xs:=us) (inA (.inr (.inr (.inl rfl)))) _ ?_ ?_ ?_ ?_ (by simp) rfl (live _ lv (λk hk=>zi hk) (λ_ _=>rfl) _) ?_
  .intro k x hx;by_cases e:k=j
   .rw[e,zn]at hx;rcases sub x hx with z|z
    .exact .inl ⟨j,z⟩
    .exact .inr z
   .rw[zi e]at hx;exact .inl ⟨k,hx⟩
  .intro k;by_cases e:k=j
   .rw[e,zn];exact nd1
   .rw[zi e];exact I.nd k
  .intro i k x h1 h2;by_cases e:i=j
   .by_cases f:k=j
    .rw[e,f]
    .rw[e,zn]at h1;rw[zi f]at h2;rcases sub x h1 with z|z
     .rw[e];exact I.dj j k x z h2
     .have:=(I.bd k x h2).2;lia
   .rw[zi e]at h1;by_cases f:k=j
    .rw[f,zn]at h2;rcases sub x h2 with z|z
     .rw[f];exact I.dj i j x h1 z
     .have:=(I.bd i x h1).2;lia
    .rw[zi f]at h2;exact I.dj i k x h1 h2
  .intro k x hx;have ll:=le.len;by_cases e:k=j
   .rw[e,zn]at hx;rcases sub x hx with z|z
    .exact ⟨(I.bd j x z).1,Qh (I.bd j x z).2 ll⟩
    .refine ⟨Qp I.lom z,?_⟩;simp only[Qr,Qz]at hx;rcases hx with q|q|(q|q)|q
     .lia
     .have:=(I.bd j x (inA (.inr (.inl q)))).2;lia
     .lia
     .exact hlt x q
     .have:=(I.bd j x (inA (.inr (.inr (.inr (.inr q)))))).2;lia
   .rw[zi e]at hx;exact⟨(I.bd k x hx).1,Qh (I.bd k x hx).2 ll⟩
  .intro d lj g1 g2;rw[Qy,MN rfl,MN hjl]at g1;cases g1;rw[hf]at g2;cases g2;refine⟨_,a,?_⟩;rw[zn];refine aZ.mpr ⟨l,xs,B1++((l2::Bq')++B2),rfl,rfl,?_,?_⟩
   .rw[zR (l:=l2) (x:=l) (Ne.symm hll)];exact le l _ hm
   .have:=h4 (m1.set l2 (.lst vs)) (.lst es') (.ref l2) (l2::Bq') ?_ (aZ.mpr ⟨l2,vs,Bq',rfl,rfl,xp (le l2 _ hm2),av.frame es' vs Bq' (λx hx o z=>by rw[zR (l:=l2) (x:=x) (λe=>l2q (by rw[e];exact hx))];exact z) o⟩)
    .rw[show xs.set p (.ref l2)=xs from by
      obtain⟨hpx,e⟩:=Qa.mp h1;rw[<-e];exact List.set_getElem_self hpx]at this
     exact this
    .intro x hx o z;rw[zR (l:=l2) (x:=x) (λe=>by rcases hx with hx|hx;exact l2B1 (by rw[e];exact hx);exact l2B2 (by rw[e];exact hx))];exact le x o z
 .intro m1 q d w le rw0;have ll:=le.len;have sub:∀k x,x∈aJ A j [l] k->x∈A k:=by
   intro k x hx;by_cases e:k=j
   .rw[e,zn]at hx;rw[e,QN.mp hx];exact inA (.inl rfl)
   .rw[zi e]at hx;exact hx
  refine⟨aJ A j [l],?_⟩;refine I.put le (j:=j) (l:=l2) (xs:=us) (inA (.inr (.inr (.inl rfl)))) _ (λk x hx=>.inl ⟨k,sub k x hx⟩) ?_ (λi k x g1 g2=>I.dj i k x (sub i x g1) (sub k x g2)) (λk x hx=>⟨(I.bd k x (sub k x hx)).1,Qh (I.bd k x (sub k x hx)).2 ll⟩) (by simp) (by simp) (live _ (lv.set j .top) (λk hk=>zi hk) (λk hk=>Qg (Ne.symm hk)) _) ?_
  .intro k;by_cases e:k=j
   .rw[e,zn];simp
   .rw[zi e];exact I.nd k
  .intro d' lj g1 g2;rw[Qy,MN rfl,MN hjl]at g1;cases g1;rw[Qy,MN rfl,MN (by rw[I.lvl];exact hjl)]at g2;cases g2;refine⟨_,a,ds.set p (.lst (es.set q d)),l,xs,rfl,rfl,zn,?_,?_⟩
   .rw[zR (l:=l2) (x:=l) (Ne.symm hll)];exact le l _ hm
   have fr:∀x,x∈B1\/x∈B2\/x∈Bq\/x=l2->xg RR (aJ A j [l]) x:=by
    intro x hx;have hxA:x∈A j:=inA (by rcases hx with z|z|z|z;exact .inr (.inl z);exact .inr (.inr (.inr (.inr z)));exact .inr (.inr (.inr (.inl z)));exact .inr (.inr (.inl z)));refine⟨I.rr x (I.bd j x hxA).1,λk hk=>?_⟩;by_cases e:k=j
    .rw[e,zn]at hk;have e2:=QN.mp hk;subst e2;rcases hx with z|z|z|z
     .exact n0 (by simp[z])
     .exact n0 (by simp[z])
     .exact n0 (by simp[z])
     .exact hll z
    .rw[zi e]at hk;exact e (I.dj k j x hk hxA)
   refine bn.mpr ⟨by simp[r.len],λi e y g1 g2=>?_⟩;by_cases ei:i=p
   .rw[ei]at g1 g2;rw[h1]at g2;cases g2;rw[Qy,MN rfl,MN (Qa.mp hp).1]at g1;cases g1;refine au.mpr ⟨l2,us.set q w,rfl,fr l2 (.inr (.inr (.inr rfl))),xp (le l2 _ hm2),?_⟩;refine ae.set (ae.frame (R:=λx=>x∈Bq) (m:=m) (λx o hx z=>⟨fr x (.inr (.inr (.inl hx))),?_⟩) _ _ (av.rep es us Bq (λ_ h=>h) r2)) q ?_
    .rw[zR (l:=l2) (x:=x) (λe=>n8 (by rw[e];exact hx))];exact le x o z
    .refine ai.frame (λx o hx z=>?_) _ _ rw0;have ne:l2≠x:=by
      rcases hx with hx|hx
      .intro e;exact hx.2 j (by rw[<-e];exact inA (.inr (.inr (.inl rfl))))
      .lia
     refine⟨?_,by rw[zR (l:=l2) (x:=x) ne];exact z⟩;rcases hx with hx|hx
     .exact ⟨hx.1,λk hk=>hx.2 k (sub k x hk)⟩
     .exact ⟨I.rr x (Qp I.lom hx),λk hk=>by have:=(I.bd k x (sub k x hk)).2;lia⟩
   .rw[Qg (Ne.symm ei)]at g1;obtain⟨Bi,o,hBi⟩:=h5 i e y ei g1 g2;refine ai.frame (R:=λx=>x∈Bi) (m:=m) (λx o hx z=>?_) _ _ (bh.rep e y Bi (λ_ h=>h) o);rcases hBi x hx with z1|z1
    .exact ⟨fr x (.inl z1),by rw[zR (l:=l2) (x:=x) (λe=>l2B1 (by rw[e];exact z1))];exact le x _ z⟩
    .exact ⟨fr x (.inr (.inl z1)),by rw[zR (l:=l2) (x:=x) (λe=>l2B2 (by rw[e];exact z1))];exact le x _ z⟩
def F7 (h:ae R m ds xs)(hm:m[l]?=some (.lst xs))(b:ai R m e y):ag R m (vZ (.ref l) y m) (yt (.lst ds) e):=by
 cases e with
 |int i=>
  rw[aa.mp b];simp only[yt,vZ,wI,yF,zK,hm];cases z:(ix ds.length i).bind λj=>ds[j]? with
  |none=>exact ag.no
  |some v=>
   obtain⟨j,h1,h2⟩:=QS.mp z;obtain⟨x,h3,p⟩:=h.get h2;rw[h.len]at h1;simp only[h1,Wn,h3];exact dy p
 |_=>exact ag.no
def nR (I:Inv lo RR m de lv env A)(h:∀i∈vs,∀l,lv[i]?=some l->l=.no):bN (xg RR A) m vs de env:=
 ⟨I.len,λi hi d hd=>by
  obtain⟨l,hl⟩:=I.getlv hd;obtain⟨w,a,b⟩:=I.slot i d l hd hl;rw[h i hi l hl]at b;exact⟨w,a,b.1⟩⟩
theorem js:∀(vs:List Nat) (lv:List Lv),(bb vs lv).length=lv.length
 |[],lv=>rfl
 |i::vs,lv=>by unfold bb;rw[js vs];simp
def uY (de:aO)(j:Nat)(lv:List Lv)(h:k≠j):(cg de j lv)[k]?=lv[k]?:=by
 have q:∃l,cg de j lv=lv.set j l:=by
  unfold cg;generalize de[j]?=p;generalize lv[j]?=q;cases p with
  |none=>exact⟨_,rfl⟩
  |some o=>
   cases o with
   |none=>exact⟨_,rfl⟩
   |some d=>
    cases d with
    |lst ds=>
     cases q with
     |none=>exact⟨_,rfl⟩
     |some l=>cases l<;>exact⟨_,rfl⟩
    |_=>exact⟨_,rfl⟩
 obtain⟨l,e⟩:=q;rw[e];exact Qg (Ne.symm h)
set_option tactic.hygienic true in
def uX (e:Ex)(de:aO)(lv:List Lv)(h:k∉zv e):(wg e de lv)[k]?=lv[k]?:=by
 have gen:∀vs,k∉vs->(bb vs lv)[k]?=lv[k]?:=λvs h=>by rw[xu,MO (λz=>h z.1)]
 cases e with
 |idx o b=>
  cases o with
  |var j=>
   replace h:k∉j::zv b:=h
   rw[Qr,not_or]at h;show(cg de j (bb (zv b) lv))[k]?=_;rw[uY _ _ _ h.1,gen _ h.2]
  |_=>exact gen _ h
 |_=>exact gen _ h
set_option tactic.hygienic true in
def Inv.topD (I:Inv lo RR m de lv env A)(j:Nat):
  ∃A',Inv lo RR m de (cg de j lv) env A'/\bj A m A' m/\(∀i,i≠j->A' i=A i)/\((∃ds l xs,de[j]?=some (some (.lst ds))/\A' j=[l]/\env[j]?=some (some (.ref l))/\m[l]?=some (.lst xs)/\ae (xg RR A') m ds xs)\/((Vl.cg de j lv)[j]?=some .no\/lv.length<=j)):=by
 by_cases h:(∃ds,de[j]?=some (some (.lst ds)))/\yo lv j=true
 .obtain ⟨⟨ds,hd⟩,ho⟩:=h;obtain⟨l,xs,A',I',K,h1,h2,h3,h4,h5,_⟩:=I.top j hd ho;have:Vl.cg de j lv=lv.set j .top:=by
   unfold Vl.cg;rw[hd];unfold yo at ho;cases z:lv[j]? with
   |none=>rw[z]at ho;simp at ho
   |some l=>rw[z]at ho;cases l<;>simp at ho ⊢
  rw[this];exact⟨A',I',K,h2,.inl ⟨ds,l,xs,hd,h1,h3,h4,h5⟩⟩
 .obtain ⟨I',K⟩:=I.down j;have:Vl.cg de j lv=lv.set j .no:=by
   unfold Vl.cg;split
   .next ds hd hl=>exact MP ⟨⟨ds,hd⟩,by unfold yo;rw[hl]⟩ h
   .next ds hd hl=>exact MP ⟨⟨ds,hd⟩,by unfold yo;rw[hl]⟩ h
   .rfl
  rw[this];refine⟨_,I',K,λi hi=>zi hi,.inr ?_⟩;by_cases z:j<lv.length
  .left;rw[Qy,MN rfl,MN z]
  .right;lia
set_option tactic.hygienic true in
def Inv.relEv (H:br lev cl cd)(I:Inv lo RR m de lv env A)(e:Ex):
  ∃A',Inv lo RR m de (wg e de lv) env A'/\bj A m A' m/\(∀k,k∉zv e->A' k=A k)/\aL (xg RR A') m (aV lev e) (af cl e env m) (ao cd e de):=by
 have gen:wg e de lv=Vl.bb (zv e) lv->∃A',Inv lo RR m de (wg e de lv) env A'/\bj A m A' m/\(∀k,k∉zv e->A' k=A k)/\aL (xg RR A') m (aV lev e) (af cl e env m) (ao cd e de):=by
  intro h;rw[h];obtain⟨A',I',K,h1,_,h3⟩:=Inv.downs (zv e) I;refine⟨A',I',K,h3,wL H e _ m de env (nR I' λi hi l hl=>?_)⟩;rw[xu]at hl;split at hl
  .cases hl;rfl
  .next z=>rw[Qq (by have:¬i<lv.length:=λq=>z ⟨hi,q⟩;lia)]at hl;cases hl
 cases e with
 |idx a b=>
  cases a with
  |var j=>
   show ∃A',Inv lo RR m de (Vl.cg de j (Vl.bb (zv b) lv)) env A'/\_;obtain⟨A1,I1,K1,h1,h2,h3⟩:=Inv.downs (zv b) I;obtain⟨A2,I2,K2,g1,g2⟩:=I1.topD j;have hne:∀k,k∉zv (.idx (.var j) b)->A2 k=A k:=by
    intro k hk
    replace hk:k∉j::zv b:=hk
    rw[Qr,not_or]at hk;rw[g1 k hk.1,h3 k hk.2]
   refine⟨A2,I2,K1.trans K2,hne,?_⟩;have lvno:∀i,i∈zv b->i≠j->∀l,(Vl.cg de j (Vl.bb (zv b) lv))[i]?=some l->l=.no:=by
    intro i hi hij l hl;rw[uY _ _ _ hij,xu]at hl;split at hl
    .cases hl;rfl
    .next z=>rw[Qq (by have:¬i<lv.length:=λq=>z ⟨hi,q⟩;lia)]at hl;cases hl
   rcases g2 with⟨ds,l,xs,hd,hA,he,hm,hr⟩|g2
   .have hjb:j∉zv b:=λz=>by
     have h0:=h1 j z;have hx:l∈A1 j:=by
      have i1:=I1;by_cases q:l∈A1 j
      .exact q
      .exfalso;have:=(K2.1 l _ (λk hk=>?_) hm).1 j
       .rw[hA]at this;exact this (by simp)
       .by_cases ek:k=j
        .rw[ek]at hk;exact q hk
        .have e1:=g1 k ek;rw[<-e1]at hk;exact ek (I2.dj k j l hk (by rw[hA];simp))
     rw[h0]at hx;cases hx
    refine ag.own ?_ (λd=>rfl);show ag _ m ((af cl (.var j) env m).bind λx m1=>(af cl b env m1).bind λy m2=>vZ x y m2) ((ao cd (.var j) de).bind λx=>(ao cd b de).bind λy=>yt x y);have e1:af cl (.var j) env m=.ok (.ref l) m:=kM he m;have e2:ao cd (.var j) de=.ok (.lst ds):=vt hd;rw[e1,e2];simp only[Rz.bind,Rd.bind];refine(zj H.r b _ m de env (nR I2 λi hi=>lvno i hi (λe=>hjb (by rw[<-e];exact hi)))).bind λd2 w2 m2 l2 k2=>?_;exact F7 (hr.up _ l2) (l2 l _ hm) k2
   .refine wL H _ _ m de env (nR I2 λi hi l hl=>?_)
    replace hi:i∈j::zv b:=hi
    rw[Qr]at hi;by_cases e:i=j
    .rw[e]at hl;rcases g2 with g2|g2
     .rw[g2]at hl;cases hl;rfl
     .have:(Vl.cg de j (Vl.bb (zv b) lv)).length=(Vl.bb (zv b) lv).length:=by rw[I2.lvl,I1.lvl]
      rw[Qq (by lia)]at hl;cases hl
    .rcases hi with z|z
     .exact MP z e
     .exact lvno i z e l hl
  |_=>exact gen rfl
 |_=>exact gen rfl
noncomputable def aH(lo:Nat)(RR:Nat->Prop)(A:Nat->List Nat)(m:Me)(r:Rs)(rd:bQ):Prop:=match rd with
 |.next de lv=>∃env m' A',r=.next env m'/\Inv lo RR m' de lv env A'/\bj A m A' m'
 |.brk de lv=>∃env m' A',r=.brk env m'/\Inv lo RR m' de lv env A'/\bj A m A' m'
 |.cont de lv=>∃env m' A',r=.cont env m'/\Inv lo RR m' de lv env A'/\bj A m A' m'
 |.ret d l=>∃w m' B,r=.ret w m'/\((∀(x:Nat) o,(∀i,x∉A i)->m[x]?=some o->m'[x]?=some o)/\m.length<=m'.length)/\bJ (λx=>RR x/\x∉B) m' l d w B/\B.Nodup/\∀b∈B,lo<=b
 |.exc c d=>∃w e m',r=.exc c w e m'/\((∀(x:Nat) o,(∀i,x∉A i)->m[x]?=some o->m'[x]?=some o)/\m.length<=m'.length)/\ai RR m' d w
 |.no=>True
set_option tactic.hygienic true in
def aH.keep{lo:Nat}{RR:Nat->Prop}{A A1:Nat->List Nat}{m m1:Me}{r:Rs}{rd:bQ}(K:bj A m A1 m1)(h:aH lo RR A1 m1 r rd):aH lo RR A m r rd:=by
 cases rd with
 |next de lv=>obtain⟨e,m',A',h,I,k⟩:=h;exact⟨e,m',A',h,I,K.trans k⟩
 |brk de lv=>obtain⟨e,m',A',h,I,k⟩:=h;exact⟨e,m',A',h,I,K.trans k⟩
 |cont de lv=>obtain⟨e,m',A',h,I,k⟩:=h;exact⟨e,m',A',h,I,K.trans k⟩
 |ret d l=>obtain⟨w,m',B,h,k,z⟩:=h;exact⟨w,m',B,h,⟨λx o a b=>k.1 x o (K.1 x o a b).1 (K.1 x o a b).2,Qp K.2 k.2⟩,z⟩
 |exc c d=>obtain⟨w,e,m',h,k,z⟩:=h;exact⟨w,e,m',h,⟨λx o a b=>k.1 x o (K.1 x o a b).1 (K.1 x o a b).2,Qp K.2 k.2⟩,z⟩
 |no=>trivial
def Inv.rf (I:Inv lo RR m de lv env A)(h:ai (Rf RR m.length) m' d w):ai RR m' d w:=
 ai.frame (λx o r z=>⟨by rcases r with r|r;exact r;exact I.rr x (Qp I.lom r),z⟩) d w h
def Inv.bindE (H:aU cl cd)(I:Inv lo RR m de lv env A)(e:Ex)(k:∀d w m1,ao cd e de=.ok d->af cl e env m=.ok w m1->Le m m1->ai RR m1 d w->aH lo RR A m1 (f w m1) (g d)):aH lo RR A m ((af cl e env m).bindS env f) ((ao cd e de).bindS g):=by
 have h:=zj H e RR m de env (I.envR _);cases z:ao cd e de with
 |no=>trivial
 |exc c d=>
  rw[z]at h;obtain⟨w,m',h,l,r⟩:=h;rw[h];exact⟨w,env,m',rfl,⟨λx o _ b=>l x o b,l.len⟩,I.rf r⟩
 |ok d=>
  rw[z]at h;obtain⟨w,m',h,l,r⟩:=h;have:=k d w m' z h l (I.rf r);rw[h];exact aH.keep (kR l) this
def Inv.own (H:br lev cl cd)(I:Inv lo RR m de lv env A)(h1:ao cd e de=.ok d)(h2:af cl e env m=.ok w m1):
  ∃B,bJ (λx=>RR x/\x∉B) m1 (aV lev e d) d w B/\B.Nodup/\∀b∈B,m.length<=b:=by
 have h:=wL H e RR m de env (I.envR _);rw[h1]at h;obtain⟨w',m',B,h3,l,r,nd,hB⟩:=h;rw[h2]at h3;cases h3;exact⟨B,r.frame (λx o r z=>⟨⟨by rcases r.1 with r|r;exact r;exact I.rr x (Qp I.lom r),r.2⟩,z⟩) (λ_ _ _ z=>z),nd,hB⟩
section
variable{lev:Nat->Lv}{cl:Nat->List Wd->Me->Rz}{cd:Nat->List Dat->Rd}{lo:Nat}{RR:Nat->Prop}{m:Me}{de:aO}{lv:List Lv}{env:En}{A:Nat->List Nat}
set_option tactic.hygienic true in
def xB (h:xJ de j=some ds):de[j]?=some (some (.lst ds)):=by
 unfold xJ at h;split at h
 .next z=>cases h;exact z
 .cases h
set_option tactic.hygienic true in
def nQ (h:fZ j r de lv f=some de1):
  ∃k ds p es es1,r=.int k/\de[j]?=some (some (.lst ds))/\ix ds.length k=some p/\ds[p]?=some (.lst es)/\f es=some es1/\lv[j]?=some .full/\de1=de.set j (some (.lst (ds.set p (.lst es1)))):=by
 unfold fZ at h;split at h
 .next k ds h1=>
  split at h
  .next ds1 h2=>
   split at h
   .next h3=>
    cases h;obtain⟨p,h4,h5⟩:=QS.mp h2;obtain⟨d,h6,h7⟩:=QS.mp h5;split at h7
    .next es=>
     obtain⟨es1,h8,h9⟩:=QX.mp h7;exact⟨k,ds,p,es,es1,rfl,xB h1,h4,h6,h8,h3,by rw[h9]⟩
    .cases h7
   .cases h
  .cases h
 .cases h
def Eg (hm:m[l]?=some (.lst xs))(hk:ix xs.length k=some p)(hp:xs[p]?=some w):vZ (.ref l) (.int k) m=.ok w m:=by
 simp[vZ,yF,zK,hm,hk,hp]
def wz (h:env[j]?=some (some w))(m:Me):af cl (.var j) env m=.ok w m:=by
 exact kM h m
def EF(H:br lev cl cd)(I:Inv lo RR m de lv env A)(i:Nat)(e:Ex):aH lo RR A m (aF cl (.asg i e) env m) (aG lev cd (.asg i e) de lv):=by
 have h:aH lo RR A m ((af cl e env m).bindS env λw m1=>.next (env.set i (some w)) m1) ((ao cd e de).bindS λd=>jr lev i e d de lv):=by
  cases z:ao cd e de with
  |no=>trivial
  |exc c d=>
   have:=I.bindE H.r e (f:=λw m1=>.next (env.set i (some w)) m1) (g:=λd=>.no) (λ_ _ _ _ _ _ _=>trivial);rw[z]at this;exact this
  |ok d=>
   show aH lo RR A m _ (jr lev i e d de lv);unfold jr;by_cases f:aV lev e d=.full
   .rw[MN f];have h:=wL H e RR m de env (I.envR _);rw[z]at h;obtain⟨w,m1,B,h2,l,r,nd,hB⟩:=h;rw[h2];rw[f]at r;obtain⟨I',K⟩:=I.store l i (l:=.full) (d:=d) (w:=w) (B:=B) r nd hB;exact⟨_,_,_,rfl,I',K⟩
   .rw[MO f];obtain⟨A1,I1,K1,_,h⟩:=I.relEv H e;rw[z]at h;obtain⟨w,m1,B,h2,l,r,nd,hB⟩:=h;rw[h2];obtain⟨I',K⟩:=I1.store l i (l:=aV lev e d) (d:=d) (w:=w) (B:=B) r nd hB;exact⟨_,_,_,rfl,I',K1.trans K⟩
 exact h
set_option tactic.hygienic true in
def gA (H:br lev cl cd)(I:Inv lo RR m de lv env A)(hd:de[j]?=some (some (.lst ds)))(h1:ao cd e de=.ok d)(h2:af cl e env m=.ok w m1)(l1:Le m m1)(l2:Le m1 m2)(g:wl lev e d j de lv=some (de1,lv1))(F:List Dat->Dat->List Dat)(G:List Wd->Wd->List Wd)(cF:∀(m m1:Me) (A:Nat->List Nat) (ds:List Dat) (xs:List Wd) (d:Dat) (w:Wd) (B0:List Nat),Le m m1->bh m1 d w B0->B0.Nodup->(∀b∈B0,m.length<=b)->ee RR A m m1 ds xs (F ds d) (G xs w))(cM:∀(m:Me) (ds:List Dat) (xs:List Wd) (d:Dat) (w:Wd) (B B0:List Nat),(B++B0).Nodup->av m ds xs B->bh m d w B0->∃B',av m (F ds d) (G xs w) B'/\B'.Nodup/\∀b∈B',b∈B\/b∈B0)(cT:∀(R:Nat->Prop) (m:Me) (ds:List Dat) (xs:List Wd) (d:Dat) (w:Wd),ae R m ds xs->ai R m d w->ae R m (F ds d) (G xs w)):
  ∃l xs,env[j]?=some (some (.ref l))/\m2[l]?=some (.lst xs)/\ds.length=xs.length/\∃A',Inv lo RR (m2.set l (.lst (G xs w))) (de1.set j (some (.lst (F ds d)))) lv1 env A'/\bj A m A' (m2.set l (.lst (G xs w))):=by
 have l12:=l1.trans l2;unfold wl at g;split at g
 .cases g
 .next ho=>
  have ho:yo lv j=true:=by simpa using ho
  split at g
  .next f=>
   cases g;obtain⟨B,r,nd,hB⟩:=I.own H h1 h2;rw[f]at r;obtain⟨l,xs,he,hm,hr,put⟩:=I.mut hd ho;have r':bh m2 d w B:=bh.frame d w B (λx _ o z=>l2 x o z) r;refine⟨l,xs,he,l12 l _ hm,hr.len,put m2 _ _ l12 (λ_=>(cF m m2 A ds xs d w B l12 r' nd hB).1) (λ_=>(cF m m2 A ds xs d w B l12 r' nd hB).2)⟩
  .next f=>
   split at g
   .cases g
   .next hj=>
    have share:lv1=(wg e de lv).set j .top->de1=de->∃l xs,env[j]?=some (some (.ref l))/\m2[l]?=some (.lst xs)/\ds.length=xs.length/\∃A',Inv lo RR (m2.set l (.lst (G xs w))) (de1.set j (some (.lst (F ds d)))) lv1 env A'/\bj A m A' (m2.set l (.lst (G xs w))):=by
     rintro rfl rfl;obtain⟨A1,I1,K1,hA1,h⟩:=I.relEv H e;rw[h1]at h;have ho1:yo (wg e de1 lv) j=true:=by unfold yo;rw[uX e _ _ hj];exact ho
     obtain⟨l,xs,A2,I2,K2,g1,g2,he,hm,hr,hlA⟩:=I1.top j hd ho1;have hs:=h.sim;obtain⟨w',m',h3,_,rw0⟩:=hs;rw[h2]at h3;cases h3;have hjl:j<(wg e de1 lv).length:=by rw[I1.lvl];exact(Qa.mp hd).1
     have ho2:yo ((wg e de1 lv).set j .top) j=true:=by unfold yo;rw[Qy,MN rfl,MN hjl]
     have hlv:((wg e de1 lv).set j .top)[j]?=some .top:=by rw[Qy,MN rfl,MN hjl]
     obtain⟨l',xs',he',hm',_,put⟩:=I2.mut hd ho2;rw[he]at he';cases he';rw[hm]at hm';cases hm';obtain⟨A3,I3,K3⟩:=put m2 (F ds d) (G xs w) l12 (λz=>by rw[hlv]at z;cases z) (λ_ q=>by
      refine cT _ m2 ds xs d w (ae.frame (λx o r z=>⟨.inl r,l12 x o z⟩) _ _ q) (ai.frame (λx o r z=>⟨?_,l2 x o z⟩) _ _ rw0);rcases r with r|r
      .left
       refine⟨r.1,λk hk=>?_⟩;by_cases ek:k=j
       .rw[ek,g1]at hk;rw[QN.mp hk]at r;exact r.2 j hlA
       .rw[g2 k ek]at hk;exact r.2 k hk
      .exact .inr r)
     exact⟨l,xs,he,l12 l _ hm,hr.len,A3,I3,(K1.trans K2).trans K3⟩
    split at g
    .next i=>
     split at g
     .next hfull=>
      cases g;have hij:i≠j:=λe=>hj (by rw[e];exact QN.mpr rfl)
      -- the move
      have hdi:de[i]?=some (some d):=by
       exact uv h1
      obtain⟨wi,hei,ri⟩:=I.slot i d .full hdi hfull.1;have:af cl (.var i) env m=.ok wi m:=wz hei m;rw[this]at h2;cases h2;obtain⟨wj,hej,rj⟩:=I.slot j _ .full hd hfull.2;obtain⟨l,xs,B,rfl,hA,hm,r⟩:=aZ.mp rj;have hlm:=(Qa.mp hm).1;have nd:=I.nd j;rw[hA]at nd;obtain⟨n0,n1⟩:=QP.mp nd;have nBi:(B++A i).Nodup:=Qt.mpr ⟨n1,I.nd i,λx hx y hy e=>by
       subst e;exact hij (I.dj i j x hy (by rw[hA];exact Ql _ hx))⟩
      obtain⟨B',o,nB',hB'⟩:=cM m ds xs d w B (A i) nBi r ri;have lB':l∉B':=λz=>by
       rcases hB' l z with q|q
       .exact n0 q
       .exact hij (I.dj i j l q (by rw[hA];simp))
      have sub:∀x∈l::B',x∈A j\/x∈A i:=by
       intro x hx;rcases Qr.mp hx with rfl|hx
       .left;rw[hA];simp
       .rcases hB' x hx with q|q
        .left;rw[hA];exact Ql _ q
        .exact .inr q
      have hjl:j<de.length:=(Qa.mp hd).1;have hil:i<de.length:=(Qa.mp hdi).1;have ui:aJ (aJ A i []) j (l::B') i=[]:=by rw[zi hij,zn]
      have uo:∀k,k≠i->k≠j->aJ (aJ A i []) j (l::B') k=A k:=λk a b=>by rw[zi b,zi a]
      have ll2:=l2.len;refine⟨l,xs,hej,l2 l _ hm,r.len,aJ (aJ A i []) j (l::B'),?_⟩;refine I.put l2 (j:=j) (l:=l) (xs:=xs) (by rw[hA];simp) _ ?_ ?_ ?_ ?_ (by simp) rfl ?_ ?_
      .intro k x hx
       left
       by_cases e:k=j
       .rw[e,zn]at hx;rcases sub x hx with q|q
        .exact ⟨j,q⟩
        .exact ⟨i,q⟩
       .by_cases f:k=i
        .rw[f,ui]at hx;cases hx
        .rw[uo k f e]at hx;exact⟨k,hx⟩
      .intro k;by_cases e:k=j
       .rw[e,zn];exact QP.mpr ⟨lB',nB'⟩
       .by_cases f:k=i
        .rw[f,ui];simp
        .rw[uo k f e];exact I.nd k
      .have main:∀k x,k≠j->x∈l::B'->x∈aJ (aJ A i []) j (l::B') k->False:=by
        intro k x e hx hk;by_cases f:k=i
        .rw[f,ui]at hk;cases hk
        .rw[uo k f e]at hk;rcases sub x hx with q|q
         .exact e (I.dj k j x hk q)
         .exact f (I.dj k i x hk q)
       intro a b x ha hb;by_cases e:a=j
       .by_cases f:b=j
        .rw[e,f]
        .rw[e,zn]at ha;exact(main b x f ha hb).elim
       .by_cases f:b=j
        .rw[f,zn]at hb;exact(main a x e hb ha).elim
        .by_cases g:a=i
         .rw[g,ui]at ha;cases ha
         .by_cases h:b=i
          .rw[h,ui]at hb;cases hb
          .rw[uo a g e]at ha;rw[uo b h f]at hb;exact I.dj a b x ha hb
      .intro k x hx;by_cases e:k=j
       .rw[e,zn]at hx;rcases sub x hx with q|q
        .exact ⟨(I.bd j x q).1,Qh (I.bd j x q).2 ll2⟩
        .exact ⟨(I.bd i x q).1,Qh (I.bd i x q).2 ll2⟩
       .by_cases f:k=i
        .rw[f,ui]at hx;cases hx
        .rw[uo k f e]at hx;exact⟨(I.bd k x hx).1,Qh (I.bd k x hx).2 ll2⟩
      .intro k d' lk e g1 g2;rw[Qg (Ne.symm e)]at g1;by_cases f:k=i
       .rw[f,Qy,MN rfl,MN hil]at g1;cases g1
       .rw[Qg (Ne.symm f)]at g1;exact⟨g1,g2,uo k f e⟩
      .intro d' lj g1 g2;rw[Qy,MN rfl,MN (by simpa using hjl)]at g1;cases g1;rw[hfull.2]at g2;cases g2;refine⟨_,hej,?_⟩;rw[zn];exact aZ.mpr ⟨l,_,B',rfl,rfl,xp (l2 l _ hm),av.frame _ _ B' (λx hx o z=>by rw[zR (l:=l) (x:=x) (λe=>lB' (by rw[e];exact hx))];exact l2 x o z) o⟩
     .cases g;exact share rfl rfl
    .cases g;exact share rfl rfl
end
section
variable{lev:Nat->Lv}{cl:Nat->List Wd->Me->Rz}{cd:Nat->List Dat->Rd}{lo:Nat}{RR:Nat->Prop}{m:Me}{de:aO}{lv:List Lv}{env:En}{A:Nat->List Nat}
def lr (h1:af cl o env m=.ok x m1)(h2:af cl e env m1=.ok w m2)(hl:yC x m1=true:=by simp only[yC,aW];simp_all):af cl (.meth n o (.pair e .unit)) env m=cj n x [w] m2:=by
 show(af cl o env m).bind (λx m1=>match yC x m1 with|true=>((af cl e env m1).bind λa m2=>.ok (.tup [a]) m2).bind λy m2=>cj n x (zq y) m2|false=>.no)=_;rw[h1];show(match yC x m1 with|true=>((af cl e env m1).bind λa m2=>.ok (.tup [a]) m2).bind λy m2=>cj n x (zq y) m2|false=>.no)=_;rw[hl,h2];rfl
def uW (h1:af cl o env m=.ok x m1)(hl:yC x m1=true:=by simp only[yC,aW];simp_all):af cl (.meth n o .unit) env m=cj n x [] m1:=by
 show(af cl o env m).bind (λx m1=>match yC x m1 with|true=>cj n x [] m1|false=>.no)=_;rw[h1];show(match yC x m1 with|true=>cj n x [] m1|false=>.no)=_;rw[hl]
def EE (n:(B++B0).Nodup)(a:av m ds xs B)(b:bh m d w B0):∃B',av m (ds++[d]) (xs++[w]) B'/\B'.Nodup/\∀b∈B',b∈B\/b∈B0:=
 ⟨B++(B0++[]),a.app (.cons b .nil),by simpa using n,λx hx=>by simpa using hx⟩
def ED (p:Nat)(n:(B++B0).Nodup)(a:av m ds xs B)(b:bh m d w B0):∃B',av m (ds.set p d) (xs.set p w) B'/\B'.Nodup/\∀b∈B',b∈B\/b∈B0:=by
 cases hp:ds[p]? with
 |none=>
  have h1:ds.length<=p:=Wk.mp hp;rw[Wz h1,Wz (by rw[<-a.len];exact h1)];exact⟨B,a,(Qt.mp n).1,λb hb=>.inl hb⟩
 |some e=>
  obtain⟨y,B1,Bp,B2,h1,rfl,h3,_,h4⟩:=av.split a hp;refine⟨B1++(B0++B2),h4 m d w B0 (λl _ o z=>z) b,?_,?_⟩
  .obtain ⟨q1,q2,q3⟩:=Qt.mp n;obtain⟨n1,n2,n3⟩:=Qt.mp q1;obtain⟨n4,n5,n6⟩:=Qt.mp n2;refine Qt.mpr ⟨n1,Qt.mpr ⟨q2,n5,λx hx y hy e=>q3 y (by simp[hy]) x hx e.symm⟩,λx hx y hy e=>?_⟩;rcases Qz.mp hy with hy|hy
   .exact q3 x (by simp[hx]) y hy e
   .exact n3 x hx y (by simp[hy]) e
  .intro x hx;simp only[Qz]at hx ⊢;rcases hx with z|z|z
   .exact .inl (.inl z)
   .exact .inr z
   .exact .inl (.inr (.inr z))
theorem aH.okS{r:Rs}{rd:Rd}{g:Dat->bQ}(h:∀d,rd=.ok d->aH lo RR A m r (g d)):aH lo RR A m r (rd.okS g):=by
 cases rd with
 |ok d=>exact h d rfl
 |_=>trivial
theorem Inv.ok (H:aU cl cd)(I:Inv lo RR m de lv env A)(h:ao cd e de=.ok d)(l:Le m m1):∃w m2,af cl e env m1=.ok w m2/\Le m1 m2/\ai RR m2 d w:=by
 have q:=zj H e RR m1 de env ((I.ext l).envR _);rw[h]at q;obtain⟨w,m2,a,b,c⟩:=q;exact⟨w,m2,a,b,(I.ext l).rf c⟩
def Inv.isRef (I:Inv lo RR m de lv env A){j:Nat}(hd:de[j]?=some (some (.lst ds)))(he:env[j]?=some (some w)):yC w m=true:=by
 obtain⟨lj,hl⟩:=I.getlv hd;obtain⟨w',a,b⟩:=I.slot j _ lj hd hl;rw[he]at a;cases a;obtain⟨l,xs,rfl,_,hm,_⟩:=au.mp (b.rep (R':=λ_=>True) (λ_ _=>trivial) (λ_ _=>trivial));simp[yC,aW,hm]
set_option tactic.hygienic true in
def F4(H:br lev cl cd)(I:Inv lo RR m de lv env A)(j:Nat)(e:Ex):aH lo RR A m (aF cl (.expr (.meth .append (.var j) (.pair e .unit))) env m) (aG lev cd (.expr (.meth .append (.var j) (.pair e .unit))) de lv):=by
 show aH _ _ _ _ ((af cl _ env m).bindS env _) _;refine aH.okS λd h1=>?_;split
 .next ds hl=>
  split
  .next hlim=>
   split
   .next de1 lv1 g=>
    obtain⟨w,m1,h2,l1,r1⟩:=I.ok H.r h1 (Le.refl m);obtain⟨l,xs,he,hm,hlen,A',I',K⟩:=gA H I (xB hl) h1 h2 l1 (Le.refl m1) g (λds d=>ds++[d]) (λxs w=>xs++[w])
     (λ_ _ _ _ _ _ _ _ le o nd hB=>nS le o nd hB) (λ_ _ _ _ _ _ _ n a b=>EE n a b) (λ_ _ _ _ _ _ a b=>a.app (.cons b .nil))
    rw[lr (wz he m) h2 (I.isRef (xB hl) he)];have:cj .append (.ref l) [w] m1=.ok .non (m1.set l (.lst (xs++[w]))):=by
     simp only[cj,hm];rw[MN (by lia)]
    rw[this];exact⟨_,_,A',rfl,I',K⟩
   .trivial
  .trivial
 .trivial
def F0 (n:(B++B0).Nodup)(a:av m ds xs B)(b:bh m d w B0):∃B',av m (d::ds) (w::xs) B'/\B'.Nodup/\∀b∈B',b∈B\/b∈B0:=by
 obtain⟨n1,n2,n3⟩:=Qt.mp n;exact⟨B0++B,.cons b a,Qt.mpr ⟨n2,n1,λx hx y hy e=>n3 y hy x hx e.symm⟩,λx hx=>(Qz.mp hx).elim .inr .inl⟩
set_option tactic.hygienic true in
def FZ(H:br lev cl cd)(I:Inv lo RR m de lv env A)(j:Nat)(e:Ex):aH lo RR A m (aF cl (.expr (.meth .insert (.var j) (.pair (.lit (.int 0)) (.pair e .unit)))) env m) (aG lev cd (.expr (.meth .insert (.var j) (.pair (.lit (.int 0)) (.pair e .unit)))) de lv):=by
 show aH _ _ _ _ ((af cl _ env m).bindS env _) _;refine aH.okS λd h1=>?_;split
 .next ds hl=>
  split
  .next hlim=>
   split
   .next de1 lv1 g=>
    obtain⟨w,m1,h2,l1,r1⟩:=I.ok H.r h1 (Le.refl m);obtain⟨l,xs,he,hm,hlen,A',I',K⟩:=gA H I (xB hl) h1 h2 l1 (Le.refl m1) g (λds d=>d::ds) (λxs w=>w::xs)
     (λ_ _ _ _ _ _ _ _ le o nd hB=>F8 le o nd hB) (λ_ _ _ _ _ _ _ n a b=>F0 n a b) (λ_ _ _ _ _ _ a b=>.cons b a)
    have hev:af cl (.meth .insert (.var j) (.pair (.lit (.int 0)) (.pair e .unit))) env m=cj .insert (.ref l) [.int 0,w] m1:=by
     show(af cl (.var j) env m).bind (λx m1=>match yC x m1 with|true=>(((af cl e env m1).bind λa m2=>.ok (.tup [a]) m2).bind λy m2=>.ok (.tup (.int 0::zq y)) m2).bind λy m2=>cj .insert x (zq y) m2|false=>.no)=_;rw[wz he m];show(match yC (.ref l) m with|true=>((((af cl e env m).bind λa m2=>.ok (.tup [a]) m2).bind λy m2=>.ok (.tup (.int 0::zq y)) m2).bind λy m2=>cj .insert (.ref l) (zq y) m2)|false=>.no)=_;rw[I.isRef (xB hl) he,h2];rfl
    rw[hev];have:cj .insert (.ref l) [.int 0,w] m1=.ok .non (m1.set l (.lst (w::xs))):=by
     simp only[cj,hm];rw[MN ⟨trivial,by lia⟩]
    rw[this];exact⟨_,_,A',rfl,I',K⟩
   .trivial
  .trivial
 .trivial
set_option tactic.hygienic true in
def FY(I:Inv lo RR m de lv env A)(j:Nat):aH lo RR A m (aF cl (.expr (.meth .reverse (.var j) .unit)) env m) (aG lev cd (.expr (.meth .reverse (.var j) .unit)) de lv):=by
 show aH _ _ _ _ ((af cl _ env m).bindS env _) (match xJ de j with
   |some ds=>if yo lv j then .next (de.set j (some (.lst ds.reverse))) lv else .no
   |none=>.no)
 split
 .next ds hl=>
  split
  .next ho=>
   obtain⟨l,xs,he,hm,hr,put⟩:=I.mut (xB hl) ho;obtain⟨A',I',K⟩:=put m ds.reverse xs.reverse (Le.refl m) (λ_=>(dA (RR:=RR) (A:=A)).1) (λ_=>dA.2);rw[uW (wz he m)];have:cj .reverse (.ref l) [] m=.ok .non (m.set l (.lst xs.reverse)):=by simp only[cj,hm]
   rw[this];exact⟨_,_,A',rfl,I',K⟩
  .trivial
 .trivial
def nl (H:aU cl cd)(I:Inv lo RR m de lv env A){ds:List Dat}(hr:ao cd r de=.ok (.int k))(hp:ix ds.length k=some p)(he:env[j]?=some (some (.ref l)))(hm:m[l]?=some (.lst xs))(hlen:ds.length=xs.length)(hx:xs[p]?=some (.ref l2))(l0:Le m m0):
  ∃m1,af cl (.idx (.var j) r) env m0=.ok (.ref l2) m1/\Le m0 m1:=by
 obtain⟨w,m1,h2,l1,r1⟩:=I.ok H hr l0;rw[aa.mp r1]at h2;refine⟨m1,?_,l1⟩;show(af cl (.var j) env m0).bind (λx m1=>(af cl r env m1).bind λy m2=>vZ x y m2)=_;rw[wz he m0];simp only[Rz.bind,h2];exact Eg (l1 l _ (l0 l _ hm)) (by rw[<-hlen];exact hp) hx
def nP (h:∀de1,o=some de1->aH lo RR A m r (.next de1 lv1)):aH lo RR A m r (lJ o lv1):=by
 cases o with
 |none=>trivial
 |some d=>exact h d rfl
set_option tactic.hygienic true in
def FX(H:br lev cl cd)(I:Inv lo RR m de lv env A)(j:Nat)(r e:Ex):aH lo RR A m (aF cl (.expr (.meth .append (.idx (.var j) r) (.pair e .unit))) env m) (aG lev cd (.expr (.meth .append (.idx (.var j) r) (.pair e .unit))) de lv):=by
 show aH _ _ _ _ ((af cl _ env m).bindS env _) _;refine aH.okS λrv hr=>aH.okS λd h1=>?_;split
 .next f=>
  refine nP λde1 h=>?_;obtain⟨k,ds,p,es,es1,rfl,hd,hp,hps,hf,hlv,rfl⟩:=nQ h;split at hf
  .next hlim=>
   cases hf;obtain⟨l,xs,l2,us,he,hm,hx,hm2,hlen,hrep,put,_⟩:=I.mutIn hd hlv hps;obtain⟨m1,h3,l1⟩:=nl H.r I hr hp he hm hlen hx (Le.refl m);obtain⟨w,m2,h4,l2',r4⟩:=I.ok H.r h1 l1;obtain⟨B,ro,nd,hB⟩:=(I.ext l1).own H h1 h4;rw[f]at ro;have ch:ee RR A m m2 es us (es++[d]) (us++[w]):=nS (l1.trans l2') ro nd (λb hb=>Qp l1.len (hB b hb));obtain⟨A',I',K⟩:=put m2 _ _ (l1.trans l2') ch.1;rw[lr h3 h4 (by simp[yC,aW,l1 _ _ hm2])];have e1:=hrep.len;have:cj .append (.ref l2) [w] m2=.ok .non (m2.set l2 (.lst (us++[w]))):=by
    simp only[cj,l2' _ _ (l1 _ _ hm2)];rw[MN (by lia)]
   rw[this];exact⟨_,_,A',rfl,I',K⟩
  .cases hf
 .trivial
end
section
variable{lev:Nat->Lv}{cl:Nat->List Wd->Me->Rz}{cd:Nat->List Dat->Rd}{lo:Nat}{RR:Nat->Prop}{m:Me}{de:aO}{lv:List Lv}{env:En}{A:Nat->List Nat}
mutual
theorem ai.avoid{R R':Nat->Prop}{m:Me}{D:Dat}{l:Nat}(hD:ai R' m D (.ref l)):∀(d:Dat) (w:Wd),dY d<dY D->ai R m d w->ai (λx=>R x/\x≠l) m d w
 |.non,w,h,q=>am.mpr (am.mp q)
 |.bl _,w,h,q=>ah.mpr (ah.mp q)
 |.int _,w,h,q=>aa.mpr (aa.mp q)
 |.str _,w,h,q=>az.mpr (az.mp q)
 |.scr _,w,h,q=>aY.mpr (aY.mp q)
 |.tup ds,w,h,q=>by
  obtain⟨xs,rfl,q1⟩:=aj.mp q;exact aj.mpr ⟨xs,rfl,ae.avoid hD ds xs (by rw[show dY (.tup ds)=du ds+1 from by simp[dY]]at h;lia) q1⟩
 |.lst ds,w,h,q=>by
  obtain⟨k,xs,rfl,r,hm,q1⟩:=au.mp q;refine au.mpr ⟨k,xs,rfl,⟨r,λe=>?_⟩,hm,ae.avoid hD ds xs (by rw[show dY (.lst ds)=du ds+1 from by simp[dY]]at h;lia) q1⟩;subst e;have:=ai.det _ _ _ q hD;rw[this]at h;lia
theorem ae.avoid{R R':Nat->Prop}{m:Me}{D:Dat}{l:Nat}(hD:ai R' m D (.ref l)):∀(ds:List Dat) (xs:List Wd),du ds<dY D->ae R m ds xs->ae (λx=>R x/\x≠l) m ds xs
 |[],xs,h,q=>by rw[q.nil_inv];exact .nil
 |d::ds,xs,h,q=>by
  obtain⟨x,r,rfl,a,b⟩:=q.cons_inv;unfold du at h;exact .cons (ai.avoid hD d x (by lia) a) (ae.avoid hD ds r (by lia) b)
end
def lq (hm:m[l]?=some (.lst xs))(hk:ix xs.length k=some p):km (.ref l) (.int k) w m=.ok .non (m.set l (.lst (xs.set p w))):=by
 simp[km,hm,hk]
set_option tactic.hygienic true in
def FW(H:br lev cl cd)(I:Inv lo RR m de lv env A)(j:Nat)(k e:Ex):aH lo RR A m (aF cl (.asgS (.var j) k e) env m) (aG lev cd (.asgS (.var j) k e) de lv):=by
 show aH _ _ _ _ ((af cl e env m).bindS env _) _;refine aH.okS λd h1=>aH.okS λkv hk=>?_;unfold sv;split
 .next k' ds hl=>
  have hd:=xB hl;split
  .next p hp=>
   obtain⟨w,m1,h2,l1,r1⟩:=I.ok H.r h1 (Le.refl m);obtain⟨wk,m2,h3,l2,r3⟩:=I.ok H.r hk l1;rw[aa.mp r3]at h3;split
   .next de1 lv1 g=>
    obtain⟨l,xs,he,hm,hlen,A',I',K⟩:=gA H I hd h1 h2 l1 l2 g (λds d=>ds.set p d) (λxs w=>xs.set p w)
     (λ_ _ _ _ _ _ _ _ le o nd hB=>uZ p le o nd hB) (λ_ _ _ _ _ _ _ n a b=>ED p n a b) (λ_ _ _ _ _ _ a b=>a.set p b)
    simp only[h2,Rz.bindS,wz he m1,h3,lq hm (by rw[<-hlen];exact hp)];exact⟨_,_,A',rfl,I',K⟩
   .next g=>
    split
    .next c=>
     simp only[Qj,MU]at c;obtain⟨⟨ho,hdep⟩,_⟩:=c;obtain⟨l,xs,A0,I0,K0,g1,g2,he,hm,hr,hlA⟩:=I.top j hd ho;obtain⟨A1,I1,K1,q1,q2,q3⟩:=Inv.downs ((zv e).filter (·≠j)) I0;have hA1j:A1 j=[l]:=by rw[q3 j (by simp),g1]
     have elv:bb ((zv e).filter (·≠j)) (lv.set j .top)=(bb (zv e) lv).set j .top:=by
      apply Wr;intro i;rw[xu,Qy];by_cases ei:j=i
      .subst ei;rw[MO (by simp),MN rfl,Qy,MN rfl,js]
      .rw[MO ei,Qg ei,xu,Wp];have:(i∈(zv e).filter (·≠j))↔i∈zv e:=by simp[Vn];intro _;exact λz=>ei z.symm
       simp only[this]
     rw[elv]at I1;have lno:∀i∈zv e,i≠j->∀x,((bb (zv e) lv).set j .top)[i]?=some x->x=.no:=by
      intro i hi hij x hx;rw[Qg (Ne.symm hij),xu]at hx;split at hx
      .cases hx;rfl
      .next z=>rw[Qq (by have:¬i<lv.length:=λq=>z ⟨hi,q⟩;lia)]at hx;cases hx
     have hr1:ae (xg RR A1) m ds xs:=(K1.repL hr);have env1:bN (λx=>xg RR A1 x\/x=l) m (zv e) de env:=by
      refine⟨I1.len,λi hi d' hd'=>?_⟩;by_cases ei:i=j
      .subst ei;rw[hd]at hd';cases hd';exact⟨_,he,au.mpr ⟨l,xs,rfl,.inr rfl,hm,ae.frame (λx o r z=>⟨.inl r,z⟩) _ _ hr1⟩⟩
      .obtain ⟨li,hli⟩:=I1.getlv hd';obtain⟨w',a,b⟩:=I1.slot i d' li hd' hli;rw[lno i hi ei li hli]at b;exact⟨w',a,ai.frame (λx o r z=>⟨.inl r,z⟩) _ _ b.1⟩
     have hs:=zj H.r e _ m de env env1;rw[h1]at hs;obtain⟨w',m1',h2',_,rw1⟩:=hs;rw[h2]at h2';cases h2';have rwa:=ai.avoid (D:=.lst ds) (l:=l) (R':=λ_=>True) (m:=m1) (au.mpr ⟨l,xs,rfl,trivial,l1 l _ hm,ae.frame (λx o r z=>⟨trivial,l1 x o z⟩) _ _ hr1⟩) d w hdep rw1;have hlm:=(Qa.mp hm).1;have hjl:j<lv.length:=by rw[I.lvl];exact(Qa.mp hd).1
     have hlv:((bb (zv e) lv).set j .top)[j]?=some .top:=by rw[Qy,MN rfl,MN (by rw[js];exact hjl)]
     obtain⟨l',xs',he',hm',hrr,put⟩:=I1.mut hd (by unfold yo;rw[hlv]);rw[he]at he';cases he';rw[hm]at hm';cases hm';obtain⟨A3,I3,K3⟩:=put m2 (ds.set p d) (xs.set p w) (l1.trans l2) (λz=>by rw[hlv]at z;cases z) (λ_ q=>by
      refine ae.set (ae.frame (λx o r z=>⟨.inl r,(l1.trans l2) x o z⟩) _ _ q) p (ai.frame (λx o r z=>⟨?_,l2 x o z⟩) _ _ rwa);rcases r.1 with (r1|r1)|r1
      .exact .inl r1
      .exact MP r1 r.2
      .exact .inr r1)
     simp only[h2,Rz.bindS,wz he m1,h3,lq (l2 l _ (l1 l _ hm)) (by rw[<-hr.len];exact hp)];exact⟨_,_,A3,rfl,I3,(K0.trans K1).trans K3⟩
    .trivial
  .trivial
 .trivial
set_option tactic.hygienic true in
def AE (h:lg k d es=some es1):∃i p,k=.int i/\ix es.length i=some p/\es1=es.set p d:=by
 unfold lg at h;split at h
 .next i=>obtain⟨p,a,b⟩:=QX.mp h;exact⟨i,p,rfl,a,b.symm⟩
 .cases h
set_option tactic.hygienic true in
def GD(H:br lev cl cd)(I:Inv lo RR m de lv env A)(j:Nat)(r k e:Ex):aH lo RR A m (aF cl (.asgS (.idx (.var j) r) k e) env m) (aG lev cd (.asgS (.idx (.var j) r) k e) de lv):=by
 show aH _ _ _ _ ((af cl e env m).bindS env _) _;refine aH.okS λd h1=>aH.okS λrv hr=>aH.okS λkv hk=>?_;obtain⟨w,m1,h2,l1,r1⟩:=I.ok H.r h1 (Le.refl m);split
 .next f=>
  refine nP λde1 h=>?_;obtain⟨rk,ds,p,es,es1,rfl,hd,hp,hps,hf,hlv,rfl⟩:=nQ h;obtain⟨i,q,rfl,hq,rfl⟩:=AE hf;obtain⟨l,xs,l2,us,he,hm,hx,hm2,hlen,hrep,put,_⟩:=I.mutIn hd hlv hps;obtain⟨m2,h3,l2'⟩:=nl H.r I hr hp he hm hlen hx l1;obtain⟨wk,m3,h4,l3,r4⟩:=I.ok H.r hk (l1.trans l2');rw[aa.mp r4]at h4;obtain⟨B,ro,nd,hB⟩:=I.own H h1 h2;rw[f]at ro;have l123:=(l1.trans l2').trans l3;have ro':bh m3 d w B:=bh.frame d w B (λx _ o z=>l3 x o (l2' x o z)) ro;have ch:ee RR A m m3 es us (es.set q d) (us.set q w):=uZ q l123 ro' nd hB;obtain⟨A',I',K⟩:=put m3 _ _ l123 ch.1;simp only[h2,Rz.bindS,h3,h4,lq (l123 _ _ hm2) (by rw[<-hrep.len];exact hq)];exact⟨_,_,A',rfl,I',K⟩
 .next f=>
  split
  .trivial
  .next hj=>
   refine nP λde1 h=>?_;obtain⟨rk,ds,p,es,es1,rfl,hd,hp,hps,hf,hlv,rfl⟩:=nQ h;obtain⟨i,q,rfl,hq,rfl⟩:=AE hf;obtain⟨A1,I1,K1,_,hso⟩:=I.relEv H e;rw[h1]at hso;obtain⟨w',m1',h2',_,rw1⟩:=hso.sim;rw[h2]at h2';cases h2';obtain⟨l,xs,l2,us,he,hm,hx,hm2,hlen,hrep,_,put⟩:=I1.mutIn hd (by rw[uX e _ _ hj];exact hlv) hps;obtain⟨m2,h3,l2'⟩:=nl H.r I hr hp he hm hlen hx l1;obtain⟨wk,m3,h4,l3,r4⟩:=I.ok H.r hk (l1.trans l2');rw[aa.mp r4]at h4;have l123:=(l1.trans l2').trans l3;obtain⟨A',I',K⟩:=put m3 q d w l123 (ai.frame (λx o r z=>⟨r,l3 x o (l2' x o z)⟩) _ _ rw1);simp only[h2,Rz.bindS,h3,h4,lq (l123 _ _ hm2) (by rw[<-hrep.len];exact hq)];exact⟨_,_,A',rfl,I',K1.trans K⟩
end
section
variable{lev:Nat->Lv}{cl:Nat->List Wd->Me->Rz}{cd:Nat->List Dat->Rd}{lo:Nat}{RR:Nat->Prop}
set_option tactic.hygienic true in
def Inv.bindSlot{m:Me}{de:aO}{lv:List Lv}{env:En}{A:Nat->List Nat}(I:Inv lo RR m de lv env A)(i:Nat){d:Dat}{w:Wd}(h:ai (xg RR A) m d w):Inv lo RR m (de.set i (some d)) (lv.set i (bo d)) (env.set i (some w)) (aJ A i [])/\bj A m (aJ A i []) m:=by
 refine I.store (Le.refl m) i (B:=[]) ?_ QB (by simp);unfold bo;split
 .next f=>exact h.flat d w f
 .exact ⟨ai.frame (λx o r z=>⟨⟨.inl r,by simp⟩,z⟩) _ _ h,rfl⟩
set_option tactic.hygienic true in
theorem vS (hb:∀x w m de lv env A,Inv lo RR m de lv env A->ai (xg RR A) m x w->aH lo RR A m (bw w env m) (bd x de lv)):
  ∀(ds:List Dat) (xs:List Wd) (m:Me) (de:aO) (lv:List Lv) (env:En) (A:Nat->List Nat),Inv lo RR m de lv env A->ae (xg RR A) m ds xs->aH lo RR A m (ww bw xs env m) (yB bd ds de lv)
 |[],xs,m,de,lv,env,A,I,r=>by
  rw[r.nil_inv];exact⟨env,m,A,rfl,I,bj.refl A m⟩
 |d::ds,xs,m,de,lv,env,A,I,r=>by
  obtain⟨x,xs,rfl,a,b⟩:=r.cons_inv;have h:=hb d x m de lv env A I a;unfold ww yB;cases z:bd d de lv with
  |next d1 l1=>
   rw[z]at h;obtain⟨e1,m1,A1,h1,I1,K1⟩:=h;rw[h1];exact aH.keep K1 (vS hb ds xs m1 d1 l1 e1 A1 I1 (K1.repL b))
  |cont d1 l1=>
   rw[z]at h;obtain⟨e1,m1,A1,h1,I1,K1⟩:=h;rw[h1];exact aH.keep K1 (vS hb ds xs m1 d1 l1 e1 A1 I1 (K1.repL b))
  |brk d1 l1=>
   rw[z]at h;obtain⟨e1,m1,A1,h1,I1,K1⟩:=h;rw[h1];exact⟨e1,m1,A1,rfl,I1,K1⟩
  |ret d l=>
   rw[z]at h;obtain⟨w,m1,B,h1,k⟩:=h;rw[h1];exact⟨w,m1,B,rfl,k⟩
  |exc c d=>
   rw[z]at h;obtain⟨w,e,m1,h1,k⟩:=h;rw[h1];exact⟨w,e,m1,rfl,k⟩
  |no=>trivial
set_option tactic.hygienic true in
theorem jt (hb:∀x w m de lv env A,Inv lo RR m de lv env A->ai (xg RR A) m x w->aH lo RR A m (bw w env m) (bd x de lv)):
  ∀(ds:List Dat) (i k:Nat) (m:Me) (de:aO) (lv:List Lv) (env:En) (A:Nat->List Nat),Inv lo RR m de lv env A->(∀k,l∉A k)->m[l]?=some (.lst xs0)->ae (xg RR A) m ds (xs0.drop i)->i+ds.length=xs0.length->ds.length<k->aH lo RR A m (wc bw l k i env m) (yB bd ds de lv)
 |[],i,0,m,de,lv,env,A,I,hl,hm,r,hi,hk=>by simp at hk
 |d::ds,i,0,m,de,lv,env,A,I,hl,hm,r,hi,hk=>by simp at hk
 |[],i,k+1,m,de,lv,env,A,I,hl,hm,r,hi,hk=>by
  unfold wc yB zK;rw[hm];simp only;rw[Qq (by simp at hi;lia)];exact⟨env,m,A,rfl,I,bj.refl A m⟩
 |d::ds,i,k+1,m,de,lv,env,A,I,hl,hm,r,hi,hk=>by
  obtain⟨x,q,e0,a,b⟩:=r.cons_inv;have hx:xs0[i]?=some x:=by
   have:(xs0.drop i)[0]?=some x:=by rw[e0];rfl
   simpa using this
  have hr:q=xs0.drop (i+1):=by
   have:(xs0.drop i).drop 1=q:=by rw[e0];rfl
   rw[<-this,WR]
  rw[hr]at b;have hi':i+1+ds.length=xs0.length:=by simp at hi;lia
  have hk':ds.length<k:=by simp at hk;lia
  have h:=hb d x m de lv env A I a;unfold wc yB zK;rw[hm];simp only;rw[hx];simp only;cases z:bd d de lv with
  |next d1 l1=>
   rw[z]at h;obtain⟨e1,m1,A1,h1,I1,K1⟩:=h;rw[h1];exact aH.keep K1 (jt hb ds (i+1) k m1 d1 l1 e1 A1 I1 (K1.1 l _ hl hm).1 (K1.1 l _ hl hm).2 (K1.repL b) hi' hk')
  |cont d1 l1=>
   rw[z]at h;obtain⟨e1,m1,A1,h1,I1,K1⟩:=h;rw[h1];exact aH.keep K1 (jt hb ds (i+1) k m1 d1 l1 e1 A1 I1 (K1.1 l _ hl hm).1 (K1.1 l _ hl hm).2 (K1.repL b) hi' hk')
  |brk d1 l1=>
   rw[z]at h;obtain⟨e1,m1,A1,h1,I1,K1⟩:=h;rw[h1];exact⟨e1,m1,A1,rfl,I1,K1⟩
  |ret d l=>
   rw[z]at h;obtain⟨w,m1,B,h1,k⟩:=h;rw[h1];exact⟨w,m1,B,rfl,k⟩
  |exc c d=>
   rw[z]at h;obtain⟨w,e,m1,h1,k⟩:=h;rw[h1];exact⟨w,e,m1,rfl,k⟩
  |no=>trivial
set_option tactic.hygienic true in
def uV{bw:Wd->En->Me->Rs}{bd:Dat->aO->List Lv->bQ}(H:br lev cl cd)(hb:∀x w m de lv env A,Inv lo RR m de lv env A->ai (xg RR A) m x w->aH lo RR A m (bw w env m) (bd x de lv)){m:Me}{de:aO}{lv:List Lv}{env:En}{A:Nat->List Nat}(I:Inv lo RR m de lv env A)(it:Ex):
  aH lo RR A m ((af cl it env m).bindS env λw m1=>fc bw w env m1) ((ao cd it de).bindS λd=>match cL d with
   |some xs=>yB bd xs de (if ax d then lv else wg it de lv)
   |none=>.no):=by
 have run:∀(d:Dat) (w:Wd) (m1:Me) (xs:List Dat) (lv1:List Lv) (A1:Nat->List Nat),cL d=some xs->Inv lo RR m1 de lv1 env A1->ai (xg RR A1) m1 d w->aH lo RR A1 m1 (fc bw w env m1) (yB bd xs de lv1):=by
  intro d w m1 xs lv1 A1 hi I1 r;cases d with
  |tup ds=>cases hi;obtain⟨ys,rfl,r1⟩:=aj.mp r;exact vS hb _ _ _ _ _ _ _ I1 r1
  |scr ns=>cases hi;rw[aY.mp r];exact vS hb _ _ _ _ _ _ _ I1 (dI ns)
  |lst ds=>
   simp only[cL]at hi;split at hi
   .next z=>
    cases hi;obtain⟨l,ys,rfl,hR,hm,r1⟩:=au.mp r;have:=r1.len;exact jt hb _ 0 (aq+1) m1 de lv1 env A1 I1 hR.2 hm (by simpa using r1) (by lia) (by lia)
   .cases hi
  |_=>cases hi
 cases z:ao cd it de with
 |no=>trivial
 |exc c d=>
  have:=I.bindE H.r it (f:=λw m1=>fc bw w env m1) (g:=λd=>.no) (λ_ _ _ _ _ _ _=>trivial);rw[z]at this;exact this
 |ok d=>
  show aH lo RR A m _ (match cL d with
   |some xs=>yB bd xs de (if ax d then lv else wg it de lv)
   |none=>.no)
  cases hi:cL d with
  |none=>trivial
  |some xs=>
   simp only;split
   .next f=>
    obtain⟨w,m1,h2,l1,r1⟩:=I.ok H.r z (Le.refl m);rw[h2];exact aH.keep (kR l1) (run d w m1 xs lv A hi (I.ext l1) (bh.rep d w [] (by simp) (r1.flat d w f)))
   .obtain ⟨A1,I1,K1,_,h⟩:=I.relEv H it;rw[z]at h;obtain⟨w,m1,h2,l1,r1⟩:=h.sim;rw[h2];refine aH.keep (K1.trans (kR l1)) (run d w m1 xs _ A1 hi (I1.ext l1) (ai.frame (λx o r z=>⟨?_,z⟩) _ _ r1));rcases r with r|r
    .exact r
    .exact ⟨I.rr x (Qp I.lom r),λk hk=>by have:=(I1.bd k x hk).2;lia⟩
set_option tactic.hygienic true in
theorem ju{cw:En->Me->Rz}{bw:En->Me->Rs}{c:aO->Rd}{bd:aO->List Lv->bQ}(hc:∀m de lv env A,Inv lo RR m de lv env A->match c de with |.ok d=>∃w m1,cw env m=.ok w m1/\Le m m1/\ai RR m1 d w |.exc k d=>∃w m1,cw env m=.exc k w m1/\Le m m1/\ai RR m1 d w |.no=>True)
  (hb:∀m de lv env A,Inv lo RR m de lv env A->aH lo RR A m (bw env m) (bd de lv)):∀(k:Nat) (m:Me) (de:aO) (lv:List Lv) (env:En) (A:Nat->List Nat),Inv lo RR m de lv env A->aH lo RR A m (jG cw bw k env m) (wY c bd k de lv)
 |0,m,de,lv,env,A,I=>trivial
 |k+1,m,de,lv,env,A,I=>by
  have h:=hc m de lv env A I;unfold jG wY;cases z:c de with
  |no=>trivial
  |exc j d=>
   rw[z]at h;obtain⟨w,m1,h1,l1,r1⟩:=h;rw[h1];exact⟨w,env,m1,rfl,⟨λx o _ b=>l1 x o b,l1.len⟩,r1⟩
  |ok d=>
   rw[z]at h;obtain⟨w,m1,h1,l1,r1⟩:=h;rw[h1];cases d with
   |bl b=>
    rw[ah.mp r1];cases b with
    |false=>exact⟨env,m1,A,rfl,I.ext l1,kR l1⟩
    |true=>
     have h2:=hb m1 de lv env A (I.ext l1);refine aH.keep (kR l1) ?_;simp only;cases z2:bd de lv with
     |next d1 l2=>
      rw[z2]at h2;obtain⟨e1,m2,A1,h3,I1,K1⟩:=h2;rw[h3];exact aH.keep K1 (ju hc hb k m2 d1 l2 e1 A1 I1)
     |cont d1 l2=>
      rw[z2]at h2;obtain⟨e1,m2,A1,h3,I1,K1⟩:=h2;rw[h3];exact aH.keep K1 (ju hc hb k m2 d1 l2 e1 A1 I1)
     |brk d1 l2=>
      rw[z2]at h2;obtain⟨e1,m2,A1,h3,I1,K1⟩:=h2;rw[h3];exact⟨e1,m2,A1,rfl,I1,K1⟩
     |ret d l=>
      rw[z2]at h2;obtain⟨w,m2,B,h3,k⟩:=h2;rw[h3];exact⟨w,m2,B,rfl,k⟩
     |exc c d=>
      rw[z2]at h2;obtain⟨w,e,m2,h3,k⟩:=h2;rw[h3];exact⟨w,e,m2,rfl,k⟩
     |no=>trivial
   |_=>trivial
def Inv.drop{m:Me}{de:aO}{lv:List Lv}{env:En}{A:Nat->List Nat}(I:Inv lo RR m de lv env A)(i:Nat)(hi:i<de.length):Inv lo RR m (de.set i none) (lv.set i .full) env A:=by
 refine⟨by simp[I.len],by simp[I.lvl],I.rr,I.lom,λk d l h1 h2=>?_,I.nd,I.dj,I.bd⟩;by_cases e:i=k
 .subst e;rw[Qy,MN rfl]at h1;split at h1
  .cases h1
  .cases h1
 .rw[Qg e]at h1 h2;exact I.slot k d l h1 h2
set_option tactic.hygienic true in
set_option tactic.hygienic true in
def IM (H:br lev cl cd)(I:Inv lo RR m de lv env A)(j a x:Nat)(e:Ex):aH lo RR A m (aF cl (.appPop j a x e) env m) (aG lev cd (.appPop j a x e) de lv):=by
 show aH _ _ _ _ ((af cl _ env m).bindS env _) (match xJ de x,de[a]?,xJ de j with
  |some (.int v::r),some (some (.int low)),some ds=>(ao cd e (de.set x (some (.lst r)))).okS λd=>match d with
   |.int k=>if j≠x/\a≠x/\yo lv j=true/\yo lv x=true/\0<k/\ds.length<aq then .next ((de.set x (some (.lst r))).set j (some (.lst (ds++[.int (low+v%k)])))) lv else .no
   |_=>.no
  |_,_,_=>.no)
 split
 .next v r low ds hx ha hj=>
  refine aH.okS λd he=>?_;split
  .next k=>
   split
   .next h=>
    obtain⟨hjx,hax,oj,ox,hk,hlim⟩:=h;have hdx:=xB hx;have hdj:=xB hj;obtain⟨lx,xs,e1,m1x,rx,putx⟩:=I.mut hdx ox;obtain⟨w0,xr,rfl,r0,rr⟩:=rx.cons_inv;rw[aa.mp r0]at m1x rx putx;obtain⟨A1,I1,K1⟩:=putx m r xr (Le.refl m) (λ_=>(AF (RR:=RR) (A:=A) (m:=m) (ds:=r) (xs:=xr) (d:=.int v) (w:=.int v)).1) (λ_=>(AF (RR:=RR) (A:=A) (m:=m) (ds:=r) (xs:=xr) (d:=.int v) (w:=.int v)).2);obtain⟨w,m2,h2,l2,r2⟩:=I1.ok H.r he (Le.refl _);rw[aa.mp r2]at h2;have hdj1:(de.set x (some (.lst r)))[j]?=some (some (.lst ds)):=by rw[Qg (Ne.symm hjx)];exact hdj
    obtain⟨lj,ys,e2,m2j,ry,putj⟩:=I1.mut hdj1 oj;have ow:bh m2 (.int (low+v%k)) (.int (low+v%k)) []:=(aa.mpr rfl:ai (λ_=>True) m2 (.int (low+v%k)) (.int (low+v%k))).flat _ _ rfl;have ch:ee RR A1 (m.set lx (.lst xr)) m2 ds ys (ds++[.int (low+v%k)]) (ys++[.int (low+v%k)]):=nS l2 (B0:=[]) ow QB (by simp);obtain⟨A2,I2,K2⟩:=putj m2 _ _ l2 (λ_=>ch.1) (λ_=>ch.2);obtain⟨la,hla⟩:=I.getlv ha;obtain⟨wa,ea,ra⟩:=I.slot a _ la ha hla;have hwa:wa=.int low:=by
     have t:ai (λ_=>True) m (.int low) wa:=ra.rep (λ_ _=>trivial) (λ_ _=>trivial);exact aa.mp t
    subst hwa;have hlen:=ry.len;have hpop:af cl (.meth .pop (.var x) (.pair (.lit (.int 0)) .unit)) env m=.ok (.int v) (m.set lx (.lst xr)):=by
     rw[lr (x:=.ref lx) (m1:=m) (w:=.int 0) (m2:=m) (wz e1 m) rfl];simp only[cj,m1x];rfl
    have hmod:af cl (.bin .mod (.meth .pop (.var x) (.pair (.lit (.int 0)) .unit)) e) env m=.ok (.int (v%k)) m2:=by
     show(af cl (.meth .pop (.var x) (.pair (.lit (.int 0)) .unit)) env m).bind _=_;rw[hpop];simp only[Rz.bind];rw[h2];simp only[cJ];rw[MN hk]
    have harg:af cl (.bin .add (.var a) (.bin .mod (.meth .pop (.var x) (.pair (.lit (.int 0)) .unit)) e)) env m=.ok (.int (low+v%k)) m2:=by
     show(af cl (.var a) env m).bind _=_;rw[wz ea m];simp only[Rz.bind];rw[hmod];rfl
    rw[lr (x:=.ref lj) (m1:=m) (wz e2 m) harg (I.isRef hdj e2)];have:cj .append (.ref lj) [.int (low+v%k)] m2=.ok .non (m2.set lj (.lst (ys++[.int (low+v%k)]))):=by
     simp only[cj,l2 _ _ m2j];rw[MN (by lia)]
    rw[this];exact⟨_,_,A2,rfl,I2,K1.trans K2⟩
   .trivial
  .trivial
 .trivial
set_option tactic.hygienic true in
def GC (I:Inv lo RR m de lv env A)(j:Nat):aH lo RR A m (aF cl (.expr (.meth .pop (.var j) .unit)) env m) (aG lev cd (.expr (.meth .pop (.var j) .unit)) de lv):=by
 show aH _ _ _ _ ((af cl _ env m).bindS env _) (match xJ de j with
   |some ds=>if yo lv j&&decide (ds.length≠0)then .next (de.set j (some (.lst ds.dropLast))) lv else .no
   |none=>.no)
 split
 .next ds hl=>
  split
  .next ho=>
   simp only[Qj,MU]at ho;obtain⟨l,xs,he,hm,hr,put⟩:=I.mut (xB hl) ho.1;obtain⟨A',I',K⟩:=put m ds.dropLast xs.dropLast (Le.refl m) (λ_=>(AG (RR:=RR) (A:=A)).1) (λ_=>(AG (RR:=RR) (A:=A)).2);have e1:=hr.len;obtain⟨y,hy⟩:∃y,xs[xs.length-1]?=some y:=⟨xs[xs.length-1]'(by lia),Qc (by lia)⟩;rw[uW (wz he m)];have:cj .pop (.ref l) [] m=.ok y (m.set l (.lst xs.dropLast)):=by
    simp only[cj,hm];rw[hy]
   rw[this];exact⟨_,_,A',rfl,I',K⟩
  .trivial
 .trivial
set_option tactic.hygienic true in
def EC (H:br lev cl cd)(I:Inv lo RR m de lv env A)(e:Ex):aH lo RR A m (aF cl (.ret e) env m) (aG lev cd (.ret e) de lv):=by
 show aH _ _ _ _ ((af cl e env m).bindS env _) ((ao cd e de).bindS _);cases z:ao cd e de with
 |no=>trivial
 |exc c d=>
  have:=I.bindE H.r e (f:=λw m1=>.ret w m1) (g:=λd=>.no) (λ_ _ _ _ _ _ _=>trivial);rw[z]at this;exact this
 |ok d=>
  obtain⟨w,m1,h2,l1,r1⟩:=I.ok H.r z (Le.refl m);rw[h2];show aH lo RR A m (.ret w m1) (.ret d (bO lev e d lv));have kp:(∀(x:Nat) o,(∀i,x∉A i)->m[x]?=some o->m1[x]?=some o)/\m.length<=m1.length:=⟨λx o _ b=>l1 x o b,l1.len⟩;have no:bJ (λx=>RR x/\x∉([]:List Nat)) m1 .no d w []:=⟨ai.frame (λx o r z=>⟨⟨r,by simp⟩,z⟩) _ _ r1,rfl⟩;by_cases f:ax d=true
  .refine ⟨w,m1,[],rfl,kp,?_,QB,by simp⟩;unfold bO;rw[MN f];exact r1.flat d w f
  .unfold bO;rw[MO f];split
   .next i=>
    have hdi:de[i]?=some (some d):=by
     exact uv z
    obtain⟨l,hl⟩:=I.getlv hdi;obtain⟨w',he,ro⟩:=I.slot i d l hdi hl;rw[wz he m]at h2;cases h2;rw[hl];refine⟨_,_,A i,rfl,kp,?_,I.nd i,λb hb=>(I.bd i b hb).1⟩;exact ro.frame (λx o r z=>⟨⟨r.1,r.2 i⟩,z⟩) (λ_ _ _ z=>z)
   .next a b=>
    split
    .next c=>
     obtain⟨hab,ha,hb⟩:=c;have:∃da db,de[a]?=some (some da)/\de[b]?=some (some db)/\d=.tup [da,db]:=by
      have hz:ao cd (.tup (.pair (.var a) (.pair (.var b) .unit))) de=((ao cd (.var a) de).bind λx=>((ao cd (.var b) de).bind λy=>.ok (.tup [y])).bind λy=>.ok (.tup (x::yg y))).bind λx=>if(yg x).length<=aq then .ok (.tup (yg x))else .no:=rfl;rw[hz]at z;cases q1:de[a]? with
      |none=>rw[xH (.inl q1)]at z;cases z
      |some o=>cases o with
       |none=>rw[xH (.inr q1)]at z;cases z
       |some da=>
        rw[vt q1]at z;cases q2:de[b]? with
        |none=>rw[xH (.inl q2)]at z;cases z
        |some o=>cases o with
         |none=>rw[xH (.inr q2)]at z;cases z
         |some db=>
          rw[vt q2]at z;simp[Rd.bind,yg,aq]at z;exact⟨da,db,rfl,rfl,z.symm⟩
     obtain⟨da,db,h3,h4,rfl⟩:=this;obtain⟨wa,ea,oa⟩:=I.slot a da .full h3 ha;obtain⟨wb,eb,ob⟩:=I.slot b db .full h4 hb;have hw:af cl (.tup (.pair (.var a) (.pair (.var b) .unit))) env m=.ok (.tup [wa,wb]) m:=by
      show(((af cl (.var a) env m).bind λx m1=>((af cl (.var b) env m1).bind λy m2=>.ok (.tup [y]) m2).bind λy m2=>.ok (.tup (x::zq y)) m2).bind λx m1=>if(zq x).length<=aq then .ok (.tup (zq x)) m1 else .no)=_;rw[wz ea m];simp only[Rz.bind];rw[wz eb m];simp[zq,aq]
     rw[hw]at h2;cases h2;refine⟨_,_,A a++(A b++[]),rfl,kp,bx.mpr ⟨_,rfl,.cons oa (.cons ob .nil)⟩,?_,?_⟩
     .rw[QU];exact Qt.mpr ⟨I.nd a,I.nd b,λx hx y hy e=>hab (I.dj a b x hx (by rw[e];exact hy))⟩
     .intro x hx;rw[QU]at hx;rcases Qz.mp hx with q|q
      .exact (I.bd a x q).1
      .exact (I.bd b x q).1
    .exact ⟨w,m1,[],rfl,kp,no,QB,by simp⟩
   .obtain ⟨B,ro,nd,hB⟩:=I.own H z h2;exact⟨w,m1,B,rfl,kp,ro,nd,λb hb=>Qp I.lom (hB b hb)⟩
set_option tactic.hygienic true in
theorem wZ(H:br lev cl cd):∀(s:Sm) (m:Me) (de:aO) (lv:List Lv) (env:En) (A:Nat->List Nat),Inv lo RR m de lv env A->aH lo RR A m (aF cl s env m) (aG lev cd s de lv)
 |.skip,m,de,lv,env,A,I=>by show aH _ _ _ _ (.next env m) (.next de lv);exact⟨env,m,A,rfl,I,bj.refl A m⟩
 |.seq a b,m,de,lv,env,A,I=>by
  have h:=wZ H a m de lv env A I;rw[u9];show aH _ _ _ _ (match aF cl a env m with
   |.next e1 m1=>aF cl b e1 m1
   |r=>r) _
  cases z:aG lev cd a de lv with
  |next d1 l1=>
   rw[z]at h;obtain⟨e1,m1,A1,h1,I1,K1⟩:=h;rw[h1];exact aH.keep K1 (wZ H b m1 d1 l1 e1 A1 I1)
  |cont d1 l1=>
   rw[z]at h;obtain⟨e1,m1,A1,h1,I1,K1⟩:=h;rw[h1];exact⟨e1,m1,A1,rfl,I1,K1⟩
  |brk d1 l1=>
   rw[z]at h;obtain⟨e1,m1,A1,h1,I1,K1⟩:=h;rw[h1];exact⟨e1,m1,A1,rfl,I1,K1⟩
  |ret d l=>
   rw[z]at h;obtain⟨w,m1,B,h1,k⟩:=h;rw[h1];exact⟨w,m1,B,rfl,k⟩
  |exc c d=>
   rw[z]at h;obtain⟨w,e,m1,h1,k⟩:=h;rw[h1];exact⟨w,e,m1,rfl,k⟩
  |no=>trivial
 |.asg i e,m,de,lv,env,A,I=>EF H I i e
 |.for3 _ _ _ _ _,m,de,lv,env,A,I=>by exact trivial
 |.asgS o k e,m,de,lv,env,A,I=>by
  cases o with
  |var j=>exact FW H I j k e
  |idx a r=>
   cases a with
   |var j=>exact GD H I j r k e
   |_=>exact trivial
  |_=>exact trivial
 |.ite c a b,m,de,lv,env,A,I=>by
  refine I.bindE H.r c λd w m1 _ _ l1 r1=>?_;cases d with
  |bl t=>
   rw[ah.mp r1];cases t with
   |true=>exact wZ H a m1 de lv env A (I.ext l1)
   |false=>exact wZ H b m1 de lv env A (I.ext l1)
  |_=>trivial
 |.forv i it body,m,de,lv,env,A,I=>by
  refine uV H (λx w m de lv env A I r=>?_) I it;obtain⟨I1,K1⟩:=I.bindSlot i r;exact aH.keep K1 (wZ H body _ _ _ _ _ I1)
 |.fort i j it body,m,de,lv,env,A,I=>by
  refine uV H (λx w m de lv env A I r=>?_) I it;split
  .next a b=>
   obtain⟨xs,rfl,r1⟩:=aj.mp r;obtain⟨x,r2,rfl,ra,rb⟩:=r1.cons_inv;obtain⟨y,r3,rfl,rb,rn⟩:=rb.cons_inv;rw[rn.nil_inv];obtain⟨I1,K1⟩:=I.bindSlot i ra;obtain⟨I2,K2⟩:=I1.bindSlot j (K1.rep rb);exact aH.keep (K1.trans K2) (wZ H body _ _ _ _ _ I2)
  .trivial
 |.appPop j a x e,m,de,lv,env,A,I=>IM H I j a x e
 |.while c body,m,de,lv,env,A,I=>by
  refine ju (λm de lv env A I=>?_) (λm de lv env A I=>wZ H body m de lv env A I) _ m de lv env A I;have h:=zj H.r c RR m de env (I.envR _);cases z:ao cd c de with
  |no=>trivial
  |ok d=>rw[z]at h;obtain⟨w,m1,h1,l1,r1⟩:=h;exact⟨w,m1,h1,l1,I.rf r1⟩
  |exc k d=>rw[z]at h;obtain⟨w,m1,h1,l1,r1⟩:=h;exact⟨w,m1,h1,l1,I.rf r1⟩
 |.ret e,m,de,lv,env,A,I=>EC H I e
 |.expr e,m,de,lv,env,A,I=>by
  have dflt:aH lo RR A m (aF cl (.expr e) env m) ((ao cd e de).bindS λ_=>.next de lv):=by
   exact I.bindE H.r e λd w m1 _ _ l1 _=>⟨env,m1,A,rfl,I.ext l1,bj.refl A m1⟩
  by_cases q:∃n o a,e=.meth n o a
  .obtain ⟨n,o,a,rfl⟩:=q;have hap:=λj e=>F4 H I j e;have hai:=λj r e=>FX H I j r e;have hin:=λj e=>FZ H I j e;have hrv:=λj=>FY (cl:=cl) (cd:=cd) (lev:=lev) I j;have hpo:=λj=>GC (cl:=cl) (cd:=cd) (lev:=lev) I j;show aH _ _ _ _ _ (iw lev cd (.meth n o a) de lv);unfold iw;split
   .next h=>cases h;exact hap _ _
   .next h=>cases h;exact hai _ _ _
   .next h=>cases h;exact hin _ _
   .next h=>cases h;exact hrv _
   .next h=>cases h;exact hpo _
   .trivial
   .next h=>first|exact(h _ _ _ rfl).elim|exact(h _ _ _).elim|exact MP rfl h
  .show aH _ _ _ _ _ (iw lev cd e de lv);unfold iw;split
   .exact MP ⟨_,_,_,rfl⟩ q
   .exact MP ⟨_,_,_,rfl⟩ q
   .exact MP ⟨_,_,_,rfl⟩ q
   .exact MP ⟨_,_,_,rfl⟩ q
   .exact MP ⟨_,_,_,rfl⟩ q
   .exact MP ⟨_,_,_,rfl⟩ q
   .exact dflt
 |.never,m,de,lv,env,A,I=>by exact trivial
end
def qA{α β:Type}(f:α->β)(z:β)(xs:List α)(n i:Nat):(xs.map f++Qv n z)[i]?=if i<xs.length then(xs[i]?).map f else if i<xs.length+n then some z else none:=by
 rw[List.getElem?_append,Qx];split
 .rw[Qn]
 .rw[WD];by_cases h:i-xs.length<n
  .rw[MN h,MN (by lia)]
  .rw[MO h,MO (by lia)]
set_option tactic.hygienic true in
def qB (fn:Fn)(h:ae R m ds ws):Inv m.length (Rf R m.length) m (zT fn ds) (zP fn ds) (yi fn ws) (λ_=>[]):=by
 have hl:=h.len;refine⟨?_,?_,λl hl=>.inr hl,Qk _,?_,λ_=>QB,(λ_ _ _ h=>by cases h),(λ_ _ h=>by cases h)⟩
 .simp[zT,yi,hl]
 .simp[zT,zP]
 .intro i d l h1 h2;unfold zT at h1;unfold zP at h2;rw[qA]at h1 h2;by_cases hi:i<ds.length
  .rw[MN hi]at h1 h2;obtain⟨d',e1,e2⟩:=QX.mp h1;cases e2;rw[e1]at h2;cases h2;obtain⟨w,hw,r⟩:=h.get e1;refine⟨w,?_,?_⟩
   .unfold yi;rw[qA,MN (by lia),hw];rfl
   .unfold bo;split
    .next f=>exact r.flat d w f
    .exact ⟨ai.frame (λx o r z=>⟨⟨.inl r,λ_ h=>by cases h⟩,z⟩) _ _ r,rfl⟩
  .rw[MO hi]at h1;split at h1<;>cases h1
set_option tactic.hygienic true in
def EB (H:br lev cl cd)(k:Nat)(fn:Fn)(ds:List Dat)(ws:List Wd)(R:Nat->Prop)(m:Me)(h:ae R m ds ws):aL R m (wK lev k) (yR cl fn ws m) (zw lev cd k fn ds):=by
 unfold yR zw;rw[h.len];split
 .have s:=wZ H fn.body m _ _ _ _ (qB fn h);cases z:aG lev cd fn.body (zT fn ds) (zP fn ds)with
  |next d1 l1=>
   rw[z]at s;obtain⟨e1,m1,A1,h1,I1,K1⟩:=s;rw[h1];refine⟨.non,m1,[],rfl,λl o q=>(K1.1 l o (λ_ h=>by cases h) q).2,?_,QB,by simp⟩;unfold wK bJ bh;simp[ax]
  |ret d l=>
   rw[z]at s;obtain⟨w,m1,B,h1,⟨kp,_⟩,ro,nd,hB⟩:=s;rw[h1];have le:Le m m1:=λl o q=>kp l o (λ_ h=>by cases h) q;show aL R m (wK lev k) (.ok w m1) (if ax d || jO l (lev k)then .ok d else .no);split
   .next c=>
    by_cases f:ax d=true
    .refine ⟨w,m1,[],rfl,le,?_,QB,by simp⟩;unfold wK;rw[MN f];exact(ro.rep (R':=λ_=>True) (λ_ _=>trivial) (λ_ _=>trivial)).flat d w f
    .have g:jO l (lev k)=true:=by simpa [f]using c
     unfold aL wK;simp only[MO f];cases e:lev k with
     |no=>
      refine⟨w,m1,[],rfl,le,⟨?_,rfl⟩,QB,by simp⟩;exact ro.rep (λx r=>⟨r.1,by simp⟩) (λb hb=>⟨.inr (hB b hb),by simp⟩)
     |top=>
      rw[e]at g;cases l with
      |top=>exact⟨w,m1,B,rfl,le,ro,nd,hB⟩
      |no=>cases g
      |full=>cases g
     |full=>
      rw[e]at g;cases l with
      |full=>exact⟨w,m1,B,rfl,le,ro,nd,hB⟩
      |no=>cases g
      |top=>cases g
   .trivial
  |exc c d=>
   rw[z]at s;obtain⟨w,e,m1,h1,⟨kp,_⟩,r⟩:=s;rw[h1];exact⟨w,m1,rfl,λl o q=>kp l o (λ_ h=>by cases h) q,r⟩
  |brk _ _=>trivial
  |cont _ _=>trivial
  |no=>trivial
 .trivial
theorem vw(lev:Nat->Lv)(T:List Fn):∀d:Nat,br lev (yj T d) (qz lev T d)
 |0=>λk ds ws R m h=>trivial
 |d+1=>λk ds ws R m h=>by
  unfold yj qz;cases T[k]? with
  |none=>trivial
  |some fn=>exact EB (vw lev T d) k fn ds ws R m h
section
variable(lev:Nat->Lv)(cl:Nat->List Dat->Rd)(de:aO)(lv:List Lv)
@[simp]theorem aE(d:Dat)(f:Dat->Rd):(Rd.ok d).bind f=f d:=rfl
@[simp]theorem aX(d:Dat)(f:Dat->bQ):(Rd.ok d).bindS f=f d:=rfl
@[simp]theorem fX(d:Dat)(f:Dat->bQ):(Rd.ok d).okS f=f d:=rfl
@[simp]theorem zd(i:Int):ao cl (.lit (.int i)) de=.ok (.int i):=rfl
@[simp]theorem qC(i:Bool):ao cl (.lit (.bl i)) de=.ok (.bl i):=rfl
@[simp]theorem wm:ao cl (.lit .non) de=.ok .non:=rfl
@[simp]theorem K8(s:List Nat):ao cl (.lit (.str s)) de=.ok (.str s):=rfl
@[simp]theorem zH(op:Bo)(a b:Ex):ao cl (.bin op a b) de=(ao cl a de).bind λx=>(ao cl b de).bind λy=>yY op x y:=rfl
@[simp]theorem zD(op:Co)(a b:Ex):ao cl (.cmp op a b) de=(ao cl a de).bind λx=>(ao cl b de).bind λy=>yL op x y:=rfl
@[simp]theorem zh:ao cl .unit de=.ok (.tup []):=rfl
@[simp]theorem zl(a b:Ex):ao cl (.pair a b) de=(ao cl a de).bind λx=>(ao cl b de).bind λy=>.ok (.tup (x::yg y)):=rfl
@[simp]theorem zu(k:Nat)(a:Ex):ao cl (.call k a) de=(ao cl a de).bind λx=>cl k (yg x):=rfl
@[simp]theorem zM(b:eg)(a:Ex):ao cl (.blt b a) de=(ao cl a de).bind λx=>yM b (yg x):=rfl
@[simp]theorem yV(t:Tg)(a:Ex):ao cl (.isi t a) de=(ao cl a de).bind λx=>.ok (.bl (ck t x)):=rfl
@[simp]theorem zI(a b:Ex):ao cl (.idx a b) de=(ao cl a de).bind λx=>(ao cl b de).bind λy=>yt x y:=rfl
@[simp]theorem wM(a:Ex):ao cl (.lst a) de=(ao cl a de).bind λx=>yO (yg x):=rfl
@[simp]theorem lp(a:Ex):ao cl (.tup a) de=(ao cl a de).bind λx=>if(yg x).length<=aq then .ok (.tup (yg x))else .no:=rfl
@[simp]theorem xw(a b c:Ex):ao cl (.rng a b c) de=(ao cl a de).bind λx=>(ao cl b de).bind λy=>(ao cl c de).bind λz=>kL x y z:=rfl
@[simp]theorem za(d:Dat)(r:aO):ao cl (.var 0) (some d::r)=.ok d:=rfl
@[simp]theorem ze(i:Nat)(d:Option Dat)(r:aO):ao cl (.var (i+1)) (d::r)=ao cl (.var i) r:=rfl
@[simp]theorem ve(a:Ex):ao cl (.neg a) de=(ao cl a de).bind λx=>match x with
  |.int i=>.ok (.int (-i))
  |_=>.no:=rfl
@[simp]theorem y8(a:Ex):ao cl (.not a) de=(ao cl a de).bind λx=>match x with
  |.bl b=>.ok (.bl (! b))
  |_=>.no:=rfl
@[simp]theorem gB(a b:Ex):ao cl (.and a b) de=(ao cl a de).bind λx=>match x with
  |.bl true=>ao cl b de
  |.bl false=>.ok (.bl false)
  |_=>.no:=rfl
@[simp]theorem vm(a b:Ex):ao cl (.or a b) de=(ao cl a de).bind λx=>match x with
  |.bl false=>ao cl b de
  |.bl true=>.ok (.bl true)
  |_=>.no:=rfl
@[simp]theorem KR(p q:Co)(a b c:Ex):ao cl (.chain p q a b c) de=(ao cl a de).bind λx=>(ao cl b de).bind λy=>(yL p x y).bind λz=>match z with
  |.bl true=>(ao cl c de).bind λu=>yL q y u
  |.bl false=>.ok (.bl false)
  |_=>.no:=rfl
@[simp]theorem Ef(c a b:Ex):ao cl (.ife c a b) de=(ao cl c de).bind λx=>match x with
  |.bl true=>ao cl a de
  |.bl false=>ao cl b de
  |_=>.no:=rfl
@[simp]theorem tI(a hi:Ex):ao cl (.slH a hi) de=(ao cl a de).bind λx=>(ao cl hi de).bind λy=>match y with
  |.int i=>dK x none (some i)
  |_=>.no:=rfl
@[simp]theorem EA(a:Ex):ao cl (.lrng a) de=(ao cl a de).bind λx=>match x with
  |.int j=>if -aq<=j/\j<=aq then yO (yA 0 1 j.toNat)else .no
  |_=>.no:=rfl
def yf(elt it cond:Ex):ao cl (.comp elt it cond) de=(ao cl it de).bind λx=>match cL x with
  |some xs=>yn (λx=>ao cl cond (de++[some x])) (λx=>ao cl elt (de++[some x])) xs []
  |none=>.no:=rfl
def AD(k:Kd)(elt a b cond:Ex):ao cl (.compP k elt a b cond) de=(ao cl a de).bind λx=>(ao cl b de).bind λy=>match wJ k x y with
  |some ps=>yn (λp=>ao cl cond (de++[some p.1]++[some p.2])) (λp=>ao cl elt (de++[some p.1]++[some p.2])) ps []
  |none=>.no:=rfl
@[simp]theorem Kv(a b:Int):c9 (.int a) (.int b)=decide (a=b):=rfl
@[simp]theorem Ku(a b:Bool):c9 (.bl a) (.bl b)=(a==b):=rfl
@[simp]theorem Kt(a b:List Nat):c9 (.str a) (.str b)=decide (a=b):=rfl
@[simp]theorem Ks(a b:List Dat):c9 (.tup a) (.tup b)=cn a b:=rfl
@[simp]theorem tH(a b:List Dat):c9 (.lst a) (.lst b)=cn a b:=rfl
@[simp]theorem KQ(k:Nat)(a:Int):yS (k+1) (.int a)=true:=rfl
@[simp]theorem Ki(k:Nat)(a:Bool):yS (k+1) (.bl a)=true:=rfl
@[simp]theorem KP(k:Nat)(a:List Nat):yS (k+1) (.str a)=true:=rfl
@[simp]theorem KO(k:Nat):yS (k+1) .non=true:=rfl
@[simp]theorem GB(k:Nat)(a:List Dat):yS (k+1) (.tup a)=bu k a:=rfl
@[simp]theorem gC(k:Nat)(a:List Dat):yS (k+1) (.lst a)=bu k a:=rfl
@[simp]theorem Hk(k:Nat):bu k []=true:=rfl
@[simp]theorem IL(k:Nat)(d:Dat)(a:List Dat):bu k (d::a)=(yS k d&&bu k a):=rfl
theorem vT(k:Nat):∀(a:List Dat),bu k a=a.all (yS k)
 |[]=>by simp
 |d::a=>by simp[vT k a]
@[simp]theorem uU:yT=11+1:=rfl
@[simp]theorem BQ(i j:Int):yL .lt (.int i) (.int j)=.ok (.bl (decide (i<j))):=rfl
@[simp]theorem BR(i j:Int):yL .le (.int i) (.int j)=.ok (.bl (decide (i<=j))):=rfl
@[simp]theorem sY(i j:Int):yL .gt (.int i) (.int j)=.ok (.bl (decide (j<i))):=rfl
@[simp]theorem CI(i j:Int):yL .ge (.int i) (.int j)=.ok (.bl (decide (j<=i))):=rfl
@[simp]theorem xU(i j:Int):yL .eq (.int i) (.int j)=.ok (.bl (decide (i=j))):=rfl
@[simp]theorem ke(i j:Int):yL .ne (.int i) (.int j)=.ok (.bl (! decide (i=j))):=rfl
@[simp]theorem C7(i j:Bool):yL .eq (.bl i) (.bl j)=.ok (.bl (i==j)):=rfl
@[simp]theorem Kr(i j:Bool):yL .ne (.bl i) (.bl j)=.ok (.bl (!(i==j))):=rfl
@[simp]theorem zY(i j:Int):yY .add (.int i) (.int j)=.ok (.int (i+j)):=rfl
@[simp]theorem xR(i j:Int):yY .sub (.int i) (.int j)=.ok (.int (i-j)):=rfl
def wD(i j:Int)(h:yJ i=true):yY .mul (.int i) (.int j)=.ok (.int (i*j)):=by simp[yY,h]
def uT(i j:Int)(h:yJ j=true):yY .mul (.int i) (.int j)=.ok (.int (i*j)):=by simp[yY,h]
def nO(i j:Int)(h:0<j)(k:j<1073741824):yY .fdiv (.int i) (.int j)=.ok (.int (i/j)):=by simp[yY,h,k]
def wn(i j:Int)(h:0<j):yY .mod (.int i) (.int j)=.ok (.int (i%j)):=by simp[yY,h]
def C6(i j:Int)(h:0<=j/\j<=1000000/\yJ i=true):yY .pow (.int i) (.int j)=.ok (.int (i^j.toNat)):=by simp only[yY];rw[MN h]
def kS (h:-18446744073709551616<i)(k:i<18446744073709551616):yJ i=true:=by unfold yJ cz;simp[h,k]
@[simp]theorem zf(xs:List Dat):yg (.tup xs)=xs:=rfl
@[simp]theorem nN(xs:List Dat):yM .len [.lst xs]=.ok (.int xs.length):=rfl
@[simp]theorem Ez(xs:List Dat):yM .len [.tup xs]=.ok (.int xs.length):=rfl
@[simp]theorem Kh(ns:List Int):yM .len [.scr ns]=.ok (.int ns.length):=by simp[yM,wI]
@[simp]theorem Kq(b:Bool):yM .int [.bl b]=.ok (.int (b2i b)):=rfl
def jv (h:xs.length<=aq):yO xs=.ok (.lst xs):=by unfold yO;rw[MN h]
def ln (h:i<n):ix n (i:Int)=some i:=by unfold ix;rw[MN (by lia),MN (by lia)];simp
def Ey (h:0<n):ix n (-1)=some (n-1):=by unfold ix;rw[MO (by lia),MN (by lia)];congr 1;lia
def kT {i:Nat}(h:xs[i]?=some d):yt (.lst xs) (.int (i:Int))=.ok d:=by
 have:=(Qa.mp h).1;simp[yt,wI,ln this,h]
def Hj (h:xs[xs.length-1]?=some d):yt (.lst xs) (.int (-1))=.ok d:=by
 have:=(Qa.mp h).1;simp[yt,wI,Ey (show 0<xs.length by lia),h]
def vx {a b:Int}(h:-aq<=a/\a<=aq/\-aq<=b/\b<=aq/\(c=1\/c=-1\/c=-2)):kL (.int a) (.int b) (.int c)=.ok (.tup (yA a c (v6 a b c))):=by
 simp only[kL];rw[MN h]
@[simp]theorem wq(a c:Int)(n:Nat):(yA a c n).length=n:=by simp[yA]
def y4(a c:Int)(n i:Nat)(h:i<n):(yA a c n)[i]?=some (.int (a+c*(i:Int))):=by
 simp[yA,h]
@[simp]theorem xa(a c:Int):∀(n:Nat),ba (yA a c n)=true:=by
 intro n;unfold yA;generalize QI n=l
 induction l with
 |nil=>rfl
 |cons x l ih=>simp[ba,ax,ih]
@[simp]theorem xK(xs:List Dat):ax (.tup xs)=ba xs:=by rw[ax]
@[simp]theorem vC(xs:List Dat):ax (.lst xs)=false:=by rw[ax]
@[simp]theorem KN(i:Int):ax (.int i)=true:=by rw[ax]
@[simp]theorem Kg(i:Bool):ax (.bl i)=true:=by rw[ax]
@[simp]theorem KM:ax .non=true:=by rw[ax]
@[simp]theorem KJ(s:List Nat):ax (.str s)=true:=by rw[ax]
@[simp]theorem KI(s:List Int):ax (.scr s)=true:=by rw[ax]
@[simp]theorem KZ:ba []=true:=by rw[ba]
@[simp]theorem KY(d:Dat)(ds:List Dat):ba (d::ds)=(ax d&&ba ds):=by rw[ba]
@[simp]theorem KW(l:List Int):ba (l.map Dat.int)=true:=by
 induction l with
 |nil=>rfl
 |cons x l ih=>simp[ih]
@[simp]theorem yI(xs:List Dat):cL (.tup xs)=some xs:=rfl
@[simp]theorem Ko(xs:List Int):cL (.scr xs)=some (xs.map .int):=rfl
def xq (h:xs.length<=aq):cL (.lst xs)=some xs:=by simp[cL,h]
@[simp]theorem yr:aG lev cl .skip de lv=.next de lv:=rfl
@[simp]theorem zZ(e:Ex):aG lev cl (.ret e) de lv=(ao cl e de).bindS λd=>.ret d (bO lev e d lv):=rfl
@[simp]theorem zL(i:Nat)(e:Ex):aG lev cl (.asg i e) de lv=(ao cl e de).bindS λd=>jr lev i e d de lv:=rfl
@[simp]theorem zV(c:Ex)(a b:Sm):aG lev cl (.ite c a b) de lv=(ao cl c de).bindS λx=>match x with
  |.bl true=>aG lev cl a de lv
  |.bl false=>aG lev cl b de lv
  |_=>.no:=rfl
def zS {lev:Nat->Lv}{de:aO}{lv:List Lv}(h:ax d=true):jr lev i e d de lv=.next (de.set i (some d)) (lv.set i .full):=by
 unfold jr;rw[MN (xI lev e d h)]
def yQ {lev:Nat->Lv}{de:aO}{lv:List Lv}(h:aV lev e d=.full):jr lev i e d de lv=.next (de.set i (some d)) (lv.set i .full):=by
 unfold jr;rw[MN h]
theorem wU:∀(xs:List α) (acc:List Dat),(∀x∈xs,c x=.ok (.bl true))->(∀x∈xs,e x=.ok (g x))->acc.length+xs.length<=aq->yn c e xs acc=.ok (.lst (acc++xs.map g))
 |[],acc,_,_,h=>by unfold yn;rw[jv (by simpa using h)];simp
 |x::xs,acc,hc,he,h=>by
  unfold yn;simp only[Wh]at h;rw[hc x (by simp)];simp only[aE];rw[he x (by simp)];simp only[aE];rw[MN (by lia),wU xs (acc++[g x]) (λy hy=>hc y (by simp[hy])) (λy hy=>he y (by simp[hy])) (by simp;lia)];simp
def x5 {body:α->aO->List Lv->bQ}(P:Nat->aO->List Lv->Prop)(xs:List α){de:aO}{lv:List Lv}(h0:P 0 de lv)(hs:∀(i:Nat) x de lv,xs[i]?=some x->P i de lv->∃de' lv',body x de lv=.next de' lv'/\P (i+1) de' lv'):∃de' lv',yB body xs de lv=.next de' lv'/\P xs.length de' lv':=by
 induction xs generalizing P de lv with
 |nil=>exact⟨de,lv,rfl,h0⟩
 |cons x xs ih=>
  obtain⟨d1,l1,e1,p1⟩:=hs 0 x de lv rfl h0;unfold yB;rw[e1];exact ih (λi=>P (i+1)) p1 (λi y de lv hy hp=>hs (i+1) y de lv (by simpa using hy) hp)
def AC (P:Nat->aO->List Lv->Prop)(Q:Dat->Lv->Prop)(xs:List Dat){de:aO}{lv:List Lv}(h0:P 0 de lv)(hs:∀(i:Nat) x de lv,xs[i]?=some x->P i de lv->(∃de' lv',body x de lv=.next de' lv'/\P (i+1) de' lv')\/∃d l,body x de lv=.ret d l/\Q d l):
  (∃de' lv',yB body xs de lv=.next de' lv'/\P xs.length de' lv')\/∃d l,yB body xs de lv=.ret d l/\Q d l:=by
 induction xs generalizing P de lv with
 |nil=>exact .inl ⟨de,lv,rfl,h0⟩
 |cons x xs ih=>
  rcases hs 0 x de lv rfl h0 with⟨d1,l1,e1,p1⟩|⟨d,l,e1,q⟩
  .unfold yB;rw[e1];exact ih (λi=>P (i+1)) p1 (λi y de lv hy hp=>hs (i+1) y de lv (by simpa using hy) hp)
  .right
   unfold yB;rw[e1];exact⟨d,l,rfl,q⟩
end
namespace Lib
section
variable{lev:Nat->Lv}{cl:Nat->List Dat->Rd}{k:Nat}
noncomputable def isInt:Dat->Bool
 |.int _=>true
 |_=>false
noncomputable def jw:Fn:=⟨1,1,(.ret (.and (.isi .int (.var 0)) (.not (.isi .bool (.var 0)))))⟩
def qD(d:Dat):zw lev cl k jw [d]=.ok (.bl (isInt d)):=by
 cases d<;>simp[zw,jw,zT,zP,zG,ck,isInt,bO]
theorem gD(p:Dat->Bool):∀xs:List Dat,gz (xs.map λx=>.bl (p x))=some (xs.all p)
 |[]=>rfl
 |x::xs=>by
  simp only[Wg,Wm,gz,gD p xs,QJ]
noncomputable def iu:Dat->Bool
 |.scr _=>false
 |_=>true
end
end Lib
section
variable(lev:Nat->Lv)(cl:Nat->List Dat->Rd)(de:aO)(lv:List Lv)
@[simp]theorem nM(j:Nat)(e:Ex):aG lev cl (.expr (.meth .append (.var j) (.pair e .unit))) de lv=(ao cl e de).okS λd=>match xJ de j with
   |some ds=>if ds.length<aq then match wl lev e d j de lv with
    |some (de1,lv1)=>.next (de1.set j (some (.lst (ds++[d])))) lv1
    |none=>.no
    else .no
   |none=>.no:=rfl
@[simp]theorem Kf(j:Nat):aG lev cl (.expr (.meth .reverse (.var j) .unit)) de lv=match xJ de j with
   |some ds=>if yo lv j then .next (de.set j (some (.lst ds.reverse))) lv else .no
   |none=>.no:=rfl
def wN(i:Nat)(it:Ex)(body:Sm):aG lev cl (.forv i it body) de lv=(ao cl it de).bindS λd=>match cL d with
  |some xs=>yB (λx de lv=>aG lev cl body (de.set i (some x)) (lv.set i (bo x))) xs de (if ax d then lv else wg it de lv)
  |none=>.no:=rfl
def nK(i j:Nat)(it:Ex)(body:Sm):aG lev cl (.fort i j it body) de lv=(ao cl it de).bindS λd=>match cL d with
  |some xs=>yB (λx de lv=>match x with
    |.tup [a,b]=>aG lev cl body ((de.set i (some a)).set j (some b)) ((lv.set i (bo a)).set j (bo b))
    |_=>.no) xs de (if ax d then lv else wg it de lv)
  |none=>.no:=rfl
noncomputable def bQ.then(r:bQ)(f:aO->List Lv->bQ):bQ:=match r with
 |.next d l=>f d l
 |r=>r
@[simp]theorem zg(d:aO)(l:List Lv)(f:aO->List Lv->bQ):(bQ.next d l).then f=f d l:=rfl
@[simp]theorem kU(d:Dat)(l:Lv)(f:aO->List Lv->bQ):(bQ.ret d l).then f=.ret d l:=rfl
def yq (h:yP a b=none):aG lev cl (.seq a b) de lv=(aG lev cl a de lv).then (aG lev cl b):=by
 rw[u9];cases aG lev cl a de lv<;>rfl
def GA(a:Sm)(c d:Sm):yP a (.seq c d)=none:=rfl
@[simp]theorem zE(a:Sm)(c d:Sm):aG lev cl (.seq a (.seq c d)) de lv=(aG lev cl a de lv).then (aG lev cl (.seq c d)):=yq lev cl de lv (GA a c d)
def Gz(a:Sm)(e:Ex):yP a (.ret e)=none:=rfl
@[simp]theorem yW(a:Sm)(e:Ex):aG lev cl (.seq a (.ret e)) de lv=(aG lev cl a de lv).then (aG lev cl (.ret e)):=yq lev cl de lv (Gz a e)
def gE(a:Sm)(c:Ex)(x y:Sm):yP a (.ite c x y)=none:=rfl
@[simp]theorem lm(a:Sm)(c:Ex)(x y:Sm):aG lev cl (.seq a (.ite c x y)) de lv=(aG lev cl a de lv).then (aG lev cl (.ite c x y)):=yq lev cl de lv (gE a c x y)
def Hi(a:Sm)(i:Nat)(e:Ex)(x:Sm):yP a (.forv i e x)=none:=rfl
@[simp]theorem Ew(a:Sm)(i:Nat)(e:Ex)(x:Sm):aG lev cl (.seq a (.forv i e x)) de lv=(aG lev cl a de lv).then (aG lev cl (.forv i e x)):=yq lev cl de lv (Hi a i e x)
def Hh(a:Sm)(i j:Nat)(e:Ex)(x:Sm):yP a (.fort i j e x)=none:=rfl
@[simp]theorem Ke(a:Sm)(i j:Nat)(e:Ex)(x:Sm):aG lev cl (.seq a (.fort i j e x)) de lv=(aG lev cl a de lv).then (aG lev cl (.fort i j e x)):=yq lev cl de lv (Hh a i j e x)
def IK(a:Sm)(e:Ex)(x:Sm):yP a (.while e x)=none:=rfl
@[simp]theorem KH(a:Sm)(e:Ex)(x:Sm):aG lev cl (.seq a (.while e x)) de lv=(aG lev cl a de lv).then (aG lev cl (.while e x)):=yq lev cl de lv (IK a e x)
def Gy(a:Sm)(i:Nat)(e:Ex):yP a (.asg i e)=none:=rfl
@[simp]theorem C5(a:Sm)(i:Nat)(e:Ex):aG lev cl (.seq a (.asg i e)) de lv=(aG lev cl a de lv).then (aG lev cl (.asg i e)):=yq lev cl de lv (Gy a i e)
def Hg(a:Sm)(o i e:Ex):yP a (.asgS o i e)=none:=rfl
@[simp]theorem Kc(a:Sm)(o i e:Ex):aG lev cl (.seq a (.asgS o i e)) de lv=(aG lev cl a de lv).then (aG lev cl (.asgS o i e)):=yq lev cl de lv (Hg a o i e)
def Hf(a:Sm)(e:Ex):yP a (.expr e)=none:=rfl
@[simp]theorem kW(a:Sm)(e:Ex):aG lev cl (.seq a (.expr e)) de lv=(aG lev cl a de lv).then (aG lev cl (.expr e)):=yq lev cl de lv (Hf a e)
def Ie(a:Sm): yP a .skip=none:=rfl
@[simp]theorem Kb(a:Sm): aG lev cl (.seq a .skip) de lv=(aG lev cl a de lv).then (aG lev cl .skip):=yq lev cl de lv (Ie a)
def IJ(a:Sm): yP a .never=none:=rfl
@[simp]theorem KG(a:Sm): aG lev cl (.seq a .never) de lv=(aG lev cl a de lv).then (aG lev cl .never):=yq lev cl de lv (IJ a)
end
namespace Lib
section
noncomputable def row(r:List Int):Dat:=.lst (r.map .int)
noncomputable def ak(R:List (List Int)):Dat:=.lst (R.map row)
noncomputable def dD(d:Dat):Bool:=match d with
 |.lst xs=>xs.all iu
 |.scr _=>false
 |_=>true
noncomputable def jJ(t:Int)(b:Bool):Bool:=if b then ! decide (t=1)else !(decide (t=0) || decide (t=1))
end
end Lib
namespace Lib
section
noncomputable def S(R:List (List Int))(r c:Nat):Int:=((R.take r).map (λx=>x.getD c 0)).sum
def ac(R:List (List Int))(r c:Nat):Int:=((R.getD r []).take c).sum
noncomputable def lR(R:List (List Int))(r c:Nat):Bool:=jJ (ac R r (c+1)) (decide ((c:Int)=(R.length:Int)-1)) || jJ (S R (r+1) c) (decide ((r:Int)=(R.length:Int)-1))
noncomputable def Sq(R:List (List Int)):Prop:=∀r∈R,r.length=R.length
def kX {r:Nat}(h:R[r]?=some x):yt (ak R) (.int (r:Int))=.ok (row x):=kT (by simp[h])
def jT {c:Nat}(h:x[c]?=some v):yt (row x) (.int (c:Int))=.ok (.int v):=kT (by simp[h])
def nk(R:List (List Int))(r c:Nat)(x:List Int)(h:R[r]?=some x):S R (r+1) c=S R r c+x.getD c 0:=by
 unfold S;rw[Wl,h];simp
def C4 (h:Sq R)(hr:r<R.length)(hc:c<R.length):∃x v,R[r]?=some x/\x[c]?=some v/\x.getD c 0=v:=by
 have hm:R[r]∈R:=QE hr;have hl:=h _ hm;refine⟨R[r],R[r][c],Qc hr,Qc (by lia),?_⟩;rw[Qf,Qc (by lia)];rfl
end
end Lib
namespace Lib
section
variable{lev:Nat->Lv}{cl:Nat->List Dat->Rd}{k:Nat}
noncomputable def ir:Fn:=⟨2,2,(.seq (.ite (.cmp .lt (.var 1) (.blt .len (.pair (.var 0) .unit))) (.ret (.idx (.var 0) (.var 1))) .skip) (.ret (.bin .add (.bin .mul (.lit (.int 2)) (.var 1)) (.lit (.int 1)))))⟩
def Gx(ns:List Int)(i:Nat):∃c:Int,zw lev cl k ir [.scr ns,.int i]=.ok (.int c):=by
 by_cases h:i<ns.length
 .refine ⟨ns[i],?_⟩;have h1:yt (.scr ns) (.int (i:Int))=.ok (.int ns[i]):=by simp[yt,wI,ln h,h]
  simp[zw,ir,zT,zP,zG,bO,h,h1]
 .refine ⟨2*i+1,?_⟩;simp[zw,ir,zT,zP,zG,bO,h,wD 2 i (by decide)]
noncomputable def dC(x:List Int):Prop:=∀i,i+1<x.length->x.getD i 0<x.getD (i+1) 0
noncomputable def hW(cz sm:List Int):Prop:=cz.length=sm.length+1/\∀i,i<sm.length->cz.getD i 0<=sm.getD i 0/\sm.getD i 0<=cz.getD (i+1) 0
def vU {x:List Int}(h:x[i]?=some v):x.getD i 0=v:=by rw[Qf,h];rfl
def C3 {x:List Int}(h:i<x.length):x[i]?=some (x.getD i 0):=by
 rw[Qf,Qc h];rfl
end
end Lib
namespace Lib
section
def wG {v:Int}(h:i<x.length):(x++[v]).getD i 0=x.getD i 0:=by
 simp[Qf,Qs h]
def jK {v:Int}:(x++[v]).getD x.length 0=v:=by
 simp[Qf]
def Jb {v:List Int}(h:i<x.length):(x++[v]).getD i []=x.getD i []:=by
 simp[Qf,Qs h]
def xW {v:List Int}:(x++[v]).getD x.length []=v:=by
 simp[Qf]
def dC.app{x:List Int}{v:Int}(h:dC x)(hv:0<x.length->x.getD (x.length-1) 0<v):dC (x++[v]):=by
 intro i hi;simp only[Q4,Wh,Vo]at hi;by_cases z:i+1<x.length
 .rw[wG (by lia),wG z];exact h i z
 .have e:i+1=x.length:=by lia
  rw[wG (by lia),e,jK];have:=hv (by lia)
  rwa[show x.length-1=i by lia]at this
noncomputable def yX(n:Nat):List Int:=(QI n).map λ(i:Nat)=>(i:Int)
def II(n:Nat):Dat.lst (yA 0 1 n)=row (yX n):=by
 unfold row yX yA;rw[Wa];congr 1;apply WM;intro i _;simp
structure cX(n:Nat)(L:List (List Int)):Prop where
 first:L.getD 0 []=yX n
 len:∀j,j<L.length->(L.getD j []).length+j=n
 inc:∀j,j<L.length->dC (L.getD j [])
 bd:∀j,j<L.length->∀i,i<(L.getD j []).length->0<=(L.getD j []).getD i 0/\(L.getD j []).getD i 0<n
 lace:∀j,j+1<L.length->hW (L.getD j []) (L.getD (j+1) [])
def ky (h:i<n):(yX n).getD i 0=i:=vU (by simp[yX,h])
def cX.one(n:Nat):cX n [yX n]:=by
 refine⟨rfl,?_,?_,?_,?_⟩
 .intro j hj;simp at hj;subst hj;simp[yX]
 .intro j hj i hi;simp at hj;subst hj;simp only[Vb]at hi ⊢;have:i+1<n:=by simpa [yX]using hi
  rw[ky (by lia),ky this];lia
 .intro j hj i hi;simp at hj;subst hj;simp only[Vb]at hi ⊢;have:i<n:=by simpa [yX]using hi
  rw[ky this];lia
 .intro j hj;simp at hj
def cX.app{n:Nat}{L:List (List Int)}{x:List Int}(h:cX n L)(hL:0<L.length)(hi:dC x)(hl:hW (L.getD (L.length-1) []) x):cX n (L++[x]):=by
 have e:=h.len (L.length-1) (by lia);have lt:∀{j},j<L.length->(L++[x]).getD j []=L.getD j []:=λhj=>Jb hj;refine⟨by rw[lt hL];exact h.first,?_,?_,?_,?_⟩
 .intro j hj;by_cases z:j<L.length
  .rw[lt z];exact h.len j z
  .have:j=L.length:=by simp at hj;lia
   subst this;rw[xW];have:=hl.1;lia
 .intro j hj;by_cases z:j<L.length
  .rw[lt z];exact h.inc j z
  .have:j=L.length:=by simp at hj;lia
   subst this;rw[xW];exact hi
 .intro j hj i hi';by_cases z:j<L.length
  .rw[lt z]at hi' ⊢;exact h.bd j z i hi'
  .have:j=L.length:=by simp at hj;lia
   subst this;rw[xW]at hi' ⊢;have h1:=hl.2 i hi';have h2:=h.bd (L.length-1) (by lia) i (by have:=hl.1;lia);have h3:=h.bd (L.length-1) (by lia) (i+1) (by have:=hl.1;lia);lia
 .intro j hj;simp only[Q4,Wh,Vo]at hj;by_cases z:j+1<L.length
  .rw[lt (by lia),lt z];exact h.lace j z
  .have e2:j+1=L.length:=by lia
   rw[lt (by lia),e2,xW]
   rwa[show L.length-1=j by lia]at hl
end
end Lib
namespace Lib
section
theorem yh {c e:β->Rd}{α:Type}(f:α->β)(g:α->Dat):∀(xs:List α) (acc:List Dat),(∀x∈xs,c (f x)=.ok (.bl true))->(∀x∈xs,e (f x)=.ok (g x))->acc.length+xs.length<=aq->yn c e (xs.map f) acc=.ok (.lst (acc++xs.map g))
 |[],acc,_,_,h=>by unfold yn;rw[Vy];simp only;rw[jv (by simpa using h)];simp
 |x::xs,acc,hc,he,h=>by
  rw[Wg];unfold yn;simp only[Wh]at h;rw[hc x (by simp)];simp only[aE];rw[he x (by simp)];simp only[aE];rw[MN (by lia),yh f g xs (acc++[g x]) (λy hy=>hc y (by simp[hy])) (λy hy=>he y (by simp[hy])) (by simp;lia)];simp
def vD (a s:Int)(n:Nat)(g:Nat->Dat)(hc:∀i,i<n->c (.int (a+s*(i:Int)))=.ok (.bl true))(he:∀i,i<n->e (.int (a+s*(i:Int)))=.ok (g i))(h:n<=aq):yn c e (yA a s n) []=.ok (.lst ((QI n).map g)):=by
 unfold yA;rw[yh (λ(i:Nat)=>Dat.int (a+s*(i:Int))) g (QI n) [] (λi hi=>hc i (by simpa using hi)) (λi hi=>he i (by simpa using hi)) (by simpa using h)];simp
noncomputable def mem(x:List Int)(c:Int):Bool:=x.any (λv=>decide (v=c))
def Gw(x:List Int)(c:Int):yL .isin (.int c) (row x)=.ok (.bl (mem x c)):=by
 have h:bu yT (x.map Dat.int)=true:=by
  rw[vT];simp
 have h2:(x.map Dat.int).any (λy=>c9 y (.int c))=mem x c:=by
  simp only[mem,List.any_map];congr 1
 simp only[yL,row,wI,iA];rw[h,h2];simp[ff]
noncomputable def vn(n:Nat)(x y:List Int):List Int:=(QI n).map λ(c:Nat)=>b2i (mem x c)-b2i (mem y c)
noncomputable def yz(X:List (List Int))(i:Nat):List Int:=if i=0 then[]else X.getD (i-1) []
noncomputable def sg(X:List (List Int)):List (List Int):=(QI X.length).map λi=>vn X.length (X.getD i []) (yz X i)
end
end Lib
namespace Lib
structure iE(n:Nat)(X:List (List Int)):Prop where
 len:X.length=n
 rlen:∀j,j<n->(X.getD j []).length=j+1
 inc:∀j,j<n->dC (X.getD j [])
 bd:∀j,j<n->∀i,i<j+1->0<=(X.getD j []).getD i 0/\(X.getD j []).getD i 0<n
 lace:∀j,j+1<n->hW (X.getD (j+1) []) (X.getD j [])
 last:X.getD (n-1) []=yX n
def iE.of{n:Nat}{L:List (List Int)}(hn:1<=n)(h:cX n L)(hl:L.length=n):iE n L.reverse:=by
 have g:∀j,j<n->L.reverse.getD j []=L.getD (n-1-j) []:=by
  intro j hj;rw[Qf,Qf,List.getElem?_reverse (by lia),hl]
 refine⟨by simp[hl],λj hj=>?_,λj hj=>?_,λj hj i hi=>?_,λj hj=>?_,?_⟩
 .rw[g j hj];have:=h.len (n-1-j) (by lia);lia
 .rw[g j hj];exact h.inc _ (by lia)
 .rw[g j hj];have:=h.len (n-1-j) (by lia);exact h.bd _ (by lia) i (by lia)
 .rw[g (j+1) hj,g j (by lia)];have:=h.lace (n-1-(j+1)) (by lia)
  rwa[show n-1-(j+1)+1=n-1-j by lia]at this
 .rw[g (n-1) (by lia),show n-1-(n-1)=0 by lia];exact h.first
def dC.lt (h:dC x):∀{i j:Nat},i<j->j<x.length->x.getD i 0<x.getD j 0:=by
 intro i j hij
 induction j with
 |zero=>lia
 |succ j ih=>
  intro hj;have h1:=h j hj;by_cases z:i=j
  .subst z;exact h1
  .have:=ih (by lia) (by lia);lia
def dC.nodup (h:dC x):x.Nodup:=by
 rw[List.Nodup,List.pairwise_iff_getElem];intro i j hi hj hij e;have:=h.lt hij hj;rw[vU (Qc hi),vU (Qc hj)]at this;lia
def Eu {x:List Int}(h:v∈x):∃i,i<x.length/\x.getD i 0=v:=by
 obtain⟨i,hi,e⟩:=List.getElem_of_mem h;exact⟨i,hi,vU (by rw[Qc hi,e])⟩
noncomputable def cnt(x:List Int)(c:Nat):Int:=((QI c).map λ(j:Nat)=>b2i (mem x j)).sum
noncomputable def low(x:List Int)(c:Nat):Int:=(x.map λ(v:Int)=>b2i (decide (v<(c:Int)))).sum
def gF(x:List Int)(c:Nat):cnt x (c+1)=cnt x c+b2i (mem x c):=by
 simp[cnt,List.range_succ]
def Gv(x:List Int)(nd:x.Nodup)(c:Nat):low x (c+1)=low x c+b2i (mem x c):=by
 induction x with
 |nil=>simp[low,mem,b2i]
 |cons v x ih=>
  obtain⟨hv,nd⟩:=QP.mp nd;have ih:=ih nd;have e1:low (v::x) (c+1)=b2i (decide (v<(c+1:Nat)))+low x (c+1):=by simp[low]
  have e2:low (v::x) c=b2i (decide (v<c))+low x c:=by simp[low]
  have e3:mem (v::x) c=(decide (v=c) || mem x c):=by simp[mem]
  rw[e1,e2,e3,ih];by_cases h:v=c
  .have:mem x c=false:=by
    rw[mem,List.any_eq_false];intro w hw;simp only[MU];intro e;exact hv (by rw[h,<-e];exact hw)
   rw[this];simp[h,b2i];lia
  .have:decide (v<(c+1:Nat))=decide (v<c):=by
    by_cases q:v<c
    .simp[q];lia
    .simp[q];lia
   rw[this];simp[h];lia
def Gu (h:∀v∈x,0<=v):low x 0=0:=by
 induction x with
 |nil=>rfl
 |cons v x ih=>
  have e:low (v::x) 0=b2i (decide (v<(0:Nat)))+low x 0:=by simp[low]
  rw[e,ih (λw hw=>h w (by simp[hw]))];have:=h v (by simp);have:¬v<((0:Nat):Int):=by simp;lia
  rw[MR this];rfl
theorem jU (nd:x.Nodup)(h:∀v∈x,0<=v):∀c,cnt x c=low x c
 |0=>by rw[Gu h];rfl
 |c+1=>by rw[gF,Gv x nd,jU nd h c]
def gG{x:List Int}{n:Nat}(h:∀v∈x,v<n):low x n=x.length:=by
 induction x with
 |nil=>rfl
 |cons v x ih=>
  have e:low (v::x) n=b2i (decide (v<n))+low x n:=by simp[low]
  rw[e,ih (λw hw=>h w (by simp[hw])),MS (h v (by simp))];simp[b2i];lia
theorem nj:∀(sm cz:List Int),sm.length<=cz.length->(∀i,i<sm.length->cz.getD i 0<=sm.getD i 0)->low sm c<=low cz c
 |[],cz,_,_=>by
  have:∀x:List Int,0<=low x c:=by
   intro x
   induction x with
   |nil=>exact Int.le_refl _
   |cons v x ih=>
    have e:low (v::x) c=b2i (decide (v<c))+low x c:=by simp[low]
    rw[e];unfold b2i;split<;>lia
  exact this cz
 |s::sm,[],h,_=>by simp at h
 |s::sm,b::cz,h,q=>by
  have e1:low (s::sm) c=b2i (decide (s<c))+low sm c:=by simp[low]
  have e2:low (b::cz) c=b2i (decide (b<c))+low cz c:=by simp[low]
  have h0:=q 0 (by simp);simp only[Vb]at h0;have ih:=nj (c:=c) sm cz (by simpa using h) (λi hi=>by simpa using q (i+1) (by simpa using hi));rw[e1,e2];have:b2i (decide (s<c))<=b2i (decide (b<c)):=by
   by_cases z:s<c
   .rw[MS z,MS (by lia)];exact Int.le_refl _
   .rw[MR z];unfold b2i;simp;split<;>lia
  lia
def Gs {cz:List Int}(h:hW cz sm):low sm c<=low cz c/\low cz c<=low sm c+1:=by
 obtain⟨hl,h⟩:=h;refine⟨nj sm cz (by lia) (λi hi=>(h i hi).1),?_⟩;cases cz with
 |nil=>simp at hl
 |cons b bs=>
  have e2:low (b::bs) c=b2i (decide (b<c))+low bs c:=by simp[low]
  have:=nj (c:=c) bs sm (by simp at hl;lia) (λi hi=>by have:=(h i (by simp at hl;lia)).2;simpa using this);rw[e2];have:b2i (decide (b<c))<=1:=by unfold b2i;split<;>lia
  lia
def lh(X:List (List Int)):(sg X).length=X.length:=by simp[sg]
def nI (h:r<X.length):(sg X)[r]?=some (vn X.length (X.getD r []) (yz X r)):=by simp[sg,h]
def Ic(n:Nat)(x y:List Int):(vn n x y).length=n:=by simp[vn]
def Ib (x y:List Int)(h:c<n):(vn n x y).getD c 0=b2i (mem x c)-b2i (mem y c):=vU (by simp[vn,h])
def Ia (x y:List Int):∀{c:Nat},c<=n->((vn n x y).take c).sum=cnt x c-cnt y c:=by
 intro c hc
 induction c with
 |zero=>simp[cnt]
 |succ c ih=>
  rw[Wl,gF,gF,Vm,ih (by lia)];have:(vn n x y)[c]?=some (b2i (mem x c)-b2i (mem y c)):=by simp[vn,show c<n by lia]
  rw[this];simp;lia
def CH(X:List (List Int)):Sq (sg X):=by
 intro r hr;simp only[sg,QM]at hr;obtain⟨i,_,rfl⟩:=hr;rw[Ic,lh]
def oN (X:List (List Int))(hc:c<X.length):∀{r:Nat},r<=X.length->S (sg X) r c=b2i (mem (yz X r) c):=by
 intro r
 induction r with
 |zero=>intro _;simp[S,yz,mem,b2i]
 |succ r ih=>
  intro hr;rw[nk (sg X) r c _ (nI (by lia)),ih (by lia),Ib _ _ hc];have:yz X (r+1)=X.getD r []:=by simp[yz]
  rw[this];lia
def Ja (h:c<n):mem (yX n) c=true:=by
 rw[mem,WH];exact⟨c,QM.mpr ⟨c,by simpa using h,rfl⟩,by simp⟩
def C0 (h:iE n X)(hr:r<n)(hc:c<n):lR (sg X) r c=false:=by
 have hX:=h.len;have b01:∀b:Bool,b2i b=0\/b2i b=1:=by intro b;cases b<;>simp[b2i]
 have hbd:∀j,j<n->∀v∈X.getD j [],0<=v/\v<n:=by
  intro j hj v hv;obtain⟨i,hi,rfl⟩:=Eu hv;rw[h.rlen j hj]at hi;exact h.bd j hj i hi
 have hac:ac (sg X) r (c+1)=low (X.getD r []) (c+1)-low (yz X r) (c+1):=by
  unfold ac;rw[Qf,nI (by lia)];show((vn X.length (X.getD r []) (yz X r)).take (c+1)).sum=_;rw[Ia _ _ (by lia),jU (h.inc r hr).nodup (λv hv=>(hbd r hr v hv).1)];congr 1;unfold yz;split
  .exact jU QB (by simp) _
  .exact jU (h.inc _ (by lia)).nodup (λv hv=>(hbd _ (by lia) v hv).1) _
 have hrange:(ac (sg X) r (c+1)=0\/ac (sg X) r (c+1)=1)/\(c=n-1->ac (sg X) r (c+1)=1):=by
  rw[hac];by_cases z:r=0
  .subst z;have e:yz X 0=[]:=rfl;have e0:low (yz X 0) (c+1)=0:=rfl;have hl:(X.getD 0 []).length=1:=h.rlen 0 hr;have:low (X.getD 0 []) (c+1)=0\/low (X.getD 0 []) (c+1)=1:=by
    cases hx:X.getD 0 []with
    |nil=>rw[hx]at hl;cases hl
    |cons v x=>
     rw[hx]at hl;have:x=[]:=Vj (by simpa using hl);subst this;have:=b01 (decide (v<((c+1:Nat):Int)));simpa [low]using this
   refine⟨by lia,λec=>?_⟩;have hf:low (X.getD 0 []) (c+1)=(X.getD 0 []).length:=gG (λv hv=>by have:=(hbd 0 hr v hv).2;lia);rw[hf,hl,e0];rfl
  .have e:yz X r=X.getD (r-1) []:=by simp[yz,z]
   have hla:=h.lace (r-1) (by lia);rw[show r-1+1=r by lia]at hla;have:=Gs (c:=c+1) hla;rw[e];refine⟨by lia,λec=>?_⟩;have hf:low (X.getD r []) (c+1)=(X.getD r []).length:=gG (λv hv=>by have:=(hbd r hr v hv).2;lia);have hg:low (X.getD (r-1) []) (c+1)=(X.getD (r-1) []).length:=gG (λv hv=>by have:=(hbd (r-1) (by lia) v hv).2;lia);rw[hf,hg,h.rlen r hr,h.rlen (r-1) (by lia)];lia
 have hS:S (sg X) (r+1) c=b2i (mem (X.getD r []) c):=by
  rw[oN X (by lia) (by lia)];simp[yz]
 have hSr:(S (sg X) (r+1) c=0\/S (sg X) (r+1) c=1)/\(r=n-1->S (sg X) (r+1) c=1):=by
  rw[hS];refine⟨b01 _,λe=>?_⟩;rw[e,h.last,Ja hc];rfl
 have off:∀(t:Int) (b:Bool),(t=0\/t=1)->(b=true->t=1)->jJ t b=false:=by
  intro t b h1 h2;cases b with
  |true=>simp[jJ,h2 rfl]
  |false=>rcases h1 with h|h<;>simp[jJ,h]
 unfold lR;rw[W9];refine⟨off _ _ hrange.1 λe=>hrange.2 ?_,off _ _ hSr.1 λe=>hSr.2 ?_⟩
 .simp only[MU,lh]at e;lia
 .simp only[MU,lh]at e;lia
end Lib
namespace Lib
section
variable{lev:Nat->Lv}
def tG{α β:Type}{xs:List α}{ys:List β}{i:Nat}{a:α}{b:β}(h:xs[i]?=some a)(h2:ys[i]?=some b):(xs.zip ys)[i]?=some (a,b):=List.getElem?_zip_eq_some.mpr ⟨h,h2⟩
def AB(e:Ex)(x:List Int)(he:∀i:Int,aV lev e (.int i)=.full):(x.map Dat.int).all (λd=>aV lev e d == .full)=true:=by
 rw[WE,QF];intro v _;simp[he]
def Gr(s:Int)(x:List Int)(h:x.length<=aq):wJ .enum (row x) (.int s)=some ((QI x.length).map λ(i:Nat)=>(Dat.int (s+i),Dat.int (x.getD i 0))):=by
 simp only[wJ,fL,row,Qx];rw[MN h];congr 1;refine Wr λi=>?_;by_cases hi:i<x.length
 .rw[tG (a:=Dat.int (s+i)) (b:=Dat.int (x.getD i 0)) (by rw[y4 _ _ _ _ hi,Int.one_mul]) (by rw[Qn,C3 hi];rfl)];simp[hi]
 .rw[Qq (by simp;lia),Qq (by simp;lia)]
end
end Lib
namespace Lib
section
theorem bF:∀(x:List Int),cn (x.map Dat.int) (x.map Dat.int)=true
 |[]=>rfl
 |v::x=>by simp[cn,bF x]
def CZ(x:List Int):yL .ne (row x) (row x)=.ok (.bl false):=by
 have h:yS yT (row x)=true:=by
  simp only[row,uU,gC];rw[vT];simp
 simp only[yL,dT,h,Bool.and_self,if_true];simp only[row,tH,bF];rfl
theorem Am:∀(x:List Int),en (x.map Dat.int)=some x.sum
 |[]=>rfl
 |v::x=>by simp[en,Am x]
end
end Lib
namespace Lib
section
variable{lev:Nat->Lv}{cl:Nat->List Dat->Rd}{k:Nat}
noncomputable def ml:Sm:=(.seq (.expr (.meth .append (.var 2) (.pair (.bin .mod (.var 3) (.lit (.int 60))) .unit))) (.asg 3 (.bin .fdiv (.var 3) (.lit (.int 60)))))
noncomputable def mj:Ex:=(.bin .mod (.bin .add (.bin .add (.bin .mul (.var 0) (.bin .add (.lit (.int 48271)) (.bin .mul (.lit (.int 2)) (.var 4)))) (.bin .mul (.lit (.int 7919)) (.var 4))) (.lit (.int 5))) (.lit (.int 99991)))
noncomputable def mi:Ex:=(.bin .mod (.bin .mul (.var 5) (.bin .add (.bin .add (.var 5) (.lit (.int 3))) (.bin .mul (.var 4) (.var 4)))) (.lit (.int 99989)))
noncomputable def mh:Sm:=(.seq (.asg 5 mj) (.expr (.meth .append (.var 2) (.pair mi .unit))))
noncomputable def iN:Sm:=(.ite (.cmp .ge (.var 0) (.bin .pow (.lit (.int 10)) (.lit (.int 18)))) ml mh)
noncomputable def mf:Fn:=⟨2,6,(.seq (.asg 2 (.lst .unit)) (.seq (.asg 3 (.var 0)) (.seq (.forv 4 (.rng (.lit (.int 0)) (.var 1) (.lit (.int 1))) iN) (.ret (.var 2)))))⟩
def uS (hx:x.length<aq)(de:aO)(lv:List Lv)(j:Nat)(he:ao cl e de=.ok (.int v))(hd:de[j]?=some (some (row x)))(hj:yo lv j=true):
  aG lev cl (.expr (.meth .append (.var j) (.pair e .unit))) de lv=.next (de.set j (some (row (x++[v])))) lv:=by
 rw[nM,he];simp only[fX];have hls:xJ de j=some (x.map Dat.int):=by simp[xJ,hd,row]
 rw[hls];simp only[Qx];rw[MN hx];have hg:wl lev e (.int v) j de lv=some (de,lv):=by
  unfold wl;rw[MO (by simp[hj]),MN (xI lev e _ rfl)]
 rw[hg];simp[row]
def Gq (cell rest:Int)(m:Int)(hx:x.length<aq)(t:Nat)(o5:Option Dat):
  aG lev cl ml [some (.int cell),some (.int m),some (row x),some (.int rest),some (.int t),o5] [.full,.full,.full,.full,.full,.full]=.next [some (.int cell),some (.int m),some (row (x++[rest%60])),some (.int (rest/60)),some (.int t),o5] [.full,.full,.full,.full,.full,.full]:=by
 have h1:=wn rest 60 (by decide);have h2:=nO rest 60 (by decide) (by decide);unfold ml;rw[C5,uS (v:=rest%60) hx _ _ 2 (by simp only[zH,zd,za,ze,aE,h1]) rfl rfl];simp only[zg,Qe,Qd,zL,zH,zd,za,ze,aE,h2,aX];rw[zS (by simp)];simp only[Qe,Qd]
def Gp (cell rest m t:Int)(ht:-1<t)(ht':t<101)(o5:Option Dat):
  ∃one:Int,yJ one=true/\ao cl mj [some (.int cell),some (.int m),some (row x),some (.int rest),some (.int t),o5]=.ok (.int one):=by
 have e1:yY .mul (.int 2) (.int t)=.ok (.int (2*t)):=wD _ _ (by decide);have e2:yY .mul (.int 7919) (.int t)=.ok (.int (7919*t)):=wD _ _ (by decide);have e3:yY .add (.int 48271) (.int (2*t))=.ok (.int (48271+2*t)):=zY _ _;have e4:yY .mul (.int cell) (.int (48271+2*t))=.ok (.int (cell*(48271+2*t))):=uT _ _ (kS (by lia) (by lia));have e5:=zY (cell*(48271+2*t)) (7919*t);generalize cell*(48271+2*t)+7919*t=A at *
 have e6:=zY A 5;have e7:=wn (A+5) 99991 (by decide);have b1:0<=(A+5)%99991:=by lia
 have b2:(A+5)%99991<99991:=by lia
 refine⟨(A+5)%99991,kS (by lia) (by lia),?_⟩;unfold mj;simp only[zH,zd,za,ze,aE,e1,e2,e3,e4,e5,e6,e7]
def Gm (cell rest m t one:Int)(ht:yJ t=true)(ho:yJ one=true):
  ∃v:Int,ao cl mi [some (.int cell),some (.int m),some (row x),some (.int rest),some (.int t),some (.int one)]=.ok (.int v):=by
 have e1:=wD t t ht;have e2:=zY one 3;have e3:=zY (one+3) (t*t);have e4:=wD one (one+3+t*t) ho;have e5:=wn (one*(one+3+t*t)) 99989 (by decide);refine⟨(one*(one+3+t*t))%99989,?_⟩;unfold mi;simp only[zH,zd,za,ze,aE,e1,e2,e3,e4,e5]
def Gk (cell rest m t:Int)(hx:x.length<aq)(ht:-1<t)(ht':t<101)(o5:Option Dat):
  ∃v o5',aG lev cl mh [some (.int cell),some (.int m),some (row x),some (.int rest),some (.int t),o5] [.full,.full,.full,.full,.full,.full]=.next [some (.int cell),some (.int m),some (row (x++[v])),some (.int rest),some (.int t),o5'] [.full,.full,.full,.full,.full,.full]:=by
 obtain⟨one,s5,hone⟩:=Gp (cl:=cl) cell rest m t (x:=x) ht ht' o5;obtain⟨v,hv⟩:=Gm (cl:=cl) cell rest m t one (x:=x) (kS (by lia) (by lia)) s5;refine⟨v,some (.int one),?_⟩;unfold mh;rw[kW,zL,hone,aX,zS (by simp)];simp only[zg,Qe,Qd];rw[uS (v:=v) hx _ _ 2 hv rfl rfl];simp only[Qe,Qd]
def Gj (cell rest:Int)(m:Int)(hx:x.length<aq)(t:Nat)(ht:t<=100)(o5:Option Dat):
  ∃v rest' o5',aG lev cl iN [some (.int cell),some (.int m),some (row x),some (.int rest),some (.int t),o5] [.full,.full,.full,.full,.full,.full]=.next [some (.int cell),some (.int m),some (row (x++[v])),some (.int rest'),some (.int t),o5'] [.full,.full,.full,.full,.full,.full]:=by
 have hp:yY .pow (.int 10) (.int 18)=.ok (.int (10^18)):=C6 10 18 ⟨by decide,by decide,by decide⟩;unfold iN;rw[zV];simp only[zD,zH,zd,za,aE,hp,CI,aX];generalize ((10:Int)^18)=P;by_cases hc:P<=cell
 .simp only[hc,decide_true];exact⟨rest%60,rest/60,o5,Gq cell rest m hx t o5⟩
 .simp only[hc,decide_false];obtain⟨v,o,e⟩:=Gk (lev:=lev) (cl:=cl) cell rest m t hx (by lia) (by lia) o5;exact⟨v,rest,o,e⟩
def Et (cell:Int)(hm:m<=100)(hk:lev k≠.top):∃x:List Int,x.length=m/\zw lev cl k mf [.int cell,.int m]=.ok (row x):=by
 have hrng:kL (.int 0) (.int (m:Int)) (.int 1)=.ok (.tup (yA 0 1 m)):=by
  rw[vx (by unfold aq;lia)];simp[v6]
 have main:=x5 (body:=λd de lv=>aG lev cl iN (de.set 4 (some d)) (lv.set 4 (bo d)))
  (λt de lv=>∃(x:List Int) (rest:Int) (o4 o5:Option Dat),x.length=t/\de=[some (.int cell),some (.int m),some (row x),some (.int rest),o4,o5]/\lv=[.full,.full,.full,.full,.full,.full])
  (yA 0 1 m) (de:=[some (.int cell),some (.int m),some (row []),some (.int cell),none,none]) (lv:=[.full,.full,.full,.full,.full,.full])
  ⟨[],cell,none,none,rfl,rfl,rfl⟩ ?_
 .obtain ⟨de',lv',e,x,rest,o4,o5,hx,rfl,rfl⟩:=main;rw[wq]at hx;refine⟨x,hx,?_⟩;unfold zw;rw[MN (by rfl)];show zG (lev k) (aG lev cl (.seq _ (.seq _ (.seq _ _))) [some (.int cell),some (.int m),none,none,none,none] [bo (.int cell),bo (.int m),.full,.full,.full,.full])=_;rw[show bo (.int cell)=.full from by simp[bo],show bo (.int (m:Int))=.full from by simp[bo],zE];have hnew:yO []=.ok (row []):=rfl;simp only[zL,wM,zh,aE,zf,hnew,aX];rw[yQ (by simp[row])];simp only[zg,Qe,Qd];rw[zE];simp only[zL,za,aX];rw[zS (by simp)];simp only[zg,Qe,Qd];rw[yW,wN];simp only[xw,zd,za,ze,aE,hrng,aX,yI,xK,xa,if_true];rw[e,zg];simp only[zZ,za,ze,aX,bO,zG,show ax (row x)=false from by simp[row],QR,if_false,Bool.false_or];show(if jO Lv.full (lev k)=true then _ else _)=_;cases e:lev k<;>first|rfl|exact MP e hk
 .rintro t d de lv hd ⟨x,rest,o4,o5,hx,rfl,rfl⟩;have ht:t<m:=by
   have:=(Qa.mp hd).1;simpa using this
  rw[y4 _ _ _ _ ht]at hd;cases hd;simp only[Qe,Qd,show bo (.int (0+1*(t:Int)))=.full from by simp[bo]];rw[show(0+1*(t:Int))=(t:Int) by lia];obtain⟨v,rest',o5',e⟩:=Gj (lev:=lev) (cl:=cl) cell rest m (x:=x) (by unfold aq;lia) t (by lia) o5;exact⟨_,_,e,x++[v],rest',some (.int t),o5',by simp[hx],rfl,rfl⟩
noncomputable def vG:Fn:=⟨1,1,(.seq (.ite (.cmp .eq (.bin .mod (.var 0) (.lit (.int 8))) (.lit (.int 3))) (.ret (.bin .add (.lit (.int 1)) (.bin .mod (.bin .fdiv (.var 0) (.lit (.int 8))) (.lit (.int 12))))) .skip) (.ret (.bin .add (.lit (.int 1)) (.bin .mod (.bin .fdiv (.var 0) (.lit (.int 8))) (.lit (.int 6))))))⟩
def IH(c:Int):∃n:Nat,1<=n/\n<=12/\zw lev cl k vG [.int c]=.ok (.int n):=by
 have h8:=wn c 8 (by decide);have d8:=nO c 8 (by decide) (by decide);have m12:=wn (c/8) 12 (by decide);have m6:=wn (c/8) 6 (by decide);by_cases h:c%8=3
 .refine ⟨(1+c/8%12).toNat,by lia,by lia,?_⟩;rw[show(((1+c/8%12).toNat:Nat):Int)=1+c/8%12 by lia];simp[zw,vG,zT,zP,zG,bO,h8,d8,m12,h]
 .refine ⟨(1+c/8%6).toNat,by lia,by lia,?_⟩;rw[show(((1+c/8%6).toNat:Nat):Int)=1+c/8%6 by lia];simp[zw,vG,zT,zP,zG,bO,h8,d8,m6,h]
def Gi(c:Ex)(body:Sm)(de:aO)(lv:List Lv):aG lev cl (.while c body) de lv=wY (ao cl c) (aG lev cl body) 1000000 de lv:=rfl
def IZ (P:Nat->aO->List Lv->Prop)(N:Nat)(hs:∀t de lv,t<N->P t de lv->c de=.ok (.bl true)/\∃de' lv',body de lv=.next de' lv'/\P (t+1) de' lv')(he:∀de lv,P N de lv->c de=.ok (.bl false)):
  ∀(n t fuel:Nat) (de:aO) (lv:List Lv),t+n=N->n<fuel->P t de lv->∃de' lv',wY c body fuel de lv=.next de' lv'/\P N de' lv':=by
 intro n
 induction n with
 |zero=>
  intro t fuel de lv h1 h2 p;obtain⟨f,rfl⟩:∃f,fuel=f+1:=⟨fuel-1,by lia⟩;have:t=N:=by lia
  subst this;refine⟨de,lv,?_,p⟩;unfold wY;rw[he de lv p]
 |succ n ih=>
  intro t fuel de lv h1 h2 p;obtain⟨f,rfl⟩:∃f,fuel=f+1:=⟨fuel-1,by lia⟩;obtain⟨hc,d1,l1,hb,p1⟩:=hs t de lv (by lia) p;obtain⟨d2,l2,e,p2⟩:=ih (t+1) f d1 l1 (by lia) (by lia) p1;refine⟨d2,l2,?_,p2⟩;unfold wY;rw[hc];simp only;rw[hb];exact e
end
end Lib
namespace Lib
section
variable{lev:Nat->Lv}{cl:Nat->List Dat->Rd}{k:Nat}
def HZ(j a x:Nat)(e:Ex)(de:aO)(lv:List Lv):aG lev cl (.appPop j a x e) de lv=match xJ de x,de[a]?,xJ de j with
  |some (.int v::r),some (some (.int low)),some ds=>(ao cl e (de.set x (some (.lst r)))).okS λd=>match d with
   |.int k=>if j≠x/\a≠x/\yo lv j=true/\yo lv x=true/\0<k/\ds.length<aq then .next ((de.set x (some (.lst r))).set j (some (.lst (ds++[.int (low+v%k)])))) lv else .no
   |_=>.no
  |_,_,_=>.no:=rfl
def IG(a:Sm)(j b x:Nat)(e:Ex):yP a (.appPop j b x e)=none:=rfl
def HY(a:Sm)(j b x:Nat)(e:Ex)(de:aO)(lv:List Lv):aG lev cl (.seq a (.appPop j b x e)) de lv=(aG lev cl a de lv).then (aG lev cl (.appPop j b x e)):=yq lev cl de lv (IG a j b x e)
def Es(j:Nat)(e:Ex)(de:aO)(lv:List Lv):aG lev cl (.expr (.meth .insert (.var j) (.pair (.lit (.int 0)) (.pair e .unit)))) de lv=(ao cl e de).okS λd=>match xJ de j with
   |some ds=>if ds.length<aq then match wl lev e d j de lv with
    |some (de1,lv1)=>.next (de1.set j (some (.lst (d::ds)))) lv1
    |none=>.no
    else .no
   |none=>.no:=rfl
def CY(x:List Int):yL .ne (row x) (row [])=.ok (.bl (! decide (x=[]))):=by
 have h:∀y,yS yT (row y)=true:=λy=>by
  simp only[row,uU,gC];rw[vT];simp
 simp only[yL,dT,h,Bool.and_self,if_true];simp only[row,tH,Vy];cases x with
 |nil=>rfl
 |cons v x=>simp[cn];rfl
noncomputable def hU:Sm:=(.seq (.asg 7 (.idx (.var 4) (.var 6))) (.seq (.ite (.cmp .ne (.var 5) (.lst .unit)) (.asg 7 (.blt .max2 (.pair (.var 7) (.pair (.bin .add (.idx (.var 5) (.neg (.lit (.int 1)))) (.lit (.int 1))) .unit)))) .skip) (.appPop 5 7 2 (.bin .add (.bin .sub (.idx (.var 4) (.bin .add (.var 6) (.lit (.int 1)))) (.var 7)) (.lit (.int 1))))))
noncomputable def dE(l3 l4:Lv):List Lv:=[.full,.full,.full,l3,l4,.full,.full,.full]
def Gh (hm:m+1<last.length)(hl:dC last)(ha:acc.length=m)(hb:∀i,i<m->acc.getD i 0<=last.getD (i+1) 0)(hlim:last.length<=100):
  ∃(w:Int) (p7:Option Dat),aG lev cl hU [a,b,some (row (v::xs)),f,some (row last),some (row acc),some (.int m),o7] (dE l3 l4)=.next [a,b,some (row xs),f,some (row last),some (row (acc++[w])),some (.int m),p7] (dE l3 l4)
   /\ last.getD m 0<=w/\w<=last.getD (m+1) 0/\(0<m->acc.getD (m-1) 0<w):=by
 have g1:yt (row last) (.int (m:Int))=.ok (.int (last.getD m 0)):=jT (by rw[Qf,Qc (by lia)];rfl);have g2:yt (row last) (.int ((m:Int)+1))=.ok (.int (last.getD (m+1) 0)):=by
  have:=jT (x:=last) (c:=m+1) (v:=last.getD (m+1) 0) (by rw[Qf,Qc (by lia)];rfl)
  rwa[show((m+1:Nat):Int)=(m:Int)+1 by lia]at this
 have hi:=hl m hm;have low:∃low:Int,last.getD m 0<=low/\low<=last.getD (m+1) 0/\(0<m->acc.getD (m-1) 0<low)/\aG lev cl (.seq (.asg 7 (.idx (.var 4) (.var 6))) (.ite (.cmp .ne (.var 5) (.lst .unit)) (.asg 7 (.blt .max2 (.pair (.var 7) (.pair (.bin .add (.idx (.var 5) (.neg (.lit (.int 1)))) (.lit (.int 1))) .unit)))) .skip)) [a,b,some (row (v::xs)),f,some (row last),some (row acc),some (.int m),o7] (dE l3 l4)=.next [a,b,some (row (v::xs)),f,some (row last),some (row acc),some (.int m),some (.int low)] (dE l3 l4):=by
  have hnew:yO []=.ok (row []):=rfl;unfold dE;rw[lm];simp only[zL,zI,ze,za,aE,g1,aX];rw[zS (by simp),zg];simp only[Qe,Qd,zV,zD,ze,za,wM,zh,aE,zf,hnew];rw[CY];by_cases z:acc=[]
  .subst z;refine⟨last.getD m 0,by lia,by lia,λh=>by simp at ha;lia,?_⟩;simp
  .have hm0:0<m:=by cases acc with
    |nil=>exact MP rfl z
    |cons _ _=>simp at ha;lia
   have g3:yt (row acc) (.int (-1))=.ok (.int (acc.getD (m-1) 0)):=by
    refine Hj ?_;rw[Qx,ha,Qn,Qf,Qc (by lia)];rfl
   have h1:=hb (m-1) (by lia);rw[show m-1+1=m by lia]at h1;refine⟨if acc.getD (m-1) 0+1 > last.getD m 0 then acc.getD (m-1) 0+1 else last.getD m 0,?_,?_,?_,?_⟩
   .split<;>lia
   .split<;>lia
   .intro _;split<;>lia
   .simp only[z,decide_false,Vr,aX,zL,zM,zl,zh,zH,zI,ve,zd,ze,za,aE,g3,zY,zf];rw[show yM .max2 [.int (last.getD m 0),.int (acc.getD (m-1) 0+1)]=.ok (.int (if acc.getD (m-1) 0+1 > last.getD m 0 then acc.getD (m-1) 0+1 else last.getD m 0))from rfl];simp only[aX];rw[zS (by simp)];rfl
 obtain⟨low,l1,l2,l3',hlow⟩:=low;have pos:0<last.getD (m+1) 0-low+1:=by lia
 have q1:=W5 v (b:=last.getD (m+1) 0-low+1) (by lia);have q2:=WU v pos;refine⟨low+v % (last.getD (m+1) 0-low+1),some (.int low),?_,by lia,by lia,λh=>by have:=l3' h;lia⟩;unfold hU;have assoc:∀(A B:Sm) (j b x:Nat) (e:Ex) (de:aO) (lv:List Lv),yP A B=none->aG lev cl (.seq A (.seq B (.appPop j b x e))) de lv=(aG lev cl (.seq A B) de lv).then (aG lev cl (.appPop j b x e)):=by
  intro A B j b x e de lv h;rw[zE,yq lev cl de lv h];cases aG lev cl A de lv<;>first|rfl|(simp only[zg];rw[HY])
 rw[assoc _ _ _ _ _ _ _ _ (gE _ _ _ _),hlow,zg,HZ];simp only[xJ,row,Wg,Vx,Vw,Qe,Qd];rw[show(Dat.lst (last.map Dat.int))=row last from rfl];simp only[zH,zI,zd,ze,za,aE,zY,g2,xR,fX];rw[MN ⟨by decide,by decide,rfl,rfl,pos,by rw[Qx];unfold aq;lia⟩];simp
def Er (hlen:last.length=kk+1)(hl:dC last)(hlim:last.length<=100)(hx:kk<=xs.length):
  ∃(acc:List Int) (xs':List Int) (p6 p7:Option Dat),yB (λx de lv=>aG lev cl hU (de.set 6 (some x)) (lv.set 6 (bo x))) (yA 0 1 kk) [a,b,some (row xs),f,some (row last),some (row []),o6,o7] (dE l3 l4) =
   .next [a,b,some (row xs'),f,some (row last),some (row acc),p6,p7] (dE l3 l4)/\dC acc/\hW last acc/\xs'.length+kk=xs.length:=by
 have main:=x5 (body:=λx de lv=>aG lev cl hU (de.set 6 (some x)) (lv.set 6 (bo x)))
  (λm de lv=>∃(acc:List Int) (xs':List Int) (p6 p7:Option Dat),de=[a,b,some (row xs'),f,some (row last),some (row acc),p6,p7]/\lv=dE l3 l4/\acc.length=m/\dC acc/\(∀i,i<m->last.getD i 0<=acc.getD i 0/\acc.getD i 0<=last.getD (i+1) 0)/\xs'.length+m=xs.length)
  (yA 0 1 kk) (de:=[a,b,some (row xs),f,some (row last),some (row []),o6,o7]) (lv:=dE l3 l4)
  ⟨[],xs,o6,o7,rfl,rfl,rfl,λi hi=>by simp at hi,λi hi=>by lia,rfl⟩ ?_
 .obtain ⟨de',lv',e,acc,xs',p6,p7,rfl,rfl,h1,h2,h3,h4⟩:=main;rw[wq]at h1 h3 h4;exact⟨acc,xs',p6,p7,e,h2,⟨by lia,λi hi=>h3 i (by lia)⟩,h4⟩
 .rintro m x de lv hx' ⟨acc,xs',p6,p7,rfl,rfl,h1,h2,h3,h4⟩;have hmk:m<kk:=by
   have:=(Qa.mp hx').1;simpa using this
  rw[y4 _ _ _ _ hmk]at hx';cases hx';have e1:(0:Int)+1*(m:Int)=(m:Int):=by lia
  obtain⟨v,xs2,rfl⟩:∃v xs2,xs'=v::xs2:=by
   cases xs' with
   |nil=>simp at h4;lia
   |cons v xs2=>exact⟨v,xs2,rfl⟩
  obtain⟨w,q7,e,b1,b2,b3⟩:=Gh (lev:=lev) (cl:=cl) (a:=a) (b:=b) (f:=f) (l3:=l3) (l4:=l4) (v:=v) (xs:=xs2) (last:=last) (acc:=acc) (m:=m) (o7:=p7) (by lia) hl h1 (λi hi=>(h3 i hi).2) hlim;refine⟨_,_,?_,acc++[w],xs2,some (.int m),q7,rfl,rfl,by simp[h1],h2.app (λh=>?_),λi hi=>?_,by simp at h4 ⊢;lia⟩
  .simp only[e1,dE,Qe,Qd,show bo (.int (m:Int))=.full from by simp[bo]];exact e
  .rw[h1]at h ⊢;exact b3 h
  .by_cases z:i<m
   .rw[wG (by lia)];exact h3 i z
   .have:i=acc.length:=by lia
    subst this;rw[jK,h1];exact⟨b1,b2⟩
noncomputable def eh:Nat->Nat
 |0=>0
 |m+1=>eh m+(m+1)
def HX:∀{a b:Nat},a<=b->eh a<=eh b:=by
 intro a b h
 induction b with
 |zero=>
  have:a=0:=by lia
  subst this;exact Qk _
 |succ b ih=>
  by_cases z:a=b+1
  .subst z;exact Qk _
  .have:=ih (by lia);rw[show eh (b+1)=eh b+(b+1)from rfl];lia
noncomputable def lf:Sm:=(.seq (.asg 4 (.idx (.var 3) (.lit (.int 0)))) (.seq (.asg 5 (.lst .unit)) (.seq (.forv 6 (.rng (.lit (.int 0)) (.bin .sub (.blt .len (.pair (.var 4) .unit)) (.lit (.int 1))) (.lit (.int 1))) hU) (.expr (.meth .insert (.var 3) (.pair (.lit (.int 0)) (.pair (.var 5) .unit)))))))
noncomputable def lc:Ex:=(.cmp .gt (.blt .len (.pair (.idx (.var 3) (.lit (.int 0))) .unit)) (.lit (.int 1)))
noncomputable def mL(kn:Nat):Fn:=⟨2,8,(.seq (.asg 2 (.call kn (.pair (.var 0) (.pair (.lit (.int 66)) .unit)))) (.seq (.asg 3 (.lst (.pair (.lrng (.var 1)) .unit))) (.seq (.while lc lf) (.ret (.var 3)))))⟩
noncomputable def WP(cell:Int)(n t:Nat)(de:aO)(lv:List Lv):Prop:=∃(L:List (List Int)) (xs:List Int) (o4 o5 o6 o7:Option Dat) (l3 l4 l5:Lv),de=[some (.int cell),some (.int n),some (row xs),some (ak L.reverse),o4,o5,o6,o7]/\lv=[.full,.full,.full,l3,l4,l5,.full,.full]/\(l3=.full\/l3=.top)/\L.length=t+1/\cX n L/\eh (n-1-t)<=xs.length
def tF {n:Nat}{L:List (List Int)}(h1:L.length=t+1):yt (ak L.reverse) (.int 0)=.ok (row (L.getD t [])):=by
 have:yt (ak L.reverse) (.int ((0:Nat):Int))=.ok (row (L.getD t [])):=kX (by rw[List.getElem?_reverse (by lia),h1,Qf,show t+1-1-0=t by lia,Qc (by lia)];rfl);simpa using this
def tM (ht:t<n)(h:WP cell n t de lv):ao cl lc de=.ok (.bl (decide (t+1<n))):=by
 obtain⟨L,xs,o4,o5,o6,o7,l3,l4,l5,rfl,rfl,hl3,h1,h2,h3⟩:=h;have hd:=tF (n:=n) h1;have hl:=h2.len t (by lia);have hlen:yM .len [row (L.getD t [])]=.ok (.int ((L.getD t []).length:Nat)):=by simp[row]
 unfold lc;simp only[zD,zM,zl,zh,zI,ze,za,zd,aE,hd,zf,hlen,sY];rw[show decide ((1:Int)<((L.getD t []).length:Nat))=decide (t+1<n)from decide_eq_decide.mpr (by lia)]
def CW (hn:n<=100)(ht:t+1<n)(h:WP cell n t de lv):∃de' lv',aG lev cl lf de lv=.next de' lv'/\WP cell n (t+1) de' lv':=by
 obtain⟨L,xs,o4,o5,o6,o7,l3,l4,l5,rfl,rfl,hl3,h1,h2,h3⟩:=h;have hd:=tF (n:=n) h1;have hl:=h2.len t (by lia);have hlen:yM .len [row (L.getD t [])]=.ok (.int ((L.getD t []).length:Nat)):=by simp[row]
 have hnew:yO []=.ok (row []):=rfl;have hrng:kL (.int 0) (.int (((L.getD t []).length:Nat)-1:Int)) (.int 1)=.ok (.tup (yA 0 1 (n-1-t))):=by
  rw[show(((L.getD t []).length:Nat)-1:Int)=((n-1-t:Nat):Int) by lia,vx (by unfold aq;lia)];simp[v6]
 have hneed:eh (n-1-t)=eh (n-1-(t+1))+(n-1-t):=by
  rw[show n-1-t=(n-1-(t+1))+1 by lia];rfl
 obtain⟨acc,xs',p6,p7,e,hinc,hlace,hxs⟩:=Er (lev:=lev) (cl:=cl) (a:=some (.int cell)) (b:=some (.int n)) (f:=some (ak L.reverse)) (l3:=.top) (l4:=.no) (xs:=xs) (last:=L.getD t []) (o6:=o6) (o7:=o7) (kk:=n-1-t) (by lia) (h2.inc t (by lia)) (by lia) (by lia);refine⟨[some (.int cell),some (.int n),some (row xs'),some (ak (L++[acc]).reverse),some (row (L.getD t [])),some (row acc),p6,p7],[.full,.full,.full,.top,.no,.no,.full,.full],?_,L++[acc],xs',_,_,_,_,.top,.no,.no,rfl,rfl,Or.inr rfl,by simp[h1],h2.app (by lia) hinc (by rw[show L.length-1=t by lia];exact hlace),by lia⟩;unfold lf;rw[zE];simp only[zL,zI,ze,za,zd,aE,hd,aX];rw[show jr lev 4 (.idx (.var 3) (.lit (.int 0))) (row (L.getD t [])) [some (.int cell),some (.int n),some (row xs),some (ak L.reverse),o4,o5,o6,o7] [.full,.full,.full,l3,l4,l5,.full,.full]=.next [some (.int cell),some (.int n),some (row xs),some (ak L.reverse),some (row (L.getD t [])),o5,o6,o7] [.full,.full,.full,.top,.no,l5,.full,.full]from by
  rcases hl3 with rfl|rfl<;>rfl]
 simp only[zg];rw[zE];simp only[zL,wM,zh,aE,zf,hnew,aX];rw[yQ (by simp[row])];simp only[zg,Qe,Qd];rw[kW,wN];simp only[xw,zH,zM,zl,zh,zf,zd,ze,za,aE,hlen,xR,hrng,aX,yI,xK,xa,if_true];rw[show[Lv.full,Lv.full,Lv.full,Lv.top,Lv.no,Lv.full,Lv.full,Lv.full]=dE .top .no from rfl,e,zg,Es];simp only[ze,za,fX,xJ,ak,Vx,Vw];rw[MN (by rw[Qx,List.length_reverse,h1];unfold aq;lia)];have hg:wl lev (.var 5) (row acc) 3 [some (.int cell),some (.int n),some (row xs'),some (.lst (L.reverse.map row)),some (row (L.getD t [])),some (row acc),p6,p7] (dE .top .no)=some ([some (.int cell),some (.int n),some (row xs'),some (.lst (L.reverse.map row)),some (row (L.getD t [])),some (row acc),p6,p7],[.full,.full,.full,.top,.no,.no,.full,.full]):=by
  simp[wl,yo,dE,row,bb]
 rw[hg];simp[ak]
def GH (hk1:∀c:Int,∃x:List Int,x.length=66/\cl kn [.int c,.int 66]=.ok (row x))(hkn:lev kn=.full)(hn:1<=n)(hn':n<=12)(cell:Int)(hlev:lev k=.no):
  ∃L,L.length=n/\cX n L/\zw lev cl k (mL kn) [.int cell,.int n]=.ok (ak L.reverse):=by
 obtain⟨xs,hxs,cP⟩:=hk1 cell;have hneed:eh (n-1-0)<=xs.length:=by
  rw[hxs];exact Qp (HX (show n-1-0<=11 by lia)) (by decide)
 have hl:ao cl (.lrng (.var 1)) [some (.int cell),some (.int n),some (row xs),none,none,none,none,none]=.ok (row (yX n)):=by
  simp only[EA,ze,za,aE];rw[MN (by unfold aq;lia),jv (by simp;unfold aq;lia),<-II];simp
 have hnew:yO [row (yX n)]=.ok (ak [yX n]):=by rw[jv (by simp[aq])];rfl
 obtain⟨de',lv',e,L,xs',o4,o5,o6,o7,l3,l4,l5,rfl,rfl,hl3,h1,h2,h3⟩:=IZ (c:=ao cl lc) (body:=aG lev cl lf) (WP cell n) (n-1)
  (λt de lv ht p=>⟨by rw[tM (by lia) p];simp;lia,CW (by lia) (by lia) p⟩)
  (λde lv p=>by rw[tM (by lia) p];simp;lia) (n-1) 0 1000000 [some (.int cell),some (.int n),some (row xs),some (ak [yX n]),none,none,none,none] [.full,.full,.full,.full,.full,.full,.full,.full]
  (by lia) (by lia) ⟨[yX n],xs,none,none,none,none,.full,.full,.full,rfl,rfl,Or.inl rfl,rfl,cX.one n,hneed⟩
 refine⟨L,by lia,h2,?_⟩;unfold zw;rw[MN (by rfl)];show zG (lev k) (aG lev cl (.seq _ (.seq _ (.seq _ _))) [some (.int cell),some (.int n),none,none,none,none,none,none] [bo (.int cell),bo (.int n),.full,.full,.full,.full,.full,.full])=_;simp only[show ∀i:Int,bo (.int i)=.full from λi=>by simp[bo]];rw[zE];simp only[zL,zu,zl,zh,ze,za,zd,aE,zf,cP,aX];rw[yQ (by simp[row,hkn])];simp only[zg,Qe,Qd];rw[zE];simp only[zL,wM,zl,zh,hl,aE,zf,hnew,aX];rw[yQ (by simp[ak,row])];simp only[zg,Qe,Qd];rw[yW,Gi,e,zg];simp only[zZ,ze,za,aX,bO,zG,show ax (ak L.reverse)=false from by simp[ak],QR,if_false,hlev];rfl
end
end Lib
namespace Lib
end Lib
namespace Lib
end Lib
namespace Lib
section
noncomputable def pG(i:Int)(x:List Int)(j:Nat):Int:=i+j-2*(x.take j).sum
noncomputable def zkO(i:Int)(x:List Int):List Int:=(QI (x.length+1)).map (pG i x)
def gH {x:List Int}(h:x[t]?=some v):(x.take (t+1)).sum=(x.take t).sum+v:=by
 rw[Wl,h,Vm];simp
def GG(s:Int)(A:List (List Int))(h:A.length<=aq):wJ .enum (ak A) (.int s)=some ((QI A.length).map λ(i:Nat)=>(Dat.int (s+i),row (A.getD i []))):=by
 simp only[wJ,ak,Qx];rw[MN h];congr 1;refine Wr λi=>?_;by_cases hi:i<A.length
 .rw[tG (a:=Dat.int (s+i)) (b:=row (A.getD i [])) (by rw[y4 _ _ _ _ hi,Int.one_mul]) (by rw[Qn,Qf,Qc hi];rfl)];simp[hi]
 .rw[Qq (by simp;lia),Qq (by simp;lia)]
end
end Lib
namespace Lib
section
def CV(x:List Int)(j:Nat)(h:x.length<=aq):dK (row x) none (some (j:Int))=.ok (row (x.take j)):=by
 simp only[dK,row,cB,aQ,Qx];rw[MO (by lia),Int.toNat_natCast,List.drop_zero,Nat.sub_zero];have:(x.map Dat.int).take (min j x.length)=(x.take j).map Dat.int:=by
  rw[<-List.map_take];congr 1;rcases Nat.le_total j x.length with q|q
  .rw[Nat.min_eq_left q]
  .rw[Nat.min_eq_right q,Q9 (Qk _),Q9 q]
 rw[this,jv (by simp;lia)]
def uR(x:List Int):yM .sum [row x]=.ok (.int x.sum):=by
 simp only[yM,row,cB,Wn,Am]
end
end Lib
namespace Lib
section
def uQ (h:jJ t b=false):(t=0\/t=1)/\(b=true->t=1):=by
 cases b with
 |true=>
  have h':t=1:=by simpa [jJ]using h
  exact⟨.inr h',λ_=>h'⟩
 |false=>
  refine⟨?_,λe=>by cases e⟩;simp only[jJ,QR,if_false,Bool.not_eq_false',WK,MU]at h;exact h
structure dn(R:List (List Int)):Prop where
 sq:Sq R
 row:∀r c,r<R.length->c<=R.length->((R.getD r []).take c).sum=0\/((R.getD r []).take c).sum=1
 rowE:∀r,r<R.length->((R.getD r []).take R.length).sum=1
 col:∀r c,r<=R.length->c<R.length->S R r c=0\/S R r c=1
 colE:∀c,c<R.length->S R R.length c=1
def dn.of{R:List (List Int)}(sq:Sq R)(h:∀r c,r<R.length->c<R.length->lR R r c=false):dn R:=by
 have q:∀r c,r<R.length->c<R.length->((ac R r (c+1)=0\/ac R r (c+1)=1)/\(c+1=R.length->ac R r (c+1)=1))/\(S R (r+1) c=0\/S R (r+1) c=1)/\(r+1=R.length->S R (r+1) c=1):=by
  intro r c hr hc;have:=h r c hr hc;unfold lR at this;rw[W9]at this;obtain⟨a1,a2⟩:=uQ this.1;obtain⟨b1,b2⟩:=uQ this.2;exact⟨⟨a1,λe=>a2 (by simp;lia)⟩,b1,λe=>b2 (by simp;lia)⟩
 refine⟨sq,λr c hr hc=>?_,λr hr=>?_,λr c hr hc=>?_,λc hc=>?_⟩
 .cases c with
  |zero=>left;simp
  |succ c=>exact(q r c hr (by lia)).1.1
 .have:=(q r (R.length-1) hr (by lia)).1.2 (by lia);unfold ac at this
  rwa[show R.length-1+1=R.length by lia]at this
 .cases r with
  |zero=>left;simp[S]
  |succ r=>exact(q r c (by lia) hc).2.1
 .have:=(q (R.length-1) c (by lia) hc).2.2 (by lia)
  rwa[show R.length-1+1=R.length by lia]at this
end
end Lib
namespace Lib
end Lib
namespace Lib
section
variable{lev:Nat->Lv}{cl:Nat->List Dat->Rd}{k:Nat}
noncomputable def sX(kw:Nat):Fn:=⟨2,2,(.ret (.and (.isi .list (.var 0)) (.and (.cmp .eq (.blt .len (.pair (.var 0) .unit)) (.var 1)) (.blt .all (.pair (.comp (.call kw (.pair (.var 2) .unit)) (.var 0) (.lit (.bl true))) .unit)))))⟩
def vH{α:Type}(xs:List α):gz (xs.map λ_=>Dat.bl true)=some true:=by
 induction xs with
 |nil=>rfl
 |cons x xs ih=>simp only[Wg,gz,ih];rfl
def GF (hw:∀d,cl kw [d]=.ok (.bl (isInt d)))(x:List Int)(hx:x.length<=100){m:Int}(hm:m=x.length):zw lev cl k (sX kw) [row x,.int m]=.ok (.bl true):=by
 subst hm;have hl:(x.map Dat.int).length<=aq:=by simp;unfold aq;lia
 have hlen:yM .len [row x]=.ok (.int x.length):=by simp[row]
 have hc:ao cl (.comp (.call kw (.pair (.var 2) .unit)) (.var 0) (.lit (.bl true))) [some (row x),some (.int x.length)]=.ok (.lst (x.map λ_=>.bl true)):=by
  rw[yf];simp only[za,aE,row,xq hl];rw[yh Dat.int (λ_=>.bl true) x [] (λv _=>by simp) (λv _=>by simp[hw,isInt]) (by simpa using hl)];simp
 unfold zw;rw[MN (by rfl)];show zG (lev k) (aG lev cl (.ret _) [some (row x),some (.int x.length)] _)=_;simp only[zZ,gB,yV,za,ze,aE,show ck .list (row x)=true from rfl,zD,zM,zl,zh,zf,hlen,xU,decide_true,hc,aX];simp[yM,cB,vH,zG]
end
end Lib
namespace Lib
structure HF(n:Nat)(G:Nat->Nat->Int):Prop where
 top:∀j,j<=n->G 0 j=j
 left:∀i,i<=n->G i 0=i
 low:∀j,j<=n->G n j=(n:Int)-j
 right:∀i,i<=n->G i n=(n:Int)-i
 across:∀i j,i<=n->j<n->G i (j+1)-G i j=1\/G i (j+1)-G i j=-1
 down:∀i j,i<n->j<=n->G (i+1) j-G i j=1\/G (i+1) j-G i j=-1
theorem HF.par (h:HF n G):∀i j,i<=n->j<=n->(G i j-i-j)%2=0
 |i,0,hi,_=>by rw[h.left i hi];simp
 |i,j+1,hi,hj=>by
  have a:=h.par i j hi (by lia);have b:=h.across i j hi (by lia);lia
end Lib
namespace Lib
section
variable{lev:Nat->Lv}{cl:Nat->List Dat->Rd}{k:Nat}
noncomputable def tL(kn:Nat):Fn:=⟨3,3,(.seq (.ite (.or (.not (.isi .list (.var 0))) (.cmp .ne (.blt .len (.pair (.var 0) .unit)) (.var 1))) (.ret (.lit (.bl false))) .skip) (.ret (.blt .all (.pair (.comp (.call kn (.pair (.var 3) (.pair (.var 2) .unit))) (.var 0) (.lit (.bl true))) .unit))))⟩
def HW (hn:∀(x:List Int) (m:Int),x.length<=100->m=x.length->cl kn [row x,.int m]=.ok (.bl true))(A:List (List Int))(hA:A.length<=100){a b:Int}(ha:a=A.length)(hb:∀x∈A,x.length<=100/\b=x.length):zw lev cl k (tL kn) [ak A,.int a,.int b]=.ok (.bl true):=by
 subst ha;have hl:(A.map row).length<=aq:=by simp;unfold aq;lia
 have hlen:yM .len [ak A]=.ok (.int A.length):=by simp[ak]
 have hc:ao cl (.comp (.call kn (.pair (.var 3) (.pair (.var 2) .unit))) (.var 0) (.lit (.bl true))) [some (ak A),some (.int A.length),some (.int b)]=.ok (.lst (A.map λ_=>.bl true)):=by
  rw[yf];simp only[za,aE,ak,xq hl];rw[yh row (λ_=>.bl true) A [] (λv _=>by simp) (λx hx=>?_) (by simpa using hl)]
  .simp
  .obtain ⟨q1,q2⟩:=hb x hx;simp only[QW,QG,zu,zl,zh,za,ze,aE,zf];exact hn x b q1 q2
 unfold zw;rw[MN (by rfl)];show zG (lev k) (aG lev cl (.seq _ (.ret _)) [some (ak A),some (.int A.length),some (.int b)] _)=_;rw[yW];simp only[zV,vm,y8,yV,zD,zM,zl,zh,za,ze,aE,zf,show ck .list (ak A)=true from rfl,Q8,hlen,ke,decide_true,aX,yr,zg,zZ,hc];simp[yM,cB,vH,zG]
end
end Lib
namespace Lib
end Lib
namespace Lib
section
def Ep{n:Nat}(hn:n<=12):kL (.int 0) (.int ((n:Int)+1-1)) (.int 1)=.ok (.tup (yA 0 1 n)):=by
 rw[show(n:Int)+1-1=n by lia,vx (by unfold aq;lia)];simp[v6]
end
end Lib
namespace Lib
section
variable{lev:Nat->Lv}{cl:Nat->List Dat->Rd}{k:Nat}
noncomputable def zN(q:Nat)(F:Nat->Nat->Int)(i:Nat):List Int:=(QI q).map (F i)
noncomputable def zm(p q:Nat)(F:Nat->Nat->Int):List (List Int):=(QI p).map (zN q F)
def zW(p q:Nat)(F:Nat->Nat->Int):(zm p q F).length=p:=by simp[zm]
def vI(q:Nat)(F:Nat->Nat->Int)(i:Nat):(zN q F i).length=q:=by simp[zN]
def xx:∀x∈zm p q F,x.length=q:=λx hx=>by
 obtain⟨i,_,rfl⟩:=QM.mp hx;exact vI q F i
def Al (h:i<p):yt (ak (zm p q F)) (.int (i:Int))=.ok (row (zN q F i)):=kX (by simp[zm,h])
def kY (h:j<q):yt (row (zN q F i)) (.int (j:Int))=.ok (.int (F i j)):=jT (by simp[zN,h])
def wt:yM .len [ak (zm p q F)]=.ok (.int p):=by simp[ak,zm]
noncomputable def oQ:Ex:=(.comp (.bin .sub (.blt .int (.pair (.cmp .isin (.var 4) (.idx (.var 0) (.var 2))) .unit)) (.blt .int (.pair (.cmp .isin (.var 4) (.var 3)) .unit))) (.rng (.lit (.int 0)) (.blt .len (.pair (.var 0) .unit)) (.lit (.int 1))) (.lit (.bl true)))
noncomputable def oR:Sm:=(.seq (.asg 3 (.lst .unit)) (.seq (.ite (.cmp .gt (.var 2) (.lit (.int 0))) (.asg 3 (.idx (.var 0) (.bin .sub (.var 2) (.lit (.int 1))))) .skip) (.expr (.meth .append (.var 1) (.pair oQ .unit)))))
noncomputable def gJ:Fn:=⟨1,4,(.seq (.asg 1 (.lst .unit)) (.seq (.forv 2 (.rng (.lit (.int 0)) (.blt .len (.pair (.var 0) .unit)) (.lit (.int 1))) oR) (.ret (.var 1))))⟩
def kZ (lev:Nat->Lv)(h:∀i:Int,aV lev e (.int i)=.full):aV lev (.comp e it c) (row x)=.full:=by
 unfold row
 first|rw[kQ]|rw[vv]
 simp only[vC,QR,if_false];rw[MN (AB _ _ h)]
def gK (hA:A.length<aq)(de:aO)(lv:List Lv)(j:Nat)(he:ao cl e de=.ok (row x))(hl:aV lev e (row x)=.full)(hd:de[j]?=some (some (ak A)))(hj:lv[j]?=some .full):
  aG lev cl (.expr (.meth .append (.var j) (.pair e .unit))) de lv=.next (de.set j (some (ak (A++[x])))) lv:=by
 rw[nM,he];simp only[fX];have hls:xJ de j=some (A.map row):=by simp[xJ,hd,ak]
 rw[hls];simp only[Qx];rw[MN hA];have hg:wl lev e (row x) j de lv=some (de,lv):=by
  unfold wl;rw[MO (by simp[yo,hj]),MN hl]
 rw[hg];simp[ak]
def tK(b:Bool):yM .int [.bl b]=.ok (.int (b2i b)):=by cases b<;>rfl
def IF(X:List (List Int))(hX:X.length<=100)(hlev:lev k=.full):zw lev cl k gJ [ak X]=.ok (ak (sg X)):=by
 have hrng:kL (.int 0) (.int X.length) (.int 1)=.ok (.tup (yA 0 1 X.length)):=by
  rw[vx (by unfold aq;lia)];simp[v6]
 have hlen:yM .len [ak X]=.ok (.int X.length):=by simp[ak]
 have hnew:yO []=.ok (row []):=rfl;have main:=x5 (body:=λx de lv=>aG lev cl oR (de.set 2 (some x)) (lv.set 2 (bo x)))
  (λi de lv=>∃(p2 p3:Option Dat) (l2 l3:Lv),de=[some (ak X),some (ak ((sg X).take i)),p2,p3]/\lv=[.no,.full,l2,l3])
  (yA 0 1 X.length) (de:=[some (ak X),some (ak []),none,none]) (lv:=[.no,.full,.full,.full])
  ⟨none,none,.full,.full,rfl,rfl⟩ ?_
 .obtain ⟨de',lv',e,p2,p3,l2,l3,rfl,rfl⟩:=main;unfold zw;rw[MN (by rfl)];show zG (lev k) (aG lev cl (.seq _ (.seq _ _)) [some (ak X),none,none,none] [bo (ak X),.full,.full,.full])=_;rw[show bo (ak X)=.no from by simp[bo,ak],zE];simp only[zL,wM,zh,aE,zf,hnew,aX];rw[yQ (by simp[row])];simp only[zg,Qe,Qd];rw[yW,wN];simp only[xw,zd,zM,zl,zh,za,aE,zf,hlen,hrng,aX,yI,xK,xa,if_true];rw[show(some (row []):Option Dat)=some (ak [])from rfl,e,zg];rw[wq,Q9 (by simp[sg])];simp[zG,bO,hlev,ak,jO]
 .rintro i x de lv hx ⟨p2,p3,l2,l3,rfl,rfl⟩;have hi:i<X.length:=by
   have:=(Qa.mp hx).1;simpa using this
  rw[y4 _ _ _ _ hi]at hx;cases hx;have hg:yt (ak X) (.int (i:Int))=.ok (row (X.getD i [])):=kX (by rw[Qf,Qc hi];rfl);have hpre:∃l2 l,aG lev cl (.seq (.asg 3 (.lst .unit)) (.ite (.cmp .gt (.var 2) (.lit (.int 0))) (.asg 3 (.idx (.var 0) (.bin .sub (.var 2) (.lit (.int 1))))) .skip)) [some (ak X),some (ak ((sg X).take i)),some (.int i),p3] [.no,.full,.full,l3]=.next [some (ak X),some (ak ((sg X).take i)),some (.int i),some (row (yz X i))] [.no,.full,l2,l]:=by
   rw[lm];simp only[zL,wM,zh,aE,zf,hnew,aX];rw[yQ (by simp[row])];simp only[zg,Qe,Qd,zV,zD,ze,za,zd,aE,sY,aX];by_cases z:i=0
   .subst z;exact⟨.full,.full,rfl⟩
   .have hg1:yt (ak X) (.int ((i:Int)-1))=.ok (row (X.getD (i-1) [])):=by
     have:=kX (R:=X) (r:=i-1) (x:=X.getD (i-1) []) (by rw[Qf,Qc (by lia)];rfl)
     rwa[show((i-1:Nat):Int)=(i:Int)-1 by lia]at this
    refine⟨.no,.no,?_⟩;rw[MS (show(0:Int)<i by lia)];simp only[zL,zI,zH,ze,za,zd,aE,xR,hg1,aX];rw[show yz X i=X.getD (i-1) []from MO z];rfl
  obtain⟨l2,l,hpre⟩:=hpre;have hE:ao cl oQ [some (ak X),some (ak ((sg X).take i)),some (.int i),some (row (yz X i))]=.ok (row (vn X.length (X.getD i []) (yz X i))):=by
   unfold oQ;rw[yf];simp only[xw,zd,zM,zl,zh,za,aE,zf,hlen,hrng,yI];rw[vD 0 1 X.length (λc=>.int (b2i (mem (X.getD i []) c)-b2i (mem (yz X i) c))) (λc _=>by simp) (λc hc=>?_) (by unfold aq;lia)]
   .simp only[row,vn,Wa];rfl
   .rw[show(0+1*(c:Int))=(c:Int) by lia];simp only[QW,QG,zH,zM,zl,zh,zD,zI,za,ze,aE,zf,hg,Gw,tK,xR]
  have e1:(0:Int)+1*(i:Int)=(i:Int):=by lia
  refine⟨_,_,?_,some (.int i),some (row (yz X i)),l2,l,rfl,rfl⟩;simp only[e1,Qe,Qd,show bo (.int (i:Int))=.full from by simp[bo]];unfold oR;have assoc:∀(A B:Sm) (e:Ex) (de:aO) (lv:List Lv),yP A B=none->aG lev cl (.seq A (.seq B (.expr e))) de lv=(aG lev cl (.seq A B) de lv).then (aG lev cl (.expr e)):=by
   intro A B e de lv h;rw[zE,yq lev cl de lv h];cases aG lev cl A de lv<;>first|rfl|(simp only[zg];rw[kW])
  rw[assoc _ _ _ _ _ (gE _ _ _ _),hpre,zg,gK (by simp[sg];unfold aq;lia) _ _ 1 hE (kZ lev λi=>by simp) rfl rfl];rw[Wl,nI hi,Va];rfl
noncomputable def cu(R:List (List Int))(r c:Nat):Int:=1-2*((R.getD r []).take c).sum
noncomputable def cD(R:List (List Int))(r c:Nat):Int:=2*S R r c-1
noncomputable def iD:Ex:=(.comp (.comp (.bin .sub (.lit (.int 1)) (.bin .mul (.lit (.int 2)) (.blt .sum (.pair (.slH (.var 5) (.var 6)) .unit)))) (.rng (.lit (.int 0)) (.bin .add (.var 1) (.lit (.int 1))) (.lit (.int 1))) (.lit (.bl true))) (.var 0) (.lit (.bl true)))
noncomputable def lQ:Ex:=(.comp (.bin .sub (.bin .mul (.lit (.int 2)) (.blt .sum (.pair (.comp (.idx (.var 6) (.var 5)) (.slH (.var 0) (.var 4)) (.lit (.bl true))) .unit))) (.lit (.int 1))) (.rng (.lit (.int 0)) (.var 1) (.lit (.int 1))) (.lit (.bl true)))
noncomputable def me:Fn:=⟨1,5,(.seq (.asg 1 (.blt .len (.pair (.var 0) .unit))) (.seq (.asg 2 iD) (.seq (.asg 3 (.lst .unit)) (.seq (.forv 4 (.rng (.lit (.int 0)) (.bin .add (.var 1) (.lit (.int 1))) (.lit (.int 1))) (.expr (.meth .append (.var 3) (.pair lQ .unit)))) (.ret (.tup (.pair (.var 2) (.pair (.var 3) .unit))))))))⟩
def jV{n:Nat}(h:n<=100):kL (.int 0) (.int n) (.int 1)=.ok (.tup (yA 0 1 n)):=by
 rw[vx (by unfold aq;lia)];simp[v6]
def uP{n:Nat}(h:n<=100):kL (.int 0) (.int ((n:Int)+1)) (.int 1)=.ok (.tup (yA 0 1 (n+1))):=by
 rw[vx (by unfold aq;lia)];simp only[v6,if_true,Int.sub_zero];rfl
def CU (h:Sq R)(hn:R.length<=100)(d2 d3 d4:Option Dat):ao cl iD [some (ak R),some (.int R.length),d2,d3,d4]=.ok (ak (zm R.length (R.length+1) (cu R))):=by
 unfold iD;rw[yf];simp only[za,aE,ak,xq (show(R.map row).length<=aq from by simp;unfold aq;lia)];rw[yh row (λx=>row ((QI (R.length+1)).map λc=>1-2*(x.take c).sum)) R [] (λ_ _=>by simp) (λx hx=>?_) (by simp;unfold aq;lia)]
 .rw[QG];congr 2;refine Wr λi=>?_;by_cases hi:i<R.length
  .simp only[Qn,Qc hi,QJ,zm,WN hi];have:∀c,1-2*(R[i].take c).sum=cu R i c:=λc=>by simp[cu,hi]
   simp only[this];rfl
  .simp[zm,hi]
 .have hl:x.length<=aq:=by rw[h x hx];unfold aq;lia
  rw[yf];simp only[QW,QG,xw,zd,zH,za,ze,aE,zY,uP hn,yI];rw[vD 0 1 (R.length+1) (λc=>.int (1-2*(x.take c).sum)) (λc _=>by simp) (λc hc=>?_) (by unfold aq;lia)]
  .simp only[row,Wa];rfl
  .rw[show(0+1*(c:Int))=(c:Int) by lia];simp only[QW,QG,zH,zM,zl,zh,tI,zd,za,ze,aE,CV _ _ hl,zf,uR,wD 2 _ (show yJ 2=true by decide),xR]
def CT(R:List (List Int))(j:Nat)(h:R.length<=aq):dK (ak R) none (some (j:Int))=.ok (ak (R.take j)):=by
 simp only[dK,ak,cB,aQ,Qx];rw[MO (by lia),Int.toNat_natCast,List.drop_zero,Nat.sub_zero];have:(R.map row).take (min j R.length)=(R.take j).map row:=by
  rw[<-List.map_take];congr 1;rcases Nat.le_total j R.length with q|q
  .rw[Nat.min_eq_left q]
  .rw[Nat.min_eq_right q,Q9 (Qk _),Q9 q]
 rw[this,jv (by simp;lia)]
def CS (h:Sq R)(hn:R.length<=100){i:Nat}(d2 d3:Option Dat):ao cl lQ [some (ak R),some (.int R.length),d2,d3,some (.int i)]=.ok (row (zN R.length (cD R) i)):=by
 unfold lQ;rw[yf];simp only[xw,zd,za,ze,aE,jV hn,yI];rw[vD 0 1 R.length (λc=>.int (cD R i c)) (λc _=>by simp) (λc hc=>?_) (by unfold aq;lia)]
 .simp only[row,zN,Wa];rfl
 .rw[show(0+1*(c:Int))=(c:Int) by lia];have hsl:=CT R i (by unfold aq;lia);have hcm:ao cl (.comp (.idx (.var 6) (.var 5)) (.slH (.var 0) (.var 4)) (.lit (.bl true))) [some (ak R),some (.int R.length),d2,d3,some (.int i),some (.int c)]=.ok (row ((R.take i).map λx=>x.getD c 0)):=by
   rw[yf];simp only[tI,za,ze,aE,hsl];rw[show cL (ak (R.take i))=some ((R.take i).map row)from xq (by simp;unfold aq;lia)];simp only;rw[yh row (λx=>.int (x.getD c 0)) (R.take i) [] (λ_ _=>by simp) (λx hx=>?_) (by simp;unfold aq;lia)]
   .simp only[row,Wa,QG];rfl
   .have hxl:=h x (List.mem_of_mem_take hx);simp only[QW,QG,zI,za,ze,aE];exact jT (by rw[Qf,Qc (by lia)];rfl)
  simp only[QW,QG,zH,zM,zl,zh,zd,hcm,aE,zf,uR,wD 2 _ (show yJ 2=true by decide),xR];rfl
noncomputable def aP(n:Nat)(F G:Nat->Nat->Int):Dat:=.tup [ak (zm n (n+1) F),ak (zm (n+1) n G)]
def Eo (h:Sq R)(hn:R.length<=100)(hlev:lev k=.full):zw lev cl k me [ak R]=.ok (aP R.length (cu R) (cD R)):=by
 have hlen:yM .len [ak R]=.ok (.int R.length):=by simp[ak]
 have hnew:yO []=.ok (row []):=rfl;have main:=x5 (body:=λx de lv=>aG lev cl (.expr (.meth .append (.var 3) (.pair lQ .unit))) (de.set 4 (some x)) (lv.set 4 (bo x)))
  (λi de lv=>∃(p4:Option Dat),de=[some (ak R),some (.int R.length),some (ak (zm R.length (R.length+1) (cu R))),some (ak ((zm (R.length+1) R.length (cD R)).take i)),p4]/\lv=[.no,.full,.full,.full,.full])
  (yA 0 1 (R.length+1)) (de:=[some (ak R),some (.int R.length),some (ak (zm R.length (R.length+1) (cu R))),some (ak []),none]) (lv:=[.no,.full,.full,.full,.full])
  ⟨none,rfl,rfl⟩ ?_
 .obtain ⟨de',lv',e,p4,rfl,rfl⟩:=main;rw[wq,Q9 (by rw[zW];lia)]at e;have hax:=CU (cl:=cl) h hn none none none;have hlv:aV lev iD (ak (zm R.length (R.length+1) (cu R)))=.full:=by
   unfold iD ak
   first|rw[kQ]|rw[vv]
   simp only[vC,QR,if_false];rw[MN (by
    rw[WE,QF];intro x _;show(aV lev _ (row x)==Lv.full)=true;rw[kZ lev (λi=>xI lev _ _ rfl)]
    rfl)]
  unfold zw;rw[MN (by rfl)];show zG (lev k) (aG lev cl (.seq _ (.seq _ (.seq _ (.seq _ _)))) [some (ak R),none,none,none,none] [bo (ak R),.full,.full,.full,.full])=_;rw[show bo (ak R)=.no from by simp[bo,ak],zE];simp only[zL,zM,zl,zh,za,aE,zf,hlen,aX];rw[zS (by simp)];simp only[zg,Qe,Qd];rw[zE,zL,hax];simp only[aX];rw[yQ hlv];simp only[zg,Qe,Qd];rw[zE];simp only[zL,wM,zh,aE,zf,hnew,aX];rw[yQ (by simp[row])];simp only[zg,Qe,Qd];rw[yW,wN];simp only[xw,zH,zd,za,ze,aE,zY,uP hn,aX,yI,xK,xa,if_true];rw[show(some (row []):Option Dat)=some (ak [])from rfl,e,zg];simp[zG,bO,hlev,aP,jO,ak,show 2<=aq from by decide]
 .rintro i x de lv hx ⟨p4,rfl,rfl⟩;have hi:i<R.length+1:=by
   have:=(Qa.mp hx).1;simpa using this
  rw[y4 _ _ _ _ hi]at hx;cases hx;have e1:(0:Int)+1*(i:Int)=(i:Int):=by lia
  refine⟨_,_,?_,some (.int i),rfl,rfl⟩;simp only[e1,Qe,Qd,show bo (.int (i:Int))=.full from by simp[bo]];rw[gK (by simp[zm];unfold aq;lia) _ _ 3 (CS h hn _ _) (kZ lev λi=>by simp) rfl rfl];rw[Wl,show(zm (R.length+1) R.length (cD R))[i]?=some (zN R.length (cD R) i)from by simp[zm,hi],Va];rfl
end
end Lib
namespace Lib
section
variable{lev:Nat->Lv}{cl:Nat->List Dat->Rd}{k:Nat}
structure AR(n:Nat)(F G:Nat->Nat->Int):Prop where
 f:∀i j,i<n->j<=n->F i j=1\/F i j=-1
 g:∀i j,i<=n->j<n->G i j=1\/G i j=-1
 place:∀r c,r<n->c<n->F r c-F r (c+1)+G r c-G (r+1) c=0
 left:∀r,r<n->F r 0=1
 right:∀r,r<n->F r n=-1
 top:∀c,c<n->G 0 c=-1
 low:∀c,c<n->G n c=1
def dn.ar (h:dn R):AR R.length (cu R) (cD R):=by
 refine⟨λi j hi hj=>?_,λi j hi hj=>?_,λr c hr hc=>?_,λr hr=>?_,λr hr=>?_,λc hc=>?_,λc hc=>?_⟩
 .have:=h.row i j hi hj;unfold cu;lia
 .have:=h.col i j hi hj;unfold cD;lia
 .obtain ⟨x,v,hx,hv,hg⟩:=C4 h.sq hr hc;have e1:=nk R r c x hx;have e2:((R.getD r []).take (c+1)).sum=((R.getD r []).take c).sum+v:=by
   rw[Qf,hx];exact gH hv
  unfold cu cD;rw[e1,e2,hg];lia
 .simp[cu]
 .have:=h.rowE r hr;unfold cu;lia
 .simp[cD,S]
 .have:=h.colE c hc;unfold cD;lia
noncomputable def pm:Dat:=.tup [.int 1,.int (-1)]
def E3 (h:v=1\/v=-1):yL .isin (.int v) pm=.ok (.bl true):=by
 rcases h with rfl|rfl<;>rfl
noncomputable def jx:Fn:=⟨2,2,(.ret (.blt .all (.pair (.comp (.cmp .isin (.var 2) (.var 1)) (.var 0) (.lit (.bl true))) .unit)))⟩
def HV (hx:x.length<=100)(h:∀v∈x,yL .isin (.int v) N=.ok (.bl true)):zw lev cl k jx [row x,N]=.ok (.bl true):=by
 have hl:(x.map Dat.int).length<=aq:=by simp;unfold aq;lia
 have hc:ao cl (.comp (.cmp .isin (.var 2) (.var 1)) (.var 0) (.lit (.bl true))) [some (row x),some N]=.ok (.lst (x.map λ_=>.bl true)):=by
  rw[yf];simp only[za,aE,row,xq hl];rw[yh Dat.int (λ_=>.bl true) x [] (λv _=>by simp) (λv hv=>?_) (by simpa using hl)]
  .simp
  .simp only[QW,QG,zD,za,ze,aE,h v hv]
 unfold zw;rw[MN (by rfl)];show zG (lev k) (aG lev cl (.ret _) [some (row x),some N] _)=_;simp only[zZ,zM,zl,zh,aE,zf,hc,aX];simp[yM,cB,vH,zG]
noncomputable def uO(kg ka:Nat):Fn:=⟨4,4,(.ret (.and (.call kg (.pair (.var 0) (.pair (.var 1) (.pair (.var 2) .unit)))) (.blt .all (.pair (.comp (.call ka (.pair (.var 4) (.pair (.var 3) .unit))) (.var 0) (.lit (.bl true))) .unit))))⟩
def IY (hA:A.length<=100)(hg:cl kg [ak A,.int a,.int b]=.ok (.bl true))(ha:∀x∈A,cl ka [row x,N]=.ok (.bl true)):zw lev cl k (uO kg ka) [ak A,.int a,.int b,N]=.ok (.bl true):=by
 have hl:(A.map row).length<=aq:=by simp;unfold aq;lia
 have hc:ao cl (.comp (.call ka (.pair (.var 4) (.pair (.var 3) .unit))) (.var 0) (.lit (.bl true))) [some (ak A),some (.int a),some (.int b),some N]=.ok (.lst (A.map λ_=>.bl true)):=by
  rw[yf];simp only[za,aE,ak,xq hl];rw[yh row (λ_=>.bl true) A [] (λv _=>by simp) (λx hx=>?_) (by simpa using hl)]
  .simp
  .simp only[QW,QG,zu,zl,zh,za,ze,aE,zf,ha x hx]
 unfold zw;rw[MN (by rfl)];show zG (lev k) (aG lev cl (.ret _) [some (ak A),some (.int a),some (.int b),some N] _)=_;simp only[zZ,gB,zu,zM,zl,zh,za,ze,aE,zf,hg,hc,aX];simp[yM,cB,vH,zG]
noncomputable def oM(kz:Nat):Sm:=(.ite (.or (.not (.isi .list (.var 2))) (.not (.call kz (.pair (.blt .len (.pair (.var 2) .unit)) .unit)))) (.ret (.lit (.bl false))) .skip)
noncomputable def wO(kz kg:Nat):Fn:=⟨2,4,(.seq (.ite (.or (.not (.isi .tuple (.var 0))) (.cmp .ne (.blt .len (.pair (.var 0) .unit)) (.lit (.int 2)))) (.ret (.lit (.bl false))) .skip) (.seq (.asg 2 (.idx (.var 0) (.lit (.int 0)))) (.seq (oM kz) (.seq (.asg 3 (.blt .len (.pair (.var 2) .unit))) (.ret (.and (.call kg (.pair (.var 2) (.pair (.var 3) (.pair (.bin .add (.var 3) (.lit (.int 1))) (.pair (.var 1) .unit))))) (.call kg (.pair (.idx (.var 0) (.lit (.int 1))) (.pair (.bin .add (.var 3) (.lit (.int 1))) (.pair (.var 3) (.pair (.var 1) .unit)))))))))))⟩
def gL (de:aO)(lv:List Lv):∃lv',jr lev i e d de lv=.next (de.set i (some d)) lv':=by
 unfold jr;split
 .exact ⟨_,rfl⟩
 .exact ⟨_,rfl⟩
def HU (hz:∀n:Int,cl kz [.int n]=.ok (.bl (decide (1<=n/\n<=12))))(h1:1<=n)(h2:n<=12)(g1:cl kg [ak (zm n (n+1) F),.int n,.int ((n:Int)+1),N]=.ok (.bl true))(g2:cl kg [ak (zm (n+1) n G),.int ((n:Int)+1),.int n,N]=.ok (.bl true)):zw lev cl k (wO kz kg) [aP n F G,N]=.ok (.bl true):=by
 have i0:yt (aP n F G) (.int 0)=.ok (ak (zm n (n+1) F)):=rfl;have i1:yt (aP n F G) (.int 1)=.ok (ak (zm (n+1) n G)):=rfl;have hl:yM .len [aP n F G]=.ok (.int 2):=rfl;unfold zw;rw[MN (by rfl)];show zG (lev k) (aG lev cl (.seq _ (.seq _ (.seq _ (.seq _ _)))) [some (aP n F G),some N,none,none] _)=_;rw[zE];simp only[zV,vm,y8,yV,zD,zM,zl,zh,za,zd,aE,zf,hl,show ck .tuple (aP n F G)=true from rfl,Q8,ke,decide_true,aX,yr,zg];rw[zE];simp only[zL,zI,za,zd,aE,i0,aX];obtain⟨l1,e1⟩:=gL (lev:=lev) (i:=2) (e:=.idx (.var 0) (.lit (.int 0))) (d:=ak (zm n (n+1) F)) [some (aP n F G),some N,none,none] (zP (wO kz kg) [aP n F G,N]);rw[e1];simp only[zg,Qe,Qd];rw[zE];unfold oM;simp only[zV,vm,y8,yV,zu,zM,zl,zh,za,ze,aE,zf,show ck .list (ak (zm n (n+1) F))=true from rfl,Q8,wt,hz,MS (show(1:Int)<=(n:Int)/\(n:Int)<=12 by lia),aX,yr,zg];rw[yW];simp only[zL,zM,zl,zh,za,ze,aE,zf,wt,aX];rw[zS (by simp)];simp only[zg,Qe,Qd,zZ,gB,zu,zl,zh,zH,zI,zd,za,ze,aE,zf,zY,g1,i1,g2,aX];simp[zG]
end
end Lib
namespace Lib
section
variable{lev:Nat->Lv}{cl:Nat->List Dat->Rd}{k:Nat}
noncomputable def bL(F:Nat->Nat->Int)(r c:Nat):Int:=(F r c-F r (c+1))/2
noncomputable def fM:Ex:=(.comp (.bin .fdiv (.bin .sub (.idx (.var 0) (.var 1)) (.idx (.var 0) (.bin .add (.var 1) (.lit (.int 1))))) (.lit (.int 2))) (.rng (.lit (.int 0)) (.bin .sub (.blt .len (.pair (.var 0) .unit)) (.lit (.int 1))) (.lit (.int 1))) (.lit (.bl true)))
noncomputable def nH:Fn:=⟨1,1,(.ret fM)⟩
def HS (hn:n<=12)(F:Nat->Nat->Int)(r:Nat)(hk:lev k=.full):zw lev cl k nH [row (zN (n+1) F r)]=.ok (row (zN n (bL F) r)):=by
 have hlen:yM .len [row (zN (n+1) F r)]=.ok (.int ((n:Int)+1)):=by simp[row,zN]
 have hev:ao cl fM [some (row (zN (n+1) F r))]=.ok (row (zN n (bL F) r)):=by
  unfold fM;rw[yf];simp only[xw,zd,zH,zM,zl,zh,za,aE,zf,hlen,xR,Ep hn,yI];rw[vD 0 1 n (λc=>.int (bL F r c)) (λc _=>by simp) (λc hc=>?_) (by unfold aq;lia)]
  .simp only[row,zN,Wa];rfl
  .rw[show(0+1*(c:Int))=(c:Int) by lia];have a1:=kY (q:=n+1) (F:=F) (i:=r) (j:=c) (by lia);have a2:yt (row (zN (n+1) F r)) (.int ((c:Int)+1))=.ok (.int (F r (c+1))):=kY (q:=n+1) (F:=F) (i:=r) (j:=c+1) (by lia);simp only[QW,QG,zH,zI,zd,za,ze,aE,a1,a2,zY,xR,nO _ 2 (by decide) (by decide)];rfl
 unfold zw;rw[MN (by rfl)];show zG (lev k) (aG lev cl (.ret fM) [some (row (zN (n+1) F r))] _)=_;rw[zZ,hev];have hlv:aV lev fM (row (zN n (bL F) r))=.full:=kZ lev λi=>xI lev _ _ rfl;have hR:∀lv,bO lev fM (row (zN n (bL F) r)) lv=.full:=λlv=>by
  unfold bO;rw[MO (by simp[row])];exact hlv
 simp only[aX,zG,hR,hk];simp[jO]
noncomputable def md(kp kf ks:Nat):Fn:=⟨1,2,(.seq (.ite (.not (.call kp (.pair (.var 0) (.pair (.tup (.pair (.lit (.int 1)) (.pair (.neg (.lit (.int 1))) .unit))) .unit)))) .never .skip) (.seq (.asg 1 (.call kf (.pair (.idx (.var 0) (.lit (.int 0))) (.pair (.idx (.var 0) (.lit (.int 1))) .unit)))) (.seq (.ite (.cmp .notN (.var 1) (.lit .non)) .never .skip) (.ret (.comp (.call ks (.pair (.var 2) .unit)) (.idx (.var 0) (.lit (.int 0))) (.lit (.bl true)))))))⟩
def E1 (hn:n<=12)(hp:cl kp [aP n F G,pm]=.ok (.bl true))(hf:cl kf [ak (zm n (n+1) F),ak (zm (n+1) n G)]=.ok .non)(hs:∀r,r<n->cl ks [row (zN (n+1) F r)]=.ok (row (zN n (bL F) r)))(hks:lev ks=.full)(hk:lev k=.full):
  zw lev cl k (md kp kf ks) [aP n F G]=.ok (ak (zm n n (bL F))):=by
 have i0:yt (aP n F G) (.int 0)=.ok (ak (zm n (n+1) F)):=rfl;have i1:yt (aP n F G) (.int 1)=.ok (ak (zm (n+1) n G)):=rfl;have hev:ao cl (.comp (.call ks (.pair (.var 2) .unit)) (.idx (.var 0) (.lit (.int 0))) (.lit (.bl true))) [some (aP n F G),some .non]=.ok (ak (zm n n (bL F))):=by
  rw[yf];simp only[zI,zd,za,aE,i0];rw[show cL (ak (zm n (n+1) F))=some ((QI n).map λr=>row (zN (n+1) F r))from by
   rw[show ak (zm n (n+1) F)=.lst ((QI n).map λr=>row (zN (n+1) F r))from by simp[ak,zm]];exact xq (by simp;unfold aq;lia)]
  simp only;rw[yh (λr=>row (zN (n+1) F r)) (λr=>row (zN n (bL F) r)) (QI n) [] (λ_ _=>by simp) (λr hr=>?_) (by simp;unfold aq;lia)]
  .simp[ak,zm]
  .simp only[QW,QG,zu,zl,zh,za,ze,aE,zf,hs r (Q3.mp hr)]
 have hpm:ao cl (.tup (.pair (.lit (.int 1)) (.pair (.neg (.lit (.int 1))) .unit))) [some (aP n F G),none]=.ok pm:=rfl;unfold zw;rw[MN (by rfl)];show zG (lev k) (aG lev cl (.seq _ (.seq _ (.seq _ (.ret _)))) [some (aP n F G),none] _)=_;rw[zE];simp only[zV,y8,zu,zl,zh,hpm,za,aE,zf,hp,Q8,aX,yr,zg];rw[zE];simp only[zL,zu,zl,zh,zI,zd,za,aE,zf,i0,i1,hf,aX];rw[zS (by simp)];simp only[zg,Qe,Qd];rw[yW];simp only[zV,zD,za,ze,wm,aE,show yL .notN .non .non=.ok (.bl false)from rfl,aX,yr,zg];rw[zZ,hev];simp only[aX,bO,zG];have hlv:aV lev (.comp (.call ks (.pair (.var 2) .unit)) (.idx (.var 0) (.lit (.int 0))) (.lit (.bl true))) (ak (zm n n (bL F)))=.full:=by
  unfold ak
  first|rw[kQ]|rw[vv]
  simp only[vC,QR,if_false];rw[MN (by
   rw[WE,QF];intro x _;simp[hks])]
 simp only[show ax (ak (zm n n (bL F)))=false from by simp[ak],QR,if_false,hlv,hk];rfl
def dn.back (h:dn R):zm R.length R.length (bL (cu R))=R:=by
 refine Wr λi=>?_;by_cases hi:i<R.length
 .rw[show(zm R.length R.length (bL (cu R)))[i]?=some (zN R.length (bL (cu R)) i)from by simp[zm,hi],Qc hi];congr 1;refine Wr λc=>?_;have hl:=h.sq R[i] (QE hi);by_cases hc:c<R.length
  .rw[show(zN R.length (bL (cu R)) i)[c]?=some (bL (cu R) i c)from by simp[zN,hc],Qc (by lia)];congr 1;have e2:((R.getD i []).take (c+1)).sum=((R.getD i []).take c).sum+R[i][c]:=by
    rw[Qf,Qc hi,WW];exact gH (Qc (by lia))
   unfold bL cu;rw[e2];lia
  .rw[Qq (by rw[vI];lia),Qq (by lia)]
 .rw[Qq (by rw[zW];lia),Qq (by lia)]
noncomputable def mN(kw:Nat):Sm:=(.seq (.ite (.or (.not (.isi .list (.idx (.var 0) (.var 2)))) (.cmp .ne (.idx (.var 0) (.var 2)) (.idx (.var 1) (.var 2)))) (.ret (.lit (.bl false))) .skip) (.ite (.not (.blt .all (.pair (.comp (.call kw (.pair (.var 3) .unit)) (.idx (.var 0) (.var 2)) (.lit (.bl true))) .unit))) (.ret (.lit (.bl false))) .skip))
noncomputable def nG(kw:Nat):Fn:=⟨2,3,(.seq (.ite (.or (.not (.isi .list (.var 0))) (.cmp .ne (.blt .len (.pair (.var 0) .unit)) (.blt .len (.pair (.var 1) .unit)))) (.ret (.lit (.bl false))) .skip) (.seq (.forv 2 (.rng (.lit (.int 0)) (.blt .len (.pair (.var 1) .unit)) (.lit (.int 1))) (mN kw)) (.ret (.lit (.bl true)))))⟩
def HR (hw:∀d,cl kw [d]=.ok (.bl (isInt d)))(A:List (List Int))(hA:A.length<=100)(hr:∀x∈A,x.length<=100):zw lev cl k (nG kw) [ak A,ak A]=.ok (.bl true):=by
 have hlen:yM .len [ak A]=.ok (.int A.length):=by simp[ak]
 have main:=x5 (body:=λx de lv=>aG lev cl (mN kw) (de.set 2 (some x)) (lv.set 2 (bo x)))
  (λi de lv=>∃(p2:Option Dat) ,de=[some (ak A),some (ak A),p2])
  (yA 0 1 A.length) (de:=[some (ak A),some (ak A),none]) (lv:=[.no,.no,.full])
  ⟨none,rfl⟩ ?_
 .obtain ⟨de',lv',e,p2,rfl⟩:=main;unfold zw;rw[MN (by rfl)];show zG (lev k) (aG lev cl (.seq _ (.seq _ _)) [some (ak A),some (ak A),none] [bo (ak A),bo (ak A),.full])=_;rw[show bo (ak A)=.no from by simp[bo,ak],zE];simp only[zV,vm,y8,yV,zD,zM,zl,zh,za,ze,aE,zf,hlen,show ck .list (ak A)=true from rfl,Q8,ke,decide_true,aX,yr,zg];rw[yW,wN];simp only[xw,zd,zM,zl,zh,za,ze,aE,zf,hlen,jV hA,aX,yI,xK,xa,if_true];rw[e,zg];simp[zG]
 .rintro i x de lv hx ⟨p2,rfl⟩;have hi:i<A.length:=by
   have:=(Qa.mp hx).1;simpa using this
  rw[y4 _ _ _ _ hi]at hx;cases hx;have hg:yt (ak A) (.int (0+1*(i:Int)))=.ok (row A[i]):=by
   rw[show(0+1*(i:Int))=(i:Int) by lia];exact kX (Qc hi)
  have hl:=hr A[i] (QE hi);have hc:ao cl (.comp (.call kw (.pair (.var 3) .unit)) (.idx (.var 0) (.var 2)) (.lit (.bl true))) [some (ak A),some (ak A),some (.int (0+1*(i:Int)))]=.ok (.lst (A[i].map λ_=>.bl true)):=by
   rw[yf];simp only[zI,za,ze,aE,hg,row,xq (show(A[i].map Dat.int).length<=aq from by simp;unfold aq;lia)];rw[yh Dat.int (λ_=>.bl true) A[i] [] (λv _=>by simp) (λv _=>by simp[hw,isInt]) (by simp;unfold aq;lia)];simp
  have hall:yM .all [.lst (A[i].map λ_=>.bl true)]=.ok (.bl true):=by simp[yM,cB,vH]
  refine⟨_,lv.set 2 (bo (.int (0+1*(i:Int)))),?_,some (.int (0+1*(i:Int))),rfl⟩;simp only[Qe,Qd];unfold mN;rw[lm];simp only[zV,vm,y8,yV,zD,zI,zM,zl,zh,zf,za,ze,aE,hg,show ck .list (row A[i])=true from rfl,Q8,CZ,aX,yr,zg,hc,hall]
end
end Lib
namespace Lib
section
variable{lev:Nat->Lv}{cl:Nat->List Dat->Rd}{k:Nat}
noncomputable def sd(F:Nat->Nat->Int)(i j:Nat):Int:=b2i (decide (F i j*(1-2*(((i:Int)+j)%2))=-1))
noncomputable def ar(W:Nat->Nat->Int)(i j:Nat):Int:=if(decide (W i j=1)==decide (((i:Int)+j)%2=1))=true then 1 else -1
def sW (h:F i j=1\/F i j=-1):ar (sd F) i j=F i j:=by
 unfold ar sd;have hm:((i:Int)+j)%2=0\/((i:Int)+j)%2=1:=by lia
 rcases hm with e|e<;>rw[e]<;>rcases h with g|g<;>rw[g]<;>rfl
def tJ(F:Nat->Nat->Int)(i j:Nat):sd F i j=1\/sd F i j=0:=by
 unfold sd;cases decide (F i j*(1-2*(((i:Int)+j)%2))=-1)
 .exact .inr rfl
 .exact .inl rfl
noncomputable def wd:Dat:=.tup [.int 1,.int 0]
noncomputable def iT:Fn:=⟨1,1,(.ret (.cmp .eq (.bin .mod (.var 0) (.lit (.int 2))) (.lit (.int 1))))⟩
def EZ(n:Int):zw lev cl k iT [.int n]=.ok (.bl (decide (n%2=1))):=by
 have h:=wn n 2 (by decide);simp[zw,iT,zT,zP,zG,bO,h]
noncomputable def fT(ko:Nat):Ex:=(.compP .enum (.ife (.cmp .eq (.cmp .eq (.var 3) (.lit (.int 1))) (.call ko (.pair (.bin .add (.var 0) (.var 2)) .unit))) (.lit (.int 1)) (.neg (.lit (.int 1)))) (.var 1) (.lit (.int 0)) (.lit (.bl true)))
noncomputable def mM(ko:Nat):Fn:=⟨2,2,(.ret (fT ko))⟩
def GE (lev:Nat->Lv)(h:∀i:Int,aV lev e (.int i)=.full):aV lev (.compP kd e a b c) (row x)=.full:=by
 unfold row
 first|rw[kQ]|rw[vv]
 simp only[vC,QR,if_false];rw[MN (AB _ _ h)]
def Fo (ho:∀n:Int,cl ko [.int n]=.ok (.bl (decide (n%2=1))))(hq:q<=100)(W:Nat->Nat->Int)(i:Nat)(hk:lev k=.full):zw lev cl k (mM ko) [.int i,row (zN q W i)]=.ok (row (zN q (ar W) i)):=by
 have hev:ao cl (fT ko) [some (.int i),some (row (zN q W i))]=.ok (row (zN q (ar W) i)):=by
  unfold fT;rw[AD];simp only[za,ze,zd,aE,Gr 0 (zN q W i) (by rw[vI];unfold aq;lia),vI];rw[yh (λ(j:Nat)=>(Dat.int (0+(j:Int)),Dat.int ((zN q W i).getD j 0))) (λ(j:Nat)=>.int (ar W i j)) _ [] (λj _=>by simp) (λj hj=>?_) (by simp;unfold aq;lia)]
  .simp only[QG,row,zN,Wa];rfl
  .have hj':j<q:=by simpa using hj
   rw[show(zN q W i).getD j 0=W i j from vU (by simp[zN,hj']),Int.zero_add];simp only[QW,QG,Ef,zD,zu,zl,zh,zH,ve,zd,za,ze,aE,zf,zY,ho,xU,C7];unfold ar;cases(decide (W i j=1)==decide (((i:Int)+j)%2=1))<;>rfl
 have hlv:aV lev (fT ko) (row (zN q (ar W) i))=.full:=GE lev λi=>xI lev _ _ rfl;have hR:∀lv,bO lev (fT ko) (row (zN q (ar W) i)) lv=.full:=λlv=>by
  unfold bO;rw[MO (by simp[row])];exact hlv
 unfold zw;rw[MN (by rfl)];show zG (lev k) (aG lev cl (.ret (fT ko)) [some (.int i),some (row (zN q W i))] _)=_;rw[zZ,hev];simp only[aX,zG,hR,hk];simp[jO]
noncomputable def fF(kr:Nat):Ex:=(.compP .enum (.call kr (.pair (.var 1) (.pair (.var 2) .unit))) (.var 0) (.lit (.int 0)) (.lit (.bl true)))
noncomputable def nF(kr:Nat):Fn:=⟨1,1,(.ret (fF kr))⟩
def HQ (hp:p<=100)(W:Nat->Nat->Int)(hr:∀i:Nat,cl kr [.int i,row (zN q W i)]=.ok (row (zN q (ar W) i)))(hkr:lev kr=.full)(hk:lev k=.full):zw lev cl k (nF kr) [ak (zm p q W)]=.ok (ak (zm p q (ar W))):=by
 have hev:ao cl (fF kr) [some (ak (zm p q W))]=.ok (ak (zm p q (ar W))):=by
  unfold fF;rw[AD];simp only[za,zd,aE];rw[GG 0 (zm p q W) (by rw[zW];unfold aq;lia),zW];simp only;rw[yh (λ(i:Nat)=>(Dat.int (0+(i:Int)),row ((zm p q W).getD i []))) (λ(i:Nat)=>row (zN q (ar W) i)) _ [] (λi _=>by simp) (λi hi=>?_) (by simp;unfold aq;lia)]
  .simp only[QG,ak,zm,Wa];rfl
  .have hi':i<p:=by simpa using hi
   rw[show(zm p q W).getD i []=zN q W i from by simp[zm,hi'],Int.zero_add];simp only[QW,QG,zu,zl,zh,ze,za,aE,zf,hr]
 have hlv:aV lev (fF kr) (ak (zm p q (ar W)))=.full:=by
  have:((zm p q (ar W)).map row).all (λx=>aV lev (.call kr (.pair (.var 1) (.pair (.var 2) .unit))) x == .full)=true:=by
   rw[WE,QF];intro x _;simp[row,hkr]
  unfold fF ak
  first|rw[kQ]|rw[vv]
  simp only[vC,QR,if_false];rw[MN this]
 have hR:∀lv,bO lev (fF kr) (ak (zm p q (ar W))) lv=.full:=λlv=>by
  unfold bO;rw[MO (by simp[ak])];exact hlv
 unfold zw;rw[MN (by rfl)];show zG (lev k) (aG lev cl (.ret (fF kr)) [some (ak (zm p q W))] _)=_;rw[zZ,hev];simp only[aX,zG,hR,hk];simp[jO]
noncomputable def iS(kp kg ka:Nat):Fn:=⟨1,1,(.seq (.ite (.not (.call kp (.pair (.var 0) (.pair (.tup (.pair (.lit (.int 1)) (.pair (.lit (.int 0)) .unit))) .unit)))) .never .skip) (.ret (.call ka (.pair (.tup (.pair (.call kg (.pair (.idx (.var 0) (.lit (.int 0))) .unit)) (.pair (.call kg (.pair (.idx (.var 0) (.lit (.int 1))) .unit)) .unit))) .unit))))⟩
def uN (hp:cl kp [aP n W V,wd]=.ok (.bl true))(h1:cl kg [ak (zm n (n+1) W)]=.ok (ak (zm n (n+1) (ar W))))(h2:cl kg [ak (zm (n+1) n V)]=.ok (ak (zm (n+1) n (ar V))))(ha:cl ka [aP n (ar W) (ar V)]=.ok (ak R))(hka:lev ka=.full)(hk:lev k=.full):
  zw lev cl k (iS kp kg ka) [aP n W V]=.ok (ak R):=by
 have i0:yt (aP n W V) (.int 0)=.ok (ak (zm n (n+1) W)):=rfl;have i1:yt (aP n W V) (.int 1)=.ok (ak (zm (n+1) n V)):=rfl;have hwd:ao cl (.tup (.pair (.lit (.int 1)) (.pair (.lit (.int 0)) .unit))) [some (aP n W V)]=.ok wd:=rfl;have htp:ao cl (.tup (.pair (.call kg (.pair (.idx (.var 0) (.lit (.int 0))) .unit)) (.pair (.call kg (.pair (.idx (.var 0) (.lit (.int 1))) .unit)) .unit))) [some (aP n W V)]=.ok (aP n (ar W) (ar V)):=by
  simp only[lp,zu,zl,zh,zI,zd,za,aE,zf,i0,i1,h1,h2];rfl
 unfold zw;rw[MN (by rfl)];show zG (lev k) (aG lev cl (.seq _ (.ret _)) [some (aP n W V)] _)=_;rw[yW];simp only[zV,y8,zu,zl,zh,hwd,za,aE,zf,hp,Q8,aX,yr,zg,zZ,htp,ha];simp[zG,bO,hka,hk,jO,ak]
noncomputable def oP:Ex:=(.comp (.blt .int (.pair (.cmp .eq (.bin .mul (.idx (.var 7) (.var 8)) (.bin .sub (.lit (.int 1)) (.bin .mul (.lit (.int 2)) (.bin .mod (.bin .add (.var 6) (.var 8)) (.lit (.int 2)))))) (.neg (.lit (.int 1)))) .unit)) (.rng (.lit (.int 0)) (.blt .len (.pair (.var 7) .unit)) (.lit (.int 1))) (.lit (.bl true)))
noncomputable def oO:Sm:=(.seq (.asg 7 (.idx (.var 4) (.var 6))) (.expr (.meth .append (.var 5) (.pair oP .unit))))
noncomputable def lL:Sm:=(.seq (.asg 5 (.lst .unit)) (.seq (.forv 6 (.rng (.lit (.int 0)) (.blt .len (.pair (.var 4) .unit)) (.lit (.int 1))) oO) (.expr (.meth .append (.var 3) (.pair (.var 5) .unit)))))
noncomputable def wP(ka:Nat):Fn:=⟨1,8,(.seq (.fort 1 2 (.tup (.pair (.call ka (.pair (.var 0) .unit)) .unit)) .skip) (.seq (.asg 3 (.lst .unit)) (.seq (.forv 4 (.tup (.pair (.var 1) (.pair (.var 2) .unit))) lL) (.ret (.tup (.pair (.idx (.var 3) (.lit (.int 0))) (.pair (.idx (.var 3) (.lit (.int 1))) .unit)))))))⟩
def CQ (hq:q<=100)(F:Nat->Nat->Int)(i:Nat)(d0 d1 d2 d3 d4 d5:Option Dat):ao cl oP [d0,d1,d2,d3,d4,d5,some (.int i),some (row (zN q F i))]=.ok (row (zN q (sd F) i)):=by
 have hlen:yM .len [row (zN q F i)]=.ok (.int q):=by simp[row,zN]
 unfold oP;rw[yf];simp only[xw,zd,zM,zl,zh,za,ze,aE,zf,hlen,jV hq,yI];rw[vD 0 1 q (λc=>.int (sd F i c)) (λc _=>by simp) (λc hc=>?_) (by unfold aq;lia)]
 .simp only[row,zN,Wa];rfl
 .rw[show(0+1*(c:Int))=(c:Int) by lia];have hm:=wn ((i:Int)+c) 2 (by decide);have h2:yY .mul (.int 2) (.int (((i:Int)+c)%2))=.ok (.int (2*(((i:Int)+c)%2))):=wD _ _ (by decide);have h3:yY .mul (.int (F i c)) (.int (1-2*(((i:Int)+c)%2)))=.ok (.int (F i c*(1-2*(((i:Int)+c)%2)))):=uT _ _ (kS (by lia) (by lia));simp only[QW,QG,zM,zl,zh,zD,zH,ve,zI,zd,za,ze,aE,zf,kY hc,zY,hm,h2,xR,h3,xU,tK];rfl
def jW (hp:p<=100)(hq:q<=100)(F:Nat->Nat->Int)(hA:A.length<aq)(d0 d1 d2 o5 o6 o7:Option Dat)(l0 l1 l2 l4 l5 l6 l7:Lv)(hl4:l4=.no):
  ∃o6' o7' l6' l7',aG lev cl lL [d0,d1,d2,some (.lst A),some (ak (zm p q F)),o5,o6,o7] [l0,l1,l2,.full,l4,l5,l6,l7]=.next [d0,d1,d2,some (.lst (A++[ak (zm p q (sd F))])),some (ak (zm p q F)),none,o6',o7'] [l0,l1,l2,.full,.no,.full,l6',l7']:=by
 subst hl4;have hnew:yO []=.ok (row []):=rfl;have inner:=x5 (body:=λd de lv=>aG lev cl oO (de.set 6 (some d)) (lv.set 6 (bo d)))
  (λt de lv=>∃(p6 p7:Option Dat) (m6 m7:Lv),de=[d0,d1,d2,some (.lst A),some (ak (zm p q F)),some (ak ((zm p q (sd F)).take t)),p6,p7]/\lv=[l0,l1,l2,.full,.no,.full,m6,m7])
  (yA 0 1 p) (de:=[d0,d1,d2,some (.lst A),some (ak (zm p q F)),some (ak []),o6,o7]) (lv:=[l0,l1,l2,.full,.no,.full,l6,l7])
  ⟨o6,o7,l6,l7,rfl,rfl⟩ ?_
 .obtain ⟨de',lv',e,p6,p7,m6,m7,rfl,rfl⟩:=inner;rw[wq,Q9 (by rw[zW];lia)]at e;refine⟨p6,p7,m6,m7,?_⟩;unfold lL;rw[zE];simp only[zL,wM,zh,aE,zf,hnew,aX];rw[yQ (by simp[row])];simp only[zg,Qe,Qd];rw[kW,wN];simp only[xw,zd,zM,zl,zh,za,ze,aE,zf,wt,jV hp,aX,yI,xK,xa,if_true];rw[show(some (row []):Option Dat)=some (ak [])from rfl,e,zg,nM];simp only[za,ze,fX];rw[show xJ [d0,d1,d2,some (.lst A),some (ak (zm p q F)),some (ak (zm p q (sd F))),p6,p7] 3=some A from rfl];simp only;rw[MN hA];have hg:wl lev (.var 5) (ak (zm p q (sd F))) 3 [d0,d1,d2,some (.lst A),some (ak (zm p q F)),some (ak (zm p q (sd F))),p6,p7] [l0,l1,l2,.full,.no,.full,m6,m7]=some ([d0,d1,d2,some (.lst A),some (ak (zm p q F)),none,p6,p7],[l0,l1,l2,.full,.no,.full,m6,m7]):=by
   simp[wl,yo,ak]
  rw[hg];simp
 .rintro t d de lv hd ⟨p6,p7,m6,m7,rfl,rfl⟩;have ht:t<p:=by
   have:=(Qa.mp hd).1;simpa using this
  rw[y4 _ _ _ _ ht]at hd;cases hd;have e1:(0:Int)+1*(t:Int)=(t:Int):=by lia
  simp only[e1,Qe,Qd,show bo (.int (t:Int))=.full from by simp[bo]];refine⟨_,_,?_,some (.int t),some (row (zN q F t)),.no,.no,rfl,rfl⟩;unfold oO;rw[kW];simp only[zL,zI,za,ze,aE,Al ht,aX];rw[show jr lev 7 (.idx (.var 4) (.var 6)) (row (zN q F t)) [d0,d1,d2,some (.lst A),some (ak (zm p q F)),some (ak ((zm p q (sd F)).take t)),some (.int t),p7] [l0,l1,l2,.full,.no,.full,.full,m7]=.next [d0,d1,d2,some (.lst A),some (ak (zm p q F)),some (ak ((zm p q (sd F)).take t)),some (.int t),some (row (zN q F t))] [l0,l1,l2,.full,.no,.full,.no,.no]from rfl,zg];rw[gK (by simp[zm];unfold aq;lia) _ _ 5 (CQ hq F t _ _ _ _ _ _) (kZ lev λi=>by simp) rfl rfl];rw[Wl,show(zm p q (sd F))[t]?=some (zN q (sd F) t)from by simp[zm,ht],Va];rfl
def HP (hn:n<=12)(ha:cl ka [ak R]=.ok (aP n F G))(hk:lev k=.no):zw lev cl k (wP ka) [ak R]=.ok (aP n (sd F) (sd G)):=by
 have hnew:yO []=.ok (row []):=rfl;have hT:ao cl (.tup (.pair (.call ka (.pair (.var 0) .unit)) .unit)) [some (ak R),none,none,none,none,none,none,none]=.ok (.tup [aP n F G]):=by
  simp only[lp,zu,zl,zh,za,aE,zf,ha];rfl
 obtain⟨a6,a7,b6,b7,e1⟩:=jW (lev:=lev) (cl:=cl) (p:=n) (q:=n+1) (by lia) (by lia) F (A:=[]) (by decide) (some (ak R)) (some (ak (zm n (n+1) F))) (some (ak (zm (n+1) n G))) none none none .no .no .no .no .full .full .full rfl;obtain⟨c6,c7,g6,g7,e2⟩:=jW (lev:=lev) (cl:=cl) (p:=n+1) (q:=n) (by lia) (by lia) G (A:=[ak (zm n (n+1) (sd F))]) (by simp[aq]) (some (ak R)) (some (ak (zm n (n+1) F))) (some (ak (zm (n+1) n G))) none a6 a7 .no .no .no .no .full b6 b7 rfl;have hfort:aG lev cl (.fort 1 2 (.tup (.pair (.call ka (.pair (.var 0) .unit)) .unit)) .skip) [some (ak R),none,none,none,none,none,none,none] [.no,.full,.full,.full,.full,.full,.full,.full]=.next [some (ak R),some (ak (zm n (n+1) F)),some (ak (zm (n+1) n G)),none,none,none,none,none] [.no,.no,.no,.full,.full,.full,.full,.full]:=by
  rw[nK,hT];simp only[aX,yI,aP,yB,yr];simp[bo,ak,wg,bb]
 have hfl:ax (.tup [ak (zm n (n+1) F),ak (zm (n+1) n G)])=false:=by simp[ak]
 have ht2:ao cl (.tup (.pair (.var 1) (.pair (.var 2) .unit))) [some (ak R),some (ak (zm n (n+1) F)),some (ak (zm (n+1) n G)),some (row []),none,none,none,none]=.ok (.tup [ak (zm n (n+1) F),ak (zm (n+1) n G)]):=rfl;unfold zw;rw[MN (by rfl)];show zG (lev k) (aG lev cl (.seq _ (.seq _ (.seq _ _))) [some (ak R),none,none,none,none,none,none,none] [bo (ak R),.full,.full,.full,.full,.full,.full,.full])=_;rw[show bo (ak R)=.no from by simp[bo,ak],zE,hfort,zg,zE];simp only[zL,wM,zh,aE,zf,hnew,aX];rw[yQ (by simp[row])];simp only[zg,Qe,Qd];rw[yW,wN,ht2];simp only[aX,yI,hfl,QR,if_false,yB,Qe,Qd,show ∀A:List (List Int),bo (ak A)=.no from λA=>by simp[bo,ak]];rw[show(wg (.tup (.pair (.var 1) (.pair (.var 2) .unit))) [some (ak R),some (ak (zm n (n+1) F)),some (ak (zm (n+1) n G)),some (row []),none,none,none,none] [Lv.no,Lv.no,Lv.no,Lv.full,Lv.full,Lv.full,Lv.full,Lv.full])=[Lv.no,Lv.no,Lv.no,Lv.full,Lv.full,Lv.full,Lv.full,Lv.full]from rfl];simp only[Qe,Qd];rw[show(some (row []):Option Dat)=some (.lst [])from rfl,e1];simp only[Qe,Qd,QG];rw[e2];simp only[zg,zZ];rw[show ao cl (.tup (.pair (.idx (.var 3) (.lit (.int 0))) (.pair (.idx (.var 3) (.lit (.int 1))) .unit))) [some (ak R),some (ak (zm n (n+1) F)),some (ak (zm (n+1) n G)),some (.lst ([ak (zm n (n+1) (sd F))]++[ak (zm (n+1) n (sd G))])),some (ak (zm (n+1) n G)),none,c6,c7]=.ok (aP n (sd F) (sd G))from rfl];simp only[aX,zG,hk];simp[jO]
end
end Lib
namespace Lib
end Lib
namespace Lib
section
noncomputable def wk(F:Nat->Nat->Int)(i j:Nat):Int:=if(decide (F i j=1)==decide (((i:Int)+j)%2=1))=true then 1 else 0
end
end Lib
namespace Lib
end Lib
namespace Lib
section
noncomputable def up(F:Nat->Nat->Int)(i j:Nat)(v:Int):Nat->Nat->Int:=λa b=>if a=i/\b=j then v else F a b
noncomputable def lvl(G:Nat->Nat->Int)(i j:Nat):Bool:=decide (G (i+1) j=G (i-1) j)&&(decide (G i (j-1)=G (i-1) j)&&decide (G i (j+1)=G (i-1) j))
end
end Lib
namespace Lib
section
def y6 (hi:i<p)(hj:j<q):(yt (ak (zm p q F)) (.int (i:Int))).bind (λx=>yt x (.int (j:Int)))=.ok (.int (F i j)):=by
 rw[Al hi];exact kY hj
end
end Lib
namespace Lib
section
variable{lev:Nat->Lv}{cl:Nat->List Dat->Rd}{k:Nat}
mutual
noncomputable def zp:Nat->Dat->Bool
 |0,_=>false
 |k+1,.lst ds=>decide (ds.length<=aq)&&aI k ds
 |k+1,.tup ds=>decide (ds.length<=aq)&&aI k ds
 |_+1,.scr _=>false
 |_+1,_=>true
noncomputable def aI:Nat->List Dat->Bool
 |_,[]=>true
 |k,d::ds=>zp k d&&aI k ds
end
theorem x6:∀{ds:List Dat},aI k ds=true->∀d∈ds,zp k d=true
 |[],_,d,h=>by cases h
 |x::ds,h,d,hd=>by
  have h':(zp k x&&aI k ds)=true:=by unfold aI at h;exact h
  rw[Qj]at h';rcases Qr.mp hd with rfl|hd
  .exact h'.1
  .exact x6 h'.2 d hd
noncomputable def lZ(ks:Nat):Fn:=⟨1,1,(.seq (.ite (.isi .list (.var 0)) (.ret (.comp (.call ks (.pair (.var 1) .unit)) (.var 0) (.lit (.bl true)))) .skip) (.seq (.ite (.isi .tuple (.var 0)) (.ret (.blt .tuple (.pair (.comp (.call ks (.pair (.var 1) .unit)) (.var 0) (.lit (.bl true))) .unit))) .skip) (.ret (.var 0))))⟩
def tw (hi:cL d0=some ds)(h:∀d∈ds,cl ks [d]=.ok d)(hz:ds.length<=aq):ao cl (.comp (.call ks (.pair (.var 1) .unit)) (.var 0) (.lit (.bl true))) [some d0]=.ok (.lst ds):=by
 rw[yf];simp only[za,aE,hi];rw[wU (g:=λx=>x) ds [] (λv _=>by simp) (λx hx=>by have:=h x hx;simp[this]) (by simpa using hz)];simp
def EY (hp:zp (e+1) d=true)(h:∀x,zp e x=true->cl ks [x]=.ok x)(hk:lev k=.no):zw lev cl k (lZ ks) [d]=.ok d:=by
 have ge:∀a,jO a .no=true:=λa=>by cases a<;>rfl
 unfold zw;rw[MN (by rfl)];show zG (lev k) (aG lev cl (.seq (.ite _ _ _) (.seq (.ite _ _ _) (.ret _))) [some d] _)=_;rw[hk];cases d with
 |lst ds=>
  have hp':(decide (ds.length<=aq)&&aI e ds)=true:=by unfold zp at hp;exact hp
  rw[Qj]at hp';have hz:=MT hp'.1;have e1:=tw (cl:=cl) (ks:=ks) (xq hz) (λd hd=>h d (x6 hp'.2 d hd)) hz;rw[zE,zV];simp only[yV,za,aE,ck,aX,zZ,e1,kU];simp[zG,ge]
 |tup ds=>
  have hp':(decide (ds.length<=aq)&&aI e ds)=true:=by unfold zp at hp;exact hp
  rw[Qj]at hp';have hz:=MT hp'.1;have e1:=tw (cl:=cl) (ks:=ks) (d0:=.tup ds) (by simp) (λd hd=>h d (x6 hp'.2 d hd)) hz;have e2:yM .tuple [.lst ds]=.ok (.tup ds):=rfl;rw[zE,zV];simp only[yV,za,aE,ck,aX,yr,zg];rw[yW,zV];simp only[yV,za,aE,ck,aX,zZ,zM,zl,zh,e1,zf,e2,kU];simp[zG,ge]
 |scr _=>cases hp
 |_=>
  rw[zE,zV];simp only[yV,za,aE,ck,aX,yr,zg];rw[yW,zV];simp only[yV,za,aE,ck,aX,zZ,yr,zg];simp[zG,ge]
noncomputable def wr(n:Nat)(W V:Nat->Nat->Int)(r c:Nat):Bool:=! decide (W r c-W r (c+1)+V r c-V (r+1) c=0) || (decide (c=0)&&decide (W r 0=-1) || (decide (c+1=n)&&decide (W r n=1) || (decide (r=0)&&decide (V 0 c=1) || decide (r+1=n)&&decide (V n c=-1))))
set_option tactic.hygienic true in
def Fm(c:Ex)(a b X:Sm):yP (.ite c a b) X=none:=by
 unfold yP
 (repeat' split)<;>first|rfl|(rename_i h _;cases h)
def qE (h:ao cl c de=.ok (.bl b))(q:zG L (aG lev cl X de lv)=.ok (.bl y)):zG L (aG lev cl (.seq (.ite c (.ret (.lit (.bl true))) .skip) X) de lv)=.ok (.bl (b || y)):=by
 rw[yq lev cl de lv (Fm _ _ _ _),zV,h];cases b with
 |true=>simp[zG]
 |false=>simpa using q
def xX (ha:ao cl a de=.ok (.bl p))(hb:ao cl b de=.ok (.bl q)):ao cl (.and a b) de=.ok (.bl (p&&q)):=by
 simp only[gB,ha,aE];cases p<;>simp[hb]
def tv (ha:ao cl a de=.ok (.bl p))(hb:ao cl b de=.ok (.bl q)):ao cl (.or a b) de=.ok (.bl (p || q)):=by
 simp only[vm,ha,aE];cases p<;>simp[hb]
noncomputable def pK:Fn:=⟨4,9,(.seq (.asg 4 (.idx (.idx (.var 0) (.var 2)) (.var 3))) (.seq (.asg 5 (.neg (.idx (.idx (.var 0) (.var 2)) (.bin .add (.var 3) (.lit (.int 1)))))) (.seq (.asg 6 (.idx (.idx (.var 1) (.var 2)) (.var 3))) (.seq (.asg 7 (.neg (.idx (.idx (.var 1) (.bin .add (.var 2) (.lit (.int 1)))) (.var 3)))) (.seq (.asg 8 (.bin .sub (.blt .len (.pair (.var 0) .unit)) (.lit (.int 1)))) (.seq (.ite (.cmp .ne (.bin .add (.bin .add (.bin .add (.var 4) (.var 5)) (.var 6)) (.var 7)) (.lit (.int 0))) (.ret (.lit (.bl true))) .skip) (.seq (.ite (.or (.and (.cmp .eq (.var 3) (.lit (.int 0))) (.cmp .eq (.var 4) (.neg (.lit (.int 1))))) (.and (.cmp .eq (.var 3) (.var 8)) (.cmp .eq (.var 5) (.neg (.lit (.int 1)))))) (.ret (.lit (.bl true))) .skip) (.ret (.or (.and (.cmp .eq (.var 2) (.lit (.int 0))) (.cmp .eq (.var 6) (.lit (.int 1)))) (.and (.cmp .eq (.var 2) (.var 8)) (.cmp .eq (.var 7) (.lit (.int 1)))))))))))))⟩
def CP (W V:Nat->Nat->Int)(hr:r<n)(hc:c<n):zw lev cl k pK [ak (zm n (n+1) W),ak (zm (n+1) n V),.int r,.int c]=.ok (.bl (wr n W V r c)):=by
 have g1:=y6 (p:=n) (q:=n+1) (F:=W) hr (show c<n+1 by lia);have g2:=y6 (p:=n) (q:=n+1) (F:=W) hr (show c+1<n+1 by lia);have g3:=y6 (p:=n+1) (q:=n) (F:=V) (show r<n+1 by lia) hc;have g4:=y6 (p:=n+1) (q:=n) (F:=V) (show r+1<n+1 by lia) hc;rw[show((c+1:Nat):Int)=(c:Int)+1 by lia]at g2;rw[show((r+1:Nat):Int)=(r:Int)+1 by lia]at g4;unfold zw;rw[MN (by rfl)];show zG (lev k) (aG lev cl (.seq (.asg 4 _) (.seq (.asg 5 _) (.seq (.asg 6 _) (.seq (.asg 7 _) (.seq (.asg 8 _) (.seq (.ite _ _ _) (.seq (.ite _ _ _) (.ret _)))))))) [some (ak (zm n (n+1) W)),some (ak (zm (n+1) n V)),some (.int r),some (.int c),none,none,none,none,none] _)=_;rw[zE,zL];simp only[zH,ve,zI,zd,ze,za,aE,zY,g1,aX];rw[zS (by simp)];simp only[zg,Qe,Qd];rw[zE,zL];simp only[zH,ve,zI,zd,ze,za,aE,zY,g2,aX];rw[zS (by simp)];simp only[zg,Qe,Qd];rw[zE,zL];simp only[zH,ve,zI,zd,ze,za,aE,zY,g3,aX];rw[zS (by simp)];simp only[zg,Qe,Qd];rw[zE,zL];simp only[zH,ve,zI,zd,ze,za,aE,zY,g4,aX];rw[zS (by simp)];simp only[zg,Qe,Qd];rw[zE,zL];simp only[zH,zM,zl,zh,zd,ze,za,aE,zf,wt,xR,aX];rw[zS (by simp)];simp only[zg,Qe,Qd];have c1:((c:Int)=0)↔c=0:=by lia
 have c2:((c:Int)=(n:Int)-1)↔c+1=n:=by lia
 have c3:((r:Int)=0)↔r=0:=by lia
 have c4:((r:Int)=(n:Int)-1)↔r+1=n:=by lia
 have ew:wr n W V r c=(! decide (W r c+-W r (c+1)+V r c+-V (r+1) c=0) || ((decide (c=0)&&decide (W r c=-1) || decide (c+1=n)&&decide (-W r (c+1)=-1)) || (decide (r=0)&&decide (V r c=1) || decide (r+1=n)&&decide (-V (r+1) c=1)))):=by
  unfold wr;have a1:(W r c-W r (c+1)+V r c-V (r+1) c=0)↔(W r c+-W r (c+1)+V r c+-V (r+1) c=0):=by lia
  have a2:(c=0/\W r 0=-1)↔(c=0/\W r c=-1):=by constructor<;>(rintro⟨rfl,h⟩;exact⟨rfl,h⟩)
  have a3:(c+1=n/\W r n=1)↔(c+1=n/\-W r (c+1)=-1):=by constructor<;>(rintro⟨rfl,h⟩;exact⟨rfl,by lia⟩)
  have a4:(r=0/\V 0 c=1)↔(r=0/\V r c=1):=by constructor<;>(rintro⟨rfl,h⟩;exact⟨rfl,h⟩)
  have a5:(r+1=n/\V n c=-1)↔(r+1=n/\-V (r+1) c=1):=by constructor<;>(rintro⟨rfl,h⟩;exact⟨rfl,by lia⟩)
  simp only[<-Bool.decide_and,a1,a2,a3,a4,a5,Bool.or_assoc]
 rw[ew];refine qE ?_ (qE (tv (xX ?_ ?_) (xX ?_ ?_)) ?_)
 .simp only[zD,zH,zd,ze,za,aE,zY,ke]
 .simp only[zD,zd,ze,za,aE,xU,c1]
 .simp only[zD,ve,zd,ze,za,aE,xU]
 .simp only[zD,zd,ze,za,aE,xU,c2]
 .simp only[zD,ve,zd,ze,za,aE,xU]
 .rw[zZ,tv (xX (p:=decide (r=0)) (q:=decide (V r c=1)) ?_ ?_) (xX (p:=decide (r+1=n)) (q:=decide (-V (r+1) c=1)) ?_ ?_)]
  .simp[zG]
  .simp only[zD,zd,ze,za,aE,xU,c3]
  .simp only[zD,zd,ze,za,aE,xU]
  .simp only[zD,zd,ze,za,aE,xU,c4]
  .simp only[zD,zd,ze,za,aE,xU]
end
end Lib
namespace Lib
section
variable{lev:Nat->Lv}{cl:Nat->List Dat->Rd}{k:Nat}
noncomputable def cH(n:Nat)(f:Nat->Nat->Bool)(d:Dat):Prop:=(d=.non/\∀r c,r<n->c<n->f r c=false)\/∃r c:Nat,r<n/\c<n/\d=.tup [.int r,.int c]/\f r c=true/\∀r' c',r'<n->c'<n->(r'<r\/(r'=r/\c'<c))->f r' c'=false
def cH.det (h:cH n f d)(h':cH n f e):d=e:=by
 rcases h with⟨rfl,h⟩|⟨r,c,hr,hc,rfl,t,b⟩
 .rcases h' with⟨rfl,_⟩|⟨r,c,hr,hc,rfl,t,_⟩
  .rfl
  .rw[h r c hr hc]at t;cases t
 .rcases h' with⟨rfl,h⟩|⟨r',c',hr',hc',rfl,t',b'⟩
  .rw[h r c hr hc]at t;cases t
  .have:r=r'/\c=c':=by
    rcases Nat.lt_trichotomy r r' with q|q|q
    .rw[b' r c hr hc (.inl q)]at t;cases t
    .refine ⟨q,?_⟩;rcases Nat.lt_trichotomy c c' with z|z|z
     .rw[b' r c hr hc (.inr ⟨q,z⟩)]at t;cases t
     .exact z
     .rw[b r' c' hr' hc' (.inr ⟨q.symm,z⟩)]at t';cases t'
    .rw[b r' c' hr' hc' (.inl q)]at t';cases t'
   obtain⟨rfl,rfl⟩:=this;rfl
noncomputable def fR(C:Ex):Sm:=.ite C (.ret (.tup (.pair (.var 2) (.pair (.var 3) .unit)))) .skip
noncomputable def fQ(E C:Ex):Sm:=.seq (.forv 2 E (.forv 3 E (fR C))) (.ret (.lit .non))
def tu (hE:∀x y,ao cl E [a0,a1,x,y]=.ok (.tup (yA 0 1 n)))(hC:∀r c:Nat,r<n->c<n->ao cl C [a0,a1,some (.int r),some (.int c)]=.ok (.bl (f r c)))(o2 o3:Option Dat)(lv:List Lv)(L:Lv):∃d,cH n f d/\zG L (aG lev cl (fQ E C) [a0,a1,o2,o3] lv)=.ok d:=by
 have inner:∀(r:Nat),r<n->∀(o3:Option Dat) (lv:List Lv),(∃p3 lv',aG lev cl (.forv 3 E (fR C)) [a0,a1,some (.int r),o3] lv=.next [a0,a1,some (.int r),p3] lv'/\∀c,c<n->f r c=false) \/
   ∃d l,aG lev cl (.forv 3 E (fR C)) [a0,a1,some (.int r),o3] lv=.ret d l/\∃c:Nat,c<n/\f r c=true/\(∀c',c'<c->f r c'=false)/\d=.tup [.int r,.int c]:=by
  intro r hr o3 lv;rw[wN,hE];simp only[aX,yI,xK,xa,if_true];have main:=AC (body:=λx de lv=>aG lev cl (fR C) (de.set 3 (some x)) (lv.set 3 (bo x)))
   (λt de _=>(∃p3,de=[a0,a1,some (.int r),p3])/\∀c,c<t->c<n->f r c=false)
   (λd _=>∃c:Nat,c<n/\f r c=true/\(∀c',c'<c->f r c'=false)/\d=.tup [.int r,.int c]) (yA 0 1 n) (de:=[a0,a1,some (.int r),o3]) (lv:=lv) ⟨⟨o3,rfl⟩,λc h=>by lia⟩ (by
    rintro t x de lv hx ⟨⟨p3,rfl⟩,hb⟩;have ht:t<n:=by
     have:=(Qa.mp hx).1;simpa using this
    rw[y4 _ _ _ _ ht]at hx;cases hx;have e1:(0:Int)+1*(t:Int)=(t:Int):=by lia
    simp only[e1,Qe,Qd];unfold fR;rw[zV,hC r t hr ht];simp only[aX];cases hf:f r t with
    |true=>
     right
     refine⟨.tup [.int r,.int t],bO lev (.tup (.pair (.var 2) (.pair (.var 3) .unit))) (.tup [.int r,.int t]) (lv.set 3 (bo (.int (t:Int)))),?_,t,ht,hf,λc' h=>hb c' h (by lia),rfl⟩;show aG lev cl (.ret _) _ _=_;rw[zZ,show ao cl (.tup (.pair (.var 2) (.pair (.var 3) .unit))) [a0,a1,some (.int (r:Int)),some (.int (t:Int))]=.ok (.tup [.int r,.int t])from rfl];rfl
    |false=>
     refine .inl ⟨_,_,rfl,⟨some (.int t),rfl⟩,λc h1 h2=>?_⟩;rcases Vv.mp h1 with h|h
     .exact hb c h h2
     .rw[h];exact hf)
  rcases main with⟨de',lv',e,⟨p3,rfl⟩,hb⟩|⟨d,l,e,q⟩
  .rw[wq]at hb;exact .inl ⟨p3,lv',e,λc hc=>hb c hc hc⟩
  .exact .inr ⟨d,l,e,q⟩
 have outer:=AC (body:=λx de lv=>aG lev cl (.forv 3 E (fR C)) (de.set 2 (some x)) (lv.set 2 (bo x)))
   (λt de _=>(∃p2 p3,de=[a0,a1,p2,p3])/\∀r c,r<t->r<n->c<n->f r c=false)
   (λd _=>cH n f d/\ax d=true) (yA 0 1 n) (de:=[a0,a1,o2,o3]) (lv:=lv) ⟨⟨o2,o3,rfl⟩,λr c h=>by lia⟩ (by
    rintro t x de lv hx ⟨⟨p2,p3,rfl⟩,hb⟩;have ht:t<n:=by
     have:=(Qa.mp hx).1;simpa using this
    rw[y4 _ _ _ _ ht]at hx;cases hx;have e1:(0:Int)+1*(t:Int)=(t:Int):=by lia
    simp only[e1,Qe,Qd];rcases inner t ht p3 (lv.set 2 (bo (.int (t:Int))))with⟨p3',lv',e,h⟩|⟨d,l,e,c,hc,hf,h,rfl⟩
    .refine .inl ⟨_,_,e,⟨_,_,rfl⟩,λr c h1 h2 h3=>?_⟩;rcases Vv.mp h1 with q|q
     .exact hb r c q h2 h3
     .rw[q];exact h c h3
    .refine .inr ⟨_,_,e,.inr ⟨t,c,ht,hc,rfl,hf,λr' c' h1 h2 h3=>?_⟩,by simp⟩;rcases h3 with q|⟨rfl,q⟩
     .exact hb r' c' q h1 h2
     .exact h c' q)
 unfold fQ;rw[yW,wN,hE];simp only[aX,yI,xK,xa,if_true];rcases outer with⟨de',lv',e,⟨p2,p3,rfl⟩,hb⟩|⟨d,l,e,q,fl⟩
 .rw[wq]at hb;refine⟨.non,.inl ⟨rfl,λr c h1 h2=>hb r c h1 h1 h2⟩,?_⟩;rw[e];simp[zG]
 .refine ⟨d,q,?_⟩;rw[e];simp[zG,fl]
noncomputable def nE(kw:Nat):Fn:=⟨2,4,fQ (.rng (.lit (.int 0)) (.blt .len (.pair (.var 0) .unit)) (.lit (.int 1))) (.call kw (.pair (.var 0) (.pair (.var 1) (.pair (.var 2) (.pair (.var 3) .unit)))))⟩
def HN (hn:n<=12)(hw:∀r c:Nat,r<n->c<n->cl kw [ak (zm n (n+1) W),ak (zm (n+1) n V),.int r,.int c]=.ok (.bl (f r c))):∃d,cH n f d/\zw lev cl k (nE kw) [ak (zm n (n+1) W),ak (zm (n+1) n V)]=.ok d:=by
 have hrng:kL (.int 0) (.int (n:Int)) (.int 1)=.ok (.tup (yA 0 1 n)):=by
  rw[vx (by unfold aq;lia)];simp[v6]
 unfold zw;rw[MN (by rfl)];exact tu (λx y=>by simp only[xw,zM,zl,zh,zd,za,aE,zf,wt,hrng]) (λr c hr hc=>by simp only[zu,zl,zh,ze,za,aE,zf,hw r c hr hc]) none none _ _
noncomputable def iR(kw:Nat):Fn:=⟨1,4,(.seq (.asg 1 (.blt .len (.pair (.idx (.var 0) (.lit (.int 0))) .unit))) (fQ (.rng (.lit (.int 0)) (.var 1) (.lit (.int 1))) (.call kw (.pair (.var 0) (.pair (.var 2) (.pair (.var 3) .unit))))))⟩
def EX (hn:n<=12)(hw:∀r c:Nat,r<n->c<n->cl kw [aP n W V,.int r,.int c]=.ok (.bl (f r c))):∃d,cH n f d/\zw lev cl k (iR kw) [aP n W V]=.ok d:=by
 have hrng:kL (.int 0) (.int (n:Int)) (.int 1)=.ok (.tup (yA 0 1 n)):=by
  rw[vx (by unfold aq;lia)];simp[v6]
 have i0:yt (aP n W V) (.int 0)=.ok (ak (zm n (n+1) W)):=rfl;unfold zw;rw[MN (by rfl)];show ∃d,cH n f d/\zG (lev k) (aG lev cl (.seq (.asg 1 _) (fQ _ _)) [some (aP n W V),none,none,none] _)=_;obtain⟨d,q,e⟩:=tu (lev:=lev) (cl:=cl) (n:=n) (f:=f) (E:=.rng (.lit (.int 0)) (.var 1) (.lit (.int 1))) (C:=.call kw (.pair (.var 0) (.pair (.var 2) (.pair (.var 3) .unit)))) (a0:=some (aP n W V)) (a1:=some (.int (n:Int))) (λx y=>by simp only[xw,zd,ze,za,aE,hrng]) (λr c hr hc=>by simp only[zu,zl,zh,ze,za,aE,zf,hw r c hr hc]) none none ((zP (iR kw) [aP n W V]).set 1 .full) (lev k);refine⟨d,q,?_⟩;unfold fQ at e ⊢;rw[zE,zL];simp only[zM,zl,zh,zI,zd,za,aE,zf,i0,wt,aX];rw[zS (by simp)];simp only[zg,Qe,Qd];exact e
end
end Lib
namespace Lib
section
variable{lev:Nat->Lv}{cl:Nat->List Dat->Rd}{k:Nat}
noncomputable def df(n:Int)(d:Dat):Bool:=match d with
 |.lst xs=>decide ((xs.length:Int)=n)&&xs.all isInt
 |_=>false
noncomputable def qF(kw:Nat):Fn:=⟨2,2,(.ret (.and (.isi .list (.var 0)) (.and (.cmp .eq (.blt .len (.pair (.var 0) .unit)) (.var 1)) (.blt .all (.pair (.comp (.call kw (.pair (.var 2) .unit)) (.var 0) (.lit (.bl true))) .unit)))))⟩
def HM (hw:∀d,cl kw [d]=.ok (.bl (isInt d)))(d:Dat)(n:Int)(hd:iu d=true)(hn:n<=100):zw lev cl k (qF kw) [d,.int n]=.ok (.bl (df n d)):=by
 cases d with
 |scr _=>cases hd
 |lst xs=>
  by_cases h:(xs.length:Int)=n
  .have hl:xs.length<=aq:=by unfold aq;lia
   simp[zw,qF,zT,zP,zG,bO,ck,h,yf,xq hl,df];rw[wU (g:=λx=>.bl (isInt x)) xs [] (by simp) (by simp[hw]) (by simpa using hl)];simp[yM,cB,gD]
  .simp[zw,qF,zT,zP,zG,bO,ck,h,df]
 |_=>simp[zw,qF,zT,zP,zG,bO,ck,df]
noncomputable def jy(kn:Nat):Fn:=⟨3,3,(.seq (.ite (.or (.not (.isi .list (.var 0))) (.cmp .ne (.blt .len (.pair (.var 0) .unit)) (.var 1))) (.ret (.lit (.bl false))) .skip) (.ret (.blt .all (.pair (.comp (.call kn (.pair (.var 3) (.pair (.var 2) .unit))) (.var 0) (.lit (.bl true))) .unit))))⟩
noncomputable def vf(kg ka:Nat):Fn:=⟨4,4,(.ret (.and (.call kg (.pair (.var 0) (.pair (.var 1) (.pair (.var 2) .unit)))) (.blt .all (.pair (.comp (.call ka (.pair (.var 4) (.pair (.var 3) .unit))) (.var 0) (.lit (.bl true))) .unit))))⟩
end
end Lib
namespace Lib
section
variable{lev:Nat->Lv}{cl:Nat->List Dat->Rd}{k:Nat}
noncomputable def jz:Dat->Bool
 |.int i=>decide (i=1) || decide (i=0)
 |_=>false
noncomputable def vg(n:Int):Dat->Bool
 |.lst xs=>decide ((xs.length:Int)=n)&&xs.all jz
 |_=>false
noncomputable def vJ(a b:Int):Dat->Bool
 |.lst xs=>decide ((xs.length:Int)=a)&&xs.all (vg b)
 |_=>false
noncomputable def yK:Dat->Bool
 |.tup [.lst xs,y]=>decide (1<=(xs.length:Int)/\(xs.length:Int)<=12)&&(vJ xs.length (xs.length+1) (.lst xs)&&vJ (xs.length+1) xs.length y)
 |_=>false
noncomputable def fK:Dat->Bool
 |.tup [x,y]=>dD x&&dD y
 |.scr _=>false
 |_=>true
def Fk(v:Int):yL .isin (.int v) wd=.ok (.bl (jz (.int v))):=by
 have h:yL .isin (.int v) wd=.ok (.bl (decide (v=1) || decide (v=0))):=by
  simp[yL,wd,wI,iA,aq,ff,dT,yS,yT,c9,eq_comm]
 rw[h];rfl
def IX(xs:List Dat)(h:xs.all isInt=true)(hl:xs.length<=100):zw lev cl k jx [.lst xs,wd]=.ok (.bl (xs.all jz)):=by
 have hl':xs.length<=aq:=by unfold aq;lia
 simp[zw,jx,zT,zP,zG,bO,yf,xq hl'];rw[wU (g:=λx=>.bl (jz x)) xs [] (by simp) (λx hx=>by
  have:=QF.mp h x hx;cases x with
  |int v=>simp[Fk]
  |_=>cases this) (by simpa using hl')]
 simp[yM,cB,gD]
def HL{kn:Nat}(hr:∀d (n:Int),iu d=true->n<=100->cl kn [d,.int n]=.ok (.bl (df n d)))(d:Dat)(a b:Int)(hd:dD d=true)(ha:a<=100)(hb:b<=100):zw lev cl k (jy kn) [d,.int a,.int b]=.ok (.bl (match d with |.lst xs=>decide ((xs.length:Int)=a)&&xs.all (df b)|_=>false)):=by
 cases d with
 |scr _=>cases hd
 |lst xs=>
  by_cases h:(xs.length:Int)=a
  .have hl':xs.length<=aq:=by unfold aq;lia
   simp[zw,jy,zT,zP,zG,bO,ck,yf,xq hl',h];rw[wU (g:=λx=>.bl (df b x)) xs [] (by simp) (λx hx=>by exact hr x b (QF.mp hd x hx) (by lia)) (by simpa using hl')];simp[yM,cB,gD]
  .simp[zw,jy,zT,zP,zG,bO,ck,h]
 |_=>simp[zw,jy,zT,zP,zG,bO,ck]
def EW(n:Int)(d:Dat)(h:df n d=true):vg n d=match d with |.lst xs=>xs.all jz|_=>false:=by
 cases d with
 |lst xs=>
  simp only[df,Qj,MU]at h;simp[vg,h.1]
 |_=>rfl
def CO(n:Int)(d:Dat)(h:vg n d=true):df n d=true:=by
 cases d with
 |lst xs=>
  simp only[vg,Qj,MU]at h;simp only[df,Qj,MU];refine⟨h.1,QF.mpr λx hx=>?_⟩;have:=QF.mp h.2 x hx;cases x<;>first|rfl|cases this
 |_=>cases h
def IE{kg ka:Nat}(hg:∀(d:Dat) (a b:Int),dD d=true->a<=100->b<=100->cl kg [d,.int a,.int b]=.ok (.bl (match d with |.lst xs=>decide ((xs.length:Int)=a)&&xs.all (df b)|_=>false)))(ha:∀ys:List Dat,ys.all isInt=true->ys.length<=100->cl ka [.lst ys,wd]=.ok (.bl (ys.all jz)))(d:Dat)(a b:Int)(hd:dD d=true)(h1:a<=100)(h2:b<=100):
  zw lev cl k (vf kg ka) [d,.int a,.int b,wd]=.ok (.bl (vJ a b d)):=by
 have hg:=hg d a b hd h1 h2;cases d with
 |lst xs=>
  by_cases hl:(xs.length:Int)=a
  .have hl':xs.length<=aq:=by unfold aq;lia
   by_cases h:xs.all (df b)=true
   .simp only[h,hl,decide_true,Bool.true_and]at hg;simp[zw,vf,zT,zP,zG,bO,hg,yf,xq hl'];rw[wU (g:=λx=>.bl (vg b x)) xs [] (by simp) (λx hx=>by
     have hx':=QF.mp h x hx;cases x with
     |lst ys=>
      rw[EW _ _ hx'];simp only[df,Qj,MU]at hx';simp;exact ha ys hx'.2 (by lia)
     |_=>cases hx') (by simpa using hl')]
    simp[yM,cB,gD,vJ,hl]
   .have hf:xs.all (df b)=false:=by simpa using h
    have hf2:xs.all (vg b)=false:=by
     cases e:xs.all (vg b)with
     |false=>rfl
     |true=>exact MP (QF.mpr λx hx=>CO _ _ (QF.mp e x hx)) h
    simp only[hf,WT]at hg;simp only[vJ,hf2,WT];simp[zw,vf,zT,zP,zG,bO,hg]
  .simp only[hl,decide_false,Vs]at hg;simp only[vJ,hl,decide_false,Vs];simp[zw,vf,zT,zP,zG,bO,hg]
 |_=>simp[zw,vf,zT,zP,zG,bO,hg,vJ]
def HK (hz:∀n:Int,cl kz [.int n]=.ok (.bl (decide (1<=n/\n<=12))))(hg:∀(d:Dat) (a b:Int),dD d=true->a<=100->b<=100->cl kg [d,.int a,.int b,wd]=.ok (.bl (vJ a b d)))(d:Dat)(hd:fK d=true):zw lev cl k (wO kz kg) [d,wd]=.ok (.bl (yK d)):=by
 have two:∀ds:List Dat,(ds.length:Int)≠2->zw lev cl k (wO kz kg) [.tup ds,wd]=.ok (.bl false):=by
  intro ds h;simp[zw,wO,zT,zP,zG,bO,ck,h]
 cases d with
 |scr _=>cases hd
 |tup ds=>match ds,hd with
  |[],_=>exact two [] (by simp)
  |[x],_=>rw[two [x] (by simp)];cases x<;>rfl
  |x::y::z::r,_=>rw[two (x::y::z::r) (by simp;lia)];cases x<;>rfl
  |[x,y],hd=>
   rw[show fK (.tup [x,y])=(dD x&&dD y)from rfl,Qj]at hd;have i0:yt (.tup [x,y]) (.int 0)=.ok x:=rfl;have i1:yt (.tup [x,y]) (.int 1)=.ok y:=rfl;have hl:yM .len [.tup [x,y]]=.ok (.int 2):=rfl;unfold zw;rw[MN (by rfl)];show zG (lev k) (aG lev cl (.seq _ (.seq _ (.seq _ (.seq _ _)))) [some (.tup [x,y]),some wd,none,none] _)=_;rw[zE];simp only[zV,vm,y8,yV,zD,zM,zl,zh,za,zd,aE,zf,hl,show ck .tuple (.tup [x,y])=true from rfl,Q8,ke,decide_true,aX,yr,zg];rw[zE];simp only[zL,zI,za,zd,aE,i0,aX];obtain⟨l1,e1⟩:=gL (lev:=lev) (i:=2) (e:=.idx (.var 0) (.lit (.int 0))) (d:=x) [some (.tup [x,y]),some wd,none,none] (zP (wO kz kg) [.tup [x,y],wd]);rw[e1];simp only[zg,Qe,Qd];rw[zE];unfold oM;cases x with
   |scr _=>cases hd.1
   |lst xs=>
    by_cases h:1<=(xs.length:Int)/\(xs.length:Int)<=12
    .simp only[zV,vm,y8,yV,zu,zM,zl,zh,za,ze,aE,zf,ck,Q8,nN,hz,MS h,aX,yr,zg];rw[yW];simp only[zL,zM,zl,zh,za,ze,aE,zf,nN,aX];rw[zS (by simp)];have g1:=hg (.lst xs) xs.length (xs.length+1) hd.1 (by lia) (by lia);have g2:=hg y (xs.length+1) xs.length hd.2 (by lia) (by lia);simp only[zg,Qe,Qd,zZ];rw[xX (p:=vJ xs.length (xs.length+1) (.lst xs)) (q:=vJ (xs.length+1) xs.length y)]
     .simp[zG,yK,h]
     .simp only[zu,zl,zh,zH,zd,za,ze,aE,zf,zY,g1]
     .simp only[zu,zl,zh,zH,zI,zd,za,ze,aE,zf,zY,i1,g2]
    .simp only[zV,vm,y8,yV,zu,zM,zl,zh,za,ze,aE,zf,ck,Q8,nN,hz,MR h,Vr,aX,zZ,qC,kU];simp[zG,yK,h]
   |_=>
    simp only[zV,vm,y8,yV,za,ze,aE,ck,Vr,aX,zZ,qC,kU];simp[zG,yK]
 |_=>simp[zw,wO,zT,zP,zG,bO,ck,yK]
end
end Lib
namespace Lib
section
variable{lev:Nat->Lv}{cl:Nat->List Dat->Rd}{k:Nat}
def cH.flat (h:cH n f d):Vl.ax d=true:=by
 rcases h with⟨rfl,_⟩|⟨r,c,_,_,rfl,_⟩<;>simp
noncomputable def AX(kp kf ks:Nat):Fn:=⟨1,2,(.seq (.ite (.not (.call kp (.pair (.var 0) (.pair (.tup (.pair (.lit (.int 1)) (.pair (.neg (.lit (.int 1))) .unit))) .unit)))) (.ret (.tup (.pair (.lit .non) .unit))) .skip) (.seq (.asg 1 (.call kf (.pair (.idx (.var 0) (.lit (.int 0))) (.pair (.idx (.var 0) (.lit (.int 1))) .unit)))) (.seq (.ite (.cmp .notN (.var 1) (.lit .non)) (.ret (.tup (.pair (.var 1) .unit))) .skip) (.seq (.expr (.comp (.call ks (.pair (.var 2) .unit)) (.idx (.var 0) (.lit (.int 0))) (.lit (.bl true)))) (.ret (.tup .unit))))))⟩
def CG:ao cl (.tup (.pair (.lit (.int 1)) (.pair (.neg (.lit (.int 1))) .unit))) de=.ok pm:=rfl
def Dm (hf:Vl.ax d=true)(hd:yL .notN d .non=.ok (.bl true))(hp:cl kp [aP n W V,pm]=.ok (.bl true))(hq:cl kf [ak (zm n (n+1) W),ak (zm (n+1) n V)]=.ok d):zw lev cl k (AX kp kf ks) [aP n W V]=.ok (.tup [d]):=by
 have i0:yt (aP n W V) (.int 0)=.ok (ak (zm n (n+1) W)):=rfl;have i1:yt (aP n W V) (.int 1)=.ok (ak (zm (n+1) n V)):=rfl;unfold zw;rw[MN (by rfl)];show zG (lev k) (aG lev cl (.seq (.ite _ _ _) (.seq (.asg 1 _) (.seq (.ite _ _ _) (.seq _ _)))) [some (aP n W V),none] _)=_;rw[zE,zV];simp only[y8,zu,zl,zh,CG,za,aE,zf,hp,Q8,aX,yr,zg];rw[zE,zL];simp only[zu,zl,zh,zI,zd,za,aE,zf,i0,i1,hq,aX];rw[zS hf];simp only[zg,Qe,Qd];rw[zE,zV];simp only[zD,ze,za,wm,aE,hd,aX,zZ];rw[show ao cl (.tup (.pair (.var 1) .unit)) [some (aP n W V),some d]=.ok (.tup [d])from rfl];simp[zG,hf]
noncomputable def iQ(kx:Nat):Fn:=⟨1,2,(.seq (.asg 1 (.call kx (.pair (.var 0) .unit))) (.ite (.cmp .eq (.blt .len (.pair (.var 1) .unit)) (.lit (.int 0))) (.ret (.lit (.str [115,116,97,116,101]))) (.ret (.idx (.var 1) (.lit (.int 0))))))⟩
def uM (hf:Vl.ax d=true)(h:cl kx [x]=.ok (.tup [d])):zw lev cl k (iQ kx) [x]=.ok d:=by
 unfold zw;rw[MN (by rfl)];show zG (lev k) (aG lev cl (.seq (.asg 1 _) (.ite _ _ _)) [some x,none] _)=_;rw[lm,zL];simp only[zu,zl,zh,za,aE,zf,h,aX];rw[zS (by simp[hf])];simp only[zg,Qe,Qd];rw[zV];simp only[zD,zM,zl,zh,ze,za,zd,aE,zf,Ez,xU];rw[show decide (((([d]:List Dat).length:Nat):Int)=0)=false from rfl];simp only[aX,zZ,zI,ze,za,zd,aE];rw[show yt (.tup [d]) (.int 0)=.ok d from rfl];simp[zG,hf]
structure PM(n:Nat)(W V:Nat->Nat->Int):Prop where
 f:∀i j,i<n->j<=n->W i j=1\/W i j=-1
 g:∀i j,i<=n->j<n->V i j=1\/V i j=-1
def CF (h:PM n W V)(hw:∀r c,r<n->c<n->wr n W V r c=false):AR n W V:=by
 have e:∀r c,r<n->c<n->W r c-W r (c+1)+V r c-V (r+1) c=0/\(c=0->W r 0≠-1)/\(c+1=n->W r n≠1)/\(r=0->V 0 c≠1)/\(r+1=n->V n c≠-1):=by
  intro r c hr hc;have q:=hw r c hr hc;unfold wr at q;simp only[W9,Bool.not_eq_false',Bool.and_eq_false_iff,MU,decide_eq_false_iff_not]at q;obtain⟨a,b,c',d,e⟩:=q;exact⟨a,λz=>b.resolve_left (λw=>w z),λz=>c'.resolve_left (λw=>w z),λz=>d.resolve_left (λw=>w z),λz=>e.resolve_left (λw=>w z)⟩
 refine⟨h.f,h.g,λr c hr hc=>(e r c hr hc).1,λr hr=>?_,λr hr=>?_,λc hc=>?_,λc hc=>?_⟩
 .exact (h.f r 0 hr (by lia)).resolve_right ((e r 0 hr (by lia)).2.1 rfl)
 .exact (h.f r n hr (by lia)).resolve_left ((e r (n-1) hr (by lia)).2.2.1 (by lia))
 .exact (h.g 0 c (by lia) hc).resolve_left ((e 0 c (by lia) hc).2.2.2.1 rfl)
 .exact (h.g n c (by lia) hc).resolve_right ((e (n-1) c (by lia) hc).2.2.2.2 (by lia))
def wV (h:∀i j,i<p->j<q->F i j=G i j):zm p q F=zm p q G:=by
 refine WM λi hi=>WM λj hj=>?_;exact h i j (Q3.mp hi) (Q3.mp hj)
theorem qG:∀{c:Nat},c<=n->(∀j,j<n->2*bL F r j=F r j-F r (j+1))->2*((zN n (bL F) r).take c).sum=F r 0-F r c
 |0,_,_=>by simp
 |c+1,hc,h=>by
  have ih:=qG (F:=F) (r:=r) (c:=c) (by lia) h;have e:((zN n (bL F) r).take (c+1)).sum=((zN n (bL F) r).take c).sum+bL F r c:=gH (by rw[zN,Qn,WN (by lia)];rfl);have:=h c (by lia);lia
def Fj (h:AR n W V):aP (zm n n (bL W)).length (cu (zm n n (bL W))) (cD (zm n n (bL W)))=aP n W V:=by
 have hs:∀r,r<n->∀j,j<n->2*bL W r j=W r j-W r (j+1):=by
  intro r hr j hj;have a:=h.f r j hr (by lia);have b:=h.f r (j+1) hr (by lia);unfold bL;rcases a with a|a<;>rcases b with b|b<;>rw[a,b]<;>decide
 have zkO:∀r,r<n->(zm n n (bL W)).getD r []=zN n (bL W) r:=by
  intro r hr;simp[zm,Qf,hr,zN]
 rw[zW];unfold aP;suffices E:zm n (n+1) (cu (zm n n (bL W)))=zm n (n+1) W/\zm (n+1) n (cD (zm n n (bL W)))=zm (n+1) n V by
  rw[E.1,E.2]
 refine⟨wV λr c hr hc=>?_,wV λr c hr hc=>?_⟩
 .have e:=qG (F:=W) (r:=r) (c:=c) (n:=n) (by lia) (hs r hr);have:=h.left r hr;unfold cu;rw[zkO r hr];lia
 .have key:∀r,r<=n->cD (zm n n (bL W)) r c=V r c:=by
   intro r
   induction r with
   |zero=>intro _;rw[h.top c hc];simp[cD,S]
   |succ r ih=>
    intro hr;have i:=ih (by lia);have hx:(zm n n (bL W))[r]?=some (zN n (bL W) r):=by
     rw[zm,Qn,WN (by lia)];rfl
    have e1:=nk (zm n n (bL W)) r c _ hx;have hg:(zN n (bL W) r).getD c 0=bL W r c:=by
     simp[zN,Qf,hc]
    have:=hs r (by lia) c hc;have:=h.place r c (by lia) hc;unfold cD at i ⊢;rw[e1,hg];lia
  exact key r (by lia)
end
end Lib
namespace Lib
section
variable{cl:Nat->List Wd->Me->Rz}
def hv (h:env[i]?=some (some w)):af cl (.var i) env m=.ok w m:=kM h m
def fb (ha:af cl a env m=.ok x m1)(hb:af cl b env m1=.ok y m2):af cl (.bin op a b) env m=cJ op x y m2:=by
 show(af cl a env m).bind _=_;rw[ha];show(af cl b env m1).bind _=_;rw[hb];rfl
def vp (ha:af cl a env m=.ok x m1)(hb:af cl b env m1=.ok y m2):af cl (.idx a b) env m=vZ x y m2:=by
 show(af cl a env m).bind _=_;rw[ha];show(af cl b env m1).bind _=_;rw[hb];rfl
def mr (ha:af cl a env m=.ok x m1)(hb:af cl b env m1=.ok y m2):af cl (.cmp op a b) env m=cop op x y m2:=by
 show(af cl a env m).bind _=_;rw[ha];show(af cl b env m1).bind _=_;rw[hb];rfl
def vh (h:af cl e env m=.ok w m1):aF cl (.asg i e) env m=.next (env.set i (some w)) m1:=by
 show(af cl e env m).bindS env _=_;rw[h];rfl
def zy (h:aF cl a env m=.next e1 m1):aF cl (.seq a b) env m=aF cl b e1 m1:=by
 show(match aF cl a env m with |.next e1 m1=>aF cl b e1 m1|r=>r)=_;rw[h]
def mq (h:0<j):cJ .mod (.int i) (.int j) m=.ok (.int (i%j)) m:=by
 show(if 0<j then _ else _)=_;rw[MN h]
def pO (h:yJ i=true):cJ .mul (.int i) (.int j) m=.ok (.int (i*j)) m:=by
 show(if(yJ i || yJ j)=true then _ else _)=_;rw[MN (by rw[h];rfl)]
def zX (h:m[l]?=some (.lst ws))(hw:ws[k]?=some w):vZ (.ref l) (.int (k:Nat)) m=.ok w m:=by
 have hk:=(Qa.mp hw).1;have e:yF m (.ref l)=some ws:=by
  show zK m l=_;unfold zK;rw[h]
 show(match yF m (.ref l)with|some xs=>(match (ix xs.length (k:Int)).bind λj=>xs[j]? with|some v=>Rz.ok v m|none=>.no)|none=>.no)=_;rw[e];simp only[ln hk,Wn,hw]
def jX (h:m[l]?=some (.lst ws))(hk:k<ws.length):km (.ref l) (.int (k:Nat)) v m=.ok .non (m.set l (.lst (ws.set k v))):=by
 show(match m[l]? with|some (.lst xs)=>(match ix xs.length (k:Int)with|some j=>Rz.ok .non (m.set l (.lst (xs.set j v)))|none=>.no)|_=>.no)=_;rw[h];simp only[ln hk]
structure PB(n:Nat)(W V:Nat->Nat->Int):Prop where
 f:∀i j,i<n->j<=n->W i j=0\/W i j=1
 g:∀i j,i<=n->j<n->V i j=0\/V i j=1
noncomputable def bA(k0 q:Nat)(m:Me)(l:Nat):Prop:=k0<=l/\∃xs:List Int,m[l]?=some (.lst (xs.map Wd.int))/\xs.length=q/\∀x∈xs,x=0\/x=1
noncomputable def bp(k0 p q:Nat)(m:Me)(l:Nat):Prop:=k0<=l/\∃rs:List Nat,m[l]?=some (.lst (rs.map Wd.ref))/\rs.length=p/\∀r∈rs,bA k0 q m r
def bA.up{k0 q:Nat}{m m':Me}{l:Nat}(h:bA k0 q m l)(k:Le m m'):bA k0 q m' l:=by
 obtain⟨a,xs,b,c⟩:=h;exact⟨a,xs,k _ _ b,c⟩
theorem bp.up{k0 p q:Nat}{m m':Me}{l:Nat}(h:bp k0 p q m l)(k:Le m m'):bp k0 p q m' l:=by
 obtain⟨a,xs,b,c,d⟩:=h;exact⟨a,xs,k _ _ b,c,λr hr=>(d r hr).up k⟩
def bA.get (h:bA k0 q m l)(hi:i<q):∃a:Int,(a=0\/a=1)/\vZ (.ref l) (.int i) m=.ok (.int a) m:=by
 obtain⟨a,xs,b,c,d⟩:=h;have hx:i<xs.length:=by lia
 exact⟨xs[i],d _ (QE hx),zX b (by rw[Qn,Qc hx];rfl)⟩
def xt {b:List Nat}(h:a.map Wd.int=b.map Wd.ref):a=[]:=by
 cases a with
 |nil=>rfl
 |cons x a=>cases b<;>simp at h
noncomputable def bY(m m':Me):Prop:=∀(l:Nat) ws,m[l]?=some (.lst ws)->(∀xs:List Int,xs≠[]->ws≠xs.map Wd.int)->m'[l]?=some (.lst ws)
def bY.of_le{m m':Me}(h:Le m m'):bY m m':=λl ws a _=>h l _ a
def bY.trans{a b c:Me}(h:bY a b)(k:bY b c):bY a c:=λl ws z q=>k l ws (h l ws z q) q
structure Fl(k0:Nat)(m0:Me)(n l0 l1 l2:Nat)(ds:List Int)(m:Me):Prop where
 lo:∀(l:Nat) o,l<k0->m0[l]?=some o->m[l]?=some o
 a:bp k0 n (n+1) m l0
 b:bp k0 (n+1) n m l1
 d:m[l2]?=some (.lst (ds.map Wd.int))
section
variable{k0 n l0 l1 l2:Nat}{m0 m:Me}{ds:List Int}
theorem Fl.up(F:Fl k0 m0 n l0 l1 l2 ds m){m':Me}(k:Le m m'):Fl k0 m0 n l0 l1 l2 ds m':=⟨λl o h z=>k l o (F.lo l o h z),F.a.up k,F.b.up k,k _ _ F.d⟩
def bA.flip{q q':Nat}{l r:Nat}(h:bA k0 q m l)(hr:bA k0 q' m r){ys:List Int}(hl:ys.length=q)(hy:∀y∈ys,y=0\/y=1):bA k0 q' (m.set l (.lst (ys.map Wd.int))) r:=by
 obtain⟨a,xs,b,c,d⟩:=h;obtain⟨a',xs',b',c',d'⟩:=hr;by_cases e:l=r
 .subst e;rw[b]at b';have e1:xs=xs':=kN (by simpa using b');subst e1;exact⟨a,ys,by rw[QO (Qa.mp b).1],by lia,hy⟩
 .exact ⟨a',xs',by rw[Qg e];exact b',c',d'⟩
theorem bp.flip{p q q':Nat}{l t:Nat}(h:bA k0 q m l)(hq:0<q)(ht:bp k0 p q' m t){ys:List Int}(hl:ys.length=q)(hy:∀y∈ys,y=0\/y=1):bp k0 p q' (m.set l (.lst (ys.map Wd.int))) t:=by
 obtain⟨a,rs,b,c,d⟩:=ht;refine⟨a,rs,?_,c,λr hr=>h.flip (d r hr) hl hy⟩;rw[Qg]
 .exact b
 .rintro rfl;obtain⟨_,xs,b',c',_⟩:=h;rw[b]at b';have e:xs.map Wd.int=rs.map Wd.ref:=by simpa using b'.symm
  rw[xt e]at c';simp at c';lia
theorem Fl.flip(F:Fl k0 m0 n l0 l1 l2 ds m)(hd:ds.length=21){q l:Nat}(h:bA k0 q m l)(h0:0<q)(h1:q<=13){ys:List Int}(hl:ys.length=q)(hy:∀y∈ys,y=0\/y=1):Fl k0 m0 n l0 l1 l2 ds (m.set l (.lst (ys.map Wd.int)))/\bY m (m.set l (.lst (ys.map Wd.int))):=by
 obtain⟨a,xs,b,c,d⟩:=id h;refine⟨⟨λk o hk z=>?_,bp.flip h h0 F.a hl hy,bp.flip h h0 F.b hl hy,?_⟩,λk ws z hw=>?_⟩
 .rw[Qg (by lia)];exact F.lo k o hk z
 .rw[Qg]
  .exact F.d
  .rintro rfl;have z:=F.d;rw[b]at z;have e1:xs=ds:=kN (by simpa using z);rw[e1]at c;lia
 .rw[Qg]
  .exact z
  .rintro rfl;rw[b]at z;refine hw xs (λe=>by rw[e]at c;simp at c;lia) ?_;simpa using z.symm
def Fl.put (F:Fl k0 m0 n l0 l1 l2 ds m)(hr:bA k0 n m r)(hn:0<n)(hi:i<n+1):∃m',km (.ref l1) (.int i) (.ref r) m=.ok .non m'/\Fl k0 m0 n l0 l1 l2 ds m':=by
 obtain⟨a,rs,b,c,d⟩:=F.b;obtain⟨a0,rs0,b0,c0,d0⟩:=F.a;refine⟨_,jX b (by simp;lia),?_⟩;have row:∀{q s},0<q->bA k0 q m s->bA k0 q (m.set l1 (.lst ((rs.map Wd.ref).set i (.ref r)))) s:=by
  rintro q s hq ⟨x,xs,y,z,w⟩;refine⟨x,xs,?_,z,w⟩;rw[Qg]
  .exact y
  .rintro rfl;rw[b]at y;have e:xs.map Wd.int=rs.map Wd.ref:=by simpa using y.symm
   rw[xt e]at z;simp at z;lia
 have keep:∀{l:Nat}{ws:List Wd},ws≠rs.map Wd.ref->m[l]?=some (.lst ws)->(m.set l1 (.lst ((rs.map Wd.ref).set i (.ref r))))[l]?=some (.lst ws):=by
  intro l ws hw z;rw[Qg]
  .exact z
  .rintro rfl;rw[b]at z;exact hw (by simpa using z.symm)
 refine⟨λk o hk z=>?_,⟨a0,rs0,keep ?_ b0,c0,λs hs=>row (by lia) (d0 s hs)⟩,⟨a,rs.set i r,?_,by simpa using c,λs hs=>?_⟩,keep ?_ F.d⟩
 .rw[Qg (by lia)];exact F.lo k o hk z
 .intro e;have:=MQ List.length e;simp at this;lia
 .rw[QO (Qa.mp b).1,List.map_set]
 .rcases Wx hs with h|rfl
  .exact row hn (d s h)
  .exact row hn hr
 .intro e;rw[xt e]at e;have:=MQ List.length e;simp at this;lia
end
end
end Lib
namespace Lib
section
variable{cl:Nat->List Wd->Me->Rz}{cd:Nat->List Dat->Rd}
theorem jA (P:Nat->En->Me->Prop)(hs:∀i env m,i<p->P i env m->∃xs x e1 m1,zK m l=some xs/\xs[i]?=some x/\body x env m=.next e1 m1/\P (i+1) e1 m1)(he:∀env m,P p env m->∃xs,zK m l=some xs/\xs.length<=p):
  ∀(j i f:Nat) (env:En) (m:Me),i+j=p->j<f->P i env m->∃e' m',wc body l f i env m=.next e' m'/\P p e' m'
 |j,i,0,env,m,_,h,_=>by lia
 |0,i,f+1,env,m,h,_,hp=>by
  obtain rfl:i=p:=by lia
  obtain⟨xs,e,hl⟩:=he env m hp;refine⟨env,m,?_,hp⟩;unfold wc;rw[e];simp only[Qq hl]
 |j+1,i,f+1,env,m,h,hf,hp=>by
  obtain⟨xs,x,e1,m1,a,b,c,d⟩:=hs i env m (by lia) hp;obtain⟨e',m',q,z⟩:=jA P hs he j (i+1) f e1 m1 (by lia) (by lia) d;refine⟨e',m',?_,z⟩;unfold wc;rw[a];simp only[b,c];exact q
theorem qH (P:En->Me->Prop):∀(xs:List Wd),(∀x∈xs,∀env m,P env m->∃e1 m1,body x env m=.next e1 m1/\P e1 m1)->∀env m,P env m->∃e' m',ww body xs env m=.next e' m'/\P e' m'
 |[],_,env,m,h=>⟨env,m,rfl,h⟩
 |x::xs,hs,env,m,h=>by
  obtain⟨e1,m1,a,b⟩:=hs x (by simp) env m h;obtain⟨e',m',c,d⟩:=qH P xs (λy hy=>hs y (by simp[hy])) e1 m1 b;refine⟨e',m',?_,d⟩;unfold ww;rw[a];exact c
def xL (h:m[l]?=some (.lst ws)):zK m l=some ws:=by
 unfold zK;rw[h]
def hlen (h:env[j]?=some (some (.ref l)))(hm:m[l]?=some (.lst ws)):af cl (.blt .len (.pair (.var j) .unit)) env m=.ok (.int ws.length) m:=by
 show(((af cl (.var j) env m).bind _).bind _)=_;rw[hv h];show(match yF m (.ref l)with|some xs=>Rz.ok (.int xs.length) m|none=>.no)=_;rw[show yF m (.ref l)=some ws from xL hm]
variable{k0 n l0 l1 l2:Nat}{m0 m:Me}{ds:List Int}
def nJ (H:aU cl cd)(h22:∀a:Int,cd 27 [.int a]=.ok (.int (1-a)))(F:Fl k0 m0 n l0 l1 l2 ds m)(hd:ds.length=21)(hr:bA k0 q m r)(h1:q<=13)(hi:i<q)(hO:∀m',Le m m'->af cl O env m'=.ok (.ref r) m')(hI:∀m',af cl I env m'=.ok (.int (i:Nat)) m'):
  ∃m',aF cl (.asgS O I (.call 27 (.pair (.idx O I) .unit))) env m=.next env m'/\Fl k0 m0 n l0 l1 l2 ds m'/\bY m m':=by
 obtain⟨a,ha,ea⟩:=hr.get hi;have e1:af cl (.pair (.idx O I) .unit) env m=.ok (.tup [.int a]) m:=by
  show(af cl (.idx O I) env m).bind _=_;rw[vp (hO m (Le.refl m)) (hI m),ea];rfl
 have s:=H 27 [.int a] [.int a] (λ_=>True) m (.cons (aa.mpr rfl) .nil);rw[h22]at s;obtain⟨w,m1,e2,k,rr⟩:=s;obtain rfl:=aa.mp rr;obtain⟨a',xs,b,c,d⟩:=hr.up k;refine⟨m1.set r (.lst ((xs.map Wd.int).set i (.int (1-a)))),?_,?_⟩
 .show (af cl (.call 27 (.pair (.idx O I) .unit)) env m).bindS env _=_;rw[show af cl (.call 27 (.pair (.idx O I) .unit)) env m=.ok (.int (1-a)) m1 from by
   show(af cl (.pair (.idx O I) .unit) env m).bind _=_;rw[e1];exact e2]
  show(af cl O env m1).bindS env _=_;rw[hO m1 k];show(af cl I env m1).bindS env _=_;rw[hI m1];show(km _ _ _ m1).bindS env _=_;rw[jX b (by simp;lia)];rfl
 .rw[show(xs.map Wd.int).set i (.int (1-a))=(xs.set i (1-a)).map Wd.int from by rw[List.map_set]];have:=(F.up k).flip hd (hr.up k) (by lia) h1 (ys:=xs.set i (1-a)) (by simpa using c) (λy hy=>by
   rcases Wx hy with z|rfl
   .exact d y z
   .lia)
  exact⟨this.1,(bY.of_le k).trans this.2⟩
def ft (hm:m[l2]?=some (.lst (ds.map Wd.int)))(hd:ds.length=21)(h2:env[2]?=some (some (.ref l2)))(hE:af cl E env m=.ok (.int (i:Nat)) m)(hi:i<21)(hG:af cl G env m=.ok (.int (q:Nat)) m)(hq:0<q):∃v:Nat,v<q/\af cl (.bin .mod (.idx (.var 2) E) G) env m=.ok (.int (v:Nat)) m:=by
 have hx:i<ds.length:=by lia
 have h0:=W5 (ds[i]) (b:=(q:Int)) (by lia);have h1:=WU (ds[i]) (b:=(q:Int)) (by lia);refine⟨(ds[i] % (q:Int)).toNat,by lia,?_⟩;have e1:af cl (.idx (.var 2) E) env m=.ok (.int ds[i]) m:=by
  rw[vp (hv h2) hE];exact zX hm (by rw[Qn,Qc hx];rfl)
 rw[fb e1 hG,mq (by lia)];congr 2;lia
noncomputable def Tb(n l0 l1 lt p q:Nat):Prop:=(lt=l0/\p=n/\q=n+1)\/(lt=l1/\p=n+1/\q=n)
def Fl.tab (F:Fl k0 m0 n l0 l1 l2 ds m)(h:Tb n l0 l1 lt p q):bp k0 p q m lt:=by
 rcases h with⟨rfl,rfl,rfl⟩|⟨rfl,rfl,rfl⟩
 .exact F.a
 .exact F.b
def gM (H:aU cl cd)(h22:∀a:Int,cd 27 [.int a]=.ok (.int (1-a)))(F:Fl k0 m0 n l0 l1 l2 ds m)(hd:ds.length=21)(hn:n<=12)(ht:Tb n l0 l1 lt p q)(ha:a<p)(hb:b<q)(hX:∀m',af cl X env m'=.ok (.ref lt) m')(hY:∀m',af cl Y env m'=.ok (.int (a:Nat)) m')(hZ:∀m',af cl Z env m'=.ok (.int (b:Nat)) m'):
  ∃m',aF cl (.asgS (.idx X Y) Z (.call 27 (.pair (.idx (.idx X Y) Z) .unit))) env m=.next env m'/\Fl k0 m0 n l0 l1 l2 ds m'/\bY m m':=by
 obtain⟨_,rs,e,c,d⟩:=F.tab ht;have hx:a<rs.length:=by lia
 have hq:q<=13:=by rcases ht with⟨_,_,rfl⟩|⟨_,_,rfl⟩<;>lia
 refine nJ H h22 F hd (d rs[a] (QE hx)) hq hb (λm' k=>?_) hZ;rw[vp (hX m') (hY m')];exact zX (k _ _ e) (by rw[Qn,Qc hx];rfl)
abbrev Ev(n l0 l1 l2:Nat)(kd:Int)(i6 i7:Nat)(a8 a9 a10 a11 a12 a13 a14:Option Wd):En:=[some (.tup [.ref l0,.ref l1]),some (.int kd),some (.ref l2),some (.ref l0),some (.ref l1),some (.int n),some (.int i6),some (.int i7),a8,a9,a10,a11,a12,a13,a14]
noncomputable def Q7(k0:Nat)(m0:Me)(n l0 l1 l2:Nat)(ds:List Int)(kd:Int)(i6 i7:Nat)(e:En)(m:Me):Prop:=(∃a8 a9 a10 a11 a12 a13 a14,e=Ev n l0 l1 l2 kd i6 i7 a8 a9 a10 a11 a12 a13 a14)/\Fl k0 m0 n l0 l1 l2 ds m
noncomputable def Go(cl:Nat->List Wd->Me->Rz)(P:En->Me->Prop)(s:Sm)(env:En)(m:Me):Prop:=∃e' m',aF cl s env m=.next e' m'/\P e' m'
theorem Go.seq{P Q:En->Me->Prop}{a b:Sm}{env:En}{m:Me}(h:Go cl P a env m)(k:∀e m,P e m->Go cl Q b e m):Go cl Q (.seq a b) env m:=by
 obtain⟨e1,m1,x,y⟩:=h;obtain⟨e2,m2,z,w⟩:=k e1 m1 y;exact⟨e2,m2,by rw[zy x];exact z,w⟩
theorem Go.ite{P:En->Me->Prop}{kd c:Int}{S:Sm}{env:En}{m:Me}(h1:env[1]?=some (some (.int kd)))(hS:kd=c->Go cl P S env m)(hK:P env m):Go cl P (.ite (.cmp .eq (.var 1) (.lit (.int c))) S .skip) env m:=by
 have e:aF cl (.ite (.cmp .eq (.var 1) (.lit (.int c))) S .skip) env m=if kd=c then aF cl S env m else .next env m:=by
  show(af cl (.cmp .eq (.var 1) (.lit (.int c))) env m).bindS env _=_;rw[mr (hv h1) (show af cl (.lit (.int c)) env m=.ok (.int c) m from rfl),show cop .eq (.int kd) (.int c) m=.ok (.bl (decide (kd=c))) m from rfl];by_cases z:kd=c
  .rw[MN z,MS z];rfl
  .rw[MO z,MR z];rfl
 by_cases z:kd=c
 .obtain ⟨a,b,x,y⟩:=hS z;exact⟨a,b,by rw[e,MN z];exact x,y⟩
 .exact ⟨env,m,by rw[e,MO z],hK⟩
variable{kd:Int}{i6 i7:Nat}
noncomputable def lN:Sm:=(.seq (.asg 9 (.idx (.var 0) (.bin .mod (.idx (.var 2) (.bin .add (.bin .mul (.lit (.int 3)) (.var 8)) (.lit (.int 3)))) (.lit (.int 2))))) (.seq (.asg 10 (.idx (.var 9) (.bin .mod (.idx (.var 2) (.bin .add (.bin .mul (.lit (.int 3)) (.var 8)) (.lit (.int 4)))) (.blt .len (.pair (.var 9) .unit))))) (.seq (.asg 11 (.bin .mod (.idx (.var 2) (.bin .add (.bin .mul (.lit (.int 3)) (.var 8)) (.lit (.int 5)))) (.blt .len (.pair (.var 10) .unit)))) (.asgS (.var 10) (.var 11) (.call 27 (.pair (.idx (.var 10) (.var 11)) .unit))))))
def mX (h:env[8]?=some (some (.int (j:Nat)))):af cl (.bin .add (.bin .mul (.lit (.int 3)) (.var 8)) (.lit (.int (c:Nat)))) env m=.ok (.int ((3*j+c:Nat):Int)) m:=by
 have e:af cl (.bin .mul (.lit (.int 3)) (.var 8)) env m=.ok (.int (3*(j:Int))) m:=by
  rw[fb (show af cl (.lit (.int 3)) env m=.ok (.int 3) m from rfl) (hv h),pO (by decide)]
 rw[fb e (show af cl (.lit (.int (c:Nat))) env m=.ok (.int (c:Nat)) m from rfl)];show Rz.ok (.int (3*(j:Int)+(c:Int))) m=_;congr 2
def CC (H:aU cl cd)(h22:∀a:Int,cd 27 [.int a]=.ok (.int (1-a)))(hd:ds.length=21)(h1:1<=n)(hn:n<=12)(h:Q7 k0 m0 n l0 l1 l2 ds kd i6 i7 e m)(hj:j<6):Go cl (Q7 k0 m0 n l0 l1 l2 ds kd i6 i7) lN (e.set 8 (some (.int (j:Nat)))) m:=by
 obtain⟨⟨a8,a9,a10,a11,a12,a13,a14,rfl⟩,F⟩:=h;show Go cl _ lN (Ev n l0 l1 l2 kd i6 i7 (some (.int (j:Nat))) a9 a10 a11 a12 a13 a14) m;obtain⟨v,hv2,e1⟩:=ft (cl:=cl) F.d hd (env:=Ev n l0 l1 l2 kd i6 i7 (some (.int (j:Nat))) a9 a10 a11 a12 a13 a14) rfl (mX (c:=3) rfl) (by lia) (G:=.lit (.int 2)) (q:=2) rfl (by lia);obtain⟨lt,p,q,ht,ei⟩:∃lt p q,Tb n l0 l1 lt p q/\vZ (.tup [.ref l0,.ref l1]) (.int (v:Nat)) m=.ok (.ref lt) m:=by
  match v,hv2 with
  |0,_=>exact⟨l0,n,n+1,.inl ⟨rfl,rfl,rfl⟩,rfl⟩
  |1,_=>exact⟨l1,n+1,n,.inr ⟨rfl,rfl,rfl⟩,rfl⟩
 have hp:0<p/\0<q/\q<=13:=by rcases ht with⟨_,rfl,rfl⟩|⟨_,rfl,rfl⟩<;>lia
 have s1:=vh (i:=9) ((vp (show af cl (.var 0) (Ev n l0 l1 l2 kd i6 i7 (some (.int (j:Nat))) a9 a10 a11 a12 a13 a14) m=.ok (.tup [.ref l0,.ref l1]) m from rfl) e1).trans ei);obtain⟨_,rs,tb,tc,td⟩:=F.tab ht;obtain⟨u,hu,e2⟩:=ft (cl:=cl) F.d hd (env:=Ev n l0 l1 l2 kd i6 i7 (some (.int (j:Nat))) (some (.ref lt)) a10 a11 a12 a13 a14) rfl (mX (c:=4) rfl) (by lia) (G:=.blt .len (.pair (.var 9) .unit)) (q:=p) (by rw[hlen (l:=lt) rfl tb];simp[tc]) hp.1;have hx:u<rs.length:=by lia
 have s2:=vh (i:=10) ((vp (show af cl (.var 9) (Ev n l0 l1 l2 kd i6 i7 (some (.int (j:Nat))) (some (.ref lt)) a10 a11 a12 a13 a14) m=.ok (.ref lt) m from rfl) e2).trans (zX tb (by rw[Qn,Qc hx];rfl)));have hr:=td rs[u] (QE hx);obtain⟨_,xs,rb,rc,rd⟩:=id hr;obtain⟨i,hi,e3⟩:=ft (cl:=cl) F.d hd (env:=Ev n l0 l1 l2 kd i6 i7 (some (.int (j:Nat))) (some (.ref lt)) (some (.ref rs[u])) a11 a12 a13 a14) rfl (mX (c:=5) rfl) (by lia) (G:=.blt .len (.pair (.var 10) .unit)) (q:=q) (by rw[hlen (l:=rs[u]) rfl rb];simp[rc]) hp.2.1;obtain⟨m',s4,F',_⟩:=nJ H h22 F hd hr hp.2.2 hi (O:=.var 10) (I:=.var 11) (env:=Ev n l0 l1 l2 kd i6 i7 (some (.int (j:Nat))) (some (.ref lt)) (some (.ref rs[u])) (some (.int (i:Nat))) a12 a13 a14) (λm' _=>rfl) (λm'=>rfl);refine⟨_,m',Eq.trans ?_ s4,⟨_,_,_,_,_,_,_,rfl⟩,F'⟩;exact(zy s1).trans ((zy s2).trans (zy (vh (i:=11) e3)))
end
end Lib
namespace Lib
section
variable{cl:Nat->List Wd->Me->Rz}{cd:Nat->List Dat->Rd}
noncomputable def Sl(R:Nat->Prop)(m:Me)(d:Option Dat)(w:Option Wd):Prop:=∀x,d=some x->∃u,w=some u/\ai R m x u
noncomputable def bD(R:Nat->Prop)(m:Me)(de:aO)(env:En):Prop:=de.length=env.length/\∀(i:Nat) d,de[i]?=some (some d)->∃w,env[i]?=some (some w)/\ai R m d w
def bD.nil{R:Nat->Prop}{m:Me}:bD R m [] []:=⟨rfl,λi d h=>by simp at h⟩
def bD.cons{R:Nat->Prop}{m:Me}{de:aO}{env:En}{d:Option Dat}{w:Option Wd}(h:Sl R m d w)(k:bD R m de env):bD R m (d::de) (w::env):=by
 refine⟨by simp[k.1],λi x hx=>?_⟩;cases i with
 |zero=>
  obtain⟨u,rfl,q⟩:=h x (by simpa using hx);exact⟨u,rfl,q⟩
 |succ i=>exact k.2 i x (by simpa using hx)
def aK:Sl R m none w:=λ_ h=>by cases h
def lK:Sl R m (some (.int i)) (some (.int i)):=λ_ h=>by cases h;exact⟨_,rfl,aa.mpr rfl⟩
def Jo:Sl R m (some (.scr ns)) (some (.rol (ns.map Wd.int))):=λ_ h=>by cases h;exact⟨_,rfl,aY.mpr rfl⟩
def vK (q:ai R m d w):Sl R m (some d) (some w):=λ_ h=>by cases h;exact⟨_,rfl,q⟩
def xN (H:aU cl cd)(q:bD R m de env)(h:ao cd e de=.ok d):∃w m',af cl e env m=.ok w m'/\Le m m'/\ai (Rf R m.length) m' d w:=by
 have s:=zj H e R m de env ⟨q.1,λi _ d z=>q.2 i d z⟩;rw[h]at s;exact s
theorem k8:∀(rs:List Nat),(∀r∈rs,bA k0 q m r)->∃A:List (List Int),A.length=rs.length/\(∀x∈A,x.length=q/\∀v∈x,v=0\/v=1)/\ae (λl=>k0<=l) m (A.map row) (rs.map Wd.ref)
 |[],_=>⟨[],rfl,(λx h=>by cases h),ae.nil⟩
 |r::rs,h=>by
  obtain⟨A,a,b,c⟩:=k8 rs λx hx=>h x (by simp[hx]);obtain⟨k,xs,e,f,g⟩:=h r (by simp);refine⟨xs::A,by simp[a],λx hx=>?_,.cons (au.mpr ⟨r,_,rfl,k,e,dI xs⟩) c⟩;rcases Qr.mp hx with rfl|hx
  .exact ⟨f,g⟩
  .exact b x hx
def bp.rep (h:bp k0 p q m l):∃A:List (List Int),A.length=p/\(∀x∈A,x.length=q/\∀v∈x,v=0\/v=1)/\ai (λl=>k0<=l) m (ak A) (.ref l):=by
 obtain⟨a,rs,b,c,d⟩:=h;obtain⟨A,e,f,g⟩:=k8 rs d;exact⟨A,by lia,f,au.mpr ⟨l,_,rfl,a,b,g⟩⟩
theorem jB:∀{l:List Int}{xs:List Wd},ae R m (l.map Dat.int) xs->xs=l.map Wd.int
 |[],_,h=>h.nil_inv
 |i::l,_,h=>by
  obtain⟨x,r,rfl,a,b⟩:=ae.cons_inv (show ae R m (.int i::l.map Dat.int) _ from h);rw[aa.mp a,jB b];rfl
def Ak (h:ai R m (row x) w)(hR:∀l,R l->k0<=l)(hq:x.length=q)(hx:∀v∈x,v=0\/v=1):∃l,w=.ref l/\bA k0 q m l:=by
 obtain⟨l,xs,rfl,a,b,c⟩:=au.mp h;obtain rfl:=jB c;exact⟨l,rfl,hR l a,x,b,hq,hx⟩
theorem qI (hR:∀l,R l->k0<=l):∀{A:List (List Int)}{ws:List Wd},(∀x∈A,x.length=q/\∀v∈x,v=0\/v=1)->ae R m (A.map row) ws->∃rs:List Nat,ws=rs.map Wd.ref/\rs.length=A.length/\∀r∈rs,bA k0 q m r
 |[],_,_,h=>⟨[],by rw[h.nil_inv];rfl,rfl,λr h=>by cases h⟩
 |x::A,_,hx,h=>by
  obtain⟨w,r,rfl,a,b⟩:=ae.cons_inv (show ae R m (row x::A.map row) _ from h);obtain⟨l,rfl,q⟩:=Ak a hR (hx x (by simp)).1 (hx x (by simp)).2;obtain⟨rs,rfl,c,d⟩:=qI hR (λy hy=>hx y (by simp[hy])) b;refine⟨l::rs,rfl,by simp[c],λs hs=>?_⟩;rcases Qr.mp hs with rfl|hs
  .exact q
  .exact d s hs
def Aj (h:ai R m (ak A) w)(hR:∀l,R l->k0<=l)(hp:A.length=p)(hx:∀x∈A,x.length=q/\∀v∈x,v=0\/v=1):∃l,w=.ref l/\bp k0 p q m l:=by
 obtain⟨l,xs,rfl,a,b,c⟩:=au.mp h;obtain⟨rs,rfl,d,e⟩:=qI hR hx c;exact⟨l,rfl,hR l a,rs,b,by lia,e⟩
variable{k0 n l0 l1 l2:Nat}{m0 m:Me}{ds:List Int}{kd:Int}{i6 i7:Nat}
abbrev QQ(k0:Nat)(m0:Me)(n l0 l1 l2:Nat)(ds:List Int)(kd:Int)(i6 i7:Nat):=Q7 k0 m0 n l0 l1 l2 ds kd i6 i7
noncomputable def pE:Sm:=.forv 8 (.rng (.lit (.int 0)) (.bin .add (.lit (.int 1)) (.bin .mod (.idx (.var 2) (.lit (.int 2))) (.lit (.int 6)))) (.lit (.int 1))) lN
theorem Ai:∀(k:Nat) (lo:Int) (x:Wd),x∈jN lo 1 k->∃j:Nat,j<k/\x=.int (lo+(j:Int))
 |0,lo,x,h=>by cases h
 |k+1,lo,x,h=>by
  rcases Qr.mp (show x∈.int lo::jN (lo+1) 1 k from h)with rfl|h
  .exact ⟨0,by lia,by simp⟩
  .obtain ⟨j,a,rfl⟩:=Ai k (lo+1) x h;exact⟨j+1,by lia,by congr 1;lia⟩
def CB (H:aU cl cd)(h22:∀a:Int,cd 27 [.int a]=.ok (.int (1-a)))(hd:ds.length=21)(h1:1<=n)(hn:n<=12)(h:QQ k0 m0 n l0 l1 l2 ds kd i6 i7 e m):Go cl (QQ k0 m0 n l0 l1 l2 ds kd i6 i7) pE e m:=by
 obtain⟨⟨a8,a9,a10,a11,a12,a13,a14,rfl⟩,F⟩:=id h;obtain⟨v,hv6,e1⟩:=ft (cl:=cl) F.d hd (env:=Ev n l0 l1 l2 kd i6 i7 a8 a9 a10 a11 a12 a13 a14) rfl (E:=.lit (.int 2)) (i:=2) rfl (by lia) (G:=.lit (.int 6)) (q:=6) rfl (by lia);have e2:af cl (.rng (.lit (.int 0)) (.bin .add (.lit (.int 1)) (.bin .mod (.idx (.var 2) (.lit (.int 2))) (.lit (.int 6)))) (.lit (.int 1))) (Ev n l0 l1 l2 kd i6 i7 a8 a9 a10 a11 a12 a13 a14) m=.ok (.tup (jN 0 1 (v+1))) m:=by
  show((af cl (.bin .add (.lit (.int 1)) (.bin .mod (.idx (.var 2) (.lit (.int 2))) (.lit (.int 6)))) _ m).bind λy m2=>fm (.int 0) y (.int 1) m2)=_;rw[fb (show af cl (.lit (.int 1)) _ m=.ok (.int 1) m from rfl) e1];show fm (.int 0) (.int (1+(v:Int))) (.int 1) m=_;show(if -(aq:Int)<=0/\(0:Int)<=aq/\-(aq:Int)<=1+(v:Int)/\1+(v:Int)<=aq/\((1:Int)=1\/(1:Int)=-1\/(1:Int)=-2)then Rz.ok (.tup (jN 0 1 (v6 0 (1+(v:Int)) 1))) m else .no)=_;rw[MN (by unfold aq;lia),show v6 0 (1+(v:Int)) 1=v+1 from by unfold v6;rw[MN rfl];lia]
 obtain⟨e',m',x,y⟩:=qH (body:=λx e m=>aF cl lN (e.set 8 (some x)) m) (QQ k0 m0 n l0 l1 l2 ds kd i6 i7) (jN 0 1 (v+1)) (λx hx env m hp=>by
  obtain⟨j,hj,rfl⟩:=Ai _ _ _ hx;have q:=CC H h22 hd h1 hn hp (j:=j) (by lia);rw[show(0:Int)+(j:Int)=(j:Int) by lia];exact q) _ m h
 refine⟨e',m',?_,y⟩;unfold pE;show(af cl _ _ m).bindS _ _=_;rw[e2];exact x
noncomputable def AT:Sm:=.asgS (.idx (.var 9) (.var 12)) (.var 13) (.call 27 (.pair (.idx (.idx (.var 9) (.var 12)) (.var 13)) .unit))
noncomputable def pD:Ex:=.lst (.pair (.tup (.pair (.var 3) (.pair (.var 6) (.pair (.var 7) .unit)))) (.pair (.tup (.pair (.var 3) (.pair (.var 6) (.pair (.bin .add (.var 7) (.lit (.int 1))) .unit)))) (.pair (.tup (.pair (.var 4) (.pair (.var 6) (.pair (.var 7) .unit)))) (.pair (.tup (.pair (.var 4) (.pair (.bin .add (.var 6) (.lit (.int 1))) (.pair (.var 7) .unit)))) .unit))))
noncomputable def pB:Sm:=.for3 9 12 13 pD AT
noncomputable def dP(l0 l1 i6 i7:Nat):List (Nat×Nat×Nat):=[(l0,i6,i7),(l0,i6,i7+1),(l1,i6,i7),(l1,i6+1,i7)]
noncomputable def fj(x:Nat×Nat×Nat):Wd:=.tup [.ref x.1,.int (x.2.1:Nat),.int (x.2.2:Nat)]
def CA (H:aU cl cd)(h22:∀a:Int,cd 27 [.int a]=.ok (.int (1-a)))(hd:ds.length=21)(hn:n<=12)(h6:i6<n)(h7:i7<n)(h:QQ k0 m0 n l0 l1 l2 ds kd i6 i7 e m):Go cl (QQ k0 m0 n l0 l1 l2 ds kd i6 i7) pB e m:=by
 obtain⟨⟨a8,a9,a10,a11,a12,a13,a14,rfl⟩,F⟩:=id h;have e1:af cl pD (Ev n l0 l1 l2 kd i6 i7 a8 a9 a10 a11 a12 a13 a14) m=.ok (.ref m.length) (m++[.lst ((dP l0 l1 i6 i7).map fj)]):=by
  have hz:([.tup [.ref l0,.int i6,.int i7],.tup [.ref l0,.int i6,.int ((i7:Int)+1)],.tup [.ref l1,.int i6,.int i7],.tup [.ref l1,.int ((i6:Int)+1),.int i7]]:List Wd)=(dP l0 l1 i6 i7).map fj:=by
   simp[dP,fj]
  rw[<-hz];have hl:(4:Nat)<=aq:=by decide
  have h3:(3:Nat)<=aq:=by decide
  rfl
 have ht:∀x∈dP l0 l1 i6 i7,∃p q,Tb n l0 l1 x.1 p q/\x.2.1<p/\x.2.2<q:=by
  intro x hx;simp only[dP,Qr,Wv,or_false]at hx;rcases hx with rfl|rfl|rfl|rfl
  .exact ⟨n,n+1,.inl ⟨rfl,rfl,rfl⟩,h6,by simp;lia⟩
  .exact ⟨n,n+1,.inl ⟨rfl,rfl,rfl⟩,h6,by simp;lia⟩
  .exact ⟨n+1,n,.inr ⟨rfl,rfl,rfl⟩,by simp;lia,h7⟩
  .exact ⟨n+1,n,.inr ⟨rfl,rfl,rfl⟩,by simp;lia,h7⟩
 have hk:∀xs:List Int,xs≠[]->(dP l0 l1 i6 i7).map fj≠xs.map Wd.int:=by
  intro xs hx he;cases xs with
  |nil=>exact hx rfl
  |cons a xs=>simp[dP,fj]at he
 have F1:Fl k0 m0 n l0 l1 l2 ds (m++[.lst ((dP l0 l1 i6 i7).map fj)]):=F.up (Le.app _ _);obtain⟨e',m',x,y,_⟩:=jA (body:=yN (iV 9 12 13) (aF cl AT)) (l:=m.length) (λ_ e m'=>QQ k0 m0 n l0 l1 l2 ds kd i6 i7 e m'/\m'[m.length]?=some (.lst ((dP l0 l1 i6 i7).map fj))) (p:=4) (λi env m1 hi hp=>by
   obtain⟨⟨⟨b8,b9,b10,b11,b12,b13,b14,rfl⟩,F'⟩,hm⟩:=hp;have hx:i<(dP l0 l1 i6 i7).length:=hi;obtain⟨p,q,tb,ha,hb⟩:=ht _ (QE hx);generalize hz:(dP l0 l1 i6 i7)[i]=z at tb ha hb;obtain⟨m2,s,F2,K⟩:=gM H h22 F' hd hn tb ha hb (X:=.var 9) (Y:=.var 12) (Z:=.var 13) (env:=Ev n l0 l1 l2 kd i6 i7 b8 (some (.ref z.1)) b10 b11 (some (.int (z.2.1:Nat))) (some (.int (z.2.2:Nat))) b14) (λ_=>rfl) (λ_=>rfl) (λ_=>rfl);exact⟨_,fj z,_,m2,xL hm,by rw[Qn,Qc hx,hz];rfl,s,⟨⟨_,_,_,_,_,_,_,rfl⟩,F2⟩,K _ _ hm hk⟩)
  (λenv m1 hp=>⟨_,xL hp.2,W2 rfl⟩) 4 0 (aq+1) (Ev n l0 l1 l2 kd i6 i7 a8 a9 a10 a11 a12 a13 a14) _ rfl (by unfold aq;lia) ⟨⟨⟨_,_,_,_,_,_,_,rfl⟩,F1⟩,by rw[Qo (Qk _)];simp⟩
 refine⟨e',m',?_,y⟩;unfold pB;show(af cl pD _ m).bindS _ _=_;rw[e1];exact x
noncomputable def mn:Ex:=.idx (.lst (.pair (.lit (.int 0)) (.pair (.var 5) .unit))) (.bin .mod (.idx (.var 2) (.lit (.int 2))) (.lit (.int 2)))
def tq (F:Fl k0 m0 n l0 l1 l2 ds m)(hd:ds.length=21):∃j m',j<=n/\Le m m'/\af cl mn (Ev n l0 l1 l2 kd i6 i7 a8 a9 a10 a11 a12 a13 a14) m=.ok (.int (j:Nat)) m':=by
 have F1:Fl k0 m0 n l0 l1 l2 ds (m++[.lst [.int 0,.int n]]):=F.up (Le.app _ _);obtain⟨v,hv2,e1⟩:=ft (cl:=cl) F1.d hd (env:=Ev n l0 l1 l2 kd i6 i7 a8 a9 a10 a11 a12 a13 a14) rfl (E:=.lit (.int 2)) (i:=2) rfl (by lia) (G:=.lit (.int 2)) (q:=2) rfl (by lia);have e2:af cl (.lst (.pair (.lit (.int 0)) (.pair (.var 5) .unit))) (Ev n l0 l1 l2 kd i6 i7 a8 a9 a10 a11 a12 a13 a14) m=.ok (.ref m.length) (m++[.lst [.int 0,.int n]]):=rfl;have hm:(m++[Ob.lst [.int 0,.int n]])[m.length]?=some (.lst [.int 0,.int n]):=by rw[Qo (Qk _)];simp
 match v,hv2 with
 |0,_=>exact⟨0,_,by lia,Le.app _ _,(vp e2 e1).trans (zX hm rfl)⟩
 |1,_=>exact⟨n,_,by lia,Le.app _ _,(vp e2 e1).trans (zX hm rfl)⟩
noncomputable def pA:Sm:=.seq (.asg 14 mn) (.asgS (.var 4) (.var 14) (.comp (.call 27 (.pair (.var 15) .unit)) (.idx (.var 4) (.var 14)) (.lit (.bl true))))
def Cz (H:aU cl cd)(h22:∀a:Int,cd 27 [.int a]=.ok (.int (1-a)))(hd:ds.length=21)(h1:1<=n)(hn:n<=12)(h:QQ k0 m0 n l0 l1 l2 ds kd i6 i7 e m)(hk:k0<=m.length):Go cl (QQ k0 m0 n l0 l1 l2 ds kd i6 i7) pA e m:=by
 obtain⟨⟨a8,a9,a10,a11,a12,a13,a14,rfl⟩,F⟩:=h;obtain⟨j,m1,hj,k,e1⟩:=tq (cl:=cl) (kd:=kd) (i6:=i6) (i7:=i7) (a8:=a8) (a9:=a9) (a10:=a10) (a11:=a11) (a12:=a12) (a13:=a13) (a14:=a14) F hd;have F1:=F.up k;obtain⟨A,hA,hr,rA⟩:=F1.b.rep;have hx:j<A.length:=by lia
 have i0:yt (ak A) (.int (j:Nat))=.ok (row A[j]):=kT (by rw[Qn,Qc hx];rfl);obtain⟨hq,hp⟩:=hr _ (QE hx);have v:ao cd (.comp (.call 27 (.pair (.var 15) .unit)) (.idx (.var 4) (.var 14)) (.lit (.bl true))) [none,none,none,none,some (ak A),none,none,none,none,none,none,none,none,none,some (.int (j:Nat))]=.ok (row (A[j].map λx=>1-x)):=by
  rw[yf];simp only[zI,ze,za,aE,i0,row];rw[xq (by simp;unfold aq;lia)];simp only;rw[yh Dat.int (λx=>.int (1-x)) A[j] [] (λv _=>by simp) (λx _=>by simp[h22]) (by simp;unfold aq;lia)];simp[Wa,Function.comp_def]
 obtain⟨w,m2,e2,k2,r2⟩:=xN H (R:=λl=>k0<=l) (m:=m1) (env:=Ev n l0 l1 l2 kd i6 i7 a8 a9 a10 a11 a12 a13 (some (.int (j:Nat)))) (bD.cons aK (bD.cons aK (bD.cons aK (bD.cons aK (bD.cons (vK rA) (bD.cons aK (bD.cons aK (bD.cons aK (bD.cons aK (bD.cons aK (bD.cons aK (bD.cons aK (bD.cons aK (bD.cons aK (bD.cons lK bD.nil))))))))))))))) v;have:=k.len;obtain⟨r,rfl,hR⟩:=Ak (k0:=k0) (q:=n) r2 (λl z=>by
  rcases z with z|z<;>lia) (by simp[hq]) (λv hv=>by
  obtain⟨x,hx,rfl⟩:=QM.mp hv;have:=hp x hx
  lia)
 obtain⟨m3,e3,F3⟩:=(F1.up k2).put hR (by lia) (i:=j) (by lia);refine⟨Ev n l0 l1 l2 kd i6 i7 a8 a9 a10 a11 a12 a13 (some (.int (j:Nat))),m3,?_,⟨_,_,_,_,_,_,_,rfl⟩,F3⟩;unfold pA;refine(zy (vh (i:=14) e1)).trans ?_;show(af cl (.comp (.call 27 (.pair (.var 15) .unit)) (.idx (.var 4) (.var 14)) (.lit (.bl true))) (Ev n l0 l1 l2 kd i6 i7 a8 a9 a10 a11 a12 a13 (some (.int (j:Nat)))) m1).bindS _ _=_;rw[e2];show(km (.ref l1) (.int (j:Nat)) (.ref r) m2).bindS _ _=_;rw[e3];rfl
noncomputable def AS:Sm:=.asgS (.var 10) (.var 14) (.call 27 (.pair (.idx (.var 10) (.var 14)) .unit))
noncomputable def pz:Sm:=.seq (.asg 14 mn) (.forv 10 (.var 3) AS)
def Cy (H:aU cl cd)(h22:∀a:Int,cd 27 [.int a]=.ok (.int (1-a)))(hd:ds.length=21)(h1:1<=n)(hn:n<=12)(h:QQ k0 m0 n l0 l1 l2 ds kd i6 i7 e m):Go cl (QQ k0 m0 n l0 l1 l2 ds kd i6 i7) pz e m:=by
 obtain⟨⟨a8,a9,a10,a11,a12,a13,a14,rfl⟩,F⟩:=h;obtain⟨j,m1,hj,k,e1⟩:=tq (cl:=cl) (kd:=kd) (i6:=i6) (i7:=i7) (a8:=a8) (a9:=a9) (a10:=a10) (a11:=a11) (a12:=a12) (a13:=a13) (a14:=a14) F hd;obtain⟨e',m',x,⟨b10,rfl⟩,y⟩:=jA (body:=λx e m=>aF cl AS (e.set 10 (some x)) m) (l:=l0) (λ_ e m'=>(∃b10,e=Ev n l0 l1 l2 kd i6 i7 a8 a9 b10 a11 a12 a13 (some (.int (j:Nat))))/\Fl k0 m0 n l0 l1 l2 ds m') (p:=n) (λi env m1 hi hp=>by
   obtain⟨⟨b10,rfl⟩,F'⟩:=hp;obtain⟨_,rs,b,c,d⟩:=F'.a;have hx:i<rs.length:=by lia
   obtain⟨m2,s,F2,_⟩:=nJ H h22 F' hd (d rs[i] (QE hx)) (by lia) (i:=j) (by lia) (O:=.var 10) (I:=.var 14) (env:=Ev n l0 l1 l2 kd i6 i7 a8 a9 (some (.ref rs[i])) a11 a12 a13 (some (.int (j:Nat)))) (λ_ _=>rfl) (λ_=>rfl);exact⟨_,_,_,m2,xL b,by rw[Qn,Qc hx];rfl,s,⟨_,rfl⟩,F2⟩)
  (λenv m1 hp=>by
   obtain⟨_,rs,b,c,d⟩:=hp.2.a;exact⟨_,xL b,by simp[c]⟩) n 0 (aq+1) (Ev n l0 l1 l2 kd i6 i7 a8 a9 a10 a11 a12 a13 (some (.int (j:Nat)))) m1 (by lia) (by unfold aq;lia) ⟨⟨_,rfl⟩,F.up k⟩
 refine⟨Ev n l0 l1 l2 kd i6 i7 a8 a9 b10 a11 a12 a13 (some (.int (j:Nat))),m',?_,⟨_,_,_,_,_,_,_,rfl⟩,y⟩;unfold pz;refine(zy (vh (i:=14) e1)).trans ?_;show(af cl (.var 3) (Ev n l0 l1 l2 kd i6 i7 a8 a9 a10 a11 a12 a13 (some (.int (j:Nat)))) m1).bindS _ _=_;rw[hv (show(Ev n l0 l1 l2 kd i6 i7 a8 a9 a10 a11 a12 a13 (some (.int (j:Nat))))[3]?=some (some (.ref l0))from rfl)];exact x
noncomputable def AQ:Sm:=(.seq (.asgS (.idx (.var 3) (.var 6)) (.lit (.int 0)) (.call 27 (.pair (.idx (.idx (.var 3) (.var 6)) (.lit (.int 0))) .unit))) (.asgS (.idx (.var 3) (.var 6)) (.var 5) (.call 27 (.pair (.idx (.idx (.var 3) (.var 6)) (.var 5)) .unit))))
def Cw (H:aU cl cd)(h22:∀a:Int,cd 27 [.int a]=.ok (.int (1-a)))(hd:ds.length=21)(hn:n<=12)(h6:i6<n)(h:QQ k0 m0 n l0 l1 l2 ds kd i6 i7 e m):Go cl (QQ k0 m0 n l0 l1 l2 ds kd i6 i7) AQ e m:=by
 obtain⟨⟨a8,a9,a10,a11,a12,a13,a14,rfl⟩,F⟩:=h;obtain⟨m1,e1,F1,_⟩:=gM H h22 F hd hn (.inl ⟨rfl,rfl,rfl⟩) h6 (b:=0) (by lia) (X:=.var 3) (Y:=.var 6) (Z:=.lit (.int 0)) (env:=Ev n l0 l1 l2 kd i6 i7 a8 a9 a10 a11 a12 a13 a14) (λ_=>rfl) (λ_=>rfl) (λ_=>rfl);obtain⟨m2,e2,F2,_⟩:=gM H h22 F1 hd hn (.inl ⟨rfl,rfl,rfl⟩) h6 (b:=n) (by lia) (X:=.var 3) (Y:=.var 6) (Z:=.var 5) (env:=Ev n l0 l1 l2 kd i6 i7 a8 a9 a10 a11 a12 a13 a14) (λ_=>rfl) (λ_=>rfl) (λ_=>rfl);exact⟨_,m2,(zy e1).trans e2,⟨_,_,_,_,_,_,_,rfl⟩,F2⟩
end
end Lib
namespace Lib
section
variable{cl:Nat->List Wd->Me->Rz}{cd:Nat->List Dat->Rd}
noncomputable def AU:Sm:=.seq (.ite (.cmp .eq (.var 1) (.lit (.int 0))) pE .skip) (.seq (.ite (.cmp .eq (.var 1) (.lit (.int 1))) pB .skip) (.seq (.ite (.cmp .eq (.var 1) (.lit (.int 2))) pA .skip) (.seq (.ite (.cmp .eq (.var 1) (.lit (.int 3))) pz .skip) (.ite (.cmp .eq (.var 1) (.lit (.int 4))) AQ .skip))))
noncomputable def lG:Sm:=.fort 3 4 (.tup (.pair (.var 0) .unit)) .skip
noncomputable def dR:Fn:=⟨3,15,(.seq lG (.seq (.asg 5 (.blt .len (.pair (.var 3) .unit))) (.seq (.asg 6 (.bin .mod (.idx (.var 2) (.lit (.int 0))) (.var 5))) (.seq (.asg 7 (.bin .mod (.idx (.var 2) (.lit (.int 1))) (.var 5))) AU))))⟩
def Fh (H:aU cl cd)(h22:∀a:Int,cd 27 [.int a]=.ok (.int (1-a)))(F:Fl k0 m n l0 l1 l2 ds m)(hd:ds.length=21)(h1:1<=n)(hn:n<=12):
  ∃m',yR cl dR [.tup [.ref l0,.ref l1],.int kd,.ref l2] m=.ok .non m'/\Fl k0 m n l0 l1 l2 ds m':=by
 obtain⟨_,rs,tb,tc,td⟩:=F.a;have s0:aF cl lG [some (.tup [.ref l0,.ref l1]),some (.int kd),some (.ref l2),none,none,none,none,none,none,none,none,none,none,none,none] m=.next [some (.tup [.ref l0,.ref l1]),some (.int kd),some (.ref l2),some (.ref l0),some (.ref l1),none,none,none,none,none,none,none,none,none,none] m:=rfl;have s1:=vh (cl:=cl) (i:=5) (hlen (env:=[some (.tup [.ref l0,.ref l1]),some (.int kd),some (.ref l2),some (.ref l0),some (.ref l1),none,none,none,none,none,none,none,none,none,none]) (j:=3) (l:=l0) rfl tb);rw[Qx,tc]at s1;obtain⟨i6,h6,e6⟩:=ft (cl:=cl) F.d hd (env:=[some (.tup [.ref l0,.ref l1]),some (.int kd),some (.ref l2),some (.ref l0),some (.ref l1),some (.int (n:Nat)),none,none,none,none,none,none,none,none,none]) rfl (E:=.lit (.int 0)) (i:=0) rfl (by lia) (G:=.var 5) (q:=n) rfl (by lia);obtain⟨i7,h7,e7⟩:=ft (cl:=cl) F.d hd (env:=[some (.tup [.ref l0,.ref l1]),some (.int kd),some (.ref l2),some (.ref l0),some (.ref l1),some (.int (n:Nat)),some (.int (i6:Nat)),none,none,none,none,none,none,none,none]) rfl (E:=.lit (.int 1)) (i:=1) rfl (by lia) (G:=.var 5) (q:=n) rfl (by lia);have kl:∀{m':Me},Fl k0 m n l0 l1 l2 ds m'->k0<=m'.length:=λF'=>by
  obtain⟨a,rs,b,_⟩:=F'.a;have:=(Qa.mp b).1;lia
 have one:∀{e:En}{m':Me},Q7 k0 m n l0 l1 l2 ds kd i6 i7 e m'->e[1]?=some (some (.int kd)):=by
  rintro e m' ⟨⟨_,_,_,_,_,_,_,rfl⟩,_⟩;rfl
 have g:Go cl (Q7 k0 m n l0 l1 l2 ds kd i6 i7) AU (Ev n l0 l1 l2 kd i6 i7 none none none none none none none) m:=
  Go.seq (Go.ite rfl (λ_=>CB H h22 hd h1 hn ⟨⟨_,_,_,_,_,_,_,rfl⟩,F⟩) ⟨⟨_,_,_,_,_,_,_,rfl⟩,F⟩) λe m q=>
  Go.seq (Go.ite (one q) (λ_=>CA H h22 hd hn h6 h7 q) q) λe m q=>
  Go.seq (Go.ite (one q) (λ_=>Cz H h22 hd h1 hn q (kl q.2)) q) λe m q=>
  Go.seq (Go.ite (one q) (λ_=>Cy H h22 hd h1 hn q) q) λe m q=>
  Go.ite (one q) (λ_=>Cw H h22 hd hn h6 q) q
 obtain⟨e',m',x,_,y⟩:=g;refine⟨m',?_,y⟩;have z:aF cl dR.body (yi dR [.tup [.ref l0,.ref l1],.int kd,.ref l2]) m=.next e' m':=(zy s0).trans ((zy s1).trans ((zy (vh (i:=6) e6)).trans ((zy (vh (i:=7) e7)).trans x)));unfold yR;rw[MN (by rfl),z]
mutual
theorem gN:∀(k:Nat) (d:Dat) (j:Nat),zp k d=true->yS (k+j) d=true
 |0,_,_,h=>by unfold zp at h;cases h
 |k+1,.lst ds,j,h=>by
  have h':(decide (ds.length<=aq)&&aI k ds)=true:=by unfold zp at h;exact h
  rw[Qj]at h';rw[Wo,gC];exact cv k ds j h'.2
 |k+1,.tup ds,j,h=>by
  have h':(decide (ds.length<=aq)&&aI k ds)=true:=by unfold zp at h;exact h
  rw[Qj]at h';rw[Wo,GB];exact cv k ds j h'.2
 |k+1,.scr _,_,h=>by unfold zp at h;cases h
 |k+1,.non,j,_=>by rw[Wo];rfl
 |k+1,.bl _,j,_=>by rw[Wo];rfl
 |k+1,.int _,j,_=>by rw[Wo];rfl
 |k+1,.str _,j,_=>by rw[Wo];rfl
theorem cv:∀(k:Nat) (ds:List Dat) (j:Nat),aI k ds=true->bu (k+j) ds=true
 |k,[],j,_=>by rw[Hk]
 |k,d::ds,j,h=>by
  have h':(zp k d&&aI k ds)=true:=by unfold aI at h;exact h
  rw[Qj]at h';rw[IL,gN k d j h'.1,cv k ds j h'.2];rfl
end
def xb (h1:ds.length<=aq)(h2:aI k ds=true):zp (k+1) (.lst ds)=true:=by
 unfold zp;rw[MS h1,h2];rfl
def x8 (h1:ds.length<=aq)(h2:aI k ds=true):zp (k+1) (.tup ds)=true:=by
 unfold zp;rw[MS h1,h2];rfl
def zO (h1:zp k d=true)(h2:aI k ds=true):aI k (d::ds)=true:=by
 unfold aI;rw[h1,h2];rfl
def xf:aI k []=true:=by
 unfold aI;rfl
theorem yG:∀{ds:List Dat},(∀d∈ds,zp k d=true)->aI k ds=true
 |[],_=>xf
 |d::ds,h=>zO (h d (by simp)) (yG λx hx=>h x (by simp[hx]))
def wW (h:x.length<=100):zp (k+2) (row x)=true:=xb (by simp;unfold aq;lia) (yG λd hd=>by
 obtain⟨i,_,rfl⟩:=QM.mp hd;unfold zp
 rfl)
def vV (h:A.length<=100)(hx:∀x∈A,x.length<=100):zp (k+3) (ak A)=true:=xb (by simp;unfold aq;lia) (yG λd hd=>by
 obtain⟨i,hi,rfl⟩:=QM.mp hd;exact wW (hx i hi))
def HJ (h:zp k d=true):iu d=true:=by
 cases d with
 |scr _=>cases k<;>(unfold zp at h;cases h)
 |_=>rfl
def qJ (h:zp (k+1) d=true):dD d=true:=by
 cases d with
 |scr _=>unfold zp at h;cases h
 |lst ds=>
  have h':(decide (ds.length<=aq)&&aI k ds)=true:=by unfold zp at h;exact h
  rw[Qj]at h';exact QF.mpr λx hx=>HJ (x6 h'.2 x hx)
 |_=>rfl
def vW (h:zp (k+2) d=true):fK d=true:=by
 cases d with
 |scr _=>unfold zp at h;cases h
 |tup ds=>
  have h':(decide (ds.length<=aq)&&aI (k+1) ds)=true:=by unfold zp at h;exact h
  rw[Qj]at h'
  match ds,h'.2 with
  |[],_=>rfl
  |[x],_=>rfl
  |[x,y],q=>
   show(dD x&&dD y)=true;rw[qJ (x6 q x (by simp)),qJ (x6 q y (by simp))];rfl
  |_::_::_::_,_=>rfl
 |_=>rfl
theorem AN (hZ:ai R m Z (.ref r))(pZ:zp k Z=true):∀rs:List Nat,(∀s∈rs,s≠r->∃d,ai R m d (.ref s)/\zp k d=true)->∃X:List Dat,X.length=rs.length/\ae R m X (rs.map Wd.ref)/\aI k X=true/\(r∈rs->Z∈X)
 |[],_=>⟨[],rfl,ae.nil,xf,λh=>by cases h⟩
 |s::rs,h=>by
  obtain⟨X,a,b,c,d⟩:=AN hZ pZ rs λx hx=>h x (by simp[hx]);by_cases e:s=r
  .subst e;exact⟨Z::X,by simp[a],.cons hZ b,zO pZ c,λ_=>by simp⟩
  .obtain ⟨y,hy,py⟩:=h s (by simp) e;refine⟨y::X,by simp[a],.cons hy b,zO py c,λhr=>?_⟩;rcases Qr.mp hr with z|z
   .exact MP z.symm e
   .exact Ql _ (d z)
def gO(XA XD:List Dat):yK (.tup [.lst XA,.lst XD])=(decide (1<=(XA.length:Int)/\(XA.length:Int)<=12)&&((decide ((XA.length:Int)=XA.length)&&XA.all (vg ((XA.length:Int)+1)))&&(decide ((XD.length:Int)=(XA.length:Int)+1)&&XD.all (vg XA.length)))):=rfl
def gP (hA:XA.length=n)(hD:XD.length=n+1)(h:Tb n l0 l1 lt p q)(hz:vg q Z=false)(hZ:(lt=l0/\p=n/\q=n+1->Z∈XA)/\(lt=l1/\p=n+1/\q=n->Z∈XD)):yK (.tup [.lst XA,.lst XD])=false:=by
 rw[gO,hA];rcases h with h|h
 .have e:XA.all (vg ((n:Int)+1))=false:=Ve.mpr ⟨Z,hZ.1 h,by rw[show((n:Int)+1)=((n+1:Nat):Int) by lia,<-h.2.2,hz];simp⟩;simp[e]
 .have e:XD.all (vg (n:Int))=false:=Ve.mpr ⟨Z,hZ.2 h,by rw[<-h.2.2,hz];simp⟩;simp[e]
end
end Lib
namespace Lib
section
variable{cl:Nat->List Wd->Me->Rz}
def sV (h:0<j/\j<1073741824):cJ .fdiv (.int i) (.int j) m=.ok (.int (i/j)) m:=by
 show(if 0<j/\j<1073741824 then _ else _)=_;rw[MN h]
def iZ (h1:af cl o env m=.ok x m1)(h2:yC x m1=true)(h3:af cl a env m1=.ok y m2):af cl (.meth n o a) env m=cj n x (zq y) m2:=by
 show(af cl o env m).bind _=_;rw[h1];show(match yC x m1 with|true=>_|false=>_)=_;rw[h2];show(af cl a env m1).bind _=_;rw[h3];rfl
def im (h:af cl e env m=.ok w m1):aF cl (.expr e) env m=.next env m1:=by
 show(af cl e env m).bindS env _=_;rw[h];rfl
def k9 (h:m[l]?=some (.lst xs)):yC (.ref l) m=true:=aS h
def tm (h:m[l]?=some (.lst xs))(hl:xs.length<aq):cj .append (.ref l) [y] m=.ok .non (m.set l (.lst (xs++[y]))):=by
 show(match m[l]? with|some (.lst xs)=>(if xs.length<aq then Rz.ok .non (m.set l (.lst (xs++[y])))else .no)|_=>.no)=_;rw[h];show(if xs.length<aq then _ else _)=_;rw[MN hl]
def tj (h:m[l]?=some (.lst xs))(hl:xs[xs.length-1]?=some y):cj .pop (.ref l) [] m=.ok y (m.set l (.lst xs.dropLast)):=by
 show(match m[l]? with|some (.lst xs)=>(match xs[xs.length-1]? with|some y=>Rz.ok y (m.set l (.lst xs.dropLast))|none=>.no)|_=>.no)=_;rw[h];show(match xs[xs.length-1]? with|some y=>Rz.ok y (m.set l (.lst xs.dropLast))|none=>.no)=_;rw[hl]
def iP (h2:env[2]?=some (some (.int c)))(hj:0<j/\j<1000)(hG:af cl G env m=.ok (.int (q:Nat)) m)(hq:0<q):∃v:Nat,v<q/\af cl (.bin .mod (.bin .fdiv (.var 2) (.lit (.int (j:Nat)))) G) env m=.ok (.int (v:Nat)) m:=by
 have h0:=W5 (c / (j:Int)) (b:=(q:Int)) (by lia);have h1:=WU (c / (j:Int)) (b:=(q:Int)) (by lia);refine⟨(c / (j:Int) % (q:Int)).toNat,by lia,?_⟩;have e1:af cl (.bin .fdiv (.var 2) (.lit (.int (j:Nat)))) env m=.ok (.int (c / (j:Int))) m:=by
  rw[fb (hv h2) (show af cl (.lit (.int (j:Nat))) env m=.ok (.int (j:Nat)) m from rfl),sV (by lia)]
 rw[fb e1 hG,mq (by lia)];congr 2;lia
noncomputable def bR(k0:Nat)(ms:Me)(l0 l1:Nat)(m:Me):Prop:=(∀(l:Nat) o,l<k0->ms[l]?=some o->m[l]?=some o)/\∃d,ai (λl=>k0<=l) m d (.tup [.ref l0,.ref l1])/\zp 6 d=true/\yK d=false
def vj {m:Me}(h:m[l]?=some o):l<m.length:=(Qa.mp h).1
variable{k0 n l0 l1 lt p q:Nat}{ms m:Me}
def bR.mk'(hA:∀(l:Nat) o,l<k0->ms[l]?=some o->m[l]?=some o){XA XD:List Dat}(a:ai (λl=>k0<=l) m (.lst XA) (.ref l0))(d:ai (λl=>k0<=l) m (.lst XD) (.ref l1))(la:XA.length<=100)(ld:XD.length<=100)(pa:aI 4 XA=true)(pd:aI 4 XD=true)(hb:yK (.tup [.lst XA,.lst XD])=false):bR k0 ms l0 l1 m:=
 ⟨hA,_,aj.mpr ⟨_,rfl,.cons a (.cons d .nil)⟩,x8 (by simp;unfold aq;lia) (zO (xb (by unfold aq;lia) pa) (zO (xb (by unfold aq;lia) pd) xf)),hb⟩
def ja {b:List Nat}(h:a.map Wd.ref=b.map Wd.ref):a=b:=by
 have:=MQ (List.map λw=>match w with|Wd.ref l=>l|_=>0) h;simpa [Wa,Function.comp_def]using this
def mW (h1:1<=n)(hn:n<=12)(a:bp k0 n (n+1) ms l0)(b:bp k0 (n+1) n ms l1)(tb:Tb n l0 l1 lt p q){rs:List Nat}(hrs:ms[lt]?=some (.lst (rs.map Wd.ref)))(hr:r∈rs)(hR:bA k0 q ms r)(k:Le ms m)(hy:ae (λl=>k0<=l) (m.set r (.lst ys)) dys ys)(pl:zp 4 (.lst dys)=true)(hz:vg q (.lst dys)=false):bR k0 ms l0 l1 (m.set r (.lst ys)):=by
 obtain⟨kr,xs,b1,b2,b3⟩:=hR;have hq:0<q:=by rcases tb with⟨_,_,rfl⟩|⟨_,_,rfl⟩<;>lia
 have hZ:ai (λl=>k0<=l) (m.set r (.lst ys)) (.lst dys) (.ref r):=au.mpr ⟨r,ys,rfl,kr,QO (vj (k _ _ b1)),hy⟩;have key:∀{t p' q':Nat},q'<=13->bp k0 p' q' ms t->∃X:List Dat,X.length=p'/\ai (λl=>k0<=l) (m.set r (.lst ys)) (.lst X) (.ref t)/\aI 4 X=true/\∀rs:List Nat,ms[t]?=some (.lst (rs.map Wd.ref))->r∈rs->Dat.lst dys∈X:=by
  rintro t p' q' h13 ⟨kt,rt,c1,c2,c3⟩;obtain⟨X,x1,x2,x3,x4⟩:=AN hZ pl rt λs hs hne=>by
   obtain⟨ks,zs,d1,d2,d3⟩:=c3 s hs;exact⟨row zs,au.mpr ⟨s,_,rfl,ks,by rw[Qg (λe=>hne e.symm)];exact k _ _ d1,dI zs⟩,wW (by lia)⟩
  refine⟨X,by lia,au.mpr ⟨t,_,rfl,kt,?_,x2⟩,x3,λrs' e hr'=>x4 ?_⟩
  .rw[Qg]
   .exact k _ _ c1
   .rintro rfl;rw[b1]at c1;have e:xs.map Wd.int=rt.map Wd.ref:=by simpa using c1
    rw[xt e]at b2;simp at b2;lia
  .rw[c1]at e;have e2:rt=rs':=ja (by simpa using e);rw[e2];exact hr'
 obtain⟨XA,a1,a2,a3,a4⟩:=key (by lia) a;obtain⟨XD,d1,d2,d3,d4⟩:=key (by lia) b;refine bR.mk' (λl o hl z=>?_) a2 d2 (by lia) (by lia) a3 d3 (gP a1 d1 tb hz ⟨λh=>a4 rs ?_ hr,λh=>d4 rs ?_ hr⟩)
 .rw[Qg (by lia)];exact k _ _ z
 .rw[<-h.1];exact hrs
 .rw[<-h.1];exact hrs
def gQ {rs:List Nat}(hrs:ms[lt]?=some (.lst (rs.map Wd.ref)))(k:Le ms m)(h:bA k0 q' m s)(hq:0<q'):bA k0 q' (m.set lt (.lst ws)) s:=by
 obtain⟨ks,xs,a,b,c⟩:=h;refine⟨ks,xs,?_,b,c⟩;rw[Qg]
 .exact a
 .rintro rfl;rw[k _ _ hrs]at a;have e:xs.map Wd.int=rs.map Wd.ref:=by simpa using a.symm
  rw[xt e]at b;simp at b;lia
def tf (h1:1<=n)(hn:n<=12)(a:bp k0 n (n+1) ms l0)(b:bp k0 (n+1) n ms l1)(tb:Tb n l0 l1 lt p q){rs:List Nat}(hrs:ms[lt]?=some (.lst (rs.map Wd.ref)))(k:Le ms m)(hy:ae (λl=>k0<=l) (m.set lt (.lst ws)) dws ws)(pl:aI 4 dws=true)(hl:dws.length<=100)(hb:(lt=l0/\p=n/\q=n+1->∀XD:List Dat,XD.length=n+1->yK (.tup [.lst dws,.lst XD])=false)/\(lt=l1/\p=n+1/\q=n->∀XA:List Dat,XA.length=n->yK (.tup [.lst XA,.lst dws])=false)):bR k0 ms l0 l1 (m.set lt (.lst ws)):=by
 have kt:k0<=lt:=by
  rcases tb with⟨rfl,_⟩|⟨rfl,_⟩
  .exact a.1
  .exact b.1
 have hZ:ai (λl=>k0<=l) (m.set lt (.lst ws)) (.lst dws) (.ref lt):=au.mpr ⟨lt,ws,rfl,kt,QO (vj (k _ _ hrs)),hy⟩;have lo:∀(l:Nat) o,l<k0->ms[l]?=some o->(m.set lt (.lst ws))[l]?=some o:=λl o hl z=>by
  rw[Qg (by lia)];exact k _ _ z
 have key:∀{t p' q':Nat},q'<=13->0<q'->p'≠rs.length->bp k0 p' q' ms t->∃X:List (List Int),X.length=p'/\(∀x∈X,x.length<=100)/\ai (λl=>k0<=l) (m.set lt (.lst ws)) (ak X) (.ref t):=by
  rintro t p' q' h13 h0 hp ⟨kt,rt,c1,c2,c3⟩;have z:bp k0 p' q' (m.set lt (.lst ws)) t:=by
   refine⟨kt,rt,?_,c2,λs hs=>gQ hrs k ((c3 s hs).up k) h0⟩;rw[Qg]
   .exact k _ _ c1
   .rintro rfl;rw[hrs]at c1;have e2:rs=rt:=ja (by simpa using c1);rw[e2]at hp;lia
  obtain⟨X,x1,x2,x3⟩:=z.rep;exact⟨X,x1,λx hx=>by rw[(x2 x hx).1];lia,x3⟩
 have pX:∀{X:List (List Int)},(∀x∈X,x.length<=100)->aI 4 (X.map row)=true:=λh=>yG λd hd=>by
  obtain⟨x,hx,rfl⟩:=QM.mp hd;exact wW (h x hx)
 rcases tb with⟨rfl,h2,h3⟩|⟨rfl,h2,h3⟩
 .have hp:rs.length=n:=by
   obtain⟨_,rt,c1,c2,_⟩:=a;rw[hrs]at c1;have e2:rs=rt:=ja (by simpa using c1);rw[e2];exact c2
  obtain⟨X,x1,x2,x3⟩:=key (by lia) (by lia) (by lia) b;exact bR.mk' lo hZ x3 hl (by simp;lia) pl (pX x2) (hb.1 ⟨rfl,h2,h3⟩ _ (by simp[x1]))
 .have hp:rs.length=n+1:=by
   obtain⟨_,rt,c1,c2,_⟩:=b;rw[hrs]at c1;have e2:rs=rt:=ja (by simpa using c1);rw[e2];exact c2
  obtain⟨X,x1,x2,x3⟩:=key (by lia) (by lia) (by lia) a;exact bR.mk' lo x3 hZ (by simp;lia) hl (pX x2) pl (hb.2 ⟨rfl,h2,h3⟩ _ (by simp[x1]))
end
end Lib
namespace Lib
section
variable{cl:Nat->List Wd->Me->Rz}
def Cv (h:af cl X env m=.ok (.ref l) m)(hm:m[l]?=some (.lst ws)):af cl (.blt .len (.pair X .unit)) env m=.ok (.int ws.length) m:=by
 show(((af cl X env m).bind _).bind _)=_;rw[h];show(match yF m (.ref l)with|some xs=>Rz.ok (.int xs.length) m|none=>.no)=_;rw[show yF m (.ref l)=some ws from xL hm]
def kA (h:af cl X env m=.ok w m1):af cl (.pair X .unit) env m=.ok (.tup [w]) m1:=by
 show(af cl X env m).bind _=_;rw[h];rfl
def qK (h:XD.length≠XA.length+1):yK (.tup [.lst XA,.lst XD])=false:=by
 rw[gO,MR (p:=(XD.length:Int)=(XA.length:Int)+1) (by lia)];simp
def Ah {xs:List Dat}(h:xs.length≠q):vg q (.lst xs)=false:=by
 show(decide ((xs.length:Int)=q)&&_)=false;rw[MR (by lia)];rfl
def Fg {q:Nat}(h:d∈xs)(hd:jz d=false):vg q (.lst xs)=false:=by
 show(_&&xs.all jz)=false;rw[Ve.mpr ⟨d,h,by rw[hd];simp⟩,WT]
def xy:zp (k+1) (.int i)=true:=by unfold zp;rfl
abbrev Eb(kd c:Int)(l0 l1:Nat)(wo:Wd)(lt a:Nat):En:=[some (.tup [.ref l0,.ref l1]),some (.int kd),some (.int c),some (.ref l0),some (.ref l1),some wo,some (.ref lt),some (.int (a:Nat))]
variable{k0 n l0 l1 lt p q at0:Nat}{ms m:Me}{kd c:Int}{wo:Wd}{odd:Dat}
structure Bd(k0 n l0 l1 lt p q at0:Nat)(ms:Me)(wo:Wd)(odd:Dat)(m:Me):Prop where
 h1:1<=n
 hn:n<=12
 a:bp k0 n (n+1) ms l0
 b:bp k0 (n+1) n ms l1
 tb:Tb n l0 l1 lt p q
 at_:at0<p
 le:Le ms m
 od:ai (λl=>ms.length<=l) m odd wo
 op:zp 3 odd=true
 ob:jz odd=false
def Bd.pq(B:Bd k0 n l0 l1 lt p q at0 ms wo odd m):0<q/\q<=13/\0<p/\p<=13:=by
 have h1:=B.h1;have hn:=B.hn;rcases B.tb with⟨_,rfl,rfl⟩|⟨_,rfl,rfl⟩<;>lia
def Bd.tab(B:Bd k0 n l0 l1 lt p q at0 ms wo odd m):bp k0 p q ms lt:=by
 rcases B.tb with⟨rfl,rfl,rfl⟩|⟨rfl,rfl,rfl⟩
 .exact B.a
 .exact B.b
def Bd.kz(B:Bd k0 n l0 l1 lt p q at0 ms wo odd m):k0<=ms.length:=by
 obtain⟨a,rs,b,_⟩:=B.a;have:=vj b;lia
def Bd.row(B:Bd k0 n l0 l1 lt p q at0 ms wo odd m):∃(rs:List Nat) (r:Nat) (xs:List Int),ms[lt]?=some (.lst (rs.map Wd.ref))/\rs.length=p/\(∀s∈rs,bA k0 q ms s)/\rs[at0]?=some r/\r∈rs/\bA k0 q ms r/\ms[r]?=some (.lst (xs.map Wd.int))/\xs.length=q/\af cl (.idx (.var 6) (.var 7)) (Eb kd c l0 l1 wo lt at0) m=.ok (.ref r) m:=by
 obtain⟨_,rs,e,h,d⟩:=B.tab;have hx:at0<rs.length:=by rw[h];exact B.at_
 have hm:=QE hx;obtain⟨g,xs,b2,b3,b4⟩:=d _ hm;refine⟨rs,rs[at0],xs,e,h,d,Qc hx,hm,d _ hm,b2,b3,?_⟩;rw[vp (hv (show(Eb kd c l0 l1 wo lt at0)[6]?=some (some (.ref lt))from rfl)) (hv (show(Eb kd c l0 l1 wo lt at0)[7]?=some (some (.int (at0:Nat)))from rfl))];exact zX (B.le _ _ e) (by rw[Qn,Qc hx];rfl)
noncomputable def BZ:Sm:=.asgS (.idx (.var 6) (.var 7)) (.bin .mod (.bin .fdiv (.var 2) (.lit (.int 200))) (.blt .len (.pair (.idx (.var 6) (.var 7)) .unit))) (.var 5)
def qx(B:Bd k0 n l0 l1 lt p q at0 ms wo odd m):∃m',aF cl BZ (Eb kd c l0 l1 wo lt at0) m=.next (Eb kd c l0 l1 wo lt at0) m'/\bR k0 ms l0 l1 m':=by
 obtain⟨rs,r,xs,e,h,d,hr,hm,hR,hx,hl,eO⟩:=B.row (cl:=cl) (kd:=kd) (c:=c);have hx':=B.le _ _ hx;obtain⟨v,hv2,eI⟩:=iP (cl:=cl) (env:=Eb kd c l0 l1 wo lt at0) (m:=m) (c:=c) (j:=200) rfl (by lia) (G:=.blt .len (.pair (.idx (.var 6) (.var 7)) .unit)) (q:=q) (by rw[Cv eO hx'];simp[hl]) B.pq.1;refine⟨m.set r (.lst ((xs.map Wd.int).set v wo)),?_,?_⟩
 .show (af cl (.idx (.var 6) (.var 7)) (Eb kd c l0 l1 wo lt at0) m).bindS _ _=_;rw[show af cl (.idx (.var 6) (.var 7)) (Eb kd c l0 l1 wo lt at0) m=.ok (.ref r) m from eO];show(af cl (.bin .mod (.bin .fdiv (.var 2) (.lit (.int 200))) (.blt .len (.pair (.idx (.var 6) (.var 7)) .unit))) (Eb kd c l0 l1 wo lt at0) m).bindS _ _=_;rw[show af cl (.bin .mod (.bin .fdiv (.var 2) (.lit (.int 200))) (.blt .len (.pair (.idx (.var 6) (.var 7)) .unit))) (Eb kd c l0 l1 wo lt at0) m=.ok (.int (v:Nat)) m from eI];show(km _ _ _ m).bindS _ _=_;rw[jX hx' (by simp;lia)];rfl
 .have hlt:=vj hx;refine mW B.h1 B.hn B.a B.b B.tb e hm hR B.le (dys:=(xs.map Dat.int).set v odd) ?_ ?_ ?_
  .refine ae.set (dI xs) v (ai.frame (λl o z y=>⟨?_,?_⟩) _ _ B.od)
   .have:=B.kz;show k0<=l;lia
   .rw[Qg (by lia)];exact y
  .refine xb (by simp;unfold aq;have:=B.pq;lia) (yG λy hy=>?_);rcases Wx hy with z|rfl
   .obtain ⟨i,_,rfl⟩:=QM.mp z;exact xy
   .exact B.op
  .exact Fg (List.mem_set (by simp;lia) odd) B.ob
noncomputable def BY:Sm:=.expr (.meth .append (.idx (.var 6) (.var 7)) (.pair (.idx (.idx (.var 6) (.var 7)) (.lit (.int 0))) .unit))
def pY(B:Bd k0 n l0 l1 lt p q at0 ms wo odd m):∃m',aF cl BY (Eb kd c l0 l1 wo lt at0) m=.next (Eb kd c l0 l1 wo lt at0) m'/\bR k0 ms l0 l1 m':=by
 obtain⟨rs,r,xs,e,h,d,hr,hm,hR,hx,hl,eO⟩:=B.row (cl:=cl) (kd:=kd) (c:=c);have hx':=B.le _ _ hx;have h0:0<xs.length:=by rw[hl];exact B.pq.1
 have eA:af cl (.idx (.idx (.var 6) (.var 7)) (.lit (.int 0))) (Eb kd c l0 l1 wo lt at0) m=.ok (.int xs[0]) m:=(vp eO (show af cl (.lit (.int 0)) _ m=.ok (.int ((0:Nat):Int)) m from rfl)).trans (zX hx' (by rw[Qn,Qc h0];rfl));refine⟨m.set r (.lst (xs.map Wd.int++[Wd.int xs[0]])),im ((iZ eO (k9 hx') (kA eA)).trans (tm (y:=Wd.int xs[0]) hx' (by simp;unfold aq;have:=B.pq;lia))),?_⟩;refine mW B.h1 B.hn B.a B.b B.tb e hm hR B.le (dys:=xs.map Dat.int++[.int xs[0]]) ?_ ?_ ?_
 .exact ae.app (dI xs) (.cons (aa.mpr rfl) .nil)
 .refine xb (by simp;unfold aq;have:=B.pq;lia) (yG λy hy=>?_);rcases Qz.mp hy with z|z
  .obtain ⟨i,_,rfl⟩:=QM.mp z;exact xy
  .rw[QN.mp z];exact xy
 .exact Ah (by simp;lia)
noncomputable def BX:Sm:=.expr (.meth .pop (.idx (.var 6) (.var 7)) .unit)
def pW(B:Bd k0 n l0 l1 lt p q at0 ms wo odd m):∃m',aF cl BX (Eb kd c l0 l1 wo lt at0) m=.next (Eb kd c l0 l1 wo lt at0) m'/\bR k0 ms l0 l1 m':=by
 obtain⟨rs,r,xs,e,h,d,hr,hm,hR,hx,hl,eO⟩:=B.row (cl:=cl) (kd:=kd) (c:=c);have hx':=B.le _ _ hx;have h0:=B.pq;have hz:xs.length-1<xs.length:=by lia
 refine⟨m.set r (.lst (xs.map Wd.int).dropLast),im ((iZ eO (k9 hx') (show af cl .unit (Eb kd c l0 l1 wo lt at0) m=.ok (.tup []) m from rfl)).trans (tj hx' (by rw[Qx,Qn,Qc hz];rfl))),?_⟩;refine mW B.h1 B.hn B.a B.b B.tb e hm hR B.le (dys:=xs.dropLast.map Dat.int) ?_ ?_ ?_
 .rw[<-List.map_dropLast];exact dI _
 .refine xb (by simp;unfold aq;lia) (yG λy hy=>?_);obtain⟨i,_,rfl⟩:=QM.mp hy;exact xy
 .exact Ah (by simp;lia)
def Bd.rows (B:Bd k0 n l0 l1 lt p q at0 ms wo odd m)(k:Le ms m1){rs rs':List Nat}(e:ms[lt]?=some (.lst (rs.map Wd.ref)))(hr:∀s∈rs',bA k0 q m1 s)(hl:rs'.length≠p)(h9:rs'.length<=20):bR k0 ms l0 l1 (m1.set lt (.lst (rs'.map Wd.ref))):=by
 have h0:=B.pq;obtain⟨A,a1,a2,a3⟩:=k8 rs' λs hs=>gQ e k (ws:=rs'.map Wd.ref) (hr s hs) h0.1;refine tf B.h1 B.hn B.a B.b B.tb e k a3 (yG λy hy=>?_) (by simp;lia) ⟨?_,?_⟩
 .obtain ⟨x,hx,rfl⟩:=QM.mp hy;exact wW (by rw[(a2 x hx).1];lia)
 .rintro ⟨_,rfl,_⟩ XD hX;exact qK (by simp;lia)
 .rintro ⟨_,rfl,_⟩ XA hX;exact qK (by simp;lia)
noncomputable def BW:Sm:=.expr (.meth .append (.var 6) (.pair (.blt .list (.pair (.idx (.var 6) (.lit (.int 0))) .unit)) .unit))
def pV(B:Bd k0 n l0 l1 lt p q at0 ms wo odd m):∃m',aF cl BW (Eb kd c l0 l1 wo lt at0) m=.next (Eb kd c l0 l1 wo lt at0) m'/\bR k0 ms l0 l1 m':=by
 obtain⟨_,rs,e,h,d⟩:=B.tab;have h0:=B.pq;have hx:0<rs.length:=by lia
 obtain⟨g,xs,b2,b3,b4⟩:=d _ (QE hx);have e':=B.le _ _ e;have eA:af cl (.idx (.var 6) (.lit (.int 0))) (Eb kd c l0 l1 wo lt at0) m=.ok (.ref rs[0]) m:=(vp (hv (show(Eb kd c l0 l1 wo lt at0)[6]?=some (some (.ref lt))from rfl)) (show af cl (.lit (.int 0)) _ m=.ok (.int ((0:Nat):Int)) m from rfl)).trans (zX e' (by rw[Qn,Qc hx];rfl));have eB:af cl (.blt .list (.pair (.idx (.var 6) (.lit (.int 0))) .unit)) (Eb kd c l0 l1 wo lt at0) m=.ok (.ref m.length) (m++[.lst (xs.map Wd.int)]):=by
  show(af cl (.pair (.idx (.var 6) (.lit (.int 0))) .unit) (Eb kd c l0 l1 wo lt at0) m).bind _=_;rw[kA eA];show(match yF m (.ref rs[0])with|some xs=>alloc m xs|none=>.no)=_;rw[show yF m (.ref rs[0])=some (xs.map Wd.int)from xL (B.le _ _ b2)];show alloc m (xs.map Wd.int)=_;unfold alloc;rw[MN (by simp;unfold aq;lia)]
 have k:Le m (m++[.lst (xs.map Wd.int)]):=Le.app _ _;have hk:=B.kz;have hk2:=B.le.len;refine⟨_,im ((iZ (hv (show(Eb kd c l0 l1 wo lt at0)[6]?=some (some (.ref lt))from rfl)) (k9 e') (kA eB)).trans (tm (y:=.ref m.length) (k _ _ e') (by simp;unfold aq;lia))),?_⟩;have z:=B.rows (B.le.trans k) e (rs':=rs++[m.length]) (λs hs=>?_) (by simp;lia) (by simp;lia)
 .rw[List.map_append]at z;exact z
 .rcases Qz.mp hs with z|z
  .exact ((d s z).up B.le).up k
  .rw[QN.mp z];exact⟨by lia,xs,by rw[Qo (Qk _)];simp,b3,b4⟩
noncomputable def BU:Sm:=.expr (.meth .pop (.var 6) .unit)
def pS(B:Bd k0 n l0 l1 lt p q at0 ms wo odd m):∃m',aF cl BU (Eb kd c l0 l1 wo lt at0) m=.next (Eb kd c l0 l1 wo lt at0) m'/\bR k0 ms l0 l1 m':=by
 obtain⟨_,rs,e,h,d⟩:=B.tab;have h0:=B.pq;have hz:rs.length-1<rs.length:=by lia
 have e':=B.le _ _ e;refine⟨_,im ((iZ (hv (show(Eb kd c l0 l1 wo lt at0)[6]?=some (some (.ref lt))from rfl)) (k9 e') (show af cl .unit (Eb kd c l0 l1 wo lt at0) m=.ok (.tup []) m from rfl)).trans (tj e' (by rw[Qx,Qn,Qc hz];rfl))),?_⟩;have z:=B.rows B.le e (rs':=rs.dropLast) (λs hs=>(d s (List.dropLast_subset _ hs)).up B.le) (by simp;lia) (by simp;lia);rw[List.map_dropLast]at z;exact z
noncomputable def rg:Ex:=.idx (.lst (.pair (.blt .tuple (.pair (.idx (.var 6) (.var 7)) .unit)) (.pair (.lit .non) (.pair (.lit (.int 3)) (.pair (.lit (.str [49])) .unit))))) (.bin .mod (.bin .fdiv (.var 2) (.lit (.int 200))) (.lit (.int 4)))
noncomputable def BV:Sm:=.asgS (.var 6) (.var 7) rg
def pU(B:Bd k0 n l0 l1 lt p q at0 ms wo odd m):∃m',aF cl BV (Eb kd c l0 l1 wo lt at0) m=.next (Eb kd c l0 l1 wo lt at0) m'/\bR k0 ms l0 l1 m':=by
 obtain⟨rs,r,xs,e,h,d,hr,hm,hR,hx,hl,eO⟩:=B.row (cl:=cl) (kd:=kd) (c:=c);have h0:=B.pq;have hx':=B.le _ _ hx;have e':=B.le _ _ e;have eT:af cl (.blt .tuple (.pair (.idx (.var 6) (.var 7)) .unit)) (Eb kd c l0 l1 wo lt at0) m=.ok (.tup (xs.map Wd.int)) m:=by
  show(af cl (.pair (.idx (.var 6) (.var 7)) .unit) (Eb kd c l0 l1 wo lt at0) m).bind _=_;rw[kA eO];show(match yF m (.ref r)with|some xs=>Rz.ok (.tup xs) m|none=>.no)=_;rw[show yF m (.ref r)=some (xs.map Wd.int)from xL hx']
 have eL:af cl (.lst (.pair (.blt .tuple (.pair (.idx (.var 6) (.var 7)) .unit)) (.pair (.lit .non) (.pair (.lit (.int 3)) (.pair (.lit (.str [49])) .unit))))) (Eb kd c l0 l1 wo lt at0) m=.ok (.ref m.length) (m++[.lst [.tup (xs.map Wd.int),.non,.int 3,.str [49]]]):=by
  show((af cl (.blt .tuple (.pair (.idx (.var 6) (.var 7)) .unit)) (Eb kd c l0 l1 wo lt at0) m).bind _).bind _=_;rw[eT];rfl
 obtain⟨v,hv4,eI⟩:=iP (cl:=cl) (env:=Eb kd c l0 l1 wo lt at0) (m:=m++[.lst [.tup (xs.map Wd.int),.non,.int 3,.str [49]]]) (c:=c) (j:=200) rfl (by lia) (G:=.lit (.int 4)) (q:=4) rfl (by lia);have hn:(m++[Ob.lst [.tup (xs.map Wd.int),.non,.int 3,.str [49]]])[m.length]?=some (.lst [.tup (xs.map Wd.int),.non,.int 3,.str [49]]):=by rw[Qo (Qk _)];simp
 have k:Le m (m++[.lst [.tup (xs.map Wd.int),.non,.int 3,.str [49]]]):=Le.app _ _;obtain⟨w,Z,eW,rZ,pZ,bZ⟩:∃(w:Wd) (Z:Dat),af cl rg (Eb kd c l0 l1 wo lt at0) m=.ok w (m++[.lst [.tup (xs.map Wd.int),.non,.int 3,.str [49]]])/\(∀R m',ai R m' Z w)/\zp 4 Z=true/\vg q Z=false:=by
  have pI:∀i:Int,zp 4 (.int i)=true:=λi=>xy
  match v,hv4 with
  |0,_=>exact⟨_,.tup (xs.map Dat.int),(vp eL eI).trans (zX hn rfl),λR m'=>aj.mpr ⟨_,rfl,dI xs⟩,x8 (by simp;unfold aq;lia) (yG λy hy=>by
    obtain⟨i,_,rfl⟩:=QM.mp hy;exact xy),rfl⟩
  |1,_=>exact⟨_,.non,(vp eL eI).trans (zX hn rfl),λR m'=>am.mpr rfl,by unfold zp;rfl,rfl⟩
  |2,_=>exact⟨_,.int 3,(vp eL eI).trans (zX hn rfl),λR m'=>aa.mpr rfl,xy,rfl⟩
  |3,_=>exact⟨_,.str [49],(vp eL eI).trans (zX hn rfl),λR m'=>az.mpr rfl,by unfold zp;rfl,rfl⟩
 refine⟨(m++[Ob.lst [.tup (xs.map Wd.int),.non,.int 3,.str [49]]]).set lt (Ob.lst ((rs.map Wd.ref).set at0 w)),?_,?_⟩
 .show (af cl rg (Eb kd c l0 l1 wo lt at0) m).bindS _ _=_;rw[eW];show(km (.ref lt) (.int (at0:Nat)) w _).bindS _ _=_;rw[jX (k _ _ e') (by simp;have:=B.at_;lia)];rfl
 .have hat:=B.at_;obtain⟨A,a1,a2,a3⟩:=k8 rs λs hs=>gQ e (B.le.trans k) (ws:=(rs.map Wd.ref).set at0 w) (((d s hs).up B.le).up k) h0.1;have hin:Z∈(A.map Lib.row).set at0 Z:=List.mem_set (by simp;lia) Z;refine tf B.h1 B.hn B.a B.b B.tb e (B.le.trans k) (ae.set a3 at0 (rZ _ _)) (yG λy hy=>?_) (by simp;lia) ⟨?_,?_⟩
  .rcases Wx hy with z|rfl
   .obtain ⟨x,hx,rfl⟩:=QM.mp z;exact wW (by rw[(a2 x hx).1];lia)
   .exact pZ
  .intro z XD hX;exact gP (by simp;lia) hX B.tb bZ ⟨λ_=>hin,λy=>MP (show n=n+1 by lia) (by lia)⟩
  .intro z XA hX;exact gP hX (by simp;lia) B.tb bZ ⟨λy=>MP (show n=n+1 by lia) (by lia),λ_=>hin⟩
end
end Lib
namespace Lib
section
variable{cl:Nat->List Wd->Me->Rz}{cd:Nat->List Dat->Rd}
variable{k0 n l0 l1 lt p q at0:Nat}{ms m:Me}{kd c:Int}{wo:Wd}{odd:Dat}
noncomputable def SB(k0 n l0 l1 lt p q at0:Nat)(ms:Me)(kd c:Int)(wo:Wd)(odd:Dat)(j:Int)(e:En)(m:Me):Prop:=e=Eb kd c l0 l1 wo lt at0/\((kd<j/\bR k0 ms l0 l1 m)\/(j<=kd/\Bd k0 n l0 l1 lt p q at0 ms wo odd m))
def SB.step {S:Sm}(hS:∀{m:Me},Bd k0 n l0 l1 lt p q at0 ms wo odd m->∃m',aF cl S (Eb kd c l0 l1 wo lt at0) m=.next (Eb kd c l0 l1 wo lt at0) m'/\bR k0 ms l0 l1 m')(h:SB k0 n l0 l1 lt p q at0 ms kd c wo odd j e m):Go cl (SB k0 n l0 l1 lt p q at0 ms kd c wo odd (j+1)) (.ite (.cmp .eq (.var 1) (.lit (.int j))) S .skip) e m:=by
 obtain⟨rfl,h⟩:=h;have e1:aF cl (.ite (.cmp .eq (.var 1) (.lit (.int j))) S .skip) (Eb kd c l0 l1 wo lt at0) m=if kd=j then aF cl S (Eb kd c l0 l1 wo lt at0) m else .next (Eb kd c l0 l1 wo lt at0) m:=by
  show(af cl (.cmp .eq (.var 1) (.lit (.int j))) _ m).bindS _ _=_;rw[mr (hv (show(Eb kd c l0 l1 wo lt at0)[1]?=some (some (.int kd))from rfl)) (show af cl (.lit (.int j)) _ m=.ok (.int j) m from rfl),show cop .eq (.int kd) (.int j) m=.ok (.bl (decide (kd=j))) m from rfl];by_cases z:kd=j
  .rw[MN z,MS z];rfl
  .rw[MO z,MR z];rfl
 rcases h with⟨h,b⟩|⟨h,b⟩
 .exact ⟨_,m,by rw[e1,MO (by lia)],rfl,.inl ⟨by lia,b⟩⟩
 .by_cases z:kd=j
  .obtain ⟨m',x,y⟩:=hS b;exact⟨_,m',by rw[e1,MN z];exact x,rfl,.inl ⟨by lia,y⟩⟩
  .exact ⟨_,m,by rw[e1,MO z],rfl,.inr ⟨by lia,b⟩⟩
noncomputable def BS:Sm:=.seq (.ite (.cmp .eq (.var 1) (.lit (.int 1))) BZ .skip) (.seq (.ite (.cmp .eq (.var 1) (.lit (.int 2))) BY .skip) (.seq (.ite (.cmp .eq (.var 1) (.lit (.int 3))) BX .skip) (.seq (.ite (.cmp .eq (.var 1) (.lit (.int 4))) BW .skip) (.seq (.ite (.cmp .eq (.var 1) (.lit (.int 5))) BV .skip) (.seq (.ite (.cmp .eq (.var 1) (.lit (.int 6))) BU .skip) (.ret (.tup (.pair (.var 3) (.pair (.var 4) .unit)))))))))
def pQ(h1:1<=kd)(h7:kd<7)(B:Bd k0 n l0 l1 lt p q at0 ms wo odd m):∃m',aF cl BS (Eb kd c l0 l1 wo lt at0) m=.ret (.tup [.ref l0,.ref l1]) m'/\bR k0 ms l0 l1 m':=by
 obtain⟨_,m1,e1,s1⟩:=SB.step (cl:=cl) (j:=1) (e:=Eb kd c l0 l1 wo lt at0) qx ⟨rfl,.inr ⟨h1,B⟩⟩;obtain⟨_,m2,e2,s2⟩:=SB.step (cl:=cl) pY s1;obtain⟨_,m3,e3,s3⟩:=SB.step (cl:=cl) pW s2;obtain⟨_,m4,e4,s4⟩:=SB.step (cl:=cl) pV s3;obtain⟨_,m5,e5,s5⟩:=SB.step (cl:=cl) pU s4;obtain⟨_,m6,e6,rfl,s6⟩:=SB.step (cl:=cl) pS s5;refine⟨m6,?_,?_⟩
 .exact (zy e1).trans ((zy e2).trans ((zy e3).trans ((zy e4).trans ((zy e5).trans (zy e6)))))
 .rcases s6 with⟨_,h⟩|⟨h,_⟩
  .exact h
  .lia
noncomputable def o8:Ex:=.idx (.lst (.pair (.lit (.int 2)) (.pair (.lit (.bl true)) (.pair (.lit .non) (.pair (.lit (.str [49])) (.pair (.neg (.lit (.int 1))) (.pair (.lst (.pair (.lit (.int 1)) .unit)) (.pair (.tup (.pair (.lit (.int 1)) .unit)) (.pair (.lit (.bl false)) .unit))))))))) (.bin .mod (.var 2) (.lit (.int 8)))
noncomputable def fy:List Dat:=[.int 2,.bl true,.non,.str [49],.int (-1),.lst [.int 1],.tup [.int 1],.bl false]
def sU(c:Int):∃j:Nat,j<8/\c%8=(j:Int):=⟨(c%8).toNat,by lia,by lia⟩
def Cu (c:Int):∃odd,odd∈fy/\ao cd o8 [a,b,some (.int c),x,y,f,g,h]=.ok odd:=by
 obtain⟨j,hj,e⟩:=sU c;have z:ao cd o8 [a,b,some (.int c),x,y,f,g,h]=yt (.lst fy) (.int (c%8)):=rfl;have hl:j<fy.length:=hj;exact⟨fy[j],QE hl,by rw[z,e];exact kT (Qc hl)⟩
def sS (h:d∈fy):zp 3 d=true/\jz d=false:=by
 have z:∀d∈fy,zp 3 d=true/\jz d=false:=by
  unfold fy;simp only[Wu];refine⟨?_,?_,?_,?_,?_,?_,?_,?_,λ_ h=>by cases h⟩<;>exact⟨by decide +kernel,by decide +kernel⟩
 exact z d h
noncomputable def fS:Ex:=.idx (.lst (.pair (.lit .non) (.pair (.lit (.int 7)) (.pair (.lit (.str [])) (.pair (.lst (.pair (.var 3) (.pair (.var 4) .unit))) (.pair (.tup (.pair (.var 3) .unit)) (.pair (.tup (.pair (.var 3) (.pair (.var 4) (.pair (.var 4) .unit)))) (.pair (.tup (.pair (.lst .unit) (.pair (.lst (.pair (.lst .unit) .unit)) .unit))) (.pair (.tup (.pair (.lit .non) (.pair (.var 4) .unit))) .unit))))))))) (.bin .mod (.var 2) (.lit (.int 8)))
noncomputable def fD(x y:Dat):List Dat:=[.non,.int 7,.str [],.lst [x,y],.tup [x],.tup [x,y,y],.tup [.lst [],.lst [.lst []]],.tup [.non,y]]
def Ct (c:Int):∃d,d∈fD x y/\ao cd fS [a,b,some (.int c),some x,some y,f,g,h]=.ok d:=by
 obtain⟨j,hj,e⟩:=sU c;have z:ao cd fS [a,b,some (.int c),some x,some y,f,g,h]=yt (.lst (fD x y)) (.int (c%8)):=rfl;have hl:j<(fD x y).length:=hj;exact⟨(fD x y)[j],QE hl,by rw[z,e];exact kT (Qc hl)⟩
def CN (hx:zp 5 x=true)(hy:zp 5 y=true)(h:d∈fD x y):zp 6 d=true/\yK d=false:=by
 have hx5:aI 5 [x]=true/\aI 5 [x,y]=true/\aI 5 [x,y,y]=true/\aI 5 [.non,y]=true:=by
  exact⟨zO hx xf,zO hx (zO hy xf),zO hx (zO hy (zO hy xf)),zO (by unfold zp;rfl) (zO hy xf)⟩
 have z:∀d∈fD x y,zp 6 d=true/\yK d=false:=by
  unfold fD;simp only[Wu];refine⟨⟨by unfold zp;rfl,rfl⟩,⟨by unfold zp;rfl,rfl⟩,⟨by unfold zp;rfl,rfl⟩,⟨xb (by simp;unfold aq;lia) hx5.2.1,rfl⟩,⟨x8 (by simp;unfold aq;lia) hx5.1,by cases x<;>rfl⟩,⟨x8 (by simp;unfold aq;lia) hx5.2.2.1,by cases x<;>rfl⟩,⟨by decide +kernel,rfl⟩,⟨x8 (by simp;unfold aq;lia) hx5.2.2.2,rfl⟩,λ_ h=>by cases h⟩
 exact z d h
def EV (h:aF cl a env m=.ret w m1):aF cl (.seq a b) env m=.ret w m1:=by
 show(match aF cl a env m with |.next e1 m1=>aF cl b e1 m1|r=>r)=_;rw[h]
noncomputable def dS:Fn:=⟨3,8,(.seq lG (.seq (.asg 5 o8) (.seq (.ite (.cmp .eq (.var 1) (.lit (.int 0))) (.ret fS) .skip) (.seq (.asg 6 (.idx (.lst (.pair (.var 3) (.pair (.var 4) .unit))) (.bin .mod (.bin .fdiv (.var 2) (.lit (.int 8))) (.lit (.int 2))))) (.seq (.asg 7 (.bin .mod (.bin .fdiv (.var 2) (.lit (.int 16))) (.blt .len (.pair (.var 6) .unit)))) BS)))))⟩
def EU(H:aU cl cd)(h1:1<=n)(hn:n<=12)(a:bp k0 n (n+1) ms l0)(b:bp k0 (n+1) n ms l1)(k1:0<=kd)(k7:kd<7):∃w m' d,yR cl dS [.tup [.ref l0,.ref l1],.int kd,.int c] ms=.ok w m'/\(∀(l:Nat) o,l<k0->ms[l]?=some o->m'[l]?=some o)/\ai (λl=>k0<=l) m' d w/\zp 6 d=true/\yK d=false:=by
 have kl:k0<=ms.length:=by
  obtain⟨a,rs,b,_⟩:=a;have:=vj b;lia
 have s0:aF cl lG [some (.tup [.ref l0,.ref l1]),some (.int kd),some (.int c),none,none,none,none,none] ms=.next [some (.tup [.ref l0,.ref l1]),some (.int kd),some (.int c),some (.ref l0),some (.ref l1),none,none,none] ms:=rfl;obtain⟨odd,ho,vo⟩:=Cu (cd:=cd) c (a:=none) (b:=none) (x:=none) (y:=none) (f:=none) (g:=none) (h:=none);obtain⟨wo,m1,e1,le1,r1⟩:=xN H (R:=λ_=>False) (m:=ms) (env:=[some (.tup [.ref l0,.ref l1]),some (.int kd),some (.int c),some (.ref l0),some (.ref l1),none,none,none]) (bD.cons aK (bD.cons aK (bD.cons lK (bD.cons aK (bD.cons aK (bD.cons aK (bD.cons aK (bD.cons aK bD.nil)))))))) vo;have r1':ai (λl=>ms.length<=l) m1 odd wo:=ai.frame (λl o z x=>⟨z.elim False.elim id,x⟩) _ _ r1;have s1:=vh (cl:=cl) (i:=5) e1;have ei:aF cl (.ite (.cmp .eq (.var 1) (.lit (.int 0))) (.ret fS) .skip) [some (.tup [.ref l0,.ref l1]),some (.int kd),some (.int c),some (.ref l0),some (.ref l1),some wo,none,none] m1=if kd=0 then aF cl (.ret fS) [some (.tup [.ref l0,.ref l1]),some (.int kd),some (.int c),some (.ref l0),some (.ref l1),some wo,none,none] m1 else .next [some (.tup [.ref l0,.ref l1]),some (.int kd),some (.int c),some (.ref l0),some (.ref l1),some wo,none,none] m1:=by
  show(af cl (.cmp .eq (.var 1) (.lit (.int 0))) _ m1).bindS _ _=_;rw[mr (x:=.int kd) (hv rfl) (show af cl (.lit (.int 0)) _ m1=.ok (.int 0) m1 from rfl),show cop .eq (.int kd) (.int 0) m1=.ok (.bl (decide (kd=0))) m1 from rfl];by_cases z:kd=0
  .rw[MN z,MS z];rfl
  .rw[MO z,MR z];rfl
 by_cases hk:kd=0
 .obtain ⟨A,a1,a2,a3⟩:=(a.up le1).rep;obtain⟨D,d1,d2,d3⟩:=(b.up le1).rep;obtain⟨d,hd,vd⟩:=Ct (cd:=cd) c (a:=none) (b:=none) (f:=none) (g:=none) (h:=none) (x:=ak A) (y:=ak D);obtain⟨w,m2,e2,le2,r2⟩:=xN H (R:=λl=>k0<=l) (m:=m1) (env:=[some (.tup [.ref l0,.ref l1]),some (.int kd),some (.int c),some (.ref l0),some (.ref l1),some wo,none,none]) (bD.cons aK (bD.cons aK (bD.cons lK (bD.cons (vK a3) (bD.cons (vK d3) (bD.cons aK (bD.cons aK (bD.cons aK bD.nil)))))))) vd;have l1':=le1.len;obtain⟨q1,q2⟩:=CN (vV (k:=2) (by lia) λx hx=>by rw[(a2 x hx).1];lia) (vV (k:=2) (by lia) λx hx=>by rw[(d2 x hx).1];lia) hd;refine⟨w,m2,d,?_,λl o _ z=>le2 l o (le1 l o z),ai.frame (λl o z x=>⟨z.elim (λy=>y) λy=>Qp (Qp kl l1') y,x⟩) _ _ r2,q1,q2⟩;have z:aF cl dS.body (yi dS [.tup [.ref l0,.ref l1],.int kd,.int c]) ms=.ret w m2:=(zy s0).trans ((zy s1).trans (EV (by
   rw[MN hk]at ei;refine ei.trans ?_;show(af cl fS _ m1).bindS _ _=_;rw[e2]
   rfl)))
  unfold yR;rw[MN (by rfl),z]
 .rw[MO hk]at ei;have eL:af cl (.lst (.pair (.var 3) (.pair (.var 4) .unit))) [some (.tup [.ref l0,.ref l1]),some (.int kd),some (.int c),some (.ref l0),some (.ref l1),some wo,none,none] m1=.ok (.ref m1.length) (m1++[.lst [.ref l0,.ref l1]]):=rfl;have hm:(m1++[Ob.lst [.ref l0,.ref l1]])[m1.length]?=some (.lst [.ref l0,.ref l1]):=by rw[Qo (Qk _)];simp
  have k2:Le m1 (m1++[Ob.lst [.ref l0,.ref l1]]):=Le.app _ _;obtain⟨v,hv2,eI⟩:=iP (cl:=cl) (env:=[some (.tup [.ref l0,.ref l1]),some (.int kd),some (.int c),some (.ref l0),some (.ref l1),some wo,none,none]) (m:=m1++[.lst [.ref l0,.ref l1]]) (c:=c) (j:=8) rfl (by lia) (G:=.lit (.int 2)) (q:=2) rfl (by lia);obtain⟨lt,p,q,tb,e6⟩:∃lt p q,Tb n l0 l1 lt p q/\af cl (.idx (.lst (.pair (.var 3) (.pair (.var 4) .unit))) (.bin .mod (.bin .fdiv (.var 2) (.lit (.int 8))) (.lit (.int 2)))) [some (.tup [.ref l0,.ref l1]),some (.int kd),some (.int c),some (.ref l0),some (.ref l1),some wo,none,none] m1=.ok (.ref lt) (m1++[.lst [.ref l0,.ref l1]]):=by
   match v,hv2 with
   |0,_=>exact⟨l0,n,n+1,.inl ⟨rfl,rfl,rfl⟩,(vp eL eI).trans (zX hm rfl)⟩
   |1,_=>exact⟨l1,n+1,n,.inr ⟨rfl,rfl,rfl⟩,(vp eL eI).trans (zX hm rfl)⟩
  have T:bp k0 p q ms lt:=by
   rcases tb with⟨rfl,rfl,rfl⟩|⟨rfl,rfl,rfl⟩
   .exact a
   .exact b
  have hp:0<p:=by rcases tb with⟨_,rfl,_⟩|⟨_,rfl,_⟩<;>lia
  obtain⟨_,rs,t1,t2,_⟩:=T.up (le1.trans k2);obtain⟨at0,hat,e7⟩:=iP (cl:=cl) (env:=[some (.tup [.ref l0,.ref l1]),some (.int kd),some (.int c),some (.ref l0),some (.ref l1),some wo,some (.ref lt),none]) (m:=m1++[.lst [.ref l0,.ref l1]]) (c:=c) (j:=16) rfl (by lia) (G:=.blt .len (.pair (.var 6) .unit)) (q:=p) (by rw[hlen (l:=lt) rfl t1];simp[t2]) hp;have B:Bd k0 n l0 l1 lt p q at0 ms wo odd (m1++[.lst [.ref l0,.ref l1]]):=⟨h1,hn,a,b,tb,hat,le1.trans k2,ai.frame (λl o z x=>⟨z,k2 l o x⟩) _ _ r1',(sS ho).1,(sS ho).2⟩;obtain⟨m',e8,g1,d,g2,g3,g4⟩:=pQ (cl:=cl) (kd:=kd) (c:=c) (by lia) k7 B;refine⟨_,m',d,?_,g1,g2,g3,g4⟩;have z:aF cl dS.body (yi dS [.tup [.ref l0,.ref l1],.int kd,.int c]) ms=.ret (.tup [.ref l0,.ref l1]) m':=(zy s0).trans ((zy s1).trans ((zy ei).trans ((zy (vh (i:=6) e6)).trans ((zy (vh (i:=7) e7)).trans e8))));unfold yR;rw[MN (by rfl),z]
end
end Lib
namespace Lib
section
variable{lev:Nat->Lv}{cl:Nat->List Wd->Me->Rz}{cd:Nat->List Dat->Rd}
def yE (h:Le m m')(q:ai R m d w):ai (λ_=>True) m' d w:=ai.frame (λl o _ z=>⟨trivial,h l o z⟩) d w q
def fresh (H:br lev cl cd)(hk:lev k=.full)(q:ae R m ds ws)(h:cd k ds=.ok d):∃w m',cl k ws m=.ok w m'/\Le m m'/\ai (λl=>m.length<=l) m' d w:=by
 have s:=H k ds ws R m q;rw[h]at s;obtain⟨w,m',A,e,l,o,_,ha⟩:=s;refine⟨w,m',e,l,bh.rep d w A ha ?_⟩;have o':bJ (λl=>Rf R m.length l/\l∉A) m' (wK lev k d) d w A:=o;unfold wK at o';rw[hk]at o';by_cases z:ax d=true
 .rw[MN z]at o';exact o'
 .rw[MO z]at o';exact o'
def gR (h:af cl a env m=.ok x m1)(k:af cl b env m1=.ok (.tup ys) m2):af cl (.pair a b) env m=.ok (.tup (x::ys)) m2:=by
 show(af cl a env m).bind _=_;rw[h];show(af cl b env m1).bind _=_;rw[k];rfl
def cP (h:af cl a env m=.ok (.tup ws) m1):af cl (.call k a) env m=cl k ws m1:=by
 show(af cl a env m).bind _=_;rw[h];rfl
def sw (h:af cl e env m=.ok w m1):aF cl (.ret e) env m=.ret w m1:=by
 show(af cl e env m).bindS env _=_;rw[h];rfl
def fY (h:af cl c env m=.ok (.bl x) m1):aF cl (.ite c a b) env m=aF cl (bif x then a else b) env m1:=by
 show(af cl c env m).bindS env _=_;rw[h];cases x<;>rfl
def jb (h0:Sl R m d0 w0)(h1:Sl R m d1 w1)(h2:Sl R m d2 w2)(h3:Sl R m d3 w3)(h4:Sl R m d4 w4)(h5:Sl R m d5 w5)(h6:Sl R m d6 w6)(h7:Sl R m d7 w7)(h8:Sl R m d8 w8):bD R m [d0,d1,d2,d3,d4,d5,d6,d7,d8] [w0,w1,w2,w3,w4,w5,w6,w7,w8]:=
 bD.cons h0 (bD.cons h1 (bD.cons h2 (bD.cons h3 (bD.cons h4 (bD.cons h5 (bD.cons h6 (bD.cons h7 (bD.cons h8 bD.nil))))))))
def nZ (h:yS 12 d=true):yL .ne d d=.ok (.bl false):=by
 have z:dT d d=some true:=by
  unfold dT;rw[show yS yT d=true from h,kO 12 d h];rfl
 simp only[yL,z];rfl
def ET (h:yS 12 d=true):yL .eq d d=.ok (.bl true):=by
 show ff (dT d d)=_;unfold dT;rw[show yS yT d=true from h,kO 12 d h];rfl
def Ag (h:A.length=p)(hx:∀x∈A,x.length=q):A=zm p q λi j=>(A.getD i []).getD j 0:=by
 unfold zm zN;refine List.ext_getElem (by simp[h]) λi h1 h2=>?_;have hi:=hx _ (QE h1);rw[List.getElem_map];refine List.ext_getElem (by simp[hi]) λj g1 g2=>?_;simp[Qf,h1,g1]
def vX (hn:n<=12):zp 6 (aP n W V)=true:=by
 unfold aP;exact x8 (by simp;unfold aq;lia) (zO (vV (k:=2) (by rw[zW];lia) λx hx=>by rw[xx x hx];lia) (zO (vV (k:=2) (by rw[zW];lia) λx hx=>by rw[xx x hx];lia) xf))
def Dl (a:bp k0 n (n+1) m l0)(b:bp k0 (n+1) n m l1):∃W V,PB n W V/\ai (λl=>k0<=l) m (aP n W V) (.tup [.ref l0,.ref l1]):=by
 obtain⟨A,a1,a2,a3⟩:=a.rep;obtain⟨B,b1,b2,b3⟩:=b.rep;refine⟨λi j=>(A.getD i []).getD j 0,λi j=>(B.getD i []).getD j 0,⟨λi j hi hj=>?_,λi j hi hj=>?_⟩,?_⟩
 .have h1:i<A.length:=by lia
  obtain⟨q,z⟩:=a2 _ (QE h1);have h2:j<A[i].length:=by lia
  have:=z _ (QE h2);simpa [Qf,h1,h2]using this
 .have h1:i<B.length:=by lia
  obtain⟨q,z⟩:=b2 _ (QE h1);have h2:j<B[i].length:=by lia
  have:=z _ (QE h2);simpa [Qf,h1,h2]using this
 .unfold aP;rw[<-Ag a1 λx hx=>(a2 x hx).1,<-Ag b1 λx hx=>(b2 x hx).1];exact aj.mpr ⟨_,rfl,.cons a3 (.cons b3 .nil)⟩
def Af (h:PB n F G)(q:ai (λl=>k0<=l) m (aP n F G) w):∃l0 l1,w=.tup [.ref l0,.ref l1]/\bp k0 n (n+1) m l0/\bp k0 (n+1) n m l1:=by
 obtain⟨xs,rfl,r⟩:=aj.mp q;obtain⟨x,r1,rfl,ra,r2⟩:=r.cons_inv;obtain⟨y,r3,rfl,rb,r4⟩:=r2.cons_inv;obtain rfl:=r4.nil_inv;obtain⟨l0,rfl,ta⟩:=Aj (k0:=k0) (p:=n) (q:=n+1) ra (λ_ z=>z) (zW ..) λx hx=>by
  refine⟨xx x hx,λv hv=>?_⟩;obtain⟨i,hi,rfl⟩:=QM.mp hx;obtain⟨j,hj,rfl⟩:=QM.mp hv;have:=Q3.mp hj;exact h.f i j (Q3.mp hi) (by lia)
 obtain⟨l1,rfl,tb⟩:=Aj (k0:=k0) (p:=n+1) (q:=n) rb (λ_ z=>z) (zW ..) λx hx=>by
  refine⟨xx x hx,λv hv=>?_⟩;obtain⟨i,hi,rfl⟩:=QM.mp hx;obtain⟨j,hj,rfl⟩:=QM.mp hv;have:=Q3.mp hi;exact h.g i j (by lia) (Q3.mp hj)
 exact⟨l0,l1,rfl,ta,tb⟩
end
end Lib
namespace Lib
section
variable{lev:Nat->Lv}{cl:Nat->List Dat->Rd}{k:Nat}
noncomputable def dJ(n:Nat)(W V:Nat->Nat->Int)(r c:Nat):Bool:=! decide (W r c+W r (c+1)+V r c+V (r+1) c=2) || (decide (c=0) && ! decide (W r 0=(r:Int)%2) || (decide (c+1=n) && ! decide (W r n=((r:Int)+n+1)%2) || (decide (r=0) && ! decide (V 0 c=((c:Int)+1)%2) || decide (r+1=n) && ! decide (V n c=((n:Int)+c)%2))))
noncomputable def mm:Fn:=⟨3,7,(.seq (.fort 3 4 (.tup (.pair (.var 0) .unit)) .skip) (.seq (.asg 5 (.blt .len (.pair (.var 3) .unit))) (.seq (.asg 6 (.bin .add (.idx (.idx (.var 3) (.var 1)) (.var 2)) (.idx (.idx (.var 3) (.var 1)) (.bin .add (.var 2) (.lit (.int 1)))))) (.seq (.ite (.cmp .ne (.bin .add (.bin .add (.var 6) (.idx (.idx (.var 4) (.var 1)) (.var 2))) (.idx (.idx (.var 4) (.bin .add (.var 1) (.lit (.int 1)))) (.var 2))) (.lit (.int 2))) (.ret (.lit (.bl true))) .skip) (.seq (.ite (.and (.cmp .eq (.var 2) (.lit (.int 0))) (.cmp .ne (.idx (.idx (.var 3) (.var 1)) (.lit (.int 0))) (.bin .mod (.var 1) (.lit (.int 2))))) (.ret (.lit (.bl true))) .skip) (.seq (.ite (.and (.cmp .eq (.var 2) (.bin .sub (.var 5) (.lit (.int 1)))) (.cmp .ne (.idx (.idx (.var 3) (.var 1)) (.var 5)) (.bin .mod (.bin .add (.bin .add (.var 1) (.var 5)) (.lit (.int 1))) (.lit (.int 2))))) (.ret (.lit (.bl true))) .skip) (.seq (.ite (.and (.cmp .eq (.var 1) (.lit (.int 0))) (.cmp .ne (.idx (.idx (.var 4) (.lit (.int 0))) (.var 2)) (.bin .mod (.bin .add (.var 2) (.lit (.int 1))) (.lit (.int 2))))) (.ret (.lit (.bl true))) .skip) (.ret (.and (.cmp .eq (.var 1) (.bin .sub (.var 5) (.lit (.int 1)))) (.cmp .ne (.idx (.idx (.var 4) (.var 5)) (.var 2)) (.bin .mod (.bin .add (.var 5) (.var 2)) (.lit (.int 2)))))))))))))⟩
def ES (W V:Nat->Nat->Int)(hr:r<n)(hc:c<n):zw lev cl k mm [aP n W V,.int r,.int c]=.ok (.bl (dJ n W V r c)):=by
 have g1:=y6 (p:=n) (q:=n+1) (F:=W) hr (show c<n+1 by lia);have g2:=y6 (p:=n) (q:=n+1) (F:=W) hr (show c+1<n+1 by lia);have g3:=y6 (p:=n+1) (q:=n) (F:=V) (show r<n+1 by lia) hc;have g4:=y6 (p:=n+1) (q:=n) (F:=V) (show r+1<n+1 by lia) hc;have g5:=y6 (p:=n) (q:=n+1) (F:=W) hr (show 0<n+1 by lia);have g6:=y6 (p:=n) (q:=n+1) (F:=W) hr (show n<n+1 by lia);have g7:=y6 (p:=n+1) (q:=n) (F:=V) (show 0<n+1 by lia) hc;have g8:=y6 (p:=n+1) (q:=n) (F:=V) (show n<n+1 by lia) hc;rw[show((c+1:Nat):Int)=(c:Int)+1 by lia]at g2;rw[show((r+1:Nat):Int)=(r:Int)+1 by lia]at g4;rw[show((0:Nat):Int)=0 from rfl]at g5 g7;have m2:∀x:Int,yY .mod (.int x) (.int 2)=.ok (.int (x%2)):=λx=>wn x 2 (by lia);have hT:ao cl (.tup (.pair (.var 0) .unit)) [some (aP n W V),some (.int r),some (.int c),none,none,none,none]=.ok (.tup [aP n W V]):=rfl;have hfort:∀l0 l1 l2,∃lv',aG lev cl (.fort 3 4 (.tup (.pair (.var 0) .unit)) .skip) [some (aP n W V),some (.int r),some (.int c),none,none,none,none] [l0,l1,l2,.full,.full,.full,.full]=.next [some (aP n W V),some (.int r),some (.int c),some (ak (zm n (n+1) W)),some (ak (zm (n+1) n V)),none,none] lv':=by
  intro l0 l1 l2;refine⟨[.no,l1,l2,.no,.no,.full,.full],?_⟩;rw[nK,hT];simp only[aX,yI,aP,yB,yr];simp[bo,ak,wg,bb]
 unfold zw;rw[MN (by rfl)];show zG (lev k) (aG lev cl (.seq (.fort 3 4 _ _) (.seq (.asg 5 _) (.seq (.asg 6 _) (.seq (.ite _ _ _) (.seq (.ite _ _ _) (.seq (.ite _ _ _) (.seq (.ite _ _ _) (.ret _)))))))) [some (aP n W V),some (.int r),some (.int c),none,none,none,none] [bo (aP n W V),bo (.int r),bo (.int c),.full,.full,.full,.full])=_;obtain⟨lv',e⟩:=hfort (bo (aP n W V)) (bo (.int r)) (bo (.int c));rw[zE,e,zg,zE,zL];simp only[zM,zl,zh,ze,za,aE,zf,wt,aX];rw[zS (by simp)];simp only[zg,Qe,Qd];rw[zE,zL];simp only[zH,zI,zd,ze,za,aE,zY,g1,g2,aX];rw[zS (by simp)];simp only[zg,Qe,Qd];have c1:((c:Int)=0)↔c=0:=by lia
 have c2:((c:Int)=(n:Int)-1)↔c+1=n:=by lia
 have c3:((r:Int)=0)↔r=0:=by lia
 have c4:((r:Int)=(n:Int)-1)↔r+1=n:=by lia
 unfold dJ;refine qE ?_ (qE (xX ?_ ?_) (qE (xX ?_ ?_) (qE (xX ?_ ?_) ?_)))
 .simp only[zD,zH,zI,zd,ze,za,aE,zY,g3,g4,ke]
 .simp only[zD,zd,ze,za,aE,xU,c1]
 .simp only[zD,zI,zH,zd,ze,za,aE,m2,ke,g5]
 .simp only[zD,zH,zd,ze,za,aE,xR,xU,c2]
 .simp only[zD,zI,zH,zd,ze,za,aE,zY,m2,ke,g6]
 .simp only[zD,zd,ze,za,aE,xU,c3]
 .simp only[zD,zI,zH,zd,ze,za,aE,zY,m2,ke,g7]
 .rw[zZ,xX (p:=decide (r+1=n)) (q:=! decide (V n c=((n:Int)+c)%2))]
  .simp[zG]
  .simp only[zD,zH,zd,ze,za,aE,xR,xU,c4]
  .simp only[zD,zI,zH,zd,ze,za,aE,zY,m2,ke,g8]
def eQ {i j:Nat}(h:W i j=0\/W i j=1)(hp:((i:Int)+j)%2=1):ar W i j=2*W i j-1:=by
 unfold ar;rw[hp];rcases h with h|h<;>rw[h]<;>rfl
def eR {i j:Nat}(h:W i j=0\/W i j=1)(hp:((i:Int)+j)%2=0):ar W i j=1-2*W i j:=by
 unfold ar;rw[hp];rcases h with h|h<;>rw[h]<;>rfl
def sR (W V:Nat->Nat->Int):PM n (ar W) (ar V):=by
 have h:∀W i j,ar W i j=1\/ar W i j=-1:=λW i j=>by
  unfold ar;split
  .exact .inl rfl
  .exact .inr rfl
 exact⟨λi j _ _=>h W i j,λi j _ _=>h V i j⟩
def sQ (h:W i j=0\/W i j=1):sd (ar W) i j=W i j:=by
 unfold sd;rcases Wq ((i:Int)+j)with p|p
 .rw[eR h p,p];rcases h with h|h<;>rw[h]<;>rfl
 .rw[eQ h p,p];rcases h with h|h<;>rw[h]<;>rfl
def sZ (h:PB n W V)(hr:r<n)(hc:c<n):dJ n W V r c=wr n (ar W) (ar V) r c:=by
 have b1:=h.f r c hr (by lia);have b2:=h.f r (c+1) hr (by lia);have b3:=h.g r c (by lia) hc;have b4:=h.g (r+1) c (by lia) hc;have b5:=h.f r 0 hr (by lia);have b6:=h.f r n hr (by lia);have b7:=h.g 0 c (by lia) hc;have b8:=h.g n c (by lia) hc;have a1:(W r c+W r (c+1)+V r c+V (r+1) c=2)↔(ar W r c-ar W r (c+1)+ar V r c-ar V (r+1) c=0):=by
  rcases Wq ((r:Int)+c)with p|p
  .rw[eR b1 p,eQ b2 (by lia),eR b3 p,eQ b4 (by lia)];lia
  .rw[eQ b1 p,eR b2 (by lia),eQ b3 p,eR b4 (by lia)];lia
 have a2:(¬W r 0=(r:Int)%2)↔ar W r 0=-1:=by
  rcases Wq ((r:Int)+(0:Nat))with p|p
  .rw[eR b5 p];lia
  .rw[eQ b5 p];lia
 have a3:(¬W r n=((r:Int)+n+1)%2)↔ar W r n=1:=by
  rcases Wq ((r:Int)+n)with p|p
  .rw[eR b6 p];lia
  .rw[eQ b6 p];lia
 have a4:(¬V 0 c=((c:Int)+1)%2)↔ar V 0 c=1:=by
  rcases Wq (((0:Nat):Int)+c)with p|p
  .rw[eR b7 p];lia
  .rw[eQ b7 p];lia
 have a5:(¬V n c=((n:Int)+c)%2)↔ar V n c=-1:=by
  rcases Wq ((n:Int)+c)with p|p
  .rw[eR b8 p];lia
  .rw[eQ b8 p];lia
 unfold dJ wr;simp only[<-decide_not,a1,a2,a3,a4,a5]
def Dk (h:PB n W V):aP n (sd (ar W)) (sd (ar V))=aP n W V:=by
 unfold aP;rw[wV (F:=sd (ar W)) (G:=W) λi j hi hj=>sQ (h.f i j hi (by lia)),wV (F:=sd (ar V)) (G:=V) λi j hi hj=>sQ (h.g i j (by lia) hj)]
noncomputable def lO(kp kg k0:Nat):Fn:=⟨1,1,(.seq (.ite (.not (.call kp (.pair (.var 0) (.pair (.tup (.pair (.lit (.int 1)) (.pair (.lit (.int 0)) .unit))) .unit)))) (.ret (.tup (.pair (.lit .non) .unit))) .skip) (.ret (.call k0 (.pair (.tup (.pair (.call kg (.pair (.idx (.var 0) (.lit (.int 0))) .unit)) (.pair (.call kg (.pair (.idx (.var 0) (.lit (.int 1))) .unit)) .unit))) .unit))))⟩
def sP:ao cl (.tup (.pair (.lit (.int 1)) (.pair (.lit (.int 0)) .unit))) de=.ok wd:=rfl
def HI (hp:cl kp [d,wd]=.ok (.bl false)):zw lev cl k (lO kp kg k0) [d]=.ok (.tup [.non]):=by
 unfold zw;rw[MN (by rfl)];show zG (lev k) (aG lev cl (.seq (.ite _ _ _) (.ret _)) [some d] _)=_;rw[yW,zV];simp only[y8,zu,zl,zh,sP,za,aE,zf,hp];rfl
def Dj (hf:Vl.ax d=true)(hp:cl kp [aP n W V,wd]=.ok (.bl true))(h1:cl kg [ak (zm n (n+1) W)]=.ok (ak (zm n (n+1) (ar W))))(h2:cl kg [ak (zm (n+1) n V)]=.ok (ak (zm (n+1) n (ar V))))(h3:cl k0 [aP n (ar W) (ar V)]=.ok d):zw lev cl k (lO kp kg k0) [aP n W V]=.ok d:=by
 have i0:yt (aP n W V) (.int 0)=.ok (ak (zm n (n+1) W)):=rfl;have i1:yt (aP n W V) (.int 1)=.ok (ak (zm (n+1) n V)):=rfl;have eT:ao cl (.tup (.pair (.call kg (.pair (.idx (.var 0) (.lit (.int 0))) .unit)) (.pair (.call kg (.pair (.idx (.var 0) (.lit (.int 1))) .unit)) .unit))) [some (aP n W V)]=.ok (aP n (ar W) (ar V)):=by
  simp only[lp,zu,zl,zh,zI,zd,za,aE,zf,i0,i1,h1,h2];rfl
 unfold zw;rw[MN (by rfl)];show zG (lev k) (aG lev cl (.seq (.ite _ _ _) (.ret _)) [some (aP n W V)] _)=_;rw[yW,zV];simp only[y8,zu,zl,zh,sP,za,aE,zf,hp,Q8,aX,yr,zg,zZ,eT,h3];simp[zG,hf]
end
end Lib
namespace Lib
section
variable{lev:Nat->Lv}{cl:Nat->List Dat->Rd}
noncomputable def AJ(ka:Nat):Sm:=.seq (.fort 1 2 (.tup (.pair (.call ka (.pair (.var 0) .unit)) .unit)) .skip) (.seq (.asg 3 (.lst .unit)) (.forv 4 (.tup (.pair (.var 1) (.pair (.var 2) .unit))) lL))
noncomputable def Jp:Ex:=.tup (.pair (.idx (.var 3) (.lit (.int 0))) (.pair (.idx (.var 3) (.lit (.int 1))) .unit))
def HH (hn:n<=12)(ha:cl ka [ak R]=.ok (aP n F G)):∃o4 o5 o6 o7 lv,aG lev cl (AJ ka) (zT (wP ka) [ak R]) (zP (wP ka) [ak R])=.next [some (ak R),some (ak (zm n (n+1) F)),some (ak (zm (n+1) n G)),some (.lst [ak (zm n (n+1) (sd F)),ak (zm (n+1) n (sd G))]),o4,o5,o6,o7] lv/\lv[3]?=some .full:=by
 have hnew:yO []=.ok (row []):=rfl;have hT:ao cl (.tup (.pair (.call ka (.pair (.var 0) .unit)) .unit)) [some (ak R),none,none,none,none,none,none,none]=.ok (.tup [aP n F G]):=by
  simp only[lp,zu,zl,zh,za,aE,zf,ha];rfl
 obtain⟨a6,a7,b6,b7,e1⟩:=jW (lev:=lev) (cl:=cl) (p:=n) (q:=n+1) (by lia) (by lia) F (A:=[]) (by decide) (some (ak R)) (some (ak (zm n (n+1) F))) (some (ak (zm (n+1) n G))) none none none .no .no .no .no .full .full .full rfl;obtain⟨c6,c7,g6,g7,e2⟩:=jW (lev:=lev) (cl:=cl) (p:=n+1) (q:=n) (by lia) (by lia) G (A:=[ak (zm n (n+1) (sd F))]) (by simp[aq]) (some (ak R)) (some (ak (zm n (n+1) F))) (some (ak (zm (n+1) n G))) none a6 a7 .no .no .no .no .full b6 b7 rfl;have hfort:aG lev cl (.fort 1 2 (.tup (.pair (.call ka (.pair (.var 0) .unit)) .unit)) .skip) [some (ak R),none,none,none,none,none,none,none] [.no,.full,.full,.full,.full,.full,.full,.full]=.next [some (ak R),some (ak (zm n (n+1) F)),some (ak (zm (n+1) n G)),none,none,none,none,none] [.no,.no,.no,.full,.full,.full,.full,.full]:=by
  rw[nK,hT];simp only[aX,yI,aP,yB,yr];simp[bo,ak,wg,bb]
 have hfl:ax (.tup [ak (zm n (n+1) F),ak (zm (n+1) n G)])=false:=by simp[ak]
 have ht2:ao cl (.tup (.pair (.var 1) (.pair (.var 2) .unit))) [some (ak R),some (ak (zm n (n+1) F)),some (ak (zm (n+1) n G)),some (row []),none,none,none,none]=.ok (.tup [ak (zm n (n+1) F),ak (zm (n+1) n G)]):=rfl;refine⟨some (ak (zm (n+1) n G)),none,c6,c7,[.no,.no,.no,.full,.no,.full,g6,g7],?_,rfl⟩;show aG lev cl (.seq _ (.seq _ (.forv 4 _ _))) [some (ak R),none,none,none,none,none,none,none] [bo (ak R),.full,.full,.full,.full,.full,.full,.full]=_;rw[show bo (ak R)=.no from by simp[bo,ak],zE,hfort,zg,Ew];simp only[zL,wM,zh,aE,zf,hnew,aX];rw[yQ (by simp[row])];simp only[zg,Qe,Qd];rw[wN,ht2];simp only[aX,yI,hfl,QR,if_false,yB,Qe,Qd,show ∀A:List (List Int),bo (ak A)=.no from λA=>by simp[bo,ak]];rw[show(wg (.tup (.pair (.var 1) (.pair (.var 2) .unit))) [some (ak R),some (ak (zm n (n+1) F)),some (ak (zm (n+1) n G)),some (row []),none,none,none,none] [Lv.no,Lv.no,Lv.no,Lv.full,Lv.full,Lv.full,Lv.full,Lv.full])=[Lv.no,Lv.no,Lv.no,Lv.full,Lv.full,Lv.full,Lv.full,Lv.full]from rfl];simp only[Qe,Qd];rw[show(some (row []):Option Dat)=some (.lst [])from rfl,e1];simp only[Qe,Qd,QG];rw[e2];rfl
end
section
variable{lev:Nat->Lv}{cl:Nat->List Wd->Me->Rz}{cd:Nat->List Dat->Rd}
set_option tactic.hygienic true in
def ER (h:aF cl (.seq a (.seq b c)) env m=.next e1 m1):aF cl (.seq a (.seq b (.seq c r))) env m=aF cl r e1 m1:=by
 have h0:(match aF cl a env m with |.next e1 m1=>(match aF cl b e1 m1 with |.next e1 m1=>aF cl c e1 m1|r=>r)|r=>r)=.next e1 m1:=h;show(match aF cl a env m with |.next e1 m1=>(match aF cl b e1 m1 with |.next e1 m1=>(match aF cl c e1 m1 with |.next e1 m1=>aF cl r e1 m1|r=>r)|r=>r)|r=>r)=_;cases h1:aF cl a env m with
 |next e2 m2=>
  rw[h1]at h0;dsimp only at h0 ⊢;cases h2:aF cl b e2 m2 with
  |next e3 m3=>
   rw[h2]at h0;dsimp only at h0 ⊢;rw[h0]
  |_=>rw[h2]at h0;cases h0
 |_=>rw[h1]at h0;cases h0
def HG (H:br lev cl cd)(hn:n<=12)(ha:cd ka [ak R]=.ok (aP n F G)){S:Nat->Prop}(q:ai S m (ak R) w):∃w' m',yR cl (wP ka) [w] m=.ok w' m'/\Le m m'/\ai (λl=>m.length<=l) m' (aP n (sd F) (sd G)) w':=by
 obtain⟨o4,o5,o6,o7,lv,e,hl⟩:=HH (lev:=lev) (cl:=cd) (ka:=ka) hn ha;have s:=wZ H (AJ ka) m _ _ _ _ (qB (wP ka) (.cons q .nil));rw[e]at s;obtain⟨env,m1,A,h1,I,K1⟩:=s;obtain⟨w3,e3,o3⟩:=I.slot 3 _ .full rfl hl;obtain⟨l,xs,B,rfl,hA,hm,ow⟩:=aZ.mp (show bh m1 _ w3 (A 3)from o3);obtain⟨x,r1,B1,C1,rfl,rfl,ox,or1⟩:=ow.cons_inv;obtain⟨y,r2,B2,C2,rfl,rfl,oy,AM⟩:=or1.cons_inv;obtain⟨rfl,rfl⟩:=AM.nil_inv;have bd:∀a,a∈A 3->m.length<=a:=λa h=>(I.bd 3 a h).1;rw[hA]at bd;refine⟨.tup [x,y],m1,?_,λl o z=>(K1.1 l o (λ_ h=>by cases h) z).2,aj.mpr ⟨_,rfl,.cons (bh.rep _ _ _ (λa h=>bd a (by simp[h])) ox) (.cons (bh.rep _ _ _ (λa h=>bd a (by simp[h])) oy) .nil)⟩⟩;have er:af cl Jp env m1=.ok (.tup [x,y]) m1:=by
  have i0:af cl (.idx (.var 3) (.lit (.int 0))) env m1=.ok x m1:=(vp (hv e3) (show af cl (.lit (.int 0)) env m1=.ok (.int ((0:Nat):Int)) m1 from rfl)).trans (zX hm rfl);have i1:af cl (.idx (.var 3) (.lit (.int 1))) env m1=.ok y m1:=(vp (hv e3) (show af cl (.lit (.int 1)) env m1=.ok (.int ((1:Nat):Int)) m1 from rfl)).trans (zX hm rfl);show(af cl (.pair (.idx (.var 3) (.lit (.int 0))) (.pair (.idx (.var 3) (.lit (.int 1))) .unit)) env m1).bind _=_;rw[gR i0 (kA i1)];rfl
 have z:aF cl (wP ka).body (yi (wP ka) [w]) m=.ret (.tup [x,y]) m1:=(ER h1).trans (sw er);unfold yR;rw[MN (by rfl),z]
end
end Lib
namespace Lib
structure B6(cd:Nat->List Dat->Rd)(ns:List Int)(n:Nat)(c0 c1 c2 c3 c4:Int)(X R:List (List Int))(F G:Nat->Nat->Int)(ds:List Int):Prop where
 h1:1<=n
 hn:n<=12
 t0:cd 16 [.scr ns,.int 0]=.ok (.int c0)
 t1:cd 16 [.scr ns,.int 1]=.ok (.int c1)
 t2:cd 16 [.scr ns,.int 2]=.ok (.int c2)
 t3:cd 16 [.scr ns,.int 3]=.ok (.int c3)
 t4:cd 16 [.scr ns,.int 4]=.ok (.int c4)
 size:cd 19 [.int c0]=.ok (.int n)
 tri:cd 20 [.int c1,.int n]=.ok (ak X)
 sta:cd 21 [ak X]=.ok (ak R)
 arrw:cd 23 [ak R]=.ok (aP n F G)
 pmw:PB n F G
 num:cd 18 [.int c3,.int 21]=.ok (row ds)
 len:ds.length=21
 cop:∀d,zp 6 d=true->cd 25 [d]=.ok d
 flt:∀W V,∃d,cH n (dJ n W V) d/\cd 30 [aP n W V]=.ok d
 soa:∀W V,PB n W V->(∀r c,r<n->c<n->dJ n W V r c=false)->∃T,cd 15 [aP n W V]=.ok T/\cd 23 [T]=.ok (aP n W V)
 spo:∀W V d,PB n W V->cH n (dJ n W V) d->d≠.non->cd 31 [aP n W V]=.ok d
 spn:∀d,zp 6 d=true->yK d=false->cd 31 [d]=.ok .non
 flr:∀v:Int,v=0\/v=13->∃d,cd 32 [.int v]=.ok d/\zp 6 d=true/\yK d=false
 sam:cd 24 [ak R,ak R]=.ok (.bl true)
 own:cd 15 [aP n F G]=.ok (ak R)
section
variable{lev:Nat->Lv}{cl:Nat->List Wd->Me->Rz}{cd:Nat->List Dat->Rd}{ns:List Int}{n:Nat}{c0 c1 c2 c3 c4:Int}{X R:List (List Int)}{F G:Nat->Nat->Int}{ds:List Int}
noncomputable def cE(i:Int):Ex:=.call 16 (.pair (.var 0) (.pair (.lit (.int i)) .unit))
noncomputable def rJ:Ex:=.call 19 (.pair (cE 0) .unit)
noncomputable def rG:Ex:=.call 21 (.pair (.call 20 (.pair (cE 1) (.pair (.var 1) .unit))) .unit)
noncomputable def B4:Ex:=.call 23 (.pair (.var 2) .unit)
noncomputable def AV:Ex:=.call 28 (.pair (.var 3) (.pair (.bin .mod (cE 2) (.lit (.int 5))) (.pair (.call 18 (.pair (cE 3) (.pair (.lit (.int 21)) .unit))) .unit)))
noncomputable def rq:Ex:=.call 25 (.pair (.var 3) .unit)
noncomputable def rp:Ex:=.call 30 (.pair (.var 3) .unit)
noncomputable def noS:Sm:=.ret (.lit (.bl false))
noncomputable def q7:Sm:=.ite (.cmp .isN (.var 5) (.lit .non)) (.ite (.cmp .ne (.call 23 (.pair (.call 15 (.pair (.var 4) .unit)) .unit)) (.var 3)) noS .skip) (.ite (.or (.cmp .ne (.call 31 (.pair (.var 4) .unit)) (.var 5)) (.not (.isi .tuple (.call 31 (.pair (.var 4) .unit))))) noS .skip)
noncomputable def q8:Sm:=.ite (.or (.cmp .ne (.var 4) (.var 3)) (.cmp .notN (.call 31 (.pair (.call 32 (.pair (.idx (.lst (.pair (.lit (.int 0)) (.pair (.lit (.int 13)) .unit))) (.bin .mod (cE 4) (.lit (.int 2)))) .unit)) .unit)) (.lit .non))) noS .skip
noncomputable def rm:Ex:=.blt .abs (.pair (cE 4) .unit)
noncomputable def B3:Ex:=.call 26 (.pair (.call 23 (.pair (.var 2) .unit)) (.pair (.bin .mod (.var 6) (.lit (.int 7))) (.pair (.bin .fdiv (.var 6) (.lit (.int 7))) .unit)))
noncomputable def rl:Ex:=.call 25 (.pair (.var 7) .unit)
noncomputable def oT:Ex:=.and (.cmp .isN (.call 31 (.pair (.var 7) .unit)) (.lit .non)) (.and (.cmp .eq (.var 7) (.var 8)) (.call 24 (.pair (.call 15 (.pair (.call 23 (.pair (.var 2) .unit)) .unit)) (.pair (.var 2) .unit))))
noncomputable def o9:Sm:=.seq (.asg 1 rJ) (.seq (.asg 2 rG) (.seq (.asg 3 B4) (.seq (.expr AV) (.seq (.asg 4 rq) (.seq (.asg 5 rp) (.seq q7 (.seq q8 (.seq (.asg 6 rm) (.seq (.asg 7 B3) (.seq (.asg 8 rl) (.ret oT)))))))))))
def fJ (h:cd 16 [.scr ns,.int i]=.ok (.int c)):ao cd (cE i) (some (.scr ns)::de)=.ok (.int c):=by
 unfold cE;simp only[zu,zl,zh,za,zd,aE,zf,h]
def cH.shape (h:cH n f d)(hd:d≠.non):(yL .isN d .non=.ok (.bl false))/\yS 12 d=true/\ck .tuple d=true:=by
 rcases h with⟨rfl,_⟩|⟨r,c,_,_,rfl,_⟩
 .exact MP rfl hd
 .exact ⟨rfl,by simp,rfl⟩
def CM(H:br lev cl cd)(hl:∀{m:Me}{S:Nat->Prop}{w:Wd},ai S m (ak R) w->∃w' m',cl 23 [w] m=.ok w' m'/\Le m m'/\ai (λl=>m.length<=l) m' (aP n F G) w')(K:B6 cd ns n c0 c1 c2 c3 c4 X R F G ds)
  (h23:∀{k0 l0 l1 l2:Nat}{m:Me}{kd:Int},Fl k0 m n l0 l1 l2 ds m->∃m',cl 28 [.tup [.ref l0,.ref l1],.int kd,.ref l2] m=.ok .non m'/\Fl k0 m n l0 l1 l2 ds m')
  (h21:∀{k0 l0 l1:Nat}{m:Me}{kd c:Int},bp k0 n (n+1) m l0->bp k0 (n+1) n m l1->0<=kd->kd<7->∃w m' d,cl 26 [.tup [.ref l0,.ref l1],.int kd,.int c] m=.ok w m'/\(∀(l:Nat) o,l<k0->m[l]?=some o->m'[l]?=some o)/\ai (λl=>k0<=l) m' d w/\zp 6 d=true/\yK d=false) :
  ∃m,aF cl o9 [some (.rol (ns.map Wd.int)),none,none,none,none,none,none,none,none] []=.ret (.bl true) m:=by
 have sA:∀{R:Nat->Prop}{m:Me},Sl R m (some (.scr ns)) (some (.rol (ns.map Wd.int))):=Jo
 -- the size
 have v1:ao cd rJ [some (.scr ns),none,none,none,none,none,none,none,none]=.ok (.int n):=by
  unfold rJ;simp only[zu,zl,zh,fJ K.t0,aE,zf,K.size]
 obtain⟨w1,m1,e1,l1,r1⟩:=xN H.r (R:=λ_=>True) (m:=[]) (env:=[some (.rol (ns.map Wd.int)),none,none,none,none,none,none,none,none]) (jb sA aK aK aK aK aK aK aK aK) v1;obtain rfl:=aa.mp r1
 -- the state
 have v2:ao cd rG [some (.scr ns),some (.int n),none,none,none,none,none,none,none]=.ok (ak R):=by
  unfold rG;simp only[zu,zl,zh,ze,za,fJ K.t1,aE,zf,K.tri,K.sta]
 obtain⟨w2,m2,e2,l2,r2⟩:=xN H.r (R:=λ_=>True) (m:=m1) (env:=[some (.rol (ns.map Wd.int)),some (.int n),none,none,none,none,none,none,none]) (jb sA lK aK aK aK aK aK aK aK) v2;have d2:ai (λl=>l<m2.length) m2 (ak R) w2:=ai.frame (λl o _ z=>⟨vj z,z⟩) _ _ r2
 -- its arrows
 obtain⟨w3,m3,f3,l3,r3⟩:=hl d2;obtain⟨p0,p1,rfl,ta,tb⟩:=Af K.pmw r3;have e3:af cl B4 [some (.rol (ns.map Wd.int)),some (.int n),some w2,none,none,none,none,none,none] m2=.ok (.tup [.ref p0,.ref p1]) m3:=(cP (kA (hv rfl))).trans f3
 -- turned about
 have v4:ao cd (.bin .mod (cE 2) (.lit (.int 5))) [some (.scr ns),none,none,none,none,none,none,none,none]=.ok (.int (c2%5)):=by
  simp only[zH,fJ K.t2,zd,aE];exact wn _ _ (by lia)
 obtain⟨w4,m4,e4,l4,r4⟩:=xN H.r (R:=λ_=>True) (m:=m3) (env:=[some (.rol (ns.map Wd.int)),some (.int n),some w2,some (.tup [.ref p0,.ref p1]),none,none,none,none,none]) (jb sA aK aK aK aK aK aK aK aK) v4;obtain rfl:=aa.mp r4;have v5:ao cd (.call 18 (.pair (cE 3) (.pair (.lit (.int 21)) .unit))) [some (.scr ns),none,none,none,none,none,none,none,none]=.ok (row ds):=by
  simp only[zu,zl,zh,fJ K.t3,zd,aE,zf,K.num]
 obtain⟨w5,m5,e5,l5,r5⟩:=xN H.r (R:=λ_=>True) (m:=m4) (env:=[some (.rol (ns.map Wd.int)),some (.int n),some w2,some (.tup [.ref p0,.ref p1]),none,none,none,none,none]) (jb sA aK aK aK aK aK aK aK aK) v5;obtain⟨p2,xs,rfl,_,hx,rx⟩:=au.mp r5;obtain rfl:=jB rx;have F5:Fl m2.length m5 n p0 p1 p2 ds m5:=⟨λ_ _ _ z=>z,ta.up (l4.trans l5),tb.up (l4.trans l5),hx⟩;obtain⟨m6,e6,F6⟩:=h23 (kd:=c2%5) F5;have s4:aF cl (.expr AV) [some (.rol (ns.map Wd.int)),some (.int n),some w2,some (.tup [.ref p0,.ref p1]),none,none,none,none,none] m3=.next [some (.rol (ns.map Wd.int)),some (.int n),some w2,some (.tup [.ref p0,.ref p1]),none,none,none,none,none] m6:=im ((cP (gR (hv rfl) (gR e4 (gR e5 (show af cl .unit _ m5=.ok (.tup []) m5 from rfl))))).trans e6);have d6:ai (λl=>l<m2.length) m6 (ak R) w2:=ai.frame (λl o z x=>⟨z,F6.lo l o z (((l3.trans l4).trans l5) l o x)⟩) _ _ d2
 -- what came of it
 obtain⟨W,V,pmw,rP⟩:=Dl F6.a F6.b;have pP:=vX (n:=n) (W:=W) (V:=V) K.hn;have qP:yS 12 (aP n W V)=true:=gN 6 _ 6 pP;have v7:ao cd rq [none,none,none,some (aP n W V),none,none,none,none,none]=.ok (aP n W V):=by
  unfold rq;simp only[zu,zl,zh,ze,za,aE,zf,K.cop _ pP]
 obtain⟨w7,m7,e7,l7,r7⟩:=xN H.r (R:=λ_=>True) (m:=m6) (env:=[some (.rol (ns.map Wd.int)),some (.int n),some w2,some (.tup [.ref p0,.ref p1]),none,none,none,none,none]) (jb aK aK aK (vK (yE (Le.refl m6) rP)) aK aK aK aK aK) v7;obtain⟨sd,hsp,hsd⟩:=K.flt W V;have v8:ao cd rp [none,none,none,some (aP n W V),none,none,none,none,none]=.ok sd:=by
  unfold rp;simp only[zu,zl,zh,ze,za,aE,zf,hsd]
 obtain⟨w8,m8,e8,l8,r8⟩:=xN H.r (R:=λ_=>True) (m:=m7) (env:=[some (.rol (ns.map Wd.int)),some (.int n),some w2,some (.tup [.ref p0,.ref p1]),some w7,none,none,none,none]) (jb aK aK aK (vK (yE l7 rP)) aK aK aK aK aK) v8;have rH:ai (λ_=>True) m8 (aP n W V) w7:=yE l8 r7;have rP8:ai (λ_=>True) m8 (aP n W V) (.tup [.ref p0,.ref p1]):=yE (l7.trans l8) rP;have rS:ai (λ_=>True) m8 sd w8:=yE (Le.refl m8) r8
 -- the seventh row
 obtain⟨m9,l9,s7⟩:∃m9,Le m8 m9/\aF cl q7 [some (.rol (ns.map Wd.int)),some (.int n),some w2,some (.tup [.ref p0,.ref p1]),some w7,some w8,none,none,none] m8=.next [some (.rol (ns.map Wd.int)),some (.int n),some w2,some (.tup [.ref p0,.ref p1]),some w7,some w8,none,none,none] m9:=by
  by_cases hd:sd=.non
  .subst hd;have hw:∀r c,r<n->c<n->dJ n W V r c=false:=by
    rcases hsp with⟨_,h⟩|⟨_,_,_,_,h,_⟩
    .exact h
    .cases h
   obtain⟨T,k1,k2⟩:=K.soa W V pmw hw;have va:ao cd (.cmp .isN (.var 5) (.lit .non)) [none,none,none,none,none,some .non,none,none,none]=.ok (.bl true):=rfl;obtain⟨wa,ma,ea,la,ra⟩:=xN H.r (R:=λ_=>True) (m:=m8) (env:=[some (.rol (ns.map Wd.int)),some (.int n),some w2,some (.tup [.ref p0,.ref p1]),some w7,some w8,none,none,none]) (jb aK aK aK aK aK (vK rS) aK aK aK) va;obtain rfl:=ah.mp ra;have vb:ao cd (.cmp .ne (.call 23 (.pair (.call 15 (.pair (.var 4) .unit)) .unit)) (.var 3)) [none,none,none,some (aP n W V),some (aP n W V),none,none,none,none]=.ok (.bl false):=by
    simp only[zD,zu,zl,zh,ze,za,aE,zf,k1,k2,nZ qP]
   obtain⟨wb,mb,eb,lb,rb⟩:=xN H.r (R:=λ_=>True) (m:=ma) (env:=[some (.rol (ns.map Wd.int)),some (.int n),some w2,some (.tup [.ref p0,.ref p1]),some w7,some w8,none,none,none]) (jb aK aK aK (vK (yE la rP8)) (vK (yE la rH)) aK aK aK aK) vb;obtain rfl:=ah.mp rb;exact⟨mb,la.trans lb,(fY ea).trans (fY eb)⟩
  .obtain ⟨x1,x2,x3⟩:=hsp.shape hd;have va:ao cd (.cmp .isN (.var 5) (.lit .non)) [none,none,none,none,none,some sd,none,none,none]=.ok (.bl false):=by
    simp only[zD,ze,za,wm,aE,x1]
   obtain⟨wa,ma,ea,la,ra⟩:=xN H.r (R:=λ_=>True) (m:=m8) (env:=[some (.rol (ns.map Wd.int)),some (.int n),some w2,some (.tup [.ref p0,.ref p1]),some w7,some w8,none,none,none]) (jb aK aK aK aK aK (vK rS) aK aK aK) va;obtain rfl:=ah.mp ra;have k26:=K.spo W V sd pmw hsp hd;have vb:ao cd (.or (.cmp .ne (.call 31 (.pair (.var 4) .unit)) (.var 5)) (.not (.isi .tuple (.call 31 (.pair (.var 4) .unit))))) [none,none,none,none,some (aP n W V),some sd,none,none,none]=.ok (.bl false):=by
    simp only[vm,y8,yV,zD,zu,zl,zh,ze,za,aE,zf,k26,nZ x2,x3];rfl
   obtain⟨wb,mb,eb,lb,rb⟩:=xN H.r (R:=λ_=>True) (m:=ma) (env:=[some (.rol (ns.map Wd.int)),some (.int n),some w2,some (.tup [.ref p0,.ref p1]),some w7,some w8,none,none,none]) (jb aK aK aK aK (vK (yE la rH)) (vK (yE la rS)) aK aK aK) vb;obtain rfl:=ah.mp rb;exact⟨mb,la.trans lb,(fY ea).trans (fY eb)⟩
 -- the eighth row
 obtain⟨v,hv2,hf⟩:∃v:Int,(v=0\/v=13)/\yt (.lst [.int 0,.int 13]) (.int (c4%2))=.ok (.int v):=by
  rcases Wq c4 with h|h
  .exact ⟨0,.inl rfl,by rw[h];rfl⟩
  .exact ⟨13,.inr rfl,by rw[h];rfl⟩
 obtain⟨fd,g1,g2,g3⟩:=K.flr v hv2;have vA:ao cd (.or (.cmp .ne (.var 4) (.var 3)) (.cmp .notN (.call 31 (.pair (.call 32 (.pair (.idx (.lst (.pair (.lit (.int 0)) (.pair (.lit (.int 13)) .unit))) (.bin .mod (cE 4) (.lit (.int 2)))) .unit)) .unit)) (.lit .non))) [some (.scr ns),none,none,some (aP n W V),some (aP n W V),none,none,none,none]=.ok (.bl false):=by
  have eL:∀de,ao cd (.lst (.pair (.lit (.int 0)) (.pair (.lit (.int 13)) .unit))) de=.ok (.lst [.int 0,.int 13]):=λ_=>rfl;simp only[vm,zD,zu,zl,zh,zI,zH,eL,fJ K.t4,zd,wm,ze,za,aE,zf,nZ qP,wn c4 2 (by lia),hf,g1,K.spn fd g2 g3];rfl
 obtain⟨wA,mA,eA,lA,rA⟩:=xN H.r (R:=λ_=>True) (m:=m9) (env:=[some (.rol (ns.map Wd.int)),some (.int n),some w2,some (.tup [.ref p0,.ref p1]),some w7,some w8,none,none,none]) (jb sA aK aK (vK (yE l9 rP8)) (vK (yE l9 rH)) aK aK aK aK) vA;obtain rfl:=ah.mp rA
 -- the thing that has not the form
 have vB:∃c:Int,0<=c/\ao cd rm [some (.scr ns),none,none,none,none,none,none,none,none]=.ok (.int c):=by
  unfold rm;simp only[zM,zl,zh,fJ K.t4,aE,zf];exact⟨_,by first|exact Int.natAbs_nonneg _|lia,rfl⟩
 obtain⟨c,hc0,vB⟩:=vB;obtain⟨wB,mB,eB,lB,rB⟩:=xN H.r (R:=λ_=>True) (m:=mA) (env:=[some (.rol (ns.map Wd.int)),some (.int n),some w2,some (.tup [.ref p0,.ref p1]),some w7,some w8,none,none,none]) (jb sA aK aK aK aK aK aK aK aK) vB;obtain rfl:=aa.mp rB;have l6B:Le m6 mB:=(((l7.trans l8).trans l9).trans lA).trans lB;have dB:ai (λl=>l<mB.length) mB (ak R) w2:=ai.frame (λl o _ z=>⟨vj (l6B l o z),l6B l o z⟩) _ _ d6;obtain⟨wC,mC,eC,lC,rC⟩:=hl dB;obtain⟨q0,q1,rfl,tc,td⟩:=Af K.pmw rC;obtain⟨w9,mD,d9,eD,loD,rD,plD,bdD⟩:=h21 (kd:=c%7) (c:=c/7) tc td (W5 _ (by lia)) (WU _ (by lia));have s10:af cl B3 [some (.rol (ns.map Wd.int)),some (.int n),some w2,some (.tup [.ref p0,.ref p1]),some w7,some w8,some (.int c),none,none] mB=.ok w9 mD:=by
  refine(cP (gR ((cP (kA (hv rfl))).trans eC) (gR ((fb (x:=.int c) (y:=.int 7) (hv rfl) rfl).trans (mq (by lia))) (gR ((fb (x:=.int c) (y:=.int 7) (hv rfl) rfl).trans (sV (by lia))) (show af cl .unit _ mC=.ok (.tup []) mC from rfl))))).trans eD
 have rR:ai (λ_=>True) mD (ak R) w2:=ai.frame (λl o z x=>⟨trivial,loD l o z (lC l o x)⟩) _ _ dB;have r9:ai (λ_=>True) mD d9 w9:=yE (Le.refl mD) rD;have vE:ao cd rl [none,none,none,none,none,none,none,some d9,none]=.ok d9:=by
  unfold rl;simp only[zu,zl,zh,ze,za,aE,zf,K.cop _ plD]
 obtain⟨wE,mE,eE,lE,rE⟩:=xN H.r (R:=λ_=>True) (m:=mD) (env:=[some (.rol (ns.map Wd.int)),some (.int n),some w2,some (.tup [.ref p0,.ref p1]),some w7,some w8,some (.int c),some w9,none]) (jb aK aK aK aK aK aK aK (vK r9) aK) vE;have q9:yS 12 d9=true:=gN 6 _ 6 plD;have vF:ao cd oT [none,none,some (ak R),none,none,none,none,some d9,some d9]=.ok (.bl true):=by
  unfold oT;simp only[gB,zD,zu,zl,zh,ze,za,wm,aE,zf,K.spn d9 plD bdD,ET q9,K.arrw,K.own,K.sam];rfl
 obtain⟨wF,mF,eF,lF,rF⟩:=xN H.r (R:=λ_=>True) (m:=mE) (env:=[some (.rol (ns.map Wd.int)),some (.int n),some w2,some (.tup [.ref p0,.ref p1]),some w7,some w8,some (.int c),some w9,some wE]) (jb aK aK (vK (yE lE rR)) aK aK aK aK (vK (yE lE r9)) (vK (yE (Le.refl mE) rE))) vF;obtain rfl:=ah.mp rF;exact⟨mF,(zy (vh (i:=1) e1)).trans ((zy (vh (i:=2) e2)).trans ((zy (vh (i:=3) e3)).trans ((zy s4).trans ((zy (vh (i:=4) e7)).trans ((zy (vh (i:=5) e8)).trans ((zy s7).trans ((zy (fY eA)).trans ((zy (vh (i:=6) eB)).trans ((zy (vh (i:=7) s10)).trans ((zy (vh (i:=8) eE)).trans (sw eF)))))))))))⟩
end
end Lib
namespace Lib
def Fe {x:List Int}(h:x.length=q)(hx:∀v∈x,v=0\/v=1):vg q (row x)=true:=by
 show(decide (((x.map Dat.int).length:Int)=q)&&(x.map Dat.int).all jz)=true;rw[MS (by simp[h]),Bool.true_and,WE,QF];intro v hv;show(decide (v=1) || decide (v=0))=true;rcases hx v hv with rfl|rfl<;>rfl
def Ae (h:∀i j,i<p->j<q->F i j=0\/F i j=1):((zm p q F).map row).all (vg q)=true:=by
 rw[WE,QF];intro x hx;refine Fe (xx x hx) λv hv=>?_;obtain⟨i,hi,rfl⟩:=QM.mp hx;obtain⟨j,hj,rfl⟩:=QM.mp hv;exact h i j (Q3.mp hi) (Q3.mp hj)
def jC (h1:1<=n)(h2:n<=12)(h:PB n W V):yK (aP n W V)=true:=by
 have e1:=Ae (p:=n) (q:=n+1) (F:=W) λi j hi hj=>h.f i j hi (by lia);have e2:=Ae (p:=n+1) (q:=n) (F:=V) λi j hi hj=>h.g i j (by lia) hj;have l1:((zm n (n+1) W).map row).length=n:=by rw[Qx,zW]
 have l2:((zm (n+1) n V).map row).length=n+1:=by rw[Qx,zW]
 show yK (.tup [.lst ((zm n (n+1) W).map row),.lst ((zm (n+1) n V).map row)])=true;rw[gO,l1,l2,e2,show((n:Int)+1)=((n+1:Nat):Int) by lia,e1,MS (by lia),MS rfl,MS rfl];rfl
def CL (h:AR n W V)(r c:Nat)(hr:r<n)(hc:c<n):wr n W V r c=false:=by
 unfold wr;have a:=h.place r c hr hc;have b:=h.left r hr;have d:=h.right r hr;have e:=h.top c hc;have f:=h.low c hc;simp[a,b,d,e,f]
def Di (h:cH n f d)(hd:d≠.non):yL .notN d .non=.ok (.bl true):=by
 rcases h with⟨rfl,_⟩|⟨r,c,_,_,rfl,_⟩
 .exact MP rfl hd
 .rfl
def cH.congr{n:Nat}{f g:Nat->Nat->Bool}{d:Dat}(h:cH n f d)(e:∀r c,r<n->c<n->f r c=g r c):cH n g d:=by
 rcases h with⟨rfl,h⟩|⟨r,c,hr,hc,rfl,t,b⟩
 .exact .inl ⟨rfl,λr c hr hc=>by rw[<-e r c hr hc];exact h r c hr hc⟩
 .exact .inr ⟨r,c,hr,hc,rfl,by rw[<-e r c hr hc];exact t,λr' c' hr' hc' q=>by rw[<-e r' c' hr' hc'];exact b r' c' hr' hc' q⟩
def Ij (hn:n<=12)(ha:cl ka [ak R]=.ok (aP n F G))(hk:lev k=.no):zw lev cl k (wP ka) [ak R]=.ok (aP n (sd F) (sd G)):=by
 exact HP hn ha hk
end Lib
namespace Lib
section
variable{lev:Nat->Lv}{cl:Nat->List Dat->Rd}{k:Nat}
noncomputable def jY(kw:Nat):Fn:=⟨2,2,(.ret (.and (.call kw (.pair (.var 0) .unit)) (.chain .le .le (.lit (.int 1)) (.var 0) (.var 1))))⟩
def Ii (hw:∀d,cl kw [d]=.ok (.bl (isInt d)))(n m:Int):zw lev cl k (jY kw) [.int n,.int m]=.ok (.bl (decide (1<=n/\n<=m))):=by
 by_cases h:1<=n<;>simp[zw,jY,zT,zP,zG,bO,hw,isInt,h]
noncomputable def ly(ks:Nat):Fn:=⟨1,1,(.ret (.call ks (.pair (.var 0) (.pair (.lit (.int 12)) .unit))))⟩
def HE (hs:cl ks [.int n,.int 12]=.ok (.bl b)):zw lev cl k (ly ks) [.int n]=.ok (.bl b):=by
 simp[zw,ly,zT,zP,zG,bO,hs]
end
end Lib
end Vl
end Mini
namespace Mini
open PySem
end Mini
namespace R23
open PySem L2 Mini
noncomputable def f0:Fn:=Mini.Vl.Lib.jw
abbrev qdd(a:Str)(i:Nat)(N:List Str)(k:Nat)(f:Fn):bg:=⟨a,top i,N,N.take k,f,a⟩
abbrev d0:=qdd "is_whole" 12 ["thing"] 1 f0
noncomputable def f1:Fn:=Mini.Vl.Lib.jY 0
abbrev d1:=qdd "is_size_to" 13 ["thing","most"] 2 f1
noncomputable def f2:Fn:=Mini.Vl.Lib.ly 1
abbrev d2:=qdd "is_size" 14 ["thing"] 1 f2
noncomputable def f3:Fn:=Mini.Vl.Lib.qF 0
abbrev d3:=qdd "is_number_row" 15 ["thing","length"] 2 f3
noncomputable def f4:Fn:=Mini.Vl.Lib.jy 3
abbrev d4:=qdd "is_number_grid" 16 ["thing","rows","columns"] 3 f4
noncomputable def f5:Fn:=Mini.Vl.Lib.jx
abbrev d5:=qdd "are_among" 17 ["row","numbers"] 2 f5
noncomputable def f6:Fn:=Mini.Vl.Lib.vf 4 5
abbrev d6:=qdd "is_grid_of" 18 ["thing","rows","columns","numbers"] 4 f6
noncomputable def f7:Fn:=Mini.Vl.Lib.wO 2 6
abbrev d7:=qdd "is_side_pair" 20 ["thing","numbers","across","n"] 2 f7
noncomputable def f8:Fn:=Mini.Vl.Lib.pK
abbrev d8:=qdd "is_faulty_place" 21 ["across","down","r","c","left","right","above","below","last"] 4 f8
noncomputable def f9:Fn:=Mini.Vl.Lib.nE 8
abbrev d9:=qdd "first_faulty_place" 22 ["across","down","r","c"] 2 f9
noncomputable def Bs:Fn:=Mini.Vl.Lib.nH
abbrev BP:=qdd "signs_of_row" 23 ["row"] 1 Bs
noncomputable def Br:Fn:=Mini.Vl.Lib.md 7 9 10
abbrev BO:=qdd "state_of_arrows" 24 ["thing","spot"] 1 Br
noncomputable def Bn:Fn:=Mini.Vl.Lib.iT
abbrev BN:=qdd "is_odd" 26 ["number"] 1 Bn
noncomputable def Bm:Fn:=Mini.Vl.Lib.mM 12
abbrev BM:=qdd "arrow_row" 27 ["i","row"] 2 Bm
noncomputable def Bl:Fn:=Mini.Vl.Lib.nF 13
abbrev BL:=qdd "arrow_grid" 28 ["grid"] 1 Bl
noncomputable def Bk:Fn:=Mini.Vl.Lib.iS 7 14 11
abbrev BK:=qdd "state_of_sides" 29 ["thing"] 1 Bk
noncomputable def Bj:Fn:=Mini.Vl.Lib.ir
abbrev BJ:=qdd "_law_cell_at" 31 ["_law_script","_law_k"] 2 Bj
noncomputable def Bh:Fn:=Mini.Vl.Lib.jw
abbrev BI:=qdd "_law_whole" 32 ["_law_thing"] 1 Bh
noncomputable def Bg:Fn:=Mini.Vl.Lib.mf
abbrev BH:=qdd "_law_numbers" 33 ["_law_cell","_law_many","_law_found","_law_rest","_law_k","_law_one"] 2 Bg
noncomputable def Bf:Fn:=Mini.Vl.Lib.vG
abbrev BG:=qdd "_law_size_by" 34 ["_law_cell"] 1 Bf
noncomputable def Be:Fn:=Mini.Vl.Lib.mL 18
abbrev BF:=qdd "_law_triangle_by" 35 ["_law_cell","_law_n","_law_xs","_law_found","_law_last","_law_line","_law_k","_law_low"] 2 Be
noncomputable def Bc:Fn:=Mini.Vl.Lib.gJ
abbrev BE:=qdd "_law_state_by" 36 ["_law_triangle","_law_found","_law_k","_law_ahead"] 1 Bc
noncomputable def Bb:Fn:=Mini.Vl.Lib.me
abbrev BD:=qdd "_law_arrows_by" 37 ["_law_state","_law_n","_law_across","_law_down","_law_i"] 1 Bb
noncomputable def Ba:Fn:=Mini.Vl.Lib.wP 22
abbrev BC:=qdd "_law_sides_by" 38 ["_law_state","_law_across","_law_down","_law_found","_law_lines","_law_made","_law_i","_law_line"] 1 Ba
noncomputable def A9:Fn:=Mini.Vl.Lib.nG 17
abbrev BB:=qdd "_law_same" 39 ["_law_told","_law_due","_law_k"] 2 A9
noncomputable def A8:Fn:=Mini.Vl.Lib.lZ 25
abbrev BA:=qdd "_law_copied" 40 ["_law_thing"] 1 A8
noncomputable def A7:Fn:=⟨3,8,(.seq (.fort 3 4 (.tup (.pair (.var 0) .unit)) .skip) (.seq (.asg 5 (.idx (.lst (.pair (.lit (.int 2)) (.pair (.lit (.bl true)) (.pair (.lit .non) (.pair (.lit (.str [49])) (.pair (.neg (.lit (.int 1))) (.pair (.lst (.pair (.lit (.int 1)) .unit)) (.pair (.tup (.pair (.lit (.int 1)) .unit)) (.pair (.lit (.bl false)) .unit))))))))) (.bin .mod (.var 2) (.lit (.int 8))))) (.seq (.ite (.cmp .eq (.var 1) (.lit (.int 0))) (.ret (.idx (.lst (.pair (.lit .non) (.pair (.lit (.int 7)) (.pair (.lit (.str [])) (.pair (.lst (.pair (.var 3) (.pair (.var 4) .unit))) (.pair (.tup (.pair (.var 3) .unit)) (.pair (.tup (.pair (.var 3) (.pair (.var 4) (.pair (.var 4) .unit)))) (.pair (.tup (.pair (.lst .unit) (.pair (.lst (.pair (.lst .unit) .unit)) .unit))) (.pair (.tup (.pair (.lit .non) (.pair (.var 4) .unit))) .unit))))))))) (.bin .mod (.var 2) (.lit (.int 8))))) .skip) (.seq (.asg 6 (.idx (.lst (.pair (.var 3) (.pair (.var 4) .unit))) (.bin .mod (.bin .fdiv (.var 2) (.lit (.int 8))) (.lit (.int 2))))) (.seq (.asg 7 (.bin .mod (.bin .fdiv (.var 2) (.lit (.int 16))) (.blt .len (.pair (.var 6) .unit)))) (.seq (.ite (.cmp .eq (.var 1) (.lit (.int 1))) (.asgS (.idx (.var 6) (.var 7)) (.bin .mod (.bin .fdiv (.var 2) (.lit (.int 200))) (.blt .len (.pair (.idx (.var 6) (.var 7)) .unit))) (.var 5)) .skip) (.seq (.ite (.cmp .eq (.var 1) (.lit (.int 2))) (.expr (.meth .append (.idx (.var 6) (.var 7)) (.pair (.idx (.idx (.var 6) (.var 7)) (.lit (.int 0))) .unit))) .skip) (.seq (.ite (.cmp .eq (.var 1) (.lit (.int 3))) (.expr (.meth .pop (.idx (.var 6) (.var 7)) .unit)) .skip) (.seq (.ite (.cmp .eq (.var 1) (.lit (.int 4))) (.expr (.meth .append (.var 6) (.pair (.blt .list (.pair (.idx (.var 6) (.lit (.int 0))) .unit)) .unit))) .skip) (.seq (.ite (.cmp .eq (.var 1) (.lit (.int 5))) (.asgS (.var 6) (.var 7) (.idx (.lst (.pair (.blt .tuple (.pair (.idx (.var 6) (.var 7)) .unit)) (.pair (.lit .non) (.pair (.lit (.int 3)) (.pair (.lit (.str [49])) .unit))))) (.bin .mod (.bin .fdiv (.var 2) (.lit (.int 200))) (.lit (.int 4))))) .skip) (.seq (.ite (.cmp .eq (.var 1) (.lit (.int 6))) (.expr (.meth .pop (.var 6) .unit)) .skip) (.ret (.tup (.pair (.var 3) (.pair (.var 4) .unit)))))))))))))))⟩
abbrev Bz:=qdd "_law_bad_form" 41 ["_law_pair","_law_kind","_law_cell","_law_across","_law_down","_law_odd","_law_lines","_law_at"] 3 A7
noncomputable def pL:Fn:=⟨1,1,(.ret (.bin .sub (.lit (.int 1)) (.var 0)))⟩
abbrev By:=qdd "_law_other" 42 ["_law_number"] 1 pL
noncomputable def A6:Fn:=⟨3,15,(.seq (.fort 3 4 (.tup (.pair (.var 0) .unit)) .skip) (.seq (.asg 5 (.blt .len (.pair (.var 3) .unit))) (.seq (.asg 6 (.bin .mod (.idx (.var 2) (.lit (.int 0))) (.var 5))) (.seq (.asg 7 (.bin .mod (.idx (.var 2) (.lit (.int 1))) (.var 5))) (.seq (.ite (.cmp .eq (.var 1) (.lit (.int 0))) (.forv 8 (.rng (.lit (.int 0)) (.bin .add (.lit (.int 1)) (.bin .mod (.idx (.var 2) (.lit (.int 2))) (.lit (.int 6)))) (.lit (.int 1))) (.seq (.asg 9 (.idx (.var 0) (.bin .mod (.idx (.var 2) (.bin .add (.bin .mul (.lit (.int 3)) (.var 8)) (.lit (.int 3)))) (.lit (.int 2))))) (.seq (.asg 10 (.idx (.var 9) (.bin .mod (.idx (.var 2) (.bin .add (.bin .mul (.lit (.int 3)) (.var 8)) (.lit (.int 4)))) (.blt .len (.pair (.var 9) .unit))))) (.seq (.asg 11 (.bin .mod (.idx (.var 2) (.bin .add (.bin .mul (.lit (.int 3)) (.var 8)) (.lit (.int 5)))) (.blt .len (.pair (.var 10) .unit)))) (.asgS (.var 10) (.var 11) (.call 27 (.pair (.idx (.var 10) (.var 11)) .unit))))))) .skip) (.seq (.ite (.cmp .eq (.var 1) (.lit (.int 1))) (.for3 9 12 13 (.lst (.pair (.tup (.pair (.var 3) (.pair (.var 6) (.pair (.var 7) .unit)))) (.pair (.tup (.pair (.var 3) (.pair (.var 6) (.pair (.bin .add (.var 7) (.lit (.int 1))) .unit)))) (.pair (.tup (.pair (.var 4) (.pair (.var 6) (.pair (.var 7) .unit)))) (.pair (.tup (.pair (.var 4) (.pair (.bin .add (.var 6) (.lit (.int 1))) (.pair (.var 7) .unit)))) .unit))))) (.asgS (.idx (.var 9) (.var 12)) (.var 13) (.call 27 (.pair (.idx (.idx (.var 9) (.var 12)) (.var 13)) .unit)))) .skip) (.seq (.ite (.cmp .eq (.var 1) (.lit (.int 2))) (.seq (.asg 14 (.idx (.lst (.pair (.lit (.int 0)) (.pair (.var 5) .unit))) (.bin .mod (.idx (.var 2) (.lit (.int 2))) (.lit (.int 2))))) (.asgS (.var 4) (.var 14) (.comp (.call 27 (.pair (.var 15) .unit)) (.idx (.var 4) (.var 14)) (.lit (.bl true))))) .skip) (.seq (.ite (.cmp .eq (.var 1) (.lit (.int 3))) (.seq (.asg 14 (.idx (.lst (.pair (.lit (.int 0)) (.pair (.var 5) .unit))) (.bin .mod (.idx (.var 2) (.lit (.int 2))) (.lit (.int 2))))) (.forv 10 (.var 3) (.asgS (.var 10) (.var 14) (.call 27 (.pair (.idx (.var 10) (.var 14)) .unit))))) .skip) (.ite (.cmp .eq (.var 1) (.lit (.int 4))) (.seq (.asgS (.idx (.var 3) (.var 6)) (.lit (.int 0)) (.call 27 (.pair (.idx (.idx (.var 3) (.var 6)) (.lit (.int 0))) .unit))) (.asgS (.idx (.var 3) (.var 6)) (.var 5) (.call 27 (.pair (.idx (.idx (.var 3) (.var 6)) (.var 5)) .unit)))) .skip)))))))))⟩
abbrev Bx:=qdd "_law_flipped" 43 ["_law_pair","_law_kind","_law_xs","_law_across","_law_down","_law_n","_law_r","_law_c","_law_k","_law_lines","_law_line","_law_at","_law_i","_law_j","_law_edge"] 3 A6
noncomputable def A5:Fn:=Mini.Vl.Lib.mm
abbrev Bw:=qdd "_law_is_wrong" 44 ["_law_pair","_law_r","_law_c","_law_across","_law_down","_law_n","_law_many"] 3 A5
noncomputable def A4:Fn:=Mini.Vl.Lib.iR 29
abbrev Bv:=qdd "_law_fault" 45 ["_law_pair","_law_n","_law_r","_law_c"] 1 A4
noncomputable def AZ:Fn:=Mini.Vl.Lib.iQ 35
abbrev pN:=qdd "_law_spot_of" 46 ["_law_thing","e"] 1 AZ
noncomputable def AY:Fn:=⟨1,1,(.ret (.tup (.pair (.comp (.comp (.lit (.int 0)) (.rng (.lit (.int 0)) (.bin .add (.var 0) (.lit (.int 1))) (.lit (.int 1))) (.lit (.bl true))) (.rng (.lit (.int 0)) (.var 0) (.lit (.int 1))) (.lit (.bl true))) (.pair (.comp (.comp (.lit (.int 1)) (.rng (.lit (.int 0)) (.var 0) (.lit (.int 1))) (.lit (.bl true))) (.rng (.lit (.int 0)) (.bin .add (.var 0) (.lit (.int 1))) (.lit (.int 1))) (.lit (.bl true))) .unit))))⟩
abbrev Bu:=qdd "_law_floor" 47 ["_law_n"] 1 AY
noncomputable def iC:Fn:=⟨1,9,(.seq (.asg 1 (.call 19 (.pair (.call 16 (.pair (.var 0) (.pair (.lit (.int 0)) .unit))) .unit))) (.seq (.asg 2 (.call 21 (.pair (.call 20 (.pair (.call 16 (.pair (.var 0) (.pair (.lit (.int 1)) .unit))) (.pair (.var 1) .unit))) .unit))) (.seq (.asg 3 (.call 23 (.pair (.var 2) .unit))) (.seq (.expr (.call 28 (.pair (.var 3) (.pair (.bin .mod (.call 16 (.pair (.var 0) (.pair (.lit (.int 2)) .unit))) (.lit (.int 5))) (.pair (.call 18 (.pair (.call 16 (.pair (.var 0) (.pair (.lit (.int 3)) .unit))) (.pair (.lit (.int 21)) .unit))) .unit))))) (.seq (.asg 4 (.call 25 (.pair (.var 3) .unit))) (.seq (.asg 5 (.call 30 (.pair (.var 3) .unit))) (.seq (.ite (.cmp .isN (.var 5) (.lit .non)) (.ite (.cmp .ne (.call 23 (.pair (.call 15 (.pair (.var 4) .unit)) .unit)) (.var 3)) (.ret (.lit (.bl false))) .skip) (.ite (.or (.cmp .ne (.call 31 (.pair (.var 4) .unit)) (.var 5)) (.not (.isi .tuple (.call 31 (.pair (.var 4) .unit))))) (.ret (.lit (.bl false))) .skip)) (.seq (.ite (.or (.cmp .ne (.var 4) (.var 3)) (.cmp .notN (.call 31 (.pair (.call 32 (.pair (.idx (.lst (.pair (.lit (.int 0)) (.pair (.lit (.int 13)) .unit))) (.bin .mod (.call 16 (.pair (.var 0) (.pair (.lit (.int 4)) .unit))) (.lit (.int 2)))) .unit)) .unit)) (.lit .non))) (.ret (.lit (.bl false))) .skip) (.seq (.asg 6 (.blt .abs (.pair (.call 16 (.pair (.var 0) (.pair (.lit (.int 4)) .unit))) .unit))) (.seq (.asg 7 (.call 26 (.pair (.call 23 (.pair (.var 2) .unit)) (.pair (.bin .mod (.var 6) (.lit (.int 7))) (.pair (.bin .fdiv (.var 6) (.lit (.int 7))) .unit))))) (.seq (.asg 8 (.call 25 (.pair (.var 7) .unit))) (.ret (.and (.cmp .isN (.call 31 (.pair (.var 7) .unit)) (.lit .non)) (.and (.cmp .eq (.var 7) (.var 8)) (.call 24 (.pair (.call 15 (.pair (.call 23 (.pair (.var 2) .unit)) .unit)) (.pair (.var 2) .unit)))))))))))))))))⟩
abbrev pM:=qdd "law" 48 ["_law_script","_law_n","_law_state","_law_pair","_law_handed","_law_spot","_law_cell","_law_thing","_law_kept"] 1 iC
noncomputable def D:List bg:=[d0,d1,d2,d3,d4,d5,d6,d7,d8,d9,BP,BO,BN,BM,BL,BK,BJ,BI,BH,BG,BF,BE,BD,BC,BB,BA,Bz,By,Bx,Bw,Bv,pN,Bu,pM]
noncomputable def C:Mini.Ctx:=⟨D.map (·.nm),[("GREATEST_SIZE",12)],[]⟩
noncomputable def x0:Fn:=⟨1,2,(.seq (.ite (.not (.call 7 (.pair (.var 0) (.pair (.tup (.pair (.lit (.int 1)) (.pair (.neg (.lit (.int 1))) .unit))) .unit)))) (.ret (.tup (.pair (.lit .non) .unit))) .skip) (.seq (.asg 1 (.call 9 (.pair (.idx (.var 0) (.lit (.int 0))) (.pair (.idx (.var 0) (.lit (.int 1))) .unit)))) (.seq (.ite (.cmp .notN (.var 1) (.lit .non)) (.ret (.tup (.pair (.var 1) .unit))) .skip) (.seq (.expr (.comp (.call 10 (.pair (.var 2) .unit)) (.idx (.var 0) (.lit (.int 0))) (.lit (.bl true)))) (.ret (.tup .unit))))))⟩
abbrev fh:=qdd "state_of_arrows" 24 ["thing","spot"] 1 x0
noncomputable def x1:Fn:=⟨1,1,(.seq (.ite (.not (.call 7 (.pair (.var 0) (.pair (.tup (.pair (.lit (.int 1)) (.pair (.lit (.int 0)) .unit))) .unit)))) (.ret (.tup (.pair (.lit .non) .unit))) .skip) (.ret (.call 34 (.pair (.tup (.pair (.call 14 (.pair (.idx (.var 0) (.lit (.int 0))) .unit)) (.pair (.call 14 (.pair (.idx (.var 0) (.lit (.int 1))) .unit)) .unit))) .unit))))⟩
abbrev et:=qdd "state_of_sides" 29 ["thing"] 1 x1
noncomputable def XD:List bg:=[fh,et]
noncomputable def Q:Xc:=⟨"GyreError",["NoState"],["NoName","NoRoad","NoSize","NoSquare","NoText","NoTurn","Unlike"]⟩
def Jr:iH C "NoState" fh:=⟨by decide +kernel,rfl,rfl,iL.mk (i:=1) rfl rfl (.not rfl rfl (.call rfl (by kernel_rfl) (by kernel_rfl) rfl (.pair rfl rfl .v (.pair rfl rfl (.tup (.pair rfl rfl .int (.pair rfl rfl (.neg rfl .int) .unit))) .unit)))) (.asg rfl rfl (by kernel_rfl) rfl (.call rfl (by kernel_rfl) (by kernel_rfl) rfl (.pair rfl rfl (.idx rfl rfl .v rfl .int) (.pair rfl rfl (.idx rfl rfl .v rfl .int) .unit)))) rfl rfl (.cmp rfl rfl .v rfl .non) (.ret rfl (.comp0 rfl (by kernel_rfl) (.idx rfl rfl .v rfl .int) rfl (.call rfl (by kernel_rfl) (by kernel_rfl) rfl (.pair rfl rfl .v .unit)))) rfl (by kernel_rfl) (by kernel_rfl) (by kernel_rfl) (by kernel_rfl)⟩
def oZ:dW C "NoState" 34 "state_of_arrows" et:=⟨by decide +kernel,rfl,rfl,eX.mk rfl rfl (.not rfl rfl (.call rfl (by kernel_rfl) (by kernel_rfl) rfl (.pair rfl rfl .v (.pair rfl rfl (.tup (.pair rfl rfl .int (.pair rfl rfl .int .unit))) .unit)))) (by kernel_rfl) (by kernel_rfl) (by kernel_rfl) (by kernel_rfl) rfl (.pair rfl rfl (.tup (.pair rfl rfl (.call rfl (by kernel_rfl) (by kernel_rfl) rfl (.pair rfl rfl (.idx rfl rfl .v rfl .int) .unit)) (.pair rfl rfl (.call rfl (by kernel_rfl) (by kernel_rfl) rfl (.pair rfl rfl (.idx rfl rfl .v rfl .int) .unit)) .unit))) .unit)⟩
def o0:iI C Q 35 "state_of_sides" "spot" pN:=⟨by decide +kernel,rfl,rfl,lV.mk (i:=1) (by kernel_rfl) (by kernel_rfl) rfl (.pair rfl rfl .v .unit) (by kernel_rfl) (by kernel_rfl) rfl (by kernel_rfl) (by kernel_rfl) (by kernel_rfl) (by decide) rfl (by kernel_rfl) (by kernel_rfl) (by kernel_rfl) (by kernel_rfl) rfl⟩
def ac {P:bg->Prop}(h:P a)(t:∀d∈l,P d):∀d∈a::l,P d:=Wu.mpr ⟨h,t⟩
set_option maxHeartbeats 0 in
def CK:∀d∈D,lT C d\/iI C Q (D.length+1) et.nm "spot" d:=by
 unfold D;repeat' refine Wu.2 ⟨?_,?_⟩
 all_goals first|exact .inr o0|exact λ_ h=>(Wv h).elim|(refine .inl ⟨by decide +kernel,rfl,rfl,?_⟩;repeat' first|exact .v|exact .int|exact .unit|refine .pair rfl rfl ?_ ?_|refine .bin rfl ?_ rfl ?_|refine .seq ?_ ?_|refine .one ?_|refine .call rfl ?_ ?_ rfl ?_|refine .cmp rfl rfl ?_ rfl ?_|refine .ret rfl ?_|refine .blt rfl ?_ ?_ rfl ?_|refine .ite rfl rfl ?_ ?_ ?_|exact .skip0|refine .lst ?_|refine .rng1 ?_ rfl rfl ?_|refine .comp0 rfl ?_ ?_ rfl ?_|refine .tup ?_|exact .bl|refine .and2 rfl rfl ?_ rfl rfl ?_|refine .isi ?_ ?_ rfl rfl ?_|refine .forv rfl ?_ rfl ?_ ?_|refine .expr rfl rfl ?_|refine .not rfl rfl ?_|refine .meth rfl rfl ?_ rfl rfl ?_ ?_|exact .non|refine .or2 rfl rfl ?_ rfl rfl ?_|refine .neg rfl ?_|refine .asgS rfl rfl ?_ rfl ?_ rfl ?_|refine .unp rfl ?_ rfl ?_ rfl rfl ?_|exact .never|refine .str ?_|refine .andN rfl rfl ?_ rfl ?_|refine .compE0 ?_ ?_ rfl rfl ?_ rfl ?_|refine .slH rfl ?_ rfl ?_|refine .meth0 rfl rfl rfl ?_|refine .chain rfl rfl ?_ rfl ?_ rfl ?_|refine .con ?_ ?_ ?_|refine .ife rfl rfl ?_ rfl ?_ rfl ?_|refine .lrng ?_ ?_ rfl rfl ?_|refine .appPop ?_|refine bG.«while» rfl rfl ?_ ?_|refine .asgC0 rfl ?_ rfl ?_ ?_ rfl ?_|refine .for3 rfl ?_ rfl ?_ rfl ?_ rfl ?_ ?_|refine .idx rfl rfl ?_ rfl ?_|refine .asg rfl rfl ?_ rfl ?_|kernel_rfl|decide)
def JB:ef fh:=λ_ _ _ _ _ _=>lz (λ_=>rfl)
def JA:ef et:=λ_ _ _ _ _ _=>lz (λ_=>rfl)
set_option maxHeartbeats 0 in
def JC:∀d∈D,ef d:=by
 unfold D;repeat' refine Wu.2 ⟨?_,?_⟩
 all_goals first|exact λ_ _ _ _ _ _=>lz (λ_=>rfl)|exact λ_ _ _ _ _ _=>om (λ_ _=>rfl)|exact λ_ _ _ _ _ _=>AH (λ_ _ _=>rfl)|exact λ_ _ _ _ _ _=>Ji (λ_ _ _ _=>rfl)|exact λ_ h=>(Wv h).elim
def dk {K:Qb}(X:K.In h)(G:h.Ns Lf mg){kV:Value}(g:Q6 K Lf d.nm=some (some (.ref a)))(l:K.lookup a=some ⟨oc,od,.func (Wc d.on d.on (xV d.st) (zU d.st) (zo d.st) .none kV dc pm an cd ct),sl⟩)(c:WB K cd d.on=true)(k:QK K (.ref a)=true):wf K mg d:=⟨a,_,nC l c k,Q5 X G g⟩
def io{K:Qb}{A fI:Addr}{cc:ClassData}{od an:Option Addr}{sl:Array (Option Value)}{oc kV dc pm cd ct:Value}(i1:vq K A=true)(i2:PySem.W.clsIn K A=some cc)(i3:cc.hasDict=true)(i4:∀self,refuseLoop self "__setattr__" cc.mro=pure ())(i5:WA K (.ref A) "__setattr__"=some (some (.builtin "object.__setattr__")))(i6:Ww K A (.type "object")=some true)
  (i7:WA K (.ref A) "spot"=some none) (i8:WA K (.ref A) "__init__"=some (some (.ref fI))) (i9:PySem.W.typeIn K (.ref fI)=some (.type "function")) (l:K.lookup fI=some ⟨oc,od,.func (Wc "__init__" "NoState.__init__" (xV dQ) (zU dQ) (zo dQ) .none kV dc pm an cd ct),sl⟩) (c:WB K cd "NoState.__init__"=true) (k:QK K (.ref fI)=true):bB K A fI "spot" "self" dQ:=
 ⟨i1,⟨⟨cc,i2,i3,i4⟩,i5,i6,i7,i8,i9⟩,⟨_,_,nC l c k,(nC l c k).binds λ_ _ _ _ _ _=>om (λ_ _=>rfl)⟩,wT (by decide +kernel),⟨_,_,_,_,rfl,λ_=>rfl⟩,by kernel_rfl,by kernel_rfl,⟨by decide,by decide⟩,⟨by decide,by decide⟩⟩
def mk{K:Qb}{w:Lc}{h:Ld}{mg:Str->Option Value}(X:K.In h)(G:h.Ns Lf mg){cG fI u0 u1 u2 u3 u4 u5 u6 u7:Addr}{t0:Tok}
  (hD:∀e∈D,wf K mg e) (hX:∀e∈XD,wf K mg e)
  (e0:Q6 K Lf "GREATEST_SIZE"=some (some (.int 12 t0)))
  (z:∀nm∈zF,Q6 K Lf nm=some none)
  (xG:Q6 K Lf "GyreError"=some (some (.ref cG)))
  (xg0:Q6 K Lf "NoState"=some (some (.ref u0)))
  (xo0:Q6 K Lf "NoName"=some (some (.ref u1)))
  (xo1:Q6 K Lf "NoRoad"=some (some (.ref u2)))
  (xo2:Q6 K Lf "NoSize"=some (some (.ref u3)))
  (xo3:Q6 K Lf "NoSquare"=some (some (.ref u4)))
  (xo4:Q6 K Lf "NoText"=some (some (.ref u5)))
  (xo5:Q6 K Lf "NoTurn"=some (some (.ref u6)))
  (xo6:Q6 K Lf "Unlike"=some (some (.ref u7)))
  (xE:vq K cG=true)
  (xM:Ww K cG (.type "BaseException")=some true)
  (ya:WA K (.ref u0) "__getattribute__"=some (some (.builtin "BaseException.__getattribute__")))
  (yb:WA K (.ref u0) "__getattr__"=some none)
  (yc:Ww K u0 (.type "BaseException")=some true)
  (yd:WA K (.ref u0) "__class__"=some (some (.builtin "object.__class__")))
  (ye:Ww K u0 (.type "object")=some true)
  (ym:Ww K u0 (.ref cG)=some true)
  (yk:QA K (.ref u0) (.ref u0)=some true)
  (yv:QA K (.ref u0) (.type "ValueError")=some true)
  (yw:Q6 K Lf "ValueError"=some none)
  (yk0:QA K (.ref u0) (.ref u1)=some false)
  (yk1:QA K (.ref u0) (.ref u2)=some false)
  (yk2:QA K (.ref u0) (.ref u3)=some false)
  (yk3:QA K (.ref u0) (.ref u4)=some false)
  (yk4:QA K (.ref u0) (.ref u5)=some false)
  (yk5:QA K (.ref u0) (.ref u6)=some false)
  (yk6:QA K (.ref u0) (.ref u7)=some false)
  (i0:bB K u0 fI "spot" "self" dQ)
  : ((∀e∈D,wf K mg e)/\jI K w mg C/\∀nm∈zF,mg nm=none)/\wf K mg fh/\wf K mg et/\∃G A fI,fV K mg Q G A/\QA K (.ref A) (.type "ValueError")=some true/\mg "ValueError"=none/\mg "NoState"=some (.ref A)/\bB K A fI "spot" "self" dQ:=by
 refine⟨⟨hD,⟨λnm i hi=>?_,λnm qq hi=>?_⟩,λnm hn=>PySem.W.mg_none_of X G (z nm hn)⟩,hX fh (QH ..),hX et (Ql _ (QH ..)),cG,u0,fI,⟨Q5 X G xG,xE,xM,⟨_,rfl,Q5 X G xg0⟩,⟨ya,yb,yc,yd,ye⟩,ym,yk,λc x hx=>?_⟩,yv,PySem.W.mg_none_of X G yw,Q5 X G xg0,i0⟩
 .unfold C at hi;rw[QV]at hi;cases q0:nm==("GREATEST_SIZE":Str)with
  |true=>
   rw[q0]at hi;cases hi;rw[beq_iff_eq.mp q0];exact⟨t0,Q5 X G e0⟩
  |false=>
  rw[q0]at hi;cases hi
 .cases hi
 .have hx':(["NoName","NoRoad","NoSize","NoSquare","NoText","NoTurn","Unlike"]:List Str)[c]?=some x:=hx
  match c,hx' with
  |0,h=>cases h;exact⟨u1,Q5 X G xo0,yk0⟩
  |1,h=>cases h;exact⟨u2,Q5 X G xo1,yk1⟩
  |2,h=>cases h;exact⟨u3,Q5 X G xo2,yk2⟩
  |3,h=>cases h;exact⟨u4,Q5 X G xo3,yk3⟩
  |4,h=>cases h;exact⟨u5,Q5 X G xo4,yk4⟩
  |5,h=>cases h;exact⟨u6,Q5 X G xo5,yk5⟩
  |6,h=>cases h;exact⟨u7,Q5 X G xo6,yk6⟩
  |_+7,h=>cases h
end R23
namespace R23
open Mini
noncomputable def T:List Fn:=[f0,f1,f2,f3,f4,f5,f6,f7,f8,f9,Bs,Br,Bn,Bm,Bl,Bk,Bj,Bh,Bg,Bf,Be,Bc,Bb,Ba,A9,A8,A7,pL,A6,A5,A4,AZ,AY,iC,x0,x1]
open Vl Vl.Lib
noncomputable def gZ:Nat->Lv:=λk=>if k=20\/k=23\/k=25 then .no else .full
abbrev CD(d:Nat):=qz gZ T d
def zQ (h:T[k]?=some f)(ds:List Dat):CD (d+1) k ds=zw gZ (CD d) k f ds:=by
 show qz gZ T (d+1) k ds=_;unfold qz;rw[h]
def nt(k:Nat):gZ k≠.top:=λh=>by
 unfold gZ at h;split at h<;>cases h
def H0(d:Nat)(x:Dat):CD (d+1) 0 [x]=.ok (.bl (isInt x)):=by rw[zQ (f:=jw) rfl];exact qD x
def JR(d:Nat)(x:Dat):CD (d+1) 17 [x]=.ok (.bl (isInt x)):=by rw[zQ (f:=jw) rfl];exact qD x
def H1(d:Nat)(n m:Int):CD (d+2) 1 [.int n,.int m]=.ok (.bl (decide (1<=n/\n<=m))):=by rw[zQ (f:=jY 0) rfl];exact Ii (H0 d) n m
def H2(d:Nat)(n:Int):CD (d+3) 2 [.int n]=.ok (.bl (decide (1<=n/\n<=12))):=by rw[zQ (f:=ly 1) rfl];exact HE (H1 d n 12)
def H3(d:Nat)(x:Dat)(n:Int)(h:iu x=true)(hn:n<=100):CD (d+2) 3 [x,.int n]=.ok (.bl (df n x)):=by rw[zQ (f:=qF 0) rfl];exact HM (H0 d) x n h hn
def H4(d:Nat):∀(x:Dat) (a b:Int),dD x=true->a<=100->b<=100->CD (d+3) 4 [x,.int a,.int b]=.ok (.bl (match x with |.lst xs=>decide ((xs.length:Int)=a)&&xs.all (df b)|_=>false)):=λx a b h ha hb=>by rw[zQ (f:=jy 3) rfl];refine(HL (H3 d) x a b h ha hb).trans ?_;cases x<;>rfl
def H5(d:Nat)(xs:List Dat)(h:xs.all isInt=true)(hl:xs.length<=100):CD (d+1) 5 [.lst xs,wd]=.ok (.bl (xs.all jz)):=by rw[zQ (f:=jx) rfl];exact IX xs h hl
def H6(d:Nat)(x:Dat)(a b:Int)(h:dD x=true)(ha:a<=100)(hb:b<=100):CD (d+4) 6 [x,.int a,.int b,wd]=.ok (.bl (vJ a b x)):=by rw[zQ (f:=vf 4 5) rfl];exact IE (H4 d) (H5 (d+2)) x a b h ha hb
def H7(d:Nat)(x:Dat)(h:fK x=true):CD (d+5) 7 [x,wd]=.ok (.bl (yK x)):=by rw[zQ (f:=wO 2 6) rfl];exact HK (H2 (d+1)) (H6 d) x h
def JG(d:Nat)(x:List Int)(m:Int)(hx:x.length<=100)(hm:m=x.length):CD (d+2) 3 [row x,.int m]=.ok (.bl true):=by rw[zQ (f:=sX 0) rfl];exact GF (H0 d) x hx hm
def JF(d:Nat)(A:List (List Int))(a b:Int)(hA:A.length<=100)(ha:a=A.length)(hb:∀x∈A,x.length<=100/\b=x.length):CD (d+3) 4 [ak A,.int a,.int b]=.ok (.bl true):=by rw[zQ (f:=tL 3) rfl];exact HW (JG d) A hA ha hb
def JE (d:Nat)(hx:x.length<=100)(h:∀v∈x,v=1\/v=-1):CD (d+1) 5 [row x,pm]=.ok (.bl true):=by rw[zQ (f:=jx) rfl];exact HV hx λv hv=>E3 (h v hv)
def B9 (d:Nat){p q:Nat}(hp:p<=100)(hq:q<=100){a b:Int}(ha:a=p)(hb:b=q)(h:∀i j,i<p->j<q->F i j=1\/F i j=-1):CD (d+4) 6 [ak (zm p q F),.int a,.int b,pm]=.ok (.bl true):=by
 rw[zQ (f:=uO 4 5) rfl];refine IY (by rw[zW];lia) (JF d _ a b (by rw[zW];lia) (by rw[zW];exact ha) λx hx=>by rw[xx x hx];exact⟨hq,hb⟩) λx hx=>?_;obtain⟨i,hi,rfl⟩:=QM.mp hx;refine JE (d+2) (by rw[vI];lia) λv hv=>?_;obtain⟨j,hj,rfl⟩:=QM.mp hv;exact h i j (Q3.mp hi) (Q3.mp hj)
def B8 (d:Nat)(h1:1<=n)(h2:n<=12)(h:PM n F G):CD (d+5) 7 [aP n F G,pm]=.ok (.bl true):=by
 rw[zQ (f:=wO 2 6) rfl];exact HU (H2 (d+1)) h1 h2 (B9 d (by lia) (by lia) rfl (by lia) λi j hi hj=>h.f i j hi (by lia)) (B9 d (by lia) (by lia) (by lia) rfl λi j hi hj=>h.g i j (by lia) hj)
def H8 (d:Nat)(W V:Nat->Nat->Int)(r c:Nat)(hr:r<n)(hc:c<n):CD (d+1) 8 [ak (zm n (n+1) W),ak (zm (n+1) n V),.int r,.int c]=.ok (.bl (wr n W V r c)):=by rw[zQ (f:=pK) rfl];exact CP W V hr hc
def H9 (d:Nat)(hn:n<=12)(W V:Nat->Nat->Int):∃s,cH n (wr n W V) s/\CD (d+2) 9 [ak (zm n (n+1) W),ak (zm (n+1) n V)]=.ok s:=by rw[zQ (f:=nE 8) rfl];exact HN hn (H8 d W V)
def JV (d:Nat)(hn:n<=12)(F:Nat->Nat->Int)(r:Nat):CD (d+1) 10 [row (zN (n+1) F r)]=.ok (row (zN n (bL F) r)):=by rw[zQ (f:=nH) rfl];exact HS hn F r rfl
def Ce (d:Nat)(h1:1<=n)(h2:n<=12)(h:AR n F G):CD (d+6) 11 [aP n F G]=.ok (ak (zm n n (bL F))):=by
 rw[zQ (f:=md 7 9 10) rfl];obtain⟨s,hs,e⟩:=H9 (d+3) h2 F G;obtain rfl:=hs.det (.inl ⟨rfl,CL h⟩);exact E1 h2 (B8 d h1 h2 ⟨h.f,h.g⟩) e (λr _=>JV (d+4) h2 F r) rfl rfl
def JU(d:Nat)(n:Int):CD (d+1) 12 [.int n]=.ok (.bl (decide (n%2=1))):=by rw[zQ (f:=iT) rfl];exact EZ n
def JT (d:Nat)(hq:q<=100)(W:Nat->Nat->Int)(i:Nat):CD (d+2) 13 [.int i,row (zN q W i)]=.ok (row (zN q (ar W) i)):=by rw[zQ (f:=mM 12) rfl];exact Fo (JU d) hq W i rfl
def fW (d:Nat)(hp:p<=100)(hq:q<=100)(W:Nat->Nat->Int):CD (d+3) 14 [ak (zm p q W)]=.ok (ak (zm p q (ar W))):=by rw[zQ (f:=nF 13) rfl];exact HQ hp W (JT d hq W) rfl rfl
def JS (d:Nat)(h1:1<=n)(h2:n<=12)(hb:PB n W V)(h:AR n (ar W) (ar V)):CD (d+7) 15 [aP n W V]=.ok (ak (zm n n (bL (ar W)))):=by
 rw[zQ (f:=iS 7 14 11) rfl];exact uN (by rw[H7 (d+1) _ (vW (vX h2)),jC h1 h2 hb]) (fW (d+3) (by lia) (by lia) _) (fW (d+3) (by lia) (by lia) _) (Ce d h1 h2 h) rfl rfl
def iM(d:Nat)(ns:List Int)(i:Nat):∃c:Int,CD (d+1) 16 [.scr ns,.int i]=.ok (.int c):=by rw[zQ (f:=ir) rfl];exact Gx ns i
def Cd(d:Nat)(c:Int)(k:Nat)(hk:k<=100):∃x:List Int,x.length=k/\CD (d+1) 18 [.int c,.int k]=.ok (row x):=by rw[zQ (f:=mf) rfl];exact Et c (m:=k) hk (nt _)
def JQ(d:Nat)(c:Int):∃n:Nat,1<=n/\n<=12/\CD (d+1) 19 [.int c]=.ok (.int n):=by rw[zQ (f:=vG) rfl];exact IH c
def JP (d:Nat)(hn:1<=n)(hn':n<=12)(cell:Int):∃X,iE n X/\CD (d+2) 20 [.int cell,.int n]=.ok (ak X):=by
 rw[zQ (f:=mL 18) rfl];obtain⟨L,h1,h2,e⟩:=GH (lev:=gZ) (k:=20) (λc=>Cd d c 66 (by lia)) rfl hn hn' cell rfl;exact⟨L.reverse,iE.of hn h2 h1,e⟩
def JO(d:Nat)(X:List (List Int))(hX:X.length<=100):CD (d+1) 21 [ak X]=.ok (ak (sg X)):=by rw[zQ (f:=gJ) rfl];exact IF X hX rfl
def Cc (d:Nat)(h:Sq R)(hn:R.length<=100):CD (d+1) 22 [ak R]=.ok (aP R.length (cu R) (cD R)):=by rw[zQ (f:=me) rfl];exact Eo h hn rfl
def Cb (d:Nat)(hn:n<=12)(h:CD d 22 [ak R]=.ok (aP n F G)):CD (d+1) 23 [ak R]=.ok (aP n (sd F) (sd G)):=by rw[zQ (f:=wP 22) rfl];exact Ij hn h rfl
def JN(d:Nat)(A:List (List Int))(hA:A.length<=100)(hr:∀x∈A,x.length<=100):CD (d+2) 24 [ak A,ak A]=.ok (.bl true):=by rw[zQ (f:=nG 17) rfl];exact HR (JR d) A hA hr
theorem Ca:∀(e d:Nat) (x:Dat),zp e x=true->CD (d+e) 25 [x]=.ok x
 |0,_,_,h=>by unfold zp at h;cases h
 |e+1,d,x,h=>by
  show CD ((d+e)+1) 25 [x]=_;rw[zQ (f:=lZ 25) rfl];exact EY h (Ca e d) rfl
def JM(d:Nat)(a:Int):CD (d+1) 27 [.int a]=.ok (.int (1-a)):=by rw[zQ (f:=pL) rfl];rfl
def JL (d:Nat)(W V:Nat->Nat->Int)(r c:Nat)(hr:r<n)(hc:c<n):CD (d+1) 29 [aP n W V,.int r,.int c]=.ok (.bl (dJ n W V r c)):=by rw[zQ (f:=mm) rfl];exact ES W V hr hc
def JK (d:Nat)(hn:n<=12)(W V:Nat->Nat->Int):∃s,cH n (dJ n W V) s/\CD (d+2) 30 [aP n W V]=.ok s:=by rw[zQ (f:=iR 29) rfl];exact EX hn (JL d W V)
def JI (d:Nat)(h1:1<=n)(h2:n<=12)(h:PM n W V)(hs:cH n (wr n W V) s)(hne:s≠.non):CD (d+6) 34 [aP n W V]=.ok (.tup [s]):=by
 rw[zQ (f:=AX 7 9 10) rfl];obtain⟨s',hs',e⟩:=H9 (d+3) h2 W V;obtain rfl:=hs.det hs';exact Dm hs.flat (Di hs hne) (B8 d h1 h2 h) e
def rQ(d:Nat)(x:Dat)(h:fK x=true)(hb:yK x=false):CD (d+6) 35 [x]=.ok (.tup [.non]):=by
 rw[zQ (f:=lO 7 14 34) rfl];exact HI (by rw[H7 d x h,hb])
def JH (d:Nat)(h1:1<=n)(h2:n<=12)(h:PB n W V)(hs:cH n (dJ n W V) s)(hne:s≠.non):CD (d+7) 35 [aP n W V]=.ok (.tup [s]):=by
 rw[zQ (f:=lO 7 14 34) rfl];exact Dj (by simp[hs.flat]) (by rw[H7 (d+1) _ (vW (vX h2)),jC h1 h2 h]) (fW (d+3) (by lia) (by lia) _) (fW (d+3) (by lia) (by lia) _) (JI d h1 h2 (sR W V) (hs.congr λr c hr hc=>sZ h hr hc) hne)
def rT(d:Nat)(x:Dat)(h:fK x=true)(hb:yK x=false):CD (d+7) 31 [x]=.ok .non:=by
 rw[zQ (f:=iQ 35) rfl];exact uM (by rfl) (rQ d x h hb)
def JJ (d:Nat)(h1:1<=n)(h2:n<=12)(h:PB n W V)(hs:cH n (dJ n W V) s)(hne:s≠.non):CD (d+8) 31 [aP n W V]=.ok s:=by
 rw[zQ (f:=iQ 35) rfl];exact uM hs.flat (JH d h1 h2 h hs hne)
noncomputable def AW(n:Nat):Dat:=.tup [ak (Qv n (Qv (n+1) 0)),ak (Qv (n+1) (Qv n 1))]
theorem Jy:CD 9 32 [.int 0]=.ok (AW 0):=by kernel_rfl
theorem pJ:CD 9 32 [.int 13]=.ok (AW 13):=by kernel_rfl
def Jx (h1:1<=n)(hn:n<=12)(a:bp k0 n (n+1) m l0)(b:bp k0 (n+1) n m l1)(p:0<=kd)(q:kd<7):∃w m' d,yj T 9 26 [.tup [.ref l0,.ref l1],.int kd,.int c] m=.ok w m'/\(∀(l:Nat) o,l<k0->m[l]?=some o->m'[l]?=some o)/\ai (λl=>k0<=l) m' d w/\zp 6 d=true/\yK d=false:=
 EU (cl:=yj T 8) (vw gZ T 8).r h1 hn a b p q
def Jw (h1:1<=n)(hn:n<=12)(hd:ds.length=21)(h:Fl k0 m n l0 l1 l2 ds m):∃m',yj T 9 28 [.tup [.ref l0,.ref l1],.int kd,.ref l2] m=.ok .non m'/\Fl k0 m n l0 l1 l2 ds m':=
 Fh (cl:=yj T 8) (vw gZ T 8).r (JM 7) h hd h1 hn
def EQ(ns:List Int):∃m,yj T 10 33 [.rol (ns.map Wd.int)] []=.ok (.bl true) m:=by
 obtain⟨c0,t0⟩:=iM 8 ns 0;obtain⟨c1,t1⟩:=iM 8 ns 1;obtain⟨c2,t2⟩:=iM 8 ns 2;obtain⟨c3,t3⟩:=iM 8 ns 3;obtain⟨c4,t4⟩:=iM 8 ns 4;obtain⟨n,h1,h2,t5⟩:=JQ 8 c0;obtain⟨X,hX,t6⟩:=JP 7 h1 h2 c1;have hXl:=hX.len;have t7:=JO 8 X (by lia);have hl:(sg X).length=n:=by rw[lh,hXl]
 have hsq:=CH X;have hS:dn (sg X):=dn.of hsq λr c a b=>C0 hX (by lia) (by lia);have u8:=Cc 7 hsq (by lia);obtain⟨ds,hd,t9⟩:=Cd 8 c3 21 (by lia);have ar':=hS.ar;have bk:=hS.back;have sm:=JN 7 (sg X) (by lia) λx hx=>by rw[hsq x hx];lia
 rw[hl]at u8 ar' bk;have t8:=Cb 8 h2 u8;have pb:PB n (sd (cu (sg X))) (sd (cD (sg X))):=⟨λi j _ _=>(tJ _ i j).symm,λi j _ _=>(tJ _ i j).symm⟩;have K:B6 (CD 9) ns n c0 c1 c2 c3 c4 X (sg X) (sd (cu (sg X))) (sd (cD (sg X))) ds:=⟨h1,h2,t0,t1,t2,t3,t4,t5,t6,t7,t8,pb,t9,hd,λd h=>Ca 6 3 d h,JK 7 h2,λW V h hw=>by
   have a:AR n (ar W) (ar V):=CF (sR W V) λr c hr hc=>by rw[<-sZ h hr hc];exact hw r c hr hc
   have z:=Cc 7 (R:=zm n n (bL (ar W))) (λx hx=>by rw[xx x hx,zW]) (by rw[zW];lia);rw[Fj a]at z;have y:=Cb 8 h2 z;rw[Dk h]at y;exact⟨_,JS 2 h1 h2 h a,y⟩,λW V d h hs hne=>JJ 1 h1 h2 h hs hne,λd h hb=>rT 2 d (vW h) hb,λv hv=>by
   rcases hv with rfl|rfl
   .exact ⟨_,Jy,by kernel_rfl,by kernel_rfl⟩
   .exact ⟨_,pJ,by kernel_rfl,by kernel_rfl⟩,sm,by
   have e:aP n (ar (sd (cu (sg X)))) (ar (sd (cD (sg X))))=aP n (cu (sg X)) (cD (sg X)):=by
    unfold aP;rw[wV (F:=ar (sd (cu (sg X)))) (G:=cu (sg X)) λi j hi hj=>sW (ar'.f i j hi (by lia)),wV (F:=ar (sd (cD (sg X)))) (G:=cD (sg X)) λi j hi hj=>sW (ar'.g i j (by lia) hj)]
   show CD (8+1) 15 _=_;rw[zQ (f:=iS 7 14 11) rfl];refine uN (by rw[H7 3 _ (vW (vX h2)),jC h1 h2 pb]) (fW 5 (by lia) (by lia) _) (fW 5 (by lia) (by lia) _) ?_ rfl rfl;rw[e];have z:=Ce 2 h1 h2 ar';rw[bk]at z;exact z⟩
 obtain⟨m,e⟩:=CM (vw gZ T 9) (λ{m S w} q=>HG (cl:=yj T 8) (vw gZ T 8) h2 u8 q) K (Jw h1 h2 hd) (Jx h1 h2);refine⟨m,?_⟩;show yR (yj T 9) iC [.rol (ns.map Wd.int)] []=_;unfold yR;rw[MN (by rfl)];rw[show aF (yj T 9) iC.body (yi iC [.rol (ns.map Wd.int)]) []=.ret (.bl true) m from e]
def pure(ns:List Int)(_:ns.length<=63):∃m,yj (D.map (·.fn)++[fh.fn,et.fn]) 10 33 [.rol (ns.map Wd.int)] []=.ok (.bl true) m:=EQ ns
end R23
namespace Mini
open PySem PySem.Spec PyProof.Rows L2
def CJ {run:Value->List Value->Sem Value}{K:La->Qb}(e:∀P,as=(K P).map (·.1))(h:Vq q loose XP (λw h=>(K w.params).In h) r d kwd run):PySem.W.WalkX q loose XP (PySem.W.X.obsZ as) (PySem.W.X.valZ K n t) r d kwd run:=
 λw s₀ s₁ mg mb G y a o pm cd doc dV kV h1 h2 h3 h4 h5 h6 args vals as' L p1 p2 p3 p4 p5=>h w s₀ s₁ mg mb G (PySem.W.InK.keeps (K:=K) w _ _ (PySem.W.X.z_facts e y).2.1 L.keeps) a o pm cd doc dV kV h1 h2 h3 h4 h5 h6 args vals as' p1 p2 p3 p4 p5
end Mini
namespace R23
open PySem L2 Mini PySem.W
def Jz (X:(K P).In h)(G:h.Ns Lf mg)(g:nsIn (K P) Lf d.nm=some (some (.ref a)))(l:(K P).lookup a=some (fO d.on d.st m c))(k:codeIn (K P) (.ref c) d.on=true):wf (K P) mg d:=
 dk X G g l k (by show(match (K P).lookup a with|some ⟨_,_,.func _,_⟩=>true|some ⟨_,_,.cls _,_⟩=>_|_=>false)=true;rw[l];rfl)
def Bt (X:(K P).In h)(G:h.Ns Lf mg){l:List (bg×Addr×Addr×Value)}(e:l.map (λx=>(nsIn (K P) Lf x.1.nm,(K P).lookup x.2.1,codeIn (K P) (.ref x.2.2.1) x.1.on))=l.map λx=>(some (some (.ref x.2.1)),some (fO x.1.on x.1.st x.2.2.2 x.2.2.1),true)):∀d∈l.map (·.1),wf (K P) mg d:=λd hd=>by
 obtain⟨x,hx,rfl⟩:=QM.mp hd;have q:=List.map_inj_left.mp e x hx;exact Jz X G (MQ (·.1) q) (MQ (·.2.1) q) (MQ (·.2.2) q)
noncomputable def lD:List (bg×Addr×Addr×Value):=[(d0,137,136,m1),(d1,144,143,m1),(d2,151,150,m1),(d3,156,155,m1),(d4,161,160,m1),(d5,166,165,m1),(d6,171,170,m1),(d7,178,177,m2),(d8,185,184,m2),(d9,192,191,m2),(BP,197,196,m2),(BO,202,201,m2),(BN,209,208,m3),(BM,214,213,m3),(BL,219,218,m3),(BK,226,225,m3),(BJ,233,232,m4),(BI,240,239,m4),(BH,247,246,m4),(BG,254,253,m4),(BF,261,260,m4),(BE,266,265,m4),(BD,271,270,m4),(BC,276,275,m4),(BB,281,280,m4),(BA,286,285,m4),(Bz,293,292,m4),(By,300,299,m4),(Bx,305,304,m4),(Bw,312,311,m4),(Bv,319,318,m4),(pN,326,325,m4),(Bu,331,330,m4),(pM,338,337,m4)]
noncomputable def lX:List (bg×Addr×Addr×Value):=[(fh,202,201,m2),(et,226,225,m3)]
section
variable(P:La)
def zb:∀nm∈zF,nsIn (K P) Lf nm=some none:=(List.map_inj_left (g:=λ_=>some none)).1 (by kernel_rfl)
def Js:bB (K P) 44 41 "spot" "self" dQ:=io (cc:=cN) (oc:=.type "function") (od:=none) (an:=none) (sl:=#[]) (kV:=.none) (dc:=.none) (pm:=m0) (cd:=.ref 40) (ct:=.none) (by kernel_rfl) (by kernel_rfl) rfl (λself=>by kernel_rfl) (by kernel_rfl) (by kernel_rfl) (by kernel_rfl) (by kernel_rfl) (by kernel_rfl) (by kernel_rfl) (by kernel_rfl) (by kernel_rfl)
end
end R23
open PySem PySem.W PyProof.Rows
set_option maxRecDepth 100000 in
theorem PySem.Challenge.cw_loopgyre_k23_no_sides_holds : PySem.Challenge.rw_loopgyre_k23_no_sides.Holds := by
 w_on;o_law
 refine holds_openX (q:=R23.qv) (loose:=R23.fN) (Xt:=R23.Xt) (XP:=XL R23.qv []) (Yf:=X.obsZ R23.as) (Ya:=X.valZ R23.K 339 630) (N:=6066) R23.hl (λs e=>xl_of s (QD.mp e).1) XL.keeps (by rfl) (by rfl) (by rfl) (λs e=>recFacts_of (QD.mp e).2) (by rfl) (by assumption) (by decide +kernel) ⟨rfl,rfl,rfl,rfl,rfl,by decide +kernel⟩ ?hw ?hc
 case hw=>w_witness2
 refine Mini.CJ (K:=R23.K) (λ_=>rfl) ?_;refine Mini.Cg (l:=PySem.Challenge.rw_loopgyre_k23_no_sides) (D:=R23.D) (xd:=R23.fh) (xe:=R23.et) (C:=R23.C) (Q:=R23.Q) (xc:="NoState") (nn:="spot") (a0:="self") (st:=R23.dQ) (k:=10) (i:=33) (dl:=R23.pM) (x:="_law_script") (n:=63) rfl (by decide) rfl ⟨rfl,by decide,by decide⟩ (λw h Y=>Y) rfl R23.CK R23.Jr R23.oZ R23.JC R23.JB R23.JA rfl rfl rfl ?F R23.pure
 case F=>
  intro w mg fa h KX G hmg;exact R23.mk KX G (t0:=346) (cG:=24) (fI:=41) (u0:=44) (u1:=128) (u2:=92) (u3:=104) (u4:=56) (u5:=116) (u6:=68) (u7:=80) (R23.Bt KX G (l:=R23.lD) (by kernel_rfl)) (R23.Bt KX G (l:=R23.lX) (by kernel_rfl)) (by kernel_rfl) (R23.zb w.params) (by kernel_rfl) (by kernel_rfl) (by kernel_rfl) (by kernel_rfl) (by kernel_rfl) (by kernel_rfl) (by kernel_rfl) (by kernel_rfl) (by kernel_rfl) (by kernel_rfl) (by kernel_rfl) (by kernel_rfl) (by kernel_rfl) (by kernel_rfl) (by kernel_rfl) (by kernel_rfl) (by kernel_rfl) (by kernel_rfl) (by kernel_rfl) (by kernel_rfl) (by kernel_rfl) (by kernel_rfl) (by kernel_rfl) (by kernel_rfl) (by kernel_rfl) (by kernel_rfl) (by kernel_rfl) (R23.Js w.params)
