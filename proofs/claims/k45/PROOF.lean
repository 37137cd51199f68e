import PyProof.Rows.All
import Wide.All
import OpenK.AllK
import Wide.FinOn
import Lean
import PyProof.EqAt
import PyProof.EqKinds
import PyProof.NeKinds
import PyProof.TupleCall
import OpenK.KOwn
import PyProof.WalkInts
import KE.KIsAll
import KE.RegKIsAll
import PyProof.ExcAttrAll.ValueError
import OpenK.KMake
import PyProof.ExcInit
import PySem.Challenge.RW_loopgyre_k45_each_place_once
open PySem renaming Scope→Mw,Params→Mx,Program→My,World→Mz,hashStr→MB,Heap→MC,sysModules→MD,mainGlobals→ME,bootBuiltins→MF,Around→MG,wpAny→MK,model→ML,backTo→MM,starEach→MN,wpAny_mono→MO,wpAny_loadName_local→MP,wpAny_loadName_cell→MQ,wpAny_truthy_bool→MR,wpAny_execs_nil→MS,swapsWith→MT,assignEach→MU,setItem→MV,Operator→MW,wpAny_bind→MX,wpAny_holding→MY,wpAny_standAt→MZ,wpAny_passesOwn→M6,pyNext→M7,letOwnedTupleGo→M8,wpAny_pure→M9,rawInt→Na,wpAny_pyIter_list→Nb,foldedSetIterable→Nc,binaryOp→Nf,compareOp→Ng,CmpOp→Nh,behindInMarks→Ni,cLine→Nj,FuncData→Nk,codeAny→Nl,codeAny_mono→Nm,wpAny_Call_Name_kw→Nn,NameKind→No,bindL→Np,bindC→Nq,cellsFrom→Nt,concat_meets→Nu,noFill_tuple_add→Nv,seq_tuple_add→Nw,IsPart→Nx,wpAny_field→Ny,getItem→Nz,wpAny_callSpecial?_slot→NA,wpAny_call_entry→NB,wpAny_typeOf→NC,wpAny_newObj_type→ND,sliceBounds→NF,attributeBase→NG,keywordEach→NH,Keyword→NI,call_meets→NJ,callerA→NL,pushCells→NM,pushCells_keeps→NN,newFunctionEnv→NO,relabel→NP,notedBy→NQ,wpAny_comprehension_free→NR,intKind→NS,wpAny_rule→NT,putAt→NU,wpAny_notOrdered_dict→NV,IsTupleKey→NW,tupleKind→NX,atKey→NY,wpAny_forIn_list→NZ,wpAny_dictEntries→N0,wpAny_dictEpoch→N1,wpAny_attempt→N8,valueAt→Ot,wpAny_pyIter_keyiter→Ou,wpAny_typeNameOfWhole_keyiter→Ov,wpAny_isOneOf_keyiter→Ow,wpAny_loadPart'→Ox
open PySem.W renaming openGood→MA
open PyProof.Rows renaming AllBare→MJ,envOfC→Nr,subscriptTail_builtinR→NE,IntsAre→NK,SortSt→N2,oneType'→N3,wpS_bind→N4,wpS_get→N5,wpS_pure→N6,wpS_lift→N7,wpS_forRange→N9,countRun'→Oa,mirror→Oc,minRun'→Od,pendingOf→Oe,failedOf→Of,sortRuns'→Og,wpS_mono→Oh,setPending→Oi,wpS_modify→Oj,getElem?_mirror_all→Ol,SortKind→Om,KeyOrd→On,gallopOf→Oo,sortedAll→Op,seqObj→Oq,get?_update_seq→Os,listUpdate_at→Oy,seqEpoch_at→Oz
open List renaming getElem?_eq_some_iff→Qa,set_cons_succ→Qc,set_cons_zero→Qd,getElem?_append_right→Qe,getElem?_append_left→Qf,getD_eq_getElem?_getD→Qg,length_map→Qi,getElem?_eq_getElem→Qj,mem_singleton→Ql,append_assoc→Qm,mem_cons→Qn,mem_cons_of_mem→Qo,getElem?_map→Qq,mem_append→Qs,getElem?_take_of_lt→Qu,mem_of_getElem?→Qv,length_append→Qw,getElem?_eq_none→Qy,mem_append_right→Qz,range→QA,nodup_cons→QB,getElem?_of_mem→QC,take_append_drop→QE,size_toArray→QH,replicate→QI,map_cons→QJ,drop_eq_getElem_cons→QM,getElem?_set_ne→QO,mem_map→QP,map_map→QQ,nil_append→QS,mem_cons_self→QT,length_take→QV,nodup_append→QW,mem_append_left→QX,cons_append→QZ,getElem?_set→Q0,pairwise_cons→Q3,getElem?_eq_none_iff→Q4,lookup_cons→Q5,append_nil→Q6,nodup_nil→Q7,flatten_cons→Q8,replicate_succ→Wa,map_append→Wb,pairwise_iff_getElem→Wc,take_of_length_le→We,getElem?_drop→Wf,mem_of_mem_take→Wg,getElem?_set_self→Wj,take_append_of_le_length→Wl,not_mem_nil→Wn,take_sublist→Wo,take_add_one→Wp,reverse_cons→Wq,pairwise_map→Wr,mem_range→Ws,drop_sublist→Wt,Perm→Wu,extract_eq_take_drop→Wv,length_cons→Wx,mem_of_mem_drop→WB,ext_getElem?→WC,flatten_append→WD,all_eq_true→WF,perm_append_comm→WH,getElem?_zip_eq_some→WI,length_drop→WL,range_succ_eq_map→WN,range_succ→WP,mem_flatMap→WS,any_eq_true→WT,reverse_append→WU,mem_map_of_mem→WV,getElem?_cons_zero→WY,getElem?_cons_succ→WZ,getElem?_reverse→W4,take_length→W5,getElem_mem→W6,getElem_inj→W7,drop_length→W8,all_cons→W9,eq_nil_of_length_eq_zero→Va,mem_filter→Vb,length_set→Vc,foldl_cons→Vd,find?_cons→Ve,map_congr_left→Vh,getElem?_range→Vi,drop_drop→Vm,any_cons→Vp,getElem?_replicate→Vs,map_nil→Vu,length_take_of_le→Vv,flatten_singleton→Vw,drop_of_length_le→Vx,drop_eq_nil_of_le→Vy,sum_append→VB,set_append_right→VE,pairwise_append→VH,mem_iff_getElem→VI,forall_mem_cons→VJ,drop_zero→VL,getElem_of_mem→VN,getD_cons_zero→VO,flatMap_append→VP,filterMap_cons→VQ,sum_cons→VR,Pairwise→VS,mem_filterMap→VU,reverse_perm→VW,map→VX,mem_reverse→V1,map_reverse→V2,filter_cons→V3,drop_append→V4,length→V7,drop_append_of_le_length→V8,of_mem_zip→V9,length_zip→Ua,foldl→Ue,set_eq_of_length_le→Uh,all_map→Uj
open PySem.W renaming Frag→Qb,fnOf→WQ,keepIn→WX,nsIn→Vq,cellsFrom_some→Vr,codeIn→Vz,mg_of→VG,kitOne→V5,WalkO→Ub
open Nat renaming le_refl→Qh,lt_of_lt_of_le→Qp,le_trans→Qx,ne_of_lt→QN,zero_le→Wi,lt_succ_self→Wy,lt_irrefl→WA,mul_le_mul→WG,lt_succ_of_lt→WK,le_add_right→WM,zero_add→WO,mul_comm→W3,ne_of_gt→Vj,le_of_lt→Vk,le_succ→Vo,add_zero→VA,div_lt_of_lt_mul→VM,add_assoc→VT,le_of_eq→VZ,mod_eq_of_lt→V6,add_sub_cancel_left→Ui
open PySem.Heap renaming get?_push_of_some→Qk,lt_size→Qr,get?_push_size→QK,SameBut→WE,get?_update_ne→WW,size_update→Vt,get?_update_self→VF,size_push→Uf
open Option renaming bind_eq_some_iff→Qt,map_eq_some_iff→QF,map_some→QR,isSome_iff_exists→Wm,getD_some→Ww,bind_some→WR,bind→VY
open Bool renaming and_eq_true→QD,false_eq_true→QG,false_ne_true→QU,and_eq_true_iff→Wh,not_true→Wz,or_eq_true→Vf,not_eq_true'→Vn,eq_iff_iff→VC
open Array renaming getElem?_toList→QL,length_toList→QY,getD_eq_getD_getElem?→Q9,toList_extract→WJ,toList_push→W1,toList→W2,toList_append→Vg,mem_of_getElem?→VD,toList_setIfInBounds→Uc,ext'→Ud,getElem?_eq_getElem→Ug
open Int renaming eq_ofNat_of_zero_le→W0,toNat_natCast→V0
set_option Elab.async false
set_option linter.all false
set_option maxRecDepth 100000
set_option genSizeOf false
set_option maxHeartbeats 0
set_option tactic.hygienic false
set_option bootstrap.genMatcherCode false
set_option compiler.extract_closed false
set_option backward.eqns.nonrecursive false
set_option backward.eqns.deepRecursiveSplit false
section
open PySem PySem.Spec PyProof.Rows
abbrev _root_.O0:=List (Nat×Nat×Nat)
abbrev _root_.O2:=Value->Shared->Prop
abbrev _root_.O3:=Str->Option Value
abbrev _root_.O4:=List (List Keyed)
abbrev _root_.O6:=List (Addr×Obj)
abbrev _root_.O7:=List (List Int)
abbrev _root_.O9:=Nat->List Nat
abbrev _root_.P5:=Nat->Nat->Int
abbrev _root_.P6:=Option Value
abbrev _root_.P7:=Array Value
abbrev _root_.P8:=Option Bool
abbrev _root_.P9:=Array Keyed
abbrev _root_.R0:=Keyed->Prop
abbrev _root_.R5:=Option Addr
abbrev _root_.R6:=List Value
abbrev _root_.R7:=List Keyed
abbrev _root_.R9:=Option Int
abbrev _root_.S6:=List Addr
abbrev _root_.S7:=Nat->Prop
abbrev _root_.S8:=List Expr
abbrev _root_.S9:=List Stmt
abbrev _root_.T6:=List Int
abbrev _root_.T8:=List Str
abbrev _root_.T9:=List Nat
abbrev _root_.U0:=List Env
end
noncomputable section
noncomputable def OA:=@decide_eq_false
noncomputable def OB.{u}:=@if_pos.{u}
noncomputable def OC.{u}:=@if_neg.{u}
noncomputable def OD.{u}:=@absurd.{u}
noncomputable def OE.{u,v}:=@congrArg.{u,v}
noncomputable def OF:=@decide_eq_true
noncomputable def OG:=@of_decide_eq_true
noncomputable def OH:=@decide_eq_true_eq
namespace L2
open PySem PySem.Spec PyProof.Rows
noncomputable def wG(s:Stmt):Arguments:=match s with
 |.FunctionDef _ a _ _ _ _ _ _ _ _=>a
 |_=>{posonlyargs:=[],args:=[],vararg:=none,kwonlyargs:=[],kw_defaults:=[],kwarg:=none,defaults:=[]}
noncomputable def xH(s:Stmt):S9:=match s with
 |.FunctionDef _ _ b _ _ _ _ _ _ _=>b
 |_=>[]
noncomputable def yk(s:Stmt):Mw:=match s with
 |.FunctionDef _ _ _ _ _ _ A _ _ _=>A
 |_=>{kind:=.function,names:=[],isGenerator:=false,isCoroutine:=false}
end L2
namespace R45
open PySem L2 PySem.W
noncomputable def top(i:Nat):Stmt:=PySem.Challenge.pw_loopgyre_k45_each_place_once.main.body.getD i (.Pass ⟨0,0,0,0⟩)
noncomputable def ge(P:Mx)(s:Str)(t:Tok)(v:Value):DictEntry:=⟨PyData.keyHash P s,.str s t,v⟩
noncomputable def cO(s:Str)(t l n f a q b c d e u v:Nat):Obj:=⟨.type "code",none,.fields #[.str s t,.str s (t+1),.str "/claim/cut.py" (t+2),.int l 0,.int n 0,.int 0 0,.int 0 0,.int f 0,.ref a,.bool true,.int q 0,.ref b,.none,.ref c,.ref d,.ref e,.int u 0,.int l 0,.str "/claim/cut.py" v],#[]⟩
noncomputable def fO(n:Str)(d:Stmt)(m:Value)(c:Addr):Obj:=⟨.type "function",none,.func (fnOf n n (wG d) (xH d) (yk d) .none .none .none m none (.ref c) .none),#[]⟩
noncomputable def m0:Value:=.str "loopgyre.kinds" 223
noncomputable def m1:Value:=.str "loopgyre.floors" 232
noncomputable def m2:Value:=.str "loopgyre.signs" 271
noncomputable def m3:Value:=.str "loopgyre.arrows" 279
noncomputable def m4:Value:=.str "loopgyre.sides" 303
noncomputable def m5:Value:=.str "loopgyre.links" 332
noncomputable def m6:Value:=.str "law_loopgyre_k45_each_place_once" 495
noncomputable def ef(s:Str)(t l n f a q b e u v:Nat):Obj:=⟨.type "code",none,.fields #[.str s t,.str s (t+1),.str "/claim/cut.py" (t+2),.int l 0,.int n 0,.int 0 0,.int 0 0,.int f 0,.ref a,.bool true,.int q 0,.ref b,.none,.none,.none,.ref e,.int u 0,.int l 0,.str "/claim/cut.py" v],#[]⟩
noncomputable def K(P:Mx):Frag:=[(3,⟨.type "dict",none,.dict #[ge P "__name__" 165 (.str "law_loopgyre_k45_each_place_once" 495),ge P "__doc__" 166 .none,ge P "__package__" 167 .none,ge P "__loader__" 168 (.builtin "__main__.__loader__#opaque"),ge P "__spec__" 169 .none,ge P "__annotations__" 170 (.ref 6),ge P "__builtins__" 171 (.ref 4),ge P "__file__" 173 (.str "/claim/cut.py" 172),ge P "__cached__" 174 .none,ge P "GyreError" 206 (.ref 24),ge P "NoRoad" 222 (.ref 37),ge P "is_whole" 231 (.ref 46),ge P "is_place" 242 (.ref 53),ge P "road_over" 252 (.ref 60),ge P "need_road" 260 (.ref 67),ge P "place_at" 270 (.ref 74),ge P "column_sums" 278 (.ref 79),ge P "across_row" 290 (.ref 86),ge P "down_row" 296 (.ref 91),ge P "arrows_of" 302 (.ref 96),ge P "is_odd" 311 (.ref 103),ge P "walked_row" 317 (.ref 108),ge P "walked_grid" 323 (.ref 113),ge P "sides_of" 331 (.ref 120),ge P "WALKED" 335 (.int 1 334),ge P "BESIDE" 337 (.int 0 336),ge P "STEPS" 356 (.ref 121),ge P "beyond" 368 (.ref 132),ge P "ends_at" 374 (.ref 137),ge P "all_ends" 386 (.ref 144),ge P "trail" 397 (.ref 151),ge P "road_trail" 409 (.ref 158),ge P "way_over" 418 (.ref 165),ge P "way" 426 (.ref 172),ge P "way_beside" 434 (.ref 179),ge P "links_over" 440 (.ref 184),ge P "links" 447 (.ref 191),ge P "links_beside" 454 (.ref 198),ge P "places_on_ways" 466 (.ref 205),ge P "rings_over" 480 (.ref 212),ge P "rings" 487 (.ref 219),ge P "rings_beside" 494 (.ref 226),ge P "_law_cell_at" 504 (.ref 233),ge P "_law_mixed" 513 (.ref 240),ge P "_law_size" 520 (.ref 247),ge P "_law_drawn" 526 (.ref 252),ge P "_law_each_once" 532 (.ref 257),ge P "_law_is_ring" 538 (.ref 262),ge P "law" 544 (.ref 267)] 49,#[]⟩),(45,cO "is_whole" 225 7 1 3 40 181 41 42 43 44 229 230),(46,fO "is_whole" (top 4) m0 45),(52,cO "is_place" 234 10 3 3 47 181 48 49 50 51 240 241),(53,fO "is_place" (top 6) m1 52),(59,cO "road_over" 243 12 4 3 54 181 55 56 57 58 250 251),(60,fO "road_over" (top 7) m1 59),(66,cO "need_road" 253 24 2 3 61 181 62 63 64 65 258 259),(67,fO "need_road" (top 8) m1 66),(73,cO "place_at" 261 27 2 3 68 181 69 70 71 72 268 269),(74,fO "place_at" (top 9) m1 73),(78,ef "column_sums" 273 38 1 3 75 181 76 77 276 277),(79,fO "column_sums" (top 11) m2 78),(85,cO "across_row" 281 46 1 3 80 181 81 82 83 84 288 289),(86,fO "across_row" (top 13) m3 85),(90,ef "down_row" 291 53 1 3 87 181 88 89 294 295),(91,fO "down_row" (top 14) m3 90),(95,ef "arrows_of" 297 55 1 3 92 181 93 94 300 301),(96,fO "arrows_of" (top 15) m3 95),(102,cO "is_odd" 305 60 1 3 97 181 98 99 100 101 309 310),(103,fO "is_odd" (top 17) m4 102),(107,ef "walked_row" 312 62 2 3 104 181 105 106 315 316),(108,fO "walked_row" (top 18) m4 107),(112,ef "walked_grid" 318 64 1 3 109 181 110 111 321 322),(113,fO "walked_grid" (top 19) m4 112),(119,cO "sides_of" 324 66 1 3 114 181 115 116 117 118 329 330),(120,fO "sides_of" (top 20) m4 119),(121,⟨.type "dict",none,.dict #[ge P "U" 338 (.ref 122),ge P "R" 342 (.ref 123),ge P "D" 345 (.ref 124),ge P "L" 348 (.ref 125)] 4,#[]⟩),(122,⟨.type "tuple",none,.seq #[(.int (-1) 340),(.int 0 341)] 0,#[]⟩),(123,⟨.type "tuple",none,.seq #[(.int 0 343),(.int 1 344)] 0,#[]⟩),(124,⟨.type "tuple",none,.seq #[(.int 1 346),(.int 0 347)] 0,#[]⟩),(125,⟨.type "tuple",none,.seq #[(.int 0 349),(.int (-1) 351)] 0,#[]⟩),(131,cO "beyond" 357 73 4 3 126 181 127 128 129 130 366 367),(132,fO "beyond" (top 25) m5 131),(136,ef "ends_at" 369 79 4 3 133 181 134 135 372 373),(137,fO "ends_at" (top 26) m5 136),(143,cO "all_ends" 375 84 2 3 138 181 139 140 141 142 384 385),(144,fO "all_ends" (top 27) m5 143),(150,cO "trail" 387 91 3 3 145 181 146 147 148 149 395 396),(151,fO "trail" (top 28) m5 150),(157,cO "road_trail" 398 97 4 3 152 181 153 154 155 156 407 408),(158,fO "road_trail" (top 29) m5 157),(164,cO "way_over" 410 101 3 3 159 181 160 161 162 163 416 417),(165,fO "way_over" (top 30) m5 164),(171,cO "way" 419 104 2 3 166 181 167 168 169 170 424 425),(172,fO "way" (top 31) m5 171),(178,cO "way_beside" 427 106 2 3 173 181 174 175 176 177 432 433),(179,fO "way_beside" (top 32) m5 178),(183,ef "links_over" 435 108 2 3 180 181 181 182 438 439),(184,fO "links_over" (top 33) m5 183),(190,cO "links" 441 112 1 3 185 181 186 187 188 189 445 446),(191,fO "links" (top 34) m5 190),(197,cO "links_beside" 448 114 1 3 192 181 193 194 195 196 452 453),(198,fO "links_beside" (top 35) m5 197),(204,cO "places_on_ways" 455 116 3 3 199 181 200 201 202 203 464 465),(205,fO "places_on_ways" (top 36) m5 204),(211,cO "rings_over" 467 122 2 3 206 181 207 208 209 210 478 479),(212,fO "rings_over" (top 37) m5 211),(218,cO "rings" 481 133 1 3 213 181 214 215 216 217 485 486),(219,fO "rings" (top 38) m5 218),(225,cO "rings_beside" 488 135 1 3 220 181 221 222 223 224 492 493),(226,fO "rings_beside" (top 39) m5 225),(232,cO "_law_cell_at" 497 138 2 3 227 181 228 229 230 231 502 503),(233,fO "_law_cell_at" (top 41) m6 232),(239,cO "_law_mixed" 505 142 2 3 234 181 235 236 237 238 511 512),(240,fO "_law_mixed" (top 42) m6 239),(246,cO "_law_size" 514 145 1 3 241 181 242 243 244 245 518 519),(247,fO "_law_size" (top 43) m6 246),(251,ef "_law_drawn" 521 149 2 3 248 181 249 250 524 525),(252,fO "_law_drawn" (top 44) m6 251),(256,ef "_law_each_once" 527 172 2 3 253 181 254 255 530 531),(257,fO "_law_each_once" (top 45) m6 256),(261,ef "_law_is_ring" 533 177 1 3 258 181 259 260 536 537),(262,fO "_law_is_ring" (top 46) m6 261),(266,ef "law" 539 179 1 3 263 181 264 265 542 543),(267,fO "law" (top 47) m6 266)]
noncomputable def as:S6:=[3,45,46,52,53,59,60,66,67,73,74,78,79,85,86,90,91,95,96,102,103,107,108,112,113,119,120,121,122,123,124,125,131,132,136,137,143,144,150,151,157,158,164,165,171,172,178,179,183,184,190,191,197,198,204,205,211,212,218,219,225,226,232,233,239,240,246,247,251,252,256,257,261,262,266,267]
noncomputable def qv:My:={PySem.Challenge.pw_loopgyre_k45_each_place_once with main:={PySem.Challenge.pw_loopgyre_k45_each_place_once.main with body:=[1,2,4,6,7,8,9,11,13,14,15,17,18,19,20,22,23,24,25,26,27,28,29,30,31,32,33,34,35,36,37,38,39,41,42,43,44,45,46,47].map top} }
noncomputable def em:T8:=["STEPS"]
noncomputable def Xt(s:Shared):Bool:=xlAt qv [] s&&recOk (RowW.records PySem.Challenge.rw_loopgyre_k45_each_place_once.row.toRowW) s
theorem hj{A B E G:Type}{o:Option Shared}{f:Shared->A×B×E}{g:A×B×E}{k:Shared->G}{d:G}(a:o.map (λs=>((f s).1,(f s).2.1))=some (g.1,g.2.1))(b:o.map (λs=>(f s).2.2)=some g.2.2)(c:o.map k=some d):o.map (λs=>(f s,k s))=some (g,d):=by
 cases o with
 |none=>cases a
 |some s=>
  simp only[QR,Option.some.injEq,Prod.mk.injEq]at a b c ⊢
  exact⟨Prod.ext a.1 (Prod.ext a.2 b),c⟩
noncomputable def rn(w:Mz):Option Shared:=openEnds treeTable PySem.Challenge.pw_loopgyre_k45_each_place_once w 3354
noncomputable def sn(s:Shared):=openSeen qv em (importedModules PySem.Challenge.pw_loopgyre_k45_each_place_once.main.body) Xt true s
noncomputable def rb(b:Bool)(w:Mz):Mz:=w.withFollow "special-get-raises" b
theorem Lh(w:Mz):(rn (rb false w)).map (λs=>((sn s).1,(sn s).2.1))=some ((MA qv em).1,(MA qv em).2.1):=by kernel_rfl
theorem Lg(w:Mz):(rn (rb false w)).map (λs=>(sn s).2.2)=some (MA qv em).2.2:=by kernel_rfl
theorem Lf(w:Mz):(rn (rb false w)).map (X.obsZ as)=some (X.valZ K 268 545 (rb false w)):=by kernel_rfl
theorem Ld(w:Mz):(rn (rb true w)).map (λs=>((sn s).1,(sn s).2.1))=some ((MA qv em).1,(MA qv em).2.1):=by kernel_rfl
theorem hT2(w:Mz):(rn (rb true w)).map (λs=>(sn s).2.2)=some (MA qv em).2.2:=by kernel_rfl
theorem Lc(w:Mz):(rn (rb true w)).map (X.obsZ as)=some (X.valZ K 268 545 (rb true w)):=by kernel_rfl
theorem hl:LeftO PySem.Challenge.pw_loopgyre_k45_each_place_once qv em Xt (X.obsZ as) (X.valZ K 268 545) 3354:=λw=>by
 have e:rb (w.params.followText "special-get-raises") w=w:=World.withFollow_self w "special-get-raises"
 have H:∀b,(rn (rb b w)).map (λs=>(sn s,X.obsZ as s))=some (MA qv em,X.valZ K 268 545 (rb b w)):=by
  intro b;cases b
  .exact hj (Lh w) (Lg w) (Lf w)
  .exact hj (Ld w) (hT2 w) (Lc w)
 have h:=H (w.params.followText "special-get-raises");rw[e]at h;exact h
end R45
def aP{G:Prop}(h:∀P:Prop,(G->P)->P):G:=h G id
namespace L2
open PySem PySem.Spec PyProof.Rows
abbrev bT:=Sum Int Str
noncomputable def qm:bT->Value->Bool
 |.inl k,v=>Value.isInt k v
 |.inr x,v=>Value.isStrOf x v
noncomputable def oK(w:Mz):bT->Int
 |.inl k=>hashInt k
 |.inr x=>MB w x
def yj:∀{k:bT}{v:Value},qm k v=true->(∃i t,k=Sum.inl i/\v=Value.int i t)\/(∃x t,k=Sum.inr x/\v=Value.str x t)
 |.inl i,v,h=>by
  obtain⟨t,e⟩:=Value.isInt_shape (k:=i) (v:=v) h;exact .inl ⟨i,t,rfl,e⟩
 |.inr x,v,h=>by
  obtain⟨t,e⟩:=Value.isStrOf_shape (x:=x) (v:=v) h;exact .inr ⟨x,t,rfl,e⟩
def Jt(i:Int)(t:Tok):qm (.inl i) (.int i t)=true:=by simp[qm,Value.isInt]
def qo(x:Str)(t:Tok):qm (.inr x) (.str x t)=true:=by simp[qm,Value.isStrOf]
def Ey(a b:Int):decide ((Sum.inl a:bT)=Sum.inl b)=(a==b):=by
 by_cases e:a=b
 .subst e;simp
 .have h:¬(Sum.inl a:bT)=Sum.inl b:=λq=>e (Sum.inl.inj q);rw[OA h];exact(beq_eq_false_iff_ne.mpr e).symm
def Ew(a b:Str):decide ((Sum.inr a:bT)=Sum.inr b)=decide (a=b):=by
 by_cases e:a=b
 .subst e;simp
 .have h:¬(Sum.inr a:bT)=Sum.inr b:=λq=>e (Sum.inr.inj q);rw[OA h,OA e]
def Ev(a:Int)(b:Str):decide ((Sum.inl a:bT)=Sum.inr b)=false:=OA (λq=>nomatch q)
def Eu(a:Str)(b:Int):decide ((Sum.inr a:bT)=Sum.inl b)=false:=OA (λq=>nomatch q)
noncomputable def yw(prog:My)(w:Mz):PySem.KeyKind prog w bT where
 is:=qm
 hash:=oK w
 inj:=λv a b G E=>by
  rcases yj G with⟨i,t,rfl,rfl⟩|⟨x,t,rfl,rfl⟩
  .rcases yj E with⟨j,u,rfl,e⟩|⟨y,u,rfl,e⟩
   .injection e with A _;rw[A]
   .exact nomatch e
  .rcases yj E with⟨j,u,rfl,e⟩|⟨y,u,rfl,e⟩
   .exact nomatch e
   .injection e with A _;rw[A]
 byValue:=λk v h=>by
  rcases yj h with⟨i,t,rfl,rfl⟩|⟨x,t,rfl,rfl⟩<;>rfl
 pyHash:=λB h=>by
  rcases yj B with⟨i,t,rfl,rfl⟩|⟨x,t,rfl,rfl⟩
  .exact wpAny_pyHash_int h
  .exact wpAny_pyHash_str h
 eqBool:=λH B h=>by
  rcases yj H with⟨i,t,rfl,rfl⟩|⟨x,t,rfl,rfl⟩
  .rcases yj B with⟨j,u,rfl,rfl⟩|⟨y,u,rfl,rfl⟩
   .rw[Ey]at h;exact wpAny_eqBool_int h
   .rw[Ev]at h;exact SeqAt.EqAt.int_str i t y u _ _ _ _ h
  .rcases yj B with⟨j,u,rfl,rfl⟩|⟨y,u,rfl,rfl⟩
   .rw[Eu]at h;exact SeqAt.EqAt.str_int x t j u _ _ _ _ h
   .rw[Ew]at h;exact wpAny_eqBool_str h
 «strs»:=λk x t v h=>by
  rcases yj h with⟨i,u,rfl,e⟩|⟨y,u,rfl,e⟩
  .exact nomatch e
  .injection e with A _
   subst A;cases v<;>rfl
def KS(prog:My)(w:Mz)(i:Int)(t:Tok):(yw prog w).is (.inl i) (.int i t)=true:=Jt i t
def KR(prog:My)(w:Mz)(x:Str)(t:Tok):(yw prog w).is (.inr x) (.str x t)=true:=qo x t
set_option genInjectivity false in
inductive V where
 |N|bl (b:Bool)|int (i:Int)|str (x:Str)|byt (b:Array UInt8)|flt (b:UInt64)|ref (a:Addr)|ty (n:String)
 deriving DecidableEq
abbrev _root_.U8:=List V
noncomputable def RelV:V->Value->Prop
 |.N,u=>u=Value.none
 |.bl b,u=>u=Value.bool b
 |.int i,u=>∃t,u=Value.int i t
 |.str x,u=>∃t,u=Value.str x t
 |.byt b,u=>∃t,u=Value.bytes b t
 |.flt b,u=>∃t,u=Value.float b t
 |.ref a,u=>u=Value.ref a
 |.ty n,u=>u=Value.type n
abbrev av:U8->R6->Prop:=Paired RelV
theorem av.length (r:av xs A):xs.length=A.length:=Paired.length r
theorem av.get:∀{xs:U8}{A:R6}{i:Nat}{x:V},av xs A->xs[i]?=some x->∃u,A[i]?=some u/\RelV x u
 |_,_,_,_,.nil,e=>by simp at e
 |_,_,0,_,.cons r _,e=>by simp at e;subst e;exact⟨_,rfl,r⟩
 |_,_,i+1,x,.cons _ t,e=>by
  obtain⟨u,B,E⟩:=av.get (i:=i) (x:=x) t (by simpa using e);exact⟨u,by simpa using B,E⟩
theorem av.append:∀{xs ys:U8}{A ws:R6},av xs A->av ys ws->av (xs++ys) (A++ws)
 |_,_,_,_,.nil,s=>s
 |_,_,_,_,.cons r t,s=>.cons r (av.append t s)
theorem av.take:∀{xs:U8}{A:R6}(n:Nat),av xs A->av (xs.take n) (A.take n)
 |_,_,0,_=>.nil
 |_,_,_+1,.nil=>.nil
 |_,_,n+1,.cons r t=>.cons r (av.take n t)
theorem av.drop:∀{xs:U8}{A:R6}(n:Nat),av xs A->av (xs.drop n) (A.drop n)
 |_,_,0,r=>r
 |_,_,_+1,.nil=>.nil
 |_,_,n+1,.cons _ t=>av.drop n t
noncomputable def iR:Option V->P6->Prop
 |some v,some u=>RelV v u
 |none,none=>True
 |_,_=>False
noncomputable def KV{A:Type}:List (A×V)->List (A×Value)->Prop:=Paired λ(p:A×V) (q:A×Value)=>p.1=q.1/\RelV p.2 q.2
noncomputable def kV:bT->V
 |.inl i=>.int i
 |.inr x=>.str x
set_option genInjectivity false in
inductive HO where
 |L (xs:U8)
 |T (xs:U8)
 |dK (kvs:List (bT×V))
 |own (x:Addr)
 |frz (o:Obj) (u:HO)
 |tbl (ps:P7)
 |ext (φ:MC->Prop)
abbrev Hp:=Addr->Option HO
noncomputable def aL(H:Hp)(a:Addr)(o:HO):Hp:=λb=>if b=a then some o else H b
def zw:aL H a o a=some o:=by unfold aL;rw[OB rfl]
def zu (h:b≠a):aL H a o b=H b:=by unfold aL;rw[OC h]
def zF {H:Hp}(h:H a=some o)(h':H b=none):a≠b:=by
 intro e;subst e;rw[h]at h';cases h'
section
variable(P:My)(w:Mz)
noncomputable def bD(H:Hp)(h:MC)(a:Addr):HO->Prop
 |.L B=>B.length<=sizeLine/\∃(A:R6) (n:Nat),av B A/\h.get? a=some {cls:=.type "list",data:=.seq A.toArray n}
 |.T B=>B.length<=sizeLine/\∃A:R6,av B A/\IsTup h a A.toArray
 |.dK E=>E.length<=sizeLine/\(a==MD)=false/\∃I,KV E I/\h.DictOf (yw P w) a I
 |.own _=>∃o,h.get? a=some o
 |.frz o u=>h.get? a=some o/\bD H h a u
 |.tbl M=>h.get? a=some {cls:=.none,data:=.fields M}
 |.ext G=>G h/\(∃o,h.get? a=some o)/\∀J L:MC,G J->(∀o,J.get? a=some o->L.get? a=some o)->G L
noncomputable def cI(H:Hp)(h:MC):Prop:=∀a o,H a=some o->bD P w H h a o
end
section
variable{P:My}{w:Mz}{H H':Hp}{h h':MC}{a:Addr}{o:HO}
theorem bD.lt(x:bD P w H h a o):a<h.objs.size:=by
 cases o with
 |L A=>obtain⟨_,_,_,_,e⟩:=x;exact Qr e
 |T A=>obtain⟨_,_,_,p⟩:=x;exact p.lt
 |dK B=>obtain⟨_,_,_,_,o,_,_,e,_⟩:=x;exact Qr e
 |own y=>obtain⟨_,e⟩:=x;exact Qr e
 |frz E u=>obtain⟨e,_⟩:=x;exact Qr e
 |tbl G=>exact Qr (show h.get? a=some _ from x)
 |ext I=>obtain⟨_,⟨_,e⟩,_⟩:=x;exact Qr e
def bD.stay(x:bD P w H h a o)(k:∀b u,(b=a\/H b=some (.own a))->h.get? b=some u->h'.get? b=some u)
  (O:∀b,H b=some (.own a)->H' b=some (.own a)) (Q:∀b xs,H b=some (.T xs)->H' b=some (.T xs)):bD P w H' h' a o:=by
 induction o with
 |L xs=>obtain⟨z,A,n,r,e⟩:=x;exact⟨z,A,n,r,k _ _ (.inl rfl) e⟩
 |T xs=>obtain⟨z,A,r,B,e,c⟩:=x;exact⟨z,A,r,B,k _ _ (.inl rfl) e,c⟩
 |dK G=>obtain⟨z,y,I,r,B,J,M,e,c⟩:=x;exact⟨z,y,I,r,B,J,M,k _ _ (.inl rfl) e,c⟩
 |own y=>obtain⟨B,e⟩:=x;exact⟨B,k _ _ (.inl rfl) e⟩
 |frz B u N=>obtain⟨e,q⟩:=x;exact⟨k _ _ (.inl rfl) e,N q⟩
 |tbl E=>
  have e:h.get? a=some {cls:=.none,data:=.fields E}:=x;show h'.get? a=some {cls:=.none,data:=.fields E};exact k a _ (.inl rfl) e
 |ext U=>obtain⟨p,⟨o,e⟩,st⟩:=x;exact⟨st _ _ p λo q=>k _ _ (.inl rfl) q,⟨o,k _ _ (.inl rfl) e⟩,st⟩
theorem cI.lt(x:cI P w H h)(e:H a=some o):a<h.objs.size:=(x a o e).lt
def cI.fresh(x:cI P w H h)(e:h.objs.size<=a):H a=none:=by
 cases q:H a with
 |none=>rfl
 |some u=>exact OD (Qp (x.lt q) e) (WA _)
def cI.kept(x:cI P w H h)(k:∀b u,h.get? b=some u->h'.get? b=some u):cI P w H h':=λa o e=>
 (x a o e).stay (λb u _ q=>k b u q) (λ_ q=>q) λ_ _ q=>q
def cI.laid(x:cI P w H h)(k:∀b u,h.get? b=some u->h'.get? b=some u)(E:h.objs.size<=a)(new:bD P w (aL H a o) h' a o):cI P w (aL H a o) h':=λb u e=>by
 have A:=x.fresh E;by_cases B:b=a
 .subst B;rw[zw]at e;cases e;exact new
 .rw[zu B]at e;exact(x b u e).stay (λc v _ q=>k c v q) (λc q=>by rw[zu (zF q A)];exact q) λc G q=>by rw[zu (zF q A)];exact q
end
noncomputable def Rd(H:Hp)(a:Addr)(u:HO):Prop:=H a=some u\/∃o,H a=some (.frz o u)
def Rd.ok (r:Rd H a u)(x:cI P w H h):bD P w H h a u:=by
 rcases r with r|⟨o,r⟩
 .exact x a u r
 .obtain ⟨_,q⟩:=x a _ r;exact q
noncomputable def iS:Option HO->Prop
 |some (.L _)=>True
 |some (.dK _)=>True
 |some (.ext _)=>True
 |_=>False
section
variable{P:My}{w:Mz}{H:Hp}{h h':MC}{x e:Addr}{o':HO}
def cI.write(ok:cI P w H h)(G:iS (H x))(M:e=x\/H e=some (.own x))(k:∀b u,b≠e->h.get? b=some u->h'.get? b=some u)(L:∃u,h'.get? e=some u)
  (new:bD P w (aL H x o') h' x o'):cI P w (aL H x o') h':=λb u q=>by
 have B:∀c y,H c=some (.own y)->c≠x:=λc y r z=>by subst z;rw[r]at G;exact G
 have E:∀c I,H c=some (.T I)->c≠x:=λc I r z=>by subst z;rw[r]at G;exact G
 by_cases J:b=x
 .subst J;rw[zw]at q;cases q;exact new
 .rw[zu J]at q;by_cases A:b=e
  .have N:H b=some (.own x):=by
    rcases M with z|z
    .exact OD (A.trans z) J
    .rw[A];exact z
   rw[q]at N;cases N;obtain⟨v,O⟩:=L;exact⟨v,by rw[A];exact O⟩
  .refine (ok b u q).stay (λc v hc r=>k c v ?_ r) (λc r=>by rw[zu (B c b r)];exact r) λc I r=>by rw[zu (E c I r)];exact r
   rcases hc with rfl|hc
   .exact A
   .rintro rfl;rcases M with z|z
    .exact B c b hc z
    .rw[hc]at z;cases z;exact J rfl
end
structure Un(fs ex:S6)(H H':Hp)(h h':MC):Prop where
 keep:∀b o,h.get? b=some o->H b=none->b∉fs->b∉ex->h'.get? b=some o
 slot:∀b o,h.get? b=some o->H b=none->b∈fs->b∉ex->∃sl,h'.get? b=some {o with slots:=sl}
 free:∀b o,h.get? b=some o->H b=none->b∉ex->H' b=none
 there:∀b o,h.get? b=some o->b∉ex->∃o',h'.get? b=some o'
 tups:∀b xs,H b=some (.T xs)->H' b=some (.T xs)
 frzs:∀b o u,H b=some (.frz o u)->H' b=some (.frz o u)
 tbls:∀b ps,H b=some (.tbl ps)->∃more,H' b=some (.tbl (ps++more))
section
variable{fs ex:S6}{H H1:Hp}{h h1 h':MC}{a x e:Addr}{o:HO}
def Un.any (u:Un fs ex H H1 h h1)(q:h.get? b=some ob)(n:H b=none)(A:b∉ex):∃E,h1.get? b=some {ob with slots:=E}:=by
 by_cases B:b∈fs
 .exact u.slot b ob q n B A
 .exact ⟨ob.slots,u.keep b ob q n B A⟩
def Un.kept(k:∀b u,h.get? b=some u->h'.get? b=some u):Un fs ex H H h h':=
 ⟨λb A q _ _ _=>k b A q,λb A q _ _ _=>⟨A.slots,k b A q⟩,λ_ _ _ n _=>n,λb A q _=>⟨A,k b A q⟩,λ_ _ q=>q,λ_ _ _ q=>q,λ_ B q=>⟨#[],by rw[q];simp⟩⟩
def Un.refl:Un fs ex H H h h:=Un.kept λ_ _ q=>q
def Un.laid(k:∀b u,h.get? b=some u->h'.get? b=some u)(B:h.objs.size<=a)(A:H a=none):Un fs ex H (aL H a o) h h' where
 keep:=λb u q _ _ _=>k b u q
 slot:=λb u q _ _ _=>⟨u.slots,k b u q⟩
 free:=λb u q n _=>by rw[zu (QN (Qp (Qr q) B))];exact n
 there:=λb u q _=>⟨u,k b u q⟩
 tups:=λb E q=>by rw[zu (zF q A)];exact q
 frzs:=λb u E q=>by rw[zu (zF q A)];exact q
 tbls:=λb G q=>⟨#[],by rw[zu (zF q A),q];simp⟩
def Un.write(B:iS (H x))(L:e=x\/H e=some (.own x))(k:∀b u,b≠e->h.get? b=some u->h'.get? b=some u)(E:∃u,h'.get? e=some u):Un fs ex H (aL H x o) h h':=by
 have I:∀b,H b=none->b≠x:=λb n z=>by subst z;rw[n]at B;exact B
 have J:∀b,H b=none->b≠e:=λb n z=>by
  subst z;rcases L with r|r
  .exact I b n r
  .rw[n]at r;cases r
 have G:∀b u,H b=some u->¬iS (some u)->b≠x:=λb u q M z=>by subst z;rw[q]at B;exact M B
 refine⟨λb u q n _ _=>k b u (J b n) q,λb u q n _ _=>⟨u.slots,k b u (J b n) q⟩,λb u q n _=>by rw[zu (I b n)];exact n,λb u q _=>?_,
  λb N q=>by rw[zu (G b _ q λz=>z)];exact q,λb u N q=>by rw[zu (G b _ q λz=>z)];exact q,λb O q=>⟨#[],by rw[zu (G b _ q λz=>z),q];simp⟩⟩
 by_cases A:b=e
 .subst A;exact E
 .exact ⟨u,k b u A q⟩
end
noncomputable def lL(h:MC)(H:Hp):S6:=(QA h.objs.size).filter λa=>(H a).isSome
noncomputable def qS(h:MC)(H:Hp):MC:=PySem.W.hideAll h (lL h H)
def Js(h:MC)(H:Hp):(qS h H).objs.size=h.objs.size:=PySem.W.hideAll_size _ _
def IM (e:h.get? b=some o)(n:H b=none):(qS h H).get? b=some o:=
 PySem.W.hideAll_get _ e λA=>by
  have q:(H b).isSome=true:=(Vb.mp A).2;rw[n]at q;simp at q
def Hq (e:(qS h H).get? b=some o):h.get? b=some o/\H b=none:=by
 have A:h.get? b=some o:=PySem.W.of_hideAll (lL h H) e;refine⟨A,?_⟩;cases q:H b with
 |none=>rfl
 |some x=>
  have B:b∈lL h H:=Vb.mpr ⟨Ws.mpr (Qr A),by simp[q]⟩;have z:(qS h H).get? b=none:=PySem.W.hideAll_none (lL h H) B;rw[z]at e;cases e
structure Mod(K:Qb)(mg:O3)(base:MC):Prop where
 kin:K.In base
 glob:base.Ns ME mg
 blt:∃mb,base.Ns builtinsNs mb/\∀x:Str,x ≠ "__name__" -> mb x=MF x
 nolimit:base.NoLimit
set_option genInjectivity false in
structure Cx where
 prog:My
 w:Mz
 K:Qb
 mg:Str->P6
 base:MC
 A:MG
 N:T8
 s₀:Shared
 H₀:Hp
 env:Env
 outer:U0
 stack:U0
 ex:S6
 fn:Str->Bool
 calm:Bool
 pn:O6
 xe:Value->Shared->Prop
noncomputable def eg(l:U0):S6:=l.filterMap (·.frame)
abbrev Cx.fs(X:Cx):S6:=eg X.outer
noncomputable def ij(A:Mw)(x:Str):Prop:=A.names.lookup x=some .local\/A.names.lookup x=some .cell\/A.names.lookup x=some .free
noncomputable def Loc(A:Mw)(x:Str):Prop:=A.names.lookup x=some .local\/A.names.lookup x=some .cell
noncomputable def Look(env:Env)(h:MC)(m:O3)(x:Str)(u:Value):Prop:=
 (env.kindOf x=some .local/\m x=some u)\/((env.kindOf x=some .cell\/env.kindOf x=some .free)/\∃c,env.cells.lookup x=some c/\h.IsCell c (some u))
structure Cx.Ok(X:Cx):Prop where
 mod:Mod X.K X.mg X.base
 kind:X.env.scope.kind=.function
 glob:X.env.globals=ME
 blt:X.env.builtins=builtinsNs
 above:X.s₀.heap.objs.size<=X.env.locals
 inj:∀x y c,X.env.cells.lookup x=some c->X.env.cells.lookup y=some c->x=y
 has:∀x,(X.env.kindOf x=some .cell\/X.env.kindOf x=some .free)->∃c,X.env.cells.lookup x=some c
 cab:∀x c,X.fn x=true->X.env.cells.lookup x=some c->X.s₀.heap.objs.size<=c
 hd:X.calm=true->X.A.handled=none
 frames:X.A.frames=some X.stack
 stk:X.stack=X.outer\/(X.stack=X.env::X.outer/\X.env.frame=some X.env.locals)
 exf:∀b∈X.ex,b≠X.env.locals/\∀x c,X.env.cells.lookup x=some c->c≠b
 bs:∀b o,X.base.get? b=some o->X.s₀.heap.get? b=some o/\X.H₀ b=none
 bsz:X.base.objs.size<=X.s₀.heap.objs.size
 noex:∀b o,X.base.get? b=some o->b∉X.ex
 exfs:∀b∈X.ex,b∉X.fs
 funs:X.s₀.heap.FunFrames X.base X.outer
 frf:∀b∈X.fs,X.H₀ b=none
structure Inv(X:Cx)(pins:O6)(σ:List (Option V))(H:Hp)(s:Shared):Prop where
 ok:X.Ok
 os:s.os=X.s₀.os
 bare:MJ s.gens
 base:Un X.fs X.ex X.H₀ H X.s₀.heap s.heap
 loc:∃m,s.heap.Ns X.env.locals m/\∀(i:Nat) (x:Str) (v:V),X.N[i]?=some x->σ[i]?=some (some v)->ij X.env.scope x->∃u,RelV v u/\Look X.env s.heap m x u
 cell:∀x c,X.env.cells.lookup x=some c->∃v,s.heap.IsCell c v
 free:H X.env.locals=none
 freeC:∀x c,X.env.cells.lookup x=some c->H c=none
 pin:∀p∈X.pn++pins,s.heap.get? p.1=some p.2/\H p.1=none/\p.1≠X.env.locals/\p.1∉X.fs/\∀v,p.2.data≠.cell v
 hok:cI X.prog X.w H s.heap
 len:σ.length=X.N.length
section
variable{X:Cx}{pins:O6}{σ:List (Option V)}{H H':Hp}{s:Shared}{h':MC}
def Cx.Ok.nofr (ok:X.Ok)(e:X.base.get? b=some o):b∉X.fs:=λA=>by
 have:=(ok.funs.mem A).1;rw[e]at this;cases this
theorem Inv.bs(I:Inv X pins σ H s):∀b o,X.base.get? b=some o->s.heap.get? b=some o/\H b=none:=λb o e=>
 ⟨I.base.keep b o (I.ok.bs b o e).1 (I.ok.bs b o e).2 (I.ok.nofr e) (I.ok.noex b o e),I.base.free b o (I.ok.bs b o e).1 (I.ok.bs b o e).2 (I.ok.noex b o e)⟩
def Inv.bk(I:Inv X pins σ H s):∀b o,X.base.get? b=some o->s.heap.get? b=some o:=λb o e=>(I.bs b o e).1
theorem Inv.mod(I:Inv X pins σ H s):Mod X.K X.mg X.base:=I.ok.mod
def Inv.kIn(I:Inv X pins σ H s):X.K.In s.heap:=I.ok.mod.kin.keeps I.bk
theorem Inv.lt(I:Inv X pins σ H s):X.env.locals<s.heap.objs.size:=let⟨_,A,_⟩:=I.loc;A.lt
def Inv.sz(I:Inv X pins σ H s):X.s₀.heap.objs.size<=s.heap.objs.size:=Qx I.ok.above (Vk I.lt)
def Inv.nofs (I:Inv X pins σ H s)(h:s.heap.objs.size<=a):a∉X.fs:=λA=>by
 obtain⟨_,o,B,_⟩:=I.ok.funs.mem A;exact OD (Qp (Qr B) (Qx I.sz h)) (WA _)
def Inv.cne(I:Inv X pins σ H s):∀x c,X.env.cells.lookup x=some c->c≠X.env.locals:=λx c e z=>by
 obtain⟨v,o,E,G⟩:=I.cell x c e;obtain⟨m,⟨J,L,M,A,B,_⟩,_⟩:=I.loc;rw[z,A]at E;cases E;rw[B]at G;cases G
theorem Inv.funs(I:Inv X pins σ H s):s.heap.FunFrames X.base X.outer:=by
 have all:∀(l:U0),(∀b∈eg l,b∈X.fs)->X.s₀.heap.FunFrames X.base l->s.heap.FunFrames X.base l:=by
  intro l
  induction l with
  |nil=>intro _ _;trivial
  |cons J r M=>
   intro G hl;obtain⟨N,⟨L,o,A,O,Q,U⟩,Y⟩:=hl;have B:L∈X.fs:=G L (by unfold eg;rw[VQ,A];exact QT);obtain⟨j,e⟩:=I.base.slot L o Q (I.ok.frf L B) B λz=>I.ok.exfs L z B;exact⟨N,⟨L,_,A,O,e,U⟩,M (λb E=>G b (by unfold eg;rw[VQ,A];exact Qo _ E)) Y⟩
 exact all X.outer (λ_ E=>E) I.ok.funs
theorem Inv.stack(I:Inv X pins σ H s):s.heap.FunFrames X.base X.stack:=by
 rcases I.ok.stk with e|⟨e,A⟩
 .rw[e];exact I.funs
 .rw[e];obtain⟨m,B,_⟩:=I.loc;refine .cons (by rw[I.ok.kind];decide) A B ?_ I.funs;exact Heap.get?_none_of_le (Qx I.ok.bsz I.ok.above)
def Inv.stkSub(I:Inv X pins σ H s):∀b∈eg X.stack,b∈X.env.locals::X.fs:=λb A=>by
 rcases I.ok.stk with e|⟨e,B⟩
 .rw[e]at A;exact Qo _ A
 .rw[e]at A;unfold eg at A;rw[VQ,B]at A;exact A
def Inv.stkFree(I:Inv X pins σ H s):∀b∈eg X.stack,H b=none:=λb hb=>by
 rcases Qn.mp (I.stkSub b hb)with e|hb
 .rw[e];exact I.free
 .obtain ⟨_,o,A,_⟩:=I.ok.funs.mem hb;exact I.base.free b o A (I.ok.frf b hb) λz=>I.ok.exfs b z hb
def Inv.step{g':Array GenState}{t':Nat}{d':Drawn}{ch:S6}(I:Inv X pins σ H s)
  (E:∀b∈ch,(b∈X.ex\/X.s₀.heap.objs.size<=b)/\b≠X.env.locals/\(∀x c,X.env.cells.lookup x=some c->c≠b)/\∀p∈X.pn++pins,p.1≠b)
  (keep:∀b o,b≠X.env.locals->b∉X.fs->b∉ch->s.heap.get? b=some o->H b=none->h'.get? b=some o)
  (N:∀b o,b≠X.env.locals->b∈X.fs->b∉ch->s.heap.get? b=some o->H b=none->∃w,h'.get? b=some {o with slots:=w}) (B:∀b o,b∉ch->s.heap.get? b=some o->H b=none->H' b=none)
  (O:∀b o,b∉ch->s.heap.get? b=some o->∃Y,h'.get? b=some Y)
  (j:∀b xs,H b=some (.T xs)->H' b=some (.T xs)) (g:∀b o u,H b=some (.frz o u)->H' b=some (.frz o u)) (f:∀b ps,H b=some (.tbl ps)->∃t,H' b=some (.tbl (ps++t)))
  (ns:∀m,s.heap.Ns X.env.locals m->h'.Ns X.env.locals m) (y:cI X.prog X.w H' h') (hg:MJ g') :
  Inv X pins σ H' {s with heap:=h',gens:=g',drawn:=d',toks:=t' }:=by
 have h:∀b o,X.s₀.heap.get? b=some o->b≠X.env.locals:=λb o e=>QN (Qp (Qr e) I.ok.above);have L:∀b o,X.s₀.heap.get? b=some o->b∉X.ex->b∉ch:=λb o e A Q=>by
  rcases(E b Q).1 with z|z
  .exact A z
  .exact OD (Qp (Qr e) z) (WA _)
 have G:∀x c,X.env.cells.lookup x=some c->∀v,s.heap.IsCell c v->h'.IsCell c v:=λx c e v ⟨o,U,hd⟩=>by
  have J:c∉ch:=λz=>(E c z).2.2.1 x c e rfl;by_cases hc:c∈X.fs
  .obtain ⟨w,q⟩:=N c o (I.cne x c e) hc J U (I.freeC x c e);exact⟨_,q,hd⟩
  .exact ⟨o,keep c o (I.cne x c e) hc J U (I.freeC x c e),hd⟩
 refine⟨I.ok,I.os,hg,⟨λb o e n Q A=>?_,λb o e n Q A=>?_,λb o e n A=>?_,λb o e A=>?_,λb xs e=>j b xs (I.base.tups b xs e),λb o xs e=>g b o xs (I.base.frzs b o xs e),λb ps e=>?_⟩,?_,λx c e=>?_,?_,λx c e=>?_,λp hp=>?_,y,I.len⟩
 .exact keep b o (h b o e) Q (L b o e A) (I.base.keep b o e n Q A) (I.base.free b o e n A)
 .obtain ⟨w,M⟩:=I.base.slot b o e n Q A;obtain⟨sl',a⟩:=N b _ (h b o e) Q (L b o e A) M (I.base.free b o e n A);exact⟨sl',a⟩
 .obtain ⟨Y,M⟩:=I.base.there b o e A;exact B b Y (L b o e A) M (I.base.free b o e n A)
 .obtain ⟨Y,M⟩:=I.base.there b o e A;exact O b Y (L b o e A) M
 .obtain ⟨m1,M⟩:=I.base.tbls b ps e;obtain⟨m2,a⟩:=f b _ M;exact⟨m1++m2,by rw[a,Array.append_assoc]⟩
 .obtain ⟨m,hn,hl⟩:=I.loc;refine⟨m,ns m hn,λi x v M a e3=>?_⟩;obtain⟨u,r,l⟩:=hl i x v M a e3;refine⟨u,r,?_⟩;rcases l with l|⟨k,c,e,z⟩
  .exact .inl l
  .exact .inr ⟨k,c,e,G x c e _ z⟩
 .obtain ⟨v,z⟩:=I.cell x c e;exact⟨v,G x c e v z⟩
 .obtain ⟨m,⟨o,_,_,U,_⟩,_⟩:=I.loc;exact B _ o (λz=>(E _ z).2.1 rfl) U I.free
 .obtain ⟨v,o,U,hd⟩:=I.cell x c e;exact B c o (λz=>(E c z).2.2.1 x c e rfl) U (I.freeC x c e)
 .obtain ⟨e,n,ne,nf,d⟩:=I.pin p hp;have J:p.1∉ch:=λz=>(E p.1 z).2.2.2 p hp rfl;exact⟨keep p.1 p.2 ne nf J e n,B p.1 p.2 J e n,ne,nf,d⟩
def Inv.un{t':Nat}(I:Inv X pins σ H s)(u:Un X.fs [] H H' s.heap h')(B:cI X.prog X.w H' h'):Inv X pins σ H' {s with heap:=h',toks:=t' }:=by
 obtain⟨m,⟨o,Q,U,L,r⟩,_⟩:=id I.loc;obtain⟨Y,M⟩:=u.any L I.free (by simp);exact I.step (g':=s.gens) (d':=s.drawn) (ch:=[]) (λ_ z=>nomatch z) (λb o _ E _ e n=>u.keep b o e n E (by simp)) (λb o _ E _ e n=>u.slot b o e n E (by simp)) (λb o _ e n=>u.free b o e n (by simp)) (λb o _ e=>u.there b o e (by simp)) u.tups u.frzs u.tbls (λj N=>by
  obtain⟨k,G,J,A,O⟩:=N;rw[L]at A;cases A;exact⟨_,G,J,M,O⟩) B I.bare
def Inv.call{g':Array GenState}{t':Nat}{d':Drawn}{ch:S6}(I:Inv X pins σ H s)(u:Un (eg X.stack) ch H H' s.heap h')(G:cI X.prog X.w H' h')(O:MJ g')
  (B:∀b∈ch,(b∈X.ex\/X.s₀.heap.objs.size<=b)/\b≠X.env.locals/\(∀x c,X.env.cells.lookup x=some c->c≠b)/\∀p∈X.pn++pins,p.1≠b) :
  Inv X pins σ H' {s with heap:=h',gens:=g',drawn:=d',toks:=t' }:=by
 obtain⟨m,⟨o,j,k,N,r⟩,_⟩:=id I.loc;obtain⟨q,J⟩:=u.any N I.free λz=>(B _ z).2.1 rfl;exact I.step (ch:=ch) B (λb o J Q A e n=>u.keep b o e n (λz=>(Qn.mp (I.stkSub b z)).elim J Q) A) (λb o _ _ A e n=>u.any e n A) (λb o A e n=>u.free b o e n A) (λb o A e=>u.there b o e A) u.tups u.frzs u.tbls (λd U=>by
  obtain⟨l,L,M,E,Y⟩:=U;rw[N]at E;cases E;exact⟨_,L,M,J,Y⟩) G O
def Inv.turned{t':Nat}{it:Addr}(I:Inv X pins σ H s)(k:∀b o,b≠it->s.heap.get? b=some o->h'.get? b=some o)(G:H it=none)(E:it≠X.env.locals)
  (J:it∈X.ex\/X.s₀.heap.objs.size<=it) (L:∀x c,X.env.cells.lookup x=some c->c≠it) (M:∀p∈X.pn++pins,p.1≠it):Inv X pins σ H {s with heap:=h',toks:=t' }:=by
 have B:∀b u,H b=some u->b≠it:=λb u e z=>by rw[z,G]at e;cases e
 refine I.step (g':=s.gens) (d':=s.drawn) (ch:=[it]) (λb N=>?_) (λb o _ _ A e _=>k b o (λz=>A (by simp[z])) e) (λb o _ _ A e _=>⟨o.slots,k b o (λz=>A (by simp[z])) e⟩) (λ_ _ _ _ n=>n)
  (λb o A e=>⟨o,k b o (λz=>A (by simp[z])) e⟩) (λ_ _ e=>e) (λ_ _ _ e=>e) (λb j e=>⟨#[],by rw[e];simp⟩) (λm O=>?_) (λb u e=>?_) I.bare
 .have e:b=it:=by simpa using N
  subst e;exact⟨J,E,L,M⟩
 .obtain ⟨o,Q,U,Y,r⟩:=O;exact⟨o,Q,U,k _ o (Ne.symm E) Y,r⟩
 .refine (I.hok b u e).stay (λc v A q=>k c v ?_ q) (λ_ q=>q) λ_ _ q=>q;rcases A with z|z
  .rw[z];exact B b u e
  .exact B c _ z
def Inv.tok(I:Inv X pins σ H s)(t:Nat):Inv X pins σ H {s with toks:=t}:=I.un (h':=s.heap) (t':=t) Un.refl I.hok
theorem Inv.kept{t':Nat}(I:Inv X pins σ H s)(k:∀b u,s.heap.get? b=some u->h'.get? b=some u):Inv X pins σ H {s with heap:=h',toks:=t' }:=I.un (Un.kept k) (I.hok.kept k)
theorem Inv.laid{a:Addr}{o:HO}{t':Nat}(I:Inv X pins σ H s)(k:∀b u,s.heap.get? b=some u->h'.get? b=some u)(A:s.heap.objs.size<=a)(new:bD X.prog X.w (aL H a o) h' a o):
  Inv X pins σ (aL H a o) {s with heap:=h',toks:=t' }:=I.un (Un.laid k A (I.hok.fresh A)) (I.hok.laid k A new)
theorem Inv.write{x e:Addr}{o:HO}{t':Nat}(I:Inv X pins σ H s)(B:iS (H x))(E:e=x\/H e=some (.own x))(k:∀b u,b≠e->s.heap.get? b=some u->h'.get? b=some u)(A:∃u,h'.get? e=some u)
  (new:bD X.prog X.w (aL H x o) h' x o):Inv X pins σ (aL H x o) {s with heap:=h',toks:=t' }:=I.un (Un.write B E k A) (I.hok.write B E k A new)
def Inv.pins_of{A:O6}(I:Inv X pins σ H s)(h:∀p∈A,s.heap.get? p.1=some p.2/\H p.1=none/\p.1≠X.env.locals/\p.1∉X.fs/\∀v,p.2.data≠.cell v):Inv X A σ H s:=
 ⟨I.ok,I.os,I.bare,I.base,I.loc,I.cell,I.free,I.freeC,λp B=>(Qs.mp B).elim (λz=>I.pin p (QX _ z)) (h p),I.hok,I.len⟩
def AU {N:T8}(A:N.Nodup){j:Nat}(a:N[i]?=some x)(b:N[j]?=some x):i=j:=by
 obtain⟨G,B⟩:=Qa.mp a;obtain⟨I,E⟩:=Qa.mp b;exact(W7 A).mp (B.trans E.symm)
def qp (I:Inv X pins σ H s)(hN:X.N.Nodup)(g:X.N[i]?=some x)(L:Loc X.env.scope x)(r:RelV v u)(h:∀s',Inv X pins (σ.set i (some v)) H s'->(∃a,WE a s.heap s'.heap/\(a=X.env.locals\/X.env.cells.lookup x=some a))->Q () s')(hf:X.fn x=true\/X.env.scope.names.lookup x=some .local:=by first|exact .inl rfl|exact .inr rfl|assumption):MK M A (storeName X.env x u) Q E s:=by
 obtain⟨m,hn,hl⟩:=id I.loc;have f:(X.env.scope.kind == .class || (X.env.scope.kind == .module&&X.env.locals != X.env.globals))=false:=by rw[I.ok.kind];rfl
 have U:i<σ.length:=by rw[I.len];exact(Qa.mp g).1
 have cne:=I.cne;have G:∀{a:Addr}{h':MC},(∃o,s.heap.get? a=some o/\H a=none)->WE a s.heap h'->cI X.prog X.w H h':=λ{a h'} ha B b ob e=>by
  obtain⟨_,_,N⟩:=ha;refine(I.hok b ob e).stay (λc w' hc q=>(B.2 c ?_).trans q) (λ_ q=>q) λ_ _ q=>q;rintro rfl;rcases hc with rfl|hc
  .rw[N]at e;cases e
  .rw[N]at hc;cases hc
 rcases L with hk|hk
 .refine wpAny_storeName_local hk hn (λh' hn' B=>?_) f;obtain⟨oL,_,_,hoL,_⟩:=id hn;refine h _ ⟨I.ok,I.os,I.bare,⟨λb o e n Y L=>?_,λb o e n Y L=>?_,I.base.free,λb o e L=>?_,I.base.tups,I.base.frzs,I.base.tbls⟩,⟨_,hn',λj y v' J O e3=>?_⟩,λy c e=>?_,I.free,I.freeC,λp hp=>?_,G ⟨oL,hoL,I.free⟩ B,by simpa using I.len⟩ ⟨_,B,.inl rfl⟩
  .exact (B.2 b (QN (Qp (Qr e) I.ok.above))).trans (I.base.keep b o e n Y L)
  .obtain ⟨sl,J⟩:=I.base.slot b o e n Y L;exact⟨sl,(B.2 b (QN (Qp (Qr e) I.ok.above))).trans J⟩
  .obtain ⟨o',J⟩:=I.base.there b o e L;exact⟨o',(B.2 b (QN (Qp (Qr e) I.ok.above))).trans J⟩
  .by_cases hj:j=i
   .subst hj;rw[g]at J;cases J;rw[Wj U]at O;cases O;exact⟨u,r,.inl ⟨hk,by simp⟩⟩
   .rw[QO (Ne.symm hj)]at O;obtain⟨u',r',q⟩:=hl j y v' J O e3;refine⟨u',r',?_⟩;rcases q with⟨k,e⟩|⟨k,c,e,z⟩
    .refine .inl ⟨k,?_⟩;have:y≠x:=λe=>hj (AU hN J (e▸g));simp[this,e]
    .exact .inr ⟨k,c,e,z.sameBut B (cne y c e)⟩
  .obtain ⟨w',z⟩:=I.cell y c e;exact⟨w',z.sameBut B (cne y c e)⟩
  .obtain ⟨e,n,ne,nf,d⟩:=I.pin p hp;exact⟨(B.2 p.1 ne).trans e,n,ne,nf,d⟩
 .have l:X.fn x=true:=by
   rcases hf with z|z
   .exact z
   .rw[z]at hk;cases hk
  obtain⟨c,hc⟩:=I.ok.has x (.inl hk);obtain⟨w',z⟩:=I.cell x c hc;refine wpAny_storeName_cell I.ok.kind hk hc z (λh' t B=>?_);obtain⟨oc,w,hocd⟩:=id z;refine h {s with heap:=h' } ⟨I.ok,I.os,I.bare,⟨λb o e n Y L=>?_,λb o e n Y L=>?_,I.base.free,λb o e L=>?_,I.base.tups,I.base.frzs,I.base.tbls⟩,⟨m,hn.sameBut B (Ne.symm (cne x c hc)),λj y v' J O e3=>?_⟩,λy c' e=>?_,I.free,I.freeC,λp hp=>?_,G ⟨oc,w,I.freeC x c hc⟩ B,by simpa using I.len⟩ ⟨c,B,.inr hc⟩
  .exact (B.2 b (QN (Qp (Qr e) (I.ok.cab x c l hc)))).trans (I.base.keep b o e n Y L)
  .obtain ⟨sl,J⟩:=I.base.slot b o e n Y L;exact⟨sl,(B.2 b (QN (Qp (Qr e) (I.ok.cab x c l hc)))).trans J⟩
  .obtain ⟨o',J⟩:=I.base.there b o e L;exact⟨o',(B.2 b (QN (Qp (Qr e) (I.ok.cab x c l hc)))).trans J⟩
  .by_cases hj:j=i
   .subst hj;rw[g]at J;cases J;rw[Wj U]at O;cases O;exact⟨u,r,.inr ⟨.inl hk,c,hc,t⟩⟩
   .rw[QO (Ne.symm hj)]at O;obtain⟨u',r',q⟩:=hl j y v' J O e3;refine⟨u',r',?_⟩;rcases q with q|⟨k,c',e,z'⟩
    .exact .inl q
    .refine .inr ⟨k,c',e,z'.sameBut B ?_⟩;rintro rfl;exact hj (AU hN J (I.ok.inj _ _ _ e hc▸g))
  .by_cases hcc:c'=c
   .subst hcc;exact⟨_,t⟩
   .obtain ⟨w2,z2⟩:=I.cell y c' e;exact⟨w2,z2.sameBut B hcc⟩
  .obtain ⟨e,n,ne,nf,d⟩:=I.pin p hp;refine⟨(B.2 p.1 ?_).trans e,n,ne,nf,d⟩;intro q;rw[q,w]at e;have q':oc=p.2:=Option.some.inj e;exact d w' (by rw[<-q'];exact hocd)
def jP (I:Inv X pins σ H s)(G:X.N.Nodup)(J:X.N[i]?=some x)(L:Loc X.env.scope x)(r:RelV v u)(h:∀B,Inv X pins (σ.set i (some v)) H B->Q () B)(N:X.fn x=true\/X.env.scope.names.lookup x=some .local:=by first|exact .inl rfl|exact .inr rfl|assumption):MK M A (storeName X.env x u) Q E s:=
 qp I G J L r (λB O _=>h B O) N
def Inv.call'{A:Shared}{ch:S6}(I:Inv X pins σ H s)(G:A.os=s.os)(u:Un (eg X.stack) ch H H' s.heap A.heap)(B:cI X.prog X.w H' A.heap)(J:MJ A.gens)
  (E:∀b∈ch,(b∈X.ex\/X.s₀.heap.objs.size<=b)/\b≠X.env.locals/\(∀x c,X.env.cells.lookup x=some c->c≠b)/\∀p∈X.pn++pins,p.1≠b):Inv X pins σ H' A:=by
 obtain⟨h',L,M,N,O⟩:=A;have e:O=s.os:=G;subst e;exact I.call (g':=L) (t':=N) (d':=M) u B J E
end
abbrev XK:=Value->R5->Hp->Prop
abbrev St:=List (Option V)
abbrev VK:=V->Hp->Prop
abbrev TE:=St->Hp->VK->Prop
abbrev TT:=St->Hp->(Bool->Hp->Prop)->Prop
abbrev TA:=St->Hp->(U8->Hp->Prop)->Prop
set_option genInjectivity false in
structure cm where
 nx:St->Hp->Prop
 rt:VK
 bk:St->Hp->Prop:=λ_ _=>False
 ct:St->Hp->Prop:=λ_ _=>False
abbrev TS:=cm->St->Hp->Prop
noncomputable def EP(X:Cx)(A:O6)(σ:St)(Q:VK)(u:Value)(E:Shared):Prop:=∃v B,Inv X A σ B E/\RelV v u/\Q v B
noncomputable def TP(X:Cx)(A:O6)(σ:St)(Q:Bool->Hp->Prop)(b:Bool)(E:Shared):Prop:=∃B,Inv X A σ B E/\Q b B
noncomputable def AP(X:Cx)(A:O6)(σ:St)(Q:U8->Hp->Prop)(G:R6)(H:Shared):Prop:=∃B E,Inv X A σ E H/\av B G/\Q B E
noncomputable def SP(X:Cx)(B:O6)(D:cm)(f:Flow)(G:Shared):Prop:=
 match f with
 |.next=>∃A E,Inv X B A E G/\D.nx A E
 |.brk=>∃A E,Inv X B A E G/\D.bk A E
 |.cont=>∃A E,Inv X B A E G/\D.ct A E
 |.ret u=>∃v A E,Inv X B A E G/\RelV v u/\D.rt v E
noncomputable def PE(X:Cx)(e:Expr)(t:TE):Prop:=
 ∀(A:O6) (s:Shared) (B:St) (H:Hp) (Q:VK),Inv X A B H s->t B H Q->MK (ML X.prog X.w) X.A (eval e X.env) (EP X A B Q) X.xe s
noncomputable def PT(X:Cx)(e:Expr)(t:TT):Prop:=
 ∀(A:O6) (s:Shared) (B:St) (H:Hp) (Q:Bool->Hp->Prop),Inv X A B H s->t B H Q->MK (ML X.prog X.w) X.A (isTrue e X.env (eval e X.env)) (TP X A B Q) X.xe s
noncomputable def PW(X:Cx)(e:Expr)(t:TT):Prop:=
 ∀(B:Sem Value) (A:O6) (s:Shared) (E:St) (H:Hp) (Q:Bool->Hp->Prop),Inv X A E H s->t E H Q->MK (ML X.prog X.w) X.A (isTrue e X.env B) (TP X A E Q) X.xe s
def PW.pt (h:PW X e t):PT X e t:=h _
noncomputable def PA(X:Cx)(G:S8)(t:TA):Prop:=
 ∀(B:Pos) (A:O6) (s:Shared) (E:St) (H:Hp) (Q:U8->Hp->Prop),Inv X A E H s->t E H Q->MK (ML X.prog X.w) X.A (spliced (MM B (MN G X.env))) (AP X A E Q) X.xe s
noncomputable def PS(X:Cx)(st:Stmt)(t:TS):Prop:=
 ∀(A:O6) (s:Shared) (B:St) (H:Hp) (D:cm),Inv X A B H s->t D B H->MK (ML X.prog X.w) X.A (exec st X.env) (SP X A D) X.xe s
noncomputable def cJ(X:Cx)(st:S9)(t:TS):Prop:=
 ∀(A:O6) (s:Shared) (B:St) (H:Hp) (D:cm),Inv X A B H s->t D B H->MK (ML X.prog X.w) X.A (execs st X.env) (SP X A D) X.xe s
def aU (h:MK M A t Q E s)(B:∀a s,Q a s->G a s):MK M A t G E s:=MO h B λ_ _ x=>x
section
variable{X:Cx}
noncomputable def qd(i:Nat):TE:=λA H Q=>∃v,A[i]?=some (some v)/\Q v H
noncomputable def tC(v:V):TE:=λ_ H Q=>Q v H
def jQ (M:X.N[i]?=some x)(N:ij X.env.scope x)(G:(x==("__debug__":Str))=false:=by decide)(J:(x==("__classdict__":Str))=false:=by decide):PE X (.Name x pos) (qd i):=by
 intro E s O H Q I h;obtain⟨v,e,h⟩:=h;obtain⟨m,U,hl⟩:=I.loc;obtain⟨u,r,l⟩:=hl i x v M e N;have B:EP X E O Q u s:=⟨v,H,I,r,h⟩;rcases l with⟨hk,Y⟩|⟨hk,c,L,A⟩
 .exact wpAny_Name (MP I.ok.kind hk U Y B) G
 .rcases hk with hk|hk
  .exact wpAny_Name (MQ I.ok.kind hk L A B) G
  .exact wpAny_Name (wpAny_loadName_free I.ok.kind hk L A B J) G
def Et{i j pos}:PE X (.Constant (.int i) j pos) (tC (.int i)):=λ_ _ _ H _ I h=>wpAny_Constant_int ⟨.int i,H,I.tok _,⟨_,rfl⟩,h⟩
def CT{b j pos}:PE X (.Constant (.bool b) j pos) (tC (.bl b)):=λ_ _ _ H _ I h=>Constant_bool ⟨.bl b,H,I,rfl,h⟩
def Es{j pos}:PE X (.Constant .none j pos) (tC .N):=λ_ _ _ H _ I h=>Constant_none ⟨.N,H,I,rfl,h⟩
def jR{x j pos}:PE X (.Constant (.str x) j pos) (tC (.str x)):=λ_ _ _ H _ I h=>Calls.Constant_str ⟨.str x,H,I.tok _,⟨_,rfl⟩,h⟩
noncomputable def Gl(X:Cx)(x:Str):Prop:=X.env.kindOf x=some .globalImplicit
def Ag (I:Inv X A σ H s)(B:Gl X x)(G:X.mg x=some u)(h:Q u s)(J:(x==("__debug__":Str))=false:=by decide):MK (ML X.prog X.w) X.A (eval (.Name x pos) X.env) Q E s:=
 Calls.Name_function_global I.ok.kind B (Calls.loadGlobal_global (by rw[I.ok.glob];exact I.mod.glob.keeps I.bk) G h) J
def wV (I:Inv X A σ H s)(B:Gl X x)(G:X.mg x=none)(J:MF x=some u)(h:Q u s)(L:x ≠ "__name__":=by decide)(M:(x==("__debug__":Str))=false:=by decide):MK (ML X.prog X.w) X.A (eval (.Name x pos) X.env) Q E s:=by
 obtain⟨U,N,O⟩:=I.mod.blt;exact Calls.Name_function_global I.ok.kind B (Calls.loadGlobal_builtin (by rw[I.ok.glob];exact I.mod.glob.keeps I.bk) G (by rw[I.ok.blt];exact N.keeps I.bk) ((O x L).trans J) h) M
def Af (A:Gl X x)(B:X.mg x=some u)(r:RelV v u)(E:(x==("__debug__":Str))=false:=by decide):PE X (.Name x pos) (tC v):=
 λ_ _ _ H _ I h=>Ag I A B ⟨v,H,I,r,h⟩ E
def Ho (A:Gl X x)(B:X.mg x=none)(E:MF x=some u)(r:RelV v u)(G:x ≠ "__name__":=by decide)(J:(x==("__debug__":Str))=false:=by decide):PE X (.Name x pos) (tC v):=
 λ_ _ _ H _ I h=>wV I A B E ⟨v,H,I,r,h⟩ G J
variable{a b:Expr}{ta tb:TE}{pos:Pos}
noncomputable def tB(t:TE):TT:=λA H Q=>t A H λx H1=>∃c,x=.bl c/\Q c H1
def Er (h:PE X e t)(E:∀A,isTrue e X.env A=(do let v <-A;standAt e.pos;holding [v] (truthy v)):=by intro _;rfl):PT X e (tB t):=by
 intro B s G H Q I J;refine isTrue_plain (aU (h B s G H _ I J) λv O ⟨x,H1,L,M,N⟩=>?_) (E _);obtain⟨d,rfl,q⟩:=N;cases M;exact MR ⟨H1,L,q⟩
variable{tA tB':TT}{rest:S8}
noncomputable def oA(t u:TT):TT:=λA H Q=>t A H λc H1=>if c=true then u A H1 Q else Q false H1
noncomputable def K9(t u:TT):TT:=λA H Q=>t A H λc H1=>if c=true then Q true H1 else u A H1 Q
noncomputable def ot(t:TT):TT:=λA H Q=>t A H λc H1=>Q (! c) H1
def Hn(B:PT X a tA):PW X (.BoolOp .And [a] pos) tA:=by
 intro G A s E H Q I h;refine isTrue_and (aU (B A s E H Q I h) λc J e=>?_);cases c with
 |true=>exact isTrue_and_nil e
 |false=>exact e
def Ep(B:PT X a tA):PW X (.BoolOp .Or [a] pos) tA:=by
 intro G A s E H Q I h;refine isTrue_or (aU (B A s E H Q I h) λc J e=>?_);cases c with
 |false=>exact isTrue_or_nil e
 |true=>exact e
def EW(J:PT X a tA)(L:PW X (.BoolOp .And (b::rest) pos) tB'):PW X (.BoolOp .And (a::b::rest) pos) (oA tA tB'):=by
 intro M A s B H Q I h;refine isTrue_and (aU (J A s B H _ I h) λc N ⟨H1,E,G⟩=>?_);cases c with
 |true=>exact L M A N B H1 Q E G
 |false=>exact⟨H1,E,G⟩
def CS(J:PT X a tA)(L:PW X (.BoolOp .Or (b::rest) pos) tB'):PW X (.BoolOp .Or (a::b::rest) pos) (K9 tA tB'):=by
 intro M A s B H Q I h;refine isTrue_or (aU (J A s B H _ I h) λc N ⟨H1,E,G⟩=>?_);cases c with
 |true=>exact⟨H1,E,G⟩
 |false=>exact L M A N B H1 Q E G
def EV(B:PT X a tA):PT X (.UnaryOp .Not a pos) (ot tA):=by
 intro A s E H Q I h;exact isTrue_not (B A s E H (λc H1=>Q (! c) H1) I h)
noncomputable def Dp(ta tb:TE):TE:=λA H Q=>ta A H λx H1=>∃c,x=.bl c/\if c=true then tb A H1 Q else Q (.bl false) H1
noncomputable def oq(ta tb:TE):TE:=λA H Q=>ta A H λx H1=>∃c,x=.bl c/\if c=true then Q (.bl true) H1 else tb A H1 Q
noncomputable def Do(ta:TE):TE:=λA H Q=>ta A H λx H1=>∃c,x=.bl c/\Q (.bl (! c)) H1
def tK {op}(h:PE X a t):PE X (.BoolOp op [a] pos) t:=λA s B H Q I E=>BoolOp_one (h A s B H Q I E)
def EU(J:PE X a ta)(L:PE X (.BoolOp .And (b::rest) pos) tb):PE X (.BoolOp .And (a::b::rest) pos) (Dp ta tb):=by
 intro A s E H Q I h;refine BoolOp_and (aU (J A s E H _ I h) λv M ⟨x,H1,G,N,B⟩=>?_);obtain⟨c,rfl,B⟩:=B;cases N;refine MR ?_;cases c with
 |true=>exact L A M E H1 Q G B
 |false=>exact⟨.bl false,H1,G,rfl,B⟩
def Dn(J:PE X a ta)(L:PE X (.BoolOp .Or (b::rest) pos) tb):PE X (.BoolOp .Or (a::b::rest) pos) (oq ta tb):=by
 intro A s E H Q I h;refine BoolOp_or (aU (J A s E H _ I h) λv M ⟨x,H1,G,N,B⟩=>?_);obtain⟨c,rfl,B⟩:=B;cases N;refine MR ?_;cases c with
 |false=>exact L A M E H1 Q G B
 |true=>exact⟨.bl true,H1,G,rfl,B⟩
def ET(E:PE X a ta):PE X (.UnaryOp .Not a pos) (Do ta):=by
 intro A s G H Q I h;refine UnaryOp_ (aU (E A s G H _ I h) λv M ⟨x,H1,J,L,B⟩=>?_);obtain⟨c,rfl,B⟩:=B;cases L;exact not_of (MR ⟨.bl (! c),H1,J,rfl,B⟩)
noncomputable def A4(t:TT)(ta tb:TE):TE:=λA H Q=>t A H λc H1=>if c=true then ta A H1 Q else tb A H1 Q
def IL (L:PT X c tA)(M:PE X a ta)(N:PE X b tb):PE X (.IfExp c a b pos) (A4 tA ta tb):=by
 intro A s B H Q I h;refine wpAny_IfExp (aU (L A s B H _ I h) λd E ⟨H1,G,J⟩=>?_);cases d with
 |true=>exact M A E B H1 Q G J
 |false=>exact N A E B H1 Q G J
end
noncomputable def bg(K:Qb)(H:Hp)(a:Addr)(xs:U8):Prop:=
 Rd H a (.L xs) \/
  ∃(o:Obj) (A:P7) (n:Nat),K.lookup a=some o/\o.cls=.type "list" /\ o.dict=none/\o.data=.seq A n/\A.size<=sizeLine/\av xs A.toList
noncomputable def bS(K:Qb)(H:Hp)(a:Addr)(xs:U8):Prop:=
 Rd H a (.T xs) \/
  ∃(o:Obj) (A:P7) (n:Nat),K.lookup a=some o/\o.cls=.type "tuple" /\ o.data=.seq A n/\A.size<=sizeLine/\av xs A.toList
noncomputable def oW:Value->Option V
 |.none=>some .N
 |.bool b=>some (.bl b)
 |.int i _=>some (.int i)
 |.str x _=>some (.str x)
 |.bytes b _=>some (.byt b)
 |.float b _=>some (.flt b)
 |.ref a=>some (.ref a)
 |.type n=>some (.ty n)
 |_=>none
def RelV.abs (r:RelV x u):oW u=some x:=by
 cases x with
 |N=>cases r;rfl
 |bl _=>cases r;rfl
 |int _=>obtain⟨t,rfl⟩:=r;rfl
 |str _=>obtain⟨t,rfl⟩:=r;rfl
 |byt _=>obtain⟨t,rfl⟩:=r;rfl
 |flt _=>obtain⟨t,rfl⟩:=r;rfl
 |ref _=>cases r;rfl
 |ty _=>cases r;rfl
theorem RelV.inj (r:RelV x u)(q:RelV y u):x=y:=Option.some.inj (r.abs.symm.trans q.abs)
theorem av.inj:∀{xs ys:U8}{A:R6},av xs A->av ys A->xs=ys
 |_,_,_,.nil,.nil=>rfl
 |_,_,_,.cons r t,.cons B E=>by rw[r.inj B,av.inj t E]
section
variable{X:Cx}{pins:O6}{σ:St}{H:Hp}{s:Shared}{a:Addr}{xs ys:U8}
def bg.of{K:Qb}(h:H a=some (.L xs)):bg K H a xs:=.inl (.inl h)
def bS.of{K:Qb}(h:H a=some (.T xs)):bS K H a xs:=.inl (.inl h)
def Inv.list(I:Inv X pins σ H s)(h:bg X.K H a xs):∃its:R6,av xs its/\PlainL s.heap a its.toArray/\xs.length<=sizeLine:=by
 rcases h with h|⟨o,its,n,A,B,E,G,J,r⟩
 .obtain ⟨z,its,n,r,e⟩:=h.ok I.hok;exact⟨its,r,⟨_,n,e,rfl,rfl,rfl⟩,z⟩
 .refine ⟨its.toList,r,⟨o,n,I.kIn a o A,B,E,by simpa using G⟩,?_⟩;have e:=r.length;simp only[QY]at e;lia
def Inv.tuple(I:Inv X pins σ H s)(h:bS X.K H a xs):∃its:R6,av xs its/\IsTup s.heap a its.toArray/\xs.length<=sizeLine:=by
 rcases h with h|⟨o,its,n,A,B,E,G,r⟩
 .obtain ⟨z,its,r,p⟩:=h.ok I.hok;exact⟨its,r,p,z⟩
 .refine ⟨its.toList,r,⟨o,I.kIn a o A,B,n,by simpa using E⟩,?_⟩;have e:=r.length;simp only[QY]at e;lia
def Inv.list_inj(I:Inv X pins σ H s)(h:bg X.K H a xs)(h':bg X.K H a ys):xs=ys:=by
 obtain⟨B,r,⟨o,n,e,_,_,d⟩,_⟩:=I.list h;obtain⟨A,J,⟨L,M,E,_,_,G⟩,_⟩:=I.list h';rw[e]at E;cases E;rw[d]at G;injection G with d1 _
 have:B=A:=by simpa using OE W2 d1
 subst this;exact r.inj J
def Inv.tuple_inj(I:Inv X pins σ H s)(h:bS X.K H a xs)(h':bS X.K H a ys):xs=ys:=by
 obtain⟨B,r,⟨o,e,_,n,d⟩,_⟩:=I.tuple h;obtain⟨A,J,⟨L,E,_,M,G⟩,_⟩:=I.tuple h';rw[e]at E;cases E;rw[d]at G;injection G with d1 _
 have:B=A:=by simpa using OE W2 d1
 subst this;exact r.inj J
end
abbrev Cx.wish(X:Cx)(E:O2):Cx:={X with xe:=E}
abbrev Cx.nox(X:Cx):Cx:=X.wish λ_ _=>False
theorem Cx.Ok.wish{X:Cx}(ok:X.Ok)(E:O2):(X.wish E).Ok:=
 ⟨ok.mod,ok.kind,ok.glob,ok.blt,ok.above,ok.inj,ok.has,ok.cab,ok.hd,ok.frames,ok.stk,ok.exf,ok.bs,ok.bsz,ok.noex,ok.exfs,ok.funs,ok.frf⟩
def Cx.Ok.unwish {X:Cx}(ok:(X.wish E).Ok):X.Ok:=
 ⟨ok.mod,ok.kind,ok.glob,ok.blt,ok.above,ok.inj,ok.has,ok.cab,ok.hd,ok.frames,ok.stk,ok.exf,ok.bs,ok.bsz,ok.noex,ok.exfs,ok.funs,ok.frf⟩
section
variable{X:Cx}{pins:O6}{σ:St}{H:Hp}{s:Shared}{E:O2}
theorem Inv.wish(I:Inv X pins σ H s)(E:O2):Inv (X.wish E) pins σ H s:=⟨I.ok.wish E,I.os,I.bare,I.base,I.loc,I.cell,I.free,I.freeC,I.pin,I.hok,I.len⟩
theorem Inv.unwish(I:Inv (X.wish E) pins σ H s):Inv X pins σ H s:=⟨I.ok.unwish,I.os,I.bare,I.base,I.loc,I.cell,I.free,I.freeC,I.pin,I.hok,I.len⟩
theorem SP.unwish{D:cm}{f:Flow}{G:Shared}(h:SP (X.wish E) pins D f G):SP X pins D f G:=by
 cases f with
 |next=>obtain⟨A,B,I,q⟩:=h;exact⟨A,B,I.unwish,q⟩
 |brk=>obtain⟨A,B,I,q⟩:=h;exact⟨A,B,I.unwish,q⟩
 |cont=>obtain⟨A,B,I,q⟩:=h;exact⟨A,B,I.unwish,q⟩
 |ret u=>obtain⟨v,A,B,I,r,q⟩:=h;exact⟨v,A,B,I.unwish,r,q⟩
theorem cJ.nox{st:S9}{t:TS}(h:cJ X.nox st t):cJ X st t:=λpins s σ H D I A=>
 MO (h pins s σ H D (I.wish _) A) (λ_ _ q=>q.unwish) λ_ _ z=>False.elim z
end
section
variable{X:Cx}{st:Stmt}{rest:S9}{t u:TS}{e:Expr}{te:TE}{pos:Pos}
noncomputable def Dm:TS:=λD A H=>D.nx A H
noncomputable def om(t u:TS):TS:=λD A H=>t {D with nx:=u D} A H
def Hm:cJ X [] Dm:=λ_ _ A H _ I h=>MS ⟨A,H,I,h⟩
set_option tactic.hygienic true in
def AT(E:PS X st t)(G:cJ X rest u):cJ X (st::rest) (om t u):=by
 intro A s J H D I h;refine wpAny_execs_cons (aU (E A s J H {D with nx:=u D} I h) λf L q=>?_);cases f with
 |next=>
  obtain⟨B,M,N,q⟩:=q;exact G A L B M D N q
 |ret v=>exact q
 |brk=>exact q
 |cont=>exact q
def Ae(B:PS X st t):cJ X [st] t:=by
 intro A s E H D I h;refine wpAny_execs_cons (aU (B A s E H D I h) λf G q=>?_);cases f with
 |next=>exact MS q
 |ret v=>exact q
 |brk=>exact q
 |cont=>exact q
def Inv.quiet (I:Inv X A σ H s):interactive X.env=false:=by simp[interactive,I.ok.kind]
noncomputable def Dl(te:TE):TS:=λD A H=>te A H λ_ H1=>D.nx A H1
def Hl(E:PE X e te)(G:MT e none pos.line X.env=pure false:=by rfl):PS X (.Expr e pos) (Dl te):=by
 intro A s B H D I h;exact wpAny_Expr_any (aU (E A s B H _ I h) λv M ⟨x,H1,J,N,L⟩=>⟨B,H1,J,L⟩) I.quiet G
noncomputable def oo(te:TE):TS:=λD A H=>te A H D.rt
def tJ(E:PE X e te):PS X (.Return (some e) pos) (oo te):=by
 intro A s B H D I h;exact wpAny_Return_some (aU (E A s B H _ I h) λv M ⟨x,H1,G,J,L⟩=>⟨x,B,H1,G,J,L⟩)
noncomputable def ow(c:TT)(t u:TS):TS:=λD A H=>c A H λb H1=>if b=true then t D A H1 else u D A H1
def Dj (L:PT X c tc)(M:cJ X a t)(N:cJ X b u):PS X (.If c a b pos) (ow tc t u):=by
 intro A s B H D I h;refine wpAny_If (aU (L A s B H _ I h) λd E ⟨H1,G,J⟩=>?_);cases d with
 |true=>exact M A E B H1 D G J
 |false=>exact N A E B H1 D G J
noncomputable def ES:TS:=λ_ _ _=>False
def IK:PS X st ES:=λ_ _ _ _ _ _ h=>h.elim
end
abbrev TG:=V->St->Hp->(St->Hp->Prop)->Prop
abbrev fL:=U8->St->Hp->(St->Hp->Prop)->Prop
noncomputable def PG(X:Cx)(A:Expr)(t:TG):Prop:=
 ∀(B:O6) (s:Shared) (G:St) (H:Hp) (v:V) (u:Value) (Q:St->Hp->Prop),Inv X B G H s->RelV v u->t v G H Q ->
  MK (ML X.prog X.w) X.A (assign A X.env u) (λ_ J=>∃E I,Inv X B E I J/\Q E I) X.xe s
noncomputable def ma(X:Cx)(L:S8)(t:fL):Prop:=
 ∀(A:O6) (s:Shared) (E:St) (H:Hp) (G:U8) (I:R6) (Q:St->Hp->Prop),Inv X A E H s->av G I->t G E H Q ->
  MK (ML X.prog X.w) X.A (assignInOrder ((MU L X.env).map (·.2)) I) (λ_ M=>∃B J,Inv X A B J M/\Q B J) X.xe s
abbrev mG:=V->V->V->Hp->(Hp->Prop)->Prop
noncomputable def rM(X:Cx)(t:mG):Prop:=
 ∀(A:O6) (s:Shared) (B:St) (H:Hp) (o i v:V) (E G u:Value) (Q:Hp->Prop),Inv X A B H s->RelV o E->RelV i G->RelV v u->t o i v H Q ->
  MK (ML X.prog X.w) X.A (MV E G u) (λ_ J=>∃I,Inv X A B I J/\Q I) X.xe s
abbrev iQ:=V->V->Hp->VK->Prop
noncomputable def l9(X:Cx)(op:MW)(t:iQ):Prop:=
 ∀(A:O6) (s:Shared) (B:St) (H:Hp) (x y:V) (v u:Value) (Q:VK),Inv X A B H s->RelV x v->RelV y u->t x y H Q ->
  MK (ML X.prog X.w) X.A (inplaceOp op v u) (EP X A B Q) X.xe s
section
variable{X:Cx}{pos:Pos}
noncomputable def v5(i:Nat):TG:=λv A H Q=>Q (A.set i (some v)) H
def v6 (B:X.N.Nodup)(E:X.N[i]?=some x)(G:Loc X.env.scope x)(J:X.fn x=true\/X.env.scope.names.lookup x=some .local:=by first|exact .inl rfl|exact .inr rfl|assumption):PG X (.Name x pos) (v5 i):=by
 intro A s M H v u Q I r h;exact wpAny_assign_Name (jP I B E G r (λN L=>⟨_,H,L,h⟩) J)
noncomputable def rL:fL:=λA B H Q=>A=[]/\Q B H
noncomputable def mZ(t:TG)(u:fL):fL:=λB E H Q=>∃v r,B=v::r/\t v E H λA G=>u r A G Q
def Hk:ma X [] rL:=by
 intro A s B H E G Q I r h;obtain⟨e,h⟩:=h;subst e;cases r;exact assignInOrder_nil ⟨B,H,I,h⟩
def AS (G:PG X e t)(J:ma X B u)(L:(MU (e::B) X.env).map (·.2)=assign e X.env::(MU B X.env).map (·.2):=by rfl):ma X (e::B) (mZ t u):=by
 intro A s M H k q Q I r h;obtain⟨v,z,N,h⟩:=h;subst N;cases r with
 |cons r O=>
  rw[L];refine assignInOrder_cons (aU (G A s M H _ _ _ I r h) λ_ U ⟨E,H1,Y,j⟩=>?_);exact J A U E H1 _ _ Q Y O j
noncomputable def rK(K:Qb)(n:Nat)(t:fL):TG:=λv B H Q=>∃a A,v=.ref a/\bS K H a A/\A.length=n/\t A B H Q
def ER (M:X.calm=true)(h:ma X B t)(N:(MU B X.env).length=n:=by rfl)(E:(MU B X.env).findIdx? (·.1)=none:=by rfl):PG X (.Tuple B k pos) (rK X.K n t):=by
 intro A s J H v u Q I r G;obtain⟨a,O,U,Y,hl,G⟩:=G;subst U;cases r;obtain⟨j,L,q,c⟩:=I.tuple Y;refine assign_Tuple_tuple (I.ok.hd M) q (by simp[N,<-hl,L.length]) E λz p=>?_;have d:Inv X A J H {s with heap:=z }:=I.kept (t':=s.toks) λb o e=>p b o (QN (Qr e)) e;exact h A _ J H O _ Q d (by simpa using L) G
noncomputable def oQ(B E:TE)(t:mG):TG:=λv A H Q=>B A H λo H1=>E A H1 λi H2=>t o i v H2 λH3=>Q A H3
def EQ (J:PE X o L)(M:PE X i N)(O:rM X t)(U:∀v,assign (.Subscript o i pos) X.env v=(do
   let B <-holding [v] (eval o X.env)
   let E <-holding [v,B] (eval i X.env)
   standAt pos
   holding [v,B,E] (MV B E v)
   release [v,B,E] []):=by intro _;rfl):PG X (.Subscript o i pos) (oQ L N t):=by
 intro A s G H v u Q I r h;rw[U];refine MX (MY (aU (J A s G H _ I h) λB Y ⟨x,H1,j,k,q⟩=>?_));refine MX (MY (aU (M A Y G H1 _ j q) λE z ⟨y,H2,p,d,c⟩=>?_));refine MX (MZ (MX (MY (aU (O A z G H2 x y v B E u _ p k d r c) λ_ f ⟨H3,l,g⟩=>?_))));exact wpAny_release ⟨G,H3,l,g⟩
noncomputable def i4(te:TE)(g:TG):TS:=λD A H=>te A H λx H1=>g x A H1 D.nx
def EO (G:PE X e te)(J:PG X B g)(L:swapsWithSole [B] e pos.line X.env=pure false:=by rfl)(M:swappedStores [B] e X.env=pure none:=by rfl)(N:(MU [B] X.env).map (·.2)=[assign B X.env]:=by rfl):PS X (.Assign [B] e pos) (i4 te g):=by
 intro A s E H D I h;refine wpAny_Assign_stores (aU (G A s E H _ I h) λv O ⟨x,H1,Q,U,Y⟩=>?_) L M;rw[N];exact aU (J A O E H1 x v _ Q U Y) λ_ j q=>q
def nq (E:X.N.Nodup)(G:X.N[i]?=some x)(J:Loc X.env.scope x)(L:PE X e te)(M:MT e (some (.Name x A)) pos.line X.env=pure false:=by rfl)(N:X.fn x=true\/X.env.scope.names.lookup x=some .local:=by first|exact .inl rfl|exact .inr rfl|assumption):
  PS X (.Assign [.Name x A] e pos) (i4 te (v5 i)):=by
 intro B s O H D I h;refine wpAny_Assign_Name (aU (L B s O H _ I h) λv k ⟨y,H1,Q,U,Y⟩=>?_) M;exact jP Q E G J U (λq j=>⟨_,H1,j,Y⟩) N
noncomputable def oz(i:Nat)(te:TE)(B:iQ):TS:=λD A H=>∃x,A[i]?=some (some x)/\te A H λy H1=>B x y H1 λz H2=>D.nx (A.set i (some z)) H2
def EM (Q:X.N.Nodup)(M:X.N[i]?=some x)(J:Loc X.env.scope x)(U:PE X e te)(Y:l9 X op j)(q:X.fn x=true\/X.env.scope.names.lookup x=some .local:=by first|exact .inl rfl|exact .inr rfl|assumption):
  PS X (.AugAssign (.Name x N) op e pos) (oz i te j):=by
 intro A s O H D I h;obtain⟨v,o,h⟩:=h;obtain⟨m,p,hl⟩:=I.loc;have L:ij X.env.scope x:=by rcases J with k|k;exact .inl k;exact .inr (.inl k)
 obtain⟨u,r,l⟩:=hl i x v M o L;refine wpAny_AugAssign_Name ?_;have go:MK (ML X.prog X.w) X.A (eval e X.env) (λw E=>MK (ML X.prog X.w) X.A (inplaceOp op u w) (λr G=>MK (ML X.prog X.w) X.A (storeName X.env x r) (λ_=>SP X A D .next) X.xe G) X.xe E) X.xe s:=by
  refine aU (U A s O H _ I h) λw d ⟨y,H1,g,f,t⟩=>?_;refine aU (Y A d O H1 v y u w _ g r f t) λz s2 ⟨zv,H2,b,n,a⟩=>?_;exact jP b Q M J n (λs3 I3=>⟨_,H2,I3,a⟩) q
 rcases l with⟨hk,hm⟩|⟨hk,c,hc,B⟩
 .exact MP I.ok.kind hk p hm go
 .rcases hk with hk|hk
  .exact MQ I.ok.kind hk hc B go
  .rcases J with k|k
   .have:X.env.scope.names.lookup x=some .free:=hk;rw[k]at this;cases this
   .have:X.env.scope.names.lookup x=some .free:=hk;rw[k]at this;cases this
noncomputable def A7(f:Int->Int->Int):iQ:=λx y H Q=>∃i j,x=.int i/\y=.int j/\Q (.int (f i j)) H
def EL:l9 X .Add (A7 λi j=>i+j):=by
 intro A s L H x y v u Q I B E h;obtain⟨i,j,G,J,q⟩:=h;subst G;subst J;obtain⟨t,rfl⟩:=B;obtain⟨M,rfl⟩:=E;exact iadd_int ⟨.int _,H,I.tok _,⟨_,rfl⟩,q⟩
def EK:l9 X .Sub (A7 λi j=>i-j):=by
 intro A s L H x y v u Q I B E h;obtain⟨i,j,G,J,q⟩:=h;subst G;subst J;obtain⟨t,rfl⟩:=B;obtain⟨M,rfl⟩:=E;exact isub_int ⟨.int _,H,I.tok _,⟨_,rfl⟩,q⟩
end
section
variable{X:Cx}{pos:Pos}
noncomputable def tI(c:TT)(I:TS):TS:=λD A H=>∃W:Nat->St->Hp->Prop,(∃m,W m A H)/\∀m A H,W m A H ->
 c A H λb H1=>if b=true then ∃N:St->Hp->Prop,(∀B E,N B E->∃G,G<m/\W G B E)/\I {D with nx:=N,ct:=N,bk:=D.nx} A H1 else D.nx A H1
set_option tactic.hygienic true in
def IJ (k:PassesOwn (ML X.prog X.w) X.A X.env X.xe)(o:PT X c tc)(p:cJ X body d):PS X (.While c body [] pos) (tI tc d):=by
 intro A s l H D I h;obtain⟨W,⟨m0,g⟩,G⟩:=h;refine wpAny_While (codeAny_whileLoop (λn e=>∃J q,Inv X A J q e/\W n J q) ?_ m0 ⟨l,H,I,g⟩);rintro n t ⟨E,H1,m,i⟩;refine M6 k (aU (o A t E H1 _ m (G n E H1 i)) λb a ⟨H2,u,L⟩=>?_);cases b with
 |true=>
  obtain⟨N,z,L⟩:=L;rw[OB rfl];refine M6 k (aU (p A a E H2 _ u L) λf w M=>?_);cases f with
  |next=>
   obtain⟨B,H3,O,Q⟩:=M;obtain⟨U,Y,j⟩:=z B H3 Q;exact⟨U,Y,B,H3,O,j⟩
  |cont=>
   obtain⟨B,H3,O,Q⟩:=M;obtain⟨U,Y,j⟩:=z B H3 Q;exact⟨U,Y,B,H3,O,j⟩
  |brk=>exact M
  |ret v=>exact M
 |false=>
  rw[OC QU];exact MS ⟨E,H2,u,L⟩
end
set_option genInjectivity false in
structure It where
 go:Nat->Hp->Prop
 yld:Nat->Hp->V->Hp->Prop
 stop:Nat->Hp->Prop
noncomputable def jx(X:Cx)(A:O6)(H:Hp)(b:Addr):Prop:=
 H b=none/\b≠X.env.locals/\b∉X.fs/\(b∈X.ex\/X.s₀.heap.objs.size<=b)/\(∀x c,X.env.cells.lookup x=some c->c≠b)/\∀p∈X.pn++A,p.1≠b
def Inv.fpOk (I:Inv X A σ H s)(B:s.heap.objs.size<=b)(E:G b=none):jx X A G b:=by
 refine⟨E,Vj (Qp I.lt B),I.nofs B,.inr (Qx I.sz B),λx c e z=>?_,λp J z=>?_⟩
 .obtain ⟨v,q⟩:=I.cell x c e;exact OD (Qp q.lt (by rw[z];exact B)) (WA _)
 .exact OD (Qp (Qr (I.pin p J).1) (by rw[z];exact B)) (WA _)
structure dh(P:My)(w:Mz)(K:Qb)(tg:Expr)(J:It)(fp:S6)(it:Addr)(tn:Nat->MC->Prop):Prop where
 mem:it∈fp
 obj:∀i h,tn i h->∀b∈fp,∃o,h.get? b=some o/\∀v,o.data≠.cell v
 keep:∀i h h',tn i h->(∀b∈fp,∀o,h.get? b=some o->h'.get? b=some o)->tn i h'
 item:∀(X:Cx),X.prog=P->X.w=w->X.K=K->X.calm=true->∀(i:Nat) (pins:O6) (s:Shared) (σ:St) (H:Hp) (E:O2),Inv X pins σ H s->(∀b∈fp,jx X pins H b)->tn i s.heap->J.go i H ->
  MK (ML P w) X.A (M7 (.ref it)) (λr s1=>∃u,r=some u /\
   MK (ML P w) X.A (M8 tg (.ref it) u) (λ_ s2=>∃x H',Inv X pins σ H' s2/\RelV x u/\J.yld i H x H'/\tn (i+1) s2.heap/\∀b∈fp,H' b=none) E s1) E s
 done:∀(X:Cx),X.prog=P->X.w=w->X.K=K->X.calm=true->∀(i:Nat) (pins:O6) (s:Shared) (σ:St) (H:Hp) (E:O2),Inv X pins σ H s->(∀b∈fp,jx X pins H b)->tn i s.heap->J.stop i H ->
  MK (ML P w) X.A (M7 (.ref it)) (λr s1=>r=none/\Inv X pins σ H s1) E s
 self:∀(A:MG) (i:Nat) (s:Shared) (Q:O2) (E:O2),tn i s.heap->Q (.ref it) s->MK (ML P w) A (pyIter (.ref it)) Q E s
abbrev TI:=St->Hp->(It->Hp->Prop)->Prop
noncomputable def B5(X:Cx)(A:O6)(σ:St)(M:Expr)(R:It->Hp->Prop)(B:Value)(G:Shared):Prop:=
 ∃(H:Addr) (I:S6) (L:Nat->MC->Prop) (J:It) (E:Hp),B=.ref H/\Inv X A σ E G/\dh X.prog X.w X.K M J I H L/\L 0 G.heap/\(∀b∈I,jx X A E b)/\R J E
noncomputable def PI(X:Cx)(E iter:Expr)(G:TI):Prop:=
 ∀(A:O6) (s:Shared) (B:St) (H:Hp) (R:It->Hp->Prop),Inv X A B H s->G B H R ->
  MK (ML X.prog X.w) X.A (eval iter X.env) (λv I=>MK (ML X.prog X.w) X.A (pyIter v) (B5 X A B E R) X.xe I) X.xe s
def iF (G:s.heap.get? it=some o)(H:o.cls=.type n)(I:o.data=.fields vs)(J:["enumerate","zip","dict_itemiterator","dict_reverseitemiterator","odict_iterator","itertools.zip_longest","itertools.pairwise"].contains n=false)(B:Q () s):MK M A (M8 L (.ref it) u) Q E s:=by
 unfold M8;cases L<;>first
  |exact M9 B
  | (cases u <;> first
    |exact M9 B
    | (refine MX (wpAny_load G ?_)
       rw[H,I];show MK M A (if(["enumerate","zip","dict_itemiterator","dict_reverseitemiterator","odict_iterator","itertools.zip_longest","itertools.pairwise"].contains n&&vs[0]?==some (Na _))=true then _ else _) Q E s;rw[OC (by intro h;rw[J,Bool.false_and]at h;cases h)];exact M9 B))
noncomputable def pz(K:Qb)(a:Addr):It:=
 ⟨λi H=>∃A x,bg K H a A/\A[i]?=some x,λi H x B=>B=H/\∀A,bg K H a A->A[i]?=some x,λi H=>∃A,bg K H a A/\A.length<=i⟩
noncomputable def B6(K:Qb)(a:Addr):It:=
 ⟨λi H=>∃A x,bS K H a A/\A[i]?=some x,λi H x B=>B=H/\∀A,bS K H a A->A[i]?=some x,λi H=>∃A,bS K H a A/\A.length<=i⟩
noncomputable def iT(lo:Int)(n:Nat):It:=⟨λi _=>i<n,λi H x A=>A=H/\x=.int (lo+i),λi _=>n<=i⟩
def Jr {K:Qb}(a it:Addr):dh P w K tg (pz K a) [it] it (λi h=>h.IsListIter it a i) where
 mem:=by simp
 obj:=λi h st b B=>by
  have e:b=it:=by simpa using B
  subst e;obtain⟨o,e,c,d⟩:=st;exact⟨o,e,λv z=>by rw[d]at z;cases z⟩
 keep:=λi h J st k=>st.at λo e=>k it (by simp) o e
 item:=by
  intro X N O Q l i A s g H E I L st U;subst N O Q;obtain⟨f,x,M,Y⟩:=U;obtain⟨j,q,p,t⟩:=I.list M;obtain⟨u,m,n⟩:=q.get Y;obtain⟨f0,f1,f2,f3,f4,f5⟩:=L it (by simp);refine wpAny_pyNext_list_item st p.isList (x:=u) (by simpa using m) λJ G y=>?_;have I1:Inv X A g H {s with heap:=J }:=I.turned (t':=s.toks) (λb o B e=>(y.2 b B).trans e) f0 f1 f3 f4 f5;obtain⟨o,e,c,d⟩:=id G;exact⟨u,rfl,iF (s:={s with heap:=J }) e c d (by decide) ⟨x,H,I1,n,⟨rfl,λys hy=>by rw[I.list_inj hy M];exact Y⟩,G,λb B=>(L b B).1⟩⟩
 done:=by
  intro X N O Q l i A s g H E I L st U;subst N O Q;obtain⟨f,M,Y⟩:=U;obtain⟨j,q,p,t⟩:=I.list M;obtain⟨f0,f1,f2,f3,f4,f5⟩:=L it (by simp);have hl:=q.length;exact wpAny_pyNext_list_end (I.ok.hd l) st p.isList (by simp;lia) λJ eb=>⟨rfl,I.turned (t':=s.toks) (λb o B e=>eb b o B e) f0 f1 f3 f4 f5⟩
 self:=λ_ _ _ _ _ st h=>wpAny_pyIter_listiter st h
def Kf {K:Qb}(a it:Addr):dh P w K tg (B6 K a) [it] it (λi h=>h.IsTupleIter it a i) where
 mem:=by simp
 obj:=λi h st b B=>by
  have e:b=it:=by simpa using B
  subst e;obtain⟨o,e,c,d⟩:=st;exact⟨o,e,λv z=>by rw[d]at z;cases z⟩
 keep:=λi h L st k=>st.at λo e=>k it (by simp) o e
 item:=by
  intro X O Q U l i A s g H E I M st Y;subst O Q U;obtain⟨f,x,N,j⟩:=Y;obtain⟨G,q,p,t⟩:=I.tuple N;obtain⟨u,m,n⟩:=q.get j;obtain⟨f0,f1,f2,f3,f4,f5⟩:=M it (by simp);refine wpAny_pyNext_tuple_item st (show s.heap.IsTuple a G.toArray from p) (x:=u) (by simpa using m) λL J y=>?_;have I1:Inv X A g H {s with heap:=L }:=I.turned (t':=s.toks) (λb o B e=>(y.2 b B).trans e) f0 f1 f3 f4 f5;obtain⟨o,e,c,d⟩:=id J;exact⟨u,rfl,iF (s:={s with heap:=L }) e c d (by decide) ⟨x,H,I1,n,⟨rfl,λys hy=>by rw[I.tuple_inj hy N];exact j⟩,J,λb B=>(M b B).1⟩⟩
 done:=by
  intro X O Q U l i A s g H E I M st Y;subst O Q U;obtain⟨f,N,j⟩:=Y;obtain⟨G,q,p,t⟩:=I.tuple N;obtain⟨f0,f1,f2,f3,f4,f5⟩:=M it (by simp);have hl:=q.length;exact wpAny_pyNext_tuple_end (I.ok.hd l) st (show s.heap.IsTuple a G.toArray from p) (by simp;lia) λL eb=>⟨rfl,I.turned (t':=s.toks) (λb o B e=>eb b o B e) f0 f1 f3 f4 f5⟩
 self:=λ_ _ _ _ _ st h=>wpAny_pyIter_tupleiter st h
def Ke {K:Qb}(it:Addr)(lo:Int)(n:Nat):dh P w K l (iT lo n) [it] it (λi h=>IsRangeIter h it (lo+(i:Nat)*1) ((n:Int)-(i:Nat)) 1) where
 mem:=by simp
 obj:=λi h st b B=>by
  have e:b=it:=by simpa using B
  subst e;exact⟨_,st,λv z=>by
   have q:Data.fields _=Data.cell v:=z;cases q⟩
 keep:=λi h J st k=>k it (by simp) _ st
 item:=by
  intro X M N O Q i A s Y H E I L st U;subst M N O;obtain⟨f0,f1,f2,f3,f4,f5⟩:=L it (by simp);have W:=Walks.range (prog:=X.prog) (w:=X.w) (I.ok.hd Q) it lo 1 n;refine W.item i s _ _ U st λv J j u G p=>?_;obtain⟨t,rfl⟩:=u;have d:Inv X A Y H {s with heap:=J,toks:=j}:=I.turned (λb o B e=>p b o (by simpa using B) e) f0 f1 f3 f4 f5;refine⟨_,rfl,iF (s:={s with heap:=J,toks:=j}) (n:="range_iterator") G rfl rfl (by decide) ⟨.int (lo+i),H,d,⟨t,?_⟩,⟨rfl,rfl⟩,G,λb B=>(L b B).1⟩⟩;rw[Int.mul_one]
 done:=by
  intro X M N O Q i A s Y H E I L st U;subst M N O;obtain⟨f0,f1,f2,f3,f4,f5⟩:=L it (by simp);exact wpAny_pyNext_range_end (I.ok.hd Q) st (by have:n<=i:=U;lia) λJ c=>⟨rfl,I.turned (t':=s.toks) (λb o B e=>c b o B e) f0 f1 f3 f4 f5⟩
 self:=λ_ _ _ _ _ st h=>wpAny_pyIter_rangeiter st h
section
variable{X:Cx}{tg:Expr}
noncomputable def Dh(K:Qb)(A:TE):TI:=λB H R=>A B H λx H1=>∃a,x=.ref a/\(∃E,bg K H1 a E)/\R (pz K a) H1
noncomputable def oP(K:Qb)(A:TE):TI:=λB H R=>A B H λx H1=>∃a,x=.ref a/\(∃E,bS K H1 a E)/\R (B6 K a) H1
def Hj (hl:PE X l G):PI X tg l (Dh X.K G):=by
 intro A s J H R I h;refine aU (hl A s J H _ I h) λv B ⟨x,H1,E,L,M⟩=>?_;obtain⟨a,e,⟨U,N⟩,q⟩:=M;subst e;cases L;obtain⟨O,Y,p,j⟩:=E.list N;refine Nb p.isList ?_;refine⟨B.heap.objs.size,[B.heap.objs.size],_,_,H1,rfl,E.kept (t':=B.toks) λb o e=>Qk _ e,Jr a _,⟨_,QK _ rfl,rfl,rfl⟩,λb Q=>?_,q⟩;have e:b=B.heap.objs.size:=by simpa using Q
 subst e;exact E.fpOk (Qh _) (E.hok.fresh (Qh _))
def EJ (hl:PE X l J):PI X tg l (oP X.K J):=by
 intro A s L H R I h;refine aU (hl A s L H _ I h) λv B ⟨x,H1,E,M,N⟩=>?_;obtain⟨a,e,⟨U,O⟩,q⟩:=N;subst e;cases M;obtain⟨G,Y,p,j⟩:=E.tuple O;refine wpAny_pyIter_tuple (show B.heap.IsTuple a G.toArray from p) ?_;refine⟨B.heap.objs.size,[B.heap.objs.size],_,_,H1,rfl,E.kept (t':=B.toks) λb o e=>Qk _ e,Kf a _,⟨_,QK _ rfl,rfl,rfl⟩,λb Q=>?_,q⟩;have e:b=B.heap.objs.size:=by simpa using Q
 subst e;exact E.fpOk (Qh _) (E.hok.fresh (Qh _))
def II {lo:Int}(I:Inv X B σ H s)(L:-(2^62)<=lo)(M:lo<2^62)(N:-(2^62)<=A)(O:A<2^62)(q:R (iT lo (A-lo).toNat) H):MK (ML X.prog X.w) X.A (pyIter (.ref s.heap.objs.size)) (B5 X B σ tg R) E {s with heap:=s.heap.push {cls:=.type "range",data:=.fields #[.int lo t,.int A u,.int 1 v]},toks:=J}:=by
 refine wpAny_pyIter_range (IsRange.new ..) (small_one L M N O) ?_;have G:Inv X B σ H {s with heap:=s.heap.push {cls:=.type "range",data:=.fields #[.int lo t,.int A u,.int 1 v]},toks:=J}:=I.kept λb o e=>Qk _ e;refine⟨(s.heap.push {cls:=.type "range",data:=.fields #[.int lo t,.int A u,.int 1 v]}).objs.size,[(s.heap.push {cls:=.type "range",data:=.fields #[.int lo t,.int A u,.int 1 v]}).objs.size],_,_,H,rfl,
  G.kept (t':=J) λb o e=>Qk _ e,Ke _ lo (A-lo).toNat,?_,λb Q=>?_,q⟩
 .have U:lo+((0:Nat):Int)*1=lo:=by simp
  have Y:(((A-lo).toNat:Nat):Int)-((0:Nat):Int)=Builtin.Range.rangeSize lo A 1:=by rw[rangeSize_one];split<;>lia
  show IsRangeIter _ _ (lo+((0:Nat):Int)*1) ((((A-lo).toNat:Nat):Int)-((0:Nat):Int)) 1;rw[U,Y];exact QK _ rfl
 .have e:b=(s.heap.push {cls:=.type "range",data:=.fields #[.int lo t,.int A u,.int 1 v]}).objs.size:=by simpa using Q
  subst e;exact G.fpOk (Qh _) (G.hok.fresh (Qh _))
noncomputable def Dg(A:TA):TI:=λB H R=>A B H λE H1=>∃j:Int,E=[.int j]/\-(2^62)<=j/\j<2^62/\R (iT 0 j.toNat) H1
def Jq (E:Gl X "range")(G:X.mg "range"=none)(J:PA X [a] L)(M:MN [a] X.env=[(false,eval a X.env)]:=by rfl):PI X tg (.Call (.Name "range" p) [a] [] pos) (Dg L):=by
 intro A s N H R I h;refine Call_ (wV I E G boot_range (PyProof.Rows.callWith_type1 (aU (J pos A s N H _ I h) λk u ⟨z,H1,O,Q,B⟩=>?_) M rfl));obtain⟨j,e,B,U,q⟩:=B;subst e;cases Q with
 |cons r Y=>
  cases Y;obtain⟨t,rfl⟩:=r;exact call_range_1 (II O (by lia) (by lia) B U (by simpa using q))
noncomputable def mF(L:TI)(g:TG)(M:TS):TS:=λD A H=>L A H λJ H1=>∃W:Nat->Nat->St->Hp->Prop,(∃m,W 0 m A H1)/\∀i m A H,W i m A H ->
 (J.stop i H/\D.nx A H)\/(J.go i H/\∃N:St->Hp->Prop,(∀B E,N B E->∃I,I<m/\W (i+1) I B E)/\∀x E,J.yld i H x E->g x A E λG H2=>M {D with nx:=N,ct:=N,bk:=D.nx} G H2)
noncomputable def jS(A:S6)(h:MC):O6:=A.filterMap λb=>(h.get? b).map λo=>(b,o)
def wE (A:b∈B)(e:h.get? b=some o):(b,o)∈jS B h:=VU.mpr ⟨b,A,by rw[e];rfl⟩
def Jp (A:p∈jS B h):p.1∈B/\h.get? p.1=some p.2:=by
 obtain⟨b,E,e⟩:=VU.mp A;cases q:h.get? b with
 |none=>rw[q]at e;cases e
 |some o=>
  rw[q]at e;have G:(b,o)=p:=Option.some.inj e;subst G;exact⟨E,q⟩
def Inv.pinned{A:O6}{σ:St}{H:Hp}{s:Shared}{B:S6}(I:Inv X A σ H s)(J:∀b∈B,jx X A H b)(L:∀b∈B,∃o,s.heap.get? b=some o/\∀v,o.data≠.cell v):Inv X (A++jS B s.heap) σ H s:=
 I.pins_of λp M=>(Qs.mp M).elim (λz=>I.pin p (Qz _ z)) λz=>by
  obtain⟨E,e⟩:=Jp z;obtain⟨f0,f1,f2,_⟩:=J p.1 E;obtain⟨o,G,d⟩:=L p.1 E;rw[e]at G;cases G;exact⟨e,f0,f1,f2,d⟩
def Inv.unpinned{A B:O6}{σ:St}{H:Hp}{s:Shared}(I:Inv X (A++B) σ H s):Inv X A σ H s:=I.pins_of λp E=>I.pin p (Qz _ (QX _ E))
def tH (k:PassesOwn (ML X.prog X.w) X.A X.env X.xe)(hc:X.calm=true)(hi:PI X tg iter wi)(hg:PG X tg g)(E:cJ X body tb)(hs:∀x,Nc iter X.env x=pure x:=by intro _;rfl):PS X (.For tg iter body [] pos) (mF wi g tb):=by
 intro A s σ H D I h;refine wpAny_For (aU (hi A s σ H _ I h) λv s1 h1=>aU h1 λitv s2 h2=>?_) hs;refine aP λzP zk=>?_;obtain⟨it,q,tn,J,H2,e,I2,T,w,f2,W,⟨m0,w0⟩,z⟩:=h2;refine zk ?_;subst e
 -- what y true of the U p through the loop
 have G:∀{Q:Hp},(∀b∈q,Q b=none)->∀b∈q,jx X A Q b:=λhn b E=>⟨hn b E,(f2 b E).2⟩;refine codeAny_forLoop_any (λn s'=>∃i L Q,Inv X A L Q s'/\tn i s'.heap/\(∀b∈q,Q b=none)/\W i n L Q) ?_ m0 ⟨0,σ,H2,I2,w,λb E=>(f2 b E).1,w0⟩;intro n s3 zz;refine aP λzP zj=>?_;obtain⟨i,M,H3,I3,c,l,w3⟩:=zz;refine zj ?_;rcases z i n M H3 w3 with⟨t,qn⟩|⟨go,N,hN,step⟩
 .refine M6 k (aU (T.done X rfl rfl rfl hc i A s3 M H3 X.xe I3 (G l) c t) λr s4 ⟨hr,I4⟩=>?_);subst hr;exact MS ⟨M,H3,I4,qn⟩
 .refine M6 k (aU (T.item X rfl rfl rfl hc i A s3 M H3 X.xe I3 (G l) c go) λr s4 ⟨u,hr,h4⟩=>?_);subst hr;refine M6 k (aU h4 λ_ s5 ⟨x,H5,I5,r5,y5,j,fr5⟩=>?_);have I5':=I5.pinned (G fr5) (T.obj _ _ j);refine M6 k (aU (hg _ s5 M H5 x u _ I5' r5 (step x H5 y5)) λ_ s6 ⟨σ6,H6,I6,q6⟩=>?_);refine M6 k (aU (E _ s6 σ6 H6 _ I6 q6) λf s7 Y=>?_);have again:∀{B:St}{H7:Hp},Inv X (A++jS q s5.heap) B H7 s7->N B H7->∃m,m<n/\∃i L Q,Inv X A L Q s7/\tn i s7.heap/\(∀b∈q,Q b=none)/\W i m L Q:=λ{B H7} O a=>by
   obtain⟨m',hm,w7⟩:=hN B H7 a;refine⟨m',hm,i+1,B,H7,O.unpinned,T.keep _ _ _ j λb E o e=>(O.pin (b,o) (Qz _ (Qz _ (wE E e)))).1,λb E=>?_,w7⟩;obtain⟨o,e,d⟩:=T.obj _ _ j b E;exact(O.pin (b,o) (Qz _ (Qz _ (wE E e)))).2.1
  cases f with
  |next=>obtain⟨B,H7,O,a⟩:=Y;exact again O a
  |cont=>obtain⟨B,H7,O,a⟩:=Y;exact again O a
  |brk=>obtain⟨B,H7,O,Y⟩:=Y;exact⟨B,H7,O.unpinned,Y⟩
  |ret v=>obtain⟨x7,B,H7,O,r7,Y⟩:=Y;exact⟨x7,B,H7,O.unpinned,r7,Y⟩
end
abbrev R2:=V->V->Hp->VK->Prop
noncomputable def ci(X:Cx)(f:Value->Value->Sem Value)(r:R2):Prop:=
 ∀(A:O6) (s:Shared) (B:St) (H:Hp) (x y:V) (v u:Value) (Q:VK),Inv X A B H s->RelV x v->RelV y u->r x y H Q ->
  MK (ML X.prog X.w) X.A (f v u) (EP X A B Q) X.xe s
noncomputable def oX(X:Cx)(f:Value->Sem Value)(r:V->Hp->VK->Prop):Prop:=
 ∀(A:O6) (s:Shared) (B:St) (H:Hp) (x:V) (v:Value) (Q:VK),Inv X A B H s->RelV x v->r x H Q ->
  MK (ML X.prog X.w) X.A (f v) (EP X A B Q) X.xe s
noncomputable def bQ(X:Cx)(f:Value)(r:U8->Hp->VK->Prop):Prop:=
 ∀(A:O6) (s:Shared) (B:St) (H:Hp) (E:U8) (G:R6) (Q:VK),Inv X A B H s->av E G->r E H Q ->
  MK (ML X.prog X.w) X.A (call f G) (EP X A B Q) X.xe s
noncomputable def eK(r:R2)(B E:TE):TE:=λA H Q=>B A H λx H1=>E A H1 λy H2=>r x y H2 Q
noncomputable def K7(r:V->Hp->VK->Prop)(A:TE):TE:=λB H Q=>A B H λx H1=>r x H1 Q
noncomputable def rI(C:Int->Int->Prop)(g:Int->Int->V):R2:=λx y H Q=>∃i j,x=.int i/\y=.int j/\C i j/\Q (g i j) H
noncomputable def eL(g:Int->Int->V):R2:=λx y H Q=>∃i j,x=.int i/\y=.int j/\Q (g i j) H
noncomputable def rU(g:Int->V):V->Hp->VK->Prop:=λx H Q=>∃i,x=.int i/\Q (g i) H
section
variable{X:Cx}{a b:Expr}{ta tb:TE}{pos:Pos}
def mE (J:PE X a ta)(L:PE X b tb){R:V->V->Hp->Prop}(I:Inv X A σ H s)(h:ta σ H λx H1=>tb σ H1 λy H2=>R x y H2){f:Value->Value->Sem Value}(M:∀v u G x y H2,Inv X A σ H2 G->RelV x v->RelV y u->R x y H2->MK (ML X.prog X.w) X.A (f v u) Q X.xe G):
  MK (ML X.prog X.w) X.A (eval a X.env) (λv B=>MK (ML X.prog X.w) X.A (eval b X.env) (λu E=>MK (ML X.prog X.w) X.A (f v u) Q X.xe E) X.xe B) X.xe s:=by
 refine aU (J A s σ H _ I h) λv N ⟨x,H1,O,U,Y⟩=>?_;refine aU (L A N σ H1 _ O Y) λu G ⟨y,H2,j,k,q⟩=>?_;exact M v u G x y H2 j U k q
def Df (B:ci X (Nf op) r)(E:PE X a ta)(G:PE X b tb):PE X (.BinOp a op b pos) (eK r ta tb):=by
 intro A s J H Q I h;exact wpAny_BinOp (mE E G I h λv u L x y H2 M N O q=>B A L J H2 x y v u Q M N O q)
def De (E:oX X (unaryOp op) r)(G:PE X a ta):PE X (.UnaryOp op a pos) (K7 r ta):=by
 intro A s B H Q I h;exact UnaryOp_ (aU (G A s B H _ I h) λv J ⟨x,H1,L,M,N⟩=>E A J B H1 x v Q L M N)
def lP {g:Int->Int->Int}(rule:∀(i j:Int) (t u:Tok) (s:Shared) (Q:O2) (E:O2),C i j->Q (.int (g i j) s.toks) {s with toks:=s.toks+1}->MK (ML X.prog X.w) X.A (f (.int i t) (.int j u)) Q E s):
  ci X f (rI C λi j=>.int (g i j)):=by
 intro A s M H x y v u Q I B G h;obtain⟨i,j,rfl,rfl,J,q⟩:=h;obtain⟨t,rfl⟩:=B;obtain⟨L,rfl⟩:=G;exact rule i j t L s _ _ J ⟨.int (g i j),H,I.tok _,⟨_,rfl⟩,q⟩
def rJ {g:Int->Int->Int}(rule:∀(i j:Int) (t u:Tok) (s:Shared) (Q:O2) (E:O2),Q (.int (g i j) s.toks) {s with toks:=s.toks+1}->MK (ML X.prog X.w) X.A (f (.int i t) (.int j u)) Q E s):
  ci X f (eL λi j=>.int (g i j)):=by
 intro A s L H x y v u Q I B G h;obtain⟨i,j,rfl,rfl,q⟩:=h;obtain⟨t,rfl⟩:=B;obtain⟨J,rfl⟩:=G;exact rule i j t J s _ _ ⟨.int (g i j),H,I.tok _,⟨_,rfl⟩,q⟩
def mD {g:Int->Int->Bool}(rule:∀(i j:Int) (t u:Tok) (s:Shared) (Q:O2) (E:O2),Q (.bool (g i j)) s->MK (ML X.prog X.w) X.A (f (.int i t) (.int j u)) Q E s):
  ci X f (eL λi j=>.bl (g i j)):=by
 intro A s L H x y v u Q I B G h;obtain⟨i,j,rfl,rfl,q⟩:=h;obtain⟨t,rfl⟩:=B;obtain⟨J,rfl⟩:=G;exact rule i j t J s _ _ ⟨.bl (g i j),H,I,rfl,q⟩
noncomputable def rH(i j:Int):Prop:=0<j/\j<1073741824
noncomputable def rG(i j:Int):Prop:=0<=j/\j<=1000000/\i.natAbs<2^64
noncomputable def eW(i j:Int):Prop:=(-(2^64)<i/\i<2^64)\/(-(2^64)<j/\j<2^64)
def eW.ok (h:eW i j):IntMulOk i j:=by
 rcases h with⟨A,B⟩|⟨A,B⟩
 .exact .of_left (intBits_le_64 A B)
 .exact .of_right (intBits_le_64 A B)
def fF:ci X (Nf .Add) (eL λi j=>.int (i+j)):=rJ λ_ _ _ _ _ _ _ q=>add_int q
def EI:ci X (Nf .Sub) (eL λi j=>.int (i-j)):=rJ λ_ _ _ _ _ _ _ q=>sub_int q
def fD:ci X (Nf .Mult) (rI eW λi j=>.int (i*j)):=lP λ_ _ _ _ _ _ _ A q=>mul_int q A.ok
def Hi:ci X (Nf .FloorDiv) (rI rH λi j=>.int (i/j)):=lP λi j _ _ _ _ _ A q=>by
 have B:(0:Int)<j:=A.1;have E:j<1073741824:=A.2;exact floordiv_int (by lia) (by rw[Int.fdiv_eq_ediv_of_nonneg i (by lia)];exact q) (.inl (PyProof.noPylong_small (by lia)))
def EH:ci X (Nf .Mod) (rI (λ_ j=>0<j) λi j=>.int (i%j)):=lP λi j _ _ _ _ _ A q=>by
 have B:(0:Int)<j:=A;exact mod_int' (by lia) (by rw[Int.fmod_eq_emod_of_nonneg i (by lia)];exact q)
def EG:ci X (Nf .Pow) (rI rG λi j=>.int (i^j.toNat)):=lP λ_ _ _ _ _ _ _ A q=>pow_int_small A.1 A.2.1 A.2.2 q
def K0 {g:Int->Int}(rule:∀(i:Int) (t:Tok) (s:Shared) (Q:O2) (E:O2),Q (.int (g i) s.toks) {s with toks:=s.toks+1}->MK (ML X.prog X.w) X.A (f (.int i t)) Q E s):
  oX X f (rU λi=>.int (g i)):=by
 intro A s G H x v Q I B h;obtain⟨i,rfl,q⟩:=h;obtain⟨t,rfl⟩:=B;exact rule i t s _ _ ⟨.int (g i),H,I.tok _,⟨_,rfl⟩,q⟩
def EF:oX X (unaryOp .USub) (rU λi=>.int (-i)):=K0 λ_ _ _ _ _ q=>neg_int q
end
section
variable{X:Cx}{a b c:Expr}{ta tb tc:TE}{pos:Pos}
def EE (I:Inv X A σ H s)(q:Q (.bl k) H)(e:k=B):EP X A σ Q (.bool B) s:=by
 subst e;exact⟨.bl k,H,I,rfl,q⟩
def Dd:ci X (Ng .Lt) (eL λi j=>.bl (decide (i<j))):=mD λ_ _ _ _ _ _ _ q=>lt_int q
def Dc:ci X (Ng .LtE) (eL λi j=>.bl (decide (i<=j))):=mD λ_ _ _ _ _ _ _ q=>le_int q
def Db:ci X (Ng .Gt) (eL λi j=>.bl (decide (j<i))):=mD λ_ _ _ _ _ _ _ q=>gt_int q
def Hh:ci X (Ng .IsNot) (λx y H Q=>y=.N/\Q (.bl (! decide (x=.N))) H):=by
 intro A s G H x y v u Q I B E h;obtain⟨rfl,q⟩:=h;cases E;refine isnot_none_gen (EE I q ?_);cases x<;>first
  |(cases B;rfl)
  |(obtain⟨t,rfl⟩:=B;rfl)
def ci.or{f:Value->Value->Sem Value}{r B:R2}(h:ci X f r)(h':ci X f B):ci X f (λx y H Q=>r x y H Q\/B x y H Q):=by
 intro A s E H x y v u Q I G J q;rcases q with q|q
 .exact h A s E H x y v u Q I G J q
 .exact h' A s E H x y v u Q I G J q
def Hg (B:ci X (Ng op) r)(E:PE X a ta)(G:PE X b tb)(J:Ni op b=false):PE X (.Compare a [op] [b] pos) (eK r ta tb):=by
 intro A s L H Q I h;exact wpAny_Compare1 (mE E G I h λv u M x y H2 N O U q=>B A M L H2 x y v u Q N O U q) J
noncomputable def ll(t:TE):TT:=λA H Q=>t A H λx B=>∃k,x=.bl k/\Q k B
def uD (E:ci X (Ng op) r)(G:PE X a ta)(J:PE X b tb)(L:Ni op b=false):PT X (.Compare a [op] [b] pos) (ll (eK r ta tb)):=by
 intro A s B H Q I h;refine wpAny_isTrue_Compare1 (aU (G A s B H _ I h) λv M ⟨x,H1,N,O,U⟩=>aU (J A M B H1 _ N U) λu Y ⟨y,H2,j,q,o⟩=>
  aU (E A Y B H2 x y v u _ j O q o) λc g ⟨z,H3,p,d,k,e,l⟩=>?_) L
 subst e;cases d;exact MR ⟨H3,p,l⟩
noncomputable def nl(r B:R2)(ta tb tc:TE):TE:=λA H Q=>ta A H λx H1=>tb A H1 λy H2=>r x y H2 λz H3=>∃k,z=.bl k /\
 (if k=true then tc A H3 λE H4=>B y E H4 Q else Q (.bl false) H3)
def IH (N:ci X (Ng op) r)(G:ci X (Ng B) O)(U:PE X a ta)(Y:PE X b tb)(j:PE X c tc)(q:lastMarks [op,B] [b,c]=false:=by with_unfolding_all rfl):PE X (.Compare a [op,B] [b,c] pos) (nl r O ta tb tc):=by
 intro A s E H Q I h;refine Compare_chain (aU (U A s E H _ I h) λv o ⟨x,H1,p,l,g⟩=>chain_link (aU (Y A o E H1 _ p g) λu f ⟨y,H2,t,J,m⟩=>
  aU (N A f E H2 x y v u _ t l J m) λd n ⟨z,H3,L,i,k,e,M⟩=>?_)) q
 subst e;cases i;refine MR ?_;cases k with
 |false=>exact ite_ff ⟨.bl false,H3,L,rfl,M⟩
 |true=>exact ite_tt (chain_last (aU (j A n E H3 _ L M) λw s4 ⟨z',H4,I4,r4,q4⟩=>G A s4 E H4 y z' u w Q I4 J r4 q4))
def IG (N:ci X (Ng op) r)(G:ci X (Ng B) O)(U:PE X a ta)(Y:PE X b tb)(j:PE X c tc)(q:lastMarks [op,B] [b,c]=false:=by with_unfolding_all rfl):PT X (.Compare a [op,B] [b,c] pos) (ll (nl r O ta tb tc)):=by
 intro A s E H Q I h;refine isTrue_chain (aU (U A s E H _ I h) λv o ⟨x,H1,p,l,g⟩=>test_link (aU (Y A o E H1 _ p g) λu f ⟨y,H2,t,J,m⟩=>
  aU (N A f E H2 x y v u _ t l J m) λd n ⟨z,H3,L,i,k,e,M⟩=>?_)) q
 subst e;cases i;refine MR ?_;cases k with
 |false=>
  obtain⟨k',w,q'⟩:=M;cases w;exact ite_ff ⟨H3,L,q'⟩
 |true=>
  refine ite_tt (test_last (aU (j A n E H3 _ L M) λw' s4 ⟨z',H4,I4,r4,q4⟩=>aU (G A s4 E H4 y z' u w' _ I4 J r4 q4) λd' s5 ⟨z2,H5,I5,r5,k2,e2,q5⟩=>?_));subst e2;cases r5;exact MR ⟨H5,I5,q5⟩
def qT:(sizeLine:Nat)<2^63:=by rw[sizeLine_eq];decide
def jT (r:av [x] A):∃u,A=[u]/\RelV x u:=by
 cases r with
 |cons B E=>cases E;exact⟨_,rfl,B⟩
def Da (r:av [x,y] B):∃u A,B=[u,A]/\RelV x u/\RelV y A:=by
 cases r with
 |cons E G=>
  cases G with
  |cons H I=>cases I;exact⟨_,_,rfl,E,H⟩
def Jo:bQ X (.type "int") (λxs H Q=>(∃i,xs=[.int i]/\Q (.int i) H)\/∃k,xs=[.bl k]/\Q (.int (if k then 1 else 0)) H):=by
 intro A s E H xs G Q I r h;rcases h with⟨i,rfl,q⟩|⟨k,rfl,q⟩
 .obtain ⟨u,rfl,t,rfl⟩:=jT r;exact call_int_int ⟨.int i,H,I,⟨_,rfl⟩,q⟩
 .obtain ⟨u,rfl,B⟩:=jT r;cases B;exact call_int_bool ⟨.int (if k then 1 else 0),H,I.tok _,⟨_,rfl⟩,q⟩
end
def pI (r:iR (some v) o):∃u,o=some u/\RelV v u:=by
 cases o with
 |none=>exact(show False from r).elim
 |some u=>exact⟨u,rfl,r⟩
section
variable{X:Cx}{pins:O6}{σ:St}{H:Hp}{s:Shared}{A:MG}{E:O2}{Q:O2}{c:Value}{b:Bool}
inductive fK(K:Qb)(H:Hp):V->Value->Prop where
 |bl (x:Bool):fK K H (.bl x) (.type "bool")
 |int (i:Int):fK K H (.int i) (.type "int")
def qr (I:Inv X pins σ H s)(B:RelV x u)(G:fK X.K H x t)(e:V5 X.K t c=some b)(h:∀J,Q (.bool b) {s with toks:=J}):
  MK (ML X.prog X.w) A (call (.builtin "isinstance") [u,c]) Q E s:=by
 cases G with
 |bl y=>cases(show u=Value.bool y from B);exact PySem.W.kia_one PySem.W.kitx_bool I.kIn True.intro e (λz=>nomatch z) h
 |int i=>obtain⟨t,q⟩:=(show ∃t,u=Value.int i t from B);cases q;exact PySem.W.kia_one PySem.W.kitx_int I.kIn True.intro e (λz=>nomatch z) h
end
structure cf(k:Nat)(A:MG):Prop where
 hd:A.handled=none
 dp:A.depth+3*k+5<recursionLimit
 un:A.units+16*k+200<Nj
theorem cf.deeper{k:Nat}{A:MG}(r:cf (k+1) A)(env:Env):cf k (A.deeper env):=
 ⟨r.hd,by have:=r.dp;show A.depth+1+3*k+5<_;lia,by have:=r.un;show A.units+3+16*k+200<_;lia⟩
theorem cf.depth (r:cf k A):A.depth<recursionLimit:=by have:=r.dp;lia
theorem cf.units (r:cf k A):A.units+64<Nj:=by have:=r.un;lia
noncomputable def mC:TA:=λ_ H Q=>Q [] H
noncomputable def lh(B:TE)(tr:TA):TA:=λA H Q=>B A H λx H1=>tr A H1 λE H2=>Q (x::E) H2
section
variable{X:Cx}{e:Expr}{es:S8}{te:TE}{t:TA}{pos:Pos}
def wF:PA X [] mC:=λ_ _ _ _ H Q I h=>Calls.spliced_nil ⟨[],H,I,.nil,h⟩
def yR(E:PE X e te)(G:PA X es t)(J:MN (e::es) X.env=(false,eval e X.env)::MN es X.env:=by rfl):PA X (e::es) (lh te t):=by
 intro pos A s B H Q I h;rw[J];show MK _ _ (spliced ((false,eval e X.env)::MM pos (MN es X.env))) _ _ s;refine Calls.spliced_cons (aU (E A s B H _ I h) λu L ⟨x,H1,M,N,O⟩=>?_);exact aU (G pos A L B H1 _ M O) λq z ⟨U,H2,Y,j,k⟩=>⟨x::U,H2,Y,.cons N j,k⟩
noncomputable def ol(t:TA):TE:=λB H Q=>t B H λA H1=>A.length<=sizeLine/\∀p,H1 p=none->Q (.ref p) (aL H1 p (.T A))
noncomputable def ou(t:TA):TE:=λB H Q=>t B H λA H1=>A.length<=sizeLine/\∀p,H1 p=none->Q (.ref p) (aL H1 p (.L A))
def EC{G}(h:PA X es t):PE X (.Tuple es G pos) (ol t):=by
 intro A s J H Q I L;refine wpAny_Tuple_spliced (aU (h pos A s J H _ I L) λM B ⟨N,H1,E,r,z,q⟩=>⟨by rw[<-r.length];exact z,?_⟩);have O:H1 B.heap.objs.size=none:=E.hok.fresh (Qh _);refine⟨.ref B.heap.objs.size,aL H1 B.heap.objs.size (.T N),E.laid (t':=B.toks) (λb u e=>Qk _ e) (Qh _) ?_,rfl,q _ O⟩;exact⟨z,M,r,⟨_,QK _ rfl,rfl,_,rfl⟩⟩
def EB(h:PA X es t):PE X (.List es pos) (ou t):=by
 intro A s G H Q I J;refine wpAny_List_spliced (aU (h pos A s G H _ I J) λL B ⟨M,H1,E,r,z,q⟩=>⟨by rw[<-r.length];exact z,?_⟩);have N:H1 B.heap.objs.size=none:=E.hok.fresh (Qh _);refine⟨.ref B.heap.objs.size,aL H1 B.heap.objs.size (.L M),E.laid (t':=B.toks) (λb u e=>Qk _ e) (Qh _) ?_,rfl,q _ N⟩;exact⟨z,L,0,r,QK _ rfl⟩
end
abbrev Sp:=U8->Hp->VK->XK->Prop
abbrev eB:=U0->Hp->Shared->XK->Value->Shared->Prop
structure eV(P:My)(w:Mz)(K:Qb)(mg:O3)(base:MC)(A:MG)(outer:U0)(s:Shared)(H:Hp):Prop where
 frames:A.frames=some outer
 mod:Mod K mg base
 bs:∀b o,base.get? b=some o->s.heap.get? b=some o/\H b=none
 bsz:base.objs.size<=s.heap.objs.size
 funs:s.heap.FunFrames base outer
 frf:∀b∈eg outer,H b=none
 hok:cI P w H s.heap
 bare:MJ s.gens
noncomputable def CE(A:U0)(P:My)(w:Mz)(H:Hp)(s:Shared)(Q:VK)(u:Value)(B:Shared):Prop:=
 ∃v E,B.os=s.os/\MJ B.gens/\Un (eg A) [] H E s.heap B.heap/\cI P w E B.heap/\RelV v u/\Q v E
noncomputable def CR(CX:eB)(A:U0)(P:My)(w:Mz)(H:Hp)(s:Shared)(Q:VK)(E:XK)(r:Result)(B:Shared):Prop:=
 match r with
 |.ok (.ret u)=>CE A P w H s Q u B
 |.ok _=>False
 |.error e=>CX A H s E e B
structure cX(P:My)(w:Mz)(K:Qb)(mg:O3)(base:MC)(CX:eB)(k:Nat)(f:Addr)(fd:Nk)(ps:T8)(sp:Sp):Prop where
 len:∀vs H Q E,sp vs H Q E->vs.length=ps.length
 run:∀(A:MG) (outer:U0) (s:Shared) (H:Hp) (args:Args) (us:R6) (vs:U8) (Q:VK) (E:XK),cf k A->eV P w K mg base A outer s H->BindsTo s fd args (ps.zip us)->av vs us->sp vs H Q E ->
  Nl (ML P w) A (.call (.ref f) args) (CR CX outer P w H s Q E) s
section
variable{X:Cx}{pins:O6}{σ:St}{H:Hp}{s s':Shared}
def Inv.env0(I:Inv X pins σ H s):eV X.prog X.w X.K X.mg X.base X.A X.stack s H:=
 ⟨I.ok.frames,I.ok.mod,I.bs,Qx I.ok.bsz I.sz,I.stack,I.stkFree,I.hok,I.bare⟩
def Inv.after (I:Inv X pins σ H s)(h:CE X.stack X.prog X.w H s Q u s'):EP X pins σ Q u s':=by
 obtain⟨v,G,os,A,un,B,r,q⟩:=h;obtain⟨J,g,d,t,E⟩:=s';obtain rfl:E=s.os:=os;exact⟨v,G,I.call (h':=J) (g':=g) (d':=d) (t':=t) (ch:=[]) un B A (λb z=>OD z (by simp)),r,q⟩
end
noncomputable def C9(sp:Sp)(A:U8)(E:XK)(t:TA):TE:=λB H Q=>t B H λG H1=>sp (G++A) H1 Q E
noncomputable def Binds(K:Qb)(E:Nk)(ps:T8)(B:R6):Prop:=
 ∀(s:Shared) (A:R6),K.In s.heap->(A++B).length=ps.length->BindsTo s E ⟨A,[]⟩ (ps.zip (A++B))
def Binds.all{K:Qb}{B:Nk}{ps:T8}(h:∀A:R6,A.length=ps.length->bindArgs B ⟨A,[]⟩=pure (ps.zip A)):Binds K B ps []:=λs A _ hl=>by
 rw[Q6]at hl ⊢;exact .of_eq (h A hl)
noncomputable def nk(CX:eB)(X:Cx)(E:XK):Prop:=∀(A:O6) (G:St) (H:Hp) (s:Shared) (e:Value) (B:Shared),Inv X A G H s->CX X.stack H s E e B->X.xe e B
section
variable{X:Cx}{CX:eB}{k:Nat}{f:Addr}{fd:Nk}{ps:T8}{sp:Sp}{dvs:U8}{ds:R6}{E:XK}{x:Str}{p pos:Pos}{e:Expr}{es:S8}{t:TA}
def EA (F:cX X.prog X.w X.K X.mg X.base CX k f fd ps sp)(L:cf k X.A)(M:Binds X.K fd ps ds)(N:av dvs ds)(O:nk CX X E)(I:Inv X A σ H s)(r:av vs B)(h:sp (vs++dvs) H Q E):MK (ML X.prog X.w) X.A (call (.ref f) B) (EP X A σ Q) X.xe s:=by
 have J:av (vs++dvs) (B++ds):=r.append N;have hl:(B++ds).length=ps.length:=by rw[<-J.length];exact F.len _ _ _ _ h
 refine wpAny_call (Nm (F.run X.A X.stack s H ⟨B,[]⟩ (B++ds) (vs++dvs) Q E L I.env0 (M s B I.kIn hl) J h) λr U G=>?_);cases r with
 |error e=>exact O A σ H s e U I G
 |ok fl=>
  cases fl with
  |ret u=>exact I.after G
  |next=>exact False.elim G
  |brk=>exact False.elim G
  |cont=>exact False.elim G
def HD(F:cX X.prog X.w X.K X.mg X.base CX k f fd ps sp)(L:cf k X.A)(M:Gl X x)(N:X.mg x=some (.ref f))(O:WX X.K (.ref f)=true)(U:Binds X.K fd ps ds)(Y:av dvs ds)(j:nk CX X E)
  (u:PA X (e::es) t) (B:(x==("__debug__":Str))=false:=by decide) (z:MN (e::es) X.env=(false,eval e X.env)::MN es X.env:=by rfl) (G:(MM pos (MN es X.env)).any (·.1)=false:=by rfl) :
  PE X (.Call (.Name x p) (e::es) [] pos) (C9 sp dvs E t):=by
 intro A s o H Q I h;refine Nn (Ag I M N ?_ B);refine PySem.W.callWith_K (h₀:=X.base) I.ok.mod.kin O (aU (u pos A s o H _ I h) λd c ⟨l,H1,J,r,q⟩=>⟨J.kIn,?_⟩) z G;exact EA F L U Y j J r q
end
structure cQ(N P:T8)(sc:Mw):Prop where
 kind:sc.kind=.function
 co:sc.isCoroutine=false
 gen:sc.isGenerator=false
 nd:N.Nodup
 pre:N.take P.length=P
 par:∀x∈P,sc.names.lookup x=some .local\/sc.names.lookup x=some .cell
 nofree:∀y∈sc.names,y.2≠.free
theorem qt {kindOf:Str->Option No}:∀{binds:List (Str×Value)}{m:O3},(∀v,(x,v)∉binds)->Np kindOf binds m x=m x
 |[],_,_=>rfl
 |(n,v)::r,m,h=>by
  unfold Np;rw[qt λw A=>h w (Qo _ A)];split
  .have:x≠n:=by rintro rfl;exact h v QT
   simp[this]
  .rfl
theorem qu {kindOf:Str->Option No}:∀{binds:List (Str×Value)}{m:O3},(∀v,(x,v)∉binds)->Nq kindOf binds m x=m x
 |[],_,_=>rfl
 |(n,v)::r,m,h=>by
  unfold Nq;rw[qu λw A=>h w (Qo _ A)];split
  .rfl
  .have:x≠n:=by rintro rfl;exact h v QT
   simp[this]
theorem qw {kindOf:Str->Option No}:∀{P:T8}{vs:R6}{i:Nat}{m:O3},P.Nodup->P[i]?=some x->vs[i]?=some v->kindOf x=some .local ->
  Np kindOf (P.zip vs) m x=some v
 |[],_,_,_,_,h,_,_=>by simp at h
 |_::_,[],_,_,_,_,h,_=>by simp at h
 |p::P,w::vs,0,m,nd,A,B,E=>by
  simp at A B;subst A;subst B;show Np kindOf ((p,w)::P.zip vs) m p=_;unfold Np;rw[qt λv G=>(QB.mp nd).1 (V9 G).1,OB E];simp
 |p::P,w::vs,i+1,m,nd,A,B,E=>by
  show Np kindOf ((p,w)::P.zip vs) m x=_;unfold Np;exact qw (i:=i) (QB.mp nd).2 (by simpa using A) (by simpa using B) E
theorem qx {kindOf:Str->Option No}:∀{P:T8}{vs:R6}{i:Nat}{m:O3},P.Nodup->P[i]?=some x->vs[i]?=some v->kindOf x≠some .local ->
  Nq kindOf (P.zip vs) m x=some v
 |[],_,_,_,_,h,_,_=>by simp at h
 |_::_,[],_,_,_,_,h,_=>by simp at h
 |p::P,w::vs,0,m,nd,A,B,E=>by
  simp at A B;subst A;subst B;show Nq kindOf ((p,w)::P.zip vs) m p=_;unfold Nq;rw[qu λv G=>(QB.mp nd).1 (V9 G).1,OC E];simp
 |p::P,w::vs,i+1,m,nd,A,B,E=>by
  show Nq kindOf ((p,w)::P.zip vs) m x=_;unfold Nq;exact qx (i:=i) (QB.mp nd).2 (by simpa using A) (by simpa using B) E
noncomputable def start(N:T8)(vs:U8):St:=vs.map some++QI (N.length-vs.length) none
noncomputable def fk(CX:eB)(P:My)(w:Mz)(K:Qb)(mg:O3)(base:MC)(N:T8)(G:Str)(B:Mw)(f:Addr)(cd:Value)(A:MG)(outer:U0)(s:Shared)(H:Hp)(E:XK):Cx where
 prog:=P
 w:=w
 K:=K
 mg:=mg
 base:=base
 A:=A.deeper (Nr G B s.heap.objs.size f cd)
 N:=N
 s₀:=s
 H₀:=H
 env:=Nr G B s.heap.objs.size f cd
 outer:=outer
 stack:=Nr G B s.heap.objs.size f cd::outer
 ex:=[]
 calm:=true
 fn:=λ_=>true
 pn:=[]
 xe:=λe J=>MK (ML P w) (A.deeper (Nr G B s.heap.objs.size f cd)) (leaving (Nr G B s.heap.objs.size f cd) e) (λ_ I=>CX outer H s E e I) (λL I=>CX outer H s E L I) J
def AX {A:Mw}(h:A.names.lookup x=some .cell):∃c,(Nt n A.names []).lookup x=some c:=by
 have q:=Vr A.names n [] (.inl h);exact Wm.mp q
def Jn {K:Qb}(S:cQ N ps B)(t:A.handled=none)(L:eV P w K o M A I s H)(hl:vs.length=ps.length)(r:av vs d)(x:InCallC s s.heap.objs.size (Np (Nr J B s.heap.objs.size f cd).kindOf (ps.zip d) λ_=>none) (Nt (s.heap.objs.size+1) B.names []) (Nq (Nr J B s.heap.objs.size f cd).kindOf (ps.zip d) λ_=>none) m):
  Inv (fk CX P w K o M N J B f cd A I s H E) [] (start N vs) H m:=by
 have hpl:ps.length<=N.length:=by have:=OE V7 S.pre;rw[QV]at this;lia
 obtain⟨Y,tk,rfl,l⟩:=x.done;have O:∀b:Addr,b∉(fk CX P w K o M N J B f cd A I s H E).ex:=λb z=>OD (show b∈([]:S6)from z) (by simp);refine⟨⟨L.mod,S.kind,rfl,rfl,Qh _,λy z c Y G=>?_,λy hy=>?_,λy c _ h=>?_,λ_=>t,Around.frames_deeper L.frames,.inr ⟨rfl,rfl⟩,λb z=>OD z (O b),L.bs,L.bsz,λb _ _=>O b,λb z=>OD z (O b),L.funs,L.frf⟩,
  rfl,L.bare,Un.kept l,⟨_,x.toInCall.ns,λi y v Y G h3=>?_⟩,λy c h=>⟨_,x.cell y c h⟩,L.hok.fresh (Qh _),λy c h=>?_,λp Q=>OD (show p∈([]:O6)from Q) (by simp),L.hok.kept l,?_⟩
 .exact name_of_addr x.apart (PySem.mem_of_lookup Y) (PySem.mem_of_lookup G)
 .have hy:B.names.lookup y=some .cell\/B.names.lookup y=some .free:=hy;rcases hy with hy|hy
  .exact AX hy
  .exact OD rfl (S.nofree _ (PySem.mem_of_lookup hy))
 .exact Vk (x.above y c (PySem.mem_of_lookup h))
 .have j:i<vs.length:=by
   unfold start at G;by_cases j:i<vs.length
   .exact j
   .rw[Qe (by simpa using j)]at G;rw[Vs]at G;split at G<;>cases G
  have ha:vs[i]?=some v:=by
   unfold start at G;rw[Qf (by simpa using j),Qq]at G;cases e:vs[i]? with
   |none=>rw[e]at G;cases G
   |some a=>rw[e]at G;cases G;rfl
  obtain⟨u,g,rv⟩:=r.get ha;have Q:ps[i]?=some y:=by
   rw[<-S.pre,Qu (by lia)];exact Y
  have U:ps.Nodup:=by rw[<-S.pre];exact S.nd.sublist (Wo _ _)
  refine⟨u,rv,?_⟩;rcases S.par y (Qv Q)with k|k
  .exact .inl ⟨k,qw U Q g k⟩
  .obtain ⟨c,e⟩:=AX (n:=s.heap.objs.size+1) k;refine .inr ⟨.inl k,c,e,?_⟩;have q:=x.cell y c e;rw[qx U Q g (by show B.names.lookup y≠_;rw[k];decide)]at q;exact q
 .exact L.hok.fresh (Vk (x.above y c (PySem.mem_of_lookup h)))
 .unfold start;show _=N.length;rw[Qw,Qi,List.length_replicate];lia
set_option tactic.hygienic true in
def C8 {K:Qb}{kV:Value}(lk:K.lookup f=some ⟨oc,od,.func (WQ name L U body B dV kV doc pm an M ct),osl⟩)(m:Vz K M L=true)(S:cQ N ps B)(len:∀vs H Q E,sp vs H Q E->vs.length=ps.length)(z:∀(A:MG) (G:U0) (s:Shared) (H:Hp) (vs:U8) (Q:VK) (E:XK),cf k (A.deeper (Nr L B s.heap.objs.size f M))->sp vs H Q E ->
   ∃t,cJ (fk CX P w K h O N L B f M A G s H E) body t/\t {nx:=λ_ j=>Q .N j,rt:=Q} (start N vs) H):
  cX P w K h O CX (k+1) f (WQ name L U body B dV kV doc pm an M ct) ps sp:=by
 refine⟨len,λA G s H args us vs Q E i c hb r l=>?_⟩;have hl:=len _ _ _ _ l;have KX:K.In s.heap:=c.mod.kin.keeps λb o e=>(c.bs b o e).1;have ao:s.heap.NoLimit:=c.mod.nolimit.keeps λb o e=>(c.bs b o e).1;have p:∀y∈ps.zip us,B.names.lookup y.1=some .local\/(B.names.lookup y.1=some .cell/\((Nt (s.heap.objs.size+1) B.names []).lookup y.1).isSome=true):=λ⟨n,v⟩ hy=>by
  rcases S.par n (V9 hy).1 with q|q
  .exact .inl q
  .exact .inr ⟨q,Vr _ _ _ (.inl q)⟩
 refine codeAny_call_function i.depth (KX _ _ lk) rfl S.co S.gen rfl (PySem.W.codeRec_of KX m) (hb _ _ _ _ ?_);refine wpAny_newFunctionEnv_cells S.kind p λenv he s1 x=>?_;subst he;refine⟨ao.keeps x.toInCall.keep,codeAny_func ?_⟩;obtain⟨t,ht,hq⟩:=z A G s H vs Q E (i.deeper _) l;have I:Inv (fk CX P w K h O N L B f M A G s H E) [] (start N vs) H s1:=Jn S i.hd c hl r x;refine MO (ht [] s1 (start N vs) H _ I hq) (λfl a d=>?_) λe a d=>d;have g:∀{Y:St}{j:Hp}{v:V}{u:Value},Inv (fk CX P w K h O N L B f M A G s H E) [] Y j a->RelV v u->Q v j->CE G P w H s Q u a:=
  λ{Y j v u} J rv q=>⟨v,j,J.os,J.bare,J.base,J.hok,rv,q⟩
 cases fl with
 |ret u=>
  obtain⟨v,Y,j,J,rv,q⟩:=d;exact g J rv q
 |next=>
  obtain⟨Y,j,J,q⟩:=d;exact g (v:=V.N) (u:=Value.none) J rfl q
 |brk=>
  obtain⟨_,_,_,q⟩:=d;exact False.elim q
 |cont=>
  obtain⟨_,_,_,q⟩:=d;exact False.elim q
section
variable{X:Cx}{x:Str}{p pos:Pos}{e:Expr}{es:S8}{t:TA}{id T:String}{r:U8->Hp->VK->Prop}
noncomputable def ox(r:U8->Hp->VK->Prop)(t:TA):TE:=λA H Q=>t A H λB H1=>r B H1 Q
def wq(J:bQ X (.builtin id) r)(L:Gl X x)(M:X.mg x=none)(N:MF x=some (.builtin id))(O:PA X (e::es) t)(U:x ≠ "__name__":=by decide)(B:(x==("__debug__":Str))=false:=by decide)
  (Y:MN (e::es) X.env=(false,eval e X.env)::MN es X.env:=by rfl) (E:(MM pos (MN es X.env)).any (·.1)=false:=by rfl):PE X (.Call (.Name x p) (e::es) [] pos) (ox r t):=by
 intro A s G H Q I h;refine Nn (wV I L M N ?_ U B);exact PyProof.Rows.callWith_builtin1 (aU (O pos A s G H _ I h) λj k ⟨q,H1,u,z,o⟩=>J A k G H1 q j Q u z o) Y E
def Jm(J:bQ X (.type T) r)(L:Gl X x)(M:X.mg x=none)(N:MF x=some (.type T))(O:PA X (e::es) t)(U:x ≠ "__name__":=by decide)(B:(x==("__debug__":Str))=false:=by decide)
  (Y:MN (e::es) X.env=(false,eval e X.env)::MN es X.env:=by rfl) (E:(MM pos (MN es X.env)).any (·.1)=false:=by rfl):PE X (.Call (.Name x p) (e::es) [] pos) (ox r t):=by
 intro A s G H Q I h;refine Nn (wV I L M N ?_ U B);exact PyProof.Rows.callWith_type1 (aU (O pos A s G H _ I h) λj k ⟨q,H1,u,z,o⟩=>J A k G H1 q j Q u z o) Y E
end
end L2
namespace HT
open PySem PyProof.Rows
noncomputable def lexLt:T6->T6->Bool
 |[],[]=>false
 |[],_::_=>true
 |_::_,[]=>false
 |x::A,y::B=>if x=y then lexLt A B else decide (x<y)
def bp(x y:Int)(xs ys:T6):lexLt (x::xs) (y::ys)=if x=y then lexLt xs ys else decide (x<y):=rfl
def cS(A:MG)(s:Shared)(a:Int)(t:Tok)(c:Int)(u:Tok)(prog:My)(w:Mz)(E:O2)(Q:O2)(h:Q (.bool (decide (a<c))) s):
  MK (ML prog w) A (richCompare .Lt (.int a t) (.int c u)) Q E s:=
 (PyProof.Rows.lt_int h:MK (ML prog w) A (Ng .Lt (.int a t) (.int c u)) Q E s)
section
variable{prog:My}{w:Mz}{A:MG}{E:O2}{s:Shared}
def eQ (o:IsTup s.heap t vs.toArray)(p:IsTup s.heap b ws.toArray)(O:vs≠[])(d:ws=[]->Q (.ref t) s)(c:ws≠[]->Q (.ref s.heap.objs.size) {s with heap:=s.heap.push {cls:=.type "tuple",data:=.seq (vs++ws).toArray} })(N:vs.length+ws.length<=sizeLine):MK (ML prog w) A (Nf .Add (.ref t) (.ref b)) Q E s:=by
 obtain⟨⟨l,U,Y,j⟩,L,k,n,q⟩:=id o;obtain⟨⟨u,G,data2,H⟩,B,I,z,J⟩:=id p;simp only at k q I J;subst k q I J;have e:vs.toArray++ws.toArray=(vs++ws).toArray:=by simp
 by_cases M:ws=[]
 .exact Nu ⟨_,L,rfl⟩ ⟨_,B,rfl⟩ Nv Nw PySem.F.slot_tuple_add PySem.F.entry_tuple_add (PySem.F.args_tuple_add_2 _ _)
   (tuple_addW1 t b vs.toArray ws.toArray n z U G j H (by simpa using O) (by simp[M])) ⟨L,B,d M⟩
 .refine Nu ⟨_,L,rfl⟩ ⟨_,B,rfl⟩ Nv Nw PySem.F.slot_tuple_add PySem.F.entry_tuple_add (PySem.F.args_tuple_add_2 _ _)
   (tuple_addW2 t b vs.toArray ws.toArray n z U G j H (by simpa using O) (by simpa using M) (by rw[QH,QH];exact N)) ⟨L,B,?_⟩
  rw[e];exact c M
noncomputable def aR(n d:Nat):R9->Nat
 |none=>d
 |some v=>if v<0 then(v+(n:Int)).toNat else min v.toNat n
def Ez(n d:Nat)(G:d<=n)(o:R9):aR n d o<=n:=by
 cases o with
 |none=>exact G
 |some v=>
  show(if v<0 then(v+(n:Int)).toNat else min v.toNat n)<=n;by_cases B:v<0
  .rw[OB B];lia
  .rw[OC B];exact Nat.min_le_right _ _
def uC(v:Int)(n d:Nat):(if v<0 then max (v+(n:Int)) 0 else min v (n:Int))=((aR n d (some v):Nat):Int):=by
 show(if v<0 then max (v+(n:Int)) 0 else min v (n:Int))=(((if v<0 then(v+(n:Int)).toNat else min v.toNat n):Nat):Int);by_cases B:v<0
 .simp only[OB B];lia
 .simp only[OC B];lia
def Kc(lo B:R9)(n:Nat):Builtin.Slice.sliceAdjust lo B 1 (n:Int)=(((aR n 0 lo:Nat):Int),((aR n n B:Nat):Int)):=by
 have G:¬((1:Int)<0):=by lia
 unfold Builtin.Slice.sliceAdjust;simp only[G,if_false];refine Prod.ext ?_ ?_
 .cases lo with
  |none=>rfl
  |some v=>exact uC v n 0
 .cases B with
  |none=>rfl
  |some v=>exact uC v n n
def Kb(i j:Nat):Builtin.Slice.slicePlaces (i:Int) (j:Int) 1=j-i:=by
 unfold Builtin.Slice.slicePlaces;have B:(1:Int) > 0:=by lia
 simp only[B,if_true,Int.ediv_one];split<;>lia
def jU (p:Nx v o)(h:Q o s):MK (ML prog w) A (Builtin.Slice.slicePartIndex v) Q E s:=by
 cases p with
 |none=>exact slicePart_none h
 |int i t=>exact slicePart_int h
def kW {lo:R9}{Q:Int×Int×Nat->Shared->Prop}(L:s.heap.IsSliceOf M I J .none)(N:Nx I lo)(O:Nx J H)(h:Q (((aR n 0 lo:Nat):Int),1,aR n n H-aR n 0 lo) s):MK (ML prog w) A (Builtin.Slice.sliceApplied (.ref M) (pure (n:Int))) Q E s:=by
 obtain⟨os,B,U,G⟩:=id L;unfold Builtin.Slice.sliceApplied Builtin.Slice.sliceFields;refine MX (MX (Ny B G (x:=I) rfl (MX (Ny B G (x:=J) rfl (MX (Ny B G (x:=.none) rfl (M9 ?_)))))));refine MX (slicePart_none ?_);show MK _ _ (if((1:Int)==0)=true then _ else _) _ _ s;rw[OC (by decide)];refine MX (jU N (MX (jU O (MX (M9 ?_)))));show MK _ _ (match Builtin.Slice.sliceAdjust lo H 1 (n:Int)with|(lo,H)=>pure (lo,(1:Int),Builtin.Slice.slicePlaces lo H 1)) _ _ s;rw[Kc lo H n];show MK _ _ (pure (((aR n 0 lo:Nat):Int),(1:Int),Builtin.Slice.slicePlaces ((aR n 0 lo:Nat):Int) ((aR n n H:Nat):Int) 1)) _ _ s;rw[Kb];exact M9 h
def IF(xs:P7)(i k:Nat):((QA k).filterMap λ(m:Nat)=>xs[((i:Int)+(m:Int)*1).toNat]?).toArray=((xs.toList.drop i).take k).toArray:=by
 have e:(λ(m:Nat)=>xs[((i:Int)+(m:Int)*1).toNat]?)=λm=>xs[i+m]?:=by
  funext m;have:((i:Int)+(m:Int)*1).toNat=i+m:=by lia
  rw[this]
 rw[e];have:=pick_run xs i k;rw[List.filterMap_map]at this;have B:((λx=>xs[x]?) ∘ λx=>i+x)=λm=>xs[i+m]?:=rfl;rw[B]at this;rw[this]
def cx {lo:R9}(I:IsTup s.heap t B)(O:s.heap.IsSliceOf U Y j .none)(k:Nx Y lo)(u:Nx j H)(z:¬(aR B.size 0 lo=0/\aR B.size B.size H=B.size))(h:Q (.ref s.heap.objs.size) {s with heap:=s.heap.push {cls:=.type "tuple",data:=.seq ((B.toList.drop (aR B.size 0 lo)).take (aR B.size B.size H-aR B.size 0 lo)).toArray} })(o:B.size<=sizeLine):MK (ML prog w) A (Nz (.ref t) (.ref U)) Q E s:=by
 have G:sizeOk (.seq ((B.toList.drop (aR B.size 0 lo)).take (aR B.size B.size H-aR B.size 0 lo)).toArray):=by
  show((B.toList.drop (aR B.size 0 lo)).take (aR B.size B.size H-aR B.size 0 lo)).toArray.size<=sizeLine;rw[QH,QV,WL,QY];omega
 have hj:aR B.size B.size H<=B.size:=Ez _ _ (Qh _) H;obtain⟨os,J,L,p⟩:=id O;have M:s.TypeIs (.ref U) "slice":=⟨os,J,L⟩;unfold Nz
 try with_reducible refine MY ?_
 first|refine MX (M9 ?_)|skip
 refine MX (wpAny_sequenceKey I.typeIs (by decide) ?_);refine MX (NA (name:=Str.ofString "__getitem__") I.typeIs PyProof.Rows.slot_tuple_getitem
  (NB PyProof.Rows.slot_tuple_getitem I.typeIs entry_tuple_getitem ?_ (args_tuple_getitem _ _)))
 show MK _ _ (Builtin.Tuple.tupleItemsOf (.ref t) >>= _) _ _ s;refine MX (tupleItemsOf_ I ?_);refine MX (NC M ?_);rw[OB (by decide)];refine MX (kW O k u ?_);have N:¬((((aR B.size 0 lo:Nat):Int)==0&&(1:Int)==1&&(aR B.size B.size H-aR B.size 0 lo)==B.size)=true):=by
  intro q;rw[QD,QD]at q;have d:((aR B.size 0 lo:Nat):Int)=0:=eq_of_beq q.1.1;have c:aR B.size B.size H-aR B.size 0 lo=B.size:=eq_of_beq q.2;exact z ⟨by omega,by omega⟩
 show MK _ _ (if(((aR B.size 0 lo:Nat):Int)==0&&(1:Int)==1&&(aR B.size B.size H-aR B.size 0 lo)==B.size)=true then _ else _) _ _ s;rw[OC N,IF]
 first
  |exact MX (m:=Builtin.Tuple.tupleExact _) (ND (M9 ⟨_,rfl,M9 h⟩) G)
  |exact MX (m:=Builtin.Tuple.tupleExact _) (ND (MX (M9 (M9 ⟨_,rfl,M9 h⟩))) G)
  |exact MX (MX (m:=Builtin.Tuple.tupleExact _) (ND (M9 (M9 ⟨_,rfl,M9 h⟩)) G))
  |exact MX (MX (m:=Builtin.Tuple.tupleExact _) (ND (M9 ⟨_,rfl,M9 h⟩) G))
end
end HT
namespace L2
open PySem PySem.Spec PyProof.Rows
abbrev TO:=St->Hp->(R9->Hp->Prop)->Prop
noncomputable def PO(X:Cx)(e:Option Expr)(t:TO):Prop:=
 ∀(A:O6) (s:Shared) (B:St) (H:Hp) (Q:R9->Hp->Prop),Inv X A B H s->t B H Q ->
  MK (ML X.prog X.w) X.A (evalPart e X.env) (λu G=>∃o E,Inv X A B E G/\Nx u o/\Q o E) X.xe s
noncomputable def HC:TO:=λ_ H Q=>Q none H
noncomputable def C7(t:TE):TO:=λA H Q=>t A H λx H1=>∃i,x=.int i/\Q (some i) H1
section
variable{X:Cx}{e:Expr}{te:TE}{lo hi:Option Expr}{tl th:TO}{pos p2:Pos}
def HB:PO X none HC:=by
 intro A s B H Q I h;rw[evalPart_none];exact M9 ⟨none,H,I,.none,h⟩
def qU(h:PE X e te):PO X (some e) (C7 te):=by
 intro A s B H Q I E;rw[evalPart_some];refine aU (h A s B H _ I E) λu M ⟨x,H1,G,J,L⟩=>?_;obtain⟨i,rfl,q⟩:=L;obtain⟨t,rfl⟩:=J;exact⟨some i,H1,G,.int i t,q⟩
noncomputable def fM(X:Cx)(r:V->R9->R9->Hp->VK->Prop):Prop:=
 ∀(A:O6) (s:Shared) (B:St) (H:Hp) (x:V) (v E G:Value) (lo hi:R9) (I:Addr) (Q:VK),Inv X A B H s->RelV x v->s.heap.IsSliceOf I E G .none->Nx E lo->Nx G hi->r x lo hi H Q ->
  ∃T id,typeLookup (.type T) "__getitem__"=pure (some (.builtin id))/\s.TypeIs v T/\MK (ML X.prog X.w) X.A (Nz v (.ref I)) (EP X A B Q) X.xe s
def fM.or{r B:V->R9->R9->Hp->VK->Prop}(h:fM X r)(h':fM X B):fM X (λx lo hi H Q=>r x lo hi H Q\/B x lo hi H Q):=by
 intro A s E H x v G J lo hi L Q I M N O U q;rcases q with q|q
 .exact h A s E H x v G J lo hi L Q I M N O U q
 .exact h' A s E H x v G J lo hi L Q I M N O U q
noncomputable def K8(r:V->R9->R9->Hp->VK->Prop)(te:TE)(tl th:TO):TE:=λA H Q=>te A H λx H1=>tl A H1 λl H2=>th A H2 λu H3=>r x l u H3 Q
def AW (L:fM X r)(M:PE X e te)(hl:PO X lo tl)(N:PO X hi th):PE X (.Subscript e (.Slice lo hi none p2) pos) (K8 r te tl th):=by
 intro A s E H Q I h;refine Subscript_ (aU (M A s E H _ I h) λv O ⟨x,H1,U,Y,j⟩=>?_);refine wpAny_Slice (aU (hl A O E H1 _ U j) λG k ⟨l,H2,z,o,p⟩=>aU (N A k E H2 _ z p) λJ B ⟨u,H3,d,c,g⟩=>?_);rw[evalPart_none];refine M9 ?_;have f:Inv X A E H3 {B with heap:=B.heap.push {cls:=.type "slice",data:=.fields #[G,J,.none]} }:=d.kept (t':=B.toks) λb i q=>Qk _ q;obtain⟨T,id,t,m,n⟩:=L A {B with heap:=B.heap.push {cls:=.type "slice",data:=.fields #[G,J,.none]} } E H3 x v G J l u B.heap.objs.size Q f Y (Heap.IsSliceOf.new ..) o c g;show MK (ML X.prog X.w) X.A (subscriptTail e (.Slice lo hi none p2) v (.ref B.heap.objs.size)) (EP X A E Q) X.xe {B with heap:=B.heap.push {cls:=.type "slice",data:=.fields #[G,J,.none]} };exact tail_any (ops:=[.ref B.heap.objs.size,v]) m t n (by with_unfolding_all rfl)
noncomputable def qe(xs:U8)(lo hi:R9):U8:=(xs.drop (HT.aR xs.length 0 lo)).take (HT.aR xs.length xs.length hi-HT.aR xs.length 0 lo)
def jk(xs:U8)(lo hi:R9):(qe xs lo hi).length<=xs.length:=by
 unfold qe;rw[QV,WL];lia
noncomputable def rF(K:Qb):V->R9->R9->Hp->VK->Prop:=λx lo hi H Q=>∃a A,x=.ref a/\bS K H a A /\
 ¬(HT.aR A.length 0 lo=0/\HT.aR A.length A.length hi=A.length)/\∀p,H p=none->Q (.ref p) (aL H p (.T (qe A lo hi)))
def tG:fM X (rF X.K):=by
 intro G s k H x v u z lo hi p Q I M N O U h;obtain⟨a,B,rfl,Y,j,q⟩:=h;cases M;obtain⟨E,r,J,L⟩:=I.tuple Y;have A:E.toArray.size=B.length:=by rw[QH];exact r.length.symm
 refine⟨"tuple",_,PyProof.Rows.slot_tuple_getitem.lookup,J.typeIs,?_⟩;refine HT.cx J N O U (by rw[A];exact j) ?_ (by rw[A];exact L);rw[A];refine⟨.ref s.heap.objs.size,_,I.laid (t':=s.toks) (o:=.T (qe B lo hi)) (λb d q=>Qk _ q) (Qh _) ?_,rfl,q _ (I.hok.fresh (Qh _))⟩;exact⟨Qx (jk B lo hi) L,_,(r.drop (HT.aR B.length 0 lo)).take (HT.aR B.length B.length hi-HT.aR B.length 0 lo),IsTup.new _ _⟩
noncomputable def sA(K:Qb):R2:=λx y H Q=>∃a b B A,x=.ref a/\y=.ref b/\bS K H a B/\bS K H b A/\B≠[]/\B.length+A.length<=sizeLine /\
 (A=[]->Q (.ref a) H)/\(A≠[]->∀p,H p=none->Q (.ref p) (aL H p (.T (B++A))))
def av.nil_iff (r:av xs A):A=[]↔xs=[]:=by
 cases r with
 |nil=>simp
 |cons _ _=>simp
def eM:ci X (Nf .Add) (sA X.K):=by
 intro E s l H x y v u Q I L M h;obtain⟨a,b,N,O,rfl,rfl,U,Y,j,G,k,p⟩:=h;cases L;cases M;obtain⟨d,B,c,_⟩:=I.tuple U;obtain⟨J,A,p2,_⟩:=I.tuple Y;refine HT.eQ c p2 (λz=>j (B.nil_iff.mp z)) (λz=>⟨.ref a,H,I,rfl,k (A.nil_iff.mp z)⟩) (λz=>?_) (by rw[<-B.length,<-A.length];exact G);refine⟨.ref s.heap.objs.size,_,I.laid (t':=s.toks) (o:=.T (N++O)) (λb g q=>Qk _ q) (Qh _) ?_,rfl,p (λw=>z (A.nil_iff.mpr w)) _ (I.hok.fresh (Qh _))⟩;exact⟨by rw[Qw];exact G,_,B.append A,IsTup.new _ _⟩
end
noncomputable def iK(n:Nat)(i:Int):Option Nat:=if 0<=i then(if i<n then some i.toNat else none)else if -(n:Int)<=i then some (i+n).toNat else none
noncomputable def fJ{A:Type}(xs:List A)(i:Int):Option A:=(iK xs.length i).bind λj=>xs[j]?
def HA (h:iK n i=some j):seqIndex? i n=some j/\j<n/\-(n:Int)<=i/\i<n:=by
 unfold iK at h;by_cases B:0<=i
 .rw[OB B]at h;by_cases A:i<n
  .rw[OB A]at h;have e:i.toNat=j:=Option.some.inj h;exact⟨by rw[seqIndex_of B A,e],by lia,by lia,A⟩
  .rw[OC A]at h;cases h
 .rw[OC B]at h;by_cases A:-(n:Int)<=i
  .rw[OB A]at h;have e:(i+n).toNat=j:=Option.some.inj h;exact⟨by rw[seqIndex_neg (by lia) A,e],by lia,A,by lia⟩
  .rw[OC A]at h;cases h
def qV (h:fJ xs i=some v):∃j,seqIndex? i xs.length=some j/\xs[j]?=some v/\j<xs.length/\-(xs.length:Int)<=i/\i<xs.length:=by
 unfold fJ at h;cases e:iK xs.length i with
 |none=>rw[e]at h;cases h
 |some j=>
  rw[e]at h;obtain⟨A,B,E,G⟩:=HA e;exact⟨j,A,h,B,E,G⟩
noncomputable def qW(b:Expr):Prop:=∀o i,subscripted b false o i=operate [o,i] (Nz o i)
noncomputable def dY(X:Cx)(r:R2):Prop:=
 ∀(E A:Expr) (B:O6) (s:Shared) (G:St) (H:Hp) (x y:V) (v u:Value) (Q:VK),Inv X B G H s->RelV x v->RelV y u->r x y H Q ->
  subscripted A false v u=operate [v,u] (Nz v u)->MK (ML X.prog X.w) X.A (subscriptTail E A v u) (EP X B G Q) X.xe s
noncomputable def pf(X:Cx)(id:String)(r:V->U8->Hp->VK->Prop):Prop:=
 ∀(A:O6) (s:Shared) (B:St) (H:Hp) (x:V) (E:U8) (v:Value) (G:R6) (Q:VK),Inv X A B H s->RelV x v->av E G->r x E H Q ->
  MK (ML X.prog X.w) X.A (call (.builtin id) (v::G)) (EP X A B Q) X.xe s
section
variable{X:Cx}{a b:Expr}{ta tb:TE}{pos:Pos}
def dY.or{r G:R2}(h:dY X r)(h':dY X G):dY X (λx y H Q=>r x y H Q\/G x y H Q):=by
 intro A B E s J H x y v u Q I L M q N;rcases q with q|q
 .exact h A B E s J H x y v u Q I L M q N
 .exact h' A B E s J H x y v u Q I L M q N
def lg (B:dY X r)(E:PE X a ta)(G:PE X b tb)(J:qW b):PE X (.Subscript a b pos) (eK r ta tb):=by
 intro A s L H Q I h;exact Subscript_ (mE E G I h λv u M x y H2 N O U q=>B a b A M L H2 x y v u Q N O U q (J _ _))
noncomputable def rE(K:Qb):R2:=λx y H Q=>∃p A i v,x=.ref p/\y=.int i/\bg K H p A/\fJ A i=some v/\Q v H
noncomputable def rD(K:Qb):R2:=λx y H Q=>∃p A i v,x=.ref p/\y=.int i/\bS K H p A/\fJ A i=some v/\Q v H
noncomputable def rQ:R2:=λx y H Q=>∃z i c,x=.str z/\y=.int i/\z.length<=sizeLine/\fJ z.cps.toList i=some c/\Q (.str ⟨#[c]⟩) H
def eO:dY X (rE X.K):=by
 intro G J A s O H x y v u Q I o d h U;refine aP λzP c=>?_;obtain⟨p,xs,i,z,rfl,rfl,l,g,q⟩:=h;cases o;obtain⟨t,rfl⟩:=d;obtain⟨L,r,M,hz⟩:=I.list l;obtain⟨j,E,f,h3,e,m⟩:=qV g;obtain⟨w,Y,N⟩:=r.get f;refine c ?_;have hl:=r.length;have hn:=qT;have B:EP X A O Q w s:=⟨z,H,I,N,q⟩;by_cases k:0<=i
 .have hj:i.toNat=j:=by
   rw[seqIndex_of k m]at E;exact Option.some.inj E
  exact item_listR M.isList k (by lia) (by rw[hj];simpa using Y) B U
 .have hj:(i+(L.toArray.size:Int)).toNat=j:=by
   rw[seqIndex_neg (by lia) e]at E;rw[QH,<-hl];exact Option.some.inj E
  exact NE (x:=w) M.isList.typeIs slot_list_getitem.lookup
   (wpAny_getItem_list_neg (Q:=λr n=>r=w/\EP X A O Q r n) M.isList (by lia) (by rw[QH]<;>lia) (by lia) (by rw[hj];simpa using Y) ⟨rfl,B⟩) U
def fG:dY X (rD X.K):=by
 intro B E A s L H x y v u Q I N O h U;obtain⟨p,f,i,z,rfl,rfl,Y,k,q⟩:=h;cases N;obtain⟨t,rfl⟩:=O;obtain⟨o,r,M,e⟩:=I.tuple Y;obtain⟨j,d,c,m,n,h5⟩:=qV k;obtain⟨w,l,G⟩:=r.get c;have hl:=r.length;have hn:=qT;have J:EP X A L Q w s:=⟨z,H,I,G,q⟩;exact NE (x:=w) M.typeIs slot_tuple_getitem.lookup
  (getItem_tuple (j:=j) (Q:=λr g=>r=w/\EP X A L Q r g) M (by lia) (by lia) (by rw[QH,<-hl];exact d) (by simpa using l) ⟨rfl,J⟩) U
def E8:dY X rQ:=by
 intro A B E s p H x y v u Q I J L h M;obtain⟨z,i,c,rfl,rfl,d,N,q⟩:=h;obtain⟨t,rfl⟩:=J;obtain⟨l,rfl⟩:=L;obtain⟨j,G,O,g,U,Y⟩:=qV N;have hl:z.cps.toList.length=z.length:=by simp[Str.length]
 rw[hl]at G U Y;have f:=qT;exact tail_any (typeIs_str s z t) slot_str_getitem.lookup (getItem_str (c:=c) (by
  have k:decide (i < -(2^63:Int))=false:=OA (by lia);have o:decide (i ≥ 2^63)=false:=OA (by lia);rw[k,o,Bool.or_false]) (by rw[G];simpa using O) ⟨.str ⟨#[c]⟩,H,I.tok _,⟨_,rfl⟩,q⟩) M
noncomputable def A5(K:Qb):R2:=λx y H Q=>rE K x y H Q\/rD K x y H Q\/rQ x y H Q
def E7:dY X (A5 X.K):=eO.or (fG.or E8)
def qX(lo A:R9)(n:Nat):(NF lo A none n).1=((HT.aR n 0 lo:Nat):Int)/\(NF lo A none n).2.1=((HT.aR n n A:Nat):Int)/\(NF lo A none n).2.2=1:=by
 refine⟨?_,?_,rfl⟩
 .cases lo with
  |none=>simp[NF,HT.aR]
  |some i=>
   simp only[NF,HT.aR,Option.getD_none,show(1:Int) > 0 by decide,if_true];by_cases h:i<0
   .simp only[h,if_true]<;>lia
   .simp only[h,if_false]<;>lia
 .cases A with
  |none=>simp[NF,HT.aR]
  |some i=>
   simp only[NF,HT.aR,Option.getD_none,show(1:Int) > 0 by decide,if_true];by_cases h:i<0
   .simp only[h,if_true]<;>lia
   .simp only[h,if_false]<;>lia
def qf(its:R6)(lo A:R9):slicePick its.toArray lo A none=((its.drop (HT.aR its.length 0 lo)).take (HT.aR its.length its.length A-HT.aR its.length 0 lo)).toArray:=by
 obtain⟨B,E,G⟩:=qX lo A its.toArray.size;unfold slicePick;rw[B,E,G];simp only[sliceRange_one,pick_run,QH]<;>rfl
noncomputable def mI(K:Qb):V->R9->R9->Hp->VK->Prop:=λx lo B H Q=>∃a A,x=.ref a/\bg K H a A/\∀p,H p=none->Q (.ref p) (aL H p (.L (qe A lo B)))
def dL:fM X (mI X.K):=by
 intro G s k H x v u z lo E p Q I L M N O h;obtain⟨a,A,rfl,U,q⟩:=h;cases L;obtain⟨Y,r,J,j⟩:=I.list U;have B:=r.length;refine⟨"list",_,slot_list_getitem.lookup,J.isList.typeIs,?_⟩;refine wpAny_getItem_list_slice J.isList M N O .none (by simp) ?_ (by rw[QH]<;>lia);rw[qf,<-B];refine⟨.ref s.heap.objs.size,_,I.laid (t':=s.toks) (o:=.L (qe A lo E)) (λb d q=>Qk _ q) (Qh _) ?_,rfl,q _ (I.hok.fresh (Qh _))⟩;exact⟨Qx (jk A lo E) j,_,0,(r.drop (HT.aR A.length 0 lo)).take (HT.aR A.length A.length E-HT.aR A.length 0 lo),QK _ rfl⟩
def qY:bQ X (.builtin "len") (λxs H Q=>∃p ys,xs=[.ref p]/\(bg X.K H p ys\/bS X.K H p ys)/\Q (.int ys.length) H):=by
 intro J s N H xs O Q I r h;obtain⟨p,ys,rfl,hq,q⟩:=h;obtain⟨u,rfl,L⟩:=jT r;cases L;have U:=qT;rcases hq with hq|hq
 .obtain ⟨B,E,G,M⟩:=I.list hq;have A:=E.length;exact Calls.call_len_list G.isList (by simp only[QH]<;>lia) ⟨.int ys.length,H,I.tok _,⟨s.toks+1,by rw[QH,A]⟩,q⟩
 .obtain ⟨B,E,G,M⟩:=I.tuple hq;have A:=E.length;exact len_tuple G (by simp only[QH]<;>lia) ⟨.int ys.length,H,I.tok _,⟨s.toks+1,by rw[QH,A]⟩,q⟩
noncomputable def lK(K:Qb)(T:String)(x:V)(H:Hp):Prop:=match x with
 |.ref p=>T="list" /\ ∃A,bg K H p A
 |_=>False
def tF (I:Inv X A σ H s)(r:RelV x v)(B:lK X.K T x H):
  s.TypeIs v T/\∀a,v=.ref a->∃ob,s.heap.get? a=some ob/\ob.dict=none:=by
 cases x with
 |ref p=>
  cases r;obtain⟨rfl,M,G⟩:=B;obtain⟨J,_,E,_⟩:=I.list G;refine⟨E.isList.typeIs,λa e=>?_⟩;cases e;obtain⟨o,n,e,c,L,_⟩:=E;exact⟨o,e,L⟩
 |_=>exact False.elim B
noncomputable def oy(K:Qb)(T:String)(r:V->U8->Hp->VK->Prop)(A:TE):TE:=λB H Q=>A B H λx H1=>lK K T x H1/\r x [] H1 Q
noncomputable def La(K:Qb)(T:String)(r:V->U8->Hp->VK->Prop)(B:TE)(t:TA):TE:=λA H Q=>B A H λx H1=>lK K T x H1/\t A H1 λE H2=>r x E H2 Q
variable{o e:Expr}{es:S8}{to:TE}{t:TA}{name:Str}{apos cpos:Pos}{T id:String}{r:V->U8->Hp->VK->Prop}
def E6(pa:PlainAttrs T)(G:Slot T name id)(J:typeOf (.builtin id)=pure (.type "method_descriptor"))(O:pf X id r)(U:PE X o to)
  (B:NG o name X.env (eval o X.env)=eval o X.env:=by rfl) (E:(apos.endLine==cpos.line)=true:=by rfl):PE X (.Call (.Attribute o name apos) [] [] cpos) (oy X.K T r to):=by
 intro A s L H Q I h;refine wpAny_Call_method0_late B E (aU (U A s L H _ I h) λv Y ⟨x,H1,M,N,j,k⟩=>?_);obtain⟨q,u⟩:=tF M N j;exact⟨T,id,pa,G,J,q,u,Calls.callWith_builtin rfl (PySem.evalArgs_none (O A Y L H1 x [] v [] Q M N .nil k))⟩
def Du(pa:PlainAttrs T)(J:Slot T name id)(M:typeOf (.builtin id)=pure (.type "method_descriptor"))(j:pf X id r)(k:PE X o to)(q:PA X (e::es) t)
  (E:NG o name X.env (eval o X.env)=eval o X.env:=by rfl)
  (L:((MM cpos (MN (e::es) X.env)).all (λx=>! x.1)&&(backToKw cpos (NH [] X.env)).all (λx=>x.1.isSome)
   && decide ((e::es).length+([]:List NI).length+(if([]:List NI).isEmpty then 0 else 1)<30))=true:=by rfl)
  (G:(apos.endLine==cpos.line)=true:=by rfl) (u:MN (e::es) X.env=(false,eval e X.env)::MN es X.env:=by rfl) (B:(MM cpos (MN es X.env)).any (·.1)=false:=by rfl) :
  PE X (.Call (.Attribute o name apos) (e::es) [] cpos) (La X.K T r to t):=by
 intro A s N H Q I h;refine wpAny_Call_method_late E L G rfl (aU (k A s N H _ I h) λv z ⟨x,H1,O,U,p,d⟩=>?_);obtain⟨c,l⟩:=tF O U p;refine⟨T,id,pa,J,M,c,l,?_⟩;have Y:=q cpos A z N H1 _ O d;rw[u]at Y ⊢;refine Calls.callWith_builtin (by show(false || (MM cpos (MN es X.env)).any (·.1))=false;rw[B]<;>rfl) (Calls.evalArgs_plain ?_);exact aU Y λg f ⟨m,H2,n,i,w⟩=>j A f N H2 x m v g Q n U i w
end
noncomputable def ph(X:Cx)(id:String)(r:V->U8->Hp->VK->Prop):Prop:=
 ∀(A:O6) (s:Shared) (B:St) (H:Hp) (x:V) (E:U8) (v:Value) (G:R6) (Q:VK),Inv X A B H s->RelV x v->av E G->r x E H Q ->
  MK (ML X.prog X.w) X.A (call (.builtin id) (v::G)) (EP X A B Q) X.xe s
def av.one:∀{x:V}{A:R6},av [x] A->∃u,A=[u]/\RelV x u
 |_,_,.cons r .nil=>⟨_,rfl,r⟩
def av.zero:∀{A:R6},av [] A->A=[]
 |_,.nil=>rfl
theorem av.reverse{xs:U8}{A:R6}(h:av xs A):av xs.reverse A.reverse:=by
 induction h with
 |nil=>exact .nil
 |cons r t B=>rw[Wq,Wq];exact av.append B (.cons r .nil)
theorem av.rep (h:av xs A):∀k:Nat,av (QI k xs).flatten (QI k A).flatten
 |0=>.nil
 |k+1=>by
  rw[Wa,Wa,Q8,Q8];exact av.append h (av.rep h k)
theorem qy(its:R6):∀(k:Nat) (acc:R6),
  Ue (λA B=>A++B) acc.toArray (QI k its.toArray)=(acc++(QI k its).flatten).toArray
 |0,acc=>by simp
 |k+1,acc=>by
  have e:acc.toArray++its.toArray=(acc++its).toArray:=by simp
  have E:(acc++its)++(QI k its).flatten=acc++(QI (k+1) its).flatten:=by
   rw[Wa,Q8,Qm]
  rw[<-E,<-qy its k (acc++its),<-e,Wa,Vd]
section
variable{X:Cx}{pins:O6}{σ:St}{H:Hp}{s:Shared}{l:Addr}{xs ys:U8}
def Inv.lset{its its':R6}{n:Nat}{f:P7->P7}{t':Nat}(I:Inv X pins σ H s)(A:H l=some (.L xs))
  (e:s.heap.get? l=some {cls:=.type "list",data:=.seq its.toArray n}) (B:f its.toArray=its'.toArray) (E:av ys its') (G:ys.length<=sizeLine) :
  Inv X pins σ (aL H l (.L ys)) {s with heap:=s.heap.update l (Obj.mapSeq f),toks:=t' }:=by
 have q:=PySem.IsL.update e f;rw[B]at q;refine I.write (x:=l) (e:=l) (by rw[A];exact trivial) (.inl rfl) (λM u J L=>(Heap.get?_update_other s.heap (Obj.mapSeq f) (Ne.symm J)).trans L) ⟨_,q⟩ ?_;exact⟨G,its',_,E,q⟩
def Inv.lnew{its:R6}{t':Nat}(I:Inv X pins σ H s)(A:av ys its)(B:ys.length<=sizeLine):
  Inv X pins σ (aL H s.heap.objs.size (.L ys)) {s with heap:=s.heap.push {cls:=.type "list",data:=.seq its.toArray},toks:=t' } :=
 I.laid (λ_ _ q=>Qk _ q) (Qh _) ⟨B,its,0,A,QK _ rfl⟩
theorem Inv.fresh(I:Inv X pins σ H s):H s.heap.objs.size=none:=I.hok.fresh (Qh _)
def Inv.lstM(I:Inv X pins σ H s)(A:H l=some (.L xs)):xs.length<=sizeLine/\∃(its:R6) (n:Nat),av xs its/\xs.length=its.length/\s.heap.get? l=some {cls:=.type "list",data:=.seq its.toArray n}:=by
 obtain⟨z,its,n,r,e⟩:=I.hok l _ A;exact⟨z,its,n,r,r.length,e⟩
def AV (h:n<=sizeLine):Builtin.List.listTooLong n=false:=by
 unfold Builtin.List.listTooLong;exact OA (by lia)
end
section
variable{X:Cx}
noncomputable def Hz:V->U8->Hp->VK->Prop:=λx B H Q=>∃l A y,x=.ref l/\B=[y]/\H l=some (.L A)/\A.length<sizeLine/\Q .N (aL H l (.L (A++[y])))
def qz:ph X "list.append" Hz:=by
 intro B s M H x N v O Q I G J h;obtain⟨l,U,y,rfl,rfl,E,Y,q⟩:=h;cases G;obtain⟨u,rfl,L⟩:=J.one;obtain⟨z,A,n,r,hl,e⟩:=I.lstM E;refine NJ F.slot_list_append ⟨_,e,rfl⟩ F.entry_list_append (F.args_list_append_2 _ _) (PySem.list_append l A.toArray n u (by rw[QH];lia)) ⟨e,?_⟩;refine⟨.N,_,I.lset (its':=A++[u]) E e (by simp) (r.append (.cons L .nil)) ?_,rfl,q⟩;rw[Qw,List.length_singleton];lia
noncomputable def Hy:V->U8->Hp->VK->Prop:=λx E H Q=>∃l b A B,x=.ref l/\E=[.ref b]/\H l=some (.L A)/\H b=some (.L B)/\A.length+B.length<=sizeLine/\Q .N (aL H l (.L (A++B)))
def Jl:ph X "list.extend" Hy:=by
 intro J s p H x d v c Q I M N h;obtain⟨l,b,g,f,rfl,rfl,L,O,t,q⟩:=h;cases M;obtain⟨u,rfl,U⟩:=N.one;cases U;obtain⟨z,B,n,r,hl,e⟩:=I.lstM L;obtain⟨m,A,Y,j,k,o⟩:=I.lstM O;have G:B.toArray.size+A.toArray.size<=sizeLine:=by rw[QH,QH];lia
 have E:¬(! B.toArray.isEmpty&&Builtin.List.listTooLong (B.toArray.size+A.toArray.size))=true:=by
  rw[AV G,Bool.and_false];exact QU
 refine NJ F.slot_list_extend ⟨_,e,rfl⟩ F.entry_list_extend (F.args_list_extend_2 _ _)
  (AutoSeq1.list_extend_list_list_0 l B.toArray n b A.toArray Y E (by rw[QH];lia) (by lia)) ⟨e,o,?_⟩
 refine⟨.N,_,I.lset (its':=B++A) L e (by simp) (r.append j) ?_,rfl,q⟩;rw[Qw];lia
noncomputable def IE:V->U8->Hp->VK->Prop:=λx B H Q=>∃l A,x=.ref l/\B=[]/\H l=some (.L A)/\Q .N (aL H l (.L A.reverse))
def Ka:ph X "list.reverse" IE:=by
 intro E s M H x N v O Q I J L h;obtain⟨l,U,rfl,rfl,G,q⟩:=h;cases J;have B:=L.zero;subst B;obtain⟨z,A,n,r,hl,e⟩:=I.lstM G;refine NJ F.slot_list_reverse ⟨_,e,rfl⟩ F.entry_list_reverse (F.args_list_reverse_1 _) (AutoSeq1.list_reverse_list_0 l A.toArray n (by rw[QH];lia)) ⟨e,?_⟩;refine⟨.N,_,I.lset (its':=A.reverse) G e (by simp) r.reverse ?_,rfl,q⟩;rw[List.length_reverse];lia
noncomputable def rP:R2:=λx y H Q=>∃l b A B,x=.ref l/\y=.ref b/\H l=some (.L A)/\H b=some (.L B)/\A.length+B.length<=sizeLine/\∀p,H p=none->Q (.ref p) (aL H p (.L (A++B)))
def fE:ci X (Nf .Add) rP:=by
 intro E s j H x y v u Q I G J h;obtain⟨l,b,k,o,rfl,rfl,L,M,p,q⟩:=h;cases G;cases J;obtain⟨z,B,n,r,hl,e⟩:=I.lstM L;obtain⟨d,A,c,N,O,U⟩:=I.lstM M;refine PySem.P.add_list e U ?_ (by rw[QH,QH];lia);have Y:B.toArray++A.toArray=(B++A).toArray:=by simp
 rw[Y];exact⟨.ref _,_,I.lnew (t':=s.toks) (r.append N) (by rw[Qw];lia),rfl,q _ I.fresh⟩
noncomputable def rO:R2:=λx y H Q=>∃l k A,x=.ref l/\y=.int k/\H l=some (.L A)/\-(2^63)<=k/\k<2^63/\A.length*k.toNat<=sizeLine /\
 ∀p,H p=none->Q (.ref p) (aL H p (.L (QI k.toNat A).flatten))
def uB{A:Type}(xs:List A)(k:Nat):(QI k xs).flatten.length=k*xs.length:=by
 induction k with
 |zero=>simp
 |succ k B=>rw[Wa,Q8,Qw,B,Nat.succ_mul,Nat.add_comm]
def E5:ci X (Nf .Mult) rO:=by
 intro O s f H x y v u Q I j o h;obtain⟨l,k,b,rfl,rfl,p,d,c,Y,q⟩:=h;cases j;obtain⟨t,rfl⟩:=o;obtain⟨z,A,n,r,hl,e⟩:=I.lstM p;have E:A.toArray.size*k.toNat<=sizeLine:=by rw[QH,<-hl];exact Y
 have G:¬A.toArray.size*k.toNat > (2^63-1)/8:=by
  have:(sizeLine:Nat)<=(2^63-1)/8:=by decide
  lia
 have J:¬(! Builtin.List.listFitsIndex k)=true:=by
  rw[fitsIndex_both d c];exact QU
 have B:¬Builtin.List.listTooLong (A.toArray.size*k.toNat)=true:=by
  rw[AV E];exact QU
 have L:Ue (λM N=>M++N) #[] (QI (if A.toArray.isEmpty=true then 0 else k.toNat) A.toArray)=(QI k.toNat A).flatten.toArray:=by
  have f0:∀m:Nat,Ue (λM N=>M++N) #[] (QI m A.toArray)=(QI m A).flatten.toArray:=λm=>by
   have:=qy A m [];rw[QS]at this;exact this
  rw[f0];cases A with
  |nil=>simp
  |cons a i=>rw[OC (by simp)]
 refine wpAny_binaryOp_repeat_ref (T:="list") (U:="int") (by decide) ⟨_,e,rfl⟩ (λg=>typeIs_int g k t) noFill_list_mul F.fills_int_mul F.slot_int_rmul repeat_list F.slot_int_index.lookup
  (NJ F.slot_int_rmul (typeIs_int s k t) F.entry_int_rmul (F.args_int_rmul_2 _ _) (int___rmul___int_list k t l A.toArray n)
   ⟨e,rfl,⟨_,e,rfl⟩,NJ F.slot_list_mul ⟨_,e,rfl⟩ F.entry_list_mul (F.args_list_mul_2 _ _) (AutoListH.list___mul___list_int_3 l A.toArray n k t J G B) ⟨e,?_⟩⟩)
 rw[L];exact⟨.ref _,_,I.lnew (t':=s.toks) (r.rep k.toNat) (by rw[uB,W3];exact Y),rfl,q _ I.fresh⟩
end
end L2
namespace Att
open PySem PySem.W PySem.Calls PyProof.Rows
def jy:∀(A:T6) (vs:R6),WellAll P h vs (A.map WData.int)->NK vs A:=by
 intro A
 induction A with
 |nil=>
  intro vs w;rw[Vu]at w;cases w;exact .nil
 |cons n A B=>
  intro vs w;rw[QJ]at w;cases w with
  |cons a b=>
   cases a;exact .cons _ _ (B _ b)
def Jk {l:OpenLaw}(Q:l.most=some n)(E:l.row.toRowW.claim.pre A=true)(M:WellAll P h G A):
  ∃a vs B,G=[Value.ref a]/\A=[WData.list (B.map WData.int)]/\h.get? a=some {cls:=.type "list",data:=.seq vs.toArray}/\NK vs B/\B.length<=n:=by
 have N:WShape.hasAll [] A [.list .int]=true:=(pre_splitW E).1;have O:l.pre.holds [] {args:=A}=true:=(pre_splitW E).2;obtain⟨d,r,rfl,U,Y⟩:=hasAllW_cons N;obtain rfl:=hasAllW_nil Y;obtain⟨p,rfl,j⟩:=hasW_list U;obtain⟨B,rfl⟩:=items_int j;have H:B.length<=n:=by
  unfold OpenLaw.pre at O;have J:(WTm.not (.lt (.lit (.int (n:Int))) (.len (.arg 0)))).holds [] {args:=[.list (B.map .int)]}=true:=by
   have J:=(holds_andW O).1;rw[Q]at J;exact J
  have L:=condW_of J (w_not (w_lt w_lit (w_len_list (w_arg rfl))));rw[Qi]at L;refine Nat.le_of_not_lt λq=>?_;have k:(n:Int)<((B.length:Nat):Int):=by lia
  first
   |(rw[OF k]at L;exact OD L (by decide))
   |(simp at L;lia)
 cases M with
 |cons u z=>
  cases z;cases u with
  |list o I=>exact⟨_,_,B,rfl,rfl,o,jy B _ I,H⟩
def Jj(l:OpenLaw)(A:List WData):l.row.toRowW.claim.post A (.bool true) A=true:=
 postW_of (r:=l.row.toRowW) (X:=(true==true))
  (show WShape.has [] (.bool true) .bool=true by first|rfl|decide|simp[WShape.has,WShape.arms,WShape.armsAll])
  (show(WTm.eq .res (.lit (.bool true))).value [] {args:=A,res:=some (.bool true),after:=A}=some (.bool (true==true))from w_eq_bool (w_res rfl) w_lit) rfl
def du {l:OpenLaw}(e:l.most=some n)(Q:d.params.defaults=[])(call:∀(w:Mz) (B A:Shared) (M U:O3) (H:Addr) (o:Obj) (pm cd doc:Value) (a:Addr) (vs:R6) (N:T6),
   Ground q loose [] XP w B M U A.heap->t w A.heap ->
   A.heap.get? H=some o->o.data=.func (docDef d.name d.params d.body d.scope pm cd doc)->A.heap.CodeRec cd d.name->M d.name=some (.ref H) ->
   A.heap.get? a=some {cls:=.type "list",data:=.seq vs.toArray}->NK vs N->N.length<=n->A.gens=#[] ->
   Nl (ML l.prog w) NL (.call (.ref H) ⟨[.ref a],[]⟩) (λr O=>r=.ok (.ret (.bool true))/\OldK A.heap O.heap/\O.os=A.os/\MJ O.gens) A):
  WalkO q loose XP t l.row.toRowW d [] (λf vs=>PySem.call f vs):=by
 intro w B A M U G Y H o pm cd doc s kV m b j z k h p c as I g i u y;obtain rfl:s=.none:=Dflts.none z Q;obtain rfl:kV=.none:=Dflts.noKw z;obtain⟨a,vs,N,rfl,rfl,J,E,L⟩:=Jk e I u;refine enter_call (Nm (call w B A M U H o pm cd doc a vs N G Y m (fd_plain b) j k J E L h) λr O x=>?_);obtain⟨rfl,h2,h3,h4⟩:=x;exact⟨.inl ⟨.bool true,.bool true,[],rfl,λ_=>rfl,.bool true,Jj l _,λ_=>⟨VS.nil,λ_ hm=>(nomatch hm)⟩⟩,h2,h3,h4⟩
end Att
namespace L2
open PySem PySem.Spec PyProof.Rows
theorem qA:∀{vs:R6}{A:T6},NK vs A->av (A.map V.int) vs
 |_,_,.nil=>.nil
 |_,_,.cons n t h=>.cons ⟨t,rfl⟩ (qA h)
noncomputable def i5(H:Hp):Prop:=∀b,H b=none\/∃o A,H b=some (.frz o (.L A))
def ID {K:Qb}(KX:K.In A.heap)(Q:A.heap.Ns ME mg)(B:A.heap.Ns builtinsNs mb)(hbb:∀x:Str,x ≠ "__name__" -> mb x=MF x)(U:A.heap.NoLimit)(hg:A.gens=#[])(ha:A.heap.get? a=some {cls:=.type "list",data:=.seq vs.toArray})(hi:NK vs ns)(hl:ns.length<=sizeLine)(hr:cf k NL)(F:∀E:MC,K.In E->E.Ns ME mg->cX P w K mg E CX k fa fd [x] sp)(M:∀(s:Shared) (u:Value),BindsTo s fd ⟨[u],[]⟩ [(x,u)])(hsp:∀H:Hp,i5 H->bg K H a (ns.map V.int)->sp [.ref a] H (λv _=>v=.bl true) λ_ _ _=>False)(hCX:∀H e G,CX [] H A (λ_ _ _=>False) e G->False):
  Nl (ML P w) NL (.call (.ref fa) ⟨[.ref a],[]⟩) (λr G=>r=.ok (.ret (.bool true))/\OldK A.heap G.heap/\G.os=A.os/\MJ G.gens) A:=by
 have rv:=qA hi;have Y:=hi.length
 -- from an N heap in which j but p I may be c
 have L:∀H:Hp,i5 H->bg K H a (ns.map V.int)->cI P w H A.heap->(∀b,H b≠none->b=a)->(H a≠none->K.lookup a=none) ->
   Nl (ML P w) NL (.call (.ref fa) ⟨[.ref a],[]⟩) (λr G=>r=.ok (.ret (.bool true))/\OldK A.heap G.heap/\G.os=A.os/\MJ G.gens) A:=by
  intro H hO hS l hA hK;have cy:∀{b:Addr}{o:Obj},A.heap.get? b=some o->H b=none->(qS A.heap H).get? b=some o:=λe n=>IM e n;have noA:∀{b:Addr}{o:Obj}{g:Array DictEntry}{f:Nat},A.heap.get? b=some o->o.data=.dict g f->H b=none:=λ{b o g f} e d=>by
   cases q:H b with
   |none=>rfl
   |some u=>
    have e':b=a:=hA b (by rw[q];simp);subst e';rw[ha]at e;cases e;have d':Data.seq vs.toArray _=Data.dict g f:=d;cases d'
  have J:∀{b:Addr}{m:O3},A.heap.Ns b m->(qS A.heap H).Ns b m:=λ{b m} ⟨o,g,f,e,d,r⟩=>⟨o,g,f,cy e (noA e d),d,r⟩;have t:K.In (qS A.heap H):=λb o e=>cy (KX b o e) (by
   cases q:H b with
   |none=>rfl
   |some u=>
    have e':b=a:=hA b (by rw[q];simp);subst e';rw[hK (by rw[q];simp)]at e;cases e)
  have hM:Mod K mg (qS A.heap H):=⟨t,J Q,⟨mb,J B,hbb⟩,let⟨mc,h1,h2⟩:=U;⟨mc,J h1,h2⟩⟩;have e0:eV P w K mg (qS A.heap H) NL [] A H:=⟨rfl,hM,λb o e=>Hq e,VZ (Js _ _),trivial,λb B=>OD (show b∈([]:S6)from B) (by simp),l,.of_eq hg⟩;refine Nm ((F _ t (J Q)).run NL [] A H ⟨[.ref a],[]⟩ [.ref a] [.ref a] _ _ hr e0 (M A (.ref a)) (.cons rfl .nil) (hsp H hO hS)) λr G h=>?_;cases r with
  |error e=>exact(hCX H e G h).elim
  |ok fl=>
   cases fl with
   |next=>exact False.elim h
   |brk=>exact False.elim h
   |cont=>exact False.elim h
   |ret u=>
    obtain⟨v,H',os,i,un,y,r',q⟩:=h;have q':v=.bl true:=q;subst q';obtain rfl:u=Value.bool true:=r';refine⟨rfl,OldK.of_keep λb o e=>?_,os,i⟩;cases q:H b with
    |none=>exact un.keep b o e q (by intro z;exact OD (show b∈([]:S6)from z) (by simp)) (by simp)
    |some u=>
     rcases hO b with z|⟨ob,xs,z⟩
     .rw[q]at z;cases z
     .have z2:=un.frzs b ob _ z;obtain⟨e1,_⟩:=l b _ z;obtain⟨e2,_⟩:=y b _ z2;rw[e]at e1;cases e1;exact e2
 cases hk:K.lookup a with
 |some o=>
  -- p I is one of p O own objects
  have e:=KX a o hk;rw[ha]at e;cases e;refine L (λ_=>none) (λ_=>.inl rfl) (.inr ⟨_,vs.toArray,_,hk,rfl,rfl,rfl,by rw[QH,Y];exact hl,by simpa using rv⟩) (λb u z=>by have z':(none:Option HO)=some u:=z;cases z') (λb z=>OD rfl z) λz=>OD rfl z
 |none=>
  refine L (λb=>if b=a then some (.frz {cls:=.type "list",data:=.seq vs.toArray} (.L (ns.map V.int)))else none) (λb=>?_) (.inl (.inr ⟨{cls:=.type "list",data:=.seq vs.toArray},OB rfl⟩)) (λb u z=>?_) (λb z=>?_) λ_=>hk
  .by_cases B:b=a
   .exact .inr ⟨_,_,OB B⟩
   .exact .inl (OC B)
  .by_cases B:b=a
   .have z':=(OB B).symm.trans z;cases z';subst B;exact⟨ha,by rw[Qi];exact hl,vs,_,rv,ha⟩
   .have z':=(OC B).symm.trans z;cases z'
  .by_cases B:b=a
   .exact B
   .exact OD (OC B) z
def cL {l:PySem.W.OpenLaw}{K:Mx->Qb}{CX:Mz->eB}{sp:Mz->Sp}(m:l.most=some n)(O:n<=sizeLine)(Q:d.params.defaults=[])(b:cf k NL)(i:∀(w:Mz) (h:MC),y w h->(K w.params).In h)(F:∀(w:Mz) (I:O3) (M:Addr) (h:MC),(K w.params).In h->h.Ns ME I->I d.name=some (.ref M) ->
   ∃U:Nk,(∀(s:Shared) (u:Value),BindsTo s U ⟨[u],[]⟩ [(x,u)]) /\
    ∀A:MC,(K w.params).In A->A.Ns ME I->cX l.prog w (K w.params) I A (CX w) k M U [x] (sp w))(j:∀(w:Mz) (H:Hp) (a:Addr) (N:T6),N.length<=n->i5 H->bg (K w.params) H a (N.map V.int)->sp w [.ref a] H (λv _=>v=.bl true) λ_ _ _=>False)(z:∀(w:Mz) (H:Hp) (s:Shared) (e:Value) (p:Shared),CX w [] H s (λ_ _ _=>False) e p->False):
  Ub q loose XP y l.row.toRowW d [] (λf vs=>PySem.call f vs):=by
 refine Att.du m Q λw g J I mb M o pm cd doc a vs N G Y ho hd hcd c L E B hg=>?_;have t:=i w _ Y;obtain⟨U,hb,hF⟩:=F w I M _ t G.T.g c;exact ID t G.T.g G.T.b G.T.builtins G.T.nolimit hg L E (Qx B O) b hF hb (λH hO hS=>j w H a N B hO hS) λH e p=>z w H J e p
abbrev eC:eB:=λ_ _ _ _ _ _=>False
abbrev E0:XK:=λ_ _ _=>False
def Dt:nk eC X E0:=λ_ _ _ _ _ _ _ h=>h.elim
structure fu(K:Qb)(x qual:Str)(st:Stmt)(f:Addr)(fd:Nk):Prop where
 ex:∃(oc:Value) (od:R5) (kV doc pm:Value) (an:R5) (cdv ct:Value) (osl:Array P6),
  fd=WQ x qual (wG st) (xH st) (yk st) .none kV doc pm an cdv ct/\K.lookup f=some ⟨oc,od,.func fd,osl⟩/\Vz K cdv qual=true
 kp:WX K (.ref f)=true
section
variable{P:My}{w:Mz}{K:Qb}{mg:O3}{base:MC}
def fu.ok {st:Stmt}(F:fu K x I st f O)(S:cQ N ps (yk st))(len:∀vs H Q E,sp vs H Q E->vs.length=ps.length)(J:∀(G:Value) (A:MG) (B:U0) (s:Shared) (H:Hp) (vs:U8) (Q:VK) (E:XK),cf k (A.deeper (Nr I (yk st) s.heap.objs.size f G))->sp vs H Q E ->
   ∃t,cJ (fk eC P w K mg base N I (yk st) f G A B s H E).nox (xH st) t/\t {nx:=λ_ U=>Q .N U,rt:=Q} (start N vs) H):cX P w K mg base eC (k+1) f O ps sp:=by
 obtain⟨z,o,kV,doc,pm,p,G,d,Y,rfl,j,L⟩:=F.ex;refine C8 j L S len λA B s H vs Q E u M=>?_;obtain⟨t,h,q⟩:=J G A B s H vs Q E u M;exact⟨t,h.nox,q⟩
def fu.binds {st:Stmt}(F:fu K x B st f I)(h:∀(kV doc pm:Value) (E:R5) (A G:Value) (H:R6),H.length=ps.length->bindArgs (WQ x B (wG st) (xH st) (yk st) .none kV doc pm E A G) ⟨H,[]⟩=pure (ps.zip H)):Binds K I ps []:=by
 obtain⟨M,N,kV,doc,pm,E,A,G,J,rfl,O,L⟩:=F.ex;exact .all (h kV doc pm E A G)
def EZ {st:Stmt}{kV:Value}(l:K.lookup f=some ⟨I,J,.func (WQ x A (wG st) (xH st) (yk st) .none kV doc pm G B H),E⟩)(c:Vz K B A=true)(k:WX K (.ref f)=true):fu K x A st f (WQ x A (wG st) (xH st) (yk st) .none kV doc pm G B H):=⟨⟨I,J,kV,doc,pm,G,B,H,E,rfl,l,c⟩,k⟩
end
def fj {B:Prop}(h:B):if false=true then A else B:=by
 rw[OC QU];exact h
def fi {B:Prop}(h:A):if true=true then A else B:=by
 rw[OB rfl];exact h
noncomputable def vT(env:Env):List (Str×No)->List (Str×Addr)->List (Str×Addr)
 |[],A=>A
 |(n,k)::r,A=>if k == .free then vT env r ((n,(env.cells.lookup n).getD 0)::A)else vT env r A
theorem v7 (f:Str×No->List (Str×Addr)->Sem (ForInStep (List (Str×Addr))))(G:∀n k B,f (n,k) B=if k == .free then(do let a <-cellOf env n;pure (.yield ((n,a)::B)))else pure (.yield B)):
  ∀(names:List (Str×No)) (acc:List (Str×Addr)),(∀y∈names,y.2=.free->∃c,env.cells.lookup y.1=some c)->forIn names acc f=pure (vT env names acc)
 |[],acc,_=>by rw[List.forIn_nil];rfl
 |(n,k)::r,acc,h=>by
  have H:=v7 f G r;rw[List.forIn_cons,G];unfold vT;cases I:k==NameKind.free with
  |true=>
   obtain⟨c,J⟩:=h (n,k) QT (by simpa using I);have A:env.cells.lookup n=some c:=J;have L:cellOf env n=pure c:=by unfold cellOf;rw[A]
   simp only[if_true,L,A,Ww,pure_bind];exact H _ λy E=>h y (Qo _ E)
  |false=>
   simp only[QG,if_false,pure_bind];exact H _ λy E=>h y (Qo _ E)
def jV (h:∀y∈A.names,y.2=.free->∃c,env.cells.lookup y.1=some c):closureFor A env=pure (vT env A.names []):=by
 unfold closureFor;simp only[];rw[v7 (env:=env) _ (λn k E=>by cases B:k==NameKind.free<;>simp[B]) A.names [] h];rfl
theorem vp:∀{names:List (Str×No)}{acc:List (Str×Addr)},(∀z∈names,z.2=.free->∃c,env.cells.lookup z.1=some c)->(vT env names acc).lookup y=some c ->
  acc.lookup y=some c\/((y,NameKind.free)∈names/\env.cells.lookup y=some c)
 |[],acc,_,e=>.inl e
 |(n,k)::r,acc,h,e=>by
  unfold vT at e;have L:∀z∈r,z.2=.free->∃c,env.cells.lookup z.1=some c:=λz M=>h z (Qo _ M);cases B:k==NameKind.free with
  |true=>
   have E:k=.free:=by simpa using B
   subst E;rw[B,OB rfl]at e;rcases vp L e with q|⟨G,H⟩
   .rw[Q5]at q;cases I:y==n with
    |true=>
     rw[I]at q;have:y=n:=by simpa using I
     subst this;obtain⟨N,J⟩:=h (y,.free) QT rfl;have A:env.cells.lookup y=some N:=J;rw[A]at q;refine .inr ⟨QT,?_⟩;rw[A];exact q
    |false=>rw[I]at q;exact .inl q
   .exact .inr ⟨Qo _ G,H⟩
  |false=>
   rw[B,OC (by simp)]at e;rcases vp L e with q|⟨G,H⟩
   .exact .inl q
   .exact .inr ⟨Qo _ G,H⟩
theorem kX:∀{names:List (Str×No)}{acc:List (Str×Addr)},((y,NameKind.free)∈names\/(acc.lookup y).isSome=true)->((vT env names acc).lookup y).isSome=true
 |[],acc,h=>by
  rcases h with h|h
  .cases h
  .exact h
 |(n,k)::r,acc,h=>by
  unfold vT;cases A:k==NameKind.free with
  |true=>
   rw[OB rfl];refine kX ?_;rcases h with h|h
   .rcases Qn.mp h with e|e
    .cases e;exact .inr (by rw[Q5];simp)
    .exact .inl e
   .refine .inr ?_;rw[Q5];split
    .rfl
    .exact h
  |false=>
   rw[OC (by simp)];refine kX ?_;rcases h with h|h
   .rcases Qn.mp h with e|e
    .cases e;cases A
    .exact .inl e
   .exact .inr h
theorem mY:∀{names:List (Str×No)}{h:MC}{acc:List (Str×Addr)},(Nt h.objs.size names acc).lookup y=some c ->
  acc.lookup y=some c\/(h.objs.size<=c/\(NM h names).IsCell c none/\(y,NameKind.cell)∈names)
 |[],h,acc,e=>.inl e
 |(n,k)::r,h,acc,e=>by
  unfold Nt at e;cases A:k==NameKind.cell with
  |true=>
   have E:k=.cell:=by simpa using A
   subst E;rw[A,OB rfl]at e;have M:=mY (y:=y) (c:=c) (names:=r) (h:=h.push {cls:=.type "cell",data:=.cell none}) (acc:=(n,h.objs.size)::acc);rw[Uf]at M;have B:NM h ((n,NameKind.cell)::r)=NM (h.push {cls:=.type "cell",data:=.cell none}) r:=by
    exact OB A
   rcases M e with q|⟨G,H,I⟩
   .rw[Q5]at q;cases J:y==n with
    |true=>
     rw[J]at q;cases q;have L:y=n:=by simpa using J
     subst L;refine .inr ⟨Qh _,?_,QT⟩;rw[B];exact⟨_,NN _ _ _ _ (QK _ rfl),rfl⟩
    |false=>rw[J]at q;exact .inl q
   .exact .inr ⟨Qx (Vo _) G,by rw[B];exact H,Qo _ I⟩
  |false=>
   rw[A,OC (by simp)]at e;have B:NM h ((n,k)::r)=NM h r:=by
    show(if(k==NameKind.cell)=true then _ else _)=_;rw[A,OC (by simp)]
   rcases mY e with q|⟨G,H,I⟩
   .exact .inl q
   .exact .inr ⟨G,by rw[B];exact H,Qo _ I⟩
theorem mX {lo:Nat}:∀{names:List (Str×No)}{n:Nat}{acc:List (Str×Addr)},((y,NameKind.cell)∈names\/∀c,acc.lookup y=some c->lo<=c)->lo<=n->(Nt n names acc).lookup y=some c->lo<=c
 |[],n,acc,h,_,e=>by
  rcases h with h|h
  .cases h
  .exact h c e
 |(m,k)::r,n,acc,h,B,e=>by
  unfold Nt at e;cases E:k==NameKind.cell with
  |true=>
   rw[E,OB rfl]at e;refine mX ?_ (Qx B (Vo _)) e;by_cases G:y=m
   .subst G;refine .inr λc A=>?_;rw[Q5,beq_self_eq_true]at A;cases A;exact B
   .rcases h with h|h
    .rcases Qn.mp h with z|z
     .cases z;exact OD rfl G
     .exact .inl z
    .refine .inr λc A=>?_;rw[Q5]at A;have:(y==m)=false:=by simpa using G
     rw[this]at A;exact h c A
  |false=>
   rw[E,OC (by simp)]at e;refine mX ?_ B e;rcases h with h|h
   .rcases Qn.mp h with z|z
    .cases z;cases E
    .exact .inl z
   .exact .inr h
theorem nj:∀{names:List (Str×No)}{n:Nat}{acc:List (Str×Addr)},(∀y z c,acc.lookup y=some c->acc.lookup z=some c->y=z)->(∀y c,acc.lookup y=some c->c<n) ->
  ∀y z c,(Nt n names acc).lookup y=some c->(Nt n names acc).lookup z=some c->y=z
 |[],n,acc,E,_=>E
 |(m,k)::r,n,acc,E,hl=>by
  unfold Nt;cases I:k==NameKind.cell with
  |true=>
   rw[OB rfl];refine nj (λy z c A B=>?_) λy c e=>?_
   .rw[Q5]at A B;cases G:y==m<;>cases H:z==m<;>rw[G]at A<;>rw[H]at B
    .exact E y z c A B
    .cases B;exact OD (hl y _ A) (WA _)
    .cases A;exact OD (hl z _ B) (WA _)
    .exact (by simpa using G:y=m).trans (by simpa using H:z=m).symm
   .rw[Q5]at e;cases G:y==m<;>rw[G]at e
    .exact WK (hl y c e)
    .cases e;exact Wy _
  |false=>
   rw[OC (by simp)];exact nj E hl
def KY (O:Q {scope:=B,locals:=s.heap.objs.size,globals:=globals,cells:=Nt (s.heap.objs.size+1) B.names cl,qual:=H,func:=none,code:=G.code,frame:=G.frame,builtins:=G.builtins}
   {s with heap:=NM (s.heap.push {cls:=.type "dict",data:=.dict #[]}) B.names}):
  MK M A (NO B globals cl [] H none .none (some G)) Q E s:=by
 simp only[NO,Option.isSome_some,if_true];refine MX (wpAny_alloc ?_);refine MX (wpAny_layCells _ (λN I J=>by cases L:I==NameKind.cell<;>simp[L]) _ _ _ _ ?_);rw[show({s with heap:=s.heap.push {cls:=.type "dict",data:=.dict #[]} }:Shared).heap.objs.size=s.heap.objs.size+1 from Uf ..];simp only[List.forIn_nil];exact MX (M9 (M9 O))
def yx:(NP A env).names.lookup y=(A.names.lookup y).map λk=>if(k==NameKind.free&&env.scope.kind == .function&&env.kindOf y==some .cell)then NameKind.cell else k:=by
 have all:∀l:List (Str×No),(l.map λ(n,k)=>if(k==NameKind.free&&env.scope.kind == .function&&env.kindOf n==some .cell)then(n,NameKind.cell)else(n,k)).lookup y=(l.lookup y).map λk=>if(k==NameKind.free&&env.scope.kind == .function&&env.kindOf y==some .cell)then NameKind.cell else k:=by
  intro l
  induction l with
  |nil=>rfl
  |cons p r G=>
   obtain⟨n,k⟩:=p;rw[QJ,Q5];by_cases B:(k==NameKind.free&&env.scope.kind == .function&&env.kindOf n==some .cell)=true
   .simp only[B,if_true,Q5];cases E:y==n with
    |true=>
     have:y=n:=by simpa using E
     subst this;simp only[QR,B,if_true]
    |false=>exact G
   .simp only[OC B,Q5];cases E:y==n with
    |true=>
     have:y=n:=by simpa using E
     subst this;simp only[QR,OC B]
    |false=>exact G
 exact all A.names
noncomputable def lT(x:Str):Str:=⟨x.cps.push 0⟩
noncomputable def yE(N xs:T8):T8:=(N.map λy=>if y∈xs then lT y else y)++xs
def JQ(N xs:T8):(yE N xs).length=N.length+xs.length:=by simp[yE]
def vU(N xs:T8)(j:Nat):(yE N xs)[N.length+j]?=xs[j]?:=by
 unfold yE;rw[Qe (by simp)];simp
def JP (A:i<N.length)(h:(yE N xs)[i]?=some y):(∃x∈xs,y=lT x)\/(N[i]?=some y/\y∉xs):=by
 unfold yE at h;rw[Qf (by simpa using A),Qq]at h;obtain⟨z,B⟩:∃z,N[i]?=some z:=⟨N[i],by simp[A]⟩;rw[B]at h;by_cases e:z∈xs
 .simp only[QR,OB e]at h;exact .inl ⟨z,e,(Option.some.inj h).symm⟩
 .simp only[QR,OC e]at h;have E:z=y:=Option.some.inj h;subst E;exact .inr ⟨B,e⟩
structure bt(X:Cx)(scope:Mw)(xs:T8)(Xc:Cx):Prop where
 prog:Xc.prog=X.prog
 w:Xc.w=X.w
 K:Xc.K=X.K
 mg:Xc.mg=X.mg
 base:Xc.base=X.base
 A:Xc.A=X.A
 N:Xc.N=yE X.N xs
 sc:Xc.env.scope=NP scope X.env
 calm:Xc.calm=true
 stack:Xc.stack=X.stack
noncomputable def fN(X:Cx)(B:S8)(t:TT):Prop:=
 ∀(A:O6) (s:Shared) (E:St) (H:Hp) (Q:Bool->Hp->Prop),Inv X A E H s->t E H Q ->
  MK (ML X.prog X.w) X.A (forIn B true λc r=>if r=true then do let ok <-isTrue c X.env (eval c X.env);pure (ForInStep.yield ok)else pure (ForInStep.yield r)) (TP X A E Q) X.xe s
def vq:fN X [] (λ_ H Q=>Q true H):=λ_ _ _ H _ I h=>wpAny_tests_nil ⟨H,I,h⟩
def qZ (h:PT X c t):fN X [c] t:=λA s B H Q I q=>wpAny_tests_one (h A s B H Q I q)
structure bM(X:Cx)(scope:Mw)(xs:T8):Prop where
 kind:scope.kind=.function
 own:∀x∈xs,scope.names.lookup x=some .local\/scope.names.lookup x=some .cell
 locs:∀y∈scope.names,y.2=.local->scope.names.lookup y.1=some .local
 free:∀y∈scope.names,y.2=.free->X.env.scope.names.lookup y.1=some .cell\/X.env.scope.names.lookup y.1=some .free
 alone:∀y∈X.N,y∉xs->scope.names.lookup y≠some .local/\scope.names.lookup y≠some .cell
 one:∀y∈scope.names,y.2=.cell->scope.names.lookup y.1≠some .free
 nd:(yE X.N xs).Nodup
 dumN:∀x∈xs,scope.names.lookup (lT x)=none
def KQ{prog:My}{w:Mz}{A:MG}{R:Result->Shared->Prop}{s:Shared}{elt B iter:Expr}{j:S8}{E:Mw}{pos:Pos}{it acc:Value}{env:Env}(I:Nat->Shared->Prop)
  (turn:∀n s,I n s->MK (ML prog w) A (M7 it) (λr G=>match r with
   |none=>R (.ok .next) G
   |some v=>MK (ML prog w) A (M8 B it v) (λ_ H=>MK (ML prog w) A (assign B env v) (λ_ N=>
     MK (ML prog w) A (forIn j true λc r=>if r=true then do let ok <-isTrue c env (eval c env);pure (ForInStep.yield ok)else pure (ForInStep.yield r)) (λok J=>
      if ok=true then MK (ML prog w) A (eval elt env) (λx O=>
       MK (ML prog w) A (call (.builtin "list.append") [acc,x]) (λ_ Q=>∃m,m<n/\I m Q) (NQ (ML prog w) A env λe L=>R (.error e) L) O) (NQ (ML prog w) A env λe L=>R (.error e) L) J
      else ∃m,m<n/\I m J) (NQ (ML prog w) A env λe L=>R (.error e) L) N) (NQ (ML prog w) A env λe L=>R (.error e) L) H) (NQ (ML prog w) A env λe L=>R (.error e) L) G) (NQ (ML prog w) A env λe L=>R (.error e) L) s)
  (n:Nat) (h:I n s):Nl (ML prog w) A (.compLoop (.ListComp elt [⟨B,iter,j,0⟩] E pos) 0 it acc env) R s:=by
 refine codeAny_loop rfl I (λn s o=>?_) n h;show MK _ A ((compTurn (.ListComp elt [⟨B,iter,j,0⟩] E pos) 0 it acc env).onRaise (λx=>do noteFrame x env;theTreesLotGoes x)) _ _ s;refine wpAny_noted ?_;rw[compTurn_list];refine MX (MZ (MX (MO (turn n s o) (λr G U=>?_) λ_ _ M=>M)));cases r with
 |none=>exact M9 U
 |some v=>
  refine MX (MO U (λ_ H k=>?_) λ_ _ M=>M);refine MX (MO k (λ_ N q=>MX (MO q (λok J Y=>?_) λ_ _ M=>M)) λ_ _ M=>M);cases ok with
  |false=>exact M9 ⟨rfl,Y⟩
  |true=>
   exact MX (MX (MO Y (λx O u=>MX (MO u (λ_ Q z=>M9 (M9 ⟨rfl,z⟩)) λ_ _ M=>M)) λ_ _ M=>M))
noncomputable def jl(un:V->Hp->U8->Prop)(L:TI)(tc:TT)(te:TE):TE:=λE H Q=>L E H λJ H1=>∀D,H1 D=none->∃W:Nat->Nat->U8->Hp->Prop,(∃m,W 0 m [] (aL H1 D (.L [])))/\∀i m A H,W i m A H ->
 (J.stop i H/\Q (.ref D) H)\/(J.go i H/\∀v G,J.yld i H v G->∃I,un v G I/\tc (E++I.map some) G λb H2=>if b=true then te (E++I.map some) H2 λy H3=>H3 D=some (.L A)/\A.length<sizeLine/\∃B,B<m/\W (i+1) B (A++[y]) (aL H3 D (.L (A++[y])))
  else ∃B,B<m/\W (i+1) B A H2)
def jW {un:V->Hp->U8->Prop}(B:bM X A xs)(hc:X.calm=true)(hpg:∀E,bt X A xs E->(∀x∈xs,Loc E.env.scope x/\(E.fn x=true\/E.env.scope.names.lookup x=some .local))->PG E tg g)(hun:∀v H vs os,os.length=xs.length->un v H vs->vs.length=xs.length/\g v (σ++os) H λσ2 H2=>σ2=σ++vs.map some/\H2=H)(hbody:∀E,bt X A xs E->fN E ifs tc/\PE E elt te)(I:Inv X pins σ H s)(T:dh X.prog X.w X.K tg J fp it tn)(st:tn 0 s.heap)(O:∀b∈fp,jx X pins H b)(W:Nat->Nat->U8->Hp->Prop)(m0:Nat)(w0:W 0 m0 [] H)(turn:∀i m ys H,W i m ys H->(J.stop i H/\∀s' m' C,Inv X pins σ H s'->s'.heap.Ns C m'->s.heap.objs.size<=C->H C=none->compPost (ML X.prog X.w) X.A X.xe use Q (.ref D) C (.ok .next) s') \/
   (J.go i H/\∀v w,J.yld i H v w->∃vs,un v w vs/\tc (σ++vs.map some) w λb H2=>if b=true then te (σ++vs.map some) H2 λy H3=>H3 D=some (.L ys)/\ys.length<sizeLine/\∃m',m'<m/\W (i+1) m' (ys++[y]) (aL H3 D (.L (ys++[y])))
    else ∃m',m'<m/\W (i+1) m' ys H2)):
  MK (ML X.prog X.w) X.A (NO A X.env.globals (vT X.env A.names []) [] X.env.qual none .none (some X.env)) (λM s₄=>
   Nl (ML X.prog X.w) X.A (.compStart (.ListComp elt [⟨tg,iter,ifs,0⟩] A pos) 0 (.ref it) (.ref D) {M with scope:=NP A X.env}) (compPost (ML X.prog X.w) X.A X.xe use Q (.ref D) M.locals) s₄) X.xe s:=by
 refine KY ?_;have hcl:∀y∈A.names,y.2=.free->∃c,X.env.cells.lookup y.1=some c:=λy hy hf=>by
  rcases B.free y hy hf with q|q
  .exact I.ok.has y.1 (.inl q)
  .exact I.ok.has y.1 (.inr q)
 -- the block's own parts
 generalize hC:s.heap.objs.size=C;generalize hcs:Nt (C+1) A.names (vT X.env A.names [])=cs;generalize hh4:NM (s.heap.push {cls:=.type "dict",data:=.dict #[]}) A.names=h4;have szP:(s.heap.push {cls:=.type "dict",data:=.dict #[]}).objs.size=C+1:=by rw[Uf,hC]
 have L:∀b o,s.heap.get? b=some o->h4.get? b=some o:=λb o e=>hh4▸NN _ _ _ _ (Qk _ e);have nsC:h4.Ns C (λ_=>none):=by
  have q:=(Heap.Ns.new s.heap (.type "dict")).keeps (NN A.names (s.heap.push {cls:=.type "dict",data:=.dict #[]}));rw[hC,hh4]at q;exact q
 -- a cell of the block: one of its own,or one of those around
 have f:∀y c,cs.lookup y=some c->((y,NameKind.free)∈A.names/\X.env.cells.lookup y=some c)\/(C+1<=c/\h4.IsCell c none/\(y,NameKind.cell)∈A.names):=λy c e=>by
  have q:=mY (y:=y) (c:=c) (names:=A.names) (h:=s.heap.push {cls:=.type "dict",data:=.dict #[]}) (acc:=vT X.env A.names []);rw[szP,hcs,hh4]at q;rcases q e with q|q
  .rcases vp hcl q with z|z
   .cases z
   .exact .inl z
  .exact .inr q
 have oldC:∀y c,X.env.cells.lookup y=some c->c<C:=λy c e=>by
  obtain⟨v,q⟩:=I.cell y c e;rw[<-hC];exact q.lt
 have fpC:∀b∈fp,b<C:=λb G=>by
  obtain⟨o,e,_⟩:=T.obj _ _ st b G;rw[<-hC];exact Qr e
 let M:Env:={scope:=NP A X.env,locals:=C,globals:=X.env.globals,cells:=cs,qual:=X.env.qual,func:=none,code:=X.env.code,frame:=X.env.frame,builtins:=X.env.builtins}
 let RR:Result->Shared->Prop:=compPost (ML X.prog X.w) X.A X.xe use Q (.ref D) C
 let E:Cx:={X with N:=yE X.N xs,s₀:=s,H₀:=H,env:=M,outer:=X.stack,stack:=X.stack,ex:=fp,fn:=λy=>decide (A.names.lookup y=some .cell),calm:=true,pn:=[],xe:=NQ (ML X.prog X.w) X.A M λe s'=>RR (.error e) s' }
 have hXc:bt X A xs E:=⟨rfl,rfl,rfl,rfl,rfl,rfl,rfl,rfl,rfl,rfl⟩;obtain⟨hT,hE⟩:=hbody E hXc;have ok:E.Ok:=by
  refine⟨I.ok.mod,B.kind,I.ok.glob,I.ok.blt,VZ hC,?_,λy hy=>?_,λy c hf e=>?_,λ_=>I.ok.hd hc,I.ok.frames,.inl rfl,λb G=>⟨QN (fpC b G),λy c e=>?_⟩,I.bs,Qx I.ok.bsz I.sz,λb o e G=>?_,λb G hf=>?_,I.stack,I.stkFree⟩
  .show ∀y z c,cs.lookup y=some c->cs.lookup z=some c->y=z;rw[<-hcs];refine nj (λy z c e1 e2=>?_) λy c e=>?_
   .rcases vp hcl e1 with q|q
    .cases q
    .rcases vp hcl e2 with q'|q'
     .cases q'
     .exact I.ok.inj y z c q.2 q'.2
   .rcases vp hcl e with q|q
    .cases q
    .exact WK (oldC y c q.2)
  .have d:(NP A X.env).names.lookup y=some .cell\/(NP A X.env).names.lookup y=some .free:=hy;rw[yx]at d;show ∃c,cs.lookup y=some c;rw[<-hcs];refine Wm.mp (Vr _ _ _ ?_);cases hk:A.names.lookup y with
   |none=>rw[hk]at d;rcases d with z|z<;>cases z
   |some k=>
    rw[hk]at d;have kk:k=.cell\/k=.free:=by
     simp only[QR]at d;by_cases Y:(k==NameKind.free&&X.env.scope.kind == .function&&X.env.kindOf y==some .cell)=true
     .refine .inr ?_;have:=(Wh.mp (Wh.mp Y).1).1;simpa using this
     .rw[OC Y]at d;rcases d with z|z
      .exact .inl (Option.some.inj z)
      .exact .inr (Option.some.inj z)
    rcases kk with rfl|rfl
    .exact .inl rfl
    .exact .inr (kX (.inl (PySem.mem_of_lookup hk)))
  .show s.heap.objs.size<=c;rw[hC];have e':cs.lookup y=some c:=e;rw[<-hcs]at e';exact Qx (Vo _) (mX (lo:=C+1) (.inl (PySem.mem_of_lookup (OG hf))) (Qh _) e')
  .show c≠b;rintro rfl;rcases f y c e with⟨_,z⟩|⟨z,_,_⟩
   .exact (O c G).2.2.2.2.1 y c z rfl
   .exact OD (Qp (fpC c G) (Qx (Vo _) z)) (WA _)
  .rcases (O b G).2.2.2.1 with z|z
   .exact I.ok.noex b o e z
   .exact OD (Qp (Qr (I.ok.bs b o e).1) z) (WA _)
  .rcases Qn.mp (I.stkSub b hf)with z|z
   .exact (O b G).2.1 z
   .exact (O b G).2.2.1 z
 have frC:H C=none:=I.hok.fresh (VZ hC);have frN:∀c,C<=c->H c=none:=λc hc'=>I.hok.fresh (by rw[hC];exact hc');have hσ:σ.length=X.N.length:=I.len;have I4:Inv E [] (σ++xs.map λ_=>none) H {s with heap:=h4}:=by
  refine⟨ok,rfl,I.bare,Un.kept L,⟨_,nsC,λi y v e1 e2 e3=>?_⟩,λy c e=>?_,frC,λy c e=>?_,λp hp=>OD (show p∈([]:O6)from hp) (by simp),I.hok.kept L,?_⟩
  .have hi:i<σ.length:=by
    by_cases hi:i<σ.length
    .exact hi
    .rw[Qe (by lia),Qq]at e2;cases hz:xs[i-σ.length]? with
     |none=>rw[hz]at e2;simp at e2
     |some k=>rw[hz]at e2;simp at e2
   rw[Qf hi]at e2;have vis:A.names.lookup y=some .local\/A.names.lookup y=some .cell\/A.names.lookup y=some .free:=by
    have j:ij (NP A X.env) y:=e3;unfold ij at j;rw[yx]at j;cases hk:A.names.lookup y with
    |none=>rw[hk]at j;rcases j with z|z|z<;>cases z
    |some k=>
     rw[hk]at j;simp only[QR]at j;by_cases Y:(k==NameKind.free&&X.env.scope.kind == .function&&X.env.kindOf y==some .cell)=true
     .have:=(Wh.mp (Wh.mp Y).1).1;exact .inr (.inr (by rw[show k=.free by simpa using this]))
     .rw[OC Y]at j;exact j
   rcases JP (by rw[<-hσ];exact hi) e1 with z|⟨z,zx⟩
   .obtain ⟨x,hx,z⟩:=z;subst z;rw[B.dumN x hx]at vis;rcases vis with q|q|q<;>cases q
   .have U:A.names.lookup y=some .free:=by
     rcases vis with q|q|q
     .exact OD q (B.alone y (Qv z) zx).1
     .exact OD q (B.alone y (Qv z) zx).2
     .exact q
    have kout:=B.free _ (PySem.mem_of_lookup U) rfl;refine aP λzP zk=>?_;obtain⟨m,hn,hl⟩:=I.loc;obtain⟨u,r,l⟩:=hl i y v z e2 (kout.elim (λq=>.inr (.inl q)) λq=>.inr (.inr q));refine zk ?_;refine⟨u,r,?_⟩;rcases l with⟨k,_⟩|⟨_,c,ec,zc⟩
    .have k':X.env.scope.names.lookup y=some .local:=k;rcases kout with q|q<;>rw[k']at q<;>cases q
    .have hsome:∃c',cs.lookup y=some c':=ok.has y (by
      show(NP A X.env).names.lookup y=some .cell\/(NP A X.env).names.lookup y=some .free;rw[yx,U];simp only[QR];split
      .exact .inl rfl
      .exact .inr rfl)
     obtain⟨c',ec'⟩:=hsome;refine .inr ⟨?_,c',ec',?_⟩
     .show (NP A X.env).names.lookup y=some .cell\/(NP A X.env).names.lookup y=some .free;rw[yx,U];simp only[QR];split
      .exact .inl rfl
      .exact .inr rfl
     .rcases f y c' ec' with⟨_,q⟩|⟨_,_,q⟩
      .rw[ec]at q;cases q;exact zc.keeps L
      .exact OD U (B.one (y,.cell) q rfl)
  .rcases f y c e with⟨_,q⟩|⟨_,q,_⟩
   .obtain ⟨v,z⟩:=I.cell y c q;exact⟨v,z.keeps L⟩
   .exact ⟨_,q⟩
  .rcases f y c e with⟨_,q⟩|⟨q,_,_⟩
   .exact I.freeC y c q
   .exact frN c (by lia)
  .show (σ++xs.map λ_=>none).length=(yE X.N xs).length;rw[JQ,Qw,hσ,Qi]
 -- the t
 have hLoc:∀x∈xs,Loc E.env.scope x/\(E.fn x=true\/E.env.scope.names.lookup x=some .local):=λx hx=>by
  constructor
  .show (NP A X.env).names.lookup x=some .local\/(NP A X.env).names.lookup x=some .cell;rw[yx];rcases B.own x hx with q|q<;>rw[q]
   .exact .inl rfl
   .exact .inr rfl
  .rcases B.own x hx with q|q
   .refine .inr ?_;show(NP A X.env).names.lookup x=some .local;rw[yx,q];rfl
   .exact .inl (OF q)
 have hg:PG E tg g:=hpg E hXc hLoc;have fpX:∀{w:Hp},(∀b∈fp,w b=none)->∀b∈fp,jx E [] w b:=λhn b G=>
  ⟨hn b G,QN (fpC b G),λz=>ok.exfs b G z,.inl G,λy c e=>(ok.exf b G).2 y c e,λp hp=>OD (show p∈([]:O6)from hp) (by simp)⟩
 have t:Nl (ML X.prog X.w) X.A (.compLoop (.ListComp elt [⟨tg,iter,ifs,0⟩] A pos) 0 (.ref it) (.ref D) M) RR {s with heap:=h4}:=by
  refine KQ (λn s'=>∃i os ys w,os.length=xs.length/\Inv E [] (σ++os) w s'/\tn i s'.heap/\(∀b∈fp,w b=none)/\W i n ys w) ?_ m0 ⟨0,_,[],H,Qi _,I4,T.keep _ _ _ st λb _ o e=>L b o e,λb G=>(O b G).1,w0⟩;intro n s3 zz;refine aP λzP zj=>?_;obtain⟨i,os,ys,H3,hos,I3,st3,fr3,w3⟩:=zz;refine zj ?_;rcases turn i n ys H3 w3 with⟨stop,fin⟩|⟨go,step⟩
  .refine aU (T.done E rfl rfl rfl rfl i [] s3 (σ++os) H3 E.xe I3 (fpX fr3) st3 stop) λr s4 ⟨hr,I4⟩=>?_;subst hr;obtain⟨m,hn,_⟩:=id I4.loc;refine fin s4 m C ?_ hn (VZ hC) I4.free;exact I.call' (ch:=fp) I4.os I4.base I4.hok I4.bare λb G=>⟨(O b G).2.2.2.1,(O b G).2.1,(O b G).2.2.2.2.1,(O b G).2.2.2.2.2⟩
  .refine aU (T.item E rfl rfl rfl rfl i [] s3 (σ++os) H3 E.xe I3 (fpX fr3) st3 go) λr s4 ⟨u,hr,h4'⟩=>?_;subst hr;refine aU h4' λ_ s5 ⟨v,H5,I5,r5,y5,st5,fr5⟩=>?_;have I5':=I5.pinned (fpX fr5) (T.obj _ _ st5);refine aP λzP zi=>?_;obtain⟨vs,hvs,step5⟩:=step v H5 y5;obtain⟨hvl,hset⟩:=hun v H5 vs os hos hvs;refine zi ?_;refine aU (hg _ s5 (σ++os) H5 v u (λσ2 H2=>σ2=σ++vs.map some/\H2=H5) I5' r5 hset) λ_ s6 ⟨σ6,H6,I6,e6,e6'⟩=>?_;subst e6;subst e6';have back:∀{H7:Hp}{s7:Shared},Inv E ([]++jS fp s5.heap) (σ++vs.map some) H7 s7->tn (i+1) s7.heap/\(∀b∈fp,H7 b=none)/\Inv E [] (σ++vs.map some) H7 s7:=λ{H7 s7} I7=>by
    refine⟨T.keep _ _ _ st5 λb G ob e=>(I7.pin (b,ob) (Qz _ (Qz _ (wE G e)))).1,λb G=>?_,I7.unpinned⟩;obtain⟨ob,e,_⟩:=T.obj _ _ st5 b G;exact(I7.pin (b,ob) (Qz _ (Qz _ (wE G e)))).2.1
   refine aU (hT _ s6 (σ++vs.map some) H6 _ I6 step5) λb s7 ⟨H7,I7,q7⟩=>?_;cases b with
   |false=>
    rw[OC QU]at q7 ⊢;refine aP λzP zh=>?_;obtain⟨m',hm,w7⟩:=q7;obtain⟨t1,t2,t3⟩:=back I7;refine zh ?_;exact⟨m',hm,i+1,_,ys,H7,(by rw[Qi];exact hvl),t3,t1,t2,w7⟩
   |true=>
    rw[OB rfl]at q7 ⊢;refine aU (hE _ s7 (σ++vs.map some) H7 _ I7 q7) λyv s8 ⟨y,H8,I8,r8,hD8,hl8,m',hm,w8⟩=>?_;refine aU (qz (X:=E) _ s8 (σ++vs.map some) H8 (.ref D) [y] (.ref D) [yv] (λ_ H9=>H9=aL H8 D (.L (ys++[y]))) I8 rfl (.cons r8 .nil) ⟨D,ys,y,rfl,rfl,hD8,hl8,rfl⟩) λ_ s9 ⟨_,H9,I9,_,e9⟩=>?_;subst e9;obtain⟨t1,t2,t3⟩:=back I9;exact⟨m',hm,i+1,_,ys++[y],_,(by rw[Qi];exact hvl),t3,t1,t2,w8⟩
 refine codeAny_compStart_list t ?_;exact T.self X.A 0 _ _ _ (T.keep _ _ _ st λb _ o e=>L b o e) t
section
variable{X:Cx}{elt iter tg:Expr}{xs:T8}{y:Str}{g:TG}{un:V->Hp->U8->Prop}{py:Pos}{ifs:S8}{scope:Mw}{pos spos:Pos}{wi:TI}{tc:TT}{te:TE}
def Inv.aside{A:O6}{σ:St}{H:Hp}{s:Shared}{C lo:Addr}{h':MC}(I:Inv X A σ H s)(B:lo<=C)(J:X.env.locals<lo)(E:∀y c,X.env.cells.lookup y=some c->c<lo)(G:∀p∈X.pn++A,p.1<lo)
  (L:H C=none) (M:WE C s.heap h'):Inv X A σ H {s with heap:=h' } :=
 I.turned (it:=C) (t':=s.toks) (λb o N e=>(M.2 b N).trans e) L (Vj (Qp J B)) (.inr (Qx I.ok.above (Qx (Vk J) B)))
  (λy c e=>QN (Qp (E y c e) B)) λp O=>QN (Qp (G p O) B)
def Inv.below (I:Inv X A σ H s):X.env.locals<s.heap.objs.size/\(∀y c,X.env.cells.lookup y=some c->c<s.heap.objs.size)/\∀p∈X.pn++A,p.1<s.heap.objs.size:=
 ⟨I.lt,λy c e=>let⟨_,z⟩:=I.cell y c e;z.lt,λp B=>Qr (I.pin p B).1⟩
def vP(B:bM X scope xs)(ok:X.Ok):closureFor scope X.env=pure (vT X.env scope.names []):=
 jV λy A E=>(B.free y A E).elim (λq=>ok.has y.1 (.inl q)) λq=>ok.has y.1 (.inr q)
structure iP(X:Cx)(scope:Mw)(xs:T8)(tg:Expr)(g:TG)(un:V->Hp->U8->Prop):Prop where
 pg:∀Xc,bt X scope xs Xc->(∀x∈xs,Loc Xc.env.scope x/\(Xc.fn x=true\/Xc.env.scope.names.lookup x=some .local))->PG Xc tg g
 un:∀v H vs os (σ:St),σ.length=X.N.length->os.length=xs.length->un v H vs->vs.length=xs.length/\g v (σ++os) H λσ2 H2=>σ2=σ++vs.map some/\H2=H
noncomputable def lJ(v:V)(_:Hp)(vs:U8):Prop:=vs=[v]
def tE{A:Type}{l:List A}(h:l.length=1):∃a,l=[a]:=by
 cases l with
 |nil=>cases h
 |cons a t=>
  cases t with
  |nil=>exact⟨a,rfl⟩
  |cons b t=>cases h
def tD{A:Type}{l:List A}(h:l.length=2):∃a b,l=[a,b]:=by
 cases l with
 |nil=>cases h
 |cons a t=>
  obtain⟨b,rfl⟩:=tE (Nat.succ.inj h);exact⟨a,b,rfl⟩
def v8 (B:bM X scope [x]):iP X scope [x] (.Name x I) (v5 X.N.length) lJ:=by
 refine⟨λJ c h=>?_,λv H L os M A E G=>?_⟩
 .exact v6 (by rw[c.N];exact B.nd) (by rw[c.N];exact vU X.N [x] 0) (h x (by simp)).1 (h x (by simp)).2
 .cases G;refine⟨rfl,?_,rfl⟩;obtain⟨o,rfl⟩:=tE E;rw[<-A,VE _ _ (Qh _)];simp
noncomputable def iH(K:Qb)(v:V)(H:Hp)(vs:U8):Prop:=∃a,v=.ref a/\bS K H a vs/\vs.length=2
def jB (N:X.calm=true)(B:bM X scope [x,y]):iP X scope [x,y] (.Tuple [.Name x O,.Name y py] k pt) (rK X.K 2 (mZ (v5 X.N.length) (mZ (v5 (X.N.length+1)) rL))) (iH X.K):=by
 refine⟨λE c h=>?_,λv H Q os U A G I=>?_⟩
 .have nd:E.N.Nodup:=by rw[c.N];exact B.nd
  rw[<-c.K];exact ER c.calm (AS (v6 nd (by rw[c.N];exact vU X.N [x,y] 0) (h x (by simp)).1 (h x (by simp)).2) (AS (v6 nd (by rw[c.N];exact vU X.N [x,y] 1) (h y (by simp)).1 (h y (by simp)).2) Hk))
 .obtain ⟨a,J,L,M⟩:=I;obtain⟨u,w,rfl⟩:=tD M;obtain⟨o,p,rfl⟩:=tD G;refine⟨rfl,a,[u,w],J,L,rfl,u,[w],rfl,w,[],rfl,rfl,?_,rfl⟩;rw[<-A,VE _ _ (Qh _),VE _ _ (by lia)];simp
def vt(B:bM X scope xs)(f:X.calm=true)(p:iP X scope xs tg g un)(t:PI X tg iter wi)(E:∀O,bt X scope xs O->fN O ifs tc/\PE O elt te)
  (n:∀v,Nc iter X.env v=pure v:=by intro _;rfl):PE X (.ListComp elt [⟨tg,iter,ifs,0⟩] scope pos) (jl un wi tc te):=by
 intro A s d H Q I h;rw[eval_ListComp];refine NR (use:=none) (cl:=vT X.env scope.names []) rfl n (vP B I.ok) B.kind B.locs ?_;refine aU (t A s d H _ I h) λxv s1 U=>aU U λa N Y=>?_;refine aP λx zk=>?_;obtain⟨it,fp,tn,J,H2,e,c,T,G,f2,q2⟩:=Y;refine zk ?_;subst e;refine ND ?_;have l:=c.lnew (its:=[]) (ys:=[]) (t':=N.toks) .nil (Wi _);refine aP λx zj=>?_;obtain⟨W,⟨m0,w0⟩,L⟩:=q2 N.heap.objs.size (c.hok.fresh (Qh _));have j:∀b∈fp,jx X A (aL H2 N.heap.objs.size (.L [])) b:=λb k=>by
  obtain⟨o,e,_⟩:=T.obj _ _ G b k;exact⟨by rw[zu (QN (Qr e))];exact(f2 b k).1,(f2 b k).2⟩
 obtain⟨b1,b2,b3⟩:=l.below;refine zj ?_;refine jW B f p.pg (λv H vs os U Y=>p.un v H vs os d I.len U Y) E l T (T.keep _ _ _ G λb _ o e=>Qk _ e) j W m0 w0 λi m ys H4 w=>?_;rcases L i m ys H4 w with⟨M,q⟩|r
 .exact .inl ⟨M,λs' m' C I' hn hC u=>⟨m',hn,λh' z=>⟨.ref N.heap.objs.size,H4,I'.aside hC b1 b2 b3 u z,rfl,q⟩⟩⟩
 .exact .inr r
def J9 (B:bM X scope xs)(hc:X.calm=true)(t:iP X scope xs tg g un)(hi:PI X tg iter wi)(E:∀O,bt X scope xs O->fN O ifs tc/\PE O elt te)(hN:X.N.Nodup)(hy:X.N[i]?=some y)(hx:Loc X.env.scope y)(hf:X.fn y=true\/X.env.scope.names.lookup y=some .local)(U:MT (.ListComp elt [⟨tg,iter,ifs,0⟩] scope pos) (some (.Name y py)) spos.line X.env=pure true)(hs:∀v,Nc iter X.env v=pure v:=by intro _;rfl):PS X (.Assign [.Name y py] (.ListComp elt [⟨tg,iter,ifs,0⟩] scope pos) spos) (i4 (jl un wi tc te) (v5 i)):=by
 intro A s n H D I h;rw[exec_Assign_Name_used _ _ _ _ U];refine MX (MZ (MX ?_));show MK _ X.A (do let _ <-comprehension (.ListComp elt [⟨tg,iter,ifs,0⟩] scope pos) scope X.env _ (newList []) false (eval iter X.env) (some (assign (.Name y py) X.env))) _ _ s;refine MX (MO (NR (use:=some (assign (.Name y py) X.env)) (cl:=vT X.env scope.names []) (Q:=λ_ Y=>SP X A D .next Y) rfl hs (vP B I.ok) B.kind B.locs ?_)
  (λ_ Y hq=>M9 (M9 hq)) λ_ _ e=>e)
 refine aU (hi A s n H _ I h) λxv s1 j=>aU j λitv N k=>?_;refine aP λzP zk=>?_;obtain⟨it,fp,tn,J,H2,e,x,T,G,f2,q2⟩:=k;refine zk ?_;subst e;refine ND ?_;have I3:=x.lnew (its:=[]) (ys:=[]) (t':=N.toks) .nil (Wi _);refine aP λzP zj=>?_;obtain⟨W,⟨m0,w0⟩,L⟩:=q2 N.heap.objs.size (x.hok.fresh (Qh _));have u:∀b∈fp,jx X A (aL H2 N.heap.objs.size (.L [])) b:=λb z=>by
  obtain⟨o,e,_⟩:=T.obj _ _ G b z;exact⟨by rw[zu (QN (Qr e))];exact(f2 b z).1,(f2 b z).2⟩
 obtain⟨b1,b2,b3⟩:=I3.below;refine zj ?_;refine jW B hc t.pg (λv H vs os j k=>t.un v H vs os n I.len j k) E I3 T (T.keep _ _ _ G λb _ o e=>Qk _ e) u W m0 w0 λi' m ys H4 w=>?_;rcases L i' m ys H4 w with⟨M,q⟩|r
 .refine .inl ⟨M,λY m' C I' hn p d=>?_⟩;refine wpAny_assign_Name (qp I' hN hy hx (v:=.ref N.heap.objs.size) rfl (λs'' c ⟨a,sb,ha⟩=>?_) hf);have l:C≠a:=by
   rcases ha with rfl|ha
   .exact Vj (Qp b1 p)
   .exact Vj (Qp (b2 _ _ ha) p)
  exact⟨m',hn.sameBut sb l,λh' f=>⟨_,H4,c.aside p b1 b2 b3 d f,q⟩⟩
 .exact .inr r
end
section
variable{X:Cx}
theorem av.at (h:av xs E){i:Nat}(e:E[i]?=some u):∃x,xs[i]?=some x/\RelV x u:=by
 have hl:=h.length;have H:=(Qa.mp e).1;have A:xs[i]?=some xs[i]:=Qj (by lia);obtain⟨I,B,G⟩:=h.get A;rw[e]at B;cases B;exact⟨_,A,G⟩
def JO(bs:List Bool):(QA bs.length).all (λi=>bs.getD i true)=bs.all id:=by
 rw[VC,WF,WF];constructor
 .intro h b E;obtain⟨i,B,e⟩:=VN E;have:=h i (by simpa using B);rw[Qg,Qj B]at this;simpa [e]using this
 .intro h i B;have A:i<bs.length:=by simpa using B
  rw[Qg,Qj A];exact h _ (W6 A)
def KW(k:X.calm=true):bQ X (.builtin "all") (λxs H Q=>∃(p:Addr) (bs:List Bool),xs=[.ref p]/\bg X.K H p (bs.map V.bl)/\Q (.bl (bs.all id)) H):=by
 intro Y s w H xs x Q I r h;obtain⟨p,bs,rfl,z,q⟩:=h;obtain⟨u,rfl,d⟩:=jT r;cases d;obtain⟨B,j,M,hz⟩:=I.list z;have E:=j.length;have c:∃o,s.heap.get? p=some o:=by obtain⟨o,N,_⟩:=M.isList;exact⟨o,N⟩
 obtain⟨o,N⟩:=c;have O:=Qr N;refine call_all_walk (Nb M.isList ?_);refine⟨s.heap.objs.size,_,_,_,_,_,λi=>bs.getD i true,rfl,Walks.list (A:=X.A.in1) (I.ok.hd k) s.heap.objs.size p (QN O) B.toArray,⟨⟨_,QK _ rfl,rfl,rfl⟩,M.isList.at λo e=>Qk _ e⟩,?_,λh' l g=>?_⟩
 .intro i v f t E2 m n;have U:B[i]?=some v:=by simpa using m
  obtain⟨y,G,a⟩:=j.at U;rw[Qq]at G;cases J:bs[i]? with
  |none=>rw[J]at G;cases G
  |some b=>
   rw[J]at G;cases G;have:v=.bool b:=a;subst this;have e:bs.getD i true=b:=by rw[Qg,J];rfl
   have L:t (bs.getD i true) f:=n;rw[e]at L;exact MR L
 .have e:B.toArray.size=bs.length:=by simp at E ⊢;lia
  rw[e,JO];exact⟨.bl (bs.all id),H,I.kept (t':=l) λb o e=>g b o (λJ=>by
   have:b=s.heap.objs.size:=by simpa using J
   exact OD (Qr e) (by rw[this];exact WA _)) (Qk _ e),rfl,q⟩
theorem jm(A:T6):∀n,n<=A.length->preSum (λi=>A.getD i 0) n=(A.take n).sum
 |0,_=>by simp[preSum]
 |n+1,h=>by
  have e:A[n]?=some (A.getD n 0):=by rw[Qg,Qj (by lia)];rfl
  rw[preSum,jm A n (by lia),Wp,e,VB];simp
def KU(z:X.calm=true):bQ X (.builtin "sum") (λxs H Q=>∃(p:Addr) (B:T6),xs=[.ref p]/\bg X.K H p (B.map V.int)/\Q (.int B.sum) H):=by
 intro Y s w H xs x Q I r h;obtain⟨p,B,rfl,d,q⟩:=h;obtain⟨u,rfl,c⟩:=jT r;cases c;obtain⟨E,j,N,hz⟩:=I.list d;have J:=j.length;have l:∃o,s.heap.get? p=some o:=by obtain⟨o,O,_⟩:=N.isList;exact⟨o,O⟩
 obtain⟨o,O⟩:=l;have L:=Qr O;refine call_sum_walkG (Nb N.isList ?_);refine⟨s.heap.objs.size,_,_,_,_,_,λi=>B.getD i 0,rfl,Walks.list (A:=X.A.in1) (I.ok.hd z) s.heap.objs.size p (QN L) E.toArray,⟨⟨_,QK _ rfl,rfl,rfl⟩,N.isList.at λo e=>Qk _ e⟩,?_,?_,λh' g f m=>?_⟩
 .intro b G;have k:s.heap.objs.size<(s.heap.push {cls:=.type "list_iterator",data:=.fields #[.ref p,.int 0 0]}).objs.size:=Qr (QK _ rfl);have:b=s.heap.objs.size\/b=p:=by simpa using G
  rcases this with rfl|rfl
  .exact k
  .exact Nat.lt_trans L k
 .intro i v n;have U:E[i]?=some v:=by simpa using n
  obtain⟨y,M,a⟩:=j.at U;rw[Qq]at M;cases G:B[i]? with
  |none=>rw[G]at M;cases M
  |some b=>
   rw[G]at M;cases M;obtain⟨t,rfl⟩:=(a:∃t,v=.int b t);have e:B.getD i 0=b:=by rw[Qg,G];rfl
   exact⟨t,by show Value.int b t=Value.int (B.getD i 0) t;rw[e]⟩
 .have e:E.toArray.size=B.length:=by simp at J ⊢;lia
  rw[e,jm B B.length (Qh _),W5];exact⟨.int B.sum,H,I.kept (t':=g) λb o e=>m b o (λG=>by
   have:b=s.heap.objs.size:=by simpa using G
   exact OD (Qr e) (by rw[this];exact WA _)) (Qk _ e),⟨f,rfl⟩,q⟩
noncomputable def Ds(A:TA):TE:=λB H Q=>A B H λE H1=>∃j:Int,E=[.int j]/\-(2^30)<=j/\j<2^24/\j.toNat<=sizeLine/\∀l,H1 l=none->Q (.ref l) (aL H1 l (.L ((QA j.toNat).map λ(i:Nat)=>V.int ((0:Int)+1*(i:Int)))))
def Hx (g:X.calm=true)(O:Gl X "list")(U:X.mg "list"=none)(f:Gl X "range")(w:X.mg "range"=none)(y:PA X [a] x)(hs:MN [a] X.env=[(false,eval a X.env)]:=by rfl):
  PE X (.Call (.Name "list" p) [.Call (.Name "range" p') [a] [] L] [] pos) (Ds x):=by
 intro B s k H Q I h;refine Nn (wV I O U PyProof.Rows.boot_list ?_ (by decide) (by decide));refine PyProof.Rows.callWith_type1 ?_ rfl rfl;refine Calls.spliced_cons ?_;refine Call_ (wV I f w boot_range (PyProof.Rows.callWith_type1 (aU (y L B s k H _ I h) λG M ⟨vs,H1,z,r1,d⟩=>?_) hs rfl));obtain⟨j,e,d,q2,q3,q⟩:=d;subst e;cases r1 with
 |cons r rr=>
  cases rr;obtain⟨t,rfl⟩:=r;refine call_range_1 (Calls.spliced_nil ?_);have J:Builtin.Range.rangeSize 0 j 1=(j.toNat:Int):=by rw[rangeSize_one];split<;>lia
  refine call_list_range (n:=j.toNat) (z.ok.hd g) (IsRange.new ..) (small_one (by lia) (by lia) (by lia) (by lia)) J (by lia) λh' tk A c' kp e E=>?_;have c:Inv X B k H1 {M with heap:=M.heap.push {cls:=.type "range",data:=.fields #[.int 0 M.toks,.int j t,.int 1 (M.toks+1)]},toks:=M.toks+1+1}:=z.kept λb o e=>Qk _ e;have N:av ((QA j.toNat).map λ(i:Nat)=>V.int ((0:Int)+1*(i:Int))) A.toList:=by
   have Y:∀(G:R6) (n:Nat),G.length=n->∀m:Nat,(∀i v,G[i]?=some v->∃t,v=Value.int ((0:Int)+((m+i:Nat):Int)*1) t)->av ((List.range' m n).map λ(i:Nat)=>V.int ((0:Int)+1*(i:Int))) G:=by
    intro G
    induction G with
    |nil=>intro n J m _;simp at J;subst J;exact .nil
    |cons u G ih=>
     intro n J m l;cases n with
     |zero=>simp at J
     |succ n=>
      rw[List.range'_succ,QJ];obtain⟨t,rfl⟩:=l 0 u rfl;refine .cons ⟨t,?_⟩ (ih n (by simpa using J) (m+1) λi v N=>?_)
      .congr 1;simp
      .obtain ⟨t,e⟩:=l (i+1) v (by simpa using N);exact⟨t,by rw[e];congr 2;congr 1;lia⟩
   have:=Y A.toList j.toNat (by rw[QY];exact E.1) 0 (λi v N=>by
    obtain⟨t,e⟩:=E.2 i v (by simpa using N);exact⟨t,by rw[e];simp⟩)
   rw[<-List.range_eq_range']at this;exact this
  refine⟨.ref _,_,c.laid (t':=tk) kp (Qh _) (show bD X.prog X.w _ h' _ (.L ((QA j.toNat).map λ(i:Nat)=>V.int ((0:Int)+1*(i:Int))))from⟨by simpa using q3,A.toList,c',N,by simpa using e⟩),rfl,q _ (c.hok.fresh (Qh _))⟩
end
abbrev TK:=T6×Addr×Value
noncomputable def iG(x:TK):DictEntry:=⟨reduceHash (Builtin.Tuple.tupleHashOf (x.1.map hashInt)),.ref x.2.1,x.2.2⟩
noncomputable def wT(d:Addr)(xs:List TK):HO:=.ext λh=>(d==MD)=false/\∃o A,h.get? d=some o/\o.ExactDict/\o.data=.dict A xs.length/\A.toList=xs.map iG/\(xs.map (·.1)).Nodup
theorem uA:∀{k:T6}{A:R6},av (k.map V.int) A->ItemsAre (NS P w) k A
 |[],_,.nil=>.nil
 |i::_,_,.cons p q=>by
  obtain⟨t,rfl⟩:=p;exact .cons (by show Value.isInt i (.int i t)=true;simp[Value.isInt]) (uA q)
noncomputable def x5(K:Qb)(H:Hp)(d:Addr)(xs:List TK):Prop:=H d=some (wT d xs)/\∀x∈xs,bS K H x.2.1 (x.1.map V.int)
section
variable{prog:My}{w:Mz}{T:Type}[DecidableEq T]{kd:HeapKind prog w T}{A:MG}{E:O2}{s:Shared}{d a:Addr}{k:T}{xs:List (T×Addr×Value)}
noncomputable def lf(kd:HeapKind prog w T)(h:MC)(d:Addr)(xs:List (T×Addr×Value)):Prop:=∃o B,h.get? d=some o/\o.ExactDict/\o.data=.dict B xs.length/\B.toList=xs.map (entryOfKey kd)/\(xs.map (·.1)).Nodup
def oC (H:kd.room A)(O:kd.is s.heap k a)(D:lf kd s.heap d xs)(all:∀x∈xs,kd.is s.heap x.1 x.2.1)(c:xs.length<=sizeLine)(I:∀h',lf kd h' d (storedH xs k a v)->WE d s.heap h'->R () {s with heap:=h',toks:=s.toks+kd.draws k}):MK (ML prog w) A (dictSet d (.ref a) v) R E s:=by
 obtain⟨o,Q,g,U,B,G,nd⟩:=D;have sz:=size_of_entries G
 let M:Shared:={s with toks:=s.toks+kd.draws k}
 unfold dictSet;apply MY;apply MX;apply kd.pyHash H O;unfold dictSetHashed;apply MY;apply MX;apply wpAny_dictFind_heap (s:=M) H O g B G all nd
 .intro no;have J:storedH xs k a v=xs++[(k,a,v)]:=storedH_new (atKey_none_of_get no) a v;have N:=VF (Obj.mapDictKeys (·.push ⟨kd.hash k,.ref a,v⟩)) g (Obj.isFreed_of_dict (Obj.data_mapDictKeys B _));apply MX;apply NT;apply wpAny_updateDictKeys (s:=M) g B _ (by lia);refine I _ ⟨_,Q.push ⟨kd.hash k,.ref a,v⟩,N,U.mapDictKeys _,?_,?_,?_⟩ (WE.update ..)
  .rw[J,Qw];exact Obj.data_mapDictKeys B _
  .simp[J,G,entryOfKey]
  .have z:=not_mem_keys_of_get no;rw[J,Wb,QW];refine⟨nd,by simp,λx Y y u e=>?_⟩;have f:y=k:=by simpa using u
   exact z (f▸e▸Y)
 .intro j p L;have J:storedH xs k a v=xs.map (NU k v):=storedH_old (atKey_of_get nd L) a v;have N:=VF (Obj.mapDict (·.modify j λe=>{e with val:=v})) g (Obj.isFreed_of_dict (Obj.data_mapDict B _));apply MX;apply NT;apply MX;apply wpAny_updateDict (s:=M) g B;apply wpAny_point;refine I _ ⟨_,Q.modify j λe=>{e with val:=v},N,U.mapDict _,?_,?_,?_⟩ (WE.update ..)
  .rw[J,Qi];exact Obj.data_mapDict B _
  .have q:=modify_map_putAt (entryOfKey kd) (λe:DictEntry=>{e with val:=v}) k v (λ_ _=>rfl) nd L;rw[<-G]at q;rw[J,Array.toList_modify];exact q
  .rw[J,keys_map_putAt];exact nd
def IC (B:kd.room A.in1)(I:kd.is s.heap k a)(D:lf kd s.heap d xs)(all:∀x∈xs,kd.is s.heap x.1 x.2.1)(J:xs.length<=sizeLine)(G:∀h',lf kd h' d (storedH xs k a v)->WE d s.heap h'->R () {s with heap:=h',toks:=s.toks+kd.draws k}):MK (ML prog w) A (MV (.ref d) (.ref a) v) R E s:=by
 have H:s.TypeIs (.ref d) "dict":=let⟨o,_,g,L,_⟩:=D;⟨o,g,L.1⟩;unfold MV;apply MY;apply MX;apply wpAny_sequenceKey H (by decide);apply MX;apply NA H slot_dict_setitem;refine NB slot_dict_setitem H entry_dict_setitem ?_ (args_dict_setitem _ _ _);apply MX (m:=Builtin.Dict.notOrdered "__setitem__" ⟨[.ref d,.ref a,v],[]⟩);apply NV H;apply MX (m:=dictSet d (.ref a) v);exact oC B I D all J λh' q M=>M9 ⟨.none,rfl,M9 (G h' q M)⟩
end
section
variable{X:Cx}{pins:O6}{σ:St}{H:Hp}{s:Shared}
def vv (I:Inv X pins σ H s)(h:bS X.K H a (k.map V.int)):NW (NS X.prog X.w) s.heap k a:=by
 obtain⟨A,r,⟨o,B,E,n,G⟩,_⟩:=I.tuple h;exact⟨o,A.toArray,n,B,E,G,uA r⟩
def kf (I:Inv X pins σ H s)(h:x5 X.K H d xs):(d==MD)=false/\s.heap.DictOfH (NX (NS X.prog X.w)) d xs:=by
 refine aP λY A=>?_;obtain⟨B,E⟩:=h;obtain⟨⟨G,o,J,L,M,N,O,Q⟩,_,_⟩:=I.hok d _ B;refine A ?_;exact⟨G,o,J,_,L,M,N,O,λx U=>vv I (E x U),Q⟩
def JN:PE X (.Dict [] [] pos) (λ_ H Q=>∀d,H d=none->Q (.ref d) (aL H d (wT d []))):=by
 intro pins s σ H Q I h;have A:(s.heap.objs.size==MD)=false:=by
  obtain⟨o,_,_,B,_⟩:=I.ok.mod.glob;have E:(3:Nat)<X.base.objs.size:=Qr B;have G:=Qx I.ok.bsz I.sz;have:s.heap.objs.size≠(1:Nat):=by lia
  exact beq_eq_false_iff_ne.mpr this
 refine wpAny_Dict_empty ⟨.ref s.heap.objs.size,aL H s.heap.objs.size (wT s.heap.objs.size []),I.laid (t':=s.toks) (λb u e=>Qk _ e) (Qh _) ?_,rfl,h _ I.fresh⟩;refine⟨⟨A,_,#[],QK _ rfl,⟨rfl,rfl,rfl⟩,rfl,rfl,Q7⟩,⟨_,QK _ rfl⟩,λE G J k=>?_⟩;obtain⟨L,o,M,N,r⟩:=J;exact⟨L,o,M,k o N,r⟩
noncomputable def sy(K:Qb):V->V->V->Hp->(Hp->Prop)->Prop:=λo i v H Q=>∃d a B A,o=.ref d/\i=.ref a/\bS K H a (B.map V.int)/\x5 K H d A/\A.length<=100000/\∀u,RelV v u->Q (aL H d (wT d (storedH A B a u)))
def Dr(hu:X.A.units+64<Nj):rM X (sy X.K):=by
 intro pins s σ H o i v ov iv u Q I M N O h;refine aP λU Y=>?_;obtain⟨d,a,j,z,rfl,rfl,p,A,hl,q⟩:=h;cases M;cases N;obtain⟨d0,dm⟩:=kf I A;obtain⟨⟨_,c,B,E,l,g,f,t⟩,_,_⟩:=I.hok d _ A.1;refine Y ?_;refine IC (kd:=NX (NS X.prog X.w)) (by show X.A.units+1<Nj;lia) (vv I p) ⟨c,B,E,l,g,f,t⟩ (λx G=>vv I (A.2 x G)) (Qx hl (by decide)) λh' ⟨m,J,L,n,w,y,a6⟩ sb=>?_;refine⟨aL H d (wT d (storedH z j a u)),?_,q u O⟩;refine I.write (x:=d) (e:=d) (by rw[A.1];trivial) (.inl rfl) (λb u' hb e=>(sb.2 b hb).trans e) ⟨_,L⟩ ?_;refine⟨⟨d0,m,J,L,n,w,y,a6⟩,⟨_,L⟩,λh1 h2 G k=>?_⟩;refine aP λU zj=>?_;obtain⟨b0,o,J,E,r⟩:=G;refine zj ?_;exact⟨b0,o,J,k o E,r⟩
noncomputable def sw(K:Qb):R2:=λx y H Q=>∃d a A B p,x=.ref d/\y=.ref a/\bS K H a (A.map V.int)/\x5 K H d B/\NY B A=some p/\∃v,RelV v p.2/\Q v H
def oM(Y:X.A.units+64<Nj):dY X (sw X.K):=by
 intro A B pins s σ H x y v u Q I E G h J;obtain⟨d,a,j,k,p,rfl,rfl,L,M,N,z,O,q⟩:=h;cases E;cases G;obtain⟨d0,dm⟩:=kf I M;exact NE (x:=p.2) dm.typeIs slot_dict_getitem.lookup
  (wpAny_getItem_heap (knd:=NX (NS X.prog X.w)) (Q:=λr U=>r=p.2/\EP X pins σ Q r U) (by show X.A.units+1<Nj;lia) (vv I L) dm N ⟨rfl,z,H,I.tok _,O,q⟩) J
end
end L2
namespace Mini
inductive Wd where
 |N|bl (b:Bool)|int (i:Int)|str (s:T9)|T (xs:List Wd)|rol (xs:List Wd)|ref (l:Nat)
deriving Inhabited
abbrev _root_.U4:=List Wd
set_option genInjectivity false in
inductive Ob where
 |L (xs:U4)|D (ks:O7) (ws:U4)
deriving Inhabited
abbrev Me:=List Ob
set_option tactic.hygienic true in
abbrev En:=List (Option Wd)
set_option genInjectivity false in
inductive Rz where
 |ok (w:Wd) (m:Me)|no
deriving Inhabited
abbrev _root_.O1:=Nat->List Wd->Me->Rz
set_option genInjectivity false in
inductive Rs where
 |next (e:En) (m:Me)|ret (w:Wd) (m:Me)
 |no
deriving Inhabited
inductive Bo where|add|sub|mul|fdiv|mod|pow
deriving DecidableEq
inductive Co where|eq|ne|lt|le|gt|notN|isin|notin
deriving DecidableEq
inductive Tg where|int|bool
deriving DecidableEq
inductive eD where|len|int|sum|all
deriving DecidableEq
inductive dX where|append|extend|reverse
deriving DecidableEq
inductive Kd where|zip|enum|prs|ptp
deriving DecidableEq
inductive Dk where|sot|sor
deriving DecidableEq
set_option genInjectivity false in
inductive Ex where
 |V (i:Nat)|lit (w:Wd)
 |bin (op:Bo) (a b:Ex)|neg (a:Ex)|not (a:Ex)|and (a b:Ex)|or (a b:Ex)
 |cmp (op:Co) (a b:Ex)|chain (p q:Co) (a b c:Ex)|ife (c a b:Ex)
 |u|p (a b:Ex)
 |call (k:Nat) (args:Ex)|blt (b:eD) (args:Ex)|isi (t:Tg) (a:Ex)
 |L (args:Ex)|T (args:Ex)|dict0
 |i (a b:Ex)|slL (a lo:Ex)  |slB (a lo hi:Ex)
 |meth (n:dX) (o args:Ex)
 |rng (a b c:Ex)
 |comp (elt it cond:Ex)
 |lrng (a:Ex)
 |compP (k:Kd) (elt a b cond:Ex)
 |dget (a b:Ex)
 |dop (k:Dk) (a b c:Ex)
deriving Inhabited
set_option genInjectivity false in
inductive Sm where
 |skip|seq (a b:Sm)
 |a (i:Nat) (e:Ex)   |aug (i:Nat) (op:Bo) (e:Ex)
 |ite (c:Ex) (a b:Sm)|forv (i:Nat) (it:Ex) (body:Sm)  |while (c:Ex) (body:Sm)
 |ret (e:Ex)  |expr (e:Ex)|never
 |dput (x:Nat) (k e:Ex)
 |forD (i x:Nat) (body:Sm)
deriving Inhabited
noncomputable def ao:Nat:=100000
noncomputable def cN:Int:=18446744073709551616
noncomputable def xg(i:Int):Bool:=decide (-cN<i)&&decide (i<cN)
noncomputable def cY(p:Wd->Wd->P8):U4->U4->P8
 |x::A,y::B=>match p x y with
  |some a=>(cY p A B).map (a && ·)
  |none=>none
 |_,_=>some true
noncomputable def b2i(b:Bool):Int:=if b then 1 else 0
noncomputable def bU(m:Me)(l:Nat):Bool:=match m[l]? with
 |some (.L _)=>true
 |_=>false
noncomputable def cE(m:Me):Nat->Wd->Wd->P8
 |0,_,_=>none
 |k+1,x,y=>match x,y with
  |.T a,.T b=>(cY (cE m k) a b).map (· && decide (a.length=b.length))
  |.ref a,.ref b=>if a=b then(if bU m a then some true else none)else match m[a]?,m[b]? with
   |some (.L A),some (.L B)=>if A.length=B.length then cY (cE m k) A B else some false
   |_,_=>none
  |.bl a,.bl b=>some (a==b)
  |.int a,.int b=>some (decide (a=b))
  |.str a,.str b=>some (decide (a=b))
  |.int _,.T _=>some false
  |.T _,.int _=>some false
  |_,_=>none
noncomputable def yT:Nat:=12
noncomputable def eo(p:Wd->Wd->P8)(x:Wd):U4->P8
 |[]=>some false
 |y::A=>match p y x with
  |some a=>(eo p x A).map (a || ·)
  |none=>none
noncomputable def ix(n:Nat)(i:Int):Option Nat:=
 if 0<=i then(if i<n then some i.toNat else none)else if -(n:Int)<=i then some (i+n).toNat else none
noncomputable def alloc(m:Me)(xs:U4):Rz:=if xs.length<=ao then .ok (.ref m.length) (m++[.L xs])else .no
noncomputable def zD(m:Me)(l:Nat):Option U4:=match m[l]? with
 |some (.L A)=>some A
 |_=>none
noncomputable def wr(m:Me):Wd->Option U4
 |.T A=>some A
 |.rol A=>some A
 |.ref l=>zD m l
 |_=>none
noncomputable def dF(op:Bo)(x y:Wd)(m:Me):Rz:=match x,y with
 |.int i,.int j=>match op with
  |.add=>.ok (.int (i+j)) m
  |.sub=>.ok (.int (i-j)) m
  |.mul=>if xg i || xg j then .ok (.int (i*j)) m else .no
  |.fdiv=>if 0<j/\j<1073741824 then .ok (.int (i/j)) m else .no
  |.mod=>if 0<j then .ok (.int (i%j)) m else .no
  |.pow=>if 0<=j/\j<=1000000/\xg i=true then .ok (.int (i^j.toNat)) m else .no
 |.ref a,.ref b=>match op,m[a]?,m[b]? with
  |.add,some (.L A),some (.L B)=>alloc m (A++B)
  |_,_,_=>.no
 |.ref a,.int k=>match op,m[a]? with
  |.mul,some (.L A)=>if -ao<=k/\k<=ao then alloc m (QI k.toNat A).flatten else .no
  |_,_=>.no
 |.T A,.T B=>match op with
  |.add=>if A.length+B.length<=ao then .ok (.T (A++B)) m else .no
  |_=>.no
 |_,_=>.no
noncomputable def dN(o:P8)(m:Me):Rz:=match o with
 |some b=>.ok (.bl b) m
 |none=>.no
noncomputable def qB(r:Int->Int->Bool)(x y:Wd)(m:Me):Rz:=match x,y with
 |.int i,.int j=>.ok (.bl (r i j)) m
 |_,_=>.no
noncomputable def wW:U4->Option T6
 |[]=>some []
 |.int i::r=>(wW r).map (i::·)
 |_=>none
noncomputable def fZ(m:Me)(x y:Wd):P8:=match y with
 |.ref l=>match m[l]? with
  |some (.D A _)=>match x with
   |.int _=>some false
   |.T B=>(wW B).map λk=>decide (k∈A)
   |_=>none
  |_=>none
 |_=>none
noncomputable def dq(op:Co)(x y:Wd)(m:Me):Rz:=match op with
 |.eq=>dN (cE m yT x y) m
 |.ne=>dN ((cE m yT x y).map (!·)) m
 |.notN=>match y,x with
  |.N,.N=>.ok (.bl false) m
  |.N,_=>.ok (.bl true) m
  |_,_=>.no
 |.isin=>match wr m y with
  |some A=>dN (eo (cE m yT) x A) m
  |none=>dN (fZ m x y) m
 |.notin=>match wr m y with
  |some A=>dN ((eo (cE m yT) x A).map (!·)) m
  |none=>match x with
   |.T _=>dN ((fZ m x y).map (!·)) m
   |_=>.no
 |.lt=>qB (λi j=>decide (i<j)) x y m
 |.le=>qB (λi j=>decide (i<=j)) x y m
 |.gt=>qB (λi j=>decide (j<i)) x y m
noncomputable def fH(t:Tg)(x:Wd)(_:Me):P8:=match t,x with
 |.int,.int _=>some true
 |.int,.bl _=>some true
 |.bool,.bl _=>some true
 |.bool,.int _=>some false
 |_,_=>none
noncomputable def aR(n d:Nat):R9->Nat
 |none=>d
 |some v=>if v<0 then(v+(n:Int)).toNat else min v.toNat n
noncomputable def fy:U4->R9
 |[]=>some 0
 |.int i::r=>(fy r).map (i+·)
 |_=>none
noncomputable def fx:U4->P8
 |[]=>some true
 |.bl b::r=>(fx r).map (b && ·)
 |_=>none
noncomputable def ff(m:Me):Wd->Option U4
 |.rol A=>some A
 |.ref l=>zD m l
 |_=>none
noncomputable def dD:T6->T6->Bool
 |[],[]=>false
 |[],_::_=>true
 |_::_,[]=>false
 |x::A,y::B=>if x=y then dD A B else decide (x<y)
noncomputable def wt:O7->Bool
 |x::y::r=>dD x y&&(decide (x.length=y.length)&&decide (x.head?=y.head?))&&wt (y::r)
 |_=>true
noncomputable def fU{A B:Type}:List A->(List A->B)->B
 |[],k=>k []
 |x::E,k=>fU E λG=>k (x::G)
theorem kh:∀(xs:List A) (k:List A->E),fU xs k=k xs
 |[],_=>rfl
 |x::xs,k=>kh xs λB=>k (x::B)
noncomputable def mH{A:Type}(i:Int)(k:Int->A):A:=match i with
 |.ofNat 0=>k 0
 |.ofNat (n+1)=>k (.ofNat (n+1))
 |.negSucc 0=>k (-1)
 |.negSucc (n+1)=>k (.negSucc (n+1))
def Hw (i:Int)(k:Int->A):mH i k=k i:=by
 cases i with
 |ofNat n=>cases n<;>rfl
 |negSucc n=>cases n<;>rfl
noncomputable def iw{A:Type}:T6->(T6->A)->A
 |[],k=>k []
 |x::B,k=>mH x λy=>iw B λE=>k (y::E)
theorem uz:∀(xs:T6) (k:T6->B),iw xs k=k xs
 |[],_=>rfl
 |x::xs,k=>by
  show mH x (λy=>iw xs λA=>k (y::A))=_;rw[Hw,uz]
noncomputable def lc{A:Type}:O7->(O7->A)->A
 |[],k=>k []
 |x::B,k=>iw x λy=>lc B λE=>k (y::E)
theorem Ap:∀(xs:O7) (k:O7->B),lc xs k=k xs
 |[],_=>rfl
 |x::xs,k=>by
  show iw x (λy=>lc xs λA=>k (y::A))=_;rw[uz,Ap]
noncomputable def jX{A:Type}(p:T6×A):List (T6×A)->List (T6×A)
 |[]=>[p]
 |q::r=>if dD p.1 q.1 then p::q::r else q::jX p r
noncomputable def xM{A:Type}:List (T6×A)->List (T6×A)
 |[]=>[]
 |p::r=>fU (xM r) λs=>jX p s
def vw (p:T6×A)(r:List (T6×A)):xM (p::r)=jX p (xM r):=kh (xM r) λs=>jX p s
noncomputable def wX(B:Type)(A:O7)(xs:List B):Option (List B):=lc A λA=>fU xs λxs=>fU (A.zip xs) λz=>fU (xM z) λs=>if wt (s.map Prod.fst)then some (s.map Prod.snd)else none
def Ao(B:Type)(A:O7)(xs:List B):wX B A xs=if wt ((xM (A.zip xs)).map Prod.fst)then some ((xM (A.zip xs)).map Prod.snd)else none:=by
 unfold wX;rw[Ap,kh,kh,kh]
noncomputable def fT(b:eD)(ws:U4)(m:Me):Rz:=match b with
 |.len=>match ws with
  |[x]=>match wr m x with
   |some A=>.ok (.int A.length) m
   |none=>.no
  |_=>.no
 |.int=>match ws with
  |[.int i]=>.ok (.int i) m
  |[.bl b]=>.ok (.int (b2i b)) m
  |_=>.no
 |.sum=>match ws with
  |[x]=>match (ff m x).bind fy with
   |some i=>.ok (.int i) m
   |none=>.no
  |_=>.no
 |.all=>match ws with
  |[x]=>match (ff m x).bind fx with
   |some i=>.ok (.bl i) m
   |none=>.no
  |_=>.no
noncomputable def dC(n:dX)(o:Wd)(ws:U4)(m:Me):Rz:=match o with
 |.ref l=>match m[l]? with
  |some (.L A)=>match n,ws with
   |.append,[y]=>if A.length<ao then .ok .N (m.set l (.L (A++[y])))else .no
   |.extend,[.ref k]=>match m[k]? with
    |some (.L B)=>if A.length+B.length<=ao then .ok .N (m.set l (.L (A++B)))else .no
    |_=>.no
   |.reverse,[]=>.ok .N (m.set l (.L A.reverse))
   |_,_=>.no
  |_=>.no
 |_=>.no
noncomputable def xj(x:Wd)(m:Me):Bool:=match x with
 |.ref l=>bU m l
 |_=>false
noncomputable def jY(x y:Wd)(m:Me):Rz:=match y with
 |.int i=>match wr m x with
  |some A=>match (ix A.length i).bind λj=>A[j]? with
   |some v=>.ok v m
   |none=>.no
  |none=>.no
 |_=>.no
noncomputable def fS:Wd->Option T6
 |.T A=>wW A
 |_=>none
noncomputable def dH{A:Type}:O7->List A->T6->Option A
 |k::B,w::E,q=>if k=q then some w else dH B E q
 |_,_,_=>none
noncomputable def wu(A:O7)(q:T6):O7:=if q∈A then A else A++[q]
noncomputable def yt{B:Type}:O7->List B->T6->B->List B
 |k::E,w::A,q,v=>if k=q then v::A else w::yt E A q v
 |_,A,_,v=>A++[v]
noncomputable def qC(x y:Wd)(m:Me):Rz:=match x with
 |.ref l=>match m[l]? with
  |some (.D A B)=>match (fS y).bind (dH A B)with
   |some v=>.ok v m
   |none=>.no
  |_=>.no
 |_=>.no
noncomputable def qD(x y v:Wd)(m:Me):Rz:=match x with
 |.ref l=>match m[l]? with
  |some (.D A B)=>match fS y with
   |some q=>if A.length<ao then .ok .N (m.set l (.D (wu A q) (yt A B q v)))else .no
   |none=>.no
  |_=>.no
 |_=>.no
noncomputable def fm(x:Wd)(lo B:R9)(m:Me):Rz:=match x with
 |.T A=>if aR A.length 0 lo=0/\aR A.length A.length B=A.length then .no else .ok (.T ((A.drop (aR A.length 0 lo)).take (aR A.length A.length B-aR A.length 0 lo))) m
 |x=>match ff m x with
 |some A=>alloc m ((A.drop (aR A.length 0 lo)).take (aR A.length A.length B-aR A.length 0 lo))
 |none=>.no
noncomputable def fw(lo st:Int):Nat->U4
 |0=>[]
 |n+1=>.int lo::fw (lo+st) st n
noncomputable def qg:U4->Option O7
 |[]=>some []
 |.T A::r=>match wW A,qg r with
  |some [a,b],some B=>some ([a,b]::B)
  |_,_=>none
 |_=>none
noncomputable def iu(x:Wd)(m:Me):Option O7:=match x with
 |.ref l=>(zD m l).bind qg
 |_=>none
noncomputable def eJ(m:Me):U4->Option O7
 |[]=>some []
 |.ref l::r=>match zD m l with
  |some A=>match qg (A.take 1),eJ m r with
   |some [k],some B=>some (k::B)
   |_,_=>none
  |none=>none
 |_=>none
noncomputable def rN(k:Dk)(_:Wd)(_:Me):Bool:=match k with
 |.sot=>true
 |.sor=>true
noncomputable def fe(k:Dk)(x y z:Wd)(m:Me):Rz:=match k with
 |.sot=>match iu x m with
  |some A=>match wX T6 (A.map (0::·)) A with
   |some E=>alloc m (E.map λk=>.T (k.map Wd.int))
   |none=>.no
  |none=>.no
 |.sor=>match x with
  |.ref l=>match zD m l with
   |some B=>match eJ m B with
    |some A=>if wt (A.map (0::·))then alloc m B else .no
    |none=>.no
   |none=>.no
  |_=>.no
noncomputable def eI(a b c:Int):Nat:=if c=1 then(b-a).toNat else if c=-1 then(a-b).toNat else if c=-2 then((a-b+1)/2).toNat else if c=2 then((b-a+1)/2).toNat else 0
noncomputable def ir(a b c:Wd)(m:Me):Rz:=match a,b,c with
 |.int a,.int b,.int c=>if -ao<=a/\a<=ao/\-ao<=b/\b<=ao/\(c=1\/c=-1\/c=-2\/c=2)then .ok (.T (fw a c (eI a b c))) m else .no
 |_,_,_=>.no
noncomputable def Rz.bind(r:Rz)(f:Wd->Me->Rz):Rz:=match r with
 |.ok w m=>f w m
 |r=>r
noncomputable def wv(c e:Wd->Me->Rz):U4->U4->Me->Rz
 |[],A,m=>alloc m A
 |x::B,A,m=>(c x m).bind λb m1=>match b with
  |.bl true=>(e x m1).bind λy m2=>if A.length<ao then wv c e B (A++[y]) m2 else .no
  |.bl false=>wv c e B A m1
  |_=>.no
noncomputable def ww(c e:Wd->Me->Rz)(l:Nat):Nat->Nat->U4->Me->Rz
 |0,_,_,_=>.no
 |k+1,i,A,m=>match zD m l with
  |none=>.no
  |some B=>match B[i]? with
   |none=>alloc m A
   |some x=>(c x m).bind λb m1=>match b with
    |.bl true=>(e x m1).bind λy m2=>if A.length<ao then ww c e l k (i+1) (A++[y]) m2 else .no
    |.bl false=>ww c e l k (i+1) A m1
    |_=>.no
noncomputable def iC:Wd->Option (Wd×Wd)
 |.T [x,y]=>some (x,y)
 |_=>none
noncomputable def kY(m:Me):Wd->Option U4
 |.ref l=>zD m l
 |_=>none
noncomputable def zG(k:Kd)(x y:Wd)(i:Nat)(m:Me):Option (Option (Wd×Wd)):=match k,x,y with
 |.zip,x,y=>match kY m x,kY m y with
  |some A,some E=>some (match A[i]?,E[i]? with
   |some x,some y=>some (x,y)
   |_,_=>none)
  |_,_=>none
 |.enum,.ref B,.int s=>match zD m B with
  |some A=>some (A[i]?.map λx=>(.int (s+(i:Int)),x))
  |none=>none
 |.prs,.ref B,.int _=>match zD m B with
  |some A=>match A[i]? with
   |none=>some none
   |some w=>(iC w).map some
  |none=>none
 |.ptp,.T A,.int _=>match A[i]? with
  |none=>some none
  |some w=>(iC w).map some
 |_,_,_=>none
noncomputable def ym(c e:Wd->Wd->Me->Rz)(g:Nat->Me->Option (Option (Wd×Wd))):Nat->Nat->U4->Me->Rz
 |0,_,_,_=>.no
 |k+1,i,A,m=>match g i m with
  |none=>.no
  |some none=>alloc m A
  |some (some (x,y))=>(c x y m).bind λb m1=>match b with
   |.bl true=>(e x y m1).bind λz m2=>if A.length<ao then ym c e g k (i+1) (A++[z]) m2 else .no
   |.bl false=>ym c e g k (i+1) A m1
   |_=>.no
noncomputable def zK:Wd->U4
 |.T A=>A
 |_=>[]
noncomputable def ae(cl:O1):Ex->En->Me->Rz
 |.V i,A,m=>match A[i]? with
  |some (some w)=>.ok w m
  |_=>.no
 |.lit w,_,m=>.ok w m
 |.bin E a b,A,m=>(ae cl a A m).bind λx m1=>(ae cl b A m1).bind λy m2=>dF E x y m2
 |.neg a,A,m=>(ae cl a A m).bind λx m1=>match x with
  |.int i=>.ok (.int (-i)) m1
  |_=>.no
 |.not a,A,m=>(ae cl a A m).bind λx m1=>match x with
  |.bl b=>.ok (.bl (! b)) m1
  |_=>.no
 |.and a b,A,m=>(ae cl a A m).bind λx m1=>match x with
  |.bl true=>ae cl b A m1
  |.bl false=>.ok (.bl false) m1
  |_=>.no
 |.or a b,A,m=>(ae cl a A m).bind λx m1=>match x with
  |.bl false=>ae cl b A m1
  |.bl true=>.ok (.bl true) m1
  |_=>.no
 |.cmp E a b,A,m=>(ae cl a A m).bind λx m1=>(ae cl b A m1).bind λy m2=>dq E x y m2
 |.chain p q a b c,A,m=>(ae cl a A m).bind λx m1=>(ae cl b A m1).bind λy m2=>(dq p x y m2).bind λz m3=>match z with
  |.bl true=>(ae cl c A m3).bind λu m4=>dq q y u m4
  |.bl false=>.ok (.bl false) m3
  |_=>.no
 |.ife c a b,A,m=>(ae cl c A m).bind λx m1=>match x with
  |.bl true=>ae cl a A m1
  |.bl false=>ae cl b A m1
  |_=>.no
 |.u,_,m=>.ok (.T []) m
 |.p a b,A,m=>(ae cl a A m).bind λx m1=>(ae cl b A m1).bind λy m2=>.ok (.T (x::zK y)) m2
 |.call k a,A,m=>(ae cl a A m).bind λx m1=>cl k (zK x) m1
 |.blt b a,A,m=>(ae cl a A m).bind λx m1=>fT b (zK x) m1
 |.isi t a,A,m=>(ae cl a A m).bind λx m1=>dN (fH t x m1) m1
 |.L a,A,m=>(ae cl a A m).bind λx m1=>alloc m1 (zK x)
 |.T a,A,m=>(ae cl a A m).bind λx m1=>if(zK x).length<=ao then .ok (.T (zK x)) m1 else .no
 |.dict0,_,m=>.ok (.ref m.length) (m++[.D [] []])
 |.i a b,A,m=>(ae cl a A m).bind λx m1=>(ae cl b A m1).bind λy m2=>jY x y m2
 |.dget a b,A,m=>(ae cl a A m).bind λx m1=>(ae cl b A m1).bind λy m2=>qC x y m2
 |.dop k a b c,A,m=>(ae cl a A m).bind λx m1=>match rN k x m1 with
  |true=>(ae cl b A m1).bind λy m2=>(ae cl c A m2).bind λz m3=>fe k x y z m3
  |false=>.no
 |.slL a lo,A,m=>(ae cl a A m).bind λx m1=>(ae cl lo A m1).bind λy m2=>match y with
  |.int i=>fm x (some i) none m2
  |_=>.no
 |.slB a lo H,A,m=>(ae cl a A m).bind λx m1=>(ae cl lo A m1).bind λy m2=>match y with
  |.int i=>(ae cl H A m2).bind λz m3=>match z with
   |.int j=>fm x (some i) (some j) m3
   |_=>.no
  |_=>.no
 |.meth n o a,A,m=>(ae cl o A m).bind λx m1=>match xj x m1 with
  |true=>(ae cl a A m1).bind λy m2=>dC n x (zK y) m2
  |false=>.no
 |.rng a b c,A,m=>(ae cl a A m).bind λx m1=>(ae cl b A m1).bind λy m2=>(ae cl c A m2).bind λz m3=>ir x y z m3
 |.comp B I cond,A,m=>(ae cl I A m).bind λx m1=>match x with
  |.T G=>wv (λx m=>ae cl cond (A++[some x]) m) (λx m=>ae cl B (A++[some x]) m) G [] m1
  |.rol G=>wv (λx m=>ae cl cond (A++[some x]) m) (λx m=>ae cl B (A++[some x]) m) G [] m1
  |.ref l=>ww (λx m=>ae cl cond (A++[some x]) m) (λx m=>ae cl B (A++[some x]) m) l (ao+1) 0 [] m1
  |_=>.no
 |.compP k B a b cond,A,m=>(ae cl a A m).bind λx m1=>(ae cl b A m1).bind λy m2=>
  ym (λu v m=>ae cl cond (A++[some u]++[some v]) m) (λu v m=>ae cl B (A++[some u]++[some v]) m) (zG k x y) (ao+1) 0 [] m2
 |.lrng a,A,m=>(ae cl a A m).bind λx m1=>match x with
  |.int j=>if -ao<=j/\j<=ao then alloc m1 (fw 0 1 j.toNat)else .no
  |_=>.no
noncomputable def kj(body:Wd->En->Me->Rs):U4->En->Me->Rs
 |[],A,m=>.next A m
 |x::B,A,m=>match body x A m with
  |.next E m1=>kj body B E m1
  |r=>r
noncomputable def wY(body:Wd->En->Me->Rs)(l:Nat):Nat->Nat->En->Me->Rs
 |0,_,_,_=>.no
 |k+1,i,A,m=>match zD m l with
  |none=>.no
  |some B=>match B[i]? with
   |none=>.next A m
   |some x=>match body x A m with
    |.next E m1=>wY body l k (i+1) E m1
    |r=>r
noncomputable def x6(body:Wd->En->Me->Rs)(l n:Nat):Nat->Nat->En->Me->Rs
 |0,_,_,_=>.no
 |k+1,i,A,m=>match m[l]? with
  |some (.D B _)=>if B.length=n then match B[i]? with
   |none=>.next A m
   |some q=>match body (.T (q.map Wd.int)) A m with
    |.next E m1=>x6 body l n k (i+1) E m1
    |r=>r
   else .no
  |_=>.no
noncomputable def kq(m:Me)(l:Nat):Nat:=match m[l]? with
 |some (.D A _)=>A.length
 |_=>0
noncomputable def jZ(c:En->Me->Rz)(body:En->Me->Rs):Nat->En->Me->Rs
 |0,_,_=>.no
 |k+1,A,m=>match c A m with
  |.ok (.bl true) m1=>match body A m1 with
   |.next B m2=>jZ c body k B m2
   |r=>r
  |.ok (.bl false) m1=>.next A m1
  |_=>.no
noncomputable def Rz.bindS(r:Rz)(env:En)(f:Wd->Me->Rs):Rs:=match r with
 |.ok w m=>f w m
 |.no=>.no
noncomputable def iZ(body:Wd->En->Me->Rs)(w:Wd)(env:En)(m:Me):Rs:=match w with
 |.T A=>kj body A env m
 |.rol A=>kj body A env m
 |.ref l=>wY body l (ao+1) 0 env m
 |_=>.no
noncomputable def yU(st:Wd->En->Option En)(b:En->Me->Rs):Wd->En->Me->Rs:=λw B m=>match st w B with
 |some A=>b A m
 |none=>.no
noncomputable def iq(op:Bo)(x y:Wd)(m:Me)(env:En)(f:Wd->Me->Rs):Rs:=match x,y with
 |.int _,.int _=>(dF op x y m).bindS env f
 |_,_=>.no
noncomputable def bJ(cl:O1):Sm->En->Me->Rs
 |.skip,A,m=>.next A m
 |.seq a b,A,m=>match bJ cl a A m with
  |.next E m1=>bJ cl b E m1
  |r=>r
 |.a i e,A,m=>(ae cl e A m).bindS A λw m1=>.next (A.set i (some w)) m1
 |.aug i G e,A,m=>match A[i]? with
  |some (some x)=>(ae cl e A m).bindS A λy m1=>iq G x y m1 A λz m2=>.next (A.set i (some z)) m2
  |_=>.no
 |.ite c a b,A,m=>(ae cl c A m).bindS A λx m1=>match x with
  |.bl true=>bJ cl a A m1
  |.bl false=>bJ cl b A m1
  |_=>.no
 |.forv i H B,A,m=>(ae cl H A m).bindS A λw m1=>iZ (λx e m=>bJ cl B (e.set i (some x)) m) w A m1
 |.while c B,A,m=>jZ (ae cl c) (bJ cl B) 1000000 A m
 |.ret e,A,m=>(ae cl e A m).bindS A λw m1=>.ret w m1
 |.expr e,A,m=>(ae cl e A m).bindS A λ_ m1=>.next A m1
 |.dput x k e,A,m=>(ae cl e A m).bindS A λv m1=>(ae cl (.V x) A m1).bindS A λd m2=>(ae cl k A m2).bindS A λq m3=>(qD d q v m3).bindS A λ_ m4=>.next A m4
 |.forD i x B,A,m=>(ae cl (.V x) A m).bindS A λw m1=>match w with
  |.ref l=>x6 (λq e m=>bJ cl B (e.set i (some q)) m) l (kq m1 l) (ao+1) 0 A m1
  |_=>.no
 |.never,_,_=>.no
noncomputable def ku(a b c d:Ex):Ex:=.T (.p a (.p b (.p c (.p d .u))))
noncomputable def db(k:T9)(a:Ex):Ex:=.T (.p (.lit (.str k)) (.p a .u))
noncomputable def ip(n:Nat)(A B E G:T9)(a b c d mx elt:Ex):Ex:=.compP .ptp elt (ku (db A a) (db B b) (db E c) (db G d)) (.lit (.int 0)) (.cmp .eq (.V (n+1)) mx)
noncomputable def dt(x y:Int):Ex:=.T (.p (.lit (.int x)) (.p (.lit (.int y)) .u))
noncomputable def j0(i:Nat)(A B E G:T9):Ex:=.ife (.cmp .eq (.V i) (.lit (.str A))) (.lit (.int 0)) (.ife (.cmp .eq (.V i) (.lit (.str B))) (.lit (.int 1)) (.ife (.cmp .eq (.V i) (.lit (.str E))) (.lit (.int 2)) (.ife (.cmp .eq (.V i) (.lit (.str G))) (.lit (.int 3)) (.lit .N))))
noncomputable def j3{A:Type}(s B E G H:T9)(a b c d:A):Option A:=if s=B then some a else if s=E then some b else if s=G then some c else if s=H then some d else none
set_option genInjectivity false in
structure Fn where
 ar:Nat
 sz:Nat
 body:Sm
deriving Inhabited
noncomputable def wH(A:Fn)(ws:U4):En:=ws.map some++QI (A.sz-ws.length) none
noncomputable def eG(cl:O1)(A:Fn)(ws:U4)(m:Me):Rz:=
 if ws.length=A.ar then match bJ cl A.body (wH A ws) m with
  |.next _ m1=>.ok .N m1
  |.ret w m1=>.ok w m1
  |_=>.no
 else .no
noncomputable def xF(T:List Fn):Nat->Nat->U4->Me->Rz
 |0,_,_,_=>.no
 |d+1,k,A,m=>match T[k]? with
  |some B=>eG (xF T d) B A m
  |none=>.no
end Mini
namespace Mini
open PySem PySem.Spec PyProof.Rows L2
abbrev St:=L2.St
noncomputable def KL(K:Qb)(a:Addr)(xs:U8):Prop:=
 ∃(o:Obj) (A:P7) (n:Nat),K.lookup a=some o/\o.cls=.type "list" /\ o.dict=none/\o.data=.seq A n/\A.size<=sizeLine/\av xs A.toList
noncomputable def eU(K:Qb)(H:Hp)(a:Addr)(vs:U8):Prop:=(∃o,H a=some (.frz o (.L vs)))\/KL K a vs
def eU.sq {K:Qb}(h:eU K H a vs):bg K H a vs:=by
 rcases h with h|h
 .exact .inl (.inr h)
 .exact .inr h
mutual
noncomputable def ai(K:Qb)(as:S6)(H:Hp):Wd->V->Prop
 |.N,v=>v=.N
 |.bl b,v=>v=.bl b
 |.int i,v=>v=.int i
 |.str s,v=>v=.str ⟨s.toArray⟩
 |.T B,v=>∃a A,v=.ref a/\bS K H a A/\ab K as H B A
 |.rol B,v=>∃a A,v=.ref a/\eU K H a A/\ab K as H B A
 |.ref l,v=>∃a,as[l]?=some a/\v=.ref a
noncomputable def ab(K:Qb)(as:S6)(H:Hp):U4->U8->Prop
 |[],A=>A=[]
 |x::B,A=>∃v r,A=v::r/\ai K as H x v/\ab K as H B r
end
noncomputable def bu(K:Qb)(as:S6)(H:Hp):Ob->Addr->Prop
 |.L B,a=>∃A,H a=some (.L A)/\ab K as H B A
 |.D G B,a=>∃E A,x5 K H a E/\E.map (·.1)=G/\ab K as H B A/\av A (E.map (·.2.2))/\G.Nodup
structure aS(K:Qb)(as:S6)(m:Me)(H:Hp):Prop where
 len:as.length=m.length
 nd:as.Nodup
 obj:∀(l:Nat) (a:Addr) (o:Ob),as[l]?=some a->m[l]?=some o->bu K as H o a
structure Step(as:S6)(H:Hp)(as':S6)(H':Hp):Prop where
 pre:∃t,as'=as++t
 frame:∀b o,H b=some o->b∉as->H' b=some o
 fresh:∀a∈as',a∈as\/H a=none
section
variable{K:Qb}{as as' as2:S6}{H H' H2:Hp}{m m':Me}
def Step.refl:Step as H as H:=⟨⟨[],by simp⟩,λ_ _ h _=>h,λ_ h=>.inl h⟩
def Step.get (T:Step as H as' H'){l:Nat}(h:as[l]?=some a):as'[l]?=some a:=by
 obtain⟨t,rfl⟩:=T.pre;rw[Qf (Qa.mp h).1];exact h
def Step.out (T:Step as H as' H')(h:H b=some o)(A:b∉as):b∉as':=λz=>by
 rcases T.fresh b z with q|q
 .exact A q
 .rw[h]at q;cases q
def Step.trans(T:Step as H as' H')(U:Step as' H' as2 H2):Step as H as2 H2:=by
 refine⟨?_,λb o h A=>U.frame b o (T.frame b o h A) (T.out h A),λa B=>?_⟩
 .obtain ⟨t,rfl⟩:=T.pre;obtain⟨u,rfl⟩:=U.pre;exact⟨t++u,by simp⟩
 .rcases U.fresh a B with q|q
  .exact T.fresh a q
  .by_cases z:a∈as
   .exact .inl z
   .refine .inr ?_;cases e:H a with
    |none=>rfl
    |some o=>rw[T.frame a o e z]at q;cases q
def aS.get (S:aS K as m H){l:Nat}(h:m[l]?=some o):∃a,as[l]?=some a/\bu K as H o a:=by
 have hl:l<as.length:=by rw[S.len];exact(Qa.mp h).1
 exact⟨as[l],by simp[hl],S.obj l _ o (by simp[hl]) h⟩
noncomputable def LD:HO->Prop
 |.L _=>True
 |.ext _=>True
 |.dK _=>True
 |_=>False
def aS.isLst (S:aS K as m H)(h:a∈as):∃o,H a=some o/\LD o:=by
 obtain⟨l,hl,rfl⟩:=VI.mp h;have B:l<m.length:=by rw[<-S.len];exact hl
 have q:=S.obj l as[l] m[l] (by simp[hl]) (by simp[B]);cases e:m[l]with
 |L E=>
  rw[e]at q;obtain⟨G,A,_⟩:=q;exact⟨_,A,trivial⟩
 |D I E=>
  rw[e]at q;obtain⟨J,G,A,_⟩:=q;exact⟨_,A.1,trivial⟩
def Jf (B:∀a∈as,∃o,H a=some o/\LD o)(T:Step as H as' H')(h:bS K H a vs):bS K H' a vs:=by
 rcases h with h|h
 .have A:a∉as:=λz=>by
   obtain⟨u,e,E⟩:=B a z;rcases h with h|⟨o,h⟩<;>rw[e]at h<;>cases h<;>exact E
  rcases h with h|⟨o,h⟩
  .exact .inl (.inl (T.frame _ _ h A))
  .exact .inl (.inr ⟨o,T.frame _ _ h A⟩)
 .exact .inr h
def Je (A:∀a∈as,∃o,H a=some o/\LD o)(T:Step as H as' H')(h:eU K H a vs):eU K H' a vs:=by
 rcases h with⟨o,h⟩|h
 .have B:a∉as:=λz=>by
   obtain⟨u,e,E⟩:=A a z;rw[e]at h;cases h;exact E
  exact .inl ⟨o,T.frame _ _ h B⟩
 .exact .inr h
structure Kp(K:Qb)(H H':Hp):Prop where
 t:∀a vs,bS K H a vs->bS K H' a vs
 f:∀a vs,eU K H a vs->eU K H' a vs
def aS.kp(S:aS K as m H)(T:Step as H as' H'):Kp K H H':=⟨λ_ _ h=>Jf (λ_ z=>S.isLst z) T h,λ_ _ h=>Je (λ_ z=>S.isLst z) T h⟩
def Kp.updL{D:Addr}{u o:HO}(h:H D=some u)(A:LD u):Kp K H (L2.aL H D o):=by
 refine⟨λa B q=>?_,λa B q=>?_⟩
 .rcases q with (q|⟨x,q⟩)|q
  .exact .inl (.inl (by rw[zu (by rintro rfl;rw[h]at q;cases q;exact A)];exact q))
  .exact .inl (.inr ⟨x,by rw[zu (by rintro rfl;rw[h]at q;cases q;exact A)];exact q⟩)
  .exact .inr q
 .rcases q with⟨x,q⟩|q
  .exact .inl ⟨x,by rw[zu (by rintro rfl;rw[h]at q;cases q;exact A)];exact q⟩
  .exact .inr q
def Kp.upd{D:Addr}{ys:U8}{o:HO}(h:H D=some (.L ys)):Kp K H (L2.aL H D o):=Kp.updL h trivial
mutual
theorem j4(k:Kp K H H')(g:∀(l:Nat) (a:Addr),as[l]?=some a->as'[l]?=some a):∀(w:Wd) (v:V),ai K as H w v->ai K as' H' w v
 |.N,_,h=>by rw[ai]at h ⊢;exact h
 |.bl _,_,h=>by rw[ai]at h ⊢;exact h
 |.int _,_,h=>by rw[ai]at h ⊢;exact h
 |.str _,_,h=>by rw[ai]at h ⊢;exact h
 |.T B,v,h=>by
  rw[ai]at h ⊢;obtain⟨a,A,e,q,r⟩:=h;exact⟨a,A,e,k.t _ _ q,a8 k g B A r⟩
 |.rol B,v,h=>by
  rw[ai]at h ⊢;obtain⟨a,A,e,q,r⟩:=h;exact⟨a,A,e,k.f _ _ q,a8 k g B A r⟩
 |.ref l,v,h=>by
  rw[ai]at h ⊢;obtain⟨a,q,e⟩:=h;exact⟨a,g _ _ q,e⟩
theorem a8(k:Kp K H H')(g:∀(l:Nat) (a:Addr),as[l]?=some a->as'[l]?=some a):∀(ws:U4) (vs:U8),ab K as H ws vs->ab K as' H' ws vs
 |[],_,h=>by rw[ab]at h ⊢;exact h
 |x::A,vs,h=>by
  rw[ab]at h ⊢;obtain⟨v,r,e,q,t⟩:=h;exact⟨v,r,e,j4 k g x v q,a8 k g A r t⟩
end
def bu.mono{ob:Ob}{a:Addr}(k:Kp K H I)(g:∀(l:Nat) (a:Addr),as[l]?=some a->B[l]?=some a)(e:∀o,H a=some o->I a=some o)(h:bu K as H ob a):bu K B I ob a:=by
 cases ob with
 |L J=>obtain⟨E,A,G⟩:=h;exact⟨E,e _ A,a8 k g _ _ G⟩
 |D U J=>obtain⟨M,E,A,G,N,O⟩:=h;exact⟨M,E,⟨e _ A.1,λx Q=>k.t _ _ (A.2 x Q)⟩,G,a8 k g _ _ N,O⟩
def ai.mono{w:Wd}{v:V}(h:ai K as H w v)(S:aS K as m H)(T:Step as H A B):ai K A B w v:=j4 (S.kp T) (λ_ _ e=>T.get e) w v h
def ab.mono{ws:U4}{vs:U8}(h:ab K as H ws vs)(S:aS K as m H)(T:Step as H A B):ab K A B ws vs:=a8 (S.kp T) (λ_ _ e=>T.get e) ws vs h
def ab.kp{ws:U4}{vs:U8}(h:ab K as H ws vs)(k:Kp K H A):ab K as A ws vs:=a8 k (λ_ _ e=>e) ws vs h
def ai.kp{w:Wd}{v:V}(h:ai K as H w v)(k:Kp K H A):ai K as A w v:=j4 k (λ_ _ e=>e) w v h
def aJ:ai K as H .N v↔v=.N:=by rw[ai]
def ah:ai K as H (.bl b) v↔v=.bl b:=by rw[ai]
def aa:ai K as H (.int i) v↔v=.int i:=by rw[ai]
def aN:ai K as H (.str s) v↔v=.str ⟨s.toArray⟩:=by rw[ai]
def ag:ai K as H (.T xs) v↔∃a vs,v=.ref a/\bS K H a vs/\ab K as H xs vs:=by rw[ai]
def aV:ai K as H (.rol xs) v↔∃a vs,v=.ref a/\eU K H a vs/\ab K as H xs vs:=by rw[ai]
def aw:ai K as H (.ref l) v↔∃a,as[l]?=some a/\v=.ref a:=by rw[ai]
def au:ab K as H [] vs↔vs=[]:=by rw[ab]
def am:ab K as H (x::xs) vs↔∃v r,vs=v::r/\ai K as H x v/\ab K as H xs r:=by rw[ab]
theorem ab.length:∀{xs:U4}{vs:U8},ab K as H xs vs->xs.length=vs.length
 |[],vs,h=>by rw[au.mp h];rfl
 |x::xs,vs,h=>by
  obtain⟨v,r,rfl,_,t⟩:=am.mp h;simp[ab.length t]
theorem ab.get:∀{xs:U4}{vs:U8}{i:Nat}{x:Wd},ab K as H xs vs->xs[i]?=some x->∃v,vs[i]?=some v/\ai K as H x v
 |[],_,_,_,_,e=>by simp at e
 |x::xs,vs,0,y,h,e=>by
  obtain⟨v,r,rfl,q,t⟩:=am.mp h;simp at e;subst e;exact⟨v,rfl,q⟩
 |x::xs,vs,i+1,y,h,e=>by
  obtain⟨v,r,rfl,q,t⟩:=am.mp h;obtain⟨u,A,B⟩:=ab.get (i:=i) (x:=y) t (by simpa using e);exact⟨u,by simpa using A,B⟩
def ab.back:∀{xs:U4}{vs:U8}{i:Nat}{v:V},ab K as H xs vs->vs[i]?=some v->∃x,xs[i]?=some x/\ai K as H x v:=λ{xs vs i v} h e=>by
 have A:i<xs.length:=by rw[h.length];exact(Qa.mp e).1
 obtain⟨u,B,E⟩:=h.get (i:=i) (x:=xs[i]) (by simp[A]);rw[e]at B;cases B;exact⟨xs[i],by simp[A],E⟩
theorem ab.append:∀{xs ys:U4}{vs A:U8},ab K as H xs vs->ab K as H ys A->ab K as H (xs++ys) (vs++A)
 |[],ys,vs,A,h,B=>by rw[au.mp h];exact B
 |x::xs,ys,vs,A,h,B=>by
  obtain⟨v,r,rfl,q,t⟩:=am.mp h;exact am.mpr ⟨v,r++A,rfl,q,t.append B⟩
def ab.one{x:Wd}{v:V}(h:ai K as H x v):ab K as H [x] [v]:=am.mpr ⟨v,[],rfl,h,au.mpr rfl⟩
set_option tactic.hygienic true in
theorem ab.take:∀{xs:U4}{vs:U8}(n:Nat),ab K as H xs vs->ab K as H (xs.take n) (vs.take n)
 |_,_,0,_=>au.mpr rfl
 |[],vs,n+1,h=>by rw[au.mp h];exact au.mpr rfl
 |x::xs,vs,n+1,h=>by
  obtain⟨v,r,rfl,q,t⟩:=am.mp h;exact am.mpr ⟨v,r.take n,rfl,q,t.take n⟩
theorem ab.drop:∀{xs:U4}{vs:U8}(n:Nat),ab K as H xs vs->ab K as H (xs.drop n) (vs.drop n)
 |_,_,0,h=>h
 |[],vs,n+1,h=>by rw[au.mp h];exact au.mpr rfl
 |x::xs,vs,n+1,h=>by
  obtain⟨v,r,rfl,q,t⟩:=am.mp h;exact t.drop n
theorem ab.reverse:∀{xs:U4}{vs:U8},ab K as H xs vs->ab K as H xs.reverse vs.reverse
 |[],vs,h=>by rw[au.mp h];exact au.mpr rfl
 |x::xs,vs,h=>by
  obtain⟨v,r,rfl,q,t⟩:=am.mp h;rw[Wq,Wq];exact t.reverse.append (.one q)
theorem ab.rep (h:ab K as H xs vs):∀k:Nat,ab K as H (QI k xs).flatten (QI k vs).flatten
 |0=>au.mpr rfl
 |k+1=>by
  rw[Wa,Wa,Q8,Q8];exact h.append (ab.rep h k)
structure az(K:Qb)(as:S6)(H:Hp)(env:En)(σ:St):Prop where
 len:env.length=σ.length
 get:∀(i:Nat) (w:Wd),env[i]?=some (some w)->∃v,σ[i]?=some (some v)/\ai K as H w v
theorem az.mono{env:En}{σ:St}(G:az K as H env σ)(S:aS K as m H)(T:Step as H A B):az K A B env σ:=
 ⟨G.len,λi w e=>let⟨v,E,I⟩:=G.get i w e;⟨v,E,I.mono S T⟩⟩
theorem az.kp{env:En}{σ:St}(G:az K as H env σ)(k:Kp K H A):az K as A env σ:=
 ⟨G.len,λi w e=>let⟨v,B,E⟩:=G.get i w e;⟨v,B,E.kp k⟩⟩
theorem az.set{env:En}{σ:St}(G:az K as H env σ){w:Wd}{v:V}(h:ai K as H w v)(i:Nat):az K as H (env.set i (some w)) (σ.set i (some v)):=by
 refine⟨by simp[G.len],λj x e=>?_⟩;by_cases hj:j=i
 .subst hj;have hl:j<env.length:=by
   have:=(Qa.mp e).1;simpa using this
  rw[Wj hl]at e;cases e;exact⟨v,Wj (by rw[<-G.len];exact hl),h⟩
 .rw[QO (Ne.symm hj)]at e;obtain⟨u,A,B⟩:=G.get j x e;exact⟨u,by rw[QO (Ne.symm hj)];exact A,B⟩
def az.push{env:En}{σ:St}(G:az K as H env σ){w:Wd}{v:V}(h:ai K as H w v):az K as H (env++[some w]) (σ++[some v]):=by
 refine⟨by simp[G.len],λj x e=>?_⟩;by_cases hj:j<env.length
 .rw[Qf hj]at e;obtain⟨u,B,E⟩:=G.get j x e;exact⟨u,by rw[Qf (by rw[<-G.len];exact hj)];exact B,E⟩
 .rw[Qe (by lia)]at e;have A:j-env.length=0:=by
   cases I:j-env.length with
   |zero=>rfl
   |succ k=>rw[I]at e;simp at e
  rw[A]at e;simp at e;subst e;refine⟨v,?_,h⟩;rw[Qe (by rw[<-G.len];lia),<-G.len,A];rfl
noncomputable def ak(K:Qb)(as:S6)(H:Hp)(Q:VK)(r:Rz):Prop:=match r with
 |.ok w E=>∀A B v,Step as H A B->aS K A E B->ai K A B w v->Q v B
 |_=>False
def ak.step{Q:VK}{r:Rz}(h:ak K as H Q r)(T:Step as H A E):ak K A E Q r:=by
 cases r with
 |ok w G=>exact λB H2 v U S R=>h B H2 v (T.trans U) S R
 |no=>exact h
theorem ak.bind{Q G:VK}{r:Rz}{f:Wd->Me->Rz}(h:ak K as H Q (r.bind f))
  (k:∀w m' A B v,Step as H A B->aS K A m' B->ai K A B w v->ak K A B Q (f w m')->G v B):ak K as H G r:=by
 cases r with
 |ok w m'=>exact λE H2 v U S R=>k w m' E H2 v U S R (ak.step (r:=f w m') h U)
 |no=>exact h
def eX (h:ak K as H Q (r.bind f))(T:Step as H B E)(k:∀w m2 A H2 v,Step B E A H2->aS K A m2 H2->ai K A H2 w v->ak K as H Q (f w m2)->G v H2):ak K B E G r:=by
 cases r with
 |ok w I=>exact λA H2 v U S R=>k w I A H2 v U S R h
 |no=>exact h
noncomputable def aK(K:Qb)(g:En->Me->Rz):TE:=λB H Q=>∃as A m,aS K as m H/\az K as H A B/\ak K as H Q (g A m)
noncomputable def xN(K:Qb)(g:En->Me->Rz):TT:=λA H Q=>aK K g A H λv B=>∃b,v=.bl b/\Q b B
theorem ak.ok (h:ak K as H Q (.ok w m))(S:aS K as m H)(R:ai K as H w v):Q v H:=h as H v .refl S R
end
def PE.imp{X:Cx}{e:Expr}{t t':TE}(h:PE X e t)(k:∀σ H Q,t' σ H Q->t σ H Q):PE X e t':=λA s σ H Q I q=>h A s σ H Q I (k σ H Q q)
def PT.imp{X:Cx}{e:Expr}{t t':TT}(h:PT X e t)(k:∀σ H Q,t' σ H Q->t σ H Q):PT X e t':=λA s σ H Q I q=>h A s σ H Q I (k σ H Q q)
def PA.imp{X:Cx}{E:S8}{t t':TA}(h:PA X E t)(k:∀σ H Q,t' σ H Q->t σ H Q):PA X E t':=λB A s σ H Q I q=>h B A s σ H Q I (k σ H Q q)
def PS.imp{X:Cx}{st:Stmt}{t t':TS}(h:PS X st t)(k:∀D σ H,t' D σ H->t D σ H):PS X st t':=λA s σ H D I q=>h A s σ H D I (k D σ H q)
def cJ.imp{X:Cx}{st:S9}{t t':TS}(h:cJ X st t)(k:∀D σ H,t' D σ H->t D σ H):cJ X st t':=λA s σ H D I q=>h A s σ H D I (k D σ H q)
end Mini
namespace L2
open PySem PySem.Spec PyProof.Rows
section
variable{X:Cx}
noncomputable def ss(K:Qb):R2:=λx y H Q=>∃a b A,x=.ref a/\y=.ref b/\bS K H a []/\bS K H b A/\Q (.ref b) H
def Gs:ci X (Nf .Add) (ss X.K):=by
 intro B s f H x y v u Q I O U h;obtain⟨a,b,e,rfl,rfl,Y,j,q⟩:=h;cases O;cases U;obtain⟨k,z,o,_⟩:=I.tuple Y;obtain⟨A,t,p,_⟩:=I.tuple j;cases z;obtain⟨⟨n,d1,f1,d⟩,E,G,c,J⟩:=o;obtain⟨⟨i,d2,f2,l⟩,L,M,g,N⟩:=p;simp only at G M J N;subst G M J N;have m:=tuple_addW0 a b #[] A.toArray c g d1 d2 d l rfl;exact Nu ⟨_,E,rfl⟩ ⟨_,L,rfl⟩ Nv Nw PySem.F.slot_tuple_add PySem.F.entry_tuple_add (PySem.F.args_tuple_add_2 _ _) m ⟨E,L,.ref b,H,I,rfl,q⟩
end
end L2
namespace Mini
open PySem PySem.Spec PyProof.Rows L2
section
variable{K:Qb}{as:S6}{H H':Hp}{m:Me}{Q:VK}{a p:Addr}{l:Nat}{ws xs:U4}{vs us:U8}
def yQ:ao<=sizeLine:=by rw[sizeLine_eq];decide
def aS.new(S:aS K as m H)(A:H p=none):p∉as:=λz=>by
 obtain⟨us,e,_⟩:=S.isLst z;rw[A]at e;cases e
def aS.alloc(S:aS K as m H)(E:H p=none)(R:ab K as H ws vs):Step as H (as++[p]) (aL H p (.L vs))/\aS K (as++[p]) (m++[.L ws]) (aL H p (.L vs)):=by
 have I:=S.new E;have T:Step as H (as++[p]) (aL H p (.L vs)):=⟨⟨[p],rfl⟩,λb o h _=>by rw[zu (zF h E)];exact h,λb J=>by
  rcases Qs.mp J with z|z
  .exact .inl z
  .exact .inr (by rw[Ql.mp z];exact E)⟩
 refine⟨T,⟨by simp[S.len],?_,λl b o A B=>?_⟩⟩
 .refine QW.mpr ⟨S.nd,by simp,λx M y N=>?_⟩;rw[Ql.mp N];rintro rfl;exact I M
 .by_cases hl:l<as.length
  .rw[Qf hl]at A;rw[Qf (by rw[<-S.len];exact hl)]at B;have q:=S.obj l b o A B;cases o with
   |L j=>
    obtain⟨O,e,r⟩:=q;exact⟨O,by rw[zu (zF e E)];exact e,r.mono S T⟩
   |D U us=>exact bu.mono (ob:=.D U us) (S.kp T) (λ_ _ e=>T.get e) (λo e=>by rw[zu (zF e E)];exact e) q
  .rw[Qe (by lia)]at A;rw[Qe (by rw[<-S.len];lia)]at B;have G:l-as.length=0:=by
    cases Y:l-as.length with
    |zero=>rfl
    |succ k=>rw[Y]at A;simp at A
   rw[G]at A;rw[<-S.len,G]at B;simp at A B;subst A;subst B;exact⟨vs,zw,R.mono S T⟩
theorem aS.set(S:aS K as m H)(G:as[l]?=some a)(M:m[l]?=some (.L xs))(R:ab K as H ws vs):Step as H as (aL H a (.L vs))/\aS K as (m.set l (.L ws)) (aL H a (.L vs)):=by
 have I:a∈as:=Qv G;have T:Step as H as (aL H a (.L vs)):=⟨⟨[],by simp⟩,λb o h A=>by
  rw[zu (by rintro rfl;exact A I)];exact h,λb A=>.inl A⟩
 refine⟨T,⟨by simp[S.len],S.nd,λk b o B E=>?_⟩⟩;by_cases J:k=l
 .subst J;rw[G]at B;cases B;rw[Wj (Qa.mp M).1]at E;cases E;exact⟨vs,zw,R.mono S T⟩
 .rw[QO (Ne.symm J)]at E;have q:=S.obj k b o B E;have A:b≠a:=by
   rintro rfl;obtain⟨j,N⟩:=Qa.mp B;obtain⟨u,O⟩:=Qa.mp G;exact J ((W7 S.nd).mp (N.trans O.symm))
  cases o with
  |L z=>
   obtain⟨U,e,r⟩:=q;exact⟨U,by rw[zu A];exact e,r.mono S T⟩
  |D Y us=>exact bu.mono (ob:=.D Y us) (S.kp T) (λ_ _ e=>T.get e) (λo e=>by rw[zu A];exact e) q
def aS.keep(S:aS K as m H)(T:Step as H as H')(B:∀a∈as,∀o,H a=some o->H' a=some o):aS K as m H':=by
 refine⟨S.len,S.nd,λl b o A E=>?_⟩;have q:=S.obj l b o A E;cases o with
 |L J=>
  obtain⟨G,e,r⟩:=q;exact⟨G,B b (Qv A) _ e,r.mono S T⟩
 |D I us=>exact bu.mono (ob:=.D I us) (S.kp T) (λ_ _ e=>T.get e) (λo e=>B b (Qv A) _ e) q
theorem aS.T(S:aS K as m H)(A:H p=none)(R:ab K as H ws vs):Step as H as (aL H p (.T vs))/\aS K as m (aL H p (.T vs))/\ai K as (aL H p (.T vs)) (.T ws) (.ref p):=by
 have T:Step as H as (aL H p (.T vs)):=⟨⟨[],by simp⟩,λb o h _=>by rw[zu (zF h A)];exact h,λb B=>.inl B⟩;exact⟨T,S.keep T λb _ o e=>by rw[zu (zF e A)];exact e,ag.mpr ⟨p,vs,rfl,bS.of zw,R.mono S T⟩⟩
def xO(S:aS K as m H)(R:ab K as H ws vs)(h:ak K as H Q (alloc m ws)):vs.length<=ao/\∀p,H p=none->Q (.ref p) (aL H p (.L vs)):=by
 unfold Mini.alloc at h;by_cases hl:ws.length<=ao
 .rw[OB hl]at h;refine⟨by rw[<-R.length];exact hl,λp A=>?_⟩;obtain⟨T,B⟩:=S.alloc A R;refine h _ _ _ T B (aw.mpr ⟨p,?_,rfl⟩);rw[<-S.len,Qe (Qh _)];simp
 .rw[OC hl]at h;exact h.elim
def yg(S:aS K as m H)(A:m[l]?=some (.L xs)):∃a vs,as[l]?=some a/\H a=some (.L vs)/\ab K as H xs vs:=by
 obtain⟨a,B,vs,e,r⟩:=S.get A;exact⟨a,vs,B,e,r⟩
def zU (h:zD m l=some xs):m[l]?=some (.L xs):=by
 unfold zD at h;cases e:m[l]? with
 |none=>rw[e]at h;cases h
 |some o=>cases o with
  |L A=>rw[e]at h;cases h;rfl
  |D B us=>rw[e]at h;cases h
def lz (S:aS K as m H)(R:ai K as H w v)(h:wr m w=some xs):∃p vs,v=.ref p/\(bg K H p vs\/bS K H p vs)/\ab K as H xs vs:=by
 cases w with
 |T B=>
  cases h;obtain⟨b,vs,rfl,q,r⟩:=ag.mp R;exact⟨b,vs,rfl,.inr q,r⟩
 |rol B=>
  cases h;obtain⟨b,vs,rfl,q,r⟩:=aV.mp R;exact⟨b,vs,rfl,.inl q.sq,r⟩
 |ref l=>
  obtain⟨b,E,rfl⟩:=aw.mp R;obtain⟨a,vs,A,e,r⟩:=yg S (zU h);rw[E]at A;cases A;exact⟨b,vs,rfl,.inl (bg.of e),r⟩
 |N=>cases h
 |bl b=>cases h
 |int i=>cases h
 |str s=>cases h
noncomputable def fY:Bo->MW
 |.add=>.Add |.sub=>.Sub |.mul=>.Mult |.fdiv=>.FloorDiv |.mod=>.Mod |.pow=>.Pow
noncomputable def rB(K:Qb):Bo->R2
 |.add=>λx y H Q=>eL (λi j=>.int (i+j)) x y H Q\/(rP x y H Q\/(sA K x y H Q\/ss K x y H Q))
 |.sub=>eL λi j=>.int (i-j)
 |.mul=>λx y H Q=>rI eW (λi j=>.int (i*j)) x y H Q\/rO x y H Q
 |.fdiv=>rI rH λi j=>.int (i/j)
 |.mod=>rI (λ_ j=>0<j) λi j=>.int (i%j)
 |.pow=>rI rG λi j=>.int (i^j.toNat)
def Dq (op:Bo):ci X (Nf (fY op)) (rB X.K op):=by
 cases op with
 |add=>exact fF.or (fE.or (eM.or Gs))
 |sub=>exact EI
 |mul=>exact fD.or E5
 |fdiv=>exact Hi
 |mod=>exact EH
 |pow=>exact EG
def kZ (h:xg i=true):-(2^64)<i/\i<2^64:=by
 unfold xg cN at h;rw[QD,decide_eq_true_iff,decide_eq_true_iff]at h;lia
def vA [Decidable c](h:ak K as H Q (if c then r else .no)):c/\ak K as H Q r:=by
 by_cases A:c
 .rw[OB A]at h;exact⟨A,h⟩
 .rw[OC A]at h;exact h.elim
def Gr (h:ak K as H Q (dF .add (.ref a) (.ref b) m)):∃xs ys,m[a]?=some (.L xs)/\m[b]?=some (.L ys)/\ak K as H Q (alloc m (xs++ys)):=by
 unfold dF at h;dsimp only at h;generalize m[a]?=p at h ⊢;generalize m[b]?=q at h ⊢;cases p with
 |none=>exact h.elim
 |some o=>
  cases o with
  |D A us=>exact h.elim
  |L xs=>
   cases q with
   |none=>exact h.elim
   |some o=>
    cases o with
    |D A us=>exact h.elim
    |L ys=>exact⟨xs,ys,rfl,rfl,h⟩
def Gq (h:ak K as H Q (dF .mul (.ref a) (.int k) m)):∃xs,m[a]?=some (.L xs)/\ak K as H Q (if -ao<=k/\k<=ao then alloc m (QI k.toNat xs).flatten else .no):=by
 unfold dF at h;dsimp only at h;generalize m[a]?=p at h ⊢;cases p with
 |none=>exact h.elim
 |some o=>
  cases o with
  |D A us=>exact h.elim
  |L xs=>exact⟨xs,rfl,h⟩
set_option tactic.hygienic true in
def EY (S:aS K as m H)(O:ai K as H x v)(G:ai K as H y u)(h:ak K as H Q (dF op x y m)):rB K op v u H Q:=by
 cases x with
 |int i=>
  cases y with
  |int j=>
   obtain rfl:=aa.mp O;obtain rfl:=aa.mp G;cases op with
   |add=>exact .inl ⟨i,j,rfl,rfl,h.ok S (aa.mpr rfl)⟩
   |sub=>exact⟨i,j,rfl,rfl,h.ok S (aa.mpr rfl)⟩
   |mul=>
    obtain⟨I,h⟩:=vA h;refine .inl ⟨i,j,rfl,rfl,?_,h.ok S (aa.mpr rfl)⟩;rcases Bool.or_eq_true_iff.mp I with q|q
    .exact .inl (kZ q)
    .exact .inr (kZ q)
   |fdiv=>
    obtain⟨I,h⟩:=vA h;exact⟨i,j,rfl,rfl,I,h.ok S (aa.mpr rfl)⟩
   |mod=>
    obtain⟨I,h⟩:=vA h;exact⟨i,j,rfl,rfl,I,h.ok S (aa.mpr rfl)⟩
   |pow=>
    obtain⟨⟨n,w,h3⟩,h⟩:=vA h;have h4:=kZ h3;exact⟨i,j,rfl,rfl,⟨n,w,by lia⟩,h.ok S (aa.mpr rfl)⟩
  |_=>exact h.elim
 |ref a=>
  obtain⟨pa,d,rfl⟩:=aw.mp O;cases y with
  |ref b=>
   obtain⟨L,hb,rfl⟩:=aw.mp G;cases op with
   |add=>
    obtain⟨xs,M,U,e2,h⟩:=Gr h;obtain⟨Y,B,A,z,E⟩:=yg S U;rw[d]at A;cases A;obtain⟨pb',N,J,eb,rb⟩:=yg S e2;rw[hb]at J;cases J;obtain⟨hl,q⟩:=xO S (E.append rb) h;rw[Qw]at hl;exact .inr (.inl ⟨pa,L,B,N,rfl,rfl,z,eb,Qx hl yQ,q⟩)
   |_=>exact h.elim
  |int k=>
   obtain rfl:=aa.mp G;cases op with
   |mul=>
    obtain⟨xs,U,h⟩:=Gq h;obtain⟨hk,h⟩:=vA h;obtain⟨Y,B,A,z,E⟩:=yg S U;rw[d]at A;cases A;obtain⟨hl,q⟩:=xO S (E.rep k.toNat) h;rw[uB]at hl;have c:(ao:Int)=100000:=rfl;exact .inr ⟨pa,k,B,rfl,rfl,z,by lia,by lia,by rw[W3];exact Qx hl yQ,q⟩
   |_=>exact h.elim
  |_=>exact h.elim
 |T xs=>
  cases y with
  |T M=>
   cases op with
   |add=>
    obtain⟨hc,h⟩:=vA h;obtain⟨pa,B,rfl,o,E⟩:=ag.mp O;obtain⟨L,N,rfl,g,rb⟩:=ag.mp G;have f:=E.length;have t:=rb.length;by_cases s:B=[]
    .subst s;obtain rfl:xs=[]:=by
      cases xs with
      |nil=>rfl
      |cons x xs=>simp at f
     exact .inr (.inr (.inr ⟨pa,L,N,rfl,rfl,o,g,h.ok S G⟩))
    refine .inr (.inr (.inl ⟨pa,L,B,N,rfl,rfl,o,g,s,?_,λe=>?_,λe p hp=>?_⟩))
    .rw[<-f,<-t];exact Qx hc yQ
    .subst e;obtain rfl:M=[]:=by
      cases M with
      |nil=>rfl
      |cons y M=>simp at t
     refine h.ok S (ag.mpr ⟨pa,B,rfl,o,?_⟩);rw[Q6];exact E
    .obtain ⟨T,S',R'⟩:=S.T hp (E.append rb);exact h _ _ _ T S' R'
   |_=>exact h.elim
  |_=>exact h.elim
 |_=>exact h.elim
end
end Mini
namespace Mini
open PySem PySem.Spec PyProof.Rows L2
open PySem.SeqAt
section
variable{X:Cx}{pins:O6}{σ:St}{s:Shared}{as:S6}{H:Hp}{m:Me}
def An (I:Inv X pins σ H s)(E:bS X.K H a xs)(G:bg X.K H a ys):False:=by
 obtain⟨A,_,p,_⟩:=I.tuple E;obtain⟨B,_,q,_⟩:=I.list G;exact ne_of_list_tuple q.isList (show s.heap.IsTuple a A.toArray from p) rfl
def tQ (I:Inv X pins σ H s)(E:bS X.K H a xs)(A:H a=some u)(B:LD u):False:=by
 rcases E with (q|⟨o,q⟩)|⟨o,_,_,G,_⟩
 .rw[A]at q;cases q;exact B
 .rw[A]at q;cases q;exact B
 .have:=(I.bs a o (I.ok.mod.kin a o G)).2;rw[this]at A;cases A
def qE (I:Inv X pins σ H s)(B:KL X.K a xs)(A:H a=some u):False:=by
 obtain⟨o,_,_,E,_⟩:=B;have:=(I.bs a o (I.ok.mod.kin a o E)).2;rw[this]at A;cases A
mutual
theorem jC(I:Inv X pins σ H s)(S:aS X.K as m H):∀(w B:Wd) (v:V),ai X.K as H w v->ai X.K as H B v->w=B
 |.N,B,v,h,A=>by
  obtain rfl:=aJ.mp h;cases B with
  |N=>rfl
  |_=>first|cases aJ.mp A|cases ah.mp A|cases aa.mp A|cases aN.mp A|(obtain⟨_,_,e,_⟩:=ag.mp A;cases e)|(obtain⟨_,_,e,_⟩:=aV.mp A;cases e)|(obtain⟨_,_,e⟩:=aw.mp A;cases e)
 |.bl c,B,v,h,A=>by
  obtain rfl:=ah.mp h;cases B with
  |bl b=>cases ah.mp A;rfl
  |_=>first|cases aJ.mp A|cases ah.mp A|cases aa.mp A|cases aN.mp A|(obtain⟨_,_,e,_⟩:=ag.mp A;cases e)|(obtain⟨_,_,e,_⟩:=aV.mp A;cases e)|(obtain⟨_,_,e⟩:=aw.mp A;cases e)
 |.int c,B,v,h,A=>by
  obtain rfl:=aa.mp h;cases B with
  |int i=>cases aa.mp A;rfl
  |_=>first|cases aJ.mp A|cases ah.mp A|cases aa.mp A|cases aN.mp A|(obtain⟨_,_,e,_⟩:=ag.mp A;cases e)|(obtain⟨_,_,e,_⟩:=aV.mp A;cases e)|(obtain⟨_,_,e⟩:=aw.mp A;cases e)
 |.str c,B,v,h,A=>by
  obtain rfl:=aN.mp h;cases B with
  |str x=>
   have e:=aN.mp A;injection e with e
   injection e with e
   have:c=x:=by simpa using OE W2 e
   rw[this]
  |_=>first|cases aJ.mp A|cases ah.mp A|cases aa.mp A|cases aN.mp A|(obtain⟨_,_,e,_⟩:=ag.mp A;cases e)|(obtain⟨_,_,e,_⟩:=aV.mp A;cases e)|(obtain⟨_,_,e⟩:=aw.mp A;cases e)
 |.T Q,B,v,h,A=>by
  obtain⟨a,U,rfl,q,r⟩:=ag.mp h;cases B with
  |T G=>
   obtain⟨b,M,e,q',J⟩:=ag.mp A;cases e;obtain rfl:=I.tuple_inj q q';rw[cR I S Q G U r J]
  |rol G=>
   obtain⟨b,M,e,q',J⟩:=aV.mp A;cases e;exact(An I q q'.sq).elim
  |ref l=>
   obtain⟨b,O,e⟩:=aw.mp A;cases e;obtain⟨u,E,L⟩:=S.isLst (Qv O);exact(tQ I q E L).elim
  |_=>first|cases aJ.mp A|cases ah.mp A|cases aa.mp A|cases aN.mp A|(obtain⟨_,_,e,_⟩:=ag.mp A;cases e)|(obtain⟨_,_,e,_⟩:=aV.mp A;cases e)|(obtain⟨_,_,e⟩:=aw.mp A;cases e)
 |.rol Q,B,v,h,A=>by
  obtain⟨a,U,rfl,q,r⟩:=aV.mp h;cases B with
  |T G=>
   obtain⟨b,M,e,q',J⟩:=ag.mp A;cases e;exact(An I q' q.sq).elim
  |rol G=>
   obtain⟨b,M,e,q',J⟩:=aV.mp A;cases e;obtain rfl:=I.list_inj q.sq q'.sq;rw[cR I S Q G U r J]
  |ref l=>
   obtain⟨b,O,e⟩:=aw.mp A;cases e;obtain⟨u,E,L⟩:=S.isLst (Qv O);rcases q with⟨o,q⟩|q
   .rw[E]at q;cases q;exact L.elim
   .exact (qE I q E).elim
  |_=>first|cases aJ.mp A|cases ah.mp A|cases aa.mp A|cases aN.mp A|(obtain⟨_,_,e,_⟩:=ag.mp A;cases e)|(obtain⟨_,_,e,_⟩:=aV.mp A;cases e)|(obtain⟨_,_,e⟩:=aw.mp A;cases e)
 |.ref l,B,v,h,A=>by
  obtain⟨a,Y,rfl⟩:=aw.mp h;obtain⟨u,E,L⟩:=S.isLst (Qv Y);cases B with
  |T G=>
   obtain⟨b,M,e,q',J⟩:=ag.mp A;cases e;exact(tQ I q' E L).elim
  |rol G=>
   obtain⟨b,M,e,q',J⟩:=aV.mp A;cases e;rcases q' with⟨o,q'⟩|q'
   .rw[E]at q';cases q';exact L.elim
   .exact (qE I q' E).elim
  |ref k=>
   obtain⟨b,O,e⟩:=aw.mp A;cases e;obtain⟨z,j⟩:=Qa.mp Y;obtain⟨p,E⟩:=Qa.mp O;rw[(W7 S.nd).mp (j.trans E.symm)]
  |_=>first|cases aJ.mp A|cases ah.mp A|cases aa.mp A|cases aN.mp A|(obtain⟨_,_,e,_⟩:=ag.mp A;cases e)|(obtain⟨_,_,e,_⟩:=aV.mp A;cases e)|(obtain⟨_,_,e⟩:=aw.mp A;cases e)
theorem cR(I:Inv X pins σ H s)(S:aS X.K as m H):∀(xs ys:U4) (vs:U8),ab X.K as H xs vs->ab X.K as H ys vs->xs=ys
 |[],ys,vs,h,A=>by
  obtain rfl:=au.mp h;cases ys with
  |nil=>rfl
  |cons y ys=>obtain⟨_,_,e,_⟩:=am.mp A;cases e
 |x::xs,ys,vs,h,A=>by
  obtain⟨v,r,rfl,q,t⟩:=am.mp h;cases ys with
  |nil=>cases au.mp A
  |cons y ys=>
   obtain⟨G,J,e,B,E⟩:=am.mp A;cases e;rw[jC I S x y v q B,cR I S xs ys r t E]
end
theorem nV:∀{xs ys:U4}{r:Bool},cY p xs ys=some r ->
  ∃f:Nat->Bool,(∀j x y,xs[j]?=some x->ys[j]?=some y->p x y=some (f j))/\r=(QA (min xs.length ys.length)).all f
 |[],ys,r,h=>by
  unfold cY at h;cases h;exact⟨λ_=>true,λj x y e=>by simp at e,by simp⟩
 |_::_,[],r,h=>by
  unfold cY at h;cases h;exact⟨λ_=>true,λj x y _ e=>by simp at e,by simp⟩
 |x::xs,y::ys,r,h=>by
  unfold cY at h;cases A:p x y with
  |none=>rw[A]at h;cases h
  |some b=>
   rw[A]at h;simp only[]at h;cases B:cY p xs ys with
   |none=>rw[B]at h;cases h
   |some L=>
    rw[B]at h;cases h;obtain⟨f,H,e⟩:=nV (xs:=xs) (ys:=ys) B;refine⟨λj=>match j with|0=>b|j+1=>f j,λj I J E G=>?_,?_⟩
    .cases j with
     |zero=>simp at E G;subst E;subst G;exact A
     |succ j=>exact H j I J (by simpa using E) (by simpa using G)
    .rw[Wx,Wx,Nat.succ_min_succ,WN,W9,Uj,e];rfl
theorem Am:∀(k:Nat) (w:Wd) (r:Bool),cE m k w w=some r->r=true
 |0,w,r,h=>by cases h
 |k+1,w,r,h=>by
  cases w with
  |bl b=>cases h;simp
  |int i=>cases h;simp
  |str x=>cases h;simp
  |T A=>
   replace h:(cY (cE m k) A A).map (· && decide (A.length=A.length))=some r:=h
   cases E:cY (cE m k) A A with
   |none=>rw[E]at h;cases h
   |some I=>
    rw[E]at h;simp only[QR,decide_true,Bool.and_true]at h;cases h;obtain⟨f,H,rfl⟩:=nV E;rw[WF];intro j hj;have B:j<A.length:=by simpa using hj
    exact Am k A[j] (f j) (H j A[j] A[j] (by simp[B]) (by simp[B]))
  |ref l=>
   replace h:(if l=l then(if bU m l then some true else none)else match m[l]?,m[l]? with
    |some (.L A),some (.L G)=>if A.length=G.length then cY (cE m k) A G else some false
    |_,_=>none)=some r:=h
   simp only[if_true]at h;split at h
   .cases h;rfl
   .cases h
  |_=>cases h
structure LG(A:MG)(s:Shared)(u u':Value)(r:Bool):Prop where
 it:EqAt A s u u' r
 eq:RcAt A s u u' r
 ne:RcNeAt A s u u' (! r)
def cV (S:aS X.K as m H)(I:Inv X A σ H s)(h:bU m l=true)(R:ai X.K as H (.ref l) v)(E:RelV v u):∃b its,u=.ref b/\s.heap.IsList b its:=by
 unfold bU at h;cases e:m[l]? with
 |none=>rw[e]at h;cases h
 |some o=>
  cases o with
  |D M N=>rw[e]at h;cases h
  |L O=>
   obtain⟨b,G,rfl⟩:=aw.mp R;obtain⟨a,Q,B,J,U⟩:=yg S e;rw[G]at B;cases B;obtain rfl:u=.ref b:=E;obtain⟨its,_,p,_⟩:=I.list (bg.of J);exact⟨b,_,rfl,p.isList⟩
def ni (I:Inv X A σ H s)(R:ai X.K as H (.T xs) v)(B:RelV v u):∃b vs its,v=.ref b/\u=.ref b/\ab X.K as H xs vs/\av vs its/\s.heap.IsTuple b its.toArray:=by
 obtain⟨b,vs,rfl,q,r⟩:=ag.mp R;obtain rfl:u=.ref b:=B;obtain⟨its,E,p,_⟩:=I.tuple q;exact⟨b,vs,its,rfl,rfl,r,E,p⟩
set_option tactic.hygienic true in
theorem i9(I:Inv X pins σ H s)(S:aS X.K as m H):∀(k:Nat) (A:MG) (w n:Wd) (v v':V) (u u':Value) (r:Bool),A.units+k<Nj->cE m k w n=some r ->
  ai X.K as H w v->ai X.K as H n v'->RelV v u->RelV v' u'->LG A s u u' r
 |0,_,_,_,_,_,_,_,_,_,h,_,_,_,_=>by cases h
 |k+1,A,w,n,v,v',u,u',r,hu,h,R,a,ru,N=>by
  have G:A.units<Nj:=by lia
  have hu1:A.in1.units+k<Nj:=by show A.units+1+k<Nj;lia
  -- items,pair by pair
  have Y:∀{L J:U4}{vs us:U8}{E B:R6}{r:Bool},ab X.K as H L vs->ab X.K as H J us->av vs E->av us B->cY (cE m k) L J=some r ->
    ∃f:Nat->Bool,(∀j (h1:j<E.toArray.size) (h2:j<B.toArray.size),EqAt A.in1 s E.toArray[j] B.toArray[j] (f j))/\r=(QA (min E.toArray.size B.toArray.size)).all f/\E.toArray.size=L.length/\B.toArray.size=J.length:=by
   intro L J vs us E B r r1 r2 rv M he;obtain⟨f,hf,e⟩:=nV he;have l1:=r1.length;have l2:=r2.length;have l3:=rv.length;have l4:=M.length;have s1:E.toArray.size=L.length:=by simp;lia
   have s2:B.toArray.size=J.length:=by simp;lia
   refine⟨f,λj h1 h2=>?_,by rw[e,s1,s2],s1,s2⟩;have hj:j<L.length:=by lia
   have hj2:j<J.length:=by lia
   obtain⟨v1,O,q1⟩:=r1.get (i:=j) (x:=L[j]) (by simp[hj]);obtain⟨v2,U,q2⟩:=r2.get (i:=j) (x:=J[j]) (by simp[hj2]);obtain⟨u1,e3,q3⟩:=rv.get O;obtain⟨u2,e4,q4⟩:=M.get U;have z:=i9 I S k A.in1 L[j] J[j] v1 v2 u1 u2 (f j) hu1 (hf j _ _ (by simp[hj]) (by simp[hj2])) q1 q2 q3 q4;obtain⟨_,e5⟩:=Qa.mp e3;obtain⟨_,e6⟩:=Qa.mp e4;have g1:E.toArray[j]=u1:=by simpa using e5
   have g2:B.toArray[j]=u2:=by simpa using e6
   rw[g1,g2];exact z.it
  cases w with
  |T L=>
   obtain⟨b,vs,E,rfl,rfl,r1,rv,p⟩:=ni I R ru;cases n with
   |T J=>
    obtain⟨b',vs',B,rfl,rfl,r1',M,o⟩:=ni I a N;have rc:RcAt A s (.ref b) (.ref b') r/\RcNeAt A s (.ref b) (.ref b') (! r):=by
     replace h:(cY (cE m k) L J).map (· && decide (L.length=J.length))=some r:=h
     cases hr:cY (cE m k) L J with
     |none=>rw[hr]at h;cases h
     |some r'=>
      rw[hr]at h;simp only[QR]at h;cases h;obtain⟨f,hf,e,z1,z2⟩:=Y r1 r1' rv M hr;have U:((QA (min E.toArray.size B.toArray.size)).all f&&E.toArray.size==B.toArray.size)=(r'&&decide (L.length=J.length)):=by
       rw[e,z1,z2];congr 1
      exact⟨U▸RcAt.tuples p o G hf,U▸RcNeAt.tuples p o G hf⟩
    refine⟨?_,rc.1,rc.2⟩;by_cases hb:b=b'
    .subst hb;have e:=jC I S _ _ _ R a;rw[<-e]at h;obtain rfl:=Am _ _ _ h;exact EqAt.same _
    .exact EqAt.of_refs hb rc.1
   |int i=>
    cases h;obtain rfl:=aa.mp a;obtain⟨t,rfl⟩:=N;exact⟨EqAt.tuple_int i t p G,RcAt.tuple_int i t p G,RcNeAt.tuple_int i t p G⟩
   |_=>cases h
  |ref l=>
   cases n with
   |ref l'=>
    obtain⟨b,hb,rfl⟩:=aw.mp R;obtain⟨b',g,rfl⟩:=aw.mp a;obtain rfl:u=.ref b:=ru;obtain rfl:u'=.ref b':=N
    replace h:(if l=l' then(if bU m l then some true else none)else match m[l]?,m[l']? with
     |some (.L L),some (.L J)=>if L.length=J.length then cY (cE m k) L J else some false
     |_,_=>none)=some r:=h
    by_cases hll:l=l'
    .subst hll;rw[hb]at g;cases g;rw[OB rfl]at h;split at h
     .rename_i hil;cases h;obtain⟨c,E,ec,q⟩:=cV S I hil R (u:=.ref b) rfl;cases ec;have al:(QA E.size).all (λ_=>true)=true:=by simp
      have O:=RcAt.lists (A:=A) (e:=λ_=>true) q q rfl G (λj h1 h2=>EqAt.same _);have U:=RcNeAt.lists (A:=A) (e:=λ_=>true) q q rfl G (λj h1 h2=>EqAt.same _);rw[al]at O U;exact⟨EqAt.same _,O,U⟩
     .cases h
    .rw[OC hll]at h;have hbb:b≠b':=by
      rintro rfl;obtain⟨i1,O⟩:=Qa.mp hb;obtain⟨i2,U⟩:=Qa.mp g;exact hll ((W7 S.nd).mp (O.trans U.symm))
     split at h
     .rename_i L J m1 m2;obtain⟨a1,vs,h1,g1,r1⟩:=yg S m1;rw[hb]at h1;cases h1;obtain⟨a2,us,h2,g2,r2⟩:=yg S m2;rw[g]at h2;cases h2;obtain⟨E,rv,p,_⟩:=I.list (bg.of g1);obtain⟨B,M,o,_⟩:=I.list (bg.of g2);split at h
      .rename_i hl;obtain⟨f,hf,e,z1,z2⟩:=Y r1 r2 rv M h;have Q:E.toArray.size=B.toArray.size:=by rw[z1,z2,hl]
       rw[<-Q,Nat.min_self]at e;have O:=RcAt.lists p.isList o.isList Q G hf;have U:=RcNeAt.lists p.isList o.isList Q G hf;rw[<-e]at O U;exact⟨EqAt.of_refs hbb O,O,U⟩
      .rename_i hl;cases h;have l1:=r1.length;have l2:=r2.length;have l3:=rv.length;have l4:=M.length;have Q:(E.toArray.size != B.toArray.size)=true:=by
        simp;lia
       have O:=RcAt.lists_lengths (A:=A) p.isList o.isList Q G;exact⟨EqAt.of_refs hbb O,O,RcNeAt.lists_lengths p.isList o.isList Q G⟩
     .cases h
   |_=>cases h
  |bl c=>
   obtain rfl:=ah.mp R;obtain rfl:u=.bool c:=ru;cases n with
   |bl d=>
    cases h;obtain rfl:=ah.mp a;obtain rfl:u'=.bool d:=N;exact⟨EqAt.bool_bool c d,RcAt.bool_bool c d,RcNeAt.bool_bool c d⟩
   |_=>cases h
  |int i=>
   obtain rfl:=aa.mp R;obtain⟨t,rfl⟩:=ru;cases n with
   |T J=>
    cases h;obtain⟨b',vs',B,rfl,rfl,r1',M,o⟩:=ni I a N;exact⟨EqAt.int_tuple i t o G,RcAt.int_tuple i t o G,RcNeAt.int_tuple i t o G⟩
   |int j=>
    cases h;obtain rfl:=aa.mp a;obtain⟨t',rfl⟩:=N;have e:decide (i=j)=(i==j):=by rw[Bool.beq_eq_decide_eq]
    rw[e];exact⟨EqAt.int_int i t j t',RcAt.int_int i t j t',RcNeAt.int_int i t j t'⟩
   |_=>cases h
  |str x=>
   obtain rfl:=aN.mp R;obtain⟨t,rfl⟩:=ru;cases n with
   |str y=>
    cases h;obtain rfl:=aN.mp a;obtain⟨t',rfl⟩:=N;have e:decide (x=y)=((⟨x.toArray⟩:Str) == ⟨y.toArray⟩):=by
     by_cases hxy:x=y
     .subst hxy;simp
     .have:¬(⟨x.toArray⟩:Str)=⟨y.toArray⟩:=λz=>by
       injection z with z
       exact hxy (by simpa using OE W2 z)
      rw[OA hxy];exact(beq_eq_false_iff_ne.mpr this).symm
    rw[e];exact⟨EqAt.str_str _ t _ t',RcAt.str_str _ t _ t',RcNeAt.str_str _ t _ t'⟩
   |_=>cases h
  |_=>cases h
end
end Mini
namespace L2
open PySem PySem.Spec PyProof.Rows PySem.SeqAt
section
variable{prog:My}{w:Mz}{A:MG}{E:O2}{s:Shared}
def KG {stored:R6}(H:∀v∈stored,∃G b,v=.ref b/\NW (NS prog w) s.heap G b)(h:Q false s):MK (ML prog w) A (tableMayTell (.int i t) stored) Q E s:=by
 unfold tableMayTell;split
 .exact M9 h
 .rw[eqIsQuiet_byValue 8 (show carriedByValue (.int i t)=true from rfl)];refine MX (M9 ?_);simp only[Wz,QG,if_false];refine MX ?_;refine NZ _ (λB r I=>I=s/\r=(none,())/\∀v∈B,∃G b,v=.ref b/\NW (NS prog w) s.heap G b) _ ?_ ?_ _ _ ⟨rfl,rfl,H⟩
  .rintro v B r I ⟨rfl,rfl,J⟩;obtain⟨G,b,rfl,L⟩:=J v QT;refine MX (wpAny_eqIsQuiet_tuple L ?_);simp only[Wz,QG,if_false];exact M9 ⟨rfl,rfl,λv M=>J v (Qo _ M)⟩
  .rintro r I ⟨rfl,rfl,_⟩;exact M9 h
def Jd {xs:List TK}(f:A.units<Nj)(N:s.heap.get? d=some o)(O:o.data=.dict B ep)(m:B.toList=xs.map iG)(U:∀x∈xs,NW (NS prog w) s.heap x.1 x.2.1)(h:Q none s):
  MK (ML prog w) A (dictFind d (.int i t) (hashInt i)) Q E s:=by
 have G:∀e∈B,∃x∈xs,e=iG x:=by
  intro e I;have:e∈xs.map iG:=m▸Array.mem_toList_iff.mpr I;obtain⟨x,Y,rfl⟩:=QP.mp this;exact⟨x,Y,rfl⟩
 have k:∀v∈(placesWithHash B.size (λi=>B[i]?.map (·.hash)) (hashInt i)).filterMap (λi=>B[i]?.map (·.key)),∃a b,v=.ref b/\NW (NS prog w) s.heap a b:=by
  intro v y;obtain⟨j,_,g⟩:=VU.mp y;cases J:B[j]? with
  |none=>rw[J]at g;cases g
  |some e=>
   rw[J]at g;obtain rfl:e.key=v:=by simpa using g
   obtain⟨x,Y,rfl⟩:=G e (VD J);exact⟨x.1,x.2.1,rfl,U x Y⟩
 have u:∀(e:DictEntry),e∈B->∀(Q:Bool->Shared->Prop),Q false s->MK (ML prog w) A (eqBool e.key (.int i t)) Q E s:=by
  intro e I Q q;obtain⟨x,Y,rfl⟩:=G e I;obtain⟨ob,L,n,h1,h2,h3,_⟩:=U x Y;exact EqAt.tuple_int i t (show s.heap.IsTuple x.2.1 L from⟨ob,h1,h2,n,h3⟩) f prog w E Q q
 unfold dictFind
 try with_reducible refine MY ?_
 refine MX (N0 N O ?_);dsimp only;by_cases H:((Value.int i t::(placesWithHash B.size (λi=>B[i]?.map (·.hash)) (hashInt i)).filterMap (λi=>B[i]?.map (·.key))).all carriedByValue)=true
 .rw[OB H];unfold dictWalkPlain;refine MX ?_;refine NZ _ (λ_ b M=>M=s/\b=(none,())) _ ?_ ?_ _ _ ⟨rfl,rfl⟩
  .rintro x p b M ⟨rfl,rfl⟩;cases hex:B[x]? with
   |none=>exact M9 ⟨rfl,rfl⟩
   |some e=>
    dsimp only;by_cases c:(e.hash==hashInt i)=true
    .rw[OB c];refine MX (N1 N O (MX (u e (VD hex) _ (MX (N1 N O ?_)))));show MK _ _ (if(ep != ep)=true then _ else _) _ E _;rw[OC (by simp)];simp only[QG,if_false];refine MX (NT ?_);exact M9 ⟨rfl,rfl⟩
    .rw[OC c];exact M9 ⟨rfl,rfl⟩
  .rintro b M ⟨rfl,rfl⟩;exact M9 h
 .rw[OC H];have l:¬(((placesWithHash B.size (λi=>B[i]?.map (·.hash)) (hashInt i)).filterMap (λi=>B[i]?.map (·.key))) == [Value.int i t])=true:=by
   intro z;have z:=eq_of_beq z;obtain⟨_,b,e,_⟩:=k (.int i t) (by rw[z];simp);cases e
  rw[OC l];refine MX (KG k ?_);rw[OC (by simp)];refine MX ?_;refine NZ _ (λ_ b M=>M=s/\b=(none,none)) _ ?_ ?_ _ _ ⟨rfl,rfl⟩
  .rintro x p b M ⟨rfl,rfl⟩;cases hex:B[x]? with
   |none=>exact M9 ⟨rfl,rfl⟩
   |some e=>
    dsimp only;by_cases c:(e.hash==hashInt i)=true
    .rw[OB c];refine MX (N1 N O (MX (u e (VD hex) _ (MX (N1 N O ?_)))));show MK _ _ (if(ep != ep)=true then _ else _) _ E _;rw[OC (by simp)];simp only[QG,if_false];refine MX (NT ?_)
     first
      |exact M9 ⟨rfl,rfl⟩
      |(rw[OC (by simp)];exact M9 ⟨rfl,rfl⟩)
      |exact MX (M9 (M9 ⟨rfl,rfl⟩))
    .rw[OC c];exact M9 ⟨rfl,rfl⟩
  .rintro b M ⟨rfl,rfl⟩;exact M9 h
def EX (N:A.units+1<Nj)(I:(d==MD)=false)(B:s.heap.DictOfH (NX (NS prog w)) d xs)(h:Q (.bool false) {s with toks:=s.toks+1}):
  MK (ML prog w) A (Ng .In (.int i t) (.ref d)) Q E s:=by
 show MK _ _ (do return .bool (<-contains (.ref d) (.int i t))) Q E s;refine MX ?_;unfold contains
 try with_reducible refine MY ?_
 refine MX (wpAny_specialOf B.typeIs slot_dict_contains.lookup ?_);show MK _ _ (if(some (Value.builtin "dict.__contains__")==some Value.none)=true then _ else _) _ E s;rw[OC (by rw[beq_builtin_none];exact QU)];refine MX (wpAny_callSpecialUnlessNone?_slot (name:=Str.ofString "__contains__") B.typeIs slot_dict_contains
  (NB slot_dict_contains B.typeIs entry_dict_contains ?_ (args_dict_contains _ _)))
 refine aP λO J=>?_;obtain⟨o,U,Y,L,_,G,M,H,j⟩:=id B;refine J ?_;show MK _ _ (dictGet d (.int i t) >>= _) _ _ s;refine MX ?_;unfold dictGet
 try with_reducible refine MY ?_
 refine MX (wpAny_pyHash_int (MX (Jd (s:={s with toks:=s.toks+1}) (xs:=xs) (by show A.units+1<Nj;lia) L G M H ?_)));refine M9 ?_;show MK _ _ (Builtin.Dict.pendingKey? d (.int i t) >>= _) _ _ _;exact MX (wpAny_pendingKey_other I (M9 ⟨_,rfl,MR (M9 h)⟩))
end
section
variable{X:Cx}{pins:O6}{σ:St}{H:Hp}{s:Shared}
noncomputable def pX(K:Qb):R2:=λx y H Q=>∃d A,y=.ref d/\x5 K H d A/\((∃i,x=.int i/\Q (.bl false) H)\/∃a B,x=.ref a/\bS K H a (B.map V.int)/\Q (.bl (NY A B).isSome) H)
def DV(M:X.A.units+64<Nj):ci X (Ng .In) (pX X.K):=by
 intro pins s σ H x y v u Q I A B h;obtain⟨d,E,rfl,G,h⟩:=h;cases B;obtain⟨d0,dm⟩:=kf I G;rcases h with⟨i,rfl,q⟩|⟨a,J,rfl,L,q⟩
 .obtain ⟨t,rfl⟩:=A;exact EX (by lia) d0 dm ⟨.bl false,H,I.tok _,rfl,q⟩
 .cases A;exact wpAny_in_heap (knd:=NX (NS X.prog X.w)) (by show X.A.units+1<Nj;lia) (vv I L) d0 dm ⟨.bl (NY E J).isSome,H,I.tok _,rfl,q⟩
noncomputable def Gp(K:Qb):R2:=λx y H Q=>∃d A,y=.ref d/\x5 K H d A/\∃a B,x=.ref a/\bS K H a (B.map V.int)/\Q (.bl (!(NY A B).isSome)) H
def JM(M:X.A.units+64<Nj):ci X (Ng .NotIn) (Gp X.K):=by
 intro pins s σ H x y v u Q I A B h;obtain⟨d,E,rfl,G,a,J,rfl,L,q⟩:=h;cases B;obtain⟨d0,dm⟩:=kf I G;cases A;exact wpAny_notIn_heap (knd:=NX (NS X.prog X.w)) (by show X.A.units+1<Nj;lia) (vv I L) d0 dm ⟨.bl (!(NY E J).isSome),H,I.tok _,rfl,q⟩
end
end L2
namespace Mini
open PySem PySem.Spec PyProof.Rows L2
section
variable{K:Qb}{as:S6}{H:Hp}{m:Me}{Q:VK}
theorem vB:∀{ws:U4}{k:T6}{vs:U8},wW ws=some k->ab K as H ws vs->vs=k.map V.int
 |[],k,vs,h,r=>by cases h;rw[au.mp r];rfl
 |w::ws,k,vs,h,r=>by
  cases w with
  |int i=>
   have A:(wW ws).map (i::·)=some k:=h;obtain⟨B,e,rfl⟩:=QF.mp A;obtain⟨v,E,rfl,q,t⟩:=am.mp r;rw[aa.mp q,vB e t];rfl
  |_=>cases h
def j5 {l:Nat}(S:aS K as m H)(B:m[l]?=some (.D A ws)):∃a xs vs,as[l]?=some a/\x5 K H a xs/\xs.map (·.1)=A/\ab K as H ws vs/\av vs (xs.map (·.2.2))/\A.Nodup:=by
 obtain⟨a,E,xs,vs,r⟩:=S.get B;exact⟨a,xs,vs,E,r⟩
def bV {q:T6}:(NY xs q).isSome=true↔q∈xs.map (·.1):=by
 unfold NY;rw[Option.isSome_map,List.find?_isSome];simp only[QP,OH]
def tP (S:aS K as m H)(R:ai K as H x v)(R':ai K as H y u)(h:fZ m x y=some b)(q:Q (.bl b) H):pX K v u H Q:=by
 unfold fZ at h;cases y with
 |ref l=>
  obtain⟨a,E,rfl⟩:=aw.mp R';dsimp only at h;cases e:m[l]? with
  |none=>rw[e]at h;cases h
  |some o=>
   cases o with
   |L M=>rw[e]at h;cases h
   |D N O=>
    rw[e]at h;dsimp only at h;obtain⟨U,B,G,A,I,rfl,_⟩:=j5 S e;rw[E]at A;cases A;refine⟨a,B,rfl,I,?_⟩;cases x with
    |int i=>cases h;exact .inl ⟨i,aa.mp R,q⟩
    |T Y=>
     obtain⟨k,J,rfl⟩:=QF.mp h;obtain⟨c,G,rfl,sq,r⟩:=ag.mp R;rw[vB J r]at sq;refine .inr ⟨c,k,rfl,sq,?_⟩;rw[show(NY B k).isSome=decide (k∈B.map (·.1))from by
      rw[VC,bV,OH]]
     exact q
    |_=>cases h
 |_=>cases h
end
end Mini
namespace Mini
open PySem PySem.Spec PyProof.Rows L2
open PySem.SeqAt
noncomputable def cK:Co->Nh
 |.eq=>.Eq |.ne=>.NotEq |.lt=>.Lt |.le=>.LtE |.gt=>.Gt |.notN=>.IsNot |.isin=>.In |.notin=>.NotIn
noncomputable def rC(K:Qb)(op:Co):R2:=λx y H Q=>∃as m w A,aS K as m H/\ai K as H w x/\ai K as H A y/\ak K as H Q (dq op w A m)
section
variable{X:Cx}
def vW {K:Qb}(S:aS K as m H)(h:ak K as H Q (dN o m)):∃b,o=some b/\Q (.bl b) H:=by
 cases o with
 |none=>exact h.elim
 |some b=>exact⟨b,rfl,h.ok S (ah.mpr rfl)⟩
theorem uy:∀{ys:U4}{r:Bool},eo p x ys=some r ->
  ∃f:Wd->Bool,(∀y∈ys,p y x=some (f y))/\r=ys.any f
 |[],r,h=>by cases h;exact⟨λ_=>false,λy G=>by simp at G,rfl⟩
 |y::ys,r,h=>by
  unfold eo at h;cases A:p y x with
  |none=>rw[A]at h;cases h
  |some b=>
   rw[A]at h;simp only[]at h;cases B:eo p x ys with
   |none=>rw[B]at h;cases h
   |some H=>
    rw[B]at h;cases h;obtain⟨f,E,rfl⟩:=uy B
    classical
    refine⟨λz=>(p z x).getD false,λz hz=>?_,?_⟩
    .rcases Qn.mp hz with rfl|hz
     .simp only[A,Ww]
     .simp only[E z hz,Ww]
    .rw[Vp,A];congr 1;refine VC.mpr ?_;rw[WT,WT];constructor
     .rintro ⟨z,hz,e⟩;exact⟨z,hz,by rw[E z hz];exact e⟩
     .rintro ⟨z,hz,e⟩;rw[E z hz]at e;exact⟨z,hz,e⟩
def ky (I:Inv X c σ H s)(S:aS X.K as m H)(g:A.units+yT<Nj)(R:ai X.K as H w v)(t:RelV v u)(U:ab X.K as H ys vs)(Y:av vs its)(h:eo (cE m yT) w ys=some r):
  ∃e:Value->Bool,(∀y,y∈its.toArray->EqAt A s y u (e y))/\its.toArray.any e=r:=by
 obtain⟨f,b,rfl⟩:=uy h
 classical
 -- n plain k of an item
 have B:∀y,y∈its->∃z,z∈ys/\∃G,ai X.K as H z G/\RelV G y:=λy E=>by
  obtain⟨j,hj,rfl⟩:=VI.mp E;have l1:=U.length;have l2:=Y.length;have N:j<vs.length:=by lia
  obtain⟨Q,q,J⟩:=Y.get (i:=j) (x:=vs[j]) (by simp[N]);obtain⟨z,o,L⟩:=U.back (i:=j) (v:=vs[j]) (by simp[N]);obtain⟨_,a⟩:=Qa.mp q;exact⟨z,Qv o,vs[j],L,by rw[a];exact J⟩
 let e:Value->Bool:=λy=>if E:y∈its then f (Classical.choose (B y E))else false
 have p:∀y (E:y∈its) z G,z∈ys->ai X.K as H z G->RelV G y->e y=f z:=λy E z G M hr hq=>by
  obtain⟨h1,d,h2,h3⟩:=Classical.choose_spec (B y E);have:e y=f (Classical.choose (B y E)):=dif_pos E;rw[this];have hv:d=G:=h3.inj hq;subst hv;rw[jC I S _ _ _ h2 hr]
 refine⟨e,λy E=>?_,?_⟩
 .have O:y∈its:=by simpa using E
  obtain⟨z,M,G,J,L⟩:=B y O;rw[p y O z G M J L];exact(i9 I S yT A z w G v y u (f z) g (b z M) J R L t).it
 .refine VC.mpr ?_;rw[List.any_toArray,WT,WT];constructor
  .rintro ⟨y,E,l⟩;obtain⟨z,M,G,J,L⟩:=B y E;rw[p y E z G M J L]at l;exact⟨z,M,l⟩
  .rintro ⟨z,M,ez⟩;obtain⟨j,hj,rfl⟩:=VI.mp M;obtain⟨v1,q,J⟩:=U.get (i:=j) (x:=ys[j]) (by simp[hj]);obtain⟨Q,o,L⟩:=Y.get q;have E:Q∈its:=Qv o;exact⟨Q,E,by rw[p Q E ys[j] v1 (W6 hj) J L];exact ez⟩
set_option tactic.hygienic true in
def j6(hu:X.A.units+64<Nj)(op:Co):ci X (Ng (cK op)) (rC X.K op):=by
 intro B s U H x y v u Q I G N h;obtain⟨as,m,w,g,S,R,O,q⟩:=h;have hd:yT=12:=rfl;have E:∀{b:Bool},Q (.bl b) H->EP X B U Q (.bool b) s:=λ{b} q=>⟨.bl b,H,I,rfl,q⟩;have L:∀{r:Int->Int->Bool},ak X.K as H Q (qB r w g m)->∃i j,x=.int i/\y=.int j/\Q (.bl (r i j)) H:=λ{r} q=>by
  unfold qB at q;cases w with
  |int i=>
   cases g with
   |int j=>exact⟨i,j,aa.mp R,aa.mp O,q.ok S (ah.mpr rfl)⟩
   |_=>exact q.elim
  |_=>exact q.elim
 cases op with
 |eq=>
  obtain⟨b,J,q⟩:=vW S q;exact(i9 I S yT X.A w g x y v u b (by lia) J R O G N).eq X.prog X.w X.xe _ (E q)
 |ne=>
  obtain⟨b,J,q⟩:=vW S q;obtain⟨c,l,rfl⟩:=QF.mp J;exact(i9 I S yT X.A w g x y v u c (by lia) l R O G N).ne X.prog X.w X.xe _ (E q)
 |isin=>
  simp only[dq]at q;split at q
  .rename_i ys f;obtain⟨b,J,q⟩:=vW S q;obtain⟨p,vs,rfl,hq,r⟩:=lz S O f;obtain rfl:u=.ref p:=N;rcases hq with hq|hq
   .obtain ⟨M,Y,k,_⟩:=I.list hq;obtain⟨e,o,rfl⟩:=ky (A:=X.A.in1) I S (by show X.A.units+1+yT<Nj;lia) R G r Y J;exact in_listAt e k.isList o (E q)
   .obtain ⟨M,Y,k,_⟩:=I.tuple hq;obtain⟨e,o,rfl⟩:=ky (A:=X.A.in1) I S (by show X.A.units+1+yT<Nj;lia) R G r Y J;exact in_tupleAt e (show s.heap.IsTuple p M.toArray from k) o (E q)
  .obtain ⟨b,J,q⟩:=vW S q;exact DV hu B s U H x y v u Q I G N (tP S R O J q)
 |notin=>
  simp only[dq]at q;split at q
  .rename_i ys f;obtain⟨b,J,q⟩:=vW S q;obtain⟨c,l,rfl⟩:=QF.mp J;obtain⟨p,vs,rfl,hq,r⟩:=lz S O f;obtain rfl:u=.ref p:=N;rcases hq with hq|hq
   .obtain ⟨M,Y,k,_⟩:=I.list hq;obtain⟨e,o,rfl⟩:=ky (A:=X.A.in1) I S (by show X.A.units+1+yT<Nj;lia) R G r Y l;exact notIn_listAt e k.isList o (E q)
   .obtain ⟨M,Y,k,_⟩:=I.tuple hq;obtain⟨e,o,rfl⟩:=ky (A:=X.A.in1) I S (by show X.A.units+1+yT<Nj;lia) R G r Y l;exact notIn_tupleAt e (show s.heap.IsTuple p M.toArray from k) o (E q)
  .cases w with
   |T us=>
    obtain⟨b,J,q⟩:=vW S q;obtain⟨c,l,rfl⟩:=QF.mp J;obtain⟨d,xs,rfl,td,z⟩:=tP (Q:=λv' H'=>∃t,v'=.bl t/\Q (.bl (! t)) H') S R O l ⟨c,rfl,q⟩;rcases z with⟨i,e,_⟩|⟨a,ks,e,sq,t,e2,q'⟩
    .obtain ⟨a,vs,e',_⟩:=ag.mp R;rw[e']at e;cases e
    .cases e2;exact JM hu B s U H x _ v u Q I G N ⟨d,xs,rfl,td,a,ks,e,sq,q'⟩
   |_=>exact q.elim
 |notN=>
  refine Hh B s U H x y v u Q I G N ?_;simp only[dq]at q;split at q
  .exact ⟨aJ.mp O,by rw[aJ.mp R];exact q.ok S (ah.mpr rfl)⟩
  .rename_i n;refine⟨aJ.mp O,?_⟩;have:x≠.N:=λz=>by
    subst z;exact n (jC I S _ _ _ R (aJ.mpr rfl))
   rw[OA this];exact q.ok S (ah.mpr rfl)
  .exact q.elim
 |lt=>exact Dd B s U H x y v u Q I G N (L q)
 |le=>exact Dc B s U H x y v u Q I G N (L q)
 |gt=>exact Db B s U H x y v u Q I G N (L (r:=λi j=>decide (j<i)) q)
end
end Mini
namespace L2
open PySem PySem.Spec PyProof.Rows
section
open PySem.SeqAt
open PySem.AutoSeq1 (wpAny_loadPart')
open PySem.MeetsSeq PySem.MeetsSeq2 PySem.MeetsSeq3
noncomputable def dI(A:MG)(s:Shared)(x y:Value)(b:Bool):Prop:=∀(B:My) (w:Mz) (E Q:O2),Q (.bool b) s->MK (ML B w) A (richCompare .Lt x y) Q E s
noncomputable def Go(A:MG)(s:Shared)(E B:P7)(f g:Nat->Bool):Prop:=∀(j:Nat) (v u:Value),E[j]?=some v->B[j]?=some u->EqAt A.in1 s v u (f j)/\dI A.in1 s v u (g j)
noncomputable def dz(A:MG)(s:Shared)(x y:Value)(b:Bool):Prop:=
 ∀(B:My) (w:Mz) (E:O2) (Q:Bool->Shared->Prop),Q b s->MK (ML B w) A (oneLt' true x y) Q E s
noncomputable def bz(its:P7)(k:T6):Prop:=its.size=k.length/\∀(j:Nat) (v:Value),its[j]?=some v->∃t,v=.int (k.getD j 0) t
def bz.lt (J:bz L G)(M:bz N H):Go A s L N (λj=>decide (G.getD j 0=H.getD j 0)) (λj=>decide (G.getD j 0<H.getD j 0)):=by
 intro j v u O U;obtain⟨t,rfl⟩:=J.2 j v O;obtain⟨I,rfl⟩:=M.2 j u U;exact⟨EqAt.int_int _ t _ I,λB w E Q h=>HT.cS A.in1 s _ t _ I B w E Q h⟩
def bz.det (A:bz its H)(B:bz its I):H=I:=by
 apply List.ext_getElem (A.1.symm.trans B.1);intro i E J;have q:i<its.size:=by rw[A.1];exact E
 obtain⟨t,L⟩:=A.2 i its[i] (by simp[q]);obtain⟨M,G⟩:=B.2 i its[i] (by simp[q]);rw[L]at G;have:=(Value.int.inj G).1;simpa [E,J]using this
end
section
variable{prog:My}{w:Mz}{A:MG}{E:O2}{s:Shared}
def Gn {st:N2}(B:kindOf st=N3)(G:(arrOf st)[i]?=some (x,p))(hj:(arrOf st)[j]?=some (y,q))(hl:dz A s x y b)(h:Q (some b) st):
  wpS (ML prog w) A E s (ltAt' i j) Q st:=by
 rw[ltAt'_eq];refine N4 (N5 ?_);show wpS _ _ _ _ (do let x <-elem' (arrOf st) i;let y <-elem' (arrOf st) j;lt' x y) Q st;rw[elem'_eq,elem'_eq,G,hj];refine N4 (N6 (N4 (N6 ?_)));rw[lt'_eq];refine N4 (N5 ?_);rw[B,keyLt'_oneType];refine N4 (N7 (N8 (hl prog w _ _ ⟨rfl,?_⟩)));exact N6 h
def j7 {st:N2}(L:a<=B)(M:∀x,a<=x->x<B->∀Q:P8->N2->Prop,Q (some false) st->wpS (ML prog w) A E s (ltAt' x (x-1)) Q st)(h:Q (none,B) st):
  wpS (ML prog w) A E s (ascLoop a B) Q st:=by
 unfold ascLoop;refine N9 (I:=λx c G=>G=st/\c=(none,x)) ?step ?fin ⟨rfl,rfl⟩
 case fin=>
  rintro c G ⟨rfl,rfl⟩;rw[show max a B=B by lia];exact h
 case step=>
  rintro x c G H J ⟨rfl,rfl⟩;dsimp only;refine N4 (M x H J _ ?_);simp only[QG,if_false];exact N6 ⟨rfl,rfl⟩
def KF {st:N2}(M:2<=G)(H:∀Q:P8->N2->Prop,Q (some true) st->wpS (ML prog w) A E s (ltAt' 1 (1-1)) Q st)(h:Q (none,1) st):
  wpS (ML prog w) A E s (ascLoop 1 G) Q st:=by
 unfold ascLoop;refine N9 (I:=λx c B=>x=1/\B=st/\c=(none,1)) ?step ?fin ⟨rfl,rfl,rfl⟩
 case fin=>
  rintro c B ⟨e,rfl,rfl⟩;exact OD e (by lia)
 case step=>
  rintro x c B J L ⟨rfl,rfl,rfl⟩;dsimp only;refine N4 (H _ ?_);simp only[if_true];exact N6 h
def KD {st:N2}(L:a<=B)(M:∀x,a<=x->x<B->∀Q:P8->N2->Prop,Q (some true) st->wpS (ML prog w) A E s (ltAt' x (x-1)) Q st)(h:Q (none,B,0) st):
  wpS (ML prog w) A E s (descLoop a B) Q st:=by
 unfold descLoop;refine N9 (I:=λx c G=>G=st/\c=(none,x,0)) ?step ?fin ⟨rfl,rfl⟩
 case fin=>
  rintro c G ⟨rfl,rfl⟩;rw[show max a B=B by lia];exact h
 case step=>
  rintro x c G H J ⟨rfl,rfl⟩;dsimp only;refine N4 (M x H J _ ?_);simp only[if_true];rw[OC (by lia)];exact N6 ⟨rfl,rfl⟩
def KC {st:N2}(H:2<=B)(G:∀x,1<=x->x<B->∀Q:P8->N2->Prop,Q (some false) st->wpS (ML prog w) A E s (ltAt' x (x-1)) Q st)(h:Q (some B) st):
  wpS (ML prog w) A E s (Oa 0 B) Q st:=by
 rw[countRun0_eq];refine N4 (j7 (by lia) G ?_);dsimp only;rw[OB (by simp)];exact N6 h
def qh {st:N2}(I:2<=B)(H:∀x,1<=x->x<B->∀Q:P8->N2->Prop,Q (some true) st->wpS (ML prog w) A E s (ltAt' x (x-1)) Q st)(h:Q (some B) (setArr st (Oc (arrOf st) 0 B ((B-0)/2)))):
  wpS (ML prog w) A E s (Oa 0 B) Q st:=by
 rw[countRun0_eq];refine N4 (KF I (H 1 (Qh _) (by lia)) ?_);dsimp only;rw[OC (by simp;lia),OC (by lia)];unfold descPart;refine N4 (N7 (NT ⟨rfl,?_⟩));refine N4 (KD (by lia) (λx J G=>H x (by lia) G) ?_);dsimp only;rw[OC (by lia)];unfold tail3;refine N4 (wpS_reverse ?_);refine N4 (j7 (Qh _) (λx J G=>OD G (by lia)) ?_);exact N6 h
theorem k7:∀(f n r:Nat),r<=1->Od f n r<=n+r
 |0,n,r,_=>Qh _
 |f+1,n,r,h=>by
  rw[minRun'_succ];split
  .exact Qh _
  .have e:=k7 f (n/2) (max r (n%2)) (by lia);lia
def jn {st:N2}(O:(arrOf st).size=N)(q:2<=N)(H:∀Q:Option Nat->N2->Prop,Q (some N) st1->wpS (ML prog w) A E s (Oa 0 N) Q st)(M:Oe st1=#[])(h:∀B,arrOf B=arrOf st1->Of B=Of st1->Q () B):wpS (ML prog w) A E s Og Q st:=by
 rw[sortRuns'_eq];refine N4 (N5 ?_);dsimp only;have J:¬N<Od N N 0:=by have:=k7 N N 0 (by lia);lia
 simp only[O];refine N4 (Oh (N9
  (I:=λx c B=>(x=0/\c=(none,0)/\B=st)\/(1<=x/\c=(none,N)/\B=Oi st1 ((Oe st1).push (0,N,0))))
  (Q:=λc B=>c=(none,N)/\B=Oi st1 ((Oe st1).push (0,N,0))) ?step ?fin (.inl ⟨rfl,rfl,rfl⟩)) ?post)
 case fin=>
  rintro c B (⟨U,_,_⟩|⟨_,H,L⟩)
  .lia
  .exact ⟨H,L⟩
 case step=>
  rintro x c B _ U (⟨rfl,rfl,rfl⟩|⟨Y,rfl,L⟩)
  .dsimp only;rw[OC (by lia)];simp only[Nat.sub_zero,Nat.min_self,WO];refine N4 (H _ ?_);dsimp only;rw[OC J];refine N4 (N5 ?_);have j:(Oe st1).back?=none:=by rw[M];rfl
   rw[j];dsimp only;exact N4 (Oj (N6 (.inr ⟨by lia,rfl,rfl⟩)))
  .dsimp only;rw[OB (Qh _)];exact N6 ⟨rfl,L⟩
 case post=>
  rintro c B ⟨rfl,rfl⟩;dsimp only;refine N4 (Oh (N9 (I:=λ_ c G=>G=Oi st1 ((Oe st1).push (0,N,0))/\c=(none,())) (Q:=λc G=>G=Oi st1 ((Oe st1).push (0,N,0))/\c=(none,())) ?_ (λ_ _ k=>k) ⟨rfl,rfl⟩) ?_)
  .rintro x c G _ _ ⟨rfl,rfl⟩;refine N4 (N5 ?_);rw[OB (by show((Oe st1).push (0,N,0)).size<=1;rw[M];exact Qh 1)];exact N6 ⟨rfl,rfl⟩
  .rintro c G ⟨rfl,rfl⟩;exact N6 (h _ rfl rfl)
noncomputable def CB(A:MG)(s:Shared)(vs out:R6):Prop:=
 (out=vs/\∀i (h:i+1<vs.length),dz A s vs[i+1] vs[i] false)\/(out=vs.reverse/\∀i (h:i+1<vs.length),dz A s vs[i+1] vs[i] true)
def Al(vs:R6)(i:Nat)(h:i<vs.length):(vs.toArray.zip vs.toArray)[i]?=some (vs[i],vs[i]):=by
 simp[Array.getElem?_zip_eq_some,h]
def J8(xs:P9):Oc xs 0 xs.size ((xs.size-0)/2)=xs.reverse:=by
 apply Array.ext_getElem?;intro k;rw[Ol (Qh _)];by_cases h:k<xs.size
 .rw[OB ⟨Wi _,h⟩,Array.getElem?_reverse h];congr 1;lia
 .rw[OC (by lia),getElem?_neg xs k (by lia),getElem?_neg _ k (by simp;lia)]
theorem jD:∀vs:R6,VX (λx:Value×Value=>x.snd) (vs.zip vs)=vs
 |[]=>rfl
 |v::r=>OE (v::·) (jD r)
def KB (G:2<=vs.length)(M:CB A s vs out)(h:∀B:N2,(arrOf B).map (·.2)=out.toArray->Of B=none->Q () B):
  wpS (ML prog w) A E s Og Q (SortSt.mk' N3 (vs.toArray.zip vs.toArray) #[] 7 none):=by
 have H:(vs.toArray.zip vs.toArray).size=vs.length:=by simp
 have I:∀{b:Bool}(hl:∀i (h:i+1<vs.length),dz A s vs[i+1] vs[i] b) (x:Nat),1<=x->x<vs.length->∀Q:P8->N2->Prop,Q (some b) (SortSt.mk' N3 (vs.toArray.zip vs.toArray) #[] 7 none) ->
   wpS (ML prog w) A E s (ltAt' x (x-1)) Q (SortSt.mk' N3 (vs.toArray.zip vs.toArray) #[] 7 none):=by
  intro b hl x N J Q q;obtain⟨i,rfl⟩:∃i,x=i+1:=⟨x-1,by lia⟩;exact Gn rfl (Al vs (i+1) J) (Al vs i (by lia)) (hl i J) q
 rcases M with⟨rfl,hl⟩|⟨rfl,hl⟩
 .refine jn (st1:=SortSt.mk' N3 (out.toArray.zip out.toArray) #[] 7 none) H G (λQ q=>KC G (I hl) q) rfl λB e f=>h B ?_ f;rw[e];apply Ud;simpa using jD out
 .refine jn (st1:=setArr (SortSt.mk' N3 (vs.toArray.zip vs.toArray) #[] 7 none) (Oc (vs.toArray.zip vs.toArray) 0 vs.length ((vs.length-0)/2))) H G (λQ q=>qh G (I hl) q) rfl λB e f=>h B ?_ f;rw[e];show(Oc (vs.toArray.zip vs.toArray) 0 vs.length ((vs.length-0)/2)).map (·.2)=_;have L:=J8 (vs.toArray.zip vs.toArray);rw[H]at L;rw[L];apply Ud;simpa using jD vs
end
section
variable{κ:Om}{prog:My}{w:Mz}{A:MG}{E:O2}{s:Shared}
noncomputable def ev(κ:Om)(prog:My)(w:Mz)(A:MG)(E:O2)(s:Shared)(O:On)(key:Keyed->O.α)(S:R0):Prop:=
 ∀(x y:Keyed) (st:N2) (Q:P8->N2->Prop),S x->S y->kindOf st=κ->Q (some (O.blt (key x) (key y))) st->wpS (ML prog w) A E s (lt' x y) Q st
variable{O:On}{key:Keyed->O.α}{S:R0}
noncomputable def Gm:Bool->Keyed->P9->Nat->Nat->Nat->StateT N2 Sem (Option Nat):=sortPriv% PySem.Builtin.gallop
def zM {st:N2}(h:xs[i]?=some x)(q:Q x st):wpS (ML prog w) A E s (elem' xs i) Q st:=by
 rw[elem'_eq,h];exact N6 q
def xk (C:ev κ prog w A E s O key S){st:N2}(hk:kindOf st=κ)(hS:S k)(h0:hint<n)(B:Nat->Bool)(hB:∀i,i<n->∃x,xs[g+i]?=some x/\S x/\B i=(if left then O.blt (key x) (key k)else ! O.blt (key k) (key x)))(mono:∀i j,i<=j->j<n->B j=true->B i=true)(h:∀r,r<=n->(∀i,i<r->B i=true)->(∀i,r<=i->i<n->B i=false)->Q (some r) st):
  wpS (ML prog w) A E s (Gm left k xs g n hint) Q st:=by
 have bey:∀i,i<n->∀Q:P8->N2->Prop,Q (some (B i)) st->wpS (ML prog w) A E s (do
   let x <-elem' xs (g+i)
   if left=true then lt' x k else do
    let r <-lt' k x
    pure (Option.map (λx=>! x) r)) Q st:=by
  intro i L Q q;obtain⟨x,y,hs,e⟩:=hB i L;refine N4 (zM y ?_);cases left with
  |true=>
   rw[OB rfl];refine C x k st _ hs hS hk ?_;rw[OB rfl]at e;rw[<-e];exact q
  |false=>
   rw[OC (by simp)];refine N4 (C k x st _ hS hs hk (N6 ?_));rw[OC (by simp)]at e;rw[QR,<-e];exact q
 have Y:∀i j,i<=j->j<n->B i=false->B j=false:=λi j d l h3=>by
  cases z:B j
  .rfl
  .rw[mono i j d l z]at h3;cases h3
 refine N4 (bey hint h0 _ ?_);dsimp -zeta -zetaHave only
 extract_lets +onlyGivenNames jp
 have J:∀p q lo L,lo<=L->L<=n->(∀i,i<lo->B i=true)->(∀i,L<=i->i<n->B i=false)->wpS (ML prog w) A E s (jp () p q lo L) Q st:=by
  intro p q lo L d l h3 h4;refine N4 (Oh (N9 (I:=λx c H=>st=H/\∃lo L,c=(none,lo,L)/\lo<=L/\L<=n/\L-lo<=n-x/\(∀i,i<lo->B i=true)/\(∀i,L<=i->i<n->B i=false))
   (Q:=λc H=>st=H/\∃L,c=(none,L,L)/\L<=n/\(∀i,i<L->B i=true)/\(∀i,L<=i->i<n->B i=false)) ?s2 ?f2 ⟨rfl,_,_,rfl,d,l,by omega,h3,h4⟩) ?p2)
  case f2=>
   intro c H M;obtain⟨rfl,lo,L,rfl,b1,a,b3,m,b⟩:=M;have:lo=L:=by omega
   subst this;exact⟨rfl,lo,rfl,a,m,b⟩
  case s2=>
   intro x c H _ y M;obtain⟨rfl,lo,L,rfl,b1,a,b3,m,b⟩:=M;dsimp only;by_cases o:lo ≥ L
   .rw[OB o];have:lo=L:=by omega
    subst this;exact N6 ⟨rfl,lo,rfl,a,m,b⟩
   .rw[OC o];refine N4 (bey (lo+(L-lo)/2) (by omega) _ ?_);dsimp only;cases f:B (lo+(L-lo)/2)with
    |false=>
     rw[OC (by simp)];exact N6 ⟨rfl,lo,lo+(L-lo)/2,rfl,by omega,by omega,by omega,m,λi d l=>Y _ i d l f⟩
    |true=>
     rw[OB rfl];exact N6 ⟨rfl,lo+(L-lo)/2+1,L,rfl,by omega,by omega,by omega,λi d=>mono i _ (by omega) (by omega) f,b⟩
  case p2=>
   intro c H M;obtain⟨rfl,L,rfl,a,m,b⟩:=M;dsimp only;exact N6 (h L a m b)
 cases hr:B hint with
 |true=>
  rw[OB rfl];refine N4 (Oh (N9 (I:=λx c H=>st=H/\∃last G,c=(none,last,G)/\last<G/\x+1<=G/\hint+last<n/\B (hint+last)=true)
   (Q:=λc H=>st=H/\∃last G,c=(none,last,G)/\last<G/\hint+last<n/\B (hint+last)=true/\(n-hint<=G\/(hint+G<n/\B (hint+G)=false))) ?s1 ?f1 ⟨rfl,0,1,rfl,by omega,by omega,h0,hr⟩) ?p1)
  case f1=>
   intro c H M;obtain⟨rfl,last,G,rfl,u,a2,U,N⟩:=M;exact⟨rfl,last,G,rfl,u,U,N,.inl (by omega)⟩
  case s1=>
   intro x c H _ y M;obtain⟨rfl,last,G,rfl,u,a2,U,N⟩:=M;dsimp only;by_cases o:G ≥ n-hint
   .rw[OB o];exact N6 ⟨rfl,last,G,rfl,u,U,N,.inl o⟩
   .rw[OC o];refine N4 (bey (hint+G) (by omega) _ ?_);dsimp only;cases f:B (hint+G)with
    |false=>
     rw[OB (show(! false)=true from rfl)];exact N6 ⟨rfl,last,G,rfl,u,U,N,.inr ⟨by omega,f⟩⟩
    |true=>
     rw[OC (show ¬(! true)=true by decide)];exact N6 ⟨rfl,G,2*G+1,rfl,by omega,by omega,by omega,f⟩
  case p1=>
   intro c H M;obtain⟨rfl,last,G,rfl,u,U,N,t⟩:=M;dsimp only;refine J last G _ _ (by omega) (by omega) (λi L=>mono i (hint+last) (by omega) U N) λi d l=>?_;rcases t with t|⟨t,a6⟩
   .omega
   .exact Y (hint+G) i (by omega) l a6
 |false=>
  rw[OC (by simp)];refine N4 (Oh (N9 (I:=λx c H=>st=H/\∃last G,c=(none,last,G)/\last<G/\x+1<=G/\last<=hint/\B (hint-last)=false)
   (Q:=λc H=>st=H/\∃last G,c=(none,last,G)/\last<G/\last<=hint/\B (hint-last)=false/\(hint+1<=G\/(G<=hint/\B (hint-G)=true))) ?s3 ?f3 ⟨rfl,0,1,rfl,by omega,by omega,by omega,hr⟩) ?p3)
  case f3=>
   intro c H M;obtain⟨rfl,last,G,rfl,u,a2,U,N⟩:=M;exact⟨rfl,last,G,rfl,u,U,N,.inl (by omega)⟩
  case s3=>
   intro x c H _ y M;obtain⟨rfl,last,G,rfl,u,a2,U,N⟩:=M;dsimp only;by_cases o:G ≥ hint+1
   .rw[OB o];exact N6 ⟨rfl,last,G,rfl,u,U,N,.inl o⟩
   .rw[OC o];refine N4 (bey (hint-G) (by omega) _ ?_);dsimp only;cases f:B (hint-G)with
    |true=>
     rw[OB rfl];exact N6 ⟨rfl,last,G,rfl,u,U,N,.inr ⟨by omega,f⟩⟩
    |false=>
     rw[OC (by simp)];exact N6 ⟨rfl,G,2*G+1,rfl,by omega,by omega,by omega,f⟩
  case p3=>
   intro c H M;obtain⟨rfl,last,G,rfl,u,U,N,t⟩:=M;dsimp only;refine J last G _ _ (by omega) (by omega) (λi L=>?_) λi d l=>Y _ i d l N;rcases t with t|⟨t,a6⟩
   .omega
   .exact mono i (hint-G) (by omega) (by omega) a6
end
section
variable{O:On}{key:Keyed->O.α}
noncomputable def Le(O:On)(key:Keyed->O.α)(x y:Keyed):Prop:=O.kle (key x) (key y)
noncomputable def aX(O:On)(key:Keyed->O.α)(l:R7):Prop:=l.Pairwise (Le O key)
def Le.trans{x y z:Keyed}(A:Le O key x y)(B:Le O key y z):Le O key x z:=KeyOrd.kle_trans A B
def aX.drop_le (h:aX O key l)(E:l[i]?=some x):∀y∈l.drop i,Le O key x y:=by
 intro y hy;obtain⟨A,rfl⟩:=Qa.mp E;rw[QM A]at hy;rcases Qn.mp hy with rfl|hy
 .exact KeyOrd.kle_refl _
 .have B:aX O key (l.drop i):=h.sublist (Wt i l);rw[QM A]at B;exact(Q3.mp B).1 y hy
def aX.at_le (h:aX O key l){j:Nat}(A:i<=j)(B:l[i]?=some x)(E:l[j]?=some y):Le O key x y:=by
 refine h.drop_le B y ?_;have:(l.drop i)[j-i]?=some y:=by rw[Wf,show i+(j-i)=j by lia];exact E
 exact Qv this
structure MI(O:On)(key:Keyed->O.α)(X Y:R7)(ia ib:Nat)(L:R7):Prop where
 ha:ia<=X.length
 hb:ib<=Y.length
 pm:L.Perm (X.take ia++Y.take ib)
 so:aX O key L
 la:∀z∈L,∀x∈X.drop ia,Le O key z x
 lb:∀z∈L,∀y∈Y.drop ib,Le O key z y
noncomputable def Good(O:On)(key:Keyed->O.α)(X Y r:R7):Prop:=aX O key r/\r.Perm (X++Y)
variable{X Y L:R7}{ia ib:Nat}
def yB (A:aX O key l)(B:aX O key r)(h:∀x∈l,∀y∈r,Le O key x y):aX O key (l++r):=VH.mpr ⟨A,B,h⟩
def MI.done(M:MI O key X Y ia ib L)(A:aX O key X)(B:aX O key Y)(h:ia=X.length\/ib=Y.length):Good O key X Y (L++X.drop ia++Y.drop ib):=by
 refine⟨?_,?_⟩
 .rcases h with rfl|rfl
  .rw[W8,Q6];exact yB M.so (B.sublist (Wt _ _)) M.lb
  .rw[W8,Q6];exact yB M.so (A.sublist (Wt _ _)) M.la
 .refine ((M.pm.append_right _).append_right _).trans ?_;have E:(X.take ia++Y.take ib++X.drop ia++Y.drop ib).Perm (X.take ia++(X.drop ia++Y.take ib)++Y.drop ib):=by
   refine Wu.append_right _ ?_;rw[Qm];exact Wu.append_left _ WH
  refine E.trans ?_;rw[<-Qm (X.take ia),QE,Qm,QE]
def MI.last(M:MI O key X Y ia ib L)(E:aX O key X)(G:aX O key Y)(hl:∀y∈Y,∀x,X[X.length-1]?=some x->Le O key y x)(h:ia+1=X.length):Good O key X Y (L++Y.drop ib++X.drop ia):=by
 have e:X.drop ia=[X[ia]'(by lia)]:=by
  rw[QM (by lia),h,W8]
 refine⟨?_,?_⟩
 .rw[Qm];refine yB M.so (yB (G.sublist (Wt _ _)) (E.sublist (Wt _ _)) ?_) ?_
  .intro y hy x A;rw[e]at A;rw[Ql.mp A];exact hl y (WB hy) _ (by rw[show X.length-1=ia by lia];simp)
  .intro z B y hy;rcases Qs.mp hy with hy|hy
   .exact M.lb z B y hy
   .exact M.la z B y hy
 .have:=M.pm;refine((M.pm.append_right _).append_right _).trans ?_;have H:(X.take ia++Y.take ib++Y.drop ib++X.drop ia).Perm (X.take ia++Y++X.drop ia):=by
   rw[Qm (X.take ia),QE]
  refine H.trans ?_;rw[Qm];refine(Wu.append_left _ WH).trans ?_;rw[<-Qm,QE]
def yI {l:R7}(h:l[i]?=some x):l.take (i+1)=l.take i++[x]:=by
 obtain⟨A,rfl⟩:=Qa.mp h;rw[List.take_succ_eq_append_getElem A]
def kz {l:R7}(h:i<=j)(A:x∈l.drop j):x∈l.drop i:=by
 have:l.drop j=(l.drop i).drop (j-i):=by rw[Vm];congr 1;lia
 rw[this]at A;exact WB A
def MI.pushA(M:MI O key X Y ia ib L)(E:aX O key X){x:Keyed}(B:X[ia]?=some x)(h:∀y∈Y.drop ib,Le O key x y):MI O key X Y (ia+1) ib (L++[x]):=by
 have G:=(Qa.mp B).1;have H:x∈X.drop ia:=by
  obtain⟨_,rfl⟩:=Qa.mp B;rw[QM G];exact QT
 refine⟨by lia,M.hb,?_,yB M.so (by simp[aX]) (λz hz y A=>by rw[Ql.mp A];exact M.la z hz x H),λz hz y A=>?_,λz hz y A=>?_⟩
 .rw[yI B];refine(M.pm.append_right _).trans ?_;rw[Qm,Qm];exact Wu.append_left _ WH
 .rcases Qs.mp hz with hz|hz
  .exact M.la z hz y (kz (by lia) A)
  .rw[Ql.mp hz];exact E.drop_le B y (kz (by lia) A)
 .rcases Qs.mp hz with hz|hz
  .exact M.lb z hz y A
  .rw[Ql.mp hz];exact h y A
def MI.pushB(M:MI O key X Y ia ib L)(E:aX O key Y){y:Keyed}(B:Y[ib]?=some y)(h:∀x∈X.drop ia,Le O key y x):MI O key X Y ia (ib+1) (L++[y]):=by
 have G:=(Qa.mp B).1;have H:y∈Y.drop ib:=by
  obtain⟨_,rfl⟩:=Qa.mp B;rw[QM G];exact QT
 refine⟨M.ha,by lia,?_,yB M.so (by simp[aX]) (λz hz x A=>by rw[Ql.mp A];exact M.lb z hz y H),λz hz x A=>?_,λz hz x A=>?_⟩
 .rw[yI B,<-Qm];exact M.pm.append_right _
 .rcases Qs.mp hz with hz|hz
  .exact M.la z hz x A
  .rw[Ql.mp hz];exact h x A
 .rcases Qs.mp hz with hz|hz
  .exact M.lb z hz x (kz (by lia) A)
  .rw[Ql.mp hz];exact E.drop_le B x (kz (by lia) A)
def qF {l:R7}(h:l[i+k]?=some x):(l.drop i).take (k+1)=(l.drop i).take k++[x]:=yI (by rw[Wf];exact h)
theorem MI.blockA(M:MI O key X Y ia ib L)(B:aX O key X):∀k,ia+k<=X.length->(∀i,i<k->∀x,X[ia+i]?=some x->∀y∈Y.drop ib,Le O key x y)->MI O key X Y (ia+k) ib (L++(X.drop ia).take k)
 |0,_,_=>by simpa using M
 |k+1,h,hl=>by
  have q:=M.blockA B k (by lia) λi E=>hl i (by lia);have A:X[ia+k]?=some X[ia+k]:=by simp
  have:=q.pushA B A (hl k (by lia) _ A);rw[qF A,<-Qm];exact this
theorem MI.blockB(M:MI O key X Y ia ib L)(B:aX O key Y):∀k,ib+k<=Y.length->(∀i,i<k->∀y,Y[ib+i]?=some y->∀x∈X.drop ia,Le O key y x)->MI O key X Y ia (ib+k) (L++(Y.drop ib).take k)
 |0,_,_=>by simpa using M
 |k+1,h,hl=>by
  have q:=M.blockB B k (by lia) λi E=>hl i (by lia);have A:Y[ib+k]?=some Y[ib+k]:=by simp
  have:=q.pushB B A (hl k (by lia) _ A);rw[qF A,<-Qm];exact this
end
section
variable{O:On}{key:Keyed->O.α}{S:R0}{a b:P9}
noncomputable def Eqv(st A:N2):Prop:=kindOf A=kindOf st/\arrOf A=arrOf st/\Oe A=Oe st/\Of A=Of st
def Eqv.refl(st:N2):Eqv st st:=⟨rfl,rfl,rfl,rfl⟩
def pW(p a b:P9)(i j:Nat):(p++a.extract i++b.extract j).toList=p.toList++a.toList.drop i++b.toList.drop j:=by
 simp only[Vg,WJ,Wv];rw[We (by simp),We (by simp)]
def pV(p a:P9)(i k:Nat):(p++a.extract i (i+k)).toList=p.toList++(a.toList.drop i).take k:=by
 simp only[Vg,WJ,Wv];rw[show i+k-i=k by lia]
def iB (M:MI O key a.toList b.toList A B p.toList)(E:aX O key a.toList)(G:aX O key b.toList)(h:A=a.size\/B=b.size):Good O key a.toList b.toList (p++a.extract A++b.extract B).toList:=by
 rw[pW];exact M.done E G h
def i8 (M:MI O key a.toList b.toList A B p.toList)(E:aX O key a.toList)(G:aX O key b.toList)(hl:∀y∈b.toList,∀x,a.toList[a.toList.length-1]?=some x->Le O key y x)(h:A+1=a.size):Good O key a.toList b.toList (p++b.extract B++a.extract A).toList:=by
 rw[pW];exact M.last E G hl h
def tO {p:P9}(M:MI O key a.toList b.toList A B p.toList)(E:aX O key a.toList)(G:a[A]?=some x)(h:∀y∈b.toList.drop B,Le O key x y):MI O key a.toList b.toList (A+1) B (p.push x).toList:=by
 rw[W1];exact M.pushA E (by simpa using G) h
def nh {p:P9}(M:MI O key a.toList b.toList A B p.toList)(E:aX O key b.toList)(G:b[B]?=some y)(h:∀x∈a.toList.drop A,Le O key y x):MI O key a.toList b.toList A (B+1) (p.push y).toList:=by
 rw[W1];exact M.pushB E (by simpa using G) h
def Gj (M:MI O key a.toList b.toList A B p.toList)(E:aX O key a.toList)(G:A+k<=a.size)(h:∀i,i<k->∀x,a.toList[A+i]?=some x->∀y∈b.toList.drop B,Le O key x y):MI O key a.toList b.toList (A+k) B (p++a.extract A (A+k)).toList:=by
 rw[pV];exact M.blockA E k G h
def Gi (M:MI O key a.toList b.toList B A p.toList)(E:aX O key b.toList)(G:A+k<=b.size)(h:∀i,i<k->∀y,b.toList[A+i]?=some y->∀x∈a.toList.drop B,Le O key y x):MI O key a.toList b.toList B (A+k) (p++b.extract A (A+k)).toList:=by
 rw[pV];exact M.blockB E k G h
variable{κ:Om}{prog:My}{w:Mz}{A:MG}{E:O2}{s:Shared}
def nU {x:StateT N2 Sem B}{Q:B->N2->Prop}{st:N2}(h:∀q,q=Q->wpS (ML prog w) A E s x q st):wpS (ML prog w) A E s x Q st:=h Q rfl
def Ak {x:StateT N2 Sem B}{Q:B->N2->Prop}{st:N2}(h:∀t,t=st->wpS (ML prog w) A E s x Q t):wpS (ML prog w) A E s x Q st:=h st rfl
def Aj [Decidable c]{J:Nat->StateT N2 Sem B}{Q:B->N2->Prop}{st:N2}(h:∀m,wpS (ML prog w) A E s (J m) Q st):wpS (ML prog w) A E s (if c then J i else J j) Q st:=by split<;>exact h _
noncomputable def Jc:P9->P9->StateT N2 Sem P9:=sortPriv% PySem.Builtin.mergeLo
def KA (C:ev κ prog w A E s O key S){st:N2}(hk:kindOf st=κ)(d:aX O key a.toList)(o:aX O key b.toList)(hSa:∀x∈a.toList,S x)(hSb:∀x∈b.toList,S x)(hb0:0<b.size)(ha0:0<a.size)(hfirst:∀x∈a.toList,∀y,b[0]?=some y->Le O key y x)(hl:∀y∈b.toList,∀x,a.toList[a.toList.length-1]?=some x->Le O key y x)(h:∀r H,Eqv st H->Good O key a.toList b.toList r.toList->Q r H):
  wpS (ML prog w) A E s (Jc a b) Q st:=by
 have atA:∀i,i<a.size->∃x,a[i]?=some x/\S x/\a.toList[i]?=some x:=λi N=>⟨a[i],by simp[N],hSa _ (by simp),by simp[N]⟩;have t:∀i,i<b.size->∃x,b[i]?=some x/\S x/\b.toList[i]?=some x:=λi N=>⟨b[i],by simp[N],hSb _ (by simp),by simp[N]⟩;have gA:∀(G:Nat) (v:Keyed) (i:Nat),G+i<a.size->∃x,a[G+i]?=some x/\S x/\(! O.blt (key v) (key (a.getD (G+i) v)))=(if false=true then O.blt (key x) (key v)else ! O.blt (key v) (key x)):=by
  intro G v i N;refine aP λg zk=>?_;obtain⟨x,L,sx,_⟩:=atA (G+i) N;refine zk ?_;exact⟨x,L,sx,by rw[OC (by simp),Q9,L];rfl⟩
 have gB:∀(B:Nat) (u:Keyed) (i:Nat),B+i<b.size->∃x,b[B+i]?=some x/\S x/\O.blt (key (b.getD (B+i) u)) (key u)=(if true=true then O.blt (key x) (key u)else ! O.blt (key u) (key x)):=by
  intro B u i N;refine aP λg zj=>?_;obtain⟨x,L,sx,_⟩:=t (B+i) N;refine zj ?_;exact⟨x,L,sx,by rw[OB rfl,Q9,L];rfl⟩
 have dA:∀(i:Nat) (v x:Keyed),a.toList[i]?=some x->a.getD i v=x:=λi v x L=>by rw[Q9,<-QL,L];rfl
 have dB:∀(i:Nat) (v x:Keyed),b.toList[i]?=some x->b.getD i v=x:=λi v x L=>by rw[Q9,<-QL,L];rfl
 have mA:∀(G:Nat) (v:Keyed) (i j:Nat),i<=j->j<a.size-G->(! O.blt (key v) (key (a.getD (G+j) v)))=true->(! O.blt (key v) (key (a.getD (G+i) v)))=true:=by
  intro G v i j hij hj hB;refine aP λg zi=>?_;obtain⟨x,L,_,hx'⟩:=atA (G+i) (by lia);obtain⟨y,hy,_,hy'⟩:=atA (G+j) (by lia);refine zi ?_;rw[dA _ _ _ hy']at hB;rw[dA _ _ _ hx'];have e:Le O key x v:=Le.trans (d.at_le (by lia) hx' hy') (show O.blt (key v) (key y)=false from by simpa using hB);simpa using (show O.blt (key v) (key x)=false from e)
 have mB:∀(B:Nat) (u:Keyed) (i j:Nat),i<=j->j<b.size-B->O.blt (key (b.getD (B+j) u)) (key u)=true->O.blt (key (b.getD (B+i) u)) (key u)=true:=by
  intro B u i j hij hj hB;refine aP λg zh=>?_;obtain⟨x,L,_,hx'⟩:=t (B+i) (by lia);obtain⟨y,hy,_,hy'⟩:=t (B+j) (by lia);refine zh ?_;rw[dB _ _ _ hy']at hB;rw[dB _ _ _ hx'];exact KeyOrd.klt_of_kle_of_klt (o.at_le (by lia) hx' hy') hB
 have lowA:∀(G:Nat) (v:Keyed) (k:Nat),(∀i,i<k->(! O.blt (key v) (key (a.getD (G+i) v)))=true)->∀i,i<k->∀x,a.toList[G+i]?=some x->Le O key x v:=by
  intro G v k hk i N x L;have:=hk i N;rw[dA _ _ _ L]at this;exact(show O.blt (key v) (key x)=false from by simpa using this)
 have highA:∀(G:Nat) (v:Keyed) (k:Nat),(∀i,k<=i->i<a.size-G->(! O.blt (key v) (key (a.getD (G+i) v)))=false)->∀x∈a.toList.drop (G+k),Le O key v x:=by
  intro G v k hk x L;obtain⟨i,N⟩:=QC L;rw[Wf]at N;have hlt:G+k+i<a.size:=(Qa.mp N).1;have:=hk (k+i) (by lia) (by lia);rw[show G+(k+i)=G+k+i by lia,dA _ _ _ N]at this;exact KeyOrd.kle_of_klt (show O.blt (key v) (key x)=true from by simpa using this)
 have lowB:∀(B:Nat) (u:Keyed) (k:Nat),(∀i,i<k->O.blt (key (b.getD (B+i) u)) (key u)=true)->∀i,i<k->∀y,b.toList[B+i]?=some y->Le O key y u:=by
  intro B u k hk i N x L;have:=hk i N;rw[dB _ _ _ L]at this;exact KeyOrd.kle_of_klt this
 have upA:∀(B:Nat) (u:Keyed) (k:Nat),(∀i,k<=i->i<b.size-B->O.blt (key (b.getD (B+i) u)) (key u)=false)->∀y∈b.toList.drop (B+k),Le O key u y:=by
  intro B u k hk x L;obtain⟨i,N⟩:=QC L;rw[Wf]at N;have hlt:B+k+i<b.size:=(Qa.mp N).1;have:=hk (k+i) (by lia) (by lia);rw[show B+(k+i)=B+k+i by lia,dB _ _ _ N]at this;exact this
 refine aP λg zg=>?_;obtain⟨y0,hy0,_,hy0'⟩:=t 0 hb0;refine zg ?_;refine N4 (N7 (NT ⟨rfl,?_⟩));refine N4 (zM hy0 ?_);dsimp -zeta -zetaHave only;have M0:MI O key a.toList b.toList 0 1 (#[y0]:P9).toList:=by
  have e:MI O key a.toList b.toList 0 0 (#[]:P9).toList:=⟨Wi _,Wi _,by simp,by simp[aX],by simp,by simp⟩;exact nh e o hy0 (λx L=>hfirst x (by simpa using L) y0 hy0)
 by_cases f:1=b.size
 .rw[OB (by simpa using f)];exact N6 (h _ _ (.refl _) (iB M0 d o (.inr f)))
 rw[OC (by simpa using f)];by_cases c2:0+1=a.size
 .rw[OB (by simpa using c2)];exact N6 (h _ _ (.refl _) (i8 M0 d o hl c2))
 rw[OC (by simpa using c2)];refine N4 (N5 ?_);refine N4 (Oh (N9 (I:=λx c H=>Eqv st H/\∃out G B p,c=(none,out,G,B,p)/\MI O key a.toList b.toList G B out.toList/\G+1<a.size/\B<b.size/\x+1<=G+B)
  (Q:=λc H=>Eqv st H/\∃r out G B p,c=(some r,out,G,B,p)/\Good O key a.toList b.toList r.toList) ?s1 ?f1 ⟨.refl _,_,_,_,_,rfl,M0,by lia,by lia,by lia⟩) ?p1)
 case p1=>
  intro c H n;refine aP λg zf=>?_;obtain⟨hE,r,out,G,B,p,rfl,hg⟩:=n;refine zf ?_;exact N6 (h _ _ hE hg)
 case f1=>
  intro c H n;refine aP λg ze=>?_;obtain⟨hE,out,G,B,p,rfl,M,h1,l,h3⟩:=n;refine ze ?_;lia
 case s1=>
  intro x0 c st0 _ hx0 n;refine aP λg zd=>?_;obtain⟨hE0,out0,ia0,ib0,mg0,rfl,M00,h10,h20,h30⟩:=n;refine zd ?_;dsimp -zeta -zetaHave only;refine N4 (Oh (N9 (I:=λx c H=>Eqv st H/\∃out G B ac Y,c=(none,out,G,B,ac,Y)/\MI O key a.toList b.toList G B out.toList/\G+1<a.size/\B<b.size/\x0+1+x<=G+B)
   (Q:=λc H=>Eqv st H/\((∃r out G B ac Y,c=(some r,out,G,B,ac,Y)/\Good O key a.toList b.toList r.toList)\/∃out G B ac Y,c=(none,out,G,B,ac,Y)/\MI O key a.toList b.toList G B out.toList/\G+1<a.size/\B<b.size/\x0+2<=G+B)) ?s2 ?f2 ⟨hE0,_,_,_,_,_,rfl,M00,h10,h20,h30⟩) ?p2)
  case f2=>
   intro c H n;refine aP λg zc=>?_;obtain⟨hE,out,G,B,ac,Y,rfl,M,h1,l,h3⟩:=n;refine zc ?_;exact⟨hE,.inr ⟨out,G,B,ac,Y,rfl,M,h1,l,by lia⟩⟩
  case s2=>
   intro x c H _ L n;refine aP λg zb=>?_;obtain⟨hE,out,G,B,ac,Y,rfl,M,h1,l,h3⟩:=n;refine zb ?_;dsimp -zeta -zetaHave only;refine aP λg za=>?_;obtain⟨u,hu,su,hu'⟩:=atA G (by lia);obtain⟨v,hv,sv,hv'⟩:=t B l;refine za ?_;refine N4 (zM hv (N4 (zM hu (N4 (C v u H _ sv su (hE.1.trans hk) ?_)))));dsimp -zeta -zetaHave only;cases hc:O.blt (key v) (key u)with
   |true=>
    rw[OB rfl];have M2:=nh M o hv (λx L=>Le.trans (KeyOrd.kle_of_klt hc) (d.drop_le hu' x L));refine N4 (zM hv ?_);by_cases f:B+1=b.size
    .rw[OB (by simpa using f)];exact N6 ⟨hE,.inl ⟨_,_,_,_,_,_,rfl,iB M2 d o (.inr f)⟩⟩
    .rw[OC (by simpa using f)];split
     .exact N6 ⟨hE,.inr ⟨_,_,_,_,_,rfl,M2,by lia,by lia,by lia⟩⟩
     .exact N6 ⟨hE,_,_,_,_,_,rfl,M2,by lia,by lia,by lia⟩
   |false=>
    rw[OC (by simp)];have M2:=tO M d hu (λy hy=>Le.trans (show Le O key u v from hc) (o.drop_le hv' y hy));refine N4 (zM hu ?_);by_cases f:G+1+1=a.size
    .rw[OB (by simpa using f)];exact N6 ⟨hE,.inl ⟨_,_,_,_,_,_,rfl,i8 M2 d o hl f⟩⟩
    .rw[OC (by simpa using f)];split
     .exact N6 ⟨hE,.inr ⟨_,_,_,_,_,rfl,M2,by lia,by lia,by lia⟩⟩
     .exact N6 ⟨hE,_,_,_,_,_,rfl,M2,by lia,by lia,by lia⟩
  case p2=>
   rintro c st1 ⟨hE1,⟨r,out,G,B,ac,Y,rfl,hg⟩|⟨out1,ia1,ib1,ac1,bc1,rfl,M1,h11,h21,h31⟩⟩
   .exact N6 ⟨hE1,r,out,G,B,_,rfl,hg⟩
   dsimp -zeta -zetaHave only;refine N4 (N7 (NT ⟨rfl,?_⟩));refine N4 (Oh (N9 (I:=λx c H=>Eqv st H/\∃out G B p ac Y,c=(none,out,G,B,p,ac,Y)/\MI O key a.toList b.toList G B out.toList/\G+1<a.size/\B<b.size/\x0+2<=G+B)
    (Q:=λc H=>Eqv st H/\((∃r out G B p ac Y,c=(some r,out,G,B,p,ac,Y)/\Good O key a.toList b.toList r.toList)\/∃out G B p ac Y,c=(none,out,G,B,p,ac,Y)/\MI O key a.toList b.toList G B out.toList/\G+1<a.size/\B<b.size/\x0+2<=G+B)) ?s3 ?f3 ⟨hE1,_,_,_,_,_,_,rfl,M1,h11,h21,h31⟩) ?p3)
   case f3=>
    intro c H n;refine aP λg zk1=>?_;obtain⟨hE,out,G,B,p,ac,Y,rfl,M,h1,l,h3⟩:=n;refine zk1 ?_;exact⟨hE,.inr ⟨out,G,B,p,ac,Y,rfl,M,h1,l,h3⟩⟩
   case p3=>
    rintro c H ⟨hE,⟨r,out,G,B,p,ac,Y,rfl,hg⟩|⟨out,G,B,p,ac,Y,rfl,M,h1,l,h3⟩⟩
    .exact N6 ⟨hE,r,out,G,B,_,rfl,hg⟩
    .dsimp -zeta -zetaHave only;refine N4 (Oj ?_);exact N6 ⟨hE,_,_,_,_,rfl,M,h1,l,by lia⟩
   case s3=>
    intro x c H _ L n;refine aP λg zj1=>?_;obtain⟨hE,out,G,B,p,ac,Y,rfl,M,h1,l,h3⟩:=n;refine zj1 ?_;refine nU λQ1 e1=>?_;have hr:∀r c U,Eqv st U->Good O key a.toList b.toList r.toList->Q1 (.done (some r,c)) U:=λr c U hE hg=>by rw[e1];exact⟨hE,.inl ⟨r,_,_,_,_,_,_,rfl,hg⟩⟩
    have hd:∀out G B c U,Eqv st U->MI O key a.toList b.toList G B out.toList->G+1<a.size->B<b.size->x0+2<=G+B->Q1 (.done (none,out,G,B,c)) U/\Q1 (.yield (none,out,G,B,c)) U:=λout G B c U hE M h1 l h3=>by rw[e1];exact⟨⟨hE,.inr ⟨_,_,_,_,_,_,rfl,M,h1,l,h3⟩⟩,hE,_,_,_,_,_,_,rfl,M,h1,l,h3⟩
    clear e1 L;refine aP λg zi1=>?_;obtain⟨v,hv,sv,hv'⟩:=t B l;refine zi1 ?_;dsimp -zeta -zetaHave only
    extract_lets +onlyGivenNames s0 o1 s1 a1 s2 b1 s3 m1 s4 ac1 bc1
    subst s0 o1 s1 a1 s2 b1 s3 m1 s4 ac1 bc1;dsimp -zeta -zetaHave only
    extract_lets +onlyGivenNames ib2 jp
    subst ib2;refine Aj (J:=λm=>jp () m) λm=>N4 (Oj (Ak λU es=>N4 (zM hv ?_)))
    replace hE:Eqv st U:=by rw[es];exact hE
    clear es jp;refine N4 (xk C (hE.1.trans hk) sv (by lia) (λi=>! O.blt (key v) (key (a.getD (G+i) v))) (λi N=>gA G v i (by lia)) (mA G v) (λk k1 k2 k3=>?_));dsimp -zeta -zetaHave only
    extract_lets +onlyGivenNames ac2 jp2
    have J2:∀out z,MI O key a.toList b.toList z B out.toList->z+1<a.size->G<=z->(∀x∈a.toList.drop z,Le O key v x)->wpS (ML prog w) A E s (jp2 () out z) Q1 U:=by
     intro out z M h1 ha ba;refine aP λg zh1=>?_;obtain⟨u,hu,su,hu'⟩:=atA z (by lia);refine zh1 ?_;have M3:=nh M o hv ba;refine N4 (zM hv ?_)
     extract_lets +onlyGivenNames o3
     subst o3;by_cases c3:B+1=b.size
     .rw[OB (by simpa using c3)];exact N6 (hr _ _ _ hE (iB M3 d o (.inr c3)))
     rw[OC (by simpa using c3)];refine N4 (zM hu (N4 (xk C (hE.1.trans hk) su (by lia) (λi=>O.blt (key (b.getD (B+1+i) u)) (key u)) (λi N=>gB _ _ _ (by lia)) (mB _ _) (λk' k1' k2' k3'=>?_))));dsimp -zeta -zetaHave only
     extract_lets +onlyGivenNames bc2 a2 jp3
     subst a2;have J3:∀out ib',MI O key a.toList b.toList z ib' out.toList->ib'<b.size->B<ib'->(∀y∈b.toList.drop ib',Le O key u y)->wpS (ML prog w) A E s (jp3 () out ib') Q1 U:=by
      intro out ib' M l hb up;have M5:=tO M d hu up;refine N4 (zM hu ?_);dsimp only;by_cases c4:z+1+1=a.size
      .rw[OB (by simpa using c4)];exact N6 (hr _ _ _ hE (i8 M5 d o hl c4))
      .rw[OC (by simpa using c4)];have q:=hd _ _ _ (m,ac2,bc2) U hE M5 (by lia) l (by lia);split
       .exact N6 q.1
       .exact N6 q.2
     by_cases c5:k' > 0
     .rw[OB c5];dsimp only;have M4:=Gi M3 o (by lia) (λi N y hy x L=>Le.trans (lowB _ _ _ k2' i N y hy) (d.drop_le hu' x L));by_cases c6:B+1+k'=b.size
      .rw[OB (by simpa using c6)];exact N6 (hr _ _ _ hE (iB M4 d o (.inr c6)))
      rw[OC (by simpa using c6)];exact J3 _ _ M4 (by lia) (by lia) (upA _ _ _ k3')
     .rw[OC c5];exact J3 _ _ M3 (by lia) (by lia) (upA (B+1) _ 0 (λi _=>k3' i (by lia)))
    by_cases f:k > 0
    .rw[OB f];dsimp only;have M2:=Gj M d (by lia) (λi N x L y hy=>Le.trans (lowA _ _ _ k2 i N x L) (o.drop_le hv' y hy));by_cases c2:G+k+1=a.size
     .rw[OB (by simpa using c2)];exact N6 (hr _ _ _ hE (i8 M2 d o hl c2))
     rw[OC (by simpa using c2)];by_cases c2':G+k=a.size
     .rw[OB (by simpa using c2')];exact N6 (hr _ _ _ hE (iB M2 d o (.inl c2')))
     rw[OC (by simpa using c2')];exact J2 _ _ M2 (by lia) (by lia) (highA _ _ _ k3)
    .rw[OC f];exact J2 _ _ M h1 (Qh _) (highA _ _ 0 (λi _=>k3 i (by lia)))
end
section
variable{O:On}{key:Keyed->O.α}{a b:P9}
def aX.take_le (h:aX O key l)(B:l[i]?=some x):∀y∈l.take (i+1),Le O key y x:=by
 intro y E;obtain⟨j,hj⟩:=QC E;have A:j<i+1:=by
  have:=(Qa.mp hj).1;rw[QV]at this;lia
 rw[Qu A]at hj;exact h.at_le (by lia) hj B
structure MH(O:On)(key:Keyed->O.α)(X Y:R7)(na nb:Nat)(L:R7):Prop where
 ha:na<=X.length
 hb:nb<=Y.length
 pm:L.Perm (X.drop na++Y.drop nb)
 so:aX O key L
 la:∀z∈L,∀x∈X.take na,Le O key x z
 lb:∀z∈L,∀y∈Y.take nb,Le O key y z
variable{X Y L:R7}{na nb:Nat}
def MH.done(M:MH O key X Y na nb L)(E:aX O key X)(G:aX O key Y)(h:na=0\/nb=0):Good O key X Y (X.take na++Y.take nb++L):=by
 refine⟨?_,?_⟩
 .rcases h with rfl|rfl
  .rw[List.take_zero,QS];exact yB (G.sublist (Wo _ _)) M.so λx A y B=>M.lb y B x A
  .rw[List.take_zero,Q6];exact yB (E.sublist (Wo _ _)) M.so λx A y B=>M.la y B x A
 .refine (M.pm.append_left _).trans ?_;have H:(X.take na++Y.take nb++(X.drop na++Y.drop nb)).Perm (X.take na++(X.drop na++Y.take nb)++Y.drop nb):=by
   rw[<-Qm];refine Wu.append_right _ ?_;rw[Qm];exact Wu.append_left _ WH
  refine H.trans ?_;rw[<-Qm (X.take na),QE,Qm,QE]
def MH.first(M:MH O key X Y na nb L)(E:aX O key X)(G:aX O key Y)(H:∀x∈X,∀y,Y[0]?=some y->Le O key y x)(h:nb=1):Good O key X Y (Y.take nb++X.take na++L):=by
 subst h;refine⟨?_,?_⟩
 .refine yB (yB (G.sublist (Wo _ _)) (E.sublist (Wo _ _)) ?_) M.so ?_
  .intro y A x hx;obtain⟨j,hj⟩:=QC A;have B:=(Qa.mp hj).1;rw[QV]at B;obtain rfl:j=0:=by lia
   rw[Qu (by lia)]at hj;exact H x (Wg hx) y hj
  .intro x hx y A;rcases Qs.mp hx with hx|hx
   .exact M.lb y A x hx
   .exact M.la y A x hx
 .refine (M.pm.append_left _).trans ?_;have I:(Y.take 1++X.take na++(X.drop na++Y.drop 1)).Perm (Y.take 1++(X++Y.drop 1)):=by
   rw[Qm,<-Qm (X.take na),QE]
  refine I.trans ?_;rw[<-Qm];refine(Wu.append_right _ WH).trans ?_;rw[Qm,QE]
def j8 {l:R7}(h:l[i]?=some x):l.drop i=x::l.drop (i+1):=by
 obtain⟨A,rfl⟩:=Qa.mp h;exact QM A
def kA {l:R7}(h:i<=j)(A:x∈l.take i):x∈l.take j:=by
 have:l.take i=(l.take j).take i:=by rw[List.take_take];congr 1;lia
 rw[this]at A;exact Wg A
def MH.pushA(M:MH O key X Y (na+1) nb L)(E:aX O key X){x:Keyed}(B:X[na]?=some x)(h:∀y∈Y.take nb,Le O key y x):MH O key X Y na nb (x::L):=by
 have G:x∈X.take (na+1):=by rw[yI B];simp
 have:=M.ha;refine⟨by lia,M.hb,?_,Q3.mpr ⟨λz hz=>M.la z hz x G,M.so⟩,λz hz y A=>?_,λz hz y A=>?_⟩
 .rw[j8 B,QZ];exact M.pm.cons x
 .rcases Qn.mp hz with rfl|hz
  .exact E.take_le B y (kA (by lia) A)
  .exact M.la z hz y (kA (by lia) A)
 .rcases Qn.mp hz with rfl|hz
  .exact h y A
  .exact M.lb z hz y A
def MH.pushB(M:MH O key X Y na (nb+1) L)(E:aX O key Y){y:Keyed}(B:Y[nb]?=some y)(h:∀x∈X.take na,Le O key x y):MH O key X Y na nb (y::L):=by
 have G:y∈Y.take (nb+1):=by rw[yI B];simp
 have:=M.hb;refine⟨M.ha,by lia,?_,Q3.mpr ⟨λz hz=>M.lb z hz y G,M.so⟩,λz hz x A=>?_,λz hz x A=>?_⟩
 .rw[j8 B];exact(M.pm.cons y).trans List.perm_middle.symm
 .rcases Qn.mp hz with rfl|hz
  .exact h x A
  .exact M.la z hz x A
 .rcases Qn.mp hz with rfl|hz
  .exact E.take_le B x (kA (by lia) A)
  .exact M.lb z hz x (kA (by lia) A)
def j9 {l:R7}(h:l[i]?=some x):(l.drop i).take (k+1)=x::(l.drop (i+1)).take k:=by
 rw[j8 h,List.take_succ_cons]
theorem MH.blockA(B:aX O key X):∀(k na:Nat),MH O key X Y (na+k) nb L->(∀i,na<=i->i<na+k->∀x,X[i]?=some x->∀y∈Y.take nb,Le O key y x)->MH O key X Y na nb ((X.drop na).take k++L)
 |0,_,M,_=>by simpa using M
 |k+1,na,M,hl=>by
  have E:=M.ha;have q:MH O key X Y (na+1) nb ((X.drop (na+1)).take k++L):=MH.blockA B k (na+1) (by rw[show na+1+k=na+(k+1) by lia];exact M) λi G H=>hl i (by lia) (by lia);have A:X[na]?=some X[na]:=by simp
  rw[j9 A,QZ];exact q.pushA B A (hl na (Qh _) (by lia) _ A)
theorem MH.blockB(B:aX O key Y):∀(k nb:Nat),MH O key X Y na (nb+k) L->(∀i,nb<=i->i<nb+k->∀y,Y[i]?=some y->∀x∈X.take na,Le O key x y)->MH O key X Y na nb ((Y.drop nb).take k++L)
 |0,_,M,_=>by simpa using M
 |k+1,nb,M,hl=>by
  have E:=M.hb;have q:MH O key X Y na (nb+1) ((Y.drop (nb+1)).take k++L):=MH.blockB B k (nb+1) (by rw[show nb+1+k=nb+(k+1) by lia];exact M) λi G H=>hl i (by lia) (by lia);have A:Y[nb]?=some Y[nb]:=by simp
  rw[j9 A,QZ];exact q.pushB B A (hl nb (Qh _) (by lia) _ A)
def pU(p a b:P9)(i j:Nat):(a.extract 0 i++b.extract 0 j++p.reverse).toList=a.toList.take i++b.toList.take j++p.toList.reverse:=by
 simp only[Vg,WJ,Wv,Array.toList_reverse,VL,Nat.sub_zero]
def iA{p:P9}(M:MH O key a.toList b.toList na nb p.toList.reverse)(A:aX O key a.toList)(B:aX O key b.toList)(h:na=0\/nb=0):Good O key a.toList b.toList (a.extract 0 na++b.extract 0 nb++p.reverse).toList:=by
 rw[pU];exact M.done A B h
def ly{p:P9}(M:MH O key a.toList b.toList na nb p.toList.reverse)(A:aX O key a.toList)(B:aX O key b.toList)(E:∀x∈a.toList,∀y,b.toList[0]?=some y->Le O key y x)(h:nb=1):Good O key a.toList b.toList (b.extract 0 nb++a.extract 0 na++p.reverse).toList:=by
 rw[pU];exact M.first A B E h
def ng {p:P9}(M:MH O key a.toList b.toList na nb p.toList.reverse)(A:aX O key a.toList)(E:0<na)(B:a[na-1]?=some x)(h:∀y∈b.toList.take nb,Le O key y x):MH O key a.toList b.toList (na-1) nb (p.push x).toList.reverse:=by
 obtain⟨n,rfl⟩:∃n,na=n+1:=⟨na-1,by lia⟩;rw[W1,WU];exact M.pushA A (by simpa using B) h
def tN {p:P9}(M:MH O key a.toList b.toList na nb p.toList.reverse)(A:aX O key b.toList)(E:0<nb)(B:b[nb-1]?=some y)(h:∀x∈a.toList.take na,Le O key x y):MH O key a.toList b.toList na (nb-1) (p.push y).toList.reverse:=by
 obtain⟨n,rfl⟩:∃n,nb=n+1:=⟨nb-1,by lia⟩;rw[W1,WU];exact M.pushB A (by simpa using B) h
def pT(p a:P9)(i j:Nat):(p++(a.extract i j).reverse).toList.reverse=(a.toList.drop i).take (j-i)++p.toList.reverse:=by
 simp only[Vg,Array.toList_reverse,WJ,Wv,WU,List.reverse_reverse]
def Gh (M:MH O key a.toList b.toList na nb p.toList.reverse)(A:aX O key a.toList)(E:t<=na)(h:∀i,t<=i->i<na->∀x,a.toList[i]?=some x->∀y∈b.toList.take nb,Le O key y x):MH O key a.toList b.toList t nb (p++(a.extract t na).reverse).toList.reverse:=by
 rw[pT];exact MH.blockA A (na-t) t (by rw[show t+(na-t)=na by lia];exact M) λi B G=>h i B (by lia)
def Gg (M:MH O key a.toList b.toList na nb p.toList.reverse)(A:aX O key b.toList)(E:t<=nb)(h:∀i,t<=i->i<nb->∀y,b.toList[i]?=some y->∀x∈a.toList.take na,Le O key x y):MH O key a.toList b.toList na t (p++(b.extract t nb).reverse).toList.reverse:=by
 rw[pT];exact MH.blockB A (nb-t) t (by rw[show t+(nb-t)=nb by lia];exact M) λi B G=>h i B (by lia)
end
section
variable{O:On}{key:Keyed->O.α}{S:R0}{a b:P9}
variable{κ:Om}{prog:My}{w:Mz}{A:MG}{E:O2}{s:Shared}
def ux [Decidable c]{x y:StateT N2 Sem B}{Q:B->N2->Prop}{st:N2}(G:c)(h:wpS (ML prog w) A E s x Q st):wpS (ML prog w) A E s (if c then x else y) Q st:=by rw[OB G];exact h
def uw [Decidable c]{x y:StateT N2 Sem B}{Q:B->N2->Prop}{st:N2}(G:¬c)(h:wpS (ML prog w) A E s y Q st):wpS (ML prog w) A E s (if c then x else y) Q st:=by rw[OC G];exact h
noncomputable def Jb:P9->P9->StateT N2 Sem P9:=sortPriv% PySem.Builtin.mergeHi
def Kz (C:ev κ prog w A E s O key S){st:N2}(hk:kindOf st=κ)(d:aX O key a.toList)(g:aX O key b.toList)(hSa:∀x∈a.toList,S x)(hSb:∀x∈b.toList,S x)(hb0:0<b.size)(ha0:0<a.size)(hf:∀x∈a.toList,∀y,b.toList[0]?=some y->Le O key y x)(hl:∀y∈b.toList,∀x,a[a.size-1]?=some x->Le O key y x)(h:∀r H,Eqv st H->Good O key a.toList b.toList r.toList->Q r H):
  wpS (ML prog w) A E s (Jb a b) Q st:=by
 have atA:∀i,i<a.size->∃x,a[i]?=some x/\S x/\a.toList[i]?=some x:=λi k=>⟨a[i],by simp[k],hSa _ (by simp),by simp[k]⟩;have atB:∀i,i<b.size->∃x,b[i]?=some x/\S x/\b.toList[i]?=some x:=λi k=>⟨b[i],by simp[k],hSb _ (by simp),by simp[k]⟩;have gA:∀(ia:Nat) (v:Keyed) (i:Nat),ia+i<a.size->∃x,a[ia+i]?=some x/\S x/\(! O.blt (key v) (key (a.getD (ia+i) v)))=(if false=true then O.blt (key x) (key v)else ! O.blt (key v) (key x)):=by
  intro ia v i k;refine aP λf zk=>?_;obtain⟨x,L,sx,_⟩:=atA (ia+i) k;refine zk ?_;exact⟨x,L,sx,by rw[OC (by simp),Q9,L];rfl⟩
 have gB:∀(ib:Nat) (u:Keyed) (i:Nat),ib+i<b.size->∃x,b[ib+i]?=some x/\S x/\O.blt (key (b.getD (ib+i) u)) (key u)=(if true=true then O.blt (key x) (key u)else ! O.blt (key u) (key x)):=by
  intro ib u i k;refine aP λf zj=>?_;obtain⟨x,L,sx,_⟩:=atB (ib+i) k;refine zj ?_;exact⟨x,L,sx,by rw[OB rfl,Q9,L];rfl⟩
 have dA:∀(i:Nat) (v x:Keyed),a.toList[i]?=some x->a.getD i v=x:=λi v x L=>by rw[Q9,<-QL,L];rfl
 have dB:∀(i:Nat) (v x:Keyed),b.toList[i]?=some x->b.getD i v=x:=λi v x L=>by rw[Q9,<-QL,L];rfl
 have mA:∀(ia:Nat) (v:Keyed) (i j:Nat),i<=j->j<a.size-ia->(! O.blt (key v) (key (a.getD (ia+j) v)))=true->(! O.blt (key v) (key (a.getD (ia+i) v)))=true:=by
  intro ia v i j hij hj hB;refine aP λf zi=>?_;obtain⟨x,L,_,hx'⟩:=atA (ia+i) (by lia);obtain⟨y,hy,_,hy'⟩:=atA (ia+j) (by lia);refine zi ?_;rw[dA _ _ _ hy']at hB;rw[dA _ _ _ hx'];have e:Le O key x v:=Le.trans (d.at_le (by lia) hx' hy') (show O.blt (key v) (key y)=false from by simpa using hB);simpa using (show O.blt (key v) (key x)=false from e)
 have mB:∀(ib:Nat) (u:Keyed) (i j:Nat),i<=j->j<b.size-ib->O.blt (key (b.getD (ib+j) u)) (key u)=true->O.blt (key (b.getD (ib+i) u)) (key u)=true:=by
  intro ib u i j hij hj hB;refine aP λf zh=>?_;obtain⟨x,L,_,hx'⟩:=atB (ib+i) (by lia);obtain⟨y,hy,_,hy'⟩:=atB (ib+j) (by lia);refine zh ?_;rw[dB _ _ _ hy']at hB;rw[dB _ _ _ hx'];exact KeyOrd.klt_of_kle_of_klt (g.at_le (by lia) hx' hy') hB
 have lowT:∀(t:Nat) (v:Keyed),t<=a.size->(∀i,i<t->(! O.blt (key v) (key (a.getD (0+i) v)))=true)->∀x∈a.toList.take t,Le O key x v:=by
  intro t v ht hB x L;obtain⟨i,k⟩:=QC L;have hlt:=(Qa.mp k).1;rw[QV]at hlt;rw[Qu (by lia)]at k;have:=hB i (by lia);rw[WO,dA _ _ _ k]at this;exact(show O.blt (key v) (key x)=false from by simpa using this)
 have highT:∀(t n:Nat) (v:Keyed),(∀i,t<=i->i<n->(! O.blt (key v) (key (a.getD (0+i) v)))=false)->∀i,t<=i->i<n->∀x,a.toList[i]?=some x->Le O key v x:=by
  intro t n v hB i z o x L;have:=hB i z o;rw[WO,dA _ _ _ L]at this;exact KeyOrd.kle_of_klt (show O.blt (key v) (key x)=true from by simpa using this)
 have lowU:∀(t:Nat) (u:Keyed),t<=b.size->(∀i,i<t->O.blt (key (b.getD (0+i) u)) (key u)=true)->∀y∈b.toList.take t,Le O key y u:=by
  intro t u ht hB x L;obtain⟨i,k⟩:=QC L;have hlt:=(Qa.mp k).1;rw[QV]at hlt;rw[Qu (by lia)]at k;have:=hB i (by lia);rw[WO,dB _ _ _ k]at this;exact KeyOrd.kle_of_klt this
 have highU:∀(t n:Nat) (u:Keyed),(∀i,t<=i->i<n->O.blt (key (b.getD (0+i) u)) (key u)=false)->∀i,t<=i->i<n->∀y,b.toList[i]?=some y->Le O key u y:=by
  intro t n u hB i z o x L;have:=hB i z o;rw[WO,dB _ _ _ L]at this;exact this
 have upB:∀(n:Nat) (v:Keyed),0<n->b.toList[n-1]?=some v->∀y∈b.toList.take n,Le O key y v:=by
  intro n v h0 hv;have:=g.take_le hv
  rwa[show n-1+1=n by lia]at this
 have upA:∀(n:Nat) (v:Keyed),0<n->a.toList[n-1]?=some v->∀y∈a.toList.take n,Le O key y v:=by
  intro n v h0 hv;have:=d.take_le hv
  rwa[show n-1+1=n by lia]at this
 refine aP λf zg=>?_;obtain⟨x0,hx0,_,hx0'⟩:=atA (a.size-1) (by lia);refine zg ?_;refine N4 (N7 (NT ⟨rfl,?_⟩));refine N4 (zM hx0 ?_);dsimp -zeta -zetaHave only;have M0:MH O key a.toList b.toList (a.size-1) b.size (#[x0]:P9).toList.reverse:=by
  have e:MH O key a.toList b.toList a.size b.size (#[]:P9).toList.reverse:=⟨by simp,by simp,by simp,by simp[aX],by simp,by simp⟩;exact ng e d ha0 hx0 (λy hy=>hl y (Wg hy) x0 hx0)
 by_cases c1:a.size-1=0
 .rw[OB (by simpa using c1)];exact N6 (h _ _ (.refl _) (iA M0 d g (.inl c1)))
 rw[OC (by simpa using c1)];by_cases c2:b.size=1
 .rw[OB (by simpa using c2)];exact N6 (h _ _ (.refl _) (ly M0 d g hf c2))
 rw[OC (by simpa using c2)];refine N4 (N5 ?_);refine N4 (Oh (N9 (I:=λx c H=>Eqv st H/\∃G B out p,c=(none,G,B,out,p)/\MH O key a.toList b.toList G B out.toList.reverse/\0<G/\1<B/\G+B+x+1<=a.size+b.size)
  (Q:=λc H=>Eqv st H/\∃r G B out p,c=(some r,G,B,out,p)/\Good O key a.toList b.toList r.toList) ?s1 ?f1 ⟨.refl _,_,_,_,_,rfl,M0,by lia,by lia,by lia⟩) ?p1)
 case p1=>
  intro c H zz;refine aP λf zf=>?_;obtain⟨hE,r,G,B,out,p,rfl,hg⟩:=zz;refine zf ?_;exact N6 (h _ _ hE hg)
 case f1=>
  intro c H zz;refine aP λf ze=>?_;obtain⟨hE,G,B,out,p,rfl,M,z,o,h3⟩:=zz;refine ze ?_;lia
 case s1=>
  intro x0 c st0 _ hx0 zz;refine aP λf zd=>?_;obtain⟨hE0,na0,nb0,out0,mg0,rfl,M00,h10,h20,h30⟩:=zz;refine zd ?_;dsimp -zeta -zetaHave only;refine N4 (Oh (N9 (I:=λx c H=>Eqv st H/\∃G B out ac Y,c=(none,G,B,out,ac,Y)/\MH O key a.toList b.toList G B out.toList.reverse/\0<G/\1<B/\G+B+(x0+1)+x<=a.size+b.size)
   (Q:=λc H=>Eqv st H/\((∃r G B out ac Y,c=(some r,G,B,out,ac,Y)/\Good O key a.toList b.toList r.toList)\/∃G B out ac Y,c=(none,G,B,out,ac,Y)/\MH O key a.toList b.toList G B out.toList.reverse/\0<G/\1<B/\G+B+x0+2<=a.size+b.size)) ?s2 ?f2 ⟨hE0,_,_,_,_,_,rfl,M00,h10,h20,h30⟩) ?p2)
  case f2=>
   intro c H zz;refine aP λf zc=>?_;obtain⟨hE,G,B,out,ac,Y,rfl,M,z,o,h3⟩:=zz;refine zc ?_;exact⟨hE,.inr ⟨G,B,out,ac,Y,rfl,M,z,o,by lia⟩⟩
  case s2=>
   intro x c H _ L zz;refine aP λf zb=>?_;obtain⟨hE,G,B,out,ac,Y,rfl,M,z,o,h3⟩:=zz;refine zb ?_;have hna:G<=a.size:=M.ha;have hnb:B<=b.size:=M.hb;dsimp -zeta -zetaHave only;refine aP λf za=>?_;obtain⟨u,hu,su,hu'⟩:=atA (G-1) (by lia);obtain⟨v,hv,sv,hv'⟩:=atB (B-1) (by lia);refine za ?_;refine N4 (zM hv (N4 (zM hu (N4 (C v u H _ sv su (hE.1.trans hk) ?_)))));dsimp -zeta -zetaHave only;cases hc:O.blt (key v) (key u)with
   |true=>
    rw[OB rfl];have M2:=ng M d z hu (λy hy=>Le.trans (upB B v (by lia) hv' y hy) (KeyOrd.kle_of_klt hc));refine N4 (zM hu ?_);by_cases c1:G-1=0
    .rw[OB (by simpa using c1)];exact N6 ⟨hE,.inl ⟨_,_,_,_,_,_,rfl,iA M2 d g (.inl c1)⟩⟩
    .rw[OC (by simpa using c1)];split
     .exact N6 ⟨hE,.inr ⟨_,_,_,_,_,rfl,M2,by lia,by lia,by lia⟩⟩
     .exact N6 ⟨hE,_,_,_,_,_,rfl,M2,by lia,by lia,by lia⟩
   |false=>
    rw[OC (by simp)];have M2:=tN M g (by lia) hv (λx L=>Le.trans (upA G u z hu' x L) (show Le O key u v from hc));refine N4 (zM hv ?_);by_cases c1:B-1=1
    .rw[OB (by simpa using c1)];exact N6 ⟨hE,.inl ⟨_,_,_,_,_,_,rfl,ly M2 d g hf c1⟩⟩
    .rw[OC (by simpa using c1)];split
     .exact N6 ⟨hE,.inr ⟨_,_,_,_,_,rfl,M2,by lia,by lia,by lia⟩⟩
     .exact N6 ⟨hE,_,_,_,_,_,rfl,M2,by lia,by lia,by lia⟩
  case p2=>
   rintro c st1 ⟨hE1,⟨r,G,B,out,ac,Y,rfl,hg⟩|⟨na1,nb1,out1,ac1,bc1,rfl,M1,h11,h21,h31⟩⟩
   .exact N6 ⟨hE1,r,G,B,out,_,rfl,hg⟩
   dsimp -zeta -zetaHave only;refine N4 (N7 (NT ⟨rfl,?_⟩));refine N4 (Oh (N9 (I:=λx c H=>Eqv st H/\∃G B out p ac Y,c=(none,G,B,out,p,ac,Y)/\MH O key a.toList b.toList G B out.toList.reverse/\0<G/\1<B/\G+B+x0+2<=a.size+b.size)
    (Q:=λc H=>Eqv st H/\((∃r G B out p ac Y,c=(some r,G,B,out,p,ac,Y)/\Good O key a.toList b.toList r.toList)\/∃G B out p ac Y,c=(none,G,B,out,p,ac,Y)/\MH O key a.toList b.toList G B out.toList.reverse/\0<G/\1<B/\G+B+x0+2<=a.size+b.size)) ?s3 ?f3 ⟨hE1,_,_,_,_,_,_,rfl,M1,h11,h21,h31⟩) ?p3)
   case f3=>
    intro c H zz;refine aP λf zk1=>?_;obtain⟨hE,G,B,out,p,ac,Y,rfl,M,z,o,h3⟩:=zz;refine zk1 ?_;exact⟨hE,.inr ⟨G,B,out,p,ac,Y,rfl,M,z,o,h3⟩⟩
   case p3=>
    rintro c H ⟨hE,⟨r,G,B,out,p,ac,Y,rfl,hg⟩|⟨G,B,out,p,ac,Y,rfl,M,z,o,h3⟩⟩
    .exact N6 ⟨hE,r,G,B,out,_,rfl,hg⟩
    .dsimp -zeta -zetaHave only;refine N4 (Oj ?_);exact N6 ⟨hE,_,_,_,_,rfl,M,z,o,by lia⟩
   case s3=>
    intro x c H _ L zz;refine aP λf zj1=>?_;obtain⟨hE,G,B,out,p,ac,Y,rfl,M,z,o,h3⟩:=zz;refine zj1 ?_;have hna:G<=a.size:=M.ha;have hnb:B<=b.size:=M.hb;refine nU λQ1 e1=>?_;have hr:∀r c N,Eqv st N->Good O key a.toList b.toList r.toList->Q1 (.done (some r,c)) N:=λr c N hE hg=>by rw[e1];exact⟨hE,.inl ⟨r,_,_,_,_,_,_,rfl,hg⟩⟩
    have hd:∀G B out c N,Eqv st N->MH O key a.toList b.toList G B out.toList.reverse->0<G->1<B->G+B+x0+2<=a.size+b.size->Q1 (.done (none,G,B,out,c)) N/\Q1 (.yield (none,G,B,out,c)) N:=λG B out c N hE M z o h3=>by rw[e1];exact⟨⟨hE,.inr ⟨_,_,_,_,_,_,rfl,M,z,o,h3⟩⟩,hE,_,_,_,_,_,_,rfl,M,z,o,h3⟩
    clear e1 L;refine aP λf zi1=>?_;obtain⟨v,hv,sv,hv'⟩:=atB (B-1) (by lia);refine zi1 ?_;dsimp -zeta -zetaHave only
    extract_lets +onlyGivenNames s0 o1 s1 a1 s2 b1 s3 m1 s4 ac1 bc1
    subst s0 o1 s1 a1 s2 b1 s3 m1 s4 ac1 bc1;dsimp -zeta -zetaHave only
    extract_lets +onlyGivenNames nb2 jp
    subst nb2;refine Aj (J:=λm=>jp () m) λm=>N4 (Oj (Ak λN es=>N4 (zM hv ?_)))
    replace hE:Eqv st N:=by rw[es];exact hE
    clear es jp;refine N4 (xk C (hE.1.trans hk) sv (by lia) (λi=>! O.blt (key v) (key (a.getD (0+i) v))) (λi k=>gA 0 v i (by lia)) (λi j q1 q2=>mA 0 v i j q1 (by lia)) (λt k1 k2 k3=>?_));dsimp -zeta -zetaHave only
    extract_lets +onlyGivenNames kk ac2 jp2
    have J2:∀U out,MH O key a.toList b.toList U B out.toList.reverse->0<U->U<=G->(∀i,i<U->(! O.blt (key v) (key (a.getD (0+i) v)))=true)->wpS (ML prog w) A E s (jp2 () U out) Q1 N:=by
     intro U out M z ha ba;refine aP λf zh1=>?_;obtain⟨u,hu,su,hu'⟩:=atA (U-1) (by lia);refine zh1 ?_;have M3:=tN M g (by lia) hv (lowT U v (by lia) ba);refine N4 (zM hv ?_)
     extract_lets +onlyGivenNames o3
     subst o3;by_cases c3:B-1=1
     .rw[OB (by simpa using c3)];exact N6 (hr _ _ _ hE (ly M3 d g hf c3))
     rw[OC (by simpa using c3)];refine N4 (zM hu (N4 (xk C (hE.1.trans hk) su (by lia) (λi=>O.blt (key (b.getD (0+i) u)) (key u)) (λi k=>gB 0 u i (by lia)) (λi j q1 q2=>mB 0 u i j q1 (by lia)) (λt' k1' k2' k3'=>?_))));dsimp -zeta -zetaHave only
     extract_lets +onlyGivenNames kk2 bc2 a2 jp3
     subst a2;have J3:∀l out,MH O key a.toList b.toList U l out.toList.reverse->1<l->l<B->(∀i,i<l->O.blt (key (b.getD (0+i) u)) (key u)=true)->wpS (ML prog w) A E s (jp3 () l out) Q1 N:=by
      intro l out M o hb up;have M5:=ng M d (by lia) hu (lowU l u (by lia) up);refine N4 (zM hu ?_);dsimp only;by_cases c8:U-1=0
      .rw[OB (by simpa using c8)];exact N6 (hr _ _ _ hE (iA M5 d g (.inl c8)))
      .rw[OC (by simpa using c8)];have q:=hd _ _ _ (m,ac2,bc2) N hE M5 (by lia) o (by lia);split
       .exact N6 q.1
       .exact N6 q.2
     by_cases c5:B-1-t' > 0
     .refine ux c5 ?_;dsimp only;have M4:=Gg M3 g k1' (λi q1 q2 y hy x L=>Le.trans (upA U u (by lia) hu' x L) (highU t' _ u k3' i q1 q2 y hy));by_cases c6:t'=1
      .rw[OB (by simpa using c6)];exact N6 (hr _ _ _ hE (ly M4 d g hf c6))
      rw[OC (by simpa using c6)];by_cases c7:t'=0
      .rw[OB (by simpa using c7)];exact N6 (hr _ _ _ hE (iA M4 d g (.inr c7)))
      rw[OC (by simpa using c7)];exact J3 _ _ M4 (by lia) (by lia) k2'
     .refine uw c5 ?_;exact J3 _ _ M3 (by lia) (by lia) (λi q=>k2' i (by lia))
    by_cases c1:G-t > 0
    .refine ux c1 ?_;dsimp only;have M2:=Gh M d k1 (λi q1 q2 x L y hy=>Le.trans (upB B v (by lia) hv' y hy) (highT t _ v k3 i q1 q2 x L));by_cases c2:t=0
     .rw[OB (by simpa using c2)];exact N6 (hr _ _ _ hE (iA M2 d g (.inl c2)))
     rw[OC (by simpa using c2)];exact J2 _ _ M2 (by lia) (by lia) k2
    .refine uw c1 ?_;exact J2 _ _ M z (Qh _) (λi q=>k2 i (by lia))
end
section
variable{O:On}{key:Keyed->O.α}{S:R0}
theorem uv:∀(l:R7) (n A:Nat) (xs:P9),A+n+l.length<=xs.size ->
  ((l.zipIdx n).foldl (λ(a:P9) (B:Keyed×Nat)=>a.setIfInBounds (A+B.2) B.1) xs).toList=xs.toList.take (A+n)++l++xs.toList.drop (A+n+l.length)
 |[],n,A,xs,h=>by simp
 |x::l,n,A,xs,h=>by
  rw[List.zipIdx_cons,Vd];have hl:A+n<xs.toList.length:=by simp at h ⊢;lia
  rw[uv l (n+1) A _ (by simp at h ⊢;lia)];rw[Uc];have E:(xs.toList.set (A+n) x).take (A+(n+1))=xs.toList.take (A+n)++[x]:=by
   rw[show A+(n+1)=A+n+1 by lia,yI (x:=x) (by rw[Wj hl]),List.take_set_of_le (Qh _)]
  have G:(xs.toList.set (A+n) x).drop (A+(n+1)+l.length)=xs.toList.drop (A+n+(x::l).length):=by
   rw[List.drop_set_of_lt (by lia),show A+(n+1)+l.length=A+n+(x::l).length by simp;lia]
  rw[E,G];simp
variable{κ:Om}{prog:My}{w:Mz}{A:MG}{E:O2}{s:Shared}
structure Ok(κ:Om)(O:On)(key:Keyed->O.α)(S:R0)(st:N2)(pend:O0)(l:R7):Prop where
 kind:kindOf st=κ
 failed:Of st=none
 pend:(Oe st).toList=pend
 arr:(arrOf st).toList=l
 all:∀x∈l,S x
def nT {V:R7}(B:aX O key U)(G:aX O key V)(h:∀x y,U[U.length-1]?=some x->V[0]?=some y->Le O key x y):aX O key (U++V):=by
 refine yB B G λx L y M=>?_;obtain⟨i,H⟩:=QC L;obtain⟨j,hj⟩:=QC M;have N:=(Qa.mp H).1;have Q:=(Qa.mp hj).1;have I:U[U.length-1]?=some (U[U.length-1]'(by omega)):=by simp
 have J:V[0]?=some (V[0]'(by omega)):=by simp
 exact((B.at_le (by omega) H I).trans (h _ _ I J)).trans (G.at_le (by omega) J hj)
def Gf {st:N2}(h:Q ⟨⟩ x):wpS (ML prog w) A E s (set x:StateT N2 Sem PUnit) Q st:=by
 unfold wpS;rw[StateT.run_set];exact M9 ⟨rfl,h⟩
noncomputable def Ja:Nat->StateT N2 Sem Bool:=sortPriv% PySem.Builtin.mergeAt
def Ky (C:ev κ prog w A E s O key S){st:N2}{V:R7}(K:Ok κ O key S st (u++(n,na,po)::(sb,nb,po2)::p2) (P++(U++(V++R))))(hsa:n=P.length)(hna:na=U.length)(hsb:sb=P.length+U.length)(hnb:nb=V.length)(hU0:0<U.length)(hV0:0<V.length)(hU:aX O key U)(hV:aX O key V)(h:∀B W,Ok κ O key S B (u++(n,na+nb,po)::p2) (P++(W++R))->aX O key W->W.Perm (U++V)->Q true B):
  wpS (ML prog w) A E s (Ja u.length) Q st:=by
 have e1:(Oe st)[u.length]?=some (n,na,po):=by rw[<-QL,K.pend];simp
 have e2:(Oe st)[u.length+1]?=some (sb,nb,po2):=by rw[<-QL,K.pend];simp
 have hp:(((Oe st).setIfInBounds u.length (n,na+nb,po)).eraseIdxIfInBounds (u.length+1)).toList=u++(n,na+nb,po)::p2:=by
  rw[Array.toList_eraseIdxIfInBounds,Uc,K.pend];simp[List.set_append,List.eraseIdx_append];intro o;lia
 have atU:∀i,i<U.length->(arrOf st)[P.length+i]?=U[i]?:=λi I=>by
  rw[<-QL,K.arr,Qe (by lia),show P.length+i-P.length=i by lia,Qf I]
 have atV:∀i,i<V.length->(arrOf st)[P.length+U.length+i]?=V[i]?:=λi I=>by
  rw[<-QL,K.arr,Qe (by lia),Qe (by lia),show P.length+U.length+i-P.length-U.length=i by lia,Qf I]
 refine N4 (N5 ?_);dsimp only;rw[e1,e2];dsimp only;refine N4 (Gf ?_);have K1:Ok κ O key S (SortSt.mk' (kindOf st) (arrOf st) (((Oe st).setIfInBounds u.length (n,na+nb,po)).eraseIdxIfInBounds (u.length+1)) (Oo st) (Of st)) (u++(n,na+nb,po)::p2) (P++(U++(V++R))):=⟨K.kind,K.failed,hp,K.arr,K.all⟩;have l:aX O key (U++V)->Q true (SortSt.mk' (kindOf st) (arrOf st) (((Oe st).setIfInBounds u.length (n,na+nb,po)).eraseIdxIfInBounds (u.length+1)) (Oo st) (Of st)):=λhs=>by
  refine h _ (U++V) ?_ hs (.refl _);rw[Qm];exact K1
 have sU:∀x∈U,S x:=λx H=>K.all x (by simp[H]);have sV:∀x∈V,S x:=λx H=>K.all x (by simp[H]);have gU:∀i,i<U.length->∃x,U[i]?=some x/\S x:=λi I=>⟨U[i],by simp[I],sU _ (by simp)⟩;have gV:∀i,i<V.length->∃x,V[i]?=some x/\S x:=λi I=>⟨V[i],by simp[I],sV _ (by simp)⟩;obtain⟨p,t,sv0⟩:=gV 0 hV0;obtain⟨m,b,su1⟩:=gU (U.length-1) (by lia);subst hsa hna hsb hnb;have hel:(arrOf st)[P.length+U.length]?=some p:=by have:=atV 0 hV0;rw[VA]at this;rw[this,t]
 refine N4 (zM hel ?_);refine N4 (xk C (left:=false) K.kind sv0 hU0 (λi=>! O.blt (key p) (key (U.getD i p))) (λi I=>?g1) ?m1 (λk k1 k2 k3=>?c1))
 case g1=>
  obtain⟨x,H,sx⟩:=gU i I;exact⟨x,by rw[<-H];exact atU i I,sx,by rw[OC (by simp),Qg,H];rfl⟩
 case m1=>
  intro i j hij hj hB;obtain⟨x,H,_⟩:=gU i (by lia);obtain⟨y,L,_⟩:=gU j hj;simp only[Qg,H,L,Ww]at hB ⊢;have e:Le O key x p:=Le.trans (hU.at_le hij H L) (show O.blt (key p) (key y)=false from by simpa using hB);simpa using (show O.blt (key p) (key x)=false from e)
 have lowU:∀i x,i<k->U[i]?=some x->Le O key x p:=λi x I H=>by
  have:=k2 i I;simp only[Qg,H,Ww]at this;exact(show O.blt (key p) (key x)=false from by simpa using this)
 have highU:∀i x,k<=i->U[i]?=some x->Le O key p x:=λi x I H=>by
  have:=k3 i I (Qa.mp H).1;simp only[Qg,H,Ww]at this;exact KeyOrd.kle_of_klt (show O.blt (key p) (key x)=true from by simpa using this)
 dsimp only;by_cases c1:U.length-k=0
 .rw[OB (by simpa using c1)];refine N6 (l (nT hU hV λx y H L=>?_));rw[t]at L;cases L;exact lowU _ x (by lia) H
 rw[OC (by simpa using c1)];have hel2:(arrOf st)[P.length+k+(U.length-k)-1]?=some m:=by
  rw[<-b,<-atU (U.length-1) (by lia)];congr 1;lia
 refine N4 (zM hel2 ?_);refine N4 (xk C (left:=true) K.kind su1 (by lia) (λi=>O.blt (key (V.getD i m)) (key m)) (λi I=>?g2) ?m2 (λM q1 q2 q3=>?c2))
 case g2=>
  obtain⟨x,H,sx⟩:=gV i I;exact⟨x,by rw[<-H];exact atV i I,sx,by rw[OB rfl,Qg,H];rfl⟩
 case m2=>
  intro i j hij hj hB;obtain⟨x,H,_⟩:=gV i (by lia);obtain⟨y,L,_⟩:=gV j hj;simp only[Qg,H,L,Ww]at hB ⊢;exact KeyOrd.klt_of_kle_of_klt (hV.at_le hij H L) hB
 have lowV:∀i y,i<M->V[i]?=some y->Le O key y m:=λi y I L=>by
  have:=q2 i I;simp only[Qg,L,Ww]at this;exact KeyOrd.kle_of_klt this
 have g:∀i y,M<=i->V[i]?=some y->Le O key m y:=λi y I L=>by
  have:=q3 i I (Qa.mp L).1;simp only[Qg,L,Ww]at this;exact this
 dsimp only;by_cases c2:M=0
 .rw[OB (by simpa using c2)];refine N6 (l (nT hU hV λx y H L=>?_));rw[b]at H;cases H;exact g 0 y (by lia) L
 rw[OC (by simpa using c2)];have H:((arrOf st).extract (P.length+k) (P.length+U.length)).toList=U.drop k:=by
  rw[WJ,Wv,K.arr,V4,Vy (by lia),QS,show P.length+k-P.length=k by lia,V8 (by lia)];rw[Wl (by simp;lia),We (by simp;lia)]
 have L:((arrOf st).extract (P.length+U.length) (P.length+U.length+M)).toList=V.take M:=by
  rw[WJ,Wv,K.arr,<-Qm,V4,Vy (by simp),QS,show P.length+U.length-(P++U).length=0 by simp,VL,show P.length+U.length+M-(P.length+U.length)=M by lia];rw[Wl q1]
 have hsx:((arrOf st).extract (P.length+k) (P.length+U.length)).size=U.length-k:=by rw[<-QY,H,WL]
 have hsy:((arrOf st).extract (P.length+U.length) (P.length+U.length+M)).size=M:=by rw[<-QY,L,QV];lia
 have f:∀x,(U.drop k)[U.length-k-1]?=some x->x=m:=λx o=>by
  rw[Wf,show k+(U.length-k-1)=U.length-1 by lia,b]at o;cases o;rfl
 have d:∀y,(V.take M)[0]?=some y->y=p:=λy o=>by
  rw[Qu (by lia),t]at o;cases o;rfl
 have N:∀x∈U.drop k,Le O key p x:=λx o=>by
  obtain⟨i,I⟩:=QC o;rw[Wf]at I;exact highU (k+i) x (by lia) I
 have Y:∀y∈V.take M,Le O key y m:=λy o=>by
  obtain⟨i,I⟩:=QC o;have hlt:=(Qa.mp I).1;rw[QV]at hlt;rw[Qu (by lia)]at I;exact lowV i y (by lia) I
 have fin:∀(r:P9) (B:N2),Eqv (SortSt.mk' (kindOf st) (arrOf st) (((Oe st).setIfInBounds u.length (P.length,U.length+V.length,po)).eraseIdxIfInBounds (u.length+1)) (Oo st) (Of st)) B->Good O key (U.drop k) (V.take M) r.toList ->
   Q (Of B).isNone (SortSt.mk' (kindOf B) (r.toList.zipIdx.foldl (λ(a:P9) (pj:Keyed×Nat)=>a.setIfInBounds (P.length+k+pj.2) pj.1) (arrOf B)) (Oe B) (Oo B) (Of B)):=by
  intro r B hE c;obtain⟨E1,E2,E3,E4⟩:=hE;have hf:Of B=none:=E4.trans K.failed;rw[show(Of B).isNone=true by rw[hf];rfl];have hlen:r.toList.length=U.length-k+M:=by rw[c.2.length_eq,Qw,WL,QV];lia
  refine h _ (U.take k++r.toList++V.drop M) ⟨E1.trans K.kind,hf,?_,?_,?_⟩ ?_ ?_
  .show (Oe B).toList=_;rw[E3];exact hp
  .show (r.toList.zipIdx.foldl _ (arrOf B)).toList=_;have E2':arrOf B=arrOf st:=E2;rw[E2',uv r.toList 0 (P.length+k) _ (by rw[<-QY,K.arr,hlen];simp;lia),K.arr,hlen];have t1:(P++(U++(V++R))).take (P.length+k+0)=P++U.take k:=by
    rw[VA,List.take_append,We (by lia),show P.length+k-P.length=k by lia,Wl (by lia)]
   have t2:(P++(U++(V++R))).drop (P.length+k+0+(U.length-k+M))=V.drop M++R:=by
    rw[<-Qm,<-Qm,V8 (by simp;lia),V4,Vy (by simp;lia),QS];congr 2;simp;lia
   rw[t1,t2];simp
  .intro x G;have m1:∀z∈r.toList,z∈U\/z∈V:=λz hz=>by
    have:=c.2.mem_iff.mp hz;rcases Qs.mp this with q|q
    .exact .inl (WB q)
    .exact .inr (Wg q)
   simp only[Qs]at G;rcases G with q|((q|q)|q)|q
   .exact K.all x (by simp[q])
   .exact sU x (Wg q)
   .rcases m1 x q with q|q
    .exact sU x q
    .exact sV x q
   .exact sV x (WB q)
   .exact K.all x (by simp[q])
  .have uV:∀x∈U,Le O key x m:=λx G=>by
    have:=hU.take_le b x (by rw[show U.length-1+1=U.length by lia,W5];exact G);exact this
   have vV:∀y∈V,Le O key p y:=λy J=>hV.drop_le t y (by simpa using J);have tU:∀x∈U.take k,Le O key x p:=λx o=>by
    obtain⟨i,I⟩:=QC o;have hlt:=(Qa.mp I).1;rw[QV]at hlt;rw[Qu (by lia)]at I;exact lowU i x (by lia) I
   have dV:∀y∈V.drop M,Le O key m y:=λy o=>by
    obtain⟨i,I⟩:=QC o;rw[Wf]at I;exact g (M+i) y (by lia) I
   refine yB (yB (hU.sublist (Wo _ _)) c.1 λx G z hz=>?_) (hV.sublist (Wt _ _)) λx G y J=>?_
   .rcases Qs.mp (c.2.mem_iff.mp hz)with q|q
    .exact (tU x G).trans (N z q)
    .exact (tU x G).trans (vV z (Wg q))
   .rcases Qs.mp G with q|q
    .exact (uV x (Wg q)).trans (dV y J)
    .rcases Qs.mp (c.2.mem_iff.mp q)with q|q
     .exact (uV x (WB q)).trans (dV y J)
     .exact (Y x q).trans (dV y J)
  .refine ((c.2.append_left _).append_right _).trans ?_;rw[<-Qm,QE,Qm,QE]
 by_cases c3:U.length-k<=M
 .rw[OB c3];refine N4 (KA C K.kind (by rw[H];exact hU.sublist (Wt _ _)) (by rw[L];exact hV.sublist (Wo _ _)) (by rw[H];exact λx q=>sU x (WB q)) (by rw[L];exact λx q=>sV x (Wg q)) (by rw[hsy];lia) (by rw[hsx];lia) ?_ ?_ (λr B hE c=>?_))
  .rw[H];intro x G y J;rw[<-QL,L]at J;rw[d y J];exact N x G
  .rw[H,L];intro y J x G;rw[WL]at G;rw[f x G];exact Y y J
  .rw[H,L]at c;exact N4 (Oj (N4 (N5 (N6 (fin r B hE c)))))
 .rw[OC c3];refine N4 (Kz C K.kind (by rw[H];exact hU.sublist (Wt _ _)) (by rw[L];exact hV.sublist (Wo _ _)) (by rw[H];exact λx q=>sU x (WB q)) (by rw[L];exact λx q=>sV x (Wg q)) (by rw[hsy];lia) (by rw[hsx];lia) ?_ ?_ (λr B hE c=>?_))
  .rw[H,L];intro x G y J;rw[d y J];exact N x G
  .rw[L,hsx];intro y J x G;rw[<-QL,H]at G;rw[f x G];exact Y y J
  .rw[H,L]at c;exact N4 (Oj (N4 (N5 (N6 (fin r B hE c)))))
end
section
variable{O:On}{key:Keyed->O.α}{S:R0}
variable{κ:Om}{prog:My}{w:Mz}{A:MG}{E:O2}{s:Shared}
def wz (C:ev κ prog w A E s O key S){st:N2}(K:Ok κ O key S st B l)(G:l[i]?=some x)(hj:l[j]?=some y)(q:Q (some (O.blt (key x) (key y))) st):
  wpS (ML prog w) A E s (ltAt' i j) Q st:=by
 rw[ltAt'_eq];refine N4 (N5 ?_);refine N4 (zM (by rw[<-QL,K.arr];exact G) (N4 (zM (by rw[<-QL,K.arr];exact hj) ?_)));exact C x y st _ (K.all x (Qv G)) (K.all y (Qv hj)) K.kind q
noncomputable def el(O:On)(key:Keyed->O.α)(l:R7):Prop:=(l.map key).Nodup
def el.at (h:el O key l){j:Nat}(B:i≠j)(H:l[i]?=some x)(I:l[j]?=some y)(J:O.blt (key x) (key y)=false):O.blt (key y) (key x)=true:=by
 cases z:O.blt (key y) (key x)with
 |true=>rfl
 |false=>
  exfalso;have e:=O.total _ _ J z;obtain⟨G,rfl⟩:=Qa.mp H;obtain⟨hj,rfl⟩:=Qa.mp I;rcases Nat.lt_or_gt_of_ne B with q|q
  .have:=(Wc.mp h) i j (by simpa using G) (by simpa using hj) q;exact this (by simpa using e)
  .have:=(Wc.mp h) j i (by simpa using hj) (by simpa using G) q;exact this (by simpa using e.symm)
def el.perm{l r:R7}(h:el O key l)(p:r.Perm l):el O key r:=(p.map key).nodup_iff.mpr h
def el.right{l r:R7}(h:el O key (l++r)):el O key r:=by
 unfold el at h ⊢;rw[Wb]at h;exact(QW.mp h).2.1
def IZ {T:R7}(h:aX O key (T.take x))(J:1<=x)(B:T[x]?=some u)(I:T[x-1]?=some v)(hl:Le O key v u):aX O key (T.take (x+1)):=by
 rw[yI B];refine nT h (by simp[aX]) λp q G H=>?_;have L:=(Qa.mp B).1;rw[QV,Nat.min_eq_left (by lia),Qu (by lia),I]at G;cases G;simp at H;rw[<-H];exact hl
def J7 {T:R7}(h:xs.toList=P++T)(n:Nat)(L:n<=T.length):(Oc xs P.length (P.length+n) ((P.length+n-P.length)/2)).toList=P++((T.take n).reverse++T.drop n):=by
 have M:xs.size=P.length+T.length:=by rw[<-QY,h,Qw]
 have I:∀j,xs[j]?=(P++T)[j]?:=λj=>by rw[<-QL,h]
 apply WC;intro k;rw[QL,Ol (by lia)];simp only[I];clear I M h xs;by_cases J:k<P.length
 .rw[OC (by lia),Qf J,Qf J]
 obtain⟨i,rfl⟩:∃i,k=P.length+i:=⟨k-P.length,by lia⟩;have H:∀(U:R7) i,(P++U)[P.length+i]?=U[i]?:=λU i=>by rw[Qe (WM _ _),Ui]
 have B:(T.take n).length=n:=Vv L;have G:(T.take n).reverse.length=n:=by rw[List.length_reverse];exact B
 rw[H (_++T.drop n)];generalize P.length=p at *
 by_cases c:i<n
 .rw[OB (by lia),show p+(p+n)-1-(p+i)=p+(n-1-i) by lia,H,Qf (by rw[G];exact c),W4 (by rw[B];exact c),B,Qu (by lia)]
 .rw[OC (by lia),H,Qe (by rw[G];lia),G,Wf,show n+(i-n)=i by lia]
def KP (C:ev κ prog w A E s O key S){st:N2}(K:Ok κ O key S st L (P++T))(l:0<T.length)(hd:el O key T)(h:∀G U R,Ok κ O key S G L (P++(U++R))->aX O key U->(U++R).Perm T->0<U.length->Q (some U.length) G):
  wpS (ML prog w) A E s (Oa P.length T.length) Q st:=by
 have o:∀{G:N2}{H:R7}{n:Nat},Ok κ O key S G L (P++H)->H.Perm T->1<=n->n<=H.length->aX O key (H.take n)->Q (some n) G:=by
  intro G H n K' g h1 f p;have e:=h G (H.take n) (H.drop n) (by rw[QE];exact K') p (by rw[QE];exact g) (by rw[QV];lia)
  rwa[QV,Nat.min_eq_left f]at e
 have m:∀{G:N2}{H:R7}{a:Nat}{Q':Option (Option Nat)×Nat->N2->Prop},Ok κ O key S G L (P++H)->H.length=T.length->1<=a->a<=T.length->aX O key (H.take a) ->
   (∀n,a<=n->n<=T.length->aX O key (H.take n)->(n=T.length\/∃u v,H[n]?=some u/\H[n-1]?=some v/\O.blt (key u) (key v)=true)->Q' (none,n) G) ->
   wpS (ML prog w) A E s (forIn [a:T.length] ((none,a):Option (Option Nat)×Nat) λ_ N=>do
    let __x <-ltAt' (P.length+N.snd) (P.length+N.snd-1)
    match __x with
    |some Y=>if Y=true then pure (ForInStep.done (none,N.snd))else pure (ForInStep.yield (none,N.snd+1))
    |_=>pure (ForInStep.done (some none,N.snd))) Q' G:=by
  intro G H a Q' K' hT h1 f p hq;refine N9 (I:=λx c J=>G=J/\c=(none,x)/\aX O key (H.take x)) ?s1 ?f1 ⟨rfl,rfl,p⟩
  case f1=>
   rintro c J ⟨rfl,rfl,B⟩;rw[show max a T.length=T.length by lia]at B ⊢;exact hq _ f (Qh _) B (.inl rfl)
  case s1=>
   rintro x c J b hxn ⟨rfl,rfl,B⟩;dsimp only;have k:H[x]?=some (H[x]'(by lia)):=by simp
   have M:H[x-1]?=some (H[x-1]'(by lia)):=by simp
   refine N4 (wz C K' (x:=H[x]'(by lia)) (y:=H[x-1]'(by lia)) (by rw[Qe (by lia),show P.length+x-P.length=x by lia];exact k) (by rw[Qe (by lia),show P.length+x-1-P.length=x-1 by lia];exact M) ?_);dsimp only;cases hc:O.blt (key (H[x]'(by lia))) (key (H[x-1]'(by lia)))with
   |true=>
    rw[OB rfl];exact N6 (hq x b (by lia) B (.inr ⟨_,_,k,M,hc⟩))
   |false=>
    rw[OC (by simp)];exact N6 ⟨rfl,rfl,IZ B (by lia) k M hc⟩
 refine N4 (m K rfl (Qh 1) l (by
  cases T with
  |nil=>simp at l
  |cons t T=>simp[aX]) λn n1 n2 p hor=>?_)
 dsimp only;by_cases c1:n=T.length
 .rw[OB (by simpa using c1)];exact N6 (o K (.refl _) n1 n2 p)
 rw[OC (by simpa using c1)];obtain⟨u,v,k,M,hlt⟩:=hor.resolve_left c1;have a0:T[0]?=some (T[0]'l):=by simp
 by_cases c2:n > 1
 .rw[OB c2];refine N4 (wz C K (x:=T[0]'l) (y:=v) (by rw[Qe (by lia),show P.length-P.length=0 by lia];exact a0) (by rw[Qe (by lia),show P.length+n-1-P.length=n-1 by lia];exact M) ?_);have hle:Le O key (T[0]'l) v:=p.at_le (i:=0) (j:=n-1) (by lia) (by rw[Qu (by lia)];exact a0) (by rw[Qu (by lia)];exact M);rw[hd.at (i:=n-1) (j:=0) (by lia) M a0 hle];dsimp only;rw[OB rfl];exact N6 (o K (.refl _) n1 n2 p)
 rw[OC c2];obtain rfl:n=1:=by lia
 refine N4 (N7 (NT ⟨rfl,?_⟩));have d2:aX O key (T.take 2).reverse:=by
  rw[yI k,WU];have e1:T.take 1=[v]:=by rw[show(1:Nat)=0+1 from rfl,yI (i:=0) M];simp
  rw[e1];refine Q3.mpr ⟨λz d=>?_,by simp⟩;simp at d;rw[d];exact KeyOrd.kle_of_klt hlt
 have hT2:2<=T.length:=by lia
 refine N4 (Oh (N9 (I:=λx c J=>st=J/\c=(none,x,0)/\aX O key (T.take x).reverse) (Q:=λc J=>st=J/\∃n,c=(none,n,0)/\2<=n/\n<=T.length/\aX O key (T.take n).reverse) ?s2 ?f2 ⟨rfl,rfl,d2⟩) ?p2)
 case f2=>
  rintro c J ⟨rfl,rfl,B⟩;rw[show max (1+1) T.length=T.length by lia]at B ⊢;exact⟨rfl,_,rfl,hT2,Qh _,B⟩
 case s2=>
  rintro x c J b hxn ⟨rfl,rfl,B⟩;dsimp only;have k:T[x]?=some (T[x]'(by lia)):=by simp
  have M:T[x-1]?=some (T[x-1]'(by lia)):=by simp
  have pu:(P++T)[P.length+x]?=some (T[x]'(by lia)):=by rw[Qe (by lia),show P.length+x-P.length=x by lia];exact k
  have pv:(P++T)[P.length+x-1]?=some (T[x-1]'(by lia)):=by rw[Qe (by lia),show P.length+x-1-P.length=x-1 by lia];exact M
  refine N4 (wz C K pu pv ?_);dsimp only;cases hc:O.blt (key (T[x]'(by lia))) (key (T[x-1]'(by lia)))with
  |true=>
   rw[OB rfl,OC (by lia)];refine N6 ⟨rfl,rfl,?_⟩;rw[yI k,WU];refine Q3.mpr ⟨λz d=>?_,B⟩
   replace d:z∈(T.take x).reverse:=d
   rw[V1]at d;obtain⟨i,hi⟩:=QC d;have hlt':=(Qa.mp hi).1;rw[QV]at hlt';have h1:((T.take x).reverse)[x-1-i]?=some z:=by
    rw[W4 (by simp;lia)];rw[<-hi];congr 1;simp;lia
   have f:((T.take x).reverse)[0]?=some (T[x-1]'(by lia)):=by
    rw[W4 (by simp;lia),Qu (by simp;lia),<-M];congr 1;simp;lia
   exact Le.trans (KeyOrd.kle_of_klt hc) (B.at_le (Wi _) f h1)
  |false=>
   rw[OC (by simp)];refine N4 (wz C K pv pu ?_);dsimp only;rw[hd.at (i:=x) (j:=x-1) (by lia) k M hc,OB rfl];exact N6 ⟨rfl,x,rfl,by lia,by lia,B⟩
 case p2=>
  intro c J zz;obtain⟨rfl,n,rfl,m1,m2,B⟩:=zz;dsimp only;rw[OC (by lia)];refine N4 (wpS_reverse ?_);have g:((T.take n).reverse++T.drop n).Perm T:=by
   have e:=(VW (T.take n)).append_right (T.drop n)
   rwa[QE]at e
  have hl:((T.take n).reverse++T.drop n).length=T.length:=g.length_eq;have ht:((T.take n).reverse++T.drop n).take n=(T.take n).reverse:=by
   rw[Wl (by simp;lia),We (by simp;lia)]
  have K2:Ok κ O key S (setArr st (Oc (arrOf st) P.length (P.length+n) ((P.length+n-P.length)/2))) L (P++((T.take n).reverse++T.drop n)):=
   ⟨K.kind,K.failed,K.pend,J7 K.arr n m2,λx hx=>K.all x (by
    rcases Qs.mp hx with q|q
    .simp[q]
    .exact Qz _ (g.mem_iff.mp q))⟩
  refine N4 (m K2 hl (by lia) m2 (by rw[ht];exact B) λn' n1' n2' hs2 _=>?_);exact N6 (o K2 g (by lia) (by lia) hs2)
end
section
variable{O:On}{key:Keyed->O.α}{S:R0}
variable{κ:Om}{prog:My}{w:Mz}{A:MG}{E:O2}{s:Shared}
def J6 (h:xs.toList=P++T)(k l:Nat)(Q:k<T.length)(hl:l<=k)(t:Keyed)(Y:T[k]?=some t):
  (bubble xs (P.length+k) (P.length+k-(P.length+l))).toList=P++(((T.take k).take l++[t]++(T.take k).drop l)++T.drop (k+1)):=by
 have q:xs.size=P.length+T.length:=by rw[<-QY,h,Qw]
 have L:∀j,xs[j]?=(P++T)[j]?:=λj=>by rw[<-QL,h]
 apply WC;intro j;rw[show P.length+k-(P.length+l)=k-l by lia,QL,getElem?_bubble (by lia) _ (by lia),show P.length+k-(k-l)=P.length+l by lia];simp only[L];clear L q h xs;by_cases M:j<P.length
 .rw[OC (by lia),OC (by lia),Qf M,Qf M]
 obtain⟨i,rfl⟩:∃i,j=P.length+i:=⟨j-P.length,by lia⟩;have J:∀(U:R7) i,(P++U)[P.length+i]?=U[i]?:=λU i=>by rw[Qe (WM _ _),Ui]
 have I:(T.take k).length=k:=Vv (Vk Q);have H:((T.take k).take l).length=l:=Vv (by rw[I];exact hl);have B:((T.take k).take l++[t]).length=l+1:=by rw[Qw,H];rfl
 have G:((T.take k).take l++[t]++(T.take k).drop l).length=k+1:=by rw[Qw,B,WL,I];lia
 rw[J (_++T.drop (k+1)),J T k];generalize P.length=p at *
 by_cases u:i=l
 .subst u;rw[OB rfl,Y,Qf (by rw[G];lia),Qf (by rw[B];lia),Qe (by rw[H];exact Qh _),H,Nat.sub_self];rfl
 rw[OC (by lia)];by_cases z:l<i/\i<=k
 .rw[OB (by lia),show p+i-1=p+(i-1) by lia,J T,Qf (by rw[G];lia),Qe (by rw[B];lia),B,Wf,Qu (by lia),show l+(i-(l+1))=i-1 by lia]
 .rw[OC (by lia),J T];by_cases N:i<l
  .rw[Qf (by rw[G];lia),Qf (by rw[B];lia),Qf (by rw[H];exact N),Qu N,Qu (by lia)]
  .rw[Qe (by rw[G];lia),Wf,G,show k+1+(i-(k+1))=i by lia]
def J5 (C:ev κ prog w A E s O key S){st:N2}(K:Ok κ O key S st L (P++T))(hn:n<=T.length)(hok:ok<=n)(h1:1<=ok)(hs:aX O key (T.take ok))(h:∀G B,Ok κ O key S G L (P++B)->B.Perm T->aX O key (B.take n)->Q true G):
  wpS (ML prog w) A E s (binarySort' P.length n ok) Q st:=by
 refine N4 (Oh (N9 (I:=λk c G=>c=(none,())/\∃B,Ok κ O key S G L (P++B)/\B.Perm T/\aX O key (B.take (min k n)))
  (Q:=λc G=>c=(none,())/\∃B,Ok κ O key S G L (P++B)/\B.Perm T/\aX O key (B.take n)) ?s1 ?f1 ⟨rfl,T,K,.refl _,by rw[show min (max ok 1) n=ok by lia];exact hs⟩) ?p1)
 case p1=>
  intro c G M;obtain⟨rfl,B,U,d,H⟩:=M;exact N6 (h G B U d H)
 case f1=>
  intro c G M;obtain⟨rfl,B,U,d,H⟩:=M;rw[show min (max (max ok 1) n) n=n by lia]at H;exact⟨rfl,B,U,d,H⟩
 case s1=>
  intro k c G hka hkn M;obtain⟨rfl,B,U,d,H⟩:=M;rw[show min k n=k by lia]at H;have hlen:=d.length_eq;have hk:k<B.length:=by lia
  have ht:B[k]?=some B[k]:=by simp
  refine N4 (Oh (N9 (I:=λx c J=>G=J/\∃l r,c=(none,l,r)/\l<=r/\r<=k/\r-l<=k-x/\(∀i u,i<l->B[i]?=some u->Le O key u B[k])/\(∀i u,r<=i->i<k->B[i]?=some u->Le O key B[k] u))
   (Q:=λc J=>G=J/\∃l,c=(none,l,l)/\l<=k/\(∀i u,i<l->B[i]?=some u->Le O key u B[k])/\(∀i u,l<=i->i<k->B[i]?=some u->Le O key B[k] u)) ?s2 ?f2 ⟨rfl,0,k,rfl,by lia,by lia,by lia,λi u q=>OD q (by lia),λi u q1 q2=>OD q2 (by lia)⟩) ?p2)
  case f2=>
   intro c J M;obtain⟨rfl,l,r,rfl,b1,t,b3,g,f⟩:=M;obtain rfl:l=r:=by lia
   exact⟨rfl,l,rfl,t,g,f⟩
  case s2=>
   intro x c J _ e M;obtain⟨rfl,l,r,rfl,b1,t,b3,g,f⟩:=M;dsimp only;by_cases c1:l ≥ r
   .rw[OB c1];obtain rfl:l=r:=by lia
    exact N6 ⟨rfl,l,rfl,t,g,f⟩
   .rw[OC c1];have hm:B[(l+r)/2]?=some (B[(l+r)/2]'(by lia)):=by simp
    refine N4 (wz C U (x:=B[k]) (y:=B[(l+r)/2]'(by lia)) (by rw[Qe (by lia),show P.length+k-P.length=k by lia];exact ht) (by rw[Qe (by lia),show P.length+(l+r)/2-P.length=(l+r)/2 by lia];exact hm) ?_);dsimp only;have b:∀{i:Nat}{u:Keyed},i<k->B[i]?=some u->(B.take k)[i]?=some u:=λY j=>by rw[Qu Y];exact j
    cases hc:O.blt (key B[k]) (key (B[(l+r)/2]'(by lia)))with
    |true=>
     rw[OB rfl];exact N6 ⟨rfl,l,(l+r)/2,rfl,by lia,by lia,by lia,g,λi u q1 q2 j=>Le.trans (KeyOrd.kle_of_klt hc) (H.at_le q1 (b (by lia) hm) (b q2 j))⟩
    |false=>
     rw[OC (by simp)];exact N6 ⟨rfl,(l+r)/2+1,r,rfl,by lia,by lia,by lia,λi u q1 j=>Le.trans (H.at_le (by lia) (b (by lia) j) (b (by lia) hm)) (show Le O key (B[(l+r)/2]'(by lia)) B[k]from hc),f⟩
  case p2=>
   intro c J M;obtain⟨rfl,l,rfl,t,g,f⟩:=M;dsimp only;refine N4 (Oj ?_);refine N6 ⟨rfl,((B.take k).take l++[B[k]]++(B.take k).drop l)++B.drop (k+1),⟨U.kind,U.failed,U.pend,?_,?_⟩,?_,?_⟩
   .exact J6 U.arr k l hk t _ ht
   all_goals
    have m:(((B.take k).take l++[B[k]]++(B.take k).drop l)++B.drop (k+1)).Perm B:=by
     have e1:((B.take k).take l++[B[k]]++(B.take k).drop l).Perm (B.take k++[B[k]]):=by
      rw[Qm];refine(Wu.append_left _ WH).trans ?_;rw[<-Qm,QE]
     rw[<-yI ht]at e1;have e2:=e1.append_right (B.drop (k+1))
     rwa[QE]at e2
   .intro x e;refine U.all x ?_;rcases Qs.mp e with q|q
    .simp[q]
    .exact Qz _ (m.mem_iff.mp q)
   .exact m.trans d
   .have z:((B.take k).take l++[B[k]]++(B.take k).drop l).length=k+1:=by simp;lia
    rw[show min (k+1) n=k+1 by lia,Wl (by rw[z];lia),We (by rw[z];lia)];have o:∀u∈(B.take k).take l,Le O key u B[k]:=λu j=>by
     obtain⟨i,Y⟩:=QC j;have p:=(Qa.mp Y).1;simp only[QV]at p;rw[Qu (by lia),Qu (by lia)]at Y;exact g i u (by lia) Y
    have N:∀u∈(B.take k).drop l,Le O key B[k] u:=λu j=>by
     obtain⟨i,Y⟩:=QC j;have p:=(Qa.mp Y).1;simp only[QV,WL]at p;rw[Wf,Qu (by lia)]at Y;exact f (l+i) u (by lia) (by lia) Y
    refine yB (yB (H.sublist (Wo _ _)) (by simp[aX]) λx e y a=>?_) (H.sublist (Wt _ _)) λx e y a=>?_
    .rw[Ql.mp a];exact o x e
    .rcases Qs.mp e with q|q
     .exact (o x q).trans (N y a)
     .rw[Ql.mp q];exact N y a
end
section
variable{O:On}{key:Keyed->O.α}{S:R0}
variable{κ:Om}{prog:My}{w:Mz}{A:MG}{E:O2}{s:Shared}
noncomputable def ck(O:On)(key:Keyed->O.α):Nat->O0->O4->Prop
 |_,[],[]=>True
 |off,p::B,U::G=>p.1=off/\p.2.1=U.length/\0<U.length/\aX O key U/\ck O key (off+U.length) B G
 |_,_,_=>False
theorem ck.app:∀{off:Nat}{I B:O0}{G:O4},ck O key off (I++B) G->∃H J,G=H++J/\ck O key off I H/\ck O key (off+H.flatten.length) B J
 |off,[],B,G,h=>⟨[],G,rfl,trivial,by simpa using h⟩
 |off,p::I,B,[],h=>h.elim
 |off,p::I,B,U::G,h=>by
  obtain⟨L,M,N,Q,Y⟩:=h;obtain⟨H,J,rfl,j,k⟩:=ck.app Y;refine⟨U::H,J,rfl,⟨L,M,N,Q,j⟩,?_⟩;simpa [VT]using k
theorem ck.join:∀{off:Nat}{H B:O0}{I G:O4},ck O key off H I->ck O key (off+I.flatten.length) B G->ck O key off (H++B) (I++G)
 |off,[],B,[],G,_,h=>by simpa using h
 |off,[],B,_::_,G,h,_=>h.elim
 |off,p::H,B,[],G,h,_=>h.elim
 |off,p::H,B,U::I,G,h,J=>⟨h.1,h.2.1,h.2.2.1,h.2.2.2.1,ck.join h.2.2.2.2 (by simpa [VT]using J)⟩
theorem ck.len:∀{off:Nat}{p:O0}{B:O4},ck O key off p B->p.length<=B.flatten.length
 |_,[],[],_=>Wi _
 |_,[],_::_,h=>h.elim
 |_,_::_,[],h=>h.elim
 |off,p::G,U::B,h=>by
  have H:=ck.len h.2.2.2.2;have I:=h.2.2.1;rw[Q8,Qw,Wx];lia
theorem ck.mod(q:Nat):∀{off:Nat}{p:O0}{B:O4}(i:Nat),ck O key off p B->ck O key off (p.modify i λx=>(x.1,x.2.1,q)) B
 |_,[],[],i,_=>by cases i<;>trivial
 |_,[],_::_,i,h=>h.elim
 |_,_::_,[],i,h=>h.elim
 |off,p::G,U::B,0,h=>h
 |off,p::G,U::B,i+1,h=>⟨h.1,h.2.1,h.2.2.1,h.2.2.2.1,ck.mod q i h.2.2.2.2⟩
def Ai {st:N2}{lo:Nat}(K:Ok κ O key S st B (G.flatten++(W++R)))(k:ck O key 0 B G)(I:aX O key W)(J:0<W.length)(L:W.length=n)(H:G.flatten.length=lo):
  Ok κ O key S (Oi st ((Oe st).push (lo,n,0))) (B++[(lo,n,0)]) ((G++[W]).flatten++R)/\ck O key 0 (B++[(lo,n,0)]) (G++[W]):=by
 refine⟨⟨K.kind,K.failed,?_,?_,?_⟩,ck.join k ⟨?_,L.symm,J,I,trivial⟩⟩
 .show ((Oe st).push (lo,n,0)).toList=_;rw[W1,K.pend]
 .show (arrOf st).toList=_;rw[K.arr];simp
 .intro x M;refine K.all x ?_;simpa using M
 .show lo=_;rw[H,WO]
def kB (C:ev κ prog w A E s O key S){st:N2}(K:Ok κ O key S st B (z.flatten++R))(k:ck O key 0 B z)(hi:i+1<B.length)(h:∀H G J,Ok κ O key S H G (J.flatten++R)->ck O key 0 G J->J.flatten.Perm z.flatten->G.length+1=B.length->Q true H):
  wpS (ML prog w) A E s (mergeAt' i) Q st:=by
 obtain⟨L,a,b,M,rfl,rfl⟩:∃L a b M,B=L++a::b::M/\L.length=i:=by
  refine⟨B.take i,B[i],B[i+1],B.drop (i+2),?_,by simp;lia⟩
  conv=>lhs;rw[<-QE i B]
  rw[QM (by lia),QM (by lia)]
 obtain⟨j,I,rfl,t,q⟩:=k.app;cases I with
 |nil=>exact q.elim
 |cons U I=>
  cases I with
  |nil=>exact q.2.2.2.2.elim
  |cons V I=>
   obtain⟨o,N,p⟩:=a;obtain⟨sb,Y,m⟩:=b;obtain⟨u,d,n,y,c,l,x,b4,g⟩:=q;simp only[WO]at u c g;have e:(j++U::V::I).flatten++R=j.flatten++(U++(V++(I.flatten++R))):=by simp
   rw[e]at K;refine Ky C K u d c l n x y b4 λH W K' hs f=>?_;have hl:=f.length_eq;rw[Qw]at hl;refine h H (L++(o,N+Y,p)::M) (j++W::I) (by simpa using K') (ck.join t (show ck O key _ ((o,N+Y,p)::M) (W::I)from⟨by simpa using u,?_,by lia,hs,?_⟩)) ?_ (by simp;lia)
   .show N+Y=_;have e1:N=U.length:=d;have e2:Y=V.length:=l;lia
   .rw[WO,hl,<-VT];exact g
   .simp only[WD,Q8];refine Wu.append_left _ ?_;rw[<-Qm];exact f.append_right _
def Kx (C:ev κ prog w A E s O key S){st:N2}(K:Ok κ O key S st [] l)(h2:2<=l.length)(hd:el O key l)(h:∀Y l',(arrOf Y).toList=l'->Of Y=none->aX O key l'->l'.Perm l->Q () Y):wpS (ML prog w) A E s Og Q st:=by
 rw[sortRuns'_eq];refine N4 (N5 ?_);dsimp -zeta -zetaHave only;have hN:(arrOf st).size=l.length:=by rw[<-QY,K.arr]
 rw[hN];have hmr:Od l.length l.length 0<=l.length:=k7 _ _ 0 (by lia);refine N4 (Oh (N9
  (I:=λx c Y=>∃lo,c=(none,lo)/\x<=lo/\lo<=l.length/\∃L N R,Ok κ O key S Y L (N.flatten++R)/\ck O key 0 L N/\(N.flatten++R).Perm l/\N.flatten.length=lo)
  (Q:=λc Y=>c=(none,l.length)/\∃L N R,Ok κ O key S Y L (N.flatten++R)/\ck O key 0 L N/\(N.flatten++R).Perm l/\N.flatten.length=l.length) ?s1 ?f1 ⟨0,rfl,Qh _,Wi _,[],[],l,by simpa using K,trivial,.refl _,rfl⟩) ?p1)
 case f1=>
  intro c Y u;obtain⟨lo,rfl,x1,x2,r⟩:=u;obtain rfl:lo=l.length:=by lia
  exact⟨rfl,r⟩
 case s1=>
  intro x c Y _ hx u;obtain⟨lo,rfl,x1,x2,L,N,R,K',k,a,f⟩:=u;dsimp -zeta -zetaHave only;by_cases c0:lo ≥ l.length
  .rw[OB c0];obtain rfl:lo=l.length:=by lia
   exact N6 ⟨rfl,L,N,R,K',k,a,f⟩
  rw[OC c0];have hR:R.length=l.length-lo:=by have:=a.length_eq;simp at this f;lia
  subst f;rw[<-hR];refine N4 (KP C K' (by lia) ((hd.perm a).right) λst2 U R2 K2 hs2 m hU0=>?_);dsimp -zeta -zetaHave only;have hl2:U.length+R2.length=R.length:=by have:=m.length_eq;simpa using this
  refine nU λQ1 e1=>?_
  extract_lets +onlyGivenNames nn jp
  subst nn;have J:∀d W o,Ok κ O key S d L (N.flatten++(W++o))->aX O key W->(W++o).Perm R->0<W.length->wpS (ML prog w) A E s (jp () W.length) Q1 d:=by
   intro d W o K3 b hp3 hW0;subst e1;refine N4 (N5 ?_);have i:∀G:O4,G.flatten.Perm N.flatten->(G++[W]).flatten.length=N.flatten.length+W.length:=λG q=>by
    have:=q.length_eq;rw[WD,Qw,this,Vw]
   have g:∀G:O4,G.flatten.Perm N.flatten->((G++[W]).flatten++o).Perm l:=λG q=>by
    refine Wu.trans ?_ a;rw[WD,Vw,Qm];exact(q.append_right _).trans (hp3.append_left _)
   have hle:W.length<=R.length:=by have:=hp3.length_eq;rw[Qw]at this;lia
   cases hb:(Oe d).back? with
   |none=>
    dsimp only;obtain⟨K5,k5⟩:=Ai K3 k b hW0 rfl rfl;refine N4 (Oj (N6 ⟨_,rfl,by lia,by lia,_,_,o,K5,k5,g N (.refl _),i N (.refl _)⟩))
   |some t=>
    obtain⟨s1,n,pp⟩:=t;dsimp only;refine N4 (Oh (N9 (I:=λ_ c H=>c=(none,())/\∃B G,Ok κ O key S H B (G.flatten++(W++o))/\ck O key 0 B G/\G.flatten.Perm N.flatten)
     (Q:=λc H=>c=(none,())/\∃B G,Ok κ O key S H B (G.flatten++(W++o))/\ck O key 0 B G/\G.flatten.Perm N.flatten) ?s3 (λ_ _ q=>q) ⟨rfl,L,N,K3,k,.refl _⟩) ?p3)
    case s3=>
     intro y c H _ hy u;obtain⟨rfl,B,G,j,p,M⟩:=u;refine N4 (N5 ?_);have hsz:(Oe H).size=B.length:=by rw[<-j.pend,QY]
     by_cases cs:(Oe H).size > 1
     .rw[OB cs];cases ho:(Oe H)[(Oe H).size-2]? with
      |none=>exact N6 ⟨rfl,B,G,j,p,M⟩
      |some t=>
       obtain⟨t1,t2,older⟩:=t;dsimp only;by_cases co:older<=power' l.length (2*s1+n) (2*s1+n+n+W.length) l.length
       .rw[OB co];exact N6 ⟨rfl,B,G,j,p,M⟩
       .rw[OC co];refine N4 (kB C j p (by lia) λst5 z Us5 K5 k5 hp5 _=>?_);rw[OC (by simp)];exact N6 ⟨rfl,z,Us5,K5,k5,hp5.trans M⟩
     .rw[OC cs];exact N6 ⟨rfl,B,G,j,p,M⟩
    case p3=>
     intro c H u;obtain⟨rfl,B,G,j,p,M⟩:=u;dsimp only;refine N4 (Oj ?_);refine N4 (Oj ?_);have K5:Ok κ O key S (Oi H ((Oe H).modify ((Oe H).size-1) λx=>(x.fst,x.2.fst,power' l.length (2*s1+n) (2*s1+n+n+W.length) l.length))) (B.modify ((Oe H).size-1) λx=>(x.1,x.2.1,power' l.length (2*s1+n) (2*s1+n+n+W.length) l.length)) (G.flatten++(W++o)):=
      ⟨j.kind,j.failed,by show((Oe H).modify _ _).toList=_;rw[Array.toList_modify,j.pend],j.arr,j.all⟩
     obtain⟨K6,k6⟩:=Ai K5 (p.mod _ _) b hW0 rfl M.length_eq;exact N6 ⟨_,rfl,by lia,by lia,_,_,o,K6,k6,g G M,i G M⟩
  clear e1;by_cases c1:U.length<Od l.length l.length 0
  .rw[OB c1];refine N4 (N7 (NT ⟨rfl,?_⟩));refine N4 (J5 C K2 (by rw[Qw];lia) (by lia) (by lia) (by rw[Wl (Qh _),W5];exact hs2) λd T3 K3 hpT hsT=>?_);rw[OC (by simp)];have hT:T3.length=R.length:=(hpT.trans m).length_eq;obtain⟨W,o,hW,hWn,b⟩:∃W o,T3=W++o/\W.length=min R.length (Od l.length l.length 0)/\aX O key W:=⟨T3.take (min R.length (Od l.length l.length 0)),T3.drop (min R.length (Od l.length l.length 0)),(QE _ _).symm,by rw[QV];lia,hsT⟩;subst hW;rw[<-hWn];exact J _ W o K3 b (hpT.trans m) (by lia)
  .rw[OC c1];exact J _ U R2 K2 hs2 m hU0
 case p1=>
  intro c Y u;obtain⟨rfl,L,N,R,K',k,a,f⟩:=u;dsimp only;have hR:R=[]:=by
   have:=a.length_eq;rw[Qw]at this;exact Va (by lia)
  subst hR;refine N4 (Oh (N9 (I:=λx c H=>c=(none,())/\∃B G,Ok κ O key S H B (G.flatten++[])/\ck O key 0 B G/\G.flatten.Perm N.flatten/\(B.length<=1\/B.length+x<=l.length))
   (Q:=λc H=>c=(none,())/\∃B G,Ok κ O key S H B (G.flatten++[])/\ck O key 0 B G/\G.flatten.Perm N.flatten/\B.length<=1) ?s4 ?f4 ⟨rfl,L,N,K',k,.refl _,.inr (by have:=k.len;lia)⟩) ?p4)
  case f4=>
   intro c H u;obtain⟨rfl,B,G,j,p,M,hx⟩:=u;exact⟨rfl,B,G,j,p,M,by lia⟩
  case s4=>
   intro y c H _ hy u;obtain⟨rfl,B,G,j,p,M,hx⟩:=u;refine N4 (N5 ?_);have hsz:(Oe H).size=B.length:=by rw[<-j.pend,QY]
   by_cases cs:(Oe H).size<=1
   .rw[OB cs];exact N6 ⟨rfl,B,G,j,p,M,by lia⟩
   .rw[OC cs];refine N4 (kB C j p ?_ λst5 z Us5 K5 k5 hp5 hl5=>?_)
    .have e:∀(c:Prop) [Decidable c],(if c then(Oe H).size-2-1 else(Oe H).size-2)+1<B.length:=λc _=>by
      by_cases q:c
      .rw[OB q];lia
      .rw[OC q];lia
     exact e _
    .rw[OC (by simp)];exact N6 ⟨rfl,z,Us5,K5,k5,hp5.trans M,by lia⟩
  case p4=>
   intro c H u;obtain⟨rfl,B,G,j,p,M,hx⟩:=u;dsimp only;have hpl:G.flatten.Perm l:=M.trans (by simpa using a);refine N6 (h H G.flatten (by rw[j.arr,Q6]) j.failed ?_ hpl)
   match B,G,p,hx with
   |[],[],_,_=>simp[aX]
   |[_],[W],q,_=>simpa using q.2.2.2.1
   |[],_::_,q,_=>exact q.elim
   |_::_,[],q,_=>exact q.elim
   |[_],_::_::_,q,_=>exact q.2.2.2.2.elim
   |_::_::_,_,_,hx=>simp at hx
end
theorem xl:∀a:T6,HT.lexLt a a=false
 |[]=>rfl
 |x::A=>by rw[HT.bp,OB rfl];exact xl A
theorem xK:∀a b c:T6,HT.lexLt a b=true->HT.lexLt b c=true->HT.lexLt a c=true
 |[],[],_,h,_=>by cases h
 |[],_::_,[],_,h=>by cases h
 |[],_::_,_::_,_,_=>rfl
 |_::_,[],_,h,_=>by cases h
 |_::_,_::_,[],_,h=>by cases h
 |x::H,y::I,z::J,B,A=>by
  rw[HT.bp]at B A ⊢;by_cases G:x=y
  .rw[OB G]at B;subst G;by_cases E:x=z
   .rw[OB E]at A ⊢;exact xK H I J B A
   .rw[OC E]at A ⊢;exact A
  .rw[OC G]at B;have L:=OG B;by_cases E:y=z
   .subst E;rw[OC G];exact B
   .rw[OC E]at A;have M:=OG A;rw[OC (by lia)];exact OF (by lia)
theorem vC:∀a b:T6,HT.lexLt a b=false->HT.lexLt b a=false->a=b
 |[],[],_,_=>rfl
 |[],_::_,h,_=>by cases h
 |_::_,[],_,h=>by cases h
 |x::E,y::G,A,B=>by
  rw[HT.bp]at A B;by_cases e:x=y
  .subst e;rw[OB rfl]at A B;rw[vC E G A B]
  .rw[OC e]at A;rw[OC (Ne.symm e)]at B;have H:=of_decide_eq_false A;have I:=of_decide_eq_false B;lia
def Ge(a b c:T6)(h:HT.lexLt a c=true):HT.lexLt a b=true\/HT.lexLt b c=true:=by
 cases B:HT.lexLt a b with
 |true=>exact .inl rfl
 |false=>
  right
  cases A:HT.lexLt b a with
  |true=>exact xK b a c A h
  |false=>rw[<-vC a b B A];exact h
noncomputable def oJ:On:=⟨T6,HT.lexLt,xl,xK,Ge,vC⟩
noncomputable def il(G:Om)(A:MG)(s:Shared)(x y:Value)(b:Bool):Prop:=
 ∀(B:My) (w:Mz) (E:O2) (Q:Bool->Shared->Prop),Q b s->MK (ML B w) A (keyLt' G x y) Q E s
section
variable{κ:Om}{prog:My}{w:Mz}{A:MG}{E:O2}{s:Shared}
def DU{key:Value->T6}{vs:R6}(hl:∀x∈vs,∀y∈vs,il κ A s x y (HT.lexLt (key x) (key y))):ev κ prog w A E s oJ (λp=>key p.1) (λp=>p.1∈vs):=by
 intro x y st Q B G H q;rw[lt'_eq];refine N4 (N5 ?_);rw[H];refine N4 (N7 (N8 (hl x.1 B y.1 G prog w _ _ ⟨rfl,?_⟩)));exact N6 q
theorem nS:∀vs:R6,VX (λx:Value×Value=>x.fst) (vs.zip vs)=vs
 |[]=>rfl
 |v::r=>OE (v::·) (nS r)
def KO {out:R6}(h2:2<=vs.length)(hl:∀x∈vs,∀y∈vs,il κ A s x y (HT.lexLt (key x) (key y)))(H:(vs.map key).Nodup)(O:out.Perm vs)(g:out.Pairwise λx y=>HT.lexLt (key y) (key x)=false)(h:∀B:N2,(arrOf B).map (·.2)=out.toArray->Of B=none->Q () B):
  wpS (ML prog w) A E s Og Q (SortSt.mk' κ (vs.toArray.zip vs.toArray) #[] 7 none):=by
 have f:(vs.toArray.zip vs.toArray).toList=vs.zip vs:=by simp
 refine Kx (DU hl) (l:=vs.zip vs) ⟨rfl,rfl,rfl,f,λx e=>(mem_zip_self e).2⟩ (by simp;lia) ?_ λB G t m n U=>h B ?_ m
 .show ((vs.zip vs).map λp=>key p.1).Nodup;have:(vs.zip vs).map (λp=>key p.1)=vs.map key:=by
   have:=OE (VX key) (nS vs)
   rwa[QQ]at this
  rw[this];exact H
 .have same:G.map (·.2)=G.map (·.1):=Vh λp I=>(mem_zip_self (U.mem_iff.mp I)).1.symm;have Y:(G.map (·.1)).Perm vs:=by have:=U.map (·.1);rwa[nS]at this
  have e6:G.map (·.1)=out:=by
   refine Wu.eq_of_pairwise (le:=λx y=>HT.lexLt (key y) (key x)=false) (λa b ha hb q1 q2=>?_) ?_ g (Y.trans O.symm)
   .have k:key a=key b:=vC _ _ q2 q1;have J:=Y.mem_iff.mp ha;have L:=O.mem_iff.mp hb;obtain⟨i,q⟩:=QC J;obtain⟨j,hj⟩:=QC L;have M:(vs.map key)[i]?=some (key a):=by rw[Qq,q];rfl
    have N:(vs.map key)[j]?=some (key b):=by rw[Qq,hj];rfl
    obtain⟨u,z⟩:=Qa.mp M;obtain⟨o,d⟩:=Qa.mp N;by_cases c:i=j
    .subst c;rw[q]at hj;cases hj;rfl
    .exfalso;rcases Nat.lt_or_gt_of_ne c with c|c
     .exact (Wc.mp H) i j u o c (by rw[z,d,k])
     .exact (Wc.mp H) j i o u c (by rw[z,d,k])
   .rw[Wr];exact n
  apply Ud;rw[Array.toList_map,t,same,e6]
end
section
variable{prog:My}{w:Mz}{A:MG}{E:O2}{s:Shared}
def IY:∀{vs out:R6},vs.length<2->out.Perm vs->out=vs
 |[],_,_,h=>h.eq_nil
 |[v],_,_,h=>List.perm_singleton.mp h
 |_::_::_,_,h,_=>by simp at h;lia
noncomputable def pS(s:Shared)(vs:R6):Prop:=∀v∈vs,s.TypeIs v "list"
def Gd (h:s.TypeIs v "list")(q:Q none s):MK (ML prog w) A (firstOfTuple' v) Q E s:=by
 refine MX (NC h ?_);rw[OB (by decide)];exact M9 q
theorem nc:∀{vs:R6},(∀v∈vs,∀Q:B->Shared->Prop,Q b s->MK (ML prog w) A (f v) Q E s)->∀{Q:List B->Shared->Prop},Q (vs.map λ_=>b) s->MK (ML prog w) A (vs.mapM f) Q E s
 |[],_,Q,q=>by rw[List.mapM_nil];exact M9 q
 |v::r,h,Q,q=>by
  rw[List.mapM_cons];refine MX (h v (by simp) _ ?_);refine MX (nc (λv G=>h v (by simp[G])) ?_);exact M9 q
def DT:∀(vs:R6),((vs.map λ_=>Value.type "list").toArray.all λx=>x==Value.type "list")=true:=by
 intro vs;simp only[List.all_toArray,Uj,WF];intro _ _;rfl
def DS (h:pS s vs)(G:2<=vs.length)(q:Q N3 s):MK (ML prog w) A (keyKind' vs.toArray) Q E s:=by
 obtain⟨v,r,rfl⟩:∃v r,vs=v::r:=by
  cases vs with
  |nil=>simp at G
  |cons v r=>exact⟨v,r,rfl⟩
 rw[keyKind'_eq,List.mapM_toArray,map_eq_pure_bind];refine MX (MX (nc (b:=none) (λv B Q q=>Gd (h v B) q) (M9 ?_)));rw[OC (by simp),OC (by simp)];rw[oneTypeOnly'_eq,List.mapM_toArray,map_eq_pure_bind];refine MX (MX (MX (nc (b:=Value.type "list") (λv B Q q=>NC (h v B) q) (M9 ?_))));have H:((v::r).map λ_=>Value.type "list").toArray[0]?=some (Value.type "list"):=by simp
 rw[H];simp only[DT,if_true];exact M9 (M9 q)
end
section
variable{X:Cx}
def Gc {k:T6}(r:av (k.map V.int) its)(j:Nat)(v:Value)(G:its.toArray[j]?=some v):∃t,v=.int (k.getD j 0) t:=by
 have B:its[j]?=some v:=by simpa using G
 obtain⟨y,A,H⟩:=r.at B;rw[Qq]at A;cases E:k[j]? with
 |none=>rw[E]at A;cases A
 |some b=>
  rw[E]at A;cases A;obtain⟨t,rfl⟩:=(H:∃t,v=.int b t);exact⟨t,by rw[Qg,E];rfl⟩
theorem k8:∀{bs:S6}{A:R6},av (bs.map V.ref) A->A=bs.map Value.ref
 |[],_,.nil=>rfl
 |_::_,_,.cons p q=>by
  rw[k8 q];cases p;rfl
theorem qG:∀(bs:S6),av (bs.map V.ref) (bs.map Value.ref)
 |[]=>.nil
 |_::r=>.cons rfl (qG r)
def ga {bs A:S6}(I:Inv X B σ H s)(Y:A.length<=sizeLine)(q:∀l,H l=none->Q (.ref l) (aL H l (.L (A.map V.ref)))):
  EP X B σ Q (.ref (s.heap.objs.size+1)) {s with heap:=Op s.heap (bs.map Value.ref) (A.map Value.ref).toArray}:=by
 have J:((s.heap.push (Oq "list" #[] 0)).update s.heap.objs.size (Obj.mapSeq (·++(bs.map Value.ref).toArray))).objs.size=s.heap.objs.size+1:=by
  rw[Vt,size_push']
 have E:(((s.heap.push (Oq "list" #[] 0)).update s.heap.objs.size (Obj.mapSeq (·++(bs.map Value.ref).toArray))).push (Oq "list" (bs.map Value.ref).toArray 0)).get? (s.heap.objs.size+1)=some (Oq "list" (bs.map Value.ref).toArray 0):=by
  rw[<-J];exact QK _ rfl
 have j:=Qr E;have L:∀b o,s.heap.get? b=some o->(((s.heap.push (Oq "list" #[] 0)).update s.heap.objs.size (Obj.mapSeq (·++(bs.map Value.ref).toArray))).push (Oq "list" (bs.map Value.ref).toArray 0)).get? b=some o:=by
  intro b o e;refine Qk _ ?_;rw[WW _ _ _ _ (QN (Qr e))];exact Qk _ e
 have M:∀b o,s.heap.get? b=some o->(Op s.heap (bs.map Value.ref) (A.map Value.ref).toArray).get? b=some o:=by
  intro b o e;have O:=Qr e;unfold Op sortedHeap;rw[WW _ _ _ _ (QN (WK O))];refine Qk _ (Qk _ ?_);rw[WW _ _ _ _ (QN (WK O))];exact L b o e
 have G:∃c,(Op s.heap (bs.map Value.ref) (A.map Value.ref).toArray).get? (s.heap.objs.size+1)=some (Oq "list" (A.map Value.ref).toArray c):=by
  unfold Op sortedHeap;obtain⟨U,N⟩:∃U,((((s.heap.push (Oq "list" #[] 0)).update s.heap.objs.size (Obj.mapSeq (·++(bs.map Value.ref).toArray))).push (Oq "list" (bs.map Value.ref).toArray 0)).update (s.heap.objs.size+1) (Obj.mapSeq λ_=>#[])).get? (s.heap.objs.size+1)=some (Oq "list" #[] U):=⟨_,Os E (λ_=>#[])⟩;exact⟨_,Os (Qk _ (Qk _ N)) (λ_=>(A.map Value.ref).toArray)⟩
 obtain⟨c,e⟩:=G;exact⟨.ref (s.heap.objs.size+1),_,I.laid (t':=s.toks) M (Vo _) (show bD X.prog X.w _ _ _ (.L (A.map V.ref))from⟨by rw[Qi];exact Y,_,c,qG A,e⟩),rfl,q _ (I.hok.fresh (Vo _))⟩
end
end L2
namespace Mini
open PySem PySem.Spec PyProof.Rows L2
section
variable{K:Qb}{as:S6}{H:Hp}{m:Me}{Q:VK}{X:Cx}
noncomputable def mJ:eD->Option (Str×Value)
 |.len=>some ("len",.builtin "len")
 |.int=>some ("int",.type "int")
 |.sum=>some ("sum",.builtin "sum")
 |.all=>some ("all",.builtin "all")
noncomputable def A6(K:Qb)(b:eD):U8->Hp->VK->Prop:=λB H Q=>∃as m A,aS K as m H/\ab K as H A B/\ak K as H Q (fT b A m)
def wZ (h:ab K as H [x] vs):∃v,vs=[v]/\ai K as H x v:=by
 obtain⟨v,r,rfl,q,t⟩:=am.mp h;obtain rfl:=au.mp t;exact⟨v,rfl,q⟩
def DR (h:ab K as H [x,y] vs):∃v u,vs=[v,u]/\ai K as H x v/\ai K as H y u:=by
 obtain⟨v,r,rfl,q,t⟩:=am.mp h;obtain⟨u,rfl,A⟩:=wZ t;exact⟨v,u,rfl,q,A⟩
def sr (S:aS K as m H)(R:ai K as H w v)(h:ff m w=some xs):∃p vs,v=.ref p/\bg K H p vs/\ab K as H xs vs:=by
 cases w with
 |rol I=>
  cases h;obtain⟨a,vs,rfl,B,E⟩:=aV.mp R;exact⟨a,vs,rfl,B.sq,E⟩
 |ref l=>
  obtain⟨b,G,rfl⟩:=aw.mp R;obtain⟨a,vs,A,e,r⟩:=yg S (zU h);rw[G]at A;cases A;exact⟨b,vs,rfl,bg.of e,r⟩
 |_=>cases h
theorem uu:∀{xs:U4}{vs:U8}{i:Int},ab K as H xs vs->fy xs=some i->∃A:T6,vs=A.map V.int/\A.sum=i
 |[],vs,i,R,h=>by cases h;exact⟨[],au.mp R,rfl⟩
 |x::xs,vs,i,R,h=>by
  obtain⟨v,r,rfl,q,t⟩:=am.mp R;cases x with
  |int j=>
   simp only[fy,QF]at h;obtain⟨k,B,rfl⟩:=h;obtain⟨A,rfl,rfl⟩:=uu t B;obtain rfl:=aa.mp q;exact⟨j::A,rfl,by simp⟩
  |_=>cases h
theorem ut:∀{xs:U4}{vs:U8}{i:Bool},ab K as H xs vs->fx xs=some i->∃bs:List Bool,vs=bs.map V.bl/\bs.all id=i
 |[],vs,i,R,h=>by cases h;exact⟨[],au.mp R,rfl⟩
 |x::xs,vs,i,R,h=>by
  obtain⟨v,r,rfl,q,t⟩:=am.mp R;cases x with
  |bl j=>
   simp only[fx,QF]at h;obtain⟨k,A,rfl⟩:=h;obtain⟨B,rfl,rfl⟩:=ut t A;obtain rfl:=ah.mp q;exact⟨j::B,rfl,by simp⟩
  |_=>cases h
def Gb{o:Option U4}{f:U4->Rz}(h:ak K as H Q (match o with|some a=>f a|none=>.no)):∃a,o=some a/\ak K as H Q (f a):=by
 cases o with
 |none=>exact h.elim
 |some a=>exact⟨a,rfl,h⟩
def Ga{o:R9}{f:Int->Rz}(h:ak K as H Q (match o with|some a=>f a|none=>.no)):∃a,o=some a/\ak K as H Q (f a):=by
 cases o with
 |none=>exact h.elim
 |some a=>exact⟨a,rfl,h⟩
def F9{o:P8}{f:Bool->Rz}(h:ak K as H Q (match o with|some a=>f a|none=>.no)):∃a,o=some a/\ak K as H Q (f a):=by
 cases o with
 |none=>exact h.elim
 |some a=>exact⟨a,rfl,h⟩
theorem tM:∀(xs ys:T6),dD xs ys=HT.lexLt xs ys
 |[],[]=>rfl
 |[],_::_=>rfl
 |_::_,[]=>rfl
 |x::xs,y::ys=>by
  show(if x=y then dD xs ys else decide (x<y))=if x=y then HT.lexLt xs ys else decide (x<y);rw[tM xs ys]
theorem Ah (p:T6×A):∀l:List (T6×A),(jX p l).Perm (p::l)
 |[]=>.refl _
 |q::r=>by
  show(if dD p.1 q.1 then p::q::r else q::jX p r).Perm _;split
  .exact .refl _
  .exact ((Ah p r).cons q).trans (.swap p q r)
theorem k9:∀l:List (T6×A),(xM l).Perm l
 |[]=>.refl _
 |p::r=>by rw[vw];exact(Ah p _).trans ((k9 r).cons p)
theorem nR{J:Type}:∀{ps:List (T6×J)},wt (ps.map Prod.fst)=true->ps.Pairwise (λx y=>HT.lexLt x.1 y.1=true)/\∃n c,∀x∈ps,x.1.length=n/\x.1.head?=c
 |[],_=>⟨.nil,0,none,by simp⟩
 |[p],_=>⟨by simp,p.1.length,p.1.head?,by simp⟩
 |p::q::r,h=>by
  have B:(dD p.1 q.1&&(decide (p.1.length=q.1.length)&&decide (p.1.head?=q.1.head?))&&wt ((q::r).map Prod.fst))=true:=h;rw[QD,QD,QD]at B;obtain⟨⟨A,L,M⟩,N⟩:=B;obtain⟨E,n,c,G⟩:=nR N;rw[tM]at A;have I:=G q (by simp);refine⟨Q3.mpr ⟨λy hy=>?_,E⟩,n,c,λx hx=>?_⟩
  .rcases Qn.mp hy with rfl|hy
   .exact A
   .exact xK _ _ _ A ((Q3.mp E).1 y hy)
  .rcases Qn.mp hx with rfl|hx
   .exact ⟨(OG L).trans I.1,(OG M).trans I.2⟩
   .exact G x hx
theorem ja:∀(l:T6),ab K as H (l.map Wd.int) (l.map V.int)
 |[]=>au.mpr rfl
 |n::l=>am.mpr ⟨_,_,rfl,aa.mpr rfl,ja l⟩
set_option tactic.hygienic true in
def IX (c:X.A.units+64<Nj)(d:X.calm=true)(M:mJ b=some (l,f)):bQ X f (A6 X.K b):=by
 intro A s N H O U Q I r h;obtain⟨as,m,E,S,R,q⟩:=h;cases b with
 |len=>
  cases M;refine qY A s N H O U Q I r ?_;rcases E with _|⟨x,_|⟨_,_⟩⟩
  .exact q.elim
  .obtain ⟨Y,G,q⟩:=Gb (o:=wr m x) (f:=λY=>.ok (.int Y.length) m) q;obtain⟨v,rfl,B⟩:=wZ R;obtain⟨p,j,rfl,J,L⟩:=lz S B G;refine⟨p,j,rfl,J,?_⟩;rw[<-L.length];exact q.ok S (aa.mpr rfl)
  .exact q.elim
 |int=>
  cases M;refine Jo A s N H O U Q I r ?_;cases E with
  |nil=>exact q.elim
  |cons x E=>
   cases x with
   |int i=>
    cases E with
    |nil=>
     obtain⟨v,rfl,B⟩:=wZ R;obtain rfl:=aa.mp B;exact .inl ⟨i,rfl,q.ok S (aa.mpr rfl)⟩
    |cons _ _=>exact q.elim
   |bl i=>
    cases E with
    |nil=>
     obtain⟨v,rfl,B⟩:=wZ R;obtain rfl:=ah.mp B;exact .inr ⟨i,rfl,q.ok S (aa.mpr rfl)⟩
    |cons _ _=>exact q.elim
   |_=>exact q.elim
 |sum=>
  cases M;refine KU d A s N H O U Q I r ?_;rcases E with _|⟨x,_|⟨_,_⟩⟩
  .exact q.elim
  .obtain ⟨i,G,q⟩:=Ga (o:=(ff m x).bind fy) (f:=λi=>.ok (.int i) m) q;obtain⟨Y,k,u⟩:=Qt.mp G;obtain⟨v,rfl,B⟩:=wZ R;obtain⟨p,j,rfl,J,L⟩:=sr S B k;obtain⟨z,rfl,rfl⟩:=uu L u;exact⟨p,z,rfl,J,q.ok S (aa.mpr rfl)⟩
  .exact q.elim
 |all=>
  cases M;refine KW d A s N H O U Q I r ?_;rcases E with _|⟨x,_|⟨_,_⟩⟩
  .exact q.elim
  .obtain ⟨i,G,q⟩:=F9 (o:=(ff m x).bind fx) (f:=λi=>.ok (.bl i) m) q;obtain⟨Y,k,u⟩:=Qt.mp G;obtain⟨v,rfl,B⟩:=wZ R;obtain⟨p,j,rfl,J,L⟩:=sr S B k;obtain⟨z,rfl,rfl⟩:=ut L u;exact⟨p,z,rfl,J,q.ok S (ah.mpr rfl)⟩
  .exact q.elim
set_option tactic.hygienic true in
def DQ (S:aS K as m H)(R:ai K as H x v)(R':ai K as H y u)(h:ak K as H Q (jY x y m)):A5 K v u H Q:=by
 unfold jY at h;split at h
 .rename_i i;obtain rfl:=aa.mp R';split at h
  .rename_i N J;split at h
   .rename_i w L;obtain⟨p,A,rfl,hq,I⟩:=lz S R J;have e:∃z,fJ A i=some z/\ai K as H w z:=by
     obtain⟨j,hj,M⟩:=Qt.mp L;obtain⟨z,B,E⟩:=I.get M;refine⟨z,?_,E⟩;unfold fJ;have G:iK A.length i=some j:=by rw[<-I.length];exact hj
     rw[G];exact B
    obtain⟨z,B,E⟩:=e;rcases hq with hq|hq
    .exact .inl ⟨p,A,i,z,rfl,rfl,hq,B,h.ok S E⟩
    .exact .inr (.inl ⟨p,A,i,z,rfl,rfl,hq,B,h.ok S E⟩)
   .exact h.elim
  .exact h.elim
 .exact h.elim
noncomputable def fq:dX->Str×String
 |.append=>("append","list.append") |.extend=>("extend","list.extend") |.reverse=>("reverse","list.reverse") 
noncomputable def Lb(K:Qb)(n:dX):V->U8->Hp->VK->Prop:=λv B H Q=>∃as m w A,aS K as m H/\ai K as H w v/\ab K as H A B/\ak K as H Q (dC n w A m)
set_option tactic.hygienic true in
def tL(n:dX):pf X (fq n).2 (Lb X.K n):=by
 intro A s N H v i u O Q I r U h;obtain⟨as,m,w,x,S,R,Rs,q⟩:=h;unfold dC at q;split at q
 .rename_i l;split at q
  .rename_i xs hl;obtain⟨a,L,rfl⟩:=aw.mp R;obtain⟨b,M,d,e,B⟩:=yg S hl;rw[L]at d;cases d;have hz:M.length<=sizeLine:=(I.lstM e).1;split at q
   .rename_i y;split at q
    .rename_i Y;obtain⟨z,rfl,j⟩:=wZ Rs;obtain⟨T,E⟩:=S.set L hl (B.append (.one j));exact qz A s N H _ _ u O Q I r U ⟨a,M,z,rfl,rfl,e,by rw[<-B.length];exact Qp Y yQ,q _ _ _ T E (aJ.mpr rfl)⟩
    .exact q.elim
   .rename_i k;split at q
    .rename_i ys g;split at q
     .rename_i o;obtain⟨z,rfl,j⟩:=wZ Rs;obtain⟨c,f,rfl⟩:=aw.mp j;obtain⟨c',p,G,t,J⟩:=yg S g;rw[f]at G;cases G;obtain⟨T,E⟩:=S.set L hl (B.append J);exact Jl A s N H _ _ u O Q I r U ⟨a,c,M,p,rfl,rfl,e,t,by rw[<-B.length,<-J.length];exact Qx o yQ,q _ _ _ T E (aJ.mpr rfl)⟩
     .exact q.elim
    .exact q.elim
   .obtain rfl:=au.mp Rs;obtain⟨T,E⟩:=S.set L hl B.reverse;exact Ka A s N H _ _ u O Q I r U ⟨a,M,rfl,rfl,e,q _ _ _ T E (aJ.mpr rfl)⟩
   .exact q.elim
  .exact q.elim
 .exact q.elim
noncomputable def dR:Tg->String
 |.int=> "int" |.bool=> "bool"
def F8(K:Qb)(t:Tg):V5 K (.type "bool") (.type (dR t))=some true/\V5 K (.type "int") (.type (dR t))=some (decide (t=.int)):=by
 cases t<;>refine⟨?_,?_⟩<;>kernel_rfl
noncomputable def oE(K:Qb)(t:Tg):U8->Hp->VK->Prop:=λA H Q=>∃as m w v,A=[v,.ty (dR t)]/\aS K as m H/\ai K as H w v/\ak K as H Q (dN (fH t w m) m)
def DO(m:Me)(t:Tg):(∀c,fH t (.bl c) m=some true)/\∀i,fH t (.int i) m=some (decide (t=.int)):=by
 refine⟨λc=>?_,λi=>?_⟩<;>cases t<;>rfl
def IW(t:Tg):bQ X (.builtin "isinstance") (oE X.K t):=by
 intro A s M H k z Q I r h;obtain⟨as,m,w,v,rfl,S,R,q⟩:=h;obtain⟨b,E,q⟩:=vW S q;obtain⟨u,N,rfl,L,G⟩:=Da r;obtain rfl:N=.type (dR t):=G;obtain⟨O,U⟩:=F8 X.K t;obtain⟨Y,j⟩:=DO m t;have B:∀J,EP X A M Q (.bool b) {s with toks:=J}:=λJ=>⟨.bl b,H,I.tok J,rfl,q⟩;cases w with
 |bl c=>
  obtain rfl:=ah.mp R;have e:b=true:=Option.some.inj (E.symm.trans (Y _));subst e;exact qr I L (.bl c) O B
 |int i=>
  obtain rfl:=aa.mp R;have e:b=decide (t=.int):=Option.some.inj (E.symm.trans (j _));subst e;exact qr I L (.int i) U B
 |_=>cases t<;>cases E
end
structure ft(J:It)(vs:U8)(ok:Hp->Prop):Prop where
 go:∀i H,ok H->i<vs.length->J.go i H
 yld:∀i H x H',ok H->i<vs.length->J.yld i H x H'->H'=H/\vs[i]?=some x
 stop:∀i H,ok H->vs.length<=i->J.stop i H
noncomputable def i7(K:Qb)(as:S6)(H:Hp)(J:It)(xs:U4):Prop:=
 ∃A ok,ft J A ok/\ok H/\ab K as H xs A/\∀H1 H2,Kp K H1 H2->ok H1->ok H2
noncomputable def pR(K:Qb)(as:S6)(H:Hp)(w:Wd)(J:It):Prop:=match w with
 |.T A=>i7 K as H J A
 |.rol A=>i7 K as H J A
 |.ref l=>∃a,as[l]?=some a/\J=pz K a
 |_=>True
noncomputable def cg(K:Qb)(as:S6)(H:Hp)(R:It->Hp->Prop)(r:Rz):Prop:=match r with
 |.ok w E=>(wr E w).isSome=true/\∀A B J,Step as H A B->aS K A E B->pR K A B w J->R J B
 |_=>False
noncomputable def h9(K:Qb)(g:En->Me->Rz):TI:=λB H R=>∃as A m,aS K as m H/\az K as H A B/\cg K as H R (g A m)
def PI.or{X:Cx}{B e:Expr}{a b:TI}(E:PI X B e a)(G:PI X B e b):PI X B e (λσ H R=>a σ H R\/b σ H R):=λA s σ H R I h=>by
 rcases h with h|h
 .exact E A s σ H R I h
 .exact G A s σ H R I h
def PI.imp{X:Cx}{B e:Expr}{a b:TI}(h:PI X B e a)(k:∀σ H R,b σ H R->a σ H R):PI X B e b:=λA s σ H R I q=>h A s σ H R I (k σ H R q)
def gb (h:PE X x (aK X.K g)):PI X p x (h9 X.K g):=by
 refine PI.imp (PI.or (Hj h) (EJ h)) λd H R q=>?_;obtain⟨as,E,m,S,G,P⟩:=q;cases O:g E m with
 |no=>rw[O]at P;exact P.elim
 |ok w c=>
  rw[O]at P;obtain⟨J,P⟩:=P;obtain⟨f,J⟩:=Wm.mp J;cases w with
  |T z=>
   refine .inr ⟨as,E,m,S,G,?_⟩;rw[O];intro B L v T M Q;obtain⟨a,A,rfl,U,j⟩:=ag.mp Q;refine⟨a,rfl,⟨A,U⟩,P B L _ T M ⟨A,λH=>bS X.K H a A,⟨λi H h I=>⟨A,A[i],h,by simp[I]⟩,λi H x L h I q=>⟨q.1,q.2 A h⟩,λi H h I=>⟨A,h,I⟩⟩,U,j,λH1 H2 k h=>k.t _ _ h⟩⟩
  |rol z=>
   refine .inl ⟨as,E,m,S,G,?_⟩;rw[O];intro B L v T M Q;obtain⟨a,A,rfl,U,j⟩:=aV.mp Q;refine⟨a,rfl,⟨A,U.sq⟩,P B L _ T M ⟨A,λH=>eU X.K H a A,⟨λi H h I=>⟨A,A[i],h.sq,by simp[I]⟩,λi H x L h I q=>⟨q.1,q.2 A h.sq⟩,λi H h I=>⟨A,h.sq,I⟩⟩,U,j,λH1 H2 k h=>k.f _ _ h⟩⟩
  |ref l=>
   refine .inl ⟨as,E,m,S,G,?_⟩;rw[O];intro B L v T M Q;obtain⟨a,u,rfl⟩:=aw.mp Q;obtain⟨t,o,Y,e,_⟩:=yg M (zU J);rw[u]at Y;cases Y;exact⟨a,rfl,⟨o,bg.of e⟩,P B L _ T M ⟨a,u,rfl⟩⟩
  |N=>cases J
  |bl b=>cases J
  |int i=>cases J
  |str x=>cases J
theorem gc {K:Qb}(st:Int):∀(n:Nat) (lo:Int),ab K as H (fw lo st n) ((QA n).map λ(i:Nat)=>V.int (lo+st*(i:Int)))
 |0,lo=>au.mpr rfl
 |n+1,lo=>by
  rw[WN,QJ,QQ];refine am.mpr ⟨_,_,rfl,aa.mpr (by simp),?_⟩;have e:((λ(i:Nat)=>V.int (lo+st*(i:Int))) ∘ Nat.succ)=λ(i:Nat)=>V.int (lo+st+st*(i:Int)):=by
   funext i;show V.int (lo+st*((i.succ:Nat):Int))=_;congr 1;rw[Nat.succ_eq_add_one,Int.natCast_add,Int.mul_add];lia
  rw[e];exact gc st n (lo+st)
def JL{K:Qb}(lo:Int)(n:Nat):ft (iT lo n) ((QA n).map λ(i:Nat)=>V.int (lo+1*(i:Int))) (λ_=>True):=by
 refine⟨λi H _ A=>?_,λi H x E _ A q=>?_,λi H _ A=>?_⟩
 .show i<n;simpa using A
 .obtain ⟨e,rfl⟩:=q;refine⟨e,?_⟩;have B:i<n:=by simpa using A
  rw[Qq,Vi B];simp
 .show n<=i;simpa using A
end Mini
namespace L2
open PySem PySem.Spec PyProof.Rows
section
variable{κ:Type}[DecidableEq κ]
noncomputable def wI(kvs:List (κ×V))(k:κ):Option V:=(kvs.find? λA=>decide (A.1=k)).map (·.2)
noncomputable def eZ(kvs:List (κ×V))(k:κ)(v:V):List (κ×V):=
 if(kvs.any λA=>decide (A.1=k))=true then kvs.map (λA=>if A.1=k then(A.1,v)else A)else kvs++[(k,v)]
def wA {k:κ}(e:p.1=k):wI (p::r) k=some p.2:=by simp[wI,Ve,e]
def w5 {k:κ}(e:¬p.1=k):wI (p::r) k=wI r k:=by simp[wI,Ve,e]
theorem gd(k:κ):∀kvs:List (κ×V),(kvs.any λA=>decide (A.1=k))=(wI kvs k).isSome
 |[]=>rfl
 |p::r=>by
  rw[Vp];by_cases e:p.1=k
  .simp only[wA e,OF e,Bool.true_or,Option.isSome_some]
  .rw[w5 e,OA e,Bool.false_or];exact gd k r
def IV {k:κ}(v:V)(h:wI kvs k=none):eZ kvs k v=kvs++[(k,v)]:=by
 unfold eZ;rw[gd,h];exact OC (by decide)
def KV.val (r:KV kvs vs)(k:κ):iR (wI kvs k) (Ot vs k):=by
 unfold KV at r
 induction r with
 |nil=>exact True.intro
 |@cons p q I A h t G=>
  obtain⟨E,H⟩:=h;by_cases e:p.1=k
  .have B:q.1=k:=E.symm.trans e;have b:Ot (q::A) k=some q.2:=by simp[Ot,Ve,B]
   rw[wA e,b];exact H
  .have B:¬q.1=k:=λz=>e (E.trans z);have b:Ot (q::A) k=Ot A k:=by simp[Ot,Ve,B]
   rw[w5 e,b];exact G
theorem KV.any (r:KV kvs vs)(k:κ):(kvs.any λA=>decide (A.1=k))=vs.any λA=>decide (A.1=k):=by
 unfold KV at r
 induction r with
 |nil=>rfl
 |cons h t B=>rw[Vp,Vp,B,h.1]
def KV.repl{kvs:List (κ×V)}{vs:List (κ×Value)}(r:KV kvs vs)(k:κ){y:V}{u:Value}(E:RelV y u):
  KV (kvs.map λA=>if A.1=k then(A.1,y)else A) (vs.map λA=>if A.1=k then(A.1,u)else A):=by
 unfold KV at r ⊢
 induction r with
 |nil=>exact .nil
 |@cons p q I J h t G=>
  rw[QJ,QJ];refine .cons ?_ G;obtain⟨B,H⟩:=h;by_cases e:p.1=k
  .rw[OB e,OB (B.symm.trans e)];exact⟨B,E⟩
  .rw[OC e,OC (λz=>e (B.trans z))];exact⟨B,H⟩
def KV.put{kvs:List (κ×V)}{vs:List (κ×Value)}(r:KV kvs vs)(k:κ){y:V}{u:Value}(A:RelV y u):KV (eZ kvs k y) (stored vs k u):=by
 unfold eZ stored;rw[r.any k];by_cases e:(vs.any λB=>decide (B.1=k))=true
 .rw[OB e,OB e];exact r.repl k A
 .rw[OC e,OC e];exact Paired.snoc r ⟨rfl,A⟩
def KV.keys {vs:List (κ×Value)}(r:KV kvs vs):kvs.map (·.1)=vs.map (·.1):=by
 unfold KV at r
 induction r with
 |nil=>rfl
 |cons h t A=>rw[QJ,QJ,A,h.1]
theorem KV.length {vs:List (κ×Value)}(r:KV kvs vs):kvs.length=vs.length:=Paired.length r
end
def m8 (r:RelV (kV k) u):(yw P w).is k u=true:=by
 cases k with
 |inl i=>obtain⟨t,e⟩:=(show ∃t,u=Value.int i t from r);subst e;exact KS P w i t
 |inr x=>obtain⟨t,e⟩:=(show ∃t,u=Value.str x t from r);subst e;exact KR P w x t
section
variable{P:My}{w:Mz}{H:Hp}{h:MC}{a:Addr}
def CA (ok:cI P w H h)(e:Rd H a u):bD P w H h a u:=e.ok ok
def Cz (ok:cI P w H h)(e:Rd H a (.dK kvs)):kvs.length<=sizeLine/\(a==MD)=false/\∃vs,KV kvs vs/\h.DictOf (yw P w) a vs:=
 show bD P w H h a (.dK kvs)from CA ok e
def Cy (ok:cI P w H h)(e:H a=some (.dK kvs)):kvs.length<=sizeLine/\(a==MD)=false/\∃vs,KV kvs vs/\h.DictOf (yw P w) a vs:=Cz ok (.inl e)
end
section
variable{X:Cx}{pins:O6}{σ:St}{H:Hp}{s:Shared}{a:Addr}
def Inv.big(I:Inv X pins σ H s):MD<s.heap.objs.size:=by
 have h:ME<s.heap.objs.size:=(I.mod.glob.keeps I.bk).lt;exact Nat.lt_trans (by decide) h
def F7 (I:Inv X pins σ H s)(A:iS (H a))(B:WE a s.heap h')(E:∃q,h'.get? a=some q)(new:bD X.prog X.w (aL H a ob) h' a ob):
  Inv X pins σ (aL H a ob) {s with heap:=h',toks:=t' } :=
 I.write (x:=a) (e:=a) A (.inl rfl) (λb q G z=>(B.2 b G).trans z) E new
end
def IU (h:MC)(A:MD<h.objs.size):bD P w H (h.push {cls:=.type "dict",data:=.dict #[]}) h.objs.size (.dK []):=
 ⟨Wi _,beq_eq_false_iff_ne.mpr (Ne.symm (QN A)),[],.nil,Heap.DictOf.new h⟩
noncomputable def m9:List (TE×TE)->St->Hp->(List (V×V)->Hp->Prop)->Prop
 |[],_,H,Q=>Q [] H
 |(B,E)::r,A,H,Q=>B A H λx H1=>E A H1 λy H2=>m9 r A H2 λG H3=>Q ((x,y)::G) H3
abbrev VV:List (V×V)->List (Value×Value)->Prop:=Paired λp q=>RelV p.1 q.1/\RelV p.2 q.2
noncomputable def l8(X:Cx)(pos:Pos)(keys:List (Option Expr))(A:S8)(E:List (TE×TE)):Prop:=
 ∀(B:O6) (s:Shared) (G:St) (H:Hp) (Q:List (V×V)->Hp->Prop),Inv X B G H s->m9 E G H Q ->
  MK (ML X.prog X.w) X.A (evalPairs (pairTrees keys A X.env pos)) (λL M=>∃I J,Inv X B G J M/\VV I L/\Q I J) X.xe s
def F6:l8 X pos [] [] []:=λA s B H Q I h=>pairTrees_nil_walk ⟨[],H,I,.nil,h⟩
def kC (J:PE X k L)(M:PE X v N)(O:l8 X pos U vs B):
  l8 X pos (some k::U) (v::vs) ((L,N)::B):=λA s E H Q I h=>
 pairTrees_cons_walk (aU (J A s E H _ I h) λu Y ⟨x,H1,j,q,z⟩=>aU (M A Y E H1 _ j z) λe o ⟨y,H2,p,d,c⟩=>
  aU (O A o E H2 _ p c) λt m ⟨l,H3,g,G,f⟩=>⟨(x,y)::l,H3,g,.cons ⟨q,d⟩ G,f⟩)
noncomputable def vX(kvs A:List (bT×V)):List (bT×V):=A.foldl (λB E=>eZ B E.1 E.2) kvs
def KV.merge:∀{A:List (bT×V)}{B:List (bT×Value)}{kvs:List (bT×V)}{vs:List (bT×Value)},KV A B->KV kvs vs->KV (vX kvs A) (merged vs B):=by
 intro A B kvs vs r;unfold KV at r
 induction r generalizing kvs vs with
 |nil=>intro q;exact q
 |@cons p q H I h t E=>
  intro G;have e:KV (eZ kvs p.1 p.2) (stored vs q.1 q.2):=by
   have:=G.put p.1 h.2;rw[<-h.1];exact this
  exact E e
theorem gf:∀{kvs:List (bT×V)}{ws:List (Value×Value)},VV (kvs.map λB=>(kV B.1,B.2)) ws->∃A,Carries (yw P w) ws A/\KV kvs A
 |[],_,r=>by rw[Vu]at r;cases r;exact⟨[],True.intro,.nil⟩
 |p::kvs,_,r=>by
  rw[QJ]at r;cases r with
  |@cons a b as bs h t=>
   obtain⟨A,c,q⟩:=gf (P:=P) (w:=w) t;obtain⟨G,E⟩:=b;exact⟨(p.1,E)::A,⟨m8 h.1,rfl,c⟩,.cons ⟨rfl,h.2⟩ q⟩
noncomputable def wU(d:Addr)(o:Obj):HO:=.ext λh=>h.get? d=some o
noncomputable def FO(P:My)(w:Mz)(d:Addr)(o:Obj)(ep:Nat)(kvs:List (bT×V)):Prop:=
 (d==MD)=false/\∃A B,o.ExactDict/\o.data=.dict A ep/\KeysOf (yw P w) A/\Pairs (yw P w) A.toList B/\(B.map (·.1)).Nodup/\KV kvs B
def FO.at (f:FO P w d o ep kvs){h:MC}(e:h.get? d=some o):∃vs,KV kvs vs/\h.DictAt (yw P w) d vs ep:=by
 obtain⟨_,A,vs,a,b,c,g,n,r⟩:=f;exact⟨vs,r,o,A,e,a,b,c,g,n⟩
def F5 (h:(yw P w).is k u=true):RelV (kV k) u:=by
 cases k with
 |inl i=>exact Value.isInt_shape h
 |inr x=>exact Value.isStrOf_shape h
section
variable{X:Cx}{pins:O6}{σ:St}{H:Hp}{s:Shared}
def lx (I:Inv X pins σ H s)(h:H d=some (wU d o)):s.heap.get? d=some o:=(I.hok d _ h).1
noncomputable def B7(d:Addr)(o:Obj)(kvs:List (bT×V)):It:=
 ⟨λi H=>H d=some (wU d o)/\i<kvs.length,λi H x B=>B=H/\∃A,kvs[i]?=some A/\x=kV A.1,λi H=>H d=some (wU d o)/\kvs.length<=i⟩
def DN {vs:List (bT×Value)}(r:KV kvs vs)(B:i<kvs.length):∃k v u,kvs[i]?=some (k,v)/\vs[i]?=some (k,u):=by
 have E:=r.keys;have hl:=r.length;have A:i<vs.length:=by lia
 refine⟨kvs[i].1,kvs[i].2,vs[i].2,Qj B,?_⟩;rw[Qj A];have e:(kvs.map (·.1))[i]?=(vs.map (·.1))[i]?:=by rw[E]
 rw[Qq,Qq,Qj B,Qj A]at e;have e:=Option.some.inj e;have e:kvs[i].1=vs[i].1:=e;rw[e]
def J4 {K:Qb}(f:FO P w d o ep kvs)(it:Addr):dh P w K tg (B7 d o kvs) [it] it (λi h=>h.IsKeyIter it d i kvs.length ep) where
 mem:=by simp
 obj:=λi h st b B=>by
  have e:b=it:=by simpa using B
  subst e;obtain⟨o,e,c,d⟩:=st;exact⟨o,e,λv z=>by rw[d]at z;cases z⟩
 keep:=λi h J st k=>by
  obtain⟨o,e,r⟩:=st;exact⟨o,k it (by simp) o e,r⟩
 item:=by
  intro X M N O q i pins s σ H E I L st Q;subst M N O;obtain⟨U,p⟩:=Q;obtain⟨l,A,Y⟩:=f.at (lx I U);obtain⟨k,v,u,g,t⟩:=DN A p;obtain⟨f0,f1,f2,f3,f4,f5⟩:=L it (by simp);have hl:=A.length;rw[hl]at st;refine wpAny_pyNext_dict_item st Y t λj J m G n=>?_;have a:Inv X pins σ H {s with heap:=J }:=I.turned (t':=s.toks) (λb o B e=>(n.2 b B).trans e) f0 f1 f3 f4 f5;obtain⟨o,e,c,y⟩:=id G;rw[<-hl]at G;exact⟨j,rfl,iF (s:={s with heap:=J }) e c y (by decide) ⟨kV k,H,a,F5 m,⟨rfl,(k,v),g,rfl⟩,G,λb B=>(L b B).1⟩⟩
 done:=by
  intro X M N O q i pins s σ H E I L st Q;subst M N O;obtain⟨U,p⟩:=Q;obtain⟨l,A,Y⟩:=f.at (lx I U);obtain⟨f0,f1,f2,f3,f4,f5⟩:=L it (by simp);have hl:=A.length;rw[hl]at st;exact wpAny_pyNext_dict_end (I.ok.hd q) st Y (Qy (by lia)) λJ x=>⟨rfl,I.turned (t':=s.toks) (λb o B e=>x b o B e) f0 f1 f3 f4 f5⟩
 self:=λ_ _ _ _ _ st h=>Ou st h
noncomputable def A9(X:Cx)(B:TE):TI:=λσ H R=>B σ H λx H1=>∃d o E A,x=.ref d/\FO X.prog X.w d o E A/\H1 d=some (wU d o)/\R (B7 d o A) H1
def IT (hl:PE X l G):PI X U l (A9 X G):=by
 intro pins s σ H R I h;refine aU (hl pins s σ H _ I h) λv A ⟨x,H1,B,J,L⟩=>?_;obtain⟨d,o,Y,M,e,f,N,q⟩:=L;subst e;cases J;obtain⟨j,E,O⟩:=f.at (lx B N);have hl:=E.length;refine wpAny_pyIter_dict f.1 O ?_;refine⟨A.heap.objs.size,[A.heap.objs.size],_,_,H1,rfl,B.kept (t':=A.toks) λb o e=>Qk _ e,J4 f _,⟨_,QK _ rfl,rfl,by rw[hl];rfl⟩,λb Q=>?_,q⟩;have e:b=A.heap.objs.size:=by simpa using Q
 subst e;exact B.fpOk (Qh _) (B.hok.fresh (Qh _))
noncomputable def qH(X:Cx):R2:=λx y H Q=>∃d o B A k v,x=.ref d/\y=kV k/\FO X.prog X.w d o B A/\H d=some (wU d o)/\wI A k=some v/\Q v H
def oO:dY X (qH X):=by
 intro A B pins s σ H x y v u Q I M N h O;obtain⟨d,o,g,U,k,z,rfl,rfl,f,Y,j,q⟩:=h;cases M;obtain⟨p,E,J⟩:=f.at (lx I Y);obtain⟨L,c,G⟩:=pI (v:=z) (o:=Ot p k) (by rw[<-j];exact E.val k);exact NE (x:=L) J.dictOf.typeIs slot_dict_getitem.lookup
  (wpAny_getItem_of (Q:=λr l=>r=L/\EP X pins σ Q r l) (m8 N) J.dictOf.mapOf c ⟨rfl,z,H,I.tok _,G,q⟩) O
def qI (h:(kvs.map (·.1)).Nodup):∀{ps:List (bT×V)},((ps++kvs).map (·.1)).Nodup->vX ps kvs=ps++kvs:=by
 induction kvs with
 |nil=>intro ps _;simp[vX]
 |cons a r G=>
  intro ps A;have I:wI ps a.1=none:=by
   cases J:wI ps a.1 with
   |none=>rfl
   |some y=>
    exfalso;have E:(wI ps a.1).isSome=true:=by rw[J];rfl
    rw[<-gd,WT]at E;obtain⟨q,L,B⟩:=E;have B:=OG B;rw[Wb,QW]at A;exact A.2.2 q.1 (WV L) a.1 (by simp) B
  show vX (eZ ps a.1 a.2) r=_;rw[IV _ I,G (by simpa using (QB.mp (by simpa using h)).2) (ps:=ps++[(a.1,a.2)]) (by simpa using A)];simp
noncomputable def DM(X:Cx)(B:List (TE×TE)):TE:=λσ H Q=>∀p,H p=none->m9 B σ (aL H p (.dK [])) λG H2=>H2 p=some (.dK [])/\∃A:List (bT×V),G=A.map (λE=>(kV E.1,E.2))/\A.length<=15/\(A.map (·.1)).Nodup/\∀o I,FO X.prog X.w p o I A->Q (.ref p) (aL H2 p (wU p o))
def IS (h:l8 X pos keys A E)(B:keys.all (·.isSome)=true)(hl:keys.length=A.length)(Y:keys≠[])(G:keys.length<=15):PE X (.Dict keys A pos) (DM X E):=by
 intro pins s σ H Q I q;have j:=I.hok.fresh (Qh s.heap.objs.size);have u:=I.laid (a:=s.heap.objs.size) (o:=.dK []) (h':=s.heap.push {cls:=.type "dict",data:=.dict #[]}) (t':=s.toks) (λ_ _ q=>Qk _ q) (Qh _) (IU s.heap I.big);refine wpAny_Dict_walk (knd:=yw X.prog X.w) B hl Y G (aU (h pins _ σ _ _ u (q _ j)) λws s2 ⟨ps,H2,O,J,e,p,L,lk,nd,d⟩=>?_);subst L;obtain⟨l,c,g⟩:=gf (P:=X.prog) (w:=X.w) J;obtain⟨z,f,t,m,b⟩:=Cy O.hok e;cases m;refine⟨l,c,b,λh' M n=>?_⟩;have U:=g.merge (kvs:=[]) (vs:=[]) .nil;rw[qI nd (ps:=[]) (by simpa using nd)]at U;obtain⟨o,i,L,N,y,x,b4,b5,b6⟩:=M;refine⟨.ref s.heap.objs.size,_,?_,rfl,d o L ⟨f,i,_,y,x,b4,b5,b6,U⟩⟩;exact F7 O (by rw[e];exact True.intro) n ⟨_,N⟩ ⟨N,⟨_,N⟩,λh1 h2 hx k=>k o hx⟩
end
noncomputable def iY(K:Qb)(b:Addr)(xs:U8):Prop:=
 ∃(o:Obj) (A:P7) (n:Nat),K.lookup b=some o/\o.cls=.type "tuple" /\ o.data=.seq A n/\A.size<=sizeLine/\av xs A.toList
abbrev fP:=List (T9×Int×Int)
noncomputable def pF(K:Qb)(w:Mz):List DictEntry->fP->Prop
 |[],q=>q=[]
 |e::A,q=>∃k x y r t b,q=(k,x,y)::r/\e.key=.str ⟨k.toArray⟩ t/\e.hash=MB w ⟨k.toArray⟩/\e.val=.ref b/\iY K b [.int x,.int y]/\pF K w A r
noncomputable def iy(K:Qb)(w:Mz)(a:Addr)(q:fP):Prop:=
 (a==MD)=false/\∃o A B,K.lookup a=some o/\o.ExactDict/\o.data=.dict A B/\pF K w A.toList q
noncomputable def pE(K:Qb):List (bT×V)->fP->Prop
 |[],q=>q=[]
 |kv::A,q=>∃k x y r b,q=(k,x,y)::r/\kv=(Sum.inr ⟨k.toArray⟩,.ref b)/\iY K b [.int x,.int y]/\pE K A r
theorem tX {K:Qb}:∀(A:List DictEntry) (q:fP),pF K w A q ->
  ∃kvs vs,(∀e∈A,∃k,(yw P w).is k e.key=true/\e.hash=(yw P w).hash k)/\Pairs (yw P w) A vs/\KV kvs vs/\vs.map (·.1)=q.map (λz=>(Sum.inr ⟨z.1.toArray⟩:bT))/\pE K kvs q
 |[],q,h=>by
  cases(show q=[]from h);exact⟨[],[],by simp,.nil,.nil,rfl,rfl⟩
 |e::A,q,h=>by
  refine aP λj E=>?_;obtain⟨k,x,y,r,t,b,rfl,G,H,I,J,L⟩:=h;obtain⟨kvs,vs,M,N,O,Q,U⟩:=tX (P:=P) A r L;refine E ?_;have B:(yw P w).is (Sum.inr ⟨k.toArray⟩) e.key=true:=by rw[G];exact qo _ t
  refine⟨(Sum.inr ⟨k.toArray⟩,.ref b)::kvs,(Sum.inr ⟨k.toArray⟩,.ref b)::vs,λY he=>?_,.cons B I N,.cons ⟨rfl,rfl⟩ O,?_,k,x,y,r,b,rfl,rfl,J,U⟩
  .rcases Qn.mp he with rfl|he
   .exact ⟨_,B,H⟩
   .exact M Y he
  .rw[QJ,QJ,Q]
def Cw {K:Qb}(h:iy K w a q)(nd:(q.map (·.1)).Nodup):∃o ep kvs,K.lookup a=some o/\FO P w a o ep kvs/\pE K kvs q:=by
 refine aP λk B=>?_;obtain⟨E,o,G,ep,H,I,J,L⟩:=h;obtain⟨kvs,M,N,O,Q,U,Y⟩:=tX (P:=P) _ _ L;refine B ?_;refine⟨o,ep,kvs,H,⟨E,G,M,I,J,λe j=>N e (Array.mem_toList_iff.mpr j),O,?_,Q⟩,Y⟩;rw[U];refine VS.map _ (λx y A=>?_) (Wr.mp nd);intro e;injection e with e
 injection e with e
 exact A (by simpa using OE W2 e)
section
variable{X:Cx}{pins:O6}{σ:St}{H:Hp}{s:Shared}
noncomputable def Cv(X:Cx):R2:=λx y H Q=>∃d o B A k v,x=.ref d/\y=kV k/\FO X.prog X.w d o B A/\X.K.lookup d=some o/\wI A k=some v/\Q v H
def oN:dY X (Cv X):=by
 intro A B pins s σ H x y v u Q I M N h O;obtain⟨d,o,g,U,k,z,rfl,rfl,f,Y,j,q⟩:=h;cases M;obtain⟨p,E,J⟩:=f.at (I.kIn d o Y);obtain⟨L,c,G⟩:=pI (v:=z) (o:=Ot p k) (by rw[<-j];exact E.val k);exact NE (x:=L) J.dictOf.typeIs slot_dict_getitem.lookup
  (wpAny_getItem_of (Q:=λr l=>r=L/\EP X pins σ Q r l) (m8 N) J.dictOf.mapOf c ⟨rfl,z,H,I.tok _,G,q⟩) O
end
end L2
namespace Mini
open PySem PySem.Spec PyProof.Rows L2
set_option genInjectivity false in
structure Ctx where
 fns:T8
 cons:List (Str×Int)
 dcs:List (Str×fP)
set_option genInjectivity false in
inductive Nd where
 |e (x:Expr)|a (xs:S8)
noncomputable def dE(A:Mw)(x:Str):Bool:=decide (A.names.lookup x=some .globalImplicit)
noncomputable def eY(A:Mw)(x:Str):Bool:=decide (A.names.lookup x=some .local) || (decide (A.names.lookup x=some .cell) || decide (A.names.lookup x=some .free))
noncomputable def yO(x:Str):Bool:=!(x==("__debug__":Str)) && !(x==("__classdict__":Str)) && !(x==("__name__":Str))
noncomputable def zI:Expr->Bool
 |.Starred _ _=>false
 |_=>true
noncomputable def yJ:Expr->Bool
 |.Set _ _ _=>false
 |_=>true
noncomputable def xw:Expr->Bool
 |.Slice _ _ _ _=>false
 |_=>true
noncomputable def kD:Expr->Bool
 |.Call _ _ _ _=>false
 |_=>true
noncomputable def zA:Ex->Bool
 |.rng _ _ _=>true
 |_=>false
noncomputable def jz:Ex->Bool
 |.ife _ _ _=>true
 |_=>false
noncomputable def yn(A B:Mw):Mw:=
 {A with names:=A.names.map λ(n,k)=>if(k == .free&&B.kind == .function&&B.names.lookup n==some .cell)then(n,.cell)else(n,k)}
noncomputable def bP(B:Mw)(N:T8)(A:Mw)(xs:T8):Bool:=
 decide (A.kind=.function)&&(xs.all (λx=>decide (A.names.lookup x=some .local) || decide (A.names.lookup x=some .cell)) &&
 (A.names.all (λy=>!(decide (y.2=.local)) || decide (A.names.lookup y.1=some .local)) &&
 (A.names.all (λy=>!(decide (y.2=.free)) || (decide (B.names.lookup y.1=some .cell) || decide (B.names.lookup y.1=some .free))) &&
 (A.names.all (λy=>!(decide (y.2=.cell)) || !(decide (A.names.lookup y.1=some .free))) &&
 (N.all (λy=>decide (y∈xs) || (!(decide (A.names.lookup y=some .local)) && !(decide (A.names.lookup y=some .cell)))) &&
 (decide (yE N xs).Nodup&&xs.all (λx=>decide (A.names.lookup (lT x)=none))))))))
def yi (h:bP X.env.scope X.N A xs=true):bM X A xs:=by
 unfold bP at h;simp only[QD,Vf,OH,WF,Vn,decide_eq_false_iff_not]at h;obtain⟨E,G,H,I,J,L,M,N⟩:=h;refine⟨E,G,λy B e=>?_,λy B e=>?_,λy B e=>?_,λy B e=>?_,M,N⟩
 .rcases H y B with z|z
  .exact OD e z
  .exact z
 .rcases I y B with z|z
  .exact OD e z
  .exact z
 .rcases L y B with z|z
  .exact OD z e
  .exact z
 .rcases J y B with z|z
  .exact OD e z
  .exact z
noncomputable def eF(K:Qb)(g:U4->Me->Rz):Sp:=λB H Q _=>∃as m A,aS K as m H/\ab K as H A B/\ak K as H Q (g A m)
noncomputable def zO:T8:=["len","int","bool","list","tuple","abs","max","min","isinstance","range","str","dict","sum","all","zip","enumerate","sorted","reversed"]
noncomputable def iz(K:Qb)(w:Mz)(B:O3)(C:Ctx):Prop:=(∀(A:Str) (i:Int),C.cons.lookup A=some i->∃t,B A=some (.int i t))/\∀(A:Str) (q:fP),C.dcs.lookup A=some q->∃a,B A=some (.ref a)/\iy K w a q
structure bY(C:Ctx)(X:Cx)(cl:O1)(d:Nat):Prop where
 room:cf d X.A
 calm:X.calm=true
 fn:∀(k:Nat) (nm:Str),C.fns[k]?=some nm->∃f fd ps,X.mg nm=some (.ref f)/\WX X.K (.ref f)=true/\Binds X.K fd ps []/\cX X.prog X.w X.K X.mg X.base eC d f fd ps (eF X.K (cl k))
 con:iz X.K X.w X.mg C
 blt:∀nm∈zO,X.mg nm=none
def bY.comp{C:Ctx}{X E:Cx}{cl:O1}{d:Nat}{A:Mw}{x:T8}(h:bY C X cl d)(c:bt X A x E):bY C E cl d:=by
 refine⟨by rw[c.A];exact h.room,c.calm,λk B e=>?_,?_,λB e=>?_⟩
 .obtain ⟨f,G,H,I,J,L,M⟩:=h.fn k B e;exact⟨f,G,H,by rw[c.mg];exact I,by rw[c.K];exact J,by rw[c.K];exact L,by rw[c.prog,c.w,c.K,c.mg,c.base];exact M⟩
 .rw[c.mg,c.K,c.w];exact h.con
 .rw[c.mg];exact h.blt B e
noncomputable def cz(K:Qb)(as:S6)(H:Hp)(Q:U8->Hp->Prop)(r:Rz):Prop:=match r with
 |.ok w G=>∀A B E,Step as H A B->aS K A G B->ab K A B (zK w) E->Q E B
 |_=>False
noncomputable def gh(K:Qb)(g:En->Me->Rz):TA:=λB H Q=>∃as A m,aS K as m H/\az K as H A B/\cz K as H Q (g A m)
theorem cz.bind{K:Qb}{as:S6}{H:Hp}{Q:VK}{G:U8->Hp->Prop}{r:Rz}{f:Wd->Me->Rz}(h:ak K as H Q (r.bind f))
  (k:∀w m' A B vs,Step as H A B->aS K A m' B->ab K A B (zK w) vs->ak K A B Q (f w m')->G vs B):cz K as H G r:=by
 cases r with
 |ok w m'=>exact λE H2 v U S R=>k w m' E H2 v U S R (ak.step (r:=f w m') h U)
 |no=>exact h
noncomputable def b7(cl:O1)(X:Cx)(e:Ex):Nd->Prop
 |.e x=>(zA e=false->PE X x (aK X.K (ae cl e))/\(jz e=false->PT X x (xN X.K (ae cl e)))/\(∀B E A,x=.BoolOp B E A->PW X x (xN X.K (ae cl e))))/\∀G,PI X G x (h9 X.K (ae cl e))
 |.a H=>PA X H (gh X.K (ae cl e))
def b7.of{cl:O1}{X:Cx}{e:Ex}{x:Expr}(h:PE X x (aK X.K (ae cl e)))(B:∀A,isTrue x X.env A=(do let v <-A;standAt x.pos;holding [v] (truthy v)):=by intro _;rfl)
  (E:∀op vs pos,x≠.BoolOp op vs pos:=by intros;intro z;cases z):b7 cl X e (.e x):=
 ⟨λ_=>⟨h,λ_=>Er h B,λop vs pos z=>OD z (E op vs pos)⟩,λG=>gb h⟩
def zy (h:zI e=true):MN (e::A) env=(false,eval e env)::MN A env:=by
 cases e<;>first|rfl|cases h
theorem xP:∀{A:S8},A.all zI=true->(MM pos (MN A env)).any (·.1)=false
 |[],_=>rfl
 |e::A,h=>by
  rw[W9,QD]at h;rw[zy h.1];show(false || (MM pos (MN A env)).any (·.1))=false;rw[xP h.2];rfl
section
variable{cl:O1}{X:Cx}{a b:Ex}{x y:Expr}{pos:Pos}
def DL (I:PE X x (aK X.K (ae cl a)))(J:PE X y (aK X.K (ae cl b))):PE X (.BinOp x (fY op) y pos) (aK X.K (ae cl (.bin op a b))):=by
 refine PE.imp (Df (Dq op) I J) λk H Q h=>?_;obtain⟨as,A,m,S,G,P⟩:=h;refine⟨as,A,m,S,G,ak.bind P λx m1 B H1 v L E M N=>?_⟩;refine⟨B,A,m1,E,G.mono S L,ak.bind N λy m2 O H2 u U Y R2 j=>?_⟩;exact EY Y (M.mono E U) R2 j
def DK(E:PE X x (aK X.K (ae cl a))):PE X (.UnaryOp .USub x pos) (aK X.K (ae cl (.neg a))):=by
 refine PE.imp (De EF E) λM H Q h=>?_;obtain⟨as,A,m,S,G,P⟩:=h;refine⟨as,A,m,S,G,ak.bind P λx m1 I H1 v N J L B=>?_⟩;cases x with
 |int i=>
  obtain rfl:=aa.mp L;exact⟨i,rfl,B.ok J (aa.mpr rfl)⟩
 |_=>exact B.elim
def tW(E:PE X x (aK X.K (ae cl a))):PE X (.UnaryOp .Not x pos) (aK X.K (ae cl (.not a))):=by
 refine PE.imp (ET E) λM H Q h=>?_;obtain⟨as,A,m,S,G,P⟩:=h;refine⟨as,A,m,S,G,ak.bind P λx m1 I H1 v N J L B=>?_⟩;cases x with
 |bl k=>
  obtain rfl:=ah.mp L;exact⟨k,rfl,B.ok J (ah.mpr rfl)⟩
 |_=>exact B.elim
def DJ(E:PT X x (xN X.K (ae cl a))):PT X (.UnaryOp .Not x pos) (xN X.K (ae cl (.not a))):=by
 refine PT.imp (EV E) λM H Q h=>?_;obtain⟨as,A,m,S,G,P⟩:=h;refine⟨as,A,m,S,G,ak.bind P λx m1 I H1 v N J L B=>?_⟩;cases x with
 |bl k=>
  obtain rfl:=ah.mp L;obtain⟨b,e,q⟩:=B.ok J (ah.mpr rfl);cases e;exact⟨k,rfl,q⟩
 |_=>exact B.elim
def AI {K:Qb}(h:aK K (ae cl (.and a b)) σ H Q):aK K (ae cl a) σ H λx H1=>∃k,x=.bl k/\if k=true then aK K (ae cl b) σ H1 Q else Q (.bl false) H1:=by
 obtain⟨as,A,m,S,G,P⟩:=h;refine⟨as,A,m,S,G,ak.bind P λx m1 B H1 v J I L E=>?_⟩;cases x with
 |bl k=>
  obtain rfl:=ah.mp L;refine⟨k,rfl,?_⟩;cases k with
  |true=>exact fi ⟨B,A,m1,I,G.mono S J,E⟩
  |false=>exact fj (E.ok I (ah.mpr rfl))
 |_=>exact E.elim
def ur {K:Qb}(h:aK K (ae cl (.or a b)) σ H Q):aK K (ae cl a) σ H λx H1=>∃k,x=.bl k/\if k=true then Q (.bl true) H1 else aK K (ae cl b) σ H1 Q:=by
 obtain⟨as,A,m,S,G,P⟩:=h;refine⟨as,A,m,S,G,ak.bind P λx m1 B H1 v J I L E=>?_⟩;cases x with
 |bl k=>
  obtain rfl:=ah.mp L;refine⟨k,rfl,?_⟩;cases k with
  |false=>exact fj ⟨B,A,m1,I,G.mono S J,E⟩
  |true=>exact fi (E.ok I (ah.mpr rfl))
 |_=>exact E.elim
def AH {K:Qb}(h:aK K g σ H Q)(k:∀v H,Q v H->I v H):aK K g σ H I:=by
 obtain⟨as,A,m,S,G,P⟩:=h;refine⟨as,A,m,S,G,?_⟩;cases E:g A m with
 |ok w M=>rw[E]at P;exact λB J v T L R=>k _ _ (P B J v T L R)
 |no=>rw[E]at P;exact P
def DI (A:PE X x (aK X.K (ae cl a)))(B:PE X (.BoolOp .And (y::r) pos) (aK X.K (ae cl b))):PE X (.BoolOp .And (x::y::r) pos) (aK X.K (ae cl (.and a b))):=
 PE.imp (EU A B) λE H Q h=>AI h
def Cu (A:PE X x (aK X.K (ae cl a)))(B:PE X (.BoolOp .Or (y::r) pos) (aK X.K (ae cl b))):PE X (.BoolOp .Or (x::y::r) pos) (aK X.K (ae cl (.or a b))):=
 PE.imp (Dn A B) λE H Q h=>ur h
def PW.imp{e:Expr}{t t':TT}(h:PW X e t)(k:∀σ H Q,t' σ H Q->t σ H Q):PW X e t':=λA B s σ H Q I q=>h A B s σ H Q I (k σ H Q q)
def DH (A:PT X x (xN X.K (ae cl a)))(B:PW X (.BoolOp .And (y::r) pos) (xN X.K (ae cl b))):PW X (.BoolOp .And (x::y::r) pos) (xN X.K (ae cl (.and a b))):=
 PW.imp (EW A B) λG H Q h=>by
  refine AH (AI h) λv H1 q=>?_;obtain⟨k,e,q⟩:=q;refine⟨k,e,?_⟩;cases k with
  |true=>rw[OB rfl]at q ⊢;exact q
  |false=>
   rw[OC QU]at q ⊢;obtain⟨I,E,q⟩:=q;cases E;exact q
def Ct (A:PT X x (xN X.K (ae cl a)))(B:PW X (.BoolOp .Or (y::r) pos) (xN X.K (ae cl b))):PW X (.BoolOp .Or (x::y::r) pos) (xN X.K (ae cl (.or a b))):=
 PW.imp (CS A B) λG H Q h=>by
  refine AH (ur h) λv H1 q=>?_;obtain⟨k,e,q⟩:=q;refine⟨k,e,?_⟩;cases k with
  |false=>rw[OC QU]at q ⊢;exact q
  |true=>
   rw[OB rfl]at q ⊢;obtain⟨I,E,q⟩:=q;cases E;exact q
def i6 (h:yJ e=true):Ni op e=false:=by
 cases e<;>first|rfl|cases h
def AG {K:Qb}(h:aK K (ae cl (.cmp op a b)) σ H Q):eK (rC K op) (aK K (ae cl a)) (aK K (ae cl b)) σ H Q:=by
 obtain⟨as,A,m,S,G,P⟩:=h;refine⟨as,A,m,S,G,ak.bind P λx m1 B H1 v J I L M=>?_⟩;refine⟨B,A,m1,I,G.mono S J,ak.bind M λy m2 E H2 u N O R2 U=>?_⟩;exact⟨E,m2,x,y,O,L.mono I N,R2,U⟩
def tV (A:X.A.units+64<Nj)(B:PE X x (aK X.K (ae cl a)))(E:PE X y (aK X.K (ae cl b)))(G:yJ y=true):PE X (.Compare x [cK op] [y] pos) (aK X.K (ae cl (.cmp op a b))):=
 PE.imp (Hg (j6 A op) B E (i6 G)) λI H Q h=>AG h
def DG (A:X.A.units+64<Nj)(B:PE X x (aK X.K (ae cl a)))(E:PE X y (aK X.K (ae cl b)))(G:yJ y=true):PT X (.Compare x [cK op] [y] pos) (xN X.K (ae cl (.cmp op a b))):=
 PT.imp (uD (j6 A op) B E (i6 G)) λI H Q h=>AG h
end
section
variable{cl:O1}{X:Cx}{a b c:Ex}{x y z:Expr}{pos:Pos}
def gk {K:Qb}(h:aK K (ae cl (.chain p q a b c)) σ H Q):nl (rC K p) (rC K q) (aK K (ae cl a)) (aK K (ae cl b)) (aK K (ae cl c)) σ H Q:=by
 obtain⟨as,A,m,S,G,P⟩:=h;refine⟨as,A,m,S,G,ak.bind P λx m1 B H1 v O E j o=>?_⟩;refine⟨B,A,m1,E,G.mono S O,ak.bind o λy m2 I H2 u U J R2 d=>?_⟩;refine⟨I,m2,x,y,J,j.mono E U,R2,ak.bind d λz m3 L H3 w Y M l P3=>?_⟩;cases z with
 |bl k=>
  obtain rfl:=ah.mp l;refine⟨k,rfl,?_⟩;cases k with
  |false=>exact fj (P3.ok M (ah.mpr rfl))
  |true=>
   refine fi ⟨L,A,m3,M,((G.mono S O).mono E U).mono J Y,ak.bind P3 λt m4 N H4 r g f e s=>?_⟩;exact⟨N,m4,y,t,f,(R2.mono J Y).mono M g,e,s⟩
 |_=>exact P3.elim
def tT (h:yJ z=true):lastMarks [o,A] [y,z]=false:=by
 show Ni A z=false;exact i6 h
def AF (A:X.A.units+64<Nj)(B:PE X x (aK X.K (ae cl a)))(E:PE X y (aK X.K (ae cl b)))(G:PE X z (aK X.K (ae cl c)))(I:yJ z=true):
  PE X (.Compare x [cK p,cK q] [y,z] pos) (aK X.K (ae cl (.chain p q a b c))):=
 PE.imp (IH (j6 A p) (j6 A q) B E G (tT I)) λJ H Q h=>gk h
def Ji (A:X.A.units+64<Nj)(B:PE X x (aK X.K (ae cl a)))(E:PE X y (aK X.K (ae cl b)))(G:PE X z (aK X.K (ae cl c)))(I:yJ z=true):
  PT X (.Compare x [cK p,cK q] [y,z] pos) (xN X.K (ae cl (.chain p q a b c))):=
 PT.imp (IG (j6 A p) (j6 A q) B E G (tT I)) λJ H Q h=>gk h
def Jh {K:Qb}(h:aK K (ae cl (.ife c a b)) σ H Q):A4 (xN K (ae cl c)) (aK K (ae cl a)) (aK K (ae cl b)) σ H Q:=by
 obtain⟨as,A,m,S,G,P⟩:=h;refine⟨as,A,m,S,G,ak.bind P λx m1 B H1 v I J L E=>?_⟩;cases x with
 |bl k=>
  obtain rfl:=ah.mp L;refine⟨k,rfl,?_⟩;cases k with
  |true=>exact fi ⟨B,A,m1,J,G.mono S I,E⟩
  |false=>exact fj ⟨B,A,m1,J,G.mono S I,E⟩
 |_=>exact E.elim
def DF(A:PT X z (xN X.K (ae cl c)))(B:PE X x (aK X.K (ae cl a)))(E:PE X y (aK X.K (ae cl b))):PE X (.IfExp z x y pos) (aK X.K (ae cl (.ife c a b))):=
 PE.imp (IL A B E) λG H Q h=>Jh h
def GS:PA X [] (gh X.K (ae cl .u)):=PA.imp wF λB H Q h=>by
 obtain⟨as,A,m,S,G,P⟩:=h;exact P as H [] .refl S (au.mpr rfl)
def GR (Y:PE X x (aK X.K (ae cl a)))(j:PA X xs (gh X.K (ae cl b)))(k:zI x=true):PA X (x::xs) (gh X.K (ae cl (.p a b))):=by
 refine PA.imp (yR Y j (zy k)) λo H Q h=>?_;obtain⟨as,A,m,S,G,P⟩:=h;refine⟨as,A,m,S,G,?_⟩;have B:cz X.K as H Q ((ae cl a A m).bind λx m1=>(ae cl b A m1).bind λy m2=>.ok (.T (x::zK y)) m2):=P;cases L:ae cl a A m with
 |no=>rw[L]at B;exact B
 |ok w m1=>
  rw[L]at B;intro I H1 v M N q;refine⟨I,A,m1,N,G.mono S M,?_⟩;simp only[Rz.bind]at B;cases E:ae cl b A m1 with
  |no=>rw[E]at B;exact B
  |ok p m2=>
   rw[E]at B;intro J H2 O U u R2;exact B J H2 (v::O) (M.trans U) u (am.mpr ⟨v,O,rfl,q.mono N U,R2⟩)
def GQ (M:bY C X cl d)(N:C.fns[k]?=some B)(O:X.env.scope.names.lookup B=some .globalImplicit)(E:yO B=true)(U:(x::xs).all zI=true)(Y:PA X (x::xs) (gh X.K (ae cl a))):PE X (.Call (.Name B p) (x::xs) [] pos) (aK X.K (ae cl (.call k a))):=by
 obtain⟨f,t,s,j,q,u,o⟩:=M.fn k B N;have A:=U;rw[W9,QD]at A;have I:(B==("__debug__":Str))=false:=by
  unfold yO at E;simp only[QD,Vn]at E;exact E.1.1
 refine PE.imp (HD o M.room O j q u .nil (Dt (X:=X)) Y I (zy A.1) (xP A.2)) λn H Q h=>?_;obtain⟨as,J,m,S,G,P⟩:=h;refine⟨as,J,m,S,G,cz.bind P λw m1 L H1 i T1 l g e=>?_⟩;refine⟨L,m1,zK w,l,?_,e⟩;rw[Q6];exact g
def xn (A:yO B=true):(B==("__debug__":Str))=false/\(B==("__classdict__":Str))=false/\B ≠ "__name__":=by
 unfold yO at A;simp only[QD,Vn]at A;exact⟨A.1.1,A.1.2,by simpa using A.2⟩
def DE (B:bY C X cl d)(E:mJ U=some (I,f))(J:X.env.scope.names.lookup I=some .globalImplicit)(k:yO I=true)(q:(x::xs).all zI=true)(L:PA X (x::xs) (gh X.K (ae cl a))):PE X (.Call (.Name I p) (x::xs) [] pos) (aK X.K (ae cl (.blt U a))):=by
 obtain⟨M,g,N⟩:=xn k;have A:=q;rw[W9,QD]at A;have O:=IX B.room.units B.calm E;have go:PE X (.Call (.Name I p) (x::xs) [] pos) (ox (A6 X.K U) (gh X.K (ae cl a))):=by
  cases U with
  |len=>cases E;exact wq O J (B.blt _ (by simp[zO])) PySem.boot_len L N M (zy A.1) (xP A.2)
  |int=>cases E;exact Jm O J (B.blt _ (by simp[zO])) PyProof.Rows.boot_int L N M (zy A.1) (xP A.2)
  |sum=>cases E;exact wq O J (B.blt _ (by simp[zO])) PyProof.Rows.boot_sum L N M (zy A.1) (xP A.2)
  |all=>cases E;exact wq O J (B.blt _ (by simp[zO])) PyProof.Rows.boot_all L N M (zy A.1) (xP A.2)
 refine PE.imp go λe H Q h=>?_;obtain⟨as,Y,m,S,G,P⟩:=h;refine⟨as,Y,m,S,G,cz.bind P λw m1 j H1 t s u o l=>?_⟩;exact⟨j,m1,zK w,u,o,l⟩
def GP(t:Tg):MF (Str.ofString (dR t))=some (.type (dR t)):=by
 cases t<;>decide +kernel
def DD (J:bY C X cl d)(M:X.env.scope.names.lookup ("isinstance":Str)=some .globalImplicit)(A:X.env.scope.names.lookup (Str.ofString (dR t))=some .globalImplicit)(L:zI x=true)(N:PE X x (aK X.K (ae cl a))):PE X (.Call (.Name "isinstance" p) [x,.Name (Str.ofString (dR t)) O] [] pos) (aK X.K (ae cl (.isi t a))):=by
 have U:X.mg (Str.ofString (dR t))=none:=J.blt _ (by cases t<;>decide +kernel);have B:PE X (.Name (Str.ofString (dR t)) O) (tC (.ty (dR t))):=Ho A U (GP t) rfl (by cases t<;>decide +kernel) (by cases t<;>decide +kernel);refine PE.imp (wq (IW t) M (J.blt _ (by simp[zO])) PyProof.Rows.boot_isinstance (yR N (yR B wF) (zy L)) (by decide +kernel) (by decide +kernel) (zy L) rfl) λq H Q h=>?_;obtain⟨as,E,m,S,G,P⟩:=h;refine⟨as,E,m,S,G,ak.bind P λw m1 I H1 v u Y j k=>?_⟩;exact⟨I,m1,w,v,rfl,Y,j,k⟩
def DC (B:PA X xs (gh X.K (ae cl a))):PE X (.List xs pos) (aK X.K (ae cl (.L a))):=by
 refine PE.imp (EB B) λO H Q h=>?_;obtain⟨as,A,m,S,G,P⟩:=h;refine⟨as,A,m,S,G,cz.bind P λw m1 E H1 U Y I J L=>?_⟩;obtain⟨M,N⟩:=xO I J L;exact⟨Qx M yQ,N⟩
set_option tactic.hygienic true in
def DB (I:PA X xs (gh X.K (ae cl a))):PE X (.Tuple xs k pos) (aK X.K (ae cl (.T a))):=by
 refine PE.imp (EC I) λU H Q h=>?_;obtain⟨as,A,m,S,G,P⟩:=h;refine⟨as,A,m,S,G,cz.bind P λw m1 J H1 Y j L E B=>?_⟩;split at B
 .rename_i hl;refine⟨by rw[<-E.length];exact Qx hl yQ,λp M=>?_⟩;obtain⟨T,N,O⟩:=L.T M E;exact B _ _ _ T N O
 .exact B.elim
def DA(I:PE X x (aK X.K (ae cl a)))(J:PE X y (aK X.K (ae cl b)))(L:xw y=true):PE X (.Subscript x y pos) (aK X.K (ae cl (.i a b))):=by
 have M:qW y:=λo i=>by cases y<;>first|rfl|cases L
 refine PE.imp (lg E7 I J M) λp H Q h=>?_;obtain⟨as,A,m,S,G,P⟩:=h;refine⟨as,A,m,S,G,ak.bind P λx m1 B H1 v N E O U=>?_⟩;refine⟨B,A,m1,E,G.mono S N,ak.bind U λy m2 Y H2 u j k R2 q=>?_⟩;exact DQ k (O.mono E j) R2 q
end
section
variable{cl:O1}{X:Cx}{a b c:Ex}{x y z:Expr}{pos:Pos}
set_option tactic.hygienic true in
def sk {K:Qb}{lo:R9}(S:aS K as m H)(R:ai K as H w v)(h:ak K as H Q (fm w lo B m)):mI K v lo B H Q\/rF K v lo B H Q:=by
 have I:∀(n d:Nat) (o:R9),aR n d o=HT.aR n d o:=λn d o=>by cases o<;>rfl
 have J:∀{A:U4}{p:Addr}{E:U8},bg K H p E->ab K as H A E->ak K as H Q (alloc m ((A.drop (aR A.length 0 lo)).take (aR A.length A.length B-aR A.length 0 lo)))->mI K (.ref p) lo B H Q:=λ{A p E} q r h=>by
  refine⟨p,E,rfl,q,?_⟩;have e:(E.drop (aR A.length 0 lo)).take (aR A.length A.length B-aR A.length 0 lo)=qe E lo B:=by
   unfold qe;rw[r.length,I,I]
  rw[<-e];exact(xO S ((r.drop _).take _) h).2
 cases w with
 |T A=>
  obtain⟨p,E,rfl,q,r⟩:=ag.mp R;have G:ak K as H Q (if aR A.length 0 lo=0/\aR A.length A.length B=A.length then .no else .ok (.T ((A.drop (aR A.length 0 lo)).take (aR A.length A.length B-aR A.length 0 lo))) m):=h;by_cases c:aR A.length 0 lo=0/\aR A.length A.length B=A.length
  .rw[OB c]at G;exact G.elim
  .rw[OC c]at G;refine .inr ⟨p,E,rfl,q,by rw[<-r.length,<-I,<-I];exact c,λl hl=>?_⟩;have e:(E.drop (aR A.length 0 lo)).take (aR A.length A.length B-aR A.length 0 lo)=qe E lo B:=by
    unfold qe;rw[r.length,I,I]
   obtain⟨T,N,O⟩:=S.T hl ((r.drop (aR A.length 0 lo)).take (aR A.length A.length B-aR A.length 0 lo));rw[<-e];exact G _ _ _ T N O
 |rol Y=>
  obtain⟨p,E,rfl,q,r⟩:=aV.mp R;exact .inl (J q.sq r h)
 |ref l=>
  obtain⟨p,U,rfl⟩:=aw.mp R;have G:ak K as H Q (match zD m l with
   |some A=>alloc m ((A.drop (aR A.length 0 lo)).take (aR A.length A.length B-aR A.length 0 lo))
   |none=>.no):=h
  cases M:zD m l with
  |none=>rw[M]at G;exact G.elim
  |some A=>
   rw[M]at G;obtain⟨j,E,L,e,r⟩:=yg S (zU M);rw[U]at L;cases L;exact .inl (J (bg.of e) r G)
 |_=>exact h.elim
def Dz (J:PE X x (aK X.K (ae cl a)))(L:PE X y (aK X.K (ae cl b))):PE X (.Subscript x (.Slice (some y) none none k) pos) (aK X.K (ae cl (.slL a b))):=by
 refine PE.imp (AW (dL.or tG) J (qU L) HB) λq H Q h=>?_;obtain⟨as,A,m,S,G,P⟩:=h;refine⟨as,A,m,S,G,ak.bind P λx m1 B H1 v M E N O=>?_⟩;refine⟨B,A,m1,E,G.mono S M,ak.bind O λy m2 U H2 u Y j R2 I=>?_⟩;cases y with
 |int i=>exact⟨i,aa.mp R2,sk j (N.mono E Y) I⟩
 |_=>exact I.elim
def Dy (O:PE X x (aK X.K (ae cl a)))(U:PE X y (aK X.K (ae cl b)))(Y:PE X z (aK X.K (ae cl c))):PE X (.Subscript x (.Slice (some y) (some z) none g) pos) (aK X.K (ae cl (.slB a b c))):=by
 refine PE.imp (AW (dL.or tG) O (qU U) (qU Y)) λf H Q h=>?_;obtain⟨as,A,m,S,G,P⟩:=h;refine⟨as,A,m,S,G,ak.bind P λx m1 B H1 v J E k q=>?_⟩;refine⟨B,A,m1,E,G.mono S J,ak.bind q λy m2 I H2 u L M R2 N=>?_⟩;cases y with
 |int i=>
  refine⟨i,aa.mp R2,I,A,m2,M,(G.mono S J).mono E L,ak.bind N λz m3 o H3 t p d l P3=>?_⟩;cases z with
  |int j=>exact⟨j,aa.mp l,sk d ((k.mono E L).mono M p) P3⟩
  |_=>exact P3.elim
 |_=>exact N.elim
def cy (h:kD e=true):NG e f env (eval e env)=eval e env:=by
 cases e<;>first|rfl|cases h
def Dx (h:ys.all zI=true)(hl:ys.length<29):
  ((MM B (MN ys env)).all (λx=>! x.1)&&(backToKw B (NH [] env)).all (λx=>x.1.isSome)
   && decide (ys.length+([]:List NI).length+(if([]:List NI).isEmpty then 0 else 1)<30))=true:=by
 have all:∀{A:S8},A.all zI=true->(MM B (MN A env)).all (λx=>! x.1)=true:=by
  intro A
  induction A with
  |nil=>intro _;rfl
  |cons e A E=>
   intro h;rw[W9,QD]at h;rw[zy h.1];show(true&&(MM B (MN A env)).all (λx=>! x.1))=true;rw[E h.2];rfl
 rw[all h];have G:(backToKw B (NH [] env)).all (λx=>x.1.isSome)=true:=rfl;rw[G];have H:decide (ys.length+([]:List NI).length+(if([]:List NI).isEmpty then 0 else 1)<30)=true:=by
  apply OF;show ys.length+0+0<30;lia
 rw[H];rfl
def AE(k:dX):Slot "list" (fq k).1 (fq k).2/\typeOf (.builtin (fq k).2)=pure (.type "method_descriptor"):=by
 cases k with
 |append=>exact⟨PySem.F.slot_list_append,PySem.F.type_list_append⟩
 |extend=>exact⟨PySem.F.slot_list_extend,PySem.F.type_list_extend⟩
 |reverse=>exact⟨PySem.F.slot_list_reverse,PySem.F.type_list_reverse⟩
def uq{K:Qb}{as:S6}{H:Hp}{Q:VK}{b:Bool}{r:Rz}(h:ak K as H Q (match b with|true=>r|false=>.no)):b=true/\ak K as H Q r:=by
 cases b with
 |true=>exact⟨rfl,h⟩
 |false=>exact h.elim
def tS (h:xj w m=true):∃l,w=.ref l/\(zD m l).isSome=true:=by
 cases w with
 |ref l=>
  refine⟨l,rfl,?_⟩;unfold xj bU at h;unfold zD;cases e:m[l]? with
  |none=>simp[e]at h
  |some o=>
   cases o with
   |L A=>rfl
   |D B E=>simp[e]at h
 |_=>cases h
def tR {K:Qb}(S:aS K as m H)(R:ai K as H w v)(E:∃l,w=.ref l/\(zD m l).isSome=true):lK K "list" v H:=by
 obtain⟨l,rfl,B⟩:=E;obtain⟨p,G,rfl⟩:=aw.mp R;obtain⟨J,B⟩:=Wm.mp B;obtain⟨L,I,A,e,_⟩:=yg S (zU B);rw[G]at A;cases A;exact⟨rfl,I,bg.of e⟩
def Jg (M:PE X x (aK X.K (ae cl a)))(N:kD x=true)(hl:(O.endLine==pos.line)=true):
  PE X (.Call (.Attribute x (fq k).1 O) [] [] pos) (aK X.K (ae cl (.meth k a .u))):=by
 obtain⟨f1,f2⟩:=AE k;refine PE.imp (E6 PySem.F.plainAttrs_list f1 f2 (tL k) M (cy N) hl) λY H Q h=>?_;obtain⟨as,B,m,S,G,P⟩:=h;refine⟨as,B,m,S,G,ak.bind P λw m1 A H1 v j J L E=>?_⟩;obtain⟨I,E⟩:=uq E;have U:ak X.K A H1 Q (dC k w [] m1):=E;exact⟨tR J L (tS I),A,m1,w,[],J,L,au.mpr rfl,U⟩
def GO (U:PE X x (aK X.K (ae cl a)))(Y:PA X (y::ys) (gh X.K (ae cl b)))(j:kD x=true)(hl:(q.endLine==pos.line)=true)(u:(y::ys).length<29)(N:(y::ys).all zI=true):
  PE X (.Call (.Attribute x (fq k).1 q) (y::ys) [] pos) (aK X.K (ae cl (.meth k a b))):=by
 obtain⟨f1,f2⟩:=AE k;have A:=N;rw[W9,QD]at A;refine PE.imp (Du PySem.F.plainAttrs_list f1 f2 (tL k) U Y (cy j) (Dx N u) hl (zy A.1) (xP A.2)) λf H Q h=>?_;obtain⟨as,B,m,S,G,P⟩:=h;refine⟨as,B,m,S,G,ak.bind P λw m1 E H1 v o I O J=>?_⟩;obtain⟨L,J⟩:=uq J;refine⟨tR I O (tS L),?_⟩;refine⟨E,B,m1,I,G.mono S o,cz.bind J λp m2 M H2 e d l R2 g=>?_⟩;exact⟨M,m2,w,zK p,l,O.mono I d,R2,g⟩
def HZ {K:Qb}(S:aS K as m H)(h:cg K as H R (ir (.int i) (.int j) (.int 1) m)):(-(2^62)<=i/\i<2^62/\-(2^62)<=j/\j<2^62)/\R (iT i (j-i).toNat) H:=by
 have A:cg K as H R (if -ao<=i/\i<=ao/\-ao<=j/\j<=ao/\((1:Int)=1\/(1:Int)=-1\/(1:Int)=-2\/(1:Int)=2)then .ok (.T (fw i 1 (eI i j 1))) m else .no):=h;by_cases B:-(ao:Int)<=i/\i<=ao/\-(ao:Int)<=j/\j<=ao/\((1:Int)=1\/(1:Int)=-1\/(1:Int)=-2\/(1:Int)=2)
 .rw[OB B]at A;have E:(ao:Int)=100000:=rfl;refine⟨by lia,A.2 as H _ .refl S ?_⟩;have e:eI i j 1=(j-i).toNat:=OB rfl;rw[e];exact⟨_,λ_=>True,JL i (j-i).toNat (K:=K),trivial,gc 1 (j-i).toNat i,λ_ _ _ _=>trivial⟩
 .rw[OC B]at A;exact A.elim
theorem cg.bind {K:Qb}(h:cg K as H R (r.bind f))(k:∀w m' A B v,Step as H A B->aS K A m' B->ai K A B w v->cg K A B R (f w m')->M v B):ak K as H M r:=by
 cases r with
 |ok w m'=>
  intro G H2 v U S N;refine k w m' G H2 v U S N ?_;have E:cg K as H R (f w m'):=h;cases L:f w m' with
  |ok Y m2=>rw[L]at E;exact⟨E.1,λI H3 J O Q q=>E.2 I H3 J (U.trans O) Q q⟩
  |no=>rw[L]at E;exact E
 |no=>exact h
def GN (I:bY C X cl d)(J:X.env.scope.names.lookup ("range":Str)=some .globalImplicit)(B:zI x=true)(L:PE X x (aK X.K (ae cl b))):
  PI X k (.Call (.Name "range" p) [x] [] pos) (h9 X.K (ae cl (.rng (.lit (.int 0)) b (.lit (.int 1))))):=by
 refine PI.imp (Jq J (I.blt _ (by simp[zO])) (yR L wF (zy B)) (zy B)) λu H R h=>?_;obtain⟨as,A,m,S,G,P⟩:=h;have M:cg X.K as H R ((ae cl b A m).bind λy m2=>ir (.int 0) y (.int 1) m2):=P;refine⟨as,A,m,S,G,cg.bind M λw m1 N H1 v o O Q E=>?_⟩;cases w with
 |int j=>
  obtain rfl:=aa.mp Q;obtain⟨⟨_,_,U,Y⟩,q⟩:=HZ O E;refine⟨j,rfl,U,Y,?_⟩;simpa using q
 |_=>exact E.elim
def GM (B:bY C X cl d)(E:X.env.scope.names.lookup ("list":Str)=some .globalImplicit)(Y:X.env.scope.names.lookup ("range":Str)=some .globalImplicit)(L:zI x=true)(k:PE X x (aK X.K (ae cl a))):
  PE X (.Call (.Name "list" p) [.Call (.Name "range" g) [x] [] M] [] pos) (aK X.K (ae cl (.lrng a))):=by
 refine PE.imp (Hx B.calm E (B.blt _ (by simp[zO])) Y (B.blt _ (by simp[zO])) (yR k wF (zy L)) (zy L)) λf H Q h=>?_;obtain⟨as,I,m,S,G,P⟩:=h;refine⟨as,I,m,S,G,ak.bind P λw m1 J H1 v e q u N=>?_⟩;cases w with
 |int j=>
  obtain rfl:=aa.mp u;have O:(ao:Int)=100000:=rfl;have A:ak X.K J H1 Q (if -(ao:Int)<=j/\j<=ao then alloc m1 (fw 0 1 j.toNat)else .no):=N;by_cases U:-(ao:Int)<=j/\j<=ao
  .rw[OB U]at A;obtain⟨t,o⟩:=xO q (gc 1 j.toNat 0) A;have l:j.toNat<=sizeLine:=Qx (by have:ao=100000:=rfl;lia) yQ;exact⟨j,rfl,by lia,by lia,l,o⟩
  .rw[OC U]at A;exact A.elim
 |_=>exact N.elim
end
end Mini
namespace L2
open PySem PySem.Spec PyProof.Rows
section
variable{X:Cx}{pins:O6}{σ:St}{H:Hp}{s:Shared}{h':MC}
def pJ {ch:S6}(I:Inv X pins σ H s)(G:∀b∈ch,jx X pins H b)(k:∀b o,b∉ch->s.heap.get? b=some o->h'.get? b=some o)(J:s.heap.objs.size<=T)(L:xs.length<=sizeLine)(M:av xs its)(N:IsTup h' T its.toArray):Inv X pins σ (aL H T (.T xs)) {s with heap:=h',toks:=t' }:=by
 have O:H T=none:=I.hok.fresh J;have B:∀b u,H b=some u->b∉ch:=λb u e z=>by rw[(G b z).1]at e;cases e
 have up:∀b u,H b=some u->aL H T (.T xs) b=some u:=λb u e=>by rw[zu (zF e O)];exact e
 refine I.step (g':=s.gens) (d':=s.drawn) (ch:=ch) (λb E=>?_) (λb o _ _ A e _=>k b o A e) (λb o _ _ A e _=>⟨o.slots,k b o A e⟩) (λb o A e n=>?_)
  (λb o A e=>⟨o,k b o A e⟩) (λb _ e=>up b _ e) (λb _ _ e=>up b _ e) (λb p e=>⟨#[],by rw[up b _ e];simp⟩) (λm Q=>?_) (λb u e=>?_) I.bare
 .obtain ⟨f0,f1,f2,f3,f4,f5⟩:=G b E;exact⟨f3,f1,f4,f5⟩
 .rw[zu (QN (Qp (Qr e) J))];exact n
 .obtain ⟨o,U,Y,j,r⟩:=Q;exact⟨o,U,Y,k _ o (λz=>(G _ z).2.1 rfl) j,r⟩
 .by_cases E:b=T
  .subst E;rw[zw]at e;cases e;exact⟨L,its,M,N⟩
  .rw[zu E]at e;refine(I.hok b u e).stay (λc v A q=>k c v ?_ q) (λc q=>up c _ q) λc _ q=>up c _ q;rcases A with z|z
   .rw[z];exact B b u e
   .exact B c _ z
def Inv.turnedL{t':Nat}{ch:S6}(I:Inv X pins σ H s)(E:∀b∈ch,jx X pins H b)(k:∀b o,b∉ch->s.heap.get? b=some o->h'.get? b=some o):Inv X pins σ H {s with heap:=h',toks:=t' }:=by
 have B:∀b u,H b=some u->b∉ch:=λb u e z=>by rw[(E b z).1]at e;cases e
 refine I.step (g':=s.gens) (d':=s.drawn) (ch:=ch) (λb G=>?_) (λb o _ _ A e _=>k b o A e) (λb o _ _ A e _=>⟨o.slots,k b o A e⟩) (λb o A e n=>n)
  (λb o A e=>⟨o,k b o A e⟩) (λb _ e=>e) (λb _ _ e=>e) (λb O e=>⟨#[],by rw[e];simp⟩) (λm J=>?_) (λb u e=>?_) I.bare
 .obtain ⟨f0,f1,f2,f3,f4,f5⟩:=E b G;exact⟨f3,f1,f4,f5⟩
 .obtain ⟨o,L,M,N,r⟩:=J;exact⟨o,L,M,k _ o (λz=>(E _ z).2.1 rfl) N,r⟩
 .refine (I.hok b u e).stay (λc v A q=>k c v ?_ q) (λc q=>q) λc _ q=>q;rcases A with z|z
  .rw[z];exact B b u e
  .exact B c _ z
end
noncomputable def Yp(H:Hp)(v:V)(A:Hp)(x y:V):Prop:=∃T,H T=none/\v=.ref T/\A=aL H T (.T [x,y])
noncomputable def pk(K:Qb)(l1 l2:Addr):It:=
 ⟨λi H=>∃A B x y,bg K H l1 A/\bg K H l2 B/\A[i]?=some x/\B[i]?=some y,
  λi H v E=>∃x y,Yp H v E x y/\(∀A,bg K H l1 A->A[i]?=some x)/\∀B,bg K H l2 B->B[i]?=some y,
  λi H=>∃A B,bg K H l1 A/\bg K H l2 B/\(A.length<=i\/B.length<=i)⟩
noncomputable def pA(K:Qb)(c:Nat)(l:Addr):It:=
 ⟨λi H=>∃A x,bg K H l A/\A[i]?=some x,
  λi H v B=>∃x,Yp H v B (.int ((i+c:Nat):Int)) x/\∀A,bg K H l A->A[i]?=some x,
  λi H=>∃A,bg K H l A/\A.length<=i⟩
def JK (L:A.handled=none)(it l:Addr)(I:l≠it)(B:P7)(c:Nat):
  Draws prog w A it [it,l] (B.size+c) (λi x=>∃j,i=j+c/\B[j]?=some x) (λi h=>∃j,i=j+c/\h.IsListIter it l j/\h.IsList l B):=by
 have D:=Draws.list (prog:=prog) (w:=w) L it l I B;refine⟨λi h st=>?_,λi h J st k=>?_,λi s Q E z st M=>?_,λs Q E st hE=>?_⟩
 .obtain ⟨j,_,G,H⟩:=st;exact D.live j h ⟨G,H⟩
 .obtain ⟨j,e,G,H⟩:=st;obtain⟨N,O⟩:=D.frame j h J ⟨G,H⟩ k;exact⟨j,e,N,O⟩
 .obtain ⟨j,rfl,G,H⟩:=st;refine D.item j s Q E (by lia) ⟨G,H⟩ λx J U p q Y=>M x J U ⟨j,rfl,p⟩ ⟨j+1,by lia,q.1,q.2⟩ Y
 .obtain ⟨j,e,G,H⟩:=st;have u:j=B.size:=by lia
  subst u;exact D.done s Q E ⟨G,H⟩ hE
def HY (G:A.handled=none)(it l:Addr)(B:P7)(H:B[i]?=none):
  Draws prog w A it [it,l] 0 (λ_ _=>True) (λk h=>k=0/\h.IsListIter it l i/\h.IsList l B):=by
 refine⟨λk h st=>?_,λk h L st q=>?_,λk s Q E I st M=>OD I (Nat.not_lt_zero _),λs Q E st hE=>?_⟩
 .obtain ⟨o,J,_⟩:=st.2.1;exact⟨o,J⟩
 .exact ⟨st.1,st.2.1.at λo e=>q it (by simp) o e,st.2.2.at λo e=>q l (by simp) o e⟩
 .exact wpAny_nextOf_list_end G st.2.1 st.2.2 H hE
def HX {K:Qb}(z TI TO Q U l1 l2:Addr)(D:ZipApart z TI TO Q U l1 l2):
  dh P w K (.Tuple elts k pt) (pk K l1 l2) [z,TI,TO,Q,U] z (λi h=>IsZip h z TI TO .none/\IsPair h TI (.ref Q) (.ref U)/\(∃a b,IsPair h TO a b)/\h.IsListIter Q l1 i/\h.IsListIter U l2 i) where
 mem:=by simp
 obj:=λi h st b B=>by
  obtain⟨L,A,⟨a,c,G⟩,⟨o1,n,c1,d1⟩,o2,e2,c2,d2⟩:=st;simp only[Qn,Wn,or_false]at B;rcases B with rfl|rfl|rfl|rfl|rfl
  .exact ⟨_,L,λv z=>by cases z⟩
  .exact ⟨_,A,λv z=>by cases z⟩
  .exact ⟨_,G,λv z=>by cases z⟩
  .exact ⟨_,n,λv z=>by rw[d1]at z;cases z⟩
  .exact ⟨_,e2,λv z=>by rw[d2]at z;cases z⟩
 keep:=λi h h' st k=>by
  obtain⟨L,A,⟨a,c,G⟩,p,d⟩:=st;exact⟨k z (by simp) _ L,k TI (by simp) _ A,⟨a,c,k TO (by simp) _ G⟩,p.at λo e=>k Q (by simp) o e,d.at λo e=>k U (by simp) o e⟩
 item:=by
  intro X hP hw hK hc i O s σ H E I t st hg;subst hP hw hK;obtain⟨xs,ys,x,y,M,N,hx,hy⟩:=hg;obtain⟨l,Y,p1,_⟩:=I.list M;obtain⟨g,j,p2,_⟩:=I.list N;obtain⟨u,hu,ru⟩:=Y.get hx;obtain⟨v,hv,rv⟩:=j.get hy;obtain⟨L,A,⟨a,b,G⟩,p,d⟩:=st;refine wpAny_pyNext_zip_item D L A G p d p1.isList p2.isList (x:=u) (y:=v) (by simpa using hu) (by simpa using hv) λh' a1 a2 a3 a4 a5 a6 m=>?_;refine⟨_,rfl,wpAny_letOwnedTupleGo_zip (s:={s with heap:=h' }) a1 λf hz' J=>?_⟩;have sT:z<s.heap.objs.size:=Qr L;have kk:∀b o,b∉[z,TI,TO,Q,U]->s.heap.get? b=some o->f.get? b=some o:=λb o B e=>
   (J.2 b λq=>B (by simp[q])).trans (m b o (λq=>B (by simp[q])) (λq=>B (by simp[q])) (λq=>B (by simp[q])) (λq=>B (by simp[q])) e)
  refine⟨.ref s.heap.objs.size,aL H s.heap.objs.size (.T [x,y]),?_,rfl,⟨x,y,⟨_,I.hok.fresh (Qh _),rfl,rfl⟩,λzs L=>by rw[I.list_inj L M];exact hx,λzs L=>by rw[I.list_inj L N];exact hy⟩,?_,?_⟩
  .have I1:Inv X O σ (aL H s.heap.objs.size (.T [x,y])) {s with heap:=f,toks:=s.toks}:=pJ (s:=s) (its:=[u,v]) I t kk (Qh _) (show(2:Nat)<=sizeLine by decide) (.cons ru (.cons rv .nil)) ⟨_,(J.2 _ (Vj sT)).trans a5,rfl,_,rfl⟩;exact I1
  .refine ⟨hz',?_,⟨u,v,?_⟩,?_,?_⟩
   .exact (J.2 TI D.TIz).trans (m TI _ D.TIz D.TITO D.TIi1 D.TIi2 A)
   .exact (J.2 TO D.TOz).trans a2
   .exact a3.at λo e=>(J.2 Q D.i1z).trans e
   .exact a4.at λo e=>(J.2 U D.i2z).trans e
  .intro b B;have hlt:b<s.heap.objs.size:=by
    simp only[Qn,Wn,or_false]at B;obtain⟨_,n,_⟩:=p;obtain⟨_,e2,_⟩:=d;rcases B with rfl|rfl|rfl|rfl|rfl
    .exact sT
    .exact Qr A
    .exact Qr G
    .exact Qr n
    .exact Qr e2
   rw[zu (QN hlt)];exact(t b B).1
 done:=by
  intro X hP hw hK hc i O s σ H E I t st hg;subst hP hw hK;obtain⟨xs,ys,M,N,hx⟩:=hg;obtain⟨l,Y,p1,_⟩:=I.list M;obtain⟨g,j,p2,_⟩:=I.list N;obtain⟨L,A,⟨a,b,G⟩,p,d⟩:=st;have l1:=Y.length;have l2:=j.length;refine wpAny_pyNext_zip_end (I.ok.hd hc) D L A G p d p1.isList p2.isList ?_ λh' m=>⟨rfl,?_⟩
  .rcases hx with hx|hx
   .exact .inl (by simp;lia)
   .exact .inr (by simp;lia)
  .exact I.turnedL (t':=s.toks) t λb o B e=>m b o (λq=>B (by simp[q])) (λq=>B (by simp[q])) (λq=>B (by simp[q])) (λq=>B (by simp[q])) e
 self:=λ_ _ _ _ _ st h=>wpAny_pyIter_zip st.1 h
def JJ {K:Qb}(c:Nat)(e it l:Addr)(O:e≠it)(t:l≠e)(m:l≠it):
  dh P w K (.Tuple elts k pt) (pA K c l) [e,it] e (λi h=>(∃G,IsEnum h e it ((i+c:Nat):Int) G)/\h.IsListIter it l i) where
 mem:=by simp
 obj:=λi h st b J=>by
  obtain⟨⟨G,L⟩,o1,n,c1,d1⟩:=st;simp only[Qn,Wn,or_false]at J;rcases J with rfl|rfl
  .exact ⟨_,L,λv z=>by cases z⟩
  .exact ⟨_,n,λv z=>by rw[d1]at z;cases z⟩
 keep:=λi h a st k=>by
  obtain⟨⟨G,L⟩,Y⟩:=st;exact⟨⟨G,k e (by simp) _ L⟩,Y.at λo q=>k it (by simp) o q⟩
 item:=by
  intro X y hw hK hc i N s σ H E I g st hg;subst y hw hK;obtain⟨xs,x,M,hx⟩:=hg;obtain⟨B,Q,p1,_⟩:=I.list M;obtain⟨u,hu,ru⟩:=Q.get hx;obtain⟨⟨G,L⟩,Y⟩:=st;have hil:i<B.length:=(Qa.mp hu).1;have D:=JK (prog:=X.prog) (w:=X.w) (A:=X.A.in1) (I.ok.hd hc) it l m B.toArray c;refine wpAny_pyNext_enum_itemD D L ⟨i,rfl,Y,p1.isList⟩ (by simp;lia) O (by simp[O,Ne.symm t]) λf a tk px a1 st' a3 a4 hk=>?_;obtain⟨j,ej,hj⟩:=px;have p:i=j:=by lia
  subst p;have hxu:f=u:=by
   have:B[i]?=some f:=by simpa using hj
   rw[hu]at this;cases this;rfl
  subst hxu;obtain⟨j',p,a2,_⟩:=st';have e2:j'=i+1:=by lia
  subst e2;refine⟨_,rfl,wpAny_letOwnedTupleGo_enum (s:={s with heap:=a,toks:=tk+1}) a1 λd he' U=>?_⟩;have sT:e<s.heap.objs.size:=Qr L;have kk:∀b o,b∉[e,it]->s.heap.get? b=some o->d.get? b=some o:=λb o J q=>
   (U.2 b λz=>J (by simp[z])).trans (hk b o (λz=>J (by simp[z])) (λz=>J (by simp[z])) q)
  refine⟨.ref s.heap.objs.size,aL H s.heap.objs.size (.T [.int ((i+c:Nat):Int),x]),?_,rfl,⟨x,⟨_,I.hok.fresh (Qh _),rfl,rfl⟩,λzs hz=>by rw[I.list_inj hz M];exact hx⟩,?_,?_⟩
  .have I1:Inv X N σ (aL H s.heap.objs.size (.T [.int ((i+c:Nat):Int),x])) {s with heap:=d,toks:=tk+1}:=pJ (s:=s) (its:=[.int ((i+c:Nat):Int) tk,f]) I g kk (Qh _) (show(2:Nat)<=sizeLine by decide) (.cons ⟨_,rfl⟩ (.cons ru .nil)) ⟨_,(U.2 _ (Vj sT)).trans a3,rfl,_,rfl⟩;exact I1
  .refine ⟨⟨f,?_⟩,a2.at λo q=>(U.2 it O.symm).trans q⟩;have:((i+1+c:Nat):Int)=((i+c:Nat):Int)+1:=by lia
   rw[this];exact he'
  .intro b J;have hlt:b<s.heap.objs.size:=by
    simp only[Qn,Wn,or_false]at J;obtain⟨_,n,_⟩:=Y;rcases J with rfl|rfl
    .exact sT
    .exact Qr n
   rw[zu (QN hlt)];exact(g b J).1
 done:=by
  intro X y hw hK hc i N s σ H E I g st hg;subst y hw hK;obtain⟨xs,M,hx⟩:=hg;obtain⟨B,Q,p1,_⟩:=I.list M;obtain⟨⟨G,L⟩,Y⟩:=st;have l1:=Q.length;have D:=HY (prog:=X.prog) (w:=X.w) (A:=X.A.in1) (I.ok.hd hc) it l B.toArray (i:=i) (by simp;lia);refine wpAny_pyNext_enum_endD D L ⟨rfl,Y,p1.isList⟩ λa hk=>⟨rfl,?_⟩;exact I.turnedL (t':=s.toks) g λb o J q=>hk b o (λz=>J (by simp[z])) q
 self:=λ_ _ _ _ _ st h=>by
  obtain⟨⟨G,L⟩,_⟩:=st;exact wpAny_pyIter_enum L h
section
variable{X:Cx}{elts:S8}{k:Nat}{pt:Pos}
noncomputable def pQ(K:Qb)(E:TA):TI:=λG H R=>E G H λI H1=>∃A B J L,I=[.ref A,.ref B]/\bg K H1 A J/\bg K H1 B L/\R (pk K A B) H1
noncomputable def si(K:Qb)(c:Nat)(A:TA):TI:=λB H R=>A B H λE H1=>∃l G,E=[.ref l]/\bg K H1 l G/\R (pA K c l) H1
def sZ (g:Gl X "zip")(f:X.mg "zip"=none)(t:PA X [a,b] m)(n:MN [a,b] X.env=[(false,eval a X.env),(false,eval b X.env)]:=by rfl)(B:MN [b] X.env=[(false,eval b X.env)]:=by rfl):
  PI X (.Tuple elts k pt) (.Call (.Name "zip" p) [a,b] [] pos) (pQ X.K m):=by
 intro E s i H R I h;refine Call_ (wV I g f PyProof.Rows.boot_zip (PyProof.Rows.callWith_type1 (aU (t pos E s i H _ I h) λus A ⟨vs,H1,G,w,y⟩=>?_) (by rw[n,B]) (by rw[B];rfl)));obtain⟨U,Y,xs,ys,e,x,g2,q⟩:=y;subst e;cases w with
 |cons r L=>
  cases L with
  |cons r' L=>
   cases L;cases r;cases r';obtain⟨j,rv1,u,_⟩:=G.list x;obtain⟨z,rv2,d,_⟩:=G.list g2;have t1:U<A.heap.objs.size:=by obtain⟨o,e,_⟩:=u.isList;exact Qr e
   have t2:Y<A.heap.objs.size:=by obtain⟨o,e,_⟩:=d.isList;exact Qr e
   refine call_zip_2 u.isList d.isList λh' c M N O Q hsz hk=>?_;refine wpAny_pyIter_zip (s:={A with heap:=h' }) c ?_;refine⟨_,_,_,_,H1,rfl,G.kept (t':=A.toks) hk,HX (A.heap.objs.size+4) (A.heap.objs.size+2) (A.heap.objs.size+3) A.heap.objs.size (A.heap.objs.size+1) U Y ?_,⟨c,M,⟨_,_,N⟩,O,Q⟩,λb l=>?_,q⟩
   .exact zipApart_new t1 t2
   .have J:A.heap.objs.size<=b:=by
     simp only[Qn,Wn,or_false]at l;rcases l with rfl|rfl|rfl|rfl|rfl
     .exact WM _ _
     .exact WM _ _
     .exact WM _ _
     .exact Qh _
     .exact WM _ _
    exact G.fpOk J (G.hok.fresh J)
def GL (Q:Gl X "enumerate")(U:X.mg "enumerate"=none)(Y:PA X [a] j)(u:MN [a] X.env=[(false,eval a X.env)]:=by rfl):
  PI X (.Tuple elts k pt) (.Call (.Name "enumerate" p) [a] [] pos) (si X.K 0 j):=by
 intro B s z H R I h;refine Call_ (wV I Q U PyProof.Rows.boot_enumerate (PyProof.Rows.callWith_type1 (aU (Y pos B s z H _ I h) λy A ⟨x,H1,G,d,c⟩=>?_) u rfl));obtain⟨l,xs,e,g,q⟩:=c;subst e;cases d with
 |cons r f=>
  cases f;cases r;obtain⟨J,t,L,_⟩:=G.list g;have M:l<A.heap.objs.size:=by obtain⟨o,e,_⟩:=L.isList;exact Qr e
  refine call_enumerate_list L.isList λm N n i w=>?_;refine wpAny_pyIter_enum (s:={A with heap:=m }) N ?_;refine⟨_,_,_,_,H1,rfl,G.kept (t':=A.toks) w,JJ 0 (A.heap.objs.size+1) A.heap.objs.size l (Nat.succ_ne_self _) (QN (WK M)) (QN M),⟨⟨_,N⟩,n⟩,λb O=>?_,q⟩;have E:A.heap.objs.size<=b:=by
   simp only[Qn,Wn,or_false]at O;rcases O with rfl|rfl
   .exact WM _ _
   .exact Qh _
  exact G.fpOk E (G.hok.fresh E)
end
end L2
namespace L2
open PySem PySem.Spec PyProof.Rows
open AutoSeq1 (wpAny_loadPart')
end L2
namespace L2
open PySem PySem.Spec PyProof.Rows
section
variable{prog:My}{w:Mz}{A:MG}{E:O2}{s:Shared}{it d:Addr}{i n:Nat}{od:Obj}{es:Array DictEntry}
def Cs {R:P6->Shared->Prop}{G:H->Shared->Prop}(quiet:A.handled=none)(go:s.heap.get? it=some o)(I:o.data=.fields fs)(J:k<fs.size)(B:∀h',Heap.ExtBut it s.heap h'->R none {s with heap:=h' }):
  MK (ML prog w) A.in1 (do setField (.ref it) k .none;let e <-newExc (.type "StopIteration") [];raiseNew e:Sem H) G
   (λe L=>MK (ML prog w) A (do let b <-isInstance e (.type "StopIteration");if b=true then pure none else throw e) R E L) s:=by
 apply MX;apply wpAny_setField go I J;apply MX;simp only[newExc,newTuple];refine MX (ND (MX (m:=firstArgMember _ _) (wpAny_of_eq (a:=Value.none) (by first|rfl|(simp only[firstArgMember];rfl)) (ND ?_ (by size_fits)))) (by size_fits));simp only[raiseNew];apply MX;apply wpAny_handled;rw[show A.in1.handled=none from quiet];apply wpAny_throw;apply MX;refine wpAny_isInstance (T:="StopIteration") (b:=true) ⟨_,QK _ rfl,rfl⟩ isSubtype_stop ?_;exact M9 (B _ (((WE.update ..).extBut.push _).push _))
def Cr (B:(d==MD)=false)(g:s.heap.get? d=some od)(ex:od.ExactDict)(G:od.data=.dict es n)(sz:es.size=n)(H:R (.ref s.heap.objs.size) {s with heap:=s.heap.push {cls:=.type "dict_keyiterator",data:=.fields #[.ref d,.int 0 0,.int n 0,.int n 0]} }):MK (ML prog w) A (pyIter (.ref d)) R E s:=by
 have I:s.TypeIs (.ref d) "dict":=⟨od,g,ex.1⟩;apply wpAny_pyIter_slot I F.slot_dict_iter;refine NB F.slot_dict_iter I F.entry_dict_iter ?_ (F.args_dict_iter_1 _);unfold Builtin.«dict.__iter__» Builtin.Dict.dictSlotNone;apply MX;apply MX;apply NV I;apply M9 (a:=Value.ref d);apply MX (m:=Builtin.Dict.showsAll d);unfold Builtin.Dict.showsAll;rw[B];apply M9;apply MX;apply N0 g G;apply MX;apply N1 g G;apply MX;refine ND (M9 ⟨_,rfl,"dict_keyiterator",_,⟨_,QK _ rfl,rfl⟩,F.slot_dict_keyiterator_next.lookup,?_⟩);rw[sz];exact H
def Cq (B:s.heap.IsKeyIter it d i n n)(g:s.heap.get? d=some od)(G:od.data=.dict es n)(sz:es.size=n)(O:i<n)(H:∀h',h'.IsKeyIter it d (i+1) n n->WE it s.heap h'->R (some (es[i]'(by lia)).key) {s with heap:=h' }):MK (ML prog w) A (M7 (.ref it)) R E s:=by
 obtain⟨o,go,N,J⟩:=id B;have I:=B.typeIs;unfold M7;apply MX;apply N8;apply NA I F.slot_dict_keyiterator_next;refine NB F.slot_dict_keyiterator_next I F.entry_dict_keyiterator_next ?_ (F.args_dict_keyiterator_next_1 _);refine MX (M9 (MX (MX (MX (Ov I (M9 ?_))))));refine MX (wpAny_fieldsOf go J ?_);have no:Builtin.Dict_items.ownsTuple "dict_keyiterator"=false:=by decide
 simp only[no,QG,if_false];change MK _ _ (ite ((Value.ref d==Value.none)=true) _ _) _ _ s;rw[show(Value.ref d==Value.none)=false from rfl,OC QU];refine MX (M9 (MX (N0 g G ?_)));rw[sz,OC (by simp)];refine MX (M9 (MX (N1 g G ?_)));rw[OC (by simp)];apply M9;have L:i<es.size:=by lia
 simp only[show ¬(i:Int)<0 from by lia,if_false,V0,Ug L];refine MX (MX (Ov I (M9 (MX (Ow I ?_)))));apply MX (m:=setField (.ref it) 1 (Na ((i:Int)+1)));apply wpAny_setField go J (by simp);have M:(s.heap.update it (Obj.mapFields (·.setIfInBounds 1 (Na ((i:Int)+1))))).IsKeyIter it d (i+1) n n:=by
  refine⟨_,VF _ go (Obj.isFreed_of_fields (Obj.data_mapFields J _)),by rw[Obj.cls_mapFields];exact N,?_⟩;rw[Obj.data_mapFields J];simp[Na]
 refine MX (MY (MX (Ow M.typeIs ?_)));exact M9 (M9 ⟨_,rfl,M9 (H _ M (WE.update ..))⟩)
def Cp (quiet:A.handled=none)(B:s.heap.IsKeyIter it d i n n)(g:s.heap.get? d=some od)(G:od.data=.dict es n)(sz:es.size=n)(L:n<=i)(H:∀h',Heap.ExtBut it s.heap h'->R none {s with heap:=h' }):MK (ML prog w) A (M7 (.ref it)) R E s:=by
 obtain⟨o,go,M,J⟩:=id B;have I:=B.typeIs;unfold M7;apply MX;apply N8;apply NA I F.slot_dict_keyiterator_next;refine NB F.slot_dict_keyiterator_next I F.entry_dict_keyiterator_next ?_ (F.args_dict_keyiterator_next_1 _);refine MX (M9 (MX (MX (MX (Ov I (M9 ?_))))));refine MX (wpAny_fieldsOf go J ?_);have no:Builtin.Dict_items.ownsTuple "dict_keyiterator"=false:=by decide
 simp only[no,QG,if_false];change MK _ _ (ite ((Value.ref d==Value.none)=true) _ _) _ _ s;rw[show(Value.ref d==Value.none)=false from rfl,OC QU];refine MX (M9 (MX (N0 g G ?_)));rw[sz,OC (by simp)];refine MX (M9 (MX (N1 g G ?_)));rw[OC (by simp)];apply M9;simp only[show ¬(i:Int)<0 from by lia,if_false,V0,Array.getElem?_eq_none (show es.size<=i by lia)];refine MX (MX (Ov I (M9 ?_)));exact Cs quiet go J (by rw[no];exact Nat.zero_lt_succ 3) H
end
section
variable{X:Cx}{pins:O6}{σ:St}{H:Hp}{s:Shared}
def wJ (I:Inv X pins σ H s)(h:x5 X.K H d xs):(d==MD)=false/\∃o A,s.heap.get? d=some o/\o.ExactDict/\o.data=.dict A xs.length/\A.size=xs.length/\∀(i:Nat) (x:TK),xs[i]?=some x->A[i]?=some (iG x):=by
 obtain⟨⟨E,o,A,G,J,L,B,N⟩,_,_⟩:=I.hok d _ h.1;refine⟨E,o,A,G,J,L,by rw[<-QY,B,Qi],λi x M=>?_⟩;rw[<-QL,B,Qq,M];rfl
noncomputable def B8(K:Qb)(d:Addr)(n:Nat):It:=
 ⟨λi H=>∃A,x5 K H d A/\A.length=n/\i<n,λi H x B=>B=H/\∀A,x5 K H d A->∃k,A[i]?=some k/\x=.ref k.2.1,λi H=>∃A,x5 K H d A/\A.length=n/\n<=i⟩
def J1 {K:Qb}(it:Addr):dh P w K tg (B8 K d n) [it] it (λi h=>h.IsKeyIter it d i n n) where
 mem:=by simp
 obj:=λi h st b J=>by
  have e:b=it:=by simpa using J
  subst e;refine aP λN zk=>?_;obtain⟨o,e,c,d⟩:=st;refine zk ?_;exact⟨o,e,λv z=>by rw[d]at z;cases z⟩
 keep:=λi h O st k=>by
  obtain⟨o,e,r⟩:=st;exact⟨o,k it (by simp) o e,r⟩
 item:=by
  intro X Y j q m i pins s σ H E I Q st u;subst Y j q;refine aP λN zj=>?_;obtain⟨U,p,l,f⟩:=u;obtain⟨_,od,a,g,ex,A,sz,B⟩:=wJ I p;obtain⟨f0,f1,f2,f3,f4,f5⟩:=Q it (by simp);refine zj ?_;have hx:i<U.length:=by lia
  have t:=B i _ (Qj hx);subst l;refine Cq st g A sz f λO M sb=>?_;have I1:Inv X pins σ H {s with heap:=O }:=I.turned (t':=s.toks) (λb o J e=>(sb.2 b J).trans e) f0 f1 f3 f4 f5;refine aP λN zi=>?_;obtain⟨o,e,c,dd⟩:=id M;refine zi ?_;have hk:(a[i]'(by lia)).key=.ref U[i].2.1:=by
   rw[Ug (by lia)]at t;rw[Option.some.inj t];rfl
  rw[hk];refine⟨_,rfl,iF (s:={s with heap:=O }) e c dd (by decide) ⟨.ref U[i].2.1,H,I1,rfl,⟨rfl,λy ty=>?_⟩,M,λb J=>(Q b J).1⟩⟩;refine aP λN zh=>?_;obtain⟨_,od',es',x,_,G,sz',L⟩:=wJ I ty;refine zh ?_;rw[g]at x;cases x;rw[A]at G;injection G with d1 d2
  subst d1;have hy:i<y.length:=by lia
  have e3:=L i _ (Qj hy);rw[t]at e3;refine⟨y[i],Qj hy,?_⟩;have e4:=OE DictEntry.key (Option.some.inj e3);exact OE V.ref (Value.ref.inj e4)
 done:=by
  intro X Y j q m i pins s σ H E I Q st u;subst Y j q;refine aP λN zg=>?_;obtain⟨U,p,l,f⟩:=u;obtain⟨_,od,a,g,ex,A,sz,B⟩:=wJ I p;obtain⟨f0,f1,f2,f3,f4,f5⟩:=Q it (by simp);refine zg ?_;subst l;exact Cp (I.ok.hd m) st g A sz f λO eb=>⟨rfl,I.turned (t':=s.toks) (λb o J e=>eb b o J e) f0 f1 f3 f4 f5⟩
 self:=λ_ _ _ _ _ st h=>Ou st h
noncomputable def A8(X:Cx)(B:TE):TI:=λσ H R=>B σ H λx H1=>∃d A,x=.ref d/\x5 X.K H1 d A/\R (B8 X.K d A.length) H1
def HW (hl:PE X l J):PI X Y l (A8 X J):=by
 intro pins s σ H R I h;refine aU (hl pins s σ H _ I h) λv B ⟨x,H1,E,L,M⟩=>?_;refine aP λj N=>?_;obtain⟨d,k,e,O,q⟩:=M;subst e;cases L;obtain⟨A,u,z,g,Q,G,sz,_⟩:=wJ E O;refine N ?_;refine Cr A g Q G sz ?_;refine⟨B.heap.objs.size,[B.heap.objs.size],_,_,H1,rfl,E.kept (t':=B.toks) λb o e=>Qk _ e,J1 _,⟨_,QK _ rfl,rfl,rfl⟩,λb U=>?_,q⟩;have e:b=B.heap.objs.size:=by simpa using U
 subst e;exact E.fpOk (Qh _) (E.hok.fresh (Qh _))
end
end L2
namespace Mini
open PySem PySem.Spec PyProof.Rows L2
section
variable{cl:O1}{K:Qb}
def aS.updD{as:S6}{m:Me}{H:Hp}{D:Addr}{ys:U8}{o:HO}(S:aS K as m H)(A:H D=some (.L ys))(I:D∉as):aS K as m (aL H D o):=by
 refine⟨S.len,S.nd,λl b B E J=>?_⟩;have q:=S.obj l b B E J;have G:b≠D:=by rintro rfl;exact I (Qv E)
 cases B with
 |L Q=>
  obtain⟨M,e,r⟩:=q;exact⟨M,by rw[zu G];exact e,r.kp (Kp.upd A)⟩
 |D N O=>exact bu.mono (ob:=.D N O) (Kp.upd A) (λ_ _ e=>e) (λo e=>by rw[zu G];exact e) q
def aS.join{as:S6}{m:Me}{H:Hp}{D:Addr}{ys:U8}{acc:U4}(S:aS K as m H)(G:H D=some (.L ys))(I:D∉as)(R:ab K as H acc ys):aS K (as++[D]) (m++[.L acc]) H:=by
 have g:∀(l:Nat) (a:Addr),as[l]?=some a->(as++[D])[l]?=some a:=λl a e=>by
  rw[Qf (Qa.mp e).1];exact e
 have kp:Kp K H H:=⟨λ_ _ h=>h,λ_ _ h=>h⟩;refine⟨by simp[S.len],?_,λl b o A B=>?_⟩
 .refine QW.mpr ⟨S.nd,by simp,λx J y M=>?_⟩;rw[Ql.mp M];rintro rfl;exact I J
 .by_cases hl:l<as.length
  .rw[Qf hl]at A;rw[Qf (by rw[<-S.len];exact hl)]at B;have q:=S.obj l b o A B;cases o with
   |L Y=>
    obtain⟨N,e,r⟩:=q;exact⟨N,e,a8 kp g _ _ r⟩
   |D O Q=>exact bu.mono (ob:=.D O Q) kp g (λo e=>e) q
  .rw[Qe (by lia)]at A;rw[Qe (by rw[<-S.len];lia)]at B;have E:l-as.length=0:=by
    cases U:l-as.length with
    |zero=>rfl
    |succ k=>rw[U]at A;simp at A
   rw[E]at A;rw[<-S.len,E]at B;simp at A B;subst A;subst B;exact⟨ys,G,a8 kp g _ _ R⟩
def Step.updD{as A:S6}{H B:Hp}{D:Addr}{o:HO}(T:Step as H A B)(E:H D=none):Step as H A (aL B D o):=
 ⟨T.pre,λb G h I=>by rw[zu (zF h E)];exact T.frame b G h I,T.fresh⟩
def Step.join{as A:S6}{H B:Hp}{D:Addr}(T:Step as H A B)(E:H D=none):Step as H (A++[D]) B:=by
 refine⟨?_,T.frame,λa G=>?_⟩
 .obtain ⟨t,rfl⟩:=T.pre;exact⟨t++[D],by simp⟩
 .rcases Qs.mp G with z|z
  .exact T.fresh a z
  .rw[Ql.mp z];exact .inr E
def xQ (S:aS K A m B)(T:Step as H A B)(E:H D=none)(G:B D=some (.L ys))(I:D∉A)(R:ab K A B acc ys)(h:ak K as H Q (alloc m acc)):Q (.ref D) B:=by
 unfold Mini.alloc at h;split at h
 .refine h (A++[D]) B (.ref D) (T.join E) (S.join G I R) (aw.mpr ⟨D,?_,rfl⟩);rw[<-S.len,Qe (Qh _)];simp
 .exact h.elim
structure cP(K:Qb)(as:S6)(H:Hp)(D:Addr)(env:En)(σ:St)(as':S6)(m':Me)(acc:U4)(ys:U8)(H':Hp):Prop where
 T:Step as H as' H'
 S:aS K as' m' H'
 hD:H' D=some (.L ys)
 n:D∉as'
 R:ab K as' H' acc ys
 G:az K as' H' env σ
def cP.go{as:S6}{H:Hp}{D:Addr}{env:En}{σ:St}{B A:S6}{m' m2:Me}{acc:U4}{ys:U8}{E H2:Hp}(M:cP K as H D env σ B m' acc ys E)(U:Step B E A H2)(G:aS K A m2 H2):cP K as H D env σ A m2 acc ys H2:=
 ⟨M.T.trans U,G,U.frame _ _ M.hD M.n,U.out M.hD M.n,M.R.mono M.S U,M.G.mono M.S U⟩
def cP.push{as:S6}{H:Hp}{D:Addr}{env:En}{σ:St}{A:S6}{m':Me}{acc:U4}{ys:U8}{B:Hp}{w:Wd}{v:V}(M:cP K as H D env σ A m' acc ys B)(E:H D=none)(R:ai K A B w v):
  cP K as H D env σ A m' (acc++[w]) (ys++[v]) (aL B D (.L (ys++[v]))):=by
 have kp:Kp K B (aL B D (.L (ys++[v]))):=Kp.upd M.hD;exact⟨M.T.updD E,M.S.updD M.hD M.n,zw,M.n,(M.R.append (.one R)).kp kp,M.G.kp kp⟩
set_option tactic.hygienic true in
def vD{elt cond:Ex}{tc:TT}(j:∀σ H Q,xN K (ae cl cond) σ H Q->tc σ H Q){A E:S6}{H1 U:Hp}{D:Addr}{env ex:En}{σ sx:St}{m':Me}{acc:U4}{ys:U8}{Q:VK}{next:U4->Me->Rz}{N:U8->Hp->Prop}
  (n:H1 D=none) (M:cP K A H1 D env σ E m' acc ys U) (G:az K E U (env++ex) (σ++sx))
  (h:ak K A H1 Q ((ae cl cond (env++ex) m').bind λb m1=>match b with
     |.bl true=>(ae cl elt (env++ex) m1).bind λy m2=>if acc.length<ao then next (acc++[y]) m2 else .no
     |.bl false=>next acc m1
     |_=>.no))
  (c:∀B m2 J O H2,Kp K U H2->(∀(l:Nat) (a:Addr),E[l]?=some a->B[l]?=some a)->cP K A H1 D env σ B m2 J O H2->ak K A H1 Q (next J m2)->N O H2) :
  tc (σ++sx) U λb H2=>if b=true then aK K (ae cl elt) (σ++sx) H2 λy H3=>H3 D=some (.L ys)/\ys.length<sizeLine/\N (ys++[y]) (aL H3 D (.L (ys++[y])))else N ys H2:=by
 refine j _ _ _ ⟨E,env++ex,m',M.S,G,eX h M.T λi m2 B H2 vb L u R2 z=>?_⟩;have o:=M.go L u;cases i with
 |bl k=>
  obtain rfl:=ah.mp R2;refine⟨k,rfl,?_⟩;cases k with
  |false=>exact fj (c B m2 acc ys H2 (M.S.kp L) (λ_ _ e=>L.get e) o z)
  |true=>
   refine fi ⟨B,env++ex,m2,u,G.mono M.S L,eX z o.T λg m3 p H3 f d w x P3=>?_⟩;have Y:=o.go d w;have I:ak K A H1 Q (if acc.length<ao then next (acc++[g]) m3 else .no):=P3;by_cases hl:acc.length<ao
   .rw[OB hl]at I;refine⟨Y.hD,by rw[<-Y.R.length];exact Qp hl yQ,c p m3 (acc++[g]) (ys++[f]) _ ?_ (λ_ _ e=>d.get (L.get e)) (Y.push n x) I⟩;have t:=M.S.kp L;have s:=u.kp d;have m:Kp K H3 (aL H3 D (.L (ys++[f]))):=Kp.upd Y.hD;exact⟨λa vs q=>m.t _ _ (s.t _ _ (t.t _ _ q)),λa vs q=>m.f _ _ (s.f _ _ (t.f _ _ q))⟩
   .rw[OC hl]at I;exact I.elim
 |_=>exact z.elim
def cP.start{as A:S6}{H H1:Hp}{D:Addr}{env:En}{σ:St}{m1:Me}(B:aS K A m1 H1)(G:az K A H1 env σ)(E:H1 D=none):cP K A H1 D env σ A m1 [] [] (aL H1 D (.L [])):=by
 have T:Step A H1 A (aL H1 D (.L [])):=Step.updD .refl E;exact⟨T,B.keep T λb _ o e=>by rw[zu (zF e E)];exact e,zw,B.new E,au.mpr rfl,G.mono B T⟩
noncomputable def nC(K:Qb)(as:S6)(H:Hp)(J:It)(g:Nat->Me->Option (Option (Wd×Wd))):Prop:=
 ∀(A:S6) (G:Me) (B:Hp),(∀(l:Nat) (a:Addr),as[l]?=some a->A[l]?=some a)->Step as H A B->aS K A G B->∀i,
  (g i G=some none->J.stop i B)/\∀x y,g i G=some (some (x,y))->J.go i B/\∀v E,J.yld i B v E->∃I L,Yp B v E I L/\ai K A B x I/\ai K A B y L
def gm {cond:Ex}{tc:TT}(Y:∀σ H Q,xN K (ae cl cond) σ H Q->tc σ H Q)(t:nC K A H1 J g)(s:aS K A m1 H1)(h:az K A H1 env σ)(P:ak K A H1 Q (ym (λu v m=>ae cl cond (env++[some u]++[some v]) m) (λu v m=>ae cl elt (env++[some u]++[some v]) m) g (ao+1) 0 [] m1)):
  ∀D,H1 D=none->∃W:Nat->Nat->U8->Hp->Prop,(∃m,W 0 m [] (aL H1 D (.L [])))/\∀i m ys H,W i m ys H ->
   (J.stop i H/\Q (.ref D) H)\/(J.go i H/\∀v G,J.yld i H v G->∃vs,iH K v G vs/\tc (σ++vs.map some) G λb H2=>if b=true then aK K (ae cl elt) (σ++vs.map some) H2 λy H3=>H3 D=some (.L ys)/\ys.length<sizeLine/\∃m',m'<m/\W (i+1) m' (ys++[y]) (aL H3 D (.L (ys++[y])))
    else ∃m',m'<m/\W (i+1) m' ys H2):=by
 intro D j;refine⟨λi n ys G=>∃B m' E,(∀(l:Nat) (a:Addr),A[l]?=some a->B[l]?=some a)/\cP K A H1 D env σ B m' E ys G /\
  ak K A H1 Q (ym (λu v m=>ae cl cond (env++[some u]++[some v]) m) (λu v m=>ae cl elt (env++[some u]++[some v]) m) g n i E m'),⟨ao+1,A,m1,[],λ_ _ e=>e,cP.start (as:=A) (H:=H1) s h j,P⟩,?_⟩
 intro i n ys G w;refine aP λz zk=>?_;obtain⟨B,m',E,hl,M,Pi⟩:=w;refine zk ?_;cases n with
 |zero=>exact Pi.elim
 |succ n=>
  unfold ym at Pi;obtain⟨q1,q2⟩:=t B m' G hl M.T M.S i;cases e:g i m' with
  |none=>rw[e]at Pi;exact Pi.elim
  |some o=>
   rw[e]at Pi;cases o with
   |none=>exact .inl ⟨q1 e,xQ M.S M.T j M.hD M.n M.R Pi⟩
   |some p=>
    refine aP λz zj=>?_;obtain⟨x,y⟩:=p;simp only[]at Pi;obtain⟨go,yl⟩:=q2 x y e;refine zj ?_;refine .inr ⟨go,λv k hy=>?_⟩;refine aP λz zi=>?_;obtain⟨I,L,⟨T,d,rfl,rfl⟩,Rx,Ry⟩:=yl v k hy;refine zi ?_;refine⟨[I,L],⟨T,rfl,bS.of zw,rfl⟩,?_⟩;have U:Step B G B (aL G T (.T [I,L])):=Step.updD .refl d;have S2:aS K B m' (aL G T (.T [I,L])):=M.S.keep U λb _ o e=>by rw[zu (zF e d)];exact e
    have c:=M.go U S2;have G2:az K B (aL G T (.T [I,L])) (env++[some x,some y]) (σ++[I,L].map some):=by
     have:=(c.G.push (Rx.mono M.S U)).push (Ry.mono M.S U);simpa using this
    refine vD Y (ex:=[some x,some y]) (next:=λE m=>ym (λu v m=>ae cl cond (env++[some u]++[some v]) m) (λu v m=>ae cl elt (env++[some u]++[some v]) m) g n (i+1) E m)
     (N:=λzs H2=>∃f,f<n+1/\∃B m' E,(∀(l:Nat) (a:Addr),A[l]?=some a->B[l]?=some a)/\cP K A H1 D env σ B m' E zs H2/\ak K A H1 Q (ym (λu v m=>ae cl cond (env++[some u]++[some v]) m) (λu v m=>ae cl elt (env++[some u]++[some v]) m) g f (i+1) E m')) j c G2 (by rw[show env++[some x]++[some y]=env++[some x,some y]from by simp]at Pi;exact Pi) ?_
    intro q m2 O ys' H2 kp gg M3 P3;exact⟨n,Wy _,q,m2,O,λl a e=>gg _ _ (hl l a e),M3,P3⟩
def um (G:as[I]?=some l)(T:Step as H A E)(J:aS K A m' E)(e:kY m' (.ref I)=some xs):∃vs,bg K E l vs/\ab K A E xs vs:=by
 obtain⟨O,L,B,M,N⟩:=yg J (zU e);rw[T.get G]at B;cases B;exact⟨L,bg.of M,N⟩
def sY (S:aS K as m H)(R:ai K as H w v)(e:kY m w=some xs):∃B l vs,w=.ref B/\v=.ref l/\as[B]?=some l/\bg K H l vs:=by
 cases w with
 |ref B=>
  obtain⟨l,E,rfl⟩:=aw.mp R;obtain⟨J,G,A,I,L⟩:=yg S (zU e);rw[E]at A;cases A;exact⟨B,l,G,rfl,rfl,E,bg.of I⟩
 |_=>cases e
def Kv (j:as[M]?=some l1)(k:as[N]?=some l2):nC K as H (pk K l1 l2) (zG .zip (.ref M) (.ref N)):=by
 intro u O a hl T S i;simp only[zG];cases o:kY O (.ref M)with
 |none=>exact⟨λz=>by simp at z,λx y z=>by simp at z⟩
 |some d=>
  cases c:kY O (.ref N)with
  |none=>exact⟨λz=>by simp at z,λx y z=>by simp at z⟩
  |some l=>
   obtain⟨G,I,Q⟩:=um j T S o;obtain⟨J,L,A⟩:=um k T S c;simp only;cases U:d[i]? with
   |none=>
    refine⟨λ_=>⟨G,J,I,L,.inl ?_⟩,λx y z=>by simp at z⟩;rw[<-Q.length];exact Q4.mp U
   |some x=>
    cases Y:l[i]? with
    |none=>
     refine⟨λ_=>⟨G,J,I,L,.inr ?_⟩,λx y z=>by simp at z⟩;rw[<-A.length];exact Q4.mp Y
    |some y=>
     refine⟨λz=>by simp at z,λw y2 z=>?_⟩;simp only[Option.some.injEq,Prod.mk.injEq]at z;obtain⟨rfl,rfl⟩:=z;obtain⟨g,B,f⟩:=Q.get U;obtain⟨e,E,t⟩:=A.get Y;refine⟨⟨G,J,g,e,I,L,B,E⟩,λv s m=>?_⟩;obtain⟨p,q,b,n,h⟩:=m;have:=n G I;rw[B]at this;cases this;have:=h J L;rw[E]at this;cases this;exact⟨_,_,b,f,t⟩
def KN (M:as[I]?=some a):nC K as H (pA K c a) (zG .enum (.ref I) (.int (c:Int))):=by
 intro N O d hl T S i;simp only[zG];cases Q:zD O I with
 |none=>exact⟨λz=>by simp at z,λx y z=>by simp at z⟩
 |some U=>
  obtain⟨l,E,A,G,J⟩:=yg S (zU Q);rw[hl _ _ M]at A;cases A;simp only;cases L:U[i]? with
  |none=>
   refine⟨λ_=>⟨E,bg.of G,?_⟩,λx y z=>by simp at z⟩;rw[<-J.length];exact Q4.mp L
  |some x=>
   refine⟨λz=>by simp at z,λg f z=>?_⟩;simp only[QR,Option.some.injEq,Prod.mk.injEq]at z;obtain⟨rfl,rfl⟩:=z;obtain⟨Y,B,j⟩:=J.get L;refine⟨⟨E,Y,bg.of G,B⟩,λv k q=>?_⟩;obtain⟨p,u,o⟩:=q;have:=o E (bg.of G);rw[B]at this;cases this;exact⟨_,_,u,aa.mpr (by congr 1;lia),j⟩
def dg:(Rz.ok w m).bind f=f w m:=rfl
def wK (h:g i m=none):ym c e g (k+1) i acc m=.no:=by
 unfold ym;rw[h]
set_option tactic.hygienic true in
def Ku (e:zG .zip w A i m=some o):∃xs ys,kY m w=some xs/\kY m A=some ys:=by
 simp only[zG]at e;cases B:kY m w with
 |none=>rw[B]at e;cases e
 |some xs=>
  cases E:kY m A with
  |none=>rw[B,E]at e;cases e
  |some ys=>exact⟨xs,ys,rfl,rfl⟩
set_option tactic.hygienic true in
def KM (e:zG .enum w E i m=some o):∃A xs,w=.ref A/\zD m A=some xs:=by
 unfold zG at e;split at e
 .next h=>cases h
 .next A s _=>
  split at e
  .next xs B=>exact⟨A,xs,rfl,B⟩
  .cases e
 .contradiction
 .contradiction
 .cases e
def gn {cond:Ex}(E:∀σ H Q,xN K (ae cl cond) σ H Q->tc σ H Q)(h:aK K (ae cl (.compP .zip elt a b cond)) σ H Q):
  jl (iH K) (pQ K (lh (aK K (ae cl a)) (lh (aK K (ae cl b)) mC))) tc (aK K (ae cl elt)) σ H Q:=by
 refine aP λY j=>?_;obtain⟨as,A,m,S,G,P⟩:=h;refine j ?_;have k:ak K as H Q ((ae cl a A m).bind λx m1=>(ae cl b A m1).bind λy m2=>
  ym (λu v m=>ae cl cond (A++[some u]++[some v]) m) (λu v m=>ae cl elt (A++[some u]++[some v]) m) (zG .zip x y) (ao+1) 0 [] m2):=P
 refine⟨as,A,m,S,G,eX k .refl λw m1 I H1 v B J q z=>?_⟩;refine⟨I,A,m1,J,G.mono S B,eX z B λL m2 p H2 v2 M N R2 d=>?_⟩;have P3:=ak.step d (B.trans M);have c:=(G.mono S B).mono J M;have look:∃O U,kY m2 w=some O/\kY m2 L=some U:=by
  cases e:zG .zip w L 0 m2 with
  |none=>rw[wK e]at P3;exact P3.elim
  |some o=>exact Ku e
 refine aP λY l=>?_;obtain⟨O,U,g,f⟩:=look;obtain⟨w1,t,s,rfl,rfl,n,i⟩:=sY N (q.mono J M) g;obtain⟨L,l2,vs,rfl,rfl,s2,q2⟩:=sY N R2 f;refine l ?_;exact⟨t,l2,s,vs,rfl,i,q2,gm E (Kv n s2) N c P3⟩
def Kt {c:Nat}(U:z=(c:Int)){cond:Ex}(I:∀σ H Q,xN K (ae cl cond) σ H Q->tc σ H Q)(h:aK K (ae cl (.compP .enum elt a (.lit (.int z)) cond)) σ H Q):
  jl (iH K) (si K c (lh (aK K (ae cl a)) mC)) tc (aK K (ae cl elt)) σ H Q:=by
 subst U;refine aP λY j=>?_;obtain⟨as,A,m,S,G,P⟩:=h;refine j ?_;have hl:∀m1,ae cl (.lit (.int (c:Int))) A m1=.ok (.int (c:Int)) m1:=λ_=>rfl;have k:ak K as H Q ((ae cl a A m).bind λx m1=>(ae cl (.lit (.int (c:Int))) A m1).bind λy m2=>
  ym (λu v m=>ae cl cond (A++[some u]++[some v]) m) (λu v m=>ae cl elt (A++[some u]++[some v]) m) (zG .enum x y) (ao+1) 0 [] m2):=P
 refine⟨as,A,m,S,G,eX k .refl λw m1 q H1 v L M p N=>?_⟩;rw[hl,dg]at N;have P3:=ak.step N L;have look:∃J O,w=.ref J/\zD m1 J=some O:=by
  cases e:zG .enum w (.int (c:Int)) 0 m1 with
  |none=>rw[wK e]at P3;exact P3.elim
  |some o=>exact KM e
 refine aP λY d=>?_;obtain⟨J,O,rfl,l⟩:=look;obtain⟨g,B,rfl⟩:=aw.mp p;obtain⟨s,f,E,t,b⟩:=yg M (zU l);refine d ?_;rw[B]at E;cases E;exact⟨g,f,rfl,bg.of t,gm I (KN B) M (G.mono S L) P3⟩
set_option tactic.hygienic true in
def gp (e:zG .prs w (.int c) i m=some o):∃l xs,w=.ref l/\zD m l=some xs/\((xs[i]?=none/\o=none)\/∃x y,xs[i]?=some (.T [x,y])/\o=some (x,y)):=by
 cases w with
 |ref l=>
  have A:(match zD m l with
   |some xs=>match xs[i]? with
    |none=>some none
    |some w=>(iC w).map some
   |none=>none)=some o:=e
  cases E:zD m l with
  |none=>rw[E]at A;cases A
  |some xs=>
   simp only[E]at A;refine⟨l,xs,rfl,E,?_⟩;cases G:xs[i]? with
   |none=>simp only[G]at A;cases A;exact .inl ⟨rfl,rfl⟩
   |some w=>
    simp only[G]at A;obtain⟨p,B,rfl⟩:=QF.mp A
    right
    unfold iC at B;split at B
    .next x y=>cases B;exact⟨x,y,rfl,rfl⟩
    .cases B
 |_=>cases e
def Ks {cond:Ex}(z:∀σ H Q,xN K (ae cl cond) σ H Q->tc σ H Q)(h:aK K (ae cl (.compP .prs elt a (.lit (.int 0)) cond)) σ H Q):
  jl (iH K) (h9 K (ae cl a)) tc (aK K (ae cl elt)) σ H Q:=by
 refine aP λj zk=>?_;obtain⟨as,A,m,S,G,P⟩:=h;refine zk ?_;refine⟨as,A,m,S,G,?_⟩;have hl:∀m1,ae cl (.lit (.int 0)) A m1=.ok (.int 0) m1:=λ_=>rfl;have k:ak K as H Q ((ae cl a A m).bind λx m1=>(ae cl (.lit (.int 0)) A m1).bind λy m2=>
  ym (λu v m=>ae cl cond (A++[some u]++[some v]) m) (λu v m=>ae cl elt (A++[some u]++[some v]) m) (zG .prs x y) (ao+1) 0 [] m2):=P
 clear P;cases hr:ae cl a A m with
 |no=>rw[hr]at k;exact k
 |ok w m1=>
  rw[hr,dg,hl,dg]at k;have p:=k;cases e0:zG .prs w (.int 0) 0 m1 with
  |none=>rw[wK e0]at p;exact p.elim
  |some o0=>
   refine aP λj zj=>?_;obtain⟨l,xs0,rfl,d,_⟩:=gp e0;refine zj ?_;refine⟨?_,λI H1 J T1 S1 hI D c=>?_⟩
   .show (zD m1 l).isSome=true;rw[d];rfl
   .obtain ⟨a,ha,rfl⟩:=hI;have f:=ak.step p T1;refine⟨λi n ys H'=>∃E L B,E[l]?=some a/\cP K I H1 D A σ E L B ys H' /\
     ak K I H1 Q (ym (λu v m=>ae cl cond (A++[some u]++[some v]) m) (λu v m=>ae cl elt (A++[some u]++[some v]) m) (zG .prs (.ref l) (.int 0)) n i B L),⟨ao+1,I,m1,[],ha,cP.start (as:=as) (H:=H) S1 (G.mono S T1) c,f⟩,?_⟩
    intro i n ys H' zz;refine aP λj zi=>?_;obtain⟨E,L,B,hl,M,Pi⟩:=zz;refine zi ?_;cases n with
    |zero=>exact Pi.elim
    |succ n=>
     cases e:zG .prs (.ref l) (.int 0) i L with
     |none=>rw[wK e]at Pi;exact Pi.elim
     |some o=>
      unfold ym at Pi;rw[e]at Pi;refine aP λj zh=>?_;obtain⟨l',xs,s,e1,hc⟩:=gp e;cases s;obtain⟨a',q,O,b,RL⟩:=yg M.S (zU e1);refine zh ?_;rw[hl]at O;cases O;rcases hc with⟨ex,rfl⟩|⟨x,y,ex,rfl⟩
      .have hle:q.length<=i:=by rw[<-RL.length];exact Q4.mp ex
       exact .inl ⟨⟨q,bg.of b,hle⟩,xQ M.S M.T c M.hD M.n M.R Pi⟩
      .obtain ⟨v0,U,Rx⟩:=RL.get ex;refine .inr ⟨⟨q,v0,bg.of b,U⟩,λv H'' hy=>?_⟩;refine aP λj zg=>?_;obtain⟨rfl,hy⟩:=hy;have:=hy q (bg.of b);rw[U]at this;cases this;obtain⟨t,us,rfl,hq,R2⟩:=ag.mp Rx;obtain⟨x',y',rfl,Ra,Rb⟩:=DR R2;refine zg ?_;refine⟨[x',y'],⟨t,rfl,hq,rfl⟩,?_⟩;have G2:az K E H'' (A++[some x,some y]) (σ++[x',y'].map some):=by
        have:=(M.G.push Ra).push Rb;simpa using this
       refine vD z (ex:=[some x,some y]) (next:=λB m=>ym (λu v m=>ae cl cond (A++[some u]++[some v]) m) (λu v m=>ae cl elt (A++[some u]++[some v]) m) (zG .prs (.ref l) (.int 0)) n (i+1) B m)
        (N:=λzs H2=>∃n',n'<n+1/\∃E L B,E[l]?=some a/\cP K I H1 D A σ E L B zs H2/\ak K I H1 Q (ym (λu v m=>ae cl cond (A++[some u]++[some v]) m) (λu v m=>ae cl elt (A++[some u]++[some v]) m) (zG .prs (.ref l) (.int 0)) n' (i+1) B L)) c M G2 (by simp only[]at Pi;rw[show A++[some x]++[some y]=A++[some x,some y]from by simp]at Pi;exact Pi) ?_
       intro as2 m2 Y ys' H2 kp g M2 P2;exact⟨n,Wy _,as2,m2,Y,g _ _ hl,M2,P2⟩
def vE {cond:Ex}(htc:∀σ H Q,xN K (ae cl cond) σ H Q->tc σ H Q)(h:aK K (ae cl (.comp elt it cond)) σ H Q):
  jl lJ (h9 K (ae cl it)) tc (aK K (ae cl elt)) σ H Q:=by
 obtain⟨as,A,m,S,G,P⟩:=h;refine⟨as,A,m,S,G,?_⟩;have d:ak K as H Q ((ae cl it A m).bind λx m1=>match x with
  |.T I=>wv (λx m=>ae cl cond (A++[some x]) m) (λx m=>ae cl elt (A++[some x]) m) I [] m1
  |.rol I=>wv (λx m=>ae cl cond (A++[some x]) m) (λx m=>ae cl elt (A++[some x]) m) I [] m1
  |.ref l=>ww (λx m=>ae cl cond (A++[some x]) m) (λx m=>ae cl elt (A++[some x]) m) l (ao+1) 0 [] m1
  |_=>.no):=P
 clear P;cases hr:ae cl it A m with
 |no=>rw[hr]at d;exact d
 |ok w m1=>
  rw[hr]at d;have start:∀{B:S6}{H1:Hp}{D:Addr},Step as H B H1->aS K B m1 H1->H1 D=none->cP K B H1 D A σ B m1 [] [] (aL H1 D (.L [])):=λ{B H1 D} Y j u=>cP.start (as:=as) (H:=H) j (G.mono S Y) u
  -- over items that stay
  have f:∀(I:U4),ak K as H Q (wv (λx m=>ae cl cond (A++[some x]) m) (λx m=>ae cl elt (A++[some x]) m) I [] m1) ->
    ∀B H1 J,Step as H B H1->aS K B m1 H1->i7 K B H1 J I->∀D,H1 D=none->∃W:Nat->Nat->U8->Hp->Prop,(∃m,W 0 m [] (aL H1 D (.L [])))/\∀i m q H,W i m q H ->
     (J.stop i H/\Q (.ref D) H)\/(J.go i H/\∀v U,J.yld i H v U->∃z,lJ v U z/\tc (σ++z.map some) U λb H2=>if b=true then aK K (ae cl elt) (σ++z.map some) H2 λy H3=>H3 D=some (.L q)/\q.length<sizeLine/\∃O,O<m/\W (i+1) O (q++[y]) (aL H3 D (.L (q++[y])))
      else ∃O,O<m/\W (i+1) O q H2):=by
   intro I Pc B H1 J Y j hI D u;obtain⟨z,ok,hJ,ok1,RL,t⟩:=hI;have Pc1:=ak.step Pc Y;have hlen:=RL.length;refine⟨λi n q U=>∃L O E,i<=I.length/\n=I.length-i/\cP K B H1 D A σ L O E q U/\ok U/\ab K L U I z /\
    ak K B H1 Q (wv (λx m=>ae cl cond (A++[some x]) m) (λx m=>ae cl elt (A++[some x]) m) (I.drop i) E O),
    ⟨I.length,B,m1,[],Wi _,rfl,start Y j u,t _ _ (j.kp (start Y j u).T) ok1,RL.mono j (start Y j u).T,Pc1⟩,?_⟩
   intro i n q U zz;obtain⟨L,O,E,hi,rfl,M,c,RL',Pi⟩:=zz;by_cases o:i<I.length
   .refine .inr ⟨hJ.go i U c (by rw[<-hlen];exact o),λv H'' hy=>?_⟩;obtain⟨rfl,hv⟩:=hJ.yld i U v H'' c (by rw[<-hlen];exact o) hy;obtain⟨v',hv',Rx⟩:=RL'.get (i:=i) (x:=I[i]) (by simp[o]);rw[hv]at hv';cases hv';rw[QM o]at Pi;refine⟨[v],rfl,vD htc (sx:=[some v]) (next:=λE m=>wv (λx m=>ae cl cond (A++[some x]) m) (λx m=>ae cl elt (A++[some x]) m) (I.drop (i+1)) E m) (N:=λzs H2=>∃n',n'<I.length-i/\∃L O E,i+1<=I.length/\n'=I.length-(i+1)/\cP K B H1 D A σ L O E zs H2/\ok H2/\ab K L H2 I z/\ak K B H1 Q (wv (λx m=>ae cl cond (A++[some x]) m) (λx m=>ae cl elt (A++[some x]) m) (I.drop (i+1)) E O)) u M (M.G.push Rx) Pi ?_⟩;intro as2 m2 p ys' H2 kp g M2 P2;exact⟨I.length-(i+1),by lia,as2,m2,p,o,rfl,M2,t _ _ kp c,a8 kp g _ _ RL',P2⟩
   .have e:i=I.length:=by lia
    subst e;rw[W8]at Pi;exact .inl ⟨hJ.stop _ U c (by lia),xQ M.S M.T u M.hD M.n M.R Pi⟩
  cases w with
  |T I=>exact⟨rfl,λB H1 J Y j hI=>f I d B H1 J Y j hI⟩
  |rol I=>exact⟨rfl,λB H1 J Y j hI=>f I d B H1 J Y j hI⟩
  |ref l=>
   have P2:ak K as H Q (ww (λx m=>ae cl cond (A++[some x]) m) (λx m=>ae cl elt (A++[some x]) m) l (ao+1) 0 [] m1):=d;refine⟨?_,λB H1 J Y j hI D u=>?_⟩
   .show (zD m1 l).isSome=true;cases e:zD m1 l with
    |some I=>rfl
    |none=>
     unfold ww at P2;rw[e]at P2;exact P2.elim
   .obtain ⟨a,ha,rfl⟩:=hI;have Pc1:=ak.step P2 Y;refine⟨λi n q U=>∃L O E,L[l]?=some a/\cP K B H1 D A σ L O E q U /\
     ak K B H1 Q (ww (λx m=>ae cl cond (A++[some x]) m) (λx m=>ae cl elt (A++[some x]) m) l n i E O),⟨ao+1,B,m1,[],ha,start Y j u,Pc1⟩,?_⟩
    intro i n q U zz;obtain⟨L,O,E,hl,M,Pi⟩:=zz;cases n with
    |zero=>exact Pi.elim
    |succ n=>
     unfold ww at Pi;cases e:zD O l with
     |none=>rw[e]at Pi;exact Pi.elim
     |some I=>
      rw[e]at Pi;simp only[]at Pi;obtain⟨a',z,ha',eH,RL⟩:=yg M.S (zU e);rw[hl]at ha';cases ha';cases ex:I[i]? with
      |none=>
       rw[ex]at Pi;have hle:z.length<=i:=by rw[<-RL.length];exact Q4.mp ex
       exact .inl ⟨⟨z,bg.of eH,hle⟩,xQ M.S M.T u M.hD M.n M.R Pi⟩
      |some x=>
       rw[ex]at Pi;obtain⟨v0,hv0,Rx⟩:=RL.get ex;refine .inr ⟨⟨z,v0,bg.of eH,hv0⟩,λv H'' hy=>?_⟩;obtain⟨rfl,hy⟩:=hy;have:=hy z (bg.of eH);rw[hv0]at this;cases this;refine⟨[v0],rfl,vD htc (sx:=[some v0]) (next:=λE m=>ww (λx m=>ae cl cond (A++[some x]) m) (λx m=>ae cl elt (A++[some x]) m) l n (i+1) E m) (N:=λzs H2=>∃n',n'<n+1/\∃L O E,L[l]?=some a/\cP K B H1 D A σ L O E zs H2/\ak K B H1 Q (ww (λx m=>ae cl cond (A++[some x]) m) (λx m=>ae cl elt (A++[some x]) m) l n' (i+1) E O)) u M (M.G.push Rx) Pi ?_⟩;intro as2 m2 p ys' H2 kp g M2 P2;exact⟨n,Wy _,as2,m2,p,g _ _ hl,M2,P2⟩
  |N=>exact d.elim
  |bl k=>exact d.elim
  |int i=>exact d.elim
  |str s=>exact d.elim
end
section
variable{K:Qb}{as:S6}{H H':Hp}{m:Me}{Q:VK}
def AD (h:fS y=some k)(R:ai K as H y v):∃a,v=.ref a/\bS K H a (k.map V.int):=by
 cases y with
 |T A=>
  obtain⟨a,B,rfl,q,r⟩:=ag.mp R;rw[vB h r]at q;exact⟨a,rfl,q⟩
 |_=>cases h
theorem sX:∀{xs:List TK}{ws:U4}{vs:U8}{q:T6}{w:Wd},ab K as H ws vs->av vs (xs.map (·.2.2))->dH (xs.map (·.1)) ws q=some w->∃p v,NY xs q=some p/\RelV v p.2/\ai K as H w v
 |[],ws,vs,q,w,r,B,h=>by cases ws<;>cases h
 |x::xs,ws,vs,q,w,r,B,h=>by
  cases ws with
  |nil=>cases h
  |cons y ws=>
   obtain⟨v,E,rfl,G,I⟩:=am.mp r;cases B with
   |cons J L=>
    have A:(if x.1=q then some y else dH (xs.map (·.1)) ws q)=some w:=h;by_cases e:x.1=q
    .rw[OB e]at A;cases A;exact⟨x.2,v,by simp[NY,e],J,G⟩
    .rw[OC e]at A;obtain⟨p,M,N,O,U⟩:=sX I L A;exact⟨p,M,by simpa [NY,Ve,e]using N,O,U⟩
def GK (S:aS K as m H)(R:ai K as H x v)(R':ai K as H y u)(h:ak K as H Q (qC x y m)):sw K v u H Q:=by
 unfold qC at h;cases x with
 |ref l=>
  obtain⟨a,I,rfl⟩:=aw.mp R;dsimp only at h;cases e:m[l]? with
  |none=>rw[e]at h;exact h.elim
  |some o=>
   cases o with
   |L q=>rw[e]at h;exact h.elim
   |D d J=>
    rw[e]at h;dsimp only at h;obtain⟨c,G,g,A,M,rfl,r,N,nd⟩:=j5 S e;rw[I]at A;cases A;cases B:fS y with
    |none=>rw[B]at h;exact h.elim
    |some k=>
     rw[B]at h;obtain⟨b,rfl,O⟩:=AD B R';cases E:dH (G.map (·.1)) J k with
     |none=>simp only[VY,E]at h;exact h.elim
     |some w=>
      simp only[VY,E]at h;obtain⟨p,z,U,Y,j⟩:=sX r N E;exact⟨a,b,k,G,p,rfl,rfl,O,M,U,z,Y,h.ok S j⟩
 |_=>exact h.elim
def KJ:(storedH xs q a u).map (·.1)=wu (xs.map (·.1)) q:=by
 unfold storedH wu;by_cases h:q∈xs.map (·.1)
 .rw[OB (bV.mpr h),OB h,keys_map_putAt]
 .rw[OC (λz=>h (bV.mp z)),OC h,Wb];rfl
def KI (h:A.Nodup):(wu A q).Nodup:=by
 unfold wu;by_cases z:q∈A
 .rw[OB z];exact h
 .rw[OC z];refine QW.mpr ⟨h,by simp,λx B y E e=>?_⟩;rw[Ql.mp E]at e;exact z (e▸B)
theorem ul (E:ai K as H w v):∀{B:O7}{ws:U4}{vs:U8},ab K as H ws vs->ab K as H (yt B ws q w) (yt B vs q v)
 |[],ws,vs,r=>r.append (.one E)
 |k::B,ws,vs,r=>by
  cases ws with
  |nil=>obtain rfl:=au.mp r;exact ab.one E
  |cons x ws=>
   obtain⟨y,A,rfl,I,G⟩:=am.mp r;show ab K as H (if k=q then w::ws else x::yt B ws q w) (if k=q then v::A else y::yt B A q v);by_cases e:k=q
   .rw[OB e,OB e];exact am.mpr ⟨v,A,rfl,E,G⟩
   .rw[OC e,OC e];exact am.mpr ⟨y,_,rfl,I,ul E G⟩
theorem uk:∀{A:O7}{vs:U8},q∉A->A.length=vs.length->yt A vs q v=vs++[v]
 |[],vs,_,_=>rfl
 |k::A,[],_,h=>by cases h
 |k::A,x::vs,B,h=>by
  show(if k=q then v::vs else x::yt A vs q v)=_;rw[OC (λe=>B (by simp[e])),uk (λz=>B (by simp[z])) (by simpa using h)];rfl
theorem uj (B:RelV v u):∀{xs:List TK}{vs:U8},(xs.map (·.1)).Nodup->q∈xs.map (·.1)->av vs (xs.map (·.2.2))->av (yt (xs.map (·.1)) vs q v) ((xs.map (NU q u)).map (·.2.2))
 |[],vs,_,h,_=>by simp at h
 |x::xs,vs,nd,h,r=>by
  rw[QJ,QB]at nd;cases r with
  |@cons y _ A _ G E=>
   show av (if x.1=q then v::A else y::yt (xs.map (·.1)) A q v) ((NU q u x).2.2::(xs.map (NU q u)).map (·.2.2));by_cases e:x.1=q
   .rw[OB e,map_putAt_of_not_mem xs q u (e▸nd.1)];unfold NU;rw[OB e];exact .cons B E
   .rw[OC e];unfold NU;rw[OC e];exact .cons G (uj B nd.2 (by simpa [Ne.symm e]using h) E)
def KH (A:RelV v u)(nd:(xs.map (·.1)).Nodup)(r:av vs (xs.map (·.2.2))):av (yt (xs.map (·.1)) vs q v) ((storedH xs q a u).map (·.2.2)):=by
 unfold storedH;by_cases h:q∈xs.map (·.1)
 .rw[OB (bV.mpr h)];exact uj A nd h r
 .rw[OC (λz=>h (bV.mp z)),Wb];rw[uk h (by have:=r.length;simp at this ⊢;lia)];exact r.append (.cons A .nil)
def Kr {q:T6}:∀x∈storedH xs q a u,(∃y∈xs,y.1=x.1/\y.2.1=x.2.1)\/(x.1=q/\x.2.1=a):=λx A=>by
 unfold storedH at A;split at A
 .obtain ⟨y,B,rfl⟩:=QP.mp A;refine .inl ⟨y,B,?_⟩;unfold NU;split<;>exact⟨rfl,rfl⟩
 .rcases Qs.mp A with z|z
  .exact .inl ⟨x,z,rfl,rfl⟩
  .rw[Ql.mp z];exact .inr ⟨rfl,rfl⟩
def aS.setD (S:aS K as m H)(L:as[l]?=some a)(U:m[l]?=some (.D G ws))(O:x5 K H a xs)(Y:xs.map (·.1)=G)(r:ab K as H ws vs)(j:av vs (xs.map (·.2.2)))(nd:G.Nodup)(z:bS K H b (q.map V.int))(p:ai K as H w v)(d:RelV v u):
  Step as H as (aL H a (wT a (storedH xs q b u)))/\aS K as (m.set l (.D (wu G q) (yt G ws q w))) (aL H a (wT a (storedH xs q b u))):=by
 have M:a∈as:=Qv L;have T:Step as H as (aL H a (wT a (storedH xs q b u))):=⟨⟨[],by simp⟩,λc o h A=>by
  rw[zu (by rintro rfl;exact A M)];exact h,λc A=>.inl A⟩
 have kp:Kp K H (aL H a (wT a (storedH xs q b u))):=Kp.updL O.1 trivial;refine⟨T,⟨by simp[S.len],S.nd,λk c o I J=>?_⟩⟩;by_cases N:k=l
 .subst N;rw[L]at I;cases I;rw[Wj (Qa.mp U).1]at J;cases J;subst Y;refine⟨storedH xs q b u,yt (xs.map (·.1)) vs q v,⟨zw,λx g=>?_⟩,KJ,(ul p r).kp kp,KH d nd j,KI nd⟩;rcases Kr x g with⟨y,f,B,E⟩|⟨B,E⟩
  .rw[<-B,<-E];exact kp.t _ _ (O.2 y f)
  .rw[B,E];exact kp.t _ _ z
 .rw[QO (Ne.symm N)]at J;have t:=S.obj k c o I J;have A:c≠a:=by
   rintro rfl;obtain⟨s,B⟩:=Qa.mp I;obtain⟨n,E⟩:=Qa.mp L;exact N ((W7 S.nd).mp (B.trans E.symm))
  exact bu.mono kp (λ_ _ e=>e) (λo e=>by rw[zu A];exact e) t
def aS.updK(S:aS K as m H)(k:Kp K H H')(e:∀a∈as,∀o,H a=some o->H' a=some o):aS K as m H':=
 ⟨S.len,S.nd,λl b o A B=>bu.mono k (λ_ _ e=>e) (e b (Qv A)) (S.obj l b o A B)⟩
def aS.newD (S:aS K as m H)(E:H p=none):Step as H (as++[p]) (aL H p (wT p []))/\aS K (as++[p]) (m++[.D [] []]) (aL H p (wT p [])):=by
 have J:=S.new E;have T:Step as H (as++[p]) (aL H p (wT p [])):=⟨⟨[p],rfl⟩,λb o h _=>by rw[zu (zF h E)];exact h,λb L=>by
  rcases Qs.mp L with z|z
  .exact .inl z
  .exact .inr (by rw[Ql.mp z];exact E)⟩
 refine⟨T,⟨by simp[S.len],?_,λl b o A B=>?_⟩⟩
 .refine QW.mpr ⟨S.nd,by simp,λx G y M=>?_⟩;rw[Ql.mp M];rintro rfl;exact J G
 .by_cases hl:l<as.length
  .rw[Qf hl]at A;rw[Qf (by rw[<-S.len];exact hl)]at B;exact bu.mono (S.kp T) (λ_ _ e=>T.get e) (λo e=>by rw[zu (zF e E)];exact e) (S.obj l b o A B)
  .rw[Qe (by lia)]at A;rw[Qe (by rw[<-S.len];lia)]at B;have I:l-as.length=0:=by
    cases N:l-as.length with
    |zero=>rfl
    |succ k=>rw[N]at A;simp at A
   rw[I]at A;rw[<-S.len,I]at B;simp at A B;subst A;subst B;exact⟨[],[],⟨zw,λx G=>by simp at G⟩,rfl,au.mpr rfl,.nil,Q7⟩
end
section
variable{cl:O1}{X:Cx}{a b:Ex}{x y:Expr}{pos:Pos}
def HV:PE X (.Dict [] [] pos) (aK X.K (ae cl .dict0)):=by
 refine PE.imp JN λJ H Q h d A=>?_;obtain⟨as,B,m,S,G,P⟩:=h;obtain⟨T,E⟩:=S.newD A;have I:ak X.K as H Q (.ok (.ref m.length) (m++[.D [] []])):=P;refine I _ _ _ T E (aw.mpr ⟨d,?_,rfl⟩);rw[<-S.len,Qe (Qh _)];simp
def GJ(I:X.A.units+64<Nj)(J:PE X x (aK X.K (ae cl a)))(L:PE X y (aK X.K (ae cl b)))(M:xw y=true):PE X (.Subscript x y pos) (aK X.K (ae cl (.dget a b))):=by
 have N:qW y:=λo i=>by cases y<;>first|rfl|cases M
 refine PE.imp (lg (oM I) J L N) λp H Q h=>?_;obtain⟨as,A,m,S,G,P⟩:=h;refine⟨as,A,m,S,G,ak.bind P λx m1 B H1 v O E U Y=>?_⟩;refine⟨B,A,m1,E,G.mono S O,ak.bind Y λy m2 j H2 u k q R2 z=>?_⟩;exact GK q (U.mono E k) R2 z
end
section
variable{cl:O1}
def cZ {r:Rz}(h:r.bind f=.ok w m):∃x m1,r=.ok x m1/\f x m1=.ok w m:=by
 cases r with
 |ok x m1=>exact⟨x,m1,rfl,h⟩
 |no=>cases h
def GI (A:env[i]?=some (some w))(B:∀s,w≠.str s):ae cl (.cmp .eq (.V i) (.lit (.str k))) env m=.no:=by
 show((match env[i]? with|some (some w)=>Rz.ok w m|_=>.no).bind λx m1=>(Rz.ok (.str k) m1).bind λy m2=>dq .eq x y m2)=_;rw[A];cases w with
 |str s=>exact OD rfl (B s)
 |_=>rfl
def lq (h:ae cl c env m=.ok (.bl false) m1):ae cl (.ife c a b) env m=ae cl b env m1:=by
 show(ae cl c env m).bind _=_;rw[h];rfl
def lp (h:ae cl c env m=.ok (.bl true) m1):ae cl (.ife c a b) env m=ae cl a env m1:=by
 show(ae cl c env m).bind _=_;rw[h];rfl
def mU (h:ae cl c env m=.no):ae cl (.ife c a b) env m=.no:=by
 show(ae cl c env m).bind _=_;rw[h];rfl
def jo (A:env[i]?=some (some (.str s))):ae cl (.cmp .eq (.V i) (.lit (.str k))) env m=.ok (.bl (decide (s=k))) m:=by
 show((match env[i]? with|some (some w)=>Rz.ok w m|_=>.no).bind λx m1=>(Rz.ok (.str k) m1).bind λy m2=>dq .eq x y m2)=_;rw[A];rfl
def GH (h:ae cl (j0 i E I J L) env m=.ok w m'):m'=m/\(w=.N\/∃s j,env[i]?=some (some (.str s))/\w=.int j/\j3 s E I J L (0:Int) 1 2 3=some j):=by
 unfold j0 at h;cases e:env[i]? with
 |none=>
  have:ae cl (.cmp .eq (.V i) (.lit (.str E))) env m=.no:=by
   show((match env[i]? with|some (some w)=>Rz.ok w m|_=>.no).bind _)=_;rw[e];rfl
  rw[mU this]at h;cases h
 |some o=>
  cases o with
  |none=>
   have:ae cl (.cmp .eq (.V i) (.lit (.str E))) env m=.no:=by
    show((match env[i]? with|some (some w)=>Rz.ok w m|_=>.no).bind _)=_;rw[e];rfl
   rw[mU this]at h;cases h
  |some x=>
   by_cases M:∃s,x=.str s
   .obtain ⟨s,rfl⟩:=M;unfold j3;by_cases A:s=E
    .rw[lp (by rw[jo e,OF A])]at h;cases h;exact⟨rfl,.inr ⟨s,0,rfl,rfl,by rw[OB A]⟩⟩
    rw[lq (by rw[jo e,OA A])]at h;by_cases B:s=I
    .rw[lp (by rw[jo e,OF B])]at h;cases h;exact⟨rfl,.inr ⟨s,1,rfl,rfl,by rw[OC A,OB B]⟩⟩
    rw[lq (by rw[jo e,OA B])]at h;by_cases G:s=J
    .rw[lp (by rw[jo e,OF G])]at h;cases h;exact⟨rfl,.inr ⟨s,2,rfl,rfl,by rw[OC A,OC B,OB G]⟩⟩
    rw[lq (by rw[jo e,OA G])]at h;by_cases H:s=L
    .rw[lp (by rw[jo e,OF H])]at h;cases h;exact⟨rfl,.inr ⟨s,3,rfl,rfl,by rw[OC A,OC B,OC G,OB H]⟩⟩
    rw[lq (by rw[jo e,OA H])]at h;cases h;exact⟨rfl,.inl rfl⟩
   .rw[mU (GI e λs z=>M ⟨s,z⟩)]at h;cases h
set_option tactic.hygienic true in
def HU (h:ae cl (.i (ku a b c d) (j0 i J L M N)) env m=.ok w m'):
  ∃B m1 E m2 G m3 wd s,ae cl a env m=.ok B m1/\ae cl b env m1=.ok E m2/\ae cl c env m2=.ok G m3/\ae cl d env m3=.ok wd m'/\env[i]?=some (some (.str s))/\j3 s J L M N B E G wd=some w:=by
 refine aP λzP O=>?_;obtain⟨x,mx,Q,U⟩:=cZ (show(ae cl (ku a b c d) env m).bind (λx m1=>(ae cl (j0 i J L M N) env m1).bind λy m2=>jY x y m2)=_ from h);obtain⟨y,Y,k,A⟩:=cZ U;obtain⟨rfl,q⟩:=GH k;obtain⟨z,u,o,H⟩:=cZ (show(ae cl (.p a (.p b (.p c (.p d .u)))) env m).bind (λx m1=>if(zK x).length<=ao then Rz.ok (.T (zK x)) m1 else .no)=_ from Q);obtain⟨B,m1,p,l⟩:=cZ (show(ae cl a env m).bind (λx m1=>(ae cl (.p b (.p c (.p d .u))) env m1).bind λy m2=>Rz.ok (.T (x::zK y)) m2)=_ from o);obtain⟨yb,n1,g,f⟩:=cZ l;obtain⟨E,m2,t,n⟩:=cZ (show(ae cl b env m1).bind (λx m1=>(ae cl (.p c (.p d .u)) env m1).bind λy m2=>Rz.ok (.T (x::zK y)) m2)=_ from g);obtain⟨yc,n2,p4,q4⟩:=cZ n;obtain⟨G,m3,p5,q5⟩:=cZ (show(ae cl c env m2).bind (λx m1=>(ae cl (.p d .u) env m1).bind λy m2=>Rz.ok (.T (x::zK y)) m2)=_ from p4);obtain⟨yd,n3,p6,q6⟩:=cZ q5;obtain⟨wd,m4,I,q7⟩:=cZ (show(ae cl d env m3).bind (λx m1=>(Rz.ok (.T []) m1).bind λy m2=>Rz.ok (.T (x::zK y)) m2)=_ from p6);refine O ?_;cases q7;cases q6;cases q4;cases f
 replace H:(if([B,E,G,wd]:U4).length<=ao then Rz.ok (.T [B,E,G,wd]) u else .no)=.ok x Y:=H
 rw[OB (show([B,E,G,wd]:U4).length<=ao by show 4<=ao;decide)]at H;cases H;rcases q with rfl|⟨s,j,e,rfl,hj⟩
 .cases A
 .refine ⟨B,m1,E,m2,G,m3,wd,s,p,t,p5,?_,e,?_⟩
  .unfold j3 at hj;split at hj
   .cases hj;cases A;exact I
   .split at hj
    .cases hj;cases A;exact I
    .split at hj
     .cases hj;cases A;exact I
     .split at hj
      .cases hj;cases A;exact I
      .cases hj
  .unfold j3 at hj ⊢;split at hj
   .next z=>rw[OB z];cases hj;cases A;rfl
   .next z=>
    rw[OC z];split at hj
    .next z=>rw[OB z];cases hj;cases A;rfl
    .next z=>
     rw[OC z];split at hj
     .next z=>rw[OB z];cases hj;cases A;rfl
     .next z=>
      rw[OC z];split at hj
      .next z=>rw[OB z];cases hj;cases A;rfl
      .cases hj
end
section
def lw {s:Str}(h:s.cps.toList=k):s=⟨k.toArray⟩:=by subst h;simp
set_option tactic.hygienic true in
def HS {R:Wd->V->Prop}(h:j3 s A B E G j k u o=some w)(r1:R j H)(r2:R k I)(r3:R u J)(r4:R o L)(M:A≠B)(N:A≠E)(O:A≠G)(Q:B≠E)(U:B≠G)(Y:E≠G):
  ∃v,wI (vX [] [((Sum.inr ⟨A.toArray⟩:bT),H),(Sum.inr ⟨B.toArray⟩,I),(Sum.inr ⟨E.toArray⟩,J),(Sum.inr ⟨G.toArray⟩,L)]) (Sum.inr ⟨s.toArray⟩)=some v/\R w v:=by
 have inj:∀{p q:T9},p≠q->¬((Sum.inr ⟨p.toArray⟩:bT)=Sum.inr ⟨q.toArray⟩):=λh e=>by
  injection e with e;injection e with e
  exact h (by simpa using OE W2 e)
 have e:vX [] [((Sum.inr ⟨A.toArray⟩:bT),H),(Sum.inr ⟨B.toArray⟩,I),(Sum.inr ⟨E.toArray⟩,J),(Sum.inr ⟨G.toArray⟩,L)]=[((Sum.inr ⟨A.toArray⟩:bT),H),(Sum.inr ⟨B.toArray⟩,I),(Sum.inr ⟨E.toArray⟩,J),(Sum.inr ⟨G.toArray⟩,L)]:=by
  simp only[vX,Ue,eZ,List.any_nil,Vp,QS,QZ,OA (inj M),OA (inj N),OA (inj O),OA (inj Q),OA (inj U),OA (inj Y),Bool.or_self,QG,if_false]
 rw[e];unfold j3 at h;split at h
 .next z=>subst z;cases h;exact⟨H,wA rfl,r1⟩
 .next d=>
  rw[w5 (inj (Ne.symm d))];split at h
  .next z=>subst z;cases h;exact⟨I,wA rfl,r2⟩
  .next c=>
   rw[w5 (inj (Ne.symm c))];split at h
   .next z=>subst z;cases h;exact⟨J,wA rfl,r3⟩
   .next l=>
    rw[w5 (inj (Ne.symm l))];split at h
    .next z=>subst z;cases h;exact⟨L,wA rfl,r4⟩
    .cases h
end
section
variable{cl:O1}{X:Cx}
def Dw(x y:Int)(env:En)(m:Me):ae cl (dt x y) env m=.ok (.T [.int x,.int y]) m:=
 OB (e:=Rz.no) (c:=([Wd.int x,.int y]:U4).length<=ao) (show 2<=ao by decide)
def kE {K:Qb}(h:iY K b [.int x,.int y])(as:S6)(H:Hp):ai K as H (.T [.int x,.int y]) (.ref b):=
 ag.mpr ⟨b,[.int x,.int y],rfl,.inr h,am.mpr ⟨_,_,rfl,aa.mpr rfl,am.mpr ⟨_,_,rfl,aa.mpr rfl,au.mpr rfl⟩⟩⟩
def GG (B:N≠O)(E:N≠U)(I:N≠Y)(J:O≠U)(L:O≠Y)(M:U≠Y)(hd:PE X (.Name dn pd) (tC (.ref a)))(D:iy X.K X.w a [(N,t,b),(O,n,y),(U,x,y3),(Y,x4,y4)])(hv:PE X (.Name nm pn) (qd i)):
  PE X (.Subscript (.Name dn pd) (.Name nm pn) pos) (aK X.K (ae cl (.i (ku (dt t b) (dt n y) (dt x y3) (dt x4 y4)) (j0 i N O U Y)))):=by
 refine PE.imp (lg oN hd hv (λ_ _=>rfl)) λσ H Q h=>?_;obtain⟨as,u,m,S,G,P⟩:=h;cases z:ae cl (.i (ku (dt t b) (dt n y) (dt x y3) (dt x4 y4)) (j0 i N O U Y)) u m with
 |no=>rw[z]at P;exact P.elim
 |ok w m'=>
  rw[z]at P;obtain⟨wa,m1,wb,m2,wc,m3,wd,s,ea,eb,ec,ed,es,hp⟩:=HU z;rw[Dw]at ea eb ec ed;cases ea;cases eb;cases ec;cases ed;obtain⟨vs,p,rs⟩:=G.get i _ es;obtain rfl:=aN.mp rs;obtain⟨o,ep,d,hK,f,A⟩:=Cw (P:=X.prog) D (by simp[B,E,I,J,L,M])
  match d,f,A with
  |[],f,A=>cases(show _=_ from A)
  |u1::[],f,A=>obtain⟨_,_,_,_,k,e,rfl,q,A⟩:=A;cases e;cases(show _=_ from A)
  |u1::u2::[],f,A=>
   obtain⟨_,_,_,_,k,e,rfl,q,A⟩:=A;cases e;obtain⟨_,_,_,_,c,e,rfl,l,A⟩:=A;cases e;cases(show _=_ from A)
  |u1::u2::u3::[],f,A=>
   obtain⟨_,_,_,_,k,e,rfl,q,A⟩:=A;cases e;obtain⟨_,_,_,_,c,e,rfl,l,A⟩:=A;cases e;obtain⟨_,_,_,_,b3,e,rfl,t3,A⟩:=A;cases e;cases(show _=_ from A)
  |u1::u2::u3::u4::r,f,A=>
   obtain⟨_,_,_,_,k,e,rfl,q,A⟩:=A;cases e;obtain⟨_,_,_,_,c,e,rfl,l,A⟩:=A;cases e;obtain⟨_,_,_,_,b3,e,rfl,t3,A⟩:=A;cases e;obtain⟨_,_,_,_,b4,e,rfl,t4,A⟩:=A;cases e;cases r with
   |cons _ _=>obtain⟨_,_,_,_,_,e,_⟩:=A;cases e
   |nil=>
    obtain⟨v,j,g⟩:=HS (R:=ai X.K as H) hp (kE q as H) (kE l as H) (kE t3 as H) (kE t4 as H) B E I J L M;have nd:([((Sum.inr ⟨N.toArray⟩:bT),V.ref k),(Sum.inr ⟨O.toArray⟩,.ref c),(Sum.inr ⟨U.toArray⟩,.ref b3),(Sum.inr ⟨Y.toArray⟩,.ref b4)].map (·.1)).Nodup:=by simp[B,E,I,J,L,M]
    rw[qI nd (ps:=[]) (by simpa using nd),QS]at j;exact⟨.str ⟨s.toArray⟩,p,a,o,ep,_,Sum.inr ⟨s.toArray⟩,v,rfl,rfl,f,hK,j,P as H v Step.refl S g⟩
end
end Mini
namespace Mini
open PySem L2
def Ll (I:(a==MD)=false)(J:K.lookup a=some ⟨.type "dict",none,.dict #[⟨e1,.str ⟨⟨B⟩⟩ t1,.ref b1⟩,⟨e2,.str ⟨⟨E⟩⟩ t2,.ref b2⟩,⟨e3,.str ⟨⟨G⟩⟩ t3,.ref b3⟩,⟨e4,.str ⟨⟨H⟩⟩ t4,.ref b4⟩] ep,#[]⟩)(L:K.lookup b1=some ⟨.type "tuple",o1,.seq #[.int M r1,.int N z1] n1,l1⟩)(O:K.lookup b2=some ⟨.type "tuple",o2,.seq #[.int Q r2,.int U z2] n2,l2⟩)(Y:K.lookup b3=some ⟨.type "tuple",o3,.seq #[.int j r3,.int k z3] n3,l3⟩)(q:K.lookup b4=some ⟨.type "tuple",o4,.seq #[.int u r4,.int p z4] n4,l4⟩)(d:e1=MB w ⟨⟨B⟩⟩)(c:e2=MB w ⟨⟨E⟩⟩)(g:e3=MB w ⟨⟨G⟩⟩)(f:e4=MB w ⟨⟨H⟩⟩):iy K w a [(B,M,N),(E,Q,U),(G,j,k),(H,u,p)]:=by
 have A:∀{b:Addr}{o:R5}{l:Array P6}{x y:Int}{r z:Tok}{n:Nat},K.lookup b=some ⟨.type "tuple",o,.seq #[.int x r,.int y z] n,l⟩->iY K b [.int x,.int y]:=λh=>
  ⟨_,_,_,h,rfl,rfl,(show 2<=sizeLine by decide),.cons ⟨_,rfl⟩ (.cons ⟨_,rfl⟩ .nil)⟩
 exact⟨I,_,_,_,J,⟨rfl,rfl,rfl⟩,rfl,_,_,_,_,_,_,rfl,rfl,d,rfl,A L,_,_,_,_,_,_,rfl,rfl,c,rfl,A O,_,_,_,_,_,_,rfl,rfl,g,rfl,A Y,_,_,_,_,_,_,rfl,rfl,f,rfl,A q,rfl⟩
end Mini
namespace Mini
open PySem PySem.Spec PyProof.Rows L2
section
noncomputable def Mv(t u:Tg)(w:Wd)(m:Me):Rz:=(dN (fH t w m) m).bind λx m1=>match x with
 |.bl false=>dN (fH u w m1) m1
 |.bl true=>.ok (.bl true) m1
 |_=>.no
end
end Mini
namespace L2
open PySem PySem.Spec PyProof.Rows
end L2
namespace PySem
open Sem (wp)
open AutoSeq1 (wpAny_loadPart')
end PySem
namespace L2
open PySem PySem.Spec PyProof.Rows
end L2
namespace Mini
open PySem PySem.Spec PyProof.Rows L2
section
variable{K:Qb}{as:S6}{H:Hp}{m:Me}
def GF (S:aS K as m H)(E:m[l]?=some (.D G ws))(R:ai K as H (.ref l) v):∃a xs vs,v=.ref a/\as[l]?=some a/\x5 K H a xs/\xs.map (·.1)=G/\ab K as H ws vs/\av vs (xs.map (·.2.2)):=by
 refine aP λM I=>?_;obtain⟨a,B,rfl⟩:=aw.mp R;obtain⟨N,xs,vs,A,J,e,r,L,_⟩:=j5 S E;refine I ?_;rw[B]at A;cases A;exact⟨a,xs,vs,rfl,B,J,e,r,L⟩
end
end Mini
namespace L2
open PySem PySem.Spec PyProof.Rows
end L2
namespace Mini
open PySem PySem.Spec PyProof.Rows L2
end Mini
namespace L2
open PySem PySem.Spec PyProof.Rows
open PySem.W (KatTups KatLex KatGo kat_lt kat_cons kat_nil kat_go kat_yes kat_no kat_kind)
section
variable{prog:My}{w:Mz}{A:MG}{E:O2}{s:Shared}
noncomputable def pP(s:Shared)(vs:R6):Prop:=∃fs:R6,KatTups s.heap vs fs/\fs.length=vs.length/\∀v∈fs,∃i t,v=.int i t
def Dv (h:pP s vs)(H:2<=vs.length)(q:Q (tuples' true) s):MK (ML prog w) A (keyKind' vs.toArray) Q E s:=by
 obtain⟨fs,t,hl,B⟩:=h;refine kat_kind (T:=.type "int") t (by lia) (λv G=>?_) (by decide) (by
  have:(Value.type "int" != Value.type "tuple")=true:=by decide
  rw[this];exact q)
 obtain⟨i,k,rfl⟩:=B v G;exact .of_pure rfl
end
end L2
namespace L2
open PySem PySem.Spec PyProof.Rows
open PySem.SeqAt PySem.MeetsSeq PySem.MeetsSeq2 PySem.MeetsSeq3
open PySem.W (KatTups KatLex KatGo kat_lt kat_cons kat_nil kat_go kat_yes kat_no)
theorem sh:∀(B E:T6) (l1 l2:R6) (i:Nat),B.length=E.length->av (B.map V.int) l1->av (E.map V.int) l2->Q (HT.lexLt B E) s->KatLex prog w A true false Q (l1.zip l2) i s
 |[],[],_,_,_,_,.nil,.nil,q=>kat_nil q
 |[],_::_,_,_,_,h,_,_,_=>by cases h
 |_::_,[],_,_,_,h,_,_,_=>by cases h
 |a::B,b::E,_,_,i,h,.cons (l₂:=l1) ⟨t,G⟩ H,.cons (l₂:=l2) ⟨u,I⟩ J,q=>by
  subst G I;rw[HT.bp]at q;refine kat_cons (EqAt.int_int a t b u prog w _ _ ?_);by_cases e:a=b
  .rw[OB e]at q;rw[show(a==b)=true by simp[e]];exact kat_yes (sh B E l1 l2 (i+1) (Nat.succ.inj h) H J q)
  .rw[OC e]at q;rw[show(a==b)=false by simp[e]];refine kat_no ?_;cases i with
   |zero=>exact oneLt_int q
   |succ i=>
    rw[show(true&&i+1==0)=false by simp,oneLt'_eq];simp only[QG,if_false];exact MX (HT.cS A s a t b u prog w _ _ (MR q))
def il.T{A:MG}{s:Shared}{x y:Addr}{l1 l2:R6}{B G:T6}(N:s.heap.IsTuple x l1.toArray)(O:s.heap.IsTuple y l2.toArray)(J:av (B.map V.int) l1)(L:av (G.map V.int) l2)(hl:B.length=G.length):
  il (tuples' true) A s (.ref x) (.ref y) (HT.lexLt B G):=λM w E Q q=>by
 obtain⟨o,U,_,n,Y⟩:=N;obtain⟨u,H,_,z,I⟩:=O;have j:=J.length;have k:=L.length;rw[Qi]at j k;refine kat_lt U Y H I ?_;rw[show decide (l1.toArray.size<l2.toArray.size)=false by simp;lia];exact sh B G l1 l2 0 hl J L q
end L2
namespace L2
open PySem PySem.Spec PyProof.Rows
section
def HR (r:av ((a::l).map V.int) its):∃t A,its=.int a t::A:=by
 cases r with
 |cons p q=>obtain⟨t,rfl⟩:=p;exact⟨t,_,rfl⟩
theorem pO{s:Shared}:∀{bs:S6}{f:Addr->Value},(∀b∈bs,∃o xs n,s.heap.get? b=some o/\o.cls=.type "tuple" /\ o.data=.seq xs n/\xs[0]?=some (f b))->PySem.W.KatTups s.heap (bs.map Value.ref) (bs.map f)
 |[],_,_=>.nil
 |b::bs,f,h=>by
  obtain⟨o,xs,n,A,B,E,G⟩:=h b (by simp);exact .cons A B E G (pO λc H=>h c (by simp[H]))
end
end L2
namespace PySem
end PySem
namespace L2
open PySem PySem.Spec PyProof.Rows
end L2
namespace Mini
open PySem PySem.Spec PyProof.Rows L2
theorem u6 (f:A->B)(p:T6×A):∀l:List (T6×A),(jX p l).map (λq=>(q.1,f q.2))=jX (p.1,f p.2) (l.map λq=>(q.1,f q.2))
 |[]=>rfl
 |q::r=>by
  show(if dD p.1 q.1 then p::q::r else q::jX p r).map _=if dD p.1 q.1 then _ else _;split
  .rfl
  .rw[QJ,u6 f p r]
theorem AC (f:A->B):∀l:List (T6×A),(xM l).map (λq=>(q.1,f q.2))=xM (l.map λq=>(q.1,f q.2))
 |[]=>rfl
 |p::r=>by rw[QJ,vw,vw,u6,AC f r]
def HQ (hl:A.length=bs.length)(h:wX T6 (A.map (0::·)) A=some N):
  ∃ps:List (T6×Addr),ps.Perm (A.zip bs)/\ps.map Prod.fst=N.reverse/\(ps.Pairwise λx y=>HT.lexLt x.1 y.1=false)/\A.Nodup:=by
 rw[Ao]at h;have O:(xM (((A.map (0::·)).zip (A.zip bs)))).map (λq=>(q.1,q.2.1))=xM ((A.map (0::·)).zip A):=by
  rw[AC];congr 1;clear h
  induction A generalizing bs with
  |nil=>rfl
  |cons k A Q=>
   cases bs with
   |nil=>cases hl
   |cons b bs=>exact OE ((0::k,k)::·) (Q (Nat.succ.inj hl))
 rw[<-O]at h;have L:∀q∈xM ((A.map (0::·)).zip (A.zip bs)),q.1=0::q.2.1:=λq U=>by
  obtain⟨i,Y⟩:=QC ((k9 _).mem_iff.mp U);obtain⟨M,j⟩:=WI.mp Y;obtain⟨u,_⟩:=WI.mp j;rw[Qq,u]at M;exact(Option.some.inj M).symm
 have z:=k9 ((A.map (0::·)).zip (A.zip bs));generalize xM ((A.map (0::·)).zip (A.zip bs))=Z at *
 cases H:wt ((Z.map λq=>(q.1,q.2.1)).map Prod.fst)with
 |false=>rw[H,OC QU]at h;cases h
 |true=>
  rw[H,OB rfl]at h;cases h;have I:=(nR H).1;rw[Wr]at I;have o:((A.map (0::·)).zip (A.zip bs)).map Prod.snd=A.zip bs:=List.map_snd_zip (by simp;lia);have lt:∀{x y:T6×(T6×Addr)},x∈Z->y∈Z->HT.lexLt x.1 y.1=true->HT.lexLt x.2.1 y.2.1=true:=λ{x y} B E q=>by
   rw[L x B,L y E,HT.bp,OB rfl]at q;exact q
  have J:=z.map Prod.snd;rw[o]at J;refine⟨(Z.map Prod.snd).reverse,(VW _).trans J,?_,?_,?_⟩
  .rw[V2,QQ,QQ];rfl
  .rw[List.pairwise_reverse,Wr];refine I.imp_of_mem λ{x y} B E q=>?_;have G:=lt B E q;cases e:HT.lexLt y.2.1 x.2.1 with
   |false=>rfl
   |true=>have:=xK _ _ _ G e;rw[xl]at this;cases this
  .have nd:(Z.map λq=>q.2.1).Nodup:=by
    unfold List.Nodup;rw[Wr];refine I.imp_of_mem λ{x y} B E q e=>?_;have G:=lt B E q;rw[e,xl]at G;cases G
   have:=J.map Prod.fst;rw[QQ,List.map_fst_zip (by lia)]at this;exact this.nodup_iff.mp nd
end Mini
namespace L2
open PySem PySem.Spec PyProof.Rows
section
open PySem.SeqAt
open PySem.AutoSeq1 (wpAny_loadPart')
open PySem.MeetsSeq PySem.MeetsSeq2 PySem.MeetsSeq3
def Kq (l b:Addr)(E B:P7)(n n2:Nat)(dd U:R5)(sl Y:Array P6)(p:bz E G)(c:bz B H)(hk:G.length=H.length):
  Meets (Builtin.«tuple.__lt__» ⟨[.ref l,.ref b],[]⟩)
   (λA R s=>s.heap.get? l=some {cls:=.type "tuple",dict:=dd,data:=.seq E n,slots:=sl}/\s.heap.get? b=some {cls:=.type "tuple",dict:=U,data:=.seq B n2,slots:=Y} /\
    R (.ok (.ret (.bool (HT.lexLt G H)))) s):=
 .of_wp λI w A R s h=>by
  obtain⟨j,g,d,k,os⟩:=s;obtain⟨hl,hb,h⟩:=h;have f2:=AutoSeq1.sub_tuple_tuple;have e1:=p.1;have e2:=c.1;have hZ:(E.toList.zip B.toList).length=G.length:=by simp;lia
  wp_walk using Ox hl,Ox hb,NZ _ (λJ b q=>b.1=none/\q=⟨j,g,d,k,os⟩/\∃i,J=(E.toList.zip B.toList).drop i /\
   R (.ok (.ret (.bool (HT.lexLt (G.drop i) (H.drop i))))) ⟨j,g,d,k,os⟩) _
  case turn=>
   rintro⟨y,x⟩ J b q ⟨M,rfl,i,N,L⟩;have u:i<(E.toList.zip B.toList).length:=by
    rcases Nat.lt_or_ge i (E.toList.zip B.toList).length with h'|h'
    .exact h'
    .rw[Vx h']at N;cases N
   have f:i<G.length:=by lia
   have t:i<H.length:=by lia
   rw[QM u]at N;injection N with Q O
   have m:y=E[i]'(by lia):=by have:=OE Prod.fst Q;simpa using this
   have a:x=B[i]'(by lia):=by have:=OE Prod.snd Q;simpa using this
   obtain⟨t1,q1⟩:=p.2 i y (by rw[m];simp);obtain⟨t2,q2⟩:=c.2 i x (by rw[a];simp);clear m a;subst q1 q2;rw[QM f,QM t,HT.bp]at L;have v1:G.getD i 0=G[i]:=by simp[f]
   have v2:H.getD i 0=H[i]:=by simp[t]
   refine MX (EqAt.int_int (G.getD i 0) t1 (H.getD i 0) t2 I w _ _ ?_);by_cases e:G[i]=H[i]
   .rw[OB e]at L;rw[v1,v2,e,beq_self_eq_true]
    wp_walk
    exact⟨rfl,rfl,i+1,O,L⟩
   .rw[OC e]at L;rw[v1,v2,show(G[i]==H[i])=false by simpa using e];have z:=HT.cS A.in1 ⟨j,g,d,k,os⟩ G[i] t1 H[i] t2 I w
    wp_walk using z
    exact⟨_,rfl,L⟩
  case fin=>
   rintro⟨b1,b2⟩ q ⟨M,rfl,i,N,L⟩;simp only at M;subst M;have o:G.length<=i:=by
    rcases Nat.lt_or_ge i (E.toList.zip B.toList).length with h'|h'
    .rw[QM h']at N;cases N
    .lia
   rw[Vx o,Vx (by lia)]at L
   wp_walk
   refine⟨_,rfl,?_⟩;rw[show Builtin.Tuple.tupleCompareSizes .Lt E.size B.size=.bool false by simp[Builtin.Tuple.tupleCompareSizes];lia];exact L
  case h=>
   exact⟨rfl,rfl,0,rfl,by simpa using h⟩
def dI.T{A:MG}{s:Shared}{l b:Addr}{L M:P7}{B G:T6}(hl:s.heap.IsTuple l L)(z:s.heap.IsTuple b M)(o:bz L B)(p:bz M G)(d:B.length=G.length)(c:A.units<Nj):dI A s (.ref l) (.ref b) (HT.lexLt B G):=λU w E Q h=>by
 obtain⟨⟨g,f,Y,e⟩,j,k,n,q⟩:=id hl;obtain⟨⟨u,N,data2,O⟩,H,I,t,J⟩:=id z;simp only at k q I J;subst k q I J;exact richCompare_meets_room (op:=.Lt) ⟨_,j,rfl⟩ ⟨_,H,rfl⟩ PySem.F.slot_tuple_lt PySem.F.entry_tuple_lt (PySem.F.args_tuple_lt_2 _ _) (Kq l b L M n t f N e O o p d)
  ⟨j,H,show Value.bool (HT.lexLt B G)≠Value.notImplemented/\Q (.bool (HT.lexLt B G)) s from⟨(λx=>nomatch x),h⟩⟩ c
def Ej (hl:s.heap.IsTuple l I)(Q:s.heap.IsTuple b J)(L:bz I M)(N:bz J O)(U:M.length=O.length)(B:M≠O)(Y:A.units<Nj):EqAt A s (.ref l) (.ref b) false:=by
 have k:l≠b:=by
  rintro rfl;obtain⟨o,q,_,n,u⟩:=hl;obtain⟨g,E,_,f,G⟩:=Q;rw[q]at E;cases E;rw[u]at G;cases G;exact B (L.det N)
 have H:((QA (min I.size J.size)).all (λj=>decide (M.getD j 0=O.getD j 0))&&I.size==J.size)=false:=by
  rw[Bool.eq_false_iff];intro h;rw[QD,WF]at h;refine B (List.ext_getElem U λi z p=>?_);have:=OG (h.1 i (Ws.mpr (by rw[L.1,N.1];lia)));simpa [z,p]using this
 rw[<-H];exact EqAt.of_refs k (RcAt.tuples hl Q Y λj d c=>(bz.lt (A:=A) L N j _ _ (by simp[d]) (by simp[c])).1)
def HP (l b:Addr)(E B:P7)(n n2:Nat)(O J:R5)(Q L:Array P6)(U:E[0]?=some v)(Y:B[0]?=some u)(g':Bool):
  Meets (Builtin.«list.__eq__.loop» ⟨[.ref l,.ref b,Na 0,Na 0],[]⟩)
   (λA R s=>s.heap.get? l=some {cls:=.type "list",dict:=O,data:=.seq E n,slots:=Q}/\s.heap.get? b=some {cls:=.type "list",dict:=J,data:=.seq B n2,slots:=L}/\(EqAt A.in1 s v u false/\dI A.in1 s v u g') /\
    R (.ok (.ret (.bool g'))) s):=by
 intro G w A R s h;obtain⟨q,g,d,z,os⟩:=s;obtain⟨hl,N,⟨j,k⟩,h⟩:=h
 wp_walk using Ox hl,Ox N
 have H:E[(0:Int).toNat]?=some v:=U;have I:B[(0:Int).toNat]?=some u:=Y;rw[H,I];refine MX (j G w _ _ ?_)
 wp_walk using Ox hl,Ox N
 rw[H,I];have M:=k G w
 wp_walk using M
 exact h
def qi (l b:Addr)(E B:P7)(n n2:Nat)(J G:R5)(L H:Array P6)(N:E[0]?=some v)(O:B[0]?=some u)(g':Bool):
  Meets (Builtin.«list.__lt__» ⟨[.ref l,.ref b],[]⟩)
   (λA R s=>s.heap.get? l=some {cls:=.type "list",dict:=J,data:=.seq E n,slots:=L}/\s.heap.get? b=some {cls:=.type "list",dict:=G,data:=.seq B n2,slots:=H}/\(EqAt A.in1 s v u false/\dI A.in1 s v u g') /\
    R (.ok (.ret (.bool g'))) s):=by
 intro I w A R s h;obtain⟨Q,g,d,U,os⟩:=s;obtain⟨hl,M,h⟩:=h;have f3:=AutoSeq1.sub_list_list
 wp_walk using Ox hl,Ox M
 exact⟨plainId_quiet plain_eq_loop _,codeAny_builtin entry_eq_loop (by
  rw[Around.under_plainId plain_eq_loop _];exact HP l b E B n n2 J G L H N O g' I w A R _ ⟨hl,M,h⟩)⟩
def dz.first{A:MG}{s:Shared}{l b:Addr}{G B:P7}{v u:Value}{g:Bool}(hl:s.heap.IsList l G)(q:s.heap.IsList b B)(z:G[0]?=some v)(o:B[0]?=some u)(p:A.units<Nj)(d:EqAt A.in1 s v u false)(c:dI A.in1 s v u g):dz A s (.ref l) (.ref b) g:=λO w E Q h=>by
 obtain⟨⟨f,e,U,t⟩,J,Y,n,j⟩:=id hl;obtain⟨⟨k,L,data2,M⟩,N,H,m,I⟩:=id q;simp only at Y j H I;subst Y j H I;rw[oneLt'_eq];simp only[if_true];refine MX (wpAny_cRoomFor p ?_);refine MX (wpAny_callSpecialIfBound?_slot (T:="list") ⟨_,J,rfl⟩ PySem.F.slot_list_lt (NJ PySem.F.slot_list_lt ⟨_,J,rfl⟩ PySem.F.entry_list_lt (PySem.F.args_list_lt_2 _ _) (qi l b G B n m e L t M z o g) ⟨J,N,⟨d,c⟩,?_⟩));exact MR h
end
end L2
namespace L2
open PySem PySem.Spec PyProof.Rows
open PySem.W (KatTups KatLex KatGo kat_lt kat_cons kat_nil kat_go kat_yes kat_no kat_kind)
section
variable{prog:My}{w:Mz}{A:MG}{E:O2}{s:Shared}
noncomputable def oY(A:MG)(s:Shared)(vs out:R6):Prop:=∃B:Value->T6,(∀x∈vs,∀y∈vs,il (tuples' true) A s x y (HT.lexLt (B x) (B y)))/\(vs.map B).Nodup/\out.Perm vs/\out.Pairwise λx y=>HT.lexLt (B y) (B x)=false
noncomputable def dy(A:MG)(s:Shared)(vs out:R6):Prop:=(vs.length<2->out=vs)/\out.length=vs.length/\(2<=vs.length->∃G:Om,(∀(prog:My) (w:Mz) (E:O2) (Q:Om->Shared->Prop),Q G s->MK (ML prog w) A (keyKind' vs.toArray) Q E s) /\
 ∀(prog:My) (w:Mz) (E:O2) (Q:Unit->N2->Prop),(∀B:N2,(arrOf B).map (·.2)=out.toArray->Of B=none->Q () B)->wpS (ML prog w) A E s Og Q (SortSt.mk' G (vs.toArray.zip vs.toArray) #[] 7 none))
def dy.T{vs out:R6}(h:pP s vs)(I:oY A s vs out):dy A s vs out:=by
 obtain⟨G,J,L,H,M⟩:=I;exact⟨λB=>IY B H,H.length_eq,λB=>⟨tuples' true,λprog w E Q q=>Dv h B q,λprog w E Q q=>KO (key:=G) B J L H M q⟩⟩
def dy.run{vs:R6}(h:pS s vs)(G:∀i (h:i+1<vs.length),dz A s vs[i+1] vs[i] false):dy A s vs vs:=
 ⟨λ_=>rfl,rfl,λB=>⟨N3,λprog w E Q q=>DS h B q,λprog w E Q q=>KB B (.inl ⟨rfl,G⟩) q⟩⟩
def gs (L:s.heap.get? a=some (Oq "list" vs.toArray n))(j:vs.length<=sizeLine)(k:out.length<=sizeLine)(q:∀M:Shared,(∀b o,b≠a->s.heap.get? b=some o->M.heap.get? b=some o)->dy A M vs out)(h:P (.done (.ret .none)) {s with heap:=sortedHeap s.heap a vs out.toArray}):
  MK (ML prog w) A (Builtin.«list.sort» ⟨[.ref a],[]⟩) P E s:=by
 rw[list_sort_plain];have O:a<s.heap.objs.size:=Qr L;have N:vs.toArray.size<=sizeLine:=by simpa using j
 refine MX (listItems_at L rfl ?_);refine MX (Oy L rfl ?_ N (by simp));obtain⟨H,I⟩:∃H,(s.heap.update a (Obj.mapSeq λ_=>#[])).get? a=some (Oq "list" #[] H):=⟨_,Os L (λ_=>#[])⟩;refine MX (Oz I rfl ?_);refine MX (wpAny_newTuple ?_);refine MX (wpAny_newList ?_);refine MY ?_;have G:(((s.heap.update a (Obj.mapSeq λ_=>#[])).push (Oq "tuple" vs.toArray 0)).push (Oq "list" #[] 0)).get? a=some (Oq "list" #[] H):=by
  rw[Heap.get?_push_ne _ _ _ (by rw[size_push',Vt];exact QN (WK O)),Heap.get?_push_ne _ _ _ (by rw[Vt];exact QN O)];exact I
 have u:∀b o,b≠a->s.heap.get? b=some o->(((s.heap.update a (Obj.mapSeq λ_=>#[])).push (Oq "tuple" vs.toArray 0)).push (Oq "list" #[] 0)).get? b=some o:=by
  intro b o z e;refine Qk _ (Qk _ ?_);rw[WW _ _ _ _ z];exact e
 have Q:=q {s with heap:=((s.heap.update a (Obj.mapSeq λ_=>#[])).push (Oq "tuple" vs.toArray 0)).push (Oq "list" #[] 0)} u;show MK (ML prog w) A _ P E {s with heap:=((s.heap.update a (Obj.mapSeq λ_=>#[])).push (Oq "tuple" vs.toArray 0)).push (Oq "list" #[] 0)};dsimp only;have p:vs.toArray.size=vs.length:=by simp
 by_cases J:vs.toArray.size<2
 .rw[OB J,OB J];refine MX (M9 ?_);rw[StateT.run_pure];refine MX (M9 ?_);dsimp only;have U:(vs.toArray.zip vs.toArray).map (·.2)=out.toArray:=by
   have H:out=vs:=Q.1 (by simpa using J);rw[H];apply Ud;simpa using jD vs
  refine MX (Oz G rfl ?_);refine MX (Oy G rfl ?_ (by simp) (by show((vs.toArray.zip vs.toArray).map (·.2)).size<=_;rw[U];simp;lia));simp only[bne_self_eq_false,QG,if_false];rw[show(arrOf (SortSt.mk' general' (vs.toArray.zip vs.toArray) #[] 7 none)).map (·.2)=out.toArray from U];exact M9 h
 .rw[OC J,OC J];obtain⟨t,d,c⟩:=Q.2.2 (by lia);refine MX (d _ _ _ _ ?_);refine MX (MO (c _ _ _ (λ_ B=>(arrOf B).map (·.2)=out.toArray/\Of B=none) λB l g=>⟨l,g⟩) ?_ λ_ _ e=>e);rintro⟨⟨⟩,B⟩ M ⟨rfl,Y,f⟩;dsimp only;refine MX (Oz G rfl ?_);refine MX (Oy G rfl ?_ (by simp) (by show((arrOf B).map (·.2)).size<=_;rw[Y];simp;lia));rw[f];simp only[bne_self_eq_false,QG,if_false];rw[Y];exact M9 h
def jq (hl:s.heap.IsList l vs.toArray)(J:vs.length<=sizeLine)(I:out.length<=sizeLine)(L:∀H:Shared,(∀b o,s.heap.get? b=some o->H.heap.get? b=some o)->dy A.in1.in1 H vs out)(h:Q (.ref (s.heap.objs.size+1)) {s with heap:=Op s.heap vs out.toArray}):
  MK (ML prog w) A (call (.builtin "sorted") [.ref l]) Q E s:=by
 refine Calls.call_function_entry kind_sorted plain_sorted entry_sorted (args_sorted1 _) ?_;unfold Builtin.«sorted»;refine MX (m:=checkCount "sorted" 1 1 _) (M9 ?_);refine MX (collect_list hl ?_ J);refine MX (wpAny_newList ?_);have B:((s.heap.push (Oq "list" #[] 0)).update s.heap.objs.size (Obj.mapSeq (·++vs.toArray))).objs.size=s.heap.objs.size+1:=by
  rw[Vt,size_push']
 have G:(((s.heap.push (Oq "list" #[] 0)).update s.heap.objs.size (Obj.mapSeq (·++vs.toArray))).push (Oq "list" vs.toArray 0)).get? (s.heap.objs.size+1)=some (Oq "list" vs.toArray 0):=by
  rw[<-B];exact QK _ rfl
 have M:∀b o,s.heap.get? b=some o->(((s.heap.push (Oq "list" #[] 0)).update s.heap.objs.size (Obj.mapSeq (·++vs.toArray))).push (Oq "list" vs.toArray 0)).get? b=some o:=by
  intro b o e;refine Qk _ ?_;rw[WW _ _ _ _ (QN (Qr e))];exact Qk _ e
 show MK _ _ _ _ _ {s with heap:=((s.heap.push (Oq "list" #[] 0)).update s.heap.objs.size (Obj.mapSeq (·++vs.toArray))).push (Oq "list" vs.toArray 0)};rw[B];refine MX (MY (NB slot_list_sort ⟨_,G,rfl⟩ entry_list_sort (gs (out:=out) G J I (λH k=>L H λb o e=>k b o (QN (WK (Qr e))) (M b o e)) ⟨_,rfl,?_⟩) (args_list_sort _)));exact M9 ⟨_,rfl,h⟩
end
end L2
namespace L2
open PySem PySem.Spec PyProof.Rows
noncomputable def pN(K:Qb)(H:Hp)(bs E:S6):Prop:=∃(A:O7) (n:Nat),0<n/\A.length=bs.length/\(∀(i:Nat) b k,bs[i]?=some b->A[i]?=some k->k.length=n/\bS K H b (k.map V.int)) /\
 A.Nodup/\∃B:List (T6×Addr),B.Perm (A.zip bs)/\E=B.map Prod.snd/\B.Pairwise λx y=>HT.lexLt y.1 x.1=false
section
variable{X:Cx}
def JI (I:Inv X U σ H s)(hq:bg X.K H p (bs.map V.ref))(hr:pN X.K H bs cs)(q:∀l,H l=none->Q (.ref l) (aL H l (.L (cs.map V.ref)))):
  MK (ML X.prog X.w) X.A (call (.builtin "sorted") [.ref p]) (EP X U σ Q) X.xe s:=by
 refine aP λO zk=>?_;obtain⟨A,n,hn0,hl,hk,Y,u,L,rfl,z⟩:=hr;obtain⟨B,r',pl,hz⟩:=I.list hq;refine zk ?_;obtain rfl:=k8 r';rw[Qi]at hz;have M:bs.Nodup:=by
  unfold List.Nodup;rw[Wc];intro i j G hj hij e';have d:i<A.length:=by lia
  have c:j<A.length:=by lia
  refine aP λO zj=>?_;obtain⟨_,q1⟩:=hk i bs[i] A[i] (by simp[G]) (by simp[d]);obtain⟨_,q2⟩:=hk j bs[j] A[j] (by simp[hj]) (by simp[c]);refine zj ?_;rw[e']at q1;have:=I.tuple_inj q1 q2;have e:A[i]=A[j]:=(List.map_inj_right λa b h=>by cases h;rfl).mp this;exact Wc.mp Y i j d c hij e
 have f:(u.map Prod.snd).Perm bs:=by
  have:=L.map Prod.snd
  rwa[List.map_snd_zip (by lia)]at this
 have hso:(u.map Prod.snd).Pairwise λx y=>HT.lexLt ((A[bs.idxOf y]?).getD []) ((A[bs.idxOf x]?).getD [])=false:=by
  have hm:∀p∈u,(A[bs.idxOf p.2]?).getD []=p.1:=λp hp=>by
   refine aP λO zi=>?_;obtain⟨i,G⟩:=QC (L.mem_iff.mp hp);obtain⟨h1,h2⟩:=WI.mp G;obtain⟨h3,h4⟩:=Qa.mp h2;refine zi ?_;rw[<-h4,M.idxOf_getElem i h3,h1];rfl
  rw[Wr];refine z.imp_of_mem λ{a b} ha E h=>?_;rw[hm a ha,hm b E];exact h
 have w:(u.map Prod.snd).length=bs.length:=f.length_eq;clear z L;generalize u.map Prod.snd=cs at *
 have J:∀b∈bs,∃(i:Nat) (k:T6),bs[i]?=some b/\A[i]?=some k/\(A[bs.idxOf b]?).getD []=k/\k.length=n/\bS X.K H b (k.map V.int):=λb E=>by
  refine aP λO zh=>?_;obtain⟨i,G⟩:=QC E;obtain⟨h3,h4⟩:=Qa.mp G;have N:A[i]?=some (A[i]'(by lia)):=by simp
  obtain⟨g1,g2⟩:=hk i b _ G N;refine zh ?_;exact⟨i,_,G,N,by rw[<-h4,M.idxOf_getElem i h3,N];rfl,g1,g2⟩
 refine jq (out:=cs.map Value.ref) pl.isList (by simpa using hz) (by rw[Qi,w];exact hz) (λs' kp=>?_) ?_
 .have tp:∀b∈bs,∃B:R6,av (((A[bs.idxOf b]?).getD []).map V.int) B/\s'.heap.IsTuple b B.toArray:=λb E=>by
   refine aP λO zg=>?_;obtain⟨i,k,_,_,e,_,g⟩:=J b E;obtain⟨B,r,p,_⟩:=I.tuple g;obtain⟨o,ho,hc,m,hd⟩:=(show s.heap.IsTuple b B.toArray from p);refine zg ?_;exact⟨B,by rw[e];exact r,o,kp _ _ ho,hc,m,hd⟩
  have fst:∀b∈bs,∃t,∃o xs n,s'.heap.get? b=some o/\o.cls=.type "tuple" /\ o.data=.seq xs n/\xs[0]?=some (Value.int (((A[bs.idxOf b]?).getD []).getD 0 0) t):=λb E=>by
   refine aP λO zf=>?_;obtain⟨B,r,o,ho,hc,m,hd⟩:=tp b E;obtain⟨i,k,_,_,e,g1,_⟩:=J b E;refine zf ?_;rw[e]at r ⊢;cases k with
   |nil=>simp at g1;lia
   |cons a l=>
    obtain⟨t,us,rfl⟩:=HR r;exact⟨t,o,_,m,ho,hc,hd,by simp⟩
  classical
  refine dy.T ⟨bs.map λb=>if h:b∈bs then Value.int (((A[bs.idxOf b]?).getD []).getD 0 0) (Classical.choose (fst b h))else .none,pO λb E=>?_,by simp,λv hv=>?_⟩ ⟨λv=>match v with
   |.ref b=>(A[bs.idxOf b]?).getD []
   |_=>[],λx hx y hy=>?_,?_,f.map _,by rw[Wr];exact hso⟩
  .rw[dif_pos E];exact Classical.choose_spec (fst b E)
  .obtain ⟨b,E,rfl⟩:=QP.mp hv;exact⟨_,_,dif_pos E⟩
  .refine aP λO ze=>?_;obtain⟨b1,hb1,rfl⟩:=QP.mp hx;obtain⟨b0,hb0,rfl⟩:=QP.mp hy;obtain⟨i1,r1,p1⟩:=tp b1 hb1;obtain⟨i0,r0,p0⟩:=tp b0 hb0;obtain⟨_,_,_,_,e1,g1,_⟩:=J b1 hb1;obtain⟨_,_,_,_,e0,g0,_⟩:=J b0 hb0;refine ze ?_;exact il.T p1 p0 r1 r0 (show((A[bs.idxOf b1]?).getD []).length=((A[bs.idxOf b0]?).getD []).length by rw[e1,e0,g1,g0])
  .rw[QQ];have:bs.map (λb=>(A[bs.idxOf b]?).getD [])=A:=by
    apply WC;intro i;rw[Qq];by_cases G:i<bs.length
    .have E:bs[i]?=some bs[i]:=by simp[G]
     rw[E];show some ((A[bs.idxOf bs[i]]?).getD [])=_;rw[M.idxOf_getElem i G];simp[show i<A.length by lia]
    .rw[Qy (by lia),Qy (by lia)];rfl
   exact(show(bs.map λb=>(A[bs.idxOf b]?).getD []).Nodup by rw[this];exact Y)
 .exact ga I (by rw[w];exact hz) q
def JH:bQ X (.builtin "sorted") (λxs H Q=>∃(p:Addr) (bs A:S6),xs=[.ref p]/\bg X.K H p (bs.map V.ref)/\pN X.K H bs A/\∀l,H l=none->Q (.ref l) (aL H l (.L (A.map V.ref)))):=by
 intro B s L H xs M Q I r h;obtain⟨p,bs,A,rfl,E,G,q⟩:=h;obtain⟨u,rfl,J⟩:=jT r;cases J;exact JI I E G q
noncomputable def oZ(K:Qb)(H:Hp)(bs:S6):Prop:=∃A:O7,A.length=bs.length/\(∀(i:Nat) b k,bs[i]?=some b->A[i]?=some k->∃c E,bg K H b (.ref c::E)/\k.length=2/\bS K H c (k.map V.int))/\∀(i:Nat) k B,A[i]?=some k->A[i+1]?=some B->HT.lexLt k B=true
def JG(hu:X.A.units+64<Nj):bQ X (.builtin "sorted") (λxs H Q=>∃(p:Addr) (bs:S6),xs=[.ref p]/\bg X.K H p (bs.map V.ref)/\oZ X.K H bs/\∀l,H l=none->Q (.ref l) (aL H l (.L (bs.map V.ref)))):=by
 intro t s σ H xs us Q I r h;refine aP λO zk=>?_;obtain⟨p,bs,rfl,hq,⟨B,hl,hk,hr⟩,q⟩:=h;obtain⟨u,rfl,rx⟩:=jT r;cases rx;obtain⟨E,r',pl,N⟩:=I.list hq;refine zk ?_;obtain rfl:=k8 r';rw[Qi]at N;have J:∀(i:Nat) (L:i<bs.length) (G:Shared),(∀b o,s.heap.get? b=some o->G.heap.get? b=some o)->∃(E:P7) (c:Addr) (M:P7),G.heap.IsList bs[i] E/\E[0]?=some (.ref c)/\G.heap.IsTuple c M/\bz M (B[i]'(by lia))/\(B[i]'(by lia)).length=2:=λi L G kp=>by
  refine aP λO zj=>?_;obtain⟨c,vs,g1,g2,g3⟩:=hk i bs[i] (B[i]'(by lia)) (by simp[L]) (by simp[show i<B.length by lia]);obtain⟨E,r1,p1,_⟩:=I.list g1;obtain⟨M,m,p2,_⟩:=I.tuple g3;obtain⟨o,U,Y,n,hd⟩:=p1.isList;obtain⟨o2,k,d,n2,g⟩:=(show s.heap.IsTuple c M.toArray from p2);refine zj ?_;cases r1 with
  |@cons _ w _ ws e1 e2=>
   cases e1;refine⟨_,c,M.toArray,⟨o,kp _ _ U,Y,n,hd⟩,by simp,⟨o2,kp _ _ k,d,n2,g⟩,⟨?_,λj v f=>Gc m j v f⟩,g2⟩;have:=m.length;simpa using this.symm
 refine jq (out:=bs.map Value.ref) pl.isList (by simpa using N) (by simpa using N) (λG kp=>dy.run (λv f=>?_) λi L=>?_) (ga I N q)
 .refine aP λO zi=>?_;obtain⟨b,hb,rfl⟩:=QP.mp f;obtain⟨i,L,rfl⟩:=VN hb;obtain⟨_,_,_,⟨o,U,Y,_⟩,_⟩:=J i L G kp;refine zi ?_;exact⟨o,U,Y⟩
 .rw[Qi]at L;refine aP λO zh=>?_;obtain⟨j1,c1,t1,a1,a2,a,y,a5⟩:=J i (by lia) G kp;obtain⟨j2,c2,t2,b1,b2,x,b4,b5⟩:=J (i+1) L G kp;refine zh ?_;have lt:=hr i _ _ (show B[i]?=some (B[i]'(by lia)) by simp[show i<B.length by lia]) (show B[i+1]?=some (B[i+1]'(by lia)) by simp[show i+1<B.length by lia]);have ne:B[i+1]'(by lia)≠B[i]'(by lia):=λe=>by rw[e,xl]at lt;cases lt
  have gt:HT.lexLt (B[i+1]'(by lia)) (B[i]'(by lia))=false:=by
   cases z:HT.lexLt (B[i+1]'(by lia)) (B[i]'(by lia))with
   |false=>rfl
   |true=>have:=xK _ _ _ lt z;rw[xl]at this;cases this
  have un:X.A.in1.in1.units=X.A.units+2:=rfl;have:=dz.first (A:=X.A.in1.in1) b1 a1 b2 a2 (by lia) (Ej x a b4 y (by lia) ne (by show X.A.units+3<Nj;lia)) (dI.T x a b4 y (by lia) (by show X.A.units+3<Nj;lia));rw[gt]at this;simpa using this
end
end L2
namespace Mini
open PySem PySem.Spec PyProof.Rows L2
section
variable{cl:O1}{X:Cx}{K:Qb}{a:Ex}{x:Expr}{pos:Pos}{as:S6}{H:Hp}{m:Me}
set_option tactic.hygienic true in
theorem nQ:∀{ws:U4}{A:O7}{vs:U8},qg ws=some A->ab K as H ws vs->∃bs:S6,vs=bs.map V.ref/\A.length=bs.length/\∀(i:Nat) b k,bs[i]?=some b->A[i]?=some k->k.length=2/\bS K H b (k.map V.int)
 |[],A,vs,h,r=>by
  cases h;rw[au.mp r];exact⟨[],rfl,rfl,λi b k e=>by simp at e⟩
 |w::ws,A,vs,h,r=>by
  obtain⟨v,U,rfl,q,t⟩:=am.mp r;cases w with
  |T I=>
   unfold qg at h;cases B:wW I with
   |none=>simp only[B]at h;cases h
   |some k=>
    cases E:qg ws with
    |none=>simp only[B,E]at h;cases h
    |some J=>
     obtain⟨bs,rfl,hl,L⟩:=nQ E t;simp only[B,E]at h;split at h
     .next M N=>
      cases M;cases N;cases h;obtain⟨c,Y,rfl,O,Q⟩:=ag.mp q;have:=vB B Q;subst this;refine⟨c::bs,rfl,by simp[hl],λi b k e G=>?_⟩;cases i with
      |zero=>simp at e G;subst e;subst G;exact⟨rfl,O⟩
      |succ i=>exact L i b k (by simpa using e) (by simpa using G)
     .cases h
  |_=>cases h
set_option tactic.hygienic true in
theorem u5:∀{ws:U4}{A:O7}{vs:U8},aS K as m H->eJ m ws=some A->ab K as H ws vs->∃bs:S6,vs=bs.map V.ref/\A.length=bs.length/\∀(i:Nat) b k,bs[i]?=some b->A[i]?=some k->∃c Q,bg K H b (.ref c::Q)/\k.length=2/\bS K H c (k.map V.int)
 |[],A,vs,S,h,r=>by
  cases h;rw[au.mp r];exact⟨[],rfl,rfl,λi b k e=>by simp at e⟩
 |w::ws,A,vs,S,h,r=>by
  obtain⟨v,r',rfl,q,t⟩:=am.mp r;cases w with
  |ref l=>
   unfold eJ at h;cases G:zD m l with
   |none=>simp only[G]at h;cases h
   |some I=>
    simp only[G]at h;cases B:qg (I.take 1)with
    |none=>simp only[B]at h;cases h
    |some kk=>
     cases J:eJ m ws with
     |none=>simp only[B,J]at h;cases h
     |some u=>
      obtain⟨bs,rfl,hl,z⟩:=u5 S J t;simp only[B,J]at h;split at h
      .next k o d=>
       cases o;cases d;cases h;obtain⟨p,g,rfl⟩:=aw.mp q;obtain⟨p',Q,E,e,r⟩:=yg S (zU G);rw[g]at E;cases E;cases I with
       |nil=>cases B
       |cons f I=>
        obtain⟨U,L,rfl,s,t0⟩:=am.mp r;obtain⟨Y,j,_,M⟩:=nQ (ws:=[f]) (vs:=[U]) B (am.mpr ⟨U,[],rfl,s,au.mpr rfl⟩);obtain⟨c,rfl⟩:∃c,Y=[c]:=by
         match Y,j with
         |[c],_=>exact⟨c,rfl⟩
        cases j;obtain⟨n,y⟩:=M 0 c _ rfl rfl;refine⟨p::bs,rfl,by simp[hl],λi b k' N O=>?_⟩;cases i with
        |zero=>simp at N O;subst N;subst O;exact⟨c,L,bg.of e,n,y⟩
        |succ i=>exact z i b k' (by simpa using N) (by simpa using O)
      .cases h
  |_=>cases h
def Ei (hg:Gl X "sorted")(hm:X.mg "sorted"=none)(t:zI x=true)(ha:PE X x (aK X.K (ae cl a))):
  PE X (.Call (.Name "sorted" p) [x] [] pos) (aK X.K (ae cl (.dop .sot a .u .u))):=by
 refine PE.imp (wq JH hg hm PyProof.Rows.boot_sorted (yR ha wF (zy t)) (by decide +kernel) (by decide +kernel) (zy t) rfl) λσ H Q h=>?_;refine aP λs zk=>?_;obtain⟨as,u,m,S,G,P⟩:=h;refine zk ?_;refine⟨as,u,m,S,G,ak.bind P λw m1 J H1 v T1 b R1 i=>?_⟩;have y:ak X.K J H1 Q (fe .sot w (.T []) (.T []) m1):=i;have B:ak X.K J H1 Q (match iu w m1 with
  |some E=>match wX T6 (E.map (0::·)) E with
   |some Y=>alloc m1 (Y.map λk=>.T (k.map Wd.int))
   |none=>.no
  |none=>.no):=y
 clear P i y;cases j:iu w m1 with
 |none=>rw[j]at B;exact B.elim
 |some E=>
  rw[j]at B;simp only at B;cases o:wX T6 (E.map (0::·)) E with
  |none=>rw[o]at B;exact B.elim
  |some Y=>
   rw[o]at B;simp only at B;cases w with
   |ref l=>
    have d:(zD m1 l).bind qg=some E:=j;refine aP λs zj=>?_;obtain⟨xs,h1,h2⟩:=Qt.mp d;obtain⟨p,hp,rfl⟩:=aw.mp R1;obtain⟨p',us,M,e,r⟩:=yg b (zU h1);rw[hp]at M;cases M;obtain⟨bs,rfl,hl,hb⟩:=nQ h2 r;obtain⟨L,N,O,U,c⟩:=HQ hl o;have A:L.reverse.Perm (E.zip bs):=(VW _).trans N;have I:L.reverse.map Prod.fst=Y:=by rw[V2,O,List.reverse_reverse]
    have g:∀q∈L.reverse,bS X.K H1 q.2 (q.1.map V.int):=λq f=>by
     refine aP λs zi=>?_;obtain⟨n,hn⟩:=QC (A.mem_iff.mp f);obtain⟨z1,z2⟩:=WI.mp hn;refine zi ?_;exact(hb n _ _ z2 z1).2
    have rr:ab X.K J H1 (Y.map λk=>.T (k.map Wd.int)) ((L.reverse.map Prod.snd).map V.ref):=by
     rw[<-I];generalize L.reverse=zs at g;clear N O U A I
     induction zs with
     |nil=>exact au.mpr rfl
     |cons z zs ih=>exact am.mpr ⟨_,_,rfl,ag.mpr ⟨_,_,rfl,g z (by simp),ja z.1⟩,ih λq f=>g q (by simp[f])⟩
    obtain⟨_,h3⟩:=xO b rr B;refine zj ?_;exact⟨p,bs,L.reverse.map Prod.snd,rfl,bg.of e,⟨E,2,by lia,hl,hb,c,L.reverse,A,rfl,List.pairwise_reverse.mpr U⟩,h3⟩
   |_=>cases j
def Eh (z:X.A.units+64<Nj)(o:Gl X "sorted")(d:X.mg "sorted"=none)(j:zI x=true)(c:PE X x (aK X.K (ae cl a))):
  PE X (.Call (.Name "sorted" p) [x] [] pos) (aK X.K (ae cl (.dop .sor a .u .u))):=by
 refine PE.imp (wq (JG z) o d PyProof.Rows.boot_sorted (yR c wF (zy j)) (by decide +kernel) (by decide +kernel) (zy j) rfl) λσ H Q h=>?_;obtain⟨as,L,m,S,G,P⟩:=h;refine⟨as,L,m,S,G,ak.bind P λw m1 E H1 v T1 M g q=>?_⟩;have N:ak X.K E H1 Q (fe .sor w (.T []) (.T []) m1):=q;clear P q;cases w with
 |ref l=>
  have A:ak X.K E H1 Q (match zD m1 l with
   |some J=>match eJ m1 J with
    |some B=>if wt (B.map (0::·))then alloc m1 J else .no
    |none=>.no
   |none=>.no):=N
  clear N;cases O:zD m1 l with
  |none=>rw[O]at A;exact A.elim
  |some J=>
   rw[O]at A;simp only at A;cases U:eJ m1 J with
   |none=>rw[U]at A;exact A.elim
   |some B=>
    rw[U]at A;simp only at A;cases Y:wt (B.map (0::·))with
    |false=>rw[Y,OC QU]at A;exact A.elim
    |true=>
     rw[Y,OB rfl]at A;obtain⟨p,f,rfl⟩:=aw.mp g;obtain⟨p',us,I,e,r⟩:=yg M (zU O);rw[f]at I;cases I;obtain⟨bs,rfl,hl,t⟩:=u5 M U r;obtain⟨_,s⟩:=xO M r A;have u:=(nR (ps:=B.map λk=>(0::k,())) (by rw[QQ];exact Y)).1;rw[Wr]at u;refine⟨p,bs,rfl,bg.of e,⟨B,hl,t,λi k k' b n=>?_⟩,s⟩;obtain⟨y,rfl⟩:=Qa.mp b;obtain⟨g2,rfl⟩:=Qa.mp n;have:=Wc.mp u i (i+1) y g2 (by lia)
     replace this:HT.lexLt (0::B[i]) (0::B[i+1])=true:=this
     rw[HT.bp,OB rfl]at this;exact this
 |_=>exact N.elim
end
section
variable{cl:O1}
def b7.pe (h:b7 cl X e (.e x))(A:zA e=false):PE X x (aK X.K (ae cl e)):=(h.1 A).1
def b7.pt (h:b7 cl X e (.e x))(A:zA e=false)(B:jz e=false):PT X x (xN X.K (ae cl e)):=(h.1 A).2.1 B
def b7.pa (h:b7 cl X e (.a xs)):PA X xs (gh X.K (ae cl e)):=h
def gu (h:eY A x=true):ij A x:=by
 unfold eY at h;simp only[Vf,OH]at h;exact h
def x8 (h:dE A x=true):A.names.lookup x=some .globalImplicit:=OG h
def kF {K:Qb}(A:∀as H,ai K as H w v):∀σ H Q,aK K (ae cl (.lit w)) σ H Q->tC v σ H Q:=λσ H Q h=>by
 obtain⟨as,B,m,S,G,P⟩:=h;exact ak.ok (m:=m) P S (A as H)
def yV (A:yJ y=true):∀v,Nc y env v=pure v:=λv=>by
 cases y<;>first|rfl|cases A
structure aB(C:Ctx)(sc:Mw)(N:T8)(e:Ex)(n:Nd):Prop where
 h:∀(cl:Nat → U4 → Me → Rz) (d:Nat) (X:Cx),bY C X cl d → X.env.scope=sc → X.N=N → b7 cl X e n
def yu (h:aB C A N e n):∀X:Cx,bY C X cl d->X.env.scope=A->X.N=N->b7 cl X e n:=h.h cl d
def aB.«V»{C:Ctx}{I:Mw}{N:T8}{i:Nat}{x:Str}{p:Pos}(J:N[i]?=some x)(L:eY I x=true)(M:yO x=true):aB C I N (.V i) (.e (.Name x p)):=by
 constructor;intro cl d;intro X u O U;subst O;subst U;obtain⟨Y,j,_⟩:=xn M;refine b7.of (PE.imp (jQ J (gu L) Y j) λz H Q q=>?_);obtain⟨as,A,m,S,G,P⟩:=q;cases E:A[i]? with
 |none=>have B:ak X.K as H Q (match A[i]? with|some (some w)=>.ok w m|_=>.no):=P;rw[E]at B;exact B.elim
 |some o=>
  cases o with
  |none=>have B:ak X.K as H Q (match A[i]? with|some (some w)=>.ok w m|_=>.no):=P;rw[E]at B;exact B.elim
  |some w=>
   have B:ak X.K as H Q (match A[i]? with|some (some w)=>.ok w m|_=>.no):=P;rw[E]at B;obtain⟨v,k,R⟩:=G.get i w E;exact⟨v,k,ak.ok (m:=m) B S R⟩
def aB.«N»{C:Ctx}{A:Mw}{N:T8}{k}{p:Pos}:aB C A N (.lit .N) (.e (.Constant .none k p)):=by
 constructor;intro cl d;intro X B E G;exact b7.of (PE.imp Es (kF λ_ _=>aJ.mpr rfl))
def aB.«bl»{C:Ctx}{A:Mw}{N:T8}{b:Bool}{k}{p:Pos}:aB C A N (.lit (.bl b)) (.e (.Constant (.bool b) k p)):=by
 constructor;intro cl d;intro X B E G;exact b7.of (PE.imp CT (kF λ_ _=>ah.mpr rfl))
def aB.«int»{C:Ctx}{A:Mw}{N:T8}{i:Int}{k}{p:Pos}:aB C A N (.lit (.int i)) (.e (.Constant (.int i) k p)):=by
 constructor;intro cl d;intro X B E G;exact b7.of (PE.imp Et (kF λ_ _=>aa.mpr rfl))
def aB.«str»{C:Ctx}{A:Mw}{N:T8}{s:Str}{t:T9}{k}{p:Pos}(h:s.cps.toList=t):aB C A N (.lit (.str t)) (.e (.Constant (.str s) k p)):=by
 constructor;intro cl d;intro X B E G;subst h;exact b7.of (PE.imp jR (kF λ_ _=>aN.mpr (by simp)))
def aB.«con»{C:Ctx}{A:Mw}{N:T8}{x:Str}{i:Int}{p:Pos}(B:dE A x=true)(E:C.cons.lookup x=some i)(G:yO x=true):aB C A N (.lit (.int i)) (.e (.Name x p)):=by
 constructor;intro cl d;intro X H I M;subst I;obtain⟨J,O,_⟩:=xn G;obtain⟨t,L⟩:=H.con.1 x i E;exact b7.of (PE.imp (Af (x8 B) L (v:=.int i) ⟨t,rfl⟩ J) (kF λ_ _=>aa.mpr rfl))
def aB.«bin»{C:Ctx}{A:Mw}{N:T8}{op:Bo}{a b:Ex}{x y:Expr}{p:Pos}(J:zA a=false)(L:aB C A N a (.e x))(rb:zA b=false)(M:aB C A N b (.e y)):aB C A N (.bin op a b) (.e (.BinOp x (fY op) y p)):=by
 constructor;intro cl d;have B:=L.h cl d;have E:=M.h cl d;intro X G H I;exact b7.of (DL ((B X G H I).pe J) ((E X G H I).pe rb))
def aB.«neg»{C:Ctx}{B:Mw}{N:T8}{a:Ex}{x:Expr}{p:Pos}(E:zA a=false)(G:aB C B N a (.e x)):aB C B N (.neg a) (.e (.UnaryOp .USub x p)):=by
 constructor;intro cl d;have A:=G.h cl d;intro X H I J;exact b7.of (DK ((A X H I J).pe E))
def aB.«not»{C:Ctx}{G:Mw}{N:T8}{a:Ex}{x:Expr}{p:Pos}(A:zA a=false)(H:jz a=false)(I:aB C G N a (.e x)):aB C G N (.not a) (.e (.UnaryOp .Not x p)):=by
 constructor;intro cl d;have B:=I.h cl d;intro X J L M;have E:=B X J L M;exact⟨λ_=>⟨tW (E.pe A),λ_=>DJ (E.pt A H),λQ U O z=>by cases z⟩,λY=>gb (tW (E.pe A))⟩
def aB.«and2»{C:Ctx}{A:Mw}{N:T8}{a b:Ex}{x y:Expr}{p:Pos}(G:zA a=false)(O:jz a=false)(Q:aB C A N a (.e x))(rb:zA b=false)(U:jz b=false)(Y:aB C A N b (.e y)):aB C A N (.and a b) (.e (.BoolOp .And [x,y] p)):=by
 constructor;intro cl d;have B:=Q.h cl d;have E:=Y.h cl d;intro X H I J;have L:=B X H I J;have M:=E X H I J;have e:=λ(p:Pos)=>DI (pos:=p) (L.pe G) (tK (M.pe rb));have w:=λ(p:Pos)=>DH (pos:=p) (L.pt G O) (Hn (M.pt rb U));exact⟨λ_=>⟨e _,λ_=>(w _).pt,λk q j z=>by cases z;exact w _⟩,λu=>gb (e _)⟩
def aB.«or2»{C:Ctx}{A:Mw}{N:T8}{a b:Ex}{x y:Expr}{p:Pos}(G:zA a=false)(O:jz a=false)(Q:aB C A N a (.e x))(rb:zA b=false)(U:jz b=false)(Y:aB C A N b (.e y)):aB C A N (.or a b) (.e (.BoolOp .Or [x,y] p)):=by
 constructor;intro cl d;have B:=Q.h cl d;have E:=Y.h cl d;intro X H I J;have L:=B X H I J;have M:=E X H I J;have e:=λ(p:Pos)=>Cu (pos:=p) (L.pe G) (tK (M.pe rb));have w:=λ(p:Pos)=>Ct (pos:=p) (L.pt G O) (Ep (M.pt rb U));exact⟨λ_=>⟨e _,λ_=>(w _).pt,λk q j z=>by cases z;exact w _⟩,λu=>gb (e _)⟩
def aB.«cmp»{C:Ctx}{B:Mw}{N:T8}{op:Co}{a b:Ex}{x y:Expr}{p:Pos}(E:yJ y=true)(O:zA a=false)(Q:aB C B N a (.e x))(rb:zA b=false)(U:aB C B N b (.e y)):aB C B N (.cmp op a b) (.e (.Compare x [cK op] [y] p)):=by
 constructor;intro cl d;have G:=Q.h cl d;have H:=U.h cl d;intro X A L M;have I:=(G X A L M).pe O;have J:=(H X A L M).pe rb;exact⟨λ_=>⟨tV A.room.units I J E,λ_=>DG A.room.units I J E,λop j Y z=>by cases z⟩,λk=>gb (tV A.room.units I J E)⟩
def aB.«chain»{C:Ctx}{B:Mw}{N:T8}{o q:Co}{a b c:Ex}{x y z:Expr}{p:Pos}(E:yJ z=true)(U:zA a=false)(Y:aB C B N a (.e x))(rb:zA b=false)(j:aB C B N b (.e y))(k:zA c=false)(u:aB C B N c (.e z)):aB C B N (.chain o q a b c) (.e (.Compare x [cK o,cK q] [y,z] p)):=by
 constructor;intro cl d;have G:=Y.h cl d;have H:=j.h cl d;have I:=u.h cl d;intro X A J L;have M:=(G X A J L).pe U;have O:=(H X A J L).pe rb;have Q:=(I X A J L).pe k;exact⟨λ_=>⟨AF A.room.units M O Q E,λ_=>Ji A.room.units M O Q E,λg f l z=>by cases z⟩,λe=>gb (AF A.room.units M O Q E)⟩
def aB.«ife»{C:Ctx}{A:Mw}{N:T8}{a b c:Ex}{x y z:Expr}{p:Pos}(L:zA c=false)(M:jz c=false)(O:aB C A N c (.e x))(Q:zA a=false)(U:aB C A N a (.e y))(rb:zA b=false)(Y:aB C A N b (.e z)):aB C A N (.ife c a b) (.e (.IfExp x y z p)):=by
 constructor;intro cl d;have B:=O.h cl d;have E:=U.h cl d;have G:=Y.h cl d;intro X H I J;have e:=λ(p:Pos)=>DF (pos:=p) ((B X H I J).pt L M) ((E X H I J).pe Q) ((G X H I J).pe rb);exact⟨λ_=>⟨e _,λz=>(by cases z),λk q j z=>(by cases z)⟩,λu=>gb (e _)⟩
def aB.«u»{C:Ctx}{A:Mw}{N:T8}:aB C A N .u (.a []):=by
 constructor;intro cl d;intro X B E G;exact GS
def aB.«p»{C:Ctx}{A:Mw}{N:T8}{a b:Ex}{x:Expr}{xs:S8}(J:zI x=true)(L:zA a=false)(M:aB C A N a (.e x))(O:aB C A N b (.a xs)):aB C A N (.p a b) (.a (x::xs)):=by
 constructor;intro cl d;have B:=M.h cl d;have E:=O.h cl d;intro X G H I;exact GR ((B X G H I).pe L) (E X G H I).pa J
def aB.«call»{C:Ctx}{A:Mw}{N:T8}{k:Nat}{a:Ex}{f:Str}{y:Expr}{ys:S8}{p G:Pos}(H:C.fns[k]?=some f)(I:dE A f=true)(J:yO f=true)(L:(y::ys).all zI=true)(M:aB C A N a (.a (y::ys))):aB C A N (.call k a) (.e (.Call (.Name f p) (y::ys) [] G)):=by
 constructor;intro cl d;have B:=M.h cl d;intro X E O Q;subst O;exact b7.of (GQ E H (x8 I) J L (B X E rfl Q).pa)
def aB.«blt»{C:Ctx}{B:Mw}{N:T8}{b:eD}{a:Ex}{A:Str}{f:Value}{y:Expr}{ys:S8}{p H:Pos}(I:mJ b=some (A,f))(J:dE B A=true)(L:yO A=true)(M:(y::ys).all zI=true)(O:aB C B N a (.a (y::ys))):aB C B N (.blt b a) (.e (.Call (.Name A p) (y::ys) [] H)):=by
 constructor;intro cl d;have E:=O.h cl d;intro X G Q U;subst Q;exact b7.of (DE G I (x8 J) L M (E X G rfl U).pa)
def aB.«isi»{C:Ctx}{A:Mw}{N:T8}{t:Tg}{a:Ex}{y:Expr}{p H B:Pos}(I:dE A "isinstance"=true)(J:dE A (Str.ofString (dR t))=true)(L:zI y=true)(M:zA a=false)(O:aB C A N a (.e y)):aB C A N (.isi t a) (.e (.Call (.Name "isinstance" p) [y,.Name (Str.ofString (dR t)) H] [] B)):=by
 constructor;intro cl d;have E:=O.h cl d;intro X G Q U;subst Q;exact b7.of (DD G (x8 I) (x8 J) L ((E X G rfl U).pe M))
def aB.«L»{C:Ctx}{B:Mw}{N:T8}{a:Ex}{xs:S8}{p:Pos}(E:aB C B N a (.a xs)):aB C B N (.L a) (.e (.List xs p)):=by
 constructor;intro cl d;have A:=E.h cl d;intro X G H I;exact b7.of (DC (A X G H I).pa)
def aB.«T»{C:Ctx}{B:Mw}{N:T8}{a:Ex}{xs:S8}{k}{p:Pos}(E:aB C B N a (.a xs)):aB C B N (.T a) (.e (.Tuple xs k p)):=by
 constructor;intro cl d;have A:=E.h cl d;intro X G H I;exact b7.of (DB (A X G H I).pa)
def aB.«i»{C:Ctx}{A:Mw}{N:T8}{a b:Ex}{x y:Expr}{p:Pos}(J:xw y=true)(L:zA a=false)(M:aB C A N a (.e x))(rb:zA b=false)(O:aB C A N b (.e y)):aB C A N (.i a b) (.e (.Subscript x y p)):=by
 constructor;intro cl d;have B:=M.h cl d;have E:=O.h cl d;intro X G H I;exact b7.of (DA ((B X G H I).pe L) ((E X G H I).pe rb) J)
def aB.«dict0»{C:Ctx}{A:Mw}{N:T8}{p:Pos}:aB C A N .dict0 (.e (.Dict [] [] p)):=by
 constructor;intro cl d;intro X B E G;exact b7.of HV
def aB.«dget»{C:Ctx}{A:Mw}{N:T8}{a b:Ex}{x y:Expr}{p:Pos}(J:xw y=true)(L:zA a=false)(M:aB C A N a (.e x))(rb:zA b=false)(O:aB C A N b (.e y)):aB C A N (.dget a b) (.e (.Subscript x y p)):=by
 constructor;intro cl d;have B:=M.h cl d;have E:=O.h cl d;intro X G H I;exact b7.of (GJ G.room.units ((B X G H I).pe L) ((E X G H I).pe rb) J)
def aB.«dcon»{C:Ctx}{E:Mw}{N:T8}{j k q u z o c l:Int}{A B:Str}{p g f:Pos}{i:Nat}{G H I J:T9}(nd:[G,H,I,J].Nodup)(e:dE E A=true)(t:C.dcs.lookup A=some [(G,j,k),(H,q,u),(I,z,o),(J,c,l)])(s:yO A=true)(m:N[i]?=some B)(b:eY E B=true)(n:yO B=true):
   aB C E N (.i (ku (dt j k) (dt q u) (dt z o) (dt c l)) (j0 i G H I J)) (.e (.Subscript (.Name A g) (.Name B f) p)):=by
 constructor;intro cl d;intro X h w y;subst w;subst y;obtain⟨x,n2,_⟩:=xn n;obtain⟨m1,_,_⟩:=xn s;simp only[QB,Qn,Wn,not_or,or_false]at nd;obtain⟨⟨L,M,O⟩,⟨Q,U⟩,Y,_⟩:=nd;obtain⟨a,ha,hD⟩:=h.con.2 _ _ t;exact b7.of (GG L M O Q U Y (Af (x8 e) ha (v:=.ref a) rfl m1) hD (jQ m (gu b) x n2))
def aB.«slL»{C:Ctx}{A:Mw}{N:T8}{a b:Ex}{x y:Expr}{p J:Pos}(L:zA a=false)(M:aB C A N a (.e x))(rb:zA b=false)(O:aB C A N b (.e y)):aB C A N (.slL a b) (.e (.Subscript x (.Slice (some y) none none J) p)):=by
 constructor;intro cl d;have B:=M.h cl d;have E:=O.h cl d;intro X G H I;exact b7.of (Dz ((B X G H I).pe L) ((E X G H I).pe rb))
def aB.«slB»{C:Ctx}{A:Mw}{N:T8}{a b c:Ex}{x y z:Expr}{p L:Pos}(M:zA a=false)(O:aB C A N a (.e x))(rb:zA b=false)(Q:aB C A N b (.e y))(U:zA c=false)(Y:aB C A N c (.e z)):aB C A N (.slB a b c) (.e (.Subscript x (.Slice (some y) (some z) none L) p)):=by
 constructor;intro cl d;have B:=O.h cl d;have E:=Q.h cl d;have G:=Y.h cl d;intro X H I J;exact b7.of (Dy ((B X H I J).pe M) ((E X H I J).pe rb) ((G X H I J).pe U))
def aB.«dsot»{C:Ctx}{A:Mw}{N:T8}{a:Ex}{x:Expr}{p I:Pos}(E:dE A "sorted"=true)(J:zI x=true)(L:zA a=false)(M:aB C A N a (.e x)):aB C A N (.dop .sot a .u .u) (.e (.Call (.Name "sorted" I) [x] [] p)):=by
 constructor;intro cl d;have B:=M.h cl d;intro X G H O;exact b7.of (Ei (by rw[<-H]at E;exact x8 E) (G.blt _ (by simp[zO])) J ((B X G H O).pe L))
def aB.«dsor»{C:Ctx}{A:Mw}{N:T8}{a:Ex}{x:Expr}{p I:Pos}(G:dE A "sorted"=true)(J:zI x=true)(L:zA a=false)(M:aB C A N a (.e x)):aB C A N (.dop .sor a .u .u) (.e (.Call (.Name "sorted" I) [x] [] p)):=by
 constructor;intro cl d;have B:=M.h cl d;intro X E H O;exact b7.of (Eh E.room.units (by rw[<-H]at G;exact x8 G) (E.blt _ (by simp[zO])) J ((B X E H O).pe L))
def aB.«meth0»{C:Ctx}{B:Mw}{N:T8}{k:dX}{o:Ex}{x:Expr}{E G:Pos}(H:kD x=true)(hl:(E.endLine==G.line)=true)(I:zA o=false)(J:aB C B N o (.e x)):aB C B N (.meth k o .u) (.e (.Call (.Attribute x (fq k).1 E) [] [] G)):=by
 constructor;intro cl d;have A:=J.h cl d;intro X L M O;exact b7.of (Jg ((A X L M O).pe I) H hl)
def aB.«meth»{C:Ctx}{A:Mw}{N:T8}{k:dX}{o a:Ex}{x y:Expr}{ys:S8}{G H:Pos}(M:kD x=true)(hl:(G.endLine==H.line)=true)(O:(y::ys).length<29)(Q:(y::ys).all zI=true)(U:zA o=false)(Y:aB C A N o (.e x))(j:aB C A N a (.a (y::ys))):aB C A N (.meth k o a) (.e (.Call (.Attribute x (fq k).1 G) (y::ys) [] H)):=by
 constructor;intro cl d;have B:=Y.h cl d;have E:=j.h cl d;intro X I J L;exact b7.of (GO ((B X I J L).pe U) (E X I J L).pa M hl O Q)
def aB.«rng1»{C:Ctx}{A:Mw}{N:T8}{b:Ex}{y:Expr}{p G:Pos}(H:dE A "range"=true)(I:zI y=true)(rb:zA b=false)(J:aB C A N b (.e y)):aB C A N (.rng (.lit (.int 0)) b (.lit (.int 1))) (.e (.Call (.Name "range" p) [y] [] G)):=by
 constructor;intro cl d;have B:=J.h cl d;intro X E L M;subst L;exact⟨λz=>(by cases z),λO=>GN E (x8 H) I ((B X E rfl M).pe rb)⟩
def aB.«lrng»{C:Ctx}{A:Mw}{N:T8}{a:Ex}{y:Expr}{p G q H:Pos}(hl:dE A "list"=true)(I:dE A "range"=true)(J:zI y=true)(L:zA a=false)(M:aB C A N a (.e y)):aB C A N (.lrng a) (.e (.Call (.Name "list" p) [.Call (.Name "range" q) [y] [] H] [] G)):=by
 constructor;intro cl d;have B:=M.h cl d;intro X E O Q;subst O;exact b7.of (GM E (x8 hl) (x8 I) J ((B X E rfl Q).pe L))
def aB.«comp0»{C:Ctx}{L A:Mw}{N:T8}{elt it:Ex}{x i:Expr}{y:Str}{p Y:Pos}(j:yJ i=true)(k:bP L N A [y]=true)(u:aB C L N it (.e i))(z:zA elt=false)(o:aB C (yn A L) (yE N [y]) elt (.e x)):aB C L N (.comp elt it (.lit (.bl true))) (.e (.ListComp x [⟨.Name y p,i,[],0⟩] A Y)):=by
 constructor;intro cl d;have M:=u.h cl d;have O:=o.h cl d;intro X U l g;subst l;subst g;have B:=yi k;have f:=(M X U rfl rfl).2 (.Name y p);have I:∀v,Nc i X.env v=pure v:=yV j;have J:∀E,bt X A [y] E->PE E x (aK X.K (ae cl elt)):=λE c=>by
  have q:=(O E (U.comp c) c.sc c.N).pe z;rw[c.K]at q;exact q
 refine b7.of (PE.imp (vt B U.calm (v8 B) f (λE c=>⟨vq,J E c⟩) I) λt H Q q=>vE (λt H Q q=>?_) q);obtain⟨as,s,m,S,G,P⟩:=q;obtain⟨b,e,q⟩:=ak.ok (m:=m) P S (ah.mpr rfl);cases e;exact q
def aB.«comp1»{C:Ctx}{G A:Mw}{N:T8}{elt it cond:Ex}{x i f:Expr}{y:Str}{p Y:Pos}(j:yJ i=true)(k:bP G N A [y]=true)(u:aB C G N it (.e i))(z:zA cond=false)(o:jz cond=false)(l:aB C (yn A G) (yE N [y]) cond (.e f))(g:zA elt=false)(e:aB C (yn A G) (yE N [y]) elt (.e x)):aB C G N (.comp elt it cond) (.e (.ListComp x [⟨.Name y p,i,[f],0⟩] A Y)):=by
 constructor;intro cl d;have M:=u.h cl d;have O:=l.h cl d;have U:=e.h cl d;intro X L t s;subst t;subst s;have B:=yi k;have m:=(M X L rfl rfl).2 (.Name y p);have I:∀v,Nc i X.env v=pure v:=yV j;have J:∀E,bt X A [y] E->PE E x (aK X.K (ae cl elt)):=λE c=>by
  have q:=(U E (L.comp c) c.sc c.N).pe g;rw[c.K]at q;exact q
 refine b7.of (PE.imp (vt B L.calm (v8 B) m (λE c=>⟨qZ ?_,J E c⟩) I) λb H Q q=>vE (λb H Q q=>q) q);have q:=(O E (L.comp c) c.sc c.N).pt z o;rw[c.K]at q;exact q
def aB.«compZ0»{C:Ctx}{I A:Mw}{N:T8}{elt a b:Ex}{x i j:Expr}{y z:Str}{p l q k u pt:Pos}{kt:Nat}(g:dE I "zip"=true)(f:bP I N A [y,z]=true)(o:zI i=true)(E:zI j=true)(t:zA a=false)(s:aB C I N a (.e i))(rb:zA b=false)(n:aB C I N b (.e j))(h:zA elt=false)(w:aB C (yn A I) (yE N [y,z]) elt (.e x)):
   aB C I N (.compP .zip elt a b (.lit (.bl true))) (.e (.ListComp x [⟨.Tuple [.Name y p,.Name z q] kt pt,.Call (.Name "zip" k) [i,j] [] u,[],0⟩] A l)):=by
 constructor;intro cl d;have O:=s.h cl d;have U:=n.h cl d;have Y:=w.h cl d;intro X J es eN;subst es;subst eN;have B:=yi f;have hI:PI X (.Tuple [.Name y p,.Name z q] kt pt) (.Call (.Name "zip" k) [i,j] [] u) _:=sZ (x8 g) (J.blt _ (by simp[zO])) (yR ((O X J rfl rfl).pe t) (yR ((U X J rfl rfl).pe rb) wF (zy E)) (zy o)) (by rw[zy o,zy E];rfl) (zy E);have M:∀L,bt X A [y,z] L->PE L x (aK X.K (ae cl elt)):=λL c=>by
  have q:=(Y L (J.comp c) c.sc c.N).pe h;rw[c.K]at q;exact q
 refine b7.of (PE.imp (vt B J.calm (jB J.calm B) hI (λL c=>⟨vq,M L c⟩) (λ_=>rfl)) λσ H Q q=>gn (λσ H Q q=>?_) q);obtain⟨as,env,m,S,G,P⟩:=q;obtain⟨b,e,q⟩:=ak.ok (m:=m) P S (ah.mpr rfl);cases e;exact q
def aB.«compT0»{C:Ctx}{L A:Mw}{N:T8}{elt a:Ex}{x i:Expr}{y z:Str}{p Y q pt:Pos}{kt:Nat}(j:yJ i=true)(k:bP L N A [y,z]=true)(u:aB C L N a (.e i))(o:zA elt=false)(l:aB C (yn A L) (yE N [y,z]) elt (.e x)):
   aB C L N (.compP .prs elt a (.lit (.int 0)) (.lit (.bl true))) (.e (.ListComp x [⟨.Tuple [.Name y p,.Name z q] kt pt,i,[],0⟩] A Y)):=by
 constructor;intro cl d;have O:=u.h cl d;have U:=l.h cl d;intro X M g f;subst g;subst f;have B:=yi k;have t:=(O X M rfl rfl).2 (.Tuple [.Name y p,.Name z q] kt pt);have I:∀v,Nc i X.env v=pure v:=yV j;have J:∀E,bt X A [y,z] E->PE E x (aK X.K (ae cl elt)):=λE c=>by
  have q:=(U E (M.comp c) c.sc c.N).pe o;rw[c.K]at q;exact q
 refine b7.of (PE.imp (vt B M.calm (jB M.calm B) t (λE c=>⟨vq,J E c⟩) I) λs H Q q=>Ks (λs H Q q=>?_) q);obtain⟨as,n,m,S,G,P⟩:=q;obtain⟨b,e,q⟩:=ak.ok (m:=m) P S (ah.mpr rfl);cases e;exact q
def aB.«compE0»{C:Ctx}{I A:Mw}{N:T8}{elt a:Ex}{x i:Expr}{y z:Str}{p k q U Y pt:Pos}{kt:Nat}(u:dE I "enumerate"=true)(o:bP I N A [y,z]=true)(j:zI i=true)(l:zA a=false)(g:aB C I N a (.e i))(f:zA elt=false)(t:aB C (yn A I) (yE N [y,z]) elt (.e x)):
   aB C I N (.compP .enum elt a (.lit (.int 0)) (.lit (.bl true))) (.e (.ListComp x [⟨.Tuple [.Name y p,.Name z q] kt pt,.Call (.Name "enumerate" U) [i] [] Y,[],0⟩] A k)):=by
 constructor;intro cl d;have M:=g.h cl d;have O:=t.h cl d;intro X J s n;subst s;subst n;have B:=yi o;have h:PI X (.Tuple [.Name y p,.Name z q] kt pt) (.Call (.Name "enumerate" U) [i] [] Y) _:=GL (x8 u) (J.blt _ (by simp[zO])) (yR ((M X J rfl rfl).pe l) wF (zy j)) (zy j);have L:∀E,bt X A [y,z] E->PE E x (aK X.K (ae cl elt)):=λE c=>by
  have q:=(O E (J.comp c) c.sc c.N).pe f;rw[c.K]at q;exact q
 refine b7.of (PE.imp (vt B J.calm (jB J.calm B) h (λE c=>⟨vq,L E c⟩) (λ_=>rfl)) λw H Q q=>Kt (c:=0) rfl (λw H Q q=>?_) q);obtain⟨as,env,m,S,G,P⟩:=q;obtain⟨b,e,q⟩:=ak.ok (m:=m) P S (ah.mpr rfl);cases e;exact q
end
def Eg:swappedStores [.Subscript o i A] v env=pure none:=rfl
def GE (h:∀x p,A≠.Name x p):swapsWithSole [A] v B env=pure false:=by
 cases v<;>first|rfl|(cases A<;>first|rfl|exact OD rfl (h _ _))
noncomputable def gv:Expr->Bool
 |.ListComp _ _ _ _=>true
 |.SetComp _ _ _ _=>true
 |.DictComp _ _ _ _ _=>true
 |_=>false
def nB (h:gv v=false):MT v t A env=pure false:=by
 cases v<;>first|rfl|cases h
noncomputable def aA(K:Qb)(as:S6)(H:Hp)(D:cm)(r:Rs):Prop:=match r with
 |.next e G=>∀A B E,Step as H A B->aS K A G B->az K A B e E->D.nx E B
 |.ret w G=>∀A B v,Step as H A B->aS K A G B->ai K A B w v->D.rt v B
 |_=>False
noncomputable def xB(K:Qb)(g:En->Me->Rs):TS:=λD B H=>∃as A m,aS K as m H/\az K as H A B/\aA K as H D (g A m)
section
variable{K:Qb}{as as':S6}{H H':Hp}{m:Me}{D:cm}
set_option tactic.hygienic true in
def aA.step{r:Rs}(h:aA K as H D r)(T:Step as H as' H'):aA K as' H' D r:=by
 cases r with
 |next e E=>exact λA H2 B U S G=>h A H2 B (T.trans U) S G
 |ret w E=>exact λA H2 v U S R=>h A H2 v (T.trans U) S R
 |no=>exact h
def aA.bind (h:aA K as H D (r.bindS env f))(k:∀w m' as' H' v,Step as H as' H'->aS K as' m' H'->ai K as' H' w v->aA K as' H' D (f w m')->B v H'):ak K as H B r:=by
 cases r with
 |ok w m'=>exact λA H2 v U S R=>k w m' A H2 v U S R (aA.step (r:=f w m') h U)
 |no=>exact h
def aA.bindI (h:aA K as H D (r.bindS env f))(k:∀w m',aA K as H D (f w m')->(wr m' w).isSome=true/\∀as' H' J,Step as H as' H'->aS K as' m' H'->pR K as' H' w J->A J H'):cg K as H A r:=by
 cases r with
 |ok w m'=>exact k w m' h
 |no=>exact h
theorem aA.next (h:aA K as H D (.next env m))(S:aS K as m H)(G:az K as H env σ):D.nx σ H:=h as H σ .refl S G
end
section
variable{cl:O1}{X:Cx}{e o i:Ex}{x y z:Expr}{pos:Pos}
def GD:cJ X [] (xB X.K (bJ cl .skip)):=cJ.imp Hm λD B H h=>by
 obtain⟨as,A,m,S,G,P⟩:=h;exact aA.next (m:=m) P S G
set_option tactic.hygienic true in
def Ef {st:Stmt}(M:PS X st (xB X.K (bJ cl a)))(N:cJ X E (xB X.K (bJ cl b))):cJ X (st::E) (xB X.K (bJ cl (.seq a b))):=
 cJ.imp (AT M N) λD Y H h=>by
  obtain⟨as,A,m,S,G,P⟩:=h;refine⟨as,A,m,S,G,?_⟩;have B:aA X.K as H D (match bJ cl a A m with |.next I m1=>bJ cl b I m1|r=>r):=P;cases J:bJ cl a A m with
  |next I m1=>
   rw[J]at B;exact λL j O T Q U=>⟨L,I,m1,Q,U,aA.step B T⟩
  |ret w m1=>rw[J]at B;exact B
  |no=>rw[J]at B;exact B
def gw {K:Qb}{i:Nat}(h:xB K (bJ cl (.a i e)) D σ H):i4 (aK K (ae cl e)) (v5 i) D σ H:=by
 obtain⟨as,A,m,S,G,P⟩:=h;refine⟨as,A,m,S,G,aA.bind P λw m1 B H1 v E I J L=>?_⟩;exact aA.next (m:=m1) L I ((G.mono S E).set J i)
def Ee(E:PE X x (aK X.K (ae cl e))):PS X (.Return (some x) pos) (xB X.K (bJ cl (.ret e))):=PS.imp (tJ E) λD M H h=>by
 obtain⟨as,A,m,S,G,P⟩:=h;refine⟨as,A,m,S,G,aA.bind P λw m1 B H1 v N I J L=>?_⟩;exact L B H1 v .refl I J
def GC(B:PE X x (aK X.K (ae cl e)))(E:gv x=false):PS X (.Expr x pos) (xB X.K (bJ cl (.expr e))):=PS.imp (Hl B (nB E)) λD N H h=>by
 obtain⟨as,A,m,S,G,P⟩:=h;refine⟨as,A,m,S,G,aA.bind P λw m1 I H1 v J L O M=>?_⟩;exact aA.next (m:=m1) M L (G.mono S J)
def HN{st:Stmt}:PS X st (xB X.K (bJ cl .never)):=PS.imp IK λD B H h=>by
 obtain⟨as,A,m,S,G,P⟩:=h;exact P
def Cn (L:PT X x (xN X.K (ae cl e)))(M:cJ X xs (xB X.K (bJ cl a)))(N:cJ X ys (xB X.K (bJ cl b))):PS X (.If x xs ys pos) (xB X.K (bJ cl (.ite e a b))):=
 PS.imp (Dj L M N) λD Q H h=>by
  obtain⟨as,A,m,S,G,P⟩:=h;refine⟨as,A,m,S,G,aA.bind P λw m1 B H1 v I J O E=>?_⟩;cases w with
  |bl k=>
   obtain rfl:=ah.mp O;refine⟨k,rfl,?_⟩;cases k with
   |true=>exact fi ⟨B,A,m1,J,G.mono S I,E⟩
   |false=>exact fj ⟨B,A,m1,J,G.mono S I,E⟩
  |_=>exact E.elim
def JF {K:Qb}{o i:Wd}(S:aS K as m H)(N:ai K as H o O)(U:ai K as H i Y)(j:ai K as H w v)(h:aA K as H D ((qD o i w m).bindS env f))(k:∀m' B,Step as H as B->aS K as m' B->aA K as B D (f .N m')->Q B):sy K O Y v H Q:=by
 unfold qD at h;cases o with
 |ref l=>
  obtain⟨a,G,rfl⟩:=aw.mp N;dsimp only at h;cases e:m[l]? with
  |none=>rw[e]at h;exact h.elim
  |some p=>
   cases p with
   |L n=>rw[e]at h;exact h.elim
   |D d ws=>
    rw[e]at h;dsimp only at h;obtain⟨a',c,vs,A,I,J,r,g,nd⟩:=j5 S e;rw[G]at A;cases A;cases E:fS i with
    |none=>rw[E]at h;exact h.elim
    |some q=>
     rw[E]at h;dsimp only at h;obtain⟨b,rfl,M⟩:=AD E U;by_cases hl:d.length<ao
     .rw[OB hl]at h;refine⟨a,b,q,c,rfl,rfl,M,I,?_,λu t=>?_⟩
      .rw[<-J,Qi]at hl;exact Vk hl
      .obtain ⟨T,s⟩:=S.setD G e I J r g nd M j t;exact k _ _ T s (aA.step (r:=f .N _) h T)
     .rw[OC hl]at h;exact h.elim
 |_=>exact h.elim
def Ko {o i:Expr}(E:xw i=true):∀v,assign (.Subscript o i p) env v=(do
   let A <-holding [v] (eval o env)
   let B <-holding [v,A] (eval i env)
   standAt p
   holding [v,A,B] (MV A B v)
   release [v,A,B] []):=λv=>by
 cases i<;>first|rfl|cases E
def GB (Q:X.A.units+64<Nj)(U:PE X x (aK X.K (ae cl (.V j))))(Y:PE X y (aK X.K (ae cl i)))(k:PE X z (aK X.K (ae cl e)))(u:xw y=true):PS X (.Assign [.Subscript x y b] z pos) (xB X.K (bJ cl (.dput j i e))):=
 PS.imp (EO k (EQ U Y (Dr Q) (Ko u)) (GE (by intros;intro q;cases q)) Eg) λD n H h=>by
  obtain⟨as,A,m,S,G,P⟩:=h;refine⟨as,A,m,S,G,aA.bind P λw m1 I H1 v J B p d=>?_⟩;refine⟨I,A,m1,B,G.mono S J,aA.bind d λa m2 L H2 vo M E R2 c=>?_⟩;refine⟨L,A,m2,E,(G.mono S J).mono B M,aA.bind c λwi m3 l H3 vi N O g P3=>?_⟩;refine JF O (R2.mono E N) g ((p.mono B M).mono E N) P3 λm4 H4 f t s=>?_;exact aA.next (m:=m4) s t ((((G.mono S J).mono B M).mono E N).mono O f)
end
section
variable{cl:O1}{X:Cx}{e i j:Ex}{x y z u v:Expr}{pos:Pos}
noncomputable def im:Bo->Bool
 |.add=>true
 |.sub=>true
 |_=>false
noncomputable def pM:Bo->Int->Int->Int
 |.sub=>λi j=>i-j
 |_=>λi j=>i+j
noncomputable def pL:Bo->Int->Int->Prop
 |_=>λ_ _=>True
noncomputable def rh(op:Bo):iQ:=λx y H Q=>∃i j,x=.int i/\y=.int j/\pL op i j/\Q (.int (pM op i j)) H
def CI (h:im op=true):l9 X (fY op) (rh op):=by
 intro A s B H x y v u Q I E G q;obtain⟨i,j,J,L,c,q⟩:=q;cases op with
 |add=>exact EL A s B H x y v u Q I E G ⟨i,j,J,L,q⟩
 |sub=>exact EK A s B H x y v u Q I E G ⟨i,j,J,L,q⟩
 |_=>cases h
def GA (h:im op=true){i j:Int}:(pL op i j/\dF op (.int i) (.int j) m=.ok (.int (pM op i j)) m)\/dF op (.int i) (.int j) m=.no:=by
 cases op with
 |add=>exact .inl ⟨trivial,rfl⟩
 |sub=>exact .inl ⟨trivial,rfl⟩
 |_=>cases h
def Gz {K:Qb}(B:im op=true)(I:ai K as H E J)(L:ai K as H G M)(h:aA K as H D (iq op E G m env f))(k:∀z,aA K as H D (f (.int z) m)->Q (.int z) H):rh op J M H Q:=by
 cases E with
 |int i=>
  cases G with
  |int j=>
   have A:aA K as H D ((dF op (.int i) (.int j) m).bindS env f):=h;rcases GA B (i:=i) (j:=j) (m:=m)with⟨c,e⟩|e
   .rw[e]at A;exact⟨i,j,aa.mp I,aa.mp L,c,k _ A⟩
   .rw[e]at A;exact A.elim
  |_=>exact h.elim
 |_=>exact h.elim
set_option tactic.hygienic true in
def Ed (B:im op=true)(L:X.N.Nodup)(M:X.N[n]?=some E)(N:Loc X.env.scope E)(O:X.fn E=true\/X.env.scope.names.lookup E=some .local)(Q:PE X x (aK X.K (ae cl e))):
  PS X (.AugAssign (.Name E f) (fY op) x pos) (xB X.K (bJ cl (.aug n op e))):=PS.imp (EM L M N Q (CI B) O) λD t H h=>by
 obtain⟨as,A,m,S,G,P⟩:=h;have I:aA X.K as H D (match A[n]? with
  |some (some x)=>(ae cl e A m).bindS A λy m1=>iq op x y m1 A λz m2=>.next (A.set n (some z)) m2
  |_=>.no):=P
 split at I
 .rename_i U Y;obtain⟨k,q,o⟩:=G.get n U Y;refine⟨k,q,as,A,m,S,G,aA.bind I λs m1 p H1 b J d c l=>?_⟩;refine Gz B (o.mono S J) c l λz g=>?_;exact aA.next (m:=m1) g d ((G.mono S J).set (aa.mpr rfl) n)
 .exact I.elim
end
section
variable{cl:O1}{K:Qb}
structure ei(K:Qb)(g:TG)(st:Wd->En->Option En):Prop where
 ok:∀{as:S6}{H:Hp}{m:Me}{env env':En}{σ:St}{w:Wd}{v:V}{Q:L2.St->Hp->Prop},aS K as m H->az K as H env σ->ai K as H w v->st w env=some env'->(∀σ',az K as H env' σ'->Q σ' H)->g v σ H Q
def AB(i:Nat):ei K (v5 i) (λw env=>some (env.set i (some w))):=
 ⟨λS G R e k=>by cases e;exact k _ (G.set R i)⟩
set_option tactic.hygienic true in
def gz{g:TG}{st:Wd->En->Option En}{b:En->Me->Rs}(q:ei K g st){D:cm}{H A:S6}{H1 L:Hp}{m':Me}{B:En}{M:St}{x:Wd}{v:V}{next:En->Me->Rs}{N:L2.St->Hp->Prop}(T:Step H H1 A L)(k:aS K A m' L)(u:az K A L B M)(z:ai K A L x v)
  (E:aA K H H1 D (match yU st b x B m' with
    |.next e1 m1=>next e1 m1
    |r=>r))
  (o:∀I m2 e2 G H2,Step A L I H2->aS K I m2 H2->az K I H2 e2 G->aA K H H1 D (next e2 m2)->N G H2) :
  g v M L λG H2=>xB K b {D with nx:=N,ct:=N,bk:=D.nx} G H2:=by
 unfold yU at E;cases O:st x B with
 |none=>rw[O]at E;exact E.elim
 |some e2=>
  rw[O]at E;simp only[]at E;refine q.ok k u z O λG p=>⟨A,e2,m',k,p,?_⟩;cases Q:b e2 m' with
  |next d m3=>rw[Q]at E;exact λJ H3 Y U j c=>o J m3 d Y H3 U j c E
  |ret e m3=>rw[Q]at E;exact λJ H3 l U j f=>E J H3 l (T.trans U) j f
  |no=>rw[Q]at E;exact E.elim
def HM {st:Wd->En->Option En}(hg:ei K g st)(h:xB K (λenv m=>(it env m).bindS env λw m1=>iZ (yU st b) w env m1) D σ H):mF (h9 K it) g (xB K b) D σ H:=by
 obtain⟨as,env,m,S,G,P⟩:=h;refine⟨as,env,m,S,G,aA.bindI P λw m1 t=>?_⟩;have p:∀(I:U4),aA K as H D (kj (yU st b) I env m1)->∀A H1 J,Step as H A H1->aS K A m1 H1->i7 K A H1 J I ->
   ∃W:Nat->Nat->L2.St->Hp->Prop,(∃m,W 0 m σ H1)/\∀i m σ H,W i m σ H ->
    (J.stop i H/\D.nx σ H)\/(J.go i H/\∃N:L2.St->Hp->Prop,(∀Q O,N Q O->∃j,j<m/\W (i+1) j Q O)/\∀x O,J.yld i H x O->g x σ O λY H2=>xB K b {D with nx:=N,ct:=N,bk:=D.nx} Y H2):=by
  intro I Pc A H1 J z y hI;obtain⟨vs,ok,hJ,ok1,RL,stab⟩:=hI;have d:=RL.length;have Pc1:=aA.step Pc z;refine⟨λi n Q O=>∃E j L,i<=I.length/\n=I.length-i/\Step A H1 E O/\aS K E j O/\az K E O L Q/\ok O/\ab K E O I vs/\aA K A H1 D (kj (yU st b) (I.drop i) L j),
   ⟨I.length,A,m1,env,Wi _,rfl,.refl,y,G.mono S z,ok1,RL,Pc1⟩,?_⟩
  intro i n Q O zz;obtain⟨E,j,L,hi,rfl,T',c,G',o,RL',Pi⟩:=zz;by_cases u:i<I.length
  .refine .inr ⟨hJ.go i O o (by rw[<-d];exact u),λY H2=>∃B m2 M,i+1<=I.length/\Step A H1 B H2/\aS K B m2 H2/\az K B H2 M Y/\ok H2/\ab K B H2 I vs/\aA K A H1 D (kj (yU st b) (I.drop (i+1)) M m2),?_,λv H'' hy=>?_⟩
   .rintro Y H2 ⟨B,m2,M,q⟩;exact⟨I.length-(i+1),by lia,B,m2,M,q.1,rfl,q.2⟩
   .obtain ⟨rfl,hv⟩:=hJ.yld i O v H'' o (by rw[<-d];exact u) hy;obtain⟨v',hv',Rx⟩:=RL'.get (i:=i) (x:=I[i]) (by simp[u]);rw[hv]at hv';cases hv';rw[QM u]at Pi;refine gz hg (next:=λe m=>kj (yU st b) (I.drop (i+1)) e m) T' c G' Rx Pi ?_;intro B m2 e2 Y H2 U S2 G2 f;exact⟨B,m2,e2,u,T'.trans U,S2,G2,stab _ _ (c.kp U) o,RL'.mono c U,f⟩
  .have e:i=I.length:=by lia
   subst e;rw[W8]at Pi;exact .inl ⟨hJ.stop _ O o (by lia),Pi E O Q T' c G'⟩
 cases w with
 |T I=>exact⟨rfl,λA H1 J z y hI=>p I t A H1 J z y hI⟩
 |rol I=>exact⟨rfl,λA H1 J z y hI=>p I t A H1 J z y hI⟩
 |ref l=>
  have f:aA K as H D (wY (yU st b) l (ao+1) 0 env m1):=t;refine⟨?_,λA H1 J z y hI=>?_⟩
  .show (zD m1 l).isSome=true;cases e:zD m1 l with
   |some I=>rfl
   |none=>
    unfold wY at f;rw[e]at f;exact f.elim
  .obtain ⟨a,ha,rfl⟩:=hI;have Pc1:=aA.step f z;refine⟨λi n Q O=>∃E j L,E[l]?=some a/\Step A H1 E O/\aS K E j O/\az K E O L Q/\aA K A H1 D (wY (yU st b) l n i L j),⟨ao+1,A,m1,env,ha,.refl,y,G.mono S z,Pc1⟩,?_⟩;intro i n Q O zz;obtain⟨E,j,L,hl,T',c,G',Pi⟩:=zz;cases n with
   |zero=>exact Pi.elim
   |succ n=>
    unfold wY at Pi;cases e:zD j l with
    |none=>rw[e]at Pi;exact Pi.elim
    |some I=>
     rw[e]at Pi;simp only[]at Pi;obtain⟨a',vs,ha',eH,RL⟩:=yg c (zU e);rw[hl]at ha';cases ha';cases ex:I[i]? with
     |none=>
      rw[ex]at Pi;have hle:vs.length<=i:=by rw[<-RL.length];exact Q4.mp ex
      exact .inl ⟨⟨vs,bg.of eH,hle⟩,Pi E O Q T' c G'⟩
     |some x=>
      rw[ex]at Pi;obtain⟨v0,hv0,Rx⟩:=RL.get ex;refine .inr ⟨⟨vs,v0,bg.of eH,hv0⟩,λY H2=>∃B m2 M,B[l]?=some a/\Step A H1 B H2/\aS K B m2 H2/\az K B H2 M Y/\aA K A H1 D (wY (yU st b) l n (i+1) M m2),?_,λv H'' hy=>?_⟩
      .rintro Y H2 q;exact⟨n,Wy _,q⟩
      .obtain ⟨rfl,hy⟩:=hy;have:=hy vs (bg.of eH);rw[hv0]at this;cases this;refine gz hg (next:=λe m=>wY (yU st b) l n (i+1) e m) T' c G' Rx Pi ?_;intro B m2 e2 Y H2 U S2 G2 f;exact⟨B,m2,e2,U.get hl,T'.trans U,S2,G2,f⟩
 |N=>exact t.elim
 |bl k=>exact t.elim
 |int i=>exact t.elim
 |str s=>exact t.elim
set_option tactic.hygienic true in
def Kn (h:xB K (bJ cl (.while c b)) D σ H):tI (xN K (ae cl c)) (xB K (bJ cl b)) D σ H:=by
 obtain⟨as,j,m,S,G,P⟩:=h;refine⟨λn I Q=>∃B M A,Step as H B Q/\aS K B M Q/\az K B Q A I/\aA K as H D (jZ (ae cl c) (bJ cl b) n A M),⟨1000000,as,m,j,.refl,S,G,P⟩,?_⟩;intro n I Q e;obtain⟨B,M,A,d,u,z,Pi⟩:=e;cases n with
 |zero=>exact Pi.elim
 |succ n=>
  unfold jZ at Pi;refine⟨B,A,M,u,z,?_⟩;cases l:ae cl c A M with
  |no=>rw[l]at Pi;exact Pi.elim
  |ok w m1=>
   rw[l]at Pi;intro N H1 v Y g t;cases w with
   |bl k=>
    obtain rfl:=ah.mp t;refine⟨k,rfl,?_⟩;cases k with
    |false=>exact fj (Pi N H1 I (d.trans Y) g (z.mono u Y))
    |true=>
     refine fi ⟨λO H2=>∃J m2 E,Step as H J H2/\aS K J m2 H2/\az K J H2 E O/\aA K as H D (jZ (ae cl c) (bJ cl b) n E m2),λO H2 q=>⟨n,Wy _,q⟩,N,A,m1,g,z.mono u Y,?_⟩;simp only[]at Pi;have f:=d.trans Y;cases o:bJ cl b A m1 with
     |next s m3=>rw[o]at Pi;exact λL H3 i U p a=>⟨L,m3,s,f.trans U,p,a,Pi⟩
     |ret w' m3=>rw[o]at Pi;exact λL H3 y U p x=>Pi L H3 y (f.trans U) p x
     |no=>rw[o]at Pi;exact Pi.elim
   |_=>exact Pi.elim
end
section
variable{X:Cx}{cl:O1}
noncomputable def w6(n j:Nat):Ex->Bool
 |.V i=>decide (i<n) && ! decide (i=j)
 |.lit _=>true
 |.u=>true
 |.p a b=>w6 n j a&&w6 n j b
 |.call _ a=>w6 n j a
 |.blt _ a=>w6 n j a
 |.i a b=>w6 n j a&&w6 n j b
 |_=>false
def sW (h:∀i,i<n->i≠j->e1[i]?=e2[i]?)(e:Ex):∀(m:Me),w6 n j e=true->ae cl e e1 m=ae cl e e2 m:=by
 induction e with
 |V i=>
  intro m q;have q:=Wh.mp (show(decide (i<n) && ! decide (i=j))=true from q);show(match e1[i]? with|some (some w)=>Rz.ok w m|_=>.no)=(match e2[i]? with|some (some w)=>Rz.ok w m|_=>.no);rw[h i (OG q.1) (by simpa using q.2)]
 |lit _=>exact λ_ _=>rfl
 |u=>exact λ_ _=>rfl
 |p a b A B=>
  intro m q;have q:=Wh.mp (show(w6 n j a&&w6 n j b)=true from q);show(ae cl a e1 m).bind (λx m1=>(ae cl b e1 m1).bind λy m2=>.ok (.T (x::zK y)) m2)=(ae cl a e2 m).bind (λx m1=>(ae cl b e2 m1).bind λy m2=>.ok (.T (x::zK y)) m2);rw[A m q.1];congr 1;funext x m1;rw[B m1 q.2]
 |call k a A=>
  intro m q;show(ae cl a e1 m).bind _=(ae cl a e2 m).bind _;rw[A m q]
 |blt k a A=>
  intro m q;show(ae cl a e1 m).bind _=(ae cl a e2 m).bind _;rw[A m q]
 |i a b A B=>
  intro m q;have q:=Wh.mp (show(w6 n j a&&w6 n j b)=true from q);show(ae cl a e1 m).bind (λx m1=>(ae cl b e1 m1).bind λy m2=>jY x y m2)=(ae cl a e2 m).bind (λx m1=>(ae cl b e2 m1).bind λy m2=>jY x y m2);rw[A m q.1];congr 1;funext x m1;rw[B m1 q.2]
 |_=>exact λ_ q=>OD (show false=true from q) (by decide)
noncomputable def dZ(p:T9×Wd):Wd:=.T [.str p.1,p.2]
def Ec(ws:List (T9×Wd))(i:Nat)(m:Me):zG .ptp (.T (ws.map dZ)) (.int 0) i m=some (ws[i]?.map λp=>(.str p.1,p.2)):=by
 show(match (ws.map dZ)[i]? with
  |none=>some none
  |some w=>(iC w).map some)=_
 rw[Qq];cases ws[i]?<;>rfl
def HL {ws:List (T9×Wd)}(hj:j<env.length)(le:w6 (env.length+1) j elt=true)(lm:w6 (env.length+1) j mx=true)(S:aS X.K as m H)(G:az X.K as H (env.set j none) σ)(l:σ[j]?=some (some (.ref p)))(hp:H p=some (wU p o))(np:p∉as)(f:FO X.prog X.w p o ep kvs)(hl:kvs.length=ws.length)(hk:∀(i:Nat) (k:T9) (w:Wd),ws[i]?=some (k,w)->∃v,kvs[i]?=some ((Sum.inr ⟨k.toArray⟩:bT),v)/\wI kvs (Sum.inr ⟨k.toArray⟩)=some v/\ai X.K as H w v)(P:ak X.K as H Q (ym (λu v m=>ae cl (.cmp .eq (.V (env.length+1)) mx) (env++[some u]++[some v]) m) (λu v m=>ae cl elt (env++[some u]++[some v]) m) (zG .ptp (.T (ws.map dZ)) (.int 0)) (ao+1) 0 [] m)):
  jl lJ (A9 X (qd j)) (ll (eK (rC X.K .eq) (eK (qH X) (qd j) (qd env.length)) (aK X.K (ae cl mx)))) (aK X.K (ae cl elt)) σ H Q:=by
 have g:j<σ.length:=(Qa.mp l).1;have t:env.length=σ.length:=by have:=G.len;simpa using this
 refine⟨.ref p,l,p,o,ep,kvs,rfl,f,hp,λD s=>?_⟩;refine⟨λi n ys H'=>∃B I A,cP X.K as H D (env.set j none) σ B I A ys H' /\
  ak X.K as H Q (ym (λu v m=>ae cl (.cmp .eq (.V (env.length+1)) mx) (env++[some u]++[some v]) m) (λu v m=>ae cl elt (env++[some u]++[some v]) m) (zG .ptp (.T (ws.map dZ)) (.int 0)) n i A I),⟨ao+1,as,m,[],cP.start (as:=as) (H:=H) S G s,P⟩,?_⟩
 intro i n ys H' zz;obtain⟨B,I,A,M,Pi⟩:=zz;have J:=M.T.frame _ _ hp np;cases n with
 |zero=>exact Pi.elim
 |succ n=>
  unfold ym at Pi;rw[Ec]at Pi;cases d:ws[i]? with
  |none=>
   rw[d]at Pi;have hi:=Q4.mp d;exact .inl ⟨⟨J,by lia⟩,xQ M.S M.T s M.hD M.n M.R Pi⟩
  |some kw=>
   obtain⟨k,w⟩:=kw;rw[d]at Pi;obtain⟨v,O,h,R⟩:=hk i k w d;have hi:=(Qa.mp O).1;refine .inr ⟨⟨J,hi⟩,λx a hy=>?_⟩;obtain⟨rfl,kv,U,rfl⟩:=hy;rw[O]at U;cases U;have E:∀N,N<env.length+1->N≠j->(env++[some (Wd.str k)]++[some w])[N]?=(env.set j none++[some (Wd.str k)])[N]?:=λN h1 h2=>by
    rw[Qf (by simp;lia)];by_cases z:N<env.length
    .rw[Qf z,Qf (by simpa using z),QO (λe=>h2 e.symm)]
    .rw[Qe (by lia),Qe (by simp;lia),Vc]
   have Y:∀m,ae cl (.V (env.length+1)) (env++[some (Wd.str k)]++[some w]) m=.ok w m:=λm=>by
    show(match (env++[some (Wd.str k)]++[some w])[env.length+1]? with|some (some w)=>Rz.ok w m|_=>.no)=_;rw[Qe (by simp)];simp
   have e1:∀m,ae cl (.cmp .eq (.V (env.length+1)) mx) (env++[some (Wd.str k)]++[some w]) m=(ae cl mx (env.set j none++[some (Wd.str k)]) m).bind λy m2=>dq .eq w y m2:=λm=>by
    show(ae cl (.V (env.length+1)) _ m).bind (λx m1=>(ae cl mx _ m1).bind λy m2=>dq .eq x y m2)=_;rw[Y m];show(ae cl mx (env++[some (Wd.str k)]++[some w]) m).bind (λy m2=>dq .eq w y m2)=_;rw[sW E mx m lm]
   have Pi:ak X.K as H Q (((ae cl mx (env.set j none++[some (Wd.str k)]) I).bind λy m2=>dq .eq w y m2).bind λb m1=>match b with
     |.bl true=>(ae cl elt (env++[some (Wd.str k)]++[some w]) m1).bind λz m2=>if A.length<ao then ym (λu v m=>ae cl (.cmp .eq (.V (env.length+1)) mx) (env++[some u]++[some v]) m) (λu v m=>ae cl elt (env++[some u]++[some v]) m) (zG .ptp (.T (ws.map dZ)) (.int 0)) n (i+1) (A++[z]) m2 else .no
     |.bl false=>ym (λu v m=>ae cl (.cmp .eq (.V (env.length+1)) mx) (env++[some u]++[some v]) m) (λu v m=>ae cl elt (env++[some u]++[some v]) m) (zG .ptp (.T (ws.map dZ)) (.int 0)) n (i+1) A m1
     |_=>.no):=by
    have:=Pi;simp only[QR]at this;rw[e1]at this;exact this
   have G1:az X.K B a (env.set j none++[some (Wd.str k)]) (σ++[some (V.str ⟨k.toArray⟩)]):=M.G.push (aN.mpr rfl);refine⟨[V.str ⟨k.toArray⟩],rfl,?_⟩;refine⟨.ref p,by rw[Qf g];exact l,.str ⟨k.toArray⟩,by rw[t,Qe (Qh _)];simp,p,o,ep,kvs,Sum.inr ⟨k.toArray⟩,v,rfl,rfl,f,J,h,?_⟩;have Pi':ak X.K as H Q ((ae cl mx (env.set j none++[some (Wd.str k)]) I).bind λy m2=>(dq .eq w y m2).bind λb m1=>match b with
     |.bl true=>(ae cl elt (env++[some (Wd.str k)]++[some w]) m1).bind λz m2=>if A.length<ao then ym (λu v m=>ae cl (.cmp .eq (.V (env.length+1)) mx) (env++[some u]++[some v]) m) (λu v m=>ae cl elt (env++[some u]++[some v]) m) (zG .ptp (.T (ws.map dZ)) (.int 0)) n (i+1) (A++[z]) m2 else .no
     |.bl false=>ym (λu v m=>ae cl (.cmp .eq (.V (env.length+1)) mx) (env++[some u]++[some v]) m) (λu v m=>ae cl elt (env++[some u]++[some v]) m) (zG .ptp (.T (ws.map dZ)) (.int 0)) n (i+1) A m1
     |_=>.no):=by
    cases z:ae cl mx (env.set j none++[some (Wd.str k)]) I with
    |ok y m2=>rw[z]at Pi;exact Pi
    |no=>rw[z]at Pi;exact Pi
   refine⟨B,_,I,M.S,G1,eX Pi' M.T λy m2 as2 H2 u T2 S2 R2 P2=>?_⟩;have M2:=M.go T2 S2;refine⟨as2,m2,w,y,S2,(R.mono S M.T).mono M.S T2,R2,eX P2 M2.T λwb m3 q H3 vb T3 S3 R3 P3=>?_⟩;have M3:=M2.go T3 S3;cases wb with
   |bl b=>
    obtain rfl:=ah.mp R3;refine⟨b,rfl,?_⟩;cases b with
    |false=>exact fj ⟨n,Wy _,q,m3,A,M3,P3⟩
    |true=>
     have P3:ak X.K as H Q ((ae cl elt (env++[some (Wd.str k)]++[some w]) m3).bind λz m2=>if A.length<ao then ym (λu v m=>ae cl (.cmp .eq (.V (env.length+1)) mx) (env++[some u]++[some v]) m) (λu v m=>ae cl elt (env++[some u]++[some v]) m) (zG .ptp (.T (ws.map dZ)) (.int 0)) n (i+1) (A++[z]) m2 else .no):=P3;rw[sW E elt m3 le]at P3;refine fi ⟨q,_,m3,S3,(G1.mono M.S T2).mono S2 T3,eX P3 M3.T λwy m4 as4 H4 vy T4 S4 R4 c=>?_⟩;have M4:=M3.go T4 S4;by_cases L:A.length<ao
     .rw[OB L]at c;exact⟨M4.hD,by rw[<-M4.R.length];exact Qp L yQ,n,Wy _,as4,m4,A++[wy],M4.push s R4,c⟩
     .rw[OC L]at c;exact c.elim
   |_=>exact P3.elim
def Eb(k:T9)(a:Ex)(env:En)(m:Me):ae cl (db k a) env m=(ae cl a env m).bind λw m1=>.ok (dZ (k,w)) m1:=by
 show((((ae cl a env m).bind λy m2=>(Rz.ok (.T []) m2).bind λz m3=>.ok (.T (y::zK z)) m3).bind λy m2=>.ok (.T (Wd.str k::zK y)) m2).bind λx m1=>if(zK x).length<=ao then .ok (.T (zK x)) m1 else .no)=_;cases ae cl a env m with
 |ok w m1=>
  show(if([Wd.str k,w]:U4).length<=ao then Rz.ok (.T [.str k,w]) m1 else .no)=_;rw[OB (show([Wd.str k,w]:U4).length<=ao by show 2<=ao;decide)];rfl
 |no=>rfl
def HK (H:ae cl (ku a b c d) env m=.ok w m'):
  ∃A m1 B m2 E m3 wd,ae cl a env m=.ok A m1/\ae cl b env m1=.ok B m2/\ae cl c env m2=.ok E m3/\ae cl d env m3=.ok wd m'/\w=.T [A,B,E,wd]:=by
 refine aP λf I=>?_;obtain⟨z,J,L,G⟩:=cZ (show(ae cl (.p a (.p b (.p c (.p d .u)))) env m).bind (λx m1=>if(zK x).length<=ao then Rz.ok (.T (zK x)) m1 else .no)=_ from H);obtain⟨A,m1,M,N⟩:=cZ (show(ae cl a env m).bind (λx m1=>(ae cl (.p b (.p c (.p d .u))) env m1).bind λy m2=>Rz.ok (.T (x::zK y)) m2)=_ from L);obtain⟨e,t,O,Q⟩:=cZ N;obtain⟨B,m2,U,Y⟩:=cZ (show(ae cl b env m1).bind (λx m1=>(ae cl (.p c (.p d .u)) env m1).bind λy m2=>Rz.ok (.T (x::zK y)) m2)=_ from O);obtain⟨s,n,j,k⟩:=cZ Y;obtain⟨E,m3,q,u⟩:=cZ (show(ae cl c env m2).bind (λx m1=>(ae cl (.p d .u) env m1).bind λy m2=>Rz.ok (.T (x::zK y)) m2)=_ from j);obtain⟨h,i,o,p⟩:=cZ u;obtain⟨wd,m4,l,g⟩:=cZ (show(ae cl d env m3).bind (λx m1=>(Rz.ok (.T []) m1).bind λy m2=>Rz.ok (.T (x::zK y)) m2)=_ from o);refine I ?_;cases g;cases p;cases k;cases Q
 replace G:(if([A,B,E,wd]:U4).length<=ao then Rz.ok (.T [A,B,E,wd]) J else .no)=.ok w m':=G
 rw[OB (show([A,B,E,wd]:U4).length<=ao by show 4<=ao;decide)]at G;cases G;exact⟨A,m1,B,m2,E,m3,wd,M,U,q,l,rfl⟩
def jE (h:ae cl (db k a) env m=.ok w m'):∃u,ae cl a env m=.ok u m'/\w=dZ (k,u):=by
 rw[Eb]at h;obtain⟨u,m1,A,B⟩:=cZ h;cases B;exact⟨u,A,rfl⟩
def HJ {K:Qb}(h:aA K as H D (r.bindS env λw m1=>.ret w m1)):ak K as H D.rt r:=by
 cases r with
 |ok w A=>exact h
 |no=>exact h
def Ea {c1 c2 c3 c4}(hu:X.A.units+64<Nj)(hc:X.calm=true)(hN:X.N.Nodup)(hj:X.N[j]?=some J)(hl:Loc X.env.scope J)(hf:X.fn J=true)(e1:s1.cps.toList=Y)(e2:s2.cps.toList=l)(e3:s3.cps.toList=g)(e4:s4.cps.toList=t)(n12:Y≠l)(n13:Y≠g)(n14:Y≠t)(n23:l≠g)(n24:l≠t)(n34:g≠t)(hsw:MT (.Dict [some (.Constant (.str s1) c1 p1),some (.Constant (.str s2) c2 p2),some (.Constant (.str s3) c3 p3),some (.Constant (.str s4) c4 p4)] [x1,x2,x3,x4] pd) (some (.Name J p0)) pa.line X.env=pure false)(ha:PE X x1 (aK X.K (ae cl a)))(n:PE X x2 (aK X.K (ae cl b)))(hcc:PE X x3 (aK X.K (ae cl c)))(hd:PE X x4 (aK X.K (ae cl d)))(hv:PE X (.Name J pi) (qd j))(B:bM X L [E])(hm:∀M,bt X L [E] M->PE M (.Name J pm) (qd j)/\PE M (.Name E ps) (qd X.N.length)/\PE M xm (aK X.K (ae cl mx))/\PE M xe (aK X.K (ae cl elt)))(hmk:Ni .Eq xm=false)(le:w6 (X.N.length+1) j elt=true)(lm:w6 (X.N.length+1) j mx=true):
  cJ X [.Assign [.Name J p0] (.Dict [some (.Constant (.str s1) c1 p1),some (.Constant (.str s2) c2 p2),some (.Constant (.str s3) c3 p3),some (.Constant (.str s4) c4 p4)] [x1,x2,x3,x4] pd) pa,
   .Return (some (.ListComp xe [⟨.Name E pt,.Name J pi,[.Compare (.Subscript (.Name J pm) (.Name E ps) pq) [.Eq] [xm] pc],0⟩] L pl)) pr] (xB X.K (bJ cl (.ret (ip X.N.length Y l g t a b c d mx elt)))):=by
 obtain rfl:=lw e1;obtain rfl:=lw e2;obtain rfl:=lw e3;obtain rfl:=lw e4;intro pins s σ H D I h;have hlen:=I.len;have body:∀M,bt X L [E] M->fN M [.Compare (.Subscript (.Name J pm) (.Name E ps) pq) [.Eq] [xm] pc] (ll (eK (rC X.K .eq) (eK (qH X) (qd j) (qd X.N.length)) (aK X.K (ae cl mx))))/\PE M xe (aK X.K (ae cl elt)):=λM c=>by
  refine aP λzP zk=>?_;obtain⟨h1,h2,h3,h4⟩:=hm M c;refine zk ?_;refine⟨qZ ?_,h4⟩;have q:=uD (pos:=pc) (j6 (X:=M) (by rw[c.A];exact hu) .eq) (lg (pos:=pq) oO h1 h2 (λ_ _=>rfl)) h3 hmk;have er:qH M=qH X:=by unfold qH;rw[c.prog,c.w]
  rw[c.K,er]at q;exact q
 refine(AT (nq hN hj hl (IS (kC jR ha (kC jR n (kC jR hcc (kC jR hd F6)))) rfl rfl (by simp) (by show 4<=15;decide)) hsw (.inl hf)) (Ae (tJ (vt B hc (v8 B) (IT hv) body)))) pins s σ H D I ?_;refine aP λzP zj=>?_;obtain⟨as,A,m,S,G,P⟩:=h;refine zj ?_;have O:A.length=X.N.length:=by rw[G.len,hlen]
 have P:ak X.K as H D.rt ((ae cl (ku (db Y a) (db l b) (db g c) (db t d)) A m).bind λx m1=>(Rz.ok (.int 0) m1).bind λy m2=>
   ym (λu v m=>ae cl (.cmp .eq (.V (X.N.length+1)) mx) (A++[some u]++[some v]) m) (λu v m=>ae cl elt (A++[some u]++[some v]) m) (zG .ptp x y) (ao+1) 0 [] m2):=HJ P
 cases hr:ae cl (ku (db Y a) (db l b) (db g c) (db t d)) A m with
 |no=>rw[hr]at P;exact P.elim
 |ok w m4=>
  rw[hr]at P;refine aP λzP zi=>?_;obtain⟨ta,m1,tb,m2,tc,m3,td,ea,eb,ec,ed,rfl⟩:=HK hr;obtain⟨wa,fa,rfl⟩:=jE ea;obtain⟨wb,fb,rfl⟩:=jE eb;obtain⟨wc,fc,rfl⟩:=jE ec;obtain⟨wd,fd,rfl⟩:=jE ed;refine zi ?_;intro p U;have T0:Step as H as (aL H p (.dK [])):=⟨⟨[],by simp⟩,λb o h _=>by rw[zu (zF h U)];exact h,λb n=>.inl n⟩;have S0:aS X.K as m (aL H p (.dK [])):=S.keep T0 λb _ o e=>by rw[zu (zF e U)];exact e
  have G0:=G.mono S T0;have h0:aL H p (.dK []) p=some (.dK []):=zw;have n0:p∉as:=S.new U;refine⟨as,A,m,S0,G0,?_⟩;rw[fa];intro as1 H1 va T1 S1 R1;have h1:=T1.frame _ _ h0 n0;have n1:=T1.out h0 n0;have G1:=G0.mono S0 T1;refine⟨as1,A,m1,S1,G1,?_⟩;rw[fb];intro as2 H2 vb T2 S2 R2;have h2:=T2.frame _ _ h1 n1;have n2:=T2.out h1 n1;have G2:=G1.mono S1 T2;refine⟨as2,A,m2,S2,G2,?_⟩;rw[fc];intro as3 H3 vc T3 S3 R3;have h3:=T3.frame _ _ h2 n2;have n3:=T3.out h2 n2;have G3:=G2.mono S2 T3;refine⟨as3,A,m3,S3,G3,?_⟩;rw[fd];intro as4 H4 vd T4 S4 R4;have h4:=T4.frame _ _ h3 n3;have n4:=T4.out h3 n3;have G4:=G3.mono S3 T4;have ne:∀{u v:T9},u≠v->(Sum.inr ⟨u.toArray⟩:bT)≠Sum.inr ⟨v.toArray⟩:=λ{u v} h e=>h (by
   have e:=Sum.inr.inj e;have e:u.toArray=v.toArray:=Str.mk.inj e;simpa using OE W2 e)
  refine⟨h4,[((Sum.inr ⟨Y.toArray⟩:bT),va),(Sum.inr ⟨l.toArray⟩,vb),(Sum.inr ⟨g.toArray⟩,vc),(Sum.inr ⟨t.toArray⟩,vd)],rfl,(by show 4<=15;decide),by simp[n12,n13,n14,n23,n24,n34],λo ep f=>?_⟩;have T04:=((T0.trans T1).trans T2).trans (T3.trans T4);have T5:Step as H as4 (aL H4 p (wU p o)):=⟨T04.pre,λb o h n=>by rw[zu (zF h U)];exact T04.frame b o h n,T04.fresh⟩;have k6:Kp X.K H4 (aL H4 p (wU p o)):=Kp.updL h4 trivial;have S5:aS X.K as4 m4 (aL H4 p (wU p o)):=S4.updK k6 λb n o e=>by rw[zu (by rintro rfl;exact n4 n)];exact e
  have G5:az X.K as4 (aL H4 p (wU p o)) (A.set j none) (σ.set j (some (.ref p))):=by
   have Gk:=G4.kp k6;refine⟨by simp[Gk.len],λi w e=>?_⟩;by_cases z:i=j
   .subst z;rw[List.getElem?_set_self' ]at e;cases hz:A[i]? with
    |none=>rw[hz]at e;cases e
    |some q=>rw[hz]at e;cases e
   .rw[QO (λq=>z q.symm)]at e ⊢;exact Gk.get i w e
  have hjn:j<X.N.length:=(Qa.mp hj).1;have res:=HL (X:=X) (cl:=cl) (elt:=elt) (mx:=mx) (env:=A) (σ:=σ.set j (some (.ref p))) (m:=m4) (H:=aL H4 p (wU p o)) (Q:=D.rt) (p:=p) (o:=o) (ep:=ep) (j:=j) (ws:=[(Y,wa),(l,wb),(g,wc),(t,wd)])
   (by lia) (by rw[O];exact le) (by rw[O];exact lm) S5 G5 (by rw[Wj (by lia)]) zw n4 f rfl (λi k w N=>by
    match i,N with
    |0,N=>cases N;exact⟨va,rfl,by simp[wI],((((R1.mono S1 T2).mono S2 T3).mono S3 T4).kp k6)⟩
    |1,N=>cases N;exact⟨vb,rfl,by simp[wI,n12],(((R2.mono S2 T3).mono S3 T4).kp k6)⟩
    |2,N=>cases N;exact⟨vc,rfl,by simp[wI,n13,n23],((R3.mono S3 T4).kp k6)⟩
    |3,N=>cases N;exact⟨vd,rfl,by simp[wI,n14,n24,n34],(R4.kp k6)⟩
    |i+4,N=>simp at N) (by
    rw[O];exact ak.step P T5)
  rw[O]at res;exact res
end
section
variable{K:Qb}{cl:O1}
def HI (e:m[l]?=some (.D A ws)):kq m l=A.length:=by
 unfold kq;rw[e]
def Gy {xs:List TK}{i:Nat}(h:xs[i]?=some k):(xs.map (·.1))[i]?=some k.1:=by rw[Qq,h];rfl
def JE (hK:X.K=K)(h:xB K (bJ cl (.forD i x body)) D σ H):
  mF (A8 X (aK K (ae cl (.V x)))) (v5 i) (xB K (bJ cl body)) D σ H:=by
 subst hK;refine aP λt zk=>?_;obtain⟨as,A,m,S,G,P⟩:=h;refine zk ?_;refine⟨as,A,m,S,G,aA.bind P λw m1 E H1 v T1 S1 R1 P1=>?_⟩;cases w with
 |ref l=>
  have M:aA X.K E H1 D (x6 (yU (λw A=>some (A.set i (some w))) (bJ cl body)) l (kq m1 l) (ao+1) 0 A m1):=P1;cases e:m1[l]? with
  |none=>unfold x6 at M;rw[e]at M;exact M.elim
  |some o=>
   cases o with
   |L ys=>unfold x6 at M;rw[e]at M;exact M.elim
   |D ks ws=>
    refine aP λt zj=>?_;obtain⟨a,z,vs,rfl,ha,td,ek,_,_⟩:=GF S1 e R1;refine zj ?_;have hn:kq m1 l=z.length:=by rw[HI e,<-ek,Qi]
    rw[hn]at M;refine⟨a,z,rfl,td,λp n j d=>∃B s J,B[l]?=some a/\Step E H1 B d/\aS X.K B s d/\az X.K B d J j/\aA X.K E H1 D (x6 (yU (λw A=>some (A.set i (some w))) (bJ cl body)) l z.length n p J s),⟨ao+1,E,m1,A,ha,.refl,S1,G.mono S T1,M⟩,?_⟩;intro p n j d zz;refine aP λt zi=>?_;obtain⟨B,s,J,hl,y,S',G',Pi⟩:=zz;refine zi ?_;cases n with
    |zero=>exact Pi.elim
    |succ n=>
     unfold x6 at Pi;cases b:s[l]? with
     |none=>rw[b]at Pi;exact Pi.elim
     |some o=>
      cases o with
      |L ys=>rw[b]at Pi;exact Pi.elim
      |D N ws'=>
       rw[b]at Pi;dsimp only at Pi;refine aP λt zh=>?_;obtain⟨a',O,vs',c,Q,g,r',rv',_⟩:=j5 S' b;refine zh ?_;rw[hl]at c;cases c;have lk:N.length=O.length:=by rw[<-g,Qi]
       by_cases hc:N.length=z.length
       .rw[OB hc]at Pi;cases f:N[p]? with
        |none=>
         rw[f]at Pi;have:=Q4.mp f;exact .inl ⟨⟨O,Q,by lia,by lia⟩,Pi B d j y S' G'⟩
        |some q=>
         rw[f]at Pi;have hi:p<N.length:=(Qa.mp f).1;refine .inr ⟨⟨O,Q,by lia,by lia⟩,λu H2=>∃I m2 Y,I[l]?=some a/\Step E H1 I H2/\aS X.K I m2 H2/\az X.K I H2 Y u/\aA X.K E H1 D (x6 (yU (λw A=>some (A.set i (some w))) (bJ cl body)) l z.length n (p+1) Y m2),?_,λv H'' hy=>?_⟩
         .rintro u H2 q;exact⟨n,Wy _,q⟩
         .refine aP λt zg=>?_;obtain⟨rfl,hy⟩:=hy;obtain⟨k,hk,rfl⟩:=hy O Q;refine zg ?_;have eq:k.1=q:=by
           have:=Gy hk;rw[g,f]at this;exact(Option.some.inj this).symm
          have Rk:ai X.K B H'' (.T (q.map Wd.int)) (.ref k.2.1):=ag.mpr ⟨k.2.1,q.map V.int,rfl,eq▸Q.2 k (Qv hk),ja q⟩;refine gz (AB i) (next:=λe m=>x6 (yU (λw A=>some (A.set i (some w))) (bJ cl body)) l z.length n (p+1) e m) y S' G' Rk Pi ?_;intro I m2 e2 u H2 U S2 G2 M;exact⟨I,m2,e2,U.get hl,y.trans U,S2,G2,M⟩
       .rw[OC hc]at Pi;exact Pi.elim
 |_=>exact P1.elim
end
set_option genInjectivity false in
inductive Ns where
 |s (st:Stmt)|b (sts:S9)
noncomputable def gC(A:Mw)(x:Str):Bool:=decide (A.names.lookup x=some .local) || decide (A.names.lookup x=some .cell)
noncomputable def rg(cl:O1)(X:Cx)(s:Sm):Ns->Prop
 |.s st=>PS X st (xB X.K (bJ cl s))
 |.b A=>cJ X A (xB X.K (bJ cl s))
structure eT(X:Cx):Prop where
 nd:X.N.Nodup
 fn:∀x,X.fn x=true
 hp:PassesOwn (ML X.prog X.w) X.A X.env X.xe
section
variable{cl:O1}
def w9 (h:gC A x=true):Loc A x:=by
 unfold gC at h;simp only[Vf,OH]at h;exact h
def nP (k:X.calm=true)(L:eT X)(U:X.N[i]?=some I)(hl:Loc X.env.scope I)(B:bM X A xs)(u:iP X A xs M g un)(z:PI X M w o)(body:∀N,bt X A xs N->fN N fs tc/\PE N x te)(J:∀v,Nc w X.env v=pure v)(G:∀σ H Q,aK X.K (ae cl Y) σ H Q->jl un o tc te σ H Q)(p:PE X (.ListComp x [⟨M,w,fs,0⟩] A E) (aK X.K (ae cl Y))):
  PS X (.Assign [.Name I d] (.ListComp x [⟨M,w,fs,0⟩] A E) pos) (xB X.K (bJ cl (.a i Y))):=by
 have O:∃b:Bool,MT (.ListComp x [⟨M,w,fs,0⟩] A E) (some (.Name I d)) pos.line X.env=pure b:=⟨_,rfl⟩;obtain⟨b,j⟩:=O;cases b with
 |false=>exact PS.imp (nq L.nd U hl p j (.inl (L.fn I))) λD σ H q=>gw q
 |true=>
  refine PS.imp (J9 B k u z body L.nd U hl (.inl (L.fn I)) j J) λD σ H q=>?_;exact G _ _ _ (gw q)
structure bR(C:Ctx)(sc:Mw)(N:T8)(s:Sm)(n:Ns):Prop where
 h:∀(cl:Nat → U4 → Me → Rz) (d:Nat) (X:Cx),bY C X cl d → eT X → X.env.scope=sc → X.N=N → rg cl X s n
def D9 (A:bY C X cl d)(B:eT X)(h:bR C X.env.scope X.N s n):rg cl X s n:=h.h cl d X A B rfl rfl
def bR.«skip0»{C:Ctx}{A:Mw}{N:T8}:bR C A N .skip (.b []):=by
 constructor;intro cl d X G H B E;subst B;subst E;exact GD
def bR.«one»{C:Ctx}{A:Mw}{N:T8}{s:Sm}{st:Stmt}(h:bR C A N s (.s st)):bR C A N s (.b [st]):=by
 constructor;intro cl d X B E G H;subst G;subst H;have I:=h.h cl d X B E rfl rfl;exact Ae I
def bR.«seq»{C:Ctx}{B:Mw}{N:T8}{a b:Sm}{st A:Stmt}{r:S9}(J:bR C B N a (.s st))(L:bR C B N b (.b (A::r))):bR C B N (.seq a b) (.b (st::A::r)):=by
 constructor;intro cl d X H I M O;subst M;subst O;have E:=J.h cl d X H I rfl rfl;have G:=L.h cl d X H I rfl rfl;exact Ef E G
def bR.«a»{C:Ctx}{A:Mw}{N:T8}{i:Nat}{e:Ex}{x:Str}{v:Expr}{p E:Pos}(G:gv v=false)(I:N[i]?=some x)(J:gC A x=true)(L:zA e=false)(M:aB C A N e (.e v)):bR C A N (.a i e) (.s (.Assign [.Name x p] v E)):=by
 constructor;intro cl d X O B Q U;subst Q;subst U;exact PS.imp (nq B.nd I (w9 J) ((yu M X O rfl rfl).pe L) (nB G) (.inl (B.fn _))) λD Y H q=>gw q
def bR.«asgC0»{C:Ctx}{B:Mw}{N:T8}{i:Nat}{elt it:Ex}{x y:Str}{z w:Expr}{A:Mw}{p Y q j:Pos}(k:N[i]?=some x)(u:gC B x=true)(L:yJ w=true)(J:bP B N A [y]=true)(M:aB C B N it (.e w))(O:zA elt=false)(U:aB C (yn A B) (yE N [y]) elt (.e z)):
   bR C B N (.a i (.comp elt it (.lit (.bl true)))) (.s (.Assign [.Name x p] (.ListComp z [⟨.Name y q,w,[],0⟩] A j) Y)):=by
 constructor;intro cl d X I o l g;subst l;subst g;have E:∀v,Nc w X.env v=pure v:=yV L;refine nP (fs:=[]) (tc:=_) I.calm o k (w9 u) (yi J) (v8 (yi J)) ((yu M X I rfl rfl).2 _) (te:=aK X.K (ae cl elt)) (λf c=>⟨vq,?_⟩) E (λt H Q q=>vE (λt H Q q=>?_) q) ((yu (aB.comp0 L J M O U) X I rfl rfl).pe rfl)
 .have q:=(yu U f (I.comp c) c.sc c.N).pe O;rw[c.K]at q;exact q
 .obtain ⟨as,s,m,S,G,P⟩:=q;obtain⟨b,e,q⟩:=ak.ok (m:=m) P S (ah.mpr rfl);cases e;exact q
def bR.«asgC1»{C:Ctx}{B:Mw}{N:T8}{i:Nat}{elt it cond:Ex}{x y:Str}{z w f:Expr}{A:Mw}{p u q o:Pos}(l:N[i]?=some x)(g:gC B x=true)(J:yJ w=true)(I:bP B N A [y]=true)(L:aB C B N it (.e w))(M:zA cond=false)(O:jz cond=false)(U:aB C (yn A B) (yE N [y]) cond (.e f))(Y:zA elt=false)(j:aB C (yn A B) (yE N [y]) elt (.e z)):
   bR C B N (.a i (.comp elt it cond)) (.s (.Assign [.Name x p] (.ListComp z [⟨.Name y q,w,[f],0⟩] A o) u)):=by
 constructor;intro cl d X E e t s;subst t;subst s;have G:∀v,Nc w X.env v=pure v:=yV J;refine nP (fs:=[f]) (tc:=_) E.calm e l (w9 g) (yi I) (v8 (yi I)) ((yu L X E rfl rfl).2 _) (te:=aK X.K (ae cl elt)) (λk c=>⟨qZ ?_,?_⟩) G (λm H Q q=>vE (λm H Q q=>q) q) ((yu (aB.comp1 J I L M O U Y j) X E rfl rfl).pe rfl)
 .have q:=(yu U k (E.comp c) c.sc c.N).pt M O;rw[c.K]at q;exact q
 .have q:=(yu j k (E.comp c) c.sc c.N).pe Y;rw[c.K]at q;exact q
def bR.«asgCZ0»{C:Ctx}{E:Mw}{N:T8}{i:Nat}{elt a b:Ex}{x y J:Str}{z w L:Expr}{A:Mw}{p l q g f t s pt:Pos}{kt:Nat}(n:N[i]?=some x)(h:gC E x=true)(U:dE E "zip"=true)(M:bP E N A [y,J]=true)(O:zI w=true)(B:zI L=true)(Y:zA a=false)(j:aB C E N a (.e w))(rb:zA b=false)(k:aB C E N b (.e L))(u:zA elt=false)(o:aB C (yn A E) (yE N [y,J]) elt (.e z)):
   bR C E N (.a i (.compP .zip elt a b (.lit (.bl true)))) (.s (.Assign [.Name x p] (.ListComp z [⟨.Tuple [.Name y q,.Name J f] kt pt,.Call (.Name "zip" t) [w,L] [] s,[],0⟩] A g) l)):=by
 constructor;intro cl d X I hX es eN;subst es;subst eN;refine nP (fs:=[]) (tc:=_) I.calm hX n (w9 h) (yi M) (jB I.calm (yi M)) (sZ (x8 U) (I.blt _ (by simp[zO])) (yR ((yu j X I rfl rfl).pe Y) (yR ((yu k X I rfl rfl).pe rb) wF (zy B)) (zy O)) (by rw[zy O,zy B];rfl) (zy B)) (te:=aK X.K (ae cl elt)) (λXc c=>⟨vq,?_⟩) (λ_=>rfl) (λσ H Q q=>gn (λσ H Q q=>?_) q) ((yu (aB.compZ0 U M O B Y j rb k u o) X I rfl rfl).pe rfl)
 .have q:=(yu o Xc (I.comp c) c.sc c.N).pe u;rw[c.K]at q;exact q
 .obtain ⟨as,env,m,S,G,P⟩:=q;obtain⟨b,e,q⟩:=ak.ok (m:=m) P S (ah.mpr rfl);cases e;exact q
def bR.«sel»{C:Ctx}{G:Mw}{N:T8}{a b c d elt mx:Ex}{I J L M:T9}{o p l g E A:Str}{j:Nat}{f e t s m O:Expr}{B:Mw}{x c2 c3 c4}{p0 p1 p2 p3 p4 pd pa pt pi pm ps pq pc pl pr:Pos}(e1:o.cps.toList=I)(e2:p.cps.toList=J)(e3:l.cps.toList=L)(e4:g.cps.toList=M)(nd:[I,J,L,M].Nodup)
   (n:N[j]?=some E) (h2:gC G E=true) (h3:yO E=true) (v1:eY G E=true) (g1:(yE N [A])[j]?=some E) (v2:eY (yn B G) E=true) (g2:(yE N [A])[N.length]?=some A) (v3:eY (yn B G) A=true) (g3:yO A=true) (hB:bP G N B [A]=true)
   (ra:zA a=false) (ha:aB C G N a (.e f)) (rb:zA b=false) (hb:aB C G N b (.e e)) (rc:zA c=false) (hc:aB C G N c (.e t)) (rd:zA d=false) (hd:aB C G N d (.e s))
   (rm:zA mx=false) (hm:aB C (yn B G) (yE N [A]) mx (.e O)) (re:zA elt=false) (he:aB C (yn B G) (yE N [A]) elt (.e m)) (hs:yJ O=true) (le:w6 (N.length+1) j elt=true) (lm:w6 (N.length+1) j mx=true) :
   bR C G N (.ret (ip N.length I J L M a b c d mx elt)) (.b [.Assign [.Name E p0] (.Dict [some (.Constant (.str o) x p1),some (.Constant (.str p) c2 p2),some (.Constant (.str l) c3 p3),some (.Constant (.str g) c4 p4)] [f,e,t,s] pd) pa,
    .Return (some (.ListComp m [⟨.Name A pt,.Name E pi,[.Compare (.Subscript (.Name E pm) (.Name A ps) pq) [.Eq] [O] pc],0⟩] B pl)) pr]):=by
 constructor;intro cl d X H h es eN;subst es;subst eN;simp only[QB,Qn,Wn,not_or,or_false]at nd;obtain⟨⟨Q,U,Y⟩,⟨k,u⟩,z,_⟩:=nd;obtain⟨i,w,_⟩:=xn h3;obtain⟨o3,o4,_⟩:=xn g3;refine Ea H.room.units H.calm h.nd n (w9 h2) (h.fn _) e1 e2 e3 e4 Q U Y k u z (nB rfl) ((yu ha X H rfl rfl).pe ra) ((yu hb X H rfl rfl).pe rb) ((yu hc X H rfl rfl).pe rc) ((yu hd X H rfl rfl).pe rd) (jQ n (gu v1) i w) (yi hB) (λy c=>⟨jQ (by rw[c.N];exact g1) (by rw[c.sc];exact gu v2) i w,jQ (by rw[c.N];exact g2) (by rw[c.sc];exact gu v3) o3 o4,?_,?_⟩) (i6 hs) le lm
 .have q:=(yu hm y (H.comp c) c.sc c.N).pe rm;rw[c.K]at q;exact q
 .have q:=(yu he y (H.comp c) c.sc c.N).pe re;rw[c.K]at q;exact q
def bR.«dput»{C:Ctx}{A:Mw}{N:T8}{j:Nat}{i e:Ex}{x y z:Expr}{p E:Pos}(G:xw y=true)(H:aB C A N (.V j) (.e x))(I:zA i=false)(J:aB C A N i (.e y))(L:zA e=false)(M:aB C A N e (.e z)):bR C A N (.dput j i e) (.s (.Assign [.Subscript x y p] z E)):=by
 constructor;intro cl d X B U O Q;subst O;subst Q;exact GB B.room.units ((yu H X B rfl rfl).pe rfl) ((yu J X B rfl rfl).pe I) ((yu M X B rfl rfl).pe L) G
def bR.«aug»{C:Ctx}{A:Mw}{N:T8}{i:Nat}{op:Bo}{e:Ex}{x:Str}{v:Expr}{p E:Pos}(G:N[i]?=some x)(H:gC A x=true)(I:im op=true)(J:zA e=false)(L:aB C A N e (.e v)):bR C A N (.aug i op e) (.s (.AugAssign (.Name x p) (fY op) v E)):=by
 constructor;intro cl d X M B O Q;subst O;subst Q;exact Ed I B.nd G (w9 H) (.inl (B.fn _)) ((yu L X M rfl rfl).pe J)
def bR.«ite»{C:Ctx}{A:Mw}{N:T8}{c:Ex}{a b:Sm}{x:Expr}{xs ys:S9}{p:Pos}(I:zA c=false)(J:jz c=false)(L:aB C A N c (.e x))(M:bR C A N a (.b xs))(O:bR C A N b (.b ys)):bR C A N (.ite c a b) (.s (.If x xs ys p)):=by
 constructor;intro cl d X B H Q U;subst Q;subst U;have E:=M.h cl d X B H rfl rfl;have G:=O.h cl d X B H rfl rfl;exact Cn ((yu L X B rfl rfl).pt I J) E G
def bR.«forv»{C:Ctx}{E:Mw}{N:T8}{i:Nat}{it:Ex}{body:Sm}{x:Str}{y:Expr}{A:S9}{p L:Pos}(M:N[i]?=some x)(O:gC E x=true)(Q:yJ y=true)(U:aB C E N it (.e y))(Y:bR C E N body (.b A)):bR C E N (.forv i it body) (.s (.For (.Name x p) y A [] L)):=by
 constructor;intro cl d X I G j k;subst j;subst k;have J:=Y.h cl d X I G rfl rfl;have B:∀v,Nc y X.env v=pure v:=yV Q;refine PS.imp (tH G.hp I.calm ((yu U X I rfl rfl).2 _) (v6 G.nd M (w9 O) (.inl (G.fn _))) J B) λD u H q=>?_;exact HM (AB i) q
def bR.«forD»{C:Ctx}{B:Mw}{N:T8}{i x:Nat}{body:Sm}{G L:Str}{A:S9}{p O M:Pos}(Q:N[i]?=some G)(U:gC B G=true)(Y:aB C B N (.V x) (.e (.Name L M)))(j:bR C B N body (.b A)):bR C B N (.forD i x body) (.s (.For (.Name G p) (.Name L M) A [] O)):=by
 constructor;intro cl d X I E k u;subst k;subst u;have J:=j.h cl d X I E rfl rfl;refine PS.imp (tH E.hp I.calm (HW ((yu Y X I rfl rfl).pe rfl)) (v6 E.nd Q (w9 U) (.inl (E.fn _))) J (yV rfl)) λD z H q=>?_;exact JE rfl q
def bR.«while»{C:Ctx}{B:Mw}{N:T8}{c:Ex}{body:Sm}{x:Expr}{A:S9}{p:Pos}(J:zA c=false)(L:jz c=false)(M:aB C B N c (.e x))(O:bR C B N body (.b A)):bR C B N (.while c body) (.s (.While x A [] p)):=by
 constructor;intro cl d X G I Q U;subst Q;subst U;have E:=O.h cl d X G I rfl rfl;exact PS.imp (IJ I.hp ((yu M X G rfl rfl).pt J L) E) λD Y H q=>Kn q
def bR.«ret»{C:Ctx}{A:Mw}{N:T8}{e:Ex}{x:Expr}{p:Pos}(B:zA e=false)(E:aB C A N e (.e x)):bR C A N (.ret e) (.s (.Return (some x) p)):=by
 constructor;intro cl d X G J H I;subst H;subst I;exact Ee ((yu E X G rfl rfl).pe B)
def bR.«expr»{C:Ctx}{A:Mw}{N:T8}{e:Ex}{x:Expr}{p:Pos}(B:gv x=false)(E:zA e=false)(G:aB C A N e (.e x)):bR C A N (.expr e) (.s (.Expr x p)):=by
 constructor;intro cl d X H L I J;subst I;subst J;exact GC ((yu G X H rfl rfl).pe E) B
def bR.«never»{C:Ctx}{A:Mw}{N:T8}{st:Stmt}:bR C A N .never (.s st):=by
 constructor;intro cl d X G H B E;subst B;subst E;exact HN
end
set_option genInjectivity false in
structure bK where
 nm:Str
 st:Stmt
 N:T8
 ps:T8
 fn:Fn
 on:Str
noncomputable def nA(N ps:T8)(A:Mw):Bool:=
 decide (A.kind=.function)&&(decide (A.isCoroutine=false)&&(decide (A.isGenerator=false)&&(decide N.Nodup&&(decide (N.take ps.length=ps) &&
  (ps.all (λx=>decide (A.names.lookup x=some .local) || decide (A.names.lookup x=some .cell))&&A.names.all (λy=>!(decide (y.2=.free))))))))
def JD (h:nA N ps A=true):cQ N ps A:=by
 unfold nA at h;simp only[QD,Vf,OH,WF,Vn,decide_eq_false_iff_not]at h;obtain⟨B,E,G,H,I,J,L⟩:=h;exact⟨B,E,G,H,I,J,L⟩
structure md(C:Ctx)(d:bK):Prop where
 sc:nA d.N d.ps (yk d.st)=true
 ar:d.ps.length=d.fn.ar
 sz:d.N.length=d.fn.sz
 body:bR C (yk d.st) d.N d.fn.body (.b (xH d.st))
section
variable{P:My}{w:Mz}{K:Qb}{mg:O3}{base:MC}{C:Ctx}{cl:O1}
def JC (R:ab K as H ws vs)(hl:ws.length=B.ar)(G:N.length=B.sz):az K as H (wH B ws) (L2.start N vs):=by
 have I:=R.length;refine⟨by simp[wH,L2.start,G,I],λi w e=>?_⟩;unfold wH at e;by_cases E:i<ws.length
 .rw[Qf (by simpa using E),Qq]at e;cases A:ws[i]? with
  |none=>rw[A]at e;cases e
  |some x=>
   rw[A]at e;cases e;obtain⟨v,J,L⟩:=R.get A;refine⟨v,?_,L⟩;unfold L2.start;rw[Qf (by simp;lia),Qq,J];rfl
 .rw[Qe (by simpa using E),Vs]at e;split at e<;>cases e
set_option tactic.hygienic true in
def HH (F:fu K d.on d.on d.st f Y)(l:md C d)(u:∀(i:Nat) (j:Str),C.fns[i]?=some j->∃f Y ps,mg j=some (.ref f)/\WX K (.ref f)=true/\Binds K Y ps []/\cX P w K mg base eC k f Y ps (eF K (cl i)))(M:iz K w mg C)(N:∀j∈zO,mg j=none):
  cX P w K mg base eC (k+1) f Y d.ps (eF K (eG cl d.fn)):=by
 obtain⟨g,t,b,n⟩:=l;have p:=JD g;have B:∀{as:S6}{H:Hp}{Q:VK}{J:U4}{m:Me},ak K as H Q (eG cl d.fn J m)->J.length=d.fn.ar:=λ{as H Q J m} h=>by
  unfold eG at h;split at h
  .assumption
  .exact h.elim
 refine F.ok p (λa H Q E h=>?_) (λO A I s H a Q E U h=>?_)
 .obtain ⟨as,m,J,S,R,q⟩:=h;rw[<-R.length,B q,t]
 .obtain ⟨as,m,J,S,R,q⟩:=h;have c:=B q;have y:bY C (fk eC P w K mg base d.N d.on (yk d.st) f O A I s H E).nox cl k:=⟨U,rfl,u,M,N⟩;have x:eT (fk eC P w K mg base d.N d.on (yk d.st) f O A I s H E).nox:=⟨p.nd,λ_=>rfl,PassesOwn.never⟩;refine⟨_,D9 y x n,as,wH d.fn J,m,S,JC R c b,?_⟩;unfold eG at q;rw[OB c]at q;cases U:bJ cl d.fn.body (wH d.fn J) m with
  |next e m1=>rw[U]at q;exact λL z σ' T o G=>q L z .N T o (aJ.mpr rfl)
  |ret w m1=>rw[U]at q;exact λL z v T o R'=>q L z v T o R'
  |no=>rw[U]at q;exact q.elim
noncomputable def gD(K:Qb)(mg:O3)(d:bK):Prop:=∃f A,fu K d.on d.on d.st f A/\mg d.nm=some (.ref f)
noncomputable def pH(d:bK):Prop:=∀(kV doc pm:Value) (E:R5) (A G:Value) (B:R6),B.length=d.ps.length->bindArgs (WQ d.on d.on (wG d.st) (xH d.st) (yk d.st) .none kV doc pm E A G) ⟨B,[]⟩=pure (d.ps.zip B)
theorem jr{D:List bK}(u:C.fns=D.map (·.nm))(z:∀d∈D,md C d)(o:∀d∈D,pH d)(p:∀d∈D,gD K mg d)
  (B:iz K w mg C) (G:∀c∈zO,mg c=none) :
  ∀(k:Nat) (i:Nat) (d:bK),D[i]?=some d->∀f L,fu K d.on d.on d.st f L->cX P w K mg base eC k f L d.ps (eF K (xF (D.map (·.fn)) k i))
 |0,i,d,O,f,L,F=>by
  have no:∀{M:U8}{H:Hp}{Q:VK}{E:XK},¬eF K (xF (D.map (·.fn)) 0 i) M H Q E:=λ{M H Q E} h=>by
   obtain⟨as,m,t,S,R,q⟩:=h;exact q
  exact⟨λM H Q E h=>(no h).elim,λA U s H l a M Q E _ _ _ _ h=>(no h).elim⟩
 |k+1,i,d,O,f,L,F=>by
  have b:=jr u z o p B G k;have e:eF K (xF (D.map (·.fn)) (k+1) i)=eF K (eG (xF (D.map (·.fn)) k) d.fn):=by
   have:xF (D.map (·.fn)) (k+1) i=eG (xF (D.map (·.fn)) k) d.fn:=by
    funext t m;unfold xF;rw[Qq,O];rfl
   rw[this]
  rw[e];refine HH F (z d (Qv O)) (λj c hj=>?_) B G;rw[u,Qq]at hj;cases I:D[j]? with
  |none=>rw[I]at hj;cases hj
  |some N=>
   rw[I]at hj;cases hj;obtain⟨g,J,Y,n⟩:=p N (Qv I);exact⟨g,J,N.ps,n,Y.kp,Y.binds (o N (Qv I)),b j N I g J Y⟩
end
def HG {K:Qb}{D:List bK}{A:T6}(B:i5 H)(hS:bg K H a (A.map V.int))(h:∃m,xF (D.map (·.fn)) k i [.rol (A.map Wd.int)] []=.ok (.bl true) m):
  eF K (xF (D.map (·.fn)) k i) [.ref a] H (λv _=>v=.bl true) E:=by
 obtain⟨m,h⟩:=h;refine⟨[],[],[.rol (A.map Wd.int)],⟨rfl,Q7,λl a o e=>by simp at e⟩,am.mpr ⟨.ref a,[],rfl,aV.mpr ⟨a,A.map V.int,rfl,?_,?_⟩,au.mpr rfl⟩,?_⟩
 .rcases hS with (hS|⟨o,hS⟩)|hS
  .rcases B a with z|⟨o,J,z⟩
   .rw[z]at hS;cases hS
   .rw[z]at hS;cases hS
  .exact .inl ⟨o,hS⟩
  .exact .inr hS
 .have all:∀l:T6,ab K [] H (l.map Wd.int) (l.map V.int):=by
   intro l
   induction l with
   |nil=>exact au.mpr rfl
   |cons n l G=>exact am.mpr ⟨_,_,rfl,aa.mpr rfl,G⟩
  exact all A
 .rw[h];exact λI L v T S R=>ah.mp R
def CH {l:PySem.W.OpenLaw}{Kp:Mx->Qb}{D:List bK}{dl:bK}(g:l.most=some n)(L:n<=sizeLine)(M:d.params.defaults=[])(t:cf k NL)(b:∀(w:Mz) (h:MC),y w h->(Kp w.params).In h)(hC:C.fns=D.map (·.nm))(hD:∀d∈D,md C d)(Y:∀d∈D,pH d)(N:D[i]?=some dl)(O:dl.ps=[x])(Q:d.name=dl.nm)(F:∀(w:Mz) (A:O3) (I:Addr) (h:MC),(Kp w.params).In h->h.Ns ME A->A d.name=some (.ref I) ->
   (∀e∈D,gD (Kp w.params) A e)/\iz (Kp w.params) w A C/\∀nm∈zO,A nm=none)(B:∀J:T6,J.length<=n->∃m,xF (D.map (·.fn)) k i [.rol (J.map Wd.int)] []=.ok (.bl true) m):
  Ub q loose XP y l.row.toRowW d [] (λf vs=>PySem.call f vs):=by
 refine L2.cL (n:=n) (k:=k) (x:=x) (CX:=λ_=>eC) (sp:=λw=>eF (Kp w.params) (xF (D.map (·.fn)) k i)) g L M t b ?_ (λw H a J hl hO hS=>HG hO hS (B J hl)) λ_ _ _ _ _ z=>z;intro w A I h KX G E;obtain⟨j,h2,h3⟩:=F w A I h KX G E;obtain⟨f,o,p,hm⟩:=j dl (Qv N);rw[Q,hm]at E;cases E;refine⟨o,λs u=>?_,λc kb nb=>?_⟩
 .obtain ⟨oc,od,kV,doc,pm,an,U,ct,osl,rfl,lk,hcd⟩:=p.ex;have q:=Y dl (Qv N) kV doc pm an U ct [u] (by rw[O];rfl);rw[O]at q;exact .of_eq q
 .rw[<-O];exact jr hC hD Y j h2 h3 k i dl N I o p
theorem aB.v{C:Ctx}{A:Mw}{N:T8}{i:Nat}{x:Str}{p:Pos}(B:N[i]?=some x:=by rfl)(E:eY A x=true:=by kernel_rfl)(G:yO x=true:=by kernel_rfl):aB C A N (.V i) (.e (.Name x p)):=.V B E G
def A0{P:R6->Prop}(h:∀a,P [a]):∀A:R6,A.length=1->P A
 |[a],_=>h a
def oj {P:R6->Prop}(h:∀a (A:R6),A.length=n->P (a::A)):∀A:R6,A.length=n+1->P A
 |a::A,e=>h a A (Nat.succ.inj e)
def AZ{P:R6->Prop}(h:∀a b,P [a,b]):∀A:R6,A.length=2->P A:=oj λa=>A0 (P:=λA=>P (a::A)) (h a)
def AY{P:R6->Prop}(h:∀a b c,P [a,b,c]):∀A:R6,A.length=3->P A:=oj λa=>AZ (P:=λA=>P (a::A)) (h a)
def KZ{P:R6->Prop}(h:∀a b c d,P [a,b,c,d]):∀A:R6,A.length=4->P A:=oj λa=>AY (P:=λA=>P (a::A)) (h a)
end Mini
namespace Mini
namespace Vl
namespace Lib
inductive Di where|u|r|d|l
deriving DecidableEq
noncomputable def cB:Di->Di
 |.u=>.d |.r=>.l |.d=>.u |.l=>.r
noncomputable def br:List Di:=[.u,.r,.d,.l]
abbrev Pl:=Int×Int
abbrev _root_.O8:=List (List Pl)
abbrev _root_.U5:=List Pl
noncomputable def aD(e:Di)(p:Pl):Pl:=match e with
 |.u=>(p.1-1,p.2) |.r=>(p.1,p.2+1) |.d=>(p.1+1,p.2) |.l=>(p.1,p.2-1)
noncomputable def inn(n:Nat)(p:Pl):Bool:=decide (0<=p.1)&&decide (p.1<n)&&(decide (0<=p.2)&&decide (p.2<n))
noncomputable def yF(n:Nat)(p:Pl):Di->Int
 |.u=>p.2 |.r=>n+p.1 |.d=>3*n-1-p.2 |.l=>4*n-1-p.1
abbrev Tr:=Pl->Di->Bool
structure bW(n:Nat)(t:Tr):Prop where
 con:∀p e,inn n p=true->inn n (aD e p)=true->t (aD e p) (cB e)=t p e
 two:∀p,inn n p=true->(br.filter (t p)).length=2
noncomputable def a9(f:Di->Bool)(d:Di):Di:=((br.filter f).filter λe=>! decide (e=d)).headD d
def aC:inn n p=true↔(0<=p.1/\p.1<n)/\(0<=p.2/\p.2<n):=by
 unfold inn;simp only[QD,OH]
def uZ(e:Di):cB (cB e)=e:=by cases e<;>rfl
def xx(e:Di)(p:Pl):aD (cB e) (aD e p)=p:=by
 obtain⟨a,b⟩:=p;cases e<;>simp[aD,cB]<;>lia
def y8 (h:(br.filter f).length=2)(H:f d=true):f (a9 f d)=true/\a9 f d≠d/\a9 f (a9 f d)=d/\(br.filter f).filter (λe=>! decide (e=d))=[a9 f d]:=by
 unfold a9 br at *
 cases A:f .u<;>cases B:f .r<;>cases E:f .d<;>cases G:f .l<;>simp[A,B,E,G]at h ⊢<;>cases d<;>simp_all
def HF (h:(br.filter f).length=2)(I:f d=true)(J:f e=true)(A:e≠d):a9 f d=e:=by
 unfold a9 br at *
 cases B:f .u<;>cases E:f .r<;>cases G:f .d<;>cases H:f .l<;>simp[B,E,G,H]at h ⊢<;>cases d<;>cases e<;>simp_all
abbrev aQ:=Pl×Di
noncomputable def bC(n:Nat)(t:Tr)(s:aQ):Option aQ:=if inn n (aD (a9 (t s.1) s.2) s.1)=true then some (aD (a9 (t s.1) s.2) s.1,cB (a9 (t s.1) s.2))else none
noncomputable def gE(n:Nat)(t:Tr)(s:aQ):Int:=yF n s.1 (a9 (t s.1) s.2)
noncomputable def vO(n:Nat)(t:Tr):Nat->aQ->U5->Option (U5×Int)
 |0,_,_=>none
 |k+1,s,A=>match bC n t s with
  |some B=>vO n t k B (A++[B.1])
  |none=>some (A,gE n t s)
noncomputable def Good(n:Nat)(t:Tr)(s:aQ):Prop:=inn n s.1=true/\t s.1 s.2=true
noncomputable def cW(n:Nat)(s:aQ):Prop:=inn n (aD s.2 s.1)=false
set_option tactic.hygienic true in
def zH (F:bW n t)(g:Good n t s)(h:bC n t s=some A):Good n t A/\inn n (aD A.2 A.1)=true/\s=(aD A.2 A.1,a9 (t (aD A.2 A.1)) (cB A.2)):=by
 unfold bC at h;obtain⟨E,H,G,_⟩:=y8 (F.two s.1 g.1) g.2;split at h
 .next B=>
  cases h;refine⟨⟨B,?_⟩,?_,?_⟩
  .show t (aD _ s.1) (cB _)=true;rw[F.con s.1 _ g.1 B];exact E
  .show inn n (aD (cB _) (aD _ s.1))=true;rw[xx];exact g.1
  .show s=(aD (cB _) (aD _ s.1),a9 (t (aD (cB _) (aD _ s.1))) (cB (cB _)));rw[xx,uZ,G]
 .cases h
noncomputable def bL(n:Nat)(t:Tr)(s:aQ):Nat->Option aQ
 |0=>some s
 |k+1=>(bL n t s k).bind (bC n t)
theorem oF:∀(M:Nat) (g:Nat->Nat),(∀i,i<=M->g i<M)->∃i j,i<j/\j<=M/\g i=g j
 |0,g,h=>by have:=h 0 (Qh 0);lia
 |M+1,g,h=>by
  by_cases q:∃i,i<=M/\g i=g (M+1)
  .obtain ⟨i,B,e⟩:=q;exact⟨i,M+1,by lia,by lia,e⟩
  .have H:=h (M+1) (by lia);obtain⟨i,j,E,I,A⟩:=oF M (λi=>if g i=M then g (M+1)else g i) (λi B=>by
    show(if g i=M then g (M+1)else g i)<M;have G:=h i (by lia);have J:g i≠g (M+1):=λe=>q ⟨i,B,e⟩;split<;>lia)
   have B:g i≠g (M+1):=λe=>q ⟨i,by lia,e⟩;have hj:g j≠g (M+1):=λe=>q ⟨j,by lia,e⟩;refine⟨i,j,E,by lia,?_⟩
   replace A:(if g i=M then g (M+1)else g i)=(if g j=M then g (M+1)else g j):=A
   split at A<;>split at A<;>lia
noncomputable def fI:Di->Nat
 |.u=>0 |.r=>1 |.d=>2 |.l=>3
noncomputable def code(n:Nat)(s:aQ):Nat:=(s.1.1.toNat*n+s.1.2.toNat)*4+fI s.2
def uY (h:inn n s.1=true):code n s<n*n*4:=by
 obtain⟨⟨E,G⟩,H,I⟩:=aC.mp h;have A:s.1.1.toNat+1<=n:=by lia
 have J:s.1.2.toNat<n:=by lia
 have L:fI s.2<4:=by cases s.2<;>decide
 have B:(s.1.1.toNat+1)*n<=n*n:=Nat.mul_le_mul_right n A;rw[Nat.add_mul]at B;unfold code;generalize s.1.1.toNat*n=x at *
 generalize n*n=y at *
 lia
def AA (h:inn n s.1=true)(h':inn n A.1=true)(e:code n s=code n A):s=A:=by
 obtain⟨⟨M,N⟩,O,Q⟩:=aC.mp h;obtain⟨⟨U,Y⟩,d0,d1⟩:=aC.mp h';have j:fI s.2<4:=by cases s.2<;>decide
 have k:fI A.2<4:=by cases A.2<;>decide
 unfold code at e;have G:fI s.2=fI A.2:=by lia
 have B:s.1.1.toNat*n+s.1.2.toNat=A.1.1.toNat*n+A.1.2.toNat:=by lia
 have H:0<n:=by lia
 have m1:s.1.2.toNat<n:=by lia
 have m2:A.1.2.toNat<n:=by lia
 have I:s.1.2.toNat=A.1.2.toNat:=by
  have:=OE (· % n) B;simp only[Nat.mul_add_mod_self_right,V6 m1,V6 m2]at this;exact this
 have q:s.1.1.toNat=A.1.1.toNat:=by
  rw[I]at B;exact Nat.eq_of_mul_eq_mul_right H (Nat.add_right_cancel B)
 obtain⟨⟨a,b⟩,d⟩:=s;obtain⟨⟨J,L⟩,E⟩:=A;simp only at *
 have:d=E:=by cases d<;>cases E<;>simp[fI]at G<;>rfl
 rw[this,show a=J by lia,show b=L by lia]
section
variable{n:Nat}{t:Tr}{s:aQ}
theorem zW(F:bW n t)(g:Good n t s):∀(k:Nat) (A:aQ),bL n t s k=some A->Good n t A
 |0,A,h=>by cases h;exact g
 |k+1,A,h=>by
  obtain⟨B,E,G⟩:=Qt.mp h;exact(zH F (zW F g k B E) G).1
theorem Az:∀{k m:Nat},k<=m->(bL n t s m).isSome=true->(bL n t s k).isSome=true
 |k,0,h,q=>by
  have e:k=0:=by lia
  subst e;exact q
 |k,m+1,h,q=>by
  by_cases e:k=m+1
  .subst e;exact q
  .refine Az (m:=m) (by lia) ?_;show(bL n t s m).isSome=true;cases z:bL n t s m with
   |none=>
    have:bL n t s (m+1)=none:=by show(bL n t s m).bind _=none;rw[z];rfl
    rw[this]at q;cases q
   |some _=>rfl
theorem nO(F:bW n t)(g:Good n t s)(E:cW n s):∀(i j:Nat) (G:aQ),bL n t s i=some G->bL n t s j=some G->i=j
 |0,0,_,_,_=>rfl
 |0,j+1,G,h,H=>by
  cases h;obtain⟨A,B,I⟩:=Qt.mp H;have:=(zH F (zW F g j A B) I).2.1;unfold cW at E;rw[E]at this;cases this
 |i+1,0,G,h,H=>by
  cases H;obtain⟨A,B,I⟩:=Qt.mp h;have:=(zH F (zW F g i A B) I).2.1;unfold cW at E;rw[E]at this;cases this
 |i+1,j+1,G,h,H=>by
  obtain⟨A,B,I⟩:=Qt.mp h;obtain⟨L,J,M⟩:=Qt.mp H;have N:=(zH F (zW F g i A B) I).2.2;have O:=(zH F (zW F g j L J) M).2.2;have e:L=A:=O.trans N.symm;rw[e]at J;rw[nO F g E i j A B J]
def HE(F:bW n t)(g:Good n t s)(J:cW n s):bL n t s (n*n*4)=none:=by
 cases z:bL n t s (n*n*4)with
 |none=>rfl
 |some s0=>
  exfalso;have G:∀i,i<=n*n*4->(bL n t s i).isSome=true:=λi H=>Az H (by rw[z];rfl);obtain⟨i,j,M,N,A⟩:=oF (n*n*4) (λi=>code n ((bL n t s i).getD s)) (λi H=>by
   obtain⟨B,e⟩:=Wm.mp (G i H);show code n ((bL n t s i).getD s)<_;rw[e];exact uY (zW F g i B e).1)
  obtain⟨B,I⟩:=Wm.mp (G i (by lia));obtain⟨L,E⟩:=Wm.mp (G j (by lia))
  replace A:code n ((bL n t s i).getD s)=code n ((bL n t s j).getD s):=A
  rw[I,E]at A;have:=AA (zW F g i B I).1 (zW F g j L E).1 A;rw[<-this]at E;have:=nO F g J i j B I E;lia
theorem vF (h:bC n t s=some A):∀k,bL n t s (k+1)=bL n t A k
 |0=>by show(some s).bind (bC n t)=some A;exact h
 |k+1=>by
  show(bL n t s (k+1)).bind (bC n t)=(bL n t A k).bind (bC n t);rw[vF h k]
theorem cL:∀(k:Nat) (s:aQ) (acc:U5),bL n t s k=none->∃B ρ,vO n t k s acc=some (B,ρ)
 |0,s,acc,h=>by cases h
 |k+1,s,acc,h=>by
  show ∃B ρ,(match bC n t s with|some A=>vO n t k A (acc++[A.1])|none=>some (acc,gE n t s))=some (B,ρ);cases e:bC n t s with
  |none=>exact⟨_,_,rfl⟩
  |some A=>
   rw[vF e]at h;exact cL k A _ h
def JB(F:bW n t)(g:Good n t s)(A:cW n s)(acc:U5):∃B ρ,vO n t (n*n*4) s acc=some (B,ρ):=cL _ s acc (HE F g A)
end
end Lib
inductive Dat where
 |N|bl (b:Bool)|int (i:Int)|str (s:T9)|T (xs:List Dat)|L (xs:List Dat)|scr (ns:T6)|D (ks:O7) (xs:List Dat)
deriving Inhabited
abbrev _root_.R8:=Option Dat
abbrev _root_.T7:=List Dat
inductive Lv where|no|top|F
deriving DecidableEq,Inhabited
abbrev _root_.U6:=List Lv
abbrev _root_.U7:=Nat->Lv
abbrev aM:=List R8
inductive Rd where|ok (d:Dat)|no
deriving Inhabited
abbrev _root_.O5:=Nat->List Dat->Rd
noncomputable def Rd.bind(r:Rd)(f:Dat->Rd):Rd:=match r with
 |.ok d=>f d
 |.no=>.no
mutual
noncomputable def aF:Dat->Bool
 |.L _=>false
 |.T A=>aO A
 |.N=>true
 |.bl _=>true
 |.int _=>true
 |.str _=>true
 |.scr _=>true
 |.D _ _=>false
noncomputable def aO:T7->Bool
 |[]=>true
 |d::A=>aF d&&aO A
end
mutual
noncomputable def wL:Nat->Dat->Bool
 |0,_=>false
 |k+1,.T A=>aZ k A
 |_+1,.int _=>true
 |_+1,_=>false
noncomputable def aZ:Nat->T7->Bool
 |_,[]=>true
 |k,d::A=>wL k d&&aZ k A
end
mutual
noncomputable def dO:Dat->Dat->Bool
 |.T a,.T b=>cH a b
 |.int a,.int b=>decide (a=b)
 |_,_=>false
noncomputable def cH:T7->T7->Bool
 |[],[]=>true
 |x::A,y::B=>dO x y&&cH A B
 |_,_=>false
end
noncomputable def eqT(x y:Dat):P8:=match x,y with
 |.L a,.L b=>if aZ 11 a&&aZ 11 b then some (cH a b)else none
 |.bl a,.bl b=>some (a==b)
 |.str a,.str b=>some (decide (a=b))
 |_,_=>none
noncomputable def xX:Dat->Option T7
 |.T A=>some A
 |.L A=>some A
 |.scr B=>some (B.map .int)
 |_=>none
noncomputable def dS:Dat->Option T7
 |.L A=>some A
 |.scr B=>some (B.map .int)
 |_=>none
noncomputable def bh(xs:T7):Rd:=if xs.length<=ao then .ok (.L xs)else .no
noncomputable def zZ(op:Bo)(x y:Dat):Rd:=match x,y with
 |.int i,.int j=>match op with
  |.add=>.ok (.int (i+j))
  |.sub=>.ok (.int (i-j))
  |.mul=>if xg i || xg j then .ok (.int (i*j))else .no
  |.fdiv=>if 0<j/\j<1073741824 then .ok (.int (i/j))else .no
  |.mod=>if 0<j then .ok (.int (i%j))else .no
  |.pow=>if 0<=j/\j<=1000000/\xg i=true then .ok (.int (i^j.toNat))else .no
 |.L A,.L B=>match op with
  |.add=>bh (A++B)
  |_=>.no
 |.L A,.int k=>match op with
  |.mul=>if -ao<=k/\k<=ao then bh (QI k.toNat A).flatten else .no
  |_=>.no
 |.T A,.T B=>match op with
  |.add=>if A.length+B.length<=ao then .ok (.T (A++B))else .no
  |_=>.no
 |_,_=>.no
noncomputable def lR(x y:Dat):P8:=if wL yT x&&wL yT y then some (dO x y)else eqT x y
noncomputable def iM(x:Dat)(ys:T7):P8:=if wL yT x&&aZ yT ys then some (ys.any λy=>dO y x)else none
noncomputable def ve:P8->Rd
 |some b=>.ok (.bl b)
 |none=>.no
noncomputable def i3(r:Int->Int->Bool)(x y:Dat):Rd:=match x,y with
 |.int i,.int j=>.ok (.bl (r i j))
 |_,_=>.no
noncomputable def xy:T7->Option T6
 |[]=>some []
 |.int i::r=>(xy r).map (i::·)
 |_=>none
noncomputable def pZ(x y:Dat):P8:=match y with
 |.D A _=>match x with
  |.int _=>some false
  |.T B=>(xy B).map λk=>decide (k∈A)
  |_=>none
 |_=>none
noncomputable def yH(op:Co)(x y:Dat):Rd:=match op with
 |.eq=>ve (lR x y)
 |.ne=>ve ((lR x y).map (!·))
 |.notN=>match y,x with
  |.N,.N=>.ok (.bl false)
  |.N,_=>.ok (.bl true)
  |_,_=>.no
 |.isin=>match xX y with
  |some A=>ve (iM x A)
  |none=>ve (pZ x y)
 |.notin=>match xX y with
  |some A=>ve ((iM x A).map (!·))
  |none=>match x with
   |.T _=>ve ((pZ x y).map (!·))
   |_=>.no
 |.lt=>i3 (λi j=>decide (i<j)) x y
 |.le=>i3 (λi j=>decide (i<=j)) x y
 |.gt=>i3 (λi j=>decide (j<i)) x y
noncomputable def lQ(t:Tg)(x:Dat):P8:=match t,x with
 |.int,.int _=>some true
 |.int,.bl _=>some true
 |.bool,.bl _=>some true
 |.bool,.int _=>some false
 |_,_=>none
noncomputable def qj:T7->R9
 |[]=>some 0
 |.int i::r=>(qj r).map (i+·)
 |_=>none
noncomputable def gF:T7->P8
 |[]=>some true
 |.bl b::r=>(gF r).map (b && ·)
 |_=>none
noncomputable def fh:T7->Option (List (Dat×Dat))
 |[]=>some []
 |.T [x,y]::r=>(fh r).map ((x,y)::·)
 |_=>none
noncomputable def xf(b:eD)(ws:T7):Rd:=match b with
 |.len=>match ws with
  |[x]=>match xX x with
   |some A=>.ok (.int A.length)
   |none=>.no
  |_=>.no
 |.int=>match ws with
  |[.int i]=>.ok (.int i)
  |[.bl b]=>.ok (.int (b2i b))
  |_=>.no
 |.sum=>match ws with
  |[x]=>match (dS x).bind qj with
   |some i=>.ok (.int i)
   |none=>.no
  |_=>.no
 |.all=>match ws with
  |[x]=>match (dS x).bind gF with
   |some i=>.ok (.bl i)
   |none=>.no
  |_=>.no
noncomputable def yh(x y:Dat):Rd:=match y with
 |.int i=>match xX x with
  |some A=>match (ix A.length i).bind λj=>A[j]? with
   |some v=>.ok v
   |none=>.no
  |none=>.no
 |_=>.no
noncomputable def vQ:Dat->Option T6
 |.T A=>xy A
 |_=>none
noncomputable def jt(x y:Dat):Rd:=match x with
 |.D A B=>match (vQ y).bind (dH A B)with
  |some v=>.ok v
  |none=>.no
 |_=>.no
noncomputable def dW(x:Dat)(lo B:R9):Rd:=match x with
 |.T A=>if aR A.length 0 lo=0/\aR A.length A.length B=A.length then .no else .ok (.T ((A.drop (aR A.length 0 lo)).take (aR A.length A.length B-aR A.length 0 lo)))
 |x=>match dS x with
 |some A=>bh ((A.drop (aR A.length 0 lo)).take (aR A.length A.length B-aR A.length 0 lo))
 |none=>.no
noncomputable def yA(lo st:Int)(n:Nat):T7:=(QA n).map λ(i:Nat)=>.int (lo+st*(i:Int))
noncomputable def jb:T7->Option O7
 |[]=>some []
 |.T A::r=>match xy A,jb r with
  |some [a,b],some B=>some ([a,b]::B)
  |_,_=>none
 |_=>none
noncomputable def mV(x:Dat):Option O7:=match x with
 |.L A=>jb A
 |_=>none
noncomputable def eE:T7->Option O7
 |[]=>some []
 |.L A::r=>match jb (A.take 1),eE r with
  |some [k],some B=>some (k::B)
  |_,_=>none
 |_=>none
noncomputable def gG(k:Dk)(x:Dat):Bool:=match k with
 |.sot=>true
 |.sor=>true
noncomputable def gH(k:Dk)(x y z:Dat):Rd:=match k with
 |.sot=>match mV x with
  |some A=>match wX T6 (A.map (0::·)) A with
   |some E=>bh (E.map λk=>.T (k.map Dat.int))
   |none=>.no
  |none=>.no
 |.sor=>match x with
  |.L B=>match eE B with
   |some A=>if wt (A.map (0::·))then bh B else .no
   |none=>.no
  |_=>.no
noncomputable def kG(a b c:Dat):Rd:=match a,b,c with
 |.int a,.int b,.int c=>if -ao<=a/\a<=ao/\-ao<=b/\b<=ao/\(c=1\/c=-1\/c=-2\/c=2)then .ok (.T (yA a c (eI a b c)))else .no
 |_,_,_=>.no
noncomputable def y7{B:Type}(c e:B->Rd):List B->T7->Rd
 |[],A=>bh A
 |x::E,A=>(c x).bind λb=>match b with
  |.bl true=>(e x).bind λy=>if A.length<ao then y7 c e E (A++[y])else .no
  |.bl false=>y7 c e E A
  |_=>.no
noncomputable def di(d:Dat):Option T7:=match d with
 |.T A=>some A
 |.scr B=>some (B.map .int)
 |.L A=>if A.length<=ao then some A else none
 |_=>none
noncomputable def fC:Dat->Option T7
 |.L A=>some A
 |_=>none
noncomputable def xo(k:Kd)(x y:Dat):Option (List (Dat×Dat)):=match k,x,y with
 |.zip,x,y=>match fC x,fC y with
  |some A,some B=>if A.length<=ao/\B.length<=ao then some (A.zip B)else none
  |_,_=>none
 |.enum,.L A,.int s=>if A.length<=ao then some ((yA s 1 A.length).zip A)else none
 |.prs,.L A,.int _=>if A.length<=ao then fh A else none
 |.ptp,.T A,.int _=>if A.length<=ao then fh A else none
 |_,_,_=>none
noncomputable def xh:Dat->T7
 |.T A=>A
 |_=>[]
noncomputable def oI:Wd->R8
 |.N=>some .N
 |.bl b=>some (.bl b)
 |.int i=>some (.int i)
 |.str s=>some (.str s)
 |_=>none
noncomputable def aj(cl:O5):Ex->aM->Rd
 |.V i,A=>match A[i]? with
  |some (some d)=>.ok d
  |_=>.no
 |.lit w,_=>match oI w with
  |some d=>.ok d
  |none=>.no
 |.bin E a b,A=>(aj cl a A).bind λx=>(aj cl b A).bind λy=>zZ E x y
 |.neg a,A=>(aj cl a A).bind λx=>match x with
  |.int i=>.ok (.int (-i))
  |_=>.no
 |.not a,A=>(aj cl a A).bind λx=>match x with
  |.bl b=>.ok (.bl (! b))
  |_=>.no
 |.and a b,A=>(aj cl a A).bind λx=>match x with
  |.bl true=>aj cl b A
  |.bl false=>.ok (.bl false)
  |_=>.no
 |.or a b,A=>(aj cl a A).bind λx=>match x with
  |.bl false=>aj cl b A
  |.bl true=>.ok (.bl true)
  |_=>.no
 |.cmp E a b,A=>(aj cl a A).bind λx=>(aj cl b A).bind λy=>yH E x y
 |.chain p q a b c,A=>(aj cl a A).bind λx=>(aj cl b A).bind λy=>(yH p x y).bind λz=>match z with
  |.bl true=>(aj cl c A).bind λu=>yH q y u
  |.bl false=>.ok (.bl false)
  |_=>.no
 |.ife c a b,A=>(aj cl c A).bind λx=>match x with
  |.bl true=>aj cl a A
  |.bl false=>aj cl b A
  |_=>.no
 |.u,_=>.ok (.T [])
 |.p a b,A=>(aj cl a A).bind λx=>(aj cl b A).bind λy=>.ok (.T (x::xh y))
 |.call k a,A=>(aj cl a A).bind λx=>cl k (xh x)
 |.blt b a,A=>(aj cl a A).bind λx=>xf b (xh x)
 |.isi t a,A=>(aj cl a A).bind λx=>ve (lQ t x)
 |.L a,A=>(aj cl a A).bind λx=>bh (xh x)
 |.T a,A=>(aj cl a A).bind λx=>if(xh x).length<=ao then .ok (.T (xh x))else .no
 |.dict0,_=>.ok (.D [] [])
 |.dget a b,A=>(aj cl a A).bind λx=>(aj cl b A).bind λy=>jt x y
 |.i a b,A=>(aj cl a A).bind λx=>(aj cl b A).bind λy=>yh x y
 |.dop k a b c,A=>(aj cl a A).bind λx=>match gG k x with
  |true=>(aj cl b A).bind λy=>(aj cl c A).bind λz=>gH k x y z
  |false=>.no
 |.slL a lo,A=>(aj cl a A).bind λx=>(aj cl lo A).bind λy=>match y with
  |.int i=>dW x (some i) none
  |_=>.no
 |.slB a lo G,A=>(aj cl a A).bind λx=>(aj cl lo A).bind λy=>match y with
  |.int i=>(aj cl G A).bind λz=>match z with
   |.int j=>dW x (some i) (some j)
   |_=>.no
  |_=>.no
 |.meth _ _ _,_=>.no
 |.rng a b c,A=>(aj cl a A).bind λx=>(aj cl b A).bind λy=>(aj cl c A).bind λz=>kG x y z
 |.comp B H cond,A=>(aj cl H A).bind λx=>match di x with
  |some I=>y7 (λx=>aj cl cond (A++[some x])) (λx=>aj cl B (A++[some x])) I []
  |none=>.no
 |.compP k B a b cond,A=>(aj cl a A).bind λx=>(aj cl b A).bind λy=>match xo k x y with
  |some J=>y7 (λp=>aj cl cond (A++[some p.1]++[some p.2])) (λp=>aj cl B (A++[some p.1]++[some p.2])) J []
  |none=>.no
 |.lrng a,A=>(aj cl a A).bind λx=>match x with
  |.int j=>if -ao<=j/\j<=ao then bh (yA 0 1 j.toNat)else .no
  |_=>.no
def kH (h:env[i]?=some (some w))(m:Me):ae cl (.V i) env m=.ok w m:=by
 show(match env[i]? with|some (some w)=>Rz.ok w m|_=>.no)=_;rw[h]
def y9 (h:de[i]?=some (some d)):aj cl (.V i) de=.ok d:=by
 show(match de[i]? with|some (some d)=>Rd.ok d|_=>.no)=_;rw[h]
def kI (h:de[i]?=none\/de[i]?=some none):aj cl (.V i) de=.no:=by
 show(match de[i]? with|some (some d)=>Rd.ok d|_=>.no)=_;rcases h with h|h<;>rw[h]
def uX (h:aj cl (.V i) de=.ok d):de[i]?=some (some d):=by
 cases z:de[i]? with
 |none=>rw[kI (.inl z)]at h;cases h
 |some o=>
  cases o with
  |none=>rw[kI (.inr z)]at h;cases h
  |some e=>rw[y9 z]at h;cases h;rfl
mutual
noncomputable def ai(R:S7)(m:Me):Dat->Wd->Prop
 |.N,w=>w=.N
 |.bl b,w=>w=.bl b
 |.int i,w=>w=.int i
 |.str s,w=>w=.str s
 |.scr E,w=>w=.rol (E.map Wd.int)
 |.T B,w=>∃A,w=.T A/\ab R m B A
 |.L B,w=>∃l A,w=.ref l/\R l/\m[l]?=some (.L A)/\ab R m B A
 |.D G B,w=>∃l A,w=.ref l/\R l/\m[l]?=some (.D G A)/\ab R m B A
noncomputable def ab(R:S7)(m:Me):T7->U4->Prop
 |[],A=>A=[]
 |d::B,A=>∃x r,A=x::r/\ai R m d x/\ab R m B r
end
noncomputable def Le(m m':Me):Prop:=∀(l:Nat) o,m[l]?=some o->m'[l]?=some o
def Le.refl(m:Me):Le m m:=λ_ _ h=>h
def Le.trans{a b c:Me}(h:Le a b)(k:Le b c):Le a c:=λl o z=>k l o (h l o z)
def Le.app(m x:Me):Le m (m++x):=λl o z=>by
 obtain⟨hl,_⟩:=Qa.mp z;rw[Qf hl];exact z
def Le.len (h:Le a b):a.length<=b.length:=by
 rcases Nat.lt_or_ge b.length a.length with z|z
 .have:=h b.length a[b.length] (Qj z);have:=(Qa.mp this).1;lia
 .exact z
noncomputable def Rf(R:S7)(n:Nat):Nat->Prop:=λl=>R l\/n<=l
mutual
theorem ai.frame{R R':S7}{m m':Me}(h:∀(l:Nat) o,R l->m[l]?=some o->R' l/\m'[l]?=some o):∀(d:Dat) (w:Wd),ai R m d w->ai R' m' d w
 |.N,w,q=>by unfold ai at q ⊢;exact q
 |.bl b,w,q=>by unfold ai at q ⊢;exact q
 |.int b,w,q=>by unfold ai at q ⊢;exact q
 |.str b,w,q=>by unfold ai at q ⊢;exact q
 |.scr b,w,q=>by unfold ai at q ⊢;exact q
 |.T B,w,q=>by
  unfold ai at q ⊢;obtain⟨A,rfl,q⟩:=q;exact⟨A,rfl,ab.frame h B A q⟩
 |.L B,w,q=>by
  unfold ai at q ⊢;obtain⟨l,A,rfl,r,z,q⟩:=q;exact⟨l,A,rfl,(h l _ r z).1,(h l _ r z).2,ab.frame h B A q⟩
 |.D E B,w,q=>by
  unfold ai at q ⊢;obtain⟨l,A,rfl,r,z,q⟩:=q;exact⟨l,A,rfl,(h l _ r z).1,(h l _ r z).2,ab.frame h B A q⟩
theorem ab.frame{R R':S7}{m m':Me}(h:∀(l:Nat) o,R l->m[l]?=some o->R' l/\m'[l]?=some o):∀(A:T7) (xs:U4),ab R m A xs->ab R' m' A xs
 |[],xs,q=>by unfold ab at q ⊢;exact q
 |d::A,xs,q=>by
  unfold ab at q ⊢;obtain⟨x,r,rfl,a,b⟩:=q;exact⟨x,r,rfl,ai.frame h d x a,ab.frame h A r b⟩
end
def ai.up{R:S7}{m m':Me}{d:Dat}{w:Wd}(n:Nat)(h:Le m m')(q:ai R m d w):ai (Rf R n) m' d w:=
 ai.frame (λl o r z=>⟨.inl r,h l o z⟩) d w q
def ab.up{R:S7}{m m':Me}{d:T7}{w:U4}(n:Nat)(h:Le m m')(q:ab R m d w):ab (Rf R n) m' d w:=
 ab.frame (λl o r z=>⟨.inl r,h l o z⟩) d w q
theorem bm:∀{E:T7}{xs:U4},ab R m E xs↔E.length=xs.length/\∀(i:Nat) d x,E[i]?=some d->xs[i]?=some x->ai R m d x
 |[],xs=>by
  unfold ab;constructor
  .rintro rfl;exact⟨rfl,by simp⟩
  .rintro ⟨h,_⟩;exact Va h.symm
 |d::E,xs=>by
  unfold ab;constructor
  .intro G;obtain⟨x,r,rfl,a,b⟩:=G;obtain⟨hl,H⟩:=bm.mp b;refine⟨by simp[hl],λi e y A B=>?_⟩;cases i with
   |zero=>simp at A B;subst A;subst B;exact a
   |succ i=>simp at A B;exact H i e y A B
  .rintro ⟨hl,h⟩;cases xs with
   |nil=>cases hl
   |cons x r=>
    refine⟨x,r,rfl,h 0 d x rfl rfl,bm.mpr ⟨by simpa using hl,λi e y A B=>h (i+1) e y (by simpa using A) (by simpa using B)⟩⟩
def ab.len (h:ab R m A xs):A.length=xs.length:=(bm.mp h).1
def ab.get (h:ab R m A xs){i:Nat}(z:A[i]?=some d):∃x,xs[i]?=some x/\ai R m d x:=by
 obtain⟨hl,h⟩:=bm.mp h;obtain⟨B,_⟩:=Qa.mp z;exact⟨xs[i],Qj (by lia),h i d _ z (Qj (by lia))⟩
def ab.nil{R:S7}{m:Me}:ab R m [] []:=by unfold ab;rfl
def ab.cons{R:S7}{m:Me}{d:Dat}{x:Wd}{A:T7}{xs:U4}(a:ai R m d x)(b:ab R m A xs):ab R m (d::A) (x::xs):=by
 unfold ab;exact⟨x,xs,rfl,a,b⟩
def ab.cons_inv (h:ab R m (d::A) xs):∃x r,xs=x::r/\ai R m d x/\ab R m A r:=by
 unfold ab at h;exact h
def ab.nil_inv (h:ab R m [] xs):xs=[]:=by unfold ab at h;exact h
theorem ab.app:∀{B A:T7}{xs ys:U4},ab R m B xs->ab R m A ys->ab R m (B++A) (xs++ys)
 |[],A,xs,ys,a,b=>by rw[a.nil_inv];exact b
 |d::B,A,xs,ys,a,b=>by
  obtain⟨x,r,rfl,p,q⟩:=a.cons_inv;exact .cons p (ab.app q b)
theorem ab.drop{R:S7}{m:Me}(n:Nat){A:T7}{xs:U4}(h:ab R m A xs):ab R m (A.drop n) (xs.drop n):=by
 obtain⟨hl,h⟩:=bm.mp h;refine bm.mpr ⟨by simp[hl],λi d x a b=>h (n+i) d x (by simpa using a) (by simpa using b)⟩
set_option tactic.hygienic true in
theorem ab.take{R:S7}{m:Me}(n:Nat){A:T7}{xs:U4}(h:ab R m A xs):ab R m (A.take n) (xs.take n):=by
 obtain⟨hl,h⟩:=bm.mp h;refine bm.mpr ⟨by simp[hl],λi d x a b=>?_⟩;rw[List.getElem?_take]at a b;split at a
 .next z=>rw[OB z]at b;exact h i d x a b
 .cases a
theorem ab.rev:∀{A:T7}{xs:U4},ab R m A xs->ab R m A.reverse xs.reverse
 |[],xs,a=>by rw[a.nil_inv];exact .nil
 |d::A,xs,a=>by
  obtain⟨x,r,rfl,p,q⟩:=a.cons_inv;rw[Wq,Wq];exact ab.app (ab.rev q) (.cons p .nil)
theorem ab.set{R:S7}{m:Me}{A:T7}{xs:U4}(h:ab R m A xs)(j:Nat){d:Dat}{x:Wd}(z:ai R m d x):ab R m (A.set j d) (xs.set j x):=by
 obtain⟨hl,h⟩:=bm.mp h;refine bm.mpr ⟨by simp[hl],λi e y a b=>?_⟩;rw[Q0]at a b;by_cases q:j=i
 .rw[OB q]at a b;split at a
  .split at b
   .cases a;cases b;exact z
   .cases b
  .cases a
 .rw[OC q]at a b;exact h i e y a b
theorem ab.rep (h:ab R m A xs):∀k:Nat,ab R m (QI k A).flatten (QI k xs).flatten
 |0=>.nil
 |k+1=>by
  rw[Wa,Wa,Q8,Q8];exact ab.app h (ab.rep h k)
theorem fv:∀(l:T6),ab R m (l.map Dat.int) (l.map Wd.int)
 |[]=>.nil
 |i::l=>.cons (by unfold ai;rfl) (fv l)
def aa:ai R m (.int i) w↔w=.int i:=by unfold ai;exact Iff.rfl
def ah:ai R m (.bl i) w↔w=.bl i:=by unfold ai;exact Iff.rfl
def aJ:ai R m .N w↔w=.N:=by unfold ai;exact Iff.rfl
def aN:ai R m (.str s) w↔w=.str s:=by unfold ai;exact Iff.rfl
def bv:ai R m (.scr s) w↔w=.rol (s.map Wd.int):=by unfold ai;exact Iff.rfl
def ag:ai R m (.T A) w↔∃xs,w=.T xs/\ab R m A xs:=by
 constructor
 .intro h;unfold ai at h;exact h
 .intro h;unfold ai;exact h
def aE:ai R m (.L A) w↔∃l xs,w=.ref l/\R l/\m[l]?=some (.L xs)/\ab R m A xs:=by
 constructor
 .intro h;unfold ai at h;exact h
 .intro h;unfold ai;exact h
def bn:ai R m (.D A B) w↔∃l xs,w=.ref l/\R l/\m[l]?=some (.D A xs)/\ab R m B xs:=by
 constructor
 .intro h;unfold ai at h;exact h
 .intro h;unfold ai;exact h
noncomputable def af(R:S7)(m:Me)(r:Rz)(B:Rd):Prop:=match B with
 |.ok d=>∃w A,r=.ok w A/\Le m A/\ai (Rf R m.length) A d w
 |.no=>True
def af.lift{R:S7}{m m1:Me}{r:Rz}{B:Rd}(h:Le m m1)(q:af (Rf R m.length) m1 r B):af R m r B:=by
 have hl:=h.len;have E:∀(A:Me) (d:Dat) (w:Wd),ai (Rf (Rf R m.length) m1.length) A d w->ai (Rf R m.length) A d w:=λA d w=>ai.frame (λl o z k=>⟨by rcases z with (z|z)|z;exact .inl z;exact .inr z;exact .inr (by lia),k⟩) d w;cases B with
 |ok d=>obtain⟨w,A,rfl,k,z⟩:=q;exact⟨w,A,rfl,h.trans k,E _ _ _ z⟩
 |no=>trivial
theorem af.bind{R:S7}{m:Me}{r:Rz}{A:Rd}{f:Wd->Me->Rz}{g:Dat->Rd}(h:af R m r A)
  (k:∀d w m',Le m m'->ai (Rf R m.length) m' d w->af (Rf R m.length) m' (f w m') (g d)):af R m (r.bind f) (A.bind g):=by
 cases A with
 |ok d=>obtain⟨w,m',rfl,l,z⟩:=h;exact af.lift l (k d w m' l z)
 |no=>trivial
def dQ (h:ai R m d w):af R m (.ok w m) (.ok d):=
 ⟨w,m,rfl,Le.refl m,h.up _ (Le.refl m)⟩
theorem af.no{R:S7}{m:Me}{r:Rz}:af R m r .no:=trivial
def af.new{R:S7}{m:Me}{A:T7}{xs:U4}(h:ab R m A xs):af R m (alloc m xs) (bh A):=by
 unfold bh alloc;rw[h.len];by_cases z:xs.length<=ao
 .rw[OB z,OB z];exact⟨_,_,rfl,Le.app m _,aE.mpr ⟨_,xs,rfl,.inr (Qh _),by simp,h.up _ (Le.app m _)⟩⟩
 .rw[OC z,OC z];exact af.no
noncomputable def bG(R:S7)(m:Me)(r:Rz)(A:Rd):Prop:=af R m r A/\∀d w B,A=.ok d->r=.ok w B->∃l,w=.ref l/\m.length<=l
theorem bG.no{R:S7}{m:Me}{r:Rz}:bG R m r .no:=⟨trivial,λ_ _ _ h=>by cases h⟩
def af.bindF (h:af R m r A)(k:∀d w m',Le m m'->ai (Rf R m.length) m' d w->bG (Rf R m.length) m' (f w m') (g d)):bG R m (r.bind f) (A.bind g):=by
 cases A with
 |ok d=>
  obtain⟨w,m',rfl,l,z⟩:=h;have q:=k d w m' l z;exact⟨af.lift l q.1,λd w m2 B E=>by
   obtain⟨p,e,h⟩:=q.2 d w m2 B E;exact⟨p,e,Qx l.len h⟩⟩
 |no=>exact bG.no
theorem bG.new{R:S7}{m:Me}{A:T7}{xs:U4}(h:ab R m A xs):bG R m (alloc m xs) (bh A):=
 ⟨af.new h,λd w B _ e=>by
  unfold alloc at e;split at e<;>cases e;exact⟨_,rfl,Qh _⟩⟩
def jF (h:ai R m d w)(z:xX d=some A):∃xs,wr m w=some xs/\ab R m A xs:=by
 cases d with
 |T B=>obtain⟨xs,rfl,q⟩:=ag.mp h;cases z;exact⟨xs,rfl,q⟩
 |L B=>
  obtain⟨l,xs,rfl,_,e,q⟩:=aE.mp h;cases z;exact⟨xs,by show zD m l=_;unfold zD;rw[e],q⟩
 |scr E=>rw[bv.mp h];cases z;exact⟨_,rfl,fv E⟩
 |_=>cases z
def lu (h:ai R m d w)(z:dS d=some A):∃xs,ff m w=some xs/\ab R m A xs:=by
 cases d with
 |L E=>
  obtain⟨l,xs,rfl,_,e,q⟩:=aE.mp h;cases z;exact⟨xs,by show zD m l=_;unfold zD;rw[e],q⟩
 |scr B=>rw[bv.mp h];cases z;exact⟨_,rfl,fv B⟩
 |_=>cases z
theorem Ay:∀{a b:T6},a.map Wd.int=b.map Wd.int->a=b
 |[],[],_=>rfl
 |[],_::_,h=>by cases h
 |_::_,[],h=>by cases h
 |x::a,y::b,h=>by
  simp only[QJ,List.cons.injEq,Wd.int.injEq]at h;rw[h.1,Ay h.2]
mutual
theorem ai.det{R R':S7}{m:Me}:∀(d e:Dat) (w:Wd),ai R m d w->ai R' m e w->d=e
 |.N,e,w,q,z=>by rw[aJ.mp q]at z;cases e<;>unfold ai at z<;>first|rfl|(exfalso;simp at z)
 |.bl b,e,w,q,z=>by rw[ah.mp q]at z;cases e<;>unfold ai at z<;>first|(injection z with z;rw[z])|(exfalso;simp at z)
 |.int b,e,w,q,z=>by rw[aa.mp q]at z;cases e<;>unfold ai at z<;>first|(injection z with z;rw[z])|(exfalso;simp at z)
 |.str b,e,w,q,z=>by rw[aN.mp q]at z;cases e<;>unfold ai at z<;>first|(injection z with z;rw[z])|(exfalso;simp at z)
 |.scr b,e,w,q,z=>by rw[bv.mp q]at z;cases e<;>unfold ai at z<;>first|(injection z with z;rw[Ay z])|(exfalso;simp at z)
 |.T G,e,w,q,z=>by
  obtain⟨H,rfl,I⟩:=ag.mp q;cases e with
  |T B=>obtain⟨M,e,E⟩:=ag.mp z;cases e;rw[ab.det G B H I E]
  |_=>exfalso;unfold ai at z;simp at z
 |.L G,e,w,q,z=>by
  obtain⟨l,H,rfl,_,J,I⟩:=aE.mp q;cases e with
  |L B=>obtain⟨N,M,e,_,A,E⟩:=aE.mp z;cases e;rw[J]at A;cases A;rw[ab.det G B H I E]
  |D O B=>obtain⟨N,M,e,_,A,E⟩:=bn.mp z;cases e;rw[J]at A;cases A
  |_=>exfalso;unfold ai at z;simp at z
 |.D O G,e,w,q,z=>by
  obtain⟨l,H,rfl,_,J,I⟩:=bn.mp q;cases e with
  |D Q B=>obtain⟨N,M,e,_,A,E⟩:=bn.mp z;cases e;rw[J]at A;cases A;rw[ab.det G B H I E]
  |L B=>obtain⟨N,M,e,_,A,E⟩:=aE.mp z;cases e;rw[J]at A;cases A
  |_=>exfalso;unfold ai at z;simp at z
theorem ab.det{R R':S7}{m:Me}:∀(B A:T7) (xs:U4),ab R m B xs->ab R' m A xs->B=A
 |[],A,xs,q,z=>by
  rw[q.nil_inv]at z;cases A with
  |nil=>rfl
  |cons e A=>obtain⟨_,_,h,_⟩:=z.cons_inv;cases h
 |d::B,A,xs,q,z=>by
  obtain⟨x,r,rfl,a,b⟩:=q.cons_inv;cases A with
  |nil=>cases z.nil_inv
  |cons e A=>
   obtain⟨_,_,h,E,G⟩:=z.cons_inv;cases h;rw[ai.det d e x a E,ab.det B A r b G]
end
def sf(d:Dat):wL 0 d=false:=by cases d<;>rfl
mutual
theorem Is:∀(k:Nat) (d:Dat),wL k d=true->dO d d=true
 |0,d,h=>by rw[sf]at h;cases h
 |k+1,.T A,h=>cb k A h
 |k+1,.int b,h=>by show decide (b=b)=true;simp
 |k+1,.N,h=>by cases h
 |k+1,.bl _,h=>by cases h
 |k+1,.str _,h=>by cases h
 |k+1,.scr _,h=>by cases h
 |k+1,.L _,h=>by cases h
 |k+1,.D _ _,h=>by cases h
theorem cb:∀(k:Nat) (A:T7),aZ k A=true->cH A A=true
 |k,[],h=>rfl
 |k,d::A,h=>by
  replace h:(wL k d&&aZ k A)=true:=h
  show(dO d d&&cH A A)=true;rw[QD]at h ⊢;exact⟨Is k d h.1,cb k A h.2⟩
end
theorem nN (H:∀(d e:Dat) (x y:Wd),wL k d=true->wL k e=true->ai R m d x->ai R m e y->cE m k x y=some (dO d e)):
  ∀(B A:T7) (xs ys:U4),aZ k B=true->aZ k A=true->ab R m B xs->ab R m A ys->∃q,cY (cE m k) xs ys=some q/\(q&&decide (xs.length=ys.length))=cH B A
 |[],A,xs,ys,E,G,a,b=>by
  rw[a.nil_inv];cases A with
  |nil=>rw[b.nil_inv];exact⟨true,rfl,rfl⟩
  |cons e A=>obtain⟨y,r,rfl,_,_⟩:=b.cons_inv;exact⟨true,rfl,rfl⟩
 |d::B,A,xs,ys,E,G,a,b=>by
  obtain⟨x,r,rfl,p,q⟩:=a.cons_inv;cases A with
  |nil=>rw[b.nil_inv];exact⟨true,rfl,rfl⟩
  |cons e A=>
   obtain⟨y,s,rfl,I,J⟩:=b.cons_inv
   replace E:(wL k d&&aZ k B)=true:=E
   replace G:(wL k e&&aZ k A)=true:=G
   rw[QD]at E G;obtain⟨t,L,M⟩:=nN H B A r s E.2 G.2 q J;refine⟨dO d e&&t,?_,?_⟩
   .unfold cY;rw[H d e x y E.1 G.1 p I,L];rfl
   .show (dO d e&&t&&decide (r.length+1=s.length+1))=(dO d e&&cH B A);simp only[<-M,Nat.succ_inj,Bool.and_assoc]
def cV (h:m[l]?=some (.L xs)):bU m l=true:=by unfold bU;rw[h]
theorem lr:∀(k:Nat) (d e:Dat) (x y:Wd),wL k d=true->wL k e=true->ai R m d x->ai R m e y->cE m k x y=some (dO d e)
 |0,d,e,x,y,h,_,_,_=>by rw[sf]at h;cases h
 |k+1,d,e,x,y,H,B,a,b=>by
  cases d with
  |T I=>
   obtain⟨E,rfl,J⟩:=ag.mp a;cases e with
   |T G=>
    obtain⟨A,rfl,L⟩:=ag.mp b;obtain⟨q,h,e⟩:=nN (lr k) I G E A H B J L;show(cY (cE m k) E A).map (· && decide (E.length=A.length))=some (cH I G);rw[h,<-e];rfl
   |int _=>rw[aa.mp b];rfl
   |_=>cases B
  |int _=>
   rw[aa.mp a];cases e with
   |T G=>obtain⟨A,rfl,b⟩:=ag.mp b;rfl
   |int _=>rw[aa.mp b];rfl
   |_=>cases B
  |_=>cases H
set_option tactic.hygienic true in
def uW (h:lR d e=some q)(a:ai R m d x)(b:ai R m e y):cE m yT x y=some q:=by
 unfold lR at h;split at h
 .next z=>simp only[QD]at z;cases h;exact lr yT d e x y z.1 z.2 a b
 .rename_i J;clear J;cases d with
  |L E=>
   cases e with
   |L G=>
    replace h:(if aZ 11 E&&aZ 11 G then some (cH E G)else none)=some q:=h
    split at h
    .next z=>
     cases h;rw[QD]at z;obtain⟨l,A,rfl,_,I,M⟩:=aE.mp a;obtain⟨H,B,rfl,_,N,O⟩:=aE.mp b;show(if l=H then(if bU m l then some true else none)else match m[l]?,m[H]? with
      |some (.L A),some (.L B)=>if A.length=B.length then cY (cE m 11) A B else some false
      |_,_=>none)=_
     by_cases q:l=H
     .subst q;rw[OB rfl,OB (cV I)];cases ai.det _ _ _ a b;rw[cb 11 _ z.2]
     .rw[OC q,I,N];obtain⟨q,h,e⟩:=nN (lr 11) E G A B z.1 z.2 M O;show(if A.length=B.length then cY (cE m 11) A B else some false)=some (cH E G);by_cases z:A.length=B.length
      .simp only[z,if_true,h,<-e];simp
      .simp only[z,if_false,<-e];simp
    .cases h
   |_=>cases h
  |bl _=>
   cases e with
   |bl _=>rw[ah.mp a,ah.mp b];exact h
   |_=>cases h
  |str _=>
   cases e with
   |str _=>rw[aN.mp a,aN.mp b];exact h
   |_=>cases h
  |_=>cases h
theorem uU (h:wL yT d=true)(a:ai R m d x):∀(A:T7) (ys:U4),aZ yT A=true->ab R m A ys->eo (cE m yT) x ys=some (A.any λe=>dO e d)
 |[],ys,_,b=>by rw[b.nil_inv];rfl
 |e::A,ys,z,b=>by
  obtain⟨y,r,rfl,p,q⟩:=b.cons_inv
  replace z:(wL yT e&&aZ yT A)=true:=z
  rw[QD]at z;show(match cE m yT y x with
   |some a=>(eo (cE m yT) x r).map (a || ·)
   |none=>none)=_
  rw[lr yT e d y x z.1 h p a,uU h a A r z.2 q];rfl
set_option tactic.hygienic true in
def uT (h:iM d A=some q)(a:ai R m d x)(b:ab R m A ys):eo (cE m yT) x ys=some q:=by
 unfold iM at h;split at h
 .next z=>simp only[QD]at z;cases h;exact uU z.1 a A ys z.2 b
 .cases h
theorem af.int{R:S7}{m:Me}{i:Int}:af R m (.ok (.int i) m) (.ok (.int i)):=dQ (aa.mpr rfl)
theorem af.bl{R:S7}{m:Me}{i:Bool}:af R m (.ok (.bl i) m) (.ok (.bl i)):=dQ (ah.mpr rfl)
def uS (op:Bo)(a:ai R m d x)(b:ai R m e y):af R m (dF op x y m) (zZ op d e):=by
 cases d with
 |int i=>
  rw[aa.mp a];cases e with
  |int j=>
   rw[aa.mp b];cases op<;>simp only[dF,zZ]
   .exact af.int
   .exact af.int
   .by_cases z:(xg i || xg j)=true
    .rw[OB z,OB z];exact af.int
    .rw[OC z,OC z];exact af.no
   .by_cases z:0<j/\j<1073741824
    .rw[OB z,OB z];exact af.int
    .rw[OC z,OC z];exact af.no
   .by_cases z:0<j
    .rw[OB z,OB z];exact af.int
    .rw[OC z,OC z];exact af.no
   .by_cases z:0<=j/\j<=1000000/\xg i=true
    .rw[OB z,OB z];exact af.int
    .rw[OC z,OC z];exact af.no
  |_=>exact af.no
 |L I=>
  obtain⟨l,E,rfl,_,G,A⟩:=aE.mp a;cases e with
  |L J=>
   obtain⟨Q,H,rfl,_,M,B⟩:=aE.mp b;cases op<;>first|exact af.no|skip
   simp only[dF,zZ,G,M];exact af.new (A.app B)
  |int k=>
   rw[aa.mp b];cases op<;>first|exact af.no|skip
   simp only[dF,zZ,G];by_cases z:-(ao:Int)<=k/\k<=(ao:Int)
   .rw[OB z,OB z];exact af.new (A.rep _)
   .rw[OC z,OC z];exact af.no
  |_=>exact af.no
 |T I=>
  obtain⟨E,rfl,A⟩:=ag.mp a;cases e with
  |T J=>
   obtain⟨H,rfl,B⟩:=ag.mp b;cases op<;>first|exact af.no|skip
   simp only[dF,zZ];have N:=A.len;have O:=B.len;rw[N,O];by_cases z:E.length+H.length<=ao
   .rw[OB z,OB z];exact dQ (ag.mpr ⟨_,rfl,A.app B⟩)
   .rw[OC z,OC z];exact af.no
  |_=>exact af.no
 |_=>exact af.no
def nM (r:Int->Int->Bool)(a:ai R m d x)(b:ai R m e y):af R m (qB r x y m) (i3 r d e):=by
 cases d with
 |int i=>
  rw[aa.mp a];cases e with
  |int j=>rw[aa.mp b];exact af.bl
  |_=>exact af.no
 |_=>exact af.no
def nL (h:∀b,q=some b->p=some b):af R m (dN p m) (ve q):=by
 cases q with
 |none=>exact af.no
 |some b=>rw[h b rfl];exact af.bl
def gI (h:∀b,q=some b->p=some b):af R m (dN (p.map (!·)) m) (ve (q.map (!·))):=by
 cases q with
 |none=>exact af.no
 |some b=>rw[h b rfl];exact af.bl
def Ir (a:ai R m d x)(b:ai R m e y):af R m (dq .notN x y m) (yH .notN d e):=by
 cases e with
 |N=>
  rw[aJ.mp b];cases d with
  |N=>rw[aJ.mp a];exact af.bl
  |bl _=>rw[ah.mp a];exact af.bl
  |int _=>rw[aa.mp a];exact af.bl
  |str _=>rw[aN.mp a];exact af.bl
  |scr _=>rw[bv.mp a];exact af.bl
  |T _=>obtain⟨A,rfl,_⟩:=ag.mp a;exact af.bl
  |L _=>obtain⟨l,A,rfl,_⟩:=aE.mp a;exact af.bl
  |D _ _=>obtain⟨l,A,rfl,_⟩:=bn.mp a;exact af.bl
 |_=>exact af.no
theorem wB:∀{A:T7}{xs:U4}{k:T6},ab R m A xs->xy A=some k->wW xs=some k
 |[],xs,k,a,h=>by rw[a.nil_inv];exact h
 |d::A,xs,k,a,h=>by
  obtain⟨x,r,rfl,p,q⟩:=a.cons_inv;cases d with
  |int j=>
   rw[aa.mp p];simp only[xy,QF]at h;obtain⟨k,B,rfl⟩:=h;simp only[wW,wB q B,QR]
  |_=>simp[xy]at h
def nK (op:Co)(a:ai R m d x)(b:ai R m e y):af R m (dq op x y m) (yH op d e):=by
 cases op with
 |eq=>exact nL λq h=>uW h a b
 |ne=>exact gI λq h=>uW h a b
 |notN=>exact Ir a b
 |isin=>
  simp only[dq,yH];cases z:xX e with
  |none=>
   cases e with
   |D B J=>
    obtain⟨l,L,rfl,_,A,q⟩:=bn.mp b;have E:wr m (.ref l)=none:=by show zD m l=none;unfold zD;rw[A]
    rw[E];refine nL λt h=>?_;unfold fZ;simp only[A];cases d with
    |int i=>rw[aa.mp a];exact h
    |T G=>
     obtain⟨I,rfl,q⟩:=ag.mp a;have h:(xy G).map (λk=>decide (k∈B))=some t:=h;obtain⟨k,H,rfl⟩:=QF.mp h;show(wW I).map _=_;rw[wB q H];rfl
    |_=>cases h
   |_=>exact af.no
  |some M=>
   obtain⟨N,h,q⟩:=jF b z;rw[h];exact nL λt h=>uT h a q
 |notin=>
  simp only[dq,yH];cases z:xX e with
  |none=>
   cases e with
   |D B J=>
    obtain⟨l,L,rfl,_,A,q⟩:=bn.mp b;have E:wr m (.ref l)=none:=by show zD m l=none;unfold zD;rw[A]
    rw[E];cases d with
    |T G=>
     obtain⟨I,rfl,q⟩:=ag.mp a;refine gI λt h=>?_;have h:(xy G).map (λk=>decide (k∈B))=some t:=h;obtain⟨k,H,rfl⟩:=QF.mp h;unfold fZ;simp only[A];rw[wB q H];rfl
    |_=>exact af.no
   |_=>cases d<;>exact af.no
  |some M=>
   obtain⟨N,h,q⟩:=jF b z;rw[h];exact gI λt h=>uT h a q
 |lt=>exact nM _ a b
 |le=>exact nM _ a b
 |gt=>exact nM _ a b
def Gx (t:Tg)(a:ai R m d x):af R m (dN (fH t x m) m) (ve (lQ t d)):=by
 cases d with
 |bl _=>rw[ah.mp a];cases t<;>exact af.bl
 |int _=>rw[aa.mp a];cases t<;>exact af.bl
 |_=>cases t<;>exact af.no
def Ax (a:ai R m d x)(h:vQ d=some k):fS x=some k:=by
 cases d with
 |T A=>obtain⟨B,rfl,q⟩:=ag.mp a;exact wB q h
 |_=>cases h
theorem uR:∀{A:O7}{B:T7}{xs:U4}{d:Dat},ab R m B xs->dH A B q=some d->∃x,dH A xs q=some x/\ai R m d x
 |[],B,xs,d,a,h=>by cases B<;>cases h
 |k::A,[],xs,d,a,h=>by cases h
 |k::A,e::B,xs,d,a,h=>by
  obtain⟨x,r,rfl,p,z⟩:=a.cons_inv;have E:(if k=q then some e else dH A B q)=some d:=h;show ∃y,(if k=q then some x else dH A r q)=some y/\_;by_cases c:k=q
  .rw[OB c]at E ⊢;cases E;exact⟨x,rfl,p⟩
  .rw[OC c]at E ⊢;exact uR z E
def Aw (a:ai R m d x)(b:ai R m e y):af R m (qC x y m) (jt d e):=by
 cases d with
 |D A B=>
  obtain⟨l,L,rfl,_,E,q⟩:=bn.mp a;unfold jt qC;simp only[E];cases G:vQ e with
  |none=>exact af.no
  |some k=>
   rw[Ax b G];simp only[VY];cases H:dH A B k with
   |none=>exact af.no
   |some v=>
    obtain⟨w,I,J⟩:=uR q H;rw[I];exact dQ J
 |_=>exact af.no
theorem uQ:∀{A:T7}{xs:U4}{i:Int},ab R m A xs->qj A=some i->fy xs=some i
 |[],xs,i,a,h=>by rw[a.nil_inv];exact h
 |d::A,xs,i,a,h=>by
  obtain⟨x,r,rfl,p,q⟩:=a.cons_inv;cases d with
  |int j=>
   rw[aa.mp p];simp only[qj,QF]at h;obtain⟨k,B,rfl⟩:=h;simp only[fy,uQ q B,QR]
  |_=>simp[qj]at h
theorem uP:∀{A:T7}{xs:U4}{i:Bool},ab R m A xs->gF A=some i->fx xs=some i
 |[],xs,i,a,h=>by rw[a.nil_inv];exact h
 |d::A,xs,i,a,h=>by
  obtain⟨x,r,rfl,p,q⟩:=a.cons_inv;cases d with
  |bl j=>
   rw[ah.mp p];simp only[gF,QF]at h;obtain⟨k,B,rfl⟩:=h;simp only[fx,uP q B,QR]
  |_=>simp[gF]at h
def Gw (b:eD)(a:ab R m A xs):af R m (fT b xs m) (xf b A):=by
 have one:∀{d:Dat}{xs:U4},ab R m [d] xs->∃x,xs=[x]/\ai R m d x:=by
  intro d xs h;obtain⟨x,r,rfl,p,q⟩:=h.cons_inv;rw[q.nil_inv];exact⟨x,rfl,p⟩
 cases b with
 |len=>
  cases A with
  |nil=>exact af.no
  |cons d A=>
   cases A with
   |cons _ _=>exact af.no
   |nil=>
    obtain⟨x,rfl,p⟩:=one a;show af R m _ (match xX d with|some i=>.ok (.int i.length)|none=>.no);cases z:xX d with
    |none=>exact af.no
    |some i=>
     obtain⟨G,h,q⟩:=jF p z;simp only[fT,h,q.len];exact af.int
 |int=>
  cases A with
  |nil=>exact af.no
  |cons d A=>
   cases d with
   |int i=>
    cases A with
    |cons _ _=>exact af.no
    |nil=>obtain⟨x,rfl,p⟩:=one a;rw[aa.mp p];exact af.int
   |bl i=>
    cases A with
    |cons _ _=>exact af.no
    |nil=>obtain⟨x,rfl,p⟩:=one a;rw[ah.mp p];exact af.int
   |_=>exact af.no
 |sum=>
  cases A with
  |nil=>exact af.no
  |cons d A=>
   cases A with
   |cons _ _=>exact af.no
   |nil=>
    obtain⟨x,rfl,p⟩:=one a;show af R m _ (match (dS d).bind qj with|some i=>.ok (.int i)|none=>.no);cases z:(dS d).bind qj with
    |none=>exact af.no
    |some i=>
     obtain⟨H,B,E⟩:=Qt.mp z;obtain⟨G,h,q⟩:=lu p B;simp only[fT,h,WR,uQ q E];exact af.int
 |all=>
  cases A with
  |nil=>exact af.no
  |cons d A=>
   cases A with
   |cons _ _=>exact af.no
   |nil=>
    obtain⟨x,rfl,p⟩:=one a;show af R m _ (match (dS d).bind gF with|some i=>.ok (.bl i)|none=>.no);cases z:(dS d).bind gF with
    |none=>exact af.no
    |some i=>
     obtain⟨H,B,E⟩:=Qt.mp z;obtain⟨G,h,q⟩:=lu p B;simp only[fT,h,WR,uP q E];exact af.bl
def Gv (a:ai R m d x)(b:ai R m e y):af R m (jY x y m) (yh d e):=by
 cases e with
 |int i=>
  rw[aa.mp b];simp only[yh,jY];cases z:xX d with
  |none=>exact af.no
  |some A=>
   obtain⟨H,h,q⟩:=jF a z;simp only[h];cases z:(ix A.length i).bind λj=>A[j]? with
   |none=>exact af.no
   |some v=>
    obtain⟨j,B,E⟩:=Qt.mp z;obtain⟨x,G,p⟩:=q.get E;rw[q.len]at B;simp only[B,WR,G];exact dQ p
 |_=>exact af.no
def tx{x:Wd}{m:Me}{lo A:R9}(h:∀xs,x≠.T xs):fm x lo A m=match ff m x with
  |some xs=>alloc m ((xs.drop (aR xs.length 0 lo)).take (aR xs.length xs.length A-aR xs.length 0 lo))
  |none=>.no:=by
 cases x with
 |T xs=>exact OD rfl (h xs)
 |_=>rfl
def uO{d:Dat}{lo B:R9}(h:∀E,d≠.T E):dW d lo B=match dS d with
  |some A=>bh ((A.drop (aR A.length 0 lo)).take (aR A.length A.length B-aR A.length 0 lo))
  |none=>.no:=by
 cases d with
 |T A=>exact OD rfl (h A)
 |_=>rfl
def uN (a:ai R m d x)(h:∀A,d≠.T A):∀xs,x≠.T xs:=λxs e=>by
 subst e;cases d with
 |T A=>exact h A rfl
 |N=>have:=aJ.mp a;cases this
 |bl _=>have:=ah.mp a;cases this
 |int _=>have:=aa.mp a;cases this
 |str _=>have:=aN.mp a;cases this
 |scr _=>have:=bv.mp a;cases this
 |L _=>obtain⟨l,B,e,_⟩:=aE.mp a;cases e
 |D _ _=>obtain⟨l,B,e,_⟩:=bn.mp a;cases e
def uM (lo B:R9)(a:ai R m (.T E) x):af R m (fm x lo B m) (dW (.T E) lo B):=by
 obtain⟨A,rfl,q⟩:=ag.mp a;simp only[dW,fm,q.len];by_cases z:aR A.length 0 lo=0/\aR A.length A.length B=A.length
 .rw[OB z,OB z];exact af.no
 .rw[OC z,OC z];exact dQ (ag.mpr ⟨_,rfl,(q.drop _).take _⟩)
def tw (lo B:R9)(a:ai R m d x):af R m (fm x lo B m) (dW d lo B):=by
 by_cases t:∃A,d=.T A
 .obtain ⟨A,rfl⟩:=t;exact uM lo B a
 have E:∀A,d≠.T A:=λA e=>t ⟨A,e⟩;rw[tx (uN a E),uO E];cases z:dS d with
 |none=>exact af.no
 |some A=>
  obtain⟨G,h,q⟩:=lu a z;simp only[h,q.len];exact af.new ((q.drop _).take _)
theorem kJ (st:Int):∀(n:Nat) (lo:Int),ab R m (yA lo st n) (fw lo st n)
 |0,lo=>.nil
 |n+1,lo=>by
  have h:yA lo st (n+1)=.int lo::yA (lo+st) st n:=by
   unfold yA;rw[WN,QJ,QQ];congr 1
   .simp
   .apply Vh;intro i _;show Dat.int _=Dat.int _;congr 1;rw[show((Nat.succ i:Nat):Int)=(i:Int)+1 from rfl,Int.mul_add,Int.mul_one];lia
  rw[h];exact .cons (aa.mpr rfl) (kJ st n _)
theorem jG:∀{A:T7}{xs:U4}{B:O7},ab R m A xs->jb A=some B->qg xs=some B
 |[],_,B,q,h=>by rw[q.nil_inv];exact h
 |d::A,_,B,q,h=>by
  obtain⟨x,r,rfl,a,b⟩:=q.cons_inv;cases d with
  |T H=>
   obtain⟨L,rfl,I⟩:=ag.mp a;unfold jb at h;unfold qg;cases E:xy H with
   |none=>simp only[E]at h;cases h
   |some k=>
    rw[wB I E];cases G:jb A with
    |none=>
     simp only[E,G]at h;cases h
    |some J=>
     rw[jG b G];simp only[E,G]at h;exact h
  |_=>cases h
def ab.one1{R:S7}{m:Me}{A:T7}{xs:U4}(h:ab R m A xs):ab R m (A.take 1) (xs.take 1):=by
 cases A with
 |nil=>rw[h.nil_inv];exact .nil
 |cons d A=>obtain⟨x,r,rfl,a,b⟩:=h.cons_inv;exact .cons a .nil
theorem uL:∀{A:T7}{xs:U4}{B:O7},ab R m A xs->eE A=some B->eJ m xs=some B
 |[],_,B,q,h=>by rw[q.nil_inv];exact h
 |d::A,_,B,q,h=>by
  obtain⟨x,r,rfl,a,b⟩:=q.cons_inv;cases d with
  |L H=>
   obtain⟨l,I,rfl,_,J,M⟩:=aE.mp a;have N:zD m l=some I:=by unfold zD;rw[J]
   unfold eE at h;unfold eJ;simp only[N];cases E:jb (H.take 1)with
   |none=>simp only[E]at h;cases h
   |some k=>
    rw[jG M.one1 E];cases G:eE A with
    |none=>
     simp only[E,G]at h;cases h
    |some O=>
     rw[uL b G];simp only[E,G]at h;exact h
  |_=>cases h
theorem gJ:∀A:O7,ab R m (A.map λk=>.T (k.map Dat.int)) (A.map λk=>.T (k.map Wd.int))
 |[]=>.nil
 |k::A=>.cons (ag.mpr ⟨_,rfl,fv k⟩) (gJ A)
def Gu (k:Dk)(a:ai R m d x)(b:ai R m e y)(c:ai R m f z):af R m (fe k x y z m) (gH k d e f):=by
 cases k with
 |sot=>
  unfold gH fe;simp only;cases d with
  |L A=>
   obtain⟨l,B,rfl,_,E,q⟩:=aE.mp a;have G:zD m l=some B:=by unfold zD;rw[E]
   unfold mV iu;simp only[G,WR];cases H:jb A with
   |none=>exact af.no
   |some I=>
    rw[jG q H];simp only;cases wX T6 (I.map (0::·)) I with
    |none=>exact af.no
    |some J=>exact af.new (gJ J)
  |_=>exact af.no
 |sor=>
  unfold gH fe;simp only;cases d with
  |L A=>
   obtain⟨l,B,rfl,_,E,q⟩:=aE.mp a;have G:zD m l=some B:=by unfold zD;rw[E]
   simp only[G];cases H:eE A with
   |none=>exact af.no
   |some I=>
    rw[uL q H];simp only;split
    .exact af.new q
    .exact af.no
  |_=>exact af.no
def Iq (a:ai R m d x)(h:gG k d=true):rN k x m=true:=by
 cases k with
 |sot=>rfl
 |sor=>rfl
def G7 (a:ai R m d x)(b:ai R m e y)(c:ai R m f z):af R m (ir x y z m) (kG d e f):=by
 cases d with
 |int i=>
  cases e with
  |int j=>
   cases f with
   |int k=>
    rw[aa.mp a,aa.mp b,aa.mp c];simp only[ir,kG];split
    .exact dQ (ag.mpr ⟨_,rfl,kJ k _ i⟩)
    .exact af.no
   |_=>exact af.no
  |_=>exact af.no
 |_=>exact af.no
theorem vG {R:S7}(I:∀(R':S7) m d x,(∀l,R l->R' l)->Le m0 m->ai R' m d x->af R' m (c x m) (cd d))(J:∀(R':S7) m d x,(∀l,R l->R' l)->Le m0 m->ai R' m d x->af R' m (e x m) (M d)):
  ∀(E:T7) (xs:U4) (acc:T7) (A:U4) (R':S7) (m:Me),(∀l,R l->R' l)->Le m0 m->ab R' m E xs->ab R' m acc A->bG R' m (wv c e xs A m) (y7 cd M E acc)
 |[],xs,acc,A,R',m,G,H,a,b=>by
  rw[a.nil_inv];unfold wv y7;exact bG.new b
 |d::E,xs,acc,A,R',m,G,H,a,b=>by
  obtain⟨x,r,rfl,p,q⟩:=a.cons_inv;unfold wv y7;refine(I R' m d x G H p).bindF λt w m1 B N=>?_;cases t with
  |bl t=>
   rw[ah.mp N];cases t with
   |true=>
    refine(J _ m1 d x (λl z=>.inl (G l z)) (H.trans B) (p.up _ B)).bindF λt w m2 L O=>?_;simp only[b.len];by_cases z:A.length<ao
    .rw[OB z,OB z];exact vG I J E r _ _ _ m2 (λl z=>.inl (.inl (G l z))) ((H.trans B).trans L) ((q.up _ B).up _ L) (((b.up _ B).up _ L).app (.cons O .nil))
    .rw[OC z,OC z];exact bG.no
   |false=>exact vG I J E r _ _ _ m1 (λl z=>.inl (G l z)) (H.trans B) (q.up _ B) (b.up _ B)
  |_=>exact bG.no
theorem jc {R:S7}(hl:m0[l]?=some (.L A))(O:∀(R':S7) m d x,(∀l,R l->R' l)->Le m0 m->ai R' m d x->af R' m (c x m) (cd d))(Q:∀(R':S7) m d x,(∀l,R l->R' l)->Le m0 m->ai R' m d x->af R' m (e x m) (j d)):
  ∀(E:T7) (i k:Nat) (acc:T7) (B:U4) (R':S7) (m:Me),(∀l,R l->R' l)->Le m0 m->ab R' m E (A.drop i)->i+E.length=A.length->E.length<k->ab R' m acc B->bG R' m (ww c e l k i B m) (y7 cd j E acc)
 |[],i,0,acc,B,R',m,I,G,a,L,J,b=>by simp at J
 |d::E,i,0,acc,B,R',m,I,G,a,L,J,b=>by simp at J
 |[],i,k+1,acc,B,R',m,I,G,a,L,J,b=>by
  unfold ww y7 zD;rw[G l _ hl];simp only;rw[Qy (by simp at L;lia)];exact bG.new b
 |d::E,i,k+1,acc,B,R',m,I,G,a,L,J,b=>by
  obtain⟨x,r,Y,p,q⟩:=a.cons_inv;have u:A[i]?=some x:=by
   have:(A.drop i)[0]?=some x:=by rw[Y];rfl
   simpa using this
  have o:r=A.drop (i+1):=by
   have:(A.drop i).drop 1=r:=by rw[Y];rfl
   rw[<-this,Vm]
  rw[o]at q;have M:i+1+E.length=A.length:=by simp at L;lia
  have N:E.length<k:=by simp at J;lia
  unfold ww y7 zD;rw[G l _ hl];simp only;rw[u];simp only;refine(O R' m d x I G p).bindF λt w m1 H g=>?_;cases t with
  |bl t=>
   rw[ah.mp g];cases t with
   |true=>
    refine(Q _ m1 d x (λl z=>.inl (I l z)) (G.trans H) (p.up _ H)).bindF λt w m2 U f=>?_;simp only[b.len];by_cases z:B.length<ao
    .rw[OB z,OB z];exact jc hl O Q E (i+1) k _ _ _ m2 (λl z=>.inl (.inl (I l z))) ((G.trans H).trans U) ((q.up _ H).up _ U) M N (((b.up _ H).up _ U).app (.cons f .nil))
    .rw[OC z,OC z];exact bG.no
   |false=>exact jc hl O Q E (i+1) k _ _ _ m1 (λl z=>.inl (I l z)) (G.trans H) (q.up _ H) M N (b.up _ H)
  |_=>exact bG.no
noncomputable def se(R:S7)(m0:Me)(ps:List (Dat×Dat))(g:Nat->Me->Option (Option (Wd×Wd))):Prop:=
 ∀m,Le m0 m->(∀i p,ps[i]?=some p->∃a b,g i m=some (some (a,b))/\ai R m p.1 a/\ai R m p.2 b)/\∀i,ps.length<=i->g i m=some none
theorem oi{A B:Type}:∀{xs:List A}{ys:List B}{i:Nat}{p:A×B},(xs.zip ys)[i]?=some p->xs[i]?=some p.1/\ys[i]?=some p.2
 |[],_,i,p,h=>by simp at h
 |_::_,[],i,p,h=>by simp at h
 |x::xs,y::ys,0,p,h=>by simp at h;subst h;exact⟨rfl,rfl⟩
 |x::xs,y::ys,i+1,p,h=>by
  have E:(xs.zip ys)[i]?=some p:=by simpa using h
  simpa using oi E
set_option tactic.hygienic true in
theorem oh:∀{xs:T7}{ps:List (Dat×Dat)},fh xs=some ps->ps.length=xs.length/\∀(i:Nat) p,ps[i]?=some p->xs[i]?=some (.T [p.1,p.2])
 |[],ps,h=>by cases h;exact⟨rfl,λi p q=>by simp at q⟩
 |d::xs,ps,h=>by
  unfold fh at h;split at h
  .next A=>cases A
  .next x y r A=>
   cases A;obtain⟨B,e,rfl⟩:=QF.mp h;obtain⟨a,b⟩:=oh e;refine⟨by simp[a],λi p q=>?_⟩;cases i with
   |zero=>cases q;rfl
   |succ i=>exact b i p q
  .cases h
def tu (A:ai R m0 x a)(h:fC x=some B):∃xs,(∀m,Le m0 m->kY m a=some xs)/\ab R m0 B xs:=by
 cases x with
 |L G=>
  cases h;obtain⟨l,xs,rfl,_,E,q⟩:=aE.mp A;exact⟨xs,λm h=>by show zD m l=_;unfold zD;rw[h _ _ E],q⟩
 |_=>cases h
set_option tactic.hygienic true in
def JA (e:xo k x y=some ps)(L:ai R m0 x a)(M:ai R m0 y b):se R m0 ps (zG k a b)/\ps.length<=ao:=by
 unfold xo at e;split at e
 .cases f1:fC x with
  |none=>rw[f1]at e;cases e
  |some s=>
   cases f2:fC y with
   |none=>rw[f1,f2]at e;cases e
   |some n=>
    rw[f1,f2]at e;obtain⟨J,B,A⟩:=tu L f1;obtain⟨g,f,t⟩:=tu M f2;dsimp only at e;split at e
    .next z=>
     cases e;refine⟨λm h=>⟨λi p q=>?_,λi q=>?_⟩,by simp;lia⟩
     .obtain ⟨E,N⟩:=oi q;obtain⟨a,G,H⟩:=A.get E;obtain⟨b,w,b2⟩:=t.get N;refine⟨a,b,?_,ai.frame (λl o r z=>⟨r,h l o z⟩) _ _ H,ai.frame (λl o r z=>⟨r,h l o z⟩) _ _ b2⟩;simp only[zG,B m h,f m h,G,w]
     .simp only[zG,B m h,f m h];have O:=A.len;have l2:=t.len;simp only[Ua]at q;rcases Nat.le_total J.length g.length with z3|z3
      .rw[Qy (by lia)]
      .rw[Qy (l:=g) (by lia)];cases J[i]?<;>rfl
    .cases e
 .rename_i I st;obtain⟨l,J,rfl,_,B,A⟩:=aE.mp L;rw[aa.mp M];split at e
  .next z=>
   cases e;have O:=A.len;refine⟨λm h=>⟨λi p q=>?_,λi q=>?_⟩,by simp[yA];lia⟩
   .obtain ⟨E,N⟩:=oi q;obtain⟨a,G,H⟩:=A.get N;have hp:p.1=.int (st+(i:Int)):=by
     simp only[yA,Qq]at E;cases Q:(QA I.length)[i]? with
     |none=>rw[Q]at E;cases E
     |some j=>
      rw[Q]at E;have:=Qa.mp Q;obtain⟨_,hj⟩:=this;simp only[List.getElem_range]at hj;subst hj;simp only[QR,Option.some.injEq,Int.one_mul]at E;exact E.symm
    refine⟨.int (st+(i:Int)),a,?_,by rw[hp];exact aa.mpr rfl,ai.frame (λl o r z=>⟨r,h l o z⟩) _ _ H⟩;simp only[zG,zD];rw[h _ _ B];simp only[G,QR]
   .simp only[zG,zD];rw[h _ _ B];simp only[yA,Ua,Qi,List.length_range]at q;simp only;rw[Qy (by lia)];rfl
  .cases e
 .rename_i I st;obtain⟨l,J,rfl,_,B,A⟩:=aE.mp L;rw[aa.mp M];split at e
  .next z=>
   have O:=A.len;obtain⟨g1,U⟩:=oh e;refine⟨λm h=>⟨λi p q=>?_,λi q=>?_⟩,by lia⟩
   .obtain ⟨a,G,H⟩:=A.get (U i p q);obtain⟨us,rfl,Y⟩:=ag.mp H;obtain⟨x,r,rfl,u,rb⟩:=Y.cons_inv;obtain⟨y,r',rfl,d,c⟩:=rb.cons_inv;obtain rfl:=c.nil_inv;refine⟨x,y,?_,ai.frame (λl o r z=>⟨r,h l o z⟩) _ _ u,ai.frame (λl o r z=>⟨r,h l o z⟩) _ _ d⟩;simp only[zG,zD];rw[h _ _ B];simp only[G];rfl
   .simp only[zG,zD];rw[h _ _ B];simp only;rw[Qy (by lia)]
  .cases e
 .rename_i I st;obtain⟨J,rfl,A⟩:=ag.mp L;rw[aa.mp M];split at e
  .next z=>
   have O:=A.len;obtain⟨g1,U⟩:=oh e;refine⟨λm h=>⟨λi p q=>?_,λi q=>?_⟩,by lia⟩
   .obtain ⟨a,G,H⟩:=A.get (U i p q);obtain⟨us,rfl,Y⟩:=ag.mp H;obtain⟨x,r,rfl,u,rb⟩:=Y.cons_inv;obtain⟨y,r',rfl,d,c⟩:=rb.cons_inv;obtain rfl:=c.nil_inv;refine⟨x,y,?_,ai.frame (λl o r z=>⟨r,h l o z⟩) _ _ u,ai.frame (λl o r z=>⟨r,h l o z⟩) _ _ d⟩;simp only[zG,G];rfl
   .simp only[zG];rw[Qy (by lia)]
  .cases e
 .cases e
theorem jd (N:se R m0 ps g)(O:∀(R':S7) m p a b,(∀l,R l->R' l)->Le m0 m->ai R' m p.1 a->ai R' m p.2 b->af R' m (c a b m) (cd p))(Q:∀(R':S7) m p a b,(∀l,R l->R' l)->Le m0 m->ai R' m p.1 a->ai R' m p.2 b->af R' m (e a b m) (j p)):
  ∀(B:List (Dat×Dat)) (i k:Nat) (acc:T7) (A:U4) (R':S7) (m:Me),(∀l,R l->R' l)->Le m0 m->B=ps.drop i->i+B.length=ps.length->B.length<k->ab R' m acc A->bG R' m (ym c e g k i A m) (y7 cd j B acc)
 |[],i,0,acc,A,R',m,G,E,a,J,I,b=>by simp at I
 |d::B,i,0,acc,A,R',m,G,E,a,J,I,b=>by simp at I
 |[],i,k+1,acc,A,R',m,G,E,a,J,I,b=>by
  unfold ym y7;rw[(N m E).2 i (by simp at J;lia)];exact bG.new b
 |d::B,i,k+1,acc,A,R',m,G,E,a,J,I,b=>by
  have f:ps[i]?=some d:=by
   have:(ps.drop i)[0]?=some d:=by rw[<-a];rfl
   simpa using this
  have U:B=ps.drop (i+1):=by
   have:(ps.drop i).drop 1=B:=by rw[<-a];rfl
   rw[<-this,Vm]
  have L:i+1+B.length=ps.length:=by simp at J;lia
  have M:B.length<k:=by simp at I;lia
  obtain⟨u,v,s,p,q⟩:=(N m E).1 i d f;have up:∀{d:Dat}{w:Wd},ai R m d w->ai R' m d w:=λz=>ai.frame (λl o r z=>⟨G l r,z⟩) _ _ z;unfold ym y7;rw[s];simp only;refine(O R' m d u v G E (up p) (up q)).bindF λt w m1 H n=>?_;cases t with
  |bl t=>
   rw[ah.mp n];cases t with
   |true=>
    refine(Q _ m1 d u v (λl z=>.inl (G l z)) (E.trans H) ((up p).up _ H) ((up q).up _ H)).bindF λt w m2 Y h=>?_;simp only[b.len];by_cases z:A.length<ao
    .rw[OB z,OB z];exact jd N O Q B (i+1) k _ _ _ m2 (λl z=>.inl (.inl (G l z))) ((E.trans H).trans Y) U L M (((b.up _ H).up _ Y).app (.cons h .nil))
    .rw[OC z,OC z];exact bG.no
   |false=>exact jd N O Q B (i+1) k _ _ _ m1 (λl z=>.inl (G l z)) (E.trans H) U L M (b.up _ H)
  |_=>exact bG.no
noncomputable def zC:Ex->T9
 |.V i=>[i]
 |.lit _=>[]
 |.bin _ a b=>zC a++zC b
 |.neg a=>zC a
 |.not a=>zC a
 |.and a b=>zC a++zC b
 |.or a b=>zC a++zC b
 |.cmp _ a b=>zC a++zC b
 |.chain _ _ a b c=>zC a++(zC b++zC c)
 |.ife c a b=>zC c++(zC a++zC b)
 |.u=>[]
 |.p a b=>zC a++zC b
 |.call _ a=>zC a
 |.blt _ a=>zC a
 |.isi _ a=>zC a
 |.L a=>zC a
 |.T a=>zC a
 |.dict0=>[]
 |.dget a b=>zC a++zC b
 |.dop _ a b c=>zC a++(zC b++zC c)
 |.i a b=>zC a++zC b
 |.slL a b=>zC a++zC b
 |.slB a b c=>zC a++(zC b++zC c)
 |.meth _ a b=>zC a++zC b
 |.rng a b c=>zC a++(zC b++zC c)
 |.comp e i c=>zC i++(zC e++zC c)
 |.lrng a=>zC a
 |.compP _ e a b c=>zC a++(zC b++(zC e++zC c))
@[simp]theorem Mm(i:Nat):zC (.V i)=[i]:=rfl
@[simp]theorem Ml(w:Wd):zC (.lit w)=[]:=rfl
@[simp]theorem Mk(a b:Ex):zC (.i a b)=zC a++zC b:=rfl
@[simp]theorem Mj(a:Ex):zC (.T a)=zC a:=rfl
@[simp]theorem Ms(a b:Ex):zC (.p a b)=zC a++zC b:=rfl
@[simp]theorem Mr  : zC (.u)=[]:=rfl
@[simp]theorem Mi(op:Bo)(a b:Ex):zC (.bin op a b)=zC a++zC b:=rfl
@[simp]theorem Mq(k:Nat)(a:Ex):zC (.call k a)=zC a:=rfl
@[simp]theorem Mh(a:Ex):zC (.neg a)=zC a:=rfl
@[simp]theorem Mg(a:Ex):zC (.L a)=zC a:=rfl
noncomputable def bX(R:S7)(m:Me)(vs:T9)(de:aM)(env:En):Prop:=
 de.length=env.length/\∀i∈vs,∀d,de[i]?=some (some d)->∃w,env[i]?=some (some w)/\ai R m d w
def bX.up{R R':S7}{m m':Me}{vs:T9}{de:aM}{env:En}(A:∀l,R l->R' l)(h:Le m m')(q:bX R m vs de env):bX R' m' vs de env:=
 ⟨q.1,λi B d z=>by
  obtain⟨w,a,b⟩:=q.2 i B d z;exact⟨w,a,ai.frame (λl o r k=>⟨A l r,h l o k⟩) d w b⟩⟩
def bX.sub{R:S7}{m:Me}{vs A:T9}{de:aM}{env:En}(h:∀i∈A,i∈vs)(q:bX R m vs de env):bX R m A de env:=
 ⟨q.1,λi B=>q.2 i (h i B)⟩
def bX.left{R:S7}{m:Me}{A vs:T9}{de:aM}{env:En}(q:bX R m (A++vs) de env):bX R m A de env:=q.sub λ_ h=>QX _ h
def bX.right{R:S7}{m:Me}{A vs:T9}{de:aM}{env:En}(q:bX R m (A++vs) de env):bX R m vs de env:=q.sub λ_ h=>Qz _ h
set_option tactic.hygienic true in
def bX.push{R:S7}{m:Me}{vs:T9}{de:aM}{env:En}{d:Dat}{w:Wd}(q:bX R m vs de env)(h:ai R m d w):bX R m vs (de++[some d]) (env++[some w]):=by
 refine⟨by simp[q.1],λi A e z=>?_⟩;rw[List.getElem?_append]at z;split at z
 .next k=>
  obtain⟨w,a,b⟩:=q.2 i A e z;exact⟨w,by rw[Qf (by rw[<-q.1];exact k)];exact a,b⟩
 .next k=>
  rw[Qe (by rw[<-q.1];lia),<-q.1];have:i-de.length=0:=by
   rcases Nat.eq_zero_or_pos (i-de.length)with z0|z0
   .exact z0
   .rw[Qy (by simp;lia)]at z;cases z
  rw[this]at z ⊢;cases z;exact⟨w,rfl,h⟩
noncomputable def bQ(cl:O1)(cd:O5):Prop:=∀(k:Nat) (A:T7) (B:U4) (R:S7) (m:Me),ab R m A B->af R m (cl k B m) (cd k A)
def xR (h:ai R m d w):ab R m (xh d) (zK w):=by
 cases d with
 |T B=>obtain⟨A,rfl,q⟩:=ag.mp h;exact q
 |N=>rw[aJ.mp h];exact .nil
 |bl _=>rw[ah.mp h];exact .nil
 |int _=>rw[aa.mp h];exact .nil
 |str _=>rw[aN.mp h];exact .nil
 |scr _=>rw[bv.mp h];exact .nil
 |L _=>obtain⟨l,A,rfl,_⟩:=aE.mp h;exact .nil
 |D _ _=>obtain⟨l,A,rfl,_⟩:=bn.mp h;exact .nil
def Av {cond:Ex}(h:af R m (ae cl it env m) (aj cd it de))(A:∀(R':S7) m' d x,(∀l,R l->R' l)->Le m m'->ai R' m' d x->af R' m' (ae cl cond (env++[some x]) m') (aj cd cond (de++[some d])))(B:∀(R':S7) m' d x,(∀l,R l->R' l)->Le m m'->ai R' m' d x->af R' m' (ae cl elt (env++[some x]) m') (aj cd elt (de++[some d]))):bG R m (ae cl (.comp elt it cond) env m) (aj cd (.comp elt it cond) de):=by
 refine h.bindF λd w m1 M H=>?_;have A:=λR' m' d x (I:∀l,Rf R m.length l->R' l) l=>A R' m' d x (λl h=>I l (.inl h)) (M.trans l);have B:=λR' m' d x (I:∀l,Rf R m.length l->R' l) l=>B R' m' d x (λl h=>I l (.inl h)) (M.trans l);cases d with
 |T E=>
  obtain⟨N,rfl,G⟩:=ag.mp H;exact vG A B E N [] [] _ m1 (λ_ h=>h) (Le.refl _) G .nil
 |scr J=>
  rw[bv.mp H];exact vG A B (J.map .int) (J.map .int) [] [] _ m1 (λ_ h=>h) (Le.refl _) (fv J) .nil
 |L E=>
  obtain⟨l,N,rfl,_,O,G⟩:=aE.mp H;simp only[di];by_cases z:E.length<=ao
  .rw[OB z];have hl:=G.len;exact jc O A B E 0 (ao+1) [] [] _ m1 (λ_ h=>h) (Le.refl _) (by simpa using G) (by lia) (by lia) .nil
  .rw[OC z];exact bG.no
 |_=>exact bG.no
def qJ {cond:Ex}(h:af R m (ae cl a env m) (aj cd a de))(I:∀(R':S7) m',(∀l,R l->R' l)->Le m m'->af R' m' (ae cl b env m') (aj cd b de))(A:∀(R':S7) m' (p:Dat×Dat) x y,(∀l,R l->R' l)->Le m m'->ai R' m' p.1 x->ai R' m' p.2 y->af R' m' (ae cl cond (env++[some x]++[some y]) m') (aj cd cond (de++[some p.1]++[some p.2])))(B:∀(R':S7) m' (p:Dat×Dat) x y,(∀l,R l->R' l)->Le m m'->ai R' m' p.1 x->ai R' m' p.2 y->af R' m' (ae cl elt (env++[some x]++[some y]) m') (aj cd elt (de++[some p.1]++[some p.2]))):bG R m (ae cl (.compP k elt a b cond) env m) (aj cd (.compP k elt a b cond) de):=by
 refine h.bindF λd w m1 E J=>?_;refine(I _ m1 (λ_=>.inl) E).bindF λL Q m2 G M=>?_;have A:=λR' m' p x y (H:∀l,Rf (Rf R m.length) m1.length l->R' l) l=>A R' m' p x y (λl h=>H l (.inl (.inl h))) ((E.trans G).trans l);have B:=λR' m' p x y (H:∀l,Rf (Rf R m.length) m1.length l->R' l) l=>B R' m' p x y (λl h=>H l (.inl (.inl h))) ((E.trans G).trans l);cases e:xo k d L with
 |none=>exact bG.no
 |some N=>
  obtain⟨O,hl⟩:=JA e (J.up _ G) M;exact jd O A B N 0 (ao+1) [] [] _ m2 (λ_ h=>h) (Le.refl _) (by simp) (by simp) (by lia) .nil
theorem zq (H:bQ cl cd):∀(e:Ex) (R:S7) (m:Me) (de:aM) (env:En),bX R m (zC e) de env->af R m (ae cl e env m) (aj cd e de)
 |.V i,R,m,de,env,q=>by
  cases z:de[i]? with
  |none=>rw[kI (.inl z)];exact af.no
  |some o=>
   cases o with
   |none=>rw[kI (.inr z)];exact af.no
   |some d=>
    obtain⟨w,a,b⟩:=q.2 i (Ql.mpr rfl) d z;rw[y9 z,kH a];exact dQ b
 |.lit w,R,m,de,env,q=>by
  cases w<;>first|exact af.no|(exact dQ (by unfold ai;rfl))
 |.bin U a b,R,m,de,env,q=>by
  refine(zq H a R m de env q.left).bind λd w m1 B A=>?_;refine(zq H b _ m1 de env (q.right.up (λ_=>.inl) B)).bind λd2 J m2 E G=>?_;exact uS U (A.up _ E) G
 |.neg a,R,m,de,env,q=>by
  refine(zq H a R m de env q).bind λd w m1 B A=>?_;cases d with
  |int i=>rw[aa.mp A];exact af.int
  |_=>exact af.no
 |.not a,R,m,de,env,q=>by
  refine(zq H a R m de env q).bind λd w m1 B A=>?_;cases d with
  |bl i=>rw[ah.mp A];exact af.bl
  |_=>exact af.no
 |.and a b,R,m,de,env,q=>by
  refine(zq H a R m de env q.left).bind λd w m1 B A=>?_;cases d with
  |bl i=>
   rw[ah.mp A];cases i with
   |true=>exact zq H b _ m1 de env (q.right.up (λ_=>.inl) B)
   |false=>exact af.bl
  |_=>exact af.no
 |.or a b,R,m,de,env,q=>by
  refine(zq H a R m de env q.left).bind λd w m1 B A=>?_;cases d with
  |bl i=>
   rw[ah.mp A];cases i with
   |false=>exact zq H b _ m1 de env (q.right.up (λ_=>.inl) B)
   |true=>exact af.bl
  |_=>exact af.no
 |.cmp U a b,R,m,de,env,q=>by
  refine(zq H a R m de env q.left).bind λd w m1 B A=>?_;refine(zq H b _ m1 de env (q.right.up (λ_=>.inl) B)).bind λd2 J m2 E G=>?_;exact nK U (A.up _ E) G
 |.chain o p a b c,R,m,de,env,q=>by
  refine(zq H a R m de env q.left).bind λd w m1 B A=>?_;refine(zq H b _ m1 de env (q.right.left.up (λ_=>.inl) B)).bind λd2 J m2 E G=>?_;refine(nK o (A.up _ E) G).bind λd3 Y m3 I O=>?_;cases d3 with
  |bl i=>
   rw[ah.mp O];cases i with
   |false=>exact af.bl
   |true=>
    refine(zq H c _ m3 de env (q.right.right.up (λ_ h=>.inl (.inl (.inl h))) ((B.trans E).trans I))).bind λd4 w4 m4 g f=>?_;exact nK p ((G.up _ I).up _ g) f
  |_=>exact af.no
 |.ife c a b,R,m,de,env,q=>by
  refine(zq H c R m de env q.left).bind λd w m1 B A=>?_;cases d with
  |bl i=>
   rw[ah.mp A];cases i with
   |true=>exact zq H a _ m1 de env (q.right.left.up (λ_=>.inl) B)
   |false=>exact zq H b _ m1 de env (q.right.right.up (λ_=>.inl) B)
  |_=>exact af.no
 |.u,R,m,de,env,q=>by
  exact dQ (ag.mpr ⟨[],rfl,.nil⟩)
 |.p a b,R,m,de,env,q=>by
  refine(zq H a R m de env q.left).bind λd w m1 B A=>?_;refine(zq H b _ m1 de env (q.right.up (λ_=>.inl) B)).bind λd2 J m2 E G=>?_;exact dQ (ag.mpr ⟨_,rfl,.cons (A.up _ E) (xR G)⟩)
 |.call k a,R,m,de,env,q=>by
  refine(zq H a R m de env q).bind λd w m1 B A=>?_;exact H k _ _ _ m1 (xR A)
 |.blt b a,R,m,de,env,q=>by
  refine(zq H a R m de env q).bind λd w m1 B A=>?_;exact Gw b (xR A)
 |.isi t a,R,m,de,env,q=>by
  refine(zq H a R m de env q).bind λd w m1 B A=>?_;exact Gx t A
 |.L a,R,m,de,env,q=>by
  refine(zq H a R m de env q).bind λd w m1 B A=>?_;exact af.new (xR A)
 |.T a,R,m,de,env,q=>by
  refine(zq H a R m de env q).bind λd w m1 B A=>?_;have G:=xR A;simp only[G.len];split
  .exact dQ (ag.mpr ⟨_,rfl,G⟩)
  .exact af.no
 |.dict0,R,m,de,env,q=>by
  exact⟨_,_,rfl,Le.app m _,bn.mpr ⟨_,[],rfl,.inr (Qh _),by simp,.nil⟩⟩
 |.dget a b,R,m,de,env,q=>by
  refine(zq H a R m de env q.left).bind λd w m1 B A=>?_;refine(zq H b _ m1 de env (q.right.up (λ_=>.inl) B)).bind λd2 J m2 E G=>?_;exact Aw (A.up _ E) G
 |.dop k a b c,R,m,de,env,q=>by
  refine(zq H a R m de env q.left).bind λd w m1 B A=>?_;cases s:gG k d with
  |false=>exact af.no
  |true=>
   rw[Iq A s];refine(zq H b _ m1 de env (q.right.left.up (λ_=>.inl) B)).bind λd2 J m2 E G=>?_;refine(zq H c _ m2 de env ((q.right.right.up (λ_=>.inl) B).up (λ_=>.inl) E)).bind λd3 Y m3 I O=>?_;exact Gu k ((A.up _ E).up _ I) (G.up _ I) O
 |.i a b,R,m,de,env,q=>by
  refine(zq H a R m de env q.left).bind λd w m1 B A=>?_;refine(zq H b _ m1 de env (q.right.up (λ_=>.inl) B)).bind λd2 J m2 E G=>?_;exact Gv (A.up _ E) G
 |.slL a b,R,m,de,env,q=>by
  refine(zq H a R m de env q.left).bind λd w m1 B A=>?_;refine(zq H b _ m1 de env (q.right.up (λ_=>.inl) B)).bind λd2 J m2 E G=>?_;cases d2 with
  |int i=>rw[aa.mp G];exact tw _ _ (A.up _ E)
  |_=>exact af.no
 |.slB a b c,R,m,de,env,q=>by
  refine(zq H a R m de env q.left).bind λd w m1 B A=>?_;refine(zq H b _ m1 de env (q.right.left.up (λ_=>.inl) B)).bind λd2 J m2 E G=>?_;cases d2 with
  |int i=>
   rw[aa.mp G];refine(zq H c _ m2 de env (q.right.right.up (λ_ h=>.inl (.inl h)) (B.trans E))).bind λd3 Y m3 I O=>?_;cases d3 with
   |int j=>rw[aa.mp O];exact tw _ _ ((A.up _ E).up _ I)
   |_=>exact af.no
  |_=>exact af.no
 |.meth _ _ _,R,m,de,env,q=>by
  exact af.no
 |.rng a b c,R,m,de,env,q=>by
  refine(zq H a R m de env q.left).bind λd w m1 B A=>?_;refine(zq H b _ m1 de env (q.right.left.up (λ_=>.inl) B)).bind λd2 J m2 E G=>?_;refine(zq H c _ m2 de env (q.right.right.up (λ_ h=>.inl (.inl h)) (B.trans E))).bind λd3 Y m3 I O=>?_;exact G7 ((A.up _ E).up _ I) (G.up _ I) O
 |.lrng a,R,m,de,env,q=>by
  refine(zq H a R m de env q).bind λd w m1 B A=>?_;cases d with
  |int j=>
   rw[aa.mp A];simp only;split
   .exact af.new (kJ 1 _ 0)
   .exact af.no
  |_=>exact af.no
 |.comp Q n cond,R,m,de,env,q=>(Av (zq H n R m de env q.left) (λL M d x N l k=>zq H cond L M _ _ ((q.right.right.up N l).push k)) (λL M d x N l k=>zq H Q L M _ _ ((q.right.left.up N l).push k))).1
 |.compP k Q a b cond,R,m,de,env,q=>(qJ (zq H a R m de env q.left) (λL M N l=>zq H b L M de env (q.right.left.up N l)) (λL M p x y N l k u=>zq H cond L M _ _ (((q.right.right.right.up N l).push k).push u)) (λL M p x y N l k u=>zq H Q L M _ _ (((q.right.right.left.up N l).push k).push u))).1
mutual
noncomputable def bi(m:Me):Dat->Wd->T9->Prop
 |.N,w,A=>w=.N/\A=[]
 |.bl b,w,A=>w=.bl b/\A=[]
 |.int i,w,A=>w=.int i/\A=[]
 |.str s,w,A=>w=.str s/\A=[]
 |.scr H,w,A=>w=.rol (H.map Wd.int)/\A=[]
 |.T G,w,A=>∃E,w=.T E/\ax m G E A
 |.L G,w,A=>∃l E B,w=.ref l/\A=l::B/\m[l]?=some (.L E)/\ax m G E B
 |.D I G,w,A=>∃l E B,w=.ref l/\A=l::B/\m[l]?=some (.D I E)/\ax m G E B
noncomputable def ax(m:Me):T7->U4->T9->Prop
 |[],E,A=>E=[]/\A=[]
 |d::G,E,A=>∃x r B C,E=x::r/\A=B++C/\bi m d x B/\ax m G r C
end
def bo:bi m (.L E) w A↔∃l xs B,w=.ref l/\A=l::B/\m[l]?=some (.L xs)/\ax m E xs B:=by
 constructor
 .intro h;unfold bi at h;exact h
 .intro h;unfold bi;exact h
def bZ:bi m (.D E G) w A↔∃l xs B,w=.ref l/\A=l::B/\m[l]?=some (.D E xs)/\ax m G xs B:=by
 constructor
 .intro h;unfold bi at h;exact h
 .intro h;unfold bi;exact h
def cu:bi m (.T B) w A↔∃xs,w=.T xs/\ax m B xs A:=by
 constructor
 .intro h;unfold bi at h;exact h
 .intro h;unfold bi;exact h
def ax.cons_inv (h:ax m (d::E) xs A):∃x r B C,xs=x::r/\A=B++C/\bi m d x B/\ax m E r C:=by unfold ax at h;exact h
def ax.nil_inv (h:ax m [] xs A):xs=[]/\A=[]:=by unfold ax at h;exact h
def ax.nil{m:Me}:ax m [] [] []:=by unfold ax;exact⟨rfl,rfl⟩
def ax.cons{m:Me}{d:Dat}{A:T7}{x:Wd}{xs:U4}{B C:T9}(a:bi m d x B)(b:ax m A xs C):ax m (d::A) (x::xs) (B++C):=by
 unfold ax;exact⟨x,xs,B,C,rfl,rfl,a,b⟩
theorem ax.app:∀{G E:T7}{xs ys:U4}{A B:T9},ax m G xs A->ax m E ys B->ax m (G++E) (xs++ys) (A++B)
 |[],E,xs,ys,A,B,a,b=>by rw[a.nil_inv.1,a.nil_inv.2];exact b
 |d::G,E,xs,ys,A,B,a,b=>by
  obtain⟨x,r,P,Q,rfl,rfl,p,q⟩:=a.cons_inv;rw[Qm];exact .cons p (ax.app q b)
mutual
theorem bi.frame{m m':Me}:∀(d:Dat) (w:Wd) (A:T9),(∀l∈A,∀o,m[l]?=some o->m'[l]?=some o)->bi m d w A->bi m' d w A
 |.N,w,A,h,q=>by unfold bi at q ⊢;exact q
 |.bl _,w,A,h,q=>by unfold bi at q ⊢;exact q
 |.int _,w,A,h,q=>by unfold bi at q ⊢;exact q
 |.str _,w,A,h,q=>by unfold bi at q ⊢;exact q
 |.scr _,w,A,h,q=>by unfold bi at q ⊢;exact q
 |.T G,w,A,h,q=>by
  obtain⟨E,rfl,H⟩:=cu.mp q;exact cu.mpr ⟨E,rfl,ax.frame G E A h H⟩
 |.L G,w,A,h,q=>by
  obtain⟨l,E,B,rfl,rfl,I,H⟩:=bo.mp q;exact bo.mpr ⟨l,E,B,rfl,rfl,h l QT _ I,ax.frame G E B (λl hl=>h l (Qo _ hl)) H⟩
 |.D J G,w,A,h,q=>by
  obtain⟨l,E,B,rfl,rfl,I,H⟩:=bZ.mp q;exact bZ.mpr ⟨l,E,B,rfl,rfl,h l QT _ I,ax.frame G E B (λl hl=>h l (Qo _ hl)) H⟩
theorem ax.frame{m m':Me}:∀(E:T7) (xs:U4) (A:T9),(∀l∈A,∀o,m[l]?=some o->m'[l]?=some o)->ax m E xs A->ax m' E xs A
 |[],xs,A,h,q=>by rw[q.nil_inv.1,q.nil_inv.2];exact .nil
 |d::E,xs,A,h,q=>by
  obtain⟨x,r,B,C,rfl,rfl,a,b⟩:=q.cons_inv;exact .cons (bi.frame d x B (λl hl=>h l (QX _ hl)) a) (ax.frame E r C (λl hl=>h l (Qz _ hl)) b)
end
mutual
theorem bi.rep{m:Me}{R:S7}:∀(d:Dat) (w:Wd) (A:T9),(∀l∈A,R l)->bi m d w A->ai R m d w
 |.N,w,A,h,q=>by unfold bi at q;exact aJ.mpr q.1
 |.bl _,w,A,h,q=>by unfold bi at q;exact ah.mpr q.1
 |.int _,w,A,h,q=>by unfold bi at q;exact aa.mpr q.1
 |.str _,w,A,h,q=>by unfold bi at q;exact aN.mpr q.1
 |.scr _,w,A,h,q=>by unfold bi at q;exact bv.mpr q.1
 |.T G,w,A,h,q=>by
  obtain⟨E,rfl,H⟩:=cu.mp q;exact ag.mpr ⟨E,rfl,ax.rep G E A h H⟩
 |.L G,w,A,h,q=>by
  obtain⟨l,E,B,rfl,rfl,I,H⟩:=bo.mp q;exact aE.mpr ⟨l,E,rfl,h l QT,I,ax.rep G E B (λl hl=>h l (Qo _ hl)) H⟩
 |.D J G,w,A,h,q=>by
  obtain⟨l,E,B,rfl,rfl,I,H⟩:=bZ.mp q;exact bn.mpr ⟨l,E,rfl,h l QT,I,ax.rep G E B (λl hl=>h l (Qo _ hl)) H⟩
theorem ax.rep{m:Me}{R:S7}:∀(E:T7) (xs:U4) (A:T9),(∀l∈A,R l)->ax m E xs A->ab R m E xs
 |[],xs,A,h,q=>by rw[q.nil_inv.1];exact .nil
 |d::E,xs,A,h,q=>by
  obtain⟨x,r,B,C,rfl,rfl,a,b⟩:=q.cons_inv;exact .cons (bi.rep d x B (λl hl=>h l (QX _ hl)) a) (ax.rep E r C (λl hl=>h l (Qz _ hl)) b)
end
mutual
theorem bi.lt{m:Me}:∀(d:Dat) (w:Wd) (A:T9),bi m d w A->∀l∈A,l<m.length
 |.N,w,A,q=>by unfold bi at q;rw[q.2];simp
 |.bl _,w,A,q=>by unfold bi at q;rw[q.2];simp
 |.int _,w,A,q=>by unfold bi at q;rw[q.2];simp
 |.str _,w,A,q=>by unfold bi at q;rw[q.2];simp
 |.scr _,w,A,q=>by unfold bi at q;rw[q.2];simp
 |.T E,w,A,q=>by
  obtain⟨G,rfl,H⟩:=cu.mp q;exact ax.lt E G A H
 |.L E,w,A,q=>by
  obtain⟨l,G,B,rfl,rfl,I,H⟩:=bo.mp q;intro k hk;rcases Qn.mp hk with rfl|hk
  .exact (Qa.mp I).1
  .exact ax.lt E G B H k hk
 |.D J E,w,A,q=>by
  obtain⟨l,G,B,rfl,rfl,I,H⟩:=bZ.mp q;intro k hk;rcases Qn.mp hk with rfl|hk
  .exact (Qa.mp I).1
  .exact ax.lt E G B H k hk
theorem ax.lt{m:Me}:∀(E:T7) (xs:U4) (A:T9),ax m E xs A->∀l∈A,l<m.length
 |[],xs,A,q=>by rw[q.nil_inv.2];simp
 |d::E,xs,A,q=>by
  obtain⟨x,r,B,C,rfl,rfl,a,b⟩:=q.cons_inv;intro k hk;rcases Qs.mp hk with hk|hk
  .exact bi.lt d x B a k hk
  .exact ax.lt E r C b k hk
end
mutual
theorem ai.flat{R:S7}{m m':Me}:∀(d:Dat) (w:Wd),aF d=true->ai R m d w->bi m' d w []
 |.N,w,h,q=>by unfold bi;exact⟨aJ.mp q,rfl⟩
 |.bl _,w,h,q=>by unfold bi;exact⟨ah.mp q,rfl⟩
 |.int _,w,h,q=>by unfold bi;exact⟨aa.mp q,rfl⟩
 |.str _,w,h,q=>by unfold bi;exact⟨aN.mp q,rfl⟩
 |.scr _,w,h,q=>by unfold bi;exact⟨bv.mp q,rfl⟩
 |.T A,w,h,q=>by
  obtain⟨B,rfl,E⟩:=ag.mp q;exact cu.mpr ⟨B,rfl,ab.flat A B (by unfold Vl.aF at h;exact h) E⟩
 |.L A,w,h,q=>by unfold Vl.aF at h;cases h
 |.D G A,w,h,q=>by unfold Vl.aF at h;cases h
theorem ab.flat{R:S7}{m m':Me}:∀(A:T7) (xs:U4),aO A=true->ab R m A xs->ax m' A xs []
 |[],xs,h,q=>by rw[q.nil_inv];exact .nil
 |d::A,xs,h,q=>by
  obtain⟨x,r,rfl,a,b⟩:=q.cons_inv;unfold aO at h;rw[QD]at h;exact ax.cons (B:=[]) (C:=[]) (ai.flat d x h.1 a) (ab.flat A r h.2 b)
end
noncomputable def bu(R:S7)(m:Me)(lv:Lv)(d:Dat)(w:Wd)(A:T9):Prop:=match lv with
 |.no=>ai R m d w/\A=[]
 |.top=>∃B l E,d=.L B/\w=.ref l/\A=[l]/\m[l]?=some (.L E)/\ab R m B E
 |.F=>bi m d w A
theorem bu.rep (h:∀l,R l->R' l)(k:∀l∈A,R' l)(q:bu R m lv d w A):ai R' m d w:=by
 cases lv with
 |no=>exact ai.frame (λl o r z=>⟨h l r,z⟩) d w q.1
 |top=>
  obtain⟨E,l,B,rfl,rfl,rfl,G,a⟩:=q;exact aE.mpr ⟨l,B,rfl,k l (by simp),G,ab.frame (λl o r z=>⟨h l r,z⟩) E B a⟩
 |F=>exact bi.rep d w A k q
theorem bu.frame{R R':S7}{m m':Me}{lv:Lv}{d:Dat}{w:Wd}{A:T9}(h:∀(l:Nat) o,R l->m[l]?=some o->R' l/\m'[l]?=some o)(k:∀l∈A,∀o,m[l]?=some o->m'[l]?=some o)(q:bu R m lv d w A):bu R' m' lv d w A:=by
 cases lv with
 |no=>exact⟨ai.frame h d w q.1,q.2⟩
 |top=>
  obtain⟨B,l,E,rfl,rfl,rfl,G,a⟩:=q;exact⟨B,l,E,rfl,rfl,rfl,k l (by simp) _ G,ab.frame h B E a⟩
 |F=>exact bi.frame d w A k q
theorem bu.lt (q:bu R m lv d w A):∀l∈A,l<m.length:=by
 cases lv with
 |no=>rw[q.2];simp
 |top=>
  obtain⟨G,l,H,rfl,rfl,rfl,B,a⟩:=q;intro k E;rw[Ql.mp E];exact(Qa.mp B).1
 |F=>exact bi.lt d w A q
noncomputable def zcL:Ex->Bool
 |.p (.lrng _) .u=>true
 |_=>false
noncomputable def cU(b:Bool)(l:Lv):Dat->Lv
 |.L A=>if aO A || b then .F else l
 |_=>.no
noncomputable def bI(lev:U7)(e:Ex)(d:Dat):Lv:=if aF d then .F else match e with
 |.comp _ _ _=>cU false .no d
 |.compP _ _ _ _ _=>cU false .no d
 |.L a=>cU (zcL a) .top d
 |.call k _=>lev k
 |.lrng _=>cU false .top d
 |.slL _ _=>cU false .top d
 |.slB _ _ _=>cU false .top d
 |.dict0=>match d with
  |.D _ []=>.F
  |_=>.no
 |.dop .sot _ _ _=>cU false .top d
 |_=>.no
@[simp]theorem kK(lev:U7)(k:Nat)(a:Ex)(d:Dat):bI lev (.call k a) d=if aF d then .F else lev k:=rfl
@[simp]theorem L1(lev:U7)(e i c:Ex)(A:T7):bI lev (.comp e i c) (.L A)=if aO A then .F else .no:=by simp[bI,cU,aF]
@[simp]theorem Ip(lev:U7)(k:Kd)(e a b c:Ex)(A:T7):bI lev (.compP k e a b c) (.L A)=if aO A then .F else .no:=by simp[bI,cU,aF]
@[simp]theorem LR(lev:U7)(a:Ex)(A:T7):bI lev (.L a) (.L A)=if aO A || zcL a then .F else .top:=by simp[bI,cU,aF]
@[simp]theorem L0(lev:U7)(a:Ex)(A:T7):bI lev (.lrng a) (.L A)=if aO A then .F else .top:=by simp[bI,cU,aF]
@[simp]theorem D8(lev:U7)(a b:Ex)(A:T7):bI lev (.slL a b) (.L A)=if aO A then .F else .top:=by simp[bI,cU,aF]
@[simp]theorem D7(lev:U7)(a b c:Ex)(A:T7):bI lev (.slB a b c) (.L A)=if aO A then .F else .top:=by simp[bI,cU,aF]
@[simp]theorem D6(lev:U7)(a b c:Ex)(A:T7):bI lev (.dop .sot a b c) (.L A)=if aO A then .F else .top:=by simp[bI,cU,aF]
@[simp]theorem Mf(lev:U7)(A:O7):bI lev .dict0 (.D A [])=.F:=rfl
@[simp]theorem LQ(lev:U7)(i:Nat)(d:Dat):bI lev (.V i) d=if aF d then .F else .no:=rfl
@[simp]theorem LP(lev:U7)(a b:Ex)(d:Dat):bI lev (.i a b) d=if aF d then .F else .no:=rfl
@[simp]theorem LO(lev:U7)(op:Bo)(a b:Ex)(d:Dat):bI lev (.bin op a b) d=if aF d then .F else .no:=rfl
@[simp]theorem LN(lev:U7)(a:Ex)(d:Dat):bI lev (.T a) d=if aF d then .F else .no:=rfl
def xS(lev:U7)(e:Ex)(d:Dat)(h:aF d=true):bI lev e d=.F:=OB h
noncomputable def aT(R:S7)(m:Me)(lv:Dat->Lv)(r:Rz)(E:Rd):Prop:=match E with
 |.ok d=>∃w B A,r=.ok w B/\Le m B/\bu (λl=>Rf R m.length l/\l∉A) B (lv d) d w A/\A.Nodup/\∀a∈A,m.length<=a
 |.no=>True
noncomputable def vf(lev:U7)(k:Nat)(d:Dat):Lv:=if aF d then .F else lev k
noncomputable def bH(lev:U7)(cl:O1)(cd:O5):Prop:=∀(k:Nat) (A:T7) (B:U4) (R:S7) (m:Me),ab R m A B->aT R m (vf lev k) (cl k B m) (cd k A)
def aT.sim (h:aT R m lv r B):af R m r B:=by
 cases B with
 |ok d=>
  obtain⟨w,E,A,rfl,l,q,_,G⟩:=h;exact⟨w,E,rfl,l,q.rep (λ_ z=>z.1) (λa z=>.inr (G a z))⟩
 |no=>trivial
def bH.r (H:bH lev cl cd):bQ cl cd:=λk A B R m q=>(H k A B R m q).sim
set_option tactic.hygienic true in
def af.own (h:af R m r A)(hl:∀d,lv d=if aF d then .F else .no):aT R m lv r A:=by
 cases A with
 |ok d=>
  obtain⟨w,B,rfl,l,q⟩:=h;refine⟨w,B,[],rfl,l,?_,Q7,by simp⟩;rw[hl];split
  .next z=>exact q.flat d w z
  .exact ⟨ai.frame (λl o r z=>⟨⟨r,by simp⟩,z⟩) d w q,rfl⟩
 |no=>trivial
set_option tactic.hygienic true in
def bG.own (h:bG R m r E)(hl:∀d,lv d=if aF d then .F else cU false .no d):aT R m lv r E:=by
 cases E with
 |no=>trivial
 |ok d=>
  obtain⟨⟨w,G,rfl,l,k⟩,f⟩:=h;by_cases z:cU false .no d=.F
  .cases d with
   |L A=>
    have B:aO A=true:=by
     cases y:aO A with
     |true=>rfl
     |false=>rw[show cU false .no (.L A)=if aO A || false then .F else .no from rfl,y]at z;cases z
    obtain⟨p,rfl,I⟩:=f _ _ _ rfl rfl;obtain⟨M,H,e,_,J,q⟩:=aE.mp k;cases e;refine⟨_,G,[p],rfl,l,?_,by simp,by simpa using I⟩;rw[hl,OC (by simp[aF]),z];exact bo.mpr ⟨p,H,[],rfl,rfl,J,q.flat A H B⟩
   |_=>cases z
  .have B:cU false .no d=.no:=by
    cases d with
    |L A=>
     rw[show cU false .no (.L A)=if aO A || false then .F else .no from rfl]at z ⊢;exact OC λy=>z (OB y)
    |_=>rfl
   refine⟨w,G,[],rfl,l,?_,Q7,by simp⟩;rw[hl,B];split
   .next z=>exact k.flat d w z
   .exact ⟨ai.frame (λl o r z=>⟨⟨r,by simp⟩,z⟩) d w k,rfl⟩
def aT.lift{R:S7}{m m1:Me}{r:Rz}{B:Rd}{lv:Dat->Lv}(h:Le m m1)(q:aT (Rf R m.length) m1 lv r B):aT R m lv r B:=by
 have hl:=h.len;cases B with
 |ok d=>
  obtain⟨w,E,A,rfl,k,z,nd,G⟩:=q;exact⟨w,E,A,rfl,h.trans k,z.frame (λl o r z=>⟨⟨by rcases r.1 with (r|r)|r;exact .inl r;exact .inr r;exact .inr (by lia),r.2⟩,z⟩) (λ_ _ _ z=>z),nd,λa H=>by have:=G a H;lia⟩
 |no=>trivial
def af.bindO (h:af R m r A)(k:∀d w m',Le m m'->ai (Rf R m.length) m' d w->aT (Rf R m.length) m' lv (f w m') (g d)):aT R m lv (r.bind f) (A.bind g):=by
 cases A with
 |ok d=>obtain⟨w,m',rfl,l,z⟩:=h;exact aT.lift l (k d w m' l z)
 |no=>trivial
theorem aT.no{R:S7}{m:Me}{r:Rz}{lv:Dat->Lv}:aT R m lv r .no:=trivial
set_option tactic.hygienic true in
def aT.new{R:S7}{m:Me}{A:T7}{xs:U4}{lv:Dat->Lv}(h:ab R m A xs)(hl:∀B,lv (.L B)=if aO B then .F else .top):aT R m lv (alloc m xs) (bh A):=by
 unfold bh alloc;rw[h.len];by_cases z:xs.length<=ao
 .rw[OB z,OB z];refine⟨_,_,[m.length],rfl,Le.app m _,?_,by simp,by simp⟩;rw[hl];split
  .next f=>exact bo.mpr ⟨_,xs,[],rfl,rfl,by simp,h.flat A xs f⟩
  .refine ⟨A,_,xs,rfl,rfl,rfl,by simp,ab.frame (λl o r z=>⟨⟨.inl r,?_⟩,Le.app m _ l o z⟩) A xs h⟩;have:=(Qa.mp z).1;simp;lia
 .rw[OC z,OC z];exact aT.no
def aT.newOwn{R:S7}{m0 m:Me}{B:T7}{xs:U4}{A:T9}{lv:Dat->Lv}(H:Le m0 m)(h:ax m B xs A)(nd:A.Nodup)(I:∀a∈A,m0.length<=a)(hl:lv (.L B)=.F)(E:B.length=xs.length):aT R m0 lv (alloc m xs) (bh B):=by
 unfold bh alloc;rw[E];have G:=h.lt;by_cases z:xs.length<=ao
 .rw[OB z,OB z];refine⟨_,_,m.length::A,rfl,H.trans (Le.app m _),?_,QB.mpr ⟨λq=>by have:=G _ q;lia,nd⟩,?_⟩
  .rw[hl];exact bo.mpr ⟨_,xs,A,rfl,rfl,by simp,ax.frame B xs A (λl hl o q=>Le.app m _ l o q) h⟩
  .intro a ha;rcases Qn.mp ha with rfl|ha
   .exact H.len
   .exact I a ha
 .rw[OC z,OC z];exact aT.no
theorem ax.len:∀{E:T7}{xs:U4}{A:T9},ax m E xs A->E.length=xs.length
 |[],xs,A,q=>by rw[q.nil_inv.1];rfl
 |d::E,xs,A,q=>by
  obtain⟨x,r,B,C,rfl,rfl,a,b⟩:=q.cons_inv;simp[ax.len b]
def G6 (hl:∀d,lv d=if aF d then .F else cU false .top d)(a:ai R m d x):aT R m lv (fe .sot x y z m) (gH .sot d e f):=by
 have E:∀A,lv (.L A)=if aO A then .F else .top:=λA=>by rw[hl];simp[aF,cU]
 unfold gH fe;simp only;cases d with
 |L G=>
  obtain⟨l,H,rfl,_,I,q⟩:=aE.mp a;have J:zD m l=some H:=by unfold zD;rw[I]
  unfold mV iu;simp only[J,WR];cases M:jb G with
  |none=>exact aT.no
  |some B=>
   rw[jG q M];simp only;cases wX T6 (B.map (0::·)) B with
   |none=>exact aT.no
   |some A=>exact aT.new (gJ A) E
 |_=>exact aT.no
set_option tactic.hygienic true in
def tt (lo B:R9)(hl:∀d,lv d=if aF d then .F else cU false .top d)(a:ai R m d x):aT R m lv (fm x lo B m) (dW d lo B):=by
 have I:∀E,lv (.L E)=if aO E then .F else .top:=λE=>by rw[hl];simp[aF,cU]
 by_cases t:∃A,d=.T A
 .obtain ⟨A,rfl⟩:=t;have G:=uM lo B a;simp only[dW]at G ⊢;split at G
  .next z=>rw[OB z];exact aT.no
  .next z=>
   rw[OC z];obtain⟨w,J,h,l,k⟩:=G;refine⟨w,J,[],h,l,?_,Q7,by simp⟩;rw[hl];split
   .next f=>exact k.flat _ w f
   .exact ⟨ai.frame (λl o r z=>⟨⟨r,by simp⟩,z⟩) _ w k,rfl⟩
 have H:∀A,d≠.T A:=λA e=>t ⟨A,e⟩;rw[tx (uN a H),uO H];cases z:dS d with
 |none=>exact aT.no
 |some A=>
  obtain⟨L,h,q⟩:=lu a z;simp only[h,q.len];exact aT.new ((q.drop _).take _) I
@[simp]theorem wC(a c:Int):∀(n:Nat),aO (yA a c n)=true:=by
 intro n;unfold yA;generalize QA n=l
 induction l with
 |nil=>rfl
 |cons x l A=>simp[aO,aF,A]
def Jz (h:aj cd (.lrng b) de=.ok d):∃r:{A:T7 // aO A=true},d=.L r.1:=by
 replace h:(aj cd b de).bind (λx=>match x with |.int j=>if -ao<=j/\j<=ao then bh (yA 0 1 j.toNat)else .no|_=>.no)=.ok d:=h
 cases z:aj cd b de with
 |no=>rw[z]at h;cases h
 |ok x=>
  rw[z]at h;cases x with
  |int j=>
   simp only[Rd.bind,bh]at h;split at h
   .split at h
    .cases h;exact⟨⟨_,wC _ _ _⟩,rfl⟩
    .cases h
   .cases h
  |_=>cases h
def Au (H:bH lev cl cd)(q:bX R m (zC a) de env):aT R m (bI lev (.lrng a)) (ae cl (.lrng a) env m) (aj cd (.lrng a) de):=by
 refine(zq H.r a R m de env q).bindO λd w m1 B A=>?_;cases d with
 |int j=>
  rw[aa.mp A];simp only;split
  .exact aT.new (kJ 1 _ 0) λE=>by simp
  .exact aT.no
 |_=>exact aT.no
set_option tactic.hygienic true in
def lI (H:bH lev cl cd)(e:Ex)(R:S7)(m:Me)(de:aM)(env:En)(q:bX R m (zC e) de env):aT R m (bI lev e) (ae cl e env m) (aj cd e de):=by
 cases e with
 |call k a=>
  have e:bI lev (.call k a)=vf lev k:=by funext d;simp[vf]
  rw[e];refine(zq H.r a R m de env q).bindO λd w m1 B E=>?_;exact H k _ _ _ m1 (xR E)
 |lrng a=>exact Au H q
 |slL a b=>
  refine(zq H.r a R m de env q.left).bindO λd w m1 B E=>?_;refine(zq H.r b _ m1 de env (q.right.up (λ_=>.inl) B)).bindO λd2 Y m2 M O=>?_;cases d2 with
  |int i=>
   rw[aa.mp O];exact tt _ _ (λ_=>rfl) (E.up m1.length M)
  |_=>exact aT.no
 |slB a b c=>
  refine(zq H.r a R m de env q.left).bindO λd w m1 B E=>?_;refine(zq H.r b _ m1 de env (q.right.left.up (λ_=>.inl) B)).bindO λd2 Y m2 M O=>?_;cases d2 with
  |int i=>
   rw[aa.mp O];refine(zq H.r c _ m2 de env (q.right.right.up (λ_ h=>.inl (.inl h)) (B.trans M))).bindO λd3 t m3 Q u=>?_;cases d3 with
   |int j=>
    rw[aa.mp u];exact tt _ _ (λ_=>rfl) ((E.up m1.length M).up m2.length Q)
   |_=>exact aT.no
  |_=>exact aT.no
 |L a=>
  by_cases o:∃b,a=.p (.lrng b) .u
  .obtain ⟨b,rfl⟩:=o;have g:=Au H (a:=b) (R:=R) (m:=m) (de:=de) (env:=env) (q.sub λ_ h=>QX _ h);show aT R m _ (((ae cl (.lrng b) env m).bind λy m1=>(Rz.ok (.T []) m1).bind λz m2=>.ok (.T (y::zK z)) m2).bind λx m1=>alloc m1 (zK x)) (((aj cd (.lrng b) de).bind λy=>(Rd.ok (.T [])).bind λz=>.ok (.T (y::xh z))).bind λx=>bh (xh x));cases f:aj cd (.lrng b) de with
   |no=>trivial
   |ok d=>
    rw[f]at g;obtain⟨w,m1,A,h,l,k,nd,n⟩:=g;rw[h];have hf:bI lev (.lrng b) d=.F:=by
     obtain⟨r,rfl⟩:=Jz f;simp[r.2]
    rw[hf]at k;exact aT.newOwn l (.cons k .nil) (by rw[Q6];exact nd) (by rw[Q6];exact n) (by simp[zcL]) rfl
  .refine (zq H.r a R m de env q).bindO λd w m1 B E=>?_;have h2:zcL a=false:=by
    unfold zcL;split
    .next b=>exact OD ⟨b,rfl⟩ o
    .rfl
   exact aT.new (xR E) λes=>by simp[h2]
 |comp N it cond=>exact(Av (zq H.r it R m de env q.left) (λG I d x J l k=>zq H.r cond G I _ _ ((q.right.right.up J l).push k)) (λG I d x J l k=>zq H.r N G I _ _ ((q.right.left.up J l).push k))).own λ_=>rfl
 |compP k N a b cond=>exact(qJ (zq H.r a R m de env q.left) (λG I J l=>zq H.r b G I de env (q.right.left.up J l)) (λG I p x y J l k U=>zq H.r cond G I _ _ (((q.right.right.right.up J l).push k).push U)) (λG I p x y J l k U=>zq H.r N G I _ _ (((q.right.right.left.up J l).push k).push U))).own λ_=>rfl
 |dict0=>exact⟨_,_,[m.length],rfl,Le.app m _,bZ.mpr ⟨_,[],[],rfl,rfl,by simp,.nil⟩,by simp,by simp⟩
 |dop s a b c=>
  cases s with
  |sot=>
   refine(zq H.r a R m de env q.left).bindO λd w m1 B E=>?_;show aT _ _ _ ((ae cl b env m1).bind _) ((aj cd b de).bind _);refine(zq H.r b _ m1 de env (q.right.left.up (λ_=>.inl) B)).bindO λd2 Y m2 M O=>?_;refine(zq H.r c _ m2 de env (q.right.right.up (λ_ h=>.inl (.inl h)) (B.trans M))).bindO λd3 t m3 Q u=>?_;exact G6 (λ_=>rfl) ((E.up m1.length M).up m2.length Q)
  |_=>exact(zq H.r _ R m de env q).own λd=>rfl
 |_=>exact(zq H.r _ R m de env q).own λd=>rfl
set_option genInjectivity false in
inductive b8 where
 |next (de:aM) (lv:U6)|ret (d:Dat) (l:Lv)|no
deriving Inhabited
noncomputable def Rd.bindS(r:Rd)(f:Dat->b8):b8:=match r with
 |.ok d=>f d
 |.no=>.no
noncomputable def Rd.okS(r:Rd)(f:Dat->b8):b8:=match r with
 |.ok d=>f d
 |_=>.no
noncomputable def bb:T9->U6->U6
 |[],A=>A
 |i::B,A=>bb B (A.set i .no)
noncomputable def cq(de:aM)(j:Nat)(lv:U6):U6:=match de[j]?,lv[j]? with
 |some (some (.L _)),some .F=>lv.set j .top
 |some (some (.L _)),some .top=>lv.set j .top
 |_,_=>lv.set j .no
noncomputable def xC(e:Ex)(de:aM)(lv:U6):U6:=match e with
 |.i (.V j) b=>cq de j (bb (zC b) lv)
 |.dget (.V i) (.i (.V _) (.neg (.lit _)))=>bb [i] lv
 |e=>bb (zC e) lv
mutual
noncomputable def Lk:Dat->Nat
 |.L A=>eP A+1
 |.D _ A=>eP A+1
 |.T A=>eP A+1
 |.N=>0
 |.bl _=>0
 |.int _=>0
 |.str _=>0
 |.scr _=>0
noncomputable def eP:T7->Nat
 |[]=>0
 |d::A=>max (Lk d) (eP A)
end
noncomputable def yy(lv:U6)(j:Nat):Bool:=match lv[j]? with
 |some .top=>true
 |some .F=>true
 |_=>false
noncomputable def xG(lev:U7)(e:Ex)(d:Dat)(j:Nat)(de:aM)(lv:U6):Option (aM×U6):=
 if yy lv j=false then none
 else if bI lev e d=.F then some (de,lv)
 else if j∈zC e then none
 else match e with
  |.V i=>if lv[i]?=some .F/\lv[j]?=some .F then some (de.set i none,lv)else some (de,(bb [i] lv).set j .top)
  |e=>some (de,(xC e de lv).set j .top)
noncomputable def yN{E:Type}(body:E->aM->U6->b8):List E->aM->U6->b8
 |[],A,B=>.next A B
 |x::G,A,B=>match body x A B with
  |.next d1 H=>yN body G d1 H
  |r=>r
noncomputable def xa(c:aM->Rd)(body:aM->U6->b8):Nat->aM->U6->b8
 |0,_,_=>.no
 |k+1,A,B=>match c A with
  |.ok (.bl true)=>match body A B with
   |.next d1 E=>xa c body k d1 E
   |r=>r
  |.ok (.bl false)=>.next A B
  |_=>.no
noncomputable def aY(d:Dat):Lv:=if aF d then .F else .no
noncomputable def cc(lev:U7)(e:Ex)(d:Dat)(lv:U6):Lv:=if aF d then .F else match e with
 |.V i=>(lv[i]?).getD .no
 |e=>bI lev e d
noncomputable def wM(de:aM)(j:Nat):Option T7:=match de[j]? with
 |some (some (.L A))=>some A
 |_=>none
noncomputable def we(lev:U7)(i:Nat)(e:Ex)(d:Dat)(de:aM)(lv:U6):b8:=
 if bI lev e d=.F then .next (de.set i (some d)) (lv.set i .F)else .next (de.set i (some d)) ((xC e de lv).set i (bI lev e d))
noncomputable def yW(_ _:Sm):Option Unit:=none
noncomputable def CG(lev:U7)(cl:O5)(e:Ex)(de:aM)(lv:U6):b8:=match e with
  |.meth .append (.V j) (.p e .u)=>(aj cl e de).okS λd=>match wM de j with
   |some A=>if A.length<ao then match xG lev e d j de lv with
    |some (B,E)=>.next (B.set j (some (.L (A++[d])))) E
    |none=>.no
    else .no
   |none=>.no
  |.meth .extend (.V j) (.p e .u)=>(aj cl e de).okS λd=>match wM de j,d with
   |some A,.L G=>if yy lv j&&aO G&&decide (A.length+G.length<=ao)then .next (de.set j (some (.L (A++G)))) lv else .no
   |_,_=>.no
  |.meth .reverse (.V j) .u=>match wM de j with
   |some A=>if yy lv j then .next (de.set j (some (.L A.reverse))) lv else .no
   |none=>.no
  |.meth _ _ _=>.no
  |e=>(aj cl e de).bindS λ_=>.next de lv
noncomputable def fg(q:T6):Dat:=.T (q.map Dat.int)
noncomputable def aG(lev:U7)(cl:O5):Sm->aM->U6->b8
 |.skip,A,B=>.next A B
 |.seq a b,A,B=>match aG lev cl a A B with
  |.next d1 I=>aG lev cl b d1 I
  |r=>r
 |.a i e,A,B=>(aj cl e A).bindS λd=>we lev i e d A B
 |.aug i J e,A,B=>match A[i]? with
  |some (some (.int a))=>(aj cl e A).okS λy=>match y with
   |.int b=>(zZ J (.int a) (.int b)).okS λz=>.next (A.set i (some z)) (B.set i .F)
   |_=>.no
  |_=>.no
 |.ite c a b,A,B=>(aj cl c A).bindS λx=>match x with
  |.bl true=>aG lev cl a A B
  |.bl false=>aG lev cl b A B
  |_=>.no
 |.forv i H E,A,B=>(aj cl H A).bindS λd=>match di d with
  |some L=>yN (λx A B=>aG lev cl E (A.set i (some x)) (B.set i (aY x))) L A (if aF d then B else xC H A B)
  |none=>.no
 |.while c E,A,B=>xa (aj cl c) (aG lev cl E) 1000000 A B
 |.ret e,A,B=>(aj cl e A).bindS λd=>.ret d (cc lev e d B)
 |.expr e,A,B=>CG lev cl e A B
 |.dput j k e,A,B=>(aj cl e A).okS λd=>(aj cl k A).okS λq=>match A[j]?,vQ q with
  |some (some (.D G M)),some q=>if B[j]?=some .F/\bI lev e d=.F/\G.length<ao then .next (A.set j (some (.D (wu G q) (yt G M q d)))) B else .no
  |_,_=>.no
 |.forD i x E,A,B=>match A[x]? with
  |some (some (.D G _))=>if G.length<=ao then yN (λx A B=>aG lev cl E (A.set i (some x)) (B.set i (aY x))) (G.map fg) A (B.set x .no)else .no
  |_=>.no
 |.never,_,_=>.no
def uK{lev:U7}{cl:O5}{a b:Sm}{de:aM}{lv:U6}:aG lev cl (.seq a b) de lv=match aG lev cl a de lv with
  |.next d1 A=>aG lev cl b d1 A
  |r=>r:=rfl
noncomputable def xD(B:Fn)(A:T7):aM:=A.map some++QI (B.sz-A.length) none
noncomputable def xp(B:Fn)(A:T7):U6:=A.map aY++QI (B.sz-A.length) .F
noncomputable def xY:Lv->Lv->Bool
 |_,.no=>true
 |.F,.F=>true
 |.top,.top=>true
 |_,_=>false
noncomputable def zJ(l:Lv):b8->Rd
 |.next _ _=>.ok .N
 |.ret d k=>if aF d || xY k l then .ok d else .no
 |_=>.no
noncomputable def zL(lev:U7)(cl:O5)(k:Nat)(A:Fn)(B:T7):Rd:=
 if B.length=A.ar then zJ (lev k) (aG lev cl A.body (xD A B) (xp A B))else .no
noncomputable def gK(lev:U7)(T:List Fn):Nat->Nat->T7->Rd
 |0,_,_=>.no
 |d+1,k,A=>match T[k]? with
  |some B=>zL lev (gK lev T d) k B A
  |none=>.no
noncomputable def xq(RR:S7)(A:O9):Nat->Prop:=λl=>RR l/\∀i,l∉A i
structure Inv(lo:Nat)(RR:S7)(m:Me)(de:aM)(lv:U6)(env:En)(A:O9):Prop where
 len:de.length=env.length
 lvl:lv.length=de.length
 rr:∀l,lo<=l->RR l
 lom:lo<=m.length
 slot:∀i d l,de[i]?=some (some d)->lv[i]?=some l->∃w,env[i]?=some (some w)/\bu (xq RR A) m l d w (A i)
 nd:∀i,(A i).Nodup
 dj:∀i j a,a∈A i->a∈A j->i=j
 bd:∀i a,a∈A i->lo<=a/\a<m.length
noncomputable def bj(A:O9)(m:Me)(B:O9)(m':Me):Prop:=(∀(l:Nat) o,(∀i,l∉A i)->m[l]?=some o->(∀i,l∉B i)/\m'[l]?=some o)/\m.length<=m'.length
def bj.refl(A:O9)(m:Me):bj A m A m:=⟨λ_ _ h k=>⟨h,k⟩,Qh _⟩
def bj.trans{A B C:O9}{m m1 m2:Me}(h:bj A m B m1)(k:bj B m1 C m2):bj A m C m2:=
 ⟨λl o a b=>k.1 l o (h.1 l o a b).1 (h.1 l o a b).2,Qx h.2 k.2⟩
def bj.repL (h:bj A m B m')(q:ab (xq RR A) m d w):ab (xq RR B) m' d w:=
 ab.frame (λl o r z=>⟨⟨r.1,(h.1 l o r.2 z).1⟩,(h.1 l o r.2 z).2⟩) d w q
def Inv.getlv (I:Inv lo RR m de lv env A){i:Nat}(h:de[i]?=some o):∃l,lv[i]?=some l:=by
 obtain⟨B,_⟩:=Qa.mp h;exact⟨_,Qj (by rw[I.lvl];exact B)⟩
def Inv.envR (I:Inv lo RR m de lv env A)(vs:T9):bX RR m vs de env:=
 ⟨I.len,λi _ d h=>by
  obtain⟨l,hl⟩:=I.getlv h;obtain⟨w,a,b⟩:=I.slot i d l h hl;exact⟨w,a,b.rep (λ_ z=>z.1) (λa B=>I.rr a (I.bd i a B).1)⟩⟩
def Inv.ext{lo:Nat}{RR:S7}{m m':Me}{de:aM}{lv:U6}{env:En}{A:O9}(I:Inv lo RR m de lv env A)(h:Le m m'):Inv lo RR m' de lv env A:=
 ⟨I.len,I.lvl,I.rr,Qx I.lom h.len,λi d l a b=>by
  obtain⟨w,p,q⟩:=I.slot i d l a b;exact⟨w,p,q.frame (λl o r z=>⟨r,h l o z⟩) (λl _ o z=>h l o z)⟩,I.nd,I.dj,λi a B=>⟨(I.bd i a B).1,Qp (I.bd i a B).2 h.len⟩⟩
def kL (h:Le m m'):bj A m A m':=⟨λl o a b=>⟨a,h l o b⟩,h.len⟩
noncomputable def aL(A:O9)(i:Nat)(B:T9):Nat->T9:=λk=>if k=i then B else A k
def zw:aL A i B i=B:=by simp[aL]
def zu (h:k≠i):aL A i B k=A k:=by simp[aL,h]
set_option tactic.hygienic true in
def Inv.store{lo:Nat}{RR:S7}{m m':Me}{de:aM}{lv:U6}{env:En}{A:O9}(I:Inv lo RR m de lv env A)(h:Le m m')(i:Nat){d:Dat}{l:Lv}{w:Wd}{B:T9}
  (q:bu (λl=>(xq RR A l\/m.length<=l)/\l∉B) m' l d w B) (nd:B.Nodup) (M:∀b∈B,m.length<=b) :
  Inv lo RR m' (de.set i (some d)) (lv.set i l) (env.set i (some w)) (aL A i B)/\bj A m (aL A i B) m':=by
 have N:=q.lt;have Q:∀(x:Nat) (o:Ob),(∀k,x∉A k)->m[x]?=some o->∀k,x∉aL A i B k:=by
  intro x o O G k;by_cases e:k=i
  .subst e;rw[zw];intro H;have:=M x H;have:=(Qa.mp G).1;lia
  .rw[zu e];exact O k
 refine⟨⟨by simp[I.len],by simp[I.lvl],I.rr,Qx I.lom h.len,?_,?_,?_,?_⟩,⟨λx o O G=>⟨Q x o O G,h x o G⟩,h.len⟩⟩
 .intro k e U J L;by_cases z:k=i
  .rw[z]at J L ⊢;rw[Q0]at J L;rw[OB rfl]at J L;split at J
   .split at L
    .next Y p=>
     cases J;cases L;refine⟨w,by rw[Q0,OB rfl,OB (by rw[<-I.len];exact Y)],?_⟩;rw[zw];refine q.frame (λx o r G=>⟨⟨?_,λk=>?_⟩,G⟩) (λ_ _ _ z=>z)
     .rcases r.1 with r1|r1
      .exact r1.1
      .exact I.rr x (Qx I.lom r1)
     .by_cases e:k=i
      .subst e;rw[zw];exact r.2
      .rw[zu e];rcases r.1 with r1|r1
       .exact r1.2 k
       .intro E;have:=(I.bd k x E).2;lia
    .cases L
   .cases J
  .rw[QO (Ne.symm z)]at J L;obtain⟨u,a,b⟩:=I.slot k e U J L;refine⟨u,by rw[QO (Ne.symm z)];exact a,?_⟩;rw[zu z];exact b.frame (λx o r G=>⟨⟨r.1,Q x o r.2 G⟩,h x o G⟩) (λx _ o G=>h x o G)
 .intro k;by_cases e:k=i
  .subst e;rw[zw];exact nd
  .rw[zu e];exact I.nd k
 .intro k j a E H;by_cases e:k=i
  .subst e;rw[zw]at E;by_cases f:j=k
   .exact f.symm
   .rw[zu f]at H;have:=M a E;have:=(I.bd j a H).2;lia
  .rw[zu e]at E;by_cases f:j=i
   .subst f;rw[zw]at H;have:=M a H;have:=(I.bd k a E).2;lia
   .rw[zu f]at H;exact I.dj k j a E H
 .intro k a E;by_cases e:k=i
  .subst e;rw[zw]at E;exact⟨Qx I.lom (M a E),N a E⟩
  .rw[zu e]at E;exact⟨(I.bd k a E).1,Qp (I.bd k a E).2 h.len⟩
def Inv.weak{lo:Nat}{RR:S7}{m:Me}{de:aM}{lv:U6}{env:En}{A:O9}(I:Inv lo RR m de lv env A)(i:Nat){l:Lv}{B:T9}
  (O:∀b∈B,b∈A i) (nd:B.Nodup) (q:∀d w,de[i]?=some (some d)->env[i]?=some (some w)->bu (xq RR (aL A i B)) m l d w B) :
  Inv lo RR m de (lv.set i l) env (aL A i B)/\bj A m (aL A i B) m:=by
 have Q:∀x,(∀k,x∉A k)->∀k,x∉aL A i B k:=by
  intro x J k;by_cases e:k=i
  .subst e;rw[zw];intro M;exact J _ (O x M)
  .rw[zu e];exact J k
 have sub:∀k a,a∈aL A i B k->a∈A k:=by
  intro k a E;by_cases e:k=i
  .subst e;rw[zw]at E;exact O a E
  .rw[zu e]at E;exact E
 refine⟨⟨I.len,by simp[I.lvl],I.rr,I.lom,?_,?_,λk j a E M=>I.dj k j a (sub k a E) (sub j a M),λk a E=>I.bd k a (sub k a E)⟩,⟨λx o J H=>⟨Q x J,H⟩,Qh _⟩⟩
 .intro k e U L G;by_cases z:k=i
  .subst z;rw[Q0,OB rfl]at G;split at G
   .cases G;obtain⟨Y,N⟩:=I.getlv L;obtain⟨w,a,_⟩:=I.slot k e Y L N;refine⟨w,a,?_⟩;rw[zw];exact q e w L a
   .cases G
  .rw[QO (Ne.symm z)]at G;obtain⟨u,a,b⟩:=I.slot k e U L G;refine⟨u,a,?_⟩;rw[zu z];exact b.frame (λx o r H=>⟨⟨r.1,Q x r.2⟩,H⟩) (λx _ o H=>H)
 .intro k;by_cases e:k=i
  .subst e;rw[zw];exact nd
  .rw[zu e];exact I.nd k
def Inv.down{lo:Nat}{RR:S7}{m:Me}{de:aM}{lv:U6}{env:En}{A:O9}(I:Inv lo RR m de lv env A)(i:Nat):
  Inv lo RR m de (lv.set i .no) env (aL A i [])/\bj A m (aL A i []) m:=by
 refine I.weak i (by simp) Q7 λd w B G=>⟨?_,rfl⟩;obtain⟨l,hl⟩:=I.getlv B;obtain⟨J,a,b⟩:=I.slot i d l B hl;rw[G]at a;cases a;refine b.rep (λx r=>⟨r.1,λk=>?_⟩) (λx E=>⟨I.rr x (I.bd i x E).1,λk=>?_⟩)
 .by_cases e:k=i
  .subst e;rw[zw];simp
  .rw[zu e];exact r.2 k
 .by_cases e:k=i
  .subst e;rw[zw];simp
  .rw[zu e];intro H;exact e (I.dj k i x H E)
theorem xL:∀(vs:T9) (lv:U6) (k:Nat),(bb vs lv)[k]?=if k∈vs/\k<lv.length then some .no else lv[k]?
 |[],lv,k=>by simp[bb]
 |i::vs,lv,k=>by
  unfold bb;rw[xL vs (lv.set i .no) k];rw[Vc,Q0];by_cases a:k∈vs/\k<lv.length
  .rw[OB a,OB ⟨Qo _ a.1,a.2⟩]
  .rw[OC a];by_cases e:i=k
   .subst e;by_cases b:i<lv.length
    .simp[b]
    .simp[b]
   .rw[OC e];by_cases c:k∈vs
    .have:¬k<lv.length:=λz=>a ⟨c,z⟩;rw[OC (λz=>this z.2)]
    .rw[OC (λz=>by rcases Qn.mp z.1 with z1|z1;exact e z1.symm;exact c z1)]
theorem Inv.downs:∀(vs:T9) {lv:U6}{A:O9},Inv lo RR m de lv env A ->
  ∃B,Inv lo RR m de (bb vs lv) env B/\bj A m B m/\(∀i∈vs,B i=[])/\(∀i,B i=A i\/B i=[])/\∀i,i∉vs->B i=A i
 |[],lv,A,I=>⟨A,I,bj.refl A m,by simp,λi=>.inl rfl,λ_ _=>rfl⟩
 |j::vs,lv,A,I=>by
  obtain⟨G,H⟩:=I.down j;obtain⟨B,J,L,M,N,E⟩:=Inv.downs vs G;refine⟨B,J,H.trans L,λi hi=>?_,λi=>?_,λi hi=>?_⟩
  .by_cases q:i∈vs
   .exact M i q
   .rw[E i q];rcases Qn.mp hi with rfl|hi
    .exact zw
    .exact OD hi q
  .rcases N i with z|z
   .rw[z];by_cases e:i=j
    .subst e;right;exact zw
    .left;exact zu e
   .exact .inr z
  .have:i≠j:=λe=>hi (by rw[e];simp);rw[E i (λz=>hi (Qo _ z)),zu this]
theorem Inv.top (I:Inv lo RR m de lv env A)(j:Nat)(M:de[j]?=some (some (.L J)))(hj:yy lv j=true):
  ∃l xs H,Inv lo RR m de (lv.set j .top) env H/\bj A m H m/\H j=[l]/\(∀i,i≠j->H i=A i)/\env[j]?=some (some (.ref l))/\m[l]?=some (.L xs)/\ab (xq RR H) m J xs/\l∈A j:=by
 unfold yy at hj;obtain⟨O,hl⟩:=I.getlv M;obtain⟨w,a,b⟩:=I.slot j _ O M hl;rw[hl]at hj;have N:∃l xs,w=.ref l/\l∈A j/\m[l]?=some (.L xs)/\ab (xq RR (aL A j [l])) m J xs:=by
  cases O with
  |no=>simp at hj
  |top=>
   obtain⟨p,l,xs,e,rfl,E,G,r⟩:=b;cases e;refine⟨l,xs,rfl,by rw[E];simp,G,ab.frame (λx o r z=>⟨⟨r.1,λk=>?_⟩,z⟩) _ _ r⟩;by_cases e:k=j
   .subst e;rw[zw,<-E];exact r.2 k
   .rw[zu e];exact r.2 k
  |F=>
   obtain⟨l,xs,B,rfl,E,G,r⟩:=bo.mp b;refine⟨l,xs,rfl,by rw[E];simp,G,ax.rep J xs B (λx L=>⟨I.rr x (I.bd j x (by rw[E];exact Qo _ L)).1,λk=>?_⟩) r⟩;have nd:=I.nd j;rw[E]at nd;by_cases e:k=j
   .subst e;rw[zw];intro z;rw[Ql.mp z]at L;exact(QB.mp nd).1 L
   .rw[zu e];intro z;exact e (I.dj k j x z (by rw[E];exact Qo _ L))
 obtain⟨l,xs,rfl,E,G,r⟩:=N;obtain⟨Y,K⟩:=I.weak j (l:=.top) (B:=[l]) (by intro b q;rw[Ql.mp q];exact E) (by simp) λd w Q U=>by
  rw[M]at Q;cases Q;rw[a]at U;cases U;exact⟨J,l,xs,rfl,rfl,rfl,G,r⟩
 exact⟨l,xs,_,Y,K,zw,λi u=>zu u,a,G,r,E⟩
def yX {m:Me}(h:l≠x):(m.set l o)[x]?=m[x]?:=QO h
def xI {m:Me}(h:m[l]?=some p):(m.set l o)[l]?=some o:=by
 rw[Q0,OB rfl,OB (Qa.mp h).1]
def Inv.putO{lo:Nat}{RR:S7}{m m1:Me}{de:aM}{lv:U6}{env:En}{A:O9}(I:Inv lo RR m de lv env A)(le:Le m m1){j l:Nat}{ob:Ob}(hl:l∈A j)(B:O9)
  (h:∀k a,a∈B k->(∃Q,a∈A Q)\/m.length<=a) (U:∀k,(B k).Nodup) (Y:∀i k a,a∈B i->a∈B k->i=k) (u:∀k a,a∈B k->lo<=a/\a<m1.length)
  {E:aM}{G:U6}(J:E.length=de.length) (N:G.length=lv.length)
  (O:∀k d L,k≠j->E[k]?=some (some d)->G[k]?=some L->de[k]?=some (some d)/\lv[k]?=some L/\B k=A k)
  (y:∀d t,E[j]?=some (some d)->G[j]?=some t->∃w,env[j]?=some (some w)/\bu (xq RR B) (m1.set l ob) t d w (B j)) :
  Inv lo RR (m1.set l ob) E G env B/\bj A m B (m1.set l ob):=by
 have g:∀(x:Nat) (o:Ob),(∀k,x∉A k)->m[x]?=some o->(∀k,x∉B k)/\(m1.set l ob)[x]?=some o:=by
  intro x o M H;refine⟨λk f=>?_,?_⟩
  .rcases h k x f with⟨Q,z⟩|z
   .exact M Q z
   .have:=(Qa.mp H).1;lia
  .rw[yX (l:=l) (x:=x) (λe=>M j (by rw[<-e];exact hl))];exact le x o H
 refine⟨⟨J.trans I.len,by rw[N,I.lvl,J],I.rr,by rw[Vc];exact Qx I.lom le.len,?_,U,Y,λk a f=>by rw[Vc];exact u k a f⟩,⟨λx o M H=>g x o M H,by rw[Vc];exact le.len⟩⟩;intro k d L s n;by_cases e:k=j
 .subst e;exact y d L s n
 .obtain ⟨a,b,c⟩:=O k d L e s n;obtain⟨w,p,q⟩:=I.slot k d L a b;refine⟨w,p,?_⟩;rw[c];refine q.frame (λx o r H=>⟨⟨r.1,(g x o r.2 H).1⟩,(g x o r.2 H).2⟩) (λx M o H=>?_);rw[yX (l:=l) (x:=x) (λz=>e (I.dj k j x M (by rw[<-z];exact hl)))];exact le x o H
def Inv.put{lo:Nat}{RR:S7}{m m1:Me}{de:aM}{lv:U6}{env:En}{A:O9}(I:Inv lo RR m de lv env A)(le:Le m m1){j l:Nat}{xs ys:U4}(hl:l∈A j)(B:O9)
  (Y:∀k a,a∈B k->(∃q,a∈A q)\/m.length<=a) (M:∀k,(B k).Nodup) (N:∀i k a,a∈B i->a∈B k->i=k) (O:∀k a,a∈B k->lo<=a/\a<m1.length)
  {E:aM}{G:U6}(H:E.length=de.length) (J:G.length=lv.length)
  (L:∀k d Q,k≠j->E[k]?=some (some d)->G[k]?=some Q->de[k]?=some (some d)/\lv[k]?=some Q/\B k=A k)
  (u:∀d U,E[j]?=some (some d)->G[j]?=some U->∃w,env[j]?=some (some w)/\bu (xq RR B) (m1.set l (.L ys)) U d w (B j)) :
  Inv lo RR (m1.set l (.L ys)) E G env B/\bj A m B (m1.set l (.L ys)):=I.putO le hl B Y M N O H J L u
noncomputable def pY(m m1:Me)(G:T7)(xs:U4)(A:T7)(ys:U4):Prop:=
 ∀B,B.Nodup->ax m G xs B->∃E,ax m1 A ys E/\E.Nodup/\∀b∈E,b∈B\/m.length<=b
noncomputable def pG(RR:S7)(A:O9)(m m1:Me)(E:T7)(xs:U4)(B:T7)(ys:U4):Prop:=
 ab (xq RR A) m E xs->ab (λx=>xq RR A x\/m.length<=x) m1 B ys
noncomputable def fR(RR:S7)(A:O9)(m m1:Me)(H:T7)(xs:U4)(E:T7)(ys:U4):Prop:=
 (∀B,B.Nodup->ax m H xs B->∃G,ax m1 E ys G/\G.Nodup/\∀b∈G,b∈B\/m.length<=b)/\(ab (xq RR A) m H xs->ab (λx=>xq RR A x\/m.length<=x) m1 E ys)
def Inv.mut (I:Inv lo RR m de lv env A)(g:de[j]?=some (some (.L q)))(hj:yy lv j=true):
  ∃l xs,env[j]?=some (some (.ref l))/\m[l]?=some (.L xs)/\ab RR m q xs/\∀(m1:Me) (E:T7) (ys:U4),Le m m1->(lv[j]?=some .F->pY m m1 q xs E ys)->(lv[j]?=some .top->pG RR A m m1 q xs E ys) ->
   ∃N,Inv lo RR (m1.set l (.L ys)) (de.set j (some (.L E))) lv env N/\bj A m N (m1.set l (.L ys)):=by
 unfold yy at hj;obtain⟨u,hl⟩:=I.getlv g;obtain⟨w,a,b⟩:=I.slot j _ u g hl;rw[hl]at hj;have Q:j<de.length:=(Qa.mp g).1;have L:∀(N:O9),(∀k,k≠j->N k=A k)->∀(E:T7) k d t,k≠j->(de.set j (some (.L E)))[k]?=some (some d)->lv[k]?=some t->de[k]?=some (some d)/\lv[k]?=some t/\N k=A k:=by
  intro N h E k d t e G H;rw[QO (Ne.symm e)]at G;exact⟨G,H,h k e⟩
 cases u with
 |no=>simp at hj
 |top=>
  obtain⟨es,l,xs,e,rfl,J,M,r⟩:=b;cases e;refine⟨l,xs,a,M,ab.frame (λ_ _ r z=>⟨r.1,z⟩) _ _ r,λm1 E ys le _ c=>⟨A,?_⟩⟩;have U:=(Qa.mp M).1;refine I.put le (j:=j) (l:=l) (xs:=xs) (by rw[J];simp) A (λk a p=>.inl ⟨k,p⟩) I.nd I.dj (λk a p=>⟨(I.bd k a p).1,Qp (I.bd k a p).2 le.len⟩) (by simp) rfl (L A (λ_ _=>rfl) E) ?_;intro d u G H;rw[Q0,OB rfl,OB Q]at G;cases G;rw[hl]at H;cases H;refine⟨_,a,E,l,ys,rfl,rfl,J,xI (le l _ M),ab.frame (λx o r z=>?_) _ _ (c hl r)⟩;rcases r with r|r
  .exact ⟨r,by rw[yX (l:=l) (x:=x) (λe=>r.2 j (by rw[J,e];simp))];exact z⟩
  .exact ⟨⟨I.rr x (Qx I.lom r),λk s=>by have:=(I.bd k x s).2;lia⟩,by rw[yX (l:=l) (x:=x) (by lia)];exact z⟩
 |F=>
  obtain⟨l,xs,B,rfl,J,M,r⟩:=bo.mp b;have U:=(Qa.mp M).1;have nd:=I.nd j;rw[J]at nd;refine⟨l,xs,a,M,ax.rep q xs B (λx hx=>I.rr x (I.bd j x (by rw[J];exact Qo _ hx)).1) r,λm1 E ys le c _=>?_⟩;obtain⟨O,o,y,n⟩:=c hl B (QB.mp nd).2 r;have Y:l∉O:=λz=>by
   rcases n l z with z|z
   .exact (QB.mp nd).1 z
   .lia
  have sub:∀x∈l::O,x∈A j\/m.length<=x:=by
   intro x hx;rcases Qn.mp hx with rfl|hx
   .left;rw[J];simp
   .rcases n x hx with z|z
    .left;rw[J];exact Qo _ z
    .exact .inr z
  refine⟨aL A j (l::O),?_⟩;refine I.put le (j:=j) (l:=l) (xs:=xs) (by rw[J];simp) _ ?_ ?_ ?_ ?_ (by simp) rfl (L _ (λk s=>zu s) E) ?_
  .intro k x hx;by_cases e:k=j
   .subst e;rw[zw]at hx;rcases sub x hx with z|z
    .exact .inl ⟨k,z⟩
    .exact .inr z
   .rw[zu e]at hx;exact .inl ⟨k,hx⟩
  .intro k;by_cases e:k=j
   .subst e;rw[zw];exact QB.mpr ⟨Y,y⟩
   .rw[zu e];exact I.nd k
  .intro i k x G H;by_cases e:i=j
   .by_cases f:k=j
    .rw[e,f]
    .rw[e,zw]at G;rw[zu f]at H;rcases sub x G with z|z
     .rw[e];exact I.dj j k x z H
     .have:=(I.bd k x H).2;lia
   .rw[zu e]at G;by_cases f:k=j
    .rw[f,zw]at H;rcases sub x H with z|z
     .rw[f];exact I.dj i j x G z
     .have:=(I.bd i x G).2;lia
    .rw[zu f]at H;exact I.dj i k x G H
  .intro k x hx;by_cases e:k=j
   .rw[e,zw]at hx;rcases Qn.mp hx with rfl|hx
    .exact ⟨(I.bd j _ (by rw[J];simp)).1,Qp U le.len⟩
    .refine ⟨?_,ax.lt E ys O o x hx⟩;rcases n x hx with z|z
     .exact (I.bd j x (by rw[J];exact Qo _ z)).1
     .exact Qx I.lom z
   .rw[zu e]at hx;exact⟨(I.bd k x hx).1,Qp (I.bd k x hx).2 le.len⟩
  .intro d u G H;rw[Q0,OB rfl,OB Q]at G;cases G;rw[hl]at H;cases H;refine⟨_,a,?_⟩;rw[zw];exact bo.mpr ⟨l,ys,O,rfl,rfl,xI (le l _ M),ax.frame E ys O (λx hx o z=>by rw[yX (l:=l) (x:=x) (λe=>Y (by rw[e];exact hx))];exact z) o⟩
theorem ax.item:∀{E:T7}{xs:U4}{A:T9}{p:Nat}{d:Dat},ax m E xs A->E[p]?=some d->∃x B,(xs[p]?=some x/\bi m d x B)/\∀b∈B,b∈A
 |[],xs,A,p,d,h,z=>by simp at z
 |e::E,xs,A,0,d,h,z=>by
  obtain⟨x,r,B,C,rfl,rfl,a,b⟩:=h.cons_inv;simp at z;subst z;exact⟨x,B,⟨rfl,a⟩,λb G=>QX _ G⟩
 |e::E,xs,A,p+1,d,h,z=>by
  obtain⟨x,r,B,C,rfl,rfl,a,b⟩:=h.cons_inv;obtain⟨y,D,H,I⟩:=ax.item b (by simpa using z);exact⟨y,D,by simpa using H,λb G=>Qz _ (I b G)⟩
theorem pK:∀{E:T7}{xs:U4}{A:T9}{p:Nat}{d:Dat},ax m E xs A->E[p]?=some d ->
  ∃x G N H,xs[p]?=some x/\A=G++(N++H)/\bi m d x N/\(∀(i:Nat) e y,i≠p->E[i]?=some e->xs[i]?=some y->∃I,bi m e y I/\∀b∈I,b∈G\/b∈H)/\∀(m':Me) (d':Dat) (J:Wd) (L:T9),(∀l,l∈G\/l∈H->∀o,m[l]?=some o->m'[l]?=some o)->bi m' d' J L->ax m' (E.set p d') (xs.set p J) (G++(L++H))
 |[],xs,A,p,d,h,z=>by simp at z
 |e::E,xs,A,0,d,h,z=>by
  refine aP λk f=>?_;obtain⟨x,r,B,C,rfl,rfl,a,b⟩:=h.cons_inv;refine f ?_;simp at z;subst z;refine⟨x,[],B,C,rfl,rfl,a,λi e y u O c=>?_,λm' d' J L Q o=>?_⟩
  .cases i with
   |zero=>exact OD rfl u
   |succ i=>
    simp at O c;refine aP λk t=>?_;obtain⟨g,I,o,j⟩:=ax.item b O;refine t ?_;rw[c]at o;obtain⟨s,n⟩:=o;cases s;exact⟨I,n,λz M=>.inr (j z M)⟩
  show ax m' (d'::E) (J::r) (L++C);exact ax.cons o (ax.frame E r C (λl hl=>Q l (.inr hl)) b)
 |e::E,xs,A,p+1,d,h,z=>by
  refine aP λk w=>?_;obtain⟨x,r,B,C,rfl,rfl,a,b⟩:=h.cons_inv;obtain⟨y,G,N,H,O,rfl,h3,h5,h4⟩:=pK b (by simpa using z);refine w ?_;refine⟨y,B++G,N,H,by simpa using O,by simp[Qm],h3,λi e' g u U Y=>?_,λm' d' J L Q o=>?_⟩
  .cases i with
   |zero=>simp at U Y;subst U;subst Y;exact⟨B,a,λz M=>.inl (QX _ M)⟩
   |succ i=>
    simp at U Y;obtain⟨I,o,j⟩:=h5 i e' g (by lia) U Y;exact⟨I,o,λz M=>by rcases j z M with q|q;exact .inl (Qz _ q);exact .inr q⟩
  rw[Qm];exact ax.cons (bi.frame e x B (λl hl=>Q l (.inl (QX _ hl))) a) (h4 m' d' J L (λl hl=>Q l (by rcases hl with hl|hl;exact .inl (Qz _ hl);exact .inr hl)) o)
def uJ (le:Le m m1)(o:bi m1 d w E)(nd:E.Nodup)(H:∀b∈E,m.length<=b):fR RR A m m1 I xs (I++[d]) (xs++[w]):=by
 refine⟨λB J q=>⟨B++(E++[]),(ax.frame I xs B (λl _ o z=>le l o z) q).app (.cons o .nil),?_,?_⟩,λq=>?_⟩
 .rw[Q6];refine QW.mpr ⟨J,nd,λx L y M e=>?_⟩;have:=ax.lt I xs B q x L;have:=H y M;lia
 .intro b G;rw[Q6]at G;rcases Qs.mp G with z|z
  .exact .inl z
  .exact .inr (H b z)
 .exact (ab.frame (λl o r z=>⟨.inl r,le l o z⟩) _ _ q).app (.cons (bi.rep d w E (λb G=>.inr (H b G)) o) .nil)
def GZ (p:Nat)(le:Le m m1)(o:bi m1 d w G)(nd:G.Nodup)(J:∀b∈G,m.length<=b):fR RR A m m1 H xs (H.set p d) (xs.set p w):=by
 refine⟨λB M q=>?_,λq=>?_⟩
 .cases O:H[p]? with
  |none=>
   have N:H.length<=p:=Q4.mp O;rw[Uh N,Uh (by rw[<-q.len];exact N)];exact⟨B,ax.frame H xs B (λl _ o z=>le l o z) q,M,λb E=>.inl E⟩
  |some e=>
   obtain⟨y,U,g,Y,N,rfl,f,_,j⟩:=pK q O;refine⟨U++(G++Y),j m1 d w G (λl _ o z=>le l o z) o,?_,?_⟩
   .have I:=ax.lt H xs _ q;rw[QW]at M ⊢;obtain⟨k,Q,u⟩:=M;rw[QW]at Q ⊢;obtain⟨t,c,s⟩:=Q;refine⟨k,⟨nd,c,λx L y hy e=>?_⟩,λx L y hy e=>?_⟩
    .have:=J x L;have:=I y (by simp[hy]);lia
    .rcases Qs.mp hy with hy|hy
     .have:=J y hy;have:=I x (by simp[L]);lia
     .exact u x L y (Qz _ hy) e
   .intro b E;simp only[Qs]at E ⊢;rcases E with z|z|z
    .exact .inl (.inl z)
    .exact .inr (J b z)
    .exact .inl (.inr (.inr z))
 .exact (ab.frame (λl o r z=>⟨.inl r,le l o z⟩) _ _ q).set p (bi.rep d w G (λb E=>.inr (J b E)) o)
theorem ax.rev:∀{E:T7}{xs:U4}{A:T9},A.Nodup->ax m E xs A->∃B,ax m E.reverse xs.reverse B/\B.Nodup/\∀b∈B,b∈A
 |[],xs,A,nd,h=>by rw[h.nil_inv.1];exact⟨[],.nil,Q7,by simp⟩
 |d::E,xs,A,nd,h=>by
  obtain⟨x,r,B,C,rfl,rfl,a,b⟩:=h.cons_inv;obtain⟨I,J,L⟩:=QW.mp nd;obtain⟨D,o,M,G⟩:=ax.rev J b;rw[Wq,Wq];refine⟨D++(B++[]),o.app (.cons a .nil),?_,?_⟩
  .rw[Q6];exact QW.mpr ⟨M,I,λx N y O e=>L y O x (G x N) e.symm⟩
  .intro b H;simp only[Q6,Qs]at H ⊢;rcases H with z|z
   .exact .inr (G b z)
   .exact .inl z
def dP:fR RR A m m E xs E.reverse xs.reverse:=by
 refine⟨λB G q=>?_,λq=>(ab.frame (λl o r z=>⟨.inl r,z⟩) _ _ q).rev⟩;obtain⟨D,o,H,I⟩:=ax.rev G q;exact⟨D,o,H,λb J=>.inl (I b J)⟩
def GY (le:Le m m1)(f:aO E=true)(r:ab R m1 E ys):fR RR A m m1 G xs (G++E) (xs++ys):=by
 have o:ax m1 E ys []:=r.flat E ys f;refine⟨λB H q=>⟨B++[],(ax.frame G xs B (λl _ o z=>le l o z) q).app o,by simpa using H,λb I=>.inl (by simpa using I)⟩,λq=>?_⟩;exact(ab.frame (λl o r z=>⟨.inl r,le l o z⟩) _ _ q).app (ax.rep E ys [] (by simp) o)
def Io (h:ab R m A xs)(E:m[l]?=some (.L xs))(b:ai R m e y):af R m (jY (.ref l) y m) (yh (.L A) e):=by
 cases e with
 |int i=>
  rw[aa.mp b];simp only[yh,jY,xX,wr,zD,E];cases z:(ix A.length i).bind λj=>A[j]? with
  |none=>exact af.no
  |some v=>
   obtain⟨j,B,G⟩:=Qt.mp z;obtain⟨x,H,p⟩:=h.get G;rw[h.len]at B;simp only[B,WR,H];exact dQ p
 |_=>exact af.no
def kM (I:Inv lo RR m de lv env A)(h:∀i∈vs,∀l,lv[i]?=some l->l=.no):bX (xq RR A) m vs de env:=
 ⟨I.len,λi E d B=>by
  obtain⟨l,hl⟩:=I.getlv B;obtain⟨w,a,b⟩:=I.slot i d l B hl;rw[h i E l hl]at b;exact⟨w,a,b.1⟩⟩
def uI (de:aM)(j:Nat)(lv:U6)(h:k≠j):(cq de j lv)[k]?=lv[k]?:=by
 have q:∃l,cq de j lv=lv.set j l:=by
  unfold cq;generalize de[j]?=p;generalize lv[j]?=q;cases p with
  |none=>exact⟨_,rfl⟩
  |some o=>
   cases o with
   |none=>exact⟨_,rfl⟩
   |some d=>
    cases d with
    |L A=>
     cases q with
     |none=>exact⟨_,rfl⟩
     |some l=>cases l<;>exact⟨_,rfl⟩
    |_=>exact⟨_,rfl⟩
 obtain⟨l,e⟩:=q;rw[e];exact QO (Ne.symm h)
def uH (q:¬ ∃j i w,o=.V j/\b=.i (.V i) (.neg (.lit w))):xC (.dget o b) de lv=bb (zC (.dget o b)) lv:=by
 cases o with
 |V j=>
  cases b with
  |i x y=>
   cases x with
   |V i=>
    cases y with
    |neg z=>
     cases z with
     |lit w=>exact OD ⟨_,_,_,rfl,rfl⟩ q
     |_=>rfl
    |_=>rfl
   |_=>rfl
  |_=>rfl
 |_=>rfl
set_option tactic.hygienic true in
def GX (e:Ex)(de:aM)(lv:U6)(h:k∉zC e):(xC e de lv)[k]?=lv[k]?:=by
 have A:∀B,k∉B->(bb B lv)[k]?=lv[k]?:=λB h=>by rw[xL,OC (λz=>h z.1)]
 cases e with
 |i o b=>
  cases o with
  |V j=>
   replace h:k∉j::zC b:=h
   rw[Qn,not_or]at h;show(cq de j (bb (zC b) lv))[k]?=_;rw[uI _ _ _ h.1,A _ h.2]
  |_=>exact A _ h
 |dget o b=>
  by_cases q:∃j i w,o=.V j/\b=.i (.V i) (.neg (.lit w))
  .obtain ⟨j,i,w,rfl,rfl⟩:=q;exact A [j] (by
    replace h:k∉j::zC (.i (.V i) (.neg (.lit w))):=h
    rw[Qn,not_or]at h;simpa using h.1)
  .rw[uH q];exact A _ h
 |_=>exact A _ h
set_option tactic.hygienic true in
def Inv.topD (I:Inv lo RR m de lv env A)(j:Nat):
  ∃E,Inv lo RR m de (cq de j lv) env E/\bj A m E m/\(∀i,i≠j->E i=A i)/\((∃B l xs,de[j]?=some (some (.L B))/\E j=[l]/\env[j]?=some (some (.ref l))/\m[l]?=some (.L xs)/\ab (xq RR E) m B xs)\/((Vl.cq de j lv)[j]?=some .no\/lv.length<=j)):=by
 by_cases h:(∃B,de[j]?=some (some (.L B)))/\yy lv j=true
 .refine aP λk L=>?_;obtain⟨⟨B,G⟩,H⟩:=h;obtain⟨l,xs,E,J,K,M,N,O,Q,U,_⟩:=I.top j G H;refine L ?_;have:Vl.cq de j lv=lv.set j .top:=by
   unfold Vl.cq;rw[G];unfold yy at H;cases z:lv[j]? with
   |none=>rw[z]at H;simp at H
   |some l=>rw[z]at H;cases l<;>simp at H ⊢
  rw[this];exact⟨E,J,K,N,.inl ⟨B,l,xs,G,M,O,Q,U⟩⟩
 .obtain ⟨J,K⟩:=I.down j;have:Vl.cq de j lv=lv.set j .no:=by
   unfold Vl.cq;split
   .next B G hl=>exact OD ⟨⟨B,G⟩,by unfold yy;rw[hl]⟩ h
   .next B G hl=>exact OD ⟨⟨B,G⟩,by unfold yy;rw[hl]⟩ h
   .rfl
  rw[this];refine⟨_,J,K,λi Y=>zu Y,.inr ?_⟩;by_cases z:j<lv.length
  .left;rw[Q0,OB rfl,OB z]
  .right;lia
set_option tactic.hygienic true in
def Inv.relEv (H:bH lev cl cd)(I:Inv lo RR m de lv env A)(e:Ex):
  ∃E,Inv lo RR m de (xC e de lv) env E/\bj A m E m/\(∀k,k∉zC e->E k=A k)/\aT (xq RR E) m (bI lev e) (ae cl e env m) (aj cd e de):=by
 have L:xC e de lv=Vl.bb (zC e) lv->∃E,Inv lo RR m de (xC e de lv) env E/\bj A m E m/\(∀k,k∉zC e->E k=A k)/\aT (xq RR E) m (bI lev e) (ae cl e env m) (aj cd e de):=by
  intro h;rw[h];obtain⟨E,I',K,g,_,O⟩:=Inv.downs (zC e) I;refine⟨E,I',K,O,lI H e _ m de env (kM I' λi G l hl=>?_)⟩;rw[xL]at hl;split at hl
  .cases hl;rfl
  .next z=>rw[Qy (by have:¬i<lv.length:=λq=>z ⟨G,q⟩;lia)]at hl;cases hl
 cases e with
 |dget a b=>
  by_cases q:∃j i w,a=.V j/\b=.i (.V i) (.neg (.lit w))
  .obtain ⟨j,Q,U,rfl,rfl⟩:=q;show ∃E,Inv lo RR m de (Vl.bb [j] lv) env E/\_;obtain⟨p,M,f,g,_,O⟩:=Inv.downs [j] I;refine⟨p,M,f,λk B=>O k (λz=>B (by
    have z:k=j:=by simpa using z
    subst z;show k∈k::zC (.i (.V Q) (.neg (.lit U)))
    simp)),af.own ?_ (λd=>rfl)⟩
   show af _ m ((ae cl (.V j) env m).bind λx m1=>(ae cl (.i (.V Q) (.neg (.lit U))) env m1).bind λy m2=>qC x y m2) ((aj cd (.V j) de).bind λx=>(aj cd (.i (.V Q) (.neg (.lit U))) de).bind λy=>jt x y);refine(zq H.r (.V j) _ m de env (kM M λi G l hl=>?_)).bind λd w m1 l1 r1=>?_
   .have G:i=j:=by simpa using G
    subst G;rw[xL]at hl;split at hl
    .cases hl;rfl
    .next z=>rw[Qy (by have:¬i<lv.length:=λq=>z ⟨by simp,q⟩;lia)]at hl;cases hl
   .have hb:=zq H.r (.i (.V Q) (.neg (.lit U))) RR m1 de env ((M.ext l1).envR _);cases z2:aj cd (.i (.V Q) (.neg (.lit U))) de with
    |no=>trivial
    |ok d2=>
     rw[z2]at hb;obtain⟨c,m2,t,Y,r2⟩:=hb;rw[t];cases B:vQ d2 with
     |none=>
      have:jt d d2=.no:=by
       cases d with
       |D ks N=>show(match (vQ d2).bind (dH ks N)with|some v=>Rd.ok v|none=>.no)=_;rw[B];rfl
       |_=>rfl
      show af _ _ _ (jt d d2);rw[this];trivial
     |some k=>
      have fl:aF d2=true:=by
       cases d2 with
       |T N=>
        have B:xy N=some k:=B;show aO N=true;clear r2 z2
        induction N generalizing k with
        |nil=>rfl
        |cons x r ih=>
         cases x with
         |int i=>
          obtain⟨k',e,rfl⟩:=QF.mp (show(xy r).map (i::·)=some k from B);show(aF (.int i)&&aO r)=true;rw[ih _ e e];rfl
         |_=>cases B
       |_=>cases B
      have r3:ai (λ_=>False) m2 d2 c:=bi.rep d2 c [] (by simp) (ai.flat (m':=m2) d2 c fl r2);exact af.lift Y (Aw (ai.frame (λl o r z=>⟨.inl r,Y l o z⟩) _ _ r1) (ai.frame (λl o r z=>⟨.inl (by cases r),z⟩) _ _ r3))
  .exact L (uH q)
 |i a b=>
  cases a with
  |V j=>
   show ∃E,Inv lo RR m de (Vl.cq de j (Vl.bb (zC b) lv)) env E/\_;obtain⟨p,M,f,g,h2,O⟩:=Inv.downs (zC b) I;obtain⟨A2,u,K2,g1,g2⟩:=M.topD j;have s:∀k,k∉zC (.i (.V j) b)->A2 k=A k:=by
    intro k B
    replace B:k∉j::zC b:=B
    rw[Qn,not_or]at B;rw[g1 k B.1,O k B.2]
   refine⟨A2,u,f.trans K2,s,?_⟩;have J:∀i,i∈zC b->i≠j->∀l,(Vl.cq de j (Vl.bb (zC b) lv))[i]?=some l->l=.no:=by
    intro i G n l hl;rw[uI _ _ _ n,xL]at hl;split at hl
    .cases hl;rfl
    .next z=>rw[Qy (by have:¬i<lv.length:=λq=>z ⟨G,q⟩;lia)]at hl;cases hl
   rcases g2 with⟨N,l,xs,hd,hA,he,hm,hr⟩|g2
   .have hjb:j∉zC b:=λz=>by
     have h0:=g j z;have hx:l∈p j:=by
      have i1:=M;by_cases q:l∈p j
      .exact q
      .exfalso;have:=(K2.1 l _ (λk B=>?_) hm).1 j
       .rw[hA]at this;exact this (by simp)
       .by_cases ek:k=j
        .rw[ek]at B;exact q B
        .have e1:=g1 k ek;rw[<-e1]at B;exact ek (u.dj k j l B (by rw[hA];simp))
     rw[h0]at hx;cases hx
    refine af.own ?_ (λd=>rfl);show af _ m ((ae cl (.V j) env m).bind λx m1=>(ae cl b env m1).bind λy m2=>jY x y m2) ((aj cd (.V j) de).bind λx=>(aj cd b de).bind λy=>yh x y);have e1:ae cl (.V j) env m=.ok (.ref l) m:=kH he m;have t:aj cd (.V j) de=.ok (.L N):=y9 hd;rw[e1,t];simp only[Rz.bind,Rd.bind];refine(zq H.r b _ m de env (kM u λi G=>J i G (λe=>hjb (by rw[<-e];exact G)))).bind λd2 c m2 Y k2=>?_;exact Io (hr.up _ Y) (Y l _ hm) k2
   .refine lI H _ _ m de env (kM u λi G l hl=>?_)
    replace G:i∈j::zC b:=G
    rw[Qn]at G;by_cases e:i=j
    .rw[e]at hl;rcases g2 with g2|g2
     .rw[g2]at hl;cases hl;rfl
     .have:(Vl.cq de j (Vl.bb (zC b) lv)).length=(Vl.bb (zC b) lv).length:=by rw[u.lvl,M.lvl]
      rw[Qy (by lia)]at hl;cases hl
    .rcases G with z|z
     .exact OD z e
     .exact J i z e l hl
  |_=>exact L rfl
 |_=>exact L rfl
noncomputable def aI(lo:Nat)(RR:S7)(A:O9)(m:Me)(r:Rs)(I:b8):Prop:=match I with
 |.next J L=>∃G E H,r=.next G E/\Inv lo RR E J L G H/\bj A m H E
 |.ret d l=>∃w E B,r=.ret w E/\((∀(x:Nat) o,(∀i,x∉A i)->m[x]?=some o->E[x]?=some o)/\m.length<=E.length)/\bu (λx=>RR x/\x∉B) E l d w B/\B.Nodup/\∀b∈B,lo<=b
 |.no=>True
set_option tactic.hygienic true in
def aI.keep{lo:Nat}{RR:S7}{A H:O9}{m m1:Me}{r:Rs}{E:b8}(K:bj A m H m1)(h:aI lo RR H m1 r E):aI lo RR A m r E:=by
 cases E with
 |next L M=>obtain⟨e,G,J,h,I,k⟩:=h;exact⟨e,G,J,h,I,K.trans k⟩
 |ret d l=>obtain⟨w,G,B,h,k,z⟩:=h;exact⟨w,G,B,h,⟨λx o a b=>k.1 x o (K.1 x o a b).1 (K.1 x o a b).2,Qx K.2 k.2⟩,z⟩
 |no=>trivial
def Inv.rf (I:Inv lo RR m de lv env A)(h:ai (Rf RR m.length) m' d w):ai RR m' d w:=
 ai.frame (λx o r z=>⟨by rcases r with r|r;exact r;exact I.rr x (Qx I.lom r),z⟩) d w h
def Inv.bindE (H:bQ cl cd)(I:Inv lo RR m de lv env A)(e:Ex)(k:∀d w m1,aj cd e de=.ok d->ae cl e env m=.ok w m1->Le m m1->ai RR m1 d w->aI lo RR A m1 (f w m1) (g d)):aI lo RR A m ((ae cl e env m).bindS env f) ((aj cd e de).bindS g):=by
 have h:=zq H e RR m de env (I.envR _);cases z:aj cd e de with
 |no=>trivial
 |ok d=>
  rw[z]at h;obtain⟨w,B,h,l,r⟩:=h;have:=k d w B z h l (I.rf r);rw[h];exact aI.keep (kL l) this
def Inv.own (H:bH lev cl cd)(I:Inv lo RR m de lv env A)(G:aj cd e de=.ok d)(J:ae cl e env m=.ok w m1):
  ∃B,bu (λx=>RR x/\x∉B) m1 (bI lev e d) d w B/\B.Nodup/\∀b∈B,m.length<=b:=by
 have h:=lI H e RR m de env (I.envR _);rw[G]at h;obtain⟨M,N,B,E,l,r,nd,L⟩:=h;rw[J]at E;cases E;exact⟨B,r.frame (λx o r z=>⟨⟨by rcases r.1 with r|r;exact r;exact I.rr x (Qx I.lom r),r.2⟩,z⟩) (λ_ _ _ z=>z),nd,L⟩
section
variable{lev:U7}{cl:O1}{cd:O5}{lo:Nat}{RR:S7}{m:Me}{de:aM}{lv:U6}{env:En}{A:O9}
set_option tactic.hygienic true in
def jH (h:wM de j=some B):de[j]?=some (some (.L B)):=by
 unfold wM at h;split at h
 .next z=>cases h;exact z
 .cases h
def qK (h:env[j]?=some (some w))(m:Me):ae cl (.V j) env m=.ok w m:=by
 exact kH h m
def GW(H:bH lev cl cd)(I:Inv lo RR m de lv env A)(i:Nat)(e:Ex):aI lo RR A m (bJ cl (.a i e) env m) (aG lev cd (.a i e) de lv):=by
 have h:aI lo RR A m ((ae cl e env m).bindS env λw m1=>.next (env.set i (some w)) m1) ((aj cd e de).bindS λd=>we lev i e d de lv):=by
  cases z:aj cd e de with
  |no=>trivial
  |ok d=>
   show aI lo RR A m _ (we lev i e d de lv);unfold we;by_cases f:bI lev e d=.F
   .rw[OB f];have h:=lI H e RR m de env (I.envR _);rw[z]at h;obtain⟨w,m1,B,E,l,r,nd,G⟩:=h;rw[E];rw[f]at r;obtain⟨J,K⟩:=I.store l i (l:=.F) (d:=d) (w:=w) (B:=B) r nd G;exact⟨_,_,_,rfl,J,K⟩
   .rw[OC f];obtain⟨N,L,M,_,h⟩:=I.relEv H e;rw[z]at h;obtain⟨w,m1,B,E,l,r,nd,G⟩:=h;rw[E];obtain⟨J,K⟩:=L.store l i (l:=bI lev e d) (d:=d) (w:=w) (B:=B) r nd G;exact⟨_,_,_,rfl,J,M.trans K⟩
 exact h
set_option tactic.hygienic true in
def Im (H:bH lev cl cd)(I:Inv lo RR m de lv env A)(hd:de[j]?=some (some (.L E)))(h1:aj cd e de=.ok d)(h2:ae cl e env m=.ok w m1)(l1:Le m m1)(l2:Le m1 m2)(g:xG lev e d j de lv=some (J,c))(F:T7->Dat->T7)(G:U4->Wd->U4)(cF:∀(m m1:Me) (A:O9) (E:T7) (xs:U4) (d:Dat) (w:Wd) (t:T9),Le m m1->bi m1 d w t->t.Nodup->(∀b∈t,m.length<=b)->fR RR A m m1 E xs (F E d) (G xs w))(cM:∀(m:Me) (E:T7) (xs:U4) (d:Dat) (w:Wd) (B t:T9),(B++t).Nodup->ax m E xs B->bi m d w t->∃N,ax m (F E d) (G xs w) N/\N.Nodup/\∀b∈N,b∈B\/b∈t)(cT:∀(R:S7) (m:Me) (E:T7) (xs:U4) (d:Dat) (w:Wd),ab R m E xs->ai R m d w->ab R m (F E d) (G xs w)):
  ∃l xs,env[j]?=some (some (.ref l))/\m2[l]?=some (.L xs)/\E.length=xs.length/\∃A',Inv lo RR (m2.set l (.L (G xs w))) (J.set j (some (.L (F E d)))) c env A'/\bj A m A' (m2.set l (.L (G xs w))):=by
 have L:=l1.trans l2;unfold xG at g;split at g
 .cases g
 .next ho=>
  have ho:yy lv j=true:=by simpa using ho
  split at g
  .next f=>
   cases g;refine aP λzP zk=>?_;obtain⟨B,r,nd,hB⟩:=I.own H h1 h2;rw[f]at r;obtain⟨l,xs,he,u,hr,put⟩:=I.mut hd ho;refine zk ?_;have r':bi m2 d w B:=bi.frame d w B (λx _ o z=>l2 x o z) r;refine⟨l,xs,he,L l _ u,hr.len,put m2 _ _ L (λ_=>(cF m m2 A E xs d w B L r' nd hB).1) (λ_=>(cF m m2 A E xs d w B L r' nd hB).2)⟩
  .next f=>
   split at g
   .cases g
   .next hj=>
    have O:c=(xC e de lv).set j .top->J=de->∃l xs,env[j]?=some (some (.ref l))/\m2[l]?=some (.L xs)/\E.length=xs.length/\∃A',Inv lo RR (m2.set l (.L (G xs w))) (J.set j (some (.L (F E d)))) c env A'/\bj A m A' (m2.set l (.L (G xs w))):=by
     rintro rfl rfl;refine aP λzP zj=>?_;obtain⟨A1,I1,K1,hA1,h⟩:=I.relEv H e;rw[h1]at h;have ho1:yy (xC e J lv) j=true:=by unfold yy;rw[GX e _ _ hj];exact ho
     obtain⟨l,xs,A2,I2,K2,Q,g2,he,u,hr,hlA⟩:=I1.top j hd ho1;have hs:=h.sim;obtain⟨w',m',h3,_,rw0⟩:=hs;rw[h2]at h3;cases h3;have Y:j<(xC e J lv).length:=by rw[I1.lvl];exact(Qa.mp hd).1
     have ho2:yy ((xC e J lv).set j .top) j=true:=by unfold yy;rw[Q0,OB rfl,OB Y]
     have hlv:((xC e J lv).set j .top)[j]?=some .top:=by rw[Q0,OB rfl,OB Y]
     obtain⟨l',xs',he',hm',_,put⟩:=I2.mut hd ho2;rw[he]at he';cases he';rw[u]at hm';cases hm';obtain⟨A3,I3,K3⟩:=put m2 (F E d) (G xs w) L (λz=>by rw[hlv]at z;cases z) (λ_ q=>by
      refine cT _ m2 E xs d w (ab.frame (λx o r z=>⟨.inl r,L x o z⟩) _ _ q) (ai.frame (λx o r z=>⟨?_,l2 x o z⟩) _ _ rw0);rcases r with r|r
      .left
       refine⟨r.1,λk U=>?_⟩;by_cases ek:k=j
       .rw[ek,Q]at U;rw[Ql.mp U]at r;exact r.2 j hlA
       .rw[g2 k ek]at U;exact r.2 k U
      .exact .inr r)
     refine zj ?_;exact⟨l,xs,he,L l _ u,hr.len,A3,I3,(K1.trans K2).trans K3⟩
    split at g
    .next i=>
     split at g
     .next M=>
      cases g;have s:i≠j:=λe=>hj (by rw[e];exact Ql.mpr rfl)
      -- the move
      have hdi:de[i]?=some (some d):=by
       exact uX h1
      refine aP λzP zi=>?_;obtain⟨wi,hei,ri⟩:=I.slot i d .F hdi M.1;have:ae cl (.V i) env m=.ok wi m:=qK hei m;rw[this]at h2;cases h2;obtain⟨wj,hej,rj⟩:=I.slot j _ .F hd M.2;obtain⟨l,xs,B,rfl,hA,u,r⟩:=bo.mp rj;have hlm:=(Qa.mp u).1;have nd:=I.nd j;rw[hA]at nd;obtain⟨n0,n1⟩:=QB.mp nd;have nBi:(B++A i).Nodup:=QW.mpr ⟨n1,I.nd i,λx hx y hy e=>by
       subst e;exact s (I.dj i j x hy (by rw[hA];exact Qo _ hx))⟩
      obtain⟨N,o,nB',hB'⟩:=cM m E xs d w B (A i) nBi r ri;refine zi ?_;have lB':l∉N:=λz=>by
       rcases hB' l z with q|q
       .exact n0 q
       .exact s (I.dj i j l q (by rw[hA];simp))
      have sub:∀x∈l::N,x∈A j\/x∈A i:=by
       intro x hx;rcases Qn.mp hx with rfl|hx
       .left;rw[hA];simp
       .rcases hB' x hx with q|q
        .left;rw[hA];exact Qo _ q
        .exact .inr q
      have Y:j<de.length:=(Qa.mp hd).1;have hil:i<de.length:=(Qa.mp hdi).1;have ui:aL (aL A i []) j (l::N) i=[]:=by rw[zu s,zw]
      have n:∀k,k≠i->k≠j->aL (aL A i []) j (l::N) k=A k:=λk a b=>by rw[zu b,zu a]
      have ll2:=l2.len;refine⟨l,xs,hej,l2 l _ u,r.len,aL (aL A i []) j (l::N),?_⟩;refine I.put l2 (j:=j) (l:=l) (xs:=xs) (by rw[hA];simp) _ ?_ ?_ ?_ ?_ (by simp) rfl ?_ ?_
      .intro k x hx
       left
       by_cases e:k=j
       .rw[e,zw]at hx;rcases sub x hx with q|q
        .exact ⟨j,q⟩
        .exact ⟨i,q⟩
       .by_cases f:k=i
        .rw[f,ui]at hx;cases hx
        .rw[n k f e]at hx;exact⟨k,hx⟩
      .intro k;by_cases e:k=j
       .rw[e,zw];exact QB.mpr ⟨lB',nB'⟩
       .by_cases f:k=i
        .rw[f,ui];simp
        .rw[n k f e];exact I.nd k
      .have p:∀k x,k≠j->x∈l::N->x∈aL (aL A i []) j (l::N) k->False:=by
        intro k x e hx U;by_cases f:k=i
        .rw[f,ui]at U;cases U
        .rw[n k f e]at U;rcases sub x hx with q|q
         .exact e (I.dj k j x U q)
         .exact f (I.dj k i x U q)
       intro a b x ha hb;by_cases e:a=j
       .by_cases f:b=j
        .rw[e,f]
        .rw[e,zw]at ha;exact(p b x f ha hb).elim
       .by_cases f:b=j
        .rw[f,zw]at hb;exact(p a x e hb ha).elim
        .by_cases g:a=i
         .rw[g,ui]at ha;cases ha
         .by_cases h:b=i
          .rw[h,ui]at hb;cases hb
          .rw[n a g e]at ha;rw[n b h f]at hb;exact I.dj a b x ha hb
      .intro k x hx;by_cases e:k=j
       .rw[e,zw]at hx;rcases sub x hx with q|q
        .exact ⟨(I.bd j x q).1,Qp (I.bd j x q).2 ll2⟩
        .exact ⟨(I.bd i x q).1,Qp (I.bd i x q).2 ll2⟩
       .by_cases f:k=i
        .rw[f,ui]at hx;cases hx
        .rw[n k f e]at hx;exact⟨(I.bd k x hx).1,Qp (I.bd k x hx).2 ll2⟩
      .intro k d' lk e Q g2;rw[QO (Ne.symm e)]at Q;by_cases f:k=i
       .rw[f,Q0,OB rfl,OB hil]at Q;cases Q
       .rw[QO (Ne.symm f)]at Q;exact⟨Q,g2,n k f e⟩
      .intro d' lj Q g2;rw[Q0,OB rfl,OB (by simpa using Y)]at Q;cases Q;rw[M.2]at g2;cases g2;refine⟨_,hej,?_⟩;rw[zw];exact bo.mpr ⟨l,_,N,rfl,rfl,xI (l2 l _ u),ax.frame _ _ N (λx hx o z=>by rw[yX (l:=l) (x:=x) (λe=>lB' (by rw[e];exact hx))];exact l2 x o z) o⟩
     .cases g;exact O rfl rfl
    .cases g;exact O rfl rfl
end
section
variable{lev:U7}{cl:O1}{cd:O5}{lo:Nat}{RR:S7}{m:Me}{de:aM}{lv:U6}{env:En}{A:O9}
def tq (B:ae cl o env m=.ok x m1)(E:ae cl e env m1=.ok w m2)(hl:xj x m1=true:=by simp only[xj,bU];simp_all):ae cl (.meth n o (.p e .u)) env m=dC n x [w] m2:=by
 show(ae cl o env m).bind (λx m1=>match xj x m1 with|true=>((ae cl e env m1).bind λa m2=>.ok (.T [a]) m2).bind λy m2=>dC n x (zK y) m2|false=>.no)=_;rw[B];show(match xj x m1 with|true=>((ae cl e env m1).bind λa m2=>.ok (.T [a]) m2).bind λy m2=>dC n x (zK y) m2|false=>.no)=_;rw[hl,E];rfl
def GV (B:ae cl o env m=.ok x m1)(hl:xj x m1=true:=by simp only[xj,bU];simp_all):ae cl (.meth n o .u) env m=dC n x [] m1:=by
 show(ae cl o env m).bind (λx m1=>match xj x m1 with|true=>dC n x [] m1|false=>.no)=_;rw[B];show(match xj x m1 with|true=>dC n x [] m1|false=>.no)=_;rw[hl]
def GU (n:(B++E).Nodup)(a:ax m H xs B)(b:bi m d w E):∃G,ax m (H++[d]) (xs++[w]) G/\G.Nodup/\∀b∈G,b∈B\/b∈E:=
 ⟨B++(E++[]),a.app (.cons b .nil),by simpa using n,λx I=>by simpa using I⟩
theorem aI.okS{r:Rs}{B:Rd}{g:Dat->b8}(h:∀d,B=.ok d->aI lo RR A m r (g d)):aI lo RR A m r (B.okS g):=by
 cases B with
 |ok d=>exact h d rfl
 |_=>trivial
theorem Inv.ok (H:bQ cl cd)(I:Inv lo RR m de lv env A)(h:aj cd e de=.ok d)(l:Le m m1):∃w m2,ae cl e env m1=.ok w m2/\Le m1 m2/\ai RR m2 d w:=by
 have q:=zq H e RR m1 de env ((I.ext l).envR _);rw[h]at q;obtain⟨w,m2,a,b,c⟩:=q;exact⟨w,m2,a,b,(I.ext l).rf c⟩
def Inv.isRef (I:Inv lo RR m de lv env A){j:Nat}(B:de[j]?=some (some (.L J)))(E:env[j]?=some (some w)):xj w m=true:=by
 obtain⟨G,hl⟩:=I.getlv B;obtain⟨L,a,b⟩:=I.slot j _ G B hl;rw[E]at a;cases a;obtain⟨l,M,rfl,_,H,_⟩:=aE.mp (b.rep (R':=λ_=>True) (λ_ _=>trivial) (λ_ _=>trivial));simp[xj,bU,H]
set_option tactic.hygienic true in
def Il(H:bH lev cl cd)(I:Inv lo RR m de lv env A)(j:Nat)(e:Ex):aI lo RR A m (bJ cl (.expr (.meth .append (.V j) (.p e .u))) env m) (aG lev cd (.expr (.meth .append (.V j) (.p e .u))) de lv):=by
 show aI _ _ _ _ ((ae cl _ env m).bindS env _) _;refine aI.okS λd E=>?_;split
 .next G hl=>
  split
  .next J=>
   split
   .next O Q g=>
    obtain⟨w,m1,L,U,z⟩:=I.ok H.r E (Le.refl m);obtain⟨l,B,M,Y,N,k,q,K⟩:=Im H I (jH hl) E L U (Le.refl m1) g (λG d=>G++[d]) (λB w=>B++[w])
     (λ_ _ _ _ _ _ _ _ le o nd u=>uJ le o nd u) (λ_ _ _ _ _ _ _ n a b=>GU n a b) (λ_ _ _ _ _ _ a b=>a.app (.cons b .nil))
    rw[tq (qK M m) L (I.isRef (jH hl) M)];have:dC .append (.ref l) [w] m1=.ok .N (m1.set l (.L (B++[w]))):=by
     simp only[dC,Y];rw[OB (by lia)]
    rw[this];exact⟨_,_,k,rfl,q,K⟩
   .trivial
  .trivial
 .trivial
set_option tactic.hygienic true in
def Ik(I:Inv lo RR m de lv env A)(j:Nat):aI lo RR A m (bJ cl (.expr (.meth .reverse (.V j) .u)) env m) (aG lev cd (.expr (.meth .reverse (.V j) .u)) de lv):=by
 show aI _ _ _ _ ((ae cl _ env m).bindS env _) (match wM de j with
   |some B=>if yy lv j then .next (de.set j (some (.L B.reverse))) lv else .no
   |none=>.no)
 split
 .next B hl=>
  split
  .next G=>
   obtain⟨l,E,H,J,N,put⟩:=I.mut (jH hl) G;obtain⟨L,M,K⟩:=put m B.reverse E.reverse (Le.refl m) (λ_=>(dP (RR:=RR) (A:=A)).1) (λ_=>dP.2);rw[GV (qK H m)];have:dC .reverse (.ref l) [] m=.ok .N (m.set l (.L E.reverse)):=by simp only[dC,J]
   rw[this];exact⟨_,_,L,rfl,M,K⟩
  .trivial
 .trivial
set_option tactic.hygienic true in
def Ij(H:bH lev cl cd)(I:Inv lo RR m de lv env A)(j:Nat)(e:Ex):aI lo RR A m (bJ cl (.expr (.meth .extend (.V j) (.p e .u))) env m) (aG lev cd (.expr (.meth .extend (.V j) (.p e .u))) de lv):=by
 show aI _ _ _ _ ((ae cl _ env m).bindS env _) _;refine aI.okS λd N=>?_;split
 .next J O hl=>
  split
  .next c=>
   simp only[QD,OH]at c;refine aP λg Q=>?_;obtain⟨w,m1,U,B,Y⟩:=I.ok H.r N (Le.refl m);obtain⟨k,L,rfl,_,E,M⟩:=aE.mp Y;obtain⟨l,G,q,u,z,put⟩:=I.mut (jH hl) c.1.1;have ch:fR RR A m m1 J G (J++O) (G++L):=GY B c.1.2 M;obtain⟨o,p,K⟩:=put m1 _ _ B (λ_=>ch.1) (λ_=>ch.2);refine Q ?_;rw[tq (qK q m) U];have f:=z.len;have t:=M.len;have:dC .extend (.ref l) [.ref k] m1=.ok .N (m1.set l (.L (G++L))):=by
    simp only[dC,B l _ u,E];rw[OB (by lia)]
   rw[this];exact⟨_,_,o,rfl,p,K⟩
  .trivial
 .trivial
set_option tactic.hygienic true in
def GT(H:bH lev cl cd)(I:Inv lo RR m de lv env A)(i:Nat)(op:Bo)(e:Ex):aI lo RR A m (bJ cl (.aug i op e) env m) (aG lev cd (.aug i op e) de lv):=by
 show aI _ _ _ _ _ (match de[i]? with
  |some (some (.int a))=>(aj cd e de).okS λy=>match y with
   |.int b=>(zZ op (.int a) (.int b)).okS λz=>.next (de.set i (some z)) (lv.set i .F)
   |_=>.no
  |_=>.no)
 split
 .next a M=>
  refine aI.okS λy U=>?_;split
  .next b=>
   refine aI.okS λz E=>?_;obtain⟨Y,J⟩:=I.getlv M;obtain⟨t,G,j⟩:=I.slot i _ Y M J;have L:=j.rep (R':=RR) (λ_ z=>z.1) (λx k=>I.rr x (I.bd i x k).1);rw[aa.mp L]at G;show aI _ _ _ _ (match env[i]? with
    |some (some x)=>(ae cl e env m).bindS env λy m1=>iq op x y m1 env λz m2=>.next (env.set i (some z)) m2
    |_=>.no) _
   rw[G];obtain⟨w,m1,N,q,u⟩:=I.ok H.r U (Le.refl m);rw[aa.mp u]at N;simp only[N,Rz.bindS,iq];have O:=uS (R:=RR) (m:=m1) op (d:=.int a) (e:=.int b) (aa.mpr rfl) (aa.mpr rfl);rw[E]at O;obtain⟨Q,m3,o,p,c⟩:=O;rw[o];have g:aF z=true:=by
    cases op<;>simp only[zZ]at E
    .cases E;rfl
    .cases E;rfl
    all_goals (split at E<;>(cases E;try rfl))
   obtain⟨f,K⟩:=I.store (q.trans p) i (l:=.F) (d:=z) (w:=Q) (B:=[]) (c.flat z Q g) Q7 (by simp);exact⟨_,_,_,rfl,f,K⟩
  .trivial
 .trivial
end
theorem ju(q:T6):∀(E:O7) (n:Nat),(∃p,∀(B:Type) (A:List B) (v:B),A.length=n->yt E A q v=A.set p v)\/∀(B:Type) (A:List B) (v:B),A.length=n->yt E A q v=A++[v]
 |[],n=>.inr λB A v _=>by cases A<;>rfl
 |k::E,0=>.inr λB A v h=>by
  cases A with
  |nil=>rfl
  |cons _ _=>cases h
 |k::E,n+1=>by
  by_cases e:k=q
  .refine .inl ⟨0,λB A v h=>?_⟩;cases A with
   |nil=>cases h
   |cons z A=>show(if k=q then v::A else _)=_;rw[OB e];rfl
  .rcases ju q E n with⟨p,h⟩|h
   .refine .inl ⟨p+1,λB A v G=>?_⟩;cases A with
    |nil=>cases G
    |cons z A=>show(if k=q then _ else z::yt E A q v)=_;rw[OC e,h B A v (by simpa using G)];rfl
   .refine .inr λB A v G=>?_;cases A with
    |nil=>cases G
    |cons z A=>show(if k=q then _ else z::yt E A q v)=_;rw[OC e,h B A v (by simpa using G)];rfl
def FA (G:O7)(q:T6)(B:E.length=xs.length)(le:Le m m1)(o:bi m1 d w H)(nd:H.Nodup)(I:∀b∈H,m.length<=b):fR RR A m m1 E xs (yt G E q d) (yt G xs q w):=by
 rcases ju q G E.length with⟨p,h⟩|h
 .rw[h _ E d rfl,h _ xs w B.symm];exact GZ p le o nd I
 .rw[h _ E d rfl,h _ xs w B.symm];exact uJ le o nd I
def Inv.mutD (I:Inv lo RR m de lv env A)(q:de[j]?=some (some (.D g u)))(hl:lv[j]?=some .F):
  ∃l xs,env[j]?=some (some (.ref l))/\m[l]?=some (.D g xs)/\u.length=xs.length/\∀(m1:Me) (J:O7) (H:T7) (ys:U4),Le m m1->pY m m1 u xs H ys ->
   ∃p,Inv lo RR (m1.set l (.D J ys)) (de.set j (some (.D J H))) lv env p/\bj A m p (m1.set l (.D J ys)):=by
 obtain⟨w,a,b⟩:=I.slot j _ .F q hl;have O:j<de.length:=(Qa.mp q).1;obtain⟨l,xs,B,rfl,L,Q,r⟩:=bZ.mp b;have U:=(Qa.mp Q).1;have nd:=I.nd j;rw[L]at nd;refine⟨l,xs,a,Q,r.len,λm1 J H ys le c=>?_⟩;obtain⟨M,o,t,Y⟩:=c B (QB.mp nd).2 r;have N:l∉M:=λz=>by
  rcases Y l z with z|z
  .exact (QB.mp nd).1 z
  .lia
 have sub:∀x∈l::M,x∈A j\/m.length<=x:=by
  intro x hx;rcases Qn.mp hx with rfl|hx
  .left;rw[L];simp
  .rcases Y x hx with z|z
   .left;rw[L];exact Qo _ z
   .exact .inr z
 refine⟨aL A j (l::M),?_⟩;refine I.putO le (j:=j) (l:=l) (by rw[L];simp) _ ?_ ?_ ?_ ?_ (by simp) rfl ?_ ?_
 .intro k x hx;by_cases e:k=j
  .subst e;rw[zw]at hx;rcases sub x hx with z|z
   .exact .inl ⟨k,z⟩
   .exact .inr z
  .rw[zu e]at hx;exact .inl ⟨k,hx⟩
 .intro k;by_cases e:k=j
  .subst e;rw[zw];exact QB.mpr ⟨N,t⟩
  .rw[zu e];exact I.nd k
 .intro i k x E G;by_cases e:i=j
  .by_cases f:k=j
   .rw[e,f]
   .rw[e,zw]at E;rw[zu f]at G;rcases sub x E with z|z
    .rw[e];exact I.dj j k x z G
    .have:=(I.bd k x G).2;lia
  .rw[zu e]at E;by_cases f:k=j
   .rw[f,zw]at G;rcases sub x G with z|z
    .rw[f];exact I.dj i j x E z
    .have:=(I.bd i x E).2;lia
   .rw[zu f]at G;exact I.dj i k x E G
 .intro k x hx;by_cases e:k=j
  .rw[e,zw]at hx;rcases Qn.mp hx with rfl|hx
   .exact ⟨(I.bd j _ (by rw[L];simp)).1,Qp U le.len⟩
   .refine ⟨?_,ax.lt H ys M o x hx⟩;rcases Y x hx with z|z
    .exact (I.bd j x (by rw[L];exact Qo _ z)).1
    .exact Qx I.lom z
  .rw[zu e]at hx;exact⟨(I.bd k x hx).1,Qp (I.bd k x hx).2 le.len⟩
 .intro k d s e E G;rw[QO (Ne.symm e)]at E;exact⟨E,G,zu e⟩
 .intro d n E G;rw[Q0,OB rfl,OB O]at E;cases E;rw[hl]at G;cases G;refine⟨_,a,?_⟩;rw[zw];exact bZ.mpr ⟨l,ys,M,rfl,rfl,xI (le l _ Q),ax.frame H ys M (λx hx o z=>by rw[yX (l:=l) (x:=x) (λe=>N (by rw[e];exact hx))];exact z) o⟩
section
variable{lev:U7}{cl:O1}{cd:O5}{lo:Nat}{RR:S7}{m:Me}{de:aM}{lv:U6}{env:En}{A:O9}
set_option tactic.hygienic true in
def Ii(H:bH lev cl cd)(I:Inv lo RR m de lv env A)(j:Nat)(k e:Ex):aI lo RR A m (bJ cl (.dput j k e) env m) (aG lev cd (.dput j k e) de lv):=by
 show aI _ _ _ _ ((ae cl e env m).bindS env _) _;refine aI.okS λd N=>aI.okS λkv U=>?_;split
 .next E Y q u p=>
  split
  .next c=>
   refine aP λzP g=>?_;obtain⟨f,t,s⟩:=c;obtain⟨w,m1,O,J,r1⟩:=I.ok H.r N (Le.refl m);obtain⟨wk,m2,b,L,n⟩:=I.ok H.r U J;obtain⟨B,M,nd,h⟩:=I.own H N O;rw[t]at M;have M:bi m1 d w B:=M;obtain⟨l,Q,i,a,G,put⟩:=I.mutD u f;obtain⟨y,I1,K1⟩:=put m2 (wu E q) (yt E Y q d) (yt E Q q w) (J.trans L) (FA (RR:=RR) (A:=A) E q G (J.trans L) (bi.frame d w B (λx _ o z=>L x o z) M) nd h).1;refine g ?_;rw[O];show aI _ _ _ _ ((ae cl (.V j) env m1).bindS env _) _;rw[qK i m1];show aI _ _ _ _ ((ae cl k env m1).bindS env _) _;rw[b];have e2:qD (.ref l) wk w m2=.ok .N (m2.set l (.D (wu E q) (yt E Q q w))):=by
    unfold qD;simp only[(J.trans L) l _ a,Ax n p,OB s]
   show aI _ _ _ _ ((qD (.ref l) wk w m2).bindS env _) _;rw[e2];exact⟨env,_,y,rfl,I1,K1⟩
  .trivial
 .trivial
end
section
variable{cl:O1}{lo:Nat}{RR:S7}
def Fz (q:T6):ai R m (fg q) (.T (q.map Wd.int)):=ag.mpr ⟨_,rfl,fv q⟩
set_option tactic.hygienic true in
theorem qL (U:∀x w m de lv env A,Inv lo RR m de lv env A->ai (xq RR A) m x w->aI lo RR A m (bw w env m) (bd x de lv)):
  ∀(E:O7) (i k:Nat) (m:Me) (de:aM) (lv:U6) (env:En) (A:O9),Inv lo RR m de lv env A->(∀k,l∉A k)->m[l]?=some (.D G ws)->E=G.drop i->i+E.length=G.length->E.length<k->aI lo RR A m (x6 bw l G.length k i env m) (yN bd (E.map fg) de lv)
 |[],i,0,m,de,lv,env,A,I,hl,H,r,L,J=>by simp at J
 |d::g,i,0,m,de,lv,env,A,I,hl,H,r,L,J=>by simp at J
 |[],i,k+1,m,de,lv,env,A,I,hl,H,r,L,J=>by
  unfold x6 yN;rw[H];simp only[if_true];rw[Qy (by simp at L;lia)];exact⟨env,m,A,rfl,I,bj.refl A m⟩
 |q::E,i,k+1,m,de,lv,env,A,I,hl,H,r,L,J=>by
  have Y:G[i]?=some q:=by
   have:(G.drop i)[0]?=some q:=by rw[<-r];rfl
   simpa using this
  have j:E=G.drop (i+1):=by
   have:(G.drop i).drop 1=E:=by rw[<-r];rfl
   rw[<-this,Vm]
  have M:i+1+E.length=G.length:=by simp at L;lia
  have N:E.length<k:=by simp at J;lia
  have h:=U (fg q) _ m de lv env A I (Fz q);unfold x6;rw[QJ];unfold yN;rw[H];simp only[if_true];rw[Y];simp only;cases z:bd (fg q) de lv with
  |next d1 u=>
   rw[z]at h;obtain⟨o,m1,p,O,c,Q⟩:=h;rw[O];exact aI.keep Q (qL U E (i+1) k m1 d1 u o p c (Q.1 l _ hl H).1 (Q.1 l _ hl H).2 j M N)
  |ret d l=>
   rw[z]at h;obtain⟨w,m1,B,O,k⟩:=h;rw[O];exact⟨w,m1,B,rfl,k⟩
  |no=>trivial
set_option tactic.hygienic true in
def Jy (I:Inv lo RR m de lv env A)(J:de[x]?=some (some (.D L M))):
  ∃B l ws,Inv lo RR m de (lv.set x .no) env B/\bj A m B m/\env[x]?=some (some (.ref l))/\(∀k,l∉B k)/\m[l]?=some (.D L ws)/\ab (xq RR B) m M ws:=by
 refine aP λu N=>?_;obtain⟨B,H,O,z,_,_⟩:=Inv.downs [x] I;have G:∀i∈[x],∀l,(bb [x] lv)[i]?=some l->l=.no:=λi Q l hl=>by
  rw[xL]at hl;split at hl
  .exact (Option.some.inj hl).symm
  .next q=>
   have:i<lv.length:=(Qa.mp hl).1;exact OD ⟨Q,this⟩ q
 have E:=kM H G;obtain⟨w,U,r⟩:=E.2 x (by simp) _ J;obtain⟨l,ws,rfl,Y,j,q⟩:=bn.mp r;refine N ?_;exact⟨B,l,ws,H,O,U,Y.2,j,q⟩
set_option tactic.hygienic true in
def Ih{bw:Wd->En->Me->Rs}{bd:Dat->aM->U6->b8}(G:∀x w m de lv env A,Inv lo RR m de lv env A->ai (xq RR A) m x w->aI lo RR A m (bw w env m) (bd x de lv)){m:Me}{de:aM}{lv:U6}{env:En}{A:O9}(I:Inv lo RR m de lv env A)(x:Nat):
  aI lo RR A m ((ae cl (.V x) env m).bindS env λw m1=>match w with
   |.ref l=>x6 bw l (kq m1 l) (ao+1) 0 env m1
   |_=>.no) (match de[x]? with
   |some (some (.D B _))=>if B.length<=ao then yN bd (B.map fg) de (lv.set x .no)else .no
   |_=>.no):=by
 split
 .next B U H=>
  split
  .next Y=>
   refine aP λj J=>?_;obtain⟨L,l,k,M,N,O,Q,E,q⟩:=Jy I H;refine J ?_;rw[kH O m];have e:kq m l=B.length:=by unfold kq;rw[E]
   show aI _ _ _ _ (x6 bw l (kq m l) (ao+1) 0 env m) _;rw[e];exact aI.keep N (qL G B 0 (ao+1) m de _ env L M Q E rfl (by simp) (by lia))
  .trivial
 .trivial
end
section
variable{lev:U7}{cl:O1}{cd:O5}{lo:Nat}{RR:S7}
set_option tactic.hygienic true in
def Inv.bindSlot{m:Me}{de:aM}{lv:U6}{env:En}{A:O9}(I:Inv lo RR m de lv env A)(i:Nat){d:Dat}{w:Wd}(h:ai (xq RR A) m d w):Inv lo RR m (de.set i (some d)) (lv.set i (aY d)) (env.set i (some w)) (aL A i [])/\bj A m (aL A i []) m:=by
 refine I.store (Le.refl m) i (B:=[]) ?_ Q7 (by simp);unfold aY;split
 .next f=>exact h.flat d w f
 .exact ⟨ai.frame (λx o r z=>⟨⟨.inl r,by simp⟩,z⟩) _ _ h,rfl⟩
set_option tactic.hygienic true in
theorem je (H:∀x w m de lv env A,Inv lo RR m de lv env A->ai (xq RR A) m x w->aI lo RR A m (bw w env m) (bd x de lv)):
  ∀(E:T7) (xs:U4) (m:Me) (de:aM) (lv:U6) (env:En) (A:O9),Inv lo RR m de lv env A->ab (xq RR A) m E xs->aI lo RR A m (kj bw xs env m) (yN bd E de lv)
 |[],xs,m,de,lv,env,A,I,r=>by
  rw[r.nil_inv];exact⟨env,m,A,rfl,I,bj.refl A m⟩
 |d::E,xs,m,de,lv,env,A,I,r=>by
  obtain⟨x,xs,rfl,a,b⟩:=r.cons_inv;have h:=H d x m de lv env A I a;unfold kj yN;cases z:bd d de lv with
  |next d1 L=>
   rw[z]at h;obtain⟨M,m1,N,G,O,J⟩:=h;rw[G];exact aI.keep J (je H E xs m1 d1 L M N O (J.repL b))
  |ret d l=>
   rw[z]at h;obtain⟨w,m1,B,G,k⟩:=h;rw[G];exact⟨w,m1,B,rfl,k⟩
  |no=>trivial
set_option tactic.hygienic true in
theorem qM (U:∀x w m de lv env A,Inv lo RR m de lv env A->ai (xq RR A) m x w->aI lo RR A m (bw w env m) (bd x de lv)):
  ∀(G:T7) (i k:Nat) (m:Me) (de:aM) (lv:U6) (env:En) (A:O9),Inv lo RR m de lv env A->(∀k,l∉A k)->m[l]?=some (.L E)->ab (xq RR A) m G (E.drop i)->i+G.length=E.length->G.length<k->aI lo RR A m (wY bw l k i env m) (yN bd G de lv)
 |[],i,0,m,de,lv,env,A,I,hl,H,r,L,J=>by simp at J
 |d::G,i,0,m,de,lv,env,A,I,hl,H,r,L,J=>by simp at J
 |[],i,k+1,m,de,lv,env,A,I,hl,H,r,L,J=>by
  unfold wY yN zD;rw[H];simp only;rw[Qy (by simp at L;lia)];exact⟨env,m,A,rfl,I,bj.refl A m⟩
 |d::G,i,k+1,m,de,lv,env,A,I,hl,H,r,L,J=>by
  obtain⟨x,q,Y,a,b⟩:=r.cons_inv;have j:E[i]?=some x:=by
   have:(E.drop i)[0]?=some x:=by rw[Y];rfl
   simpa using this
  have u:q=E.drop (i+1):=by
   have:(E.drop i).drop 1=q:=by rw[Y];rfl
   rw[<-this,Vm]
  rw[u]at b;have N:i+1+G.length=E.length:=by simp at L;lia
  have O:G.length<k:=by simp at J;lia
  have h:=U d x m de lv env A I a;unfold wY yN zD;rw[H];simp only;rw[j];simp only;cases z:bd d de lv with
  |next d1 o=>
   rw[z]at h;obtain⟨p,m1,c,Q,g,M⟩:=h;rw[Q];exact aI.keep M (qM U G (i+1) k m1 d1 o p c g (M.1 l _ hl H).1 (M.1 l _ hl H).2 (M.repL b) N O)
  |ret d l=>
   rw[z]at h;obtain⟨w,m1,B,Q,k⟩:=h;rw[Q];exact⟨w,m1,B,rfl,k⟩
  |no=>trivial
set_option tactic.hygienic true in
def Fy{bw:Wd->En->Me->Rs}{bd:Dat->aM->U6->b8}(H:bH lev cl cd)(O:∀x w m de lv env A,Inv lo RR m de lv env A->ai (xq RR A) m x w->aI lo RR A m (bw w env m) (bd x de lv)){m:Me}{de:aM}{lv:U6}{env:En}{A:O9}(I:Inv lo RR m de lv env A)(it:Ex):
  aI lo RR A m ((ae cl it env m).bindS env λw m1=>iZ bw w env m1) ((aj cd it de).bindS λd=>match di d with
   |some xs=>yN bd xs de (if aF d then lv else xC it de lv)
   |none=>.no):=by
 have run:∀(d:Dat) (w:Wd) (m1:Me) (xs:T7) (E:U6) (J:O9),di d=some xs->Inv lo RR m1 de E env J->ai (xq RR J) m1 d w->aI lo RR J m1 (iZ bw w env m1) (yN bd xs de E):=by
  intro d w m1 xs E J B M r;cases d with
  |T U=>cases B;obtain⟨Y,rfl,G⟩:=ag.mp r;exact je O _ _ _ _ _ _ _ M G
  |scr j=>cases B;rw[bv.mp r];exact je O _ _ _ _ _ _ _ M (fv j)
  |L U=>
   simp only[di]at B;split at B
   .next z=>
    cases B;obtain⟨l,Y,rfl,q,u,G⟩:=aE.mp r;have:=G.len;exact qM O _ 0 (ao+1) m1 de E env J M q.2 u (by simpa using G) (by lia) (by lia)
   .cases B
  |_=>cases B
 cases z:aj cd it de with
 |no=>trivial
 |ok d=>
  show aI lo RR A m _ (match di d with
   |some xs=>yN bd xs de (if aF d then lv else xC it de lv)
   |none=>.no)
  cases B:di d with
  |none=>trivial
  |some xs=>
   simp only;split
   .next f=>
    obtain⟨w,m1,Q,N,G⟩:=I.ok H.r z (Le.refl m);rw[Q];exact aI.keep (kL N) (run d w m1 xs lv A B (I.ext N) (bi.rep d w [] (by simp) (G.flat d w f)))
   .obtain ⟨J,M,p,_,h⟩:=I.relEv H it;rw[z]at h;obtain⟨w,m1,Q,N,G⟩:=h.sim;rw[Q];refine aI.keep (p.trans (kL N)) (run d w m1 xs _ J B (M.ext N) (ai.frame (λx o r z=>⟨?_,z⟩) _ _ G));rcases r with r|r
    .exact r
    .exact ⟨I.rr x (Qx I.lom r),λk c=>by have:=(M.bd k x c).2;lia⟩
set_option tactic.hygienic true in
theorem qN{J:En->Me->Rz}{bw:En->Me->Rs}{c:aM->Rd}{bd:aM->U6->b8}(L:∀m de lv env A,Inv lo RR m de lv env A->match c de with |.ok d=>∃w m1,J env m=.ok w m1/\Le m m1/\ai RR m1 d w |.no=>True)
  (M:∀m de lv env A,Inv lo RR m de lv env A->aI lo RR A m (bw env m) (bd de lv)):∀(k:Nat) (m:Me) (de:aM) (lv:U6) (env:En) (A:O9),Inv lo RR m de lv env A->aI lo RR A m (jZ J bw k env m) (xa c bd k de lv)
 |0,m,de,lv,env,A,I=>trivial
 |k+1,m,de,lv,env,A,I=>by
  have h:=L m de lv env A I;unfold jZ xa;cases z:c de with
  |no=>trivial
  |ok d=>
   rw[z]at h;obtain⟨w,m1,O,E,Q⟩:=h;rw[O];cases d with
   |bl b=>
    rw[ah.mp Q];cases b with
    |false=>exact⟨env,m1,A,rfl,I.ext E,kL E⟩
    |true=>
     have G:=M m1 de lv env A (I.ext E);refine aI.keep (kL E) ?_;simp only;cases N:bd de lv with
     |next d1 U=>
      rw[N]at G;obtain⟨Y,m2,j,H,q,u⟩:=G;rw[H];exact aI.keep u (qN L M k m2 d1 U Y j q)
     |ret d l=>
      rw[N]at G;obtain⟨w,m2,B,H,k⟩:=G;rw[H];exact⟨w,m2,B,rfl,k⟩
     |no=>trivial
   |_=>trivial
set_option tactic.hygienic true in
set_option tactic.hygienic true in
def Fx (H:bH lev cl cd)(I:Inv lo RR m de lv env A)(e:Ex):aI lo RR A m (bJ cl (.ret e) env m) (aG lev cd (.ret e) de lv):=by
 show aI _ _ _ _ ((ae cl e env m).bindS env _) ((aj cd e de).bindS _);cases z:aj cd e de with
 |no=>trivial
 |ok d=>
  obtain⟨w,m1,G,M,N⟩:=I.ok H.r z (Le.refl m);rw[G];show aI lo RR A m (.ret w m1) (.ret d (cc lev e d lv));have kp:(∀(x:Nat) o,(∀i,x∉A i)->m[x]?=some o->m1[x]?=some o)/\m.length<=m1.length:=⟨λx o _ b=>M x o b,M.len⟩;by_cases f:aF d=true
  .refine ⟨w,m1,[],rfl,kp,?_,Q7,by simp⟩;unfold cc;rw[OB f];exact N.flat d w f
  .have O:cc lev e d lv=bI lev e d->aI lo RR A m (.ret w m1) (.ret d (cc lev e d lv)):=λh=>by
    rw[h];obtain⟨B,J,nd,Q⟩:=I.own H z G;exact⟨w,m1,B,rfl,kp,J,nd,λb L=>Qx I.lom (Q b L)⟩
   cases e with
   |V i=>
    rw[show cc lev (.V i) d lv=(lv[i]?).getD .no from OC f];have E:=uX z;obtain⟨l,hl⟩:=I.getlv E;obtain⟨Y,U,J⟩:=I.slot i d l E hl;rw[qK U m]at G;cases G;rw[hl];refine⟨_,_,A i,rfl,kp,?_,I.nd i,λb L=>(I.bd i b L).1⟩;exact J.frame (λx o r z=>⟨⟨r.1,r.2 i⟩,z⟩) (λ_ _ _ z=>z)
   |_=>exact O (OC f)
set_option tactic.hygienic true in
theorem vg(H:bH lev cl cd):∀(s:Sm) (m:Me) (de:aM) (lv:U6) (env:En) (A:O9),Inv lo RR m de lv env A->aI lo RR A m (bJ cl s env m) (aG lev cd s de lv)
 |.skip,m,de,lv,env,A,I=>by show aI _ _ _ _ (.next env m) (.next de lv);exact⟨env,m,A,rfl,I,bj.refl A m⟩
 |.seq a b,m,de,lv,env,A,I=>by
  have h:=vg H a m de lv env A I;rw[uK];show aI _ _ _ _ (match bJ cl a env m with
   |.next N m1=>bJ cl b N m1
   |r=>r) _
  cases z:aG lev cd a de lv with
  |next d1 G=>
   rw[z]at h;obtain⟨N,m1,Q,J,L,M⟩:=h;rw[J];exact aI.keep M (vg H b m1 d1 G N Q L)
  |ret d l=>
   rw[z]at h;obtain⟨w,m1,B,J,k⟩:=h;rw[J];exact⟨w,m1,B,rfl,k⟩
  |no=>trivial
 |.a i e,m,de,lv,env,A,I=>GW H I i e
 |.dput j k e,m,de,lv,env,A,I=>Ii H I j k e
 |.forD i x E,m,de,lv,env,A,I=>Ih (cl:=cl) (bw:=λx e m=>bJ cl E (e.set i (some x)) m) (bd:=λx de lv=>aG lev cd E (de.set i (some x)) (lv.set i (aY x))) (λx w m de lv env A I r=>by
   obtain⟨L,M⟩:=I.bindSlot i r;exact aI.keep M (vg H E m _ _ _ _ L)) I x
 |.aug i U e,m,de,lv,env,A,I=>GT H I i U e
 |.ite c a b,m,de,lv,env,A,I=>by
  refine I.bindE H.r c λd w m1 _ _ G O=>?_;cases d with
  |bl t=>
   rw[ah.mp O];cases t with
   |true=>exact vg H a m1 de lv env A (I.ext G)
   |false=>exact vg H b m1 de lv env A (I.ext G)
  |_=>trivial
 |.forv i Y E,m,de,lv,env,A,I=>by
  refine Fy H (λx w m de lv env A I r=>?_) I Y;obtain⟨L,M⟩:=I.bindSlot i r;exact aI.keep M (vg H E _ _ _ _ _ L)
 |.while c E,m,de,lv,env,A,I=>by
  refine qN (λm de lv env A I=>?_) (λm de lv env A I=>vg H E m de lv env A I) _ m de lv env A I;have h:=zq H.r c RR m de env (I.envR _);cases z:aj cd c de with
  |no=>trivial
  |ok d=>rw[z]at h;obtain⟨w,m1,J,G,O⟩:=h;exact⟨w,m1,J,G,I.rf O⟩
 |.ret e,m,de,lv,env,A,I=>Fx H I e
 |.expr e,m,de,lv,env,A,I=>by
  have dflt:aI lo RR A m (bJ cl (.expr e) env m) ((aj cd e de).bindS λ_=>.next de lv):=by
   exact I.bindE H.r e λd w m1 _ _ G _=>⟨env,m1,A,rfl,I.ext G,bj.refl A m1⟩
  cases e with
  |meth n o a=>
   cases o with
   |V j=>
    cases n with
    |append=>
     cases a with
     |p x y=>
      cases y with
      |u=>exact Il H I j x
      |_=>exact trivial
     |_=>exact trivial
    |extend=>
     cases a with
     |p x y=>
      cases y with
      |u=>exact Ij H I j x
      |_=>exact trivial
     |_=>exact trivial
    |reverse=>
     cases a with
     |u=>exact Ik (cl:=cl) (cd:=cd) (lev:=lev) I j
     |_=>exact trivial
   |_=>cases n<;>exact trivial
  |_=>exact dflt
 |.never,m,de,lv,env,A,I=>by exact trivial
end
def qO{A B:Type}(f:A->B)(z:B)(xs:List A)(n i:Nat):(xs.map f++QI n z)[i]?=if i<xs.length then(xs[i]?).map f else if i<xs.length+n then some z else none:=by
 rw[List.getElem?_append,Qi];split
 .rw[Qq]
 .rw[Vs];by_cases h:i-xs.length<n
  .rw[OB h,OB (by lia)]
  .rw[OC h,OC (by lia)]
set_option tactic.hygienic true in
def Jx (E:Fn)(h:ab R m G ws):Inv m.length (Rf R m.length) m (xD E G) (xp E G) (wH E ws) (λ_=>[]):=by
 have hl:=h.len;refine⟨?_,?_,λl hl=>.inr hl,Qh _,?_,λ_=>Q7,(λ_ _ _ h=>by cases h),(λ_ _ h=>by cases h)⟩
 .simp[xD,wH,hl]
 .simp[xD,xp]
 .intro i d l A B;unfold xD at A;unfold xp at B;rw[qO]at A B;by_cases H:i<G.length
  .rw[OB H]at A B;obtain⟨M,I,J⟩:=QF.mp A;cases J;rw[I]at B;cases B;obtain⟨w,L,r⟩:=h.get I;refine⟨w,?_,?_⟩
   .unfold wH;rw[qO,OB (by lia),L];rfl
   .unfold aY;split
    .next f=>exact r.flat d w f
    .exact ⟨ai.frame (λx o r z=>⟨⟨.inl r,λ_ h=>by cases h⟩,z⟩) _ _ r,rfl⟩
  .rw[OC H]at A;split at A<;>cases A
set_option tactic.hygienic true in
def Fw (H:bH lev cl cd)(k:Nat)(A:Fn)(E:T7)(ws:U4)(R:S7)(m:Me)(h:ab R m E ws):aT R m (vf lev k) (eG cl A ws m) (zL lev cd k A E):=by
 unfold eG zL;rw[h.len];split
 .have s:=vg H A.body m _ _ _ _ (Jx A h);cases z:aG lev cd A.body (xD A E) (xp A E)with
  |next d1 N=>
   rw[z]at s;obtain⟨O,m1,Q,I,U,L⟩:=s;rw[I];refine⟨.N,m1,[],rfl,λl o q=>(L.1 l o (λ_ h=>by cases h) q).2,?_,Q7,by simp⟩;unfold vf bu bi;simp[aF]
  |ret d l=>
   rw[z]at s;obtain⟨w,m1,B,I,⟨kp,_⟩,G,nd,J⟩:=s;rw[I];have le:Le m m1:=λl o q=>kp l o (λ_ h=>by cases h) q;show aT R m (vf lev k) (.ok w m1) (if aF d || xY l (lev k)then .ok d else .no);split
   .next c=>
    by_cases f:aF d=true
    .refine ⟨w,m1,[],rfl,le,?_,Q7,by simp⟩;unfold vf;rw[OB f];exact(G.rep (R':=λ_=>True) (λ_ _=>trivial) (λ_ _=>trivial)).flat d w f
    .have g:xY l (lev k)=true:=by simpa [f]using c
     unfold aT vf;simp only[OC f];cases e:lev k with
     |no=>
      refine⟨w,m1,[],rfl,le,⟨?_,rfl⟩,Q7,by simp⟩;exact G.rep (λx r=>⟨r.1,by simp⟩) (λb M=>⟨.inr (J b M),by simp⟩)
     |top=>
      rw[e]at g;cases l with
      |top=>exact⟨w,m1,B,rfl,le,G,nd,J⟩
      |no=>cases g
      |F=>cases g
     |F=>
      rw[e]at g;cases l with
      |F=>exact⟨w,m1,B,rfl,le,G,nd,J⟩
      |no=>cases g
      |top=>cases g
   .trivial
  |no=>trivial
 .trivial
theorem At(lev:U7)(T:List Fn):∀d:Nat,bH lev (xF T d) (gK lev T d)
 |0=>λk A B R m h=>trivial
 |d+1=>λk A B R m h=>by
  unfold xF gK;cases T[k]? with
  |none=>trivial
  |some E=>exact Fw (At lev T d) k E A B R m h
def Fv(lev:U7)(T:List Fn)(d i:Nat)(A:T6)(h:gK lev T d i [.scr A]=.ok (.bl true)):∃m,xF T d i [.rol (A.map Wd.int)] []=.ok (.bl true) m:=by
 have s:=At lev T d i [.scr A] [.rol (A.map Wd.int)] (λ_=>True) [] (.cons (bv.mpr rfl) .nil);rw[h]at s;obtain⟨w,E,B,_,r⟩:=s.sim;rw[ah.mp r]at B;exact⟨E,B⟩
section
variable(lev:U7)(cl:O5)(de:aM)(lv:U6)
@[simp]theorem aH(d:Dat)(f:Dat->Rd):(Rd.ok d).bind f=f d:=rfl
@[simp]theorem a7(d:Dat)(f:Dat->b8):(Rd.ok d).bindS f=f d:=rfl
@[simp]theorem dT(d:Dat)(f:Dat->b8):(Rd.ok d).okS f=f d:=rfl
@[simp]theorem zn(i:Int):aj cl (.lit (.int i)) de=.ok (.int i):=rfl
@[simp]theorem Jw(i:Bool):aj cl (.lit (.bl i)) de=.ok (.bl i):=rfl
@[simp]theorem yq:aj cl (.lit .N) de=.ok .N:=rfl
@[simp]theorem yr(s:T9):aj cl (.lit (.str s)) de=.ok (.str s):=rfl
@[simp]theorem zE(op:Bo)(a b:Ex):aj cl (.bin op a b) de=(aj cl a de).bind λx=>(aj cl b de).bind λy=>zZ op x y:=rfl
@[simp]theorem zX(op:Co)(a b:Ex):aj cl (.cmp op a b) de=(aj cl a de).bind λx=>(aj cl b de).bind λy=>yH op x y:=rfl
@[simp]theorem zr:aj cl .u de=.ok (.T []):=rfl
@[simp]theorem zt(a b:Ex):aj cl (.p a b) de=(aj cl a de).bind λx=>(aj cl b de).bind λy=>.ok (.T (x::xh y)):=rfl
@[simp]theorem zB(k:Nat)(a:Ex):aj cl (.call k a) de=(aj cl a de).bind λx=>cl k (xh x):=rfl
@[simp]theorem xr(b:eD)(a:Ex):aj cl (.blt b a) de=(aj cl a de).bind λx=>xf b (xh x):=rfl
@[simp]theorem LM(t:Tg)(a:Ex):aj cl (.isi t a) de=(aj cl a de).bind λx=>ve (lQ t x):=rfl
@[simp]theorem yz(a b:Ex):aj cl (.i a b) de=(aj cl a de).bind λx=>(aj cl b de).bind λy=>yh x y:=rfl
@[simp]theorem xE(a:Ex):aj cl (.L a) de=(aj cl a de).bind λx=>bh (xh x):=rfl
@[simp]theorem jf(a:Ex):aj cl (.T a) de=(aj cl a de).bind λx=>if(xh x).length<=ao then .ok (.T (xh x))else .no:=rfl
@[simp]theorem vh(a b c:Ex):aj cl (.rng a b c) de=(aj cl a de).bind λx=>(aj cl b de).bind λy=>(aj cl c de).bind λz=>kG x y z:=rfl
@[simp]theorem zm(d:Dat)(r:aM):aj cl (.V 0) (some d::r)=.ok d:=rfl
@[simp]theorem zl(i:Nat)(d:R8)(r:aM):aj cl (.V (i+1)) (d::r)=aj cl (.V i) r:=rfl
@[simp]theorem xT(a:Ex):aj cl (.neg a) de=(aj cl a de).bind λx=>match x with
  |.int i=>.ok (.int (-i))
  |_=>.no:=rfl
@[simp]theorem wf(a:Ex):aj cl (.not a) de=(aj cl a de).bind λx=>match x with
  |.bl b=>.ok (.bl (! b))
  |_=>.no:=rfl
@[simp]theorem yY(a b:Ex):aj cl (.and a b) de=(aj cl a de).bind λx=>match x with
  |.bl true=>aj cl b de
  |.bl false=>.ok (.bl false)
  |_=>.no:=rfl
@[simp]theorem sd(a b:Ex):aj cl (.or a b) de=(aj cl a de).bind λx=>match x with
  |.bl false=>aj cl b de
  |.bl true=>.ok (.bl true)
  |_=>.no:=rfl
@[simp]theorem As(p q:Co)(a b c:Ex):aj cl (.chain p q a b c) de=(aj cl a de).bind λx=>(aj cl b de).bind λy=>(yH p x y).bind λz=>match z with
  |.bl true=>(aj cl c de).bind λu=>yH q y u
  |.bl false=>.ok (.bl false)
  |_=>.no:=rfl
@[simp]theorem jg(c a b:Ex):aj cl (.ife c a b) de=(aj cl c de).bind λx=>match x with
  |.bl true=>aj cl a de
  |.bl false=>aj cl b de
  |_=>.no:=rfl
@[simp]theorem D5(a lo:Ex):aj cl (.slL a lo) de=(aj cl a de).bind λx=>(aj cl lo de).bind λy=>match y with
  |.int i=>dW x (some i) none
  |_=>.no:=rfl
@[simp]theorem Fu(a:Ex):aj cl (.lrng a) de=(aj cl a de).bind λx=>match x with
  |.int j=>if -ao<=j/\j<=ao then bh (yA 0 1 j.toNat)else .no
  |_=>.no:=rfl
def wN(elt it cond:Ex):aj cl (.comp elt it cond) de=(aj cl it de).bind λx=>match di x with
  |some A=>y7 (λx=>aj cl cond (de++[some x])) (λx=>aj cl elt (de++[some x])) A []
  |none=>.no:=rfl
def vj(k:Kd)(elt a b cond:Ex):aj cl (.compP k elt a b cond) de=(aj cl a de).bind λx=>(aj cl b de).bind λy=>match xo k x y with
  |some A=>y7 (λp=>aj cl cond (de++[some p.1]++[some p.2])) (λp=>aj cl elt (de++[some p.1]++[some p.2])) A []
  |none=>.no:=rfl
@[simp]theorem LL(a b:Int):dO (.int a) (.int b)=decide (a=b):=rfl
@[simp]theorem LK(a b:T7):dO (.T a) (.T b)=cH a b:=rfl
@[simp]theorem Md(k:Nat)(a:Int):wL (k+1) (.int a)=true:=rfl
@[simp]theorem Mc(k:Nat)(a:T7):wL (k+1) (.T a)=aZ k a:=rfl
@[simp]theorem Mp(k:Nat):aZ k []=true:=rfl
@[simp]theorem Mu(k:Nat)(d:Dat)(a:T7):aZ k (d::a)=(wL k d&&aZ k a):=rfl
theorem vH(k:Nat):∀(a:T7),aZ k a=a.all (wL k)
 |[]=>by simp
 |d::a=>by simp[vH k a]
@[simp]theorem LZ:yT=11+1:=rfl
@[simp]theorem qP(i j:Int):yH .lt (.int i) (.int j)=.ok (.bl (decide (i<j))):=rfl
@[simp]theorem r9(i j:Int):yH .le (.int i) (.int j)=.ok (.bl (decide (i<=j))):=rfl
@[simp]theorem CF(i j:Int):yH .gt (.int i) (.int j)=.ok (.bl (decide (j<i))):=rfl
@[simp]theorem xi(i j:Int):yH .eq (.int i) (.int j)=.ok (.bl (decide (i=j))):=rfl
@[simp]theorem B3(i j:Int):yH .ne (.int i) (.int j)=.ok (.bl (! decide (i=j))):=rfl
@[simp]theorem D4(i j:Bool):yH .eq (.bl i) (.bl j)=.ok (.bl (i==j)):=rfl
@[simp]theorem LJ(i j:Bool):yH .ne (.bl i) (.bl j)=.ok (.bl (!(i==j))):=rfl
@[simp]theorem yC(i j:Int):zZ .add (.int i) (.int j)=.ok (.int (i+j)):=rfl
@[simp]theorem xb(i j:Int):zZ .sub (.int i) (.int j)=.ok (.int (i-j)):=rfl
def yG(i j:Int)(h:xg i=true):zZ .mul (.int i) (.int j)=.ok (.int (i*j)):=by simp[zZ,h]
def Ft(i j:Int)(h:xg j=true):zZ .mul (.int i) (.int j)=.ok (.int (i*j)):=by simp[zZ,h]
def vI(i j:Int)(h:0<j)(k:j<1073741824):zZ .fdiv (.int i) (.int j)=.ok (.int (i/j)):=by simp[zZ,h,k]
def xU(i j:Int)(h:0<j):zZ .mod (.int i) (.int j)=.ok (.int (i%j)):=by simp[zZ,h]
def tm(i j:Int)(h:0<=j/\j<=1000000/\xg i=true):zZ .pow (.int i) (.int j)=.ok (.int (i^j.toNat)):=by simp only[zZ];rw[OB h]
def kN (h:-18446744073709551616<i)(k:i<18446744073709551616):xg i=true:=by unfold xg cN;simp[h,k]
@[simp]theorem zp(xs:T7):xh (.T xs)=xs:=rfl
@[simp]theorem LY(xs:T7):xf .len [.L xs]=.ok (.int xs.length):=rfl
@[simp]theorem LX(xs:T7):xf .len [.T xs]=.ok (.int xs.length):=rfl
@[simp]theorem LW(A:T6):xf .len [.scr A]=.ok (.int A.length):=by simp[xf,xX]
@[simp]theorem LI(b:Bool):xf .int [.bl b]=.ok (.int (b2i b)):=rfl
def yZ (h:xs.length<=ao):bh xs=.ok (.L xs):=by unfold bh;rw[OB h]
def tj (h:i<n):ix n (i:Int)=some i:=by unfold ix;rw[OB (by lia),OB (by lia)];simp
def Fs (h:0<n):ix n (-1)=some (n-1):=by unfold ix;rw[OC (by lia),OB (by lia)];congr 1;lia
def og {i:Nat}(h:xs[i]?=some d):yh (.L xs) (.int (i:Int))=.ok d:=by
 have:=(Qa.mp h).1;simp[yh,xX,tj this,h]
def vJ (h:xs[xs.length-1]?=some d):yh (.L xs) (.int (-1))=.ok d:=by
 have:=(Qa.mp h).1;simp[yh,xX,Fs (show 0<xs.length by lia),h]
def lH {a b:Int}(h:-ao<=a/\a<=ao/\-ao<=b/\b<=ao/\(c=1\/c=-1\/c=-2\/c=2)):kG (.int a) (.int b) (.int c)=.ok (.T (yA a c (eI a b c))):=by
 simp only[kG];rw[OB h]
@[simp]theorem Ar(a c:Int)(n:Nat):(yA a c n).length=n:=by simp[yA]
def wD(a c:Int)(n i:Nat)(h:i<n):(yA a c n)[i]?=some (.int (a+c*(i:Int))):=by
 simp[yA,h]
@[simp]theorem kO(xs:T7):aF (.T xs)=aO xs:=by rw[aF]
@[simp]theorem Aq(xs:T7):aF (.L xs)=false:=by rw[aF]
@[simp]theorem Mb(i:Int):aF (.int i)=true:=by rw[aF]
@[simp]theorem LV(i:Bool):aF (.bl i)=true:=by rw[aF]
@[simp]theorem Ma:aF .N=true:=by rw[aF]
@[simp]theorem L9(s:T9):aF (.str s)=true:=by rw[aF]
@[simp]theorem L8(s:T6):aF (.scr s)=true:=by rw[aF]
@[simp]theorem Mo:aO []=true:=by rw[aO]
@[simp]theorem gL(d:Dat)(A:T7):aO (d::A)=(aF d&&aO A):=by rw[aO]
@[simp]theorem Mt(l:T6):aO (l.map Dat.int)=true:=by
 induction l with
 |nil=>rfl
 |cons x l A=>simp[A]
@[simp]theorem vk(xs:T7):di (.T xs)=some xs:=rfl
@[simp]theorem LH(xs:T6):di (.scr xs)=some (xs.map .int):=rfl
def wO (h:xs.length<=ao):di (.L xs)=some xs:=by simp[di,h]
@[simp]theorem yS:aG lev cl .skip de lv=.next de lv:=rfl
@[simp]theorem zQ(e:Ex):aG lev cl (.ret e) de lv=(aj cl e de).bindS λd=>.ret d (cc lev e d lv):=rfl
@[simp]theorem zR(i:Nat)(e:Ex):aG lev cl (.a i e) de lv=(aj cl e de).bindS λd=>we lev i e d de lv:=rfl
@[simp]theorem y6(c:Ex)(a b:Sm):aG lev cl (.ite c a b) de lv=(aj cl c de).bindS λx=>match x with
  |.bl true=>aG lev cl a de lv
  |.bl false=>aG lev cl b de lv
  |_=>.no:=rfl
def yo {lev:U7}{de:aM}{lv:U6}(h:aF d=true):we lev i e d de lv=.next (de.set i (some d)) (lv.set i .F):=by
 unfold we;rw[OB (xS lev e d h)]
def AR {lev:U7}{de:aM}{lv:U6}:∃A,we lev i e d de lv=.next (de.set i (some d)) A:=by
 unfold we;split<;>exact⟨_,rfl⟩
theorem jh:∀A:T7,aO A=A.all aF
 |[]=>by rw[aO];rfl
 |d::A=>by rw[aO,jh A];rfl
def xV {lev:U7}{de:aM}{lv:U6}(h:bI lev e d=.F):we lev i e d de lv=.next (de.set i (some d)) (lv.set i .F):=by
 unfold we;rw[OB h]
def yL {body:H->aM->U6->b8}(P:Nat->aM->U6->Prop)(xs:List H){de:aM}{lv:U6}(E:P 0 de lv)(G:∀(i:Nat) x de lv,xs[i]?=some x->P i de lv->∃A B,body x de lv=.next A B/\P (i+1) A B):∃A B,yN body xs de lv=.next A B/\P xs.length A B:=by
 induction xs generalizing P de lv with
 |nil=>exact⟨de,lv,rfl,E⟩
 |cons x xs I=>
  obtain⟨d1,O,J,L⟩:=G 0 x de lv rfl E;unfold yN;rw[J];exact I (λi=>P (i+1)) L (λi y de lv M N=>G (i+1) y de lv (by simpa using M) N)
end
namespace Lib
section
variable{lev:U7}{cl:O5}{k:Nat}
noncomputable def lG:Fn:=⟨1,1,(.ret (.and (.isi .int (.V 0)) (.not (.isi .bool (.V 0)))))⟩
def Jv(i:Int):zL lev cl k lG [.int i]=.ok (.bl true):=by
 simp[zL,lG,xD,xp,zJ,lQ,ve,cc]
end
end Lib
section
variable(lev:U7)(cl:O5)(de:aM)(lv:U6)
@[simp]theorem D3(i:Nat)(op:Bo)(e:Ex):aG lev cl (.aug i op e) de lv=match de[i]? with
  |some (some (.int a))=>(aj cl e de).okS λy=>match y with
   |.int b=>(zZ op (.int a) (.int b)).okS λz=>.next (de.set i (some z)) (lv.set i .F)
   |_=>.no
  |_=>.no:=rfl
@[simp]theorem wP(j:Nat)(e:Ex):aG lev cl (.expr (.meth .append (.V j) (.p e .u))) de lv=(aj cl e de).okS λd=>match wM de j with
   |some E=>if E.length<ao then match xG lev e d j de lv with
    |some (A,B)=>.next (A.set j (some (.L (E++[d])))) B
    |none=>.no
    else .no
   |none=>.no:=rfl
@[simp]theorem Fq(j:Nat):aG lev cl (.expr (.meth .reverse (.V j) .u)) de lv=match wM de j with
   |some A=>if yy lv j then .next (de.set j (some (.L A.reverse))) lv else .no
   |none=>.no:=rfl
def wg(i:Nat)(it:Ex)(body:Sm):aG lev cl (.forv i it body) de lv=(aj cl it de).bindS λd=>match di d with
  |some A=>yN (λx de lv=>aG lev cl body (de.set i (some x)) (lv.set i (aY x))) A de (if aF d then lv else xC it de lv)
  |none=>.no:=rfl
noncomputable def b8.then(r:b8)(f:aM->U6->b8):b8:=match r with
 |.next d l=>f d l
 |r=>r
@[simp]theorem zo(d:aM)(l:U6)(f:aM->U6->b8):(b8.next d l).then f=f d l:=rfl
@[simp]theorem L7(d:Dat)(l:Lv)(f:aM->U6->b8):(b8.ret d l).then f=.ret d l:=rfl
def ye (h:yW a b=none):aG lev cl (.seq a b) de lv=(aG lev cl a de lv).then (aG lev cl b):=by
 rw[uK];cases aG lev cl a de lv<;>rfl
def Ig(a:Sm)(c d:Sm):yW a (.seq c d)=none:=rfl
@[simp]theorem zS(a:Sm)(c d:Sm):aG lev cl (.seq a (.seq c d)) de lv=(aG lev cl a de lv).then (aG lev cl (.seq c d)):=ye lev cl de lv (Ig a c d)
def Ie(a:Sm)(e:Ex):yW a (.ret e)=none:=rfl
@[simp]theorem yf(a:Sm)(e:Ex):aG lev cl (.seq a (.ret e)) de lv=(aG lev cl a de lv).then (aG lev cl (.ret e)):=ye lev cl de lv (Ie a e)
def Ic(a:Sm)(c:Ex)(x y:Sm):yW a (.ite c x y)=none:=rfl
@[simp]theorem L4(a:Sm)(c:Ex)(x y:Sm):aG lev cl (.seq a (.ite c x y)) de lv=(aG lev cl a de lv).then (aG lev cl (.ite c x y)):=ye lev cl de lv (Ic a c x y)
def Ju(a:Sm)(i:Nat)(e:Ex)(x:Sm):yW a (.forv i e x)=none:=rfl
@[simp]theorem LU(a:Sm)(i:Nat)(e:Ex)(x:Sm):aG lev cl (.seq a (.forv i e x)) de lv=(aG lev cl a de lv).then (aG lev cl (.forv i e x)):=ye lev cl de lv (Ju a i e x)
def Km(a:Sm)(e:Ex)(x:Sm):yW a (.while e x)=none:=rfl
@[simp]theorem L6(a:Sm)(e:Ex)(x:Sm):aG lev cl (.seq a (.while e x)) de lv=(aG lev cl a de lv).then (aG lev cl (.while e x)):=ye lev cl de lv (Km a e x)
def Ib(a:Sm)(i:Nat)(e:Ex):yW a (.a i e)=none:=rfl
@[simp]theorem tf(a:Sm)(i:Nat)(e:Ex):aG lev cl (.seq a (.a i e)) de lv=(aG lev cl a de lv).then (aG lev cl (.a i e)):=ye lev cl de lv (Ib a i e)
def Ia(a:Sm)(i:Nat)(op:Bo)(e:Ex):yW a (.aug i op e)=none:=rfl
@[simp]theorem L3(a:Sm)(i:Nat)(op:Bo)(e:Ex):aG lev cl (.seq a (.aug i op e)) de lv=(aG lev cl a de lv).then (aG lev cl (.aug i op e)):=ye lev cl de lv (Ia a i op e)
def J0(a:Sm)(e:Ex):yW a (.expr e)=none:=rfl
@[simp]theorem oe(a:Sm)(e:Ex):aG lev cl (.seq a (.expr e)) de lv=(aG lev cl a de lv).then (aG lev cl (.expr e)):=ye lev cl de lv (J0 a e)
def JZ(a:Sm): yW a .skip=none:=rfl
@[simp]theorem LS(a:Sm): aG lev cl (.seq a .skip) de lv=(aG lev cl a de lv).then (aG lev cl .skip):=ye lev cl de lv (JZ a)
def Kl(a:Sm): yW a .never=none:=rfl
@[simp]theorem L5(a:Sm): aG lev cl (.seq a .never) de lv=(aG lev cl a de lv).then (aG lev cl .never):=ye lev cl de lv (Kl a)
end
namespace Lib
section
noncomputable def row(r:T6):Dat:=.L (r.map .int)
noncomputable def aq(R:O7):Dat:=.L (R.map row)
noncomputable def jv(t:Int)(b:Bool):Bool:=if b then ! decide (t=1)else !(decide (t=0) || decide (t=1))
end
end Lib
namespace Lib
section
noncomputable def S(R:O7)(r c:Nat):Int:=((R.take r).map (λx=>x.getD c 0)).sum
def ac(R:O7)(r c:Nat):Int:=((R.getD r []).take c).sum
noncomputable def lY(R:O7)(r c:Nat):Bool:=jv (ac R r (c+1)) (decide ((c:Int)=(R.length:Int)-1)) || jv (S R (r+1) c) (decide ((r:Int)=(R.length:Int)-1))
noncomputable def Sq(R:O7):Prop:=∀r∈R,r.length=R.length
def Fp {r:Nat}(h:R[r]?=some x):yh (aq R) (.int (r:Int))=.ok (row x):=og (by simp[h])
def jI {c:Nat}(h:x[c]?=some v):yh (row x) (.int (c:Int))=.ok (.int v):=og (by simp[h])
def nz(R:O7)(r c:Nat)(x:T6)(h:R[r]?=some x):S R (r+1) c=S R r c+x.getD c 0:=by
 unfold S;rw[Wp,h];simp
end
end Lib
namespace Lib
section
variable{lev:U7}{cl:O5}{k:Nat}
noncomputable def kP:Fn:=⟨1,1,(.seq (.ite (.cmp .eq (.bin .mod (.V 0) (.lit (.int 8))) (.lit (.int 5))) (.ret (.bin .add (.lit (.int 1)) (.bin .mod (.bin .fdiv (.V 0) (.lit (.int 8))) (.lit (.int 12))))) .skip) (.ret (.bin .add (.lit (.int 1)) (.bin .mod (.bin .fdiv (.V 0) (.lit (.int 8))) (.lit (.int 6))))))⟩
def Kk(c:Int):∃n:Nat,1<=n/\n<=12/\zL lev cl k kP [.int c]=.ok (.int n):=by
 have A:zZ .mod (.int c) (.int 8)=.ok (.int (c%8)):=xU _ _ (by decide);have B:zZ .fdiv (.int c) (.int 8)=.ok (.int (c/8)):=vI _ _ (by decide) (by decide);have E:∀x:Int,zZ .mod (.int x) (.int 12)=.ok (.int (x%12)):=λx=>xU _ _ (by decide);have G:∀x:Int,zZ .mod (.int x) (.int 6)=.ok (.int (x%6)):=λx=>xU _ _ (by decide);by_cases h:c%8=5
 .refine ⟨(1+c/8%12).toNat,by lia,by lia,?_⟩;have:(((1+c/8%12).toNat:Nat):Int)=1+c/8%12:=by lia
  simp[zL,kP,xD,xp,zJ,cc,A,B,E,G,h,this]
 .refine ⟨(1+c/8%6).toNat,by lia,by lia,?_⟩;have:(((1+c/8%6).toNat:Nat):Int)=1+c/8%6:=by lia
  simp[zL,kP,xD,xp,zJ,cc,A,B,E,G,h,this]
noncomputable def dJ(x:T6):Prop:=∀i,i+1<x.length->x.getD i 0<x.getD (i+1) 0
noncomputable def io(cN A:T6):Prop:=cN.length=A.length+1/\∀i,i<A.length->cN.getD i 0<=A.getD i 0/\A.getD i 0<=cN.getD (i+1) 0
def vK {x:T6}(h:x[i]?=some v):x.getD i 0=v:=by rw[Qg,h];rfl
def gM {x:T6}(h:i<x.length):x[i]?=some (x.getD i 0):=by
 rw[Qg,Qj h];rfl
end
end Lib
namespace Lib
section
def x9 {v:Int}(h:i<x.length):(x++[v]).getD i 0=x.getD i 0:=by
 simp[Qg,Qf h]
def jw {v:Int}:(x++[v]).getD x.length 0=v:=by
 simp[Qg]
def KT {v:T6}(h:i<x.length):(x++[v]).getD i []=x.getD i []:=by
 simp[Qg,Qf h]
def xJ {v:T6}:(x++[v]).getD x.length []=v:=by
 simp[Qg]
def dJ.app{x:T6}{v:Int}(h:dJ x)(A:0<x.length->x.getD (x.length-1) 0<v):dJ (x++[v]):=by
 intro i B;simp only[Qw,Wx,List.length_nil]at B;by_cases z:i+1<x.length
 .rw[x9 (by lia),x9 z];exact h i z
 .have e:i+1=x.length:=by lia
  rw[x9 (by lia),e,jw];have:=A (by lia)
  rwa[show x.length-1=i by lia]at this
noncomputable def yP(n:Nat):T6:=(QA n).map λ(i:Nat)=>(i:Int)
def Kj(n:Nat):Dat.L (yA 0 1 n)=row (yP n):=by
 unfold row yP yA;rw[QQ];congr 1;apply Vh;intro i _;simp
structure dx(n:Nat)(L:O7):Prop where
 first:L.getD 0 []=yP n
 len:∀j,j<L.length->(L.getD j []).length+j=n
 inc:∀j,j<L.length->dJ (L.getD j [])
 bd:∀j,j<L.length->∀i,i<(L.getD j []).length->0<=(L.getD j []).getD i 0/\(L.getD j []).getD i 0<n
 lace:∀j,j+1<L.length->io (L.getD j []) (L.getD (j+1) [])
def vY (h:i<n):(yP n).getD i 0=i:=vK (by simp[yP,h])
def dx.one(n:Nat):dx n [yP n]:=by
 refine⟨rfl,?_,?_,?_,?_⟩
 .intro j hj;simp at hj;subst hj;simp[yP]
 .intro j hj i A;simp at hj;subst hj;simp only[VO]at A ⊢;have:i+1<n:=by simpa [yP]using A
  rw[vY (by lia),vY this];lia
 .intro j hj i A;simp at hj;subst hj;simp only[VO]at A ⊢;have:i<n:=by simpa [yP]using A
  rw[vY this];lia
 .intro j hj;simp at hj
def dx.app{n:Nat}{L:O7}{x:T6}(h:dx n L)(B:0<L.length)(E:dJ x)(hl:io (L.getD (L.length-1) []) x):dx n (L++[x]):=by
 have e:=h.len (L.length-1) (by lia);have lt:∀{j},j<L.length->(L++[x]).getD j []=L.getD j []:=λhj=>KT hj;refine⟨by rw[lt B];exact h.first,?_,?_,?_,?_⟩
 .intro j hj;by_cases z:j<L.length
  .rw[lt z];exact h.len j z
  .have:j=L.length:=by simp at hj;lia
   subst this;rw[xJ];have:=hl.1;lia
 .intro j hj;by_cases z:j<L.length
  .rw[lt z];exact h.inc j z
  .have:j=L.length:=by simp at hj;lia
   subst this;rw[xJ];exact E
 .intro j hj i A;by_cases z:j<L.length
  .rw[lt z]at A ⊢;exact h.bd j z i A
  .have:j=L.length:=by simp at hj;lia
   subst this;rw[xJ]at A ⊢;have H:=hl.2 i A;have I:=h.bd (L.length-1) (by lia) i (by have:=hl.1;lia);have J:=h.bd (L.length-1) (by lia) (i+1) (by have:=hl.1;lia);lia
 .intro j hj;simp only[Qw,Wx,List.length_nil]at hj;by_cases z:j+1<L.length
  .rw[lt (by lia),lt z];exact h.lace j z
  .have G:j+1=L.length:=by lia
   rw[lt (by lia),G,xJ]
   rwa[show L.length-1=j by lia]at hl
end
end Lib
namespace Lib
section
theorem yM {c e:H->Rd}{A:Type}(f:A->H)(g:A->Dat):∀(xs:List A) (acc:T7),(∀x∈xs,c (f x)=.ok (.bl true))->(∀x∈xs,e (f x)=.ok (g x))->acc.length+xs.length<=ao->y7 c e (xs.map f) acc=.ok (.L (acc++xs.map g))
 |[],acc,_,_,h=>by unfold y7;rw[Vu];simp only;rw[yZ (by simpa using h)];simp
 |x::xs,acc,E,G,h=>by
  rw[QJ];unfold y7;simp only[Wx]at h;rw[E x (by simp)];simp only[aH];rw[G x (by simp)];simp only[aH];rw[OB (by lia),yM f g xs (acc++[g x]) (λy B=>E y (by simp[B])) (λy B=>G y (by simp[B])) (by simp;lia)];simp
def gN (a s:Int)(n:Nat)(g:Nat->Dat)(B:∀i,i<n->c (.int (a+s*(i:Int)))=.ok (.bl true))(E:∀i,i<n->e (.int (a+s*(i:Int)))=.ok (g i))(h:n<=ao):y7 c e (yA a s n) []=.ok (.L ((QA n).map g)):=by
 unfold yA;rw[yM (λ(i:Nat)=>Dat.int (a+s*(i:Int))) g (QA n) [] (λi A=>B i (by simpa using A)) (λi A=>E i (by simpa using A)) (by simpa using h)];simp
noncomputable def mem(x:T6)(c:Int):Bool:=x.any (λv=>decide (v=c))
def IB(x:T6)(c:Int):yH .isin (.int c) (row x)=.ok (.bl (mem x c)):=by
 have h:aZ yT (x.map Dat.int)=true:=by
  rw[vH];simp
 have A:(x.map Dat.int).any (λy=>dO y (.int c))=mem x c:=by
  simp only[mem,List.any_map];congr 1
 simp only[yH,row,xX,iM];rw[h,A];simp[ve]
noncomputable def xz(n:Nat)(x y:T6):T6:=(QA n).map λ(c:Nat)=>b2i (mem x c)-b2i (mem y c)
noncomputable def zV(X:O7)(i:Nat):T6:=if i=0 then[]else X.getD (i-1) []
noncomputable def sg(X:O7):O7:=(QA X.length).map λi=>xz X.length (X.getD i []) (zV X i)
end
end Lib
namespace Lib
structure ik(n:Nat)(X:O7):Prop where
 len:X.length=n
 rlen:∀j,j<n->(X.getD j []).length=j+1
 inc:∀j,j<n->dJ (X.getD j [])
 bd:∀j,j<n->∀i,i<j+1->0<=(X.getD j []).getD i 0/\(X.getD j []).getD i 0<n
 lace:∀j,j+1<n->io (X.getD (j+1) []) (X.getD j [])
 last:X.getD (n-1) []=yP n
def ik.of{n:Nat}{L:O7}(A:1<=n)(h:dx n L)(hl:L.length=n):ik n L.reverse:=by
 have g:∀j,j<n->L.reverse.getD j []=L.getD (n-1-j) []:=by
  intro j hj;rw[Qg,Qg,W4 (by lia),hl]
 refine⟨by simp[hl],λj hj=>?_,λj hj=>?_,λj hj i B=>?_,λj hj=>?_,?_⟩
 .rw[g j hj];have:=h.len (n-1-j) (by lia);lia
 .rw[g j hj];exact h.inc _ (by lia)
 .rw[g j hj];have:=h.len (n-1-j) (by lia);exact h.bd _ (by lia) i (by lia)
 .rw[g (j+1) hj,g j (by lia)];have:=h.lace (n-1-(j+1)) (by lia)
  rwa[show n-1-(j+1)+1=n-1-j by lia]at this
 .rw[g (n-1) (by lia),show n-1-(n-1)=0 by lia];exact h.first
def dJ.lt (h:dJ x):∀{i j:Nat},i<j->j<x.length->x.getD i 0<x.getD j 0:=by
 intro i j A
 induction j with
 |zero=>lia
 |succ j B=>
  intro hj;have E:=h j hj;by_cases z:i=j
  .subst z;exact E
  .have:=B (by lia) (by lia);lia
def dJ.nodup (h:dJ x):x.Nodup:=by
 rw[List.Nodup,Wc];intro i j B hj A e;have:=h.lt A hj;rw[vK (Qj B),vK (Qj hj)]at this;lia
def Fo {x:T6}(h:v∈x):∃i,i<x.length/\x.getD i 0=v:=by
 obtain⟨i,A,e⟩:=VN h;exact⟨i,A,vK (by rw[Qj A,e])⟩
noncomputable def cnt(x:T6)(c:Nat):Int:=((QA c).map λ(j:Nat)=>b2i (mem x j)).sum
noncomputable def ba(x:T6)(c:Nat):Int:=(x.map λ(v:Int)=>b2i (decide (v<(c:Int)))).sum
def gO(x:T6)(c:Nat):cnt x (c+1)=cnt x c+b2i (mem x c):=by
 simp[cnt,WP]
def IA(x:T6)(nd:x.Nodup)(c:Nat):ba x (c+1)=ba x c+b2i (mem x c):=by
 induction x with
 |nil=>simp[ba,mem,b2i]
 |cons v x A=>
  obtain⟨B,nd⟩:=QB.mp nd;have A:=A nd;have E:ba (v::x) (c+1)=b2i (decide (v<(c+1:Nat)))+ba x (c+1):=by simp[ba]
  have G:ba (v::x) c=b2i (decide (v<c))+ba x c:=by simp[ba]
  have H:mem (v::x) c=(decide (v=c) || mem x c):=by simp[mem]
  rw[E,G,H,A];by_cases h:v=c
  .have:mem x c=false:=by
    rw[mem,List.any_eq_false];intro w I;simp only[OH];intro e;exact B (by rw[h,<-e];exact I)
   rw[this];simp[h,b2i];lia
  .have:decide (v<(c+1:Nat))=decide (v<c):=by
    by_cases q:v<c
    .simp[q];lia
    .simp[q];lia
   rw[this];simp[h];lia
def Iz (h:∀v∈x,0<=v):ba x 0=0:=by
 induction x with
 |nil=>rfl
 |cons v x A=>
  have e:ba (v::x) 0=b2i (decide (v<(0:Nat)))+ba x 0:=by simp[ba]
  rw[e,A (λw B=>h w (by simp[B]))];have:=h v (by simp);have:¬v<((0:Nat):Int):=by simp;lia
  rw[OA this];rfl
theorem jJ (nd:x.Nodup)(h:∀v∈x,0<=v):∀c,cnt x c=ba x c
 |0=>by rw[Iz h];rfl
 |c+1=>by rw[gO,IA x nd,jJ nd h c]
def gP{x:T6}{n:Nat}(h:∀v∈x,v<n):ba x n=x.length:=by
 induction x with
 |nil=>rfl
 |cons v x A=>
  have e:ba (v::x) n=b2i (decide (v<n))+ba x n:=by simp[ba]
  rw[e,A (λw B=>h w (by simp[B])),OF (h v (by simp))];simp[b2i];lia
theorem ny:∀(A cN:T6),A.length<=cN.length->(∀i,i<A.length->cN.getD i 0<=A.getD i 0)->ba A c<=ba cN c
 |[],cN,_,_=>by
  have:∀x:T6,0<=ba x c:=by
   intro x
   induction x with
   |nil=>exact Int.le_refl _
   |cons v x B=>
    have e:ba (v::x) c=b2i (decide (v<c))+ba x c:=by simp[ba]
    rw[e];unfold b2i;split<;>lia
  exact this cN
 |s::A,[],h,_=>by simp at h
 |s::A,b::cN,h,q=>by
  have E:ba (s::A) c=b2i (decide (s<c))+ba A c:=by simp[ba]
  have G:ba (b::cN) c=b2i (decide (b<c))+ba cN c:=by simp[ba]
  have H:=q 0 (by simp);simp only[VO]at H;have B:=ny (c:=c) A cN (by simpa using h) (λi I=>by simpa using q (i+1) (by simpa using I));rw[E,G];have:b2i (decide (s<c))<=b2i (decide (b<c)):=by
   by_cases z:s<c
   .rw[OF z,OF (by lia)];exact Int.le_refl _
   .rw[OA z];unfold b2i;simp;split<;>lia
  lia
def Iy {cN:T6}(h:io cN A):ba A c<=ba cN c/\ba cN c<=ba A c+1:=by
 obtain⟨hl,h⟩:=h;refine⟨ny A cN (by lia) (λi B=>(h i B).1),?_⟩;cases cN with
 |nil=>simp at hl
 |cons b bs=>
  have E:ba (b::bs) c=b2i (decide (b<c))+ba bs c:=by simp[ba]
  have:=ny (c:=c) bs A (by simp at hl;lia) (λi B=>by have:=(h i (by simp at hl;lia)).2;simpa using this);rw[E];have:b2i (decide (b<c))<=1:=by unfold b2i;split<;>lia
  lia
def lF(X:O7):(sg X).length=X.length:=by simp[sg]
def tz (h:r<X.length):(sg X)[r]?=some (xz X.length (X.getD r []) (zV X r)):=by simp[sg,h]
def JY(n:Nat)(x y:T6):(xz n x y).length=n:=by simp[xz]
def JX (x y:T6)(h:c<n):(xz n x y).getD c 0=b2i (mem x c)-b2i (mem y c):=vK (by simp[xz,h])
def JW (x y:T6):∀{c:Nat},c<=n->((xz n x y).take c).sum=cnt x c-cnt y c:=by
 intro c B
 induction c with
 |zero=>simp[cnt]
 |succ c A=>
  rw[Wp,gO,gO,VB,A (by lia)];have:(xz n x y)[c]?=some (b2i (mem x c)-b2i (mem y c)):=by simp[xz,show c<n by lia]
  rw[this];simp;lia
def CC(X:O7):Sq (sg X):=by
 intro r A;simp only[sg,QP]at A;obtain⟨i,_,rfl⟩:=A;rw[JY,lF]
def oB (X:O7)(A:c<X.length):∀{r:Nat},r<=X.length->S (sg X) r c=b2i (mem (zV X r) c):=by
 intro r
 induction r with
 |zero=>intro _;simp[S,zV,mem,b2i]
 |succ r B=>
  intro E;rw[nz (sg X) r c _ (tz (by lia)),B (by lia),JX _ _ A];have:zV X (r+1)=X.getD r []:=by simp[zV]
  rw[this];lia
def Ki (h:c<n):mem (yP n) c=true:=by
 rw[mem,WT];exact⟨c,QP.mpr ⟨c,by simpa using h,rfl⟩,by simp⟩
def D2 (h:ik n X)(G:r<n)(U:c<n):lY (sg X) r c=false:=by
 have d:=h.len;have H:∀b:Bool,b2i b=0\/b2i b=1:=by intro b;cases b<;>simp[b2i]
 have B:∀j,j<n->∀v∈X.getD j [],0<=v/\v<n:=by
  intro j hj v E;obtain⟨i,O,rfl⟩:=Fo E;rw[h.rlen j hj]at O;exact h.bd j hj i O
 have M:ac (sg X) r (c+1)=ba (X.getD r []) (c+1)-ba (zV X r) (c+1):=by
  unfold ac;rw[Qg,tz (by lia)];show((xz X.length (X.getD r []) (zV X r)).take (c+1)).sum=_;rw[JW _ _ (by lia),jJ (h.inc r G).nodup (λv E=>(B r G v E).1)];congr 1;unfold zV;split
  .exact jJ Q7 (by simp) _
  .exact jJ (h.inc _ (by lia)).nodup (λv E=>(B _ (by lia) v E).1) _
 have A:(ac (sg X) r (c+1)=0\/ac (sg X) r (c+1)=1)/\(c=n-1->ac (sg X) r (c+1)=1):=by
  rw[M];by_cases z:r=0
  .subst z;have e:zV X 0=[]:=rfl;have Y:ba (zV X 0) (c+1)=0:=rfl;have hl:(X.getD 0 []).length=1:=h.rlen 0 G;have:ba (X.getD 0 []) (c+1)=0\/ba (X.getD 0 []) (c+1)=1:=by
    cases Q:X.getD 0 []with
    |nil=>rw[Q]at hl;cases hl
    |cons v x=>
     rw[Q]at hl;have:x=[]:=Va (by simpa using hl);subst this;have:=H (decide (v<((c+1:Nat):Int)));simpa [ba]using this
   refine⟨by lia,λk=>?_⟩;have N:ba (X.getD 0 []) (c+1)=(X.getD 0 []).length:=gP (λv E=>by have:=(B 0 G v E).2;lia);rw[N,hl,Y];rfl
  .have e:zV X r=X.getD (r-1) []:=by simp[zV,z]
   have I:=h.lace (r-1) (by lia);rw[show r-1+1=r by lia]at I;have:=Iy (c:=c+1) I;rw[e];refine⟨by lia,λk=>?_⟩;have N:ba (X.getD r []) (c+1)=(X.getD r []).length:=gP (λv E=>by have:=(B r G v E).2;lia);have q:ba (X.getD (r-1) []) (c+1)=(X.getD (r-1) []).length:=gP (λv E=>by have:=(B (r-1) (by lia) v E).2;lia);rw[N,q,h.rlen r G,h.rlen (r-1) (by lia)];lia
 have u:S (sg X) (r+1) c=b2i (mem (X.getD r []) c):=by
  rw[oB X (by lia) (by lia)];simp[zV]
 have J:(S (sg X) (r+1) c=0\/S (sg X) (r+1) c=1)/\(r=n-1->S (sg X) (r+1) c=1):=by
  rw[u];refine⟨H _,λe=>?_⟩;rw[e,h.last,Ki U];rfl
 have L:∀(t:Int) (b:Bool),(t=0\/t=1)->(b=true->t=1)->jv t b=false:=by
  intro t b o p;cases b with
  |true=>simp[jv,p rfl]
  |false=>rcases o with h|h<;>simp[jv,h]
 unfold lY;rw[Bool.or_eq_false_iff];refine⟨L _ _ A.1 λe=>A.2 ?_,L _ _ J.1 λe=>J.2 ?_⟩
 .simp only[OH,lF]at e;lia
 .simp only[OH,lF]at e;lia
end Lib
namespace Lib
section
variable{lev:U7}{cl:O5}{k:Nat}
def nw{A B:Type}{xs:List A}{ys:List B}{i:Nat}{a:A}{b:B}(h:xs[i]?=some a)(E:ys[i]?=some b):(xs.zip ys)[i]?=some (a,b):=WI.mpr ⟨h,E⟩
noncomputable def ya(R:O7)(i:Nat):T6:=(QA R.length).map λc=>S R i c
noncomputable def kQ(R:O7):O7:=(QA (R.length+1)).map (ya R)
def Kh(R:O7):Dat.L (QI R.length [Dat.int 0]).flatten=row (ya R 0):=by
 have:(QI R.length [Dat.int 0]).flatten=QI R.length (Dat.int 0):=by
  generalize R.length=n
  induction n with
  |zero=>rfl
  |succ n A=>rw[Wa,Q8,A,Wa];rfl
 rw[this];unfold row ya;congr 1;rw[QQ];refine WC λi=>?_;by_cases h:i<R.length
 .simp[h,S]
 .simp[h]
def Fm(a b:T6):xo .zip (row a) (row b)=if a.length<=ao/\b.length<=ao then some ((a.zip b).map λp=>(Dat.int p.1,Dat.int p.2))else none:=by
 simp only[xo,fC,row,Qi];rw[List.zip_map];rfl
def JV (h:Sq R)(E:i<R.length):((ya R i).zip (R.getD i [])).map (λp=>p.1+p.2)=ya R (i+1):=by
 obtain⟨x,A⟩:∃x,R[i]?=some x:=⟨R[i],by simp[E]⟩;have G:R.getD i []=x:=by rw[Qg,A];rfl
 have hl:x.length=R.length:=h x (Qv A);rw[G];refine WC λc=>?_;by_cases B:c<R.length
 .have H:(ya R i)[c]?=some (S R i c):=by simp[ya,B]
  have I:x[c]?=some (x.getD c 0):=gM (by lia);have J:(ya R (i+1))[c]?=some (S R (i+1) c):=by simp[ya,B]
  rw[J,nz R i c x A,Qq,nw H I];rfl
 .rw[Qy (by simp[ya];lia),Qy (by simp[ya];lia)]
noncomputable def ln:Sm:=(.seq (.a 1 (.compP .zip (.bin .add (.V 4) (.V 5)) (.V 1) (.V 3) (.lit (.bl true)))) (.expr (.meth .append (.V 2) (.p (.V 1) .u))))
noncomputable def mW:Fn:=⟨1,4,(.seq (.a 1 (.bin .mul (.L (.p (.lit (.int 0)) .u)) (.blt .len (.p (.V 0) .u)))) (.seq (.a 2 (.L (.p (.V 1) .u))) (.seq (.forv 3 (.V 0) ln) (.ret (.V 2)))))⟩
def JU (h:Sq R)(M:R.length<=100)(B:i<R.length)(J:A.length<ao):
  aG lev cl ln [some (aq R),some (row (ya R i)),some (aq A),some (row (R.getD i []))] [.no,l1,.top,.no]=.next [some (aq R),some (row (ya R (i+1))),some (aq (A++[ya R (i+1)])),some (row (R.getD i []))] [.no,.no,.top,.no]:=by
 have I:(R.getD i []).length=R.length:=by
  have L:R.getD i []=R[i]:=by rw[Qg,Qj B];rfl
  rw[L];exact h _ (W6 B)
 have E:aj cl (.compP .zip (.bin .add (.V 4) (.V 5)) (.V 1) (.V 3) (.lit (.bl true))) [some (aq R),some (row (ya R i)),some (aq A),some (row (R.getD i []))]=.ok (row (ya R (i+1))):=by
  rw[vj];simp only[zm,zl,aH,Fm];rw[OB (by rw[I];simp[ya];unfold ao;lia)];simp only;rw[yM (λ(p:Int×Int)=>(Dat.int p.1,Dat.int p.2)) (λp=>.int (p.1+p.2)) _ [] (λp _=>by simp) (λp _=>by simp) (by rw[Ua,I];simp[ya];unfold ao;lia)];rw[<-JV h B];simp[row]
 have G:bI lev (.compP .zip (.bin .add (.V 4) (.V 5)) (.V 1) (.V 3) (.lit (.bl true))) (row (ya R (i+1)))=.F:=by simp[row]
 unfold ln;rw[oe,zR,E];simp only[a7];rw[xV G];simp only[zo,Qc,Qd];rw[wP];simp only[zm,zl,dT];have H:wM [some (aq R),some (row (ya R (i+1))),some (aq A),some (row (R.getD i []))] 2=some (A.map row):=rfl;rw[H];simp only[Qi];rw[OB J];simp[xG,yy,row,bb,aq]
def Ix (h:Sq R)(q:R.length<=100)(A:lev k=.no):zL lev cl k mW [aq R]=.ok (aq (kQ R)):=by
 have B:=yL (body:=λx I J=>aG lev cl ln (I.set 3 (some x)) (J.set 3 (aY x)))
  (λi I J=>∃(M:R8) (N O:Lv),I=[some (aq R),some (row (ya R i)),some (aq ((kQ R).take (i+1))),M]/\J=[.no,N,.top,O])
  (R.map row) (de:=[some (aq R),some (row (ya R 0)),some (aq [ya R 0]),none]) (lv:=[.no,.no,.top,.F])
  ⟨none,.no,.F,by simp[kQ,WN],rfl⟩ ?_
 .obtain ⟨u,z,e,M,N,O,rfl,rfl⟩:=B;unfold zL;rw[OB (by rfl)];show zJ (lev k) (aG lev cl (.seq _ (.seq _ (.seq _ _))) [some (aq R),none,none,none] [aY (aq R),.F,.F,.F])=_;rw[show aY (aq R)=.no from by simp[aY,aq],zS];have E:xf .len [aq R]=.ok (.int R.length):=by simp[aq]
  have G:zZ .mul (.L [.int 0]) (.int R.length)=.ok (row (ya R 0)):=by
   simp only[zZ];rw[OB (by unfold ao;lia),V0,<-Kh,yZ];simp;unfold ao;lia
  simp only[zR,zE,xE,zt,zr,zn,xr,zm,aH,zp,E];rw[yZ (by simp;unfold ao;lia)];simp only[aH,G,a7];have o:we lev 1 (.bin .mul (.L (.p (.lit (.int 0)) .u)) (.blt .len (.p (.V 0) .u))) (row (ya R 0)) [some (aq R),none,none,none] [.no,.F,.F,.F]=.next [some (aq R),some (row (ya R 0)),none,none] [.no,.no,.F,.F]:=by
   simp[we,row,xC,bb,zC]
  rw[o];simp only[zo,Qc,Qd];rw[zS];simp only[zR,xE,zt,zr,zm,zl,aH,zp];rw[yZ (by simp;unfold ao;lia)];have p:we lev 2 (.L (.p (.V 1) .u)) (.L [row (ya R 0)]) [some (aq R),some (row (ya R 0)),none,none] [.no,.no,.F,.F]=.next [some (aq R),some (row (ya R 0)),some (aq [ya R 0]),none] [.no,.no,.top,.F]:=by
   simp[we,row,xC,bb,aq,zcL]
  simp only[a7,p,zo];rw[yf,wg];have Q:di (aq R)=some (R.map row):=wO (by simp;unfold ao;lia);have U:aF (aq R)=false:=by simp[aq]
  simp only[zm,a7,Q,U];have H:(if false=true then[Lv.no,Lv.no,Lv.top,Lv.F]else xC (.V 0) [some (aq R),some (row (ya R 0)),some (aq [ya R 0]),none] [Lv.no,Lv.no,Lv.top,Lv.F])=[.no,.no,.top,.F]:=rfl;rw[H,e,zo];rw[Qi,We (by simp[kQ])];simp[zJ,cc,A,xY,aq]
 .intro i x I J Y d;obtain⟨M,N,O,rfl,rfl⟩:=d;have L:i<R.length:=by
   have:=(Qa.mp Y).1;simpa using this
  have j:x=row (R.getD i []):=by
   rw[Qq,Qj L]at Y;cases Y;rw[Qg,Qj L];rfl
  subst j;refine⟨_,_,?_,some (row (R.getD i [])),.no,.no,rfl,rfl⟩;simp only[Qc,Qd,show aY (row (R.getD i []))=.no from by simp[aY,row]];rw[JU h q L (by simp[kQ];unfold ao;lia)];have c:(kQ R).take (i+1+1)=(kQ R).take (i+1)++[ya R (i+1)]:=by
   rw[Wp];congr 1;simp[kQ,L]
  rw[c]
def Iw(s:Int)(x:T6)(h:x.length<=ao):xo .enum (row x) (.int s)=some ((QA x.length).map λ(i:Nat)=>(Dat.int (s+i),Dat.int (x.getD i 0))):=by
 simp only[xo,fC,row,Qi];rw[OB h];congr 1;refine WC λi=>?_;by_cases A:i<x.length
 .rw[nw (a:=Dat.int (s+i)) (b:=Dat.int (x.getD i 0)) (by rw[wD _ _ _ _ A,Int.one_mul]) (by rw[Qq,gM A];rfl)];simp[A]
 .rw[Qy (by simp;lia),Qy (by simp;lia)]
end
end Lib
namespace Lib
end Lib
namespace Lib
section
def Iv {x:T6}(h:x[t]?=some v):(x.take (t+1)).sum=(x.take t).sum+v:=by
 rw[Wp,h,VB];simp
def Iu(s:Int)(A:O7)(h:A.length<=ao):xo .enum (aq A) (.int s)=some ((QA A.length).map λ(i:Nat)=>(Dat.int (s+i),row (A.getD i []))):=by
 simp only[xo,aq,Qi];rw[OB h];congr 1;refine WC λi=>?_;by_cases B:i<A.length
 .rw[nw (a:=Dat.int (s+i)) (b:=row (A.getD i [])) (by rw[wD _ _ _ _ B,Int.one_mul]) (by rw[Qq,Qg,Qj B];rfl)];simp[B]
 .rw[Qy (by simp;lia),Qy (by simp;lia)]
end
end Lib
namespace Lib
end Lib
namespace Lib
section
def uG (h:jv t b=false):(t=0\/t=1)/\(b=true->t=1):=by
 cases b with
 |true=>
  have A:t=1:=by simpa [jv]using h
  exact⟨.inr A,λ_=>A⟩
 |false=>
  refine⟨?_,λe=>by cases e⟩;simp only[jv,QG,if_false,Bool.not_eq_false',Vf,OH]at h;exact h
structure aW(R:O7):Prop where
 sq:Sq R
 row:∀r c,r<R.length->c<=R.length->((R.getD r []).take c).sum=0\/((R.getD r []).take c).sum=1
 rowE:∀r,r<R.length->((R.getD r []).take R.length).sum=1
 col:∀r c,r<=R.length->c<R.length->S R r c=0\/S R r c=1
 colE:∀c,c<R.length->S R R.length c=1
def aW.of{R:O7}(sq:Sq R)(h:∀r c,r<R.length->c<R.length->lY R r c=false):aW R:=by
 have q:∀r c,r<R.length->c<R.length->((ac R r (c+1)=0\/ac R r (c+1)=1)/\(c+1=R.length->ac R r (c+1)=1))/\(S R (r+1) c=0\/S R (r+1) c=1)/\(r+1=R.length->S R (r+1) c=1):=by
  intro r c A B;have:=h r c A B;unfold lY at this;rw[Bool.or_eq_false_iff]at this;obtain⟨E,G⟩:=uG this.1;obtain⟨H,I⟩:=uG this.2;exact⟨⟨E,λe=>G (by simp;lia)⟩,H,λe=>I (by simp;lia)⟩
 refine⟨sq,λr c A B=>?_,λr A=>?_,λr c A B=>?_,λc B=>?_⟩
 .cases c with
  |zero=>left;simp
  |succ c=>exact(q r c A (by lia)).1.1
 .have:=(q r (R.length-1) A (by lia)).1.2 (by lia);unfold ac at this
  rwa[show R.length-1+1=R.length by lia]at this
 .cases r with
  |zero=>left;simp[S]
  |succ r=>exact(q r c (by lia) B).2.1
 .have:=(q (R.length-1) c (by lia) B).2.2 (by lia)
  rwa[show R.length-1+1=R.length by lia]at this
end
end Lib
namespace Lib
noncomputable def fl(p:Pl):Pl:=(p.2,p.1)
noncomputable def cD(R:O7)(r c:Nat):Int:=((R.getD r []).take c).sum
noncomputable def cA(R:O7)(r c:Nat):Di->Bool
 |.u=>decide (S R r c=((r:Int)+c)%2)
 |.r=>! decide ((if cD R r (c+1)=0 then 1 else 0)=((r:Int)+c)%2)
 |.d=>! decide (S R (r+1) c=((r:Int)+c)%2)
 |.l=>decide ((if cD R r c=0 then 1 else 0)=((r:Int)+c)%2)
noncomputable def dU(R:O7):Tr:=λp d=>cA R p.1.toNat p.2.toNat d
noncomputable def neg(t:Tr):Tr:=λp d=>! t p d
def Fl (h:Sq R)(A:r<R.length):(R.getD r []).length=R.length:=by
 rw[Qg,Qj A];exact h _ (W6 A)
def Fk (h:Sq R)(A:r<R.length)(B:c<R.length):cD R r (c+1)=cD R r c+(R.getD r []).getD c 0:=by
 unfold cD;have hl:=Fl h A;generalize R.getD r []=x at *
 rw[Wp,VB,Qj (by lia)];simp[Qg,Qj (show c<x.length by lia)]
def Fj (A:r<R.length):S R (r+1) c=S R r c+(R.getD r []).getD c 0:=by
 have e:R[r]?=some (R.getD r []):=by rw[Qg,Qj A];rfl
 exact nz R r c _ e
def rA(r c:Nat):((r:Int)+c)%2=0\/((r:Int)+c)%2=1:=by lia
def D1 (H:aW R)(A:r<R.length)(B:c<R.length):(br.filter (cA R r c)).length=2:=by
 have E:cD R r c=0\/cD R r c=1:=H.row r c A (by omega);have G:cD R r (c+1)=0\/cD R r (c+1)=1:=H.row r (c+1) A B;have I:=H.col r c (by omega) B;have J:=H.col (r+1) c A B;have U:=Fk H.sq A B;have Y:=Fj (c:=c) A;have L:=rA r c;unfold br;generalize (R.getD r []).getD c 0=a at *
 have M:cA R r c .u=decide (S R r c=((r:Int)+c)%2):=rfl;have N:cA R r c .r=! decide ((if cD R r (c+1)=0 then 1 else 0)=((r:Int)+c)%2):=rfl;have O:cA R r c .d=! decide (S R (r+1) c=((r:Int)+c)%2):=rfl;have Q:cA R r c .l=decide ((if cD R r c=0 then 1 else 0)=((r:Int)+c)%2):=rfl;generalize ((r:Int)+c)%2=o at *
 generalize cD R r c=p at *
 generalize cD R r (c+1)=j at *
 generalize S R r c=q at *
 generalize S R (r+1) c=k at *
 simp only[V3,List.filter_nil,M,N,O,Q];rcases E with rfl|rfl<;>rcases G with rfl|rfl<;>rcases I with rfl|rfl<;>rcases J with rfl|rfl<;>rcases L with rfl|rfl<;>first|(exfalso;omega)|decide
def sK (H:aW R):bW R.length (dU R):=by
 have A:∀r c:Nat,cA R r (c+1) .l=cA R r c .r:=λr c=>by
  show decide ((if cD R r (c+1)=0 then 1 else 0)=((r:Int)+((c+1:Nat):Int))%2)=! decide ((if cD R r (c+1)=0 then 1 else 0)=((r:Int)+c)%2);have Y:=rA r c;rw[<-decide_not];apply decide_eq_decide.mpr;split<;>lia
 have B:∀r c:Nat,r+1<=R.length->c<R.length->cA R (r+1) c .u=cA R r c .d:=λr c L M=>by
  show decide (S R (r+1) c=(((r+1:Nat):Int)+c)%2)=! decide (S R (r+1) c=((r:Int)+c)%2);have q:=H.col (r+1) c L M;rw[<-decide_not];apply decide_eq_decide.mpr;lia
 refine⟨λp e N O=>?_,λp h=>?_⟩
 .obtain ⟨⟨E,G⟩,I,J⟩:=aC.mp N;obtain⟨⟨Q,U⟩,d0,d1⟩:=aC.mp O;obtain⟨a,b⟩:=p;obtain⟨i,rfl⟩:=W0 E;obtain⟨j,rfl⟩:=W0 I;simp only[]at G J;cases e with
  |u=>
   simp only[aD]at Q;obtain⟨k,rfl⟩:∃k,i=k+1:=⟨i-1,by lia⟩;show cA R (((k+1:Nat):Int)-1).toNat j .d=cA R (k+1) j .u;rw[show(((k+1:Nat):Int)-1).toNat=k by lia];exact(B k j (by lia) (by lia)).symm
  |r=>
   show cA R i ((j:Int)+1).toNat .l=cA R i j .r;rw[show((j:Int)+1).toNat=j+1 by lia];exact A i j
  |d=>
   simp only[aD]at U;show cA R ((i:Int)+1).toNat j .u=cA R i j .d;rw[show((i:Int)+1).toNat=i+1 by lia];exact B i j (by lia) (by lia)
  |l=>
   simp only[aD]at d0;obtain⟨k,rfl⟩:∃k,j=k+1:=⟨j-1,by lia⟩;show cA R i (((k+1:Nat):Int)-1).toNat .r=cA R i (k+1) .l;rw[show(((k+1:Nat):Int)-1).toNat=k by lia];exact(A i k).symm
 .obtain ⟨⟨E,G⟩,I,J⟩:=aC.mp h;exact D1 H (by lia) (by lia)
theorem bW.neg{n:Nat}{t:Tr}(F:bW n t):bW n (neg t):=by
 refine⟨λp e A B=>?_,λp h=>?_⟩
 .show (! t (aD e p) (cB e))=! t p e;rw[F.con p e A B]
 .have:=F.two p h;show(br.filter λd=>! t p d).length=2;unfold br at *
  cases A:t p .u<;>cases B:t p .r<;>cases E:t p .d<;>cases G:t p .l<;>simp[A,B,E,G]at this ⊢
def D0 (H:aW R)(B:inn R.length p=true)(A:inn R.length (aD e p)=false):dU R p e=decide (yF R.length p e%2=0):=by
 obtain⟨⟨E,G⟩,I,J⟩:=aC.mp B;have A:¬(inn R.length (aD e p)=true):=by rw[A];exact QU
 rw[aC]at A;obtain⟨a,b⟩:=p;obtain⟨i,rfl⟩:=W0 E;obtain⟨j,rfl⟩:=W0 I;simp only[]at G J;cases e with
 |u=>
  simp only[aD]at A;have:i=0:=by lia
  subst this;show decide (S R 0 j=(((0:Nat):Int)+j)%2)=decide ((j:Int)%2=0);apply decide_eq_decide.mpr;rw[show S R 0 j=0 from rfl];lia
 |r=>
  simp only[aD]at A;have:j+1=R.length:=by lia
  have hE:cD R i (j+1)=1:=by rw[this];exact H.rowE i (by lia)
  show(! decide ((if cD R i (j+1)=0 then 1 else 0)=((i:Int)+j)%2))=decide (((R.length:Int)+i)%2=0);rw[hE,<-decide_not];apply decide_eq_decide.mpr;simp only[show ¬((1:Int)=0)from by decide,if_false];lia
 |d=>
  simp only[aD]at A;have:i+1=R.length:=by lia
  have hE:S R (i+1) j=1:=by rw[this];exact H.colE j (by lia)
  show(! decide (S R (i+1) j=((i:Int)+j)%2))=decide ((3*(R.length:Int)-1-j)%2=0);rw[hE,<-decide_not];apply decide_eq_decide.mpr;lia
 |l=>
  simp only[aD]at A;have:j=0:=by lia
  subst this;show decide ((if cD R i 0=0 then 1 else 0)=((i:Int)+((0:Nat):Int))%2)=decide ((4*(R.length:Int)-1-i)%2=0);apply decide_eq_decide.mpr;rw[OB (show cD R i 0=0 from by simp[cD])];lia
noncomputable def bE(n:Nat)(ρ:Nat):aQ:=match ρ/n with
 |0=>((0,((ρ%n:Nat):Int)),.u)
 |1=>((((ρ%n:Nat):Int),(n:Int)-1),.r)
 |2=>(((n:Int)-1,(n:Int)-1-((ρ%n:Nat):Int)),.d)
 |_=>(((n:Int)-1-((ρ%n:Nat):Int),0),.l)
def wl (B:0<n)(h:ρ<4*n):inn n (bE n ρ).1=true/\cW n (bE n ρ)/\yF n (bE n ρ).1 (bE n ρ).2=ρ:=by
 have G:=Nat.div_add_mod ρ n;have H:=Nat.mod_lt ρ B;have E:ρ/n<4:=VM (by rw[W3];exact h);unfold bE cW;generalize ρ%n=m at *
 generalize I:ρ/n=q at *
 have A:∀x:Pl,inn n x=false↔¬((0<=x.1/\x.1<n)/\(0<=x.2/\x.2<n)):=λx=>by rw[<-aC];simp
 match q,E with
 |0,_=>exact⟨aC.mpr ⟨⟨by simp,by simp;lia⟩,by simp,by simp;lia⟩,(A _).mpr (by simp[aD]),by simp[yF];lia⟩
 |1,_=>exact⟨aC.mpr ⟨⟨by simp,by simp;lia⟩,by simp;lia,by simp;lia⟩,(A _).mpr (by simp[aD]),by simp[yF];lia⟩
 |2,_=>exact⟨aC.mpr ⟨⟨by simp;lia,by simp;lia⟩,by simp;lia,by simp;lia⟩,(A _).mpr (by simp[aD]),by simp[yF];lia⟩
 |3,_=>exact⟨aC.mpr ⟨⟨by simp;lia,by simp;lia⟩,by simp,by simp;lia⟩,(A _).mpr (by simp[aD]),by simp[yF];lia⟩
end Lib
namespace Lib
section
variable{lev:U7}{cl:O5}
def Fi (B:x.length<ao)(de:aM)(lv:U6)(j:Nat)(E:aj cl e de=.ok (.int v))(G:de[j]?=some (some (row x)))(hj:yy lv j=true):
  aG lev cl (.expr (.meth .append (.V j) (.p e .u))) de lv=.next (de.set j (some (row (x++[v])))) lv:=by
 rw[wP,E];simp only[dT];have A:wM de j=some (x.map Dat.int):=by simp[wM,G,row]
 rw[A];simp only[Qi];rw[OB B];have H:xG lev e (.int v) j de lv=some (de,lv):=by
  unfold xG;rw[OC (by simp[hj]),OB (xS lev e _ rfl)]
 rw[H];simp[row]
def gQ(c:Ex)(body:Sm)(de:aM)(lv:U6):aG lev cl (.while c body) de lv=xa (aj cl c) (aG lev cl body) 1000000 de lv:=rfl
def Kg (P:Nat->aM->U6->Prop)(N:Nat)(G:∀t de lv,t<N->P t de lv->c de=.ok (.bl true)/\∃B E,body de lv=.next B E/\P (t+1) B E)(H:∀de lv,P N de lv->c de=.ok (.bl false)):
  ∀(n t A:Nat) (de:aM) (lv:U6),t+n=N->n<A->P t de lv->∃B E,xa c body A de lv=.next B E/\P N B E:=by
 intro n
 induction n with
 |zero=>
  intro t A de lv I J p;obtain⟨f,rfl⟩:∃f,A=f+1:=⟨A-1,by lia⟩;have:t=N:=by lia
  subst this;refine⟨de,lv,?_,p⟩;unfold xa;rw[H de lv p]
 |succ n L=>
  intro t A de lv I J p;obtain⟨f,rfl⟩:∃f,A=f+1:=⟨A-1,by lia⟩;obtain⟨M,d1,O,Q,U⟩:=G t de lv (by lia) p;obtain⟨d2,Y,e,j⟩:=L (t+1) f d1 O (by lia) (by lia) U;refine⟨d2,Y,?_,j⟩;unfold xa;rw[M];simp only;rw[Q];exact e
end
end Lib
namespace Lib
section
def DZ(x:T6):yH .ne (row x) (row [])=.ok (.bl (! decide (x=[]))):=by
 have h:aZ 11 (x.map Dat.int)=true:=by rw[vH];simp
 show ve ((if aZ 11 (x.map Dat.int)&&true then some (cH (x.map Dat.int) [])else none).map (!·))=_;rw[h];cases x<;>rfl
end
end Lib
namespace Lib
end Lib
namespace Lib
end Lib
namespace Lib
end Lib
namespace Lib
end Lib
namespace Lib
end Lib
namespace Lib
section
noncomputable def mx(a b:Int):Int:=if b > a then b else a
end
end Lib
namespace Lib
section
variable{lev:U7}
noncomputable def xA(q:Nat)(F:P5)(i:Nat):T6:=(QA q).map (F i)
noncomputable def yD(p q:Nat)(F:P5):O7:=(QA p).map (xA q F)
def gR(p q:Nat)(F:P5):(yD p q F).length=p:=by simp[yD]
def AQ(q:Nat)(F:P5)(i:Nat):(xA q F i).length=q:=by simp[xA]
def gS (h:i<p):yh (aq (yD p q F)) (.int (i:Int))=.ok (row (xA q F i)):=Fp (by simp[yD,h])
def Fh (lev:U7)(h:∀i:Int,bI lev e (.int i)=.F):bI lev (.comp e it c) (row x)=.F:=by
 simp[row]
noncomputable def dG(R:O7)(r c:Nat):Int:=1-2*((R.getD r []).take c).sum
noncomputable def eh(R:O7)(r c:Nat):Int:=2*S R r c-1
def jK{n:Nat}(h:n<=100):kG (.int 0) (.int n) (.int 1)=.ok (.T (yA 0 1 n)):=by
 rw[lH (by unfold ao;lia)];simp[eI]
noncomputable def arr(n:Nat)(F G:P5):Dat:=.T [aq (yD n (n+1) F),aq (yD (n+1) n G)]
end
end Lib
namespace Lib
section
variable{cl:O5}
noncomputable def oS:Di->T9
 |.u=>[85] |.r=>[82] |.d=>[68] |.l=>[76]
noncomputable def ay(p:Pl):Dat:=.T [.int p.1,.int p.2]
noncomputable def yK(d:Di):Dat:=.str (oS d)
noncomputable def r6{A:Type}(e:Di)(a b c d:A):A:=match e with
 |.u=>a |.r=>b |.d=>c |.l=>d
def DY(a b:T9):yH .eq (.str a) (.str b)=.ok (.bl (decide (a=b))):=rfl
@[simp]theorem Mn(de:aM):aj cl .dict0 de=.ok (.D [] []):=rfl
@[simp]theorem uF(a b:Ex)(de:aM):aj cl (.dget a b) de=(aj cl a de).bind λx=>(aj cl b de).bind λy=>jt x y:=rfl
def mR(a b:Ex)(de:aM):aj cl (.T (.p a (.p b .u))) de=(aj cl a de).bind λx=>(aj cl b de).bind λy=>.ok (.T [x,y]):=by
 rw[jf,zt,zt,zr];cases aj cl a de with
 |ok x=>
  cases aj cl b de with
  |ok y=>exact OB (e:=Rd.no) (show 2<=ao by decide)
  |_=>rfl
 |_=>rfl
def CQ(a b c d:Ex)(de:aM):aj cl (.T (.p a (.p b (.p c (.p d .u))))) de=(aj cl a de).bind λx=>(aj cl b de).bind λy=>(aj cl c de).bind λz=>(aj cl d de).bind λw=>.ok (.T [x,y,z,w]):=by
 rw[jf,zt,zt,zt,zt,zr];cases aj cl a de with
 |ok x=>
  cases aj cl b de with
  |ok y=>
   cases aj cl c de with
   |ok z=>
    cases aj cl d de with
    |ok w=>exact OB (e:=Rd.no) (show 4<=ao by decide)
    |_=>rfl
   |_=>rfl
  |_=>rfl
 |_=>rfl
def DX (h:aj cl (.V i) de=.ok (yK e)):aj cl (j0 i [85] [82] [68] [76]) de=.ok (.int (r6 e 0 1 2 3)):=by
 unfold j0;simp only[jg,zX,yr,h,aH,yK,DY];cases e<;>rfl
def DW (h:aj cl (.V i) de=.ok (yK e))(E:aj cl a de=.ok A)(G:aj cl b de=.ok B)(H:aj cl c de=.ok C)(I:aj cl d de=.ok D):
  aj cl (.i (ku a b c d) (j0 i [85] [82] [68] [76])) de=.ok (r6 e A B C D):=by
 rw[yz,DX h];unfold ku;rw[CQ];simp only[E,G,H,I,aH];cases e<;>rfl
noncomputable def bey(n:Nat)(p:Pl)(e:Di):Dat:=if inn n (aD e p)=true then .T [ay (aD e p),yK (cB e),.N]else .T [ay p,yK e,.int (yF n p e)]
end
end Lib
namespace Lib
section
theorem vM {B:Type}{c e:I->Rd}(f:B->I)(q:B->Bool)(g:B->Dat):∀(xs:List B) (acc:T7),(∀x∈xs,c (f x)=.ok (.bl (q x)))->(∀x∈xs,q x=true->e (f x)=.ok (g x))->acc.length+xs.length<=ao->y7 c e (xs.map f) acc=.ok (.L (acc++(xs.filter q).map g))
 |[],acc,_,_,h=>by
  show bh acc=_;rw[yZ (by simpa using h)];simp
 |x::xs,acc,E,G,h=>by
  show(c (f x)).bind _=_;rw[E x (by simp)];simp only[aH];cases H:q x with
  |true=>
   simp only[];rw[G x (by simp) H];simp only[aH];rw[OB (by simp at h;lia),vM f q g xs _ (λy A=>E y (by simp[A])) (λy A=>G y (by simp[A])) (by simp at h ⊢;lia)];simp[V3,H]
  |false=>
   simp only[];rw[vM f q g xs _ (λy A=>E y (by simp[A])) (λy A=>G y (by simp[A])) (by simp at h ⊢;lia)];simp[V3,H]
end
end Lib
namespace Lib
section
variable{lev:U7}{cl:O5}
noncomputable def zN(p:Pl):T6:=[p.1,p.2]
noncomputable def bO(R:O7)(b:Bool):Tr:=λp d=>!(dU R p d==b)
noncomputable def dM(r:Nat)(c:Nat):U5:=(QA c).map λ(j:Nat)=>((r:Int),(j:Int))
noncomputable def bA(n r c:Nat):U5:=(QA r).flatMap (λi=>dM i n)++dM r c
def kR (h:zN p=zN q):p=q:=by
 unfold zN at h;simp only[List.cons.injEq,and_true]at h;exact Prod.ext h.1 h.2
theorem uE {f:Pl->Dat}:∀{ps:U5},p∈ps->dH (ps.map zN) (ps.map f) (zN p)=some (f p)
 |[],h=>by simp at h
 |q::ps,h=>by
  show(if zN q=zN p then some (f q)else dH (ps.map zN) (ps.map f) (zN p))=_;by_cases e:zN q=zN p
  .rw[OB e,kR e]
  .rw[OC e];refine uE ?_;rcases Qn.mp h with rfl|h
   .exact OD rfl e
   .exact h
def Hf(r c:Nat):dM r (c+1)=dM r c++[((r:Int),(c:Int))]:=by
 unfold dM;rw[WP,Wb];rfl
def xW(n r c:Nat):bA n r (c+1)=bA n r c++[((r:Int),(c:Int))]:=by
 unfold bA;rw[Hf,Qm]
def oa(n r:Nat):bA n r n=bA n (r+1) 0:=by
 unfold bA;rw[WP,VP];simp[dM]
def bF:p∈dM r c↔p.1=r/\∃j:Nat,j<c/\p.2=j:=by
 unfold dM;simp only[QP,Ws];constructor
 .rintro ⟨j,hj,rfl⟩;exact⟨rfl,j,hj,rfl⟩
 .rintro ⟨A,j,hj,B⟩;exact⟨j,hj,Prod.ext A.symm B.symm⟩
def cv:p∈bA n r c↔(∃i:Nat,i<r/\p∈dM i n)\/p∈dM r c:=by
 unfold bA;simp only[Qs,WS,Ws]
def Ab:((r:Int),(c:Int))∉bA n r c:=by
 rw[cv];rintro(⟨i,A,h⟩|h)
 .have:=(bF.mp h).1;simp only[]at this;lia
 .obtain ⟨_,j,hj,e⟩:=bF.mp h;simp only[]at e;lia
def wQ(n:Nat):∀r c,(bA n r c).length=r*n+c:=by
 intro r c;have A:∀i m,(dM i m).length=m:=λi m=>by simp[dM]
 unfold bA;rw[Qw,A];congr 1
 induction r with
 |zero=>simp
 |succ r B=>rw[WP,VP,Qw,B];simp[A,Nat.succ_mul]
def Aa (h:inn n p=true):p∈bA n n 0:=by
 obtain⟨⟨A,B⟩,E,G⟩:=aC.mp h;rw[cv];refine .inl ⟨p.1.toNat,by lia,bF.mpr ⟨by lia,p.2.toNat,by lia,by lia⟩⟩
def rZ (h:p∉ps):wu (ps.map zN) (zN p)=(ps++[p]).map zN:=by
 unfold wu;rw[OC,Wb];· rfl
 intro z;obtain⟨q,A,e⟩:=QP.mp z;rw[kR e]at A;exact h A
theorem mQ {f:Pl->Dat}:∀{ps:U5},p∉ps->yt (ps.map zN) (ps.map f) (zN p) (f p)=(ps++[p]).map f
 |[],_=>rfl
 |q::ps,h=>by
  show(if zN q=zN p then f p::ps.map f else f q::yt (ps.map zN) (ps.map f) (zN p) (f p))=_;rw[OC (λe=>h (by rw[kR e];simp)),mQ (λz=>h (by simp[z]))];rfl
def mP (h:aj cl e de=.ok d)(A:aF d=true)(B:yW (.a i e) X=none):aG lev cl (.seq (.a i e) X) de lv=aG lev cl X (de.set i (some d)) (lv.set i .F):=by
 rw[ye lev cl de lv B,zR,h];simp only[a7];rw[yo A];rfl
def vR (h:aj cl e de=.ok d)(A:bI lev e d=.F)(B:yW (.a i e) X=none):aG lev cl (.seq (.a i e) X) de lv=aG lev cl X (de.set i (some d)) (lv.set i .F):=by
 rw[ye lev cl de lv B,zR,h];simp only[a7];rw[xV A];rfl
end
end Lib
namespace Lib
def JT(R:O7):bO R false=dU R:=by
 funext p d;show(!(dU R p d==false))=_;cases dU R p d<;>rfl
end Lib
namespace Lib
section
variable{n:Nat}{t:Tr}
noncomputable def Ch(n:Nat)(t:Tr):aQ->List aQ->aQ->Prop
 |s,[],l=>s=l
 |s,q::A,l=>bC n t s=some q/\Ch n t q A l
noncomputable def cr(t:Tr)(s:aQ):aQ:=(s.1,a9 (t s.1) s.2)
theorem n9:∀(k:Nat) (s:aQ) (acc A:U5) (σ:Int),vO n t k s acc=some (A,σ)->∃B l,Ch n t s B l/\bC n t l=none/\A=acc++B.map (·.1)/\σ=gE n t l/\B.length<k
 |0,_,_,_,_,h=>by cases h
 |k+1,s,acc,A,σ,h=>by
  have G:(match bC n t s with|some E=>vO n t k E (acc++[E.1])|none=>some (acc,gE n t s))=some (A,σ):=h;cases e:bC n t s with
  |none=>
   rw[e]at G;cases G;exact⟨[],s,rfl,e,by simp,rfl,by simp⟩
  |some E=>
   rw[e]at G;obtain⟨B,l,H,I,J,L,M⟩:=n9 k E _ A σ G;exact⟨E::B,l,⟨e,H⟩,I,by rw[J];simp,L,by simp;lia⟩
theorem z9:∀(A:List aQ) (k:Nat) (s:aQ) (l:aQ) (acc:U5),Ch n t s A l->bC n t l=none->A.length<k->vO n t k s acc=some (acc++A.map (·.1),gE n t l)
 |[],k,s,l,acc,h,e,E=>by
  cases(show s=l from h);obtain⟨j,rfl⟩:∃j,k=j+1:=⟨k-1,by simp at E;lia⟩;show(match bC n t s with|some B=>vO n t j B (acc++[B.1])|none=>some (acc,gE n t s))=_;rw[e];simp
 |q::A,k,s,l,acc,h,e,E=>by
  obtain⟨G,H⟩:=h;obtain⟨j,rfl⟩:∃j,k=j+1:=⟨k-1,by simp at E;lia⟩;show(match bC n t s with|some B=>vO n t j B (acc++[B.1])|none=>some (acc,gE n t s))=_;rw[G];simp only[];rw[z9 A j q l _ H e (by simp at E;lia)];simp
theorem wR(F:bW n t):∀(A:List aQ) (s l:aQ),Good n t s->Ch n t s A l->Good n t l
 |[],s,l,g,h=>by cases(show s=l from h);exact g
 |q::A,s,l,g,h=>wR F A q l (zH F g h.1).1 h.2
theorem jL:∀(A:List aQ) (s l x:aQ),Ch n t s A l->bC n t l=some x->Ch n t s (A++[x]) x
 |[],s,l,x,h,e=>by cases(show s=l from h);exact⟨e,rfl⟩
 |q::A,s,l,x,h,e=>⟨h.1,jL A q l x h.2 e⟩
theorem sJ:∀(A:List aQ) (s l x:aQ),Ch n t s (A++[x]) l->∃B,Ch n t s A B/\bC n t B=some x/\l=x
 |[],s,l,x,h=>⟨s,rfl,h.1,h.2.symm⟩
 |q::A,s,l,x,h=>by
  obtain⟨B,E,G,H⟩:=sJ A q l x h.2;exact⟨B,⟨h.1,E⟩,G,H⟩
def Fg (F:bW n t)(g:Good n t s):cr t (cr t s)=s:=by
 obtain⟨_,_,A,_⟩:=y8 (F.two s.1 g.1) g.2;show(s.1,a9 (t s.1) (a9 (t s.1) s.2))=s;rw[A]
def AO (F:bW n t)(g:Good n t s):Good n t (cr t s):=⟨g.1,(y8 (F.two s.1 g.1) g.2).1⟩
def n8 (F:bW n t)(g:Good n t s)(h:bC n t s=some q):bC n t (cr t q)=some (cr t s):=by
 have A:=(zH F g h).1;obtain⟨_,_,B,_⟩:=y8 (F.two q.1 A.1) A.2;unfold bC;show(if inn n (aD (a9 (t q.1) (a9 (t q.1) q.2)) q.1)=true then some (aD (a9 (t q.1) (a9 (t q.1) q.2)) q.1,cB (a9 (t q.1) (a9 (t q.1) q.2)))else none)=_;rw[B];unfold bC at h;split at h
 .cases h;show(if inn n (aD (cB _) (aD _ s.1))=true then some (aD (cB _) (aD _ s.1),cB (cB _))else none)=_;rw[xx,uZ,OB g.1];rfl
 .cases h
def Fe (F:bW n t)(g:Good n t s)(A:cW n s):bC n t (cr t s)=none/\gE n t (cr t s)=yF n s.1 s.2:=by
 have B:=(y8 (F.two s.1 g.1) g.2).2.2.1;constructor
 .unfold bC;show(if inn n (aD (a9 (t s.1) (a9 (t s.1) s.2)) s.1)=true then _ else none)=none;rw[B,OC (by unfold cW at A;rw[A];decide)]
 .show yF n s.1 (a9 (t s.1) (a9 (t s.1) s.2))=_;rw[B]
theorem sI(F:bW n t):∀(B:List aQ) (s l:aQ),Good n t s->Ch n t s B l->∃A,Ch n t (cr t l) A (cr t s)/\l.1::A.map (·.1)=(s.1::B.map (·.1)).reverse/\A.length=B.length
 |[],s,l,g,h=>by cases(show s=l from h);exact⟨[],rfl,rfl,rfl⟩
 |q::B,s,l,g,h=>by
  obtain⟨A,E,G,H⟩:=sI F B q l (zH F g h.1).1 h.2;refine⟨A++[cr t s],jL A _ _ _ E (n8 F g h.1),?_,by simp[H]⟩;rw[Wb,<-QZ,G,QJ,Wq];simp[cr]
def Eo(e:Di)(p:Pl):aD e p≠p:=λh=>by
 have A:=OE Prod.fst h;have B:=OE Prod.snd h;cases e<;>simp only[aD]at A B<;>lia
theorem mO(F:bW n t):∀(k:Nat) (s:aQ) (E:List aQ) (l:aQ),E.length<=k->Good n t s->Ch n t s E l->cr t l=s->False
 |k,s,[],l,_,g,h,e=>by
  cases(show s=l from h);exact(y8 (F.two s.1 g.1) g.2).2.1 (OE Prod.snd e)
 |0,s,q::E,l,G,g,h,e=>by simp at G
 |k+1,s,q::E,l,G,g,h,e=>by
  rcases List.eq_nil_or_concat E with z|⟨A,x,z⟩
  .subst z;obtain⟨B,H⟩:=h;cases(show q=l from H);have N:q.1=s.1:=by rw[<-e];rfl
   unfold bC at B;split at B
   .cases B;exact Eo _ _ N
   .cases B
  .rw[List.concat_eq_append]at z;subst z;obtain⟨B,H⟩:=h;obtain⟨I,L,O,Q⟩:=sJ A q l x H;subst Q;have M:=(zH F g B).1;have J:=wR F A q I M L;have r:=n8 F J O;rw[e,B]at r;cases r;exact mO F k (cr t I) A I (by simp at G;lia) M L rfl
end
def z8 (h:inn n p=true):0<=yF n p e/\yF n p e<4*n:=by
 obtain⟨⟨A,B⟩,E,G⟩:=aC.mp h;cases e<;>simp only[yF]<;>lia
def gT (G:inn n p=true)(H:inn n q=true)(A:inn n (aD e p)=false)(B:inn n (aD f q)=false)(h:yF n p e=yF n q f):(p,e)=(q,f):=by
 obtain⟨⟨I,J⟩,L,M⟩:=aC.mp G;obtain⟨⟨N,O⟩,d0,d1⟩:=aC.mp H;have A:¬(inn n (aD e p)=true):=by rw[A];exact QU
 have B:¬(inn n (aD f q)=true):=by rw[B];exact QU
 rw[aC]at A B;obtain⟨a,b⟩:=p;obtain⟨c,d⟩:=q;simp only[]at I J L M N O d0 d1;have E:e=f/\a=c/\b=d:=by
  cases e<;>cases f<;>simp only[aD]at A B<;>simp only[yF]at h<;>first|(exfalso;lia)|(refine⟨rfl,?_,?_⟩<;>lia)
 obtain⟨rfl,rfl,rfl⟩:=E;rfl
def wm (H:aW R)(b:Bool):bW R.length (bO R b):=by
 cases b with
 |false=>rw[JT];exact sK H
 |true=>
  have e:bO R true=neg (dU R):=by
   funext p d;show(!(dU R p d==true))=! dU R p d;cases dU R p d<;>rfl
  rw[e];exact(sK H).neg
noncomputable def bN(b:Bool):Nat:=if b then 1 else 0
def nv (H:aW R)(b:Bool)(A:inn R.length p=true)(B:inn R.length (aD e p)=false):bO R b p e=decide (yF R.length p e%2=(bN b:Int)):=by
 show(!(dU R p e==b))=_;rw[D0 H A B];have q:yF R.length p e%2=0\/yF R.length p e%2=1:=by lia
 cases b<;>rcases q with q|q<;>rw[q]<;>rfl
def vm (H:aW R)(b:Bool)(hj:j<2*R.length):Good R.length (bO R b) (bE R.length (2*j+bN b)):=by
 have G:bN b=0\/bN b=1:=by cases b<;>simp[bN]
 obtain⟨A,B,E⟩:=wl (n:=R.length) (ρ:=2*j+bN b) (by lia) (by lia);refine⟨A,?_⟩;rw[nv H b A B,E];exact OF (by lia)
abbrev Wk(R:O7)(b:Bool)(j:Nat):Option (U5×Int):=vO R.length (bO R b) (R.length*R.length*4) (bE R.length (2*j+bN b)) [(bE R.length (2*j+bN b)).1]
set_option tactic.hygienic true in
def He (H:aW R)(b:Bool)(hj:j<2*R.length):
  ∃i L,i<2*R.length/\i≠j/\Wk R b j=some (L,((2*i+bN b:Nat):Int))/\Wk R b i=some (L.reverse,((2*j+bN b:Nat):Int)):=by
 have c:bN b=0\/bN b=1:=by cases b<;>simp[bN]
 have F:=wm H b;have g:=vm H b hj;obtain⟨h1,u,t⟩:=wl (n:=R.length) (ρ:=2*j+bN b) (by lia) (by lia);obtain⟨L,M,o⟩:=JB F g u [(bE R.length (2*j+bN b)).1];obtain⟨N,l,Q,U,s,m,c5⟩:=n9 _ _ _ _ _ o;have O:=wR F N _ l g Q;have A:inn R.length (aD (a9 (bO R b l.1) l.2) l.1)=false:=by
  unfold bC at U;split at U
  .cases U
  .next z=>simpa using z
 have h:=AO F O;have E:M=yF R.length l.1 (a9 (bO R b l.1) l.2):=m;have G:M%2=(bN b:Int):=by
  have:=h.2;rw[show bO R b (cr (bO R b) l).1 (cr (bO R b) l).2=bO R b l.1 (a9 (bO R b l.1) l.2)from rfl,nv H b O.1 A,<-E]at this;exact OG this
 obtain⟨a,w⟩:=z8 (e:=a9 (bO R b l.1) l.2) O.1;rw[<-E]at a w;obtain⟨i,d⟩:∃i:Nat,M=((2*i+bN b:Nat):Int):=⟨(M/2).toNat,by rcases c with z|z<;>rw[z]at G ⊢<;>lia⟩;have Y:i<2*R.length:=by lia
 obtain⟨y,x,e3⟩:=wl (n:=R.length) (ρ:=2*i+bN b) (by lia) (by lia);have B:bE R.length (2*i+bN b)=cr (bO R b) l:=by
  have q:=gT (p:=(bE R.length (2*i+bN b)).1) (q:=l.1) (e:=(bE R.length (2*i+bN b)).2) (f:=a9 (bO R b l.1) l.2) y O.1 x A (by rw[e3,<-d,E]);exact q
 obtain⟨k,d1,d2,d3⟩:=sI F N _ l g Q;obtain⟨I,J⟩:=Fe F g u;rw[t]at J;refine⟨i,L,Y,λz=>?_,by rw[<-d];exact o,?_⟩
 .subst z;exact mO F N.length _ N l (Qh _) g Q B.symm
 .show vO _ _ _ _ _=_;rw[B,z9 k _ _ _ _ d1 I (by lia),J,s];show some ([l.1]++_,_)=_;rw[List.singleton_append,d2];rfl
def Hd (H:aW R)(b:Bool):∃(L:Nat->Nat) (P:Nat->U5),∀j,j<2*R.length->L j<2*R.length/\L j≠j/\L (L j)=j/\P (L j)=(P j).reverse/\Wk R b j=some (P j,((2*L j+bN b:Nat):Int)):=by
 have E:∀j:Nat,∃i:Nat,∃A:U5,j<2*R.length->i<2*R.length/\i≠j/\Wk R b j=some (A,((2*i+bN b:Nat):Int))/\Wk R b i=some (A.reverse,((2*j+bN b:Nat):Int)):=λj=>by
  by_cases hj:j<2*R.length
  .obtain ⟨i,A,h⟩:=He H b hj;exact⟨i,A,λ_=>h⟩
  .exact ⟨0,[],λz=>OD z hj⟩
 obtain⟨L,J⟩:=Classical.axiomOfChoice E;obtain⟨P,G⟩:=Classical.axiomOfChoice J;refine⟨L,P,λj hj=>?_⟩;obtain⟨I,M,N,O⟩:=G j hj;obtain⟨_,_,B,_⟩:=G (L j) I;rw[O]at B;simp only[Option.some.injEq,Prod.mk.injEq]at B;refine⟨I,M,?_,B.1.symm,N⟩;have:=B.2;lia
end Lib
namespace Lib
section
variable{n:Nat}{t:Tr}
theorem z7:∀(B:List aQ) (s l q E:aQ),Ch n t s B l->bC n t l=none->q∈s::B->bC n t q=some E->E∈s::B
 |[],s,l,q,E,h,e,hq,A=>by
  cases(show s=l from h);cases Ql.mp hq;rw[e]at A;cases A
 |x::B,s,l,q,E,h,e,hq,A=>by
  rcases Qn.mp hq with rfl|hq
  .rw[h.1]at A;cases A;simp
  .exact Qo _ (z7 B x l q E h.2 e hq A)
theorem nZ:∀(A:List aQ) (s l q:aQ),Ch n t s A l->q∈s::A->q=s\/∃B∈s::A,bC n t B=some q
 |[],s,l,q,h,hq=>.inl (Ql.mp hq)
 |x::A,s,l,q,h,hq=>by
  rcases Qn.mp hq with rfl|hq
  .exact .inl rfl
  .rcases nZ A x l q h.2 hq with rfl|⟨B,E,G⟩
   .exact .inr ⟨s,by simp,h.1⟩
   .exact .inr ⟨B,Qo _ E,G⟩
theorem xu(F:bW n t):∀(A:List aQ) (s l q:aQ),Good n t s->Ch n t s A l->q∈s::A->Good n t q
 |[],s,l,q,g,h,hq=>by cases Ql.mp hq;exact g
 |x::A,s,l,q,g,h,hq=>by
  rcases Qn.mp hq with rfl|hq
  .exact g
  .exact xu F A x l q (zH F g h.1).1 h.2 hq
theorem nY:∀(A:List aQ) (s l:aQ),Ch n t s A l->l∈s::A
 |[],s,l,h=>by cases(show s=l from h);simp
 |x::A,s,l,h=>Qo _ (nY A x l h.2)
theorem lE:∀(A:List aQ) (s l q:aQ),Ch n t s A l->q∈s::A->∃i,bL n t s i=some q
 |[],s,l,q,h,hq=>⟨0,by rw[Ql.mp hq];rfl⟩
 |x::A,s,l,q,h,hq=>by
  rcases Qn.mp hq with rfl|hq
  .exact ⟨0,rfl⟩
  .obtain ⟨i,e⟩:=lE A x l q h.2 hq;exact⟨i+1,by rw[vF h.1];exact e⟩
theorem z6(F:bW n t):∀(B:List aQ) (s l:aQ),Good n t s->Ch n t s B l->∃A,Ch n t (cr t l) A (cr t s)/\cr t l::A=((s::B).map (cr t)).reverse
 |[],s,l,g,h=>by cases(show s=l from h);exact⟨[],rfl,rfl⟩
 |q::B,s,l,g,h=>by
  obtain⟨A,E,G⟩:=z6 F B q l (zH F g h.1).1 h.2;refine⟨A++[cr t s],jL A _ _ _ E (n8 F g h.1),?_⟩;rw[<-QZ,G];simp
theorem gW (F:bW n t)(g:Good n t s)(g':Good n t I)(J:cW n s)(A:cW n I):∀(i j:Nat) (q:aQ),bL n t s i=some q->bL n t I j=some q->s=I
 |0,0,q,h,B=>by cases h;cases B;rfl
 |0,j+1,q,h,B=>by
  cases h;obtain⟨E,G,H⟩:=Qt.mp B;have:=(zH F (zW F g' j E G) H).2.1;unfold cW at J;rw[J]at this;cases this
 |i+1,0,q,h,B=>by
  cases B;obtain⟨E,G,H⟩:=Qt.mp h;have:=(zH F (zW F g i E G) H).2.1;unfold cW at A;rw[A]at this;cases this
 |i+1,j+1,q,h,B=>by
  obtain⟨E,G,H⟩:=Qt.mp h;obtain⟨M,L,N⟩:=Qt.mp B;have O:=(zH F (zW F g i E G) H).2.2;have Q:=(zH F (zW F g' j M L) N).2.2;have e:M=E:=Q.trans O.symm;rw[e]at L;exact gW F g g' J A i j E G L
noncomputable def fQ(n:Nat)(t:Tr)(A:Pl->Bool):Prop:=∀p e,inn n p=true->inn n (aD e p)=true->t p e=true->A (aD e p)=A p
noncomputable def eA(t:Tr)(A:Pl->Bool)(p:Pl)(e:Di):Bool:=A p&&t p e
noncomputable def hE(n:Nat)(t:Tr)(A:Pl->Bool)(r c:Nat):Bool:=if c<n then eA t A ((r:Int),(c:Int)) .l else eA t A ((r:Int),(n:Int)-1) .r
variable{A:Pl->Bool}
def z5 (B:r<n)(E:c<n):inn n ((r:Int),(c:Int))=true:=aC.mpr ⟨⟨by show(0:Int)<=r;lia,by show(r:Int)<n;lia⟩,by show(0:Int)<=c;lia,by show(c:Int)<n;lia⟩
def B4(n ρ:Nat):Nat×Nat:=if ρ<=n then(0,ρ)else if ρ<=2*n then(ρ-n,n)else if ρ<=3*n then(n,3*n-ρ)else(4*n-ρ,0)
noncomputable def oG(s:aQ)(B:List aQ)(p:Pl):Bool:=decide (p∈(s::B).map (·.1))
def jM (F:bW n t)(g:Good n t q)(h:t q.1 e=true):e=q.2\/e=a9 (t q.1) q.2:=by
 by_cases z:e=q.2
 .exact .inl z
 .exact .inr (HF (F.two q.1 g.1) g.2 h z).symm
def rY (F:bW n t)(g:Good n t s)(H:cW n s)(h:Ch n t s B l)(hl:bC n t l=none)(J:p∈(s::B).map (·.1))(E:inn n (aD e p)=true)(L:t p e=true):aD e p∈(s::B).map (·.1):=by
 obtain⟨q,G,rfl⟩:=QP.mp J;have M:=xu F B s l q g h G;rcases jM F M L with z|z
 .rcases nZ B s l q h G with rfl|⟨I,m0,N⟩
  .rw[z]at E;unfold cW at H;rw[H]at E;cases E
  .have:=(zH F (xu F B s l I g h m0) N).2.2;refine QP.mpr ⟨I,m0,?_⟩;rw[z];exact OE Prod.fst this
 .rw[z]at E ⊢;have O:bC n t q=some (aD (a9 (t q.1) q.2) q.1,cB (a9 (t q.1) q.2)):=by unfold bC;rw[OB E]
  exact QP.mpr ⟨_,z7 B s l q _ h hl G O,rfl⟩
def Em (F:bW n t)(g:Good n t s)(B:cW n s)(h:Ch n t s I l)(hl:bC n t l=none):fQ n t (oG s I):=λp e E G H=>by
 refine decide_eq_decide.mpr ⟨λz=>?_,λz=>rY F g B h hl z G H⟩;have:=rY F g B h hl (p:=aD e p) (e:=cB e) z (by rw[xx];exact E) (by rw[F.con p e E G];exact H)
 rwa[xx]at this
def Fd (F:bW n t)(g:Good n t s)(Q:cW n s)(h:Ch n t s H l)(hl:cW n (cr t l))(g':Good n t B)(I:cW n B)(h':Ch n t B E N)(O:q∈B::E)(U:oG s H q.1=true):B=s\/B=cr t l:=by
 have Y:=xu F E B N q g' h' O;obtain⟨G,m1,J⟩:=QP.mp (OG U);have k:=xu F H s l G g h m1;have J:G.1=q.1:=J;obtain⟨j,hj⟩:=lE E B N q h' O;have u:t G.1 q.2=true:=by rw[J];exact Y.2
 rcases jM F k u with z|z
 .left
  obtain⟨i,M⟩:=lE H s l G h m1;have:G=q:=Prod.ext J z.symm;rw[this]at M;exact gW F g' g I Q j i q hj M
 .right
  obtain⟨L,o,p⟩:=z6 F H s l g h;have m2:cr t G∈cr t l::L:=by
   rw[p,V1];exact WV m1
  have:cr t G=q:=Prod.ext J z.symm;rw[this]at m2;obtain⟨i,M⟩:=lE L _ _ q o m2;exact gW F g' (AO F (wR F H s l g h)) I hl j i q hj M
end
def u9 (A:0<n)(h:ρ<4*n)(h':σ<4*n)(e:bE n ρ=bE n σ):ρ=σ:=by
 have a:=(wl A h).2.2;have b:=(wl A h').2.2;rw[e,b]at a;lia
end Lib
namespace Lib
section
variable{n:Nat}{t:Tr}
theorem rX:∀(A:List aQ) (s l x:aQ),Ch n t s A l->x∈s::A->∃B,Ch n t s B x
 |[],s,l,x,h,hx=>by cases Ql.mp hx;exact⟨[],rfl⟩
 |q::A,s,l,x,h,hx=>by
  rcases Qn.mp hx with rfl|hx
  .exact ⟨[],rfl⟩
  .obtain ⟨B,E⟩:=rX A q l x h.2 hx;exact⟨q::B,h.1,E⟩
def Fc (F:bW n t)(g:Good n t q)(A:Good n t x)(h:x.1=q.1):x=q\/x=cr t q:=by
 obtain⟨p,e⟩:=x;obtain rfl:p=q.1:=h;rcases jM F g A.2 with z|z
 .exact .inl (by rw[show e=q.2 from z])
 .exact .inr (by rw[show e=a9 (t q.1) q.2 from z];rfl)
theorem gX(F:bW n t):∀(A:List aQ) (s l:aQ),Good n t s->Ch n t s A l->(s::A).Nodup->((s::A).map (·.1)).Nodup
 |[],s,l,g,h,nd=>by simp
 |q::A,s,l,g,h,nd=>by
  have G:=(zH F g h.1).1;have B:=QB.mp nd;refine QB.mpr ⟨λI=>?_,gX F A q l G h.2 B.2⟩;obtain⟨x,E,e⟩:=QP.mp I;have J:=xu F A q l x G h.2 E;rcases Fc F g J e with rfl|z
  .exact B.1 E
  .obtain ⟨H,L⟩:=rX (q::A) s l x h (Qo _ E);exact mO F H.length s H x (Qh _) g L (by rw[z];exact Fg F g)
theorem u8:∀(i j:Nat),bL n t s i=some x->bL n t s (i+j)=bL n t x j
 |i,0,h=>h
 |i,j+1,h=>by
  show(bL n t s (i+j)).bind (bC n t)=(bL n t x j).bind (bC n t);rw[u8 i j h]
theorem gY (F:bW n t)(g:Good n t s):∀(i j:Nat),bL n t s i=some x->bL n t s (i+j)=some x->bL n t s j=some s
 |0,j,h,A=>by cases h;rw[WO]at A;exact A
 |i+1,j,h,A=>by
  obtain⟨E,G,I⟩:=Qt.mp h;rw[show i+1+j=(i+j)+1 by lia]at A;obtain⟨H,B,J⟩:=Qt.mp A;have L:=(zH F (zW F g i E G) I).2.2;have M:=(zH F (zW F g (i+j) H B) J).2.2;have e:H=E:=M.trans L.symm;rw[e]at B;exact gY F g i j G B
theorem sH:∀(k:Nat) (x:aQ),bL n t s k=some x->∃A,Ch n t s A x/\A.length=k/\∀q∈A,∃i,0<i/\i<=k/\bL n t s i=some q
 |0,x,h=>by cases h;exact⟨[],rfl,rfl,λq B=>by cases B⟩
 |k+1,x,h=>by
  obtain⟨E,G,H⟩:=Qt.mp h;obtain⟨A,c,e,m⟩:=sH k E G;refine⟨A++[x],jL A s E x c H,by simp[e],λq B=>?_⟩;rcases Qs.mp B with z|z
  .obtain ⟨i,a,b,d⟩:=m q z;exact⟨i,a,by lia,d⟩
  .rw[Ql.mp z];exact⟨k+1,by lia,by lia,h⟩
theorem mN (F:bW n t)(g:Good n t s):∀(A:List aQ) (x l:aQ) (k:Nat),bL n t s k=some x->Ch n t x A l->(∀j,0<j->j<=k+A.length->bL n t s j≠some s)->(x::A).Nodup
 |[],x,l,k,h,c,m=>by simp
 |q::A,x,l,k,h,c,m=>by
  have E:bL n t s (k+1)=some q:=by
   show(bL n t s k).bind (bC n t)=some q;rw[h];exact c.1
  refine QB.mpr ⟨λhm=>?_,mN F g A q l (k+1) E c.2 λj G J=>m j G (by simp;lia)⟩;obtain⟨i,H,hl⟩:∃i,bL n t q i=some x/\i<=A.length:=by
   have B:∀(A:List aQ) (q l:aQ),Ch n t q A l->x∈q::A->∃i,bL n t q i=some x/\i<=A.length:=by
    intro A
    induction A with
    |nil=>intro q l _ hm;cases Ql.mp hm;exact⟨0,rfl,Qh _⟩
    |cons y A I=>
     intro q l c hm;rcases Qn.mp hm with rfl|hm
     .exact ⟨0,rfl,by lia⟩
     .obtain ⟨i,a,b⟩:=I y l c.2 hm;exact⟨i+1,by rw[vF c.1];exact a,by simp;lia⟩
   exact B A q l c.2 hm
  have e:bL n t s (k+(i+1))=some x:=by
   rw[show k+(i+1)=(k+1)+i by lia,u8 (k+1) i E];exact H
  exact m (i+1) (by lia) (by simp;lia) (gY F g k (i+1) h e)
def CP(P:S7)[DecidablePred P]:∀(k:Nat),P k->∃m,m<=k/\P m/\∀j,j<m->¬P j
 |0,h=>⟨0,Qh _,h,λj hj=>by lia⟩
 |k+1,h=>by
  by_cases q:∃j,j<=k/\P j
  .obtain ⟨j,hj,A⟩:=q;have:∀(b j:Nat),j<=b->P j->∃m,m<=j/\P m/\∀i,i<m->¬P i:=by
    intro b
    induction b with
    |zero=>intro j hj A;exact⟨j,Qh _,A,λi B=>by lia⟩
    |succ b E=>
     intro j hj A;by_cases z:∃i,i<j/\P i
     .obtain ⟨i,I,G⟩:=z;obtain⟨m,a,c,d⟩:=E i (by lia) G;exact⟨m,by lia,c,d⟩
     .exact ⟨j,Qh _,A,λi B H=>z ⟨i,B,H⟩⟩
   obtain⟨m,a,c,d⟩:=this j j (Qh _) A;exact⟨m,by lia,c,d⟩
  .exact ⟨k+1,Qh _,h,λj hj A=>q ⟨j,by lia,A⟩⟩
noncomputable def iU(n:Nat)(t:Tr)(A:Pl->Bool):Prop:=∀p e,inn n p=true->inn n (aD e p)=false->t p e=true->A p=true
theorem AN (F:bW n t)(E:fQ n t A)(G:iU n t A)(g:Good n t s)(H:A s.1=false):∀k,∃x,bL n t s k=some x/\A x.1=false
 |0=>⟨s,rfl,H⟩
 |k+1=>by
  obtain⟨x,e,h⟩:=AN F E G g H k;have B:=zW F g k x e;have o:=(y8 (F.two x.1 B.1) B.2).1;have I:inn n (aD (a9 (t x.1) x.2) x.1)=true:=by
   cases z:inn n (aD (a9 (t x.1) x.2) x.1)with
   |true=>rfl
   |false=>rw[G x.1 _ B.1 z o]at h;cases h
  refine⟨(aD (a9 (t x.1) x.2) x.1,cB (a9 (t x.1) x.2)),?_,?_⟩
  .show (bL n t s k).bind (bC n t)=_;rw[e];show bC n t x=_;unfold bC;rw[OB I]
  .show A (aD _ x.1)=false;rw[E x.1 _ B.1 I o];exact h
structure b9(n:Nat)(t:Tr)(s:aQ)(qs:List aQ)(l:aQ):Prop where
 g:Good n t s
 c:Ch n t s qs l
 back:bC n t l=some s
 nd:((s::qs).map (·.1)).Nodup
def Fb (F:bW n t)(U:fQ n t A)(Y:iU n t A)(g:Good n t s)(M:A s.1=false):∃B l,b9 n t s B l/\(∀q∈s::B,A q.1=false)/\B.length<n*n*4:=by
 have H:=AN F U Y g M;obtain⟨i,j,N,u,E⟩:=oF (n*n*4) (λi=>code n ((bL n t s i).getD s)) (λi O=>by
  obtain⟨x,e,_⟩:=H i;show code n ((bL n t s i).getD s)<_;rw[e];exact uY (zW F g i x e).1)
 obtain⟨x,I,_⟩:=H i;obtain⟨y,J,_⟩:=H j
 replace E:code n ((bL n t s i).getD s)=code n ((bL n t s j).getD s):=E
 rw[I,J]at E;have e:=AA (zW F g i x I).1 (zW F g j y J).1 E;have back:bL n t s (j-i)=some s:=gY F g i (j-i) I (by rw[show i+(j-i)=j by lia,J,<-e]);obtain⟨T,d,z,G⟩:=CP (λk=>0<k/\bL n t s k=some s) (j-i) ⟨by lia,back⟩;obtain⟨L,rfl⟩:∃L,T=L+1:=⟨T-1,by lia⟩;obtain⟨l,hl,o⟩:=Qt.mp z.2;obtain⟨B,c,len,m⟩:=sH L l hl;have nd:=mN F g B s l 0 rfl c λj N u E=>G j (by lia) ⟨N,E⟩;refine⟨B,l,⟨g,c,o,gX F B s l g c nd⟩,λq hq=>?_,by lia⟩;rcases Qn.mp hq with rfl|hq
 .exact M
 .obtain ⟨i,_,_,O⟩:=m q hq;obtain⟨x,Q,p⟩:=H i;rw[O]at Q;cases Q;exact p
end
end Lib
namespace Lib
section
variable{n:Nat}{t:Tr}
noncomputable def cC(p:Pl):Int:=1-2*((p.1+p.2)%2)
def Fa(e:Di)(p:Pl):cC (aD e p)=- cC p:=by
 obtain⟨a,b⟩:=p;unfold cC;cases e<;>simp only[aD]<;>lia
def u7 (h:bC n t s=some q):cC q.1=- cC s.1:=by
 unfold bC at h;split at h
 .cases h;exact Fa _ _
 .cases h
def wS(p:Pl):cC p=1\/cC p=-1:=by unfold cC;lia
theorem sG:∀(A:List aQ) (s l:aQ),Ch n t s A l->((s::A).map λq=>cC q.1).sum=if cC s.1=cC l.1 then cC s.1 else 0
 |[],s,l,h=>by cases(show s=l from h);simp
 |q::A,s,l,h=>by
  have B:=sG A q l h.2;have p:=u7 h.1;rw[QJ,VR,B];rcases wS s.1 with a|a<;>rcases wS l.1 with b|b<;>rw[a]at p<;>simp[p,a,b]
def E9 (h:aD e p=aD f p):e=f:=by
 obtain⟨a,b⟩:=p;cases e<;>cases f<;>simp[aD]at h<;>first|rfl|lia
theorem b9.sum (R:b9 n t s A l):((s::A).map λq=>cC q.1).sum=0:=by
 rw[sG A s l R.c,u7 R.back,OC];have:=wS l.1;lia
def b9.four (F:bW n t)(R:b9 n t s A l):4<=(s::A).length:=by
 have h:=R.sum;have c:=R.c;have b:=R.back
 match A,c with
 |[],c=>exfalso;have:=wS s.1;simp at h;omega
 |[q],c=>
  exfalso;obtain⟨B,G⟩:=c;have H:q=l:=G;subst H;have E:=(zH F R.g B).1;have o:=(y8 (F.two q.1 E.1) E.2).2.1;have I:=(zH F R.g B).2.2;unfold bC at b;split at b
  .cases b;have J:=OE Prod.fst I;exact o (E9 (show aD (a9 (t q.1) q.2) q.1=aD q.2 q.1 from J))
  .cases b
 |[q,r],c=>
  exfalso;simp only[QJ,Vu,VR,List.sum_nil]at h;have:=wS s.1;have:=wS q.1;have:=wS r.1;omega
 |_::_::_::_,_=>simp
def b9.next (R:b9 n t s A l):∀q∈s::A,∃B∈s::A,bC n t q=some B:=by
 have E:∀(A:List aQ) (x:aQ),Ch n t x A l->∀q∈x::A,q=l\/∃B∈x::A,bC n t q=some B:=by
  intro A
  induction A with
  |nil=>intro x h q hq;cases(show x=l from h);exact .inl (Ql.mp hq)
  |cons y A G=>
   intro x h q hq;rcases Qn.mp hq with rfl|hq
   .exact .inr ⟨y,by simp,h.1⟩
   .rcases G y h.2 q hq with z|⟨B,a,b⟩
    .exact .inl z
    .exact .inr ⟨B,Qo _ a,b⟩
 intro q hq;rcases E A s R.c q hq with rfl|z
 .exact ⟨s,by simp,R.back⟩
 .exact z
def b9.prev (R:b9 n t s A l):∀q∈s::A,∃B∈s::A,bC n t B=some q:=by
 intro q E;rcases nZ A s l q R.c E with rfl|z
 .exact ⟨l,nY A _ l R.c,R.back⟩
 .exact z
def b9.go (F:bW n t)(R:b9 n t s A l)(I:p∈(s::A).map (·.1))(J:t p e=true):aD e p∈(s::A).map (·.1):=by
 obtain⟨q,E,rfl⟩:=QP.mp I;have L:=xu F A s l q R.g R.c E;rcases jM F L J with rfl|rfl
 .obtain ⟨G,H,M⟩:=R.prev q E;have:=(zH F (xu F A s l G R.g R.c H) M).2.2;exact QP.mpr ⟨G,H,OE Prod.fst this⟩
 .obtain ⟨O,N,B⟩:=R.next q E;unfold bC at B;split at B
  .cases B;exact QP.mpr ⟨_,N,rfl⟩
  .cases B
noncomputable def iX(A:Pl->Bool)(ps:U5)(p:Pl):Bool:=A p || decide (p∈ps)
def b9.clo (F:bW n t)(H:fQ n t A)(R:b9 n t s I l):fQ n t (iX A ((s::I).map (·.1))):=by
 intro p e E G B;unfold iX;rw[H p e E G B];congr 1;rw[decide_eq_decide];constructor
 .intro h;have:=R.go F (e:=cB e) h (by rw[F.con p e E G];exact B);rw[xx]at this;exact this
 .exact λh=>R.go F h B
def b9.last (F:bW n t)(R:b9 n t s A l):l.1=aD s.2 s.1:=by
 have:=(zH F (wR F A s l R.g R.c) R.back).2.2;exact OE Prod.fst this
end
end Lib
namespace Lib
theorem nX{B:Type}[DecidableEq B]:∀{a b:List B},a.Nodup->b.Nodup->(∀x,x∈a↔x∈b)->a.Perm b
 |[],b,_,_,h=>by
  cases b with
  |nil=>exact .refl _
  |cons y b=>exact OD ((h y).mpr (by simp)) (by simp)
 |x::a,b,H,E,h=>by
  have I:x∈b:=(h x).mp (by simp);have A:=QB.mp H;refine(Wu.cons x (nX A.2 (E.erase x) λy=>?_)).trans (List.perm_cons_erase I).symm;rw[E.mem_erase_iff];constructor
  .intro G;exact⟨λe=>A.1 (e▸G),(h y).mp (by simp[G])⟩
  .rintro ⟨J,L⟩;rcases Qn.mp ((h y).mpr L)with z|z
   .exact OD z J
   .exact z
structure bx(R:O7)(b:Bool)(L:Nat->Nat)(P:Nat->U5):Prop where
 lt:∀j,j<2*R.length->L j<2*R.length
 ne:∀j,j<2*R.length->L j≠j
 inv:∀j,j<2*R.length->L (L j)=j
 rv:∀j,j<2*R.length->P (L j)=(P j).reverse
 wk:∀j,j<2*R.length->Wk R b j=some (P j,((2*L j+bN b:Nat):Int))
section
variable{R:O7}{b:Bool}{L:Nat->Nat}{P:Nat->U5}
set_option tactic.hygienic true in
def bx.ch (H:aW R)(W:bx R b L P)(hj:j<2*R.length):∃A l,Ch R.length (bO R b) (bE R.length (2*j+bN b)) A l/\bC R.length (bO R b) l=none/\P j=(bE R.length (2*j+bN b)::A).map (·.1)/\cr (bO R b) l=bE R.length (2*L j+bN b)/\cW R.length (bE R.length (2*j+bN b)):=by
 have Y:bN b=0\/bN b=1:=by cases b<;>simp[bN]
 have F:=wm H b;have hl:=W.lt j hj;refine aP λk I=>?_;obtain⟨A,l,G,E,J,M,u⟩:=n9 _ _ _ _ _ (W.wk j hj);have N:=wR F A _ l (vm H b hj) G;have B:inn R.length (aD (a9 (bO R b l.1) l.2) l.1)=false:=by
  unfold bC at E;split at E
  .cases E
  .next z=>simpa using z
 obtain⟨O,Q,U⟩:=wl (n:=R.length) (ρ:=2*L j+bN b) (by lia) (by lia);refine I ?_;refine⟨A,l,G,E,J,?_,(wl (n:=R.length) (ρ:=2*j+bN b) (by lia) (by lia)).2.1⟩;exact gT (p:=l.1) (q:=(bE R.length (2*L j+bN b)).1) (e:=a9 (bO R b l.1) l.2) (f:=(bE R.length (2*L j+bN b)).2) N.1 O B Q (by rw[U];exact M.symm)
def bx.nd (H:aW R)(W:bx R b L P)(hj:j<2*R.length):(P j).Nodup:=by
 have F:=wm H b;obtain⟨A,l,B,J,E,_,G⟩:=W.ch H hj;have g:=vm H b hj;rw[E];refine gX F A _ l g B (mN F g A _ l 0 rfl B λi M _ I=>?_);have:=nO F g G i 0 _ I rfl;lia
theorem bx.inn (H:aW R)(W:bx R b L P)(hj:j<2*R.length)(A:p∈P j):Lib.inn R.length p=true:=by
 have F:=wm H b;obtain⟨B,l,E,J,G,_,M⟩:=W.ch H hj;rw[G]at A;obtain⟨q,I,rfl⟩:=QP.mp A;exact(xu F B _ l q (vm H b hj) E I).1
def bx.meet (H:aW R)(W:bx R b L P)(hj:j<2*R.length)(A:k<2*R.length)(B:p∈P j)(E:p∈P k):k=j\/k=L j:=by
 have Y:bN b=0\/bN b=1:=by cases b<;>simp[bN]
 have F:=wm H b;have hl:=W.lt j hj;obtain⟨u,l,I,z,J,G,M⟩:=W.ch H hj;obtain⟨N,o,d1,d2,d3,d4,O⟩:=W.ch H A;rw[J]at B;rw[d3]at E;obtain⟨q,Q,rfl⟩:=QP.mp E;have U:cW R.length (cr (bO R b) l):=by rw[G];exact(wl (n:=R.length) (ρ:=2*L j+bN b) (by lia) (by lia)).2.1
 rcases Fd F (vm H b hj) M I U (vm H b A) O d1 Q (OF B)with e|e
 .left;have:=u9 (by lia) (by lia) (by lia) e;lia
 .right;rw[G]at e;have:=u9 (by lia) (by lia) (by lia) e;lia
noncomputable def jA(n:Nat)(P:Nat->U5):U5:=(QA (2*n)).flatMap P
noncomputable def qQ(n:Nat)(L:Nat->Nat)(P:Nat->U5):U5:=((QA (2*n)).filter λj=>decide (j<L j)).flatMap P
def bx.once(W:bx R b L P)(p:Pl):p∈qQ R.length L P↔p∈jA R.length P:=by
 unfold qQ jA;simp only[WS,Vb,Ws,OH];constructor
 .rintro ⟨j,⟨A,_⟩,B⟩;exact⟨j,A,B⟩
 .rintro ⟨j,A,B⟩;by_cases z:j<L j
  .exact ⟨j,⟨A,z⟩,B⟩
  .refine ⟨L j,⟨W.lt j A,?_⟩,?_⟩
   .have:=W.ne j A;have:=W.inv j A;lia
   .rw[W.rv j A,V1];exact B
def bx.once_nd(H:aW R)(W:bx R b L P):(qQ R.length L P).Nodup:=by
 have E:∀A:T9,A.Nodup->(∀j∈A,j<2*R.length/\j<L j)->(A.flatMap P).Nodup:=by
  intro A
  induction A with
  |nil=>intro _ _;simp
  |cons j A N=>
   intro nd G;have B:=QB.mp nd;obtain⟨I,u⟩:=G j (by simp);rw[List.flatMap_cons,QW];refine⟨W.nd H I,N B.2 λi O=>G i (by simp[O]),λp Q q U e=>?_⟩;subst e;obtain⟨k,M,J⟩:=WS.mp U;obtain⟨Y,z⟩:=G k (by simp[M]);rcases W.meet H I Y Q J with e|e
   .exact B.1 (e▸M)
   .have:=W.inv j I;rw[<-e]at this;lia
 refine E _ ?_ λj hj=>?_
 .exact VS.filter _ List.nodup_range
 .obtain ⟨a,c⟩:=Vb.mp hj;exact⟨Ws.mp a,OG c⟩
def bx.clo(H:aW R)(W:bx R b L P):fQ R.length (bO R b) λp=>decide (p∈jA R.length P):=by
 have F:=wm H b;intro p e E G I;show decide (aD e p∈jA R.length P)=decide (p∈jA R.length P);rw[decide_eq_decide];unfold jA;simp only[WS,Ws];have one:∀j,j<2*R.length->(aD e p∈P j↔p∈P j):=λj hj=>by
  obtain⟨Q,l,J,M,N,_,O⟩:=W.ch H hj;have:=Em F (vm H b hj) O J M p e E G I;unfold oG at this;rw[<-N,decide_eq_decide]at this;exact this
 constructor
 .rintro ⟨j,A,B⟩;exact⟨j,A,(one j A).mp B⟩
 .rintro ⟨j,A,B⟩;exact⟨j,A,(one j A).mpr B⟩
def bx.outs(H:aW R)(W:bx R b L P):iU R.length (bO R b) λp=>decide (p∈jA R.length P):=by
 have M:bN b=0\/bN b=1:=by cases b<;>simp[bN]
 intro p e G I J;rw[nv H b G I]at J;have A:=OG J;obtain⟨j,k⟩:=z8 (e:=e) G;obtain⟨i,N⟩:∃i:Nat,yF R.length p e=((2*i+bN b:Nat):Int):=⟨(yF R.length p e/2).toNat,by rcases M with z|z<;>rw[z]at A ⊢<;>omega⟩;have B:i<2*R.length:=by omega
 obtain⟨O,Q,U⟩:=wl (n:=R.length) (ρ:=2*i+bN b) (by omega) (by omega);have E:=gT (p:=(bE R.length (2*i+bN b)).1) (q:=p) (e:=(bE R.length (2*i+bN b)).2) (f:=e) O G Q I (by rw[U,N]);obtain⟨u,l,o,d,Y,_,c⟩:=W.ch H B;refine OF (WS.mpr ⟨i,Ws.mpr B,?_⟩);rw[Y];have:(bE R.length (2*i+bN b)).1=p:=OE Prod.fst E;simp[this]
end
end Lib
namespace Lib
noncomputable def ca(p q:Pl):Prop:=p.1<q.1\/(p.1=q.1/\p.2<q.2)
instance:DecidableRel ca:=λp q=>by unfold ca;exact inferInstance
def sF (h:ca p q)(k:ca q r):ca p r:=by unfold ca at *;lia
def sE (h:ca p p):False:=by unfold ca at h;lia
def uh (h:p≠q):ca p q\/ca q p:=by
 unfold ca;by_cases e:p.1=q.1
 .have:p.2≠q.2:=λz=>h (Prod.ext e z);lia
 .lia
def ug (A:c<=n)(h:p∈bA n r c):ca p ((r:Int),(c:Int)):=by
 unfold ca;rcases cv.mp h with⟨i,B,h⟩|h
 .obtain ⟨a,j,hj,e⟩:=bF.mp h
  left;rw[a];show(i:Int)<r;lia
 .obtain ⟨a,j,hj,e⟩:=bF.mp h
  right;refine⟨a,?_⟩;rw[e];show(j:Int)<c;lia
def FY (B:inn n p=true)(h:p∉bA n r c)(A:p≠((r:Int),(c:Int))):ca ((r:Int),(c:Int)) p:=by
 obtain⟨⟨G,H⟩,I,J⟩:=aC.mp B;rw[cv]at h;simp only[not_or,not_exists,not_and]at h;rcases uh A with z|z
 .exfalso;unfold ca at z;have z:p.1<(r:Int)\/(p.1=(r:Int)/\p.2<(c:Int)):=z;rcases z with z|⟨E,L⟩
  .exact h.1 p.1.toNat (by lia) (bF.mpr ⟨by lia,p.2.toNat,by lia,by lia⟩)
  .exact h.2 (bF.mpr ⟨E,p.2.toNat,by lia,by lia⟩)
 .exact z
theorem kS(n:Nat):∀(r c:Nat),c<=n->(bA n r c).Pairwise ca
 |0,0,_=>by simp[bA,dM]
 |r+1,0,_=>by rw[<-oa];exact kS n r n (Qh _)
 |r,c+1,h=>by
  rw[xW];refine VH.mpr ⟨kS n r c (by lia),by simp,λp A q B=>?_⟩;rw[Ql.mp B];exact ug (by lia) A
termination_by r c=>(r,c)
def c9:p∈bA n n 0↔inn n p=true:=by
 rw[cv,aC];constructor
 .rintro (⟨i,A,h⟩|h)
  .obtain ⟨a,j,hj,e⟩:=bF.mp h;rw[a,e];lia
  .obtain ⟨_,j,hj,_⟩:=bF.mp h;lia
 .rintro ⟨⟨B,E⟩,G,H⟩;exact .inl ⟨p.1.toNat,by lia,bF.mpr ⟨by lia,p.2.toNat,by lia,by lia⟩⟩
def sD{ps:U5}(h:ps.Pairwise ca):ps.Nodup:=VS.imp (S:=λa c=>a≠c) (λ{a c} z e=>by rw[e]at z;exact sE z) h
section
variable{R:O7}{b:Bool}{L:Nat->Nat}{P:Nat->U5}
structure RI(R:O7)(b:Bool)(L:Nat->Nat)(P:Nat->U5)(done ps:U5)(rs:O8):Prop where
 clo:fQ R.length (bO R b) λp=>decide (p∈ps)
 nd:ps.Nodup
 perm:ps.Perm (qQ R.length L P++rs.flatten)
 inn:∀p∈ps,Lib.inn R.length p=true
 dn:∀p∈done,p∈ps
 ok:∀r∈rs,4<=r.length/\(r.map cC).sum=0
 hd:∀r∈rs,∃x tl,r=x::tl/\x∈done/\r.Nodup/\∀y∈tl,ca x y
 inc:rs.Pairwise λa c=>∃x y,a.head?=some x/\c.head?=some y/\ca x y
def RI.zero(H:aW R)(W:bx R b L P){ps:U5}(nd:ps.Nodup)(A:∀p,p∈ps↔p∈jA R.length P):RI R b L P [] ps []:=by
 have e:(λp=>decide (p∈ps))=λp=>decide (p∈jA R.length P):=funext λp=>by rw[decide_eq_decide];exact A p
 refine⟨by rw[e];exact W.clo H,nd,?_,λp B=>?_,by simp,by simp,by simp,.nil⟩
 .rw[List.flatten_nil,Q6];exact nX nd (W.once_nd H) λp=>(A p).trans (W.once p).symm
 .obtain ⟨j,hj,B⟩:=WS.mp ((A p).mp B);exact W.inn H (Ws.mp hj) B
def RI.skip{done ps:U5}{A:O8}{x:Pl}(I:RI R b L P done ps A)(B:x∈ps):RI R b L P (done++[x]) ps A:=
 ⟨I.clo,I.nd,I.perm,I.inn,λp E=>by
  rcases Qs.mp E with z|z
  .exact I.dn p z
  .rw[Ql.mp z];exact B,I.ok,λr G=>by
  obtain⟨y,H,e,h,nd,l⟩:=I.hd r G;exact⟨y,H,e,QX _ h,nd,l⟩,I.inc⟩
noncomputable def s0(t:Tr)(p:Pl):aQ:=(p,(br.filter (t p)).headD .u)
def FX (F:bW n t)(h:Lib.inn n p=true):Good n t (s0 t p):=by
 refine⟨h,?_⟩;have:=F.two p h;show t p ((br.filter (t p)).headD .u)=true;cases e:br.filter (t p)with
 |nil=>rw[e]at this;cases this
 |cons d A=>
  have:d∈br.filter (t p):=by rw[e];simp
  exact(Vb.mp this).2
def RI.ring (H:aW R)(W:bx R b L P)(u:r<R.length)(o:c<R.length)(I:RI R b L P (bA R.length r c) ps f)(U:((r:Int),(c:Int))∉ps):
  ∃B l,b9 R.length (bO R b) (s0 (bO R b) ((r:Int),(c:Int))) B l/\B.length<R.length*R.length*4/\(∀p∈(s0 (bO R b) ((r:Int),(c:Int))::B).map (·.1),p∉ps)/\Lib.inn R.length (aD (s0 (bO R b) ((r:Int),(c:Int))).2 ((r:Int),(c:Int)))=true /\
   RI R b L P (bA R.length r (c+1)) (ps++(s0 (bO R b) ((r:Int),(c:Int))::B).map (·.1)) (f++[(s0 (bO R b) ((r:Int),(c:Int))::B).map (·.1)]):=by
 have F:=wm H b;have Y:Lib.inn R.length ((r:Int),(c:Int))=true:=z5 u o;have g:=FX F Y;have t:iU R.length (bO R b) λp=>decide (p∈ps):=λp e m n i=>by
  have:=OG (W.outs H p e m n i);exact OF (I.perm.mem_iff.mpr (QX _ ((W.once p).mpr this)))
 generalize w:s0 (bO R b) ((r:Int),(c:Int))=s at g ⊢;have E:s.1=((r:Int),(c:Int)):=by rw[<-w];rfl
 obtain⟨B,l,G,fr,len⟩:=Fb F I.clo t g (by rw[E];exact OA U);have M:∀p∈(s::B).map (·.1),p∉ps:=λp J=>by
  obtain⟨q,N,rfl⟩:=QP.mp J;exact of_decide_eq_false (fr q N)
 have j:Lib.inn R.length (aD s.2 ((r:Int),(c:Int)))=true:=by
  rw[<-E,<-G.last F];exact(wR F B s l g G.c).1
 have A:∀p∈(s::B).map (·.1),Lib.inn R.length p=true:=λp J=>by
  obtain⟨q,N,rfl⟩:=QP.mp J;exact(xu F B s l q g G.c N).1
 have O:∀y∈B.map (·.1),ca ((r:Int),(c:Int)) y:=λy Q=>by
  have k:y∈(s::B).map (·.1):=Qo _ Q;have nd:=QB.mp G.nd;refine FY (A y k) (λz=>M y k (I.dn y z)) λe=>nd.1 ?_;show s.1∈_;rw[E,<-e];exact Q
 refine⟨B,l,G,len,M,j,?_⟩;refine⟨?_,?_,?_,λp J=>?_,λp J=>?_,λq N=>?_,λq N=>?_,?_⟩
 .have:=G.clo F I.clo;have e:(λp=>decide (p∈ps++(s::B).map (·.1)))=iX (λp=>decide (p∈ps)) ((s::B).map (·.1)):=funext λp=>by
   unfold iX;rw[<-Bool.decide_or,decide_eq_decide];exact Qs
  rw[e];exact this
 .exact QW.mpr ⟨I.nd,G.nd,λx U y Q e=>M y Q (e▸U)⟩
 .rw[WD,Vw,<-Qm];exact I.perm.append_right _
 .rcases Qs.mp J with z|z
  .exact I.inn p z
  .exact A p z
 .rw[xW]at J;rcases Qs.mp J with z|z
  .exact QX _ (I.dn p z)
  .rw[Ql.mp z];exact Qz _ (by rw[QJ,E];simp)
 .rcases Qs.mp N with z|z
  .exact I.ok q z
  .rw[Ql.mp z];refine⟨by rw[Qi];exact G.four F,?_⟩;rw[QQ];exact G.sum
 .rcases Qs.mp N with z|z
  .obtain ⟨y,O,e,h,nd,l⟩:=I.hd q z;exact⟨y,O,e,by rw[xW];exact QX _ h,nd,l⟩
  .rw[Ql.mp z];refine⟨((r:Int),(c:Int)),B.map (·.1),by rw[QJ,E],by rw[xW];simp,G.nd,O⟩
 .refine VH.mpr ⟨I.inc,by simp,λa ha d hd=>?_⟩;rw[Ql.mp hd];obtain⟨y,O,e,h,_⟩:=I.hd a ha;exact⟨y,((r:Int),(c:Int)),by rw[e];rfl,by rw[QJ,E];rfl,ug (by lia) h⟩
def RI.all (I:RI R b L P (bA R.length R.length 0) ps A):(qQ R.length L P++A.flatten).Perm (bA R.length R.length 0):=
 I.perm.symm.trans (nX I.nd (sD (kS _ _ _ (Wi _))) λp=>⟨λh=>c9.mpr (I.inn p h),λh=>I.dn p h⟩)
end
end Lib
namespace Lib
section
variable{lev:U7}{cl:O5}{k:Nat}
noncomputable def mw:Fn:=⟨3,3,(.ret (.and (.chain .le .lt (.lit (.int 0)) (.V 1) (.V 0)) (.chain .le .lt (.lit (.int 0)) (.V 2) (.V 0))))⟩
def FW {c:Nat}(A:r<n)(B:c<n):zL lev cl k mw [.int n,.int r,.int c]=.ok (.bl true):=by
 unfold zL;rw[OB (by rfl)];show zJ (lev k) (aG lev cl (.ret _) [some (.int n),some (.int r),some (.int c)] _)=_;simp only[zQ,yY,As,zn,zm,zl,aH,r9,qP];rw[OF (show(0:Int)<=r by lia),OF (show(0:Int)<=c by lia)];simp only[aH,qP];rw[OF (show(r:Int)<n by lia),OF (show(c:Int)<n by lia)];simp only[aH,a7];simp[zJ]
noncomputable def mv(A:Nat):Fn:=⟨4,4,(.seq (.ite (.not (.call A (.p (.V 0) (.p (.V 1) (.p (.V 2) .u))))) (.ret (.lit .N)) .skip) (.seq (.ite (.and (.cmp .eq (.V 3) (.lit (.str [85]))) (.cmp .eq (.V 1) (.lit (.int 0)))) (.ret (.V 2)) .skip) (.seq (.ite (.and (.cmp .eq (.V 3) (.lit (.str [82]))) (.cmp .eq (.V 2) (.bin .sub (.V 0) (.lit (.int 1))))) (.ret (.bin .add (.V 0) (.V 1))) .skip) (.seq (.ite (.and (.cmp .eq (.V 3) (.lit (.str [68]))) (.cmp .eq (.V 1) (.bin .sub (.V 0) (.lit (.int 1))))) (.ret (.bin .add (.bin .mul (.lit (.int 2)) (.V 0)) (.bin .sub (.bin .sub (.V 0) (.lit (.int 1))) (.V 2)))) .skip) (.seq (.ite (.and (.cmp .eq (.V 3) (.lit (.str [76]))) (.cmp .eq (.V 2) (.lit (.int 0)))) (.ret (.bin .add (.bin .mul (.lit (.int 3)) (.V 0)) (.bin .sub (.bin .sub (.V 0) (.lit (.int 1))) (.V 1)))) .skip) (.ret (.lit .N)))))))⟩
noncomputable def fA(n:Nat)(p:Pl)(e:Di):Dat:=if inn n (aD e p)=true then .N else .int (yF n p e)
def FV {c:Nat}(Q:r<n)(U:c<n)(A:cl O [.int n,.int r,.int c]=.ok (.bl true))(e:Di):zL lev cl k (mv O) [.int n,.int r,.int c,yK e]=.ok (fA n ((r:Int),(c:Int)) e):=by
 have m2:zZ .mul (.int 2) (.int n)=.ok (.int (2*n)):=yG _ _ (by decide);have m3:zZ .mul (.int 3) (.int n)=.ok (.int (3*n)):=yG _ _ (by decide);have N:∀(a b:Di) ,yH .eq (yK a) (yK b)=.ok (.bl (decide (a=b))):=λa b=>by cases a<;>cases b<;>rfl
 have B:=λa=>N a .u;have E:=λa=>N a .r;have G:=λa=>N a .d;have H:=λa=>N a .l;unfold zL;rw[OB (by rfl)];show zJ (lev k) (aG lev cl (.seq _ (.seq _ (.seq _ (.seq _ (.seq _ (.ret _)))))) [some (.int n),some (.int r),some (.int c),some (yK e)] _)=_;unfold fA;have I:Dat.str [85]=yK .u:=rfl;have J:Dat.str [82]=yK .r:=rfl;have L:Dat.str [68]=yK .d:=rfl;have M:Dat.str [76]=yK .l:=rfl;cases e with
 |u=>
  by_cases z:(r:Int)=0
  .have t:inn n (aD .u ((r:Int),(c:Int)))=false:=by
    cases q:inn n (aD .u ((r:Int),(c:Int)))with
    |false=>rfl
    |true=>have:=aC.mp q;simp only[aD]at this;lia
   rw[t];simp only[zS,yf,y6,wf,zB,zt,zr,yY,zX,zE,zm,zl,yr,zn,yq,aH,zp,A,Wz,a7,yS,zo,I,J,L,M,B,E,G,H,xi,xb,yC,m2,m3,zQ,reduceCtorEq,decide_false,decide_true,OF z,QG,if_false,yF];simp[zJ]
   try lia
  .have t:inn n (aD .u ((r:Int),(c:Int)))=true:=aC.mpr (by simp only[aD];lia);rw[t];simp only[zS,yf,y6,wf,zB,zt,zr,yY,zX,zE,zm,zl,yr,zn,yq,aH,zp,A,Wz,a7,yS,zo,I,J,L,M,B,E,G,H,xi,xb,yC,m2,m3,zQ,reduceCtorEq,decide_false,decide_true,OA z,if_true,yF];simp[zJ]
 |r=>
  by_cases z:(c:Int)=(n:Int)-1
  .have t:inn n (aD .r ((r:Int),(c:Int)))=false:=by
    cases q:inn n (aD .r ((r:Int),(c:Int)))with
    |false=>rfl
    |true=>have:=aC.mp q;simp only[aD]at this;lia
   rw[t];simp only[zS,yf,y6,wf,zB,zt,zr,yY,zX,zE,zm,zl,yr,zn,yq,aH,zp,A,Wz,a7,yS,zo,I,J,L,M,B,E,G,H,xi,xb,yC,m2,m3,zQ,reduceCtorEq,decide_false,decide_true,OF z,QG,if_false,yF];simp[zJ]
   try lia
  .have t:inn n (aD .r ((r:Int),(c:Int)))=true:=aC.mpr (by simp only[aD];lia);rw[t];simp only[zS,yf,y6,wf,zB,zt,zr,yY,zX,zE,zm,zl,yr,zn,yq,aH,zp,A,Wz,a7,yS,zo,I,J,L,M,B,E,G,H,xi,xb,yC,m2,m3,zQ,reduceCtorEq,decide_false,decide_true,OA z,if_true,yF];simp[zJ]
 |d=>
  by_cases z:(r:Int)=(n:Int)-1
  .have t:inn n (aD .d ((r:Int),(c:Int)))=false:=by
    cases q:inn n (aD .d ((r:Int),(c:Int)))with
    |false=>rfl
    |true=>have:=aC.mp q;simp only[aD]at this;lia
   rw[t];simp only[zS,yf,y6,wf,zB,zt,zr,yY,zX,zE,zm,zl,yr,zn,yq,aH,zp,A,Wz,a7,yS,zo,I,J,L,M,B,E,G,H,xi,xb,yC,m2,m3,zQ,reduceCtorEq,decide_false,decide_true,OF z,QG,if_false,yF];simp[zJ]
   try lia
  .have t:inn n (aD .d ((r:Int),(c:Int)))=true:=aC.mpr (by simp only[aD];lia);rw[t];simp only[zS,yf,y6,wf,zB,zt,zr,yY,zX,zE,zm,zl,yr,zn,yq,aH,zp,A,Wz,a7,yS,zo,I,J,L,M,B,E,G,H,xi,xb,yC,m2,m3,zQ,reduceCtorEq,decide_false,decide_true,OA z,if_true,yF];simp[zJ]
 |l=>
  by_cases z:(c:Int)=0
  .have t:inn n (aD .l ((r:Int),(c:Int)))=false:=by
    cases q:inn n (aD .l ((r:Int),(c:Int)))with
    |false=>rfl
    |true=>have:=aC.mp q;simp only[aD]at this;lia
   rw[t];simp only[zS,yf,y6,wf,zB,zt,zr,yY,zX,zE,zm,zl,yr,zn,yq,aH,zp,A,Wz,a7,yS,zo,I,J,L,M,B,E,G,H,xi,xb,yC,m2,m3,zQ,reduceCtorEq,decide_false,decide_true,OF z,QG,if_false,yF];simp[zJ]
   try lia
  .have t:inn n (aD .l ((r:Int),(c:Int)))=true:=aC.mpr (by simp only[aD];lia);rw[t];simp only[zS,yf,y6,wf,zB,zt,zr,yY,zX,zE,zm,zl,yr,zn,yq,aH,zp,A,Wz,a7,yS,zo,I,J,L,M,B,E,G,H,xi,xb,yC,m2,m3,zQ,reduceCtorEq,decide_false,decide_true,OA z,if_true,yF];simp[zJ]
noncomputable def mM:Fn:=⟨2,4,(.seq (.a 2 (.bin .fdiv (.V 1) (.V 0))) (.seq (.a 3 (.bin .mod (.V 1) (.V 0))) (.seq (.ite (.cmp .eq (.V 2) (.lit (.int 0))) (.ret (.T (.p (.lit (.int 0)) (.p (.V 3) (.p (.lit (.str [85])) .u))))) .skip) (.seq (.ite (.cmp .eq (.V 2) (.lit (.int 1))) (.ret (.T (.p (.V 3) (.p (.bin .sub (.V 0) (.lit (.int 1))) (.p (.lit (.str [82])) .u))))) .skip) (.seq (.ite (.cmp .eq (.V 2) (.lit (.int 2))) (.ret (.T (.p (.bin .sub (.V 0) (.lit (.int 1))) (.p (.bin .sub (.bin .sub (.V 0) (.lit (.int 1))) (.V 3)) (.p (.lit (.str [68])) .u))))) .skip) (.ret (.T (.p (.bin .sub (.bin .sub (.V 0) (.lit (.int 1))) (.V 3)) (.p (.lit (.int 0)) (.p (.lit (.str [76])) .u))))))))))⟩
def Hc {ρ:Nat}(H:0<n)(A:n<=12)(h:ρ<4*n):zL lev cl k mM [.int n,.int ρ]=.ok (.T [.int (bE n ρ).1.1,.int (bE n ρ).1.2,yK (bE n ρ).2]):=by
 have B:zZ .mod (.int ρ) (.int n)=.ok (.int ((ρ%n:Nat):Int)):=xU _ _ (by lia);have E:zZ .fdiv (.int ρ) (.int n)=.ok (.int ((ρ/n:Nat):Int)):=vI _ _ (by lia) (by lia);have G:ρ/n<4:=VM (by rw[W3];exact h);unfold zL;rw[OB (by rfl)];show zJ (lev k) (aG lev cl (.seq (.a 2 _) (.seq (.a 3 _) (.seq _ (.seq _ (.seq _ (.ret _)))))) [some (.int n),some (.int ρ),none,none] _)=_;rw[zS,zR];simp only[zE,zm,zl,aH,E,a7];rw[yo (by simp)];simp only[zo,Qc,Qd];rw[zS,zR];simp only[zE,zm,zl,aH,B,a7];rw[yo (by simp)];simp only[zo,Qc,Qd,zS,yf,y6,zQ,yS,zX,jf,zt,zr,zE,zm,zl,zn,yr,aH,xb,xi];unfold bE;generalize ρ%n=m at *
 generalize ρ/n=q at *
 match q,G with
 |0,_=>rfl
 |1,_=>rfl
 |2,_=>rfl
 |3,_=>rfl
noncomputable def lX:Ex:=(.i (ku (dt (-1) 0) (dt 0 1) (dt 1 0) (dt 0 (-1))) (j0 3 [85] [82] [68] [76]))
noncomputable def ms(A:Nat):Fn:=⟨4,6,(.seq (.a 4 (.call A (.p (.V 0) (.p (.V 1) (.p (.V 2) (.p (.V 3) .u)))))) (.seq (.ite (.cmp .notN (.V 4) (.lit .N)) (.ret (.V 4)) .skip) (.seq (.a 5 lX) (.ret (.T (.p (.bin .add (.V 1) (.i (.V 5) (.lit (.int 0)))) (.p (.bin .add (.V 2) (.i (.V 5) (.lit (.int 1)))) .u)))))))⟩
noncomputable def zT(n:Nat)(p:Pl)(e:Di):Dat:=if inn n (aD e p)=true then ay (aD e p)else .int (yF n p e)
def FU {n r c:Nat}(e:Di)(h:cl J [.int n,.int r,.int c,yK e]=.ok (fA n ((r:Int),(c:Int)) e)):zL lev cl k (ms J) [.int n,.int r,.int c,yK e]=.ok (zT n ((r:Int),(c:Int)) e):=by
 unfold zL;rw[OB (by rfl)];show zJ (lev k) (aG lev cl (.seq (.a 4 _) (.seq _ (.seq (.a 5 lX) (.ret _)))) [some (.int n),some (.int r),some (.int c),some (yK e),none,none] _)=_;rw[zS,zR];simp only[zB,zt,zr,zm,zl,aH,zp,h,a7];have G:aF (fA n ((r:Int),(c:Int)) e)=true:=by unfold fA;split<;>rfl
 rw[yo G];simp only[zo,Qc,Qd];rw[zS];unfold fA zT;by_cases q:inn n (aD e ((r:Int),(c:Int)))=true
 .rw[OB q,OB q];simp only[y6,zX,zm,zl,yq,aH];rw[show yH .notN .N .N=.ok (.bl false)from rfl];simp only[a7,yS,zo];have L:aj cl lX [some (.int n),some (.int r),some (.int c),some (yK e),some .N,none]=.ok (ay ((aD e ((r:Int),(c:Int))).1-r,(aD e ((r:Int),(c:Int))).2-c)):=by
   unfold lX;rw[DW (e:=e) (show aj cl (.V 3) [some (.int n),some (.int r),some (.int c),some (yK e),some .N,none]=.ok (yK e)from rfl) (A:=ay (-1,0)) (B:=ay (0,1)) (C:=ay (1,0)) (D:=ay (0,-1)) rfl rfl rfl rfl];have E:∀x:Int,x-x=0:=λx=>by lia
   have H:∀x:Int,x-1-x=-1:=λx=>by lia
   have I:∀x:Int,x+1-x=1:=λx=>by lia
   cases e with
   |u=>show Rd.ok (ay (-1,0))=Rd.ok (ay ((r:Int)-1-r,(c:Int)-c));rw[H,E]
   |r=>show Rd.ok (ay (0,1))=Rd.ok (ay ((r:Int)-r,(c:Int)+1-c));rw[E,I]
   |d=>show Rd.ok (ay (1,0))=Rd.ok (ay ((r:Int)+1-r,(c:Int)-c));rw[I,E]
   |l=>show Rd.ok (ay (0,-1))=Rd.ok (ay ((r:Int)-r,(c:Int)-1-c));rw[E,H]
  rw[yf,zR,L];simp only[a7];rw[yo (by simp[ay])];simp only[zo,Qc,Qd,zQ,jf,zt,zr,zE,yz,zm,zl,zn,aH];have M:∀x y:Int,yh (ay (x,y)) (.int 0)=.ok (.int x):=λx y=>rfl;have N:∀x y:Int,yh (ay (x,y)) (.int 1)=.ok (.int y):=λx y=>rfl;simp only[M,N,aH,yC];rw[show(r:Int)+((aD e ((r:Int),(c:Int))).1-r)=(aD e ((r:Int),(c:Int))).1 by lia,show(c:Int)+((aD e ((r:Int),(c:Int))).2-c)=(aD e ((r:Int),(c:Int))).2 by lia];rfl
 .rw[OC q,OC q];simp only[y6,zX,zm,zl,yq,aH];rw[show yH .notN (.int (yF n ((r:Int),(c:Int)) e)) .N=.ok (.bl true)from rfl];simp only[a7,zQ,zm,zl];simp[zJ,b8.then]
end
end Lib
namespace Lib
section
variable{lev:U7}{cl:O5}{k:Nat}
noncomputable def kT(kb:Nat):Ex:=ip 7 [85] [82] [68] [76] (.i (.i (.V 5) (.V 1)) (.V 2)) (.i (.i (.V 4) (.V 1)) (.bin .add (.V 2) (.lit (.int 1)))) (.i (.i (.V 5) (.bin .add (.V 1) (.lit (.int 1)))) (.V 2)) (.i (.i (.V 4) (.V 1)) (.V 2)) (.V 3) (.call kb (.p (.blt .len (.p (.V 4) .u)) (.p (.V 1) (.p (.V 2) (.p (.V 7) .u)))))
noncomputable def iE(kb:Nat):Fn:=⟨4,7,(.seq (.a 4 (.i (.V 0) (.lit (.int 0)))) (.seq (.a 5 (.i (.V 0) (.lit (.int 1)))) (.ret (kT kb))))⟩
def jN (q:T9)(a:Ex)(de:aM)(h:aj cl a de=.ok d):aj cl (db q a) de=.ok (.T [.str q,d]):=by
 show(((Rd.ok (.str q)).bind λx=>((aj cl a de).bind λy=>(Rd.ok (.T [])).bind λz=>Rd.ok (.T (y::xh z))).bind λy=>Rd.ok (.T (x::xh y))).bind λx=>_)=_;rw[h];rfl
def Hb {r c:Nat}{U:Di->Int}{W:O7}(E:W.length=n)(G:yh (aq V) (.int r)=.ok (row (V.getD r [])))(B:yh (aq W) (.int r)=.ok (row (W.getD r [])))(H:yh (aq V) (.int ((r:Int)+1))=.ok (row (V.getD (r+1) [])))(u:yh (row (V.getD r [])) (.int c)=.ok (.int (U .u)))(v:yh (row (W.getD r [])) (.int ((c:Int)+1))=.ok (.int (U .r)))(w:yh (row (V.getD (r+1) [])) (.int c)=.ok (.int (U .d)))(l:yh (row (W.getD r [])) (.int c)=.ok (.int (U .l)))(I:∀e,cl kb [.int n,.int r,.int c,yK e]=.ok (zT n ((r:Int),(c:Int)) e)):
  aj cl (kT kb) [o0,some (.int r),some (.int c),some (.int mk),some (aq W),some (aq V),none]=.ok (.L ((br.filter λe=>decide (U e=mk)).map (zT n ((r:Int),(c:Int))))):=by
 unfold kT ip;rw[vj];have A:xf .len [aq W]=.ok (.int n):=by simp[xf,xX,aq,E]
 rw[show aj cl (ku (db [85] (.i (.i (.V 5) (.V 1)) (.V 2))) (db [82] (.i (.i (.V 4) (.V 1)) (.bin .add (.V 2) (.lit (.int 1))))) (db [68] (.i (.i (.V 5) (.bin .add (.V 1) (.lit (.int 1)))) (.V 2))) (db [76] (.i (.i (.V 4) (.V 1)) (.V 2)))) [o0,some (.int r),some (.int c),some (.int mk),some (aq W),some (aq V),none]=.ok (.T (br.map λd=>.T [yK d,.int (U d)]))from by
  unfold ku;rw[jf,zt,jN _ _ _ (d:=.int (U .u)) (by simp only[yz,zE,zm,zl,zn,aH,G,u]),zt,jN _ _ _ (d:=.int (U .r)) (by simp only[yz,zE,zm,zl,zn,aH,yC,B,v]),zt,jN _ _ _ (d:=.int (U .d)) (by simp only[yz,zE,zm,zl,zn,aH,yC,H,w]),zt,jN _ _ _ (d:=.int (U .l)) (by simp only[yz,zE,zm,zl,zn,aH,B,l])]
  rfl]
 simp only[zn,aH];rw[show xo .ptp (.T (br.map λd=>.T [yK d,.int (U d)])) (.int 0)=some (br.map λd=>(yK d,.int (U d)))from rfl];simp only[];rw[vM (λd=>(yK d,Dat.int (U d))) (λd=>decide (U d=mk)) (zT n ((r:Int),(c:Int))) br [] (λd _=>?_) (λd _ _=>?_) (by simp[br,ao])]
 .rfl
 .simp only[QZ,QS,zX,zm,zl,aH,xi]
 .simp only[QZ,QS,zB,xr,zt,zr,zm,zl,aH,zp,A,I]
def uf (h:aj cl e de=.ok d)(B:yW (.a i e) X=none):∃A,aG lev cl (.seq (.a i e) X) de lv=aG lev cl X (de.set i (some d)) A:=by
 rw[ye lev cl de lv B,zR,h];simp only[a7];unfold we;split
 .simp only[zo];exact⟨_,rfl⟩
 .simp only[zo];exact⟨_,rfl⟩
def AM(n:Nat)(p:Pl)(e:Di):aF (zT n p e)=true:=by
 unfold zT;split<;>rfl
def Ha {r c:Nat}{U:Di->Int}{W:O7}(H:W.length=n)(I:yh (aq V) (.int r)=.ok (row (V.getD r [])))(J:yh (aq W) (.int r)=.ok (row (W.getD r [])))(L:yh (aq V) (.int ((r:Int)+1))=.ok (row (V.getD (r+1) [])))(u:yh (row (V.getD r [])) (.int c)=.ok (.int (U .u)))(v:yh (row (W.getD r [])) (.int ((c:Int)+1))=.ok (.int (U .r)))(w:yh (row (V.getD (r+1) [])) (.int c)=.ok (.int (U .d)))(l:yh (row (W.getD r [])) (.int c)=.ok (.int (U .l)))(M:∀e,cl kb [.int n,.int r,.int c,yK e]=.ok (zT n ((r:Int),(c:Int)) e))(N:lev k=.F):
  zL lev cl k (iE kb) [.T [aq W,aq V],.int r,.int c,.int mk]=.ok (.L ((br.filter λe=>decide (U e=mk)).map (zT n ((r:Int),(c:Int))))):=by
 unfold zL;rw[OB (by rfl)];show zJ (lev k) (aG lev cl (.seq (.a 4 _) (.seq (.a 5 _) (.ret (kT kb)))) [some (.T [aq W,aq V]),some (.int r),some (.int c),some (.int mk),none,none,none] _)=_;generalize xp (iE kb) [.T [aq W,aq V],.int r,.int c,.int mk]=A;obtain⟨B,O⟩:=uf (lev:=lev) (cl:=cl) (i:=4) (e:=.i (.V 0) (.lit (.int 0))) (d:=aq W) (X:=.seq (.a 5 (.i (.V 0) (.lit (.int 1)))) (.ret (kT kb))) (de:=[some (.T [aq W,aq V]),some (.int r),some (.int c),some (.int mk),none,none,none]) (lv:=A) rfl rfl;rw[O];obtain⟨Q,Y⟩:=uf (lev:=lev) (cl:=cl) (i:=5) (e:=.i (.V 0) (.lit (.int 1))) (d:=aq V) (X:=.ret (kT kb)) (de:=[some (.T [aq W,aq V]),some (.int r),some (.int c),some (.int mk),some (aq W),none,none]) (lv:=B) rfl rfl;simp only[Qc,Qd];rw[Y];simp only[Qc,Qd,zQ];rw[Hb (o0:=some (.T [aq W,aq V])) H I J L u v w l M];simp only[a7];have hl:bI lev (kT kb) (.L ((br.filter λe=>decide (U e=mk)).map (zT n ((r:Int),(c:Int)))))=.F:=by
  unfold kT ip;rw[Ip,OB];rw[jh,Uj];simp[AM]
 have E:∀G,cc lev (kT kb) (.L ((br.filter λe=>decide (U e=mk)).map (zT n ((r:Int),(c:Int))))) G=.F:=λG=>by
  unfold cc;rw[OC (by simp)];exact hl
 rw[E];simp[zJ,N,xY]
end
end Lib
namespace Lib
section
variable{lev:U7}{cl:O5}{k:Nat}
noncomputable def eS(A:Nat):Sm:=.dput 3 (.T (.p (.V 4) (.p (.V 5) .u))) (.call A (.p (.V 2) (.p (.V 4) (.p (.V 5) (.p (.V 1) .u)))))
noncomputable def nu(A B:Nat):Fn:=⟨2,6,(.seq (.a 2 (.call A (.p (.V 0) .u))) (.seq (.a 3 .dict0) (.seq (.forv 4 (.rng (.lit (.int 0)) (.blt .len (.p (.V 0) .u)) (.lit (.int 1))) (.forv 5 (.rng (.lit (.int 0)) (.blt .len (.p (.V 0) .u)) (.lit (.int 1))) (eS B))) (.ret (.V 3)))))⟩
noncomputable def dr(val:Pl->Dat)(ps:U5):Dat:=.D (ps.map zN) (ps.map val)
def FT {c:Nat}(J:r<n)(L:c<n)(H:n<=12)(hE:cl B [P,.int r,.int c,.int mk]=.ok (val ((r:Int),(c:Int))))(G:lev B=.F)(o0:R8)(l0 l1 l2:Lv):
  aG lev cl (eS B) [o0,some (.int mk),some P,some (dr val (bA n r c)),some (.int r),some (.int c)] [l0,l1,l2,.F,.F,.F]=.next [o0,some (.int mk),some P,some (dr val (bA n r (c+1))),some (.int r),some (.int c)] [l0,l1,l2,.F,.F,.F]:=by
 unfold eS;have I:aj cl (.call B (.p (.V 2) (.p (.V 4) (.p (.V 5) (.p (.V 1) .u))))) [o0,some (.int mk),some P,some (dr val (bA n r c)),some (.int r),some (.int c)]=.ok (val ((r:Int),(c:Int))):=by
  simp only[zB,zt,zr,zm,zl,aH,zp,hE]
 show(aj cl (.call B _) _).okS _=_;rw[I];simp only[dT,mR,zm,zl,aH];rw[show vQ (.T [.int (r:Int),.int (c:Int)])=some (zN ((r:Int),(c:Int)))from rfl];simp only[WZ,WY];unfold dr;simp only[];have A:bI lev (.call B (.p (.V 2) (.p (.V 4) (.p (.V 5) (.p (.V 1) .u))))) (val ((r:Int),(c:Int)))=.F:=by
  rw[kK,G];split<;>rfl
 have E:((bA n r c).map zN).length<ao:=by
  rw[Qi,wQ];have:r*n<=12*12:=WG (by lia) H;unfold ao;lia
 rw[OB ⟨trivial,A,E⟩];simp only[Qc,Qd];rw[rZ Ab,mQ Ab,<-xW]
def JS (p:R.length<=12)(l:cl o [aq R]=.ok P)(hE:∀r c,r<R.length->c<R.length->cl J [P,.int (r:Nat),.int (c:Nat),.int mk]=.ok (val ((r:Int),(c:Int))))(U:lev J=.F)(g:lev k=.F):
  zL lev cl k (nu o J) [aq R,.int mk]=.ok (dr val (bA R.length R.length 0)):=by
 have L:xf .len [aq R]=.ok (.int R.length):=by simp[xf,xX,aq]
 have O:kG (.int 0) (.int R.length) (.int 1)=.ok (.T (yA 0 1 R.length)):=jK (by lia);have Q:∀A B E,∃M G,aG lev cl (.forv 4 (.rng (.lit (.int 0)) (.blt .len (.p (.V 0) .u)) (.lit (.int 1))) (.forv 5 (.rng (.lit (.int 0)) (.blt .len (.p (.V 0) .u)) (.lit (.int 1))) (eS J))) [some (aq R),some (.int mk),some P,some (.D [] []),none,none] [A,B,E,.F,.F,.F]=.next [some (aq R),some (.int mk),some P,some (dr val (bA R.length R.length 0)),M,G] [A,B,E,.F,.F,.F]:=λA B E=>by
  obtain⟨Y,j,e,rfl,M,G,rfl⟩:=yL (body:=λx H I=>aG lev cl (.forv 5 (.rng (.lit (.int 0)) (.blt .len (.p (.V 0) .u)) (.lit (.int 1))) (eS J)) (H.set 4 (some x)) (I.set 4 (aY x)))
   (λr H I=>I=[A,B,E,.F,.F,.F]/\∃M G,H=[some (aq R),some (.int mk),some P,some (dr val (bA R.length r 0)),M,G])
   (yA 0 1 R.length) (de:=[some (aq R),some (.int mk),some P,some (dr val (bA R.length 0 0)),none,none]) (lv:=[A,B,E,.F,.F,.F]) ⟨rfl,none,none,rfl⟩ (by
    rintro r x H I N ⟨rfl,M,G,rfl⟩;have q:r<R.length:=by
     have:=(Qa.mp N).1;simpa using this
    rw[wD _ _ _ _ q]at N;cases N;rw[show(0:Int)+1*(r:Int)=(r:Int) by lia];simp only[Qc,Qd];rw[show aY (.int (r:Int))=.F from by simp[aY],wg];simp only[vh,zn,xr,zt,zr,zm,aH,zp,L,O,a7,vk,kO,wC,if_true];obtain⟨Y,j,e,rfl,f,rfl⟩:=yL (body:=λx H I=>aG lev cl (eS J) (H.set 5 (some x)) (I.set 5 (aY x)))
     (λc H I=>I=[A,B,E,.F,.F,.F]/\∃G,H=[some (aq R),some (.int mk),some P,some (dr val (bA R.length r c)),some (.int r),G])
     (yA 0 1 R.length) (de:=[some (aq R),some (.int mk),some P,some (dr val (bA R.length r 0)),some (.int r),G]) (lv:=[A,B,E,.F,.F,.F]) ⟨rfl,G,rfl⟩ (by
      rintro c x H I N ⟨rfl,G,rfl⟩;have u:c<R.length:=by
       have:=(Qa.mp N).1;simpa using this
      rw[wD _ _ _ _ u]at N;cases N;rw[show(0:Int)+1*(c:Int)=(c:Int) by lia];simp only[Qc,Qd];rw[show aY (.int (c:Int))=.F from by simp[aY]];exact⟨_,_,FT q u p (hE r c q u) U _ A B E,rfl,_,rfl⟩)
    refine⟨_,_,e,rfl,some (.int r),f,?_⟩;rw[show(yA 0 1 R.length).length=R.length from by simp,oa])
  rw[show(yA 0 1 R.length).length=R.length from by simp]at e;refine⟨M,G,?_⟩;rw[wg];simp only[vh,zn,xr,zt,zr,zm,aH,zp,L,O,a7,vk,kO,wC,if_true];exact e
 unfold zL;rw[OB (by rfl)];show zJ (lev k) (aG lev cl (.seq (.a 2 _) (.seq (.a 3 .dict0) (.seq (.forv 4 _ (.forv 5 _ (eS J))) (.ret _)))) [some (aq R),some (.int mk),none,none,none,none] [aY (aq R),aY (.int mk),.F,.F,.F,.F])=_;have z:∃A B E,aG lev cl (.seq (.a 2 (.call o (.p (.V 0) .u))) (.seq (.a 3 .dict0) (.seq (.forv 4 (.rng (.lit (.int 0)) (.blt .len (.p (.V 0) .u)) (.lit (.int 1))) (.forv 5 (.rng (.lit (.int 0)) (.blt .len (.p (.V 0) .u)) (.lit (.int 1))) (eS J))) (.ret (.V 3))))) [some (aq R),some (.int mk),none,none,none,none] [aY (aq R),aY (.int mk),.F,.F,.F,.F]
   = aG lev cl (.seq (.a 3 .dict0) (.seq (.forv 4 (.rng (.lit (.int 0)) (.blt .len (.p (.V 0) .u)) (.lit (.int 1))) (.forv 5 (.rng (.lit (.int 0)) (.blt .len (.p (.V 0) .u)) (.lit (.int 1))) (eS J))) (.ret (.V 3)))) [some (aq R),some (.int mk),some P,none,none,none] [A,B,E,.F,.F,.F]:=by
  rw[zS,zR];simp only[zB,zt,zr,zm,aH,zp,l,a7];unfold we;split
  .simp only[zo,Qc,Qd];exact⟨_,_,_,rfl⟩
  .simp only[zo,Qc,Qd];exact⟨_,_,_,rfl⟩
 obtain⟨A,B,E,z⟩:=z;refine(OE (zJ (lev k)) z).trans ?_;rw[vR (d:=.D [] []) rfl (by simp) rfl];simp only[Qc,Qd];obtain⟨M,G,e⟩:=Q A B E;rw[yf,e,zo];simp only[zQ,zm,zl,a7];simp[zJ,cc,g,xY,dr]
end
end Lib
namespace Lib
section
noncomputable def pm:Dat:=.T [.int 1,.int (-1)]
end
end Lib
namespace Lib
end Lib
namespace Lib
section
variable{lev:U7}{cl:O5}{k:Nat}
noncomputable def ar(W:P5)(i j:Nat):Int:=if(decide (W i j=1)==decide (((i:Int)+j)%2=1))=true then 1 else -1
noncomputable def wd:Dat:=.T [.int 1,.int 0]
noncomputable def iW:Fn:=⟨1,1,(.ret (.cmp .eq (.bin .mod (.V 0) (.lit (.int 2))) (.lit (.int 1))))⟩
def FS(n:Int):zL lev cl k iW [.int n]=.ok (.bl (decide (n%2=1))):=by
 have h:=xU n 2 (by decide);simp[zL,iW,xD,xp,zJ,cc,h]
def G9 (lev:U7)(h:∀i:Int,bI lev e (.int i)=.F):bI lev (.compP kd e a b c) (row x)=.F:=by
 simp[row]
noncomputable def lZ(A:Nat):Ex:=(.compP .enum (.call A (.p (.V 1) (.p (.V 2) .u))) (.V 0) (.lit (.int 0)) (.lit (.bl true)))
noncomputable def nr(A:Nat):Fn:=⟨1,1,(.ret (lZ A))⟩
end
end Lib
namespace Lib
section
variable{lev:U7}{cl:O5}{k:Nat}
noncomputable def dw(x:T6):T6:=(QA (x.length+1)).map λc=>1-2*(x.take c).sum
def FR (h:c<=x.length):(dw x)[c]?=some (1-2*(x.take c).sum):=by
 simp only[dw,Qq];rw[Vi (by lia)];rfl
noncomputable def oV:Sm:=(.seq (.aug 1 .add (.V 3)) (.expr (.meth .append (.V 2) (.p (.bin .sub (.lit (.int 1)) (.bin .mul (.lit (.int 2)) (.V 1))) .u))))
noncomputable def mr:Fn:=⟨1,4,(.seq (.a 1 (.lit (.int 0))) (.seq (.a 2 (.L (.p (.lit (.int 1)) .u))) (.seq (.forv 3 (.V 0) oV) (.ret (.V 2)))))⟩
def FQ(x:T6)(u:x.length<=100)(Q:lev k=.F):zL lev cl k mr [row x]=.ok (row (dw x)):=by
 have A:=yL (body:=λd H I=>aG lev cl oV (H.set 3 (some d)) (I.set 3 (aY d)))
  (λt H I=>∃(J:R8) (L:Lv),H=[some (row x),some (.int (x.take t).sum),some (row ((dw x).take (t+1))),J]/\I=[.no,.F,.F,L])
  (x.map Dat.int) (de:=[some (row x),some (.int 0),some (row [1]),none]) (lv:=[.no,.F,.F,.F])
  ⟨none,.F,by simp[dw,WN],rfl⟩ ?_
 .obtain ⟨U,Y,e,J,L,rfl,rfl⟩:=A;unfold zL;rw[OB (by rfl)];show zJ (lev k) (aG lev cl (.seq _ (.seq _ (.seq _ _))) [some (row x),none,none,none] [aY (row x),.F,.F,.F])=_;rw[show aY (row x)=.no from by simp[aY,row],zS];simp only[zR,zn,a7];rw[yo (by simp)];simp only[zo,Qc,Qd];rw[zS];simp only[zR,xE,zt,zr,zn,aH,zp];rw[yZ (by simp;unfold ao;lia)];simp only[a7];rw[xV (by simp)];simp only[zo,Qc,Qd];rw[yf,wg];have M:di (row x)=some (x.map Dat.int):=wO (by simp;unfold ao;lia);have N:aF (row x)=false:=by simp[row]
  simp only[zm,zl,a7,M,N];have B:(if false=true then[Lv.no,Lv.F,Lv.F,Lv.F]else xC (.V 0) [some (row x),some (.int 0),some (.L [.int 1]),none] [Lv.no,Lv.F,Lv.F,Lv.F])=[.no,.F,.F,.F]:=rfl;rw[B,show(some (.L [.int 1]):R8)=some (row [1])from rfl,e,zo];rw[Qi,We (l:=dw x) (by simp[dw])];simp only[zQ,zm,zl,a7,cc,zJ,show aF (row (dw x))=false from by simp[row],QG,if_false,Q];rfl
 .rintro t d H I O ⟨J,L,rfl,rfl⟩;have j:t<x.length:=by
   have:=(Qa.mp O).1;simpa using this
  have E:x[t]?=some x[t]:=Qj j;rw[Qq,E]at O;cases O;have G:((dw x).take (t+1)).length=t+1:=by simp[dw];lia
  have q:(dw x).take (t+1+1)=(dw x).take (t+1)++[1-2*(x.take (t+1)).sum]:=by
   rw[Wp,FR (by lia),Option.toList_some]
  refine⟨_,_,?_,some (.int x[t]),aY (.int x[t]),rfl,rfl⟩;unfold oV;simp only[Qc,Qd];rw[oe];simp only[D3,WZ,WY,zl,zm,dT,yC,zo,Qc,Qd];rw[<-Iv E];rw[Fi (v:=1-2*(x.take (t+1)).sum) (by rw[G];unfold ao;lia) _ _ 2 (by simp only[zE,zn,zm,zl,aH,yG 2 _ (show xg 2=true by decide),xb]) rfl rfl,q];rfl
noncomputable def eu(x:T6):T6:=x.map λv=>2*v-1
noncomputable def ig:Ex:=(.comp (.bin .sub (.bin .mul (.lit (.int 2)) (.V 1)) (.lit (.int 1))) (.V 0) (.lit (.bl true)))
noncomputable def mq:Fn:=⟨1,1,(.ret ig)⟩
def FP(x:T6)(I:x.length<=100)(G:lev k=.F):zL lev cl k mq [row x]=.ok (row (eu x)):=by
 have hl:(x.map Dat.int).length<=ao:=by simp;unfold ao;lia
 have A:aj cl ig [some (row x)]=.ok (row (eu x)):=by
  unfold ig;rw[wN];simp only[zm,aH,row,wO hl];rw[yM Dat.int (λv=>.int (2*v-1)) x [] (λv _=>by simp) (λv _=>by simp only[QZ,QS,zE,zn,zm,zl,aH,yG 2 _ (show xg 2=true by decide),xb]) (by simpa using hl)];simp only[eu,QQ,QS];rfl
 have B:bI lev ig (row (eu x))=.F:=Fh lev λi=>xS lev _ _ rfl;have H:∀E,cc lev ig (row (eu x)) E=.F:=λE=>by
  unfold cc;rw[OC (by simp[row])];exact B
 unfold zL;rw[OB (by rfl)];show zJ (lev k) (aG lev cl (.ret ig) [some (row x)] _)=_;rw[zQ,A];simp only[a7,zJ,H,G];simp[xY]
noncomputable def vN(kc:Nat)(it:Ex):Ex:=(.comp (.call kc (.p (.V 3) .u)) it (.lit (.bl true)))
def gZ (B:de.length=3)(E:aj cl it de=.ok (aq A))(L:A.length<=100)(G:∀x∈A,cl kc [row x]=.ok (row (f x))):aj cl (vN kc it) de=.ok (aq (A.map f)):=by
 unfold vN;rw[wN,E];simp only[aH,aq,wO (show(A.map row).length<=ao from by simp;unfold ao;lia)];rw[yM row (λx=>row (f x)) A [] (λ_ _=>by simp) (λx H=>?_) (by simp;unfold ao;lia)]
 .simp
 .have I:(de++[some (row x)])[3]?=some (some (row x)):=by rw[Qe (by lia),B];rfl
  have J:aj cl (.V 3) (de++[some (row x)])=.ok (row x):=y9 I;simp only[zB,zt,zr,J,aH,zp,G x H]
def El (h:Sq R):R.map dw=yD R.length (R.length+1) (dG R):=by
 refine WC λi=>?_;by_cases A:i<R.length
 .simp only[Qq,Qj A,QR,yD,Vi A];have:∀c,1-2*(R[i].take c).sum=dG R i c:=λc=>by simp[dG,A]
  simp only[dw,h _ (W6 A),this];rfl
 .simp[yD,A]
def Ek(R:O7):(kQ R).map eu=yD (R.length+1) R.length (eh R):=by
 unfold kQ yD;rw[QQ];refine Vh λi _=>?_;simp only[Function.comp_apply,eu,ya,xA,QQ];rfl
noncomputable def mo(A B E:Nat):Fn:=⟨1,3,(.seq (.a 1 (vN B (.V 0))) (.seq (.a 2 (vN E (.call A (.p (.V 0) .u)))) (.ret (.T (.p (.V 1) (.p (.V 2) .u))))))⟩
def FN (h:Sq R)(j:R.length<=12)(L:cl B [aq R]=.ok (aq (kQ R)))(M:∀x:T6,x.length<=100->cl E [row x]=.ok (row (dw x)))(N:∀x:T6,x.length<=100->cl G [row x]=.ok (row (eu x)))(O:lev k=.no):
  zL lev cl k (mo B E G) [aq R]=.ok (arr R.length (dG R) (eh R)):=by
 have I:=gZ (cl:=cl) (kc:=E) (it:=.V 0) (de:=[some (aq R),none,none]) (A:=R) (f:=dw) rfl (by simp) (by lia) (λx H=>M x (by rw[h x H];lia));rw[El h]at I;have J:=gZ (cl:=cl) (kc:=G) (it:=.call B (.p (.V 0) .u)) (de:=[some (aq R),some (aq (yD R.length (R.length+1) (dG R))),none]) (A:=kQ R) (f:=eu) rfl (by simp only[zB,zt,zr,zm,aH,zp,L]) (by simp[kQ];lia) (λx H=>N x (by
  obtain⟨i,_,rfl⟩:=QP.mp H;simp[ya];lia))
 rw[Ek]at J;unfold zL;rw[OB (by rfl)];show zJ (lev k) (aG lev cl (.seq _ (.seq _ _)) [some (aq R),none,none] [aY (aq R),.F,.F])=_;rw[zS,zR,I];simp only[a7];obtain⟨Q,U⟩:=AR (lev:=lev) (i:=1) (e:=vN E (.V 0)) (d:=aq (yD R.length (R.length+1) (dG R))) (de:=[some (aq R),none,none]) (lv:=[aY (aq R),.F,.F]);rw[U];simp only[zo,Qc,Qd];rw[yf,zR,J];simp only[a7];obtain⟨q,Y⟩:=AR (lev:=lev) (i:=2) (e:=vN G (.call B (.p (.V 0) .u))) (d:=aq (yD (R.length+1) R.length (eh R))) (de:=[some (aq R),some (aq (yD R.length (R.length+1) (dG R))),none]) (lv:=Q);rw[Y];simp only[zo,Qc,Qd];simp[zJ,O,arr,xY,aq,show 2<=ao from by decide]
end
end Lib
namespace Lib
section
variable{lev:U7}{cl:O5}{k:Nat}
noncomputable def wk(F:P5)(i j:Nat):Int:=if(decide (F i j=1)==decide (((i:Int)+j)%2=1))=true then 1 else 0
noncomputable def fV(A:Nat):Ex:=(.compP .enum (.ife (.cmp .eq (.cmp .eq (.V 3) (.lit (.int 1))) (.call A (.p (.bin .add (.V 0) (.V 2)) .u))) (.lit (.int 1)) (.lit (.int 0))) (.V 1) (.lit (.int 0)) (.lit (.bl true)))
noncomputable def mL(A:Nat):Fn:=⟨2,2,(.ret (fV A))⟩
def G8 (I:∀n:Int,cl A [.int n]=.ok (.bl (decide (n%2=1))))(M:q<=100)(W:P5)(i:Nat)(J:lev k=.F):zL lev cl k (mL A) [.int i,row (xA q W i)]=.ok (row (xA q (wk W) i)):=by
 have B:aj cl (fV A) [some (.int i),some (row (xA q W i))]=.ok (row (xA q (wk W) i)):=by
  unfold fV;rw[vj];simp only[zm,zl,zn,aH,Iw 0 (xA q W i) (by rw[AQ];unfold ao;lia),AQ];rw[yM (λ(j:Nat)=>(Dat.int (0+(j:Int)),Dat.int ((xA q W i).getD j 0))) (λ(j:Nat)=>.int (wk W i j)) _ [] (λj _=>by simp) (λj hj=>?_) (by simp;unfold ao;lia)]
  .simp only[QS,row,xA,QQ];rfl
  .have E:j<q:=by simpa using hj
   rw[show(xA q W i).getD j 0=W i j from vK (by simp[xA,E]),Int.zero_add];simp only[QZ,QS,jg,zX,zB,zt,zr,zE,zn,zm,zl,aH,zp,yC,I,xi,D4];unfold wk;cases(decide (W i j=1)==decide (((i:Int)+j)%2=1))<;>rfl
 have G:bI lev (fV A) (row (xA q (wk W) i))=.F:=G9 lev λi=>xS lev _ _ rfl;have L:∀H,cc lev (fV A) (row (xA q (wk W) i)) H=.F:=λH=>by
  unfold cc;rw[OC (by simp[row])];exact G
 unfold zL;rw[OB (by rfl)];show zJ (lev k) (aG lev cl (.ret (fV A)) [some (.int i),some (row (xA q W i))] _)=_;rw[zQ,B];simp only[a7,zJ,L,J];simp[xY]
def JR (J:p<=100)(W:P5)(G:∀i:Nat,cl A [.int i,row (xA q W i)]=.ok (row (xA q (wk W) i)))(H:lev k=.no):zL lev cl k (nr A) [aq (yD p q W)]=.ok (aq (yD p q (wk W))):=by
 have B:aj cl (lZ A) [some (aq (yD p q W))]=.ok (aq (yD p q (wk W))):=by
  unfold lZ;rw[vj];simp only[zm,zn,aH];rw[Iu 0 (yD p q W) (by rw[gR];unfold ao;lia),gR];simp only;rw[yM (λ(i:Nat)=>(Dat.int (0+(i:Int)),row ((yD p q W).getD i []))) (λ(i:Nat)=>row (xA q (wk W) i)) _ [] (λi _=>by simp) (λi I=>?_) (by simp;unfold ao;lia)]
  .simp only[QS,aq,yD,QQ];rfl
  .have E:i<p:=by simpa using I
   rw[show(yD p q W).getD i []=xA q W i from by simp[yD,E],Int.zero_add];simp only[QZ,QS,zB,zt,zr,zl,zm,aH,zp,G]
 unfold zL;rw[OB (by rfl)];show zJ (lev k) (aG lev cl (.ret (lZ A)) [some (aq (yD p q W))] _)=_;rw[zQ,B];simp only[a7,zJ,H];simp[xY]
noncomputable def mn(B A:Nat):Fn:=⟨1,2,(.seq (.a 1 (.call B (.p (.V 0) .u))) (.ret (.T (.p (.call A (.p (.i (.V 1) (.lit (.int 0))) .u)) (.p (.call A (.p (.i (.V 1) (.lit (.int 1))) .u)) .u)))))⟩
def FM (H:cl B [aq R]=.ok (arr n F G))(I:cl E [aq (yD n (n+1) F)]=.ok (aq (yD n (n+1) (wk F))))(J:cl E [aq (yD (n+1) n G)]=.ok (aq (yD (n+1) n (wk G))))(A:lev B=.no)(L:lev k=.no):
  zL lev cl k (mn B E) [aq R]=.ok (arr n (wk F) (wk G)):=by
 have M:yh (arr n F G) (.int 0)=.ok (aq (yD n (n+1) F)):=rfl;have N:yh (arr n F G) (.int 1)=.ok (aq (yD (n+1) n G)):=rfl;unfold zL;rw[OB (by rfl)];show zJ (lev k) (aG lev cl (.seq _ (.ret _)) [some (aq R),none] _)=_;rw[yf];simp only[zR,zB,zt,zr,zm,aH,zp,H,a7];rw[we,OC (by simp[A,arr,aq])];simp only[zo,Qc,Qd,zQ,jf,zB,zt,zr,yz,zn,zm,zl,aH,zp,M,N,I,J];simp[zJ,L,arr,xY,aq,show 2<=ao from by decide]
end
end Lib
namespace Lib
section
noncomputable def eR(b:Bool):Int:=if b=true then 1 else 0
def lC [Decidable p](h:F i j=1↔p):wk F i j=eR (decide p==decide (((i:Int)+j)%2=1)):=by
 unfold wk eR;rw[show decide (F i j=1)=decide p from decide_eq_decide.mpr h]
def CO (H:aW R)(A:r<R.length)(B:c<R.length)(E:∀i j,i<R.length->j<=R.length->F i j=1-2*cD R i j)(I:∀i j,i<=R.length->j<R.length->G i j=2*S R i j-1):
  wk G r c=eR (cA R r c .u)/\wk F r (c+1)=eR (cA R r c .r)/\wk G (r+1) c=eR (cA R r c .d)/\wk F r c=eR (cA R r c .l):=by
 have q:((r:Int)+c)%2=0\/((r:Int)+c)%2=1:=by lia
 have J:((r:Int)+((c+1:Nat):Int))%2=1-((r:Int)+c)%2:=by lia
 have L:(((r+1:Nat):Int)+(c:Int))%2=1-((r:Int)+c)%2:=by lia
 have M:=H.col r c (by lia) B;have N:=H.col (r+1) c (by lia) B;have O:cD R r c=0\/cD R r c=1:=H.row r c A (by lia);have Q:cD R r (c+1)=0\/cD R r (c+1)=1:=H.row r (c+1) A (by lia);have f1:=E r c A (by lia);have f2:=E r (c+1) A (by lia);have U:=I r c (by lia) B;have Y:=I (r+1) c (by lia) B;refine⟨?_,?_,?_,?_⟩
 .rw[lC (p:=S R r c=1) (by lia)];unfold cA;rcases M with s|s<;>rcases q with q|q<;>rw[s,q]<;>rfl
 .rw[lC (p:=cD R r (c+1)=0) (by lia),J];unfold cA;rcases Q with s|s<;>rcases q with q|q<;>rw[s,q]<;>rfl
 .rw[lC (p:=S R (r+1) c=1) (by lia),L];unfold cA;rcases N with s|s<;>rcases q with q|q<;>rw[s,q]<;>rfl
 .rw[lC (p:=cD R r c=0) (by lia)];unfold cA;rcases O with s|s<;>rcases q with q|q<;>rw[s,q]<;>rfl
end
end Lib
namespace Lib
section
def FL (E:inn n p=true)(h:zT n p e=zT n p f):e=f:=by
 obtain⟨⟨G,H⟩,I,J⟩:=aC.mp E;obtain⟨a,b⟩:=p;simp only[]at G H I J;unfold zT at h;by_cases B:inn n (aD e (a,b))=true
 .rw[OB B]at h;by_cases A:inn n (aD f (a,b))=true
  .rw[OB A]at h;have h:Dat.T [.int (aD e (a,b)).1,.int (aD e (a,b)).2]=Dat.T [.int (aD f (a,b)).1,.int (aD f (a,b)).2]:=h;simp only[Dat.T.injEq,List.cons.injEq,Dat.int.injEq,and_true]at h;cases e<;>cases f<;>simp only[aD]at h<;>first|rfl|lia
  .rw[OC A]at h;cases h
 .rw[OC B]at h;by_cases A:inn n (aD f (a,b))=true
  .rw[OB A]at h;cases h
  .rw[OC A]at h;simp only[Dat.int.injEq]at h;cases e<;>cases f<;>simp only[yF]at h<;>first|rfl|lia
end
end Lib
namespace Lib
section
variable{lev:U7}{cl:O5}{k:Nat}
def lB(A:T7)(x y:Dat):yh (.L (A++[x,y])) (.int (-1))=.ok y:=vJ (by simp)
def C6(A:T7)(x y:Dat):yh (.L (A++[x,y])) (.int (-2))=.ok x:=by
 have B:ix (A++[x,y]).length (-2)=some A.length:=by
  unfold ix;rw[OC (by lia),OB (by simp;lia)];congr 1;simp;lia
 show(match (ix (A++[x,y]).length (-2)).bind λj=>(A++[x,y])[j]? with|some v=>Rd.ok v|none=>.no)=_;rw[B];simp
def C5 (h:(br.filter f).length=2)(H:f d=true):br.filter f=[d,a9 f d]\/br.filter f=[a9 f d,d]:=by
 unfold a9 br at *
 cases A:f .u<;>cases B:f .r<;>cases E:f .d<;>cases G:f .l<;>simp[A,B,E,G]at h ⊢<;>cases d<;>simp_all
def rW(a b c d:Int):yH .eq (.T [.int a,.int b]) (.T [.int c,.int d])=.ok (.bl (decide (a=c)&&(decide (b=d)&&true))):=rfl
def CN(a b c:Int):yH .eq (.T [.int a,.int b]) (.int c)=.ok (.bl false):=rfl
def CM(a b c:Int):yH .eq (.int c) (.T [.int a,.int b])=.ok (.bl false):=rfl
def sC (I:inn n p=true)(e f:Di):yH .eq (zT n p e) (zT n p f)=.ok (.bl (decide (e=f))):=by
 by_cases q:e=f
 .subst q;rw[OF rfl];unfold zT;split
  .show yH .eq (.T [.int _,.int _]) (.T [.int _,.int _])=_;rw[rW];simp
  .rw[xi];simp
 .rw[OA q];have A:zT n p e≠zT n p f:=λz=>q (FL I z);unfold zT at A ⊢;by_cases G:inn n (aD e p)=true
  .rw[OB G]at A ⊢;by_cases B:inn n (aD f p)=true
   .rw[OB B]at A ⊢;show yH .eq (.T [.int _,.int _]) (.T [.int _,.int _])=_;rw[rW];have:¬((aD e p).1=(aD f p).1/\(aD e p).2=(aD f p).2):=λz=>A (by unfold ay;rw[z.1,z.2]);by_cases H:(aD e p).1=(aD f p).1
    .have E:¬(aD e p).2=(aD f p).2:=λE=>this ⟨H,E⟩;simp[E]
    .simp[H]
   .rw[OC B];exact CN _ _ _
  .rw[OC G]at A ⊢;by_cases B:inn n (aD f p)=true
   .rw[OB B];exact CM _ _ _
   .rw[OC B]at A ⊢;rw[xi,OA (λz=>A (by rw[z]))]
noncomputable def xZ(n:Nat)(t:Tr)(p:Pl):Dat:=.L ((br.filter (t p)).map (zT n p))
structure ED(n:Nat)(t:Tr)(D:Dat):Prop where
 get:∀p,inn n p=true->jt D (ay p)=.ok (xZ n t p)
 isin:∀p,inn n p=true->yH .isin (ay p) D=.ok (.bl true)
 out:∀i:Int,yH .isin (.int i) D=.ok (.bl false)
def nJ (h:∀p,inn n p=true->val p=xZ n t p):ED n t (dr val (bA n n 0)) where
 get:=λp A=>by
  show(match (vQ (ay p)).bind (dH _ _)with|some v=>Rd.ok v|none=>.no)=_;rw[show vQ (ay p)=some (zN p)from rfl];simp only[VY];rw[uE (Aa A)];simp only[h p A]
 isin:=λp A=>by
  show ve ((xy [.int p.1,.int p.2]).map λk=>decide (k∈(bA n n 0).map zN))=_;rw[show xy [.int p.1,.int p.2]=some (zN p)from rfl];show Rd.ok (.bl (decide (zN p∈(bA n n 0).map zN)))=_;rw[OF (WV (Aa A))]
 out:=λ_=>rfl
noncomputable def ee:Ex:=(.and (.cmp .isin (.i (.V 3) (.neg (.lit (.int 1)))) (.V 0)) (.cmp .ne (.i (.V 3) (.neg (.lit (.int 1)))) (.V 1)))
noncomputable def lN:Ex:=(.ife (.cmp .eq (.i (.V 4) (.lit (.int 0))) (.i (.V 3) (.neg (.lit (.int 2))))) (.i (.V 4) (.lit (.int 1))) (.i (.V 4) (.lit (.int 0))))
noncomputable def lM:Ex:=(.dget (.V 0) (.i (.V 3) (.neg (.lit (.int 1)))))
noncomputable def fB:Sm:=(.seq (.a 4 lM) (.expr (.meth .append (.V 3) (.p lN .u))))
noncomputable def g6:Fn:=⟨3,5,(.seq (.a 3 (.L (.p (.V 1) (.p (.V 2) .u)))) (.seq (.while ee fB) (.ret (.V 3))))⟩
def C4 (F:bW n t)(g:Good n t s)(A:T7):
  aj cl lN [d0,d1,d2,some (.L (A++[zT n s.1 s.2,ay s.1])),some (xZ n t s.1)]=.ok (zT n s.1 (a9 (t s.1) s.2)):=by
 have E:=C6 A (zT n s.1 s.2) (ay s.1);obtain⟨_,G,_⟩:=y8 (F.two s.1 g.1) g.2;unfold lN xZ;rcases C5 (F.two s.1 g.1) g.2 with e|e
 .rw[e];have B:yh (.L ([s.2,a9 (t s.1) s.2].map (zT n s.1))) (.int 0)=.ok (zT n s.1 s.2):=rfl;have H:yh (.L ([s.2,a9 (t s.1) s.2].map (zT n s.1))) (.int 1)=.ok (zT n s.1 (a9 (t s.1) s.2)):=rfl;simp only[jg,zX,yz,xT,zn,zm,zl,aH,B,H,E,sC g.1,decide_true]
 .rw[e];have B:yh (.L ([a9 (t s.1) s.2,s.2].map (zT n s.1))) (.int 0)=.ok (zT n s.1 (a9 (t s.1) s.2)):=rfl;simp only[jg,zX,yz,xT,zn,zm,zl,aH,B,E,sC g.1,OA G]
def ue (F:bW n t)(G:ED n t D)(g:Good n t s)(A:T7)(hl:A.length+2<ao)(l0 l1 l2 l4:Lv):
  ∃m0 m4,aG lev cl fB [some D,d1,d2,some (.L (A++[zT n s.1 s.2,ay s.1])),d4] [l0,l1,l2,.F,l4] =
   .next [some D,d1,d2,some (.L ((A++[zT n s.1 s.2,ay s.1])++[zT n s.1 (a9 (t s.1) s.2)])),some (xZ n t s.1)] [m0,l1,l2,.F,m4]:=by
 have H:=lB A (zT n s.1 s.2) (ay s.1);have I:aj cl lM [some D,d1,d2,some (.L (A++[zT n s.1 s.2,ay s.1])),d4]=.ok (xZ n t s.1):=by
  unfold lM;simp only[uF,yz,xT,zn,zm,zl,aH,H,G.get s.1 g.1]
 unfold fB;rw[ye lev cl _ _ rfl,zR,I];simp only[a7];have go:∀m0 m4,∃B E,aG lev cl (.expr (.meth .append (.V 3) (.p lN .u))) [some D,d1,d2,some (.L (A++[zT n s.1 s.2,ay s.1])),some (xZ n t s.1)] [m0,l1,l2,.F,m4] =
   .next [some D,d1,d2,some (.L ((A++[zT n s.1 s.2,ay s.1])++[zT n s.1 (a9 (t s.1) s.2)])),some (xZ n t s.1)] [B,l1,l2,.F,E]:=λm0 m4=>by
  refine⟨m0,m4,?_⟩;rw[wP,C4 F g];simp only[dT];rw[show wM [some D,d1,d2,some (.L (A++[zT n s.1 s.2,ay s.1])),some (xZ n t s.1)] 3=some (A++[zT n s.1 s.2,ay s.1])from rfl];simp only[];rw[OB (by simp;omega)];unfold xG;rw[OC (by simp[yy]),OB (xS lev _ _ (AM _ _ _))];simp only[Qc,Qd]
 unfold we;split
 .simp only[zo,Qc,Qd];exact go _ _
 .rw[show xC lM [some D,d1,d2,some (.L (A++[zT n s.1 s.2,ay s.1])),d4] [l0,l1,l2,.F,l4]=[.no,l1,l2,.F,l4]from rfl];simp only[zo,Qc,Qd];exact go _ _
def C3 (B:ED n t D)(E:inn n p=true)(A:T7)(x:Dat):aj cl ee [some D,some (.int ρ),d2,some (.L (A++[x,ay p])),d4]=.ok (.bl true):=by
 have G:=lB A x (ay p);unfold ee;simp only[yY,zX,yz,xT,zn,zm,zl,aH,G,B.isin p E];rfl
def FK (B:ED n t D)(A:T7)(x:Dat):aj cl ee [some D,d1,d2,some (.L (A++[x,.int i])),d4]=.ok (.bl false):=by
 have E:=lB A x (.int i);unfold ee;simp only[yY,zX,yz,xT,zn,zm,zl,aH,E,B.out i]
theorem ud (F:bW n t)(M:ED n t D)(ρ:Int)(d2:R8):∀(f:Nat) (s:aQ) (acc G:U5) (σ:Int),Good n t s->vO n t f s acc=some (G,σ)->acc.length+f+2<=ao->(∃B,.int ρ::acc.map ay=B++[zT n s.1 s.2,ay s.1])->∀(A:Nat),f+1<=A->∀(d4:R8) (l0 l1 l2 l4:Lv),
  ∃z m0 m4,xa (aj cl ee) (aG lev cl fB) A [some D,some (.int ρ),d2,some (.L (.int ρ::acc.map ay)),d4] [l0,l1,l2,.F,l4]=.next [some D,some (.int ρ),d2,some (.L (.int ρ::G.map ay++[.int σ])),z] [m0,l1,l2,.F,m4]
 |0,s,acc,G,σ,g,h,o,H,A,p,d4,l0,l1,l2,l4=>by cases h
 |f+1,s,acc,G,σ,g,h,o,⟨B,H⟩,A,p,d4,l0,l1,l2,l4=>by
  obtain⟨q,rfl⟩:∃q,A=q+1:=⟨A-1,by lia⟩;have Y:B.length+2=acc.length+1:=by
   have:=OE V7 H;simpa using this.symm
  obtain⟨m0,m4,d⟩:=ue (lev:=lev) (cl:=cl) F M g (d1:=some (.int ρ)) (d2:=d2) (d4:=d4) B (by lia) l0 l1 l2 l4;have I:(match bC n t s with|some j=>vO n t f j (acc++[j.1])|none=>some (acc,gE n t s))=some (G,σ):=h;have J:∀(c:aM->Rd) (E:aM->U6->b8) (k:Nat) (N:aM) (O:U6),xa c E (k+1) N O=match c N with
   |.ok (.bl true)=>match E N O with
    |.next d1 l1=>xa c E k d1 l1
    |r=>r
   |.ok (.bl false)=>.next N O
   |_=>.no:=λ_ _ _ _ _=>rfl
  rw[J,H,C3 M g.1];simp only[];rw[d];simp only[];rw[<-H];unfold bC gE at I;by_cases L:inn n (aD (a9 (t s.1) s.2) s.1)=true
  .rw[OB L]at I;have Q:zT n s.1 (a9 (t s.1) s.2)=ay (aD (a9 (t s.1) s.2) s.1):=by unfold zT;rw[OB L]
   have l:bC n t s=some (aD (a9 (t s.1) s.2) s.1,cB (a9 (t s.1) s.2)):=by unfold bC;rw[OB L]
   rw[Q];have e:(.int ρ::acc.map ay)++[ay (aD (a9 (t s.1) s.2) s.1)]=.int ρ::(acc++[aD (a9 (t s.1) s.2) s.1]).map ay:=by simp
   rw[e];refine ud F M ρ d2 f _ _ G σ (zH F g l).1 I (by simp;lia) ⟨B++[zT n s.1 s.2],?_⟩ q (by lia) _ _ _ _ _;rw[<-e,H,Qm,Qm];have U:zT n (aD (a9 (t s.1) s.2) s.1) (cB (a9 (t s.1) s.2))=ay s.1:=by
    unfold zT;rw[xx,OB g.1]
   simp[U]
  .rw[OC L]at I;cases I;have Q:zT n s.1 (a9 (t s.1) s.2)=.int (yF n s.1 (a9 (t s.1) s.2)):=by unfold zT;rw[OC L]
   rw[Q];obtain⟨u,rfl⟩:∃u,q=u+1:=⟨q-1,by lia⟩;refine⟨some (xZ n t s.1),m0,m4,?_⟩;rw[J,show(Dat.int ρ::acc.map ay)++[.int (yF n s.1 (a9 (t s.1) s.2))]=(B++[zT n s.1 s.2])++[ay s.1,.int (yF n s.1 (a9 (t s.1) s.2))]from by rw[H];simp,FK M]
def IR (Y:0<n)(B:n<=12)(G:ρ<4*n)(F:bW n t)(H:ED n t D)(g:Good n t (bE n ρ))(I:inn n (aD (bE n ρ).2 (bE n ρ).1)=false)(J:yF n (bE n ρ).1 (bE n ρ).2=ρ)(L:vO n t (n*n*4) (bE n ρ) [(bE n ρ).1]=some (A,σ))(M:lev k=.F):zL lev cl k g6 [D,.int ρ,ay (bE n ρ).1]=.ok (.L (.int ρ::A.map ay++[.int σ])):=by
 have N:n*n*4<=576:=by
  have:n*n<=12*12:=WG B B;lia
 have O:zT n (bE n ρ).1 (bE n ρ).2=.int ρ:=by
  unfold zT;rw[OC (by rw[I];decide),J]
 obtain⟨j,m0,m4,Q⟩:=ud (lev:=lev) (cl:=cl) F H ρ (some (ay (bE n ρ).1)) (n*n*4) (bE n ρ) [(bE n ρ).1] A σ g L (by simp;unfold ao;lia) ⟨[],by rw[O];rfl⟩ 1000000 (by lia) none (aY D) .F .F .F;have fl:∀A:U5,aO (A.map ay)=true:=λA=>by
  induction A with
  |nil=>rfl
  |cons a l U=>rw[QJ,gL,U];simp[ay]
 unfold zL;rw[OB (by rfl)];show zJ (lev k) (aG lev cl (.seq (.a 3 _) (.seq (.while ee fB) (.ret _))) [some D,some (.int ρ),some (ay (bE n ρ).1),none,none] [aY D,aY (.int ρ),aY (ay (bE n ρ).1),.F,.F])=_;rw[show aY (.int (ρ:Int))=.F from by simp[aY],show aY (ay (bE n ρ).1)=.F from by simp[aY,ay]];rw[vR (d:=.L [.int ρ,ay (bE n ρ).1]) (by
  simp only[xE,zt,zr,zm,zl,aH,zp];exact yZ (show 2<=ao by decide)) (by simp[ay]) rfl]
 simp only[Qc,Qd];rw[yf,gQ];have E:=Q;rw[show(VX ay [(bE n ρ).1])=[ay (bE n ρ).1]from rfl]at E;rw[E,zo];simp only[zQ,zm,zl,a7];simp[zJ,cc,M,xY]
end
end Lib
namespace Lib
section
variable{lev:U7}{cl:O5}{k:Nat}
def CL(p b:Pl):yH .ne (ay p) (ay b)=.ok (.bl (! decide (p=b))):=by
 obtain⟨a,c⟩:=p;obtain⟨d,e⟩:=b;have h:yH .ne (ay (a,c)) (ay (d,e))=.ok (.bl (!(decide (a=d)&&(decide (c=e)&&true)))):=rfl;rw[h,Bool.and_true,<-Bool.decide_and];congr 3;simp[Prod.ext_iff]
def sB (B:ED n t D)(E:inn n p=true)(A:T7)(x:Dat):aj cl ee [some D,some (ay b),d2,some (.L (A++[x,ay p])),d4]=.ok (.bl (! decide (p=b))):=by
 have G:=lB A x (ay p);unfold ee;simp only[yY,zX,yz,xT,zn,zm,zl,aH,G,B.isin p E,CL]
set_option tactic.hygienic true in
def FJ (F:bW n t)(N:ED n t D)(d2:R8):∀(G:List aQ) (s:aQ) (acc:U5),Good n t s->Ch n t s G l->((s::G).map (·.1)).Nodup->acc.length+G.length+3<=ao->(∃B,ay l.1::acc.map ay=B++[zT n s.1 s.2,ay s.1])->∀(A:Nat),G.length+1<=A->∀(d4:R8) (l0 l1 l2 l4:Lv),
  ∃O m0 m4,xa (aj cl ee) (aG lev cl fB) A [some D,some (ay l.1),d2,some (.L (ay l.1::acc.map ay)),d4] [l0,l1,l2,.F,l4]=.next [some D,some (ay l.1),d2,some (.L (ay l.1::(acc++G.map (·.1)).map ay)),O] [m0,l1,l2,.F,m4]:=by
 have I:∀(c:aM->Rd) (E:aM->U6->b8) (k:Nat) (M:aM) (Q:U6),xa c E (k+1) M Q=match c M with
   |.ok (.bl true)=>match E M Q with
    |.next d1 l1=>xa c E k d1 l1
    |r=>r
   |.ok (.bl false)=>.next M Q
   |_=>.no:=λ_ _ _ _ _=>rfl
 intro G
 induction G with
 |nil=>
  intro s acc g c nd U H A u d4 l0 l1 l2 l4;obtain⟨B,H⟩:=H;obtain⟨q,rfl⟩:∃q,A=q+1:=⟨A-1,by lia⟩;have o:s=l:=c;subst o;refine⟨d4,l0,l4,?_⟩;rw[I,Vu,Q6,H,sB N g.1,OF rfl];rfl
 |cons y G p=>
  intro s acc g c nd U H A u d4 l0 l1 l2 l4;obtain⟨B,H⟩:=H;obtain⟨q,rfl⟩:∃q,A=q+1:=⟨A-1,by lia⟩;have z:B.length+2=acc.length+1:=by
   have:=OE V7 H;simpa using this.symm
  have J:=QB.mp (show(s.1::(y::G).map (·.1)).Nodup from nd);have Y:s.1≠l.1:=λe=>J.1 (by rw[e];exact QP.mpr ⟨l,nY G y l c.2,rfl⟩);obtain⟨m0,m4,d⟩:=ue (lev:=lev) (cl:=cl) F N g (d1:=some (ay l.1)) (d2:=d2) (d4:=d4) B (by simp at U;lia) l0 l1 l2 l4;have L:=c.1;have f:=(zH F g L).1;unfold bC at L;split at L
  .next m=>
   cases L;have b:zT n s.1 (a9 (t s.1) s.2)=ay (aD (a9 (t s.1) s.2) s.1):=by unfold zT;rw[OB m]
   have e:(ay l.1::acc.map ay)++[ay (aD (a9 (t s.1) s.2) s.1)]=ay l.1::(acc++[aD (a9 (t s.1) s.2) s.1]).map ay:=by simp
   obtain⟨O,h,i,a⟩:=p (aD (a9 (t s.1) s.2) s.1,cB (a9 (t s.1) s.2)) (acc++[aD (a9 (t s.1) s.2) s.1]) f c.2 J.2 (by simp at U ⊢;lia) ⟨B++[zT n s.1 s.2],by
    have j:zT n (aD (a9 (t s.1) s.2) s.1) (cB (a9 (t s.1) s.2))=ay s.1:=by
     unfold zT;rw[xx,OB g.1]
    rw[<-e,H,Qm,Qm];simp[j]⟩ q (by simp at u;lia) (some (xZ n t s.1)) m0 l1 l2 m4
   refine⟨O,h,i,?_⟩;rw[I,H,sB N g.1,OA Y];simp only[Bool.not_false];rw[d];simp only[];rw[<-H,b,e,a];simp
  .cases L
def Kw (F:bW n t)(E:ED n t D)(R:b9 n t s A l)(J:A.length<=1000)(G:inn n (aD s.2 s.1)=true)(H:lev k=.F):zL lev cl k g6 [D,ay l.1,ay s.1]=.ok (.L (ay l.1::(s.1::A.map (·.1)).map ay)):=by
 have I:zT n s.1 s.2=ay l.1:=by
  unfold zT;rw[OB G,R.last F]
 obtain⟨L,m0,m4,B⟩:=FJ (lev:=lev) (cl:=cl) F E (some (ay s.1)) A s [s.1] R.g R.c R.nd (by simp;unfold ao;lia) ⟨[],by rw[I];rfl⟩ 1000000 (by lia) none (aY D) .F .F .F;unfold zL;rw[OB (by rfl)];show zJ (lev k) (aG lev cl (.seq (.a 3 _) (.seq (.while ee fB) (.ret _))) [some D,some (ay l.1),some (ay s.1),none,none] [aY D,aY (ay l.1),aY (ay s.1),.F,.F])=_;rw[show aY (ay l.1)=.F from by simp[aY,ay],show aY (ay s.1)=.F from by simp[aY,ay]];rw[vR (d:=.L [ay l.1,ay s.1]) (by
  simp only[xE,zt,zr,zm,zl,aH,zp];exact yZ (show 2<=ao by decide)) (by simp[ay]) rfl]
 simp only[Qc,Qd];rw[yf,gQ];rw[show(VX ay [s.1])=[ay s.1]from rfl]at B;rw[B,zo];simp only[zQ,zm,zl,a7];simp[zJ,cc,H,xY]
end
end Lib
namespace Lib
section
variable{lev:U7}{cl:O5}{k:Nat}
noncomputable def cn(b:Bool):Int:=if b then 0 else 1
def vZ (h:i<p):(yD p q F).getD i []=xA q F i:=by simp[yD,Qg,h]
def lA (h:j<q):yh (row (xA q F i)) (.int (j:Int))=.ok (.int (F i j)):=jI (by simp[xA,h])
def CK(x b:Bool):decide (eR x=cn b)=!(x==b):=by cases x<;>cases b<;>rfl
def C2 (H:aW R)(b:Bool)(A:r<R.length)(B:c<R.length)(E:∀e,cl kb [.int R.length,.int r,.int c,yK e]=.ok (zT R.length ((r:Int),(c:Int)) e))(I:lev k=.F):
  zL lev cl k (iE kb) [arr R.length (wk (dG R)) (wk (eh R)),.int r,.int c,.int (cn b)]=.ok (xZ R.length (bO R b) ((r:Int),(c:Int))):=by
 obtain⟨J,L,M,N⟩:=CO H A B (F:=dG R) (G:=eh R) (λi j _ _=>rfl) (λi j _ _=>rfl);have e:=Ha (lev:=lev) (k:=k) (cl:=cl) (kb:=kb) (n:=R.length) (r:=r) (c:=c) (mk:=cn b) (U:=λe=>eR (cA R r c e)) (W:=yD R.length (R.length+1) (wk (dG R))) (V:=yD (R.length+1) R.length (wk (eh R))) (gR _ _ _)
  (by rw[vZ (by lia)];exact gS (by lia)) (by rw[vZ A];exact gS A) (by rw[vZ (by lia)];exact gS (i:=r+1) (by lia))
  (by rw[vZ (by lia),lA B,J]) (by rw[vZ A];exact(lA (j:=c+1) (by lia)).trans (by rw[L])) (by rw[vZ (by lia),lA B,M]) (by rw[vZ A,lA (by lia),N]) E I
 rw[show arr R.length (wk (dG R)) (wk (eh R))=.T [aq (yD R.length (R.length+1) (wk (dG R))),aq (yD (R.length+1) R.length (wk (eh R)))]from rfl,e];unfold xZ;congr 3;refine List.filter_congr λd _=>?_;show decide (eR (cA R r c d)=cn b)=!(dU R ((r:Int),(c:Int)) d==b);rw[CK];rfl
def g7 (h:lev kt=.F):cc lev (.call kt a) X lv=.F:=by
 unfold cc;split
 .rfl
 .show bI lev (.call kt a) X=.F;rw[kK,h];split<;>rfl
noncomputable def ml(kp kt:Nat):Fn:=⟨4,6,(.seq (.a 4 (.ife (.cmp .eq (.V 3) (.lit (.int 1))) (.bin .mul (.lit (.int 2)) (.V 2)) (.bin .add (.bin .mul (.lit (.int 2)) (.V 2)) (.lit (.int 1))))) (.seq (.a 5 (.call kp (.p (.V 1) (.p (.V 4) .u)))) (.ret (.call kt (.p (.V 0) (.p (.V 4) (.p (.T (.p (.i (.V 5) (.lit (.int 0))) (.p (.i (.V 5) (.lit (.int 1))) .u))) .u)))))))⟩
def FI {n:Nat}(b:Bool)(E:cl kp [.int n,.int ((2*j+bN b:Nat):Int)]=.ok (.T [.int (bE n (2*j+bN b)).1.1,.int (bE n (2*j+bN b)).1.2,yK (bE n (2*j+bN b)).2]))(G:cl kt [D,.int ((2*j+bN b:Nat):Int),ay (bE n (2*j+bN b)).1]=.ok X)(B:lev kt=.F)(H:lev k=.F):
  zL lev cl k (ml kp kt) [D,.int n,.int j,.int (cn b)]=.ok X:=by
 have m2:zZ .mul (.int 2) (.int (j:Int))=.ok (.int (2*(j:Int))):=yG _ _ (by decide);have A:∀d4 d5:R8,aj cl (.ife (.cmp .eq (.V 3) (.lit (.int 1))) (.bin .mul (.lit (.int 2)) (.V 2)) (.bin .add (.bin .mul (.lit (.int 2)) (.V 2)) (.lit (.int 1)))) [some D,some (.int n),some (.int j),some (.int (cn b)),d4,d5]=.ok (.int ((2*j+bN b:Nat):Int)):=λd4 d5=>by
  cases b with
  |false=>
   simp only[jg,zX,zE,zn,zm,zl,aH,xi,m2];rfl
  |true=>
   simp only[jg,zX,zE,zn,zm,zl,aH,xi,m2,yC];rfl
 unfold zL;rw[OB (by rfl)];show zJ (lev k) (aG lev cl (.seq (.a 4 _) (.seq (.a 5 _) (.ret _))) [some D,some (.int n),some (.int j),some (.int (cn b)),none,none] _)=_;rw[mP (A _ _) (by simp) rfl];simp only[Qc,Qd];generalize ((2*j+bN b:Nat):Int)=L at *
 generalize bE n (2*j+bN b)=s at *
 rw[mP (d:=.T [.int s.1.1,.int s.1.2,yK s.2]) (by simp only[zB,zt,zr,zm,zl,aH,zp,E]) (by simp[yK]) rfl];simp only[Qc,Qd,zQ];have I:yh (.T [.int s.1.1,.int s.1.2,yK s.2]) (.int 0)=.ok (.int s.1.1):=rfl;have J:yh (.T [.int s.1.1,.int s.1.2,yK s.2]) (.int 1)=.ok (.int s.1.2):=rfl;simp only[zB,zt,zr,mR,yz,zn,zm,zl,aH,zp,I,J];rw[show(Dat.T [.int s.1.1,.int s.1.2])=ay s.1 from rfl,G];simp only[a7];rw[g7 B];simp[zJ,H,xY]
noncomputable def mj(A B:Nat):Fn:=⟨2,4,(.seq (.a 2 (.blt .len (.p (.V 0) .u))) (.seq (.a 3 (.call A (.p (.V 0) (.p (.V 1) .u)))) (.ret (.comp (.bin .fdiv (.i (.call B (.p (.V 3) (.p (.V 2) (.p (.V 4) (.p (.V 1) .u))))) (.neg (.lit (.int 1)))) (.lit (.int 2))) (.rng (.lit (.int 0)) (.bin .mul (.lit (.int 2)) (.V 2)) (.lit (.int 1))) (.lit (.bl true))))))⟩
def FH (O:R.length<=12)(b:Bool)(H:cl G [aq R,.int (cn b)]=.ok D)(B:lev G=.F){L:Nat->Nat}{P:Nat->T7}(I:∀j,j<2*R.length->cl J [D,.int R.length,.int j,.int (cn b)]=.ok (.L (P j++[.int ((2*L j+bN b:Nat):Int)])))(M:lev k=.F):
  zL lev cl k (mj G J) [aq R,.int (cn b)]=.ok (row ((QA (2*R.length)).map λj=>(L j:Int))):=by
 have A:xf .len [aq R]=.ok (.int R.length):=by simp[xf,xX,aq]
 have m2:zZ .mul (.int 2) (.int R.length)=.ok (.int ((2*R.length:Nat):Int)):=by rw[yG _ _ (by decide)];simp
 have E:kG (.int 0) (.int ((2*R.length:Nat):Int)) (.int 1)=.ok (.T (yA 0 1 (2*R.length))):=jK (by lia);have Q:bN b=0\/bN b=1:=by cases b<;>simp[bN]
 unfold zL;rw[OB (by rfl)];show zJ (lev k) (aG lev cl (.seq (.a 2 _) (.seq (.a 3 _) (.ret _))) [some (aq R),some (.int (cn b)),none,none] [aY (aq R),aY (.int (cn b)),.F,.F])=_;rw[mP (d:=.int R.length) (by simp only[xr,zt,zr,zm,aH,zp,A]) (by simp) rfl];simp only[Qc,Qd];rw[vR (d:=D) (by simp only[zB,zt,zr,zm,zl,aH,zp,H]) (by rw[kK,B];split<;>rfl) rfl];simp only[Qc,Qd,zQ];rw[wN];simp only[vh,zn,zE,zm,zl,aH,m2,E,vk];rw[gN 0 1 (2*R.length) (λj=>.int (L j)) (λj _=>rfl) (λj hj=>?_) (by unfold ao;lia)]
 .simp only[a7];have N:(Dat.L ((QA (2*R.length)).map λj=>Dat.int (L j)))=row ((QA (2*R.length)).map λj=>(L j:Int)):=by simp only[row,QQ];rfl
  rw[N];simp[zJ,cc,row,M,xY,jh]
 .rw[show(0+1*(j:Int))=(j:Int) by lia];simp only[QZ,QS,zE,yz,zB,xT,zt,zr,zn,zm,zl,aH,zp,I j hj];rw[vJ (d:=.int ((2*L j+bN b:Nat):Int)) (by simp)];simp only[aH];rw[vI _ _ (by decide) (by decide),show(((2*L j+bN b:Nat):Int))/2=(L j:Int) by lia]
noncomputable def qk(k:Nat)(m:Int):Fn:=⟨1,1,(.ret (.call k (.p (.V 0) (.p (.lit (.int m)) .u))))⟩
def uc (h:cl A [d,.int m]=.ok X)(hl:lev A=.F)(B:lev k=.F):zL lev cl k (qk A m) [d]=.ok X:=by
 unfold zL;rw[OB (by rfl)];show zJ (lev k) (aG lev cl (.ret _) [some d] [aY d])=_;rw[zQ];simp only[zB,zt,zr,zn,zm,aH,zp,h,a7];rw[g7 hl];simp[zJ,B,xY]
end
end Lib
namespace Lib
section
variable{lev:U7}{cl:O5}{k:Nat}
noncomputable def g8:Fn:=⟨2,2,(.seq (.ite (.cmp .lt (.V 1) (.blt .len (.p (.V 0) .u))) (.ret (.i (.V 0) (.V 1))) .skip) (.ret (.lit (.int 0))))⟩
def IQ(A:T6)(i:Nat):∃c:Int,zL lev cl k g8 [.scr A,.int i]=.ok (.int c):=by
 by_cases h:i<A.length
 .refine ⟨A[i],?_⟩;have B:yh (.scr A) (.int (i:Int))=.ok (.int A[i]):=by simp[yh,xX,tj h,h]
  simp[zL,g8,xD,xp,zJ,cc,h,B]
 .refine ⟨0,?_⟩;simp[zL,g8,xD,xp,zJ,cc,h]
noncomputable def mK:Fn:=⟨2,3,(.seq (.a 2 (.bin .mod (.bin .mul (.bin .add (.bin .add (.bin .mod (.V 0) (.bin .pow (.lit (.int 10)) (.lit (.int 40)))) (.bin .mul (.V 1) (.V 1))) (.lit (.int 17))) (.bin .add (.lit (.int 30103)) (.bin .mul (.lit (.int 2)) (.V 1)))) (.lit (.int 86028121)))) (.ret (.bin .fdiv (.bin .mod (.bin .mul (.V 2) (.V 2)) (.lit (.int 86028157))) (.lit (.int 7)))))⟩
def Hv(c j:Int)(h:0<=j)(h':j<=100000):∃v:Int,zL lev cl k mK [.int c,.int j]=.ok (.int v):=by
 have A:zZ .pow (.int 10) (.int 40)=.ok (.int (10^40)):=tm 10 40 ⟨by decide,by decide,by decide⟩;have B:zZ .mod (.int c) (.int (10^40))=.ok (.int (c%10^40)):=xU _ _ (by decide);generalize (10:Int)^40=P at *
 have E:zZ .mul (.int j) (.int j)=.ok (.int (j*j)):=yG _ _ (kN (by lia) (by lia));have G:∀x:Int,zZ .mul (.int x) (.int (30103+2*j))=.ok (.int (x*(30103+2*j))):=λx=>Ft _ _ (kN (by lia) (by lia));have H:zZ .mul (.int 2) (.int j)=.ok (.int (2*j)):=yG _ _ (by decide);have I:∀x:Int,zZ .mod (.int x) (.int 86028121)=.ok (.int (x%86028121)):=λx=>xU _ _ (by decide);have J:∀x:Int,zZ .mod (.int x) (.int 86028157)=.ok (.int (x%86028157)):=λx=>xU _ _ (by decide);have L:∀x:Int,zZ .fdiv (.int x) (.int 7)=.ok (.int (x/7)):=λx=>vI _ _ (by decide) (by decide);have M:∀y:Int,zZ .mul (.int (y%86028121)) (.int (y%86028121))=.ok (.int (y%86028121*(y%86028121))):=λy=>yG _ _ (kN (by lia) (by lia));generalize N:(c%P+j*j+17)*(30103+2*j)=y;refine⟨y%86028121*(y%86028121)%86028157/7,?_⟩;unfold zL;rw[OB (by rfl)];show zJ (lev k) (aG lev cl (.seq (.a 2 _) (.ret _)) [some (.int c),some (.int j),none] _)=_;rw[yf];simp only[zR,zE,zm,zl,zn,aH,A,B,E,H,yC,G,N,I,a7];rw[yo (by simp)];simp only[zo,Qc,Qd,zQ,zE,zm,zl,zn,aH,M,J,L,a7];simp[zJ]
noncomputable def oT:Ex:=(.bin .add (.i (.V 5) (.V 7)) (.blt .int (.p (.and (.cmp .ne (.V 6) (.L .u)) (.cmp .eq (.i (.V 6) (.neg (.lit (.int 1)))) (.i (.V 5) (.V 7)))) .u)))
noncomputable def iN:Ex:=(.bin .add (.bin .sub (.i (.V 5) (.bin .add (.V 7) (.lit (.int 1)))) (.V 8)) (.lit (.int 1)))
noncomputable def iO(km:Nat):Sm:=(.seq (.a 8 oT) (.seq (.a 9 (.V 3)) (.seq (.ite (.or (.cmp .lt (.V 0) (.bin .pow (.lit (.int 10)) (.lit (.int 18)))) (.cmp .eq (.V 3) (.lit (.int 0)))) (.a 9 (.call km (.p (.V 0) (.p (.V 4) .u)))) .skip) (.seq (.expr (.meth .append (.V 6) (.p (.bin .add (.V 8) (.bin .mod (.V 9) iN)) .u))) (.seq (.a 3 (.bin .fdiv (.V 3) iN)) (.a 4 (.bin .add (.V 4) (.lit (.int 1)))))))))
noncomputable def kU(l2 l5:Lv):U6:=[.F,.F,l2,.F,.F,l5,.F,.F,.F,.F,.F,.F]
def C1 (G:m+1<last.length)(hl:dJ last)(B:acc.length=m)(H:∀i,i<m->acc.getD i 0<=last.getD (i+1) 0)(M:∀i,i<m->last.getD i 0<=acc.getD i 0):
  ∃ba:Int,last.getD m 0<=ba/\ba<=last.getD (m+1) 0/\(0<m->acc.getD (m-1) 0<ba)/\aj cl oT [a,b,f,g,h,some (row last),some (row acc),some (.int m),o8,o9,o10,o11]=.ok (.int ba):=by
 have E:yh (row last) (.int (m:Int))=.ok (.int (last.getD m 0)):=jI (gM (by lia));have N:=hl m G;have A:bh []=.ok (row []):=rfl;unfold oT;simp only[zE,yz,xr,zt,zr,yY,zX,xE,xT,zn,zl,zm,aH,zp,A,E];rw[DZ];by_cases z:acc=[]
 .subst z;refine⟨last.getD m 0,by lia,by lia,λh=>by simp at B;lia,?_⟩;simp[xf,b2i]
 .have I:0<m:=by cases acc with
   |nil=>exact OD rfl z
   |cons _ _=>simp at B;lia
  have J:yh (row acc) (.int (-1))=.ok (.int (acc.getD (m-1) 0)):=by
   refine vJ ?_;rw[Qi,B,Qq,gM (by lia)];rfl
  have L:=H (m-1) (by lia);rw[show m-1+1=m by lia]at L;simp only[z,decide_false,Bool.not_false,aH,J,xi,E];by_cases q:acc.getD (m-1) 0=last.getD m 0
  .refine ⟨last.getD m 0+1,by lia,by lia,λ_=>by lia,?_⟩;rw[OF q];simp[xf,b2i]
  .refine ⟨last.getD m 0,by lia,by lia,λ_=>by lia,?_⟩;rw[OA q];simp[xf,b2i]
def FG (O:∀c j:Int,0<=j->j<=100000->∃v:Int,cl km [.int c,.int j]=.ok (.int v))(u:0<=turn/\turn<=100000)(Q:m+1<last.length)(hl:dJ last)(e:acc.length=m)(t:∀i,i<m->acc.getD i 0<=last.getD (i+1) 0)(s:∀i,i<m->last.getD i 0<=acc.getD i 0)(z:last.length<=100)(H:∀i,i<last.length->0<=last.getD i 0/\last.getD i 0<=1000):
  ∃(w E:Int) (y x:R8),aG lev cl (iO km) [some (.int cell),some n,some (.L rows),some (.int rest),some (.int turn),some (row last),some (row acc),some (.int m),o8,o9,o10,o11] (kU l2 l5)=.next [some (.int cell),some n,some (.L rows),some (.int E),some (.int (turn+1)),some (row last),some (row (acc++[w])),some (.int m),y,x,o10,o11] (kU l2 l5)
   /\ last.getD m 0<=w/\w<=last.getD (m+1) 0/\(0<m->acc.getD (m-1) 0<w):=by
 obtain⟨ba,l1,l2',l3,I⟩:=C1 (cl:=cl) (a:=some (.int cell)) (b:=some n) (f:=some (.L rows)) (g:=some (.int rest)) (h:=some (.int turn)) (o8:=o8) (o9:=o9) (o10:=o10) (o11:=o11) Q hl e t s;have g2:yh (row last) (.int ((m:Int)+1))=.ok (.int (last.getD (m+1) 0)):=jI (c:=m+1) (gM Q);have J:zZ .pow (.int 10) (.int 18)=.ok (.int (10^18)):=tm 10 18 ⟨by decide,by decide,by decide⟩;generalize (10:Int)^18=P at J;have b1:=H m (by lia);have b2:=H (m+1) Q;have G:0<last.getD (m+1) 0-ba+1:=by lia
 have A:∃A:Int,aG lev cl (.ite (.or (.cmp .lt (.V 0) (.bin .pow (.lit (.int 10)) (.lit (.int 18)))) (.cmp .eq (.V 3) (.lit (.int 0)))) (.a 9 (.call km (.p (.V 0) (.p (.V 4) .u)))) .skip) [some (.int cell),some n,some (.L rows),some (.int rest),some (.int turn),some (row last),some (row acc),some (.int m),some (.int ba),some (.int rest),o10,o11] (kU l2 l5)=.next [some (.int cell),some n,some (.L rows),some (.int rest),some (.int turn),some (row last),some (row acc),some (.int m),some (.int ba),some (.int A),o10,o11] (kU l2 l5):=by
  obtain⟨v,hv⟩:=O cell turn u.1 u.2;have U:∃b:Bool,aj cl (.or (.cmp .lt (.V 0) (.bin .pow (.lit (.int 10)) (.lit (.int 18)))) (.cmp .eq (.V 3) (.lit (.int 0)))) [some (.int cell),some n,some (.L rows),some (.int rest),some (.int turn),some (row last),some (row acc),some (.int m),some (.int ba),some (.int rest),o10,o11]=.ok (.bl b):=by
   simp only[sd,zX,zE,zn,zl,zm,aH,J,qP,xi];by_cases q:cell<P
   .exact ⟨true,by simp[q]⟩
   .exact ⟨decide (rest=0),by simp[q]⟩
  obtain⟨b,U⟩:=U;rw[y6,U];simp only[a7];cases b with
  |true=>
   refine⟨v,?_⟩;simp only[zR,zB,zt,zr,zl,zm,aH,zp,hv,a7];rw[yo (by simp)];rfl
  |false=>exact⟨rest,by simp only[yS]⟩
 obtain⟨A,L⟩:=A;have q1:=Int.emod_nonneg A (b:=last.getD (m+1) 0-ba+1) (by lia);have q2:=Int.emod_lt_of_pos A G;have o:∀(p d l o9:R8),aj cl iN [some (.int cell),some n,some (.L rows),p,d,some (row last),l,some (.int m),some (.int ba),o9,o10,o11]=.ok (.int (last.getD (m+1) 0-ba+1)):=λp d l o9=>by
  unfold iN;simp only[zE,yz,zn,zl,zm,aH,yC,g2,xb]
 have M:zZ .mod (.int A) (.int (last.getD (m+1) 0-ba+1))=.ok (.int (A % (last.getD (m+1) 0-ba+1))):=xU _ _ G;have N:zZ .fdiv (.int rest) (.int (last.getD (m+1) 0-ba+1))=.ok (.int (rest / (last.getD (m+1) 0-ba+1))):=vI _ _ G (by lia);refine⟨ba+A % (last.getD (m+1) 0-ba+1),rest / (last.getD (m+1) 0-ba+1),some (.int ba),some (.int A),?_,by lia,by lia,λh=>by have:=l3 h;lia⟩;unfold iO;rw[zS,zR,I];simp only[a7];rw[yo (by simp)];simp only[zo,kU,Qc,Qd];rw[zS,zR];simp only[zl,zm,a7];rw[yo (by simp)];simp only[zo,Qc,Qd];rw[zS];have B:=L;unfold kU at B;rw[B,zo,zS,wP];simp only[zE,zl,zm,o,aH,M,yC,dT];rw[show wM [some (.int cell),some n,some (.L rows),some (.int rest),some (.int turn),some (row last),some (row acc),some (.int m),some (.int ba),some (.int A),o10,o11] 6=some (acc.map Dat.int)from rfl];simp only[Qi];rw[OB (by unfold ao;lia)];have Y:xG lev (.bin .add (.V 8) (.bin .mod (.V 9) iN)) (.int (ba+A % (last.getD (m+1) 0-ba+1))) 6 [some (.int cell),some n,some (.L rows),some (.int rest),some (.int turn),some (row last),some (row acc),some (.int m),some (.int ba),some (.int A),o10,o11] [.F,.F,l2,.F,.F,l5,.F,.F,.F,.F,.F,.F]=some ([some (.int cell),some n,some (.L rows),some (.int rest),some (.int turn),some (row last),some (row acc),some (.int m),some (.int ba),some (.int A),o10,o11],[.F,.F,l2,.F,.F,l5,.F,.F,.F,.F,.F,.F]):=by
  unfold xG;rw[OC (by simp[yy]),OB (xS lev _ _ (by simp))]
 rw[Y];simp only[zo,Qc,Qd];rw[tf,zR];simp only[zE,zl,zm,o,aH,N,a7];rw[yo (by simp)];simp only[zo,Qc,Qd,zR,zE,zl,zm,zn,aH,yC,a7];rw[yo (by simp)];simp[row]
end
end Lib
namespace Lib
section
variable{lev:U7}{cl:O5}{k:Nat}
def C0 (Q:∀c j:Int,0<=j->j<=100000->∃v:Int,cl km [.int c,.int j]=.ok (.int v)){turn:Int}{kk:Nat}(ht:0<=turn/\turn+kk<=100000)(u:last.length=kk+1)(hl:dJ last)(N:last.length<=100)(U:∀i,i<last.length->0<=last.getD i 0/\last.getD i 0<=1000):
  ∃(acc:T6) (A:Int) (J E G:R8),yN (λx de lv=>aG lev cl (iO km) (de.set 7 (some x)) (lv.set 7 (aY x))) (yA 0 1 kk) [some (.int cell),some n,some (.L rows),some (.int rest),some (.int turn),some (row last),some (row []),o7,o8,o9,o10,o11] (kU l2 l5) =
   .next [some (.int cell),some n,some (.L rows),some (.int A),some (.int (turn+kk)),some (row last),some (row acc),J,E,G,o10,o11] (kU l2 l5)/\dJ acc/\io last acc:=by
 have O:=yL (body:=λx de lv=>aG lev cl (iO km) (de.set 7 (some x)) (lv.set 7 (aY x)))
  (λm de lv=>∃(acc:T6) (A:Int) (J E G:R8),de=[some (.int cell),some n,some (.L rows),some (.int A),some (.int (turn+m)),some (row last),some (row acc),J,E,G,o10,o11]/\lv=kU l2 l5/\acc.length=m/\dJ acc/\(∀i,i<m->last.getD i 0<=acc.getD i 0/\acc.getD i 0<=last.getD (i+1) 0))
  (yA 0 1 kk) (de:=[some (.int cell),some n,some (.L rows),some (.int rest),some (.int turn),some (row last),some (row []),o7,o8,o9,o10,o11]) (lv:=kU l2 l5)
  ⟨[],rest,o7,o8,o9,by simp,rfl,rfl,λi B=>by simp at B,λi B=>by lia⟩ ?_
 .refine aP λo p=>?_;obtain⟨d,l,e,acc,A,J,E,G,rfl,rfl,L,Y,M⟩:=O;refine p ?_;rw[Ar]at L M e;exact⟨acc,A,J,E,G,e,Y,⟨by lia,λi B=>M i (by lia)⟩⟩
 .intro m x de lv H g;refine aP λo f=>?_;obtain⟨acc,A,J,E,G,rfl,rfl,L,Y,M⟩:=g;have q:m<kk:=by
   have:=(Qa.mp H).1;simpa using this
  rw[wD _ _ _ _ q]at H;cases H;have t:(0:Int)+1*(m:Int)=(m:Int):=by lia
  obtain⟨w,I,s,b,e,a,y,b3⟩:=FG (lev:=lev) (cl:=cl) (cell:=cell) (rest:=A) (turn:=turn+m) (n:=n) (rows:=rows) (last:=last) (acc:=acc) (m:=m) (o8:=E) (o9:=G) (o10:=o10) (o11:=o11) (l2:=l2) (l5:=l5) Q (by lia) (by lia) hl L (λi B=>(M i B).2) (λi B=>(M i B).1) N U;refine f ?_;refine⟨_,_,?_,acc++[w],I,some (.int m),s,b,rfl,rfl,by simp[L],Y.app (λh=>?_),λi B=>?_⟩
  .simp only[t,kU,Qc,Qd,show aY (.int (m:Int))=.F from by simp[aY]];rw[show turn+((m+1:Nat):Int)=turn+m+1 by lia];exact e
  .rw[L]at h ⊢;exact b3 h
  .by_cases z:i<m
   .rw[x9 (by lia)];exact M i z
   .have:i=acc.length:=by lia
    subst this;rw[jw,L];exact⟨a,y⟩
noncomputable def lW(km:Nat):Sm:=(.seq (.a 5 (.i (.V 2) (.neg (.lit (.int 1))))) (.seq (.a 6 (.L .u)) (.seq (.forv 7 (.rng (.lit (.int 0)) (.bin .sub (.blt .len (.p (.V 5) .u)) (.lit (.int 1))) (.lit (.int 1))) (iO km)) (.expr (.meth .append (.V 2) (.p (.V 6) .u))))))
noncomputable def lV:Ex:=(.cmp .lt (.blt .len (.p (.V 2) .u)) (.V 1))
noncomputable def DP(cell:Int)(n t:Nat)(de:aM)(lv:U6):Prop:=∃(L:O7) (B A:Int) (G H I J M:R8) (E N O:Lv),de=[some (.int cell),some (.int n),some (aq L),some (.int B),some (.int A),G,H,I,J,M,none,none]/\lv=[.F,.F,E,.F,.F,N,O,.F,.F,.F,.F,.F]/\(E=.F\/E=.top)/\L.length=t+1/\dx n L/\0<=A/\A<=100*t
def sS (h:DP cell n t de lv):aj cl lV de=.ok (.bl (decide (t+1<n))):=by
 refine aP λI G=>?_;obtain⟨L,B,E,J,M,N,O,Q,U,Y,j,rfl,rfl,H,q,u,z⟩:=h;refine G ?_;have A:xf .len [aq L]=.ok (.int L.length):=by simp[aq]
 unfold lV;simp only[zX,xr,zt,zr,zl,zm,aH,zp,A,qP];rw[show decide ((L.length:Int)<(n:Int))=decide (t+1<n)from decide_eq_decide.mpr (by lia)]
def CZ (Y:∀c j:Int,0<=j->j<=100000->∃v:Int,cl km [.int c,.int j]=.ok (.int v))(x:n<=12)(ht:t+1<n)(h:DP cell n t de lv):∃I J,aG lev cl (lW km) de lv=.next I J/\DP cell n (t+1) I J:=by
 refine aP λzP m=>?_;obtain⟨L,G,A,b,f,q,u,z,i,a,s,rfl,rfl,o,p,U,h3,h4⟩:=h;have w:yh (aq L) (.int (-1))=.ok (row (L.getD t [])):=by
  refine vJ ?_;rw[Qi,p,Qq,Qg,show t+1-1=t by lia,Qj (by lia)];rfl
 have hl:=U.len t (by lia);have M:xf .len [row (L.getD t [])]=.ok (.int ((L.getD t []).length:Nat)):=by simp[row]
 have N:bh []=.ok (row []):=rfl;have O:kG (.int 0) (.int (((L.getD t []).length:Nat)-1:Int)) (.int 1)=.ok (.T (yA 0 1 (n-1-t))):=by
  rw[show(((L.getD t []).length:Nat)-1:Int)=((n-1-t:Nat):Int) by lia,lH (by unfold ao;lia)];simp[eI]
 obtain⟨E,B,d,l,g,e,Q,H⟩:=C0 (lev:=lev) (cl:=cl) (km:=km) Y (cell:=cell) (rest:=G) (turn:=A) (n:=.int n) (rows:=L.map row) (last:=L.getD t []) (kk:=n-1-t) (o7:=q) (o8:=u) (o9:=z) (o10:=none) (o11:=none) (l2:=.top) (l5:=.no) (by lia) (by lia) (U.inc t (by lia)) (by lia) (λj hj=>by have:=U.bd t (by lia) j hj;lia);refine m ?_;refine⟨[some (.int cell),some (.int n),some (aq (L++[E])),some (.int B),some (.int (A+(n-1-t:Nat))),some (row (L.getD t [])),some (row E),d,l,g,none,none],[.F,.F,.top,.F,.F,.no,.no,.F,.F,.F,.F,.F],?_,L++[E],B,_,_,_,_,_,_,.top,.no,.no,rfl,rfl,Or.inr rfl,by simp[p],U.app (by lia) Q (by rw[show L.length-1=t by lia];exact H),by lia,by lia⟩;unfold lW;rw[zS];simp only[zR,yz,xT,zl,zm,zn,aH,w,a7];rw[show we lev 5 (.i (.V 2) (.neg (.lit (.int 1)))) (row (L.getD t [])) [some (.int cell),some (.int n),some (aq L),some (.int G),some (.int A),b,f,q,u,z,none,none] [.F,.F,i,.F,.F,a,s,.F,.F,.F,.F,.F]=.next [some (.int cell),some (.int n),some (aq L),some (.int G),some (.int A),some (row (L.getD t [])),f,q,u,z,none,none] [.F,.F,.top,.F,.F,.no,s,.F,.F,.F,.F,.F]from by
  rcases o with rfl|rfl<;>rfl]
 simp only[zo];rw[zS];simp only[zR,xE,zr,aH,zp,N,a7];rw[xV (by simp[row])];simp only[zo,Qc,Qd];rw[oe,wg];simp only[vh,zE,xr,zt,zr,zp,zn,zl,zm,aH,M,xb,O,a7,vk,kO,wC,if_true];rw[show[Lv.F,Lv.F,Lv.top,Lv.F,Lv.F,Lv.no,Lv.F,Lv.F,Lv.F,Lv.F,Lv.F,Lv.F]=kU .top .no from rfl,show(some (aq L):R8)=some (.L (L.map row))from rfl,e,zo,wP];simp only[zl,zm,dT,wM,WZ,WY];rw[OB (by rw[Qi,p];unfold ao;lia)];have y:xG lev (.V 6) (row E) 2 [some (.int cell),some (.int n),some (.L (L.map row)),some (.int B),some (.int (A+(n-1-t:Nat))),some (row (L.getD t [])),some (row E),d,l,g,none,none] (kU .top .no)=some ([some (.int cell),some (.int n),some (.L (L.map row)),some (.int B),some (.int (A+(n-1-t:Nat))),some (row (L.getD t [])),some (row E),d,l,g,none,none],[.F,.F,.top,.F,.F,.no,.no,.F,.F,.F,.F,.F]):=by
  simp[xG,yy,kU,row,bb]
 rw[y];simp[aq]
noncomputable def ii:Ex:=(.comp (.bin .sub (.blt .int (.p (.cmp .isin (.V 12) (.V 6)) .u)) (.blt .int (.p (.cmp .isin (.V 12) (.V 11)) .u))) (.rng (.lit (.int 0)) (.V 1) (.lit (.int 1))) (.lit (.bl true)))
noncomputable def lU:Sm:=(.seq (.expr (.meth .append (.V 10) (.p ii .u))) (.a 11 (.V 6)))
def FF (N:X.length<=100)(I:i<X.length)(J:n=X.length):
  aG lev cl lU [a,some (.int n),d2,d3,d4,d5,some (row (X.getD i [])),d7,d8,d9,some (aq ((sg X).take i)),some (row (zV X i))] [.F,.F,l2,.F,.F,l5,.no,.F,.F,.F,.F,B]=.next [a,some (.int n),d2,d3,d4,d5,some (row (X.getD i [])),d7,d8,d9,some (aq ((sg X).take (i+1))),some (row (zV X (i+1)))] [.F,.F,l2,.F,.F,l5,.no,.F,.F,.F,.F,.no]:=by
 subst J;have E:kG (.int 0) (.int X.length) (.int 1)=.ok (.T (yA 0 1 X.length)):=by
  rw[lH (by unfold ao;lia)];simp[eI]
 have A:aj cl ii [a,some (.int X.length),d2,d3,d4,d5,some (row (X.getD i [])),d7,d8,d9,some (aq ((sg X).take i)),some (row (zV X i))]=.ok (row (xz X.length (X.getD i []) (zV X i))):=by
  unfold ii;rw[wN];simp only[vh,zn,zl,zm,aH,E,vk];rw[gN 0 1 X.length (λc=>.int (b2i (mem (X.getD i []) c)-b2i (mem (zV X i) c)))]
  .simp[row,xz]
  .intro j hj;simp
  .intro j hj;simp[IB]
  .unfold ao;lia
 have G:((sg X).take i).length<ao:=by simp[sg];unfold ao;lia
 have L:(sg X).take (i+1)=(sg X).take i++[xz X.length (X.getD i []) (zV X i)]:=by
  rw[Wp];congr 1;simp[sg,I]
 have H:bI lev ii (row (xz X.length (X.getD i []) (zV X i)))=.F:=by simp[ii,row]
 unfold lU;rw[tf,wP,A];simp only[dT];rw[show wM [a,some (.int X.length),d2,d3,d4,d5,some (row (X.getD i [])),d7,d8,d9,some (aq ((sg X).take i)),some (row (zV X i))] 10=some (((sg X).take i).map row)from rfl];simp only[Qi];rw[OB G];have M:xG lev ii (row (xz X.length (X.getD i []) (zV X i))) 10 [a,some (.int X.length),d2,d3,d4,d5,some (row (X.getD i [])),d7,d8,d9,some (aq ((sg X).take i)),some (row (zV X i))] [.F,.F,l2,.F,.F,l5,.no,.F,.F,.F,.F,B]=some ([a,some (.int X.length),d2,d3,d4,d5,some (row (X.getD i [])),d7,d8,d9,some (aq ((sg X).take i)),some (row (zV X i))],[.F,.F,l2,.F,.F,l5,.no,.F,.F,.F,.F,B]):=by
  unfold xG;rw[OC (by simp[yy]),OB H]
 rw[M];simp only[zo,Qc,Qd,zR,zl,zm,a7];rw[L];rw[show zV X (i+1)=X.getD i []from by simp[zV]];rw[show(aq (List.take i (sg X)++[xz X.length (X.getD i []) (zV X i)]))=.L ((List.take i (sg X)).map row++[row (xz X.length (X.getD i []) (zV X i))])from by simp[aq]];rfl
noncomputable def nI(km:Nat):Fn:=⟨2,12,(.seq (.a 2 (.L (.p (.lrng (.V 1)) .u))) (.seq (.a 3 (.V 0)) (.seq (.a 4 (.lit (.int 0))) (.seq (.while lV (lW km)) (.seq (.expr (.meth .reverse (.V 2) .u)) (.seq (.a 10 (.L .u)) (.seq (.a 11 (.L .u)) (.seq (.forv 6 (.V 2) lU) (.ret (.V 10))))))))))⟩
def IP (l:∀c j:Int,0<=j->j<=100000->∃v:Int,cl km [.int c,.int j]=.ok (.int v))(hn:1<=n)(hn':n<=12)(cell:Int)(J:lev k=.no\/lev k=.F):
  ∃X,ik n X/\zL lev cl k (nI km) [.int cell,.int n]=.ok (aq (sg X)):=by
 have hl:aj cl (.lrng (.V 1)) [some (.int cell),some (.int n),none,none,none,none,none,none,none,none,none,none]=.ok (row (yP n)):=by
  simp only[Fu,zl,zm,aH];rw[OB (by unfold ao;lia),yZ (by simp;unfold ao;lia),<-Kj];simp
 have M:bh [row (yP n)]=.ok (aq [yP n]):=by rw[yZ (by simp[ao])];rfl
 have E:bh []=.ok (row []):=rfl;obtain⟨g,f,e,L,A,B,q,u,z,o,d,l2,N,O,rfl,rfl,s,h1,h2,h3⟩:=Kg (c:=aj cl lV) (body:=aG lev cl (lW km)) (DP cell n) (n-1)
  (λt H I ht p=>⟨by rw[sS p];simp;lia,CZ l (by lia) (by lia) p⟩)
  (λH I p=>by rw[sS p];simp;lia) (n-1) 0 1000000 [some (.int cell),some (.int n),some (aq [yP n]),some (.int cell),some (.int 0),none,none,none,none,none,none,none] [.F,.F,.F,.F,.F,.F,.F,.F,.F,.F,.F,.F]
  (by lia) (by lia) ⟨[yP n],cell,0,none,none,none,none,none,.F,.F,.F,rfl,rfl,Or.inl rfl,rfl,dx.one n,by lia,by lia⟩
 have hX:ik n L.reverse:=ik.of hn h2 (by lia);have hXl:=hX.len;refine⟨L.reverse,hX,?_⟩;generalize m:L.reverse=X at *
 have Q:=yL (body:=λx H I=>aG lev cl lU (H.set 6 (some x)) (I.set 6 (aY x)))
  (λi H I=>∃(b:R8) (m6 G m2:Lv),H=[some (.int cell),some (.int n),some (aq X),some (.int A),some (.int B),q,b,z,o,d,some (aq ((sg X).take i)),some (row (zV X i))]/\I=[.F,.F,m2,.F,.F,N,m6,.F,.F,.F,.F,G])
  (X.map row) (de:=[some (.int cell),some (.int n),some (aq X),some (.int A),some (.int B),q,u,z,o,d,some (aq []),some (row [])]) (lv:=[.F,.F,.no,.F,.F,N,O,.F,.F,.F,.F,.F])
  ⟨u,O,.F,.no,rfl,rfl⟩ ?_
 .obtain ⟨g,f,e3,b,m6,G,m2,rfl,rfl⟩:=Q;unfold zL;rw[OB (by rfl)];show zJ (lev k) (aG lev cl (.seq _ (.seq _ (.seq _ (.seq _ (.seq _ (.seq _ (.seq _ (.seq _ _)))))))) [some (.int cell),some (.int n),none,none,none,none,none,none,none,none,none,none] [aY (.int cell),aY (.int n),.F,.F,.F,.F,.F,.F,.F,.F,.F,.F])=_;simp only[show ∀i:Int,aY (.int i)=.F from λi=>by simp[aY]];rw[zS];simp only[zR,xE,zt,zr,hl,aH,zp,M,a7];rw[xV (by simp[aq,row,zcL])];simp only[zo,Qc,Qd];rw[zS];simp only[zR,zl,zm,a7];rw[yo (by simp)];simp only[zo,Qc,Qd];rw[zS];simp only[zR,zn,a7];rw[yo (by simp)];simp only[zo,Qc,Qd];rw[zS,gQ,e,zo,zS,Fq];rw[show wM [some (.int cell),some (.int n),some (aq L),some (.int A),some (.int B),q,u,z,o,d,none,none] 2=some (L.map row)from rfl];simp only[];rw[OB (by rcases s with rfl|rfl<;>rfl),<-V2,m];simp only[zo,Qc,Qd];rw[zS];simp only[zR,xE,zr,aH,zp,E,a7];rw[xV (by simp[row])];simp only[zo,Qc,Qd];rw[zS];simp only[zR,xE,zr,aH,zp,E,a7];rw[xV (by simp[row])];simp only[zo,Qc,Qd];rw[yf,wg];have a:di (aq X)=some (X.map row):=wO (by simp;unfold ao;lia);have w:aF (aq X)=false:=by simp[aq]
  rw[show(Dat.L (X.map row))=aq X from rfl];simp only[zl,zm,a7,a,w];have U:(if false=true then[Lv.F,Lv.F,l2,Lv.F,Lv.F,N,O,Lv.F,Lv.F,Lv.F,Lv.F,Lv.F]else xC (.V 2) [some (.int cell),some (.int n),some (aq X),some (.int A),some (.int B),q,u,z,o,d,some (row []),some (row [])] [Lv.F,Lv.F,l2,Lv.F,Lv.F,N,O,Lv.F,Lv.F,Lv.F,Lv.F,Lv.F])=[.F,.F,.no,.F,.F,N,O,.F,.F,.F,.F,.F]:=rfl;rw[U];have Y:=e3;rw[show(some (aq []):R8)=some (row [])from rfl]at Y;rw[Y,zo];have hg:xY .F (lev k)=true:=by rcases J with h|h<;>rw[h]<;>rfl
  rw[Qi,We (by simp[sg])];simp[zJ,cc,hg,aq]
 .intro i x H I y zz;obtain⟨b,m6,G,m2,rfl,rfl⟩:=zz;have hi:i<X.length:=by
   have:=(Qa.mp y).1;simpa using this
  have hxi:x=row (X.getD i []):=by
   rw[Qq,Qj hi]at y;cases y;rw[Qg,Qj hi];rfl
  subst hxi;refine⟨_,_,?_,some (row (X.getD i [])),.no,.no,m2,rfl,rfl⟩;simp only[Qc,Qd,show aY (row (X.getD i []))=.no from by simp[aY,row]];exact FF (by lia) hi (by lia)
end
end Lib
namespace Lib
end Lib
namespace Lib
end Lib
namespace Lib
end Lib
namespace Lib
end Lib
namespace Lib
end Lib
namespace Lib
section
variable{lev:U7}{cl:O5}{k:Nat}
noncomputable def oH(A:Nat):Ex:=(.not (.and (.call A (.p (.V 0) .u)) (.chain .le .lt (.lit (.int 0)) (.V 0) (.V 1))))
noncomputable def mT(A:Nat):Fn:=⟨2,2,(.ite (oH A) .never .skip)⟩
def CY (A:∀d:Int,cl B [.int d]=.ok (.bl true))(i m:Int):aj cl (oH B) [some (.int i),some (.int m)]=.ok (.bl (!(decide (0<=i/\i<m)))):=by
 unfold oH;simp only[wf,yY,zB,zt,zr,As,zn,zm,zl,aH,zp,A,r9,qP];by_cases h:0<=i
 .by_cases E:i<m<;>simp[h,E]
 .simp[h]
def Hu (A:∀d:Int,cl B [.int d]=.ok (.bl true))(h:0<=i/\i<m):zL lev cl k (mT B) [.int i,.int m]=.ok .N:=by
 unfold zL;rw[OB (by rfl)];show zJ (lev k) (aG lev cl (.ite _ .never .skip) [some (.int i),some (.int m)] _)=_;rw[y6,CY A,OF h];rfl
noncomputable def iD(A:Nat)(m:Int):Fn:=⟨2,2,(.ret (.call A (.p (.V 0) (.p (.V 1) (.p (.lit (.int m)) .u)))))⟩
def AL (h:cl A [a,b,.int m]=.ok X)(hl:aF X=true\/lev A=.F)(hk:aF X=true\/lev k=.F):zL lev cl k (iD A m) [a,b]=.ok X:=by
 unfold zL;rw[OB (by rfl)];show zJ (lev k) (aG lev cl (.ret _) [some a,some b] _)=_;rw[zQ];simp only[zB,zt,zr,zn,zm,zl,aH,zp,h,a7];rcases hl with hl|hl
 .simp[zJ,hl]
 .rw[g7 hl];rcases hk with hk|hk
  .simp[zJ,hk]
  .simp[zJ,hk,xY]
def sR(a lo A:Ex)(de:aM):aj cl (.slB a lo A) de=(aj cl a de).bind λx=>(aj cl lo de).bind λy=>match y with
  |.int i=>(aj cl A de).bind λz=>match z with
   |.int j=>dW x (some i) (some j)
   |_=>.no
  |_=>.no:=rfl
def sQ(x y:Dat)(A:T7)(h:A.length<=1000):dW (.L (x::A++[y])) (some 1) (some (-1))=.ok (.L A):=by
 show bh (((x::A++[y]).drop (aR (x::A++[y]).length 0 (some 1))).take (aR (x::A++[y]).length (x::A++[y]).length (some (-1))-aR (x::A++[y]).length 0 (some 1)))=_;have B:aR (x::A++[y]).length 0 (some 1)=1:=by unfold aR;simp
 have E:aR (x::A++[y]).length (x::A++[y]).length (some (-1))=A.length+1:=by unfold aR;simp;lia
 rw[B,E];simp only[QZ,List.drop_succ_cons,VL,Nat.add_sub_cancel];rw[List.take_left,yZ (by unfold ao;lia)]
def jO(A:U5):aO (A.map ay)=true:=by
 induction A with
 |nil=>rfl
 |cons a l B=>rw[QJ,gL,B];simp[ay]
noncomputable def iV(A B E:Nat):Fn:=⟨3,3,(.seq (.expr (.call A (.p (.V 1) (.p (.bin .mul (.lit (.int 2)) (.blt .len (.p (.V 0) .u))) .u)))) (.ret (.slB (.call B (.p (.call E (.p (.V 0) (.p (.V 2) .u))) (.p (.blt .len (.p (.V 0) .u)) (.p (.V 1) (.p (.V 2) .u))))) (.lit (.int 1)) (.neg (.lit (.int 1))))))⟩
def FE {j:Nat}{B:U5}(L:B.length<=1000)(M:cl G [.int j,.int ((2*R.length:Nat):Int)]=.ok .N)(N:cl H [aq R,.int m]=.ok D)(O:cl I [D,.int R.length,.int j,.int m]=.ok (.L (x::B.map ay++[y])))(Q:lev k=.F):zL lev cl k (iV G I H) [aq R,.int j,.int m]=.ok (.L (B.map ay)):=by
 have A:xf .len [aq R]=.ok (.int R.length):=by simp[xf,xX,aq]
 have m2:zZ .mul (.int 2) (.int R.length)=.ok (.int ((2*R.length:Nat):Int)):=by rw[yG _ _ (by decide)];simp
 unfold zL;rw[OB (by rfl)];show zJ (lev k) (aG lev cl (.seq (.expr _) (.ret _)) [some (aq R),some (.int j),some (.int m)] _)=_;generalize xp (iV G I H) [aq R,.int j,.int m]=E;rw[yf];have U:aG lev cl (.expr (.call G (.p (.V 1) (.p (.bin .mul (.lit (.int 2)) (.blt .len (.p (.V 0) .u))) .u)))) [some (aq R),some (.int j),some (.int m)] E=.next [some (aq R),some (.int j),some (.int m)] E:=by
  show(aj cl (.call G _) _).bindS _=_;simp only[zB,zt,zr,zE,xr,zn,zm,zl,aH,zp,A,m2,M,a7]
 rw[U,zo,zQ,sR];simp only[zB,zt,zr,xr,xT,zn,zm,zl,aH,zp,A,N,O];rw[sQ x y _ (by simpa using L)];simp only[a7];have hl:∀(a b c:Ex) J,cc lev (.slB a b c) (.L (B.map ay)) J=.F:=λa b c J=>by
  unfold cc;split
  .rfl
  .show bI lev (.slB a b c) (.L (B.map ay))=.F;rw[D7,jO];rfl
 rw[hl];simp[zJ,Q,xY]
end
end Lib
namespace Lib
section
def IN{A:Type}(l:List A):xf .all [.L (l.map λ_=>Dat.bl true)]=.ok (.bl true):=by
 have h:gF (l.map λ_=>Dat.bl true)=some true:=by
  induction l with
  |nil=>rfl
  |cons a l B=>
   show(gF (l.map λ_=>Dat.bl true)).map (true && ·)=_;rw[B];rfl
 show(match (dS (.L (l.map λ_=>Dat.bl true))).bind gF with|some b=>Rd.ok (.bl b)|none=>.no)=_;rw[show(dS (.L (l.map λ_=>Dat.bl true))).bind gF=some true from h]
end
end Lib
namespace Lib
noncomputable def g9(p:Pl):U5->U5
 |[]=>[p]
 |q::r=>if ca p q then p::q::r else q::g9 p r
noncomputable def xc:U5->U5
 |[]=>[]
 |p::r=>g9 p (xc r)
theorem ji(p:Pl):∀l:U5,(g9 p l).Perm (p::l)
 |[]=>.refl _
 |q::r=>by
  unfold g9;split
  .exact .refl _
  .exact (Wu.cons q (ji p r)).trans (Wu.swap p q r)
theorem xt:∀l:U5,(xc l).Perm l
 |[]=>.refl _
 |p::r=>(ji p (xc r)).trans (Wu.cons p (xt r))
set_option tactic.hygienic true in
theorem ub:∀{l:U5},l.Pairwise ca->p∉l->(g9 p l).Pairwise ca
 |[],_,_=>by simp[g9]
 |q::r,h,A=>by
  obtain⟨B,E⟩:=Q3.mp h;unfold g9;split
  .next e=>
   refine Q3.mpr ⟨λy hy=>?_,h⟩;rcases Qn.mp hy with rfl|hy
   .exact e
   .exact sF e (B y hy)
  .next e=>
   refine Q3.mpr ⟨λy hy=>?_,ub E λz=>A (by simp[z])⟩;rcases Qn.mp ((ji p r).mem_iff.mp hy)with rfl|hy
   .rcases uh (p:=y) (q:=q) (λz=>A (by simp[z]))with z|z
    .exact OD z e
    .exact z
   .exact B y hy
theorem nW:∀{l:U5},l.Nodup->(xc l).Pairwise ca
 |[],_=>.nil
 |p::r,h=>by
  obtain⟨A,B⟩:=QB.mp h;exact ub (nW B) λz=>A ((xt r).mem_iff.mp z)
def FD (h:∀y∈A,ca x y):∃r,xc (x::A)=x::r:=by
 show ∃r,g9 x (xc A)=x::r;cases e:xc A with
 |nil=>exact⟨[],rfl⟩
 |cons q r=>
  have B:q∈A:=(xt A).mem_iff.mp (by rw[e];simp);unfold g9;rw[OB (h q B)];exact⟨_,rfl⟩
theorem ua:∀{a b:U5},a.Pairwise ca->b.Pairwise ca->a.Perm b->a=b
 |[],b,_,_,h=>(Wu.nil_eq h)
 |x::a,[],_,_,h=>OD h.length_eq (by simp)
 |x::a,y::b,A,B,h=>by
  obtain⟨E,G⟩:=Q3.mp A;obtain⟨H,I⟩:=Q3.mp B;have e:x=y:=by
   rcases Qn.mp (h.mem_iff.mp (QT (a:=x) (l:=a)))with z|z
   .exact z
   .rcases Qn.mp (h.mem_iff.mpr (QT (a:=y) (l:=b)))with w|w
    .exact w.symm
    .exact (sE (sF (E y w) (H x z))).elim
  subst e;rw[ua G I ((List.perm_cons x).mp h)]
noncomputable def xd(p:Pl):T6:=0::zN p
def sP(p q:Pl):dD (xd p) (xd q)=decide (ca p q):=by
 have h:dD (xd p) (xd q)=if(0:Int)=0 then(if p.1=q.1 then(if p.2=q.2 then dD [] []else decide (p.2<q.2))else decide (p.1<q.1))else decide ((0:Int)<0):=rfl;rw[h,OB rfl];unfold ca;by_cases e:p.1=q.1
 .by_cases f:p.2=q.2
  .simp[e,f,dD]
  .simp[e,f]
 .simp[e]
theorem sO(p:Pl):∀l:U5,jX (xd p,zN p) (l.map λp=>(xd p,zN p))=(g9 p l).map λp=>(xd p,zN p)
 |[]=>rfl
 |q::r=>by
  show(if dD (xd p) (xd q)then(xd p,zN p)::(q::r).map (λp=>(xd p,zN p))else(xd q,zN q)::jX (xd p,zN p) (r.map λp=>(xd p,zN p)))=_;rw[sP,sO p r];show _=VX _ (if ca p q then p::q::r else q::g9 p r);by_cases h:ca p q
  .simp[h]
  .simp[h]
theorem t9:∀l:U5,xM (l.map λp=>(xd p,zN p))=(xc l).map λp=>(xd p,zN p)
 |[]=>rfl
 |p::r=>by
  rw[QJ,vw,t9 r,sO];rfl
theorem nH:∀{l:U5},l.Pairwise ca->wt (l.map xd)=true
 |[],_=>rfl
 |[_],_=>rfl
 |x::y::r,h=>by
  obtain⟨A,B⟩:=Q3.mp h;show(dD (xd x) (xd y)&&(decide ((xd x).length=(xd y).length)&&decide ((xd x).head?=(xd y).head?))&&wt ((y::r).map xd))=true;rw[sP,OF (A y (by simp)),nH B];rfl
def CW (h:l.Nodup):wX T6 ((l.map zN).map (0::·)) (l.map zN)=some ((xc l).map zN):=by
 have A:((l.map zN).map (0::·)).zip (l.map zN)=l.map λp=>(xd p,zN p):=by
  clear h
  induction l with
  |nil=>rfl
  |cons k l B=>exact OE ((xd k,zN k)::·) B
 rw[Ao,A,t9,QQ,QQ,show(Prod.fst ∘ λp:Pl=>(xd p,zN p))=xd from rfl,nH (nW h),OB rfl];rfl
theorem rV:∀l:U5,jb (l.map ay)=some (l.map zN)
 |[]=>rfl
 |p::l=>by
  show(match xy [Dat.int p.1,Dat.int p.2],jb (l.map ay)with|some [a,b],some A=>some ([a,b]::A)|_,_=>none)=_;rw[rV l];rfl
def rT (h:l.Nodup)(hl:l.length<=ao)(y z:Dat):gH .sot (.L (l.map ay)) y z=.ok (.L ((xc l).map ay)):=by
 show(match jb (l.map ay)with
  |some A=>match wX T6 (A.map (0::·)) A with
   |some B=>bh (B.map λ(k:T6)=>.T (k.map Dat.int))
   |none=>.no
  |none=>.no)=_
 rw[rV];simp only[];rw[CW h];simp only[QQ];rw[yZ (by rw[Qi,(xt l).length_eq];exact hl)];rfl
section
variable{lev:U7}{cl:O5}{k:Nat}
def nG(k:Dk)(a b c:Ex)(de:aM):aj cl (.dop k a b c) de=(aj cl a de).bind λx=>match gG k x with
  |true=>(aj cl b de).bind λy=>(aj cl c de).bind λz=>gH k x y z
  |false=>.no:=rfl
noncomputable def cG(ps:U5):Dat:=.D (ps.map zN) (ps.map λ_=>Dat.bl true)
noncomputable def wn(ps:U5)(p:Pl):U5:=if p∈ps then ps else ps++[p]
set_option tactic.hygienic true in
def CJ(ps:U5)(p:Pl):wu (ps.map zN) (zN p)=(wn ps p).map zN:=by
 unfold wn;split
 .next h=>
  unfold wu;rw[OB (WV h)]
 .next h=>exact rZ h
set_option tactic.hygienic true in
theorem AK:∀{ps:U5},p∈ps->yt (ps.map zN) (ps.map λ_=>Dat.bl true) (zN p) (.bl true)=ps.map λ_=>Dat.bl true
 |[],h=>by simp at h
 |q::ps,h=>by
  show(if zN q=zN p then Dat.bl true::ps.map (λ_=>Dat.bl true)else Dat.bl true::yt (ps.map zN) (ps.map λ_=>Dat.bl true) (zN p) (.bl true))=_;split
  .rfl
  .next e=>
   rcases Qn.mp h with rfl|h
   .exact OD rfl e
   .rw[AK h];rfl
set_option tactic.hygienic true in
def Cm(ps:U5)(p:Pl):yt (ps.map zN) (ps.map λ_=>Dat.bl true) (zN p) (.bl true)=(wn ps p).map λ_=>Dat.bl true:=by
 unfold wn;split
 .next h=>exact AK h
 .next h=>exact mQ (f:=λ_=>Dat.bl true) h
def t8(ps:U5)(p:Pl):(wn ps p).length<=ps.length+1:=by
 unfold wn;split<;>simp
set_option tactic.hygienic true in
def CV (h:ps.Nodup)(p:Pl):(wn ps p).Nodup:=by
 unfold wn;split
 .exact h
 .next z=>exact QW.mpr ⟨h,by simp,λx A y B e=>z (by rw[Ql.mp B]at e;exact e▸A)⟩
set_option tactic.hygienic true in
def FC:q∈wn ps p↔q∈ps\/q=p:=by
 unfold wn;split
 .next h=>exact⟨.inl,λz=>z.elim id λe=>e▸h⟩
 .simp
theorem t7:∀(A ps:U5),(A.foldl wn ps).length<=ps.length+A.length
 |[],ps=>by simp
 |p::A,ps=>by
  have:=t7 A (wn ps p);have:=t8 ps p;simp only[Vd,Wx];lia
theorem sN:∀(A:U5) {ps:U5},ps.Nodup->(A.foldl wn ps).Nodup
 |[],_,h=>h
 |p::A,_,h=>sN A (CV h p)
theorem AJ:∀(A:U5) {ps:U5}{q:Pl},q∈A.foldl wn ps↔q∈ps\/q∈A
 |[],ps,q=>by simp
 |p::A,ps,q=>by
  rw[Vd,AJ A,FC,Qn,or_assoc]
theorem t6:∀(A:U5) {ps:U5},A.Nodup->(∀p∈A,p∉ps)->A.foldl wn ps=ps++A
 |[],ps,_,_=>by simp
 |p::A,ps,h,B=>by
  obtain⟨G,H⟩:=QB.mp h;have e:wn ps p=ps++[p]:=by unfold wn;rw[OC (B p (by simp))]
  rw[Vd,e,t6 A H λq E z=>?_,Qm]
  .rfl
  .rcases Qs.mp z with z|z
   .exact B q (by simp[E]) z
   .exact G (Ql.mp z▸E)
def FB(p:Pl):aY (ay p)=.F:=by simp[aY,ay]
noncomputable def fX(m:Nat):Sm:=(.dput 3 (.V (m+4)) (.lit (.bl true)))
theorem qc(m:Nat)(d0 d1 d2:R8)(l0 l1 l2:Lv):∀(A ps:U5) (r:aM) (s:U6),m<r.length->ps.length+A.length<=ao ->
  ∃B E,yN (λx de lv=>aG lev cl (fX m) (de.set (m+4) (some x)) (lv.set (m+4) (aY x))) (A.map ay) (d0::d1::d2::some (cG ps)::r) (l0::l1::l2::.F::s)=.next (d0::d1::d2::some (cG (A.foldl wn ps))::B) (l0::l1::l2::.F::E)/\(B=r\/∃x,B=r.set m (some x))/\(E=s\/E=s.set m .F)
 |[],ps,r,s,_,_=>⟨r,s,rfl,.inl rfl,.inl rfl⟩
 |p::A,ps,r,s,G,hl=>by
  simp only[Wx]at hl;have L:=t8 ps p;obtain⟨B,E,e,H,I⟩:=qc m d0 d1 d2 l0 l1 l2 A (wn ps p) (r.set m (some (ay p))) (s.set m .F) (by simpa using G) (by lia);have J:aG lev cl (fX m) ((d0::d1::d2::some (cG ps)::r).set (m+4) (some (ay p))) ((l0::l1::l2::.F::s).set (m+4) (aY (ay p)))=.next (d0::d1::d2::some (cG (wn ps p))::r.set m (some (ay p))) (l0::l1::l2::.F::s.set m .F):=by
   rw[FB];show(aj cl (.lit (.bl true)) _).okS (λd=>(aj cl (.V (m+4)) (d0::d1::d2::some (cG ps)::r.set m (some (ay p)))).okS _)=_;rw[Jw,dT,y9 (d:=ay p) (by simp[G]),dT];simp only[Qc,WZ,WY];rw[show vQ (ay p)=some (zN p)from rfl];unfold cG;simp only[];rw[OB ⟨trivial,xS lev _ _ (by simp),by rw[Qi];lia⟩,CJ,Cm];rfl
  refine⟨B,E,?_,?_,?_⟩
  .rw[QJ];unfold yN;rw[J];exact e
  .right
   rcases H with rfl|⟨x,rfl⟩
   .exact ⟨_,rfl⟩
   .exact ⟨x,by rw[List.set_set]⟩
  .right
   rcases I with rfl|rfl
   .rfl
   .rw[List.set_set]
end
end Lib
namespace Lib
section
variable{lev:U7}{cl:O5}{k:Nat}
noncomputable def lO(A:Nat):Ex:=(.slB (.call A (.p (.V 0) (.p (.V 1) (.p (.V 4) (.p (.V 2) .u))))) (.lit (.int 1)) (.neg (.lit (.int 1))))
noncomputable def mi(A:Nat):Fn:=⟨3,6,(.seq (.a 3 .dict0) (.seq (.forv 4 (.rng (.lit (.int 0)) (.bin .mul (.lit (.int 2)) (.V 1)) (.lit (.int 1))) (.forv 5 (lO A) (fX 1))) (.ret (.V 3))))⟩
def F4 {n:Nat}(hn:n<=12){A B:Nat->Dat}(Q:∀j,j<2*n->(P j).length<=1000)(f:∀j,j<2*n->cl U [D,.int n,.int j,.int m]=.ok (.L (A j::(P j).map ay++[B j])))(t:lev k=.F):
  ∃ps,ps.Nodup/\(∀p,p∈ps↔p∈jA n P)/\ps.length<=24000/\zL lev cl k (mi U) [D,.int n,.int m]=.ok (cG ps):=by
 have m2:zZ .mul (.int 2) (.int n)=.ok (.int ((2*n:Nat):Int)):=by rw[yG _ _ (by decide)];simp
 have z:kG (.int 0) (.int ((2*n:Nat):Int)) (.int 1)=.ok (.T (yA 0 1 (2*n))):=jK (by lia);have N:=yL (body:=λx Y q=>aG lev cl (.forv 5 (lO U) (fX 1)) (Y.set 4 (some x)) (q.set 4 (aY x)))
  (λi Y q=>∃ps H E I J L O G,Y=[some D,some (.int n),some (.int m),some (cG ps),H,E]/\q=[I,J,L,.F,O,G]/\ps.Nodup/\(∀p,p∈ps↔p∈(QA i).flatMap P)/\ps.length<=i*1000)
  (yA 0 1 (2*n)) (de:=[some D,some (.int n),some (.int m),some (cG []),none,none]) (lv:=[aY D,.F,.F,.F,.F,.F]) ⟨[],none,none,_,_,_,_,_,rfl,rfl,.nil,by simp,by simp⟩ (by
   intro i x Y q o s;refine aP λl h=>?_;obtain⟨ps,H,E,I,J,L,O,G,rfl,rfl,nd,u,hl⟩:=s;refine h ?_;have M:i<2*n:=by
    have:=(Qa.mp o).1;simpa using this
   rw[wD _ _ _ _ M]at o;cases o;rw[show(0:Int)+1*(i:Int)=(i:Int) by lia];simp only[Qc,Qd];rw[wg];unfold lO;rw[sR];simp only[zB,zt,zr,xT,zn,zm,zl,aH,zp,f i M];rw[sQ _ _ _ (by simpa using Q i M)];simp only[a7];rw[wO (by rw[Qi];have:=Q i M;unfold ao;lia)];simp only[Aq,QG,if_false];refine aP λl w=>?_;obtain⟨y,s',e,hr,hs⟩:=qc (lev:=lev) (cl:=cl) 1 (some D) (some (.int n)) (some (.int m)) .no .no .no (P i) ps [some (.int (i:Int)),E] [.no,G] (by simp) (by
    have:=Q i M;have:i*1000<=24*1000:=WG (by lia) (Qh _);unfold ao;lia)
   refine w ?_;have g:xC (.slB (.call U (.p (.V 0) (.p (.V 1) (.p (.V 4) (.p (.V 2) .u))))) (.lit (.int 1)) (.neg (.lit (.int 1)))) [some D,some (.int n),some (.int m),some (cG ps),some (.int (i:Int)),E] [I,J,L,.F,aY (.int (i:Int)),G]=[.no,.no,.no,.F,.no,G]:=rfl;rw[g];refine⟨_,_,e,(P i).foldl wn ps,?_⟩;have h1:∃H E,y=[H,E]:=by
    rcases hr with rfl|⟨x,rfl⟩
    .exact ⟨_,_,rfl⟩
    .exact ⟨_,_,rfl⟩
   have h2:∃H E,s'=[H,E]:=by
    rcases hs with rfl|rfl
    .exact ⟨_,_,rfl⟩
    .exact ⟨_,_,rfl⟩
   refine aP λl zi=>?_;obtain⟨a,b,rfl⟩:=h1;obtain⟨c,d,rfl⟩:=h2;refine zi ?_;refine⟨a,b,_,_,_,c,d,rfl,rfl,sN _ nd,λp=>?_,?_⟩
   .rw[AJ,u,WP,VP,Qs];simp
   .have:=t7 (P i) ps;have:=Q i M;have:(i+1)*1000=i*1000+1000:=by lia
    lia)
 refine aP λl zh=>?_;obtain⟨de',lv',e,ps,H,E,I,J,L,O,G,rfl,rfl,nd,u,hl⟩:=N;refine zh ?_;rw[Ar]at u hl;refine⟨ps,nd,u,by lia,?_⟩;unfold zL;rw[OB (by rfl)];show zJ (lev k) (aG lev cl (.seq (.a 3 .dict0) (.seq (.forv 4 _ (.forv 5 (lO U) (fX 1))) (.ret _))) [some D,some (.int n),some (.int m),none,none,none] [aY D,.F,.F,.F,.F,.F])=_;rw[vR (d:=.D [] []) rfl rfl rfl];simp only[Qc,Qd];rw[yf,wg];simp only[vh,zE,zn,zm,zl,aH,m2,z,a7,vk,kO,wC,if_true];rw[show Dat.D [] []=cG []from rfl,e];simp only[zo,zQ,zm,zl,a7];show zJ (lev k) (.ret (cG ps) (cc lev (.V 3) (cG ps) [I,J,L,.F,O,G]))=_;rw[show cc lev (.V 3) (cG ps) [I,J,L,.F,O,G]=.F from by unfold cc;split<;>rfl,t];simp[zJ,xY]
end
end Lib
namespace Lib
noncomputable def dm(n k:Nat):Pl:=(((k/n:Nat):Int),((k%n:Nat):Int))
theorem jj:∀(r c:Nat),c<=n->bA n r c=(QA (r*n+c)).map (dm n)
 |0,0,_=>by simp[bA,dM]
 |r+1,0,_=>by
  rw[<-oa,jj r n (Qh _)];congr 2;rw[Nat.succ_mul];lia
 |r,c+1,h=>by
  rw[xW,jj r c (by lia),<-VT,WP,Wb];congr 1;show[_]=[dm n (r*n+c)];unfold dm;rw[show(r*n+c)/n=r from by rw[W3,Nat.mul_add_div (by lia),Nat.div_eq_of_lt (by lia),VA],show(r*n+c)%n=c from by rw[W3,Nat.mul_add_mod,V6 (by lia)]]
termination_by r c=>(r,c)
theorem nF{A:Type}[DecidableEq A]:∀{a b:List A},a.Nodup->(∀x∈a,x∈b)->a.length<=b.length
 |[],_,_,_=>Wi _
 |x::a,b,G,h=>by
  obtain⟨H,I⟩:=QB.mp G;have B:=h x (by simp);have:=nF (a:=a) (b:=b.erase x) I λy E=>(List.mem_erase_of_ne (λ(e:y=x)=>H (e▸E))).mpr (h y (by simp[E]));rw[List.length_erase_of_mem B]at this;have:0<b.length:=List.length_pos_of_mem B;simp only[Wx];lia
def RI.len (A:R.length<=12)(I:RI R b L P done ps E):ps.length<=144:=by
 have:=nF I.nd λp B=>c9.mpr (I.inn p B);rw[wQ]at this;have:R.length*R.length<=12*12:=WG A A;lia
section
variable{lev:U7}{cl:O5}{k:Nat}
def Ck(x:Dat)(A:T7)(h:A.length<=1000):dW (.L (x::A)) (some 1) none=.ok (.L A):=by
 show bh (((x::A).drop (aR (x::A).length 0 (some 1))).take (aR (x::A).length (x::A).length none-aR (x::A).length 0 (some 1)))=_;have B:aR (x::A).length 0 (some 1)=1:=by unfold aR;simp
 have E:aR (x::A).length (x::A).length none=A.length+1:=by unfold aR;simp
 rw[B,E];simp only[List.drop_succ_cons,VL,Nat.add_sub_cancel];rw[W5,yZ (by unfold ao;lia)]
def F3(p:Pl)(ps:U5):yH .notin (ay p) (cG ps)=.ok (.bl (! decide (p∈ps))):=by
 show ve (((xy [.int p.1,.int p.2]).map λk=>decide (k∈ps.map zN)).map (!·))=_;rw[show xy [.int p.1,.int p.2]=some (zN p)from rfl];show Rd.ok (.bl (! decide (zN p∈ps.map zN)))=_;congr 3;rw[decide_eq_decide];constructor
 .intro h;obtain⟨q,A,e⟩:=QP.mp h;exact kR e▸A
 .exact λh=>WV h
noncomputable def iI(kt:Nat):Ex:=(.slL (.call kt (.p (.V 2) (.p (.i (.dget (.V 2) (.V 5)) (.lit (.int 0))) (.p (.V 5) .u)))) (.lit (.int 1)))
noncomputable def oD(kt:Nat):Sm:=(.seq (.a 6 (iI kt)) (.seq (.forv 7 (.V 6) (fX 3)) (.expr (.meth .append (.V 4) (.p (.dop .sot (.V 6) .u .u) .u)))))
noncomputable def fW(kt:Nat):Sm:=(.ite (.cmp .notin (.V 5) (.V 3)) (oD kt) .skip)
noncomputable def mh(A kp kt:Nat):Fn:=⟨2,8,(.seq (.a 2 (.call A (.p (.V 0) (.p (.V 1) .u)))) (.seq (.a 3 (.call kp (.p (.V 2) (.p (.blt .len (.p (.V 0) .u)) (.p (.V 1) .u))))) (.seq (.a 4 (.L .u)) (.seq (.forD 5 2 (fW kt)) (.ret (.dop .sor (.V 4) .u .u))))))⟩
noncomputable def bB(l:U5):Dat:=.L (l.map ay)
abbrev cj(A:O8):T7:=A.map λr=>bB (xc r)
def F2 {x:Dat}(hE:∀o6 o7:R8,aj cl (iI kt) [o0,o1,some D,some (cG ps),some (.L told),some (ay p),o6,o7]=.ok (bB ring))(j:ring.length<=1000)(u:ps.length<=144)(nd:ring.Nodup)(E:∀q∈ring,q∉ps)(z:told.length<=1000):
  ∃I B m6 A,aG lev cl (oD kt) [o0,o1,some D,some (cG ps),some (.L told),some (ay p),o6,o7] [l0,l1,l2,.F,.F,l5,l6,l7]=.next [o0,o1,some D,some (cG (ps++ring)),some (.L (told++[bB (xc ring)])),some (ay p),I,B] [l0,l1,l2,.F,.F,l5,m6,A]:=by
 refine aP λo J=>?_;obtain⟨L,M,e,N,O⟩:=qc (lev:=lev) (cl:=cl) 3 o0 o1 (some D) l0 l1 l2 ring ps [some (.L told),some (ay p),some (bB ring),o7] [.F,l5,.no,l7] (by simp) (by unfold ao;lia);have Q:∃B,L=[some (.L told),some (ay p),some (bB ring),B]:=by
  rcases N with rfl|⟨x,rfl⟩
  .exact ⟨_,rfl⟩
  .exact ⟨_,rfl⟩
 have U:∃A,M=[.F,l5,.no,A]:=by
  rcases O with rfl|rfl
  .exact ⟨_,rfl⟩
  .exact ⟨_,rfl⟩
 obtain⟨B,rfl⟩:=Q;obtain⟨A,rfl⟩:=U;refine J ?_;rw[t6 ring nd E]at e;have G:bI lev (iI kt) (bB ring)=.F:=by
  unfold iI bB;rw[D8,jO];rfl
 refine⟨some (bB ring),B,.no,A,?_⟩;unfold oD;rw[vR (hE _ _) G rfl];simp only[Qc,Qd];rw[ye lev cl _ _ rfl,wg];simp only[zm,zl,a7];rw[show di (bB ring)=some (ring.map ay)from wO (by rw[Qi];unfold ao;lia)];simp only[show aF (bB ring)=false from by simp[bB],QG,if_false];rw[show ∀d:aM,xC (.V 6) d [l0,l1,l2,.F,.F,l5,.F,l7]=[l0,l1,l2,.F,.F,l5,.no,l7]from λ_=>rfl,e,zo,wP,nG];simp only[zr,zm,zl,aH,show ∀d,gG .sot d=true from λ_=>rfl];rw[show gH .sot (bB ring) (.T []) (.T [])=.ok (bB (xc ring))from rT nd (by unfold ao;lia) _ _,dT];rw[show ∀a b c d e f g:R8,wM [a,b,c,d,some (.L told),e,f,g] 4=some told from λ_ _ _ _ _ _ _=>rfl];simp only[];rw[OB (by unfold ao;lia)];have Y:∀d:aM,xG lev (.dop .sot (.V 6) .u .u) (bB (xc ring)) 4 d [l0,l1,l2,.F,.F,l5,.no,A]=some (d,[l0,l1,l2,.F,.F,l5,.no,A]):=λd=>by
  have H:bI lev (.dop .sot (.V 6) .u .u) (bB (xc ring))=.F:=by
   unfold bB;rw[D6,jO];rfl
  unfold xG;rw[H,OC (by simp[yy]),OB rfl]
 rw[Y];simp only[Qc,Qd]
end
end Lib
namespace Lib
section
variable{lev:U7}{cl:O5}{k:Nat}
theorem rS:∀{A:O8},(∀r∈A,∃x B,r=x::B/\∀y∈B,ca x y)->eE (cj A)=some (A.map λr=>zN (r.headD (0,0)))
 |[],_=>rfl
 |r::A,h=>by
  obtain⟨x,B,rfl,hl⟩:=h r (by simp);obtain⟨q,e⟩:=FD hl;show(match jb (((xc (x::B)).map ay).take 1),eE (cj A)with|some [k],some E=>some (k::E)|_,_=>none)=_;rw[e,rS λr G=>h r (by simp[G])];rfl
def Cj (h:∀r∈A,∃x B,r=x::B/\∀y∈B,ca x y)(E:(A.map λr=>r.headD (0,0)).Pairwise ca)(hl:A.length<=ao)(y z:Dat):gH .sor (.L (cj A)) y z=.ok (.L (cj A)):=by
 show(match eE (cj A)with|some G=>if wt (G.map (0::·))then bh (cj A)else .no|none=>.no)=_;rw[rS h];simp only[QQ];have:=nH E;rw[QQ]at this;rw[show((λx:T6=>0::x) ∘ λr:U5=>zN (r.headD (0,0)))=(xd ∘ λr:U5=>r.headD (0,0))from rfl,this,OB rfl,yZ (by rw[Qi];exact hl)]
def F1 (H:aW R)(hn:R.length<=12)(W:bx R b L P)(ha:cl ka [aq R,.int (cn b)]=.ok (dr (xZ R.length (bO R b)) (bA R.length R.length 0)))(hlv:lev ka=.F)(n0:B.Nodup)(m0:∀p,p∈B↔p∈jA R.length P)(hp:cl kp [dr (xZ R.length (bO R b)) (bA R.length R.length 0),.int R.length,.int (cn b)]=.ok (cG B))(hlp:lev kp=.F)(ht:∀s E l,b9 R.length (bO R b) s E l->E.length<=1000->inn R.length (aD s.2 s.1)=true->cl kt [dr (xZ R.length (bO R b)) (bA R.length R.length 0),ay l.1,ay s.1]=.ok (.L (ay l.1::(s.1::E.map (·.1)).map ay)))(hk:lev k=.no):
  ∃ps A,RI R b L P (bA R.length R.length 0) ps A/\A.length<=144/\zL lev cl k (mh ka kp kt) [aq R,.int (cn b)]=.ok (.L (cj A)):=by
 have F:=wm H b;have t:xf .len [aq R]=.ok (.int R.length):=by simp[xf,xX,aq]
 have hD:ED R.length (bO R b) (dr (xZ R.length (bO R b)) (bA R.length R.length 0)):=nJ λ_ _=>rfl;have I0:=RI.zero H W n0 m0;have hnn:R.length*R.length<=12*12:=WG hn hn;generalize hE:dr (xZ R.length (bO R b)) (bA R.length R.length 0)=D at *
 have J:bA R.length R.length 0=(QA (R.length*R.length)).map (dm R.length):=jj _ 0 (Wi _);have m:=yL (body:=λx de lv=>aG lev cl (fW kt) (de.set 5 (some x)) (lv.set 5 (aY x)))
  (λi de lv=>∃ps A o5 M N u z o l5 g f,de=[some (aq R),some (.int (cn b)),some D,some (cG ps),some (.L (cj A)),o5,M,N]/\lv=[u,z,o,.F,.F,l5,g,f]/\A.length<=i/\RI R b L P ((QA i).map (dm R.length)) ps A)
  ((bA R.length R.length 0).map ay) (de:=[some (aq R),some (.int (cn b)),some D,some (cG B),some (.L []),none,none,none]) (lv:=[aY (aq R),.F,.no,.F,.F,.F,.F,.F]) ⟨B,[],none,none,none,_,_,_,_,_,_,rfl,rfl,Qh _,I0⟩ (by
   intro i x de lv hx zz;refine aP λn zk=>?_;obtain⟨ps,A,o5,M,N,u,z,o,l5,g,f,rfl,rfl,w,I⟩:=zz;refine zk ?_;have hi:i<R.length*R.length:=by
    have:=(Qa.mp hx).1;rw[Qi,wQ]at this;lia
   have hpos:0<R.length:=Nat.pos_of_ne_zero λe=>by rw[e]at hi;lia
   rw[J,QQ,Qq,Vi hi]at hx;cases hx;have hr:i/R.length<R.length:=VM hi;have hc:i%R.length<R.length:=Nat.mod_lt _ hpos;have hrc:i/R.length*R.length+i%R.length=i:=by rw[W3];exact Nat.div_add_mod _ _
   show ∃de' lv',aG lev cl (fW kt) [some (aq R),some (.int (cn b)),some D,some (cG ps),some (.L (cj A)),some (ay (dm R.length i)),M,N] [u,z,o,.F,.F,aY (ay (dm R.length i)),g,f]=.next de' lv'/\_;have hev:aj cl (.cmp .notin (.V 5) (.V 3)) [some (aq R),some (.int (cn b)),some D,some (cG ps),some (.L (cj A)),some (ay (dm R.length i)),M,N]=.ok (.bl (! decide (dm R.length i∈ps))):=F3 _ _;unfold fW;rw[y6,hev,a7];rw[WP,Wb];by_cases hm:dm R.length i∈ps
   .rw[OF hm];exact⟨_,_,rfl,ps,A,_,_,_,_,_,_,_,_,_,rfl,rfl,by lia,I.skip hm⟩
   .rw[OA hm];rw[show(QA i).map (dm R.length)=bA R.length (i/R.length) (i%R.length)from by rw[jj _ _ (by lia),hrc]]at I;refine aP λn zj=>?_;obtain⟨E,l,Rg,len,Q,G,I'⟩:=I.ring H W hr hc hm;refine zj ?_;rw[xW]at I';have hd:((((i/R.length:Nat)):Int),((i%R.length:Nat):Int))=dm R.length i:=rfl;rw[hd]at Rg Q G I';rw[show bA R.length (i/R.length) (i%R.length)=(QA i).map (dm R.length)from by rw[jj _ _ (by lia),hrc]]at I';generalize hs:s0 (bO R b) (dm R.length i)=s at Rg Q G I';have U:s.1=dm R.length i:=by rw[<-hs];rfl
    have O:inn R.length (dm R.length i)=true:=z5 hr hc;have Y:=ht s E l Rg (by lia) (by rw[U];exact G);have hby:yh (xZ R.length (bO R b) (dm R.length i)) (.int 0)=.ok (ay l.1):=by
     have h2:=F.two _ O;have e2:s.2=(br.filter (bO R b (dm R.length i))).headD .u:=by rw[<-hs];rfl
     unfold xZ;cases e:br.filter (bO R b (dm R.length i))with
     |nil=>rw[e]at h2;cases h2
     |cons d ds=>
      rw[e]at e2;have e3:s.2=d:=e2;refine(og (i:=0) (d:=zT R.length (dm R.length i) d) rfl).trans ?_;unfold zT;rw[<-e3,OB G,Rg.last F,U]
    refine aP λn zi=>?_;obtain⟨q6,q7,m6,m7,e⟩:=F2 (lev:=lev) (cl:=cl) (kt:=kt) (D:=D) (o0:=some (aq R)) (o1:=some (.int (cn b))) (o6:=M) (o7:=N) (p:=dm R.length i) (ps:=ps) (ring:=(s::E).map (·.1)) (x:=ay l.1) (told:=cj A) (λM N=>by
     unfold iI;simp only[D5,zB,zt,zr,yz,uF,zn,zm,zl,aH,zp,hD.get _ O,hby];rw[<-U,Y];simp only[aH];rw[Ck _ _ (by simp;lia)]
     rfl) (by simp;lia) (I.len hn) Rg.nd Q (by rw[Qi];lia) (l0:=u) (l1:=z) (l2:=o) (l5:=aY (ay (dm R.length i))) (l6:=g) (l7:=f)
    refine zi ?_;rw[show cj A++[bB (xc ((s::E).map (·.1)))]=cj (A++[(s::E).map (·.1)])from by unfold cj;rw[Wb];rfl]at e;exact⟨_,_,e,ps++(s::E).map (·.1),A++[(s::E).map (·.1)],_,_,_,_,_,_,_,_,_,rfl,rfl,by simp;lia,I'⟩)
 refine aP λn zh=>?_;obtain⟨de',lv',e,ps,A,o5,M,N,u,z,o,l5,g,f,rfl,rfl,w,I⟩:=m;refine zh ?_;rw[Qi,wQ]at w I;rw[VA,<-J]at I;refine⟨ps,A,I,by lia,?_⟩;have j:∀l:U5,(l.map zN).map fg=l.map ay:=λl=>by rw[QQ];rfl
 have q:aG lev cl (.forD 5 2 (fW kt)) [some (aq R),some (.int (cn b)),some D,some (cG B),some (.L []),none,none,none] [aY (aq R),.F,.F,.F,.F,.F,.F,.F]=.next [some (aq R),some (.int (cn b)),some D,some (cG ps),some (.L (cj A)),o5,M,N] [u,z,o,.F,.F,l5,g,f]:=by
  rw[<-e,<-hE];show(if((bA R.length R.length 0).map zN).length<=ao then yN _ (((bA R.length R.length 0).map zN).map fg) _ _ else b8.no)=_;rw[OB (by rw[Qi,wQ];unfold ao;lia),j];rfl
 unfold zL;rw[OB (by rfl)];show zJ (lev k) (aG lev cl (.seq (.a 2 _) (.seq (.a 3 _) (.seq (.a 4 _) (.seq (.forD 5 2 (fW kt)) (.ret _))))) [some (aq R),some (.int (cn b)),none,none,none,none,none,none] [aY (aq R),.F,.F,.F,.F,.F,.F,.F])=_;rw[vR (d:=D) (by simp only[zB,zt,zr,zm,zl,aH,zp,ha]) (by rw[kK,hlv];split<;>rfl) rfl];simp only[Qc,Qd];rw[vR (d:=cG B) (by simp only[zB,zt,zr,xr,zm,zl,aH,zp,t,hp]) (by rw[kK,hlp];split<;>rfl) rfl];simp only[Qc,Qd];rw[vR (d:=.L []) (by simp only[xE,zr,aH,zp];rfl) (by simp) rfl];simp only[Qc,Qd];rw[yf,q];simp only[zo,zQ];rw[nG];simp only[zr,zm,zl,aH,show ∀d,gG .sor d=true from λ_=>rfl];rw[Cj (λr hr=>by
  refine aP λn zg=>?_;obtain⟨x,tl,e,_,_,h⟩:=I.hd r hr;refine zg ?_;exact⟨x,tl,e,h⟩) (by
  rw[Wr];refine I.inc.imp λ{a c} h=>?_;refine aP λn zf=>?_;obtain⟨x,y,h1,h2,h3⟩:=h;refine zf ?_;cases a with
  |nil=>cases h1
  |cons a0 a=>
   cases c with
   |nil=>cases h2
   |cons c0 c=>cases h1;cases h2;exact h3) (by unfold ao;lia)]
 simp only[a7];rw[hk];simp[zJ,xY]
end
end Lib
namespace Lib
section
variable{lev:U7}{cl:O5}{k:Nat}
noncomputable def lS:Sm:=(.expr (.meth .extend (.V 2) (.p (.V 3) .u)))
noncomputable def oR:Ex:=(.comp (.T (.p (.bin .fdiv (.V 4) (.V 1)) (.p (.bin .mod (.V 4) (.V 1)) .u))) (.rng (.lit (.int 0)) (.bin .mul (.V 1) (.V 1)) (.lit (.int 1))) (.lit (.bl true)))
noncomputable def mS:Fn:=⟨2,4,(.seq (.a 2 (.L .u)) (.seq (.forv 3 (.V 0) lS) (.ret (.cmp .eq (.dop .sot (.V 2) .u .u) oR))))⟩
def F0(j:Nat)(e:Ex)(de:aM)(lv:U6):aG lev cl (.expr (.meth .extend (.V j) (.p e .u))) de lv=(aj cl e de).okS λd=>match wM de j,d with
   |some B,.L A=>if yy lv j&&aO A&&decide (B.length+A.length<=ao)then .next (de.set j (some (.L (B++A)))) lv else .no
   |_,_=>.no:=rfl
def Ci(A:U5):yH .eq (bB A) (bB A)=.ok (.bl true):=by
 have h:aZ 11 (A.map ay)=true:=by
  rw[vH,WF];intro d B;obtain⟨p,_,rfl⟩:=QP.mp B;rfl
 show ve ((if aZ 11 (A.map ay)&&aZ 11 (A.map ay)then some (cH (A.map ay) (A.map ay))else none))=_;rw[h,cb 11 _ h];rfl
def CU{n:Nat}(L:1<=n)(B:n<=12)(o0 o2 o3:R8):aj cl oR [o0,some (.int n),o2,o3]=.ok (bB (bA n n 0)):=by
 have E:n*n<=12*12:=WG B B;have G:zZ .mul (.int n) (.int n)=.ok (.int ((n*n:Nat):Int)):=by rw[yG _ _ (kN (by lia) (by lia))];simp
 have H:∀j:Nat,zZ .fdiv (.int j) (.int n)=.ok (.int ((j/n:Nat):Int)):=λj=>by
  rw[vI _ _ (by lia) (by lia),Int.natCast_ediv]
 have I:∀j:Nat,zZ .mod (.int j) (.int n)=.ok (.int ((j%n:Nat):Int)):=λj=>by
  rw[xU _ _ (by lia),Int.natCast_emod]
 rw[jj n 0 (Wi _),VA];generalize n*n=N at *
 have A:kG (.int 0) (.int (N:Int)) (.int 1)=.ok (.T (yA 0 1 N)):=by
  rw[lH (by unfold ao;lia)];simp[eI]
 have J:aj cl (.rng (.lit (.int 0)) (.bin .mul (.V 1) (.V 1)) (.lit (.int 1))) [o0,some (.int n),o2,o3]=.ok (.T (yA 0 1 N)):=by
  rw[vh,zE,zn,zn,zl,zm,aH,aH,aH,G,aH,aH,A]
 unfold oR;rw[wN,J,aH,vk];simp only[];rw[gN 0 1 N (λj=>ay (dm n j)) (λj _=>rfl) (λj hj=>?_) (by unfold ao;lia)]
 .unfold bB;rw[QQ];rfl
 .rw[show(0+1*(j:Int))=(j:Int) by lia];simp only[QZ,QS,mR,zE,zm,zl,aH,H,I];rfl
def Ht (q:1<=n)(M:n<=12){A:O8}(hl:A.length<=1000)(N:A.flatten.Perm (bA n n 0)):zL lev cl k mS [.L (A.map bB),.int n]=.ok (.bl true):=by
 have u:n*n<=12*12:=WG M M;have O:A.flatten.length<=144:=by rw[N.length_eq,wQ];lia
 have B:A.flatten.Nodup:=N.nodup_iff.mpr (sD (kS n n 0 (Wi _)));have E:=yL (body:=λx G H=>aG lev cl lS (G.set 3 (some x)) (H.set 3 (aY x)))
  (λi G H=>∃I J L Q,G=[some (.L (A.map bB)),some (.int n),some (bB (A.take i).flatten),I]/\H=[J,L,.F,Q])
  (A.map bB) (de:=[some (.L (A.map bB)),some (.int n),some (.L []),none]) (lv:=[.no,.F,.F,.F]) ⟨none,_,_,_,rfl,rfl⟩ (by
   intro i x G H U z;obtain⟨I,J,L,Q,rfl,rfl⟩:=z;rw[Qq]at U;obtain⟨r,o,rfl⟩:=QF.mp U;refine⟨_,_,?_,some (bB r),J,L,aY (bB r),rfl,rfl⟩;have Y:(A.take (i+1)).flatten=(A.take i).flatten++r:=by
    rw[Wp,o,WD];simp
   have j:(A.take i).flatten.length+r.length<=144:=by
    rw[<-Qw,<-Y];refine Qx ?_ O;have:=OE V7 (OE List.flatten (QE (i+1) A));rw[WD,Qw]at this;lia
   simp only[Qc,Qd];unfold lS;rw[F0];simp only[zm,zl,dT];rw[show ∀a b d:R8,wM [a,b,some (bB (A.take i).flatten),d] 2=some ((A.take i).flatten.map ay)from λ_ _ _=>rfl];unfold bB;simp only[];rw[OB (by
    rw[jO,OF (by rw[Qi,Qi];unfold ao;lia)];simp[yy]),<-Wb,<-Y]
   simp only[Qc,Qd])
 obtain⟨p,c,e,I,J,L,Q,rfl,rfl⟩:=E;rw[Qi,W5]at e;have g:=CU (cl:=cl) q M (some (.L (A.map bB))) (some (bB A.flatten)) I;unfold zL;rw[OB (by rfl)];show zJ (lev k) (aG lev cl (.seq (.a 2 _) (.seq (.forv 3 _ lS) (.ret _))) [some (.L (A.map bB)),some (.int n),none,none] [aY (.L (A.map bB)),.F,.F,.F])=_;rw[vR (d:=.L []) (by simp only[xE,zr,aH,zp];rfl) (by simp) rfl];simp only[Qc,Qd];rw[yf,wg];simp only[zm,a7];rw[wO (by rw[Qi];unfold ao;lia)];simp only[Aq,QG,if_false];rw[show ∀d l,xC (.V 0) d [l,.F,.F,.F]=[Lv.no,.F,.F,.F]from λ_ _=>rfl,e];simp only[zo,zQ,zX];rw[nG];simp only[zr,zm,zl,aH,show ∀d,gG .sot d=true from λ_=>rfl];rw[show gH .sot (bB A.flatten) (.T []) (.T [])=.ok (bB (xc A.flatten))from rT B (by unfold ao;lia) _ _,g];simp only[aH];rw[ua (nW B) (kS n n 0 (Wi _)) ((xt _).trans N),Ci];simp only[a7];simp[zJ]
noncomputable def mf:Fn:=⟨1,1,(.ret (.and (.cmp .gt (.blt .len (.p (.V 0) .u)) (.lit (.int 3))) (.cmp .eq (.blt .sum (.p (.compP .prs (.bin .sub (.lit (.int 1)) (.bin .mul (.lit (.int 2)) (.bin .mod (.bin .add (.V 1) (.V 2)) (.lit (.int 2))))) (.V 0) (.lit (.int 0)) (.lit (.bl true))) .u)) (.lit (.int 0)))))⟩
theorem rR:∀l:U5,fh (l.map ay)=some (l.map λp=>(Dat.int p.1,Dat.int p.2))
 |[]=>rfl
 |p::l=>by
  show(fh (l.map ay)).map ((Dat.int p.1,Dat.int p.2)::·)=_;rw[rR l];rfl
theorem sM:∀l:U5,qj (l.map λp=>Dat.int (cC p))=some (l.map cC).sum
 |[]=>rfl
 |p::l=>by
  show(qj (l.map λp=>Dat.int (cC p))).map (cC p+·)=_;rw[sM l];rfl
def FZ (G:4<=l.length)(hl:l.length<=1000)(B:(l.map cC).sum=0):zL lev cl k mf [bB l]=.ok (.bl true):=by
 have A:xf .len [bB l]=.ok (.int l.length):=by simp[xf,xX,bB]
 have E:aj cl (.compP .prs (.bin .sub (.lit (.int 1)) (.bin .mul (.lit (.int 2)) (.bin .mod (.bin .add (.V 1) (.V 2)) (.lit (.int 2))))) (.V 0) (.lit (.int 0)) (.lit (.bl true))) [some (bB l)]=.ok (.L (l.map λp=>Dat.int (cC p))):=by
  rw[vj];simp only[zm,zn,aH];rw[show xo .prs (bB l) (.int 0)=some (l.map λp=>(Dat.int p.1,Dat.int p.2))from by
   show(if(l.map ay).length<=ao then fh (l.map ay)else none)=_;rw[OB (by rw[Qi];unfold ao;lia),rR]]
  simp only[];rw[yM (λp:Pl=>(Dat.int p.1,Dat.int p.2)) (λp=>Dat.int (cC p)) l [] (λp _=>rfl) (λp _=>?_) (by unfold ao;simp;lia)]
  .rfl
  .simp only[QZ,QS,zE,zn,zm,zl,aH,yC,xU _ (2:Int) (by decide),yG (2:Int) _ (by decide),xb];rfl
 unfold zL;rw[OB (by rfl)];show zJ (lev k) (aG lev cl (.ret _) [some (bB l)] _)=_;rw[zQ];simp only[yY,zX,xr,zt,zr,zn,zm,aH,zp,A,E,CF,OF (show(3:Int)<l.length by lia)];rw[show xf .sum [.L (l.map λp=>Dat.int (cC p))]=.ok (.int 0)from by
  show(match qj (l.map λp=>Dat.int (cC p))with|some i=>Rd.ok (.int i)|none=>.no)=_;rw[sM,B]]
 simp only[aH,xi,a7];simp[zJ]
end
end Lib
namespace Lib
def Hs {a:T6}(h:a.Perm b):a.sum=b.sum:=by
 induction h with
 |nil=>rfl
 |cons x _ A=>simp only[VR,A]
 |swap x y l=>simp only[VR];lia
 |trans _ _ B E=>exact B.trans E
theorem Ad:∀A:O8,(A.map xc).flatten.Perm A.flatten
 |[]=>.refl _
 |r::A=>by
  rw[QJ,Q8,Q8];exact(xt r).append (Ad A)
section
variable{R:O7}{b:Bool}{L:Nat->Nat}{P:Nat->U5}
noncomputable def vS(n:Nat)(L:Nat->Nat)(P:Nat->U5):O8:=((QA (2*n)).filter λj=>decide (j<L j)).map P
def qR(n:Nat):(vS n L P).length<=2*n:=by
 unfold vS;rw[Qi];exact Qx (List.length_filter_le _ _) (by simp)
def RI.cover (I:RI R b L P (bA R.length R.length 0) ps A):(vS R.length L P++A.map xc).flatten.Perm (bA R.length R.length 0):=by
 rw[WD];refine Wu.trans ?_ I.all;exact Wu.append (by rw[vS,qQ,List.flatMap_def]) (Ad A)
def RI.good (B:R.length<=12)(I:RI R b L P done ps E)(A:r∈E):4<=(xc r).length/\(xc r).length<=1000/\((xc r).map cC).sum=0:=by
 have p:=xt r;obtain⟨G,H⟩:=I.ok r A;obtain⟨_,_,_,_,nd,_⟩:=I.hd r A;have hl:=nF nd λq J=>c9.mpr (I.inn q (I.perm.mem_iff.mpr (Qz _ (List.mem_flatten.mpr ⟨r,A,J⟩))));rw[wQ]at hl;have:R.length*R.length<=12*12:=WG B B;rw[p.length_eq,Hs (p.map cC)];exact⟨G,by lia,H⟩
end
section
variable{lev:U7}{cl:O5}{k:Nat}
def t5 (h:cl A [d,.int m]=.ok X)(B:lev k=.no):zL lev cl k (qk A m) [d]=.ok X:=by
 unfold zL;rw[OB (by rfl)];show zJ (lev k) (aG lev cl (.ret _) [some d] [aY d])=_;rw[zQ];simp only[zB,zt,zr,zn,zm,aH,zp,h,a7];rw[B];simp[zJ,xY]
def tZ (U:n<=12)(H:de.length=9)(I:de[1]?=some (some (.int n)))(J:de[2]?=some (some st))(G:de[A]?=some (some (row ((QA (2*n)).map λj=>(L j:Int)))))(M:∀j,j<2*n->cl N [st,.int j]=.ok (bB (P j))):
  aj cl (.comp (.call N (.p (.V 2) (.p (.V 9) .u))) (.rng (.lit (.int 0)) (.bin .mul (.lit (.int 2)) (.V 1)) (.lit (.int 1))) (.cmp .lt (.V 9) (.i (.V A) (.V 9)))) de=.ok (.L ((vS n L P).map bB)):=by
 have m2:zZ .mul (.int 2) (.int n)=.ok (.int ((2*n:Nat):Int)):=by rw[yG _ _ (by decide)];simp
 have B:kG (.int 0) (.int ((2*n:Nat):Int)) (.int 1)=.ok (.T (yA 0 1 (2*n))):=jK (by lia);have Y:A<de.length:=(Qa.mp G).1;have E:∀x:Dat,aj cl (.V 9) (de++[some x])=.ok x:=λx=>y9 (by rw[Qe (by lia),H];rfl);have O:∀x:Dat,aj cl (.V 2) (de++[some x])=.ok st:=λx=>y9 (by rw[Qf (by lia)];exact J);have Q:∀x:Dat,aj cl (.V A) (de++[some x])=.ok (row ((QA (2*n)).map λj=>(L j:Int))):=λx=>y9 (by rw[Qf (by lia)];exact G);rw[wN];simp only[vh,zE,zn,y9 I,aH,m2,B,vk];unfold yA;rw[vM (λi:Nat=>Dat.int (0+1*(i:Int))) (λj=>decide (j<L j)) (λj=>bB (P j)) (QA (2*n)) [] (λj hj=>?_) (λj hj _=>?_) (by simp;unfold ao;lia)]
 .unfold vS;rw[QS,QQ];rfl
 .have hj:=Ws.mp hj;rw[show(0+1*(j:Int))=(j:Int) by lia,zX,E,aH,yz,Q,E,aH,aH,jI (c:=j) (v:=(L j:Int)) (by simp[hj]),aH,qP];congr 2;rw[decide_eq_decide];lia
 .have hj:=Ws.mp hj;rw[show(0+1*(j:Int))=(j:Int) by lia];simp only[zB,zt,zr,O,E,aH,zp,M j hj]
def nE(a c:T7)(h:a.length+c.length<=ao):zZ .add (.L a) (.L c)=.ok (.L (a++c)):=by
 show bh (a++c)=_;exact yZ (by simpa using h)
end
end Lib
namespace Lib
end Lib
namespace Lib
section
noncomputable def tr(G:P5):Nat->Nat->Int:=λi j=>G j i
end
end Lib
namespace Lib
end Lib
namespace Lib
end Lib
end Vl
end Mini
namespace Mini
open PySem
end Mini
namespace R45
open PySem L2 Mini
noncomputable def f0:Fn:=Mini.Vl.Lib.lG
abbrev qdd(a:Str)(i:Nat)(N:T8)(k:Nat)(f:Fn):bK:=⟨a,top i,N,N.take k,f,a⟩
abbrev d0:=qdd "is_whole" 4 ["thing"] 1 f0
noncomputable def f1:Fn:=Mini.Vl.Lib.mw
abbrev d1:=qdd "is_place" 6 ["n","r","c"] 3 f1
noncomputable def f2:Fn:=Mini.Vl.Lib.mv 1
abbrev d2:=qdd "road_over" 7 ["n","r","c","side"] 4 f2
noncomputable def f3:Fn:=Mini.Vl.Lib.mT 0
abbrev d3:=qdd "need_road" 8 ["road","roads"] 2 f3
noncomputable def f4:Fn:=Mini.Vl.Lib.mM
abbrev d4:=qdd "place_at" 9 ["n","road","stretch","t"] 2 f4
noncomputable def f5:Fn:=Mini.Vl.Lib.mW
abbrev d5:=qdd "column_sums" 11 ["state","sums","told","row"] 1 f5
noncomputable def f6:Fn:=Mini.Vl.Lib.mr
abbrev d6:=qdd "across_row" 13 ["row","total","told","sign"] 1 f6
noncomputable def f7:Fn:=Mini.Vl.Lib.mq
abbrev d7:=qdd "down_row" 14 ["sums"] 1 f7
noncomputable def f8:Fn:=Mini.Vl.Lib.mo 5 6 7
abbrev d8:=qdd "arrows_of" 15 ["state","across","down"] 1 f8
noncomputable def f9:Fn:=Mini.Vl.Lib.iW
abbrev d9:=qdd "is_odd" 17 ["number"] 1 f9
noncomputable def BA:Fn:=Mini.Vl.Lib.mL 9
abbrev BZ:=qdd "walked_row" 18 ["i","row"] 2 BA
noncomputable def Bz:Fn:=Mini.Vl.Lib.nr 10
abbrev BY:=qdd "walked_grid" 19 ["grid"] 1 Bz
noncomputable def By:Fn:=Mini.Vl.Lib.mn 8 11
abbrev BX:=qdd "sides_of" 20 ["state","pair"] 1 By
noncomputable def Bx:Fn:=Mini.Vl.Lib.ms 2
abbrev BW:=qdd "beyond" 25 ["n","r","c","side","road","step"] 4 Bx
noncomputable def Bw:Fn:=Mini.Vl.Lib.iE 13
abbrev BV:=qdd "ends_at" 26 ["pair","r","c","mark","across","down","marks"] 4 Bw
noncomputable def Bv:Fn:=Mini.Vl.Lib.nu 12 14
abbrev BU:=qdd "all_ends" 27 ["state","mark","pair","ends","r","c"] 2 Bv
noncomputable def Bu:Fn:=Mini.Vl.Lib.g6
abbrev BS:=qdd "trail" 28 ["ends","behind","start","told","both"] 3 Bu
noncomputable def Bt:Fn:=Mini.Vl.Lib.ml 4 16
abbrev BR:=qdd "road_trail" 29 ["ends","n","k","mark","road","place"] 4 Bt
noncomputable def Bs:Fn:=Mini.Vl.Lib.iV 3 17 15
abbrev BQ:=qdd "way_over" 30 ["state","k","mark"] 3 Bs
noncomputable def Br:Fn:=Mini.Vl.Lib.iD 18 1
abbrev BP:=qdd "way" 31 ["state","k"] 2 Br
noncomputable def Bq:Fn:=Mini.Vl.Lib.iD 18 0
abbrev BO:=qdd "way_beside" 32 ["state","k"] 2 Bq
noncomputable def Bn:Fn:=Mini.Vl.Lib.mj 15 17
abbrev BN:=qdd "links_over" 33 ["state","mark","n","ends"] 2 Bn
noncomputable def Bm:Fn:=Mini.Vl.Lib.qk 21 1
abbrev BM:=qdd "links" 34 ["state"] 1 Bm
noncomputable def Bl:Fn:=Mini.Vl.Lib.qk 21 0
abbrev BL:=qdd "links_beside" 35 ["state"] 1 Bl
noncomputable def Bk:Fn:=Mini.Vl.Lib.mi 17
abbrev BK:=qdd "places_on_ways" 36 ["ends","n","mark","passed","k","place"] 3 Bk
noncomputable def Bj:Fn:=Mini.Vl.Lib.mh 15 24 16
abbrev BJ:=qdd "rings_over" 37 ["state","mark","ends","passed","told","start","ring","place"] 2 Bj
noncomputable def Bh:Fn:=Mini.Vl.Lib.qk 25 1
abbrev BI:=qdd "rings" 38 ["state"] 1 Bh
noncomputable def Bg:Fn:=Mini.Vl.Lib.qk 25 0
abbrev BH:=qdd "rings_beside" 39 ["state"] 1 Bg
noncomputable def Bf:Fn:=Mini.Vl.Lib.g8
abbrev BG:=qdd "_law_cell_at" 41 ["_law_script","_law_k"] 2 Bf
noncomputable def Be:Fn:=Mini.Vl.Lib.mK
abbrev BF:=qdd "_law_mixed" 42 ["_law_cell","_law_k","_law_one"] 2 Be
noncomputable def Bd:Fn:=Mini.Vl.Lib.kP
abbrev BE:=qdd "_law_size" 43 ["_law_cell"] 1 Bd
noncomputable def Bc:Fn:=Mini.Vl.Lib.nI 29
abbrev BD:=qdd "_law_drawn" 44 ["_law_cell","_law_n","_law_rows","_law_rest","_law_turn","_law_below","_law_row","_law_m","_law_low","_law_digit","_law_signs","_law_ahead"] 2 Bc
noncomputable def Bb:Fn:=Mini.Vl.Lib.mS
abbrev BC:=qdd "_law_each_once" 45 ["_law_lists","_law_n","_law_some","_law_places"] 2 Bb
noncomputable def Ba:Fn:=Mini.Vl.Lib.mf
abbrev BB:=qdd "_law_is_ring" 46 ["_law_places"] 1 Ba
noncomputable def ie:Fn:=⟨1,9,(.seq (.a 1 (.call 30 (.p (.call 28 (.p (.V 0) (.p (.lit (.int 0)) .u))) .u))) (.seq (.a 2 (.call 31 (.p (.call 28 (.p (.V 0) (.p (.lit (.int 1)) .u))) (.p (.V 1) .u)))) (.seq (.a 3 (.call 22 (.p (.V 2) .u))) (.seq (.a 4 (.call 23 (.p (.V 2) .u))) (.seq (.a 5 (.call 26 (.p (.V 2) .u))) (.seq (.a 6 (.call 27 (.p (.V 2) .u))) (.seq (.a 7 (.comp (.call 19 (.p (.V 2) (.p (.V 9) .u))) (.rng (.lit (.int 0)) (.bin .mul (.lit (.int 2)) (.V 1)) (.lit (.int 1))) (.cmp .lt (.V 9) (.i (.V 3) (.V 9))))) (.seq (.a 8 (.comp (.call 20 (.p (.V 2) (.p (.V 9) .u))) (.rng (.lit (.int 0)) (.bin .mul (.lit (.int 2)) (.V 1)) (.lit (.int 1))) (.cmp .lt (.V 9) (.i (.V 4) (.V 9))))) (.seq (.ite (.or (.not (.call 32 (.p (.bin .add (.V 7) (.V 5)) (.p (.V 1) .u)))) (.not (.call 32 (.p (.bin .add (.V 8) (.V 6)) (.p (.V 1) .u))))) (.ret (.lit (.bl false))) .skip) (.ret (.blt .all (.p (.comp (.call 33 (.p (.V 9) .u)) (.bin .add (.V 5) (.V 6)) (.lit (.bl true))) .u))))))))))))⟩
abbrev oU:=qdd "law" 47 ["_law_script","_law_n","_law_signs","_law_trod","_law_beside","_law_round_walked","_law_round_beside","_law_ways","_law_more"] 1 ie
noncomputable def D:List bK:=[d0,d1,d2,d3,d4,d5,d6,d7,d8,d9,BZ,BY,BX,BW,BV,BU,BS,BR,BQ,BP,BO,BN,BM,BL,BK,BJ,BI,BH,BG,BF,BE,BD,BC,BB,oU]
noncomputable def C:Mini.Ctx:=⟨D.map (·.nm),[("WALKED",1),("BESIDE",0)],[("STEPS",[([85],-1,0),([82],0,1),([68],1,0),([76],0,-1)])]⟩
def ac {P:bK->Prop}(h:P a)(t:∀d∈l,P d):∀d∈a::l,P d:=VJ.mpr ⟨h,t⟩
set_option maxHeartbeats 0 in
def Cg:∀d∈D,md C d:=by
 unfold D;repeat' refine VJ.2 ⟨?_,?_⟩
 all_goals first|exact λ_ h=>(Wn h).elim|(refine⟨by decide +kernel,rfl,rfl,?_⟩;repeat' first|exact .v|exact .int|exact .u|refine .p rfl rfl ?_ ?_|refine .bin rfl ?_ rfl ?_|refine .seq ?_ ?_|refine .one ?_|refine .ret rfl ?_|refine .call rfl ?_ ?_ rfl ?_|refine .cmp rfl rfl ?_ rfl ?_|refine .blt rfl ?_ ?_ rfl ?_|exact .skip0|refine .ite rfl rfl ?_ ?_ ?_|refine .L ?_|refine .and2 rfl rfl ?_ rfl rfl ?_|refine .T ?_|refine .expr rfl rfl ?_|refine .forv rfl ?_ rfl ?_ ?_|refine .rng1 ?_ rfl rfl ?_|refine .neg rfl ?_|refine .str ?_|refine .meth rfl rfl ?_ rfl rfl ?_ ?_|refine .con ?_ ?_ ?_|refine .not rfl rfl ?_|refine .comp0 rfl ?_ ?_ rfl ?_|refine .chain rfl rfl ?_ rfl ?_ rfl ?_|exact .N|refine .ife rfl rfl ?_ rfl ?_ rfl ?_|refine .dput rfl ?_ rfl ?_ rfl ?_|exact .bl|refine .isi ?_ ?_ rfl rfl ?_|refine .asgC0 rfl ?_ rfl ?_ ?_ rfl ?_|refine .compE0 ?_ ?_ rfl rfl ?_ rfl ?_|exact .dict0|refine .dget rfl rfl ?_ rfl ?_|refine bR.«while» rfl rfl ?_ ?_|refine .slB rfl ?_ rfl ?_ rfl ?_|refine .dsot ?_ rfl rfl ?_|refine .or2 rfl rfl ?_ rfl rfl ?_|refine .asgC1 rfl ?_ rfl ?_ ?_ rfl rfl ?_ rfl ?_|exact .never|refine .asgCZ0 rfl ?_ ?_ ?_ rfl rfl rfl ?_ rfl ?_ rfl ?_|refine .aug rfl ?_ rfl rfl ?_|refine .dcon ?_ ?_ ?_ ?_ rfl ?_ ?_|refine .sel (j:=6) ?_ ?_ ?_ ?_ ?_ rfl ?_ ?_ ?_ rfl ?_ rfl ?_ ?_ ?_ rfl ?_ rfl ?_ rfl ?_ rfl ?_ rfl ?_ rfl ?_ rfl rfl rfl|refine .slL rfl ?_ rfl ?_|refine .forD rfl ?_ ?_ ?_|refine .dsor ?_ rfl rfl ?_|refine .lrng ?_ ?_ rfl rfl ?_|refine .meth0 rfl rfl rfl ?_|refine .compT0 rfl ?_ ?_ rfl ?_|refine .a rfl rfl ?_ rfl ?_|refine .i rfl rfl ?_ rfl ?_|kernel_rfl|decide)
set_option maxHeartbeats 0 in
def B4:∀d∈D,pH d:=by
 unfold D;repeat' refine VJ.2 ⟨?_,?_⟩
 all_goals first|exact λ_ _ _ _ _ _=>A0 (λ_=>rfl)|exact λ_ _ _ _ _ _=>AZ (λ_ _=>rfl)|exact λ_ _ _ _ _ _=>AY (λ_ _ _=>rfl)|exact λ_ _ _ _ _ _=>KZ (λ_ _ _ _=>rfl)|exact λ_ h=>(Wn h).elim
def dk {K:Qb}(X:K.In h)(G:h.Ns ME A){kV:Value}(g:Vq K ME d.nm=some (some (.ref a)))(l:K.lookup a=some ⟨B,E,.func (WQ d.on d.on (wG d.st) (xH d.st) (yk d.st) .none kV H pm I cd J),L⟩)(c:Vz K cd d.on=true)(k:WX K (.ref a)=true):gD K A d:=⟨a,_,EZ l c k,VG X G g⟩
def mk {K:Qb}(X:K.In h)(G:h.Ns ME H)(J:∀e∈D,gD K H e)(L:Vq K ME "WALKED"=some (some (.int 1 t0)))(e1:Vq K ME "BESIDE"=some (some (.int 0 t1)))(s0:Vq K ME "STEPS"=some (some (.ref sa0)))(M:iy K w sa0 [([85],-1,0),([82],0,1),([68],1,0),([76],0,-1)])(z:∀B∈zO,Vq K ME B=some none): (∀e∈D,gD K H e)/\iz K w H C/\∀B∈zO,H B=none:=by
 refine⟨λd N=>?_,⟨λB i A=>?_,λB Q A=>?_⟩,λB O=>?_⟩
 .exact J d N
 .unfold C at A;rw[Q5]at A;cases E:B==("WALKED":Str)with
  |true=>
   rw[E]at A;cases A;rw[beq_iff_eq.mp E];exact⟨t0,VG X G L⟩
  |false=>
  rw[E]at A;rw[Q5]at A;cases I:B==("BESIDE":Str)with
  |true=>
   rw[I]at A;cases A;rw[beq_iff_eq.mp I];exact⟨t1,VG X G e1⟩
  |false=>
  rw[I]at A;cases A
 .unfold C at A;rw[Q5]at A;cases E:B==("STEPS":Str)with
  |true=>
   rw[E]at A;cases A;rw[beq_iff_eq.mp E];exact⟨sa0,VG X G s0,M⟩
  |false=>
  rw[E]at A;cases A
 .exact PySem.W.mg_none_of X G (z B O)
end R45
namespace R45
open Mini
noncomputable def T:List Fn:=[f0,f1,f2,f3,f4,f5,f6,f7,f8,f9,BA,Bz,By,Bx,Bw,Bv,Bu,Bt,Bs,Br,Bq,Bn,Bm,Bl,Bk,Bj,Bh,Bg,Bf,Be,Bd,Bc,Bb,Ba,ie]
open Vl Vl.Lib
noncomputable def ql(k:Nat):Lv:=if k=5\/k=8\/k=11\/k=12\/k=25\/k=26\/k=27\/k=31 then .no else .F
abbrev CD(d:Nat):=gK ql T d
def zY (h:T[k]?=some f)(A:T7):CD (d+1) k A=zL ql (CD d) k f A:=by
 show gK ql T (d+1) k A=_;unfold gK;rw[h]
def H0(d:Nat)(x:Int):CD (d+1) 0 [.int x]=.ok (.bl true):=by rw[zY (f:=lG) rfl];exact Jv x
def H3 (d:Nat)(h:0<=i/\i<m):CD (d+2) 3 [.int i,.int m]=.ok .N:=by rw[zY (f:=mT 0) rfl];exact Hu (H0 d) h
def H1 (d:Nat){c:Nat}(A:r<n)(B:c<n):CD (d+1) 1 [.int n,.int r,.int c]=.ok (.bl true):=by rw[zY (f:=mw) rfl];exact FW A B
def H2 (d:Nat){c:Nat}(A:r<n)(B:c<n)(e:Di):CD (d+2) 2 [.int n,.int r,.int c,yK e]=.ok (fA n ((r:Int),(c:Int)) e):=by rw[zY (f:=mv 1) rfl];exact FV A B (H1 d A B) e
def H4 (d:Nat){ρ:Nat}(B:0<n)(A:n<=12)(h:ρ<4*n):CD (d+1) 4 [.int n,.int ρ]=.ok (.T [.int (bE n ρ).1.1,.int (bE n ρ).1.2,yK (bE n ρ).2]):=by rw[zY (f:=mM) rfl];exact Hc B A h
def H5 (d:Nat)(h:Sq R)(A:R.length<=100):CD (d+1) 5 [aq R]=.ok (aq (kQ R)):=by rw[zY (f:=mW) rfl];exact Ix h A rfl
def H6(d:Nat)(x:T6)(A:x.length<=100):CD (d+1) 6 [row x]=.ok (row (dw x)):=by rw[zY (f:=mr) rfl];exact FQ x A rfl
def H7(d:Nat)(x:T6)(A:x.length<=100):CD (d+1) 7 [row x]=.ok (row (eu x)):=by rw[zY (f:=mq) rfl];exact FP x A rfl
def H8 (d:Nat)(h:Sq R)(A:R.length<=12):CD (d+2) 8 [aq R]=.ok (arr R.length (dG R) (eh R)):=by rw[zY (f:=mo 5 6 7) rfl];exact FN h A (H5 d h (by lia)) (H6 d) (H7 d) rfl
def H9(d:Nat)(n:Int):CD (d+1) 9 [.int n]=.ok (.bl (decide (n%2=1))):=by rw[zY (f:=iW) rfl];exact FS n
def LF (d:Nat)(A:q<=100)(W:P5)(i:Nat):CD (d+2) 10 [.int i,row (xA q W i)]=.ok (row (xA q (wk W) i)):=by rw[zY (f:=mL 9) rfl];exact G8 (H9 d) A W i rfl
def Ce (d:Nat)(A:p<=100)(B:q<=100)(W:P5):CD (d+3) 11 [aq (yD p q W)]=.ok (aq (yD p q (wk W))):=by rw[zY (f:=nr 10) rfl];exact JR A W (LF d B W) rfl
def LC (d:Nat)(h:aW R)(A:R.length<=12):CD (d+4) 12 [aq R]=.ok (arr R.length (wk (dG R)) (wk (eh R))):=by
 rw[zY (f:=mn 8 11) rfl];exact FM (H8 (d+1) h.sq A) (Ce d (by lia) (by lia) _) (Ce d (by lia) (by lia) _) rfl rfl
def LB (d:Nat){c:Nat}(A:r<n)(B:c<n)(e:Di):CD (d+3) 13 [.int n,.int r,.int c,yK e]=.ok (zT n ((r:Int),(c:Int)) e):=by rw[zY (f:=ms 2) rfl];exact FU e (H2 d A B e)
def LA (d:Nat)(H:aW R)(b:Bool)(r c:Nat)(A:r<R.length)(B:c<R.length):CD (d+4) 14 [arr R.length (wk (dG R)) (wk (eh R)),.int r,.int c,.int (cn b)]=.ok (xZ R.length (bO R b) ((r:Int),(c:Int))):=by
 rw[zY (f:=iE 13) rfl];exact C2 H b A B (λe=>LB d A B e) rfl
abbrev EN(R:O7)(b:Bool):Dat:=dr (xZ R.length (bO R b)) (bA R.length R.length 0)
def pD (d:Nat)(H:aW R)(A:R.length<=12)(b:Bool):CD (d+5) 15 [aq R,.int (cn b)]=.ok (EN R b):=by
 rw[zY (f:=nu 12 14) rfl];exact JS A (LC d H A) (LA d H b) rfl rfl
def Lz (d:Nat)(H:aW R)(A:R.length<=12)(b:Bool)(hj:j<2*R.length)(B:Wk R b j=some (E,σ)):CD (d+1) 16 [EN R b,.int ((2*j+bN b:Nat):Int),ay (bE R.length (2*j+bN b)).1]=.ok (.L (.int ((2*j+bN b:Nat):Int)::E.map ay++[.int σ])):=by
 have J:bN b=0\/bN b=1:=by cases b<;>simp[bN]
 obtain⟨L,G,I⟩:=wl (n:=R.length) (ρ:=2*j+bN b) (by lia) (by lia);rw[zY (f:=g6) rfl];exact IR (by lia) A (by lia) (wm H b) (nJ λ_ _=>rfl) (vm H b hj) G I B rfl
def pB (d:Nat)(H:aW R)(A:R.length<=12)(b:Bool)(hj:j<2*R.length)(B:Wk R b j=some (E,σ)):CD (d+2) 17 [EN R b,.int R.length,.int j,.int (cn b)]=.ok (.L (.int ((2*j+bN b:Nat):Int)::E.map ay++[.int σ])):=by
 have G:bN b=0\/bN b=1:=by cases b<;>simp[bN]
 rw[zY (f:=ml 4 16) rfl];exact FI b (H4 d (by lia) A (by lia)) (Lz d H A b hj B) rfl rfl
theorem Ac:∀(k:Nat) (s:aQ) (acc A:U5) (σ:Int),vO n t k s acc=some (A,σ)->A.length<=acc.length+k
 |0,_,_,_,_,h=>by cases h
 |k+1,s,acc,A,σ,h=>by
  have B:(match bC n t s with|some E=>vO n t k E (acc++[E.1])|none=>some (acc,gE n t s))=some (A,σ):=h;cases e:bC n t s with
  |none=>rw[e]at B;cases B;lia
  |some E=>
   rw[e]at B;have:=Ac k E _ A σ B;simp at this;lia
def sL (A:R.length<=12)(h:Wk R b j=some (B,σ)):B.length<=1000:=by
 have:=Ac _ _ _ _ _ h;have E:R.length*R.length<=12*12:=WG A A;simp at this;lia
def Cd (d:Nat)(H:aW R)(A:R.length<=12)(b:Bool)(hj:j<2*R.length)(B:Wk R b j=some (E,σ)):CD (d+6) 18 [aq R,.int j,.int (cn b)]=.ok (.L (E.map ay)):=by
 rw[zY (f:=iV 3 17 15) rfl];exact FE (sL A B) (H3 (d+3) (by lia)) (pD d H A b) (pB (d+3) H A b hj B) rfl
def pC (d:Nat)(H:aW R)(b:Bool)(B:b9 R.length (bO R b) s A l)(E:A.length<=1000)(G:inn R.length (aD s.2 s.1)=true):CD (d+1) 16 [EN R b,ay l.1,ay s.1]=.ok (.L (ay l.1::(s.1::A.map (·.1)).map ay)):=by
 rw[zY (f:=g6) rfl];exact Kw (wm H b) (nJ λ_ _=>rfl) B E G rfl
section
variable{R:O7}{L:Nat->Nat}{P:Nat->U5}
abbrev iJ(m:Nat)(L:Nat->Nat):Dat:=row ((QA m).map λj=>(L j:Int))
def Ly (d:Nat)(H:aW R)(A:R.length<=12)(W:bx R false L P)(hj:j<2*R.length):CD (d+7) 19 [aq R,.int j]=.ok (bB (P j)):=by
 rw[zY (f:=iD 18 1) rfl];exact AL (Cd d H A false hj (W.wk j hj)) (.inr rfl) (.inr rfl)
def Lx (d:Nat)(H:aW R)(A:R.length<=12)(W:bx R true L P)(hj:j<2*R.length):CD (d+7) 20 [aq R,.int j]=.ok (bB (P j)):=by
 rw[zY (f:=iD 18 0) rfl];exact AL (Cd d H A true hj (W.wk j hj)) (.inr rfl) (.inr rfl)
def Cc(d:Nat)(H:aW R)(A:R.length<=12)(b:Bool)(W:bx R b L P):CD (d+6) 21 [aq R,.int (cn b)]=.ok (iJ (2*R.length) L):=by
 rw[zY (f:=mj 15 17) rfl];exact FH A b (pD d H A b) rfl (P:=λj=>.int ((2*j+bN b:Nat):Int)::(P j).map ay) (λj hj=>pB (d+3) H A b hj (W.wk j hj)) rfl
def Lw(d:Nat)(H:aW R)(A:R.length<=12)(W:bx R false L P):CD (d+7) 22 [aq R]=.ok (iJ (2*R.length) L):=by
 rw[zY (f:=qk 21 1) rfl];exact uc (Cc d H A false W) rfl rfl
def Lu(d:Nat)(H:aW R)(A:R.length<=12)(W:bx R true L P):CD (d+7) 23 [aq R]=.ok (iJ (2*R.length) L):=by
 rw[zY (f:=qk 21 0) rfl];exact uc (Cc d H A true W) rfl rfl
def Ls(d:Nat)(H:aW R)(A:R.length<=12)(b:Bool)(W:bx R b L P):∃ps,ps.Nodup/\(∀p,p∈ps↔p∈jA R.length P)/\ps.length<=24000/\CD (d+3) 24 [EN R b,.int R.length,.int (cn b)]=.ok (cG ps):=by
 rw[zY (f:=mi 17) rfl];exact F4 A (λj hj=>sL A (W.wk j hj)) (λj hj=>pB d H A b hj (W.wk j hj)) rfl
def Cb(d:Nat)(H:aW R)(A:R.length<=12)(b:Bool)(W:bx R b L P):∃ps B,RI R b L P (bA R.length R.length 0) ps B/\B.length<=144/\CD (d+6) 25 [aq R,.int (cn b)]=.ok (.L (cj B)):=by
 obtain⟨ps,nd,E,_,h⟩:=Ls (d+2) H A b W;rw[zY (f:=mh 15 24 16) rfl];exact F1 H A W (pD d H A b) rfl nd E h rfl (λs M l G I J=>pC (d+4) H b G I J) rfl
def Lr(d:Nat)(H:aW R)(B:R.length<=12)(W:bx R false L P):∃ps A,RI R false L P (bA R.length R.length 0) ps A/\A.length<=144/\CD (d+7) 26 [aq R]=.ok (.L (cj A)):=by
 obtain⟨ps,A,I,hl,h⟩:=Cb d H B false W;exact⟨ps,A,I,hl,by rw[zY (f:=qk 25 1) rfl];exact t5 h rfl⟩
def Lq(d:Nat)(H:aW R)(B:R.length<=12)(W:bx R true L P):∃ps A,RI R true L P (bA R.length R.length 0) ps A/\A.length<=144/\CD (d+7) 27 [aq R]=.ok (.L (cj A)):=by
 obtain⟨ps,A,I,hl,h⟩:=Cb d H B true W;exact⟨ps,A,I,hl,by rw[zY (f:=qk 25 0) rfl];exact t5 h rfl⟩
end
def Ca(d:Nat)(A:T6)(i:Nat):∃c:Int,CD (d+1) 28 [.scr A,.int i]=.ok (.int c):=by rw[zY (f:=g8) rfl];exact IQ A i
def Lp(d:Nat)(c j:Int)(h:0<=j)(h':j<=100000):∃v:Int,CD (d+1) 29 [.int c,.int j]=.ok (.int v):=by rw[zY (f:=mK) rfl];exact Hv c j h h'
def Lo(d:Nat)(c:Int):∃n:Nat,1<=n/\n<=12/\CD (d+1) 30 [.int c]=.ok (.int n):=by rw[zY (f:=kP) rfl];exact Kk c
def Ln (d:Nat)(G:1<=n)(A:n<=12)(cell:Int):∃R,aW R/\R.length=n/\CD (d+2) 31 [.int cell,.int n]=.ok (aq R):=by
 rw[zY (f:=nI 29) rfl];obtain⟨X,E,e⟩:=IP (lev:=ql) (k:=31) (Lp d) G A cell (.inl rfl);have B:=E.len;have hl:(sg X).length=n:=by rw[lF,B]
 exact⟨sg X,aW.of (CC X) λr c a b=>D2 E (by lia) (by lia),hl,e⟩
def B9 (d:Nat)(B:1<=n)(E:n<=12){A:O8}(hl:A.length<=1000)(G:A.flatten.Perm (bA n n 0)):CD (d+1) 32 [.L (A.map bB),.int n]=.ok (.bl true):=by rw[zY (f:=mS) rfl];exact Ht B E hl G
def Lm (d:Nat)(h:4<=l.length/\l.length<=1000/\(l.map cC).sum=0):CD (d+1) 33 [bB l]=.ok (.bl true):=by rw[zY (f:=mf) rfl];exact FZ h.1 h.2.1 h.2.2
noncomputable def me(r:b8):Prop:=∃l,r=.ret (.bl true) l
def vn (h:aj cl e de=.ok d)(A:yW (.a i e) X=none)(k:∀lv,me (aG ql cl X (de.set i (some d)) lv)):me (aG ql cl (.seq (.a i e) X) de lv):=by
 rw[ye ql cl de lv A,zR,h];simp only[a7];unfold we;split
 .simp only[zo];exact k _
 .simp only[zo];exact k _
def tY (H:aW R)(b:Bool):∃L P,bx R b L P:=by
 obtain⟨L,P,A⟩:=Hd H b;exact⟨L,P,λj hj=>(A j hj).1,λj hj=>(A j hj).2.1,λj hj=>(A j hj).2.2.1,λj hj=>(A j hj).2.2.2.1,λj hj=>(A j hj).2.2.2.2⟩
set_option tactic.hygienic true in
def Hr(E:T6):CD 9 34 [.scr E]=.ok (.bl true):=by
 rw[zY (d:=8) (f:=ie) rfl];obtain⟨s,a⟩:=Ca 7 E 0;obtain⟨m,w⟩:=Ca 7 E 1;obtain⟨n,J,A,y⟩:=Lo 7 s;obtain⟨R,H,rfl,x⟩:=Ln 6 J A m;obtain⟨L,P,W⟩:=tY H false;obtain⟨Q,U,Y⟩:=tY H true;have k:CD 8 28 [.scr E,.int 0]=.ok (.int s):=a;have q:CD 8 28 [.scr E,.int 1]=.ok (.int m):=w;have u:=(show CD 8 22 [aq R]=_ from Lw 1 H A W);have o:=(show CD 8 23 [aq R]=_ from Lu 1 H A Y);obtain⟨ps,G,I,hrs,M⟩:=Lr 1 H A W;obtain⟨ps',B,b,h,N⟩:=Lq 1 H A Y;have M:CD 8 26 [aq R]=.ok (.L (cj G)):=M;have N:CD 8 27 [aq R]=.ok (.L (cj B)):=N;have l1:=qR (L:=L) (P:=P) R.length;have l2:=qR (L:=Q) (P:=U) R.length;have i:∀(p:O8) (c:O8),p.map bB++cj c=(p++c.map xc).map bB:=λp c=>by rw[Wb,QQ];rfl
 have e:=(show CD 8 32 [.L ((vS R.length L P).map bB++cj G),.int R.length]=.ok (.bl true)from by rw[i];exact B9 7 J A (by simp;lia) I.cover);have O:=(show CD 8 32 [.L ((vS R.length Q U).map bB++cj B),.int R.length]=.ok (.bl true)from by rw[i];exact B9 7 J A (by simp;lia) b.cover);suffices t:me (aG ql (CD 8) ie.body [some (.scr E),none,none,none,none,none,none,none,none] [aY (.scr E),.F,.F,.F,.F,.F,.F,.F,.F]) by
  obtain⟨l,t⟩:=t;unfold zL;rw[OB (by rfl)];show zJ _ (aG ql (CD 8) ie.body [some (.scr E),none,none,none,none,none,none,none,none] [aY (.scr E),.F,.F,.F,.F,.F,.F,.F,.F])=_;rw[t];simp[zJ]
 unfold ie;refine vn (d:=.int R.length) (by simp only[zB,zt,zr,zm,zn,aH,zp,k,y]) rfl λ_=>?_;refine vn (d:=aq R) (by simp only[Qc,Qd,zB,zt,zr,zm,zl,zn,aH,zp,q,x]) rfl λ_=>?_;refine vn (d:=iJ (2*R.length) L) (by simp only[Qc,Qd,zB,zt,zr,zm,zl,aH,zp,u]) rfl λ_=>?_;refine vn (d:=iJ (2*R.length) Q) (by simp only[Qc,Qd,zB,zt,zr,zm,zl,aH,zp,o]) rfl λ_=>?_;refine vn (d:=.L (cj G)) (by simp only[Qc,Qd,zB,zt,zr,zm,zl,aH,zp,M]) rfl λ_=>?_;refine vn (d:=.L (cj B)) (by simp only[Qc,Qd,zB,zt,zr,zm,zl,aH,zp,N]) rfl λ_=>?_;refine vn (tZ A rfl rfl rfl rfl λj hj=>Ly 1 H A W hj) rfl λ_=>?_;refine vn (tZ A rfl rfl rfl rfl λj hj=>Lx 1 H A Y hj) rfl λ_=>?_;simp only[Qc,Qd];rw[yf,y6];have a1:=nE ((vS R.length L P).map bB) (cj G) (by rw[Qi,Qi];unfold ao;lia);have a2:=nE ((vS R.length Q U).map bB) (cj B) (by rw[Qi,Qi];unfold ao;lia);simp only[sd,wf,zB,zt,zr,zE,zm,zl,aH,zp,a1,a2,e,O,Wz,a7,yS,zo,zQ];have a3:=nE (cj G) (cj B) (by rw[Qi,Qi];unfold ao;lia);rw[xr,zt,wN];simp only[zr,zE,zm,zl,aH,zp,a3];rw[show cj G++cj B=(G++B).map λr=>bB (xc r)from Wb.symm,wO (by simp;unfold ao;lia)];simp only[];rw[yM (λr=>bB (xc r)) (λ_=>Dat.bl true) (G++B) [] (λ_ _=>rfl) (λr hr=>?_) (by simp;unfold ao;lia)]
 .rw[QS,aH,aH,zp,IN];exact⟨_,rfl⟩
 .have g:4<=(xc r).length/\(xc r).length<=1000/\((xc r).map cC).sum=0:=by
   rcases Qs.mp hr with z|z
   .exact I.good A z
   .exact b.good A z
  exact Lm 7 g
def pure(A:T6)(_:A.length<=63):∃m,xF (D.map (·.fn)) 9 34 [.rol (A.map Wd.int)] []=.ok (.bl true) m:=Fv ql T 9 34 A (Hr A)
end R45
namespace Mini
open PySem PySem.Spec PyProof.Rows L2
def Cf {run:Value->R6->Sem Value}{K:Mx->Qb}(e:∀P,as=(K P).map (·.1))(h:Ub q loose XP (λw h=>(K w.params).In h) r d I run):PySem.W.WalkX q loose XP (PySem.W.X.obsZ as) (PySem.W.X.valZ K n t) r d I run:=
 λw A B M N G y a o pm O doc Q kV U Y j k u z E H J L p c l g f=>h w A B M N G (PySem.W.InK.keeps (K:=K) w _ _ (PySem.W.X.z_facts e y).2.1 L.keeps) a o pm O doc Q kV U Y j k u z E H J p c l g f
end Mini
namespace R45
open PySem L2 Mini PySem.W
def Lj (X:(K P).In h)(G:h.Ns ME A)(g:nsIn (K P) ME d.nm=some (some (.ref a)))(l:(K P).lookup a=some (fO d.on d.st m c))(k:codeIn (K P) (.ref c) d.on=true):gD (K P) A d:=
 dk X G g l k (by show(match (K P).lookup a with|some ⟨_,_,.func _,_⟩=>true|some ⟨_,_,.cls _,_⟩=>_|_=>false)=true;rw[l];rfl)
def Li (X:(K P).In h)(G:h.Ns ME A){l:List (bK×Addr×Addr×Value)}(e:l.map (λx=>(nsIn (K P) ME x.1.nm,(K P).lookup x.2.1,codeIn (K P) (.ref x.2.2.1) x.1.on))=l.map λx=>(some (some (.ref x.2.1)),some (fO x.1.on x.1.st x.2.2.2 x.2.2.1),true)):∀d∈l.map (·.1),gD (K P) A d:=λd B=>by
 obtain⟨x,E,rfl⟩:=QP.mp B;have q:=List.map_inj_left.mp e x E;exact Lj X G (OE (·.1) q) (OE (·.2.1) q) (OE (·.2.2) q)
noncomputable def lD:List (bK×Addr×Addr×Value):=[(d0,46,45,m0),(d1,53,52,m1),(d2,60,59,m1),(d3,67,66,m1),(d4,74,73,m1),(d5,79,78,m2),(d6,86,85,m3),(d7,91,90,m3),(d8,96,95,m3),(d9,103,102,m4),(BZ,108,107,m4),(BY,113,112,m4),(BX,120,119,m4),(BW,132,131,m5),(BV,137,136,m5),(BU,144,143,m5),(BS,151,150,m5),(BR,158,157,m5),(BQ,165,164,m5),(BP,172,171,m5),(BO,179,178,m5),(BN,184,183,m5),(BM,191,190,m5),(BL,198,197,m5),(BK,205,204,m5),(BJ,212,211,m5),(BI,219,218,m5),(BH,226,225,m5),(BG,233,232,m6),(BF,240,239,m6),(BE,247,246,m6),(BD,252,251,m6),(BC,257,256,m6),(BB,262,261,m6),(oU,267,266,m6)]
section
variable(P:Mx)
def zb:∀A∈zO,nsIn (K P) ME A=some none:=(List.map_inj_left (g:=λ_=>some none)).1 (by kernel_rfl)
end
end R45
open PySem PySem.W PyProof.Rows
set_option maxRecDepth 100000 in
theorem PySem.Challenge.cw_loopgyre_k45_each_place_once_holds : PySem.Challenge.rw_loopgyre_k45_each_place_once.Holds := by
 w_on;o_law
 refine holds_openX (q:=R45.qv) (loose:=R45.em) (Xt:=R45.Xt) (XP:=XL R45.qv []) (Yf:=X.obsZ R45.as) (Ya:=X.valZ R45.K 268 545) (N:=3354) R45.hl (λs e=>xl_of s (Wh.mp e).1) XL.keeps (by rfl) (by rfl) (by rfl) (λs e=>recFacts_of (Wh.mp e).2) (by rfl) (by assumption) (by decide +kernel) ⟨rfl,rfl,rfl,rfl,rfl,by decide +kernel⟩ ?hw ?hc
 case hw=>w_witness2
 refine Mini.Cf (K:=R45.K) (λ_=>rfl) ?_;refine Mini.CH (l:=PySem.Challenge.rw_loopgyre_k45_each_place_once) (D:=R45.D) (C:=R45.C) (k:=9) (i:=34) (dl:=R45.oU) (x:="_law_script") (n:=63) rfl (by decide) rfl ⟨rfl,by decide,by decide⟩ (λw h Y=>Y) rfl R45.Cg R45.B4 rfl rfl rfl ?F R45.pure
 case F=>
  intro w E H h A G B;exact R45.mk A G (t0:=334) (t1:=336) (R45.Li A G (l:=R45.lD) (by kernel_rfl)) (by kernel_rfl) (by kernel_rfl) (sa0:=121) (by kernel_rfl) (Mini.Ll (a:=121) (b1:=122) (b2:=123) (b3:=124) (b4:=125) (t1:=338) (t2:=342) (t3:=345) (t4:=348) (ep:=4) (r1:=340) (z1:=341) (n1:=0) (o1:=none) (l1:=#[]) (r2:=343) (z2:=344) (n2:=0) (o2:=none) (l2:=#[]) (r3:=346) (z3:=347) (n3:=0) (o3:=none) (l3:=#[]) (r4:=349) (z4:=351) (n4:=0) (o4:=none) (l4:=#[]) (e1:=PyData.keyHash w.params ⟨⟨[85]⟩⟩) (e2:=PyData.keyHash w.params ⟨⟨[82]⟩⟩) (e3:=PyData.keyHash w.params ⟨⟨[68]⟩⟩) (e4:=PyData.keyHash w.params ⟨⟨[76]⟩⟩) rfl (by kernel_rfl) (by kernel_rfl) (by kernel_rfl) (by kernel_rfl) (by kernel_rfl) rfl rfl rfl rfl) (R45.zb w.params)
