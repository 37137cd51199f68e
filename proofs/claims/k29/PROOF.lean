import PyProof.Rows.All
import Wide.All
import OpenK.AllK
import Wide.FinOn
import Lean
import PyProof.EqAt
import PyProof.EqKinds
import PyProof.NeKinds
import PyProof.TupleCall
import OpenK.KOwn
import PyProof.WalkInts
import KE.KIsAll
import KE.RegKIsAll
import PyProof.ExcAttrAll.ValueError
import OpenK.KMake
import PyProof.ExcInit
import PySem.Challenge.RW_loopgyre_k29_whole_five_forms
set_option Elab.async false
set_option linter.all false
set_option maxRecDepth 100000
set_option genSizeOf false
set_option maxHeartbeats 0
set_option tactic.hygienic false
set_option bootstrap.genMatcherCode false
set_option compiler.extract_closed false
set_option backward.eqns.nonrecursive false
set_option backward.eqns.deepRecursiveSplit false
noncomputable section
namespace L2
open PySem PySem.Spec PyProof.Rows
noncomputable def x9 (s:Stmt):Arguments:=match s with
 | .FunctionDef _ a _ _ _ _ _ _ _ _=>a
 | _=>{ posonlyargs:=[],args:=[],vararg:=none,kwonlyargs:=[],kw_defaults:=[],kwarg:=none,defaults:=[] }
noncomputable def xx (s:Stmt):List Stmt:=match s with
 | .FunctionDef _ _ b _ _ _ _ _ _ _=>b
 | _=>[]
noncomputable def yr (s:Stmt):Scope:=match s with
 | .FunctionDef _ _ _ _ _ _ sc _ _ _=>sc
 | _=>{ kind:=.function,names:=[],isGenerator:=false,isCoroutine:=false }
end L2
namespace R29
open PySem L2 PySem.W
noncomputable def top (i:Nat):Stmt:=PySem.Challenge.pw_loopgyre_k29_whole_five_forms.main.body.getD i (.Pass ⟨0,0,0,0⟩)
noncomputable def ge (P:Params)(s:Str)(t:Tok)(v:Value):DictEntry:=⟨PyData.keyHash P s,.str s t,v⟩
noncomputable def cO (s:Str)(t l n f a q b c d e u v:Nat):Obj:=⟨.type "code",none,.fields #[.str s t,.str s (t+1),.str "/claim/cut.py" (t+2),.int l 0,.int n 0,.int 0 0,.int 0 0,.int f 0,.ref a,.bool true,.int q 0,.ref b,.none,.ref c,.ref d,.ref e,.int u 0,.int l 0,.str "/claim/cut.py" v],#[]⟩
noncomputable def fO (n:Str)(d:Stmt)(m:Value)(c:Addr):Obj:=⟨.type "function",none,.func (fnOf n n (x9 d) (xx d) (yr d) .none .none .none m none (.ref c) .none),#[]⟩
noncomputable def K (P:Params):Frag:=[(3,⟨.type "dict",none,.dict #[ge P "__name__" 165 (.str "law_loopgyre_k29_whole_five_forms" 560),ge P "__doc__" 166 .none,ge P "__package__" 167 .none,ge P "__loader__" 168 (.builtin "__main__.__loader__#opaque"),ge P "__spec__" 169 .none,ge P "__annotations__" 170 (.ref 6),ge P "__builtins__" 171 (.ref 4),ge P "__file__" 173 (.str "/claim/cut.py" 172),ge P "__cached__" 174 .none,ge P "GyreError" 206 (.ref 24),ge P "NoState" 231 (.ref 44),ge P "GREATEST_SIZE" 235 (.int 12 234),ge P "is_whole" 242 (.ref 53),ge P "is_size_to" 250 (.ref 60),ge P "is_size" 257 (.ref 67),ge P "is_number_row" 263 (.ref 72),ge P "is_row_below" 269 (.ref 77),ge P "is_number_grid" 275 (.ref 82),ge P "are_among" 281 (.ref 87),ge P "is_grid_of" 287 (.ref 92),ge P "column_sums" 295 (.ref 97),ge P "filled_columns" 303 (.ref 102),ge P "triangle_of" 309 (.ref 107),ge P "is_column_triangle" 315 (.ref 112),ge P "is_faulty_spot" 326 (.ref 119),ge P "first_faulty_spot" 335 (.ref 126),ge P "column_marks" 341 (.ref 131),ge P "signs_of_rows" 347 (.ref 136),ge P "state_of_triangle" 355 (.ref 143),ge P "across_row" 367 (.ref 150),ge P "down_row" 373 (.ref 155),ge P "arrows_of" 379 (.ref 160),ge P "is_side_pair" 389 (.ref 167),ge P "is_faulty_place" 404 (.ref 174),ge P "first_faulty_place" 414 (.ref 181),ge P "signs_of_row" 420 (.ref 243),ge P "signs_of_row_arrows" 421 (.ref 186),ge P "state_of_arrows" 427 (.ref 191),ge P "height_row" 439 (.ref 198),ge P "heights_of" 445 (.ref 203),ge P "is_height_table" 452 (.ref 210),ge P "rim_height" 461 (.ref 217),ge P "is_faulty_point" 472 (.ref 224),ge P "first_faulty_point" 481 (.ref 231),ge P "sign_amid" 490 (.ref 238),ge P "signs_of_row_heights" 497 (.ref 243),ge P "signs_of_heights" 503 (.ref 248),ge P "state_of_heights" 511 (.ref 255),ge P "is_odd" 520 (.ref 262),ge P "walked_row" 526 (.ref 267),ge P "arrow_row" 532 (.ref 272),ge P "walked_grid" 538 (.ref 277),ge P "arrow_grid" 544 (.ref 282),ge P "sides_of" 552 (.ref 289),ge P "state_of_sides" 559 (.ref 296),ge P "_law_cell_at" 569 (.ref 303),ge P "_law_numbers" 581 (.ref 310),ge P "_law_size_by" 588 (.ref 317),ge P "_law_triangle_by" 602 (.ref 324),ge P "_law_state_by" 608 (.ref 329),ge P "_law_arrows_by" 614 (.ref 334),ge P "_law_sides_by" 620 (.ref 339),ge P "_law_heights_by" 626 (.ref 344),ge P "_law_form" 634 (.ref 351),ge P "_law_back" 642 (.ref 358),ge P "law" 648 (.ref 363)] 66,#[]⟩),(52,cO "is_whole" 236 10 1 3 47 181 48 49 50 51 240 241),(53,fO "is_whole" (top 5) (.str "loopgyre.kinds" 232) 52),(59,cO "is_size_to" 243 12 2 3 54 181 55 56 57 58 248 249),(60,fO "is_size_to" (top 6) (.str "loopgyre.kinds" 232) 59),(66,cO "is_size" 251 14 1 3 61 181 62 63 64 65 255 256),(67,fO "is_size" (top 7) (.str "loopgyre.kinds" 232) 66),(71,⟨.type "code",none,.fields #[(.str "is_number_row" 258),(.str "is_number_row" 259),(.str "/claim/cut.py" 260),(.int 16 0),(.int 2 0),(.int 0 0),(.int 0 0),(.int 3 0),(.ref 68),(.bool true),(.int 181 0),(.ref 69),.none,.none,.none,(.ref 70),(.int 261 0),(.int 16 0),(.str "/claim/cut.py" 262)],#[]⟩),(72,fO "is_number_row" (top 8) (.str "loopgyre.kinds" 232) 71),(76,⟨.type "code",none,.fields #[(.str "is_row_below" 264),(.str "is_row_below" 265),(.str "/claim/cut.py" 266),(.int 18 0),(.int 3 0),(.int 0 0),(.int 0 0),(.int 3 0),(.ref 73),(.bool true),(.int 181 0),(.ref 74),.none,.none,.none,(.ref 75),(.int 267 0),(.int 18 0),(.str "/claim/cut.py" 268)],#[]⟩),(77,fO "is_row_below" (top 9) (.str "loopgyre.kinds" 232) 76),(81,⟨.type "code",none,.fields #[(.str "is_number_grid" 270),(.str "is_number_grid" 271),(.str "/claim/cut.py" 272),(.int 20 0),(.int 3 0),(.int 0 0),(.int 0 0),(.int 3 0),(.ref 78),(.bool true),(.int 181 0),(.ref 79),.none,.none,.none,(.ref 80),(.int 273 0),(.int 20 0),(.str "/claim/cut.py" 274)],#[]⟩),(82,fO "is_number_grid" (top 10) (.str "loopgyre.kinds" 232) 81),(86,⟨.type "code",none,.fields #[(.str "are_among" 276),(.str "are_among" 277),(.str "/claim/cut.py" 278),(.int 24 0),(.int 2 0),(.int 0 0),(.int 0 0),(.int 3 0),(.ref 83),(.bool true),(.int 181 0),(.ref 84),.none,.none,.none,(.ref 85),(.int 279 0),(.int 24 0),(.str "/claim/cut.py" 280)],#[]⟩),(87,fO "are_among" (top 11) (.str "loopgyre.kinds" 232) 86),(91,⟨.type "code",none,.fields #[(.str "is_grid_of" 282),(.str "is_grid_of" 283),(.str "/claim/cut.py" 284),(.int 26 0),(.int 4 0),(.int 0 0),(.int 0 0),(.int 3 0),(.ref 88),(.bool true),(.int 181 0),(.ref 89),.none,.none,.none,(.ref 90),(.int 285 0),(.int 26 0),(.str "/claim/cut.py" 286)],#[]⟩),(92,fO "is_grid_of" (top 12) (.str "loopgyre.kinds" 232) 91),(96,⟨.type "code",none,.fields #[(.str "column_sums" 290),(.str "column_sums" 291),(.str "/claim/cut.py" 292),(.int 29 0),(.int 1 0),(.int 0 0),(.int 0 0),(.int 3 0),(.ref 93),(.bool true),(.int 181 0),(.ref 94),.none,.none,.none,(.ref 95),(.int 293 0),(.int 29 0),(.str "/claim/cut.py" 294)],#[]⟩),(97,fO "column_sums" (top 14) (.str "loopgyre.signs" 288) 96),(101,⟨.type "code",none,.fields #[(.str "filled_columns" 298),(.str "filled_columns" 299),(.str "/claim/cut.py" 300),(.int 37 0),(.int 1 0),(.int 0 0),(.int 0 0),(.int 3 0),(.ref 98),(.bool true),(.int 181 0),(.ref 99),.none,.none,.none,(.ref 100),(.int 301 0),(.int 37 0),(.str "/claim/cut.py" 302)],#[]⟩),(102,fO "filled_columns" (top 16) (.str "loopgyre.triangles" 296) 101),(106,⟨.type "code",none,.fields #[(.str "triangle_of" 304),(.str "triangle_of" 305),(.str "/claim/cut.py" 306),(.int 39 0),(.int 1 0),(.int 0 0),(.int 0 0),(.int 3 0),(.ref 103),(.bool true),(.int 181 0),(.ref 104),.none,.none,.none,(.ref 105),(.int 307 0),(.int 39 0),(.str "/claim/cut.py" 308)],#[]⟩),(107,fO "triangle_of" (top 17) (.str "loopgyre.triangles" 296) 106),(111,⟨.type "code",none,.fields #[(.str "is_column_triangle" 310),(.str "is_column_triangle" 311),(.str "/claim/cut.py" 312),(.int 41 0),(.int 1 0),(.int 0 0),(.int 0 0),(.int 3 0),(.ref 108),(.bool true),(.int 181 0),(.ref 109),.none,.none,.none,(.ref 110),(.int 313 0),(.int 41 0),(.str "/claim/cut.py" 314)],#[]⟩),(112,fO "is_column_triangle" (top 18) (.str "loopgyre.triangles" 296) 111),(118,cO "is_faulty_spot" 316 45 3 3 113 181 114 115 116 117 324 325),(119,fO "is_faulty_spot" (top 19) (.str "loopgyre.triangles" 296) 118),(125,cO "first_faulty_spot" 327 53 1 3 120 181 121 122 123 124 333 334),(126,fO "first_faulty_spot" (top 20) (.str "loopgyre.triangles" 296) 125),(130,⟨.type "code",none,.fields #[(.str "column_marks" 336),(.str "column_marks" 337),(.str "/claim/cut.py" 338),(.int 59 0),(.int 2 0),(.int 0 0),(.int 0 0),(.int 3 0),(.ref 127),(.bool true),(.int 181 0),(.ref 128),.none,.none,.none,(.ref 129),(.int 339 0),(.int 59 0),(.str "/claim/cut.py" 340)],#[]⟩),(131,fO "column_marks" (top 21) (.str "loopgyre.triangles" 296) 130),(135,⟨.type "code",none,.fields #[(.str "signs_of_rows" 342),(.str "signs_of_rows" 343),(.str "/claim/cut.py" 344),(.int 61 0),(.int 1 0),(.int 0 0),(.int 0 0),(.int 3 0),(.ref 132),(.bool true),(.int 181 0),(.ref 133),.none,.none,.none,(.ref 134),(.int 345 0),(.int 61 0),(.str "/claim/cut.py" 346)],#[]⟩),(136,fO "signs_of_rows" (top 22) (.str "loopgyre.triangles" 296) 135),(142,cO "state_of_triangle" 348 70 1 3 137 181 138 139 140 141 353 354),(143,fO "state_of_triangle" (top 23) (.str "loopgyre.triangles" 296) 142),(149,cO "across_row" 358 78 1 3 144 181 145 146 147 148 365 366),(150,fO "across_row" (top 25) (.str "loopgyre.arrows" 356) 149),(154,⟨.type "code",none,.fields #[(.str "down_row" 368),(.str "down_row" 369),(.str "/claim/cut.py" 370),(.int 85 0),(.int 1 0),(.int 0 0),(.int 0 0),(.int 3 0),(.ref 151),(.bool true),(.int 181 0),(.ref 152),.none,.none,.none,(.ref 153),(.int 371 0),(.int 85 0),(.str "/claim/cut.py" 372)],#[]⟩),(155,fO "down_row" (top 26) (.str "loopgyre.arrows" 356) 154),(159,⟨.type "code",none,.fields #[(.str "arrows_of" 374),(.str "arrows_of" 375),(.str "/claim/cut.py" 376),(.int 87 0),(.int 1 0),(.int 0 0),(.int 0 0),(.int 3 0),(.ref 156),(.bool true),(.int 181 0),(.ref 157),.none,.none,.none,(.ref 158),(.int 377 0),(.int 87 0),(.str "/claim/cut.py" 378)],#[]⟩),(160,fO "arrows_of" (top 27) (.str "loopgyre.arrows" 356) 159),(166,cO "is_side_pair" 380 91 2 3 161 181 162 163 164 165 387 388),(167,fO "is_side_pair" (top 28) (.str "loopgyre.arrows" 356) 166),(173,cO "is_faulty_place" 390 99 4 3 168 181 169 170 171 172 402 403),(174,fO "is_faulty_place" (top 29) (.str "loopgyre.arrows" 356) 173),(180,cO "first_faulty_place" 405 110 2 3 175 181 176 177 178 179 412 413),(181,fO "first_faulty_place" (top 30) (.str "loopgyre.arrows" 356) 180),(185,⟨.type "code",none,.fields #[(.str "signs_of_row" 415),(.str "signs_of_row" 416),(.str "/claim/cut.py" 417),(.int 116 0),(.int 1 0),(.int 0 0),(.int 0 0),(.int 3 0),(.ref 182),(.bool true),(.int 181 0),(.ref 183),.none,.none,.none,(.ref 184),(.int 418 0),(.int 116 0),(.str "/claim/cut.py" 419)],#[]⟩),(186,fO "signs_of_row" (top 31) (.str "loopgyre.arrows" 356) 185),(190,⟨.type "code",none,.fields #[(.str "state_of_arrows" 422),(.str "state_of_arrows" 423),(.str "/claim/cut.py" 424),(.int 119 0),(.int 1 0),(.int 0 0),(.int 0 0),(.int 3 0),(.ref 187),(.bool true),(.int 181 0),(.ref 188),.none,.none,.none,(.ref 189),(.int 425 0),(.int 119 0),(.str "/claim/cut.py" 426)],#[]⟩),(191,fO "state_of_arrows" (top 33) (.str "loopgyre.arrows" 356) 190),(197,cO "height_row" 430 127 2 3 192 181 193 194 195 196 437 438),(198,fO "height_row" (top 35) (.str "loopgyre.heights" 428) 197),(202,⟨.type "code",none,.fields #[(.str "heights_of" 440),(.str "heights_of" 441),(.str "/claim/cut.py" 442),(.int 132 0),(.int 1 0),(.int 0 0),(.int 0 0),(.int 3 0),(.ref 199),(.bool true),(.int 181 0),(.ref 200),.none,.none,.none,(.ref 201),(.int 443 0),(.int 132 0),(.str "/claim/cut.py" 444)],#[]⟩),(203,fO "heights_of" (top 36) (.str "loopgyre.heights" 428) 202),(209,cO "is_height_table" 446 134 1 3 204 181 205 206 207 208 450 451),(210,fO "is_height_table" (top 37) (.str "loopgyre.heights" 428) 209),(216,cO "rim_height" 453 138 3 3 211 181 212 213 214 215 459 460),(217,fO "rim_height" (top 38) (.str "loopgyre.heights" 428) 216),(223,cO "is_faulty_point" 462 144 3 3 218 181 219 220 221 222 470 471),(224,fO "is_faulty_point" (top 39) (.str "loopgyre.heights" 428) 223),(230,cO "first_faulty_point" 473 152 1 3 225 181 226 227 228 229 479 480),(231,fO "first_faulty_point" (top 40) (.str "loopgyre.heights" 428) 230),(237,cO "sign_amid" 482 158 3 3 232 181 233 234 235 236 488 489),(238,fO "sign_amid" (top 41) (.str "loopgyre.heights" 428) 237),(242,⟨.type "code",none,.fields #[(.str "signs_of_row" 491),(.str "signs_of_row" 492),(.str "/claim/cut.py" 493),(.int 160 0),(.int 2 0),(.int 0 0),(.int 0 0),(.int 3 0),(.ref 239),(.bool true),(.int 181 0),(.ref 240),.none,.none,.none,(.ref 241),(.int 494 0),(.int 160 0),(.str "/claim/cut.py" 495)],#[]⟩),(243,fO "signs_of_row" (top 42) (.str "loopgyre.heights" 428) 242),(247,⟨.type "code",none,.fields #[(.str "signs_of_heights" 498),(.str "signs_of_heights" 499),(.str "/claim/cut.py" 500),(.int 163 0),(.int 1 0),(.int 0 0),(.int 0 0),(.int 3 0),(.ref 244),(.bool true),(.int 181 0),(.ref 245),.none,.none,.none,(.ref 246),(.int 501 0),(.int 163 0),(.str "/claim/cut.py" 502)],#[]⟩),(248,fO "signs_of_heights" (top 44) (.str "loopgyre.heights" 428) 247),(254,cO "state_of_heights" 504 165 1 3 249 181 250 251 252 253 509 510),(255,fO "state_of_heights" (top 45) (.str "loopgyre.heights" 428) 254),(261,cO "is_odd" 514 173 1 3 256 181 257 258 259 260 518 519),(262,fO "is_odd" (top 47) (.str "loopgyre.sides" 512) 261),(266,⟨.type "code",none,.fields #[(.str "walked_row" 521),(.str "walked_row" 522),(.str "/claim/cut.py" 523),(.int 175 0),(.int 2 0),(.int 0 0),(.int 0 0),(.int 3 0),(.ref 263),(.bool true),(.int 181 0),(.ref 264),.none,.none,.none,(.ref 265),(.int 524 0),(.int 175 0),(.str "/claim/cut.py" 525)],#[]⟩),(267,fO "walked_row" (top 48) (.str "loopgyre.sides" 512) 266),(271,⟨.type "code",none,.fields #[(.str "arrow_row" 527),(.str "arrow_row" 528),(.str "/claim/cut.py" 529),(.int 177 0),(.int 2 0),(.int 0 0),(.int 0 0),(.int 3 0),(.ref 268),(.bool true),(.int 181 0),(.ref 269),.none,.none,.none,(.ref 270),(.int 530 0),(.int 177 0),(.str "/claim/cut.py" 531)],#[]⟩),(272,fO "arrow_row" (top 49) (.str "loopgyre.sides" 512) 271),(276,⟨.type "code",none,.fields #[(.str "walked_grid" 533),(.str "walked_grid" 534),(.str "/claim/cut.py" 535),(.int 179 0),(.int 1 0),(.int 0 0),(.int 0 0),(.int 3 0),(.ref 273),(.bool true),(.int 181 0),(.ref 274),.none,.none,.none,(.ref 275),(.int 536 0),(.int 179 0),(.str "/claim/cut.py" 537)],#[]⟩),(277,fO "walked_grid" (top 50) (.str "loopgyre.sides" 512) 276),(281,⟨.type "code",none,.fields #[(.str "arrow_grid" 539),(.str "arrow_grid" 540),(.str "/claim/cut.py" 541),(.int 181 0),(.int 1 0),(.int 0 0),(.int 0 0),(.int 3 0),(.ref 278),(.bool true),(.int 181 0),(.ref 279),.none,.none,.none,(.ref 280),(.int 542 0),(.int 181 0),(.str "/claim/cut.py" 543)],#[]⟩),(282,fO "arrow_grid" (top 51) (.str "loopgyre.sides" 512) 281),(288,cO "sides_of" 545 183 1 3 283 181 284 285 286 287 550 551),(289,fO "sides_of" (top 52) (.str "loopgyre.sides" 512) 288),(295,cO "state_of_sides" 553 186 1 3 290 181 291 292 293 294 557 558),(296,fO "state_of_sides" (top 53) (.str "loopgyre.sides" 512) 295),(302,cO "_law_cell_at" 562 191 2 3 297 181 298 299 300 301 567 568),(303,fO "_law_cell_at" (top 55) (.str "law_loopgyre_k29_whole_five_forms" 560) 302),(309,cO "_law_numbers" 570 195 2 3 304 181 305 306 307 308 579 580),(310,fO "_law_numbers" (top 56) (.str "law_loopgyre_k29_whole_five_forms" 560) 309),(316,cO "_law_size_by" 582 206 1 3 311 181 312 313 314 315 586 587),(317,fO "_law_size_by" (top 57) (.str "law_loopgyre_k29_whole_five_forms" 560) 316),(323,cO "_law_triangle_by" 589 210 2 3 318 181 319 320 321 322 600 601),(324,fO "_law_triangle_by" (top 58) (.str "law_loopgyre_k29_whole_five_forms" 560) 323),(328,⟨.type "code",none,.fields #[(.str "_law_state_by" 603),(.str "_law_state_by" 604),(.str "/claim/cut.py" 605),(.int 223 0),(.int 1 0),(.int 0 0),(.int 0 0),(.int 3 0),(.ref 325),(.bool true),(.int 181 0),(.ref 326),.none,.none,.none,(.ref 327),(.int 606 0),(.int 223 0),(.str "/claim/cut.py" 607)],#[]⟩),(329,fO "_law_state_by" (top 59) (.str "law_loopgyre_k29_whole_five_forms" 560) 328),(333,⟨.type "code",none,.fields #[(.str "_law_arrows_by" 609),(.str "_law_arrows_by" 610),(.str "/claim/cut.py" 611),(.int 231 0),(.int 1 0),(.int 0 0),(.int 0 0),(.int 3 0),(.ref 330),(.bool true),(.int 181 0),(.ref 331),.none,.none,.none,(.ref 332),(.int 612 0),(.int 231 0),(.str "/claim/cut.py" 613)],#[]⟩),(334,fO "_law_arrows_by" (top 60) (.str "law_loopgyre_k29_whole_five_forms" 560) 333),(338,⟨.type "code",none,.fields #[(.str "_law_sides_by" 615),(.str "_law_sides_by" 616),(.str "/claim/cut.py" 617),(.int 238 0),(.int 1 0),(.int 0 0),(.int 0 0),(.int 3 0),(.ref 335),(.bool true),(.int 181 0),(.ref 336),.none,.none,.none,(.ref 337),(.int 618 0),(.int 238 0),(.str "/claim/cut.py" 619)],#[]⟩),(339,fO "_law_sides_by" (top 61) (.str "law_loopgyre_k29_whole_five_forms" 560) 338),(343,⟨.type "code",none,.fields #[(.str "_law_heights_by" 621),(.str "_law_heights_by" 622),(.str "/claim/cut.py" 623),(.int 248 0),(.int 1 0),(.int 0 0),(.int 0 0),(.int 3 0),(.ref 340),(.bool true),(.int 181 0),(.ref 341),.none,.none,.none,(.ref 342),(.int 624 0),(.int 248 0),(.str "/claim/cut.py" 625)],#[]⟩),(344,fO "_law_heights_by" (top 62) (.str "law_loopgyre_k29_whole_five_forms" 560) 343),(350,cO "_law_form" 627 254 2 3 345 181 346 347 348 349 632 633),(351,fO "_law_form" (top 63) (.str "law_loopgyre_k29_whole_five_forms" 560) 350),(357,cO "_law_back" 635 262 2 3 352 181 353 354 355 356 640 641),(358,fO "_law_back" (top 64) (.str "law_loopgyre_k29_whole_five_forms" 560) 357),(362,⟨.type "code",none,.fields #[(.str "law" 643),(.str "law" 644),(.str "/claim/cut.py" 645),(.int 270 0),(.int 1 0),(.int 0 0),(.int 0 0),(.int 3 0),(.ref 359),(.bool true),(.int 181 0),(.ref 360),.none,.none,.none,(.ref 361),(.int 646 0),(.int 270 0),(.str "/claim/cut.py" 647)],#[]⟩),(363,fO "law" (top 65) (.str "law_loopgyre_k29_whole_five_forms" 560) 362)]
noncomputable def as:List Addr:=[3,52,53,59,60,66,67,71,72,76,77,81,82,86,87,91,92,96,97,101,102,106,107,111,112,118,119,125,126,130,131,135,136,142,143,149,150,154,155,159,160,166,167,173,174,180,181,185,186,190,191,197,198,202,203,209,210,216,217,223,224,230,231,237,238,242,243,247,248,254,255,261,262,266,267,271,272,276,277,281,282,288,289,295,296,302,303,309,310,316,317,323,324,328,329,333,334,338,339,343,344,350,351,357,358,362,363]
noncomputable def qv:Program:={ PySem.Challenge.pw_loopgyre_k29_whole_five_forms with main:={ PySem.Challenge.pw_loopgyre_k29_whole_five_forms.main with body:=[1,2,4,5,6,7,8,9,10,11,12,14,16,17,18,19,20,21,22,23,25,26,27,28,29,30,32,33,35,36,37,38,39,40,41,42,43,44,45,47,48,49,50,51,52,53,55,56,57,58,59,60,61,62,63,64,65].map top } }
noncomputable def loo:List Str:=["signs_of_row_arrows", "signs_of_row_heights"]
noncomputable def Xt (s:Shared):Bool:=xlAt qv [] s && recOk (RowW.records PySem.Challenge.rw_loopgyre_k29_whole_five_forms.row.toRowW) s
theorem hA (w:World):(openEnds treeTable PySem.Challenge.pw_loopgyre_k29_whole_five_forms w 4212).map (λs=>openSeen qv loo (importedModules PySem.Challenge.pw_loopgyre_k29_whole_five_forms.main.body) Xt true s)=some (openGood qv loo):=by kernel_rfl
theorem hB (w:World):(openEnds treeTable PySem.Challenge.pw_loopgyre_k29_whole_five_forms w 4212).map (λs=>X.obsZ as s)=some (X.valZ K 364 649 w):=by kernel_rfl
theorem hl:LeftO PySem.Challenge.pw_loopgyre_k29_whole_five_forms qv loo Xt (X.obsZ as) (X.valZ K 364 649) 4212:=λw=>by
 have a:=hA w;have b:=hB w
 show (openEnds treeTable PySem.Challenge.pw_loopgyre_k29_whole_five_forms w 4212).map _=_
 revert a b;generalize openEnds treeTable PySem.Challenge.pw_loopgyre_k29_whole_five_forms w 4212=o
 cases o with
 | none=>intro a;cases a
 | some s=>intro a b;simp only[Option.map_some,Option.some.injEq] at a b ⊢;rw[a,b]
end R29
namespace L2
open PySem PySem.Spec PyProof.Rows
abbrev Key:=Sum Int Str
noncomputable def zfI:Key->Value->Bool
 | .inl k,v=>Value.isInt k v
 | .inr x,v=>Value.isStrOf x v
noncomputable def keyH (w:World):Key->Int
 | .inl k=>hashInt k
 | .inr x=>hashStr w x
theorem yq:∀ {k:Key}{v:Value},zfI k v=true->(∃i t,k=Sum.inl i/\v=Value.int i t)\/(∃x t,k=Sum.inr x/\v=Value.str x t)
 | .inl i,v,h=>by
  obtain ⟨t,e⟩:=Value.isInt_shape (k:=i) (v:=v) h;exact .inl ⟨i,t,rfl,e⟩
 | .inr x,v,h=>by
  obtain ⟨t,e⟩:=Value.isStrOf_shape (x:=x) (v:=v) h;exact .inr ⟨x,t,rfl,e⟩
theorem zf2 (a b:Int):decide ((Sum.inl a:Key)=Sum.inl b)=(a == b):=by
 by_cases e:a=b
 .subst e;simp
 .have h:¬(Sum.inl a:Key)=Sum.inl b:=λq=>e (Sum.inl.inj q);rw[decide_eq_false h];exact (beq_eq_false_iff_ne.mpr e).symm
theorem zf3 (a b:Str):decide ((Sum.inr a:Key)=Sum.inr b)=decide (a=b):=by
 by_cases e:a=b
 .subst e;simp
 .have h:¬(Sum.inr a:Key)=Sum.inr b:=λq=>e (Sum.inr.inj q);rw[decide_eq_false h,decide_eq_false e]
theorem zf4 (a:Int)(b:Str):decide ((Sum.inl a:Key)=Sum.inr b)=false:=decide_eq_false (λq=>nomatch q)
theorem zf5 (a:Str)(b:Int):decide ((Sum.inr a:Key)=Sum.inl b)=false:=decide_eq_false (λq=>nomatch q)
noncomputable def zap (prog:Program)(w:World):PySem.KeyKind prog w Key where
 is:=zfI
 hash:=keyH w
 inj:=λv a b ha hb=>by
  rcases yq ha with ⟨i,t,rfl,rfl⟩ | ⟨x,t,rfl,rfl⟩
  .rcases yq hb with ⟨j,u,rfl,e⟩ | ⟨y,u,rfl,e⟩
   .injection e with e1 _;rw[e1]
   .exact nomatch e
  .rcases yq hb with ⟨j,u,rfl,e⟩ | ⟨y,u,rfl,e⟩
   .exact nomatch e
   .injection e with e1 _;rw[e1]
 byValue:=λk v h=>by
  rcases yq h with ⟨i,t,rfl,rfl⟩ | ⟨x,t,rfl,rfl⟩ <;> rfl
 pyHash:=λhv h=>by
  rcases yq hv with ⟨i,t,rfl,rfl⟩ | ⟨x,t,rfl,rfl⟩
  .exact wpAny_pyHash_int h
  .exact wpAny_pyHash_str h
 eqBool:=λhu hv h=>by
  rcases yq hu with ⟨i,t,rfl,rfl⟩ | ⟨x,t,rfl,rfl⟩
  .rcases yq hv with ⟨j,u,rfl,rfl⟩ | ⟨y,u,rfl,rfl⟩
   .rw[zf2] at h;exact wpAny_eqBool_int h
   .rw[zf4] at h;exact SeqAt.EqAt.int_str i t y u _ _ _ _ h
  .rcases yq hv with ⟨j,u,rfl,rfl⟩ | ⟨y,u,rfl,rfl⟩
   .rw[zf5] at h;exact SeqAt.EqAt.str_int x t j u _ _ _ _ h
   .rw[zf3] at h;exact wpAny_eqBool_str h
 «strs»:=λk x t v h=>by
  rcases yq h with ⟨i,u,rfl,e⟩ | ⟨y,u,rfl,e⟩
  .exact nomatch e
  .injection e with e1 _
   subst e1;cases v <;> rfl
set_option genInjectivity false in
inductive V where
 | non | bl (b:Bool) | int (i:Int) | str (x:Str) | byt (b:Array UInt8) | flt (b:UInt64) | ref (a:Addr) | ty (n:String)
 deriving DecidableEq
def RelV:V->Value->Prop
 | .non,u=>u=Value.none
 | .bl b,u=>u=Value.bool b
 | .int i,u=>∃t,u=Value.int i t
 | .str x,u=>∃t,u=Value.str x t
 | .byt b,u=>∃t,u=Value.bytes b t
 | .flt b,u=>∃t,u=Value.float b t
 | .ref a,u=>u=Value.ref a
 | .ty n,u=>u=Value.type n
abbrev Vals:List V->List Value->Prop:=Paired RelV
theorem Vals.length {xs:List V}{us:List Value}(r:Vals xs us):xs.length=us.length:=Paired.length r
theorem Vals.get:∀ {xs:List V}{us:List Value}{i:Nat}{x:V},Vals xs us->xs[i]?=some x->∃u,us[i]?=some u/\RelV x u
 | _,_,_,_,.nil,e=>by simp at e
 | _,_,0,_,.cons r _,e=>by simp at e;subst e;exact ⟨_,rfl,r⟩
 | _,_,i+1,x,.cons _ t,e=>by
  obtain ⟨u,h1,h2⟩:=Vals.get (i:=i) (x:=x) t (by simpa using e);exact ⟨u,by simpa using h1,h2⟩
theorem Vals.append:∀ {xs ys:List V}{us ws:List Value},Vals xs us->Vals ys ws->Vals (xs++ys) (us++ws)
 | _,_,_,_,.nil,s=>s
 | _,_,_,_,.cons r t,s=>.cons r (Vals.append t s)
theorem Vals.take:∀ {xs:List V}{us:List Value}(n:Nat),Vals xs us->Vals (xs.take n) (us.take n)
 | _,_,0,_=>.nil
 | _,_,_+1,.nil=>.nil
 | _,_,n+1,.cons r t=>.cons r (Vals.take n t)
theorem Vals.drop:∀ {xs:List V}{us:List Value}(n:Nat),Vals xs us->Vals (xs.drop n) (us.drop n)
 | _,_,0,r=>r
 | _,_,_+1,.nil=>.nil
 | _,_,n+1,.cons _ t=>Vals.drop n t
def zf6:Option V->Option Value->Prop
 | some v,some u=>RelV v u
 | none,none=>True
 | _,_=>False
def KV {κ:Type}:List (κ×V)->List (κ×Value)->Prop:=Paired λ(p:κ×V) (q:κ×Value)=>p.1=q.1/\RelV p.2 q.2
noncomputable def kV:Key->V
 | .inl i=>.int i
 | .inr x=>.str x
set_option genInjectivity false in
inductive HO where
 /-- a list -/
 | lst (xs:List V)
 /-- a tuple (never changes) -/
 | tup (xs:List V)
 /-- a dict whose keys are ints and texts;one whose keys are tuples of ints and texts (the empty one is both) -/
 | dK (kvs:List (Key×V)) | dT (kvs:List (List Key×V))
 /-- a set of ints: its members,its size -/
 | set (S:Int->Bool) (n:Nat)
 /-- an instance of the class at C,its dict at dx,its attributes -/
 | ins (C dx:Addr) (fs:List (Str×V))
 /-- the dict of the instance at x -/
 | own (x:Addr)
 /-- the dict of an exception -/
 | xd (fs:List (Str×V))
 /-- a bound method,f of x -/
 | met (f x:Addr)
 /-- a range object lo,lo+1,.. below hi -/
 | rng (lo hi:Int)
 /-- a thing that is known to the object (the script;a dict while a loop walks it): read,never written while it is so -/
 | frz (o:Obj) (u:HO)
 /-- a code object's table -/
 | tbl (ps:Array Value)
 /-- any other thing,by what is true of its one object (a def of one's own: SetO a S n:=HO.ext λh=>..) -/
 | ext (φ:Heap->Prop)
abbrev Hp:=Addr->Option HO
noncomputable def upd (H:Hp)(a:Addr)(o:HO):Hp:=λb=>if b=a then some o else H b
theorem zp {H:Hp}{a:Addr}{o:HO}:upd H a o a=some o:=by unfold upd;rw[if_pos rfl]
theorem zn {H:Hp}{a b:Addr}{o:HO}(h:b≠a):upd H a o b=H b:=by unfold upd;rw[if_neg h]
theorem zU {H:Hp}{a b:Addr}{o:HO}(h:H a=some o)(h':H b=none):a≠b:=by
 intro e;subst e;rw[h] at h';cases h'
section
variable (P:Program)(w:World)
def ObjOk (H:Hp)(h:Heap)(a:Addr):HO->Prop
 | .lst xs=>xs.length<=sizeLine/\∃ (its:List Value) (n:Nat),Vals xs its/\h.get? a=some { cls:=.type "list",data:=.seq its.toArray n }
 | .tup xs=>xs.length<=sizeLine/\∃its:List Value,Vals xs its/\IsTup h a its.toArray
 | .dK kvs=>kvs.length<=sizeLine/\(a == sysModules)=false/\∃vs,KV kvs vs/\h.DictOf (zap P w) a vs
 | .dT kvs=>kvs.length<=sizeLine/\(a == sysModules)=false/\∃xs:List (List Key×Addr×Value),
   Paired (λ(p:List Key×V) (q:List Key×Addr×Value)=>p.1=q.1/\H q.2.1=some (.tup (p.1.map kV))/\RelV p.2 q.2.2) kvs xs /\
   ∃o es ep,h.get? a=some o/\o.ExactDict/\o.data=.dict es ep/\es.toList=xs.map (entryOfKey (tupleKind (zap P w)))/\(xs.map (·.1)).Nodup
 | .set S n=>h.SetOf (intKind P w) a S n
 | .ins C dx fs=>H dx=some (.own a)/\fs.length<=1000/\dx≠a/\h.get? a=some (PySem.W.instObj C dx) /\
   ∃mA,h.Ns1 dx mA/\(∀f,zf6 (fs.lookup f) (mA f))/\PySem.Within mA (fs.map (·.1))
 | .own _=>∃o,h.get? a=some o
 | .xd fs=>∃mA,h.Ns1 a mA/\∀f,zf6 (fs.lookup f) (mA f)
 | .rng lo hi=>∃t u v,h.get? a=some { cls:=.type "range",data:=.fields #[.int lo t,.int hi u,.int 1 v] }
 | .frz o u=>h.get? a=some o/\ObjOk H h a u
 | .tbl ps=>h.get? a=some { cls:=.none,data:=.fields ps }
 | .met f x=>h.get? a=some (PySem.W.methodObj (.ref f) (.ref x))
 | .ext φ=>φ h/\(∃o,h.get? a=some o)/\∀h1 h2:Heap,φ h1->(∀o,h1.get? a=some o->h2.get? a=some o)->φ h2
def HOk (H:Hp)(h:Heap):Prop:=∀a o,H a=some o->ObjOk P w H h a o
end
section
variable {P:Program}{w:World}{H H':Hp}{h h':Heap}{a:Addr}{o:HO}
theorem ObjOk.lt (x:ObjOk P w H h a o):a < h.objs.size:=by
 cases o with
 | lst xs=>obtain ⟨_,_,_,_,e⟩:=x;exact Heap.lt_size e
 | tup xs=>obtain ⟨_,_,_,p⟩:=x;exact p.lt
 | dK kvs=>obtain ⟨_,_,_,_,o,_,_,e,_⟩:=x;exact Heap.lt_size e
 | dT kvs=>obtain ⟨_,_,_,_,o,_,_,e,_⟩:=x;exact Heap.lt_size e
 | set S n=>obtain ⟨o,_,_,_,e,_⟩:=x;exact Heap.lt_size e
 | ins C dx fs=>obtain ⟨_,_,_,e,_⟩:=x;exact Heap.lt_size e
 | own y=>obtain ⟨_,e⟩:=x;exact Heap.lt_size e
 | xd fs=>obtain ⟨_,⟨_,_,_,e,_⟩,_⟩:=x;exact Heap.lt_size e
 | rng lo hi=>obtain ⟨_,_,_,e⟩:=x;exact Heap.lt_size e
 | frz ob u=>obtain ⟨e,_⟩:=x;exact Heap.lt_size e
 | tbl ps=>exact Heap.lt_size (show h.get? a=some _ from x)
 | met f y=>exact Heap.lt_size (show h.get? a=some _ from x)
 | ext φ=>obtain ⟨_,⟨_,e⟩,_⟩:=x;exact Heap.lt_size e
theorem zjX {α β:Type}{F G:α->β->Prop}:∀ {l₁:List α}{l₂:List β},Paired F l₁ l₂->(∀a b,F a b->G a b)->Paired G l₁ l₂
 | _,_,.nil,_=>.nil
 | _,_,.cons r t,f=>.cons (f _ _ r) (zjX t f)
theorem ObjOk.stay (x:ObjOk P w H h a o)(k:∀b u,(b=a\/H b=some (.own a))->h.get? b=some u->h'.get? b=some u)
  (ho:∀b,H b=some (.own a)->H' b=some (.own a)) (ht:∀b xs,H b=some (.tup xs)->H' b=some (.tup xs)):ObjOk P w H' h' a o:=by
 induction o with
 | lst xs=>obtain ⟨z,its,n,r,e⟩:=x;exact ⟨z,its,n,r,k _ _ (.inl rfl) e⟩
 | tup xs=>obtain ⟨z,its,r,ob,e,c⟩:=x;exact ⟨z,its,r,ob,k _ _ (.inl rfl) e,c⟩
 | dK kvs=>obtain ⟨z,y,vs,r,ob,es,ep,e,c⟩:=x;exact ⟨z,y,vs,r,ob,es,ep,k _ _ (.inl rfl) e,c⟩
 | dT kvs =>
  obtain ⟨z,y,xs,r,ob,es,ep,e,c⟩:=x;exact ⟨z,y,xs,zjX r λp q z=>⟨z.1,ht _ _ z.2.1,z.2.2⟩,ob,es,ep,k _ _ (.inl rfl) e,c⟩
 | set S n=>obtain ⟨ob,es,ep,t,e,c⟩:=x;exact ⟨ob,es,ep,t,k _ _ (.inl rfl) e,c⟩
 | ins C dx fs =>
  obtain ⟨d,z,ne,e,mA,⟨od,es,ep,e2,c⟩,r⟩:=x;exact ⟨ho _ d,z,ne,k _ _ (.inl rfl) e,mA,⟨od,es,ep,k _ _ (.inr d) e2,c⟩,r⟩
 | own y=>obtain ⟨ob,e⟩:=x;exact ⟨ob,k _ _ (.inl rfl) e⟩
 | xd fs=>obtain ⟨mA,⟨od,es,ep,e,c⟩,r⟩:=x;exact ⟨mA,⟨od,es,ep,k _ _ (.inl rfl) e,c⟩,r⟩
 | rng lo hi=>obtain ⟨t,u,v,e⟩:=x;exact ⟨t,u,v,k _ _ (.inl rfl) e⟩
 | frz ob u ih=>obtain ⟨e,q⟩:=x;exact ⟨k _ _ (.inl rfl) e,ih q⟩
 | tbl ps =>
  have e:h.get? a=some { cls:=.none,data:=.fields ps }:=x;show h'.get? a=some { cls:=.none,data:=.fields ps };exact k a _ (.inl rfl) e
 | met f y =>
  have e:h.get? a=some (PySem.W.methodObj (.ref f) (.ref y)):=x;show h'.get? a=some (PySem.W.methodObj (.ref f) (.ref y));exact k a _ (.inl rfl) e
 | ext φ=>obtain ⟨p,⟨o,e⟩,st⟩:=x;exact ⟨st _ _ p λo q=>k _ _ (.inl rfl) q,⟨o,k _ _ (.inl rfl) e⟩,st⟩
theorem HOk.lt (x:HOk P w H h)(e:H a=some o):a < h.objs.size:=(x a o e).lt
theorem HOk.fresh (x:HOk P w H h)(e:h.objs.size<=a):H a=none:=by
 cases q:H a with
 | none=>rfl
 | some u=>exact absurd (Nat.lt_of_lt_of_le (x.lt q) e) (Nat.lt_irrefl _)
theorem HOk.kept (x:HOk P w H h)(k:∀b u,h.get? b=some u->h'.get? b=some u):HOk P w H h':=λa o e =>
 (x a o e).stay (λb u _ q=>k b u q) (λ_ q=>q) λ_ _ q=>q
theorem HOk.laid (x:HOk P w H h)(k:∀b u,h.get? b=some u->h'.get? b=some u)(hp:h.objs.size<=a)(new:ObjOk P w (upd H a o) h' a o):HOk P w (upd H a o) h':=λb u e=>by
 have hn:=x.fresh hp;by_cases hb:b=a
 .subst hb;rw[zp] at e;cases e;exact new
 .rw[zn hb] at e;exact (x b u e).stay (λc v _ q=>k c v q) (λc q=>by rw[zn (zU q hn)];exact q) λc xs q=>by rw[zn (zU q hn)];exact q
end
def Rd (H:Hp)(a:Addr)(u:HO):Prop:=H a=some u\/∃o,H a=some (.frz o u)
theorem Rd.ok {P:Program}{w:World}{H:Hp}{h:Heap}{a:Addr}{u:HO}(r:Rd H a u)(x:HOk P w H h):ObjOk P w H h a u:=by
 rcases r with r | ⟨o,r⟩
 .exact x a u r
 .obtain ⟨_,q⟩:=x a _ r;exact q
def Mut:Option HO->Prop
 | some (.lst _)=>True
 | some (.dK _)=>True
 | some (.dT _)=>True
 | some (.set _ _)=>True
 | some (.ins _ _ _)=>True
 | some (.ext _)=>True
 | _=>False
section
variable {P:Program}{w:World}{H:Hp}{h h':Heap}{x e:Addr}{o':HO}
theorem HOk.write (ok:HOk P w H h)(mu:Mut (H x))(he:e=x\/H e=some (.own x))(k:∀b u,b≠e->h.get? b=some u->h'.get? b=some u)(heo:∃u,h'.get? e=some u)
  (new:ObjOk P w (upd H x o') h' x o'):HOk P w (upd H x o') h':=λb u q=>by
 have nown:∀c y,H c=some (.own y)->c≠x:=λc y r z=>by subst z;rw[r] at mu;exact mu
 have ntup:∀c xs,H c=some (.tup xs)->c≠x:=λc xs r z=>by subst z;rw[r] at mu;exact mu
 by_cases hb:b=x
 .subst hb;rw[zp] at q;cases q;exact new
 .rw[zn hb] at q;by_cases hbe:b=e
  .have q':H b=some (.own x):=by
    rcases he with z | z
    .exact absurd (hbe.trans z) hb
    .rw[hbe];exact z
   rw[q] at q';cases q';obtain ⟨v,hv⟩:=heo;exact ⟨v,by rw[hbe];exact hv⟩
  .refine (ok b u q).stay (λc v hc r=>k c v ?_ r) (λc r=>by rw[zn (nown c b r)];exact r) λc xs r=>by rw[zn (ntup c xs r)];exact r
   rcases hc with rfl | hc
   .exact hbe
   .rintro rfl;rcases he with z | z
    .exact nown c b hc z
    .rw[hc] at z;cases z;exact hb rfl
end
structure Un (fs ex:List Addr)(H H':Hp)(h h':Heap):Prop where
 keep:∀b o,h.get? b=some o->H b=none->b∉fs->b∉ex->h'.get? b=some o
 slot:∀b o,h.get? b=some o->H b=none->b∈fs->b∉ex->∃sl,h'.get? b=some { o with slots:=sl }
 free:∀b o,h.get? b=some o->H b=none->b∉ex->H' b=none
 there:∀b o,h.get? b=some o->b∉ex->∃o',h'.get? b=some o'
 tups:∀b xs,H b=some (.tup xs)->H' b=some (.tup xs)
 frzs:∀b o u,H b=some (.frz o u)->H' b=some (.frz o u)
 tbls:∀b ps,H b=some (.tbl ps)->∃more,H' b=some (.tbl (ps++more))
section
variable {fs ex:List Addr}{H H1:Hp}{h h1 h':Heap}{a x e:Addr}{o:HO}
theorem Un.any (u:Un fs ex H H1 h h1){b:Addr}{ob:Obj}(q:h.get? b=some ob)(n:H b=none)(hx:b∉ex):∃sl,h1.get? b=some { ob with slots:=sl }:=by
 by_cases hb:b∈fs
 .exact u.slot b ob q n hb hx
 .exact ⟨ob.slots,u.keep b ob q n hb hx⟩
theorem Un.kept (k:∀b u,h.get? b=some u->h'.get? b=some u):Un fs ex H H h h' :=
 ⟨λb ob q _ _ _=>k b ob q,λb ob q _ _ _=>⟨ob.slots,k b ob q⟩,λ_ _ _ n _=>n,λb ob q _=>⟨ob,k b ob q⟩,λ_ _ q=>q,λ_ _ _ q=>q,λ_ ps q=>⟨#[],by rw[q];simp⟩⟩
theorem Un.refl:Un fs ex H H h h:=Un.kept λ_ _ q=>q
theorem Un.laid (k:∀b u,h.get? b=some u->h'.get? b=some u)(hp:h.objs.size<=a)(hn:H a=none):Un fs ex H (upd H a o) h h' where
 keep:=λb u q _ _ _=>k b u q
 slot:=λb u q _ _ _=>⟨u.slots,k b u q⟩
 free:=λb u q n _=>by rw[zn (Nat.ne_of_lt (Nat.lt_of_lt_of_le (Heap.lt_size q) hp))];exact n
 there:=λb u q _=>⟨u,k b u q⟩
 tups:=λb xs q=>by rw[zn (zU q hn)];exact q
 frzs:=λb u xs q=>by rw[zn (zU q hn)];exact q
 tbls:=λb ps q=>⟨#[],by rw[zn (zU q hn),q];simp⟩
theorem Un.write (mu:Mut (H x))(he:e=x\/H e=some (.own x))(k:∀b u,b≠e->h.get? b=some u->h'.get? b=some u)(heo:∃u,h'.get? e=some u):Un fs ex H (upd H x o) h h':=by
 have hx:∀b,H b=none->b≠x:=λb n z=>by subst z;rw[n] at mu;exact mu
 have hb:∀b,H b=none->b≠e:=λb n z=>by
  subst z;rcases he with r | r
  .exact hx b n r
  .rw[n] at r;cases r
 have hm:∀b u,H b=some u->¬ Mut (some u)->b≠x:=λb u q nm z=>by subst z;rw[q] at mu;exact nm mu
 refine ⟨λb u q n _ _=>k b u (hb b n) q,λb u q n _ _=>⟨u.slots,k b u (hb b n) q⟩,λb u q n _=>by rw[zn (hx b n)];exact n,λb u q _=>?_,
  λb xs q=>by rw[zn (hm b _ q λz=>z)];exact q,λb u xs q=>by rw[zn (hm b _ q λz=>z)];exact q,λb ps q=>⟨#[],by rw[zn (hm b _ q λz=>z),q];simp⟩⟩
 by_cases hbe:b=e
 .subst hbe;exact heo
 .exact ⟨u,k b u hbe q⟩
end
noncomputable def trk (h:Heap)(H:Hp):List Addr:=(List.range h.objs.size).filter λa=>(H a).isSome
noncomputable def jF (h:Heap)(H:Hp):Heap:=PySem.W.hideAll h (trk h H)
theorem za8 (h:Heap)(H:Hp):(jF h H).objs.size=h.objs.size:=PySem.W.hideAll_size _ _
theorem zb6 {h:Heap}{H:Hp}{b:Addr}{o:Obj}(e:h.get? b=some o)(n:H b=none):(jF h H).get? b=some o :=
 PySem.W.hideAll_get _ e λhm=>by
  have q:(H b).isSome=true:=(List.mem_filter.mp hm).2;rw[n] at q;simp at q
theorem zd6 {h:Heap}{H:Hp}{b:Addr}{o:Obj}(e:(jF h H).get? b=some o):h.get? b=some o/\H b=none:=by
 have e':h.get? b=some o:=PySem.W.of_hideAll (trk h H) e;refine ⟨e',?_⟩;cases q:H b with
 | none=>rfl
 | some x =>
  have hm:b∈trk h H:=List.mem_filter.mpr ⟨List.mem_range.mpr (Heap.lt_size e'),by simp[q]⟩;have z:(jF h H).get? b=none:=PySem.W.hideAll_none (trk h H) hm;rw[z] at e;cases e
structure Mod (K:PySem.W.Frag)(mg:Str->Option Value)(base:Heap):Prop where
 kin:K.In base
 glob:base.Ns mainGlobals mg
 blt:∃mb,base.Ns builtinsNs mb/\∀x:Str,x ≠ "__name__" -> mb x=bootBuiltins x
 nolimit:base.NoLimit
set_option genInjectivity false in
structure Cx where
 prog:Program
 w:World
 K:PySem.W.Frag
 mg:Str->Option Value
 base:Heap
 A:Around
 N:List Str
 s₀:Shared
 H₀:Hp
 env:Env
 outer:List Env
 stack:List Env
 ex:List Addr
 fn:Str->Bool
 calm:Bool
 pn:List (Addr×Obj)
 xe:Value->Shared->Prop
noncomputable def frs (l:List Env):List Addr:=l.filterMap (·.frame)
noncomputable abbrev Cx.fs (X:Cx):List Addr:=frs X.outer
def Vis (sc:Scope)(x:Str):Prop:=sc.names.lookup x=some .local\/sc.names.lookup x=some .cell\/sc.names.lookup x=some .free
def Loc (sc:Scope)(x:Str):Prop:=sc.names.lookup x=some .local\/sc.names.lookup x=some .cell
def Look (env:Env)(h:Heap)(m:Str->Option Value)(x:Str)(u:Value):Prop :=
 (env.kindOf x=some .local/\m x=some u)\/((env.kindOf x=some .cell\/env.kindOf x=some .free)/\∃c,env.cells.lookup x=some c/\h.IsCell c (some u))
structure Cx.Ok (X:Cx):Prop where
 mod:Mod X.K X.mg X.base
 kind:X.env.scope.kind=.function
 glob:X.env.globals=mainGlobals
 blt:X.env.builtins=builtinsNs
 above:X.s₀.heap.objs.size<=X.env.locals
 inj:∀x y c,X.env.cells.lookup x=some c->X.env.cells.lookup y=some c->x=y
 has:∀x,(X.env.kindOf x=some .cell\/X.env.kindOf x=some .free)->∃c,X.env.cells.lookup x=some c
 cab:∀x c,X.fn x=true->X.env.cells.lookup x=some c->X.s₀.heap.objs.size<=c
 hd:X.calm=true->X.A.handled=none
 frames:X.A.frames=some X.stack
 stk:X.stack=X.outer\/(X.stack=X.env::X.outer/\X.env.frame=some X.env.locals)
 exf:∀b∈X.ex,b≠X.env.locals/\∀x c,X.env.cells.lookup x=some c->c≠b
 bs:∀b o,X.base.get? b=some o->X.s₀.heap.get? b=some o/\X.H₀ b=none
 bsz:X.base.objs.size<=X.s₀.heap.objs.size
 noex:∀b o,X.base.get? b=some o->b∉X.ex
 exfs:∀b∈X.ex,b∉X.fs
 funs:X.s₀.heap.FunFrames X.base X.outer
 frf:∀b∈X.fs,X.H₀ b=none
structure Inv (X:Cx)(pins:List (Addr×Obj))(σ:List (Option V))(H:Hp)(s:Shared):Prop where
 ok:X.Ok
 os:s.os=X.s₀.os
 bare:AllBare s.gens
 base:Un X.fs X.ex X.H₀ H X.s₀.heap s.heap
 loc:∃m,s.heap.Ns X.env.locals m/\∀ (i:Nat) (x:Str) (v:V),X.N[i]?=some x->σ[i]?=some (some v)->Vis X.env.scope x->∃u,RelV v u/\Look X.env s.heap m x u
 cell:∀x c,X.env.cells.lookup x=some c->∃v,s.heap.IsCell c v
 free:H X.env.locals=none
 freeC:∀x c,X.env.cells.lookup x=some c->H c=none
 pin:∀p∈X.pn++pins,s.heap.get? p.1=some p.2/\H p.1=none/\p.1≠X.env.locals/\p.1∉X.fs/\∀v,p.2.data≠.cell v
 hok:HOk X.prog X.w H s.heap
 len:σ.length=X.N.length
section
variable {X:Cx}{pins:List (Addr×Obj)}{σ:List (Option V)}{H H':Hp}{s:Shared}{h':Heap}
theorem Cx.Ok.nofr (ok:X.Ok){b:Addr}{o:Obj}(e:X.base.get? b=some o):b∉X.fs:=λhb=>by
 have:=(ok.funs.mem hb).1;rw[e] at this;cases this
theorem Inv.bs (I:Inv X pins σ H s):∀b o,X.base.get? b=some o->s.heap.get? b=some o/\H b=none:=λb o e =>
 ⟨I.base.keep b o (I.ok.bs b o e).1 (I.ok.bs b o e).2 (I.ok.nofr e) (I.ok.noex b o e),I.base.free b o (I.ok.bs b o e).1 (I.ok.bs b o e).2 (I.ok.noex b o e)⟩
theorem Inv.bk (I:Inv X pins σ H s):∀b o,X.base.get? b=some o->s.heap.get? b=some o:=λb o e=>(I.bs b o e).1
theorem Inv.mod (I:Inv X pins σ H s):Mod X.K X.mg X.base:=I.ok.mod
theorem Inv.kIn (I:Inv X pins σ H s):X.K.In s.heap:=I.ok.mod.kin.keeps I.bk
theorem Inv.lt (I:Inv X pins σ H s):X.env.locals < s.heap.objs.size:=let ⟨_,hn,_⟩:=I.loc;hn.lt
theorem Inv.sz (I:Inv X pins σ H s):X.s₀.heap.objs.size<=s.heap.objs.size:=Nat.le_trans I.ok.above (Nat.le_of_lt I.lt)
theorem Inv.nofs (I:Inv X pins σ H s){a:Addr}(h:s.heap.objs.size<=a):a∉X.fs:=λhb=>by
 obtain ⟨_,o,ho,_⟩:=I.ok.funs.mem hb;exact absurd (Nat.lt_of_lt_of_le (Heap.lt_size ho) (Nat.le_trans I.sz h)) (Nat.lt_irrefl _)
theorem Inv.cne (I:Inv X pins σ H s):∀x c,X.env.cells.lookup x=some c->c≠X.env.locals:=λx c e z=>by
 obtain ⟨v,o,ho,hd⟩:=I.cell x c e;obtain ⟨m,⟨o',es,ep,ho',hd',_⟩,_⟩:=I.loc;rw[z,ho'] at ho;cases ho;rw[hd'] at hd;cases hd
theorem Inv.funs (I:Inv X pins σ H s):s.heap.FunFrames X.base X.outer:=by
 have all:∀ (l:List Env),(∀b∈frs l,b∈X.fs)->X.s₀.heap.FunFrames X.base l->s.heap.FunFrames X.base l:=by
  intro l
  induction l with
  | nil=>intro _ _;trivial
  | cons env r ih =>
   intro hs hl;obtain ⟨hk,⟨L,o,hf,hn,ho,hd⟩,hr⟩:=hl;have hL:L∈X.fs:=hs L (by unfold frs;rw[List.filterMap_cons,hf];exact List.mem_cons_self);obtain ⟨sl,e⟩:=I.base.slot L o ho (I.ok.frf L hL) hL λz=>I.ok.exfs L z hL;exact ⟨hk,⟨L,_,hf,hn,e,hd⟩,ih (λb hb=>hs b (by unfold frs;rw[List.filterMap_cons,hf];exact List.mem_cons_of_mem _ hb)) hr⟩
 exact all X.outer (λ_ hb=>hb) I.ok.funs
theorem Inv.stack (I:Inv X pins σ H s):s.heap.FunFrames X.base X.stack:=by
 rcases I.ok.stk with e | ⟨e,hf⟩
 .rw[e];exact I.funs
 .rw[e];obtain ⟨m,hn,_⟩:=I.loc;refine .cons (by rw[I.ok.kind];decide) hf hn ?_ I.funs;exact Heap.get?_none_of_le (Nat.le_trans I.ok.bsz I.ok.above)
theorem Inv.stkSub (I:Inv X pins σ H s):∀b∈frs X.stack,b∈X.env.locals::X.fs:=λb hb=>by
 rcases I.ok.stk with e | ⟨e,hf⟩
 .rw[e] at hb;exact List.mem_cons_of_mem _ hb
 .rw[e] at hb;unfold frs at hb;rw[List.filterMap_cons,hf] at hb;exact hb
theorem Inv.stkFree (I:Inv X pins σ H s):∀b∈frs X.stack,H b=none:=λb hb=>by
 rcases List.mem_cons.mp (I.stkSub b hb) with e | hb
 .rw[e];exact I.free
 .obtain ⟨_,o,ho,_⟩:=I.ok.funs.mem hb;exact I.base.free b o ho (I.ok.frf b hb) λz=>I.ok.exfs b z hb
theorem Inv.step {g':Array GenState}{t':Nat}{d':Drawn}{ch:List Addr}(I:Inv X pins σ H s)
  (hch:∀b∈ch,(b∈X.ex\/X.s₀.heap.objs.size<=b)/\b≠X.env.locals/\(∀x c,X.env.cells.lookup x=some c->c≠b)/\∀p∈X.pn++pins,p.1≠b)
  (keep:∀b o,b≠X.env.locals->b∉X.fs->b∉ch->s.heap.get? b=some o->H b=none->h'.get? b=some o)
  (slot:∀b o,b≠X.env.locals->b∈X.fs->b∉ch->s.heap.get? b=some o->H b=none->∃sl,h'.get? b=some { o with slots:=sl }) (free:∀b o,b∉ch->s.heap.get? b=some o->H b=none->H' b=none)
  (there:∀b o,b∉ch->s.heap.get? b=some o->∃o',h'.get? b=some o')
  (tups:∀b xs,H b=some (.tup xs)->H' b=some (.tup xs)) (frzs:∀b o u,H b=some (.frz o u)->H' b=some (.frz o u)) (tbls:∀b ps,H b=some (.tbl ps)->∃more,H' b=some (.tbl (ps++more)))
  (ns:∀m,s.heap.Ns X.env.locals m->h'.Ns X.env.locals m) (hok:HOk X.prog X.w H' h') (hg:AllBare g') :
  Inv X pins σ H' { s with heap:=h',gens:=g',drawn:=d',toks:=t' }:=by
 have neL:∀b o,X.s₀.heap.get? b=some o->b≠X.env.locals:=λb o e=>Nat.ne_of_lt (Nat.lt_of_lt_of_le (Heap.lt_size e) I.ok.above);have neC:∀b o,X.s₀.heap.get? b=some o->b∉X.ex->b∉ch:=λb o e hx hb=>by
  rcases (hch b hb).1 with z | z
  .exact hx z
  .exact absurd (Nat.lt_of_lt_of_le (Heap.lt_size e) z) (Nat.lt_irrefl _)
 have cellK:∀x c,X.env.cells.lookup x=some c->∀v,s.heap.IsCell c v->h'.IsCell c v:=λx c e v ⟨o,ho,hd⟩=>by
  have nch:c∉ch:=λz=>(hch c z).2.2.1 x c e rfl;by_cases hc:c∈X.fs
  .obtain ⟨sl,q⟩:=slot c o (I.cne x c e) hc nch ho (I.freeC x c e);exact ⟨_,q,hd⟩
  .exact ⟨o,keep c o (I.cne x c e) hc nch ho (I.freeC x c e),hd⟩
 refine ⟨I.ok,I.os,hg,⟨λb o e n hb hx=>?_,λb o e n hb hx=>?_,λb o e n hx=>?_,λb o e hx=>?_,λb xs e=>tups b xs (I.base.tups b xs e),λb o xs e=>frzs b o xs (I.base.frzs b o xs e),λb ps e=>?_⟩,?_,λx c e=>?_,?_,λx c e=>?_,λp hp=>?_,hok,I.len⟩
 .exact keep b o (neL b o e) hb (neC b o e hx) (I.base.keep b o e n hb hx) (I.base.free b o e n hx)
 .obtain ⟨sl,e1⟩:=I.base.slot b o e n hb hx;obtain ⟨sl',e2⟩:=slot b _ (neL b o e) hb (neC b o e hx) e1 (I.base.free b o e n hx);exact ⟨sl',e2⟩
 .obtain ⟨o',e1⟩:=I.base.there b o e hx;exact free b o' (neC b o e hx) e1 (I.base.free b o e n hx)
 .obtain ⟨o',e1⟩:=I.base.there b o e hx;exact there b o' (neC b o e hx) e1
 .obtain ⟨m1,e1⟩:=I.base.tbls b ps e;obtain ⟨m2,e2⟩:=tbls b _ e1;exact ⟨m1++m2,by rw[e2,Array.append_assoc]⟩
 .obtain ⟨m,hn,hl⟩:=I.loc;refine ⟨m,ns m hn,λi x v e1 e2 e3=>?_⟩;obtain ⟨u,r,l⟩:=hl i x v e1 e2 e3;refine ⟨u,r,?_⟩;rcases l with l | ⟨k,c,e,z⟩
  .exact .inl l
  .exact .inr ⟨k,c,e,cellK x c e _ z⟩
 .obtain ⟨v,z⟩:=I.cell x c e;exact ⟨v,cellK x c e v z⟩
 .obtain ⟨m,⟨o,_,_,ho,_⟩,_⟩:=I.loc;exact free _ o (λz=>(hch _ z).2.1 rfl) ho I.free
 .obtain ⟨v,o,ho,hd⟩:=I.cell x c e;exact free c o (λz=>(hch c z).2.2.1 x c e rfl) ho (I.freeC x c e)
 .obtain ⟨e,n,ne,nf,d⟩:=I.pin p hp;have nch:p.1∉ch:=λz=>(hch p.1 z).2.2.2 p hp rfl;exact ⟨keep p.1 p.2 ne nf nch e n,free p.1 p.2 nch e n,ne,nf,d⟩
theorem Inv.un {t':Nat}(I:Inv X pins σ H s)(u:Un X.fs [] H H' s.heap h')(hok:HOk X.prog X.w H' h'):Inv X pins σ H' { s with heap:=h',toks:=t' }:=by
 obtain ⟨m,⟨o,es,ep,ho,r⟩,_⟩:=id I.loc;obtain ⟨sl,hL⟩:=u.any ho I.free (by simp);exact I.step (g':=s.gens) (d':=s.drawn) (ch:=[]) (λ_ z=>nomatch z) (λb o _ hb _ e n=>u.keep b o e n hb (by simp)) (λb o _ hb _ e n=>u.slot b o e n hb (by simp)) (λb o _ e n=>u.free b o e n (by simp)) (λb o _ e=>u.there b o e (by simp)) u.tups u.frzs u.tbls (λm' hm=>by
  obtain ⟨o',es',ep',ho',r'⟩:=hm;rw[ho] at ho';cases ho';exact ⟨_,es',ep',hL,r'⟩) hok I.bare
theorem Inv.call {g':Array GenState}{t':Nat}{d':Drawn}{ch:List Addr}(I:Inv X pins σ H s)(u:Un (frs X.stack) ch H H' s.heap h')(hok:HOk X.prog X.w H' h')(hg:AllBare g')
  (hch:∀b∈ch,(b∈X.ex\/X.s₀.heap.objs.size<=b)/\b≠X.env.locals/\(∀x c,X.env.cells.lookup x=some c->c≠b)/\∀p∈X.pn++pins,p.1≠b) :
  Inv X pins σ H' { s with heap:=h',gens:=g',drawn:=d',toks:=t' }:=by
 obtain ⟨m,⟨o,es,ep,ho,r⟩,_⟩:=id I.loc;obtain ⟨sl,hL⟩:=u.any ho I.free λz=>(hch _ z).2.1 rfl;exact I.step (ch:=ch) hch (λb o hL hb hc e n=>u.keep b o e n (λz=>(List.mem_cons.mp (I.stkSub b z)).elim hL hb) hc) (λb o _ _ hc e n=>u.any e n hc) (λb o hc e n=>u.free b o e n hc) (λb o hc e=>u.there b o e hc) u.tups u.frzs u.tbls (λm' hm=>by
  obtain ⟨o',es',ep',ho',r'⟩:=hm;rw[ho] at ho';cases ho';exact ⟨_,es',ep',hL,r'⟩) hok hg
theorem Inv.turned {t':Nat}{it:Addr}(I:Inv X pins σ H s)(k:∀b o,b≠it->s.heap.get? b=some o->h'.get? b=some o)(hn:H it=none)(hL:it≠X.env.locals)
  (h1:it∈X.ex\/X.s₀.heap.objs.size<=it) (h2:∀x c,X.env.cells.lookup x=some c->c≠it) (h3:∀p∈X.pn++pins,p.1≠it):Inv X pins σ H { s with heap:=h',toks:=t' }:=by
 have nit:∀b u,H b=some u->b≠it:=λb u e z=>by rw[z,hn] at e;cases e
 refine I.step (g':=s.gens) (d':=s.drawn) (ch:=[it]) (λb hb=>?_) (λb o _ _ hc e _=>k b o (λz=>hc (by simp[z])) e) (λb o _ _ hc e _=>⟨o.slots,k b o (λz=>hc (by simp[z])) e⟩) (λ_ _ _ _ n=>n)
  (λb o hc e=>⟨o,k b o (λz=>hc (by simp[z])) e⟩) (λ_ _ e=>e) (λ_ _ _ e=>e) (λb ps e=>⟨#[],by rw[e];simp⟩) (λm hm=>?_) (λb u e=>?_) I.bare
 .have e:b=it:=by simpa using hb
  subst e;exact ⟨h1,hL,h2,h3⟩
 .obtain ⟨o,es,ep,ho,r⟩:=hm;exact ⟨o,es,ep,k _ o (Ne.symm hL) ho,r⟩
 .refine (I.hok b u e).stay (λc v hc q=>k c v ?_ q) (λ_ q=>q) λ_ _ q=>q;rcases hc with z | z
  .rw[z];exact nit b u e
  .exact nit c _ z
theorem Inv.tok (I:Inv X pins σ H s)(t:Nat):Inv X pins σ H { s with toks:=t }:=I.un (h':=s.heap) (t':=t) Un.refl I.hok
theorem Inv.kept {t':Nat}(I:Inv X pins σ H s)(k:∀b u,s.heap.get? b=some u->h'.get? b=some u):Inv X pins σ H { s with heap:=h',toks:=t' }:=I.un (Un.kept k) (I.hok.kept k)
theorem Inv.laid {a:Addr}{o:HO}{t':Nat}(I:Inv X pins σ H s)(k:∀b u,s.heap.get? b=some u->h'.get? b=some u)(hp:s.heap.objs.size<=a)(new:ObjOk X.prog X.w (upd H a o) h' a o):
  Inv X pins σ (upd H a o) { s with heap:=h',toks:=t' }:=I.un (Un.laid k hp (I.hok.fresh hp)) (I.hok.laid k hp new)
theorem Inv.write {x e:Addr}{o:HO}{t':Nat}(I:Inv X pins σ H s)(mu:Mut (H x))(he:e=x\/H e=some (.own x))(k:∀b u,b≠e->s.heap.get? b=some u->h'.get? b=some u)(heo:∃u,h'.get? e=some u)
  (new:ObjOk X.prog X.w (upd H x o) h' x o):Inv X pins σ (upd H x o) { s with heap:=h',toks:=t' }:=I.un (Un.write mu he k heo) (I.hok.write mu he k heo new)
theorem Inv.pins_of {pins':List (Addr×Obj)}(I:Inv X pins σ H s)(h:∀p∈pins',s.heap.get? p.1=some p.2/\H p.1=none/\p.1≠X.env.locals/\p.1∉X.fs/\∀v,p.2.data≠.cell v):Inv X pins' σ H s :=
 ⟨I.ok,I.os,I.bare,I.base,I.loc,I.cell,I.free,I.freeC,λp hp=>(List.mem_append.mp hp).elim (λz=>I.pin p (List.mem_append_left _ z)) (h p),I.hok,I.len⟩
theorem gq {N:List Str}(hN:N.Nodup){i j:Nat}{x:Str}(a:N[i]?=some x)(b:N[j]?=some x):i=j:=by
 obtain ⟨h1,e1⟩:=List.getElem?_eq_some_iff.mp a;obtain ⟨h2,e2⟩:=List.getElem?_eq_some_iff.mp b;exact (List.getElem_inj hN).mp (e1.trans e2.symm)
theorem jg {M:Model}{A:Around}{E:Value->Shared->Prop}{i:Nat}{x:Str}{v:V}{u:Value}{Q:Unit->Shared->Prop}(I:Inv X pins σ H s)(hN:X.N.Nodup)(hi:X.N[i]?=some x)(hx:Loc X.env.scope x)(r:RelV v u)
  (h:∀s',Inv X pins (σ.set i (some v)) H s'->(∃a,Heap.SameBut a s.heap s'.heap/\(a=X.env.locals\/X.env.cells.lookup x=some a))->Q () s') (hf:X.fn x=true\/X.env.scope.names.lookup x=some .local:=by first | exact .inl rfl | exact .inr rfl | assumption):wpAny M A (storeName X.env x u) Q E s:=by
 obtain ⟨m,hn,hl⟩:=id I.loc;have hcls:(X.env.scope.kind == .class || (X.env.scope.kind == .module && X.env.locals != X.env.globals))=false:=by rw[I.ok.kind];rfl
 have hiσ:i < σ.length:=by rw[I.len];exact (List.getElem?_eq_some_iff.mp hi).1
 have cne:=I.cne;have tracked:∀ {a:Addr}{h':Heap},(∃o,s.heap.get? a=some o/\H a=none)->Heap.SameBut a s.heap h'->HOk X.prog X.w H h':=λ{a h'} ha hs b ob e=>by
  obtain ⟨_,_,hfree⟩:=ha;refine (I.hok b ob e).stay (λc w' hc q=>(hs.2 c ?_).trans q) (λ_ q=>q) λ_ _ q=>q;rintro rfl;rcases hc with rfl | hc
  .rw[hfree] at e;cases e
  .rw[hfree] at hc;cases hc
 rcases hx with hk | hk
 .refine wpAny_storeName_local hk hn (λh' hn' hs=>?_) hcls;obtain ⟨oL,_,_,hoL,_⟩:=id hn;refine h _ ⟨I.ok,I.os,I.bare,⟨λb o e n hb hx=>?_,λb o e n hb hx=>?_,I.base.free,λb o e hx=>?_,I.base.tups,I.base.frzs,I.base.tbls⟩,⟨_,hn',λj y v' e1 e2 e3=>?_⟩,λy c e=>?_,I.free,I.freeC,λp hp=>?_,tracked ⟨oL,hoL,I.free⟩ hs,by simpa using I.len⟩ ⟨_,hs,.inl rfl⟩
  .exact (hs.2 b (Nat.ne_of_lt (Nat.lt_of_lt_of_le (Heap.lt_size e) I.ok.above))).trans (I.base.keep b o e n hb hx)
  .obtain ⟨sl,e1⟩:=I.base.slot b o e n hb hx;exact ⟨sl,(hs.2 b (Nat.ne_of_lt (Nat.lt_of_lt_of_le (Heap.lt_size e) I.ok.above))).trans e1⟩
  .obtain ⟨o',e1⟩:=I.base.there b o e hx;exact ⟨o',(hs.2 b (Nat.ne_of_lt (Nat.lt_of_lt_of_le (Heap.lt_size e) I.ok.above))).trans e1⟩
  .by_cases hj:j=i
   .subst hj;rw[hi] at e1;cases e1;rw[List.getElem?_set_self hiσ] at e2;cases e2;exact ⟨u,r,.inl ⟨hk,by simp⟩⟩
   .rw[List.getElem?_set_ne (Ne.symm hj)] at e2;obtain ⟨u',r',q⟩:=hl j y v' e1 e2 e3;refine ⟨u',r',?_⟩;rcases q with ⟨k,e⟩ | ⟨k,c,e,z⟩
    .refine .inl ⟨k,?_⟩;have:y≠x:=λe=>hj (gq hN e1 (e▸hi));simp[this,e]
    .exact .inr ⟨k,c,e,z.sameBut hs (cne y c e)⟩
  .obtain ⟨w',z⟩:=I.cell y c e;exact ⟨w',z.sameBut hs (cne y c e)⟩
  .obtain ⟨e,n,ne,nf,d⟩:=I.pin p hp;exact ⟨(hs.2 p.1 ne).trans e,n,ne,nf,d⟩
 .have hfn:X.fn x=true:=by
   rcases hf with z | z
   .exact z
   .rw[z] at hk;cases hk
  obtain ⟨c,hc⟩:=I.ok.has x (.inl hk);obtain ⟨w',z⟩:=I.cell x c hc;refine wpAny_storeName_cell I.ok.kind hk hc z (λh' hc' hs=>?_);obtain ⟨oc,hoc,hocd⟩:=id z;refine h { s with heap:=h' } ⟨I.ok,I.os,I.bare,⟨λb o e n hb hx=>?_,λb o e n hb hx=>?_,I.base.free,λb o e hx=>?_,I.base.tups,I.base.frzs,I.base.tbls⟩,⟨m,hn.sameBut hs (Ne.symm (cne x c hc)),λj y v' e1 e2 e3=>?_⟩,λy c' e=>?_,I.free,I.freeC,λp hp=>?_,tracked ⟨oc,hoc,I.freeC x c hc⟩ hs,by simpa using I.len⟩ ⟨c,hs,.inr hc⟩
  .exact (hs.2 b (Nat.ne_of_lt (Nat.lt_of_lt_of_le (Heap.lt_size e) (I.ok.cab x c hfn hc)))).trans (I.base.keep b o e n hb hx)
  .obtain ⟨sl,e1⟩:=I.base.slot b o e n hb hx;exact ⟨sl,(hs.2 b (Nat.ne_of_lt (Nat.lt_of_lt_of_le (Heap.lt_size e) (I.ok.cab x c hfn hc)))).trans e1⟩
  .obtain ⟨o',e1⟩:=I.base.there b o e hx;exact ⟨o',(hs.2 b (Nat.ne_of_lt (Nat.lt_of_lt_of_le (Heap.lt_size e) (I.ok.cab x c hfn hc)))).trans e1⟩
  .by_cases hj:j=i
   .subst hj;rw[hi] at e1;cases e1;rw[List.getElem?_set_self hiσ] at e2;cases e2;exact ⟨u,r,.inr ⟨.inl hk,c,hc,hc'⟩⟩
   .rw[List.getElem?_set_ne (Ne.symm hj)] at e2;obtain ⟨u',r',q⟩:=hl j y v' e1 e2 e3;refine ⟨u',r',?_⟩;rcases q with q | ⟨k,c',e,z'⟩
    .exact .inl q
    .refine .inr ⟨k,c',e,z'.sameBut hs ?_⟩;rintro rfl;exact hj (gq hN e1 (I.ok.inj _ _ _ e hc▸hi))
  .by_cases hcc:c'=c
   .subst hcc;exact ⟨_,hc'⟩
   .obtain ⟨w2,z2⟩:=I.cell y c' e;exact ⟨w2,z2.sameBut hs hcc⟩
  .obtain ⟨e,n,ne,nf,d⟩:=I.pin p hp;refine ⟨(hs.2 p.1 ?_).trans e,n,ne,nf,d⟩;intro q;rw[q,hoc] at e;have q':oc=p.2:=Option.some.inj e;exact d w' (by rw[<- q'];exact hocd)
theorem kx {M:Model}{A:Around}{E:Value->Shared->Prop}{i:Nat}{x:Str}{v:V}{u:Value}{Q:Unit->Shared->Prop}(I:Inv X pins σ H s)(hN:X.N.Nodup)(hi:X.N[i]?=some x)(hx:Loc X.env.scope x)(r:RelV v u)
  (h:∀s',Inv X pins (σ.set i (some v)) H s'->Q () s') (hf:X.fn x=true\/X.env.scope.names.lookup x=some .local:=by first | exact .inl rfl | exact .inr rfl | assumption):wpAny M A (storeName X.env x u) Q E s :=
 jg I hN hi hx r (λs' I' _=>h s' I') hf
theorem Inv.call' {s':Shared}{ch:List Addr}(I:Inv X pins σ H s)(ho:s'.os=s.os)(u:Un (frs X.stack) ch H H' s.heap s'.heap)(hok:HOk X.prog X.w H' s'.heap)(hg:AllBare s'.gens)
  (hch:∀b∈ch,(b∈X.ex\/X.s₀.heap.objs.size<=b)/\b≠X.env.locals/\(∀x c,X.env.cells.lookup x=some c->c≠b)/\∀p∈X.pn++pins,p.1≠b):Inv X pins σ H' s':=by
 obtain ⟨h',g',d',t',o'⟩:=s';have e:o'=s.os:=ho;subst e;exact I.call (g':=g') (t':=t') (d':=d') u hok hg hch
end
abbrev XK:=Value->Option Addr->Hp->Prop
abbrev St:=List (Option V)
abbrev VK:=V->Hp->Prop
abbrev TE:=St->Hp->VK->Prop
abbrev TT:=St->Hp->(Bool->Hp->Prop)->Prop
abbrev TA:=St->Hp->(List V->Hp->Prop)->Prop
set_option genInjectivity false in
structure Ends where
 nx:St->Hp->Prop
 rt:VK
 bk:St->Hp->Prop:=λ_ _=>False
 ct:St->Hp->Prop:=λ_ _=>False
abbrev TS:=Ends->St->Hp->Prop
def EP (X:Cx)(pins:List (Addr×Obj))(σ:St)(Q:VK)(u:Value)(s':Shared):Prop:=∃v H',Inv X pins σ H' s'/\RelV v u/\Q v H'
def TP (X:Cx)(pins:List (Addr×Obj))(σ:St)(Q:Bool->Hp->Prop)(b:Bool)(s':Shared):Prop:=∃H',Inv X pins σ H' s'/\Q b H'
def AP (X:Cx)(pins:List (Addr×Obj))(σ:St)(Q:List V->Hp->Prop)(us:List Value)(s':Shared):Prop:=∃vs H',Inv X pins σ H' s'/\Vals vs us/\Q vs H'
def SP (X:Cx)(pins:List (Addr×Obj))(D:Ends)(f:Flow)(s':Shared):Prop :=
 match f with
 | .next=>∃σ' H',Inv X pins σ' H' s'/\D.nx σ' H'
 | .brk=>∃σ' H',Inv X pins σ' H' s'/\D.bk σ' H'
 | .cont=>∃σ' H',Inv X pins σ' H' s'/\D.ct σ' H'
 | .ret u=>∃v σ' H',Inv X pins σ' H' s'/\RelV v u/\D.rt v H'
def PE (X:Cx)(e:Expr)(t:TE):Prop :=
 ∀ (pins:List (Addr×Obj)) (s:Shared) (σ:St) (H:Hp) (Q:VK),Inv X pins σ H s->t σ H Q->wpAny (model X.prog X.w) X.A (eval e X.env) (EP X pins σ Q) X.xe s
def PT (X:Cx)(e:Expr)(t:TT):Prop :=
 ∀ (pins:List (Addr×Obj)) (s:Shared) (σ:St) (H:Hp) (Q:Bool->Hp->Prop),Inv X pins σ H s->t σ H Q->wpAny (model X.prog X.w) X.A (isTrue e X.env (eval e X.env)) (TP X pins σ Q) X.xe s
def PW (X:Cx)(e:Expr)(t:TT):Prop :=
 ∀ (whole:Sem Value) (pins:List (Addr×Obj)) (s:Shared) (σ:St) (H:Hp) (Q:Bool->Hp->Prop),Inv X pins σ H s->t σ H Q->wpAny (model X.prog X.w) X.A (isTrue e X.env whole) (TP X pins σ Q) X.xe s
theorem PW.pt {X:Cx}{e:Expr}{t:TT}(h:PW X e t):PT X e t:=h _
def PA (X:Cx)(es:List Expr)(t:TA):Prop :=
 ∀ (pos:Pos) (pins:List (Addr×Obj)) (s:Shared) (σ:St) (H:Hp) (Q:List V->Hp->Prop),Inv X pins σ H s->t σ H Q->wpAny (model X.prog X.w) X.A (spliced (backTo pos (starEach es X.env))) (AP X pins σ Q) X.xe s
def PS (X:Cx)(st:Stmt)(t:TS):Prop :=
 ∀ (pins:List (Addr×Obj)) (s:Shared) (σ:St) (H:Hp) (D:Ends),Inv X pins σ H s->t D σ H->wpAny (model X.prog X.w) X.A (exec st X.env) (SP X pins D) X.xe s
def PSs (X:Cx)(st:List Stmt)(t:TS):Prop :=
 ∀ (pins:List (Addr×Obj)) (s:Shared) (σ:St) (H:Hp) (D:Ends),Inv X pins σ H s->t D σ H->wpAny (model X.prog X.w) X.A (execs st X.env) (SP X pins D) X.xe s
theorem thn {α:Type}{t:Sem α}{Q Q':α->Shared->Prop}{M:Model}{A:Around}{E:Value->Shared->Prop}{s:Shared}(h:wpAny M A t Q E s)(hQ:∀a s,Q a s->Q' a s):wpAny M A t Q' E s:=wpAny_mono h hQ λ_ _ x=>x
section
variable {X:Cx}
def tVar (i:Nat):TE:=λσ H Q=>∃v,σ[i]?=some (some v)/\Q v H
def tC (v:V):TE:=λ_ H Q=>Q v H
theorem zf7 {i:Nat}{x:Str}{pos:Pos}(hN:X.N[i]?=some x)(hv:Vis X.env.scope x)(hd:(x == ("__debug__" : Str))=false:=by decide)(hcd:(x == ("__classdict__" : Str))=false:=by decide):PE X (.Name x pos) (tVar i):=by
 intro pins s σ H Q I h;obtain ⟨v,e,h⟩:=h;obtain ⟨m,hn,hl⟩:=I.loc;obtain ⟨u,r,l⟩:=hl i x v hN e hv;have fin:EP X pins σ Q u s:=⟨v,H,I,r,h⟩;rcases l with ⟨hk,hm⟩ | ⟨hk,c,hc,hcell⟩
 .exact wpAny_Name (wpAny_loadName_local I.ok.kind hk hn hm fin) hd
 .rcases hk with hk | hk
  .exact wpAny_Name (wpAny_loadName_cell I.ok.kind hk hc hcell fin) hd
  .exact wpAny_Name (wpAny_loadName_free I.ok.kind hk hc hcell fin hcd) hd
theorem zb7 {i j pos}:PE X (.Constant (.int i) j pos) (tC (.int i)):=λ_ _ _ H _ I h=>wpAny_Constant_int ⟨.int i,H,I.tok _,⟨_,rfl⟩,h⟩
theorem zhR {b j pos}:PE X (.Constant (.bool b) j pos) (tC (.bl b)):=λ_ _ _ H _ I h=>Constant_bool ⟨.bl b,H,I,rfl,h⟩
theorem zf8 {j pos}:PE X (.Constant .none j pos) (tC .non):=λ_ _ _ H _ I h=>Constant_none ⟨.non,H,I,rfl,h⟩
def Gl (X:Cx)(x:Str):Prop:=X.env.kindOf x=some .globalImplicit
theorem zaq {E:Value->Shared->Prop}{pins:List (Addr×Obj)}{s:Shared}{σ:St}{H:Hp}{x:Str}{u:Value}{pos:Pos}{Q:Value->Shared->Prop}(I:Inv X pins σ H s)(hg:Gl X x)(hm:X.mg x=some u)(h:Q u s)
  (hd:(x == ("__debug__" : Str))=false:=by decide):wpAny (model X.prog X.w) X.A (eval (.Name x pos) X.env) Q E s :=
 Calls.Name_function_global I.ok.kind hg (Calls.loadGlobal_global (by rw[I.ok.glob];exact I.mod.glob.keeps I.bk) hm h) hd
theorem xQ {E:Value->Shared->Prop}{pins:List (Addr×Obj)}{s:Shared}{σ:St}{H:Hp}{x:Str}{u:Value}{pos:Pos}{Q:Value->Shared->Prop}(I:Inv X pins σ H s)(hg:Gl X x)(hm:X.mg x=none)(hv:bootBuiltins x=some u)(h:Q u s)
  (hn:x ≠ "__name__" := by decide) (hd:(x == ("__debug__" : Str))=false:=by decide):wpAny (model X.prog X.w) X.A (eval (.Name x pos) X.env) Q E s:=by
 obtain ⟨mb,h1,h2⟩:=I.mod.blt;exact Calls.Name_function_global I.ok.kind hg (Calls.loadGlobal_builtin (by rw[I.ok.glob];exact I.mod.glob.keeps I.bk) hm (by rw[I.ok.blt];exact h1.keeps I.bk) ((h2 x hn).trans hv) h) hd
theorem zd7 {x:Str}{v:V}{u:Value}{pos:Pos}(hg:Gl X x)(hm:X.mg x=some u)(r:RelV v u)(hd:(x == ("__debug__" : Str))=false:=by decide):PE X (.Name x pos) (tC v) :=
 λ_ _ _ H _ I h=>zaq I hg hm ⟨v,H,I,r,h⟩ hd
theorem zd8 {x:Str}{v:V}{u:Value}{pos:Pos}(hg:Gl X x)(hm:X.mg x=none)(hv:bootBuiltins x=some u)(r:RelV v u)(hn:x ≠ "__name__" := by decide)(hd:(x == ("__debug__" : Str))=false:=by decide):PE X (.Name x pos) (tC v) :=
 λ_ _ _ H _ I h=>xQ I hg hm hv ⟨v,H,I,r,h⟩ hn hd
variable {a b:Expr}{ta tb:TE}{pos:Pos}
def tB (t:TE):TT:=λσ H Q=>t σ H λx H1=>∃c,x=.bl c/\Q c H1
theorem zf9 {e:Expr}{t:TE}(h:PE X e t)(he:∀whole,isTrue e X.env whole=(do let v <- whole;standAt e.pos;holding [v] (truthy v)):=by intro _;rfl):PT X e (tB t):=by
 intro pins s σ H Q I hw;refine isTrue_plain (thn (h pins s σ H _ I hw) λv s1 ⟨x,H1,I1,r1,q1⟩=>?_) (he _);obtain ⟨d,rfl,q⟩:=q1;cases r1;exact wpAny_truthy_bool ⟨H1,I1,q⟩
variable {tA tB':TT}{rest:List Expr}
def tAnd (t u:TT):TT:=λσ H Q=>t σ H λc H1=>if c=true then u σ H1 Q else Q false H1
def tOr (t u:TT):TT:=λσ H Q=>t σ H λc H1=>if c=true then Q true H1 else u σ H1 Q
def tNot (t:TT):TT:=λσ H Q=>t σ H λc H1=>Q (! c) H1
theorem zd9 (ha:PT X a tA):PW X (.BoolOp .And [a] pos) tA:=by
 intro wh pins s σ H Q I h;refine isTrue_and (thn (ha pins s σ H Q I h) λc s1 e=>?_);cases c with
 | true=>exact isTrue_and_nil e
 | false=>exact e
theorem zga (ha:PT X a tA):PW X (.BoolOp .Or [a] pos) tA:=by
 intro wh pins s σ H Q I h;refine isTrue_or (thn (ha pins s σ H Q I h) λc s1 e=>?_);cases c with
 | false=>exact isTrue_or_nil e
 | true=>exact e
theorem zgb (ha:PT X a tA)(hb:PW X (.BoolOp .And (b::rest) pos) tB'):PW X (.BoolOp .And (a::b::rest) pos) (tAnd tA tB'):=by
 intro wh pins s σ H Q I h;refine isTrue_and (thn (ha pins s σ H _ I h) λc s1 ⟨H1,I1,q1⟩=>?_);cases c with
 | true=>exact hb wh pins s1 σ H1 Q I1 q1
 | false=>exact ⟨H1,I1,q1⟩
theorem zhS (ha:PT X a tA)(hb:PW X (.BoolOp .Or (b::rest) pos) tB'):PW X (.BoolOp .Or (a::b::rest) pos) (tOr tA tB'):=by
 intro wh pins s σ H Q I h;refine isTrue_or (thn (ha pins s σ H _ I h) λc s1 ⟨H1,I1,q1⟩=>?_);cases c with
 | true=>exact ⟨H1,I1,q1⟩
 | false=>exact hb wh pins s1 σ H1 Q I1 q1
theorem zgc (ha:PT X a tA):PT X (.UnaryOp .Not a pos) (tNot tA):=by
 intro pins s σ H Q I h;exact isTrue_not (ha pins s σ H (λc H1=>Q (! c) H1) I h)
def zhT (ta tb:TE):TE:=λσ H Q=>ta σ H λx H1=>∃c,x=.bl c/\if c=true then tb σ H1 Q else Q (.bl false) H1
def tOrV (ta tb:TE):TE:=λσ H Q=>ta σ H λx H1=>∃c,x=.bl c/\if c=true then Q (.bl true) H1 else tb σ H1 Q
def zhU (ta:TE):TE:=λσ H Q=>ta σ H λx H1=>∃c,x=.bl c/\Q (.bl (! c)) H1
theorem zb8 {op}{t:TE}(h:PE X a t):PE X (.BoolOp op [a] pos) t:=λpins s σ H Q I hw=>BoolOp_one (h pins s σ H Q I hw)
theorem zgd (ha:PE X a ta)(hb:PE X (.BoolOp .And (b::rest) pos) tb):PE X (.BoolOp .And (a::b::rest) pos) (zhT ta tb):=by
 intro pins s σ H Q I h;refine BoolOp_and (thn (ha pins s σ H _ I h) λv s1 ⟨x,H1,I1,r1,q1⟩=>?_);obtain ⟨c,rfl,q1⟩:=q1;cases r1;refine wpAny_truthy_bool ?_;cases c with
 | true=>exact hb pins s1 σ H1 Q I1 q1
 | false=>exact ⟨.bl false,H1,I1,rfl,q1⟩
theorem zhV (ha:PE X a ta)(hb:PE X (.BoolOp .Or (b::rest) pos) tb):PE X (.BoolOp .Or (a::b::rest) pos) (tOrV ta tb):=by
 intro pins s σ H Q I h;refine BoolOp_or (thn (ha pins s σ H _ I h) λv s1 ⟨x,H1,I1,r1,q1⟩=>?_);obtain ⟨c,rfl,q1⟩:=q1;cases r1;refine wpAny_truthy_bool ?_;cases c with
 | false=>exact hb pins s1 σ H1 Q I1 q1
 | true=>exact ⟨.bl true,H1,I1,rfl,q1⟩
theorem zge (ha:PE X a ta):PE X (.UnaryOp .Not a pos) (zhU ta):=by
 intro pins s σ H Q I h;refine UnaryOp_ (thn (ha pins s σ H _ I h) λv s1 ⟨x,H1,I1,r1,q1⟩=>?_);obtain ⟨c,rfl,q1⟩:=q1;cases r1;exact not_of (wpAny_truthy_bool ⟨.bl (! c),H1,I1,rfl,q1⟩)
def tIf (t:TT)(ta tb:TE):TE:=λσ H Q=>t σ H λc H1=>if c=true then ta σ H1 Q else tb σ H1 Q
theorem zb9 {c:Expr}(hc:PT X c tA)(ha:PE X a ta)(hb:PE X b tb):PE X (.IfExp c a b pos) (tIf tA ta tb):=by
 intro pins s σ H Q I h;refine wpAny_IfExp (thn (hc pins s σ H _ I h) λd s1 ⟨H1,I1,q1⟩=>?_);cases d with
 | true=>exact ha pins s1 σ H1 Q I1 q1
 | false=>exact hb pins s1 σ H1 Q I1 q1
end
def SqL (K:PySem.W.Frag)(H:Hp)(a:Addr)(xs:List V):Prop :=
 Rd H a (.lst xs) \/
  ∃ (o:Obj) (its:Array Value) (n:Nat),K.lookup a=some o/\o.cls=.type "list" /\ o.dict=none/\o.data=.seq its n/\its.size<=sizeLine/\Vals xs its.toList
def SqT (K:PySem.W.Frag)(H:Hp)(a:Addr)(xs:List V):Prop :=
 Rd H a (.tup xs) \/
  ∃ (o:Obj) (its:Array Value) (n:Nat),K.lookup a=some o/\o.cls=.type "tuple" /\ o.data=.seq its n/\its.size<=sizeLine/\Vals xs its.toList
noncomputable def absV:Value->Option V
 | .none=>some .non
 | .bool b=>some (.bl b)
 | .int i _=>some (.int i)
 | .str x _=>some (.str x)
 | .bytes b _=>some (.byt b)
 | .float b _=>some (.flt b)
 | .ref a=>some (.ref a)
 | .type n=>some (.ty n)
 | _=>none
theorem RelV.abs {x:V}{u:Value}(r:RelV x u):absV u=some x:=by
 cases x with
 | non=>cases r;rfl
 | bl _=>cases r;rfl
 | int _=>obtain ⟨t,rfl⟩:=r;rfl
 | str _=>obtain ⟨t,rfl⟩:=r;rfl
 | byt _=>obtain ⟨t,rfl⟩:=r;rfl
 | flt _=>obtain ⟨t,rfl⟩:=r;rfl
 | ref _=>cases r;rfl
 | ty _=>cases r;rfl
theorem RelV.inj {x y:V}{u:Value}(r:RelV x u)(q:RelV y u):x=y:=Option.some.inj (r.abs.symm.trans q.abs)
theorem Vals.inj:∀ {xs ys:List V}{us:List Value},Vals xs us->Vals ys us->xs=ys
 | _,_,_,.nil,.nil=>rfl
 | _,_,_,.cons r t,.cons r' t'=>by rw[r.inj r',Vals.inj t t']
section
variable {X:Cx}{pins:List (Addr×Obj)}{σ:St}{H:Hp}{s:Shared}{a:Addr}{xs ys:List V}
theorem SqL.of {K:PySem.W.Frag}(h:H a=some (.lst xs)):SqL K H a xs:=.inl (.inl h)
theorem SqT.of {K:PySem.W.Frag}(h:H a=some (.tup xs)):SqT K H a xs:=.inl (.inl h)
theorem Inv.list (I:Inv X pins σ H s)(h:SqL X.K H a xs):∃its:List Value,Vals xs its/\PlainL s.heap a its.toArray/\xs.length<=sizeLine:=by
 rcases h with h | ⟨o,its,n,hk,hc,hd,hs,hz,r⟩
 .obtain ⟨z,its,n,r,e⟩:=h.ok I.hok;exact ⟨its,r,⟨_,n,e,rfl,rfl,rfl⟩,z⟩
 .refine ⟨its.toList,r,⟨o,n,I.kIn a o hk,hc,hd,by simpa using hs⟩,?_⟩;have e:=r.length;simp only[Array.length_toList] at e;lia
theorem Inv.tuple (I:Inv X pins σ H s)(h:SqT X.K H a xs):∃its:List Value,Vals xs its/\IsTup s.heap a its.toArray/\xs.length<=sizeLine:=by
 rcases h with h | ⟨o,its,n,hk,hc,hs,hz,r⟩
 .obtain ⟨z,its,r,p⟩:=h.ok I.hok;exact ⟨its,r,p,z⟩
 .refine ⟨its.toList,r,⟨o,I.kIn a o hk,hc,n,by simpa using hs⟩,?_⟩;have e:=r.length;simp only[Array.length_toList] at e;lia
theorem Inv.list_inj (I:Inv X pins σ H s)(h:SqL X.K H a xs)(h':SqL X.K H a ys):xs=ys:=by
 obtain ⟨its,r,⟨o,n,e,_,_,d⟩,_⟩:=I.list h;obtain ⟨its',r',⟨o',n',e',_,_,d'⟩,_⟩:=I.list h';rw[e] at e';cases e';rw[d] at d';injection d' with d1 _
 have:its=its':=by simpa using congrArg Array.toList d1
 subst this;exact r.inj r'
theorem Inv.tuple_inj (I:Inv X pins σ H s)(h:SqT X.K H a xs)(h':SqT X.K H a ys):xs=ys:=by
 obtain ⟨its,r,⟨o,e,_,n,d⟩,_⟩:=I.tuple h;obtain ⟨its',r',⟨o',e',_,n',d'⟩,_⟩:=I.tuple h';rw[e] at e';cases e';rw[d] at d';injection d' with d1 _
 have:its=its':=by simpa using congrArg Array.toList d1
 subst this;exact r.inj r'
end
noncomputable abbrev Cx.wish (X:Cx)(E:Value->Shared->Prop):Cx:={ X with xe:=E }
noncomputable abbrev Cx.nox (X:Cx):Cx:=X.wish λ_ _=>False
theorem Cx.Ok.wish {X:Cx}(ok:X.Ok)(E:Value->Shared->Prop):(X.wish E).Ok :=
 ⟨ok.mod,ok.kind,ok.glob,ok.blt,ok.above,ok.inj,ok.has,ok.cab,ok.hd,ok.frames,ok.stk,ok.exf,ok.bs,ok.bsz,ok.noex,ok.exfs,ok.funs,ok.frf⟩
theorem Cx.Ok.unwish {X:Cx}{E:Value->Shared->Prop}(ok:(X.wish E).Ok):X.Ok :=
 ⟨ok.mod,ok.kind,ok.glob,ok.blt,ok.above,ok.inj,ok.has,ok.cab,ok.hd,ok.frames,ok.stk,ok.exf,ok.bs,ok.bsz,ok.noex,ok.exfs,ok.funs,ok.frf⟩
section
variable {X:Cx}{pins:List (Addr×Obj)}{σ:St}{H:Hp}{s:Shared}{E:Value->Shared->Prop}
theorem Inv.wish (I:Inv X pins σ H s)(E:Value->Shared->Prop):Inv (X.wish E) pins σ H s:=⟨I.ok.wish E,I.os,I.bare,I.base,I.loc,I.cell,I.free,I.freeC,I.pin,I.hok,I.len⟩
theorem Inv.unwish (I:Inv (X.wish E) pins σ H s):Inv X pins σ H s:=⟨I.ok.unwish,I.os,I.bare,I.base,I.loc,I.cell,I.free,I.freeC,I.pin,I.hok,I.len⟩
theorem SP.unwish {D:Ends}{f:Flow}{s':Shared}(h:SP (X.wish E) pins D f s'):SP X pins D f s':=by
 cases f with
 | next=>obtain ⟨σ',H',I,q⟩:=h;exact ⟨σ',H',I.unwish,q⟩
 | brk=>obtain ⟨σ',H',I,q⟩:=h;exact ⟨σ',H',I.unwish,q⟩
 | cont=>obtain ⟨σ',H',I,q⟩:=h;exact ⟨σ',H',I.unwish,q⟩
 | ret u=>obtain ⟨v,σ',H',I,r,q⟩:=h;exact ⟨v,σ',H',I.unwish,r,q⟩
theorem PSs.nox {st:List Stmt}{t:TS}(h:PSs X.nox st t):PSs X st t:=λpins s σ H D I hw =>
 wpAny_mono (h pins s σ H D (I.wish _) hw) (λ_ _ q=>q.unwish) λ_ _ z=>False.elim z
end
section
variable {X:Cx}{st:Stmt}{rest:List Stmt}{t u:TS}{e:Expr}{te:TE}{pos:Pos}
def zhW:TS:=λD σ H=>D.nx σ H
def tSeq (t u:TS):TS:=λD σ H=>t { D with nx:=u D } σ H
theorem zea:PSs X [] zhW:=λ_ _ σ H _ I h=>wpAny_execs_nil ⟨σ,H,I,h⟩
set_option tactic.hygienic true in
theorem zca (h1:PS X st t)(h2:PSs X rest u):PSs X (st::rest) (tSeq t u):=by
 intro pins s σ H D I h;refine wpAny_execs_cons (thn (h1 pins s σ H { D with nx:=u D } I h) λf s1 q=>?_);cases f with
 | next =>
  obtain ⟨σ',H',I',q⟩:=q;exact h2 pins s1 σ' H' D I' q
 | ret v=>exact q
 | brk=>exact q
 | cont=>exact q
theorem zeb (h1:PS X st t):PSs X [st] t:=by
 intro pins s σ H D I h;refine wpAny_execs_cons (thn (h1 pins s σ H D I h) λf s1 q=>?_);cases f with
 | next=>exact wpAny_execs_nil q
 | ret v=>exact q
 | brk=>exact q
 | cont=>exact q
theorem Inv.quiet {pins:List (Addr×Obj)}{σ:St}{H:Hp}{s:Shared}(I:Inv X pins σ H s):interactive X.env=false:=by simp[interactive,I.ok.kind]
def zhX (te:TE):TS:=λD σ H=>te σ H λ_ H1=>D.nx σ H1
theorem zec (he:PE X e te)(hs:swapsWith e none pos.line X.env=pure false:=by rfl):PS X (.Expr e pos) (zhX te):=by
 intro pins s σ H D I h;exact wpAny_Expr_any (thn (he pins s σ H _ I h) λv s1 ⟨x,H1,I1,r1,q1⟩=>⟨σ,H1,I1,q1⟩) I.quiet hs
def tRet (te:TE):TS:=λD σ H=>te σ H D.rt
theorem zgf (he:PE X e te):PS X (.Return (some e) pos) (tRet te):=by
 intro pins s σ H D I h;exact wpAny_Return_some (thn (he pins s σ H _ I h) λv s1 ⟨x,H1,I1,r1,q1⟩=>⟨x,σ,H1,I1,r1,q1⟩)
def tIfS (c:TT)(t u:TS):TS:=λD σ H=>c σ H λb H1=>if b=true then t D σ H1 else u D σ H1
theorem zhY {c:Expr}{a b:List Stmt}{tc:TT}(hc:PT X c tc)(ha:PSs X a t)(hb:PSs X b u):PS X (.If c a b pos) (tIfS tc t u):=by
 intro pins s σ H D I h;refine wpAny_If (thn (hc pins s σ H _ I h) λd s1 ⟨H1,I1,q1⟩=>?_);cases d with
 | true=>exact ha pins s1 σ H1 D I1 q1
 | false=>exact hb pins s1 σ H1 D I1 q1
def zgg:TS:=λ_ _ _=>False
theorem zcb:PS X st zgg:=λ_ _ _ _ _ _ h=>h.elim
end
abbrev TG:=V->St->Hp->(St->Hp->Prop)->Prop
abbrev TGs:=List V->St->Hp->(St->Hp->Prop)->Prop
def PG (X:Cx)(target:Expr)(t:TG):Prop :=
 ∀ (pins:List (Addr×Obj)) (s:Shared) (σ:St) (H:Hp) (v:V) (u:Value) (Q:St->Hp->Prop),Inv X pins σ H s->RelV v u->t v σ H Q ->
  wpAny (model X.prog X.w) X.A (assign target X.env u) (λ_ s'=>∃σ' H',Inv X pins σ' H' s'/\Q σ' H') X.xe s
def PGs (X:Cx)(ts:List Expr)(t:TGs):Prop :=
 ∀ (pins:List (Addr×Obj)) (s:Shared) (σ:St) (H:Hp) (vs:List V) (us:List Value) (Q:St->Hp->Prop),Inv X pins σ H s->Vals vs us->t vs σ H Q ->
  wpAny (model X.prog X.w) X.A (assignInOrder ((assignEach ts X.env).map (·.2)) us) (λ_ s'=>∃σ' H',Inv X pins σ' H' s'/\Q σ' H') X.xe s
abbrev TIp:=V->V->Hp->VK->Prop
def PIp (X:Cx)(op:Operator)(t:TIp):Prop :=
 ∀ (pins:List (Addr×Obj)) (s:Shared) (σ:St) (H:Hp) (x y:V) (v u:Value) (Q:VK),Inv X pins σ H s->RelV x v->RelV y u->t x y H Q ->
  wpAny (model X.prog X.w) X.A (inplaceOp op v u) (EP X pins σ Q) X.xe s
section
variable {X:Cx}{pos:Pos}
def wz (i:Nat):TG:=λv σ H Q=>Q (σ.set i (some v)) H
theorem xL {i:Nat}{x:Str}(hN:X.N.Nodup)(hi:X.N[i]?=some x)(hx:Loc X.env.scope x)(hf:X.fn x=true\/X.env.scope.names.lookup x=some .local:=by first | exact .inl rfl | exact .inr rfl | assumption):PG X (.Name x pos) (wz i):=by
 intro pins s σ H v u Q I r h;exact wpAny_assign_Name (kx I hN hi hx r (λs' I'=>⟨_,H,I',h⟩) hf)
def zed:TGs:=λvs σ H Q=>vs=[]/\Q σ H
def ky (t:TG)(u:TGs):TGs:=λvs σ H Q=>∃v r,vs=v::r/\t v σ H λσ' H'=>u r σ' H' Q
theorem jG:PGs X [] zed:=by
 intro pins s σ H vs us Q I r h;obtain ⟨e,h⟩:=h;subst e;cases r;exact assignInOrder_nil ⟨σ,H,I,h⟩
theorem xW {e:Expr}{es:List Expr}{t:TG}{u:TGs}(h1:PG X e t)(h2:PGs X es u)
  (hs:(assignEach (e::es) X.env).map (·.2)=assign e X.env::(assignEach es X.env).map (·.2):=by rfl):PGs X (e::es) (ky t u):=by
 intro pins s σ H vs us Q I r h;obtain ⟨v,vr,e1,h⟩:=h;subst e1;cases r with
 | cons r rr =>
  rw[hs];refine assignInOrder_cons (thn (h1 pins s σ H _ _ _ I r h) λ_ s1 ⟨σ1,H1,I1,q1⟩=>?_);exact h2 pins s1 σ1 H1 _ _ Q I1 rr q1
def zee (K:PySem.W.Frag)(n:Nat)(t:TGs):TG:=λv σ H Q=>∃a xs,v=.ref a/\SqT K H a xs/\xs.length=n/\t xs σ H Q
theorem qw {es:List Expr}{k:Nat}{t:TGs}{n:Nat}(hc:X.calm=true)(h:PGs X es t)
  (hn:(assignEach es X.env).length=n:=by rfl) (hst:(assignEach es X.env).findIdx? (·.1)=none:=by rfl):PG X (.Tuple es k pos) (zee X.K n t):=by
 intro pins s σ H v u Q I r hw;obtain ⟨a,xs,e1,hq,hl,hw⟩:=hw;subst e1;cases r;obtain ⟨its,rv,ht,hz⟩:=I.tuple hq;refine assign_Tuple_tuple (I.ok.hd hc) ht (by simp[hn,<- hl,rv.length]) hst λh' hx=>?_;have I1:Inv X pins σ H { s with heap:=h' }:=I.kept (t':=s.toks) λb o e=>hx b o (Nat.ne_of_lt (Heap.lt_size e)) e;exact h pins _ σ H xs _ Q I1 (by simpa using rv) hw
def zcc (te:TE)(g:TG):TS:=λD σ H=>te σ H λx H1=>g x σ H1 D.nx
theorem zgh {tg e:Expr}{te:TE}{g:TG}(he:PE X e te)(hg:PG X tg g)(hs:swapsWithSole [tg] e pos.line X.env=pure false:=by rfl)(hw:swappedStores [tg] e X.env=pure none:=by rfl)
  (h1:(assignEach [tg] X.env).map (·.2)=[assign tg X.env]:=by rfl):PS X (.Assign [tg] e pos) (zcc te g):=by
 intro pins s σ H D I h;refine wpAny_Assign_stores (thn (he pins s σ H _ I h) λv s1 ⟨x,H1,I1,r1,q1⟩=>?_) hs hw;rw[h1];exact thn (hg pins s1 σ H1 x v _ I1 r1 q1) λ_ s2 q=>q
theorem zcd {i:Nat}{x:Str}{e:Expr}{te:TE}{pos':Pos}(hN:X.N.Nodup)(hi:X.N[i]?=some x)(hx:Loc X.env.scope x)(he:PE X e te)(hs:swapsWith e (some (.Name x pos')) pos.line X.env=pure false:=by rfl)(hf:X.fn x=true\/X.env.scope.names.lookup x=some .local:=by first | exact .inl rfl | exact .inr rfl | assumption):
  PS X (.Assign [.Name x pos'] e pos) (zcc te (wz i)):=by
 intro pins s σ H D I h;refine wpAny_Assign_Name (thn (he pins s σ H _ I h) λv s1 ⟨y,H1,I1,r1,q1⟩=>?_) hs;exact kx I1 hN hi hx r1 (λs2 I2=>⟨_,H1,I2,q1⟩) hf
def tAug (i:Nat)(te:TE)(ti:TIp):TS:=λD σ H=>∃x,σ[i]?=some (some x)/\te σ H λy H1=>ti x y H1 λz H2=>D.nx (σ.set i (some z)) H2
theorem zgi {i:Nat}{x:Str}{e:Expr}{te:TE}{op:Operator}{ti:TIp}{pos':Pos}(hN:X.N.Nodup)(hi:X.N[i]?=some x)(hx:Loc X.env.scope x)(he:PE X e te)(ho:PIp X op ti)(hf:X.fn x=true\/X.env.scope.names.lookup x=some .local:=by first | exact .inl rfl | exact .inr rfl | assumption):
  PS X (.AugAssign (.Name x pos') op e pos) (tAug i te ti):=by
 intro pins s σ H D I h;obtain ⟨v,e1,h⟩:=h;obtain ⟨m,hn,hl⟩:=I.loc;have vis:Vis X.env.scope x:=by rcases hx with k | k;exact .inl k;exact .inr (.inl k)
 obtain ⟨u,r,l⟩:=hl i x v hi e1 vis;refine wpAny_AugAssign_Name ?_;have go:wpAny (model X.prog X.w) X.A (eval e X.env) (λw s₂=>wpAny (model X.prog X.w) X.A (inplaceOp op u w) (λr s₃=>wpAny (model X.prog X.w) X.A (storeName X.env x r) (λ_=>SP X pins D .next) X.xe s₃) X.xe s₂) X.xe s:=by
  refine thn (he pins s σ H _ I h) λw s1 ⟨y,H1,I1,r1,q1⟩=>?_;refine thn (ho pins s1 σ H1 v y u w _ I1 r r1 q1) λz s2 ⟨zv,H2,I2,r2,q2⟩=>?_;exact kx I2 hN hi hx r2 (λs3 I3=>⟨_,H2,I3,q2⟩) hf
 rcases l with ⟨hk,hm⟩ | ⟨hk,c,hc,hcell⟩
 .exact wpAny_loadName_local I.ok.kind hk hn hm go
 .rcases hk with hk | hk
  .exact wpAny_loadName_cell I.ok.kind hk hc hcell go
  .rcases hx with k | k
   .have:X.env.scope.names.lookup x=some .free:=hk;rw[k] at this;cases this
   .have:X.env.scope.names.lookup x=some .free:=hk;rw[k] at this;cases this
def ipI (f:Int->Int->Int):TIp:=λx y H Q=>∃i j,x=.int i/\y=.int j/\Q (.int (f i j)) H
theorem zgj:PIp X .Add (ipI λi j=>i+j):=by
 intro pins s σ H x y v u Q I r1 r2 h;obtain ⟨i,j,e1,e2,q⟩:=h;subst e1;subst e2;obtain ⟨t,rfl⟩:=r1;obtain ⟨t',rfl⟩:=r2;exact iadd_int ⟨.int _,H,I.tok _,⟨_,rfl⟩,q⟩
theorem zgk:PIp X .Sub (ipI λi j=>i - j):=by
 intro pins s σ H x y v u Q I r1 r2 h;obtain ⟨i,j,e1,e2,q⟩:=h;subst e1;subst e2;obtain ⟨t,rfl⟩:=r1;obtain ⟨t',rfl⟩:=r2;exact isub_int ⟨.int _,H,I.tok _,⟨_,rfl⟩,q⟩
end
section
variable {X:Cx}{pos:Pos}
def zce (c:TT)(tb:TS):TS:=λD σ H=>∃W:Nat->St->Hp->Prop,(∃m,W m σ H)/\∀m σ H,W m σ H ->
 c σ H λb H1=>if b=true then ∃N:St->Hp->Prop,(∀σ' H',N σ' H'->∃m',m' < m/\W m' σ' H')/\tb { D with nx:=N,ct:=N,bk:=D.nx } σ H1 else D.nx σ H1
set_option tactic.hygienic true in
theorem zcf {c:Expr}{body:List Stmt}{tc:TT}{tb:TS}(hp:PassesOwn (model X.prog X.w) X.A X.env X.xe)(hc:PT X c tc)(hb:PSs X body tb):PS X (.While c body [] pos) (zce tc tb):=by
 intro pins s σ H D I h;obtain ⟨W,⟨m0,w0⟩,turn⟩:=h;refine wpAny_While (codeAny_whileLoop (λn s'=>∃σ' H',Inv X pins σ' H' s'/\W n σ' H') ?_ m0 ⟨σ,H,I,w0⟩);rintro n s1 ⟨σ1,H1,I1,w1⟩;refine wpAny_passesOwn hp (thn (hc pins s1 σ1 H1 _ I1 (turn n σ1 H1 w1)) λb s2 ⟨H2,I2,q2⟩=>?_);cases b with
 | true =>
  obtain ⟨N,hN,q2⟩:=q2;rw[if_pos rfl];refine wpAny_passesOwn hp (thn (hb pins s2 σ1 H2 _ I2 q2) λf s3 q3=>?_);cases f with
  | next =>
   obtain ⟨σ3,H3,I3,n3⟩:=q3;obtain ⟨m',hm,w3⟩:=hN σ3 H3 n3;exact ⟨m',hm,σ3,H3,I3,w3⟩
  | cont =>
   obtain ⟨σ3,H3,I3,n3⟩:=q3;obtain ⟨m',hm,w3⟩:=hN σ3 H3 n3;exact ⟨m',hm,σ3,H3,I3,w3⟩
  | brk=>exact q3
  | ret v=>exact q3
 | false =>
  rw[if_neg Bool.false_ne_true];exact wpAny_execs_nil ⟨σ1,H2,I2,q2⟩
end
set_option genInjectivity false in
structure It where
 go:Nat->Hp->Prop
 yld:Nat->Hp->V->Hp->Prop
 stop:Nat->Hp->Prop
def vY (X:Cx)(pins:List (Addr×Obj))(H:Hp)(b:Addr):Prop :=
 H b=none/\b≠X.env.locals/\b∉X.fs/\(b∈X.ex\/X.s₀.heap.objs.size<=b)/\(∀x c,X.env.cells.lookup x=some c->c≠b)/\∀p∈X.pn++pins,p.1≠b
theorem Inv.fpOk {X:Cx}{pins:List (Addr×Obj)}{σ:St}{H H':Hp}{s:Shared}{b:Addr}(I:Inv X pins σ H s)(hb:s.heap.objs.size<=b)(hn:H' b=none):vY X pins H' b:=by
 refine ⟨hn,Nat.ne_of_gt (Nat.lt_of_lt_of_le I.lt hb),I.nofs hb,.inr (Nat.le_trans I.sz hb),λx c e z=>?_,λp hp z=>?_⟩
 .obtain ⟨v,q⟩:=I.cell x c e;exact absurd (Nat.lt_of_lt_of_le q.lt (by rw[z];exact hb)) (Nat.lt_irrefl _)
 .exact absurd (Nat.lt_of_lt_of_le (Heap.lt_size (I.pin p hp).1) (by rw[z];exact hb)) (Nat.lt_irrefl _)
structure Turn (P:Program)(w:World)(K:PySem.W.Frag)(tg:Expr)(J:It)(fp:List Addr)(it:Addr)(tn:Nat->Heap->Prop):Prop where
 mem:it∈fp
 obj:∀i h,tn i h->∀b∈fp,∃o,h.get? b=some o/\∀v,o.data≠.cell v
 keep:∀i h h',tn i h->(∀b∈fp,∀o,h.get? b=some o->h'.get? b=some o)->tn i h'
 item:∀ (X:Cx),X.prog=P->X.w=w->X.K=K->X.calm=true->∀ (i:Nat) (pins:List (Addr×Obj)) (s:Shared) (σ:St) (H:Hp) (E:Value->Shared->Prop),Inv X pins σ H s->(∀b∈fp,vY X pins H b)->tn i s.heap->J.go i H ->
  wpAny (model P w) X.A (pyNext (.ref it)) (λr s1=>∃u,r=some u /\
   wpAny (model P w) X.A (letOwnedTupleGo tg (.ref it) u) (λ_ s2=>∃x H',Inv X pins σ H' s2/\RelV x u/\J.yld i H x H'/\tn (i+1) s2.heap/\∀b∈fp,H' b=none) E s1) E s
 done:∀ (X:Cx),X.prog=P->X.w=w->X.K=K->X.calm=true->∀ (i:Nat) (pins:List (Addr×Obj)) (s:Shared) (σ:St) (H:Hp) (E:Value->Shared->Prop),Inv X pins σ H s->(∀b∈fp,vY X pins H b)->tn i s.heap->J.stop i H ->
  wpAny (model P w) X.A (pyNext (.ref it)) (λr s1=>r=none/\Inv X pins σ H s1) E s
 self:∀ (A:Around) (i:Nat) (s:Shared) (Q:Value->Shared->Prop) (E:Value->Shared->Prop),tn i s.heap->Q (.ref it) s->wpAny (model P w) A (pyIter (.ref it)) Q E s
abbrev TI:=St->Hp->(It->Hp->Prop)->Prop
def PIE (X:Cx)(pins:List (Addr×Obj))(σ:St)(tg:Expr)(R:It->Hp->Prop)(itv:Value)(s2:Shared):Prop :=
 ∃ (it:Addr) (fp:List Addr) (tn:Nat->Heap->Prop) (J:It) (H':Hp),itv=.ref it/\Inv X pins σ H' s2/\Turn X.prog X.w X.K tg J fp it tn/\tn 0 s2.heap/\(∀b∈fp,vY X pins H' b)/\R J H'
def PI (X:Cx)(tg iter:Expr)(wi:TI):Prop :=
 ∀ (pins:List (Addr×Obj)) (s:Shared) (σ:St) (H:Hp) (R:It->Hp->Prop),Inv X pins σ H s->wi σ H R ->
  wpAny (model X.prog X.w) X.A (eval iter X.env) (λv s1=>wpAny (model X.prog X.w) X.A (pyIter v) (PIE X pins σ tg R) X.xe s1) X.xe s
theorem zcg {M:Model}{A:Around}{E:Value->Shared->Prop}{s:Shared}{tg:Expr}{it:Addr}{u:Value}{o:Obj}{n:String}{vs:Array Value}{Q:Unit->Shared->Prop}(ho:s.heap.get? it=some o)(hc:o.cls=.type n)(hd:o.data=.fields vs)
  (hn:["enumerate", "zip", "dict_itemiterator", "dict_reverseitemiterator", "odict_iterator", "itertools.zip_longest", "itertools.pairwise"].contains n=false) (hQ:Q () s):wpAny M A (letOwnedTupleGo tg (.ref it) u) Q E s:=by
 unfold letOwnedTupleGo;cases tg <;> first
  | exact wpAny_pure hQ
  | (cases u <;> first
    | exact wpAny_pure hQ
    | (refine wpAny_bind (wpAny_load ho ?_)
       rw[hc,hd];show wpAny M A (if (["enumerate", "zip", "dict_itemiterator", "dict_reverseitemiterator", "odict_iterator", "itertools.zip_longest", "itertools.pairwise"].contains n && vs[0]? == some (rawInt _))=true then _ else _) Q E s;rw[if_neg (by intro h;rw[hn,Bool.false_and] at h;cases h)];exact wpAny_pure hQ))
noncomputable def Itl (K:PySem.W.Frag)(a:Addr):It :=
 ⟨λi H=>∃xs x,SqL K H a xs/\xs[i]?=some x,λi H x H'=>H'=H/\∀xs,SqL K H a xs->xs[i]?=some x,λi H=>∃xs,SqL K H a xs/\xs.length<=i⟩
noncomputable def Itt (K:PySem.W.Frag)(a:Addr):It :=
 ⟨λi H=>∃xs x,SqT K H a xs/\xs[i]?=some x,λi H x H'=>H'=H/\∀xs,SqT K H a xs->xs[i]?=some x,λi H=>∃xs,SqT K H a xs/\xs.length<=i⟩
noncomputable def Itr (lo:Int)(n:Nat):It:=⟨λi _=>i < n,λi H x H'=>H'=H/\x=.int (lo+i),λi _=>n<=i⟩
theorem za9 {P:Program}{w:World}{K:PySem.W.Frag}{tg:Expr}(a it:Addr):Turn P w K tg (Itl K a) [it] it (λi h=>h.IsListIter it a i) where
 mem:=by simp
 obj:=λi h st b hb=>by
  have e:b=it:=by simpa using hb
  subst e;obtain ⟨o,e,c,d⟩:=st;exact ⟨o,e,λv z=>by rw[d] at z;cases z⟩
 keep:=λi h h' st k=>st.at λo e=>k it (by simp) o e
 item:=by
  intro X hP hw hK hc i pins s σ H E I hf st hg;subst hP hw hK;obtain ⟨xs,x,hq,hx⟩:=hg;obtain ⟨its,rv,p,hz⟩:=I.list hq;obtain ⟨u,hu,ru⟩:=rv.get hx;obtain ⟨f0,f1,f2,f3,f4,f5⟩:=hf it (by simp);refine wpAny_pyNext_list_item st p.isList (x:=u) (by simpa using hu) λh' st' sb=>?_;have I1:Inv X pins σ H { s with heap:=h' }:=I.turned (t':=s.toks) (λb o hb e=>(sb.2 b hb).trans e) f0 f1 f3 f4 f5;obtain ⟨o,e,c,d⟩:=id st';exact ⟨u,rfl,zcg (s:={ s with heap:=h' }) e c d (by decide) ⟨x,H,I1,ru,⟨rfl,λys hy=>by rw[I.list_inj hy hq];exact hx⟩,st',λb hb=>(hf b hb).1⟩⟩
 done:=by
  intro X hP hw hK hc i pins s σ H E I hf st hg;subst hP hw hK;obtain ⟨xs,hq,hx⟩:=hg;obtain ⟨its,rv,p,hz⟩:=I.list hq;obtain ⟨f0,f1,f2,f3,f4,f5⟩:=hf it (by simp);have hl:=rv.length;exact wpAny_pyNext_list_end (I.ok.hd hc) st p.isList (by simp;lia) λh' eb=>⟨rfl,I.turned (t':=s.toks) (λb o hb e=>eb b o hb e) f0 f1 f3 f4 f5⟩
 self:=λ_ _ _ _ _ st h=>wpAny_pyIter_listiter st h
theorem qx {P:Program}{w:World}{K:PySem.W.Frag}{tg:Expr}(a it:Addr):Turn P w K tg (Itt K a) [it] it (λi h=>h.IsTupleIter it a i) where
 mem:=by simp
 obj:=λi h st b hb=>by
  have e:b=it:=by simpa using hb
  subst e;obtain ⟨o,e,c,d⟩:=st;exact ⟨o,e,λv z=>by rw[d] at z;cases z⟩
 keep:=λi h h' st k=>st.at λo e=>k it (by simp) o e
 item:=by
  intro X hP hw hK hc i pins s σ H E I hf st hg;subst hP hw hK;obtain ⟨xs,x,hq,hx⟩:=hg;obtain ⟨its,rv,p,hz⟩:=I.tuple hq;obtain ⟨u,hu,ru⟩:=rv.get hx;obtain ⟨f0,f1,f2,f3,f4,f5⟩:=hf it (by simp);refine wpAny_pyNext_tuple_item st (show s.heap.IsTuple a its.toArray from p) (x:=u) (by simpa using hu) λh' st' sb=>?_;have I1:Inv X pins σ H { s with heap:=h' }:=I.turned (t':=s.toks) (λb o hb e=>(sb.2 b hb).trans e) f0 f1 f3 f4 f5;obtain ⟨o,e,c,d⟩:=id st';exact ⟨u,rfl,zcg (s:={ s with heap:=h' }) e c d (by decide) ⟨x,H,I1,ru,⟨rfl,λys hy=>by rw[I.tuple_inj hy hq];exact hx⟩,st',λb hb=>(hf b hb).1⟩⟩
 done:=by
  intro X hP hw hK hc i pins s σ H E I hf st hg;subst hP hw hK;obtain ⟨xs,hq,hx⟩:=hg;obtain ⟨its,rv,p,hz⟩:=I.tuple hq;obtain ⟨f0,f1,f2,f3,f4,f5⟩:=hf it (by simp);have hl:=rv.length;exact wpAny_pyNext_tuple_end (I.ok.hd hc) st (show s.heap.IsTuple a its.toArray from p) (by simp;lia) λh' eb=>⟨rfl,I.turned (t':=s.toks) (λb o hb e=>eb b o hb e) f0 f1 f3 f4 f5⟩
 self:=λ_ _ _ _ _ st h=>wpAny_pyIter_tupleiter st h
theorem qy {P:Program}{w:World}{K:PySem.W.Frag}{tg:Expr}(it:Addr)(lo:Int)(n:Nat):Turn P w K tg (Itr lo n) [it] it (λi h=>IsRangeIter h it (lo+(i:Nat) * 1) ((n:Int) - (i:Nat)) 1) where
 mem:=by simp
 obj:=λi h st b hb=>by
  have e:b=it:=by simpa using hb
  subst e;exact ⟨_,st,λv z=>by
   have z':Data.fields _=Data.cell v:=z;cases z'⟩
 keep:=λi h h' st k=>k it (by simp) _ st
 item:=by
  intro X hP hw hK hc i pins s σ H E I hf st hg;subst hP hw hK;obtain ⟨f0,f1,f2,f3,f4,f5⟩:=hf it (by simp);have W:=Walks.range (prog:=X.prog) (w:=X.w) (I.ok.hd hc) it lo 1 n;refine W.item i s _ _ hg st λv h' tk hv st' kk=>?_;obtain ⟨t,rfl⟩:=hv;have I1:Inv X pins σ H { s with heap:=h',toks:=tk }:=I.turned (λb o hb e=>kk b o (by simpa using hb) e) f0 f1 f3 f4 f5;refine ⟨_,rfl,zcg (s:={ s with heap:=h',toks:=tk }) (n := "range_iterator") st' rfl rfl (by decide) ⟨.int (lo+i),H,I1,⟨t,?_⟩,⟨rfl,rfl⟩,st',λb hb=>(hf b hb).1⟩⟩;rw[Int.mul_one]
 done:=by
  intro X hP hw hK hc i pins s σ H E I hf st hg;subst hP hw hK;obtain ⟨f0,f1,f2,f3,f4,f5⟩:=hf it (by simp);exact wpAny_pyNext_range_end (I.ok.hd hc) st (by have:n<=i:=hg;lia) λh' eb=>⟨rfl,I.turned (t':=s.toks) (λb o hb e=>eb b o hb e) f0 f1 f3 f4 f5⟩
 self:=λ_ _ _ _ _ st h=>wpAny_pyIter_rangeiter st h
section
variable {X:Cx}{tg:Expr}
def zhZ (K:PySem.W.Frag)(tl:TE):TI:=λσ H R=>tl σ H λx H1=>∃a,x=.ref a/\(∃xs,SqL K H1 a xs)/\R (Itl K a) H1
def iTup (K:PySem.W.Frag)(tl:TE):TI:=λσ H R=>tl σ H λx H1=>∃a,x=.ref a/\(∃xs,SqT K H1 a xs)/\R (Itt K a) H1
theorem zef {l:Expr}{tl:TE}(hl:PE X l tl):PI X tg l (zhZ X.K tl):=by
 intro pins s σ H R I h;refine thn (hl pins s σ H _ I h) λv s1 ⟨x,H1,I1,r1,q1⟩=>?_;obtain ⟨a,e,⟨xs,hq⟩,q⟩:=q1;subst e;cases r1;obtain ⟨its,rv,p,hz⟩:=I1.list hq;refine wpAny_pyIter_list p.isList ?_;refine ⟨s1.heap.objs.size,[s1.heap.objs.size],_,_,H1,rfl,I1.kept (t':=s1.toks) λb o e=>Heap.get?_push_of_some _ e,za9 a _,⟨_,Heap.get?_push_size _ rfl,rfl,rfl⟩,λb hb=>?_,q⟩;have e:b=s1.heap.objs.size:=by simpa using hb
 subst e;exact I1.fpOk (Nat.le_refl _) (I1.hok.fresh (Nat.le_refl _))
theorem zgl {l:Expr}{tl:TE}(hl:PE X l tl):PI X tg l (iTup X.K tl):=by
 intro pins s σ H R I h;refine thn (hl pins s σ H _ I h) λv s1 ⟨x,H1,I1,r1,q1⟩=>?_;obtain ⟨a,e,⟨xs,hq⟩,q⟩:=q1;subst e;cases r1;obtain ⟨its,rv,p,hz⟩:=I1.tuple hq;refine wpAny_pyIter_tuple (show s1.heap.IsTuple a its.toArray from p) ?_;refine ⟨s1.heap.objs.size,[s1.heap.objs.size],_,_,H1,rfl,I1.kept (t':=s1.toks) λb o e=>Heap.get?_push_of_some _ e,qx a _,⟨_,Heap.get?_push_size _ rfl,rfl,rfl⟩,λb hb=>?_,q⟩;have e:b=s1.heap.objs.size:=by simpa using hb
 subst e;exact I1.fpOk (Nat.le_refl _) (I1.hok.fresh (Nat.le_refl _))
theorem gr {pins:List (Addr×Obj)}{σ:St}{H:Hp}{s:Shared}{R:It->Hp->Prop}{E:Value->Shared->Prop}{lo hi:Int}{t u v:Tok}{tk:Nat}(I:Inv X pins σ H s)(h1:-(2 ^ 62)<=lo)(h2:lo < 2 ^ 62)(h3:-(2 ^ 62)<=hi)(h4:hi < 2 ^ 62)
  (q:R (Itr lo (hi - lo).toNat) H):wpAny (model X.prog X.w) X.A (pyIter (.ref s.heap.objs.size)) (PIE X pins σ tg R) E { s with heap:=s.heap.push { cls:=.type "range",data:=.fields #[.int lo t,.int hi u,.int 1 v] },toks:=tk }:=by
 refine wpAny_pyIter_range (IsRange.new ..) (small_one h1 h2 h3 h4) ?_;have I1:Inv X pins σ H { s with heap:=s.heap.push { cls:=.type "range",data:=.fields #[.int lo t,.int hi u,.int 1 v] },toks:=tk }:=I.kept λb o e=>Heap.get?_push_of_some _ e;refine ⟨(s.heap.push { cls:=.type "range",data:=.fields #[.int lo t,.int hi u,.int 1 v] }).objs.size,[(s.heap.push { cls:=.type "range",data:=.fields #[.int lo t,.int hi u,.int 1 v] }).objs.size],_,_,H,rfl,
  I1.kept (t':=tk) λb o e=>Heap.get?_push_of_some _ e,qy _ lo (hi - lo).toNat,?_,λb hb=>?_,q⟩
 .have e1:lo+((0:Nat):Int) * 1=lo:=by simp
  have e2:(((hi - lo).toNat:Nat):Int) - ((0:Nat):Int)=Builtin.Range.rangeSize lo hi 1:=by rw[rangeSize_one];split <;> lia
  show IsRangeIter _ _ (lo+((0:Nat):Int) * 1) ((((hi - lo).toNat:Nat):Int) - ((0:Nat):Int)) 1;rw[e1,e2];exact Heap.get?_push_size _ rfl
 .have e:b=(s.heap.push { cls:=.type "range",data:=.fields #[.int lo t,.int hi u,.int 1 v] }).objs.size:=by simpa using hb
  subst e;exact I1.fpOk (Nat.le_refl _) (I1.hok.fresh (Nat.le_refl _))
def zh0 (ta:TA):TI:=λσ H R=>ta σ H λvs H1=>∃j:Int,vs=[.int j]/\-(2 ^ 62)<=j/\j < 2 ^ 62/\R (Itr 0 j.toNat) H1
def zh1 (ta:TA):TI:=λσ H R=>ta σ H λvs H1=>∃i j:Int,vs=[.int i,.int j]/\(-(2 ^ 62)<=i/\i < 2 ^ 62/\-(2 ^ 62)<=j/\j < 2 ^ 62)/\R (Itr i (j - i).toNat) H1
theorem zba {a:Expr}{ta:TA}{p pos:Pos}(hg:Gl X "range")(hm:X.mg "range" = none)(ha:PA X [a] ta)(hs:starEach [a] X.env=[(false,eval a X.env)]:=by rfl):PI X tg (.Call (.Name "range" p) [a] [] pos) (zh0 ta):=by
 intro pins s σ H R I h;refine Call_ (xQ I hg hm boot_range (PyProof.Rows.callWith_type1 (thn (ha pos pins s σ H _ I h) λus s1 ⟨vs,H1,I1,r1,q1⟩=>?_) hs rfl));obtain ⟨j,e,q1,q2,q⟩:=q1;subst e;cases r1 with
 | cons r rr =>
  cases rr;obtain ⟨t,rfl⟩:=r;exact call_range_1 (gr I1 (by lia) (by lia) q1 q2 (by simpa using q))
theorem zbb {a b:Expr}{ta:TA}{p pos:Pos}(hg:Gl X "range")(hm:X.mg "range" = none)(ha:PA X [a,b] ta)(hs:starEach [a,b] X.env=[(false,eval a X.env),(false,eval b X.env)]:=by rfl)(hs2:starEach [b] X.env=[(false,eval b X.env)]:=by rfl):
  PI X tg (.Call (.Name "range" p) [a,b] [] pos) (zh1 ta):=by
 intro pins s σ H R I h;refine Call_ (xQ I hg hm boot_range (PyProof.Rows.callWith_type1 (thn (ha pos pins s σ H _ I h) λus s1 ⟨vs,H1,I1,r1,q1⟩=>?_) (by rw[hs,hs2]) (by rw[hs2];rfl)));obtain ⟨i,j,e,⟨q1,q2,q3,q4⟩,q⟩:=q1;subst e;cases r1 with
 | cons r rr =>
  cases rr with
  | cons r' rr =>
   cases rr;obtain ⟨t,rfl⟩:=r;obtain ⟨t',rfl⟩:=r';exact call_range_2 (gr I1 q1 q2 q3 q4 q)
def zh2 (wi:TI)(g:TG)(tb:TS):TS:=λD σ H=>wi σ H λJ H1=>∃W:Nat->Nat->St->Hp->Prop,(∃m,W 0 m σ H1)/\∀i m σ H,W i m σ H ->
 (J.stop i H/\D.nx σ H)\/(J.go i H/\∃N:St->Hp->Prop,(∀σ' H',N σ' H'->∃m',m' < m/\W (i+1) m' σ' H')/\∀x H',J.yld i H x H'->g x σ H' λσ2 H2=>tb { D with nx:=N,ct:=N,bk:=D.nx } σ2 H2)
noncomputable def kA (fp:List Addr)(h:Heap):List (Addr×Obj):=fp.filterMap λb=>(h.get? b).map λo=>(b,o)
theorem x8 {fp:List Addr}{h:Heap}{b:Addr}{o:Obj}(hb:b∈fp)(e:h.get? b=some o):(b,o)∈kA fp h:=List.mem_filterMap.mpr ⟨b,hb,by rw[e];rfl⟩
theorem zbc {fp:List Addr}{h:Heap}{p:Addr×Obj}(hp:p∈kA fp h):p.1∈fp/\h.get? p.1=some p.2:=by
 obtain ⟨b,hb,e⟩:=List.mem_filterMap.mp hp;cases q:h.get? b with
 | none=>rw[q] at e;cases e
 | some o =>
  rw[q] at e;have e':(b,o)=p:=Option.some.inj e;subst e';exact ⟨hb,q⟩
theorem Inv.pinned {pins:List (Addr×Obj)}{σ:St}{H:Hp}{s:Shared}{fp:List Addr}(I:Inv X pins σ H s)(hf:∀b∈fp,vY X pins H b)(ho:∀b∈fp,∃o,s.heap.get? b=some o/\∀v,o.data≠.cell v):Inv X (pins++kA fp s.heap) σ H s :=
 I.pins_of λp hp=>(List.mem_append.mp hp).elim (λz=>I.pin p (List.mem_append_right _ z)) λz=>by
  obtain ⟨hb,e⟩:=zbc z;obtain ⟨f0,f1,f2,_⟩:=hf p.1 hb;obtain ⟨o,e',d⟩:=ho p.1 hb;rw[e] at e';cases e';exact ⟨e,f0,f1,f2,d⟩
theorem Inv.unpinned {pins pl:List (Addr×Obj)}{σ:St}{H:Hp}{s:Shared}(I:Inv X (pins++pl) σ H s):Inv X pins σ H s:=I.pins_of λp hp=>I.pin p (List.mem_append_right _ (List.mem_append_left _ hp))
theorem zch {iter:Expr}{body:List Stmt}{wi:TI}{g:TG}{tb:TS}{pos:Pos}(hp:PassesOwn (model X.prog X.w) X.A X.env X.xe)(hc:X.calm=true)(hi:PI X tg iter wi)(hg:PG X tg g)(hb:PSs X body tb)
  (hs:∀x,foldedSetIterable iter X.env x=pure x:=by intro _;rfl):PS X (.For tg iter body [] pos) (zh2 wi g tb):=by
 intro pins s σ H D I h;refine wpAny_For (thn (hi pins s σ H _ I h) λv s1 h1=>thn h1 λitv s2 h2=>?_) hs;obtain ⟨it,fp,tn,J,H2,e,I2,T,st2,f2,W,⟨m0,w0⟩,turn⟩:=h2;subst e
 -- what stays true of the iterator's objects through the loop
 have stat:∀ {H':Hp},(∀b∈fp,H' b=none)->∀b∈fp,vY X pins H' b:=λhn b hb=>⟨hn b hb,(f2 b hb).2⟩;refine codeAny_forLoop_any (λn s'=>∃i σ' H',Inv X pins σ' H' s'/\tn i s'.heap/\(∀b∈fp,H' b=none)/\W i n σ' H') ?_ m0 ⟨0,σ,H2,I2,st2,λb hb=>(f2 b hb).1,w0⟩;rintro n s3 ⟨i,σ3,H3,I3,st3,fr3,w3⟩;rcases turn i n σ3 H3 w3 with ⟨stop,qn⟩ | ⟨go,N,hN,step⟩
 .refine wpAny_passesOwn hp (thn (T.done X rfl rfl rfl hc i pins s3 σ3 H3 X.xe I3 (stat fr3) st3 stop) λr s4 ⟨hr,I4⟩=>?_);subst hr;exact wpAny_execs_nil ⟨σ3,H3,I4,qn⟩
 .refine wpAny_passesOwn hp (thn (T.item X rfl rfl rfl hc i pins s3 σ3 H3 X.xe I3 (stat fr3) st3 go) λr s4 ⟨u,hr,h4⟩=>?_);subst hr;refine wpAny_passesOwn hp (thn h4 λ_ s5 ⟨x,H5,I5,r5,y5,st5,fr5⟩=>?_);have I5':=I5.pinned (stat fr5) (T.obj _ _ st5);refine wpAny_passesOwn hp (thn (hg _ s5 σ3 H5 x u _ I5' r5 (step x H5 y5)) λ_ s6 ⟨σ6,H6,I6,q6⟩=>?_);refine wpAny_passesOwn hp (thn (hb _ s6 σ6 H6 _ I6 q6) λf s7 q7=>?_);have again:∀ {σ7:St}{H7:Hp},Inv X (pins++kA fp s5.heap) σ7 H7 s7->N σ7 H7->∃m,m < n/\∃i σ' H',Inv X pins σ' H' s7/\tn i s7.heap/\(∀b∈fp,H' b=none)/\W i m σ' H':=λ{σ7 H7} I7 n7=>by
   obtain ⟨m',hm,w7⟩:=hN σ7 H7 n7;refine ⟨m',hm,i+1,σ7,H7,I7.unpinned,T.keep _ _ _ st5 λb hb o e=>(I7.pin (b,o) (List.mem_append_right _ (List.mem_append_right _ (x8 hb e)))).1,λb hb=>?_,w7⟩;obtain ⟨o,e,d⟩:=T.obj _ _ st5 b hb;exact (I7.pin (b,o) (List.mem_append_right _ (List.mem_append_right _ (x8 hb e)))).2.1
  cases f with
  | next=>obtain ⟨σ7,H7,I7,n7⟩:=q7;exact again I7 n7
  | cont=>obtain ⟨σ7,H7,I7,n7⟩:=q7;exact again I7 n7
  | brk=>obtain ⟨σ7,H7,I7,q7⟩:=q7;exact ⟨σ7,H7,I7.unpinned,q7⟩
  | ret v=>obtain ⟨x7,σ7,H7,I7,r7,q7⟩:=q7;exact ⟨x7,σ7,H7,I7.unpinned,r7,q7⟩
end
abbrev R2:=V->V->Hp->VK->Prop
def OpR (X:Cx)(f:Value->Value->Sem Value)(r:R2):Prop :=
 ∀ (pins:List (Addr×Obj)) (s:Shared) (σ:St) (H:Hp) (x y:V) (v u:Value) (Q:VK),Inv X pins σ H s->RelV x v->RelV y u->r x y H Q ->
  wpAny (model X.prog X.w) X.A (f v u) (EP X pins σ Q) X.xe s
def UnR (X:Cx)(f:Value->Sem Value)(r:V->Hp->VK->Prop):Prop :=
 ∀ (pins:List (Addr×Obj)) (s:Shared) (σ:St) (H:Hp) (x:V) (v:Value) (Q:VK),Inv X pins σ H s->RelV x v->r x H Q ->
  wpAny (model X.prog X.w) X.A (f v) (EP X pins σ Q) X.xe s
def CallR (X:Cx)(f:Value)(r:List V->Hp->VK->Prop):Prop :=
 ∀ (pins:List (Addr×Obj)) (s:Shared) (σ:St) (H:Hp) (xs:List V) (us:List Value) (Q:VK),Inv X pins σ H s->Vals xs us->r xs H Q ->
  wpAny (model X.prog X.w) X.A (call f us) (EP X pins σ Q) X.xe s
def tOp (r:R2)(ta tb:TE):TE:=λσ H Q=>ta σ H λx H1=>tb σ H1 λy H2=>r x y H2 Q
def tUn (r:V->Hp->VK->Prop)(ta:TE):TE:=λσ H Q=>ta σ H λx H1=>r x H1 Q
def rI (C:Int->Int->Prop)(g:Int->Int->V):R2:=λx y H Q=>∃i j,x=.int i/\y=.int j/\C i j/\Q (g i j) H
def rI0 (g:Int->Int->V):R2:=λx y H Q=>∃i j,x=.int i/\y=.int j/\Q (g i j) H
def rU (g:Int->V):V->Hp->VK->Prop:=λx H Q=>∃i,x=.int i/\Q (g i) H
section
variable {X:Cx}{a b:Expr}{ta tb:TE}{pos:Pos}
theorem zgm (ha:PE X a ta)(hb:PE X b tb){pins:List (Addr×Obj)}{s:Shared}{σ:St}{H:Hp}{R:V->V->Hp->Prop}(I:Inv X pins σ H s)
  (h:ta σ H λx H1=>tb σ H1 λy H2=>R x y H2) {Q:Value->Shared->Prop}{f:Value->Value->Sem Value}
  (hf:∀v u s2 x y H2,Inv X pins σ H2 s2->RelV x v->RelV y u->R x y H2->wpAny (model X.prog X.w) X.A (f v u) Q X.xe s2) :
  wpAny (model X.prog X.w) X.A (eval a X.env) (λv s₁=>wpAny (model X.prog X.w) X.A (eval b X.env) (λu s₂=>wpAny (model X.prog X.w) X.A (f v u) Q X.xe s₂) X.xe s₁) X.xe s:=by
 refine thn (ha pins s σ H _ I h) λv s1 ⟨x,H1,I1,r1,q1⟩=>?_;refine thn (hb pins s1 σ H1 _ I1 q1) λu s2 ⟨y,H2,I2,r2,q2⟩=>?_;exact hf v u s2 x y H2 I2 r1 r2 q2
theorem zh3 {op:Operator}{r:R2}(ho:OpR X (binaryOp op) r)(ha:PE X a ta)(hb:PE X b tb):PE X (.BinOp a op b pos) (tOp r ta tb):=by
 intro pins s σ H Q I h;exact wpAny_BinOp (zgm ha hb I h λv u s2 x y H2 I2 rx ry q=>ho pins s2 σ H2 x y v u Q I2 rx ry q)
theorem zh4 {op:UnaryOp}{r:V->Hp->VK->Prop}(ho:UnR X (unaryOp op) r)(ha:PE X a ta):PE X (.UnaryOp op a pos) (tUn r ta):=by
 intro pins s σ H Q I h;exact UnaryOp_ (thn (ha pins s σ H _ I h) λv s1 ⟨x,H1,I1,r1,q1⟩=>ho pins s1 σ H1 x v Q I1 r1 q1)
theorem opI {f:Value->Value->Sem Value}{C:Int->Int->Prop}{g:Int->Int->Int}
  (rule:∀ (i j:Int) (t u:Tok) (s:Shared) (Q:Value->Shared->Prop) (E:Value->Shared->Prop),C i j->Q (.int (g i j) s.toks) { s with toks:=s.toks+1 }->wpAny (model X.prog X.w) X.A (f (.int i t) (.int j u)) Q E s) :
  OpR X f (rI C λi j=>.int (g i j)):=by
 intro pins s σ H x y v u Q I rx ry h;obtain ⟨i,j,rfl,rfl,hc,q⟩:=h;obtain ⟨t,rfl⟩:=rx;obtain ⟨t',rfl⟩:=ry;exact rule i j t t' s _ _ hc ⟨.int (g i j),H,I.tok _,⟨_,rfl⟩,q⟩
theorem zgn {f:Value->Value->Sem Value}{g:Int->Int->Int}
  (rule:∀ (i j:Int) (t u:Tok) (s:Shared) (Q:Value->Shared->Prop) (E:Value->Shared->Prop),Q (.int (g i j) s.toks) { s with toks:=s.toks+1 }->wpAny (model X.prog X.w) X.A (f (.int i t) (.int j u)) Q E s) :
  OpR X f (rI0 λi j=>.int (g i j)):=by
 intro pins s σ H x y v u Q I rx ry h;obtain ⟨i,j,rfl,rfl,q⟩:=h;obtain ⟨t,rfl⟩:=rx;obtain ⟨t',rfl⟩:=ry;exact rule i j t t' s _ _ ⟨.int (g i j),H,I.tok _,⟨_,rfl⟩,q⟩
theorem zeg {f:Value->Value->Sem Value}{g:Int->Int->Bool}
  (rule:∀ (i j:Int) (t u:Tok) (s:Shared) (Q:Value->Shared->Prop) (E:Value->Shared->Prop),Q (.bool (g i j)) s->wpAny (model X.prog X.w) X.A (f (.int i t) (.int j u)) Q E s) :
  OpR X f (rI0 λi j=>.bl (g i j)):=by
 intro pins s σ H x y v u Q I rx ry h;obtain ⟨i,j,rfl,rfl,q⟩:=h;obtain ⟨t,rfl⟩:=rx;obtain ⟨t',rfl⟩:=ry;exact rule i j t t' s _ _ ⟨.bl (g i j),H,I,rfl,q⟩
def zh5 (i j:Int):Prop:=0 < j/\j < 1073741824
def zh6 (i j:Int):Prop:=0<=j/\j<=1000000/\i.natAbs < 2 ^ 64
def CMul (i j:Int):Prop:=(-(2 ^ 64) < i/\i < 2 ^ 64)\/(-(2 ^ 64) < j/\j < 2 ^ 64)
theorem CMul.ok {i j:Int}(h:CMul i j):IntMulOk i j:=by
 rcases h with ⟨h1,h2⟩ | ⟨h1,h2⟩
 .exact .of_left (intBits_le_64 h1 h2)
 .exact .of_right (intBits_le_64 h1 h2)
theorem qz (k:Nat):(0:Int)<=2 ^ k:=by
 rw[two_pow_cast];exact Int.natCast_nonneg _
theorem op_add:OpR X (binaryOp .Add) (rI0 λi j=>.int (i+j)):=zgn λ_ _ _ _ _ _ _ q=>add_int q
theorem zgo:OpR X (binaryOp .Sub) (rI0 λi j=>.int (i - j)):=zgn λ_ _ _ _ _ _ _ q=>sub_int q
theorem op_mul:OpR X (binaryOp .Mult) (rI CMul λi j=>.int (i * j)):=opI λ_ _ _ _ _ _ _ hc q=>mul_int q hc.ok
theorem zeh:OpR X (binaryOp .FloorDiv) (rI zh5 λi j=>.int (i / j)):=opI λi j _ _ _ _ _ hc q=>by
 have h1:(0:Int) < j:=hc.1;have h2:j < 1073741824:=hc.2;exact floordiv_int (by lia) (by rw[Int.fdiv_eq_ediv_of_nonneg i (by lia)];exact q) (.inl (PyProof.noPylong_small (by lia)))
theorem zgp:OpR X (binaryOp .Mod) (rI (λ_ j=>0 < j) λi j=>.int (i % j)):=opI λi j _ _ _ _ _ hc q=>by
 have h1:(0:Int) < j:=hc;exact mod_int' (by lia) (by rw[Int.fmod_eq_emod_of_nonneg i (by lia)];exact q)
theorem zgq:OpR X (binaryOp .Pow) (rI zh6 λi j=>.int (i ^ j.toNat)):=opI λ_ _ _ _ _ _ _ hc q=>pow_int_small hc.1 hc.2.1 hc.2.2 q
theorem zgr:OpR X (binaryOp .RShift) (rI (λ_ j=>0<=j) λi j=>.int (i / 2 ^ j.toNat)):=opI λi j _ _ _ _ _ hc q =>
 rshift_int hc (by rw[Int.fdiv_eq_ediv_of_nonneg i (qz _)];exact q)
theorem zgs:OpR X (binaryOp .BitAnd) (rI0 λi j=>.int (Builtin.bitAnd i j)):=zgn λ_ _ _ _ _ _ _ q=>and_int q
theorem unI {f:Value->Sem Value}{g:Int->Int}
  (rule:∀ (i:Int) (t:Tok) (s:Shared) (Q:Value->Shared->Prop) (E:Value->Shared->Prop),Q (.int (g i) s.toks) { s with toks:=s.toks+1 }->wpAny (model X.prog X.w) X.A (f (.int i t)) Q E s) :
  UnR X f (rU λi=>.int (g i)):=by
 intro pins s σ H x v Q I rx h;obtain ⟨i,rfl,q⟩:=h;obtain ⟨t,rfl⟩:=rx;exact rule i t s _ _ ⟨.int (g i),H,I.tok _,⟨_,rfl⟩,q⟩
theorem zgt:UnR X (unaryOp .USub) (rU λi=>.int (-i)):=unI λ_ _ _ _ _ q=>neg_int q
end
section
variable {X:Cx}{a b c:Expr}{ta tb tc:TE}{pos:Pos}
theorem zgu {pins:List (Addr×Obj)}{σ:St}{H:Hp}{s:Shared}{Q:VK}{k k':Bool}(I:Inv X pins σ H s)(q:Q (.bl k) H)(e:k=k'):EP X pins σ Q (.bool k') s:=by
 subst e;exact ⟨.bl k,H,I,rfl,q⟩
theorem zh7:OpR X (compareOp .Lt) (rI0 λi j=>.bl (decide (i < j))):=zeg λ_ _ _ _ _ _ _ q=>lt_int q
theorem zh8:OpR X (compareOp .LtE) (rI0 λi j=>.bl (decide (i<=j))):=zeg λ_ _ _ _ _ _ _ q=>le_int q
theorem zh9:OpR X (compareOp .Gt) (rI0 λi j=>.bl (decide (j < i))):=zeg λ_ _ _ _ _ _ _ q=>gt_int q
theorem zia:OpR X (compareOp .GtE) (rI0 λi j=>.bl (decide (j<=i))):=zeg λ_ _ _ _ _ _ _ q=>ge_int q
theorem zei:OpR X (compareOp .IsNot) (λx y H Q=>y=.non/\Q (.bl (! decide (x=.non))) H):=by
 intro pins s σ H x y v u Q I rx ry h;obtain ⟨rfl,q⟩:=h;cases ry;refine isnot_none_gen (zgu I q ?_);cases x <;> first
  | (cases rx;rfl)
  | (obtain ⟨t,rfl⟩:=rx;rfl)
theorem OpR.or {f:Value->Value->Sem Value}{r r':R2}(h:OpR X f r)(h':OpR X f r'):OpR X f (λx y H Q=>r x y H Q\/r' x y H Q):=by
 intro pins s σ H x y v u Q I rx ry q;rcases q with q | q
 .exact h pins s σ H x y v u Q I rx ry q
 .exact h' pins s σ H x y v u Q I rx ry q
theorem zej {op:CmpOp}{r:R2}(ho:OpR X (compareOp op) r)(ha:PE X a ta)(hb:PE X b tb)(hm:behindInMarks op b=false):PE X (.Compare a [op] [b] pos) (tOp r ta tb):=by
 intro pins s σ H Q I h;exact wpAny_Compare1 (zgm ha hb I h λv u s2 x y H2 I2 rx ry q=>ho pins s2 σ H2 x y v u Q I2 rx ry q) hm
def zfJ (t:TE):TT:=λσ H Q=>t σ H λx H'=>∃k,x=.bl k/\Q k H'
theorem zek {op:CmpOp}{r:R2}(ho:OpR X (compareOp op) r)(ha:PE X a ta)(hb:PE X b tb)(hm:behindInMarks op b=false):PT X (.Compare a [op] [b] pos) (zfJ (tOp r ta tb)):=by
 intro pins s σ H Q I h;refine wpAny_isTrue_Compare1 (thn (ha pins s σ H _ I h) λv s1 ⟨x,H1,I1,r1,q1⟩=>thn (hb pins s1 σ H1 _ I1 q1) λu s2 ⟨y,H2,I2,r2,q2⟩ =>
  thn (ho pins s2 σ H2 x y v u _ I2 r1 r2 q2) λc s3 ⟨z,H3,I3,r3,k,e,q3⟩=>?_) hm
 subst e;cases r3;exact wpAny_truthy_bool ⟨H3,I3,q3⟩
def qA (r r':R2)(ta tb tc:TE):TE:=λσ H Q=>ta σ H λx H1=>tb σ H1 λy H2=>r x y H2 λz H3=>∃k,z=.bl k /\
 (if k=true then tc σ H3 λw' H4=>r' y w' H4 Q else Q (.bl false) H3)
theorem zci {op op':CmpOp}{r r':R2}(ho:OpR X (compareOp op) r)(ho':OpR X (compareOp op') r')(ha:PE X a ta)(hb:PE X b tb)(hc:PE X c tc)
  (hm:lastMarks [op,op'] [b,c]=false:=by with_unfolding_all rfl):PE X (.Compare a [op,op'] [b,c] pos) (qA r r' ta tb tc):=by
 intro pins s σ H Q I h;refine Compare_chain (thn (ha pins s σ H _ I h) λv s1 ⟨x,H1,I1,r1,q1⟩=>chain_link (thn (hb pins s1 σ H1 _ I1 q1) λu s2 ⟨y,H2,I2,r2,q2⟩ =>
  thn (ho pins s2 σ H2 x y v u _ I2 r1 r2 q2) λd s3 ⟨z,H3,I3,r3,k,e,q3⟩=>?_)) hm
 subst e;cases r3;refine wpAny_truthy_bool ?_;cases k with
 | false=>exact ite_ff ⟨.bl false,H3,I3,rfl,q3⟩
 | true=>exact ite_tt (chain_last (thn (hc pins s3 σ H3 _ I3 q3) λw' s4 ⟨z',H4,I4,r4,q4⟩=>ho' pins s4 σ H4 y z' u w' Q I4 r2 r4 q4))
theorem zcj {op op':CmpOp}{r r':R2}(ho:OpR X (compareOp op) r)(ho':OpR X (compareOp op') r')(ha:PE X a ta)(hb:PE X b tb)(hc:PE X c tc)
  (hm:lastMarks [op,op'] [b,c]=false:=by with_unfolding_all rfl):PT X (.Compare a [op,op'] [b,c] pos) (zfJ (qA r r' ta tb tc)):=by
 intro pins s σ H Q I h;refine isTrue_chain (thn (ha pins s σ H _ I h) λv s1 ⟨x,H1,I1,r1,q1⟩=>test_link (thn (hb pins s1 σ H1 _ I1 q1) λu s2 ⟨y,H2,I2,r2,q2⟩ =>
  thn (ho pins s2 σ H2 x y v u _ I2 r1 r2 q2) λd s3 ⟨z,H3,I3,r3,k,e,q3⟩=>?_)) hm
 subst e;cases r3;refine wpAny_truthy_bool ?_;cases k with
 | false =>
  obtain ⟨k',e',q'⟩:=q3;cases e';exact ite_ff ⟨H3,I3,q'⟩
 | true =>
  refine ite_tt (test_last (thn (hc pins s3 σ H3 _ I3 q3) λw' s4 ⟨z',H4,I4,r4,q4⟩=>thn (ho' pins s4 σ H4 y z' u w' _ I4 r2 r4 q4) λd' s5 ⟨z2,H5,I5,r5,k2,e2,q5⟩=>?_));subst e2;cases r5;exact wpAny_truthy_bool ⟨H5,I5,q5⟩
theorem jH:(sizeLine:Nat) < 2 ^ 63:=by rw[sizeLine_eq];decide
theorem vP {x:V}{us:List Value}(r:Vals [x] us):∃u,us=[u]/\RelV x u:=by
 cases r with
 | cons r1 r2=>cases r2;exact ⟨_,rfl,r1⟩
theorem zfK {x y:V}{us:List Value}(r:Vals [x,y] us):∃u w',us=[u,w']/\RelV x u/\RelV y w':=by
 cases r with
 | cons r1 r2 =>
  cases r2 with
  | cons r3 r4=>cases r4;exact ⟨_,_,rfl,r1,r3⟩
theorem zck:CallR X (.builtin "abs") (λxs H Q=>∃i,xs=[.int i]/\Q (.int (if i < 0 then -i else i)) H):=by
 intro pins s σ H xs us Q I r h;obtain ⟨i,rfl,q⟩:=h;obtain ⟨u,rfl,t,rfl⟩:=vP r;exact call_abs_int λu tk=>⟨.int (if i < 0 then -i else i),H,I.tok _,⟨_,rfl⟩,q⟩
theorem zbd (hc:X.calm=true):CallR X (.builtin "max") (λxs H Q=>∃i j,xs=[.int i,.int j]/\Q (.int (if j > i then j else i)) H):=by
 intro pins s σ H xs us Q I r h;obtain ⟨i,j,rfl,q⟩:=h;obtain ⟨u,w',rfl,⟨t,rfl⟩,⟨t',rfl⟩⟩:=zfK r;refine max_two_ints (I.ok.hd hc) λh' tk k=>⟨_,H,I.kept k,?_,q⟩;by_cases hj:j > i
 .rw[if_pos hj,if_pos hj];exact ⟨_,rfl⟩
 .rw[if_neg hj,if_neg hj];exact ⟨_,rfl⟩
theorem zbe:CallR X (.type "int") (λxs H Q=>(∃i,xs=[.int i]/\Q (.int i) H)\/∃k,xs=[.bl k]/\Q (.int (if k then 1 else 0)) H):=by
 intro pins s σ H xs us Q I r h;rcases h with ⟨i,rfl,q⟩ | ⟨k,rfl,q⟩
 .obtain ⟨u,rfl,t,rfl⟩:=vP r;exact call_int_int ⟨.int i,H,I,⟨_,rfl⟩,q⟩
 .obtain ⟨u,rfl,r1⟩:=vP r;cases r1;exact call_int_bool ⟨.int (if k then 1 else 0),H,I.tok _,⟨_,rfl⟩,q⟩
end
structure ObjM (h:Heap)(x dx C:Addr)(mA:Str->Option Value):Prop where
 obj:h.get? x=some (PySem.W.instObj C dx)
 ns:h.Ns1 dx mA
 ne:dx≠x
set_option tactic.hygienic true in
theorem zbf {h:Heap}{dx:Addr}{mA:Str->Option Value}(n:h.Ns1 dx mA):∃od,h.get? dx=some od/\∀name,PySem.W.lookIn name od=some (mA name):=by
 obtain ⟨o,es,ep,ho,hd,hk,_,hm⟩:=n;refine ⟨o,ho,λname=>?_⟩;have e:=hm name;unfold nsFind findBy at e;rw[<- Array.find?_toList] at e;unfold PySem.W.lookIn;rw[hd];dsimp only;split
 .rename_i y q;rw[q] at e;exact congrArg some e
 .rename_i q;rw[q] at e;have a:es.toList.any (·.refKey)=false:=by
   rw[List.any_eq_false];intro y hy;obtain ⟨z,t,hkey⟩:=hk y (Array.mem_toList_iff.mp hy);simp[DictEntry.refKey,hkey]
  have a':¬ es.toList.any (·.refKey)=true:=by rw[a];exact Bool.false_ne_true
  rw[if_neg a'];exact congrArg some e
theorem ObjM.look {h:Heap}{x dx C:Addr}{mA:Str->Option Value}(I:ObjM h x dx C mA):∃od,PySem.W.InstAt h x (PySem.W.instObj C dx) C (some od)/\∀name,PySem.W.lookIn name od=some (mA name) :=
 let ⟨od,ho,hl⟩:=zbf I.ns
 ⟨od,⟨I.obj,rfl,rfl,ho⟩,hl⟩
section
variable {P:Program}{w:World}{H:Hp}{h:Heap}{a C dx:Addr}{fs:List (Str×V)}
theorem zel (hok:HOk P w H h)(e:H a=some (.ins C dx fs)):∃mA,ObjM h a dx C mA/\(∀f,zf6 (fs.lookup f) (mA f))/\PySem.Within mA (fs.map (·.1))/\fs.length<=1000/\H dx=some (.own a):=by
 obtain ⟨d,z,ne,ob,mA,n,r,q⟩:=(show ObjOk P w H h a (.ins C dx fs) from hok a _ e);exact ⟨mA,⟨ob,n,ne⟩,r,q,z,d⟩
end
structure Cls (K:PySem.W.Frag)(C:Addr):Prop where
 pg:PySem.W.plainGet K C Str.empty=true
 hd:PySem.W.hasDictIn K C=true
 po:PySem.W.plainOver K C=true
 sa:PySem.W.findIn K (.ref C) "__setattr__" = some (some (.builtin "object.__setattr__"))
theorem Cls.get {K:PySem.W.Frag}{C:Addr}(c:Cls K C)(f:Str):PySem.W.plainGet K C f=true:=c.pg
section
variable {X:Cx}{pins:List (Addr×Obj)}{σ:St}{H:Hp}{s:Shared}{A:Around}{E:Value->Shared->Prop}{Q:Value->Shared->Prop}{c:Value}{b:Bool}
inductive TyOf (K:PySem.W.Frag)(H:Hp):V->Value->Prop where
 | non:TyOf K H .non (.type "NoneType")
 | bl (x:Bool):TyOf K H (.bl x) (.type "bool")
 | int (i:Int):TyOf K H (.int i) (.type "int")
 | str (x:Str):TyOf K H (.str x) (.type "str")
 | flt (x:UInt64):TyOf K H (.flt x) (.type "float")
 | lst {a:Addr}{xs:List V}(e:H a=some (.lst xs)):TyOf K H (.ref a) (.type "list")
 | frz {a:Addr}{o:Obj}{xs:List V}(e:H a=some (.frz o (.lst xs))):TyOf K H (.ref a) (.type "list")
 | tup {a:Addr}{xs:List V}(e:H a=some (.tup xs)):TyOf K H (.ref a) (.type "tuple")
 | dK {a:Addr}{kvs:List (Key×V)}(e:H a=some (.dK kvs)):TyOf K H (.ref a) (.type "dict")
 | dT {a:Addr}{kvs:List (List Key×V)}(e:H a=some (.dT kvs)):TyOf K H (.ref a) (.type "dict")
 | ins {a C dx:Addr}{fs:List (Str×V)}(e:H a=some (.ins C dx fs)) (cl:Cls K C) (ha:PySem.W.findIn K (.ref C) "__class__" = some (some (.builtin "object.__class__")))
   (hn:PySem.W.specialIn K (.builtin "object.__class__") "__get__" = some (some (.builtin "getset_descriptor.__get__"))) (htk:PySem.W.takesIn K (.builtin "object.__class__")=some true)
   (hm:PySem.W.mroIn K C (.type "object")=some true):TyOf K H (.ref a) (.ref C)
theorem xX {x:V}{u t:Value}(I:Inv X pins σ H s)(rx:RelV x u)(ty:TyOf X.K H x t)(e:PySem.W.kitOne X.K t c=some b)(h:∀tk,Q (.bool b) { s with toks:=tk }):
  wpAny (model X.prog X.w) A (call (.builtin "isinstance") [u,c]) Q E s:=by
 cases ty with
 | non=>cases (show u=Value.none from rx);exact PySem.W.kia_one PySem.W.kitx_none I.kIn True.intro e (λz=>nomatch z) h
 | bl y=>cases (show u=Value.bool y from rx);exact PySem.W.kia_one PySem.W.kitx_bool I.kIn True.intro e (λz=>nomatch z) h
 | int i=>obtain ⟨t,q⟩:=(show ∃t,u=Value.int i t from rx);cases q;exact PySem.W.kia_one PySem.W.kitx_int I.kIn True.intro e (λz=>nomatch z) h
 | str y=>obtain ⟨t,q⟩:=(show ∃t,u=Value.str y t from rx);cases q;exact PySem.W.kia_one PySem.W.kitx_str I.kIn True.intro e (λz=>nomatch z) h
 | flt y=>obtain ⟨t,q⟩:=(show ∃t,u=Value.float y t from rx);cases q;exact PySem.W.kia_one PySem.W.kitx_float I.kIn True.intro e (λz=>nomatch z) h
 | @lst a xs ea =>
  cases (show u=Value.ref a from rx);obtain ⟨_,_,n,_,h1⟩:=(show ObjOk X.prog X.w H s.heap a (.lst xs) from I.hok a _ ea);exact PySem.W.kia_one PySem.W.kitx_list I.kIn ⟨_,h1,rfl⟩ e (λz=>nomatch z) h
 | @frz a ob xs ea =>
  cases (show u=Value.ref a from rx);obtain ⟨_,_,_,n,_,h1⟩:=(show ObjOk X.prog X.w H s.heap a (.frz ob (.lst xs)) from I.hok a _ ea);exact PySem.W.kia_one PySem.W.kitx_list I.kIn ⟨_,h1,rfl⟩ e (λz=>nomatch z) h
 | @tup a xs ea =>
  cases (show u=Value.ref a from rx);obtain ⟨_,_,_,p⟩:=(show ObjOk X.prog X.w H s.heap a (.tup xs) from I.hok a _ ea);obtain ⟨o,h1,h2,_⟩:=p;exact PySem.W.kia_one PySem.W.kitx_tuple I.kIn ⟨o,h1,h2⟩ e (λz=>nomatch z) h
 | @dK a kvs ea =>
  cases (show u=Value.ref a from rx);obtain ⟨_,_,vs,_,p⟩:=(show ObjOk X.prog X.w H s.heap a (.dK kvs) from I.hok a _ ea);obtain ⟨o,es,ep,h1,h2,_⟩:=p;exact PySem.W.kia_one PySem.W.kitx_dict I.kIn ⟨o,h1,h2.1⟩ e (λz=>nomatch z) h
 | @dT a kvs ea =>
  cases (show u=Value.ref a from rx);obtain ⟨_,_,xs,_,o,es,ep,h1,h2,_⟩:=(show ObjOk X.prog X.w H s.heap a (.dT kvs) from I.hok a _ ea);exact PySem.W.kia_one PySem.W.kitx_dict I.kIn ⟨o,h1,h2.1⟩ e (λz=>nomatch z) h
 | @ins a C dx fs ea cl ha hn htk hm =>
  cases (show u=Value.ref a from rx);obtain ⟨mA,O,_⟩:=zel I.hok ea;obtain ⟨od,J,_⟩:=O.look;exact PySem.W.kia_one (PySem.W.kitx_own (cl.get _) cl.hd ha hn htk hm) I.kIn J e (λz=>nomatch z) h
end
structure Room (k:Nat)(A:Around):Prop where
 hd:A.handled=none
 dp:A.depth+3 * k+5 < recursionLimit
 un:A.units+16 * k+200 < cLine
theorem Room.deeper {k:Nat}{A:Around}(r:Room (k+1) A)(env:Env):Room k (A.deeper env) :=
 ⟨r.hd,by have:=r.dp;show A.depth+1+3 * k+5 < _;lia,by have:=r.un;show A.units+3+16 * k+200 < _;lia⟩
theorem Room.depth {k:Nat}{A:Around}(r:Room k A):A.depth < recursionLimit:=by have:=r.dp;lia
theorem Room.units {k:Nat}{A:Around}(r:Room k A):A.units+64 < cLine:=by have:=r.un;lia
def zem:TA:=λ_ H Q=>Q [] H
def gs (ta:TE)(tr:TA):TA:=λσ H Q=>ta σ H λx H1=>tr σ H1 λxs H2=>Q (x::xs) H2
section
variable {X:Cx}{e:Expr}{es:List Expr}{te:TE}{t:TA}{pos:Pos}
theorem xR:PA X [] zem:=λ_ _ _ _ H Q I h=>Calls.spliced_nil ⟨[],H,I,.nil,h⟩
theorem yK (ha:PE X e te)(hr:PA X es t)(hs:starEach (e::es) X.env=(false,eval e X.env)::starEach es X.env:=by rfl):PA X (e::es) (gs te t):=by
 intro pos pins s σ H Q I h;rw[hs];show wpAny _ _ (spliced ((false,eval e X.env)::backTo pos (starEach es X.env))) _ _ s;refine Calls.spliced_cons (thn (ha pins s σ H _ I h) λu s1 ⟨x,H1,I1,r1,q1⟩=>?_);exact thn (hr pos pins s1 σ H1 _ I1 q1) λus s2 ⟨xs,H2,I2,r2,q2⟩=>⟨x::xs,H2,I2,.cons r1 r2,q2⟩
def tTup (t:TA):TE:=λσ H Q=>t σ H λxs H1=>xs.length<=sizeLine/\∀p,H1 p=none->Q (.ref p) (upd H1 p (.tup xs))
def tLst (t:TA):TE:=λσ H Q=>t σ H λxs H1=>xs.length<=sizeLine/\∀p,H1 p=none->Q (.ref p) (upd H1 p (.lst xs))
theorem zgv {x1}(h:PA X es t):PE X (.Tuple es x1 pos) (tTup t):=by
 intro pins s σ H Q I hq;refine wpAny_Tuple_spliced (thn (h pos pins s σ H _ I hq) λus s1 ⟨xs,H1,I1,r,z,q⟩=>⟨by rw[<- r.length];exact z,?_⟩);have hf:H1 s1.heap.objs.size=none:=I1.hok.fresh (Nat.le_refl _);refine ⟨.ref s1.heap.objs.size,upd H1 s1.heap.objs.size (.tup xs),I1.laid (t':=s1.toks) (λb u e=>Heap.get?_push_of_some _ e) (Nat.le_refl _) ?_,rfl,q _ hf⟩;exact ⟨z,us,r,⟨_,Heap.get?_push_size _ rfl,rfl,_,rfl⟩⟩
theorem zgw (h:PA X es t):PE X (.List es pos) (tLst t):=by
 intro pins s σ H Q I hq;refine wpAny_List_spliced (thn (h pos pins s σ H _ I hq) λus s1 ⟨xs,H1,I1,r,z,q⟩=>⟨by rw[<- r.length];exact z,?_⟩);have hf:H1 s1.heap.objs.size=none:=I1.hok.fresh (Nat.le_refl _);refine ⟨.ref s1.heap.objs.size,upd H1 s1.heap.objs.size (.lst xs),I1.laid (t':=s1.toks) (λb u e=>Heap.get?_push_of_some _ e) (Nat.le_refl _) ?_,rfl,q _ hf⟩;exact ⟨z,us,0,r,Heap.get?_push_size _ rfl⟩
end
abbrev Sp:=List V->Hp->VK->XK->Prop
abbrev CXT:=List Env->Hp->Shared->XK->Value->Shared->Prop
structure Env0 (P:Program)(w:World)(K:PySem.W.Frag)(mg:Str->Option Value)(base:Heap)(A:Around)(outer:List Env)(s:Shared)(H:Hp):Prop where
 frames:A.frames=some outer
 mod:Mod K mg base
 bs:∀b o,base.get? b=some o->s.heap.get? b=some o/\H b=none
 bsz:base.objs.size<=s.heap.objs.size
 funs:s.heap.FunFrames base outer
 frf:∀b∈frs outer,H b=none
 hok:HOk P w H s.heap
 bare:AllBare s.gens
def CE (outer:List Env)(P:Program)(w:World)(H:Hp)(s:Shared)(Q:VK)(u:Value)(s':Shared):Prop :=
 ∃v H',s'.os=s.os/\AllBare s'.gens/\Un (frs outer) [] H H' s.heap s'.heap/\HOk P w H' s'.heap/\RelV v u/\Q v H'
def CR (CX:CXT)(outer:List Env)(P:Program)(w:World)(H:Hp)(s:Shared)(Q:VK)(E:XK)(r:Result)(s':Shared):Prop :=
 match r with
 | .ok (.ret u)=>CE outer P w H s Q u s'
 | .ok _=>False
 | .error e=>CX outer H s E e s'
structure FnOk (P:Program)(w:World)(K:PySem.W.Frag)(mg:Str->Option Value)(base:Heap)(CX:CXT)(k:Nat)(f:Addr)(fd:FuncData)(ps:List Str)(sp:Sp):Prop where
 len:∀vs H Q E,sp vs H Q E->vs.length=ps.length
 run:∀ (A:Around) (outer:List Env) (s:Shared) (H:Hp) (args:Args) (us:List Value) (vs:List V) (Q:VK) (E:XK),Room k A->Env0 P w K mg base A outer s H->BindsTo s fd args (ps.zip us)->Vals vs us->sp vs H Q E ->
  codeAny (model P w) A (.call (.ref f) args) (CR CX outer P w H s Q E) s
section
variable {X:Cx}{pins:List (Addr×Obj)}{σ:St}{H:Hp}{s s':Shared}
theorem Inv.env0 (I:Inv X pins σ H s):Env0 X.prog X.w X.K X.mg X.base X.A X.stack s H :=
 ⟨I.ok.frames,I.ok.mod,I.bs,Nat.le_trans I.ok.bsz I.sz,I.stack,I.stkFree,I.hok,I.bare⟩
theorem Inv.after {Q:VK}{u:Value}(I:Inv X pins σ H s)(h:CE X.stack X.prog X.w H s Q u s'):EP X pins σ Q u s':=by
 obtain ⟨v,H',os,bare,un,hok,r,q⟩:=h;obtain ⟨hh,g,d,t,os'⟩:=s';obtain rfl:os'=s.os:=os;exact ⟨v,H',I.call (h':=hh) (g':=g) (d':=d) (t':=t) (ch:=[]) un hok bare (λb z=>absurd z (by simp)),r,q⟩
end
def zib (sp:Sp)(dvs:List V)(E:XK)(t:TA):TE:=λσ H Q=>t σ H λvs H1=>sp (vs++dvs) H1 Q E
def Binds (K:PySem.W.Frag)(fd:FuncData)(ps:List Str)(ds:List Value):Prop :=
 ∀ (s:Shared) (us:List Value),K.In s.heap->(us++ds).length=ps.length->BindsTo s fd ⟨us,[]⟩ (ps.zip (us++ds))
theorem Binds.all {K:PySem.W.Frag}{fd:FuncData}{ps:List Str}(h:∀us:List Value,us.length=ps.length->bindArgs fd ⟨us,[]⟩=pure (ps.zip us)):Binds K fd ps []:=λs us _ hl=>by
 rw[List.append_nil] at hl ⊢;exact .of_eq (h us hl)
def qB (CX:CXT)(X:Cx)(E:XK):Prop:=∀ (pins:List (Addr×Obj)) (σ:St) (H:Hp) (s:Shared) (e:Value) (s':Shared),Inv X pins σ H s->CX X.stack H s E e s'->X.xe e s'
section
variable {X:Cx}{CX:CXT}{k:Nat}{f:Addr}{fd:FuncData}{ps:List Str}{sp:Sp}{dvs:List V}{ds:List Value}{E:XK}{x:Str}{p pos:Pos}{e:Expr}{es:List Expr}{t:TA}
theorem zgx {pins:List (Addr×Obj)}{σ:St}{H:Hp}{s:Shared}{Q:VK}{us:List Value}{vs:List V}(F:FnOk X.prog X.w X.K X.mg X.base CX k f fd ps sp)(hr:Room k X.A)(hb:Binds X.K fd ps ds)(hd:Vals dvs ds)(hx:qB CX X E)
  (I:Inv X pins σ H s) (r:Vals vs us) (h:sp (vs++dvs) H Q E):wpAny (model X.prog X.w) X.A (call (.ref f) us) (EP X pins σ Q) X.xe s:=by
 have r2:Vals (vs++dvs) (us++ds):=r.append hd;have hl:(us++ds).length=ps.length:=by rw[<- r2.length];exact F.len _ _ _ _ h
 refine wpAny_call (codeAny_mono (F.run X.A X.stack s H ⟨us,[]⟩ (us++ds) (vs++dvs) Q E hr I.env0 (hb s us I.kIn hl) r2 h) λr s' hq=>?_);cases r with
 | error e=>exact hx pins σ H s e s' I hq
 | ok fl =>
  cases fl with
  | ret u=>exact I.after hq
  | next=>exact False.elim hq
  | brk=>exact False.elim hq
  | cont=>exact False.elim hq
theorem zen (F:FnOk X.prog X.w X.K X.mg X.base CX k f fd ps sp)(hr:Room k X.A)(hg:Gl X x)(hm:X.mg x=some (.ref f))(hk:PySem.W.keepIn X.K (.ref f)=true)(hb:Binds X.K fd ps ds)(hd:Vals dvs ds)(hx:qB CX X E)
  (ha:PA X (e::es) t) (hdb:(x == ("__debug__" : Str))=false:=by decide) (he:starEach (e::es) X.env=(false,eval e X.env)::starEach es X.env:=by rfl) (hpl:(backTo pos (starEach es X.env)).any (·.1)=false:=by rfl) :
  PE X (.Call (.Name x p) (e::es) [] pos) (zib sp dvs E t):=by
 intro pins s σ H Q I h;refine wpAny_Call_Name_kw (zaq I hg hm ?_ hdb);refine PySem.W.callWith_K (h₀:=X.base) I.ok.mod.kin hk (thn (ha pos pins s σ H _ I h) λus s1 ⟨vs,H1,I1,r,q⟩=>⟨I1.kIn,?_⟩) he hpl;exact zgx F hr hb hd hx I1 r q
end
def PK (X:Cx)(kws:List Keyword)(t:TA):Prop :=
 ∀ (pos:Pos) (pins:List (Addr×Obj)) (s:Shared) (σ:St) (H:Hp) (Q:List V->Hp->Prop),Inv X pins σ H s->t σ H Q->wpAny (model X.prog X.w) X.A (evalAll ((backToKw pos (keywordEach kws X.env)).map (·.2))) (AP X pins σ Q) X.xe s
section
variable {X:Cx}{x:Str}{pos kpos:Pos}{e:Expr}{kws:List Keyword}{te:TE}{t:TA}{nm:Option Str}
theorem zgy:PK X [] zem:=λ_ _ _ _ H Q I h=>wpAny_evalAll_nil ⟨[],H,I,.nil,h⟩
theorem zeo (ha:PE X e te)(hr:PK X kws t):PK X (⟨nm,e,kpos⟩::kws) (gs te t):=by
 intro pos pins s σ H Q I h;show wpAny _ _ (evalAll ((do let v <- eval e X.env;standAt pos;pure v)::(backToKw pos (keywordEach kws X.env)).map (·.2))) _ _ s;refine wpAny_evalAll_cons (wpAny_bind (thn (ha pins s σ H _ I h) λu s1 ⟨x,H1,I1,r1,q1⟩=>wpAny_bind (wpAny_standAt (wpAny_pure ?_))));exact thn (hr pos pins s1 σ H1 _ I1 q1) λus s2 ⟨xs,H2,I2,r2,q2⟩=>⟨x::xs,H2,I2,.cons r1 r2,q2⟩
end
structure FnScope (N P:List Str)(sc:Scope):Prop where
 kind:sc.kind=.function
 co:sc.isCoroutine=false
 gen:sc.isGenerator=false
 nd:N.Nodup
 pre:N.take P.length=P
 par:∀x∈P,sc.names.lookup x=some .local\/sc.names.lookup x=some .cell
 nofree:∀y∈sc.names,y.2≠.free
theorem jh {kindOf:Str->Option NameKind}{x:Str}:∀ {binds:List (Str×Value)}{m:Str->Option Value},(∀v,(x,v)∉binds)->bindL kindOf binds m x=m x
 | [],_,_=>rfl
 | (n,v)::r,m,h=>by
  unfold bindL;rw[jh λw hw=>h w (List.mem_cons_of_mem _ hw)];split
  .have:x≠n:=by rintro rfl;exact h v List.mem_cons_self
   simp[this]
  .rfl
theorem ji {kindOf:Str->Option NameKind}{x:Str}:∀ {binds:List (Str×Value)}{m:Str->Option Value},(∀v,(x,v)∉binds)->bindC kindOf binds m x=m x
 | [],_,_=>rfl
 | (n,v)::r,m,h=>by
  unfold bindC;rw[ji λw hw=>h w (List.mem_cons_of_mem _ hw)];split
  .rfl
  .have:x≠n:=by rintro rfl;exact h v List.mem_cons_self
   simp[this]
theorem jj {kindOf:Str->Option NameKind}{x:Str}{v:Value}:∀ {P:List Str}{vs:List Value}{i:Nat}{m:Str->Option Value},P.Nodup->P[i]?=some x->vs[i]?=some v->kindOf x=some .local ->
  bindL kindOf (P.zip vs) m x=some v
 | [],_,_,_,_,h,_,_=>by simp at h
 | _::_,[],_,_,_,_,h,_=>by simp at h
 | p::P,w::vs,0,m,nd,h1,h2,hk=>by
  simp at h1 h2;subst h1;subst h2;show bindL kindOf ((p,w)::P.zip vs) m p=_;unfold bindL;rw[jh λv hv=>(List.nodup_cons.mp nd).1 (List.of_mem_zip hv).1,if_pos hk];simp
 | p::P,w::vs,i+1,m,nd,h1,h2,hk=>by
  show bindL kindOf ((p,w)::P.zip vs) m x=_;unfold bindL;exact jj (i:=i) (List.nodup_cons.mp nd).2 (by simpa using h1) (by simpa using h2) hk
theorem jk {kindOf:Str->Option NameKind}{x:Str}{v:Value}:∀ {P:List Str}{vs:List Value}{i:Nat}{m:Str->Option Value},P.Nodup->P[i]?=some x->vs[i]?=some v->kindOf x≠some .local ->
  bindC kindOf (P.zip vs) m x=some v
 | [],_,_,_,_,h,_,_=>by simp at h
 | _::_,[],_,_,_,_,h,_=>by simp at h
 | p::P,w::vs,0,m,nd,h1,h2,hk=>by
  simp at h1 h2;subst h1;subst h2;show bindC kindOf ((p,w)::P.zip vs) m p=_;unfold bindC;rw[ji λv hv=>(List.nodup_cons.mp nd).1 (List.of_mem_zip hv).1,if_neg hk];simp
 | p::P,w::vs,i+1,m,nd,h1,h2,hk=>by
  show bindC kindOf ((p,w)::P.zip vs) m x=_;unfold bindC;exact jk (i:=i) (List.nodup_cons.mp nd).2 (by simpa using h1) (by simpa using h2) hk
noncomputable def start (N:List Str)(vs:List V):St:=vs.map some++List.replicate (N.length - vs.length) none
noncomputable def gu (CX:CXT)(P:Program)(w:World)(K:PySem.W.Frag)(mg:Str->Option Value)(base:Heap)(N:List Str)(qual:Str)(scope:Scope)(f:Addr)(cd:Value)(A:Around)(outer:List Env)(s:Shared)(H:Hp)(E:XK):Cx where
 prog:=P
 w:=w
 K:=K
 mg:=mg
 base:=base
 A:=A.deeper (envOfC qual scope s.heap.objs.size f cd)
 N:=N
 s₀:=s
 H₀:=H
 env:=envOfC qual scope s.heap.objs.size f cd
 outer:=outer
 stack:=envOfC qual scope s.heap.objs.size f cd::outer
 ex:=[]
 calm:=true
 fn:=λ_=>true
 pn:=[]
 xe:=λe s'=>wpAny (model P w) (A.deeper (envOfC qual scope s.heap.objs.size f cd)) (leaving (envOfC qual scope s.heap.objs.size f cd) e) (λ_ s''=>CX outer H s E e s'') (λe' s''=>CX outer H s E e' s'') s'
theorem gv {sc:Scope}{n:Nat}{x:Str}(h:sc.names.lookup x=some .cell):∃c,(cellsFrom n sc.names []).lookup x=some c:=by
 have q:=PySem.W.cellsFrom_some sc.names n [] (.inl h);exact Option.isSome_iff_exists.mp q
theorem zbg {CX:CXT}{P:Program}{w:World}{K:PySem.W.Frag}{mg:Str->Option Value}{base:Heap}{N ps:List Str}{qual:Str}{scope:Scope}{f:Addr}{cd:Value}{A:Around}{outer:List Env}{s s1:Shared}{H:Hp}{E:XK}{us:List Value}{vs:List V}
  (S:FnScope N ps scope) (hd:A.handled=none) (e0:Env0 P w K mg base A outer s H) (hl:vs.length=ps.length) (r:Vals vs us)
  (x:InCallC s s.heap.objs.size (bindL (envOfC qual scope s.heap.objs.size f cd).kindOf (ps.zip us) λ_=>none) (cellsFrom (s.heap.objs.size+1) scope.names []) (bindC (envOfC qual scope s.heap.objs.size f cd).kindOf (ps.zip us) λ_=>none) s1) :
  Inv (gu CX P w K mg base N qual scope f cd A outer s H E) [] (start N vs) H s1:=by
 have hpl:ps.length<=N.length:=by have:=congrArg List.length S.pre;rw[List.length_take] at this;lia
 obtain ⟨h1,tk,rfl,hk⟩:=x.done;have noA:∀b:Addr,b∉(gu CX P w K mg base N qual scope f cd A outer s H E).ex:=λb z=>absurd (show b∈([]:List Addr) from z) (by simp);refine ⟨⟨e0.mod,S.kind,rfl,rfl,Nat.le_refl _,λy z c h1 h2=>?_,λy hy=>?_,λy c _ h=>?_,λ_=>hd,Around.frames_deeper e0.frames,.inr ⟨rfl,rfl⟩,λb z=>absurd z (noA b),e0.bs,e0.bsz,λb _ _=>noA b,λb z=>absurd z (noA b),e0.funs,e0.frf⟩,
  rfl,e0.bare,Un.kept hk,⟨_,x.toInCall.ns,λi y v h1 h2 h3=>?_⟩,λy c h=>⟨_,x.cell y c h⟩,e0.hok.fresh (Nat.le_refl _),λy c h=>?_,λp hp=>absurd (show p∈([]:List (Addr×Obj)) from hp) (by simp),e0.hok.kept hk,?_⟩
 .exact name_of_addr x.apart (PySem.mem_of_lookup h1) (PySem.mem_of_lookup h2)
 .have hy:scope.names.lookup y=some .cell\/scope.names.lookup y=some .free:=hy;rcases hy with hy | hy
  .exact gv hy
  .exact absurd rfl (S.nofree _ (PySem.mem_of_lookup hy))
 .exact Nat.le_of_lt (x.above y c (PySem.mem_of_lookup h))
 .have hi:i < vs.length:=by
   unfold start at h2;by_cases hi:i < vs.length
   .exact hi
   .rw[List.getElem?_append_right (by simpa using hi)] at h2;rw[List.getElem?_replicate] at h2;split at h2 <;> cases h2
  have ha:vs[i]?=some v:=by
   unfold start at h2;rw[List.getElem?_append_left (by simpa using hi),List.getElem?_map] at h2;cases e:vs[i]? with
   | none=>rw[e] at h2;cases h2
   | some a=>rw[e] at h2;cases h2;rfl
  obtain ⟨u,hu,rv⟩:=r.get ha;have hp:ps[i]?=some y:=by
   rw[<- S.pre,List.getElem?_take_of_lt (by lia)];exact h1
  have ndP:ps.Nodup:=by rw[<- S.pre];exact S.nd.sublist (List.take_sublist _ _)
  refine ⟨u,rv,?_⟩;rcases S.par y (List.mem_of_getElem? hp) with k | k
  .exact .inl ⟨k,jj ndP hp hu k⟩
  .obtain ⟨c,e⟩:=gv (n:=s.heap.objs.size+1) k;refine .inr ⟨.inl k,c,e,?_⟩;have q:=x.cell y c e;rw[jk ndP hp hu (by show scope.names.lookup y≠_;rw[k];decide)] at q;exact q
 .exact e0.hok.fresh (Nat.le_of_lt (x.above y c (PySem.mem_of_lookup h)))
 .unfold start;show _=N.length;rw[List.length_append,List.length_map,List.length_replicate];lia
set_option tactic.hygienic true in
theorem zic {CX:CXT}{P:Program}{w:World}{K:PySem.W.Frag}{mg:Str->Option Value}{base:Heap}{k:Nat}{f:Addr}{name qual:Str}{params:Arguments}{body:List Stmt}{scope:Scope}{dV kV doc pm cdv ct oc:Value}{an od:Option Addr}
  {osl:Array (Option Value)}{N ps:List Str}{sp:Sp}(lk:K.lookup f=some ⟨oc,od,.func (PySem.W.fnOf name qual params body scope dV kV doc pm an cdv ct),osl⟩) (hcd:PySem.W.codeIn K cdv qual=true) (S:FnScope N ps scope)
  (len:∀vs H Q E,sp vs H Q E->vs.length=ps.length)
  (hbody:∀ (A:Around) (outer:List Env) (s:Shared) (H:Hp) (vs:List V) (Q:VK) (E:XK),Room k (A.deeper (envOfC qual scope s.heap.objs.size f cdv))->sp vs H Q E ->
   ∃t,PSs (gu CX P w K mg base N qual scope f cdv A outer s H E) body t/\t { nx:=λ_ H'=>Q .non H',rt:=Q } (start N vs) H) :
  FnOk P w K mg base CX (k+1) f (PySem.W.fnOf name qual params body scope dV kV doc pm an cdv ct) ps sp:=by
 refine ⟨len,λA outer s H args us vs Q E hr e0 hb r hsp=>?_⟩;have hl:=len _ _ _ _ hsp;have KX:K.In s.heap:=e0.mod.kin.keeps λb o e=>(e0.bs b o e).1;have lim:s.heap.NoLimit:=e0.mod.nolimit.keeps λb o e=>(e0.bs b o e).1;have hkind:∀y∈ps.zip us,scope.names.lookup y.1=some .local\/(scope.names.lookup y.1=some .cell/\((cellsFrom (s.heap.objs.size+1) scope.names []).lookup y.1).isSome=true):=λ⟨n,v⟩ hy=>by
  rcases S.par n (List.of_mem_zip hy).1 with q | q
  .exact .inl q
  .exact .inr ⟨q,PySem.W.cellsFrom_some _ _ _ (.inl q)⟩
 refine codeAny_call_function hr.depth (KX _ _ lk) rfl S.co S.gen rfl (PySem.W.codeRec_of KX hcd) (hb _ _ _ _ ?_);refine wpAny_newFunctionEnv_cells S.kind hkind λenv he s1 x=>?_;subst he;refine ⟨lim.keeps x.toInCall.keep,codeAny_func ?_⟩;obtain ⟨t,ht,hq⟩:=hbody A outer s H vs Q E (hr.deeper _) hsp;have I:Inv (gu CX P w K mg base N qual scope f cdv A outer s H E) [] (start N vs) H s1:=zbg S hr.hd e0 hl r x;refine wpAny_mono (ht [] s1 (start N vs) H _ I hq) (λfl s' hs=>?_) λe s' hs=>hs;have fin:∀ {σ':St}{H':Hp}{v:V}{u:Value},Inv (gu CX P w K mg base N qual scope f cdv A outer s H E) [] σ' H' s'->RelV v u->Q v H'->CE outer P w H s Q u s' :=
  λ{σ' H' v u} J rv q=>⟨v,H',J.os,J.bare,J.base,J.hok,rv,q⟩
 cases fl with
 | ret u =>
  obtain ⟨v,σ',H',J,rv,q⟩:=hs;exact fin J rv q
 | next =>
  obtain ⟨σ',H',J,q⟩:=hs;exact fin (v:=V.non) (u:=Value.none) J rfl q
 | brk =>
  obtain ⟨_,_,_,q⟩:=hs;exact False.elim q
 | cont =>
  obtain ⟨_,_,_,q⟩:=hs;exact False.elim q
section
variable {X:Cx}{x:Str}{p pos:Pos}{e:Expr}{es:List Expr}{t:TA}{id T:String}{r:List V->Hp->VK->Prop}
def tCB (r:List V->Hp->VK->Prop)(t:TA):TE:=λσ H Q=>t σ H λvs H1=>r vs H1 Q
theorem xz (hc:CallR X (.builtin id) r)(hg:Gl X x)(hm:X.mg x=none)(hv:bootBuiltins x=some (.builtin id))(ha:PA X (e::es) t)(hn:x ≠ "__name__" := by decide)(hdb:(x == ("__debug__" : Str))=false:=by decide)
  (he:starEach (e::es) X.env=(false,eval e X.env)::starEach es X.env:=by rfl) (hpl:(backTo pos (starEach es X.env)).any (·.1)=false:=by rfl):PE X (.Call (.Name x p) (e::es) [] pos) (tCB r t):=by
 intro pins s σ H Q I h;refine wpAny_Call_Name_kw (xQ I hg hm hv ?_ hn hdb);exact PyProof.Rows.callWith_builtin1 (thn (ha pos pins s σ H _ I h) λus s1 ⟨vs,H1,I1,r1,q1⟩=>hc pins s1 σ H1 vs us Q I1 r1 q1) he hpl
theorem jl (hc:CallR X (.type T) r)(hg:Gl X x)(hm:X.mg x=none)(hv:bootBuiltins x=some (.type T))(ha:PA X (e::es) t)(hn:x ≠ "__name__" := by decide)(hdb:(x == ("__debug__" : Str))=false:=by decide)
  (he:starEach (e::es) X.env=(false,eval e X.env)::starEach es X.env:=by rfl) (hpl:(backTo pos (starEach es X.env)).any (·.1)=false:=by rfl):PE X (.Call (.Name x p) (e::es) [] pos) (tCB r t):=by
 intro pins s σ H Q I h;refine wpAny_Call_Name_kw (xQ I hg hm hv ?_ hn hdb);exact PyProof.Rows.callWith_type1 (thn (ha pos pins s σ H _ I h) λus s1 ⟨vs,H1,I1,r1,q1⟩=>hc pins s1 σ H1 vs us Q I1 r1 q1) he hpl
end
end L2
namespace HT
open PySem PyProof.Rows
section
variable {prog:Program}{w:World}{A:Around}{E:Value->Shared->Prop}{s:Shared}
theorem cat_tup {t b:Addr}{vs ws:List Value}{Q:Value->Shared->Prop}(ht:IsTup s.heap t vs.toArray)(hb:IsTup s.heap b ws.toArray)(hv:vs≠[])
  (h1:ws=[]->Q (.ref t) s) (h2:ws≠[]->Q (.ref s.heap.objs.size) { s with heap:=s.heap.push { cls:=.type "tuple",data:=.seq (vs++ws).toArray } })
  (hsz:vs.length+ws.length<=sizeLine):wpAny (model prog w) A (binaryOp .Add (.ref t) (.ref b)) Q E s:=by
 obtain ⟨⟨cls,dd,data,sl⟩,ho,hc,n,hd⟩:=id ht;obtain ⟨⟨cls2,dd2,data2,sl2⟩,ho2,hc2,n2,hd2⟩:=id hb;simp only at hc hd hc2 hd2;subst hc hd hc2 hd2;have e:vs.toArray++ws.toArray=(vs++ws).toArray:=by simp
 by_cases hw:ws=[]
 .exact concat_meets ⟨_,ho,rfl⟩ ⟨_,ho2,rfl⟩ noFill_tuple_add seq_tuple_add PySem.F.slot_tuple_add PySem.F.entry_tuple_add (PySem.F.args_tuple_add_2 _ _)
   (tuple_addW1 t b vs.toArray ws.toArray n n2 dd dd2 sl sl2 (by simpa using hv) (by simp[hw])) ⟨ho,ho2,h1 hw⟩
 .refine concat_meets ⟨_,ho,rfl⟩ ⟨_,ho2,rfl⟩ noFill_tuple_add seq_tuple_add PySem.F.slot_tuple_add PySem.F.entry_tuple_add (PySem.F.args_tuple_add_2 _ _)
   (tuple_addW2 t b vs.toArray ws.toArray n n2 dd dd2 sl sl2 (by simpa using hv) (by simpa using hw) (by rw[List.size_toArray,List.size_toArray];exact hsz)) ⟨ho,ho2,?_⟩
  rw[e];exact h2 hw
noncomputable def sIx (n d:Nat):Option Int->Nat
 | none=>d
 | some v=>if v < 0 then (v+(n:Int)).toNat else min v.toNat n
end
end HT
namespace L2
open PySem PySem.Spec PyProof.Rows
abbrev TO:=St->Hp->(Option Int->Hp->Prop)->Prop
def PO (X:Cx)(e:Option Expr)(t:TO):Prop :=
 ∀ (pins:List (Addr×Obj)) (s:Shared) (σ:St) (H:Hp) (Q:Option Int->Hp->Prop),Inv X pins σ H s->t σ H Q ->
  wpAny (model X.prog X.w) X.A (evalPart e X.env) (λu s'=>∃o H',Inv X pins σ H' s'/\IsPart u o/\Q o H') X.xe s
def zep:TO:=λ_ H Q=>Q none H
def zid (t:TE):TO:=λσ H Q=>t σ H λx H1=>∃i,x=.int i/\Q (some i) H1
section
variable {X:Cx}{e:Expr}{te:TE}{lo hi:Option Expr}{tl th:TO}{pos p2:Pos}
theorem zar:PO X none zep:=by
 intro pins s σ H Q I h;rw[evalPart_none];exact wpAny_pure ⟨none,H,I,.none,h⟩
theorem v6 (h:PE X e te):PO X (some e) (zid te):=by
 intro pins s σ H Q I hw;rw[evalPart_some];refine thn (h pins s σ H _ I hw) λu s1 ⟨x,H1,I1,r1,q1⟩=>?_;obtain ⟨i,rfl,q⟩:=q1;obtain ⟨t,rfl⟩:=r1;exact ⟨some i,H1,I1,.int i t,q⟩
def SlR (X:Cx)(r:V->Option Int->Option Int->Hp->VK->Prop):Prop :=
 ∀ (pins:List (Addr×Obj)) (s:Shared) (σ:St) (H:Hp) (x:V) (v vl vu:Value) (lo hi:Option Int) (sl:Addr) (Q:VK),Inv X pins σ H s->RelV x v->s.heap.IsSliceOf sl vl vu .none->IsPart vl lo->IsPart vu hi->r x lo hi H Q ->
  ∃T id,typeLookup (.type T) "__getitem__" = pure (some (.builtin id))/\s.TypeIs v T/\wpAny (model X.prog X.w) X.A (getItem v (.ref sl)) (EP X pins σ Q) X.xe s
def tSl (r:V->Option Int->Option Int->Hp->VK->Prop)(te:TE)(tl th:TO):TE:=λσ H Q=>te σ H λx H1=>tl σ H1 λl H2=>th σ H2 λu H3=>r x l u H3 Q
theorem kB {r:V->Option Int->Option Int->Hp->VK->Prop}(hr:SlR X r)(he:PE X e te)(hl:PO X lo tl)(hu:PO X hi th):PE X (.Subscript e (.Slice lo hi none p2) pos) (tSl r te tl th):=by
 intro pins s σ H Q I h;refine Subscript_ (thn (he pins s σ H _ I h) λv s1 ⟨x,H1,I1,r1,q1⟩=>?_);refine wpAny_Slice (thn (hl pins s1 σ H1 _ I1 q1) λvl s2 ⟨l,H2,I2,pl,q2⟩=>thn (hu pins s2 σ H2 _ I2 q2) λvu s3 ⟨u,H3,I3,pu,q3⟩=>?_);rw[evalPart_none];refine wpAny_pure ?_;have I4:Inv X pins σ H3 { s3 with heap:=s3.heap.push { cls:=.type "slice",data:=.fields #[vl,vu,.none] } }:=I3.kept (t':=s3.toks) λb ob q=>Heap.get?_push_of_some _ q;obtain ⟨T,id,hT,ht,hg⟩:=hr pins { s3 with heap:=s3.heap.push { cls:=.type "slice",data:=.fields #[vl,vu,.none] } } σ H3 x v vl vu l u s3.heap.objs.size Q I4 r1 (Heap.IsSliceOf.new ..) pl pu q3;show wpAny (model X.prog X.w) X.A (subscriptTail e (.Slice lo hi none p2) v (.ref s3.heap.objs.size)) (EP X pins σ Q) X.xe { s3 with heap:=s3.heap.push { cls:=.type "slice",data:=.fields #[vl,vu,.none] } };exact tail_any (ops:=[.ref s3.heap.objs.size,v]) ht hT hg (by with_unfolding_all rfl)
noncomputable def zbh (xs:List V)(lo hi:Option Int):List V:=(xs.drop (HT.sIx xs.length 0 lo)).take (HT.sIx xs.length xs.length hi - HT.sIx xs.length 0 lo)
theorem gw (xs:List V)(lo hi:Option Int):(zbh xs lo hi).length<=xs.length:=by
 unfold zbh;rw[List.length_take,List.length_drop];lia
def zfL (K:PySem.W.Frag):R2:=λx y H Q=>∃a b xs ys,x=.ref a/\y=.ref b/\SqT K H a xs/\SqT K H b ys/\xs≠[]/\xs.length+ys.length<=sizeLine /\
 (ys=[]->Q (.ref a) H)/\(ys≠[]->∀p,H p=none->Q (.ref p) (upd H p (.tup (xs++ys))))
theorem Vals.nil_iff {xs:List V}{us:List Value}(r:Vals xs us):us=[]↔xs=[]:=by
 cases r with
 | nil=>simp
 | cons _ _=>simp
theorem zeq:OpR X (binaryOp .Add) (zfL X.K):=by
 intro pins s σ H x y v u Q I rx ry h;obtain ⟨a,b,xs,ys,rfl,rfl,ha,hb,hx,hz,q1,q2⟩:=h;cases rx;cases ry;obtain ⟨its,r1,p1,_⟩:=I.tuple ha;obtain ⟨its2,r2,p2,_⟩:=I.tuple hb;refine HT.cat_tup p1 p2 (λz=>hx (r1.nil_iff.mp z)) (λz=>⟨.ref a,H,I,rfl,q1 (r2.nil_iff.mp z)⟩) (λz=>?_) (by rw[<- r1.length,<- r2.length];exact hz);refine ⟨.ref s.heap.objs.size,_,I.laid (t':=s.toks) (o:=.tup (xs++ys)) (λb ob q=>Heap.get?_push_of_some _ q) (Nat.le_refl _) ?_,rfl,q2 (λw=>z (r2.nil_iff.mpr w)) _ (I.hok.fresh (Nat.le_refl _))⟩;exact ⟨by rw[List.length_append];exact hz,_,r1.append r2,IsTup.new _ _⟩
end
noncomputable def ixN (n:Nat)(i:Int):Option Nat:=if 0<=i then (if i < n then some i.toNat else none) else if -(n:Int)<=i then some (i+n).toNat else none
noncomputable def atI {α:Type}(xs:List α)(i:Int):Option α:=(ixN xs.length i).bind λj=>xs[j]?
theorem zer {n:Nat}{i:Int}{j:Nat}(h:ixN n i=some j):seqIndex? i n=some j/\j < n/\-(n:Int)<=i/\i < n:=by
 unfold ixN at h;by_cases h0:0<=i
 .rw[if_pos h0] at h;by_cases h1:i < n
  .rw[if_pos h1] at h;have e:i.toNat=j:=Option.some.inj h;exact ⟨by rw[seqIndex_of h0 h1,e],by lia,by lia,h1⟩
  .rw[if_neg h1] at h;cases h
 .rw[if_neg h0] at h;by_cases h1:-(n:Int)<=i
  .rw[if_pos h1] at h;have e:(i+n).toNat=j:=Option.some.inj h;exact ⟨by rw[seqIndex_neg (by lia) h1,e],by lia,h1,by lia⟩
  .rw[if_neg h1] at h;cases h
theorem jI {α:Type}{xs:List α}{i:Int}{v:α}(h:atI xs i=some v):∃j,seqIndex? i xs.length=some j/\xs[j]?=some v/\j < xs.length/\-(xs.length:Int)<=i/\i < xs.length:=by
 unfold atI at h;cases e:ixN xs.length i with
 | none=>rw[e] at h;cases h
 | some j =>
  rw[e] at h;obtain ⟨h1,h2,h3,h4⟩:=zer e;exact ⟨j,h1,h,h2,h3,h4⟩
def zas (b:Expr):Prop:=∀o i,subscripted b false o i=operate [o,i] (getItem o i)
def IxR (X:Cx)(r:R2):Prop :=
 ∀ (value slice:Expr) (pins:List (Addr×Obj)) (s:Shared) (σ:St) (H:Hp) (x y:V) (v u:Value) (Q:VK),Inv X pins σ H s->RelV x v->RelV y u->r x y H Q ->
  subscripted slice false v u=operate [v,u] (getItem v u)->wpAny (model X.prog X.w) X.A (subscriptTail value slice v u) (EP X pins σ Q) X.xe s
def MtR (X:Cx)(id:String)(r:V->List V->Hp->VK->Prop):Prop :=
 ∀ (pins:List (Addr×Obj)) (s:Shared) (σ:St) (H:Hp) (x:V) (xs:List V) (v:Value) (us:List Value) (Q:VK),Inv X pins σ H s->RelV x v->Vals xs us->r x xs H Q ->
  wpAny (model X.prog X.w) X.A (call (.builtin id) (v::us)) (EP X pins σ Q) X.xe s
section
variable {X:Cx}{a b:Expr}{ta tb:TE}{pos:Pos}
theorem IxR.or {r r':R2}(h:IxR X r)(h':IxR X r'):IxR X (λx y H Q=>r x y H Q\/r' x y H Q):=by
 intro value slice pins s σ H x y v u Q I rx ry q hs;rcases q with q | q
 .exact h value slice pins s σ H x y v u Q I rx ry q hs
 .exact h' value slice pins s σ H x y v u Q I rx ry q hs
theorem zie {r:R2}(hr:IxR X r)(ha:PE X a ta)(hb:PE X b tb)(hs:zas b):PE X (.Subscript a b pos) (tOp r ta tb):=by
 intro pins s σ H Q I h;exact Subscript_ (zgm ha hb I h λv u s2 x y H2 I2 rx ry q=>hr a b pins s2 σ H2 x y v u Q I2 rx ry q (hs _ _))
def zif (K:PySem.W.Frag):R2:=λx y H Q=>∃p xs i v,x=.ref p/\y=.int i/\SqL K H p xs/\atI xs i=some v/\Q v H
def zig (K:PySem.W.Frag):R2:=λx y H Q=>∃p xs i v,x=.ref p/\y=.int i/\SqT K H p xs/\atI xs i=some v/\Q v H
def zih:R2:=λx y H Q=>∃z i c,x=.str z/\y=.int i/\z.length<=sizeLine/\atI z.cps.toList i=some c/\Q (.str ⟨#[c]⟩) H
theorem ix_list:IxR X (zif X.K):=by
 intro value slice pins s σ H x y v u Q I rx ry h hs;obtain ⟨p,xs,i,z,rfl,rfl,hq,he,q⟩:=h;cases rx;obtain ⟨t,rfl⟩:=ry;obtain ⟨its,r,pl,hz⟩:=I.list hq;obtain ⟨j,h1,h2,h3,h4,h5⟩:=jI he;obtain ⟨w,ew,rw'⟩:=r.get h2;have hl:=r.length;have hn:=jH;have fin:EP X pins σ Q w s:=⟨z,H,I,rw',q⟩;by_cases h0:0<=i
 .have hj:i.toNat=j:=by
   rw[seqIndex_of h0 h5] at h1;exact Option.some.inj h1
  exact item_listR pl.isList h0 (by lia) (by rw[hj];simpa using ew) fin hs
 .have hj:(i+(its.toArray.size:Int)).toNat=j:=by
   rw[seqIndex_neg (by lia) h4] at h1;rw[List.size_toArray,<- hl];exact Option.some.inj h1
  exact subscriptTail_builtinR (x:=w) pl.isList.typeIs slot_list_getitem.lookup
   (wpAny_getItem_list_neg (Q:=λr s'=>r=w/\EP X pins σ Q r s') pl.isList (by lia) (by rw[List.size_toArray] <;> lia) (by lia) (by rw[hj];simpa using ew) ⟨rfl,fin⟩) hs
theorem ix_tup:IxR X (zig X.K):=by
 intro value slice pins s σ H x y v u Q I rx ry h hs;obtain ⟨p,xs,i,z,rfl,rfl,hq,he,q⟩:=h;cases rx;obtain ⟨t,rfl⟩:=ry;obtain ⟨its,r,pl,hz⟩:=I.tuple hq;obtain ⟨j,h1,h2,h3,h4,h5⟩:=jI he;obtain ⟨w,ew,rw'⟩:=r.get h2;have hl:=r.length;have hn:=jH;have fin:EP X pins σ Q w s:=⟨z,H,I,rw',q⟩;exact subscriptTail_builtinR (x:=w) pl.typeIs slot_tuple_getitem.lookup
  (getItem_tuple (j:=j) (Q:=λr s'=>r=w/\EP X pins σ Q r s') pl (by lia) (by lia) (by rw[List.size_toArray,<- hl];exact h1) (by simpa using ew) ⟨rfl,fin⟩) hs
theorem zgz:IxR X zih:=by
 intro value slice pins s σ H x y v u Q I rx ry h hs;obtain ⟨z,i,c,rfl,rfl,hz,he,q⟩:=h;obtain ⟨t,rfl⟩:=rx;obtain ⟨t',rfl⟩:=ry;obtain ⟨j,h1,h2,h3,h4,h5⟩:=jI he;have hl:z.cps.toList.length=z.length:=by simp[Str.length]
 rw[hl] at h1 h4 h5;have hn:=jH;exact tail_any (typeIs_str s z t) slot_str_getitem.lookup (getItem_str (c:=c) (by
  have e1:decide (i < -(2 ^ 63:Int))=false:=decide_eq_false (by lia);have e2:decide (i ≥ 2 ^ 63)=false:=decide_eq_false (by lia);rw[e1,e2,Bool.or_false]) (by rw[h1];simpa using h2) ⟨.str ⟨#[c]⟩,H,I.tok _,⟨_,rfl⟩,q⟩) hs
def rIx (K:PySem.W.Frag):R2:=λx y H Q=>zif K x y H Q\/zig K x y H Q\/zih x y H Q
theorem zgA:IxR X (rIx X.K):=ix_list.or (ix_tup.or zgz)
theorem jJ (lo hi:Option Int)(n:Nat):(sliceBounds lo hi none n).1=((HT.sIx n 0 lo:Nat):Int)/\(sliceBounds lo hi none n).2.1=((HT.sIx n n hi:Nat):Int)/\(sliceBounds lo hi none n).2.2=1:=by
 refine ⟨?_,?_,rfl⟩
 .cases lo with
  | none=>simp[sliceBounds,HT.sIx]
  | some i =>
   simp only[sliceBounds,HT.sIx,Option.getD_none,show (1:Int) > 0 by decide,if_true];by_cases h:i < 0
   .simp only[h,if_true] <;> lia
   .simp only[h,if_false] <;> lia
 .cases hi with
  | none=>simp[sliceBounds,HT.sIx]
  | some i =>
   simp only[sliceBounds,HT.sIx,Option.getD_none,show (1:Int) > 0 by decide,if_true];by_cases h:i < 0
   .simp only[h,if_true] <;> lia
   .simp only[h,if_false] <;> lia
theorem je (its:List Value)(lo hi:Option Int):slicePick its.toArray lo hi none=((its.drop (HT.sIx its.length 0 lo)).take (HT.sIx its.length its.length hi - HT.sIx its.length 0 lo)).toArray:=by
 obtain ⟨h1,h2,h3⟩:=jJ lo hi its.toArray.size;unfold slicePick;rw[h1,h2,h3];simp only[sliceRange_one,pick_run,List.size_toArray] <;> rfl
def zii (K:PySem.W.Frag):V->Option Int->Option Int->Hp->VK->Prop:=λx lo hi H Q=>∃a xs,x=.ref a/\SqL K H a xs/\∀p,H p=none->Q (.ref p) (upd H p (.lst (zbh xs lo hi)))
theorem jK:SlR X (zii X.K):=by
 intro pins s σ H x v vl vu lo hi sl Q I rx hs pl pu h;obtain ⟨a,xs,rfl,hx,q⟩:=h;cases rx;obtain ⟨its,r,ht,hz⟩:=I.list hx;have hlen:=r.length;refine ⟨"list",_,slot_list_getitem.lookup,ht.isList.typeIs,?_⟩;refine wpAny_getItem_list_slice ht.isList hs pl pu .none (by simp) ?_ (by rw[List.size_toArray] <;> lia);rw[je,<- hlen];refine ⟨.ref s.heap.objs.size,_,I.laid (t':=s.toks) (o:=.lst (zbh xs lo hi)) (λb ob q=>Heap.get?_push_of_some _ q) (Nat.le_refl _) ?_,rfl,q _ (I.hok.fresh (Nat.le_refl _))⟩;exact ⟨Nat.le_trans (gw xs lo hi) hz,_,0,(r.drop (HT.sIx xs.length 0 lo)).take (HT.sIx xs.length xs.length hi - HT.sIx xs.length 0 lo),Heap.get?_push_size _ rfl⟩
theorem jL:CallR X (.builtin "len") (λxs H Q=>∃p ys,xs=[.ref p]/\(SqL X.K H p ys\/SqT X.K H p ys)/\Q (.int ys.length) H):=by
 intro pins s σ H xs us Q I r h;obtain ⟨p,ys,rfl,hq,q⟩:=h;obtain ⟨u,rfl,rx⟩:=vP r;cases rx;have hn:=jH;rcases hq with hq | hq
 .obtain ⟨its,r',pl,hz⟩:=I.list hq;have hlen:=r'.length;exact Calls.call_len_list pl.isList (by simp only[List.size_toArray] <;> lia) ⟨.int ys.length,H,I.tok _,⟨s.toks+1,by rw[List.size_toArray,hlen]⟩,q⟩
 .obtain ⟨its,r',pl,hz⟩:=I.tuple hq;have hlen:=r'.length;exact len_tuple pl (by simp only[List.size_toArray] <;> lia) ⟨.int ys.length,H,I.tok _,⟨s.toks+1,by rw[List.size_toArray,hlen]⟩,q⟩
theorem jM:CallR X (.type "list") (λxs H Q=>∃p ys,xs=[.ref p]/\(SqL X.K H p ys\/SqT X.K H p ys)/\∀l,H l=none->Q (.ref l) (upd H l (.lst ys))):=by
 intro pins s σ H xs us Q I r h;obtain ⟨p,ys,rfl,hq,q⟩:=h;obtain ⟨u,rfl,rx⟩:=vP r;cases rx;have fin:∀ (its:List Value),Vals ys its->ys.length<=sizeLine->∀ (h':Heap) (c':Nat),(∀b o',s.heap.get? b=some o'->h'.get? b=some o') ->
   h'.get? s.heap.objs.size=some { cls:=.type "list",dict:=none,data:=.seq its.toArray c',slots:=#[] }->EP X pins σ Q (.ref s.heap.objs.size) { s with heap:=h' }:=λits r' hz h' c' kp e =>
  ⟨.ref s.heap.objs.size,_,I.laid (t':=s.toks) kp (Nat.le_refl _) (show ObjOk X.prog X.w _ h' _ (.lst ys) from ⟨hz,its,c',r',e⟩),rfl,q _ (I.hok.fresh (Nat.le_refl _))⟩
 rcases hq with hq | hq
 .obtain ⟨its,r',pl,hz⟩:=I.list hq;have hlen:=r'.length;obtain ⟨o,ho,hc,n,hd⟩:=pl.isList;exact call_list_seq p (.inl rfl) ho hc hd (λh' c' kp e=>fin its r' hz h' c' kp e) (by simp only[List.size_toArray] <;> lia)
 .obtain ⟨its,r',pl,hz⟩:=I.tuple hq;have hlen:=r'.length;obtain ⟨o,ho,hc,n,hd⟩:=pl;exact call_list_seq p (.inr rfl) ho hc hd (λh' c' kp e=>fin its r' hz h' c' kp e) (by simp only[List.size_toArray] <;> lia)
def tyV (K:PySem.W.Frag)(T:String)(x:V)(H:Hp):Prop:=match x with
 | .str _=>T = "str"
 | .int _=>T = "int"
 | .ref p=>(T = "list" /\ ∃xs,SqL K H p xs)\/(T = "tuple" /\ ∃o,K.lookup p=some o/\o.cls=.type "tuple" /\ o.dict=none) \/
   (T = "dict" /\ ((∃kvs,H p=some (.dK kvs))\/∃kvs,H p=some (.dT kvs)))\/(T = "set" /\ ∃S n,H p=some (.set S n))
 | _=>False
theorem zgB {pins:List (Addr×Obj)}{σ:St}{H:Hp}{s:Shared}{T:String}{x:V}{v:Value}(I:Inv X pins σ H s)(r:RelV x v)(ty:tyV X.K T x H):
  s.TypeIs v T/\∀a,v=.ref a->∃ob,s.heap.get? a=some ob/\ob.dict=none:=by
 cases x with
 | str z =>
  obtain ⟨t,rfl⟩:=r;cases (show T = "str" from ty);exact ⟨typeIs_str s z t,λ_ e=>nomatch e⟩
 | int i =>
  obtain ⟨t,rfl⟩:=r;cases (show T = "int" from ty);exact ⟨typeIs_int s i t,λ_ e=>nomatch e⟩
 | ref p =>
  cases r;rcases ty with ⟨rfl,xs,hq⟩ | ⟨rfl,o,hk,hc,hd⟩ | ⟨rfl,hk⟩ | ⟨rfl,S,n,hk⟩
  .obtain ⟨its,_,pl,_⟩:=I.list hq;refine ⟨pl.isList.typeIs,λa e=>?_⟩;cases e;obtain ⟨o,n,e,c,hd,_⟩:=pl;exact ⟨o,e,hd⟩
  .refine ⟨⟨o,I.kIn p o hk,hc⟩,λa e=>?_⟩;cases e;exact ⟨o,I.kIn _ o hk,hd⟩
  .have z:∃o,s.heap.get? p=some o/\o.ExactDict:=by
    rcases hk with ⟨kvs,hk⟩ | ⟨kvs,hk⟩
    .obtain ⟨_,_,_,_,o,_,_,e,ex,_⟩:=I.hok p _ hk;exact ⟨o,e,ex⟩
    .obtain ⟨_,_,_,_,o,_,_,e,ex,_⟩:=I.hok p _ hk;exact ⟨o,e,ex⟩
   obtain ⟨o,e,ex⟩:=z;refine ⟨⟨o,e,ex.1⟩,λa e2=>?_⟩;cases e2;exact ⟨o,e,ex.2.1⟩
  .obtain ⟨o,_,_,_,e,ex,_⟩:=I.hok p _ hk;refine ⟨⟨o,e,ex.1⟩,λa e2=>?_⟩;cases e2;exact ⟨o,e,ex.2.1⟩
 | _=>exact False.elim ty
def tBM (K:PySem.W.Frag)(T:String)(r:V->List V->Hp->VK->Prop)(to:TE)(t:TA):TE:=λσ H Q=>to σ H λx H1=>tyV K T x H1/\t σ H1 λxs H2=>r x xs H2 Q
variable {o e:Expr}{es:List Expr}{to:TE}{t:TA}{name:Str}{apos cpos:Pos}{T id:String}{r:V->List V->Hp->VK->Prop}
theorem zij (pa:PlainAttrs T)(slot:Slot T name id)(hty:typeOf (.builtin id)=pure (.type "method_descriptor"))(hm:MtR X id r)(ho:PE X o to)(ha:PA X (e::es) t)
  (hbase:attributeBase o name X.env (eval o X.env)=eval o X.env:=by rfl)
  (hfew:((backTo cpos (starEach (e::es) X.env)).all (λx=>! x.1) && (backToKw cpos (keywordEach [] X.env)).all (λx=>x.1.isSome)
   && decide ((e::es).length+([]:List Keyword).length+(if ([]:List Keyword).isEmpty then 0 else 1) < 30))=true:=by rfl)
  (hline:(apos.endLine == cpos.line)=true:=by rfl) (hs:starEach (e::es) X.env=(false,eval e X.env)::starEach es X.env:=by rfl) (hplain:(backTo cpos (starEach es X.env)).any (·.1)=false:=by rfl) :
  PE X (.Call (.Attribute o name apos) (e::es) [] cpos) (tBM X.K T r to t):=by
 intro pins s σ H Q I h;refine wpAny_Call_method_late hbase hfew hline rfl (thn (ho pins s σ H _ I h) λv s1 ⟨x,H1,I1,r1,ty,q1⟩=>?_);obtain ⟨h1,h2⟩:=zgB I1 r1 ty;refine ⟨T,id,pa,slot,hty,h1,h2,?_⟩;have hA:=ha cpos pins s1 σ H1 _ I1 q1;rw[hs] at hA ⊢;refine Calls.callWith_builtin (by show (false || (backTo cpos (starEach es X.env)).any (·.1))=false;rw[hplain] <;> rfl) (Calls.evalArgs_plain ?_);exact thn hA λus s2 ⟨vs,H2,I2,r2,q2⟩=>hm pins s2 σ H2 x vs v us Q I2 r1 r2 q2
end
def MtM (X:Cx)(id:String)(r:V->List V->Hp->VK->Prop):Prop :=
 ∀ (pins:List (Addr×Obj)) (s:Shared) (σ:St) (H:Hp) (x:V) (xs:List V) (v:Value) (us:List Value) (Q:VK),Inv X pins σ H s->RelV x v->Vals xs us->r x xs H Q ->
  wpAny (model X.prog X.w) X.A (call (.builtin id) (v::us)) (EP X pins σ Q) X.xe s
theorem Vals.one:∀ {x:V}{us:List Value},Vals [x] us->∃u,us=[u]/\RelV x u
 | _,_,.cons r .nil=>⟨_,rfl,r⟩
theorem Vals.zero:∀ {us:List Value},Vals [] us->us=[]
 | _,.nil=>rfl
theorem Vals.dropLast {xs:List V}{us:List Value}(h:Vals xs us):Vals xs.dropLast us.dropLast:=by
 induction h with
 | nil=>exact .nil
 | cons r t ih =>
  cases t with
  | nil=>exact .nil
  | cons q t'=>exact .cons r ih
theorem Vals.eraseIdx:∀ {xs:List V}{us:List Value}(i:Nat),Vals xs us->Vals (xs.eraseIdx i) (us.eraseIdx i)
 | _,_,_,.nil=>.nil
 | _,_,0,.cons _ t=>t
 | _,_,i+1,.cons r t=>.cons r (Vals.eraseIdx i t)
theorem Vals.reverse {xs:List V}{us:List Value}(h:Vals xs us):Vals xs.reverse us.reverse:=by
 induction h with
 | nil=>exact .nil
 | cons r t ih=>rw[List.reverse_cons,List.reverse_cons];exact Vals.append ih (.cons r .nil)
theorem Vals.rep {xs:List V}{us:List Value}(h:Vals xs us):∀k:Nat,Vals (List.replicate k xs).flatten (List.replicate k us).flatten
 | 0=>.nil
 | k+1=>by
  rw[List.replicate_succ,List.replicate_succ,List.flatten_cons,List.flatten_cons];exact Vals.append h (Vals.rep h k)
theorem qC {α:Type}(l:List α):l.eraseIdx (l.length - 1)=l.dropLast:=by
 induction l with
 | nil=>rfl
 | cons a r ih =>
  cases r with
  | nil=>rfl
  | cons b r =>
   have e:(a::b::r).length - 1=((b::r).length - 1)+1:=by
    have h1:(a::b::r).length=r.length+2:=rfl;have h2:(b::r).length=r.length+1:=rfl;lia
   rw[e,List.eraseIdx_cons_succ,ih]
   all_goals rfl
theorem jm {α:Type}:∀ (l:List α) (i:Nat),(l.eraseIdx i).length<=l.length
 | [],_=>Nat.le_refl _
 | _::_,0=>Nat.le_succ _
 | _::r,i+1=>Nat.succ_le_succ (jm r i)
theorem jn (its:List Value):∀ (k:Nat) (acc:List Value),
  List.foldl (λx1 x2=>x1++x2) acc.toArray (List.replicate k its.toArray)=(acc++(List.replicate k its).flatten).toArray
 | 0,acc=>by simp
 | k+1,acc=>by
  have e:acc.toArray++its.toArray=(acc++its).toArray:=by simp
  have e2:(acc++its)++(List.replicate k its).flatten=acc++(List.replicate (k+1) its).flatten:=by
   rw[List.replicate_succ,List.flatten_cons,List.append_assoc]
  rw[<- e2,<- jn its k (acc++its),<- e,List.replicate_succ,List.foldl_cons]
section
variable {X:Cx}{pins:List (Addr×Obj)}{σ:St}{H:Hp}{s:Shared}{l:Addr}{xs ys:List V}
theorem Inv.lset {its its':List Value}{n:Nat}{f:Array Value->Array Value}{t':Nat}(I:Inv X pins σ H s)(hH:H l=some (.lst xs))
  (e:s.heap.get? l=some { cls:=.type "list",data:=.seq its.toArray n }) (hf:f its.toArray=its'.toArray) (hv:Vals ys its') (hz:ys.length<=sizeLine) :
  Inv X pins σ (upd H l (.lst ys)) { s with heap:=s.heap.update l (Obj.mapSeq f),toks:=t' }:=by
 have q:=PySem.IsL.update e f;rw[hf] at q;refine I.write (x:=l) (e:=l) (by rw[hH];exact trivial) (.inl rfl) (λb' u hb hu=>(Heap.get?_update_other s.heap (Obj.mapSeq f) (Ne.symm hb)).trans hu) ⟨_,q⟩ ?_;exact ⟨hz,its',_,hv,q⟩
theorem Inv.lnew {its:List Value}{t':Nat}(I:Inv X pins σ H s)(hv:Vals ys its)(hz:ys.length<=sizeLine):
  Inv X pins σ (upd H s.heap.objs.size (.lst ys)) { s with heap:=s.heap.push { cls:=.type "list",data:=.seq its.toArray },toks:=t' } :=
 I.laid (λ_ _ q=>Heap.get?_push_of_some _ q) (Nat.le_refl _) ⟨hz,its,0,hv,Heap.get?_push_size _ rfl⟩
theorem Inv.fresh (I:Inv X pins σ H s):H s.heap.objs.size=none:=I.hok.fresh (Nat.le_refl _)
theorem Inv.lstM (I:Inv X pins σ H s)(hH:H l=some (.lst xs)):xs.length<=sizeLine/\∃ (its:List Value) (n:Nat),Vals xs its/\xs.length=its.length/\s.heap.get? l=some { cls:=.type "list",data:=.seq its.toArray n }:=by
 obtain ⟨z,its,n,r,e⟩:=I.hok l _ hH;exact ⟨z,its,n,r,r.length,e⟩
theorem zcl {n:Nat}(h:n<=sizeLine):Builtin.List.listTooLong n=false:=by
 unfold Builtin.List.listTooLong;exact decide_eq_false (by lia)
end
section
variable {X:Cx}
def zes:V->List V->Hp->VK->Prop:=λx vs H Q=>∃l xs y,x=.ref l/\vs=[y]/\H l=some (.lst xs)/\xs.length < sizeLine/\Q .non (upd H l (.lst (xs++[y])))
theorem jo:MtM X "list.append" zes:=by
 intro pins s σ H x vs v us Q I rx rv h;obtain ⟨l,xs,y,rfl,rfl,hH,hz,q⟩:=h;cases rx;obtain ⟨u,rfl,ru⟩:=rv.one;obtain ⟨z,its,n,r,hl,e⟩:=I.lstM hH;refine call_meets F.slot_list_append ⟨_,e,rfl⟩ F.entry_list_append (F.args_list_append_2 _ _) (PySem.list_append l its.toArray n u (by rw[List.size_toArray];lia)) ⟨e,?_⟩;refine ⟨.non,_,I.lset (its':=its++[u]) hH e (by simp) (r.append (.cons ru .nil)) ?_,rfl,q⟩;rw[List.length_append,List.length_singleton];lia
def rPop:V->List V->Hp->VK->Prop:=λx vs H Q=>∃l xs y,x=.ref l/\vs=[]/\H l=some (.lst xs)/\xs[xs.length - 1]?=some y/\Q y (upd H l (.lst xs.dropLast))
theorem zgC:MtM X "list.pop" rPop:=by
 intro pins s σ H x vs v us Q I rx rv h;obtain ⟨l,xs,y,rfl,rfl,hH,hy,q⟩:=h;cases rx;have hus:=rv.zero;subst hus;obtain ⟨z,its,n,r,hl,e⟩:=I.lstM hH;obtain ⟨u,hu,ru⟩:=r.get hy;have hy':its.toArray[its.toArray.size - 1]?=some u:=by
  show its.toArray[its.length - 1]?=some u;rw[<- Array.getElem?_toList,<- hl];exact hu
 refine call_meets F.slot_list_pop ⟨_,e,rfl⟩ F.entry_list_pop (F.args_list_pop_1 _) (MeetsSeq.list_pop_last l its.toArray n u hy' (by rw[List.size_toArray];lia)) ⟨e,?_⟩;refine ⟨y,_,I.lset (its':=its.dropLast) hH e ?_ r.dropLast ?_,ru,q⟩
 .show its.toArray.eraseIdxIfInBounds (its.toArray.size - 1)=its.dropLast.toArray;rw[List.size_toArray,List.eraseIdxIfInBounds_toArray,qC]
 .rw[List.length_dropLast];lia
def zgD:V->List V->Hp->VK->Prop:=λx vs H Q=>∃l xs i k y,x=.ref l/\vs=[.int i]/\H l=some (.lst xs)/\-(2 ^ 63)<=i/\i < 2 ^ 63/\seqIndex? i xs.length=some k/\xs[k]?=some y/\Q y (upd H l (.lst (xs.eraseIdx k)))
theorem zcm:MtM X "list.pop" zgD:=by
 intro pins s σ H x vs v us Q I rx rv h;obtain ⟨l,xs,i,k,y,rfl,rfl,hH,h1,h2,hk,hy,q⟩:=h;cases rx;obtain ⟨u,rfl,ru⟩:=rv.one;obtain ⟨t,rfl⟩:=ru;obtain ⟨z,its,n,r,hl,e⟩:=I.lstM hH;obtain ⟨w,hw,rw'⟩:=r.get hy;refine call_meets F.slot_list_pop ⟨_,e,rfl⟩ F.entry_list_pop (F.args_list_pop_2 _ _)
  (MeetsSeq.list_pop_at l its.toArray n i t k w (fitsIndex_both h1 h2) (by rw[List.size_toArray,<- hl];exact hk) (by rw[<- Array.getElem?_toList];exact hw) (by rw[List.size_toArray];lia)) ⟨e,?_⟩
 refine ⟨y,_,I.lset (its':=its.eraseIdx k) hH e ?_ (r.eraseIdx k) ?_,rw',q⟩
 .show its.toArray.eraseIdxIfInBounds k=(its.eraseIdx k).toArray;rw[List.eraseIdxIfInBounds_toArray]
 .have:=jm xs k;lia
def zcn:V->List V->Hp->VK->Prop:=λx vs H Q=>∃l xs,x=.ref l/\vs=[]/\H l=some (.lst xs)/\Q .non (upd H l (.lst xs.reverse))
theorem qD:MtM X "list.reverse" zcn:=by
 intro pins s σ H x vs v us Q I rx rv h;obtain ⟨l,xs,rfl,rfl,hH,q⟩:=h;cases rx;have hus:=rv.zero;subst hus;obtain ⟨z,its,n,r,hl,e⟩:=I.lstM hH;refine call_meets F.slot_list_reverse ⟨_,e,rfl⟩ F.entry_list_reverse (F.args_list_reverse_1 _) (AutoSeq1.list_reverse_list_0 l its.toArray n (by rw[List.size_toArray];lia)) ⟨e,?_⟩;refine ⟨.non,_,I.lset (its':=its.reverse) hH e (by simp) r.reverse ?_,rfl,q⟩;rw[List.length_reverse];lia
def zik:R2:=λx y H Q=>∃l b xs zs,x=.ref l/\y=.ref b/\H l=some (.lst xs)/\H b=some (.lst zs)/\xs.length+zs.length<=sizeLine/\∀p,H p=none->Q (.ref p) (upd H p (.lst (xs++zs)))
theorem op_cat:OpR X (binaryOp .Add) zik:=by
 intro pins s σ H x y v u Q I rx ry h;obtain ⟨l,b,xs,zs,rfl,rfl,hH,hB,hz,q⟩:=h;cases rx;cases ry;obtain ⟨z,its,n,r,hl,e⟩:=I.lstM hH;obtain ⟨z2,its2,n2,r2,hl2,e2⟩:=I.lstM hB;refine PySem.P.add_list e e2 ?_ (by rw[List.size_toArray,List.size_toArray];lia);have ea:its.toArray++its2.toArray=(its++its2).toArray:=by simp
 rw[ea];exact ⟨.ref _,_,I.lnew (t':=s.toks) (r.append r2) (by rw[List.length_append];lia),rfl,q _ I.fresh⟩
def zil:R2:=λx y H Q=>∃l k xs,x=.ref l/\y=.int k/\H l=some (.lst xs)/\-(2 ^ 63)<=k/\k < 2 ^ 63/\xs.length * k.toNat<=sizeLine /\
 ∀p,H p=none->Q (.ref p) (upd H p (.lst (List.replicate k.toNat xs).flatten))
theorem zat {α:Type}(xs:List α)(k:Nat):(List.replicate k xs).flatten.length=k * xs.length:=by
 induction k with
 | zero=>simp
 | succ k ih=>rw[List.replicate_succ,List.flatten_cons,List.length_append,ih,Nat.succ_mul,Nat.add_comm]
theorem zgE:OpR X (binaryOp .Mult) zil:=by
 intro pins s σ H x y v u Q I rx ry h;obtain ⟨l,k,xs,rfl,rfl,hH,h1,h2,hz,q⟩:=h;cases rx;obtain ⟨t,rfl⟩:=ry;obtain ⟨z,its,n,r,hl,e⟩:=I.lstM hH;have hlen:its.toArray.size * k.toNat<=sizeLine:=by rw[List.size_toArray,<- hl];exact hz
 have hcap:¬ its.toArray.size * k.toNat > (2 ^ 63 - 1) / 8:=by
  have:(sizeLine:Nat)<=(2 ^ 63 - 1) / 8:=by decide
  lia
 have hfit:¬(! Builtin.List.listFitsIndex k)=true:=by
  rw[fitsIndex_both h1 h2];exact Bool.false_ne_true
 have hlong:¬ Builtin.List.listTooLong (its.toArray.size * k.toNat)=true:=by
  rw[zcl hlen];exact Bool.false_ne_true
 have hnew:List.foldl (λx1 x2=>x1++x2) #[] (List.replicate (if its.toArray.isEmpty=true then 0 else k.toNat) its.toArray)=(List.replicate k.toNat its).flatten.toArray:=by
  have f0:∀m:Nat,List.foldl (λx1 x2=>x1++x2) #[] (List.replicate m its.toArray)=(List.replicate m its).flatten.toArray:=λm=>by
   have:=jn its m [];rw[List.nil_append] at this;exact this
  rw[f0];cases its with
  | nil=>simp
  | cons a r'=>rw[if_neg (by simp)]
 refine wpAny_binaryOp_repeat_ref (T := "list") (U := "int") (by decide) ⟨_,e,rfl⟩ (λs'=>typeIs_int s' k t) noFill_list_mul F.fills_int_mul F.slot_int_rmul repeat_list F.slot_int_index.lookup
  (call_meets F.slot_int_rmul (typeIs_int s k t) F.entry_int_rmul (F.args_int_rmul_2 _ _) (int___rmul___int_list k t l its.toArray n)
   ⟨e,rfl,⟨_,e,rfl⟩,call_meets F.slot_list_mul ⟨_,e,rfl⟩ F.entry_list_mul (F.args_list_mul_2 _ _) (AutoListH.list___mul___list_int_3 l its.toArray n k t hfit hcap hlong) ⟨e,?_⟩⟩)
 rw[hnew];exact ⟨.ref _,_,I.lnew (t':=s.toks) (r.rep k.toNat) (by rw[zat,Nat.mul_comm];exact hz),rfl,q _ I.fresh⟩
end
end L2
namespace Att
open PySem PySem.W PySem.Calls PyProof.Rows
theorem vZ {P:Params}{h:Heap}:∀ (ns:List Int) (vs:List Value),WellAll P h vs (ns.map WData.int)->IntsAre vs ns:=by
 intro ns
 induction ns with
 | nil =>
  intro vs w;rw[List.map_nil] at w;cases w;exact .nil
 | cons n ns ih =>
  intro vs w;rw[List.map_cons] at w;cases w with
  | cons a b =>
   cases a;exact .cons _ _ (ih _ b)
theorem zbi {l:OpenLaw}{n:Nat}(hn:l.most=some n){P:Params}{h:Heap}{args:List WData}{vals:List Value}
  (hpre:l.row.toRowW.claim.pre args=true) (hwl:WellAll P h vals args) :
  ∃a vs ns,vals=[Value.ref a]/\args=[WData.list (ns.map WData.int)]/\h.get? a=some { cls:=.type "list",data:=.seq vs.toArray }/\IntsAre vs ns/\ns.length<=n:=by
 have hsh:WShape.hasAll [] args [.list .int]=true:=(pre_splitW hpre).1;have hc:l.pre.holds [] { args:=args }=true:=(pre_splitW hpre).2;obtain ⟨d,r,rfl,h1,h2⟩:=hasAllW_cons hsh;obtain rfl:=hasAllW_nil h2;obtain ⟨xs,rfl,h3⟩:=hasW_list h1;obtain ⟨ns,rfl⟩:=items_int h3;have hlen:ns.length<=n:=by
  unfold OpenLaw.pre at hc;have h4:(WTm.not (.lt (.lit (.int (n:Int))) (.len (.arg 0)))).holds [] { args:=[.list (ns.map .int)] }=true:=by
   have h4:=(holds_andW hc).1;rw[hn] at h4;exact h4
  have h5:=condW_of h4 (w_not (w_lt w_lit (w_len_list (w_arg rfl))));rw[List.length_map] at h5;refine Nat.le_of_not_lt λq=>?_;have q':(n:Int) < ((ns.length:Nat):Int):=by lia
  first
   | (rw[decide_eq_true q'] at h5;exact absurd h5 (by decide))
   | (simp at h5;lia)
 cases hwl with
 | cons w1 w2 =>
  cases w2;cases w1 with
  | list ho hall=>exact ⟨_,_,ns,rfl,rfl,ho,vZ ns _ hall,hlen⟩
theorem zbj (l:OpenLaw)(args:List WData):l.row.toRowW.claim.post args (.bool true) args=true :=
 postW_of (r:=l.row.toRowW) (X:=(true == true))
  (show WShape.has [] (.bool true) .bool=true by first | rfl | decide | simp[WShape.has,WShape.arms,WShape.armsAll])
  (show (WTm.eq .res (.lit (.bool true))).value [] { args:=args,res:=some (.bool true),after:=args }=some (.bool (true == true)) from w_eq_bool (w_res rfl) w_lit) rfl
theorem attach_call {l:OpenLaw}{n:Nat}{q:Program}{loose:List Str}{XP:(Str->Option Value)->Heap->Prop}{YP:World->Heap->Prop}{d:DefRec}
  (hn:l.most=some n) (hdf:d.params.defaults=[])
  (call:∀ (w:World) (s₀ s₁:Shared) (mg mb:Str->Option Value) (fa:Addr) (o:Obj) (pm cd doc:Value) (a:Addr) (vs:List Value) (ns:List Int),
   Ground q loose [] XP w s₀ mg mb s₁.heap->YP w s₁.heap ->
   s₁.heap.get? fa=some o->o.data=.func (docDef d.name d.params d.body d.scope pm cd doc)->s₁.heap.CodeRec cd d.name->mg d.name=some (.ref fa) ->
   s₁.heap.get? a=some { cls:=.type "list",data:=.seq vs.toArray }->IntsAre vs ns->ns.length<=n->s₁.gens=#[] ->
   codeAny (model l.prog w) callerA (.call (.ref fa) ⟨[.ref a],[]⟩) (λr s'=>r=.ok (.ret (.bool true))/\OldK s₁.heap s'.heap/\s'.os=s₁.os/\AllBare s'.gens) s₁) :
  WalkO q loose XP YP l.row.toRowW d [] (λf vs=>PySem.call f vs):=by
 intro w s₀ s₁ mg mb G Y fa o pm cd doc dV kV ho hd hcd hD hmg hg args vals as hpre hlay hrd hwl hlo;obtain rfl:dV=.none:=Dflts.none hD hdf;obtain rfl:kV=.none:=Dflts.noKw hD;obtain ⟨a,vs,ns,rfl,rfl,hobj,hints,hlen⟩:=zbi hn hpre hwl;refine enter_call (codeAny_mono (call w s₀ s₁ mg mb fa o pm cd doc a vs ns G Y ho (fd_plain hd) hcd hmg hobj hints hlen hg) λr s' hq=>?_);obtain ⟨rfl,h2,h3,h4⟩:=hq;exact ⟨.inl ⟨.bool true,.bool true,[],rfl,λ_=>rfl,.bool true,zbj l _,λ_=>⟨List.Pairwise.nil,λ_ hm=>(nomatch hm)⟩⟩,h2,h3,h4⟩
end Att
namespace L2
open PySem PySem.Spec PyProof.Rows
theorem jp:∀ {vs:List Value}{ns:List Int},IntsAre vs ns->Vals (ns.map V.int) vs
 | _,_,.nil=>.nil
 | _,_,.cons n t h=>.cons ⟨t,rfl⟩ (jp h)
def zet (H:Hp):Prop:=∀b,H b=none\/∃o xs,H b=some (.frz o (.lst xs))
theorem zco {P:Program}{w:World}{K:PySem.W.Frag}{mg mb:Str->Option Value}{CX:CXT}{k:Nat}{fa a:Addr}{fd:FuncData}{x:Str}{sp:Sp}{s₁:Shared}{vs:List Value}{ns:List Int}
  (KX:K.In s₁.heap) (hns:s₁.heap.Ns mainGlobals mg) (hb:s₁.heap.Ns builtinsNs mb) (hbb:∀x:Str,x ≠ "__name__" -> mb x=bootBuiltins x) (hlim:s₁.heap.NoLimit) (hg:s₁.gens=#[])
  (ha:s₁.heap.get? a=some { cls:=.type "list",data:=.seq vs.toArray }) (hi:IntsAre vs ns) (hl:ns.length<=sizeLine) (hr:Room k callerA)
  (F:∀base:Heap,K.In base->base.Ns mainGlobals mg->FnOk P w K mg base CX k fa fd [x] sp) (hbind:∀ (s:Shared) (u:Value),BindsTo s fd ⟨[u],[]⟩ [(x,u)])
  (hsp:∀H:Hp,zet H->SqL K H a (ns.map V.int)->sp [.ref a] H (λv _=>v=.bl true) λ_ _ _=>False)
  (hCX:∀H e s',CX [] H s₁ (λ_ _ _=>False) e s'->False) :
  codeAny (model P w) callerA (.call (.ref fa) ⟨[.ref a],[]⟩) (λr s'=>r=.ok (.ret (.bool true))/\OldK s₁.heap s'.heap/\s'.os=s₁.os/\AllBare s'.gens) s₁:=by
 have rv:=jp hi;have lenV:=hi.length
 -- from an abstract heap in which nothing but the script may be tracked
 have core:∀H:Hp,zet H->SqL K H a (ns.map V.int)->HOk P w H s₁.heap->(∀b,H b≠none->b=a)->(H a≠none->K.lookup a=none) ->
   codeAny (model P w) callerA (.call (.ref fa) ⟨[.ref a],[]⟩) (λr s'=>r=.ok (.ret (.bool true))/\OldK s₁.heap s'.heap/\s'.os=s₁.os/\AllBare s'.gens) s₁:=by
  intro H hO hS hok hA hK;have base_of:∀ {b:Addr}{o:Obj},s₁.heap.get? b=some o->H b=none->(jF s₁.heap H).get? b=some o:=λe n=>zb6 e n;have noA:∀ {b:Addr}{o:Obj}{es:Array DictEntry}{ep:Nat},s₁.heap.get? b=some o->o.data=.dict es ep->H b=none:=λ{b o es ep} e d=>by
   cases q:H b with
   | none=>rfl
   | some u =>
    have e':b=a:=hA b (by rw[q];simp);subst e';rw[ha] at e;cases e;have d':Data.seq vs.toArray _=Data.dict es ep:=d;cases d'
  have nsK:∀ {b:Addr}{m:Str->Option Value},s₁.heap.Ns b m->(jF s₁.heap H).Ns b m:=λ{b m} ⟨o,es,ep,e,d,r⟩=>⟨o,es,ep,base_of e (noA e d),d,r⟩;have hKb:K.In (jF s₁.heap H):=λb o e=>base_of (KX b o e) (by
   cases q:H b with
   | none=>rfl
   | some u =>
    have e':b=a:=hA b (by rw[q];simp);subst e';rw[hK (by rw[q];simp)] at e;cases e)
  have hM:Mod K mg (jF s₁.heap H):=⟨hKb,nsK hns,⟨mb,nsK hb,hbb⟩,let ⟨mc,h1,h2⟩:=hlim;⟨mc,nsK h1,h2⟩⟩;have e0:Env0 P w K mg (jF s₁.heap H) callerA [] s₁ H:=⟨rfl,hM,λb o e=>zd6 e,Nat.le_of_eq (za8 _ _),trivial,λb hb=>absurd (show b∈([]:List Addr) from hb) (by simp),hok,.of_eq hg⟩;refine codeAny_mono ((F _ hKb (nsK hns)).run callerA [] s₁ H ⟨[.ref a],[]⟩ [.ref a] [.ref a] _ _ hr e0 (hbind s₁ (.ref a)) (.cons rfl .nil) (hsp H hO hS)) λr s' h=>?_;cases r with
  | error e=>exact (hCX H e s' h).elim
  | ok fl =>
   cases fl with
   | next=>exact False.elim h
   | brk=>exact False.elim h
   | cont=>exact False.elim h
   | ret u =>
    obtain ⟨v,H',os,bare,un,hok',r',q⟩:=h;have q':v=.bl true:=q;subst q';obtain rfl:u=Value.bool true:=r';refine ⟨rfl,OldK.of_keep λb o e=>?_,os,bare⟩;cases q:H b with
    | none=>exact un.keep b o e q (by intro z;exact absurd (show b∈([]:List Addr) from z) (by simp)) (by simp)
    | some u =>
     rcases hO b with z | ⟨ob,xs,z⟩
     .rw[q] at z;cases z
     .have z2:=un.frzs b ob _ z;obtain ⟨e1,_⟩:=hok b _ z;obtain ⟨e2,_⟩:=hok' b _ z2;rw[e] at e1;cases e1;exact e2
 cases hk:K.lookup a with
 | some o =>
  -- the script is one of the module's own objects
  have e:=KX a o hk;rw[ha] at e;cases e;refine core (λ_=>none) (λ_=>.inl rfl) (.inr ⟨_,vs.toArray,_,hk,rfl,rfl,rfl,by rw[List.size_toArray,lenV];exact hl,by simpa using rv⟩) (λb u z=>by have z':(none:Option HO)=some u:=z;cases z') (λb z=>absurd rfl z) λz=>absurd rfl z
 | none =>
  refine core (λb=>if b=a then some (.frz { cls:=.type "list",data:=.seq vs.toArray } (.lst (ns.map V.int))) else none) (λb=>?_) (.inl (.inr ⟨{ cls:=.type "list",data:=.seq vs.toArray },if_pos rfl⟩)) (λb u z=>?_) (λb z=>?_) λ_=>hk
  .by_cases hb:b=a
   .exact .inr ⟨_,_,if_pos hb⟩
   .exact .inl (if_neg hb)
  .by_cases hb:b=a
   .have z':=(if_pos hb).symm.trans z;cases z';subst hb;exact ⟨ha,by rw[List.length_map];exact hl,vs,_,rv,ha⟩
   .have z':=(if_neg hb).symm.trans z;cases z'
  .by_cases hb:b=a
   .exact hb
   .exact absurd (if_neg hb) z
theorem zeu {l:PySem.W.OpenLaw}{n k:Nat}{q:Program}{loose:List Str}{XP:(Str->Option Value)->Heap->Prop}{YP:World->Heap->Prop}{d:DefRec}{K:Params->PySem.W.Frag}{CX:World->CXT}{sp:World->Sp}{x:Str}
  (hn:l.most=some n) (hn2:n<=sizeLine) (hdf:d.params.defaults=[]) (hr:Room k callerA)
  (hY:∀ (w:World) (h:Heap),YP w h->(K w.params).In h)
  (F:∀ (w:World) (mg:Str->Option Value) (fa:Addr) (h:Heap),(K w.params).In h->h.Ns mainGlobals mg->mg d.name=some (.ref fa) ->
   ∃fd:FuncData,(∀ (s:Shared) (u:Value),BindsTo s fd ⟨[u],[]⟩ [(x,u)]) /\
    ∀base:Heap,(K w.params).In base->base.Ns mainGlobals mg->FnOk l.prog w (K w.params) mg base (CX w) k fa fd [x] (sp w))
  (hsp:∀ (w:World) (H:Hp) (a:Addr) (ns:List Int),ns.length<=n->zet H->SqL (K w.params) H a (ns.map V.int)->sp w [.ref a] H (λv _=>v=.bl true) λ_ _ _=>False)
  (hCX:∀ (w:World) (H:Hp) (s:Shared) (e:Value) (s':Shared),CX w [] H s (λ_ _ _=>False) e s'->False) :
  PySem.W.WalkO q loose XP YP l.row.toRowW d [] (λf vs=>PySem.call f vs):=by
 refine Att.attach_call hn hdf λw s₀ s₁ mg mb fa o pm cd doc a vs ns G Y ho hd hcd hmg hobj hints hlen hg=>?_;have KX:=hY w _ Y;obtain ⟨fd,hb,hF⟩:=F w mg fa _ KX G.T.g hmg;exact zco KX G.T.g G.T.b G.T.builtins G.T.nolimit hg hobj hints (Nat.le_trans hlen hn2) hr hF hb (λH hO hS=>hsp w H a ns hlen hO hS) λH e s'=>hCX w H s₁ e s'
abbrev CX0:CXT:=λ_ _ _ _ _ _=>False
abbrev E0:XK:=λ_ _ _=>False
theorem zim {X:Cx}:qB CX0 X E0:=λ_ _ _ _ _ _ _ h=>h.elim
structure Fun (K:PySem.W.Frag)(x qual:Str)(st:Stmt)(f:Addr)(fd:FuncData):Prop where
 ex:∃ (oc:Value) (od:Option Addr) (kV doc pm:Value) (an:Option Addr) (cdv ct:Value) (osl:Array (Option Value)),
  fd=PySem.W.fnOf x qual (x9 st) (xx st) (yr st) .none kV doc pm an cdv ct/\K.lookup f=some ⟨oc,od,.func fd,osl⟩/\PySem.W.codeIn K cdv qual=true
 kp:PySem.W.keepIn K (.ref f)=true
section
variable {P:Program}{w:World}{K:PySem.W.Frag}{mg:Str->Option Value}{base:Heap}
theorem Fun.ok {x qual:Str}{st:Stmt}{f:Addr}{fd:FuncData}{N ps:List Str}{k:Nat}{sp:Sp}(F:Fun K x qual st f fd)(S:FnScope N ps (yr st))(len:∀vs H Q E,sp vs H Q E->vs.length=ps.length)
  (hbody:∀ (cdv:Value) (A:Around) (outer:List Env) (s:Shared) (H:Hp) (vs:List V) (Q:VK) (E:XK),Room k (A.deeper (envOfC qual (yr st) s.heap.objs.size f cdv))->sp vs H Q E ->
   ∃t,PSs (gu CX0 P w K mg base N qual (yr st) f cdv A outer s H E).nox (xx st) t/\t { nx:=λ_ H'=>Q .non H',rt:=Q } (start N vs) H):FnOk P w K mg base CX0 (k+1) f fd ps sp:=by
 obtain ⟨oc,od,kV,doc,pm,an,cdv,ct,osl,rfl,lk,hcd⟩:=F.ex;refine zic lk hcd S len λA outer s H vs Q E hr hsp=>?_;obtain ⟨t,h,q⟩:=hbody cdv A outer s H vs Q E hr hsp;exact ⟨t,h.nox,q⟩
theorem Fun.binds {x qual:Str}{st:Stmt}{f:Addr}{fd:FuncData}{ps:List Str}(F:Fun K x qual st f fd)
  (h:∀ (kV doc pm:Value) (an:Option Addr) (cdv ct:Value) (us:List Value),us.length=ps.length->bindArgs (PySem.W.fnOf x qual (x9 st) (xx st) (yr st) .none kV doc pm an cdv ct) ⟨us,[]⟩=pure (ps.zip us)):Binds K fd ps []:=by
 obtain ⟨oc,od,kV,doc,pm,an,cdv,ct,osl,rfl,lk,hcd⟩:=F.ex;exact .all (h kV doc pm an cdv ct)
theorem zgF {x qual:Str}{st:Stmt}{f:Addr}{oc:Value}{od an:Option Addr}{osl:Array (Option Value)}{kV doc pm cdv ct:Value}(l:K.lookup f=some ⟨oc,od,.func (PySem.W.fnOf x qual (x9 st) (xx st) (yr st) .none kV doc pm an cdv ct),osl⟩)
  (c:PySem.W.codeIn K cdv qual=true) (k:PySem.W.keepIn K (.ref f)=true):Fun K x qual st f (PySem.W.fnOf x qual (x9 st) (xx st) (yr st) .none kV doc pm an cdv ct):=⟨⟨oc,od,kV,doc,pm,an,cdv,ct,osl,rfl,l,c⟩,k⟩
end
theorem qE {A B:Prop}(h:B):if false=true then A else B:=by
 rw[if_neg Bool.false_ne_true];exact h
theorem qF {A B:Prop}(h:A):if true=true then A else B:=by
 rw[if_pos rfl];exact h
noncomputable def wW (env:Env):List (Str×NameKind)->List (Str×Addr)->List (Str×Addr)
 | [],acc=>acc
 | (n,k)::r,acc=>if k == .free then wW env r ((n,(env.cells.lookup n).getD 0)::acc) else wW env r acc
theorem ve {env:Env}(f:Str×NameKind->List (Str×Addr)->Sem (ForInStep (List (Str×Addr))))
  (hf:∀n k cs,f (n,k) cs=if k == .free then (do let a <- cellOf env n;pure (.yield ((n,a)::cs))) else pure (.yield cs)) :
  ∀ (names:List (Str×NameKind)) (acc:List (Str×Addr)),(∀y∈names,y.2=.free->∃c,env.cells.lookup y.1=some c)->forIn names acc f=pure (wW env names acc)
 | [],acc,_=>by rw[List.forIn_nil];rfl
 | (n,k)::r,acc,h=>by
  have ih:=ve f hf r;rw[List.forIn_cons,hf];unfold wW;cases hk:k == NameKind.free with
  | true =>
   obtain ⟨c,hc⟩:=h (n,k) List.mem_cons_self (by simpa using hk);have hc':env.cells.lookup n=some c:=hc;have e1:cellOf env n=pure c:=by unfold cellOf;rw[hc']
   simp only[if_true,e1,hc',Option.getD_some,pure_bind];exact ih _ λy hy=>h y (List.mem_cons_of_mem _ hy)
  | false =>
   simp only[Bool.false_eq_true,if_false,pure_bind];exact ih _ λy hy=>h y (List.mem_cons_of_mem _ hy)
theorem kC {scope:Scope}{env:Env}(h:∀y∈scope.names,y.2=.free->∃c,env.cells.lookup y.1=some c):closureFor scope env=pure (wW env scope.names []):=by
 unfold closureFor;simp only[];rw[ve (env:=env) _ (λn k cs=>by cases hk:k == NameKind.free <;> simp[hk]) scope.names [] h];rfl
theorem wM {env:Env}{y:Str}{c:Addr}:∀ {names:List (Str×NameKind)}{acc:List (Str×Addr)},(∀z∈names,z.2=.free->∃c,env.cells.lookup z.1=some c)->(wW env names acc).lookup y=some c ->
  acc.lookup y=some c\/((y,NameKind.free)∈names/\env.cells.lookup y=some c)
 | [],acc,_,e=>.inl e
 | (n,k)::r,acc,h,e=>by
  unfold wW at e;have h':∀z∈r,z.2=.free->∃c,env.cells.lookup z.1=some c:=λz hz=>h z (List.mem_cons_of_mem _ hz);cases hk:k == NameKind.free with
  | true =>
   have hk':k=.free:=by simpa using hk
   subst hk';rw[hk,if_pos rfl] at e;rcases wM h' e with q | ⟨q1,q2⟩
   .rw[List.lookup_cons] at q;cases hy:y == n with
    | true =>
     rw[hy] at q;have:y=n:=by simpa using hy
     subst this;obtain ⟨c',hc'⟩:=h (y,.free) List.mem_cons_self rfl;have hc'':env.cells.lookup y=some c':=hc';rw[hc''] at q;refine .inr ⟨List.mem_cons_self,?_⟩;rw[hc''];exact q
    | false=>rw[hy] at q;exact .inl q
   .exact .inr ⟨List.mem_cons_of_mem _ q1,q2⟩
  | false =>
   rw[hk,if_neg (by simp)] at e;rcases wM h' e with q | ⟨q1,q2⟩
   .exact .inl q
   .exact .inr ⟨List.mem_cons_of_mem _ q1,q2⟩
theorem vt {env:Env}{y:Str}:∀ {names:List (Str×NameKind)}{acc:List (Str×Addr)},((y,NameKind.free)∈names\/(acc.lookup y).isSome=true)->((wW env names acc).lookup y).isSome=true
 | [],acc,h=>by
  rcases h with h | h
  .cases h
  .exact h
 | (n,k)::r,acc,h=>by
  unfold wW;cases hk:k == NameKind.free with
  | true =>
   rw[if_pos rfl];refine vt ?_;rcases h with h | h
   .rcases List.mem_cons.mp h with e | e
    .cases e;exact .inr (by rw[List.lookup_cons];simp)
    .exact .inl e
   .refine .inr ?_;rw[List.lookup_cons];split
    .rfl
    .exact h
  | false =>
   rw[if_neg (by simp)];refine vt ?_;rcases h with h | h
   .rcases List.mem_cons.mp h with e | e
    .cases e;cases hk
    .exact .inl e
   .exact .inr h
theorem zcp {y:Str}{c:Addr}:∀ {names:List (Str×NameKind)}{h:Heap}{acc:List (Str×Addr)},(cellsFrom h.objs.size names acc).lookup y=some c ->
  acc.lookup y=some c\/(h.objs.size<=c/\(pushCells h names).IsCell c none/\(y,NameKind.cell)∈names)
 | [],h,acc,e=>.inl e
 | (n,k)::r,h,acc,e=>by
  unfold cellsFrom at e;cases hk:k == NameKind.cell with
  | true =>
   have hk':k=.cell:=by simpa using hk
   subst hk';rw[hk,if_pos rfl] at e;have ih:=zcp (y:=y) (c:=c) (names:=r) (h:=h.push { cls:=.type "cell",data:=.cell none }) (acc:=(n,h.objs.size)::acc);rw[Heap.size_push] at ih;have hp:pushCells h ((n,NameKind.cell)::r)=pushCells (h.push { cls:=.type "cell",data:=.cell none }) r:=by
    exact if_pos hk
   rcases ih e with q | ⟨q1,q2,q3⟩
   .rw[List.lookup_cons] at q;cases hy:y == n with
    | true =>
     rw[hy] at q;cases q;have hyn:y=n:=by simpa using hy
     subst hyn;refine .inr ⟨Nat.le_refl _,?_,List.mem_cons_self⟩;rw[hp];exact ⟨_,pushCells_keeps _ _ _ _ (Heap.get?_push_size _ rfl),rfl⟩
    | false=>rw[hy] at q;exact .inl q
   .exact .inr ⟨Nat.le_trans (Nat.le_succ _) q1,by rw[hp];exact q2,List.mem_cons_of_mem _ q3⟩
  | false =>
   rw[hk,if_neg (by simp)] at e;have hp:pushCells h ((n,k)::r)=pushCells h r:=by
    show (if (k == NameKind.cell)=true then _ else _)=_;rw[hk,if_neg (by simp)]
   rcases zcp e with q | ⟨q1,q2,q3⟩
   .exact .inl q
   .exact .inr ⟨q1,by rw[hp];exact q2,List.mem_cons_of_mem _ q3⟩
theorem zcq {y:Str}{c:Addr}{lo:Nat}:∀ {names:List (Str×NameKind)}{n:Nat}{acc:List (Str×Addr)},((y,NameKind.cell)∈names\/∀c,acc.lookup y=some c->lo<=c)->lo<=n->(cellsFrom n names acc).lookup y=some c->lo<=c
 | [],n,acc,h,_,e=>by
  rcases h with h | h
  .cases h
  .exact h c e
 | (m,k)::r,n,acc,h,hn,e=>by
  unfold cellsFrom at e;cases hk:k == NameKind.cell with
  | true =>
   rw[hk,if_pos rfl] at e;refine zcq ?_ (Nat.le_trans hn (Nat.le_succ _)) e;by_cases hy:y=m
   .subst hy;refine .inr λc hc=>?_;rw[List.lookup_cons,beq_self_eq_true] at hc;cases hc;exact hn
   .rcases h with h | h
    .rcases List.mem_cons.mp h with z | z
     .cases z;exact absurd rfl hy
     .exact .inl z
    .refine .inr λc hc=>?_;rw[List.lookup_cons] at hc;have:(y == m)=false:=by simpa using hy
     rw[this] at hc;exact h c hc
  | false =>
   rw[hk,if_neg (by simp)] at e;refine zcq ?_ hn e;rcases h with h | h
   .rcases List.mem_cons.mp h with z | z
    .cases z;cases hk
    .exact .inl z
   .exact .inr h
theorem qG:∀ {names:List (Str×NameKind)}{n:Nat}{acc:List (Str×Addr)},(∀y z c,acc.lookup y=some c->acc.lookup z=some c->y=z)->(∀y c,acc.lookup y=some c->c < n) ->
  ∀y z c,(cellsFrom n names acc).lookup y=some c->(cellsFrom n names acc).lookup z=some c->y=z
 | [],n,acc,hi,_=>hi
 | (m,k)::r,n,acc,hi,hl=>by
  unfold cellsFrom;cases hk:k == NameKind.cell with
  | true =>
   rw[if_pos rfl];refine qG (λy z c e1 e2=>?_) λy c e=>?_
   .rw[List.lookup_cons] at e1 e2;cases hy:y == m <;> cases hz:z == m <;> rw[hy] at e1 <;> rw[hz] at e2
    .exact hi y z c e1 e2
    .cases e2;exact absurd (hl y _ e1) (Nat.lt_irrefl _)
    .cases e1;exact absurd (hl z _ e2) (Nat.lt_irrefl _)
    .exact (by simpa using hy:y=m).trans (by simpa using hz:z=m).symm
   .rw[List.lookup_cons] at e;cases hy:y == m <;> rw[hy] at e
    .exact Nat.lt_succ_of_lt (hl y c e)
    .cases e;exact Nat.lt_succ_self _
  | false =>
   rw[if_neg (by simp)];exact qG hi hl
theorem gx {M:Model}{A:Around}{E:Value->Shared->Prop}{s:Shared}{scope:Scope}{globals:Addr}{cl:List (Str×Addr)}{qual:Str}{outer:Env}{Q:Env->Shared->Prop}
  (hQ:Q { scope:=scope,locals:=s.heap.objs.size,globals:=globals,cells:=cellsFrom (s.heap.objs.size+1) scope.names cl,qual:=qual,func:=none,code:=outer.code,frame:=outer.frame,builtins:=outer.builtins }
   { s with heap:=pushCells (s.heap.push { cls:=.type "dict",data:=.dict #[] }) scope.names }) :
  wpAny M A (newFunctionEnv scope globals cl [] qual none .none (some outer)) Q E s:=by
 simp only[newFunctionEnv,Option.isSome_some,if_true];refine wpAny_bind (wpAny_alloc ?_);refine wpAny_bind (wpAny_layCells _ (λname kind cells=>by cases hkc:kind == NameKind.cell <;> simp[hkc]) _ _ _ _ ?_);rw[show ({ s with heap:=s.heap.push { cls:=.type "dict",data:=.dict #[] } }:Shared).heap.objs.size=s.heap.objs.size+1 from Heap.size_push ..];simp only[List.forIn_nil];exact wpAny_bind (wpAny_pure (wpAny_pure hQ))
theorem yw {scope:Scope}{env:Env}{y:Str}:(relabel scope env).names.lookup y=(scope.names.lookup y).map λk=>if (k == NameKind.free && env.scope.kind == .function && env.kindOf y == some .cell) then NameKind.cell else k:=by
 have all:∀l:List (Str×NameKind),(l.map λ(n,k)=>if (k == NameKind.free && env.scope.kind == .function && env.kindOf n == some .cell) then (n,NameKind.cell) else (n,k)).lookup y=(l.lookup y).map λk=>if (k == NameKind.free && env.scope.kind == .function && env.kindOf y == some .cell) then NameKind.cell else k:=by
  intro l
  induction l with
  | nil=>rfl
  | cons p r ih =>
   obtain ⟨n,k⟩:=p;rw[List.map_cons,List.lookup_cons];by_cases hc:(k == NameKind.free && env.scope.kind == .function && env.kindOf n == some .cell)=true
   .simp only[hc,if_true,List.lookup_cons];cases hy:y == n with
    | true =>
     have:y=n:=by simpa using hy
     subst this;simp only[Option.map_some,hc,if_true]
    | false=>exact ih
   .simp only[if_neg hc,List.lookup_cons];cases hy:y == n with
    | true =>
     have:y=n:=by simpa using hy
     subst this;simp only[Option.map_some,if_neg hc]
    | false=>exact ih
 exact all scope.names
noncomputable def dum (x:Str):Str:=⟨x.cps.push 0⟩
noncomputable def yZ (N xs:List Str):List Str:=(N.map λy=>if y∈xs then dum y else y)++xs
theorem zbk (N xs:List Str):(yZ N xs).length=N.length+xs.length:=by simp[yZ]
theorem wX (N xs:List Str)(j:Nat):(yZ N xs)[N.length+j]?=xs[j]?:=by
 unfold yZ;rw[List.getElem?_append_right (by simp)];simp
theorem zbl {N xs:List Str}{y:Str}{i:Nat}(hi:i < N.length)(h:(yZ N xs)[i]?=some y):(∃x∈xs,y=dum x)\/(N[i]?=some y/\y∉xs):=by
 unfold yZ at h;rw[List.getElem?_append_left (by simpa using hi),List.getElem?_map] at h;obtain ⟨z,hz⟩:∃z,N[i]?=some z:=⟨N[i],by simp[hi]⟩;rw[hz] at h;by_cases e:z∈xs
 .simp only[Option.map_some,if_pos e] at h;exact .inl ⟨z,e,(Option.some.inj h).symm⟩
 .simp only[Option.map_some,if_neg e] at h;have e2:z=y:=Option.some.inj h;subst e2;exact .inr ⟨hz,e⟩
structure CompOf (X:Cx)(scope:Scope)(xs:List Str)(Xc:Cx):Prop where
 prog:Xc.prog=X.prog
 w:Xc.w=X.w
 K:Xc.K=X.K
 mg:Xc.mg=X.mg
 base:Xc.base=X.base
 A:Xc.A=X.A
 N:Xc.N=yZ X.N xs
 sc:Xc.env.scope=relabel scope X.env
 calm:Xc.calm=true
 stack:Xc.stack=X.stack
def PTs (X:Cx)(ifs:List Expr)(t:TT):Prop :=
 ∀ (pins:List (Addr×Obj)) (s:Shared) (σ:St) (H:Hp) (Q:Bool->Hp->Prop),Inv X pins σ H s->t σ H Q ->
  wpAny (model X.prog X.w) X.A (forIn ifs true λc r=>if r=true then do let ok <- isTrue c X.env (eval c X.env);pure (ForInStep.yield ok) else pure (ForInStep.yield r)) (TP X pins σ Q) X.xe s
theorem wN {X:Cx}:PTs X [] (λ_ H Q=>Q true H):=λ_ _ _ H _ I h=>wpAny_tests_nil ⟨H,I,h⟩
theorem zev {X:Cx}{c:Expr}{t:TT}(h:PT X c t):PTs X [c] t:=λpins s σ H Q I q=>wpAny_tests_one (h pins s σ H Q I q)
structure BlockOk (X:Cx)(scope:Scope)(xs:List Str):Prop where
 kind:scope.kind=.function
 own:∀x∈xs,scope.names.lookup x=some .local\/scope.names.lookup x=some .cell
 locs:∀y∈scope.names,y.2=.local->scope.names.lookup y.1=some .local
 free:∀y∈scope.names,y.2=.free->X.env.scope.names.lookup y.1=some .cell\/X.env.scope.names.lookup y.1=some .free
 alone:∀y∈X.N,y∉xs->scope.names.lookup y≠some .local/\scope.names.lookup y≠some .cell
 one:∀y∈scope.names,y.2=.cell->scope.names.lookup y.1≠some .free
 nd:(yZ X.N xs).Nodup
 dumN:∀x∈xs,scope.names.lookup (dum x)=none
theorem jN {prog:Program}{w:World}{A:Around}{R:Result->Shared->Prop}{s:Shared}{elt target iter:Expr}{ifs:List Expr}{scope:Scope}{pos:Pos}{it acc:Value}{env:Env}(I:Nat->Shared->Prop)
  (turn:∀n s,I n s->wpAny (model prog w) A (pyNext it) (λr s₁=>match r with
   | none=>R (.ok .next) s₁
   | some v=>wpAny (model prog w) A (letOwnedTupleGo target it v) (λ_ s₁'=>wpAny (model prog w) A (assign target env v) (λ_ s₂ =>
     wpAny (model prog w) A (forIn ifs true λc r=>if r=true then do let ok <- isTrue c env (eval c env);pure (ForInStep.yield ok) else pure (ForInStep.yield r)) (λok s₃ =>
      if ok=true then wpAny (model prog w) A (eval elt env) (λx s₄ =>
       wpAny (model prog w) A (call (.builtin "list.append") [acc,x]) (λ_ s₅=>∃m,m < n/\I m s₅) (notedBy (model prog w) A env λe s'=>R (.error e) s') s₄) (notedBy (model prog w) A env λe s'=>R (.error e) s') s₃
      else ∃m,m < n/\I m s₃) (notedBy (model prog w) A env λe s'=>R (.error e) s') s₂) (notedBy (model prog w) A env λe s'=>R (.error e) s') s₁') (notedBy (model prog w) A env λe s'=>R (.error e) s') s₁) (notedBy (model prog w) A env λe s'=>R (.error e) s') s)
  (n:Nat) (h:I n s):codeAny (model prog w) A (.compLoop (.ListComp elt [⟨target,iter,ifs,0⟩] scope pos) 0 it acc env) R s:=by
 refine codeAny_loop rfl I (λn s hI=>?_) n h;show wpAny _ A ((compTurn (.ListComp elt [⟨target,iter,ifs,0⟩] scope pos) 0 it acc env).onRaise (λx=>do noteFrame x env;theTreesLotGoes x)) _ _ s;refine wpAny_noted ?_;rw[compTurn_list];refine wpAny_bind (wpAny_standAt (wpAny_bind (wpAny_mono (turn n s hI) (λr s₁ h₁=>?_) λ_ _ h'=>h')));cases r with
 | none=>exact wpAny_pure h₁
 | some v =>
  refine wpAny_bind (wpAny_mono h₁ (λ_ s₁' h₁'=>?_) λ_ _ h'=>h');refine wpAny_bind (wpAny_mono h₁' (λ_ s₂ h₂=>wpAny_bind (wpAny_mono h₂ (λok s₃ h₃=>?_) λ_ _ h'=>h')) λ_ _ h'=>h');cases ok with
  | false=>exact wpAny_pure ⟨rfl,h₃⟩
  | true =>
   exact wpAny_bind (wpAny_bind (wpAny_mono h₃ (λx s₄ h₄=>wpAny_bind (wpAny_mono h₄ (λ_ s₅ h₅=>wpAny_pure (wpAny_pure ⟨rfl,h₅⟩)) λ_ _ h'=>h')) λ_ _ h'=>h'))
def jq (un:V->Hp->List V->Prop)(wi:TI)(tc:TT)(te:TE):TE:=λσ H Q=>wi σ H λJ H1=>∀D,H1 D=none->∃W:Nat->Nat->List V->Hp->Prop,(∃m,W 0 m [] (upd H1 D (.lst [])))/\∀i m ys H,W i m ys H ->
 (J.stop i H/\Q (.ref D) H)\/(J.go i H/\∀v H',J.yld i H v H'->∃vs,un v H' vs/\tc (σ++vs.map some) H' λb H2=>if b=true then te (σ++vs.map some) H2 λy H3=>H3 D=some (.lst ys)/\ys.length < sizeLine/\∃m',m' < m/\W (i+1) m' (ys++[y]) (upd H3 D (.lst (ys++[y])))
  else ∃m',m' < m/\W (i+1) m' ys H2)
theorem kD {X:Cx}{elt iter tg:Expr}{xs:List Str}{g:TG}{un:V->Hp->List V->Prop}{ifs:List Expr}{scope:Scope}{pos:Pos}{tc:TT}{te:TE}{pins:List (Addr×Obj)}{σ:St}{s:Shared}{H:Hp}{Q:Value->Shared->Prop}{use:Option (Value->Sem Unit)}
  {D it:Addr}{fp:List Addr}{tn:Nat->Heap->Prop}{J:It}(B:BlockOk X scope xs) (hc:X.calm=true)
  (hpg:∀Xc,CompOf X scope xs Xc->(∀x∈xs,Loc Xc.env.scope x/\(Xc.fn x=true\/Xc.env.scope.names.lookup x=some .local))->PG Xc tg g)
  (hun:∀v H vs os,os.length=xs.length->un v H vs->vs.length=xs.length/\g v (σ++os) H λσ2 H2=>σ2=σ++vs.map some/\H2=H)
  (hbody:∀Xc,CompOf X scope xs Xc->PTs Xc ifs tc/\PE Xc elt te)
  (I:Inv X pins σ H s) (T:Turn X.prog X.w X.K tg J fp it tn) (st:tn 0 s.heap) (hfp:∀b∈fp,vY X pins H b)
  (W:Nat->Nat->List V->Hp->Prop) (m0:Nat) (w0:W 0 m0 [] H)
  (turn:∀i m ys H,W i m ys H->(J.stop i H/\∀s' m' C,Inv X pins σ H s'->s'.heap.Ns C m'->s.heap.objs.size<=C->H C=none->compPost (model X.prog X.w) X.A X.xe use Q (.ref D) C (.ok .next) s') \/
   (J.go i H/\∀v H',J.yld i H v H'->∃vs,un v H' vs/\tc (σ++vs.map some) H' λb H2=>if b=true then te (σ++vs.map some) H2 λy H3=>H3 D=some (.lst ys)/\ys.length < sizeLine/\∃m',m' < m/\W (i+1) m' (ys++[y]) (upd H3 D (.lst (ys++[y])))
    else ∃m',m' < m/\W (i+1) m' ys H2)) :
  wpAny (model X.prog X.w) X.A (newFunctionEnv scope X.env.globals (wW X.env scope.names []) [] X.env.qual none .none (some X.env)) (λcenv s₄ =>
   codeAny (model X.prog X.w) X.A (.compStart (.ListComp elt [⟨tg,iter,ifs,0⟩] scope pos) 0 (.ref it) (.ref D) { cenv with scope:=relabel scope X.env }) (compPost (model X.prog X.w) X.A X.xe use Q (.ref D) cenv.locals) s₄) X.xe s:=by
 refine gx ?_;have hcl:∀y∈scope.names,y.2=.free->∃c,X.env.cells.lookup y.1=some c:=λy hy hf=>by
  rcases B.free y hy hf with q | q
  .exact I.ok.has y.1 (.inl q)
  .exact I.ok.has y.1 (.inr q)
 -- the block's own parts
 generalize hC:s.heap.objs.size=C;generalize hcs:cellsFrom (C+1) scope.names (wW X.env scope.names [])=cs;generalize hh4:pushCells (s.heap.push { cls:=.type "dict",data:=.dict #[] }) scope.names=h4;have szP:(s.heap.push { cls:=.type "dict",data:=.dict #[] }).objs.size=C+1:=by rw[Heap.size_push,hC]
 have keep4:∀b o,s.heap.get? b=some o->h4.get? b=some o:=λb o e=>hh4▸pushCells_keeps _ _ _ _ (Heap.get?_push_of_some _ e);have nsC:h4.Ns C (λ_=>none):=by
  have q:=(Heap.Ns.new s.heap (.type "dict")).keeps (pushCells_keeps scope.names (s.heap.push { cls:=.type "dict",data:=.dict #[] }));rw[hC,hh4] at q;exact q
 -- a cell of the block: one of its own,or one of those around
 have csIn:∀y c,cs.lookup y=some c->((y,NameKind.free)∈scope.names/\X.env.cells.lookup y=some c)\/(C+1<=c/\h4.IsCell c none/\(y,NameKind.cell)∈scope.names):=λy c e=>by
  have q:=zcp (y:=y) (c:=c) (names:=scope.names) (h:=s.heap.push { cls:=.type "dict",data:=.dict #[] }) (acc:=wW X.env scope.names []);rw[szP,hcs,hh4] at q;rcases q e with q | q
  .rcases wM hcl q with z | z
   .cases z
   .exact .inl z
  .exact .inr q
 have oldC:∀y c,X.env.cells.lookup y=some c->c < C:=λy c e=>by
  obtain ⟨v,q⟩:=I.cell y c e;rw[<- hC];exact q.lt
 have fpC:∀b∈fp,b < C:=λb hb=>by
  obtain ⟨o,e,_⟩:=T.obj _ _ st b hb;rw[<- hC];exact Heap.lt_size e
 let cenv:Env:={ scope:=relabel scope X.env,locals:=C,globals:=X.env.globals,cells:=cs,qual:=X.env.qual,func:=none,code:=X.env.code,frame:=X.env.frame,builtins:=X.env.builtins }
 let RR:Result->Shared->Prop:=compPost (model X.prog X.w) X.A X.xe use Q (.ref D) C
 let Xc:Cx:={ X with N:=yZ X.N xs,s₀:=s,H₀:=H,env:=cenv,outer:=X.stack,stack:=X.stack,ex:=fp,fn:=λy=>decide (scope.names.lookup y=some .cell),calm:=true,pn:=[],xe:=notedBy (model X.prog X.w) X.A cenv λe s'=>RR (.error e) s' }
 have hXc:CompOf X scope xs Xc:=⟨rfl,rfl,rfl,rfl,rfl,rfl,rfl,rfl,rfl,rfl⟩;obtain ⟨hT,hE⟩:=hbody Xc hXc;have ok:Xc.Ok:=by
  refine ⟨I.ok.mod,B.kind,I.ok.glob,I.ok.blt,Nat.le_of_eq hC,?_,λy hy=>?_,λy c hf e=>?_,λ_=>I.ok.hd hc,I.ok.frames,.inl rfl,λb hb=>⟨Nat.ne_of_lt (fpC b hb),λy c e=>?_⟩,I.bs,Nat.le_trans I.ok.bsz I.sz,λb o e hb=>?_,λb hb hf=>?_,I.stack,I.stkFree⟩
  .show ∀y z c,cs.lookup y=some c->cs.lookup z=some c->y=z;rw[<- hcs];refine qG (λy z c e1 e2=>?_) λy c e=>?_
   .rcases wM hcl e1 with q | q
    .cases q
    .rcases wM hcl e2 with q' | q'
     .cases q'
     .exact I.ok.inj y z c q.2 q'.2
   .rcases wM hcl e with q | q
    .cases q
    .exact Nat.lt_succ_of_lt (oldC y c q.2)
  .have hy':(relabel scope X.env).names.lookup y=some .cell\/(relabel scope X.env).names.lookup y=some .free:=hy;rw[yw] at hy';show ∃c,cs.lookup y=some c;rw[<- hcs];refine Option.isSome_iff_exists.mp (PySem.W.cellsFrom_some _ _ _ ?_);cases hk:scope.names.lookup y with
   | none=>rw[hk] at hy';rcases hy' with z | z <;> cases z
   | some k =>
    rw[hk] at hy';have kk:k=.cell\/k=.free:=by
     simp only[Option.map_some] at hy';by_cases hcnd:(k == NameKind.free && X.env.scope.kind == .function && X.env.kindOf y == some .cell)=true
     .refine .inr ?_;have:=(Bool.and_eq_true_iff.mp (Bool.and_eq_true_iff.mp hcnd).1).1;simpa using this
     .rw[if_neg hcnd] at hy';rcases hy' with z | z
      .exact .inl (Option.some.inj z)
      .exact .inr (Option.some.inj z)
    rcases kk with rfl | rfl
    .exact .inl rfl
    .exact .inr (vt (.inl (PySem.mem_of_lookup hk)))
  .show s.heap.objs.size<=c;rw[hC];have e':cs.lookup y=some c:=e;rw[<- hcs] at e';exact Nat.le_trans (Nat.le_succ _) (zcq (lo:=C+1) (.inl (PySem.mem_of_lookup (of_decide_eq_true hf))) (Nat.le_refl _) e')
  .show c≠b;rintro rfl;rcases csIn y c e with ⟨_,z⟩ | ⟨z,_,_⟩
   .exact (hfp c hb).2.2.2.2.1 y c z rfl
   .exact absurd (Nat.lt_of_lt_of_le (fpC c hb) (Nat.le_trans (Nat.le_succ _) z)) (Nat.lt_irrefl _)
  .rcases (hfp b hb).2.2.2.1 with z | z
   .exact I.ok.noex b o e z
   .exact absurd (Nat.lt_of_lt_of_le (Heap.lt_size (I.ok.bs b o e).1) z) (Nat.lt_irrefl _)
  .rcases List.mem_cons.mp (I.stkSub b hf) with z | z
   .exact (hfp b hb).2.1 z
   .exact (hfp b hb).2.2.1 z
 have frC:H C=none:=I.hok.fresh (Nat.le_of_eq hC);have frN:∀c,C<=c->H c=none:=λc hc'=>I.hok.fresh (by rw[hC];exact hc');have hσ:σ.length=X.N.length:=I.len;have I4:Inv Xc [] (σ++xs.map λ_=>none) H { s with heap:=h4 }:=by
  refine ⟨ok,rfl,I.bare,Un.kept keep4,⟨_,nsC,λi y v e1 e2 e3=>?_⟩,λy c e=>?_,frC,λy c e=>?_,λp hp=>absurd (show p∈([]:List (Addr×Obj)) from hp) (by simp),I.hok.kept keep4,?_⟩
  .have hi:i < σ.length:=by
    by_cases hi:i < σ.length
    .exact hi
    .rw[List.getElem?_append_right (by lia),List.getElem?_map] at e2;cases hz:xs[i - σ.length]? with
     | none=>rw[hz] at e2;simp at e2
     | some k=>rw[hz] at e2;simp at e2
   rw[List.getElem?_append_left hi] at e2;have vis:scope.names.lookup y=some .local\/scope.names.lookup y=some .cell\/scope.names.lookup y=some .free:=by
    have e3':Vis (relabel scope X.env) y:=e3;unfold Vis at e3';rw[yw] at e3';cases hk:scope.names.lookup y with
    | none=>rw[hk] at e3';rcases e3' with z | z | z <;> cases z
    | some k =>
     rw[hk] at e3';simp only[Option.map_some] at e3';by_cases hcnd:(k == NameKind.free && X.env.scope.kind == .function && X.env.kindOf y == some .cell)=true
     .have:=(Bool.and_eq_true_iff.mp (Bool.and_eq_true_iff.mp hcnd).1).1;exact .inr (.inr (by rw[show k=.free by simpa using this]))
     .rw[if_neg hcnd] at e3';exact e3'
   rcases zbl (by rw[<- hσ];exact hi) e1 with z | ⟨z,zx⟩
   .obtain ⟨x,hx,z⟩:=z;subst z;rw[B.dumN x hx] at vis;rcases vis with q | q | q <;> cases q
   .have hfree:scope.names.lookup y=some .free:=by
     rcases vis with q | q | q
     .exact absurd q (B.alone y (List.mem_of_getElem? z) zx).1
     .exact absurd q (B.alone y (List.mem_of_getElem? z) zx).2
     .exact q
    have kout:=B.free _ (PySem.mem_of_lookup hfree) rfl;obtain ⟨m,hn,hl⟩:=I.loc;obtain ⟨u,r,l⟩:=hl i y v z e2 (kout.elim (λq=>.inr (.inl q)) λq=>.inr (.inr q));refine ⟨u,r,?_⟩;rcases l with ⟨k,_⟩ | ⟨_,c,ec,zc⟩
    .have k':X.env.scope.names.lookup y=some .local:=k;rcases kout with q | q <;> rw[k'] at q <;> cases q
    .have hsome:∃c',cs.lookup y=some c':=ok.has y (by
      show (relabel scope X.env).names.lookup y=some .cell\/(relabel scope X.env).names.lookup y=some .free;rw[yw,hfree];simp only[Option.map_some];split
      .exact .inl rfl
      .exact .inr rfl)
     obtain ⟨c',ec'⟩:=hsome;refine .inr ⟨?_,c',ec',?_⟩
     .show (relabel scope X.env).names.lookup y=some .cell\/(relabel scope X.env).names.lookup y=some .free;rw[yw,hfree];simp only[Option.map_some];split
      .exact .inl rfl
      .exact .inr rfl
     .rcases csIn y c' ec' with ⟨_,q⟩ | ⟨_,_,q⟩
      .rw[ec] at q;cases q;exact zc.keeps keep4
      .exact absurd hfree (B.one (y,.cell) q rfl)
  .rcases csIn y c e with ⟨_,q⟩ | ⟨_,q,_⟩
   .obtain ⟨v,z⟩:=I.cell y c q;exact ⟨v,z.keeps keep4⟩
   .exact ⟨_,q⟩
  .rcases csIn y c e with ⟨_,q⟩ | ⟨q,_,_⟩
   .exact I.freeC y c q
   .exact frN c (by lia)
  .show (σ++xs.map λ_=>none).length=(yZ X.N xs).length;rw[zbk,List.length_append,hσ,List.length_map]
 -- the loop
 have hLoc:∀x∈xs,Loc Xc.env.scope x/\(Xc.fn x=true\/Xc.env.scope.names.lookup x=some .local):=λx hx=>by
  constructor
  .show (relabel scope X.env).names.lookup x=some .local\/(relabel scope X.env).names.lookup x=some .cell;rw[yw];rcases B.own x hx with q | q <;> rw[q]
   .exact .inl rfl
   .exact .inr rfl
  .rcases B.own x hx with q | q
   .refine .inr ?_;show (relabel scope X.env).names.lookup x=some .local;rw[yw,q];rfl
   .exact .inl (decide_eq_true q)
 have hg:PG Xc tg g:=hpg Xc hXc hLoc;have fpX:∀ {H':Hp},(∀b∈fp,H' b=none)->∀b∈fp,vY Xc [] H' b:=λhn b hb =>
  ⟨hn b hb,Nat.ne_of_lt (fpC b hb),λz=>ok.exfs b hb z,.inl hb,λy c e=>(ok.exf b hb).2 y c e,λp hp=>absurd (show p∈([]:List (Addr×Obj)) from hp) (by simp)⟩
 have loop:codeAny (model X.prog X.w) X.A (.compLoop (.ListComp elt [⟨tg,iter,ifs,0⟩] scope pos) 0 (.ref it) (.ref D) cenv) RR { s with heap:=h4 }:=by
  refine jN (λn s'=>∃i os ys H',os.length=xs.length/\Inv Xc [] (σ++os) H' s'/\tn i s'.heap/\(∀b∈fp,H' b=none)/\W i n ys H') ?_ m0 ⟨0,_,[],H,List.length_map _,I4,T.keep _ _ _ st λb _ o e=>keep4 b o e,λb hb=>(hfp b hb).1,w0⟩;rintro n s3 ⟨i,os,ys,H3,hos,I3,st3,fr3,w3⟩;rcases turn i n ys H3 w3 with ⟨stop,fin⟩ | ⟨go,step⟩
  .refine thn (T.done Xc rfl rfl rfl rfl i [] s3 (σ++os) H3 Xc.xe I3 (fpX fr3) st3 stop) λr s4 ⟨hr,I4⟩=>?_;subst hr;obtain ⟨m,hn,_⟩:=id I4.loc;refine fin s4 m C ?_ hn (Nat.le_of_eq hC) I4.free;exact I.call' (ch:=fp) I4.os I4.base I4.hok I4.bare λb hb=>⟨(hfp b hb).2.2.2.1,(hfp b hb).2.1,(hfp b hb).2.2.2.2.1,(hfp b hb).2.2.2.2.2⟩
  .refine thn (T.item Xc rfl rfl rfl rfl i [] s3 (σ++os) H3 Xc.xe I3 (fpX fr3) st3 go) λr s4 ⟨u,hr,h4'⟩=>?_;subst hr;refine thn h4' λ_ s5 ⟨v,H5,I5,r5,y5,st5,fr5⟩=>?_;have I5':=I5.pinned (fpX fr5) (T.obj _ _ st5);obtain ⟨vs,hvs,step5⟩:=step v H5 y5;obtain ⟨hvl,hset⟩:=hun v H5 vs os hos hvs;refine thn (hg _ s5 (σ++os) H5 v u (λσ2 H2=>σ2=σ++vs.map some/\H2=H5) I5' r5 hset) λ_ s6 ⟨σ6,H6,I6,e6,e6'⟩=>?_;subst e6;subst e6';have back:∀ {H7:Hp}{s7:Shared},Inv Xc ([]++kA fp s5.heap) (σ++vs.map some) H7 s7->tn (i+1) s7.heap/\(∀b∈fp,H7 b=none)/\Inv Xc [] (σ++vs.map some) H7 s7:=λ{H7 s7} I7=>by
    refine ⟨T.keep _ _ _ st5 λb hb ob e=>(I7.pin (b,ob) (List.mem_append_right _ (List.mem_append_right _ (x8 hb e)))).1,λb hb=>?_,I7.unpinned⟩;obtain ⟨ob,e,_⟩:=T.obj _ _ st5 b hb;exact (I7.pin (b,ob) (List.mem_append_right _ (List.mem_append_right _ (x8 hb e)))).2.1
   refine thn (hT _ s6 (σ++vs.map some) H6 _ I6 step5) λb s7 ⟨H7,I7,q7⟩=>?_;cases b with
   | false =>
    rw[if_neg Bool.false_ne_true] at q7 ⊢;obtain ⟨m',hm,w7⟩:=q7;obtain ⟨t1,t2,t3⟩:=back I7;exact ⟨m',hm,i+1,_,ys,H7,(by rw[List.length_map];exact hvl),t3,t1,t2,w7⟩
   | true =>
    rw[if_pos rfl] at q7 ⊢;refine thn (hE _ s7 (σ++vs.map some) H7 _ I7 q7) λyv s8 ⟨y,H8,I8,r8,hD8,hl8,m',hm,w8⟩=>?_;refine thn (jo (X:=Xc) _ s8 (σ++vs.map some) H8 (.ref D) [y] (.ref D) [yv] (λ_ H9=>H9=upd H8 D (.lst (ys++[y]))) I8 rfl (.cons r8 .nil) ⟨D,ys,y,rfl,rfl,hD8,hl8,rfl⟩) λ_ s9 ⟨_,H9,I9,_,e9⟩=>?_;subst e9;obtain ⟨t1,t2,t3⟩:=back I9;exact ⟨m',hm,i+1,_,ys++[y],_,(by rw[List.length_map];exact hvl),t3,t1,t2,w8⟩
 refine codeAny_compStart_list loop ?_;exact T.self X.A 0 _ _ _ (T.keep _ _ _ st λb _ o e=>keep4 b o e) loop
section
variable {X:Cx}{elt iter tg:Expr}{xs:List Str}{y:Str}{g:TG}{un:V->Hp->List V->Prop}{py:Pos}{ifs:List Expr}{scope:Scope}{pos spos:Pos}{wi:TI}{tc:TT}{te:TE}
theorem Inv.aside {pins:List (Addr×Obj)}{σ:St}{H:Hp}{s:Shared}{C lo:Addr}{h':Heap}(I:Inv X pins σ H s)(hlo:lo<=C)(hL:X.env.locals < lo)(hcell:∀y c,X.env.cells.lookup y=some c->c < lo)(hpin:∀p∈X.pn++pins,p.1 < lo)
  (hn:H C=none) (hs:Heap.SameBut C s.heap h'):Inv X pins σ H { s with heap:=h' } :=
 I.turned (it:=C) (t':=s.toks) (λb o hb e=>(hs.2 b hb).trans e) hn (Nat.ne_of_gt (Nat.lt_of_lt_of_le hL hlo)) (.inr (Nat.le_trans I.ok.above (Nat.le_trans (Nat.le_of_lt hL) hlo)))
  (λy c e=>Nat.ne_of_lt (Nat.lt_of_lt_of_le (hcell y c e) hlo)) λp hp=>Nat.ne_of_lt (Nat.lt_of_lt_of_le (hpin p hp) hlo)
theorem Inv.below {pins:List (Addr×Obj)}{σ:St}{H:Hp}{s:Shared}(I:Inv X pins σ H s):X.env.locals < s.heap.objs.size/\(∀y c,X.env.cells.lookup y=some c->c < s.heap.objs.size)/\∀p∈X.pn++pins,p.1 < s.heap.objs.size :=
 ⟨I.lt,λy c e=>let ⟨_,z⟩:=I.cell y c e;z.lt,λp hp=>Heap.lt_size (I.pin p hp).1⟩
theorem wV (B:BlockOk X scope xs)(ok:X.Ok):closureFor scope X.env=pure (wW X.env scope.names []) :=
 kC λy hy hf=>(B.free y hy hf).elim (λq=>ok.has y.1 (.inl q)) λq=>ok.has y.1 (.inr q)
structure Tgt (X:Cx)(scope:Scope)(xs:List Str)(tg:Expr)(g:TG)(un:V->Hp->List V->Prop):Prop where
 pg:∀Xc,CompOf X scope xs Xc->(∀x∈xs,Loc Xc.env.scope x/\(Xc.fn x=true\/Xc.env.scope.names.lookup x=some .local))->PG Xc tg g
 un:∀v H vs os (σ:St),σ.length=X.N.length->os.length=xs.length->un v H vs->vs.length=xs.length/\g v (σ++os) H λσ2 H2=>σ2=σ++vs.map some/\H2=H
def un1 (v:V)(_:Hp)(vs:List V):Prop:=vs=[v]
theorem zcr {α:Type}{l:List α}(h:l.length=1):∃a,l=[a]:=by
 cases l with
 | nil=>cases h
 | cons a t =>
  cases t with
  | nil=>exact ⟨a,rfl⟩
  | cons b t=>cases h
theorem zcs {α:Type}{l:List α}(h:l.length=2):∃a b,l=[a,b]:=by
 cases l with
 | nil=>cases h
 | cons a t =>
  obtain ⟨b,rfl⟩:=zcr (Nat.succ.inj h);exact ⟨a,b,rfl⟩
theorem zau {x:Str}{px:Pos}(B:BlockOk X scope [x]):Tgt X scope [x] (.Name x px) (wz X.N.length) un1:=by
 refine ⟨λXc c h=>?_,λv H vs os σ hσ ho hv=>?_⟩
 .exact xL (by rw[c.N];exact B.nd) (by rw[c.N];exact wX X.N [x] 0) (h x (by simp)).1 (h x (by simp)).2
 .cases hv;refine ⟨rfl,?_,rfl⟩;obtain ⟨o,rfl⟩:=zcr ho;rw[<- hσ,List.set_append_right _ _ (Nat.le_refl _)];simp
def un2 (K:PySem.W.Frag)(v:V)(H:Hp)(vs:List V):Prop:=∃a,v=.ref a/\SqT K H a vs/\vs.length=2
theorem vf {x y:Str}{px py:Pos}{k:Nat}{pt:Pos}(hc:X.calm=true)(B:BlockOk X scope [x,y]):Tgt X scope [x,y] (.Tuple [.Name x px,.Name y py] k pt) (zee X.K 2 (ky (wz X.N.length) (ky (wz (X.N.length+1)) zed))) (un2 X.K):=by
 refine ⟨λXc c h=>?_,λv H vs os σ hσ ho hv=>?_⟩
 .have nd:Xc.N.Nodup:=by rw[c.N];exact B.nd
  rw[<- c.K];exact qw c.calm (xW (xL nd (by rw[c.N];exact wX X.N [x,y] 0) (h x (by simp)).1 (h x (by simp)).2) (xW (xL nd (by rw[c.N];exact wX X.N [x,y] 1) (h y (by simp)).1 (h y (by simp)).2) jG))
 .obtain ⟨a,e1,e2,e3⟩:=hv;obtain ⟨u,w,rfl⟩:=zcs e3;obtain ⟨o,p,rfl⟩:=zcs ho;refine ⟨rfl,a,[u,w],e1,e2,rfl,u,[w],rfl,w,[],rfl,rfl,?_,rfl⟩;rw[<- hσ,List.set_append_right _ _ (Nat.le_refl _),List.set_append_right _ _ (by lia)];simp
theorem vg (B:BlockOk X scope xs)(hc:X.calm=true)(hT:Tgt X scope xs tg g un)(hi:PI X tg iter wi)(hbody:∀Xc,CompOf X scope xs Xc->PTs Xc ifs tc/\PE Xc elt te)
  (hs:∀v,foldedSetIterable iter X.env v=pure v:=by intro _;rfl):PE X (.ListComp elt [⟨tg,iter,ifs,0⟩] scope pos) (jq un wi tc te):=by
 intro pins s σ H Q I h;rw[eval_ListComp];refine wpAny_comprehension_free (use:=none) (cl:=wW X.env scope.names []) rfl hs (wV B I.ok) B.kind B.locs ?_;refine thn (hi pins s σ H _ I h) λxv s1 h1=>thn h1 λitv s2 h2=>?_;obtain ⟨it,fp,tn,J,H2,e,I2,T,st2,f2,q2⟩:=h2;subst e;refine wpAny_newObj_type ?_;have I3:=I2.lnew (its:=[]) (ys:=[]) (t':=s2.toks) .nil (Nat.zero_le _);obtain ⟨W,⟨m0,w0⟩,turn⟩:=q2 s2.heap.objs.size (I2.hok.fresh (Nat.le_refl _));have fp3:∀b∈fp,vY X pins (upd H2 s2.heap.objs.size (.lst [])) b:=λb hb=>by
  obtain ⟨o,e,_⟩:=T.obj _ _ st2 b hb;exact ⟨by rw[zn (Nat.ne_of_lt (Heap.lt_size e))];exact (f2 b hb).1,(f2 b hb).2⟩
 obtain ⟨b1,b2,b3⟩:=I3.below;refine kD B hc hT.pg (λv H vs os h1 h2=>hT.un v H vs os σ I.len h1 h2) hbody I3 T (T.keep _ _ _ st2 λb _ o e=>Heap.get?_push_of_some _ e) fp3 W m0 w0 λi m ys H4 w=>?_;rcases turn i m ys H4 w with ⟨stop,q⟩ | r
 .exact .inl ⟨stop,λs' m' C I' hn hC hCn=>⟨m',hn,λh' hsb=>⟨.ref s2.heap.objs.size,H4,I'.aside hC b1 b2 b3 hCn hsb,rfl,q⟩⟩⟩
 .exact .inr r
theorem qH {i:Nat}(B:BlockOk X scope xs)(hc:X.calm=true)(hT:Tgt X scope xs tg g un)(hi:PI X tg iter wi)(hbody:∀Xc,CompOf X scope xs Xc->PTs Xc ifs tc/\PE Xc elt te)
  (hN:X.N.Nodup) (hy:X.N[i]?=some y) (hx:Loc X.env.scope y) (hf:X.fn y=true\/X.env.scope.names.lookup y=some .local)
  (hsw:swapsWith (.ListComp elt [⟨tg,iter,ifs,0⟩] scope pos) (some (.Name y py)) spos.line X.env=pure true)
  (hs:∀v,foldedSetIterable iter X.env v=pure v:=by intro _;rfl):PS X (.Assign [.Name y py] (.ListComp elt [⟨tg,iter,ifs,0⟩] scope pos) spos) (zcc (jq un wi tc te) (wz i)):=by
 intro pins s σ H D I h;rw[exec_Assign_Name_used _ _ _ _ hsw];refine wpAny_bind (wpAny_standAt (wpAny_bind ?_));show wpAny _ X.A (do let _ <- comprehension (.ListComp elt [⟨tg,iter,ifs,0⟩] scope pos) scope X.env _ (newList []) false (eval iter X.env) (some (assign (.Name y py) X.env))) _ _ s;refine wpAny_bind (wpAny_mono (wpAny_comprehension_free (use:=some (assign (.Name y py) X.env)) (cl:=wW X.env scope.names []) (Q:=λ_ s'=>SP X pins D .next s') rfl hs (wV B I.ok) B.kind B.locs ?_)
  (λ_ s' hq=>wpAny_pure (wpAny_pure hq)) λ_ _ e=>e)
 refine thn (hi pins s σ H _ I h) λxv s1 h1=>thn h1 λitv s2 h2=>?_;obtain ⟨it,fp,tn,J,H2,e,I2,T,st2,f2,q2⟩:=h2;subst e;refine wpAny_newObj_type ?_;have I3:=I2.lnew (its:=[]) (ys:=[]) (t':=s2.toks) .nil (Nat.zero_le _);obtain ⟨W,⟨m0,w0⟩,turn⟩:=q2 s2.heap.objs.size (I2.hok.fresh (Nat.le_refl _));have fp3:∀b∈fp,vY X pins (upd H2 s2.heap.objs.size (.lst [])) b:=λb hb=>by
  obtain ⟨o,e,_⟩:=T.obj _ _ st2 b hb;exact ⟨by rw[zn (Nat.ne_of_lt (Heap.lt_size e))];exact (f2 b hb).1,(f2 b hb).2⟩
 obtain ⟨b1,b2,b3⟩:=I3.below;refine kD B hc hT.pg (λv H vs os h1 h2=>hT.un v H vs os σ I.len h1 h2) hbody I3 T (T.keep _ _ _ st2 λb _ o e=>Heap.get?_push_of_some _ e) fp3 W m0 w0 λi' m ys H4 w=>?_;rcases turn i' m ys H4 w with ⟨stop,q⟩ | r
 .refine .inl ⟨stop,λs' m' C I' hn hC hCn=>?_⟩;refine wpAny_assign_Name (jg I' hN hy hx (v:=.ref s2.heap.objs.size) rfl (λs'' I'' ⟨a,sb,ha⟩=>?_) hf);have hCa:C≠a:=by
   rcases ha with rfl | ha
   .exact Nat.ne_of_gt (Nat.lt_of_lt_of_le b1 hC)
   .exact Nat.ne_of_gt (Nat.lt_of_lt_of_le (b2 _ _ ha) hC)
  exact ⟨m',hn.sameBut sb hCa,λh' hsb=>⟨_,H4,I''.aside hC b1 b2 b3 hCn hsb,q⟩⟩
 .exact .inr r
end
section
variable {X:Cx}
theorem Vals.at {xs:List V}{us:List Value}(h:Vals xs us){i:Nat}{u:Value}(e:us[i]?=some u):∃x,xs[i]?=some x/\RelV x u:=by
 have hl:=h.length;have hi:=(List.getElem?_eq_some_iff.mp e).1;have hx:xs[i]?=some xs[i]:=List.getElem?_eq_getElem (by lia);obtain ⟨u',h1,h2⟩:=h.get hx;rw[e] at h1;cases h1;exact ⟨_,hx,h2⟩
theorem zbm (bs:List Bool):(List.range bs.length).all (λi=>bs.getD i true)=bs.all id:=by
 rw[Bool.eq_iff_iff,List.all_eq_true,List.all_eq_true];constructor
 .intro h b hb;obtain ⟨i,hi,e⟩:=List.getElem_of_mem hb;have:=h i (by simpa using hi);rw[List.getD_eq_getElem?_getD,List.getElem?_eq_getElem hi] at this;simpa [e] using this
 .intro h i hi;have hi':i < bs.length:=by simpa using hi
  rw[List.getD_eq_getElem?_getD,List.getElem?_eq_getElem hi'];exact h _ (List.getElem_mem hi')
theorem gy (hc:X.calm=true):CallR X (.builtin "all") (λxs H Q=>∃ (p:Addr) (bs:List Bool),xs=[.ref p]/\SqL X.K H p (bs.map V.bl)/\Q (.bl (bs.all id)) H):=by
 intro pins s σ H xs us Q I r h;obtain ⟨p,bs,rfl,hq,q⟩:=h;obtain ⟨u,rfl,rx⟩:=vP r;cases rx;obtain ⟨its,r',pl,hz⟩:=I.list hq;have hlen:=r'.length;have hp:∃o,s.heap.get? p=some o:=by obtain ⟨o,ho,_⟩:=pl.isList;exact ⟨o,ho⟩
 obtain ⟨o,ho⟩:=hp;have hlt:=Heap.lt_size ho;refine call_all_walk (wpAny_pyIter_list pl.isList ?_);refine ⟨s.heap.objs.size,_,_,_,_,_,λi=>bs.getD i true,rfl,Walks.list (A:=X.A.in1) (I.ok.hd hc) s.heap.objs.size p (Nat.ne_of_lt hlt) its.toArray,⟨⟨_,Heap.get?_push_size _ rfl,rfl,rfl⟩,pl.isList.at λo e=>Heap.get?_push_of_some _ e⟩,?_,λh' tk hk=>?_⟩
 .intro i v s2 Q2 E2 hv hQ;have hv':its[i]?=some v:=by simpa using hv
  obtain ⟨y,hy,ry⟩:=r'.at hv';rw[List.getElem?_map] at hy;cases hb:bs[i]? with
  | none=>rw[hb] at hy;cases hy
  | some b =>
   rw[hb] at hy;cases hy;have:v=.bool b:=ry;subst this;have e:bs.getD i true=b:=by rw[List.getD_eq_getElem?_getD,hb];rfl
   have hQ':Q2 (bs.getD i true) s2:=hQ;rw[e] at hQ';exact wpAny_truthy_bool hQ'
 .have e:its.toArray.size=bs.length:=by simp at hlen ⊢;lia
  rw[e,zbm];exact ⟨.bl (bs.all id),H,I.kept (t':=tk) λb o e=>hk b o (λhb=>by
   have:b=s.heap.objs.size:=by simpa using hb
   exact absurd (Heap.lt_size e) (by rw[this];exact Nat.lt_irrefl _)) (Heap.get?_push_of_some _ e),rfl,q⟩
theorem vQ (ns:List Int):∀n,n<=ns.length->preSum (λi=>ns.getD i 0) n=(ns.take n).sum
 | 0,_=>by simp[preSum]
 | n+1,h=>by
  have e:ns[n]?=some (ns.getD n 0):=by rw[List.getD_eq_getElem?_getD,List.getElem?_eq_getElem (by lia)];rfl
  rw[preSum,vQ ns n (by lia),List.take_add_one,e,List.sum_append];simp
theorem gz (hc:X.calm=true):CallR X (.builtin "sum") (λxs H Q=>∃ (p:Addr) (ns:List Int),xs=[.ref p]/\SqL X.K H p (ns.map V.int)/\Q (.int ns.sum) H):=by
 intro pins s σ H xs us Q I r h;obtain ⟨p,ns,rfl,hq,q⟩:=h;obtain ⟨u,rfl,rx⟩:=vP r;cases rx;obtain ⟨its,r',pl,hz⟩:=I.list hq;have hlen:=r'.length;have hp:∃o,s.heap.get? p=some o:=by obtain ⟨o,ho,_⟩:=pl.isList;exact ⟨o,ho⟩
 obtain ⟨o,ho⟩:=hp;have hlt:=Heap.lt_size ho;refine call_sum_walkG (wpAny_pyIter_list pl.isList ?_);refine ⟨s.heap.objs.size,_,_,_,_,_,λi=>ns.getD i 0,rfl,Walks.list (A:=X.A.in1) (I.ok.hd hc) s.heap.objs.size p (Nat.ne_of_lt hlt) its.toArray,⟨⟨_,Heap.get?_push_size _ rfl,rfl,rfl⟩,pl.isList.at λo e=>Heap.get?_push_of_some _ e⟩,?_,?_,λh' tk t' hk=>?_⟩
 .intro b hb;have h1:s.heap.objs.size < (s.heap.push { cls:=.type "list_iterator",data:=.fields #[.ref p,.int 0 0] }).objs.size:=Heap.lt_size (Heap.get?_push_size _ rfl);have:b=s.heap.objs.size\/b=p:=by simpa using hb
  rcases this with rfl | rfl
  .exact h1
  .exact Nat.lt_trans hlt h1
 .intro i v hv;have hv':its[i]?=some v:=by simpa using hv
  obtain ⟨y,hy,ry⟩:=r'.at hv';rw[List.getElem?_map] at hy;cases hb:ns[i]? with
  | none=>rw[hb] at hy;cases hy
  | some b =>
   rw[hb] at hy;cases hy;obtain ⟨t,rfl⟩:=(ry:∃t,v=.int b t);have e:ns.getD i 0=b:=by rw[List.getD_eq_getElem?_getD,hb];rfl
   exact ⟨t,by show Value.int b t=Value.int (ns.getD i 0) t;rw[e]⟩
 .have e:its.toArray.size=ns.length:=by simp at hlen ⊢;lia
  rw[e,vQ ns ns.length (Nat.le_refl _),List.take_length];exact ⟨.int ns.sum,H,I.kept (t':=tk) λb o e=>hk b o (λhb=>by
   have:b=s.heap.objs.size:=by simpa using hb
   exact absurd (Heap.lt_size e) (by rw[this];exact Nat.lt_irrefl _)) (Heap.get?_push_of_some _ e),⟨t',rfl⟩,q⟩
def zin (ta:TA):TE:=λσ H Q=>ta σ H λvs H1=>∃j:Int,vs=[.int j]/\-(2 ^ 30)<=j/\j < 2 ^ 24/\j.toNat<=sizeLine/\∀l,H1 l=none->Q (.ref l) (upd H1 l (.lst ((List.range j.toNat).map λ(i:Nat)=>V.int ((0:Int)+1 * (i:Int)))))
theorem zew {a:Expr}{ta:TA}{p p' pos pos':Pos}(hc:X.calm=true)(hgl:Gl X "list")(hml:X.mg "list" = none)(hg:Gl X "range")(hm:X.mg "range" = none)(ha:PA X [a] ta)(hs:starEach [a] X.env=[(false,eval a X.env)]:=by rfl):
  PE X (.Call (.Name "list" p) [.Call (.Name "range" p') [a] [] pos'] [] pos) (zin ta):=by
 intro pins s σ H Q I h;refine wpAny_Call_Name_kw (xQ I hgl hml PyProof.Rows.boot_list ?_ (by decide) (by decide));refine PyProof.Rows.callWith_type1 ?_ rfl rfl;refine Calls.spliced_cons ?_;refine Call_ (xQ I hg hm boot_range (PyProof.Rows.callWith_type1 (thn (ha pos' pins s σ H _ I h) λus s1 ⟨vs,H1,I1,r1,q1⟩=>?_) hs rfl));obtain ⟨j,e,q1,q2,q3,q⟩:=q1;subst e;cases r1 with
 | cons r rr =>
  cases rr;obtain ⟨t,rfl⟩:=r;refine call_range_1 (Calls.spliced_nil ?_);have hn:Builtin.Range.rangeSize 0 j 1=(j.toNat:Int):=by rw[rangeSize_one];split <;> lia
  refine call_list_range (n:=j.toNat) (I1.ok.hd hc) (IsRange.new ..) (small_one (by lia) (by lia) (by lia) (by lia)) hn (by lia) λh' tk acc' c' kp e hacc=>?_;have I2:Inv X pins σ H1 { s1 with heap:=s1.heap.push { cls:=.type "range",data:=.fields #[.int 0 s1.toks,.int j t,.int 1 (s1.toks+1)] },toks:=s1.toks+1+1 }:=I1.kept λb o e=>Heap.get?_push_of_some _ e;have hv:Vals ((List.range j.toNat).map λ(i:Nat)=>V.int ((0:Int)+1 * (i:Int))) acc'.toList:=by
   have gen:∀ (us:List Value) (n:Nat),us.length=n->∀m:Nat,(∀i v,us[i]?=some v->∃t,v=Value.int ((0:Int)+((m+i:Nat):Int) * 1) t)->Vals ((List.range' m n).map λ(i:Nat)=>V.int ((0:Int)+1 * (i:Int))) us:=by
    intro us
    induction us with
    | nil=>intro n hn m _;simp at hn;subst hn;exact .nil
    | cons u us ih =>
     intro n hn m hu;cases n with
     | zero=>simp at hn
     | succ n =>
      rw[List.range'_succ,List.map_cons];obtain ⟨t,rfl⟩:=hu 0 u rfl;refine .cons ⟨t,?_⟩ (ih n (by simpa using hn) (m+1) λi v hv=>?_)
      .congr 1;simp
      .obtain ⟨t,e⟩:=hu (i+1) v (by simpa using hv);exact ⟨t,by rw[e];congr 2;congr 1;lia⟩
   have:=gen acc'.toList j.toNat (by rw[Array.length_toList];exact hacc.1) 0 (λi v hv=>by
    obtain ⟨t,e⟩:=hacc.2 i v (by simpa using hv);exact ⟨t,by rw[e];simp⟩)
   rw[<- List.range_eq_range'] at this;exact this
  refine ⟨.ref _,_,I2.laid (t':=tk) kp (Nat.le_refl _) (show ObjOk X.prog X.w _ h' _ (.lst ((List.range j.toNat).map λ(i:Nat)=>V.int ((0:Int)+1 * (i:Int)))) from ⟨by simpa using q3,acc'.toList,c',hv,by simpa using e⟩),rfl,q _ (I2.hok.fresh (Nat.le_refl _))⟩
end
abbrev TK:=List Int×Addr×Value
noncomputable def zav (x:TK):DictEntry:=⟨reduceHash (Builtin.Tuple.tupleHashOf (x.1.map hashInt)),.ref x.2.1,x.2.2⟩
noncomputable def zio (d:Addr)(xs:List TK):HO:=.ext λh=>(d == sysModules)=false/\∃o es ep,h.get? d=some o/\o.ExactDict/\o.data=.dict es ep/\es.toList=xs.map zav/\(xs.map (·.1)).Nodup
theorem zaw {P:Program}{w:World}:∀ {k:List Int}{us:List Value},Vals (k.map V.int) us->ItemsAre (intKind P w) k us
 | [],_,.nil=>.nil
 | i::_,_,.cons p q=>by
  obtain ⟨t,rfl⟩:=p;exact .cons (by show Value.isInt i (.int i t)=true;simp[Value.isInt]) (zaw q)
def zax (K:PySem.W.Frag)(H:Hp)(d:Addr)(xs:List TK):Prop:=H d=some (zio d xs)/\∀x∈xs,SqT K H x.2.1 (x.1.map V.int)
section
variable {X:Cx}{pins:List (Addr×Obj)}{σ:St}{H:Hp}{s:Shared}
theorem zay (I:Inv X pins σ H s){k:List Int}{a:Addr}(h:SqT X.K H a (k.map V.int)):IsTupleKey (intKind X.prog X.w) s.heap k a:=by
 obtain ⟨its,r,⟨o,ho,hc,n,hd⟩,_⟩:=I.tuple h;exact ⟨o,its.toArray,n,ho,hc,hd,zaw r⟩
theorem gA (I:Inv X pins σ H s){d:Addr}{xs:List TK}(h:zax X.K H d xs):(d == sysModules)=false/\s.heap.DictOfH (tupleKind (intKind X.prog X.w)) d xs:=by
 obtain ⟨h1,h2⟩:=h;obtain ⟨⟨a0,o,es,ep,a1,a2,a3,a4,a5⟩,_,_⟩:=I.hok d _ h1;exact ⟨a0,o,es,ep,a1,a2,a3,a4,λx hx=>zay I (h2 x hx),a5⟩
end
end L2
namespace Mini
inductive Wd where
 | non | bl (b:Bool) | int (i:Int) | str (s:List Nat) | tup (xs:List Wd) | rol (xs:List Wd) | ref (l:Nat)
deriving Inhabited
set_option genInjectivity false in
inductive Ob where
 | lst (xs:List Wd) | dct (ks:List (List Int)) (ws:List Wd)
deriving Inhabited
abbrev Me:=List Ob
set_option tactic.hygienic true in
abbrev En:=List (Option Wd)
set_option genInjectivity false in
inductive Rz where
 | ok (w:Wd) (m:Me) | exc (c:Nat) (w:Wd) (m:Me) | no
deriving Inhabited
set_option genInjectivity false in
inductive Rs where
 | next (e:En) (m:Me) | ret (w:Wd) (m:Me) | brk (e:En) (m:Me) | cont (e:En) (m:Me)
 | exc (c:Nat) (w:Wd) (e:En) (m:Me) | no
deriving Inhabited
inductive Bo where | add | sub | mul | fdiv | mod | pow | shr | band
deriving DecidableEq
inductive Co where | eq | ne | lt | le | gt | ge | notN | isin
deriving DecidableEq
inductive Tg where | int | bool | list | tuple | str | dict
deriving DecidableEq
inductive Blf where | len | int | list | sum | all | abs | max2 | sortI
deriving DecidableEq
inductive Mth where | append | pop | reverse | clear | insert
deriving DecidableEq
inductive Kd where | zip | enum | prs | ptp
deriving DecidableEq
set_option genInjectivity false in
inductive Ex where
 | var (i:Nat) | lit (w:Wd)
 | bin (op:Bo) (a b:Ex) | neg (a:Ex) | not (a:Ex) | and (a b:Ex) | or (a b:Ex)
 | cmp (op:Co) (a b:Ex) | chain (p q:Co) (a b c:Ex) | ife (c a b:Ex)
 | unit | pair (a b:Ex)
 | call (k:Nat) (args:Ex) | blt (b:Blf) (args:Ex) | isi (t:Tg) (a:Ex)
 | lst (args:Ex) | tup (args:Ex)
 | idx (a b:Ex) | slL (a lo:Ex) | slH (a hi:Ex) | slB (a lo hi:Ex)
 | meth (n:Mth) (o args:Ex)
 | rng (a b c:Ex)
 | comp (elt it cond:Ex)
 | lrng (a:Ex)
 | compP (k:Kd) (elt a b cond:Ex)
deriving Inhabited
set_option genInjectivity false in
inductive Sm where
 | skip | seq (a b:Sm)
 | asg (i:Nat) (e:Ex)   | aug (i:Nat) (op:Bo) (e:Ex)
 | ite (c:Ex) (a b:Sm) | forv (i:Nat) (it:Ex) (body:Sm) | fort (i j:Nat) (it:Ex) (body:Sm) | while (c:Ex) (body:Sm)
 | ret (e:Ex)  | expr (e:Ex)   | never
 | appPop (j a x:Nat) (e:Ex)
deriving Inhabited
noncomputable def lim:Nat:=100000
noncomputable def big:Int:=18446744073709551616
noncomputable def yA (i:Int):Bool:=decide (-big < i) && decide (i < big)
noncomputable def eqL (p:Wd->Wd->Option Bool):List Wd->List Wd->Option Bool
 | x::xs,y::ys=>match p x y with
  | some a=>(eqL p xs ys).map (a && ·)
  | none=>none
 | _,_=>some true
noncomputable def b2i (b:Bool):Int:=if b then 1 else 0
noncomputable def isLst (m:Me)(l:Nat):Bool:=match m[l]? with
 | some (.lst _)=>true
 | _=>false
noncomputable def zct:Wd->Bool
 | .rol _=>false
 | _=>true
noncomputable def eqW (m:Me):Nat->Wd->Wd->Option Bool
 | 0,_,_=>none
 | k+1,x,y=>match x,y with
  | .tup a,.tup b=>(eqL (eqW m k) a b).map (· && decide (a.length=b.length))
  | .ref a,.ref b=>if a=b then (if isLst m a then some true else none) else match m[a]?,m[b]? with
   | some (.lst xs),some (.lst ys)=>if xs.length=ys.length then eqL (eqW m k) xs ys else some false
   | _,_=>none
  | .ref a,y=>if isLst m a && zct y then some false else none
  | x,.ref b=>if isLst m b && zct x then some false else none
  | .rol _,_=>none
  | _,.rol _=>none
  | .non,.non=>some true
  | .bl a,.bl b=>some (a == b)
  | .int a,.int b=>some (decide (a=b))
  | .bl a,.int b=>some (decide (b2i a=b))
  | .int a,.bl b=>some (decide (a=b2i b))
  | .str a,.str b=>some (decide (a=b))
  | _,_=>some false
noncomputable def yT:Nat:=12
noncomputable def inL (p:Wd->Wd->Option Bool)(x:Wd):List Wd->Option Bool
 | []=>some false
 | y::ys=>match p y x with
  | some a=>(inL p x ys).map (a || ·)
  | none=>none
noncomputable def ix (n:Nat)(i:Int):Option Nat :=
 if 0<=i then (if i < n then some i.toNat else none) else if -(n:Int)<=i then some (i+n).toNat else none
noncomputable def alloc (m:Me)(xs:List Wd):Rz:=if xs.length<=lim then .ok (.ref m.length) (m++[.lst xs]) else .no
noncomputable def zK (m:Me)(l:Nat):Option (List Wd):=match m[l]? with
 | some (.lst xs)=>some xs
 | _=>none
noncomputable def xA (m:Me):Wd->Option (List Wd)
 | .tup xs=>some xs
 | .rol xs=>some xs
 | .ref l=>zK m l
 | _=>none
noncomputable def bop (op:Bo)(x y:Wd)(m:Me):Rz:=match x,y with
 | .int i,.int j=>match op with
  | .add=>.ok (.int (i+j)) m
  | .sub=>.ok (.int (i - j)) m
  | .mul=>if yA i || yA j then .ok (.int (i * j)) m else .no
  | .fdiv=>if 0 < j/\j < 1073741824 then .ok (.int (i / j)) m else .no
  | .mod=>if 0 < j then .ok (.int (i % j)) m else .no
  | .pow=>if 0<=j/\j<=1000000/\yA i=true then .ok (.int (i ^ j.toNat)) m else .no
  | .shr=>if 0<=j/\j<=1000 then .ok (.int (i / 2 ^ j.toNat)) m else .no
  | .band=>if 0<=i/\j=1 then .ok (.int (i % 2)) m else .no
 | .ref a,.ref b=>match op,m[a]?,m[b]? with
  | .add,some (.lst xs),some (.lst ys)=>alloc m (xs++ys)
  | _,_,_=>.no
 | .ref a,.int k=>match op,m[a]? with
  | .mul,some (.lst xs)=>if -lim<=k/\k<=lim then alloc m (List.replicate k.toNat xs).flatten else .no
  | _,_=>.no
 | .tup xs,.tup ys=>match op with
  | .add=>if xs.length+ys.length<=lim/\xs.isEmpty=false then .ok (.tup (xs++ys)) m else .no
  | _=>.no
 | _,_=>.no
noncomputable def ofB (o:Option Bool)(m:Me):Rz:=match o with
 | some b=>.ok (.bl b) m
 | none=>.no
noncomputable def kE (r:Int->Int->Bool)(x y:Wd)(m:Me):Rz:=match x,y with
 | .int i,.int j=>.ok (.bl (r i j)) m
 | _,_=>.no
noncomputable def xB:List Wd->Option (List Int)
 | []=>some []
 | .int i::r=>(xB r).map (i::·)
 | _=>none
noncomputable def inK (m:Me)(x y:Wd):Option Bool:=match y with
 | .ref l=>match m[l]? with
  | some (.dct ks _)=>match x with
   | .int _=>some false
   | .tup ws=>(xB ws).map λk=>decide (k∈ks)
   | _=>none
  | _=>none
 | _=>none
noncomputable def cop (op:Co)(x y:Wd)(m:Me):Rz:=match op with
 | .eq=>ofB (eqW m yT x y) m
 | .ne=>ofB ((eqW m yT x y).map (!·)) m
 | .notN=>match y,x with
  | .non,.non=>.ok (.bl false) m
  | .non,_=>.ok (.bl true) m
  | _,_=>.no
 | .isin=>match xA m y with
  | some ys=>ofB (inL (eqW m yT) x ys) m
  | none=>ofB (inK m x y) m
 | .lt=>kE (λi j=>decide (i < j)) x y m
 | .le=>kE (λi j=>decide (i<=j)) x y m
 | .gt=>kE (λi j=>decide (j < i)) x y m
 | .ge=>kE (λi j=>decide (j<=i)) x y m
noncomputable def isT (t:Tg)(x:Wd)(m:Me):Option Bool:=match t,x with
 | .int,.int _=>some true
 | .int,.bl _=>some true
 | .bool,.bl _=>some true
 | .str,.str _=>some true
 | .tuple,.tup _=>some true
 | .list,.rol _=>some true
 | t,.ref l=>match m[l]? with
  | some (.lst _)=>some (decide (t=.list))
  | some (.dct _ _)=>some (decide (t=.dict))
  | none=>none
 | _,_=>some false
noncomputable def sIx (n d:Nat):Option Int->Nat
 | none=>d
 | some v=>if v < 0 then (v+(n:Int)).toNat else min v.toNat n
noncomputable def qI:List Wd->Option Int
 | []=>some 0
 | .int i::r=>(qI r).map (i+·)
 | _=>none
noncomputable def qJ:List Wd->Option Bool
 | []=>some true
 | .bl b::r=>(qJ r).map (b && ·)
 | _=>none
noncomputable def jf (m:Me):Wd->Option (List Wd)
 | .rol xs=>some xs
 | .ref l=>zK m l
 | _=>none
def zbn (ns:List Int):List Int:=ns.mergeSort λa b=>decide (a<=b)
noncomputable def jO (b:Blf)(ws:List Wd)(m:Me):Rz:=match b with
 | .sortI=>match ws with
  | [x]=>match (jf m x).bind xB with
   | some k=>if k.length < 64 then alloc m ((zbn k).map Wd.int) else .no
   | none=>.no
  | _=>.no
 | .len=>match ws with
  | [x]=>match xA m x with
   | some xs=>.ok (.int xs.length) m
   | none=>.no
  | _=>.no
 | .int=>match ws with
  | [.int i]=>.ok (.int i) m
  | [.bl b]=>.ok (.int (b2i b)) m
  | _=>.no
 | .list=>match ws with
  | [x]=>match xA m x with
   | some xs=>alloc m xs
   | none=>.no
  | _=>.no
 | .sum=>match ws with
  | [x]=>match (jf m x).bind qI with
   | some i=>.ok (.int i) m
   | none=>.no
  | _=>.no
 | .all=>match ws with
  | [x]=>match (jf m x).bind qJ with
   | some i=>.ok (.bl i) m
   | none=>.no
  | _=>.no
 | .abs=>match ws with
  | [.int i]=>.ok (.int (if i < 0 then -i else i)) m
  | _=>.no
 | .max2=>match ws with
  | [.int i,.int j]=>.ok (.int (if j > i then j else i)) m
  | _=>.no
noncomputable def mtR (n:Mth)(o:Wd)(ws:List Wd)(m:Me):Rz:=match o with
 | .ref l=>match m[l]? with
  | some (.lst xs)=>match n,ws with
   | .append,[y]=>if xs.length < lim then .ok .non (m.set l (.lst (xs++[y]))) else .no
   | .pop,[]=>match xs[xs.length - 1]? with
    | some y=>.ok y (m.set l (.lst xs.dropLast))
    | none=>.no
   | .reverse,[]=>.ok .non (m.set l (.lst xs.reverse))
   | .pop,[.int k]=>if k=0 then match xs with
    | y::r=>.ok y (m.set l (.lst r))
    | []=>.no
    else .no
   | .insert,[.int k,y]=>if k=0/\xs.length < lim then .ok .non (m.set l (.lst (y::xs))) else .no
   | _,_=>.no
  | _=>.no
 | _=>.no
noncomputable def yU (x:Wd)(m:Me):Bool:=match x with
 | .ref l=>isLst m l
 | _=>false
noncomputable def kF (x y:Wd)(m:Me):Rz:=match y with
 | .int i=>match xA m x with
  | some xs=>match (ix xs.length i).bind λj=>xs[j]? with
   | some v=>.ok v m
   | none=>.no
  | none=>.no
 | _=>.no
noncomputable def ziq:Wd->Option (List Int)
 | .tup ws=>xB ws
 | _=>none
noncomputable def atK {α:Type}:List (List Int)->List α->List Int->Option α
 | k::ks,w::ws,q=>if k=q then some w else atK ks ws q
 | _,_,_=>none
noncomputable def zcu (x y:Wd)(m:Me):Rz:=match x with
 | .ref l=>match m[l]? with
  | some (.dct ks ws)=>match (ziq y).bind (atK ks ws) with
   | some v=>.ok v m
   | none=>.no
  | _=>.no
 | _=>.no
noncomputable def slR (x:Wd)(lo hi:Option Int)(m:Me):Rz:=match jf m x with
 | some xs=>alloc m ((xs.drop (sIx xs.length 0 lo)).take (sIx xs.length xs.length hi - sIx xs.length 0 lo))
 | none=>.no
noncomputable def qK (lo st:Int):Nat->List Wd
 | 0=>[]
 | n+1=>.int lo::qK (lo+st) st n
noncomputable def wY (a b c:Int):Nat:=if c=1 then (b - a).toNat else if c=-1 then (a - b).toNat else 0
noncomputable def zbo (a b c:Wd)(m:Me):Rz:=match a,b,c with
 | .int a,.int b,.int c=>if -lim<=a/\a<=lim/\-lim<=b/\b<=lim/\(c=1\/c=-1) then .ok (.tup (qK a c (wY a b c))) m else .no
 | _,_,_=>.no
noncomputable def Rz.bind (r:Rz)(f:Wd->Me->Rz):Rz:=match r with
 | .ok w m=>f w m
 | r=>r
noncomputable def xq (c e:Wd->Me->Rz):List Wd->List Wd->Me->Rz
 | [],acc,m=>alloc m acc
 | x::xs,acc,m=>(c x m).bind λb m1=>match b with
  | .bl true=>(e x m1).bind λy m2=>if acc.length < lim then xq c e xs (acc++[y]) m2 else .no
  | .bl false=>xq c e xs acc m1
  | _=>.no
noncomputable def xt (c e:Wd->Me->Rz)(l:Nat):Nat->Nat->List Wd->Me->Rz
 | 0,_,_,_=>.no
 | k+1,i,acc,m=>match zK m l with
  | none=>.no
  | some xs=>match xs[i]? with
   | none=>alloc m acc
   | some x=>(c x m).bind λb m1=>match b with
    | .bl true=>(e x m1).bind λy m2=>if acc.length < lim then xt c e l k (i+1) (acc++[y]) m2 else .no
    | .bl false=>xt c e l k (i+1) acc m1
    | _=>.no
noncomputable def zfM:Wd->Option (Wd×Wd)
 | .tup [x,y]=>some (x,y)
 | _=>none
noncomputable def yj (k:Kd)(x y:Wd)(i:Nat)(m:Me):Option (Option (Wd×Wd)):=match k,x,y with
 | .zip,.ref la,.ref lb=>match zK m la,zK m lb with
  | some xs,some ys=>some (match xs[i]?,ys[i]? with
   | some x,some y=>some (x,y)
   | _,_=>none)
  | _,_=>none
 | .enum,.ref la,.int s=>match zK m la with
  | some xs=>some (xs[i]?.map λx=>(.int (s+(i:Int)),x))
  | none=>none
 | .prs,.ref la,.int _=>match zK m la with
  | some xs=>match xs[i]? with
   | none=>some none
   | some w=>(zfM w).map some
  | none=>none
 | .ptp,.tup xs,.int _=>match xs[i]? with
  | none=>some none
  | some w=>(zfM w).map some
 | _,_,_=>none
noncomputable def xb (c e:Wd->Wd->Me->Rz)(g:Nat->Me->Option (Option (Wd×Wd))):Nat->Nat->List Wd->Me->Rz
 | 0,_,_,_=>.no
 | k+1,i,acc,m=>match g i m with
  | none=>.no
  | some none=>alloc m acc
  | some (some (x,y))=>(c x y m).bind λb m1=>match b with
   | .bl true=>(e x y m1).bind λz m2=>if acc.length < lim then xb c e g k (i+1) (acc++[z]) m2 else .no
   | .bl false=>xb c e g k (i+1) acc m1
   | _=>.no
noncomputable def zL:Wd->List Wd
 | .tup xs=>xs
 | _=>[]
noncomputable def evE (cl:Nat->List Wd->Me->Rz):Ex->En->Me->Rz
 | .var i,env,m=>match env[i]? with
  | some (some w)=>.ok w m
  | _=>.no
 | .lit w,_,m=>.ok w m
 | .bin op a b,env,m=>(evE cl a env m).bind λx m1=>(evE cl b env m1).bind λy m2=>bop op x y m2
 | .neg a,env,m=>(evE cl a env m).bind λx m1=>match x with
  | .int i=>.ok (.int (-i)) m1
  | _=>.no
 | .not a,env,m=>(evE cl a env m).bind λx m1=>match x with
  | .bl b=>.ok (.bl (! b)) m1
  | _=>.no
 | .and a b,env,m=>(evE cl a env m).bind λx m1=>match x with
  | .bl true=>evE cl b env m1
  | .bl false=>.ok (.bl false) m1
  | _=>.no
 | .or a b,env,m=>(evE cl a env m).bind λx m1=>match x with
  | .bl false=>evE cl b env m1
  | .bl true=>.ok (.bl true) m1
  | _=>.no
 | .cmp op a b,env,m=>(evE cl a env m).bind λx m1=>(evE cl b env m1).bind λy m2=>cop op x y m2
 | .chain p q a b c,env,m=>(evE cl a env m).bind λx m1=>(evE cl b env m1).bind λy m2=>(cop p x y m2).bind λz m3=>match z with
  | .bl true=>(evE cl c env m3).bind λu m4=>cop q y u m4
  | .bl false=>.ok (.bl false) m3
  | _=>.no
 | .ife c a b,env,m=>(evE cl c env m).bind λx m1=>match x with
  | .bl true=>evE cl a env m1
  | .bl false=>evE cl b env m1
  | _=>.no
 | .unit,_,m=>.ok (.tup []) m
 | .pair a b,env,m=>(evE cl a env m).bind λx m1=>(evE cl b env m1).bind λy m2=>.ok (.tup (x::zL y)) m2
 | .call k a,env,m=>(evE cl a env m).bind λx m1=>cl k (zL x) m1
 | .blt b a,env,m=>(evE cl a env m).bind λx m1=>jO b (zL x) m1
 | .isi t a,env,m=>(evE cl a env m).bind λx m1=>ofB (isT t x m1) m1
 | .lst a,env,m=>(evE cl a env m).bind λx m1=>alloc m1 (zL x)
 | .tup a,env,m=>(evE cl a env m).bind λx m1=>if (zL x).length<=lim then .ok (.tup (zL x)) m1 else .no
 | .idx a b,env,m=>(evE cl a env m).bind λx m1=>(evE cl b env m1).bind λy m2=>kF x y m2
 | .slL a lo,env,m=>(evE cl a env m).bind λx m1=>(evE cl lo env m1).bind λy m2=>match y with
  | .int i=>slR x (some i) none m2
  | _=>.no
 | .slH a hi,env,m=>(evE cl a env m).bind λx m1=>(evE cl hi env m1).bind λy m2=>match y with
  | .int i=>slR x none (some i) m2
  | _=>.no
 | .slB a lo hi,env,m=>(evE cl a env m).bind λx m1=>(evE cl lo env m1).bind λy m2=>match y with
  | .int i=>(evE cl hi env m2).bind λz m3=>match z with
   | .int j=>slR x (some i) (some j) m3
   | _=>.no
  | _=>.no
 | .meth n o a,env,m=>(evE cl o env m).bind λx m1=>match yU x m1 with
  | true=>(evE cl a env m1).bind λy m2=>mtR n x (zL y) m2
  | false=>.no
 | .rng a b c,env,m=>(evE cl a env m).bind λx m1=>(evE cl b env m1).bind λy m2=>(evE cl c env m2).bind λz m3=>zbo x y z m3
 | .comp elt it cond,env,m=>(evE cl it env m).bind λx m1=>match x with
  | .tup xs=>xq (λx m=>evE cl cond (env++[some x]) m) (λx m=>evE cl elt (env++[some x]) m) xs [] m1
  | .rol xs=>xq (λx m=>evE cl cond (env++[some x]) m) (λx m=>evE cl elt (env++[some x]) m) xs [] m1
  | .ref l=>xt (λx m=>evE cl cond (env++[some x]) m) (λx m=>evE cl elt (env++[some x]) m) l (lim+1) 0 [] m1
  | _=>.no
 | .compP k elt a b cond,env,m=>(evE cl a env m).bind λx m1=>(evE cl b env m1).bind λy m2 =>
  xb (λu v m=>evE cl cond (env++[some u]++[some v]) m) (λu v m=>evE cl elt (env++[some u]++[some v]) m) (yj k x y) (lim+1) 0 [] m2
 | .lrng a,env,m=>(evE cl a env m).bind λx m1=>match x with
  | .int j=>if -lim<=j/\j<=lim then alloc m1 (qK 0 1 j.toNat) else .no
  | _=>.no
noncomputable def wA (body:Wd->En->Me->Rs):List Wd->En->Me->Rs
 | [],env,m=>.next env m
 | x::xs,env,m=>match body x env m with
  | .next e1 m1=>wA body xs e1 m1
  | .cont e1 m1=>wA body xs e1 m1
  | .brk e1 m1=>.next e1 m1
  | r=>r
noncomputable def wB (body:Wd->En->Me->Rs)(l:Nat):Nat->Nat->En->Me->Rs
 | 0,_,_,_=>.no
 | k+1,i,env,m=>match zK m l with
  | none=>.no
  | some xs=>match xs[i]? with
   | none=>.next env m
   | some x=>match body x env m with
    | .next e1 m1=>wB body l k (i+1) e1 m1
    | .cont e1 m1=>wB body l k (i+1) e1 m1
    | .brk e1 m1=>.next e1 m1
    | r=>r
noncomputable def vR (c:En->Me->Rz)(body:En->Me->Rs):Nat->En->Me->Rs
 | 0,_,_=>.no
 | k+1,env,m=>match c env m with
  | .ok (.bl true) m1=>match body env m1 with
   | .next e1 m2=>vR c body k e1 m2
   | .cont e1 m2=>vR c body k e1 m2
   | .brk e1 m2=>.next e1 m2
   | r=>r
  | .ok (.bl false) m1=>.next env m1
  | .exc c w m1=>.exc c w env m1
  | _=>.no
noncomputable def Rz.bindS (r:Rz)(env:En)(f:Wd->Me->Rs):Rs:=match r with
 | .ok w m=>f w m
 | .exc c w m=>.exc c w env m
 | .no=>.no
noncomputable def qL (body:Wd->En->Me->Rs)(w:Wd)(env:En)(m:Me):Rs:=match w with
 | .tup xs=>wA body xs env m
 | .rol xs=>wA body xs env m
 | .ref l=>wB body l (lim+1) 0 env m
 | _=>.no
noncomputable def st2 (i j:Nat):Wd->En->Option En:=λw env=>match w with
 | .tup [a,b]=>some ((env.set i (some a)).set j (some b))
 | _=>none
noncomputable def st3 (i j k:Nat)(w:Wd)(m:Me)(env:En):Option En:=match xA m w with
 | some [a,b,c]=>some (((env.set i (some a)).set j (some b)).set k (some c))
 | _=>none
noncomputable def yV (st:Wd->En->Option En)(b:En->Me->Rs):Wd->En->Me->Rs:=λw env m=>match st w env with
 | some env'=>b env' m
 | none=>.no
noncomputable def zcv (op:Bo)(x y:Wd)(m:Me)(env:En)(f:Wd->Me->Rs):Rs:=match x,y with
 | .int _,.int _=>(bop op x y m).bindS env f
 | _,_=>.no
noncomputable def exS (cl:Nat->List Wd->Me->Rz):Sm->En->Me->Rs
 | .skip,env,m=>.next env m
 | .seq a b,env,m=>match exS cl a env m with
  | .next e1 m1=>exS cl b e1 m1
  | r=>r
 | .asg i e,env,m=>(evE cl e env m).bindS env λw m1=>.next (env.set i (some w)) m1
 | .aug i op e,env,m=>match env[i]? with
  | some (some x)=>(evE cl e env m).bindS env λy m1=>zcv op x y m1 env λz m2=>.next (env.set i (some z)) m2
  | _=>.no
 | .ite c a b,env,m=>(evE cl c env m).bindS env λx m1=>match x with
  | .bl true=>exS cl a env m1
  | .bl false=>exS cl b env m1
  | _=>.no
 | .forv i it body,env,m=>(evE cl it env m).bindS env λw m1=>qL (λx e m=>exS cl body (e.set i (some x)) m) w env m1
 | .fort i j it body,env,m=>(evE cl it env m).bindS env λw m1=>qL (yV (st2 i j) (exS cl body)) w env m1
 | .while c body,env,m=>vR (evE cl c) (exS cl body) 1000000 env m
 | .ret e,env,m=>(evE cl e env m).bindS env λw m1=>.ret w m1
 | .expr e,env,m=>(evE cl e env m).bindS env λ_ m1=>.next env m1
 | .appPop j a x e,env,m=>(evE cl (.meth .append (.var j) (.pair (.bin .add (.var a) (.bin .mod (.meth .pop (.var x) (.pair (.lit (.int 0)) .unit)) e)) .unit)) env m).bindS env λ_ m1=>.next env m1
 | .never,_,_=>.no
set_option genInjectivity false in
structure Fn where
 ar:Nat
 sz:Nat
 body:Sm
deriving Inhabited
noncomputable def wc (fn:Fn)(ws:List Wd):En:=ws.map some++List.replicate (fn.sz - ws.length) none
noncomputable def jP (cl:Nat->List Wd->Me->Rz)(fn:Fn)(ws:List Wd)(m:Me):Rz :=
 if ws.length=fn.ar then match exS cl fn.body (wc fn ws) m with
  | .next _ m1=>.ok .non m1
  | .ret w m1=>.ok w m1
  | .exc c w _ m1=>.exc c w m1
  | _=>.no
 else .no
noncomputable def xu (T:List Fn):Nat->Nat->List Wd->Me->Rz
 | 0,_,_,_=>.no
 | d+1,k,ws,m=>match T[k]? with
  | some fn=>jP (xu T d) fn ws m
  | none=>.no
end Mini
namespace Mini
open PySem PySem.Spec PyProof.Rows L2
abbrev St:=L2.St
def KL (K:PySem.W.Frag)(a:Addr)(xs:List V):Prop :=
 ∃ (o:Obj) (its:Array Value) (n:Nat),K.lookup a=some o/\o.cls=.type "list" /\ o.dict=none/\o.data=.seq its n/\its.size<=sizeLine/\Vals xs its.toList
def SqF (K:PySem.W.Frag)(H:Hp)(a:Addr)(vs:List V):Prop:=(∃o,H a=some (.frz o (.lst vs)))\/KL K a vs
theorem SqF.sq {K:PySem.W.Frag}{H:Hp}{a:Addr}{vs:List V}(h:SqF K H a vs):SqL K H a vs:=by
 rcases h with h | h
 .exact .inl (.inr h)
 .exact .inr h
mutual
noncomputable def Rep (K:PySem.W.Frag)(as:List Addr)(H:Hp):Wd->V->Prop
 | .non,v=>v=.non
 | .bl b,v=>v=.bl b
 | .int i,v=>v=.int i
 | .str s,v=>v=.str ⟨s.toArray⟩
 | .tup xs,v=>∃a vs,v=.ref a/\SqT K H a vs/\RepL K as H xs vs
 | .rol xs,v=>∃a vs,v=.ref a/\SqF K H a vs/\RepL K as H xs vs
 | .ref l,v=>∃a,as[l]?=some a/\v=.ref a
noncomputable def RepL (K:PySem.W.Frag)(as:List Addr)(H:Hp):List Wd->List V->Prop
 | [],vs=>vs=[]
 | x::xs,vs=>∃v r,vs=v::r/\Rep K as H x v/\RepL K as H xs r
end
def RepO (K:PySem.W.Frag)(as:List Addr)(H:Hp):Ob->Addr->Prop
 | .lst ws,a=>∃vs,H a=some (.lst vs)/\RepL K as H ws vs
 | .dct ks ws,a=>∃xs vs,zax K H a xs/\xs.map (·.1)=ks/\RepL K as H ws vs/\Vals vs (xs.map (·.2.2))/\ks.Nodup
structure Sim (K:PySem.W.Frag)(as:List Addr)(m:Me)(H:Hp):Prop where
 len:as.length=m.length
 nd:as.Nodup
 obj:∀ (l:Nat) (a:Addr) (o:Ob),as[l]?=some a->m[l]?=some o->RepO K as H o a
structure Step (as:List Addr)(H:Hp)(as':List Addr)(H':Hp):Prop where
 pre:∃t,as'=as++t
 frame:∀b o,H b=some o->b∉as->H' b=some o
 fresh:∀a∈as',a∈as\/H a=none
section
variable {K:PySem.W.Frag}{as as' as2:List Addr}{H H' H2:Hp}{m m':Me}
theorem Step.refl:Step as H as H:=⟨⟨[],by simp⟩,λ_ _ h _=>h,λ_ h=>.inl h⟩
theorem Step.get (T:Step as H as' H'){l:Nat}{a:Addr}(h:as[l]?=some a):as'[l]?=some a:=by
 obtain ⟨t,rfl⟩:=T.pre;rw[List.getElem?_append_left (List.getElem?_eq_some_iff.mp h).1];exact h
theorem Step.out (T:Step as H as' H'){b:Addr}{o:HO}(h:H b=some o)(hb:b∉as):b∉as':=λz=>by
 rcases T.fresh b z with q | q
 .exact hb q
 .rw[h] at q;cases q
theorem Step.trans (T:Step as H as' H')(U:Step as' H' as2 H2):Step as H as2 H2:=by
 refine ⟨?_,λb o h hb=>U.frame b o (T.frame b o h hb) (T.out h hb),λa ha=>?_⟩
 .obtain ⟨t,rfl⟩:=T.pre;obtain ⟨u,rfl⟩:=U.pre;exact ⟨t++u,by simp⟩
 .rcases U.fresh a ha with q | q
  .exact T.fresh a q
  .by_cases z:a∈as
   .exact .inl z
   .refine .inr ?_;cases e:H a with
    | none=>rfl
    | some o=>rw[T.frame a o e z] at q;cases q
theorem Sim.get (S:Sim K as m H){l:Nat}{o:Ob}(h:m[l]?=some o):∃a,as[l]?=some a/\RepO K as H o a:=by
 have hl:l < as.length:=by rw[S.len];exact (List.getElem?_eq_some_iff.mp h).1
 exact ⟨as[l],by simp[hl],S.obj l _ o (by simp[hl]) h⟩
def LD:HO->Prop
 | .lst _=>True
 | .ext _=>True
 | .dK _=>True
 | _=>False
theorem Sim.isLst (S:Sim K as m H){a:Addr}(h:a∈as):∃o,H a=some o/\LD o:=by
 obtain ⟨l,hl,rfl⟩:=List.mem_iff_getElem.mp h;have hm:l < m.length:=by rw[<- S.len];exact hl
 have q:=S.obj l as[l] m[l] (by simp[hl]) (by simp[hm]);cases e:m[l] with
 | lst ws =>
  rw[e] at q;obtain ⟨vs,h1,_⟩:=q;exact ⟨_,h1,trivial⟩
 | dct ks ws =>
  rw[e] at q;obtain ⟨xs,vs,h1,_⟩:=q;exact ⟨_,h1.1,trivial⟩
theorem zcw (nt:∀a∈as,∃o,H a=some o/\LD o)(T:Step as H as' H'){a:Addr}{vs:List V}(h:SqT K H a vs):SqT K H' a vs:=by
 rcases h with h | h
 .have hn:a∉as:=λz=>by
   obtain ⟨u,e,hu⟩:=nt a z;rcases h with h | ⟨o,h⟩ <;> rw[e] at h <;> cases h <;> exact hu
  rcases h with h | ⟨o,h⟩
  .exact .inl (.inl (T.frame _ _ h hn))
  .exact .inl (.inr ⟨o,T.frame _ _ h hn⟩)
 .exact .inr h
theorem zcx (nt:∀a∈as,∃o,H a=some o/\LD o)(T:Step as H as' H'){a:Addr}{vs:List V}(h:SqF K H a vs):SqF K H' a vs:=by
 rcases h with ⟨o,h⟩ | h
 .have hn:a∉as:=λz=>by
   obtain ⟨u,e,hu⟩:=nt a z;rw[e] at h;cases h;exact hu
  exact .inl ⟨o,T.frame _ _ h hn⟩
 .exact .inr h
structure Kp (K:PySem.W.Frag)(H H':Hp):Prop where
 t:∀a vs,SqT K H a vs->SqT K H' a vs
 f:∀a vs,SqF K H a vs->SqF K H' a vs
theorem Sim.kp (S:Sim K as m H)(T:Step as H as' H'):Kp K H H':=⟨λ_ _ h=>zcw (λ_ z=>S.isLst z) T h,λ_ _ h=>zcx (λ_ z=>S.isLst z) T h⟩
theorem Kp.updL {D:Addr}{u o:HO}(h:H D=some u)(hu:LD u):Kp K H (L2.upd H D o):=by
 refine ⟨λa vs q=>?_,λa vs q=>?_⟩
 .rcases q with (q | ⟨x,q⟩) | q
  .exact .inl (.inl (by rw[zn (by rintro rfl;rw[h] at q;cases q;exact hu)];exact q))
  .exact .inl (.inr ⟨x,by rw[zn (by rintro rfl;rw[h] at q;cases q;exact hu)];exact q⟩)
  .exact .inr q
 .rcases q with ⟨x,q⟩ | q
  .exact .inl ⟨x,by rw[zn (by rintro rfl;rw[h] at q;cases q;exact hu)];exact q⟩
  .exact .inr q
theorem Kp.upd {D:Addr}{ys:List V}{o:HO}(h:H D=some (.lst ys)):Kp K H (L2.upd H D o):=Kp.updL h trivial
mutual
theorem kG (k:Kp K H H')(g:∀ (l:Nat) (a:Addr),as[l]?=some a->as'[l]?=some a):∀ (w:Wd) (v:V),Rep K as H w v->Rep K as' H' w v
 | .non,_,h=>by rw[Rep] at h ⊢;exact h
 | .bl _,_,h=>by rw[Rep] at h ⊢;exact h
 | .int _,_,h=>by rw[Rep] at h ⊢;exact h
 | .str _,_,h=>by rw[Rep] at h ⊢;exact h
 | .tup xs,v,h=>by
  rw[Rep] at h ⊢;obtain ⟨a,vs,e,q,r⟩:=h;exact ⟨a,vs,e,k.t _ _ q,repL_mono k g xs vs r⟩
 | .rol xs,v,h=>by
  rw[Rep] at h ⊢;obtain ⟨a,vs,e,q,r⟩:=h;exact ⟨a,vs,e,k.f _ _ q,repL_mono k g xs vs r⟩
 | .ref l,v,h=>by
  rw[Rep] at h ⊢;obtain ⟨a,q,e⟩:=h;exact ⟨a,g _ _ q,e⟩
theorem repL_mono (k:Kp K H H')(g:∀ (l:Nat) (a:Addr),as[l]?=some a->as'[l]?=some a):∀ (ws:List Wd) (vs:List V),RepL K as H ws vs->RepL K as' H' ws vs
 | [],_,h=>by rw[RepL] at h ⊢;exact h
 | x::xs,vs,h=>by
  rw[RepL] at h ⊢;obtain ⟨v,r,e,q,t⟩:=h;exact ⟨v,r,e,kG k g x v q,repL_mono k g xs r t⟩
end
theorem RepO.mono {ob:Ob}{a:Addr}(k:Kp K H H')(g:∀ (l:Nat) (a:Addr),as[l]?=some a->as'[l]?=some a)(e:∀o,H a=some o->H' a=some o)(h:RepO K as H ob a):RepO K as' H' ob a:=by
 cases ob with
 | lst ws=>obtain ⟨vs,h1,h2⟩:=h;exact ⟨vs,e _ h1,repL_mono k g _ _ h2⟩
 | dct ks ws=>obtain ⟨xs,vs,h1,h2,h3,h4⟩:=h;exact ⟨xs,vs,⟨e _ h1.1,λx hx=>k.t _ _ (h1.2 x hx)⟩,h2,repL_mono k g _ _ h3,h4⟩
theorem Rep.mono {w:Wd}{v:V}(h:Rep K as H w v)(S:Sim K as m H)(T:Step as H as' H'):Rep K as' H' w v:=kG (S.kp T) (λ_ _ e=>T.get e) w v h
theorem RepL.mono {ws:List Wd}{vs:List V}(h:RepL K as H ws vs)(S:Sim K as m H)(T:Step as H as' H'):RepL K as' H' ws vs:=repL_mono (S.kp T) (λ_ _ e=>T.get e) ws vs h
theorem RepL.kp {ws:List Wd}{vs:List V}(h:RepL K as H ws vs)(k:Kp K H H'):RepL K as H' ws vs:=repL_mono k (λ_ _ e=>e) ws vs h
theorem Rep.kp {w:Wd}{v:V}(h:Rep K as H w v)(k:Kp K H H'):Rep K as H' w v:=kG k (λ_ _ e=>e) w v h
theorem rep_non {v:V}:Rep K as H .non v↔v=.non:=by rw[Rep]
theorem rep_bl {b:Bool}{v:V}:Rep K as H (.bl b) v↔v=.bl b:=by rw[Rep]
theorem rep_int {i:Int}{v:V}:Rep K as H (.int i) v↔v=.int i:=by rw[Rep]
theorem rep_str {s:List Nat}{v:V}:Rep K as H (.str s) v↔v=.str ⟨s.toArray⟩:=by rw[Rep]
theorem rep_tup {xs:List Wd}{v:V}:Rep K as H (.tup xs) v↔∃a vs,v=.ref a/\SqT K H a vs/\RepL K as H xs vs:=by rw[Rep]
theorem rep_rol {xs:List Wd}{v:V}:Rep K as H (.rol xs) v↔∃a vs,v=.ref a/\SqF K H a vs/\RepL K as H xs vs:=by rw[Rep]
theorem rep_ref {l:Nat}{v:V}:Rep K as H (.ref l) v↔∃a,as[l]?=some a/\v=.ref a:=by rw[Rep]
theorem repL_nil {vs:List V}:RepL K as H [] vs↔vs=[]:=by rw[RepL]
theorem repL_cons {x:Wd}{xs:List Wd}{vs:List V}:RepL K as H (x::xs) vs↔∃v r,vs=v::r/\Rep K as H x v/\RepL K as H xs r:=by rw[RepL]
theorem RepL.length:∀ {xs:List Wd}{vs:List V},RepL K as H xs vs->xs.length=vs.length
 | [],vs,h=>by rw[repL_nil.mp h];rfl
 | x::xs,vs,h=>by
  obtain ⟨v,r,rfl,_,t⟩:=repL_cons.mp h;simp[RepL.length t]
theorem RepL.get:∀ {xs:List Wd}{vs:List V}{i:Nat}{x:Wd},RepL K as H xs vs->xs[i]?=some x->∃v,vs[i]?=some v/\Rep K as H x v
 | [],_,_,_,_,e=>by simp at e
 | x::xs,vs,0,y,h,e=>by
  obtain ⟨v,r,rfl,q,t⟩:=repL_cons.mp h;simp at e;subst e;exact ⟨v,rfl,q⟩
 | x::xs,vs,i+1,y,h,e=>by
  obtain ⟨v,r,rfl,q,t⟩:=repL_cons.mp h;obtain ⟨u,h1,h2⟩:=RepL.get (i:=i) (x:=y) t (by simpa using e);exact ⟨u,by simpa using h1,h2⟩
theorem RepL.back:∀ {xs:List Wd}{vs:List V}{i:Nat}{v:V},RepL K as H xs vs->vs[i]?=some v->∃x,xs[i]?=some x/\Rep K as H x v:=λ{xs vs i v} h e=>by
 have hi:i < xs.length:=by rw[h.length];exact (List.getElem?_eq_some_iff.mp e).1
 obtain ⟨u,h1,h2⟩:=h.get (i:=i) (x:=xs[i]) (by simp[hi]);rw[e] at h1;cases h1;exact ⟨xs[i],by simp[hi],h2⟩
theorem RepL.append:∀ {xs ys:List Wd}{vs us:List V},RepL K as H xs vs->RepL K as H ys us->RepL K as H (xs++ys) (vs++us)
 | [],ys,vs,us,h,h'=>by rw[repL_nil.mp h];exact h'
 | x::xs,ys,vs,us,h,h'=>by
  obtain ⟨v,r,rfl,q,t⟩:=repL_cons.mp h;exact repL_cons.mpr ⟨v,r++us,rfl,q,t.append h'⟩
theorem RepL.one {x:Wd}{v:V}(h:Rep K as H x v):RepL K as H [x] [v]:=repL_cons.mpr ⟨v,[],rfl,h,repL_nil.mpr rfl⟩
set_option tactic.hygienic true in
theorem RepL.take:∀ {xs:List Wd}{vs:List V}(n:Nat),RepL K as H xs vs->RepL K as H (xs.take n) (vs.take n)
 | _,_,0,_=>repL_nil.mpr rfl
 | [],vs,n+1,h=>by rw[repL_nil.mp h];exact repL_nil.mpr rfl
 | x::xs,vs,n+1,h=>by
  obtain ⟨v,r,rfl,q,t⟩:=repL_cons.mp h;exact repL_cons.mpr ⟨v,r.take n,rfl,q,t.take n⟩
theorem RepL.drop:∀ {xs:List Wd}{vs:List V}(n:Nat),RepL K as H xs vs->RepL K as H (xs.drop n) (vs.drop n)
 | _,_,0,h=>h
 | [],vs,n+1,h=>by rw[repL_nil.mp h];exact repL_nil.mpr rfl
 | x::xs,vs,n+1,h=>by
  obtain ⟨v,r,rfl,q,t⟩:=repL_cons.mp h;exact t.drop n
theorem RepL.reverse:∀ {xs:List Wd}{vs:List V},RepL K as H xs vs->RepL K as H xs.reverse vs.reverse
 | [],vs,h=>by rw[repL_nil.mp h];exact repL_nil.mpr rfl
 | x::xs,vs,h=>by
  obtain ⟨v,r,rfl,q,t⟩:=repL_cons.mp h;rw[List.reverse_cons,List.reverse_cons];exact t.reverse.append (.one q)
theorem RepL.dropLast:∀ {xs:List Wd}{vs:List V},RepL K as H xs vs->RepL K as H xs.dropLast vs.dropLast:=λ{xs vs} h=>by
 rw[List.dropLast_eq_take,List.dropLast_eq_take,h.length];exact h.take _
theorem RepL.rep {xs:List Wd}{vs:List V}(h:RepL K as H xs vs):∀k:Nat,RepL K as H (List.replicate k xs).flatten (List.replicate k vs).flatten
 | 0=>repL_nil.mpr rfl
 | k+1=>by
  rw[List.replicate_succ,List.replicate_succ,List.flatten_cons,List.flatten_cons];exact h.append (RepL.rep h k)
structure EnvRep (K:PySem.W.Frag)(as:List Addr)(H:Hp)(env:En)(σ:St):Prop where
 len:env.length=σ.length
 get:∀ (i:Nat) (w:Wd),env[i]?=some (some w)->∃v,σ[i]?=some (some v)/\Rep K as H w v
theorem EnvRep.mono {env:En}{σ:St}(G:EnvRep K as H env σ)(S:Sim K as m H)(T:Step as H as' H'):EnvRep K as' H' env σ :=
 ⟨G.len,λi w e=>let ⟨v,h1,h2⟩:=G.get i w e;⟨v,h1,h2.mono S T⟩⟩
theorem EnvRep.kp {env:En}{σ:St}(G:EnvRep K as H env σ)(k:Kp K H H'):EnvRep K as H' env σ :=
 ⟨G.len,λi w e=>let ⟨v,h1,h2⟩:=G.get i w e;⟨v,h1,h2.kp k⟩⟩
theorem EnvRep.set {env:En}{σ:St}(G:EnvRep K as H env σ){w:Wd}{v:V}(h:Rep K as H w v)(i:Nat):EnvRep K as H (env.set i (some w)) (σ.set i (some v)):=by
 refine ⟨by simp[G.len],λj x e=>?_⟩;by_cases hj:j=i
 .subst hj;have hl:j < env.length:=by
   have:=(List.getElem?_eq_some_iff.mp e).1;simpa using this
  rw[List.getElem?_set_self hl] at e;cases e;exact ⟨v,List.getElem?_set_self (by rw[<- G.len];exact hl),h⟩
 .rw[List.getElem?_set_ne (Ne.symm hj)] at e;obtain ⟨u,h1,h2⟩:=G.get j x e;exact ⟨u,by rw[List.getElem?_set_ne (Ne.symm hj)];exact h1,h2⟩
theorem EnvRep.push {env:En}{σ:St}(G:EnvRep K as H env σ){w:Wd}{v:V}(h:Rep K as H w v):EnvRep K as H (env++[some w]) (σ++[some v]):=by
 refine ⟨by simp[G.len],λj x e=>?_⟩;by_cases hj:j < env.length
 .rw[List.getElem?_append_left hj] at e;obtain ⟨u,h1,h2⟩:=G.get j x e;exact ⟨u,by rw[List.getElem?_append_left (by rw[<- G.len];exact hj)];exact h1,h2⟩
 .rw[List.getElem?_append_right (by lia)] at e;have hz:j - env.length=0:=by
   cases hq:j - env.length with
   | zero=>rfl
   | succ k=>rw[hq] at e;simp at e
  rw[hz] at e;simp at e;subst e;refine ⟨v,?_,h⟩;rw[List.getElem?_append_right (by rw[<- G.len];lia),<- G.len,hz];rfl
def Post (K:PySem.W.Frag)(as:List Addr)(H:Hp)(Q:VK)(r:Rz):Prop:=match r with
 | .ok w m'=>∀as' H' v,Step as H as' H'->Sim K as' m' H'->Rep K as' H' w v->Q v H'
 | _=>False
theorem Post.step {Q:VK}{r:Rz}(h:Post K as H Q r)(T:Step as H as' H'):Post K as' H' Q r:=by
 cases r with
 | ok w m'=>exact λas2 H2 v U S R=>h as2 H2 v (T.trans U) S R
 | exc c w m'=>exact h
 | no=>exact h
theorem Post.bind {Q Q1:VK}{r:Rz}{f:Wd->Me->Rz}(h:Post K as H Q (r.bind f))
  (k:∀w m' as' H' v,Step as H as' H'->Sim K as' m' H'->Rep K as' H' w v->Post K as' H' Q (f w m')->Q1 v H'):Post K as H Q1 r:=by
 cases r with
 | ok w m'=>exact λas2 H2 v U S R=>k w m' as2 H2 v U S R (Post.step (r:=f w m') h U)
 | exc c w m'=>exact h
 | no=>exact h
theorem zjW {Q Q1:VK}{r:Rz}{f:Wd->Me->Rz}(h:Post K as H Q (r.bind f))(T:Step as H as' H')
  (k:∀w m2 as2 H2 v,Step as' H' as2 H2->Sim K as2 m2 H2->Rep K as2 H2 w v->Post K as H Q (f w m2)->Q1 v H2):Post K as' H' Q1 r:=by
 cases r with
 | ok w m'=>exact λas2 H2 v U S R=>k w m' as2 H2 v U S R h
 | exc c w m'=>exact h
 | no=>exact h
def tOf (K:PySem.W.Frag)(g:En->Me->Rz):TE:=λσ H Q=>∃as env m,Sim K as m H/\EnvRep K as H env σ/\Post K as H Q (g env m)
def xC (K:PySem.W.Frag)(g:En->Me->Rz):TT:=λσ H Q=>tOf K g σ H λv H'=>∃b,v=.bl b/\Q b H'
theorem Post.ok {Q:VK}{w:Wd}{v:V}(h:Post K as H Q (.ok w m))(S:Sim K as m H)(R:Rep K as H w v):Q v H:=h as H v .refl S R
end
theorem PE.imp {X:Cx}{e:Expr}{t t':TE}(h:PE X e t)(k:∀σ H Q,t' σ H Q->t σ H Q):PE X e t':=λpins s σ H Q I q=>h pins s σ H Q I (k σ H Q q)
theorem PT.imp {X:Cx}{e:Expr}{t t':TT}(h:PT X e t)(k:∀σ H Q,t' σ H Q->t σ H Q):PT X e t':=λpins s σ H Q I q=>h pins s σ H Q I (k σ H Q q)
theorem PA.imp {X:Cx}{es:List Expr}{t t':TA}(h:PA X es t)(k:∀σ H Q,t' σ H Q->t σ H Q):PA X es t':=λpos pins s σ H Q I q=>h pos pins s σ H Q I (k σ H Q q)
theorem PS.imp {X:Cx}{st:Stmt}{t t':TS}(h:PS X st t)(k:∀D σ H,t' D σ H->t D σ H):PS X st t':=λpins s σ H D I q=>h pins s σ H D I (k D σ H q)
theorem PSs.imp {X:Cx}{st:List Stmt}{t t':TS}(h:PSs X st t)(k:∀D σ H,t' D σ H->t D σ H):PSs X st t':=λpins s σ H D I q=>h pins s σ H D I (k D σ H q)
section
variable {K:PySem.W.Frag}{as:List Addr}{H H':Hp}{m:Me}{Q:VK}{a p:Addr}{l:Nat}{ws xs:List Wd}{vs us:List V}
theorem y1:lim<=sizeLine:=by rw[sizeLine_eq];decide
theorem Sim.new (S:Sim K as m H)(hp:H p=none):p∉as:=λz=>by
 obtain ⟨us,e,_⟩:=S.isLst z;rw[hp] at e;cases e
theorem Sim.alloc (S:Sim K as m H)(hp:H p=none)(R:RepL K as H ws vs):Step as H (as++[p]) (upd H p (.lst vs))/\Sim K (as++[p]) (m++[.lst ws]) (upd H p (.lst vs)):=by
 have hn:=S.new hp;have T:Step as H (as++[p]) (upd H p (.lst vs)):=⟨⟨[p],rfl⟩,λb o h _=>by rw[zn (zU h hp)];exact h,λb hb=>by
  rcases List.mem_append.mp hb with z | z
  .exact .inl z
  .exact .inr (by rw[List.mem_singleton.mp z];exact hp)⟩
 refine ⟨T,⟨by simp[S.len],?_,λl b o h1 h2=>?_⟩⟩
 .refine List.nodup_append.mpr ⟨S.nd,by simp,λx hx y hy=>?_⟩;rw[List.mem_singleton.mp hy];rintro rfl;exact hn hx
 .by_cases hl:l < as.length
  .rw[List.getElem?_append_left hl] at h1;rw[List.getElem?_append_left (by rw[<- S.len];exact hl)] at h2;have q:=S.obj l b o h1 h2;cases o with
   | lst ys =>
    obtain ⟨zs,e,r⟩:=q;exact ⟨zs,by rw[zn (zU e hp)];exact e,r.mono S T⟩
   | dct ks us=>exact RepO.mono (ob:=.dct ks us) (S.kp T) (λ_ _ e=>T.get e) (λo e=>by rw[zn (zU e hp)];exact e) q
  .rw[List.getElem?_append_right (by lia)] at h1;rw[List.getElem?_append_right (by rw[<- S.len];lia)] at h2;have hz:l - as.length=0:=by
    cases hq:l - as.length with
    | zero=>rfl
    | succ k=>rw[hq] at h1;simp at h1
   rw[hz] at h1;rw[<- S.len,hz] at h2;simp at h1 h2;subst h1;subst h2;exact ⟨vs,zp,R.mono S T⟩
theorem Sim.set (S:Sim K as m H)(ha:as[l]?=some a)(hm:m[l]?=some (.lst xs))(R:RepL K as H ws vs):Step as H as (upd H a (.lst vs))/\Sim K as (m.set l (.lst ws)) (upd H a (.lst vs)):=by
 have hin:a∈as:=List.mem_of_getElem? ha;have T:Step as H as (upd H a (.lst vs)):=⟨⟨[],by simp⟩,λb o h hb=>by
  rw[zn (by rintro rfl;exact hb hin)];exact h,λb hb=>.inl hb⟩
 refine ⟨T,⟨by simp[S.len],S.nd,λk b o h1 h2=>?_⟩⟩;by_cases hk:k=l
 .subst hk;rw[ha] at h1;cases h1;rw[List.getElem?_set_self (List.getElem?_eq_some_iff.mp hm).1] at h2;cases h2;exact ⟨vs,zp,R.mono S T⟩
 .rw[List.getElem?_set_ne (Ne.symm hk)] at h2;have q:=S.obj k b o h1 h2;have hb:b≠a:=by
   rintro rfl;obtain ⟨i1,e1⟩:=List.getElem?_eq_some_iff.mp h1;obtain ⟨i2,e2⟩:=List.getElem?_eq_some_iff.mp ha;exact hk ((List.getElem_inj S.nd).mp (e1.trans e2.symm))
  cases o with
  | lst ys =>
   obtain ⟨zs,e,r⟩:=q;exact ⟨zs,by rw[zn hb];exact e,r.mono S T⟩
  | dct ks us=>exact RepO.mono (ob:=.dct ks us) (S.kp T) (λ_ _ e=>T.get e) (λo e=>by rw[zn hb];exact e) q
theorem Sim.keep (S:Sim K as m H)(T:Step as H as H')(hk:∀a∈as,∀o,H a=some o->H' a=some o):Sim K as m H':=by
 refine ⟨S.len,S.nd,λl b o h1 h2=>?_⟩;have q:=S.obj l b o h1 h2;cases o with
 | lst ys =>
  obtain ⟨zs,e,r⟩:=q;exact ⟨zs,hk b (List.mem_of_getElem? h1) _ e,r.mono S T⟩
 | dct ks us=>exact RepO.mono (ob:=.dct ks us) (S.kp T) (λ_ _ e=>T.get e) (λo e=>hk b (List.mem_of_getElem? h1) _ e) q
theorem Sim.tup (S:Sim K as m H)(hp:H p=none)(R:RepL K as H ws vs):Step as H as (upd H p (.tup vs))/\Sim K as m (upd H p (.tup vs))/\Rep K as (upd H p (.tup vs)) (.tup ws) (.ref p):=by
 have T:Step as H as (upd H p (.tup vs)):=⟨⟨[],by simp⟩,λb o h _=>by rw[zn (zU h hp)];exact h,λb hb=>.inl hb⟩;exact ⟨T,S.keep T λb _ o e=>by rw[zn (zU e hp)];exact e,rep_tup.mpr ⟨p,vs,rfl,SqT.of zp,R.mono S T⟩⟩
theorem xD (S:Sim K as m H)(R:RepL K as H ws vs)(h:Post K as H Q (alloc m ws)):vs.length<=lim/\∀p,H p=none->Q (.ref p) (upd H p (.lst vs)):=by
 unfold Mini.alloc at h;by_cases hl:ws.length<=lim
 .rw[if_pos hl] at h;refine ⟨by rw[<- R.length];exact hl,λp hp=>?_⟩;obtain ⟨T,S'⟩:=S.alloc hp R;refine h _ _ _ T S' (rep_ref.mpr ⟨p,?_,rfl⟩);rw[<- S.len,List.getElem?_append_right (Nat.le_refl _)];simp
 .rw[if_neg hl] at h;exact h.elim
theorem yt (S:Sim K as m H)(hm:m[l]?=some (.lst xs)):∃a vs,as[l]?=some a/\H a=some (.lst vs)/\RepL K as H xs vs:=by
 obtain ⟨a,ha,vs,e,r⟩:=S.get hm;exact ⟨a,vs,ha,e,r⟩
theorem zX {xs:List Wd}(h:zK m l=some xs):m[l]?=some (.lst xs):=by
 unfold zK at h;cases e:m[l]? with
 | none=>rw[e] at h;cases h
 | some o=>cases o with
  | lst ys=>rw[e] at h;cases h;rfl
  | dct ks us=>rw[e] at h;cases h
theorem jQ (S:Sim K as m H){w:Wd}{v:V}(R:Rep K as H w v)(h:xA m w=some xs):∃p vs,v=.ref p/\(SqL K H p vs\/SqT K H p vs)/\RepL K as H xs vs:=by
 cases w with
 | tup ys =>
  cases h;obtain ⟨b,vs,rfl,q,r⟩:=rep_tup.mp R;exact ⟨b,vs,rfl,.inr q,r⟩
 | rol ys =>
  cases h;obtain ⟨b,vs,rfl,q,r⟩:=rep_rol.mp R;exact ⟨b,vs,rfl,.inl q.sq,r⟩
 | ref l =>
  obtain ⟨b,hb,rfl⟩:=rep_ref.mp R;obtain ⟨a,vs,ha,e,r⟩:=yt S (zX h);rw[hb] at ha;cases ha;exact ⟨b,vs,rfl,.inl (SqL.of e),r⟩
 | non=>cases h
 | bl b=>cases h
 | int i=>cases h
 | str s=>cases h
noncomputable def opK:Bo->Operator
 | .add=>.Add | .sub=>.Sub | .mul=>.Mult | .fdiv=>.FloorDiv | .mod=>.Mod | .pow=>.Pow | .shr=>.RShift | .band=>.BitAnd
def rB (K:PySem.W.Frag):Bo->R2
 | .add=>λx y H Q=>rI0 (λi j=>.int (i+j)) x y H Q\/(zik x y H Q\/zfL K x y H Q)
 | .sub=>rI0 λi j=>.int (i - j)
 | .mul=>λx y H Q=>rI CMul (λi j=>.int (i * j)) x y H Q\/zil x y H Q
 | .fdiv=>rI zh5 λi j=>.int (i / j)
 | .mod=>rI (λ_ j=>0 < j) λi j=>.int (i % j)
 | .pow=>rI zh6 λi j=>.int (i ^ j.toNat)
 | .shr=>rI (λ_ j=>0<=j) λi j=>.int (i / 2 ^ j.toNat)
 | .band=>rI0 λi j=>.int (Builtin.bitAnd i j)
theorem zir {X:Cx}(op:Bo):OpR X (binaryOp (opK op)) (rB X.K op):=by
 cases op with
 | add=>exact op_add.or (op_cat.or zeq)
 | sub=>exact zgo
 | mul=>exact op_mul.or zgE
 | fdiv=>exact zeh
 | mod=>exact zgp
 | pow=>exact zgq
 | shr=>exact zgr
 | band=>exact zgs
theorem zex {i:Int}(h:0<=i):Builtin.bitAnd i 1=i % 2:=by
 obtain ⟨n,rfl⟩:=Int.eq_ofNat_of_zero_le h;show Int.ofNat (n &&& 1)=_;rw[Nat.and_one_is_mod];rfl
theorem vv {i:Int}(h:yA i=true):-(2 ^ 64) < i/\i < 2 ^ 64:=by
 unfold yA big at h;rw[Bool.and_eq_true,decide_eq_true_iff,decide_eq_true_iff] at h;lia
theorem xM {c:Prop}[Decidable c]{r:Rz}(h:Post K as H Q (if c then r else .no)):c/\Post K as H Q r:=by
 by_cases hc:c
 .rw[if_pos hc] at h;exact ⟨hc,h⟩
 .rw[if_neg hc] at h;exact h.elim
theorem zey {a b:Nat}(h:Post K as H Q (bop .add (.ref a) (.ref b) m)):∃xs ys,m[a]?=some (.lst xs)/\m[b]?=some (.lst ys)/\Post K as H Q (alloc m (xs++ys)):=by
 unfold bop at h;dsimp only at h;generalize m[a]?=p at h ⊢;generalize m[b]?=q at h ⊢;cases p with
 | none=>exact h.elim
 | some o =>
  cases o with
  | dct ks us=>exact h.elim
  | lst xs =>
   cases q with
   | none=>exact h.elim
   | some o =>
    cases o with
    | dct ks us=>exact h.elim
    | lst ys=>exact ⟨xs,ys,rfl,rfl,h⟩
theorem zez {a:Nat}{k:Int}(h:Post K as H Q (bop .mul (.ref a) (.int k) m)):∃xs,m[a]?=some (.lst xs)/\Post K as H Q (if -lim<=k/\k<=lim then alloc m (List.replicate k.toNat xs).flatten else .no):=by
 unfold bop at h;dsimp only at h;generalize m[a]?=p at h ⊢;cases p with
 | none=>exact h.elim
 | some o =>
  cases o with
  | dct ks us=>exact h.elim
  | lst xs=>exact ⟨xs,rfl,h⟩
set_option tactic.hygienic true in
theorem zgG {op:Bo}{x y:Wd}{v u:V}(S:Sim K as m H)(Rx:Rep K as H x v)(Ry:Rep K as H y u)(h:Post K as H Q (bop op x y m)):rB K op v u H Q:=by
 cases x with
 | int i =>
  cases y with
  | int j =>
   obtain rfl:=rep_int.mp Rx;obtain rfl:=rep_int.mp Ry;cases op with
   | add=>exact .inl ⟨i,j,rfl,rfl,h.ok S (rep_int.mpr rfl)⟩
   | sub=>exact ⟨i,j,rfl,rfl,h.ok S (rep_int.mpr rfl)⟩
   | mul =>
    obtain ⟨hs,h⟩:=xM h;refine .inl ⟨i,j,rfl,rfl,?_,h.ok S (rep_int.mpr rfl)⟩;rcases Bool.or_eq_true_iff.mp hs with q | q
    .exact .inl (vv q)
    .exact .inr (vv q)
   | fdiv =>
    obtain ⟨hs,h⟩:=xM h;exact ⟨i,j,rfl,rfl,hs,h.ok S (rep_int.mpr rfl)⟩
   | mod =>
    obtain ⟨hs,h⟩:=xM h;exact ⟨i,j,rfl,rfl,hs,h.ok S (rep_int.mpr rfl)⟩
   | pow =>
    obtain ⟨⟨h1,h2,h3⟩,h⟩:=xM h;have h4:=vv h3;exact ⟨i,j,rfl,rfl,⟨h1,h2,by lia⟩,h.ok S (rep_int.mpr rfl)⟩
   | shr =>
    obtain ⟨hs,h⟩:=xM h;exact ⟨i,j,rfl,rfl,hs.1,h.ok S (rep_int.mpr rfl)⟩
   | band =>
    obtain ⟨⟨h1,rfl⟩,h'⟩:=xM h;refine ⟨i,1,rfl,rfl,?_⟩;show Q (.int (Builtin.bitAnd i 1)) H;rw[zex h1];exact h'.ok S (rep_int.mpr rfl)
  | _=>exact h.elim
 | ref a =>
  obtain ⟨pa,ha,rfl⟩:=rep_ref.mp Rx;cases y with
  | ref b =>
   obtain ⟨pb,hb,rfl⟩:=rep_ref.mp Ry;cases op with
   | add =>
    obtain ⟨xs,ys,e1,e2,h⟩:=zey h;obtain ⟨pa',va,ha',ea,ra⟩:=yt S e1;rw[ha] at ha';cases ha';obtain ⟨pb',vb,hb',eb,rb⟩:=yt S e2;rw[hb] at hb';cases hb';obtain ⟨hl,q⟩:=xD S (ra.append rb) h;rw[List.length_append] at hl;exact .inr (.inl ⟨pa,pb,va,vb,rfl,rfl,ea,eb,Nat.le_trans hl y1,q⟩)
   | _=>exact h.elim
  | int k =>
   obtain rfl:=rep_int.mp Ry;cases op with
   | mul =>
    obtain ⟨xs,e1,h⟩:=zez h;obtain ⟨hk,h⟩:=xM h;obtain ⟨pa',va,ha',ea,ra⟩:=yt S e1;rw[ha] at ha';cases ha';obtain ⟨hl,q⟩:=xD S (ra.rep k.toNat) h;rw[zat] at hl;have hlim:(lim:Int)=100000:=rfl;exact .inr ⟨pa,k,va,rfl,rfl,ea,by lia,by lia,by rw[Nat.mul_comm];exact Nat.le_trans hl y1,q⟩
   | _=>exact h.elim
  | _=>exact h.elim
 | tup xs =>
  cases y with
  | tup ys =>
   cases op with
   | add =>
    obtain ⟨hc,h⟩:=xM h;obtain ⟨pa,va,rfl,qa,ra⟩:=rep_tup.mp Rx;obtain ⟨pb,vb,rfl,qb,rb⟩:=rep_tup.mp Ry;have la:=ra.length;have lb:=rb.length;refine .inr (.inr ⟨pa,pb,va,vb,rfl,rfl,qa,qb,?_,?_,λe=>?_,λe p hp=>?_⟩)
    .rintro rfl;cases xs with
     | nil=>simp at hc
     | cons x xs=>simp at la
    .rw[<- la,<- lb];exact Nat.le_trans hc.1 y1
    .subst e;obtain rfl:ys=[]:=by
      cases ys with
      | nil=>rfl
      | cons y ys=>simp at lb
     refine h.ok S (rep_tup.mpr ⟨pa,va,rfl,qa,?_⟩);rw[List.append_nil];exact ra
    .obtain ⟨T,S',R'⟩:=S.tup hp (ra.append rb);exact h _ _ _ T S' R'
   | _=>exact h.elim
  | _=>exact h.elim
 | _=>exact h.elim
end
end Mini
namespace Mini
open PySem PySem.Spec PyProof.Rows L2
open PySem.SeqAt
section
variable {X:Cx}{pins:List (Addr×Obj)}{σ:St}{s:Shared}{as:List Addr}{H:Hp}{m:Me}
theorem gB {a:Addr}{xs ys:List V}(I:Inv X pins σ H s)(h1:SqT X.K H a xs)(h2:SqL X.K H a ys):False:=by
 obtain ⟨its,_,p,_⟩:=I.tuple h1;obtain ⟨its',_,q,_⟩:=I.list h2;exact ne_of_list_tuple q.isList (show s.heap.IsTuple a its.toArray from p) rfl
theorem zcy {a:Addr}{xs:List V}{u:HO}(I:Inv X pins σ H s)(h1:SqT X.K H a xs)(h2:H a=some u)(h3:LD u):False:=by
 rcases h1 with (q | ⟨o,q⟩) | ⟨o,_,_,hk,_⟩
 .rw[h2] at q;cases q;exact h3
 .rw[h2] at q;cases q;exact h3
 .have:=(I.bs a o (I.ok.mod.kin a o hk)).2;rw[this] at h2;cases h2
theorem jr {a:Addr}{xs:List V}{u:HO}(I:Inv X pins σ H s)(h1:KL X.K a xs)(h2:H a=some u):False:=by
 obtain ⟨o,_,_,hk,_⟩:=h1;have:=(I.bs a o (I.ok.mod.kin a o hk)).2;rw[this] at h2;cases h2
mutual
theorem v7 (I:Inv X pins σ H s)(S:Sim X.K as m H):∀ (w w':Wd) (v:V),Rep X.K as H w v->Rep X.K as H w' v->w=w'
 | .non,w',v,h,h'=>by
  obtain rfl:=rep_non.mp h;cases w' with
  | non=>rfl
  | bl b=>cases rep_bl.mp h'
  | int i=>cases rep_int.mp h'
  | str x=>cases rep_str.mp h'
  | tup xs=>obtain ⟨_,_,e,_⟩:=rep_tup.mp h';cases e
  | rol xs=>obtain ⟨_,_,e,_⟩:=rep_rol.mp h';cases e
  | ref l=>obtain ⟨_,_,e⟩:=rep_ref.mp h';cases e
 | .bl c,w',v,h,h'=>by
  obtain rfl:=rep_bl.mp h;cases w' with
  | non=>cases rep_non.mp h'
  | bl b=>cases rep_bl.mp h';rfl
  | int i=>cases rep_int.mp h'
  | str x=>cases rep_str.mp h'
  | tup xs=>obtain ⟨_,_,e,_⟩:=rep_tup.mp h';cases e
  | rol xs=>obtain ⟨_,_,e,_⟩:=rep_rol.mp h';cases e
  | ref l=>obtain ⟨_,_,e⟩:=rep_ref.mp h';cases e
 | .int c,w',v,h,h'=>by
  obtain rfl:=rep_int.mp h;cases w' with
  | non=>cases rep_non.mp h'
  | bl b=>cases rep_bl.mp h'
  | int i=>cases rep_int.mp h';rfl
  | str x=>cases rep_str.mp h'
  | tup xs=>obtain ⟨_,_,e,_⟩:=rep_tup.mp h';cases e
  | rol xs=>obtain ⟨_,_,e,_⟩:=rep_rol.mp h';cases e
  | ref l=>obtain ⟨_,_,e⟩:=rep_ref.mp h';cases e
 | .str c,w',v,h,h'=>by
  obtain rfl:=rep_str.mp h;cases w' with
  | non=>cases rep_non.mp h'
  | bl b=>cases rep_bl.mp h'
  | int i=>cases rep_int.mp h'
  | str x =>
   have e:=rep_str.mp h';injection e with e
   injection e with e
   have:c=x:=by simpa using congrArg Array.toList e
   rw[this]
  | tup xs=>obtain ⟨_,_,e,_⟩:=rep_tup.mp h';cases e
  | rol xs=>obtain ⟨_,_,e,_⟩:=rep_rol.mp h';cases e
  | ref l=>obtain ⟨_,_,e⟩:=rep_ref.mp h';cases e
 | .tup xs,w',v,h,h'=>by
  obtain ⟨a,vs,rfl,q,r⟩:=rep_tup.mp h;cases w' with
  | non=>cases rep_non.mp h'
  | bl b=>cases rep_bl.mp h'
  | int i=>cases rep_int.mp h'
  | str x=>cases rep_str.mp h'
  | tup ys =>
   obtain ⟨b,us,e,q',r'⟩:=rep_tup.mp h';cases e;obtain rfl:=I.tuple_inj q q';rw[repL_inj I S xs ys vs r r']
  | rol ys =>
   obtain ⟨b,us,e,q',r'⟩:=rep_rol.mp h';cases e;exact (gB I q q'.sq).elim
  | ref l =>
   obtain ⟨b,hb,e⟩:=rep_ref.mp h';cases e;obtain ⟨u,e2,e3⟩:=S.isLst (List.mem_of_getElem? hb);exact (zcy I q e2 e3).elim
 | .rol xs,w',v,h,h'=>by
  obtain ⟨a,vs,rfl,q,r⟩:=rep_rol.mp h;cases w' with
  | non=>cases rep_non.mp h'
  | bl b=>cases rep_bl.mp h'
  | int i=>cases rep_int.mp h'
  | str x=>cases rep_str.mp h'
  | tup ys =>
   obtain ⟨b,us,e,q',r'⟩:=rep_tup.mp h';cases e;exact (gB I q' q.sq).elim
  | rol ys =>
   obtain ⟨b,us,e,q',r'⟩:=rep_rol.mp h';cases e;obtain rfl:=I.list_inj q.sq q'.sq;rw[repL_inj I S xs ys vs r r']
  | ref l =>
   obtain ⟨b,hb,e⟩:=rep_ref.mp h';cases e;obtain ⟨u,e2,e3⟩:=S.isLst (List.mem_of_getElem? hb);rcases q with ⟨o,q⟩ | q
   .rw[e2] at q;cases q;exact e3.elim
   .exact (jr I q e2).elim
 | .ref l,w',v,h,h'=>by
  obtain ⟨a,ha,rfl⟩:=rep_ref.mp h;obtain ⟨u,e2,e3⟩:=S.isLst (List.mem_of_getElem? ha);cases w' with
  | non=>cases rep_non.mp h'
  | bl b=>cases rep_bl.mp h'
  | int i=>cases rep_int.mp h'
  | str x=>cases rep_str.mp h'
  | tup ys =>
   obtain ⟨b,us,e,q',r'⟩:=rep_tup.mp h';cases e;exact (zcy I q' e2 e3).elim
  | rol ys =>
   obtain ⟨b,us,e,q',r'⟩:=rep_rol.mp h';cases e;rcases q' with ⟨o,q'⟩ | q'
   .rw[e2] at q';cases q';exact e3.elim
   .exact (jr I q' e2).elim
  | ref l' =>
   obtain ⟨b,hb,e⟩:=rep_ref.mp h';cases e;obtain ⟨i1,e1⟩:=List.getElem?_eq_some_iff.mp ha;obtain ⟨i2,e2⟩:=List.getElem?_eq_some_iff.mp hb;rw[(List.getElem_inj S.nd).mp (e1.trans e2.symm)]
theorem repL_inj (I:Inv X pins σ H s)(S:Sim X.K as m H):∀ (xs ys:List Wd) (vs:List V),RepL X.K as H xs vs->RepL X.K as H ys vs->xs=ys
 | [],ys,vs,h,h'=>by
  obtain rfl:=repL_nil.mp h;cases ys with
  | nil=>rfl
  | cons y ys=>obtain ⟨_,_,e,_⟩:=repL_cons.mp h';cases e
 | x::xs,ys,vs,h,h'=>by
  obtain ⟨v,r,rfl,q,t⟩:=repL_cons.mp h;cases ys with
  | nil=>cases repL_nil.mp h'
  | cons y ys =>
   obtain ⟨v',r',e,q',t'⟩:=repL_cons.mp h';cases e;rw[v7 I S x y v q q',repL_inj I S xs ys r t t']
end
theorem jR {p:Wd->Wd->Option Bool}:∀ {xs ys:List Wd}{r:Bool},eqL p xs ys=some r ->
  ∃f:Nat->Bool,(∀j x y,xs[j]?=some x->ys[j]?=some y->p x y=some (f j))/\r=(List.range (min xs.length ys.length)).all f
 | [],ys,r,h=>by
  unfold eqL at h;cases h;exact ⟨λ_=>true,λj x y e=>by simp at e,by simp⟩
 | _::_,[],r,h=>by
  unfold eqL at h;cases h;exact ⟨λ_=>true,λj x y _ e=>by simp at e,by simp⟩
 | x::xs,y::ys,r,h=>by
  unfold eqL at h;cases hp:p x y with
  | none=>rw[hp] at h;cases h
  | some b =>
   rw[hp] at h;simp only[] at h;cases hr:eqL p xs ys with
   | none=>rw[hr] at h;cases h
   | some r' =>
    rw[hr] at h;cases h;obtain ⟨f,hf,e⟩:=jR (xs:=xs) (ys:=ys) hr;refine ⟨λj=>match j with | 0=>b | j+1=>f j,λj x' y' e1 e2=>?_,?_⟩
    .cases j with
     | zero=>simp at e1 e2;subst e1;subst e2;exact hp
     | succ j=>exact hf j x' y' (by simpa using e1) (by simpa using e2)
    .rw[List.length_cons,List.length_cons,Nat.succ_min_succ,List.range_succ_eq_map,List.all_cons,List.all_map,e];rfl
theorem gC:∀ (k:Nat) (w:Wd) (r:Bool),eqW m k w w=some r->r=true
 | 0,w,r,h=>by cases h
 | k+1,w,r,h=>by
  cases w with
  | non=>cases h;rfl
  | bl b=>cases h;simp
  | int i=>cases h;simp
  | str x=>cases h;simp
  | tup xs =>
   replace h:(eqL (eqW m k) xs xs).map (· && decide (xs.length=xs.length))=some r:=h
   cases hr:eqL (eqW m k) xs xs with
   | none=>rw[hr] at h;cases h
   | some r' =>
    rw[hr] at h;simp only[Option.map_some,decide_true,Bool.and_true] at h;cases h;obtain ⟨f,hf,rfl⟩:=jR hr;rw[List.all_eq_true];intro j hj;have hj':j < xs.length:=by simpa using hj
    exact gC k xs[j] (f j) (hf j xs[j] xs[j] (by simp[hj']) (by simp[hj']))
  | rol xs=>cases h
  | ref l =>
   replace h:(if l=l then (if isLst m l then some true else none) else match m[l]?,m[l]? with
    | some (.lst xs),some (.lst ys)=>if xs.length=ys.length then eqL (eqW m k) xs ys else some false
    | _,_=>none)=some r:=h
   simp only[if_true] at h;split at h
   .cases h;rfl
   .cases h
structure Eqs (A:Around)(s:Shared)(u u':Value)(r:Bool):Prop where
 it:EqAt A s u u' r
 eq:RcAt A s u u' r
 ne:RcNeAt A s u u' (! r)
theorem isLst_of (S:Sim X.K as m H)(I:Inv X pins σ H s){l:Nat}{v:V}{u:Value}(h:isLst m l=true)(R:Rep X.K as H (.ref l) v)(ru:RelV v u):∃b its,u=.ref b/\s.heap.IsList b its:=by
 unfold isLst at h;cases e:m[l]? with
 | none=>rw[e] at h;cases h
 | some o =>
  cases o with
  | dct ks us=>rw[e] at h;cases h
  | lst xs =>
   obtain ⟨b,hb,rfl⟩:=rep_ref.mp R;obtain ⟨a,vs,ha,ea,ra⟩:=yt S e;rw[hb] at ha;cases ha;obtain rfl:u=.ref b:=ru;obtain ⟨its,_,p,_⟩:=I.list (SqL.of ea);exact ⟨b,_,rfl,p.isList⟩
theorem wZ (I:Inv X pins σ H s){xs:List Wd}{v:V}{u:Value}(R:Rep X.K as H (.tup xs) v)(ru:RelV v u):∃b vs its,v=.ref b/\u=.ref b/\RepL X.K as H xs vs/\Vals vs its/\s.heap.IsTuple b its.toArray:=by
 obtain ⟨b,vs,rfl,q,r⟩:=rep_tup.mp R;obtain rfl:u=.ref b:=ru;obtain ⟨its,rv,p,_⟩:=I.tuple q;exact ⟨b,vs,its,rfl,rfl,r,rv,p⟩
set_option tactic.hygienic true in
theorem zaz (I:Inv X pins σ H s)(S:Sim X.K as m H):∀ (k:Nat) (A:Around) (w w':Wd) (v v':V) (u u':Value) (r:Bool),A.units+k < cLine->eqW m k w w'=some r ->
  Rep X.K as H w v->Rep X.K as H w' v'->RelV v u->RelV v' u'->Eqs A s u u' r
 | 0,_,_,_,_,_,_,_,_,_,h,_,_,_,_=>by cases h
 | k+1,A,w,w',v,v',u,u',r,hu,h,R,R',ru,ru'=>by
  have hu0:A.units < cLine:=by lia
  have hu1:A.in1.units+k < cLine:=by show A.units+1+k < cLine;lia
  -- items,pair by pair
  have pairs:∀ {xs ys:List Wd}{vs us:List V}{its its':List Value}{r:Bool},RepL X.K as H xs vs->RepL X.K as H ys us->Vals vs its->Vals us its'->eqL (eqW m k) xs ys=some r ->
    ∃f:Nat->Bool,(∀j (h1:j < its.toArray.size) (h2:j < its'.toArray.size),EqAt A.in1 s its.toArray[j] its'.toArray[j] (f j))/\r=(List.range (min its.toArray.size its'.toArray.size)).all f/\its.toArray.size=xs.length/\its'.toArray.size=ys.length:=by
   intro xs ys vs us its its' r r1 r2 rv rv' he;obtain ⟨f,hf,e⟩:=jR he;have l1:=r1.length;have l2:=r2.length;have l3:=rv.length;have l4:=rv'.length;have s1:its.toArray.size=xs.length:=by simp;lia
   have s2:its'.toArray.size=ys.length:=by simp;lia
   refine ⟨f,λj h1 h2=>?_,by rw[e,s1,s2],s1,s2⟩;have hj:j < xs.length:=by lia
   have hj2:j < ys.length:=by lia
   obtain ⟨v1,e1,q1⟩:=r1.get (i:=j) (x:=xs[j]) (by simp[hj]);obtain ⟨v2,e2,q2⟩:=r2.get (i:=j) (x:=ys[j]) (by simp[hj2]);obtain ⟨u1,e3,q3⟩:=rv.get e1;obtain ⟨u2,e4,q4⟩:=rv'.get e2;have z:=zaz I S k A.in1 xs[j] ys[j] v1 v2 u1 u2 (f j) hu1 (hf j _ _ (by simp[hj]) (by simp[hj2])) q1 q2 q3 q4;obtain ⟨_,e5⟩:=List.getElem?_eq_some_iff.mp e3;obtain ⟨_,e6⟩:=List.getElem?_eq_some_iff.mp e4;have g1:its.toArray[j]=u1:=by simpa using e5
   have g2:its'.toArray[j]=u2:=by simpa using e6
   rw[g1,g2];exact z.it
  cases w with
  | tup xs =>
   obtain ⟨b,vs,its,rfl,rfl,r1,rv,p⟩:=wZ I R ru;cases w' with
   | tup ys =>
    obtain ⟨b',vs',its',rfl,rfl,r1',rv',p'⟩:=wZ I R' ru';have rc:RcAt A s (.ref b) (.ref b') r/\RcNeAt A s (.ref b) (.ref b') (! r):=by
     replace h:(eqL (eqW m k) xs ys).map (· && decide (xs.length=ys.length))=some r:=h
     cases hr:eqL (eqW m k) xs ys with
     | none=>rw[hr] at h;cases h
     | some r' =>
      rw[hr] at h;simp only[Option.map_some] at h;cases h;obtain ⟨f,hf,e,z1,z2⟩:=pairs r1 r1' rv rv' hr;have e2:((List.range (min its.toArray.size its'.toArray.size)).all f && its.toArray.size == its'.toArray.size)=(r' && decide (xs.length=ys.length)):=by
       rw[e,z1,z2];congr 1
      exact ⟨e2▸RcAt.tuples p p' hu0 hf,e2▸RcNeAt.tuples p p' hu0 hf⟩
    refine ⟨?_,rc.1,rc.2⟩;by_cases hb:b=b'
    .subst hb;have e:=v7 I S _ _ _ R R';rw[<- e] at h;obtain rfl:=gC _ _ _ h;exact EqAt.same _
    .exact EqAt.of_refs hb rc.1
   | ref l =>
    replace h:(if isLst m l && true then some false else none)=some r:=h
    split at h
    .rename_i hl;cases h;obtain ⟨b',its',rfl,q⟩:=isLst_of S I (Bool.and_eq_true_iff.mp hl).1 R' ru';exact ⟨EqAt.tuple_list p q hu0,RcAt.tuple_list p q hu0,RcNeAt.tuple_list p q hu0⟩
    .cases h
   | rol ys=>cases h
   | non =>
    cases h;obtain rfl:=rep_non.mp R';obtain rfl:u'=.none:=ru';exact ⟨EqAt.tuple_none p hu0,RcAt.tuple_none p hu0,RcNeAt.tuple_none p hu0⟩
   | bl c =>
    cases h;obtain rfl:=rep_bl.mp R';obtain rfl:u'=.bool c:=ru';exact ⟨EqAt.tuple_bool c p hu0,RcAt.tuple_bool c p hu0,RcNeAt.tuple_bool c p hu0⟩
   | int i =>
    cases h;obtain rfl:=rep_int.mp R';obtain ⟨t,rfl⟩:=ru';exact ⟨EqAt.tuple_int i t p hu0,RcAt.tuple_int i t p hu0,RcNeAt.tuple_int i t p hu0⟩
   | str x =>
    cases h;obtain rfl:=rep_str.mp R';obtain ⟨t,rfl⟩:=ru';exact ⟨EqAt.tuple_str _ t p hu0,RcAt.tuple_str _ t p hu0,RcNeAt.tuple_str _ t p hu0⟩
  | ref l =>
   cases w' with
   | ref l' =>
    obtain ⟨b,hb,rfl⟩:=rep_ref.mp R;obtain ⟨b',hb',rfl⟩:=rep_ref.mp R';obtain rfl:u=.ref b:=ru;obtain rfl:u'=.ref b':=ru'
    replace h:(if l=l' then (if isLst m l then some true else none) else match m[l]?,m[l']? with
     | some (.lst xs),some (.lst ys)=>if xs.length=ys.length then eqL (eqW m k) xs ys else some false
     | _,_=>none)=some r:=h
    by_cases hll:l=l'
    .subst hll;rw[hb] at hb';cases hb';rw[if_pos rfl] at h;split at h
     .rename_i hil;cases h;obtain ⟨c,its,ec,q⟩:=isLst_of S I hil R (u:=.ref b) rfl;cases ec;have al:(List.range its.size).all (λ_=>true)=true:=by simp
      have e1:=RcAt.lists (A:=A) (e:=λ_=>true) q q rfl hu0 (λj h1 h2=>EqAt.same _);have e2:=RcNeAt.lists (A:=A) (e:=λ_=>true) q q rfl hu0 (λj h1 h2=>EqAt.same _);rw[al] at e1 e2;exact ⟨EqAt.same _,e1,e2⟩
     .cases h
    .rw[if_neg hll] at h;have hbb:b≠b':=by
      rintro rfl;obtain ⟨i1,e1⟩:=List.getElem?_eq_some_iff.mp hb;obtain ⟨i2,e2⟩:=List.getElem?_eq_some_iff.mp hb';exact hll ((List.getElem_inj S.nd).mp (e1.trans e2.symm))
     split at h
     .rename_i xs ys m1 m2;obtain ⟨a1,vs,h1,g1,r1⟩:=yt S m1;rw[hb] at h1;cases h1;obtain ⟨a2,us,h2,g2,r2⟩:=yt S m2;rw[hb'] at h2;cases h2;obtain ⟨its,rv,p,_⟩:=I.list (SqL.of g1);obtain ⟨its',rv',p',_⟩:=I.list (SqL.of g2);split at h
      .rename_i hl;obtain ⟨f,hf,e,z1,z2⟩:=pairs r1 r2 rv rv' h;have hsz:its.toArray.size=its'.toArray.size:=by rw[z1,z2,hl]
       rw[<- hsz,Nat.min_self] at e;have e1:=RcAt.lists p.isList p'.isList hsz hu0 hf;have e2:=RcNeAt.lists p.isList p'.isList hsz hu0 hf;rw[<- e] at e1 e2;exact ⟨EqAt.of_refs hbb e1,e1,e2⟩
      .rename_i hl;cases h;have l1:=r1.length;have l2:=r2.length;have l3:=rv.length;have l4:=rv'.length;have hsz:(its.toArray.size != its'.toArray.size)=true:=by
        simp;lia
       have e1:=RcAt.lists_lengths (A:=A) p.isList p'.isList hsz hu0;exact ⟨EqAt.of_refs hbb e1,e1,RcNeAt.lists_lengths p.isList p'.isList hsz hu0⟩
     .cases h
   | tup ys =>
    replace h:(if isLst m l && true then some false else none)=some r:=h
    split at h
    .rename_i hl;cases h;obtain ⟨b,its,rfl,q⟩:=isLst_of S I (Bool.and_eq_true_iff.mp hl).1 R ru;obtain ⟨b',vs',its',rfl,rfl,r1',rv',p'⟩:=wZ I R' ru';exact ⟨EqAt.list_tuple q p' hu0,RcAt.list_tuple q p' hu0,RcNeAt.list_tuple q p' hu0⟩
    .cases h
   | rol ys =>
    replace h:(if isLst m l && false then some false else none)=some r:=h
    simp only[Bool.and_false,Bool.false_eq_true,if_false] at h;cases h
   | non =>
    replace h:(if isLst m l && true then some false else none)=some r:=h
    split at h
    .rename_i hl;cases h;obtain ⟨b,its,rfl,q⟩:=isLst_of S I (Bool.and_eq_true_iff.mp hl).1 R ru;obtain rfl:=rep_non.mp R';obtain rfl:u'=.none:=ru';exact ⟨EqAt.list_none q hu0,RcAt.list_none q hu0,RcNeAt.list_none q hu0⟩
    .cases h
   | bl c =>
    replace h:(if isLst m l && true then some false else none)=some r:=h
    split at h
    .rename_i hl;cases h;obtain ⟨b,its,rfl,q⟩:=isLst_of S I (Bool.and_eq_true_iff.mp hl).1 R ru;obtain rfl:=rep_bl.mp R';obtain rfl:u'=.bool c:=ru';exact ⟨EqAt.list_bool c q hu0,RcAt.list_bool c q hu0,RcNeAt.list_bool c q hu0⟩
    .cases h
   | int i =>
    replace h:(if isLst m l && true then some false else none)=some r:=h
    split at h
    .rename_i hl;cases h;obtain ⟨b,its,rfl,q⟩:=isLst_of S I (Bool.and_eq_true_iff.mp hl).1 R ru;obtain rfl:=rep_int.mp R';obtain ⟨t,rfl⟩:=ru';exact ⟨EqAt.list_int i t q hu0,RcAt.list_int i t q hu0,RcNeAt.list_int i t q hu0⟩
    .cases h
   | str x =>
    replace h:(if isLst m l && true then some false else none)=some r:=h
    split at h
    .rename_i hl;cases h;obtain ⟨b,its,rfl,q⟩:=isLst_of S I (Bool.and_eq_true_iff.mp hl).1 R ru;obtain rfl:=rep_str.mp R';obtain ⟨t,rfl⟩:=ru';exact ⟨EqAt.list_str _ t q hu0,RcAt.list_str _ t q hu0,RcNeAt.list_str _ t q hu0⟩
    .cases h
  | rol xs =>
   cases w' <;> first | cases h | (replace h:(if isLst m _ && false then some false else none)=some r:=h;simp at h)
  | non =>
   obtain rfl:=rep_non.mp R;obtain rfl:u=.none:=ru;cases w' with
   | rol ys=>cases h
   | ref l =>
    replace h:(if isLst m l && true then some false else none)=some r:=h
    split at h
    .rename_i hl;cases h;obtain ⟨b,its,rfl,q⟩:=isLst_of S I (Bool.and_eq_true_iff.mp hl).1 R' ru';exact ⟨EqAt.none_list q hu0,RcAt.none_list q hu0,RcNeAt.none_list q hu0⟩
    .cases h
   | tup ys =>
    cases h;obtain ⟨b',vs',its',rfl,rfl,r1',rv',p'⟩:=wZ I R' ru';exact ⟨EqAt.none_tuple p' hu0,RcAt.none_tuple p' hu0,RcNeAt.none_tuple p' hu0⟩
   | non =>
    cases h;obtain rfl:=rep_non.mp R';obtain rfl:u'=.none:=ru';exact ⟨EqAt.same _,RcAt.none_none,RcNeAt.none_none⟩
   | bl c =>
    cases h;obtain rfl:=rep_bl.mp R';obtain rfl:u'=.bool c:=ru';exact ⟨EqAt.none_bool c,RcAt.none_bool c,RcNeAt.none_bool c⟩
   | int i =>
    cases h;obtain rfl:=rep_int.mp R';obtain ⟨t,rfl⟩:=ru';exact ⟨EqAt.none_int i t,RcAt.none_int i t,RcNeAt.none_int i t⟩
   | str x =>
    cases h;obtain rfl:=rep_str.mp R';obtain ⟨t,rfl⟩:=ru';exact ⟨EqAt.none_str _ t,RcAt.none_str _ t,RcNeAt.none_str _ t⟩
  | bl c =>
   obtain rfl:=rep_bl.mp R;obtain rfl:u=.bool c:=ru;cases w' with
   | rol ys=>cases h
   | ref l =>
    replace h:(if isLst m l && true then some false else none)=some r:=h
    split at h
    .rename_i hl;cases h;obtain ⟨b,its,rfl,q⟩:=isLst_of S I (Bool.and_eq_true_iff.mp hl).1 R' ru';exact ⟨EqAt.bool_list c q hu0,RcAt.bool_list c q hu0,RcNeAt.bool_list c q hu0⟩
    .cases h
   | tup ys =>
    cases h;obtain ⟨b',vs',its',rfl,rfl,r1',rv',p'⟩:=wZ I R' ru';exact ⟨EqAt.bool_tuple c p' hu0,RcAt.bool_tuple c p' hu0,RcNeAt.bool_tuple c p' hu0⟩
   | non =>
    cases h;obtain rfl:=rep_non.mp R';obtain rfl:u'=.none:=ru';exact ⟨EqAt.bool_none c,RcAt.bool_none c,RcNeAt.bool_none c⟩
   | bl d =>
    cases h;obtain rfl:=rep_bl.mp R';obtain rfl:u'=.bool d:=ru';exact ⟨EqAt.bool_bool c d,RcAt.bool_bool c d,RcNeAt.bool_bool c d⟩
   | int i =>
    cases h;obtain rfl:=rep_int.mp R';obtain ⟨t,rfl⟩:=ru';have e:decide (b2i c=i)=((if c then (1:Int) else 0) == i):=by
     show decide ((if c then (1:Int) else 0)=i)=_;rw[Bool.beq_eq_decide_eq]
    rw[e];exact ⟨EqAt.bool_int c i t,RcAt.bool_int c i t,RcNeAt.bool_int c i t⟩
   | str x =>
    cases h;obtain rfl:=rep_str.mp R';obtain ⟨t,rfl⟩:=ru';exact ⟨EqAt.bool_str c _ t,RcAt.bool_str c _ t,RcNeAt.bool_str c _ t⟩
  | int i =>
   obtain rfl:=rep_int.mp R;obtain ⟨t,rfl⟩:=ru;cases w' with
   | rol ys=>cases h
   | ref l =>
    replace h:(if isLst m l && true then some false else none)=some r:=h
    split at h
    .rename_i hl;cases h;obtain ⟨b,its,rfl,q⟩:=isLst_of S I (Bool.and_eq_true_iff.mp hl).1 R' ru';exact ⟨EqAt.int_list i t q hu0,RcAt.int_list i t q hu0,RcNeAt.int_list i t q hu0⟩
    .cases h
   | tup ys =>
    cases h;obtain ⟨b',vs',its',rfl,rfl,r1',rv',p'⟩:=wZ I R' ru';exact ⟨EqAt.int_tuple i t p' hu0,RcAt.int_tuple i t p' hu0,RcNeAt.int_tuple i t p' hu0⟩
   | non =>
    cases h;obtain rfl:=rep_non.mp R';obtain rfl:u'=.none:=ru';exact ⟨EqAt.int_none i t,RcAt.int_none i t,RcNeAt.int_none i t⟩
   | bl d =>
    cases h;obtain rfl:=rep_bl.mp R';obtain rfl:u'=.bool d:=ru';have e:decide (i=b2i d)=(i == (if d then (1:Int) else 0)):=by
     show decide (i=(if d then (1:Int) else 0))=_;rw[Bool.beq_eq_decide_eq]
    rw[e];exact ⟨EqAt.int_bool i t d,RcAt.int_bool i t d,RcNeAt.int_bool i t d⟩
   | int j =>
    cases h;obtain rfl:=rep_int.mp R';obtain ⟨t',rfl⟩:=ru';have e:decide (i=j)=(i == j):=by rw[Bool.beq_eq_decide_eq]
    rw[e];exact ⟨EqAt.int_int i t j t',RcAt.int_int i t j t',RcNeAt.int_int i t j t'⟩
   | str x =>
    cases h;obtain rfl:=rep_str.mp R';obtain ⟨t',rfl⟩:=ru';exact ⟨EqAt.int_str i t _ t',RcAt.int_str i t _ t',RcNeAt.int_str i t _ t'⟩
  | str x =>
   obtain rfl:=rep_str.mp R;obtain ⟨t,rfl⟩:=ru;cases w' with
   | rol ys=>cases h
   | ref l =>
    replace h:(if isLst m l && true then some false else none)=some r:=h
    split at h
    .rename_i hl;cases h;obtain ⟨b,its,rfl,q⟩:=isLst_of S I (Bool.and_eq_true_iff.mp hl).1 R' ru';exact ⟨EqAt.str_list _ t q hu0,RcAt.str_list _ t q hu0,RcNeAt.str_list _ t q hu0⟩
    .cases h
   | tup ys =>
    cases h;obtain ⟨b',vs',its',rfl,rfl,r1',rv',p'⟩:=wZ I R' ru';exact ⟨EqAt.str_tuple _ t p' hu0,RcAt.str_tuple _ t p' hu0,RcNeAt.str_tuple _ t p' hu0⟩
   | non =>
    cases h;obtain rfl:=rep_non.mp R';obtain rfl:u'=.none:=ru';exact ⟨EqAt.str_none _ t,RcAt.str_none _ t,RcNeAt.str_none _ t⟩
   | bl d =>
    cases h;obtain rfl:=rep_bl.mp R';obtain rfl:u'=.bool d:=ru';exact ⟨EqAt.str_bool _ t d,RcAt.str_bool _ t d,RcNeAt.str_bool _ t d⟩
   | int j =>
    cases h;obtain rfl:=rep_int.mp R';obtain ⟨t',rfl⟩:=ru';exact ⟨EqAt.str_int _ t j t',RcAt.str_int _ t j t',RcNeAt.str_int _ t j t'⟩
   | str y =>
    cases h;obtain rfl:=rep_str.mp R';obtain ⟨t',rfl⟩:=ru';have e:decide (x=y)=((⟨x.toArray⟩:Str) == ⟨y.toArray⟩):=by
     by_cases hxy:x=y
     .subst hxy;simp
     .have:¬(⟨x.toArray⟩:Str)=⟨y.toArray⟩:=λz=>by
       injection z with z
       exact hxy (by simpa using congrArg Array.toList z)
      rw[decide_eq_false hxy];exact (beq_eq_false_iff_ne.mpr this).symm
    rw[e];exact ⟨EqAt.str_str _ t _ t',RcAt.str_str _ t _ t',RcNeAt.str_str _ t _ t'⟩
end
end Mini
namespace L2
open PySem PySem.Spec PyProof.Rows PySem.SeqAt
section
variable {prog:Program}{w:World}{A:Around}{E:Value->Shared->Prop}{s:Shared}
theorem gD {i:Int}{t:Tok}{stored:List Value}{Q:Bool->Shared->Prop}(hst:∀v∈stored,∃k' b,v=.ref b/\IsTupleKey (intKind prog w) s.heap k' b)(h:Q false s):wpAny (model prog w) A (tableMayTell (.int i t) stored) Q E s:=by
 unfold tableMayTell;split
 .exact wpAny_pure h
 .rw[eqIsQuiet_byValue 8 (show carriedByValue (.int i t)=true from rfl)];refine wpAny_bind (wpAny_pure ?_);simp only[Bool.not_true,Bool.false_eq_true,if_false];refine wpAny_bind ?_;refine wpAny_forIn_list _ (λrest r s'=>s'=s/\r=(none,())/\∀v∈rest,∃k' b,v=.ref b/\IsTupleKey (intKind prog w) s.heap k' b) _ ?_ ?_ _ _ ⟨rfl,rfl,hst⟩
  .rintro v rest r s' ⟨rfl,rfl,hr⟩;obtain ⟨k',b,rfl,hk⟩:=hr v List.mem_cons_self;refine wpAny_bind (wpAny_eqIsQuiet_tuple hk ?_);simp only[Bool.not_true,Bool.false_eq_true,if_false];exact wpAny_pure ⟨rfl,rfl,λv hv=>hr v (List.mem_cons_of_mem _ hv)⟩
  .rintro r s' ⟨rfl,rfl,_⟩;exact wpAny_pure h
theorem zcz {d:Addr}{o:Obj}{es:Array DictEntry}{ep:Nat}{xs:List TK}{i:Int}{t:Tok}{Q:Option Nat->Shared->Prop}(hu:A.units < cLine)(ho:s.heap.get? d=some o)(hd:o.data=.dict es ep)(he:es.toList=xs.map zav)(his:∀x∈xs,IsTupleKey (intKind prog w) s.heap x.1 x.2.1)(h:Q none s):
  wpAny (model prog w) A (dictFind d (.int i t) (hashInt i)) Q E s:=by
 have hmem:∀e∈es,∃x∈xs,e=zav x:=by
  intro e hin;have:e∈xs.map zav:=he▸Array.mem_toList_iff.mpr hin;obtain ⟨x,hx,rfl⟩:=List.mem_map.mp this;exact ⟨x,hx,rfl⟩
 have hst:∀v∈(placesWithHash es.size (λi=>es[i]?.map (·.hash)) (hashInt i)).filterMap (λi=>es[i]?.map (·.key)),∃k' b,v=.ref b/\IsTupleKey (intKind prog w) s.heap k' b:=by
  intro v hv;obtain ⟨j,_,hi⟩:=List.mem_filterMap.mp hv;cases hei:es[j]? with
  | none=>rw[hei] at hi;cases hi
  | some e =>
   rw[hei] at hi;obtain rfl:e.key=v:=by simpa using hi
   obtain ⟨x,hx,rfl⟩:=hmem e (Array.mem_of_getElem? hei);exact ⟨x.1,x.2.1,rfl,his x hx⟩
 have hne:∀ (e:DictEntry),e∈es->∀ (Q:Bool->Shared->Prop),Q false s->wpAny (model prog w) A (eqBool e.key (.int i t)) Q E s:=by
  intro e hin Q q;obtain ⟨x,hx,rfl⟩:=hmem e hin;obtain ⟨ob,items,n,h1,h2,h3,_⟩:=his x hx;exact EqAt.tuple_int i t (show s.heap.IsTuple x.2.1 items from ⟨ob,h1,h2,n,h3⟩) hu prog w E Q q
 unfold dictFind
 try with_reducible refine wpAny_holding ?_
 refine wpAny_bind (wpAny_dictEntries ho hd ?_);dsimp only;by_cases hall:((Value.int i t::(placesWithHash es.size (λi=>es[i]?.map (·.hash)) (hashInt i)).filterMap (λi=>es[i]?.map (·.key))).all carriedByValue)=true
 .rw[if_pos hall];unfold dictWalkPlain;refine wpAny_bind ?_;refine wpAny_forIn_list _ (λ_ b s'=>s'=s/\b=(none,())) _ ?_ ?_ _ _ ⟨rfl,rfl⟩
  .rintro x rest b s' ⟨rfl,rfl⟩;cases hex:es[x]? with
   | none=>exact wpAny_pure ⟨rfl,rfl⟩
   | some e =>
    dsimp only;by_cases hh:(e.hash == hashInt i)=true
    .rw[if_pos hh];refine wpAny_bind (wpAny_dictEpoch ho hd (wpAny_bind (hne e (Array.mem_of_getElem? hex) _ (wpAny_bind (wpAny_dictEpoch ho hd ?_)))));show wpAny _ _ (if (ep != ep)=true then _ else _) _ E _;rw[if_neg (by simp)];simp only[Bool.false_eq_true,if_false];refine wpAny_bind (wpAny_rule ?_);exact wpAny_pure ⟨rfl,rfl⟩
    .rw[if_neg hh];exact wpAny_pure ⟨rfl,rfl⟩
  .rintro b s' ⟨rfl,rfl⟩;exact wpAny_pure h
 .rw[if_neg hall];have hone:¬(((placesWithHash es.size (λi=>es[i]?.map (·.hash)) (hashInt i)).filterMap (λi=>es[i]?.map (·.key))) == [Value.int i t])=true:=by
   intro z;have z:=eq_of_beq z;obtain ⟨_,b,e,_⟩:=hst (.int i t) (by rw[z];simp);cases e
  rw[if_neg hone];refine wpAny_bind (gD hst ?_);rw[if_neg (by simp)];refine wpAny_bind ?_;refine wpAny_forIn_list _ (λ_ b s'=>s'=s/\b=(none,none)) _ ?_ ?_ _ _ ⟨rfl,rfl⟩
  .rintro x rest b s' ⟨rfl,rfl⟩;cases hex:es[x]? with
   | none=>exact wpAny_pure ⟨rfl,rfl⟩
   | some e =>
    dsimp only;by_cases hh:(e.hash == hashInt i)=true
    .rw[if_pos hh];refine wpAny_bind (wpAny_dictEpoch ho hd (wpAny_bind (hne e (Array.mem_of_getElem? hex) _ (wpAny_bind (wpAny_dictEpoch ho hd ?_)))));show wpAny _ _ (if (ep != ep)=true then _ else _) _ E _;rw[if_neg (by simp)];simp only[Bool.false_eq_true,if_false];refine wpAny_bind (wpAny_rule ?_)
     first
      | exact wpAny_pure ⟨rfl,rfl⟩
      | (rw[if_neg (by simp)];exact wpAny_pure ⟨rfl,rfl⟩)
      | exact wpAny_bind (wpAny_pure (wpAny_pure ⟨rfl,rfl⟩))
    .rw[if_neg hh];exact wpAny_pure ⟨rfl,rfl⟩
  .rintro b s' ⟨rfl,rfl⟩;exact wpAny_pure h
theorem zgH {d:Addr}{xs:List TK}{i:Int}{t:Tok}{Q:Value->Shared->Prop}(hu:A.units+1 < cLine)(hd:(d == sysModules)=false)(hm:s.heap.DictOfH (tupleKind (intKind prog w)) d xs)(h:Q (.bool false) { s with toks:=s.toks+1 }):
  wpAny (model prog w) A (compareOp .In (.int i t) (.ref d)) Q E s:=by
 show wpAny _ _ (do return .bool (<- contains (.ref d) (.int i t))) Q E s;refine wpAny_bind ?_;unfold contains
 try with_reducible refine wpAny_holding ?_
 refine wpAny_bind (wpAny_specialOf hm.typeIs slot_dict_contains.lookup ?_);show wpAny _ _ (if (some (Value.builtin "dict.__contains__") == some Value.none)=true then _ else _) _ E s;rw[if_neg (by rw[beq_builtin_none];exact Bool.false_ne_true)];refine wpAny_bind (wpAny_callSpecialUnlessNone?_slot (name:=Str.ofString "__contains__") hm.typeIs slot_dict_contains
  (wpAny_call_entry slot_dict_contains hm.typeIs entry_dict_contains ?_ (args_dict_contains _ _)))
 obtain ⟨o,es,ep,ho,_,hdd,he,his,hn⟩:=id hm;show wpAny _ _ (dictGet d (.int i t) >>= _) _ _ s;refine wpAny_bind ?_;unfold dictGet
 try with_reducible refine wpAny_holding ?_
 refine wpAny_bind (wpAny_pyHash_int (wpAny_bind (zcz (s:={ s with toks:=s.toks+1 }) (xs:=xs) (by show A.units+1 < cLine;lia) ho hdd he his ?_)));refine wpAny_pure ?_;show wpAny _ _ (Builtin.Dict.pendingKey? d (.int i t) >>= _) _ _ _;exact wpAny_bind (wpAny_pendingKey_other hd (wpAny_pure ⟨_,rfl,wpAny_truthy_bool (wpAny_pure h)⟩))
end
section
variable {X:Cx}{pins:List (Addr×Obj)}{σ:St}{H:Hp}{s:Shared}
def zis (K:PySem.W.Frag):R2:=λx y H Q=>∃d xs,y=.ref d/\zax K H d xs/\((∃i,x=.int i/\Q (.bl false) H)\/∃a ks,x=.ref a/\SqT K H a (ks.map V.int)/\Q (.bl (atKey xs ks).isSome) H)
theorem zgI (hu:X.A.units+64 < cLine):OpR X (compareOp .In) (zis X.K):=by
 intro pins s σ H x y v u Q I rx ry h;obtain ⟨d,xs,rfl,hd,h⟩:=h;cases ry;obtain ⟨d0,dm⟩:=gA I hd;rcases h with ⟨i,rfl,q⟩ | ⟨a,ks,rfl,hk,q⟩
 .obtain ⟨t,rfl⟩:=rx;exact zgH (by lia) d0 dm ⟨.bl false,H,I.tok _,rfl,q⟩
 .cases rx;exact wpAny_in_heap (knd:=tupleKind (intKind X.prog X.w)) (by show X.A.units+1 < cLine;lia) (zay I hk) d0 dm ⟨.bl (atKey xs ks).isSome,H,I.tok _,rfl,q⟩
end
end L2
namespace Mini
open PySem PySem.Spec PyProof.Rows L2
section
variable {K:PySem.W.Frag}{as:List Addr}{H:Hp}{m:Me}{Q:VK}
theorem js:∀ {ws:List Wd}{k:List Int}{vs:List V},xB ws=some k->RepL K as H ws vs->vs=k.map V.int
 | [],k,vs,h,r=>by cases h;rw[repL_nil.mp r];rfl
 | w::ws,k,vs,h,r=>by
  cases w with
  | int i =>
   have h':(xB ws).map (i::·)=some k:=h;obtain ⟨k',e,rfl⟩:=Option.map_eq_some_iff.mp h';obtain ⟨v,r',rfl,q,t⟩:=repL_cons.mp r;rw[rep_int.mp q,js e t];rfl
  | _=>cases h
theorem zgJ {l:Nat}{ks:List (List Int)}{ws:List Wd}(S:Sim K as m H)(hm:m[l]?=some (.dct ks ws)):∃a xs vs,as[l]?=some a/\zax K H a xs/\xs.map (·.1)=ks/\RepL K as H ws vs/\Vals vs (xs.map (·.2.2))/\ks.Nodup:=by
 obtain ⟨a,ha,xs,vs,r⟩:=S.get hm;exact ⟨a,xs,vs,ha,r⟩
theorem zbp {xs:List TK}{q:List Int}:(atKey xs q).isSome=true↔q∈xs.map (·.1):=by
 unfold atKey;rw[Option.isSome_map,List.find?_isSome];simp only[List.mem_map,decide_eq_true_eq]
theorem zgK {x y:Wd}{v u:V}{b:Bool}(S:Sim K as m H)(R:Rep K as H x v)(R':Rep K as H y u)(h:inK m x y=some b)(q:Q (.bl b) H):zis K v u H Q:=by
 unfold inK at h;cases y with
 | ref l =>
  obtain ⟨a,ha,rfl⟩:=rep_ref.mp R';dsimp only at h;cases e:m[l]? with
  | none=>rw[e] at h;cases h
  | some o =>
   cases o with
   | lst ys=>rw[e] at h;cases h
   | dct ks ws =>
    rw[e] at h;dsimp only at h;obtain ⟨a',xs,vs,ha',td,rfl,_⟩:=zgJ S e;rw[ha] at ha';cases ha';refine ⟨a,xs,rfl,td,?_⟩;cases x with
    | int i=>cases h;exact .inl ⟨i,rep_int.mp R,q⟩
    | tup us =>
     obtain ⟨k,hk,rfl⟩:=Option.map_eq_some_iff.mp h;obtain ⟨c,vs,rfl,sq,r⟩:=rep_tup.mp R;rw[js hk r] at sq;refine .inr ⟨c,k,rfl,sq,?_⟩;rw[show (atKey xs k).isSome=decide (k∈xs.map (·.1)) from by
      rw[Bool.eq_iff_iff,zbp,decide_eq_true_eq]]
     exact q
    | _=>cases h
 | _=>cases h
end
end Mini
namespace Mini
open PySem PySem.Spec PyProof.Rows L2
open PySem.SeqAt
noncomputable def cK:Co->CmpOp
 | .eq=>.Eq | .ne=>.NotEq | .lt=>.Lt | .le=>.LtE | .gt=>.Gt | .ge=>.GtE | .notN=>.IsNot | .isin=>.In 
def rC (K:PySem.W.Frag)(op:Co):R2:=λx y H Q=>∃as m w w',Sim K as m H/\Rep K as H w x/\Rep K as H w' y/\Post K as H Q (cop op w w' m)
section
variable {X:Cx}
theorem kH {K:PySem.W.Frag}{as:List Addr}{H:Hp}{m:Me}{Q:VK}{o:Option Bool}(S:Sim K as m H)(h:Post K as H Q (ofB o m)):∃b,o=some b/\Q (.bl b) H:=by
 cases o with
 | none=>exact h.elim
 | some b=>exact ⟨b,rfl,h.ok S (rep_bl.mpr rfl)⟩
theorem zaA {p:Wd->Wd->Option Bool}{x:Wd}:∀ {ys:List Wd}{r:Bool},inL p x ys=some r ->
  ∃f:Wd->Bool,(∀y∈ys,p y x=some (f y))/\r=ys.any f
 | [],r,h=>by cases h;exact ⟨λ_=>false,λy hy=>by simp at hy,rfl⟩
 | y::ys,r,h=>by
  unfold inL at h;cases hp:p y x with
  | none=>rw[hp] at h;cases h
  | some b =>
   rw[hp] at h;simp only[] at h;cases hr:inL p x ys with
   | none=>rw[hr] at h;cases h
   | some r' =>
    rw[hr] at h;cases h;obtain ⟨f,hf,rfl⟩:=zaA hr
    classical
    refine ⟨λz=>(p z x).getD false,λz hz=>?_,?_⟩
    .rcases List.mem_cons.mp hz with rfl | hz
     .simp only[hp,Option.getD_some]
     .simp only[hf z hz,Option.getD_some]
    .rw[List.any_cons,hp];congr 1;refine Bool.eq_iff_iff.mpr ?_;rw[List.any_eq_true,List.any_eq_true];constructor
     .rintro ⟨z,hz,e⟩;exact ⟨z,hz,by rw[hf z hz];exact e⟩
     .rintro ⟨z,hz,e⟩;rw[hf z hz] at e;exact ⟨z,hz,e⟩
theorem gE {pins:List (Addr×Obj)}{σ:St}{s:Shared}{as:List Addr}{H:Hp}{m:Me}{A:Around}(I:Inv X pins σ H s)(S:Sim X.K as m H)(hu:A.units+yT < cLine){w:Wd}{v:V}{u:Value}{ys:List Wd}{vs:List V}{its:List Value}{r:Bool}
  (R:Rep X.K as H w v) (ru:RelV v u) (ry:RepL X.K as H ys vs) (rv:Vals vs its) (h:inL (eqW m yT) w ys=some r) :
  ∃e:Value->Bool,(∀y,y∈its.toArray->EqAt A s y u (e y))/\its.toArray.any e=r:=by
 obtain ⟨f,hf,rfl⟩:=zaA h
 classical
 -- the plain value of an item
 have pick:∀y,y∈its->∃z,z∈ys/\∃vz,Rep X.K as H z vz/\RelV vz y:=λy hy=>by
  obtain ⟨j,hj,rfl⟩:=List.mem_iff_getElem.mp hy;have l1:=ry.length;have l2:=rv.length;have hj1:j < vs.length:=by lia
  obtain ⟨u1,e1,q1⟩:=rv.get (i:=j) (x:=vs[j]) (by simp[hj1]);obtain ⟨z,e2,q2⟩:=ry.back (i:=j) (v:=vs[j]) (by simp[hj1]);obtain ⟨_,e3⟩:=List.getElem?_eq_some_iff.mp e1;exact ⟨z,List.mem_of_getElem? e2,vs[j],q2,by rw[e3];exact q1⟩
 let e:Value->Bool:=λy=>if hy:y∈its then f (Classical.choose (pick y hy)) else false
 have he:∀y (hy:y∈its) z vz,z∈ys->Rep X.K as H z vz->RelV vz y->e y=f z:=λy hy z vz hz hr hq=>by
  obtain ⟨h1,vz',h2,h3⟩:=Classical.choose_spec (pick y hy);have:e y=f (Classical.choose (pick y hy)):=dif_pos hy;rw[this];have hv:vz'=vz:=h3.inj hq;subst hv;rw[v7 I S _ _ _ h2 hr]
 refine ⟨e,λy hy=>?_,?_⟩
 .have hy':y∈its:=by simpa using hy
  obtain ⟨z,hz,vz,q1,q2⟩:=pick y hy';rw[he y hy' z vz hz q1 q2];exact (zaz I S yT A z w vz v y u (f z) hu (hf z hz) q1 R q2 ru).it
 .refine Bool.eq_iff_iff.mpr ?_;rw[List.any_toArray,List.any_eq_true,List.any_eq_true];constructor
  .rintro ⟨y,hy,ey⟩;obtain ⟨z,hz,vz,q1,q2⟩:=pick y hy;rw[he y hy z vz hz q1 q2] at ey;exact ⟨z,hz,ey⟩
  .rintro ⟨z,hz,ez⟩;obtain ⟨j,hj,rfl⟩:=List.mem_iff_getElem.mp hz;obtain ⟨v1,e1,q1⟩:=ry.get (i:=j) (x:=ys[j]) (by simp[hj]);obtain ⟨u1,e2,q2⟩:=rv.get e1;have hy:u1∈its:=List.mem_of_getElem? e2;exact ⟨u1,hy,by rw[he u1 hy ys[j] v1 (List.getElem_mem hj) q1 q2];exact ez⟩
set_option tactic.hygienic true in
theorem jt (hu:X.A.units+64 < cLine)(op:Co):OpR X (compareOp (cK op)) (rC X.K op):=by
 intro pins s σ H x y v u Q I rx ry h;obtain ⟨as,m,w,w',S,R,R',q⟩:=h;have hd:yT=12:=rfl;have fin:∀ {b:Bool},Q (.bl b) H->EP X pins σ Q (.bool b) s:=λ{b} q=>⟨.bl b,H,I,rfl,q⟩;have cmpI:∀ {r:Int->Int->Bool},Post X.K as H Q (kE r w w' m)->∃i j,x=.int i/\y=.int j/\Q (.bl (r i j)) H:=λ{r} q=>by
  unfold kE at q;cases w with
  | int i =>
   cases w' with
   | int j=>exact ⟨i,j,rep_int.mp R,rep_int.mp R',q.ok S (rep_bl.mpr rfl)⟩
   | _=>exact q.elim
  | _=>exact q.elim
 cases op with
 | eq =>
  obtain ⟨b,hb,q⟩:=kH S q;exact (zaz I S yT X.A w w' x y v u b (by lia) hb R R' rx ry).eq X.prog X.w X.xe _ (fin q)
 | ne =>
  obtain ⟨b,hb,q⟩:=kH S q;obtain ⟨c,hc,rfl⟩:=Option.map_eq_some_iff.mp hb;exact (zaz I S yT X.A w w' x y v u c (by lia) hc R R' rx ry).ne X.prog X.w X.xe _ (fin q)
 | isin =>
  simp only[cop] at q;split at q
  .rename_i ys hs;obtain ⟨b,hb,q⟩:=kH S q;obtain ⟨p,vs,rfl,hq,r⟩:=jQ S R' hs;obtain rfl:u=.ref p:=ry;rcases hq with hq | hq
   .obtain ⟨its,rv,pl,_⟩:=I.list hq;obtain ⟨e,he,rfl⟩:=gE (A:=X.A.in1) I S (by show X.A.units+1+yT < cLine;lia) R rx r rv hb;exact in_listAt e pl.isList he (fin q)
   .obtain ⟨its,rv,pl,_⟩:=I.tuple hq;obtain ⟨e,he,rfl⟩:=gE (A:=X.A.in1) I S (by show X.A.units+1+yT < cLine;lia) R rx r rv hb;exact in_tupleAt e (show s.heap.IsTuple p its.toArray from pl) he (fin q)
  .obtain ⟨b,hb,q⟩:=kH S q;exact zgI hu pins s σ H x y v u Q I rx ry (zgK S R R' hb q)
 | notN =>
  refine zei pins s σ H x y v u Q I rx ry ?_;simp only[cop] at q;split at q
  .exact ⟨rep_non.mp R',by rw[rep_non.mp R];exact q.ok S (rep_bl.mpr rfl)⟩
  .rename_i hne;refine ⟨rep_non.mp R',?_⟩;have:x≠.non:=λz=>by
    subst z;exact hne (v7 I S _ _ _ R (rep_non.mpr rfl))
   rw[decide_eq_false this];exact q.ok S (rep_bl.mpr rfl)
  .exact q.elim
 | lt=>exact zh7 pins s σ H x y v u Q I rx ry (cmpI q)
 | le=>exact zh8 pins s σ H x y v u Q I rx ry (cmpI q)
 | gt=>exact zh9 pins s σ H x y v u Q I rx ry (cmpI (r:=λi j=>decide (j < i)) q)
 | ge=>exact zia pins s σ H x y v u Q I rx ry (cmpI (r:=λi j=>decide (j<=i)) q)
end
end Mini
namespace L2
open PySem PySem.Spec PyProof.Rows
section
variable {X:Cx}
def rIns:V->List V->Hp->VK->Prop:=λx vs H Q=>∃l xs y,x=.ref l/\vs=[.int 0,y]/\H l=some (.lst xs)/\xs.length < sizeLine/\Q .non (upd H l (.lst (y::xs)))
theorem zgL:MtM X "list.insert" rIns:=by
 intro pins s σ H x vs v us Q I rx rv h;obtain ⟨l,xs,y,rfl,rfl,hH,hz,q⟩:=h;cases rx;obtain ⟨u0,u,rfl,ru0,ru⟩:∃u0 u,us=[u0,u]/\RelV (.int 0) u0/\RelV y u:=by
  cases rv with
  | cons a r =>
   cases r with
   | cons b r=>cases r;exact ⟨_,_,rfl,a,b⟩
 obtain ⟨t,rfl⟩:=ru0;obtain ⟨z,its,n,r,hl,e⟩:=I.lstM hH;refine call_meets F.slot_list_insert ⟨_,e,rfl⟩ F.entry_list_insert (F.args_list_insert_3 _ _ _) (AutoListH.list_insert_list_int_val_1 l its.toArray n 0 t u (by decide) (by rw[List.size_toArray];lia)) ⟨e,?_⟩;refine ⟨.non,_,I.lset (its':=u::its) hH e ?_ (.cons ru r) ?_,rfl,q⟩
 .simp
 .rw[List.length_cons];lia
end
section
variable {O:KeyOrd}{key:Keyed->O.α}
def Le (O:KeyOrd)(key:Keyed->O.α)(x y:Keyed):Prop:=O.kle (key x) (key y)
def Srt (O:KeyOrd)(key:Keyed->O.α)(l:List Keyed):Prop:=l.Pairwise (Le O key)
theorem Le.trans {x y z:Keyed}(h1:Le O key x y)(h2:Le O key y z):Le O key x z:=KeyOrd.kle_trans h1 h2
structure MI (O:KeyOrd)(key:Keyed->O.α)(X Y:List Keyed)(ia ib:Nat)(L:List Keyed):Prop where
 ha:ia<=X.length
 hb:ib<=Y.length
 pm:L.Perm (X.take ia++Y.take ib)
 so:Srt O key L
 la:∀z∈L,∀x∈X.drop ia,Le O key z x
 lb:∀z∈L,∀y∈Y.drop ib,Le O key z y
variable {X Y L:List Keyed}{ia ib:Nat}
end
section
variable {O:KeyOrd}{key:Keyed->O.α}
structure MH (O:KeyOrd)(key:Keyed->O.α)(X Y:List Keyed)(na nb:Nat)(L:List Keyed):Prop where
 ha:na<=X.length
 hb:nb<=Y.length
 pm:L.Perm (X.drop na++Y.drop nb)
 so:Srt O key L
 la:∀z∈L,∀x∈X.take na,Le O key x z
 lb:∀z∈L,∀y∈Y.take nb,Le O key y z
variable {X Y L:List Keyed}{na nb:Nat}
end
section
variable {O:KeyOrd}{key:Keyed->O.α}{S:Keyed->Prop}
structure Ok (O:KeyOrd)(key:Keyed->O.α)(S:Keyed->Prop)(st:SortSt)(pend:List (Nat×Nat×Nat))(l:List Keyed):Prop where
 kind:kindOf st=oneType'
 failed:failedOf st=none
 pend:(pendingOf st).toList=pend
 arr:(arrOf st).toList=l
 all:∀x∈l,S x
end
noncomputable def zbq (ns:List Int):List Int:=ns.mergeSort λa b=>decide (a<=b)
theorem ju (ns:List Int):(zbq ns).Perm ns:=List.mergeSort_perm _ _
theorem gF (ns:List Int):(zbq ns).Pairwise (·<=·):=by
 have:=List.pairwise_mergeSort (le:=λa b:Int=>decide (a<=b)) (λa b c h1 h2=>by simp only[decide_eq_true_eq] at *;lia) (λa b=>by simp only[Bool.or_eq_true,decide_eq_true_eq];lia) ns;exact this.imp λh=>of_decide_eq_true h
theorem zeA {ns ms:List Int}(h:ms.Perm ns)(hs:ms.Pairwise (·<=·)):zbq ns=ms :=
 List.Perm.eq_of_pairwise (le:=λa b:Int=>a<=b) (λa b _ _ h1 h2=>by lia) (gF ns) hs ((ju ns).trans h.symm)
theorem gG:∀ {ns:List Int}{its:List Value},Vals (ns.map V.int) its->IntsAre its ns
 | [],_,.nil=>.nil
 | n::ns,_,.cons r t=>by
  obtain ⟨k,rfl⟩:=(r:∃t,_=Value.int n t);exact .cons _ _ (gG t)
theorem gH:∀ {ns:List Int}{its:List Value},IntsAre its ns->Vals (ns.map V.int) its
 | _,_,.nil=>.nil
 | _,_,.cons _ _ t=>.cons ⟨_,rfl⟩ (gH t)
section
variable {X:Cx}
theorem qM:CallR X (.builtin "sorted") (λxs H Q=>∃ (p:Addr) (ns:List Int),xs=[.ref p]/\SqL X.K H p (ns.map V.int)/\ns.length < 64/\∀l,H l=none->Q (.ref l) (upd H l (.lst ((zbq ns).map V.int)))):=by
 intro pins s σ H xs us Q I r h;obtain ⟨p,ns,rfl,hq,h64,q⟩:=h;obtain ⟨u,rfl,rx⟩:=vP r;cases rx;obtain ⟨its,r',pl,hz⟩:=I.list hq;have hlen:=r'.length;rw[List.length_map] at hlen;refine sorted_ints pl.isList (gG r') (by lia) λout ns' h1 h2 h3=>?_;obtain ⟨e,he⟩:=sortedAll_at s.heap its out;have e1:zbq ns=ns':=zeA h2 h3;refine ⟨.ref (s.heap.objs.size+1),_,I.laid (a:=s.heap.objs.size+1) (t':=s.toks) (λb o hb=>sortedAll_old hb) (by lia) (show ObjOk X.prog X.w _ _ _ (.lst ((zbq ns).map V.int)) from ⟨?_,out.toList,e,?_,?_⟩),rfl,q _ (I.hok.fresh (by lia))⟩
 .rw[List.length_map,(ju ns).length_eq];have:(64:Nat)<=sizeLine:=by decide
  lia
 .rw[e1];exact gH h1
 .exact he
end
end L2
namespace Mini
open PySem PySem.Spec PyProof.Rows L2
section
variable {K:PySem.W.Frag}{as:List Addr}{H:Hp}{m:Me}{Q:VK}{X:Cx}
noncomputable def zeB:Blf->Option (Str×Value)
 | .len=>some ("len",.builtin "len")
 | .int=>some ("int",.type "int")
 | .list=>some ("list",.type "list")
 | .abs=>some ("abs",.builtin "abs")
 | .max2=>some ("max",.builtin "max")
 | .sum=>some ("sum",.builtin "sum")
 | .all=>some ("all",.builtin "all")
 | .sortI=>some ("sorted",.builtin "sorted")
def rBl (K:PySem.W.Frag)(b:Blf):List V->Hp->VK->Prop:=λvs H Q=>∃as m ws,Sim K as m H/\RepL K as H ws vs/\Post K as H Q (jO b ws m)
theorem xE {x:Wd}{vs:List V}(h:RepL K as H [x] vs):∃v,vs=[v]/\Rep K as H x v:=by
 obtain ⟨v,r,rfl,q,t⟩:=repL_cons.mp h;obtain rfl:=repL_nil.mp t;exact ⟨v,rfl,q⟩
theorem qN {x y:Wd}{vs:List V}(h:RepL K as H [x,y] vs):∃v u,vs=[v,u]/\Rep K as H x v/\Rep K as H y u:=by
 obtain ⟨v,r,rfl,q,t⟩:=repL_cons.mp h;obtain ⟨u,rfl,q'⟩:=xE t;exact ⟨v,u,rfl,q,q'⟩
theorem zcA {w:Wd}{v:V}{xs:List Wd}(S:Sim K as m H)(R:Rep K as H w v)(h:jf m w=some xs):∃p vs,v=.ref p/\SqL K H p vs/\RepL K as H xs vs:=by
 cases w with
 | rol ys =>
  cases h;obtain ⟨a,vs,rfl,hq,rr⟩:=rep_rol.mp R;exact ⟨a,vs,rfl,hq.sq,rr⟩
 | ref l =>
  obtain ⟨b,hb,rfl⟩:=rep_ref.mp R;obtain ⟨a,vs,ha,e,r⟩:=yt S (zX h);rw[hb] at ha;cases ha;exact ⟨b,vs,rfl,SqL.of e,r⟩
 | _=>cases h
theorem zaB:∀ {xs:List Wd}{vs:List V}{i:Int},RepL K as H xs vs->qI xs=some i->∃ns:List Int,vs=ns.map V.int/\ns.sum=i
 | [],vs,i,R,h=>by cases h;exact ⟨[],repL_nil.mp R,rfl⟩
 | x::xs,vs,i,R,h=>by
  obtain ⟨v,r,rfl,q,t⟩:=repL_cons.mp R;cases x with
  | int j =>
   simp only[qI,Option.map_eq_some_iff] at h;obtain ⟨k,hk,rfl⟩:=h;obtain ⟨ns,rfl,rfl⟩:=zaB t hk;obtain rfl:=rep_int.mp q;exact ⟨j::ns,rfl,by simp⟩
  | _=>cases h
theorem zaC:∀ {xs:List Wd}{vs:List V}{i:Bool},RepL K as H xs vs->qJ xs=some i->∃bs:List Bool,vs=bs.map V.bl/\bs.all id=i
 | [],vs,i,R,h=>by cases h;exact ⟨[],repL_nil.mp R,rfl⟩
 | x::xs,vs,i,R,h=>by
  obtain ⟨v,r,rfl,q,t⟩:=repL_cons.mp R;cases x with
  | bl j =>
   simp only[qJ,Option.map_eq_some_iff] at h;obtain ⟨k,hk,rfl⟩:=h;obtain ⟨ns,rfl,rfl⟩:=zaC t hk;obtain rfl:=rep_bl.mp q;exact ⟨j::ns,rfl,by simp⟩
  | _=>cases h
theorem zaD {o:Option (List Wd)}{f:(List Wd)->Rz}(h:Post K as H Q (match o with | some a=>f a | none=>.no)):∃a,o=some a/\Post K as H Q (f a):=by
 cases o with
 | none=>exact h.elim
 | some a=>exact ⟨a,rfl,h⟩
theorem zeC {o:Option Int}{f:Int->Rz}(h:Post K as H Q (match o with | some a=>f a | none=>.no)):∃a,o=some a/\Post K as H Q (f a):=by
 cases o with
 | none=>exact h.elim
 | some a=>exact ⟨a,rfl,h⟩
theorem zeD {o:Option Bool}{f:Bool->Rz}(h:Post K as H Q (match o with | some a=>f a | none=>.no)):∃a,o=some a/\Post K as H Q (f a):=by
 cases o with
 | none=>exact h.elim
 | some a=>exact ⟨a,rfl,h⟩
theorem jv:∀ (l:List Int),RepL K as H (l.map Wd.int) (l.map V.int)
 | []=>repL_nil.mpr rfl
 | n::l=>repL_cons.mpr ⟨_,_,rfl,rep_int.mpr rfl,jv l⟩
theorem gI:∀ {xs:List Wd}{vs:List V}{k:List Int},RepL K as H xs vs->xB xs=some k->vs=k.map V.int
 | [],vs,k,R,h=>by cases h;exact repL_nil.mp R
 | x::xs,vs,k,R,h=>by
  obtain ⟨v,r,rfl,q,t⟩:=repL_cons.mp R;cases x with
  | int j =>
   have h':(xB xs).map (j::·)=some k:=h;obtain ⟨k',hk,rfl⟩:=Option.map_eq_some_iff.mp h';rw[gI t hk,rep_int.mp q];rfl
  | _=>cases h
set_option tactic.hygienic true in
theorem zcB (hu:X.A.units+64 < cLine)(hc:X.calm=true){b:Blf}{nm:Str}{f:Value}(hb:zeB b=some (nm,f)):CallR X f (rBl X.K b):=by
 intro pins s σ H xs us Q I r h;obtain ⟨as,m,ws,S,R,q⟩:=h;cases b with
 | len =>
  cases hb;refine jL pins s σ H xs us Q I r ?_;rcases ws with _ | ⟨x,_ | ⟨_,_⟩⟩
  .exact q.elim
  .obtain ⟨ys,hs,q⟩:=zaD (o:=xA m x) (f:=λys=>.ok (.int ys.length) m) q;obtain ⟨v,rfl,q1⟩:=xE R;obtain ⟨p,vs,rfl,hq,rr⟩:=jQ S q1 hs;refine ⟨p,vs,rfl,hq,?_⟩;rw[<- rr.length];exact q.ok S (rep_int.mpr rfl)
  .exact q.elim
 | int =>
  cases hb;refine zbe pins s σ H xs us Q I r ?_;cases ws with
  | nil=>exact q.elim
  | cons x ws =>
   cases x with
   | int i =>
    cases ws with
    | nil =>
     obtain ⟨v,rfl,q1⟩:=xE R;obtain rfl:=rep_int.mp q1;exact .inl ⟨i,rfl,q.ok S (rep_int.mpr rfl)⟩
    | cons _ _=>exact q.elim
   | bl i =>
    cases ws with
    | nil =>
     obtain ⟨v,rfl,q1⟩:=xE R;obtain rfl:=rep_bl.mp q1;exact .inr ⟨i,rfl,q.ok S (rep_int.mpr rfl)⟩
    | cons _ _=>exact q.elim
   | _=>exact q.elim
 | list =>
  cases hb;refine jM pins s σ H xs us Q I r ?_;rcases ws with _ | ⟨x,_ | ⟨_,_⟩⟩
  .exact q.elim
  .obtain ⟨ys,hs,q⟩:=zaD (o:=xA m x) (f:=λys=>alloc m ys) q;obtain ⟨v,rfl,q1⟩:=xE R;obtain ⟨p,vs,rfl,hq,rr⟩:=jQ S q1 hs;exact ⟨p,vs,rfl,hq,(xD S rr q).2⟩
  .exact q.elim
 | abs =>
  cases hb;refine zck pins s σ H xs us Q I r ?_;cases ws with
  | nil=>exact q.elim
  | cons x ws =>
   cases x with
   | int i =>
    cases ws with
    | nil =>
     obtain ⟨v,rfl,q1⟩:=xE R;obtain rfl:=rep_int.mp q1;exact ⟨i,rfl,q.ok S (rep_int.mpr rfl)⟩
    | cons _ _=>exact q.elim
   | _=>exact q.elim
 | sortI =>
  cases hb;refine qM pins s σ H xs us Q I r ?_;rcases ws with _ | ⟨x,_ | ⟨_,_⟩⟩
  .exact q.elim
  .replace q:Post X.K as H Q (match (jf m x).bind xB with
    | some k=>if k.length < 64 then alloc m ((zbn k).map Wd.int) else .no
    | none=>.no):=q
   cases hs:(jf m x).bind xB with
   | none=>rw[hs] at q;exact q.elim
   | some k =>
    rw[hs] at q;by_cases h64:k.length < 64
    .replace q:Post X.K as H Q (if k.length < 64 then alloc m ((zbn k).map Wd.int) else .no):=q
     rw[if_pos h64] at q;obtain ⟨ys,h1,h2⟩:=Option.bind_eq_some_iff.mp hs;obtain ⟨v,rfl,q1⟩:=xE R;obtain ⟨p,vs,rfl,hq,rr⟩:=zcA S q1 h1;obtain rfl:=gI rr h2;exact ⟨p,k,rfl,hq,h64,(xD S (jv _) q).2⟩
    .replace q:Post X.K as H Q (if k.length < 64 then alloc m ((zbn k).map Wd.int) else .no):=q
     rw[if_neg h64] at q;exact q.elim
  .exact q.elim
 | sum =>
  cases hb;refine gz hc pins s σ H xs us Q I r ?_;rcases ws with _ | ⟨x,_ | ⟨_,_⟩⟩
  .exact q.elim
  .obtain ⟨i,hs,q⟩:=zeC (o:=(jf m x).bind qI) (f:=λi=>.ok (.int i) m) q;obtain ⟨ys,h1,h2⟩:=Option.bind_eq_some_iff.mp hs;obtain ⟨v,rfl,q1⟩:=xE R;obtain ⟨p,vs,rfl,hq,rr⟩:=zcA S q1 h1;obtain ⟨ns,rfl,rfl⟩:=zaB rr h2;exact ⟨p,ns,rfl,hq,q.ok S (rep_int.mpr rfl)⟩
  .exact q.elim
 | all =>
  cases hb;refine gy hc pins s σ H xs us Q I r ?_;rcases ws with _ | ⟨x,_ | ⟨_,_⟩⟩
  .exact q.elim
  .obtain ⟨i,hs,q⟩:=zeD (o:=(jf m x).bind qJ) (f:=λi=>.ok (.bl i) m) q;obtain ⟨ys,h1,h2⟩:=Option.bind_eq_some_iff.mp hs;obtain ⟨v,rfl,q1⟩:=xE R;obtain ⟨p,vs,rfl,hq,rr⟩:=zcA S q1 h1;obtain ⟨ns,rfl,rfl⟩:=zaC rr h2;exact ⟨p,ns,rfl,hq,q.ok S (rep_bl.mpr rfl)⟩
  .exact q.elim
 | max2 =>
  cases hb;refine zbd hc pins s σ H xs us Q I r ?_;cases ws with
  | nil=>exact q.elim
  | cons x ws =>
   cases x with
   | int i =>
    cases ws with
    | nil=>exact q.elim
    | cons y ws =>
     cases y with
     | int j =>
      cases ws with
      | nil =>
       obtain ⟨v,u,rfl,q1,q2⟩:=qN R;obtain rfl:=rep_int.mp q1;obtain rfl:=rep_int.mp q2;exact ⟨i,j,rfl,q.ok S (rep_int.mpr rfl)⟩
      | cons _ _=>exact q.elim
     | _=>exact q.elim
   | _=>exact q.elim
set_option tactic.hygienic true in
theorem zgM {x y:Wd}{v u:V}(S:Sim K as m H)(R:Rep K as H x v)(R':Rep K as H y u)(h:Post K as H Q (kF x y m)):rIx K v u H Q:=by
 unfold kF at h;split at h
 .rename_i i;obtain rfl:=rep_int.mp R';split at h
  .rename_i xs hs;split at h
   .rename_i w hw;obtain ⟨p,vs,rfl,hq,rr⟩:=jQ S R hs;have e:∃z,atI vs i=some z/\Rep K as H w z:=by
     obtain ⟨j,hj,hx⟩:=Option.bind_eq_some_iff.mp hw;obtain ⟨z,hz,rz⟩:=rr.get hx;refine ⟨z,?_,rz⟩;unfold atI;have hj':ixN vs.length i=some j:=by rw[<- rr.length];exact hj
     rw[hj'];exact hz
    obtain ⟨z,hz,rz⟩:=e;rcases hq with hq | hq
    .exact .inl ⟨p,vs,i,z,rfl,rfl,hq,hz,h.ok S rz⟩
    .exact .inr (.inl ⟨p,vs,i,z,rfl,rfl,hq,hz,h.ok S rz⟩)
   .exact h.elim
  .exact h.elim
 .exact h.elim
noncomputable def mtV:Mth->Str×String
 | .append=>("append", "list.append") | .pop=>("pop", "list.pop") | .reverse=>("reverse", "list.reverse") | .clear=>("clear", "list.clear") | .insert=>("insert", "list.insert")
def rMt (K:PySem.W.Frag)(n:Mth):V->List V->Hp->VK->Prop:=λv vs H Q=>∃as m w ws,Sim K as m H/\Rep K as H w v/\RepL K as H ws vs/\Post K as H Q (mtR n w ws m)
set_option tactic.hygienic true in
theorem zgN (n:Mth):MtR X (mtV n).2 (rMt X.K n):=by
 intro pins s σ H v vs u us Q I r rs h;obtain ⟨as,m,w,ws,S,R,Rs,q⟩:=h;unfold mtR at q;split at q
 .rename_i l;split at q
  .rename_i xs hl;obtain ⟨a,ha,rfl⟩:=rep_ref.mp R;obtain ⟨b,zs,hb,e,rr⟩:=yt S hl;rw[ha] at hb;cases hb;have hz:zs.length<=sizeLine:=(I.lstM e).1;split at q
   .rename_i y;split at q
    .rename_i hlt;obtain ⟨z,rfl,rz⟩:=xE Rs;obtain ⟨T,S'⟩:=S.set ha hl (rr.append (.one rz));exact jo pins s σ H _ _ u us Q I r rs ⟨a,zs,z,rfl,rfl,e,by rw[<- rr.length];exact Nat.lt_of_lt_of_le hlt y1,q _ _ _ T S' (rep_non.mpr rfl)⟩
    .exact q.elim
   .split at q
    .rename_i y hy;obtain rfl:=repL_nil.mp Rs;obtain ⟨z,hz',rz⟩:=rr.get hy;obtain ⟨T,S'⟩:=S.set ha hl rr.dropLast;exact zgC pins s σ H _ _ u us Q I r rs ⟨a,zs,z,rfl,rfl,e,by rw[<- rr.length];exact hz',q _ _ _ T S' (rz.mono S T)⟩
    .exact q.elim
   .obtain rfl:=repL_nil.mp Rs;obtain ⟨T,S'⟩:=S.set ha hl rr.reverse;exact qD pins s σ H _ _ u us Q I r rs ⟨a,zs,rfl,rfl,e,q _ _ _ T S' (rep_non.mpr rfl)⟩
   .rename_i k0;split at q
    .rename_i hk0;subst hk0;split at q
     .rename_i y0 r0;obtain ⟨z,rfl,rz⟩:=xE Rs;obtain rfl:=rep_int.mp rz;obtain ⟨z0,zr,rfl,ra,rb⟩:=repL_cons.mp rr;obtain ⟨T,S'⟩:=S.set ha hl rb;exact zcm pins s σ H _ _ u us Q I r rs ⟨a,z0::zr,0,0,z0,rfl,rfl,e,by decide,by decide,by simp[seqIndex?],rfl,q _ _ _ T S' (ra.mono S T)⟩
     .exact q.elim
    .exact q.elim
   .rename_i k0 y0;split at q
    .rename_i hk0;obtain ⟨rfl,hlt⟩:=hk0;obtain ⟨z1,z2,rfl,rz1,rz2⟩:=qN Rs;obtain rfl:=rep_int.mp rz1;obtain ⟨T,S'⟩:=S.set ha hl (repL_cons.mpr ⟨_,_,rfl,rz2,rr⟩);exact zgL pins s σ H _ _ u us Q I r rs ⟨a,zs,z2,rfl,rfl,e,by rw[<- rr.length];exact Nat.lt_of_lt_of_le hlt y1,q _ _ _ T S' (rep_non.mpr rfl)⟩
    .exact q.elim
   .exact q.elim
  .exact q.elim
 .exact q.elim
noncomputable def tgT:Tg->String
 | .int => "int" | .bool => "bool" | .list => "list" | .tuple => "tuple" | .str => "str" | .dict => "dict"
theorem zeE (K:PySem.W.Frag)(t:Tg):
  PySem.W.kitOne K (.type "NoneType") (.type (tgT t))=some false/\PySem.W.kitOne K (.type "bool") (.type (tgT t))=some (decide (t=.bool\/t=.int))/\PySem.W.kitOne K (.type "int") (.type (tgT t))=some (decide (t=.int)) /\
  PySem.W.kitOne K (.type "str") (.type (tgT t))=some (decide (t=.str))/\PySem.W.kitOne K (.type "list") (.type (tgT t))=some (decide (t=.list))/\PySem.W.kitOne K (.type "tuple") (.type (tgT t))=some (decide (t=.tuple))/\PySem.W.kitOne K (.type "dict") (.type (tgT t))=some (decide (t=.dict)):=by
 cases t <;> refine ⟨?_,?_,?_,?_,?_,?_,?_⟩ <;> kernel_rfl
def rIsi (K:PySem.W.Frag)(t:Tg):List V->Hp->VK->Prop:=λvs H Q=>∃as m w v,vs=[v,.ty (tgT t)]/\Sim K as m H/\Rep K as H w v/\Post K as H Q (ofB (isT t w m) m)
theorem zgO (m:Me)(t:Tg):isT t .non m=some false/\(∀c,isT t (.bl c) m=some (decide (t=.bool\/t=.int)))/\(∀i,isT t (.int i) m=some (decide (t=.int)))/\(∀x,isT t (.str x) m=some (decide (t=.str)))/\(∀ys,isT t (.tup ys) m=some (decide (t=.tuple)))/\(∀ys,isT t (.rol ys) m=some (decide (t=.list)))/\∀l ys,m[l]?=some (.lst ys)->isT t (.ref l) m=some (decide (t=.list)):=by
 refine ⟨?_,λc=>?_,λi=>?_,λx=>?_,λys=>?_,λys=>?_,λl ys h=>?_⟩
 rotate_right
 .have e:isT t (.ref l) m=(match m[l]? with | some (.lst _)=>some (decide (t=.list)) | some (.dct _ _)=>some (decide (t=.dict)) | none=>none):=by cases t <;> rfl
  rw[e,h]
 all_goals cases t <;> rfl
theorem zeF (m:Me)(t:Tg){l:Nat}{ks:List (List Int)}{ws:List Wd}(h:m[l]?=some (.dct ks ws)):isT t (.ref l) m=some (decide (t=.dict)):=by
 have e:isT t (.ref l) m=(match m[l]? with | some (.lst _)=>some (decide (t=.list)) | some (.dct _ _)=>some (decide (t=.dict)) | none=>none):=by cases t <;> rfl
 rw[e,h]
theorem zcC (t:Tg):CallR X (.builtin "isinstance") (rIsi X.K t):=by
 intro pins s σ H xs us Q I r h;obtain ⟨as,m,w,v,rfl,S,R,q⟩:=h;obtain ⟨b,hb,q⟩:=kH S q;obtain ⟨u,u',rfl,ru,ru'⟩:=zfK r;obtain rfl:u'=.type (tgT t):=ru';obtain ⟨k1,k2,k3,k4,k5,k6,k7⟩:=zeE X.K t;obtain ⟨z1,z2,z3,z4,z5,z6,z7⟩:=zgO m t;have fin:∀tk,EP X pins σ Q (.bool b) { s with toks:=tk }:=λtk=>⟨.bl b,H,I.tok tk,rfl,q⟩;cases w with
 | non =>
  obtain rfl:=rep_non.mp R;have e:b=false:=Option.some.inj (hb.symm.trans z1);subst e;exact xX I ru .non k1 fin
 | bl c =>
  obtain rfl:=rep_bl.mp R;have e:b=decide (t=.bool\/t=.int):=Option.some.inj (hb.symm.trans (z2 _));subst e;exact xX I ru (.bl c) k2 fin
 | int i =>
  obtain rfl:=rep_int.mp R;have e:b=decide (t=.int):=Option.some.inj (hb.symm.trans (z3 _));subst e;exact xX I ru (.int i) k3 fin
 | str x =>
  obtain rfl:=rep_str.mp R;have e:b=decide (t=.str):=Option.some.inj (hb.symm.trans (z4 _));subst e;exact xX I ru (.str _) k4 fin
 | tup ys =>
  obtain ⟨a,vs,rfl,hq,rr⟩:=rep_tup.mp R;have e:b=decide (t=.tuple):=Option.some.inj (hb.symm.trans (z5 _));subst e;obtain rfl:u=.ref a:=ru;obtain ⟨its,_,⟨o,h1,h2,_⟩,_⟩:=I.tuple hq;exact PySem.W.kia_one PySem.W.kitx_tuple I.kIn ⟨o,h1,h2⟩ k6 (λz=>nomatch z) fin
 | rol ys =>
  obtain ⟨a,vs,rfl,hq,rr⟩:=rep_rol.mp R;have e:b=decide (t=.list):=Option.some.inj (hb.symm.trans (z6 _));subst e;obtain rfl:u=.ref a:=ru;obtain ⟨its,_,p,_⟩:=I.list hq.sq;obtain ⟨o,n,h1,h2,_⟩:=p;exact PySem.W.kia_one PySem.W.kitx_list I.kIn ⟨o,h1,h2⟩ k5 (λz=>nomatch z) fin
 | ref l =>
  obtain ⟨a,ha,rfl⟩:=rep_ref.mp R;have hlm:l < m.length:=by rw[<- S.len];exact (List.getElem?_eq_some_iff.mp ha).1
  have hg:m[l]?=some m[l]:=by simp[hlm]
  cases ho:m[l] with
  | lst ys =>
   rw[ho] at hg;obtain ⟨a',us,ha',e2,_⟩:=yt S hg;rw[ha] at ha';cases ha';have e:b=decide (t=.list):=Option.some.inj (hb.symm.trans (z7 _ _ hg));subst e;exact xX I ru (.lst e2) k5 fin
  | dct ks us =>
   rw[ho] at hg;obtain ⟨a',ha',xs,vs,td,_⟩:=S.get hg;rw[ha] at ha';cases ha';have e:b=decide (t=.dict):=Option.some.inj (hb.symm.trans (zeF m t hg));subst e;obtain rfl:u=.ref a:=ru;exact PySem.W.kia_one PySem.W.kitx_dict I.kIn (gA I td).2.typeIs k7 (λz=>nomatch z) fin
end
structure SeqIt (J:It)(vs:List V)(ok:Hp->Prop):Prop where
 go:∀i H,ok H->i < vs.length->J.go i H
 yld:∀i H x H',ok H->i < vs.length->J.yld i H x H'->H'=H/\vs[i]?=some x
 stop:∀i H,ok H->vs.length<=i->J.stop i H
def zaE (K:PySem.W.Frag)(as:List Addr)(H:Hp)(J:It)(xs:List Wd):Prop :=
 ∃vs ok,SeqIt J vs ok/\ok H/\RepL K as H xs vs/\∀H1 H2,Kp K H1 H2->ok H1->ok H2
def zit (K:PySem.W.Frag)(as:List Addr)(H:Hp)(w:Wd)(J:It):Prop:=match w with
 | .tup xs=>zaE K as H J xs
 | .rol xs=>zaE K as H J xs
 | .ref l=>∃a,as[l]?=some a/\J=Itl K a
 | _=>True
def PostI (K:PySem.W.Frag)(as:List Addr)(H:Hp)(R:It->Hp->Prop)(r:Rz):Prop:=match r with
 | .ok w m'=>(xA m' w).isSome=true/\∀as' H' J,Step as H as' H'->Sim K as' m' H'->zit K as' H' w J->R J H'
 | _=>False
def iOf (K:PySem.W.Frag)(g:En->Me->Rz):TI:=λσ H R=>∃as env m,Sim K as m H/\EnvRep K as H env σ/\PostI K as H R (g env m)
theorem PI.or {X:Cx}{tg e:Expr}{a b:TI}(h1:PI X tg e a)(h2:PI X tg e b):PI X tg e (λσ H R=>a σ H R\/b σ H R):=λpins s σ H R I h=>by
 rcases h with h | h
 .exact h1 pins s σ H R I h
 .exact h2 pins s σ H R I h
theorem PI.imp {X:Cx}{tg e:Expr}{a b:TI}(h:PI X tg e a)(k:∀σ H R,b σ H R->a σ H R):PI X tg e b:=λpins s σ H R I q=>h pins s σ H R I (k σ H R q)
theorem vS {X:Cx}{tg x:Expr}{g:En->Me->Rz}(h:PE X x (tOf X.K g)):PI X tg x (iOf X.K g):=by
 refine PI.imp (PI.or (zef h) (zgl h)) λσ H R q=>?_;obtain ⟨as,env,m,S,G,P⟩:=q;cases hr:g env m with
 | no=>rw[hr] at P;exact P.elim
 | exc c w m'=>rw[hr] at P;exact P.elim
 | ok w m' =>
  rw[hr] at P;obtain ⟨hs,P⟩:=P;obtain ⟨xs,hs⟩:=Option.isSome_iff_exists.mp hs;cases w with
  | tup ys =>
   refine .inr ⟨as,env,m,S,G,?_⟩;rw[hr];intro as' H' v T S' R';obtain ⟨a,vs,rfl,hq,rr⟩:=rep_tup.mp R';refine ⟨a,rfl,⟨vs,hq⟩,P as' H' _ T S' ⟨vs,λH=>SqT X.K H a vs,⟨λi H h hi=>⟨vs,vs[i],h,by simp[hi]⟩,λi H x H' h hi q=>⟨q.1,q.2 vs h⟩,λi H h hi=>⟨vs,h,hi⟩⟩,hq,rr,λH1 H2 k h=>k.t _ _ h⟩⟩
  | rol ys =>
   refine .inl ⟨as,env,m,S,G,?_⟩;rw[hr];intro as' H' v T S' R';obtain ⟨a,vs,rfl,hq,rr⟩:=rep_rol.mp R';refine ⟨a,rfl,⟨vs,hq.sq⟩,P as' H' _ T S' ⟨vs,λH=>SqF X.K H a vs,⟨λi H h hi=>⟨vs,vs[i],h.sq,by simp[hi]⟩,λi H x H' h hi q=>⟨q.1,q.2 vs h.sq⟩,λi H h hi=>⟨vs,h.sq,hi⟩⟩,hq,rr,λH1 H2 k h=>k.f _ _ h⟩⟩
  | ref l =>
   refine .inl ⟨as,env,m,S,G,?_⟩;rw[hr];intro as' H' v T S' R';obtain ⟨a,ha,rfl⟩:=rep_ref.mp R';obtain ⟨a',us,ha',e,_⟩:=yt S' (zX hs);rw[ha] at ha';cases ha';exact ⟨a,rfl,⟨us,SqL.of e⟩,P as' H' _ T S' ⟨a,ha,rfl⟩⟩
  | non=>cases hs
  | bl b=>cases hs
  | int i=>cases hs
  | str x=>cases hs
theorem kI {K:PySem.W.Frag}{as:List Addr}{H:Hp}(st:Int):∀ (n:Nat) (lo:Int),RepL K as H (qK lo st n) ((List.range n).map λ(i:Nat)=>V.int (lo+st * (i:Int)))
 | 0,lo=>repL_nil.mpr rfl
 | n+1,lo=>by
  rw[List.range_succ_eq_map,List.map_cons,List.map_map];refine repL_cons.mpr ⟨_,_,rfl,rep_int.mpr (by simp),?_⟩;have e:((λ(i:Nat)=>V.int (lo+st * (i:Int))) ∘ Nat.succ)=λ(i:Nat)=>V.int (lo+st+st * (i:Int)):=by
   funext i;show V.int (lo+st * ((i.succ:Nat):Int))=_;congr 1;rw[Nat.succ_eq_add_one,Int.natCast_add,Int.mul_add];lia
  rw[e];exact kI st n (lo+st)
theorem zbr {K:PySem.W.Frag}(lo:Int)(n:Nat):SeqIt (Itr lo n) ((List.range n).map λ(i:Nat)=>V.int (lo+1 * (i:Int))) (λ_=>True):=by
 refine ⟨λi H _ hi=>?_,λi H x H' _ hi q=>?_,λi H _ hi=>?_⟩
 .show i < n;simpa using hi
 .obtain ⟨e,rfl⟩:=q;refine ⟨e,?_⟩;have hi':i < n:=by simpa using hi
  rw[List.getElem?_map,List.getElem?_range hi'];simp
 .show n<=i;simpa using hi
end Mini
namespace L2
open PySem PySem.Spec PyProof.Rows
def TupK (K:PySem.W.Frag)(b:Addr)(xs:List V):Prop :=
 ∃ (o:Obj) (its:Array Value) (n:Nat),K.lookup b=some o/\o.cls=.type "tuple" /\ o.data=.seq its n/\its.size<=sizeLine/\Vals xs its.toList
abbrev Dcn:=List (List Nat×Int×Int)
def DcE (K:PySem.W.Frag)(w:World):List DictEntry->Dcn->Prop
 | [],q=>q=[]
 | e::es,q=>∃k x y r t b,q=(k,x,y)::r/\e.key=.str ⟨k.toArray⟩ t/\e.hash=hashStr w ⟨k.toArray⟩/\e.val=.ref b/\TupK K b [.int x,.int y]/\DcE K w es r
def DcAt (K:PySem.W.Frag)(w:World)(a:Addr)(q:Dcn):Prop :=
 (a == sysModules)=false/\∃o es ep,K.lookup a=some o/\o.ExactDict/\o.data=.dict es ep/\DcE K w es.toList q
end L2
namespace Mini
open PySem PySem.Spec PyProof.Rows L2
set_option genInjectivity false in
structure Ctx where
 fns:List Str
 cons:List (Str×Int)
 dcs:List (Str×Dcn)
set_option genInjectivity false in
inductive Nd where
 | e (x:Expr) | a (xs:List Expr)
noncomputable def glB (sc:Scope)(x:Str):Bool:=decide (sc.names.lookup x=some .globalImplicit)
noncomputable def zeG (sc:Scope)(x:Str):Bool:=decide (sc.names.lookup x=some .local) || (decide (sc.names.lookup x=some .cell) || decide (sc.names.lookup x=some .free))
noncomputable def xn (x:Str):Bool:=!(x == ("__debug__" : Str)) && !(x == ("__classdict__" : Str)) && !(x == ("__name__" : Str))
noncomputable def zF:Expr->Bool
 | .Starred _ _=>false
 | _=>true
noncomputable def y3:Expr->Bool
 | .Set _ _ _=>false
 | _=>true
noncomputable def kJ:Expr->Bool
 | .Slice _ _ _ _=>false
 | _=>true
noncomputable def jS:Expr->Bool
 | .Call _ _ _ _=>false
 | _=>true
noncomputable def zw:Ex->Bool
 | .rng _ _ _=>true
 | _=>false
noncomputable def v4:Ex->Bool
 | .ife _ _ _=>true
 | _=>false
noncomputable def xi (scope sc:Scope):Scope :=
 { scope with names:=scope.names.map λ(n,k)=>if (k == .free && sc.kind == .function && sc.names.lookup n == some .cell) then (n,.cell) else (n,k) }
noncomputable def we (sc:Scope)(N:List Str)(scope:Scope)(xs:List Str):Bool :=
 decide (scope.kind=.function) && (xs.all (λx=>decide (scope.names.lookup x=some .local) || decide (scope.names.lookup x=some .cell)) &&
 (scope.names.all (λy=>!(decide (y.2=.local)) || decide (scope.names.lookup y.1=some .local)) &&
 (scope.names.all (λy=>!(decide (y.2=.free)) || (decide (sc.names.lookup y.1=some .cell) || decide (sc.names.lookup y.1=some .free))) &&
 (scope.names.all (λy=>!(decide (y.2=.cell)) || !(decide (scope.names.lookup y.1=some .free))) &&
 (N.all (λy=>decide (y∈xs) || (!(decide (scope.names.lookup y=some .local)) && !(decide (scope.names.lookup y=some .cell)))) &&
 (decide (yZ N xs).Nodup && xs.all (λx=>decide (scope.names.lookup (dum x)=none))))))))
theorem yN {X:Cx}{scope:Scope}{xs:List Str}(h:we X.env.scope X.N scope xs=true):BlockOk X scope xs:=by
 unfold we at h;simp only[Bool.and_eq_true,Bool.or_eq_true,decide_eq_true_eq,List.all_eq_true,Bool.not_eq_true',decide_eq_false_iff_not] at h;obtain ⟨h1,h2,h3,h4,h5,h6,h7,h8⟩:=h;refine ⟨h1,h2,λy hy e=>?_,λy hy e=>?_,λy hy e=>?_,λy hy e=>?_,h7,h8⟩
 .rcases h3 y hy with z | z
  .exact absurd e z
  .exact z
 .rcases h4 y hy with z | z
  .exact absurd e z
  .exact z
 .rcases h6 y hy with z | z
  .exact absurd z e
  .exact z
 .rcases h5 y hy with z | z
  .exact absurd e z
  .exact z
def jT (K:PySem.W.Frag)(g:List Wd->Me->Rz):Sp:=λvs H Q _=>∃as m ws,Sim K as m H/\RepL K as H ws vs/\Post K as H Q (g ws m)
noncomputable def zD:List Str:=["len", "int", "bool", "list", "tuple", "abs", "max", "min", "isinstance", "range", "str", "dict", "sum", "all", "zip", "enumerate", "sorted"]
def gJ (K:PySem.W.Frag)(w:World)(mg:Str->Option Value)(C:Ctx):Prop:=(∀ (nm:Str) (i:Int),C.cons.lookup nm=some i->∃t,mg nm=some (.int i t))/\∀ (nm:Str) (q:Dcn),C.dcs.lookup nm=some q->∃a,mg nm=some (.ref a)/\DcAt K w a q
structure CtxOk (C:Ctx)(X:Cx)(cl:Nat->List Wd->Me->Rz)(d:Nat):Prop where
 room:Room d X.A
 calm:X.calm=true
 fn:∀ (k:Nat) (nm:Str),C.fns[k]?=some nm->∃f fd ps,X.mg nm=some (.ref f)/\PySem.W.keepIn X.K (.ref f)=true/\Binds X.K fd ps []/\FnOk X.prog X.w X.K X.mg X.base CX0 d f fd ps (jT X.K (cl k))
 con:gJ X.K X.w X.mg C
 blt:∀nm∈zD,X.mg nm=none
theorem CtxOk.comp {C:Ctx}{X Xc:Cx}{cl:Nat->List Wd->Me->Rz}{d:Nat}{scope:Scope}{x:List Str}(h:CtxOk C X cl d)(c:CompOf X scope x Xc):CtxOk C Xc cl d:=by
 refine ⟨by rw[c.A];exact h.room,c.calm,λk nm e=>?_,?_,λnm e=>?_⟩
 .obtain ⟨f,fd,ps,h1,h2,h3,h4⟩:=h.fn k nm e;exact ⟨f,fd,ps,by rw[c.mg];exact h1,by rw[c.K];exact h2,by rw[c.K];exact h3,by rw[c.prog,c.w,c.K,c.mg,c.base];exact h4⟩
 .rw[c.mg,c.K,c.w];exact h.con
 .rw[c.mg];exact h.blt nm e
def PostA (K:PySem.W.Frag)(as:List Addr)(H:Hp)(Q:List V->Hp->Prop)(r:Rz):Prop:=match r with
 | .ok w m'=>∀as' H' vs,Step as H as' H'->Sim K as' m' H'->RepL K as' H' (zL w) vs->Q vs H'
 | _=>False
def kK (K:PySem.W.Frag)(g:En->Me->Rz):TA:=λσ H Q=>∃as env m,Sim K as m H/\EnvRep K as H env σ/\PostA K as H Q (g env m)
theorem PostA.bind {K:PySem.W.Frag}{as:List Addr}{H:Hp}{Q:VK}{Q1:List V->Hp->Prop}{r:Rz}{f:Wd->Me->Rz}(h:Post K as H Q (r.bind f))
  (k:∀w m' as' H' vs,Step as H as' H'->Sim K as' m' H'->RepL K as' H' (zL w) vs->Post K as' H' Q (f w m')->Q1 vs H'):PostA K as H Q1 r:=by
 cases r with
 | ok w m'=>exact λas2 H2 v U S R=>k w m' as2 H2 v U S R (Post.step (r:=f w m') h U)
 | exc c w m'=>exact h
 | no=>exact h
def Snd (cl:Nat->List Wd->Me->Rz)(X:Cx)(e:Ex):Nd->Prop
 | .e x=>(zw e=false->PE X x (tOf X.K (evE cl e))/\(v4 e=false->PT X x (xC X.K (evE cl e)))/\(∀op vs pos,x=.BoolOp op vs pos->PW X x (xC X.K (evE cl e))))/\∀tg,PI X tg x (iOf X.K (evE cl e))
 | .a xs=>PA X xs (kK X.K (evE cl e))
theorem Snd.of {cl:Nat->List Wd->Me->Rz}{X:Cx}{e:Ex}{x:Expr}(h:PE X x (tOf X.K (evE cl e)))(ht:∀whole,isTrue x X.env whole=(do let v <- whole;standAt x.pos;holding [v] (truthy v)):=by intro _;rfl)
  (hb:∀op vs pos,x≠.BoolOp op vs pos:=by intros;intro z;cases z):Snd cl X e (.e x) :=
 ⟨λ_=>⟨h,λ_=>zf9 h ht,λop vs pos z=>absurd z (hb op vs pos)⟩,λtg=>vS h⟩
theorem zl {e:Expr}{es:List Expr}{env:Env}(h:zF e=true):starEach (e::es) env=(false,eval e env)::starEach es env:=by
 cases e <;> first | rfl | cases h
theorem yL {pos:Pos}{env:Env}:∀ {es:List Expr},es.all zF=true->(backTo pos (starEach es env)).any (·.1)=false
 | [],_=>rfl
 | e::es,h=>by
  rw[List.all_cons,Bool.and_eq_true] at h;rw[zl h.1];show (false || (backTo pos (starEach es env)).any (·.1))=false;rw[yL h.2];rfl
section
variable {cl:Nat->List Wd->Me->Rz}{X:Cx}{a b c:Ex}{x y:Expr}{pos:Pos}
theorem zgP {op:Bo}(ha:PE X x (tOf X.K (evE cl a)))(hb:PE X y (tOf X.K (evE cl b))):PE X (.BinOp x (opK op) y pos) (tOf X.K (evE cl (.bin op a b))):=by
 refine PE.imp (zh3 (zir op) ha hb) λσ H Q h=>?_;obtain ⟨as,env,m,S,G,P⟩:=h;refine ⟨as,env,m,S,G,Post.bind P λx m1 as1 H1 v T1 S1 R1 P1=>?_⟩;refine ⟨as1,env,m1,S1,G.mono S T1,Post.bind P1 λy m2 as2 H2 u T2 S2 R2 P2=>?_⟩;exact zgG S2 (R1.mono S1 T2) R2 P2
theorem zgQ (ha:PE X x (tOf X.K (evE cl a))):PE X (.UnaryOp .USub x pos) (tOf X.K (evE cl (.neg a))):=by
 refine PE.imp (zh4 zgt ha) λσ H Q h=>?_;obtain ⟨as,env,m,S,G,P⟩:=h;refine ⟨as,env,m,S,G,Post.bind P λx m1 as1 H1 v T1 S1 R1 P1=>?_⟩;cases x with
 | int i =>
  obtain rfl:=rep_int.mp R1;exact ⟨i,rfl,P1.ok S1 (rep_int.mpr rfl)⟩
 | _=>exact P1.elim
theorem zcD (ha:PE X x (tOf X.K (evE cl a))):PE X (.UnaryOp .Not x pos) (tOf X.K (evE cl (.not a))):=by
 refine PE.imp (zge ha) λσ H Q h=>?_;obtain ⟨as,env,m,S,G,P⟩:=h;refine ⟨as,env,m,S,G,Post.bind P λx m1 as1 H1 v T1 S1 R1 P1=>?_⟩;cases x with
 | bl k =>
  obtain rfl:=rep_bl.mp R1;exact ⟨k,rfl,P1.ok S1 (rep_bl.mpr rfl)⟩
 | _=>exact P1.elim
theorem zgR (ha:PT X x (xC X.K (evE cl a))):PT X (.UnaryOp .Not x pos) (xC X.K (evE cl (.not a))):=by
 refine PT.imp (zgc ha) λσ H Q h=>?_;obtain ⟨as,env,m,S,G,P⟩:=h;refine ⟨as,env,m,S,G,Post.bind P λx m1 as1 H1 v T1 S1 R1 P1=>?_⟩;cases x with
 | bl k =>
  obtain rfl:=rep_bl.mp R1;obtain ⟨b,e,q⟩:=P1.ok S1 (rep_bl.mpr rfl);cases e;exact ⟨k,rfl,q⟩
 | _=>exact P1.elim
theorem gK {K:PySem.W.Frag}{σ:St}{H:Hp}{Q:VK}(h:tOf K (evE cl (.and a b)) σ H Q):tOf K (evE cl a) σ H λx H1=>∃k,x=.bl k/\if k=true then tOf K (evE cl b) σ H1 Q else Q (.bl false) H1:=by
 obtain ⟨as,env,m,S,G,P⟩:=h;refine ⟨as,env,m,S,G,Post.bind P λx m1 as1 H1 v T1 S1 R1 P1=>?_⟩;cases x with
 | bl k =>
  obtain rfl:=rep_bl.mp R1;refine ⟨k,rfl,?_⟩;cases k with
  | true=>exact qF ⟨as1,env,m1,S1,G.mono S T1,P1⟩
  | false=>exact qE (P1.ok S1 (rep_bl.mpr rfl))
 | _=>exact P1.elim
theorem zaF {K:PySem.W.Frag}{σ:St}{H:Hp}{Q:VK}(h:tOf K (evE cl (.or a b)) σ H Q):tOf K (evE cl a) σ H λx H1=>∃k,x=.bl k/\if k=true then Q (.bl true) H1 else tOf K (evE cl b) σ H1 Q:=by
 obtain ⟨as,env,m,S,G,P⟩:=h;refine ⟨as,env,m,S,G,Post.bind P λx m1 as1 H1 v T1 S1 R1 P1=>?_⟩;cases x with
 | bl k =>
  obtain rfl:=rep_bl.mp R1;refine ⟨k,rfl,?_⟩;cases k with
  | false=>exact qE ⟨as1,env,m1,S1,G.mono S T1,P1⟩
  | true=>exact qF (P1.ok S1 (rep_bl.mpr rfl))
 | _=>exact P1.elim
theorem gL {K:PySem.W.Frag}{g:En->Me->Rz}{σ:St}{H:Hp}{Q Q':VK}(h:tOf K g σ H Q)(k:∀v H,Q v H->Q' v H):tOf K g σ H Q':=by
 obtain ⟨as,env,m,S,G,P⟩:=h;refine ⟨as,env,m,S,G,?_⟩;cases hr:g env m with
 | ok w m'=>rw[hr] at P;exact λas' H' v T S' R=>k _ _ (P as' H' v T S' R)
 | exc c w m'=>rw[hr] at P;exact P
 | no=>rw[hr] at P;exact P
theorem zcE {r:List Expr}(ha:PE X x (tOf X.K (evE cl a)))(hb:PE X (.BoolOp .And (y::r) pos) (tOf X.K (evE cl b))):PE X (.BoolOp .And (x::y::r) pos) (tOf X.K (evE cl (.and a b))) :=
 PE.imp (zgd ha hb) λσ H Q h=>gK h
theorem ziu {r:List Expr}(ha:PE X x (tOf X.K (evE cl a)))(hb:PE X (.BoolOp .Or (y::r) pos) (tOf X.K (evE cl b))):PE X (.BoolOp .Or (x::y::r) pos) (tOf X.K (evE cl (.or a b))) :=
 PE.imp (zhV ha hb) λσ H Q h=>zaF h
theorem PW.imp {e:Expr}{t t':TT}(h:PW X e t)(k:∀σ H Q,t' σ H Q->t σ H Q):PW X e t':=λwhole pins s σ H Q I q=>h whole pins s σ H Q I (k σ H Q q)
theorem zcF {r:List Expr}(ha:PT X x (xC X.K (evE cl a)))(hb:PW X (.BoolOp .And (y::r) pos) (xC X.K (evE cl b))):PW X (.BoolOp .And (x::y::r) pos) (xC X.K (evE cl (.and a b))) :=
 PW.imp (zgb ha hb) λσ H Q h=>by
  refine gL (gK h) λv H1 q=>?_;obtain ⟨k,e,q⟩:=q;refine ⟨k,e,?_⟩;cases k with
  | true=>rw[if_pos rfl] at q ⊢;exact q
  | false =>
   rw[if_neg Bool.false_ne_true] at q ⊢;obtain ⟨b',e',q⟩:=q;cases e';exact q
theorem ziv {r:List Expr}(ha:PT X x (xC X.K (evE cl a)))(hb:PW X (.BoolOp .Or (y::r) pos) (xC X.K (evE cl b))):PW X (.BoolOp .Or (x::y::r) pos) (xC X.K (evE cl (.or a b))) :=
 PW.imp (zhS ha hb) λσ H Q h=>by
  refine gL (zaF h) λv H1 q=>?_;obtain ⟨k,e,q⟩:=q;refine ⟨k,e,?_⟩;cases k with
  | false=>rw[if_neg Bool.false_ne_true] at q ⊢;exact q
  | true =>
   rw[if_pos rfl] at q ⊢;obtain ⟨b',e',q⟩:=q;cases e';exact q
theorem marks {op:CmpOp}{e:Expr}(h:y3 e=true):behindInMarks op e=false:=by
 cases e <;> first | rfl | cases h
theorem gM {K:PySem.W.Frag}{op:Co}{σ:St}{H:Hp}{Q:VK}(h:tOf K (evE cl (.cmp op a b)) σ H Q):tOp (rC K op) (tOf K (evE cl a)) (tOf K (evE cl b)) σ H Q:=by
 obtain ⟨as,env,m,S,G,P⟩:=h;refine ⟨as,env,m,S,G,Post.bind P λx m1 as1 H1 v T1 S1 R1 P1=>?_⟩;refine ⟨as1,env,m1,S1,G.mono S T1,Post.bind P1 λy m2 as2 H2 u T2 S2 R2 P2=>?_⟩;exact ⟨as2,m2,x,y,S2,R1.mono S1 T2,R2,P2⟩
theorem zcG {op:Co}(hu:X.A.units+64 < cLine)(ha:PE X x (tOf X.K (evE cl a)))(hb:PE X y (tOf X.K (evE cl b)))(hs:y3 y=true):PE X (.Compare x [cK op] [y] pos) (tOf X.K (evE cl (.cmp op a b))) :=
 PE.imp (zej (jt hu op) ha hb (marks hs)) λσ H Q h=>gM h
theorem zgS {op:Co}(hu:X.A.units+64 < cLine)(ha:PE X x (tOf X.K (evE cl a)))(hb:PE X y (tOf X.K (evE cl b)))(hs:y3 y=true):PT X (.Compare x [cK op] [y] pos) (xC X.K (evE cl (.cmp op a b))) :=
 PT.imp (zek (jt hu op) ha hb (marks hs)) λσ H Q h=>gM h
end
section
variable {cl:Nat->List Wd->Me->Rz}{X:Cx}{a b c:Ex}{x y z:Expr}{pos:Pos}
theorem kL {K:PySem.W.Frag}{p q:Co}{σ:St}{H:Hp}{Q:VK}(h:tOf K (evE cl (.chain p q a b c)) σ H Q):qA (rC K p) (rC K q) (tOf K (evE cl a)) (tOf K (evE cl b)) (tOf K (evE cl c)) σ H Q:=by
 obtain ⟨as,env,m,S,G,P⟩:=h;refine ⟨as,env,m,S,G,Post.bind P λx m1 as1 H1 v T1 S1 R1 P1=>?_⟩;refine ⟨as1,env,m1,S1,G.mono S T1,Post.bind P1 λy m2 as2 H2 u T2 S2 R2 P2=>?_⟩;refine ⟨as2,m2,x,y,S2,R1.mono S1 T2,R2,Post.bind P2 λz m3 as3 H3 w T3 S3 R3 P3=>?_⟩;cases z with
 | bl k =>
  obtain rfl:=rep_bl.mp R3;refine ⟨k,rfl,?_⟩;cases k with
  | false=>exact qE (P3.ok S3 (rep_bl.mpr rfl))
  | true =>
   refine qF ⟨as3,env,m3,S3,((G.mono S T1).mono S1 T2).mono S2 T3,Post.bind P3 λt m4 as4 H4 r T4 S4 R4 P4=>?_⟩;exact ⟨as4,m4,y,t,S4,(R2.mono S2 T3).mono S3 T4,R4,P4⟩
 | _=>exact P3.elim
theorem zcH {o o':CmpOp}(h:y3 z=true):lastMarks [o,o'] [y,z]=false:=by
 show behindInMarks o' z=false;exact marks h
theorem gN {p q:Co}(hu:X.A.units+64 < cLine)(ha:PE X x (tOf X.K (evE cl a)))(hb:PE X y (tOf X.K (evE cl b)))(hc:PE X z (tOf X.K (evE cl c)))(hs:y3 z=true):
  PE X (.Compare x [cK p,cK q] [y,z] pos) (tOf X.K (evE cl (.chain p q a b c))) :=
 PE.imp (zci (jt hu p) (jt hu q) ha hb hc (zcH hs)) λσ H Q h=>kL h
theorem zcI {p q:Co}(hu:X.A.units+64 < cLine)(ha:PE X x (tOf X.K (evE cl a)))(hb:PE X y (tOf X.K (evE cl b)))(hc:PE X z (tOf X.K (evE cl c)))(hs:y3 z=true):
  PT X (.Compare x [cK p,cK q] [y,z] pos) (xC X.K (evE cl (.chain p q a b c))) :=
 PT.imp (zcj (jt hu p) (jt hu q) ha hb hc (zcH hs)) λσ H Q h=>kL h
theorem zcJ {K:PySem.W.Frag}{σ:St}{H:Hp}{Q:VK}(h:tOf K (evE cl (.ife c a b)) σ H Q):tIf (xC K (evE cl c)) (tOf K (evE cl a)) (tOf K (evE cl b)) σ H Q:=by
 obtain ⟨as,env,m,S,G,P⟩:=h;refine ⟨as,env,m,S,G,Post.bind P λx m1 as1 H1 v T1 S1 R1 P1=>?_⟩;cases x with
 | bl k =>
  obtain rfl:=rep_bl.mp R1;refine ⟨k,rfl,?_⟩;cases k with
  | true=>exact qF ⟨as1,env,m1,S1,G.mono S T1,P1⟩
  | false=>exact qE ⟨as1,env,m1,S1,G.mono S T1,P1⟩
 | _=>exact P1.elim
theorem zgT (hc:PT X z (xC X.K (evE cl c)))(ha:PE X x (tOf X.K (evE cl a)))(hb:PE X y (tOf X.K (evE cl b))):PE X (.IfExp z x y pos) (tOf X.K (evE cl (.ife c a b))) :=
 PE.imp (zb9 hc ha hb) λσ H Q h=>zcJ h
theorem zeH:PA X [] (kK X.K (evE cl .unit)):=PA.imp xR λσ H Q h=>by
 obtain ⟨as,env,m,S,G,P⟩:=h;exact P as H [] .refl S (repL_nil.mpr rfl)
theorem zeI {xs:List Expr}(ha:PE X x (tOf X.K (evE cl a)))(hb:PA X xs (kK X.K (evE cl b)))(hs:zF x=true):PA X (x::xs) (kK X.K (evE cl (.pair a b))):=by
 refine PA.imp (yK ha hb (zl hs)) λσ H Q h=>?_;obtain ⟨as,env,m,S,G,P⟩:=h;refine ⟨as,env,m,S,G,?_⟩;have P':PostA X.K as H Q ((evE cl a env m).bind λx m1=>(evE cl b env m1).bind λy m2=>.ok (.tup (x::zL y)) m2):=P;cases hr:evE cl a env m with
 | no=>rw[hr] at P';exact P'
 | exc c w m'=>rw[hr] at P';exact P'
 | ok w m1 =>
  rw[hr] at P';intro as1 H1 v T1 S1 R1;refine ⟨as1,env,m1,S1,G.mono S T1,?_⟩;simp only[Rz.bind] at P';cases hr2:evE cl b env m1 with
  | no=>rw[hr2] at P';exact P'
  | exc c w' m'=>rw[hr2] at P';exact P'
  | ok w' m2 =>
   rw[hr2] at P';intro as2 H2 vs T2 S2 R2;exact P' as2 H2 (v::vs) (T1.trans T2) S2 (repL_cons.mpr ⟨v,vs,rfl,R1.mono S1 T2,R2⟩)
theorem zeJ {C:Ctx}{d k:Nat}{nm:Str}{p:Pos}{xs:List Expr}(hC:CtxOk C X cl d)(hk:C.fns[k]?=some nm)(hg:X.env.scope.names.lookup nm=some .globalImplicit)(hn:xn nm=true)
  (hs:(x::xs).all zF=true) (ha:PA X (x::xs) (kK X.K (evE cl a))):PE X (.Call (.Name nm p) (x::xs) [] pos) (tOf X.K (evE cl (.call k a))):=by
 obtain ⟨f,fd,ps,h1,h2,h3,h4⟩:=hC.fn k nm hk;have hs':=hs;rw[List.all_cons,Bool.and_eq_true] at hs';have hdb:(nm == ("__debug__" : Str))=false:=by
  unfold xn at hn;simp only[Bool.and_eq_true,Bool.not_eq_true'] at hn;exact hn.1.1
 refine PE.imp (zen h4 hC.room hg h1 h2 h3 .nil (zim (X:=X)) ha hdb (zl hs'.1) (yL hs'.2)) λσ H Q h=>?_;obtain ⟨as,env,m,S,G,P⟩:=h;refine ⟨as,env,m,S,G,PostA.bind P λw m1 as1 H1 vs T1 S1 R1 P1=>?_⟩;refine ⟨as1,m1,zL w,S1,?_,P1⟩;rw[List.append_nil];exact R1
theorem vw {nm:Str}(hn:xn nm=true):(nm == ("__debug__" : Str))=false/\(nm == ("__classdict__" : Str))=false/\nm ≠ "__name__" := by
 unfold xn at hn;simp only[Bool.and_eq_true,Bool.not_eq_true'] at hn;exact ⟨hn.1.1,hn.1.2,by simpa using hn.2⟩
theorem zgU {C:Ctx}{d:Nat}{bf:Blf}{nm:Str}{f:Value}{p:Pos}{xs:List Expr}(hC:CtxOk C X cl d)(hb:zeB bf=some (nm,f))(hg:X.env.scope.names.lookup nm=some .globalImplicit)(hn:xn nm=true)
  (hs:(x::xs).all zF=true) (ha:PA X (x::xs) (kK X.K (evE cl a))):PE X (.Call (.Name nm p) (x::xs) [] pos) (tOf X.K (evE cl (.blt bf a))):=by
 obtain ⟨n1,n2,n3⟩:=vw hn;have hs':=hs;rw[List.all_cons,Bool.and_eq_true] at hs';have hc:=zcB hC.room.units hC.calm hb;have go:PE X (.Call (.Name nm p) (x::xs) [] pos) (tCB (rBl X.K bf) (kK X.K (evE cl a))):=by
  cases bf with
  | len=>cases hb;exact xz hc hg (hC.blt _ (by simp[zD])) PySem.boot_len ha n3 n1 (zl hs'.1) (yL hs'.2)
  | int=>cases hb;exact jl hc hg (hC.blt _ (by simp[zD])) PyProof.Rows.boot_int ha n3 n1 (zl hs'.1) (yL hs'.2)
  | list=>cases hb;exact jl hc hg (hC.blt _ (by simp[zD])) PyProof.Rows.boot_list ha n3 n1 (zl hs'.1) (yL hs'.2)
  | abs=>cases hb;exact xz hc hg (hC.blt _ (by simp[zD])) PyProof.Rows.boot_abs ha n3 n1 (zl hs'.1) (yL hs'.2)
  | max2=>cases hb;exact xz hc hg (hC.blt _ (by simp[zD])) PyProof.Rows.boot_max ha n3 n1 (zl hs'.1) (yL hs'.2)
  | sum=>cases hb;exact xz hc hg (hC.blt _ (by simp[zD])) PyProof.Rows.boot_sum ha n3 n1 (zl hs'.1) (yL hs'.2)
  | all=>cases hb;exact xz hc hg (hC.blt _ (by simp[zD])) PyProof.Rows.boot_all ha n3 n1 (zl hs'.1) (yL hs'.2)
  | sortI=>cases hb;exact xz hc hg (hC.blt _ (by simp[zD])) PyProof.Rows.boot_sorted ha n3 n1 (zl hs'.1) (yL hs'.2)
 refine PE.imp go λσ H Q h=>?_;obtain ⟨as,env,m,S,G,P⟩:=h;refine ⟨as,env,m,S,G,PostA.bind P λw m1 as1 H1 vs T1 S1 R1 P1=>?_⟩;exact ⟨as1,m1,zL w,S1,R1,P1⟩
theorem zeK (t:Tg):bootBuiltins (Str.ofString (tgT t))=some (.type (tgT t)):=by
 cases t <;> decide +kernel
theorem zgV {C:Ctx}{d:Nat}{t:Tg}{p p':Pos}(hC:CtxOk C X cl d)(hg:X.env.scope.names.lookup ("isinstance" : Str)=some .globalImplicit)(hg':X.env.scope.names.lookup (Str.ofString (tgT t))=some .globalImplicit)
  (hs:zF x=true) (ha:PE X x (tOf X.K (evE cl a))):PE X (.Call (.Name "isinstance" p) [x,.Name (Str.ofString (tgT t)) p'] [] pos) (tOf X.K (evE cl (.isi t a))):=by
 have hm:X.mg (Str.ofString (tgT t))=none:=hC.blt _ (by cases t <;> decide +kernel);have hty:PE X (.Name (Str.ofString (tgT t)) p') (tC (.ty (tgT t))):=zd8 hg' hm (zeK t) rfl (by cases t <;> decide +kernel) (by cases t <;> decide +kernel);refine PE.imp (xz (zcC t) hg (hC.blt _ (by simp[zD])) PyProof.Rows.boot_isinstance (yK ha (yK hty xR) (zl hs)) (by decide +kernel) (by decide +kernel) (zl hs) rfl) λσ H Q h=>?_;obtain ⟨as,env,m,S,G,P⟩:=h;refine ⟨as,env,m,S,G,Post.bind P λw m1 as1 H1 v T1 S1 R1 P1=>?_⟩;exact ⟨as1,m1,w,v,rfl,S1,R1,P1⟩
theorem zgW {xs:List Expr}(ha:PA X xs (kK X.K (evE cl a))):PE X (.List xs pos) (tOf X.K (evE cl (.lst a))):=by
 refine PE.imp (zgw ha) λσ H Q h=>?_;obtain ⟨as,env,m,S,G,P⟩:=h;refine ⟨as,env,m,S,G,PostA.bind P λw m1 as1 H1 vs T1 S1 R1 P1=>?_⟩;obtain ⟨h1,h2⟩:=xD S1 R1 P1;exact ⟨Nat.le_trans h1 y1,h2⟩
set_option tactic.hygienic true in
theorem zgX {xs:List Expr}{k:Nat}(ha:PA X xs (kK X.K (evE cl a))):PE X (.Tuple xs k pos) (tOf X.K (evE cl (.tup a))):=by
 refine PE.imp (zgv ha) λσ H Q h=>?_;obtain ⟨as,env,m,S,G,P⟩:=h;refine ⟨as,env,m,S,G,PostA.bind P λw m1 as1 H1 vs T1 S1 R1 P1=>?_⟩;split at P1
 .rename_i hl;refine ⟨by rw[<- R1.length];exact Nat.le_trans hl y1,λp hp=>?_⟩;obtain ⟨T,S',R'⟩:=S1.tup hp R1;exact P1 _ _ _ T S' R'
 .exact P1.elim
theorem zgY (ha:PE X x (tOf X.K (evE cl a)))(hb:PE X y (tOf X.K (evE cl b)))(hs:kJ y=true):PE X (.Subscript x y pos) (tOf X.K (evE cl (.idx a b))):=by
 have hp:zas y:=λo i=>by cases y <;> first | rfl | cases hs
 refine PE.imp (zie zgA ha hb hp) λσ H Q h=>?_;obtain ⟨as,env,m,S,G,P⟩:=h;refine ⟨as,env,m,S,G,Post.bind P λx m1 as1 H1 v T1 S1 R1 P1=>?_⟩;refine ⟨as1,env,m1,S1,G.mono S T1,Post.bind P1 λy m2 as2 H2 u T2 S2 R2 P2=>?_⟩;exact zgM S2 (R1.mono S1 T2) R2 P2
end
section
variable {cl:Nat->List Wd->Me->Rz}{X:Cx}{a b c:Ex}{x y z:Expr}{pos:Pos}
set_option tactic.hygienic true in
theorem zcK {K:PySem.W.Frag}{as:List Addr}{H:Hp}{m:Me}{Q:VK}{w:Wd}{v:V}{lo hi:Option Int}(S:Sim K as m H)(R:Rep K as H w v)(h:Post K as H Q (slR w lo hi m)):zii K v lo hi H Q:=by
 have hs:∀ (n d:Nat) (o:Option Int),sIx n d o=HT.sIx n d o:=λn d o=>by cases o <;> rfl
 unfold slR at h;split at h
 .rename_i xs hx;have hsq:xA m w=some xs:=by
   cases w with
   | rol ys=>exact hx
   | ref l=>exact hx
   | _=>cases hx
  have key:∃p vs,v=.ref p/\SqL K H p vs/\RepL K as H xs vs:=by
   cases w with
   | rol ys =>
    cases hx;obtain ⟨p,vs,rfl,q,r⟩:=rep_rol.mp R;exact ⟨p,vs,rfl,q.sq,r⟩
   | ref l =>
    obtain ⟨p,hp,rfl⟩:=rep_ref.mp R;obtain ⟨p',vs,hp',e,r⟩:=yt S (zX hx);rw[hp] at hp';cases hp';exact ⟨p,vs,rfl,SqL.of e,r⟩
   | _=>cases hx
  obtain ⟨p,vs,rfl,q,r⟩:=key;refine ⟨p,vs,rfl,q,?_⟩;have e:(vs.drop (sIx xs.length 0 lo)).take (sIx xs.length xs.length hi - sIx xs.length 0 lo)=zbh vs lo hi:=by
   unfold zbh;rw[r.length,hs,hs]
  rw[<- e];exact (xD S ((r.drop _).take _) h).2
 .exact h.elim
theorem zgZ {p2:Pos}(ha:PE X x (tOf X.K (evE cl a)))(hb:PE X y (tOf X.K (evE cl b))):PE X (.Subscript x (.Slice (some y) none none p2) pos) (tOf X.K (evE cl (.slL a b))):=by
 refine PE.imp (kB jK ha (v6 hb) zar) λσ H Q h=>?_;obtain ⟨as,env,m,S,G,P⟩:=h;refine ⟨as,env,m,S,G,Post.bind P λx m1 as1 H1 v T1 S1 R1 P1=>?_⟩;refine ⟨as1,env,m1,S1,G.mono S T1,Post.bind P1 λy m2 as2 H2 u T2 S2 R2 P2=>?_⟩;cases y with
 | int i=>exact ⟨i,rep_int.mp R2,zcK S2 (R1.mono S1 T2) P2⟩
 | _=>exact P2.elim
theorem zg0 {p2:Pos}(ha:PE X x (tOf X.K (evE cl a)))(hb:PE X y (tOf X.K (evE cl b))):PE X (.Subscript x (.Slice none (some y) none p2) pos) (tOf X.K (evE cl (.slH a b))):=by
 refine PE.imp (kB jK ha zar (v6 hb)) λσ H Q h=>?_;obtain ⟨as,env,m,S,G,P⟩:=h;refine ⟨as,env,m,S,G,Post.bind P λx m1 as1 H1 v T1 S1 R1 P1=>?_⟩;refine ⟨as1,env,m1,S1,G.mono S T1,Post.bind P1 λy m2 as2 H2 u T2 S2 R2 P2=>?_⟩;cases y with
 | int i=>exact ⟨i,rep_int.mp R2,zcK S2 (R1.mono S1 T2) P2⟩
 | _=>exact P2.elim
theorem zg1 {p2:Pos}(ha:PE X x (tOf X.K (evE cl a)))(hb:PE X y (tOf X.K (evE cl b)))(hc:PE X z (tOf X.K (evE cl c))):PE X (.Subscript x (.Slice (some y) (some z) none p2) pos) (tOf X.K (evE cl (.slB a b c))):=by
 refine PE.imp (kB jK ha (v6 hb) (v6 hc)) λσ H Q h=>?_;obtain ⟨as,env,m,S,G,P⟩:=h;refine ⟨as,env,m,S,G,Post.bind P λx m1 as1 H1 v T1 S1 R1 P1=>?_⟩;refine ⟨as1,env,m1,S1,G.mono S T1,Post.bind P1 λy m2 as2 H2 u T2 S2 R2 P2=>?_⟩;cases y with
 | int i =>
  refine ⟨i,rep_int.mp R2,as2,env,m2,S2,(G.mono S T1).mono S1 T2,Post.bind P2 λz m3 as3 H3 t T3 S3 R3 P3=>?_⟩;cases z with
  | int j=>exact ⟨j,rep_int.mp R3,zcK S3 ((R1.mono S1 T2).mono S2 T3) P3⟩
  | _=>exact P3.elim
 | _=>exact P2.elim
theorem base_of {e:Expr}{f:Str}{env:Env}(h:jS e=true):attributeBase e f env (eval e env)=eval e env:=by
 cases e <;> first | rfl | cases h
theorem zg2 {cp:Pos}{env:Env}{ys:List Expr}(h:ys.all zF=true)(hl:ys.length < 29):
  ((backTo cp (starEach ys env)).all (λx=>! x.1) && (backToKw cp (keywordEach [] env)).all (λx=>x.1.isSome)
   && decide (ys.length+([]:List Keyword).length+(if ([]:List Keyword).isEmpty then 0 else 1) < 30))=true:=by
 have all:∀ {es:List Expr},es.all zF=true->(backTo cp (starEach es env)).all (λx=>! x.1)=true:=by
  intro es
  induction es with
  | nil=>intro _;rfl
  | cons e es ih =>
   intro h;rw[List.all_cons,Bool.and_eq_true] at h;rw[zl h.1];show (true && (backTo cp (starEach es env)).all (λx=>! x.1))=true;rw[ih h.2];rfl
 rw[all h];have e2:(backToKw cp (keywordEach [] env)).all (λx=>x.1.isSome)=true:=rfl;rw[e2];have e3:decide (ys.length+([]:List Keyword).length+(if ([]:List Keyword).isEmpty then 0 else 1) < 30)=true:=by
  apply decide_eq_true;show ys.length+0+0 < 30;lia
 rw[e3];rfl
theorem zcL (k:Mth):Slot "list" (mtV k).1 (mtV k).2/\typeOf (.builtin (mtV k).2)=pure (.type "method_descriptor"):=by
 cases k with
 | append=>exact ⟨PySem.F.slot_list_append,PySem.F.type_list_append⟩
 | pop=>exact ⟨PySem.F.slot_list_pop,PySem.F.type_list_pop⟩
 | reverse=>exact ⟨PySem.F.slot_list_reverse,PySem.F.type_list_reverse⟩
 | clear=>exact ⟨PySem.F.slot_list_clear,PySem.F.type_list_clear⟩
 | insert=>exact ⟨PySem.F.slot_list_insert,PySem.F.type_list_insert⟩
theorem zeL {K:PySem.W.Frag}{as:List Addr}{H:Hp}{Q:VK}{b:Bool}{r:Rz}(h:Post K as H Q (match b with | true=>r | false=>.no)):b=true/\Post K as H Q r:=by
 cases b with
 | true=>exact ⟨rfl,h⟩
 | false=>exact h.elim
theorem zg3 {w:Wd}{m:Me}(h:yU w m=true):∃l,w=.ref l/\(zK m l).isSome=true:=by
 cases w with
 | ref l =>
  refine ⟨l,rfl,?_⟩;unfold yU isLst at h;unfold zK;cases e:m[l]? with
  | none=>simp[e] at h
  | some o =>
   cases o with
   | lst xs=>rfl
   | dct ks us=>simp[e] at h
 | _=>cases h
theorem zg4 {K:PySem.W.Frag}{as:List Addr}{H:Hp}{m:Me}{w:Wd}{v:V}(S:Sim K as m H)(R:Rep K as H w v)(hw:∃l,w=.ref l/\(zK m l).isSome=true):tyV K "list" v H:=by
 obtain ⟨l,rfl,hs⟩:=hw;obtain ⟨p,hp,rfl⟩:=rep_ref.mp R;obtain ⟨xs,hs⟩:=Option.isSome_iff_exists.mp hs;obtain ⟨p',us,hp',e,_⟩:=yt S (zX hs);rw[hp] at hp';cases hp';exact .inl ⟨rfl,us,SqL.of e⟩
theorem zeM {k:Mth}{ap:Pos}{ys:List Expr}(ho:PE X x (tOf X.K (evE cl a)))(ha:PA X (y::ys) (kK X.K (evE cl b)))(hx:jS x=true)(hl:(ap.endLine == pos.line)=true)(hn:(y::ys).length < 29)(hs:(y::ys).all zF=true):
  PE X (.Call (.Attribute x (mtV k).1 ap) (y::ys) [] pos) (tOf X.K (evE cl (.meth k a b))):=by
 obtain ⟨f1,f2⟩:=zcL k;have hs':=hs;rw[List.all_cons,Bool.and_eq_true] at hs';refine PE.imp (zij PySem.F.plainAttrs_list f1 f2 (zgN k) ho ha (base_of hx) (zg2 hs hn) hl (zl hs'.1) (yL hs'.2)) λσ H Q h=>?_;obtain ⟨as,env,m,S,G,P⟩:=h;refine ⟨as,env,m,S,G,Post.bind P λw m1 as1 H1 v T1 S1 R1 P1=>?_⟩;obtain ⟨hl',P1⟩:=zeL P1;refine ⟨zg4 S1 R1 (zg3 hl'),?_⟩;refine ⟨as1,env,m1,S1,G.mono S T1,PostA.bind P1 λw2 m2 as2 H2 vs T2 S2 R2 P2=>?_⟩;exact ⟨as2,m2,w,zL w2,S2,R1.mono S1 T2,R2,P2⟩
theorem gO {K:PySem.W.Frag}{as:List Addr}{H:Hp}{m:Me}{R:It->Hp->Prop}{i j:Int}(S:Sim K as m H)(h:PostI K as H R (zbo (.int i) (.int j) (.int 1) m)):(-(2 ^ 62)<=i/\i < 2 ^ 62/\-(2 ^ 62)<=j/\j < 2 ^ 62)/\R (Itr i (j - i).toNat) H:=by
 have h':PostI K as H R (if -lim<=i/\i<=lim/\-lim<=j/\j<=lim/\((1:Int)=1\/(1:Int)=-1) then .ok (.tup (qK i 1 (wY i j 1))) m else .no):=h;by_cases hc:-(lim:Int)<=i/\i<=lim/\-(lim:Int)<=j/\j<=lim/\((1:Int)=1\/(1:Int)=-1)
 .rw[if_pos hc] at h';have hlim:(lim:Int)=100000:=rfl;refine ⟨by lia,h'.2 as H _ .refl S ?_⟩;have e:wY i j 1=(j - i).toNat:=if_pos rfl;rw[e];exact ⟨_,λ_=>True,zbr i (j - i).toNat (K:=K),trivial,kI 1 (j - i).toNat i,λ_ _ _ _=>trivial⟩
 .rw[if_neg hc] at h';exact h'.elim
theorem PostI.bind {K:PySem.W.Frag}{as:List Addr}{H:Hp}{R:It->Hp->Prop}{Q1:VK}{r:Rz}{f:Wd->Me->Rz}(h:PostI K as H R (r.bind f))
  (k:∀w m' as' H' v,Step as H as' H'->Sim K as' m' H'->Rep K as' H' w v->PostI K as' H' R (f w m')->Q1 v H'):Post K as H Q1 r:=by
 cases r with
 | ok w m' =>
  intro as2 H2 v U S Rr;refine k w m' as2 H2 v U S Rr ?_;have h':PostI K as H R (f w m'):=h;cases hr:f w m' with
  | ok w2 m2=>rw[hr] at h';exact ⟨h'.1,λas3 H3 J U3 S3 q=>h'.2 as3 H3 J (U.trans U3) S3 q⟩
  | exc c w2 m2=>rw[hr] at h';exact h'
  | no=>rw[hr] at h';exact h'
 | exc c w m'=>exact h
 | no=>exact h
theorem zeN {C:Ctx}{d:Nat}{p:Pos}{tg:Expr}(hC:CtxOk C X cl d)(hg:X.env.scope.names.lookup ("range" : Str)=some .globalImplicit)(hs:zF x=true)(hb:PE X x (tOf X.K (evE cl b))):
  PI X tg (.Call (.Name "range" p) [x] [] pos) (iOf X.K (evE cl (.rng (.lit (.int 0)) b (.lit (.int 1))))):=by
 refine PI.imp (zba hg (hC.blt _ (by simp[zD])) (yK hb xR (zl hs)) (zl hs)) λσ H R h=>?_;obtain ⟨as,env,m,S,G,P⟩:=h;have P':PostI X.K as H R ((evE cl b env m).bind λy m2=>zbo (.int 0) y (.int 1) m2):=P;refine ⟨as,env,m,S,G,PostI.bind P' λw m1 as1 H1 v T1 S1 R1 P1=>?_⟩;cases w with
 | int j =>
  obtain rfl:=rep_int.mp R1;obtain ⟨⟨_,_,h1,h2⟩,q⟩:=gO S1 P1;refine ⟨j,rfl,h1,h2,?_⟩;simpa using q
 | _=>exact P1.elim
theorem zeO {C:Ctx}{d:Nat}{p:Pos}{tg:Expr}(hC:CtxOk C X cl d)(hg:X.env.scope.names.lookup ("range" : Str)=some .globalImplicit)(hs:zF x=true)(hs':zF y=true)(ha:PE X x (tOf X.K (evE cl a)))(hb:PE X y (tOf X.K (evE cl b))):
  PI X tg (.Call (.Name "range" p) [x,y] [] pos) (iOf X.K (evE cl (.rng a b (.lit (.int 1))))):=by
 refine PI.imp (zbb hg (hC.blt _ (by simp[zD])) (yK ha (yK hb xR (zl hs')) (zl hs)) (by rw[zl hs,zl hs'];rfl) (zl hs')) λσ H R h=>?_;obtain ⟨as,env,m,S,G,P⟩:=h;have P':PostI X.K as H R ((evE cl a env m).bind λx m1=>(evE cl b env m1).bind λy m2=>zbo x y (.int 1) m2):=P;refine ⟨as,env,m,S,G,PostI.bind P' λw m1 as1 H1 v T1 S1 R1 P1=>?_⟩;refine ⟨as1,env,m1,S1,G.mono S T1,PostI.bind P1 λw2 m2 as2 H2 u T2 S2 R2 P2=>?_⟩;cases w with
 | int i =>
  cases w2 with
  | int j =>
   obtain rfl:=rep_int.mp R1;obtain rfl:=rep_int.mp R2;obtain ⟨hb,q⟩:=gO S2 P2;exact ⟨i,j,rfl,hb,q⟩
  | _=>exact P2.elim
 | _=>cases w2 <;> exact P2.elim
theorem zeP {C:Ctx}{d:Nat}{p p' pos':Pos}(hC:CtxOk C X cl d)(hgl:X.env.scope.names.lookup ("list" : Str)=some .globalImplicit)(hg:X.env.scope.names.lookup ("range" : Str)=some .globalImplicit)(hs:zF x=true)(ha:PE X x (tOf X.K (evE cl a))):
  PE X (.Call (.Name "list" p) [.Call (.Name "range" p') [x] [] pos'] [] pos) (tOf X.K (evE cl (.lrng a))):=by
 refine PE.imp (zew hC.calm hgl (hC.blt _ (by simp[zD])) hg (hC.blt _ (by simp[zD])) (yK ha xR (zl hs)) (zl hs)) λσ H Q h=>?_;obtain ⟨as,env,m,S,G,P⟩:=h;refine ⟨as,env,m,S,G,Post.bind P λw m1 as1 H1 v T1 S1 R1 P1=>?_⟩;cases w with
 | int j =>
  obtain rfl:=rep_int.mp R1;have hlim:(lim:Int)=100000:=rfl;have P1':Post X.K as1 H1 Q (if -(lim:Int)<=j/\j<=lim then alloc m1 (qK 0 1 j.toNat) else .no):=P1;by_cases hc:-(lim:Int)<=j/\j<=lim
  .rw[if_pos hc] at P1';obtain ⟨h1,h2⟩:=xD S1 (kI 1 j.toNat 0) P1';have hz:j.toNat<=sizeLine:=Nat.le_trans (by have:lim=100000:=rfl;lia) y1;exact ⟨j,rfl,by lia,by lia,hz,h2⟩
  .rw[if_neg hc] at P1';exact P1'.elim
 | _=>exact P1.elim
end
end Mini
namespace L2
open PySem PySem.Spec PyProof.Rows
section
variable {X:Cx}{pins:List (Addr×Obj)}{σ:St}{H:Hp}{s:Shared}{h':Heap}
theorem zjS {t':Nat}{ch:List Addr}{T:Addr}{xs:List V}{its:List Value}(I:Inv X pins σ H s)(hf:∀b∈ch,vY X pins H b)(k:∀b o,b∉ch->s.heap.get? b=some o->h'.get? b=some o)
  (hT:s.heap.objs.size<=T) (hz:xs.length<=sizeLine) (hv:Vals xs its) (ht:IsTup h' T its.toArray):Inv X pins σ (upd H T (.tup xs)) { s with heap:=h',toks:=t' }:=by
 have hn:H T=none:=I.hok.fresh hT;have nit:∀b u,H b=some u->b∉ch:=λb u e z=>by rw[(hf b z).1] at e;cases e
 have up:∀b u,H b=some u->upd H T (.tup xs) b=some u:=λb u e=>by rw[zn (zU e hn)];exact e
 refine I.step (g':=s.gens) (d':=s.drawn) (ch:=ch) (λb hb=>?_) (λb o _ _ hc e _=>k b o hc e) (λb o _ _ hc e _=>⟨o.slots,k b o hc e⟩) (λb o hc e n=>?_)
  (λb o hc e=>⟨o,k b o hc e⟩) (λb _ e=>up b _ e) (λb _ _ e=>up b _ e) (λb ps e=>⟨#[],by rw[up b _ e];simp⟩) (λm hm=>?_) (λb u e=>?_) I.bare
 .obtain ⟨f0,f1,f2,f3,f4,f5⟩:=hf b hb;exact ⟨f3,f1,f4,f5⟩
 .rw[zn (Nat.ne_of_lt (Nat.lt_of_lt_of_le (Heap.lt_size e) hT))];exact n
 .obtain ⟨o,es,ep,ho,r⟩:=hm;exact ⟨o,es,ep,k _ o (λz=>(hf _ z).2.1 rfl) ho,r⟩
 .by_cases hb:b=T
  .subst hb;rw[zp] at e;cases e;exact ⟨hz,its,hv,ht⟩
  .rw[zn hb] at e;refine (I.hok b u e).stay (λc v hc q=>k c v ?_ q) (λc q=>up c _ q) λc _ q=>up c _ q;rcases hc with z | z
   .rw[z];exact nit b u e
   .exact nit c _ z
theorem Inv.turnedL {t':Nat}{ch:List Addr}(I:Inv X pins σ H s)(hf:∀b∈ch,vY X pins H b)(k:∀b o,b∉ch->s.heap.get? b=some o->h'.get? b=some o):Inv X pins σ H { s with heap:=h',toks:=t' }:=by
 have nit:∀b u,H b=some u->b∉ch:=λb u e z=>by rw[(hf b z).1] at e;cases e
 refine I.step (g':=s.gens) (d':=s.drawn) (ch:=ch) (λb hb=>?_) (λb o _ _ hc e _=>k b o hc e) (λb o _ _ hc e _=>⟨o.slots,k b o hc e⟩) (λb o hc e n=>n)
  (λb o hc e=>⟨o,k b o hc e⟩) (λb _ e=>e) (λb _ _ e=>e) (λb ps e=>⟨#[],by rw[e];simp⟩) (λm hm=>?_) (λb u e=>?_) I.bare
 .obtain ⟨f0,f1,f2,f3,f4,f5⟩:=hf b hb;exact ⟨f3,f1,f4,f5⟩
 .obtain ⟨o,es,ep,ho,r⟩:=hm;exact ⟨o,es,ep,k _ o (λz=>(hf _ z).2.1 rfl) ho,r⟩
 .refine (I.hok b u e).stay (λc v hc q=>k c v ?_ q) (λc q=>q) λc _ q=>q;rcases hc with z | z
  .rw[z];exact nit b u e
  .exact nit c _ z
end
def Yp (H:Hp)(v:V)(H':Hp)(x y:V):Prop:=∃T,H T=none/\v=.ref T/\H'=upd H T (.tup [x,y])
noncomputable def Itz (K:PySem.W.Frag)(l1 l2:Addr):It :=
 ⟨λi H=>∃xs ys x y,SqL K H l1 xs/\SqL K H l2 ys/\xs[i]?=some x/\ys[i]?=some y,
  λi H v H'=>∃x y,Yp H v H' x y/\(∀xs,SqL K H l1 xs->xs[i]?=some x)/\∀ys,SqL K H l2 ys->ys[i]?=some y,
  λi H=>∃xs ys,SqL K H l1 xs/\SqL K H l2 ys/\(xs.length<=i\/ys.length<=i)⟩
noncomputable def Ite (K:PySem.W.Frag)(c:Nat)(l:Addr):It :=
 ⟨λi H=>∃xs x,SqL K H l xs/\xs[i]?=some x,
  λi H v H'=>∃x,Yp H v H' (.int ((i+c:Nat):Int)) x/\∀xs,SqL K H l xs->xs[i]?=some x,
  λi H=>∃xs,SqL K H l xs/\xs.length<=i⟩
theorem zbs {prog:Program}{w:World}{A:Around}(hh:A.handled=none)(it l:Addr)(hne:l≠it)(items:Array Value)(c:Nat):
  Draws prog w A it [it,l] (items.size+c) (λi x=>∃j,i=j+c/\items[j]?=some x) (λi h=>∃j,i=j+c/\h.IsListIter it l j/\h.IsList l items):=by
 have D:=Draws.list (prog:=prog) (w:=w) hh it l hne items;refine ⟨λi h st=>?_,λi h h' st k=>?_,λi s Q E hi st hQ=>?_,λs Q E st hE=>?_⟩
 .obtain ⟨j,_,h1,h2⟩:=st;exact D.live j h ⟨h1,h2⟩
 .obtain ⟨j,e,h1,h2⟩:=st;obtain ⟨q1,q2⟩:=D.frame j h h' ⟨h1,h2⟩ k;exact ⟨j,e,q1,q2⟩
 .obtain ⟨j,rfl,h1,h2⟩:=st;refine D.item j s Q E (by lia) ⟨h1,h2⟩ λx h' tk p q sb=>hQ x h' tk ⟨j,rfl,p⟩ ⟨j+1,by lia,q.1,q.2⟩ sb
 .obtain ⟨j,e,h1,h2⟩:=st;have e':j=items.size:=by lia
  subst e';exact D.done s Q E ⟨h1,h2⟩ hE
theorem zcM {prog:Program}{w:World}{A:Around}(hh:A.handled=none)(it l:Addr)(items:Array Value){i:Nat}(hi:items[i]?=none):
  Draws prog w A it [it,l] 0 (λ_ _=>True) (λk h=>k=0/\h.IsListIter it l i/\h.IsList l items):=by
 refine ⟨λk h st=>?_,λk h h' st q=>?_,λk s Q E hk st hQ=>absurd hk (Nat.not_lt_zero _),λs Q E st hE=>?_⟩
 .obtain ⟨o,ho,_⟩:=st.2.1;exact ⟨o,ho⟩
 .exact ⟨st.1,st.2.1.at λo e=>q it (by simp) o e,st.2.2.at λo e=>q l (by simp) o e⟩
 .exact wpAny_nextOf_list_end hh st.2.1 st.2.2 hi hE
theorem zcN {P:Program}{w:World}{K:PySem.W.Frag}{elts:List Expr}{k:Nat}{pt:Pos}(z TI TO i1 i2 l1 l2:Addr)(D:ZipApart z TI TO i1 i2 l1 l2):
  Turn P w K (.Tuple elts k pt) (Itz K l1 l2) [z,TI,TO,i1,i2] z (λi h=>IsZip h z TI TO .none/\IsPair h TI (.ref i1) (.ref i2)/\(∃a b,IsPair h TO a b)/\h.IsListIter i1 l1 i/\h.IsListIter i2 l2 i) where
 mem:=by simp
 obj:=λi h st b hb=>by
  obtain ⟨hz,hTI,⟨a,c,hTO⟩,⟨o1,e1,c1,d1⟩,o2,e2,c2,d2⟩:=st;simp only[List.mem_cons,List.not_mem_nil,or_false] at hb;rcases hb with rfl | rfl | rfl | rfl | rfl
  .exact ⟨_,hz,λv z=>by cases z⟩
  .exact ⟨_,hTI,λv z=>by cases z⟩
  .exact ⟨_,hTO,λv z=>by cases z⟩
  .exact ⟨_,e1,λv z=>by rw[d1] at z;cases z⟩
  .exact ⟨_,e2,λv z=>by rw[d2] at z;cases z⟩
 keep:=λi h h' st k=>by
  obtain ⟨hz,hTI,⟨a,c,hTO⟩,h1,h2⟩:=st;exact ⟨k z (by simp) _ hz,k TI (by simp) _ hTI,⟨a,c,k TO (by simp) _ hTO⟩,h1.at λo e=>k i1 (by simp) o e,h2.at λo e=>k i2 (by simp) o e⟩
 item:=by
  intro X hP hw hK hc i pins s σ H E I hf st hg;subst hP hw hK;obtain ⟨xs,ys,x,y,hq1,hq2,hx,hy⟩:=hg;obtain ⟨its1,rv1,p1,_⟩:=I.list hq1;obtain ⟨its2,rv2,p2,_⟩:=I.list hq2;obtain ⟨u,hu,ru⟩:=rv1.get hx;obtain ⟨v,hv,rv⟩:=rv2.get hy;obtain ⟨hz,hTI,⟨a,b,hTO⟩,h1,h2⟩:=st;refine wpAny_pyNext_zip_item D hz hTI hTO h1 h2 p1.isList p2.isList (x:=u) (y:=v) (by simpa using hu) (by simpa using hv) λh' a1 a2 a3 a4 a5 a6 hk=>?_;refine ⟨_,rfl,wpAny_letOwnedTupleGo_zip (s:={ s with heap:=h' }) a1 λh'' hz' hs'=>?_⟩;have sT:z < s.heap.objs.size:=Heap.lt_size hz;have kk:∀b o,b∉[z,TI,TO,i1,i2]->s.heap.get? b=some o->h''.get? b=some o:=λb o hb e =>
   (hs'.2 b λq=>hb (by simp[q])).trans (hk b o (λq=>hb (by simp[q])) (λq=>hb (by simp[q])) (λq=>hb (by simp[q])) (λq=>hb (by simp[q])) e)
  refine ⟨.ref s.heap.objs.size,upd H s.heap.objs.size (.tup [x,y]),?_,rfl,⟨x,y,⟨_,I.hok.fresh (Nat.le_refl _),rfl,rfl⟩,λzs hz=>by rw[I.list_inj hz hq1];exact hx,λzs hz=>by rw[I.list_inj hz hq2];exact hy⟩,?_,?_⟩
  .have I1:Inv X pins σ (upd H s.heap.objs.size (.tup [x,y])) { s with heap:=h'',toks:=s.toks }:=zjS (s:=s) (its:=[u,v]) I hf kk (Nat.le_refl _) (show (2:Nat)<=sizeLine by decide) (.cons ru (.cons rv .nil)) ⟨_,(hs'.2 _ (Nat.ne_of_gt sT)).trans a5,rfl,_,rfl⟩;exact I1
  .refine ⟨hz',?_,⟨u,v,?_⟩,?_,?_⟩
   .exact (hs'.2 TI D.TIz).trans (hk TI _ D.TIz D.TITO D.TIi1 D.TIi2 hTI)
   .exact (hs'.2 TO D.TOz).trans a2
   .exact a3.at λo e=>(hs'.2 i1 D.i1z).trans e
   .exact a4.at λo e=>(hs'.2 i2 D.i2z).trans e
  .intro b hb;have hlt:b < s.heap.objs.size:=by
    simp only[List.mem_cons,List.not_mem_nil,or_false] at hb;obtain ⟨_,e1,_⟩:=h1;obtain ⟨_,e2,_⟩:=h2;rcases hb with rfl | rfl | rfl | rfl | rfl
    .exact sT
    .exact Heap.lt_size hTI
    .exact Heap.lt_size hTO
    .exact Heap.lt_size e1
    .exact Heap.lt_size e2
   rw[zn (Nat.ne_of_lt hlt)];exact (hf b hb).1
 done:=by
  intro X hP hw hK hc i pins s σ H E I hf st hg;subst hP hw hK;obtain ⟨xs,ys,hq1,hq2,hx⟩:=hg;obtain ⟨its1,rv1,p1,_⟩:=I.list hq1;obtain ⟨its2,rv2,p2,_⟩:=I.list hq2;obtain ⟨hz,hTI,⟨a,b,hTO⟩,h1,h2⟩:=st;have l1:=rv1.length;have l2:=rv2.length;refine wpAny_pyNext_zip_end (I.ok.hd hc) D hz hTI hTO h1 h2 p1.isList p2.isList ?_ λh' hk=>⟨rfl,?_⟩
  .rcases hx with hx | hx
   .exact .inl (by simp;lia)
   .exact .inr (by simp;lia)
  .exact I.turnedL (t':=s.toks) hf λb o hb e=>hk b o (λq=>hb (by simp[q])) (λq=>hb (by simp[q])) (λq=>hb (by simp[q])) (λq=>hb (by simp[q])) e
 self:=λ_ _ _ _ _ st h=>wpAny_pyIter_zip st.1 h
theorem jw {P:Program}{w:World}{K:PySem.W.Frag}{elts:List Expr}{k:Nat}{pt:Pos}(c:Nat)(e it l:Addr)(hei:e≠it)(hle:l≠e)(hli:l≠it):
  Turn P w K (.Tuple elts k pt) (Ite K c l) [e,it] e (λi h=>(∃old,IsEnum h e it ((i+c:Nat):Int) old)/\h.IsListIter it l i) where
 mem:=by simp
 obj:=λi h st b hb=>by
  obtain ⟨⟨old,he⟩,o1,e1,c1,d1⟩:=st;simp only[List.mem_cons,List.not_mem_nil,or_false] at hb;rcases hb with rfl | rfl
  .exact ⟨_,he,λv z=>by cases z⟩
  .exact ⟨_,e1,λv z=>by rw[d1] at z;cases z⟩
 keep:=λi h h' st k=>by
  obtain ⟨⟨old,he⟩,h1⟩:=st;exact ⟨⟨old,k e (by simp) _ he⟩,h1.at λo q=>k it (by simp) o q⟩
 item:=by
  intro X hP hw hK hc i pins s σ H E I hf st hg;subst hP hw hK;obtain ⟨xs,x,hq1,hx⟩:=hg;obtain ⟨its1,rv1,p1,_⟩:=I.list hq1;obtain ⟨u,hu,ru⟩:=rv1.get hx;obtain ⟨⟨old,he⟩,h1⟩:=st;have hil:i < its1.length:=(List.getElem?_eq_some_iff.mp hu).1;have D:=zbs (prog:=X.prog) (w:=X.w) (A:=X.A.in1) (I.ok.hd hc) it l hli its1.toArray c;refine wpAny_pyNext_enum_itemD D he ⟨i,rfl,h1,p1.isList⟩ (by simp;lia) hei (by simp[hei,Ne.symm hle]) λx' h' tk px a1 st' a3 a4 hk=>?_;obtain ⟨j,ej,hj⟩:=px;have ej':i=j:=by lia
  subst ej';have hxu:x'=u:=by
   have:its1[i]?=some x':=by simpa using hj
   rw[hu] at this;cases this;rfl
  subst hxu;obtain ⟨j',ej',a2,_⟩:=st';have e2:j'=i+1:=by lia
  subst e2;refine ⟨_,rfl,wpAny_letOwnedTupleGo_enum (s:={ s with heap:=h',toks:=tk+1 }) a1 λh'' he' hs'=>?_⟩;have sT:e < s.heap.objs.size:=Heap.lt_size he;have kk:∀b o,b∉[e,it]->s.heap.get? b=some o->h''.get? b=some o:=λb o hb q =>
   (hs'.2 b λz=>hb (by simp[z])).trans (hk b o (λz=>hb (by simp[z])) (λz=>hb (by simp[z])) q)
  refine ⟨.ref s.heap.objs.size,upd H s.heap.objs.size (.tup [.int ((i+c:Nat):Int),x]),?_,rfl,⟨x,⟨_,I.hok.fresh (Nat.le_refl _),rfl,rfl⟩,λzs hz=>by rw[I.list_inj hz hq1];exact hx⟩,?_,?_⟩
  .have I1:Inv X pins σ (upd H s.heap.objs.size (.tup [.int ((i+c:Nat):Int),x])) { s with heap:=h'',toks:=tk+1 }:=zjS (s:=s) (its:=[.int ((i+c:Nat):Int) tk,x']) I hf kk (Nat.le_refl _) (show (2:Nat)<=sizeLine by decide) (.cons ⟨_,rfl⟩ (.cons ru .nil)) ⟨_,(hs'.2 _ (Nat.ne_of_gt sT)).trans a3,rfl,_,rfl⟩;exact I1
  .refine ⟨⟨x',?_⟩,a2.at λo q=>(hs'.2 it hei.symm).trans q⟩;have:((i+1+c:Nat):Int)=((i+c:Nat):Int)+1:=by lia
   rw[this];exact he'
  .intro b hb;have hlt:b < s.heap.objs.size:=by
    simp only[List.mem_cons,List.not_mem_nil,or_false] at hb;obtain ⟨_,e1,_⟩:=h1;rcases hb with rfl | rfl
    .exact sT
    .exact Heap.lt_size e1
   rw[zn (Nat.ne_of_lt hlt)];exact (hf b hb).1
 done:=by
  intro X hP hw hK hc i pins s σ H E I hf st hg;subst hP hw hK;obtain ⟨xs,hq1,hx⟩:=hg;obtain ⟨its1,rv1,p1,_⟩:=I.list hq1;obtain ⟨⟨old,he⟩,h1⟩:=st;have l1:=rv1.length;have D:=zcM (prog:=X.prog) (w:=X.w) (A:=X.A.in1) (I.ok.hd hc) it l its1.toArray (i:=i) (by simp;lia);refine wpAny_pyNext_enum_endD D he ⟨rfl,h1,p1.isList⟩ λh' hk=>⟨rfl,?_⟩;exact I.turnedL (t':=s.toks) hf λb o hb q=>hk b o (λz=>hb (by simp[z])) q
 self:=λ_ _ _ _ _ st h=>by
  obtain ⟨⟨old,he⟩,_⟩:=st;exact wpAny_pyIter_enum he h
section
variable {X:Cx}{elts:List Expr}{k:Nat}{pt:Pos}
def ziw (K:PySem.W.Frag)(ta:TA):TI:=λσ H R=>ta σ H λvs H1=>∃l1 l2 xs ys,vs=[.ref l1,.ref l2]/\SqL K H1 l1 xs/\SqL K H1 l2 ys/\R (Itz K l1 l2) H1
def zcO (K:PySem.W.Frag)(c:Nat)(ta:TA):TI:=λσ H R=>ta σ H λvs H1=>∃l xs,vs=[.ref l]/\SqL K H1 l xs/\R (Ite K c l) H1
theorem zcP {a b:Expr}{ta:TA}{p pos:Pos}(hg:Gl X "zip")(hm:X.mg "zip" = none)(ha:PA X [a,b] ta)(hs:starEach [a,b] X.env=[(false,eval a X.env),(false,eval b X.env)]:=by rfl)(hs2:starEach [b] X.env=[(false,eval b X.env)]:=by rfl):
  PI X (.Tuple elts k pt) (.Call (.Name "zip" p) [a,b] [] pos) (ziw X.K ta):=by
 intro pins s σ H R I h;refine Call_ (xQ I hg hm PyProof.Rows.boot_zip (PyProof.Rows.callWith_type1 (thn (ha pos pins s σ H _ I h) λus s1 ⟨vs,H1,I1,r1,q1⟩=>?_) (by rw[hs,hs2]) (by rw[hs2];rfl)));obtain ⟨l1,l2,xs,ys,e,g1,g2,q⟩:=q1;subst e;cases r1 with
 | cons r rr =>
  cases rr with
  | cons r' rr =>
   cases rr;cases r;cases r';obtain ⟨its1,rv1,p1,_⟩:=I1.list g1;obtain ⟨its2,rv2,p2,_⟩:=I1.list g2;have t1:l1 < s1.heap.objs.size:=by obtain ⟨o,e,_⟩:=p1.isList;exact Heap.lt_size e
   have t2:l2 < s1.heap.objs.size:=by obtain ⟨o,e,_⟩:=p2.isList;exact Heap.lt_size e
   refine call_zip_2 p1.isList p2.isList λh' hz hTI hTO hi1 hi2 hsz hk=>?_;refine wpAny_pyIter_zip (s:={ s1 with heap:=h' }) hz ?_;refine ⟨_,_,_,_,H1,rfl,I1.kept (t':=s1.toks) hk,zcN (s1.heap.objs.size+4) (s1.heap.objs.size+2) (s1.heap.objs.size+3) s1.heap.objs.size (s1.heap.objs.size+1) l1 l2 ?_,⟨hz,hTI,⟨_,_,hTO⟩,hi1,hi2⟩,λb hb=>?_,q⟩
   .exact zipApart_new t1 t2
   .have hb':s1.heap.objs.size<=b:=by
     simp only[List.mem_cons,List.not_mem_nil,or_false] at hb;rcases hb with rfl | rfl | rfl | rfl | rfl
     .exact Nat.le_add_right _ _
     .exact Nat.le_add_right _ _
     .exact Nat.le_add_right _ _
     .exact Nat.le_refl _
     .exact Nat.le_add_right _ _
    exact I1.fpOk hb' (I1.hok.fresh hb')
theorem zaG {a:Expr}{ta:TA}{p pos:Pos}(hg:Gl X "enumerate")(hm:X.mg "enumerate" = none)(ha:PA X [a] ta)(hs:starEach [a] X.env=[(false,eval a X.env)]:=by rfl):
  PI X (.Tuple elts k pt) (.Call (.Name "enumerate" p) [a] [] pos) (zcO X.K 0 ta):=by
 intro pins s σ H R I h;refine Call_ (xQ I hg hm PyProof.Rows.boot_enumerate (PyProof.Rows.callWith_type1 (thn (ha pos pins s σ H _ I h) λus s1 ⟨vs,H1,I1,r1,q1⟩=>?_) hs rfl));obtain ⟨l,xs,e,g1,q⟩:=q1;subst e;cases r1 with
 | cons r rr =>
  cases rr;cases r;obtain ⟨its1,rv1,p1,_⟩:=I1.list g1;have t1:l < s1.heap.objs.size:=by obtain ⟨o,e,_⟩:=p1.isList;exact Heap.lt_size e
  refine call_enumerate_list p1.isList λh' he hi hsz hk=>?_;refine wpAny_pyIter_enum (s:={ s1 with heap:=h' }) he ?_;refine ⟨_,_,_,_,H1,rfl,I1.kept (t':=s1.toks) hk,jw 0 (s1.heap.objs.size+1) s1.heap.objs.size l (Nat.succ_ne_self _) (Nat.ne_of_lt (Nat.lt_succ_of_lt t1)) (Nat.ne_of_lt t1),⟨⟨_,he⟩,hi⟩,λb hb=>?_,q⟩;have hb':s1.heap.objs.size<=b:=by
   simp only[List.mem_cons,List.not_mem_nil,or_false] at hb;rcases hb with rfl | rfl
   .exact Nat.le_add_right _ _
   .exact Nat.le_refl _
  exact I1.fpOk hb' (I1.hok.fresh hb')
end
end L2
namespace L2
open PySem PySem.Spec PyProof.Rows
open AutoSeq1 (wpAny_loadPart')
section
set_option tactic.hygienic true in
theorem gP (l:Addr)(items:Array Value)(n:Nat)(dct:Option Addr)(sl:Array (Option Value))(t:Tok):
  Meets (Builtin.«enumerate.__new__» ⟨[.type "enumerate",.ref l],[("start",.int 1 t)]⟩) (λ_ R s=>s.heap.get? l=some { cls:=.type "list",dict:=dct,data:=.seq items n,slots:=sl } /\
   R (.ok (.ret (.ref (s.heap.push { cls:=.type "list_iterator",data:=.fields #[.ref l,.int 0 0] }).objs.size)))
    { s with heap:=(s.heap.push { cls:=.type "list_iterator",data:=.fields #[.ref l,.int 0 0] }).push { cls:=.type "enumerate",data:=.fields #[.none,.bool false,.ref s.heap.objs.size,rawInt 1,.none,.none] } }) :=
 .of_wp λprog w A R s h=>by
  obtain ⟨hp,g,d,tk,os⟩:=s;obtain ⟨hl,h⟩:=h;have hsub:=sub_enumerate;have hL:Heap.IsList (Shared.heap ⟨hp,g,d,tk,os⟩) l items:=⟨_,hl,rfl,n,rfl⟩
  wp_walk using wpAny_loadPart' hl
  refine wpAny_stack_any λst=>wpAny_pure ?_;split
  .rename_i c _ _ _ _ _;cases (c == Value.type "enumerate") <;> (wp_walk using wpAny_loadPart' hl,wpAny_pyIter_list hL;exact ⟨_,rfl,h⟩)
  .wp_walk using wpAny_loadPart' hl,wpAny_pyIter_list hL
   exact ⟨_,rfl,h⟩
variable {prog:Program}{w:World}{A:Around}{E:Value->Shared->Prop}{s:Shared}
theorem zix {self:Value}{rest:List Value}{kw:List (Str×Value)}(hr:rest≠[]):
  Meets (Builtin.«object.__init__» ⟨self::rest,kw⟩) (λ_ R s=>s.TypeIs self "enumerate" /\ R (.ok (.ret .none)) s):=by
 have hl:=(F.called_enumerate).init.lookup;have hm:=(F.called_enumerate).made;have hne:(some "enumerate.__new__" != some "object.__new__")=true:=by decide
 refine Meets.of_wp λprog w A R s ⟨hT,hq⟩=>?_;cases rest with
 | nil=>exact absurd rfl hr
 | cons a rest =>
  repeat (any_goals (first | assumption | wp_step))
  exact ⟨_,rfl,hq⟩
theorem zbt (a b:Value):checkTypeCall "enumerate" ⟨[a],[("start",b)]⟩=pure ():=by kernel_rfl
theorem zcQ (a b:Value):checkBuiltinCall "enumerate.__new__" ⟨[.type "enumerate",a],[("start",b)]⟩=pure ():=by kernel_rfl
theorem ziy (o a b:Value):argsOk "object.__init__" ⟨[o,a],[("start",b)]⟩:=by
 have sg:=signature?_of (id := "object.__init__") (n := "__init__".toList.reverse) (o := "object".toList.reverse) (by kernel_rfl) F.owner_object;unfold argsOk;rw[sg];kernel_rfl
theorem qO {l:Addr}{items:Array Value}{t:Tok}{Q:Value->Shared->Prop}(hL:s.heap.IsList l items)
  (h:∀h',IsEnum h' (s.heap.objs.size+1) s.heap.objs.size 1 .none->h'.IsListIter s.heap.objs.size l 0->(∀b o,s.heap.get? b=some o->h'.get? b=some o)->Q (.ref (s.heap.objs.size+1)) { s with heap:=h' }) :
  wpAny (model prog w) A (call (.type "enumerate") [.ref l] [("start",.int 1 t)]) Q E s:=by
 obtain ⟨⟨c0,dct,dt,sl⟩,hl,hc,n,hd⟩:=hL;obtain rfl:c0=.type "list" := hc;obtain rfl:dt=.seq items n:=hd;have ft:=F.called_enumerate;obtain ⟨m0,tl,hmro⟩:=ft.mro;have k1:=ft.made;have k2:=ft.sub;have k3:=ft.notType;have k4:=ft.canCreate;have kc:=zbt (.ref l) (.int 1 t);apply wpAny_call;apply codeAny_of_tree;show wpAny _ _ (callAny (.type "enumerate") _) _ _ _;apply wpAny_pure;refine ⟨Code.quiet_builtin _ (by decide +kernel),?_⟩;apply codeAny_builtin F.entry_type_call;rw[Around.under_plain (weight_type_call_type _ _ _) (units_type_call_type _ _ _)]
 repeat (any_goals (first | assumption | wp_step))
 let Q1:Value->Shared->Prop:=λv s1=>v=.ref (s.heap.objs.size+1)/\∃h',s1={ s with heap:=h' }/\IsEnum h' (s.heap.objs.size+1) s.heap.objs.size 1 .none/\h'.IsListIter s.heap.objs.size l 0/\∀b o,s.heap.get? b=some o->h'.get? b=some o
 have hz:(s.heap.push { cls:=.type "list_iterator",data:=.fields #[.ref l,.int 0 0] }).objs.size=s.heap.objs.size+1:=Heap.size_push _ _;have pre:wants Q1 E (.ok (.ret (.ref (s.heap.push { cls:=.type "list_iterator",data:=.fields #[.ref l,.int 0 0] }).objs.size)))
    { s with heap:=(s.heap.push { cls:=.type "list_iterator",data:=.fields #[.ref l,.int 0 0] }).push { cls:=.type "enumerate",data:=.fields #[.none,.bool false,.ref s.heap.objs.size,rawInt 1,.none,.none] } }:=by
  refine ⟨by rw[hz],_,rfl,?_,⟨_,Heap.get?_push_of_some _ (Heap.get?_push_size _ rfl),rfl,rfl⟩,λb o x=>Heap.get?_push_of_some _ (Heap.get?_push_of_some _ x)⟩;have:=Heap.get?_push_size (s.heap.push { cls:=.type "list_iterator",data:=.fields #[.ref l,.int 0 0] }) (o:={ cls:=.type "enumerate",data:=.fields #[.none,.bool false,.ref s.heap.objs.size,rawInt 1,.none,.none] }) rfl;rw[hz] at this;exact this
 have new:=codeAny_call_builtin (prog:=prog) (w:=w) (A:=A.in1) (R:=wants Q1 E) (s:=s) ft.plain F.entry_enumerate_new (wpAny_of_eq (zcQ (.ref l) (.int 1 t)) (gP l items n dct sl t prog w A.in1 _ s ⟨hl,pre⟩));refine codeAny_mono new λr s1 hr=>?_;cases r with
 | error e=>exact hr
 | ok fl =>
  cases fl with
  | ret obj =>
   obtain ⟨rfl,h',rfl,he,hit,hk⟩:=hr;have hT:Shared.TypeIs { s with heap:=h' } (.ref (s.heap.objs.size+1)) "enumerate" := ⟨_,he,rfl⟩;have hli:=ft.init.lookup;have hbi:=ft.init.bind (.ref (s.heap.objs.size+1))
   repeat (any_goals (first | assumption | wp_step))
   have ini:=codeAny_call_builtin (prog:=prog) (w:=w) (A:=A.in1) (R:=wants (λr s2=>r=.none/\s2={ s with heap:=h' }) E) (s:={ s with heap:=h' }) ft.init.plain F.entry_object_init (ft.init.check _ _ _ _ _ _ _ _ hT (ziy (.ref (s.heap.objs.size+1)) (.ref l) (.int 1 t)) (zix (rest:=[.ref l]) (by simp) prog w A.in1 _ _ ⟨hT,rfl,rfl⟩));refine codeAny_mono ini λr2 s2 hr2=>?_;cases r2 with
   | error e=>exact hr2
   | ok fl2 =>
    cases fl2 with
    | ret r =>
     obtain ⟨rfl,rfl⟩:=hr2;have fin:=h h' he hit hk
     repeat (any_goals (first | assumption | wp_step))
    | _=>exact hr2.elim
  | _=>exact hr.elim
theorem kM {M:Model}{pos:Pos}{T:String}{args:List (Bool×Sem Value)}{ks:List (Option Str×Sem Value)}{Q:Value->Shared->Prop}(h1:args.any (·.1)=false)(h2:ks.any (·.1.isNone)=false)
  (h:wpAny M A (evalArgs (.type T) true args ks) (λa s'=>wpAny M A (call (.type T) ([]++a.pos) a.kw) Q E s') E s):wpAny M A (callWith pos (.type T) [] args ks) Q E s:=by
 unfold callWith;apply wpAny_bind;apply wpAny_holding;refine wpAny_mono h (λa s' h'=>?_) λ_ _ z=>z;apply wpAny_bind;apply wpAny_standAt;simp only[h1,h2,Bool.or_false];apply wpAny_bind;apply wpAny_pure;apply wpAny_bind;exact wpAny_mono h' (λr s2 hr=>wpAny_bind (wpAny_holding (wpAny_point (wpAny_pure hr)))) λ_ _ z=>z
end
section
variable {X:Cx}{elts:List Expr}{k:Nat}{pt:Pos}
theorem zcR {a:Expr}{ta:TA}{p pos kp cp:Pos}{ck}(hg:Gl X "enumerate")(hm:X.mg "enumerate" = none)(ha:PA X [a] ta)(hs:starEach [a] X.env=[(false,eval a X.env)]:=by rfl):
  PI X (.Tuple elts k pt) (.Call (.Name "enumerate" p) [a] [⟨some "start",.Constant (.int 1) ck cp,kp⟩] pos) (zcO X.K 1 ta):=by
 intro pins s σ H R I h;refine wpAny_Call_Name_kw (xQ I hg hm PyProof.Rows.boot_enumerate ?_);have hb:backTo pos (starEach [a] X.env)=[(false,eval a X.env)]:=by rw[hs];rfl
 refine kM (by rw[hb];rfl) rfl ?_;have ha':=ha pos pins s σ H _ I h;rw[hb] at ha' ⊢;refine PyProof.Rows.evalArgs_kwB rfl (thn ha' λus s1 ⟨vs,H1,I1,r1,q1⟩=>?_);refine thn (zeo (X:=X) (zb7 (X:=X) (i:=1)) zgy pos pins s1 σ H1 (λws H2=>ws=[.int 1]/\H2=H1) I1 ⟨rfl,rfl⟩) λkus s2 ⟨ws,H2,I2,r2,e2,e3⟩=>?_;subst e2;subst e3;obtain ⟨l,xs,e,g1,q⟩:=q1;subst e;cases r1 with
 | cons r rr =>
  cases rr;cases r;cases r2 with
  | cons r2 rr2 =>
   cases rr2;obtain ⟨t,rfl⟩:=r2;obtain ⟨its1,rv1,p1,_⟩:=I2.list g1;have t1:l < s2.heap.objs.size:=by obtain ⟨o,e,_⟩:=p1.isList;exact Heap.lt_size e
   refine qO p1.isList λh' he hi hk=>?_;refine wpAny_pyIter_enum (s:={ s2 with heap:=h' }) he ?_;refine ⟨_,_,_,_,H2,rfl,I2.kept (t':=s2.toks) hk,jw 1 (s2.heap.objs.size+1) s2.heap.objs.size l (Nat.succ_ne_self _) (Nat.ne_of_lt (Nat.lt_succ_of_lt t1)) (Nat.ne_of_lt t1),⟨⟨_,he⟩,hi⟩,λb hb=>?_,q⟩;have hb':s2.heap.objs.size<=b:=by
    simp only[List.mem_cons,List.not_mem_nil,or_false] at hb;rcases hb with rfl | rfl
    .exact Nat.le_add_right _ _
    .exact Nat.le_refl _
   exact I2.fpOk hb' (I2.hok.fresh hb')
end
end L2
namespace Mini
open PySem PySem.Spec PyProof.Rows L2
section
variable {cl:Nat->List Wd->Me->Rz}{K:PySem.W.Frag}
theorem Sim.updD {as:List Addr}{m:Me}{H:Hp}{D:Addr}{ys:List V}{o:HO}(S:Sim K as m H)(hD:H D=some (.lst ys))(hn:D∉as):Sim K as m (upd H D o):=by
 refine ⟨S.len,S.nd,λl b ob h1 h2=>?_⟩;have q:=S.obj l b ob h1 h2;have hb:b≠D:=by rintro rfl;exact hn (List.mem_of_getElem? h1)
 cases ob with
 | lst zs =>
  obtain ⟨us,e,r⟩:=q;exact ⟨us,by rw[zn hb];exact e,r.kp (Kp.upd hD)⟩
 | dct ks ws=>exact RepO.mono (ob:=.dct ks ws) (Kp.upd hD) (λ_ _ e=>e) (λo e=>by rw[zn hb];exact e) q
theorem Sim.join {as:List Addr}{m:Me}{H:Hp}{D:Addr}{ys:List V}{acc:List Wd}(S:Sim K as m H)(hD:H D=some (.lst ys))(hn:D∉as)(R:RepL K as H acc ys):Sim K (as++[D]) (m++[.lst acc]) H:=by
 have g:∀ (l:Nat) (a:Addr),as[l]?=some a->(as++[D])[l]?=some a:=λl a e=>by
  rw[List.getElem?_append_left (List.getElem?_eq_some_iff.mp e).1];exact e
 have kp:Kp K H H:=⟨λ_ _ h=>h,λ_ _ h=>h⟩;refine ⟨by simp[S.len],?_,λl b o h1 h2=>?_⟩
 .refine List.nodup_append.mpr ⟨S.nd,by simp,λx hx y hy=>?_⟩;rw[List.mem_singleton.mp hy];rintro rfl;exact hn hx
 .by_cases hl:l < as.length
  .rw[List.getElem?_append_left hl] at h1;rw[List.getElem?_append_left (by rw[<- S.len];exact hl)] at h2;have q:=S.obj l b o h1 h2;cases o with
   | lst zs =>
    obtain ⟨us,e,r⟩:=q;exact ⟨us,e,repL_mono kp g _ _ r⟩
   | dct ks ws=>exact RepO.mono (ob:=.dct ks ws) kp g (λo e=>e) q
  .rw[List.getElem?_append_right (by lia)] at h1;rw[List.getElem?_append_right (by rw[<- S.len];lia)] at h2;have hz:l - as.length=0:=by
    cases hq:l - as.length with
    | zero=>rfl
    | succ k=>rw[hq] at h1;simp at h1
   rw[hz] at h1;rw[<- S.len,hz] at h2;simp at h1 h2;subst h1;subst h2;exact ⟨ys,hD,repL_mono kp g _ _ R⟩
theorem Step.updD {as as':List Addr}{H H':Hp}{D:Addr}{o:HO}(T:Step as H as' H')(hD:H D=none):Step as H as' (upd H' D o) :=
 ⟨T.pre,λb ob h hb=>by rw[zn (zU h hD)];exact T.frame b ob h hb,T.fresh⟩
theorem Step.join {as as':List Addr}{H H':Hp}{D:Addr}(T:Step as H as' H')(hD:H D=none):Step as H (as'++[D]) H':=by
 refine ⟨?_,T.frame,λa ha=>?_⟩
 .obtain ⟨t,rfl⟩:=T.pre;exact ⟨t++[D],by simp⟩
 .rcases List.mem_append.mp ha with z | z
  .exact T.fresh a z
  .rw[List.mem_singleton.mp z];exact .inr hD
theorem w5 {as as':List Addr}{m:Me}{H H':Hp}{D:Addr}{ys:List V}{acc:List Wd}{Q:VK}(S:Sim K as' m H')(T:Step as H as' H')(h0:H D=none)(hD:H' D=some (.lst ys))(hn:D∉as')(R:RepL K as' H' acc ys)
  (h:Post K as H Q (alloc m acc)):Q (.ref D) H':=by
 unfold Mini.alloc at h;split at h
 .refine h (as'++[D]) H' (.ref D) (T.join h0) (S.join hD hn R) (rep_ref.mpr ⟨D,?_,rfl⟩);rw[<- S.len,List.getElem?_append_right (Nat.le_refl _)];simp
 .exact h.elim
structure Mid (K:PySem.W.Frag)(as:List Addr)(H:Hp)(D:Addr)(env:En)(σ:St)(as':List Addr)(m':Me)(acc:List Wd)(ys:List V)(H':Hp):Prop where
 T:Step as H as' H'
 S:Sim K as' m' H'
 hD:H' D=some (.lst ys)
 n:D∉as'
 R:RepL K as' H' acc ys
 G:EnvRep K as' H' env σ
theorem Mid.go {as:List Addr}{H:Hp}{D:Addr}{env:En}{σ:St}{as' as2:List Addr}{m' m2:Me}{acc:List Wd}{ys:List V}{H' H2:Hp}(M:Mid K as H D env σ as' m' acc ys H')(U:Step as' H' as2 H2)(S2:Sim K as2 m2 H2):Mid K as H D env σ as2 m2 acc ys H2 :=
 ⟨M.T.trans U,S2,U.frame _ _ M.hD M.n,U.out M.hD M.n,M.R.mono M.S U,M.G.mono M.S U⟩
theorem Mid.push {as:List Addr}{H:Hp}{D:Addr}{env:En}{σ:St}{as':List Addr}{m':Me}{acc:List Wd}{ys:List V}{H':Hp}{w:Wd}{v:V}(M:Mid K as H D env σ as' m' acc ys H')(h0:H D=none)(R:Rep K as' H' w v):
  Mid K as H D env σ as' m' (acc++[w]) (ys++[v]) (upd H' D (.lst (ys++[v]))):=by
 have kp:Kp K H' (upd H' D (.lst (ys++[v]))):=Kp.upd M.hD;exact ⟨M.T.updD h0,M.S.updD M.hD M.n,zp,M.n,(M.R.append (.one R)).kp kp,M.G.kp kp⟩
set_option tactic.hygienic true in
theorem vA {elt cond:Ex}{tc:TT}(htc:∀σ H Q,xC K (evE cl cond) σ H Q->tc σ H Q){as1 as':List Addr}{H1 H':Hp}{D:Addr}{env ex:En}{σ sx:St}{m':Me}{acc:List Wd}{ys:List V}{Q:VK}{next:List Wd->Me->Rz}{N:List V->Hp->Prop}
  (h0:H1 D=none) (M:Mid K as1 H1 D env σ as' m' acc ys H') (G:EnvRep K as' H' (env++ex) (σ++sx))
  (Pt:Post K as1 H1 Q ((evE cl cond (env++ex) m').bind λb m1=>match b with
     | .bl true=>(evE cl elt (env++ex) m1).bind λy m2=>if acc.length < lim then next (acc++[y]) m2 else .no
     | .bl false=>next acc m1
     | _=>.no))
  (hN:∀as2 m2 acc' ys' H2,Kp K H' H2->(∀ (l:Nat) (a:Addr),as'[l]?=some a->as2[l]?=some a)->Mid K as1 H1 D env σ as2 m2 acc' ys' H2->Post K as1 H1 Q (next acc' m2)->N ys' H2) :
  tc (σ++sx) H' λb H2=>if b=true then tOf K (evE cl elt) (σ++sx) H2 λy H3=>H3 D=some (.lst ys)/\ys.length < sizeLine/\N (ys++[y]) (upd H3 D (.lst (ys++[y]))) else N ys H2:=by
 refine htc _ _ _ ⟨as',env++ex,m',M.S,G,zjW Pt M.T λwb m2 as2 H2 vb T2 S2 R2 P2=>?_⟩;have M2:=M.go T2 S2;cases wb with
 | bl k =>
  obtain rfl:=rep_bl.mp R2;refine ⟨k,rfl,?_⟩;cases k with
  | false=>exact qE (hN as2 m2 acc ys H2 (M.S.kp T2) (λ_ _ e=>T2.get e) M2 P2)
  | true =>
   refine qF ⟨as2,env++ex,m2,S2,G.mono M.S T2,zjW P2 M2.T λwy m3 as3 H3 vy T3 S3 R3 P3=>?_⟩;have M3:=M2.go T3 S3;have P3':Post K as1 H1 Q (if acc.length < lim then next (acc++[wy]) m3 else .no):=P3;by_cases hl:acc.length < lim
   .rw[if_pos hl] at P3';refine ⟨M3.hD,by rw[<- M3.R.length];exact Nat.lt_of_lt_of_le hl y1,hN as3 m3 (acc++[wy]) (ys++[vy]) _ ?_ (λ_ _ e=>T3.get (T2.get e)) (M3.push h0 R3) P3'⟩;have k1:=M.S.kp T2;have k2:=S2.kp T3;have k3:Kp K H3 (upd H3 D (.lst (ys++[vy]))):=Kp.upd M3.hD;exact ⟨λa vs q=>k3.t _ _ (k2.t _ _ (k1.t _ _ q)),λa vs q=>k3.f _ _ (k2.f _ _ (k1.f _ _ q))⟩
   .rw[if_neg hl] at P3';exact P3'.elim
 | _=>exact P2.elim
theorem Mid.start {as as1:List Addr}{H H1:Hp}{D:Addr}{env:En}{σ:St}{m1:Me}(S1:Sim K as1 m1 H1)(G1:EnvRep K as1 H1 env σ)(hD:H1 D=none):Mid K as1 H1 D env σ as1 m1 [] [] (upd H1 D (.lst [])):=by
 have T:Step as1 H1 as1 (upd H1 D (.lst [])):=Step.updD .refl hD;exact ⟨T,S1.keep T λb _ o e=>by rw[zn (zU e hD)];exact e,zp,S1.new hD,repL_nil.mpr rfl,G1.mono S1 T⟩
def qP (K:PySem.W.Frag)(as:List Addr)(J:It)(g:Nat->Me->Option (Option (Wd×Wd))):Prop :=
 ∀ (as':List Addr) (m':Me) (H':Hp),(∀ (l:Nat) (a:Addr),as[l]?=some a->as'[l]?=some a)->Sim K as' m' H'->∀i,
  (g i m'=some none->J.stop i H')/\∀x y,g i m'=some (some (x,y))->J.go i H'/\∀v H'',J.yld i H' v H''->∃x' y',Yp H' v H'' x' y'/\Rep K as' H' x x'/\Rep K as' H' y y'
theorem kN {elt cond:Ex}{tc:TT}(htc:∀σ H Q,xC K (evE cl cond) σ H Q->tc σ H Q){as1:List Addr}{H1:Hp}{env:En}{σ:St}{m1:Me}{J:It}{g:Nat->Me->Option (Option (Wd×Wd))}{Q:VK}(hJ:qP K as1 J g)(S1:Sim K as1 m1 H1)(G1:EnvRep K as1 H1 env σ)
  (P:Post K as1 H1 Q (xb (λu v m=>evE cl cond (env++[some u]++[some v]) m) (λu v m=>evE cl elt (env++[some u]++[some v]) m) g (lim+1) 0 [] m1)) :
  ∀D,H1 D=none->∃W:Nat->Nat->List V->Hp->Prop,(∃m,W 0 m [] (upd H1 D (.lst [])))/\∀i m ys H,W i m ys H ->
   (J.stop i H/\Q (.ref D) H)\/(J.go i H/\∀v H',J.yld i H v H'->∃vs,un2 K v H' vs/\tc (σ++vs.map some) H' λb H2=>if b=true then tOf K (evE cl elt) (σ++vs.map some) H2 λy H3=>H3 D=some (.lst ys)/\ys.length < sizeLine/\∃m',m' < m/\W (i+1) m' (ys++[y]) (upd H3 D (.lst (ys++[y])))
    else ∃m',m' < m/\W (i+1) m' ys H2):=by
 intro D hD;refine ⟨λi n ys H'=>∃as' m' acc,(∀ (l:Nat) (a:Addr),as1[l]?=some a->as'[l]?=some a)/\Mid K as1 H1 D env σ as' m' acc ys H' /\
  Post K as1 H1 Q (xb (λu v m=>evE cl cond (env++[some u]++[some v]) m) (λu v m=>evE cl elt (env++[some u]++[some v]) m) g n i acc m'),⟨lim+1,as1,m1,[],λ_ _ e=>e,Mid.start (as:=as1) (H:=H1) S1 G1 hD,P⟩,?_⟩
 rintro i n ys H' ⟨as',m',acc,hl,M,Pi⟩;cases n with
 | zero=>exact Pi.elim
 | succ n =>
  unfold xb at Pi;obtain ⟨q1,q2⟩:=hJ as' m' H' hl M.S i;cases e:g i m' with
  | none=>rw[e] at Pi;exact Pi.elim
  | some o =>
   rw[e] at Pi;cases o with
   | none=>exact .inl ⟨q1 e,w5 M.S M.T hD M.hD M.n M.R Pi⟩
   | some p =>
    obtain ⟨x,y⟩:=p;simp only[] at Pi;obtain ⟨go,yl⟩:=q2 x y e;refine .inr ⟨go,λv H'' hy=>?_⟩;obtain ⟨x',y',⟨T,hT,rfl,rfl⟩,Rx,Ry⟩:=yl v H'' hy;refine ⟨[x',y'],⟨T,rfl,SqT.of zp,rfl⟩,?_⟩;have U:Step as' H' as' (upd H' T (.tup [x',y'])):=Step.updD .refl hT;have S2:Sim K as' m' (upd H' T (.tup [x',y'])):=M.S.keep U λb _ o e=>by rw[zn (zU e hT)];exact e
    have M2:=M.go U S2;have G2:EnvRep K as' (upd H' T (.tup [x',y'])) (env++[some x,some y]) (σ++[x',y'].map some):=by
     have:=(M2.G.push (Rx.mono M.S U)).push (Ry.mono M.S U);simpa using this
    refine vA htc (ex:=[some x,some y]) (next:=λacc m=>xb (λu v m=>evE cl cond (env++[some u]++[some v]) m) (λu v m=>evE cl elt (env++[some u]++[some v]) m) g n (i+1) acc m)
     (N:=λzs H2=>∃n',n' < n+1/\∃as' m' acc,(∀ (l:Nat) (a:Addr),as1[l]?=some a->as'[l]?=some a)/\Mid K as1 H1 D env σ as' m' acc zs H2/\Post K as1 H1 Q (xb (λu v m=>evE cl cond (env++[some u]++[some v]) m) (λu v m=>evE cl elt (env++[some u]++[some v]) m) g n' (i+1) acc m')) hD M2 G2 (by rw[show env++[some x]++[some y]=env++[some x,some y] from by simp] at Pi;exact Pi) ?_
    intro as2 m2 acc' ys' H2 kp gg M3 P3;exact ⟨n,Nat.lt_succ_self _,as2,m2,acc',λl a e=>gg _ _ (hl l a e),M3,P3⟩
theorem qQ {as:List Addr}{la lb:Nat}{a b:Addr}(ha:as[la]?=some a)(hb:as[lb]?=some b):qP K as (Itz K a b) (yj .zip (.ref la) (.ref lb)):=by
 intro as' m' H' hl S i;simp only[yj];cases e1:zK m' la with
 | none=>exact ⟨λz=>by simp at z,λx y z=>by simp at z⟩
 | some xs =>
  cases e2:zK m' lb with
  | none=>exact ⟨λz=>by simp at z,λx y z=>by simp at z⟩
  | some ys =>
   obtain ⟨a',us,ha',eH,RL⟩:=yt S (zX e1);rw[hl _ _ ha] at ha';cases ha';obtain ⟨b',vs,hb',eH2,RL2⟩:=yt S (zX e2);rw[hl _ _ hb] at hb';cases hb';simp only;cases ex:xs[i]? with
   | none =>
    refine ⟨λ_=>⟨us,vs,SqL.of eH,SqL.of eH2,.inl ?_⟩,λx y z=>by simp at z⟩;rw[<- RL.length];exact List.getElem?_eq_none_iff.mp ex
   | some x =>
    cases ey:ys[i]? with
    | none =>
     refine ⟨λ_=>⟨us,vs,SqL.of eH,SqL.of eH2,.inr ?_⟩,λx y z=>by simp at z⟩;rw[<- RL2.length];exact List.getElem?_eq_none_iff.mp ey
    | some y =>
     refine ⟨λz=>by simp at z,λx2 y2 z=>?_⟩;simp only[Option.some.injEq,Prod.mk.injEq] at z;obtain ⟨rfl,rfl⟩:=z;obtain ⟨u0,hu0,Ru⟩:=RL.get ex;obtain ⟨v0,hv0,Rv⟩:=RL2.get ey;refine ⟨⟨us,vs,u0,v0,SqL.of eH,SqL.of eH2,hu0,hv0⟩,λv H'' hy=>?_⟩;obtain ⟨p,q,yp,k1,k2⟩:=hy;have:=k1 us (SqL.of eH);rw[hu0] at this;cases this;have:=k2 vs (SqL.of eH2);rw[hv0] at this;cases this;exact ⟨_,_,yp,Ru,Rv⟩
theorem gQ {as:List Addr}{la c:Nat}{a:Addr}(ha:as[la]?=some a):qP K as (Ite K c a) (yj .enum (.ref la) (.int (c:Int))):=by
 intro as' m' H' hl S i;simp only[yj];cases e1:zK m' la with
 | none=>exact ⟨λz=>by simp at z,λx y z=>by simp at z⟩
 | some xs =>
  obtain ⟨a',us,ha',eH,RL⟩:=yt S (zX e1);rw[hl _ _ ha] at ha';cases ha';simp only;cases ex:xs[i]? with
  | none =>
   refine ⟨λ_=>⟨us,SqL.of eH,?_⟩,λx y z=>by simp at z⟩;rw[<- RL.length];exact List.getElem?_eq_none_iff.mp ex
  | some x =>
   refine ⟨λz=>by simp at z,λx2 y2 z=>?_⟩;simp only[Option.map_some,Option.some.injEq,Prod.mk.injEq] at z;obtain ⟨rfl,rfl⟩:=z;obtain ⟨u0,hu0,Ru⟩:=RL.get ex;refine ⟨⟨us,u0,SqL.of eH,hu0⟩,λv H'' hy=>?_⟩;obtain ⟨p,yp,k1⟩:=hy;have:=k1 us (SqL.of eH);rw[hu0] at this;cases this;exact ⟨_,_,yp,rep_int.mpr (by congr 1;lia),Ru⟩
theorem bind_ok {w:Wd}{m:Me}{f:Wd->Me->Rz}:(Rz.ok w m).bind f=f w m:=rfl
theorem kO {c e:Wd->Wd->Me->Rz}{g:Nat->Me->Option (Option (Wd×Wd))}{k i:Nat}{acc:List Wd}{m:Me}(h:g i m=none):xb c e g (k+1) i acc m=.no:=by
 unfold xb;rw[h]
set_option tactic.hygienic true in
theorem qR {w w2:Wd}{i:Nat}{m:Me}{o:Option (Wd×Wd)}(e:yj .zip w w2 i m=some o):∃la lb xs ys,w=.ref la/\w2=.ref lb/\zK m la=some xs/\zK m lb=some ys:=by
 unfold yj at e;split at e
 .next la lb _ =>
  split at e
  .next xs ys e1 e2=>exact ⟨la,lb,xs,ys,rfl,rfl,e1,e2⟩
  .cases e
 .contradiction
 .contradiction
 .contradiction
 .cases e
set_option tactic.hygienic true in
theorem gR {w w2:Wd}{i:Nat}{m:Me}{o:Option (Wd×Wd)}(e:yj .enum w w2 i m=some o):∃la xs,w=.ref la/\zK m la=some xs:=by
 unfold yj at e;split at e
 .next h=>cases h
 .next la s _ =>
  split at e
  .next xs e1=>exact ⟨la,xs,rfl,e1⟩
  .cases e
 .contradiction
 .contradiction
 .cases e
theorem kP {elt a b cond:Ex}{tc:TT}(htc:∀σ H Q,xC K (evE cl cond) σ H Q->tc σ H Q){σ:St}{H:Hp}{Q:VK}(h:tOf K (evE cl (.compP .zip elt a b cond)) σ H Q):
  jq (un2 K) (ziw K (gs (tOf K (evE cl a)) (gs (tOf K (evE cl b)) zem))) tc (tOf K (evE cl elt)) σ H Q:=by
 obtain ⟨as,env,m,S,G,P⟩:=h;have P':Post K as H Q ((evE cl a env m).bind λx m1=>(evE cl b env m1).bind λy m2 =>
  xb (λu v m=>evE cl cond (env++[some u]++[some v]) m) (λu v m=>evE cl elt (env++[some u]++[some v]) m) (yj .zip x y) (lim+1) 0 [] m2):=P
 refine ⟨as,env,m,S,G,zjW P' .refl λw m1 as1 H1 v T1 S1 R1 P1=>?_⟩;refine ⟨as1,env,m1,S1,G.mono S T1,zjW P1 T1 λw2 m2 as2 H2 v2 T2 S2 R2 P2=>?_⟩;have P3:=Post.step P2 (T1.trans T2);have G2:=(G.mono S T1).mono S1 T2;have look:∃la lb xs ys,w=.ref la/\w2=.ref lb/\zK m2 la=some xs/\zK m2 lb=some ys:=by
  cases e:yj .zip w w2 0 m2 with
  | none=>rw[kO e] at P3;exact P3.elim
  | some o=>exact qR e
 obtain ⟨la,lb,xs,ys,rfl,rfl,e1,e2⟩:=look;obtain ⟨a1,ha1,rfl⟩:=rep_ref.mp R1;obtain ⟨b1,hb1,rfl⟩:=rep_ref.mp R2;have ha2:=T2.get ha1;obtain ⟨a',us,ha',eH,RL⟩:=yt S2 (zX e1);rw[ha2] at ha';cases ha';obtain ⟨b',vs,hb',eH2,RL2⟩:=yt S2 (zX e2);rw[hb1] at hb';cases hb';exact ⟨a1,b1,us,vs,rfl,SqL.of eH,SqL.of eH2,kN htc (qQ ha2 hb1) S2 G2 P3⟩
theorem w6 {c:Nat}{z:Int}(hz:z=(c:Int)){elt a cond:Ex}{tc:TT}(htc:∀σ H Q,xC K (evE cl cond) σ H Q->tc σ H Q){σ:St}{H:Hp}{Q:VK}(h:tOf K (evE cl (.compP .enum elt a (.lit (.int z)) cond)) σ H Q):
  jq (un2 K) (zcO K c (gs (tOf K (evE cl a)) zem)) tc (tOf K (evE cl elt)) σ H Q:=by
 subst hz;obtain ⟨as,env,m,S,G,P⟩:=h;have hl:∀m1,evE cl (.lit (.int (c:Int))) env m1=.ok (.int (c:Int)) m1:=λ_=>rfl;have P':Post K as H Q ((evE cl a env m).bind λx m1=>(evE cl (.lit (.int (c:Int))) env m1).bind λy m2 =>
  xb (λu v m=>evE cl cond (env++[some u]++[some v]) m) (λu v m=>evE cl elt (env++[some u]++[some v]) m) (yj .enum x y) (lim+1) 0 [] m2):=P
 refine ⟨as,env,m,S,G,zjW P' .refl λw m1 as1 H1 v T1 S1 R1 P1=>?_⟩;rw[hl,bind_ok] at P1;have P3:=Post.step P1 T1;have look:∃la xs,w=.ref la/\zK m1 la=some xs:=by
  cases e:yj .enum w (.int (c:Int)) 0 m1 with
  | none=>rw[kO e] at P3;exact P3.elim
  | some o=>exact gR e
 obtain ⟨la,xs,rfl,e1⟩:=look;obtain ⟨a1,ha1,rfl⟩:=rep_ref.mp R1;obtain ⟨a',us,ha',eH,RL⟩:=yt S1 (zX e1);rw[ha1] at ha';cases ha';exact ⟨a1,us,rfl,SqL.of eH,kN htc (gQ ha1) S1 (G.mono S T1) P3⟩
theorem jx {elt it cond:Ex}{tc:TT}(htc:∀σ H Q,xC K (evE cl cond) σ H Q->tc σ H Q){σ:St}{H:Hp}{Q:VK}(h:tOf K (evE cl (.comp elt it cond)) σ H Q):
  jq un1 (iOf K (evE cl it)) tc (tOf K (evE cl elt)) σ H Q:=by
 obtain ⟨as,env,m,S,G,P⟩:=h;refine ⟨as,env,m,S,G,?_⟩;have P':Post K as H Q ((evE cl it env m).bind λx m1=>match x with
  | .tup xs=>xq (λx m=>evE cl cond (env++[some x]) m) (λx m=>evE cl elt (env++[some x]) m) xs [] m1
  | .rol xs=>xq (λx m=>evE cl cond (env++[some x]) m) (λx m=>evE cl elt (env++[some x]) m) xs [] m1
  | .ref l=>xt (λx m=>evE cl cond (env++[some x]) m) (λx m=>evE cl elt (env++[some x]) m) l (lim+1) 0 [] m1
  | _=>.no):=P
 clear P;cases hr:evE cl it env m with
 | no=>rw[hr] at P';exact P'
 | exc c w m'=>rw[hr] at P';exact P'
 | ok w m1 =>
  rw[hr] at P';have start:∀ {as1:List Addr}{H1:Hp}{D:Addr},Step as H as1 H1->Sim K as1 m1 H1->H1 D=none->Mid K as1 H1 D env σ as1 m1 [] [] (upd H1 D (.lst [])):=λ{as1 H1 D} T1 S1 hD=>Mid.start (as:=as) (H:=H) S1 (G.mono S T1) hD
  -- over items that stay
  have seqs:∀ (xs:List Wd),Post K as H Q (xq (λx m=>evE cl cond (env++[some x]) m) (λx m=>evE cl elt (env++[some x]) m) xs [] m1) ->
    ∀as1 H1 J,Step as H as1 H1->Sim K as1 m1 H1->zaE K as1 H1 J xs->∀D,H1 D=none->∃W:Nat->Nat->List V->Hp->Prop,(∃m,W 0 m [] (upd H1 D (.lst [])))/\∀i m ys H,W i m ys H ->
     (J.stop i H/\Q (.ref D) H)\/(J.go i H/\∀v H',J.yld i H v H'->∃vs,un1 v H' vs/\tc (σ++vs.map some) H' λb H2=>if b=true then tOf K (evE cl elt) (σ++vs.map some) H2 λy H3=>H3 D=some (.lst ys)/\ys.length < sizeLine/\∃m',m' < m/\W (i+1) m' (ys++[y]) (upd H3 D (.lst (ys++[y])))
      else ∃m',m' < m/\W (i+1) m' ys H2):=by
   intro xs Pc as1 H1 J T1 S1 hI D hD;obtain ⟨vs,ok,hJ,ok1,RL,stab⟩:=hI;have Pc1:=Post.step Pc T1;have hlen:=RL.length;refine ⟨λi n ys H'=>∃as' m' acc,i<=xs.length/\n=xs.length - i/\Mid K as1 H1 D env σ as' m' acc ys H'/\ok H'/\RepL K as' H' xs vs /\
    Post K as1 H1 Q (xq (λx m=>evE cl cond (env++[some x]) m) (λx m=>evE cl elt (env++[some x]) m) (xs.drop i) acc m'),
    ⟨xs.length,as1,m1,[],Nat.zero_le _,rfl,start T1 S1 hD,stab _ _ (S1.kp (start T1 S1 hD).T) ok1,RL.mono S1 (start T1 S1 hD).T,Pc1⟩,?_⟩
   rintro i n ys H' ⟨as',m',acc,hi,rfl,M,okH,RL',Pi⟩;by_cases hlt:i < xs.length
   .refine .inr ⟨hJ.go i H' okH (by rw[<- hlen];exact hlt),λv H'' hy=>?_⟩;obtain ⟨rfl,hv⟩:=hJ.yld i H' v H'' okH (by rw[<- hlen];exact hlt) hy;obtain ⟨v',hv',Rx⟩:=RL'.get (i:=i) (x:=xs[i]) (by simp[hlt]);rw[hv] at hv';cases hv';rw[List.drop_eq_getElem_cons hlt] at Pi;refine ⟨[v],rfl,vA htc (sx:=[some v]) (next:=λacc m=>xq (λx m=>evE cl cond (env++[some x]) m) (λx m=>evE cl elt (env++[some x]) m) (xs.drop (i+1)) acc m) (N:=λzs H2=>∃n',n' < xs.length - i/\∃as' m' acc,i+1<=xs.length/\n'=xs.length - (i+1)/\Mid K as1 H1 D env σ as' m' acc zs H2/\ok H2/\RepL K as' H2 xs vs/\Post K as1 H1 Q (xq (λx m=>evE cl cond (env++[some x]) m) (λx m=>evE cl elt (env++[some x]) m) (xs.drop (i+1)) acc m')) hD M (M.G.push Rx) Pi ?_⟩;intro as2 m2 acc' ys' H2 kp g M2 P2;exact ⟨xs.length - (i+1),by lia,as2,m2,acc',hlt,rfl,M2,stab _ _ kp okH,repL_mono kp g _ _ RL',P2⟩
   .have e:i=xs.length:=by lia
    subst e;rw[List.drop_length] at Pi;exact .inl ⟨hJ.stop _ H' okH (by lia),w5 M.S M.T hD M.hD M.n M.R Pi⟩
  cases w with
  | tup xs=>exact ⟨rfl,λas1 H1 J T1 S1 hI=>seqs xs P' as1 H1 J T1 S1 hI⟩
  | rol xs=>exact ⟨rfl,λas1 H1 J T1 S1 hI=>seqs xs P' as1 H1 J T1 S1 hI⟩
  | ref l =>
   have P2:Post K as H Q (xt (λx m=>evE cl cond (env++[some x]) m) (λx m=>evE cl elt (env++[some x]) m) l (lim+1) 0 [] m1):=P';refine ⟨?_,λas1 H1 J T1 S1 hI D hD=>?_⟩
   .show (zK m1 l).isSome=true;cases e:zK m1 l with
    | some xs=>rfl
    | none =>
     unfold xt at P2;rw[e] at P2;exact P2.elim
   .obtain ⟨a,ha,rfl⟩:=hI;have Pc1:=Post.step P2 T1;refine ⟨λi n ys H'=>∃as' m' acc,as'[l]?=some a/\Mid K as1 H1 D env σ as' m' acc ys H' /\
     Post K as1 H1 Q (xt (λx m=>evE cl cond (env++[some x]) m) (λx m=>evE cl elt (env++[some x]) m) l n i acc m'),⟨lim+1,as1,m1,[],ha,start T1 S1 hD,Pc1⟩,?_⟩
    rintro i n ys H' ⟨as',m',acc,hl,M,Pi⟩;cases n with
    | zero=>exact Pi.elim
    | succ n =>
     unfold xt at Pi;cases e:zK m' l with
     | none=>rw[e] at Pi;exact Pi.elim
     | some xs =>
      rw[e] at Pi;simp only[] at Pi;obtain ⟨a',vs,ha',eH,RL⟩:=yt M.S (zX e);rw[hl] at ha';cases ha';cases ex:xs[i]? with
      | none =>
       rw[ex] at Pi;have hle:vs.length<=i:=by rw[<- RL.length];exact List.getElem?_eq_none_iff.mp ex
       exact .inl ⟨⟨vs,SqL.of eH,hle⟩,w5 M.S M.T hD M.hD M.n M.R Pi⟩
      | some x =>
       rw[ex] at Pi;obtain ⟨v0,hv0,Rx⟩:=RL.get ex;refine .inr ⟨⟨vs,v0,SqL.of eH,hv0⟩,λv H'' hy=>?_⟩;obtain ⟨rfl,hy⟩:=hy;have:=hy vs (SqL.of eH);rw[hv0] at this;cases this;refine ⟨[v0],rfl,vA htc (sx:=[some v0]) (next:=λacc m=>xt (λx m=>evE cl cond (env++[some x]) m) (λx m=>evE cl elt (env++[some x]) m) l n (i+1) acc m) (N:=λzs H2=>∃n',n' < n+1/\∃as' m' acc,as'[l]?=some a/\Mid K as1 H1 D env σ as' m' acc zs H2/\Post K as1 H1 Q (xt (λx m=>evE cl cond (env++[some x]) m) (λx m=>evE cl elt (env++[some x]) m) l n' (i+1) acc m')) hD M (M.G.push Rx) Pi ?_⟩;intro as2 m2 acc' ys' H2 kp g M2 P2;exact ⟨n,Nat.lt_succ_self _,as2,m2,acc',g _ _ hl,M2,P2⟩
  | non=>exact P'.elim
  | bl k=>exact P'.elim
  | int i=>exact P'.elim
  | str s=>exact P'.elim
end
end Mini
namespace Mini
open PySem L2
end Mini
namespace Mini
open PySem PySem.Spec PyProof.Rows L2
section
variable {cl:Nat->List Wd->Me->Rz}
theorem Snd.pe {X:Cx}{e:Ex}{x:Expr}(h:Snd cl X e (.e x))(hr:zw e=false):PE X x (tOf X.K (evE cl e)):=(h.1 hr).1
theorem Snd.pt {X:Cx}{e:Ex}{x:Expr}(h:Snd cl X e (.e x))(hr:zw e=false)(hi:v4 e=false):PT X x (xC X.K (evE cl e)):=(h.1 hr).2.1 hi
theorem Snd.pw {X:Cx}{e:Ex}{op:BoolOp}{vs:List Expr}{pos:Pos}(h:Snd cl X e (.e (.BoolOp op vs pos)))(hr:zw e=false):PW X (.BoolOp op vs pos) (xC X.K (evE cl e)):=(h.1 hr).2.2 op vs pos rfl
theorem Snd.pa {X:Cx}{e:Ex}{xs:List Expr}(h:Snd cl X e (.a xs)):PA X xs (kK X.K (evE cl e)):=h
theorem zg5 {sc:Scope}{x:Str}(h:zeG sc x=true):Vis sc x:=by
 unfold zeG at h;simp only[Bool.or_eq_true,decide_eq_true_eq] at h;exact h
theorem xN {sc:Scope}{x:Str}(h:glB sc x=true):sc.names.lookup x=some .globalImplicit:=of_decide_eq_true h
theorem v8 {K:PySem.W.Frag}{w:Wd}{v:V}(hv:∀as H,Rep K as H w v):∀σ H Q,tOf K (evE cl (.lit w)) σ H Q->tC v σ H Q:=λσ H Q h=>by
 obtain ⟨as,env,m,S,G,P⟩:=h;exact Post.ok (m:=m) P S (hv as H)
theorem wO {env:Env}{y:Expr}(hs:y3 y=true):∀v,foldedSetIterable y env v=pure v:=λv=>by
 cases y <;> first | rfl | cases hs
def IsE (C:Ctx)(sc:Scope)(N:List Str)(e:Ex)(n:Nd):Prop:=∀ (cl:Nat → List Wd → Me → Rz) (d:Nat) (X:Cx),CtxOk C X cl d → X.env.scope=sc → X.N=N → Snd cl X e n
theorem xw {C:Ctx}{d:Nat}{sc:Scope}{N:List Str}{e:Ex}{n:Nd}(h:IsE C sc N e n):∀X:Cx,CtxOk C X cl d->X.env.scope=sc->X.N=N->Snd cl X e n:=h cl d
theorem IsE.«var» {C:Ctx}{sc:Scope}{N:List Str}{i:Nat}{x:Str}{p:Pos}(h1:N[i]?=some x)(h2:zeG sc x=true)(h3:xn x=true):IsE C sc N (.var i) (.e (.Name x p)):=by
 intro cl d;intro X hC es eN;subst es;subst eN;obtain ⟨n1,n2,_⟩:=vw h3;refine Snd.of (PE.imp (zf7 h1 (zg5 h2) n1 n2) λσ H Q q=>?_);obtain ⟨as,env,m,S,G,P⟩:=q;cases hw:env[i]? with
 | none=>have P':Post X.K as H Q (match env[i]? with | some (some w)=>.ok w m | _=>.no):=P;rw[hw] at P';exact P'.elim
 | some o =>
  cases o with
  | none=>have P':Post X.K as H Q (match env[i]? with | some (some w)=>.ok w m | _=>.no):=P;rw[hw] at P';exact P'.elim
  | some w =>
   have P':Post X.K as H Q (match env[i]? with | some (some w)=>.ok w m | _=>.no):=P;rw[hw] at P';obtain ⟨v,hv,R⟩:=G.get i w hw;exact ⟨v,hv,Post.ok (m:=m) P' S R⟩
theorem IsE.«non» {C:Ctx}{sc:Scope}{N:List Str}{k}{p:Pos}:IsE C sc N (.lit .non) (.e (.Constant .none k p)):=by
 intro cl d;intro X hC es eN;exact Snd.of (PE.imp zf8 (v8 λ_ _=>rep_non.mpr rfl))
theorem IsE.«bl» {C:Ctx}{sc:Scope}{N:List Str}{b:Bool}{k}{p:Pos}:IsE C sc N (.lit (.bl b)) (.e (.Constant (.bool b) k p)):=by
 intro cl d;intro X hC es eN;exact Snd.of (PE.imp zhR (v8 λ_ _=>rep_bl.mpr rfl))
theorem IsE.«int» {C:Ctx}{sc:Scope}{N:List Str}{i:Int}{k}{p:Pos}:IsE C sc N (.lit (.int i)) (.e (.Constant (.int i) k p)):=by
 intro cl d;intro X hC es eN;exact Snd.of (PE.imp zb7 (v8 λ_ _=>rep_int.mpr rfl))
theorem IsE.«con» {C:Ctx}{sc:Scope}{N:List Str}{x:Str}{i:Int}{p:Pos}(h1:glB sc x=true)(h2:C.cons.lookup x=some i)(h3:xn x=true):IsE C sc N (.lit (.int i)) (.e (.Name x p)):=by
 intro cl d;intro X hC es eN;subst es;obtain ⟨n1,n2,_⟩:=vw h3;obtain ⟨t,ht⟩:=hC.con.1 x i h2;exact Snd.of (PE.imp (zd7 (xN h1) ht (v:=.int i) ⟨t,rfl⟩ n1) (v8 λ_ _=>rep_int.mpr rfl))
theorem IsE.«bin» {C:Ctx}{sc:Scope}{N:List Str}{op:Bo}{a b:Ex}{x y:Expr}{p:Pos}(ra:zw a=false)(ha:IsE C sc N a (.e x))(rb:zw b=false)(hb:IsE C sc N b (.e y)):IsE C sc N (.bin op a b) (.e (.BinOp x (opK op) y p)):=by
 intro cl d;have iha:=ha cl d;have ihb:=hb cl d;intro X hC es eN;exact Snd.of (zgP ((iha X hC es eN).pe ra) ((ihb X hC es eN).pe rb))
theorem IsE.«neg» {C:Ctx}{sc:Scope}{N:List Str}{a:Ex}{x:Expr}{p:Pos}(ra:zw a=false)(ha:IsE C sc N a (.e x)):IsE C sc N (.neg a) (.e (.UnaryOp .USub x p)):=by
 intro cl d;have iha:=ha cl d;intro X hC es eN;exact Snd.of (zgQ ((iha X hC es eN).pe ra))
theorem IsE.«not» {C:Ctx}{sc:Scope}{N:List Str}{a:Ex}{x:Expr}{p:Pos}(ra:zw a=false)(ia:v4 a=false)(ha:IsE C sc N a (.e x)):IsE C sc N (.not a) (.e (.UnaryOp .Not x p)):=by
 intro cl d;have iha:=ha cl d;intro X hC es eN;have s1:=iha X hC es eN;exact ⟨λ_=>⟨zcD (s1.pe ra),λ_=>zgR (s1.pt ra ia),λop vs pos z=>by cases z⟩,λtg=>vS (zcD (s1.pe ra))⟩
theorem IsE.«and2» {C:Ctx}{sc:Scope}{N:List Str}{a b:Ex}{x y:Expr}{p:Pos}(ra:zw a=false)(ia:v4 a=false)(ha:IsE C sc N a (.e x))(rb:zw b=false)(ib:v4 b=false)(hb:IsE C sc N b (.e y)):IsE C sc N (.and a b) (.e (.BoolOp .And [x,y] p)):=by
 intro cl d;have iha:=ha cl d;have ihb:=hb cl d;intro X hC es eN;have sa:=iha X hC es eN;have sb:=ihb X hC es eN;have e:=λ(p:Pos)=>zcE (pos:=p) (sa.pe ra) (zb8 (sb.pe rb));have w:=λ(p:Pos)=>zcF (pos:=p) (sa.pt ra ia) (zd9 (sb.pt rb ib));exact ⟨λ_=>⟨e _,λ_=>(w _).pt,λop vs pos z=>by cases z;exact w _⟩,λtg=>vS (e _)⟩
theorem IsE.«andN» {C:Ctx}{sc:Scope}{N:List Str}{a b:Ex}{x y z:Expr}{r:List Expr}{p:Pos}(ra:zw a=false)(ia:v4 a=false)(ha:IsE C sc N a (.e x))(rb:zw b=false)(hb:IsE C sc N b (.e (.BoolOp .And (y::z::r) p))):IsE C sc N (.and a b) (.e (.BoolOp .And (x::y::z::r) p)):=by
 intro cl d;have iha:=ha cl d;have ihb:=hb cl d;intro X hC es eN;have sa:=iha X hC es eN;have sb:=ihb X hC es eN;have e:=zcE (sa.pe ra) (sb.pe rb);have w:=zcF (sa.pt ra ia) (sb.pw rb);exact ⟨λ_=>⟨e,λ_=>w.pt,λop vs pos z=>by cases z;exact w⟩,λtg=>vS e⟩
theorem IsE.«or2» {C:Ctx}{sc:Scope}{N:List Str}{a b:Ex}{x y:Expr}{p:Pos}(ra:zw a=false)(ia:v4 a=false)(ha:IsE C sc N a (.e x))(rb:zw b=false)(ib:v4 b=false)(hb:IsE C sc N b (.e y)):IsE C sc N (.or a b) (.e (.BoolOp .Or [x,y] p)):=by
 intro cl d;have iha:=ha cl d;have ihb:=hb cl d;intro X hC es eN;have sa:=iha X hC es eN;have sb:=ihb X hC es eN;have e:=λ(p:Pos)=>ziu (pos:=p) (sa.pe ra) (zb8 (sb.pe rb));have w:=λ(p:Pos)=>ziv (pos:=p) (sa.pt ra ia) (zga (sb.pt rb ib));exact ⟨λ_=>⟨e _,λ_=>(w _).pt,λop vs pos z=>by cases z;exact w _⟩,λtg=>vS (e _)⟩
theorem IsE.«cmp» {C:Ctx}{sc:Scope}{N:List Str}{op:Co}{a b:Ex}{x y:Expr}{p:Pos}(hs:y3 y=true)(ra:zw a=false)(ha:IsE C sc N a (.e x))(rb:zw b=false)(hb:IsE C sc N b (.e y)):IsE C sc N (.cmp op a b) (.e (.Compare x [cK op] [y] p)):=by
 intro cl d;have iha:=ha cl d;have ihb:=hb cl d;intro X hC es eN;have ea:=(iha X hC es eN).pe ra;have eb:=(ihb X hC es eN).pe rb;exact ⟨λ_=>⟨zcG hC.room.units ea eb hs,λ_=>zgS hC.room.units ea eb hs,λop vs pos z=>by cases z⟩,λtg=>vS (zcG hC.room.units ea eb hs)⟩
theorem IsE.«chain» {C:Ctx}{sc:Scope}{N:List Str}{o q:Co}{a b c:Ex}{x y z:Expr}{p:Pos}(hs:y3 z=true)(ra:zw a=false)(ha:IsE C sc N a (.e x))(rb:zw b=false)(hb:IsE C sc N b (.e y))(rc:zw c=false)(hc:IsE C sc N c (.e z)):IsE C sc N (.chain o q a b c) (.e (.Compare x [cK o,cK q] [y,z] p)):=by
 intro cl d;have iha:=ha cl d;have ihb:=hb cl d;have ihc:=hc cl d;intro X hC es eN;have ea:=(iha X hC es eN).pe ra;have eb:=(ihb X hC es eN).pe rb;have ec:=(ihc X hC es eN).pe rc;exact ⟨λ_=>⟨gN hC.room.units ea eb ec hs,λ_=>zcI hC.room.units ea eb ec hs,λop vs pos z=>by cases z⟩,λtg=>vS (gN hC.room.units ea eb ec hs)⟩
theorem IsE.«ife» {C:Ctx}{sc:Scope}{N:List Str}{a b c:Ex}{x y z:Expr}{p:Pos}(rc:zw c=false)(ic:v4 c=false)(hc:IsE C sc N c (.e x))(ra:zw a=false)(ha:IsE C sc N a (.e y))(rb:zw b=false)(hb:IsE C sc N b (.e z)):IsE C sc N (.ife c a b) (.e (.IfExp x y z p)):=by
 intro cl d;have ihc:=hc cl d;have iha:=ha cl d;have ihb:=hb cl d;intro X hC es eN;have e:=λ(p:Pos)=>zgT (pos:=p) ((ihc X hC es eN).pt rc ic) ((iha X hC es eN).pe ra) ((ihb X hC es eN).pe rb);exact ⟨λ_=>⟨e _,λz=>(by cases z),λop vs pos z=>(by cases z)⟩,λtg=>vS (e _)⟩
theorem IsE.«unit» {C:Ctx}{sc:Scope}{N:List Str}:IsE C sc N .unit (.a []):=by
 intro cl d;intro X hC es eN;exact zeH
theorem IsE.«pair» {C:Ctx}{sc:Scope}{N:List Str}{a b:Ex}{x:Expr}{xs:List Expr}(hs:zF x=true)(ra:zw a=false)(ha:IsE C sc N a (.e x))(hb:IsE C sc N b (.a xs)):IsE C sc N (.pair a b) (.a (x::xs)):=by
 intro cl d;have iha:=ha cl d;have ihb:=hb cl d;intro X hC es eN;exact zeI ((iha X hC es eN).pe ra) (ihb X hC es eN).pa hs
theorem IsE.«call» {C:Ctx}{sc:Scope}{N:List Str}{k:Nat}{a:Ex}{f:Str}{y:Expr}{ys:List Expr}{p p':Pos}(h1:C.fns[k]?=some f)(h2:glB sc f=true)(h3:xn f=true)(hs:(y::ys).all zF=true)(ha:IsE C sc N a (.a (y::ys))):IsE C sc N (.call k a) (.e (.Call (.Name f p) (y::ys) [] p')):=by
 intro cl d;have iha:=ha cl d;intro X hC es eN;subst es;exact Snd.of (zeJ hC h1 (xN h2) h3 hs (iha X hC rfl eN).pa)
theorem IsE.«blt» {C:Ctx}{sc:Scope}{N:List Str}{b:Blf}{a:Ex}{nm:Str}{f:Value}{y:Expr}{ys:List Expr}{p p':Pos}(h1:zeB b=some (nm,f))(h2:glB sc nm=true)(h3:xn nm=true)(hs:(y::ys).all zF=true)(ha:IsE C sc N a (.a (y::ys))):IsE C sc N (.blt b a) (.e (.Call (.Name nm p) (y::ys) [] p')):=by
 intro cl d;have iha:=ha cl d;intro X hC es eN;subst es;exact Snd.of (zgU hC h1 (xN h2) h3 hs (iha X hC rfl eN).pa)
theorem IsE.«isi» {C:Ctx}{sc:Scope}{N:List Str}{t:Tg}{a:Ex}{y:Expr}{p p' p'':Pos}(h1:glB sc "isinstance" = true)(h2:glB sc (Str.ofString (tgT t))=true)(hs:zF y=true)(ra:zw a=false)(ha:IsE C sc N a (.e y)):IsE C sc N (.isi t a) (.e (.Call (.Name "isinstance" p) [y,.Name (Str.ofString (tgT t)) p'] [] p'')):=by
 intro cl d;have iha:=ha cl d;intro X hC es eN;subst es;exact Snd.of (zgV hC (xN h1) (xN h2) hs ((iha X hC rfl eN).pe ra))
theorem IsE.«lst» {C:Ctx}{sc:Scope}{N:List Str}{a:Ex}{xs:List Expr}{p:Pos}(ha:IsE C sc N a (.a xs)):IsE C sc N (.lst a) (.e (.List xs p)):=by
 intro cl d;have iha:=ha cl d;intro X hC es eN;exact Snd.of (zgW (iha X hC es eN).pa)
theorem IsE.«tup» {C:Ctx}{sc:Scope}{N:List Str}{a:Ex}{xs:List Expr}{k}{p:Pos}(ha:IsE C sc N a (.a xs)):IsE C sc N (.tup a) (.e (.Tuple xs k p)):=by
 intro cl d;have iha:=ha cl d;intro X hC es eN;exact Snd.of (zgX (iha X hC es eN).pa)
theorem IsE.«idx» {C:Ctx}{sc:Scope}{N:List Str}{a b:Ex}{x y:Expr}{p:Pos}(hs:kJ y=true)(ra:zw a=false)(ha:IsE C sc N a (.e x))(rb:zw b=false)(hb:IsE C sc N b (.e y)):IsE C sc N (.idx a b) (.e (.Subscript x y p)):=by
 intro cl d;have iha:=ha cl d;have ihb:=hb cl d;intro X hC es eN;exact Snd.of (zgY ((iha X hC es eN).pe ra) ((ihb X hC es eN).pe rb) hs)
theorem IsE.«slL» {C:Ctx}{sc:Scope}{N:List Str}{a b:Ex}{x y:Expr}{p p':Pos}(ra:zw a=false)(ha:IsE C sc N a (.e x))(rb:zw b=false)(hb:IsE C sc N b (.e y)):IsE C sc N (.slL a b) (.e (.Subscript x (.Slice (some y) none none p') p)):=by
 intro cl d;have iha:=ha cl d;have ihb:=hb cl d;intro X hC es eN;exact Snd.of (zgZ ((iha X hC es eN).pe ra) ((ihb X hC es eN).pe rb))
theorem IsE.«slH» {C:Ctx}{sc:Scope}{N:List Str}{a b:Ex}{x y:Expr}{p p':Pos}(ra:zw a=false)(ha:IsE C sc N a (.e x))(rb:zw b=false)(hb:IsE C sc N b (.e y)):IsE C sc N (.slH a b) (.e (.Subscript x (.Slice none (some y) none p') p)):=by
 intro cl d;have iha:=ha cl d;have ihb:=hb cl d;intro X hC es eN;exact Snd.of (zg0 ((iha X hC es eN).pe ra) ((ihb X hC es eN).pe rb))
theorem IsE.«slB» {C:Ctx}{sc:Scope}{N:List Str}{a b c:Ex}{x y z:Expr}{p p':Pos}(ra:zw a=false)(ha:IsE C sc N a (.e x))(rb:zw b=false)(hb:IsE C sc N b (.e y))(rc:zw c=false)(hc:IsE C sc N c (.e z)):IsE C sc N (.slB a b c) (.e (.Subscript x (.Slice (some y) (some z) none p') p)):=by
 intro cl d;have iha:=ha cl d;have ihb:=hb cl d;have ihc:=hc cl d;intro X hC es eN;exact Snd.of (zg1 ((iha X hC es eN).pe ra) ((ihb X hC es eN).pe rb) ((ihc X hC es eN).pe rc))
theorem IsE.«meth» {C:Ctx}{sc:Scope}{N:List Str}{k:Mth}{o a:Ex}{x y:Expr}{ys:List Expr}{ap cp:Pos}(hx:jS x=true)(hl:(ap.endLine == cp.line)=true)(hn:(y::ys).length < 29)(hs:(y::ys).all zF=true)(ro:zw o=false)(ho:IsE C sc N o (.e x))(ha:IsE C sc N a (.a (y::ys))):IsE C sc N (.meth k o a) (.e (.Call (.Attribute x (mtV k).1 ap) (y::ys) [] cp)):=by
 intro cl d;have iho:=ho cl d;have iha:=ha cl d;intro X hC es eN;exact Snd.of (zeM ((iho X hC es eN).pe ro) (iha X hC es eN).pa hx hl hn hs)
theorem IsE.«rng1» {C:Ctx}{sc:Scope}{N:List Str}{b:Ex}{y:Expr}{p p':Pos}(hg:glB sc "range" = true)(hs:zF y=true)(rb:zw b=false)(hb:IsE C sc N b (.e y)):IsE C sc N (.rng (.lit (.int 0)) b (.lit (.int 1))) (.e (.Call (.Name "range" p) [y] [] p')):=by
 intro cl d;have ihb:=hb cl d;intro X hC es eN;subst es;exact ⟨λz=>(by cases z),λtg=>zeN hC (xN hg) hs ((ihb X hC rfl eN).pe rb)⟩
theorem IsE.«rng2» {C:Ctx}{sc:Scope}{N:List Str}{a b:Ex}{x y:Expr}{p p':Pos}(hg:glB sc "range" = true)(hs:zF x=true)(hs':zF y=true)(ra:zw a=false)(ha:IsE C sc N a (.e x))(rb:zw b=false)(hb:IsE C sc N b (.e y)):IsE C sc N (.rng a b (.lit (.int 1))) (.e (.Call (.Name "range" p) [x,y] [] p')):=by
 intro cl d;have iha:=ha cl d;have ihb:=hb cl d;intro X hC es eN;subst es;exact ⟨λz=>(by cases z),λtg=>zeO hC (xN hg) hs hs' ((iha X hC rfl eN).pe ra) ((ihb X hC rfl eN).pe rb)⟩
theorem IsE.«lrng» {C:Ctx}{sc:Scope}{N:List Str}{a:Ex}{y:Expr}{p p' q q':Pos}(hl:glB sc "list" = true)(hg:glB sc "range" = true)(hs:zF y=true)(ra:zw a=false)(ha:IsE C sc N a (.e y)):IsE C sc N (.lrng a) (.e (.Call (.Name "list" p) [.Call (.Name "range" q) [y] [] q'] [] p')):=by
 intro cl d;have iha:=ha cl d;intro X hC es eN;subst es;exact Snd.of (zeP hC (xN hl) (xN hg) hs ((iha X hC rfl eN).pe ra))
theorem IsE.«comp0» {C:Ctx}{sc scope:Scope}{N:List Str}{elt it:Ex}{x i:Expr}{y:Str}{p p':Pos}(hs:y3 i=true)(hB:we sc N scope [y]=true)(hi:IsE C sc N it (.e i))(re:zw elt=false)(he:IsE C (xi scope sc) (yZ N [y]) elt (.e x)):IsE C sc N (.comp elt it (.lit (.bl true))) (.e (.ListComp x [⟨.Name y p,i,[],0⟩] scope p')):=by
 intro cl d;have ihi:=hi cl d;have ihe:=he cl d;intro X hC es eN;subst es;subst eN;have B:=yN hB;have hI:=(ihi X hC rfl rfl).2 (.Name y p);have hset:∀v,foldedSetIterable i X.env v=pure v:=wO hs;have body:∀Xc,CompOf X scope [y] Xc->PE Xc x (tOf X.K (evE cl elt)):=λXc c=>by
  have q:=(ihe Xc (hC.comp c) c.sc c.N).pe re;rw[c.K] at q;exact q
 refine Snd.of (PE.imp (vg B hC.calm (zau B) hI (λXc c=>⟨wN,body Xc c⟩) hset) λσ H Q q=>jx (λσ H Q q=>?_) q);obtain ⟨as,env,m,S,G,P⟩:=q;obtain ⟨b,e,q⟩:=Post.ok (m:=m) P S (rep_bl.mpr rfl);cases e;exact q
theorem IsE.«compZ0» {C:Ctx}{sc scope:Scope}{N:List Str}{elt a b:Ex}{x i j:Expr}{y z:Str}{p p' q q' q2 pt:Pos}{kt:Nat}(hg:glB sc "zip" = true)(hB:we sc N scope [y,z]=true)(hs:zF i=true)(hs':zF j=true)(ra:zw a=false)(ha:IsE C sc N a (.e i))(rb:zw b=false)(hb:IsE C sc N b (.e j))(re:zw elt=false)(he:IsE C (xi scope sc) (yZ N [y,z]) elt (.e x)):
   IsE C sc N (.compP .zip elt a b (.lit (.bl true))) (.e (.ListComp x [⟨.Tuple [.Name y p,.Name z q] kt pt,.Call (.Name "zip" q') [i,j] [] q2,[],0⟩] scope p')):=by
 intro cl d;have iha:=ha cl d;have ihb:=hb cl d;have ihe:=he cl d;intro X hC es eN;subst es;subst eN;have B:=yN hB;have hI:PI X (.Tuple [.Name y p,.Name z q] kt pt) (.Call (.Name "zip" q') [i,j] [] q2) _:=zcP (xN hg) (hC.blt _ (by simp[zD])) (yK ((iha X hC rfl rfl).pe ra) (yK ((ihb X hC rfl rfl).pe rb) xR (zl hs')) (zl hs)) (by rw[zl hs,zl hs'];rfl) (zl hs');have body:∀Xc,CompOf X scope [y,z] Xc->PE Xc x (tOf X.K (evE cl elt)):=λXc c=>by
  have q:=(ihe Xc (hC.comp c) c.sc c.N).pe re;rw[c.K] at q;exact q
 refine Snd.of (PE.imp (vg B hC.calm (vf hC.calm B) hI (λXc c=>⟨wN,body Xc c⟩) (λ_=>rfl)) λσ H Q q=>kP (λσ H Q q=>?_) q);obtain ⟨as,env,m,S,G,P⟩:=q;obtain ⟨b,e,q⟩:=Post.ok (m:=m) P S (rep_bl.mpr rfl);cases e;exact q
theorem IsE.«compE0» {C:Ctx}{sc scope:Scope}{N:List Str}{elt a:Ex}{x i:Expr}{y z:Str}{p p' q q' q2 pt:Pos}{kt:Nat}(hg:glB sc "enumerate" = true)(hB:we sc N scope [y,z]=true)(hs:zF i=true)(ra:zw a=false)(ha:IsE C sc N a (.e i))(re:zw elt=false)(he:IsE C (xi scope sc) (yZ N [y,z]) elt (.e x)):
   IsE C sc N (.compP .enum elt a (.lit (.int 0)) (.lit (.bl true))) (.e (.ListComp x [⟨.Tuple [.Name y p,.Name z q] kt pt,.Call (.Name "enumerate" q') [i] [] q2,[],0⟩] scope p')):=by
 intro cl d;have iha:=ha cl d;have ihe:=he cl d;intro X hC es eN;subst es;subst eN;have B:=yN hB;have hI:PI X (.Tuple [.Name y p,.Name z q] kt pt) (.Call (.Name "enumerate" q') [i] [] q2) _:=zaG (xN hg) (hC.blt _ (by simp[zD])) (yK ((iha X hC rfl rfl).pe ra) xR (zl hs)) (zl hs);have body:∀Xc,CompOf X scope [y,z] Xc->PE Xc x (tOf X.K (evE cl elt)):=λXc c=>by
  have q:=(ihe Xc (hC.comp c) c.sc c.N).pe re;rw[c.K] at q;exact q
 refine Snd.of (PE.imp (vg B hC.calm (vf hC.calm B) hI (λXc c=>⟨wN,body Xc c⟩) (λ_=>rfl)) λσ H Q q=>w6 (c:=0) rfl (λσ H Q q=>?_) q);obtain ⟨as,env,m,S,G,P⟩:=q;obtain ⟨b,e,q⟩:=Post.ok (m:=m) P S (rep_bl.mpr rfl);cases e;exact q
theorem IsE.«compES» {C:Ctx}{sc scope:Scope}{N:List Str}{elt a:Ex}{x i:Expr}{y z:Str}{p p' q q' q2 pt kp cp:Pos}{kt:Nat}{ck}(hg:glB sc "enumerate" = true)(hB:we sc N scope [y,z]=true)(hs:zF i=true)(ra:zw a=false)(ha:IsE C sc N a (.e i))(re:zw elt=false)(he:IsE C (xi scope sc) (yZ N [y,z]) elt (.e x)):
   IsE C sc N (.compP .enum elt a (.lit (.int 1)) (.lit (.bl true))) (.e (.ListComp x [⟨.Tuple [.Name y p,.Name z q] kt pt,.Call (.Name "enumerate" q') [i] [⟨some "start",.Constant (.int 1) ck cp,kp⟩] q2,[],0⟩] scope p')):=by
 intro cl d;have iha:=ha cl d;have ihe:=he cl d;intro X hC es eN;subst es;subst eN;have B:=yN hB;have hI:PI X (.Tuple [.Name y p,.Name z q] kt pt) (.Call (.Name "enumerate" q') [i] [⟨some "start",.Constant (.int 1) ck cp,kp⟩] q2) _:=zcR (xN hg) (hC.blt _ (by simp[zD])) (yK ((iha X hC rfl rfl).pe ra) xR (zl hs)) (zl hs);have body:∀Xc,CompOf X scope [y,z] Xc->PE Xc x (tOf X.K (evE cl elt)):=λXc c=>by
  have q:=(ihe Xc (hC.comp c) c.sc c.N).pe re;rw[c.K] at q;exact q
 refine Snd.of (PE.imp (vg B hC.calm (vf hC.calm B) hI (λXc c=>⟨wN,body Xc c⟩) (λ_=>rfl)) λσ H Q q=>w6 (c:=1) rfl (λσ H Q q=>?_) q);obtain ⟨as,env,m,S,G,P⟩:=q;obtain ⟨b,e,q⟩:=Post.ok (m:=m) P S (rep_bl.mpr rfl);cases e;exact q
theorem IsE.«compE1» {C:Ctx}{sc scope:Scope}{N:List Str}{elt a cond:Ex}{x i f:Expr}{y z:Str}{p p' q q' q2 pt:Pos}{kt:Nat}(hg:glB sc "enumerate" = true)(hB:we sc N scope [y,z]=true)(hs:zF i=true)(ra:zw a=false)(ha:IsE C sc N a (.e i))(rc:zw cond=false)(ic:v4 cond=false)(hc:IsE C (xi scope sc) (yZ N [y,z]) cond (.e f))(re:zw elt=false)(he:IsE C (xi scope sc) (yZ N [y,z]) elt (.e x)):
   IsE C sc N (.compP .enum elt a (.lit (.int 0)) cond) (.e (.ListComp x [⟨.Tuple [.Name y p,.Name z q] kt pt,.Call (.Name "enumerate" q') [i] [] q2,[f],0⟩] scope p')):=by
 intro cl d;have iha:=ha cl d;have ihc:=hc cl d;have ihe:=he cl d;intro X hC es eN;subst es;subst eN;have B:=yN hB;have hI:PI X (.Tuple [.Name y p,.Name z q] kt pt) (.Call (.Name "enumerate" q') [i] [] q2) _:=zaG (xN hg) (hC.blt _ (by simp[zD])) (yK ((iha X hC rfl rfl).pe ra) xR (zl hs)) (zl hs);have body:∀Xc,CompOf X scope [y,z] Xc->PE Xc x (tOf X.K (evE cl elt)):=λXc c=>by
  have q:=(ihe Xc (hC.comp c) c.sc c.N).pe re;rw[c.K] at q;exact q
 refine Snd.of (PE.imp (vg B hC.calm (vf hC.calm B) hI (λXc c=>⟨zev ?_,body Xc c⟩) (λ_=>rfl)) λσ H Q q=>w6 (c:=0) rfl (λσ H Q q=>q) q);have q:=(ihc Xc (hC.comp c) c.sc c.N).pt rc ic;rw[c.K] at q;exact q
end
theorem zeQ {v tg:Expr}{line:Nat}{env:Env}(h:∀x p,tg≠.Name x p):swapsWithSole [tg] v line env=pure false:=by
 cases v <;> first | rfl | (cases tg <;> first | rfl | exact absurd rfl (h _ _))
noncomputable def kQ:Expr->Bool
 | .ListComp _ _ _ _=>true
 | .SetComp _ _ _ _=>true
 | .DictComp _ _ _ _ _=>true
 | _=>false
theorem zcS {v:Expr}{t:Option Expr}{line:Nat}{env:Env}(h:kQ v=false):swapsWith v t line env=pure false:=by
 cases v <;> first | rfl | cases h
def PostS (K:PySem.W.Frag)(as:List Addr)(H:Hp)(D:Ends)(r:Rs):Prop:=match r with
 | .next e m'=>∀as' H' σ',Step as H as' H'->Sim K as' m' H'->EnvRep K as' H' e σ'->D.nx σ' H'
 | .brk e m'=>∀as' H' σ',Step as H as' H'->Sim K as' m' H'->EnvRep K as' H' e σ'->D.bk σ' H'
 | .cont e m'=>∀as' H' σ',Step as H as' H'->Sim K as' m' H'->EnvRep K as' H' e σ'->D.ct σ' H'
 | .ret w m'=>∀as' H' v,Step as H as' H'->Sim K as' m' H'->Rep K as' H' w v->D.rt v H'
 | _=>False
def xK (K:PySem.W.Frag)(g:En->Me->Rs):TS:=λD σ H=>∃as env m,Sim K as m H/\EnvRep K as H env σ/\PostS K as H D (g env m)
section
variable {K:PySem.W.Frag}{as as':List Addr}{H H':Hp}{m:Me}{D:Ends}
set_option tactic.hygienic true in
theorem PostS.step {r:Rs}(h:PostS K as H D r)(T:Step as H as' H'):PostS K as' H' D r:=by
 cases r with
 | next e m'=>exact λas2 H2 σ' U S G=>h as2 H2 σ' (T.trans U) S G
 | brk e m'=>exact λas2 H2 σ' U S G=>h as2 H2 σ' (T.trans U) S G
 | cont e m'=>exact λas2 H2 σ' U S G=>h as2 H2 σ' (T.trans U) S G
 | ret w m'=>exact λas2 H2 v U S R=>h as2 H2 v (T.trans U) S R
 | exc c w e m'=>exact h
 | no=>exact h
theorem PostS.bind {Q1:VK}{r:Rz}{env:En}{f:Wd->Me->Rs}(h:PostS K as H D (r.bindS env f))
  (k:∀w m' as' H' v,Step as H as' H'->Sim K as' m' H'->Rep K as' H' w v->PostS K as' H' D (f w m')->Q1 v H'):Post K as H Q1 r:=by
 cases r with
 | ok w m'=>exact λas2 H2 v U S R=>k w m' as2 H2 v U S R (PostS.step (r:=f w m') h U)
 | exc c w m'=>exact h
 | no=>exact h
theorem PostS.bindI {R1:It->Hp->Prop}{r:Rz}{env:En}{f:Wd->Me->Rs}(h:PostS K as H D (r.bindS env f))
  (k:∀w m',PostS K as H D (f w m')->(xA m' w).isSome=true/\∀as' H' J,Step as H as' H'->Sim K as' m' H'->zit K as' H' w J->R1 J H'):PostI K as H R1 r:=by
 cases r with
 | ok w m'=>exact k w m' h
 | exc c w m'=>exact h
 | no=>exact h
theorem PostS.next {env:En}{σ:St}(h:PostS K as H D (.next env m))(S:Sim K as m H)(G:EnvRep K as H env σ):D.nx σ H:=h as H σ .refl S G
end
section
variable {cl:Nat->List Wd->Me->Rz}{X:Cx}{e i:Ex}{x:Expr}{pos:Pos}
theorem zeR:PSs X [] (xK X.K (exS cl .skip)):=PSs.imp zea λD σ H h=>by
 obtain ⟨as,env,m,S,G,P⟩:=h;exact PostS.next (m:=m) P S G
set_option tactic.hygienic true in
theorem zg6 {a b:Sm}{st:Stmt}{sts:List Stmt}(ha:PS X st (xK X.K (exS cl a)))(hb:PSs X sts (xK X.K (exS cl b))):PSs X (st::sts) (xK X.K (exS cl (.seq a b))) :=
 PSs.imp (zca ha hb) λD σ H h=>by
  obtain ⟨as,env,m,S,G,P⟩:=h;refine ⟨as,env,m,S,G,?_⟩;have P':PostS X.K as H D (match exS cl a env m with | .next e1 m1=>exS cl b e1 m1 | r=>r):=P;cases hr:exS cl a env m with
  | next e1 m1 =>
   rw[hr] at P';exact λas' H' σ' T S' G'=>⟨as',e1,m1,S',G',PostS.step P' T⟩
  | brk e1 m1=>rw[hr] at P';exact P'
  | cont e1 m1=>rw[hr] at P';exact P'
  | ret w m1=>rw[hr] at P';exact P'
  | exc c w e1 m1=>rw[hr] at P';exact P'
  | no=>rw[hr] at P';exact P'
theorem kR {K:PySem.W.Frag}{i:Nat}{e:Ex}{D:Ends}{σ:St}{H:Hp}(h:xK K (exS cl (.asg i e)) D σ H):zcc (tOf K (evE cl e)) (wz i) D σ H:=by
 obtain ⟨as,env,m,S,G,P⟩:=h;refine ⟨as,env,m,S,G,PostS.bind P λw m1 as1 H1 v T1 S1 R1 P1=>?_⟩;exact PostS.next (m:=m1) P1 S1 ((G.mono S T1).set R1 i)
theorem zg7 (he:PE X x (tOf X.K (evE cl e))):PS X (.Return (some x) pos) (xK X.K (exS cl (.ret e))):=PS.imp (zgf he) λD σ H h=>by
 obtain ⟨as,env,m,S,G,P⟩:=h;refine ⟨as,env,m,S,G,PostS.bind P λw m1 as1 H1 v T1 S1 R1 P1=>?_⟩;exact P1 as1 H1 v .refl S1 R1
theorem zeS (he:PE X x (tOf X.K (evE cl e)))(hc:kQ x=false):PS X (.Expr x pos) (xK X.K (exS cl (.expr e))):=PS.imp (zec he (zcS hc)) λD σ H h=>by
 obtain ⟨as,env,m,S,G,P⟩:=h;refine ⟨as,env,m,S,G,PostS.bind P λw m1 as1 H1 v T1 S1 R1 P1=>?_⟩;exact PostS.next (m:=m1) P1 S1 (G.mono S T1)
theorem zcT {st:Stmt}:PS X st (xK X.K (exS cl .never)):=PS.imp zcb λD σ H h=>by
 obtain ⟨as,env,m,S,G,P⟩:=h;exact P
theorem ziz {a b:Sm}{xs ys:List Stmt}(hc:PT X x (xC X.K (evE cl e)))(ha:PSs X xs (xK X.K (exS cl a)))(hb:PSs X ys (xK X.K (exS cl b))):PS X (.If x xs ys pos) (xK X.K (exS cl (.ite e a b))) :=
 PS.imp (zhY hc ha hb) λD σ H h=>by
  obtain ⟨as,env,m,S,G,P⟩:=h;refine ⟨as,env,m,S,G,PostS.bind P λw m1 as1 H1 v T1 S1 R1 P1=>?_⟩;cases w with
  | bl k =>
   obtain rfl:=rep_bl.mp R1;refine ⟨k,rfl,?_⟩;cases k with
   | true=>exact qF ⟨as1,env,m1,S1,G.mono S T1,P1⟩
   | false=>exact qE ⟨as1,env,m1,S1,G.mono S T1,P1⟩
  | _=>exact P1.elim
end
section
variable {cl:Nat->List Wd->Me->Rz}{X:Cx}{e i j:Ex}{x y z:Expr}{pos:Pos}
noncomputable def zcU:Bo->Bool
 | .add=>true
 | .sub=>true
 | _=>false
noncomputable def zg8:Bo->Int->Int->Int
 | .sub=>λi j=>i - j
 | _=>λi j=>i+j
theorem ziA {op:Bo}(h:zcU op=true):PIp X (opK op) (ipI (zg8 op)):=by
 cases op with
 | add=>exact zgj
 | sub=>exact zgk
 | _=>cases h
theorem zeT {op:Bo}(h:zcU op=true){i j:Int}{m:Me}:bop op (.int i) (.int j) m=.ok (.int (zg8 op i j)) m:=by
 cases op with
 | add=>rfl
 | sub=>rfl
 | _=>cases h
theorem zeU {K:PySem.W.Frag}{as:List Addr}{H:Hp}{m:Me}{D:Ends}{env:En}{op:Bo}{wx wy:Wd}{vx vy:V}{f:Wd->Me->Rs}{Q:VK}(hop:zcU op=true)(Rx:Rep K as H wx vx)(Ry:Rep K as H wy vy)
  (h:PostS K as H D (zcv op wx wy m env f)) (k:∀z,PostS K as H D (f (.int z) m)->Q (.int z) H):ipI (zg8 op) vx vy H Q:=by
 cases wx with
 | int i =>
  cases wy with
  | int j =>
   have h':PostS K as H D ((bop op (.int i) (.int j) m).bindS env f):=h;rw[zeT hop] at h';exact ⟨i,j,rep_int.mp Rx,rep_int.mp Ry,k _ h'⟩
  | _=>exact h.elim
 | _=>exact h.elim
set_option tactic.hygienic true in
theorem zg9 {op:Bo}{n:Nat}{nm:Str}{p1:Pos}(hop:zcU op=true)(hN:X.N.Nodup)(hi:X.N[n]?=some nm)(hx:Loc X.env.scope nm)(hf:X.fn nm=true\/X.env.scope.names.lookup nm=some .local)(he:PE X x (tOf X.K (evE cl e))):
  PS X (.AugAssign (.Name nm p1) (opK op) x pos) (xK X.K (exS cl (.aug n op e))):=PS.imp (zgi hN hi hx he (ziA hop) hf) λD σ H h=>by
 obtain ⟨as,env,m,S,G,P⟩:=h;have P':PostS X.K as H D (match env[n]? with
  | some (some x)=>(evE cl e env m).bindS env λy m1=>zcv op x y m1 env λz m2=>.next (env.set n (some z)) m2
  | _=>.no):=P
 split at P'
 .rename_i wx hw;obtain ⟨vx,hv,Rx⟩:=G.get n wx hw;refine ⟨vx,hv,as,env,m,S,G,PostS.bind P' λwy m1 as1 H1 vy T1 S1 R1 P1=>?_⟩;refine zeU hop (Rx.mono S T1) R1 P1 λz P2=>?_;exact PostS.next (m:=m1) P2 S1 ((G.mono S T1).set (rep_int.mpr rfl) n)
 .exact P'.elim
end
section
variable {cl:Nat->List Wd->Me->Rz}{K:PySem.W.Frag}
structure TgtOk (K:PySem.W.Frag)(g:TG)(st:Wd->En->Option En):Prop where
 ok:∀ {as:List Addr}{H:Hp}{m:Me}{env env':En}{σ:St}{w:Wd}{v:V}{Q:L2.St->Hp->Prop},Sim K as m H->EnvRep K as H env σ->Rep K as H w v->st w env=some env'->(∀σ',EnvRep K as H env' σ'->Q σ' H)->g v σ H Q
theorem zcV (i:Nat):TgtOk K (wz i) (λw env=>some (env.set i (some w))) :=
 ⟨λS G R e k=>by cases e;exact k _ (G.set R i)⟩
set_option tactic.hygienic true in
theorem gS (i j:Nat):TgtOk K (zee K 2 (ky (wz i) (ky (wz j) zed))) (st2 i j):=by
 refine ⟨λ{as H m env env' σ w v Q} S G R e k=>?_⟩;unfold st2 at e;split at e
 .rename_i a b;cases e;obtain ⟨p,vs,rfl,hq,rr⟩:=rep_tup.mp R;obtain ⟨va,vb,rfl,ra,rb⟩:=qN rr;exact ⟨p,[va,vb],rfl,hq,rfl,va,[vb],rfl,vb,[],rfl,rfl,k _ ((G.set ra i).set rb j)⟩
 .cases e
set_option tactic.hygienic true in
theorem gT {g:TG}{st:Wd->En->Option En}{b:En->Me->Rs}(hg:TgtOk K g st){D:Ends}{as1 as':List Addr}{H1 H':Hp}{m':Me}{env':En}{σ':St}{x:Wd}{v:V}{next:En->Me->Rs}{N:L2.St->Hp->Prop}(T:Step as1 H1 as' H')(S':Sim K as' m' H')(G':EnvRep K as' H' env' σ')(Rx:Rep K as' H' x v)
  (Pt:PostS K as1 H1 D (match yV st b x env' m' with
    | .next e1 m1=>next e1 m1
    | .cont e1 m1=>next e1 m1
    | .brk e1 m1=>.next e1 m1
    | r=>r))
  (hN:∀as2 m2 e2 σ2 H2,Step as' H' as2 H2->Sim K as2 m2 H2->EnvRep K as2 H2 e2 σ2->PostS K as1 H1 D (next e2 m2)->N σ2 H2) :
  g v σ' H' λσ2 H2=>xK K b { D with nx:=N,ct:=N,bk:=D.nx } σ2 H2:=by
 unfold yV at Pt;cases hs:st x env' with
 | none=>rw[hs] at Pt;exact Pt.elim
 | some e2 =>
  rw[hs] at Pt;simp only[] at Pt;refine hg.ok S' G' Rx hs λσ2 G2=>⟨as',e2,m',S',G2,?_⟩;cases hr:b e2 m' with
  | next e3 m3=>rw[hr] at Pt;exact λas3 H3 σ3 U S3 G3=>hN as3 m3 e3 σ3 H3 U S3 G3 Pt
  | cont e3 m3=>rw[hr] at Pt;exact λas3 H3 σ3 U S3 G3=>hN as3 m3 e3 σ3 H3 U S3 G3 Pt
  | brk e3 m3=>rw[hr] at Pt;exact λas3 H3 σ3 U S3 G3=>Pt as3 H3 σ3 (T.trans U) S3 G3
  | ret w' m3=>rw[hr] at Pt;exact λas3 H3 v3 U S3 R3=>Pt as3 H3 v3 (T.trans U) S3 R3
  | exc c w' e3 m3=>rw[hr] at Pt;exact Pt.elim
  | no=>rw[hr] at Pt;exact Pt.elim
theorem gU {it:En->Me->Rz}{g:TG}{st:Wd->En->Option En}{b:En->Me->Rs}(hg:TgtOk K g st){D:Ends}{σ:St}{H:Hp}
  (h:xK K (λenv m=>(it env m).bindS env λw m1=>qL (yV st b) w env m1) D σ H):zh2 (iOf K it) g (xK K b) D σ H:=by
 obtain ⟨as,env,m,S,G,P⟩:=h;refine ⟨as,env,m,S,G,PostS.bindI P λw m1 P1=>?_⟩;have seqs:∀ (xs:List Wd),PostS K as H D (wA (yV st b) xs env m1)->∀as1 H1 J,Step as H as1 H1->Sim K as1 m1 H1->zaE K as1 H1 J xs ->
   ∃W:Nat->Nat->L2.St->Hp->Prop,(∃m,W 0 m σ H1)/\∀i m σ H,W i m σ H ->
    (J.stop i H/\D.nx σ H)\/(J.go i H/\∃N:L2.St->Hp->Prop,(∀σ' H',N σ' H'->∃m',m' < m/\W (i+1) m' σ' H')/\∀x H',J.yld i H x H'->g x σ H' λσ2 H2=>xK K b { D with nx:=N,ct:=N,bk:=D.nx } σ2 H2):=by
  intro xs Pc as1 H1 J T1 S1 hI;obtain ⟨vs,ok,hJ,ok1,RL,stab⟩:=hI;have hlen:=RL.length;have Pc1:=PostS.step Pc T1;refine ⟨λi n σ' H'=>∃as' m' env',i<=xs.length/\n=xs.length - i/\Step as1 H1 as' H'/\Sim K as' m' H'/\EnvRep K as' H' env' σ'/\ok H'/\RepL K as' H' xs vs/\PostS K as1 H1 D (wA (yV st b) (xs.drop i) env' m'),
   ⟨xs.length,as1,m1,env,Nat.zero_le _,rfl,.refl,S1,G.mono S T1,ok1,RL,Pc1⟩,?_⟩
  rintro i n σ' H' ⟨as',m',env',hi,rfl,T',S',G',okH,RL',Pi⟩;by_cases hlt:i < xs.length
  .refine .inr ⟨hJ.go i H' okH (by rw[<- hlen];exact hlt),λσ2 H2=>∃as2 m2 env2,i+1<=xs.length/\Step as1 H1 as2 H2/\Sim K as2 m2 H2/\EnvRep K as2 H2 env2 σ2/\ok H2/\RepL K as2 H2 xs vs/\PostS K as1 H1 D (wA (yV st b) (xs.drop (i+1)) env2 m2),?_,λv H'' hy=>?_⟩
   .rintro σ2 H2 ⟨as2,m2,env2,q⟩;exact ⟨xs.length - (i+1),by lia,as2,m2,env2,q.1,rfl,q.2⟩
   .obtain ⟨rfl,hv⟩:=hJ.yld i H' v H'' okH (by rw[<- hlen];exact hlt) hy;obtain ⟨v',hv',Rx⟩:=RL'.get (i:=i) (x:=xs[i]) (by simp[hlt]);rw[hv] at hv';cases hv';rw[List.drop_eq_getElem_cons hlt] at Pi;refine gT hg (next:=λe m=>wA (yV st b) (xs.drop (i+1)) e m) T' S' G' Rx Pi ?_;intro as2 m2 e2 σ2 H2 U S2 G2 P2;exact ⟨as2,m2,e2,hlt,T'.trans U,S2,G2,stab _ _ (S'.kp U) okH,RL'.mono S' U,P2⟩
  .have e:i=xs.length:=by lia
   subst e;rw[List.drop_length] at Pi;exact .inl ⟨hJ.stop _ H' okH (by lia),Pi as' H' σ' T' S' G'⟩
 cases w with
 | tup xs=>exact ⟨rfl,λas1 H1 J T1 S1 hI=>seqs xs P1 as1 H1 J T1 S1 hI⟩
 | rol xs=>exact ⟨rfl,λas1 H1 J T1 S1 hI=>seqs xs P1 as1 H1 J T1 S1 hI⟩
 | ref l =>
  have P2:PostS K as H D (wB (yV st b) l (lim+1) 0 env m1):=P1;refine ⟨?_,λas1 H1 J T1 S1 hI=>?_⟩
  .show (zK m1 l).isSome=true;cases e:zK m1 l with
   | some xs=>rfl
   | none =>
    unfold wB at P2;rw[e] at P2;exact P2.elim
  .obtain ⟨a,ha,rfl⟩:=hI;have Pc1:=PostS.step P2 T1;refine ⟨λi n σ' H'=>∃as' m' env',as'[l]?=some a/\Step as1 H1 as' H'/\Sim K as' m' H'/\EnvRep K as' H' env' σ'/\PostS K as1 H1 D (wB (yV st b) l n i env' m'),⟨lim+1,as1,m1,env,ha,.refl,S1,G.mono S T1,Pc1⟩,?_⟩;rintro i n σ' H' ⟨as',m',env',hl,T',S',G',Pi⟩;cases n with
   | zero=>exact Pi.elim
   | succ n =>
    unfold wB at Pi;cases e:zK m' l with
    | none=>rw[e] at Pi;exact Pi.elim
    | some xs =>
     rw[e] at Pi;simp only[] at Pi;obtain ⟨a',vs,ha',eH,RL⟩:=yt S' (zX e);rw[hl] at ha';cases ha';cases ex:xs[i]? with
     | none =>
      rw[ex] at Pi;have hle:vs.length<=i:=by rw[<- RL.length];exact List.getElem?_eq_none_iff.mp ex
      exact .inl ⟨⟨vs,SqL.of eH,hle⟩,Pi as' H' σ' T' S' G'⟩
     | some x =>
      rw[ex] at Pi;obtain ⟨v0,hv0,Rx⟩:=RL.get ex;refine .inr ⟨⟨vs,v0,SqL.of eH,hv0⟩,λσ2 H2=>∃as2 m2 env2,as2[l]?=some a/\Step as1 H1 as2 H2/\Sim K as2 m2 H2/\EnvRep K as2 H2 env2 σ2/\PostS K as1 H1 D (wB (yV st b) l n (i+1) env2 m2),?_,λv H'' hy=>?_⟩
      .rintro σ2 H2 q;exact ⟨n,Nat.lt_succ_self _,q⟩
      .obtain ⟨rfl,hy⟩:=hy;have:=hy vs (SqL.of eH);rw[hv0] at this;cases this;refine gT hg (next:=λe m=>wB (yV st b) l n (i+1) e m) T' S' G' Rx Pi ?_;intro as2 m2 e2 σ2 H2 U S2 G2 P2;exact ⟨as2,m2,e2,U.get hl,T'.trans U,S2,G2,P2⟩
 | non=>exact P1.elim
 | bl k=>exact P1.elim
 | int i=>exact P1.elim
 | str s=>exact P1.elim
set_option tactic.hygienic true in
theorem qS {c:Ex}{b:Sm}{D:Ends}{σ:St}{H:Hp}(h:xK K (exS cl (.while c b)) D σ H):zce (xC K (evE cl c)) (xK K (exS cl b)) D σ H:=by
 obtain ⟨as,env,m,S,G,P⟩:=h;refine ⟨λn σ' H'=>∃as' m' env',Step as H as' H'/\Sim K as' m' H'/\EnvRep K as' H' env' σ'/\PostS K as H D (vR (evE cl c) (exS cl b) n env' m'),⟨1000000,as,m,env,.refl,S,G,P⟩,?_⟩;rintro n σ' H' ⟨as',m',env',T',S',G',Pi⟩;cases n with
 | zero=>exact Pi.elim
 | succ n =>
  unfold vR at Pi;refine ⟨as',env',m',S',G',?_⟩;cases hr:evE cl c env' m' with
  | no=>rw[hr] at Pi;exact Pi.elim
  | exc k w m1=>rw[hr] at Pi;exact Pi.elim
  | ok w m1 =>
   rw[hr] at Pi;intro as1 H1 v T1 S1 R1;cases w with
   | bl k =>
    obtain rfl:=rep_bl.mp R1;refine ⟨k,rfl,?_⟩;cases k with
    | false=>exact qE (Pi as1 H1 σ' (T'.trans T1) S1 (G'.mono S' T1))
    | true =>
     refine qF ⟨λσ2 H2=>∃as2 m2 env2,Step as H as2 H2/\Sim K as2 m2 H2/\EnvRep K as2 H2 env2 σ2/\PostS K as H D (vR (evE cl c) (exS cl b) n env2 m2),λσ2 H2 q=>⟨n,Nat.lt_succ_self _,q⟩,as1,env',m1,S1,G'.mono S' T1,?_⟩;simp only[] at Pi;have T2:=T'.trans T1;cases hb:exS cl b env' m1 with
     | next e3 m3=>rw[hb] at Pi;exact λas3 H3 σ3 U S3 G3=>⟨as3,m3,e3,T2.trans U,S3,G3,Pi⟩
     | cont e3 m3=>rw[hb] at Pi;exact λas3 H3 σ3 U S3 G3=>⟨as3,m3,e3,T2.trans U,S3,G3,Pi⟩
     | brk e3 m3=>rw[hb] at Pi;exact λas3 H3 σ3 U S3 G3=>Pi as3 H3 σ3 (T2.trans U) S3 G3
     | ret w' m3=>rw[hb] at Pi;exact λas3 H3 v3 U S3 R3=>Pi as3 H3 v3 (T2.trans U) S3 R3
     | exc k w' e3 m3=>rw[hb] at Pi;exact Pi.elim
     | no=>rw[hb] at Pi;exact Pi.elim
   | _=>exact Pi.elim
end
set_option genInjectivity false in
inductive Ns where
 | s (st:Stmt) | b (sts:List Stmt)
noncomputable def v5 (sc:Scope)(x:Str):Bool:=decide (sc.names.lookup x=some .local) || decide (sc.names.lookup x=some .cell)
noncomputable def unpB:Expr->Bool
 | .Call _ _ _ _=>true
 | .Name _ _=>true
 | _=>false
def zeV (cl:Nat->List Wd->Me->Rz)(X:Cx)(s:Sm):Ns->Prop
 | .s st=>PS X st (xK X.K (exS cl s))
 | .b sts=>PSs X sts (xK X.K (exS cl s))
structure StOk (X:Cx):Prop where
 nd:X.N.Nodup
 fn:∀x,X.fn x=true
 hp:PassesOwn (model X.prog X.w) X.A X.env X.xe
section
variable {cl:Nat->List Wd->Me->Rz}
theorem wf {sc:Scope}{x:Str}(h:v5 sc x=true):Loc sc x:=by
 unfold v5 at h;simp only[Bool.or_eq_true,decide_eq_true_eq] at h;exact h
theorem zaH {X:Cx}{i:Nat}{ce:Ex}{nm:Str}{xs:List Str}{x w tg:Expr}{g:TG}{un:V->Hp->List V->Prop}{wi:TI}{fs:List Expr}{scope:Scope}{tc:TT}{te:TE}{p1 pos pos':Pos}(hc:X.calm=true)(hX:StOk X)(hi:X.N[i]?=some nm)(hl:Loc X.env.scope nm)(B:BlockOk X scope xs)(hT:Tgt X scope xs tg g un)(hI:PI X tg w wi)
  (body:∀Xc,CompOf X scope xs Xc->PTs Xc fs tc/\PE Xc x te) (hset:∀v,foldedSetIterable w X.env v=pure v) (hbind:∀σ H Q,tOf X.K (evE cl ce) σ H Q->jq un wi tc te σ H Q)
  (he:PE X (.ListComp x [⟨tg,w,fs,0⟩] scope pos') (tOf X.K (evE cl ce))) :
  PS X (.Assign [.Name nm p1] (.ListComp x [⟨tg,w,fs,0⟩] scope pos') pos) (xK X.K (exS cl (.asg i ce))):=by
 have hsw:∃b:Bool,swapsWith (.ListComp x [⟨tg,w,fs,0⟩] scope pos') (some (.Name nm p1)) pos.line X.env=pure b:=⟨_,rfl⟩;obtain ⟨b,hb⟩:=hsw;cases b with
 | false=>exact PS.imp (zcd hX.nd hi hl he hb (.inl (hX.fn nm))) λD σ H q=>kR q
 | true =>
  refine PS.imp (qH B hc hT hI body hX.nd hi hl (.inl (hX.fn nm)) hb hset) λD σ H q=>?_;exact hbind _ _ _ (kR q)
theorem zha (i j:Nat)(e:Ex)(env:En)(m:Me):exS cl (.fort i j (.tup (.pair e .unit)) .skip) env m=(evE cl e env m).bindS env λw m1=>match st2 i j w env with
  | some env'=>.next env' m1
  | none=>.no:=by
 have h:evE cl (.tup (.pair e .unit)) env m=(evE cl e env m).bind λw m1=>.ok (.tup [w]) m1:=by
  show (((evE cl e env m).bind λx m1=>.ok (.tup [x]) m1).bind λx m1=>if (zL x).length<=lim then .ok (.tup (zL x)) m1 else .no)=_;cases evE cl e env m with
  | ok w m1 =>
   simp only[Rz.bind];simp[zL,lim]
  | exc c w m1=>rfl
  | no=>rfl
 show (evE cl (.tup (.pair e .unit)) env m).bindS env (λw m1=>qL (yV (st2 i j) (exS cl .skip)) w env m1)=_;rw[h];cases evE cl e env m with
 | ok w m1 =>
  show wA (yV (st2 i j) (exS cl .skip)) [w] env m1=match st2 i j w env with
   | some env'=>.next env' m1
   | none=>.no
  unfold wA yV;cases st2 i j w env with
  | none=>rfl
  | some e2=>rfl
 | exc c w m1=>rfl
 | no=>rfl
theorem zcW {K:PySem.W.Frag}{i j:Nat}{e:Ex}{D:Ends}{σ:St}{H:Hp}(h:xK K (exS cl (.fort i j (.tup (.pair e .unit)) .skip)) D σ H):zcc (tOf K (evE cl e)) (zee K 2 (ky (wz i) (ky (wz j) zed))) D σ H:=by
 obtain ⟨as,env,m,S,G,P⟩:=h;rw[zha] at P;refine ⟨as,env,m,S,G,PostS.bind P λw m1 as1 H1 v T1 S1 R1 P1=>?_⟩;cases hs:st2 i j w env with
 | none=>rw[hs] at P1;exact P1.elim
 | some e2=>rw[hs] at P1;exact (gS i j).ok S1 (G.mono S T1) R1 hs λσ2 G2=>PostS.next (m:=m1) P1 S1 G2
def IsS (C:Ctx)(sc:Scope)(N:List Str)(s:Sm)(n:Ns):Prop:=∀ (cl:Nat → List Wd → Me → Rz) (d:Nat) (X:Cx),CtxOk C X cl d → StOk X → X.env.scope=sc → X.N=N → zeV cl X s n
theorem zhb {C:Ctx}{d:Nat}{X:Cx}(hC:CtxOk C X cl d)(hX:StOk X){s:Sm}{n:Ns}(h:IsS C X.env.scope X.N s n):zeV cl X s n:=h cl d X hC hX rfl rfl
theorem IsS.«skip0» {C:Ctx}{sc:Scope}{N:List Str}:IsS C sc N .skip (.b []):=by
 intro cl d X hC hX es eN;subst es;subst eN;exact zeR
theorem IsS.«one» {C:Ctx}{sc:Scope}{N:List Str}{s:Sm}{st:Stmt}(h:IsS C sc N s (.s st)):IsS C sc N s (.b [st]):=by
 intro cl d X hC hX es eN;subst es;subst eN;have ih:=h cl d X hC hX rfl rfl;exact zeb ih
theorem IsS.«seq» {C:Ctx}{sc:Scope}{N:List Str}{a b:Sm}{st st':Stmt}{r:List Stmt}(ha:IsS C sc N a (.s st))(hb:IsS C sc N b (.b (st'::r))):IsS C sc N (.seq a b) (.b (st::st'::r)):=by
 intro cl d X hC hX es eN;subst es;subst eN;have iha:=ha cl d X hC hX rfl rfl;have ihb:=hb cl d X hC hX rfl rfl;exact zg6 iha ihb
theorem IsS.«asg» {C:Ctx}{sc:Scope}{N:List Str}{i:Nat}{e:Ex}{x:Str}{v:Expr}{p p':Pos}(hc:kQ v=false)(h1:N[i]?=some x)(h2:v5 sc x=true)(hr:zw e=false)(he:IsE C sc N e (.e v)):IsS C sc N (.asg i e) (.s (.Assign [.Name x p] v p')):=by
 intro cl d X hC hX es eN;subst es;subst eN;exact PS.imp (zcd hX.nd h1 (wf h2) ((xw he X hC rfl rfl).pe hr) (zcS hc) (.inl (hX.fn _))) λD σ H q=>kR q
theorem IsS.«asgC0» {C:Ctx}{sc:Scope}{N:List Str}{i:Nat}{elt it:Ex}{x y:Str}{z w:Expr}{scope:Scope}{p p' q q':Pos}(h1:N[i]?=some x)(h2:v5 sc x=true)(hs:y3 w=true)(hB:we sc N scope [y]=true)(hi:IsE C sc N it (.e w))(re:zw elt=false)(he:IsE C (xi scope sc) (yZ N [y]) elt (.e z)):
   IsS C sc N (.asg i (.comp elt it (.lit (.bl true)))) (.s (.Assign [.Name x p] (.ListComp z [⟨.Name y q,w,[],0⟩] scope q') p')):=by
 intro cl d X hC hX es eN;subst es;subst eN;have hset:∀v,foldedSetIterable w X.env v=pure v:=wO hs;refine zaH (fs:=[]) (tc:=_) hC.calm hX h1 (wf h2) (yN hB) (zau (yN hB)) ((xw hi X hC rfl rfl).2 _) (te:=tOf X.K (evE cl elt)) (λXc c=>⟨wN,?_⟩) hset (λσ H Q q=>jx (λσ H Q q=>?_) q) ((xw (IsE.comp0 hs hB hi re he) X hC rfl rfl).pe rfl)
 .have q:=(xw he Xc (hC.comp c) c.sc c.N).pe re;rw[c.K] at q;exact q
 .obtain ⟨as,env,m,S,G,P⟩:=q;obtain ⟨b,e,q⟩:=Post.ok (m:=m) P S (rep_bl.mpr rfl);cases e;exact q
theorem IsS.«asgCZ0» {C:Ctx}{sc:Scope}{N:List Str}{i:Nat}{elt a b:Ex}{x y y':Str}{z w w':Expr}{scope:Scope}{p p' q q' q2 q3 q4 pt:Pos}{kt:Nat}(h1:N[i]?=some x)(h2:v5 sc x=true)(hg:glB sc "zip" = true)(hB:we sc N scope [y,y']=true)(hs:zF w=true)(hs':zF w'=true)(ra:zw a=false)(ha:IsE C sc N a (.e w))(rb:zw b=false)(hb:IsE C sc N b (.e w'))(re:zw elt=false)(he:IsE C (xi scope sc) (yZ N [y,y']) elt (.e z)):
   IsS C sc N (.asg i (.compP .zip elt a b (.lit (.bl true)))) (.s (.Assign [.Name x p] (.ListComp z [⟨.Tuple [.Name y q,.Name y' q2] kt pt,.Call (.Name "zip" q3) [w,w'] [] q4,[],0⟩] scope q') p')):=by
 intro cl d X hC hX es eN;subst es;subst eN;refine zaH (fs:=[]) (tc:=_) hC.calm hX h1 (wf h2) (yN hB) (vf hC.calm (yN hB)) (zcP (xN hg) (hC.blt _ (by simp[zD])) (yK ((xw ha X hC rfl rfl).pe ra) (yK ((xw hb X hC rfl rfl).pe rb) xR (zl hs')) (zl hs)) (by rw[zl hs,zl hs'];rfl) (zl hs')) (te:=tOf X.K (evE cl elt)) (λXc c=>⟨wN,?_⟩) (λ_=>rfl) (λσ H Q q=>kP (λσ H Q q=>?_) q) ((xw (IsE.compZ0 hg hB hs hs' ra ha rb hb re he) X hC rfl rfl).pe rfl)
 .have q:=(xw he Xc (hC.comp c) c.sc c.N).pe re;rw[c.K] at q;exact q
 .obtain ⟨as,env,m,S,G,P⟩:=q;obtain ⟨b,e,q⟩:=Post.ok (m:=m) P S (rep_bl.mpr rfl);cases e;exact q
theorem IsS.«aug» {C:Ctx}{sc:Scope}{N:List Str}{i:Nat}{op:Bo}{e:Ex}{x:Str}{v:Expr}{p p':Pos}(h1:N[i]?=some x)(h2:v5 sc x=true)(h3:zcU op=true)(hr:zw e=false)(he:IsE C sc N e (.e v)):IsS C sc N (.aug i op e) (.s (.AugAssign (.Name x p) (opK op) v p')):=by
 intro cl d X hC hX es eN;subst es;subst eN;exact zg9 h3 hX.nd h1 (wf h2) (.inl (hX.fn _)) ((xw he X hC rfl rfl).pe hr)
theorem IsS.«ite» {C:Ctx}{sc:Scope}{N:List Str}{c:Ex}{a b:Sm}{x:Expr}{xs ys:List Stmt}{p:Pos}(rc:zw c=false)(ic:v4 c=false)(hc:IsE C sc N c (.e x))(ha:IsS C sc N a (.b xs))(hb:IsS C sc N b (.b ys)):IsS C sc N (.ite c a b) (.s (.If x xs ys p)):=by
 intro cl d X hC hX es eN;subst es;subst eN;have iha:=ha cl d X hC hX rfl rfl;have ihb:=hb cl d X hC hX rfl rfl;exact ziz ((xw hc X hC rfl rfl).pt rc ic) iha ihb
theorem IsS.«forv» {C:Ctx}{sc:Scope}{N:List Str}{i:Nat}{it:Ex}{body:Sm}{x:Str}{y:Expr}{sts:List Stmt}{p p':Pos}(h1:N[i]?=some x)(h2:v5 sc x=true)(hs:y3 y=true)(hi:IsE C sc N it (.e y))(hb:IsS C sc N body (.b sts)):IsS C sc N (.forv i it body) (.s (.For (.Name x p) y sts [] p')):=by
 intro cl d X hC hX es eN;subst es;subst eN;have ihb:=hb cl d X hC hX rfl rfl;have hset:∀v,foldedSetIterable y X.env v=pure v:=wO hs;refine PS.imp (zch hX.hp hC.calm ((xw hi X hC rfl rfl).2 _) (xL hX.nd h1 (wf h2) (.inl (hX.fn _))) ihb hset) λD σ H q=>?_;exact gU (zcV i) q
theorem IsS.«unp» {C:Ctx}{sc:Scope}{N:List Str}{i j:Nat}{e:Ex}{x x':Str}{v:Expr}{k}{p p' p2 p3:Pos}(h1:N[i]?=some x)(h2:v5 sc x=true)(h3:N[j]?=some x')(h4:v5 sc x'=true)(hv:unpB v=true)(hr:zw e=false)(he:IsE C sc N e (.e v)):
   IsS C sc N (.fort i j (.tup (.pair e .unit)) .skip) (.s (.Assign [.Tuple [.Name x p,.Name x' p'] k p2] v p3)):=by
 intro cl d X hC hX es eN;subst es;subst eN;refine PS.imp (zgh ((xw he X hC rfl rfl).pe hr) (qw hC.calm (xW (xL hX.nd h1 (wf h2) (.inl (hX.fn _))) (xW (xL hX.nd h3 (wf h4) (.inl (hX.fn _))) jG))) (zeQ (by intros;intro q;cases q)) (by cases v <;> first | rfl | cases hv)) λD σ H q=>?_;exact zcW q
theorem IsS.«fort» {C:Ctx}{sc:Scope}{N:List Str}{i j:Nat}{it:Ex}{body:Sm}{x x':Str}{y:Expr}{sts:List Stmt}{k}{p p' p2 p3:Pos}(h1:N[i]?=some x)(h2:v5 sc x=true)(h3:N[j]?=some x')(h4:v5 sc x'=true)(hs:y3 y=true)(hi:IsE C sc N it (.e y))(hb:IsS C sc N body (.b sts)):IsS C sc N (.fort i j it body) (.s (.For (.Tuple [.Name x p,.Name x' p2] k p3) y sts [] p')):=by
 intro cl d X hC hX es eN;subst es;subst eN;have ihb:=hb cl d X hC hX rfl rfl;have hset:∀v,foldedSetIterable y X.env v=pure v:=wO hs;refine PS.imp (zch hX.hp hC.calm ((xw hi X hC rfl rfl).2 _) (qw hC.calm (xW (xL hX.nd h1 (wf h2) (.inl (hX.fn _))) (xW (xL hX.nd h3 (wf h4) (.inl (hX.fn _))) jG))) ihb hset) λD σ H q=>?_;exact gU (gS i j) q
theorem IsS.«appPop» {C:Ctx}{sc:Scope}{N:List Str}{j a x:Nat}{e:Ex}{n:Ns}(h:IsS C sc N (.expr (.meth .append (.var j) (.pair (.bin .add (.var a) (.bin .mod (.meth .pop (.var x) (.pair (.lit (.int 0)) .unit)) e)) .unit))) n):IsS C sc N (.appPop j a x e) n:=by
 intro cl d X hC hX es eN;subst es;subst eN;have ih:=h cl d X hC hX rfl rfl;have e:exS cl (.appPop j a x e)=exS cl (.expr (.meth .append (.var j) (.pair (.bin .add (.var a) (.bin .mod (.meth .pop (.var x) (.pair (.lit (.int 0)) .unit)) e)) .unit))):=by
  funext env m;rfl
 cases n with
 | s st=>unfold zeV at ih ⊢;rw[e];exact ih
 | b sts=>unfold zeV at ih ⊢;rw[e];exact ih
theorem IsS.«while» {C:Ctx}{sc:Scope}{N:List Str}{c:Ex}{body:Sm}{x:Expr}{sts:List Stmt}{p:Pos}(rc:zw c=false)(ic:v4 c=false)(hc:IsE C sc N c (.e x))(hb:IsS C sc N body (.b sts)):IsS C sc N (.while c body) (.s (.While x sts [] p)):=by
 intro cl d X hC hX es eN;subst es;subst eN;have ihb:=hb cl d X hC hX rfl rfl;exact PS.imp (zcf hX.hp ((xw hc X hC rfl rfl).pt rc ic) ihb) λD σ H q=>qS q
theorem IsS.«ret» {C:Ctx}{sc:Scope}{N:List Str}{e:Ex}{x:Expr}{p:Pos}(hr:zw e=false)(he:IsE C sc N e (.e x)):IsS C sc N (.ret e) (.s (.Return (some x) p)):=by
 intro cl d X hC hX es eN;subst es;subst eN;exact zg7 ((xw he X hC rfl rfl).pe hr)
theorem IsS.«expr» {C:Ctx}{sc:Scope}{N:List Str}{e:Ex}{x:Expr}{p:Pos}(hc:kQ x=false)(hr:zw e=false)(he:IsE C sc N e (.e x)):IsS C sc N (.expr e) (.s (.Expr x p)):=by
 intro cl d X hC hX es eN;subst es;subst eN;exact zeS ((xw he X hC rfl rfl).pe hr) hc
theorem IsS.«never» {C:Ctx}{sc:Scope}{N:List Str}{st:Stmt}:IsS C sc N .never (.s st):=by
 intro cl d X hC hX es eN;subst es;subst eN;exact zcT
end
set_option genInjectivity false in
structure Dfn where
 nm:Str
 st:Stmt
 N:List Str
 ps:List Str
 fn:Fn
 on:Str
noncomputable def qT (N ps:List Str)(sc:Scope):Bool :=
 decide (sc.kind=.function) && (decide (sc.isCoroutine=false) && (decide (sc.isGenerator=false) && (decide N.Nodup && (decide (N.take ps.length=ps) &&
  (ps.all (λx=>decide (sc.names.lookup x=some .local) || decide (sc.names.lookup x=some .cell)) && sc.names.all (λy=>!(decide (y.2=.free))))))))
theorem zbu {N ps:List Str}{sc:Scope}(h:qT N ps sc=true):FnScope N ps sc:=by
 unfold qT at h;simp only[Bool.and_eq_true,Bool.or_eq_true,decide_eq_true_eq,List.all_eq_true,Bool.not_eq_true',decide_eq_false_iff_not] at h;obtain ⟨h1,h2,h3,h4,h5,h6,h7⟩:=h;exact ⟨h1,h2,h3,h4,h5,h6,h7⟩
structure OkD (C:Ctx)(d:Dfn):Prop where
 sc:qT d.N d.ps (yr d.st)=true
 ar:d.ps.length=d.fn.ar
 sz:d.N.length=d.fn.sz
 body:IsS C (yr d.st) d.N d.fn.body (.b (xx d.st))
section
variable {P:Program}{w:World}{K:PySem.W.Frag}{mg:Str->Option Value}{base:Heap}{C:Ctx}{cl:Nat->List Wd->Me->Rz}
theorem zbv {as:List Addr}{H:Hp}{fn:Fn}{N:List Str}{ws:List Wd}{vs:List V}(R:RepL K as H ws vs)(hl:ws.length=fn.ar)(hN:N.length=fn.sz):EnvRep K as H (wc fn ws) (L2.start N vs):=by
 have hv:=R.length;refine ⟨by simp[wc,L2.start,hN,hv],λi w e=>?_⟩;unfold wc at e;by_cases hi:i < ws.length
 .rw[List.getElem?_append_left (by simpa using hi),List.getElem?_map] at e;cases hx:ws[i]? with
  | none=>rw[hx] at e;cases e
  | some x =>
   rw[hx] at e;cases e;obtain ⟨v,h1,h2⟩:=R.get hx;refine ⟨v,?_,h2⟩;unfold L2.start;rw[List.getElem?_append_left (by simp;lia),List.getElem?_map,h1];rfl
 .rw[List.getElem?_append_right (by simpa using hi),List.getElem?_replicate] at e;split at e <;> cases e
set_option tactic.hygienic true in
theorem zcX {d:Dfn}{f:Addr}{fd:FuncData}{k:Nat}(F:Fun K d.on d.on d.st f fd)(hd:OkD C d)
  (hfn:∀ (i:Nat) (nm:Str),C.fns[i]?=some nm->∃f fd ps,mg nm=some (.ref f)/\PySem.W.keepIn K (.ref f)=true/\Binds K fd ps []/\FnOk P w K mg base CX0 k f fd ps (jT K (cl i)))
  (hcon:gJ K w mg C) (hblt:∀nm∈zD,mg nm=none) :
  FnOk P w K mg base CX0 (k+1) f fd d.ps (jT K (jP cl d.fn)):=by
 obtain ⟨h1,h2,h3,h4⟩:=hd;have Sc:=zbu h1;have arity:∀ {as:List Addr}{H:Hp}{Q:VK}{ws:List Wd}{m:Me},Post K as H Q (jP cl d.fn ws m)->ws.length=d.fn.ar:=λ{as H Q ws m} h=>by
  unfold jP at h;split at h
  .assumption
  .exact h.elim
 refine F.ok Sc (λvs H Q E h=>?_) (λcdv A outer s H vs Q E hr h=>?_)
 .obtain ⟨as,m,ws,S,R,q⟩:=h;rw[<- R.length,arity q,h2]
 .obtain ⟨as,m,ws,S,R,q⟩:=h;have ha:=arity q;have hC:CtxOk C (gu CX0 P w K mg base d.N d.on (yr d.st) f cdv A outer s H E).nox cl k:=⟨hr,rfl,hfn,hcon,hblt⟩;have hX:StOk (gu CX0 P w K mg base d.N d.on (yr d.st) f cdv A outer s H E).nox:=⟨Sc.nd,λ_=>rfl,PassesOwn.never⟩;refine ⟨_,zhb hC hX h4,as,wc d.fn ws,m,S,zbv R ha h3,?_⟩;unfold jP at q;rw[if_pos ha] at q;cases hr:exS cl d.fn.body (wc d.fn ws) m with
  | next e m1=>rw[hr] at q;exact λas' H' σ' T S' G=>q as' H' .non T S' (rep_non.mpr rfl)
  | ret w m1=>rw[hr] at q;exact λas' H' v T S' R'=>q as' H' v T S' R'
  | brk e m1=>rw[hr] at q;exact q.elim
  | cont e m1=>rw[hr] at q;exact q.elim
  | exc c w e m1=>rw[hr] at q;exact q.elim
  | no=>rw[hr] at q;exact q.elim
def zB (K:PySem.W.Frag)(mg:Str->Option Value)(d:Dfn):Prop:=∃f fd,Fun K d.on d.on d.st f fd/\mg d.nm=some (.ref f)
def Bnd (d:Dfn):Prop:=∀ (kV doc pm:Value) (an:Option Addr) (cdv ct:Value) (us:List Value),us.length=d.ps.length->bindArgs (PySem.W.fnOf d.on d.on (x9 d.st) (xx d.st) (yr d.st) .none kV doc pm an cdv ct) ⟨us,[]⟩=pure (d.ps.zip us)
theorem vT {D:List Dfn}(hC:C.fns=D.map (·.nm))(hD:∀d∈D,OkD C d)(hB:∀d∈D,Bnd d)(hK:∀d∈D,zB K mg d)
  (hcon:gJ K w mg C) (hblt:∀nm∈zD,mg nm=none) :
  ∀ (k:Nat) (i:Nat) (d:Dfn),D[i]?=some d->∀f fd,Fun K d.on d.on d.st f fd->FnOk P w K mg base CX0 k f fd d.ps (jT K (xu (D.map (·.fn)) k i))
 | 0,i,d,hi,f,fd,F=>by
  have no:∀ {vs:List V}{H:Hp}{Q:VK}{E:XK},¬ jT K (xu (D.map (·.fn)) 0 i) vs H Q E:=λ{vs H Q E} h=>by
   obtain ⟨as,m,ws,S,R,q⟩:=h;exact q
  exact ⟨λvs H Q E h=>(no h).elim,λA outer s H args us vs Q E _ _ _ _ h=>(no h).elim⟩
 | k+1,i,d,hi,f,fd,F=>by
  have ih:=vT hC hD hB hK hcon hblt k;have e:jT K (xu (D.map (·.fn)) (k+1) i)=jT K (jP (xu (D.map (·.fn)) k) d.fn):=by
   have:xu (D.map (·.fn)) (k+1) i=jP (xu (D.map (·.fn)) k) d.fn:=by
    funext ws m;unfold xu;rw[List.getElem?_map,hi];rfl
   rw[this]
  rw[e];refine zcX F (hD d (List.mem_of_getElem? hi)) (λj nm hj=>?_) hcon hblt;rw[hC,List.getElem?_map] at hj;cases hx:D[j]? with
  | none=>rw[hx] at hj;cases hj
  | some d' =>
   rw[hx] at hj;cases hj;obtain ⟨f',fd',F',m'⟩:=hK d' (List.mem_of_getElem? hx);exact ⟨f',fd',d'.ps,m',F'.kp,F'.binds (hB d' (List.mem_of_getElem? hx)),ih j d' hx f' fd' F'⟩
end
theorem zcY {K:PySem.W.Frag}{D:List Dfn}{k i:Nat}{H:Hp}{a:Addr}{ns:List Int}{E:XK}(hO:zet H)(hS:SqL K H a (ns.map V.int))(h:∃m,xu (D.map (·.fn)) k i [.rol (ns.map Wd.int)] []=.ok (.bl true) m):
  jT K (xu (D.map (·.fn)) k i) [.ref a] H (λv _=>v=.bl true) E:=by
 obtain ⟨m,h⟩:=h;refine ⟨[],[],[.rol (ns.map Wd.int)],⟨rfl,List.nodup_nil,λl a o e=>by simp at e⟩,repL_cons.mpr ⟨.ref a,[],rfl,rep_rol.mpr ⟨a,ns.map V.int,rfl,?_,?_⟩,repL_nil.mpr rfl⟩,?_⟩
 .rcases hS with (hS | ⟨o,hS⟩) | hS
  .rcases hO a with z | ⟨o,xs,z⟩
   .rw[z] at hS;cases hS
   .rw[z] at hS;cases hS
  .exact .inl ⟨o,hS⟩
  .exact .inr hS
 .have all:∀l:List Int,RepL K [] H (l.map Wd.int) (l.map V.int):=by
   intro l
   induction l with
   | nil=>exact repL_nil.mpr rfl
   | cons n l ih=>exact repL_cons.mpr ⟨_,_,rfl,rep_int.mpr rfl,ih⟩
  exact all ns
 .rw[h];exact λas' H' v T S R=>rep_bl.mp R
theorem ziB {l:PySem.W.OpenLaw}{q:Program}{loose:List Str}{XP:(Str->Option Value)->Heap->Prop}{YP:World->Heap->Prop}{d:DefRec}{Kp:Params->PySem.W.Frag}{D:List Dfn}{C:Ctx}{k i:Nat}{dl:Dfn}{x:Str}{n:Nat}
  (hn:l.most=some n) (hn2:n<=sizeLine) (hdf:d.params.defaults=[]) (hr:Room k callerA) (hY:∀ (w:World) (h:Heap),YP w h->(Kp w.params).In h)
  (hC:C.fns=D.map (·.nm)) (hD:∀d∈D,OkD C d) (hB:∀d∈D,Bnd d) (hi:D[i]?=some dl) (hx:dl.ps=[x]) (hnm:d.name=dl.nm)
  (F:∀ (w:World) (mg:Str->Option Value) (fa:Addr) (h:Heap),(Kp w.params).In h->h.Ns mainGlobals mg->mg d.name=some (.ref fa) ->
   (∀e∈D,zB (Kp w.params) mg e)/\gJ (Kp w.params) w mg C/\∀nm∈zD,mg nm=none)
  (hpure:∀ns:List Int,ns.length<=n->∃m,xu (D.map (·.fn)) k i [.rol (ns.map Wd.int)] []=.ok (.bl true) m) :
  PySem.W.WalkO q loose XP YP l.row.toRowW d [] (λf vs=>PySem.call f vs):=by
 refine L2.zeu (n:=n) (k:=k) (x:=x) (CX:=λ_=>CX0) (sp:=λw=>jT (Kp w.params) (xu (D.map (·.fn)) k i)) hn hn2 hdf hr hY ?_ (λw H a ns hl hO hS=>zcY hO hS (hpure ns hl)) λ_ _ _ _ _ z=>z;intro w mg fa h KX G hmg;obtain ⟨h1,h2,h3⟩:=F w mg fa h KX G hmg;obtain ⟨f,fd,Ff,hm⟩:=h1 dl (List.mem_of_getElem? hi);rw[hnm,hm] at hmg;cases hmg;refine ⟨fd,λs u=>?_,λbase kb nb=>?_⟩
 .obtain ⟨oc,od,kV,doc,pm,an,cdv,ct,osl,rfl,lk,hcd⟩:=Ff.ex;have q:=hB dl (List.mem_of_getElem? hi) kV doc pm an cdv ct [u] (by rw[hx];rfl);rw[hx] at q;exact .of_eq q
 .rw[<- hx];exact vT hC hD hB h1 h2 h3 k i dl hi fa fd Ff
theorem IsE.v {C:Ctx}{sc:Scope}{N:List Str}{i:Nat}{x:Str}{p:Pos}(h1:N[i]?=some x:=by rfl)(h2:zeG sc x=true:=by kernel_rfl)(h3:xn x=true:=by kernel_rfl):IsE C sc N (.var i) (.e (.Name x p)):=.var h1 h2 h3
theorem us1 {P:List Value->Prop}(h:∀a,P [a]):∀us:List Value,us.length=1->P us
 | [a],_=>h a
theorem usS {n:Nat}{P:List Value->Prop}(h:∀a (us:List Value),us.length=n->P (a::us)):∀us:List Value,us.length=n+1->P us
 | a::us,e=>h a us (Nat.succ.inj e)
theorem us2 {P:List Value->Prop}(h:∀a b,P [a,b]):∀us:List Value,us.length=2->P us:=usS λa=>us1 (P:=λus=>P (a::us)) (h a)
theorem us3 {P:List Value->Prop}(h:∀a b c,P [a,b,c]):∀us:List Value,us.length=3->P us:=usS λa=>us2 (P:=λus=>P (a::us)) (h a)
theorem us4 {P:List Value->Prop}(h:∀a b c d,P [a,b,c,d]):∀us:List Value,us.length=4->P us:=usS λa=>us3 (P:=λus=>P (a::us)) (h a)
end Mini
namespace Mini
namespace Vl
inductive Dat where
 | non | bl (b:Bool) | int (i:Int) | str (s:List Nat) | tup (xs:List Dat) | lst (xs:List Dat) | scr (ns:List Int) | dct (ks:List (List Int)) (xs:List Dat)
deriving Inhabited
inductive Lv where | no | top | full
deriving DecidableEq,Inhabited
abbrev DEn:=List (Option Dat)
inductive Rd where | ok (d:Dat) | exc (c:Nat) (d:Dat) | no
deriving Inhabited
noncomputable def Rd.bind (r:Rd)(f:Dat->Rd):Rd:=match r with
 | .ok d=>f d
 | .exc c d=>.exc c d
 | .no=>.no
mutual
noncomputable def flat:Dat->Bool
 | .lst _=>false
 | .tup xs=>flatL xs
 | .non=>true
 | .bl _=>true
 | .int _=>true
 | .str _=>true
 | .scr _=>true
 | .dct _ _=>false
noncomputable def flatL:List Dat->Bool
 | []=>true
 | d::ds=>flat d && flatL ds
end
mutual
noncomputable def yW:Nat->Dat->Bool
 | 0,_=>false
 | _+1,.scr _=>false
 | _+1,.dct _ _=>false
 | k+1,.tup xs=>eqOkL k xs
 | k+1,.lst xs=>eqOkL k xs
 | _+1,.non=>true
 | _+1,.bl _=>true
 | _+1,.int _=>true
 | _+1,.str _=>true
noncomputable def eqOkL:Nat->List Dat->Bool
 | _,[]=>true
 | k,d::ds=>yW k d && eqOkL k ds
end
mutual
noncomputable def deq:Dat->Dat->Bool
 | .tup a,.tup b=>deqL a b
 | .lst a,.lst b=>deqL a b
 | .non,.non=>true
 | .bl a,.bl b=>a == b
 | .int a,.int b=>decide (a=b)
 | .bl a,.int b=>decide (b2i a=b)
 | .int a,.bl b=>decide (a=b2i b)
 | .str a,.str b=>decide (a=b)
 | _,_=>false
noncomputable def deqL:List Dat->List Dat->Bool
 | [],[]=>true
 | x::xs,y::ys=>deq x y && deqL xs ys
 | _,_=>false
end
noncomputable def wD:Dat->Option (List Dat)
 | .tup xs=>some xs
 | .lst xs=>some xs
 | .scr ns=>some (ns.map .int)
 | _=>none
noncomputable def lsD:Dat->Option (List Dat)
 | .lst xs=>some xs
 | .scr ns=>some (ns.map .int)
 | _=>none
noncomputable def yB (xs:List Dat):Rd:=if xs.length<=lim then .ok (.lst xs) else .no
noncomputable def yy (op:Bo)(x y:Dat):Rd:=match x,y with
 | .int i,.int j=>match op with
  | .add=>.ok (.int (i+j))
  | .sub=>.ok (.int (i - j))
  | .mul=>if yA i || yA j then .ok (.int (i * j)) else .no
  | .fdiv=>if 0 < j/\j < 1073741824 then .ok (.int (i / j)) else .no
  | .mod=>if 0 < j then .ok (.int (i % j)) else .no
  | .pow=>if 0<=j/\j<=1000000/\yA i=true then .ok (.int (i ^ j.toNat)) else .no
  | .shr=>if 0<=j/\j<=1000 then .ok (.int (i / 2 ^ j.toNat)) else .no
  | .band=>if 0<=i/\j=1 then .ok (.int (i % 2)) else .no
 | .lst xs,.lst ys=>match op with
  | .add=>yB (xs++ys)
  | _=>.no
 | .lst xs,.int k=>match op with
  | .mul=>if -lim<=k/\k<=lim then yB (List.replicate k.toNat xs).flatten else .no
  | _=>.no
 | .tup xs,.tup ys=>match op with
  | .add=>if xs.length+ys.length<=lim/\xs.isEmpty=false then .ok (.tup (xs++ys)) else .no
  | _=>.no
 | _,_=>.no
noncomputable def eqD (x y:Dat):Option Bool:=if yW yT x && yW yT y then some (deq x y) else none
noncomputable def inD (x:Dat)(ys:List Dat):Option Bool:=if yW yT x && eqOkL yT ys then some (ys.any λy=>deq y x) else none
noncomputable def qU:Option Bool->Rd
 | some b=>.ok (.bl b)
 | none=>.no
noncomputable def zcZ (r:Int->Int->Bool)(x y:Dat):Rd:=match x,y with
 | .int i,.int j=>.ok (.bl (r i j))
 | _,_=>.no
noncomputable def xO:List Dat->Option (List Int)
 | []=>some []
 | .int i::r=>(xO r).map (i::·)
 | _=>none
noncomputable def inKD (x y:Dat):Option Bool:=match y with
 | .dct ks _=>match x with
  | .int _=>some false
  | .tup ds=>(xO ds).map λk=>decide (k∈ks)
  | _=>none
 | _=>none
noncomputable def yz (op:Co)(x y:Dat):Rd:=match op with
 | .eq=>qU (eqD x y)
 | .ne=>qU ((eqD x y).map (!·))
 | .notN=>match y,x with
  | .non,.non=>.ok (.bl false)
  | .non,_=>.ok (.bl true)
  | _,_=>.no
 | .isin=>match wD y with
  | some ys=>qU (inD x ys)
  | none=>qU (inKD x y)
 | .lt=>zcZ (λi j=>decide (i < j)) x y
 | .le=>zcZ (λi j=>decide (i<=j)) x y
 | .gt=>zcZ (λi j=>decide (j < i)) x y
 | .ge=>zcZ (λi j=>decide (j<=i)) x y
noncomputable def isD (t:Tg)(x:Dat):Bool:=match t with
 | .int=>match x with
  | .int _=>true
  | .bl _=>true
  | _=>false
 | .bool=>match x with
  | .bl _=>true
  | _=>false
 | .str=>match x with
  | .str _=>true
  | _=>false
 | .tuple=>match x with
  | .tup _=>true
  | _=>false
 | .list=>match x with
  | .scr _=>true
  | .lst _=>true
  | _=>false
 | .dict=>match x with
  | .dct _ _=>true
  | _=>false
noncomputable def jU:List Dat->Option Int
 | []=>some 0
 | .int i::r=>(jU r).map (i+·)
 | _=>none
noncomputable def jV:List Dat->Option Bool
 | []=>some true
 | .bl b::r=>(jV r).map (b && ·)
 | _=>none
noncomputable def zc0:List Dat->Option (List (Dat×Dat))
 | []=>some []
 | .tup [x,y]::r=>(zc0 r).map ((x,y)::·)
 | _=>none
noncomputable def yC (b:Blf)(ws:List Dat):Rd:=match b with
 | .sortI=>match ws with
  | [x]=>match (lsD x).bind xO with
   | some k=>if k.length < 64 then yB ((zbn k).map Dat.int) else .no
   | none=>.no
  | _=>.no
 | .len=>match ws with
  | [x]=>match wD x with
   | some xs=>.ok (.int xs.length)
   | none=>.no
  | _=>.no
 | .int=>match ws with
  | [.int i]=>.ok (.int i)
  | [.bl b]=>.ok (.int (b2i b))
  | _=>.no
 | .list=>match ws with
  | [x]=>match wD x with
   | some xs=>yB xs
   | none=>.no
  | _=>.no
 | .sum=>match ws with
  | [x]=>match (lsD x).bind jU with
   | some i=>.ok (.int i)
   | none=>.no
  | _=>.no
 | .all=>match ws with
  | [x]=>match (lsD x).bind jV with
   | some i=>.ok (.bl i)
   | none=>.no
  | _=>.no
 | .abs=>match ws with
  | [.int i]=>.ok (.int (if i < 0 then -i else i))
  | _=>.no
 | .max2=>match ws with
  | [.int i,.int j]=>.ok (.int (if j > i then j else i))
  | _=>.no
noncomputable def yk (x y:Dat):Rd:=match y with
 | .int i=>match wD x with
  | some xs=>match (ix xs.length i).bind λj=>xs[j]? with
   | some v=>.ok v
   | none=>.no
  | none=>.no
 | _=>.no
noncomputable def gW:Dat->Option (List Int)
 | .tup ds=>xO ds
 | _=>none
noncomputable def gX (x y:Dat):Rd:=match x with
 | .dct ks ds=>match (gW y).bind (atK ks ds) with
  | some v=>.ok v
  | none=>.no
 | _=>.no
noncomputable def slD (x:Dat)(lo hi:Option Int):Rd:=match lsD x with
 | some xs=>yB ((xs.drop (sIx xs.length 0 lo)).take (sIx xs.length xs.length hi - sIx xs.length 0 lo))
 | none=>.no
noncomputable def ym (lo st:Int)(n:Nat):List Dat:=(List.range n).map λ(i:Nat)=>.int (lo+st * (i:Int))
noncomputable def wE (a b c:Dat):Rd:=match a,b,c with
 | .int a,.int b,.int c=>if -lim<=a/\a<=lim/\-lim<=b/\b<=lim/\(c=1\/c=-1) then .ok (.tup (ym a c (wY a b c))) else .no
 | _,_,_=>.no
noncomputable def ye {α:Type}(c e:α->Rd):List α->List Dat->Rd
 | [],acc=>yB acc
 | x::xs,acc=>(c x).bind λb=>match b with
  | .bl true=>(e x).bind λy=>if acc.length < lim then ye c e xs (acc++[y]) else .no
  | .bl false=>ye c e xs acc
  | _=>.no
noncomputable def itD (d:Dat):Option (List Dat):=match d with
 | .tup xs=>some xs
 | .scr ns=>some (ns.map .int)
 | .lst xs=>if xs.length<=lim then some xs else none
 | _=>none
noncomputable def y4 (k:Kd)(x y:Dat):Option (List (Dat×Dat)):=match k,x,y with
 | .zip,.lst xs,.lst ys=>if xs.length<=lim/\ys.length<=lim then some (xs.zip ys) else none
 | .enum,.lst xs,.int s=>if xs.length<=lim then some ((ym s 1 xs.length).zip xs) else none
 | .prs,.lst xs,.int _=>if xs.length<=lim then zc0 xs else none
 | .ptp,.tup xs,.int _=>if xs.length<=lim then zc0 xs else none
 | _,_,_=>none
noncomputable def yd:Dat->List Dat
 | .tup xs=>xs
 | _=>[]
noncomputable def ziC:Wd->Option Dat
 | .non=>some .non
 | .bl b=>some (.bl b)
 | .int i=>some (.int i)
 | .str s=>some (.str s)
 | _=>none
noncomputable def evD (cl:Nat->List Dat->Rd):Ex->DEn->Rd
 | .var i,de=>match de[i]? with
  | some (some d)=>.ok d
  | _=>.no
 | .lit w,_=>match ziC w with
  | some d=>.ok d
  | none=>.no
 | .bin op a b,de=>(evD cl a de).bind λx=>(evD cl b de).bind λy=>yy op x y
 | .neg a,de=>(evD cl a de).bind λx=>match x with
  | .int i=>.ok (.int (-i))
  | _=>.no
 | .not a,de=>(evD cl a de).bind λx=>match x with
  | .bl b=>.ok (.bl (! b))
  | _=>.no
 | .and a b,de=>(evD cl a de).bind λx=>match x with
  | .bl true=>evD cl b de
  | .bl false=>.ok (.bl false)
  | _=>.no
 | .or a b,de=>(evD cl a de).bind λx=>match x with
  | .bl false=>evD cl b de
  | .bl true=>.ok (.bl true)
  | _=>.no
 | .cmp op a b,de=>(evD cl a de).bind λx=>(evD cl b de).bind λy=>yz op x y
 | .chain p q a b c,de=>(evD cl a de).bind λx=>(evD cl b de).bind λy=>(yz p x y).bind λz=>match z with
  | .bl true=>(evD cl c de).bind λu=>yz q y u
  | .bl false=>.ok (.bl false)
  | _=>.no
 | .ife c a b,de=>(evD cl c de).bind λx=>match x with
  | .bl true=>evD cl a de
  | .bl false=>evD cl b de
  | _=>.no
 | .unit,_=>.ok (.tup [])
 | .pair a b,de=>(evD cl a de).bind λx=>(evD cl b de).bind λy=>.ok (.tup (x::yd y))
 | .call k a,de=>(evD cl a de).bind λx=>cl k (yd x)
 | .blt b a,de=>(evD cl a de).bind λx=>yC b (yd x)
 | .isi t a,de=>(evD cl a de).bind λx=>.ok (.bl (isD t x))
 | .lst a,de=>(evD cl a de).bind λx=>yB (yd x)
 | .tup a,de=>(evD cl a de).bind λx=>if (yd x).length<=lim then .ok (.tup (yd x)) else .no
 | .idx a b,de=>(evD cl a de).bind λx=>(evD cl b de).bind λy=>yk x y
 | .slL a lo,de=>(evD cl a de).bind λx=>(evD cl lo de).bind λy=>match y with
  | .int i=>slD x (some i) none
  | _=>.no
 | .slH a hi,de=>(evD cl a de).bind λx=>(evD cl hi de).bind λy=>match y with
  | .int i=>slD x none (some i)
  | _=>.no
 | .slB a lo hi,de=>(evD cl a de).bind λx=>(evD cl lo de).bind λy=>match y with
  | .int i=>(evD cl hi de).bind λz=>match z with
   | .int j=>slD x (some i) (some j)
   | _=>.no
  | _=>.no
 | .meth _ _ _,_=>.no
 | .rng a b c,de=>(evD cl a de).bind λx=>(evD cl b de).bind λy=>(evD cl c de).bind λz=>wE x y z
 | .comp elt it cond,de=>(evD cl it de).bind λx=>match itD x with
  | some xs=>ye (λx=>evD cl cond (de++[some x])) (λx=>evD cl elt (de++[some x])) xs []
  | none=>.no
 | .compP k elt a b cond,de=>(evD cl a de).bind λx=>(evD cl b de).bind λy=>match y4 k x y with
  | some ps=>ye (λp=>evD cl cond (de++[some p.1]++[some p.2])) (λp=>evD cl elt (de++[some p.1]++[some p.2])) ps []
  | none=>.no
 | .lrng a,de=>(evD cl a de).bind λx=>match x with
  | .int j=>if -lim<=j/\j<=lim then yB (ym 0 1 j.toNat) else .no
  | _=>.no
theorem kS {cl:Nat->List Wd->Me->Rz}{i:Nat}{env:En}{w:Wd}(h:env[i]?=some (some w))(m:Me):evE cl (.var i) env m=.ok w m:=by
 show (match env[i]? with | some (some w)=>Rz.ok w m | _=>.no)=_;rw[h]
theorem xF {cl:Nat->List Dat->Rd}{i:Nat}{de:DEn}{d:Dat}(h:de[i]?=some (some d)):evD cl (.var i) de=.ok d:=by
 show (match de[i]? with | some (some d)=>Rd.ok d | _=>.no)=_;rw[h]
theorem xj {cl:Nat->List Dat->Rd}{i:Nat}{de:DEn}(h:de[i]?=none\/de[i]?=some none):evD cl (.var i) de=.no:=by
 show (match de[i]? with | some (some d)=>Rd.ok d | _=>.no)=_;rcases h with h | h <;> rw[h]
theorem zaI {cl:Nat->List Dat->Rd}{i:Nat}{de:DEn}{d:Dat}(h:evD cl (.var i) de=.ok d):de[i]?=some (some d):=by
 cases z:de[i]? with
 | none=>rw[xj (.inl z)] at h;cases h
 | some o =>
  cases o with
  | none=>rw[xj (.inr z)] at h;cases h
  | some e=>rw[xF z] at h;cases h;rfl
mutual
noncomputable def Rep (R:Nat->Prop)(m:Me):Dat->Wd->Prop
 | .non,w=>w=.non
 | .bl b,w=>w=.bl b
 | .int i,w=>w=.int i
 | .str s,w=>w=.str s
 | .scr ns,w=>w=.rol (ns.map Wd.int)
 | .tup ds,w=>∃xs,w=.tup xs/\RepL R m ds xs
 | .lst ds,w=>∃l xs,w=.ref l/\R l/\m[l]?=some (.lst xs)/\RepL R m ds xs
 | .dct ks ds,w=>∃l xs,w=.ref l/\R l/\m[l]?=some (.dct ks xs)/\RepL R m ds xs
noncomputable def RepL (R:Nat->Prop)(m:Me):List Dat->List Wd->Prop
 | [],xs=>xs=[]
 | d::ds,xs=>∃x r,xs=x::r/\Rep R m d x/\RepL R m ds r
end
def Le (m m':Me):Prop:=∀ (l:Nat) o,m[l]?=some o->m'[l]?=some o
theorem Le.refl (m:Me):Le m m:=λ_ _ h=>h
theorem Le.trans {a b c:Me}(h:Le a b)(k:Le b c):Le a c:=λl o z=>k l o (h l o z)
theorem Le.app (m x:Me):Le m (m++x):=λl o z=>by
 obtain ⟨hl,_⟩:=List.getElem?_eq_some_iff.mp z;rw[List.getElem?_append_left hl];exact z
theorem Le.len {a b:Me}(h:Le a b):a.length<=b.length:=by
 rcases Nat.lt_or_ge b.length a.length with z | z
 .have:=h b.length a[b.length] (List.getElem?_eq_getElem z);have:=(List.getElem?_eq_some_iff.mp this).1;lia
 .exact z
def Rf (R:Nat->Prop)(n:Nat):Nat->Prop:=λl=>R l\/n<=l
mutual
theorem Rep.frame {R R':Nat->Prop}{m m':Me}(h:∀ (l:Nat) o,R l->m[l]?=some o->R' l/\m'[l]?=some o):∀ (d:Dat) (w:Wd),Rep R m d w->Rep R' m' d w
 | .non,w,q=>by unfold Rep at q ⊢;exact q
 | .bl b,w,q=>by unfold Rep at q ⊢;exact q
 | .int b,w,q=>by unfold Rep at q ⊢;exact q
 | .str b,w,q=>by unfold Rep at q ⊢;exact q
 | .scr b,w,q=>by unfold Rep at q ⊢;exact q
 | .tup ds,w,q=>by
  unfold Rep at q ⊢;obtain ⟨xs,rfl,q⟩:=q;exact ⟨xs,rfl,RepL.frame h ds xs q⟩
 | .lst ds,w,q=>by
  unfold Rep at q ⊢;obtain ⟨l,xs,rfl,r,z,q⟩:=q;exact ⟨l,xs,rfl,(h l _ r z).1,(h l _ r z).2,RepL.frame h ds xs q⟩
 | .dct ks ds,w,q=>by
  unfold Rep at q ⊢;obtain ⟨l,xs,rfl,r,z,q⟩:=q;exact ⟨l,xs,rfl,(h l _ r z).1,(h l _ r z).2,RepL.frame h ds xs q⟩
theorem RepL.frame {R R':Nat->Prop}{m m':Me}(h:∀ (l:Nat) o,R l->m[l]?=some o->R' l/\m'[l]?=some o):∀ (ds:List Dat) (xs:List Wd),RepL R m ds xs->RepL R' m' ds xs
 | [],xs,q=>by unfold RepL at q ⊢;exact q
 | d::ds,xs,q=>by
  unfold RepL at q ⊢;obtain ⟨x,r,rfl,a,b⟩:=q;exact ⟨x,r,rfl,Rep.frame h d x a,RepL.frame h ds r b⟩
end
theorem Rep.up {R:Nat->Prop}{m m':Me}{d:Dat}{w:Wd}(n:Nat)(h:Le m m')(q:Rep R m d w):Rep (Rf R n) m' d w :=
 Rep.frame (λl o r z=>⟨.inl r,h l o z⟩) d w q
theorem RepL.up {R:Nat->Prop}{m m':Me}{d:List Dat}{w:List Wd}(n:Nat)(h:Le m m')(q:RepL R m d w):RepL (Rf R n) m' d w :=
 RepL.frame (λl o r z=>⟨.inl r,h l o z⟩) d w q
theorem repL_iff {R:Nat->Prop}{m:Me}:∀ {ds:List Dat}{xs:List Wd},RepL R m ds xs↔ds.length=xs.length/\∀ (i:Nat) d x,ds[i]?=some d->xs[i]?=some x->Rep R m d x
 | [],xs=>by
  unfold RepL;constructor
  .rintro rfl;exact ⟨rfl,by simp⟩
  .rintro ⟨h,_⟩;exact List.eq_nil_of_length_eq_zero h.symm
 | d::ds,xs=>by
  unfold RepL;constructor
  .rintro ⟨x,r,rfl,a,b⟩;obtain ⟨hl,hb⟩:=repL_iff.mp b;refine ⟨by simp[hl],λi e y h1 h2=>?_⟩;cases i with
   | zero=>simp at h1 h2;subst h1;subst h2;exact a
   | succ i=>simp at h1 h2;exact hb i e y h1 h2
  .rintro ⟨hl,h⟩;cases xs with
   | nil=>cases hl
   | cons x r =>
    refine ⟨x,r,rfl,h 0 d x rfl rfl,repL_iff.mpr ⟨by simpa using hl,λi e y h1 h2=>h (i+1) e y (by simpa using h1) (by simpa using h2)⟩⟩
theorem RepL.len {R:Nat->Prop}{m:Me}{ds:List Dat}{xs:List Wd}(h:RepL R m ds xs):ds.length=xs.length:=(repL_iff.mp h).1
theorem RepL.get {R:Nat->Prop}{m:Me}{ds:List Dat}{xs:List Wd}(h:RepL R m ds xs){i:Nat}{d:Dat}(z:ds[i]?=some d):∃x,xs[i]?=some x/\Rep R m d x:=by
 obtain ⟨hl,h⟩:=repL_iff.mp h;obtain ⟨hi,_⟩:=List.getElem?_eq_some_iff.mp z;exact ⟨xs[i],List.getElem?_eq_getElem (by lia),h i d _ z (List.getElem?_eq_getElem (by lia))⟩
theorem RepL.nil {R:Nat->Prop}{m:Me}:RepL R m [] []:=by unfold RepL;rfl
theorem RepL.cons {R:Nat->Prop}{m:Me}{d:Dat}{x:Wd}{ds:List Dat}{xs:List Wd}(a:Rep R m d x)(b:RepL R m ds xs):RepL R m (d::ds) (x::xs):=by
 unfold RepL;exact ⟨x,xs,rfl,a,b⟩
theorem RepL.cons_inv {R:Nat->Prop}{m:Me}{d:Dat}{ds:List Dat}{xs:List Wd}(h:RepL R m (d::ds) xs):∃x r,xs=x::r/\Rep R m d x/\RepL R m ds r:=by
 unfold RepL at h;exact h
theorem RepL.nil_inv {R:Nat->Prop}{m:Me}{xs:List Wd}(h:RepL R m [] xs):xs=[]:=by unfold RepL at h;exact h
theorem RepL.app {R:Nat->Prop}{m:Me}:∀ {ds es:List Dat}{xs ys:List Wd},RepL R m ds xs->RepL R m es ys->RepL R m (ds++es) (xs++ys)
 | [],es,xs,ys,a,b=>by rw[a.nil_inv];exact b
 | d::ds,es,xs,ys,a,b=>by
  obtain ⟨x,r,rfl,p,q⟩:=a.cons_inv;exact .cons p (RepL.app q b)
theorem RepL.drop {R:Nat->Prop}{m:Me}(n:Nat){ds:List Dat}{xs:List Wd}(h:RepL R m ds xs):RepL R m (ds.drop n) (xs.drop n):=by
 obtain ⟨hl,h⟩:=repL_iff.mp h;refine repL_iff.mpr ⟨by simp[hl],λi d x a b=>h (n+i) d x (by simpa using a) (by simpa using b)⟩
set_option tactic.hygienic true in
theorem RepL.take {R:Nat->Prop}{m:Me}(n:Nat){ds:List Dat}{xs:List Wd}(h:RepL R m ds xs):RepL R m (ds.take n) (xs.take n):=by
 obtain ⟨hl,h⟩:=repL_iff.mp h;refine repL_iff.mpr ⟨by simp[hl],λi d x a b=>?_⟩;rw[List.getElem?_take] at a b;split at a
 .next z=>rw[if_pos z] at b;exact h i d x a b
 .cases a
theorem RepL.rev {R:Nat->Prop}{m:Me}:∀ {ds:List Dat}{xs:List Wd},RepL R m ds xs->RepL R m ds.reverse xs.reverse
 | [],xs,a=>by rw[a.nil_inv];exact .nil
 | d::ds,xs,a=>by
  obtain ⟨x,r,rfl,p,q⟩:=a.cons_inv;rw[List.reverse_cons,List.reverse_cons];exact RepL.app (RepL.rev q) (.cons p .nil)
theorem RepL.set {R:Nat->Prop}{m:Me}{ds:List Dat}{xs:List Wd}(h:RepL R m ds xs)(j:Nat){d:Dat}{x:Wd}(z:Rep R m d x):RepL R m (ds.set j d) (xs.set j x):=by
 obtain ⟨hl,h⟩:=repL_iff.mp h;refine repL_iff.mpr ⟨by simp[hl],λi e y a b=>?_⟩;rw[List.getElem?_set] at a b;by_cases q:j=i
 .rw[if_pos q] at a b;split at a
  .split at b
   .cases a;cases b;exact z
   .cases b
  .cases a
 .rw[if_neg q] at a b;exact h i e y a b
theorem RepL.rep {R:Nat->Prop}{m:Me}{ds:List Dat}{xs:List Wd}(h:RepL R m ds xs):∀k:Nat,RepL R m (List.replicate k ds).flatten (List.replicate k xs).flatten
 | 0=>.nil
 | k+1=>by
  rw[List.replicate_succ,List.replicate_succ,List.flatten_cons,List.flatten_cons];exact RepL.app h (RepL.rep h k)
theorem zjV {R:Nat->Prop}{m:Me}:∀ (l:List Int),RepL R m (l.map Dat.int) (l.map Wd.int)
 | []=>.nil
 | i::l=>.cons (by unfold Rep;rfl) (zjV l)
theorem rep_int {R:Nat->Prop}{m:Me}{i:Int}{w:Wd}:Rep R m (.int i) w↔w=.int i:=by unfold Rep;exact Iff.rfl
theorem rep_bl {R:Nat->Prop}{m:Me}{i:Bool}{w:Wd}:Rep R m (.bl i) w↔w=.bl i:=by unfold Rep;exact Iff.rfl
theorem rep_non {R:Nat->Prop}{m:Me}{w:Wd}:Rep R m .non w↔w=.non:=by unfold Rep;exact Iff.rfl
theorem rep_str {R:Nat->Prop}{m:Me}{s:List Nat}{w:Wd}:Rep R m (.str s) w↔w=.str s:=by unfold Rep;exact Iff.rfl
theorem rep_scr {R:Nat->Prop}{m:Me}{s:List Int}{w:Wd}:Rep R m (.scr s) w↔w=.rol (s.map Wd.int):=by unfold Rep;exact Iff.rfl
theorem rep_tup {R:Nat->Prop}{m:Me}{ds:List Dat}{w:Wd}:Rep R m (.tup ds) w↔∃xs,w=.tup xs/\RepL R m ds xs:=by
 constructor
 .intro h;unfold Rep at h;exact h
 .intro h;unfold Rep;exact h
theorem rep_lst {R:Nat->Prop}{m:Me}{ds:List Dat}{w:Wd}:Rep R m (.lst ds) w↔∃l xs,w=.ref l/\R l/\m[l]?=some (.lst xs)/\RepL R m ds xs:=by
 constructor
 .intro h;unfold Rep at h;exact h
 .intro h;unfold Rep;exact h
theorem rep_dct {R:Nat->Prop}{m:Me}{ks:List (List Int)}{ds:List Dat}{w:Wd}:Rep R m (.dct ks ds) w↔∃l xs,w=.ref l/\R l/\m[l]?=some (.dct ks xs)/\RepL R m ds xs:=by
 constructor
 .intro h;unfold Rep at h;exact h
 .intro h;unfold Rep;exact h
def SimE (R:Nat->Prop)(m:Me)(r:Rz)(rd:Rd):Prop:=match rd with
 | .ok d=>∃w m',r=.ok w m'/\Le m m'/\Rep (Rf R m.length) m' d w
 | .exc c d=>∃w m',r=.exc c w m'/\Le m m'/\Rep (Rf R m.length) m' d w
 | .no=>True
theorem SimE.lift {R:Nat->Prop}{m m1:Me}{r:Rz}{rd:Rd}(h:Le m m1)(q:SimE (Rf R m.length) m1 r rd):SimE R m r rd:=by
 have hl:=h.len;have fr:∀ (m':Me) (d:Dat) (w:Wd),Rep (Rf (Rf R m.length) m1.length) m' d w->Rep (Rf R m.length) m' d w:=λm' d w=>Rep.frame (λl o z k=>⟨by rcases z with (z | z) | z;exact .inl z;exact .inr z;exact .inr (by lia),k⟩) d w;cases rd with
 | ok d=>obtain ⟨w,m',rfl,k,z⟩:=q;exact ⟨w,m',rfl,h.trans k,fr _ _ _ z⟩
 | exc c d=>obtain ⟨w,m',rfl,k,z⟩:=q;exact ⟨w,m',rfl,h.trans k,fr _ _ _ z⟩
 | no=>trivial
theorem SimE.bind {R:Nat->Prop}{m:Me}{r:Rz}{rd:Rd}{f:Wd->Me->Rz}{g:Dat->Rd}(h:SimE R m r rd)
  (k:∀d w m',Le m m'->Rep (Rf R m.length) m' d w->SimE (Rf R m.length) m' (f w m') (g d)):SimE R m (r.bind f) (rd.bind g):=by
 cases rd with
 | ok d=>obtain ⟨w,m',rfl,l,z⟩:=h;exact SimE.lift l (k d w m' l z)
 | exc c d=>obtain ⟨w,m',rfl,l,z⟩:=h;exact ⟨w,m',rfl,l,z⟩
 | no=>trivial
theorem zjP {R:Nat->Prop}{m:Me}{d:Dat}{w:Wd}(h:Rep R m d w):SimE R m (.ok w m) (.ok d) :=
 ⟨w,m,rfl,Le.refl m,h.up _ (Le.refl m)⟩
theorem SimE.no {R:Nat->Prop}{m:Me}{r:Rz}:SimE R m r .no:=trivial
theorem SimE.new {R:Nat->Prop}{m:Me}{ds:List Dat}{xs:List Wd}(h:RepL R m ds xs):SimE R m (alloc m xs) (yB ds):=by
 unfold yB alloc;rw[h.len];by_cases z:xs.length<=lim
 .rw[if_pos z,if_pos z];exact ⟨_,_,rfl,Le.app m _,rep_lst.mpr ⟨_,xs,rfl,.inr (Nat.le_refl _),by simp,h.up _ (Le.app m _)⟩⟩
 .rw[if_neg z,if_neg z];exact SimE.no
theorem vh {R:Nat->Prop}{m:Me}{d:Dat}{w:Wd}{ds:List Dat}(h:Rep R m d w)(z:wD d=some ds):∃xs,xA m w=some xs/\RepL R m ds xs:=by
 cases d with
 | tup es=>obtain ⟨xs,rfl,q⟩:=rep_tup.mp h;cases z;exact ⟨xs,rfl,q⟩
 | lst es =>
  obtain ⟨l,xs,rfl,_,e,q⟩:=rep_lst.mp h;cases z;exact ⟨xs,by show zK m l=_;unfold zK;rw[e],q⟩
 | scr ns=>rw[rep_scr.mp h];cases z;exact ⟨_,rfl,zjV ns⟩
 | _=>cases z
theorem w9 {R:Nat->Prop}{m:Me}{d:Dat}{w:Wd}{ds:List Dat}(h:Rep R m d w)(z:lsD d=some ds):∃xs,jf m w=some xs/\RepL R m ds xs:=by
 cases d with
 | lst es =>
  obtain ⟨l,xs,rfl,_,e,q⟩:=rep_lst.mp h;cases z;exact ⟨xs,by show zK m l=_;unfold zK;rw[e],q⟩
 | scr ns=>rw[rep_scr.mp h];cases z;exact ⟨_,rfl,zjV ns⟩
 | _=>cases z
theorem gY:∀ {a b:List Int},a.map Wd.int=b.map Wd.int->a=b
 | [],[],_=>rfl
 | [],_::_,h=>by cases h
 | _::_,[],h=>by cases h
 | x::a,y::b,h=>by
  simp only[List.map_cons,List.cons.injEq,Wd.int.injEq] at h;rw[h.1,gY h.2]
mutual
theorem Rep.det {R R':Nat->Prop}{m:Me}:∀ (d e:Dat) (w:Wd),Rep R m d w->Rep R' m e w->d=e
 | .non,e,w,q,z=>by rw[rep_non.mp q] at z;cases e <;> unfold Rep at z <;> first | rfl | (exfalso;simp at z)
 | .bl b,e,w,q,z=>by rw[rep_bl.mp q] at z;cases e <;> unfold Rep at z <;> first | (injection z with z;rw[z]) | (exfalso;simp at z)
 | .int b,e,w,q,z=>by rw[rep_int.mp q] at z;cases e <;> unfold Rep at z <;> first | (injection z with z;rw[z]) | (exfalso;simp at z)
 | .str b,e,w,q,z=>by rw[rep_str.mp q] at z;cases e <;> unfold Rep at z <;> first | (injection z with z;rw[z]) | (exfalso;simp at z)
 | .scr b,e,w,q,z=>by rw[rep_scr.mp q] at z;cases e <;> unfold Rep at z <;> first | (injection z with z;rw[gY z]) | (exfalso;simp at z)
 | .tup ds,e,w,q,z=>by
  obtain ⟨xs,rfl,q1⟩:=rep_tup.mp q;cases e with
  | tup es=>obtain ⟨ys,e,z1⟩:=rep_tup.mp z;cases e;rw[RepL.det ds es xs q1 z1]
  | _=>exfalso;unfold Rep at z;simp at z
 | .lst ds,e,w,q,z=>by
  obtain ⟨l,xs,rfl,_,hm,q1⟩:=rep_lst.mp q;cases e with
  | lst es=>obtain ⟨l',ys,e,_,hn,z1⟩:=rep_lst.mp z;cases e;rw[hm] at hn;cases hn;rw[RepL.det ds es xs q1 z1]
  | dct ks es=>obtain ⟨l',ys,e,_,hn,z1⟩:=rep_dct.mp z;cases e;rw[hm] at hn;cases hn
  | _=>exfalso;unfold Rep at z;simp at z
 | .dct ks ds,e,w,q,z=>by
  obtain ⟨l,xs,rfl,_,hm,q1⟩:=rep_dct.mp q;cases e with
  | dct ks' es=>obtain ⟨l',ys,e,_,hn,z1⟩:=rep_dct.mp z;cases e;rw[hm] at hn;cases hn;rw[RepL.det ds es xs q1 z1]
  | lst es=>obtain ⟨l',ys,e,_,hn,z1⟩:=rep_lst.mp z;cases e;rw[hm] at hn;cases hn
  | _=>exfalso;unfold Rep at z;simp at z
theorem RepL.det {R R':Nat->Prop}{m:Me}:∀ (ds es:List Dat) (xs:List Wd),RepL R m ds xs->RepL R' m es xs->ds=es
 | [],es,xs,q,z=>by
  rw[q.nil_inv] at z;cases es with
  | nil=>rfl
  | cons e es=>obtain ⟨_,_,h,_⟩:=z.cons_inv;cases h
 | d::ds,es,xs,q,z=>by
  obtain ⟨x,r,rfl,a,b⟩:=q.cons_inv;cases es with
  | nil=>cases z.nil_inv
  | cons e es =>
   obtain ⟨_,_,h,a',b'⟩:=z.cons_inv;cases h;rw[Rep.det d e x a a',RepL.det ds es r b b']
end
theorem zfN (d:Dat):yW 0 d=false:=by cases d <;> rfl
mutual
theorem gZ:∀ (k:Nat) (d:Dat),yW k d=true->deq d d=true
 | 0,d,h=>by rw[zfN] at h;cases h
 | k+1,.non,h=>rfl
 | k+1,.bl b,h=>by show (b == b)=true;simp
 | k+1,.int b,h=>by show decide (b=b)=true;simp
 | k+1,.str b,h=>by show decide (b=b)=true;simp
 | k+1,.scr b,h=>absurd (show false=true from h) (by decide)
 | k+1,.dct _ _,h=>absurd (show false=true from h) (by decide)
 | k+1,.tup ds,h=>deqL_refl k ds h
 | k+1,.lst ds,h=>deqL_refl k ds h
theorem deqL_refl:∀ (k:Nat) (ds:List Dat),eqOkL k ds=true->deqL ds ds=true
 | k,[],h=>rfl
 | k,d::ds,h=>by
  replace h:(yW k d && eqOkL k ds)=true:=h
  show (deq d d && deqL ds ds)=true;rw[Bool.and_eq_true] at h ⊢;exact ⟨gZ k d h.1,deqL_refl k ds h.2⟩
end
theorem jW {R:Nat->Prop}{m:Me}{k:Nat}(ih:∀ (d e:Dat) (x y:Wd),yW k d=true->yW k e=true->Rep R m d x->Rep R m e y->eqW m k x y=some (deq d e)):
  ∀ (ds es:List Dat) (xs ys:List Wd),eqOkL k ds=true->eqOkL k es=true->RepL R m ds xs->RepL R m es ys->∃q,eqL (eqW m k) xs ys=some q/\(q && decide (xs.length=ys.length))=deqL ds es
 | [],es,xs,ys,h1,h2,a,b=>by
  rw[a.nil_inv];cases es with
  | nil=>rw[b.nil_inv];exact ⟨true,rfl,rfl⟩
  | cons e es=>obtain ⟨y,r,rfl,_,_⟩:=b.cons_inv;exact ⟨true,rfl,rfl⟩
 | d::ds,es,xs,ys,h1,h2,a,b=>by
  obtain ⟨x,r,rfl,p,q⟩:=a.cons_inv;cases es with
  | nil=>rw[b.nil_inv];exact ⟨true,rfl,rfl⟩
  | cons e es =>
   obtain ⟨y,s,rfl,p',q'⟩:=b.cons_inv
   replace h1:(yW k d && eqOkL k ds)=true:=h1
   replace h2:(yW k e && eqOkL k es)=true:=h2
   rw[Bool.and_eq_true] at h1 h2;obtain ⟨t,ht,hb⟩:=jW ih ds es r s h1.2 h2.2 q q';refine ⟨deq d e && t,?_,?_⟩
   .unfold eqL;rw[ih d e x y h1.1 h2.1 p p',ht];rfl
   .show (deq d e && t && decide (r.length+1=s.length+1))=(deq d e && deqL ds es);simp only[<- hb,Nat.succ_inj,Bool.and_assoc]
theorem isLst_of {m:Me}{l:Nat}{xs:List Wd}(h:m[l]?=some (.lst xs)):isLst m l=true:=by unfold isLst;rw[h]
theorem xg {m:Me}{l:Nat}{xs:List Wd}(h:m[l]?=some (.lst xs)):(if isLst m l && true then some false else none)=some false:=by rw[isLst_of h];rfl
theorem qV {R:Nat->Prop}{m:Me}:∀ (k:Nat) (d e:Dat) (x y:Wd),yW k d=true->yW k e=true->Rep R m d x->Rep R m e y->eqW m k x y=some (deq d e)
 | 0,d,e,x,y,h,_,_,_=>by rw[zfN] at h;cases h
 | k+1,d,e,x,y,h1,h2,a,b=>by
  have ih:=qV (R:=R) (m:=m) k;cases d with
  | scr ns=>exact absurd (show false=true from h1) (by decide)
  | dct _ _=>exact absurd (show false=true from h1) (by decide)
  | tup ds =>
   obtain ⟨xs,rfl,a1⟩:=rep_tup.mp a;cases e with
   | scr ns=>exact absurd (show false=true from h2) (by decide)
   | dct _ _=>exact absurd (show false=true from h2) (by decide)
   | tup es =>
    obtain ⟨ys,rfl,b1⟩:=rep_tup.mp b;obtain ⟨q,h,e⟩:=jW ih ds es xs ys h1 h2 a1 b1;show (eqL (eqW m k) xs ys).map (· && decide (xs.length=ys.length))=some (deqL ds es);rw[h,<- e];rfl
   | lst es =>
    obtain ⟨l,ys,rfl,_,hm,b⟩:=rep_lst.mp b;exact xg hm
   | non=>rw[rep_non.mp b];rfl
   | bl _=>rw[rep_bl.mp b];rfl
   | int _=>rw[rep_int.mp b];rfl
   | str _=>rw[rep_str.mp b];rfl
  | lst ds =>
   have a0:=a;obtain ⟨l,xs,rfl,_,hm,a⟩:=rep_lst.mp a;cases e with
   | scr ns=>exact absurd (show false=true from h2) (by decide)
   | dct _ _=>exact absurd (show false=true from h2) (by decide)
   | lst es =>
    have b0:=b;obtain ⟨l',ys,rfl,_,hn,b⟩:=rep_lst.mp b;show (if l=l' then (if isLst m l then some true else none) else match m[l]?,m[l']? with
     | some (.lst xs),some (.lst ys)=>if xs.length=ys.length then eqL (eqW m k) xs ys else some false
     | _,_=>none)=_
    by_cases q:l=l'
    .subst q;rw[if_pos rfl,if_pos (isLst_of hm)];rw[Rep.det _ _ _ a0 b0] at *
     rw[gZ (k+1) _ h2]
    .rw[if_neg q,hm,hn];obtain ⟨q,h,e⟩:=jW ih ds es xs ys h1 h2 a b;show (if xs.length=ys.length then eqL (eqW m k) xs ys else some false)=some (deqL ds es);by_cases z:xs.length=ys.length
     .simp only[z,if_true,h,<- e];simp
     .simp only[z,if_false,<- e];simp
   | tup es=>obtain ⟨ys,rfl,b⟩:=rep_tup.mp b;exact xg hm
   | non=>rw[rep_non.mp b];exact xg hm
   | bl _=>rw[rep_bl.mp b];exact xg hm
   | int _=>rw[rep_int.mp b];exact xg hm
   | str _=>rw[rep_str.mp b];exact xg hm
  | non =>
   rw[rep_non.mp a];cases e with
   | scr ns=>exact absurd (show false=true from h2) (by decide)
   | dct _ _=>exact absurd (show false=true from h2) (by decide)
   | lst es=>obtain ⟨l',ys,rfl,_,hn,b⟩:=rep_lst.mp b;exact xg hn
   | tup es=>obtain ⟨ys,rfl,b⟩:=rep_tup.mp b;rfl
   | non=>rw[rep_non.mp b];rfl
   | bl _=>rw[rep_bl.mp b];rfl
   | int _=>rw[rep_int.mp b];rfl
   | str _=>rw[rep_str.mp b];rfl
  | bl _ =>
   rw[rep_bl.mp a];cases e with
   | scr ns=>exact absurd (show false=true from h2) (by decide)
   | dct _ _=>exact absurd (show false=true from h2) (by decide)
   | lst es=>obtain ⟨l',ys,rfl,_,hn,b⟩:=rep_lst.mp b;exact xg hn
   | tup es=>obtain ⟨ys,rfl,b⟩:=rep_tup.mp b;rfl
   | non=>rw[rep_non.mp b];rfl
   | bl _=>rw[rep_bl.mp b];rfl
   | int _=>rw[rep_int.mp b];rfl
   | str _=>rw[rep_str.mp b];rfl
  | int _ =>
   rw[rep_int.mp a];cases e with
   | scr ns=>exact absurd (show false=true from h2) (by decide)
   | dct _ _=>exact absurd (show false=true from h2) (by decide)
   | lst es=>obtain ⟨l',ys,rfl,_,hn,b⟩:=rep_lst.mp b;exact xg hn
   | tup es=>obtain ⟨ys,rfl,b⟩:=rep_tup.mp b;rfl
   | non=>rw[rep_non.mp b];rfl
   | bl _=>rw[rep_bl.mp b];rfl
   | int _=>rw[rep_int.mp b];rfl
   | str _=>rw[rep_str.mp b];rfl
  | str _ =>
   rw[rep_str.mp a];cases e with
   | scr ns=>exact absurd (show false=true from h2) (by decide)
   | dct _ _=>exact absurd (show false=true from h2) (by decide)
   | lst es=>obtain ⟨l',ys,rfl,_,hn,b⟩:=rep_lst.mp b;exact xg hn
   | tup es=>obtain ⟨ys,rfl,b⟩:=rep_tup.mp b;rfl
   | non=>rw[rep_non.mp b];rfl
   | bl _=>rw[rep_bl.mp b];rfl
   | int _=>rw[rep_int.mp b];rfl
   | str _=>rw[rep_str.mp b];rfl
set_option tactic.hygienic true in
theorem zaJ {R:Nat->Prop}{m:Me}{d e:Dat}{x y:Wd}{q:Bool}(h:eqD d e=some q)(a:Rep R m d x)(b:Rep R m e y):eqW m yT x y=some q:=by
 unfold eqD at h;split at h
 .next z=>simp only[Bool.and_eq_true] at z;cases h;exact qV yT d e x y z.1 z.2 a b
 .cases h
theorem zaK {R:Nat->Prop}{m:Me}{d:Dat}{x:Wd}(h:yW yT d=true)(a:Rep R m d x):∀ (es:List Dat) (ys:List Wd),eqOkL yT es=true->RepL R m es ys->inL (eqW m yT) x ys=some (es.any λe=>deq e d)
 | [],ys,_,b=>by rw[b.nil_inv];rfl
 | e::es,ys,z,b=>by
  obtain ⟨y,r,rfl,p,q⟩:=b.cons_inv
  replace z:(yW yT e && eqOkL yT es)=true:=z
  rw[Bool.and_eq_true] at z;show (match eqW m yT y x with
   | some a=>(inL (eqW m yT) x r).map (a || ·)
   | none=>none)=_
  rw[qV yT e d y x z.1 h p a,zaK h a es r z.2 q];rfl
set_option tactic.hygienic true in
theorem zeW {R:Nat->Prop}{m:Me}{d:Dat}{x:Wd}{es:List Dat}{ys:List Wd}{q:Bool}(h:inD d es=some q)(a:Rep R m d x)(b:RepL R m es ys):inL (eqW m yT) x ys=some q:=by
 unfold inD at h;split at h
 .next z=>simp only[Bool.and_eq_true] at z;cases h;exact zaK z.1 a es ys z.2 b
 .cases h
theorem SimE.int {R:Nat->Prop}{m:Me}{i:Int}:SimE R m (.ok (.int i) m) (.ok (.int i)):=zjP (rep_int.mpr rfl)
theorem SimE.bl {R:Nat->Prop}{m:Me}{i:Bool}:SimE R m (.ok (.bl i) m) (.ok (.bl i)):=zjP (rep_bl.mpr rfl)
theorem jX {R:Nat->Prop}{m:Me}{d e:Dat}{x y:Wd}(op:Bo)(a:Rep R m d x)(b:Rep R m e y):SimE R m (bop op x y m) (yy op d e):=by
 cases d with
 | int i =>
  rw[rep_int.mp a];cases e with
  | int j =>
   rw[rep_int.mp b];cases op <;> simp only[bop,yy]
   .exact SimE.int
   .exact SimE.int
   .by_cases z:(yA i || yA j)=true
    .rw[if_pos z,if_pos z];exact SimE.int
    .rw[if_neg z,if_neg z];exact SimE.no
   .by_cases z:0 < j/\j < 1073741824
    .rw[if_pos z,if_pos z];exact SimE.int
    .rw[if_neg z,if_neg z];exact SimE.no
   .by_cases z:0 < j
    .rw[if_pos z,if_pos z];exact SimE.int
    .rw[if_neg z,if_neg z];exact SimE.no
   .by_cases z:0<=j/\j<=1000000/\yA i=true
    .rw[if_pos z,if_pos z];exact SimE.int
    .rw[if_neg z,if_neg z];exact SimE.no
   .by_cases z:0<=j/\j<=1000
    .rw[if_pos z,if_pos z];exact SimE.int
    .rw[if_neg z,if_neg z];exact SimE.no
   .by_cases z:0<=i/\j=1
    .rw[if_pos z,if_pos z];exact SimE.int
    .rw[if_neg z,if_neg z];exact SimE.no
  | _=>exact SimE.no
 | lst ds =>
  obtain ⟨l,xs,rfl,_,hm,a1⟩:=rep_lst.mp a;cases e with
  | lst es =>
   obtain ⟨l',ys,rfl,_,hn,b1⟩:=rep_lst.mp b;cases op <;> first | exact SimE.no | skip
   simp only[bop,yy,hm,hn];exact SimE.new (a1.app b1)
  | int k =>
   rw[rep_int.mp b];cases op <;> first | exact SimE.no | skip
   simp only[bop,yy,hm];by_cases z:-(lim:Int)<=k/\k<=(lim:Int)
   .rw[if_pos z,if_pos z];exact SimE.new (a1.rep _)
   .rw[if_neg z,if_neg z];exact SimE.no
  | _=>exact SimE.no
 | tup ds =>
  obtain ⟨xs,rfl,a1⟩:=rep_tup.mp a;cases e with
  | tup es =>
   obtain ⟨ys,rfl,b1⟩:=rep_tup.mp b;cases op <;> first | exact SimE.no | skip
   simp only[bop,yy];have h1:=a1.len;have h2:=b1.len;have h3:ds.isEmpty=xs.isEmpty:=by cases ds <;> cases xs <;> simp_all
   rw[h1,h2,h3];by_cases z:xs.length+ys.length<=lim/\xs.isEmpty=false
   .rw[if_pos z,if_pos z];exact zjP (rep_tup.mpr ⟨_,rfl,a1.app b1⟩)
   .rw[if_neg z,if_neg z];exact SimE.no
  | _=>exact SimE.no
 | _=>exact SimE.no
theorem v9 {R:Nat->Prop}{m:Me}{d e:Dat}{x y:Wd}(r:Int->Int->Bool)(a:Rep R m d x)(b:Rep R m e y):SimE R m (kE r x y m) (zcZ r d e):=by
 cases d with
 | int i =>
  rw[rep_int.mp a];cases e with
  | int j=>rw[rep_int.mp b];exact SimE.bl
  | _=>exact SimE.no
 | _=>exact SimE.no
theorem jY {R:Nat->Prop}{m:Me}{p:Option Bool}{q:Option Bool}(h:∀b,q=some b->p=some b):SimE R m (ofB p m) (qU q):=by
 cases q with
 | none=>exact SimE.no
 | some b=>rw[h b rfl];exact SimE.bl
theorem zc1 {R:Nat->Prop}{m:Me}{p:Option Bool}{q:Option Bool}(h:∀b,q=some b->p=some b):SimE R m (ofB (p.map (!·)) m) (qU (q.map (!·))):=by
 cases q with
 | none=>exact SimE.no
 | some b=>rw[h b rfl];exact SimE.bl
theorem zc2 {R:Nat->Prop}{m:Me}{d e:Dat}{x y:Wd}(a:Rep R m d x)(b:Rep R m e y):SimE R m (cop .notN x y m) (yz .notN d e):=by
 cases e with
 | non =>
  rw[rep_non.mp b];cases d with
  | non=>rw[rep_non.mp a];exact SimE.bl
  | bl _=>rw[rep_bl.mp a];exact SimE.bl
  | int _=>rw[rep_int.mp a];exact SimE.bl
  | str _=>rw[rep_str.mp a];exact SimE.bl
  | scr _=>rw[rep_scr.mp a];exact SimE.bl
  | tup _=>obtain ⟨xs,rfl,_⟩:=rep_tup.mp a;exact SimE.bl
  | lst _=>obtain ⟨l,xs,rfl,_⟩:=rep_lst.mp a;exact SimE.bl
  | dct _ _=>obtain ⟨l,xs,rfl,_⟩:=rep_dct.mp a;exact SimE.bl
 | _=>exact SimE.no
theorem vB {R:Nat->Prop}{m:Me}:∀ {ds:List Dat}{xs:List Wd}{k:List Int},RepL R m ds xs->xO ds=some k->xB xs=some k
 | [],xs,k,a,h=>by rw[a.nil_inv];exact h
 | d::ds,xs,k,a,h=>by
  obtain ⟨x,r,rfl,p,q⟩:=a.cons_inv;cases d with
  | int j =>
   rw[rep_int.mp p];simp only[xO,Option.map_eq_some_iff] at h;obtain ⟨k,hk,rfl⟩:=h;simp only[xB,vB q hk,Option.map_some]
  | _=>simp[xO] at h
theorem jZ {R:Nat->Prop}{m:Me}{d e:Dat}{x y:Wd}(op:Co)(a:Rep R m d x)(b:Rep R m e y):SimE R m (cop op x y m) (yz op d e):=by
 cases op with
 | eq=>exact jY λq h=>zaJ h a b
 | ne=>exact zc1 λq h=>zaJ h a b
 | notN=>exact zc2 a b
 | isin =>
  simp only[cop,yz];cases z:wD e with
  | none =>
   cases e with
   | dct ks ds =>
    obtain ⟨l,xs,rfl,_,hm,q⟩:=rep_dct.mp b;have hs:xA m (.ref l)=none:=by show zK m l=none;unfold zK;rw[hm]
    rw[hs];refine jY λt h=>?_;unfold inK;simp only[hm];cases d with
    | int i=>rw[rep_int.mp a];exact h
    | tup us =>
     obtain ⟨ws,rfl,q⟩:=rep_tup.mp a;have h:(xO us).map (λk=>decide (k∈ks))=some t:=h;obtain ⟨k,hk,rfl⟩:=Option.map_eq_some_iff.mp h;show (xB ws).map _=_;rw[vB q hk];rfl
    | _=>cases h
   | _=>exact SimE.no
  | some es =>
   obtain ⟨ys,h,q⟩:=vh b z;rw[h];exact jY λt h=>zeW h a q
 | lt=>exact v9 _ a b
 | le=>exact v9 _ a b
 | gt=>exact v9 _ a b
 | ge=>exact v9 _ a b
theorem zeX {R:Nat->Prop}{m:Me}{d:Dat}{x:Wd}(t:Tg)(a:Rep R m d x):SimE R m (ofB (isT t x m) m) (.ok (.bl (isD t d))):=by
 have h:isT t x m=some (isD t d):=by
  cases d with
  | non=>rw[rep_non.mp a];cases t <;> rfl
  | bl _=>rw[rep_bl.mp a];cases t <;> rfl
  | int _=>rw[rep_int.mp a];cases t <;> rfl
  | str _=>rw[rep_str.mp a];cases t <;> rfl
  | scr _=>rw[rep_scr.mp a];cases t <;> rfl
  | tup _=>obtain ⟨xs,rfl,_⟩:=rep_tup.mp a;cases t <;> rfl
  | lst _=>obtain ⟨l,xs,rfl,_,hm,_⟩:=rep_lst.mp a;cases t <;> (show (match m[l]? with | some (.lst _)=>_ | some (.dct _ _)=>_ | none=>_)=_;rw[hm];rfl)
  | dct _ _=>obtain ⟨l,xs,rfl,_,hm,_⟩:=rep_dct.mp a;cases t <;> (show (match m[l]? with | some (.lst _)=>_ | some (.dct _ _)=>_ | none=>_)=_;rw[hm];rfl)
 rw[h];exact SimE.bl
theorem zc3 {R:Nat->Prop}{m:Me}{d:Dat}{x:Wd}{k:List Int}(a:Rep R m d x)(h:gW d=some k):ziq x=some k:=by
 cases d with
 | tup ds=>obtain ⟨xs,rfl,q⟩:=rep_tup.mp a;exact vB q h
 | _=>cases h
theorem zaL {R:Nat->Prop}{m:Me}{q:List Int}:∀ {ks:List (List Int)}{ds:List Dat}{xs:List Wd}{d:Dat},RepL R m ds xs->atK ks ds q=some d->∃x,atK ks xs q=some x/\Rep R m d x
 | [],ds,xs,d,a,h=>by cases ds <;> cases h
 | k::ks,[],xs,d,a,h=>by cases h
 | k::ks,e::ds,xs,d,a,h=>by
  obtain ⟨x,r,rfl,p,z⟩:=a.cons_inv;have h':(if k=q then some e else atK ks ds q)=some d:=h;show ∃y,(if k=q then some x else atK ks r q)=some y/\_;by_cases c:k=q
  .rw[if_pos c] at h' ⊢;cases h';exact ⟨x,rfl,p⟩
  .rw[if_neg c] at h' ⊢;exact zaL z h'
theorem zc4 {R:Nat->Prop}{m:Me}{d e:Dat}{x y:Wd}(a:Rep R m d x)(b:Rep R m e y):SimE R m (zcu x y m) (gX d e):=by
 cases d with
 | dct ks ds =>
  obtain ⟨l,xs,rfl,_,hm,q⟩:=rep_dct.mp a;unfold gX zcu;simp only[hm];cases hk:gW e with
  | none=>exact SimE.no
  | some k =>
   rw[zc3 b hk];simp only[Option.bind];cases hv:atK ks ds k with
   | none=>exact SimE.no
   | some v =>
    obtain ⟨w,h1,h2⟩:=zaL q hv;rw[h1];exact zjP h2
 | _=>exact SimE.no
theorem zaM {R:Nat->Prop}{m:Me}:∀ {ds:List Dat}{xs:List Wd}{i:Int},RepL R m ds xs->jU ds=some i->qI xs=some i
 | [],xs,i,a,h=>by rw[a.nil_inv];exact h
 | d::ds,xs,i,a,h=>by
  obtain ⟨x,r,rfl,p,q⟩:=a.cons_inv;cases d with
  | int j =>
   rw[rep_int.mp p];simp only[jU,Option.map_eq_some_iff] at h;obtain ⟨k,hk,rfl⟩:=h;simp only[qI,zaM q hk,Option.map_some]
  | _=>simp[jU] at h
theorem zaN {R:Nat->Prop}{m:Me}:∀ {ds:List Dat}{xs:List Wd}{i:Bool},RepL R m ds xs->jV ds=some i->qJ xs=some i
 | [],xs,i,a,h=>by rw[a.nil_inv];exact h
 | d::ds,xs,i,a,h=>by
  obtain ⟨x,r,rfl,p,q⟩:=a.cons_inv;cases d with
  | bl j =>
   rw[rep_bl.mp p];simp only[jV,Option.map_eq_some_iff] at h;obtain ⟨k,hk,rfl⟩:=h;simp only[qJ,zaN q hk,Option.map_some]
  | _=>simp[jV] at h
theorem g5 {R:Nat->Prop}{m:Me}:∀ {ds:List Dat}{xs:List Wd}{k:List Int},RepL R m ds xs->xO ds=some k->xB xs=some k
 | [],xs,k,q,h=>by rw[q.nil_inv];exact h
 | d::ds,xs,k,q,h=>by
  obtain ⟨x,r,rfl,a,b⟩:=q.cons_inv;cases d with
  | int i =>
   have h':(xO ds).map (i::·)=some k:=h;obtain ⟨k',e,rfl⟩:=Option.map_eq_some_iff.mp h';rw[rep_int.mp a];show (xB r).map (i::·)=_;rw[g5 b e];rfl
  | _=>cases h
theorem zeY {R:Nat->Prop}{m:Me}{ds:List Dat}{xs:List Wd}(b:Blf)(a:RepL R m ds xs):SimE R m (jO b xs m) (yC b ds):=by
 have one:∀ {d:Dat}{xs:List Wd},RepL R m [d] xs->∃x,xs=[x]/\Rep R m d x:=by
  intro d xs h;obtain ⟨x,r,rfl,p,q⟩:=h.cons_inv;rw[q.nil_inv];exact ⟨x,rfl,p⟩
 cases b with
 | len =>
  cases ds with
  | nil=>exact SimE.no
  | cons d ds =>
   cases ds with
   | cons _ _=>exact SimE.no
   | nil =>
    obtain ⟨x,rfl,p⟩:=one a;show SimE R m _ (match wD d with | some i=>.ok (.int i.length) | none=>.no);cases z:wD d with
    | none=>exact SimE.no
    | some i =>
     obtain ⟨ys,h,q⟩:=vh p z;simp only[jO,h,q.len];exact SimE.int
 | int =>
  cases ds with
  | nil=>exact SimE.no
  | cons d ds =>
   cases d with
   | int i =>
    cases ds with
    | cons _ _=>exact SimE.no
    | nil=>obtain ⟨x,rfl,p⟩:=one a;rw[rep_int.mp p];exact SimE.int
   | bl i =>
    cases ds with
    | cons _ _=>exact SimE.no
    | nil=>obtain ⟨x,rfl,p⟩:=one a;rw[rep_bl.mp p];exact SimE.int
   | _=>exact SimE.no
 | list =>
  cases ds with
  | nil=>exact SimE.no
  | cons d ds =>
   cases ds with
   | cons _ _=>exact SimE.no
   | nil =>
    obtain ⟨x,rfl,p⟩:=one a;show SimE R m _ (match wD d with | some i=>yB i | none=>.no);cases z:wD d with
    | none=>exact SimE.no
    | some i =>
     obtain ⟨ys,h,q⟩:=vh p z;simp only[jO,h];exact SimE.new q
 | sum =>
  cases ds with
  | nil=>exact SimE.no
  | cons d ds =>
   cases ds with
   | cons _ _=>exact SimE.no
   | nil =>
    obtain ⟨x,rfl,p⟩:=one a;show SimE R m _ (match (lsD d).bind jU with | some i=>.ok (.int i) | none=>.no);cases z:(lsD d).bind jU with
    | none=>exact SimE.no
    | some i =>
     obtain ⟨es,z1,z2⟩:=Option.bind_eq_some_iff.mp z;obtain ⟨ys,h,q⟩:=w9 p z1;simp only[jO,h,Option.bind_some,zaM q z2];exact SimE.int
 | all =>
  cases ds with
  | nil=>exact SimE.no
  | cons d ds =>
   cases ds with
   | cons _ _=>exact SimE.no
   | nil =>
    obtain ⟨x,rfl,p⟩:=one a;show SimE R m _ (match (lsD d).bind jV with | some i=>.ok (.bl i) | none=>.no);cases z:(lsD d).bind jV with
    | none=>exact SimE.no
    | some i =>
     obtain ⟨es,z1,z2⟩:=Option.bind_eq_some_iff.mp z;obtain ⟨ys,h,q⟩:=w9 p z1;simp only[jO,h,Option.bind_some,zaN q z2];exact SimE.bl
 | abs =>
  cases ds with
  | nil=>exact SimE.no
  | cons d ds =>
   cases d with
   | int i =>
    cases ds with
    | cons _ _=>exact SimE.no
    | nil=>obtain ⟨x,rfl,p⟩:=one a;rw[rep_int.mp p];exact SimE.int
   | _=>exact SimE.no
 | max2 =>
  cases ds with
  | nil=>exact SimE.no
  | cons d ds =>
   cases d with
   | int i =>
    cases ds with
    | nil=>exact SimE.no
    | cons e ds =>
     cases e with
     | int j =>
      cases ds with
      | cons _ _=>exact SimE.no
      | nil =>
       obtain ⟨x,r,rfl,p,q⟩:=a.cons_inv;obtain ⟨y,rfl,q1⟩:=one q;rw[rep_int.mp p,rep_int.mp q1];exact SimE.int
     | _=>exact SimE.no
   | _=>exact SimE.no
 | sortI =>
  cases ds with
  | nil=>exact SimE.no
  | cons d ds =>
   cases ds with
   | cons _ _=>exact SimE.no
   | nil =>
    obtain ⟨x,rfl,p⟩:=one a;show SimE R m _ (match (lsD d).bind xO with | some k=>if k.length < 64 then yB ((zbn k).map Dat.int) else .no | none=>.no);cases z:(lsD d).bind xO with
    | none=>exact SimE.no
    | some k =>
     obtain ⟨es,z1,z2⟩:=Option.bind_eq_some_iff.mp z;obtain ⟨ys,h,q⟩:=w9 p z1;by_cases h64:k.length < 64
     .simp only[jO,h,Option.bind_some,g5 q z2,if_pos h64];exact SimE.new (zjV _)
     .simp only[if_neg h64];exact SimE.no
theorem zeZ {R:Nat->Prop}{m:Me}{d e:Dat}{x y:Wd}(a:Rep R m d x)(b:Rep R m e y):SimE R m (kF x y m) (yk d e):=by
 cases e with
 | int i =>
  rw[rep_int.mp b];simp only[yk,kF];cases z:wD d with
  | none=>exact SimE.no
  | some ds =>
   obtain ⟨xs,h,q⟩:=vh a z;simp only[h];cases z:(ix ds.length i).bind λj=>ds[j]? with
   | none=>exact SimE.no
   | some v =>
    obtain ⟨j,h1,h2⟩:=Option.bind_eq_some_iff.mp z;obtain ⟨x,h3,p⟩:=q.get h2;rw[q.len] at h1;simp only[h1,Option.bind_some,h3];exact zjP p
 | _=>exact SimE.no
theorem qW {R:Nat->Prop}{m:Me}{d:Dat}{x:Wd}(lo hi:Option Int)(a:Rep R m d x):SimE R m (slR x lo hi m) (slD d lo hi):=by
 simp only[slD,slR];cases z:lsD d with
 | none=>exact SimE.no
 | some ds =>
  obtain ⟨xs,h,q⟩:=w9 a z;simp only[h,q.len];exact SimE.new ((q.drop _).take _)
theorem vi {R:Nat->Prop}{m:Me}(st:Int):∀ (n:Nat) (lo:Int),RepL R m (ym lo st n) (qK lo st n)
 | 0,lo=>.nil
 | n+1,lo=>by
  have h:ym lo st (n+1)=.int lo::ym (lo+st) st n:=by
   unfold ym;rw[List.range_succ_eq_map,List.map_cons,List.map_map];congr 1
   .simp
   .apply List.map_congr_left;intro i _;show Dat.int _=Dat.int _;congr 1;rw[show ((Nat.succ i:Nat):Int)=(i:Int)+1 from rfl,Int.mul_add,Int.mul_one];lia
  rw[h];exact .cons (rep_int.mpr rfl) (vi st n _)
theorem ze0 {R:Nat->Prop}{m:Me}{d e f:Dat}{x y z:Wd}(a:Rep R m d x)(b:Rep R m e y)(c:Rep R m f z):SimE R m (zbo x y z m) (wE d e f):=by
 cases d with
 | int i =>
  cases e with
  | int j =>
   cases f with
   | int k =>
    rw[rep_int.mp a,rep_int.mp b,rep_int.mp c];simp only[zbo,wE];split
    .exact zjP (rep_tup.mpr ⟨_,rfl,vi k _ i⟩)
    .exact SimE.no
   | _=>exact SimE.no
  | _=>exact SimE.no
 | _=>exact SimE.no
theorem wP {c e:Wd->Me->Rz}{cd ed:Dat->Rd}{R:Nat->Prop}{m0:Me}
  (hc:∀ (R':Nat->Prop) m d x,(∀l,R l->R' l)->Le m0 m->Rep R' m d x->SimE R' m (c x m) (cd d)) (he:∀ (R':Nat->Prop) m d x,(∀l,R l->R' l)->Le m0 m->Rep R' m d x->SimE R' m (e x m) (ed d)) :
  ∀ (ds:List Dat) (xs:List Wd) (acc:List Dat) (acx:List Wd) (R':Nat->Prop) (m:Me),(∀l,R l->R' l)->Le m0 m->RepL R' m ds xs->RepL R' m acc acx->SimE R' m (xq c e xs acx m) (ye cd ed ds acc)
 | [],xs,acc,acx,R',m,hR,hm,a,b=>by
  rw[a.nil_inv];unfold xq ye;exact SimE.new b
 | d::ds,xs,acc,acx,R',m,hR,hm,a,b=>by
  obtain ⟨x,r,rfl,p,q⟩:=a.cons_inv;unfold xq ye;refine (hc R' m d x hR hm p).bind λt w m1 l1 k1=>?_;cases t with
  | bl t =>
   rw[rep_bl.mp k1];cases t with
   | true =>
    refine (he _ m1 d x (λl z=>.inl (hR l z)) (hm.trans l1) (p.up _ l1)).bind λt w m2 l2 k2=>?_;simp only[b.len];by_cases z:acx.length < lim
    .rw[if_pos z,if_pos z];exact wP hc he ds r _ _ _ m2 (λl z=>.inl (.inl (hR l z))) ((hm.trans l1).trans l2) ((q.up _ l1).up _ l2) (((b.up _ l1).up _ l2).app (.cons k2 .nil))
    .rw[if_neg z,if_neg z];exact SimE.no
   | false=>exact wP hc he ds r _ _ _ m1 (λl z=>.inl (hR l z)) (hm.trans l1) (q.up _ l1) (b.up _ l1)
  | _=>exact SimE.no
theorem vC {c e:Wd->Me->Rz}{cd ed:Dat->Rd}{R:Nat->Prop}{m0:Me}{l:Nat}{xs0:List Wd}(hl:m0[l]?=some (.lst xs0))
  (hc:∀ (R':Nat->Prop) m d x,(∀l,R l->R' l)->Le m0 m->Rep R' m d x->SimE R' m (c x m) (cd d)) (he:∀ (R':Nat->Prop) m d x,(∀l,R l->R' l)->Le m0 m->Rep R' m d x->SimE R' m (e x m) (ed d)) :
  ∀ (ds:List Dat) (i k:Nat) (acc:List Dat) (acx:List Wd) (R':Nat->Prop) (m:Me),(∀l,R l->R' l)->Le m0 m->RepL R' m ds (xs0.drop i)->i+ds.length=xs0.length->ds.length < k->RepL R' m acc acx->SimE R' m (xt c e l k i acx m) (ye cd ed ds acc)
 | [],i,0,acc,acx,R',m,hR,hm,a,hi,hk,b=>by simp at hk
 | d::ds,i,0,acc,acx,R',m,hR,hm,a,hi,hk,b=>by simp at hk
 | [],i,k+1,acc,acx,R',m,hR,hm,a,hi,hk,b=>by
  unfold xt ye zK;rw[hm l _ hl];simp only;rw[List.getElem?_eq_none (by simp at hi;lia)];exact SimE.new b
 | d::ds,i,k+1,acc,acx,R',m,hR,hm,a,hi,hk,b=>by
  obtain ⟨x,r,e0,p,q⟩:=a.cons_inv;have hx:xs0[i]?=some x:=by
   have:(xs0.drop i)[0]?=some x:=by rw[e0];rfl
   simpa using this
  have hr:r=xs0.drop (i+1):=by
   have:(xs0.drop i).drop 1=r:=by rw[e0];rfl
   rw[<- this,List.drop_drop]
  rw[hr] at q;have hi':i+1+ds.length=xs0.length:=by simp at hi;lia
  have hk':ds.length < k:=by simp at hk;lia
  unfold xt ye zK;rw[hm l _ hl];simp only;rw[hx];simp only;refine (hc R' m d x hR hm p).bind λt w m1 l1 k1=>?_;cases t with
  | bl t =>
   rw[rep_bl.mp k1];cases t with
   | true =>
    refine (he _ m1 d x (λl z=>.inl (hR l z)) (hm.trans l1) (p.up _ l1)).bind λt w m2 l2 k2=>?_;simp only[b.len];by_cases z:acx.length < lim
    .rw[if_pos z,if_pos z];exact vC hl hc he ds (i+1) k _ _ _ m2 (λl z=>.inl (.inl (hR l z))) ((hm.trans l1).trans l2) ((q.up _ l1).up _ l2) hi' hk' (((b.up _ l1).up _ l2).app (.cons k2 .nil))
    .rw[if_neg z,if_neg z];exact SimE.no
   | false=>exact vC hl hc he ds (i+1) k _ _ _ m1 (λl z=>.inl (hR l z)) (hm.trans l1) (q.up _ l1) hi' hk' (b.up _ l1)
  | _=>exact SimE.no
def zc5 (R:Nat->Prop)(m0:Me)(ps:List (Dat×Dat))(g:Nat->Me->Option (Option (Wd×Wd))):Prop :=
 ∀m,Le m0 m->(∀i p,ps[i]?=some p->∃a b,g i m=some (some (a,b))/\Rep R m p.1 a/\Rep R m p.2 b)/\∀i,ps.length<=i->g i m=some none
theorem j0 {α β:Type}:∀ {xs:List α}{ys:List β}{i:Nat}{p:α×β},(xs.zip ys)[i]?=some p->xs[i]?=some p.1/\ys[i]?=some p.2
 | [],_,i,p,h=>by simp at h
 | _::_,[],i,p,h=>by simp at h
 | x::xs,y::ys,0,p,h=>by simp at h;subst h;exact ⟨rfl,rfl⟩
 | x::xs,y::ys,i+1,p,h=>by
  have h':(xs.zip ys)[i]?=some p:=by simpa using h
  simpa using j0 h'
set_option tactic.hygienic true in
theorem j1:∀ {xs:List Dat}{ps:List (Dat×Dat)},zc0 xs=some ps->ps.length=xs.length/\∀ (i:Nat) p,ps[i]?=some p->xs[i]?=some (.tup [p.1,p.2])
 | [],ps,h=>by cases h;exact ⟨rfl,λi p q=>by simp at q⟩
 | d::xs,ps,h=>by
  unfold zc0 at h;split at h
  .next h0=>cases h0
  .next x y r h0 =>
   cases h0;obtain ⟨qs,e,rfl⟩:=Option.map_eq_some_iff.mp h;obtain ⟨a,b⟩:=j1 e;refine ⟨by simp[a],λi p q=>?_⟩;cases i with
   | zero=>cases q;rfl
   | succ i=>exact b i p q
  .cases h
set_option tactic.hygienic true in
theorem jy {R:Nat->Prop}{m0:Me}{k:Kd}{x y:Dat}{a b:Wd}{ps:List (Dat×Dat)}(e:y4 k x y=some ps)(hx:Rep R m0 x a)(hy:Rep R m0 y b):zc5 R m0 ps (yj k a b)/\ps.length<=lim:=by
 unfold y4 at e;split at e
 .obtain ⟨l,xs,rfl,_,e1,k1⟩:=rep_lst.mp hx;obtain ⟨l',ys,rfl,_,e2,k2⟩:=rep_lst.mp hy;split at e
  .next z =>
   cases e;refine ⟨λm h=>⟨λi p q=>?_,λi q=>?_⟩,by simp;lia⟩
   .obtain ⟨z1,z2⟩:=j0 q;obtain ⟨a,a1,a2⟩:=k1.get z1;obtain ⟨b,b1,b2⟩:=k2.get z2;refine ⟨a,b,?_,Rep.frame (λl o r z=>⟨r,h l o z⟩) _ _ a2,Rep.frame (λl o r z=>⟨r,h l o z⟩) _ _ b2⟩;simp only[yj,zK];rw[h _ _ e1,h _ _ e2];simp only[a1,b1]
   .simp only[yj,zK];rw[h _ _ e1,h _ _ e2];have l1:=k1.len;have l2:=k2.len;simp only[List.length_zip] at q;simp only;rcases Nat.le_total xs.length ys.length with z3 | z3
    .rw[List.getElem?_eq_none (by lia)]
    .rw[List.getElem?_eq_none (l:=ys) (by lia)];cases xs[i]? <;> rfl
  .cases e
 .rename_i xs0 st;obtain ⟨l,xs,rfl,_,e1,k1⟩:=rep_lst.mp hx;rw[rep_int.mp hy];split at e
  .next z =>
   cases e;have l1:=k1.len;refine ⟨λm h=>⟨λi p q=>?_,λi q=>?_⟩,by simp[ym];lia⟩
   .obtain ⟨z1,z2⟩:=j0 q;obtain ⟨a,a1,a2⟩:=k1.get z2;have hp:p.1=.int (st+(i:Int)):=by
     simp only[ym,List.getElem?_map] at z1;cases hr:(List.range xs0.length)[i]? with
     | none=>rw[hr] at z1;cases z1
     | some j =>
      rw[hr] at z1;have:=List.getElem?_eq_some_iff.mp hr;obtain ⟨_,hj⟩:=this;simp only[List.getElem_range] at hj;subst hj;simp only[Option.map_some,Option.some.injEq,Int.one_mul] at z1;exact z1.symm
    refine ⟨.int (st+(i:Int)),a,?_,by rw[hp];exact rep_int.mpr rfl,Rep.frame (λl o r z=>⟨r,h l o z⟩) _ _ a2⟩;simp only[yj,zK];rw[h _ _ e1];simp only[a1,Option.map_some]
   .simp only[yj,zK];rw[h _ _ e1];simp only[ym,List.length_zip,List.length_map,List.length_range] at q;simp only;rw[List.getElem?_eq_none (by lia)];rfl
  .cases e
 .rename_i xs0 st;obtain ⟨l,xs,rfl,_,e1,k1⟩:=rep_lst.mp hx;rw[rep_int.mp hy];split at e
  .next z =>
   have l1:=k1.len;obtain ⟨g1,g2⟩:=j1 e;refine ⟨λm h=>⟨λi p q=>?_,λi q=>?_⟩,by lia⟩
   .obtain ⟨a,a1,a2⟩:=k1.get (g2 i p q);obtain ⟨us,rfl,r2⟩:=rep_tup.mp a2;obtain ⟨x,r,rfl,ra,rb⟩:=r2.cons_inv;obtain ⟨y,r',rfl,rc,rd⟩:=rb.cons_inv;obtain rfl:=rd.nil_inv;refine ⟨x,y,?_,Rep.frame (λl o r z=>⟨r,h l o z⟩) _ _ ra,Rep.frame (λl o r z=>⟨r,h l o z⟩) _ _ rc⟩;simp only[yj,zK];rw[h _ _ e1];simp only[a1];rfl
   .simp only[yj,zK];rw[h _ _ e1];simp only;rw[List.getElem?_eq_none (by lia)]
  .cases e
 .rename_i xs0 st;obtain ⟨xs,rfl,k1⟩:=rep_tup.mp hx;rw[rep_int.mp hy];split at e
  .next z =>
   have l1:=k1.len;obtain ⟨g1,g2⟩:=j1 e;refine ⟨λm h=>⟨λi p q=>?_,λi q=>?_⟩,by lia⟩
   .obtain ⟨a,a1,a2⟩:=k1.get (g2 i p q);obtain ⟨us,rfl,r2⟩:=rep_tup.mp a2;obtain ⟨x,r,rfl,ra,rb⟩:=r2.cons_inv;obtain ⟨y,r',rfl,rc,rd⟩:=rb.cons_inv;obtain rfl:=rd.nil_inv;refine ⟨x,y,?_,Rep.frame (λl o r z=>⟨r,h l o z⟩) _ _ ra,Rep.frame (λl o r z=>⟨r,h l o z⟩) _ _ rc⟩;simp only[yj,a1];rfl
   .simp only[yj];rw[List.getElem?_eq_none (by lia)]
  .cases e
 .cases e
theorem vD {c e:Wd->Wd->Me->Rz}{cd ed:Dat×Dat->Rd}{R:Nat->Prop}{m0:Me}{ps:List (Dat×Dat)}{g:Nat->Me->Option (Option (Wd×Wd))}(hg:zc5 R m0 ps g)
  (hc:∀ (R':Nat->Prop) m p a b,(∀l,R l->R' l)->Le m0 m->Rep R' m p.1 a->Rep R' m p.2 b->SimE R' m (c a b m) (cd p)) (he:∀ (R':Nat->Prop) m p a b,(∀l,R l->R' l)->Le m0 m->Rep R' m p.1 a->Rep R' m p.2 b->SimE R' m (e a b m) (ed p)) :
  ∀ (ds:List (Dat×Dat)) (i k:Nat) (acc:List Dat) (acx:List Wd) (R':Nat->Prop) (m:Me),(∀l,R l->R' l)->Le m0 m->ds=ps.drop i->i+ds.length=ps.length->ds.length < k->RepL R' m acc acx->SimE R' m (xb c e g k i acx m) (ye cd ed ds acc)
 | [],i,0,acc,acx,R',m,hR,hm,a,hi,hk,b=>by simp at hk
 | d::ds,i,0,acc,acx,R',m,hR,hm,a,hi,hk,b=>by simp at hk
 | [],i,k+1,acc,acx,R',m,hR,hm,a,hi,hk,b=>by
  unfold xb ye;rw[(hg m hm).2 i (by simp at hi;lia)];exact SimE.new b
 | d::ds,i,k+1,acc,acx,R',m,hR,hm,a,hi,hk,b=>by
  have hx:ps[i]?=some d:=by
   have:(ps.drop i)[0]?=some d:=by rw[<- a];rfl
   simpa using this
  have hr:ds=ps.drop (i+1):=by
   have:(ps.drop i).drop 1=ds:=by rw[<- a];rfl
   rw[<- this,List.drop_drop]
  have hi':i+1+ds.length=ps.length:=by simp at hi;lia
  have hk':ds.length < k:=by simp at hk;lia
  obtain ⟨u,v,e0,p,q⟩:=(hg m hm).1 i d hx;have up:∀ {d:Dat}{w:Wd},Rep R m d w->Rep R' m d w:=λz=>Rep.frame (λl o r z=>⟨hR l r,z⟩) _ _ z;unfold xb ye;rw[e0];simp only;refine (hc R' m d u v hR hm (up p) (up q)).bind λt w m1 l1 k1=>?_;cases t with
  | bl t =>
   rw[rep_bl.mp k1];cases t with
   | true =>
    refine (he _ m1 d u v (λl z=>.inl (hR l z)) (hm.trans l1) ((up p).up _ l1) ((up q).up _ l1)).bind λt w m2 l2 k2=>?_;simp only[b.len];by_cases z:acx.length < lim
    .rw[if_pos z,if_pos z];exact vD hg hc he ds (i+1) k _ _ _ m2 (λl z=>.inl (.inl (hR l z))) ((hm.trans l1).trans l2) hr hi' hk' (((b.up _ l1).up _ l2).app (.cons k2 .nil))
    .rw[if_neg z,if_neg z];exact SimE.no
   | false=>exact vD hg hc he ds (i+1) k _ _ _ m1 (λl z=>.inl (hR l z)) (hm.trans l1) hr hi' hk' (b.up _ l1)
  | _=>exact SimE.no
noncomputable def zA:Ex->List Nat
 | .var i=>[i]
 | .lit _=>[]
 | .bin _ a b=>zA a++zA b
 | .neg a=>zA a
 | .not a=>zA a
 | .and a b=>zA a++zA b
 | .or a b=>zA a++zA b
 | .cmp _ a b=>zA a++zA b
 | .chain _ _ a b c=>zA a++(zA b++zA c)
 | .ife c a b=>zA c++(zA a++zA b)
 | .unit=>[]
 | .pair a b=>zA a++zA b
 | .call _ a=>zA a
 | .blt _ a=>zA a
 | .isi _ a=>zA a
 | .lst a=>zA a
 | .tup a=>zA a
 | .idx a b=>zA a++zA b
 | .slL a b=>zA a++zA b
 | .slH a b=>zA a++zA b
 | .slB a b c=>zA a++(zA b++zA c)
 | .meth _ a b=>zA a++zA b
 | .rng a b c=>zA a++(zA b++zA c)
 | .comp e i c=>zA i++(zA e++zA c)
 | .lrng a=>zA a
 | .compP _ e a b c=>zA a++(zA b++(zA e++zA c))
@[simp] theorem ziD (i:Nat):zA (.var i)=[i]:=rfl
@[simp] theorem ziE (w:Wd):zA (.lit w)=[]:=rfl
@[simp] theorem ziF (a b:Ex):zA (.idx a b)=zA a++zA b:=rfl
@[simp] theorem ziG (a:Ex):zA (.tup a)=zA a:=rfl
@[simp] theorem zhM (a b:Ex):zA (.pair a b)=zA a++zA b:=rfl
@[simp] theorem zhN  : zA (.unit)=[]:=rfl
@[simp] theorem ziH (op:Bo)(a b:Ex):zA (.bin op a b)=zA a++zA b:=rfl
@[simp] theorem zhO (k:Nat)(a:Ex):zA (.call k a)=zA a:=rfl
@[simp] theorem ziI (a:Ex):zA (.neg a)=zA a:=rfl
@[simp] theorem ziJ (a:Ex):zA (.lst a)=zA a:=rfl
def EnvR (R:Nat->Prop)(m:Me)(vs:List Nat)(de:DEn)(env:En):Prop :=
 de.length=env.length/\∀i∈vs,∀d,de[i]?=some (some d)->∃w,env[i]?=some (some w)/\Rep R m d w
theorem EnvR.up {R R':Nat->Prop}{m m':Me}{vs:List Nat}{de:DEn}{env:En}(hR:∀l,R l->R' l)(h:Le m m')(q:EnvR R m vs de env):EnvR R' m' vs de env :=
 ⟨q.1,λi hi d z=>by
  obtain ⟨w,a,b⟩:=q.2 i hi d z;exact ⟨w,a,Rep.frame (λl o r k=>⟨hR l r,h l o k⟩) d w b⟩⟩
theorem EnvR.sub {R:Nat->Prop}{m:Me}{vs us:List Nat}{de:DEn}{env:En}(h:∀i∈us,i∈vs)(q:EnvR R m vs de env):EnvR R m us de env :=
 ⟨q.1,λi hi=>q.2 i (h i hi)⟩
theorem EnvR.left {R:Nat->Prop}{m:Me}{us vs:List Nat}{de:DEn}{env:En}(q:EnvR R m (us++vs) de env):EnvR R m us de env:=q.sub λ_ h=>List.mem_append_left _ h
theorem EnvR.right {R:Nat->Prop}{m:Me}{us vs:List Nat}{de:DEn}{env:En}(q:EnvR R m (us++vs) de env):EnvR R m vs de env:=q.sub λ_ h=>List.mem_append_right _ h
set_option tactic.hygienic true in
theorem EnvR.push {R:Nat->Prop}{m:Me}{vs:List Nat}{de:DEn}{env:En}{d:Dat}{w:Wd}(q:EnvR R m vs de env)(h:Rep R m d w):EnvR R m vs (de++[some d]) (env++[some w]):=by
 refine ⟨by simp[q.1],λi hi e z=>?_⟩;rw[List.getElem?_append] at z;split at z
 .next k =>
  obtain ⟨w,a,b⟩:=q.2 i hi e z;exact ⟨w,by rw[List.getElem?_append_left (by rw[<- q.1];exact k)];exact a,b⟩
 .next k =>
  rw[List.getElem?_append_right (by rw[<- q.1];lia),<- q.1];have:i - de.length=0:=by
   rcases Nat.eq_zero_or_pos (i - de.length) with z0 | z0
   .exact z0
   .rw[List.getElem?_eq_none (by simp;lia)] at z;cases z
  rw[this] at z ⊢;cases z;exact ⟨w,rfl,h⟩
def CallR (cl:Nat->List Wd->Me->Rz)(cd:Nat->List Dat->Rd):Prop:=∀ (k:Nat) (ds:List Dat) (ws:List Wd) (R:Nat->Prop) (m:Me),RepL R m ds ws->SimE R m (cl k ws m) (cd k ds)
theorem yQ {R:Nat->Prop}{m:Me}{d:Dat}{w:Wd}(h:Rep R m d w):RepL R m (yd d) (zL w):=by
 cases d with
 | tup ds=>obtain ⟨xs,rfl,q⟩:=rep_tup.mp h;exact q
 | non=>rw[rep_non.mp h];exact .nil
 | bl _=>rw[rep_bl.mp h];exact .nil
 | int _=>rw[rep_int.mp h];exact .nil
 | str _=>rw[rep_str.mp h];exact .nil
 | scr _=>rw[rep_scr.mp h];exact .nil
 | lst _=>obtain ⟨l,xs,rfl,_⟩:=rep_lst.mp h;exact .nil
 | dct _ _=>obtain ⟨l,xs,rfl,_⟩:=rep_dct.mp h;exact .nil
theorem zj {cl:Nat->List Wd->Me->Rz}{cd:Nat->List Dat->Rd}(H:CallR cl cd):∀ (e:Ex) (R:Nat->Prop) (m:Me) (de:DEn) (env:En),EnvR R m (zA e) de env->SimE R m (evE cl e env m) (evD cd e de)
 | .var i,R,m,de,env,q=>by
  cases z:de[i]? with
  | none=>rw[xj (.inl z)];exact SimE.no
  | some o =>
   cases o with
   | none=>rw[xj (.inr z)];exact SimE.no
   | some d =>
    obtain ⟨w,a,b⟩:=q.2 i (List.mem_singleton.mpr rfl) d z;rw[xF z,kS a];exact zjP b
 | .lit w,R,m,de,env,q=>by
  cases w <;> first | exact SimE.no | (exact zjP (by unfold Rep;rfl))
 | .bin op a b,R,m,de,env,q=>by
  refine (zj H a R m de env q.left).bind λd w m1 l1 k1=>?_;refine (zj H b _ m1 de env (q.right.up (λ_=>.inl) l1)).bind λd2 w2 m2 l2 k2=>?_;exact jX op (k1.up _ l2) k2
 | .neg a,R,m,de,env,q=>by
  refine (zj H a R m de env q).bind λd w m1 l1 k1=>?_;cases d with
  | int i=>rw[rep_int.mp k1];exact SimE.int
  | _=>exact SimE.no
 | .not a,R,m,de,env,q=>by
  refine (zj H a R m de env q).bind λd w m1 l1 k1=>?_;cases d with
  | bl i=>rw[rep_bl.mp k1];exact SimE.bl
  | _=>exact SimE.no
 | .and a b,R,m,de,env,q=>by
  refine (zj H a R m de env q.left).bind λd w m1 l1 k1=>?_;cases d with
  | bl i =>
   rw[rep_bl.mp k1];cases i with
   | true=>exact zj H b _ m1 de env (q.right.up (λ_=>.inl) l1)
   | false=>exact SimE.bl
  | _=>exact SimE.no
 | .or a b,R,m,de,env,q=>by
  refine (zj H a R m de env q.left).bind λd w m1 l1 k1=>?_;cases d with
  | bl i =>
   rw[rep_bl.mp k1];cases i with
   | false=>exact zj H b _ m1 de env (q.right.up (λ_=>.inl) l1)
   | true=>exact SimE.bl
  | _=>exact SimE.no
 | .cmp op a b,R,m,de,env,q=>by
  refine (zj H a R m de env q.left).bind λd w m1 l1 k1=>?_;refine (zj H b _ m1 de env (q.right.up (λ_=>.inl) l1)).bind λd2 w2 m2 l2 k2=>?_;exact jZ op (k1.up _ l2) k2
 | .chain o p a b c,R,m,de,env,q=>by
  refine (zj H a R m de env q.left).bind λd w m1 l1 k1=>?_;refine (zj H b _ m1 de env (q.right.left.up (λ_=>.inl) l1)).bind λd2 w2 m2 l2 k2=>?_;refine (jZ o (k1.up _ l2) k2).bind λd3 w3 m3 l3 k3=>?_;cases d3 with
  | bl i =>
   rw[rep_bl.mp k3];cases i with
   | false=>exact SimE.bl
   | true =>
    refine (zj H c _ m3 de env (q.right.right.up (λ_ h=>.inl (.inl (.inl h))) ((l1.trans l2).trans l3))).bind λd4 w4 m4 l4 k4=>?_;exact jZ p ((k2.up _ l3).up _ l4) k4
  | _=>exact SimE.no
 | .ife c a b,R,m,de,env,q=>by
  refine (zj H c R m de env q.left).bind λd w m1 l1 k1=>?_;cases d with
  | bl i =>
   rw[rep_bl.mp k1];cases i with
   | true=>exact zj H a _ m1 de env (q.right.left.up (λ_=>.inl) l1)
   | false=>exact zj H b _ m1 de env (q.right.right.up (λ_=>.inl) l1)
  | _=>exact SimE.no
 | .unit,R,m,de,env,q=>by
  exact zjP (rep_tup.mpr ⟨[],rfl,.nil⟩)
 | .pair a b,R,m,de,env,q=>by
  refine (zj H a R m de env q.left).bind λd w m1 l1 k1=>?_;refine (zj H b _ m1 de env (q.right.up (λ_=>.inl) l1)).bind λd2 w2 m2 l2 k2=>?_;exact zjP (rep_tup.mpr ⟨_,rfl,.cons (k1.up _ l2) (yQ k2)⟩)
 | .call k a,R,m,de,env,q=>by
  refine (zj H a R m de env q).bind λd w m1 l1 k1=>?_;exact H k _ _ _ m1 (yQ k1)
 | .blt b a,R,m,de,env,q=>by
  refine (zj H a R m de env q).bind λd w m1 l1 k1=>?_;exact zeY b (yQ k1)
 | .isi t a,R,m,de,env,q=>by
  refine (zj H a R m de env q).bind λd w m1 l1 k1=>?_;exact zeX t k1
 | .lst a,R,m,de,env,q=>by
  refine (zj H a R m de env q).bind λd w m1 l1 k1=>?_;exact SimE.new (yQ k1)
 | .tup a,R,m,de,env,q=>by
  refine (zj H a R m de env q).bind λd w m1 l1 k1=>?_;have k2:=yQ k1;simp only[k2.len];split
  .exact zjP (rep_tup.mpr ⟨_,rfl,k2⟩)
  .exact SimE.no
 | .idx a b,R,m,de,env,q=>by
  refine (zj H a R m de env q.left).bind λd w m1 l1 k1=>?_;refine (zj H b _ m1 de env (q.right.up (λ_=>.inl) l1)).bind λd2 w2 m2 l2 k2=>?_;exact zeZ (k1.up _ l2) k2
 | .slL a b,R,m,de,env,q=>by
  refine (zj H a R m de env q.left).bind λd w m1 l1 k1=>?_;refine (zj H b _ m1 de env (q.right.up (λ_=>.inl) l1)).bind λd2 w2 m2 l2 k2=>?_;cases d2 with
  | int i=>rw[rep_int.mp k2];exact qW _ _ (k1.up _ l2)
  | _=>exact SimE.no
 | .slH a b,R,m,de,env,q=>by
  refine (zj H a R m de env q.left).bind λd w m1 l1 k1=>?_;refine (zj H b _ m1 de env (q.right.up (λ_=>.inl) l1)).bind λd2 w2 m2 l2 k2=>?_;cases d2 with
  | int i=>rw[rep_int.mp k2];exact qW _ _ (k1.up _ l2)
  | _=>exact SimE.no
 | .slB a b c,R,m,de,env,q=>by
  refine (zj H a R m de env q.left).bind λd w m1 l1 k1=>?_;refine (zj H b _ m1 de env (q.right.left.up (λ_=>.inl) l1)).bind λd2 w2 m2 l2 k2=>?_;cases d2 with
  | int i =>
   rw[rep_int.mp k2];refine (zj H c _ m2 de env (q.right.right.up (λ_ h=>.inl (.inl h)) (l1.trans l2))).bind λd3 w3 m3 l3 k3=>?_;cases d3 with
   | int j=>rw[rep_int.mp k3];exact qW _ _ ((k1.up _ l2).up _ l3)
   | _=>exact SimE.no
  | _=>exact SimE.no
 | .meth _ _ _,R,m,de,env,q=>by
  exact SimE.no
 | .rng a b c,R,m,de,env,q=>by
  refine (zj H a R m de env q.left).bind λd w m1 l1 k1=>?_;refine (zj H b _ m1 de env (q.right.left.up (λ_=>.inl) l1)).bind λd2 w2 m2 l2 k2=>?_;refine (zj H c _ m2 de env (q.right.right.up (λ_ h=>.inl (.inl h)) (l1.trans l2))).bind λd3 w3 m3 l3 k3=>?_;exact ze0 ((k1.up _ l2).up _ l3) (k2.up _ l3) k3
 | .lrng a,R,m,de,env,q=>by
  refine (zj H a R m de env q).bind λd w m1 l1 k1=>?_;cases d with
  | int j =>
   rw[rep_int.mp k1];simp only;split
   .exact SimE.new (vi 1 _ 0)
   .exact SimE.no
  | _=>exact SimE.no
 | .comp elt it cond,R,m,de,env,q=>by
  refine (zj H it R m de env q.left).bind λd w m1 l1 k1=>?_;have hc:∀ (R':Nat->Prop) m' d x,(∀l,Rf R m.length l->R' l)->Le m1 m'->Rep R' m' d x->SimE R' m' (evE cl cond (env++[some x]) m') (evD cd cond (de++[some d])) :=
   λR' m' d x hR l k=>zj H cond R' m' _ _ ((q.right.right.up (λl h=>hR l (.inl h)) (l1.trans l)).push k)
  have he:∀ (R':Nat->Prop) m' d x,(∀l,Rf R m.length l->R' l)->Le m1 m'->Rep R' m' d x->SimE R' m' (evE cl elt (env++[some x]) m') (evD cd elt (de++[some d])) :=
   λR' m' d x hR l k=>zj H elt R' m' _ _ ((q.right.left.up (λl h=>hR l (.inl h)) (l1.trans l)).push k)
  cases d with
  | tup ds =>
   obtain ⟨xs,rfl,k2⟩:=rep_tup.mp k1;exact wP hc he ds xs [] [] _ m1 (λ_ h=>h) (Le.refl _) k2 .nil
  | scr ns =>
   rw[rep_scr.mp k1];exact wP hc he (ns.map .int) (ns.map .int) [] [] _ m1 (λ_ h=>h) (Le.refl _) (zjV ns) .nil
  | lst ds =>
   obtain ⟨l,xs,rfl,_,hm,k2⟩:=rep_lst.mp k1;simp only[itD];by_cases z:ds.length<=lim
   .rw[if_pos z];have hl:=k2.len;exact vC hm hc he ds 0 (lim+1) [] [] _ m1 (λ_ h=>h) (Le.refl _) (by simpa using k2) (by lia) (by lia) .nil
   .rw[if_neg z];exact SimE.no
  | _=>exact SimE.no
 | .compP k elt a b cond,R,m,de,env,q=>by
  refine (zj H a R m de env q.left).bind λd w m1 l1 k1=>?_;refine (zj H b _ m1 de env (q.right.left.up (λl h=>.inl h) l1)).bind λd' w' m2 l2 k2=>?_;have hc:∀ (R':Nat->Prop) m' (p:Dat×Dat) x y,(∀l,Rf (Rf R m.length) m1.length l->R' l)->Le m2 m'->Rep R' m' p.1 x->Rep R' m' p.2 y->SimE R' m' (evE cl cond (env++[some x]++[some y]) m') (evD cd cond (de++[some p.1]++[some p.2])) :=
   λR' m' d x y hR l k k'=>zj H cond R' m' _ _ (((q.right.right.right.up (λl h=>hR l (.inl (.inl h))) ((l1.trans l2).trans l)).push k).push k')
  have he:∀ (R':Nat->Prop) m' (p:Dat×Dat) x y,(∀l,Rf (Rf R m.length) m1.length l->R' l)->Le m2 m'->Rep R' m' p.1 x->Rep R' m' p.2 y->SimE R' m' (evE cl elt (env++[some x]++[some y]) m') (evD cd elt (de++[some p.1]++[some p.2])) :=
   λR' m' d x y hR l k k'=>zj H elt R' m' _ _ (((q.right.right.left.up (λl h=>hR l (.inl (.inl h))) ((l1.trans l2).trans l)).push k).push k')
  cases e:y4 k d d' with
  | none=>exact SimE.no
  | some ps =>
   obtain ⟨pr,hl⟩:=jy e (k1.up _ l2) k2;exact vD pr hc he ps 0 (lim+1) [] [] _ m2 (λ_ h=>h) (Le.refl _) (by simp) (by simp) (by lia) .nil
mutual
noncomputable def Own (m:Me):Dat->Wd->List Nat->Prop
 | .non,w,A=>w=.non/\A=[]
 | .bl b,w,A=>w=.bl b/\A=[]
 | .int i,w,A=>w=.int i/\A=[]
 | .str s,w,A=>w=.str s/\A=[]
 | .scr ns,w,A=>w=.rol (ns.map Wd.int)/\A=[]
 | .tup ds,w,A=>∃xs,w=.tup xs/\OwnL m ds xs A
 | .lst ds,w,A=>∃l xs B,w=.ref l/\A=l::B/\m[l]?=some (.lst xs)/\OwnL m ds xs B
 | .dct ks ds,w,A=>∃l xs B,w=.ref l/\A=l::B/\m[l]?=some (.dct ks xs)/\OwnL m ds xs B
noncomputable def OwnL (m:Me):List Dat->List Wd->List Nat->Prop
 | [],xs,A=>xs=[]/\A=[]
 | d::ds,xs,A=>∃x r B C,xs=x::r/\A=B++C/\Own m d x B/\OwnL m ds r C
end
theorem own_lst {m:Me}{ds:List Dat}{w:Wd}{A:List Nat}:Own m (.lst ds) w A↔∃l xs B,w=.ref l/\A=l::B/\m[l]?=some (.lst xs)/\OwnL m ds xs B:=by
 constructor
 .intro h;unfold Own at h;exact h
 .intro h;unfold Own;exact h
theorem own_dct {m:Me}{ks:List (List Int)}{ds:List Dat}{w:Wd}{A:List Nat}:Own m (.dct ks ds) w A↔∃l xs B,w=.ref l/\A=l::B/\m[l]?=some (.dct ks xs)/\OwnL m ds xs B:=by
 constructor
 .intro h;unfold Own at h;exact h
 .intro h;unfold Own;exact h
theorem own_tup {m:Me}{ds:List Dat}{w:Wd}{A:List Nat}:Own m (.tup ds) w A↔∃xs,w=.tup xs/\OwnL m ds xs A:=by
 constructor
 .intro h;unfold Own at h;exact h
 .intro h;unfold Own;exact h
theorem OwnL.cons_inv {m:Me}{d:Dat}{ds:List Dat}{xs:List Wd}{A:List Nat}(h:OwnL m (d::ds) xs A):∃x r B C,xs=x::r/\A=B++C/\Own m d x B/\OwnL m ds r C:=by unfold OwnL at h;exact h
theorem OwnL.nil_inv {m:Me}{xs:List Wd}{A:List Nat}(h:OwnL m [] xs A):xs=[]/\A=[]:=by unfold OwnL at h;exact h
theorem OwnL.nil {m:Me}:OwnL m [] [] []:=by unfold OwnL;exact ⟨rfl,rfl⟩
theorem OwnL.cons {m:Me}{d:Dat}{ds:List Dat}{x:Wd}{xs:List Wd}{B C:List Nat}(a:Own m d x B)(b:OwnL m ds xs C):OwnL m (d::ds) (x::xs) (B++C):=by
 unfold OwnL;exact ⟨x,xs,B,C,rfl,rfl,a,b⟩
theorem OwnL.app {m:Me}:∀ {ds es:List Dat}{xs ys:List Wd}{A B:List Nat},OwnL m ds xs A->OwnL m es ys B->OwnL m (ds++es) (xs++ys) (A++B)
 | [],es,xs,ys,A,B,a,b=>by rw[a.nil_inv.1,a.nil_inv.2];exact b
 | d::ds,es,xs,ys,A,B,a,b=>by
  obtain ⟨x,r,P,Q,rfl,rfl,p,q⟩:=a.cons_inv;rw[List.append_assoc];exact .cons p (OwnL.app q b)
mutual
theorem Own.frame {m m':Me}:∀ (d:Dat) (w:Wd) (A:List Nat),(∀l∈A,∀o,m[l]?=some o->m'[l]?=some o)->Own m d w A->Own m' d w A
 | .non,w,A,h,q=>by unfold Own at q ⊢;exact q
 | .bl _,w,A,h,q=>by unfold Own at q ⊢;exact q
 | .int _,w,A,h,q=>by unfold Own at q ⊢;exact q
 | .str _,w,A,h,q=>by unfold Own at q ⊢;exact q
 | .scr _,w,A,h,q=>by unfold Own at q ⊢;exact q
 | .tup ds,w,A,h,q=>by
  obtain ⟨xs,rfl,q1⟩:=own_tup.mp q;exact own_tup.mpr ⟨xs,rfl,OwnL.frame ds xs A h q1⟩
 | .lst ds,w,A,h,q=>by
  obtain ⟨l,xs,B,rfl,rfl,hm,q1⟩:=own_lst.mp q;exact own_lst.mpr ⟨l,xs,B,rfl,rfl,h l List.mem_cons_self _ hm,OwnL.frame ds xs B (λl hl=>h l (List.mem_cons_of_mem _ hl)) q1⟩
 | .dct ks ds,w,A,h,q=>by
  obtain ⟨l,xs,B,rfl,rfl,hm,q1⟩:=own_dct.mp q;exact own_dct.mpr ⟨l,xs,B,rfl,rfl,h l List.mem_cons_self _ hm,OwnL.frame ds xs B (λl hl=>h l (List.mem_cons_of_mem _ hl)) q1⟩
theorem OwnL.frame {m m':Me}:∀ (ds:List Dat) (xs:List Wd) (A:List Nat),(∀l∈A,∀o,m[l]?=some o->m'[l]?=some o)->OwnL m ds xs A->OwnL m' ds xs A
 | [],xs,A,h,q=>by rw[q.nil_inv.1,q.nil_inv.2];exact .nil
 | d::ds,xs,A,h,q=>by
  obtain ⟨x,r,B,C,rfl,rfl,a,b⟩:=q.cons_inv;exact .cons (Own.frame d x B (λl hl=>h l (List.mem_append_left _ hl)) a) (OwnL.frame ds r C (λl hl=>h l (List.mem_append_right _ hl)) b)
end
mutual
theorem Own.rep {m:Me}{R:Nat->Prop}:∀ (d:Dat) (w:Wd) (A:List Nat),(∀l∈A,R l)->Own m d w A->Rep R m d w
 | .non,w,A,h,q=>by unfold Own at q;exact rep_non.mpr q.1
 | .bl _,w,A,h,q=>by unfold Own at q;exact rep_bl.mpr q.1
 | .int _,w,A,h,q=>by unfold Own at q;exact rep_int.mpr q.1
 | .str _,w,A,h,q=>by unfold Own at q;exact rep_str.mpr q.1
 | .scr _,w,A,h,q=>by unfold Own at q;exact rep_scr.mpr q.1
 | .tup ds,w,A,h,q=>by
  obtain ⟨xs,rfl,q1⟩:=own_tup.mp q;exact rep_tup.mpr ⟨xs,rfl,OwnL.rep ds xs A h q1⟩
 | .lst ds,w,A,h,q=>by
  obtain ⟨l,xs,B,rfl,rfl,hm,q1⟩:=own_lst.mp q;exact rep_lst.mpr ⟨l,xs,rfl,h l List.mem_cons_self,hm,OwnL.rep ds xs B (λl hl=>h l (List.mem_cons_of_mem _ hl)) q1⟩
 | .dct ks ds,w,A,h,q=>by
  obtain ⟨l,xs,B,rfl,rfl,hm,q1⟩:=own_dct.mp q;exact rep_dct.mpr ⟨l,xs,rfl,h l List.mem_cons_self,hm,OwnL.rep ds xs B (λl hl=>h l (List.mem_cons_of_mem _ hl)) q1⟩
theorem OwnL.rep {m:Me}{R:Nat->Prop}:∀ (ds:List Dat) (xs:List Wd) (A:List Nat),(∀l∈A,R l)->OwnL m ds xs A->RepL R m ds xs
 | [],xs,A,h,q=>by rw[q.nil_inv.1];exact .nil
 | d::ds,xs,A,h,q=>by
  obtain ⟨x,r,B,C,rfl,rfl,a,b⟩:=q.cons_inv;exact .cons (Own.rep d x B (λl hl=>h l (List.mem_append_left _ hl)) a) (OwnL.rep ds r C (λl hl=>h l (List.mem_append_right _ hl)) b)
end
mutual
theorem Own.lt {m:Me}:∀ (d:Dat) (w:Wd) (A:List Nat),Own m d w A->∀l∈A,l < m.length
 | .non,w,A,q=>by unfold Own at q;rw[q.2];simp
 | .bl _,w,A,q=>by unfold Own at q;rw[q.2];simp
 | .int _,w,A,q=>by unfold Own at q;rw[q.2];simp
 | .str _,w,A,q=>by unfold Own at q;rw[q.2];simp
 | .scr _,w,A,q=>by unfold Own at q;rw[q.2];simp
 | .tup ds,w,A,q=>by
  obtain ⟨xs,rfl,q1⟩:=own_tup.mp q;exact OwnL.lt ds xs A q1
 | .lst ds,w,A,q=>by
  obtain ⟨l,xs,B,rfl,rfl,hm,q1⟩:=own_lst.mp q;intro k hk;rcases List.mem_cons.mp hk with rfl | hk
  .exact (List.getElem?_eq_some_iff.mp hm).1
  .exact OwnL.lt ds xs B q1 k hk
 | .dct ks ds,w,A,q=>by
  obtain ⟨l,xs,B,rfl,rfl,hm,q1⟩:=own_dct.mp q;intro k hk;rcases List.mem_cons.mp hk with rfl | hk
  .exact (List.getElem?_eq_some_iff.mp hm).1
  .exact OwnL.lt ds xs B q1 k hk
theorem OwnL.lt {m:Me}:∀ (ds:List Dat) (xs:List Wd) (A:List Nat),OwnL m ds xs A->∀l∈A,l < m.length
 | [],xs,A,q=>by rw[q.nil_inv.2];simp
 | d::ds,xs,A,q=>by
  obtain ⟨x,r,B,C,rfl,rfl,a,b⟩:=q.cons_inv;intro k hk;rcases List.mem_append.mp hk with hk | hk
  .exact Own.lt d x B a k hk
  .exact OwnL.lt ds r C b k hk
end
mutual
theorem Rep.flat {R:Nat->Prop}{m m':Me}:∀ (d:Dat) (w:Wd),flat d=true->Rep R m d w->Own m' d w []
 | .non,w,h,q=>by unfold Own;exact ⟨rep_non.mp q,rfl⟩
 | .bl _,w,h,q=>by unfold Own;exact ⟨rep_bl.mp q,rfl⟩
 | .int _,w,h,q=>by unfold Own;exact ⟨rep_int.mp q,rfl⟩
 | .str _,w,h,q=>by unfold Own;exact ⟨rep_str.mp q,rfl⟩
 | .scr _,w,h,q=>by unfold Own;exact ⟨rep_scr.mp q,rfl⟩
 | .tup ds,w,h,q=>by
  obtain ⟨xs,rfl,q1⟩:=rep_tup.mp q;exact own_tup.mpr ⟨xs,rfl,RepL.flat ds xs (by unfold Vl.flat at h;exact h) q1⟩
 | .lst ds,w,h,q=>by unfold Vl.flat at h;cases h
 | .dct ks ds,w,h,q=>by unfold Vl.flat at h;cases h
theorem RepL.flat {R:Nat->Prop}{m m':Me}:∀ (ds:List Dat) (xs:List Wd),flatL ds=true->RepL R m ds xs->OwnL m' ds xs []
 | [],xs,h,q=>by rw[q.nil_inv];exact .nil
 | d::ds,xs,h,q=>by
  obtain ⟨x,r,rfl,a,b⟩:=q.cons_inv;unfold flatL at h;rw[Bool.and_eq_true] at h;exact OwnL.cons (B:=[]) (C:=[]) (Rep.flat d x h.1 a) (RepL.flat ds r h.2 b)
end
def RepO (R:Nat->Prop)(m:Me)(lv:Lv)(d:Dat)(w:Wd)(A:List Nat):Prop:=match lv with
 | .no=>Rep R m d w/\A=[]
 | .top=>∃ds l xs,d=.lst ds/\w=.ref l/\A=[l]/\m[l]?=some (.lst xs)/\RepL R m ds xs
 | .full=>Own m d w A
theorem RepO.rep {R R':Nat->Prop}{m:Me}{lv:Lv}{d:Dat}{w:Wd}{A:List Nat}(h:∀l,R l->R' l)(k:∀l∈A,R' l)(q:RepO R m lv d w A):Rep R' m d w:=by
 cases lv with
 | no=>exact Rep.frame (λl o r z=>⟨h l r,z⟩) d w q.1
 | top =>
  obtain ⟨ds,l,xs,rfl,rfl,rfl,hm,a⟩:=q;exact rep_lst.mpr ⟨l,xs,rfl,k l (by simp),hm,RepL.frame (λl o r z=>⟨h l r,z⟩) ds xs a⟩
 | full=>exact Own.rep d w A k q
theorem RepO.frame {R R':Nat->Prop}{m m':Me}{lv:Lv}{d:Dat}{w:Wd}{A:List Nat}(h:∀ (l:Nat) o,R l->m[l]?=some o->R' l/\m'[l]?=some o)(k:∀l∈A,∀o,m[l]?=some o->m'[l]?=some o)(q:RepO R m lv d w A):RepO R' m' lv d w A:=by
 cases lv with
 | no=>exact ⟨Rep.frame h d w q.1,q.2⟩
 | top =>
  obtain ⟨ds,l,xs,rfl,rfl,rfl,hm,a⟩:=q;exact ⟨ds,l,xs,rfl,rfl,rfl,k l (by simp) _ hm,RepL.frame h ds xs a⟩
 | full=>exact Own.frame d w A k q
theorem RepO.lt {R:Nat->Prop}{m:Me}{lv:Lv}{d:Dat}{w:Wd}{A:List Nat}(q:RepO R m lv d w A):∀l∈A,l < m.length:=by
 cases lv with
 | no=>rw[q.2];simp
 | top =>
  obtain ⟨ds,l,xs,rfl,rfl,rfl,hm,a⟩:=q;intro k hk;rw[List.mem_singleton.mp hk];exact (List.getElem?_eq_some_iff.mp hm).1
 | full=>exact Own.lt d w A q
noncomputable def lvE (lev:Nat->Lv):Ex->Dat->Lv
 | .comp elt _ _,d=>if flat d then .full else match d with
  | .lst ds=>if ds.all (λx=>lvE lev elt x == .full) then .full else .top
  | _=>.no
 | .compP _ elt _ _ _,d=>if flat d then .full else match d with
  | .lst ds=>if ds.all (λx=>lvE lev elt x == .full) then .full else .top
  | _=>.no
 | .lst a,d=>if flat d then .full else match d with
  | .lst ds=>if lvE lev a (.tup ds) == .full then .full else .top
  | _=>.no
 | .tup a,d=>lvE lev a d
 | .pair a b,d=>if flat d then .full else match d with
  | .tup (x::ds)=>if lvE lev a x == .full && lvE lev b (.tup ds) == .full then .full else .no
  | _=>.no
 | .call k _,d=>if flat d then .full else lev k
 | .blt .list _,d=>if flat d then .full else match d with
  | .lst ds=>if flatL ds then .full else .top
  | _=>.no
 | .lrng _,d=>if flat d then .full else match d with
  | .lst ds=>if flatL ds then .full else .top
  | _=>.no
 | .slL _ _,d=>if flat d then .full else match d with
  | .lst ds=>if flatL ds then .full else .top
  | _=>.no
 | .slH _ _,d=>if flat d then .full else match d with
  | .lst ds=>if flatL ds then .full else .top
  | _=>.no
 | .slB _ _ _,d=>if flat d then .full else match d with
  | .lst ds=>if flatL ds then .full else .top
  | _=>.no
 | .bin _ _ _,d=>if flat d then .full else match d with
  | .lst ds=>if flatL ds then .full else .top
  | _=>.no
 | _,d=>if flat d then .full else .no
@[simp] theorem yD (lev:Nat->Lv)(e i c:Ex)(d:Dat):lvE lev (.comp e i c) d=if flat d then .full else match d with
  | .lst ds=>if ds.all (λx=>lvE lev e x == .full) then .full else .top
  | _=>.no:=rfl
@[simp] theorem yf (lev:Nat->Lv)(k:Kd)(e a b c:Ex)(d:Dat):lvE lev (.compP k e a b c) d=if flat d then .full else match d with
  | .lst ds=>if ds.all (λx=>lvE lev e x == .full) then .full else .top
  | _=>.no:=rfl
@[simp] theorem zjs (lev:Nat->Lv)(a:Ex)(d:Dat):lvE lev (.lst a) d=if flat d then .full else match d with
  | .lst ds=>if lvE lev a (.tup ds) == .full then .full else .top
  | _=>.no:=rfl
@[simp] theorem zjt (lev:Nat->Lv)(a:Ex)(d:Dat):lvE lev (.tup a) d=lvE lev a d:=rfl
@[simp] theorem zaO (lev:Nat->Lv)(a b:Ex)(d:Dat):lvE lev (.pair a b) d=if flat d then .full else match d with
  | .tup (x::ds)=>if lvE lev a x == .full && lvE lev b (.tup ds) == .full then .full else .no
  | _=>.no:=rfl
@[simp] theorem zjb (lev:Nat->Lv)(k:Nat)(a:Ex)(d:Dat):lvE lev (.call k a) d=if flat d then .full else lev k:=rfl
@[simp] theorem zjc (lev:Nat->Lv)(a:Ex)(d:Dat):lvE lev (.blt .list a) d=if flat d then .full else match d with
  | .lst ds=>if flatL ds then .full else .top
  | _=>.no:=rfl
@[simp] theorem zjd (lev:Nat->Lv)(a:Ex)(d:Dat):lvE lev (.lrng a) d=if flat d then .full else match d with
  | .lst ds=>if flatL ds then .full else .top
  | _=>.no:=rfl
@[simp] theorem zju (lev:Nat->Lv)(a b:Ex)(d:Dat):lvE lev (.slL a b) d=if flat d then .full else match d with
  | .lst ds=>if flatL ds then .full else .top
  | _=>.no:=rfl
@[simp] theorem zjv (lev:Nat->Lv)(a b:Ex)(d:Dat):lvE lev (.slH a b) d=if flat d then .full else match d with
  | .lst ds=>if flatL ds then .full else .top
  | _=>.no:=rfl
@[simp] theorem zjw (lev:Nat->Lv)(a b c:Ex)(d:Dat):lvE lev (.slB a b c) d=if flat d then .full else match d with
  | .lst ds=>if flatL ds then .full else .top
  | _=>.no:=rfl
@[simp] theorem zjx (lev:Nat->Lv)(op:Bo)(a b:Ex)(d:Dat):lvE lev (.bin op a b) d=if flat d then .full else match d with
  | .lst ds=>if flatL ds then .full else .top
  | _=>.no:=rfl
@[simp] theorem zjy (lev:Nat->Lv)(i:Nat)(d:Dat):lvE lev (.var i) d=if flat d then .full else .no:=rfl
@[simp] theorem zjz (lev:Nat->Lv)(w:Wd)(d:Dat):lvE lev (.lit w) d=if flat d then .full else .no:=rfl
@[simp] theorem zjA (lev:Nat->Lv)(a b:Ex)(d:Dat):lvE lev (.idx a b) d=if flat d then .full else .no:=rfl
@[simp] theorem zjB (lev:Nat->Lv)(a:Ex)(d:Dat):lvE lev (.neg a) d=if flat d then .full else .no:=rfl
@[simp] theorem zjC (lev:Nat->Lv)(a:Ex)(d:Dat):lvE lev (.not a) d=if flat d then .full else .no:=rfl
@[simp] theorem zjD (lev:Nat->Lv)(a b:Ex)(d:Dat):lvE lev (.and a b) d=if flat d then .full else .no:=rfl
@[simp] theorem lv_or (lev:Nat->Lv)(a b:Ex)(d:Dat):lvE lev (.or a b) d=if flat d then .full else .no:=rfl
@[simp] theorem zjE (lev:Nat->Lv)(op:Co)(a b:Ex)(d:Dat):lvE lev (.cmp op a b) d=if flat d then .full else .no:=rfl
@[simp] theorem zjF (lev:Nat->Lv)(c a b:Ex)(d:Dat):lvE lev (.ife c a b) d=if flat d then .full else .no:=rfl
@[simp] theorem zje (lev:Nat->Lv)(d:Dat):lvE lev (.unit) d=if flat d then .full else .no:=rfl
@[simp] theorem zjG (lev:Nat->Lv)(t:Tg)(a:Ex)(d:Dat):lvE lev (.isi t a) d=if flat d then .full else .no:=rfl
@[simp] theorem zjH (lev:Nat->Lv)(a b c:Ex)(d:Dat):lvE lev (.rng a b c) d=if flat d then .full else .no:=rfl
@[simp] theorem zjf (lev:Nat->Lv)(a:Ex)(d:Dat):lvE lev (.blt .len a) d=if flat d then .full else .no:=rfl
@[simp] theorem zjg (lev:Nat->Lv)(a:Ex)(d:Dat):lvE lev (.blt .int a) d=if flat d then .full else .no:=rfl
@[simp] theorem zjh (lev:Nat->Lv)(a:Ex)(d:Dat):lvE lev (.blt .sum a) d=if flat d then .full else .no:=rfl
@[simp] theorem zji (lev:Nat->Lv)(a:Ex)(d:Dat):lvE lev (.blt .all a) d=if flat d then .full else .no:=rfl
@[simp] theorem zjj (lev:Nat->Lv)(a:Ex)(d:Dat):lvE lev (.blt .abs a) d=if flat d then .full else .no:=rfl
@[simp] theorem ziK (lev:Nat->Lv)(a:Ex)(d:Dat):lvE lev (.blt .max2 a) d=if flat d then .full else .no:=rfl
def SimO (R:Nat->Prop)(m:Me)(lv:Dat->Lv)(r:Rz)(rd:Rd):Prop:=match rd with
 | .ok d=>∃w m' A,r=.ok w m'/\Le m m'/\RepO (λl=>Rf R m.length l/\l∉A) m' (lv d) d w A/\A.Nodup/\∀a∈A,m.length<=a
 | .exc c d=>∃w m',r=.exc c w m'/\Le m m'/\Rep (Rf R m.length) m' d w
 | .no=>True
noncomputable def wF (lev:Nat->Lv)(k:Nat)(d:Dat):Lv:=if flat d then .full else lev k
def CallO (lev:Nat->Lv)(cl:Nat->List Wd->Me->Rz)(cd:Nat->List Dat->Rd):Prop:=∀ (k:Nat) (ds:List Dat) (ws:List Wd) (R:Nat->Prop) (m:Me),RepL R m ds ws->SimO R m (wF lev k) (cl k ws m) (cd k ds)
theorem SimO.sim {R:Nat->Prop}{m:Me}{lv:Dat->Lv}{r:Rz}{rd:Rd}(h:SimO R m lv r rd):SimE R m r rd:=by
 cases rd with
 | ok d =>
  obtain ⟨w,m',A,rfl,l,q,_,hA⟩:=h;exact ⟨w,m',rfl,l,q.rep (λ_ z=>z.1) (λa z=>.inr (hA a z))⟩
 | exc c d=>exact h
 | no=>trivial
theorem CallO.r {lev:Nat->Lv}{cl:Nat->List Wd->Me->Rz}{cd:Nat->List Dat->Rd}(H:CallO lev cl cd):CallR cl cd:=λk ds ws R m q=>(H k ds ws R m q).sim
set_option tactic.hygienic true in
theorem SimE.own {R:Nat->Prop}{m:Me}{r:Rz}{rd:Rd}{lv:Dat->Lv}(h:SimE R m r rd)(hl:∀d,lv d=if flat d then .full else .no):SimO R m lv r rd:=by
 cases rd with
 | ok d =>
  obtain ⟨w,m',rfl,l,q⟩:=h;refine ⟨w,m',[],rfl,l,?_,List.nodup_nil,by simp⟩;rw[hl];split
  .next z=>exact q.flat d w z
  .exact ⟨Rep.frame (λl o r z=>⟨⟨r,by simp⟩,z⟩) d w q,rfl⟩
 | exc c d=>exact h
 | no=>trivial
theorem SimO.lift {R:Nat->Prop}{m m1:Me}{r:Rz}{rd:Rd}{lv:Dat->Lv}(h:Le m m1)(q:SimO (Rf R m.length) m1 lv r rd):SimO R m lv r rd:=by
 have hl:=h.len;cases rd with
 | ok d =>
  obtain ⟨w,m',A,rfl,k,z,nd,hA⟩:=q;exact ⟨w,m',A,rfl,h.trans k,z.frame (λl o r z=>⟨⟨by rcases r.1 with (r | r) | r;exact .inl r;exact .inr r;exact .inr (by lia),r.2⟩,z⟩) (λ_ _ _ z=>z),nd,λa ha=>by have:=hA a ha;lia⟩
 | exc c d=>exact SimE.lift (rd:=.exc c d) h q
 | no=>trivial
theorem SimE.bindO {R:Nat->Prop}{m:Me}{r:Rz}{rd:Rd}{f:Wd->Me->Rz}{g:Dat->Rd}{lv:Dat->Lv}(h:SimE R m r rd)
  (k:∀d w m',Le m m'->Rep (Rf R m.length) m' d w->SimO (Rf R m.length) m' lv (f w m') (g d)):SimO R m lv (r.bind f) (rd.bind g):=by
 cases rd with
 | ok d=>obtain ⟨w,m',rfl,l,z⟩:=h;exact SimO.lift l (k d w m' l z)
 | exc c d=>obtain ⟨w,m',rfl,l,z⟩:=h;exact ⟨w,m',rfl,l,z⟩
 | no=>trivial
theorem SimO.no {R:Nat->Prop}{m:Me}{r:Rz}{lv:Dat->Lv}:SimO R m lv r .no:=trivial
set_option tactic.hygienic true in
theorem SimO.new {R:Nat->Prop}{m:Me}{ds:List Dat}{xs:List Wd}{lv:Dat->Lv}(h:RepL R m ds xs)(hl:∀es,lv (.lst es)=if flatL es then .full else .top):SimO R m lv (alloc m xs) (yB ds):=by
 unfold yB alloc;rw[h.len];by_cases z:xs.length<=lim
 .rw[if_pos z,if_pos z];refine ⟨_,_,[m.length],rfl,Le.app m _,?_,by simp,by simp⟩;rw[hl];split
  .next f=>exact own_lst.mpr ⟨_,xs,[],rfl,rfl,by simp,h.flat ds xs f⟩
  .refine ⟨ds,_,xs,rfl,rfl,rfl,by simp,RepL.frame (λl o r z=>⟨⟨.inl r,?_⟩,Le.app m _ l o z⟩) ds xs h⟩;have:=(List.getElem?_eq_some_iff.mp z).1;simp;lia
 .rw[if_neg z,if_neg z];exact SimO.no
theorem zjQ {R:Nat->Prop}{m0 m:Me}{ds:List Dat}{xs:List Wd}{A:List Nat}{lv:Dat->Lv}(hm:Le m0 m)(h:OwnL m ds xs A)(nd:A.Nodup)(hA:∀a∈A,m0.length<=a)(hl:lv (.lst ds)=.full)(hlen:ds.length=xs.length):SimO R m0 lv (alloc m xs) (yB ds):=by
 unfold yB alloc;rw[hlen];have hlt:=h.lt;by_cases z:xs.length<=lim
 .rw[if_pos z,if_pos z];refine ⟨_,_,m.length::A,rfl,hm.trans (Le.app m _),?_,List.nodup_cons.mpr ⟨λq=>by have:=hlt _ q;lia,nd⟩,?_⟩
  .rw[hl];exact own_lst.mpr ⟨_,xs,A,rfl,rfl,by simp,OwnL.frame ds xs A (λl hl o q=>Le.app m _ l o q) h⟩
  .intro a ha;rcases List.mem_cons.mp ha with rfl | ha
   .exact hm.len
   .exact hA a ha
 .rw[if_neg z,if_neg z];exact SimO.no
theorem OwnL.len {m:Me}:∀ {ds:List Dat}{xs:List Wd}{A:List Nat},OwnL m ds xs A->ds.length=xs.length
 | [],xs,A,q=>by rw[q.nil_inv.1];rfl
 | d::ds,xs,A,q=>by
  obtain ⟨x,r,B,C,rfl,rfl,a,b⟩:=q.cons_inv;simp[OwnL.len b]
def CompO (R:Nat->Prop)(m:Me)(lv:Dat->Lv)(r:Rz)(rd:Rd):Prop:=match rd with
 | .ok d=>∃out m2 outx,d=.lst out/\out.length<=lim/\r=alloc m2 outx/\Le m m2/\RepL (Rf R m.length) m2 out outx/\((∀y∈out,lv y=.full)->∃A,OwnL m2 out outx A/\A.Nodup/\∀a∈A,m.length<=a)
 | .exc c d=>∃w m',r=.exc c w m'/\Le m m'/\Rep (Rf R m.length) m' d w
 | .no=>True
def AccO (m0 m:Me)(lv:Dat->Lv)(acc:List Dat)(acx:List Wd):Prop:=(∀y∈acc,lv y=.full)->∃A,OwnL m acc acx A/\A.Nodup/\∀a∈A,m0.length<=a
theorem AccO.up {m0 m m':Me}{lv:Dat->Lv}{acc:List Dat}{acx:List Wd}(h:Le m m')(q:AccO m0 m lv acc acx):AccO m0 m' lv acc acx:=λz=>by
 obtain ⟨A,a,b,c⟩:=q z;exact ⟨A,OwnL.frame acc acx A (λl _ o k=>h l o k) a,b,c⟩
theorem AccO.push {m0 m m':Me}{lv:Dat->Lv}{acc:List Dat}{acx:List Wd}{d:Dat}{w:Wd}{B:List Nat}(hm:Le m0 m)(h:Le m m')(q:AccO m0 m lv acc acx)(z:lv d=.full->Own m' d w B)(nd:B.Nodup)(hB:∀b∈B,m.length<=b):AccO m0 m' lv (acc++[d]) (acx++[w]):=λf=>by
 obtain ⟨A,a,b,c⟩:=q λy hy=>f y (List.mem_append_left _ hy);refine ⟨A++(B++[]),(OwnL.frame acc acx A (λl _ o k=>h l o k) a).app (.cons (z (f d (by simp))) .nil),?_,?_⟩
 .rw[List.append_nil];refine List.nodup_append.mpr ⟨b,nd,λx hx y hy e=>?_⟩;have:=OwnL.lt acc acx A a x hx;have:=hB y hy;lia
 .intro x hx;rw[List.append_nil] at hx;rcases List.mem_append.mp hx with hx | hx
  .exact c x hx
  .have:=hB x hx;have:=hm.len;lia
theorem wQ {c e:Wd->Me->Rz}{cd ed:Dat->Rd}{R:Nat->Prop}{m0:Me}{lv:Dat->Lv}
  (hc:∀ (R':Nat->Prop) m d x,(∀l,R l->R' l)->Le m0 m->Rep R' m d x->SimE R' m (c x m) (cd d)) (he:∀ (R':Nat->Prop) m d x,(∀l,R l->R' l)->Le m0 m->Rep R' m d x->SimO R' m lv (e x m) (ed d)) :
  ∀ (ds:List Dat) (xs:List Wd) (acc:List Dat) (acx:List Wd) (m:Me),Le m0 m->RepL (Rf R m0.length) m ds xs->RepL (Rf R m0.length) m acc acx->AccO m0 m lv acc acx->CompO R m0 lv (xq c e xs acx m) (ye cd ed ds acc)
 | [],xs,acc,acx,m,hm,a,b,f=>by
  rw[a.nil_inv];unfold xq ye yB;by_cases z:acc.length<=lim
  .rw[if_pos z];exact ⟨acc,m,acx,rfl,z,rfl,hm,b,f⟩
  .rw[if_neg z];trivial
 | d::ds,xs,acc,acx,m,hm,a,b,f=>by
  obtain ⟨x,r,rfl,p,q⟩:=a.cons_inv;have hl:=hm.len;have sh:∀ {n:Nat}{m':Me}{d:Dat}{w:Wd},m0.length<=n->Rep (Rf (Rf R m0.length) n) m' d w->Rep (Rf R m0.length) m' d w:=λhn k=>Rep.frame (λl o r z=>⟨by rcases r with (r | r) | r;exact .inl r;exact .inr r;exact .inr (by lia),z⟩) _ _ k;unfold xq ye;have h1:=hc _ m d x (λl z=>.inl z) hm p;cases e1:cd d with
  | no=>trivial
  | exc k t=>rw[e1] at h1;obtain ⟨w,m',h1,l1,k1⟩:=h1;rw[h1];exact ⟨w,m',rfl,hm.trans l1,sh hl k1⟩
  | ok t =>
   rw[e1] at h1;obtain ⟨w,m1,h1,l1,k1⟩:=h1;rw[h1];simp only[Rz.bind,Rd.bind];cases t with
   | bl t =>
    rw[rep_bl.mp k1];have fr:∀ {ds:List Dat}{xs:List Wd},RepL (Rf R m0.length) m ds xs->RepL (Rf R m0.length) m1 ds xs:=λk=>RepL.frame (λl o r z=>⟨r,l1 l o z⟩) _ _ k;cases t with
    | false=>exact wQ hc he ds r acc acx m1 (hm.trans l1) (fr q) (fr b) (f.up l1)
    | true =>
     have h2:=he _ m1 d x (λl z=>.inl z) (hm.trans l1) (Rep.frame (λl o r z=>⟨r,l1 l o z⟩) _ _ p);have hl1:=(hm.trans l1).len;simp only;cases e2:ed d with
     | no=>trivial
     | exc k t=>rw[e2] at h2;obtain ⟨w,m',h2,l2,k2⟩:=h2;rw[h2];exact ⟨w,m',rfl,(hm.trans l1).trans l2,sh hl1 k2⟩
     | ok y =>
      rw[e2] at h2;have h3:=h2.sim;obtain ⟨w,m2,B,h2,l2,k2,nd,hB⟩:=h2;obtain ⟨w',m2',h3,_,k3⟩:=h3;rw[h2] at h3 ⊢;cases h3;simp only[Rz.bind,Rd.bind,b.len];split
      .refine wQ hc he ds r _ _ m2 ((hm.trans l1).trans l2) (RepL.frame (λl o r z=>⟨r,l2 l o z⟩) _ _ (fr q)) ((RepL.frame (λl o r z=>⟨r,l2 l o z⟩) _ _ (fr b)).app (.cons (sh hl1 k3) .nil)) ((f.up l1).push (hm.trans l1) l2 ?_ nd hB);intro z;rw[z] at k2;exact k2
      .trivial
   | _=>trivial
theorem vE {c e:Wd->Me->Rz}{cd ed:Dat->Rd}{R:Nat->Prop}{m0:Me}{lv:Dat->Lv}{l:Nat}{xs0:List Wd}(hx0:m0[l]?=some (.lst xs0))
  (hc:∀ (R':Nat->Prop) m d x,(∀l,R l->R' l)->Le m0 m->Rep R' m d x->SimE R' m (c x m) (cd d)) (he:∀ (R':Nat->Prop) m d x,(∀l,R l->R' l)->Le m0 m->Rep R' m d x->SimO R' m lv (e x m) (ed d)) :
  ∀ (ds:List Dat) (i k:Nat) (acc:List Dat) (acx:List Wd) (m:Me),Le m0 m->RepL (Rf R m0.length) m ds (xs0.drop i)->i+ds.length=xs0.length->ds.length < k->RepL (Rf R m0.length) m acc acx->AccO m0 m lv acc acx->CompO R m0 lv (xt c e l k i acx m) (ye cd ed ds acc)
 | [],i,0,acc,acx,m,hm,a,hi,hk,b,f=>by simp at hk
 | d::ds,i,0,acc,acx,m,hm,a,hi,hk,b,f=>by simp at hk
 | [],i,k+1,acc,acx,m,hm,a,hi,hk,b,f=>by
  unfold xt ye zK yB;rw[hm l _ hx0];simp only;rw[List.getElem?_eq_none (by simp at hi;lia)];by_cases z:acc.length<=lim
  .rw[if_pos z];exact ⟨acc,m,acx,rfl,z,rfl,hm,b,f⟩
  .rw[if_neg z];trivial
 | d::ds,i,k+1,acc,acx,m,hm,a,hi,hk,b,f=>by
  obtain ⟨x,r,e0,p,q⟩:=a.cons_inv;have hx:xs0[i]?=some x:=by
   have:(xs0.drop i)[0]?=some x:=by rw[e0];rfl
   simpa using this
  have hr:r=xs0.drop (i+1):=by
   have:(xs0.drop i).drop 1=r:=by rw[e0];rfl
   rw[<- this,List.drop_drop]
  rw[hr] at q;have hi':i+1+ds.length=xs0.length:=by simp at hi;lia
  have hk':ds.length < k:=by simp at hk;lia
  have hl:=hm.len;have sh:∀ {n:Nat}{m':Me}{d:Dat}{w:Wd},m0.length<=n->Rep (Rf (Rf R m0.length) n) m' d w->Rep (Rf R m0.length) m' d w:=λhn k=>Rep.frame (λl o r z=>⟨by rcases r with (r | r) | r;exact .inl r;exact .inr r;exact .inr (by lia),z⟩) _ _ k;unfold xt ye zK;rw[hm l _ hx0];simp only;rw[hx];simp only;have h1:=hc _ m d x (λl z=>.inl z) hm p;cases e1:cd d with
  | no=>trivial
  | exc k t=>rw[e1] at h1;obtain ⟨w,m',h1,l1,k1⟩:=h1;rw[h1];exact ⟨w,m',rfl,hm.trans l1,sh hl k1⟩
  | ok t =>
   rw[e1] at h1;obtain ⟨w,m1,h1,l1,k1⟩:=h1;rw[h1];simp only[Rz.bind,Rd.bind];cases t with
   | bl t =>
    rw[rep_bl.mp k1];have fr:∀ {ds:List Dat}{xs:List Wd},RepL (Rf R m0.length) m ds xs->RepL (Rf R m0.length) m1 ds xs:=λk=>RepL.frame (λl o r z=>⟨r,l1 l o z⟩) _ _ k;cases t with
    | false=>exact vE hx0 hc he ds (i+1) k acc acx m1 (hm.trans l1) (fr q) hi' hk' (fr b) (f.up l1)
    | true =>
     have h2:=he _ m1 d x (λl z=>.inl z) (hm.trans l1) (Rep.frame (λl o r z=>⟨r,l1 l o z⟩) _ _ p);have hl1:=(hm.trans l1).len;simp only;cases e2:ed d with
     | no=>trivial
     | exc k t=>rw[e2] at h2;obtain ⟨w,m',h2,l2,k2⟩:=h2;rw[h2];exact ⟨w,m',rfl,(hm.trans l1).trans l2,sh hl1 k2⟩
     | ok y =>
      rw[e2] at h2;have h3:=h2.sim;obtain ⟨w,m2,B,h2,l2,k2,nd,hB⟩:=h2;obtain ⟨w',m2',h3,_,k3⟩:=h3;rw[h2] at h3 ⊢;cases h3;simp only[Rz.bind,Rd.bind,b.len];split
      .refine vE hx0 hc he ds (i+1) k _ _ m2 ((hm.trans l1).trans l2) (RepL.frame (λl o r z=>⟨r,l2 l o z⟩) _ _ (fr q)) hi' hk' ((RepL.frame (λl o r z=>⟨r,l2 l o z⟩) _ _ (fr b)).app (.cons (sh hl1 k3) .nil)) ((f.up l1).push (hm.trans l1) l2 ?_ nd hB);intro z;rw[z] at k2;exact k2
      .trivial
   | _=>trivial
theorem vF {c e:Wd->Wd->Me->Rz}{cd ed:Dat×Dat->Rd}{R:Nat->Prop}{m0:Me}{lv:Dat->Lv}{ps:List (Dat×Dat)}{g:Nat->Me->Option (Option (Wd×Wd))}(hg:zc5 (Rf R m0.length) m0 ps g)
  (hc:∀ (R':Nat->Prop) m p a b,(∀l,R l->R' l)->Le m0 m->Rep R' m p.1 a->Rep R' m p.2 b->SimE R' m (c a b m) (cd p)) (he:∀ (R':Nat->Prop) m p a b,(∀l,R l->R' l)->Le m0 m->Rep R' m p.1 a->Rep R' m p.2 b->SimO R' m lv (e a b m) (ed p)) :
  ∀ (ds:List (Dat×Dat)) (i k:Nat) (acc:List Dat) (acx:List Wd) (m:Me),Le m0 m->ds=ps.drop i->i+ds.length=ps.length->ds.length < k->RepL (Rf R m0.length) m acc acx->AccO m0 m lv acc acx->CompO R m0 lv (xb c e g k i acx m) (ye cd ed ds acc)
 | [],i,0,acc,acx,m,hm,a,hi,hk,b,f=>by simp at hk
 | d::ds,i,0,acc,acx,m,hm,a,hi,hk,b,f=>by simp at hk
 | [],i,k+1,acc,acx,m,hm,a,hi,hk,b,f=>by
  unfold xb ye yB;rw[(hg m hm).2 i (by simp at hi;lia)];simp only;by_cases z:acc.length<=lim
  .rw[if_pos z];exact ⟨acc,m,acx,rfl,z,rfl,hm,b,f⟩
  .rw[if_neg z];trivial
 | d::ds,i,k+1,acc,acx,m,hm,a,hi,hk,b,f=>by
  have hx:ps[i]?=some d:=by
   have:(ps.drop i)[0]?=some d:=by rw[<- a];rfl
   simpa using this
  have hr:ds=ps.drop (i+1):=by
   have:(ps.drop i).drop 1=ds:=by rw[<- a];rfl
   rw[<- this,List.drop_drop]
  have hi':i+1+ds.length=ps.length:=by simp at hi;lia
  have hk':ds.length < k:=by simp at hk;lia
  obtain ⟨u,v,e0,p,q⟩:=(hg m hm).1 i d hx;have hl:=hm.len;have sh:∀ {n:Nat}{m':Me}{d:Dat}{w:Wd},m0.length<=n->Rep (Rf (Rf R m0.length) n) m' d w->Rep (Rf R m0.length) m' d w:=λhn k=>Rep.frame (λl o r z=>⟨by rcases r with (r | r) | r;exact .inl r;exact .inr r;exact .inr (by lia),z⟩) _ _ k;unfold xb ye;rw[e0];simp only;have h1:=hc _ m d u v (λl z=>.inl z) hm p q;cases e1:cd d with
  | no=>trivial
  | exc k t=>rw[e1] at h1;obtain ⟨w,m',h1,l1,k1⟩:=h1;rw[h1];exact ⟨w,m',rfl,hm.trans l1,sh hl k1⟩
  | ok t =>
   rw[e1] at h1;obtain ⟨w,m1,h1,l1,k1⟩:=h1;rw[h1];simp only[Rz.bind,Rd.bind];cases t with
   | bl t =>
    rw[rep_bl.mp k1];have fr:∀ {ds:List Dat}{xs:List Wd},RepL (Rf R m0.length) m ds xs->RepL (Rf R m0.length) m1 ds xs:=λk=>RepL.frame (λl o r z=>⟨r,l1 l o z⟩) _ _ k;cases t with
    | false=>exact vF hg hc he ds (i+1) k acc acx m1 (hm.trans l1) hr hi' hk' (fr b) (f.up l1)
    | true =>
     have h2:=he _ m1 d u v (λl z=>.inl z) (hm.trans l1) (Rep.frame (λl o r z=>⟨r,l1 l o z⟩) _ _ p) (Rep.frame (λl o r z=>⟨r,l1 l o z⟩) _ _ q);have hl1:=(hm.trans l1).len;simp only;cases e2:ed d with
     | no=>trivial
     | exc k t=>rw[e2] at h2;obtain ⟨w,m',h2,l2,k2⟩:=h2;rw[h2];exact ⟨w,m',rfl,(hm.trans l1).trans l2,sh hl1 k2⟩
     | ok y =>
      rw[e2] at h2;have h3:=h2.sim;obtain ⟨w,m2,B,h2,l2,k2,nd,hB⟩:=h2;obtain ⟨w',m2',h3,_,k3⟩:=h3;rw[h2] at h3 ⊢;cases h3;simp only[Rz.bind,Rd.bind,b.len];split
      .refine vF hg hc he ds (i+1) k _ _ m2 ((hm.trans l1).trans l2) hr hi' hk' ((RepL.frame (λl o r z=>⟨r,l2 l o z⟩) _ _ (fr b)).app (.cons (sh hl1 k3) .nil)) ((f.up l1).push (hm.trans l1) l2 ?_ nd hB);intro z;rw[z] at k2;exact k2
      .trivial
   | _=>trivial
theorem CompO.sim {R:Nat->Prop}{m:Me}{lv lw:Dat->Lv}{r:Rz}{rd:Rd}(h:CompO R m lv r rd)(hl:∀ds,lw (.lst ds)=if ds.all (λx=>lv x == .full) then .full else .top):SimO R m lw r rd:=by
 cases rd with
 | no=>trivial
 | exc c d=>exact h
 | ok d =>
  obtain ⟨out,m2,outx,rfl,hlen,rfl,l2,k2,own⟩:=h;have e:=k2.len;cases z:out.all (λx=>lv x == .full) with
  | true =>
   obtain ⟨A,a,b,c⟩:=own λy hy=>by simpa using List.all_eq_true.mp z y hy
   have:=zjQ (R:=R) (lv:=lw) l2 a b c (by rw[hl,z];rfl) e;unfold yB at this;rw[if_pos hlen] at this;exact this
  | false =>
   unfold alloc;rw[<- e,if_pos hlen];have ll:=l2.len;refine ⟨_,_,[m2.length],rfl,l2.trans (Le.app m2 _),?_,by simp,by simp;exact ll⟩;rw[hl,z];refine ⟨out,_,outx,rfl,rfl,rfl,by simp,RepL.frame (λl o r z=>⟨⟨r,?_⟩,Le.app m2 _ l o z⟩) out outx k2⟩;have:=(List.getElem?_eq_some_iff.mp z).1;simp;lia
theorem yR (lev:Nat->Lv):∀ (e:Ex) (d:Dat),flat d=true->lvE lev e d=.full
 | .tup a,d,h=>yR lev a d h
 | .comp _ _ _,d,h=>if_pos h
 | .compP _ _ _ _ _,d,h=>if_pos h
 | .lst _,d,h=>if_pos h
 | .pair _ _,d,h=>if_pos h
 | .call _ _,d,h=>if_pos h
 | .blt b _,d,h=>by cases b <;> exact if_pos h
 | .slL _ _,d,h=>if_pos h
 | .lrng _,d,h=>if_pos h
 | .slH _ _,d,h=>if_pos h
 | .slB _ _ _,d,h=>if_pos h
 | .bin _ _ _,d,h=>if_pos h
 | .var _,d,h=>if_pos h
 | .lit _,d,h=>if_pos h
 | .neg _,d,h=>if_pos h
 | .not _,d,h=>if_pos h
 | .and _ _,d,h=>if_pos h
 | .or _ _,d,h=>if_pos h
 | .cmp _ _ _,d,h=>if_pos h
 | .chain _ _ _ _ _,d,h=>if_pos h
 | .ife _ _ _,d,h=>if_pos h
 | .unit,d,h=>if_pos h
 | .isi _ _,d,h=>if_pos h
 | .idx _ _,d,h=>if_pos h
 | .meth _ _ _,d,h=>if_pos h
 | .rng _ _ _,d,h=>if_pos h
theorem SimO.newTop {R:Nat->Prop}{m0 m:Me}{ds:List Dat}{xs:List Wd}{lv:Dat->Lv}(hm:Le m0 m)(h:RepL (Rf R m0.length) m ds xs)(hl:lv (.lst ds)=.top):SimO R m0 lv (alloc m xs) (yB ds):=by
 unfold yB alloc;rw[h.len];by_cases z:xs.length<=lim
 .rw[if_pos z,if_pos z];refine ⟨_,_,[m.length],rfl,hm.trans (Le.app m _),?_,by simp,by simp;exact hm.len⟩;rw[hl];refine ⟨ds,_,xs,rfl,rfl,rfl,by simp,RepL.frame (λl o r z=>⟨⟨r,?_⟩,Le.app m _ l o z⟩) ds xs h⟩;have:=(List.getElem?_eq_some_iff.mp z).1;simp;lia
 .rw[if_neg z,if_neg z];exact SimO.no
set_option tactic.hygienic true in
theorem ze1 {R:Nat->Prop}{m:Me}{d e:Dat}{x y:Wd}{lv:Dat->Lv}(op:Bo)(hl:∀d,lv d=if flat d then .full else match d with | .lst ds=>if flatL ds then .full else .top | _=>.no)(a:Rep R m d x)(b:Rep R m e y):SimO R m lv (bop op x y m) (yy op d e):=by
 have hn:∀es,lv (.lst es)=if flatL es then .full else .top:=λes=>by rw[hl];simp[flat]
 have hs:=jX op a b;cases d with
 | lst ds =>
  obtain ⟨l,xs,rfl,_,hm,a1⟩:=rep_lst.mp a;cases e with
  | lst es =>
   obtain ⟨l',ys,rfl,_,hk,b1⟩:=rep_lst.mp b;cases op <;> first | exact SimO.no | skip
   simp only[bop,yy,hm,hk];exact SimO.new (a1.app b1) hn
  | int k =>
   rw[rep_int.mp b];cases op <;> first | exact SimO.no | skip
   simp only[bop,yy,hm];by_cases z:-(lim:Int)<=k/\k<=(lim:Int)
   .rw[if_pos z,if_pos z];exact SimO.new (a1.rep _) hn
   .rw[if_neg z,if_neg z];exact SimO.no
  | _=>exact SimO.no
 | int i =>
  cases e with
  | int j =>
   have hi:∀r:Rd,SimE R m (bop op x y m) r->(∀d,r=.ok d->flat d=true)->SimO R m lv (bop op x y m) r:=by
    intro r h f;cases r with
    | ok d =>
     obtain ⟨w,m',h,l,k⟩:=h;refine ⟨w,m',[],h,l,?_,List.nodup_nil,by simp⟩;rw[hl,if_pos (f d rfl)];exact k.flat d w (f d rfl)
    | exc c d=>exact h
    | no=>trivial
   refine hi _ hs λd h=>?_;cases op <;> simp only[yy] at h
   .cases h;rfl
   .cases h;rfl
   all_goals (split at h <;> (cases h;try rfl))
  | _=>exact SimO.no
 | tup ds =>
  obtain ⟨xs,rfl,a1⟩:=rep_tup.mp a;cases e with
  | tup es =>
   obtain ⟨ys,rfl,b1⟩:=rep_tup.mp b;cases op <;> first | exact SimO.no | skip
   simp only[yy] at hs ⊢;split at hs
   .next z =>
    rw[if_pos z];obtain ⟨w,m',h,l,k⟩:=hs;refine ⟨w,m',[],h,l,?_,List.nodup_nil,by simp⟩;rw[hl];split
    .next f=>exact k.flat _ w f
    .exact ⟨Rep.frame (λl o r z=>⟨⟨r,by simp⟩,z⟩) _ w k,rfl⟩
   .next z=>rw[if_neg z];exact SimO.no
  | _=>exact SimO.no
 | _=>exact SimO.no
set_option tactic.hygienic true in
theorem xS {lev:Nat->Lv}{cl:Nat->List Wd->Me->Rz}{cd:Nat->List Dat->Rd}(H:CallO lev cl cd):∀ (e:Ex) (R:Nat->Prop) (m:Me) (de:DEn) (env:En),EnvR R m (zA e) de env->SimO R m (lvE lev e) (evE cl e env m) (evD cd e de)
 | .call k a,R,m,de,env,q=>by
  have e:lvE lev (.call k a)=wF lev k:=by funext d;simp[wF]
  rw[e];refine (zj H.r a R m de env q).bindO λd w m1 l1 k1=>?_;exact H k _ _ _ m1 (yQ k1)
 | .bin op a b,R,m,de,env,q=>by
  refine (zj H.r a R m de env q.left).bindO λd w m1 l1 k1=>?_;refine (zj H.r b _ m1 de env (q.right.up (λ_=>.inl) l1)).bindO λd2 w2 m2 l2 k2=>?_;exact ze1 op (λd=>by cases d <;> rfl) (k1.up _ l2) k2
 | .lrng a,R,m,de,env,q=>by
  refine (zj H.r a R m de env q).bindO λd w m1 l1 k1=>?_;cases d with
  | int j =>
   rw[rep_int.mp k1];simp only;split
   .exact SimO.new (vi 1 _ 0) (λes=>by simp[flat])
   .exact SimO.no
  | _=>exact SimO.no
 | .slL a b,R,m,de,env,q=>by
  refine (zj H.r a R m de env q.left).bindO λd w m1 l1 k1=>?_;refine (zj H.r b _ m1 de env (q.right.up (λ_=>.inl) l1)).bindO λd2 w2 m2 l2 k2=>?_;cases d2 with
  | int i =>
   rw[rep_int.mp k2];simp only[slD,slR];cases z:lsD d with
   | none=>exact SimO.no
   | some ds =>
    obtain ⟨xs,h,q⟩:=w9 (k1.up m1.length l2) z;simp only[h,q.len];exact SimO.new ((q.drop _).take _) (λes=>by simp[flat])
  | _=>exact SimO.no
 | .slH a b,R,m,de,env,q=>by
  refine (zj H.r a R m de env q.left).bindO λd w m1 l1 k1=>?_;refine (zj H.r b _ m1 de env (q.right.up (λ_=>.inl) l1)).bindO λd2 w2 m2 l2 k2=>?_;cases d2 with
  | int i =>
   rw[rep_int.mp k2];simp only[slD,slR];cases z:lsD d with
   | none=>exact SimO.no
   | some ds =>
    obtain ⟨xs,h,q⟩:=w9 (k1.up m1.length l2) z;simp only[h,q.len];exact SimO.new ((q.drop _).take _) (λes=>by simp[flat])
  | _=>exact SimO.no
 | .slB a b c,R,m,de,env,q=>by
  refine (zj H.r a R m de env q.left).bindO λd w m1 l1 k1=>?_;refine (zj H.r b _ m1 de env (q.right.left.up (λ_=>.inl) l1)).bindO λd2 w2 m2 l2 k2=>?_;cases d2 with
  | int i =>
   rw[rep_int.mp k2];refine (zj H.r c _ m2 de env (q.right.right.up (λ_ h=>.inl (.inl h)) (l1.trans l2))).bindO λd3 w3 m3 l3 k3=>?_;cases d3 with
   | int j =>
    rw[rep_int.mp k3];simp only[slD,slR];cases z:lsD d with
    | none=>exact SimO.no
    | some ds =>
     obtain ⟨xs,h,q⟩:=w9 ((k1.up m1.length l2).up m2.length l3) z;simp only[h,q.len];exact SimO.new ((q.drop _).take _) (λes=>by simp[flat])
   | _=>exact SimO.no
  | _=>exact SimO.no
 | .blt b a,R,m,de,env,q=>by
  by_cases hb:b=.list
  .subst hb;refine (zj H.r a R m de env q).bindO λd w m1 l1 k1=>?_;have k2:=yQ k1;simp only[yC];split
   .next x hx =>
    rw[hx] at k2;obtain ⟨x',r,e0,p,q0⟩:=k2.cons_inv;rw[e0,q0.nil_inv];split
    .next z=>obtain ⟨ys,h,q⟩:=vh p z;simp only[jO,h];exact SimO.new q (λes=>by simp[flat])
    .exact SimO.no
   .exact SimO.no
  .exact (zj H.r (.blt b a) R m de env q).own λd=>by cases b <;> first | exact absurd rfl hb | rfl
 | .lst a,R,m,de,env,q=>by
  have ih:=xS H a R m de env q;show SimO R m _ ((evE cl a env m).bind λx m1=>alloc m1 (zL x)) ((evD cd a de).bind λx=>yB (yd x));cases ea:evD cd a de with
  | no=>trivial
  | exc c d=>rw[ea] at ih;obtain ⟨w,m',h,l,k⟩:=ih;rw[h];exact ⟨w,m',rfl,l,k⟩
  | ok d =>
   rw[ea] at ih;have hs:=ih.sim;obtain ⟨w,m1,A,h,l,k,nd,hA⟩:=ih;obtain ⟨w',m1',h',_,ks⟩:=hs;rw[h] at h';cases h';rw[h];simp only[Rz.bind,Rd.bind];have ka:=yQ ks;cases z:lvE lev a (.tup (yd d)) == .full with
   | false=>exact SimO.newTop l ka (by simp[flat,z])
   | true =>
    have z':lvE lev a (.tup (yd d))=.full:=by simpa using z
    have own:∃B,OwnL m1 (yd d) (zL w) B/\B.Nodup/\∀b∈B,m.length<=b:=by
     cases d with
     | tup ds =>
      rw[show lvE lev a (.tup ds)=.full from z'] at k;obtain ⟨xs,rfl,k1⟩:=own_tup.mp k;exact ⟨A,k1,nd,hA⟩
     | _=>refine ⟨[],?_,List.nodup_nil,by simp⟩;exact ka.flat _ _ rfl
    obtain ⟨B,o,nb,hB⟩:=own;exact zjQ l o nb hB (by simp[flat,z]) ka.len
 | .tup a,R,m,de,env,q=>by
  have ih:=xS H a R m de env q;have el:lvE lev (.tup a)=lvE lev a:=by funext d;simp
  rw[el];show SimO R m _ ((evE cl a env m).bind λx m1=>if (zL x).length<=lim then .ok (.tup (zL x)) m1 else .no) ((evD cd a de).bind λx=>if (yd x).length<=lim then .ok (.tup (yd x)) else .no);cases ea:evD cd a de with
  | no=>trivial
  | exc c d=>rw[ea] at ih;obtain ⟨w,m',h,l,k⟩:=ih;rw[h];exact ⟨w,m',rfl,l,k⟩
  | ok d =>
   rw[ea] at ih;have hs:=ih.sim;obtain ⟨w,m1,A,h,l,k,nd,hA⟩:=ih;obtain ⟨w',m1',h',_,ks⟩:=hs;rw[h] at h';cases h';rw[h];have ka:=yQ ks;simp only[Rz.bind,Rd.bind,ka.len];split
   .cases d with
    | tup ds =>
     obtain ⟨xs,rfl,_⟩:=rep_tup.mp ks;exact ⟨_,m1,A,rfl,l,k,nd,hA⟩
    | _ =>
     refine ⟨_,m1,[],rfl,l,?_,List.nodup_nil,by simp⟩;rw[yR lev a _ (by rfl)];exact own_tup.mpr ⟨_,rfl,ka.flat _ _ rfl⟩
   .trivial
 | .pair a b,R,m,de,env,q=>by
  have iha:=xS H a R m de env q.left;show SimO R m _ ((evE cl a env m).bind λx m1=>(evE cl b env m1).bind λy m2=>.ok (.tup (x::zL y)) m2) ((evD cd a de).bind λx=>(evD cd b de).bind λy=>.ok (.tup (x::yd y)));cases ea:evD cd a de with
  | no=>trivial
  | exc c d=>rw[ea] at iha;obtain ⟨w,m',h,l,k⟩:=iha;rw[h];exact ⟨w,m',rfl,l,k⟩
  | ok d =>
   rw[ea] at iha;have hs:=iha.sim;obtain ⟨w,m1,A,h,l,k,nd,hA⟩:=iha;obtain ⟨w',m1',h',_,ks⟩:=hs;rw[h] at h';cases h';rw[h];simp only[Rz.bind,Rd.bind];have ihb:=xS H b _ m1 de env (q.right.up (R':=Rf R m.length) (λ_=>.inl) l);cases eb:evD cd b de with
   | no=>trivial
   | exc c d=>rw[eb] at ihb;obtain ⟨w,m',h,l2,k⟩:=ihb;rw[h];exact SimE.lift (rd:=.exc c d) l ⟨w,m',rfl,l2,k⟩
   | ok d2 =>
    rw[eb] at ihb;have hs2:=ihb.sim;obtain ⟨w2,m2,A2,h2,l2,k2,nd2,hA2⟩:=ihb;obtain ⟨w2',m2',h2',_,ks2⟩:=hs2;rw[h2] at h2';cases h2';rw[h2];simp only;have ka:=yQ ks2;have hl1:=l.len;cases z:(lvE lev a d == .full && lvE lev b (.tup (yd d2)) == .full) with
    | false =>
     have:SimE R m (.ok (.tup (w::zL w2)) m2) (.ok (.tup (d::yd d2))) :=
      SimE.lift l (SimE.lift l2 (zjP (rep_tup.mpr ⟨_,rfl,.cons (ks.up _ l2) ka⟩)))
     obtain ⟨w3,m3,h3,l3,k3⟩:=this;refine ⟨w3,m3,[],h3,l3,?_,List.nodup_nil,by simp⟩;by_cases f:flat (.tup (d::yd d2))=true
     .rw[yR lev _ _ f];exact k3.flat _ w3 f
     .have:lvE lev (.pair a b) (.tup (d::yd d2))=.no:=by
       rw[zaO,if_neg f];simp only[z];rfl
      rw[this];exact ⟨Rep.frame (λl o r z=>⟨⟨r,by simp⟩,z⟩) _ w3 k3,rfl⟩
    | true =>
     rw[Bool.and_eq_true] at z;have z1:lvE lev a d=.full:=by simpa using z.1
     have z2:lvE lev b (.tup (yd d2))=.full:=by simpa using z.2
     rw[z1] at k;have own:∃B,OwnL m2 (yd d2) (zL w2) B/\B.Nodup/\∀b∈B,m1.length<=b:=by
      cases d2 with
      | tup ds =>
       rw[show lvE lev b (.tup ds)=.full from z2] at k2;obtain ⟨xs,rfl,k3⟩:=own_tup.mp k2;exact ⟨A2,k3,nd2,hA2⟩
      | _=>refine ⟨[],?_,List.nodup_nil,by simp⟩;exact ka.flat _ _ rfl
     obtain ⟨B,o,nb,hB⟩:=own;refine ⟨_,m2,A++B,rfl,l.trans l2,?_,?_,?_⟩
     .have:lvE lev (.pair a b) (.tup (d::yd d2))=.full:=by
       rw[zaO];simp only[z1,z2];simp
      rw[this];exact own_tup.mpr ⟨_,rfl,.cons (Own.frame d w A (λx _ o q=>l2 x o q) k) o⟩
     .refine List.nodup_append.mpr ⟨nd,nb,λx hx y hy e=>?_⟩;have:=Own.lt d w A k x hx;have:=hB y hy;lia
     .intro x hx;rcases List.mem_append.mp hx with hx | hx
      .exact hA x hx
      .have:=hB x hx;lia
 | .comp elt it cond,R,m,de,env,q=>by
  refine (zj H.r it R m de env q.left).bindO λd w m1 l1 k1=>?_;have hc:∀ (R':Nat->Prop) m' d x,(∀l,Rf R m.length l->R' l)->Le m1 m'->Rep R' m' d x->SimE R' m' (evE cl cond (env++[some x]) m') (evD cd cond (de++[some d])) :=
   λR' m' d x hR l k=>zj H.r cond R' m' _ _ ((q.right.right.up (λl h=>hR l (.inl h)) (l1.trans l)).push k)
  have he:∀ (R':Nat->Prop) m' d x,(∀l,Rf R m.length l->R' l)->Le m1 m'->Rep R' m' d x->SimO R' m' (lvE lev elt) (evE cl elt (env++[some x]) m') (evD cd elt (de++[some d])) :=
   λR' m' d x hR l k=>xS H elt R' m' _ _ ((q.right.left.up (λl h=>hR l (.inl h)) (l1.trans l)).push k)
  have hl:∀ds,lvE lev (.comp elt it cond) (.lst ds)=if ds.all (λx=>lvE lev elt x == .full) then .full else .top:=λds=>by simp[flat]
  have acc0:AccO m1 m1 (lvE lev elt) [] []:=λ_=>⟨[],.nil,List.nodup_nil,by simp⟩;cases d with
  | tup ds =>
   obtain ⟨xs,rfl,k2⟩:=rep_tup.mp k1;exact (wQ hc he ds xs [] [] m1 (Le.refl _) (k2.up _ (Le.refl _)) .nil acc0).sim hl
  | scr ns =>
   rw[rep_scr.mp k1];exact (wQ hc he (ns.map .int) (ns.map .int) [] [] m1 (Le.refl _) (zjV ns) .nil acc0).sim hl
  | lst ds =>
   obtain ⟨l,xs,rfl,_,hm,k2⟩:=rep_lst.mp k1;simp only[itD];by_cases z:ds.length<=lim
   .rw[if_pos z];have hl':=k2.len;exact (vE hm hc he ds 0 (lim+1) [] [] m1 (Le.refl _) (by simpa using (k2.up _ (Le.refl _))) (by lia) (by lia) .nil acc0).sim hl
   .rw[if_neg z];exact SimO.no
  | _=>exact SimO.no
 | .compP k elt a b cond,R,m,de,env,q=>by
  refine (zj H.r a R m de env q.left).bindO λd w m1 l1 k1=>?_;refine (zj H.r b _ m1 de env (q.right.left.up (λl h=>.inl h) l1)).bindO λd' w' m2 l2 k2=>?_;have hc:∀ (R':Nat->Prop) m' (p:Dat×Dat) x y,(∀l,Rf (Rf R m.length) m1.length l->R' l)->Le m2 m'->Rep R' m' p.1 x->Rep R' m' p.2 y->SimE R' m' (evE cl cond (env++[some x]++[some y]) m') (evD cd cond (de++[some p.1]++[some p.2])) :=
   λR' m' d x y hR l k k'=>zj H.r cond R' m' _ _ (((q.right.right.right.up (λl h=>hR l (.inl (.inl h))) ((l1.trans l2).trans l)).push k).push k')
  have he:∀ (R':Nat->Prop) m' (p:Dat×Dat) x y,(∀l,Rf (Rf R m.length) m1.length l->R' l)->Le m2 m'->Rep R' m' p.1 x->Rep R' m' p.2 y->SimO R' m' (lvE lev elt) (evE cl elt (env++[some x]++[some y]) m') (evD cd elt (de++[some p.1]++[some p.2])) :=
   λR' m' d x y hR l k k'=>xS H elt R' m' _ _ (((q.right.right.left.up (λl h=>hR l (.inl (.inl h))) ((l1.trans l2).trans l)).push k).push k')
  have hl:∀ds,lvE lev (.compP k elt a b cond) (.lst ds)=if ds.all (λx=>lvE lev elt x == .full) then .full else .top:=λds=>by simp[flat]
  have acc0:AccO m2 m2 (lvE lev elt) [] []:=λ_=>⟨[],.nil,List.nodup_nil,by simp⟩;cases e:y4 k d d' with
  | none=>exact SimO.no
  | some ps =>
   obtain ⟨pr,hln⟩:=jy e ((k1.up _ l2).up m2.length (Le.refl _)) (k2.up m2.length (Le.refl _));exact (vF pr hc he ps 0 (lim+1) [] [] m2 (Le.refl _) (by simp) (by simp) (by lia) .nil acc0).sim hl
 | .var i,R,m,de,env,q=>(zj H.r _ R m de env q).own λd=>rfl
 | .lit w,R,m,de,env,q=>(zj H.r _ R m de env q).own λd=>rfl
 | .neg a,R,m,de,env,q=>(zj H.r _ R m de env q).own λd=>rfl
 | .not a,R,m,de,env,q=>(zj H.r _ R m de env q).own λd=>rfl
 | .and a b,R,m,de,env,q=>(zj H.r _ R m de env q).own λd=>rfl
 | .or a b,R,m,de,env,q=>(zj H.r _ R m de env q).own λd=>rfl
 | .cmp op a b,R,m,de,env,q=>(zj H.r _ R m de env q).own λd=>rfl
 | .chain o p a b c,R,m,de,env,q=>(zj H.r _ R m de env q).own λd=>rfl
 | .ife c a b,R,m,de,env,q=>(zj H.r _ R m de env q).own λd=>rfl
 | .unit,R,m,de,env,q=>(zj H.r _ R m de env q).own λd=>rfl
 | .isi t a,R,m,de,env,q=>(zj H.r _ R m de env q).own λd=>rfl
 | .idx a b,R,m,de,env,q=>(zj H.r _ R m de env q).own λd=>rfl
 | .meth _ _ _,R,m,de,env,q=>(zj H.r _ R m de env q).own λd=>rfl
 | .rng a b c,R,m,de,env,q=>(zj H.r _ R m de env q).own λd=>rfl
set_option genInjectivity false in
inductive Rsd where
 | next (de:DEn) (lv:List Lv) | ret (d:Dat) (l:Lv) | brk (de:DEn) (lv:List Lv) | cont (de:DEn) (lv:List Lv) | exc (c:Nat) (d:Dat) | no
deriving Inhabited
noncomputable def Rd.bindS (r:Rd)(f:Dat->Rsd):Rsd:=match r with
 | .ok d=>f d
 | .exc c d=>.exc c d
 | .no=>.no
noncomputable def Rd.okS (r:Rd)(f:Dat->Rsd):Rsd:=match r with
 | .ok d=>f d
 | _=>.no
noncomputable def downs:List Nat->List Lv->List Lv
 | [],lv=>lv
 | i::vs,lv=>downs vs (lv.set i .no)
noncomputable def topD (de:DEn)(j:Nat)(lv:List Lv):List Lv:=match de[j]?,lv[j]? with
 | some (some (.lst _)),some .full=>lv.set j .top
 | some (some (.lst _)),some .top=>lv.set j .top
 | _,_=>lv.set j .no
noncomputable def y6 (e:Ex)(de:DEn)(lv:List Lv):List Lv:=match e with
 | .idx (.var j) b=>topD de j (downs (zA b) lv)
 | e=>downs (zA e) lv
mutual
noncomputable def dep:Dat->Nat
 | .lst xs=>depL xs+1
 | .dct _ xs=>depL xs+1
 | .tup xs=>depL xs+1
 | .non=>0
 | .bl _=>0
 | .int _=>0
 | .str _=>0
 | .scr _=>0
noncomputable def depL:List Dat->Nat
 | []=>0
 | d::ds=>max (dep d) (depL ds)
end
noncomputable def yi (lv:List Lv)(j:Nat):Bool:=match lv[j]? with
 | some .top=>true
 | some .full=>true
 | _=>false
noncomputable def xc (lev:Nat->Lv)(e:Ex)(d:Dat)(j:Nat)(de:DEn)(lv:List Lv):Option (DEn×List Lv) :=
 if yi lv j=false then none
 else if lvE lev e d=.full then some (de,lv)
 else if j∈zA e then none
 else match e with
  | .var i=>if lv[i]?=some .full/\lv[j]?=some .full then some (de.set i none,lv) else some (de,(downs [i] lv).set j .top)
  | e=>some (de,(y6 e de lv).set j .top)
noncomputable def y7 {α:Type}(body:α->DEn->List Lv->Rsd):List α->DEn->List Lv->Rsd
 | [],de,lv=>.next de lv
 | x::xs,de,lv=>match body x de lv with
  | .next d1 l1=>y7 body xs d1 l1
  | .cont d1 l1=>y7 body xs d1 l1
  | .brk d1 l1=>.next d1 l1
  | r=>r
noncomputable def wg (c:DEn->Rd)(body:DEn->List Lv->Rsd):Nat->DEn->List Lv->Rsd
 | 0,_,_=>.no
 | k+1,de,lv=>match c de with
  | .ok (.bl true)=>match body de lv with
   | .next d1 l1=>wg c body k d1 l1
   | .cont d1 l1=>wg c body k d1 l1
   | .brk d1 l1=>.next d1 l1
   | r=>r
  | .ok (.bl false)=>.next de lv
  | .exc c d=>.exc c d
  | _=>.no
noncomputable def lvF (d:Dat):Lv:=if flat d then .full else .no
noncomputable def lvR (lev:Nat->Lv)(e:Ex)(d:Dat)(lv:List Lv):Lv:=if flat d then .full else match e with
 | .var i=>(lv[i]?).getD .no
 | .tup (.pair (.var a) (.pair (.var b) .unit))=>if a≠b/\lv[a]?=some .full/\lv[b]?=some .full then .full else .no
 | e=>lvE lev e d
noncomputable def xo (de:DEn)(j:Nat):Option (List Dat):=match de[j]? with
 | some (some (.lst ds))=>some ds
 | _=>none
noncomputable def xY (lev:Nat->Lv)(i:Nat)(e:Ex)(d:Dat)(de:DEn)(lv:List Lv):Rsd :=
 if lvE lev e d=.full then .next (de.set i (some d)) (lv.set i .full) else .next (de.set i (some d)) ((y6 e de lv).set i (lvE lev e d))
noncomputable def yu (s t:Sm):Option (Nat×Nat×Ex×Ex×Ex×Ex×Ex):=match t with
 | _=>none
noncomputable def g8 (lev:Nat->Lv)(cl:Nat->List Dat->Rd)(e:Ex)(de:DEn)(lv:List Lv):Rsd:=match e with
  | .meth .append (.var j) (.pair e .unit)=>(evD cl e de).okS λd=>match xo de j with
   | some ds=>if ds.length < lim then match xc lev e d j de lv with
    | some (de1,lv1)=>.next (de1.set j (some (.lst (ds++[d])))) lv1
    | none=>.no
    else .no
   | none=>.no
  | .meth .insert (.var j) (.pair (.lit (.int 0)) (.pair e .unit))=>(evD cl e de).okS λd=>match xo de j with
   | some ds=>if ds.length < lim then match xc lev e d j de lv with
    | some (de1,lv1)=>.next (de1.set j (some (.lst (d::ds)))) lv1
    | none=>.no
    else .no
   | none=>.no
  | .meth .reverse (.var j) .unit=>match xo de j with
   | some ds=>if yi lv j then .next (de.set j (some (.lst ds.reverse))) lv else .no
   | none=>.no
  | .meth _ _ _=>.no
  | e=>(evD cl e de).bindS λ_=>.next de lv
noncomputable def exD (lev:Nat->Lv)(cl:Nat->List Dat->Rd):Sm->DEn->List Lv->Rsd
 | .skip,de,lv=>.next de lv
 | .seq a b,de,lv=>match yu a b with
  | some _=>.no
  | none=>match exD lev cl a de lv with
   | .next d1 l1=>exD lev cl b d1 l1
   | r=>r
 | .asg i e,de,lv=>(evD cl e de).bindS λd=>xY lev i e d de lv
 | .aug i op e,de,lv=>match de[i]? with
  | some (some (.int a))=>(evD cl e de).okS λy=>match y with
   | .int b=>(yy op (.int a) (.int b)).okS λz=>.next (de.set i (some z)) (lv.set i .full)
   | _=>.no
  | _=>.no
 | .ite c a b,de,lv=>(evD cl c de).bindS λx=>match x with
  | .bl true=>exD lev cl a de lv
  | .bl false=>exD lev cl b de lv
  | _=>.no
 | .forv i it body,de,lv=>(evD cl it de).bindS λd=>match itD d with
  | some xs=>y7 (λx de lv=>exD lev cl body (de.set i (some x)) (lv.set i (lvF x))) xs de (if flat d then lv else y6 it de lv)
  | none=>.no
 | .fort i j it body,de,lv=>(evD cl it de).bindS λd=>match itD d with
  | some xs=>y7 (λx de lv=>match x with
    | .tup [a,b]=>exD lev cl body ((de.set i (some a)).set j (some b)) ((lv.set i (lvF a)).set j (lvF b))
    | _=>.no) xs de (if flat d then lv else y6 it de lv)
  | none=>.no
 | .while c body,de,lv=>wg (evD cl c) (exD lev cl body) 1000000 de lv
 | .ret e,de,lv=>(evD cl e de).bindS λd=>.ret d (lvR lev e d lv)
 | .expr e,de,lv=>g8 lev cl e de lv
 | .appPop j a x e,de,lv=>match xo de x,de[a]?,xo de j with
  | some (.int v::r),some (some (.int low)),some ds=>(evD cl e (de.set x (some (.lst r)))).okS λd=>match d with
   | .int k=>if j≠x/\a≠x/\yi lv j=true/\yi lv x=true/\0 < k/\ds.length < lim then .next ((de.set x (some (.lst r))).set j (some (.lst (ds++[.int (low+v % k)])))) lv else .no
   | _=>.no
  | _,_,_=>.no
 | .never,_,_=>.no
theorem j2 {lev:Nat->Lv}{cl:Nat->List Dat->Rd}{a b:Sm}{de:DEn}{lv:List Lv}:exD lev cl (.seq a b) de lv=match yu a b with
  | some _=>.no
  | none=>match exD lev cl a de lv with
   | .next d1 l1=>exD lev cl b d1 l1
   | r=>r:=rfl
noncomputable def yE (fn:Fn)(ds:List Dat):DEn:=ds.map some++List.replicate (fn.sz - ds.length) none
noncomputable def yF (fn:Fn)(ds:List Dat):List Lv:=ds.map lvF++List.replicate (fn.sz - ds.length) .full
noncomputable def xT:Lv->Lv->Bool
 | _,.no=>true
 | .full,.full=>true
 | .top,.top=>true
 | _,_=>false
noncomputable def zt (l:Lv):Rsd->Rd
 | .next _ _=>.ok .non
 | .ret d k=>if flat d || xT k l then .ok d else .no
 | .exc c d=>.exc c d
 | _=>.no
noncomputable def zq (lev:Nat->Lv)(cl:Nat->List Dat->Rd)(k:Nat)(fn:Fn)(ds:List Dat):Rd :=
 if ds.length=fn.ar then zt (lev k) (exD lev cl fn.body (yE fn ds) (yF fn ds)) else .no
noncomputable def kT (lev:Nat->Lv)(T:List Fn):Nat->Nat->List Dat->Rd
 | 0,_,_=>.no
 | d+1,k,ds=>match T[k]? with
  | some fn=>zq lev (kT lev T d) k fn ds
  | none=>.no
def xk (RR:Nat->Prop)(A:Nat->List Nat):Nat->Prop:=λl=>RR l/\∀i,l∉A i
structure Inv (lo:Nat)(RR:Nat->Prop)(m:Me)(de:DEn)(lv:List Lv)(env:En)(A:Nat->List Nat):Prop where
 len:de.length=env.length
 lvl:lv.length=de.length
 rr:∀l,lo<=l->RR l
 lom:lo<=m.length
 slot:∀i d l,de[i]?=some (some d)->lv[i]?=some l->∃w,env[i]?=some (some w)/\RepO (xk RR A) m l d w (A i)
 nd:∀i,(A i).Nodup
 dj:∀i j a,a∈A i->a∈A j->i=j
 bd:∀i a,a∈A i->lo<=a/\a < m.length
def Keep (A:Nat->List Nat)(m:Me)(A':Nat->List Nat)(m':Me):Prop:=(∀ (l:Nat) o,(∀i,l∉A i)->m[l]?=some o->(∀i,l∉A' i)/\m'[l]?=some o)/\m.length<=m'.length
theorem Keep.refl (A:Nat->List Nat)(m:Me):Keep A m A m:=⟨λ_ _ h k=>⟨h,k⟩,Nat.le_refl _⟩
theorem Keep.trans {A B C:Nat->List Nat}{m m1 m2:Me}(h:Keep A m B m1)(k:Keep B m1 C m2):Keep A m C m2 :=
 ⟨λl o a b=>k.1 l o (h.1 l o a b).1 (h.1 l o a b).2,Nat.le_trans h.2 k.2⟩
theorem Keep.rep {A A':Nat->List Nat}{m m':Me}{RR:Nat->Prop}{d:Dat}{w:Wd}(h:Keep A m A' m')(q:Rep (xk RR A) m d w):Rep (xk RR A') m' d w :=
 Rep.frame (λl o r z=>⟨⟨r.1,(h.1 l o r.2 z).1⟩,(h.1 l o r.2 z).2⟩) d w q
theorem Keep.repL {A A':Nat->List Nat}{m m':Me}{RR:Nat->Prop}{d:List Dat}{w:List Wd}(h:Keep A m A' m')(q:RepL (xk RR A) m d w):RepL (xk RR A') m' d w :=
 RepL.frame (λl o r z=>⟨⟨r.1,(h.1 l o r.2 z).1⟩,(h.1 l o r.2 z).2⟩) d w q
theorem Inv.getlv {lo:Nat}{RR:Nat->Prop}{m:Me}{de:DEn}{lv:List Lv}{env:En}{A:Nat->List Nat}(I:Inv lo RR m de lv env A){i:Nat}{o:Option Dat}(h:de[i]?=some o):∃l,lv[i]?=some l:=by
 obtain ⟨hi,_⟩:=List.getElem?_eq_some_iff.mp h;exact ⟨_,List.getElem?_eq_getElem (by rw[I.lvl];exact hi)⟩
theorem Inv.envR {lo:Nat}{RR:Nat->Prop}{m:Me}{de:DEn}{lv:List Lv}{env:En}{A:Nat->List Nat}(I:Inv lo RR m de lv env A)(vs:List Nat):EnvR RR m vs de env :=
 ⟨I.len,λi _ d h=>by
  obtain ⟨l,hl⟩:=I.getlv h;obtain ⟨w,a,b⟩:=I.slot i d l h hl;exact ⟨w,a,b.rep (λ_ z=>z.1) (λa ha=>I.rr a (I.bd i a ha).1)⟩⟩
theorem Inv.ext {lo:Nat}{RR:Nat->Prop}{m m':Me}{de:DEn}{lv:List Lv}{env:En}{A:Nat->List Nat}(I:Inv lo RR m de lv env A)(h:Le m m'):Inv lo RR m' de lv env A :=
 ⟨I.len,I.lvl,I.rr,Nat.le_trans I.lom h.len,λi d l a b=>by
  obtain ⟨w,p,q⟩:=I.slot i d l a b;exact ⟨w,p,q.frame (λl o r z=>⟨r,h l o z⟩) (λl _ o z=>h l o z)⟩,I.nd,I.dj,λi a ha=>⟨(I.bd i a ha).1,Nat.lt_of_lt_of_le (I.bd i a ha).2 h.len⟩⟩
theorem vj {A:Nat->List Nat}{m m':Me}(h:Le m m'):Keep A m A m':=⟨λl o a b=>⟨a,h l o b⟩,h.len⟩
noncomputable def upd (A:Nat->List Nat)(i:Nat)(B:List Nat):Nat->List Nat:=λk=>if k=i then B else A k
theorem zp {A:Nat->List Nat}{i:Nat}{B:List Nat}:upd A i B i=B:=by simp[upd]
theorem zn {A:Nat->List Nat}{i k:Nat}{B:List Nat}(h:k≠i):upd A i B k=A k:=by simp[upd,h]
set_option tactic.hygienic true in
theorem Inv.store {lo:Nat}{RR:Nat->Prop}{m m':Me}{de:DEn}{lv:List Lv}{env:En}{A:Nat->List Nat}(I:Inv lo RR m de lv env A)(h:Le m m')(i:Nat){d:Dat}{l:Lv}{w:Wd}{B:List Nat}
  (q:RepO (λl=>(xk RR A l\/m.length<=l)/\l∉B) m' l d w B) (nd:B.Nodup) (hB:∀b∈B,m.length<=b) :
  Inv lo RR m' (de.set i (some d)) (lv.set i l) (env.set i (some w)) (upd A i B)/\Keep A m (upd A i B) m':=by
 have hlt:=q.lt;have fr:∀ (x:Nat) (o:Ob),(∀k,x∉A k)->m[x]?=some o->∀k,x∉upd A i B k:=by
  intro x o hx hm k;by_cases e:k=i
  .subst e;rw[zp];intro hb;have:=hB x hb;have:=(List.getElem?_eq_some_iff.mp hm).1;lia
  .rw[zn e];exact hx k
 refine ⟨⟨by simp[I.len],by simp[I.lvl],I.rr,Nat.le_trans I.lom h.len,?_,?_,?_,?_⟩,⟨λx o hx hm=>⟨fr x o hx hm,h x o hm⟩,h.len⟩⟩
 .intro k e l' h1 h2;by_cases z:k=i
  .rw[z] at h1 h2 ⊢;rw[List.getElem?_set] at h1 h2;rw[if_pos rfl] at h1 h2;split at h1
   .split at h2
    .next q1 q2 =>
     cases h1;cases h2;refine ⟨w,by rw[List.getElem?_set,if_pos rfl,if_pos (by rw[<- I.len];exact q1)],?_⟩;rw[zp];refine q.frame (λx o r hm=>⟨⟨?_,λk=>?_⟩,hm⟩) (λ_ _ _ z=>z)
     .rcases r.1 with r1 | r1
      .exact r1.1
      .exact I.rr x (Nat.le_trans I.lom r1)
     .by_cases e:k=i
      .subst e;rw[zp];exact r.2
      .rw[zn e];rcases r.1 with r1 | r1
       .exact r1.2 k
       .intro ha;have:=(I.bd k x ha).2;lia
    .cases h2
   .cases h1
  .rw[List.getElem?_set_ne (Ne.symm z)] at h1 h2;obtain ⟨w',a,b⟩:=I.slot k e l' h1 h2;refine ⟨w',by rw[List.getElem?_set_ne (Ne.symm z)];exact a,?_⟩;rw[zn z];exact b.frame (λx o r hm=>⟨⟨r.1,fr x o r.2 hm⟩,h x o hm⟩) (λx _ o hm=>h x o hm)
 .intro k;by_cases e:k=i
  .subst e;rw[zp];exact nd
  .rw[zn e];exact I.nd k
 .intro k j a ha hb;by_cases e:k=i
  .subst e;rw[zp] at ha;by_cases f:j=k
   .exact f.symm
   .rw[zn f] at hb;have:=hB a ha;have:=(I.bd j a hb).2;lia
  .rw[zn e] at ha;by_cases f:j=i
   .subst f;rw[zp] at hb;have:=hB a hb;have:=(I.bd k a ha).2;lia
   .rw[zn f] at hb;exact I.dj k j a ha hb
 .intro k a ha;by_cases e:k=i
  .subst e;rw[zp] at ha;exact ⟨Nat.le_trans I.lom (hB a ha),hlt a ha⟩
  .rw[zn e] at ha;exact ⟨(I.bd k a ha).1,Nat.lt_of_lt_of_le (I.bd k a ha).2 h.len⟩
theorem Inv.weak {lo:Nat}{RR:Nat->Prop}{m:Me}{de:DEn}{lv:List Lv}{env:En}{A:Nat->List Nat}(I:Inv lo RR m de lv env A)(i:Nat){l:Lv}{B:List Nat}
  (hB:∀b∈B,b∈A i) (nd:B.Nodup) (q:∀d w,de[i]?=some (some d)->env[i]?=some (some w)->RepO (xk RR (upd A i B)) m l d w B) :
  Inv lo RR m de (lv.set i l) env (upd A i B)/\Keep A m (upd A i B) m:=by
 have fr:∀x,(∀k,x∉A k)->∀k,x∉upd A i B k:=by
  intro x hx k;by_cases e:k=i
  .subst e;rw[zp];intro hb;exact hx _ (hB x hb)
  .rw[zn e];exact hx k
 have sub:∀k a,a∈upd A i B k->a∈A k:=by
  intro k a ha;by_cases e:k=i
  .subst e;rw[zp] at ha;exact hB a ha
  .rw[zn e] at ha;exact ha
 refine ⟨⟨I.len,by simp[I.lvl],I.rr,I.lom,?_,?_,λk j a ha hb=>I.dj k j a (sub k a ha) (sub j a hb),λk a ha=>I.bd k a (sub k a ha)⟩,⟨λx o hx hm=>⟨fr x hx,hm⟩,Nat.le_refl _⟩⟩
 .intro k e l' h1 h2;by_cases z:k=i
  .subst z;rw[List.getElem?_set,if_pos rfl] at h2;split at h2
   .cases h2;obtain ⟨l0,hl0⟩:=I.getlv h1;obtain ⟨w,a,_⟩:=I.slot k e l0 h1 hl0;refine ⟨w,a,?_⟩;rw[zp];exact q e w h1 a
   .cases h2
  .rw[List.getElem?_set_ne (Ne.symm z)] at h2;obtain ⟨w',a,b⟩:=I.slot k e l' h1 h2;refine ⟨w',a,?_⟩;rw[zn z];exact b.frame (λx o r hm=>⟨⟨r.1,fr x r.2⟩,hm⟩) (λx _ o hm=>hm)
 .intro k;by_cases e:k=i
  .subst e;rw[zp];exact nd
  .rw[zn e];exact I.nd k
theorem Inv.down {lo:Nat}{RR:Nat->Prop}{m:Me}{de:DEn}{lv:List Lv}{env:En}{A:Nat->List Nat}(I:Inv lo RR m de lv env A)(i:Nat):
  Inv lo RR m de (lv.set i .no) env (upd A i [])/\Keep A m (upd A i []) m:=by
 refine I.weak i (by simp) List.nodup_nil λd w h1 h2=>⟨?_,rfl⟩;obtain ⟨l,hl⟩:=I.getlv h1;obtain ⟨w',a,b⟩:=I.slot i d l h1 hl;rw[h2] at a;cases a;refine b.rep (λx r=>⟨r.1,λk=>?_⟩) (λx hx=>⟨I.rr x (I.bd i x hx).1,λk=>?_⟩)
 .by_cases e:k=i
  .subst e;rw[zp];simp
  .rw[zn e];exact r.2 k
 .by_cases e:k=i
  .subst e;rw[zp];simp
  .rw[zn e];intro ha;exact e (I.dj k i x ha hx)
theorem xZ:∀ (vs:List Nat) (lv:List Lv) (k:Nat),(downs vs lv)[k]?=if k∈vs/\k < lv.length then some .no else lv[k]?
 | [],lv,k=>by simp[downs]
 | i::vs,lv,k=>by
  unfold downs;rw[xZ vs (lv.set i .no) k];rw[List.length_set,List.getElem?_set];by_cases a:k∈vs/\k < lv.length
  .rw[if_pos a,if_pos ⟨List.mem_cons_of_mem _ a.1,a.2⟩]
  .rw[if_neg a];by_cases e:i=k
   .subst e;by_cases b:i < lv.length
    .simp[b]
    .simp[b]
   .rw[if_neg e];by_cases c:k∈vs
    .have:¬ k < lv.length:=λz=>a ⟨c,z⟩;rw[if_neg (λz=>this z.2)]
    .rw[if_neg (λz=>by rcases List.mem_cons.mp z.1 with z1 | z1;exact e z1.symm;exact c z1)]
theorem Inv.downs {lo:Nat}{RR:Nat->Prop}{m:Me}{de:DEn}{env:En}:∀ (vs:List Nat) {lv:List Lv}{A:Nat->List Nat},Inv lo RR m de lv env A ->
  ∃A',Inv lo RR m de (downs vs lv) env A'/\Keep A m A' m/\(∀i∈vs,A' i=[])/\(∀i,A' i=A i\/A' i=[])/\∀i,i∉vs->A' i=A i
 | [],lv,A,I=>⟨A,I,Keep.refl A m,by simp,λi=>.inl rfl,λ_ _=>rfl⟩
 | j::vs,lv,A,I=>by
  obtain ⟨I1,K1⟩:=I.down j;obtain ⟨A',I2,K2,h1,h2,h3⟩:=Inv.downs vs I1;refine ⟨A',I2,K1.trans K2,λi hi=>?_,λi=>?_,λi hi=>?_⟩
  .by_cases q:i∈vs
   .exact h1 i q
   .rw[h3 i q];rcases List.mem_cons.mp hi with rfl | hi
    .exact zp
    .exact absurd hi q
  .rcases h2 i with z | z
   .rw[z];by_cases e:i=j
    .subst e;right;exact zp
    .left;exact zn e
   .exact .inr z
  .have:i≠j:=λe=>hi (by rw[e];simp);rw[h3 i (λz=>hi (List.mem_cons_of_mem _ z)),zn this]
theorem Inv.top {lo:Nat}{RR:Nat->Prop}{m:Me}{de:DEn}{lv:List Lv}{env:En}{A:Nat->List Nat}(I:Inv lo RR m de lv env A)(j:Nat){ds:List Dat}(hd:de[j]?=some (some (.lst ds)))(hj:yi lv j=true):
  ∃l xs A',Inv lo RR m de (lv.set j .top) env A'/\Keep A m A' m/\A' j=[l]/\(∀i,i≠j->A' i=A i)/\env[j]?=some (some (.ref l))/\m[l]?=some (.lst xs)/\RepL (xk RR A') m ds xs/\l∈A j:=by
 unfold yi at hj;obtain ⟨lj,hl⟩:=I.getlv hd;obtain ⟨w,a,b⟩:=I.slot j _ lj hd hl;rw[hl] at hj;have key:∃l xs,w=.ref l/\l∈A j/\m[l]?=some (.lst xs)/\RepL (xk RR (upd A j [l])) m ds xs:=by
  cases lj with
  | no=>simp at hj
  | top =>
   obtain ⟨es,l,xs,e,rfl,hA,hm,r⟩:=b;cases e;refine ⟨l,xs,rfl,by rw[hA];simp,hm,RepL.frame (λx o r z=>⟨⟨r.1,λk=>?_⟩,z⟩) _ _ r⟩;by_cases e:k=j
   .subst e;rw[zp,<- hA];exact r.2 k
   .rw[zn e];exact r.2 k
  | full =>
   obtain ⟨l,xs,B,rfl,hA,hm,r⟩:=own_lst.mp b;refine ⟨l,xs,rfl,by rw[hA];simp,hm,OwnL.rep ds xs B (λx hx=>⟨I.rr x (I.bd j x (by rw[hA];exact List.mem_cons_of_mem _ hx)).1,λk=>?_⟩) r⟩;have nd:=I.nd j;rw[hA] at nd;by_cases e:k=j
   .subst e;rw[zp];intro z;rw[List.mem_singleton.mp z] at hx;exact (List.nodup_cons.mp nd).1 hx
   .rw[zn e];intro z;exact e (I.dj k j x z (by rw[hA];exact List.mem_cons_of_mem _ hx))
 obtain ⟨l,xs,rfl,hA,hm,r⟩:=key;obtain ⟨I',K⟩:=I.weak j (l:=.top) (B:=[l]) (by intro b hb;rw[List.mem_singleton.mp hb];exact hA) (by simp) λd w h1 h2=>by
  rw[hd] at h1;cases h1;rw[a] at h2;cases h2;exact ⟨ds,l,xs,rfl,rfl,rfl,hm,r⟩
 exact ⟨l,xs,_,I',K,zp,λi hi=>zn hi,a,hm,r,hA⟩
theorem xf {m:Me}{l x:Nat}{o:Ob}(h:l≠x):(m.set l o)[x]?=m[x]?:=List.getElem?_set_ne h
theorem wl {m:Me}{l:Nat}{o p:Ob}(h:m[l]?=some p):(m.set l o)[l]?=some o:=by
 rw[List.getElem?_set,if_pos rfl,if_pos (List.getElem?_eq_some_iff.mp h).1]
theorem Inv.putO {lo:Nat}{RR:Nat->Prop}{m m1:Me}{de:DEn}{lv:List Lv}{env:En}{A:Nat->List Nat}(I:Inv lo RR m de lv env A)(le:Le m m1){j l:Nat}{ob:Ob}(hl:l∈A j)(A1:Nat->List Nat)
  (h3:∀k a,a∈A1 k->(∃k',a∈A k')\/m.length<=a) (nd1:∀k,(A1 k).Nodup) (dj1:∀i k a,a∈A1 i->a∈A1 k->i=k) (bd1:∀k a,a∈A1 k->lo<=a/\a < m1.length)
  {de1:DEn}{lv1:List Lv}(len1:de1.length=de.length) (lvl1:lv1.length=lv.length)
  (live:∀k d lk,k≠j->de1[k]?=some (some d)->lv1[k]?=some lk->de[k]?=some (some d)/\lv[k]?=some lk/\A1 k=A k)
  (sj:∀d lj,de1[j]?=some (some d)->lv1[j]?=some lj->∃w,env[j]?=some (some w)/\RepO (xk RR A1) (m1.set l ob) lj d w (A1 j)) :
  Inv lo RR (m1.set l ob) de1 lv1 env A1/\Keep A m A1 (m1.set l ob):=by
 have fr:∀ (x:Nat) (o:Ob),(∀k,x∉A k)->m[x]?=some o->(∀k,x∉A1 k)/\(m1.set l ob)[x]?=some o:=by
  intro x o hx hm;refine ⟨λk ha=>?_,?_⟩
  .rcases h3 k x ha with ⟨k',z⟩ | z
   .exact hx k' z
   .have:=(List.getElem?_eq_some_iff.mp hm).1;lia
  .rw[xf (l:=l) (x:=x) (λe=>hx j (by rw[<- e];exact hl))];exact le x o hm
 refine ⟨⟨len1.trans I.len,by rw[lvl1,I.lvl,len1],I.rr,by rw[List.length_set];exact Nat.le_trans I.lom le.len,?_,nd1,dj1,λk a ha=>by rw[List.length_set];exact bd1 k a ha⟩,⟨λx o hx hm=>fr x o hx hm,by rw[List.length_set];exact le.len⟩⟩;intro k d lk h1 h2;by_cases e:k=j
 .subst e;exact sj d lk h1 h2
 .obtain ⟨a,b,c⟩:=live k d lk e h1 h2;obtain ⟨w,p,q⟩:=I.slot k d lk a b;refine ⟨w,p,?_⟩;rw[c];refine q.frame (λx o r hm=>⟨⟨r.1,(fr x o r.2 hm).1⟩,(fr x o r.2 hm).2⟩) (λx hx o hm=>?_);rw[xf (l:=l) (x:=x) (λz=>e (I.dj k j x hx (by rw[<- z];exact hl)))];exact le x o hm
theorem Inv.put {lo:Nat}{RR:Nat->Prop}{m m1:Me}{de:DEn}{lv:List Lv}{env:En}{A:Nat->List Nat}(I:Inv lo RR m de lv env A)(le:Le m m1){j l:Nat}{xs ys:List Wd}(hl:l∈A j)(A1:Nat->List Nat)
  (h3:∀k a,a∈A1 k->(∃k',a∈A k')\/m.length<=a) (nd1:∀k,(A1 k).Nodup) (dj1:∀i k a,a∈A1 i->a∈A1 k->i=k) (bd1:∀k a,a∈A1 k->lo<=a/\a < m1.length)
  {de1:DEn}{lv1:List Lv}(len1:de1.length=de.length) (lvl1:lv1.length=lv.length)
  (live:∀k d lk,k≠j->de1[k]?=some (some d)->lv1[k]?=some lk->de[k]?=some (some d)/\lv[k]?=some lk/\A1 k=A k)
  (sj:∀d lj,de1[j]?=some (some d)->lv1[j]?=some lj->∃w,env[j]?=some (some w)/\RepO (xk RR A1) (m1.set l (.lst ys)) lj d w (A1 j)) :
  Inv lo RR (m1.set l (.lst ys)) de1 lv1 env A1/\Keep A m A1 (m1.set l (.lst ys)):=I.putO le hl A1 h3 nd1 dj1 bd1 len1 lvl1 live sj
def ChgF (m m1:Me)(ds:List Dat)(xs:List Wd)(ds':List Dat)(ys:List Wd):Prop :=
 ∀B,B.Nodup->OwnL m ds xs B->∃B',OwnL m1 ds' ys B'/\B'.Nodup/\∀b∈B',b∈B\/m.length<=b
def ChgT (RR:Nat->Prop)(A:Nat->List Nat)(m m1:Me)(ds:List Dat)(xs:List Wd)(ds':List Dat)(ys:List Wd):Prop :=
 RepL (xk RR A) m ds xs->RepL (λx=>xk RR A x\/m.length<=x) m1 ds' ys
def Chg (RR:Nat->Prop)(A:Nat->List Nat)(m m1:Me)(ds:List Dat)(xs:List Wd)(ds':List Dat)(ys:List Wd):Prop :=
 (∀B,B.Nodup->OwnL m ds xs B->∃B',OwnL m1 ds' ys B'/\B'.Nodup/\∀b∈B',b∈B\/m.length<=b)/\(RepL (xk RR A) m ds xs->RepL (λx=>xk RR A x\/m.length<=x) m1 ds' ys)
theorem Inv.mut {lo:Nat}{RR:Nat->Prop}{m:Me}{de:DEn}{lv:List Lv}{env:En}{A:Nat->List Nat}(I:Inv lo RR m de lv env A){j:Nat}{ds:List Dat}(hd:de[j]?=some (some (.lst ds)))(hj:yi lv j=true):
  ∃l xs,env[j]?=some (some (.ref l))/\m[l]?=some (.lst xs)/\RepL RR m ds xs/\∀ (m1:Me) (ds':List Dat) (ys:List Wd),Le m m1->(lv[j]?=some .full->ChgF m m1 ds xs ds' ys)->(lv[j]?=some .top->ChgT RR A m m1 ds xs ds' ys) ->
   ∃A1,Inv lo RR (m1.set l (.lst ys)) (de.set j (some (.lst ds'))) lv env A1/\Keep A m A1 (m1.set l (.lst ys)):=by
 unfold yi at hj;obtain ⟨lj,hl⟩:=I.getlv hd;obtain ⟨w,a,b⟩:=I.slot j _ lj hd hl;rw[hl] at hj;have hjl:j < de.length:=(List.getElem?_eq_some_iff.mp hd).1;have live:∀ (A1:Nat->List Nat),(∀k,k≠j->A1 k=A k)->∀ (ds':List Dat) k d lk,k≠j->(de.set j (some (.lst ds')))[k]?=some (some d)->lv[k]?=some lk->de[k]?=some (some d)/\lv[k]?=some lk/\A1 k=A k:=by
  intro A1 h ds' k d lk e h1 h2;rw[List.getElem?_set_ne (Ne.symm e)] at h1;exact ⟨h1,h2,h k e⟩
 cases lj with
 | no=>simp at hj
 | top =>
  obtain ⟨es,l,xs,e,rfl,hA,hm,r⟩:=b;cases e;refine ⟨l,xs,a,hm,RepL.frame (λ_ _ r z=>⟨r.1,z⟩) _ _ r,λm1 ds' ys le _ c=>⟨A,?_⟩⟩;have hlm:=(List.getElem?_eq_some_iff.mp hm).1;refine I.put le (j:=j) (l:=l) (xs:=xs) (by rw[hA];simp) A (λk a ha=>.inl ⟨k,ha⟩) I.nd I.dj (λk a ha=>⟨(I.bd k a ha).1,Nat.lt_of_lt_of_le (I.bd k a ha).2 le.len⟩) (by simp) rfl (live A (λ_ _=>rfl) ds') ?_;intro d lj h1 h2;rw[List.getElem?_set,if_pos rfl,if_pos hjl] at h1;cases h1;rw[hl] at h2;cases h2;refine ⟨_,a,ds',l,ys,rfl,rfl,hA,wl (le l _ hm),RepL.frame (λx o r z=>?_) _ _ (c hl r)⟩;rcases r with r | r
  .exact ⟨r,by rw[xf (l:=l) (x:=x) (λe=>r.2 j (by rw[hA,e];simp))];exact z⟩
  .exact ⟨⟨I.rr x (Nat.le_trans I.lom r),λk hk=>by have:=(I.bd k x hk).2;lia⟩,by rw[xf (l:=l) (x:=x) (by lia)];exact z⟩
 | full =>
  obtain ⟨l,xs,B,rfl,hA,hm,r⟩:=own_lst.mp b;have hlm:=(List.getElem?_eq_some_iff.mp hm).1;have nd:=I.nd j;rw[hA] at nd;refine ⟨l,xs,a,hm,OwnL.rep ds xs B (λx hx=>I.rr x (I.bd j x (by rw[hA];exact List.mem_cons_of_mem _ hx)).1) r,λm1 ds' ys le c _=>?_⟩;obtain ⟨B',o,nb,hB⟩:=c hl B (List.nodup_cons.mp nd).2 r;have hlB:l∉B':=λz=>by
   rcases hB l z with z | z
   .exact (List.nodup_cons.mp nd).1 z
   .lia
  have sub:∀x∈l::B',x∈A j\/m.length<=x:=by
   intro x hx;rcases List.mem_cons.mp hx with rfl | hx
   .left;rw[hA];simp
   .rcases hB x hx with z | z
    .left;rw[hA];exact List.mem_cons_of_mem _ z
    .exact .inr z
  refine ⟨upd A j (l::B'),?_⟩;refine I.put le (j:=j) (l:=l) (xs:=xs) (by rw[hA];simp) _ ?_ ?_ ?_ ?_ (by simp) rfl (live _ (λk hk=>zn hk) ds') ?_
  .intro k x hx;by_cases e:k=j
   .subst e;rw[zp] at hx;rcases sub x hx with z | z
    .exact .inl ⟨k,z⟩
    .exact .inr z
   .rw[zn e] at hx;exact .inl ⟨k,hx⟩
  .intro k;by_cases e:k=j
   .subst e;rw[zp];exact List.nodup_cons.mpr ⟨hlB,nb⟩
   .rw[zn e];exact I.nd k
  .intro i k x h1 h2;by_cases e:i=j
   .by_cases f:k=j
    .rw[e,f]
    .rw[e,zp] at h1;rw[zn f] at h2;rcases sub x h1 with z | z
     .rw[e];exact I.dj j k x z h2
     .have:=(I.bd k x h2).2;lia
   .rw[zn e] at h1;by_cases f:k=j
    .rw[f,zp] at h2;rcases sub x h2 with z | z
     .rw[f];exact I.dj i j x h1 z
     .have:=(I.bd i x h1).2;lia
    .rw[zn f] at h2;exact I.dj i k x h1 h2
  .intro k x hx;by_cases e:k=j
   .rw[e,zp] at hx;rcases List.mem_cons.mp hx with rfl | hx
    .exact ⟨(I.bd j _ (by rw[hA];simp)).1,Nat.lt_of_lt_of_le hlm le.len⟩
    .refine ⟨?_,OwnL.lt ds' ys B' o x hx⟩;rcases hB x hx with z | z
     .exact (I.bd j x (by rw[hA];exact List.mem_cons_of_mem _ z)).1
     .exact Nat.le_trans I.lom z
   .rw[zn e] at hx;exact ⟨(I.bd k x hx).1,Nat.lt_of_lt_of_le (I.bd k x hx).2 le.len⟩
  .intro d lj h1 h2;rw[List.getElem?_set,if_pos rfl,if_pos hjl] at h1;cases h1;rw[hl] at h2;cases h2;refine ⟨_,a,?_⟩;rw[zp];exact own_lst.mpr ⟨l,ys,B',rfl,rfl,wl (le l _ hm),OwnL.frame ds' ys B' (λx hx o z=>by rw[xf (l:=l) (x:=x) (λe=>hlB (by rw[e];exact hx))];exact z) o⟩
theorem OwnL.item {m:Me}:∀ {ds:List Dat}{xs:List Wd}{A:List Nat}{p:Nat}{d:Dat},OwnL m ds xs A->ds[p]?=some d->∃x B,(xs[p]?=some x/\Own m d x B)/\∀b∈B,b∈A
 | [],xs,A,p,d,h,z=>by simp at z
 | e::ds,xs,A,0,d,h,z=>by
  obtain ⟨x,r,B,C,rfl,rfl,a,b⟩:=h.cons_inv;simp at z;subst z;exact ⟨x,B,⟨rfl,a⟩,λb hb=>List.mem_append_left _ hb⟩
 | e::ds,xs,A,p+1,d,h,z=>by
  obtain ⟨x,r,B,C,rfl,rfl,a,b⟩:=h.cons_inv;obtain ⟨y,D,h1,h2⟩:=OwnL.item b (by simpa using z);exact ⟨y,D,by simpa using h1,λb hb=>List.mem_append_right _ (h2 b hb)⟩
theorem zaP {RR:Nat->Prop}{A:Nat->List Nat}{m m1:Me}{ds:List Dat}{xs:List Wd}{d:Dat}{w:Wd}{B0:List Nat}(le:Le m m1)(o:Own m1 d w B0)(nd:B0.Nodup)(hB:∀b∈B0,m.length<=b):Chg RR A m m1 ds xs (ds++[d]) (xs++[w]):=by
 refine ⟨λB nb q=>⟨B++(B0++[]),(OwnL.frame ds xs B (λl _ o z=>le l o z) q).app (.cons o .nil),?_,?_⟩,λq=>?_⟩
 .rw[List.append_nil];refine List.nodup_append.mpr ⟨nb,nd,λx hx y hy e=>?_⟩;have:=OwnL.lt ds xs B q x hx;have:=hB y hy;lia
 .intro b hb;rw[List.append_nil] at hb;rcases List.mem_append.mp hb with z | z
  .exact .inl z
  .exact .inr (hB b z)
 .exact (RepL.frame (λl o r z=>⟨.inl r,le l o z⟩) _ _ q).app (.cons (Own.rep d w B0 (λb hb=>.inr (hB b hb)) o) .nil)
theorem OwnL.rev {m:Me}:∀ {ds:List Dat}{xs:List Wd}{A:List Nat},A.Nodup->OwnL m ds xs A->∃B,OwnL m ds.reverse xs.reverse B/\B.Nodup/\∀b∈B,b∈A
 | [],xs,A,nd,h=>by rw[h.nil_inv.1];exact ⟨[],.nil,List.nodup_nil,by simp⟩
 | d::ds,xs,A,nd,h=>by
  obtain ⟨x,r,B,C,rfl,rfl,a,b⟩:=h.cons_inv;obtain ⟨n1,n2,n3⟩:=List.nodup_append.mp nd;obtain ⟨D,o,nD,hD⟩:=OwnL.rev n2 b;rw[List.reverse_cons,List.reverse_cons];refine ⟨D++(B++[]),o.app (.cons a .nil),?_,?_⟩
  .rw[List.append_nil];exact List.nodup_append.mpr ⟨nD,n1,λx hx y hy e=>n3 y hy x (hD x hx) e.symm⟩
  .intro b hb;simp only[List.append_nil,List.mem_append] at hb ⊢;rcases hb with z | z
   .exact .inr (hD b z)
   .exact .inl z
theorem chg_rev {RR:Nat->Prop}{A:Nat->List Nat}{m:Me}{ds:List Dat}{xs:List Wd}:Chg RR A m m ds xs ds.reverse xs.reverse:=by
 refine ⟨λB nb q=>?_,λq=>(RepL.frame (λl o r z=>⟨.inl r,z⟩) _ _ q).rev⟩;obtain ⟨D,o,nD,hD⟩:=OwnL.rev nb q;exact ⟨D,o,nD,λb hb=>.inl (hD b hb)⟩
theorem zc6 {RR:Nat->Prop}{A:Nat->List Nat}{m m1:Me}{ds:List Dat}{xs:List Wd}{d:Dat}{w:Wd}{B0:List Nat}(le:Le m m1)(o:Own m1 d w B0)(nd:B0.Nodup)(hB:∀b∈B0,m.length<=b):Chg RR A m m1 ds xs (d::ds) (w::xs):=by
 refine ⟨λB nb q=>⟨B0++B,.cons o (OwnL.frame ds xs B (λl _ o z=>le l o z) q),?_,?_⟩,λq=>?_⟩
 .refine List.nodup_append.mpr ⟨nd,nb,λx hx y hy e=>?_⟩;have:=OwnL.lt ds xs B q y hy;have:=hB x hx;lia
 .intro b hb;rcases List.mem_append.mp hb with z | z
  .exact .inr (hB b z)
  .exact .inl z
 .exact .cons (Own.rep d w B0 (λb hb=>.inr (hB b hb)) o) (RepL.frame (λl o r z=>⟨.inl r,le l o z⟩) _ _ q)
theorem g9 {RR:Nat->Prop}{A:Nat->List Nat}{m:Me}{ds:List Dat}{xs:List Wd}{d:Dat}{w:Wd}:Chg RR A m m (d::ds) (w::xs) ds xs:=by
 refine ⟨λB nb q=>?_,λq=>?_⟩
 .obtain ⟨x,r,B1,C,e,rfl,a,b⟩:=q.cons_inv;cases e;exact ⟨C,b,(List.nodup_append.mp nb).2.1,λb hb=>.inl (List.mem_append_right _ hb)⟩
 .obtain ⟨x,r,e,a,b⟩:=q.cons_inv;cases e;exact RepL.frame (λl o r z=>⟨.inl r,z⟩) _ _ b
theorem zc7 {R:Nat->Prop}{m:Me}{ds:List Dat}{xs:List Wd}{l:Nat}{e:Dat}{y:Wd}(h:RepL R m ds xs)(hm:m[l]?=some (.lst xs))(b:Rep R m e y):SimE R m (kF (.ref l) y m) (yk (.lst ds) e):=by
 cases e with
 | int i =>
  rw[rep_int.mp b];simp only[yk,kF,wD,xA,zK,hm];cases z:(ix ds.length i).bind λj=>ds[j]? with
  | none=>exact SimE.no
  | some v =>
   obtain ⟨j,h1,h2⟩:=Option.bind_eq_some_iff.mp z;obtain ⟨x,h3,p⟩:=h.get h2;rw[h.len] at h1;simp only[h1,Option.bind_some,h3];exact zjP p
 | _=>exact SimE.no
theorem ke {lo:Nat}{RR:Nat->Prop}{m:Me}{de:DEn}{lv:List Lv}{env:En}{A:Nat->List Nat}(I:Inv lo RR m de lv env A){vs:List Nat}(h:∀i∈vs,∀l,lv[i]?=some l->l=.no):EnvR (xk RR A) m vs de env :=
 ⟨I.len,λi hi d hd=>by
  obtain ⟨l,hl⟩:=I.getlv hd;obtain ⟨w,a,b⟩:=I.slot i d l hd hl;rw[h i hi l hl] at b;exact ⟨w,a,b.1⟩⟩
theorem zaQ (de:DEn)(j:Nat)(lv:List Lv){k:Nat}(h:k≠j):(topD de j lv)[k]?=lv[k]?:=by
 have q:∃l,topD de j lv=lv.set j l:=by
  unfold topD;generalize de[j]?=p;generalize lv[j]?=q;cases p with
  | none=>exact ⟨_,rfl⟩
  | some o =>
   cases o with
   | none=>exact ⟨_,rfl⟩
   | some d =>
    cases d with
    | lst ds =>
     cases q with
     | none=>exact ⟨_,rfl⟩
     | some l=>cases l <;> exact ⟨_,rfl⟩
    | _=>exact ⟨_,rfl⟩
 obtain ⟨l,e⟩:=q;rw[e];exact List.getElem?_set_ne (Ne.symm h)
set_option tactic.hygienic true in
theorem ze2 (e:Ex)(de:DEn)(lv:List Lv){k:Nat}(h:k∉zA e):(y6 e de lv)[k]?=lv[k]?:=by
 have gen:∀vs,k∉vs->(downs vs lv)[k]?=lv[k]?:=λvs h=>by rw[xZ,if_neg (λz=>h z.1)]
 cases e with
 | idx o b =>
  cases o with
  | var j =>
   replace h:k∉j::zA b:=h
   rw[List.mem_cons,not_or] at h;show (topD de j (downs (zA b) lv))[k]?=_;rw[zaQ _ _ _ h.1,gen _ h.2]
  | _=>exact gen _ h
 | _=>exact gen _ h
set_option tactic.hygienic true in
theorem Inv.topD {lo:Nat}{RR:Nat->Prop}{m:Me}{de:DEn}{lv:List Lv}{env:En}{A:Nat->List Nat}(I:Inv lo RR m de lv env A)(j:Nat):
  ∃A',Inv lo RR m de (topD de j lv) env A'/\Keep A m A' m/\(∀i,i≠j->A' i=A i)/\((∃ds l xs,de[j]?=some (some (.lst ds))/\A' j=[l]/\env[j]?=some (some (.ref l))/\m[l]?=some (.lst xs)/\RepL (xk RR A') m ds xs)\/((Vl.topD de j lv)[j]?=some .no\/lv.length<=j)):=by
 by_cases h:(∃ds,de[j]?=some (some (.lst ds)))/\yi lv j=true
 .obtain ⟨⟨ds,hd⟩,ho⟩:=h;obtain ⟨l,xs,A',I',K,h1,h2,h3,h4,h5,_⟩:=I.top j hd ho;have:Vl.topD de j lv=lv.set j .top:=by
   unfold Vl.topD;rw[hd];unfold yi at ho;cases z:lv[j]? with
   | none=>rw[z] at ho;simp at ho
   | some l=>rw[z] at ho;cases l <;> simp at ho ⊢
  rw[this];exact ⟨A',I',K,h2,.inl ⟨ds,l,xs,hd,h1,h3,h4,h5⟩⟩
 .obtain ⟨I',K⟩:=I.down j;have:Vl.topD de j lv=lv.set j .no:=by
   unfold Vl.topD;split
   .next ds hd hl=>exact absurd ⟨⟨ds,hd⟩,by unfold yi;rw[hl]⟩ h
   .next ds hd hl=>exact absurd ⟨⟨ds,hd⟩,by unfold yi;rw[hl]⟩ h
   .rfl
  rw[this];refine ⟨_,I',K,λi hi=>zn hi,.inr ?_⟩;by_cases z:j < lv.length
  .left;rw[List.getElem?_set,if_pos rfl,if_pos z]
  .right;lia
set_option tactic.hygienic true in
theorem Inv.relEv {lev:Nat->Lv}{cl:Nat->List Wd->Me->Rz}{cd:Nat->List Dat->Rd}(H:CallO lev cl cd){lo:Nat}{RR:Nat->Prop}{m:Me}{de:DEn}{lv:List Lv}{env:En}{A:Nat->List Nat}(I:Inv lo RR m de lv env A)(e:Ex):
  ∃A',Inv lo RR m de (y6 e de lv) env A'/\Keep A m A' m/\(∀k,k∉zA e->A' k=A k)/\SimO (xk RR A') m (lvE lev e) (evE cl e env m) (evD cd e de):=by
 have gen:y6 e de lv=Vl.downs (zA e) lv->∃A',Inv lo RR m de (y6 e de lv) env A'/\Keep A m A' m/\(∀k,k∉zA e->A' k=A k)/\SimO (xk RR A') m (lvE lev e) (evE cl e env m) (evD cd e de):=by
  intro h;rw[h];obtain ⟨A',I',K,h1,_,h3⟩:=Inv.downs (zA e) I;refine ⟨A',I',K,h3,xS H e _ m de env (ke I' λi hi l hl=>?_)⟩;rw[xZ] at hl;split at hl
  .cases hl;rfl
  .next z=>rw[List.getElem?_eq_none (by have:¬ i < lv.length:=λq=>z ⟨hi,q⟩;lia)] at hl;cases hl
 cases e with
 | idx a b =>
  cases a with
  | var j =>
   show ∃A',Inv lo RR m de (Vl.topD de j (Vl.downs (zA b) lv)) env A'/\_;obtain ⟨A1,I1,K1,h1,h2,h3⟩:=Inv.downs (zA b) I;obtain ⟨A2,I2,K2,g1,g2⟩:=I1.topD j;have hne:∀k,k∉zA (.idx (.var j) b)->A2 k=A k:=by
    intro k hk
    replace hk:k∉j::zA b:=hk
    rw[List.mem_cons,not_or] at hk;rw[g1 k hk.1,h3 k hk.2]
   refine ⟨A2,I2,K1.trans K2,hne,?_⟩;have lvno:∀i,i∈zA b->i≠j->∀l,(Vl.topD de j (Vl.downs (zA b) lv))[i]?=some l->l=.no:=by
    intro i hi hij l hl;rw[zaQ _ _ _ hij,xZ] at hl;split at hl
    .cases hl;rfl
    .next z=>rw[List.getElem?_eq_none (by have:¬ i < lv.length:=λq=>z ⟨hi,q⟩;lia)] at hl;cases hl
   rcases g2 with ⟨ds,l,xs,hd,hA,he,hm,hr⟩ | g2
   .have hjb:j∉zA b:=λz=>by
     have h0:=h1 j z;have hx:l∈A1 j:=by
      have i1:=I1;by_cases q:l∈A1 j
      .exact q
      .exfalso;have:=(K2.1 l _ (λk hk=>?_) hm).1 j
       .rw[hA] at this;exact this (by simp)
       .by_cases ek:k=j
        .rw[ek] at hk;exact q hk
        .have e1:=g1 k ek;rw[<- e1] at hk;exact ek (I2.dj k j l hk (by rw[hA];simp))
     rw[h0] at hx;cases hx
    refine SimE.own ?_ (λd=>rfl);show SimE _ m ((evE cl (.var j) env m).bind λx m1=>(evE cl b env m1).bind λy m2=>kF x y m2) ((evD cd (.var j) de).bind λx=>(evD cd b de).bind λy=>yk x y);have e1:evE cl (.var j) env m=.ok (.ref l) m:=kS he m;have e2:evD cd (.var j) de=.ok (.lst ds):=xF hd;rw[e1,e2];simp only[Rz.bind,Rd.bind];refine (zj H.r b _ m de env (ke I2 λi hi=>lvno i hi (λe=>hjb (by rw[<- e];exact hi)))).bind λd2 w2 m2 l2 k2=>?_;exact zc7 (hr.up _ l2) (l2 l _ hm) k2
   .refine xS H _ _ m de env (ke I2 λi hi l hl=>?_)
    replace hi:i∈j::zA b:=hi
    rw[List.mem_cons] at hi;by_cases e:i=j
    .rw[e] at hl;rcases g2 with g2 | g2
     .rw[g2] at hl;cases hl;rfl
     .have:(Vl.topD de j (Vl.downs (zA b) lv)).length=(Vl.downs (zA b) lv).length:=by rw[I2.lvl,I1.lvl]
      rw[List.getElem?_eq_none (by lia)] at hl;cases hl
    .rcases hi with z | z
     .exact absurd z e
     .exact lvno i z e l hl
  | _=>exact gen rfl
 | _=>exact gen rfl
def SimS (lo:Nat)(RR:Nat->Prop)(A:Nat->List Nat)(m:Me)(r:Rs)(rd:Rsd):Prop:=match rd with
 | .next de lv=>∃env m' A',r=.next env m'/\Inv lo RR m' de lv env A'/\Keep A m A' m'
 | .brk de lv=>∃env m' A',r=.brk env m'/\Inv lo RR m' de lv env A'/\Keep A m A' m'
 | .cont de lv=>∃env m' A',r=.cont env m'/\Inv lo RR m' de lv env A'/\Keep A m A' m'
 | .ret d l=>∃w m' B,r=.ret w m'/\((∀ (x:Nat) o,(∀i,x∉A i)->m[x]?=some o->m'[x]?=some o)/\m.length<=m'.length)/\RepO (λx=>RR x/\x∉B) m' l d w B/\B.Nodup/\∀b∈B,lo<=b
 | .exc c d=>∃w e m',r=.exc c w e m'/\((∀ (x:Nat) o,(∀i,x∉A i)->m[x]?=some o->m'[x]?=some o)/\m.length<=m'.length)/\Rep RR m' d w
 | .no=>True
set_option tactic.hygienic true in
theorem SimS.keep {lo:Nat}{RR:Nat->Prop}{A A1:Nat->List Nat}{m m1:Me}{r:Rs}{rd:Rsd}(K:Keep A m A1 m1)(h:SimS lo RR A1 m1 r rd):SimS lo RR A m r rd:=by
 cases rd with
 | next de lv=>obtain ⟨e,m',A',h,I,k⟩:=h;exact ⟨e,m',A',h,I,K.trans k⟩
 | brk de lv=>obtain ⟨e,m',A',h,I,k⟩:=h;exact ⟨e,m',A',h,I,K.trans k⟩
 | cont de lv=>obtain ⟨e,m',A',h,I,k⟩:=h;exact ⟨e,m',A',h,I,K.trans k⟩
 | ret d l=>obtain ⟨w,m',B,h,k,z⟩:=h;exact ⟨w,m',B,h,⟨λx o a b=>k.1 x o (K.1 x o a b).1 (K.1 x o a b).2,Nat.le_trans K.2 k.2⟩,z⟩
 | exc c d=>obtain ⟨w,e,m',h,k,z⟩:=h;exact ⟨w,e,m',h,⟨λx o a b=>k.1 x o (K.1 x o a b).1 (K.1 x o a b).2,Nat.le_trans K.2 k.2⟩,z⟩
 | no=>trivial
theorem Inv.rf {lo:Nat}{RR:Nat->Prop}{m m':Me}{de:DEn}{lv:List Lv}{env:En}{A:Nat->List Nat}(I:Inv lo RR m de lv env A){d:Dat}{w:Wd}(h:Rep (Rf RR m.length) m' d w):Rep RR m' d w :=
 Rep.frame (λx o r z=>⟨by rcases r with r | r;exact r;exact I.rr x (Nat.le_trans I.lom r),z⟩) d w h
theorem Inv.bindE {cl:Nat->List Wd->Me->Rz}{cd:Nat->List Dat->Rd}(H:CallR cl cd){lo:Nat}{RR:Nat->Prop}{m:Me}{de:DEn}{lv:List Lv}{env:En}{A:Nat->List Nat}(I:Inv lo RR m de lv env A)(e:Ex){f:Wd->Me->Rs}{g:Dat->Rsd}
  (k:∀d w m1,evD cd e de=.ok d->evE cl e env m=.ok w m1->Le m m1->Rep RR m1 d w->SimS lo RR A m1 (f w m1) (g d)):SimS lo RR A m ((evE cl e env m).bindS env f) ((evD cd e de).bindS g):=by
 have h:=zj H e RR m de env (I.envR _);cases z:evD cd e de with
 | no=>trivial
 | exc c d =>
  rw[z] at h;obtain ⟨w,m',h,l,r⟩:=h;rw[h];exact ⟨w,env,m',rfl,⟨λx o _ b=>l x o b,l.len⟩,I.rf r⟩
 | ok d =>
  rw[z] at h;obtain ⟨w,m',h,l,r⟩:=h;have:=k d w m' z h l (I.rf r);rw[h];exact SimS.keep (vj l) this
theorem Inv.own {lev:Nat->Lv}{cl:Nat->List Wd->Me->Rz}{cd:Nat->List Dat->Rd}(H:CallO lev cl cd){lo:Nat}{RR:Nat->Prop}{m m1:Me}{de:DEn}{lv:List Lv}{env:En}{A:Nat->List Nat}(I:Inv lo RR m de lv env A){e:Ex}{d:Dat}{w:Wd}(h1:evD cd e de=.ok d)(h2:evE cl e env m=.ok w m1):
  ∃B,RepO (λx=>RR x/\x∉B) m1 (lvE lev e d) d w B/\B.Nodup/\∀b∈B,m.length<=b:=by
 have h:=xS H e RR m de env (I.envR _);rw[h1] at h;obtain ⟨w',m',B,h3,l,r,nd,hB⟩:=h;rw[h2] at h3;cases h3;exact ⟨B,r.frame (λx o r z=>⟨⟨by rcases r.1 with r | r;exact r;exact I.rr x (Nat.le_trans I.lom r),r.2⟩,z⟩) (λ_ _ _ z=>z),nd,hB⟩
section
variable {lev:Nat->Lv}{cl:Nat->List Wd->Me->Rz}{cd:Nat->List Dat->Rd}{lo:Nat}{RR:Nat->Prop}{m:Me}{de:DEn}{lv:List Lv}{env:En}{A:Nat->List Nat}
set_option tactic.hygienic true in
theorem wm {j:Nat}{ds:List Dat}(h:xo de j=some ds):de[j]?=some (some (.lst ds)):=by
 unfold xo at h;split at h
 .next z=>cases h;exact z
 .cases h
theorem zhc {m:Me}{l p:Nat}{xs:List Wd}{k:Int}{w:Wd}(hm:m[l]?=some (.lst xs))(hk:ix xs.length k=some p)(hp:xs[p]?=some w):kF (.ref l) (.int k) m=.ok w m:=by
 simp[kF,xA,zK,hm,hk,hp]
theorem wG {j:Nat}{w:Wd}(h:env[j]?=some (some w))(m:Me):evE cl (.var j) env m=.ok w m:=by
 exact kS h m
theorem ze3 (H:CallO lev cl cd)(I:Inv lo RR m de lv env A)(i:Nat)(e:Ex):SimS lo RR A m (exS cl (.asg i e) env m) (exD lev cd (.asg i e) de lv):=by
 have h:SimS lo RR A m ((evE cl e env m).bindS env λw m1=>.next (env.set i (some w)) m1) ((evD cd e de).bindS λd=>xY lev i e d de lv):=by
  cases z:evD cd e de with
  | no=>trivial
  | exc c d =>
   have:=I.bindE H.r e (f:=λw m1=>.next (env.set i (some w)) m1) (g:=λd=>.no) (λ_ _ _ _ _ _ _=>trivial);rw[z] at this;exact this
  | ok d =>
   show SimS lo RR A m _ (xY lev i e d de lv);unfold xY;by_cases f:lvE lev e d=.full
   .rw[if_pos f];have h:=xS H e RR m de env (I.envR _);rw[z] at h;obtain ⟨w,m1,B,h2,l,r,nd,hB⟩:=h;rw[h2];rw[f] at r;obtain ⟨I',K⟩:=I.store l i (l:=.full) (d:=d) (w:=w) (B:=B) r nd hB;exact ⟨_,_,_,rfl,I',K⟩
   .rw[if_neg f];obtain ⟨A1,I1,K1,_,h⟩:=I.relEv H e;rw[z] at h;obtain ⟨w,m1,B,h2,l,r,nd,hB⟩:=h;rw[h2];obtain ⟨I',K⟩:=I1.store l i (l:=lvE lev e d) (d:=d) (w:=w) (B:=B) r nd hB;exact ⟨_,_,_,rfl,I',K1.trans K⟩
 exact h
set_option tactic.hygienic true in
theorem qc (H:CallO lev cl cd)(I:Inv lo RR m de lv env A){e:Ex}{d:Dat}{w:Wd}{m1:Me}{j:Nat}{ds:List Dat}{de1:DEn}{lv1:List Lv}(hd:de[j]?=some (some (.lst ds)))(h1:evD cd e de=.ok d)(h2:evE cl e env m=.ok w m1)(l1:Le m m1){m2:Me}(l2:Le m1 m2)
  (g:xc lev e d j de lv=some (de1,lv1)) (F:List Dat->Dat->List Dat) (G:List Wd->Wd->List Wd)
  (cF:∀ (m m1:Me) (A:Nat->List Nat) (ds:List Dat) (xs:List Wd) (d:Dat) (w:Wd) (B0:List Nat),Le m m1->Own m1 d w B0->B0.Nodup->(∀b∈B0,m.length<=b)->Chg RR A m m1 ds xs (F ds d) (G xs w))
  (cM:∀ (m:Me) (ds:List Dat) (xs:List Wd) (d:Dat) (w:Wd) (B B0:List Nat),(B++B0).Nodup->OwnL m ds xs B->Own m d w B0->∃B',OwnL m (F ds d) (G xs w) B'/\B'.Nodup/\∀b∈B',b∈B\/b∈B0)
  (cT:∀ (R:Nat->Prop) (m:Me) (ds:List Dat) (xs:List Wd) (d:Dat) (w:Wd),RepL R m ds xs->Rep R m d w->RepL R m (F ds d) (G xs w)) :
  ∃l xs,env[j]?=some (some (.ref l))/\m2[l]?=some (.lst xs)/\ds.length=xs.length/\∃A',Inv lo RR (m2.set l (.lst (G xs w))) (de1.set j (some (.lst (F ds d)))) lv1 env A'/\Keep A m A' (m2.set l (.lst (G xs w))):=by
 have l12:=l1.trans l2;unfold xc at g;split at g
 .cases g
 .next ho =>
  have ho:yi lv j=true:=by simpa using ho
  split at g
  .next f =>
   cases g;obtain ⟨B,r,nd,hB⟩:=I.own H h1 h2;rw[f] at r;obtain ⟨l,xs,he,hm,hr,put⟩:=I.mut hd ho;have r':Own m2 d w B:=Own.frame d w B (λx _ o z=>l2 x o z) r;refine ⟨l,xs,he,l12 l _ hm,hr.len,put m2 _ _ l12 (λ_=>(cF m m2 A ds xs d w B l12 r' nd hB).1) (λ_=>(cF m m2 A ds xs d w B l12 r' nd hB).2)⟩
  .next f =>
   split at g
   .cases g
   .next hj =>
    have share:lv1=(y6 e de lv).set j .top->de1=de->∃l xs,env[j]?=some (some (.ref l))/\m2[l]?=some (.lst xs)/\ds.length=xs.length/\∃A',Inv lo RR (m2.set l (.lst (G xs w))) (de1.set j (some (.lst (F ds d)))) lv1 env A'/\Keep A m A' (m2.set l (.lst (G xs w))):=by
     rintro rfl rfl;obtain ⟨A1,I1,K1,hA1,h⟩:=I.relEv H e;rw[h1] at h;have ho1:yi (y6 e de1 lv) j=true:=by unfold yi;rw[ze2 e _ _ hj];exact ho
     obtain ⟨l,xs,A2,I2,K2,g1,g2,he,hm,hr,hlA⟩:=I1.top j hd ho1;have hs:=h.sim;obtain ⟨w',m',h3,_,rw0⟩:=hs;rw[h2] at h3;cases h3;have hjl:j < (y6 e de1 lv).length:=by rw[I1.lvl];exact (List.getElem?_eq_some_iff.mp hd).1
     have ho2:yi ((y6 e de1 lv).set j .top) j=true:=by unfold yi;rw[List.getElem?_set,if_pos rfl,if_pos hjl]
     have hlv:((y6 e de1 lv).set j .top)[j]?=some .top:=by rw[List.getElem?_set,if_pos rfl,if_pos hjl]
     obtain ⟨l',xs',he',hm',_,put⟩:=I2.mut hd ho2;rw[he] at he';cases he';rw[hm] at hm';cases hm';obtain ⟨A3,I3,K3⟩:=put m2 (F ds d) (G xs w) l12 (λz=>by rw[hlv] at z;cases z) (λ_ q=>by
      refine cT _ m2 ds xs d w (RepL.frame (λx o r z=>⟨.inl r,l12 x o z⟩) _ _ q) (Rep.frame (λx o r z=>⟨?_,l2 x o z⟩) _ _ rw0);rcases r with r | r
      .left
       refine ⟨r.1,λk hk=>?_⟩;by_cases ek:k=j
       .rw[ek,g1] at hk;rw[List.mem_singleton.mp hk] at r;exact r.2 j hlA
       .rw[g2 k ek] at hk;exact r.2 k hk
      .exact .inr r)
     exact ⟨l,xs,he,l12 l _ hm,hr.len,A3,I3,(K1.trans K2).trans K3⟩
    split at g
    .next i =>
     split at g
     .next hfull =>
      cases g;have hij:i≠j:=λe=>hj (by rw[e];exact List.mem_singleton.mpr rfl)
      -- the move
      have hdi:de[i]?=some (some d):=by
       exact zaI h1
      obtain ⟨wi,hei,ri⟩:=I.slot i d .full hdi hfull.1;have:evE cl (.var i) env m=.ok wi m:=wG hei m;rw[this] at h2;cases h2;obtain ⟨wj,hej,rj⟩:=I.slot j _ .full hd hfull.2;obtain ⟨l,xs,B,rfl,hA,hm,r⟩:=own_lst.mp rj;have hlm:=(List.getElem?_eq_some_iff.mp hm).1;have nd:=I.nd j;rw[hA] at nd;obtain ⟨n0,n1⟩:=List.nodup_cons.mp nd;have nBi:(B++A i).Nodup:=List.nodup_append.mpr ⟨n1,I.nd i,λx hx y hy e=>by
       subst e;exact hij (I.dj i j x hy (by rw[hA];exact List.mem_cons_of_mem _ hx))⟩
      obtain ⟨B',o,nB',hB'⟩:=cM m ds xs d w B (A i) nBi r ri;have lB':l∉B':=λz=>by
       rcases hB' l z with q | q
       .exact n0 q
       .exact hij (I.dj i j l q (by rw[hA];simp))
      have sub:∀x∈l::B',x∈A j\/x∈A i:=by
       intro x hx;rcases List.mem_cons.mp hx with rfl | hx
       .left;rw[hA];simp
       .rcases hB' x hx with q | q
        .left;rw[hA];exact List.mem_cons_of_mem _ q
        .exact .inr q
      have hjl:j < de.length:=(List.getElem?_eq_some_iff.mp hd).1;have hil:i < de.length:=(List.getElem?_eq_some_iff.mp hdi).1;have ui:upd (upd A i []) j (l::B') i=[]:=by rw[zn hij,zp]
      have uo:∀k,k≠i->k≠j->upd (upd A i []) j (l::B') k=A k:=λk a b=>by rw[zn b,zn a]
      have ll2:=l2.len;refine ⟨l,xs,hej,l2 l _ hm,r.len,upd (upd A i []) j (l::B'),?_⟩;refine I.put l2 (j:=j) (l:=l) (xs:=xs) (by rw[hA];simp) _ ?_ ?_ ?_ ?_ (by simp) rfl ?_ ?_
      .intro k x hx
       left
       by_cases e:k=j
       .rw[e,zp] at hx;rcases sub x hx with q | q
        .exact ⟨j,q⟩
        .exact ⟨i,q⟩
       .by_cases f:k=i
        .rw[f,ui] at hx;cases hx
        .rw[uo k f e] at hx;exact ⟨k,hx⟩
      .intro k;by_cases e:k=j
       .rw[e,zp];exact List.nodup_cons.mpr ⟨lB',nB'⟩
       .by_cases f:k=i
        .rw[f,ui];simp
        .rw[uo k f e];exact I.nd k
      .have main:∀k x,k≠j->x∈l::B'->x∈upd (upd A i []) j (l::B') k->False:=by
        intro k x e hx hk;by_cases f:k=i
        .rw[f,ui] at hk;cases hk
        .rw[uo k f e] at hk;rcases sub x hx with q | q
         .exact e (I.dj k j x hk q)
         .exact f (I.dj k i x hk q)
       intro a b x ha hb;by_cases e:a=j
       .by_cases f:b=j
        .rw[e,f]
        .rw[e,zp] at ha;exact (main b x f ha hb).elim
       .by_cases f:b=j
        .rw[f,zp] at hb;exact (main a x e hb ha).elim
        .by_cases g:a=i
         .rw[g,ui] at ha;cases ha
         .by_cases h:b=i
          .rw[h,ui] at hb;cases hb
          .rw[uo a g e] at ha;rw[uo b h f] at hb;exact I.dj a b x ha hb
      .intro k x hx;by_cases e:k=j
       .rw[e,zp] at hx;rcases sub x hx with q | q
        .exact ⟨(I.bd j x q).1,Nat.lt_of_lt_of_le (I.bd j x q).2 ll2⟩
        .exact ⟨(I.bd i x q).1,Nat.lt_of_lt_of_le (I.bd i x q).2 ll2⟩
       .by_cases f:k=i
        .rw[f,ui] at hx;cases hx
        .rw[uo k f e] at hx;exact ⟨(I.bd k x hx).1,Nat.lt_of_lt_of_le (I.bd k x hx).2 ll2⟩
      .intro k d' lk e g1 g2;rw[List.getElem?_set_ne (Ne.symm e)] at g1;by_cases f:k=i
       .rw[f,List.getElem?_set,if_pos rfl,if_pos hil] at g1;cases g1
       .rw[List.getElem?_set_ne (Ne.symm f)] at g1;exact ⟨g1,g2,uo k f e⟩
      .intro d' lj g1 g2;rw[List.getElem?_set,if_pos rfl,if_pos (by simpa using hjl)] at g1;cases g1;rw[hfull.2] at g2;cases g2;refine ⟨_,hej,?_⟩;rw[zp];exact own_lst.mpr ⟨l,_,B',rfl,rfl,wl (l2 l _ hm),OwnL.frame _ _ B' (λx hx o z=>by rw[xf (l:=l) (x:=x) (λe=>lB' (by rw[e];exact hx))];exact l2 x o z) o⟩
     .cases g;exact share rfl rfl
    .cases g;exact share rfl rfl
end
section
variable {lev:Nat->Lv}{cl:Nat->List Wd->Me->Rz}{cd:Nat->List Dat->Rd}{lo:Nat}{RR:Nat->Prop}{m:Me}{de:DEn}{lv:List Lv}{env:En}{A:Nat->List Nat}
theorem qX {n:Mth}{o e:Ex}{x w:Wd}{m1 m2:Me}(h1:evE cl o env m=.ok x m1)(h2:evE cl e env m1=.ok w m2)(hl:yU x m1=true:=by simp only[yU,isLst];simp_all):evE cl (.meth n o (.pair e .unit)) env m=mtR n x [w] m2:=by
 show (evE cl o env m).bind (λx m1=>match yU x m1 with | true=>((evE cl e env m1).bind λa m2=>.ok (.tup [a]) m2).bind λy m2=>mtR n x (zL y) m2 | false=>.no)=_;rw[h1];show (match yU x m1 with | true=>((evE cl e env m1).bind λa m2=>.ok (.tup [a]) m2).bind λy m2=>mtR n x (zL y) m2 | false=>.no)=_;rw[hl,h2];rfl
theorem ze4 {n:Mth}{o:Ex}{x:Wd}{m1:Me}(h1:evE cl o env m=.ok x m1)(hl:yU x m1=true:=by simp only[yU,isLst];simp_all):evE cl (.meth n o .unit) env m=mtR n x [] m1:=by
 show (evE cl o env m).bind (λx m1=>match yU x m1 with | true=>mtR n x [] m1 | false=>.no)=_;rw[h1];show (match yU x m1 with | true=>mtR n x [] m1 | false=>.no)=_;rw[hl]
theorem ze5 {m:Me}{ds:List Dat}{xs:List Wd}{d:Dat}{w:Wd}{B B0:List Nat}(n:(B++B0).Nodup)(a:OwnL m ds xs B)(b:Own m d w B0):∃B',OwnL m (ds++[d]) (xs++[w]) B'/\B'.Nodup/\∀b∈B',b∈B\/b∈B0 :=
 ⟨B++(B0++[]),a.app (.cons b .nil),by simpa using n,λx hx=>by simpa using hx⟩
theorem SimS.okS {r:Rs}{rd:Rd}{g:Dat->Rsd}(h:∀d,rd=.ok d->SimS lo RR A m r (g d)):SimS lo RR A m r (rd.okS g):=by
 cases rd with
 | ok d=>exact h d rfl
 | _=>trivial
theorem Inv.ok (H:CallR cl cd)(I:Inv lo RR m de lv env A){e:Ex}{d:Dat}(h:evD cd e de=.ok d){m1:Me}(l:Le m m1):∃w m2,evE cl e env m1=.ok w m2/\Le m1 m2/\Rep RR m2 d w:=by
 have q:=zj H e RR m1 de env ((I.ext l).envR _);rw[h] at q;obtain ⟨w,m2,a,b,c⟩:=q;exact ⟨w,m2,a,b,(I.ext l).rf c⟩
theorem Inv.isRef (I:Inv lo RR m de lv env A){j:Nat}{ds:List Dat}{w:Wd}(hd:de[j]?=some (some (.lst ds)))(he:env[j]?=some (some w)):yU w m=true:=by
 obtain ⟨lj,hl⟩:=I.getlv hd;obtain ⟨w',a,b⟩:=I.slot j _ lj hd hl;rw[he] at a;cases a;obtain ⟨l,xs,rfl,_,hm,_⟩:=rep_lst.mp (b.rep (R':=λ_=>True) (λ_ _=>trivial) (λ_ _=>trivial));simp[yU,isLst,hm]
set_option tactic.hygienic true in
theorem zc8 (H:CallO lev cl cd)(I:Inv lo RR m de lv env A)(j:Nat)(e:Ex):SimS lo RR A m (exS cl (.expr (.meth .append (.var j) (.pair e .unit))) env m) (exD lev cd (.expr (.meth .append (.var j) (.pair e .unit))) de lv):=by
 show SimS _ _ _ _ ((evE cl _ env m).bindS env _) _;refine SimS.okS λd h1=>?_;split
 .next ds hl =>
  split
  .next hlim =>
   split
   .next de1 lv1 g =>
    obtain ⟨w,m1,h2,l1,r1⟩:=I.ok H.r h1 (Le.refl m);obtain ⟨l,xs,he,hm,hlen,A',I',K⟩:=qc H I (wm hl) h1 h2 l1 (Le.refl m1) g (λds d=>ds++[d]) (λxs w=>xs++[w])
     (λ_ _ _ _ _ _ _ _ le o nd hB=>zaP le o nd hB) (λ_ _ _ _ _ _ _ n a b=>ze5 n a b) (λ_ _ _ _ _ _ a b=>a.app (.cons b .nil))
    rw[qX (wG he m) h2 (I.isRef (wm hl) he)];have:mtR .append (.ref l) [w] m1=.ok .non (m1.set l (.lst (xs++[w]))):=by
     simp only[mtR,hm];rw[if_pos (by lia)]
    rw[this];exact ⟨_,_,A',rfl,I',K⟩
   .trivial
  .trivial
 .trivial
theorem zc9 {m:Me}{ds:List Dat}{xs:List Wd}{d:Dat}{w:Wd}{B B0:List Nat}(n:(B++B0).Nodup)(a:OwnL m ds xs B)(b:Own m d w B0):∃B',OwnL m (d::ds) (w::xs) B'/\B'.Nodup/\∀b∈B',b∈B\/b∈B0:=by
 obtain ⟨n1,n2,n3⟩:=List.nodup_append.mp n;exact ⟨B0++B,.cons b a,List.nodup_append.mpr ⟨n2,n1,λx hx y hy e=>n3 y hy x hx e.symm⟩,λx hx=>(List.mem_append.mp hx).elim .inr .inl⟩
set_option tactic.hygienic true in
theorem zda (H:CallO lev cl cd)(I:Inv lo RR m de lv env A)(j:Nat)(e:Ex):SimS lo RR A m (exS cl (.expr (.meth .insert (.var j) (.pair (.lit (.int 0)) (.pair e .unit)))) env m) (exD lev cd (.expr (.meth .insert (.var j) (.pair (.lit (.int 0)) (.pair e .unit)))) de lv):=by
 show SimS _ _ _ _ ((evE cl _ env m).bindS env _) _;refine SimS.okS λd h1=>?_;split
 .next ds hl =>
  split
  .next hlim =>
   split
   .next de1 lv1 g =>
    obtain ⟨w,m1,h2,l1,r1⟩:=I.ok H.r h1 (Le.refl m);obtain ⟨l,xs,he,hm,hlen,A',I',K⟩:=qc H I (wm hl) h1 h2 l1 (Le.refl m1) g (λds d=>d::ds) (λxs w=>w::xs)
     (λ_ _ _ _ _ _ _ _ le o nd hB=>zc6 le o nd hB) (λ_ _ _ _ _ _ _ n a b=>zc9 n a b) (λ_ _ _ _ _ _ a b=>.cons b a)
    have hev:evE cl (.meth .insert (.var j) (.pair (.lit (.int 0)) (.pair e .unit))) env m=mtR .insert (.ref l) [.int 0,w] m1:=by
     show (evE cl (.var j) env m).bind (λx m1=>match yU x m1 with | true=>(((evE cl e env m1).bind λa m2=>.ok (.tup [a]) m2).bind λy m2=>.ok (.tup (.int 0::zL y)) m2).bind λy m2=>mtR .insert x (zL y) m2 | false=>.no)=_;rw[wG he m];show (match yU (.ref l) m with | true=>((((evE cl e env m).bind λa m2=>.ok (.tup [a]) m2).bind λy m2=>.ok (.tup (.int 0::zL y)) m2).bind λy m2=>mtR .insert (.ref l) (zL y) m2) | false=>.no)=_;rw[I.isRef (wm hl) he,h2];rfl
    rw[hev];have:mtR .insert (.ref l) [.int 0,w] m1=.ok .non (m1.set l (.lst (w::xs))):=by
     simp only[mtR,hm];rw[if_pos ⟨trivial,by lia⟩]
    rw[this];exact ⟨_,_,A',rfl,I',K⟩
   .trivial
  .trivial
 .trivial
set_option tactic.hygienic true in
theorem zdb (I:Inv lo RR m de lv env A)(j:Nat):SimS lo RR A m (exS cl (.expr (.meth .reverse (.var j) .unit)) env m) (exD lev cd (.expr (.meth .reverse (.var j) .unit)) de lv):=by
 show SimS _ _ _ _ ((evE cl _ env m).bindS env _) (match xo de j with
   | some ds=>if yi lv j then .next (de.set j (some (.lst ds.reverse))) lv else .no
   | none=>.no)
 split
 .next ds hl =>
  split
  .next ho =>
   obtain ⟨l,xs,he,hm,hr,put⟩:=I.mut (wm hl) ho;obtain ⟨A',I',K⟩:=put m ds.reverse xs.reverse (Le.refl m) (λ_=>(chg_rev (RR:=RR) (A:=A)).1) (λ_=>chg_rev.2);rw[ze4 (wG he m)];have:mtR .reverse (.ref l) [] m=.ok .non (m.set l (.lst xs.reverse)):=by simp only[mtR,hm]
   rw[this];exact ⟨_,_,A',rfl,I',K⟩
  .trivial
 .trivial
theorem vG (H:CallR cl cd)(I:Inv lo RR m de lv env A){j p:Nat}{r:Ex}{k:Int}{ds:List Dat}{l l2:Nat}{xs:List Wd}(hr:evD cd r de=.ok (.int k))(hp:ix ds.length k=some p)(he:env[j]?=some (some (.ref l)))(hm:m[l]?=some (.lst xs))(hlen:ds.length=xs.length)(hx:xs[p]?=some (.ref l2)){m0:Me}(l0:Le m m0):
  ∃m1,evE cl (.idx (.var j) r) env m0=.ok (.ref l2) m1/\Le m0 m1:=by
 obtain ⟨w,m1,h2,l1,r1⟩:=I.ok H hr l0;rw[rep_int.mp r1] at h2;refine ⟨m1,?_,l1⟩;show (evE cl (.var j) env m0).bind (λx m1=>(evE cl r env m1).bind λy m2=>kF x y m2)=_;rw[wG he m0];simp only[Rz.bind,h2];exact zhc (l1 l _ (l0 l _ hm)) (by rw[<- hlen];exact hp) hx
set_option tactic.hygienic true in
theorem ze6 (H:CallO lev cl cd)(I:Inv lo RR m de lv env A)(i:Nat)(op:Bo)(e:Ex):SimS lo RR A m (exS cl (.aug i op e) env m) (exD lev cd (.aug i op e) de lv):=by
 show SimS _ _ _ _ _ (match de[i]? with
  | some (some (.int a))=>(evD cd e de).okS λy=>match y with
   | .int b=>(yy op (.int a) (.int b)).okS λz=>.next (de.set i (some z)) (lv.set i .full)
   | _=>.no
  | _=>.no)
 split
 .next a ha =>
  refine SimS.okS λy hy=>?_;split
  .next b =>
   refine SimS.okS λz hz=>?_;obtain ⟨la,hla⟩:=I.getlv ha;obtain ⟨wa,hea,ra⟩:=I.slot i _ la ha hla;have ra':=ra.rep (R':=RR) (λ_ z=>z.1) (λx hx=>I.rr x (I.bd i x hx).1);rw[rep_int.mp ra'] at hea;show SimS _ _ _ _ (match env[i]? with
    | some (some x)=>(evE cl e env m).bindS env λy m1=>zcv op x y m1 env λz m2=>.next (env.set i (some z)) m2
    | _=>.no) _
   rw[hea];obtain ⟨w,m1,h2,l1,r1⟩:=I.ok H.r hy (Le.refl m);rw[rep_int.mp r1] at h2;simp only[h2,Rz.bindS,zcv];have hs:=jX (R:=RR) (m:=m1) op (d:=.int a) (e:=.int b) (rep_int.mpr rfl) (rep_int.mpr rfl);rw[hz] at hs;obtain ⟨w3,m3,h3,l3,r3⟩:=hs;rw[h3];have fz:flat z=true:=by
    cases op <;> simp only[yy] at hz
    .cases hz;rfl
    .cases hz;rfl
    all_goals (split at hz <;> (cases hz;try rfl))
   obtain ⟨I',K⟩:=I.store (l1.trans l3) i (l:=.full) (d:=z) (w:=w3) (B:=[]) (r3.flat z w3 fz) List.nodup_nil (by simp);exact ⟨_,_,_,rfl,I',K⟩
  .trivial
 .trivial
end
section
variable {m:Me}
mutual
theorem Rep.avoid {R R':Nat->Prop}{m:Me}{D:Dat}{l:Nat}(hD:Rep R' m D (.ref l)):∀ (d:Dat) (w:Wd),dep d < dep D->Rep R m d w->Rep (λx=>R x/\x≠l) m d w
 | .non,w,h,q=>rep_non.mpr (rep_non.mp q)
 | .bl _,w,h,q=>rep_bl.mpr (rep_bl.mp q)
 | .int _,w,h,q=>rep_int.mpr (rep_int.mp q)
 | .str _,w,h,q=>rep_str.mpr (rep_str.mp q)
 | .scr _,w,h,q=>rep_scr.mpr (rep_scr.mp q)
 | .tup ds,w,h,q=>by
  obtain ⟨xs,rfl,q1⟩:=rep_tup.mp q;exact rep_tup.mpr ⟨xs,rfl,RepL.avoid hD ds xs (by rw[show dep (.tup ds)=depL ds+1 from by simp[dep]] at h;lia) q1⟩
 | .lst ds,w,h,q=>by
  obtain ⟨k,xs,rfl,r,hm,q1⟩:=rep_lst.mp q;refine rep_lst.mpr ⟨k,xs,rfl,⟨r,λe=>?_⟩,hm,RepL.avoid hD ds xs (by rw[show dep (.lst ds)=depL ds+1 from by simp[dep]] at h;lia) q1⟩;subst e;have:=Rep.det _ _ _ q hD;rw[this] at h;lia
 | .dct ks ds,w,h,q=>by
  obtain ⟨k,xs,rfl,r,hm,q1⟩:=rep_dct.mp q;refine rep_dct.mpr ⟨k,xs,rfl,⟨r,λe=>?_⟩,hm,RepL.avoid hD ds xs (by rw[show dep (.dct ks ds)=depL ds+1 from by simp[dep]] at h;lia) q1⟩;subst e;have:=Rep.det _ _ _ q hD;rw[this] at h;lia
theorem RepL.avoid {R R':Nat->Prop}{m:Me}{D:Dat}{l:Nat}(hD:Rep R' m D (.ref l)):∀ (ds:List Dat) (xs:List Wd),depL ds < dep D->RepL R m ds xs->RepL (λx=>R x/\x≠l) m ds xs
 | [],xs,h,q=>by rw[q.nil_inv];exact .nil
 | d::ds,xs,h,q=>by
  obtain ⟨x,r,rfl,a,b⟩:=q.cons_inv;unfold depL at h;exact .cons (Rep.avoid hD d x (by lia) a) (RepL.avoid hD ds r (by lia) b)
end
end
section
variable {lev:Nat->Lv}{cl:Nat->List Wd->Me->Rz}{cd:Nat->List Dat->Rd}{lo:Nat}{RR:Nat->Prop}
set_option tactic.hygienic true in
theorem Inv.bindSlot {m:Me}{de:DEn}{lv:List Lv}{env:En}{A:Nat->List Nat}(I:Inv lo RR m de lv env A)(i:Nat){d:Dat}{w:Wd}(h:Rep (xk RR A) m d w):Inv lo RR m (de.set i (some d)) (lv.set i (lvF d)) (env.set i (some w)) (upd A i [])/\Keep A m (upd A i []) m:=by
 refine I.store (Le.refl m) i (B:=[]) ?_ List.nodup_nil (by simp);unfold lvF;split
 .next f=>exact h.flat d w f
 .exact ⟨Rep.frame (λx o r z=>⟨⟨.inl r,by simp⟩,z⟩) _ _ h,rfl⟩
set_option tactic.hygienic true in
theorem wR {bw:Wd->En->Me->Rs}{bd:Dat->DEn->List Lv->Rsd}(hb:∀x w m de lv env A,Inv lo RR m de lv env A->Rep (xk RR A) m x w->SimS lo RR A m (bw w env m) (bd x de lv)):
  ∀ (ds:List Dat) (xs:List Wd) (m:Me) (de:DEn) (lv:List Lv) (env:En) (A:Nat->List Nat),Inv lo RR m de lv env A->RepL (xk RR A) m ds xs->SimS lo RR A m (wA bw xs env m) (y7 bd ds de lv)
 | [],xs,m,de,lv,env,A,I,r=>by
  rw[r.nil_inv];exact ⟨env,m,A,rfl,I,Keep.refl A m⟩
 | d::ds,xs,m,de,lv,env,A,I,r=>by
  obtain ⟨x,xs,rfl,a,b⟩:=r.cons_inv;have h:=hb d x m de lv env A I a;unfold wA y7;cases z:bd d de lv with
  | next d1 l1 =>
   rw[z] at h;obtain ⟨e1,m1,A1,h1,I1,K1⟩:=h;rw[h1];exact SimS.keep K1 (wR hb ds xs m1 d1 l1 e1 A1 I1 (K1.repL b))
  | cont d1 l1 =>
   rw[z] at h;obtain ⟨e1,m1,A1,h1,I1,K1⟩:=h;rw[h1];exact SimS.keep K1 (wR hb ds xs m1 d1 l1 e1 A1 I1 (K1.repL b))
  | brk d1 l1 =>
   rw[z] at h;obtain ⟨e1,m1,A1,h1,I1,K1⟩:=h;rw[h1];exact ⟨e1,m1,A1,rfl,I1,K1⟩
  | ret d l =>
   rw[z] at h;obtain ⟨w,m1,B,h1,k⟩:=h;rw[h1];exact ⟨w,m1,B,rfl,k⟩
  | exc c d =>
   rw[z] at h;obtain ⟨w,e,m1,h1,k⟩:=h;rw[h1];exact ⟨w,e,m1,rfl,k⟩
  | no=>trivial
set_option tactic.hygienic true in
theorem vH {bw:Wd->En->Me->Rs}{bd:Dat->DEn->List Lv->Rsd}(hb:∀x w m de lv env A,Inv lo RR m de lv env A->Rep (xk RR A) m x w->SimS lo RR A m (bw w env m) (bd x de lv)){l:Nat}{xs0:List Wd}:
  ∀ (ds:List Dat) (i k:Nat) (m:Me) (de:DEn) (lv:List Lv) (env:En) (A:Nat->List Nat),Inv lo RR m de lv env A->(∀k,l∉A k)->m[l]?=some (.lst xs0)->RepL (xk RR A) m ds (xs0.drop i)->i+ds.length=xs0.length->ds.length < k->SimS lo RR A m (wB bw l k i env m) (y7 bd ds de lv)
 | [],i,0,m,de,lv,env,A,I,hl,hm,r,hi,hk=>by simp at hk
 | d::ds,i,0,m,de,lv,env,A,I,hl,hm,r,hi,hk=>by simp at hk
 | [],i,k+1,m,de,lv,env,A,I,hl,hm,r,hi,hk=>by
  unfold wB y7 zK;rw[hm];simp only;rw[List.getElem?_eq_none (by simp at hi;lia)];exact ⟨env,m,A,rfl,I,Keep.refl A m⟩
 | d::ds,i,k+1,m,de,lv,env,A,I,hl,hm,r,hi,hk=>by
  obtain ⟨x,q,e0,a,b⟩:=r.cons_inv;have hx:xs0[i]?=some x:=by
   have:(xs0.drop i)[0]?=some x:=by rw[e0];rfl
   simpa using this
  have hr:q=xs0.drop (i+1):=by
   have:(xs0.drop i).drop 1=q:=by rw[e0];rfl
   rw[<- this,List.drop_drop]
  rw[hr] at b;have hi':i+1+ds.length=xs0.length:=by simp at hi;lia
  have hk':ds.length < k:=by simp at hk;lia
  have h:=hb d x m de lv env A I a;unfold wB y7 zK;rw[hm];simp only;rw[hx];simp only;cases z:bd d de lv with
  | next d1 l1 =>
   rw[z] at h;obtain ⟨e1,m1,A1,h1,I1,K1⟩:=h;rw[h1];exact SimS.keep K1 (vH hb ds (i+1) k m1 d1 l1 e1 A1 I1 (K1.1 l _ hl hm).1 (K1.1 l _ hl hm).2 (K1.repL b) hi' hk')
  | cont d1 l1 =>
   rw[z] at h;obtain ⟨e1,m1,A1,h1,I1,K1⟩:=h;rw[h1];exact SimS.keep K1 (vH hb ds (i+1) k m1 d1 l1 e1 A1 I1 (K1.1 l _ hl hm).1 (K1.1 l _ hl hm).2 (K1.repL b) hi' hk')
  | brk d1 l1 =>
   rw[z] at h;obtain ⟨e1,m1,A1,h1,I1,K1⟩:=h;rw[h1];exact ⟨e1,m1,A1,rfl,I1,K1⟩
  | ret d l =>
   rw[z] at h;obtain ⟨w,m1,B,h1,k⟩:=h;rw[h1];exact ⟨w,m1,B,rfl,k⟩
  | exc c d =>
   rw[z] at h;obtain ⟨w,e,m1,h1,k⟩:=h;rw[h1];exact ⟨w,e,m1,rfl,k⟩
  | no=>trivial
set_option tactic.hygienic true in
theorem zaR {bw:Wd->En->Me->Rs}{bd:Dat->DEn->List Lv->Rsd}(H:CallO lev cl cd)(hb:∀x w m de lv env A,Inv lo RR m de lv env A->Rep (xk RR A) m x w->SimS lo RR A m (bw w env m) (bd x de lv)){m:Me}{de:DEn}{lv:List Lv}{env:En}{A:Nat->List Nat}(I:Inv lo RR m de lv env A)(it:Ex):
  SimS lo RR A m ((evE cl it env m).bindS env λw m1=>qL bw w env m1) ((evD cd it de).bindS λd=>match itD d with
   | some xs=>y7 bd xs de (if flat d then lv else y6 it de lv)
   | none=>.no):=by
 have run:∀ (d:Dat) (w:Wd) (m1:Me) (xs:List Dat) (lv1:List Lv) (A1:Nat->List Nat),itD d=some xs->Inv lo RR m1 de lv1 env A1->Rep (xk RR A1) m1 d w->SimS lo RR A1 m1 (qL bw w env m1) (y7 bd xs de lv1):=by
  intro d w m1 xs lv1 A1 hi I1 r;cases d with
  | tup ds=>cases hi;obtain ⟨ys,rfl,r1⟩:=rep_tup.mp r;exact wR hb _ _ _ _ _ _ _ I1 r1
  | scr ns=>cases hi;rw[rep_scr.mp r];exact wR hb _ _ _ _ _ _ _ I1 (zjV ns)
  | lst ds =>
   simp only[itD] at hi;split at hi
   .next z =>
    cases hi;obtain ⟨l,ys,rfl,hR,hm,r1⟩:=rep_lst.mp r;have:=r1.len;exact vH hb _ 0 (lim+1) m1 de lv1 env A1 I1 hR.2 hm (by simpa using r1) (by lia) (by lia)
   .cases hi
  | _=>cases hi
 cases z:evD cd it de with
 | no=>trivial
 | exc c d =>
  have:=I.bindE H.r it (f:=λw m1=>qL bw w env m1) (g:=λd=>.no) (λ_ _ _ _ _ _ _=>trivial);rw[z] at this;exact this
 | ok d =>
  show SimS lo RR A m _ (match itD d with
   | some xs=>y7 bd xs de (if flat d then lv else y6 it de lv)
   | none=>.no)
  cases hi:itD d with
  | none=>trivial
  | some xs =>
   simp only;split
   .next f =>
    obtain ⟨w,m1,h2,l1,r1⟩:=I.ok H.r z (Le.refl m);rw[h2];exact SimS.keep (vj l1) (run d w m1 xs lv A hi (I.ext l1) (Own.rep d w [] (by simp) (r1.flat d w f)))
   .obtain ⟨A1,I1,K1,_,h⟩:=I.relEv H it;rw[z] at h;obtain ⟨w,m1,h2,l1,r1⟩:=h.sim;rw[h2];refine SimS.keep (K1.trans (vj l1)) (run d w m1 xs _ A1 hi (I1.ext l1) (Rep.frame (λx o r z=>⟨?_,z⟩) _ _ r1));rcases r with r | r
    .exact r
    .exact ⟨I.rr x (Nat.le_trans I.lom r),λk hk=>by have:=(I1.bd k x hk).2;lia⟩
set_option tactic.hygienic true in
theorem vI {cw:En->Me->Rz}{bw:En->Me->Rs}{c:DEn->Rd}{bd:DEn->List Lv->Rsd}(hc:∀m de lv env A,Inv lo RR m de lv env A->match c de with | .ok d=>∃w m1,cw env m=.ok w m1/\Le m m1/\Rep RR m1 d w | .exc k d=>∃w m1,cw env m=.exc k w m1/\Le m m1/\Rep RR m1 d w | .no=>True)
  (hb:∀m de lv env A,Inv lo RR m de lv env A->SimS lo RR A m (bw env m) (bd de lv)):∀ (k:Nat) (m:Me) (de:DEn) (lv:List Lv) (env:En) (A:Nat->List Nat),Inv lo RR m de lv env A->SimS lo RR A m (vR cw bw k env m) (wg c bd k de lv)
 | 0,m,de,lv,env,A,I=>trivial
 | k+1,m,de,lv,env,A,I=>by
  have h:=hc m de lv env A I;unfold vR wg;cases z:c de with
  | no=>trivial
  | exc j d =>
   rw[z] at h;obtain ⟨w,m1,h1,l1,r1⟩:=h;rw[h1];exact ⟨w,env,m1,rfl,⟨λx o _ b=>l1 x o b,l1.len⟩,r1⟩
  | ok d =>
   rw[z] at h;obtain ⟨w,m1,h1,l1,r1⟩:=h;rw[h1];cases d with
   | bl b =>
    rw[rep_bl.mp r1];cases b with
    | false=>exact ⟨env,m1,A,rfl,I.ext l1,vj l1⟩
    | true =>
     have h2:=hb m1 de lv env A (I.ext l1);refine SimS.keep (vj l1) ?_;simp only;cases z2:bd de lv with
     | next d1 l2 =>
      rw[z2] at h2;obtain ⟨e1,m2,A1,h3,I1,K1⟩:=h2;rw[h3];exact SimS.keep K1 (vI hc hb k m2 d1 l2 e1 A1 I1)
     | cont d1 l2 =>
      rw[z2] at h2;obtain ⟨e1,m2,A1,h3,I1,K1⟩:=h2;rw[h3];exact SimS.keep K1 (vI hc hb k m2 d1 l2 e1 A1 I1)
     | brk d1 l2 =>
      rw[z2] at h2;obtain ⟨e1,m2,A1,h3,I1,K1⟩:=h2;rw[h3];exact ⟨e1,m2,A1,rfl,I1,K1⟩
     | ret d l =>
      rw[z2] at h2;obtain ⟨w,m2,B,h3,k⟩:=h2;rw[h3];exact ⟨w,m2,B,rfl,k⟩
     | exc c d =>
      rw[z2] at h2;obtain ⟨w,e,m2,h3,k⟩:=h2;rw[h3];exact ⟨w,e,m2,rfl,k⟩
     | no=>trivial
   | _=>trivial
theorem Inv.drop {m:Me}{de:DEn}{lv:List Lv}{env:En}{A:Nat->List Nat}(I:Inv lo RR m de lv env A)(i:Nat)(hi:i < de.length):Inv lo RR m (de.set i none) (lv.set i .full) env A:=by
 refine ⟨by simp[I.len],by simp[I.lvl],I.rr,I.lom,λk d l h1 h2=>?_,I.nd,I.dj,I.bd⟩;by_cases e:i=k
 .subst e;rw[List.getElem?_set,if_pos rfl] at h1;split at h1
  .cases h1
  .cases h1
 .rw[List.getElem?_set_ne e] at h1 h2;exact I.slot k d l h1 h2
set_option tactic.hygienic true in
set_option tactic.hygienic true in
theorem qY (H:CallO lev cl cd){m:Me}{de:DEn}{lv:List Lv}{env:En}{A:Nat->List Nat}(I:Inv lo RR m de lv env A)(j a x:Nat)(e:Ex):SimS lo RR A m (exS cl (.appPop j a x e) env m) (exD lev cd (.appPop j a x e) de lv):=by
 show SimS _ _ _ _ ((evE cl _ env m).bindS env _) (match xo de x,de[a]?,xo de j with
  | some (.int v::r),some (some (.int low)),some ds=>(evD cd e (de.set x (some (.lst r)))).okS λd=>match d with
   | .int k=>if j≠x/\a≠x/\yi lv j=true/\yi lv x=true/\0 < k/\ds.length < lim then .next ((de.set x (some (.lst r))).set j (some (.lst (ds++[.int (low+v % k)])))) lv else .no
   | _=>.no
  | _,_,_=>.no)
 split
 .next v r low ds hx ha hj =>
  refine SimS.okS λd he=>?_;split
  .next k =>
   split
   .next h =>
    obtain ⟨hjx,hax,oj,ox,hk,hlim⟩:=h;have hdx:=wm hx;have hdj:=wm hj;obtain ⟨lx,xs,e1,m1x,rx,putx⟩:=I.mut hdx ox;obtain ⟨w0,xr,rfl,r0,rr⟩:=rx.cons_inv;rw[rep_int.mp r0] at m1x rx putx;obtain ⟨A1,I1,K1⟩:=putx m r xr (Le.refl m) (λ_=>(g9 (RR:=RR) (A:=A) (m:=m) (ds:=r) (xs:=xr) (d:=.int v) (w:=.int v)).1) (λ_=>(g9 (RR:=RR) (A:=A) (m:=m) (ds:=r) (xs:=xr) (d:=.int v) (w:=.int v)).2);obtain ⟨w,m2,h2,l2,r2⟩:=I1.ok H.r he (Le.refl _);rw[rep_int.mp r2] at h2;have hdj1:(de.set x (some (.lst r)))[j]?=some (some (.lst ds)):=by rw[List.getElem?_set_ne (Ne.symm hjx)];exact hdj
    obtain ⟨lj,ys,e2,m2j,ry,putj⟩:=I1.mut hdj1 oj;have ow:Own m2 (.int (low+v % k)) (.int (low+v % k)) []:=(rep_int.mpr rfl:Rep (λ_=>True) m2 (.int (low+v % k)) (.int (low+v % k))).flat _ _ rfl;have ch:Chg RR A1 (m.set lx (.lst xr)) m2 ds ys (ds++[.int (low+v % k)]) (ys++[.int (low+v % k)]):=zaP l2 (B0:=[]) ow List.nodup_nil (by simp);obtain ⟨A2,I2,K2⟩:=putj m2 _ _ l2 (λ_=>ch.1) (λ_=>ch.2);obtain ⟨la,hla⟩:=I.getlv ha;obtain ⟨wa,ea,ra⟩:=I.slot a _ la ha hla;have hwa:wa=.int low:=by
     have t:Rep (λ_=>True) m (.int low) wa:=ra.rep (λ_ _=>trivial) (λ_ _=>trivial);exact rep_int.mp t
    subst hwa;have hlen:=ry.len;have hpop:evE cl (.meth .pop (.var x) (.pair (.lit (.int 0)) .unit)) env m=.ok (.int v) (m.set lx (.lst xr)):=by
     rw[qX (x:=.ref lx) (m1:=m) (w:=.int 0) (m2:=m) (wG e1 m) rfl];simp only[mtR,m1x];rfl
    have hmod:evE cl (.bin .mod (.meth .pop (.var x) (.pair (.lit (.int 0)) .unit)) e) env m=.ok (.int (v % k)) m2:=by
     show (evE cl (.meth .pop (.var x) (.pair (.lit (.int 0)) .unit)) env m).bind _=_;rw[hpop];simp only[Rz.bind];rw[h2];simp only[bop];rw[if_pos hk]
    have harg:evE cl (.bin .add (.var a) (.bin .mod (.meth .pop (.var x) (.pair (.lit (.int 0)) .unit)) e)) env m=.ok (.int (low+v % k)) m2:=by
     show (evE cl (.var a) env m).bind _=_;rw[wG ea m];simp only[Rz.bind];rw[hmod];rfl
    rw[qX (x:=.ref lj) (m1:=m) (wG e2 m) harg (I.isRef hdj e2)];have:mtR .append (.ref lj) [.int (low+v % k)] m2=.ok .non (m2.set lj (.lst (ys++[.int (low+v % k)]))):=by
     simp only[mtR,l2 _ _ m2j];rw[if_pos (by lia)]
    rw[this];exact ⟨_,_,A2,rfl,I2,K1.trans K2⟩
   .trivial
  .trivial
 .trivial
set_option tactic.hygienic true in
theorem ze7 (H:CallO lev cl cd){m:Me}{de:DEn}{lv:List Lv}{env:En}{A:Nat->List Nat}(I:Inv lo RR m de lv env A)(e:Ex):SimS lo RR A m (exS cl (.ret e) env m) (exD lev cd (.ret e) de lv):=by
 show SimS _ _ _ _ ((evE cl e env m).bindS env _) ((evD cd e de).bindS _);cases z:evD cd e de with
 | no=>trivial
 | exc c d =>
  have:=I.bindE H.r e (f:=λw m1=>.ret w m1) (g:=λd=>.no) (λ_ _ _ _ _ _ _=>trivial);rw[z] at this;exact this
 | ok d =>
  obtain ⟨w,m1,h2,l1,r1⟩:=I.ok H.r z (Le.refl m);rw[h2];show SimS lo RR A m (.ret w m1) (.ret d (lvR lev e d lv));have kp:(∀ (x:Nat) o,(∀i,x∉A i)->m[x]?=some o->m1[x]?=some o)/\m.length<=m1.length:=⟨λx o _ b=>l1 x o b,l1.len⟩;have no:RepO (λx=>RR x/\x∉([]:List Nat)) m1 .no d w []:=⟨Rep.frame (λx o r z=>⟨⟨r,by simp⟩,z⟩) _ _ r1,rfl⟩;by_cases f:flat d=true
  .refine ⟨w,m1,[],rfl,kp,?_,List.nodup_nil,by simp⟩;unfold lvR;rw[if_pos f];exact r1.flat d w f
  .unfold lvR;rw[if_neg f];split
   .next i =>
    have hdi:de[i]?=some (some d):=by
     exact zaI z
    obtain ⟨l,hl⟩:=I.getlv hdi;obtain ⟨w',he,ro⟩:=I.slot i d l hdi hl;rw[wG he m] at h2;cases h2;rw[hl];refine ⟨_,_,A i,rfl,kp,?_,I.nd i,λb hb=>(I.bd i b hb).1⟩;exact ro.frame (λx o r z=>⟨⟨r.1,r.2 i⟩,z⟩) (λ_ _ _ z=>z)
   .next a b =>
    split
    .next c =>
     obtain ⟨hab,ha,hb⟩:=c;have:∃da db,de[a]?=some (some da)/\de[b]?=some (some db)/\d=.tup [da,db]:=by
      have hz:evD cd (.tup (.pair (.var a) (.pair (.var b) .unit))) de=((evD cd (.var a) de).bind λx=>((evD cd (.var b) de).bind λy=>.ok (.tup [y])).bind λy=>.ok (.tup (x::yd y))).bind λx=>if (yd x).length<=lim then .ok (.tup (yd x)) else .no:=rfl;rw[hz] at z;cases q1:de[a]? with
      | none=>rw[xj (.inl q1)] at z;cases z
      | some o=>cases o with
       | none=>rw[xj (.inr q1)] at z;cases z
       | some da =>
        rw[xF q1] at z;cases q2:de[b]? with
        | none=>rw[xj (.inl q2)] at z;cases z
        | some o=>cases o with
         | none=>rw[xj (.inr q2)] at z;cases z
         | some db =>
          rw[xF q2] at z;simp[Rd.bind,yd,lim] at z;exact ⟨da,db,rfl,rfl,z.symm⟩
     obtain ⟨da,db,h3,h4,rfl⟩:=this;obtain ⟨wa,ea,oa⟩:=I.slot a da .full h3 ha;obtain ⟨wb,eb,ob⟩:=I.slot b db .full h4 hb;have hw:evE cl (.tup (.pair (.var a) (.pair (.var b) .unit))) env m=.ok (.tup [wa,wb]) m:=by
      show (((evE cl (.var a) env m).bind λx m1=>((evE cl (.var b) env m1).bind λy m2=>.ok (.tup [y]) m2).bind λy m2=>.ok (.tup (x::zL y)) m2).bind λx m1=>if (zL x).length<=lim then .ok (.tup (zL x)) m1 else .no)=_;rw[wG ea m];simp only[Rz.bind];rw[wG eb m];simp[zL,lim]
     rw[hw] at h2;cases h2;refine ⟨_,_,A a++(A b++[]),rfl,kp,own_tup.mpr ⟨_,rfl,.cons oa (.cons ob .nil)⟩,?_,?_⟩
     .rw[List.append_nil];exact List.nodup_append.mpr ⟨I.nd a,I.nd b,λx hx y hy e=>hab (I.dj a b x hx (by rw[e];exact hy))⟩
     .intro x hx;rw[List.append_nil] at hx;rcases List.mem_append.mp hx with q | q
      .exact (I.bd a x q).1
      .exact (I.bd b x q).1
    .exact ⟨w,m1,[],rfl,kp,no,List.nodup_nil,by simp⟩
   .obtain ⟨B,ro,nd,hB⟩:=I.own H z h2;exact ⟨w,m1,B,rfl,kp,ro,nd,λb hb=>Nat.le_trans I.lom (hB b hb)⟩
set_option tactic.hygienic true in
theorem wH (H:CallO lev cl cd):∀ (s:Sm) (m:Me) (de:DEn) (lv:List Lv) (env:En) (A:Nat->List Nat),Inv lo RR m de lv env A->SimS lo RR A m (exS cl s env m) (exD lev cd s de lv)
 | .skip,m,de,lv,env,A,I=>by show SimS _ _ _ _ (.next env m) (.next de lv);exact ⟨env,m,A,rfl,I,Keep.refl A m⟩
 | .seq a b,m,de,lv,env,A,I=>by
  cases hv:yu a b with
  | some t=>rw[j2,hv];exact trivial
  | none =>
   have h:=wH H a m de lv env A I;rw[j2,hv];show SimS _ _ _ _ (match exS cl a env m with
    | .next e1 m1=>exS cl b e1 m1
    | r=>r) _
   cases z:exD lev cd a de lv with
   | next d1 l1 =>
    rw[z] at h;obtain ⟨e1,m1,A1,h1,I1,K1⟩:=h;rw[h1];exact SimS.keep K1 (wH H b m1 d1 l1 e1 A1 I1)
   | cont d1 l1 =>
    rw[z] at h;obtain ⟨e1,m1,A1,h1,I1,K1⟩:=h;rw[h1];exact ⟨e1,m1,A1,rfl,I1,K1⟩
   | brk d1 l1 =>
    rw[z] at h;obtain ⟨e1,m1,A1,h1,I1,K1⟩:=h;rw[h1];exact ⟨e1,m1,A1,rfl,I1,K1⟩
   | ret d l =>
    rw[z] at h;obtain ⟨w,m1,B,h1,k⟩:=h;rw[h1];exact ⟨w,m1,B,rfl,k⟩
   | exc c d =>
    rw[z] at h;obtain ⟨w,e,m1,h1,k⟩:=h;rw[h1];exact ⟨w,e,m1,rfl,k⟩
   | no=>trivial
 | .asg i e,m,de,lv,env,A,I=>ze3 H I i e
 | .aug i op e,m,de,lv,env,A,I=>ze6 H I i op e
 | .ite c a b,m,de,lv,env,A,I=>by
  refine I.bindE H.r c λd w m1 _ _ l1 r1=>?_;cases d with
  | bl t =>
   rw[rep_bl.mp r1];cases t with
   | true=>exact wH H a m1 de lv env A (I.ext l1)
   | false=>exact wH H b m1 de lv env A (I.ext l1)
  | _=>trivial
 | .forv i it body,m,de,lv,env,A,I=>by
  refine zaR H (λx w m de lv env A I r=>?_) I it;obtain ⟨I1,K1⟩:=I.bindSlot i r;exact SimS.keep K1 (wH H body _ _ _ _ _ I1)
 | .fort i j it body,m,de,lv,env,A,I=>by
  refine zaR H (λx w m de lv env A I r=>?_) I it;split
  .next a b =>
   obtain ⟨xs,rfl,r1⟩:=rep_tup.mp r;obtain ⟨x,r2,rfl,ra,rb⟩:=r1.cons_inv;obtain ⟨y,r3,rfl,rb,rn⟩:=rb.cons_inv;rw[rn.nil_inv];obtain ⟨I1,K1⟩:=I.bindSlot i ra;obtain ⟨I2,K2⟩:=I1.bindSlot j (K1.rep rb);exact SimS.keep (K1.trans K2) (wH H body _ _ _ _ _ I2)
  .trivial
 | .appPop j a x e,m,de,lv,env,A,I=>qY H I j a x e
 | .while c body,m,de,lv,env,A,I=>by
  refine vI (λm de lv env A I=>?_) (λm de lv env A I=>wH H body m de lv env A I) _ m de lv env A I;have h:=zj H.r c RR m de env (I.envR _);cases z:evD cd c de with
  | no=>trivial
  | ok d=>rw[z] at h;obtain ⟨w,m1,h1,l1,r1⟩:=h;exact ⟨w,m1,h1,l1,I.rf r1⟩
  | exc k d=>rw[z] at h;obtain ⟨w,m1,h1,l1,r1⟩:=h;exact ⟨w,m1,h1,l1,I.rf r1⟩
 | .ret e,m,de,lv,env,A,I=>ze7 H I e
 | .expr e,m,de,lv,env,A,I=>by
  have dflt:SimS lo RR A m (exS cl (.expr e) env m) ((evD cd e de).bindS λ_=>.next de lv):=by
   exact I.bindE H.r e λd w m1 _ _ l1 _=>⟨env,m1,A,rfl,I.ext l1,Keep.refl A m1⟩
  by_cases q:∃n o a,e=.meth n o a
  .obtain ⟨n,o,a,rfl⟩:=q;have hap:=λj e=>zc8 H I j e;have hin:=λj e=>zda H I j e;have hrv:=λj=>zdb (cl:=cl) (cd:=cd) (lev:=lev) I j;show SimS _ _ _ _ _ (g8 lev cd (.meth n o a) de lv);unfold g8;split
   .next h=>cases h;exact hap _ _
   .next h=>cases h;exact hin _ _
   .next h=>cases h;exact hrv _
   .trivial
   .next h=>first | exact (h _ _ _ rfl).elim | exact (h _ _ _).elim | exact absurd rfl h
  .show SimS _ _ _ _ _ (g8 lev cd e de lv);unfold g8;split
   .exact absurd ⟨_,_,_,rfl⟩ q
   .exact absurd ⟨_,_,_,rfl⟩ q
   .exact absurd ⟨_,_,_,rfl⟩ q
   .exact absurd ⟨_,_,_,rfl⟩ q
   .exact dflt
 | .never,m,de,lv,env,A,I=>by exact trivial
end
theorem jz {α β:Type}(f:α->β)(z:β)(xs:List α)(n i:Nat):(xs.map f++List.replicate n z)[i]?=if i < xs.length then (xs[i]?).map f else if i < xs.length+n then some z else none:=by
 rw[List.getElem?_append,List.length_map];split
 .rw[List.getElem?_map]
 .rw[List.getElem?_replicate];by_cases h:i - xs.length < n
  .rw[if_pos h,if_pos (by lia)]
  .rw[if_neg h,if_neg (by lia)]
set_option tactic.hygienic true in
theorem zbw {R:Nat->Prop}{m:Me}{ds:List Dat}{ws:List Wd}(fn:Fn)(h:RepL R m ds ws):Inv m.length (Rf R m.length) m (yE fn ds) (yF fn ds) (wc fn ws) (λ_=>[]):=by
 have hl:=h.len;refine ⟨?_,?_,λl hl=>.inr hl,Nat.le_refl _,?_,λ_=>List.nodup_nil,(λ_ _ _ h=>by cases h),(λ_ _ h=>by cases h)⟩
 .simp[yE,wc,hl]
 .simp[yE,yF]
 .intro i d l h1 h2;unfold yE at h1;unfold yF at h2;rw[jz] at h1 h2;by_cases hi:i < ds.length
  .rw[if_pos hi] at h1 h2;obtain ⟨d',e1,e2⟩:=Option.map_eq_some_iff.mp h1;cases e2;rw[e1] at h2;cases h2;obtain ⟨w,hw,r⟩:=h.get e1;refine ⟨w,?_,?_⟩
   .unfold wc;rw[jz,if_pos (by lia),hw];rfl
   .unfold lvF;split
    .next f=>exact r.flat d w f
    .exact ⟨Rep.frame (λx o r z=>⟨⟨.inl r,λ_ h=>by cases h⟩,z⟩) _ _ r,rfl⟩
  .rw[if_neg hi] at h1;split at h1 <;> cases h1
set_option tactic.hygienic true in
theorem ze8 {lev:Nat->Lv}{cl:Nat->List Wd->Me->Rz}{cd:Nat->List Dat->Rd}(H:CallO lev cl cd)(k:Nat)(fn:Fn)(ds:List Dat)(ws:List Wd)(R:Nat->Prop)(m:Me)(h:RepL R m ds ws):SimO R m (wF lev k) (jP cl fn ws m) (zq lev cd k fn ds):=by
 unfold jP zq;rw[h.len];split
 .have s:=wH H fn.body m _ _ _ _ (zbw fn h);cases z:exD lev cd fn.body (yE fn ds) (yF fn ds) with
  | next d1 l1 =>
   rw[z] at s;obtain ⟨e1,m1,A1,h1,I1,K1⟩:=s;rw[h1];refine ⟨.non,m1,[],rfl,λl o q=>(K1.1 l o (λ_ h=>by cases h) q).2,?_,List.nodup_nil,by simp⟩;unfold wF RepO Own;simp[flat]
  | ret d l =>
   rw[z] at s;obtain ⟨w,m1,B,h1,⟨kp,_⟩,ro,nd,hB⟩:=s;rw[h1];have le:Le m m1:=λl o q=>kp l o (λ_ h=>by cases h) q;show SimO R m (wF lev k) (.ok w m1) (if flat d || xT l (lev k) then .ok d else .no);split
   .next c =>
    by_cases f:flat d=true
    .refine ⟨w,m1,[],rfl,le,?_,List.nodup_nil,by simp⟩;unfold wF;rw[if_pos f];exact (ro.rep (R':=λ_=>True) (λ_ _=>trivial) (λ_ _=>trivial)).flat d w f
    .have g:xT l (lev k)=true:=by simpa [f] using c
     unfold SimO wF;simp only[if_neg f];cases e:lev k with
     | no =>
      refine ⟨w,m1,[],rfl,le,⟨?_,rfl⟩,List.nodup_nil,by simp⟩;exact ro.rep (λx r=>⟨r.1,by simp⟩) (λb hb=>⟨.inr (hB b hb),by simp⟩)
     | top =>
      rw[e] at g;cases l with
      | top=>exact ⟨w,m1,B,rfl,le,ro,nd,hB⟩
      | no=>cases g
      | full=>cases g
     | full =>
      rw[e] at g;cases l with
      | full=>exact ⟨w,m1,B,rfl,le,ro,nd,hB⟩
      | no=>cases g
      | top=>cases g
   .trivial
  | exc c d =>
   rw[z] at s;obtain ⟨w,e,m1,h1,⟨kp,_⟩,r⟩:=s;rw[h1];exact ⟨w,m1,rfl,λl o q=>kp l o (λ_ h=>by cases h) q,r⟩
  | brk _ _=>trivial
  | cont _ _=>trivial
  | no=>trivial
 .trivial
theorem qd (lev:Nat->Lv)(T:List Fn):∀d:Nat,CallO lev (xu T d) (kT lev T d)
 | 0=>λk ds ws R m h=>trivial
 | d+1=>λk ds ws R m h=>by
  unfold xu kT;cases T[k]? with
  | none=>trivial
  | some fn=>exact ze8 (qd lev T d) k fn ds ws R m h
theorem ze9 (lev:Nat->Lv)(T:List Fn)(d i:Nat)(ns:List Int)(h:kT lev T d i [.scr ns]=.ok (.bl true)):∃m,xu T d i [.rol (ns.map Wd.int)] []=.ok (.bl true) m:=by
 have s:=qd lev T d i [.scr ns] [.rol (ns.map Wd.int)] (λ_=>True) [] (.cons (rep_scr.mpr rfl) .nil);rw[h] at s;obtain ⟨w,m',h1,_,r⟩:=s.sim;rw[rep_bl.mp r] at h1;exact ⟨m',h1⟩
section
variable (lev:Nat->Lv)(cl:Nat->List Dat->Rd)(de:DEn)(lv:List Lv)
@[simp] theorem zjT (d:Dat)(f:Dat->Rd):(Rd.ok d).bind f=f d:=rfl
@[simp] theorem zjU (d:Dat)(f:Dat->Rsd):(Rd.ok d).bindS f=f d:=rfl
@[simp] theorem zjR (d:Dat)(f:Dat->Rsd):(Rd.ok d).okS f=f d:=rfl
@[simp] theorem ze (i:Int):evD cl (.lit (.int i)) de=.ok (.int i):=rfl
@[simp] theorem zhP (i:Bool):evD cl (.lit (.bl i)) de=.ok (.bl i):=rfl
@[simp] theorem xG:evD cl (.lit .non) de=.ok .non:=rfl
@[simp] theorem zhd (s:List Nat):evD cl (.lit (.str s)) de=.ok (.str s):=rfl
@[simp] theorem zy (op:Bo)(a b:Ex):evD cl (.bin op a b) de=(evD cl a de).bind λx=>(evD cl b de).bind λy=>yy op x y:=rfl
@[simp] theorem zT (op:Co)(a b:Ex):evD cl (.cmp op a b) de=(evD cl a de).bind λx=>(evD cl b de).bind λy=>yz op x y:=rfl
@[simp] theorem zh:evD cl .unit de=.ok (.tup []):=rfl
@[simp] theorem zi (a b:Ex):evD cl (.pair a b) de=(evD cl a de).bind λx=>(evD cl b de).bind λy=>.ok (.tup (x::yd y)):=rfl
@[simp] theorem zo (k:Nat)(a:Ex):evD cl (.call k a) de=(evD cl a de).bind λx=>cl k (yd x):=rfl
@[simp] theorem zC (b:Blf)(a:Ex):evD cl (.blt b a) de=(evD cl a de).bind λx=>yC b (yd x):=rfl
@[simp] theorem vJ (t:Tg)(a:Ex):evD cl (.isi t a) de=(evD cl a de).bind λx=>.ok (.bl (isD t x)):=rfl
@[simp] theorem zP (a b:Ex):evD cl (.idx a b) de=(evD cl a de).bind λx=>(evD cl b de).bind λy=>yk x y:=rfl
@[simp] theorem yI (a:Ex):evD cl (.lst a) de=(evD cl a de).bind λx=>yB (yd x):=rfl
@[simp] theorem qZ (a:Ex):evD cl (.tup a) de=(evD cl a de).bind λx=>if (yd x).length<=lim then .ok (.tup (yd x)) else .no:=rfl
@[simp] theorem yn (a b c:Ex):evD cl (.rng a b c) de=(evD cl a de).bind λx=>(evD cl b de).bind λy=>(evD cl c de).bind λz=>wE x y z:=rfl
theorem zhe (i:Nat)(d:Dat)(h:de[i]?=some (some d)):evD cl (.var i) de=.ok d:=xF h
@[simp] theorem za (d:Dat)(r:DEn):evD cl (.var 0) (some d::r)=.ok d:=rfl
@[simp] theorem zd (i:Nat)(d:Option Dat)(r:DEn):evD cl (.var (i+1)) (d::r)=evD cl (.var i) r:=rfl
@[simp] theorem vK (a:Ex):evD cl (.neg a) de=(evD cl a de).bind λx=>match x with
  | .int i=>.ok (.int (-i))
  | _=>.no:=rfl
@[simp] theorem wn (a:Ex):evD cl (.not a) de=(evD cl a de).bind λx=>match x with
  | .bl b=>.ok (.bl (! b))
  | _=>.no:=rfl
@[simp] theorem xU (a b:Ex):evD cl (.and a b) de=(evD cl a de).bind λx=>match x with
  | .bl true=>evD cl b de
  | .bl false=>.ok (.bl false)
  | _=>.no:=rfl
@[simp] theorem vU (a b:Ex):evD cl (.or a b) de=(evD cl a de).bind λx=>match x with
  | .bl false=>evD cl b de
  | .bl true=>.ok (.bl true)
  | _=>.no:=rfl
@[simp] theorem zdc (p q:Co)(a b c:Ex):evD cl (.chain p q a b c) de=(evD cl a de).bind λx=>(evD cl b de).bind λy=>(yz p x y).bind λz=>match z with
  | .bl true=>(evD cl c de).bind λu=>yz q y u
  | .bl false=>.ok (.bl false)
  | _=>.no:=rfl
@[simp] theorem q8 (c a b:Ex):evD cl (.ife c a b) de=(evD cl c de).bind λx=>match x with
  | .bl true=>evD cl a de
  | .bl false=>evD cl b de
  | _=>.no:=rfl
@[simp] theorem zhf (a lo:Ex):evD cl (.slL a lo) de=(evD cl a de).bind λx=>(evD cl lo de).bind λy=>match y with
  | .int i=>slD x (some i) none
  | _=>.no:=rfl
@[simp] theorem j3 (a hi:Ex):evD cl (.slH a hi) de=(evD cl a de).bind λx=>(evD cl hi de).bind λy=>match y with
  | .int i=>slD x none (some i)
  | _=>.no:=rfl
@[simp] theorem zfa (a:Ex):evD cl (.lrng a) de=(evD cl a de).bind λx=>match x with
  | .int j=>if -lim<=j/\j<=lim then yB (ym 0 1 j.toNat) else .no
  | _=>.no:=rfl
theorem zW (elt it cond:Ex):evD cl (.comp elt it cond) de=(evD cl it de).bind λx=>match itD x with
  | some xs=>ye (λx=>evD cl cond (de++[some x])) (λx=>evD cl elt (de++[some x])) xs []
  | none=>.no:=rfl
theorem y8 (k:Kd)(elt a b cond:Ex):evD cl (.compP k elt a b cond) de=(evD cl a de).bind λx=>(evD cl b de).bind λy=>match y4 k x y with
  | some ps=>ye (λp=>evD cl cond (de++[some p.1]++[some p.2])) (λp=>evD cl elt (de++[some p.1]++[some p.2])) ps []
  | none=>.no:=rfl
@[simp] theorem zjI (a b:Int):deq (.int a) (.int b)=decide (a=b):=rfl
@[simp] theorem zjJ (a b:Bool):deq (.bl a) (.bl b)=(a == b):=rfl
@[simp] theorem zjK (a b:List Nat):deq (.str a) (.str b)=decide (a=b):=rfl
@[simp] theorem zhg (a b:List Dat):deq (.tup a) (.tup b)=deqL a b:=rfl
@[simp] theorem j4 (a b:List Dat):deq (.lst a) (.lst b)=deqL a b:=rfl
@[simp] theorem ziL (k:Nat)(a:Int):yW (k+1) (.int a)=true:=rfl
@[simp] theorem zjk (k:Nat)(a:Bool):yW (k+1) (.bl a)=true:=rfl
@[simp] theorem ziM (k:Nat)(a:List Nat):yW (k+1) (.str a)=true:=rfl
@[simp] theorem ziN (k:Nat):yW (k+1) .non=true:=rfl
@[simp] theorem zdd (k:Nat)(a:List Dat):yW (k+1) (.tup a)=eqOkL k a:=rfl
@[simp] theorem wI (k:Nat)(a:List Dat):yW (k+1) (.lst a)=eqOkL k a:=rfl
@[simp] theorem zhQ (k:Nat):eqOkL k []=true:=rfl
@[simp] theorem zhh (k:Nat)(d:Dat)(a:List Dat):eqOkL k (d::a)=(yW k d && eqOkL k a):=rfl
theorem yX (k:Nat):∀ (a:List Dat),eqOkL k a=a.all (yW k)
 | []=>by simp
 | d::a=>by simp[yX k a]
@[simp] theorem j5:yT=11+1:=rfl
@[simp] theorem zfO (i j:Int):yz .lt (.int i) (.int j)=.ok (.bl (decide (i < j))):=rfl
@[simp] theorem zfP (i j:Int):yz .le (.int i) (.int j)=.ok (.bl (decide (i<=j))):=rfl
@[simp] theorem jA (i j:Int):yz .gt (.int i) (.int j)=.ok (.bl (decide (j < i))):=rfl
@[simp] theorem ziO (i j:Int):yz .ge (.int i) (.int j)=.ok (.bl (decide (j<=i))):=rfl
@[simp] theorem vV (i j:Int):yz .eq (.int i) (.int j)=.ok (.bl (decide (i=j))):=rfl
@[simp] theorem jB (i j:Int):yz .ne (.int i) (.int j)=.ok (.bl (! decide (i=j))):=rfl
@[simp] theorem zde (i j:Bool):yz .eq (.bl i) (.bl j)=.ok (.bl (i == j)):=rfl
@[simp] theorem zjL (i j:Bool):yz .ne (.bl i) (.bl j)=.ok (.bl (!(i == j))):=rfl
@[simp] theorem zZ (i j:Int):yy .add (.int i) (.int j)=.ok (.int (i+j)):=rfl
@[simp] theorem yb (i j:Int):yy .sub (.int i) (.int j)=.ok (.int (i - j)):=rfl
theorem yO (i j:Int)(h:yA i=true):yy .mul (.int i) (.int j)=.ok (.int (i * j)):=by simp[yy,h]
theorem zaS (i j:Int)(h:yA j=true):yy .mul (.int i) (.int j)=.ok (.int (i * j)):=by simp[yy,h]
theorem ki (i j:Int)(h:0 < j)(k:j < 1073741824):yy .fdiv (.int i) (.int j)=.ok (.int (i / j)):=by simp[yy,h,k]
theorem wo (i j:Int)(h:0 < j):yy .mod (.int i) (.int j)=.ok (.int (i % j)):=by simp[yy,h]
theorem zhi (i j:Int)(h:0<=j/\j<=1000000/\yA i=true):yy .pow (.int i) (.int j)=.ok (.int (i ^ j.toNat)):=by simp only[yy];rw[if_pos h]
theorem vk {i:Int}(h:-18446744073709551616 < i)(k:i < 18446744073709551616):yA i=true:=by unfold yA big;simp[h,k]
@[simp] theorem zg (xs:List Dat):yd (.tup xs)=xs:=rfl
@[simp] theorem zfb (xs:List Dat):yC .len [.lst xs]=.ok (.int xs.length):=rfl
@[simp] theorem zjl (xs:List Dat):yC .len [.tup xs]=.ok (.int xs.length):=rfl
@[simp] theorem zjm (ns:List Int):yC .len [.scr ns]=.ok (.int ns.length):=by simp[yC,wD]
@[simp] theorem zjM (b:Bool):yC .int [.bl b]=.ok (.int (b2i b)):=rfl
theorem yG {xs:List Dat}(h:xs.length<=lim):yB xs=.ok (.lst xs):=by unfold yB;rw[if_pos h]
theorem zdf {n i:Nat}(h:i < n):ix n (i:Int)=some i:=by unfold ix;rw[if_pos (by lia),if_pos (by lia)];simp
theorem zfc {n:Nat}(h:0 < n):ix n (-1)=some (n - 1):=by unfold ix;rw[if_neg (by lia),if_pos (by lia)];congr 1;lia
theorem zaT {xs:List Dat}{i:Nat}{d:Dat}(h:xs[i]?=some d):yk (.lst xs) (.int (i:Int))=.ok d:=by
 have:=(List.getElem?_eq_some_iff.mp h).1;simp[yk,wD,zdf this,h]
theorem jC {xs:List Dat}{d:Dat}(h:xs[xs.length - 1]?=some d):yk (.lst xs) (.int (-1))=.ok d:=by
 have:=(List.getElem?_eq_some_iff.mp h).1;simp[yk,wD,zfc (show 0 < xs.length by lia),h]
theorem xV {a b c:Int}(h:-lim<=a/\a<=lim/\-lim<=b/\b<=lim/\(c=1\/c=-1)):wE (.int a) (.int b) (.int c)=.ok (.tup (ym a c (wY a b c))):=by
 simp only[wE];rw[if_pos h]
@[simp] theorem x0 (a c:Int)(n:Nat):(ym a c n).length=n:=by simp[ym]
theorem yg (a c:Int)(n i:Nat)(h:i < n):(ym a c n)[i]?=some (.int (a+c * (i:Int))):=by
 simp[ym,h]
@[simp] theorem yo (a c:Int):∀ (n:Nat),flatL (ym a c n)=true:=by
 intro n;unfold ym;generalize List.range n=l
 induction l with
 | nil=>rfl
 | cons x l ih=>simp[flatL,flat,ih]
@[simp] theorem yx (xs:List Dat):flat (.tup xs)=flatL xs:=by rw[flat]
@[simp] theorem yh (xs:List Dat):flat (.lst xs)=false:=by rw[flat]
@[simp] theorem qe (i:Int):flat (.int i)=true:=by rw[flat]
@[simp] theorem zjn (i:Bool):flat (.bl i)=true:=by rw[flat]
@[simp] theorem ziP:flat .non=true:=by rw[flat]
@[simp] theorem ziQ (s:List Nat):flat (.str s)=true:=by rw[flat]
@[simp] theorem ziR (s:List Int):flat (.scr s)=true:=by rw[flat]
@[simp] theorem zbx:flatL []=true:=by rw[flatL]
@[simp] theorem q9 (d:Dat)(ds:List Dat):flatL (d::ds)=(flat d && flatL ds):=by rw[flatL]
@[simp] theorem zhj (l:List Int):flatL (l.map Dat.int)=true:=by
 induction l with
 | nil=>rfl
 | cons x l ih=>simp[ih]
@[simp] theorem yc (xs:List Dat):itD (.tup xs)=some xs:=rfl
@[simp] theorem zjN (xs:List Int):itD (.scr xs)=some (xs.map .int):=rfl
theorem yJ {xs:List Dat}(h:xs.length<=lim):itD (.lst xs)=some xs:=by simp[itD,h]
@[simp] theorem zN:exD lev cl .skip de lv=.next de lv:=rfl
@[simp] theorem zJ (e:Ex):exD lev cl (.ret e) de lv=(evD cl e de).bindS λd=>.ret d (lvR lev e d lv):=rfl
@[simp] theorem zu (i:Nat)(e:Ex):exD lev cl (.asg i e) de lv=(evD cl e de).bindS λd=>xY lev i e d de lv:=rfl
@[simp] theorem zV (c:Ex)(a b:Sm):exD lev cl (.ite c a b) de lv=(evD cl c de).bindS λx=>match x with
  | .bl true=>exD lev cl a de lv
  | .bl false=>exD lev cl b de lv
  | _=>.no:=rfl
theorem zS {lev:Nat->Lv}{i:Nat}{e:Ex}{d:Dat}{de:DEn}{lv:List Lv}(h:flat d=true):xY lev i e d de lv=.next (de.set i (some d)) (lv.set i .full):=by
 unfold xY;rw[if_pos (yR lev e d h)]
theorem zM {lev:Nat->Lv}{i:Nat}{e:Ex}{d:Dat}{de:DEn}{lv:List Lv}(h:lvE lev e d=.full):xY lev i e d de lv=.next (de.set i (some d)) (lv.set i .full):=by
 unfold xY;rw[if_pos h]
theorem zO {α:Type}{body:α->DEn->List Lv->Rsd}(P:Nat->DEn->List Lv->Prop)(xs:List α){de:DEn}{lv:List Lv}(h0:P 0 de lv)
  (hs:∀ (i:Nat) x de lv,xs[i]?=some x->P i de lv->∃de' lv',body x de lv=.next de' lv'/\P (i+1) de' lv'):∃de' lv',y7 body xs de lv=.next de' lv'/\P xs.length de' lv':=by
 induction xs generalizing P de lv with
 | nil=>exact ⟨de,lv,rfl,h0⟩
 | cons x xs ih =>
  obtain ⟨d1,l1,e1,p1⟩:=hs 0 x de lv rfl h0;unfold y7;rw[e1];exact ih (λi=>P (i+1)) p1 (λi y de lv hy hp=>hs (i+1) y de lv (by simpa using hy) hp)
end
namespace Lib
section
variable {lev:Nat->Lv}{cl:Nat->List Dat->Rd}{k:Nat}
noncomputable def isInt:Dat->Bool
 | .int _=>true
 | _=>false
def j6:Fn:=⟨1,1,(.ret (.and (.isi .int (.var 0)) (.not (.isi .bool (.var 0)))))⟩
theorem zby (d:Dat):zq lev cl k j6 [d]=.ok (.bl (isInt d)):=by
 cases d <;> simp[zq,j6,yE,yF,zt,isD,isInt,lvR]
end
end Lib
section
variable (lev:Nat->Lv)(cl:Nat->List Dat->Rd)(de:DEn)(lv:List Lv)
@[simp] theorem zhk (i:Nat)(op:Bo)(e:Ex):exD lev cl (.aug i op e) de lv=match de[i]? with
  | some (some (.int a))=>(evD cl e de).okS λy=>match y with
   | .int b=>(yy op (.int a) (.int b)).okS λz=>.next (de.set i (some z)) (lv.set i .full)
   | _=>.no
  | _=>.no:=rfl
@[simp] theorem wS (j:Nat)(e:Ex):exD lev cl (.expr (.meth .append (.var j) (.pair e .unit))) de lv=(evD cl e de).okS λd=>match xo de j with
   | some ds=>if ds.length < lim then match xc lev e d j de lv with
    | some (de1,lv1)=>.next (de1.set j (some (.lst (ds++[d])))) lv1
    | none=>.no
    else .no
   | none=>.no:=rfl
@[simp] theorem zjo (j:Nat):exD lev cl (.expr (.meth .reverse (.var j) .unit)) de lv=match xo de j with
   | some ds=>if yi lv j then .next (de.set j (some (.lst ds.reverse))) lv else .no
   | none=>.no:=rfl
theorem yH (i:Nat)(it:Ex)(body:Sm):exD lev cl (.forv i it body) de lv=(evD cl it de).bindS λd=>match itD d with
  | some xs=>y7 (λx de lv=>exD lev cl body (de.set i (some x)) (lv.set i (lvF x))) xs de (if flat d then lv else y6 it de lv)
  | none=>.no:=rfl
theorem zfd (i j:Nat)(it:Ex)(body:Sm):exD lev cl (.fort i j it body) de lv=(evD cl it de).bindS λd=>match itD d with
  | some xs=>y7 (λx de lv=>match x with
    | .tup [a,b]=>exD lev cl body ((de.set i (some a)).set j (some b)) ((lv.set i (lvF a)).set j (lvF b))
    | _=>.no) xs de (if flat d then lv else y6 it de lv)
  | none=>.no:=rfl
noncomputable def Rsd.then (r:Rsd)(f:DEn->List Lv->Rsd):Rsd:=match r with
 | .next d l=>f d l
 | r=>r
@[simp] theorem zf (d:DEn)(l:List Lv)(f:DEn->List Lv->Rsd):(Rsd.next d l).then f=f d l:=rfl
@[simp] theorem ziS (d:Dat)(l:Lv)(f:DEn->List Lv->Rsd):(Rsd.ret d l).then f=.ret d l:=rfl
theorem zQ {a b:Sm}(h:yu a b=none):exD lev cl (.seq a b) de lv=(exD lev cl a de lv).then (exD lev cl b):=by
 rw[j2,h];cases exD lev cl a de lv <;> rfl
theorem zdg (a:Sm)(c d:Sm):yu a (.seq c d)=none:=rfl
@[simp] theorem zz (a:Sm)(c d:Sm):exD lev cl (.seq a (.seq c d)) de lv=(exD lev cl a de lv).then (exD lev cl (.seq c d)):=zQ lev cl de lv (zdg a c d)
theorem zdh (a:Sm)(e:Ex):yu a (.ret e)=none:=rfl
@[simp] theorem ya (a:Sm)(e:Ex):exD lev cl (.seq a (.ret e)) de lv=(exD lev cl a de lv).then (exD lev cl (.ret e)):=zQ lev cl de lv (zdh a e)
theorem kU (a:Sm)(c:Ex)(x y:Sm):yu a (.ite c x y)=none:=rfl
@[simp] theorem zdi (a:Sm)(c:Ex)(x y:Sm):exD lev cl (.seq a (.ite c x y)) de lv=(exD lev cl a de lv).then (exD lev cl (.ite c x y)):=zQ lev cl de lv (kU a c x y)
theorem zbz (a:Sm)(i:Nat)(e:Ex)(x:Sm):yu a (.forv i e x)=none:=rfl
@[simp] theorem zjp (a:Sm)(i:Nat)(e:Ex)(x:Sm):exD lev cl (.seq a (.forv i e x)) de lv=(exD lev cl a de lv).then (exD lev cl (.forv i e x)):=zQ lev cl de lv (zbz a i e x)
theorem zbA (a:Sm)(i j:Nat)(e:Ex)(x:Sm):yu a (.fort i j e x)=none:=rfl
@[simp] theorem zjq (a:Sm)(i j:Nat)(e:Ex)(x:Sm):exD lev cl (.seq a (.fort i j e x)) de lv=(exD lev cl a de lv).then (exD lev cl (.fort i j e x)):=zQ lev cl de lv (zbA a i j e x)
theorem zaa (a:Sm)(e:Ex)(x:Sm):yu a (.while e x)=none:=rfl
@[simp] theorem ziT (a:Sm)(e:Ex)(x:Sm):exD lev cl (.seq a (.while e x)) de lv=(exD lev cl a de lv).then (exD lev cl (.while e x)):=zQ lev cl de lv (zaa a e x)
theorem zdj (a:Sm)(i:Nat)(e:Ex):yu a (.asg i e)=none:=rfl
@[simp] theorem zdk (a:Sm)(i:Nat)(e:Ex):exD lev cl (.seq a (.asg i e)) de lv=(exD lev cl a de lv).then (exD lev cl (.asg i e)):=zQ lev cl de lv (zdj a i e)
theorem zdl (a:Sm)(i:Nat)(op:Bo)(e:Ex):yu a (.aug i op e)=none:=rfl
@[simp] theorem zjO (a:Sm)(i:Nat)(op:Bo)(e:Ex):exD lev cl (.seq a (.aug i op e)) de lv=(exD lev cl a de lv).then (exD lev cl (.aug i op e)):=zQ lev cl de lv (zdl a i op e)
theorem zbB (a:Sm)(e:Ex):yu a (.expr e)=none:=rfl
@[simp] theorem wp (a:Sm)(e:Ex):exD lev cl (.seq a (.expr e)) de lv=(exD lev cl a de lv).then (exD lev cl (.expr e)):=zQ lev cl de lv (zbB a e)
theorem zbC (a:Sm): yu a .skip=none:=rfl
@[simp] theorem zjr (a:Sm): exD lev cl (.seq a .skip) de lv=(exD lev cl a de lv).then (exD lev cl .skip):=zQ lev cl de lv (zbC a)
theorem zab (a:Sm): yu a .never=none:=rfl
@[simp] theorem ziU (a:Sm): exD lev cl (.seq a .never) de lv=(exD lev cl a de lv).then (exD lev cl .never):=zQ lev cl de lv (zab a)
end
namespace Lib
section
noncomputable def row (r:List Int):Dat:=.lst (r.map .int)
noncomputable def tab (R:List (List Int)):Dat:=.lst (R.map row)
noncomputable def vW (t:Int)(b:Bool):Bool:=if b then ! decide (t=1) else !(decide (t=0) || decide (t=1))
end
end Lib
namespace Lib
section
noncomputable def S (R:List (List Int))(r c:Nat):Int:=((R.take r).map (λx=>x.getD c 0)).sum
noncomputable def ac (R:List (List Int))(r c:Nat):Int:=((R.getD r []).take c).sum
noncomputable def bad (R:List (List Int))(r c:Nat):Bool:=vW (ac R r (c+1)) (decide ((c:Int)=(R.length:Int) - 1)) || vW (S R (r+1) c) (decide ((r:Int)=(R.length:Int) - 1))
def Sq (R:List (List Int)):Prop:=∀r∈R,r.length=R.length
theorem wq {R:List (List Int)}{r:Nat}{x:List Int}(h:R[r]?=some x):yk (tab R) (.int (r:Int))=.ok (row x):=zaT (by simp[h])
theorem wT {x:List Int}{c:Nat}{v:Int}(h:x[c]?=some v):yk (row x) (.int (c:Int))=.ok (.int v):=zaT (by simp[h])
theorem j7 (R:List (List Int))(r c:Nat)(x:List Int)(h:R[r]?=some x):S R (r+1) c=S R r c+x.getD c 0:=by
 unfold S;rw[List.take_add_one,h];simp
theorem zhl {R:List (List Int)}(h:Sq R){r c:Nat}(hr:r < R.length)(hc:c < R.length):∃x v,R[r]?=some x/\x[c]?=some v/\x.getD c 0=v:=by
 have hm:R[r]∈R:=List.getElem_mem hr;have hl:=h _ hm;refine ⟨R[r],R[r][c],List.getElem?_eq_getElem hr,List.getElem?_eq_getElem (by lia),?_⟩;rw[List.getD_eq_getElem?_getD,List.getElem?_eq_getElem (by lia)];rfl
end
end Lib
namespace Lib
section
variable {lev:Nat->Lv}{cl:Nat->List Dat->Rd}{k:Nat}
noncomputable def qf:Fn:=⟨2,2,(.seq (.ite (.cmp .lt (.var 1) (.blt .len (.pair (.var 0) .unit))) (.ret (.idx (.var 0) (.var 1))) .skip) (.ret (.bin .add (.bin .mul (.lit (.int 2)) (.var 1)) (.lit (.int 1)))))⟩
theorem zdm (ns:List Int)(i:Nat):∃c:Int,zq lev cl k qf [.scr ns,.int i]=.ok (.int c):=by
 by_cases h:i < ns.length
 .refine ⟨ns[i],?_⟩;have h1:yk (.scr ns) (.int (i:Int))=.ok (.int ns[i]):=by simp[yk,wD,zdf h,h]
  simp[zq,qf,yE,yF,zt,lvR,h,h1]
 .refine ⟨2 * i+1,?_⟩;simp[zq,qf,yE,yF,zt,lvR,h,yO 2 i (by decide)]
def Inc (x:List Int):Prop:=∀i,i+1 < x.length->x.getD i 0 < x.getD (i+1) 0
def zdn (big sm:List Int):Prop:=big.length=sm.length+1/\∀i,i < sm.length->big.getD i 0<=sm.getD i 0/\sm.getD i 0<=big.getD (i+1) 0
theorem xh {x:List Int}{i:Nat}{v:Int}(h:x[i]?=some v):x.getD i 0=v:=by rw[List.getD_eq_getElem?_getD,h];rfl
theorem j8 {x:List Int}{i:Nat}(h:i < x.length):x[i]?=some (x.getD i 0):=by
 rw[List.getD_eq_getElem?_getD,List.getElem?_eq_getElem h];rfl
end
end Lib
namespace Lib
section
theorem xP {x:List Int}{v:Int}{i:Nat}(h:i < x.length):(x++[v]).getD i 0=x.getD i 0:=by
 simp[List.getD_eq_getElem?_getD,List.getElem?_append_left h]
theorem vX {x:List Int}{v:Int}:(x++[v]).getD x.length 0=v:=by
 simp[List.getD_eq_getElem?_getD]
theorem j9 {x:List (List Int)}{v:List Int}{i:Nat}(h:i < x.length):(x++[v]).getD i []=x.getD i []:=by
 simp[List.getD_eq_getElem?_getD,List.getElem?_append_left h]
theorem xy {x:List (List Int)}{v:List Int}:(x++[v]).getD x.length []=v:=by
 simp[List.getD_eq_getElem?_getD]
theorem Inc.app {x:List Int}{v:Int}(h:Inc x)(hv:0 < x.length->x.getD (x.length - 1) 0 < v):Inc (x++[v]):=by
 intro i hi;simp only[List.length_append,List.length_cons,List.length_nil] at hi;by_cases z:i+1 < x.length
 .rw[xP (by lia),xP z];exact h i z
 .have e:i+1=x.length:=by lia
  rw[xP (by lia),e,vX];have:=hv (by lia)
  rwa [show x.length - 1=i by lia] at this
noncomputable def yP (n:Nat):List Int:=(List.range n).map λ(i:Nat)=>(i:Int)
theorem zac (n:Nat):Dat.lst (ym 0 1 n)=row (yP n):=by
 unfold row yP ym;rw[List.map_map];congr 1;apply List.map_congr_left;intro i _;simp
structure TriL (n:Nat)(L:List (List Int)):Prop where
 first:L.getD 0 []=yP n
 len:∀j,j < L.length->(L.getD j []).length+j=n
 inc:∀j,j < L.length->Inc (L.getD j [])
 bd:∀j,j < L.length->∀i,i < (L.getD j []).length->0<=(L.getD j []).getD i 0/\(L.getD j []).getD i 0 < n
 lace:∀j,j+1 < L.length->zdn (L.getD j []) (L.getD (j+1) [])
theorem vc {n i:Nat}(h:i < n):(yP n).getD i 0=i:=xh (by simp[yP,h])
theorem TriL.one (n:Nat):TriL n [yP n]:=by
 refine ⟨rfl,?_,?_,?_,?_⟩
 .intro j hj;simp at hj;subst hj;simp[yP]
 .intro j hj i hi;simp at hj;subst hj;simp only[List.getD_cons_zero] at hi ⊢;have:i+1 < n:=by simpa [yP] using hi
  rw[vc (by lia),vc this];lia
 .intro j hj i hi;simp at hj;subst hj;simp only[List.getD_cons_zero] at hi ⊢;have:i < n:=by simpa [yP] using hi
  rw[vc this];lia
 .intro j hj;simp at hj
theorem TriL.app {n:Nat}{L:List (List Int)}{x:List Int}(h:TriL n L)(hL:0 < L.length)(hi:Inc x)(hl:zdn (L.getD (L.length - 1) []) x):TriL n (L++[x]):=by
 have e:=h.len (L.length - 1) (by lia);have lt:∀ {j},j < L.length->(L++[x]).getD j []=L.getD j []:=λhj=>j9 hj;refine ⟨by rw[lt hL];exact h.first,?_,?_,?_,?_⟩
 .intro j hj;by_cases z:j < L.length
  .rw[lt z];exact h.len j z
  .have:j=L.length:=by simp at hj;lia
   subst this;rw[xy];have:=hl.1;lia
 .intro j hj;by_cases z:j < L.length
  .rw[lt z];exact h.inc j z
  .have:j=L.length:=by simp at hj;lia
   subst this;rw[xy];exact hi
 .intro j hj i hi';by_cases z:j < L.length
  .rw[lt z] at hi' ⊢;exact h.bd j z i hi'
  .have:j=L.length:=by simp at hj;lia
   subst this;rw[xy] at hi' ⊢;have h1:=hl.2 i hi';have h2:=h.bd (L.length - 1) (by lia) i (by have:=hl.1;lia);have h3:=h.bd (L.length - 1) (by lia) (i+1) (by have:=hl.1;lia);lia
 .intro j hj;simp only[List.length_append,List.length_cons,List.length_nil] at hj;by_cases z:j+1 < L.length
  .rw[lt (by lia),lt z];exact h.lace j z
  .have e2:j+1=L.length:=by lia
   rw[lt (by lia),e2,xy]
   rwa [show L.length - 1=j by lia] at hl
end
end Lib
namespace Lib
section
theorem zE {β:Type}{c e:β->Rd}{α:Type}(f:α->β)(g:α->Dat):∀ (xs:List α) (acc:List Dat),(∀x∈xs,c (f x)=.ok (.bl true))->(∀x∈xs,e (f x)=.ok (g x))->acc.length+xs.length<=lim->ye c e (xs.map f) acc=.ok (.lst (acc++xs.map g))
 | [],acc,_,_,h=>by unfold ye;rw[List.map_nil];simp only;rw[yG (by simpa using h)];simp
 | x::xs,acc,hc,he,h=>by
  rw[List.map_cons];unfold ye;simp only[List.length_cons] at h;rw[hc x (by simp)];simp only[zjT];rw[he x (by simp)];simp only[zjT];rw[if_pos (by lia),zE f g xs (acc++[g x]) (λy hy=>hc y (by simp[hy])) (λy hy=>he y (by simp[hy])) (by simp;lia)];simp
theorem y9 {c e:Dat->Rd}(a s:Int)(n:Nat)(g:Nat->Dat)(hc:∀i,i < n->c (.int (a+s * (i:Int)))=.ok (.bl true))(he:∀i,i < n->e (.int (a+s * (i:Int)))=.ok (g i))(h:n<=lim):ye c e (ym a s n) []=.ok (.lst ((List.range n).map g)):=by
 unfold ym;rw[zE (λ(i:Nat)=>Dat.int (a+s * (i:Int))) g (List.range n) [] (λi hi=>hc i (by simpa using hi)) (λi hi=>he i (by simpa using hi)) (by simpa using h)];simp
noncomputable def mem (x:List Int)(c:Int):Bool:=x.any (λv=>decide (v=c))
theorem qg (x:List Int)(c:Int):yz .isin (.int c) (row x)=.ok (.bl (mem x c)):=by
 have h:eqOkL yT (x.map Dat.int)=true:=by
  rw[yX];simp
 have h2:(x.map Dat.int).any (λy=>deq y (.int c))=mem x c:=by
  simp only[mem,List.any_map];congr 1
 simp only[yz,row,wD,inD];rw[h,h2];simp[qU]
noncomputable def xa (n:Nat)(x y:List Int):List Int:=(List.range n).map λ(c:Nat)=>b2i (mem x c) - b2i (mem y c)
noncomputable def zY (X:List (List Int))(i:Nat):List Int:=if i=0 then [] else X.getD (i - 1) []
noncomputable def sg (X:List (List Int)):List (List Int):=(List.range X.length).map λi=>xa X.length (X.getD i []) (zY X i)
end
end Lib
namespace Lib
structure Tri (n:Nat)(X:List (List Int)):Prop where
 len:X.length=n
 rlen:∀j,j < n->(X.getD j []).length=j+1
 inc:∀j,j < n->Inc (X.getD j [])
 bd:∀j,j < n->∀i,i < j+1->0<=(X.getD j []).getD i 0/\(X.getD j []).getD i 0 < n
 lace:∀j,j+1 < n->zdn (X.getD (j+1) []) (X.getD j [])
 last:X.getD (n - 1) []=yP n
theorem Tri.of {n:Nat}{L:List (List Int)}(hn:1<=n)(h:TriL n L)(hl:L.length=n):Tri n L.reverse:=by
 have g:∀j,j < n->L.reverse.getD j []=L.getD (n - 1 - j) []:=by
  intro j hj;rw[List.getD_eq_getElem?_getD,List.getD_eq_getElem?_getD,List.getElem?_reverse (by lia),hl]
 refine ⟨by simp[hl],λj hj=>?_,λj hj=>?_,λj hj i hi=>?_,λj hj=>?_,?_⟩
 .rw[g j hj];have:=h.len (n - 1 - j) (by lia);lia
 .rw[g j hj];exact h.inc _ (by lia)
 .rw[g j hj];have:=h.len (n - 1 - j) (by lia);exact h.bd _ (by lia) i (by lia)
 .rw[g (j+1) hj,g j (by lia)];have:=h.lace (n - 1 - (j+1)) (by lia)
  rwa [show n - 1 - (j+1)+1=n - 1 - j by lia] at this
 .rw[g (n - 1) (by lia),show n - 1 - (n - 1)=0 by lia];exact h.first
theorem Inc.lt {x:List Int}(h:Inc x):∀ {i j:Nat},i < j->j < x.length->x.getD i 0 < x.getD j 0:=by
 intro i j hij
 induction j with
 | zero=>lia
 | succ j ih =>
  intro hj;have h1:=h j hj;by_cases z:i=j
  .subst z;exact h1
  .have:=ih (by lia) (by lia);lia
theorem Inc.nodup {x:List Int}(h:Inc x):x.Nodup:=by
 rw[List.Nodup,List.pairwise_iff_getElem];intro i j hi hj hij e;have:=h.lt hij hj;rw[xh (List.getElem?_eq_getElem hi),xh (List.getElem?_eq_getElem hj)] at this;lia
theorem zaU {x:List Int}{v:Int}(h:v∈x):∃i,i < x.length/\x.getD i 0=v:=by
 obtain ⟨i,hi,e⟩:=List.getElem_of_mem h;exact ⟨i,hi,xh (by rw[List.getElem?_eq_getElem hi,e])⟩
noncomputable def cnt (x:List Int)(c:Nat):Int:=((List.range c).map λ(j:Nat)=>b2i (mem x j)).sum
noncomputable def low (x:List Int)(c:Nat):Int:=(x.map λ(v:Int)=>b2i (decide (v < (c:Int)))).sum
theorem kW (x:List Int)(c:Nat):cnt x (c+1)=cnt x c+b2i (mem x c):=by
 simp[cnt,List.range_succ]
theorem zdo (x:List Int)(nd:x.Nodup)(c:Nat):low x (c+1)=low x c+b2i (mem x c):=by
 induction x with
 | nil=>simp[low,mem,b2i]
 | cons v x ih =>
  obtain ⟨hv,nd⟩:=List.nodup_cons.mp nd;have ih:=ih nd;have e1:low (v::x) (c+1)=b2i (decide (v < (c+1:Nat)))+low x (c+1):=by simp[low]
  have e2:low (v::x) c=b2i (decide (v < c))+low x c:=by simp[low]
  have e3:mem (v::x) c=(decide (v=c) || mem x c):=by simp[mem]
  rw[e1,e2,e3,ih];by_cases h:v=c
  .have:mem x c=false:=by
    rw[mem,List.any_eq_false];intro w hw;simp only[decide_eq_true_eq];intro e;exact hv (by rw[h,<- e];exact hw)
   rw[this];simp[h,b2i];lia
  .have:decide (v < (c+1:Nat))=decide (v < c):=by
    by_cases q:v < c
    .simp[q];lia
    .simp[q];lia
   rw[this];simp[h];lia
theorem zdp {x:List Int}(h:∀v∈x,0<=v):low x 0=0:=by
 induction x with
 | nil=>rfl
 | cons v x ih =>
  have e:low (v::x) 0=b2i (decide (v < (0:Nat)))+low x 0:=by simp[low]
  rw[e,ih (λw hw=>h w (by simp[hw]))];have:=h v (by simp);have:¬ v < ((0:Nat):Int):=by simp;lia
  rw[decide_eq_false this];rfl
theorem kj {x:List Int}(nd:x.Nodup)(h:∀v∈x,0<=v):∀c,cnt x c=low x c
 | 0=>by rw[zdp h];rfl
 | c+1=>by rw[kW,zdo x nd,kj nd h c]
theorem kX {x:List Int}{n:Nat}(h:∀v∈x,v < n):low x n=x.length:=by
 induction x with
 | nil=>rfl
 | cons v x ih =>
  have e:low (v::x) n=b2i (decide (v < n))+low x n:=by simp[low]
  rw[e,ih (λw hw=>h w (by simp[hw])),decide_eq_true (h v (by simp))];simp[b2i];lia
theorem zad {c:Nat}:∀ (sm big:List Int),sm.length<=big.length->(∀i,i < sm.length->big.getD i 0<=sm.getD i 0)->low sm c<=low big c
 | [],big,_,_=>by
  have:∀x:List Int,0<=low x c:=by
   intro x
   induction x with
   | nil=>exact Int.le_refl _
   | cons v x ih =>
    have e:low (v::x) c=b2i (decide (v < c))+low x c:=by simp[low]
    rw[e];unfold b2i;split <;> lia
  exact this big
 | s::sm,[],h,_=>by simp at h
 | s::sm,b::big,h,q=>by
  have e1:low (s::sm) c=b2i (decide (s < c))+low sm c:=by simp[low]
  have e2:low (b::big) c=b2i (decide (b < c))+low big c:=by simp[low]
  have h0:=q 0 (by simp);simp only[List.getD_cons_zero] at h0;have ih:=zad (c:=c) sm big (by simpa using h) (λi hi=>by simpa using q (i+1) (by simpa using hi));rw[e1,e2];have:b2i (decide (s < c))<=b2i (decide (b < c)):=by
   by_cases z:s < c
   .rw[decide_eq_true z,decide_eq_true (by lia)];exact Int.le_refl _
   .rw[decide_eq_false z];unfold b2i;simp;split <;> lia
  lia
theorem zdq {big sm:List Int}{c:Nat}(h:zdn big sm):low sm c<=low big c/\low big c<=low sm c+1:=by
 obtain ⟨hl,h⟩:=h;refine ⟨zad sm big (by lia) (λi hi=>(h i hi).1),?_⟩;cases big with
 | nil=>simp at hl
 | cons b bs =>
  have e2:low (b::bs) c=b2i (decide (b < c))+low bs c:=by simp[low]
  have:=zad (c:=c) bs sm (by simp at hl;lia) (λi hi=>by have:=(h i (by simp at hl;lia)).2;simpa using this);rw[e2];have:b2i (decide (b < c))<=1:=by unfold b2i;split <;> lia
  lia
theorem vd (X:List (List Int)):(sg X).length=X.length:=by simp[sg]
theorem ga {X:List (List Int)}{r:Nat}(h:r < X.length):(sg X)[r]?=some (xa X.length (X.getD r []) (zY X r)):=by simp[sg,h]
theorem zbD (n:Nat)(x y:List Int):(xa n x y).length=n:=by simp[xa]
theorem zbE {n c:Nat}(x y:List Int)(h:c < n):(xa n x y).getD c 0=b2i (mem x c) - b2i (mem y c):=xh (by simp[xa,h])
theorem zbF {n:Nat}(x y:List Int):∀ {c:Nat},c<=n->((xa n x y).take c).sum=cnt x c - cnt y c:=by
 intro c hc
 induction c with
 | zero=>simp[cnt]
 | succ c ih =>
  rw[List.take_add_one,kW,kW,List.sum_append,ih (by lia)];have:(xa n x y)[c]?=some (b2i (mem x c) - b2i (mem y c)):=by simp[xa,show c < n by lia]
  rw[this];simp;lia
theorem ziV (X:List (List Int)):Sq (sg X):=by
 intro r hr;simp only[sg,List.mem_map] at hr;obtain ⟨i,_,rfl⟩:=hr;rw[zbD,vd]
theorem ziW (X:List (List Int)){c:Nat}(hc:c < X.length):∀ {r:Nat},r<=X.length->S (sg X) r c=b2i (mem (zY X r) c):=by
 intro r
 induction r with
 | zero=>intro _;simp[S,zY,mem,b2i]
 | succ r ih =>
  intro hr;rw[j7 (sg X) r c _ (ga (by lia)),ih (by lia),zbE _ _ hc];have:zY X (r+1)=X.getD r []:=by simp[zY]
  rw[this];lia
theorem zae {n c:Nat}(h:c < n):mem (yP n) c=true:=by
 rw[mem,List.any_eq_true];exact ⟨c,List.mem_map.mpr ⟨c,by simpa using h,rfl⟩,by simp⟩
theorem zhm {n:Nat}{X:List (List Int)}(h:Tri n X){r c:Nat}(hr:r < n)(hc:c < n):bad (sg X) r c=false:=by
 have hX:=h.len;have b01:∀b:Bool,b2i b=0\/b2i b=1:=by intro b;cases b <;> simp[b2i]
 have hbd:∀j,j < n->∀v∈X.getD j [],0<=v/\v < n:=by
  intro j hj v hv;obtain ⟨i,hi,rfl⟩:=zaU hv;rw[h.rlen j hj] at hi;exact h.bd j hj i hi
 have hac:ac (sg X) r (c+1)=low (X.getD r []) (c+1) - low (zY X r) (c+1):=by
  unfold ac;rw[List.getD_eq_getElem?_getD,ga (by lia)];show ((xa X.length (X.getD r []) (zY X r)).take (c+1)).sum=_;rw[zbF _ _ (by lia),kj (h.inc r hr).nodup (λv hv=>(hbd r hr v hv).1)];congr 1;unfold zY;split
  .exact kj List.nodup_nil (by simp) _
  .exact kj (h.inc _ (by lia)).nodup (λv hv=>(hbd _ (by lia) v hv).1) _
 have hrange:(ac (sg X) r (c+1)=0\/ac (sg X) r (c+1)=1)/\(c=n - 1->ac (sg X) r (c+1)=1):=by
  rw[hac];by_cases z:r=0
  .subst z;have e:zY X 0=[]:=rfl;have e0:low (zY X 0) (c+1)=0:=rfl;have hl:(X.getD 0 []).length=1:=h.rlen 0 hr;have:low (X.getD 0 []) (c+1)=0\/low (X.getD 0 []) (c+1)=1:=by
    cases hx:X.getD 0 [] with
    | nil=>rw[hx] at hl;cases hl
    | cons v x =>
     rw[hx] at hl;have:x=[]:=List.eq_nil_of_length_eq_zero (by simpa using hl);subst this;have:=b01 (decide (v < ((c+1:Nat):Int)));simpa [low] using this
   refine ⟨by lia,λec=>?_⟩;have hf:low (X.getD 0 []) (c+1)=(X.getD 0 []).length:=kX (λv hv=>by have:=(hbd 0 hr v hv).2;lia);rw[hf,hl,e0];rfl
  .have e:zY X r=X.getD (r - 1) []:=by simp[zY,z]
   have hla:=h.lace (r - 1) (by lia);rw[show r - 1+1=r by lia] at hla;have:=zdq (c:=c+1) hla;rw[e];refine ⟨by lia,λec=>?_⟩;have hf:low (X.getD r []) (c+1)=(X.getD r []).length:=kX (λv hv=>by have:=(hbd r hr v hv).2;lia);have hg:low (X.getD (r - 1) []) (c+1)=(X.getD (r - 1) []).length:=kX (λv hv=>by have:=(hbd (r - 1) (by lia) v hv).2;lia);rw[hf,hg,h.rlen r hr,h.rlen (r - 1) (by lia)];lia
 have hS:S (sg X) (r+1) c=b2i (mem (X.getD r []) c):=by
  rw[ziW X (by lia) (by lia)];simp[zY]
 have hSr:(S (sg X) (r+1) c=0\/S (sg X) (r+1) c=1)/\(r=n - 1->S (sg X) (r+1) c=1):=by
  rw[hS];refine ⟨b01 _,λe=>?_⟩;rw[e,h.last,zae hc];rfl
 have off:∀ (t:Int) (b:Bool),(t=0\/t=1)->(b=true->t=1)->vW t b=false:=by
  intro t b h1 h2;cases b with
  | true=>simp[vW,h2 rfl]
  | false=>rcases h1 with h | h <;> simp[vW,h]
 unfold bad;rw[Bool.or_eq_false_iff];refine ⟨off _ _ hrange.1 λe=>hrange.2 ?_,off _ _ hSr.1 λe=>hSr.2 ?_⟩
 .simp only[decide_eq_true_eq,vd] at e;lia
 .simp only[decide_eq_true_eq,vd] at e;lia
end Lib
namespace Lib
section
variable {lev:Nat->Lv}{cl:Nat->List Dat->Rd}{k:Nat}
theorem vL {β:Type}{c e:β->Rd}{α:Type}(f:α->β)(p:α->Bool)(g:α->Dat):∀ (xs:List α) (acc:List Dat),(∀x∈xs,c (f x)=.ok (.bl (p x)))->(∀x∈xs,p x=true->e (f x)=.ok (g x))->acc.length+xs.length<=lim->ye c e (xs.map f) acc=.ok (.lst (acc++(xs.filter p).map g))
 | [],acc,_,_,h=>by unfold ye;rw[List.map_nil];simp only;rw[yG (by simpa using h)];simp
 | x::xs,acc,hc,he,h=>by
  rw[List.map_cons];unfold ye;simp only[List.length_cons] at h;rw[hc x (by simp)];simp only[zjT];cases hp:p x with
  | true =>
   rw[he x (by simp) hp];simp only[zjT];rw[if_pos (by lia),vL f p g xs (acc++[g x]) (λy hy=>hc y (by simp[hy])) (λy hy=>he y (by simp[hy])) (by simp;lia)];simp[hp]
  | false =>
   rw[vL f p g xs acc (λy hy=>hc y (by simp[hy])) (λy hy=>he y (by simp[hy])) (by lia)];simp[hp]
theorem vM {α β:Type}{xs:List α}{ys:List β}{i:Nat}{a:α}{b:β}(h:xs[i]?=some a)(h2:ys[i]?=some b):(xs.zip ys)[i]?=some (a,b):=List.getElem?_zip_eq_some.mpr ⟨h,h2⟩
noncomputable def zG (R:List (List Int))(i:Nat):List Int:=(List.range R.length).map λc=>S R i c
noncomputable def yY (R:List (List Int)):List (List Int):=(List.range (R.length+1)).map (zG R)
theorem kY (R:List (List Int)):Dat.lst (List.replicate R.length [Dat.int 0]).flatten=row (zG R 0):=by
 have:(List.replicate R.length [Dat.int 0]).flatten=List.replicate R.length (Dat.int 0):=by
  generalize R.length=n
  induction n with
  | zero=>rfl
  | succ n ih=>rw[List.replicate_succ,List.flatten_cons,ih,List.replicate_succ];rfl
 rw[this];unfold row zG;congr 1;rw[List.map_map];refine List.ext_getElem? λi=>?_;by_cases h:i < R.length
 .simp[h,S]
 .simp[h]
theorem zaV (a b:List Int):y4 .zip (row a) (row b)=if a.length<=lim/\b.length<=lim then some ((a.zip b).map λp=>(Dat.int p.1,Dat.int p.2)) else none:=by
 simp only[y4,row,List.length_map];rw[List.zip_map];rfl
theorem jD {R:List (List Int)}(h:Sq R){i:Nat}(hi:i < R.length):((zG R i).zip (R.getD i [])).map (λp=>p.1+p.2)=zG R (i+1):=by
 obtain ⟨x,hx⟩:∃x,R[i]?=some x:=⟨R[i],by simp[hi]⟩;have hg:R.getD i []=x:=by rw[List.getD_eq_getElem?_getD,hx];rfl
 have hl:x.length=R.length:=h x (List.mem_of_getElem? hx);rw[hg];refine List.ext_getElem? λc=>?_;by_cases hc:c < R.length
 .have e1:(zG R i)[c]?=some (S R i c):=by simp[zG,hc]
  have e2:x[c]?=some (x.getD c 0):=j8 (by lia);have e3:(zG R (i+1))[c]?=some (S R (i+1) c):=by simp[zG,hc]
  rw[e3,j7 R i c x hx,List.getElem?_map,vM e1 e2];rfl
 .rw[List.getElem?_eq_none (by simp[zG];lia),List.getElem?_eq_none (by simp[zG];lia)]
noncomputable def zaW:Sm:=(.seq (.asg 1 (.compP .zip (.bin .add (.var 4) (.var 5)) (.var 1) (.var 3) (.lit (.bl true)))) (.expr (.meth .append (.var 2) (.pair (.var 1) .unit))))
noncomputable def zfQ:Fn:=⟨1,4,(.seq (.asg 1 (.bin .mul (.lst (.pair (.lit (.int 0)) .unit)) (.blt .len (.pair (.var 0) .unit)))) (.seq (.asg 2 (.lst (.pair (.var 1) .unit))) (.seq (.forv 3 (.var 0) zaW) (.ret (.var 2)))))⟩
theorem xH (e:Ex)(x:List Int)(he:∀i:Int,lvE lev e (.int i)=.full):(x.map Dat.int).all (λd=>lvE lev e d == .full)=true:=by
 rw[List.all_map,List.all_eq_true];intro v _;simp[he]
theorem zbG {R:List (List Int)}(h:Sq R)(hn:R.length<=100){i:Nat}(hi:i < R.length){A:List (List Int)}(hA:A.length < lim){l1:Lv}:
  exD lev cl zaW [some (tab R),some (row (zG R i)),some (tab A),some (row (R.getD i []))] [.no,l1,.top,.no]=.next [some (tab R),some (row (zG R (i+1))),some (tab (A++[zG R (i+1)])),some (row (R.getD i []))] [.no,.no,.top,.no]:=by
 have hx:(R.getD i []).length=R.length:=by
  have hg:R.getD i []=R[i]:=by rw[List.getD_eq_getElem?_getD,List.getElem?_eq_getElem hi];rfl
  rw[hg];exact h _ (List.getElem_mem hi)
 have hev:evD cl (.compP .zip (.bin .add (.var 4) (.var 5)) (.var 1) (.var 3) (.lit (.bl true))) [some (tab R),some (row (zG R i)),some (tab A),some (row (R.getD i []))]=.ok (row (zG R (i+1))):=by
  rw[y8];simp only[za,zd,zjT,zaV];rw[if_pos (by rw[hx];simp[zG];unfold lim;lia)];simp only;rw[zE (λ(p:Int×Int)=>(Dat.int p.1,Dat.int p.2)) (λp=>.int (p.1+p.2)) _ [] (λp _=>by simp) (λp _=>by simp) (by rw[List.length_zip,hx];simp[zG];unfold lim;lia)];rw[<- jD h hi];simp[row]
 have hlv:lvE lev (.compP .zip (.bin .add (.var 4) (.var 5)) (.var 1) (.var 3) (.lit (.bl true))) (row (zG R (i+1)))=.full:=by
  unfold row
  first | rw[yD] | rw[yf]
  simp only[yh,Bool.false_eq_true,if_false];rw[if_pos (xH _ _ λi=>by simp)]
 unfold zaW;rw[wp,zu,hev];simp only[zjU];rw[zM hlv];simp only[zf,List.set_cons_succ,List.set_cons_zero];rw[wS];simp only[za,zd,zjR];have hls:xo [some (tab R),some (row (zG R (i+1))),some (tab A),some (row (R.getD i []))] 2=some (A.map row):=rfl;rw[hls];simp only[List.length_map];rw[if_pos hA];simp[xc,yi,row,downs,tab]
theorem zdr {R:List (List Int)}(h:Sq R)(hn:R.length<=100)(hlev:lev k=.no):zq lev cl k zfQ [tab R]=.ok (tab (yY R)):=by
 have main:=zO (body:=λx de lv=>exD lev cl zaW (de.set 3 (some x)) (lv.set 3 (lvF x)))
  (λi de lv=>∃ (p3:Option Dat) (l1 l3:Lv),de=[some (tab R),some (row (zG R i)),some (tab ((yY R).take (i+1))),p3]/\lv=[.no,l1,.top,l3])
  (R.map row) (de:=[some (tab R),some (row (zG R 0)),some (tab [zG R 0]),none]) (lv:=[.no,.no,.top,.full])
  ⟨none,.no,.full,by simp[yY,List.range_succ_eq_map],rfl⟩ ?_
 .obtain ⟨de',lv',e,p3,l1,l3,rfl,rfl⟩:=main;unfold zq;rw[if_pos (by rfl)];show zt (lev k) (exD lev cl (.seq _ (.seq _ (.seq _ _))) [some (tab R),none,none,none] [lvF (tab R),.full,.full,.full])=_;rw[show lvF (tab R)=.no from by simp[lvF,tab],zz];have hlen:yC .len [tab R]=.ok (.int R.length):=by simp[tab]
  have hmul:yy .mul (.lst [.int 0]) (.int R.length)=.ok (row (zG R 0)):=by
   simp only[yy];rw[if_pos (by unfold lim;lia),Int.toNat_natCast,<- kY,yG];simp;unfold lim;lia
  simp only[zu,zy,yI,zi,zh,ze,zC,za,zjT,zg,hlen];rw[yG (by simp;unfold lim;lia)];simp only[zjT,hmul,zjU];rw[zM (by simp[row])];simp only[zf,List.set_cons_succ,List.set_cons_zero];rw[zz];simp only[zu,yI,zi,zh,za,zd,zjT,zg];rw[yG (by simp;unfold lim;lia)];have ha:xY lev 2 (.lst (.pair (.var 1) .unit)) (.lst [row (zG R 0)]) [some (tab R),some (row (zG R 0)),none,none] [.no,.full,.full,.full]=.next [some (tab R),some (row (zG R 0)),some (tab [zG R 0]),none] [.no,.no,.top,.full]:=by
   simp[xY,row,y6,downs,tab]
  simp only[zjU,ha,zf];rw[ya,yH];have hit:itD (tab R)=some (R.map row):=yJ (by simp;unfold lim;lia);have hfl:flat (tab R)=false:=by simp[tab]
  simp only[za,zjU,hit,hfl];have hrel:(if false=true then [Lv.no,Lv.no,Lv.top,Lv.full] else y6 (.var 0) [some (tab R),some (row (zG R 0)),some (tab [zG R 0]),none] [Lv.no,Lv.no,Lv.top,Lv.full])=[.no,.no,.top,.full]:=rfl;rw[hrel,e,zf];rw[List.length_map,List.take_of_length_le (by simp[yY])];simp[zt,lvR,hlev,xT,tab]
 .rintro i x de lv hx ⟨p3,l1,l3,rfl,rfl⟩;have hi:i < R.length:=by
   have:=(List.getElem?_eq_some_iff.mp hx).1;simpa using this
  have hxi:x=row (R.getD i []):=by
   rw[List.getElem?_map,List.getElem?_eq_getElem hi] at hx;cases hx;rw[List.getD_eq_getElem?_getD,List.getElem?_eq_getElem hi];rfl
  subst hxi;refine ⟨_,_,?_,some (row (R.getD i [])),.no,.no,rfl,rfl⟩;simp only[List.set_cons_succ,List.set_cons_zero,show lvF (row (R.getD i []))=.no from by simp[lvF,row]];rw[zbG h hn hi (by simp[yY];unfold lim;lia)];have e2:(yY R).take (i+1+1)=(yY R).take (i+1)++[zG R (i+1)]:=by
   rw[List.take_add_one];congr 1;simp[yY,hi]
  rw[e2]
noncomputable def xp (x:List Int):List Int:=((List.range x.length).filter λi=>decide (x.getD i 0=1)).map λ(i:Nat)=>(i:Int)
theorem kZ (s:Int)(x:List Int)(h:x.length<=lim):y4 .enum (row x) (.int s)=some ((List.range x.length).map λ(i:Nat)=>(Dat.int (s+i),Dat.int (x.getD i 0))):=by
 simp only[y4,row,List.length_map];rw[if_pos h];congr 1;refine List.ext_getElem? λi=>?_;by_cases hi:i < x.length
 .rw[vM (a:=Dat.int (s+i)) (b:=Dat.int (x.getD i 0)) (by rw[yg _ _ _ _ hi,Int.one_mul]) (by rw[List.getElem?_map,j8 hi];rfl)];simp[hi]
 .rw[List.getElem?_eq_none (by simp;lia),List.getElem?_eq_none (by simp;lia)]
def zaX:Fn:=⟨1,1,(.ret (.compP .enum (.var 1) (.var 0) (.lit (.int 0)) (.cmp .eq (.var 2) (.lit (.int 1)))))⟩
theorem zaf (x:List Int)(h:x.length<=100)(hk:lev k≠.top):zq lev cl k zaX [row x]=.ok (row (xp x)):=by
 have hl:x.length<=lim:=by unfold lim;lia
 have hev:evD cl (.compP .enum (.var 1) (.var 0) (.lit (.int 0)) (.cmp .eq (.var 2) (.lit (.int 1)))) [some (row x)]=.ok (row (xp x)):=by
  rw[y8];simp only[za,ze,zjT,kZ _ _ hl];rw[vL (λ(i:Nat)=>(Dat.int (0+(i:Int)),Dat.int (x.getD i 0))) (λi=>decide (x.getD i 0=1)) (λ(i:Nat)=>.int i) _ [] (λi _=>by simp) (λi _ _=>by simp) (by simpa using hl)];simp[row,xp]
 have hlv:lvE lev (.compP .enum (.var 1) (.var 0) (.lit (.int 0)) (.cmp .eq (.var 2) (.lit (.int 1)))) (row (xp x))=.full:=by
  unfold row
  first | rw[yD] | rw[yf]
  simp only[yh,Bool.false_eq_true,if_false];rw[if_pos (xH _ _ λi=>by simp)]
 unfold zq;rw[if_pos (by rfl)];show zt (lev k) (exD lev cl (.ret _) [some (row x)] [lvF (row x)])=_;rw[zJ,hev];simp only[zjU,lvR,zt];rw[show flat (row (xp x))=false from by simp[row]];simp only[Bool.false_eq_true,if_false,hlv,Bool.false_or];cases e:lev k <;> first | rfl | exact absurd e hk
noncomputable def wC (R:List (List Int)):List (List Int):=((yY R).drop 1).map xp
noncomputable def zds (ks kf:Nat):Fn:=⟨1,1,(.ret (.comp (.call kf (.pair (.var 1) .unit)) (.slL (.call ks (.pair (.var 0) .unit)) (.lit (.int 1))) (.lit (.bl true))))⟩
theorem zhn (A:List (List Int))(h:1<=A.length)(h2:A.length<=lim):slD (tab A) (some 1) none=.ok (tab (A.drop 1)):=by
 simp only[slD,tab,lsD,sIx,List.length_map];rw[if_neg (by lia)];rw[show min (1:Int).toNat A.length=1 from by simp;lia];rw[List.take_of_length_le (by simp),yG (by simp;lia),List.map_drop]
theorem zbH {ks kf:Nat}{R:List (List Int)}(hs:cl ks [tab R]=.ok (tab (yY R)))(hf:∀x,x.length<=100->cl kf [row x]=.ok (row (xp x)))(hn:R.length<=100)(hlev:lev kf=.full)(hk:lev k≠.top):zq lev cl k (zds ks kf) [tab R]=.ok (tab (wC R)):=by
 have hev:evD cl (.comp (.call kf (.pair (.var 1) .unit)) (.slL (.call ks (.pair (.var 0) .unit)) (.lit (.int 1))) (.lit (.bl true))) [some (tab R)]=.ok (tab (wC R)):=by
  rw[zW];simp only[zhf,zo,zi,zh,za,ze,zjT,zg,hs];rw[zhn _ (by simp[yY]) (by simp[yY];unfold lim;lia)];have hlim:(((yY R).drop 1).map row).length<=lim:=by simp[yY];unfold lim;lia
  simp only[zjT,tab,yJ hlim];rw[zE row (λx=>row (xp x)) _ [] (λx _=>by simp) (λx hx=>?_) (by simpa using hlim)]
  .simp only[List.nil_append,wC,List.map_map];rfl
  .have:x.length<=100:=by
    have:=List.mem_of_mem_drop hx;simp only[yY,List.mem_map] at this;obtain ⟨i,_,rfl⟩:=this;simpa [zG] using hn
   simp only[List.cons_append,List.nil_append,zo,zi,zh,zd,za,zjT,zg,hf x this]
 have hlv:lvE lev (.comp (.call kf (.pair (.var 1) .unit)) (.slL (.call ks (.pair (.var 0) .unit)) (.lit (.int 1))) (.lit (.bl true))) (tab (wC R))=.full:=by
  have:((wC R).map row).all (λx=>lvE lev (.call kf (.pair (.var 1) .unit)) x == .full)=true:=by
   rw[List.all_map,List.all_eq_true];intro x _;simp[row,hlev]
  unfold tab
  first | rw[yD] | rw[yf]
  simp only[yh,Bool.false_eq_true,if_false];rw[if_pos this]
 unfold zq;rw[if_pos (by rfl)];show zt (lev k) (exD lev cl (.ret _) [some (tab R)] [lvF (tab R)])=_;rw[zJ,hev];simp only[zjU,lvR,zt];rw[show flat (tab (wC R))=false from by simp[tab]];simp only[Bool.false_eq_true,if_false,hlv,Bool.false_or];cases e:lev k <;> first | rfl | exact absurd e hk
end
end Lib
namespace Lib
section
variable {cl:Nat->List Dat->Rd}
theorem Inc.pw {x:List Int}(h:Inc x):x.Pairwise (· < ·):=by
 rw[List.pairwise_iff_getElem];intro i j hi hj hij;have:=h.lt hij hj
 rwa [xh (List.getElem?_eq_getElem hi),xh (List.getElem?_eq_getElem hj)] at this
theorem wr:∀ (n lo:Nat) (x:List Int),x.Pairwise (· < ·)->(∀v∈x,(lo:Int)<=v/\v < lo+n)->((List.range' lo n).filter λ(c:Nat)=>mem x c).map (λ(c:Nat)=>(c:Int))=x
 | 0,lo,x,_,h=>by
  cases x with
  | nil=>rfl
  | cons v x=>have:=h v (by simp);lia
 | n+1,lo,x,hp,h=>by
  rw[List.range'_succ,List.filter_cons];cases x with
  | nil =>
   have:=wr n (lo+1) [] hp (by simp);simpa [mem] using this
  | cons v x =>
   rw[List.pairwise_cons] at hp;have hv:=h v (by simp);by_cases e:v=lo
   .subst e;have e0:mem ((lo:Int)::x) (lo:Int)=true:=by simp[mem]
    rw[if_pos e0,List.map_cons];congr 1;have ih:=wr n (lo+1) x hp.2 (λu hu=>by
     have a:=hp.1 u hu;have b:=h u (by simp[hu])
     lia)
    rw[<- ih];congr 1;refine List.filter_congr λc hc=>?_;rw[List.mem_range'_1] at hc;rw[ih];simp only[mem,List.any_cons];have:¬((lo:Int)=c):=by lia
    simp[this]
   .have e0:mem (v::x) (lo:Int)=false:=by
     rw[mem,List.any_eq_false];intro u hu;rcases List.mem_cons.mp hu with q | q
     .subst q;simpa using e
     .have:=hp.1 u q;have:=hv.1;simp;lia
    rw[if_neg (by rw[e0];simp)];exact wr n (lo+1) (v::x) (List.pairwise_cons.mpr hp) (λu hu=>by
     have b:=h u hu;rcases List.mem_cons.mp hu with q | q
     .subst q;lia
     .have:=hp.1 u q;lia)
theorem zbI {R:List (List Int)}{i c:Nat}(h:c < R.length):(zG R i).getD c 0=S R i c:=xh (by simp[zG,h])
theorem qh (R:List (List Int))(i:Nat):xp (zG R i)=((List.range R.length).filter λc=>decide (S R i c=1)).map λ(c:Nat)=>(c:Int):=by
 have hl:(zG R i).length=R.length:=by simp[zG]
 unfold xp;rw[hl];congr 1;refine List.filter_congr λc hc=>?_;rw[zbI (by simpa using hc)]
theorem Tri.mem_bd {n:Nat}{X:List (List Int)}(h:Tri n X):∀j,j < n->∀v∈X.getD j [],0<=v/\v < n:=by
 intro j hj v hv;obtain ⟨i,hi,rfl⟩:=zaU hv;rw[h.rlen j hj] at hi;exact h.bd j hj i hi
theorem zbJ (R:List (List Int)):(wC R).length=R.length:=by simp[wC,yY]
theorem zbK {R:List (List Int)}{i:Nat}(h:i < R.length):(wC R)[i]?=some (xp (zG R (i+1))):=by
 simp only[wC,List.getElem?_map,List.getElem?_drop,yY];rw[List.getElem?_range (by lia)];simp[Nat.add_comm]
theorem zdt {n:Nat}{X:List (List Int)}(h:Tri n X):wC (sg X)=X:=by
 have hX:=h.len;refine List.ext_getElem? λi=>?_;by_cases hi:i < n
 .rw[zbK (by rw[vd];lia),qh,vd,hX];have e1:((List.range n).filter λc=>decide (S (sg X) (i+1) c=1))=(List.range' 0 n).filter λ(c:Nat)=>mem (X.getD i []) c:=by
   rw[<- List.range_eq_range'];refine List.filter_congr λc hc=>?_;have hc':c < n:=by simpa using hc
   rw[ziW X (by lia) (by lia)];have:zY X (i+1)=X.getD i []:=by simp[zY]
   rw[this];cases mem (X.getD i []) (c:Int) <;> simp[b2i]
  rw[e1,wr n 0 _ (h.inc i hi).pw (λv hv=>by have:=h.mem_bd i hi v hv;lia),List.getD_eq_getElem?_getD,List.getElem?_eq_getElem (by lia)];rfl
 .rw[List.getElem?_eq_none (by rw[zbJ,vd];lia),List.getElem?_eq_none (by lia)]
theorem deqL_refl:∀ (x:List Int),deqL (x.map Dat.int) (x.map Dat.int)=true
 | []=>rfl
 | v::x=>by simp[deqL,deqL_refl x]
theorem vm:∀ (A:List (List Int)),deqL (A.map row) (A.map row)=true
 | []=>rfl
 | v::x=>by simp[deqL,vm x,row,deqL_refl]
theorem jE (A:List (List Int)):yW yT (tab A)=true:=by
 have h:∀x,yW 11 (row x)=true:=λx=>by
  show yW (10+1) (row x)=true;simp only[row,wI];rw[yX,List.all_map];simp
 simp only[tab,j5,wI];rw[yX,List.all_map,List.all_eq_true];intro x _;exact h x
theorem gb (A:List (List Int)):yz .ne (tab A) (tab A)=.ok (.bl false):=by
 simp only[yz,eqD,jE A,Bool.and_self,if_true];simp only[tab,j4,vm];rfl
theorem qi:∀ (x:List Int),jU (x.map Dat.int)=some x.sum
 | []=>rfl
 | v::x=>by simp[jU,qi x]
theorem zfR {R:List (List Int)}(hn:R.length<=100)(hr:∀r∈R,r.length<=100)(de:DEn)(i j:Nat)(hj:de.length=j)(hd:evD cl (.var i) de=.ok (tab R)):evD cl (.comp (.blt .list (.pair (.var j) .unit)) (.var i) (.lit (.bl true))) de=.ok (tab R):=by
 have hlim:(R.map row).length<=lim:=by simp;unfold lim;lia
 rw[zW,hd];simp only[zjT,tab,yJ hlim];rw[zE row row R [] (λx _=>by simp) (λx hx=>?_) (by simpa using hlim)]
 .simp
 .have:evD cl (.var j) (de++[some (row x)])=.ok (row x):=zhe cl _ _ _ (by rw[<- hj];simp);simp only[zC,zi,zh,this,zjT,zg];have:=hr x hx;simp only[yC,row,wD];rw[yG (by simp;unfold lim;lia)]
end
end Lib
namespace Lib
section
variable {lev:Nat->Lv}{cl:Nat->List Dat->Rd}{k:Nat}
noncomputable def zag (i:Int)(x:List Int)(j:Nat):Int:=i+j - 2 * (x.take j).sum
noncomputable def wt (i:Int)(x:List Int):List Int:=(List.range (x.length+1)).map (zag i x)
theorem qj {i:Int}{x:List Int}{j:Nat}(h:j<=x.length):(wt i x)[j]?=some (zag i x j):=by
 simp only[wt,List.getElem?_map];rw[List.getElem?_range (by lia)];rfl
theorem xl {x:List Int}{t:Nat}{v:Int}(h:x[t]?=some v):(x.take (t+1)).sum=(x.take t).sum+v:=by
 rw[List.take_add_one,h,List.sum_append];simp
noncomputable def zdu:Sm:=(.expr (.meth .append (.var 2) (.pair (.bin .sub (.bin .add (.idx (.var 2) (.neg (.lit (.int 1)))) (.lit (.int 1))) (.bin .mul (.lit (.int 2)) (.var 3))) .unit)))
noncomputable def zfS:Fn:=⟨2,4,(.seq (.asg 2 (.lst (.pair (.var 0) .unit))) (.seq (.forv 3 (.var 1) zdu) (.ret (.var 2))))⟩
theorem zdv (i:Int)(x:List Int)(hx:x.length<=100)(hk:lev k≠.top):zq lev cl k zfS [.int i,row x]=.ok (row (wt i x)):=by
 have main:=zO (body:=λd de lv=>exD lev cl zdu (de.set 3 (some d)) (lv.set 3 (lvF d)))
  (λt de lv=>∃ (p3:Option Dat) (l3:Lv),de=[some (.int i),some (row x),some (row ((wt i x).take (t+1))),p3]/\lv=[.full,.no,.full,l3])
  (x.map Dat.int) (de:=[some (.int i),some (row x),some (row [i]),none]) (lv:=[.full,.no,.full,.full])
  ⟨none,.full,by simp[wt,List.range_succ_eq_map,zag],rfl⟩ ?_
 .obtain ⟨de',lv',e,p3,l3,rfl,rfl⟩:=main;unfold zq;rw[if_pos (by rfl)];show zt (lev k) (exD lev cl (.seq _ (.seq _ _)) [some (.int i),some (row x),none,none] [lvF (.int i),lvF (row x),.full,.full])=_;rw[show lvF (row x)=.no from by simp[lvF,row],show lvF (.int i)=.full from by simp[lvF],zz];simp only[zu,yI,zi,zh,za,zjT,zg];rw[yG (by simp;unfold lim;lia)];simp only[zjU];rw[zM (by simp)];simp only[zf,List.set_cons_succ,List.set_cons_zero];rw[ya,yH];have hit:itD (row x)=some (x.map Dat.int):=yJ (by simp;unfold lim;lia);have hfl:flat (row x)=false:=by simp[row]
  simp only[za,zd,zjU,hit,hfl];have hrel:(if false=true then [Lv.full,Lv.no,Lv.full,Lv.full] else y6 (.var 1) [some (.int i),some (row x),some (.lst [.int i]),none] [Lv.full,Lv.no,Lv.full,Lv.full])=[.full,.no,.full,.full]:=rfl;rw[hrel,show (some (.lst [.int i]):Option Dat)=some (row [i]) from rfl,e,zf];rw[List.length_map,List.take_of_length_le (by simp[wt])];simp only[zJ,za,zd,zjU,lvR,zt,show flat (row (wt i x))=false from by simp[row],Bool.false_eq_true,if_false,Bool.false_or];show (if xT Lv.full (lev k)=true then _ else _)=_;cases e:lev k <;> first | rfl | exact absurd e hk
 .rintro t d de lv hd ⟨p3,l3,rfl,rfl⟩;have ht:t < x.length:=by
   have:=(List.getElem?_eq_some_iff.mp hd).1;simpa using this
  have hxt:x[t]?=some x[t]:=List.getElem?_eq_getElem ht;rw[List.getElem?_map,hxt] at hd;cases hd;have hlen:((wt i x).take (t+1)).length=t+1:=by simp[wt];lia
  have hlast:yk (row ((wt i x).take (t+1))) (.int (-1))=.ok (.int (zag i x t)):=by
   refine jC ?_;rw[List.length_map,hlen,List.getElem?_map,List.getElem?_take,if_pos (by lia),show t+1 - 1=t by lia,qj (by lia)];rfl
  have e2:(wt i x).take (t+1+1)=(wt i x).take (t+1)++[zag i x t+1 - 2 * x[t]]:=by
   rw[List.take_add_one,qj (by lia),Option.toList_some];have:=xl hxt;unfold zag;rw[this];congr 2;lia
  refine ⟨_,_,?_,some (.int x[t]),lvF (.int x[t]),rfl,rfl⟩;unfold zdu;simp only[List.set_cons_succ,List.set_cons_zero];rw[wS];simp only[zy,zP,vK,ze,za,zd,zjT,hlast,zZ,yO 2 _ (show yA 2=true by decide),yb,zjR];have hls:xo [some (.int i),some (row x),some (row ((wt i x).take (t+1))),some (.int x[t])] 2=some (((wt i x).take (t+1)).map Dat.int):=rfl;rw[hls];simp only[List.length_map,hlen];rw[if_pos (by unfold lim;lia)];simp[xc,yi,e2,row]
noncomputable def HT (R:List (List Int)):List (List Int):=(List.range (R.length+1)).map λ(i:Nat)=>wt i (zG R i)
theorem k8 (s:Int)(A:List (List Int))(h:A.length<=lim):y4 .enum (tab A) (.int s)=some ((List.range A.length).map λ(i:Nat)=>(Dat.int (s+i),row (A.getD i []))):=by
 simp only[y4,tab,List.length_map];rw[if_pos h];congr 1;refine List.ext_getElem? λi=>?_;by_cases hi:i < A.length
 .rw[vM (a:=Dat.int (s+i)) (b:=row (A.getD i [])) (by rw[yg _ _ _ _ hi,Int.one_mul]) (by rw[List.getElem?_map,List.getD_eq_getElem?_getD,List.getElem?_eq_getElem hi];rfl)];simp[hi]
 .rw[List.getElem?_eq_none (by simp;lia),List.getElem?_eq_none (by simp;lia)]
noncomputable def qk (ks kh:Nat):Fn:=⟨1,1,(.ret (.compP .enum (.call kh (.pair (.var 1) (.pair (.var 2) .unit))) (.call ks (.pair (.var 0) .unit)) (.lit (.int 0)) (.lit (.bl true))))⟩
theorem ql {ks kh:Nat}{R:List (List Int)}(hs:cl ks [tab R]=.ok (tab (yY R)))(hh:∀ (i:Int) x,x.length<=100->cl kh [.int i,row x]=.ok (row (wt i x)))(hn:R.length<=100)(hlev:lev kh=.full)(hk:lev k≠.top):zq lev cl k (qk ks kh) [tab R]=.ok (tab (HT R)):=by
 have hl:(yY R).length=R.length+1:=by simp[yY]
 have hev:evD cl (.compP .enum (.call kh (.pair (.var 1) (.pair (.var 2) .unit))) (.call ks (.pair (.var 0) .unit)) (.lit (.int 0)) (.lit (.bl true))) [some (tab R)]=.ok (tab (HT R)):=by
  rw[y8];simp only[zo,zi,zh,za,ze,zjT,zg,hs];rw[k8 0 (yY R) (by rw[hl];unfold lim;lia),hl];simp only;rw[zE (λ(i:Nat)=>(Dat.int (0+(i:Int)),row ((yY R).getD i []))) (λ(i:Nat)=>row (wt i (zG R i))) _ [] (λi _=>by simp) (λi hi=>?_) (by simp;unfold lim;lia)]
  .simp only[List.nil_append,tab,HT,List.map_map];rfl
  .have hi':i < R.length+1:=by simpa using hi
   have e1:(yY R).getD i []=zG R i:=by
    rw[List.getD_eq_getElem?_getD];simp only[yY,List.getElem?_map];rw[List.getElem?_range hi'];rfl
   rw[e1,Int.zero_add];simp only[List.cons_append,List.nil_append,zo,zi,zh,zd,za,zjT,zg];exact hh _ _ (by simpa [zG] using hn)
 have hlv:lvE lev (.compP .enum (.call kh (.pair (.var 1) (.pair (.var 2) .unit))) (.call ks (.pair (.var 0) .unit)) (.lit (.int 0)) (.lit (.bl true))) (tab (HT R))=.full:=by
  have:((HT R).map row).all (λx=>lvE lev (.call kh (.pair (.var 1) (.pair (.var 2) .unit))) x == .full)=true:=by
   rw[List.all_map,List.all_eq_true];intro x _;simp[row,hlev]
  unfold tab
  first | rw[yD] | rw[yf]
  simp only[yh,Bool.false_eq_true,if_false];rw[if_pos this]
 unfold zq;rw[if_pos (by rfl)];show zt (lev k) (exD lev cl (.ret _) [some (tab R)] [lvF (tab R)])=_;rw[zJ,hev];simp only[zjU,lvR,zt];rw[show flat (tab (HT R))=false from by simp[tab]];simp only[Bool.false_eq_true,if_false,hlv,Bool.false_or];cases e:lev k <;> first | rfl | exact absurd e hk
end
end Lib
namespace Lib
section
noncomputable def PR (R:List (List Int))(i j:Nat):Int:=((List.range i).map λr=>((R.getD r []).take j).sum).sum
theorem kl (R:List (List Int))(i j:Nat):PR R (i+1) j=PR R i j+((R.getD i []).take j).sum:=by
 unfold PR;rw[List.range_succ,List.map_append,List.sum_append];simp
theorem wu {R:List (List Int)}(h:Sq R):∀ (i j:Nat),i<=R.length->j<=R.length->((zG R i).take j).sum=PR R i j
 | 0,j,_,hj=>by
  have:∀ (n:Nat),((List.range n).map λc=>S R 0 c)=List.replicate n 0:=λn=>by
   induction n with
   | zero=>rfl
   | succ n ih=>rw[List.range_succ,List.map_append,ih,List.replicate_succ'];simp[S]
  unfold zG;rw[this,List.take_replicate];have z:∀n:Nat,(List.replicate n (0:Int)).sum=0:=λn=>by
   induction n with
   | zero=>rfl
   | succ n ih=>rw[List.replicate_succ,List.sum_cons,ih];rfl
  rw[z];rfl
 | i+1,j,hi,hj=>by
  rw[kl,<- wu h i j (by lia) hj];have hx:(R.getD i []).length=R.length:=by
   rw[List.getD_eq_getElem?_getD,List.getElem?_eq_getElem (show i < R.length by lia)];exact h _ (List.getElem_mem _)
  rw[<- jD h (show i < R.length by lia)];have hl:(zG R i).length=R.length:=by simp[zG]
  generalize zG R i=a at hl ⊢;generalize R.getD i []=b at hx ⊢
  induction j with
  | zero=>simp
  | succ j ih =>
   have ha:a[j]?=some a[j]:=List.getElem?_eq_getElem (by lia);have hb:b[j]?=some b[j]:=List.getElem?_eq_getElem (by lia);have hz:((a.zip b).map λp=>p.1+p.2)[j]?=some (a[j]+b[j]):=by rw[List.getElem?_map,vM ha hb];rfl
   rw[xl hz,xl ha,xl hb,ih (by lia)];lia
noncomputable def yM (R:List (List Int))(i j:Nat):Int:=(i:Int)+j - 2 * PR R i j
noncomputable def LT (R:List (List Int)):List (List Int):=(List.range (R.length+1)).map λ(i:Nat)=>(List.range (R.length+1)).map (yM R i)
theorem ziX {R:List (List Int)}(h:Sq R):LT R=HT R:=by
 unfold LT HT;refine List.map_congr_left λi hi=>?_;have hi':i<=R.length:=by have:=List.mem_range.mp hi;lia
 unfold wt;rw[show (zG R i).length=R.length by simp[zG]];refine List.map_congr_left λj hj=>?_;have hj':j<=R.length:=by have:=List.mem_range.mp hj;lia
 unfold yM zag;rw[wu h i j hi' hj']
theorem zdw (x:List Int)(j:Nat)(h:x.length<=lim):slD (row x) none (some (j:Int))=.ok (row (x.take j)):=by
 simp only[slD,row,lsD,sIx,List.length_map];rw[if_neg (by lia),Int.toNat_natCast,List.drop_zero,Nat.sub_zero];have:(x.map Dat.int).take (min j x.length)=(x.take j).map Dat.int:=by
  rw[<- List.map_take];congr 1;rcases Nat.le_total j x.length with q | q
  .rw[Nat.min_eq_left q]
  .rw[Nat.min_eq_right q,List.take_of_length_le (Nat.le_refl _),List.take_of_length_le q]
 rw[this,yG (by simp;lia)]
theorem kq (x:List Int):yC .sum [row x]=.ok (.int x.sum):=by
 simp only[yC,row,lsD,Option.bind_some,qi]
end
end Lib
namespace Lib
section
theorem zaY {t:Int}{b:Bool}(h:vW t b=false):(t=0\/t=1)/\(b=true->t=1):=by
 cases b with
 | true =>
  have h':t=1:=by simpa [vW] using h
  exact ⟨.inr h',λ_=>h'⟩
 | false =>
  refine ⟨?_,λe=>by cases e⟩;simp only[vW,Bool.false_eq_true,if_false,Bool.not_eq_false',Bool.or_eq_true,decide_eq_true_eq] at h;exact h
structure Sums (R:List (List Int)):Prop where
 sq:Sq R
 row:∀r c,r < R.length->c<=R.length->((R.getD r []).take c).sum=0\/((R.getD r []).take c).sum=1
 rowE:∀r,r < R.length->((R.getD r []).take R.length).sum=1
 col:∀r c,r<=R.length->c < R.length->S R r c=0\/S R r c=1
 colE:∀c,c < R.length->S R R.length c=1
theorem Sums.of {R:List (List Int)}(sq:Sq R)(h:∀r c,r < R.length->c < R.length->bad R r c=false):Sums R:=by
 have q:∀r c,r < R.length->c < R.length->((ac R r (c+1)=0\/ac R r (c+1)=1)/\(c+1=R.length->ac R r (c+1)=1))/\(S R (r+1) c=0\/S R (r+1) c=1)/\(r+1=R.length->S R (r+1) c=1):=by
  intro r c hr hc;have:=h r c hr hc;unfold bad at this;rw[Bool.or_eq_false_iff] at this;obtain ⟨a1,a2⟩:=zaY this.1;obtain ⟨b1,b2⟩:=zaY this.2;exact ⟨⟨a1,λe=>a2 (by simp;lia)⟩,b1,λe=>b2 (by simp;lia)⟩
 refine ⟨sq,λr c hr hc=>?_,λr hr=>?_,λr c hr hc=>?_,λc hc=>?_⟩
 .cases c with
  | zero=>left;simp
  | succ c=>exact (q r c hr (by lia)).1.1
 .have:=(q r (R.length - 1) hr (by lia)).1.2 (by lia);unfold ac at this
  rwa [show R.length - 1+1=R.length by lia] at this
 .cases r with
  | zero=>left;simp[S]
  | succ r=>exact (q r c (by lia) hc).2.1
 .have:=(q (R.length - 1) c (by lia) hc).2.2 (by lia)
  rwa [show R.length - 1+1=R.length by lia] at this
theorem gc {R:List (List Int)}(h:Sq R){i j:Nat}(hi:i<=R.length)(hj:j < R.length):PR R i (j+1)=PR R i j+S R i j:=by
 rw[<- wu h i (j+1) hi (by lia),<- wu h i j hi (by lia)];exact xl (by simp[zG,hj])
theorem zaZ (R:List (List Int))(i:Nat):PR R i 0=0:=by
 induction i with
 | zero=>rfl
 | succ i ih=>rw[kl,ih];simp
theorem Sums.end {R:List (List Int)}(h:Sums R):∀i,i<=R.length->PR R i R.length=i/\PR R R.length i=i
 | 0,_=>⟨rfl,zaZ R _⟩
 | i+1,hi=>by
  obtain ⟨a,b⟩:=h.end i (by lia);refine ⟨?_,?_⟩
  .rw[kl,a,h.rowE i (by lia)];lia
  .rw[gc h.sq (Nat.le_refl _) (by lia),b,h.colE i (by lia)];lia
theorem za0 {a b:Int}(h:a - b=1\/a - b=-1):(if a - b < 0 then -(a - b) else a - b)=1:=by
 rcases h with h | h <;> rw[h] <;> rfl
theorem Sums.rim {R:List (List Int)}(h:Sums R){t:Nat}(ht:t<=R.length):yM R 0 t=t/\yM R t 0=t/\yM R R.length t=(R.length:Int) - t/\yM R t R.length=(R.length:Int) - t:=by
 obtain ⟨a,b⟩:=h.end t ht;have z:=zaZ R t;have z0:PR R 0 t=0:=rfl;unfold yM;rw[a,b,z,z0];lia
theorem Sums.near {R:List (List Int)}(h:Sums R){t m:Nat}(ht:t<=R.length)(hm:m < R.length):(yM R t m - yM R t (m+1)=1\/yM R t m - yM R t (m+1)=-1)/\(yM R m t - yM R (m+1) t=1\/yM R m t - yM R (m+1) t=-1):=by
 have a:=gc h.sq ht hm;have b:=kl R m t;have c:=h.col t m ht hm;have d:=h.row m t hm ht;unfold yM;rw[a,b];lia
end
end Lib
namespace Lib
end Lib
namespace Lib
section
variable {lev:Nat->Lv}{cl:Nat->List Dat->Rd}{k:Nat}
noncomputable def zdx (kw:Nat):Fn:=⟨2,2,(.ret (.and (.isi .list (.var 0)) (.and (.cmp .eq (.blt .len (.pair (.var 0) .unit)) (.var 1)) (.blt .all (.pair (.comp (.call kw (.pair (.var 2) .unit)) (.var 0) (.lit (.bl true))) .unit)))))⟩
theorem x5 {α:Type}(xs:List α):jV (xs.map λ_=>Dat.bl true)=some true:=by
 induction xs with
 | nil=>rfl
 | cons x xs ih=>simp only[List.map_cons,jV,ih];rfl
theorem zdy {kw:Nat}(hw:∀d,cl kw [d]=.ok (.bl (isInt d)))(x:List Int)(hx:x.length<=100){m:Int}(hm:m=x.length):zq lev cl k (zdx kw) [row x,.int m]=.ok (.bl true):=by
 subst hm;have hl:(x.map Dat.int).length<=lim:=by simp;unfold lim;lia
 have hlen:yC .len [row x]=.ok (.int x.length):=by simp[row]
 have hc:evD cl (.comp (.call kw (.pair (.var 2) .unit)) (.var 0) (.lit (.bl true))) [some (row x),some (.int x.length)]=.ok (.lst (x.map λ_=>.bl true)):=by
  rw[zW];simp only[za,zjT,row,yJ hl];rw[zE Dat.int (λ_=>.bl true) x [] (λv _=>by simp) (λv _=>by simp[hw,isInt]) (by simpa using hl)];simp
 unfold zq;rw[if_pos (by rfl)];show zt (lev k) (exD lev cl (.ret _) [some (row x),some (.int x.length)] _)=_;simp only[zJ,xU,vJ,za,zd,zjT,show isD .list (row x)=true from rfl,zT,zC,zi,zh,zg,hlen,vV,decide_true,hc,zjU];simp[yC,lsD,x5,zt]
noncomputable def zfT (kn:Nat):Fn:=⟨3,3,(.ret (.and (.call kn (.pair (.var 0) (.pair (.var 1) .unit))) (.blt .all (.pair (.comp (.chain .le .lt (.lit (.int 0)) (.var 3) (.var 2)) (.var 0) (.lit (.bl true))) .unit))))⟩
theorem zdz {kn:Nat}(hn:∀ (x:List Int) (m:Int),x.length<=100->m=x.length->cl kn [row x,.int m]=.ok (.bl true))(x:List Int)(hx:x.length<=100){m n:Int}(hm:m=x.length)(hb:∀v∈x,0<=v/\v < n):zq lev cl k (zfT kn) [row x,.int m,.int n]=.ok (.bl true):=by
 have hl:(x.map Dat.int).length<=lim:=by simp;unfold lim;lia
 have hc:evD cl (.comp (.chain .le .lt (.lit (.int 0)) (.var 3) (.var 2)) (.var 0) (.lit (.bl true))) [some (row x),some (.int m),some (.int n)]=.ok (.lst (x.map λ_=>.bl true)):=by
  rw[zW];simp only[za,zjT,row,yJ hl];rw[zE Dat.int (λ_=>.bl true) x [] (λv _=>by simp) (λv hv=>?_) (by simpa using hl)]
  .simp
  .obtain ⟨b1,b2⟩:=hb v hv;simp only[List.cons_append,List.nil_append,zdc,ze,za,zd,zjT,zfP,decide_eq_true b1,zfO,decide_eq_true b2]
 unfold zq;rw[if_pos (by rfl)];show zt (lev k) (exD lev cl (.ret _) [some (row x),some (.int m),some (.int n)] _)=_;simp only[zJ,xU,zo,zi,zh,za,zd,zjT,zg,hn x m hx hm,zC,hc,zjU];simp[yC,lsD,x5,zt]
noncomputable def zfU (kz kc:Nat):Fn:=⟨1,1,(.seq (.ite (.or (.not (.isi .list (.var 0))) (.not (.call kz (.pair (.blt .len (.pair (.var 0) .unit)) .unit)))) (.ret (.lit (.bl false))) .skip) (.ret (.blt .all (.pair (.compP .enum (.call kc (.pair (.var 2) (.pair (.var 1) (.pair (.blt .len (.pair (.var 0) .unit)) .unit)))) (.var 0) (.lit (.int 1)) (.lit (.bl true))) .unit))))⟩
theorem zbL (s:Int)(A:List (List Int))(h:A.length<=lim):y4 .enum (tab A) (.int s)=some ((List.range A.length).map λ(i:Nat)=>(Dat.int (s+i),row (A.getD i []))):=by
 simp only[y4,tab,List.length_map];rw[if_pos h];congr 1;refine List.ext_getElem? λi=>?_;by_cases hi:i < A.length
 .rw[vM (a:=Dat.int (s+i)) (b:=row (A.getD i [])) (by rw[yg _ _ _ _ hi,Int.one_mul]) (by rw[List.getElem?_map,List.getD_eq_getElem?_getD,List.getElem?_eq_getElem hi];rfl)];simp[hi]
 .rw[List.getElem?_eq_none (by simp;lia),List.getElem?_eq_none (by simp;lia)]
theorem zdA {kz kc:Nat}(hz:∀n:Int,cl kz [.int n]=.ok (.bl (decide (1<=n/\n<=12))))(hc:∀ (x:List Int) (m n:Int),x.length<=100->m=x.length->(∀v∈x,0<=v/\v < n)->cl kc [row x,.int m,.int n]=.ok (.bl true)){n:Nat}{X:List (List Int)}(h:Tri n X)(h1:1<=n)(h2:n<=12):zq lev cl k (zfU kz kc) [tab X]=.ok (.bl true):=by
 have hX:=h.len;have hlen:yC .len [tab X]=.ok (.int n):=by simp[tab,hX]
 have hcm:evD cl (.compP .enum (.call kc (.pair (.var 2) (.pair (.var 1) (.pair (.blt .len (.pair (.var 0) .unit)) .unit)))) (.var 0) (.lit (.int 1)) (.lit (.bl true))) [some (tab X)]=.ok (.lst ((List.range n).map λ_=>.bl true)):=by
  rw[y8];simp only[za,ze,zjT];rw[zbL 1 X (by rw[hX];unfold lim;lia),hX];simp only;rw[zE (λ(i:Nat)=>(Dat.int (1+(i:Int)),row (X.getD i []))) (λ_=>.bl true) _ [] (λi _=>by simp) (λi hi=>?_) (by simp;unfold lim;lia)]
  .simp
  .have hi':i < n:=by simpa using hi
   have hr:=h.rlen i hi';simp only[List.cons_append,List.nil_append,zo,zi,zh,zC,zd,za,zjT,zg,hlen];exact hc _ _ _ (by lia) (by lia) (h.mem_bd i hi')
 unfold zq;rw[if_pos (by rfl)];show zt (lev k) (exD lev cl (.seq _ (.ret _)) [some (tab X)] _)=_;rw[ya];simp only[zV,vU,wn,vJ,zo,zC,zi,zh,za,zjT,zg,show isD .list (tab X)=true from rfl,Bool.not_true,hlen,hz,decide_eq_true (show (1:Int)<=n/\(n:Int)<=12 by lia),zjU,zN,zf,zJ,hcm];simp[yC,lsD,x5,zt]
noncomputable def zdB:Sm:=(.seq (.asg 3 (.idx (.var 0) (.bin .sub (.var 1) (.lit (.int 1))))) (.seq (.ite (.and (.cmp .gt (.var 2) (.lit (.int 0))) (.cmp .le (.idx (.var 3) (.var 2)) (.idx (.var 3) (.bin .sub (.var 2) (.lit (.int 1)))))) (.ret (.lit (.bl true))) .skip) (.seq (.ite (.cmp .eq (.var 1) (.blt .len (.pair (.var 0) .unit))) (.ret (.lit (.bl false))) .skip) (.seq (.asg 4 (.idx (.var 0) (.var 1))) (.ret (.or (.cmp .lt (.idx (.var 3) (.var 2)) (.idx (.var 4) (.var 2))) (.cmp .gt (.idx (.var 3) (.var 2)) (.idx (.var 4) (.bin .add (.var 2) (.lit (.int 1)))))))))))
noncomputable def zfV:Fn:=⟨3,5,zdB⟩
theorem zdC {i:Nat}{e:Ex}{d:Dat}{de:DEn}{lv:List Lv}:∃lv',xY lev i e d de lv=.next (de.set i (some d)) lv':=by
 unfold xY;split <;> exact ⟨_,rfl⟩
theorem zdD {n:Nat}{X:List (List Int)}(h:Tri n X)(hn:n<=12){i m:Nat}(hi:i < n)(hm:m<=i):zq lev cl k zfV [tab X,.int ((i:Int)+1),.int m]=.ok (.bl false):=by
 have hX:=h.len;have hlen:yC .len [tab X]=.ok (.int n):=by simp[tab,hX]
 have hr:=h.rlen i hi;have gi:X[i]?=some (X.getD i []):=by rw[List.getD_eq_getElem?_getD,List.getElem?_eq_getElem (show i < X.length by lia)];rfl
 have vG:∀ {x:List Int}{c:Nat},c < x.length->yk (row x) (.int (c:Int))=.ok (.int (x.getD c 0)):=λhc=>wT (j8 hc);unfold zq;rw[if_pos (by rfl)];show zt (lev k) (exD lev cl zdB [some (tab X),some (.int ((i:Int)+1)),some (.int m),none,none] [lvF (tab X),lvF (.int ((i:Int)+1)),lvF (.int m),.full,.full])=_;unfold zdB;rw[zz,zu];simp only[zP,zy,ze,za,zd,zjT,yb,show (i:Int)+1 - 1=(i:Int) by lia,wq gi,zjU];obtain ⟨l1,e1⟩:=zdC (lev:=lev) (i:=3) (e:=.idx (.var 0) (.bin .sub (.var 1) (.lit (.int 1)))) (d:=row (X.getD i [])) (de:=[some (tab X),some (.int ((i:Int)+1)),some (.int m),none,none]) (lv:=[lvF (tab X),lvF (.int ((i:Int)+1)),lvF (.int m),.full,.full]);rw[e1];simp only[zf,List.set_cons_succ,List.set_cons_zero];rw[zz];have c1:evD cl (.and (.cmp .gt (.var 2) (.lit (.int 0))) (.cmp .le (.idx (.var 3) (.var 2)) (.idx (.var 3) (.bin .sub (.var 2) (.lit (.int 1)))))) [some (tab X),some (.int ((i:Int)+1)),some (.int m),some (row (X.getD i [])),none]=.ok (.bl false):=by
  simp only[xU,zT,za,zd,ze,zjT,jA];by_cases hm0:m=0
  .subst hm0;rfl
  .rw[decide_eq_true (show (0:Int) < m by lia)];have lt:=h.inc i hi (m - 1) (by lia);rw[show m - 1+1=m by lia] at lt;simp only[zP,zy,za,zd,ze,zjT,yb];rw[show (m:Int) - 1=((m - 1:Nat):Int) by lia,vG (by lia),vG (by lia)];simp only[zjT,zfP];rw[decide_eq_false (by lia)]
 rw[zV,c1];simp only[zjU,zN,zf];rw[zz,zV];simp only[zT,zC,zi,zh,za,zd,zjT,zg,hlen,vV];by_cases hl:i+1=n
 .rw[decide_eq_true (show (i:Int)+1=n by lia)];simp[zt,lvR]
 .rw[decide_eq_false (show ¬(i:Int)+1=n by lia)];simp only[zjU,zN,zf];have gj:X[i+1]?=some (X.getD (i+1) []):=by rw[List.getD_eq_getElem?_getD,List.getElem?_eq_getElem (show i+1 < X.length by lia)];rfl
  have hj:=h.rlen (i+1) (by lia);rw[ya,zu];simp only[zP,za,zd,zjT,show (i:Int)+1=((i+1:Nat):Int) by lia,wq gj,zjU];obtain ⟨l2,e2⟩:=zdC (lev:=lev) (i:=4) (e:=.idx (.var 0) (.var 1)) (d:=row (X.getD (i+1) [])) (de:=[some (tab X),some (.int ((i+1:Nat):Int)),some (.int m),some (row (X.getD i [])),none]) (lv:=l1);rw[e2];simp only[zf,List.set_cons_succ,List.set_cons_zero,zJ];obtain ⟨_,lc⟩:=h.lace i (by lia);have lm:=lc m (by lia);simp only[vU,zT,zP,zy,ze,za,zd,zjT,zZ,show (m:Int)+1=((m+1:Nat):Int) by lia];rw[vG (x:=X.getD i []) (by lia),vG (x:=X.getD (i+1) []) (by lia),vG (x:=X.getD (i+1) []) (by lia)];simp only[zjT,zfO,jA];rw[decide_eq_false (by lia),decide_eq_false (by lia)];simp[zt]
end
end Lib
namespace Lib
structure HF (n:Nat)(G:Nat->Nat->Int):Prop where
 top:∀j,j<=n->G 0 j=j
 left:∀i,i<=n->G i 0=i
 low:∀j,j<=n->G n j=(n:Int) - j
 right:∀i,i<=n->G i n=(n:Int) - i
 across:∀i j,i<=n->j < n->G i (j+1) - G i j=1\/G i (j+1) - G i j=-1
 down:∀i j,i < n->j<=n->G (i+1) j - G i j=1\/G (i+1) j - G i j=-1
noncomputable def hrw (n:Nat)(G:Nat->Nat->Int)(i:Nat):List Int:=(List.range (n+1)).map (G i)
noncomputable def zR (n:Nat)(G:Nat->Nat->Int):List (List Int):=(List.range (n+1)).map (hrw n G)
noncomputable def amid (G:Nat->Nat->Int)(r c:Nat):Int:=(G r (c+1)+G (r+1) c - G r c - G (r+1) (c+1)) / 2
noncomputable def vN (n:Nat)(G:Nat->Nat->Int)(r:Nat):List Int:=(List.range n).map (amid G r)
noncomputable def wJ (n:Nat)(G:Nat->Nat->Int):List (List Int):=(List.range n).map (vN n G)
theorem HF.par {n:Nat}{G:Nat->Nat->Int}(h:HF n G):∀i j,i<=n->j<=n->(G i j - i - j) % 2=0
 | i,0,hi,_=>by rw[h.left i hi];simp
 | i,j+1,hi,hj=>by
  have a:=h.par i j hi (by lia);have b:=h.across i j hi (by lia);lia
theorem HF.amid2 {n:Nat}{G:Nat->Nat->Int}(h:HF n G){r c:Nat}(hr:r < n)(hc:c < n):2 * amid G r c=G r (c+1)+G (r+1) c - G r c - G (r+1) (c+1):=by
 have p1:=h.par r c (by lia) (by lia);have p2:=h.par r (c+1) (by lia) (by lia);have p3:=h.par (r+1) c (by lia) (by lia);have p4:=h.par (r+1) (c+1) (by lia) (by lia);unfold amid;lia
theorem Sums.hf {R:List (List Int)}(h:Sums R):HF R.length (yM R):=by
 refine ⟨λj hj=>(h.rim hj).1,λi hi=>(h.rim hi).2.1,λj hj=>(h.rim hj).2.2.1,λi hi=>(h.rim hi).2.2.2,λi j hi hj=>?_,λi j hi hj=>?_⟩
 .have:=(h.near hi hj).1;lia
 .have:=(h.near hj hi).2;lia
theorem zfe {R:List (List Int)}(h:Sq R):HT R=zR R.length (yM R):=by
 rw[<- ziX h];rfl
theorem Sums.amid {R:List (List Int)}(h:Sums R):wJ R.length (yM R)=R:=by
 refine List.ext_getElem? λr=>?_;by_cases hr:r < R.length
 .have hx:R[r]?=some R[r]:=List.getElem?_eq_getElem hr;have hl:R[r].length=R.length:=h.sq _ (List.getElem_mem hr);rw[show (wJ R.length (yM R))[r]?=some (vN R.length (yM R) r) by simp[wJ,hr],hx];congr 1;refine List.ext_getElem? λc=>?_;by_cases hc:c < R.length
  .rw[show (vN R.length (yM R) r)[c]?=some (Lib.amid (yM R) r c) by simp[vN,hc],j8 (show c < R[r].length by lia)];congr 1;have a:=h.hf.amid2 hr hc;have b1:=gc h.sq (show r<=R.length by lia) hc;have b2:=gc h.sq (show r+1<=R.length by lia) hc;have b3:=j7 R r c _ hx;generalize Lib.amid (yM R) r c=g at a ⊢;unfold yM at a;lia
  .rw[List.getElem?_eq_none (by simp[vN];lia),List.getElem?_eq_none (by lia)]
 .rw[List.getElem?_eq_none (by simp[wJ];lia),List.getElem?_eq_none (by lia)]
end Lib
namespace Lib
section
variable {lev:Nat->Lv}{cl:Nat->List Dat->Rd}{k:Nat}
theorem vn (n:Nat)(G:Nat->Nat->Int):(zR n G).length=n+1:=by simp[zR]
theorem zdE {n:Nat}{G:Nat->Nat->Int}{i:Nat}(h:i<=n):(zR n G)[i]?=some (hrw n G i):=by simp[zR,show i < n+1 by lia]
theorem zff {n:Nat}{G:Nat->Nat->Int}{i j:Nat}(h:j<=n):(hrw n G i)[j]?=some (G i j):=by simp[hrw,show j < n+1 by lia]
theorem zbM {n:Nat}{G:Nat->Nat->Int}:∀x∈zR n G,x.length=n+1:=λx hx=>by
 simp only[zR,List.mem_map] at hx;obtain ⟨i,_,rfl⟩:=hx;simp[hrw]
theorem gat {n:Nat}{G:Nat->Nat->Int}{i j:Nat}(hi:i<=n)(hj:j<=n):(yk (tab (zR n G)) (.int i)).bind (λx=>yk x (.int j))=.ok (.int (G i j)):=by
 rw[wq (zdE hi)];exact wT (zff hj)
theorem x6 {n:Nat}{G:Nat->Nat->Int}:yC .len [tab (zR n G)]=.ok (.int ((n:Int)+1)):=by
 have:((tab (zR n G)))=.lst ((zR n G).map row):=rfl;rw[this,zfb,List.length_map,vn];rfl
noncomputable def zah (kn:Nat):Fn:=⟨3,3,(.seq (.ite (.or (.not (.isi .list (.var 0))) (.cmp .ne (.blt .len (.pair (.var 0) .unit)) (.var 1))) (.ret (.lit (.bl false))) .skip) (.ret (.blt .all (.pair (.comp (.call kn (.pair (.var 3) (.pair (.var 2) .unit))) (.var 0) (.lit (.bl true))) .unit))))⟩
theorem zbN {kn:Nat}(hn:∀ (x:List Int) (m:Int),x.length<=100->m=x.length->cl kn [row x,.int m]=.ok (.bl true))(A:List (List Int))(hA:A.length<=100){a b:Int}(ha:a=A.length)(hb:∀x∈A,x.length<=100/\b=x.length):zq lev cl k (zah kn) [tab A,.int a,.int b]=.ok (.bl true):=by
 subst ha;have hl:(A.map row).length<=lim:=by simp;unfold lim;lia
 have hlen:yC .len [tab A]=.ok (.int A.length):=by simp[tab]
 have hc:evD cl (.comp (.call kn (.pair (.var 3) (.pair (.var 2) .unit))) (.var 0) (.lit (.bl true))) [some (tab A),some (.int A.length),some (.int b)]=.ok (.lst (A.map λ_=>.bl true)):=by
  rw[zW];simp only[za,zjT,tab,yJ hl];rw[zE row (λ_=>.bl true) A [] (λv _=>by simp) (λx hx=>?_) (by simpa using hl)]
  .simp
  .obtain ⟨q1,q2⟩:=hb x hx;simp only[List.cons_append,List.nil_append,zo,zi,zh,za,zd,zjT,zg];exact hn x b q1 q2
 unfold zq;rw[if_pos (by rfl)];show zt (lev k) (exD lev cl (.seq _ (.ret _)) [some (tab A),some (.int A.length),some (.int b)] _)=_;rw[ya];simp only[zV,vU,wn,vJ,zT,zC,zi,zh,za,zd,zjT,zg,show isD .list (tab A)=true from rfl,Bool.not_true,hlen,jB,decide_true,zjU,zN,zf,zJ,hc];simp[yC,lsD,x5,zt]
noncomputable def zfW (kz kg:Nat):Fn:=⟨1,1,(.seq (.ite (.or (.not (.isi .list (.var 0))) (.not (.call kz (.pair (.bin .sub (.blt .len (.pair (.var 0) .unit)) (.lit (.int 1))) .unit)))) (.ret (.lit (.bl false))) .skip) (.ret (.call kg (.pair (.var 0) (.pair (.blt .len (.pair (.var 0) .unit)) (.pair (.blt .len (.pair (.var 0) .unit)) .unit))))))⟩
theorem zdF {kz kg:Nat}(hz:∀n:Int,cl kz [.int n]=.ok (.bl (decide (1<=n/\n<=12))))(hg:∀ (A:List (List Int)) (a b:Int),A.length<=100->a=A.length->(∀x∈A,x.length<=100/\b=x.length)->cl kg [tab A,.int a,.int b]=.ok (.bl true)){n:Nat}(h1:1<=n)(h2:n<=12)(G:Nat->Nat->Int):zq lev cl k (zfW kz kg) [tab (zR n G)]=.ok (.bl true):=by
 have hr:=zbM (n:=n) (G:=G);have hc:=hg (zR n G) ((n:Int)+1) ((n:Int)+1) (by rw[vn];lia) (by rw[vn];lia) (λx hx=>by rw[hr x hx];exact ⟨by lia,by lia⟩);unfold zq;rw[if_pos (by rfl)];show zt (lev k) (exD lev cl (.seq _ (.ret _)) [some (tab (zR n G))] _)=_;rw[ya];simp only[zV,vU,wn,vJ,zo,zy,ze,zC,zi,zh,za,zjT,zg,show isD .list (tab (zR n G))=true from rfl,Bool.not_true,x6,yb,hz,decide_eq_true (show (1:Int)<=(n:Int)+1 - 1/\(n:Int)+1 - 1<=12 by lia),zjU,zN,zf,zJ,hc];simp[zt]
noncomputable def qm:Fn:=⟨3,3,(.seq (.ite (.or (.cmp .eq (.var 1) (.lit (.int 0))) (.cmp .eq (.var 2) (.lit (.int 0)))) (.ret (.bin .add (.var 1) (.var 2))) .skip) (.seq (.ite (.or (.cmp .eq (.var 1) (.var 0)) (.cmp .eq (.var 2) (.var 0))) (.ret (.bin .sub (.bin .sub (.bin .mul (.lit (.int 2)) (.var 0)) (.var 1)) (.var 2))) .skip) (.ret (.lit .non))))⟩
theorem zfg {n:Nat}{G:Nat->Nat->Int}(h:HF n G){i j:Nat}(hi:i<=n)(hj:j<=n):zq lev cl k qm [.int n,.int i,.int j]=.ok .non\/zq lev cl k qm [.int n,.int i,.int j]=.ok (.int (G i j)):=by
 have m2:=yO 2 (n:Int) (show yA 2=true by decide);by_cases c1:i=0
 .subst c1
  right
  rw[h.top j hj];simp[zq,qm,yE,yF,zt,lvR]
 .by_cases c2:j=0
  .subst c2
   right
   rw[h.left i hi];have:¬((i:Int)=0):=by lia
   simp[zq,qm,yE,yF,zt,lvR,c1]
  .have z1:¬((i:Int)=0):=by lia
   have z2:¬((j:Int)=0):=by lia
   by_cases c3:i=n
   .subst c3
    right
    rw[h.low j hj,show (i:Int) - j=2 * (i:Int) - i - j by lia];simp[zq,qm,yE,yF,zt,lvR,c1,c2,m2]
   .by_cases c4:j=n
    .subst c4
     right
     have z3:¬((i:Int)=(j:Int)):=by lia
     rw[h.right i hi,show (j:Int) - i=2 * (j:Int) - i - j by lia];simp[zq,qm,yE,yF,zt,lvR,c1,c2,z3,m2]
    .left
     have z3:¬((i:Int)=(n:Int)):=by lia
     have z4:¬((j:Int)=(n:Int)):=by lia
     simp[zq,qm,yE,yF,zt,lvR,c1,c2,z3,z4]
noncomputable def zho (kr:Nat):Sm:=(.seq (.asg 3 (.idx (.idx (.var 0) (.var 1)) (.var 2))) (.seq (.asg 4 (.call kr (.pair (.bin .sub (.blt .len (.pair (.var 0) .unit)) (.lit (.int 1))) (.pair (.var 1) (.pair (.var 2) .unit))))) (.seq (.ite (.and (.cmp .notN (.var 4) (.lit .non)) (.cmp .ne (.var 3) (.var 4))) (.ret (.lit (.bl true))) .skip) (.seq (.ite (.and (.cmp .gt (.var 1) (.lit (.int 0))) (.cmp .ne (.blt .abs (.pair (.bin .sub (.var 3) (.idx (.idx (.var 0) (.bin .sub (.var 1) (.lit (.int 1)))) (.var 2))) .unit)) (.lit (.int 1)))) (.ret (.lit (.bl true))) .skip) (.ret (.and (.cmp .gt (.var 2) (.lit (.int 0))) (.cmp .ne (.blt .abs (.pair (.bin .sub (.var 3) (.idx (.idx (.var 0) (.var 1)) (.bin .sub (.var 2) (.lit (.int 1))))) .unit)) (.lit (.int 1)))))))))
noncomputable def ziY (kr:Nat):Fn:=⟨3,5,zho kr⟩
theorem zdG (a:Int):yC .abs [.int a]=.ok (.int (if a < 0 then -a else a)):=rfl
theorem zfh {kr:Nat}{n:Nat}{G:Nat->Nat->Int}(h:HF n G){i j:Nat}(hi:i<=n)(hj:j<=n)(hr:cl kr [.int n,.int i,.int j]=.ok .non\/cl kr [.int n,.int i,.int j]=.ok (.int (G i j))):zq lev cl k (ziY kr) [tab (zR n G),.int i,.int j]=.ok (.bl false):=by
 have g0:=gat (G:=G) hi hj;unfold zq;rw[if_pos (by rfl)];show zt (lev k) (exD lev cl (zho kr) [some (tab (zR n G)),some (.int i),some (.int j),none,none] [lvF (tab (zR n G)),lvF (.int i),lvF (.int j),.full,.full])=_;unfold zho;rw[zz,zu];simp only[zP,za,zd,zjT];rw[g0];simp only[zjU];rw[zS (by simp)];simp only[zf,List.set_cons_succ,List.set_cons_zero];have rest:∀d,(d=.non\/d=.int (G i j))->∀lv,zt (lev k) (exD lev cl (.seq (.ite (.and (.cmp .notN (.var 4) (.lit .non)) (.cmp .ne (.var 3) (.var 4))) (.ret (.lit (.bl true))) .skip) (.seq (.ite (.and (.cmp .gt (.var 1) (.lit (.int 0))) (.cmp .ne (.blt .abs (.pair (.bin .sub (.var 3) (.idx (.idx (.var 0) (.bin .sub (.var 1) (.lit (.int 1)))) (.var 2))) .unit)) (.lit (.int 1)))) (.ret (.lit (.bl true))) .skip) (.ret (.and (.cmp .gt (.var 2) (.lit (.int 0))) (.cmp .ne (.blt .abs (.pair (.bin .sub (.var 3) (.idx (.idx (.var 0) (.var 1)) (.bin .sub (.var 2) (.lit (.int 1))))) .unit)) (.lit (.int 1))))))) [some (tab (zR n G)),some (.int i),some (.int j),some (.int (G i j)),some d] lv)=.ok (.bl false):=by
  intro d hd lv;rw[zz];have c1:evD cl (.and (.cmp .notN (.var 4) (.lit .non)) (.cmp .ne (.var 3) (.var 4))) [some (tab (zR n G)),some (.int i),some (.int j),some (.int (G i j)),some d]=.ok (.bl false):=by
   rcases hd with rfl | rfl
   .simp only[xU,zT,za,zd,xG,zjT,show yz .notN .non .non=.ok (.bl false) from rfl]
   .simp only[xU,zT,za,zd,xG,zjT,show yz .notN (.int (G i j)) .non=.ok (.bl true) from rfl,jB,decide_true,Bool.not_true]
  have c2:evD cl (.and (.cmp .gt (.var 1) (.lit (.int 0))) (.cmp .ne (.blt .abs (.pair (.bin .sub (.var 3) (.idx (.idx (.var 0) (.bin .sub (.var 1) (.lit (.int 1)))) (.var 2))) .unit)) (.lit (.int 1)))) [some (tab (zR n G)),some (.int i),some (.int j),some (.int (G i j)),some d]=.ok (.bl false):=by
   simp only[xU,zT,za,zd,ze,zjT,jA];by_cases z:i=0
   .subst z;rfl
   .rw[decide_eq_true (show (0:Int) < i by lia)];have g1:=gat (G:=G) (show i - 1<=n by lia) hj;have dn:=h.down (i - 1) j (by lia) hj;rw[show i - 1+1=i by lia] at dn;simp only[zC,zi,zh,zy,zP,za,zd,ze,zjT,yb];rw[show (i:Int) - 1=((i - 1:Nat):Int) by lia,g1];simp only[zjT,yb,zg,zdG,za0 dn,jB,decide_true,Bool.not_true]
  have c3:evD cl (.and (.cmp .gt (.var 2) (.lit (.int 0))) (.cmp .ne (.blt .abs (.pair (.bin .sub (.var 3) (.idx (.idx (.var 0) (.var 1)) (.bin .sub (.var 2) (.lit (.int 1))))) .unit)) (.lit (.int 1)))) [some (tab (zR n G)),some (.int i),some (.int j),some (.int (G i j)),some d]=.ok (.bl false):=by
   simp only[xU,zT,za,zd,ze,zjT,jA];by_cases z:j=0
   .subst z;rfl
   .rw[decide_eq_true (show (0:Int) < j by lia)];have g1:=gat (G:=G) hi (show j - 1<=n by lia);have dn:=h.across i (j - 1) hi (by lia);rw[show j - 1+1=j by lia] at dn;simp only[zC,zi,zh,zy,zP,za,zd,ze,zjT,yb];rw[show (j:Int) - 1=((j - 1:Nat):Int) by lia,g1];simp only[zjT,yb,zg,zdG,za0 dn,jB,decide_true,Bool.not_true]
  simp only[zV,c1,zjU,zN,zf];rw[ya];simp only[zV,c2,zjU,zN,zf,zJ,c3];simp[zt]
 rw[zz,zu];simp only[zo,zi,zh,zy,zC,ze,za,zd,zjT,zg,x6,yb,show (n:Int)+1 - 1=n by lia];rcases hr with e | e
 .rw[e];simp only[zjU];rw[zS (by simp)];simp only[zf,List.set_cons_succ,List.set_cons_zero];exact rest _ (.inl rfl) _
 .rw[e];simp only[zjU];rw[zS (by simp)];simp only[zf,List.set_cons_succ,List.set_cons_zero];exact rest _ (.inr rfl) _
end
end Lib
namespace Lib
section
variable {lev:Nat->Lv}{cl:Nat->List Dat->Rd}{k:Nat}
noncomputable def qo (kp:Nat):Sm:=(.ite (.call kp (.pair (.var 0) (.pair (.var 1) (.pair (.var 2) .unit)))) (.ret (.tup (.pair (.var 1) (.pair (.var 2) .unit)))) .skip)
noncomputable def zdH (kp:Nat):Fn:=⟨1,3,(.seq (.forv 1 (.rng (.lit (.int 1)) (.bin .add (.blt .len (.pair (.var 0) .unit)) (.lit (.int 1))) (.lit (.int 1))) (.forv 2 (.rng (.lit (.int 0)) (.var 1) (.lit (.int 1))) (qo kp))) (.ret (.lit .non)))⟩
theorem zbO {kp:Nat}{n:Nat}{X:List (List Int)}(hX:X.length=n)(hn:n<=12)(hp:∀i m:Nat,i < n->m<=i->cl kp [tab X,.int ((i:Int)+1),.int m]=.ok (.bl false)):zq lev cl k (zdH kp) [tab X]=.ok .non:=by
 have hlen:yC .len [tab X]=.ok (.int n):=by simp[tab,hX]
 have hrng:wE (.int 1) (.int ((n:Int)+1)) (.int 1)=.ok (.tup (ym 1 1 n)):=by
  rw[xV (by unfold lim;lia)];simp[wY]
 have main:=zO (body:=λd de lv=>exD lev cl (.forv 2 (.rng (.lit (.int 0)) (.var 1) (.lit (.int 1))) (qo kp)) (de.set 1 (some d)) (lv.set 1 (lvF d)))
  (λ_ de lv=>∃ (o1 o2:Option Dat),de=[some (tab X),o1,o2])
  (ym 1 1 n) (de:=[some (tab X),none,none]) (lv:=[lvF (tab X),.full,.full]) ⟨none,none,rfl⟩ ?_
 .obtain ⟨de',lv',e,o1,o2,rfl⟩:=main;unfold zq;rw[if_pos (by rfl)];show zt (lev k) (exD lev cl (.seq _ (.ret _)) [some (tab X),none,none] [lvF (tab X),.full,.full])=_;rw[ya,yH];simp only[yn,ze,zy,zC,zi,zh,za,zjT,zg,hlen,zZ,hrng,zjU,yc,yx,yo,if_true];rw[e,zf];simp[zt]
 .rintro i d de lv hd ⟨o1,o2,rfl⟩;have hi:i < n:=by
   have:=(List.getElem?_eq_some_iff.mp hd).1;simpa using this
  rw[yg _ _ _ _ hi] at hd;cases hd;simp only[List.set_cons_succ,List.set_cons_zero];rw[show (1+1 * (i:Int))=(i:Int)+1 by lia];have hrng2:wE (.int 0) (.int ((i:Int)+1)) (.int 1)=.ok (.tup (ym 0 1 (i+1))):=by
   rw[xV (by unfold lim;lia)];simp only[wY,if_true,Int.sub_zero];rfl
  have inner:=zO (body:=λd de lv=>exD lev cl (qo kp) (de.set 2 (some d)) (lv.set 2 (lvF d)))
   (λ_ de lv=>∃ (o2:Option Dat),de=[some (tab X),some (.int ((i:Int)+1)),o2])
   (ym 0 1 (i+1)) (de:=[some (tab X),some (.int ((i:Int)+1)),o2]) (lv:=lv.set 1 (lvF (.int ((i:Int)+1)))) ⟨o2,rfl⟩ ?_
  .obtain ⟨de',lv',e,p2,rfl⟩:=inner;refine ⟨_,lv',?_,some (.int ((i:Int)+1)),p2,rfl⟩;rw[yH];simp only[yn,ze,za,zd,zjT,hrng2,zjU,yc,yx,yo,if_true];exact e
  .rintro m d de lv hd ⟨p2,rfl⟩;have hm:m < i+1:=by
    have:=(List.getElem?_eq_some_iff.mp hd).1;simpa using this
   rw[yg _ _ _ _ hm] at hd;cases hd;refine ⟨_,lv.set 2 (lvF (.int (0+1 * (m:Int)))),?_,some (.int (0+1 * (m:Int))),rfl⟩;simp only[List.set_cons_succ,List.set_cons_zero];rw[show (0+1 * (m:Int))=(m:Int) by lia];unfold qo;simp only[zV,zo,zi,zh,za,zd,zjT,zg,hp i m hi (by lia),zjU,zN]
noncomputable def marks (n:Nat)(x:List Int):List Int:=(List.range n).map λ(c:Nat)=>b2i (mem x c)
def zdI:Fn:=⟨2,2,(.ret (.comp (.ife (.cmp .isin (.var 2) (.var 0)) (.lit (.int 1)) (.lit (.int 0))) (.rng (.lit (.int 0)) (.var 1) (.lit (.int 1))) (.lit (.bl true))))⟩
theorem zbP (x:List Int){n:Nat}(hn:n<=100)(hk:lev k≠.top):zq lev cl k zdI [row x,.int n]=.ok (row (marks n x)):=by
 have hrng:wE (.int 0) (.int (n:Int)) (.int 1)=.ok (.tup (ym 0 1 n)):=by
  rw[xV (by unfold lim;lia)];simp[wY]
 have hev:evD cl (.comp (.ife (.cmp .isin (.var 2) (.var 0)) (.lit (.int 1)) (.lit (.int 0))) (.rng (.lit (.int 0)) (.var 1) (.lit (.int 1))) (.lit (.bl true))) [some (row x),some (.int n)]=.ok (row (marks n x)):=by
  rw[zW];simp only[yn,ze,za,zd,zjT,hrng,yc];rw[y9 0 1 n (λc=>.int (b2i (mem x c))) (λc _=>by simp) (λc _=>?_) (by unfold lim;lia)]
  .simp only[row,marks,List.map_map];rfl
  .rw[show (0+1 * (c:Int))=(c:Int) by lia];simp only[List.cons_append,List.nil_append,q8,zT,za,zd,zjT,qg];cases mem x c <;> simp[b2i]
 have hlv:lvE lev (.comp (.ife (.cmp .isin (.var 2) (.var 0)) (.lit (.int 1)) (.lit (.int 0))) (.rng (.lit (.int 0)) (.var 1) (.lit (.int 1))) (.lit (.bl true))) (row (marks n x))=.full:=by
  unfold row
  first | rw[yD] | rw[yf]
  simp only[yh,Bool.false_eq_true,if_false];rw[if_pos (xH _ _ λi=>by simp)]
 unfold zq;rw[if_pos (by rfl)];show zt (lev k) (exD lev cl (.ret _) [some (row x),some (.int n)] _)=_;rw[zJ,hev];simp only[zjU,lvR,zt];rw[show flat (row (marks n x))=false from by simp[row]];simp only[Bool.false_eq_true,if_false,hlv,Bool.false_or];cases e:lev k <;> first | rfl | exact absurd e hk
noncomputable def zbQ:Ex:=(.compP .zip (.bin .sub (.var 6) (.var 7)) (.var 5) (.var 3) (.lit (.bl true)))
noncomputable def zfi (km:Nat):Sm:=(.seq (.asg 5 (.call km (.pair (.var 4) (.pair (.var 1) .unit)))) (.seq (.expr (.meth .append (.var 2) (.pair zbQ .unit))) (.asg 3 (.var 5))))
noncomputable def ziZ (km:Nat):Fn:=⟨1,6,(.seq (.asg 1 (.blt .len (.pair (.var 0) .unit))) (.seq (.asg 2 (.lst .unit)) (.seq (.asg 3 (.bin .mul (.lst (.pair (.lit (.int 0)) .unit)) (.var 1))) (.seq (.forv 4 (.var 0) (zfi km)) (.ret (.var 2))))))⟩
theorem zbR (n:Nat)(x y:List Int):((marks n x).zip (marks n y)).map (λp=>p.1 - p.2)=xa n x y:=by
 unfold marks xa;refine List.ext_getElem? λi=>?_;by_cases hi:i < n
 .rw[List.getElem?_map,vM (a:=b2i (mem x i)) (b:=b2i (mem y i)) (by simp[hi]) (by simp[hi])];simp[hi]
 .rw[List.getElem?_eq_none (by simp;lia),List.getElem?_eq_none (by simp;lia)]
theorem zdJ {km:Nat}{n:Nat}(hn:n<=100)(hm:∀x:List Int,cl km [row x,.int n]=.ok (row (marks n x)))(hlev:lev km=.full){A:List (List Int)}(hA:A.length < lim)(x y:List Int)(d0 o5:Option Dat)(l0 l3 l4 l5:Lv):
  exD lev cl (zfi km) [d0,some (.int n),some (tab A),some (row (marks n y)),some (row x),o5] [l0,.full,.full,l3,l4,l5]=.next [d0,some (.int n),some (tab (A++[xa n x y])),some (row (marks n x)),some (row x),some (row (marks n x))] [l0,.full,.full,.no,l4,.no]:=by
 have hl:(marks n x).length=n:=by simp[marks]
 have hl2:(marks n y).length=n:=by simp[marks]
 have hev:evD cl zbQ [d0,some (.int n),some (tab A),some (row (marks n y)),some (row x),some (row (marks n x))]=.ok (row (xa n x y)):=by
  unfold zbQ;rw[y8];simp only[za,zd,zjT,zaV];rw[if_pos (by rw[hl,hl2];unfold lim;lia)];simp only;rw[zE (λ(p:Int×Int)=>(Dat.int p.1,Dat.int p.2)) (λp=>.int (p.1 - p.2)) _ [] (λp _=>by simp) (λp _=>by simp) (by rw[List.length_zip,hl,hl2];simp;unfold lim;lia)];rw[<- zbR n x y];simp[row]
 have hlv:lvE lev zbQ (row (xa n x y))=.full:=by
  unfold row zbQ
  first | rw[yD] | rw[yf]
  simp only[yh,Bool.false_eq_true,if_false];rw[if_pos (xH _ _ λi=>by simp)]
 unfold zfi;rw[zz,zu];simp only[zo,zi,zh,za,zd,zjT,zg,hm,zjU];rw[zM (by simp[row,hlev])];simp only[zf,List.set_cons_succ,List.set_cons_zero];rw[zdk,wS,hev];simp only[zjR];have hls:xo [d0,some (.int n),some (tab A),some (row (marks n y)),some (row x),some (row (marks n x))] 2=some (A.map row):=rfl;rw[hls];simp only[List.length_map];rw[if_pos hA];have hg:xc lev zbQ (row (xa n x y)) 2 [d0,some (.int n),some (tab A),some (row (marks n y)),some (row x),some (row (marks n x))] [l0,.full,.full,l3,l4,.full]=some ([d0,some (.int n),some (tab A),some (row (marks n y)),some (row x),some (row (marks n x))],[l0,.full,.full,l3,l4,.full]):=by
  unfold xc;rw[if_neg (by simp[yi]),if_pos hlv]
 rw[hg];simp only[zf,List.set_cons_succ,List.set_cons_zero,zu,za,zd,zjU];unfold xY;rw[if_neg (by simp[row])];simp[y6,downs,row,tab]
theorem zbS (n:Nat):Dat.lst (List.replicate n [Dat.int 0]).flatten=row (marks n []):=by
 have h:=kY (List.replicate n []);rw[List.length_replicate] at h;rw[h];congr 1;unfold zG marks;rw[List.length_replicate];refine List.map_congr_left λc _=>?_;simp[S,mem,b2i]
theorem zfj {km:Nat}{X:List (List Int)}(hn:X.length<=100)(hm:∀x:List Int,cl km [row x,.int X.length]=.ok (row (marks X.length x)))(hlev:lev km=.full)(hk:lev k≠.top):zq lev cl k (ziZ km) [tab X]=.ok (tab (sg X)):=by
 have hlen:yC .len [tab X]=.ok (.int X.length):=by simp[tab]
 have main:=zO (body:=λd de lv=>exD lev cl (zfi km) (de.set 4 (some d)) (lv.set 4 (lvF d)))
  (λi de lv=>∃ (o4 o5:Option Dat) (l3 l4 l5:Lv),de=[some (tab X),some (.int X.length),some (tab ((sg X).take i)),some (row (marks X.length (zY X i))),o4,o5]/\lv=[.no,.full,.full,l3,l4,l5])
  (X.map row) (de:=[some (tab X),some (.int X.length),some (tab []),some (row (marks X.length [])),none,none]) (lv:=[.no,.full,.full,.full,.full,.full])
  ⟨none,none,.full,.full,.full,rfl,rfl⟩ ?_
 .obtain ⟨de',lv',e,o4,o5,l3,l4,l5,rfl,rfl⟩:=main;unfold zq;rw[if_pos (by rfl)];show zt (lev k) (exD lev cl (.seq _ (.seq _ (.seq _ (.seq _ _)))) [some (tab X),none,none,none,none,none] [lvF (tab X),.full,.full,.full,.full,.full])=_;rw[show lvF (tab X)=.no from by simp[lvF,tab],zz];simp only[zu,zC,zi,zh,za,zjT,zg,hlen,zjU];rw[zM (by simp)];simp only[zf,List.set_cons_succ,List.set_cons_zero];rw[zz];have hnew:yB []=.ok (tab []):=rfl;simp only[zu,yI,zh,zjT,zg,hnew,zjU];rw[zM (by simp[tab])];simp only[zf,List.set_cons_succ,List.set_cons_zero];rw[zz];have hmul:yy .mul (.lst [.int 0]) (.int X.length)=.ok (row (marks X.length [])):=by
   simp only[yy];rw[if_pos (by unfold lim;lia),Int.toNat_natCast,<- zbS,yG];simp;unfold lim;lia
  simp only[zu,zy,yI,zi,zh,ze,za,zd,zjT,zg];rw[yG (by simp;unfold lim;lia)];simp only[zjT,hmul,zjU];rw[zM (by simp[row])];simp only[zf,List.set_cons_succ,List.set_cons_zero];rw[ya,yH];have hit:itD (tab X)=some (X.map row):=yJ (by simp;unfold lim;lia);have hfl:flat (tab X)=false:=by simp[tab]
  simp only[za,zjU,hit,hfl];have hrel:(if false=true then [Lv.no,Lv.full,Lv.full,Lv.full,Lv.full,Lv.full] else y6 (.var 0) [some (tab X),some (.int X.length),some (tab []),some (row (marks X.length [])),none,none] [Lv.no,Lv.full,Lv.full,Lv.full,Lv.full,Lv.full])=[.no,.full,.full,.full,.full,.full]:=rfl;rw[hrel,e,zf];rw[List.length_map,List.take_of_length_le (by simp[sg])];simp only[zJ,za,zd,zjU,lvR,zt,show flat (tab (sg X))=false from by simp[tab],Bool.false_eq_true,if_false,Bool.false_or];show (if xT Lv.full (lev k)=true then _ else _)=_;cases e:lev k <;> first | rfl | exact absurd e hk
 .rintro i d de lv hd ⟨o4,o5,l3,l4,l5,rfl,rfl⟩;have hi:i < X.length:=by
   have:=(List.getElem?_eq_some_iff.mp hd).1;simpa using this
  have hdi:d=row (X.getD i []):=by
   rw[List.getElem?_map,List.getElem?_eq_getElem hi] at hd;cases hd;rw[List.getD_eq_getElem?_getD,List.getElem?_eq_getElem hi];rfl
  subst hdi;simp only[List.set_cons_succ,List.set_cons_zero,show lvF (row (X.getD i []))=.no from by simp[lvF,row]];refine ⟨_,_,zdJ hn hm hlev (by simp[sg];unfold lim;lia) (X.getD i []) (zY X i) _ _ _ _ _ _,some (row (X.getD i [])),some (row (marks X.length (X.getD i []))),.no,.no,.no,?_,rfl⟩;have e2:(sg X).take (i+1)=(sg X).take i++[xa X.length (X.getD i []) (zY X i)]:=by
   rw[List.take_add_one,ga hi,Option.toList_some]
  have hp:zY X (i+1)=X.getD i []:=by simp[zY]
  rw[e2,hp]
noncomputable def zi0 (kc kf ks:Nat):Fn:=⟨1,2,(.seq (.ite (.not (.call kc (.pair (.var 0) .unit))) .never .skip) (.seq (.asg 1 (.call kf (.pair (.var 0) .unit))) (.seq (.ite (.cmp .notN (.var 1) (.lit .non)) .never .skip) (.ret (.call ks (.pair (.var 0) .unit))))))⟩
theorem zfk {kc kf ks:Nat}{d:Dat}{R:List (List Int)}(hc:cl kc [d]=.ok (.bl true))(hf:cl kf [d]=.ok .non)(hs:cl ks [d]=.ok (tab R))(hlev:lev ks=.full)(hk:lev k≠.top):zq lev cl k (zi0 kc kf ks) [d]=.ok (tab R):=by
 unfold zq;rw[if_pos (by rfl)];show zt (lev k) (exD lev cl (.seq _ (.seq _ (.seq _ (.ret _)))) [some d,none] [lvF d,.full])=_;rw[zz];simp only[zV,wn,zo,zi,zh,za,zjT,zg,hc,Bool.not_true,zjU,zN,zf];rw[zz];simp only[zu,zo,zi,zh,za,zjT,zg,hf,zjU];rw[zS (by simp)];simp only[zf,List.set_cons_succ,List.set_cons_zero];rw[ya];simp only[zV,zT,xG,za,zd,zjT,show yz .notN .non .non=.ok (.bl false) from rfl,zjU,zN,zf,zJ,zo,zi,zh,zg,hs,lvR,zt];rw[show flat (tab R)=false from by simp[tab]];simp only[Bool.false_eq_true,if_false,Bool.false_or];rw[show lvE lev (.call ks (.pair (.var 0) .unit)) (tab R)=.full from by simp[tab,hlev]];cases e:lev k <;> first | rfl | exact absurd e hk
end
end Lib
namespace Lib
section
variable {lev:Nat->Lv}{cl:Nat->List Dat->Rd}{k:Nat}
noncomputable def zi1 (kp:Nat):Fn:=⟨1,3,(.seq (.forv 1 (.rng (.lit (.int 0)) (.blt .len (.pair (.var 0) .unit)) (.lit (.int 1))) (.forv 2 (.rng (.lit (.int 0)) (.blt .len (.pair (.var 0) .unit)) (.lit (.int 1))) (qo kp))) (.ret (.lit .non)))⟩
theorem zfl {kp:Nat}{n:Nat}{G:Nat->Nat->Int}(hn:n<=12)(hp:∀i j:Nat,i<=n->j<=n->cl kp [tab (zR n G),.int i,.int j]=.ok (.bl false)):zq lev cl k (zi1 kp) [tab (zR n G)]=.ok .non:=by
 have hrng:wE (.int 0) (.int ((n:Int)+1)) (.int 1)=.ok (.tup (ym 0 1 (n+1))):=by
  rw[xV (by unfold lim;lia)];simp only[wY,if_true,Int.sub_zero];rfl
 have main:=zO (body:=λd de lv=>exD lev cl (.forv 2 (.rng (.lit (.int 0)) (.blt .len (.pair (.var 0) .unit)) (.lit (.int 1))) (qo kp)) (de.set 1 (some d)) (lv.set 1 (lvF d)))
  (λ_ de lv=>∃ (o1 o2:Option Dat),de=[some (tab (zR n G)),o1,o2])
  (ym 0 1 (n+1)) (de:=[some (tab (zR n G)),none,none]) (lv:=[lvF (tab (zR n G)),.full,.full]) ⟨none,none,rfl⟩ ?_
 .obtain ⟨de',lv',e,o1,o2,rfl⟩:=main;unfold zq;rw[if_pos (by rfl)];show zt (lev k) (exD lev cl (.seq _ (.ret _)) [some (tab (zR n G)),none,none] [lvF (tab (zR n G)),.full,.full])=_;rw[ya,yH];simp only[yn,ze,zC,zi,zh,za,zjT,zg,x6,hrng,zjU,yc,yx,yo,if_true];rw[e,zf];simp[zt]
 .rintro i d de lv hd ⟨o1,o2,rfl⟩;have hi:i < n+1:=by
   have:=(List.getElem?_eq_some_iff.mp hd).1;simpa using this
  rw[yg _ _ _ _ hi] at hd;cases hd;simp only[List.set_cons_succ,List.set_cons_zero];rw[show (0+1 * (i:Int))=(i:Int) by lia];have inner:=zO (body:=λd de lv=>exD lev cl (qo kp) (de.set 2 (some d)) (lv.set 2 (lvF d)))
   (λ_ de lv=>∃ (o2:Option Dat),de=[some (tab (zR n G)),some (.int i),o2])
   (ym 0 1 (n+1)) (de:=[some (tab (zR n G)),some (.int i),o2]) (lv:=lv.set 1 (lvF (.int i))) ⟨o2,rfl⟩ ?_
  .obtain ⟨de',lv',e,p2,rfl⟩:=inner;refine ⟨_,lv',?_,some (.int i),p2,rfl⟩;rw[yH];simp only[yn,ze,zC,zi,zh,za,zd,zjT,zg,x6,hrng,zjU,yc,yx,yo,if_true];exact e
  .rintro m d de lv hd ⟨p2,rfl⟩;have hm:m < n+1:=by
    have:=(List.getElem?_eq_some_iff.mp hd).1;simpa using this
   rw[yg _ _ _ _ hm] at hd;cases hd;refine ⟨_,lv.set 2 (lvF (.int (0+1 * (m:Int)))),?_,some (.int (0+1 * (m:Int))),rfl⟩;simp only[List.set_cons_succ,List.set_cons_zero];rw[show (0+1 * (m:Int))=(m:Int) by lia];unfold qo;simp only[zV,zo,zi,zh,za,zd,zjT,zg,hp i m (by lia) (by lia),zjU,zN]
noncomputable def zfX:Fn:=⟨3,3,(.ret (.bin .fdiv (.bin .sub (.bin .sub (.bin .add (.idx (.idx (.var 0) (.var 1)) (.bin .add (.var 2) (.lit (.int 1)))) (.idx (.idx (.var 0) (.bin .add (.var 1) (.lit (.int 1)))) (.var 2))) (.idx (.idx (.var 0) (.var 1)) (.var 2))) (.idx (.idx (.var 0) (.bin .add (.var 1) (.lit (.int 1)))) (.bin .add (.var 2) (.lit (.int 1))))) (.lit (.int 2))))⟩
theorem zdK {n:Nat}(G:Nat->Nat->Int){r c:Nat}(hr:r < n)(hc:c < n):zq lev cl k zfX [tab (zR n G),.int r,.int c]=.ok (.int (amid G r c)):=by
 have g1:=gat (G:=G) (show r<=n by lia) (show c+1<=n by lia);have g2:=gat (G:=G) (show r+1<=n by lia) (show c<=n by lia);have g3:=gat (G:=G) (show r<=n by lia) (show c<=n by lia);have g4:=gat (G:=G) (show r+1<=n by lia) (show c+1<=n by lia);unfold zq;rw[if_pos (by rfl)];show zt (lev k) (exD lev cl (.ret _) [some (tab (zR n G)),some (.int r),some (.int c)] _)=_;simp only[zJ,zy,zP,ze,za,zd,zjT,zZ,show (c:Int)+1=((c+1:Nat):Int) by lia,show (r:Int)+1=((r+1:Nat):Int) by lia];rw[g1,g2,g3,g4];simp only[zjT,zZ,yb,ki _ 2 (by decide) (by decide),zjU,zt,qe,Bool.true_or,if_true];rfl
theorem gd {n:Nat}(hn:n<=12):wE (.int 0) (.int ((n:Int)+1 - 1)) (.int 1)=.ok (.tup (ym 0 1 n)):=by
 rw[show (n:Int)+1 - 1=n by lia,xV (by unfold lim;lia)];simp[wY]
noncomputable def zfY (ka:Nat):Fn:=⟨2,2,(.ret (.comp (.call ka (.pair (.var 0) (.pair (.var 1) (.pair (.var 2) .unit)))) (.rng (.lit (.int 0)) (.bin .sub (.blt .len (.pair (.var 0) .unit)) (.lit (.int 1))) (.lit (.int 1))) (.lit (.bl true))))⟩
theorem zdL {ka:Nat}{n:Nat}(hn:n<=12){G:Nat->Nat->Int}{r:Nat}(ha:∀c,c < n->cl ka [tab (zR n G),.int r,.int (c:Nat)]=.ok (.int (amid G r c)))(hk:lev k≠.top):zq lev cl k (zfY ka) [tab (zR n G),.int r]=.ok (row (vN n G r)):=by
 have hev:evD cl (.comp (.call ka (.pair (.var 0) (.pair (.var 1) (.pair (.var 2) .unit)))) (.rng (.lit (.int 0)) (.bin .sub (.blt .len (.pair (.var 0) .unit)) (.lit (.int 1))) (.lit (.int 1))) (.lit (.bl true))) [some (tab (zR n G)),some (.int r)]=.ok (row (vN n G r)):=by
  rw[zW];simp only[yn,ze,zy,zC,zi,zh,za,zd,zjT,zg,x6,yb,gd hn,yc];rw[y9 0 1 n (λc=>.int (amid G r c)) (λc _=>by simp) (λc hc=>?_) (by unfold lim;lia)]
  .simp only[row,vN,List.map_map];rfl
  .rw[show (0+1 * (c:Int))=(c:Int) by lia];simp only[List.cons_append,List.nil_append,zo,zi,zh,za,zd,zjT,zg,ha c hc]
 have hlv:lvE lev (.comp (.call ka (.pair (.var 0) (.pair (.var 1) (.pair (.var 2) .unit)))) (.rng (.lit (.int 0)) (.bin .sub (.blt .len (.pair (.var 0) .unit)) (.lit (.int 1))) (.lit (.int 1))) (.lit (.bl true))) (row (vN n G r))=.full:=by
  unfold row
  first | rw[yD] | rw[yf]
  simp only[yh,Bool.false_eq_true,if_false];rw[if_pos (xH _ _ λi=>by simp)]
 unfold zq;rw[if_pos (by rfl)];show zt (lev k) (exD lev cl (.ret _) [some (tab (zR n G)),some (.int r)] _)=_;rw[zJ,hev];simp only[zjU,lvR,zt];rw[show flat (row (vN n G r))=false from by simp[row]];simp only[Bool.false_eq_true,if_false,hlv,Bool.false_or];cases e:lev k <;> first | rfl | exact absurd e hk
end
end Lib
namespace Lib
section
variable {lev:Nat->Lv}{cl:Nat->List Dat->Rd}{k:Nat}
noncomputable def zbT (ks:Nat):Ex:=(.comp (.call ks (.pair (.var 0) (.pair (.var 1) .unit))) (.rng (.lit (.int 0)) (.bin .sub (.blt .len (.pair (.var 0) .unit)) (.lit (.int 1))) (.lit (.int 1))) (.lit (.bl true)))
noncomputable def zi2 (ks:Nat):Fn:=⟨1,1,(.ret (zbT ks))⟩
theorem zfm {ks:Nat}{n:Nat}(hn:n<=12){G:Nat->Nat->Int}(hs:∀r,r < n->cl ks [tab (zR n G),.int (r:Nat)]=.ok (row (vN n G r)))(hlev:lev ks=.full)(hk:lev k≠.top):zq lev cl k (zi2 ks) [tab (zR n G)]=.ok (tab (wJ n G)):=by
 have hev:evD cl (zbT ks) [some (tab (zR n G))]=.ok (tab (wJ n G)):=by
  unfold zbT;rw[zW];simp only[yn,ze,zy,zC,zi,zh,za,zd,zjT,zg,x6,yb,gd hn,yc];rw[y9 0 1 n (λr=>row (vN n G r)) (λc _=>by simp) (λc hc=>?_) (by unfold lim;lia)]
  .simp only[tab,wJ,List.map_map];rfl
  .rw[show (0+1 * (c:Int))=(c:Int) by lia];simp only[List.cons_append,List.nil_append,zo,zi,zh,za,zd,zjT,zg,hs c hc]
 have hlv:lvE lev (zbT ks) (tab (wJ n G))=.full:=by
  have:((wJ n G).map row).all (λx=>lvE lev (.call ks (.pair (.var 0) (.pair (.var 1) .unit))) x == .full)=true:=by
   rw[List.all_map,List.all_eq_true];intro x _;simp[row,hlev]
  unfold tab zbT
  first | rw[yD] | rw[yf]
  simp only[yh,Bool.false_eq_true,if_false];rw[if_pos this]
 unfold zq;rw[if_pos (by rfl)];show zt (lev k) (exD lev cl (.ret _) [some (tab (zR n G))] _)=_;rw[zJ,hev];have hl2:∀lv,lvR lev (zbT ks) (tab (wJ n G)) lv=.full:=λlv=>by
  unfold lvR;rw[if_neg (by simp[tab])];exact hlv
 simp only[zjU];rw[hl2];simp only[zt];rw[show flat (tab (wJ n G))=false from by simp[tab],Bool.false_or];cases e:lev k <;> first | rfl | exact absurd e hk
noncomputable def zi3 (kc kf kg:Nat):Fn:=⟨1,2,(.seq (.ite (.not (.call kc (.pair (.var 0) .unit))) .never .skip) (.seq (.asg 1 (.call kf (.pair (.var 0) .unit))) (.seq (.ite (.cmp .notN (.var 1) (.lit .non)) .never .skip) (.ret (.call kg (.pair (.var 0) .unit))))))⟩
theorem zfn {kc kf kg:Nat}{n:Nat}{G:Nat->Nat->Int}(hc:cl kc [tab (zR n G)]=.ok (.bl true))(hf:cl kf [tab (zR n G)]=.ok .non)(hs:cl kg [tab (zR n G)]=.ok (tab (wJ n G)))(hlev:lev kg=.full)(hk:lev k≠.top):zq lev cl k (zi3 kc kf kg) [tab (zR n G)]=.ok (tab (wJ n G)):=by
 unfold zq;rw[if_pos (by rfl)];show zt (lev k) (exD lev cl (.seq _ (.seq _ (.seq _ (.ret _)))) [some (tab (zR n G)),none] [lvF (tab (zR n G)),.full])=_;rw[zz];simp only[zV,wn,zo,zi,zh,za,zjT,zg,hc,Bool.not_true,zjU,zN,zf];rw[zz];simp only[zu,zo,zi,zh,za,zjT,zg,hf,zjU];rw[zS (by simp)];simp only[zf,List.set_cons_succ,List.set_cons_zero];rw[ya];simp only[zV,zT,xG,za,zd,zjT,show yz .notN .non .non=.ok (.bl false) from rfl,zjU,zN,zf,zJ,zo,zi,zh,zg,hs];have hl2:∀lv,lvR lev (.call kg (.pair (.var 0) .unit)) (tab (wJ n G)) lv=.full:=λlv=>by
  unfold lvR;rw[if_neg (by simp[tab])];simp[hlev]
 rw[hl2];simp only[zt];rw[show flat (tab (wJ n G))=false from by simp[tab],Bool.false_or];cases e:lev k <;> first | rfl | exact absurd e hk
end
end Lib
namespace Lib
section
variable {lev:Nat->Lv}{cl:Nat->List Dat->Rd}{k:Nat}
noncomputable def zhp:Sm:=(.seq (.expr (.meth .append (.var 2) (.pair (.bin .mod (.var 3) (.lit (.int 60))) .unit))) (.asg 3 (.bin .fdiv (.var 3) (.lit (.int 60)))))
noncomputable def zhq:Ex:=(.bin .mod (.bin .add (.bin .add (.bin .mul (.var 0) (.bin .add (.lit (.int 48271)) (.bin .mul (.lit (.int 2)) (.var 4)))) (.bin .mul (.lit (.int 7919)) (.var 4))) (.lit (.int 5))) (.lit (.int 99991)))
noncomputable def zhr:Ex:=(.bin .mod (.bin .mul (.var 5) (.bin .add (.bin .add (.var 5) (.lit (.int 3))) (.bin .mul (.var 4) (.var 4)))) (.lit (.int 99989)))
noncomputable def zhs:Sm:=(.seq (.asg 5 zhq) (.expr (.meth .append (.var 2) (.pair zhr .unit))))
noncomputable def zfo:Sm:=(.ite (.cmp .ge (.var 0) (.bin .pow (.lit (.int 10)) (.lit (.int 18)))) zhp zhs)
noncomputable def zht:Fn:=⟨2,6,(.seq (.asg 2 (.lst .unit)) (.seq (.asg 3 (.var 0)) (.seq (.forv 4 (.rng (.lit (.int 0)) (.var 1) (.lit (.int 1))) zfo) (.ret (.var 2)))))⟩
theorem gf {e:Ex}{v:Int}{x:List Int}(hx:x.length < lim)(de:DEn)(lv:List Lv)(j:Nat)(he:evD cl e de=.ok (.int v))(hd:de[j]?=some (some (row x)))(hj:yi lv j=true):
  exD lev cl (.expr (.meth .append (.var j) (.pair e .unit))) de lv=.next (de.set j (some (row (x++[v])))) lv:=by
 rw[wS,he];simp only[zjR];have hls:xo de j=some (x.map Dat.int):=by simp[xo,hd,row]
 rw[hls];simp only[List.length_map];rw[if_pos hx];have hg:xc lev e (.int v) j de lv=some (de,lv):=by
  unfold xc;rw[if_neg (by simp[hj]),if_pos (yR lev e _ rfl)]
 rw[hg];simp[row]
theorem zdM (cell rest:Int)(m:Int){x:List Int}(hx:x.length < lim)(t:Nat)(o5:Option Dat):
  exD lev cl zhp [some (.int cell),some (.int m),some (row x),some (.int rest),some (.int t),o5] [.full,.full,.full,.full,.full,.full]=.next [some (.int cell),some (.int m),some (row (x++[rest % 60])),some (.int (rest / 60)),some (.int t),o5] [.full,.full,.full,.full,.full,.full]:=by
 have h1:=wo rest 60 (by decide);have h2:=ki rest 60 (by decide) (by decide);unfold zhp;rw[zdk,gf (v:=rest % 60) hx _ _ 2 (by simp only[zy,ze,za,zd,zjT,h1]) rfl rfl];simp only[zf,List.set_cons_succ,List.set_cons_zero,zu,zy,ze,za,zd,zjT,h2,zjU];rw[zS (by simp)];simp only[List.set_cons_succ,List.set_cons_zero]
theorem zdN (cell rest m t:Int){x:List Int}(ht:-1 < t)(ht':t < 101)(o5:Option Dat):
  ∃one:Int,yA one=true/\evD cl zhq [some (.int cell),some (.int m),some (row x),some (.int rest),some (.int t),o5]=.ok (.int one):=by
 have e1:yy .mul (.int 2) (.int t)=.ok (.int (2 * t)):=yO _ _ (by decide);have e2:yy .mul (.int 7919) (.int t)=.ok (.int (7919 * t)):=yO _ _ (by decide);have e3:yy .add (.int 48271) (.int (2 * t))=.ok (.int (48271+2 * t)):=zZ _ _;have e4:yy .mul (.int cell) (.int (48271+2 * t))=.ok (.int (cell * (48271+2 * t))):=zaS _ _ (vk (by lia) (by lia));have e5:=zZ (cell * (48271+2 * t)) (7919 * t);generalize cell * (48271+2 * t)+7919 * t=A at *
 have e6:=zZ A 5;have e7:=wo (A+5) 99991 (by decide);have b1:0<=(A+5) % 99991:=by lia
 have b2:(A+5) % 99991 < 99991:=by lia
 refine ⟨(A+5) % 99991,vk (by lia) (by lia),?_⟩;unfold zhq;simp only[zy,ze,za,zd,zjT,e1,e2,e3,e4,e5,e6,e7]
theorem zdO (cell rest m t one:Int){x:List Int}(ht:yA t=true)(ho:yA one=true):
  ∃v:Int,evD cl zhr [some (.int cell),some (.int m),some (row x),some (.int rest),some (.int t),some (.int one)]=.ok (.int v):=by
 have e1:=yO t t ht;have e2:=zZ one 3;have e3:=zZ (one+3) (t * t);have e4:=yO one (one+3+t * t) ho;have e5:=wo (one * (one+3+t * t)) 99989 (by decide);refine ⟨(one * (one+3+t * t)) % 99989,?_⟩;unfold zhr;simp only[zy,ze,za,zd,zjT,e1,e2,e3,e4,e5]
theorem zdP (cell rest m t:Int){x:List Int}(hx:x.length < lim)(ht:-1 < t)(ht':t < 101)(o5:Option Dat):
  ∃v o5',exD lev cl zhs [some (.int cell),some (.int m),some (row x),some (.int rest),some (.int t),o5] [.full,.full,.full,.full,.full,.full]=.next [some (.int cell),some (.int m),some (row (x++[v])),some (.int rest),some (.int t),o5'] [.full,.full,.full,.full,.full,.full]:=by
 obtain ⟨one,s5,hone⟩:=zdN (cl:=cl) cell rest m t (x:=x) ht ht' o5;obtain ⟨v,hv⟩:=zdO (cl:=cl) cell rest m t one (x:=x) (vk (by lia) (by lia)) s5;refine ⟨v,some (.int one),?_⟩;unfold zhs;rw[wp,zu,hone,zjU,zS (by simp)];simp only[zf,List.set_cons_succ,List.set_cons_zero];rw[gf (v:=v) hx _ _ 2 hv rfl rfl];simp only[List.set_cons_succ,List.set_cons_zero]
theorem zdQ (cell rest:Int)(m:Int){x:List Int}(hx:x.length < lim)(t:Nat)(ht:t<=100)(o5:Option Dat):
  ∃v rest' o5',exD lev cl zfo [some (.int cell),some (.int m),some (row x),some (.int rest),some (.int t),o5] [.full,.full,.full,.full,.full,.full]=.next [some (.int cell),some (.int m),some (row (x++[v])),some (.int rest'),some (.int t),o5'] [.full,.full,.full,.full,.full,.full]:=by
 have hp:yy .pow (.int 10) (.int 18)=.ok (.int (10 ^ 18)):=zhi 10 18 ⟨by decide,by decide,by decide⟩;unfold zfo;rw[zV];simp only[zT,zy,ze,za,zjT,hp,ziO,zjU];generalize ((10:Int) ^ 18)=P;by_cases hc:P<=cell
 .simp only[hc,decide_true];exact ⟨rest % 60,rest / 60,o5,zdM cell rest m hx t o5⟩
 .simp only[hc,decide_false];obtain ⟨v,o,e⟩:=zdP (lev:=lev) (cl:=cl) cell rest m t hx (by lia) (by lia) o5;exact ⟨v,rest,o,e⟩
theorem zfp (cell:Int){m:Nat}(hm:m<=100)(hk:lev k≠.top):∃x:List Int,x.length=m/\zq lev cl k zht [.int cell,.int m]=.ok (row x):=by
 have hrng:wE (.int 0) (.int (m:Int)) (.int 1)=.ok (.tup (ym 0 1 m)):=by
  rw[xV (by unfold lim;lia)];simp[wY]
 have main:=zO (body:=λd de lv=>exD lev cl zfo (de.set 4 (some d)) (lv.set 4 (lvF d)))
  (λt de lv=>∃ (x:List Int) (rest:Int) (o4 o5:Option Dat),x.length=t/\de=[some (.int cell),some (.int m),some (row x),some (.int rest),o4,o5]/\lv=[.full,.full,.full,.full,.full,.full])
  (ym 0 1 m) (de:=[some (.int cell),some (.int m),some (row []),some (.int cell),none,none]) (lv:=[.full,.full,.full,.full,.full,.full])
  ⟨[],cell,none,none,rfl,rfl,rfl⟩ ?_
 .obtain ⟨de',lv',e,x,rest,o4,o5,hx,rfl,rfl⟩:=main;rw[x0] at hx;refine ⟨x,hx,?_⟩;unfold zq;rw[if_pos (by rfl)];show zt (lev k) (exD lev cl (.seq _ (.seq _ (.seq _ _))) [some (.int cell),some (.int m),none,none,none,none] [lvF (.int cell),lvF (.int m),.full,.full,.full,.full])=_;rw[show lvF (.int cell)=.full from by simp[lvF],show lvF (.int (m:Int))=.full from by simp[lvF],zz];have hnew:yB []=.ok (row []):=rfl;simp only[zu,yI,zh,zjT,zg,hnew,zjU];rw[zM (by simp[row])];simp only[zf,List.set_cons_succ,List.set_cons_zero];rw[zz];simp only[zu,za,zjU];rw[zS (by simp)];simp only[zf,List.set_cons_succ,List.set_cons_zero];rw[ya,yH];simp only[yn,ze,za,zd,zjT,hrng,zjU,yc,yx,yo,if_true];rw[e,zf];simp only[zJ,za,zd,zjU,lvR,zt,show flat (row x)=false from by simp[row],Bool.false_eq_true,if_false,Bool.false_or];show (if xT Lv.full (lev k)=true then _ else _)=_;cases e:lev k <;> first | rfl | exact absurd e hk
 .rintro t d de lv hd ⟨x,rest,o4,o5,hx,rfl,rfl⟩;have ht:t < m:=by
   have:=(List.getElem?_eq_some_iff.mp hd).1;simpa using this
  rw[yg _ _ _ _ ht] at hd;cases hd;simp only[List.set_cons_succ,List.set_cons_zero,show lvF (.int (0+1 * (t:Int)))=.full from by simp[lvF]];rw[show (0+1 * (t:Int))=(t:Int) by lia];obtain ⟨v,rest',o5',e⟩:=zdQ (lev:=lev) (cl:=cl) cell rest m (x:=x) (by unfold lim;lia) t (by lia) o5;exact ⟨_,_,e,x++[v],rest',some (.int t),o5',by simp[hx],rfl,rfl⟩
def wK:Fn:=⟨1,1,(.seq (.ite (.cmp .eq (.bin .mod (.var 0) (.lit (.int 8))) (.lit (.int 3))) (.ret (.bin .add (.lit (.int 1)) (.bin .mod (.bin .fdiv (.var 0) (.lit (.int 8))) (.lit (.int 12))))) .skip) (.ret (.bin .add (.lit (.int 1)) (.bin .mod (.bin .fdiv (.var 0) (.lit (.int 8))) (.lit (.int 6))))))⟩
theorem qp (c:Int):∃n:Nat,1<=n/\n<=12/\zq lev cl k wK [.int c]=.ok (.int n):=by
 have h8:=wo c 8 (by decide);have d8:=ki c 8 (by decide) (by decide);have m12:=wo (c / 8) 12 (by decide);have m6:=wo (c / 8) 6 (by decide);by_cases h:c % 8=3
 .refine ⟨(1+c / 8 % 12).toNat,by lia,by lia,?_⟩;rw[show (((1+c / 8 % 12).toNat:Nat):Int)=1+c / 8 % 12 by lia];simp[zq,wK,yE,yF,zt,lvR,h8,d8,m12,h]
 .refine ⟨(1+c / 8 % 6).toNat,by lia,by lia,?_⟩;rw[show (((1+c / 8 % 6).toNat:Nat):Int)=1+c / 8 % 6 by lia];simp[zq,wK,yE,yF,zt,lvR,h8,d8,m6,h]
theorem zdR (c:Ex)(body:Sm)(de:DEn)(lv:List Lv):exD lev cl (.while c body) de lv=wg (evD cl c) (exD lev cl body) 1000000 de lv:=rfl
theorem zai {c:DEn->Rd}{body:DEn->List Lv->Rsd}(P:Nat->DEn->List Lv->Prop)(N:Nat)(hs:∀t de lv,t < N->P t de lv->c de=.ok (.bl true)/\∃de' lv',body de lv=.next de' lv'/\P (t+1) de' lv')(he:∀de lv,P N de lv->c de=.ok (.bl false)):
  ∀ (n t fuel:Nat) (de:DEn) (lv:List Lv),t+n=N->n < fuel->P t de lv->∃de' lv',wg c body fuel de lv=.next de' lv'/\P N de' lv':=by
 intro n
 induction n with
 | zero =>
  intro t fuel de lv h1 h2 p;obtain ⟨f,rfl⟩:∃f,fuel=f+1:=⟨fuel - 1,by lia⟩;have:t=N:=by lia
  subst this;refine ⟨de,lv,?_,p⟩;unfold wg;rw[he de lv p]
 | succ n ih =>
  intro t fuel de lv h1 h2 p;obtain ⟨f,rfl⟩:∃f,fuel=f+1:=⟨fuel - 1,by lia⟩;obtain ⟨hc,d1,l1,hb,p1⟩:=hs t de lv (by lia) p;obtain ⟨d2,l2,e,p2⟩:=ih (t+1) f d1 l1 (by lia) (by lia) p1;refine ⟨d2,l2,?_,p2⟩;unfold wg;rw[hc];simp only;rw[hb];exact e
end
end Lib
namespace Lib
section
variable {lev:Nat->Lv}{cl:Nat->List Dat->Rd}{k:Nat}
theorem zbU (j a x:Nat)(e:Ex)(de:DEn)(lv:List Lv):exD lev cl (.appPop j a x e) de lv=match xo de x,de[a]?,xo de j with
  | some (.int v::r),some (some (.int low)),some ds=>(evD cl e (de.set x (some (.lst r)))).okS λd=>match d with
   | .int k=>if j≠x/\a≠x/\yi lv j=true/\yi lv x=true/\0 < k/\ds.length < lim then .next ((de.set x (some (.lst r))).set j (some (.lst (ds++[.int (low+v % k)])))) lv else .no
   | _=>.no
  | _,_,_=>.no:=rfl
theorem qr (a:Sm)(j b x:Nat)(e:Ex):yu a (.appPop j b x e)=none:=rfl
theorem zbV (a:Sm)(j b x:Nat)(e:Ex)(de:DEn)(lv:List Lv):exD lev cl (.seq a (.appPop j b x e)) de lv=(exD lev cl a de lv).then (exD lev cl (.appPop j b x e)):=zQ lev cl de lv (qr a j b x e)
theorem zfq (j:Nat)(e:Ex)(de:DEn)(lv:List Lv):exD lev cl (.expr (.meth .insert (.var j) (.pair (.lit (.int 0)) (.pair e .unit)))) de lv=(evD cl e de).okS λd=>match xo de j with
   | some ds=>if ds.length < lim then match xc lev e d j de lv with
    | some (de1,lv1)=>.next (de1.set j (some (.lst (d::ds)))) lv1
    | none=>.no
    else .no
   | none=>.no:=rfl
theorem zhu (x:List Int):yz .ne (row x) (row [])=.ok (.bl (! decide (x=[]))):=by
 have h:∀y,yW yT (row y)=true:=λy=>by
  simp only[row,j5,wI];rw[yX];simp
 simp only[yz,eqD,h,Bool.and_self,if_true];simp only[row,j4,List.map_nil];cases x with
 | nil=>rfl
 | cons v x=>simp[deqL];rfl
noncomputable def zdS:Sm:=(.seq (.asg 7 (.idx (.var 4) (.var 6))) (.seq (.ite (.cmp .ne (.var 5) (.lst .unit)) (.asg 7 (.blt .max2 (.pair (.var 7) (.pair (.bin .add (.idx (.var 5) (.neg (.lit (.int 1)))) (.lit (.int 1))) .unit)))) .skip) (.appPop 5 7 2 (.bin .add (.bin .sub (.idx (.var 4) (.bin .add (.var 6) (.lit (.int 1)))) (.var 7)) (.lit (.int 1))))))
noncomputable def lv8 (l3 l4:Lv):List Lv:=[.full,.full,.full,l3,l4,.full,.full,.full]
theorem zdT {a b f:Option Dat}{l3 l4:Lv}{v:Int}{xs last acc:List Int}{m:Nat}{o7:Option Dat}(hm:m+1 < last.length)(hl:Inc last)(ha:acc.length=m)(hb:∀i,i < m->acc.getD i 0<=last.getD (i+1) 0)(hlim:last.length<=100):
  ∃ (w:Int) (p7:Option Dat),exD lev cl zdS [a,b,some (row (v::xs)),f,some (row last),some (row acc),some (.int m),o7] (lv8 l3 l4)=.next [a,b,some (row xs),f,some (row last),some (row (acc++[w])),some (.int m),p7] (lv8 l3 l4)
   /\ last.getD m 0<=w/\w<=last.getD (m+1) 0/\(0 < m->acc.getD (m - 1) 0 < w):=by
 have g1:yk (row last) (.int (m:Int))=.ok (.int (last.getD m 0)):=wT (by rw[List.getD_eq_getElem?_getD,List.getElem?_eq_getElem (by lia)];rfl);have g2:yk (row last) (.int ((m:Int)+1))=.ok (.int (last.getD (m+1) 0)):=by
  have:=wT (x:=last) (c:=m+1) (v:=last.getD (m+1) 0) (by rw[List.getD_eq_getElem?_getD,List.getElem?_eq_getElem (by lia)];rfl)
  rwa [show ((m+1:Nat):Int)=(m:Int)+1 by lia] at this
 have hi:=hl m hm;have low:∃low:Int,last.getD m 0<=low/\low<=last.getD (m+1) 0/\(0 < m->acc.getD (m - 1) 0 < low)/\exD lev cl (.seq (.asg 7 (.idx (.var 4) (.var 6))) (.ite (.cmp .ne (.var 5) (.lst .unit)) (.asg 7 (.blt .max2 (.pair (.var 7) (.pair (.bin .add (.idx (.var 5) (.neg (.lit (.int 1)))) (.lit (.int 1))) .unit)))) .skip)) [a,b,some (row (v::xs)),f,some (row last),some (row acc),some (.int m),o7] (lv8 l3 l4)=.next [a,b,some (row (v::xs)),f,some (row last),some (row acc),some (.int m),some (.int low)] (lv8 l3 l4):=by
  have hnew:yB []=.ok (row []):=rfl;unfold lv8;rw[zdi];simp only[zu,zP,zd,za,zjT,g1,zjU];rw[zS (by simp),zf];simp only[List.set_cons_succ,List.set_cons_zero,zV,zT,zd,za,yI,zh,zjT,zg,hnew];rw[zhu];by_cases z:acc=[]
  .subst z;refine ⟨last.getD m 0,by lia,by lia,λh=>by simp at ha;lia,?_⟩;simp
  .have hm0:0 < m:=by cases acc with
    | nil=>exact absurd rfl z
    | cons _ _=>simp at ha;lia
   have g3:yk (row acc) (.int (-1))=.ok (.int (acc.getD (m - 1) 0)):=by
    refine jC ?_;rw[List.length_map,ha,List.getElem?_map,List.getD_eq_getElem?_getD,List.getElem?_eq_getElem (by lia)];rfl
   have h1:=hb (m - 1) (by lia);rw[show m - 1+1=m by lia] at h1;refine ⟨if acc.getD (m - 1) 0+1 > last.getD m 0 then acc.getD (m - 1) 0+1 else last.getD m 0,?_,?_,?_,?_⟩
   .split <;> lia
   .split <;> lia
   .intro _;split <;> lia
   .simp only[z,decide_false,Bool.not_false,zjU,zu,zC,zi,zh,zy,zP,vK,ze,zd,za,zjT,g3,zZ,zg];rw[show yC .max2 [.int (last.getD m 0),.int (acc.getD (m - 1) 0+1)]=.ok (.int (if acc.getD (m - 1) 0+1 > last.getD m 0 then acc.getD (m - 1) 0+1 else last.getD m 0)) from rfl];simp only[zjU];rw[zS (by simp)];rfl
 obtain ⟨low,l1,l2,l3',hlow⟩:=low;have pos:0 < last.getD (m+1) 0 - low+1:=by lia
 have q1:=Int.emod_nonneg v (b:=last.getD (m+1) 0 - low+1) (by lia);have q2:=Int.emod_lt_of_pos v pos;refine ⟨low+v % (last.getD (m+1) 0 - low+1),some (.int low),?_,by lia,by lia,λh=>by have:=l3' h;lia⟩;unfold zdS;have assoc:∀ (A B:Sm) (j b x:Nat) (e:Ex) (de:DEn) (lv:List Lv),yu A B=none->exD lev cl (.seq A (.seq B (.appPop j b x e))) de lv=(exD lev cl (.seq A B) de lv).then (exD lev cl (.appPop j b x e)):=by
  intro A B j b x e de lv h;rw[zz,zQ lev cl de lv h];cases exD lev cl A de lv <;> first | rfl | (simp only[zf];rw[zbV])
 rw[assoc _ _ _ _ _ _ _ _ (kU _ _ _ _),hlow,zf,zbU];simp only[xo,row,List.map_cons,List.getElem?_cons_succ,List.getElem?_cons_zero,List.set_cons_succ,List.set_cons_zero];rw[show (Dat.lst (last.map Dat.int))=row last from rfl];simp only[zy,zP,ze,zd,za,zjT,zZ,g2,yb,zjR];rw[if_pos ⟨by decide,by decide,rfl,rfl,pos,by rw[List.length_map];unfold lim;lia⟩];simp
theorem zfr {a b f:Option Dat}{l3 l4:Lv}{xs last:List Int}{o6 o7:Option Dat}{kk:Nat}(hlen:last.length=kk+1)(hl:Inc last)(hlim:last.length<=100)(hx:kk<=xs.length):
  ∃ (acc:List Int) (xs':List Int) (p6 p7:Option Dat),y7 (λx de lv=>exD lev cl zdS (de.set 6 (some x)) (lv.set 6 (lvF x))) (ym 0 1 kk) [a,b,some (row xs),f,some (row last),some (row []),o6,o7] (lv8 l3 l4) =
   .next [a,b,some (row xs'),f,some (row last),some (row acc),p6,p7] (lv8 l3 l4)/\Inc acc/\zdn last acc/\xs'.length+kk=xs.length:=by
 have main:=zO (body:=λx de lv=>exD lev cl zdS (de.set 6 (some x)) (lv.set 6 (lvF x)))
  (λm de lv=>∃ (acc:List Int) (xs':List Int) (p6 p7:Option Dat),de=[a,b,some (row xs'),f,some (row last),some (row acc),p6,p7]/\lv=lv8 l3 l4/\acc.length=m/\Inc acc/\(∀i,i < m->last.getD i 0<=acc.getD i 0/\acc.getD i 0<=last.getD (i+1) 0)/\xs'.length+m=xs.length)
  (ym 0 1 kk) (de:=[a,b,some (row xs),f,some (row last),some (row []),o6,o7]) (lv:=lv8 l3 l4)
  ⟨[],xs,o6,o7,rfl,rfl,rfl,λi hi=>by simp at hi,λi hi=>by lia,rfl⟩ ?_
 .obtain ⟨de',lv',e,acc,xs',p6,p7,rfl,rfl,h1,h2,h3,h4⟩:=main;rw[x0] at h1 h3 h4;exact ⟨acc,xs',p6,p7,e,h2,⟨by lia,λi hi=>h3 i (by lia)⟩,h4⟩
 .rintro m x de lv hx' ⟨acc,xs',p6,p7,rfl,rfl,h1,h2,h3,h4⟩;have hmk:m < kk:=by
   have:=(List.getElem?_eq_some_iff.mp hx').1;simpa using this
  rw[yg _ _ _ _ hmk] at hx';cases hx';have e1:(0:Int)+1 * (m:Int)=(m:Int):=by lia
  obtain ⟨v,xs2,rfl⟩:∃v xs2,xs'=v::xs2:=by
   cases xs' with
   | nil=>simp at h4;lia
   | cons v xs2=>exact ⟨v,xs2,rfl⟩
  obtain ⟨w,q7,e,b1,b2,b3⟩:=zdT (lev:=lev) (cl:=cl) (a:=a) (b:=b) (f:=f) (l3:=l3) (l4:=l4) (v:=v) (xs:=xs2) (last:=last) (acc:=acc) (m:=m) (o7:=p7) (by lia) hl h1 (λi hi=>(h3 i hi).2) hlim;refine ⟨_,_,?_,acc++[w],xs2,some (.int m),q7,rfl,rfl,by simp[h1],h2.app (λh=>?_),λi hi=>?_,by simp at h4 ⊢;lia⟩
  .simp only[e1,lv8,List.set_cons_succ,List.set_cons_zero,show lvF (.int (m:Int))=.full from by simp[lvF]];exact e
  .rw[h1] at h ⊢;exact b3 h
  .by_cases z:i < m
   .rw[xP (by lia)];exact h3 i z
   .have:i=acc.length:=by lia
    subst this;rw[vX,h1];exact ⟨b1,b2⟩
noncomputable def gh:Nat->Nat
 | 0=>0
 | m+1=>gh m+(m+1)
theorem zbW:∀ {a b:Nat},a<=b->gh a<=gh b:=by
 intro a b h
 induction b with
 | zero =>
  have:a=0:=by lia
  subst this;exact Nat.le_refl _
 | succ b ih =>
  by_cases z:a=b+1
  .subst z;exact Nat.le_refl _
  .have:=ih (by lia);rw[show gh (b+1)=gh b+(b+1) from rfl];lia
noncomputable def za1:Sm:=(.seq (.asg 4 (.idx (.var 3) (.lit (.int 0)))) (.seq (.asg 5 (.lst .unit)) (.seq (.forv 6 (.rng (.lit (.int 0)) (.bin .sub (.blt .len (.pair (.var 4) .unit)) (.lit (.int 1))) (.lit (.int 1))) zdS) (.expr (.meth .insert (.var 3) (.pair (.lit (.int 0)) (.pair (.var 5) .unit)))))))
noncomputable def za2:Ex:=(.cmp .gt (.blt .len (.pair (.idx (.var 3) (.lit (.int 0))) .unit)) (.lit (.int 1)))
noncomputable def zdU (kn:Nat):Fn:=⟨2,8,(.seq (.asg 2 (.call kn (.pair (.var 0) (.pair (.lit (.int 66)) .unit)))) (.seq (.asg 3 (.lst (.pair (.lrng (.var 1)) .unit))) (.seq (.while za2 za1) (.ret (.var 3)))))⟩
def WP (cell:Int)(n t:Nat)(de:DEn)(lv:List Lv):Prop:=∃ (L:List (List Int)) (xs:List Int) (o4 o5 o6 o7:Option Dat) (l3 l4 l5:Lv),de=[some (.int cell),some (.int n),some (row xs),some (tab L.reverse),o4,o5,o6,o7]/\lv=[.full,.full,.full,l3,l4,l5,.full,.full]/\(l3=.full\/l3=.top)/\L.length=t+1/\TriL n L/\gh (n - 1 - t)<=xs.length
theorem zdV {n t:Nat}{L:List (List Int)}(h1:L.length=t+1):yk (tab L.reverse) (.int 0)=.ok (row (L.getD t [])):=by
 have:yk (tab L.reverse) (.int ((0:Nat):Int))=.ok (row (L.getD t [])):=wq (by rw[List.getElem?_reverse (by lia),h1,List.getD_eq_getElem?_getD,show t+1 - 1 - 0=t by lia,List.getElem?_eq_getElem (by lia)];rfl);simpa using this
theorem zdW {cell:Int}{n t:Nat}{de:DEn}{lv:List Lv}(ht:t < n)(h:WP cell n t de lv):evD cl za2 de=.ok (.bl (decide (t+1 < n))):=by
 obtain ⟨L,xs,o4,o5,o6,o7,l3,l4,l5,rfl,rfl,hl3,h1,h2,h3⟩:=h;have hd:=zdV (n:=n) h1;have hl:=h2.len t (by lia);have hlen:yC .len [row (L.getD t [])]=.ok (.int ((L.getD t []).length:Nat)):=by simp[row]
 unfold za2;simp only[zT,zC,zi,zh,zP,zd,za,ze,zjT,hd,zg,hlen,jA];rw[show decide ((1:Int) < ((L.getD t []).length:Nat))=decide (t+1 < n) from decide_eq_decide.mpr (by lia)]
theorem zhv {cell:Int}{n t:Nat}{de:DEn}{lv:List Lv}(hn:n<=100)(ht:t+1 < n)(h:WP cell n t de lv):∃de' lv',exD lev cl za1 de lv=.next de' lv'/\WP cell n (t+1) de' lv':=by
 obtain ⟨L,xs,o4,o5,o6,o7,l3,l4,l5,rfl,rfl,hl3,h1,h2,h3⟩:=h;have hd:=zdV (n:=n) h1;have hl:=h2.len t (by lia);have hlen:yC .len [row (L.getD t [])]=.ok (.int ((L.getD t []).length:Nat)):=by simp[row]
 have hnew:yB []=.ok (row []):=rfl;have hrng:wE (.int 0) (.int (((L.getD t []).length:Nat) - 1:Int)) (.int 1)=.ok (.tup (ym 0 1 (n - 1 - t))):=by
  rw[show (((L.getD t []).length:Nat) - 1:Int)=((n - 1 - t:Nat):Int) by lia,xV (by unfold lim;lia)];simp[wY]
 have hneed:gh (n - 1 - t)=gh (n - 1 - (t+1))+(n - 1 - t):=by
  rw[show n - 1 - t=(n - 1 - (t+1))+1 by lia];rfl
 obtain ⟨acc,xs',p6,p7,e,hinc,hlace,hxs⟩:=zfr (lev:=lev) (cl:=cl) (a:=some (.int cell)) (b:=some (.int n)) (f:=some (tab L.reverse)) (l3:=.top) (l4:=.no) (xs:=xs) (last:=L.getD t []) (o6:=o6) (o7:=o7) (kk:=n - 1 - t) (by lia) (h2.inc t (by lia)) (by lia) (by lia);refine ⟨[some (.int cell),some (.int n),some (row xs'),some (tab (L++[acc]).reverse),some (row (L.getD t [])),some (row acc),p6,p7],[.full,.full,.full,.top,.no,.no,.full,.full],?_,L++[acc],xs',_,_,_,_,.top,.no,.no,rfl,rfl,Or.inr rfl,by simp[h1],h2.app (by lia) hinc (by rw[show L.length - 1=t by lia];exact hlace),by lia⟩;unfold za1;rw[zz];simp only[zu,zP,zd,za,ze,zjT,hd,zjU];rw[show xY lev 4 (.idx (.var 3) (.lit (.int 0))) (row (L.getD t [])) [some (.int cell),some (.int n),some (row xs),some (tab L.reverse),o4,o5,o6,o7] [.full,.full,.full,l3,l4,l5,.full,.full]=.next [some (.int cell),some (.int n),some (row xs),some (tab L.reverse),some (row (L.getD t [])),o5,o6,o7] [.full,.full,.full,.top,.no,l5,.full,.full] from by
  rcases hl3 with rfl | rfl <;> rfl]
 simp only[zf];rw[zz];simp only[zu,yI,zh,zjT,zg,hnew,zjU];rw[zM (by simp[row])];simp only[zf,List.set_cons_succ,List.set_cons_zero];rw[wp,yH];simp only[yn,zy,zC,zi,zh,zg,ze,zd,za,zjT,hlen,yb,hrng,zjU,yc,yx,yo,if_true];rw[show [Lv.full,Lv.full,Lv.full,Lv.top,Lv.no,Lv.full,Lv.full,Lv.full]=lv8 .top .no from rfl,e,zf,zfq];simp only[zd,za,zjR,xo,tab,List.getElem?_cons_succ,List.getElem?_cons_zero];rw[if_pos (by rw[List.length_map,List.length_reverse,h1];unfold lim;lia)];have hg:xc lev (.var 5) (row acc) 3 [some (.int cell),some (.int n),some (row xs'),some (.lst (L.reverse.map row)),some (row (L.getD t [])),some (row acc),p6,p7] (lv8 .top .no)=some ([some (.int cell),some (.int n),some (row xs'),some (.lst (L.reverse.map row)),some (row (L.getD t [])),some (row acc),p6,p7],[.full,.full,.full,.top,.no,.no,.full,.full]):=by
  simp[xc,yi,lv8,row,downs]
 rw[hg];simp[tab]
theorem zdX {kn:Nat}(hk1:∀c:Int,∃x:List Int,x.length=66/\cl kn [.int c,.int 66]=.ok (row x))(hkn:lev kn=.full){n:Nat}(hn:1<=n)(hn':n<=12)(cell:Int)(hlev:lev k=.no):
  ∃L,L.length=n/\TriL n L/\zq lev cl k (zdU kn) [.int cell,.int n]=.ok (tab L.reverse):=by
 obtain ⟨xs,hxs,hcall⟩:=hk1 cell;have hneed:gh (n - 1 - 0)<=xs.length:=by
  rw[hxs];exact Nat.le_trans (zbW (show n - 1 - 0<=11 by lia)) (by decide)
 have hl:evD cl (.lrng (.var 1)) [some (.int cell),some (.int n),some (row xs),none,none,none,none,none]=.ok (row (yP n)):=by
  simp only[zfa,zd,za,zjT];rw[if_pos (by unfold lim;lia),yG (by simp;unfold lim;lia),<- zac];simp
 have hnew:yB [row (yP n)]=.ok (tab [yP n]):=by rw[yG (by simp[lim])];rfl
 obtain ⟨de',lv',e,L,xs',o4,o5,o6,o7,l3,l4,l5,rfl,rfl,hl3,h1,h2,h3⟩:=zai (c:=evD cl za2) (body:=exD lev cl za1) (WP cell n) (n - 1)
  (λt de lv ht p=>⟨by rw[zdW (by lia) p];simp;lia,zhv (by lia) (by lia) p⟩)
  (λde lv p=>by rw[zdW (by lia) p];simp;lia) (n - 1) 0 1000000 [some (.int cell),some (.int n),some (row xs),some (tab [yP n]),none,none,none,none] [.full,.full,.full,.full,.full,.full,.full,.full]
  (by lia) (by lia) ⟨[yP n],xs,none,none,none,none,.full,.full,.full,rfl,rfl,Or.inl rfl,rfl,TriL.one n,hneed⟩
 refine ⟨L,by lia,h2,?_⟩;unfold zq;rw[if_pos (by rfl)];show zt (lev k) (exD lev cl (.seq _ (.seq _ (.seq _ _))) [some (.int cell),some (.int n),none,none,none,none,none,none] [lvF (.int cell),lvF (.int n),.full,.full,.full,.full,.full,.full])=_;simp only[show ∀i:Int,lvF (.int i)=.full from λi=>by simp[lvF]];rw[zz];simp only[zu,zo,zi,zh,zd,za,ze,zjT,zg,hcall,zjU];rw[zM (by simp[row,hkn])];simp only[zf,List.set_cons_succ,List.set_cons_zero];rw[zz];simp only[zu,yI,zi,zh,hl,zjT,zg,hnew,zjU];rw[zM (by simp[tab,row])];simp only[zf,List.set_cons_succ,List.set_cons_zero];rw[ya,zdR,e,zf];simp only[zJ,zd,za,zjU,lvR,zt,show flat (tab L.reverse)=false from by simp[tab],Bool.false_eq_true,if_false,hlev];rfl
end
end Lib
namespace Lib
section
variable {lev:Nat->Lv}{cl:Nat->List Dat->Rd}{k:Nat}
noncomputable def zH (q:Nat)(F:Nat->Nat->Int)(i:Nat):List Int:=(List.range q).map (F i)
noncomputable def zm (p q:Nat)(F:Nat->Nat->Int):List (List Int):=(List.range p).map (zH q F)
theorem yS (p q:Nat)(F:Nat->Nat->Int):(zm p q F).length=p:=by simp[zm]
theorem xI (q:Nat)(F:Nat->Nat->Int)(i:Nat):(zH q F i).length=q:=by simp[zH]
theorem zbX {p q:Nat}{F:Nat->Nat->Int}:∀x∈zm p q F,x.length=q:=λx hx=>by
 obtain ⟨i,_,rfl⟩:=List.mem_map.mp hx;exact xI q F i
theorem vo {p q:Nat}{F:Nat->Nat->Int}{i:Nat}(h:i < p):yk (tab (zm p q F)) (.int (i:Int))=.ok (row (zH q F i)):=wq (by simp[zm,h])
theorem xJ {q:Nat}{F:Nat->Nat->Int}{i j:Nat}(h:j < q):yk (row (zH q F i)) (.int (j:Int))=.ok (.int (F i j)):=wT (by simp[zH,h])
theorem wL {p q:Nat}{F:Nat->Nat->Int}:yC .len [tab (zm p q F)]=.ok (.int p):=by simp[tab,zm]
noncomputable def sbE:Ex:=(.comp (.bin .sub (.blt .int (.pair (.cmp .isin (.var 4) (.idx (.var 0) (.var 2))) .unit)) (.blt .int (.pair (.cmp .isin (.var 4) (.var 3)) .unit))) (.rng (.lit (.int 0)) (.blt .len (.pair (.var 0) .unit)) (.lit (.int 1))) (.lit (.bl true)))
noncomputable def sbB:Sm:=(.seq (.asg 3 (.lst .unit)) (.seq (.ite (.cmp .gt (.var 2) (.lit (.int 0))) (.asg 3 (.idx (.var 0) (.bin .sub (.var 2) (.lit (.int 1))))) .skip) (.expr (.meth .append (.var 1) (.pair sbE .unit)))))
noncomputable def k9:Fn:=⟨1,4,(.seq (.asg 1 (.lst .unit)) (.seq (.forv 2 (.rng (.lit (.int 0)) (.blt .len (.pair (.var 0) .unit)) (.lit (.int 1))) sbB) (.ret (.var 1))))⟩
theorem wv (lev:Nat->Lv){e it c:Ex}{x:List Int}(h:∀i:Int,lvE lev e (.int i)=.full):lvE lev (.comp e it c) (row x)=.full:=by
 unfold row
 first | rw[yD] | rw[yf]
 simp only[yh,Bool.false_eq_true,if_false];rw[if_pos (xH _ _ h)]
theorem vp {e:Ex}{x:List Int}{A:List (List Int)}(hA:A.length < lim)(de:DEn)(lv:List Lv)(j:Nat)(he:evD cl e de=.ok (row x))(hl:lvE lev e (row x)=.full)(hd:de[j]?=some (some (tab A)))(hj:lv[j]?=some .full):
  exD lev cl (.expr (.meth .append (.var j) (.pair e .unit))) de lv=.next (de.set j (some (tab (A++[x])))) lv:=by
 rw[wS,he];simp only[zjR];have hls:xo de j=some (A.map row):=by simp[xo,hd,tab]
 rw[hls];simp only[List.length_map];rw[if_pos hA];have hg:xc lev e (row x) j de lv=some (de,lv):=by
  unfold xc;rw[if_neg (by simp[yi,hj]),if_pos hl]
 rw[hg];simp[tab]
theorem zdY (b:Bool):yC .int [.bl b]=.ok (.int (b2i b)):=by cases b <;> rfl
theorem qt (X:List (List Int))(hX:X.length<=100)(hlev:lev k=.full):zq lev cl k k9 [tab X]=.ok (tab (sg X)):=by
 have hrng:wE (.int 0) (.int X.length) (.int 1)=.ok (.tup (ym 0 1 X.length)):=by
  rw[xV (by unfold lim;lia)];simp[wY]
 have hlen:yC .len [tab X]=.ok (.int X.length):=by simp[tab]
 have hnew:yB []=.ok (row []):=rfl;have main:=zO (body:=λx de lv=>exD lev cl sbB (de.set 2 (some x)) (lv.set 2 (lvF x)))
  (λi de lv=>∃ (p2 p3:Option Dat) (l2 l3:Lv),de=[some (tab X),some (tab ((sg X).take i)),p2,p3]/\lv=[.no,.full,l2,l3])
  (ym 0 1 X.length) (de:=[some (tab X),some (tab []),none,none]) (lv:=[.no,.full,.full,.full])
  ⟨none,none,.full,.full,rfl,rfl⟩ ?_
 .obtain ⟨de',lv',e,p2,p3,l2,l3,rfl,rfl⟩:=main;unfold zq;rw[if_pos (by rfl)];show zt (lev k) (exD lev cl (.seq _ (.seq _ _)) [some (tab X),none,none,none] [lvF (tab X),.full,.full,.full])=_;rw[show lvF (tab X)=.no from by simp[lvF,tab],zz];simp only[zu,yI,zh,zjT,zg,hnew,zjU];rw[zM (by simp[row])];simp only[zf,List.set_cons_succ,List.set_cons_zero];rw[ya,yH];simp only[yn,ze,zC,zi,zh,za,zjT,zg,hlen,hrng,zjU,yc,yx,yo,if_true];rw[show (some (row []):Option Dat)=some (tab []) from rfl,e,zf];rw[x0,List.take_of_length_le (by simp[sg])];simp[zt,lvR,hlev,tab,xT]
 .rintro i x de lv hx ⟨p2,p3,l2,l3,rfl,rfl⟩;have hi:i < X.length:=by
   have:=(List.getElem?_eq_some_iff.mp hx).1;simpa using this
  rw[yg _ _ _ _ hi] at hx;cases hx;have hg:yk (tab X) (.int (i:Int))=.ok (row (X.getD i [])):=wq (by rw[List.getD_eq_getElem?_getD,List.getElem?_eq_getElem hi];rfl);have hpre:∃l2 l,exD lev cl (.seq (.asg 3 (.lst .unit)) (.ite (.cmp .gt (.var 2) (.lit (.int 0))) (.asg 3 (.idx (.var 0) (.bin .sub (.var 2) (.lit (.int 1))))) .skip)) [some (tab X),some (tab ((sg X).take i)),some (.int i),p3] [.no,.full,.full,l3]=.next [some (tab X),some (tab ((sg X).take i)),some (.int i),some (row (zY X i))] [.no,.full,l2,l]:=by
   rw[zdi];simp only[zu,yI,zh,zjT,zg,hnew,zjU];rw[zM (by simp[row])];simp only[zf,List.set_cons_succ,List.set_cons_zero,zV,zT,zd,za,ze,zjT,jA,zjU];by_cases z:i=0
   .subst z;exact ⟨.full,.full,rfl⟩
   .have hg1:yk (tab X) (.int ((i:Int) - 1))=.ok (row (X.getD (i - 1) [])):=by
     have:=wq (R:=X) (r:=i - 1) (x:=X.getD (i - 1) []) (by rw[List.getD_eq_getElem?_getD,List.getElem?_eq_getElem (by lia)];rfl)
     rwa [show ((i - 1:Nat):Int)=(i:Int) - 1 by lia] at this
    refine ⟨.no,.no,?_⟩;rw[decide_eq_true (show (0:Int) < i by lia)];simp only[zu,zP,zy,zd,za,ze,zjT,yb,hg1,zjU];rw[show zY X i=X.getD (i - 1) [] from if_neg z];rfl
  obtain ⟨l2,l,hpre⟩:=hpre;have hE:evD cl sbE [some (tab X),some (tab ((sg X).take i)),some (.int i),some (row (zY X i))]=.ok (row (xa X.length (X.getD i []) (zY X i))):=by
   unfold sbE;rw[zW];simp only[yn,ze,zC,zi,zh,za,zjT,zg,hlen,hrng,yc];rw[y9 0 1 X.length (λc=>.int (b2i (mem (X.getD i []) c) - b2i (mem (zY X i) c))) (λc _=>by simp) (λc hc=>?_) (by unfold lim;lia)]
   .simp only[row,xa,List.map_map];rfl
   .rw[show (0+1 * (c:Int))=(c:Int) by lia];simp only[List.cons_append,List.nil_append,zy,zC,zi,zh,zT,zP,za,zd,zjT,zg,hg,qg,zdY,yb]
  have e1:(0:Int)+1 * (i:Int)=(i:Int):=by lia
  refine ⟨_,_,?_,some (.int i),some (row (zY X i)),l2,l,rfl,rfl⟩;simp only[e1,List.set_cons_succ,List.set_cons_zero,show lvF (.int (i:Int))=.full from by simp[lvF]];unfold sbB;have assoc:∀ (A B:Sm) (e:Ex) (de:DEn) (lv:List Lv),yu A B=none->exD lev cl (.seq A (.seq B (.expr e))) de lv=(exD lev cl (.seq A B) de lv).then (exD lev cl (.expr e)):=by
   intro A B e de lv h;rw[zz,zQ lev cl de lv h];cases exD lev cl A de lv <;> first | rfl | (simp only[zf];rw[wp])
  rw[assoc _ _ _ _ _ (kU _ _ _ _),hpre,zf,vp (by simp[sg];unfold lim;lia) _ _ 1 hE (wv lev λi=>by simp) rfl rfl];rw[List.take_add_one,ga hi,Option.toList_some];rfl
noncomputable def axf (R:List (List Int))(r c:Nat):Int:=1 - 2 * ((R.getD r []).take c).sum
noncomputable def dnf (R:List (List Int))(r c:Nat):Int:=2 * S R r c - 1
noncomputable def axE:Ex:=(.comp (.comp (.bin .sub (.lit (.int 1)) (.bin .mul (.lit (.int 2)) (.blt .sum (.pair (.slH (.var 5) (.var 6)) .unit)))) (.rng (.lit (.int 0)) (.bin .add (.var 1) (.lit (.int 1))) (.lit (.int 1))) (.lit (.bl true))) (.var 0) (.lit (.bl true)))
noncomputable def dnE:Ex:=(.comp (.bin .sub (.bin .mul (.lit (.int 2)) (.blt .sum (.pair (.comp (.idx (.var 6) (.var 5)) (.slH (.var 0) (.var 4)) (.lit (.bl true))) .unit))) (.lit (.int 1))) (.rng (.lit (.int 0)) (.var 1) (.lit (.int 1))) (.lit (.bl true)))
noncomputable def zhw:Fn:=⟨1,5,(.seq (.asg 1 (.blt .len (.pair (.var 0) .unit))) (.seq (.asg 2 axE) (.seq (.asg 3 (.lst .unit)) (.seq (.forv 4 (.rng (.lit (.int 0)) (.bin .add (.var 1) (.lit (.int 1))) (.lit (.int 1))) (.expr (.meth .append (.var 3) (.pair dnE .unit)))) (.ret (.tup (.pair (.var 2) (.pair (.var 3) .unit))))))))⟩
theorem ku {n:Nat}(h:n<=100):wE (.int 0) (.int n) (.int 1)=.ok (.tup (ym 0 1 n)):=by
 rw[xV (by unfold lim;lia)];simp[wY]
theorem kv {n:Nat}(h:n<=100):wE (.int 0) (.int ((n:Int)+1)) (.int 1)=.ok (.tup (ym 0 1 (n+1))):=by
 rw[xV (by unfold lim;lia)];simp only[wY,if_true,Int.sub_zero];rfl
theorem zhx {R:List (List Int)}(h:Sq R)(hn:R.length<=100)(d2 d3 d4:Option Dat):evD cl axE [some (tab R),some (.int R.length),d2,d3,d4]=.ok (tab (zm R.length (R.length+1) (axf R))):=by
 unfold axE;rw[zW];simp only[za,zjT,tab,yJ (show (R.map row).length<=lim from by simp;unfold lim;lia)];rw[zE row (λx=>row ((List.range (R.length+1)).map λc=>1 - 2 * (x.take c).sum)) R [] (λ_ _=>by simp) (λx hx=>?_) (by simp;unfold lim;lia)]
 .rw[List.nil_append];congr 2;refine List.ext_getElem? λi=>?_;by_cases hi:i < R.length
  .simp only[List.getElem?_map,List.getElem?_eq_getElem hi,Option.map_some,zm,List.getElem?_range hi];have:∀c,1 - 2 * (R[i].take c).sum=axf R i c:=λc=>by simp[axf,hi]
   simp only[this];rfl
  .simp[zm,hi]
 .have hl:x.length<=lim:=by rw[h x hx];unfold lim;lia
  rw[zW];simp only[List.cons_append,List.nil_append,yn,ze,zy,za,zd,zjT,zZ,kv hn,yc];rw[y9 0 1 (R.length+1) (λc=>.int (1 - 2 * (x.take c).sum)) (λc _=>by simp) (λc hc=>?_) (by unfold lim;lia)]
  .simp only[row,List.map_map];rfl
  .rw[show (0+1 * (c:Int))=(c:Int) by lia];simp only[List.cons_append,List.nil_append,zy,zC,zi,zh,j3,ze,za,zd,zjT,zdw _ _ hl,zg,kq,yO 2 _ (show yA 2=true by decide),yb]
theorem zdZ (R:List (List Int))(j:Nat)(h:R.length<=lim):slD (tab R) none (some (j:Int))=.ok (tab (R.take j)):=by
 simp only[slD,tab,lsD,sIx,List.length_map];rw[if_neg (by lia),Int.toNat_natCast,List.drop_zero,Nat.sub_zero];have:(R.map row).take (min j R.length)=(R.take j).map row:=by
  rw[<- List.map_take];congr 1;rcases Nat.le_total j R.length with q | q
  .rw[Nat.min_eq_left q]
  .rw[Nat.min_eq_right q,List.take_of_length_le (Nat.le_refl _),List.take_of_length_le q]
 rw[this,yG (by simp;lia)]
theorem zhy {R:List (List Int)}(h:Sq R)(hn:R.length<=100){i:Nat}(d2 d3:Option Dat):evD cl dnE [some (tab R),some (.int R.length),d2,d3,some (.int i)]=.ok (row (zH R.length (dnf R) i)):=by
 unfold dnE;rw[zW];simp only[yn,ze,za,zd,zjT,ku hn,yc];rw[y9 0 1 R.length (λc=>.int (dnf R i c)) (λc _=>by simp) (λc hc=>?_) (by unfold lim;lia)]
 .simp only[row,zH,List.map_map];rfl
 .rw[show (0+1 * (c:Int))=(c:Int) by lia];have hsl:=zdZ R i (by unfold lim;lia);have hcm:evD cl (.comp (.idx (.var 6) (.var 5)) (.slH (.var 0) (.var 4)) (.lit (.bl true))) [some (tab R),some (.int R.length),d2,d3,some (.int i),some (.int c)]=.ok (row ((R.take i).map λx=>x.getD c 0)):=by
   rw[zW];simp only[j3,za,zd,zjT,hsl];rw[show itD (tab (R.take i))=some ((R.take i).map row) from yJ (by simp;unfold lim;lia)];simp only;rw[zE row (λx=>.int (x.getD c 0)) (R.take i) [] (λ_ _=>by simp) (λx hx=>?_) (by simp;unfold lim;lia)]
   .simp only[row,List.map_map,List.nil_append];rfl
   .have hxl:=h x (List.mem_of_mem_take hx);simp only[List.cons_append,List.nil_append,zP,za,zd,zjT];exact wT (by rw[List.getD_eq_getElem?_getD,List.getElem?_eq_getElem (by lia)];rfl)
  simp only[List.cons_append,List.nil_append,zy,zC,zi,zh,ze,hcm,zjT,zg,kq,yO 2 _ (show yA 2=true by decide),yb];rfl
noncomputable def arr (n:Nat)(F G:Nat->Nat->Int):Dat:=.tup [tab (zm n (n+1) F),tab (zm (n+1) n G)]
theorem zfs {R:List (List Int)}(h:Sq R)(hn:R.length<=100)(hlev:lev k=.full):zq lev cl k zhw [tab R]=.ok (arr R.length (axf R) (dnf R)):=by
 have hlen:yC .len [tab R]=.ok (.int R.length):=by simp[tab]
 have hnew:yB []=.ok (row []):=rfl;have main:=zO (body:=λx de lv=>exD lev cl (.expr (.meth .append (.var 3) (.pair dnE .unit))) (de.set 4 (some x)) (lv.set 4 (lvF x)))
  (λi de lv=>∃ (p4:Option Dat),de=[some (tab R),some (.int R.length),some (tab (zm R.length (R.length+1) (axf R))),some (tab ((zm (R.length+1) R.length (dnf R)).take i)),p4]/\lv=[.no,.full,.full,.full,.full])
  (ym 0 1 (R.length+1)) (de:=[some (tab R),some (.int R.length),some (tab (zm R.length (R.length+1) (axf R))),some (tab []),none]) (lv:=[.no,.full,.full,.full,.full])
  ⟨none,rfl,rfl⟩ ?_
 .obtain ⟨de',lv',e,p4,rfl,rfl⟩:=main;rw[x0,List.take_of_length_le (by rw[yS];lia)] at e;have hax:=zhx (cl:=cl) h hn none none none;have hlv:lvE lev axE (tab (zm R.length (R.length+1) (axf R)))=.full:=by
   unfold axE tab
   first | rw[yD] | rw[yf]
   simp only[yh,Bool.false_eq_true,if_false];rw[if_pos (by
    rw[List.all_map,List.all_eq_true];intro x _;show (lvE lev _ (row x) == Lv.full)=true;rw[wv lev (λi=>yR lev _ _ rfl)]
    rfl)]
  unfold zq;rw[if_pos (by rfl)];show zt (lev k) (exD lev cl (.seq _ (.seq _ (.seq _ (.seq _ _)))) [some (tab R),none,none,none,none] [lvF (tab R),.full,.full,.full,.full])=_;rw[show lvF (tab R)=.no from by simp[lvF,tab],zz];simp only[zu,zC,zi,zh,za,zjT,zg,hlen,zjU];rw[zS (by simp)];simp only[zf,List.set_cons_succ,List.set_cons_zero];rw[zz,zu,hax];simp only[zjU];rw[zM hlv];simp only[zf,List.set_cons_succ,List.set_cons_zero];rw[zz];simp only[zu,yI,zh,zjT,zg,hnew,zjU];rw[zM (by simp[row])];simp only[zf,List.set_cons_succ,List.set_cons_zero];rw[ya,yH];simp only[yn,zy,ze,za,zd,zjT,zZ,kv hn,zjU,yc,yx,yo,if_true];rw[show (some (row []):Option Dat)=some (tab []) from rfl,e,zf];simp[zt,lvR,hlev,arr,xT,tab,show 2<=lim from by decide]
 .rintro i x de lv hx ⟨p4,rfl,rfl⟩;have hi:i < R.length+1:=by
   have:=(List.getElem?_eq_some_iff.mp hx).1;simpa using this
  rw[yg _ _ _ _ hi] at hx;cases hx;have e1:(0:Int)+1 * (i:Int)=(i:Int):=by lia
  refine ⟨_,_,?_,some (.int i),rfl,rfl⟩;simp only[e1,List.set_cons_succ,List.set_cons_zero,show lvF (.int (i:Int))=.full from by simp[lvF]];rw[vp (by simp[zm];unfold lim;lia) _ _ 3 (zhy h hn _ _) (wv lev λi=>by simp) rfl rfl];rw[List.take_add_one,show (zm (R.length+1) R.length (dnf R))[i]?=some (zH R.length (dnf R) i) from by simp[zm,hi],Option.toList_some];rfl
end
end Lib
namespace Lib
section
variable {lev:Nat->Lv}{cl:Nat->List Dat->Rd}{k:Nat}
structure AR (n:Nat)(F G:Nat->Nat->Int):Prop where
 f:∀i j,i < n->j<=n->F i j=1\/F i j=-1
 g:∀i j,i<=n->j < n->G i j=1\/G i j=-1
 place:∀r c,r < n->c < n->F r c - F r (c+1)+G r c - G (r+1) c=0
 left:∀r,r < n->F r 0=1
 right:∀r,r < n->F r n=-1
 top:∀c,c < n->G 0 c=-1
 low:∀c,c < n->G n c=1
theorem Sums.ar {R:List (List Int)}(h:Sums R):AR R.length (axf R) (dnf R):=by
 refine ⟨λi j hi hj=>?_,λi j hi hj=>?_,λr c hr hc=>?_,λr hr=>?_,λr hr=>?_,λc hc=>?_,λc hc=>?_⟩
 .have:=h.row i j hi hj;unfold axf;lia
 .have:=h.col i j hi hj;unfold dnf;lia
 .obtain ⟨x,v,hx,hv,hg⟩:=zhl h.sq hr hc;have e1:=j7 R r c x hx;have e2:((R.getD r []).take (c+1)).sum=((R.getD r []).take c).sum+v:=by
   rw[List.getD_eq_getElem?_getD,hx];exact xl hv
  unfold axf dnf;rw[e1,e2,hg];lia
 .simp[axf]
 .have:=h.rowE r hr;unfold axf;lia
 .simp[dnf,S]
 .have:=h.colE c hc;unfold dnf;lia
noncomputable def pm:Dat:=.tup [.int 1,.int (-1)]
theorem za3 {v:Int}(h:v=1\/v=-1):yz .isin (.int v) pm=.ok (.bl true):=by
 rcases h with rfl | rfl <;> rfl
noncomputable def zaj:Fn:=⟨2,2,(.ret (.blt .all (.pair (.comp (.cmp .isin (.var 2) (.var 1)) (.var 0) (.lit (.bl true))) .unit)))⟩
theorem zbY {x:List Int}{N:Dat}(hx:x.length<=100)(h:∀v∈x,yz .isin (.int v) N=.ok (.bl true)):zq lev cl k zaj [row x,N]=.ok (.bl true):=by
 have hl:(x.map Dat.int).length<=lim:=by simp;unfold lim;lia
 have hc:evD cl (.comp (.cmp .isin (.var 2) (.var 1)) (.var 0) (.lit (.bl true))) [some (row x),some N]=.ok (.lst (x.map λ_=>.bl true)):=by
  rw[zW];simp only[za,zjT,row,yJ hl];rw[zE Dat.int (λ_=>.bl true) x [] (λv _=>by simp) (λv hv=>?_) (by simpa using hl)]
  .simp
  .simp only[List.cons_append,List.nil_append,zT,za,zd,zjT,h v hv]
 unfold zq;rw[if_pos (by rfl)];show zt (lev k) (exD lev cl (.ret _) [some (row x),some N] _)=_;simp only[zJ,zC,zi,zh,zjT,zg,hc,zjU];simp[yC,lsD,x5,zt]
noncomputable def gk (kg ka:Nat):Fn:=⟨4,4,(.ret (.and (.call kg (.pair (.var 0) (.pair (.var 1) (.pair (.var 2) .unit)))) (.blt .all (.pair (.comp (.call ka (.pair (.var 4) (.pair (.var 3) .unit))) (.var 0) (.lit (.bl true))) .unit))))⟩
theorem zak {kg ka:Nat}{A:List (List Int)}{a b:Int}{N:Dat}(hA:A.length<=100)(hg:cl kg [tab A,.int a,.int b]=.ok (.bl true))(ha:∀x∈A,cl ka [row x,N]=.ok (.bl true)):zq lev cl k (gk kg ka) [tab A,.int a,.int b,N]=.ok (.bl true):=by
 have hl:(A.map row).length<=lim:=by simp;unfold lim;lia
 have hc:evD cl (.comp (.call ka (.pair (.var 4) (.pair (.var 3) .unit))) (.var 0) (.lit (.bl true))) [some (tab A),some (.int a),some (.int b),some N]=.ok (.lst (A.map λ_=>.bl true)):=by
  rw[zW];simp only[za,zjT,tab,yJ hl];rw[zE row (λ_=>.bl true) A [] (λv _=>by simp) (λx hx=>?_) (by simpa using hl)]
  .simp
  .simp only[List.cons_append,List.nil_append,zo,zi,zh,za,zd,zjT,zg,ha x hx]
 unfold zq;rw[if_pos (by rfl)];show zt (lev k) (exD lev cl (.ret _) [some (tab A),some (.int a),some (.int b),some N] _)=_;simp only[zJ,xU,zo,zC,zi,zh,za,zd,zjT,zg,hg,hc,zjU];simp[yC,lsD,x5,zt]
noncomputable def spC (kz:Nat):Sm:=(.ite (.or (.not (.isi .list (.var 2))) (.not (.call kz (.pair (.blt .len (.pair (.var 2) .unit)) .unit)))) (.ret (.lit (.bl false))) .skip)
noncomputable def gl (kz kg:Nat):Fn:=⟨2,4,(.seq (.ite (.or (.not (.isi .tuple (.var 0))) (.cmp .ne (.blt .len (.pair (.var 0) .unit)) (.lit (.int 2)))) (.ret (.lit (.bl false))) .skip) (.seq (.asg 2 (.idx (.var 0) (.lit (.int 0)))) (.seq (spC kz) (.seq (.asg 3 (.blt .len (.pair (.var 2) .unit))) (.ret (.and (.call kg (.pair (.var 2) (.pair (.var 3) (.pair (.bin .add (.var 3) (.lit (.int 1))) (.pair (.var 1) .unit))))) (.call kg (.pair (.idx (.var 0) (.lit (.int 1))) (.pair (.bin .add (.var 3) (.lit (.int 1))) (.pair (.var 3) (.pair (.var 1) .unit)))))))))))⟩
theorem zal {i:Nat}{e:Ex}{d:Dat}(de:DEn)(lv:List Lv):∃lv',xY lev i e d de lv=.next (de.set i (some d)) lv':=by
 unfold xY;split
 .exact ⟨_,rfl⟩
 .exact ⟨_,rfl⟩
theorem zbZ {kz kg:Nat}(hz:∀n:Int,cl kz [.int n]=.ok (.bl (decide (1<=n/\n<=12)))){n:Nat}(h1:1<=n)(h2:n<=12){F G:Nat->Nat->Int}{N:Dat}
  (g1:cl kg [tab (zm n (n+1) F),.int n,.int ((n:Int)+1),N]=.ok (.bl true)) (g2:cl kg [tab (zm (n+1) n G),.int ((n:Int)+1),.int n,N]=.ok (.bl true)):zq lev cl k (gl kz kg) [arr n F G,N]=.ok (.bl true):=by
 have i0:yk (arr n F G) (.int 0)=.ok (tab (zm n (n+1) F)):=rfl;have i1:yk (arr n F G) (.int 1)=.ok (tab (zm (n+1) n G)):=rfl;have hl:yC .len [arr n F G]=.ok (.int 2):=rfl;unfold zq;rw[if_pos (by rfl)];show zt (lev k) (exD lev cl (.seq _ (.seq _ (.seq _ (.seq _ _)))) [some (arr n F G),some N,none,none] _)=_;rw[zz];simp only[zV,vU,wn,vJ,zT,zC,zi,zh,za,ze,zjT,zg,hl,show isD .tuple (arr n F G)=true from rfl,Bool.not_true,jB,decide_true,zjU,zN,zf];rw[zz];simp only[zu,zP,za,ze,zjT,i0,zjU];obtain ⟨l1,e1⟩:=zal (lev:=lev) (i:=2) (e:=.idx (.var 0) (.lit (.int 0))) (d:=tab (zm n (n+1) F)) [some (arr n F G),some N,none,none] (yF (gl kz kg) [arr n F G,N]);rw[e1];simp only[zf,List.set_cons_succ,List.set_cons_zero];rw[zz];unfold spC;simp only[zV,vU,wn,vJ,zo,zC,zi,zh,za,zd,zjT,zg,show isD .list (tab (zm n (n+1) F))=true from rfl,Bool.not_true,wL,hz,decide_eq_true (show (1:Int)<=(n:Int)/\(n:Int)<=12 by lia),zjU,zN,zf];rw[ya];simp only[zu,zC,zi,zh,za,zd,zjT,zg,wL,zjU];rw[zS (by simp)];simp only[zf,List.set_cons_succ,List.set_cons_zero,zJ,xU,zo,zi,zh,zy,zP,ze,za,zd,zjT,zg,zZ,g1,i1,g2,zjU];simp[zt]
noncomputable def fpL:Sm:=(.seq (.ite (.cmp .ne (.bin .add (.bin .add (.bin .add (.var 4) (.var 5)) (.var 6)) (.var 7)) (.lit (.int 0))) (.ret (.lit (.bl true))) .skip) (.seq (.ite (.or (.and (.cmp .eq (.var 3) (.lit (.int 0))) (.cmp .eq (.var 4) (.neg (.lit (.int 1))))) (.and (.cmp .eq (.var 3) (.var 8)) (.cmp .eq (.var 5) (.neg (.lit (.int 1)))))) (.ret (.lit (.bl true))) .skip) (.ret (.or (.and (.cmp .eq (.var 2) (.lit (.int 0))) (.cmp .eq (.var 6) (.lit (.int 1)))) (.and (.cmp .eq (.var 2) (.var 8)) (.cmp .eq (.var 7) (.lit (.int 1))))))))
noncomputable def zhz:Fn:=⟨4,9,(.seq (.asg 4 (.idx (.idx (.var 0) (.var 2)) (.var 3))) (.seq (.asg 5 (.neg (.idx (.idx (.var 0) (.var 2)) (.bin .add (.var 3) (.lit (.int 1)))))) (.seq (.asg 6 (.idx (.idx (.var 1) (.var 2)) (.var 3))) (.seq (.asg 7 (.neg (.idx (.idx (.var 1) (.bin .add (.var 2) (.lit (.int 1)))) (.var 3)))) (.seq (.asg 8 (.bin .sub (.blt .len (.pair (.var 0) .unit)) (.lit (.int 1)))) fpL)))))⟩
theorem zft {n:Nat}{F G:Nat->Nat->Int}(h:AR n F G){r c:Nat}(hr:r < n)(hc:c < n)(d0 d1:Option Dat)(lv:List Lv):
  exD lev cl fpL [d0,d1,some (.int r),some (.int c),some (.int (F r c)),some (.int (-F r (c+1))),some (.int (G r c)),some (.int (-G (r+1) c)),some (.int ((n:Int) - 1))] lv=.ret (.bl false) .full:=by
 have hp:=h.place r c hr hc;have c1:evD cl (.cmp .ne (.bin .add (.bin .add (.bin .add (.var 4) (.var 5)) (.var 6)) (.var 7)) (.lit (.int 0))) [d0,d1,some (.int r),some (.int c),some (.int (F r c)),some (.int (-F r (c+1))),some (.int (G r c)),some (.int (-G (r+1) c)),some (.int ((n:Int) - 1))]=.ok (.bl false):=by
  simp only[zT,zy,ze,za,zd,zjT,zZ,jB];rw[decide_eq_true (by lia)];rfl
 have pq:∀ (p q p' q':Ex) (de:DEn) (A B A' B':Int),evD cl p de=.ok (.int A)->evD cl q de=.ok (.int B)->evD cl p' de=.ok (.int A')->evD cl q' de=.ok (.int B')->(A=B->A'≠B')->evD cl (.and (.cmp .eq p q) (.cmp .eq p' q')) de=.ok (.bl false):=by
  intro p q p' q' de A B A' B' e1 e2 e3 e4 hne;simp only[xU,zT,e1,e2,zjT,vV];by_cases z:A=B
  .rw[decide_eq_true z];simp only[e3,e4,zjT,vV];rw[decide_eq_false (hne z)]
  .rw[decide_eq_false z]
 have c2:=pq (.var 3) (.lit (.int 0)) (.var 4) (.neg (.lit (.int 1))) [d0,d1,some (.int r),some (.int c),some (.int (F r c)),some (.int (-F r (c+1))),some (.int (G r c)),some (.int (-G (r+1) c)),some (.int ((n:Int) - 1))] c 0 (F r c) (-1) (by simp) (by simp) (by simp) (by simp) (λz=>by
  have:c=0:=by lia
  subst this;rw[h.left r hr];decide)
 have c3:=pq (.var 3) (.var 8) (.var 5) (.neg (.lit (.int 1))) [d0,d1,some (.int r),some (.int c),some (.int (F r c)),some (.int (-F r (c+1))),some (.int (G r c)),some (.int (-G (r+1) c)),some (.int ((n:Int) - 1))] c ((n:Int) - 1) (-F r (c+1)) (-1) (by simp) (by simp) (by simp) (by simp) (λz=>by
  have:c+1=n:=by lia
  rw[this,h.right r hr];decide)
 have c4:=pq (.var 2) (.lit (.int 0)) (.var 6) (.lit (.int 1)) [d0,d1,some (.int r),some (.int c),some (.int (F r c)),some (.int (-F r (c+1))),some (.int (G r c)),some (.int (-G (r+1) c)),some (.int ((n:Int) - 1))] r 0 (G r c) 1 (by simp) (by simp) (by simp) (by simp) (λz=>by
  have:r=0:=by lia
  subst this;rw[h.top c hc];decide)
 have c5:=pq (.var 2) (.var 8) (.var 7) (.lit (.int 1)) [d0,d1,some (.int r),some (.int c),some (.int (F r c)),some (.int (-F r (c+1))),some (.int (G r c)),some (.int (-G (r+1) c)),some (.int ((n:Int) - 1))] r ((n:Int) - 1) (-G (r+1) c) 1 (by simp) (by simp) (by simp) (by simp) (λz=>by
  have:r+1=n:=by lia
  rw[this,h.low c hc];decide)
 unfold fpL;rw[zz,zV,c1];simp only[zjU,zN,zf];rw[ya,zV];simp only[vU,c2,c3,zjT,zjU,zN,zf,zJ,c4,c5];simp[lvR]
theorem zfu {n:Nat}{F G:Nat->Nat->Int}(h:AR n F G){r c:Nat}(hr:r < n)(hc:c < n):zq lev cl k zhz [tab (zm n (n+1) F),tab (zm (n+1) n G),.int r,.int c]=.ok (.bl false):=by
 have a0:=vo (q:=n+1) (F:=F) hr;have a1:=xJ (q:=n+1) (F:=F) (i:=r) (j:=c) (by lia);have a2:yk (row (zH (n+1) F r)) (.int ((c:Int)+1))=.ok (.int (F r (c+1))):=xJ (q:=n+1) (F:=F) (i:=r) (j:=c+1) (by lia);have b0:=vo (p:=n+1) (q:=n) (F:=G) (i:=r) (by lia);have b1:=xJ (q:=n) (F:=G) (i:=r) (j:=c) hc;have b2:yk (tab (zm (n+1) n G)) (.int ((r:Int)+1))=.ok (row (zH n G (r+1))):=vo (p:=n+1) (q:=n) (F:=G) (i:=r+1) (by lia);have b3:=xJ (q:=n) (F:=G) (i:=r+1) (j:=c) hc;unfold zq;rw[if_pos (by rfl)];show zt (lev k) (exD lev cl (.seq _ (.seq _ (.seq _ (.seq _ (.seq _ fpL))))) [some (tab (zm n (n+1) F)),some (tab (zm (n+1) n G)),some (.int r),some (.int c),none,none,none,none,none] _)=_;rw[zz];simp only[zu,zP,za,zd,zjT,a0,a1,zjU];rw[zS (by simp)];simp only[zf,List.set_cons_succ,List.set_cons_zero];rw[zz];simp only[zu,vK,zy,ze,zP,za,zd,zjT,zZ,a0,a2,zjU];rw[zS (by simp)];simp only[zf,List.set_cons_succ,List.set_cons_zero];rw[zz];simp only[zu,zP,za,zd,zjT,b0,b1,zjU];rw[zS (by simp)];simp only[zf,List.set_cons_succ,List.set_cons_zero];rw[zz];simp only[zu,vK,zy,ze,zP,za,zd,zjT,zZ,b2,b3,zjU];rw[zS (by simp)];simp only[zf,List.set_cons_succ,List.set_cons_zero];rw[show ∀de lv,exD lev cl (.seq (.asg 8 (.bin .sub (.blt .len (.pair (.var 0) .unit)) (.lit (.int 1)))) fpL) de lv=(exD lev cl (.asg 8 (.bin .sub (.blt .len (.pair (.var 0) .unit)) (.lit (.int 1)))) de lv).then (exD lev cl fpL) from λde lv=>zQ lev cl de lv rfl];simp only[zu,zy,zC,zi,zh,ze,za,zjT,zg,wL,yb,zjU];rw[zS (by simp)];simp only[zf,List.set_cons_succ,List.set_cons_zero];rw[zft h hr hc];rfl
end
end Lib
namespace Lib
section
variable {lev:Nat->Lv}{cl:Nat->List Dat->Rd}{k:Nat}
noncomputable def ffI (kf:Nat):Sm:=(.ite (.call kf (.pair (.var 0) (.pair (.var 1) (.pair (.var 2) (.pair (.var 3) .unit))))) (.ret (.tup (.pair (.var 2) (.pair (.var 3) .unit)))) .skip)
noncomputable def zhA (kf:Nat):Fn:=⟨2,4,(.seq (.forv 2 (.rng (.lit (.int 0)) (.blt .len (.pair (.var 0) .unit)) (.lit (.int 1))) (.forv 3 (.rng (.lit (.int 0)) (.blt .len (.pair (.var 0) .unit)) (.lit (.int 1))) (ffI kf))) (.ret (.lit .non)))⟩
theorem zfv {kf:Nat}{n:Nat}{A B:Dat}(hl:yC .len [A]=.ok (.int n))(hn:n<=12)(hp:∀i j:Nat,i < n->j < n->cl kf [A,B,.int i,.int j]=.ok (.bl false)):zq lev cl k (zhA kf) [A,B]=.ok .non:=by
 have hrng:=ku (n:=n) (by lia);have main:=zO (body:=λd de lv=>exD lev cl (.forv 3 (.rng (.lit (.int 0)) (.blt .len (.pair (.var 0) .unit)) (.lit (.int 1))) (ffI kf)) (de.set 2 (some d)) (lv.set 2 (lvF d)))
  (λ_ de lv=>∃ (o1 o2:Option Dat),de=[some A,some B,o1,o2])
  (ym 0 1 n) (de:=[some A,some B,none,none]) (lv:=[lvF A,lvF B,.full,.full]) ⟨none,none,rfl⟩ ?_
 .obtain ⟨de',lv',e,o1,o2,rfl⟩:=main;unfold zq;rw[if_pos (by rfl)];show zt (lev k) (exD lev cl (.seq _ (.ret _)) [some A,some B,none,none] [lvF A,lvF B,.full,.full])=_;rw[ya,yH];simp only[yn,ze,zC,zi,zh,za,zjT,zg,hl,hrng,zjU,yc,yx,yo,if_true];rw[e,zf];simp[zt]
 .rintro i d de lv hd ⟨o1,o2,rfl⟩;have hi:i < n:=by
   have:=(List.getElem?_eq_some_iff.mp hd).1;simpa using this
  rw[yg _ _ _ _ hi] at hd;cases hd;simp only[List.set_cons_succ,List.set_cons_zero];rw[show (0+1 * (i:Int))=(i:Int) by lia];have inner:=zO (body:=λd de lv=>exD lev cl (ffI kf) (de.set 3 (some d)) (lv.set 3 (lvF d)))
   (λ_ de lv=>∃ (o2:Option Dat),de=[some A,some B,some (.int i),o2])
   (ym 0 1 n) (de:=[some A,some B,some (.int i),o2]) (lv:=lv.set 2 (lvF (.int i))) ⟨o2,rfl⟩ ?_
  .obtain ⟨de',lv',e,p2,rfl⟩:=inner;refine ⟨_,lv',?_,some (.int i),p2,rfl⟩;rw[yH];simp only[yn,ze,zC,zi,zh,za,zd,zjT,zg,hl,hrng,zjU,yc,yx,yo,if_true];exact e
  .rintro m d de lv hd ⟨p2,rfl⟩;have hm:m < n:=by
    have:=(List.getElem?_eq_some_iff.mp hd).1;simpa using this
   rw[yg _ _ _ _ hm] at hd;cases hd;refine ⟨_,lv.set 3 (lvF (.int (0+1 * (m:Int)))),?_,some (.int (0+1 * (m:Int))),rfl⟩;simp only[List.set_cons_succ,List.set_cons_zero];rw[show (0+1 * (m:Int))=(m:Int) by lia];unfold ffI;simp only[zV,zo,zi,zh,za,zd,zjT,zg,hp i m hi hm,zjU,zN]
noncomputable def sgr (F:Nat->Nat->Int)(r c:Nat):Int:=(F r c - F r (c+1)) / 2
noncomputable def soE:Ex:=(.comp (.bin .fdiv (.bin .sub (.idx (.var 0) (.var 1)) (.idx (.var 0) (.bin .add (.var 1) (.lit (.int 1))))) (.lit (.int 2))) (.rng (.lit (.int 0)) (.bin .sub (.blt .len (.pair (.var 0) .unit)) (.lit (.int 1))) (.lit (.int 1))) (.lit (.bl true)))
noncomputable def zam:Fn:=⟨1,1,(.ret soE)⟩
theorem zb0 {n:Nat}(hn:n<=12)(F:Nat->Nat->Int)(r:Nat)(hk:lev k=.full):zq lev cl k zam [row (zH (n+1) F r)]=.ok (row (zH n (sgr F) r)):=by
 have hlen:yC .len [row (zH (n+1) F r)]=.ok (.int ((n:Int)+1)):=by simp[row,zH]
 have hev:evD cl soE [some (row (zH (n+1) F r))]=.ok (row (zH n (sgr F) r)):=by
  unfold soE;rw[zW];simp only[yn,ze,zy,zC,zi,zh,za,zjT,zg,hlen,yb,gd hn,yc];rw[y9 0 1 n (λc=>.int (sgr F r c)) (λc _=>by simp) (λc hc=>?_) (by unfold lim;lia)]
  .simp only[row,zH,List.map_map];rfl
  .rw[show (0+1 * (c:Int))=(c:Int) by lia];have a1:=xJ (q:=n+1) (F:=F) (i:=r) (j:=c) (by lia);have a2:yk (row (zH (n+1) F r)) (.int ((c:Int)+1))=.ok (.int (F r (c+1))):=xJ (q:=n+1) (F:=F) (i:=r) (j:=c+1) (by lia);simp only[List.cons_append,List.nil_append,zy,zP,ze,za,zd,zjT,a1,a2,zZ,yb,ki _ 2 (by decide) (by decide)];rfl
 unfold zq;rw[if_pos (by rfl)];show zt (lev k) (exD lev cl (.ret soE) [some (row (zH (n+1) F r))] _)=_;rw[zJ,hev];have hlv:lvE lev soE (row (zH n (sgr F) r))=.full:=wv lev λi=>yR lev _ _ rfl;have hR:∀lv,lvR lev soE (row (zH n (sgr F) r)) lv=.full:=λlv=>by
  unfold lvR;rw[if_neg (by simp[row])];exact hlv
 simp only[zjU,zt,hR,hk];simp[xT]
noncomputable def zhB (kp kf ks:Nat):Fn:=⟨1,2,(.seq (.ite (.not (.call kp (.pair (.var 0) (.pair (.tup (.pair (.lit (.int 1)) (.pair (.neg (.lit (.int 1))) .unit))) .unit)))) .never .skip) (.seq (.asg 1 (.call kf (.pair (.idx (.var 0) (.lit (.int 0))) (.pair (.idx (.var 0) (.lit (.int 1))) .unit)))) (.seq (.ite (.cmp .notN (.var 1) (.lit .non)) .never .skip) (.ret (.comp (.call ks (.pair (.var 2) .unit)) (.idx (.var 0) (.lit (.int 0))) (.lit (.bl true)))))))⟩
theorem zfw {kp kf ks:Nat}{n:Nat}{F G:Nat->Nat->Int}(hn:n<=12)(hp:cl kp [arr n F G,pm]=.ok (.bl true))(hf:cl kf [tab (zm n (n+1) F),tab (zm (n+1) n G)]=.ok .non)(hs:∀r,r < n->cl ks [row (zH (n+1) F r)]=.ok (row (zH n (sgr F) r)))(hks:lev ks=.full)(hk:lev k=.full):
  zq lev cl k (zhB kp kf ks) [arr n F G]=.ok (tab (zm n n (sgr F))):=by
 have i0:yk (arr n F G) (.int 0)=.ok (tab (zm n (n+1) F)):=rfl;have i1:yk (arr n F G) (.int 1)=.ok (tab (zm (n+1) n G)):=rfl;have hev:evD cl (.comp (.call ks (.pair (.var 2) .unit)) (.idx (.var 0) (.lit (.int 0))) (.lit (.bl true))) [some (arr n F G),some .non]=.ok (tab (zm n n (sgr F))):=by
  rw[zW];simp only[zP,ze,za,zjT,i0];rw[show itD (tab (zm n (n+1) F))=some ((List.range n).map λr=>row (zH (n+1) F r)) from by
   rw[show tab (zm n (n+1) F)=.lst ((List.range n).map λr=>row (zH (n+1) F r)) from by simp[tab,zm]];exact yJ (by simp;unfold lim;lia)]
  simp only;rw[zE (λr=>row (zH (n+1) F r)) (λr=>row (zH n (sgr F) r)) (List.range n) [] (λ_ _=>by simp) (λr hr=>?_) (by simp;unfold lim;lia)]
  .simp[tab,zm]
  .simp only[List.cons_append,List.nil_append,zo,zi,zh,za,zd,zjT,zg,hs r (List.mem_range.mp hr)]
 have hpm:evD cl (.tup (.pair (.lit (.int 1)) (.pair (.neg (.lit (.int 1))) .unit))) [some (arr n F G),none]=.ok pm:=rfl;unfold zq;rw[if_pos (by rfl)];show zt (lev k) (exD lev cl (.seq _ (.seq _ (.seq _ (.ret _)))) [some (arr n F G),none] _)=_;rw[zz];simp only[zV,wn,zo,zi,zh,hpm,za,zjT,zg,hp,Bool.not_true,zjU,zN,zf];rw[zz];simp only[zu,zo,zi,zh,zP,ze,za,zjT,zg,i0,i1,hf,zjU];rw[zS (by simp)];simp only[zf,List.set_cons_succ,List.set_cons_zero];rw[ya];simp only[zV,zT,za,zd,xG,zjT,show yz .notN .non .non=.ok (.bl false) from rfl,zjU,zN,zf];rw[zJ,hev];simp only[zjU,lvR,zt];have hlv:lvE lev (.comp (.call ks (.pair (.var 2) .unit)) (.idx (.var 0) (.lit (.int 0))) (.lit (.bl true))) (tab (zm n n (sgr F)))=.full:=by
  unfold tab
  first | rw[yD] | rw[yf]
  simp only[yh,Bool.false_eq_true,if_false];rw[if_pos (by
   rw[List.all_map,List.all_eq_true];intro x _;simp[hks])]
 simp only[show flat (tab (zm n n (sgr F)))=false from by simp[tab],Bool.false_eq_true,if_false,hlv,hk];rfl
theorem Sums.back {R:List (List Int)}(h:Sums R):zm R.length R.length (sgr (axf R))=R:=by
 refine List.ext_getElem? λi=>?_;by_cases hi:i < R.length
 .rw[show (zm R.length R.length (sgr (axf R)))[i]?=some (zH R.length (sgr (axf R)) i) from by simp[zm,hi],List.getElem?_eq_getElem hi];congr 1;refine List.ext_getElem? λc=>?_;have hl:=h.sq R[i] (List.getElem_mem hi);by_cases hc:c < R.length
  .rw[show (zH R.length (sgr (axf R)) i)[c]?=some (sgr (axf R) i c) from by simp[zH,hc],List.getElem?_eq_getElem (by lia)];congr 1;have e2:((R.getD i []).take (c+1)).sum=((R.getD i []).take c).sum+R[i][c]:=by
    rw[List.getD_eq_getElem?_getD,List.getElem?_eq_getElem hi,Option.getD_some];exact xl (List.getElem?_eq_getElem (by lia))
   unfold sgr axf;rw[e2];lia
  .rw[List.getElem?_eq_none (by rw[xI];lia),List.getElem?_eq_none (by lia)]
 .rw[List.getElem?_eq_none (by rw[yS];lia),List.getElem?_eq_none (by lia)]
end
end Lib
namespace Lib
section
variable {lev:Nat->Lv}{cl:Nat->List Dat->Rd}{k:Nat}
noncomputable def sd (F:Nat->Nat->Int)(i j:Nat):Int:=b2i (decide (F i j * (1 - 2 * (((i:Int)+j) % 2))=-1))
noncomputable def ar (W:Nat->Nat->Int)(i j:Nat):Int:=if (decide (W i j=1) == decide (((i:Int)+j) % 2=1))=true then 1 else -1
theorem ww {p q:Nat}{F G:Nat->Nat->Int}(h:∀i j,i < p->j < q->F i j=G i j):zm p q F=zm p q G:=by
 unfold zm zH;refine List.map_congr_left λi hi=>List.map_congr_left λj hj=>h i j (List.mem_range.mp hi) (List.mem_range.mp hj)
theorem zfZ {F:Nat->Nat->Int}{i j:Nat}(h:F i j=1\/F i j=-1):ar (sd F) i j=F i j:=by
 unfold ar sd;have hm:((i:Int)+j) % 2=0\/((i:Int)+j) % 2=1:=by lia
 rcases hm with e | e <;> rw[e] <;> rcases h with g | g <;> rw[g] <;> rfl
theorem zd0 (F:Nat->Nat->Int)(i j:Nat):sd F i j=1\/sd F i j=0:=by
 unfold sd;cases decide (F i j * (1 - 2 * (((i:Int)+j) % 2))=-1)
 .exact .inr rfl
 .exact .inl rfl
noncomputable def wd:Dat:=.tup [.int 1,.int 0]
theorem za4 {v:Int}(h:v=1\/v=0):yz .isin (.int v) wd=.ok (.bl true):=by
 rcases h with rfl | rfl <;> rfl
def zfx:Fn:=⟨1,1,(.ret (.cmp .eq (.bin .mod (.var 0) (.lit (.int 2))) (.lit (.int 1))))⟩
theorem zfy (n:Int):zq lev cl k zfx [.int n]=.ok (.bl (decide (n % 2=1))):=by
 have h:=wo n 2 (by decide);simp[zq,zfx,yE,yF,zt,lvR,h]
noncomputable def arE (ko:Nat):Ex:=(.compP .enum (.ife (.cmp .eq (.cmp .eq (.var 3) (.lit (.int 1))) (.call ko (.pair (.bin .add (.var 0) (.var 2)) .unit))) (.lit (.int 1)) (.neg (.lit (.int 1)))) (.var 1) (.lit (.int 0)) (.lit (.bl true)))
noncomputable def zd1 (ko:Nat):Fn:=⟨2,2,(.ret (arE ko))⟩
theorem qu (lev:Nat->Lv){kd:Kd}{e a b c:Ex}{x:List Int}(h:∀i:Int,lvE lev e (.int i)=.full):lvE lev (.compP kd e a b c) (row x)=.full:=by
 unfold row
 first | rw[yD] | rw[yf]
 simp only[yh,Bool.false_eq_true,if_false];rw[if_pos (xH _ _ h)]
theorem zd2 {ko:Nat}(ho:∀n:Int,cl ko [.int n]=.ok (.bl (decide (n % 2=1)))){q:Nat}(hq:q<=100)(W:Nat->Nat->Int)(i:Nat)(hk:lev k=.full):zq lev cl k (zd1 ko) [.int i,row (zH q W i)]=.ok (row (zH q (ar W) i)):=by
 have hev:evD cl (arE ko) [some (.int i),some (row (zH q W i))]=.ok (row (zH q (ar W) i)):=by
  unfold arE;rw[y8];simp only[za,zd,ze,zjT,kZ 0 (zH q W i) (by rw[xI];unfold lim;lia),xI];rw[zE (λ(j:Nat)=>(Dat.int (0+(j:Int)),Dat.int ((zH q W i).getD j 0))) (λ(j:Nat)=>.int (ar W i j)) _ [] (λj _=>by simp) (λj hj=>?_) (by simp;unfold lim;lia)]
  .simp only[List.nil_append,row,zH,List.map_map];rfl
  .have hj':j < q:=by simpa using hj
   rw[show (zH q W i).getD j 0=W i j from xh (by simp[zH,hj']),Int.zero_add];simp only[List.cons_append,List.nil_append,q8,zT,zo,zi,zh,zy,vK,ze,za,zd,zjT,zg,zZ,ho,vV,zde];unfold ar;cases (decide (W i j=1) == decide (((i:Int)+j) % 2=1)) <;> rfl
 have hlv:lvE lev (arE ko) (row (zH q (ar W) i))=.full:=qu lev λi=>yR lev _ _ rfl;have hR:∀lv,lvR lev (arE ko) (row (zH q (ar W) i)) lv=.full:=λlv=>by
  unfold lvR;rw[if_neg (by simp[row])];exact hlv
 unfold zq;rw[if_pos (by rfl)];show zt (lev k) (exD lev cl (.ret (arE ko)) [some (.int i),some (row (zH q W i))] _)=_;rw[zJ,hev];simp only[zjU,zt,hR,hk];simp[xT]
noncomputable def agE (kr:Nat):Ex:=(.compP .enum (.call kr (.pair (.var 1) (.pair (.var 2) .unit))) (.var 0) (.lit (.int 0)) (.lit (.bl true)))
noncomputable def ja (kr:Nat):Fn:=⟨1,1,(.ret (agE kr))⟩
theorem zb1 {kr:Nat}{p q:Nat}(hp:p<=100)(W:Nat->Nat->Int)(hr:∀i:Nat,cl kr [.int i,row (zH q W i)]=.ok (row (zH q (ar W) i)))(hkr:lev kr=.full)(hk:lev k=.full):zq lev cl k (ja kr) [tab (zm p q W)]=.ok (tab (zm p q (ar W))):=by
 have hev:evD cl (agE kr) [some (tab (zm p q W))]=.ok (tab (zm p q (ar W))):=by
  unfold agE;rw[y8];simp only[za,ze,zjT];rw[k8 0 (zm p q W) (by rw[yS];unfold lim;lia),yS];simp only;rw[zE (λ(i:Nat)=>(Dat.int (0+(i:Int)),row ((zm p q W).getD i []))) (λ(i:Nat)=>row (zH q (ar W) i)) _ [] (λi _=>by simp) (λi hi=>?_) (by simp;unfold lim;lia)]
  .simp only[List.nil_append,tab,zm,List.map_map];rfl
  .have hi':i < p:=by simpa using hi
   rw[show (zm p q W).getD i []=zH q W i from by simp[zm,hi'],Int.zero_add];simp only[List.cons_append,List.nil_append,zo,zi,zh,zd,za,zjT,zg,hr]
 have hlv:lvE lev (agE kr) (tab (zm p q (ar W)))=.full:=by
  have:((zm p q (ar W)).map row).all (λx=>lvE lev (.call kr (.pair (.var 1) (.pair (.var 2) .unit))) x == .full)=true:=by
   rw[List.all_map,List.all_eq_true];intro x _;simp[row,hkr]
  unfold agE tab
  first | rw[yD] | rw[yf]
  simp only[yh,Bool.false_eq_true,if_false];rw[if_pos this]
 have hR:∀lv,lvR lev (agE kr) (tab (zm p q (ar W))) lv=.full:=λlv=>by
  unfold lvR;rw[if_neg (by simp[tab])];exact hlv
 unfold zq;rw[if_pos (by rfl)];show zt (lev k) (exD lev cl (.ret (agE kr)) [some (tab (zm p q W))] _)=_;rw[zJ,hev];simp only[zjU,zt,hR,hk];simp[xT]
noncomputable def zhC (kp kg ka:Nat):Fn:=⟨1,1,(.seq (.ite (.not (.call kp (.pair (.var 0) (.pair (.tup (.pair (.lit (.int 1)) (.pair (.lit (.int 0)) .unit))) .unit)))) .never .skip) (.ret (.call ka (.pair (.tup (.pair (.call kg (.pair (.idx (.var 0) (.lit (.int 0))) .unit)) (.pair (.call kg (.pair (.idx (.var 0) (.lit (.int 1))) .unit)) .unit))) .unit))))⟩
theorem zfz {kp kg ka:Nat}{n:Nat}{W V:Nat->Nat->Int}{R:List (List Int)}(hp:cl kp [arr n W V,wd]=.ok (.bl true))(h1:cl kg [tab (zm n (n+1) W)]=.ok (tab (zm n (n+1) (ar W))))(h2:cl kg [tab (zm (n+1) n V)]=.ok (tab (zm (n+1) n (ar V))))(ha:cl ka [arr n (ar W) (ar V)]=.ok (tab R))(hka:lev ka=.full)(hk:lev k=.full):
  zq lev cl k (zhC kp kg ka) [arr n W V]=.ok (tab R):=by
 have i0:yk (arr n W V) (.int 0)=.ok (tab (zm n (n+1) W)):=rfl;have i1:yk (arr n W V) (.int 1)=.ok (tab (zm (n+1) n V)):=rfl;have hwd:evD cl (.tup (.pair (.lit (.int 1)) (.pair (.lit (.int 0)) .unit))) [some (arr n W V)]=.ok wd:=rfl;have htp:evD cl (.tup (.pair (.call kg (.pair (.idx (.var 0) (.lit (.int 0))) .unit)) (.pair (.call kg (.pair (.idx (.var 0) (.lit (.int 1))) .unit)) .unit))) [some (arr n W V)]=.ok (arr n (ar W) (ar V)):=by
  simp only[qZ,zo,zi,zh,zP,ze,za,zjT,zg,i0,i1,h1,h2];rfl
 unfold zq;rw[if_pos (by rfl)];show zt (lev k) (exD lev cl (.seq _ (.ret _)) [some (arr n W V)] _)=_;rw[ya];simp only[zV,wn,zo,zi,zh,hwd,za,zjT,zg,hp,Bool.not_true,zjU,zN,zf,zJ,htp,ha];simp[zt,lvR,hka,hk,xT,tab]
noncomputable def sdE:Ex:=(.comp (.blt .int (.pair (.cmp .eq (.bin .mul (.idx (.var 7) (.var 8)) (.bin .sub (.lit (.int 1)) (.bin .mul (.lit (.int 2)) (.bin .mod (.bin .add (.var 6) (.var 8)) (.lit (.int 2)))))) (.neg (.lit (.int 1)))) .unit)) (.rng (.lit (.int 0)) (.blt .len (.pair (.var 7) .unit)) (.lit (.int 1))) (.lit (.bl true)))
noncomputable def sdI:Sm:=(.seq (.asg 7 (.idx (.var 4) (.var 6))) (.expr (.meth .append (.var 5) (.pair sdE .unit))))
noncomputable def sdO:Sm:=(.seq (.asg 5 (.lst .unit)) (.seq (.forv 6 (.rng (.lit (.int 0)) (.blt .len (.pair (.var 4) .unit)) (.lit (.int 1))) sdI) (.expr (.meth .append (.var 3) (.pair (.var 5) .unit)))))
noncomputable def zan (ka:Nat):Fn:=⟨1,8,(.seq (.fort 1 2 (.tup (.pair (.call ka (.pair (.var 0) .unit)) .unit)) .skip) (.seq (.asg 3 (.lst .unit)) (.seq (.forv 4 (.tup (.pair (.var 1) (.pair (.var 2) .unit))) sdO) (.ret (.tup (.pair (.idx (.var 3) (.lit (.int 0))) (.pair (.idx (.var 3) (.lit (.int 1))) .unit)))))))⟩
theorem zhD {q:Nat}(hq:q<=100)(F:Nat->Nat->Int)(i:Nat)(d0 d1 d2 d3 d4 d5:Option Dat):evD cl sdE [d0,d1,d2,d3,d4,d5,some (.int i),some (row (zH q F i))]=.ok (row (zH q (sd F) i)):=by
 have hlen:yC .len [row (zH q F i)]=.ok (.int q):=by simp[row,zH]
 unfold sdE;rw[zW];simp only[yn,ze,zC,zi,zh,za,zd,zjT,zg,hlen,ku hq,yc];rw[y9 0 1 q (λc=>.int (sd F i c)) (λc _=>by simp) (λc hc=>?_) (by unfold lim;lia)]
 .simp only[row,zH,List.map_map];rfl
 .rw[show (0+1 * (c:Int))=(c:Int) by lia];have hm:=wo ((i:Int)+c) 2 (by decide);have h2:yy .mul (.int 2) (.int (((i:Int)+c) % 2))=.ok (.int (2 * (((i:Int)+c) % 2))):=yO _ _ (by decide);have h3:yy .mul (.int (F i c)) (.int (1 - 2 * (((i:Int)+c) % 2)))=.ok (.int (F i c * (1 - 2 * (((i:Int)+c) % 2)))):=zaS _ _ (vk (by lia) (by lia));simp only[List.cons_append,List.nil_append,zC,zi,zh,zT,zy,vK,zP,ze,za,zd,zjT,zg,xJ hc,zZ,hm,h2,yb,h3,vV,zdY];rfl
theorem za5 {p q:Nat}(hp:p<=100)(hq:q<=100)(F:Nat->Nat->Int){A:List Dat}(hA:A.length < lim)(d0 d1 d2 o5 o6 o7:Option Dat)(l0 l1 l2 l4 l5 l6 l7:Lv)(hl4:l4=.no):
  ∃o6' o7' l6' l7',exD lev cl sdO [d0,d1,d2,some (.lst A),some (tab (zm p q F)),o5,o6,o7] [l0,l1,l2,.full,l4,l5,l6,l7]=.next [d0,d1,d2,some (.lst (A++[tab (zm p q (sd F))])),some (tab (zm p q F)),none,o6',o7'] [l0,l1,l2,.full,.no,.full,l6',l7']:=by
 subst hl4;have hnew:yB []=.ok (row []):=rfl;have inner:=zO (body:=λd de lv=>exD lev cl sdI (de.set 6 (some d)) (lv.set 6 (lvF d)))
  (λt de lv=>∃ (p6 p7:Option Dat) (m6 m7:Lv),de=[d0,d1,d2,some (.lst A),some (tab (zm p q F)),some (tab ((zm p q (sd F)).take t)),p6,p7]/\lv=[l0,l1,l2,.full,.no,.full,m6,m7])
  (ym 0 1 p) (de:=[d0,d1,d2,some (.lst A),some (tab (zm p q F)),some (tab []),o6,o7]) (lv:=[l0,l1,l2,.full,.no,.full,l6,l7])
  ⟨o6,o7,l6,l7,rfl,rfl⟩ ?_
 .obtain ⟨de',lv',e,p6,p7,m6,m7,rfl,rfl⟩:=inner;rw[x0,List.take_of_length_le (by rw[yS];lia)] at e;refine ⟨p6,p7,m6,m7,?_⟩;unfold sdO;rw[zz];simp only[zu,yI,zh,zjT,zg,hnew,zjU];rw[zM (by simp[row])];simp only[zf,List.set_cons_succ,List.set_cons_zero];rw[wp,yH];simp only[yn,ze,zC,zi,zh,za,zd,zjT,zg,wL,ku hp,zjU,yc,yx,yo,if_true];rw[show (some (row []):Option Dat)=some (tab []) from rfl,e,zf,wS];simp only[za,zd,zjR];rw[show xo [d0,d1,d2,some (.lst A),some (tab (zm p q F)),some (tab (zm p q (sd F))),p6,p7] 3=some A from rfl];simp only;rw[if_pos hA];have hg:xc lev (.var 5) (tab (zm p q (sd F))) 3 [d0,d1,d2,some (.lst A),some (tab (zm p q F)),some (tab (zm p q (sd F))),p6,p7] [l0,l1,l2,.full,.no,.full,m6,m7]=some ([d0,d1,d2,some (.lst A),some (tab (zm p q F)),none,p6,p7],[l0,l1,l2,.full,.no,.full,m6,m7]):=by
   simp[xc,yi,tab]
  rw[hg];simp
 .rintro t d de lv hd ⟨p6,p7,m6,m7,rfl,rfl⟩;have ht:t < p:=by
   have:=(List.getElem?_eq_some_iff.mp hd).1;simpa using this
  rw[yg _ _ _ _ ht] at hd;cases hd;have e1:(0:Int)+1 * (t:Int)=(t:Int):=by lia
  simp only[e1,List.set_cons_succ,List.set_cons_zero,show lvF (.int (t:Int))=.full from by simp[lvF]];refine ⟨_,_,?_,some (.int t),some (row (zH q F t)),.no,.no,rfl,rfl⟩;unfold sdI;rw[wp];simp only[zu,zP,za,zd,zjT,vo ht,zjU];rw[show xY lev 7 (.idx (.var 4) (.var 6)) (row (zH q F t)) [d0,d1,d2,some (.lst A),some (tab (zm p q F)),some (tab ((zm p q (sd F)).take t)),some (.int t),p7] [l0,l1,l2,.full,.no,.full,.full,m7]=.next [d0,d1,d2,some (.lst A),some (tab (zm p q F)),some (tab ((zm p q (sd F)).take t)),some (.int t),some (row (zH q F t))] [l0,l1,l2,.full,.no,.full,.no,.no] from rfl,zf];rw[vp (by simp[zm];unfold lim;lia) _ _ 5 (zhD hq F t _ _ _ _ _ _) (wv lev λi=>by simp) rfl rfl];rw[List.take_add_one,show (zm p q (sd F))[t]?=some (zH q (sd F) t) from by simp[zm,ht],Option.toList_some];rfl
theorem zb2 {ka:Nat}{R:List (List Int)}{n:Nat}(hn:n<=12){F G:Nat->Nat->Int}(ha:cl ka [tab R]=.ok (arr n F G))(hk:lev k=.no):zq lev cl k (zan ka) [tab R]=.ok (arr n (sd F) (sd G)):=by
 have hnew:yB []=.ok (row []):=rfl;have hT:evD cl (.tup (.pair (.call ka (.pair (.var 0) .unit)) .unit)) [some (tab R),none,none,none,none,none,none,none]=.ok (.tup [arr n F G]):=by
  simp only[qZ,zo,zi,zh,za,zjT,zg,ha];rfl
 obtain ⟨a6,a7,b6,b7,e1⟩:=za5 (lev:=lev) (cl:=cl) (p:=n) (q:=n+1) (by lia) (by lia) F (A:=[]) (by decide) (some (tab R)) (some (tab (zm n (n+1) F))) (some (tab (zm (n+1) n G))) none none none .no .no .no .no .full .full .full rfl;obtain ⟨c6,c7,g6,g7,e2⟩:=za5 (lev:=lev) (cl:=cl) (p:=n+1) (q:=n) (by lia) (by lia) G (A:=[tab (zm n (n+1) (sd F))]) (by simp[lim]) (some (tab R)) (some (tab (zm n (n+1) F))) (some (tab (zm (n+1) n G))) none a6 a7 .no .no .no .no .full b6 b7 rfl;have hfort:exD lev cl (.fort 1 2 (.tup (.pair (.call ka (.pair (.var 0) .unit)) .unit)) .skip) [some (tab R),none,none,none,none,none,none,none] [.no,.full,.full,.full,.full,.full,.full,.full]=.next [some (tab R),some (tab (zm n (n+1) F)),some (tab (zm (n+1) n G)),none,none,none,none,none] [.no,.no,.no,.full,.full,.full,.full,.full]:=by
  rw[zfd,hT];simp only[zjU,yc,arr,y7,zN];simp[lvF,tab,y6,downs]
 have hfl:flat (.tup [tab (zm n (n+1) F),tab (zm (n+1) n G)])=false:=by simp[tab]
 have ht2:evD cl (.tup (.pair (.var 1) (.pair (.var 2) .unit))) [some (tab R),some (tab (zm n (n+1) F)),some (tab (zm (n+1) n G)),some (row []),none,none,none,none]=.ok (.tup [tab (zm n (n+1) F),tab (zm (n+1) n G)]):=rfl;unfold zq;rw[if_pos (by rfl)];show zt (lev k) (exD lev cl (.seq _ (.seq _ (.seq _ _))) [some (tab R),none,none,none,none,none,none,none] [lvF (tab R),.full,.full,.full,.full,.full,.full,.full])=_;rw[show lvF (tab R)=.no from by simp[lvF,tab],zz,hfort,zf,zz];simp only[zu,yI,zh,zjT,zg,hnew,zjU];rw[zM (by simp[row])];simp only[zf,List.set_cons_succ,List.set_cons_zero];rw[ya,yH,ht2];simp only[zjU,yc,hfl,Bool.false_eq_true,if_false,y7,List.set_cons_succ,List.set_cons_zero,show ∀A:List (List Int),lvF (tab A)=.no from λA=>by simp[lvF,tab]];rw[show (y6 (.tup (.pair (.var 1) (.pair (.var 2) .unit))) [some (tab R),some (tab (zm n (n+1) F)),some (tab (zm (n+1) n G)),some (row []),none,none,none,none] [Lv.no,Lv.no,Lv.no,Lv.full,Lv.full,Lv.full,Lv.full,Lv.full])=[Lv.no,Lv.no,Lv.no,Lv.full,Lv.full,Lv.full,Lv.full,Lv.full] from rfl];simp only[List.set_cons_succ,List.set_cons_zero];rw[show (some (row []):Option Dat)=some (.lst []) from rfl,e1];simp only[List.set_cons_succ,List.set_cons_zero,List.nil_append];rw[e2];simp only[zf,zJ];rw[show evD cl (.tup (.pair (.idx (.var 3) (.lit (.int 0))) (.pair (.idx (.var 3) (.lit (.int 1))) .unit))) [some (tab R),some (tab (zm n (n+1) F)),some (tab (zm (n+1) n G)),some (.lst ([tab (zm n (n+1) (sd F))]++[tab (zm (n+1) n (sd G))])),some (tab (zm (n+1) n G)),none,c6,c7]=.ok (arr n (sd F) (sd G)) from rfl];simp only[zjU,zt,hk];simp[xT]
end
end Lib
namespace Lib
section
variable {lev:Nat->Lv}{cl:Nat->List Dat->Rd}{k:Nat}
noncomputable def acR (x:List Int):List Int:=(List.range (x.length+1)).map λc=>1 - 2 * (x.take c).sum
theorem zfA {x:List Int}{c:Nat}(h:c<=x.length):(acR x)[c]?=some (1 - 2 * (x.take c).sum):=by
 simp only[acR,List.getElem?_map];rw[List.getElem?_range (by lia)];rfl
noncomputable def acB:Sm:=(.seq (.aug 1 .add (.var 3)) (.expr (.meth .append (.var 2) (.pair (.bin .sub (.lit (.int 1)) (.bin .mul (.lit (.int 2)) (.var 1))) .unit))))
noncomputable def zi4:Fn:=⟨1,4,(.seq (.asg 1 (.lit (.int 0))) (.seq (.asg 2 (.lst (.pair (.lit (.int 1)) .unit))) (.seq (.forv 3 (.var 0) acB) (.ret (.var 2)))))⟩
theorem zfB (x:List Int)(hx:x.length<=100)(hk:lev k=.full):zq lev cl k zi4 [row x]=.ok (row (acR x)):=by
 have main:=zO (body:=λd de lv=>exD lev cl acB (de.set 3 (some d)) (lv.set 3 (lvF d)))
  (λt de lv=>∃ (p3:Option Dat) (l3:Lv),de=[some (row x),some (.int (x.take t).sum),some (row ((acR x).take (t+1))),p3]/\lv=[.no,.full,.full,l3])
  (x.map Dat.int) (de:=[some (row x),some (.int 0),some (row [1]),none]) (lv:=[.no,.full,.full,.full])
  ⟨none,.full,by simp[acR,List.range_succ_eq_map],rfl⟩ ?_
 .obtain ⟨de',lv',e,p3,l3,rfl,rfl⟩:=main;unfold zq;rw[if_pos (by rfl)];show zt (lev k) (exD lev cl (.seq _ (.seq _ (.seq _ _))) [some (row x),none,none,none] [lvF (row x),.full,.full,.full])=_;rw[show lvF (row x)=.no from by simp[lvF,row],zz];simp only[zu,ze,zjU];rw[zS (by simp)];simp only[zf,List.set_cons_succ,List.set_cons_zero];rw[zz];simp only[zu,yI,zi,zh,ze,zjT,zg];rw[yG (by simp;unfold lim;lia)];simp only[zjU];rw[zM (by simp)];simp only[zf,List.set_cons_succ,List.set_cons_zero];rw[ya,yH];have hit:itD (row x)=some (x.map Dat.int):=yJ (by simp;unfold lim;lia);have hfl:flat (row x)=false:=by simp[row]
  simp only[za,zd,zjU,hit,hfl];have hrel:(if false=true then [Lv.no,Lv.full,Lv.full,Lv.full] else y6 (.var 0) [some (row x),some (.int 0),some (.lst [.int 1]),none] [Lv.no,Lv.full,Lv.full,Lv.full])=[.no,.full,.full,.full]:=rfl;rw[hrel,show (some (.lst [.int 1]):Option Dat)=some (row [1]) from rfl,e,zf];rw[List.length_map,List.take_of_length_le (l:=acR x) (by simp[acR])];simp only[zJ,za,zd,zjU,lvR,zt,show flat (row (acR x))=false from by simp[row],Bool.false_eq_true,if_false,hk];rfl
 .rintro t d de lv hd ⟨p3,l3,rfl,rfl⟩;have ht:t < x.length:=by
   have:=(List.getElem?_eq_some_iff.mp hd).1;simpa using this
  have hxt:x[t]?=some x[t]:=List.getElem?_eq_getElem ht;rw[List.getElem?_map,hxt] at hd;cases hd;have hlen:((acR x).take (t+1)).length=t+1:=by simp[acR];lia
  have e2:(acR x).take (t+1+1)=(acR x).take (t+1)++[1 - 2 * (x.take (t+1)).sum]:=by
   rw[List.take_add_one,zfA (by lia),Option.toList_some]
  refine ⟨_,_,?_,some (.int x[t]),lvF (.int x[t]),rfl,rfl⟩;unfold acB;simp only[List.set_cons_succ,List.set_cons_zero];rw[wp];simp only[zhk,List.getElem?_cons_succ,List.getElem?_cons_zero,zd,za,zjR,zZ,zf,List.set_cons_succ,List.set_cons_zero];rw[<- xl hxt];rw[gf (v:=1 - 2 * (x.take (t+1)).sum) (by rw[hlen];unfold lim;lia) _ _ 2 (by simp only[zy,ze,za,zd,zjT,yO 2 _ (show yA 2=true by decide),yb]) rfl rfl,e2];rfl
noncomputable def dnR (x:List Int):List Int:=x.map λv=>2 * v - 1
noncomputable def dwE:Ex:=(.comp (.bin .sub (.bin .mul (.lit (.int 2)) (.var 1)) (.lit (.int 1))) (.var 0) (.lit (.bl true)))
noncomputable def zi5:Fn:=⟨1,1,(.ret dwE)⟩
theorem zfC (x:List Int)(hx:x.length<=100)(hk:lev k=.full):zq lev cl k zi5 [row x]=.ok (row (dnR x)):=by
 have hl:(x.map Dat.int).length<=lim:=by simp;unfold lim;lia
 have hev:evD cl dwE [some (row x)]=.ok (row (dnR x)):=by
  unfold dwE;rw[zW];simp only[za,zjT,row,yJ hl];rw[zE Dat.int (λv=>.int (2 * v - 1)) x [] (λv _=>by simp) (λv _=>by simp only[List.cons_append,List.nil_append,zy,ze,za,zd,zjT,yO 2 _ (show yA 2=true by decide),yb]) (by simpa using hl)];simp only[dnR,List.map_map,List.nil_append];rfl
 have hlv:lvE lev dwE (row (dnR x))=.full:=wv lev λi=>yR lev _ _ rfl;have hR:∀lv,lvR lev dwE (row (dnR x)) lv=.full:=λlv=>by
  unfold lvR;rw[if_neg (by simp[row])];exact hlv
 unfold zq;rw[if_pos (by rfl)];show zt (lev k) (exD lev cl (.ret dwE) [some (row x)] _)=_;rw[zJ,hev];simp only[zjU,zt,hR,hk];simp[xT]
noncomputable def wU (kc:Nat)(it:Ex):Ex:=(.comp (.call kc (.pair (.var 3) .unit)) it (.lit (.bl true)))
theorem jb {kc:Nat}{it:Ex}{de:DEn}{A:List (List Int)}{f:List Int->List Int}(hde:de.length=3)(hi:evD cl it de=.ok (tab A))(hA:A.length<=100)(hf:∀x∈A,cl kc [row x]=.ok (row (f x))):evD cl (wU kc it) de=.ok (tab (A.map f)):=by
 unfold wU;rw[zW,hi];simp only[zjT,tab,yJ (show (A.map row).length<=lim from by simp;unfold lim;lia)];rw[zE row (λx=>row (f x)) A [] (λ_ _=>by simp) (λx hx=>?_) (by simp;unfold lim;lia)]
 .simp
 .have h3:(de++[some (row x)])[3]?=some (some (row x)):=by rw[List.getElem?_append_right (by lia),hde];rfl
  have hv:evD cl (.var 3) (de++[some (row x)])=.ok (row x):=xF h3;simp only[zo,zi,zh,hv,zjT,zg,hf x hx]
theorem jc {kc:Nat}{it:Ex}{A:List (List Int)}(h:lev kc=.full):lvE lev (wU kc it) (tab A)=.full:=by
 unfold wU tab
 first | rw[yD] | rw[yf]
 simp only[yh,Bool.false_eq_true,if_false];rw[if_pos (by
  rw[List.all_map,List.all_eq_true];intro x _;simp[h])]
theorem zhE {R:List (List Int)}(h:Sq R):R.map acR=zm R.length (R.length+1) (axf R):=by
 refine List.ext_getElem? λi=>?_;by_cases hi:i < R.length
 .simp only[List.getElem?_map,List.getElem?_eq_getElem hi,Option.map_some,zm,List.getElem?_range hi];have:∀c,1 - 2 * (R[i].take c).sum=axf R i c:=λc=>by simp[axf,hi]
  simp only[acR,h _ (List.getElem_mem hi),this];rfl
 .simp[zm,hi]
theorem zhF (R:List (List Int)):(yY R).map dnR=zm (R.length+1) R.length (dnf R):=by
 unfold yY zm;rw[List.map_map];refine List.map_congr_left λi _=>?_;simp only[Function.comp_apply,dnR,zG,zH,List.map_map];rfl
noncomputable def zi6 (k0 k1 k2:Nat):Fn:=⟨1,3,(.seq (.asg 1 (wU k1 (.var 0))) (.seq (.asg 2 (wU k2 (.call k0 (.pair (.var 0) .unit)))) (.ret (.tup (.pair (.var 1) (.pair (.var 2) .unit))))))⟩
theorem zfD {k0 k1 k2:Nat}{R:List (List Int)}(h:Sq R)(hn:R.length<=12)(h0:cl k0 [tab R]=.ok (tab (yY R)))(h1:∀x:List Int,x.length<=100->cl k1 [row x]=.ok (row (acR x)))(h2:∀x:List Int,x.length<=100->cl k2 [row x]=.ok (row (dnR x)))(l1:lev k1=.full)(l2:lev k2=.full)(hk:lev k=.full):
  zq lev cl k (zi6 k0 k1 k2) [tab R]=.ok (arr R.length (axf R) (dnf R)):=by
 have e1:=jb (cl:=cl) (kc:=k1) (it:=.var 0) (de:=[some (tab R),none,none]) (A:=R) (f:=acR) rfl (by simp) (by lia) (λx hx=>h1 x (by rw[h x hx];lia));rw[zhE h] at e1;have e2:=jb (cl:=cl) (kc:=k2) (it:=.call k0 (.pair (.var 0) .unit)) (de:=[some (tab R),some (tab (zm R.length (R.length+1) (axf R))),none]) (A:=yY R) (f:=dnR) rfl (by simp only[zo,zi,zh,za,zjT,zg,h0]) (by simp[yY];lia) (λx hx=>h2 x (by
  obtain ⟨i,_,rfl⟩:=List.mem_map.mp hx;simp[zG];lia))
 rw[zhF] at e2;unfold zq;rw[if_pos (by rfl)];show zt (lev k) (exD lev cl (.seq _ (.seq _ _)) [some (tab R),none,none] [lvF (tab R),.full,.full])=_;rw[zz,zu,e1];simp only[zjU];rw[zM (jc l1)];simp only[zf,List.set_cons_succ,List.set_cons_zero];rw[ya,zu,e2];simp only[zjU];rw[zM (jc l2)];simp only[zf,List.set_cons_succ,List.set_cons_zero];simp[zt,lvR,hk,arr,xT,tab,show 2<=lim from by decide]
end
end Lib
namespace Lib
section
variable {lev:Nat->Lv}{cl:Nat->List Dat->Rd}{k:Nat}
noncomputable def wk (F:Nat->Nat->Int)(i j:Nat):Int:=if (decide (F i j=1) == decide (((i:Int)+j) % 2=1))=true then 1 else 0
theorem zf0 {F:Nat->Nat->Int}{i j:Nat}(h:F i j=1\/F i j=-1):wk F i j=sd F i j:=by
 unfold wk sd;have hm:((i:Int)+j) % 2=0\/((i:Int)+j) % 2=1:=by lia
 rcases hm with e | e <;> rw[e] <;> rcases h with g | g <;> rw[g] <;> rfl
noncomputable def wkE (ko:Nat):Ex:=(.compP .enum (.ife (.cmp .eq (.cmp .eq (.var 3) (.lit (.int 1))) (.call ko (.pair (.bin .add (.var 0) (.var 2)) .unit))) (.lit (.int 1)) (.lit (.int 0))) (.var 1) (.lit (.int 0)) (.lit (.bl true)))
noncomputable def zf1 (ko:Nat):Fn:=⟨2,2,(.ret (wkE ko))⟩
theorem zd3 {ko:Nat}(ho:∀n:Int,cl ko [.int n]=.ok (.bl (decide (n % 2=1)))){q:Nat}(hq:q<=100)(W:Nat->Nat->Int)(i:Nat)(hk:lev k=.full):zq lev cl k (zf1 ko) [.int i,row (zH q W i)]=.ok (row (zH q (wk W) i)):=by
 have hev:evD cl (wkE ko) [some (.int i),some (row (zH q W i))]=.ok (row (zH q (wk W) i)):=by
  unfold wkE;rw[y8];simp only[za,zd,ze,zjT,kZ 0 (zH q W i) (by rw[xI];unfold lim;lia),xI];rw[zE (λ(j:Nat)=>(Dat.int (0+(j:Int)),Dat.int ((zH q W i).getD j 0))) (λ(j:Nat)=>.int (wk W i j)) _ [] (λj _=>by simp) (λj hj=>?_) (by simp;unfold lim;lia)]
  .simp only[List.nil_append,row,zH,List.map_map];rfl
  .have hj':j < q:=by simpa using hj
   rw[show (zH q W i).getD j 0=W i j from xh (by simp[zH,hj']),Int.zero_add];simp only[List.cons_append,List.nil_append,q8,zT,zo,zi,zh,zy,ze,za,zd,zjT,zg,zZ,ho,vV,zde];unfold wk;cases (decide (W i j=1) == decide (((i:Int)+j) % 2=1)) <;> rfl
 have hlv:lvE lev (wkE ko) (row (zH q (wk W) i))=.full:=qu lev λi=>yR lev _ _ rfl;have hR:∀lv,lvR lev (wkE ko) (row (zH q (wk W) i)) lv=.full:=λlv=>by
  unfold lvR;rw[if_neg (by simp[row])];exact hlv
 unfold zq;rw[if_pos (by rfl)];show zt (lev k) (exD lev cl (.ret (wkE ko)) [some (.int i),some (row (zH q W i))] _)=_;rw[zJ,hev];simp only[zjU,zt,hR,hk];simp[xT]
theorem zb3 {kr:Nat}{p q:Nat}(hp:p<=100)(W:Nat->Nat->Int)(hr:∀i:Nat,cl kr [.int i,row (zH q W i)]=.ok (row (zH q (wk W) i)))(hkr:lev kr=.full)(hk:lev k=.full):zq lev cl k (ja kr) [tab (zm p q W)]=.ok (tab (zm p q (wk W))):=by
 have hev:evD cl (agE kr) [some (tab (zm p q W))]=.ok (tab (zm p q (wk W))):=by
  unfold agE;rw[y8];simp only[za,ze,zjT];rw[k8 0 (zm p q W) (by rw[yS];unfold lim;lia),yS];simp only;rw[zE (λ(i:Nat)=>(Dat.int (0+(i:Int)),row ((zm p q W).getD i []))) (λ(i:Nat)=>row (zH q (wk W) i)) _ [] (λi _=>by simp) (λi hi=>?_) (by simp;unfold lim;lia)]
  .simp only[List.nil_append,tab,zm,List.map_map];rfl
  .have hi':i < p:=by simpa using hi
   rw[show (zm p q W).getD i []=zH q W i from by simp[zm,hi'],Int.zero_add];simp only[List.cons_append,List.nil_append,zo,zi,zh,zd,za,zjT,zg,hr]
 have hlv:lvE lev (agE kr) (tab (zm p q (wk W)))=.full:=by
  have:((zm p q (wk W)).map row).all (λx=>lvE lev (.call kr (.pair (.var 1) (.pair (.var 2) .unit))) x == .full)=true:=by
   rw[List.all_map,List.all_eq_true];intro x _;simp[row,hkr]
  unfold agE tab
  first | rw[yD] | rw[yf]
  simp only[yh,Bool.false_eq_true,if_false];rw[if_pos this]
 have hR:∀lv,lvR lev (agE kr) (tab (zm p q (wk W))) lv=.full:=λlv=>by
  unfold lvR;rw[if_neg (by simp[tab])];exact hlv
 unfold zq;rw[if_pos (by rfl)];show zt (lev k) (exD lev cl (.ret (agE kr)) [some (tab (zm p q W))] _)=_;rw[zJ,hev];simp only[zjU,zt,hR,hk];simp[xT]
noncomputable def zi7 (ka kg:Nat):Fn:=⟨1,2,(.seq (.asg 1 (.call ka (.pair (.var 0) .unit))) (.ret (.tup (.pair (.call kg (.pair (.idx (.var 1) (.lit (.int 0))) .unit)) (.pair (.call kg (.pair (.idx (.var 1) (.lit (.int 1))) .unit)) .unit)))))⟩
theorem zfE {ka kg:Nat}{R:List (List Int)}{n:Nat}{F G:Nat->Nat->Int}(ha:cl ka [tab R]=.ok (arr n F G))(h1:cl kg [tab (zm n (n+1) F)]=.ok (tab (zm n (n+1) (wk F))))(h2:cl kg [tab (zm (n+1) n G)]=.ok (tab (zm (n+1) n (wk G))))(hkg:lev kg=.full)(hka:lev ka=.full)(hk:lev k=.full):
  zq lev cl k (zi7 ka kg) [tab R]=.ok (arr n (wk F) (wk G)):=by
 have i0:yk (arr n F G) (.int 0)=.ok (tab (zm n (n+1) F)):=rfl;have i1:yk (arr n F G) (.int 1)=.ok (tab (zm (n+1) n G)):=rfl;unfold zq;rw[if_pos (by rfl)];show zt (lev k) (exD lev cl (.seq _ (.ret _)) [some (tab R),none] _)=_;rw[ya];simp only[zu,zo,zi,zh,za,zjT,zg,ha,zjU];rw[zM (by simp[hka])];simp only[zf,List.set_cons_succ,List.set_cons_zero,zJ,qZ,zo,zi,zh,zP,ze,za,zd,zjT,zg,i0,i1,h1,h2];simp[zt,lvR,hkg,hk,arr,xT,tab,show 2<=lim from by decide]
end
end Lib
namespace Lib
section
variable {lev:Nat->Lv}{cl:Nat->List Dat->Rd}{k:Nat}
noncomputable def hbI:Ex:=.comp (.blt .sum (.pair (.slH (.var 5) (.var 4)) .unit)) (.slH (.var 0) (.var 3)) (.lit (.bl true))
noncomputable def hbE:Ex:=.comp (.bin .sub (.bin .add (.var 3) (.var 4)) (.bin .mul (.lit (.int 2)) (.blt .sum (.pair hbI .unit)))) (.rng (.lit (.int 0)) (.bin .add (.var 1) (.lit (.int 1))) (.lit (.int 1))) (.lit (.bl true))
noncomputable def fHB:Fn:=⟨1,4,(.seq (.asg 1 (.blt .len (.pair (.var 0) .unit))) (.seq (.asg 2 (.lst .unit)) (.seq (.forv 3 (.rng (.lit (.int 0)) (.bin .add (.var 1) (.lit (.int 1))) (.lit (.int 1))) (.expr (.meth .append (.var 2) (.pair hbE .unit)))) (.ret (.var 2)))))⟩
theorem zfF {R:List (List Int)}{i:Nat}(hi:i<=R.length)(j:Nat):((R.take i).map λx=>(x.take j).sum).sum=PR R i j:=by
 unfold PR;congr 1;refine List.ext_getElem? λr=>?_;by_cases hr:r < i
 .have h2:r < R.length:=by lia
  simp[List.getElem?_take,hr,h2]
 .simp[List.getElem?_take,hr]
theorem zi8 {R:List (List Int)}(h:Sq R)(hn:R.length<=100){i:Nat}(hi:i<=R.length)(d2:Option Dat):evD cl hbE [some (tab R),some (.int R.length),d2,some (.int i)]=.ok (row (hrw R.length (yM R) i)):=by
 unfold hbE;rw[zW];simp only[yn,zy,ze,za,zd,zjT,zZ,kv hn,yc];rw[y9 0 1 (R.length+1) (λc=>.int (yM R i c)) (λc _=>by simp) (λc hc=>?_) (by unfold lim;lia)]
 .simp only[row,hrw,List.map_map];rfl
 .rw[show (0+1 * (c:Int))=(c:Int) by lia];have hsl:=zdZ R i (by unfold lim;lia);have hcm:evD cl hbI [some (tab R),some (.int R.length),d2,some (.int i),some (.int c)]=.ok (row ((R.take i).map λx=>(x.take c).sum)):=by
   unfold hbI;rw[zW];simp only[j3,za,zd,zjT,hsl];rw[show itD (tab (R.take i))=some ((R.take i).map row) from yJ (by simp;unfold lim;lia)];simp only;rw[zE row (λx=>.int (x.take c).sum) (R.take i) [] (λ_ _=>by simp) (λx hx=>?_) (by simp;unfold lim;lia)]
   .simp only[row,List.map_map,List.nil_append];rfl
   .have hxl:=h x (List.mem_of_mem_take hx);simp only[List.cons_append,List.nil_append,zC,zi,zh,j3,za,zd,zjT,zdw x c (by unfold lim;lia),zg,kq]
  simp only[List.cons_append,List.nil_append,zy,zC,zi,zh,ze,za,zd,hcm,zjT,zg,kq,yO 2 _ (show yA 2=true by decide),zZ,yb,zfF hi];rfl
theorem zhG {R:List (List Int)}(h:Sq R)(hn:R.length<=100)(hlev:lev k=.full):zq lev cl k fHB [tab R]=.ok (tab (zR R.length (yM R))):=by
 have hlen:yC .len [tab R]=.ok (.int R.length):=by simp[tab]
 have hnew:yB []=.ok (row []):=rfl;have main:=zO (body:=λx de lv=>exD lev cl (.expr (.meth .append (.var 2) (.pair hbE .unit))) (de.set 3 (some x)) (lv.set 3 (lvF x)))
  (λi de lv=>∃ (p3:Option Dat),de=[some (tab R),some (.int R.length),some (tab ((zR R.length (yM R)).take i)),p3]/\lv=[.no,.full,.full,.full])
  (ym 0 1 (R.length+1)) (de:=[some (tab R),some (.int R.length),some (tab []),none]) (lv:=[.no,.full,.full,.full])
  ⟨none,rfl,rfl⟩ ?_
 .obtain ⟨de',lv',e,p3,rfl,rfl⟩:=main;rw[x0,List.take_of_length_le (by rw[vn];lia)] at e;unfold zq;rw[if_pos (by rfl)];show zt (lev k) (exD lev cl (.seq _ (.seq _ (.seq _ _))) [some (tab R),none,none,none] [lvF (tab R),.full,.full,.full])=_;rw[show lvF (tab R)=.no from by simp[lvF,tab],zz];simp only[zu,zC,zi,zh,za,zjT,zg,hlen,zjU];rw[zS (by simp)];simp only[zf,List.set_cons_succ,List.set_cons_zero];rw[zz];simp only[zu,yI,zh,zjT,zg,hnew,zjU];rw[zM (by simp[row])];simp only[zf,List.set_cons_succ,List.set_cons_zero];rw[ya,yH];simp only[yn,zy,ze,za,zd,zjT,zZ,kv hn,zjU,yc,yx,yo,if_true];rw[show (some (row []):Option Dat)=some (tab []) from rfl,e,zf];simp[zt,lvR,hlev,xT,tab]
 .rintro i x de lv hx ⟨p3,rfl,rfl⟩;have hi:i < R.length+1:=by
   have:=(List.getElem?_eq_some_iff.mp hx).1;simpa using this
  rw[yg _ _ _ _ hi] at hx;cases hx;have e1:(0:Int)+1 * (i:Int)=(i:Int):=by lia
  refine ⟨_,_,?_,some (.int i),rfl,rfl⟩;simp only[e1,List.set_cons_succ,List.set_cons_zero,show lvF (.int (i:Int))=.full from by simp[lvF]];rw[vp (by simp[zR];unfold lim;lia) _ _ 2 (zi8 h hn (by lia) _) (wv lev λi=>by simp) rfl rfl];rw[List.take_add_one,show (zR R.length (yM R))[i]?=some (hrw R.length (yM R) i) from by simp[zR,hi],Option.toList_some];rfl
noncomputable def zhH (a b c e:Nat):Fn:=⟨2,2,(.seq (.ite (.cmp .eq (.var 0) (.lit (.int 0))) (.ret (.call a (.pair (.var 1) .unit))) .skip) (.seq (.ite (.cmp .eq (.var 0) (.lit (.int 1))) (.ret (.call b (.pair (.var 1) .unit))) .skip) (.seq (.ite (.cmp .eq (.var 0) (.lit (.int 2))) (.ret (.call c (.pair (.var 1) .unit))) .skip) (.ret (.call e (.pair (.var 1) .unit))))))⟩
theorem vq {a:Nat}{x y:Dat}{q:Int}{lv:List Lv}(h:cl a [x]=.ok y)(hk:lev k=.full)(ha:lev a=.full):zt (lev k) (exD lev cl (.ret (.call a (.pair (.var 1) .unit))) [some (.int q),some x] lv)=.ok y:=by
 rw[zJ];simp only[zo,zi,zh,za,zd,zjT,zg,h,zjU];have:lvR lev (.call a (.pair (.var 1) .unit)) y lv=.full:=by
  unfold lvR;split
  .rfl
  .show lvE lev (.call a (.pair (.var 1) .unit)) y=.full;simp only[lvE,ha];split <;> rfl
 rw[this,hk];simp[zt,xT]
theorem jd {R S:Sm}{q i:Int}{x:Dat}{lv:List Lv}(hv:yu (.ite (.cmp .eq (.var 0) (.lit (.int i))) R .skip) S=none):exD lev cl (.seq (.ite (.cmp .eq (.var 0) (.lit (.int i))) R .skip) S) [some (.int q),some x] lv=if q=i then (exD lev cl R [some (.int q),some x] lv).then (exD lev cl S) else exD lev cl S [some (.int q),some x] lv:=by
 rw[zQ lev cl _ _ hv,zV];simp only[zT,za,ze,zjT,vV,zjU];by_cases h:q=i
 .rw[if_pos h,decide_eq_true h]
 .rw[if_neg h,decide_eq_false h];simp only[zN,zf]
theorem za6 {a b c e:Nat}{x y:Dat}{q:Int}(hk:lev k=.full)(ha:lev a=.full)(hb:lev b=.full)(hc:lev c=.full)(he:lev e=.full)
  (h:(q=0/\cl a [x]=.ok y)\/(q=1/\cl b [x]=.ok y)\/(q=2/\cl c [x]=.ok y)\/(q=3/\cl e [x]=.ok y)):zq lev cl k (zhH a b c e) [.int q,x]=.ok y:=by
 have th:∀ {a:Nat}{lv:List Lv}{f:DEn->List Lv->Rsd},cl a [x]=.ok y->(exD lev cl (.ret (.call a (.pair (.var 1) .unit))) [some (.int q),some x] lv).then f=exD lev cl (.ret (.call a (.pair (.var 1) .unit))) [some (.int q),some x] lv:=λ{a lv f} h=>by
  rw[zJ];simp only[zo,zi,zh,za,zd,zjT,zg,h,zjU];rfl
 unfold zq;rw[if_pos (by rfl)];show zt (lev k) (exD lev cl (.seq (.ite (.cmp .eq (.var 0) (.lit (.int 0))) (.ret (.call a (.pair (.var 1) .unit))) .skip) (.seq (.ite (.cmp .eq (.var 0) (.lit (.int 1))) (.ret (.call b (.pair (.var 1) .unit))) .skip) (.seq (.ite (.cmp .eq (.var 0) (.lit (.int 2))) (.ret (.call c (.pair (.var 1) .unit))) .skip) (.ret (.call e (.pair (.var 1) .unit)))))) [some (.int q),some x] [lvF (.int q),lvF x])=_;rw[jd rfl,jd rfl,jd rfl];rcases h with ⟨hq,h⟩ | ⟨hq,h⟩ | ⟨hq,h⟩ | ⟨hq,h⟩
 .rw[if_pos hq,th h];exact vq h hk ha
 .rw[if_neg (by lia),if_pos hq,th h];exact vq h hk hb
 .rw[if_neg (by lia),if_neg (by lia),if_pos hq,th h];exact vq h hk hc
 .rw[if_neg (by lia),if_neg (by lia),if_neg (by lia)];exact vq h hk he
end
end Lib
namespace Lib
section
variable {lev:Nat->Lv}{cl:Nat->List Dat->Rd}{k:Nat}
noncomputable def gm (kw:Nat):Fn:=⟨2,2,(.ret (.and (.call kw (.pair (.var 0) .unit)) (.chain .le .le (.lit (.int 1)) (.var 0) (.var 1))))⟩
theorem zao {kw:Nat}(hw:∀d,cl kw [d]=.ok (.bl (isInt d)))(n m:Int):zq lev cl k (gm kw) [.int n,.int m]=.ok (.bl (decide (1<=n/\n<=m))):=by
 by_cases h:1<=n <;> simp[zq,gm,yE,yF,zt,lvR,hw,isInt,h]
noncomputable def gn (ks:Nat):Fn:=⟨1,1,(.ret (.call ks (.pair (.var 0) (.pair (.lit (.int 12)) .unit))))⟩
theorem zb4 {ks:Nat}{n:Int}{b:Bool}(hs:cl ks [.int n,.int 12]=.ok (.bl b)):zq lev cl k (gn ks) [.int n]=.ok (.bl b):=by
 simp[zq,gn,yE,yF,zt,lvR,hs]
end
end Lib
end Vl
end Mini
namespace Mini
open PySem
theorem IsE.p {C : Ctx}{sc : Scope}{N : List Str}{a b : Ex}{x : Expr}{xs : List Expr}(ha : IsE C sc N a (.e x))(hb : IsE C sc N b (.a xs))(hs : zF x = true := by rfl)(ra : zw a = false := by rfl): IsE C sc N (.pair a b) (.a (x :: xs)) := .pair hs ra ha hb
theorem IsE.c {C : Ctx}{sc : Scope}{N : List Str}{k : Nat}{a : Ex}{f : Str}{y : Expr}{ys : List Expr}{p p' : Pos}(ha : IsE C sc N a (.a (y :: ys)))(h1 : C.fns[k]? = some f := by rfl)(h2 : glB sc f = true := by kernel_rfl)(h3 : xn f = true := by kernel_rfl)(hs : (y :: ys).all zF = true := by rfl): IsE C sc N (.call k a) (.e (.Call (.Name f p) (y :: ys) [] p')) := .call h1 h2 h3 hs ha
theorem IsE.q {C : Ctx}{sc : Scope}{N : List Str}{b : Blf}{a : Ex}{nm : Str}{f : Value}{y : Expr}{ys : List Expr}{p p' : Pos}(ha : IsE C sc N a (.a (y :: ys)))(h1 : zeB b = some (nm, f) := by rfl)(h2 : glB sc nm = true := by kernel_rfl)(h3 : xn nm = true := by kernel_rfl)(hs : (y :: ys).all zF = true := by rfl): IsE C sc N (.blt b a) (.e (.Call (.Name nm p) (y :: ys) [] p')) := .blt h1 h2 h3 hs ha
theorem IsE.x {C : Ctx}{sc : Scope}{N : List Str}{a b : Ex}{x y : Expr}{p : Pos}(ha : IsE C sc N a (.e x))(rb : zw b = false)(hb : IsE C sc N b (.e y))(hs : kJ y = true := by rfl)(ra : zw a = false := by rfl): IsE C sc N (.idx a b) (.e (.Subscript x y p)) := .idx hs ra ha rb hb
theorem IsE.k {C : Ctx}{sc : Scope}{N : List Str}{op : Co}{a b : Ex}{x y : Expr}{p : Pos}(ha : IsE C sc N a (.e x))(rb : zw b = false)(hb : IsE C sc N b (.e y))(hs : y3 y = true := by rfl)(ra : zw a = false := by rfl): IsE C sc N (.cmp op a b) (.e (.Compare x [cK op] [y] p)) := .cmp hs ra ha rb hb
theorem IsS.s {C : Ctx}{sc : Scope}{N : List Str}{i : Nat}{e : Ex}{x : Str}{v : Expr}{p p' : Pos}(he : IsE C sc N e (.e v))(hc : kQ v = false := by rfl)(h1 : N[i]? = some x := by rfl)(h2 : v5 sc x = true := by kernel_rfl)(hr : zw e = false := by rfl): IsS C sc N (.asg i e) (.s (.Assign [.Name x p] v p')) := .asg hc h1 h2 hr he
end Mini
namespace R29
open PySem L2 Mini
noncomputable def f0:Fn:=Mini.Vl.Lib.j6
noncomputable abbrev d0:Dfn:=⟨"is_whole",top 5,["thing"],["thing"],f0, "is_whole"⟩
noncomputable def f1:Fn:=⟨2,2,(.ret (.and (.call 0 (.pair (.var 0) .unit)) (.chain .le .le (.lit (.int 1)) (.var 0) (.var 1))))⟩
noncomputable abbrev d1:Dfn:=⟨"is_size_to",top 6,["thing", "most"],["thing", "most"],f1, "is_size_to"⟩
noncomputable def f2:Fn:=Mini.Vl.Lib.gn 1
noncomputable abbrev d2:Dfn:=⟨"is_size",top 7,["thing"],["thing"],f2, "is_size"⟩
noncomputable def f3:Fn:=Mini.Vl.Lib.zdx 0
noncomputable abbrev d3:Dfn:=⟨"is_number_row",top 8,["thing", "length"],["thing", "length"],f3, "is_number_row"⟩
noncomputable def f4:Fn:=⟨3,3,(.ret (.and (.call 3 (.pair (.var 0) (.pair (.var 1) .unit))) (.blt .all (.pair (.comp (.chain .le .lt (.lit (.int 0)) (.var 3) (.var 2)) (.var 0) (.lit (.bl true))) .unit))))⟩
noncomputable abbrev d4:Dfn:=⟨"is_row_below",top 9,["thing", "length", "bound"],["thing", "length", "bound"],f4, "is_row_below"⟩
noncomputable def f5:Fn:=Mini.Vl.Lib.zah 3
noncomputable abbrev d5:Dfn:=⟨"is_number_grid",top 10,["thing", "rows", "columns"],["thing", "rows", "columns"],f5, "is_number_grid"⟩
noncomputable def f6:Fn:=Mini.Vl.Lib.zaj
noncomputable abbrev d6:Dfn:=⟨"are_among",top 11,["row", "numbers"],["row", "numbers"],f6, "are_among"⟩
noncomputable def f7:Fn:=Mini.Vl.Lib.gk 5 6
noncomputable abbrev d7:Dfn:=⟨"is_grid_of",top 12,["thing", "rows", "columns", "numbers"],["thing", "rows", "columns", "numbers"],f7, "is_grid_of"⟩
noncomputable def f8:Fn:=⟨1,4,(.seq (.asg 1 (.bin .mul (.lst (.pair (.lit (.int 0)) .unit)) (.blt .len (.pair (.var 0) .unit)))) (.seq (.asg 2 (.lst (.pair (.var 1) .unit))) (.seq (.forv 3 (.var 0) (.seq (.asg 1 (.compP .zip (.bin .add (.var 4) (.var 5)) (.var 1) (.var 3) (.lit (.bl true)))) (.expr (.meth .append (.var 2) (.pair (.var 1) .unit))))) (.ret (.var 2)))))⟩
noncomputable abbrev d8:Dfn:=⟨"column_sums",top 14,["state", "sums", "told", "row"],["state"],f8, "column_sums"⟩
noncomputable def f9:Fn:=⟨1,1,(.ret (.compP .enum (.var 1) (.var 0) (.lit (.int 0)) (.cmp .eq (.var 2) (.lit (.int 1)))))⟩
noncomputable abbrev d9:Dfn:=⟨"filled_columns",top 16,["sums"],["sums"],f9, "filled_columns"⟩
noncomputable def f10:Fn:=⟨1,1,(.ret (.comp (.call 9 (.pair (.var 1) .unit)) (.slL (.call 8 (.pair (.var 0) .unit)) (.lit (.int 1))) (.lit (.bl true))))⟩
noncomputable abbrev d10:Dfn:=⟨"triangle_of",top 17,["state"],["state"],f10, "triangle_of"⟩
noncomputable def f11:Fn:=⟨1,1,(.seq (.ite (.or (.not (.isi .list (.var 0))) (.not (.call 2 (.pair (.blt .len (.pair (.var 0) .unit)) .unit)))) (.ret (.lit (.bl false))) .skip) (.ret (.blt .all (.pair (.compP .enum (.call 4 (.pair (.var 2) (.pair (.var 1) (.pair (.blt .len (.pair (.var 0) .unit)) .unit)))) (.var 0) (.lit (.int 1)) (.lit (.bl true))) .unit))))⟩
noncomputable abbrev d11:Dfn:=⟨"is_column_triangle",top 18,["thing"],["thing"],f11, "is_column_triangle"⟩
noncomputable def f12:Fn:=⟨3,5,(.seq (.asg 3 (.idx (.var 0) (.bin .sub (.var 1) (.lit (.int 1))))) (.seq (.ite (.and (.cmp .gt (.var 2) (.lit (.int 0))) (.cmp .le (.idx (.var 3) (.var 2)) (.idx (.var 3) (.bin .sub (.var 2) (.lit (.int 1)))))) (.ret (.lit (.bl true))) .skip) (.seq (.ite (.cmp .eq (.var 1) (.blt .len (.pair (.var 0) .unit))) (.ret (.lit (.bl false))) .skip) (.seq (.asg 4 (.idx (.var 0) (.var 1))) (.ret (.or (.cmp .lt (.idx (.var 3) (.var 2)) (.idx (.var 4) (.var 2))) (.cmp .gt (.idx (.var 3) (.var 2)) (.idx (.var 4) (.bin .add (.var 2) (.lit (.int 1)))))))))))⟩
noncomputable abbrev d12:Dfn:=⟨"is_faulty_spot",top 19,["triangle", "k", "m", "row", "behind"],["triangle", "k", "m"],f12, "is_faulty_spot"⟩
noncomputable def f13:Fn:=⟨1,3,(.seq (.forv 1 (.rng (.lit (.int 1)) (.bin .add (.blt .len (.pair (.var 0) .unit)) (.lit (.int 1))) (.lit (.int 1))) (.forv 2 (.rng (.lit (.int 0)) (.var 1) (.lit (.int 1))) (.ite (.call 12 (.pair (.var 0) (.pair (.var 1) (.pair (.var 2) .unit)))) (.ret (.tup (.pair (.var 1) (.pair (.var 2) .unit)))) .skip))) (.ret (.lit .non)))⟩
noncomputable abbrev d13:Dfn:=⟨"first_faulty_spot",top 20,["triangle", "k", "m"],["triangle"],f13, "first_faulty_spot"⟩
noncomputable def f14:Fn:=⟨2,2,(.ret (.comp (.ife (.cmp .isin (.var 2) (.var 0)) (.lit (.int 1)) (.lit (.int 0))) (.rng (.lit (.int 0)) (.var 1) (.lit (.int 1))) (.lit (.bl true))))⟩
noncomputable abbrev d14:Dfn:=⟨"column_marks",top 21,["row", "n"],["row", "n"],f14, "column_marks"⟩
noncomputable def f15:Fn:=⟨1,6,(.seq (.asg 1 (.blt .len (.pair (.var 0) .unit))) (.seq (.asg 2 (.lst .unit)) (.seq (.asg 3 (.bin .mul (.lst (.pair (.lit (.int 0)) .unit)) (.var 1))) (.seq (.forv 4 (.var 0) (.seq (.asg 5 (.call 14 (.pair (.var 4) (.pair (.var 1) .unit)))) (.seq (.expr (.meth .append (.var 2) (.pair (.compP .zip (.bin .sub (.var 6) (.var 7)) (.var 5) (.var 3) (.lit (.bl true))) .unit))) (.asg 3 (.var 5))))) (.ret (.var 2))))))⟩
noncomputable abbrev d15:Dfn:=⟨"signs_of_rows",top 22,["triangle", "n", "state", "before", "row", "marks"],["triangle"],f15, "signs_of_rows"⟩
noncomputable def f16:Fn:=⟨1,2,(.seq (.ite (.not (.call 11 (.pair (.var 0) .unit))) .never .skip) (.seq (.asg 1 (.call 13 (.pair (.var 0) .unit))) (.seq (.ite (.cmp .notN (.var 1) (.lit .non)) .never .skip) (.ret (.call 15 (.pair (.var 0) .unit))))))⟩
noncomputable abbrev d16:Dfn:=⟨"state_of_triangle",top 23,["thing", "spot"],["thing"],f16, "state_of_triangle"⟩
noncomputable def f17:Fn:=⟨1,4,(.seq (.asg 1 (.lit (.int 0))) (.seq (.asg 2 (.lst (.pair (.lit (.int 1)) .unit))) (.seq (.forv 3 (.var 0) (.seq (.aug 1 .add (.var 3)) (.expr (.meth .append (.var 2) (.pair (.bin .sub (.lit (.int 1)) (.bin .mul (.lit (.int 2)) (.var 1))) .unit))))) (.ret (.var 2)))))⟩
noncomputable abbrev d17:Dfn:=⟨"across_row",top 25,["row", "total", "told", "sign"],["row"],f17, "across_row"⟩
noncomputable def f18:Fn:=⟨1,1,(.ret (.comp (.bin .sub (.bin .mul (.lit (.int 2)) (.var 1)) (.lit (.int 1))) (.var 0) (.lit (.bl true))))⟩
noncomputable abbrev d18:Dfn:=⟨"down_row",top 26,["sums"],["sums"],f18, "down_row"⟩
noncomputable def f19:Fn:=⟨1,3,(.seq (.asg 1 (.comp (.call 17 (.pair (.var 3) .unit)) (.var 0) (.lit (.bl true)))) (.seq (.asg 2 (.comp (.call 18 (.pair (.var 3) .unit)) (.call 8 (.pair (.var 0) .unit)) (.lit (.bl true)))) (.ret (.tup (.pair (.var 1) (.pair (.var 2) .unit))))))⟩
noncomputable abbrev d19:Dfn:=⟨"arrows_of",top 27,["state", "across", "down"],["state"],f19, "arrows_of"⟩
noncomputable def f20:Fn:=Mini.Vl.Lib.gl 2 7
noncomputable abbrev d20:Dfn:=⟨"is_side_pair",top 28,["thing", "numbers", "across", "n"],["thing", "numbers"],f20, "is_side_pair"⟩
noncomputable def f21:Fn:=Mini.Vl.Lib.zhz
noncomputable abbrev d21:Dfn:=⟨"is_faulty_place",top 29,["across", "down", "r", "c", "left", "right", "above", "below", "last"],["across", "down", "r", "c"],f21, "is_faulty_place"⟩
noncomputable def f22:Fn:=Mini.Vl.Lib.zhA 21
noncomputable abbrev d22:Dfn:=⟨"first_faulty_place",top 30,["across", "down", "r", "c"],["across", "down"],f22, "first_faulty_place"⟩
noncomputable def f23:Fn:=Mini.Vl.Lib.zam
noncomputable abbrev d23:Dfn:=⟨"signs_of_row_arrows",top 31,["row"],["row"],f23, "signs_of_row"⟩
noncomputable def f24:Fn:=Mini.Vl.Lib.zhB 20 22 23
noncomputable abbrev d24:Dfn:=⟨"state_of_arrows",top 33,["thing", "spot"],["thing"],f24, "state_of_arrows"⟩
noncomputable def f25:Fn:=⟨2,4,(.seq (.asg 2 (.lst (.pair (.var 0) .unit))) (.seq (.forv 3 (.var 1) (.expr (.meth .append (.var 2) (.pair (.bin .sub (.bin .add (.idx (.var 2) (.neg (.lit (.int 1)))) (.lit (.int 1))) (.bin .mul (.lit (.int 2)) (.var 3))) .unit)))) (.ret (.var 2))))⟩
noncomputable abbrev d25:Dfn:=⟨"height_row",top 35,["i", "sums", "row", "total"],["i", "sums"],f25, "height_row"⟩
noncomputable def f26:Fn:=⟨1,1,(.ret (.compP .enum (.call 25 (.pair (.var 1) (.pair (.var 2) .unit))) (.call 8 (.pair (.var 0) .unit)) (.lit (.int 0)) (.lit (.bl true))))⟩
noncomputable abbrev d26:Dfn:=⟨"heights_of",top 36,["state"],["state"],f26, "heights_of"⟩
noncomputable def f27:Fn:=⟨1,1,(.seq (.ite (.or (.not (.isi .list (.var 0))) (.not (.call 2 (.pair (.bin .sub (.blt .len (.pair (.var 0) .unit)) (.lit (.int 1))) .unit)))) (.ret (.lit (.bl false))) .skip) (.ret (.call 5 (.pair (.var 0) (.pair (.blt .len (.pair (.var 0) .unit)) (.pair (.blt .len (.pair (.var 0) .unit)) .unit))))))⟩
noncomputable abbrev d27:Dfn:=⟨"is_height_table",top 37,["thing"],["thing"],f27, "is_height_table"⟩
noncomputable def f28:Fn:=⟨3,3,(.seq (.ite (.or (.cmp .eq (.var 1) (.lit (.int 0))) (.cmp .eq (.var 2) (.lit (.int 0)))) (.ret (.bin .add (.var 1) (.var 2))) .skip) (.seq (.ite (.or (.cmp .eq (.var 1) (.var 0)) (.cmp .eq (.var 2) (.var 0))) (.ret (.bin .sub (.bin .sub (.bin .mul (.lit (.int 2)) (.var 0)) (.var 1)) (.var 2))) .skip) (.ret (.lit .non))))⟩
noncomputable abbrev d28:Dfn:=⟨"rim_height",top 38,["n", "i", "j"],["n", "i", "j"],f28, "rim_height"⟩
noncomputable def f29:Fn:=⟨3,5,(.seq (.asg 3 (.idx (.idx (.var 0) (.var 1)) (.var 2))) (.seq (.asg 4 (.call 28 (.pair (.bin .sub (.blt .len (.pair (.var 0) .unit)) (.lit (.int 1))) (.pair (.var 1) (.pair (.var 2) .unit))))) (.seq (.ite (.and (.cmp .notN (.var 4) (.lit .non)) (.cmp .ne (.var 3) (.var 4))) (.ret (.lit (.bl true))) .skip) (.seq (.ite (.and (.cmp .gt (.var 1) (.lit (.int 0))) (.cmp .ne (.blt .abs (.pair (.bin .sub (.var 3) (.idx (.idx (.var 0) (.bin .sub (.var 1) (.lit (.int 1)))) (.var 2))) .unit)) (.lit (.int 1)))) (.ret (.lit (.bl true))) .skip) (.ret (.and (.cmp .gt (.var 2) (.lit (.int 0))) (.cmp .ne (.blt .abs (.pair (.bin .sub (.var 3) (.idx (.idx (.var 0) (.var 1)) (.bin .sub (.var 2) (.lit (.int 1))))) .unit)) (.lit (.int 1)))))))))⟩
noncomputable abbrev d29:Dfn:=⟨"is_faulty_point",top 39,["table", "i", "j", "height", "due"],["table", "i", "j"],f29, "is_faulty_point"⟩
noncomputable def f30:Fn:=⟨1,3,(.seq (.forv 1 (.rng (.lit (.int 0)) (.blt .len (.pair (.var 0) .unit)) (.lit (.int 1))) (.forv 2 (.rng (.lit (.int 0)) (.blt .len (.pair (.var 0) .unit)) (.lit (.int 1))) (.ite (.call 29 (.pair (.var 0) (.pair (.var 1) (.pair (.var 2) .unit)))) (.ret (.tup (.pair (.var 1) (.pair (.var 2) .unit)))) .skip))) (.ret (.lit .non)))⟩
noncomputable abbrev d30:Dfn:=⟨"first_faulty_point",top 40,["table", "i", "j"],["table"],f30, "first_faulty_point"⟩
noncomputable def f31:Fn:=⟨3,3,(.ret (.bin .fdiv (.bin .sub (.bin .sub (.bin .add (.idx (.idx (.var 0) (.var 1)) (.bin .add (.var 2) (.lit (.int 1)))) (.idx (.idx (.var 0) (.bin .add (.var 1) (.lit (.int 1)))) (.var 2))) (.idx (.idx (.var 0) (.var 1)) (.var 2))) (.idx (.idx (.var 0) (.bin .add (.var 1) (.lit (.int 1)))) (.bin .add (.var 2) (.lit (.int 1))))) (.lit (.int 2))))⟩
noncomputable abbrev d31:Dfn:=⟨"sign_amid",top 41,["table", "r", "c"],["table", "r", "c"],f31, "sign_amid"⟩
noncomputable def f32:Fn:=⟨2,2,(.ret (.comp (.call 31 (.pair (.var 0) (.pair (.var 1) (.pair (.var 2) .unit)))) (.rng (.lit (.int 0)) (.bin .sub (.blt .len (.pair (.var 0) .unit)) (.lit (.int 1))) (.lit (.int 1))) (.lit (.bl true))))⟩
noncomputable abbrev d32:Dfn:=⟨"signs_of_row_heights",top 42,["table", "r"],["table", "r"],f32, "signs_of_row"⟩
noncomputable def f33:Fn:=⟨1,1,(.ret (.comp (.call 32 (.pair (.var 0) (.pair (.var 1) .unit))) (.rng (.lit (.int 0)) (.bin .sub (.blt .len (.pair (.var 0) .unit)) (.lit (.int 1))) (.lit (.int 1))) (.lit (.bl true))))⟩
noncomputable abbrev d33:Dfn:=⟨"signs_of_heights",top 44,["table"],["table"],f33, "signs_of_heights"⟩
noncomputable def f34:Fn:=⟨1,2,(.seq (.ite (.not (.call 27 (.pair (.var 0) .unit))) .never .skip) (.seq (.asg 1 (.call 30 (.pair (.var 0) .unit))) (.seq (.ite (.cmp .notN (.var 1) (.lit .non)) .never .skip) (.ret (.call 33 (.pair (.var 0) .unit))))))⟩
noncomputable abbrev d34:Dfn:=⟨"state_of_heights",top 45,["thing", "spot"],["thing"],f34, "state_of_heights"⟩
noncomputable def f35:Fn:=Mini.Vl.Lib.zfx
noncomputable abbrev d35:Dfn:=⟨"is_odd",top 47,["number"],["number"],f35, "is_odd"⟩
noncomputable def f36:Fn:=⟨2,2,(.ret (.compP .enum (.ife (.cmp .eq (.cmp .eq (.var 3) (.lit (.int 1))) (.call 35 (.pair (.bin .add (.var 0) (.var 2)) .unit))) (.lit (.int 1)) (.lit (.int 0))) (.var 1) (.lit (.int 0)) (.lit (.bl true))))⟩
noncomputable abbrev d36:Dfn:=⟨"walked_row",top 48,["i", "row"],["i", "row"],f36, "walked_row"⟩
noncomputable def f37:Fn:=Mini.Vl.Lib.zd1 35
noncomputable abbrev d37:Dfn:=⟨"arrow_row",top 49,["i", "row"],["i", "row"],f37, "arrow_row"⟩
noncomputable def f38:Fn:=⟨1,1,(.ret (.compP .enum (.call 36 (.pair (.var 1) (.pair (.var 2) .unit))) (.var 0) (.lit (.int 0)) (.lit (.bl true))))⟩
noncomputable abbrev d38:Dfn:=⟨"walked_grid",top 50,["grid"],["grid"],f38, "walked_grid"⟩
noncomputable def f39:Fn:=Mini.Vl.Lib.ja 37
noncomputable abbrev d39:Dfn:=⟨"arrow_grid",top 51,["grid"],["grid"],f39, "arrow_grid"⟩
noncomputable def f40:Fn:=⟨1,2,(.seq (.asg 1 (.call 19 (.pair (.var 0) .unit))) (.ret (.tup (.pair (.call 38 (.pair (.idx (.var 1) (.lit (.int 0))) .unit)) (.pair (.call 38 (.pair (.idx (.var 1) (.lit (.int 1))) .unit)) .unit)))))⟩
noncomputable abbrev d40:Dfn:=⟨"sides_of",top 52,["state", "pair"],["state"],f40, "sides_of"⟩
noncomputable def f41:Fn:=Mini.Vl.Lib.zhC 20 39 24
noncomputable abbrev d41:Dfn:=⟨"state_of_sides",top 53,["thing"],["thing"],f41, "state_of_sides"⟩
noncomputable def f42:Fn:=Mini.Vl.Lib.qf
noncomputable abbrev d42:Dfn:=⟨"_law_cell_at",top 55,["_law_script", "_law_k"],["_law_script", "_law_k"],f42, "_law_cell_at"⟩
noncomputable def f43:Fn:=Mini.Vl.Lib.zht
noncomputable abbrev d43:Dfn:=⟨"_law_numbers",top 56,["_law_cell", "_law_many", "_law_found", "_law_rest", "_law_k", "_law_one"],["_law_cell", "_law_many"],f43, "_law_numbers"⟩
noncomputable def f44:Fn:=Mini.Vl.Lib.wK
noncomputable abbrev d44:Dfn:=⟨"_law_size_by",top 57,["_law_cell"],["_law_cell"],f44, "_law_size_by"⟩
noncomputable def f45:Fn:=Mini.Vl.Lib.zdU 43
noncomputable abbrev d45:Dfn:=⟨"_law_triangle_by",top 58,["_law_cell", "_law_n", "_law_xs", "_law_found", "_law_last", "_law_line", "_law_k", "_law_low"],["_law_cell", "_law_n"],f45, "_law_triangle_by"⟩
noncomputable def f46:Fn:=Mini.Vl.Lib.k9
noncomputable abbrev d46:Dfn:=⟨"_law_state_by",top 59,["_law_triangle", "_law_found", "_law_k", "_law_ahead"],["_law_triangle"],f46, "_law_state_by"⟩
noncomputable def f47:Fn:=Mini.Vl.Lib.zhw
noncomputable abbrev d47:Dfn:=⟨"_law_arrows_by",top 60,["_law_state", "_law_n", "_law_across", "_law_down", "_law_i"],["_law_state"],f47, "_law_arrows_by"⟩
noncomputable def f48:Fn:=Mini.Vl.Lib.zan 47
noncomputable abbrev d48:Dfn:=⟨"_law_sides_by",top 61,["_law_state", "_law_across", "_law_down", "_law_found", "_law_lines", "_law_made", "_law_i", "_law_line"],["_law_state"],f48, "_law_sides_by"⟩
noncomputable def f49:Fn:=Mini.Vl.Lib.fHB
noncomputable abbrev d49:Dfn:=⟨"_law_heights_by",top 62,["_law_state", "_law_n", "_law_found", "_law_i"],["_law_state"],f49, "_law_heights_by"⟩
noncomputable def f50:Fn:=⟨2,2,(.seq (.ite (.cmp .eq (.var 0) (.lit (.int 0))) (.ret (.call 26 (.pair (.var 1) .unit))) .skip) (.seq (.ite (.cmp .eq (.var 0) (.lit (.int 1))) (.ret (.call 19 (.pair (.var 1) .unit))) .skip) (.seq (.ite (.cmp .eq (.var 0) (.lit (.int 2))) (.ret (.call 40 (.pair (.var 1) .unit))) .skip) (.ret (.call 10 (.pair (.var 1) .unit))))))⟩
noncomputable abbrev d50:Dfn:=⟨"_law_form",top 63,["_law_kind", "_law_state"],["_law_kind", "_law_state"],f50, "_law_form"⟩
noncomputable def f51:Fn:=⟨2,2,(.seq (.ite (.cmp .eq (.var 0) (.lit (.int 0))) (.ret (.call 34 (.pair (.var 1) .unit))) .skip) (.seq (.ite (.cmp .eq (.var 0) (.lit (.int 1))) (.ret (.call 24 (.pair (.var 1) .unit))) .skip) (.seq (.ite (.cmp .eq (.var 0) (.lit (.int 2))) (.ret (.call 41 (.pair (.var 1) .unit))) .skip) (.ret (.call 16 (.pair (.var 1) .unit))))))⟩
noncomputable abbrev d51:Dfn:=⟨"_law_back",top 64,["_law_kind", "_law_thing"],["_law_kind", "_law_thing"],f51, "_law_back"⟩
noncomputable def f52:Fn:=⟨1,10,(.seq (.asg 1 (.call 44 (.pair (.call 42 (.pair (.var 0) (.pair (.lit (.int 0)) .unit))) .unit))) (.seq (.asg 2 (.call 45 (.pair (.call 42 (.pair (.var 0) (.pair (.lit (.int 1)) .unit))) (.pair (.var 1) .unit)))) (.seq (.asg 3 (.call 46 (.pair (.var 2) .unit))) (.seq (.asg 4 (.comp (.blt .list (.pair (.var 10) .unit)) (.var 3) (.lit (.bl true)))) (.seq (.asg 5 (.lst (.pair (.call 49 (.pair (.var 3) .unit)) (.pair (.call 47 (.pair (.var 3) .unit)) (.pair (.call 48 (.pair (.var 3) .unit)) (.pair (.var 2) .unit)))))) (.seq (.forv 6 (.rng (.lit (.int 0)) (.lit (.int 4)) (.lit (.int 1))) (.ite (.or (.cmp .ne (.call 50 (.pair (.var 6) (.pair (.var 3) .unit))) (.idx (.var 5) (.var 6))) (.cmp .ne (.call 51 (.pair (.var 6) (.pair (.idx (.var 5) (.var 6)) .unit))) (.var 4))) (.ret (.lit (.bl false))) .skip)) (.seq (.asg 7 (.comp (.blt .list (.pair (.var 10) .unit)) (.var 3) (.lit (.bl true)))) (.seq (.forv 8 (.bin .add (.lst (.pair (.call 42 (.pair (.var 0) (.pair (.lit (.int 2)) .unit))) .unit)) (.slB (.var 0) (.lit (.int 3)) (.lit (.int 14)))) (.seq (.asg 9 (.call 50 (.pair (.bin .mod (.var 8) (.lit (.int 4))) (.pair (.var 7) .unit)))) (.seq (.ite (.cmp .ne (.var 9) (.idx (.var 5) (.bin .mod (.var 8) (.lit (.int 4))))) (.ret (.lit (.bl false))) .skip) (.seq (.asg 7 (.call 51 (.pair (.bin .mod (.var 8) (.lit (.int 4))) (.pair (.var 9) .unit)))) (.ite (.cmp .ne (.var 7) (.var 4)) (.ret (.lit (.bl false))) .skip))))) (.ret (.cmp .eq (.var 3) (.var 4)))))))))))⟩
noncomputable abbrev d52:Dfn:=⟨"law",top 65,["_law_script", "_law_n", "_law_triangle", "_law_state", "_law_kept", "_law_due", "_law_kind", "_law_here", "_law_cell", "_law_told"],["_law_script"],f52, "law"⟩
noncomputable def D:List Dfn:=[d0,d1,d2,d3,d4,d5,d6,d7,d8,d9,d10,d11,d12,d13,d14,d15,d16,d17,d18,d19,d20,d21,d22,d23,d24,d25,d26,d27,d28,d29,d30,d31,d32,d33,d34,d35,d36,d37,d38,d39,d40,d41,d42,d43,d44,d45,d46,d47,d48,d49,d50,d51,d52]
noncomputable def C:Mini.Ctx:=⟨(("is_whole" : Str)::("is_size_to" : Str)::("is_size" : Str)::("is_number_row" : Str)::("is_row_below" : Str)::("is_number_grid" : Str)::("are_among" : Str)::("is_grid_of" : Str)::("column_sums" : Str)::("filled_columns" : Str)::("triangle_of" : Str)::("is_column_triangle" : Str)::("is_faulty_spot" : Str)::("first_faulty_spot" : Str)::("column_marks" : Str)::("signs_of_rows" : Str)::("state_of_triangle" : Str)::("across_row" : Str)::("down_row" : Str)::("arrows_of" : Str)::("is_side_pair" : Str)::("is_faulty_place" : Str)::("first_faulty_place" : Str)::("signs_of_row_arrows" : Str)::("state_of_arrows" : Str)::("height_row" : Str)::("heights_of" : Str)::("is_height_table" : Str)::("rim_height" : Str)::("is_faulty_point" : Str)::("first_faulty_point" : Str)::("sign_amid" : Str)::("signs_of_row_heights" : Str)::("signs_of_heights" : Str)::("state_of_heights" : Str)::("is_odd" : Str)::("walked_row" : Str)::("arrow_row" : Str)::("walked_grid" : Str)::("arrow_grid" : Str)::("sides_of" : Str)::("state_of_sides" : Str)::("_law_cell_at" : Str)::("_law_numbers" : Str)::("_law_size_by" : Str)::("_law_triangle_by" : Str)::("_law_state_by" : Str)::("_law_arrows_by" : Str)::("_law_sides_by" : Str)::("_law_heights_by" : Str)::("_law_form" : Str)::("_law_back" : Str)::("law" : Str)::[]),[("GREATEST_SIZE",12)],[]⟩
theorem ok0:OkD C d0:=⟨by decide +kernel,rfl,rfl,(.one (.ret rfl (.and2 rfl rfl (.isi (by kernel_rfl) (by kernel_rfl) rfl rfl .v) rfl rfl (.not rfl rfl (.isi (by kernel_rfl) (by kernel_rfl) rfl rfl .v)))))⟩
theorem ok1:OkD C d1:=⟨by decide +kernel,rfl,rfl,(.one (.ret rfl (.and2 rfl rfl (.c (.p .v .unit)) rfl rfl (.chain rfl rfl .int rfl .v rfl .v))))⟩
theorem ok2:OkD C d2:=⟨by decide +kernel,rfl,rfl,(.one (.ret rfl (.c (.p .v (.p (.con (by kernel_rfl) (by kernel_rfl) (by kernel_rfl)) .unit)))))⟩
theorem ok3:OkD C d3:=⟨by decide +kernel,rfl,rfl,(.one (.ret rfl (.andN rfl rfl (.isi (by kernel_rfl) (by kernel_rfl) rfl rfl .v) rfl (.and2 rfl rfl (.k (.q (.p .v .unit)) rfl .v) rfl rfl (.q (.p (.comp0 rfl (by kernel_rfl) .v rfl (.c (.p .v .unit))) .unit))))))⟩
theorem ok4:OkD C d4:=⟨by decide +kernel,rfl,rfl,(.one (.ret rfl (.and2 rfl rfl (.c (.p .v (.p .v .unit))) rfl rfl (.q (.p (.comp0 rfl (by kernel_rfl) .v rfl (.chain rfl rfl .int rfl .v rfl .v)) .unit)))))⟩
theorem ok5:OkD C d5:=⟨by decide +kernel,rfl,rfl,(.seq (.ite rfl rfl (.or2 rfl rfl (.not rfl rfl (.isi (by kernel_rfl) (by kernel_rfl) rfl rfl .v)) rfl rfl (.k (.q (.p .v .unit)) rfl .v)) (.one (.ret rfl .bl)) .skip0) (.one (.ret rfl (.q (.p (.comp0 rfl (by kernel_rfl) .v rfl (.c (.p .v (.p .v .unit)))) .unit)))))⟩
theorem ok6:OkD C d6:=⟨by decide +kernel,rfl,rfl,(.one (.ret rfl (.q (.p (.comp0 rfl (by kernel_rfl) .v rfl (.k .v rfl .v)) .unit))))⟩
theorem ok7:OkD C d7:=⟨by decide +kernel,rfl,rfl,(.one (.ret rfl (.and2 rfl rfl (.c (.p .v (.p .v (.p .v .unit)))) rfl rfl (.q (.p (.comp0 rfl (by kernel_rfl) .v rfl (.c (.p .v (.p .v .unit)))) .unit)))))⟩
theorem ok8:OkD C d8:=⟨by decide +kernel,rfl,rfl,(.seq (.s (.bin rfl (.lst (.p .int .unit)) rfl (.q (.p .v .unit)))) (.seq (.s (.lst (.p .v .unit))) (.seq (.forv rfl (by kernel_rfl) rfl .v (.seq (.asgCZ0 rfl (by kernel_rfl) (by kernel_rfl) (by kernel_rfl) rfl rfl rfl .v rfl .v rfl (.bin rfl .v rfl .v)) (.one (.expr rfl rfl (.meth rfl rfl (by decide) rfl rfl .v (.p .v .unit)))))) (.one (.ret rfl .v)))))⟩
theorem ok9:OkD C d9:=⟨by decide +kernel,rfl,rfl,(.one (.ret rfl (.compE1 (by kernel_rfl) (by kernel_rfl) rfl rfl .v rfl rfl (.k .v rfl .int) rfl .v)))⟩
theorem ok10:OkD C d10:=⟨by decide +kernel,rfl,rfl,(.one (.ret rfl (.comp0 rfl (by kernel_rfl) (.slL rfl (.c (.p .v .unit)) rfl .int) rfl (.c (.p .v .unit)))))⟩
theorem ok11:OkD C d11:=⟨by decide +kernel,rfl,rfl,(.seq (.ite rfl rfl (.or2 rfl rfl (.not rfl rfl (.isi (by kernel_rfl) (by kernel_rfl) rfl rfl .v)) rfl rfl (.not rfl rfl (.c (.p (.q (.p .v .unit)) .unit)))) (.one (.ret rfl .bl)) .skip0) (.one (.ret rfl (.q (.p (.compES (by kernel_rfl) (by kernel_rfl) rfl rfl .v rfl (.c (.p .v (.p .v (.p (.q (.p .v .unit)) .unit))))) .unit)))))⟩
theorem ok12:OkD C d12:=⟨by decide +kernel,rfl,rfl,(.seq (.s (.x .v rfl (.bin rfl .v rfl .int))) (.seq (.ite rfl rfl (.and2 rfl rfl (.k .v rfl .int) rfl rfl (.k (.x .v rfl .v) rfl (.x .v rfl (.bin rfl .v rfl .int)))) (.one (.ret rfl .bl)) .skip0) (.seq (.ite rfl rfl (.k .v rfl (.q (.p .v .unit))) (.one (.ret rfl .bl)) .skip0) (.seq (.s (.x .v rfl .v)) (.one (.ret rfl (.or2 rfl rfl (.k (.x .v rfl .v) rfl (.x .v rfl .v)) rfl rfl (.k (.x .v rfl .v) rfl (.x .v rfl (.bin rfl .v rfl .int))))))))))⟩
theorem ok13:OkD C d13:=⟨by decide +kernel,rfl,rfl,(.seq (.forv rfl (by kernel_rfl) rfl (.rng2 (by kernel_rfl) rfl rfl rfl .int rfl (.bin rfl (.q (.p .v .unit)) rfl .int)) (.one (.forv rfl (by kernel_rfl) rfl (.rng1 (by kernel_rfl) rfl rfl .v) (.one (.ite rfl rfl (.c (.p .v (.p .v (.p .v .unit)))) (.one (.ret rfl (.tup (.p .v (.p .v .unit))))) .skip0))))) (.one (.ret rfl .non)))⟩
theorem ok14:OkD C d14:=⟨by decide +kernel,rfl,rfl,(.one (.ret rfl (.comp0 rfl (by kernel_rfl) (.rng1 (by kernel_rfl) rfl rfl .v) rfl (.ife rfl rfl (.k .v rfl .v) rfl .int rfl .int))))⟩
theorem ok15:OkD C d15:=⟨by decide +kernel,rfl,rfl,(.seq (.s (.q (.p .v .unit))) (.seq (.s (.lst .unit)) (.seq (.s (.bin rfl (.lst (.p .int .unit)) rfl .v)) (.seq (.forv rfl (by kernel_rfl) rfl .v (.seq (.s (.c (.p .v (.p .v .unit)))) (.seq (.expr rfl rfl (.meth rfl rfl (by decide) rfl rfl .v (.p (.compZ0 (by kernel_rfl) (by kernel_rfl) rfl rfl rfl .v rfl .v rfl (.bin rfl .v rfl .v)) .unit))) (.one (.s .v))))) (.one (.ret rfl .v))))))⟩
theorem ok16:OkD C d16:=⟨by decide +kernel,rfl,rfl,(.seq (.ite rfl rfl (.not rfl rfl (.c (.p .v .unit))) (.one .never) .skip0) (.seq (.s (.c (.p .v .unit))) (.seq (.ite rfl rfl (.k .v rfl .non) (.one .never) .skip0) (.one (.ret rfl (.c (.p .v .unit)))))))⟩
theorem ok17:OkD C d17:=⟨by decide +kernel,rfl,rfl,(.seq (.s .int) (.seq (.s (.lst (.p .int .unit))) (.seq (.forv rfl (by kernel_rfl) rfl .v (.seq (.aug rfl (by kernel_rfl) rfl rfl .v) (.one (.expr rfl rfl (.meth rfl rfl (by decide) rfl rfl .v (.p (.bin rfl .int rfl (.bin rfl .int rfl .v)) .unit)))))) (.one (.ret rfl .v)))))⟩
theorem ok18:OkD C d18:=⟨by decide +kernel,rfl,rfl,(.one (.ret rfl (.comp0 rfl (by kernel_rfl) .v rfl (.bin rfl (.bin rfl .int rfl .v) rfl .int))))⟩
theorem ok19:OkD C d19:=⟨by decide +kernel,rfl,rfl,(.seq (.asgC0 rfl (by kernel_rfl) rfl (by kernel_rfl) .v rfl (.c (.p .v .unit))) (.seq (.asgC0 rfl (by kernel_rfl) rfl (by kernel_rfl) (.c (.p .v .unit)) rfl (.c (.p .v .unit))) (.one (.ret rfl (.tup (.p .v (.p .v .unit)))))))⟩
theorem ok20:OkD C d20:=⟨by decide +kernel,rfl,rfl,(.seq (.ite rfl rfl (.or2 rfl rfl (.not rfl rfl (.isi (by kernel_rfl) (by kernel_rfl) rfl rfl .v)) rfl rfl (.k (.q (.p .v .unit)) rfl .int)) (.one (.ret rfl .bl)) .skip0) (.seq (.s (.x .v rfl .int)) (.seq (.ite rfl rfl (.or2 rfl rfl (.not rfl rfl (.isi (by kernel_rfl) (by kernel_rfl) rfl rfl .v)) rfl rfl (.not rfl rfl (.c (.p (.q (.p .v .unit)) .unit)))) (.one (.ret rfl .bl)) .skip0) (.seq (.s (.q (.p .v .unit))) (.one (.ret rfl (.and2 rfl rfl (.c (.p .v (.p .v (.p (.bin rfl .v rfl .int) (.p .v .unit))))) rfl rfl (.c (.p (.x .v rfl .int) (.p (.bin rfl .v rfl .int) (.p .v (.p .v .unit))))))))))))⟩
theorem ok21:OkD C d21:=⟨by decide +kernel,rfl,rfl,(.seq (.s (.x (.x .v rfl .v) rfl .v)) (.seq (.s (.neg rfl (.x (.x .v rfl .v) rfl (.bin rfl .v rfl .int)))) (.seq (.s (.x (.x .v rfl .v) rfl .v)) (.seq (.s (.neg rfl (.x (.x .v rfl (.bin rfl .v rfl .int)) rfl .v))) (.seq (.s (.bin rfl (.q (.p .v .unit)) rfl .int)) (.seq (.ite rfl rfl (.k (.bin rfl (.bin rfl (.bin rfl .v rfl .v) rfl .v) rfl .v) rfl .int) (.one (.ret rfl .bl)) .skip0) (.seq (.ite rfl rfl (.or2 rfl rfl (.and2 rfl rfl (.k .v rfl .int) rfl rfl (.k .v rfl (.neg rfl .int))) rfl rfl (.and2 rfl rfl (.k .v rfl .v) rfl rfl (.k .v rfl (.neg rfl .int)))) (.one (.ret rfl .bl)) .skip0) (.one (.ret rfl (.or2 rfl rfl (.and2 rfl rfl (.k .v rfl .int) rfl rfl (.k .v rfl .int)) rfl rfl (.and2 rfl rfl (.k .v rfl .v) rfl rfl (.k .v rfl .int))))))))))))⟩
theorem ok22:OkD C d22:=⟨by decide +kernel,rfl,rfl,(.seq (.forv rfl (by kernel_rfl) rfl (.rng1 (by kernel_rfl) rfl rfl (.q (.p .v .unit))) (.one (.forv rfl (by kernel_rfl) rfl (.rng1 (by kernel_rfl) rfl rfl (.q (.p .v .unit))) (.one (.ite rfl rfl (.c (.p .v (.p .v (.p .v (.p .v .unit))))) (.one (.ret rfl (.tup (.p .v (.p .v .unit))))) .skip0))))) (.one (.ret rfl .non)))⟩
theorem ok23:OkD C d23:=⟨by decide +kernel,rfl,rfl,(.one (.ret rfl (.comp0 rfl (by kernel_rfl) (.rng1 (by kernel_rfl) rfl rfl (.bin rfl (.q (.p .v .unit)) rfl .int)) rfl (.bin rfl (.bin rfl (.x .v rfl .v) rfl (.x .v rfl (.bin rfl .v rfl .int))) rfl .int))))⟩
theorem ok24:OkD C d24:=⟨by decide +kernel,rfl,rfl,(.seq (.ite rfl rfl (.not rfl rfl (.c (.p .v (.p (.tup (.p .int (.p (.neg rfl .int) .unit))) .unit)))) (.one .never) .skip0) (.seq (.s (.c (.p (.x .v rfl .int) (.p (.x .v rfl .int) .unit)))) (.seq (.ite rfl rfl (.k .v rfl .non) (.one .never) .skip0) (.one (.ret rfl (.comp0 rfl (by kernel_rfl) (.x .v rfl .int) rfl (.c (.p .v .unit))))))))⟩
theorem ok25:OkD C d25:=⟨by decide +kernel,rfl,rfl,(.seq (.s (.lst (.p .v .unit))) (.seq (.forv rfl (by kernel_rfl) rfl .v (.one (.expr rfl rfl (.meth rfl rfl (by decide) rfl rfl .v (.p (.bin rfl (.bin rfl (.x .v rfl (.neg rfl .int)) rfl .int) rfl (.bin rfl .int rfl .v)) .unit))))) (.one (.ret rfl .v))))⟩
theorem ok26:OkD C d26:=⟨by decide +kernel,rfl,rfl,(.one (.ret rfl (.compE0 (by kernel_rfl) (by kernel_rfl) rfl rfl (.c (.p .v .unit)) rfl (.c (.p .v (.p .v .unit))))))⟩
theorem ok27:OkD C d27:=⟨by decide +kernel,rfl,rfl,(.seq (.ite rfl rfl (.or2 rfl rfl (.not rfl rfl (.isi (by kernel_rfl) (by kernel_rfl) rfl rfl .v)) rfl rfl (.not rfl rfl (.c (.p (.bin rfl (.q (.p .v .unit)) rfl .int) .unit)))) (.one (.ret rfl .bl)) .skip0) (.one (.ret rfl (.c (.p .v (.p (.q (.p .v .unit)) (.p (.q (.p .v .unit)) .unit)))))))⟩
theorem ok28:OkD C d28:=⟨by decide +kernel,rfl,rfl,(.seq (.ite rfl rfl (.or2 rfl rfl (.k .v rfl .int) rfl rfl (.k .v rfl .int)) (.one (.ret rfl (.bin rfl .v rfl .v))) .skip0) (.seq (.ite rfl rfl (.or2 rfl rfl (.k .v rfl .v) rfl rfl (.k .v rfl .v)) (.one (.ret rfl (.bin rfl (.bin rfl (.bin rfl .int rfl .v) rfl .v) rfl .v))) .skip0) (.one (.ret rfl .non))))⟩
theorem ok29:OkD C d29:=⟨by decide +kernel,rfl,rfl,(.seq (.s (.x (.x .v rfl .v) rfl .v)) (.seq (.s (.c (.p (.bin rfl (.q (.p .v .unit)) rfl .int) (.p .v (.p .v .unit))))) (.seq (.ite rfl rfl (.and2 rfl rfl (.k .v rfl .non) rfl rfl (.k .v rfl .v)) (.one (.ret rfl .bl)) .skip0) (.seq (.ite rfl rfl (.and2 rfl rfl (.k .v rfl .int) rfl rfl (.k (.q (.p (.bin rfl .v rfl (.x (.x .v rfl (.bin rfl .v rfl .int)) rfl .v)) .unit)) rfl .int)) (.one (.ret rfl .bl)) .skip0) (.one (.ret rfl (.and2 rfl rfl (.k .v rfl .int) rfl rfl (.k (.q (.p (.bin rfl .v rfl (.x (.x .v rfl .v) rfl (.bin rfl .v rfl .int))) .unit)) rfl .int))))))))⟩
theorem ok30:OkD C d30:=⟨by decide +kernel,rfl,rfl,(.seq (.forv rfl (by kernel_rfl) rfl (.rng1 (by kernel_rfl) rfl rfl (.q (.p .v .unit))) (.one (.forv rfl (by kernel_rfl) rfl (.rng1 (by kernel_rfl) rfl rfl (.q (.p .v .unit))) (.one (.ite rfl rfl (.c (.p .v (.p .v (.p .v .unit)))) (.one (.ret rfl (.tup (.p .v (.p .v .unit))))) .skip0))))) (.one (.ret rfl .non)))⟩
theorem ok31:OkD C d31:=⟨by decide +kernel,rfl,rfl,(.one (.ret rfl (.bin rfl (.bin rfl (.bin rfl (.bin rfl (.x (.x .v rfl .v) rfl (.bin rfl .v rfl .int)) rfl (.x (.x .v rfl (.bin rfl .v rfl .int)) rfl .v)) rfl (.x (.x .v rfl .v) rfl .v)) rfl (.x (.x .v rfl (.bin rfl .v rfl .int)) rfl (.bin rfl .v rfl .int))) rfl .int)))⟩
theorem ok32:OkD C d32:=⟨by decide +kernel,rfl,rfl,(.one (.ret rfl (.comp0 rfl (by kernel_rfl) (.rng1 (by kernel_rfl) rfl rfl (.bin rfl (.q (.p .v .unit)) rfl .int)) rfl (.c (.p .v (.p .v (.p .v .unit)))))))⟩
theorem ok33:OkD C d33:=⟨by decide +kernel,rfl,rfl,(.one (.ret rfl (.comp0 rfl (by kernel_rfl) (.rng1 (by kernel_rfl) rfl rfl (.bin rfl (.q (.p .v .unit)) rfl .int)) rfl (.c (.p .v (.p .v .unit))))))⟩
theorem ok34:OkD C d34:=⟨by decide +kernel,rfl,rfl,(.seq (.ite rfl rfl (.not rfl rfl (.c (.p .v .unit))) (.one .never) .skip0) (.seq (.s (.c (.p .v .unit))) (.seq (.ite rfl rfl (.k .v rfl .non) (.one .never) .skip0) (.one (.ret rfl (.c (.p .v .unit)))))))⟩
theorem ok35:OkD C d35:=⟨by decide +kernel,rfl,rfl,(.one (.ret rfl (.k (.bin rfl .v rfl .int) rfl .int)))⟩
theorem ok36:OkD C d36:=⟨by decide +kernel,rfl,rfl,(.one (.ret rfl (.compE0 (by kernel_rfl) (by kernel_rfl) rfl rfl .v rfl (.ife rfl rfl (.k (.k .v rfl .int) rfl (.c (.p (.bin rfl .v rfl .v) .unit))) rfl .int rfl .int))))⟩
theorem ok37:OkD C d37:=⟨by decide +kernel,rfl,rfl,(.one (.ret rfl (.compE0 (by kernel_rfl) (by kernel_rfl) rfl rfl .v rfl (.ife rfl rfl (.k (.k .v rfl .int) rfl (.c (.p (.bin rfl .v rfl .v) .unit))) rfl .int rfl (.neg rfl .int)))))⟩
theorem ok38:OkD C d38:=⟨by decide +kernel,rfl,rfl,(.one (.ret rfl (.compE0 (by kernel_rfl) (by kernel_rfl) rfl rfl .v rfl (.c (.p .v (.p .v .unit))))))⟩
theorem ok39:OkD C d39:=⟨by decide +kernel,rfl,rfl,(.one (.ret rfl (.compE0 (by kernel_rfl) (by kernel_rfl) rfl rfl .v rfl (.c (.p .v (.p .v .unit))))))⟩
theorem ok40:OkD C d40:=⟨by decide +kernel,rfl,rfl,(.seq (.s (.c (.p .v .unit))) (.one (.ret rfl (.tup (.p (.c (.p (.x .v rfl .int) .unit)) (.p (.c (.p (.x .v rfl .int) .unit)) .unit))))))⟩
theorem ok41:OkD C d41:=⟨by decide +kernel,rfl,rfl,(.seq (.ite rfl rfl (.not rfl rfl (.c (.p .v (.p (.tup (.p .int (.p .int .unit))) .unit)))) (.one .never) .skip0) (.one (.ret rfl (.c (.p (.tup (.p (.c (.p (.x .v rfl .int) .unit)) (.p (.c (.p (.x .v rfl .int) .unit)) .unit))) .unit)))))⟩
theorem ok42:OkD C d42:=⟨by decide +kernel,rfl,rfl,(.seq (.ite rfl rfl (.k .v rfl (.q (.p .v .unit))) (.one (.ret rfl (.x .v rfl .v))) .skip0) (.one (.ret rfl (.bin rfl (.bin rfl .int rfl .v) rfl .int))))⟩
theorem ok43:OkD C d43:=⟨by decide +kernel,rfl,rfl,(.seq (.s (.lst .unit)) (.seq (.s .v) (.seq (.forv rfl (by kernel_rfl) rfl (.rng1 (by kernel_rfl) rfl rfl .v) (.one (.ite rfl rfl (.k .v rfl (.bin rfl .int rfl .int)) (.seq (.expr rfl rfl (.meth rfl rfl (by decide) rfl rfl .v (.p (.bin rfl .v rfl .int) .unit))) (.one (.s (.bin rfl .v rfl .int)))) (.seq (.s (.bin rfl (.bin rfl (.bin rfl (.bin rfl .v rfl (.bin rfl .int rfl (.bin rfl .int rfl .v))) rfl (.bin rfl .int rfl .v)) rfl .int) rfl .int)) (.one (.expr rfl rfl (.meth rfl rfl (by decide) rfl rfl .v (.p (.bin rfl (.bin rfl .v rfl (.bin rfl (.bin rfl .v rfl .int) rfl (.bin rfl .v rfl .v))) rfl .int) .unit)))))))) (.one (.ret rfl .v)))))⟩
theorem ok44:OkD C d44:=⟨by decide +kernel,rfl,rfl,(.seq (.ite rfl rfl (.k (.bin rfl .v rfl .int) rfl .int) (.one (.ret rfl (.bin rfl .int rfl (.bin rfl (.bin rfl .v rfl .int) rfl .int)))) .skip0) (.one (.ret rfl (.bin rfl .int rfl (.bin rfl (.bin rfl .v rfl .int) rfl .int)))))⟩
theorem ok45:OkD C d45:=⟨by decide +kernel,rfl,rfl,(.seq (.s (.c (.p .v (.p .int .unit)))) (.seq (.s (.lst (.p (.lrng (by kernel_rfl) (by kernel_rfl) rfl rfl .v) .unit))) (.seq (IsS.«while» rfl rfl (.k (.q (.p (.x .v rfl .int) .unit)) rfl .int) (.seq (.s (.x .v rfl .int)) (.seq (.s (.lst .unit)) (.seq (.forv rfl (by kernel_rfl) rfl (.rng1 (by kernel_rfl) rfl rfl (.bin rfl (.q (.p .v .unit)) rfl .int)) (.seq (.s (.x .v rfl .v)) (.seq (.ite rfl rfl (.k .v rfl (.lst .unit)) (.one (.s (.q (.p .v (.p (.bin rfl (.x .v rfl (.neg rfl .int)) rfl .int) .unit))))) .skip0) (.one (.appPop (.expr rfl rfl (.meth rfl rfl (by decide) rfl rfl .v (.p (.bin rfl .v rfl (.bin rfl (.meth rfl rfl (by decide) rfl rfl .v (.p .int .unit)) rfl (.bin rfl (.bin rfl (.x .v rfl (.bin rfl .v rfl .int)) rfl .v) rfl .int))) .unit)))))))) (.one (.expr rfl rfl (.meth rfl rfl (by decide) rfl rfl .v (.p .int (.p .v .unit))))))))) (.one (.ret rfl .v)))))⟩
theorem ok46:OkD C d46:=⟨by decide +kernel,rfl,rfl,(.seq (.s (.lst .unit)) (.seq (.forv rfl (by kernel_rfl) rfl (.rng1 (by kernel_rfl) rfl rfl (.q (.p .v .unit))) (.seq (.s (.lst .unit)) (.seq (.ite rfl rfl (.k .v rfl .int) (.one (.s (.x .v rfl (.bin rfl .v rfl .int)))) .skip0) (.one (.expr rfl rfl (.meth rfl rfl (by decide) rfl rfl .v (.p (.comp0 rfl (by kernel_rfl) (.rng1 (by kernel_rfl) rfl rfl (.q (.p .v .unit))) rfl (.bin rfl (.q (.p (.k .v rfl (.x .v rfl .v)) .unit)) rfl (.q (.p (.k .v rfl .v) .unit)))) .unit))))))) (.one (.ret rfl .v))))⟩
theorem ok47:OkD C d47:=⟨by decide +kernel,rfl,rfl,(.seq (.s (.q (.p .v .unit))) (.seq (.asgC0 rfl (by kernel_rfl) rfl (by kernel_rfl) .v rfl (.comp0 rfl (by kernel_rfl) (.rng1 (by kernel_rfl) rfl rfl (.bin rfl .v rfl .int)) rfl (.bin rfl .int rfl (.bin rfl .int rfl (.q (.p (.slH rfl .v rfl .v) .unit)))))) (.seq (.s (.lst .unit)) (.seq (.forv rfl (by kernel_rfl) rfl (.rng1 (by kernel_rfl) rfl rfl (.bin rfl .v rfl .int)) (.one (.expr rfl rfl (.meth rfl rfl (by decide) rfl rfl .v (.p (.comp0 rfl (by kernel_rfl) (.rng1 (by kernel_rfl) rfl rfl .v) rfl (.bin rfl (.bin rfl .int rfl (.q (.p (.comp0 rfl (by kernel_rfl) (.slH rfl .v rfl .v) rfl (.x .v rfl .v)) .unit))) rfl .int)) .unit))))) (.one (.ret rfl (.tup (.p .v (.p .v .unit)))))))))⟩
theorem ok48:OkD C d48:=⟨by decide +kernel,rfl,rfl,(.seq (.unp rfl (by kernel_rfl) rfl (by kernel_rfl) rfl rfl (.c (.p .v .unit))) (.seq (.s (.lst .unit)) (.seq (.forv rfl (by kernel_rfl) rfl (.tup (.p .v (.p .v .unit))) (.seq (.s (.lst .unit)) (.seq (.forv rfl (by kernel_rfl) rfl (.rng1 (by kernel_rfl) rfl rfl (.q (.p .v .unit))) (.seq (.s (.x .v rfl .v)) (.one (.expr rfl rfl (.meth rfl rfl (by decide) rfl rfl .v (.p (.comp0 rfl (by kernel_rfl) (.rng1 (by kernel_rfl) rfl rfl (.q (.p .v .unit))) rfl (.q (.p (.k (.bin rfl (.x .v rfl .v) rfl (.bin rfl .int rfl (.bin rfl .int rfl (.bin rfl (.bin rfl .v rfl .v) rfl .int)))) rfl (.neg rfl .int)) .unit))) .unit)))))) (.one (.expr rfl rfl (.meth rfl rfl (by decide) rfl rfl .v (.p .v .unit))))))) (.one (.ret rfl (.tup (.p (.x .v rfl .int) (.p (.x .v rfl .int) .unit))))))))⟩
theorem ok49:OkD C d49:=⟨by decide +kernel,rfl,rfl,(.seq (.s (.q (.p .v .unit))) (.seq (.s (.lst .unit)) (.seq (.forv rfl (by kernel_rfl) rfl (.rng1 (by kernel_rfl) rfl rfl (.bin rfl .v rfl .int)) (.one (.expr rfl rfl (.meth rfl rfl (by decide) rfl rfl .v (.p (.comp0 rfl (by kernel_rfl) (.rng1 (by kernel_rfl) rfl rfl (.bin rfl .v rfl .int)) rfl (.bin rfl (.bin rfl .v rfl .v) rfl (.bin rfl .int rfl (.q (.p (.comp0 rfl (by kernel_rfl) (.slH rfl .v rfl .v) rfl (.q (.p (.slH rfl .v rfl .v) .unit))) .unit))))) .unit))))) (.one (.ret rfl .v)))))⟩
theorem ok50:OkD C d50:=⟨by decide +kernel,rfl,rfl,(.seq (.ite rfl rfl (.k .v rfl .int) (.one (.ret rfl (.c (.p .v .unit)))) .skip0) (.seq (.ite rfl rfl (.k .v rfl .int) (.one (.ret rfl (.c (.p .v .unit)))) .skip0) (.seq (.ite rfl rfl (.k .v rfl .int) (.one (.ret rfl (.c (.p .v .unit)))) .skip0) (.one (.ret rfl (.c (.p .v .unit)))))))⟩
theorem ok51:OkD C d51:=⟨by decide +kernel,rfl,rfl,(.seq (.ite rfl rfl (.k .v rfl .int) (.one (.ret rfl (.c (.p .v .unit)))) .skip0) (.seq (.ite rfl rfl (.k .v rfl .int) (.one (.ret rfl (.c (.p .v .unit)))) .skip0) (.seq (.ite rfl rfl (.k .v rfl .int) (.one (.ret rfl (.c (.p .v .unit)))) .skip0) (.one (.ret rfl (.c (.p .v .unit)))))))⟩
theorem ok52:OkD C d52:=⟨by decide +kernel,rfl,rfl,(.seq (.s (.c (.p (.c (.p .v (.p .int .unit))) .unit))) (.seq (.s (.c (.p (.c (.p .v (.p .int .unit))) (.p .v .unit)))) (.seq (.s (.c (.p .v .unit))) (.seq (.asgC0 rfl (by kernel_rfl) rfl (by kernel_rfl) .v rfl (.q (.p .v .unit))) (.seq (.s (.lst (.p (.c (.p .v .unit)) (.p (.c (.p .v .unit)) (.p (.c (.p .v .unit)) (.p .v .unit)))))) (.seq (.forv rfl (by kernel_rfl) rfl (.rng1 (by kernel_rfl) rfl rfl .int) (.one (.ite rfl rfl (.or2 rfl rfl (.k (.c (.p .v (.p .v .unit))) rfl (.x .v rfl .v)) rfl rfl (.k (.c (.p .v (.p (.x .v rfl .v) .unit))) rfl .v)) (.one (.ret rfl .bl)) .skip0))) (.seq (.asgC0 rfl (by kernel_rfl) rfl (by kernel_rfl) .v rfl (.q (.p .v .unit))) (.seq (.forv rfl (by kernel_rfl) rfl (.bin rfl (.lst (.p (.c (.p .v (.p .int .unit))) .unit)) rfl (.slB rfl .v rfl .int rfl .int)) (.seq (.s (.c (.p (.bin rfl .v rfl .int) (.p .v .unit)))) (.seq (.ite rfl rfl (.k .v rfl (.x .v rfl (.bin rfl .v rfl .int))) (.one (.ret rfl .bl)) .skip0) (.seq (.s (.c (.p (.bin rfl .v rfl .int) (.p .v .unit)))) (.one (.ite rfl rfl (.k .v rfl .v) (.one (.ret rfl .bl)) .skip0)))))) (.one (.ret rfl (.k .v rfl .v)))))))))))⟩
theorem ac {P:Dfn->Prop}{a:Dfn}{l:List Dfn}(h:P a)(t:∀d∈l,P d):∀d∈a::l,P d:=List.forall_mem_cons.mpr ⟨h,t⟩
theorem zi9:∀d∈D,OkD C d:=ac ok0 (ac ok1 (ac ok2 (ac ok3 (ac ok4 (ac ok5 (ac ok6 (ac ok7 (ac ok8 (ac ok9 (ac ok10 (ac ok11 (ac ok12 (ac ok13 (ac ok14 (ac ok15 (ac ok16 (ac ok17 (ac ok18 (ac ok19 (ac ok20 (ac ok21 (ac ok22 (ac ok23 (ac ok24 (ac ok25 (ac ok26 (ac ok27 (ac ok28 (ac ok29 (ac ok30 (ac ok31 (ac ok32 (ac ok33 (ac ok34 (ac ok35 (ac ok36 (ac ok37 (ac ok38 (ac ok39 (ac ok40 (ac ok41 (ac ok42 (ac ok43 (ac ok44 (ac ok45 (ac ok46 (ac ok47 (ac ok48 (ac ok49 (ac ok50 (ac ok51 (ac ok52 (λ_ h=>nomatch h)))))))))))))))))))))))))))))))))))))))))))))))))))))
theorem bnd:∀d∈D,Bnd d:=ac (λ_ _ _ _ _ _=>us1 (λ_=>rfl)) (ac (λ_ _ _ _ _ _=>us2 (λ_ _=>rfl)) (ac (λ_ _ _ _ _ _=>us1 (λ_=>rfl)) (ac (λ_ _ _ _ _ _=>us2 (λ_ _=>rfl)) (ac (λ_ _ _ _ _ _=>us3 (λ_ _ _=>rfl)) (ac (λ_ _ _ _ _ _=>us3 (λ_ _ _=>rfl)) (ac (λ_ _ _ _ _ _=>us2 (λ_ _=>rfl)) (ac (λ_ _ _ _ _ _=>us4 (λ_ _ _ _=>rfl)) (ac (λ_ _ _ _ _ _=>us1 (λ_=>rfl)) (ac (λ_ _ _ _ _ _=>us1 (λ_=>rfl)) (ac (λ_ _ _ _ _ _=>us1 (λ_=>rfl)) (ac (λ_ _ _ _ _ _=>us1 (λ_=>rfl)) (ac (λ_ _ _ _ _ _=>us3 (λ_ _ _=>rfl)) (ac (λ_ _ _ _ _ _=>us1 (λ_=>rfl)) (ac (λ_ _ _ _ _ _=>us2 (λ_ _=>rfl)) (ac (λ_ _ _ _ _ _=>us1 (λ_=>rfl)) (ac (λ_ _ _ _ _ _=>us1 (λ_=>rfl)) (ac (λ_ _ _ _ _ _=>us1 (λ_=>rfl)) (ac (λ_ _ _ _ _ _=>us1 (λ_=>rfl)) (ac (λ_ _ _ _ _ _=>us1 (λ_=>rfl)) (ac (λ_ _ _ _ _ _=>us2 (λ_ _=>rfl)) (ac (λ_ _ _ _ _ _=>us4 (λ_ _ _ _=>rfl)) (ac (λ_ _ _ _ _ _=>us2 (λ_ _=>rfl)) (ac (λ_ _ _ _ _ _=>us1 (λ_=>rfl)) (ac (λ_ _ _ _ _ _=>us1 (λ_=>rfl)) (ac (λ_ _ _ _ _ _=>us2 (λ_ _=>rfl)) (ac (λ_ _ _ _ _ _=>us1 (λ_=>rfl)) (ac (λ_ _ _ _ _ _=>us1 (λ_=>rfl)) (ac (λ_ _ _ _ _ _=>us3 (λ_ _ _=>rfl)) (ac (λ_ _ _ _ _ _=>us3 (λ_ _ _=>rfl)) (ac (λ_ _ _ _ _ _=>us1 (λ_=>rfl)) (ac (λ_ _ _ _ _ _=>us3 (λ_ _ _=>rfl)) (ac (λ_ _ _ _ _ _=>us2 (λ_ _=>rfl)) (ac (λ_ _ _ _ _ _=>us1 (λ_=>rfl)) (ac (λ_ _ _ _ _ _=>us1 (λ_=>rfl)) (ac (λ_ _ _ _ _ _=>us1 (λ_=>rfl)) (ac (λ_ _ _ _ _ _=>us2 (λ_ _=>rfl)) (ac (λ_ _ _ _ _ _=>us2 (λ_ _=>rfl)) (ac (λ_ _ _ _ _ _=>us1 (λ_=>rfl)) (ac (λ_ _ _ _ _ _=>us1 (λ_=>rfl)) (ac (λ_ _ _ _ _ _=>us1 (λ_=>rfl)) (ac (λ_ _ _ _ _ _=>us1 (λ_=>rfl)) (ac (λ_ _ _ _ _ _=>us2 (λ_ _=>rfl)) (ac (λ_ _ _ _ _ _=>us2 (λ_ _=>rfl)) (ac (λ_ _ _ _ _ _=>us1 (λ_=>rfl)) (ac (λ_ _ _ _ _ _=>us2 (λ_ _=>rfl)) (ac (λ_ _ _ _ _ _=>us1 (λ_=>rfl)) (ac (λ_ _ _ _ _ _=>us1 (λ_=>rfl)) (ac (λ_ _ _ _ _ _=>us1 (λ_=>rfl)) (ac (λ_ _ _ _ _ _=>us1 (λ_=>rfl)) (ac (λ_ _ _ _ _ _=>us2 (λ_ _=>rfl)) (ac (λ_ _ _ _ _ _=>us2 (λ_ _=>rfl)) (ac (λ_ _ _ _ _ _=>us1 (λ_=>rfl)) (λ_ h=>nomatch h)))))))))))))))))))))))))))))))))))))))))))))))))))))
theorem zk {K:PySem.W.Frag}(z0:PySem.W.nsIn K mainGlobals "len" = some none)(z1:PySem.W.nsIn K mainGlobals "int" = some none)(z2:PySem.W.nsIn K mainGlobals "bool" = some none)(z3:PySem.W.nsIn K mainGlobals "list" = some none)(z4:PySem.W.nsIn K mainGlobals "tuple" = some none)(z5:PySem.W.nsIn K mainGlobals "abs" = some none)(z6:PySem.W.nsIn K mainGlobals "max" = some none)(z7:PySem.W.nsIn K mainGlobals "min" = some none)(z8:PySem.W.nsIn K mainGlobals "isinstance" = some none)(z9:PySem.W.nsIn K mainGlobals "range" = some none)(z10:PySem.W.nsIn K mainGlobals "str" = some none)(z11:PySem.W.nsIn K mainGlobals "dict" = some none)(z12:PySem.W.nsIn K mainGlobals "sum" = some none)(z13:PySem.W.nsIn K mainGlobals "all" = some none)(z14:PySem.W.nsIn K mainGlobals "zip" = some none)(z15:PySem.W.nsIn K mainGlobals "enumerate" = some none)(z16:PySem.W.nsIn K mainGlobals "sorted" = some none):∀nm∈zD,PySem.W.nsIn K mainGlobals nm=some none:=by
 unfold zD;simp only[List.forall_mem_cons];exact ⟨z0,z1,z2,z3,z4,z5,z6,z7,z8,z9,z10,z11,z12,z13,z14,z15,z16,λ_ q=>(List.not_mem_nil q).elim⟩
theorem dk {K:PySem.W.Frag}{h:Heap}{mg:Str->Option Value}(X:K.In h)(G:h.Ns mainGlobals mg){d:Dfn}{a:Addr}{od an:Option Addr}{sl:Array (Option Value)}{oc kV dc pm cd ct:Value}(g:PySem.W.nsIn K mainGlobals d.nm=some (some (.ref a)))
  (l:K.lookup a=some ⟨oc,od,.func (PySem.W.fnOf d.on d.on (x9 d.st) (xx d.st) (yr d.st) .none kV dc pm an cd ct),sl⟩) (c:PySem.W.codeIn K cd d.on=true) (k:PySem.W.keepIn K (.ref a)=true):zB K mg d:=⟨a,_,zgF l c k,PySem.W.mg_of X G g⟩
theorem mk {K:PySem.W.Frag}{w:World}{h:Heap}{mg:Str->Option Value}(X:K.In h)(G:h.Ns mainGlobals mg){t0:Tok}
  (h0:zB K mg d0) (h1:zB K mg d1) (h2:zB K mg d2) (h3:zB K mg d3) (h4:zB K mg d4) (h5:zB K mg d5) (h6:zB K mg d6) (h7:zB K mg d7) (h8:zB K mg d8) (h9:zB K mg d9) (h10:zB K mg d10) (h11:zB K mg d11) (h12:zB K mg d12) (h13:zB K mg d13) (h14:zB K mg d14) (h15:zB K mg d15) (h16:zB K mg d16) (h17:zB K mg d17) (h18:zB K mg d18) (h19:zB K mg d19) (h20:zB K mg d20) (h21:zB K mg d21) (h22:zB K mg d22) (h23:zB K mg d23) (h24:zB K mg d24) (h25:zB K mg d25) (h26:zB K mg d26) (h27:zB K mg d27) (h28:zB K mg d28) (h29:zB K mg d29) (h30:zB K mg d30) (h31:zB K mg d31) (h32:zB K mg d32) (h33:zB K mg d33) (h34:zB K mg d34) (h35:zB K mg d35) (h36:zB K mg d36) (h37:zB K mg d37) (h38:zB K mg d38) (h39:zB K mg d39) (h40:zB K mg d40) (h41:zB K mg d41) (h42:zB K mg d42) (h43:zB K mg d43) (h44:zB K mg d44) (h45:zB K mg d45) (h46:zB K mg d46) (h47:zB K mg d47) (h48:zB K mg d48) (h49:zB K mg d49) (h50:zB K mg d50) (h51:zB K mg d51) (h52:zB K mg d52)
  (e0:PySem.W.nsIn K mainGlobals "GREATEST_SIZE" = some (some (.int 12 t0)))
  (z:∀nm∈zD,PySem.W.nsIn K mainGlobals nm=some none)
  : (∀e∈D,zB K mg e)/\gJ K w mg C/\∀nm∈zD,mg nm=none:=by
 refine ⟨λd hd=>?_,⟨λnm i hi=>?_,λnm qq hi=>?_⟩,λnm hn=>?_⟩
 .exact (ac h0 (ac h1 (ac h2 (ac h3 (ac h4 (ac h5 (ac h6 (ac h7 (ac h8 (ac h9 (ac h10 (ac h11 (ac h12 (ac h13 (ac h14 (ac h15 (ac h16 (ac h17 (ac h18 (ac h19 (ac h20 (ac h21 (ac h22 (ac h23 (ac h24 (ac h25 (ac h26 (ac h27 (ac h28 (ac h29 (ac h30 (ac h31 (ac h32 (ac h33 (ac h34 (ac h35 (ac h36 (ac h37 (ac h38 (ac h39 (ac h40 (ac h41 (ac h42 (ac h43 (ac h44 (ac h45 (ac h46 (ac h47 (ac h48 (ac h49 (ac h50 (ac h51 (ac h52 (λ_ h=>nomatch h))))))))))))))))))))))))))))))))))))))))))))))))))))):∀e∈D,zB K mg e) d hd
 .unfold C at hi;rw[List.lookup_cons] at hi;cases q0:nm == ("GREATEST_SIZE" : Str) with
  | true =>
   rw[q0] at hi;cases hi;rw[beq_iff_eq.mp q0];exact ⟨t0,PySem.W.mg_of X G e0⟩
  | false =>
  rw[q0] at hi;cases hi
 .cases hi
 .exact PySem.W.mg_none_of X G (z nm hn)
end R29
namespace R29
open Mini
noncomputable def T:List Fn:=[f0,f1,f2,f3,f4,f5,f6,f7,f8,f9,f10,f11,f12,f13,f14,f15,f16,f17,f18,f19,f20,f21,f22,f23,f24,f25,f26,f27,f28,f29,f30,f31,f32,f33,f34,f35,f36,f37,f38,f39,f40,f41,f42,f43,f44,f45,f46,f47,f48,f49,f50,f51,f52]
open Vl Vl.Lib
noncomputable def xm:Nat->Lv:=λk=>if k=8\/k=45\/k=48 then .no else .full
noncomputable abbrev CD (d:Nat):=kT xm T d
theorem zI {d k:Nat}{f:Fn}(h:T[k]?=some f)(ds:List Dat):CD (d+1) k ds=zq xm (CD d) k f ds:=by
 show kT xm T (d+1) k ds=_;unfold kT;rw[h]
theorem nt (k:Nat):xm k≠.top:=λh=>by
 unfold xm at h;split at h <;> cases h
theorem H0 (d:Nat)(x:Dat):CD (d+1) 0 [x]=.ok (.bl (isInt x)):=by rw[zI (f:=j6) rfl];exact zby x
theorem H1t (d:Nat)(n m:Int):CD (d+2) 1 [.int n,.int m]=.ok (.bl (decide (1<=n/\n<=m))):=by rw[zI (f:=gm 0) rfl];exact zao (H0 d) n m
theorem H1 (d:Nat)(n:Int):CD (d+3) 2 [.int n]=.ok (.bl (decide (1<=n/\n<=12))):=by rw[zI (f:=gn 1) rfl];exact zb4 (H1t d n 12)
theorem H2 (d:Nat)(x:List Int)(m:Int)(hx:x.length<=100)(hm:m=x.length):CD (d+2) 3 [row x,.int m]=.ok (.bl true):=by rw[zI (f:=zdx 0) rfl];exact zdy (H0 d) x hx hm
theorem H3 (d:Nat)(A:List (List Int))(a b:Int)(hA:A.length<=100)(ha:a=A.length)(hb:∀x∈A,x.length<=100/\b=x.length):CD (d+3) 5 [tab A,.int a,.int b]=.ok (.bl true):=by rw[zI (f:=zah 3) rfl];exact zbN (H2 d) A hA ha hb
theorem H4 (d:Nat){x:List Int}{N:Dat}(hx:x.length<=100)(h:∀v∈x,yz .isin (.int v) N=.ok (.bl true)):CD (d+1) 6 [row x,N]=.ok (.bl true):=by rw[zI (f:=zaj) rfl];exact zbY hx h
theorem H5 (d:Nat){p q:Nat}{F:Nat->Nat->Int}(hp:p<=100)(hq:q<=100){a b:Int}(ha:a=p)(hb:b=q){N:Dat}(h:∀i j,i < p->j < q->yz .isin (.int (F i j)) N=.ok (.bl true)):CD (d+4) 7 [tab (zm p q F),.int a,.int b,N]=.ok (.bl true):=by
 rw[zI (f:=gk 5 6) rfl];refine zak (by rw[yS];lia) (H3 d _ a b (by rw[yS];lia) (by rw[yS];exact ha) λx hx=>by rw[zbX x hx];exact ⟨hq,hb⟩) λx hx=>?_;obtain ⟨i,hi,rfl⟩:=List.mem_map.mp hx;refine H4 (d+2) (by rw[xI];lia) λv hv=>?_;obtain ⟨j,hj,rfl⟩:=List.mem_map.mp hv;exact h i j (List.mem_range.mp hi) (List.mem_range.mp hj)
theorem H6 (d:Nat){n:Nat}(h1:1<=n)(h2:n<=12){F G:Nat->Nat->Int}{N:Dat}(hf:∀i j,i < n->j<=n->yz .isin (.int (F i j)) N=.ok (.bl true))(hg:∀i j,i<=n->j < n->yz .isin (.int (G i j)) N=.ok (.bl true)):CD (d+5) 20 [arr n F G,N]=.ok (.bl true):=by
 rw[zI (f:=gl 2 7) rfl];exact zbZ (H1 (d+1)) h1 h2 (H5 d (by lia) (by lia) rfl (by lia) λi j hi hj=>hf i j hi (by lia)) (H5 d (by lia) (by lia) (by lia) rfl λi j hi hj=>hg i j (by lia) hj)
theorem H7 (d:Nat){n:Nat}{F G:Nat->Nat->Int}(h:AR n F G)(r c:Nat)(hr:r < n)(hc:c < n):CD (d+1) 21 [tab (zm n (n+1) F),tab (zm (n+1) n G),.int r,.int c]=.ok (.bl false):=by rw[zI (f:=zhz) rfl];exact zfu h hr hc
theorem H8 (d:Nat){n:Nat}(hn:n<=12){F G:Nat->Nat->Int}(h:AR n F G):CD (d+2) 22 [tab (zm n (n+1) F),tab (zm (n+1) n G)]=.ok .non:=by rw[zI (f:=zhA 21) rfl];exact zfv wL hn (H7 d h)
theorem H9 (d:Nat){n:Nat}(hn:n<=12)(F:Nat->Nat->Int)(r:Nat):CD (d+1) 23 [row (zH (n+1) F r)]=.ok (row (zH n (sgr F) r)):=by rw[zI (f:=zam) rfl];exact zb0 hn F r rfl
theorem H10 (d:Nat){n:Nat}(h1:1<=n)(h2:n<=12){F G:Nat->Nat->Int}(h:AR n F G):CD (d+6) 24 [arr n F G]=.ok (tab (zm n n (sgr F))):=by rw[zI (f:=zhB 20 22 23) rfl];exact zfw h2 (H6 d h1 h2 (λi j hi hj=>za3 (h.f i j hi hj)) λi j hi hj=>za3 (h.g i j hi hj)) (H8 (d+3) h2 h) (λr _=>H9 (d+4) h2 F r) rfl rfl
theorem H11 (d:Nat)(n:Int):CD (d+1) 35 [.int n]=.ok (.bl (decide (n % 2=1))):=by rw[zI (f:=zfx) rfl];exact zfy n
theorem H12 (d:Nat){q:Nat}(hq:q<=100)(W:Nat->Nat->Int)(i:Nat):CD (d+2) 37 [.int i,row (zH q W i)]=.ok (row (zH q (ar W) i)):=by rw[zI (f:=zd1 35) rfl];exact zd2 (H11 d) hq W i rfl
theorem H13 (d:Nat){p q:Nat}(hp:p<=100)(hq:q<=100)(W:Nat->Nat->Int):CD (d+3) 39 [tab (zm p q W)]=.ok (tab (zm p q (ar W))):=by rw[zI (f:=ja 37) rfl];exact zb1 hp W (H12 d hq W) rfl rfl
theorem H14 (d:Nat){n:Nat}(h1:1<=n)(h2:n<=12){F G:Nat->Nat->Int}(h:AR n F G):CD (d+7) 41 [arr n (sd F) (sd G)]=.ok (tab (zm n n (sgr F))):=by
 rw[zI (f:=zhC 20 39 24) rfl];have e:arr n (ar (sd F)) (ar (sd G))=arr n F G:=by
  unfold arr;rw[ww (F:=ar (sd F)) (G:=F) λi j hi hj=>zfZ (h.f i j hi (by lia)),ww (F:=ar (sd G)) (G:=G) λi j hi hj=>zfZ (h.g i j (by lia) hj)]
 refine zfz (H6 (d+1) h1 h2 (λi j _ _=>za4 (zd0 F i j)) λi j _ _=>za4 (zd0 G i j)) (H13 (d+3) (by lia) (by lia) _) (H13 (d+3) (by lia) (by lia) _) ?_ rfl rfl;rw[e];exact H10 d h1 h2 h
theorem H15 (d:Nat)(ns:List Int)(i:Nat):∃c:Int,CD (d+1) 42 [.scr ns,.int i]=.ok (.int c):=by rw[zI (f:=qf) rfl];exact zdm ns i
theorem H17 (d:Nat)(c:Int):∃x:List Int,x.length=66/\CD (d+1) 43 [.int c,.int 66]=.ok (row x):=by rw[zI (f:=zht) rfl];exact zfp c (m:=66) (by lia) (nt _)
theorem H18 (d:Nat)(c:Int):∃n:Nat,1<=n/\n<=12/\CD (d+1) 44 [.int c]=.ok (.int n):=by rw[zI (f:=wK) rfl];exact qp c
theorem H19 (d:Nat){n:Nat}(hn:1<=n)(hn':n<=12)(cell:Int):∃X,Tri n X/\CD (d+2) 45 [.int cell,.int n]=.ok (tab X):=by
 rw[zI (f:=zdU 43) rfl];obtain ⟨L,h1,h2,e⟩:=zdX (lev:=xm) (k:=45) (H17 d) rfl hn hn' cell rfl;exact ⟨L.reverse,Tri.of hn h2 h1,e⟩
theorem H20 (d:Nat)(X:List (List Int))(hX:X.length<=100):CD (d+1) 46 [tab X]=.ok (tab (sg X)):=by rw[zI (f:=k9) rfl];exact qt X hX rfl
theorem H21 (d:Nat){R:List (List Int)}(h:Sq R)(hn:R.length<=100):CD (d+1) 47 [tab R]=.ok (arr R.length (axf R) (dnf R)):=by rw[zI (f:=zhw) rfl];exact zfs h hn rfl
theorem H22 (d:Nat){R:List (List Int)}(h:Sq R)(hn:R.length<=12):CD (d+2) 48 [tab R]=.ok (arr R.length (sd (axf R)) (sd (dnf R))):=by rw[zI (f:=zan 47) rfl];exact zb2 hn (H21 d h (by lia)) rfl
theorem H4h (d:Nat){n:Nat}(h1:1<=n)(h2:n<=12)(G:Nat->Nat->Int):CD (d+4) 27 [tab (zR n G)]=.ok (.bl true):=by rw[zI (f:=zfW 2 5) rfl];exact zdF (H1 d) (H3 d) h1 h2 G
theorem H5h (d:Nat){n:Nat}{G:Nat->Nat->Int}(h:HF n G){i j:Nat}(hi:i<=n)(hj:j<=n):CD (d+1) 28 [.int n,.int i,.int j]=.ok .non\/CD (d+1) 28 [.int n,.int i,.int j]=.ok (.int (G i j)):=by rw[zI (f:=qm) rfl];exact zfg h hi hj
theorem H6h (d:Nat){n:Nat}{G:Nat->Nat->Int}(h:HF n G)(i j:Nat)(hi:i<=n)(hj:j<=n):CD (d+2) 29 [tab (zR n G),.int i,.int j]=.ok (.bl false):=by rw[zI (f:=ziY 28) rfl];exact zfh h hi hj (H5h d h hi hj)
theorem H7h (d:Nat){n:Nat}{G:Nat->Nat->Int}(h:HF n G)(hn:n<=12):CD (d+3) 30 [tab (zR n G)]=.ok .non:=by rw[zI (f:=zi1 29) rfl];exact zfl hn (H6h d h)
theorem H8h (d:Nat){n:Nat}(G:Nat->Nat->Int){r:Nat}(hr:r < n)(c:Nat)(hc:c < n):CD (d+1) 31 [tab (zR n G),.int r,.int c]=.ok (.int (amid G r c)):=by rw[zI (f:=zfX) rfl];exact zdK G hr hc
theorem H9h (d:Nat){n:Nat}(hn:n<=12)(G:Nat->Nat->Int)(r:Nat)(hr:r < n):CD (d+2) 32 [tab (zR n G),.int r]=.ok (row (vN n G r)):=by rw[zI (f:=zfY 31) rfl];exact zdL hn (H8h d G hr) (nt _)
theorem H10h (d:Nat){n:Nat}(hn:n<=12)(G:Nat->Nat->Int):CD (d+3) 33 [tab (zR n G)]=.ok (tab (wJ n G)):=by rw[zI (f:=zi2 32) rfl];exact zfm hn (H9h d hn G) rfl (nt _)
theorem H11h (d:Nat){n:Nat}{G:Nat->Nat->Int}(h:HF n G)(h1:1<=n)(h2:n<=12):CD (d+5) 34 [tab (zR n G)]=.ok (tab (wJ n G)):=by rw[zI (f:=zi3 27 30 33) rfl];exact zfn (H4h d h1 h2 G) (H7h (d+1) h h2) (H10h (d+1) h2 G) rfl (nt _)
theorem H3c (d:Nat)(x:List Int)(m n:Int)(hx:x.length<=100)(hm:m=x.length)(hb:∀v∈x,0<=v/\v < n):CD (d+3) 4 [row x,.int m,.int n]=.ok (.bl true):=by rw[zI (f:=zfT 3) rfl];exact zdz (H2 d) x hx hm hb
theorem H4c (d:Nat){n:Nat}{X:List (List Int)}(h:Tri n X)(h1:1<=n)(h2:n<=12):CD (d+4) 11 [tab X]=.ok (.bl true):=by rw[zI (f:=zfU 2 4) rfl];exact zdA (H1 d) (H3c d) h h1 h2
theorem H5c (d:Nat){n:Nat}{X:List (List Int)}(h:Tri n X)(hn:n<=12)(i m:Nat)(hi:i < n)(hm:m<=i):CD (d+1) 12 [tab X,.int ((i:Int)+1),.int m]=.ok (.bl false):=by rw[zI (f:=zfV) rfl];exact zdD h hn hi hm
theorem H6c (d:Nat){n:Nat}{X:List (List Int)}(h:Tri n X)(hn:n<=12):CD (d+2) 13 [tab X]=.ok .non:=by rw[zI (f:=zdH 12) rfl];exact zbO h.len hn (H5c d h hn)
theorem H7c (d:Nat){n:Nat}(hn:n<=100)(x:List Int):CD (d+1) 14 [row x,.int n]=.ok (row (marks n x)):=by rw[zI (f:=zdI) rfl];exact zbP x hn (nt _)
theorem H8c (d:Nat){X:List (List Int)}(hn:X.length<=100):CD (d+2) 15 [tab X]=.ok (tab (sg X)):=by rw[zI (f:=ziZ 14) rfl];exact zfj hn (H7c d hn) rfl (nt _)
theorem H9c (d:Nat){n:Nat}{X:List (List Int)}(h:Tri n X)(h1:1<=n)(h2:n<=12):CD (d+5) 16 [tab X]=.ok (tab (sg X)):=by
 have hX:=h.len;rw[zI (f:=zi0 11 13 15) rfl];exact zfk (H4c d h h1 h2) (H6c (d+2) h h2) (H8c (d+2) (by lia)) rfl (nt _)
theorem H0s (d:Nat){R:List (List Int)}(h:Sq R)(hn:R.length<=100):CD (d+1) 8 [tab R]=.ok (tab (yY R)):=by rw[zI (f:=zfQ) rfl];exact zdr h hn rfl
theorem H1s (d:Nat)(i:Int)(x:List Int)(h:x.length<=100):CD (d+1) 25 [.int i,row x]=.ok (row (wt i x)):=by rw[zI (f:=zfS) rfl];exact zdv i x h (nt _)
theorem H2s (d:Nat){R:List (List Int)}(h:Sq R)(hn:R.length<=100):CD (d+2) 26 [tab R]=.ok (tab (HT R)):=by rw[zI (f:=qk 8 25) rfl];exact ql (H0s d h hn) (H1s d) hn rfl (nt _)
theorem H1w (d:Nat)(x:List Int)(hx:x.length<=100):CD (d+1) 17 [row x]=.ok (row (acR x)):=by rw[zI (f:=zi4) rfl];exact zfB x hx rfl
theorem H2w (d:Nat)(x:List Int)(hx:x.length<=100):CD (d+1) 18 [row x]=.ok (row (dnR x)):=by rw[zI (f:=zi5) rfl];exact zfC x hx rfl
theorem H3w (d:Nat){R:List (List Int)}(h:Sq R)(hn:R.length<=12):CD (d+2) 19 [tab R]=.ok (arr R.length (axf R) (dnf R)):=by rw[zI (f:=zi6 8 17 18) rfl];exact zfD h hn (H0s d h (by lia)) (H1w d) (H2w d) rfl rfl rfl
theorem H5w (d:Nat){q:Nat}(hq:q<=100)(W:Nat->Nat->Int)(i:Nat):CD (d+2) 36 [.int i,row (zH q W i)]=.ok (row (zH q (wk W) i)):=by rw[zI (f:=zf1 35) rfl];exact zd3 (H11 d) hq W i rfl
theorem H6w (d:Nat){p q:Nat}(hp:p<=100)(hq:q<=100)(W:Nat->Nat->Int):CD (d+3) 38 [tab (zm p q W)]=.ok (tab (zm p q (wk W))):=by rw[zI (f:=ja 36) rfl];exact zb3 hp W (H5w d hq W) rfl rfl
theorem H7w (d:Nat){R:List (List Int)}(h:Sums R)(hn:R.length<=12):CD (d+4) 40 [tab R]=.ok (arr R.length (sd (axf R)) (sd (dnf R))):=by
 rw[zI (f:=zi7 19 38) rfl];have e:arr R.length (wk (axf R)) (wk (dnf R))=arr R.length (sd (axf R)) (sd (dnf R)):=by
  unfold arr;rw[ww (F:=wk (axf R)) (G:=sd (axf R)) λi j hi hj=>zf0 (h.ar.f i j hi (by lia)),ww (F:=wk (dnf R)) (G:=sd (dnf R)) λi j hi hj=>zf0 (h.ar.g i j (by lia) hj)]
 rw[<- e];exact zfE (H3w (d+1) h.sq hn) (H6w d (by lia) (by lia) _) (H6w d (by lia) (by lia) _) rfl rfl rfl
theorem H1f (d:Nat)(x:List Int)(h:x.length<=100):CD (d+1) 9 [row x]=.ok (row (xp x)):=by rw[zI (f:=zaX) rfl];exact zaf x h (nt _)
theorem H2f (d:Nat){R:List (List Int)}(h:Sq R)(hn:R.length<=100):CD (d+2) 10 [tab R]=.ok (tab (wC R)):=by rw[zI (f:=zds 8 9) rfl];exact zbH (H0s d h hn) (H1f d) hn rfl (nt _)
theorem H49 (d:Nat){R:List (List Int)}(h:Sq R)(hn:R.length<=100):CD (d+1) 49 [tab R]=.ok (tab (zR R.length (yM R))):=by rw[zI (f:=fHB) rfl];exact zhG h hn rfl
theorem zd4 {n:Nat}{F G:Nat->Nat->Int}:yz .ne (arr n F G) (arr n F G)=.ok (.bl false):=by
 have h:∀ (A:List (List Int)),yW 11 (tab A)=true:=λA=>by
  show yW (10+1) (tab A)=true;simp only[tab,wI];rw[yX,List.all_map,List.all_eq_true];intro x _;show yW (9+1) (row x)=true;simp only[row,wI];rw[yX,List.all_map];simp
 have h2:yW yT (arr n F G)=true:=by
  simp only[arr,j5,zdd];simp[yX,h]
 simp only[yz,eqD,h2,Bool.and_self,if_true];simp only[arr,zhg,tab,deqL,j4,vm];rfl
theorem zhI (A:List (List Int)):yz .eq (tab A) (tab A)=.ok (.bl true):=by
 simp only[yz,eqD,jE A,Bool.and_self,if_true];simp only[tab,j4,vm];rfl
noncomputable def V (n:Nat)(X R:List (List Int))(q:Int):Dat:=if q=0 then tab (zR n (yM R)) else if q=1 then arr n (axf R) (dnf R) else if q=2 then arr n (sd (axf R)) (sd (dnf R)) else tab X
noncomputable def duL (n:Nat)(X R:List (List Int)):Dat:=.lst [tab (zR n (yM R)),arr n (axf R) (dnf R),arr n (sd (axf R)) (sd (dnf R)),tab X]
structure Dr (n:Nat)(X R:List (List Int)):Prop where
 len:R.length<=12
 sq:∀x∈R,x.length<=100
 f:∀q:Int,0<=q->q < 4->CD 8 50 [.int q,tab R]=.ok (V n X R q)
 b:∀q:Int,0<=q->q < 4->CD 8 51 [.int q,V n X R q]=.ok (tab R)
 ne:∀q:Int,yz .ne (V n X R q) (V n X R q)=.ok (.bl false)
 at_:∀q:Int,0<=q->q < 4->yk (duL n X R) (.int q)=.ok (V n X R q)
 d49:CD 8 49 [tab R]=.ok (tab (zR n (yM R)))
 d47:CD 8 47 [tab R]=.ok (arr n (axf R) (dnf R))
 d48:CD 8 48 [tab R]=.ok (arr n (sd (axf R)) (sd (dnf R)))
theorem Dr.mk' {n:Nat}{X:List (List Int)}(hX:Tri n X)(h1:1<=n)(h2:n<=12):Dr n X (sg X):=by
 have hXl:=hX.len;have hl:(sg X).length=n:=by rw[vd,hXl]
 have hsq:=ziV X;have hS:Sums (sg X):=Sums.of hsq λr c a b=>zhm hX (by lia) (by lia);have h10:=H2f 5 hsq (by lia);rw[zdt hX] at h10;have h16:=H9c 2 hX h1 h2;have h26:=H2s 5 hsq (by lia);rw[zfe hsq] at h26;have h19:=H3w 5 hsq (by lia);have h40:=H7w 3 hS (by lia);have h34:=H11h 2 hS.hf (by lia) (by lia);rw[hS.amid] at h34;have h24:=H10 1 (by lia) (by lia) hS.ar;rw[hS.back] at h24;have h41:=H14 0 (by lia) (by lia) hS.ar;rw[hS.back] at h41;have h49:=H49 7 hsq (by lia);have h47:=H21 7 hsq (by lia);have h48:=H22 6 hsq (by lia);generalize sg X=R at *
 subst hl;refine ⟨h2,λx hx=>by rw[hsq x hx];lia,λq q0 q1=>?_,λq q0 q1=>?_,λq=>?_,λq q0 q1=>?_,h49,h47,h48⟩
 .rw[zI (d:=7) (f:=zhH 26 19 40 10) rfl];refine za6 rfl rfl rfl rfl rfl ?_;rcases (by lia:q=0\/q=1\/q=2\/q=3) with rfl | rfl | rfl | rfl
  .exact .inl ⟨rfl,h26⟩
  .exact .inr (.inl ⟨rfl,h19⟩)
  .exact .inr (.inr (.inl ⟨rfl,h40⟩))
  .exact .inr (.inr (.inr ⟨rfl,h10⟩))
 .rw[zI (d:=7) (f:=zhH 34 24 41 16) rfl];refine za6 rfl rfl rfl rfl rfl ?_;rcases (by lia:q=0\/q=1\/q=2\/q=3) with rfl | rfl | rfl | rfl
  .exact .inl ⟨rfl,h34⟩
  .exact .inr (.inl ⟨rfl,h24⟩)
  .exact .inr (.inr (.inl ⟨rfl,h41⟩))
  .exact .inr (.inr (.inr ⟨rfl,h16⟩))
 .unfold V;split
  .exact gb _
  .split
   .exact zd4
   .split
    .exact zd4
    .exact gb _
 .rcases (by lia:q=0\/q=1\/q=2\/q=3) with rfl | rfl | rfl | rfl <;> rfl
def zb5 (r:Rsd):Prop:=∃l,r=.ret (.bl true) l
theorem gp {i:Nat}{e:Ex}{d:Dat}{de:DEn}{lv:List Lv}:∃lv',xY xm i e d de lv=.next (de.set i (some d)) lv':=by
 unfold xY;split
 .exact ⟨_,rfl⟩
 .exact ⟨_,rfl⟩
theorem vO {cl:Nat->List Dat->Rd}{i:Nat}{e:Ex}{d:Dat}{X:Sm}{de:DEn}{lv:List Lv}(h:evD cl e de=.ok d)(hv:yu (.asg i e) X=none)(k:∀lv',zb5 (exD xm cl X (de.set i (some d)) lv')):zb5 (exD xm cl (.seq (.asg i e) X) de lv):=by
 rw[zQ xm cl de lv hv,zu,h];obtain ⟨lv',e'⟩:=gp (i:=i) (e:=e) (d:=d) (de:=de) (lv:=lv);simp only[zjU,e',zf];exact k lv'
theorem zhJ {cl:Nat->List Dat->Rd}{e:Ex}{de:DEn}{lv:List Lv}(h:evD cl e de=.ok (.bl true)):zb5 (exD xm cl (.ret e) de lv):=by
 rw[zJ,h];exact ⟨_,rfl⟩
theorem za7 {cl:Nat->List Dat->Rd}{a X:Sm}{de de':DEn}{lv lv':List Lv}(hv:yu a X=none)(h:exD xm cl a de lv=.next de' lv')(k:zb5 (exD xm cl X de' lv')):zb5 (exD xm cl (.seq a X) de lv):=by
 rw[zQ xm cl de lv hv,h,zf];exact k
noncomputable def l1B:Sm:=(.ite (.or (.cmp .ne (.call 50 (.pair (.var 6) (.pair (.var 3) .unit))) (.idx (.var 5) (.var 6))) (.cmp .ne (.call 51 (.pair (.var 6) (.pair (.idx (.var 5) (.var 6)) .unit))) (.var 4))) (.ret (.lit (.bl false))) .skip)
noncomputable def l2B:Sm:=(.seq (.asg 9 (.call 50 (.pair (.bin .mod (.var 8) (.lit (.int 4))) (.pair (.var 7) .unit)))) (.seq (.ite (.cmp .ne (.var 9) (.idx (.var 5) (.bin .mod (.var 8) (.lit (.int 4))))) (.ret (.lit (.bl false))) .skip) (.seq (.asg 7 (.call 51 (.pair (.bin .mod (.var 8) (.lit (.int 4))) (.pair (.var 9) .unit)))) (.ite (.cmp .ne (.var 7) (.var 4)) (.ret (.lit (.bl false))) .skip))))
theorem zfG {n:Nat}{X R:List (List Int)}(D:Dr n X R){q:Int}(q0:0<=q)(q1:q < 4)(d0 d1 d2 d7 d8 d9:Option Dat)(lv:List Lv):exD xm (CD 8) l1B [d0,d1,d2,some (tab R),some (tab R),some (duL n X R),some (.int q),d7,d8,d9] lv=.next [d0,d1,d2,some (tab R),some (tab R),some (duL n X R),some (.int q),d7,d8,d9] lv:=by
 unfold l1B;simp only[zV,vU,zT,zo,zi,zh,zP,za,zd,zjT,zg,D.f q q0 q1,D.at_ q q0 q1,D.ne q,D.b q q0 q1,gb,zjU,zN]
theorem zfH {n:Nat}{X R:List (List Int)}(D:Dr n X R)(c:Int)(d0 d1 d2 d6 d9:Option Dat)(lv:List Lv):∃d9' lv',exD xm (CD 8) l2B [d0,d1,d2,some (tab R),some (tab R),some (duL n X R),d6,some (tab R),some (.int c),d9] lv=.next [d0,d1,d2,some (tab R),some (tab R),some (duL n X R),d6,some (tab R),some (.int c),d9'] lv':=by
 have em:yy .mod (.int c) (.int 4)=.ok (.int (c % 4)):=wo _ _ (by decide);have q0:0<=c % 4:=by lia
 have q1:c % 4 < 4:=by lia
 generalize c % 4=q at *
 obtain ⟨la,ea⟩:=gp (i:=9) (e:=.call 50 (.pair (.bin .mod (.var 8) (.lit (.int 4))) (.pair (.var 7) .unit))) (d:=V n X R q) (de:=[d0,d1,d2,some (tab R),some (tab R),some (duL n X R),d6,some (tab R),some (.int c),d9]) (lv:=lv);obtain ⟨lb,eb⟩:=gp (i:=7) (e:=.call 51 (.pair (.bin .mod (.var 8) (.lit (.int 4))) (.pair (.var 9) .unit))) (d:=tab R) (de:=[d0,d1,d2,some (tab R),some (tab R),some (duL n X R),d6,some (tab R),some (.int c),some (V n X R q)]) (lv:=la);refine ⟨some (V n X R q),lb,?_⟩;unfold l2B;rw[zQ xm (CD 8) _ _ rfl,zu];simp only[zo,zi,zh,zy,ze,za,zd,zjT,zg,em,D.f q q0 q1,zjU,ea,zf,List.set_cons_succ,List.set_cons_zero];rw[zQ xm (CD 8) _ _ rfl];simp only[zV,zT,zP,zy,ze,za,zd,zjT,em,D.at_ q q0 q1,D.ne q,zjU,zN,zf];rw[zQ xm (CD 8) _ _ rfl,zu];simp only[zo,zi,zh,zy,ze,za,zd,zjT,zg,em,D.b q q0 q1,zjU,eb,zf,List.set_cons_succ,List.set_cons_zero];simp only[zV,zT,za,zd,zjT,gb,zjU,zN]
theorem zhK (ns:List Int):∃cs:List Int,cs.length<=14/\slD (.scr ns) (some 3) (some 14)=.ok (row cs):=by
 refine ⟨(ns.drop (sIx (ns.map Dat.int).length 0 (some 3))).take (sIx (ns.map Dat.int).length (ns.map Dat.int).length (some 14) - sIx (ns.map Dat.int).length 0 (some 3)),?_,?_⟩
 .rw[List.length_take];have:sIx (ns.map Dat.int).length (ns.map Dat.int).length (some 14)<=14:=by
   simp[sIx];lia
  lia
 .show yB (((ns.map Dat.int).drop _).take _)=_;rw[<- List.map_drop,<- List.map_take];refine yG ?_;rw[List.length_map,List.length_take];have:sIx (ns.map Dat.int).length (ns.map Dat.int).length (some 14)<=14:=by
   simp[sIx];lia
  unfold lim;lia
theorem zhL {cl:Nat->List Dat->Rd}{de:DEn}(a lo hi:Ex):evD cl (.slB a lo hi) de=(evD cl a de).bind λx=>(evD cl lo de).bind λy=>match y with
  | .int i=>(evD cl hi de).bind λz=>match z with
   | .int j=>slD x (some i) (some j)
   | _=>.no
  | _=>.no:=rfl
set_option tactic.hygienic true in
theorem zd5 (ns:List Int):CD 9 52 [.scr ns]=.ok (.bl true):=by
 rw[zI (d:=8) (f:=f52) rfl];obtain ⟨c0,h0⟩:=H15 7 ns 0;obtain ⟨c1,h1⟩:=H15 7 ns 1;obtain ⟨c2,h2⟩:=H15 7 ns 2;obtain ⟨n,hn1,hn2,h4⟩:=H18 7 c0;obtain ⟨X,hX,h6⟩:=H19 6 hn1 hn2 c1;have h8:=H20 7 X (by have:=hX.len;lia);have D:=Dr.mk' hX hn1 hn2;generalize sg X=R at *
 have h0':CD 8 42 [.scr ns,.int 0]=.ok (.int c0):=h0;have h1':CD 8 42 [.scr ns,.int 1]=.ok (.int c1):=h1;have h2':CD 8 42 [.scr ns,.int 2]=.ok (.int c2):=h2;have hrng4:wE (.int 0) (.int 4) (.int 1)=.ok (.tup [.int 0,.int 1,.int 2,.int 3]):=rfl;obtain ⟨cs,hcs,hsl⟩:=zhK ns;suffices hs:zb5 (exD xm (CD 8) f52.body [some (.scr ns),none,none,none,none,none,none,none,none,none] [lvF (.scr ns),.full,.full,.full,.full,.full,.full,.full,.full,.full]) by
  obtain ⟨l,hs⟩:=hs;unfold zq;rw[if_pos (by rfl)];show zt _ (exD xm (CD 8) f52.body [some (.scr ns),none,none,none,none,none,none,none,none,none] [lvF (.scr ns),.full,.full,.full,.full,.full,.full,.full,.full,.full])=_;rw[hs];simp[zt]
 unfold f52;refine vO (d:=.int n) (by simp only[zo,zi,zh,za,ze,zjT,zg,h0',h4]) rfl λlv1=>?_;simp only[List.set_cons_succ,List.set_cons_zero];refine vO (d:=tab X) (by simp only[zo,zi,zh,za,zd,ze,zjT,zg,h1',h6]) rfl λlv2=>?_;simp only[List.set_cons_succ,List.set_cons_zero];refine vO (d:=tab R) (by simp only[zo,zi,zh,za,zd,zjT,zg,h8]) rfl λlv3=>?_;simp only[List.set_cons_succ,List.set_cons_zero];refine vO (d:=tab R) (zfR (cl:=CD 8) (by have:=D.len;lia) D.sq _ 3 10 rfl (by simp)) rfl λlv4=>?_;simp only[List.set_cons_succ,List.set_cons_zero];refine vO (d:=duL n X R) (by
  simp only[yI,zo,zi,zh,za,zd,zjT,zg,D.d49,D.d47,D.d48];exact yG (show 4<=lim by unfold lim;lia)) rfl λlv5=>?_
 simp only[List.set_cons_succ,List.set_cons_zero];obtain ⟨de',lv',e,o6,rfl⟩:=zO (body:=λx de lv=>exD xm (CD 8) l1B (de.set 6 (some x)) (lv.set 6 (lvF x)))
  (λ_ de lv=>∃o6:Option Dat,de=[some (.scr ns),some (.int n),some (tab X),some (tab R),some (tab R),some (duL n X R),o6,none,none,none])
  [.int 0,.int 1,.int 2,.int 3] (de:=[some (.scr ns),some (.int n),some (tab X),some (tab R),some (tab R),some (duL n X R),none,none,none,none]) (lv:=lv5) ⟨none,rfl⟩ (by
   rintro s x de lv hx ⟨o6,rfl⟩;have go:∀q:Int,0<=q->q < 4->x=.int q->∃de' lv',exD xm (CD 8) l1B (List.set [some (.scr ns),some (.int n),some (tab X),some (tab R),some (tab R),some (duL n X R),o6,none,none,none] 6 (some x)) (lv.set 6 (lvF x))=.next de' lv'/\∃o6:Option Dat,de'=[some (.scr ns),some (.int n),some (tab X),some (tab R),some (tab R),some (duL n X R),o6,none,none,none]:=by
    rintro q q0 q1 rfl;exact ⟨_,_,zfG D q0 q1 _ _ _ _ _ _ _,_,rfl⟩
   match s,hx with
   | 0,hx=>cases hx;exact go 0 (by lia) (by lia) rfl
   | 1,hx=>cases hx;exact go 1 (by lia) (by lia) rfl
   | 2,hx=>cases hx;exact go 2 (by lia) (by lia) rfl
   | 3,hx=>cases hx;exact go 3 (by lia) (by lia) rfl
   | s+4,hx=>simp at hx)
 refine za7 rfl (de':=[some (.scr ns),some (.int n),some (tab X),some (tab R),some (tab R),some (duL n X R),o6,none,none,none]) (lv':=lv') ?_ ?_
 .rw[yH];simp only[yn,ze,zjT,hrng4,zjU,yc,yx,q9,zbx,qe,Bool.and_self,if_true];exact e
 refine vO (d:=tab R) (zfR (cl:=CD 8) (by have:=D.len;lia) D.sq _ 3 10 rfl (by simp)) rfl λlv6=>?_;simp only[List.set_cons_succ,List.set_cons_zero];have hadd:evD (CD 8) (.bin .add (.lst (.pair (.call 42 (.pair (.var 0) (.pair (.lit (.int 2)) .unit))) .unit)) (.slB (.var 0) (.lit (.int 3)) (.lit (.int 14)))) [some (.scr ns),some (.int n),some (tab X),some (tab R),some (tab R),some (duL n X R),o6,some (tab R),none,none]=.ok (row (c2::cs)):=by
  simp only[zy,yI,zo,zi,zh,zhL,ze,za,zjT,zg,h2',hsl];rw[yG (show ([.int c2]:List Dat).length<=lim by simp;unfold lim;lia)];simp only[zjT];show yB ([.int c2]++cs.map Dat.int)=_;rw[yG (by simp;unfold lim;lia)];rfl
 obtain ⟨de2,lv7,e2,o8,o9,rfl⟩:=zO (body:=λx de lv=>exD xm (CD 8) l2B (de.set 8 (some x)) (lv.set 8 (lvF x)))
  (λ_ de lv=>∃o8 o9:Option Dat,de=[some (.scr ns),some (.int n),some (tab X),some (tab R),some (tab R),some (duL n X R),o6,some (tab R),o8,o9])
  ((c2::cs).map Dat.int) (de:=[some (.scr ns),some (.int n),some (tab X),some (tab R),some (tab R),some (duL n X R),o6,some (tab R),none,none]) (lv:=if flat (row (c2::cs)) then lv6 else y6 (.bin .add (.lst (.pair (.call 42 (.pair (.var 0) (.pair (.lit (.int 2)) .unit))) .unit)) (.slB (.var 0) (.lit (.int 3)) (.lit (.int 14)))) [some (.scr ns),some (.int n),some (tab X),some (tab R),some (tab R),some (duL n X R),o6,some (tab R),none,none] lv6) ⟨none,none,rfl⟩ (by
   rintro s x de lv hx ⟨o8,o9,rfl⟩;rw[List.getElem?_map] at hx;obtain ⟨c,hc,rfl⟩:=Option.map_eq_some_iff.mp hx;obtain ⟨d9',lv',e⟩:=zfH D c (some (.scr ns)) (some (.int n)) (some (tab X)) o6 o9 (lv.set 8 (lvF (.int c)));exact ⟨_,_,e,_,_,rfl⟩)
 refine za7 rfl (de':=[some (.scr ns),some (.int n),some (tab X),some (tab R),some (tab R),some (duL n X R),o6,some (tab R),o8,o9]) (lv':=lv7) ?_ ?_
 .rw[yH,hadd];simp only[zjU];rw[show itD (row (c2::cs))=some ((c2::cs).map Dat.int) from yJ (by simp;unfold lim;lia)];exact e2
 .exact zhJ (by simp only[zT,za,zd,zjT,zhI])
theorem pure (ns:List Int)(_:ns.length<=63):∃m,xu (D.map (·.fn)) 9 52 [.rol (ns.map Wd.int)] []=.ok (.bl true) m:=ze9 xm T 9 52 ns (zd5 ns)
end R29
namespace Mini
open PySem PySem.Spec PyProof.Rows L2
theorem zja {q:Program}{loose:List Str}{XP:(Str->Option Value)->Heap->Prop}{r:PySem.W.RowW}{d:DefRec}{kwd:List (Str×Expr)}{run:Value->List Value->Sem Value}{K:Params->PySem.W.Frag}{as:List Addr}{n t:Nat}(e:∀P,as=(K P).map (·.1))
  (h:PySem.W.WalkO q loose XP (λw h=>(K w.params).In h) r d kwd run):PySem.W.WalkX q loose XP (PySem.W.X.obsZ as) (PySem.W.X.valZ K n t) r d kwd run :=
 λw s₀ s₁ mg mb G y a o pm cd doc dV kV h1 h2 h3 h4 h5 h6 args vals as' L p1 p2 p3 p4 p5=>h w s₀ s₁ mg mb G (PySem.W.InK.keeps (K:=K) w _ _ (PySem.W.X.z_facts e y).2.1 L.keeps) a o pm cd doc dV kV h1 h2 h3 h4 h5 h6 args vals as' p1 p2 p3 p4 p5
end Mini
namespace R29
open PySem L2 Mini PySem.W
theorem dk2 {P:Params}{h:Heap}{mg:Str->Option Value}(X:(K P).In h)(G:h.Ns mainGlobals mg){d:Dfn}{a c:Addr}{m:Value}(g:nsIn (K P) mainGlobals d.nm=some (some (.ref a)))(l:(K P).lookup a=some (fO d.on d.st m c))(k:codeIn (K P) (.ref c) d.on=true):zB (K P) mg d :=
 dk X G g l k (by show (match (K P).lookup a with | some ⟨_,_,.func _,_⟩=>true | some ⟨_,_,.cls _,_⟩=>_ | _=>false)=true;rw[l];rfl)
section
variable (P:Params)
theorem zb:∀nm∈zD,nsIn (K P) mainGlobals nm=some none:=zk (by kernel_rfl) (by kernel_rfl) (by kernel_rfl) (by kernel_rfl) (by kernel_rfl) (by kernel_rfl) (by kernel_rfl) (by kernel_rfl) (by kernel_rfl) (by kernel_rfl) (by kernel_rfl) (by kernel_rfl) (by kernel_rfl) (by kernel_rfl) (by kernel_rfl) (by kernel_rfl) (by kernel_rfl)
end
end R29
open PySem PySem.W PyProof.Rows
set_option maxRecDepth 100000 in
theorem PySem.Challenge.cw_loopgyre_k29_whole_five_forms_holds : PySem.Challenge.rw_loopgyre_k29_whole_five_forms.Holds := by
 w_on;o_law
 refine holds_openX (q:=R29.qv) (loose:=R29.loo) (Xt:=R29.Xt) (XP:=XL R29.qv []) (Yf:=X.obsZ R29.as) (Ya:=X.valZ R29.K 364 649) (N:=4212) R29.hl (λs e=>xl_of s (Bool.and_eq_true_iff.mp e).1) XL.keeps (by rfl) (by rfl) (by rfl) (λs e=>recFacts_of (Bool.and_eq_true_iff.mp e).2) (by rfl) (by assumption) (by decide +kernel) ⟨rfl,rfl,rfl,rfl,rfl,by decide +kernel⟩ ?hw ?hc
 case hw=>w_witness2
 refine Mini.zja (K:=R29.K) (λ_=>rfl) ?_;refine Mini.ziB (l:=PySem.Challenge.rw_loopgyre_k29_whole_five_forms) (D:=R29.D) (C:=R29.C) (k:=9) (i:=52) (dl:=R29.d52) (x := "_law_script") (n:=63) rfl (by decide) rfl ⟨rfl,by decide,by decide⟩ (λw h Y=>Y) rfl R29.zi9 R29.bnd rfl rfl rfl ?F R29.pure
 case F =>
  intro w mg fa h KX G hmg;exact R29.mk KX G (t0:=234) (R29.dk2 KX G (d:=R29.d0) (a:=53) (c:=52) (m:=(.str "loopgyre.kinds" 232)) (by kernel_rfl) (by kernel_rfl) (by kernel_rfl)) (R29.dk2 KX G (d:=R29.d1) (a:=60) (c:=59) (m:=(.str "loopgyre.kinds" 232)) (by kernel_rfl) (by kernel_rfl) (by kernel_rfl)) (R29.dk2 KX G (d:=R29.d2) (a:=67) (c:=66) (m:=(.str "loopgyre.kinds" 232)) (by kernel_rfl) (by kernel_rfl) (by kernel_rfl)) (R29.dk2 KX G (d:=R29.d3) (a:=72) (c:=71) (m:=(.str "loopgyre.kinds" 232)) (by kernel_rfl) (by kernel_rfl) (by kernel_rfl)) (R29.dk2 KX G (d:=R29.d4) (a:=77) (c:=76) (m:=(.str "loopgyre.kinds" 232)) (by kernel_rfl) (by kernel_rfl) (by kernel_rfl)) (R29.dk2 KX G (d:=R29.d5) (a:=82) (c:=81) (m:=(.str "loopgyre.kinds" 232)) (by kernel_rfl) (by kernel_rfl) (by kernel_rfl)) (R29.dk2 KX G (d:=R29.d6) (a:=87) (c:=86) (m:=(.str "loopgyre.kinds" 232)) (by kernel_rfl) (by kernel_rfl) (by kernel_rfl)) (R29.dk2 KX G (d:=R29.d7) (a:=92) (c:=91) (m:=(.str "loopgyre.kinds" 232)) (by kernel_rfl) (by kernel_rfl) (by kernel_rfl)) (R29.dk2 KX G (d:=R29.d8) (a:=97) (c:=96) (m:=(.str "loopgyre.signs" 288)) (by kernel_rfl) (by kernel_rfl) (by kernel_rfl)) (R29.dk2 KX G (d:=R29.d9) (a:=102) (c:=101) (m:=(.str "loopgyre.triangles" 296)) (by kernel_rfl) (by kernel_rfl) (by kernel_rfl)) (R29.dk2 KX G (d:=R29.d10) (a:=107) (c:=106) (m:=(.str "loopgyre.triangles" 296)) (by kernel_rfl) (by kernel_rfl) (by kernel_rfl)) (R29.dk2 KX G (d:=R29.d11) (a:=112) (c:=111) (m:=(.str "loopgyre.triangles" 296)) (by kernel_rfl) (by kernel_rfl) (by kernel_rfl)) (R29.dk2 KX G (d:=R29.d12) (a:=119) (c:=118) (m:=(.str "loopgyre.triangles" 296)) (by kernel_rfl) (by kernel_rfl) (by kernel_rfl)) (R29.dk2 KX G (d:=R29.d13) (a:=126) (c:=125) (m:=(.str "loopgyre.triangles" 296)) (by kernel_rfl) (by kernel_rfl) (by kernel_rfl)) (R29.dk2 KX G (d:=R29.d14) (a:=131) (c:=130) (m:=(.str "loopgyre.triangles" 296)) (by kernel_rfl) (by kernel_rfl) (by kernel_rfl)) (R29.dk2 KX G (d:=R29.d15) (a:=136) (c:=135) (m:=(.str "loopgyre.triangles" 296)) (by kernel_rfl) (by kernel_rfl) (by kernel_rfl)) (R29.dk2 KX G (d:=R29.d16) (a:=143) (c:=142) (m:=(.str "loopgyre.triangles" 296)) (by kernel_rfl) (by kernel_rfl) (by kernel_rfl)) (R29.dk2 KX G (d:=R29.d17) (a:=150) (c:=149) (m:=(.str "loopgyre.arrows" 356)) (by kernel_rfl) (by kernel_rfl) (by kernel_rfl)) (R29.dk2 KX G (d:=R29.d18) (a:=155) (c:=154) (m:=(.str "loopgyre.arrows" 356)) (by kernel_rfl) (by kernel_rfl) (by kernel_rfl)) (R29.dk2 KX G (d:=R29.d19) (a:=160) (c:=159) (m:=(.str "loopgyre.arrows" 356)) (by kernel_rfl) (by kernel_rfl) (by kernel_rfl)) (R29.dk2 KX G (d:=R29.d20) (a:=167) (c:=166) (m:=(.str "loopgyre.arrows" 356)) (by kernel_rfl) (by kernel_rfl) (by kernel_rfl)) (R29.dk2 KX G (d:=R29.d21) (a:=174) (c:=173) (m:=(.str "loopgyre.arrows" 356)) (by kernel_rfl) (by kernel_rfl) (by kernel_rfl)) (R29.dk2 KX G (d:=R29.d22) (a:=181) (c:=180) (m:=(.str "loopgyre.arrows" 356)) (by kernel_rfl) (by kernel_rfl) (by kernel_rfl)) (R29.dk2 KX G (d:=R29.d23) (a:=186) (c:=185) (m:=(.str "loopgyre.arrows" 356)) (by kernel_rfl) (by kernel_rfl) (by kernel_rfl)) (R29.dk2 KX G (d:=R29.d24) (a:=191) (c:=190) (m:=(.str "loopgyre.arrows" 356)) (by kernel_rfl) (by kernel_rfl) (by kernel_rfl)) (R29.dk2 KX G (d:=R29.d25) (a:=198) (c:=197) (m:=(.str "loopgyre.heights" 428)) (by kernel_rfl) (by kernel_rfl) (by kernel_rfl)) (R29.dk2 KX G (d:=R29.d26) (a:=203) (c:=202) (m:=(.str "loopgyre.heights" 428)) (by kernel_rfl) (by kernel_rfl) (by kernel_rfl)) (R29.dk2 KX G (d:=R29.d27) (a:=210) (c:=209) (m:=(.str "loopgyre.heights" 428)) (by kernel_rfl) (by kernel_rfl) (by kernel_rfl)) (R29.dk2 KX G (d:=R29.d28) (a:=217) (c:=216) (m:=(.str "loopgyre.heights" 428)) (by kernel_rfl) (by kernel_rfl) (by kernel_rfl)) (R29.dk2 KX G (d:=R29.d29) (a:=224) (c:=223) (m:=(.str "loopgyre.heights" 428)) (by kernel_rfl) (by kernel_rfl) (by kernel_rfl)) (R29.dk2 KX G (d:=R29.d30) (a:=231) (c:=230) (m:=(.str "loopgyre.heights" 428)) (by kernel_rfl) (by kernel_rfl) (by kernel_rfl)) (R29.dk2 KX G (d:=R29.d31) (a:=238) (c:=237) (m:=(.str "loopgyre.heights" 428)) (by kernel_rfl) (by kernel_rfl) (by kernel_rfl)) (R29.dk2 KX G (d:=R29.d32) (a:=243) (c:=242) (m:=(.str "loopgyre.heights" 428)) (by kernel_rfl) (by kernel_rfl) (by kernel_rfl)) (R29.dk2 KX G (d:=R29.d33) (a:=248) (c:=247) (m:=(.str "loopgyre.heights" 428)) (by kernel_rfl) (by kernel_rfl) (by kernel_rfl)) (R29.dk2 KX G (d:=R29.d34) (a:=255) (c:=254) (m:=(.str "loopgyre.heights" 428)) (by kernel_rfl) (by kernel_rfl) (by kernel_rfl)) (R29.dk2 KX G (d:=R29.d35) (a:=262) (c:=261) (m:=(.str "loopgyre.sides" 512)) (by kernel_rfl) (by kernel_rfl) (by kernel_rfl)) (R29.dk2 KX G (d:=R29.d36) (a:=267) (c:=266) (m:=(.str "loopgyre.sides" 512)) (by kernel_rfl) (by kernel_rfl) (by kernel_rfl)) (R29.dk2 KX G (d:=R29.d37) (a:=272) (c:=271) (m:=(.str "loopgyre.sides" 512)) (by kernel_rfl) (by kernel_rfl) (by kernel_rfl)) (R29.dk2 KX G (d:=R29.d38) (a:=277) (c:=276) (m:=(.str "loopgyre.sides" 512)) (by kernel_rfl) (by kernel_rfl) (by kernel_rfl)) (R29.dk2 KX G (d:=R29.d39) (a:=282) (c:=281) (m:=(.str "loopgyre.sides" 512)) (by kernel_rfl) (by kernel_rfl) (by kernel_rfl)) (R29.dk2 KX G (d:=R29.d40) (a:=289) (c:=288) (m:=(.str "loopgyre.sides" 512)) (by kernel_rfl) (by kernel_rfl) (by kernel_rfl)) (R29.dk2 KX G (d:=R29.d41) (a:=296) (c:=295) (m:=(.str "loopgyre.sides" 512)) (by kernel_rfl) (by kernel_rfl) (by kernel_rfl)) (R29.dk2 KX G (d:=R29.d42) (a:=303) (c:=302) (m:=(.str "law_loopgyre_k29_whole_five_forms" 560)) (by kernel_rfl) (by kernel_rfl) (by kernel_rfl)) (R29.dk2 KX G (d:=R29.d43) (a:=310) (c:=309) (m:=(.str "law_loopgyre_k29_whole_five_forms" 560)) (by kernel_rfl) (by kernel_rfl) (by kernel_rfl)) (R29.dk2 KX G (d:=R29.d44) (a:=317) (c:=316) (m:=(.str "law_loopgyre_k29_whole_five_forms" 560)) (by kernel_rfl) (by kernel_rfl) (by kernel_rfl)) (R29.dk2 KX G (d:=R29.d45) (a:=324) (c:=323) (m:=(.str "law_loopgyre_k29_whole_five_forms" 560)) (by kernel_rfl) (by kernel_rfl) (by kernel_rfl)) (R29.dk2 KX G (d:=R29.d46) (a:=329) (c:=328) (m:=(.str "law_loopgyre_k29_whole_five_forms" 560)) (by kernel_rfl) (by kernel_rfl) (by kernel_rfl)) (R29.dk2 KX G (d:=R29.d47) (a:=334) (c:=333) (m:=(.str "law_loopgyre_k29_whole_five_forms" 560)) (by kernel_rfl) (by kernel_rfl) (by kernel_rfl)) (R29.dk2 KX G (d:=R29.d48) (a:=339) (c:=338) (m:=(.str "law_loopgyre_k29_whole_five_forms" 560)) (by kernel_rfl) (by kernel_rfl) (by kernel_rfl)) (R29.dk2 KX G (d:=R29.d49) (a:=344) (c:=343) (m:=(.str "law_loopgyre_k29_whole_five_forms" 560)) (by kernel_rfl) (by kernel_rfl) (by kernel_rfl)) (R29.dk2 KX G (d:=R29.d50) (a:=351) (c:=350) (m:=(.str "law_loopgyre_k29_whole_five_forms" 560)) (by kernel_rfl) (by kernel_rfl) (by kernel_rfl)) (R29.dk2 KX G (d:=R29.d51) (a:=358) (c:=357) (m:=(.str "law_loopgyre_k29_whole_five_forms" 560)) (by kernel_rfl) (by kernel_rfl) (by kernel_rfl)) (R29.dk2 KX G (d:=R29.d52) (a:=363) (c:=362) (m:=(.str "law_loopgyre_k29_whole_five_forms" 560)) (by kernel_rfl) (by kernel_rfl) (by kernel_rfl)) (by kernel_rfl) (R29.zb w.params)
