import PyProof.Rows.All
import Wide.All
import OpenK.AllK
import Wide.FinOn
import Lean
import PyProof.EqAt
import PyProof.EqKinds
import PyProof.TupleCall
import PyProof.NeKinds
import PyProof.StationsW
import PyProof.RulesAs
import PyProof.ExcClass3
import PyProof.ExcInit
import PyProof.ExcArgsOwn
import PyProof.IsiH_set
import PyProof.NsDelKeeps
import PyProof.CompFree
import PySem.Challenge.RW_stow_k92_whole_spoilt_and_mended
open PySem.W (BT absHeap boot_drawn boot_heap boot_o_2 boot_toks callWith_K cellsFrom_some codeIn emptyDict excIn findCls findObj_own fnOf handedIn hasDictIn instObj isFn keepIn kia_one kitOne kitx_dict kitx_list lookIn makesIn methodCall_KW methodObj mg_of nsIn piece_app piecesOf plainGet plainGet_of plainOver readsIn segRunT segRun_of specialIn takerIn takesIn topFrame topRun topStub)
set_option Elab.async false
set_option compiler.extract_closed false
set_option linter.all false
set_option maxRecDepth 100000
set_option maxHeartbeats 4000000
set_option maxRecDepth 100000 in
theorem Stow.said0:PySem.Challenge.rw_stow_k92_whole_spoilt_and_mended.wellSaid=true:=by decide +kernel
namespace L2
open PySem PySem.Spec PyProof.Rows
def Aq (s:Stmt)(j:Nat):Stmt:=match s with
 | .ClassDef _ _ _ body _ _ _ _ _ _ _=>body.getD j (.Pass ⟨0,0,0,0⟩)
 | _=>.Pass ⟨0,0,0,0⟩
def A7 (s:Stmt):Arguments:=match s with
 | .FunctionDef _ a _ _ _ _ _ _ _ _=>a
 | _=>{ posonlyargs:=[],args:=[],vararg:=none,kwonlyargs:=[],kw_defaults:=[],kwarg:=none,defaults:=[] }
def AX (s:Stmt):List Stmt:=match s with
 | .FunctionDef _ _ b _ _ _ _ _ _ _=>b
 | _=>[]
def An (s:Stmt):Scope:=match s with
 | .FunctionDef _ _ _ _ _ _ sc _ _ _=>sc
 | _=>{ kind:=.function,names:=[],isGenerator:=false,isCoroutine:=false }
end L2
namespace Stow
open PySem L2 PyProof.Rows
abbrev bN (o:Obj)(l r:BT):BT:=.node o l r
abbrev bF (o:Obj):BT:=.node o .nil .nil
noncomputable section
def top (i:Nat):Stmt:=PySem.Challenge.pw_stow_k92_whole_spoilt_and_mended.main.body.getD i (.Pass ⟨0,0,0,0⟩)
noncomputable def en (P:Params)(s:Str)(t:Tok)(v:Value):DictEntry:=⟨PyData.keyHash P s,.str s t,v⟩
noncomputable def fo (nm qn:Str)(st:Stmt)(dV kV dc pm:Value)(an:Option Addr)(cd ct:Value)(od:Option Addr):Obj:=⟨.type "function",od,.func (fnOf nm qn (A7 st) (AX st) (An st) dV kV dc pm an cd ct),#[]⟩
noncomputable def fq (nm qn:Str)(st:Stmt):Obj:=⟨.none,none,.func { name:=nm,qualname:=qn,params:=A7 st,body:=.stmts (AX st),scope:=An st,globals:=0,closure:=[],defaults:=.none,kwdefaults:=.none },#[]⟩
noncomputable def tu (l:List Value):Obj:=⟨(.type "tuple"),none,.seq l.toArray 0,#[]⟩
noncomputable def fl (l:List Value):Obj:=⟨.none,none,.fields l.toArray,#[]⟩
noncomputable def co (l:List Value):Obj:=⟨(.type "code"),none,.fields l.toArray,#[]⟩
noncomputable abbrev vI (n:Int):Value:=.int n 0
noncomputable abbrev vR (n:Addr):Value:=.ref n
noncomputable abbrev cp (a b:Str)(t:Tok)(l:List Value):Obj:=co ((.str a t)::(.str b (t+1))::(.str "/claim/cut.py" (t+2))::l)
noncomputable def xk0 (a b:Str)(t:Tok)(l n x:Int)(r:Addr)(u:Int)(v:Tok):Obj:=cp a b t (vI l::vI n::vI 0::vI 0::vI x::vR r::(.bool false)::vI 181::vR (r+1)::.none::.none::.none::.none::vI u::vI l::(.str "/claim/cut.py" v)::[])
noncomputable def xfm0 (l:List (Option Value)):Obj:=⟨(.type "frame"),none,.plain,l.toArray⟩
noncomputable def xk1 (a b:Str)(t:Tok)(l n x:Int)(r:Addr)(u:Int)(v:Tok):Obj:=cp a b t (vI l::vI n::vI 0::vI 0::vI x::vR r::(.bool true)::vI 181::vR (r+1)::.none::vR (r+2)::vR (r+3)::vR (r+4)::vI u::vI l::(.str "/claim/cut.py" v)::[])
noncomputable def xbi0 (l:List Value):Obj:=⟨(.type "builtin_function_or_method"),none,.fields l.toArray,#[]⟩
noncomputable def xsu0 (l:List Value):Obj:=⟨(.type "super"),none,.fields l.toArray,#[]⟩
def AH:Obj:=⟨(.type "tuple"),none,.seq #[] 0,#[]⟩
def Bs:Obj:=⟨.none,none,.fields #[],#[]⟩
noncomputable def tn (t:Tok)(l:List Str):List Value:=l.foldr (fun s f t=>.str s t::f (t+1)) (fun _=>[]) t
noncomputable def f3 (l:List (Int×Int×Addr)):List Value:=l.flatMap fun p=>[vI p.1,vI p.2.1,vR p.2.2]
noncomputable def rs (l:List Addr):List Value:=l.map .ref
noncomputable def fm (n q:Str)(s:Stmt)(m:Value)(c:Addr):Obj:=fo n q s .none .none .none m none (.ref c) .none none
noncomputable def fn (n:Str)(s:Stmt)(m:Value)(c:Addr):Obj:=fm n n s m c
noncomputable def fd (n q:Str)(s:Stmt)(d:Addr)(m:Value)(c:Addr):Obj:=fo n q s (.ref d) .none .none m none (.ref c) .none none
noncomputable def xf (a b:Addr)(m:Value):Obj:=xfm0 ((some (.ref a))::(some (.ref 3))::(some (.ref b))::none::(some m)::none::(some (.ref 0))::[])
noncomputable def xs (a:Addr):Obj:=xsu0 ((.ref a)::(.ref a)::(.ref a)::[])
noncomputable def xb (a:Addr):Obj:=xbi0 ((.builtin "object.__init_subclass__")::(.ref a)::[])
noncomputable def eM (P:Params)(t:Tok)(m:Value):DictEntry:=en P "__module__" t m
noncomputable def eL (P:Params)(l:Int)(t:Tok):DictEntry:=en P "__firstlineno__" (t+1) (.int l t)
noncomputable def eQ (P:Params)(n:Str)(t:Tok):DictEntry:=en P "__qualname__" (t+1) (.str n t)
noncomputable def eS (P:Params)(t:Tok)(a:Addr):DictEntry:=en P "__static_attributes__" t (.ref a)
noncomputable def eD (P:Params)(t:Tok):DictEntry:=en P "__doc__" t .none
noncomputable def eF (P:Params)(n:Str)(t:Tok)(a:Addr):DictEntry:=en P n t (.ref a)
noncomputable def dd (l:List DictEntry)(n:Nat):Obj:=⟨(.type "dict"),none,.dict l.toArray n,#[]⟩
noncomputable def cX (n:Str)(b:List Value)(r:List Addr)(w:List Value)(d:Addr)(u:List Value)(x:Addr)(t v:Tok)(e:String):Obj:=⟨(.type "type"),none,.cls ⟨n,b,rs r++w,d,n,true,[],u,false,none,false⟩,((some (.ref x))::none::(some (.str n t))::(some (.str n v))::(some (.builtin e))::(some (.bool true))::[]).toArray⟩
noncomputable def cO (n:Str)(b:List Value)(r:List Addr)(d:Addr)(u:List Value)(x:Addr)(t v:Tok):Obj:=cX n b r [(.type "object")] d u x t v "object.__new__"
noncomputable def cV (n:Str)(b:List Value)(r:List Addr)(d:Addr)(u:List Value)(x:Addr)(t v:Tok):Obj:=cX n b r [(.type "ValueError"),(.type "Exception"),(.type "BaseException"),(.type "object")] d u x t v "ValueError.__new__"
noncomputable def dq (t:Tok)(l:List Str)(n q:Str)(s:Stmt)(c f:Obj)(r:List Obj):List Obj:=AH::Bs::tu (tn t l)::AH::fq n q s::c::f::r
noncomputable def dg (t:Tok)(l:List Str)(n:Str)(s:Stmt)(c f:Obj)(r:List Obj):List Obj:=dq t l n n s c f r
noncomputable def sp2 (l:List Obj):List Obj×List Obj:=l.foldr (fun x p=>(x::p.2,p.1)) ([],[])
noncomputable def bt:Nat->List Obj->BT
 | n+1,x::r=>.node x (bt n (sp2 r).1) (bt n (sp2 r).2)
 | _,_=>.nil
noncomputable def up (l:List Obj)(u:List (Nat×Obj)):List Obj:=u.foldl (fun l p=>l.set p.1 p.2) l
noncomputable def mo0:Value:=.str "__main__" 164
noncomputable def mo1:Value:=.str "stow.errors" 194
noncomputable def mo2:Value:=.str "stow.asks" 367
noncomputable def mo3:Value:=.str "stow.marks" 387
noncomputable def mo4:Value:=.str "stow.looks" 411
noncomputable def mo5:Value:=.str "stow.pieces" 460
noncomputable def mo6:Value:=.str "stow.mending" 579
noncomputable def mo7:Value:=.str "stow.keepers" 618
noncomputable def mo8:Value:=.str "stow.halves" 769
noncomputable def mo9:Value:=.str "stow.rows" 858
noncomputable def mo10:Value:=.str "stow.shelves" 908
noncomputable def mo11:Value:=.str "stow.places" 1024
noncomputable def mo12:Value:=.str "stow.stretches" 1051
noncomputable def mo13:Value:=.str "stow.kinds" 1262
noncomputable def mo14:Value:=.str "law_stow_k92_whole_spoilt_and_mended" 1274
def FV:Obj:=xk0 "<module>" "<module>" 182 1 0 0 11 185 186
def Zu:Obj:=xf 13 3 mo0
def IF:Obj:=xk1 "_wall" "_wall" 187 1 1 3 15 191 192
def IG:Obj:=fn "_wall" (top 0) mo0 20
def AU:Obj:=xbi0 ((.builtin "type.__prepare__")::(.type "type")::[])
def IH (P:Params):Obj:=dd (eM P 203 mo1::eQ P "StowError" 204::eL P 5 206::eS P 208 29::[]) 4
def II (P:Params):Obj:=dd (eM P 203 mo1::eL P 5 206::eS P 208 29::eF P "__weakref__" 210 32::eD P 211::[]) 3
def B4:Obj:=tu (vR 31::[])
def IJ (P:Params):Obj:=dd (eM P 221 mo1::eQ P "NoName" 222::eL P 7 224::eS P 226 42::[]) 4
def IK (P:Params):Obj:=dd (eM P 221 mo1::eL P 7 224::eS P 226 42::eD P 227::[]) 2
def IL:Obj:=cV "NoName" (rs [31]) [44,31] 43 (rs []) 35 214 222
def IM (P:Params):Obj:=dd (eM P 237 mo1::eQ P "NoSize" 238::eL P 9 240::eS P 242 54::[]) 4
def IN (P:Params):Obj:=dd (eM P 237 mo1::eL P 9 240::eS P 242 54::eD P 243::[]) 2
def IO:Obj:=cV "NoSize" (rs [31]) [56,31] 55 (rs []) 47 230 238
def IP (P:Params):Obj:=dd (eM P 253 mo1::eQ P "Broken" 254::eL P 11 256::eF P "__init__" 265 72::eS P 267 73::[]) 5
def IQ:Obj:=xk1 "__init__" "Broken.__init__" 258 13 2 3 66 263 264
def IR:Obj:=fm "__init__" "Broken.__init__" (Aq (top 5) 0) mo1 71
def IS (P:Params):Obj:=dd (eM P 253 mo1::eL P 11 256::eF P "__init__" 265 72::eS P 267 73::eD P 268::[]) 2
def IT:Obj:=cV "Broken" (rs [31]) [75,31] 74 (rs []) 59 246 254
def IU (P:Params):Obj:=dd (eM P 278 mo1::eQ P "NoGive" 279::eL P 15 281::eS P 283 85::[]) 4
def IV (P:Params):Obj:=dd (eM P 278 mo1::eL P 15 281::eS P 283 85::eD P 284::[]) 2
def IW:Obj:=cV "NoGive" (rs [31]) [87,31] 86 (rs []) 78 271 279
def IX (P:Params):Obj:=dd (eM P 294 mo1::eQ P "NoPiece" 295::eL P 17 297::eS P 299 97::[]) 4
def IY (P:Params):Obj:=dd (eM P 294 mo1::eL P 17 297::eS P 299 97::eD P 300::[]) 2
def IZ:Obj:=cV "NoPiece" (rs [31]) [99,31] 98 (rs []) 90 287 295
def I0 (P:Params):Obj:=dd (eM P 310 mo1::eQ P "NoCell" 311::eL P 19 313::eS P 315 109::[]) 4
def ST (P:Params):Obj:=dd (eM P 310 mo1::eL P 19 313::eS P 315 109::eD P 316::[]) 2
def SU:Obj:=cV "NoCell" (rs [31]) [111,31] 110 (rs []) 102 303 311
def SV (P:Params):Obj:=dd (eM P 326 mo1::eQ P "NoAsk" 327::eL P 21 329::eS P 331 121::[]) 4
def SW (P:Params):Obj:=dd (eM P 326 mo1::eL P 21 329::eS P 331 121::eD P 332::[]) 2
def SX:Obj:=cV "NoAsk" (rs [31]) [123,31] 122 (rs []) 114 319 327
def SY:Obj:=cV "StowError" [(.type "ValueError")] [31] 30 (rs [44,56,75,87,99,111,123,135,147]) 22 196 204
def SZ (P:Params):Obj:=dd (eM P 342 mo1::eQ P "NoBound" 343::eL P 23 345::eS P 347 133::[]) 4
def S0 (P:Params):Obj:=dd (eM P 342 mo1::eL P 23 345::eS P 347 133::eD P 348::[]) 2
def S8:Obj:=cV "NoBound" (rs [31]) [135,31] 134 (rs []) 126 335 343
def S9 (P:Params):Obj:=dd (eM P 358 mo1::eQ P "NoRoom" 359::eL P 25 361::eS P 363 145::[]) 4
def Ta (P:Params):Obj:=dd (eM P 358 mo1::eL P 25 361::eS P 363 145::eD P 364::[]) 2
def Tb:Obj:=cV "NoRoom" (rs [31]) [147,31] 146 (rs []) 138 351 359
def Tc:Obj:=xk1 "check_ask" "check_ask" 371 29 2 3 150 376 377
def Td:Obj:=fn "check_ask" (top 14) mo2 155
def Te:Obj:=xk1 "check_plain_ask" "check_plain_ask" 379 32 2 3 157 384 385
def Tf:Obj:=fn "check_plain_ask" (top 15) mo2 162
def Tg:Obj:=xk1 "mark_of" "mark_of" 389 37 2 3 164 394 395
def Th:Obj:=fn "mark_of" (top 17) mo3 169
def Ti:Obj:=xk1 "long_of" "long_of" 397 41 1 3 171 401 402
def Tj:Obj:=fn "long_of" (top 18) mo3 176
def Tk:Obj:=xk1 "live_of" "live_of" 404 43 1 3 178 408 409
def Tl:Obj:=fn "live_of" (top 19) mo3 183
def Tm:Obj:=xk1 "can_begin" "can_begin" 415 47 2 3 185 421 422
def Tn:Obj:=fn "can_begin" (top 22) mo4 190
def To:Obj:=xk1 "bad_of_piece" "bad_of_piece" 424 52 2 3 192 430 431
def Tp:Obj:=fn "bad_of_piece" (top 23) mo4 197
def Tq:Obj:=xk1 "looked" "looked" 433 59 1 3 199 441 442
def Tr:Obj:=fn "looked" (top 24) mo4 204
def Ts:Obj:=xk1 "first_bad" "first_bad" 444 70 1 3 206 449 450
def Tt:Obj:=fn "first_bad" (top 25) mo4 211
def Tu:Obj:=xk1 "fresh_room" "fresh_room" 452 76 1 3 213 457 458
def Tv:Obj:=fn "fresh_room" (top 26) mo4 218
def Tw:Obj:=xk1 "laid" "laid" 462 84 4 3 220 470 471
def Tx:Obj:=fn "laid" (top 28) mo5 225
def Ty:Obj:=xk1 "laid_free" "laid_free" 473 89 3 3 227 479 480
def Tz:Obj:=fn "laid_free" (top 29) mo5 232
def TB:Obj:=xk1 "piece_at" "piece_at" 482 93 2 3 234 488 489
def TC:Obj:=fn "piece_at" (top 30) mo5 239
def TD:Obj:=xk1 "live_at" "live_at" 491 98 2 3 241 497 498
def TF:Obj:=fn "live_at" (top 31) mo5 246
def TJ:Obj:=xk1 "free_at" "free_at" 500 103 2 3 248 506 507
def TK:Obj:=fn "free_at" (top 32) mo5 253
def TM:Obj:=cp "begin_around" "begin_around" 509 (vI 108::vI 2::vI 0::vI 0::vI 3::vR 255::(.bool true)::vI 181::vR 256::.none::.none::.none::vR 257::vI 512::vI 108::(.str "/claim/cut.py" 513)::[])
def TN:Obj:=fn "begin_around" (top 33) mo5 258
def TQ:Obj:=xk1 "free_begin" "free_begin" 515 111 2 3 260 520 521
def TR:Obj:=fn "free_begin" (top 34) mo5 265
def TU:Obj:=xk1 "free_end" "free_end" 523 115 2 3 267 528 529
def TV:Obj:=fn "free_end" (top 35) mo5 272
def TW:Obj:=xk1 "cut_out" "cut_out" 531 119 4 3 274 543 544
def TY:Obj:=fn "cut_out" (top 36) mo5 279
def TZ:Obj:=xk1 "freed" "freed" 546 127 2 3 281 554 555
def T0:Obj:=fn "freed" (top 37) mo5 286
def T1:Obj:=xk1 "joined_pieces" "joined_pieces" 557 130 1 3 288 565 566
def T2:Obj:=fn "joined_pieces" (top 38) mo5 293
def T3:Obj:=xk1 "joined" "joined" 568 138 1 3 295 576 577
def T4:Obj:=fn "joined" (top 39) mo5 300
def T5:Obj:=cp "pieces_up_to" "pieces_up_to" 581 (vI 144::vI 1::vI 0::vI 0::vI 3::vR 302::(.bool true)::vI 181::vR 303::.none::.none::.none::vR 304::vI 584::vI 144::(.str "/claim/cut.py" 585)::[])
def T6:Obj:=fn "pieces_up_to" (top 41) mo6 305
def T7:Obj:=cp "changes_for" "changes_for" 587 (vI 147::vI 4::vI 0::vI 0::vI 3::vR 307::(.bool true)::vI 181::vR 308::.none::.none::.none::vR 309::vI 590::vI 147::(.str "/claim/cut.py" 591)::[])
def T8:Obj:=fn "changes_for" (top 42) mo6 310
def T9:Obj:=cp "cheapest_ways" "cheapest_ways" 593 (vI 151::vI 1::vI 0::vI 0::vI 3::vR 312::(.bool true)::vI 181::vR 313::.none::.none::.none::vR 314::vI 596::vI 151::(.str "/claim/cut.py" 597)::[])
def Ua:Obj:=fn "cheapest_ways" (top 43) mo6 315
def Ub:Obj:=cp "prices_of" "prices_of" 599 (vI 157::vI 1::vI 0::vI 0::vI 3::vR 317::(.bool true)::vI 181::vR 318::.none::.none::.none::vR 319::vI 602::vI 157::(.str "/claim/cut.py" 603)::[])
def Uc:Obj:=fn "prices_of" (top 44) mo6 320
def Ud:Obj:=xk1 "mended" "mended" 605 159 1 3 322 615 616
def Ue:Obj:=fn "mended" (top 45) mo6 327
def Uf (P:Params):Obj:=dd (eM P 627 mo7::eQ P "Keeper" 628::eL P 169 630::eF P "__init__" 639 342::eF P "cells" 646 349::eF P "pieces" 653 356::eF P "lay" 661 363::eF P "clear" 668 370::eF P "many" 679 377::eF P "get" 688 384::eF P "put" 699 391::eF P "ask" 709 399::eF P "give" 720 406::eF P "grow" 731 414::eF P "room_begin" 739 421::eF P "room_cell_of" 749 428::eF P "room_moved" 759 435::eS P 761 436::[]) 18
def Ug:Obj:=xk1 "__init__" "Keeper.__init__" 632 171 2 3 336 637 638
def Uh:Obj:=fm "__init__" "Keeper.__init__" (Aq (top 47) 0) mo7 341
def Ui:Obj:=xk1 "cells" "Keeper.cells" 640 174 1 3 343 644 645
def Uj:Obj:=fm "cells" "Keeper.cells" (Aq (top 47) 1) mo7 348
def Uk:Obj:=xk1 "pieces" "Keeper.pieces" 647 177 1 3 350 651 652
def Ul:Obj:=fm "pieces" "Keeper.pieces" (Aq (top 47) 2) mo7 355
def Um:Obj:=xk1 "lay" "Keeper.lay" 654 180 2 3 357 659 660
def Uo:Obj:=fm "lay" "Keeper.lay" (Aq (top 47) 3) mo7 362
def Up:Obj:=xk1 "many" "Keeper.many" 669 189 2 3 371 677 678
def Uq:Obj:=fm "many" "Keeper.many" (Aq (top 47) 5) mo7 376
def Ur:Obj:=xk1 "put" "Keeper.put" 689 196 4 3 385 697 698
def Us:Obj:=fm "put" "Keeper.put" (Aq (top 47) 7) mo7 390
def Ut:Obj:=xk1 "room_begin" "Keeper.room_begin" 732 211 2 3 415 737 738
def Uu:Obj:=fm "room_begin" "Keeper.room_begin" (Aq (top 47) 11) mo7 420
def Uv:Obj:=xk1 "room_cell_of" "Keeper.room_cell_of" 740 214 3 3 422 747 748
def Uw:Obj:=fm "room_cell_of" "Keeper.room_cell_of" (Aq (top 47) 12) mo7 427
def Ux (P:Params):Obj:=dd (eM P 627 mo7::eL P 169 630::eF P "__init__" 639 342::eF P "cells" 646 349::eF P "pieces" 653 356::eF P "lay" 661 363::eF P "clear" 668 370::eF P "many" 679 377::eF P "get" 688 384::eF P "put" 699 391::eF P "ask" 709 399::eF P "give" 720 406::eF P "grow" 731 414::eF P "room_begin" 739 421::eF P "room_cell_of" 749 428::eF P "room_moved" 759 435::eS P 761 436::eF P "__dict__" 763 439::eF P "__weakref__" 765 440::eD P 766::[]) 4
def Uy:Obj:=⟨(.type "type"),none,.cls ⟨"Keeper",[(.type "object")],[(.ref 438),(.type "object")],437,"Keeper",true,[],[(.ref 507),(.ref 542),(.ref 626),(.ref 703)],false,none,false⟩,(none::none::(some (.str "Keeper" 620))::(some (.str "Keeper" 628))::(some (.builtin "object.__new__"))::(some (.bool true))::[]).toArray⟩
def Uz:Obj:=xk1 "is_power" "is_power" 771 223 1 3 443 775 776
def UA:Obj:=fn "is_power" (top 49) mo8 448
def UB:Obj:=xk1 "block_for" "block_for" 778 225 1 3 450 782 783
def UC:Obj:=fn "block_for" (top 50) mo8 455
def UD:Obj:=cp "least_free" "least_free" 785 (vI 227::vI 2::vI 0::vI 0::vI 3::vR 457::(.bool true)::vI 181::vR 458::.none::.none::.none::vR 459::vI 788::vI 227::(.str "/claim/cut.py" 789)::[])
def UE:Obj:=fn "least_free" (top 51) mo8 460
def UF:Obj:=xk1 "cut_down" "cut_down" 791 233 4 3 462 799 800
def UG:Obj:=fn "cut_down" (top 52) mo8 467
def UH:Obj:=xk1 "grown_together" "grown_together" 802 239 3 3 469 808 809
def UI:Obj:=fn "grown_together" (top 53) mo8 474
def Nk:Obj:=tu (vR 438::[])
def UJ (P:Params):Obj:=dd (eM P 818 mo8::eQ P "Halves" 819::eL P 244 821::eF P "__init__" 830 489::eF P "ask" 843 497::eF P "give" 853 504::eS P 854 505::[]) 7
def UK:Obj:=xk1 "__init__" "Halves.__init__" 823 246 2 3 483 828 829
def UL:Obj:=fm "__init__" "Halves.__init__" (Aq (top 54) 0) mo8 488
def UM:Obj:=tu ((.int 1 831)::[])
def UN:Obj:=xk1 "ask" "Halves.ask" 832 251 3 3 491 841 842
def UO:Obj:=fd "ask" "Halves.ask" (Aq (top 54) 1) 490 mo8 496
def UP:Obj:=xk1 "give" "Halves.give" 844 258 2 3 498 851 852
def UQ:Obj:=fm "give" "Halves.give" (Aq (top 54) 2) mo8 503
def UR (P:Params):Obj:=dd (eM P 818 mo8::eL P 244 821::eF P "__init__" 830 489::eF P "ask" 843 497::eF P "give" 853 504::eS P 854 505::eD P 855::[]) 2
def US:Obj:=cO "Halves" (rs [438]) [507,438] 506 (rs []) 476 811 819
def UT (P:Params):Obj:=dd (eM P 867 mo9::eQ P "Row" 868::eL P 262 870::eF P "ask" 884 524::eF P "give" 892 531::eF P "grow" 903 539::eS P 904 540::[]) 7
def UU:Obj:=tu ((.int 1 872)::[])
def UV:Obj:=xk1 "ask" "Row.ask" 873 264 3 3 518 882 883
def UW:Obj:=fd "ask" "Row.ask" (Aq (top 56) 0) 517 mo9 523
def UX:Obj:=xk1 "give" "Row.give" 885 272 2 3 525 890 891
def UY:Obj:=fm "give" "Row.give" (Aq (top 56) 1) mo9 530
def UZ (P:Params):Obj:=dd (eM P 867 mo9::eL P 262 870::eF P "ask" 884 524::eF P "give" 892 531::eF P "grow" 903 539::eS P 904 540::eD P 905::[]) 2
def U0:Obj:=cO "Row" (rs [438]) [542,438] 541 (rs []) 510 860 868
def U1:Obj:=xk1 "all_whole" "all_whole" 910 278 2 3 545 915 916
def U2:Obj:=fn "all_whole" (top 58) mo10 550
def U3:Obj:=xk1 "begin_of" "begin_of" 918 282 2 3 552 923 924
def U4:Obj:=fn "begin_of" (top 59) mo10 557
def U7:Obj:=cp "whole_ones" "whole_ones" 926 (vI 284::vI 2::vI 0::vI 0::vI 3::vR 559::(.bool true)::vI 181::vR 560::.none::.none::.none::vR 561::vI 929::vI 284::(.str "/claim/cut.py" 930)::[])
def U8:Obj:=fn "whole_ones" (top 60) mo10 562
def U9:Obj:=cp "free_slots" "free_slots" 932 (vI 286::vI 3::vI 0::vI 0::vI 3::vR 564::(.bool true)::vI 181::vR 565::.none::.none::.none::vR 566::vI 935::vI 286::(.str "/claim/cut.py" 936)::[])
def Va:Obj:=fn "free_slots" (top 61) mo10 567
def Vb:Obj:=xk1 "cut_for" "cut_for" 938 289 4 3 569 948 949
def Vc:Obj:=fn "cut_for" (top 62) mo10 574
def Vd:Obj:=xk1 "with_slot" "with_slot" 951 295 3 3 576 958 959
def Ve:Obj:=fn "with_slot" (top 63) mo10 581
def Vf:Obj:=cp "has_live" "has_live" 961 (vI 302::vI 3::vI 0::vI 0::vI 3::vR 583::(.bool true)::vI 181::vR 584::.none::.none::.none::vR 585::vI 964::vI 302::(.str "/claim/cut.py" 965)::[])
def Vg:Obj:=fn "has_live" (top 64) mo10 586
def Vh (P:Params):Obj:=dd (eM P 974 mo10::eQ P "Shelves" 975::eL P 304 977::eF P "__init__" 988 601::eF P "clear" 995 608::eF P "ask" 1008 616::eF P "give" 1018 623::eS P 1020 624::[]) 8
def Vi:Obj:=xk1 "__init__" "Shelves.__init__" 979 306 3 3 595 986 987
def Vj:Obj:=fm "__init__" "Shelves.__init__" (Aq (top 65) 0) mo10 600
def Vk:Obj:=tu ((.int 1 996)::[])
def Vl:Obj:=xk1 "ask" "Shelves.ask" 997 315 3 3 610 1006 1007
def Vm:Obj:=fd "ask" "Shelves.ask" (Aq (top 65) 2) 609 mo10 615
def Vn:Obj:=xk1 "give" "Shelves.give" 1009 323 2 3 617 1016 1017
def Vo:Obj:=fm "give" "Shelves.give" (Aq (top 65) 3) mo10 622
def Vp (P:Params):Obj:=dd (eM P 974 mo10::eL P 304 977::eF P "__init__" 988 601::eF P "clear" 995 608::eF P "ask" 1008 616::eF P "give" 1018 623::eS P 1020 624::eD P 1021::[]) 2
def Vq:Obj:=cO "Shelves" (rs [438]) [626,438] 625 (rs []) 588 967 975
def Vr:Obj:=xk1 "first_place" "first_place" 1026 330 3 3 629 1036 1037
def Vs:Obj:=fn "first_place" (top 67) mo11 634
def Vt:Obj:=xk1 "spots_for" "spots_for" 1039 336 3 3 636 1048 1049
def Vu:Obj:=fn "spots_for" (top 68) mo11 641
def Vv:Obj:=xk1 "least_place" "least_place" 1053 344 1 3 643 1057 1058
def Vw:Obj:=fn "least_place" (top 70) mo12 648
def Vx (P:Params):Obj:=dd (eM P 1067 mo12::eQ P "Stretches" 1068::eL P 348 1070::eF P "chosen" 1080 663::eF P "ask" 1092 671::eF P "give" 1100 678::eF P "grow" 1111 686::eF P "room_begin" 1119 693::eF P "room_granted" 1127 700::eS P 1129 701::[]) 10
def Vy:Obj:=tu ((.int 1 1081)::[])
def Vz:Obj:=xk1 "ask" "Stretches.ask" 1082 353 3 3 665 1090 1091
def VA:Obj:=fd "ask" "Stretches.ask" (Aq (top 71) 1) 664 mo12 670
def VB:Obj:=xk1 "give" "Stretches.give" 1093 363 2 3 672 1098 1099
def VC:Obj:=fm "give" "Stretches.give" (Aq (top 71) 2) mo12 677
def VD:Obj:=xk1 "room_begin" "Stretches.room_begin" 1112 369 2 3 687 1117 1118
def VE:Obj:=fm "room_begin" "Stretches.room_begin" (Aq (top 71) 4) mo12 692
def VF:Obj:=xk1 "room_granted" "Stretches.room_granted" 1120 372 2 3 694 1125 1126
def VG:Obj:=fm "room_granted" "Stretches.room_granted" (Aq (top 71) 5) mo12 699
def VH (P:Params):Obj:=dd (eM P 1067 mo12::eL P 348 1070::eF P "chosen" 1080 663::eF P "ask" 1092 671::eF P "give" 1100 678::eF P "grow" 1111 686::eF P "room_begin" 1119 693::eF P "room_granted" 1127 700::eS P 1129 701::eD P 1130::[]) 2
def EY (P:Params):Obj:=dd (en P "__name__" 165 (.str "law_stow_k92_whole_spoilt_and_mended" 1274)::eD P 166::en P "__package__" 167 .none::en P "__loader__" 168 (.builtin "__main__.__loader__#opaque")::en P "__spec__" 169 .none::eF P "__annotations__" 170 6::eF P "__builtins__" 171 4::en P "__file__" 173 (.str "/claim/cut.py" 172)::en P "__cached__" 174 .none::eF P "_wall" 193 21::eF P "StowError" 213 31::eF P "NoName" 229 44::eF P "NoSize" 245 56::eF P "Broken" 270 75::eF P "NoGive" 286 87::eF P "NoPiece" 302 99::eF P "NoCell" 318 111::eF P "NoAsk" 334 123::eF P "NoBound" 350 135::eF P "NoRoom" 366 147::en P "MARKS" 370 (.int 2 369)::eF P "check_ask" 378 156::eF P "check_plain_ask" 386 163::eF P "mark_of" 396 170::eF P "long_of" 403 177::eF P "live_of" 410 184::en P "LEAST_LIVE" 414 (.int 3 413)::eF P "can_begin" 423 191::eF P "bad_of_piece" 432 198::eF P "looked" 443 205::eF P "first_bad" 451 212::eF P "fresh_room" 459 219::eF P "laid" 472 226::eF P "laid_free" 481 233::eF P "piece_at" 490 240::eF P "live_at" 499 247::eF P "free_at" 508 254::eF P "begin_around" 514 259::eF P "free_begin" 522 266::eF P "free_end" 530 273::eF P "cut_out" 545 280::eF P "freed" 556 287::eF P "joined_pieces" 567 294::eF P "joined" 578 301::eF P "pieces_up_to" 586 306::eF P "changes_for" 592 311::eF P "cheapest_ways" 598 316::eF P "prices_of" 604 321::eF P "mended" 617 328::eF P "Keeper" 768 438::eF P "is_power" 777 449::eF P "block_for" 784 456::eF P "least_free" 790 461::eF P "cut_down" 801 468::eF P "grown_together" 810 475::eF P "Halves" 857 507::eF P "Row" 907 542::eF P "all_whole" 917 551::eF P "begin_of" 925 558::eF P "whole_ones" 931 563::eF P "free_slots" 937 568::eF P "cut_for" 950 575::eF P "with_slot" 960 582::eF P "has_live" 966 587::eF P "Shelves" 1023 626::eF P "first_place" 1038 635::eF P "spots_for" 1050 642::eF P "least_place" 1059 649::eF P "Stretches" 1132 703::eF P "First" 1154 720::eF P "Best" 1176 737::eF P "Next" 1231 782::eF P "Likes" 1253 799::eF P "stretches_of" 1261 808::eF P "keeper_of" 1273 816::eF P "_law_cell_at" 1283 823::eF P "_law_whole" 1290 830::eF P "_law_walk" 1301 837::eF P "_law_use" 1312 844::eF P "_law_spoil" 1326 851::eF P "_law_unlike" 1332 856::eF P "_law_looker" 1343 863::eF P "_law_goes_on" 1349 868::eF P "law" 1367 875::[]) 84
def VI:Obj:=cO "Stretches" (rs [438]) [703,438] 702 (rs [720,737,782,799]) 650 1060 1068
def Nl:Obj:=tu (vR 703::[])
def VJ (P:Params):Obj:=dd (eM P 1140 mo12::eQ P "First" 1141::eL P 374 1143::eF P "chosen" 1150 717::eS P 1151 718::[]) 5
def EZ:Obj:=cp "chosen" "First.chosen" 1145 (vI 376::vI 3::vI 0::vI 0::vI 3::vR 713::(.bool true)::vI 181::vR 714::.none::.none::.none::vR 715::vI 1148::vI 376::(.str "/claim/cut.py" 1149)::[])
def VL:Obj:=fm "chosen" "First.chosen" (Aq (top 72) 0) mo12 716
def VM (P:Params):Obj:=dd (eM P 1140 mo12::eL P 374 1143::eF P "chosen" 1150 717::eS P 1151 718::eD P 1152::[]) 2
def E1:Obj:=cO "First" (rs [703]) [720,703,438] 719 (rs []) 706 1133 1141
def E2 (P:Params):Obj:=dd (eM P 1162 mo12::eQ P "Best" 1163::eL P 379 1165::eF P "chosen" 1172 734::eS P 1173 735::[]) 5
def VN:Obj:=cp "chosen" "Best.chosen" 1167 (vI 381::vI 3::vI 0::vI 0::vI 3::vR 730::(.bool true)::vI 181::vR 731::.none::.none::.none::vR 732::vI 1170::vI 381::(.str "/claim/cut.py" 1171)::[])
def VO:Obj:=fm "chosen" "Best.chosen" (Aq (top 73) 0) mo12 733
def E3 (P:Params):Obj:=dd (eM P 1162 mo12::eL P 379 1165::eF P "chosen" 1172 734::eS P 1173 735::eD P 1174::[]) 2
def E4:Obj:=cO "Best" (rs [703]) [737,703,438] 736 (rs []) 723 1155 1163
def E5 (P:Params):Obj:=dd (eM P 1184 mo12::eQ P "Next" 1185::eL P 385 1187::eF P "__init__" 1196 753::eF P "rover" 1203 760::eF P "chosen" 1209 765::eF P "room_begin" 1217 772::eF P "room_granted" 1225 779::eS P 1228 780::[]) 9
def VP:Obj:=xk1 "__init__" "Next.__init__" 1189 387 2 3 747 1194 1195
def E6:Obj:=fm "__init__" "Next.__init__" (Aq (top 74) 0) mo12 752
def E7:Obj:=cp "chosen" "Next.chosen" 1204 (vI 394::vI 3::vI 0::vI 0::vI 3::vR 761::(.bool true)::vI 181::vR 762::.none::.none::.none::vR 763::vI 1207::vI 394::(.str "/claim/cut.py" 1208)::[])
def VQ:Obj:=fm "chosen" "Next.chosen" (Aq (top 74) 2) mo12 764
def E8:Obj:=xk1 "room_begin" "Next.room_begin" 1210 398 2 3 766 1215 1216
def E9:Obj:=fm "room_begin" "Next.room_begin" (Aq (top 74) 3) mo12 771
def Fa:Obj:=xk1 "room_granted" "Next.room_granted" 1218 402 2 3 773 1223 1224
def VR:Obj:=fm "room_granted" "Next.room_granted" (Aq (top 74) 4) mo12 778
def Fb (P:Params):Obj:=dd (eM P 1184 mo12::eL P 385 1187::eF P "__init__" 1196 753::eF P "rover" 1203 760::eF P "chosen" 1209 765::eF P "room_begin" 1217 772::eF P "room_granted" 1225 779::eS P 1228 780::eD P 1229::[]) 2
def Fc:Obj:=cO "Next" (rs [703]) [782,703,438] 781 (rs []) 740 1177 1185
def Fd (P:Params):Obj:=dd (eM P 1239 mo12::eQ P "Likes" 1240::eL P 404 1242::eF P "chosen" 1249 796::eS P 1250 797::[]) 5
def Fe:Obj:=cp "chosen" "Likes.chosen" 1244 (vI 406::vI 3::vI 0::vI 0::vI 3::vR 792::(.bool true)::vI 181::vR 793::.none::.none::.none::vR 794::vI 1247::vI 406::(.str "/claim/cut.py" 1248)::[])
def Ff:Obj:=fm "chosen" "Likes.chosen" (Aq (top 75) 0) mo12 795
def VS (P:Params):Obj:=dd (eM P 1239 mo12::eL P 404 1242::eF P "chosen" 1249 796::eS P 1250 797::eD P 1251::[]) 2
def Fg:Obj:=cO "Likes" (rs [703]) [799,703,438] 798 (rs []) 785 1232 1240
def VT:Obj:=xk1 "stretches_of" "stretches_of" 1254 410 2 3 802 1259 1260
def Fh:Obj:=fn "stretches_of" (top 76) mo12 807
def Fi:Obj:=tu ((.int 8 1264)::[])
def Fj:Obj:=xk1 "keeper_of" "keeper_of" 1265 421 3 3 810 1271 1272
def VU:Obj:=fd "keeper_of" "keeper_of" (top 78) 809 mo13 815
def Fk:Obj:=xk1 "_law_cell_at" "_law_cell_at" 1276 430 2 3 817 1281 1282
def VV:Obj:=fn "_law_cell_at" (top 80) mo14 822
def VW:Obj:=xk1 "_law_whole" "_law_whole" 1284 434 1 3 824 1288 1289
def Fl:Obj:=fn "_law_whole" (top 81) mo14 829
def Fm:Obj:=xk1 "_law_walk" "_law_walk" 1291 436 1 3 831 1299 1300
def VX:Obj:=fn "_law_walk" (top 82) mo14 836
def Fn:Obj:=xk1 "_law_use" "_law_use" 1302 449 3 3 838 1310 1311
def Fo:Obj:=fn "_law_use" (top 83) mo14 843
def VY:Obj:=xk1 "_law_spoil" "_law_spoil" 1313 466 2 3 845 1324 1325
def VZ:Obj:=fn "_law_spoil" (top 84) mo14 850
def Fp:Obj:=cp "_law_unlike" "_law_unlike" 1327 (vI 476::vI 2::vI 0::vI 0::vI 3::vR 852::(.bool true)::vI 181::vR 853::.none::.none::.none::vR 854::vI 1330::vI 476::(.str "/claim/cut.py" 1331)::[])
def Fq:Obj:=fn "_law_unlike" (top 85) mo14 855
def Fs:Obj:=xk1 "_law_looker" "_law_looker" 1333 478 1 3 857 1341 1342
def Ft:Obj:=fn "_law_looker" (top 86) mo14 862
def Fu:Obj:=cp "_law_goes_on" "_law_goes_on" 1344 (vI 489::vI 2::vI 0::vI 0::vI 3::vR 864::(.bool true)::vI 181::vR 865::.none::.none::.none::vR 866::vI 1347::vI 489::(.str "/claim/cut.py" 1348)::[])
def V0:Obj:=fn "_law_goes_on" (top 87) mo14 867
def Fv:Obj:=xk1 "law" "law" 1350 505 1 3 869 1365 1366
def V1:Obj:=fn "law" (top 88) mo14 874
noncomputable def q0 (P:Params):List Obj:=PySem.W.boot_o_0 P::PySem.W.boot_o_1 P::boot_o_2 P::PySem.W.boot_o_3 P::PySem.W.boot_o_4 P::PySem.W.boot_o_5 P::PySem.W.boot_o_6 P::PySem.W.boot_o_7 P::PySem.W.boot_o_8 P::PySem.W.boot_o_9 P::PySem.W.boot_o_10 P::AH::Bs::FV::Zu::[]
noncomputable def q1 (P:Params):List Obj:=up (q0 P) [(3,dd (en P "__name__" 165 (.str "stow.errors" 194)::eD P 166::en P "__package__" 167 .none::en P "__loader__" 168 (.builtin "__main__.__loader__#opaque")::en P "__spec__" 169 .none::eF P "__annotations__" 170 6::eF P "__builtins__" 171 4::en P "__file__" 173 (.str "/claim/cut.py" 172)::en P "__cached__" 174 .none::eF P "_wall" 193 21::eF P "StowError" 213 31::eF P "NoName" 229 44::eF P "NoSize" 245 56::eF P "Broken" 270 75::eF P "NoGive" 286 87::eF P "NoPiece" 302 99::eF P "NoCell" 318 111::eF P "NoAsk" 334 123::[]) 18),(12,fl (f3 [(1,0,20),(5,0,27),(7,0,40),(9,0,52),(11,0,64),(15,0,83),(17,0,95),(19,0,107),(21,0,119)]))]++(dg 190 ["k"] "_wall" (top 0) IF IG (tu ((.type "ValueError")::[])::AU::IH P::AH::Bs::xk0 "StowError" "StowError" 198 5 0 0 25 201 202::xf 27 24 mo1::AH::II P::cV "StowError" [(.type "ValueError")] [31] 30 (rs [44,56,75,87,99,111,123]) 22 196 204::⟨(.type "getset_descriptor"),none,.fields ((.str "__weakref__" 209)::(.ref 31)::(.builtin "ExceptionGroup.__weakref__")::.none::[]).toArray,#[]⟩::xs 31::xb 31::B4::AU::IJ P::AH::Bs::xk0 "NoName" "NoName" 216 7 0 0 38 219 220::xf 40 37 mo1::AH::IK P::IL::xs 44::xb 44::B4::AU::IM P::AH::Bs::xk0 "NoSize" "NoSize" 232 9 0 0 50 235 236::xf 52 49 mo1::AH::IN P::IO::xs 56::xb 56::B4::AU::IP P::AH::fl (f3 [(13,4,71)])::xk0 "Broken" "Broken" 248 11 0 0 62 251 252::xf 64 61 mo1::dq 261 ["self","cell"] "__init__" "Broken.__init__" (Aq (top 5) 0) IQ IR (tu (tn 266 ["cell"])::IS P::IT::xs 75::xb 75::B4::AU::IU P::AH::Bs::xk0 "NoGive" "NoGive" 273 15 0 0 81 276 277::xf 83 80 mo1::AH::IV P::IW::xs 87::xb 87::B4::AU::IX P::AH::Bs::xk0 "NoPiece" "NoPiece" 289 17 0 0 93 292 293::xf 95 92 mo1::AH::IY P::IZ::xs 99::xb 99::B4::AU::I0 P::AH::Bs::xk0 "NoCell" "NoCell" 305 19 0 0 105 308 309::xf 107 104 mo1::AH::ST P::SU::xs 111::xb 111::B4::AU::SV P::AH::Bs::xk0 "NoAsk" "NoAsk" 321 21 0 0 117 324 325::xf 119 116 mo1::AH::SW P::SX::xs 123::xb 123::[])))
noncomputable def q2 (P:Params):List Obj:=up (q1 P) [(3,dd (en P "__name__" 165 (.str "stow.keepers" 618)::eD P 166::en P "__package__" 167 .none::en P "__loader__" 168 (.builtin "__main__.__loader__#opaque")::en P "__spec__" 169 .none::eF P "__annotations__" 170 6::eF P "__builtins__" 171 4::en P "__file__" 173 (.str "/claim/cut.py" 172)::en P "__cached__" 174 .none::eF P "_wall" 193 21::eF P "StowError" 213 31::eF P "NoName" 229 44::eF P "NoSize" 245 56::eF P "Broken" 270 75::eF P "NoGive" 286 87::eF P "NoPiece" 302 99::eF P "NoCell" 318 111::eF P "NoAsk" 334 123::eF P "NoBound" 350 135::eF P "NoRoom" 366 147::en P "MARKS" 370 (.int 2 369)::eF P "check_ask" 378 156::eF P "check_plain_ask" 386 163::eF P "mark_of" 396 170::eF P "long_of" 403 177::eF P "live_of" 410 184::en P "LEAST_LIVE" 414 (.int 3 413)::eF P "can_begin" 423 191::eF P "bad_of_piece" 432 198::eF P "looked" 443 205::eF P "first_bad" 451 212::eF P "fresh_room" 459 219::eF P "laid" 472 226::eF P "laid_free" 481 233::eF P "piece_at" 490 240::eF P "live_at" 499 247::eF P "free_at" 508 254::eF P "begin_around" 514 259::eF P "free_begin" 522 266::eF P "free_end" 530 273::eF P "cut_out" 545 280::eF P "freed" 556 287::eF P "joined_pieces" 567 294::eF P "joined" 578 301::eF P "pieces_up_to" 586 306::eF P "changes_for" 592 311::eF P "cheapest_ways" 598 316::eF P "prices_of" 604 321::eF P "mended" 617 328::eF P "Keeper" 768 438::[]) 50),(12,fl (f3 [(1,0,20),(5,0,27),(7,0,40),(9,0,52),(11,0,64),(15,0,83),(17,0,95),(19,0,107),(21,0,119),(23,0,131),(25,0,143),(29,0,155),(32,0,162),(37,0,169),(41,0,176),(43,0,183),(47,0,190),(52,0,197),(59,0,204),(70,0,211),(76,0,218),(84,0,225),(89,0,232),(93,0,239),(98,0,246),(103,0,253),(108,0,258),(111,0,265),(115,0,272),(119,0,279),(127,0,286),(130,0,293),(138,0,300),(144,0,305),(147,0,310),(151,0,315),(157,0,320),(159,0,327),(169,0,334)])),(31,SY)]++(B4::AU::SZ P::AH::Bs::xk0 "NoBound" "NoBound" 337 23 0 0 129 340 341::xf 131 128 mo1::AH::S0 P::S8::xs 135::xb 135::B4::AU::S9 P::AH::Bs::xk0 "NoRoom" "NoRoom" 353 25 0 0 141 356 357::xf 143 140 mo1::AH::Ta P::Tb::xs 147::xb 147::dg 374 ["count","bound"] "check_ask" (top 14) Tc Td (dg 382 ["count","bound"] "check_plain_ask" (top 15) Te Tf (dg 392 ["long","live"] "mark_of" (top 17) Tg Th (dg 400 ["number"] "long_of" (top 18) Ti Tj (dg 407 ["number"] "live_of" (top 19) Tk Tl (dg 418 ["cells","at","long"] "can_begin" (top 22) Tm Tn (dg 427 ["cells","at","last"] "bad_of_piece" (top 23) To Tp (dg 436 ["cells","pieces","at","bad","long"] "looked" (top 24) Tq Tr (dg 447 ["cells","refusal"] "first_bad" (top 25) Ts Tt (dg 455 ["count","cells"] "fresh_room" (top 26) Tu Tv (dg 465 ["cells","at","long","live","row"] "laid" (top 28) Tw Tx (dg 476 ["cells","begin","end"] "laid_free" (top 29) Ty Tz (dg 485 ["cells","at","piece"] "piece_at" (top 30) TB TC (dg 494 ["cells","at","piece"] "live_at" (top 31) TD TF (dg 503 ["cells","at","piece"] "free_at" (top 32) TJ TK (AH::Bs::fq "begin_around" "begin_around" (top 33)::TM::TN::dg 518 ["cells","at"] "free_begin" (top 34) TQ TR (dg 526 ["cells","end"] "free_end" (top 35) TU TV (dg 534 ["cells","at","place","long","begin","free_long","live","end","row"] "cut_out" (top 36) TW TY (dg 549 ["cells","at","begin","long","live"] "freed" (top 37) TZ T0 (dg 560 ["pieces","row","at","long","live"] "joined_pieces" (top 38) T1 T2 (dg 571 ["cells","row","at","long","live"] "joined" (top 39) T3 T4 (AH::Bs::fq "pieces_up_to" "pieces_up_to" (top 41)::T5::T6::AH::Bs::fq "changes_for" "changes_for" (top 42)::T7::T8::AH::Bs::fq "cheapest_ways" "cheapest_ways" (top 43)::T9::Ua::AH::Bs::fq "prices_of" "prices_of" (top 44)::Ub::Uc::dg 608 ["cells","ways","row","end","price","at","live"] "mended" (top 45) Ud Ue (AH::AU::Uf P::AH::fl (f3 [(171,4,341),(174,4,348),(177,4,355),(180,4,362),(186,4,369),(189,4,376),(193,4,383),(196,4,390),(200,4,398),(204,4,405),(208,4,413),(211,4,420),(214,4,427),(220,4,434)])::xk0 "Keeper" "Keeper" 622 169 0 0 332 625 626::xf 334 331 mo7::dq 635 ["self","size"] "__init__" "Keeper.__init__" (Aq (top 47) 0) Ug Uh (dq 643 ["self"] "cells" "Keeper.cells" (Aq (top 47) 1) Ui Uj (dq 650 ["self"] "pieces" "Keeper.pieces" (Aq (top 47) 2) Uk Ul (dq 657 ["self","cells"] "lay" "Keeper.lay" (Aq (top 47) 3) Um Uo (dq 665 ["self"] "clear" "Keeper.clear" (Aq (top 47) 4) (xk1 "clear" "Keeper.clear" 662 186 1 3 364 666 667) (fm "clear" "Keeper.clear" (Aq (top 47) 4) mo7 369) (dq 672 ["self","place","at","long","live"] "many" "Keeper.many" (Aq (top 47) 5) Up Uq (dq 683 ["self","place","k"] "get" "Keeper.get" (Aq (top 47) 6) (xk1 "get" "Keeper.get" 680 193 3 3 378 686 687) (fm "get" "Keeper.get" (Aq (top 47) 6) mo7 383) (dq 692 ["self","place","k","number","cell"] "put" "Keeper.put" (Aq (top 47) 7) Ur Us (tu ((.int 1 700)::[])::dq 704 ["self","count","bound"] "ask" "Keeper.ask" (Aq (top 47) 8) (xk1 "ask" "Keeper.ask" 701 200 3 3 393 707 708) (fd "ask" "Keeper.ask" (Aq (top 47) 8) 392 mo7 398) (dq 713 ["self","place","at","long","live"] "give" "Keeper.give" (Aq (top 47) 9) (xk1 "give" "Keeper.give" 710 204 2 3 400 718 719) (fm "give" "Keeper.give" (Aq (top 47) 9) mo7 405) (tu ((.int 1 721)::[])::dq 725 ["self","place","count","bound"] "grow" "Keeper.grow" (Aq (top 47) 10) (xk1 "grow" "Keeper.grow" 722 208 4 3 408 729 730) (fd "grow" "Keeper.grow" (Aq (top 47) 10) 407 mo7 413) (dq 735 ["self","cells"] "room_begin" "Keeper.room_begin" (Aq (top 47) 11) Ut Uu (dq 743 ["self","place","k","many"] "room_cell_of" "Keeper.room_cell_of" (Aq (top 47) 12) Uv Uw (dq 753 ["self","place","count","bound"] "room_moved" "Keeper.room_moved" (Aq (top 47) 13) (xk1 "room_moved" "Keeper.room_moved" 750 220 4 3 429 757 758) (fm "room_moved" "Keeper.room_moved" (Aq (top 47) 13) mo7 434) (tu (tn 760 ["room_cells"])::Ux P::⟨(.type "type"),none,.cls ⟨"Keeper",[(.type "object")],[(.ref 438),(.type "object")],437,"Keeper",true,[],[],false,none,false⟩,(none::none::(some (.str "Keeper" 620))::(some (.str "Keeper" 628))::(some (.builtin "object.__new__"))::(some (.bool true))::[]).toArray⟩::⟨(.type "getset_descriptor"),none,.fields ((.str "__dict__" 762)::(.ref 438)::(.builtin "function.__dict__")::(.builtin "function.__dict__#set")::[]).toArray,#[]⟩::⟨(.type "getset_descriptor"),none,.fields ((.str "__weakref__" 764)::(.ref 438)::(.builtin "ExceptionGroup.__weakref__")::.none::[]).toArray,#[]⟩::xs 438::xb 438::[])))))))))))))))))))))))))))))))))))))
noncomputable def q3 (P:Params):List Obj:=up (q2 P) [(3,dd (en P "__name__" 165 (.str "stow.stretches" 1051)::eD P 166::en P "__package__" 167 .none::en P "__loader__" 168 (.builtin "__main__.__loader__#opaque")::en P "__spec__" 169 .none::eF P "__annotations__" 170 6::eF P "__builtins__" 171 4::en P "__file__" 173 (.str "/claim/cut.py" 172)::en P "__cached__" 174 .none::eF P "_wall" 193 21::eF P "StowError" 213 31::eF P "NoName" 229 44::eF P "NoSize" 245 56::eF P "Broken" 270 75::eF P "NoGive" 286 87::eF P "NoPiece" 302 99::eF P "NoCell" 318 111::eF P "NoAsk" 334 123::eF P "NoBound" 350 135::eF P "NoRoom" 366 147::en P "MARKS" 370 (.int 2 369)::eF P "check_ask" 378 156::eF P "check_plain_ask" 386 163::eF P "mark_of" 396 170::eF P "long_of" 403 177::eF P "live_of" 410 184::en P "LEAST_LIVE" 414 (.int 3 413)::eF P "can_begin" 423 191::eF P "bad_of_piece" 432 198::eF P "looked" 443 205::eF P "first_bad" 451 212::eF P "fresh_room" 459 219::eF P "laid" 472 226::eF P "laid_free" 481 233::eF P "piece_at" 490 240::eF P "live_at" 499 247::eF P "free_at" 508 254::eF P "begin_around" 514 259::eF P "free_begin" 522 266::eF P "free_end" 530 273::eF P "cut_out" 545 280::eF P "freed" 556 287::eF P "joined_pieces" 567 294::eF P "joined" 578 301::eF P "pieces_up_to" 586 306::eF P "changes_for" 592 311::eF P "cheapest_ways" 598 316::eF P "prices_of" 604 321::eF P "mended" 617 328::eF P "Keeper" 768 438::eF P "is_power" 777 449::eF P "block_for" 784 456::eF P "least_free" 790 461::eF P "cut_down" 801 468::eF P "grown_together" 810 475::eF P "Halves" 857 507::eF P "Row" 907 542::eF P "all_whole" 917 551::eF P "begin_of" 925 558::eF P "whole_ones" 931 563::eF P "free_slots" 937 568::eF P "cut_for" 950 575::eF P "with_slot" 960 582::eF P "has_live" 966 587::eF P "Shelves" 1023 626::eF P "first_place" 1038 635::eF P "spots_for" 1050 642::eF P "least_place" 1059 649::eF P "Stretches" 1132 703::[]) 69),(12,fl (f3 [(1,0,20),(5,0,27),(7,0,40),(9,0,52),(11,0,64),(15,0,83),(17,0,95),(19,0,107),(21,0,119),(23,0,131),(25,0,143),(29,0,155),(32,0,162),(37,0,169),(41,0,176),(43,0,183),(47,0,190),(52,0,197),(59,0,204),(70,0,211),(76,0,218),(84,0,225),(89,0,232),(93,0,239),(98,0,246),(103,0,253),(108,0,258),(111,0,265),(115,0,272),(119,0,279),(127,0,286),(130,0,293),(138,0,300),(144,0,305),(147,0,310),(151,0,315),(157,0,320),(159,0,327),(169,0,334),(223,0,448),(225,0,455),(227,0,460),(233,0,467),(239,0,474),(244,0,481),(262,0,515),(278,0,550),(282,0,557),(284,0,562),(286,0,567),(289,0,574),(295,0,581),(302,0,586),(304,0,593),(330,0,634),(336,0,641),(344,0,648),(348,0,655)])),(438,Uy)]++(dg 774 ["number"] "is_power" (top 49) Uz UA (dg 781 ["need"] "block_for" (top 50) UB UC (AH::Bs::fq "least_free" "least_free" (top 51)::UD::UE::dg 794 ["cells","at","long","block","row"] "cut_down" (top 52) UF UG (dg 805 ["pieces","at","long"] "grown_together" (top 53) UH UI (Nk::AU::UJ P::AH::fl (f3 [(246,4,488),(251,4,496),(258,4,503)])::xk0 "Halves" "Halves" 813 244 0 0 479 816 817::xf 481 478 mo8::dq 826 ["self","size"] "__init__" "Halves.__init__" (Aq (top 54) 0) UK UL (UM::dq 835 ["self","count","bound","block","at","long"] "ask" "Halves.ask" (Aq (top 54) 1) UN UO (dq 847 ["self","place","at","long"] "give" "Halves.give" (Aq (top 54) 2) UP UQ (AH::UR P::US::xs 507::xb 507::Nk::AU::UT P::AH::fl (f3 [(264,4,523),(272,4,530),(275,4,538)])::xk0 "Row" "Row" 862 262 0 0 513 865 866::xf 515 512 mo9::UU::dq 876 ["self","count","bound","at","long","live"] "ask" "Row.ask" (Aq (top 56) 0) UV UW (dq 888 ["self","place"] "give" "Row.give" (Aq (top 56) 1) UX UY (tu ((.int 1 893)::[])::dq 897 ["self","place","count","bound"] "grow" "Row.grow" (Aq (top 56) 2) (xk1 "grow" "Row.grow" 894 275 4 3 533 901 902) (fd "grow" "Row.grow" (Aq (top 56) 2) 532 mo9 538) (AH::UZ P::U0::xs 542::xb 542::dg 913 ["size","shelf"] "all_whole" (top 58) U1 U2 (dg 921 ["at","shelf"] "begin_of" (top 59) U3 U4 (AH::Bs::fq "whole_ones" "whole_ones" (top 60)::U7::U8::AH::Bs::fq "free_slots" "free_slots" (top 61)::U9::Va::dg 941 ["cells","begin","shelf","size","row","end","at"] "cut_for" (top 62) Vb Vc (dg 954 ["cells","shelf","size","begins"] "with_slot" (top 63) Vd Ve (AH::Bs::fq "has_live" "has_live" (top 64)::Vf::Vg::Nk::AU::Vh P::AH::fl (f3 [(306,4,600),(312,4,607),(315,4,615),(323,4,622)])::xk0 "Shelves" "Shelves" 969 304 0 0 591 972 973::xf 593 590 mo10::dq 982 ["self","size","shelf","cells"] "__init__" "Shelves.__init__" (Aq (top 65) 0) Vi Vj (dq 992 ["self"] "clear" "Shelves.clear" (Aq (top 65) 1) (xk1 "clear" "Shelves.clear" 989 312 1 3 602 993 994) (fm "clear" "Shelves.clear" (Aq (top 65) 1) mo10 607) (Vk::dq 1000 ["self","count","bound","size","cells","at"] "ask" "Shelves.ask" (Aq (top 65) 2) Vl Vm (dq 1012 ["self","place","cells","begin"] "give" "Shelves.give" (Aq (top 65) 3) Vn Vo (tu (tn 1019 ["shelf"])::Vp P::Vq::xs 626::xb 626::dg 1029 ["piece","long","bound","at","piece_long","live","place"] "first_place" (top 67) Vr Vs (dg 1042 ["cells","long","bound","spots","piece","place"] "spots_for" (top 68) Vt Vu (dg 1056 ["ranked"] "least_place" (top 70) Vv Vw (Nk::AU::Vx P::AH::fl (f3 [(350,4,662),(353,4,670),(363,4,677),(366,4,685),(369,4,692),(372,4,699)])::xk0 "Stretches" "Stretches" 1062 348 0 0 653 1065 1066::xf 655 652 mo12::dq 1075 ["self","long","bound"] "chosen" "Stretches.chosen" (Aq (top 71) 0) (xk1 "chosen" "Stretches.chosen" 1072 350 3 3 657 1078 1079) (fm "chosen" "Stretches.chosen" (Aq (top 71) 0) mo12 662) (Vy::dq 1085 ["self","count","bound","long","at"] "ask" "Stretches.ask" (Aq (top 71) 1) Vz VA (dq 1096 ["self","place"] "give" "Stretches.give" (Aq (top 71) 2) VB VC (tu ((.int 1 1101)::[])::dq 1105 ["self","place","count","bound"] "grow" "Stretches.grow" (Aq (top 71) 3) (xk1 "grow" "Stretches.grow" 1102 366 4 3 680 1109 1110) (fd "grow" "Stretches.grow" (Aq (top 71) 3) 679 mo12 685) (dq 1115 ["self","cells"] "room_begin" "Stretches.room_begin" (Aq (top 71) 4) VD VE (dq 1123 ["self","behind"] "room_granted" "Stretches.room_granted" (Aq (top 71) 5) VF VG (tu (tn 1128 ["room_cells"])::VH P::cO "Stretches" (rs [438]) [703,438] 702 (rs []) 650 1060 1068::xs 703::xb 703::[]))))))))))))))))))))))))))))
noncomputable def q4 (P:Params):List Obj:=up (q3 P) [(3,EY P),(12,fl (f3 [(1,0,20),(5,0,27),(7,0,40),(9,0,52),(11,0,64),(15,0,83),(17,0,95),(19,0,107),(21,0,119),(23,0,131),(25,0,143),(29,0,155),(32,0,162),(37,0,169),(41,0,176),(43,0,183),(47,0,190),(52,0,197),(59,0,204),(70,0,211),(76,0,218),(84,0,225),(89,0,232),(93,0,239),(98,0,246),(103,0,253),(108,0,258),(111,0,265),(115,0,272),(119,0,279),(127,0,286),(130,0,293),(138,0,300),(144,0,305),(147,0,310),(151,0,315),(157,0,320),(159,0,327),(169,0,334),(223,0,448),(225,0,455),(227,0,460),(233,0,467),(239,0,474),(244,0,481),(262,0,515),(278,0,550),(282,0,557),(284,0,562),(286,0,567),(289,0,574),(295,0,581),(302,0,586),(304,0,593),(330,0,634),(336,0,641),(344,0,648),(348,0,655),(374,0,711),(379,0,728),(385,0,745),(404,0,790),(410,0,807),(421,0,815),(430,0,822),(434,0,829),(436,0,836),(449,0,843),(466,0,850),(476,0,855),(478,0,862),(489,0,867),(505,0,874)])),(703,VI)]++(Nl::AU::VJ P::AH::fl (f3 [(376,4,716)])::xk0 "First" "First" 1135 374 0 0 709 1138 1139::xf 711 708 mo12::AH::Bs::fq "chosen" "First.chosen" (Aq (top 72) 0)::EZ::VL::AH::VM P::E1::xs 720::xb 720::Nl::AU::E2 P::AH::fl (f3 [(381,4,733)])::xk0 "Best" "Best" 1157 379 0 0 726 1160 1161::xf 728 725 mo12::AH::Bs::fq "chosen" "Best.chosen" (Aq (top 73) 0)::VN::VO::AH::E3 P::E4::xs 737::xb 737::Nl::AU::E5 P::AH::fl (f3 [(387,4,752),(391,4,759),(394,4,764),(398,4,771),(402,4,778)])::xk0 "Next" "Next" 1179 385 0 0 743 1182 1183::xf 745 742 mo12::dq 1192 ["self","size"] "__init__" "Next.__init__" (Aq (top 74) 0) VP E6 (dq 1200 ["self"] "rover" "Next.rover" (Aq (top 74) 1) (xk1 "rover" "Next.rover" 1197 391 1 3 754 1201 1202) (fm "rover" "Next.rover" (Aq (top 74) 1) mo12 759) (AH::Bs::fq "chosen" "Next.chosen" (Aq (top 74) 2)::E7::VQ::dq 1213 ["self","cells"] "room_begin" "Next.room_begin" (Aq (top 74) 3) E8 E9 (dq 1221 ["self","behind"] "room_granted" "Next.room_granted" (Aq (top 74) 4) Fa VR (tu (tn 1226 ["room_cells","room_rover"])::Fb P::Fc::xs 782::xb 782::Nl::AU::Fd P::AH::fl (f3 [(406,4,795)])::xk0 "Likes" "Likes" 1234 404 0 0 788 1237 1238::xf 790 787 mo12::AH::Bs::fq "chosen" "Likes.chosen" (Aq (top 75) 0)::Fe::Ff::AH::VS P::Fg::xs 799::xb 799::dg 1257 ["word","size"] "stretches_of" (top 76) VT Fh (Fi::dg 1268 ["word","size","shelf"] "keeper_of" (top 78) Fj VU (dg 1279 ["_law_script","_law_k"] "_law_cell_at" (top 80) Fk VV (dg 1287 ["_law_found"] "_law_whole" (top 81) VW Fl (dg 1294 ["_law_cells","_law_pieces","_law_at","_law_long","_law_live"] "_law_walk" (top 82) Fm VX (dg 1305 ["_law_keeper","_law_places","_law_c","_law_told","_law_place"] "_law_use" (top 83) Fn Fo (dg 1316 ["_law_cells","_law_c","_law_pieces","_law_at","_law_piece","_law_old","_law_how","_law_news"] "_law_spoil" (top 84) VY VZ (AH::Bs::fq "_law_unlike" "_law_unlike" (top 85)::Fp::Fq::dg 1336 ["_law_cells","_law_due","_law_bad","_law_told","e"] "_law_looker" (top 86) Fs Ft (AH::Bs::fq "_law_goes_on" "_law_goes_on" (top 87)::Fu::V0::dg 1353 ["_law_script","_law_c","_law_word","_law_shelf","_law_size","_law_keeper","_law_places","_law_right","_law_spoilt","_law_handed","_law_found","_law_changed"] "law" (top 88) Fv V1 ([]))))))))))))))
noncomputable def heapA:Params->Heap:=fun P=>⟨Array.mk (q0 P),⟨[],[],[],0,[],[],false,#[],[],0,false,false,false,0,[2000,10,10],false,0,true,[],[],0,false⟩⟩
def Nm:List Stmt:=PySem.W.behindTheImports PySem.Challenge.pw_stow_k92_whole_spoilt_and_mended
def sts0:List Stmt:=(Nm.drop 0).take 10
def sts1:List Stmt:=(Nm.drop 10).take 38
def sts2:List Stmt:=(Nm.drop 48).take 24
def sts3:List Stmt:=(Nm.drop 72).take 17
def all0:List Stmt:=sts0++(sts1++(sts2++(sts3++[])))
def env0:Env:={ scope:=(PySem.Challenge.pw_stow_k92_whole_spoilt_and_mended).main.scope,locals:=mainNs,globals:=mainNs,cells:=[],code:=(.ref 13),frame:=some 14 }
def Dq:Code:=.body all0 env0
theorem pre0 (w:World)(os:OsState):PySem.W.topGo treeTable PySem.Challenge.pw_stow_k92_whole_spoilt_and_mended w 11 (some (.ref 6)) 12 ⟨boot_heap w.params,Array.mk [],boot_drawn,boot_toks,os⟩ (topStub PySem.Challenge.pw_stow_k92_whole_spoilt_and_mended)=some (⟨heapA w.params,#[],⟨0,0,0,0⟩,187,os⟩,⟨denote treeTable (.body all0 env0),Dq,⟨0,0,0,0⟩,[topFrame ⟨0,0,0,0⟩]⟩):=by kernel_rfl
noncomputable def treeB:Params->BT:=fun P=>bt 11 (q0 P)
theorem blk0 (w:World)(os:OsState):PySem.W.segRun treeTable PySem.Challenge.pw_stow_k92_whole_spoilt_and_mended w 11 (some (.ref 6)) 1 1 ⟨heapA w.params,#[],⟨0,0,0,0⟩,187,os⟩ (PySem.W.blockOf all0 env0 Dq ⟨0,0,0,0⟩ [topFrame ⟨0,0,0,0⟩])=some (.next,(PySem.W.SharedT.mk (treeB w.params) 15 ⟨[],[],[],0,[],[],false,#[],[],0,false,false,false,0,[2000,10,10],false,0,true,[],[],0,false⟩ #[] ⟨0,0,0,0⟩ 187 os).abs,Dq,⟨0,0,0,0⟩):=by kernel_rfl
noncomputable def V2:Params->BT:=fun P=>bt 11 (q1 P)
theorem grp0 (w:World)(os:OsState):segRunT treeTable PySem.Challenge.pw_stow_k92_whole_spoilt_and_mended w 11 (some (.ref 6)) 1 1748 (PySem.W.SharedT.mk (treeB w.params) 15 ⟨[],[],[],0,[],[],false,#[],[],0,false,false,false,0,[2000,10,10],false,0,true,[],[],0,false⟩ #[] ⟨0,0,0,0⟩ 187 os) (piecesOf sts0 env0 Dq ⟨0,0,0,0⟩ [topFrame ⟨0,0,0,0⟩])=some (.next,(PySem.W.SharedT.mk (V2 w.params) 126 ⟨[],[],[],0,[],[],false,#[],[],0,false,false,false,0,[2000,10,10],false,0,true,[],[],0,false⟩ #[] ⟨0,0,0,0⟩ 335 os),Dq,⟨21,0,22,8⟩):=by kernel_rfl
noncomputable def V3:Params->BT:=fun P=>bt 11 (q2 P)
theorem grp1 (w:World)(os:OsState):segRunT treeTable PySem.Challenge.pw_stow_k92_whole_spoilt_and_mended w 11 (some (.ref 6)) 1 1976 (PySem.W.SharedT.mk (V2 w.params) 126 ⟨[],[],[],0,[],[],false,#[],[],0,false,false,false,0,[2000,10,10],false,0,true,[],[],0,false⟩ #[] ⟨0,0,0,0⟩ 335 os) (piecesOf sts1 env0 Dq ⟨21,0,22,8⟩ [topFrame ⟨0,0,0,0⟩])=some (.next,(PySem.W.SharedT.mk (V3 w.params) 443 ⟨[],[],[],0,[],[],false,#[],[],0,false,false,false,0,[2000,10,10],false,0,true,[],[],0,false⟩ #[] ⟨0,0,0,0⟩ 769 os),Dq,⟨169,0,221,16⟩):=by kernel_rfl
noncomputable def V4:Params->BT:=fun P=>bt 11 (q3 P)
theorem grp2 (w:World)(os:OsState):segRunT treeTable PySem.Challenge.pw_stow_k92_whole_spoilt_and_mended w 11 (some (.ref 6)) 1 1896 (PySem.W.SharedT.mk (V3 w.params) 443 ⟨[],[],[],0,[],[],false,#[],[],0,false,false,false,0,[2000,10,10],false,0,true,[],[],0,false⟩ #[] ⟨0,0,0,0⟩ 769 os) (piecesOf sts2 env0 Dq ⟨169,0,221,16⟩ [topFrame ⟨0,0,0,0⟩])=some (.next,(PySem.W.SharedT.mk (V4 w.params) 706 ⟨[],[],[],0,[],[],false,#[],[],0,false,false,false,0,[2000,10,10],false,0,true,[],[],0,false⟩ #[] ⟨0,0,0,0⟩ 1133 os),Dq,⟨348,0,373,12⟩):=by kernel_rfl
noncomputable def Ja:Params->BT:=fun P=>bt 11 (q4 P)
theorem grp3 (w:World)(os:OsState):segRunT treeTable PySem.Challenge.pw_stow_k92_whole_spoilt_and_mended w 11 (some (.ref 6)) 1 1513 (PySem.W.SharedT.mk (V4 w.params) 706 ⟨[],[],[],0,[],[],false,#[],[],0,false,false,false,0,[2000,10,10],false,0,true,[],[],0,false⟩ #[] ⟨0,0,0,0⟩ 1133 os) (piecesOf sts3 env0 Dq ⟨348,0,373,12⟩ [topFrame ⟨0,0,0,0⟩])=some (.next,(PySem.W.SharedT.mk (Ja w.params) 876 ⟨[],[],[],0,[],[],false,#[],[],0,false,false,false,0,[2000,10,10],false,0,true,[],[],0,false⟩ #[] ⟨0,0,0,0⟩ 1368 os),Dq,⟨505,0,535,48⟩):=by kernel_rfl
theorem fin0 (w:World)(os:OsState):topRun treeTable PySem.Challenge.pw_stow_k92_whole_spoilt_and_mended w 11 (some (.ref 6)) 2 ⟨absHeap (Ja w.params) 876 ⟨[],[],[],0,[],[],false,#[],[],0,false,false,false,0,[2000,10,10],false,0,true,[],[],0,false⟩,#[],⟨0,0,0,0⟩,1368,os⟩ (PySem.W.restOf [] env0 Dq ⟨505,0,535,48⟩ [topFrame ⟨0,0,0,0⟩])=some ⟨absHeap (Ja w.params) 876 ⟨[],[],[],0,[],[],false,#[],[],0,false,false,false,0,[2000,10,10],false,0,true,[],[],0,false⟩,#[],⟨0,0,0,0⟩,1368,os⟩:=by kernel_rfl
theorem run0 (w:World)(os:OsState):topRun treeTable PySem.Challenge.pw_stow_k92_whole_spoilt_and_mended w 11 (some (.ref 6)) (12+(1+(1748+(1976+(1896+(1513+2)))))) ⟨boot_heap w.params,Array.mk [],boot_drawn,boot_toks,os⟩ (topStub PySem.Challenge.pw_stow_k92_whole_spoilt_and_mended)=some ⟨absHeap (Ja w.params) 876 ⟨[],[],[],0,[],[],false,#[],[],0,false,false,false,0,[2000,10,10],false,0,true,[],[],0,false⟩,#[],⟨0,0,0,0⟩,1368,os⟩:=PySem.W.go_top (pre0 w os) (PySem.W.piece_block (blk0 w os) (piece_app (segRun_of (grp0 w os)) (piece_app (segRun_of (grp1 w os)) (piece_app (segRun_of (grp2 w os)) (piece_app (segRun_of (grp3 w os)) (fin0 w os))))))
theorem open0 (w:World):(PySem.W.fencedOpening treeTable PySem.Challenge.pw_stow_k92_whole_spoilt_and_mended w 7848).map (fun s=>(s.heap,s.gens,s.drawn,s.toks))=some (boot_heap w.params,Array.mk [],boot_drawn,boot_toks):=PySem.W.boot_open (by kernel_rfl) rfl (fun s=>by kernel_rfl) w
noncomputable def heap0:Params->PySem.W.Frag:=fun P =>
 (nat_lit 2,boot_o_2 P) ::
 (nat_lit 3,EY P) ::
 (nat_lit 20,IF) ::
 (nat_lit 21,IG) ::
 (nat_lit 24,IH P) ::
 (nat_lit 30,II P) ::
 (nat_lit 31,SY) ::
 (nat_lit 37,IJ P) ::
 (nat_lit 43,IK P) ::
 (nat_lit 44,IL) ::
 (nat_lit 49,IM P) ::
 (nat_lit 55,IN P) ::
 (nat_lit 56,IO) ::
 (nat_lit 61,IP P) ::
 (nat_lit 71,IQ) ::
 (nat_lit 72,IR) ::
 (nat_lit 74,IS P) ::
 (nat_lit 75,IT) ::
 (nat_lit 80,IU P) ::
 (nat_lit 86,IV P) ::
 (nat_lit 87,IW) ::
 (nat_lit 92,IX P) ::
 (nat_lit 98,IY P) ::
 (nat_lit 99,IZ) ::
 (nat_lit 104,I0 P) ::
 (nat_lit 110,ST P) ::
 (nat_lit 111,SU) ::
 (nat_lit 116,SV P) ::
 (nat_lit 122,SW P) ::
 (nat_lit 123,SX) ::
 (nat_lit 128,SZ P) ::
 (nat_lit 134,S0 P) ::
 (nat_lit 135,S8) ::
 (nat_lit 140,S9 P) ::
 (nat_lit 146,Ta P) ::
 (nat_lit 147,Tb) ::
 (nat_lit 155,Tc) ::
 (nat_lit 156,Td) ::
 (nat_lit 162,Te) ::
 (nat_lit 163,Tf) ::
 (nat_lit 169,Tg) ::
 (nat_lit 170,Th) ::
 (nat_lit 176,Ti) ::
 (nat_lit 177,Tj) ::
 (nat_lit 183,Tk) ::
 (nat_lit 184,Tl) ::
 (nat_lit 190,Tm) ::
 (nat_lit 191,Tn) ::
 (nat_lit 197,To) ::
 (nat_lit 198,Tp) ::
 (nat_lit 204,Tq) ::
 (nat_lit 205,Tr) ::
 (nat_lit 211,Ts) ::
 (nat_lit 212,Tt) ::
 (nat_lit 218,Tu) ::
 (nat_lit 219,Tv) ::
 (nat_lit 225,Tw) ::
 (nat_lit 226,Tx) ::
 (nat_lit 232,Ty) ::
 (nat_lit 233,Tz) ::
 (nat_lit 239,TB) ::
 (nat_lit 240,TC) ::
 (nat_lit 246,TD) ::
 (nat_lit 247,TF) ::
 (nat_lit 253,TJ) ::
 (nat_lit 254,TK) ::
 (nat_lit 258,TM) ::
 (nat_lit 259,TN) ::
 (nat_lit 265,TQ) ::
 (nat_lit 266,TR) ::
 (nat_lit 272,TU) ::
 (nat_lit 273,TV) ::
 (nat_lit 279,TW) ::
 (nat_lit 280,TY) ::
 (nat_lit 286,TZ) ::
 (nat_lit 287,T0) ::
 (nat_lit 293,T1) ::
 (nat_lit 294,T2) ::
 (nat_lit 300,T3) ::
 (nat_lit 301,T4) ::
 (nat_lit 305,T5) ::
 (nat_lit 306,T6) ::
 (nat_lit 310,T7) ::
 (nat_lit 311,T8) ::
 (nat_lit 315,T9) ::
 (nat_lit 316,Ua) ::
 (nat_lit 320,Ub) ::
 (nat_lit 321,Uc) ::
 (nat_lit 327,Ud) ::
 (nat_lit 328,Ue) ::
 (nat_lit 331,Uf P) ::
 (nat_lit 341,Ug) ::
 (nat_lit 342,Uh) ::
 (nat_lit 348,Ui) ::
 (nat_lit 349,Uj) ::
 (nat_lit 355,Uk) ::
 (nat_lit 356,Ul) ::
 (nat_lit 362,Um) ::
 (nat_lit 363,Uo) ::
 (nat_lit 376,Up) ::
 (nat_lit 377,Uq) ::
 (nat_lit 390,Ur) ::
 (nat_lit 391,Us) ::
 (nat_lit 420,Ut) ::
 (nat_lit 421,Uu) ::
 (nat_lit 427,Uv) ::
 (nat_lit 428,Uw) ::
 (nat_lit 437,Ux P) ::
 (nat_lit 438,Uy) ::
 (nat_lit 448,Uz) ::
 (nat_lit 449,UA) ::
 (nat_lit 455,UB) ::
 (nat_lit 456,UC) ::
 (nat_lit 460,UD) ::
 (nat_lit 461,UE) ::
 (nat_lit 467,UF) ::
 (nat_lit 468,UG) ::
 (nat_lit 474,UH) ::
 (nat_lit 475,UI) ::
 (nat_lit 478,UJ P) ::
 (nat_lit 488,UK) ::
 (nat_lit 489,UL) ::
 (nat_lit 490,UM) ::
 (nat_lit 496,UN) ::
 (nat_lit 497,UO) ::
 (nat_lit 503,UP) ::
 (nat_lit 504,UQ) ::
 (nat_lit 506,UR P) ::
 (nat_lit 507,US) ::
 (nat_lit 512,UT P) ::
 (nat_lit 517,UU) ::
 (nat_lit 523,UV) ::
 (nat_lit 524,UW) ::
 (nat_lit 530,UX) ::
 (nat_lit 531,UY) ::
 (nat_lit 541,UZ P) ::
 (nat_lit 542,U0) ::
 (nat_lit 550,U1) ::
 (nat_lit 551,U2) ::
 (nat_lit 557,U3) ::
 (nat_lit 558,U4) ::
 (nat_lit 562,U7) ::
 (nat_lit 563,U8) ::
 (nat_lit 567,U9) ::
 (nat_lit 568,Va) ::
 (nat_lit 574,Vb) ::
 (nat_lit 575,Vc) ::
 (nat_lit 581,Vd) ::
 (nat_lit 582,Ve) ::
 (nat_lit 586,Vf) ::
 (nat_lit 587,Vg) ::
 (nat_lit 590,Vh P) ::
 (nat_lit 600,Vi) ::
 (nat_lit 601,Vj) ::
 (nat_lit 609,Vk) ::
 (nat_lit 615,Vl) ::
 (nat_lit 616,Vm) ::
 (nat_lit 622,Vn) ::
 (nat_lit 623,Vo) ::
 (nat_lit 625,Vp P) ::
 (nat_lit 626,Vq) ::
 (nat_lit 634,Vr) ::
 (nat_lit 635,Vs) ::
 (nat_lit 641,Vt) ::
 (nat_lit 642,Vu) ::
 (nat_lit 648,Vv) ::
 (nat_lit 649,Vw) ::
 (nat_lit 652,Vx P) ::
 (nat_lit 664,Vy) ::
 (nat_lit 670,Vz) ::
 (nat_lit 671,VA) ::
 (nat_lit 677,VB) ::
 (nat_lit 678,VC) ::
 (nat_lit 692,VD) ::
 (nat_lit 693,VE) ::
 (nat_lit 699,VF) ::
 (nat_lit 700,VG) ::
 (nat_lit 702,VH P) ::
 (nat_lit 703,VI) ::
 (nat_lit 708,VJ P) ::
 (nat_lit 716,EZ) ::
 (nat_lit 717,VL) ::
 (nat_lit 719,VM P) ::
 (nat_lit 720,E1) ::
 (nat_lit 725,E2 P) ::
 (nat_lit 733,VN) ::
 (nat_lit 734,VO) ::
 (nat_lit 736,E3 P) ::
 (nat_lit 737,E4) ::
 (nat_lit 742,E5 P) ::
 (nat_lit 752,VP) ::
 (nat_lit 753,E6) ::
 (nat_lit 764,E7) ::
 (nat_lit 765,VQ) ::
 (nat_lit 771,E8) ::
 (nat_lit 772,E9) ::
 (nat_lit 778,Fa) ::
 (nat_lit 779,VR) ::
 (nat_lit 781,Fb P) ::
 (nat_lit 782,Fc) ::
 (nat_lit 787,Fd P) ::
 (nat_lit 795,Fe) ::
 (nat_lit 796,Ff) ::
 (nat_lit 798,VS P) ::
 (nat_lit 799,Fg) ::
 (nat_lit 807,VT) ::
 (nat_lit 808,Fh) ::
 (nat_lit 809,Fi) ::
 (nat_lit 815,Fj) ::
 (nat_lit 816,VU) ::
 (nat_lit 822,Fk) ::
 (nat_lit 823,VV) ::
 (nat_lit 829,VW) ::
 (nat_lit 830,Fl) ::
 (nat_lit 836,Fm) ::
 (nat_lit 837,VX) ::
 (nat_lit 843,Fn) ::
 (nat_lit 844,Fo) ::
 (nat_lit 850,VY) ::
 (nat_lit 851,VZ) ::
 (nat_lit 855,Fp) ::
 (nat_lit 856,Fq) ::
 (nat_lit 862,Fs) ::
 (nat_lit 863,Ft) ::
 (nat_lit 867,Fu) ::
 (nat_lit 868,V0) ::
 (nat_lit 874,Fv) ::
 (nat_lit 875,V1) ::
 []
noncomputable def at0:List Addr:=2::3::20::21::24::30::31::37::43::44::49::55::56::61::71::72::74::75::80::86::87::92::98::99::104::110::111::116::122::123::128::134::135::140::146::147::155::156::162::163::169::170::176::177::183::184::190::191::197::198::204::205::211::212::218::219::225::226::232::233::239::240::246::247::253::254::258::259::265::266::272::273::279::280::286::287::293::294::300::301::305::306::310::311::315::316::320::321::327::328::331::341::342::348::349::355::356::362::363::376::377::390::391::420::421::427::428::437::438::448::449::455::456::460::461::467::468::474::475::478::488::489::490::496::497::503::504::506::507::512::517::523::524::530::531::541::542::550::551::557::558::562::563::567::568::574::575::581::582::586::587::590::600::601::609::615::616::622::623::625::626::634::635::641::642::648::649::652::664::670::671::677::678::692::693::699::700::702::703::708::716::717::719::720::725::733::734::736::737::742::752::753::764::765::771::772::778::779::781::782::787::795::796::798::799::807::808::809::815::816::822::823::829::830::836::837::843::844::850::851::855::856::862::863::867::868::874::875::[]
noncomputable def Zv:List Str:="_wall"::"StowError"::"NoName"::"NoSize"::"Broken"::"NoGive"::"NoPiece"::"NoCell"::"NoAsk"::"NoBound"::"NoRoom"::"MARKS"::"check_ask"::"check_plain_ask"::"mark_of"::"long_of"::"live_of"::"LEAST_LIVE"::"can_begin"::"bad_of_piece"::"looked"::"first_bad"::"fresh_room"::"laid"::"laid_free"::"piece_at"::"live_at"::"free_at"::"begin_around"::"free_begin"::"free_end"::"cut_out"::"freed"::"joined_pieces"::"joined"::"pieces_up_to"::"changes_for"::"cheapest_ways"::"prices_of"::"mended"::"Keeper"::"is_power"::"block_for"::"least_free"::"cut_down"::"grown_together"::"Halves"::"Row"::"all_whole"::"begin_of"::"whole_ones"::"free_slots"::"cut_for"::"with_slot"::"has_live"::"Shelves"::"first_place"::"spots_for"::"least_place"::"Stretches"::"First"::"Best"::"Next"::"Likes"::"stretches_of"::"keeper_of"::"_law_cell_at"::"_law_whole"::"_law_walk"::"_law_use"::"_law_spoil"::"_law_unlike"::"_law_looker"::"_law_goes_on"::[]
theorem at0_eq (P:Params):at0=(heap0 P).map (·.1):=by kernel_rfl
abbrev seen0 (s:Shared):Bool:=PySem.W.recOk (PySem.W.RowW.records (PySem.W.OpenRow.toRowW (PySem.Challenge.rw_stow_k92_whole_spoilt_and_mended).row)) s
theorem left0:PySem.W.LeftO PySem.Challenge.pw_stow_k92_whole_spoilt_and_mended (PySem.W.view PySem.Challenge.pw_stow_k92_whole_spoilt_and_mended [88]) Zv seen0 (fun s=>at0.map s.heap.get?) (fun w=>(heap0 w.params).map fun p=>some p.2) 7848 :=
 PySem.W.LeftO.of_pieces (H₁:=fun P=>absHeap (Ja P) 876 ⟨[],[],[],0,[],[],false,#[],[],0,false,false,false,0,[2000,10,10],false,0,true,[],[],0,false⟩) (gs₁:=#[]) (d₁:=⟨0,0,0,0⟩) (k₁:=1368) (m₀:=11) (ann:=(some (.ref 6))) open0 (fun w=>by kernel_rfl) run0 rfl (fun w=>funext fun os=>by kernel_rfl)
end
end Stow
set_option Elab.async false
set_option linter.all false
set_option maxRecDepth 100000
namespace L2
open PySem PySem.Spec PyProof.Rows
abbrev Key:=Sum Int Str
def keyIs:Key->Value->Bool
 | .inl k,v=>Value.isInt k v
 | .inr x,v=>Value.isStrOf x v
def keyH (w:World):Key->Int
 | .inl k=>hashInt k
 | .inr x=>hashStr w x
theorem D4:∀{k:Key} {v:Value},keyIs k v=true->(∃i t,k=Sum.inl i/\v=Value.int i t)\/(∃x t,k=Sum.inr x/\v=Value.str x t)
 | .inl i,v,h=>by
   obtain⟨t,e⟩:=Value.isInt_shape (k:=i) (v:=v) h
   exact .inl ⟨i,t,rfl,e⟩
 | .inr x,v,h=>by
   obtain⟨t,e⟩:=Value.isStrOf_shape (x:=x) (v:=v) h
   exact .inr ⟨x,t,rfl,e⟩
theorem key_ll (a b:Int):decide ((Sum.inl a:Key)=Sum.inl b)=(a==b):=by
 by_cases e:a=b
 . subst e;simp
 . have h:¬(Sum.inl a:Key)=Sum.inl b:=fun q=>e (Sum.inl.inj q);rw[decide_eq_false h];exact(beq_eq_false_iff_ne.mpr e).symm
theorem Zw (a b:Str):decide ((Sum.inr a:Key)=Sum.inr b)=decide (a=b):=by
 by_cases e:a=b
 . subst e;simp
 . have h:¬(Sum.inr a:Key)=Sum.inr b:=fun q=>e (Sum.inr.inj q);rw[decide_eq_false h,decide_eq_false e]
theorem Zx (a:Int)(b:Str):decide ((Sum.inl a:Key)=Sum.inr b)=false:=decide_eq_false (fun q=>nomatch q)
theorem key_rl (a:Str)(b:Int):decide ((Sum.inr a:Key)=Sum.inl b)=false:=decide_eq_false (fun q=>nomatch q)
def PQ (prog:Program)(w:World):PySem.KeyKind prog w Key where
 is:=keyIs
 hash:=keyH w
 inj:=fun v a b ha hb=>by
   rcases D4 ha with ⟨i,t,rfl,rfl⟩ | ⟨x,t,rfl,rfl⟩
   . rcases D4 hb with ⟨j,u,rfl,e⟩ | ⟨y,u,rfl,e⟩
     . injection e with e1 _;rw[e1]
     . exact nomatch e
   . rcases D4 hb with ⟨j,u,rfl,e⟩ | ⟨y,u,rfl,e⟩
     . exact nomatch e
     . injection e with e1 _;rw[e1]
 byValue:=fun k v h=>by
   rcases D4 h with ⟨i,t,rfl,rfl⟩ | ⟨x,t,rfl,rfl⟩ <;> rfl
 pyHash:=fun hv h=>by
   rcases D4 hv with ⟨i,t,rfl,rfl⟩ | ⟨x,t,rfl,rfl⟩
   . exact wpAny_pyHash_int h
   . exact wpAny_pyHash_str h
 eqBool:=fun hu hv h=>by
   rcases D4 hu with ⟨i,t,rfl,rfl⟩ | ⟨x,t,rfl,rfl⟩
   . rcases D4 hv with ⟨j,u,rfl,rfl⟩ | ⟨y,u,rfl,rfl⟩
     . rw[key_ll] at h;exact wpAny_eqBool_int h
     . rw[Zx] at h;exact SeqAt.EqAt.int_str i t y u _ _ _ _ h
   . rcases D4 hv with ⟨j,u,rfl,rfl⟩ | ⟨y,u,rfl,rfl⟩
     . rw[key_rl] at h;exact SeqAt.EqAt.str_int x t j u _ _ _ _ h
     . rw[Zw] at h;exact wpAny_eqBool_str h
 «strs»:=fun k x t v h=>by
   rcases D4 h with ⟨i,u,rfl,e⟩ | ⟨y,u,rfl,e⟩
   . exact nomatch e
   . injection e with e1 _
     subst e1
     cases v <;> rfl
end L2
namespace L2
open PySem PySem.Spec PyProof.Rows
inductive V where
 | non | bl (b:Bool) | int (i:Int) | str (x:Str) | byt (b:Array UInt8) | flt (b:UInt64) | ref (a:Addr) | ty (n:String)
 deriving DecidableEq
def RelV:V->Value->Prop
 | .non,u=>u=Value.none
 | .bl b,u=>u=Value.bool b
 | .int i,u=>∃t,u=Value.int i t
 | .str x,u=>∃t,u=Value.str x t
 | .byt b,u=>∃t,u=Value.bytes b t
 | .flt b,u=>∃t,u=Value.float b t
 | .ref a,u=>u=Value.ref a
 | .ty n,u=>u=Value.type n
abbrev Vals:List V->List Value->Prop:=Paired RelV
theorem Vals.length {xs:List V}{us:List Value}(r:Vals xs us):xs.length=us.length:=Paired.length r
theorem Vals.get:∀{xs:List V} {us:List Value} {i:Nat} {x:V},Vals xs us->xs[i]?=some x->∃u,us[i]?=some u/\RelV x u
 | _,_,_,_,.nil,e=>by simp at e
 | _,_,0,_,.cons r _,e=>by simp at e;subst e;exact⟨_,rfl,r⟩
 | _,_,i+1,x,.cons _ t,e=>by
   obtain⟨u,h1,h2⟩:=Vals.get (i:=i) (x:=x) t (by simpa using e)
   exact⟨u,by simpa using h1,h2⟩
theorem Vals.set {x:V}{u:Value}(r:RelV x u):∀{xs:List V} {us:List Value} (i:Nat),Vals xs us->Vals (xs.set i x) (us.set i u)
 | _,_,_,.nil=>.nil
 | _,_,0,.cons _ t=>.cons r t
 | _,_,i+1,.cons q t=>.cons q (Vals.set r i t)
theorem Vals.append:∀{xs ys:List V} {us ws:List Value},Vals xs us->Vals ys ws->Vals (xs++ys) (us++ws)
 | _,_,_,_,.nil,s=>s
 | _,_,_,_,.cons r t,s=>.cons r (Vals.append t s)
theorem Vals.take:∀{xs:List V} {us:List Value} (n:Nat),Vals xs us->Vals (xs.take n) (us.take n)
 | _,_,0,_=>.nil
 | _,_,_+1,.nil=>.nil
 | _,_,n+1,.cons r t=>.cons r (Vals.take n t)
theorem Vals.drop:∀{xs:List V} {us:List Value} (n:Nat),Vals xs us->Vals (xs.drop n) (us.drop n)
 | _,_,0,r=>r
 | _,_,_+1,.nil=>.nil
 | _,_,n+1,.cons _ t=>Vals.drop n t
theorem Vals.none_of:∀{xs:List V} {us:List Value} {i:Nat},Vals xs us->xs[i]?=none->us[i]?=none:=fun {xs us i} r e=>by
 have h1:=r.length;have h2:xs.length<=i:=List.getElem?_eq_none_iff.mp e;exact List.getElem?_eq_none_iff.mpr (by omega)
def RelO:Option V->Option Value->Prop
 | some v,some u=>RelV v u
 | none,none=>True
 | _,_=>False
def KV {κ:Type}:List (κ×V)->List (κ×Value)->Prop:=Paired fun (p:κ×V) (q:κ×Value)=>p.1=q.1/\RelV p.2 q.2
def kV:Key->V
 | .inl i=>.int i
 | .inr x=>.str x
inductive HO where
 /-- a list -/
 | lst (xs:List V)
 /-- a tuple (never changes) -/
 | tup (xs:List V)
 /-- a dict whose keys are ints and texts;one whose keys are tuples of ints and texts (the empty one is both) -/
 | dK (kvs:List (Key×V)) | dT (kvs:List (List Key×V))
 /-- a set of ints: its members,its size -/
 | set (S:Int->Bool) (n:Nat)
 /-- an instance of the class at C,its dict at dx,its attributes -/
 | ins (C dx:Addr) (fs:List (Str×V))
 /-- the dict of the instance at x -/
 | own (x:Addr)
 /-- the dict of an exception -/
 | xd (fs:List (Str×V))
 /-- a bound method,f of x -/
 | met (f x:Addr)
 /-- a range object lo,lo+1,.. below hi -/
 | rng (lo hi:Int)
 /-- a thing that is known to the object (the script;a dict while a loop walks it): read,never written while it is so -/
 | frz (o:Obj) (u:HO)
 /-- a code object's table -/
 | tbl (ps:Array Value)
 /-- any other thing,by what is true of its one object (a def of one's own: SetO a S n:=HO.ext fun h=>..) -/
 | ext (φ:Heap->Prop)
abbrev Hp:=Addr->Option HO
def upd (H:Hp)(a:Addr)(o:HO):Hp:=fun b=>if b=a then some o else H b
theorem upd_same {H:Hp}{a:Addr}{o:HO}:upd H a o a=some o:=by unfold upd;rw[if_pos rfl]
theorem AE {H:Hp}{a b:Addr}{o:HO}(h:b≠a):upd H a o b=H b:=by unfold upd;rw[if_neg h]
theorem A8 {H:Hp}{a b:Addr}{o:HO}(h:H a=some o)(h':H b=none):a≠b:=by
 intro e;subst e;rw[h] at h';cases h'
section
variable (P:Program)(w:World)
def BW (H:Hp)(h:Heap)(a:Addr):HO->Prop
 | .lst xs=>xs.length<=sizeLine/\∃(its:List Value) (n:Nat),Vals xs its/\h.get? a=some { cls:=.type "list",data:=.seq its.toArray n }
 | .tup xs=>xs.length<=sizeLine/\∃its:List Value,Vals xs its/\IsTup h a its.toArray
 | .dK kvs=>kvs.length<=sizeLine/\(a==sysModules)=false/\∃vs,KV kvs vs/\h.DictOf (PQ P w) a vs
 | .dT kvs=>kvs.length<=sizeLine/\(a==sysModules)=false/\∃xs:List (List Key×Addr×Value),
     Paired (fun (p:List Key×V) (q:List Key×Addr×Value)=>p.1=q.1/\H q.2.1=some (.tup (p.1.map kV))/\RelV p.2 q.2.2) kvs xs /\
     ∃o es ep,h.get? a=some o/\o.ExactDict/\o.data = .dict es ep/\es.toList=xs.map (entryOfKey (tupleKind (PQ P w)))/\(xs.map (·.1)).Nodup
 | .set S n=>h.SetOf (intKind P w) a S n
 | .ins C dx fs=>H dx=some (.own a)/\fs.length<=1000/\dx≠a/\h.get? a=some (instObj C dx) /\
     ∃mA,h.Ns1 dx mA/\(∀f,RelO (fs.lookup f) (mA f))/\PySem.Within mA (fs.map (·.1))
 | .own _=>∃o,h.get? a=some o
 | .xd fs=>∃mA,h.Ns1 a mA/\∀f,RelO (fs.lookup f) (mA f)
 | .rng lo hi=>∃t u v,h.get? a=some { cls:=.type "range",data:=.fields #[.int lo t,.int hi u,.int 1 v] }
 | .frz o u=>h.get? a=some o/\BW H h a u
 | .tbl ps=>h.get? a=some { cls:=.none,data:=.fields ps }
 | .met f x=>h.get? a=some (methodObj (.ref f) (.ref x))
 | .ext φ=>φ h/\(∃o,h.get? a=some o)/\∀h1 h2:Heap,φ h1->(∀o,h1.get? a=some o->h2.get? a=some o)->φ h2
def HOk (H:Hp)(h:Heap):Prop:=∀a o,H a=some o->BW P w H h a o
end
section
variable {P:Program}{w:World}{H H':Hp}{h h':Heap}{a:Addr}{o:HO}
theorem BW.lt (x:BW P w H h a o):a<h.objs.size:=by
 cases o with
 | lst xs=>obtain⟨_,_,_,_,e⟩:=x;exact Heap.lt_size e
 | tup xs=>obtain⟨_,_,_,p⟩:=x;exact p.lt
 | dK kvs=>obtain⟨_,_,_,_,o,_,_,e,_⟩:=x;exact Heap.lt_size e
 | dT kvs=>obtain⟨_,_,_,_,o,_,_,e,_⟩:=x;exact Heap.lt_size e
 | set S n=>obtain⟨o,_,_,_,e,_⟩:=x;exact Heap.lt_size e
 | ins C dx fs=>obtain⟨_,_,_,e,_⟩:=x;exact Heap.lt_size e
 | own y=>obtain⟨_,e⟩:=x;exact Heap.lt_size e
 | xd fs=>obtain⟨_,⟨_,_,_,e,_⟩,_⟩:=x;exact Heap.lt_size e
 | rng lo hi=>obtain⟨_,_,_,e⟩:=x;exact Heap.lt_size e
 | frz ob u=>obtain⟨e,_⟩:=x;exact Heap.lt_size e
 | tbl ps=>exact Heap.lt_size (show h.get? a=some _ from x)
 | met f y=>exact Heap.lt_size (show h.get? a=some _ from x)
 | ext φ=>obtain⟨_,⟨_,e⟩,_⟩:=x;exact Heap.lt_size e
theorem Paired.mapP {α β:Type}{F G:α->β->Prop}:∀{l₁:List α} {l₂:List β},Paired F l₁ l₂->(∀a b,F a b->G a b)->Paired G l₁ l₂
 | _,_,.nil,_=>.nil
 | _,_,.cons r t,f=>.cons (f _ _ r) (Paired.mapP t f)
theorem BW.stay (x:BW P w H h a o)(k:∀b u,(b=a\/H b=some (.own a))->h.get? b=some u->h'.get? b=some u)
   (ho:∀b,H b=some (.own a)->H' b=some (.own a)) (ht:∀b xs,H b=some (.tup xs)->H' b=some (.tup xs)):BW P w H' h' a o:=by
 induction o with
 | lst xs=>obtain⟨z,its,n,r,e⟩:=x;exact⟨z,its,n,r,k _ _ (.inl rfl) e⟩
 | tup xs=>obtain⟨z,its,r,ob,e,c⟩:=x;exact⟨z,its,r,ob,k _ _ (.inl rfl) e,c⟩
 | dK kvs=>obtain⟨z,y,vs,r,ob,es,ep,e,c⟩:=x;exact⟨z,y,vs,r,ob,es,ep,k _ _ (.inl rfl) e,c⟩
 | dT kvs =>
   obtain⟨z,y,xs,r,ob,es,ep,e,c⟩:=x;exact⟨z,y,xs,Paired.mapP r fun p q z=>⟨z.1,ht _ _ z.2.1,z.2.2⟩,ob,es,ep,k _ _ (.inl rfl) e,c⟩
 | set S n=>obtain⟨ob,es,ep,t,e,c⟩:=x;exact⟨ob,es,ep,t,k _ _ (.inl rfl) e,c⟩
 | ins C dx fs =>
   obtain⟨d,z,ne,e,mA,⟨od,es,ep,e2,c⟩,r⟩:=x;exact⟨ho _ d,z,ne,k _ _ (.inl rfl) e,mA,⟨od,es,ep,k _ _ (.inr d) e2,c⟩,r⟩
 | own y=>obtain⟨ob,e⟩:=x;exact⟨ob,k _ _ (.inl rfl) e⟩
 | xd fs=>obtain⟨mA,⟨od,es,ep,e,c⟩,r⟩:=x;exact⟨mA,⟨od,es,ep,k _ _ (.inl rfl) e,c⟩,r⟩
 | rng lo hi=>obtain⟨t,u,v,e⟩:=x;exact⟨t,u,v,k _ _ (.inl rfl) e⟩
 | frz ob u ih=>obtain⟨e,q⟩:=x;exact⟨k _ _ (.inl rfl) e,ih q⟩
 | tbl ps =>
   have e:h.get? a=some { cls:=.none,data:=.fields ps }:=x;show h'.get? a=some { cls:=.none,data:=.fields ps };exact k a _ (.inl rfl) e
 | met f y =>
   have e:h.get? a=some (methodObj (.ref f) (.ref y)):=x;show h'.get? a=some (methodObj (.ref f) (.ref y));exact k a _ (.inl rfl) e
 | ext φ=>obtain⟨p,⟨o,e⟩,st⟩:=x;exact⟨st _ _ p fun o q=>k _ _ (.inl rfl) q,⟨o,k _ _ (.inl rfl) e⟩,st⟩
theorem HOk.lt (x:HOk P w H h)(e:H a=some o):a<h.objs.size:=(x a o e).lt
theorem HOk.fresh (x:HOk P w H h)(e:h.objs.size<=a):H a=none:=by
 cases q:H a with
 | none=>rfl
 | some u=>exact absurd (Nat.lt_of_lt_of_le (x.lt q) e) (Nat.lt_irrefl _)
theorem HOk.kept (x:HOk P w H h)(k:∀b u,h.get? b=some u->h'.get? b=some u):HOk P w H h':=fun a o e =>
 (x a o e).stay (fun b u _ q=>k b u q) (fun _ q=>q) fun _ _ q=>q
theorem HOk.laid (x:HOk P w H h)(k:∀b u,h.get? b=some u->h'.get? b=some u)(hp:h.objs.size<=a)(new:BW P w (upd H a o) h' a o):HOk P w (upd H a o) h':=fun b u e=>by
 have hn:=x.fresh hp;by_cases hb:b=a
 . subst hb;rw[upd_same] at e;cases e;exact new
 . rw[AE hb] at e;exact(x b u e).stay (fun c v _ q=>k c v q) (fun c q=>by rw[AE (A8 q hn)];exact q) fun c xs q=>by rw[AE (A8 q hn)];exact q
end
def Rd (H:Hp)(a:Addr)(u:HO):Prop:=H a=some u\/∃o,H a=some (.frz o u)
theorem Rd.of {H:Hp}{a:Addr}{u:HO}(h:H a=some u):Rd H a u:=.inl h
theorem Rd.ok {P:Program}{w:World}{H:Hp}{h:Heap}{a:Addr}{u:HO}(r:Rd H a u)(x:HOk P w H h):BW P w H h a u:=by
 rcases r with r | ⟨o,r⟩
 . exact x a u r
 . obtain⟨_,q⟩:=x a _ r;exact q
def Mut:Option HO->Prop
 | some (.lst _)=>True
 | some (.dK _)=>True
 | some (.dT _)=>True
 | some (.set _ _)=>True
 | some (.ins _ _ _)=>True
 | some (.ext _)=>True
 | _=>False
section
variable {P:Program}{w:World}{H:Hp}{h h':Heap}{x e:Addr}{o':HO}
theorem HOk.write (ok:HOk P w H h)(mu:Mut (H x))(he:e=x\/H e=some (.own x))(k:∀b u,b≠e->h.get? b=some u->h'.get? b=some u)(heo:∃u,h'.get? e=some u)
   (new:BW P w (upd H x o') h' x o'):HOk P w (upd H x o') h':=fun b u q=>by
 have nown:∀c y,H c=some (.own y)->c≠x:=fun c y r z=>by subst z;rw[r] at mu;exact mu
 have ntup:∀c xs,H c=some (.tup xs)->c≠x:=fun c xs r z=>by subst z;rw[r] at mu;exact mu
 by_cases hb:b=x
 . subst hb;rw[upd_same] at q;cases q;exact new
 . rw[AE hb] at q
   by_cases hbe:b=e
   . have q':H b=some (.own x):=by
       rcases he with z | z
       . exact absurd (hbe.trans z) hb
       . rw[hbe];exact z
     rw[q] at q';cases q';obtain⟨v,hv⟩:=heo;exact⟨v,by rw[hbe];exact hv⟩
   . refine(ok b u q).stay (fun c v hc r=>k c v ?_ r) (fun c r=>by rw[AE (nown c b r)];exact r) fun c xs r=>by rw[AE (ntup c xs r)];exact r
     rcases hc with rfl | hc
     . exact hbe
     . rintro rfl;rcases he with z | z
       . exact nown c b hc z
       . rw[hc] at z;cases z;exact hb rfl
end
structure Un (fs ex:List Addr)(H H':Hp)(h h':Heap):Prop where
 keep:∀b o,h.get? b=some o->H b=none->b ∉ fs->b ∉ ex->h'.get? b=some o
 slot:∀b o,h.get? b=some o->H b=none->b∈fs->b ∉ ex->∃sl,h'.get? b=some { o with slots:=sl }
 free:∀b o,h.get? b=some o->H b=none->b ∉ ex->H' b=none
 there:∀b o,h.get? b=some o->b ∉ ex->∃o',h'.get? b=some o'
 tups:∀b xs,H b=some (.tup xs)->H' b=some (.tup xs)
 frzs:∀b o u,H b=some (.frz o u)->H' b=some (.frz o u)
 tbls:∀b ps,H b=some (.tbl ps)->∃more,H' b=some (.tbl (ps++more))
section
variable {fs fs' ex ex':List Addr}{H H1 H2:Hp}{h h1 h2 h':Heap}{a x e:Addr}{o:HO}
theorem Un.any (u:Un fs ex H H1 h h1){b:Addr}{ob:Obj}(q:h.get? b=some ob)(n:H b=none)(hx:b ∉ ex):∃sl,h1.get? b=some { ob with slots:=sl }:=by
 by_cases hb:b∈fs
 . exact u.slot b ob q n hb hx
 . exact⟨ob.slots,u.keep b ob q n hb hx⟩
theorem Un.trans (a:Un fs ex H H1 h h1)(b:Un fs ex H1 H2 h1 h2):Un fs ex H H2 h h2 where
 keep:=fun c ob q n hc hx=>b.keep c ob (a.keep c ob q n hc hx) (a.free c ob q n hx) hc hx
 slot:=fun c ob q n hc hx=>by
   obtain⟨sl,e1⟩:=a.slot c ob q n hc hx
   obtain⟨sl',e2⟩:=b.slot c _ e1 (a.free c ob q n hx) hc hx
   exact⟨sl',e2⟩
 free:=fun c ob q n hx=>by
   obtain⟨o',e1⟩:=a.there c ob q hx
   exact b.free c o' e1 (a.free c ob q n hx) hx
 there:=fun c ob q hx=>by
   obtain⟨o',e1⟩:=a.there c ob q hx
   exact b.there c o' e1 hx
 tups:=fun c xs q=>b.tups c xs (a.tups c xs q)
 frzs:=fun c ob xs q=>b.frzs c ob xs (a.frzs c ob xs q)
 tbls:=fun c ps q=>by
   obtain⟨m1,e1⟩:=a.tbls c ps q
   obtain⟨m2,e2⟩:=b.tbls c _ e1
   exact⟨m1++m2,by rw[e2,Array.append_assoc]⟩
theorem Un.kept (k:∀b u,h.get? b=some u->h'.get? b=some u):Un fs ex H H h h' :=
 ⟨fun b ob q _ _ _=>k b ob q,fun b ob q _ _ _=>⟨ob.slots,k b ob q⟩,fun _ _ _ n _=>n,fun b ob q _=>⟨ob,k b ob q⟩,fun _ _ q=>q,fun _ _ _ q=>q,fun _ ps q=>⟨#[],by rw[q];simp⟩⟩
theorem Un.refl:Un fs ex H H h h:=Un.kept fun _ _ q=>q
theorem Un.laid (k:∀b u,h.get? b=some u->h'.get? b=some u)(hp:h.objs.size<=a)(hn:H a=none):Un fs ex H (upd H a o) h h' where
 keep:=fun b u q _ _ _=>k b u q
 slot:=fun b u q _ _ _=>⟨u.slots,k b u q⟩
 free:=fun b u q n _=>by rw[AE (Nat.ne_of_lt (Nat.lt_of_lt_of_le (Heap.lt_size q) hp))];exact n
 there:=fun b u q _=>⟨u,k b u q⟩
 tups:=fun b xs q=>by rw[AE (A8 q hn)];exact q
 frzs:=fun b u xs q=>by rw[AE (A8 q hn)];exact q
 tbls:=fun b ps q=>⟨#[],by rw[AE (A8 q hn),q];simp⟩
theorem Un.write (mu:Mut (H x))(he:e=x\/H e=some (.own x))(k:∀b u,b≠e->h.get? b=some u->h'.get? b=some u)(heo:∃u,h'.get? e=some u):Un fs ex H (upd H x o) h h':=by
 have hx:∀b,H b=none->b≠x:=fun b n z=>by subst z;rw[n] at mu;exact mu
 have hb:∀b,H b=none->b≠e:=fun b n z=>by
   subst z;rcases he with r | r
   . exact hx b n r
   . rw[n] at r;cases r
 have hm:∀b u,H b=some u->¬Mut (some u)->b≠x:=fun b u q nm z=>by subst z;rw[q] at mu;exact nm mu
 refine⟨fun b u q n _ _=>k b u (hb b n) q,fun b u q n _ _=>⟨u.slots,k b u (hb b n) q⟩,fun b u q n _=>by rw[AE (hx b n)];exact n,fun b u q _=>?_,
   fun b xs q=>by rw[AE (hm b _ q fun z=>z)];exact q,fun b u xs q=>by rw[AE (hm b _ q fun z=>z)];exact q,fun b ps q=>⟨#[],by rw[AE (hm b _ q fun z=>z),q];simp⟩⟩
 by_cases hbe:b=e
 . subst hbe;exact heo
 . exact⟨u,k b u hbe q⟩
theorem Un.mono (u:Un fs ex H H1 h h1)(hs:∀b∈fs,b∈fs')(hx:∀b∈ex,b∈ex'):Un fs' ex' H H1 h h1 :=
 ⟨fun b ob q n hb he=>u.keep b ob q n (fun z=>hb (hs b z)) fun z=>he (hx b z),fun _ _ q n _ he=>u.any q n fun z=>he (hx _ z),fun b ob q n he=>u.free b ob q n fun z=>he (hx b z),fun b ob q he=>u.there b ob q fun z=>he (hx b z),u.tups,u.frzs,u.tbls⟩
end
def trk (h:Heap)(H:Hp):List Addr:=(List.range h.objs.size).filter fun a=>(H a).isSome
def hidT (h:Heap)(H:Hp):Heap:=PySem.W.hideAll h (trk h H)
theorem Zy (h:Heap)(H:Hp):(hidT h H).objs.size=h.objs.size:=PySem.W.hideAll_size _ _
theorem Zz {h:Heap}{H:Hp}{b:Addr}{o:Obj}(e:h.get? b=some o)(n:H b=none):(hidT h H).get? b=some o :=
 PySem.W.hideAll_get _ e fun hm=>by
   have q:(H b).isSome=true:=(List.mem_filter.mp hm).2
   rw[n] at q;simp at q
theorem ZA {h:Heap}{H:Hp}{b:Addr}{o:Obj}(e:(hidT h H).get? b=some o):h.get? b=some o/\H b=none:=by
 have e':h.get? b=some o:=PySem.W.of_hideAll (trk h H) e;refine⟨e',?_⟩;cases q:H b with
 | none=>rfl
 | some x =>
   have hm:b∈trk h H:=List.mem_filter.mpr ⟨List.mem_range.mpr (Heap.lt_size e'),by simp [q]⟩;have z:(hidT h H).get? b=none:=PySem.W.hideAll_none (trk h H) hm;rw[z] at e;cases e
def ZB (g h:Heap)(L:Addr):List (Addr×Obj):=(List.range h.objs.size).filterMap fun a=>if a=L\/(g.get? a).isSome=true then none else (h.get? a).map fun o=>(a,o)
def rest (g h:Heap)(L d:Addr):List (Addr×Obj):=(ZB g h L).filter fun p=>decide (p.1≠d)
end L2
namespace L2
open PySem PySem.Spec PyProof.Rows
structure Mod (K:PySem.W.Frag)(mg:Str->Option Value)(base:Heap):Prop where
 kin:K.In base
 glob:base.Ns mainGlobals mg
 blt:∃mb,base.Ns builtinsNs mb/\∀x:Str,x≠"__name__"->mb x=bootBuiltins x
 nolimit:base.NoLimit
structure Cx where
 prog:Program
 w:World
 K:PySem.W.Frag
 mg:Str->Option Value
 base:Heap
 A:Around
 N:List Str
 s₀:Shared
 H₀:Hp
 env:Env
 outer:List Env
 stack:List Env
 ex:List Addr
 fn:Str->Bool
 calm:Bool
 pn:List (Addr×Obj)
 xe:Value->Shared->Prop
def frs (l:List Env):List Addr:=l.filterMap (·.frame)
abbrev Cx.fs (X:Cx):List Addr:=frs X.outer
def Vis (sc:Scope)(x:Str):Prop:=sc.names.lookup x=some .local\/sc.names.lookup x=some .cell\/sc.names.lookup x=some .free
def Loc (sc:Scope)(x:Str):Prop:=sc.names.lookup x=some .local\/sc.names.lookup x=some .cell
def Look (env:Env)(h:Heap)(m:Str->Option Value)(x:Str)(u:Value):Prop :=
 (env.kindOf x=some .local/\m x=some u)\/((env.kindOf x=some .cell\/env.kindOf x=some .free)/\∃c,env.cells.lookup x=some c/\h.IsCell c (some u))
structure Cx.Ok (X:Cx):Prop where
 mod:Mod X.K X.mg X.base
 kind:X.env.scope.kind = .function
 glob:X.env.globals=mainGlobals
 blt:X.env.builtins=builtinsNs
 above:X.s₀.heap.objs.size<=X.env.locals
 inj:∀x y c,X.env.cells.lookup x=some c->X.env.cells.lookup y=some c->x=y
 has:∀x,(X.env.kindOf x=some .cell\/X.env.kindOf x=some .free)->∃c,X.env.cells.lookup x=some c
 cab:∀x c,X.fn x=true->X.env.cells.lookup x=some c->X.s₀.heap.objs.size<=c
 hd:X.calm=true->X.A.handled=none
 frames:X.A.frames=some X.stack
 stk:X.stack=X.outer\/(X.stack=X.env::X.outer/\X.env.frame=some X.env.locals)
 exf:∀b∈X.ex,b≠X.env.locals/\∀x c,X.env.cells.lookup x=some c->c≠b
 bs:∀b o,X.base.get? b=some o->X.s₀.heap.get? b=some o/\X.H₀ b=none
 bsz:X.base.objs.size<=X.s₀.heap.objs.size
 noex:∀b o,X.base.get? b=some o->b ∉ X.ex
 exfs:∀b∈X.ex,b ∉ X.fs
 funs:X.s₀.heap.FunFrames X.base X.outer
 frf:∀b∈X.fs,X.H₀ b=none
structure Inv (X:Cx)(pins:List (Addr×Obj))(σ:List (Option V))(H:Hp)(s:Shared):Prop where
 ok:X.Ok
 os:s.os=X.s₀.os
 bare:AllBare s.gens
 base:Un X.fs X.ex X.H₀ H X.s₀.heap s.heap
 loc:∃m,s.heap.Ns X.env.locals m/\∀(i:Nat) (x:Str) (v:V),X.N[i]?=some x->σ[i]?=some (some v)->Vis X.env.scope x->∃u,RelV v u/\Look X.env s.heap m x u
 cell:∀x c,X.env.cells.lookup x=some c->∃v,s.heap.IsCell c v
 free:H X.env.locals=none
 freeC:∀x c,X.env.cells.lookup x=some c->H c=none
 pin:∀p∈X.pn++pins,s.heap.get? p.1=some p.2/\H p.1=none/\p.1≠X.env.locals/\p.1 ∉ X.fs/\∀v,p.2.data≠.cell v
 hok:HOk X.prog X.w H s.heap
 len:σ.length=X.N.length
section
variable {X:Cx}{pins:List (Addr×Obj)}{σ:List (Option V)}{H H':Hp}{s:Shared}{h':Heap}
theorem Cx.Ok.nofr (ok:X.Ok){b:Addr}{o:Obj}(e:X.base.get? b=some o):b ∉ X.fs:=fun hb=>by
 have:=(ok.funs.mem hb).1;rw[e] at this;cases this
theorem Inv.bs (I:Inv X pins σ H s):∀b o,X.base.get? b=some o->s.heap.get? b=some o/\H b=none:=fun b o e =>
 ⟨I.base.keep b o (I.ok.bs b o e).1 (I.ok.bs b o e).2 (I.ok.nofr e) (I.ok.noex b o e),I.base.free b o (I.ok.bs b o e).1 (I.ok.bs b o e).2 (I.ok.noex b o e)⟩
theorem Inv.bk (I:Inv X pins σ H s):∀b o,X.base.get? b=some o->s.heap.get? b=some o:=fun b o e=>(I.bs b o e).1
theorem Inv.mod (I:Inv X pins σ H s):Mod X.K X.mg X.base:=I.ok.mod
theorem Inv.kIn (I:Inv X pins σ H s):X.K.In s.heap:=I.ok.mod.kin.keeps I.bk
theorem Inv.nolimit (I:Inv X pins σ H s):s.heap.NoLimit:=I.ok.mod.nolimit.keeps I.bk
theorem Inv.fr (I:Inv X pins σ H s):∃m,Fr X.base X.env.locals s.heap m :=
 let ⟨m,hn,_⟩:=I.loc
 ⟨m,hn,I.bk,Nat.le_trans I.ok.bsz I.ok.above⟩
theorem Inv.lt (I:Inv X pins σ H s):X.env.locals<s.heap.objs.size:=let ⟨_,hn,_⟩:=I.loc;hn.lt
theorem Inv.sz (I:Inv X pins σ H s):X.s₀.heap.objs.size<=s.heap.objs.size:=Nat.le_trans I.ok.above (Nat.le_of_lt I.lt)
theorem Inv.nofs (I:Inv X pins σ H s){a:Addr}(h:s.heap.objs.size<=a):a ∉ X.fs:=fun hb=>by
 obtain⟨_,o,ho,_⟩:=I.ok.funs.mem hb;exact absurd (Nat.lt_of_lt_of_le (Heap.lt_size ho) (Nat.le_trans I.sz h)) (Nat.lt_irrefl _)
theorem Inv.cne (I:Inv X pins σ H s):∀x c,X.env.cells.lookup x=some c->c≠X.env.locals:=fun x c e z=>by
 obtain⟨v,o,ho,hd⟩:=I.cell x c e;obtain⟨m,⟨o',es,ep,ho',hd',_⟩,_⟩:=I.loc;rw[z,ho'] at ho;cases ho;rw[hd'] at hd;cases hd
theorem Inv.funs (I:Inv X pins σ H s):s.heap.FunFrames X.base X.outer:=by
 have all:∀(l:List Env),(∀b∈frs l,b∈X.fs)->X.s₀.heap.FunFrames X.base l->s.heap.FunFrames X.base l:=by
   intro l
   induction l with
   | nil=>intro _ _;trivial
   | cons env r ih =>
     intro hs hl;obtain⟨hk,⟨L,o,hf,hn,ho,hd⟩,hr⟩:=hl;have hL:L∈X.fs:=hs L (by unfold frs;rw[List.filterMap_cons,hf];exact List.mem_cons_self);obtain⟨sl,e⟩:=I.base.slot L o ho (I.ok.frf L hL) hL fun z=>I.ok.exfs L z hL;exact⟨hk,⟨L,_,hf,hn,e,hd⟩,ih (fun b hb=>hs b (by unfold frs;rw[List.filterMap_cons,hf];exact List.mem_cons_of_mem _ hb)) hr⟩
 exact all X.outer (fun _ hb=>hb) I.ok.funs
theorem Inv.stack (I:Inv X pins σ H s):s.heap.FunFrames X.base X.stack:=by
 rcases I.ok.stk with e | ⟨e,hf⟩
 . rw[e];exact I.funs
 . rw[e];obtain⟨m,hn,_⟩:=I.loc;refine .cons (by rw[I.ok.kind];decide) hf hn ?_ I.funs;exact Heap.get?_none_of_le (Nat.le_trans I.ok.bsz I.ok.above)
theorem Inv.stkSub (I:Inv X pins σ H s):∀b∈frs X.stack,b∈X.env.locals::X.fs:=fun b hb=>by
 rcases I.ok.stk with e | ⟨e,hf⟩
 . rw[e] at hb;exact List.mem_cons_of_mem _ hb
 . rw[e] at hb;unfold frs at hb;rw[List.filterMap_cons,hf] at hb;exact hb
theorem Inv.stkFree (I:Inv X pins σ H s):∀b∈frs X.stack,H b=none:=fun b hb=>by
 rcases List.mem_cons.mp (I.stkSub b hb) with e | hb
 . rw[e];exact I.free
 . obtain⟨_,o,ho,_⟩:=I.ok.funs.mem hb;exact I.base.free b o ho (I.ok.frf b hb) fun z=>I.ok.exfs b z hb
theorem Inv.step {g':Array GenState}{t':Nat}{d':Drawn}{ch:List Addr}(I:Inv X pins σ H s)
   (hch:∀b∈ch,(b∈X.ex\/X.s₀.heap.objs.size<=b)/\b≠X.env.locals/\(∀x c,X.env.cells.lookup x=some c->c≠b)/\∀p∈X.pn++pins,p.1≠b)
   (keep:∀b o,b≠X.env.locals->b ∉ X.fs->b ∉ ch->s.heap.get? b=some o->H b=none->h'.get? b=some o)
   (slot:∀b o,b≠X.env.locals->b∈X.fs->b ∉ ch->s.heap.get? b=some o->H b=none->∃sl,h'.get? b=some { o with slots:=sl }) (free:∀b o,b ∉ ch->s.heap.get? b=some o->H b=none->H' b=none)
   (there:∀b o,b ∉ ch->s.heap.get? b=some o->∃o',h'.get? b=some o')
   (tups:∀b xs,H b=some (.tup xs)->H' b=some (.tup xs)) (frzs:∀b o u,H b=some (.frz o u)->H' b=some (.frz o u)) (tbls:∀b ps,H b=some (.tbl ps)->∃more,H' b=some (.tbl (ps++more)))
   (ns:∀m,s.heap.Ns X.env.locals m->h'.Ns X.env.locals m) (hok:HOk X.prog X.w H' h') (hg:AllBare g') :
   Inv X pins σ H' { s with heap:=h',gens:=g',drawn:=d',toks:=t' }:=by
 have neL:∀b o,X.s₀.heap.get? b=some o->b≠X.env.locals:=fun b o e=>Nat.ne_of_lt (Nat.lt_of_lt_of_le (Heap.lt_size e) I.ok.above);have neC:∀b o,X.s₀.heap.get? b=some o->b ∉ X.ex->b ∉ ch:=fun b o e hx hb=>by
   rcases(hch b hb).1 with z | z
   . exact hx z
   . exact absurd (Nat.lt_of_lt_of_le (Heap.lt_size e) z) (Nat.lt_irrefl _)
 have cellK:∀x c,X.env.cells.lookup x=some c->∀v,s.heap.IsCell c v->h'.IsCell c v:=fun x c e v ⟨o,ho,hd⟩=>by
   have nch:c ∉ ch:=fun z=>(hch c z).2.2.1 x c e rfl;by_cases hc:c∈X.fs
   . obtain⟨sl,q⟩:=slot c o (I.cne x c e) hc nch ho (I.freeC x c e);exact⟨_,q,hd⟩
   . exact⟨o,keep c o (I.cne x c e) hc nch ho (I.freeC x c e),hd⟩
 refine⟨I.ok,I.os,hg,⟨fun b o e n hb hx=>?_,fun b o e n hb hx=>?_,fun b o e n hx=>?_,fun b o e hx=>?_,fun b xs e=>tups b xs (I.base.tups b xs e),fun b o xs e=>frzs b o xs (I.base.frzs b o xs e),fun b ps e=>?_⟩,?_,fun x c e=>?_,?_,fun x c e=>?_,fun p hp=>?_,hok,I.len⟩
 . exact keep b o (neL b o e) hb (neC b o e hx) (I.base.keep b o e n hb hx) (I.base.free b o e n hx)
 . obtain⟨sl,e1⟩:=I.base.slot b o e n hb hx;obtain⟨sl',e2⟩:=slot b _ (neL b o e) hb (neC b o e hx) e1 (I.base.free b o e n hx);exact⟨sl',e2⟩
 . obtain⟨o',e1⟩:=I.base.there b o e hx;exact free b o' (neC b o e hx) e1 (I.base.free b o e n hx)
 . obtain⟨o',e1⟩:=I.base.there b o e hx;exact there b o' (neC b o e hx) e1
 . obtain⟨m1,e1⟩:=I.base.tbls b ps e;obtain⟨m2,e2⟩:=tbls b _ e1;exact⟨m1++m2,by rw[e2,Array.append_assoc]⟩
 . obtain⟨m,hn,hl⟩:=I.loc;refine⟨m,ns m hn,fun i x v e1 e2 e3=>?_⟩;obtain⟨u,r,l⟩:=hl i x v e1 e2 e3;refine⟨u,r,?_⟩;rcases l with l | ⟨k,c,e,z⟩
   . exact .inl l
   . exact .inr ⟨k,c,e,cellK x c e _ z⟩
 . obtain⟨v,z⟩:=I.cell x c e;exact⟨v,cellK x c e v z⟩
 . obtain⟨m,⟨o,_,_,ho,_⟩,_⟩:=I.loc;exact free _ o (fun z=>(hch _ z).2.1 rfl) ho I.free
 . obtain⟨v,o,ho,hd⟩:=I.cell x c e;exact free c o (fun z=>(hch c z).2.2.1 x c e rfl) ho (I.freeC x c e)
 . obtain⟨e,n,ne,nf,d⟩:=I.pin p hp;have nch:p.1 ∉ ch:=fun z=>(hch p.1 z).2.2.2 p hp rfl;exact⟨keep p.1 p.2 ne nf nch e n,free p.1 p.2 nch e n,ne,nf,d⟩
theorem Inv.un {t':Nat}(I:Inv X pins σ H s)(u:Un X.fs [] H H' s.heap h')(hok:HOk X.prog X.w H' h'):Inv X pins σ H' { s with heap:=h',toks:=t' }:=by
 obtain⟨m,⟨o,es,ep,ho,r⟩,_⟩:=id I.loc;obtain⟨sl,hL⟩:=u.any ho I.free (by simp);exact I.step (g':=s.gens) (d':=s.drawn) (ch:=[]) (fun _ z=>nomatch z) (fun b o _ hb _ e n=>u.keep b o e n hb (by simp)) (fun b o _ hb _ e n=>u.slot b o e n hb (by simp)) (fun b o _ e n=>u.free b o e n (by simp)) (fun b o _ e=>u.there b o e (by simp)) u.tups u.frzs u.tbls (fun m' hm=>by
   obtain⟨o',es',ep',ho',r'⟩:=hm;rw[ho] at ho';cases ho';exact⟨_,es',ep',hL,r'⟩) hok I.bare
theorem Inv.call {g':Array GenState}{t':Nat}{d':Drawn}{ch:List Addr}(I:Inv X pins σ H s)(u:Un (frs X.stack) ch H H' s.heap h')(hok:HOk X.prog X.w H' h')(hg:AllBare g')
   (hch:∀b∈ch,(b∈X.ex\/X.s₀.heap.objs.size<=b)/\b≠X.env.locals/\(∀x c,X.env.cells.lookup x=some c->c≠b)/\∀p∈X.pn++pins,p.1≠b) :
   Inv X pins σ H' { s with heap:=h',gens:=g',drawn:=d',toks:=t' }:=by
 obtain⟨m,⟨o,es,ep,ho,r⟩,_⟩:=id I.loc;obtain⟨sl,hL⟩:=u.any ho I.free fun z=>(hch _ z).2.1 rfl;exact I.step (ch:=ch) hch (fun b o hL hb hc e n=>u.keep b o e n (fun z=>(List.mem_cons.mp (I.stkSub b z)).elim hL hb) hc) (fun b o _ _ hc e n=>u.any e n hc) (fun b o hc e n=>u.free b o e n hc) (fun b o hc e=>u.there b o e hc) u.tups u.frzs u.tbls (fun m' hm=>by
   obtain⟨o',es',ep',ho',r'⟩:=hm;rw[ho] at ho';cases ho';exact⟨_,es',ep',hL,r'⟩) hok hg
theorem Inv.turned {t':Nat}{it:Addr}(I:Inv X pins σ H s)(k:∀b o,b≠it->s.heap.get? b=some o->h'.get? b=some o)(hn:H it=none)(hL:it≠X.env.locals)
   (h1:it∈X.ex\/X.s₀.heap.objs.size<=it) (h2:∀x c,X.env.cells.lookup x=some c->c≠it) (h3:∀p∈X.pn++pins,p.1≠it):Inv X pins σ H { s with heap:=h',toks:=t' }:=by
 have nit:∀b u,H b=some u->b≠it:=fun b u e z=>by rw[z,hn] at e;cases e
 refine I.step (g':=s.gens) (d':=s.drawn) (ch:=[it]) (fun b hb=>?_) (fun b o _ _ hc e _=>k b o (fun z=>hc (by simp [z])) e) (fun b o _ _ hc e _=>⟨o.slots,k b o (fun z=>hc (by simp [z])) e⟩) (fun _ _ _ _ n=>n)
   (fun b o hc e=>⟨o,k b o (fun z=>hc (by simp [z])) e⟩) (fun _ _ e=>e) (fun _ _ _ e=>e) (fun b ps e=>⟨#[],by rw[e];simp⟩) (fun m hm=>?_) (fun b u e=>?_) I.bare
 . have e:b=it:=by simpa using hb
   subst e;exact⟨h1,hL,h2,h3⟩
 . obtain⟨o,es,ep,ho,r⟩:=hm;exact⟨o,es,ep,k _ o (Ne.symm hL) ho,r⟩
 . refine(I.hok b u e).stay (fun c v hc q=>k c v ?_ q) (fun _ q=>q) fun _ _ q=>q;rcases hc with z | z
   . rw[z];exact nit b u e
   . exact nit c _ z
theorem Inv.tok (I:Inv X pins σ H s)(t:Nat):Inv X pins σ H { s with toks:=t }:=I.un (h':=s.heap) (t':=t) Un.refl I.hok
theorem Inv.kept {t':Nat}(I:Inv X pins σ H s)(k:∀b u,s.heap.get? b=some u->h'.get? b=some u):Inv X pins σ H { s with heap:=h',toks:=t' }:=I.un (Un.kept k) (I.hok.kept k)
theorem Inv.laid {a:Addr}{o:HO}{t':Nat}(I:Inv X pins σ H s)(k:∀b u,s.heap.get? b=some u->h'.get? b=some u)(hp:s.heap.objs.size<=a)(new:BW X.prog X.w (upd H a o) h' a o) :
   Inv X pins σ (upd H a o) { s with heap:=h',toks:=t' }:=I.un (Un.laid k hp (I.hok.fresh hp)) (I.hok.laid k hp new)
theorem Inv.write {x e:Addr}{o:HO}{t':Nat}(I:Inv X pins σ H s)(mu:Mut (H x))(he:e=x\/H e=some (.own x))(k:∀b u,b≠e->s.heap.get? b=some u->h'.get? b=some u)(heo:∃u,h'.get? e=some u)
   (new:BW X.prog X.w (upd H x o) h' x o):Inv X pins σ (upd H x o) { s with heap:=h',toks:=t' }:=I.un (Un.write mu he k heo) (I.hok.write mu he k heo new)
theorem Inv.pins_of {pins':List (Addr×Obj)}(I:Inv X pins σ H s)(h:∀p∈pins',s.heap.get? p.1=some p.2/\H p.1=none/\p.1≠X.env.locals/\p.1 ∉ X.fs/\∀v,p.2.data≠.cell v):Inv X pins' σ H s :=
 ⟨I.ok,I.os,I.bare,I.base,I.loc,I.cell,I.free,I.freeC,fun p hp=>(List.mem_append.mp hp).elim (fun z=>I.pin p (List.mem_append_left _ z)) (h p),I.hok,I.len⟩
theorem PR {N:List Str}(hN:N.Nodup){i j:Nat}{x:Str}(a:N[i]?=some x)(b:N[j]?=some x):i=j:=by
 obtain⟨h1,e1⟩:=List.getElem?_eq_some_iff.mp a;obtain⟨h2,e2⟩:=List.getElem?_eq_some_iff.mp b;exact(List.getElem_inj hN).mp (e1.trans e2.symm)
theorem V5 {M:Model}{A:Around}{E:Value->Shared->Prop}{i:Nat}{x:Str}{v:V}{u:Value}{Q:Unit->Shared->Prop}(I:Inv X pins σ H s)(hN:X.N.Nodup)(hi:X.N[i]?=some x)(hx:Loc X.env.scope x)(r:RelV v u)
   (h:∀s',Inv X pins (σ.set i (some v)) H s'->(∃a,Heap.SameBut a s.heap s'.heap/\(a=X.env.locals\/X.env.cells.lookup x=some a))->Q () s') (hf:X.fn x=true\/X.env.scope.names.lookup x=some .local:=by first | exact .inl rfl | exact .inr rfl | assumption):wpAny M A (storeName X.env x u) Q E s:=by
 obtain⟨m,hn,hl⟩:=id I.loc;have hcls:(X.env.scope.kind==.class||(X.env.scope.kind==.module&&X.env.locals != X.env.globals))=false:=by rw[I.ok.kind];rfl
 have hiσ:i<σ.length:=by rw[I.len];exact(List.getElem?_eq_some_iff.mp hi).1
 have cne:=I.cne;have tracked:∀{a:Addr} {h':Heap},(∃o,s.heap.get? a=some o/\H a=none)->Heap.SameBut a s.heap h'->HOk X.prog X.w H h':=fun {a h'} ha hs b ob e=>by
   obtain⟨_,_,hfree⟩:=ha;refine(I.hok b ob e).stay (fun c w' hc q=>(hs.2 c ?_).trans q) (fun _ q=>q) fun _ _ q=>q;rintro rfl;rcases hc with rfl | hc
   . rw[hfree] at e;cases e
   . rw[hfree] at hc;cases hc
 rcases hx with hk | hk
 . refine wpAny_storeName_local hk hn (fun h' hn' hs=>?_) hcls;obtain⟨oL,_,_,hoL,_⟩:=id hn;refine h _ ⟨I.ok,I.os,I.bare,⟨fun b o e n hb hx=>?_,fun b o e n hb hx=>?_,I.base.free,fun b o e hx=>?_,I.base.tups,I.base.frzs,I.base.tbls⟩,⟨_,hn',fun j y v' e1 e2 e3=>?_⟩,fun y c e=>?_,I.free,I.freeC,fun p hp=>?_,tracked ⟨oL,hoL,I.free⟩ hs,by simpa using I.len⟩ ⟨_,hs,.inl rfl⟩
   . exact(hs.2 b (Nat.ne_of_lt (Nat.lt_of_lt_of_le (Heap.lt_size e) I.ok.above))).trans (I.base.keep b o e n hb hx)
   . obtain⟨sl,e1⟩:=I.base.slot b o e n hb hx;exact⟨sl,(hs.2 b (Nat.ne_of_lt (Nat.lt_of_lt_of_le (Heap.lt_size e) I.ok.above))).trans e1⟩
   . obtain⟨o',e1⟩:=I.base.there b o e hx;exact⟨o',(hs.2 b (Nat.ne_of_lt (Nat.lt_of_lt_of_le (Heap.lt_size e) I.ok.above))).trans e1⟩
   . by_cases hj:j=i
     . subst hj;rw[hi] at e1;cases e1;rw[List.getElem?_set_self hiσ] at e2;cases e2;exact⟨u,r,.inl ⟨hk,by simp⟩⟩
     . rw[List.getElem?_set_ne (Ne.symm hj)] at e2;obtain⟨u',r',q⟩:=hl j y v' e1 e2 e3;refine⟨u',r',?_⟩;rcases q with ⟨k,e⟩ | ⟨k,c,e,z⟩
       . refine .inl ⟨k,?_⟩;have:y≠x:=fun e=>hj (PR hN e1 (e▸hi));simp [this,e]
       . exact .inr ⟨k,c,e,z.sameBut hs (cne y c e)⟩
   . obtain⟨w',z⟩:=I.cell y c e;exact⟨w',z.sameBut hs (cne y c e)⟩
   . obtain⟨e,n,ne,nf,d⟩:=I.pin p hp;exact⟨(hs.2 p.1 ne).trans e,n,ne,nf,d⟩
 . have hfn:X.fn x=true:=by
     rcases hf with z | z
     . exact z
     . rw[z] at hk;cases hk
   obtain⟨c,hc⟩:=I.ok.has x (.inl hk);obtain⟨w',z⟩:=I.cell x c hc;refine wpAny_storeName_cell I.ok.kind hk hc z (fun h' hc' hs=>?_);obtain⟨oc,hoc,hocd⟩:=id z;refine h { s with heap:=h' } ⟨I.ok,I.os,I.bare,⟨fun b o e n hb hx=>?_,fun b o e n hb hx=>?_,I.base.free,fun b o e hx=>?_,I.base.tups,I.base.frzs,I.base.tbls⟩,⟨m,hn.sameBut hs (Ne.symm (cne x c hc)),fun j y v' e1 e2 e3=>?_⟩,fun y c' e=>?_,I.free,I.freeC,fun p hp=>?_,tracked ⟨oc,hoc,I.freeC x c hc⟩ hs,by simpa using I.len⟩ ⟨c,hs,.inr hc⟩
   . exact(hs.2 b (Nat.ne_of_lt (Nat.lt_of_lt_of_le (Heap.lt_size e) (I.ok.cab x c hfn hc)))).trans (I.base.keep b o e n hb hx)
   . obtain⟨sl,e1⟩:=I.base.slot b o e n hb hx;exact⟨sl,(hs.2 b (Nat.ne_of_lt (Nat.lt_of_lt_of_le (Heap.lt_size e) (I.ok.cab x c hfn hc)))).trans e1⟩
   . obtain⟨o',e1⟩:=I.base.there b o e hx;exact⟨o',(hs.2 b (Nat.ne_of_lt (Nat.lt_of_lt_of_le (Heap.lt_size e) (I.ok.cab x c hfn hc)))).trans e1⟩
   . by_cases hj:j=i
     . subst hj;rw[hi] at e1;cases e1;rw[List.getElem?_set_self hiσ] at e2;cases e2;exact⟨u,r,.inr ⟨.inl hk,c,hc,hc'⟩⟩
     . rw[List.getElem?_set_ne (Ne.symm hj)] at e2;obtain⟨u',r',q⟩:=hl j y v' e1 e2 e3;refine⟨u',r',?_⟩;rcases q with q | ⟨k,c',e,z'⟩
       . exact .inl q
       . refine .inr ⟨k,c',e,z'.sameBut hs ?_⟩;rintro rfl;exact hj (PR hN e1 (I.ok.inj _ _ _ e hc▸hi))
   . by_cases hcc:c'=c
     . subst hcc;exact⟨_,hc'⟩
     . obtain⟨w2,z2⟩:=I.cell y c' e;exact⟨w2,z2.sameBut hs hcc⟩
   . obtain⟨e,n,ne,nf,d⟩:=I.pin p hp;refine⟨(hs.2 p.1 ?_).trans e,n,ne,nf,d⟩;intro q;rw[q,hoc] at e;have q':oc=p.2:=Option.some.inj e;exact d w' (by rw[<-q'];exact hocd)
theorem Nn {M:Model}{A:Around}{E:Value->Shared->Prop}{i:Nat}{x:Str}{v:V}{u:Value}{Q:Unit->Shared->Prop}(I:Inv X pins σ H s)(hN:X.N.Nodup)(hi:X.N[i]?=some x)(hx:Loc X.env.scope x)(r:RelV v u)
   (h:∀s',Inv X pins (σ.set i (some v)) H s'->Q () s') (hf:X.fn x=true\/X.env.scope.names.lookup x=some .local:=by first | exact .inl rfl | exact .inr rfl | assumption):wpAny M A (storeName X.env x u) Q E s :=
 V5 I hN hi hx r (fun s' I' _=>h s' I') hf
theorem Inv.call' {s':Shared}{ch:List Addr}(I:Inv X pins σ H s)(ho:s'.os=s.os)(u:Un (frs X.stack) ch H H' s.heap s'.heap)(hok:HOk X.prog X.w H' s'.heap)(hg:AllBare s'.gens)
   (hch:∀b∈ch,(b∈X.ex\/X.s₀.heap.objs.size<=b)/\b≠X.env.locals/\(∀x c,X.env.cells.lookup x=some c->c≠b)/\∀p∈X.pn++pins,p.1≠b):Inv X pins σ H' s':=by
 obtain⟨h',g',d',t',o'⟩:=s';have e:o'=s.os:=ho;subst e;exact I.call (g':=g') (t':=t') (d':=d') u hok hg hch
end
abbrev XK:=Value->Option Addr->Hp->Prop
abbrev St:=List (Option V)
abbrev VK:=V->Hp->Prop
abbrev TE:=St->Hp->VK->Prop
abbrev TT:=St->Hp->(Bool->Hp->Prop)->Prop
abbrev TA:=St->Hp->(List V->Hp->Prop)->Prop
structure Ends where
 nx:St->Hp->Prop
 rt:VK
 bk:St->Hp->Prop:=fun _ _=>False
 ct:St->Hp->Prop:=fun _ _=>False
abbrev TS:=Ends->St->Hp->Prop
def EP (X:Cx)(pins:List (Addr×Obj))(σ:St)(Q:VK)(u:Value)(s':Shared):Prop:=∃v H',Inv X pins σ H' s'/\RelV v u/\Q v H'
def TP (X:Cx)(pins:List (Addr×Obj))(σ:St)(Q:Bool->Hp->Prop)(b:Bool)(s':Shared):Prop:=∃H',Inv X pins σ H' s'/\Q b H'
def AP (X:Cx)(pins:List (Addr×Obj))(σ:St)(Q:List V->Hp->Prop)(us:List Value)(s':Shared):Prop:=∃vs H',Inv X pins σ H' s'/\Vals vs us/\Q vs H'
def SP (X:Cx)(pins:List (Addr×Obj))(D:Ends)(f:Flow)(s':Shared):Prop :=
 match f with
 | .next=>∃σ' H',Inv X pins σ' H' s'/\D.nx σ' H'
 | .brk=>∃σ' H',Inv X pins σ' H' s'/\D.bk σ' H'
 | .cont=>∃σ' H',Inv X pins σ' H' s'/\D.ct σ' H'
 | .ret u=>∃v σ' H',Inv X pins σ' H' s'/\RelV v u/\D.rt v H'
def PE (X:Cx)(e:Expr)(t:TE):Prop :=
 ∀(pins:List (Addr×Obj)) (s:Shared) (σ:St) (H:Hp) (Q:VK),Inv X pins σ H s->t σ H Q->wpAny (model X.prog X.w) X.A (eval e X.env) (EP X pins σ Q) X.xe s
def PT (X:Cx)(e:Expr)(t:TT):Prop :=
 ∀(pins:List (Addr×Obj)) (s:Shared) (σ:St) (H:Hp) (Q:Bool->Hp->Prop),Inv X pins σ H s->t σ H Q->wpAny (model X.prog X.w) X.A (isTrue e X.env (eval e X.env)) (TP X pins σ Q) X.xe s
def PW (X:Cx)(e:Expr)(t:TT):Prop :=
 ∀(whole:Sem Value) (pins:List (Addr×Obj)) (s:Shared) (σ:St) (H:Hp) (Q:Bool->Hp->Prop),Inv X pins σ H s->t σ H Q->wpAny (model X.prog X.w) X.A (isTrue e X.env whole) (TP X pins σ Q) X.xe s
theorem PW.pt {X:Cx}{e:Expr}{t:TT}(h:PW X e t):PT X e t:=h _
def PA (X:Cx)(es:List Expr)(t:TA):Prop :=
 ∀(pos:Pos) (pins:List (Addr×Obj)) (s:Shared) (σ:St) (H:Hp) (Q:List V->Hp->Prop),Inv X pins σ H s->t σ H Q->wpAny (model X.prog X.w) X.A (spliced (backTo pos (starEach es X.env))) (AP X pins σ Q) X.xe s
def PS (X:Cx)(st:Stmt)(t:TS):Prop :=
 ∀(pins:List (Addr×Obj)) (s:Shared) (σ:St) (H:Hp) (D:Ends),Inv X pins σ H s->t D σ H->wpAny (model X.prog X.w) X.A (exec st X.env) (SP X pins D) X.xe s
def PSs (X:Cx)(st:List Stmt)(t:TS):Prop :=
 ∀(pins:List (Addr×Obj)) (s:Shared) (σ:St) (H:Hp) (D:Ends),Inv X pins σ H s->t D σ H->wpAny (model X.prog X.w) X.A (execs st X.env) (SP X pins D) X.xe s
theorem thn {α:Type}{t:Sem α}{Q Q':α->Shared->Prop}{M:Model}{A:Around}{E:Value->Shared->Prop}{s:Shared}(h:wpAny M A t Q E s)(hQ:∀a s,Q a s->Q' a s):wpAny M A t Q' E s:=wpAny_mono h hQ fun _ _ x=>x
end L2
namespace L2
open PySem PySem.Spec PyProof.Rows
section
variable {X:Cx}
theorem bin {a b:Expr}{ta tb:TE}(ha:PE X a ta)(hb:PE X b tb){pins:List (Addr×Obj)}{s:Shared}{σ:St}{H:Hp}{R:V->V->Hp->Prop}(I:Inv X pins σ H s)(h:ta σ H fun x H1=>tb σ H1 fun y H2=>R x y H2)
   {α:Type} {Q:α->Shared->Prop} {f:Value->Value->Sem α}
   (hf:∀v u s2 x y H2,Inv X pins σ H2 s2->RelV x v->RelV y u->R x y H2->wpAny (model X.prog X.w) X.A (f v u) Q X.xe s2) :
   wpAny (model X.prog X.w) X.A (eval a X.env) (fun v s₁=>wpAny (model X.prog X.w) X.A (eval b X.env) (fun u s₂=>wpAny (model X.prog X.w) X.A (f v u) Q X.xe s₂) X.xe s₁) X.xe s:=by
 refine thn (ha pins s σ H _ I h) fun v s1 ⟨x,H1,I1,r1,q1⟩=>?_;refine thn (hb pins s1 σ H1 _ I1 q1) fun u s2 ⟨y,H2,I2,r2,q2⟩=>?_;exact hf v u s2 x y H2 I2 r1 r2 q2
def tVar (i:Nat):TE:=fun σ H Q=>∃v,σ[i]?=some (some v)/\Q v H
def tC (v:V):TE:=fun _ H Q=>Q v H
theorem pe_var {i:Nat}{x:Str}{pos:Pos}(hN:X.N[i]?=some x)(hv:Vis X.env.scope x)(hd:(x==("__debug__":Str))=false:=by decide)(hcd:(x==("__classdict__":Str))=false:=by decide):PE X (.Name x pos) (tVar i):=by
 intro pins s σ H Q I h;obtain⟨v,e,h⟩:=h;obtain⟨m,hn,hl⟩:=I.loc;obtain⟨u,r,l⟩:=hl i x v hN e hv;have fin:EP X pins σ Q u s:=⟨v,H,I,r,h⟩
 rcases l with ⟨hk,hm⟩ | ⟨hk,c,hc,hcell⟩
 . exact wpAny_Name (wpAny_loadName_local I.ok.kind hk hn hm fin) hd
 . rcases hk with hk | hk
   . exact wpAny_Name (wpAny_loadName_cell I.ok.kind hk hc hcell fin) hd
   . exact wpAny_Name (wpAny_loadName_free I.ok.kind hk hc hcell fin hcd) hd
theorem Ad {i j pos}:PE X (.Constant (.int i) j pos) (tC (.int i)):=fun _ _ _ H _ I h=>wpAny_Constant_int ⟨.int i,H,I.tok _,⟨_,rfl⟩,h⟩
theorem Bt {b j pos}:PE X (.Constant (.bool b) j pos) (tC (.bl b)):=fun _ _ _ H _ I h=>Constant_bool ⟨.bl b,H,I,rfl,h⟩
theorem B5 {j pos}:PE X (.Constant .none j pos) (tC .non):=fun _ _ _ H _ I h=>Constant_none ⟨.non,H,I,rfl,h⟩
theorem AY {x j pos}:PE X (.Constant (.str x) j pos) (tC (.str x)):=fun _ _ _ H _ I h=>Calls.Constant_str ⟨.str x,H,I.tok _,⟨_,rfl⟩,h⟩
def Gl (X:Cx)(x:Str):Prop:=X.env.kindOf x=some .globalImplicit
theorem Dz {E:Value->Shared->Prop}{pins:List (Addr×Obj)}{s:Shared}{σ:St}{H:Hp}{x:Str}{u:Value}{pos:Pos}{Q:Value->Shared->Prop}(I:Inv X pins σ H s)(hg:Gl X x)(hm:X.mg x=some u)(h:Q u s)
   (hd:(x==("__debug__":Str))=false:=by decide):wpAny (model X.prog X.w) X.A (eval (.Name x pos) X.env) Q E s :=
 Calls.Name_function_global I.ok.kind hg (Calls.loadGlobal_global (by rw[I.ok.glob];exact I.mod.glob.keeps I.bk) hm h) hd
theorem HP {E:Value->Shared->Prop}{pins:List (Addr×Obj)}{s:Shared}{σ:St}{H:Hp}{x:Str}{u:Value}{pos:Pos}{Q:Value->Shared->Prop}(I:Inv X pins σ H s)(hg:Gl X x)(hm:X.mg x=none)(hv:bootBuiltins x=some u)(h:Q u s)
   (hn:x≠"__name__":=by decide) (hd:(x==("__debug__":Str))=false:=by decide):wpAny (model X.prog X.w) X.A (eval (.Name x pos) X.env) Q E s:=by
 obtain⟨mb,h1,h2⟩:=I.mod.blt;exact Calls.Name_function_global I.ok.kind hg (Calls.loadGlobal_builtin (by rw[I.ok.glob];exact I.mod.glob.keeps I.bk) hm (by rw[I.ok.blt];exact h1.keeps I.bk) ((h2 x hn).trans hv) h) hd
theorem D5 {x:Str}{v:V}{u:Value}{pos:Pos}(hg:Gl X x)(hm:X.mg x=some u)(r:RelV v u)(hd:(x==("__debug__":Str))=false:=by decide):PE X (.Name x pos) (tC v) :=
 fun _ _ _ H _ I h=>Dz I hg hm ⟨v,H,I,r,h⟩ hd
theorem PU {x:Str}{v:V}{u:Value}{pos:Pos}(hg:Gl X x)(hm:X.mg x=none)(hv:bootBuiltins x=some u)(r:RelV v u)(hn:x≠"__name__":=by decide)(hd:(x==("__debug__":Str))=false:=by decide):PE X (.Name x pos) (tC v) :=
 fun _ _ _ H _ I h=>HP I hg hm hv ⟨v,H,I,r,h⟩ hn hd
variable {a b:Expr}{ta tb:TE}{pos:Pos}
def PC (X:Cx)(op:CmpOp)(a b:Expr)(t:TE):Prop :=
 ∀(pins:List (Addr×Obj)) (s:Shared) (σ:St) (H:Hp) (Q:VK),Inv X pins σ H s->t σ H Q ->
   wpAny (model X.prog X.w) X.A (eval a X.env) (fun v s₁=>wpAny (model X.prog X.w) X.A (eval b X.env) (fun u s₂=>wpAny (model X.prog X.w) X.A (compareOp op v u) (EP X pins σ Q) X.xe s₂) X.xe s₁) X.xe s
theorem ZC (b:Expr){op:CmpOp}(h:op≠.In)(h2:op≠.NotIn):behindInMarks op b=false:=by
 have e1:(op==CmpOp.In)=false:=by cases op <;> first | rfl | exact absurd rfl h
 have e2:(op==CmpOp.NotIn)=false:=by cases op <;> first | rfl | exact absurd rfl h2
 cases b <;> simp [behindInMarks,e1,e2]
def tB (t:TE):TT:=fun σ H Q=>t σ H fun x H1=>∃c,x = .bl c/\Q c H1
theorem pt_cmp {op:CmpOp}{t:TE}(h:PC X op a b t)(h1:behindInMarks op b=false:=by first | exact ZC _ (by decide) (by decide) | rfl):PT X (.Compare a [op] [b] pos) (tB t):=by
 intro pins s σ H Q I hw;refine wpAny_isTrue_Compare1 (thn (h pins s σ H _ I hw) fun v s1 h1=>thn h1 fun u s2 h2=>thn h2 fun c s3 ⟨x,H1,I1,r1,q1⟩=>?_) h1;obtain⟨d,rfl,q⟩:=q1;cases r1;exact wpAny_truthy_bool ⟨H1,I1,q⟩
theorem D6 {e:Expr}{t:TE}(h:PE X e t)(he:∀whole,isTrue e X.env whole=(do let v <-whole;standAt e.pos;holding [v] (truthy v)):=by intro _;rfl):PT X e (tB t):=by
 intro pins s σ H Q I hw;refine isTrue_plain (thn (h pins s σ H _ I hw) fun v s1 ⟨x,H1,I1,r1,q1⟩=>?_) (he _);obtain⟨d,rfl,q⟩:=q1;cases r1;exact wpAny_truthy_bool ⟨H1,I1,q⟩
variable {tA tB':TT}{rest:List Expr}
def tAnd (t u:TT):TT:=fun σ H Q=>t σ H fun c H1=>if c=true then u σ H1 Q else Q false H1
def tOr (t u:TT):TT:=fun σ H Q=>t σ H fun c H1=>if c=true then Q true H1 else u σ H1 Q
def tNot (t:TT):TT:=fun σ H Q=>t σ H fun c H1=>Q (!c) H1
theorem DR (ha:PT X a tA):PW X (.BoolOp .And [a] pos) tA:=by
 intro wh pins s σ H Q I h;refine isTrue_and (thn (ha pins s σ H Q I h) fun c s1 e=>?_);cases c with
 | true=>exact isTrue_and_nil e
 | false=>exact e
theorem Cz (ha:PT X a tA):PW X (.BoolOp .Or [a] pos) tA:=by
 intro wh pins s σ H Q I h;refine isTrue_or (thn (ha pins s σ H Q I h) fun c s1 e=>?_);cases c with
 | false=>exact isTrue_or_nil e
 | true=>exact e
theorem DA (ha:PT X a tA)(hb:PW X (.BoolOp .And (b::rest) pos) tB'):PW X (.BoolOp .And (a::b::rest) pos) (tAnd tA tB'):=by
 intro wh pins s σ H Q I h;refine isTrue_and (thn (ha pins s σ H _ I h) fun c s1 ⟨H1,I1,q1⟩=>?_);cases c with
 | true=>exact hb wh pins s1 σ H1 Q I1 q1
 | false=>exact⟨H1,I1,q1⟩
theorem Cc (ha:PT X a tA)(hb:PW X (.BoolOp .Or (b::rest) pos) tB'):PW X (.BoolOp .Or (a::b::rest) pos) (tOr tA tB'):=by
 intro wh pins s σ H Q I h;refine isTrue_or (thn (ha pins s σ H _ I h) fun c s1 ⟨H1,I1,q1⟩=>?_);cases c with
 | true=>exact⟨H1,I1,q1⟩
 | false=>exact hb wh pins s1 σ H1 Q I1 q1
theorem B6 (ha:PT X a tA):PT X (.UnaryOp .Not a pos) (tNot tA):=by
 intro pins s σ H Q I h;exact isTrue_not (ha pins s σ H (fun c H1=>Q (!c) H1) I h)
def No (ta tb:TE):TE:=fun σ H Q=>ta σ H fun x H1=>∃c,x = .bl c/\if c=true then tb σ H1 Q else Q (.bl false) H1
def tOrV (ta tb:TE):TE:=fun σ H Q=>ta σ H fun x H1=>∃c,x = .bl c/\if c=true then Q (.bl true) H1 else tb σ H1 Q
def V6 (ta:TE):TE:=fun σ H Q=>ta σ H fun x H1=>∃c,x = .bl c/\Q (.bl (!c)) H1
theorem Jb {op}{t:TE}(h:PE X a t):PE X (.BoolOp op [a] pos) t:=fun pins s σ H Q I hw=>BoolOp_one (h pins s σ H Q I hw)
theorem HQ (ha:PE X a ta)(hb:PE X (.BoolOp .And (b::rest) pos) tb):PE X (.BoolOp .And (a::b::rest) pos) (No ta tb):=by
 intro pins s σ H Q I h;refine BoolOp_and (thn (ha pins s σ H _ I h) fun v s1 ⟨x,H1,I1,r1,q1⟩=>?_);obtain⟨c,rfl,q1⟩:=q1;cases r1;refine wpAny_truthy_bool ?_;cases c with
 | true=>exact hb pins s1 σ H1 Q I1 q1
 | false=>exact⟨.bl false,H1,I1,rfl,q1⟩
theorem pe_or (ha:PE X a ta)(hb:PE X (.BoolOp .Or (b::rest) pos) tb):PE X (.BoolOp .Or (a::b::rest) pos) (tOrV ta tb):=by
 intro pins s σ H Q I h;refine BoolOp_or (thn (ha pins s σ H _ I h) fun v s1 ⟨x,H1,I1,r1,q1⟩=>?_);obtain⟨c,rfl,q1⟩:=q1;cases r1;refine wpAny_truthy_bool ?_;cases c with
 | false=>exact hb pins s1 σ H1 Q I1 q1
 | true=>exact⟨.bl true,H1,I1,rfl,q1⟩
theorem V7 (ha:PE X a ta):PE X (.UnaryOp .Not a pos) (V6 ta):=by
 intro pins s σ H Q I h;refine UnaryOp_ (thn (ha pins s σ H _ I h) fun v s1 ⟨x,H1,I1,r1,q1⟩=>?_);obtain⟨c,rfl,q1⟩:=q1;cases r1;exact not_of (wpAny_truthy_bool ⟨.bl (!c),H1,I1,rfl,q1⟩)
def tIf (t:TT)(ta tb:TE):TE:=fun σ H Q=>t σ H fun c H1=>if c=true then ta σ H1 Q else tb σ H1 Q
theorem V8 {c:Expr}(hc:PT X c tA)(ha:PE X a ta)(hb:PE X b tb):PE X (.IfExp c a b pos) (tIf tA ta tb):=by
 intro pins s σ H Q I h;refine wpAny_IfExp (thn (hc pins s σ H _ I h) fun d s1 ⟨H1,I1,q1⟩=>?_);cases d with
 | true=>exact ha pins s1 σ H1 Q I1 q1
 | false=>exact hb pins s1 σ H1 Q I1 q1
end
end L2
namespace L2
open PySem PySem.Spec PyProof.Rows
def SqL (K:PySem.W.Frag)(H:Hp)(a:Addr)(xs:List V):Prop :=
 Rd H a (.lst xs) \/
   ∃(o:Obj) (its:Array Value) (n:Nat),K.lookup a=some o/\o.cls = .type "list"/\o.dict=none/\o.data = .seq its n/\its.size<=sizeLine/\Vals xs its.toList
def SqT (K:PySem.W.Frag)(H:Hp)(a:Addr)(xs:List V):Prop :=
 Rd H a (.tup xs) \/
   ∃(o:Obj) (its:Array Value) (n:Nat),K.lookup a=some o/\o.cls = .type "tuple"/\o.data = .seq its n/\its.size<=sizeLine/\Vals xs its.toList
def absV:Value->Option V
 | .none=>some .non
 | .bool b=>some (.bl b)
 | .int i _=>some (.int i)
 | .str x _=>some (.str x)
 | .bytes b _=>some (.byt b)
 | .float b _=>some (.flt b)
 | .ref a=>some (.ref a)
 | .type n=>some (.ty n)
 | _=>none
theorem RelV.abs {x:V}{u:Value}(r:RelV x u):absV u=some x:=by
 cases x with
 | non=>cases r;rfl
 | bl _=>cases r;rfl
 | int _=>obtain⟨t,rfl⟩:=r;rfl
 | str _=>obtain⟨t,rfl⟩:=r;rfl
 | byt _=>obtain⟨t,rfl⟩:=r;rfl
 | flt _=>obtain⟨t,rfl⟩:=r;rfl
 | ref _=>cases r;rfl
 | ty _=>cases r;rfl
theorem RelV.inj {x y:V}{u:Value}(r:RelV x u)(q:RelV y u):x=y:=Option.some.inj (r.abs.symm.trans q.abs)
theorem Vals.inj:∀{xs ys:List V} {us:List Value},Vals xs us->Vals ys us->xs=ys
 | _,_,_,.nil,.nil=>rfl
 | _,_,_,.cons r t,.cons r' t'=>by rw[r.inj r',Vals.inj t t']
section
variable {X:Cx}{pins:List (Addr×Obj)}{σ:St}{H:Hp}{s:Shared}{a:Addr}{xs ys:List V}
theorem SqL.of {K:PySem.W.Frag}(h:H a=some (.lst xs)):SqL K H a xs:=.inl (.inl h)
theorem SqT.of {K:PySem.W.Frag}(h:H a=some (.tup xs)):SqT K H a xs:=.inl (.inl h)
theorem Inv.list (I:Inv X pins σ H s)(h:SqL X.K H a xs):∃its:List Value,Vals xs its/\PlainL s.heap a its.toArray/\xs.length<=sizeLine:=by
 rcases h with h | ⟨o,its,n,hk,hc,hd,hs,hz,r⟩
 . obtain⟨z,its,n,r,e⟩:=h.ok I.hok;exact⟨its,r,⟨_,n,e,rfl,rfl,rfl⟩,z⟩
 . refine⟨its.toList,r,⟨o,n,I.kIn a o hk,hc,hd,by simpa using hs⟩,?_⟩;have e:=r.length;simp only [Array.length_toList] at e;omega
theorem Inv.tuple (I:Inv X pins σ H s)(h:SqT X.K H a xs):∃its:List Value,Vals xs its/\IsTup s.heap a its.toArray/\xs.length<=sizeLine:=by
 rcases h with h | ⟨o,its,n,hk,hc,hs,hz,r⟩
 . obtain⟨z,its,r,p⟩:=h.ok I.hok;exact⟨its,r,p,z⟩
 . refine⟨its.toList,r,⟨o,I.kIn a o hk,hc,n,by simpa using hs⟩,?_⟩;have e:=r.length;simp only [Array.length_toList] at e;omega
theorem Inv.list_inj (I:Inv X pins σ H s)(h:SqL X.K H a xs)(h':SqL X.K H a ys):xs=ys:=by
 obtain⟨its,r,⟨o,n,e,_,_,d⟩,_⟩:=I.list h;obtain⟨its',r',⟨o',n',e',_,_,d'⟩,_⟩:=I.list h';rw[e] at e';cases e';rw[d] at d'
 injection d' with d1 _
 have:its=its':=by simpa using congrArg Array.toList d1
 subst this;exact r.inj r'
end
abbrev Cx.wish (X:Cx)(E:Value->Shared->Prop):Cx:={ X with xe:=E }
abbrev Cx.nox (X:Cx):Cx:=X.wish fun _ _=>False
theorem Cx.Ok.wish {X:Cx}(ok:X.Ok)(E:Value->Shared->Prop):(X.wish E).Ok :=
 ⟨ok.mod,ok.kind,ok.glob,ok.blt,ok.above,ok.inj,ok.has,ok.cab,ok.hd,ok.frames,ok.stk,ok.exf,ok.bs,ok.bsz,ok.noex,ok.exfs,ok.funs,ok.frf⟩
theorem Cx.Ok.unwish {X:Cx}{E:Value->Shared->Prop}(ok:(X.wish E).Ok):X.Ok :=
 ⟨ok.mod,ok.kind,ok.glob,ok.blt,ok.above,ok.inj,ok.has,ok.cab,ok.hd,ok.frames,ok.stk,ok.exf,ok.bs,ok.bsz,ok.noex,ok.exfs,ok.funs,ok.frf⟩
section
variable {X:Cx}{pins:List (Addr×Obj)}{σ:St}{H:Hp}{s:Shared}{E:Value->Shared->Prop}
theorem Inv.wish (I:Inv X pins σ H s)(E:Value->Shared->Prop):Inv (X.wish E) pins σ H s:=⟨I.ok.wish E,I.os,I.bare,I.base,I.loc,I.cell,I.free,I.freeC,I.pin,I.hok,I.len⟩
theorem Inv.unwish (I:Inv (X.wish E) pins σ H s):Inv X pins σ H s:=⟨I.ok.unwish,I.os,I.bare,I.base,I.loc,I.cell,I.free,I.freeC,I.pin,I.hok,I.len⟩
theorem SP.unwish {D:Ends}{f:Flow}{s':Shared}(h:SP (X.wish E) pins D f s'):SP X pins D f s':=by
 cases f with
 | next=>obtain⟨σ',H',I,q⟩:=h;exact⟨σ',H',I.unwish,q⟩
 | brk=>obtain⟨σ',H',I,q⟩:=h;exact⟨σ',H',I.unwish,q⟩
 | cont=>obtain⟨σ',H',I,q⟩:=h;exact⟨σ',H',I.unwish,q⟩
 | ret u=>obtain⟨v,σ',H',I,r,q⟩:=h;exact⟨v,σ',H',I.unwish,r,q⟩
theorem PE.nox {e:Expr}{t:TE}(h:PE X.nox e t):PE X e t:=fun pins s σ H Q I hw =>
 wpAny_mono (h pins s σ H Q (I.wish _) hw) (fun _ _ ⟨v,H',I',r,q⟩=>⟨v,H',I'.unwish,r,q⟩) fun _ _ z=>False.elim z
theorem PT.nox {e:Expr}{t:TT}(h:PT X.nox e t):PT X e t:=fun pins s σ H Q I hw =>
 wpAny_mono (h pins s σ H Q (I.wish _) hw) (fun _ _ ⟨H',I',q⟩=>⟨H',I'.unwish,q⟩) fun _ _ z=>False.elim z
theorem PSs.nox {st:List Stmt}{t:TS}(h:PSs X.nox st t):PSs X st t:=fun pins s σ H D I hw =>
 wpAny_mono (h pins s σ H D (I.wish _) hw) (fun _ _ q=>q.unwish) fun _ _ z=>False.elim z
end
section
variable {X:Cx}{st:Stmt}{rest:List Stmt}{t u:TS}{e:Expr}{te:TE}{pos:Pos}
def PV:TS:=fun D σ H=>D.nx σ H
def tSeq (t u:TS):TS:=fun D σ H=>t { D with nx:=u D } σ H
theorem AI:PSs X [] PV:=fun _ _ σ H _ I h=>wpAny_execs_nil ⟨σ,H,I,h⟩
theorem Ac (h1:PS X st t)(h2:PSs X rest u):PSs X (st::rest) (tSeq t u):=by
 intro pins s σ H D I h;refine wpAny_execs_cons (thn (h1 pins s σ H { D with nx:=u D } I h) fun f s1 q=>?_);cases f with
 | next =>
   obtain⟨σ',H',I',q⟩:=q;exact h2 pins s1 σ' H' D I' q
 | ret v=>exact q
 | brk=>exact q
 | cont=>exact q
theorem Ae (h1:PS X st t):PSs X [st] t:=by
 intro pins s σ H D I h;refine wpAny_execs_cons (thn (h1 pins s σ H D I h) fun f s1 q=>?_);cases f with
 | next=>exact wpAny_execs_nil q
 | ret v=>exact q
 | brk=>exact q
 | cont=>exact q
theorem ZD:PS X (.Pass pos) PV:=fun _ _ σ H _ I h=>wpAny_Pass ⟨σ,H,I,h⟩
theorem Inv.quiet {pins:List (Addr×Obj)}{σ:St}{H:Hp}{s:Shared}(I:Inv X pins σ H s):interactive X.env=false:=by simp [interactive,I.ok.kind]
def V9 (te:TE):TS:=fun D σ H=>te σ H fun _ H1=>D.nx σ H1
theorem Bl (he:PE X e te)(hs:swapsWith e none pos.line X.env=pure false:=by rfl):PS X (.Expr e pos) (V9 te):=by
 intro pins s σ H D I h;exact wpAny_Expr_any (thn (he pins s σ H _ I h) fun v s1 ⟨x,H1,I1,r1,q1⟩=>⟨σ,H1,I1,q1⟩) I.quiet hs
def tRet (te:TE):TS:=fun D σ H=>te σ H D.rt
theorem Au (he:PE X e te):PS X (.Return (some e) pos) (tRet te):=by
 intro pins s σ H D I h;exact wpAny_Return_some (thn (he pins s σ H _ I h) fun v s1 ⟨x,H1,I1,r1,q1⟩=>⟨x,σ,H1,I1,r1,q1⟩)
def tRetN:TS:=fun D _ H=>D.rt .non H
theorem ZE:PS X (.Return none pos) tRetN:=fun _ _ σ H _ I h=>wpAny_Return_none ⟨.non,σ,H,I,rfl,h⟩
def tIfS (c:TT)(t u:TS):TS:=fun D σ H=>c σ H fun b H1=>if b=true then t D σ H1 else u D σ H1
theorem AG {c:Expr}{a b:List Stmt}{tc:TT}(hc:PT X c tc)(ha:PSs X a t)(hb:PSs X b u):PS X (.If c a b pos) (tIfS tc t u):=by
 intro pins s σ H D I h;refine wpAny_If (thn (hc pins s σ H _ I h) fun d s1 ⟨H1,I1,q1⟩=>?_);cases d with
 | true=>exact ha pins s1 σ H1 D I1 q1
 | false=>exact hb pins s1 σ H1 D I1 q1
end
abbrev TG:=V->St->Hp->(St->Hp->Prop)->Prop
abbrev TGs:=List V->St->Hp->(St->Hp->Prop)->Prop
def PG (X:Cx)(target:Expr)(t:TG):Prop :=
 ∀(pins:List (Addr×Obj)) (s:Shared) (σ:St) (H:Hp) (v:V) (u:Value) (Q:St->Hp->Prop),Inv X pins σ H s->RelV v u->t v σ H Q ->
   wpAny (model X.prog X.w) X.A (assign target X.env u) (fun _ s'=>∃σ' H',Inv X pins σ' H' s'/\Q σ' H') X.xe s
def PGs (X:Cx)(ts:List Expr)(t:TGs):Prop :=
 ∀(pins:List (Addr×Obj)) (s:Shared) (σ:St) (H:Hp) (vs:List V) (us:List Value) (Q:St->Hp->Prop),Inv X pins σ H s->Vals vs us->t vs σ H Q ->
   wpAny (model X.prog X.w) X.A (assignInOrder ((assignEach ts X.env).map (·.2)) us) (fun _ s'=>∃σ' H',Inv X pins σ' H' s'/\Q σ' H') X.xe s
abbrev TSet:=V->V->V->Hp->(Hp->Prop)->Prop
def PSet (X:Cx)(t:TSet):Prop :=
 ∀(pins:List (Addr×Obj)) (s:Shared) (σ:St) (H:Hp) (o i v:V) (ov iv u:Value) (Q:Hp->Prop),Inv X pins σ H s->RelV o ov->RelV i iv->RelV v u->t o i v H Q ->
   wpAny (model X.prog X.w) X.A (setItem ov iv u) (fun _ s'=>∃H',Inv X pins σ H' s'/\Q H') X.xe s
section
variable {X:Cx}{pos:Pos}
def FW (i:Nat):TG:=fun v σ H Q=>Q (σ.set i (some v)) H
theorem Ay {i:Nat}{x:Str}(hN:X.N.Nodup)(hi:X.N[i]?=some x)(hx:Loc X.env.scope x)(hf:X.fn x=true\/X.env.scope.names.lookup x=some .local:=by first | exact .inl rfl | exact .inr rfl | assumption):PG X (.Name x pos) (FW i):=by
 intro pins s σ H v u Q I r h;exact wpAny_assign_Name (Nn I hN hi hx r (fun s' I'=>⟨_,H,I',h⟩) hf)
def gNil:TGs:=fun vs σ H Q=>vs=[]/\Q σ H
def Wa (t:TG)(u:TGs):TGs:=fun vs σ H Q=>∃v r,vs=v::r/\t v σ H fun σ' H'=>u r σ' H' Q
theorem BU:PGs X [] gNil:=by
 intro pins s σ H vs us Q I r h;obtain⟨e,h⟩:=h;subst e;cases r;exact assignInOrder_nil ⟨σ,H,I,h⟩
theorem AF {e:Expr}{es:List Expr}{t:TG}{u:TGs}(h1:PG X e t)(h2:PGs X es u)
   (hs:(assignEach (e::es) X.env).map (·.2)=assign e X.env::(assignEach es X.env).map (·.2):=by rfl):PGs X (e::es) (Wa t u):=by
 intro pins s σ H vs us Q I r h;obtain⟨v,vr,e1,h⟩:=h;subst e1;cases r with
 | cons r rr =>
   rw[hs];refine assignInOrder_cons (thn (h1 pins s σ H _ _ _ I r h) fun _ s1 ⟨σ1,H1,I1,q1⟩=>?_);exact h2 pins s1 σ1 H1 _ _ Q I1 rr q1
def gTup (K:PySem.W.Frag)(n:Nat)(t:TGs):TG:=fun v σ H Q=>∃a xs,v = .ref a/\SqT K H a xs/\xs.length=n/\t xs σ H Q
theorem Dr {es:List Expr}{k:Nat}{t:TGs}{n:Nat}(hc:X.calm=true)(h:PGs X es t)
   (hn:(assignEach es X.env).length=n:=by rfl) (hst:(assignEach es X.env).findIdx? (·.1)=none:=by rfl):PG X (.Tuple es k pos) (gTup X.K n t):=by
 intro pins s σ H v u Q I r hw;obtain⟨a,xs,e1,hq,hl,hw⟩:=hw;subst e1;cases r;obtain⟨its,rv,ht,hz⟩:=I.tuple hq;refine assign_Tuple_tuple (I.ok.hd hc) ht (by simp [hn,<-hl,rv.length]) hst fun h' hx=>?_;have I1:Inv X pins σ H { s with heap:=h' }:=I.kept (t':=s.toks) fun b o e=>hx b o (Nat.ne_of_lt (Heap.lt_size e)) e;exact h pins _ σ H xs _ Q I1 (by simpa using rv) hw
def gSub (to ti:TE)(t:TSet):TG:=fun v σ H Q=>to σ H fun o H1=>ti σ H1 fun i H2=>t o i v H2 fun H3=>Q σ H3
theorem FX {o i:Expr}{to ti:TE}{t:TSet}(ho:PE X o to)(hi:PE X i ti)(hs:PSet X t)
   (ha:∀v,assign (.Subscript o i pos) X.env v=(do
     let ov <-holding [v] (eval o X.env)
     let iv <-holding [v,ov] (eval i X.env)
     standAt pos
     holding [v,ov,iv] (setItem ov iv v)
     release [v,ov,iv] []):=by intro _;rfl):PG X (.Subscript o i pos) (gSub to ti t):=by
 intro pins s σ H v u Q I r h;rw[ha];refine wpAny_bind (wpAny_holding (thn (ho pins s σ H _ I h) fun ov s1 ⟨x,H1,I1,r1,q1⟩=>?_));refine wpAny_bind (wpAny_holding (thn (hi pins s1 σ H1 _ I1 q1) fun iv s2 ⟨y,H2,I2,r2,q2⟩=>?_));refine wpAny_bind (wpAny_standAt (wpAny_bind (wpAny_holding (thn (hs pins s2 σ H2 x y v ov iv u _ I2 r1 r2 r q2) fun _ s3 ⟨H3,I3,q3⟩=>?_))));exact wpAny_release ⟨σ,H3,I3,q3⟩
def tAsg (te:TE)(g:TG):TS:=fun D σ H=>te σ H fun x H1=>g x σ H1 D.nx
theorem Cm {tg e:Expr}{te:TE}{g:TG}(he:PE X e te)(hg:PG X tg g)(hs:swapsWithSole [tg] e pos.line X.env=pure false:=by rfl)(hw:swappedStores [tg] e X.env=pure none:=by rfl)
   (h1:(assignEach [tg] X.env).map (·.2)=[assign tg X.env]:=by rfl):PS X (.Assign [tg] e pos) (tAsg te g):=by
 intro pins s σ H D I h;refine wpAny_Assign_stores (thn (he pins s σ H _ I h) fun v s1 ⟨x,H1,I1,r1,q1⟩=>?_) hs hw;rw[h1];exact thn (hg pins s1 σ H1 x v _ I1 r1 q1) fun _ s2 q=>q
theorem At {i:Nat}{x:Str}{e:Expr}{te:TE}{pos':Pos}(hN:X.N.Nodup)(hi:X.N[i]?=some x)(hx:Loc X.env.scope x)(he:PE X e te)(hs:swapsWith e (some (.Name x pos')) pos.line X.env=pure false:=by rfl)(hf:X.fn x=true\/X.env.scope.names.lookup x=some .local:=by first | exact .inl rfl | exact .inr rfl | assumption) :
   PS X (.Assign [.Name x pos'] e pos) (tAsg te (FW i)):=by
 intro pins s σ H D I h;refine wpAny_Assign_Name (thn (he pins s σ H _ I h) fun v s1 ⟨y,H1,I1,r1,q1⟩=>?_) hs;exact Nn I1 hN hi hx r1 (fun s2 I2=>⟨_,H1,I2,q1⟩) hf
end
section
variable {X:Cx}{pos:Pos}
def ZF (c:TT)(tb:TS):TS:=fun D σ H=>∃W:Nat->St->Hp->Prop,(∃m,W m σ H)/\∀m σ H,W m σ H ->
 c σ H fun b H1=>if b=true then ∃N:St->Hp->Prop,(∀σ' H',N σ' H'->∃m',m'<m/\W m' σ' H')/\tb { D with nx:=N,ct:=N,bk:=D.nx } σ H1 else D.nx σ H1
theorem Jc {c:Expr}{body:List Stmt}{tc:TT}{tb:TS}(hp:PassesOwn (model X.prog X.w) X.A X.env X.xe)(hc:PT X c tc)(hb:PSs X body tb):PS X (.While c body [] pos) (ZF tc tb):=by
 intro pins s σ H D I h;obtain⟨W,⟨m0,w0⟩,turn⟩:=h;refine wpAny_While (codeAny_whileLoop (fun n s'=>∃σ' H',Inv X pins σ' H' s'/\W n σ' H') ?_ m0 ⟨σ,H,I,w0⟩);rintro n s1 ⟨σ1,H1,I1,w1⟩;refine wpAny_passesOwn hp (thn (hc pins s1 σ1 H1 _ I1 (turn n σ1 H1 w1)) fun b s2 ⟨H2,I2,q2⟩=>?_);cases b with
 | true =>
   obtain⟨N,hN,q2⟩:=q2;rw[if_pos rfl];refine wpAny_passesOwn hp (thn (hb pins s2 σ1 H2 _ I2 q2) fun f s3 q3=>?_);cases f with
   | next =>
     obtain⟨σ3,H3,I3,n3⟩:=q3;obtain⟨m',hm,w3⟩:=hN σ3 H3 n3;exact⟨m',hm,σ3,H3,I3,w3⟩
   | cont =>
     obtain⟨σ3,H3,I3,n3⟩:=q3;obtain⟨m',hm,w3⟩:=hN σ3 H3 n3;exact⟨m',hm,σ3,H3,I3,w3⟩
   | brk=>exact q3
   | ret v=>exact q3
 | false =>
   rw[if_neg Bool.false_ne_true];exact wpAny_execs_nil ⟨σ1,H2,I2,q2⟩
end
structure It where
 go:Nat->Hp->Prop
 yld:Nat->Hp->V->Hp->Prop
 stop:Nat->Hp->Prop
def FpOk (X:Cx)(pins:List (Addr×Obj))(H:Hp)(b:Addr):Prop :=
 H b=none/\b≠X.env.locals/\b ∉ X.fs/\(b∈X.ex\/X.s₀.heap.objs.size<=b)/\(∀x c,X.env.cells.lookup x=some c->c≠b)/\∀p∈X.pn++pins,p.1≠b
theorem Inv.fpOk {X:Cx}{pins:List (Addr×Obj)}{σ:St}{H H':Hp}{s:Shared}{b:Addr}(I:Inv X pins σ H s)(hb:s.heap.objs.size<=b)(hn:H' b=none):FpOk X pins H' b:=by
 refine⟨hn,Nat.ne_of_gt (Nat.lt_of_lt_of_le I.lt hb),I.nofs hb,.inr (Nat.le_trans I.sz hb),fun x c e z=>?_,fun p hp z=>?_⟩
 . obtain⟨v,q⟩:=I.cell x c e;exact absurd (Nat.lt_of_lt_of_le q.lt (by rw[z];exact hb)) (Nat.lt_irrefl _)
 . exact absurd (Nat.lt_of_lt_of_le (Heap.lt_size (I.pin p hp).1) (by rw[z];exact hb)) (Nat.lt_irrefl _)
structure Turn (P:Program)(w:World)(K:PySem.W.Frag)(tg:Expr)(J:It)(fp:List Addr)(it:Addr)(tn:Nat->Heap->Prop):Prop where
 mem:it∈fp
 obj:∀i h,tn i h->∀b∈fp,∃o,h.get? b=some o/\∀v,o.data≠.cell v
 keep:∀i h h',tn i h->(∀b∈fp,∀o,h.get? b=some o->h'.get? b=some o)->tn i h'
 item:∀(X:Cx),X.prog=P->X.w=w->X.K=K->X.calm=true->∀(i:Nat) (pins:List (Addr×Obj)) (s:Shared) (σ:St) (H:Hp) (E:Value->Shared->Prop),Inv X pins σ H s->(∀b∈fp,FpOk X pins H b)->tn i s.heap->J.go i H ->
   wpAny (model P w) X.A (pyNext (.ref it)) (fun r s1=>∃u,r=some u /\
     wpAny (model P w) X.A (letOwnedTupleGo tg (.ref it) u) (fun _ s2=>∃x H',Inv X pins σ H' s2/\RelV x u/\J.yld i H x H'/\tn (i+1) s2.heap/\∀b∈fp,H' b=none) E s1) E s
 done:∀(X:Cx),X.prog=P->X.w=w->X.K=K->X.calm=true->∀(i:Nat) (pins:List (Addr×Obj)) (s:Shared) (σ:St) (H:Hp) (E:Value->Shared->Prop),Inv X pins σ H s->(∀b∈fp,FpOk X pins H b)->tn i s.heap->J.stop i H ->
   wpAny (model P w) X.A (pyNext (.ref it)) (fun r s1=>r=none/\Inv X pins σ H s1) E s
 self:∀(A:Around) (i:Nat) (s:Shared) (Q:Value->Shared->Prop) (E:Value->Shared->Prop),tn i s.heap->Q (.ref it) s->wpAny (model P w) A (pyIter (.ref it)) Q E s
abbrev TI:=St->Hp->(It->Hp->Prop)->Prop
def PIE (X:Cx)(pins:List (Addr×Obj))(σ:St)(tg:Expr)(R:It->Hp->Prop)(itv:Value)(s2:Shared):Prop :=
 ∃(it:Addr) (fp:List Addr) (tn:Nat->Heap->Prop) (J:It) (H':Hp),itv = .ref it/\Inv X pins σ H' s2/\Turn X.prog X.w X.K tg J fp it tn/\tn 0 s2.heap/\(∀b∈fp,FpOk X pins H' b)/\R J H'
def PI (X:Cx)(tg iter:Expr)(wi:TI):Prop :=
 ∀(pins:List (Addr×Obj)) (s:Shared) (σ:St) (H:Hp) (R:It->Hp->Prop),Inv X pins σ H s->wi σ H R ->
   wpAny (model X.prog X.w) X.A (eval iter X.env) (fun v s1=>wpAny (model X.prog X.w) X.A (pyIter v) (PIE X pins σ tg R) X.xe s1) X.xe s
theorem PY {M:Model}{A:Around}{E:Value->Shared->Prop}{s:Shared}{tg:Expr}{it:Addr}{u:Value}{o:Obj}{n:String}{vs:Array Value}{Q:Unit->Shared->Prop}(ho:s.heap.get? it=some o)(hc:o.cls = .type n)(hd:o.data = .fields vs)
   (hn:["enumerate","zip","dict_itemiterator","dict_reverseitemiterator","odict_iterator","itertools.zip_longest","itertools.pairwise"].contains n=false) (hQ:Q () s):wpAny M A (letOwnedTupleGo tg (.ref it) u) Q E s:=by
 unfold letOwnedTupleGo;cases tg <;> first
   | exact wpAny_pure hQ
   | (cases u <;> first
       | exact wpAny_pure hQ
       | (refine wpAny_bind (wpAny_load ho ?_)
          rw[hc,hd];show wpAny M A (if (["enumerate","zip","dict_itemiterator","dict_reverseitemiterator","odict_iterator","itertools.zip_longest","itertools.pairwise"].contains n&&vs[0]?==some (rawInt _))=true then _ else _) Q E s;rw[if_neg (by intro h;rw[hn,Bool.false_and] at h;cases h)];exact wpAny_pure hQ))
def Itl (K:PySem.W.Frag)(a:Addr):It :=
 ⟨fun i H=>∃xs x,SqL K H a xs/\xs[i]?=some x,fun i H x H'=>H'=H/\∀xs,SqL K H a xs->xs[i]?=some x,fun i H=>∃xs,SqL K H a xs/\xs.length<=i⟩
def Itr (lo:Int)(n:Nat):It:=⟨fun i _=>i<n,fun i H x H'=>H'=H/\x = .int (lo+i),fun i _=>n<=i⟩
theorem ZG {P:Program}{w:World}{K:PySem.W.Frag}{tg:Expr}(a it:Addr):Turn P w K tg (Itl K a) [it] it (fun i h=>h.IsListIter it a i) where
 mem:=by simp
 obj:=fun i h st b hb=>by
   have e:b=it:=by simpa using hb
   subst e
   obtain⟨o,e,c,d⟩:=st
   exact⟨o,e,fun v z=>by rw[d] at z;cases z⟩
 keep:=fun i h h' st k=>st.at fun o e=>k it (by simp) o e
 item:=by
   intro X hP hw hK hc i pins s σ H E I hf st hg;subst hP hw hK;obtain⟨xs,x,hq,hx⟩:=hg;obtain⟨its,rv,p,hz⟩:=I.list hq;obtain⟨u,hu,ru⟩:=rv.get hx;obtain⟨f0,f1,f2,f3,f4,f5⟩:=hf it (by simp);refine wpAny_pyNext_list_item st p.isList (x:=u) (by simpa using hu) fun h' st' sb=>?_;have I1:Inv X pins σ H { s with heap:=h' }:=I.turned (t':=s.toks) (fun b o hb e=>(sb.2 b hb).trans e) f0 f1 f3 f4 f5;obtain⟨o,e,c,d⟩:=id st';exact⟨u,rfl,PY (s:={ s with heap:=h' }) e c d (by decide) ⟨x,H,I1,ru,⟨rfl,fun ys hy=>by rw[I.list_inj hy hq];exact hx⟩,st',fun b hb=>(hf b hb).1⟩⟩
 done:=by
   intro X hP hw hK hc i pins s σ H E I hf st hg;subst hP hw hK;obtain⟨xs,hq,hx⟩:=hg;obtain⟨its,rv,p,hz⟩:=I.list hq;obtain⟨f0,f1,f2,f3,f4,f5⟩:=hf it (by simp);have hl:=rv.length;exact wpAny_pyNext_list_end (I.ok.hd hc) st p.isList (by simp;omega) fun h' eb=>⟨rfl,I.turned (t':=s.toks) (fun b o hb e=>eb b o hb e) f0 f1 f3 f4 f5⟩
 self:=fun _ _ _ _ _ st h=>wpAny_pyIter_listiter st h
theorem ZH {P:Program}{w:World}{K:PySem.W.Frag}{tg:Expr}(it:Addr)(lo:Int)(n:Nat):Turn P w K tg (Itr lo n) [it] it (fun i h=>IsRangeIter h it (lo+(i:Nat)*1) ((n:Int)-(i:Nat)) 1) where
 mem:=by simp
 obj:=fun i h st b hb=>by
   have e:b=it:=by simpa using hb
   subst e
   exact⟨_,st,fun v z=>by
     have z':Data.fields _=Data.cell v:=z
     cases z'⟩
 keep:=fun i h h' st k=>k it (by simp) _ st
 item:=by
   intro X hP hw hK hc i pins s σ H E I hf st hg;subst hP hw hK;obtain⟨f0,f1,f2,f3,f4,f5⟩:=hf it (by simp);have W:=Walks.range (prog:=X.prog) (w:=X.w) (I.ok.hd hc) it lo 1 n;refine W.item i s _ _ hg st fun v h' tk hv st' kk=>?_;obtain⟨t,rfl⟩:=hv;have I1:Inv X pins σ H { s with heap:=h',toks:=tk }:=I.turned (fun b o hb e=>kk b o (by simpa using hb) e) f0 f1 f3 f4 f5;refine⟨_,rfl,PY (s:={ s with heap:=h',toks:=tk }) (n:="range_iterator") st' rfl rfl (by decide) ⟨.int (lo+i),H,I1,⟨t,?_⟩,⟨rfl,rfl⟩,st',fun b hb=>(hf b hb).1⟩⟩;rw[Int.mul_one]
 done:=by
   intro X hP hw hK hc i pins s σ H E I hf st hg;subst hP hw hK;obtain⟨f0,f1,f2,f3,f4,f5⟩:=hf it (by simp);exact wpAny_pyNext_range_end (I.ok.hd hc) st (by have:n<=i:=hg;omega) fun h' eb=>⟨rfl,I.turned (t':=s.toks) (fun b o hb e=>eb b o hb e) f0 f1 f3 f4 f5⟩
 self:=fun _ _ _ _ _ st h=>wpAny_pyIter_rangeiter st h
end L2
namespace L2
open PySem PySem.Spec PyProof.Rows
section
variable {X:Cx}{tg:Expr}
def iList (K:PySem.W.Frag)(tl:TE):TI:=fun σ H R=>tl σ H fun x H1=>∃a,x = .ref a/\(∃xs,SqL K H1 a xs)/\R (Itl K a) H1
theorem BV {l:Expr}{tl:TE}(hl:PE X l tl):PI X tg l (iList X.K tl):=by
 intro pins s σ H R I h;refine thn (hl pins s σ H _ I h) fun v s1 ⟨x,H1,I1,r1,q1⟩=>?_;obtain⟨a,e,⟨xs,hq⟩,q⟩:=q1;subst e;cases r1;obtain⟨its,rv,p,hz⟩:=I1.list hq;refine wpAny_pyIter_list p.isList ?_;refine⟨s1.heap.objs.size,[s1.heap.objs.size],_,_,H1,rfl,I1.kept (t':=s1.toks) fun b o e=>Heap.get?_push_of_some _ e,ZG a _,⟨_,Heap.get?_push_size _ rfl,rfl,rfl⟩,fun b hb=>?_,q⟩;have e:b=s1.heap.objs.size:=by simpa using hb
 subst e;exact I1.fpOk (Nat.le_refl _) (I1.hok.fresh (Nat.le_refl _))
theorem Wb {pins:List (Addr×Obj)}{σ:St}{H:Hp}{s:Shared}{R:It->Hp->Prop}{E:Value->Shared->Prop}{lo hi:Int}{t u v:Tok}{tk:Nat}(I:Inv X pins σ H s)(h1 : -(2^62)<=lo)(h2:lo<2^62)(h3 : -(2^62)<=hi)(h4:hi<2^62)
   (q:R (Itr lo (hi-lo).toNat) H):wpAny (model X.prog X.w) X.A (pyIter (.ref s.heap.objs.size)) (PIE X pins σ tg R) E { s with heap:=s.heap.push { cls:=.type "range",data:=.fields #[.int lo t,.int hi u,.int 1 v] },toks:=tk }:=by
 refine wpAny_pyIter_range (IsRange.new ..) (small_one h1 h2 h3 h4) ?_;have I1:Inv X pins σ H { s with heap:=s.heap.push { cls:=.type "range",data:=.fields #[.int lo t,.int hi u,.int 1 v] },toks:=tk }:=I.kept fun b o e=>Heap.get?_push_of_some _ e;refine⟨(s.heap.push { cls:=.type "range",data:=.fields #[.int lo t,.int hi u,.int 1 v] }).objs.size,[(s.heap.push { cls:=.type "range",data:=.fields #[.int lo t,.int hi u,.int 1 v] }).objs.size],_,_,H,rfl,
   I1.kept (t':=tk) fun b o e=>Heap.get?_push_of_some _ e,ZH _ lo (hi-lo).toNat,?_,fun b hb=>?_,q⟩
 . have e1:lo+((0:Nat):Int)*1=lo:=by simp
   have e2:(((hi-lo).toNat:Nat):Int)-((0:Nat):Int)=Builtin.Range.rangeSize lo hi 1:=by rw[rangeSize_one];split <;> omega
   show IsRangeIter _ _ (lo+((0:Nat):Int)*1) ((((hi-lo).toNat:Nat):Int)-((0:Nat):Int)) 1;rw[e1,e2];exact Heap.get?_push_size _ rfl
 . have e:b=(s.heap.push { cls:=.type "range",data:=.fields #[.int lo t,.int hi u,.int 1 v] }).objs.size:=by simpa using hb
   subst e;exact I1.fpOk (Nat.le_refl _) (I1.hok.fresh (Nat.le_refl _))
def iRng1 (ta:TA):TI:=fun σ H R=>ta σ H fun vs H1=>∃j:Int,vs=[.int j]/\-(2^62)<=j/\j<2^62/\R (Itr 0 j.toNat) H1
def iRng2 (ta:TA):TI:=fun σ H R=>ta σ H fun vs H1=>∃i j:Int,vs=[.int i,.int j]/\(-(2^62)<=i/\i<2^62/\-(2^62)<=j/\j<2^62)/\R (Itr i (j-i).toNat) H1
theorem PZ {a:Expr}{ta:TA}{p pos:Pos}(hg:Gl X "range")(hm:X.mg "range"=none)(ha:PA X [a] ta)(hs:starEach [a] X.env=[(false,eval a X.env)]:=by rfl):PI X tg (.Call (.Name "range" p) [a] [] pos) (iRng1 ta):=by
 intro pins s σ H R I h;refine Call_ (HP I hg hm boot_range (PyProof.Rows.callWith_type1 (thn (ha pos pins s σ H _ I h) fun us s1 ⟨vs,H1,I1,r1,q1⟩=>?_) hs rfl));obtain⟨j,e,q1,q2,q⟩:=q1;subst e;cases r1 with
 | cons r rr =>
   cases rr;obtain⟨t,rfl⟩:=r;exact call_range_1 (Wb I1 (by omega) (by omega) q1 q2 (by simpa using q))
theorem Wc {a b:Expr}{ta:TA}{p pos:Pos}(hg:Gl X "range")(hm:X.mg "range"=none)(ha:PA X [a,b] ta)(hs:starEach [a,b] X.env=[(false,eval a X.env),(false,eval b X.env)]:=by rfl)(hs2:starEach [b] X.env=[(false,eval b X.env)]:=by rfl) :
   PI X tg (.Call (.Name "range" p) [a,b] [] pos) (iRng2 ta):=by
 intro pins s σ H R I h;refine Call_ (HP I hg hm boot_range (PyProof.Rows.callWith_type1 (thn (ha pos pins s σ H _ I h) fun us s1 ⟨vs,H1,I1,r1,q1⟩=>?_) (by rw[hs,hs2]) (by rw[hs2];rfl)));obtain⟨i,j,e,⟨q1,q2,q3,q4⟩,q⟩:=q1;subst e;cases r1 with
 | cons r rr =>
   cases rr with
   | cons r' rr =>
     cases rr;obtain⟨t,rfl⟩:=r;obtain⟨t',rfl⟩:=r';exact call_range_2 (Wb I1 q1 q2 q3 q4 q)
def tFor (wi:TI)(g:TG)(tb:TS):TS:=fun D σ H=>wi σ H fun J H1=>∃W:Nat->Nat->St->Hp->Prop,(∃m,W 0 m σ H1)/\∀i m σ H,W i m σ H ->
 (J.stop i H/\D.nx σ H)\/(J.go i H/\∃N:St->Hp->Prop,(∀σ' H',N σ' H'->∃m',m'<m/\W (i+1) m' σ' H')/\∀x H',J.yld i H x H'->g x σ H' fun σ2 H2=>tb { D with nx:=N,ct:=N,bk:=D.nx } σ2 H2)
def Jd (fp:List Addr)(h:Heap):List (Addr×Obj):=fp.filterMap fun b=>(h.get? b).map fun o=>(b,o)
theorem Np {fp:List Addr}{h:Heap}{b:Addr}{o:Obj}(hb:b∈fp)(e:h.get? b=some o):(b,o)∈Jd fp h:=List.mem_filterMap.mpr ⟨b,hb,by rw[e];rfl⟩
theorem ZI {fp:List Addr}{h:Heap}{p:Addr×Obj}(hp:p∈Jd fp h):p.1∈fp/\h.get? p.1=some p.2:=by
 obtain⟨b,hb,e⟩:=List.mem_filterMap.mp hp;cases q:h.get? b with
 | none=>rw[q] at e;cases e
 | some o =>
   rw[q] at e;have e':(b,o)=p:=Option.some.inj e;subst e';exact⟨hb,q⟩
theorem Inv.pinned {pins:List (Addr×Obj)}{σ:St}{H:Hp}{s:Shared}{fp:List Addr}(I:Inv X pins σ H s)(hf:∀b∈fp,FpOk X pins H b)(ho:∀b∈fp,∃o,s.heap.get? b=some o/\∀v,o.data≠.cell v):Inv X (pins++Jd fp s.heap) σ H s :=
 I.pins_of fun p hp=>(List.mem_append.mp hp).elim (fun z=>I.pin p (List.mem_append_right _ z)) fun z=>by
   obtain⟨hb,e⟩:=ZI z
   obtain⟨f0,f1,f2,_⟩:=hf p.1 hb
   obtain⟨o,e',d⟩:=ho p.1 hb
   rw[e] at e';cases e'
   exact⟨e,f0,f1,f2,d⟩
theorem Inv.unpinned {pins pl:List (Addr×Obj)}{σ:St}{H:Hp}{s:Shared}(I:Inv X (pins++pl) σ H s):Inv X pins σ H s:=I.pins_of fun p hp=>I.pin p (List.mem_append_right _ (List.mem_append_left _ hp))
theorem DS {iter:Expr}{body:List Stmt}{wi:TI}{g:TG}{tb:TS}{pos:Pos}(hp:PassesOwn (model X.prog X.w) X.A X.env X.xe)(hc:X.calm=true)(hi:PI X tg iter wi)(hg:PG X tg g)(hb:PSs X body tb)
   (hs:∀x,foldedSetIterable iter X.env x=pure x:=by intro _;rfl):PS X (.For tg iter body [] pos) (tFor wi g tb):=by
 intro pins s σ H D I h;refine wpAny_For (thn (hi pins s σ H _ I h) fun v s1 h1=>thn h1 fun itv s2 h2=>?_) hs;obtain⟨it,fp,tn,J,H2,e,I2,T,st2,f2,W,⟨m0,w0⟩,turn⟩:=h2;subst e
 -- what stays true of the iterator's objects through the loop
 have stat:∀{H':Hp},(∀b∈fp,H' b=none)->∀b∈fp,FpOk X pins H' b:=fun hn b hb=>⟨hn b hb,(f2 b hb).2⟩
 refine codeAny_forLoop_any (fun n s'=>∃i σ' H',Inv X pins σ' H' s'/\tn i s'.heap/\(∀b∈fp,H' b=none)/\W i n σ' H') ?_ m0 ⟨0,σ,H2,I2,st2,fun b hb=>(f2 b hb).1,w0⟩;rintro n s3 ⟨i,σ3,H3,I3,st3,fr3,w3⟩;rcases turn i n σ3 H3 w3 with ⟨stop,qn⟩ | ⟨go,N,hN,step⟩
 . refine wpAny_passesOwn hp (thn (T.done X rfl rfl rfl hc i pins s3 σ3 H3 X.xe I3 (stat fr3) st3 stop) fun r s4 ⟨hr,I4⟩=>?_);subst hr;exact wpAny_execs_nil ⟨σ3,H3,I4,qn⟩
 . refine wpAny_passesOwn hp (thn (T.item X rfl rfl rfl hc i pins s3 σ3 H3 X.xe I3 (stat fr3) st3 go) fun r s4 ⟨u,hr,h4⟩=>?_);subst hr;refine wpAny_passesOwn hp (thn h4 fun _ s5 ⟨x,H5,I5,r5,y5,st5,fr5⟩=>?_);have I5':=I5.pinned (stat fr5) (T.obj _ _ st5);refine wpAny_passesOwn hp (thn (hg _ s5 σ3 H5 x u _ I5' r5 (step x H5 y5)) fun _ s6 ⟨σ6,H6,I6,q6⟩=>?_);refine wpAny_passesOwn hp (thn (hb _ s6 σ6 H6 _ I6 q6) fun f s7 q7=>?_);have again:∀{σ7:St} {H7:Hp},Inv X (pins++Jd fp s5.heap) σ7 H7 s7->N σ7 H7->∃m,m<n/\∃i σ' H',Inv X pins σ' H' s7/\tn i s7.heap/\(∀b∈fp,H' b=none)/\W i m σ' H':=fun {σ7 H7} I7 n7=>by
     obtain⟨m',hm,w7⟩:=hN σ7 H7 n7;refine⟨m',hm,i+1,σ7,H7,I7.unpinned,T.keep _ _ _ st5 fun b hb o e=>(I7.pin (b,o) (List.mem_append_right _ (List.mem_append_right _ (Np hb e)))).1,fun b hb=>?_,w7⟩;obtain⟨o,e,d⟩:=T.obj _ _ st5 b hb;exact(I7.pin (b,o) (List.mem_append_right _ (List.mem_append_right _ (Np hb e)))).2.1
   cases f with
   | next=>obtain⟨σ7,H7,I7,n7⟩:=q7;exact again I7 n7
   | cont=>obtain⟨σ7,H7,I7,n7⟩:=q7;exact again I7 n7
   | brk=>obtain⟨σ7,H7,I7,q7⟩:=q7;exact⟨σ7,H7,I7.unpinned,q7⟩
   | ret v=>obtain⟨x7,σ7,H7,I7,r7,q7⟩:=q7;exact⟨x7,σ7,H7,I7.unpinned,r7,q7⟩
end
theorem FY {K:PySem.W.Frag}{a:Addr}{xs:List V}{g:TG}{tb:TS}{D:Ends}{σ:St}{H:Hp}(Pv:Nat->St->Hp->Prop)(h0:Pv 0 σ H)(hl:∀i σ H,i<=xs.length->Pv i σ H->SqL K H a xs)
   (hs:∀i x σ H,xs[i]?=some x->Pv i σ H->g x σ H fun σ2 H2=>tb { D with nx:=Pv (i+1),ct:=Pv (i+1),bk:=D.nx } σ2 H2) (hd:∀σ H,Pv xs.length σ H->D.nx σ H) :
   ∃W:Nat->Nat->St->Hp->Prop,(∃m,W 0 m σ H)/\∀i m σ H,W i m σ H ->
     ((Itl K a).stop i H/\D.nx σ H)\/((Itl K a).go i H/\∃N:St->Hp->Prop,(∀σ' H',N σ' H'->∃m',m'<m/\W (i+1) m' σ' H')/\∀x H',(Itl K a).yld i H x H'->g x σ H' fun σ2 H2=>tb { D with nx:=N,ct:=N,bk:=D.nx } σ2 H2):=by
 refine⟨fun i m σ H=>m=xs.length-i/\i<=xs.length/\Pv i σ H,⟨xs.length,by simp,Nat.zero_le _,h0⟩,?_⟩;rintro i m σ H ⟨rfl,hi,p⟩;have q:=hl i σ H hi p;by_cases hlt:i<xs.length
 . refine .inr ⟨⟨xs,xs[i],q,by simp [hlt]⟩,Pv (i+1),fun σ' H' p'=>⟨xs.length-(i+1),by omega,rfl,hlt,p'⟩,fun x H' y=>?_⟩;obtain⟨e,y⟩:=y;subst e;exact hs i x σ _ (y xs q) p
 . have e:i=xs.length:=by omega
   subst e;exact .inl ⟨⟨xs,q,Nat.le_refl _⟩,hd σ H p⟩
theorem Wd {lo:Int}{n:Nat}{g:TG}{tb:TS}{D:Ends}{σ:St}{H:Hp}(Pv:Nat->St->Hp->Prop)(h0:Pv 0 σ H)
   (hs:∀i σ H,i<n->Pv i σ H->g (.int (lo+i)) σ H fun σ2 H2=>tb { D with nx:=Pv (i+1),ct:=Pv (i+1),bk:=D.nx } σ2 H2) (hd:∀σ H,Pv n σ H->D.nx σ H) :
   ∃W:Nat->Nat->St->Hp->Prop,(∃m,W 0 m σ H)/\∀i m σ H,W i m σ H ->
     ((Itr lo n).stop i H/\D.nx σ H)\/((Itr lo n).go i H/\∃N:St->Hp->Prop,(∀σ' H',N σ' H'->∃m',m'<m/\W (i+1) m' σ' H')/\∀x H',(Itr lo n).yld i H x H'->g x σ H' fun σ2 H2=>tb { D with nx:=N,ct:=N,bk:=D.nx } σ2 H2):=by
 refine⟨fun i m σ H=>m=n-i/\i<=n/\Pv i σ H,⟨n,by simp,Nat.zero_le _,h0⟩,?_⟩;rintro i m σ H ⟨rfl,hi,p⟩;by_cases hlt:i<n
 . refine .inr ⟨hlt,Pv (i+1),fun σ' H' p'=>⟨n-(i+1),by omega,rfl,hlt,p'⟩,fun x H' y=>?_⟩;obtain⟨e,y⟩:=y;subst e y;exact hs i σ _ hlt p
 . have e:i=n:=by omega
   subst e;exact .inl ⟨Nat.le_refl _,hd σ H p⟩
end L2
namespace L2
open PySem PySem.Spec PyProof.Rows
abbrev R2:=V->V->Hp->VK->Prop
def OpR (X:Cx)(f:Value->Value->Sem Value)(r:R2):Prop :=
 ∀(pins:List (Addr×Obj)) (s:Shared) (σ:St) (H:Hp) (x y:V) (v u:Value) (Q:VK),Inv X pins σ H s->RelV x v->RelV y u->r x y H Q ->
   wpAny (model X.prog X.w) X.A (f v u) (EP X pins σ Q) X.xe s
def UnR (X:Cx)(f:Value->Sem Value)(r:V->Hp->VK->Prop):Prop :=
 ∀(pins:List (Addr×Obj)) (s:Shared) (σ:St) (H:Hp) (x:V) (v:Value) (Q:VK),Inv X pins σ H s->RelV x v->r x H Q ->
   wpAny (model X.prog X.w) X.A (f v) (EP X pins σ Q) X.xe s
def DT (X:Cx)(f:Value)(r:List V->Hp->VK->Prop):Prop :=
 ∀(pins:List (Addr×Obj)) (s:Shared) (σ:St) (H:Hp) (xs:List V) (us:List Value) (Q:VK),Inv X pins σ H s->Vals xs us->r xs H Q ->
   wpAny (model X.prog X.w) X.A (call f us) (EP X pins σ Q) X.xe s
def TruR (X:Cx)(r:V->Hp->(Bool->Hp->Prop)->Prop):Prop :=
 ∀(pins:List (Addr×Obj)) (s:Shared) (σ:St) (H:Hp) (x:V) (v:Value) (Q:Bool->Hp->Prop),Inv X pins σ H s->RelV x v->r x H Q ->
   wpAny (model X.prog X.w) X.A (truthy v) (TP X pins σ Q) X.xe s
def tOp (r:R2)(ta tb:TE):TE:=fun σ H Q=>ta σ H fun x H1=>tb σ H1 fun y H2=>r x y H2 Q
def tUn (r:V->Hp->VK->Prop)(ta:TE):TE:=fun σ H Q=>ta σ H fun x H1=>r x H1 Q
def rI (C:Int->Int->Prop)(g:Int->Int->V):R2:=fun x y H Q=>∃i j,x = .int i/\y = .int j/\C i j/\Q (g i j) H
def rI0 (g:Int->Int->V):R2:=fun x y H Q=>∃i j,x = .int i/\y = .int j/\Q (g i j) H
def rU (g:Int->V):V->Hp->VK->Prop:=fun x H Q=>∃i,x = .int i/\Q (g i) H
section
variable {X:Cx}{a b c:Expr}{ta tb tc:TE}{pos:Pos}
theorem binT (ha:PE X a ta)(hb:PE X b tb){pins:List (Addr×Obj)}{s:Shared}{σ:St}{H:Hp}{R:V->V->Hp->Prop}(I:Inv X pins σ H s)
   (h:ta σ H fun x H1=>tb σ H1 fun y H2=>R x y H2) {Q:Value->Shared->Prop} {f:Value->Value->Sem Value}
   (hf:∀v u s2 x y H2,Inv X pins σ H2 s2->RelV x v->RelV y u->R x y H2->wpAny (model X.prog X.w) X.A (f v u) Q X.xe s2) :
   wpAny (model X.prog X.w) X.A (eval a X.env) (fun v s₁=>wpAny (model X.prog X.w) X.A (eval b X.env) (fun u s₂=>wpAny (model X.prog X.w) X.A (f v u) Q X.xe s₂) X.xe s₁) X.xe s:=by
 refine thn (ha pins s σ H _ I h) fun v s1 ⟨x,H1,I1,r1,q1⟩=>?_;refine thn (hb pins s1 σ H1 _ I1 q1) fun u s2 ⟨y,H2,I2,r2,q2⟩=>?_;exact hf v u s2 x y H2 I2 r1 r2 q2
theorem Am {op:Operator}{r:R2}(ho:OpR X (binaryOp op) r)(ha:PE X a ta)(hb:PE X b tb):PE X (.BinOp a op b pos) (tOp r ta tb):=by
 intro pins s σ H Q I h;exact wpAny_BinOp (binT ha hb I h fun v u s2 x y H2 I2 rx ry q=>ho pins s2 σ H2 x y v u Q I2 rx ry q)
theorem FZ {op:UnaryOp}{r:V->Hp->VK->Prop}(ho:UnR X (unaryOp op) r)(ha:PE X a ta):PE X (.UnaryOp op a pos) (tUn r ta):=by
 intro pins s σ H Q I h;exact UnaryOp_ (thn (ha pins s σ H _ I h) fun v s1 ⟨x,H1,I1,r1,q1⟩=>ho pins s1 σ H1 x v Q I1 r1 q1)
theorem opI {f:Value->Value->Sem Value}{C:Int->Int->Prop}{g:Int->Int->Int}
   (rule:∀(i j:Int) (t u:Tok) (s:Shared) (Q:Value->Shared->Prop) (E:Value->Shared->Prop),C i j->Q (.int (g i j) s.toks) { s with toks:=s.toks+1 }->wpAny (model X.prog X.w) X.A (f (.int i t) (.int j u)) Q E s) :
   OpR X f (rI C fun i j=>.int (g i j)):=by
 intro pins s σ H x y v u Q I rx ry h;obtain⟨i,j,rfl,rfl,hc,q⟩:=h;obtain⟨t,rfl⟩:=rx;obtain⟨t',rfl⟩:=ry;exact rule i j t t' s _ _ hc ⟨.int (g i j),H,I.tok _,⟨_,rfl⟩,q⟩
theorem opI0 {f:Value->Value->Sem Value}{g:Int->Int->Int}
   (rule:∀(i j:Int) (t u:Tok) (s:Shared) (Q:Value->Shared->Prop) (E:Value->Shared->Prop),Q (.int (g i j) s.toks) { s with toks:=s.toks+1 }->wpAny (model X.prog X.w) X.A (f (.int i t) (.int j u)) Q E s) :
   OpR X f (rI0 fun i j=>.int (g i j)):=by
 intro pins s σ H x y v u Q I rx ry h;obtain⟨i,j,rfl,rfl,q⟩:=h;obtain⟨t,rfl⟩:=rx;obtain⟨t',rfl⟩:=ry;exact rule i j t t' s _ _ ⟨.int (g i j),H,I.tok _,⟨_,rfl⟩,q⟩
theorem opB0 {f:Value->Value->Sem Value}{g:Int->Int->Bool}
   (rule:∀(i j:Int) (t u:Tok) (s:Shared) (Q:Value->Shared->Prop) (E:Value->Shared->Prop),Q (.bool (g i j)) s->wpAny (model X.prog X.w) X.A (f (.int i t) (.int j u)) Q E s) :
   OpR X f (rI0 fun i j=>.bl (g i j)):=by
 intro pins s σ H x y v u Q I rx ry h;obtain⟨i,j,rfl,rfl,q⟩:=h;obtain⟨t,rfl⟩:=rx;obtain⟨t',rfl⟩:=ry;exact rule i j t t' s _ _ ⟨.bl (g i j),H,I,rfl,q⟩
def CDiv (i j:Int):Prop:=0<j/\j<1073741824
def CPow (i j:Int):Prop:=0<=j/\j<=1000000/\i.natAbs<2^64
def CMul (i j:Int):Prop:=(-(2^64)<i/\i<2^64)\/(-(2^64)<j/\j<2^64)
theorem CMul.ok {i j:Int}(h:CMul i j):IntMulOk i j:=by
 rcases h with ⟨h1,h2⟩ | ⟨h1,h2⟩
 . exact .of_left (intBits_le_64 h1 h2)
 . exact .of_right (intBits_le_64 h1 h2)
theorem ZJ (k:Nat):(0:Int)<=2^k:=by
 rw[two_pow_cast];exact Int.natCast_nonneg _
theorem AN:OpR X (binaryOp .Add) (rI0 fun i j=>.int (i+j)):=opI0 fun _ _ _ _ _ _ _ q=>add_int q
theorem A9:OpR X (binaryOp .Sub) (rI0 fun i j=>.int (i-j)):=opI0 fun _ _ _ _ _ _ _ q=>sub_int q
theorem Ds:OpR X (binaryOp .Mult) (rI CMul fun i j=>.int (i*j)):=opI fun _ _ _ _ _ _ _ hc q=>mul_int q hc.ok
theorem Nq:OpR X (binaryOp .FloorDiv) (rI CDiv fun i j=>.int (i/j)):=opI fun i j _ _ _ _ _ hc q=>by
 have h1:(0:Int)<j:=hc.1;have h2:j<1073741824:=hc.2;exact floordiv_int (by omega) (by rw[Int.fdiv_eq_ediv_of_nonneg i (by omega)];exact q) (.inl (PyProof.noPylong_small (by omega)))
theorem Bh:OpR X (binaryOp .Mod) (rI (fun _ j=>0<j) fun i j=>.int (i%j)):=opI fun i j _ _ _ _ _ hc q=>by
 have h1:(0:Int)<j:=hc;exact mod_int' (by omega) (by rw[Int.fmod_eq_emod_of_nonneg i (by omega)];exact q)
theorem op_pow:OpR X (binaryOp .Pow) (rI CPow fun i j=>.int (i^j.toNat)):=opI fun _ _ _ _ _ _ _ hc q=>pow_int_small hc.1 hc.2.1 hc.2.2 q
theorem ZK:OpR X (binaryOp .RShift) (rI (fun _ j=>0<=j) fun i j=>.int (i/2^j.toNat)):=opI fun i j _ _ _ _ _ hc q =>
 rshift_int hc (by rw[Int.fdiv_eq_ediv_of_nonneg i (ZJ _)];exact q)
theorem We:OpR X (binaryOp .BitAnd) (rI0 fun i j=>.int (Builtin.bitAnd i j)):=opI0 fun _ _ _ _ _ _ _ q=>and_int q
theorem op_or:OpR X (binaryOp .BitOr) (rI0 fun i j=>.int (Builtin.bitOr i j)):=opI0 fun _ _ _ _ _ _ _ q=>or_int q
theorem Wf:OpR X (binaryOp .BitXor) (rI0 fun i j=>.int (Builtin.bitXor i j)):=opI0 fun _ _ _ _ _ _ _ q=>xor_int q
theorem unI {f:Value->Sem Value}{g:Int->Int}
   (rule:∀(i:Int) (t:Tok) (s:Shared) (Q:Value->Shared->Prop) (E:Value->Shared->Prop),Q (.int (g i) s.toks) { s with toks:=s.toks+1 }->wpAny (model X.prog X.w) X.A (f (.int i t)) Q E s) :
   UnR X f (rU fun i=>.int (g i)):=by
 intro pins s σ H x v Q I rx h;obtain⟨i,rfl,q⟩:=h;obtain⟨t,rfl⟩:=rx;exact rule i t s _ _ ⟨.int (g i),H,I.tok _,⟨_,rfl⟩,q⟩
theorem F0:UnR X (unaryOp .USub) (rU fun i=>.int (-i)):=unI fun _ _ _ _ _ q=>neg_int q
end
def scal:V->V->Bool
 | .non,.non=>true | .non,.int _=>true | .int _,.non=>true | .non,.bl _=>true | .bl _,.non=>true | .non,.str _=>true | .str _,.non=>true
 | .int _,.int _=>true | .bl _,.bl _=>true | .str _,.str _=>true | .byt _,.byt _=>true
 | .int _,.str _=>true | .str _,.int _=>true | .bl _,.str _=>true | .str _,.bl _=>true
 | _,_=>false
def rEq:R2:=fun x y H Q=>scal x y=true/\Q (.bl (decide (x=y))) H
def rNe:R2:=fun x y H Q=>scal x y=true/\Q (.bl (!decide (x=y))) H
theorem Nr {i j:Int}:decide (V.int i=V.int j)=(i==j):=by
 rw[Bool.eq_iff_iff];simp
theorem Wg {i j:Bool}:decide (V.bl i=V.bl j)=(i==j):=by
 rw[Bool.eq_iff_iff];simp
theorem P0 {i j:Str}:decide (V.str i=V.str j)=(i==j):=by
 rw[Bool.eq_iff_iff];simp
theorem Wh {i j:Array UInt8}:decide (V.byt i=V.byt j)=(i.toList==j.toList):=by
 rw[Bool.eq_iff_iff];cases i;cases j;simp
section
variable {X:Cx}{a b c:Expr}{ta tb tc:TE}{pos:Pos}
theorem A1 {pins:List (Addr×Obj)}{σ:St}{H:Hp}{s:Shared}{Q:VK}{k k':Bool}(I:Inv X pins σ H s)(q:Q (.bl k) H)(e:k=k'):EP X pins σ Q (.bool k') s:=by
 subst e;exact⟨.bl k,H,I,rfl,q⟩
theorem BA:OpR X (compareOp .Eq) rEq:=by
 intro pins s σ H x y v u Q I rx ry h;obtain⟨hs,q⟩:=h;cases x with
 | non =>
   cases rx;cases y with
   | non=>cases ry;exact PySem.EqNone.eq_none_none (A1 I q (by simp))
   | bl j=>cases ry;exact PySem.EqNone.eq_none_bool (A1 I q (by simp))
   | int j=>obtain⟨t',rfl⟩:=ry;exact PySem.EqNone.eq_none_int (A1 I q (by simp))
   | str j=>obtain⟨t',rfl⟩:=ry;exact PySem.EqNone.eq_none_str (A1 I q (by simp))
   | _=>exact absurd (show false=true from hs) Bool.false_ne_true
 | bl i =>
   cases rx;cases y with
   | non=>cases ry;exact PySem.EqNone.eq_bool_none (A1 I q (by simp))
   | bl j=>cases ry;exact eq_bool (A1 I q Wg)
   | str j=>obtain⟨t',rfl⟩:=ry;exact PySem.EqMixed.eq_bool_str (A1 I q (by simp))
   | _=>exact absurd (show false=true from hs) Bool.false_ne_true
 | int i =>
   obtain⟨t,rfl⟩:=rx;cases y with
   | non=>cases ry;exact PySem.EqNone.eq_int_none (A1 I q (by simp))
   | int j=>obtain⟨t',rfl⟩:=ry;exact eq_int (A1 I q Nr)
   | str j=>obtain⟨t',rfl⟩:=ry;exact PySem.EqMixed.eq_int_str (A1 I q (by simp))
   | _=>exact absurd (show false=true from hs) Bool.false_ne_true
 | str i =>
   obtain⟨t,rfl⟩:=rx;cases y with
   | non=>cases ry;exact PySem.EqNone.eq_str_none (A1 I q (by simp))
   | bl j=>cases ry;exact PySem.EqMixed.eq_str_bool (A1 I q (by simp))
   | int j=>obtain⟨t',rfl⟩:=ry;exact PySem.EqMixed.eq_str_int (A1 I q (by simp))
   | str j=>obtain⟨t',rfl⟩:=ry;exact eq_str (A1 I q P0)
   | _=>exact absurd (show false=true from hs) Bool.false_ne_true
 | byt i =>
   obtain⟨t,rfl⟩:=rx;cases y with
   | byt j=>obtain⟨t',rfl⟩:=ry;exact PySem.W.eq_bytes (A1 I q Wh)
   | _=>exact absurd (show false=true from hs) Bool.false_ne_true
 | _=>cases y <;> exact absurd (show false=true from hs) Bool.false_ne_true
theorem D7:OpR X (compareOp .NotEq) rNe:=by
 intro pins s σ H x y v u Q I rx ry h;obtain⟨hs,q⟩:=h;cases x with
 | non =>
   cases rx;cases y with
   | non=>cases ry;exact PySem.EqNone.ne_none_none (A1 I q (by simp))
   | bl j=>cases ry;exact PySem.EqNone.ne_none_bool (A1 I q (by simp))
   | int j=>obtain⟨t',rfl⟩:=ry;exact PySem.EqNone.ne_none_int (A1 I q (by simp))
   | str j=>obtain⟨t',rfl⟩:=ry;exact PySem.EqNone.ne_none_str (A1 I q (by simp))
   | _=>exact absurd (show false=true from hs) Bool.false_ne_true
 | bl i =>
   cases rx;cases y with
   | non=>cases ry;exact PySem.EqNone.ne_bool_none (A1 I q (by simp))
   | bl j=>cases ry;exact ne_bool (A1 I q (congrArg not Wg))
   | str j=>obtain⟨t',rfl⟩:=ry;exact PySem.EqMixed.ne_bool_str (A1 I q (by simp))
   | _=>exact absurd (show false=true from hs) Bool.false_ne_true
 | int i =>
   obtain⟨t,rfl⟩:=rx;cases y with
   | non=>cases ry;exact PySem.EqNone.ne_int_none (A1 I q (by simp))
   | int j=>obtain⟨t',rfl⟩:=ry;exact ne_int (A1 I q (congrArg not Nr))
   | str j=>obtain⟨t',rfl⟩:=ry;exact PySem.EqMixed.ne_int_str (A1 I q (by simp))
   | _=>exact absurd (show false=true from hs) Bool.false_ne_true
 | str i =>
   obtain⟨t,rfl⟩:=rx;cases y with
   | non=>cases ry;exact PySem.EqNone.ne_str_none (A1 I q (by simp))
   | bl j=>cases ry;exact PySem.EqMixed.ne_str_bool (A1 I q (by simp))
   | int j=>obtain⟨t',rfl⟩:=ry;exact PySem.EqMixed.ne_str_int (A1 I q (by simp))
   | str j=>obtain⟨t',rfl⟩:=ry;exact ne_str (A1 I q (congrArg not P0))
   | _=>exact absurd (show false=true from hs) Bool.false_ne_true
 | byt i =>
   obtain⟨t,rfl⟩:=rx;cases y with
   | byt j=>obtain⟨t',rfl⟩:=ry;exact PySem.W.ne_bytes (A1 I q (congrArg not Wh))
   | _=>exact absurd (show false=true from hs) Bool.false_ne_true
 | _=>cases y <;> exact absurd (show false=true from hs) Bool.false_ne_true
theorem Dm:OpR X (compareOp .Lt) (rI0 fun i j=>.bl (decide (i<j))):=opB0 fun _ _ _ _ _ _ _ q=>lt_int q
theorem op_le:OpR X (compareOp .LtE) (rI0 fun i j=>.bl (decide (i<=j))):=opB0 fun _ _ _ _ _ _ _ q=>le_int q
theorem D8:OpR X (compareOp .Gt) (rI0 fun i j=>.bl (decide (j<i))):=opB0 fun _ _ _ _ _ _ _ q=>gt_int q
theorem Je:OpR X (compareOp .GtE) (rI0 fun i j=>.bl (decide (j<=i))):=opB0 fun _ _ _ _ _ _ _ q=>ge_int q
theorem Nt:OpR X (compareOp .Is) (fun x y H Q=>y = .non/\Q (.bl (decide (x = .non))) H):=by
 intro pins s σ H x y v u Q I rx ry h;obtain⟨rfl,q⟩:=h;cases ry;refine is_none_gen (A1 I q ?_);cases x <;> first
   | (cases rx;rfl)
   | (obtain⟨t,rfl⟩:=rx;rfl)
theorem HR:OpR X (compareOp .IsNot) (fun x y H Q=>y = .non/\Q (.bl (!decide (x = .non))) H):=by
 intro pins s σ H x y v u Q I rx ry h;obtain⟨rfl,q⟩:=h;cases ry;refine isnot_none_gen (A1 I q ?_);cases x <;> first
   | (cases rx;rfl)
   | (obtain⟨t,rfl⟩:=rx;rfl)
theorem Aw (b:Expr){op:CmpOp}(h:op≠.In:=by decide)(h2:op≠.NotIn:=by decide):behindInMarks op b=false:=by
 have e1:(op==CmpOp.In)=false:=by cases op <;> first | rfl | exact absurd rfl h
 have e2:(op==CmpOp.NotIn)=false:=by cases op <;> first | rfl | exact absurd rfl h2
 cases b <;> simp [behindInMarks,e1,e2]
theorem D9 {op:CmpOp}{r:R2}(ho:OpR X (compareOp op) r)(ha:PE X a ta)(hb:PE X b tb)(hm:behindInMarks op b=false):PE X (.Compare a [op] [b] pos) (tOp r ta tb):=by
 intro pins s σ H Q I h;exact wpAny_Compare1 (binT ha hb I h fun v u s2 x y H2 I2 rx ry q=>ho pins s2 σ H2 x y v u Q I2 rx ry q) hm
def tTest (t:TE):TT:=fun σ H Q=>t σ H fun x H'=>∃k,x = .bl k/\Q k H'
theorem AB {op:CmpOp}{r:R2}(ho:OpR X (compareOp op) r)(ha:PE X a ta)(hb:PE X b tb)(hm:behindInMarks op b=false):PT X (.Compare a [op] [b] pos) (tTest (tOp r ta tb)):=by
 intro pins s σ H Q I h;refine wpAny_isTrue_Compare1 (thn (ha pins s σ H _ I h) fun v s1 ⟨x,H1,I1,r1,q1⟩=>thn (hb pins s1 σ H1 _ I1 q1) fun u s2 ⟨y,H2,I2,r2,q2⟩ =>
   thn (ho pins s2 σ H2 x y v u _ I2 r1 r2 q2) fun c s3 ⟨z,H3,I3,r3,k,e,q3⟩=>?_) hm
 subst e;cases r3;exact wpAny_truthy_bool ⟨H3,I3,q3⟩
def TruV (K:PySem.W.Frag)(x:V)(H:Hp)(k:Bool):Prop :=
 match x with
 | .non=>k=false
 | .bl b=>k=b
 | .int i=>k=(i != 0)
 | .str y=>y.length<=sizeLine/\k=((y.length:Int) != 0)
 | .byt y=>y.size<=sizeLine/\k=((y.size:Int) != 0)
 | .ref p=>(∃xs,SqL K H p xs/\k = !xs.isEmpty)\/(∃xs,SqT K H p xs/\k = !xs.isEmpty)\/∃kvs,H p=some (.dK kvs)/\k = !kvs.isEmpty
 | _=>False
theorem ZL {κ:Type}{kvs:List (κ×V)}{vs:List (κ×Value)}(r:KV kvs vs):(!vs.isEmpty) = !kvs.isEmpty:=by
 cases r <;> rfl
theorem Wi {xs:List V}{its:List Value}(r:Vals xs its):(!its.toArray.isEmpty) = !xs.isEmpty:=by
 cases r <;> simp
theorem Jf:(sizeLine:Nat)<2^63:=by rw[sizeLine_eq];decide
theorem ZM:TruR X (fun x H Q=>∃k,TruV X.K x H k/\Q k H):=by
 intro pins s σ H x v Q I rx h;obtain⟨k,e,q⟩:=h;have hl:=Jf;have hs:sizeLine=16777216:=sizeLine_eq;cases x with
 | non =>
   cases rx;have e':k=false:=e;subst e';exact truthy_none ⟨H,I,q⟩
 | bl b =>
   cases rx;have e':k=b:=e;subst e';exact wpAny_truthy_bool ⟨H,I,q⟩
 | int i =>
   obtain⟨t,rfl⟩:=rx;have e':k=(i != 0):=e;subst e';exact PySem.P.truthy_int ⟨H,I,q⟩
 | str y =>
   obtain⟨t,rfl⟩:=rx;obtain⟨hy,e'⟩:y.length<=sizeLine/\k=((y.length:Int) != 0):=e;subst e';exact PySem.P.truthy_str (by omega) ⟨H,I.tok _,q⟩
 | byt y =>
   obtain⟨t,rfl⟩:=rx;obtain⟨hy,e'⟩:y.size<=sizeLine/\k=((y.size:Int) != 0):=e;subst e';exact PySem.W.truthy_bytes (by omega) ⟨H,I.tok _,q⟩
 | ref p =>
   cases rx;have e':(∃xs,SqL X.K H p xs/\k = !xs.isEmpty)\/(∃xs,SqT X.K H p xs/\k = !xs.isEmpty)\/∃kvs,H p=some (.dK kvs)/\k = !kvs.isEmpty:=e;rcases e' with ⟨xs,hx,e'⟩ | ⟨xs,hx,e'⟩ | ⟨kvs,hx,e'⟩
   . subst e';obtain⟨its,r,pl,hz⟩:=I.list hx;have hlen:=r.length;exact wpAny_truthy_list pl.isList (by simp only [List.size_toArray];omega) ⟨H,I.tok _,by rw[Wi r];exact q⟩
   . subst e';obtain⟨its,r,pl,hz⟩:=I.tuple hx;have hlen:=r.length;exact truthy_tuple pl (by simp only [List.size_toArray];omega) ⟨H,I.tok _,by rw[Wi r];exact q⟩
   . subst e';obtain⟨hz,hS,vs,r,m⟩:kvs.length<=sizeLine/\(p==sysModules)=false/\∃vs,KV kvs vs/\s.heap.DictOf (PQ X.prog X.w) p vs:=I.hok p _ hx;have hlen:kvs.length=vs.length:=Paired.length r;exact wpAny_truthy_dict hS m (by omega) ⟨H,I.tok _,by rw[ZL r];exact q⟩
 | _=>exact(show False from e).elim
theorem Cd (ha:PE X a ta)(he:∀whole,isTrue a X.env whole=(do let v <-whole;standAt a.pos;holding [v] (truthy v))) :
   PT X a (fun σ H Q=>ta σ H fun x H'=>∃k,TruV X.K x H' k/\Q k H'):=by
 intro pins s σ H Q I h;exact isTrue_plain (thn (ha pins s σ H _ I h) fun v s1 ⟨x,H1,I1,r1,q1⟩=>ZM pins s1 σ H1 x v Q I1 r1 q1) (he _)
theorem P1 {x:V}{us:List Value}(r:Vals [x] us):∃u,us=[u]/\RelV x u:=by
 cases r with
 | cons r1 r2=>cases r2;exact⟨_,rfl,r1⟩
theorem vals2 {x y:V}{us:List Value}(r:Vals [x,y] us):∃u w',us=[u,w']/\RelV x u/\RelV y w':=by
 cases r with
 | cons r1 r2 =>
   cases r2 with
   | cons r3 r4=>cases r4;exact⟨_,_,rfl,r1,r3⟩
theorem Wj (hc:X.calm=true):DT X (.builtin "min") (fun xs H Q=>∃i j,xs=[.int i,.int j]/\Q (.int (if j<i then j else i)) H):=by
 intro pins s σ H xs us Q I r h;obtain⟨i,j,rfl,q⟩:=h;obtain⟨u,w',rfl,⟨t,rfl⟩,⟨t',rfl⟩⟩:=vals2 r;refine min_two_ints (I.ok.hd hc) fun h' tk k=>⟨_,H,I.kept k,?_,q⟩
 by_cases hj:j<i
 . rw[if_pos hj,if_pos hj];exact⟨_,rfl⟩
 . rw[if_neg hj,if_neg hj];exact⟨_,rfl⟩
end
end L2
namespace L2
open PySem PySem.Spec PyProof.Rows
structure ObjM (h:Heap)(x dx C:Addr)(mA:Str->Option Value):Prop where
 obj:h.get? x=some (instObj C dx)
 ns:h.Ns1 dx mA
 ne:dx≠x
theorem Wk {h:Heap}{dx:Addr}{mA:Str->Option Value}(n:h.Ns1 dx mA):∃od,h.get? dx=some od/\∀name,lookIn name od=some (mA name):=by
 obtain⟨o,es,ep,ho,hd,hk,_,hm⟩:=n;refine⟨o,ho,fun name=>?_⟩;have e:=hm name;unfold nsFind findBy at e;rw[<-Array.find?_toList] at e;unfold lookIn;rw[hd];dsimp only
 split
 . rename_i y q;rw[q] at e;exact congrArg some e
 . rename_i q;rw[q] at e;have a:es.toList.any (·.refKey)=false:=by
     rw[List.any_eq_false];intro y hy;obtain⟨z,t,hkey⟩:=hk y (Array.mem_toList_iff.mp hy);simp [DictEntry.refKey,hkey]
   have a':¬es.toList.any (·.refKey)=true:=by rw[a];exact Bool.false_ne_true
   rw[if_neg a'];exact congrArg some e
theorem ObjM.look {h:Heap}{x dx C:Addr}{mA:Str->Option Value}(I:ObjM h x dx C mA):∃od,PySem.W.InstAt h x (instObj C dx) C (some od)/\∀name,lookIn name od=some (mA name) :=
 let ⟨od,ho,hl⟩:=Wk I.ns
 ⟨od,⟨I.obj,rfl,rfl,ho⟩,hl⟩
section
variable {prog:Program}{w:World}{A:Around}{E:Value->Shared->Prop}{s:Shared}{K:PySem.W.Frag}{x dx C f:Addr}{mA:Str->Option Value}{name:Str}{v:Value}
theorem ZN {expr:Bool}{Q:Value->Shared->Prop}(X:K.In s.heap)(I:ObjM s.heap x dx C mA)(hg:plainGet K C name=true)(hh:hasDictIn K C=true)
   (ha:PySem.W.findIn K (.ref C) name=some none) (hv:mA name=some v) (hv':handedIn v=true) (h:Q v { s with toks:=s.toks+1 }) :
   wpAny (model prog w) A (getAttr (.ref x) name expr) Q E s:=by
 obtain⟨od,J,hl⟩:=I.look;exact PySem.W.get_value X J (plainGet_of hg).1 (findObj_own hh ha rfl (by rw[hl,hv])) hv' h
theorem ZO {pl:Sem Bool}{Q:Value×List Value->Shared->Prop}(X:K.In s.heap)(I:ObjM s.heap x dx C mA)(hg:plainGet K C name=true)
   (hf:PySem.W.findIn K (.ref C) name=some (some (.ref f))) (ht:isFn K (.ref f)=true) (hv:mA name=none) (h:Q (.ref f,[.ref x]) s) :
   wpAny (model prog w) A (getMethod (.ref x) name pl) Q E s:=by
 obtain⟨od,J,hl⟩:=I.look;exact PySem.W.method_fn X J (plainGet_of hg).1 (plainGet_of hg).2 hf (beq_iff_eq.mp ht) (by show (lookIn name od).map (·.isSome)=some false;rw[hl,hv];rfl) h
theorem ZP {ns:List Str}{Q:Unit->Shared->Prop}(X:K.In s.heap)(I:ObjM s.heap x dx C mA)
   (hs:PySem.W.findIn K (.ref C) "__setattr__"=some (some (.builtin "object.__setattr__"))) (hp:plainOver K C=true) (ht:takerIn K C name=some none) (hh:hasDictIn K C=true)
   (hw:PySem.Within mA ns) (hsz:ns.length<=sizeLine)
   (h:∀h',ObjM h' x dx C (fun y=>if y=name then some v else mA y)->Heap.SameBut dx s.heap h'->Q () { s with heap:=h',toks:=s.toks+2 }) :
   wpAny (model prog w) A (setAttr (.ref x) name v) Q E s:=by
 obtain⟨od,J,hl⟩:=I.look;refine PySem.W.set_plain X J hs (PySem.W.osa_open (s:={ s with toks:=s.toks+1 }) (r:=none) X J hp ht fun b=>?_);obtain⟨cd,hc,hd'⟩:=PySem.W.any_some hh;have hx:s.heap.get? x=some ⟨.ref C,some dx,.plain,#[]⟩:=I.obj;refine wpAny_bind (wpAny_pure (wpAny_bind (wpAny_bind (wpAny_loadPart hx (wpAny_bind (PySem.W.Looks.here (s:={ s with toks:=s.toks+1 }) (PySem.W.looks_clsIn X hc) ?_))))));rw[hd'];refine wpAny_pure (a:=some dx) (wpAny_bind (wpAny_pure (wpAny_bind ?_)));refine wpAny_nsSet1 (s:={ s with toks:=s.toks+1 }) I.ns fun h' hn2 hs2=>?_;obtain⟨oD,esD,epD,hoD,hdD,hcD⟩:=hn2.count (PySem.Within.cons name v hw);refine wpAny_bind (wpAny_lookBehind hoD (by rw[hdD];exact pastItsLine_dict (Nat.le_trans hcD (by rw[List.length_cons];omega))) ?_);exact wpAny_pure (h _ ⟨(hs2.2 _ (Ne.symm I.ne)).trans I.obj,hn2,I.ne⟩ hs2)
theorem ZQ {R:Result->Shared->Prop}{vs:List Value}{kw:List (Str×Value)}(X:K.In s.heap)(hm:makesIn K C=true)
   (hi:PySem.W.findIn K (.ref C) "__init__"=some (some (.ref f))) (hf:PySem.W.typeIn K (.ref f)=some (.type "function"))
   (h:codeAny (model prog w) (A.under (.builtin "type.__call__" ⟨.ref C::vs,kw⟩)) (.call (.ref f) ⟨.ref (s.heap.objs.size+1)::vs,kw⟩) (PySem.W.InitBack (s.heap.objs.size+1) R)
     { s with heap:=(s.heap.push emptyDict).push (instObj C s.heap.objs.size) }) :
   codeAny (model prog w) A (.call (.ref C) ⟨vs,kw⟩) R s:=by
 obtain⟨hh,g,d,t,os⟩:=s;exact PySem.W.make_core (PySem.W.makes_of X hm) (PySem.W.looks_findIn X hi) (fun self=>PySem.W.bind_fn X self hf) (.inl rfl) h
end
def putF (f:Str)(v:V):List (Str×V)->List (Str×V)
 | []=>[(f,v)]
 | (g,x)::r=>if g=f then (g,v)::r else (g,x)::putF f v r
theorem Wl (f g:Str)(v:V):∀fs:List (Str×V),(putF f v fs).lookup g=if g=f then some v else fs.lookup g
 | []=>by
   show List.lookup g [(f,v)]=_
   by_cases h:g=f
   . have hb:(g==f)=true:=beq_iff_eq.mpr h
     simp only [List.lookup,hb,if_pos h]
   . have hb:(g==f)=false:=beq_eq_false_iff_ne.mpr h
     simp only [List.lookup,hb,if_neg h]
 | (k,x)::r=>by
   have ih:=Wl f g v r
   rw[show putF f v ((k,x)::r)=(if k=f then (k,v)::r else (k,x)::putF f v r) from rfl]
   by_cases hk:k=f
   . rw[if_pos hk]
     by_cases h:g=k
     . have hb:(g==k)=true:=beq_iff_eq.mpr h
       simp only [List.lookup,hb,if_pos (h.trans hk)]
     . have hb:(g==k)=false:=beq_eq_false_iff_ne.mpr h
       simp only [List.lookup,hb,if_neg (fun e:g=f=>h (e.trans hk.symm))]
   . rw[if_neg hk]
     by_cases h:g=k
     . have hb:(g==k)=true:=beq_iff_eq.mpr h
       simp only [List.lookup,hb,if_neg (fun e:g=f=>hk (h.symm.trans e))]
     . have hb:(g==k)=false:=beq_eq_false_iff_ne.mpr h
       simp only [List.lookup,hb]
       exact ih
theorem P2 (f:Str)(v:V):∀fs:List (Str×V),f∈(putF f v fs).map (·.1)/\∀g,g∈fs.map (·.1)->g∈(putF f v fs).map (·.1)
 | []=>⟨by simp [putF],fun g h=>by simp at h⟩
 | (k,x)::r=>by
   obtain⟨i1,i2⟩:=P2 f v r
   rw[show putF f v ((k,x)::r)=(if k=f then (k,v)::r else (k,x)::putF f v r) from rfl]
   by_cases hk:k=f
   . rw[if_pos hk]
     subst hk
     exact⟨by simp,fun g h=>by simpa using h⟩
   . rw[if_neg hk]
     refine⟨?_,fun g h=>?_⟩
     . rw[List.map_cons]
       exact List.mem_cons_of_mem _ i1
     . rw[List.map_cons] at h ⊢
       rcases List.mem_cons.mp h with e | e
       . exact List.mem_cons.mpr (.inl e)
       . exact List.mem_cons_of_mem _ (i2 g e)
theorem Wm (f:Str)(v:V):∀fs:List (Str×V),(putF f v fs).length<=fs.length+1
 | []=>by simp [putF]
 | (k,x)::r=>by
   have ih:=Wm f v r
   rw[show putF f v ((k,x)::r)=(if k=f then (k,v)::r else (k,x)::putF f v r) from rfl]
   by_cases hk:k=f
   . rw[if_pos hk,List.length_cons,List.length_cons];omega
   . rw[if_neg hk,List.length_cons,List.length_cons];omega
theorem RelO.some_of {v:V}{o:Option Value}(r:RelO (some v) o):∃u,o=some u/\RelV v u:=by
 cases o with
 | none=>exact(show False from r).elim
 | some u=>exact⟨u,rfl,r⟩
theorem RelO.none_of {o:Option Value}(r:RelO none o):o=none:=by
 cases o with
 | none=>rfl
 | some u=>exact(show False from r).elim
theorem Wn {v:V}{u:Value}(r:RelV v u):handedIn u=true:=by
 cases v with
 | non=>cases (show u=Value.none from r);rfl
 | bl b=>cases (show u=Value.bool b from r);rfl
 | int i=>obtain⟨t,e⟩:=(show ∃t,u=Value.int i t from r);cases e;rfl
 | str x=>obtain⟨t,e⟩:=(show ∃t,u=Value.str x t from r);cases e;rfl
 | byt b=>obtain⟨t,e⟩:=(show ∃t,u=Value.bytes b t from r);cases e;rfl
 | flt b=>obtain⟨t,e⟩:=(show ∃t,u=Value.float b t from r);cases e;rfl
 | ref a=>cases (show u=Value.ref a from r);rfl
 | ty n=>cases (show u=Value.type n from r);rfl
section
variable {P:Program}{w:World}{H H':Hp}{h h':Heap}{a C dx:Addr}{fs fs':List (Str×V)}
theorem Nu (hok:HOk P w H h)(e:H a=some (.ins C dx fs)):∃mA,ObjM h a dx C mA/\(∀f,RelO (fs.lookup f) (mA f))/\PySem.Within mA (fs.map (·.1))/\fs.length<=1000/\H dx=some (.own a):=by
 obtain⟨d,z,ne,ob,mA,n,r,q⟩:=(show BW P w H h a (.ins C dx fs) from hok a _ e)
 exact⟨mA,⟨ob,n,ne⟩,r,q,z,d⟩
end
structure Cls (K:PySem.W.Frag)(C:Addr):Prop where
 pg:plainGet K C Str.empty=true
 hd:hasDictIn K C=true
 po:plainOver K C=true
 sa:PySem.W.findIn K (.ref C) "__setattr__"=some (some (.builtin "object.__setattr__"))
theorem Cls.get {K:PySem.W.Frag}{C:Addr}(c:Cls K C)(f:Str):plainGet K C f=true:=c.pg
def BF (K:PySem.W.Frag)(C:Addr)(f:Str):Prop:=PySem.W.findIn K (.ref C) f=some none
theorem BF.taker {K:PySem.W.Frag}{C:Addr}{f:Str}(n:BF K C f):takerIn K C f=some none:=by
 unfold takerIn;rw[show PySem.W.findIn K (.ref C) f=some none from n];rfl
structure Con (K:PySem.W.Frag)(C:Addr)(f:Str)(v:V)(u:Value):Prop where
 at_:PySem.W.findIn K (.ref C) f=some (some u)
 rel:RelV v u
 get:specialIn K u "__get__"=some none
 cp:PySem.W.copiedNames.contains f=false
structure Meth (K:PySem.W.Frag)(C:Addr)(m:Str)(f:Addr):Prop where
 at_:PySem.W.findIn K (.ref C) m=some (some (.ref f))
 fn:isFn K (.ref f)=true
 kp:keepIn K (.ref f)=true
section
variable {X:Cx}{pins:List (Addr×Obj)}{σ:St}{H:Hp}{s:Shared}{a C dx:Addr}{fs:List (Str×V)}{f:Str}{v:V}{A:Around}{E:Value->Shared->Prop}
theorem ZR {b:Bool}{Q:Value->Shared->Prop}(I:Inv X pins σ H s)(e:H a=some (.ins C dx fs))(c:Cls X.K C)(n:BF X.K C f)(l:fs.lookup f=some v)
   (h:∀u s',Inv X pins σ H s'->RelV v u->Q u s'):wpAny (model X.prog X.w) A (getAttr (.ref a) f b) Q E s:=by
 obtain⟨mA,O,r,_,_,_⟩:=Nu I.hok e;obtain⟨u,hu,ru⟩:=RelO.some_of (v:=v) (o:=mA f) (by rw[<-l];exact r f);exact ZN I.kIn O (c.get f) c.hd n hu (Wn ru) (h u _ (I.tok _) ru)
theorem Jg {m:Str}{g:Addr}{pl:Sem Bool}{Q:Value×List Value->Shared->Prop}(I:Inv X pins σ H s)(e:H a=some (.ins C dx fs))(c:Cls X.K C)(k:Meth X.K C m g)(l:fs.lookup m=none)
   (h:Q (.ref g,[.ref a]) s):wpAny (model X.prog X.w) A (getMethod (.ref a) m pl) Q E s:=by
 obtain⟨mA,O,r,_,_,_⟩:=Nu I.hok e;have hn:mA m=none:=RelO.none_of (by rw[<-l];exact r m);exact ZO I.kIn O (c.get m) k.at_ k.fn hn h
theorem ZT {y:V}{u:Value}{Q:Unit->Shared->Prop}(I:Inv X pins σ H s)(e:H a=some (.ins C dx fs))(c:Cls X.K C)(n:BF X.K C f)(hl:fs.length<1000)(ry:RelV y u)
   (h:∀s',Inv X pins σ (upd H a (.ins C dx (putF f y fs))) s'->Q () s'):wpAny (model X.prog X.w) A (setAttr (.ref a) f u) Q E s:=by
 obtain⟨mA,O,r,wi,_,ho⟩:=Nu I.hok e;have hz:(fs.map (·.1)).length<=sizeLine:=by rw[List.length_map,sizeLine_eq];omega
 refine ZP I.kIn O c.sa c.po n.taker c.hd wi hz fun h' O' sb=>h _ ?_;have hd:∃o,h'.get? dx=some o:=let ⟨o,_,_,e',_⟩:=O'.ns;⟨o,e'⟩;refine I.write (x:=a) (e:=dx) (by rw[e];exact True.intro) (.inr ho) (fun b q hb z=>(sb.2 b hb).trans z) hd ?_;refine⟨by rw[AE O.ne];exact ho,?_,O.ne,O'.obj,_,O'.ns,fun g=>?_,fun g hg=>?_⟩
 . have:=Wm f y fs;omega
 . show RelO ((putF f y fs).lookup g) (if g=f then some u else mA g);rw[Wl];by_cases q:g=f
   . rw[if_pos q,if_pos q];exact ry
   . rw[if_neg q,if_neg q];exact r g
 . by_cases q:g=f
   . rw[q];exact(P2 f y fs).1
   . refine(P2 f y fs).2 g (wi g fun z=>hg ?_);show (if g=f then some u else mA g)=none;rw[if_neg q];exact z
theorem Inv.made (I:Inv X pins σ H s):Inv X pins σ (upd (upd H s.heap.objs.size (.own (s.heap.objs.size+1))) (s.heap.objs.size+1) (.ins C s.heap.objs.size []))
   { s with heap:=(s.heap.push emptyDict).push (instObj C s.heap.objs.size) }:=by
 have e1:(s.heap.push emptyDict).get? s.heap.objs.size=some emptyDict:=Heap.get?_push_size s.heap rfl;have e2:((s.heap.push emptyDict).push (instObj C s.heap.objs.size)).get? (s.heap.objs.size+1)=some (instObj C s.heap.objs.size):=by
   have:=Heap.get?_push_size (s.heap.push emptyDict) (o:=instObj C s.heap.objs.size) rfl
   rwa [Heap.size_push] at this
 have e3:(s.heap.push emptyDict).Ns s.heap.objs.size (fun _=>none):=⟨emptyDict,#[],_,e1,rfl,(fun e he=>absurd he (by simp)),fun _=>rfl⟩
 have I1:=I.laid (a:=s.heap.objs.size) (o:=.own (s.heap.objs.size+1)) (h':=s.heap.push emptyDict) (t':=s.toks) (fun b u q=>Heap.get?_push_of_some _ q) (Nat.le_refl _) ⟨_,e1⟩;refine I1.laid (a:=s.heap.objs.size+1) (o:=.ins C s.heap.objs.size []) (t':=s.toks) (fun b u q=>Heap.get?_push_of_some _ q) (Nat.le_of_eq (Heap.size_push _ _)) ?_;have ne:s.heap.objs.size≠s.heap.objs.size+1:=Nat.ne_of_lt (Nat.lt_succ_self _);refine⟨by rw[AE ne,upd_same],Nat.zero_le _,ne,e2,fun _=>none,(Heap.Ns1.of_empty e3).at fun o q=>Heap.get?_push_of_some _ q,fun _=>True.intro,fun y hy=>absurd rfl hy⟩
theorem Wo {prog:Program}{w:World}{env:Env}{e:Expr}{f:Str}{pos:Pos}{s:Shared}{Q:Value->Shared->Prop}(hb:attributeBase e f env (eval e env)=eval e env)
   (h:wpAny (model prog w) A (eval e env) (fun o s₁=>wpAny (model prog w) A (getAttr o f true) Q E s₁) E s):wpAny (model prog w) A (eval (.Attribute e f pos) env) Q E s :=
 Attribute_any_ h (by rw[arm_eval_Attribute,hb])
end
def tFld (K:PySem.W.Frag)(ta:TE)(f:Str):TE:=fun σ H Q=>ta σ H fun x H1=>∃a C dx fs v,x = .ref a/\H1 a=some (.ins C dx fs)/\Cls K C/\BF K C f/\fs.lookup f=some v/\Q v H1
def sFld (K:PySem.W.Frag)(ta tv:TE)(f:Str):TS:=fun D σ H=>tv σ H fun y H1=>ta σ H1 fun x H2=>∃a C dx fs,x = .ref a/\H2 a=some (.ins C dx fs)/\Cls K C/\BF K C f/\fs.length<1000 /\
 D.nx σ (upd H2 a (.ins C dx (putF f y fs)))
section
variable {X:Cx}{o e value:Expr}{f:Str}{pos pos' tpos:Pos}{ta tv:TE}
theorem Ce (he:PE X e ta)(hb:attributeBase e f X.env (eval e X.env)=eval e X.env):PE X (.Attribute e f pos) (tFld X.K ta f):=by
 intro pins s σ H Q I h;refine Wo hb (thn (he pins s σ H _ I h) fun u s1 ⟨x,H1,I1,rx,a,C,dx,fs,v,ex,ea,c,n,l,q⟩=>?_);subst ex;obtain rfl:u=Value.ref a:=rx;exact ZR I1 ea c n l fun u' s2 I2 ru=>⟨v,H1,I2,ru,q⟩
theorem Cs (ha:PE X o ta)(hv:PE X value tv)(hs:swapsWith value (some (.Attribute o f pos')) pos.line X.env=pure false):PS X (.Assign [.Attribute o f pos'] value pos) (sFld X.K ta tv f):=by
 intro pins s σ H D I h;refine plainObj_wpAny_Assign_Attribute (thn (hv pins s σ H _ I h) fun u s1 ⟨y,H1,I1,ry,q⟩=>thn (ha pins s1 σ H1 _ I1 q) fun ov s2 ⟨x,H2,I2,rx,a,C,dx,fs,ex,ea,c,n,l,q2⟩=>?_) hs;subst ex;obtain rfl:ov=Value.ref a:=rx;exact ZT I2 ea c n l ry fun s3 I3=>⟨σ,_,I3,q2⟩
end
section
variable {X:Cx}{pins:List (Addr×Obj)}{σ:St}{H:Hp}{s:Shared}{A:Around}{E:Value->Shared->Prop}{Q:Value->Shared->Prop}{c:Value}{b:Bool}
inductive TyOf (K:PySem.W.Frag)(H:Hp):V->Value->Prop where
 | non:TyOf K H .non (.type "NoneType")
 | bl (x:Bool):TyOf K H (.bl x) (.type "bool")
 | int (i:Int):TyOf K H (.int i) (.type "int")
 | str (x:Str):TyOf K H (.str x) (.type "str")
 | flt (x:UInt64):TyOf K H (.flt x) (.type "float")
 | lst {a:Addr} {xs:List V} (e:H a=some (.lst xs)):TyOf K H (.ref a) (.type "list")
 | frz {a:Addr} {o:Obj} {xs:List V} (e:H a=some (.frz o (.lst xs))):TyOf K H (.ref a) (.type "list")
 | tup {a:Addr} {xs:List V} (e:H a=some (.tup xs)):TyOf K H (.ref a) (.type "tuple")
 | dK {a:Addr} {kvs:List (Key×V)} (e:H a=some (.dK kvs)):TyOf K H (.ref a) (.type "dict")
 | dT {a:Addr} {kvs:List (List Key×V)} (e:H a=some (.dT kvs)):TyOf K H (.ref a) (.type "dict")
 | ins {a C dx:Addr} {fs:List (Str×V)} (e:H a=some (.ins C dx fs)) (cl:Cls K C) (ha:PySem.W.findIn K (.ref C) "__class__"=some (some (.builtin "object.__class__")))
     (hn:specialIn K (.builtin "object.__class__") "__get__"=some (some (.builtin "getset_descriptor.__get__"))) (htk:takesIn K (.builtin "object.__class__")=some true)
     (hm:PySem.W.mroIn K C (.type "object")=some true):TyOf K H (.ref a) (.ref C)
theorem ZU {x:V}{u t:Value}(I:Inv X pins σ H s)(rx:RelV x u)(ty:TyOf X.K H x t)(e:kitOne X.K t c=some b)(h:∀tk,Q (.bool b) { s with toks:=tk }) :
   wpAny (model X.prog X.w) A (call (.builtin "isinstance") [u,c]) Q E s:=by
 cases ty with
 | non=>cases (show u=Value.none from rx);exact kia_one PySem.W.kitx_none I.kIn True.intro e (fun z=>nomatch z) h
 | bl y=>cases (show u=Value.bool y from rx);exact kia_one PySem.W.kitx_bool I.kIn True.intro e (fun z=>nomatch z) h
 | int i=>obtain⟨t,q⟩:=(show ∃t,u=Value.int i t from rx);cases q;exact kia_one PySem.W.kitx_int I.kIn True.intro e (fun z=>nomatch z) h
 | str y=>obtain⟨t,q⟩:=(show ∃t,u=Value.str y t from rx);cases q;exact kia_one PySem.W.kitx_str I.kIn True.intro e (fun z=>nomatch z) h
 | flt y=>obtain⟨t,q⟩:=(show ∃t,u=Value.float y t from rx);cases q;exact kia_one PySem.W.kitx_float I.kIn True.intro e (fun z=>nomatch z) h
 | @lst a xs ea =>
   cases (show u=Value.ref a from rx);obtain⟨_,_,n,_,h1⟩:=(show BW X.prog X.w H s.heap a (.lst xs) from I.hok a _ ea)
   exact kia_one kitx_list I.kIn ⟨_,h1,rfl⟩ e (fun z=>nomatch z) h
 | @frz a ob xs ea =>
   cases (show u=Value.ref a from rx);obtain⟨_,_,_,n,_,h1⟩:=(show BW X.prog X.w H s.heap a (.frz ob (.lst xs)) from I.hok a _ ea)
   exact kia_one kitx_list I.kIn ⟨_,h1,rfl⟩ e (fun z=>nomatch z) h
 | @tup a xs ea =>
   cases (show u=Value.ref a from rx);obtain⟨_,_,_,p⟩:=(show BW X.prog X.w H s.heap a (.tup xs) from I.hok a _ ea)
   obtain⟨o,h1,h2,_⟩:=p;exact kia_one PySem.W.kitx_tuple I.kIn ⟨o,h1,h2⟩ e (fun z=>nomatch z) h
 | @dK a kvs ea =>
   cases (show u=Value.ref a from rx);obtain⟨_,_,vs,_,p⟩:=(show BW X.prog X.w H s.heap a (.dK kvs) from I.hok a _ ea)
   obtain⟨o,es,ep,h1,h2,_⟩:=p;exact kia_one kitx_dict I.kIn ⟨o,h1,h2.1⟩ e (fun z=>nomatch z) h
 | @dT a kvs ea =>
   cases (show u=Value.ref a from rx);obtain⟨_,_,xs,_,o,es,ep,h1,h2,_⟩:=(show BW X.prog X.w H s.heap a (.dT kvs) from I.hok a _ ea)
   exact kia_one kitx_dict I.kIn ⟨o,h1,h2.1⟩ e (fun z=>nomatch z) h
 | @ins a C dx fs ea cl ha hn htk hm =>
   cases (show u=Value.ref a from rx);obtain⟨mA,O,_⟩:=Nu I.hok ea;obtain⟨od,J,_⟩:=O.look;exact kia_one (PySem.W.kitx_own (cl.get _) cl.hd ha hn htk hm) I.kIn J e (fun z=>nomatch z) h
end
end L2
namespace L2
open PySem PySem.Spec PyProof.Rows
structure Room (k:Nat)(A:Around):Prop where
 hd:A.handled=none
 dp:A.depth+3*k+5<recursionLimit
 un:A.units+16*k+200<cLine
theorem Room.mono {j k:Nat}{A:Around}(r:Room k A)(h:j<=k):Room j A:=⟨r.hd,by have:=r.dp;omega,by have:=r.un;omega⟩
theorem Room.deeper {k:Nat}{A:Around}(r:Room (k+1) A)(env:Env):Room k (A.deeper env) :=
 ⟨r.hd,by have:=r.dp;show A.depth+1+3*k+5<_;omega,by have:=r.un;show A.units+3+16*k+200<_;omega⟩
theorem Room.in1 {k:Nat}{A:Around}(r:Room (k+1) A):Room k A.in1 :=
 ⟨r.hd,by have:=r.dp;show A.depth+3*k+5<_;omega,by have:=r.un;show A.units+1+16*k+200<_;omega⟩
theorem ZV {A:Around}{C:Addr}{us:List Value}{kw:List (Str×Value)}:(A.under (.builtin "type.__call__" ⟨.ref C::us,kw⟩)).depth=A.depth+1:=by
 first | rfl | simp [Around.under,Code.weight,Code.isCreation,Code.isGuard,Code.isCaller,Code.frames,Code.isFrame,guardIds]
theorem ZW {A:Around}{C:Addr}{us:List Value}{kw:List (Str×Value)}:(A.under (.builtin "type.__call__" ⟨.ref C::us,kw⟩)).units=A.units+1:=by
 first | rfl | simp [Around.under,Code.cUnits,Code.frames,Code.isFrame]
theorem Room.make {k:Nat}{A:Around}(r:Room (k+1) A)(C:Addr)(us:List Value)(kw:List (Str×Value)):Room k (A.under (.builtin "type.__call__" ⟨.ref C::us,kw⟩)) :=
 ⟨r.hd,by have:=r.dp;rw[ZV];omega,by have:=r.un;rw[ZW];omega⟩
theorem Room.depth {k:Nat}{A:Around}(r:Room k A):A.depth<recursionLimit:=by have:=r.dp;omega
theorem Room.units {k:Nat}{A:Around}(r:Room k A):A.units+64<cLine:=by have:=r.un;omega
def tNil:TA:=fun _ H Q=>Q [] H
def tCons (ta:TE)(tr:TA):TA:=fun σ H Q=>ta σ H fun x H1=>tr σ H1 fun xs H2=>Q (x::xs) H2
section
variable {X:Cx}{e:Expr}{es:List Expr}{te:TE}{t:TA}{pos:Pos}
theorem Ab:PA X [] tNil:=fun _ _ _ _ H Q I h=>Calls.spliced_nil ⟨[],H,I,.nil,h⟩
theorem Aa (ha:PE X e te)(hr:PA X es t)(hs:starEach (e::es) X.env=(false,eval e X.env)::starEach es X.env:=by rfl):PA X (e::es) (tCons te t):=by
 intro pos pins s σ H Q I h;rw[hs];show wpAny _ _ (spliced ((false,eval e X.env)::backTo pos (starEach es X.env))) _ _ s;refine Calls.spliced_cons (thn (ha pins s σ H _ I h) fun u s1 ⟨x,H1,I1,r1,q1⟩=>?_);exact thn (hr pos pins s1 σ H1 _ I1 q1) fun us s2 ⟨xs,H2,I2,r2,q2⟩=>⟨x::xs,H2,I2,.cons r1 r2,q2⟩
def tTup (t:TA):TE:=fun σ H Q=>t σ H fun xs H1=>xs.length<=sizeLine/\∀p,H1 p=none->Q (.ref p) (upd H1 p (.tup xs))
def tLst (t:TA):TE:=fun σ H Q=>t σ H fun xs H1=>xs.length<=sizeLine/\∀p,H1 p=none->Q (.ref p) (upd H1 p (.lst xs))
theorem BY {x1}(h:PA X es t):PE X (.Tuple es x1 pos) (tTup t):=by
 intro pins s σ H Q I hq;refine wpAny_Tuple_spliced (thn (h pos pins s σ H _ I hq) fun us s1 ⟨xs,H1,I1,r,z,q⟩=>⟨by rw[<-r.length];exact z,?_⟩);have hf:H1 s1.heap.objs.size=none:=I1.hok.fresh (Nat.le_refl _);refine⟨.ref s1.heap.objs.size,upd H1 s1.heap.objs.size (.tup xs),I1.laid (t':=s1.toks) (fun b u e=>Heap.get?_push_of_some _ e) (Nat.le_refl _) ?_,rfl,q _ hf⟩;exact⟨z,us,r,⟨_,Heap.get?_push_size _ rfl,rfl,_,rfl⟩⟩
theorem Dn (h:PA X es t):PE X (.List es pos) (tLst t):=by
 intro pins s σ H Q I hq;refine wpAny_List_spliced (thn (h pos pins s σ H _ I hq) fun us s1 ⟨xs,H1,I1,r,z,q⟩=>⟨by rw[<-r.length];exact z,?_⟩);have hf:H1 s1.heap.objs.size=none:=I1.hok.fresh (Nat.le_refl _);refine⟨.ref s1.heap.objs.size,upd H1 s1.heap.objs.size (.lst xs),I1.laid (t':=s1.toks) (fun b u e=>Heap.get?_push_of_some _ e) (Nat.le_refl _) ?_,rfl,q _ hf⟩;exact⟨z,us,0,r,Heap.get?_push_size _ rfl⟩
end
abbrev Sp:=List V->Hp->VK->XK->Prop
abbrev CXT:=List Env->Hp->Shared->XK->Value->Shared->Prop
structure Env0 (P:Program)(w:World)(K:PySem.W.Frag)(mg:Str->Option Value)(base:Heap)(A:Around)(outer:List Env)(s:Shared)(H:Hp):Prop where
 frames:A.frames=some outer
 mod:Mod K mg base
 bs:∀b o,base.get? b=some o->s.heap.get? b=some o/\H b=none
 bsz:base.objs.size<=s.heap.objs.size
 funs:s.heap.FunFrames base outer
 frf:∀b∈frs outer,H b=none
 hok:HOk P w H s.heap
 bare:AllBare s.gens
def CE (outer:List Env)(P:Program)(w:World)(H:Hp)(s:Shared)(Q:VK)(u:Value)(s':Shared):Prop :=
 ∃v H',s'.os=s.os/\AllBare s'.gens/\Un (frs outer) [] H H' s.heap s'.heap/\HOk P w H' s'.heap/\RelV v u/\Q v H'
def CR (CX:CXT)(outer:List Env)(P:Program)(w:World)(H:Hp)(s:Shared)(Q:VK)(E:XK)(r:Result)(s':Shared):Prop :=
 match r with
 | .ok (.ret u)=>CE outer P w H s Q u s'
 | .ok _=>False
 | .error e=>CX outer H s E e s'
structure FnOk (P:Program)(w:World)(K:PySem.W.Frag)(mg:Str->Option Value)(base:Heap)(CX:CXT)(k:Nat)(f:Addr)(fd:FuncData)(ps:List Str)(sp:Sp):Prop where
 len:∀vs H Q E,sp vs H Q E->vs.length=ps.length
 run:∀(A:Around) (outer:List Env) (s:Shared) (H:Hp) (args:Args) (us:List Value) (vs:List V) (Q:VK) (E:XK),Room k A->Env0 P w K mg base A outer s H->BindsTo s fd args (ps.zip us)->Vals vs us->sp vs H Q E ->
   codeAny (model P w) A (.call (.ref f) args) (CR CX outer P w H s Q E) s
theorem FnOk.mono {P:Program}{w:World}{K:PySem.W.Frag}{mg:Str->Option Value}{base:Heap}{CX:CXT}{j k:Nat}{f:Addr}{fd:FuncData}{ps:List Str}{sp:Sp}(F:FnOk P w K mg base CX j f fd ps sp)(h:j<=k) :
   FnOk P w K mg base CX k f fd ps sp:=⟨F.len,fun A outer s H args us vs Q E hr=>F.run A outer s H args us vs Q E (hr.mono h)⟩
theorem FnOk.imp {P:Program}{w:World}{K:PySem.W.Frag}{mg:Str->Option Value}{base:Heap}{CX:CXT}{k:Nat}{f:Addr}{fd:FuncData}{ps:List Str}{sp sp':Sp}(F:FnOk P w K mg base CX k f fd ps sp)
   (h:∀vs H Q E,sp' vs H Q E->sp vs H Q E):FnOk P w K mg base CX k f fd ps sp' :=
 ⟨fun vs H Q E q=>F.len vs H Q E (h _ _ _ _ q),fun A outer s H args us vs Q E hr he hb hv hs=>F.run A outer s H args us vs Q E hr he hb hv (h _ _ _ _ hs)⟩
theorem Env0.make {P:Program}{w:World}{K:PySem.W.Frag}{mg:Str->Option Value}{base:Heap}{A:Around}{outer:List Env}{s:Shared}{H:Hp}(e:Env0 P w K mg base A outer s H)(C:Addr)(us:List Value)(kw:List (Str×Value)) :
   Env0 P w K mg base (A.under (.builtin "type.__call__" ⟨.ref C::us,kw⟩)) outer s H:=⟨by first | exact e.frames | (simpa [Around.under,Code.envs,Code.isFrame,pushEnvs] using e.frames),e.mod,e.bs,e.bsz,e.funs,e.frf,e.hok,e.bare⟩
theorem Env0.in1 {P:Program}{w:World}{K:PySem.W.Frag}{mg:Str->Option Value}{base:Heap}{A:Around}{outer:List Env}{s:Shared}{H:Hp}(e:Env0 P w K mg base A outer s H) :
   Env0 P w K mg base A.in1 outer s H:=⟨e.frames,e.mod,e.bs,e.bsz,e.funs,e.frf,e.hok,e.bare⟩
section
variable {X:Cx}{pins:List (Addr×Obj)}{σ:St}{H:Hp}{s s':Shared}
theorem Inv.env0 (I:Inv X pins σ H s):Env0 X.prog X.w X.K X.mg X.base X.A X.stack s H :=
 ⟨I.ok.frames,I.ok.mod,I.bs,Nat.le_trans I.ok.bsz I.sz,I.stack,I.stkFree,I.hok,I.bare⟩
theorem Inv.after {Q:VK}{u:Value}(I:Inv X pins σ H s)(h:CE X.stack X.prog X.w H s Q u s'):EP X pins σ Q u s':=by
 obtain⟨v,H',os,bare,un,hok,r,q⟩:=h;obtain⟨hh,g,d,t,os'⟩:=s';obtain rfl:os'=s.os:=os;exact⟨v,H',I.call (h':=hh) (g':=g) (d':=d) (t':=t) (ch:=[]) un hok bare (fun b z=>absurd z (by simp)),r,q⟩
end
def F1 (sp:Sp)(dvs:List V)(E:XK)(t:TA):TE:=fun σ H Q=>t σ H fun vs H1=>sp (vs++dvs) H1 Q E
def Nv (C:Addr)(sp:Sp)(dvs:List V)(E:XK)(t:TA):TE:=fun σ H Q=>t σ H fun vs H1=>∀x dx,H1 x=none->H1 dx=none->dx≠x ->
 sp (.ref x::(vs++dvs)) (upd (upd H1 dx (.own x)) x (.ins C dx [])) (fun v H2=>v = .non/\Q (.ref x) H2) E
def Bi (K:PySem.W.Frag)(fd:FuncData)(ps:List Str)(ds:List Value):Prop :=
 ∀(s:Shared) (us:List Value),K.In s.heap->(us++ds).length=ps.length->BindsTo s fd ⟨us,[]⟩ (ps.zip (us++ds))
theorem Bi.all {K:PySem.W.Frag}{fd:FuncData}{ps:List Str}(h:∀us:List Value,us.length=ps.length->bindArgs fd ⟨us,[]⟩=pure (ps.zip us)):Bi K fd ps []:=fun s us _ hl=>by
 rw[List.append_nil] at hl ⊢;exact .of_eq (h us hl)
def DB (CX:CXT)(X:Cx)(E:XK):Prop:=∀(pins:List (Addr×Obj)) (σ:St) (H:Hp) (s:Shared) (e:Value) (s':Shared),Inv X pins σ H s->CX X.stack H s E e s'->X.xe e s'
section
variable {X:Cx}{CX:CXT}{k:Nat}{f C:Addr}{fd:FuncData}{ps:List Str}{sp:Sp}{dvs:List V}{ds:List Value}{E:XK}{x m:Str}{p pos apos:Pos}{e o:Expr}{es:List Expr}{ta:TE}{t:TA}
theorem Jh {pins:List (Addr×Obj)}{σ:St}{H:Hp}{s:Shared}{Q:VK}{us:List Value}{vs:List V}(F:FnOk X.prog X.w X.K X.mg X.base CX k f fd ps sp)(hr:Room k X.A)(hb:Bi X.K fd ps ds)(hd:Vals dvs ds)(hx:DB CX X E)
   (I:Inv X pins σ H s) (r:Vals vs us) (h:sp (vs++dvs) H Q E):wpAny (model X.prog X.w) X.A (call (.ref f) us) (EP X pins σ Q) X.xe s:=by
 have r2:Vals (vs++dvs) (us++ds):=r.append hd;have hl:(us++ds).length=ps.length:=by rw[<-r2.length];exact F.len _ _ _ _ h
 refine wpAny_call (codeAny_mono (F.run X.A X.stack s H ⟨us,[]⟩ (us++ds) (vs++dvs) Q E hr I.env0 (hb s us I.kIn hl) r2 h) fun r s' hq=>?_);cases r with
 | error e=>exact hx pins σ H s e s' I hq
 | ok fl =>
   cases fl with
   | ret u=>exact I.after hq
   | next=>exact False.elim hq
   | brk=>exact False.elim hq
   | cont=>exact False.elim hq
theorem P3 (F:FnOk X.prog X.w X.K X.mg X.base CX k f fd ps sp)(hr:Room k X.A)(hg:Gl X x)(hm:X.mg x=some (.ref f))(hk:keepIn X.K (.ref f)=true)(hb:Bi X.K fd ps ds)(hd:Vals dvs ds)(hx:DB CX X E)
   (ha:PA X (e::es) t) (hdb:(x==("__debug__":Str))=false:=by decide) (he:starEach (e::es) X.env=(false,eval e X.env)::starEach es X.env:=by rfl) (hpl:(backTo pos (starEach es X.env)).any (·.1)=false:=by rfl) :
   PE X (.Call (.Name x p) (e::es) [] pos) (F1 sp dvs E t):=by
 intro pins s σ H Q I h;refine wpAny_Call_Name_kw (Dz I hg hm ?_ hdb);refine callWith_K (h₀:=X.base) I.ok.mod.kin hk (thn (ha pos pins s σ H _ I h) fun us s1 ⟨vs,H1,I1,r,q⟩=>⟨I1.kIn,?_⟩) he hpl;exact Jh F hr hb hd hx I1 r q
structure Mk (K:PySem.W.Frag)(C f:Addr):Prop where
 makes:makesIn K C=true
 init:PySem.W.findIn K (.ref C) "__init__"=some (some (.ref f))
 fn:isFn K (.ref f)=true
 kp:keepIn K (.ref C)=true
theorem ZX {pins:List (Addr×Obj)}{σ:St}{H:Hp}{s:Shared}{Q:VK}{us:List Value}{vs:List V}(M:Mk X.K C f)(F:FnOk X.prog X.w X.K X.mg X.base CX k f fd ps sp)(hr:Room (k+1) X.A)(hb:Bi X.K fd ps ds)(hd:Vals dvs ds)
   (hx:DB CX X E) (I:Inv X pins σ H s) (r:Vals vs us)
   (h:∀x dx,H x=none->H dx=none->dx≠x->sp (.ref x::(vs++dvs)) (upd (upd H dx (.own x)) x (.ins C dx [])) (fun v H2=>v = .non/\Q (.ref x) H2) E) :
   wpAny (model X.prog X.w) X.A (call (.ref C) us) (EP X pins σ Q) X.xe s:=by
 have hq:=h (s.heap.objs.size+1) s.heap.objs.size (I.hok.fresh (Nat.le_succ _)) (I.hok.fresh (Nat.le_refl _)) (Nat.ne_of_lt (Nat.lt_succ_self _));have I2:=Inv.made (C:=C) I;have r2:Vals (V.ref (s.heap.objs.size+1)::(vs++dvs)) (Value.ref (s.heap.objs.size+1)::(us++ds)):=.cons rfl (r.append hd);have hl:(Value.ref (s.heap.objs.size+1)::us++ds).length=ps.length:=by
   have e:=r2.length;rw[F.len _ _ _ _ hq] at e;exact e.symm
 refine wpAny_call (ZQ (f:=f) I.kIn M.makes M.init (beq_iff_eq.mp M.fn) (codeAny_mono (F.run _ X.stack _ _ ⟨Value.ref (s.heap.objs.size+1)::us,[]⟩ (Value.ref (s.heap.objs.size+1)::(us++ds)) _ _ E (hr.make C us [])
   (I2.env0.make C us []) (hb _ (Value.ref (s.heap.objs.size+1)::us) I2.kIn hl) r2 hq) fun r s' hq'=>?_))
 cases r with
 | error e=>exact hx pins σ _ _ e s' I2 hq'
 | ok fl =>
   cases fl with
   | ret u =>
     obtain⟨v,H',I3,rv,ev,q3⟩:=I2.after hq';subst ev;exact⟨rv,⟨V.ref (s.heap.objs.size+1),H',I3,rfl,q3⟩⟩
   | next=>exact False.elim hq'
   | brk=>exact False.elim hq'
   | cont=>exact False.elim hq'
theorem ZY (M:Mk X.K C f)(F:FnOk X.prog X.w X.K X.mg X.base CX k f fd ps sp)(hr:Room (k+1) X.A)(hg:Gl X x)(hm:X.mg x=some (.ref C))(hb:Bi X.K fd ps ds)(hd:Vals dvs ds)(hx:DB CX X E)
   (ha:PA X (e::es) t) (hdb:(x==("__debug__":Str))=false:=by decide) (he:starEach (e::es) X.env=(false,eval e X.env)::starEach es X.env:=by rfl) (hpl:(backTo pos (starEach es X.env)).any (·.1)=false:=by rfl) :
   PE X (.Call (.Name x p) (e::es) [] pos) (Nv C sp dvs E t):=by
 intro pins s σ H Q I h;refine wpAny_Call_Name_kw (Dz I hg hm ?_ hdb);refine callWith_K (h₀:=X.base) I.ok.mod.kin M.kp (thn (ha pos pins s σ H _ I h) fun us s1 ⟨vs,H1,I1,r,q⟩=>⟨I1.kIn,?_⟩) he hpl;exact ZX M F hr hb hd hx I1 r q
end
section
variable {X:Cx}{CX:CXT}{k:Nat}{f C:Addr}{fd:FuncData}{ps ks:List Str}{sp:Sp}{E:XK}{x m:Str}{p pos apos kpos:Pos}{e o:Expr}{es:List Expr}{kws:List Keyword}{te ta:TE}{t tk:TA}{nm:Option Str}
structure KBinds (K:PySem.W.Frag)(fd:FuncData)(ps ks:List Str)(g:List Value->List Value->List Value)(gV:List V->List V->List V):Prop where
 to:∀(s:Shared) (us ws:List Value),K.In s.heap->(g us ws).length=ps.length->BindsTo s fd ⟨us,ks.zip ws⟩ (ps.zip (g us ws))
 rel:∀{vs:List V} {us:List Value} {zs:List V} {ws:List Value},Vals vs us->Vals zs ws->Vals (gV vs zs) (g us ws)
variable {g:List Value->List Value->List Value}{gV:List V->List V->List V}
end
structure FnScope (N P:List Str)(sc:Scope):Prop where
 kind:sc.kind = .function
 co:sc.isCoroutine=false
 gen:sc.isGenerator=false
 nd:N.Nodup
 pre:N.take P.length=P
 par:∀x∈P,sc.names.lookup x=some .local\/sc.names.lookup x=some .cell
 nofree:∀y∈sc.names,y.2≠.free
theorem Wp {kindOf:Str->Option NameKind}{x:Str}:∀{binds:List (Str×Value)} {m:Str->Option Value},(∀v,(x,v) ∉ binds)->bindL kindOf binds m x=m x
 | [],_,_=>rfl
 | (n,v)::r,m,h=>by
   unfold bindL
   rw[Wp fun w hw=>h w (List.mem_cons_of_mem _ hw)]
   split
   . have:x≠n:=by rintro rfl;exact h v List.mem_cons_self
     simp [this]
   . rfl
theorem Wq {kindOf:Str->Option NameKind}{x:Str}:∀{binds:List (Str×Value)} {m:Str->Option Value},(∀v,(x,v) ∉ binds)->bindC kindOf binds m x=m x
 | [],_,_=>rfl
 | (n,v)::r,m,h=>by
   unfold bindC
   rw[Wq fun w hw=>h w (List.mem_cons_of_mem _ hw)]
   split
   . rfl
   . have:x≠n:=by rintro rfl;exact h v List.mem_cons_self
     simp [this]
theorem Wr {kindOf:Str->Option NameKind}{x:Str}{v:Value}:∀{P:List Str} {vs:List Value} {i:Nat} {m:Str->Option Value},P.Nodup->P[i]?=some x->vs[i]?=some v->kindOf x=some .local ->
   bindL kindOf (P.zip vs) m x=some v
 | [],_,_,_,_,h,_,_=>by simp at h
 | _::_,[],_,_,_,_,h,_=>by simp at h
 | p::P,w::vs,0,m,nd,h1,h2,hk=>by
   simp at h1 h2;subst h1;subst h2
   show bindL kindOf ((p,w)::P.zip vs) m p=_
   unfold bindL
   rw[Wp fun v hv=>(List.nodup_cons.mp nd).1 (List.of_mem_zip hv).1,if_pos hk]
   simp
 | p::P,w::vs,i+1,m,nd,h1,h2,hk=>by
   show bindL kindOf ((p,w)::P.zip vs) m x=_
   unfold bindL
   exact Wr (i:=i) (List.nodup_cons.mp nd).2 (by simpa using h1) (by simpa using h2) hk
theorem Ws {kindOf:Str->Option NameKind}{x:Str}{v:Value}:∀{P:List Str} {vs:List Value} {i:Nat} {m:Str->Option Value},P.Nodup->P[i]?=some x->vs[i]?=some v->kindOf x≠some .local ->
   bindC kindOf (P.zip vs) m x=some v
 | [],_,_,_,_,h,_,_=>by simp at h
 | _::_,[],_,_,_,_,h,_=>by simp at h
 | p::P,w::vs,0,m,nd,h1,h2,hk=>by
   simp at h1 h2;subst h1;subst h2
   show bindC kindOf ((p,w)::P.zip vs) m p=_
   unfold bindC
   rw[Wq fun v hv=>(List.nodup_cons.mp nd).1 (List.of_mem_zip hv).1,if_neg hk]
   simp
 | p::P,w::vs,i+1,m,nd,h1,h2,hk=>by
   show bindC kindOf ((p,w)::P.zip vs) m x=_
   unfold bindC
   exact Ws (i:=i) (List.nodup_cons.mp nd).2 (by simpa using h1) (by simpa using h2) hk
def start (N:List Str)(vs:List V):St:=vs.map some++List.replicate (N.length-vs.length) none
def cxOf (CX:CXT)(P:Program)(w:World)(K:PySem.W.Frag)(mg:Str->Option Value)(base:Heap)(N:List Str)(qual:Str)(scope:Scope)(f:Addr)(cd:Value)(A:Around)(outer:List Env)(s:Shared)(H:Hp)(E:XK):Cx where
 prog:=P
 w:=w
 K:=K
 mg:=mg
 base:=base
 A:=A.deeper (envOfC qual scope s.heap.objs.size f cd)
 N:=N
 s₀:=s
 H₀:=H
 env:=envOfC qual scope s.heap.objs.size f cd
 outer:=outer
 stack:=envOfC qual scope s.heap.objs.size f cd::outer
 ex:=[]
 calm:=true
 fn:=fun _=>true
 pn:=[]
 xe:=fun e s'=>wpAny (model P w) (A.deeper (envOfC qual scope s.heap.objs.size f cd)) (leaving (envOfC qual scope s.heap.objs.size f cd) e) (fun _ s''=>CX outer H s E e s'') (fun e' s''=>CX outer H s E e' s'') s'
theorem Wt {sc:Scope}{n:Nat}{x:Str}(h:sc.names.lookup x=some .cell):∃c,(cellsFrom n sc.names []).lookup x=some c:=by
 have q:=cellsFrom_some sc.names n [] (.inl h);exact Option.isSome_iff_exists.mp q
theorem ZZ {CX:CXT}{P:Program}{w:World}{K:PySem.W.Frag}{mg:Str->Option Value}{base:Heap}{N ps:List Str}{qual:Str}{scope:Scope}{f:Addr}{cd:Value}{A:Around}{outer:List Env}{s s1:Shared}{H:Hp}{E:XK}{us:List Value}{vs:List V}
   (S:FnScope N ps scope) (hd:A.handled=none) (e0:Env0 P w K mg base A outer s H) (hl:vs.length=ps.length) (r:Vals vs us)
   (x:InCallC s s.heap.objs.size (bindL (envOfC qual scope s.heap.objs.size f cd).kindOf (ps.zip us) fun _=>none) (cellsFrom (s.heap.objs.size+1) scope.names []) (bindC (envOfC qual scope s.heap.objs.size f cd).kindOf (ps.zip us) fun _=>none) s1) :
   Inv (cxOf CX P w K mg base N qual scope f cd A outer s H E) [] (start N vs) H s1:=by
 have hpl:ps.length<=N.length:=by have:=congrArg List.length S.pre;rw[List.length_take] at this;omega
 obtain⟨h1,tk,rfl,hk⟩:=x.done;have noA:∀b:Addr,b ∉ (cxOf CX P w K mg base N qual scope f cd A outer s H E).ex:=fun b z=>absurd (show b∈([]:List Addr) from z) (by simp);refine⟨⟨e0.mod,S.kind,rfl,rfl,Nat.le_refl _,fun y z c h1 h2=>?_,fun y hy=>?_,fun y c _ h=>?_,fun _=>hd,Around.frames_deeper e0.frames,.inr ⟨rfl,rfl⟩,fun b z=>absurd z (noA b),e0.bs,e0.bsz,fun b _ _=>noA b,fun b z=>absurd z (noA b),e0.funs,e0.frf⟩,
   rfl,e0.bare,Un.kept hk,⟨_,x.toInCall.ns,fun i y v h1 h2 h3=>?_⟩,fun y c h=>⟨_,x.cell y c h⟩,e0.hok.fresh (Nat.le_refl _),fun y c h=>?_,fun p hp=>absurd (show p∈([]:List (Addr×Obj)) from hp) (by simp),e0.hok.kept hk,?_⟩
 . exact name_of_addr x.apart (PySem.mem_of_lookup h1) (PySem.mem_of_lookup h2)
 . have hy:scope.names.lookup y=some .cell\/scope.names.lookup y=some .free:=hy;rcases hy with hy | hy
   . exact Wt hy
   . exact absurd rfl (S.nofree _ (PySem.mem_of_lookup hy))
 . exact Nat.le_of_lt (x.above y c (PySem.mem_of_lookup h))
 . have hi:i<vs.length:=by
     unfold start at h2;by_cases hi:i<vs.length
     . exact hi
     . rw[List.getElem?_append_right (by simpa using hi)] at h2;rw[List.getElem?_replicate] at h2
       split at h2 <;> cases h2
   have ha:vs[i]?=some v:=by
     unfold start at h2;rw[List.getElem?_append_left (by simpa using hi),List.getElem?_map] at h2;cases e:vs[i]? with
     | none=>rw[e] at h2;cases h2
     | some a=>rw[e] at h2;cases h2;rfl
   obtain⟨u,hu,rv⟩:=r.get ha;have hp:ps[i]?=some y:=by
     rw[<-S.pre,List.getElem?_take_of_lt (by omega)];exact h1
   have ndP:ps.Nodup:=by rw[<-S.pre];exact S.nd.sublist (List.take_sublist _ _)
   refine⟨u,rv,?_⟩;rcases S.par y (List.mem_of_getElem? hp) with k | k
   . exact .inl ⟨k,Wr ndP hp hu k⟩
   . obtain⟨c,e⟩:=Wt (n:=s.heap.objs.size+1) k;refine .inr ⟨.inl k,c,e,?_⟩;have q:=x.cell y c e;rw[Ws ndP hp hu (by show scope.names.lookup y≠_;rw[k];decide)] at q;exact q
 . exact e0.hok.fresh (Nat.le_of_lt (x.above y c (PySem.mem_of_lookup h)))
 . unfold start;show _=N.length;rw[List.length_append,List.length_map,List.length_replicate];omega
theorem P4 {CX:CXT}{P:Program}{w:World}{K:PySem.W.Frag}{mg:Str->Option Value}{base:Heap}{k:Nat}{f:Addr}{name qual:Str}{params:Arguments}{body:List Stmt}{scope:Scope}{dV kV doc pm cdv ct oc:Value}{an od:Option Addr}
   {osl:Array (Option Value)} {N ps:List Str} {sp:Sp} (lk:K.lookup f=some ⟨oc,od,.func (fnOf name qual params body scope dV kV doc pm an cdv ct),osl⟩) (hcd:codeIn K cdv qual=true) (S:FnScope N ps scope)
   (len:∀vs H Q E,sp vs H Q E->vs.length=ps.length)
   (hbody:∀(A:Around) (outer:List Env) (s:Shared) (H:Hp) (vs:List V) (Q:VK) (E:XK),Room k (A.deeper (envOfC qual scope s.heap.objs.size f cdv))->sp vs H Q E ->
     ∃t,PSs (cxOf CX P w K mg base N qual scope f cdv A outer s H E) body t/\t { nx:=fun _ H'=>Q .non H',rt:=Q } (start N vs) H) :
   FnOk P w K mg base CX (k+1) f (fnOf name qual params body scope dV kV doc pm an cdv ct) ps sp:=by
 refine⟨len,fun A outer s H args us vs Q E hr e0 hb r hsp=>?_⟩;have hl:=len _ _ _ _ hsp;have KX:K.In s.heap:=e0.mod.kin.keeps fun b o e=>(e0.bs b o e).1;have lim:s.heap.NoLimit:=e0.mod.nolimit.keeps fun b o e=>(e0.bs b o e).1;have hkind:∀y∈ps.zip us,scope.names.lookup y.1=some .local\/(scope.names.lookup y.1=some .cell/\((cellsFrom (s.heap.objs.size+1) scope.names []).lookup y.1).isSome=true):=fun ⟨n,v⟩ hy=>by
   rcases S.par n (List.of_mem_zip hy).1 with q | q
   . exact .inl q
   . exact .inr ⟨q,cellsFrom_some _ _ _ (.inl q)⟩
 refine codeAny_call_function hr.depth (KX _ _ lk) rfl S.co S.gen rfl (PySem.W.codeRec_of KX hcd) (hb _ _ _ _ ?_);refine wpAny_newFunctionEnv_cells S.kind hkind fun env he s1 x=>?_;subst he;refine⟨lim.keeps x.toInCall.keep,codeAny_func ?_⟩;obtain⟨t,ht,hq⟩:=hbody A outer s H vs Q E (hr.deeper _) hsp;have I:Inv (cxOf CX P w K mg base N qual scope f cdv A outer s H E) [] (start N vs) H s1:=ZZ S hr.hd e0 hl r x;refine wpAny_mono (ht [] s1 (start N vs) H _ I hq) (fun fl s' hs=>?_) fun e s' hs=>hs;have fin:∀{σ':St} {H':Hp} {v:V} {u:Value},Inv (cxOf CX P w K mg base N qual scope f cdv A outer s H E) [] σ' H' s'->RelV v u->Q v H'->CE outer P w H s Q u s' :=
   fun {σ' H' v u} J rv q=>⟨v,H',J.os,J.bare,J.base,J.hok,rv,q⟩
 cases fl with
 | ret u =>
   obtain⟨v,σ',H',J,rv,q⟩:=hs;exact fin J rv q
 | next =>
   obtain⟨σ',H',J,q⟩:=hs;exact fin (v:=V.non) (u:=Value.none) J rfl q
 | brk =>
   obtain⟨_,_,_,q⟩:=hs;exact False.elim q
 | cont =>
   obtain⟨_,_,_,q⟩:=hs;exact False.elim q
end L2
namespace L2
open PySem PySem.Spec PyProof.Rows
section
variable {X:Cx}{x:Str}{p pos:Pos}{e:Expr}{es:List Expr}{t:TA}{id T:String}{r:List V->Hp->VK->Prop}
def tCB (r:List V->Hp->VK->Prop)(t:TA):TE:=fun σ H Q=>t σ H fun vs H1=>r vs H1 Q
theorem Bm (hc:DT X (.builtin id) r)(hg:Gl X x)(hm:X.mg x=none)(hv:bootBuiltins x=some (.builtin id))(ha:PA X (e::es) t)(hn:x≠"__name__":=by decide)(hdb:(x==("__debug__":Str))=false:=by decide)
   (he:starEach (e::es) X.env=(false,eval e X.env)::starEach es X.env:=by rfl) (hpl:(backTo pos (starEach es X.env)).any (·.1)=false:=by rfl):PE X (.Call (.Name x p) (e::es) [] pos) (tCB r t):=by
 intro pins s σ H Q I h;refine wpAny_Call_Name_kw (HP I hg hm hv ?_ hn hdb);exact PyProof.Rows.callWith_builtin1 (thn (ha pos pins s σ H _ I h) fun us s1 ⟨vs,H1,I1,r1,q1⟩=>hc pins s1 σ H1 vs us Q I1 r1 q1) he hpl
theorem CC (hc:DT X (.type T) r)(hg:Gl X x)(hm:X.mg x=none)(hv:bootBuiltins x=some (.type T))(ha:PA X (e::es) t)(hn:x≠"__name__":=by decide)(hdb:(x==("__debug__":Str))=false:=by decide)
   (he:starEach (e::es) X.env=(false,eval e X.env)::starEach es X.env:=by rfl) (hpl:(backTo pos (starEach es X.env)).any (·.1)=false:=by rfl):PE X (.Call (.Name x p) (e::es) [] pos) (tCB r t):=by
 intro pins s σ H Q I h;refine wpAny_Call_Name_kw (HP I hg hm hv ?_ hn hdb);exact PyProof.Rows.callWith_type1 (thn (ha pos pins s σ H _ I h) fun us s1 ⟨vs,H1,I1,r1,q1⟩=>hc pins s1 σ H1 vs us Q I1 r1 q1) he hpl
end
end L2
namespace HT
open PySem PyProof.Rows
def lexLt:List Int->List Int->Bool
 | [],[]=>false
 | [],_::_=>true
 | _::_,[]=>false
 | x::xs,y::ys=>if x=y then lexLt xs ys else decide (x<y)
theorem lexLt_cons (x y:Int)(xs ys:List Int):lexLt (x::xs) (y::ys)=if x=y then lexLt xs ys else decide (x<y):=rfl
theorem lexLt_nil_nil:lexLt [] []=false:=rfl
theorem Z0 (y:Int)(ys:List Int):lexLt [] (y::ys)=true:=rfl
theorem Z1 (x:Int)(xs:List Int):lexLt (x::xs) []=false:=rfl
theorem eqAt_int (A:Around)(s:Shared)(a:Int)(t:Tok)(c:Int)(u:Tok):∃e,SeqAt.EqAt A s (.int a t) (.int c u) e/\(e=true↔a=c) :=
 ⟨(a==c),SeqAt.EqAt.int_int a t c u,by simp⟩
theorem rcLt_int (A:Around)(s:Shared)(a:Int)(t:Tok)(c:Int)(u:Tok)(prog:Program)(w:World)(E:Value->Shared->Prop)(Q:Value->Shared->Prop)(h:Q (.bool (decide (a<c))) s) :
   wpAny (model prog w) A (richCompare .Lt (.int a t) (.int c u)) Q E s :=
 (PyProof.Rows.lt_int h:wpAny (model prog w) A (compareOp .Lt (.int a t) (.int c u)) Q E s)
section
open PySem.SeqAt
open PySem.AutoSeq1 (wpAny_loadPart')
open PySem.MeetsSeq PySem.MeetsSeq2 PySem.MeetsSeq3
theorem Z2 (l b:Addr)(items items2:Array Value)(n n2:Nat)(dd dd2:Option Addr)(sl sl2:Array (Option Value))(ns ms:List Int)(hi:IntsAre items.toList ns)(hj:IntsAre items2.toList ms) :
   Meets (Builtin.«tuple.__lt__» ⟨[.ref l,.ref b],[]⟩)
     (fun _ R s=>s.heap.get? l=some { cls:=.type "tuple",dict:=dd,data:=.seq items n,slots:=sl }/\s.heap.get? b=some { cls:=.type "tuple",dict:=dd2,data:=.seq items2 n2,slots:=sl2 } /\
       R (.ok (.ret (.bool (lexLt ns ms)))) s) :=
 .of_wp fun prog w A R s h=>by
   obtain⟨hp,g,d,tk,os⟩:=s;obtain⟨hl,hb,h⟩:=h
   have f2:=AutoSeq1.sub_tuple_tuple
   have z1:items.size=ns.length:=by rw[<-hi.length];simp
   have z2:items2.size=ms.length:=by rw[<-hj.length];simp
   wp_walk using wpAny_loadPart' hl,wpAny_loadPart' hb,wpAny_forIn_list _ (fun rest b s'=>b.1=none/\s'=⟨hp,g,d,tk,os⟩/\∃(vs ws:List Value) (ns' ms':List Int),rest=vs.zip ws /\
     IntsAre vs ns'/\IntsAre ws ms'/\ns'.length+items2.size=ms'.length+items.size/\R (.ok (.ret (.bool (lexLt ns' ms')))) ⟨hp,g,d,tk,os⟩) _
   case turn =>
     rintro⟨y,x⟩ rest b s' ⟨hb',rfl,vs,ws,ns',ms',hz,hvi,hwi,hlen,hR⟩
     cases hvi with
     | nil=>rw[List.zip_nil_left] at hz;cases hz
     | cons a t hvi' =>
       cases hwi with
       | nil=>rw[List.zip_nil_right] at hz;cases hz
       | cons c u hwi' =>
         rw[List.zip_cons_cons] at hz
         injection hz with hyx hrest
         injection hyx with hy hx
         subst hy hx
         rw[lexLt_cons] at hR
         simp only [List.length_cons] at hlen
         obtain⟨e,he,hiff⟩:=eqAt_int A.in1 ⟨hp,g,d,tk,os⟩ a t c u
         refine wpAny_bind (he prog w _ _ ?_)
         cases e with
         | true =>
           rw[if_pos (hiff.mp rfl)] at hR
           wp_walk
           exact⟨rfl,rfl,_,_,_,_,hrest,hvi',hwi',by omega,hR⟩
         | false =>
           rw[if_neg (fun q=>absurd (hiff.mpr q) Bool.false_ne_true)] at hR
           have hri:=rcLt_int A.in1 ⟨hp,g,d,tk,os⟩ a t c u prog w
           wp_walk using hri
           exact⟨_,rfl,by simpa using hR⟩
   case fin =>
     rintro⟨b1,b2⟩ s' ⟨hb',rfl,vs,ws,ns',ms',hz,hvi,hwi,hlen,hR⟩
     simp only at hb'
     subst hb'
     have hv:lexLt ns' ms'=decide (items.size<items2.size):=by
       cases hvi with
       | nil =>
         cases hwi with
         | nil =>
           simp only [List.length_nil] at hlen;rw[lexLt_nil_nil];exact(decide_eq_false (by omega)).symm
         | cons c u hw =>
           simp only [List.length_nil,List.length_cons] at hlen;rw[Z0];exact(decide_eq_true (by omega)).symm
       | cons a t hv =>
         cases hwi with
         | nil =>
           simp only [List.length_nil,List.length_cons] at hlen;rw[Z1];exact(decide_eq_false (by omega)).symm
         | cons c u hw =>
           rw[List.zip_cons_cons] at hz;cases hz
     rw[hv] at hR
     wp_walk
     exact⟨_,rfl,by simpa [Builtin.Tuple.tupleCompareSizes] using hR⟩
   case h =>
     exact⟨rfl,rfl,items.toList,items2.toList,ns,ms,rfl,hi,hj,by omega,h⟩
end
section
variable {prog:Program}{w:World}{A:Around}{E:Value->Shared->Prop}{s:Shared}
theorem lt_tupInts {l b:Addr}{items items2:Array Value}{ns ms:List Int}{Q:Value->Shared->Prop}(hl:IsTup s.heap l items)(hb:IsTup s.heap b items2)(hi:IntsAre items.toList ns)(hj:IntsAre items2.toList ms)
   (hu:A.units<cLine) (h:Q (.bool (lexLt ns ms)) s):wpAny (model prog w) A (compareOp .Lt (.ref l) (.ref b)) Q E s:=by
 obtain⟨⟨cls,dd,data,sl⟩,ho,hc,n,hd⟩:=id hl;obtain⟨⟨cls2,dd2,data2,sl2⟩,FV,hc2,n2,hd2⟩:=id hb;simp only at hc hd hc2 hd2;subst hc hd hc2 hd2;exact richCompare_meets_room (op:=.Lt) ⟨_,ho,rfl⟩ ⟨_,FV,rfl⟩ PySem.F.slot_tuple_lt PySem.F.entry_tuple_lt (PySem.F.args_tuple_lt_2 _ _) (Z2 l b items items2 n n2 dd dd2 sl sl2 ns ms hi hj)
   ⟨ho,FV,show Value.bool (lexLt ns ms)≠Value.notImplemented/\Q (.bool (lexLt ns ms)) s from ⟨(fun x=>nomatch x),h⟩⟩ hu
def sIx (n d:Nat):Option Int->Nat
 | none=>d
 | some v=>if v<0 then (v+(n:Int)).toNat else min v.toNat n
theorem sIx_nat (n d k:Nat):sIx n d (some (k:Int))=min k n:=by
 show (if (k:Int)<0 then ((k:Int)+(n:Int)).toNat else min (k:Int).toNat n)=min k n;rw[if_neg (by omega),Int.toNat_natCast]
end
end HT
namespace L2
open PySem PySem.Spec PyProof.Rows
abbrev TO:=St->Hp->(Option Int->Hp->Prop)->Prop
def PO (X:Cx)(e:Option Expr)(t:TO):Prop :=
 ∀(pins:List (Addr×Obj)) (s:Shared) (σ:St) (H:Hp) (Q:Option Int->Hp->Prop),Inv X pins σ H s->t σ H Q ->
   wpAny (model X.prog X.w) X.A (evalPart e X.env) (fun u s'=>∃o H',Inv X pins σ H' s'/\IsPart u o/\Q o H') X.xe s
def Wu (t:TE):TO:=fun σ H Q=>t σ H fun x H1=>∃i,x = .int i/\Q (some i) H1
theorem Nw {ns:List Int}:∀{us:List Value},Vals (ns.map V.int) us->IntsAre us ns:=by
 induction ns with
 | nil=>intro us r;rw[List.map_nil] at r;cases r;exact .nil
 | cons n ns ih =>
   intro us r;rw[List.map_cons] at r;cases r with
   | cons r1 r2 =>
     obtain⟨t,e⟩:=r1;subst e;exact .cons n t (ih r2)
section
variable {X:Cx}{e:Expr}{te:TE}{lo hi:Option Expr}{tl th:TO}{pos p2:Pos}
theorem HS (h:PE X e te):PO X (some e) (Wu te):=by
 intro pins s σ H Q I hw;rw[evalPart_some];refine thn (h pins s σ H _ I hw) fun u s1 ⟨x,H1,I1,r1,q1⟩=>?_;obtain⟨i,rfl,q⟩:=q1;obtain⟨t,rfl⟩:=r1;exact⟨some i,H1,I1,.int i t,q⟩
def SlR (X:Cx)(r:V->Option Int->Option Int->Hp->VK->Prop):Prop :=
 ∀(pins:List (Addr×Obj)) (s:Shared) (σ:St) (H:Hp) (x:V) (v vl vu:Value) (lo hi:Option Int) (sl:Addr) (Q:VK),Inv X pins σ H s->RelV x v->s.heap.IsSliceOf sl vl vu .none->IsPart vl lo->IsPart vu hi->r x lo hi H Q ->
   ∃T id,typeLookup (.type T) "__getitem__"=pure (some (.builtin id))/\s.TypeIs v T/\wpAny (model X.prog X.w) X.A (getItem v (.ref sl)) (EP X pins σ Q) X.xe s
def tSl (r:V->Option Int->Option Int->Hp->VK->Prop)(te:TE)(tl th:TO):TE:=fun σ H Q=>te σ H fun x H1=>tl σ H1 fun l H2=>th σ H2 fun u H3=>r x l u H3 Q
theorem P5 {r:V->Option Int->Option Int->Hp->VK->Prop}(hr:SlR X r)(he:PE X e te)(hl:PO X lo tl)(hu:PO X hi th):PE X (.Subscript e (.Slice lo hi none p2) pos) (tSl r te tl th):=by
 intro pins s σ H Q I h;refine Subscript_ (thn (he pins s σ H _ I h) fun v s1 ⟨x,H1,I1,r1,q1⟩=>?_);refine wpAny_Slice (thn (hl pins s1 σ H1 _ I1 q1) fun vl s2 ⟨l,H2,I2,pl,q2⟩=>thn (hu pins s2 σ H2 _ I2 q2) fun vu s3 ⟨u,H3,I3,pu,q3⟩=>?_);rw[evalPart_none];refine wpAny_pure ?_;have I4:Inv X pins σ H3 { s3 with heap:=s3.heap.push { cls:=.type "slice",data:=.fields #[vl,vu,.none] } }:=I3.kept (t':=s3.toks) fun b ob q=>Heap.get?_push_of_some _ q;obtain⟨T,id,hT,ht,hg⟩:=hr pins { s3 with heap:=s3.heap.push { cls:=.type "slice",data:=.fields #[vl,vu,.none] } } σ H3 x v vl vu l u s3.heap.objs.size Q I4 r1 (Heap.IsSliceOf.new ..) pl pu q3;show wpAny (model X.prog X.w) X.A (subscriptTail e (.Slice lo hi none p2) v (.ref s3.heap.objs.size)) (EP X pins σ Q) X.xe { s3 with heap:=s3.heap.push { cls:=.type "slice",data:=.fields #[vl,vu,.none] } };exact tail_any (ops:=[.ref s3.heap.objs.size,v]) ht hT hg (by with_unfolding_all rfl)
def cutV (xs:List V)(lo hi:Option Int):List V:=(xs.drop (HT.sIx xs.length 0 lo)).take (HT.sIx xs.length xs.length hi-HT.sIx xs.length 0 lo)
theorem Z3 (xs:List V)(lo hi:Option Int):(cutV xs lo hi).length<=xs.length:=by
 unfold cutV;rw[List.length_take,List.length_drop];omega
end
end L2
namespace L2
open PySem PySem.Spec PyProof.Rows
def ixN (n:Nat)(i:Int):Option Nat:=if 0<=i then (if i<n then some i.toNat else none) else if -(n:Int)<=i then some (i+n).toNat else none
def atI {α:Type}(xs:List α)(i:Int):Option α:=(ixN xs.length i).bind fun j=>xs[j]?
theorem Wv {n:Nat}{i:Int}{j:Nat}(h:ixN n i=some j):seqIndex? i n=some j/\j<n/\-(n:Int)<=i/\i<n:=by
 unfold ixN at h;by_cases h0:0<=i
 . rw[if_pos h0] at h;by_cases h1:i<n
   . rw[if_pos h1] at h;have e:i.toNat=j:=Option.some.inj h;exact⟨by rw[seqIndex_of h0 h1,e],by omega,by omega,h1⟩
   . rw[if_neg h1] at h;cases h
 . rw[if_neg h0] at h;by_cases h1 : -(n:Int)<=i
   . rw[if_pos h1] at h;have e:(i+n).toNat=j:=Option.some.inj h;exact⟨by rw[seqIndex_neg (by omega) h1,e],by omega,h1,by omega⟩
   . rw[if_neg h1] at h;cases h
theorem Ww {α:Type}{xs:List α}{i:Int}{v:α}(h:atI xs i=some v):∃j,seqIndex? i xs.length=some j/\xs[j]?=some v/\j<xs.length/\-(xs.length:Int)<=i/\i<xs.length:=by
 unfold atI at h;cases e:ixN xs.length i with
 | none=>rw[e] at h;cases h
 | some j =>
   rw[e] at h;obtain⟨h1,h2,h3,h4⟩:=Wv e;exact⟨j,h1,h,h2,h3,h4⟩
theorem Ea {α:Type}{xs:List α}{j:Nat}{v:α}(h:xs[j]?=some v):atI xs (j:Int)=some v:=by
 have hj:j<xs.length:=(List.getElem?_eq_some_iff.mp h).1;have e:ixN xs.length (j:Int)=some j:=by
   unfold ixN;rw[if_pos (by omega),if_pos (by omega)];simp
 unfold atI;rw[e];exact h
theorem Z4 {α:Type}(xs:List α)(v:α):atI (xs++[v]) (-1)=some v:=by
 have hl:(xs++[v]).length=xs.length+1:=by simp
 have e:ixN (xs++[v]).length (-1)=some xs.length:=by
   unfold ixN;rw[hl,if_neg (by decide),if_pos (by omega)]
   congr 1
   omega
 unfold atI;rw[e];show (xs++[v])[xs.length]?=some v;simp
def Z5 (b:Expr):Prop:=∀o i,subscripted b false o i=operate [o,i] (getItem o i)
def IxR (X:Cx)(r:R2):Prop :=
 ∀(value slice:Expr) (pins:List (Addr×Obj)) (s:Shared) (σ:St) (H:Hp) (x y:V) (v u:Value) (Q:VK),Inv X pins σ H s->RelV x v->RelV y u->r x y H Q ->
   subscripted slice false v u=operate [v,u] (getItem v u)->wpAny (model X.prog X.w) X.A (subscriptTail value slice v u) (EP X pins σ Q) X.xe s
def MtR (X:Cx)(id:String)(r:V->List V->Hp->VK->Prop):Prop :=
 ∀(pins:List (Addr×Obj)) (s:Shared) (σ:St) (H:Hp) (x:V) (xs:List V) (v:Value) (us:List Value) (Q:VK),Inv X pins σ H s->RelV x v->Vals xs us->r x xs H Q ->
   wpAny (model X.prog X.w) X.A (call (.builtin id) (v::us)) (EP X pins σ Q) X.xe s
section
variable {X:Cx}{a b:Expr}{ta tb:TE}{pos:Pos}
theorem Ax {r:R2}(hr:IxR X r)(ha:PE X a ta)(hb:PE X b tb)(hs:Z5 b):PE X (.Subscript a b pos) (tOp r ta tb):=by
 intro pins s σ H Q I h;exact Subscript_ (binT ha hb I h fun v u s2 x y H2 I2 rx ry q=>hr a b pins s2 σ H2 x y v u Q I2 rx ry q (hs _ _))
def rIxL (K:PySem.W.Frag):R2:=fun x y H Q=>∃p xs i v,x = .ref p/\y = .int i/\SqL K H p xs/\atI xs i=some v/\Q v H
def rIxT (K:PySem.W.Frag):R2:=fun x y H Q=>∃p xs i v,x = .ref p/\y = .int i/\SqT K H p xs/\atI xs i=some v/\Q v H
theorem AV:IxR X (rIxL X.K):=by
 intro value slice pins s σ H x y v u Q I rx ry h hs;obtain⟨p,xs,i,z,rfl,rfl,hq,he,q⟩:=h;cases rx;obtain⟨t,rfl⟩:=ry;obtain⟨its,r,pl,hz⟩:=I.list hq;obtain⟨j,h1,h2,h3,h4,h5⟩:=Ww he;obtain⟨w,ew,rw'⟩:=r.get h2;have hl:=r.length;have hn:=Jf;have fin:EP X pins σ Q w s:=⟨z,H,I,rw',q⟩
 by_cases h0:0<=i
 . have hj:i.toNat=j:=by
     rw[seqIndex_of h0 h5] at h1;exact Option.some.inj h1
   exact item_listR pl.isList h0 (by omega) (by rw[hj];simpa using ew) fin hs
 . have hj:(i+(its.toArray.size:Int)).toNat=j:=by
     rw[seqIndex_neg (by omega) h4] at h1;rw[List.size_toArray,<-hl];exact Option.some.inj h1
   exact subscriptTail_builtinR (x:=w) pl.isList.typeIs slot_list_getitem.lookup
     (wpAny_getItem_list_neg (Q:=fun r s'=>r=w/\EP X pins σ Q r s') pl.isList (by omega) (by rw[List.size_toArray] <;> omega) (by omega) (by rw[hj];simpa using ew) ⟨rfl,fin⟩) hs
theorem Bn:IxR X (rIxT X.K):=by
 intro value slice pins s σ H x y v u Q I rx ry h hs;obtain⟨p,xs,i,z,rfl,rfl,hq,he,q⟩:=h;cases rx;obtain⟨t,rfl⟩:=ry;obtain⟨its,r,pl,hz⟩:=I.tuple hq;obtain⟨j,h1,h2,h3,h4,h5⟩:=Ww he;obtain⟨w,ew,rw'⟩:=r.get h2;have hl:=r.length;have hn:=Jf;have fin:EP X pins σ Q w s:=⟨z,H,I,rw',q⟩
 exact subscriptTail_builtinR (x:=w) pl.typeIs slot_tuple_getitem.lookup
   (getItem_tuple (j:=j) (Q:=fun r s'=>r=w/\EP X pins σ Q r s') pl (by omega) (by omega) (by rw[List.size_toArray,<-hl];exact h1) (by simpa using ew) ⟨rfl,fin⟩) hs
theorem Z6 (its:List Value)(n j:Nat)(u:Value):Obj.mapSeq (·.setIfInBounds j u) { cls:=.type "list",data:=.seq its.toArray n }={ cls:=.type "list",data:=.seq (its.set j u).toArray n }:=by
 simp [Obj.mapSeq]
theorem Inv.lst {pins:List (Addr×Obj)}{σ:St}{H:Hp}{s:Shared}{p:Addr}{xs:List V}(I:Inv X pins σ H s)(h:H p=some (.lst xs)) :
   ∃(its:List Value) (n:Nat),Vals xs its/\s.heap.get? p=some { cls:=.type "list",data:=.seq its.toArray n }/\xs.length<=sizeLine:=by
 obtain⟨z,its,n,r,e⟩:=I.hok p _ h;exact⟨its,n,r,e,z⟩
theorem Inv.lstUpd {pins:List (Addr×Obj)}{σ:St}{H:Hp}{s:Shared}{p:Addr}{xs ys:List V}{its its':List Value}{n n':Nat}{f:Obj->Obj}(I:Inv X pins σ H s)(h:H p=some (.lst xs))
   (ho:s.heap.get? p=some { cls:=.type "list",data:=.seq its.toArray n }) (hf:f { cls:=.type "list",data:=.seq its.toArray n }={ cls:=.type "list",data:=.seq its'.toArray n' }) (r:Vals ys its') (hz:ys.length<=sizeLine) (t:Nat) :
   Inv X pins σ (upd H p (.lst ys)) { s with heap:=s.heap.update p f,toks:=t }:=by
 have e:(s.heap.update p f).get? p=some { cls:=.type "list",data:=.seq its'.toArray n' }:=by
   rw[Heap.get?_update_self f ho (by rw[hf] <;> rfl),hf]
 refine I.write (x:=p) (e:=p) (by rw[h];trivial) (.inl rfl) (fun b u hb q=>(Heap.get?_update_other _ _ (Ne.symm hb)).trans q) ⟨_,e⟩ ?_;exact⟨hz,its',n',r,e⟩
def P6:V->V->V->Hp->(Hp->Prop)->Prop:=fun o i v H Q=>∃p xs k j,o = .ref p/\i = .int k/\H p=some (.lst xs)/\ixN xs.length k=some j/\Q (upd H p (.lst (xs.set j v)))
theorem F2:PSet X P6:=by
 intro pins s σ H o i v ov iv u Q I ro ri rv h;obtain⟨p,xs,k,j,rfl,rfl,hp,hj,q⟩:=h;cases ro;obtain⟨t,rfl⟩:=ri;obtain⟨its,n,r,ho,hz⟩:=I.lst hp;obtain⟨h1,h2,h3,h4⟩:=Wv hj;have hl:=r.length;have hn:=Jf;have I':Inv X pins σ (upd H p (.lst (xs.set j v))) { s with heap:=s.heap.update p (Obj.mapSeq (·.setIfInBounds j u)) } :=
   I.lstUpd hp ho (Z6 its n j u) (r.set rv j) (by rw[List.length_set];exact hz) s.toks
 by_cases h0:0<=k
 . have hk:k.toNat=j:=by
     rw[seqIndex_of h0 h4] at h1;exact Option.some.inj h1
   exact PySem.W.ki_setAt ho h0 (by omega) (by rw[List.size_toArray,<-hl];exact h4) (by rw[hk];exact⟨_,I',q⟩)
 . have hk:(k+(its.toArray.size:Int)).toNat=j:=by
     rw[seqIndex_neg (by omega) h3] at h1;rw[List.size_toArray,<-hl];exact Option.some.inj h1
   exact PySem.W.ki_setBack ho (by omega) (by rw[List.size_toArray,<-hl];exact h3) (by omega) (by rw[hk];exact⟨_,I',q⟩)
theorem Z7 (lo hi:Option Int)(n:Nat):(sliceBounds lo hi none n).1=((HT.sIx n 0 lo:Nat):Int)/\(sliceBounds lo hi none n).2.1=((HT.sIx n n hi:Nat):Int)/\(sliceBounds lo hi none n).2.2=1:=by
 refine⟨?_,?_,rfl⟩
 . cases lo with
   | none=>simp [sliceBounds,HT.sIx]
   | some i =>
     simp only [sliceBounds,HT.sIx,Option.getD_none,show (1:Int)>0 by decide,if_true];by_cases h:i<0
     . simp only [h,if_true] <;> omega
     . simp only [h,if_false] <;> omega
 . cases hi with
   | none=>simp [sliceBounds,HT.sIx]
   | some i =>
     simp only [sliceBounds,HT.sIx,Option.getD_none,show (1:Int)>0 by decide,if_true];by_cases h:i<0
     . simp only [h,if_true] <;> omega
     . simp only [h,if_false] <;> omega
theorem Z8 (its:List Value)(lo hi:Option Int):slicePick its.toArray lo hi none=((its.drop (HT.sIx its.length 0 lo)).take (HT.sIx its.length its.length hi-HT.sIx its.length 0 lo)).toArray:=by
 obtain⟨h1,h2,h3⟩:=Z7 lo hi its.toArray.size;unfold slicePick;rw[h1,h2,h3];simp only [sliceRange_one,pick_run,List.size_toArray] <;> rfl
def rSlL (K:PySem.W.Frag):V->Option Int->Option Int->Hp->VK->Prop:=fun x lo hi H Q=>∃a xs,x = .ref a/\SqL K H a xs/\∀p,H p=none->Q (.ref p) (upd H p (.lst (cutV xs lo hi)))
theorem P7:SlR X (rSlL X.K):=by
 intro pins s σ H x v vl vu lo hi sl Q I rx hs pl pu h;obtain⟨a,xs,rfl,hx,q⟩:=h;cases rx;obtain⟨its,r,ht,hz⟩:=I.list hx;have hlen:=r.length;refine⟨"list",_,slot_list_getitem.lookup,ht.isList.typeIs,?_⟩;refine wpAny_getItem_list_slice ht.isList hs pl pu .none (by simp) ?_ (by rw[List.size_toArray] <;> omega);rw[Z8,<-hlen];refine⟨.ref s.heap.objs.size,_,I.laid (t':=s.toks) (o:=.lst (cutV xs lo hi)) (fun b ob q=>Heap.get?_push_of_some _ q) (Nat.le_refl _) ?_,rfl,q _ (I.hok.fresh (Nat.le_refl _))⟩;exact⟨Nat.le_trans (Z3 xs lo hi) hz,_,0,(r.drop (HT.sIx xs.length 0 lo)).take (HT.sIx xs.length xs.length hi-HT.sIx xs.length 0 lo),Heap.get?_push_size _ rfl⟩
def DC:V->Bool
 | .non=>true
 | .bl _=>true
 | .int _=>true
 | .str _=>true
 | _=>false
def eqV:V->V->Bool
 | .non,.non=>true
 | .bl a,.bl b=>a==b
 | .bl a,.int b=>(if a then 1 else 0)==b
 | .int a,.bl b=>a==(if b then 1 else 0)
 | .int a,.int b=>a==b
 | .str a,.str b=>a==b
 | _,_=>false
theorem eqAt_V {A:Around}{s:Shared}{y x:V}{u v:Value}(ry:RelV y u)(rx:RelV x v)(fy:DC y=true)(fx:DC x=true):SeqAt.EqAt A s u v (eqV y x):=by
 cases y with
 | non =>
   cases ry;cases x with
   | non=>cases rx;exact SeqAt.EqAt.same _
   | bl b=>cases rx;exact SeqAt.EqAt.none_bool b
   | int b=>obtain⟨t,rfl⟩:=rx;exact SeqAt.EqAt.none_int b t
   | str b=>obtain⟨t,rfl⟩:=rx;exact SeqAt.EqAt.none_str b t
   | _=>exact absurd (show false=true from fx) Bool.false_ne_true
 | bl a =>
   cases ry;cases x with
   | non=>cases rx;exact SeqAt.EqAt.bool_none a
   | bl b=>cases rx;exact SeqAt.EqAt.bool_bool a b
   | int b=>obtain⟨t,rfl⟩:=rx;exact SeqAt.EqAt.bool_int a b t
   | str b=>obtain⟨t,rfl⟩:=rx;exact SeqAt.EqAt.bool_str a b t
   | _=>exact absurd (show false=true from fx) Bool.false_ne_true
 | int a =>
   obtain⟨t',rfl⟩:=ry;cases x with
   | non=>cases rx;exact SeqAt.EqAt.int_none a t'
   | bl b=>cases rx;exact SeqAt.EqAt.int_bool a t' b
   | int b=>obtain⟨t,rfl⟩:=rx;exact SeqAt.EqAt.int_int a t' b t
   | str b=>obtain⟨t,rfl⟩:=rx;exact SeqAt.EqAt.int_str a t' b t
   | _=>exact absurd (show false=true from fx) Bool.false_ne_true
 | str a =>
   obtain⟨t',rfl⟩:=ry;cases x with
   | non=>cases rx;exact SeqAt.EqAt.str_none a t'
   | bl b=>cases rx;exact SeqAt.EqAt.str_bool a t' b
   | int b=>obtain⟨t,rfl⟩:=rx;exact SeqAt.EqAt.str_int a t' b t
   | str b=>obtain⟨t,rfl⟩:=rx;exact SeqAt.EqAt.str_str a t' b t
   | _=>exact absurd (show false=true from fx) Bool.false_ne_true
 | _=>exact absurd (show false=true from fy) Bool.false_ne_true
theorem B7:DT X (.builtin "len") (fun xs H Q=>∃p ys,xs=[.ref p]/\(SqL X.K H p ys\/SqT X.K H p ys)/\Q (.int ys.length) H):=by
 intro pins s σ H xs us Q I r h;obtain⟨p,ys,rfl,hq,q⟩:=h;obtain⟨u,rfl,rx⟩:=P1 r;cases rx;have hn:=Jf;rcases hq with hq | hq
 . obtain⟨its,r',pl,hz⟩:=I.list hq;have hlen:=r'.length;exact Calls.call_len_list pl.isList (by simp only [List.size_toArray] <;> omega) ⟨.int ys.length,H,I.tok _,⟨s.toks+1,by rw[List.size_toArray,hlen]⟩,q⟩
 . obtain⟨its,r',pl,hz⟩:=I.tuple hq;have hlen:=r'.length;exact len_tuple pl (by simp only [List.size_toArray] <;> omega) ⟨.int ys.length,H,I.tok _,⟨s.toks+1,by rw[List.size_toArray,hlen]⟩,q⟩
theorem CD:DT X (.type "list") (fun xs H Q=>∃p ys,xs=[.ref p]/\(SqL X.K H p ys\/SqT X.K H p ys)/\∀l,H l=none->Q (.ref l) (upd H l (.lst ys))):=by
 intro pins s σ H xs us Q I r h;obtain⟨p,ys,rfl,hq,q⟩:=h;obtain⟨u,rfl,rx⟩:=P1 r;cases rx;have fin:∀(its:List Value),Vals ys its->ys.length<=sizeLine->∀(h':Heap) (c':Nat),(∀b o',s.heap.get? b=some o'->h'.get? b=some o') ->
     h'.get? s.heap.objs.size=some { cls:=.type "list",dict:=none,data:=.seq its.toArray c',slots:=#[] }->EP X pins σ Q (.ref s.heap.objs.size) { s with heap:=h' }:=fun its r' hz h' c' kp e =>
   ⟨.ref s.heap.objs.size,_,I.laid (t':=s.toks) kp (Nat.le_refl _) (show BW X.prog X.w _ h' _ (.lst ys) from ⟨hz,its,c',r',e⟩),rfl,q _ (I.hok.fresh (Nat.le_refl _))⟩
 rcases hq with hq | hq
 . obtain⟨its,r',pl,hz⟩:=I.list hq;have hlen:=r'.length;obtain⟨o,ho,hc,n,hd⟩:=pl.isList;exact call_list_seq p (.inl rfl) ho hc hd (fun h' c' kp e=>fin its r' hz h' c' kp e) (by simp only [List.size_toArray] <;> omega)
 . obtain⟨its,r',pl,hz⟩:=I.tuple hq;have hlen:=r'.length;obtain⟨o,ho,hc,n,hd⟩:=pl;exact call_list_seq p (.inr rfl) ho hc hd (fun h' c' kp e=>fin its r' hz h' c' kp e) (by simp only [List.size_toArray] <;> omega)
def tyV (K:PySem.W.Frag)(T:String)(x:V)(H:Hp):Prop:=match x with
 | .str _=>T="str"
 | .int _=>T="int"
 | .ref p=>(T="list"/\∃xs,SqL K H p xs)\/(T="tuple"/\∃o,K.lookup p=some o/\o.cls = .type "tuple"/\o.dict=none) \/
     (T="dict"/\((∃kvs,H p=some (.dK kvs))\/∃kvs,H p=some (.dT kvs)))\/(T="set"/\∃S n,H p=some (.set S n))
 | _=>False
theorem Wx {pins:List (Addr×Obj)}{σ:St}{H:Hp}{s:Shared}{T:String}{x:V}{v:Value}(I:Inv X pins σ H s)(r:RelV x v)(ty:tyV X.K T x H) :
   s.TypeIs v T/\∀a,v = .ref a->∃ob,s.heap.get? a=some ob/\ob.dict=none:=by
 cases x with
 | str z =>
   obtain⟨t,rfl⟩:=r;cases (show T="str" from ty);exact⟨typeIs_str s z t,fun _ e=>nomatch e⟩
 | int i =>
   obtain⟨t,rfl⟩:=r;cases (show T="int" from ty);exact⟨typeIs_int s i t,fun _ e=>nomatch e⟩
 | ref p =>
   cases r;rcases ty with ⟨rfl,xs,hq⟩ | ⟨rfl,o,hk,hc,hd⟩ | ⟨rfl,hk⟩ | ⟨rfl,S,n,hk⟩
   . obtain⟨its,_,pl,_⟩:=I.list hq;refine⟨pl.isList.typeIs,fun a e=>?_⟩;cases e;obtain⟨o,n,e,c,hd,_⟩:=pl;exact⟨o,e,hd⟩
   . refine⟨⟨o,I.kIn p o hk,hc⟩,fun a e=>?_⟩;cases e;exact⟨o,I.kIn _ o hk,hd⟩
   . have z:∃o,s.heap.get? p=some o/\o.ExactDict:=by
       rcases hk with ⟨kvs,hk⟩ | ⟨kvs,hk⟩
       . obtain⟨_,_,_,_,o,_,_,e,ex,_⟩:=I.hok p _ hk;exact⟨o,e,ex⟩
       . obtain⟨_,_,_,_,o,_,_,e,ex,_⟩:=I.hok p _ hk;exact⟨o,e,ex⟩
     obtain⟨o,e,ex⟩:=z;refine⟨⟨o,e,ex.1⟩,fun a e2=>?_⟩;cases e2;exact⟨o,e,ex.2.1⟩
   . obtain⟨o,_,_,_,e,ex,_⟩:=I.hok p _ hk;refine⟨⟨o,e,ex.1⟩,fun a e2=>?_⟩;cases e2;exact⟨o,e,ex.2.1⟩
 | _=>exact False.elim ty
def tBM0 (K:PySem.W.Frag)(T:String)(r:V->List V->Hp->VK->Prop)(to:TE):TE:=fun σ H Q=>to σ H fun x H1=>tyV K T x H1/\r x [] H1 Q
def tBM (K:PySem.W.Frag)(T:String)(r:V->List V->Hp->VK->Prop)(to:TE)(t:TA):TE:=fun σ H Q=>to σ H fun x H1=>tyV K T x H1/\t σ H1 fun xs H2=>r x xs H2 Q
variable {o e:Expr}{es:List Expr}{to:TE}{t:TA}{name:Str}{apos cpos:Pos}{T id:String}{r:V->List V->Hp->VK->Prop}
theorem Wy (pa:PlainAttrs T)(slot:Slot T name id)(hty:typeOf (.builtin id)=pure (.type "method_descriptor"))(hm:MtR X id r)(ho:PE X o to)
   (hbase:attributeBase o name X.env (eval o X.env)=eval o X.env:=by rfl) (hline:(apos.endLine==cpos.line)=true:=by rfl):PE X (.Call (.Attribute o name apos) [] [] cpos) (tBM0 X.K T r to):=by
 intro pins s σ H Q I h;refine wpAny_Call_method0_late hbase hline (thn (ho pins s σ H _ I h) fun v s1 ⟨x,H1,I1,r1,ty,q1⟩=>?_);obtain⟨h1,h2⟩:=Wx I1 r1 ty;exact⟨T,id,pa,slot,hty,h1,h2,Calls.callWith_builtin rfl (PySem.evalArgs_none (hm pins s1 σ H1 x [] v [] Q I1 r1 .nil q1))⟩
theorem F3 (pa:PlainAttrs T)(slot:Slot T name id)(hty:typeOf (.builtin id)=pure (.type "method_descriptor"))(hm:MtR X id r)(ho:PE X o to)(ha:PA X (e::es) t)
   (hbase:attributeBase o name X.env (eval o X.env)=eval o X.env:=by rfl)
   (hfew:((backTo cpos (starEach (e::es) X.env)).all (fun x=>!x.1)&&(backToKw cpos (keywordEach [] X.env)).all (fun x=>x.1.isSome)
     && decide ((e::es).length+([]:List Keyword).length+(if ([]:List Keyword).isEmpty then 0 else 1)<30))=true:=by rfl)
   (hline:(apos.endLine==cpos.line)=true:=by rfl) (hs:starEach (e::es) X.env=(false,eval e X.env)::starEach es X.env:=by rfl) (hplain:(backTo cpos (starEach es X.env)).any (·.1)=false:=by rfl) :
   PE X (.Call (.Attribute o name apos) (e::es) [] cpos) (tBM X.K T r to t):=by
 intro pins s σ H Q I h;refine wpAny_Call_method_late hbase hfew hline rfl (thn (ho pins s σ H _ I h) fun v s1 ⟨x,H1,I1,r1,ty,q1⟩=>?_);obtain⟨h1,h2⟩:=Wx I1 r1 ty;refine⟨T,id,pa,slot,hty,h1,h2,?_⟩;have hA:=ha cpos pins s1 σ H1 _ I1 q1;rw[hs] at hA ⊢;refine Calls.callWith_builtin (by show (false||(backTo cpos (starEach es X.env)).any (·.1))=false;rw[hplain] <;> rfl) (Calls.evalArgs_plain ?_);exact thn hA fun us s2 ⟨vs,H2,I2,r2,q2⟩=>hm pins s2 σ H2 x vs v us Q I2 r1 r2 q2
/- xs.append(e),list.index on a module's tuple .. are MtR facts of 06m -/
end
end L2
namespace L2
open PySem PySem.Spec PyProof.Rows
def MtM (X:Cx)(id:String)(r:V->List V->Hp->VK->Prop):Prop :=
 ∀(pins:List (Addr×Obj)) (s:Shared) (σ:St) (H:Hp) (x:V) (xs:List V) (v:Value) (us:List Value) (Q:VK),Inv X pins σ H s->RelV x v->Vals xs us->r x xs H Q ->
   wpAny (model X.prog X.w) X.A (call (.builtin id) (v::us)) (EP X pins σ Q) X.xe s
theorem Vals.one:∀{x:V} {us:List Value},Vals [x] us->∃u,us=[u]/\RelV x u
 | _,_,.cons r .nil=>⟨_,rfl,r⟩
theorem Vals.zero:∀{us:List Value},Vals [] us->us=[]
 | _,.nil=>rfl
theorem Vals.dropLast {xs:List V}{us:List Value}(h:Vals xs us):Vals xs.dropLast us.dropLast:=by
 induction h with
 | nil=>exact .nil
 | cons r t ih =>
   cases t with
   | nil=>exact .nil
   | cons q t'=>exact .cons r ih
theorem Vals.eraseIdx:∀{xs:List V} {us:List Value} (i:Nat),Vals xs us->Vals (xs.eraseIdx i) (us.eraseIdx i)
 | _,_,_,.nil=>.nil
 | _,_,0,.cons _ t=>t
 | _,_,i+1,.cons r t=>.cons r (Vals.eraseIdx i t)
theorem Vals.rep {xs:List V}{us:List Value}(h:Vals xs us):∀k:Nat,Vals (List.replicate k xs).flatten (List.replicate k us).flatten
 | 0=>.nil
 | k+1=>by
   rw[List.replicate_succ,List.replicate_succ,List.flatten_cons,List.flatten_cons]
   exact Vals.append h (Vals.rep h k)
theorem Wz (its:List Value):∀(k:Nat) (acc:List Value),
   List.foldl (fun x1 x2=>x1++x2) acc.toArray (List.replicate k its.toArray)=(acc++(List.replicate k its).flatten).toArray
 | 0,acc=>by simp
 | k+1,acc=>by
   have e:acc.toArray++its.toArray=(acc++its).toArray:=by simp
   have e2:(acc++its)++(List.replicate k its).flatten=acc++(List.replicate (k+1) its).flatten:=by
     rw[List.replicate_succ,List.flatten_cons,List.append_assoc]
   rw[<-e2,<-Wz its k (acc++its),<-e,List.replicate_succ,List.foldl_cons]
section
variable {X:Cx}{pins:List (Addr×Obj)}{σ:St}{H:Hp}{s:Shared}{l b:Addr}{xs ys zs:List V}
theorem Inv.lset {its its':List Value}{n:Nat}{f:Array Value->Array Value}{t':Nat}(I:Inv X pins σ H s)(hH:H l=some (.lst xs))
   (e:s.heap.get? l=some { cls:=.type "list",data:=.seq its.toArray n }) (hf:f its.toArray=its'.toArray) (hv:Vals ys its') (hz:ys.length<=sizeLine) :
   Inv X pins σ (upd H l (.lst ys)) { s with heap:=s.heap.update l (Obj.mapSeq f),toks:=t' }:=by
 have q:=PySem.IsL.update e f;rw[hf] at q;refine I.write (x:=l) (e:=l) (by rw[hH];exact trivial) (.inl rfl) (fun b' u hb hu=>(Heap.get?_update_other s.heap (Obj.mapSeq f) (Ne.symm hb)).trans hu) ⟨_,q⟩ ?_;exact⟨hz,its',_,hv,q⟩
theorem Inv.lnew {its:List Value}{t':Nat}(I:Inv X pins σ H s)(hv:Vals ys its)(hz:ys.length<=sizeLine) :
   Inv X pins σ (upd H s.heap.objs.size (.lst ys)) { s with heap:=s.heap.push { cls:=.type "list",data:=.seq its.toArray },toks:=t' } :=
 I.laid (fun _ _ q=>Heap.get?_push_of_some _ q) (Nat.le_refl _) ⟨hz,its,0,hv,Heap.get?_push_size _ rfl⟩
theorem Inv.fresh (I:Inv X pins σ H s):H s.heap.objs.size=none:=I.hok.fresh (Nat.le_refl _)
theorem Inv.lstM (I:Inv X pins σ H s)(hH:H l=some (.lst xs)):xs.length<=sizeLine/\∃(its:List Value) (n:Nat),Vals xs its/\xs.length=its.length/\s.heap.get? l=some { cls:=.type "list",data:=.seq its.toArray n }:=by
 obtain⟨z,its,n,r,e⟩:=I.hok l _ hH;exact⟨z,its,n,r,r.length,e⟩
theorem WA {n:Nat}(h:n<=sizeLine):Builtin.List.listTooLong n=false:=by
 unfold Builtin.List.listTooLong;exact decide_eq_false (by omega)
end
section
variable {X:Cx}
def P8:V->List V->Hp->VK->Prop:=fun x vs H Q=>∃l xs y,x = .ref l/\vs=[y]/\H l=some (.lst xs)/\xs.length<sizeLine/\Q .non (upd H l (.lst (xs++[y])))
theorem F4:MtM X "list.append" P8:=by
 intro pins s σ H x vs v us Q I rx rv h;obtain⟨l,xs,y,rfl,rfl,hH,hz,q⟩:=h;cases rx;obtain⟨u,rfl,ru⟩:=rv.one;obtain⟨z,its,n,r,hl,e⟩:=I.lstM hH;refine call_meets F.slot_list_append ⟨_,e,rfl⟩ F.entry_list_append (F.args_list_append_2 _ _) (PySem.list_append l its.toArray n u (by rw[List.size_toArray];omega)) ⟨e,?_⟩;refine⟨.non,_,I.lset (its':=its++[u]) hH e (by simp) (r.append (.cons ru .nil)) ?_,rfl,q⟩;rw[List.length_append,List.length_singleton];omega
def Z9:V->List V->Hp->VK->Prop:=fun x vs H Q=>∃l b xs zs,x = .ref l/\vs=[.ref b]/\H l=some (.lst xs)/\H b=some (.lst zs)/\xs.length+zs.length<=sizeLine/\Q .non (upd H l (.lst (xs++zs)))
theorem mt_extend:MtM X "list.extend" Z9:=by
 intro pins s σ H x vs v us Q I rx rv h;obtain⟨l,b,xs,zs,rfl,rfl,hH,hB,hz,q⟩:=h;cases rx;obtain⟨u,rfl,ru⟩:=rv.one;cases ru;obtain⟨z,its,n,r,hl,e⟩:=I.lstM hH;obtain⟨z2,its2,n2,r2,hl2,e2⟩:=I.lstM hB;have hsz:its.toArray.size+its2.toArray.size<=sizeLine:=by rw[List.size_toArray,List.size_toArray];omega
 have hlong:¬(!its.toArray.isEmpty&&Builtin.List.listTooLong (its.toArray.size+its2.toArray.size))=true:=by
   rw[WA hsz,Bool.and_false];exact Bool.false_ne_true
 refine call_meets F.slot_list_extend ⟨_,e,rfl⟩ F.entry_list_extend (F.args_list_extend_2 _ _)
   (AutoSeq1.list_extend_list_list_0 l its.toArray n b its2.toArray n2 hlong (by rw[List.size_toArray];omega) (by omega)) ⟨e,e2,?_⟩
 refine⟨.non,_,I.lset (its':=its++its2) hH e (by simp) (r.append r2) ?_,rfl,q⟩;rw[List.length_append];omega
def rCat:R2:=fun x y H Q=>∃l b xs zs,x = .ref l/\y = .ref b/\H l=some (.lst xs)/\H b=some (.lst zs)/\xs.length+zs.length<=sizeLine/\∀p,H p=none->Q (.ref p) (upd H p (.lst (xs++zs)))
theorem aA:OpR X (binaryOp .Add) rCat:=by
 intro pins s σ H x y v u Q I rx ry h;obtain⟨l,b,xs,zs,rfl,rfl,hH,hB,hz,q⟩:=h;cases rx;cases ry;obtain⟨z,its,n,r,hl,e⟩:=I.lstM hH;obtain⟨z2,its2,n2,r2,hl2,e2⟩:=I.lstM hB;refine PySem.P.add_list e e2 ?_ (by rw[List.size_toArray,List.size_toArray];omega);have ea:its.toArray++its2.toArray=(its++its2).toArray:=by simp
 rw[ea];exact⟨.ref _,_,I.lnew (t':=s.toks) (r.append r2) (by rw[List.length_append];omega),rfl,q _ I.fresh⟩
def rRep:R2:=fun x y H Q=>∃l k xs,x = .ref l/\y = .int k/\H l=some (.lst xs)/\-(2^63)<=k/\k<2^63/\xs.length*k.toNat<=sizeLine /\
 ∀p,H p=none->Q (.ref p) (upd H p (.lst (List.replicate k.toNat xs).flatten))
theorem aB {α:Type}(xs:List α)(k:Nat):(List.replicate k xs).flatten.length=k*xs.length:=by
 induction k with
 | zero=>simp
 | succ k ih=>rw[List.replicate_succ,List.flatten_cons,List.length_append,ih,Nat.succ_mul,Nat.add_comm]
theorem WB:OpR X (binaryOp .Mult) rRep:=by
 intro pins s σ H x y v u Q I rx ry h;obtain⟨l,k,xs,rfl,rfl,hH,h1,h2,hz,q⟩:=h;cases rx;obtain⟨t,rfl⟩:=ry;obtain⟨z,its,n,r,hl,e⟩:=I.lstM hH;have hlen:its.toArray.size*k.toNat<=sizeLine:=by rw[List.size_toArray,<-hl];exact hz
 have hcap:¬its.toArray.size*k.toNat>(2^63-1)/8:=by
   have:(sizeLine:Nat)<=(2^63-1)/8:=by decide
   omega
 have hfit:¬(!Builtin.List.listFitsIndex k)=true:=by
   rw[fitsIndex_both h1 h2];exact Bool.false_ne_true
 have hlong:¬Builtin.List.listTooLong (its.toArray.size*k.toNat)=true:=by
   rw[WA hlen];exact Bool.false_ne_true
 have hnew:List.foldl (fun x1 x2=>x1++x2) #[] (List.replicate (if its.toArray.isEmpty=true then 0 else k.toNat) its.toArray)=(List.replicate k.toNat its).flatten.toArray:=by
   have f0:∀m:Nat,List.foldl (fun x1 x2=>x1++x2) #[] (List.replicate m its.toArray)=(List.replicate m its).flatten.toArray:=fun m=>by
     have:=Wz its m [];rw[List.nil_append] at this;exact this
   rw[f0];cases its with
   | nil=>simp
   | cons a r'=>rw[if_neg (by simp)]
 refine wpAny_binaryOp_repeat_ref (T:="list") (U:="int") (by decide) ⟨_,e,rfl⟩ (fun s'=>typeIs_int s' k t) noFill_list_mul F.fills_int_mul F.slot_int_rmul repeat_list F.slot_int_index.lookup
   (call_meets F.slot_int_rmul (typeIs_int s k t) F.entry_int_rmul (F.args_int_rmul_2 _ _) (int___rmul___int_list k t l its.toArray n)
     ⟨e,rfl,⟨_,e,rfl⟩,call_meets F.slot_list_mul ⟨_,e,rfl⟩ F.entry_list_mul (F.args_list_mul_2 _ _) (AutoListH.list___mul___list_int_3 l its.toArray n k t hfit hcap hlong) ⟨e,?_⟩⟩)
 rw[hnew];exact⟨.ref _,_,I.lnew (t':=s.toks) (r.rep k.toNat) (by rw[aB,Nat.mul_comm];exact hz),rfl,q _ I.fresh⟩
end
section
variable {prog:Program}{w:World}{A:Around}{E:Value->Shared->Prop}{s:Shared}
end
section
variable {X:Cx}
end
end L2
namespace Att
open PySem PySem.W PySem.Calls PyProof.Rows
theorem aC {P:Params}{h:Heap}:∀(ns:List Int) (vs:List Value),WellAll P h vs (ns.map WData.int)->IntsAre vs ns:=by
 intro ns
 induction ns with
 | nil =>
   intro vs w;rw[List.map_nil] at w;cases w;exact .nil
 | cons n ns ih =>
   intro vs w;rw[List.map_cons] at w;cases w with
   | cons a b =>
     cases a;exact .cons _ _ (ih _ b)
theorem aD {l:OpenLaw}{n:Nat}(hn:l.most=some n){P:Params}{h:Heap}{args:List WData}{vals:List Value}
   (hpre:l.row.toRowW.claim.pre args=true) (hwl:WellAll P h vals args) :
   ∃a vs ns,vals=[Value.ref a]/\args=[WData.list (ns.map WData.int)]/\h.get? a=some { cls:=.type "list",data:=.seq vs.toArray }/\IntsAre vs ns/\ns.length<=n:=by
 have hsh:WShape.hasAll [] args [.list .int]=true:=(pre_splitW hpre).1;have hc:l.pre.holds [] { args:=args }=true:=(pre_splitW hpre).2;obtain⟨d,r,rfl,h1,h2⟩:=hasAllW_cons hsh;obtain rfl:=hasAllW_nil h2;obtain⟨xs,rfl,h3⟩:=hasW_list h1;obtain⟨ns,rfl⟩:=items_int h3;have hlen:ns.length<=n:=by
   unfold OpenLaw.pre at hc;have h4:(WTm.not (.lt (.lit (.int (n:Int))) (.len (.arg 0)))).holds [] { args:=[.list (ns.map .int)] }=true:=by
     have h4:=(holds_andW hc).1;rw[hn] at h4;exact h4
   have h5:=condW_of h4 (w_not (w_lt w_lit (w_len_list (w_arg rfl))));rw[List.length_map] at h5;refine Nat.le_of_not_lt fun q=>?_;have q':(n:Int)<((ns.length:Nat):Int):=by omega
   first
     | (rw[decide_eq_true q'] at h5;exact absurd h5 (by decide))
     | (simp at h5;omega)
 cases hwl with
 | cons w1 w2 =>
   cases w2;cases w1 with
   | list ho hall=>exact⟨_,_,ns,rfl,rfl,ho,aC ns _ hall,hlen⟩
theorem aE (l:OpenLaw)(args:List WData):l.row.toRowW.claim.post args (.bool true) args=true :=
 postW_of (r:=l.row.toRowW) (X:=(true==true))
   (show WShape.has [] (.bool true) .bool=true by first | rfl | decide | simp [WShape.has,WShape.arms,WShape.armsAll])
   (show (WTm.eq .res (.lit (.bool true))).value [] { args:=args,res:=some (.bool true),after:=args }=some (.bool (true==true)) from w_eq_bool (w_res rfl) w_lit) rfl
theorem attach_call {l:OpenLaw}{n:Nat}{q:Program}{loose:List Str}{XP:(Str->Option Value)->Heap->Prop}{YP:World->Heap->Prop}{d:DefRec}
   (hn:l.most=some n) (hdf:d.params.defaults=[])
   (call:∀(w:World) (s₀ s₁:Shared) (mg mb:Str->Option Value) (fa:Addr) (o:Obj) (pm cd doc:Value) (a:Addr) (vs:List Value) (ns:List Int),
     Ground q loose [] XP w s₀ mg mb s₁.heap->YP w s₁.heap ->
     s₁.heap.get? fa=some o->o.data = .func (docDef d.name d.params d.body d.scope pm cd doc)->s₁.heap.CodeRec cd d.name->mg d.name=some (.ref fa) ->
     s₁.heap.get? a=some { cls:=.type "list",data:=.seq vs.toArray }->IntsAre vs ns->ns.length<=n->s₁.gens=#[] ->
     codeAny (model l.prog w) callerA (.call (.ref fa) ⟨[.ref a],[]⟩) (fun r s'=>r = .ok (.ret (.bool true))/\OldK s₁.heap s'.heap/\s'.os=s₁.os/\AllBare s'.gens) s₁) :
   WalkO q loose XP YP l.row.toRowW d [] (fun f vs=>PySem.call f vs):=by
 intro w s₀ s₁ mg mb G Y fa o pm cd doc dV kV ho hd hcd hD hmg hg args vals as hpre hlay hrd hwl hlo;obtain rfl:dV = .none:=Dflts.none hD hdf;obtain rfl:kV = .none:=Dflts.noKw hD;obtain⟨a,vs,ns,rfl,rfl,hobj,hints,hlen⟩:=aD hn hpre hwl;refine enter_call (codeAny_mono (call w s₀ s₁ mg mb fa o pm cd doc a vs ns G Y ho (fd_plain hd) hcd hmg hobj hints hlen hg) fun r s' hq=>?_);obtain⟨rfl,h2,h3,h4⟩:=hq;exact⟨.inl ⟨.bool true,.bool true,[],rfl,fun _=>rfl,.bool true,aE l _,fun _=>⟨List.Pairwise.nil,fun _ hm=>(nomatch hm)⟩⟩,h2,h3,h4⟩
section
variable {prog:Program}{w:World}{A:Around}{E:Value->Shared->Prop}{s:Shared}{K:Frag}
end
end Att
namespace L2
open PySem PySem.Spec PyProof.Rows
theorem Ji:∀{vs:List Value} {ns:List Int},IntsAre vs ns->Vals (ns.map V.int) vs
 | _,_,.nil=>.nil
 | _,_,.cons n t h=>.cons ⟨t,rfl⟩ (Ji h)
def Only (H:Hp):Prop:=∀b,H b=none\/∃o xs,H b=some (.frz o (.lst xs))
theorem aF {P:Program}{w:World}{K:PySem.W.Frag}{mg mb:Str->Option Value}{CX:CXT}{k:Nat}{fa a:Addr}{fd:FuncData}{x:Str}{sp:Sp}{s₁:Shared}{vs:List Value}{ns:List Int}
   (KX:K.In s₁.heap) (hns:s₁.heap.Ns mainGlobals mg) (hb:s₁.heap.Ns builtinsNs mb) (hbb:∀x:Str,x≠"__name__"->mb x=bootBuiltins x) (hlim:s₁.heap.NoLimit) (hg:s₁.gens=#[])
   (ha:s₁.heap.get? a=some { cls:=.type "list",data:=.seq vs.toArray }) (hi:IntsAre vs ns) (hl:ns.length<=sizeLine) (hr:Room k callerA)
   (F:∀base:Heap,K.In base->base.Ns mainGlobals mg->FnOk P w K mg base CX k fa fd [x] sp) (hbind:∀(s:Shared) (u:Value),BindsTo s fd ⟨[u],[]⟩ [(x,u)])
   (hsp:∀H:Hp,Only H->SqL K H a (ns.map V.int)->sp [.ref a] H (fun v _=>v = .bl true) fun _ _ _=>False)
   (hCX:∀H e s',CX [] H s₁ (fun _ _ _=>False) e s'->False) :
   codeAny (model P w) callerA (.call (.ref fa) ⟨[.ref a],[]⟩) (fun r s'=>r = .ok (.ret (.bool true))/\OldK s₁.heap s'.heap/\s'.os=s₁.os/\AllBare s'.gens) s₁:=by
 have rv:=Ji hi;have lenV:=hi.length
 -- from an abstract heap in which nothing but the script may be tracked
 have core:∀H:Hp,Only H->SqL K H a (ns.map V.int)->HOk P w H s₁.heap->(∀b,H b≠none->b=a)->(H a≠none->K.lookup a=none) ->
     codeAny (model P w) callerA (.call (.ref fa) ⟨[.ref a],[]⟩) (fun r s'=>r = .ok (.ret (.bool true))/\OldK s₁.heap s'.heap/\s'.os=s₁.os/\AllBare s'.gens) s₁:=by
   intro H hO hS hok hA hK;have base_of:∀{b:Addr} {o:Obj},s₁.heap.get? b=some o->H b=none->(hidT s₁.heap H).get? b=some o:=fun e n=>Zz e n;have noA:∀{b:Addr} {o:Obj} {es:Array DictEntry} {ep:Nat},s₁.heap.get? b=some o->o.data = .dict es ep->H b=none:=fun {b o es ep} e d=>by
     cases q:H b with
     | none=>rfl
     | some u =>
       have e':b=a:=hA b (by rw[q];simp);subst e';rw[ha] at e;cases e;have d':Data.seq vs.toArray _=Data.dict es ep:=d;cases d'
   have nsK:∀{b:Addr} {m:Str->Option Value},s₁.heap.Ns b m->(hidT s₁.heap H).Ns b m:=fun {b m} ⟨o,es,ep,e,d,r⟩=>⟨o,es,ep,base_of e (noA e d),d,r⟩
   have hKb:K.In (hidT s₁.heap H):=fun b o e=>base_of (KX b o e) (by
     cases q:H b with
     | none=>rfl
     | some u =>
       have e':b=a:=hA b (by rw[q];simp);subst e';rw[hK (by rw[q];simp)] at e;cases e)
   have hM:Mod K mg (hidT s₁.heap H):=⟨hKb,nsK hns,⟨mb,nsK hb,hbb⟩,let ⟨mc,h1,h2⟩:=hlim;⟨mc,nsK h1,h2⟩⟩
   have e0:Env0 P w K mg (hidT s₁.heap H) callerA [] s₁ H:=⟨rfl,hM,fun b o e=>ZA e,Nat.le_of_eq (Zy _ _),trivial,fun b hb=>absurd (show b∈([]:List Addr) from hb) (by simp),hok,.of_eq hg⟩
   refine codeAny_mono ((F _ hKb (nsK hns)).run callerA [] s₁ H ⟨[.ref a],[]⟩ [.ref a] [.ref a] _ _ hr e0 (hbind s₁ (.ref a)) (.cons rfl .nil) (hsp H hO hS)) fun r s' h=>?_;cases r with
   | error e=>exact(hCX H e s' h).elim
   | ok fl =>
     cases fl with
     | next=>exact False.elim h
     | brk=>exact False.elim h
     | cont=>exact False.elim h
     | ret u =>
       obtain⟨v,H',os,bare,un,hok',r',q⟩:=h;have q':v = .bl true:=q;subst q';obtain rfl:u=Value.bool true:=r';refine⟨rfl,OldK.of_keep fun b o e=>?_,os,bare⟩;cases q:H b with
       | none=>exact un.keep b o e q (by intro z;exact absurd (show b∈([]:List Addr) from z) (by simp)) (by simp)
       | some u =>
         rcases hO b with z | ⟨ob,xs,z⟩
         . rw[q] at z;cases z
         . have z2:=un.frzs b ob _ z;obtain⟨e1,_⟩:=hok b _ z;obtain⟨e2,_⟩:=hok' b _ z2;rw[e] at e1;cases e1;exact e2
 cases hk:K.lookup a with
 | some o =>
   -- the script is one of the module's own objects
   have e:=KX a o hk;rw[ha] at e;cases e;refine core (fun _=>none) (fun _=>.inl rfl) (.inr ⟨_,vs.toArray,_,hk,rfl,rfl,rfl,by rw[List.size_toArray,lenV];exact hl,by simpa using rv⟩) (fun b u z=>by have z':(none:Option HO)=some u:=z;cases z') (fun b z=>absurd rfl z) fun z=>absurd rfl z
 | none =>
   refine core (fun b=>if b=a then some (.frz { cls:=.type "list",data:=.seq vs.toArray } (.lst (ns.map V.int))) else none) (fun b=>?_) (.inl (.inr ⟨{ cls:=.type "list",data:=.seq vs.toArray },if_pos rfl⟩)) (fun b u z=>?_) (fun b z=>?_) fun _=>hk
   . by_cases hb:b=a
     . exact .inr ⟨_,_,if_pos hb⟩
     . exact .inl (if_neg hb)
   . by_cases hb:b=a
     . have z':=(if_pos hb).symm.trans z;cases z';subst hb;exact⟨ha,by rw[List.length_map];exact hl,vs,_,rv,ha⟩
     . have z':=(if_neg hb).symm.trans z;cases z'
   . by_cases hb:b=a
     . exact hb
     . exact absurd (if_neg hb) z
end L2
namespace L2
open PySem PySem.Spec PyProof.Rows
theorem walk_of {l:PySem.W.OpenLaw}{n k:Nat}{q:Program}{loose:List Str}{XP:(Str->Option Value)->Heap->Prop}{YP:World->Heap->Prop}{d:DefRec}{K:Params->PySem.W.Frag}{CX:World->CXT}{sp:World->Sp}{x:Str}
   (hn:l.most=some n) (hn2:n<=sizeLine) (hdf:d.params.defaults=[]) (hr:Room k callerA)
   (hY:∀(w:World) (h:Heap),YP w h->(K w.params).In h)
   (F:∀(w:World) (mg:Str->Option Value) (fa:Addr) (h:Heap),(K w.params).In h->h.Ns mainGlobals mg->mg d.name=some (.ref fa) ->
     ∃fd:FuncData,(∀(s:Shared) (u:Value),BindsTo s fd ⟨[u],[]⟩ [(x,u)]) /\
       ∀base:Heap,(K w.params).In base->base.Ns mainGlobals mg->FnOk l.prog w (K w.params) mg base (CX w) k fa fd [x] (sp w))
   (hsp:∀(w:World) (H:Hp) (a:Addr) (ns:List Int),ns.length<=n->Only H->SqL (K w.params) H a (ns.map V.int)->sp w [.ref a] H (fun v _=>v = .bl true) fun _ _ _=>False)
   (hCX:∀(w:World) (H:Hp) (s:Shared) (e:Value) (s':Shared),CX w [] H s (fun _ _ _=>False) e s'->False) :
   PySem.W.WalkO q loose XP YP l.row.toRowW d [] (fun f vs=>PySem.call f vs):=by
 refine Att.attach_call hn hdf fun w s₀ s₁ mg mb fa o pm cd doc a vs ns G Y ho hd hcd hmg hobj hints hlen hg=>?_;have KX:=hY w _ Y;obtain⟨fd,hb,hF⟩:=F w mg fa _ KX G.T.g hmg;exact aF KX G.T.g G.T.b G.T.builtins G.T.nolimit hg hobj hints (Nat.le_trans hlen hn2) hr hF hb (fun H hO hS=>hsp w H a ns hlen hO hS) fun H e s'=>hCX w H s₁ e s'
end L2
namespace L2
open PySem PySem.Spec PyProof.Rows
abbrev CX0:CXT:=fun _ _ _ _ _ _=>False
abbrev E0:XK:=fun _ _ _=>False
structure Fun (K:PySem.W.Frag)(x qual:Str)(st:Stmt)(f:Addr)(fd:FuncData):Prop where
 ex:∃(oc:Value) (od:Option Addr) (kV doc pm:Value) (an:Option Addr) (cdv ct:Value) (osl:Array (Option Value)),
   fd=fnOf x qual (A7 st) (AX st) (An st) .none kV doc pm an cdv ct/\K.lookup f=some ⟨oc,od,.func fd,osl⟩/\codeIn K cdv qual=true
 kp:keepIn K (.ref f)=true
section
variable {P:Program}{w:World}{K:PySem.W.Frag}{mg:Str->Option Value}{base:Heap}
theorem Fun.ok {x qual:Str}{st:Stmt}{f:Addr}{fd:FuncData}{N ps:List Str}{k:Nat}{sp:Sp}(F:Fun K x qual st f fd)(S:FnScope N ps (An st))(len:∀vs H Q E,sp vs H Q E->vs.length=ps.length)
   (hbody:∀(cdv:Value) (A:Around) (outer:List Env) (s:Shared) (H:Hp) (vs:List V) (Q:VK) (E:XK),Room k (A.deeper (envOfC qual (An st) s.heap.objs.size f cdv))->sp vs H Q E ->
     ∃t,PSs (cxOf CX0 P w K mg base N qual (An st) f cdv A outer s H E).nox (AX st) t/\t { nx:=fun _ H'=>Q .non H',rt:=Q } (start N vs) H):FnOk P w K mg base CX0 (k+1) f fd ps sp:=by
 obtain⟨oc,od,kV,doc,pm,an,cdv,ct,osl,rfl,lk,hcd⟩:=F.ex;refine P4 lk hcd S len fun A outer s H vs Q E hr hsp=>?_;obtain⟨t,h,q⟩:=hbody cdv A outer s H vs Q E hr hsp;exact⟨t,h.nox,q⟩
theorem Fun.binds {x qual:Str}{st:Stmt}{f:Addr}{fd:FuncData}{ps:List Str}(F:Fun K x qual st f fd)
   (h:∀(kV doc pm:Value) (an:Option Addr) (cdv ct:Value) (us:List Value),us.length=ps.length->bindArgs (fnOf x qual (A7 st) (AX st) (An st) .none kV doc pm an cdv ct) ⟨us,[]⟩=pure (ps.zip us)):Bi K fd ps []:=by
 obtain⟨oc,od,kV,doc,pm,an,cdv,ct,osl,rfl,lk,hcd⟩:=F.ex;exact .all (h kV doc pm an cdv ct)
theorem Ba {x qual:Str}{st:Stmt}{f:Addr}{oc:Value}{od an:Option Addr}{osl:Array (Option Value)}{kV doc pm cdv ct:Value}(l:K.lookup f=some ⟨oc,od,.func (fnOf x qual (A7 st) (AX st) (An st) .none kV doc pm an cdv ct),osl⟩)
   (c:codeIn K cdv qual=true) (k:keepIn K (.ref f)=true):Fun K x qual st f (fnOf x qual (A7 st) (AX st) (An st) .none kV doc pm an cdv ct):=⟨⟨oc,od,kV,doc,pm,an,cdv,ct,osl,rfl,l,c⟩,k⟩
end
theorem small1000 {n:Nat}(h:n<=1000):n<sizeLine:=Nat.lt_of_le_of_lt h (by decide)
section
variable {X:Cx}
theorem pv (i:Nat){x:Str}{pos:Pos}(hN:X.N[i]?=some x:=by rfl)(hv:Vis X.env.scope x:=by first | exact Or.inl rfl | exact Or.inr (Or.inl rfl) | exact Or.inr (Or.inr rfl))(hd:(x==("__debug__":Str))=false:=by decide)
   (hcd:(x==("__classdict__":Str))=false:=by decide):PE X (.Name x pos) (tVar i):=pe_var hN hv hd hcd
end
theorem iteF {A B:Prop}(h:B):if false=true then A else B:=by
 rw[if_neg Bool.false_ne_true];exact h
theorem iteT {A B:Prop}(h:A):if true=true then A else B:=by
 rw[if_pos rfl];exact h
def Same (H H':Hp):Prop:=∀b o,H b=some o->H' b=some o
theorem Same.refl (H:Hp):Same H H:=fun _ _ h=>h
theorem Same.trans {H H1 H2:Hp}(a:Same H H1)(b:Same H1 H2):Same H H2:=fun c o h=>b c o (a c o h)
theorem Same.free {H H':Hp}(e:Same H H'){l:Addr}(h:H' l=Option.none):H l=Option.none:=by
 cases q:H l with
 | none=>rfl
 | some o =>
   rw[e l o q] at h;cases h
theorem Same.seq {K:PySem.W.Frag}{H H':Hp}{a:Addr}{xs:List V}(e:Same H H')(h:SqL K H a xs):SqL K H' a xs:=by
 rcases h with (h | ⟨o,h⟩) | h
 . exact .inl (.inl (e _ _ h))
 . exact .inl (.inr ⟨o,e _ _ h⟩)
 . exact .inr h
end L2
set_option Elab.async false
set_option linter.all false
set_option maxRecDepth 100000
set_option maxHeartbeats 4000000
namespace Stow
structure Pc where
 a:Int
 l:Int
 v:Bool
 deriving DecidableEq
def mkOf (l:Int)(v:Bool):Int:=l*2+(if v then 1 else 0)
def Pc.mk' (p:Pc):Int:=mkOf p.l p.v
def Ag:Int->List Pc->Int->Prop
 | s,[],e=>s=e
 | s,p::r,e=>p.a=s/\1<=p.l/\(p.v=true->3<=p.l)/\Ag (s+p.l) r e
theorem Ag.le:∀{ps:List Pc} {s e:Int},Ag s ps e->s+ps.length<=e
 | [],s,e,h=>by have h:s=e:=h;simp [h]
 | p::r,s,e,h=>by
   obtain⟨_,h1,_,h2⟩:=h
   have:=Ag.le h2
   simp only [List.length_cons];omega
theorem Ag.app:∀{ps qs:List Pc} {s m e:Int},Ag s ps m->Ag m qs e->Ag s (ps++qs) e
 | [],_,s,m,e,h,k=>by have h:s=m:=h;subst h;exact k
 | p::r,qs,s,m,e,h,k=>by
   obtain⟨h0,h1,h2,h3⟩:=h
   exact⟨h0,h1,h2,Ag.app h3 k⟩
theorem Ag.one {p:Pc}(h1:1<=p.l)(h3:p.v=true->3<=p.l):Ag p.a [p] (p.a+p.l):=⟨rfl,h1,h3,rfl⟩
theorem Ag.snoc {ps:List Pc}{s:Int}{p:Pc}(h:Ag s ps p.a)(h1:1<=p.l)(h3:p.v=true->3<=p.l):Ag s (ps++[p]) (p.a+p.l):=h.app (.one h1 h3)
theorem Ag.mem:∀{ps:List Pc} {s e:Int},Ag s ps e->∀p∈ps,s<=p.a/\1<=p.l/\(p.v=true->3<=p.l)/\p.a+p.l<=e
 | [],_,_,_,p,hp=>by cases hp
 | q::r,s,e,h,p,hp=>by
   obtain⟨h0,h1,h2,h3⟩:=h
   rcases List.mem_cons.mp hp with rfl | hp
   . have:=h3.le
     exact⟨by omega,h1,h2,by omega⟩
   . obtain⟨a,b,c,d⟩:=Ag.mem h3 p hp
     exact⟨by omega,b,c,d⟩
def Ao (cs:List Int)(ps:List Pc):Prop:=∀p∈ps,cs[p.a.toNat]?=some p.mk'/\cs[(p.a+p.l-1).toNat]?=some p.mk'
theorem Ao.nil (cs:List Int):Ao cs []:=fun p hp=>by cases hp
theorem Ao.snoc {cs ext:List Int}{ps:List Pc}{p:Pc}(hc:Ag 0 ps p.a)(hl:(cs.length:Int)=p.a)(h1:1<=p.l)(he:(ext.length:Int)=p.l)(m:Ao cs ps) :
   Ao ((((cs++ext).set p.a.toNat p.mk')).set (p.a+p.l-1).toNat p.mk') (ps++[p]):=by
 intro q hq;have h0:=hc.le;rcases List.mem_append.mp hq with hq | hq
 . obtain⟨a1,a2,a3,a4⟩:=hc.mem q hq;obtain⟨b1,b2⟩:=m q hq;have key:∀k:Nat,(k:Int)<p.a->∀z,cs[k]?=some z->((((cs++ext).set p.a.toNat p.mk')).set (p.a+p.l-1).toNat p.mk')[k]?=some z:=by
     intro k hk z hz;rw[List.getElem?_set_ne (by omega),List.getElem?_set_ne (by omega),List.getElem?_append_left (by omega)];exact hz
   exact⟨key _ (by omega) _ b1,key _ (by omega) _ b2⟩
 . have e:q=p:=by simpa using hq
   subst e;have len:(cs++ext).length=cs.length+ext.length:=List.length_append;constructor
   . by_cases h:(q.a+q.l-1).toNat=q.a.toNat
     . rw[h,List.getElem?_set_self (by simp;omega)]
     . rw[List.getElem?_set_ne (by omega),List.getElem?_set_self (by simp;omega)]
   . rw[List.getElem?_set_self (by simp;omega)]
theorem HU (l:Int)(v:Bool):mkOf l v/2=l:=by unfold mkOf;split <;> omega
theorem Ny (l:Int)(v:Bool):decide (mkOf l v%2=1)=v:=by
 unfold mkOf;cases v
 . exact decide_eq_false (by simp)
 . exact decide_eq_true (by simp)
def BZ (ns:List Int)(k:Int):Bool :=
 if ns.getD k.toNat 0/2<1\/(ns.length:Int)<k+ns.getD k.toNat 0/2 then false else decide (3<=ns.getD k.toNat 0/2)||!decide (ns.getD k.toNat 0%2=1)
def Bp (ns:List Int)(k:Int):Option Int :=
 if BZ ns k=true then (if ns.getD (k+ns.getD k.toNat 0/2-1).toNat 0=ns.getD k.toNat 0 then none else some (k+ns.getD k.toNat 0/2-1)) else some k
theorem Jj {ns:List Int}{k:Nat}{x:Int}(h:ns[k]?=some x):ns.getD k 0=x:=by rw[List.getD_eq_getElem?_getD,h];rfl
theorem aG {ns:List Int}{p:Pc}(h1:1<=p.l)(h3:p.v=true->3<=p.l)(hl:p.a+p.l<=ns.length)(m1:ns[p.a.toNat]?=some p.mk')(m2:ns[(p.a+p.l-1).toNat]?=some p.mk'):Bp ns p.a=none:=by
 have e1:=Jj m1;have e2:=Jj m2;have e3:ns.getD p.a.toNat 0/2=p.l:=by rw[e1];exact HU _ _
 have hc:BZ ns p.a=true:=by
   unfold BZ;rw[e3,if_neg (by omega),e1];show (decide (3<=p.l)||!decide (mkOf p.l p.v%2=1))=true;rw[Ny];cases hv:p.v with
   | false=>simp
   | true=>simp [h3 hv]
 unfold Bp;rw[if_pos hc,e3,e2,e1,if_pos rfl]
end Stow
namespace Stow
theorem HV (ns:List Int)(k:Int):BZ ns k=true↔(1<=ns.getD k.toNat 0/2/\k+ns.getD k.toNat 0/2<=ns.length/\(ns.getD k.toNat 0%2=1->3<=ns.getD k.toNat 0/2)):=by
 unfold BZ;by_cases h:ns.getD k.toNat 0/2<1\/(ns.length:Int)<k+ns.getD k.toNat 0/2
 . rw[if_pos h];constructor
   . intro z;cases z
   . intro z;omega
 . rw[if_neg h];simp only [Bool.or_eq_true,decide_eq_true_eq,Bool.not_eq_true',decide_eq_false_iff_not];constructor
   . intro z;refine⟨by omega,by omega,fun w=>?_⟩;rcases z with z | z
     . exact z
     . exact absurd w z
   . rintro⟨_,_,z⟩;by_cases w:ns.getD k.toNat 0%2=1
     . exact .inl (z w)
     . exact .inr w
def pcAt (ns:List Int)(k:Int):Pc:=⟨k,ns.getD k.toNat 0/2,decide (ns.getD k.toNat 0%2=1)⟩
theorem WC {ns:List Int}{k:Int}(h:Bp ns k=none):BZ ns k=true:=by
 unfold Bp at h
 split at h
 . assumption
 . cases h
theorem Jk {ns:List Int}{k:Int}(h:Bp ns k=none):1<=ns.getD k.toNat 0/2/\k+ns.getD k.toNat 0/2<=ns.length/\(ns.getD k.toNat 0%2=1->3<=ns.getD k.toNat 0/2):=(HV ns k).mp (WC h)
theorem WD {ns:List Int}{k:Int}(h:BZ ns k=false):Bp ns k=some k:=by
 unfold Bp;rw[if_neg (by rw[h];exact Bool.false_ne_true)]
theorem WE {ns:List Int}{k:Int}(h:BZ ns k=true)(h2:ns.getD (k+ns.getD k.toNat 0/2-1).toNat 0≠ns.getD k.toNat 0):Bp ns k=some (k+ns.getD k.toNat 0/2-1):=by
 unfold Bp;rw[if_pos h,if_neg h2]
theorem WF {ns:List Int}{k:Int}(h:BZ ns k=true)(h2:ns.getD (k+ns.getD k.toNat 0/2-1).toNat 0=ns.getD k.toNat 0):Bp ns k=none:=by
 unfold Bp;rw[if_pos h,if_pos h2]
def AO (ns:List Int)(k:Int):List Pc×Option Int :=
 if h:k<ns.length/\Bp ns k=none then
   (pcAt ns k::(AO ns (k+ns.getD k.toNat 0/2)).1,(AO ns (k+ns.getD k.toNat 0/2)).2)
 else ([],if k<ns.length then Bp ns k else none)
termination_by (ns.length-k).toNat
decreasing_by
 all_goals
   have:=Jk h.2
   omega
theorem Jl {ns:List Int}{k:Int}(h:¬k<ns.length):AO ns k=([],none):=by
 rw[AO,dif_neg (fun z=>h z.1),if_neg h]
theorem Nz {ns:List Int}{k b:Int}(h:k<ns.length)(hb:Bp ns k=some b):AO ns k=([],some b):=by
 rw[AO,dif_neg (fun z=>by rw[hb] at z;cases z.2),if_pos h,hb]
theorem Jm {ns:List Int}{k:Int}(h:k<ns.length)(hb:Bp ns k=none):AO ns k=(pcAt ns k::(AO ns (k+ns.getD k.toNat 0/2)).1,(AO ns (k+ns.getD k.toNat 0/2)).2):=by
 rw[AO,dif_pos ⟨h,hb⟩]
def WPre (ns:List Int)(ds:List Pc)(k:Int):Prop:=AO ns 0=(ds++(AO ns k).1,(AO ns k).2)
theorem WPre.nil (ns:List Int):WPre ns [] 0:=by unfold WPre;simp
theorem WPre.step {ns:List Int}{ds:List Pc}{k:Int}(w:WPre ns ds k)(h:k<ns.length)(hb:Bp ns k=none):WPre ns (ds++[pcAt ns k]) (k+ns.getD k.toNat 0/2):=by
 unfold WPre at *;rw[w,Jm h hb];simp
theorem WPre.fin {ns:List Int}{ds:List Pc}{k:Int}(w:WPre ns ds k)(h:¬k<ns.length):AO ns 0=(ds,none):=by
 unfold WPre at w;rw[w,Jl h];simp
theorem WPre.bad {ns:List Int}{ds:List Pc}{k b:Int}(w:WPre ns ds k)(h:k<ns.length)(hb:Bp ns k=some b):AO ns 0=(ds,some b):=by
 unfold WPre at w;rw[w,Nz h hb];simp
end Stow
namespace Stow
theorem WG (ns:List Int):∀(n:Nat) (k:Int),0<=k->(ns.length-k).toNat<=n->((AO ns k).1.length:Int)<=n
 | n,k,h0,hn=>by
   by_cases h:k<ns.length
   . cases hb:Bp ns k with
     | some b=>rw[Nz h hb];simp
     | none =>
       obtain⟨b1,b2,_⟩:=Jk hb
       rw[Jm h hb]
       cases n with
       | zero=>omega
       | succ n =>
         have:=WG ns n (k+ns.getD k.toNat 0/2) (by omega) (by omega)
         simp only [List.length_cons]
         omega
   . rw[Jl h];simp
 termination_by n=>n
end Stow
namespace Stow
theorem aH {cs:List Int}{p:Pc}(m:cs[p.a.toNat]?=some p.mk'):pcAt cs p.a=p:=by
 have e:=Jj m;unfold pcAt;rw[e];show (⟨p.a,mkOf p.l p.v/2,decide (mkOf p.l p.v%2=1)⟩:Pc)=p;rw[HU,Ny]
theorem BB {cs:List Int}:∀{ps:List Pc} {k:Int},Ag k ps cs.length->Ao cs ps->AO cs k=(ps,none)
 | [],k,h,_=>by
   have h:k=cs.length:=h
   exact Jl (by omega)
 | p::r,k,h,m=>by
   obtain⟨ea,h1,h3,h4⟩:=h
   have le:=h4.le
   obtain⟨m1,m2⟩:=m p List.mem_cons_self
   have bn:=aG h1 h3 (by omega) m1 m2
   rw[ea] at bn
   have e2:cs.getD k.toNat 0/2=p.l:=by rw[<-ea,Jj m1];exact HU _ _
   have ih:=BB (cs:=cs) h4 fun q hq=>m q (List.mem_cons_of_mem _ hq)
   rw[Jm (by omega) bn,e2,ih,<-ea,aH m1]
end Stow
namespace Stow
open PySem L2 PyProof.Rows
structure Def (P:Program)(w:World)(K:PySem.W.Frag)(mg:Str->Option Value)(base:Heap)(x:Str)(k:Nat)(ps:List Str)(sp:Sp):Prop where
 ex:∃(f:Addr) (fd:FuncData),FnOk P w K mg base CX0 k f fd ps sp/\mg x=some (.ref f)/\keepIn K (.ref f)=true/\Bi K fd ps []
structure Src (K:PySem.W.Frag)(mg:Str->Option Value)(x:Str)(st:Stmt):Prop where
 ex:∃(f:Addr) (fd:FuncData),Fun K x x st f fd/\mg x=some (.ref f)
theorem aI {K:PySem.W.Frag}{h:Heap}{mg:Str->Option Value}{x:Str}{st:Stmt}{f:Addr}{oc kV doc pm cdv ct:Value}{od an:Option Addr}{osl:Array (Option Value)}(X:K.In h)(G:h.Ns mainGlobals mg)
   (a:nsIn K mainGlobals x=some (some (.ref f))) (l:K.lookup f=some ⟨oc,od,.func (fnOf x x (A7 st) (AX st) (An st) .none kV doc pm an cdv ct),osl⟩)
   (c:codeIn K cdv x=true) (k:keepIn K (.ref f)=true):Src K mg x st:=⟨f,_,Ba l c k,mg_of X G a⟩
section
variable {P:Program}{w:World}{K:PySem.W.Frag}{mg:Str->Option Value}{base:Heap}
theorem Src.ok {x:Str}{st:Stmt}{N ps:List Str}{k:Nat}{sp:Sp}(S:Src K mg x st)(sc:FnScope N ps (An st))
   (hb:∀(kV doc pm:Value) (an:Option Addr) (cdv ct:Value) (us:List Value),us.length=ps.length->bindArgs (fnOf x x (A7 st) (AX st) (An st) .none kV doc pm an cdv ct) ⟨us,[]⟩=pure (ps.zip us))
   (len:∀vs H Q E,sp vs H Q E->vs.length=ps.length)
   (hbody:∀(f:Addr) (cdv:Value) (A:Around) (outer:List Env) (s:Shared) (H:Hp) (vs:List V) (Q:VK) (E:XK),Room k (A.deeper (envOfC x (An st) s.heap.objs.size f cdv))->sp vs H Q E ->
     ∃t,PSs (cxOf CX0 P w K mg base N x (An st) f cdv A outer s H E).nox (AX st) t/\t { nx:=fun _ H'=>Q .non H',rt:=Q } (start N vs) H):Def P w K mg base x (k+1) ps sp:=by
 obtain⟨f,fd,F,hm⟩:=S.ex;exact⟨f,fd,F.ok sc len (hbody f),hm,F.kp,F.binds hb⟩
end
section
variable {X:Cx}
theorem P9:DT X (.builtin "isinstance") (fun xs H Q=>∃x n t b,xs=[x,.ty n]/\TyOf X.K H x t/\kitOne X.K t (.type n)=some b/\Q (.bl b) H):=by
 intro pins s σ H xs us Q I r h;obtain⟨x,n,t,b,rfl,ty,e,q⟩:=h;obtain⟨u,u',rfl,rx,ry⟩:=vals2 r;cases (show u'=Value.type n from ry);exact ZU I rx ty e fun tk=>⟨.bl b,H,I.tok tk,rfl,q⟩
theorem aJ {x:V}(h:DC x=true):eqV x x=true:=by
 cases x <;> first | rfl | (simp [eqV];done) | (exact absurd h Bool.false_ne_true)
end
theorem _root_.L2.Same.new {H:Hp}{p:Addr}{o:HO}(h:H p=none):Same H (upd H p o):=fun b u e=>by
 rw[AE (A8 e h)];exact e
theorem _root_.L2.Same.put {H H':Hp}{p:Addr}{o:HO}(s:Same H H')(h:H p=none):Same H (upd H' p o):=fun b u e=>by
 rw[AE (A8 e h)];exact s b u e
theorem small4000 {n:Nat}(h:n<=4000):n<sizeLine:=Nat.lt_of_le_of_lt h (by decide)
theorem two1:(2:Int)^(1:Int).toNat=2:=by decide
theorem aK (ns:List Int)(k:Int)(h0:0<=k)(h:k<ns.length):atI (ns.map V.int) k=some (.int (ns.getD k.toNat 0)):=by
 have e:(ns.map V.int)[k.toNat]?=some (.int (ns.getD k.toNat 0)):=by
   rw[List.getElem?_map,List.getD_eq_getElem?_getD,List.getElem?_eq_getElem (by omega)];rfl
 have:=Ea e
 rwa [Int.toNat_of_nonneg h0] at this
theorem aL (n:Int):decide (V.int (Builtin.bitAnd n 1)=V.int 1)=decide (n%2=1):=by
 rw[Nr,bitAnd_m1];rfl
section
variable {K:PySem.W.Frag}
theorem kit_ii:kitOne K (.type "int") (.type "int")=some true:=by rfl
theorem kit_ll:kitOne K (.type "list") (.type "list")=some true:=by rfl
theorem kit_ib:kitOne K (.type "int") (.type "bool")=some false:=by
 show (if (Value.type "int"==Value.type "bool")=true then some true else PySem.W.kitCls K (.type "int") (.type "bool"))=some false;rw[if_neg (by decide)];show (if PySem.W.kitMeta "bool"=true then PySem.W.subIn K (.type "int") (.type "bool") else none)=some false;rw[if_pos (by decide +kernel)];show (fastBuiltinMro "int").map (·.contains (Value.type "bool"))=some false;decide +kernel
end
end Stow
namespace Stow
open PySem
structure Noted (fr:List Addr)(e:Addr)(oe:Obj)(fl:Value)(h h':Heap):Prop where
 keep:∀b o,b≠e->b ∉ fr->h.get? b=some o->h'.get? b=some o
 slot:∀b o,b≠e->h.get? b=some o->∃sl,h'.get? b=some { o with slots:=sl }
 ent:∃(T:Addr) (oT:Obj) (ts:Array Value),h.get? T=none/\T≠e/\h'.get? e=some (oe.mapFields (·.setIfInBounds 1 (.ref T)))/\h'.get? T=some oT/\oT.data = .fields ts/\ts[3]?=some fl
section
variable {M:Model}{A:Around}{E:Value->Shared->Prop}{s:Shared}
theorem WH {base:Heap}{env:Env}{outer:List Env}{L e:Addr}{oe:Obj}{vs:Array Value}{head:Value}{had:Bool}{Q:Unit->Shared->Prop}(hfr:A.frames=some (env::outer))(hl:s.heap.FunFrames base (env::outer))(hf:env.frame=some L)
   (he:s.heap.get? e=some oe) (hd:oe.data = .fields vs) (hsz:1<vs.size) (h:∀h',Noted ((env::outer).filterMap (·.frame)) e oe (rawInt L) s.heap h'->Q () { s with heap:=h' }) :
   wpAny M A (do
     let a <-frameOf env
     let pl <-entryPlaceOf L had
     let b <-EntryCells.newEntry head a .none (rawInt L) .none pl
     setField (.ref e) 1 b) Q E s:=by
 have out:e ∉ (env::outer).filterMap (·.frame):=fun z=>by
   obtain⟨_,o,q,nf⟩:=hl.mem z;rw[he] at q;cases q;exact nf vs hd
 refine wpAny_bind (wpAny_frameOf_fun hfr hl hf fun hA sA=>?_);refine wpAny_bind (wpAny_entryPlaceOf fun pl isP=>?_);unfold EntryCells.newEntry newFields;refine wpAny_bind (wpAny_newObj_type ?_ (isP.sizeOk5 _ _ _ _ _));have eA:hA.get? e=some oe:=(sA.2.1 e out).trans he;refine wpAny_setField (Heap.get?_push_of_some _ eA) hd hsz (h _ ?_);have apart:hA.objs.size≠e:=Nat.ne_of_gt (Heap.lt_size eA);have other:∀{ob:Obj} b o,b≠e->hA.get? b=some o->((hA.push ob).update e (Obj.mapFields (·.setIfInBounds 1 (Value.ref hA.objs.size)))).get? b=some o:=fun b o nb q=>by
   rw[Heap.get?_update_other _ _ (fun z=>nb z.symm)];exact Heap.get?_push_of_some _ q
 refine⟨fun b o nb nf q=>other b o nb ((sA.2.1 b nf).trans q),fun b o nb q=>?_,hA.objs.size,_,_,?_,apart,?_,(Heap.get?_update_other _ _ (fun z=>apart z.symm)).trans (Heap.get?_push_size _ rfl),rfl,?_⟩
 . obtain⟨sl,q'⟩:=sA.2.2 b o q;exact⟨sl,other b _ nb q'⟩
 . rw[sA.1];exact Heap.get?_none_of_le (Nat.le_refl _)
 . exact Heap.get?_update_self _ (Heap.get?_push_of_some _ eA) (Obj.isFreed_of_fields (Obj.data_mapFields hd _))
 . first
     | (simp;done)
     | (rcases isP with rfl | ⟨_,_,_,_,_,_,_,rfl⟩ <;> simp)
theorem aM (o:Obj)(f:Array Value->Array Value):(o.mapFields f).dict=o.dict:=by
 obtain⟨c,d,dt,sl⟩:=o;cases dt <;> rfl
end
def Exc (h:Heap)(x:Addr)(cls:Value)(od:Option Addr)(T:Addr)(fl:Value):Prop :=
 ∃(oe:Obj) (vs:Array Value) (oT:Obj) (ts:Array Value),T≠x/\h.get? x=some oe/\oe.cls=cls/\oe.dict=od/\oe.data = .fields vs/\vs[1]?=some (.ref T)/\h.get? T=some oT/\oT.data = .fields ts/\ts[3]?=some fl
def Exc0 (h:Heap)(x:Addr)(cls:Value)(od:Option Addr):Prop:=∃(oe:Obj) (vs:Array Value),h.get? x=some oe/\oe.cls=cls/\oe.dict=od/\oe.data = .fields vs/\vs[1]?=some .none
structure Upto (fr ex:List Addr)(h h':Heap):Prop where
 keep:∀b o,b ∉ ex->b ∉ fr->h.get? b=some o->h'.get? b=some o
 slot:∀b o,b ∉ ex->h.get? b=some o->∃sl,h'.get? b=some { o with slots:=sl }
theorem Upto.trans {fr ex ex':List Addr}{h1 h2 h3:Heap}(a:Upto fr ex h1 h2)(b:Upto fr ex' h2 h3):Upto fr (ex++ex') h1 h3 :=
 ⟨fun c o n1 n2 q=>b.keep c o (fun z=>n1 (List.mem_append_right _ z)) n2 (a.keep c o (fun z=>n1 (List.mem_append_left _ z)) n2 q),fun c o n1 q=>by
   obtain⟨sl,q1⟩:=a.slot c o (fun z=>n1 (List.mem_append_left _ z)) q
   obtain⟨sl',q2⟩:=b.slot c _ (fun z=>n1 (List.mem_append_right _ z)) q1
   exact⟨sl',q2⟩⟩
theorem Upto.update {fr:List Addr}{h:Heap}{a:Addr}{f:Obj->Obj}:Upto fr [a] h (h.update a f) :=
 ⟨fun b o n _ q=>by rw[Heap.get?_update_other _ _ (fun z=>n (by simp [z]))];exact q,fun b o n q=>⟨o.slots,by rw[Heap.get?_update_other _ _ (fun z=>n (by simp [z]))];exact q⟩⟩
section
variable {M:Model}{A:Around}{E:Value->Shared->Prop}{s:Shared}
theorem Jn {fr:List Addr}{x:Addr}{cls:Value}{od:Option Addr}{T:Addr}{fl:Value}{Q:Unit->Shared->Prop}(ht:Exc s.heap x cls od T fl)
   (h:∀h',Upto fr [T] s.heap h'->Exc h' x cls od T .none->Q () { s with heap:=h' }):wpAny M A (setFlight (.ref x) none) Q E s:=by
 obtain⟨oe,vs,oT,ts,ne,ex,hc,hdi,hd,h1,eT,dT,h3⟩:=ht;unfold setFlight;refine wpAny_bind (wpAny_field ex hd h1 ?_);rw[if_pos (show (Value.ref T != Value.none)=true by simp)];have sz:3<ts.size:=(Array.getElem?_eq_some_iff.mp h3).1;refine wpAny_setField eT dT sz (h _ .update ⟨oe,vs,_,_,ne,?_,hc,hdi,hd,h1,Heap.get?_update_self _ eT (Obj.isFreed_of_fields (Obj.data_mapFields dT _)),Obj.data_mapFields dT _,?_⟩)
 . rw[Heap.get?_update_other _ _ ne];exact ex
 . simp [sz]
theorem Noted.exc {fr:List Addr}{x:Addr}{oe:Obj}{vs:Array Value}{fl:Value}{h h':Heap}(n:Noted fr x oe fl h h')(hd:oe.data = .fields vs)(hsz:1<vs.size):∃T,h.get? T=none/\Exc h' x oe.cls oe.dict T fl:=by
 obtain⟨T,oT,ts,nT,ne,ex,eT,dT,h3⟩:=n.ent;exact⟨T,nT,_,_,oT,ts,ne,ex,Obj.cls_mapFields _ _,aM _ _,Obj.data_mapFields hd _,by simp [hsz],eT,dT,h3⟩
theorem Noted.upto {fr:List Addr}{x:Addr}{oe:Obj}{fl:Value}{h h':Heap}(n:Noted fr x oe fl h h'):Upto fr [x] h h' :=
 ⟨fun b o nb nf q=>n.keep b o (fun z=>nb (by simp [z])) nf q,fun b o nb q=>n.slot b o (fun z=>nb (by simp [z])) q⟩
theorem look0 {base:Heap}{env:Env}{outer:List Env}{L x:Addr}{cls:Value}{od:Option Addr}{Q:Unit->Shared->Prop}(hfr:A.frames=some (env::outer))(hl:s.heap.FunFrames base (env::outer))(hf:env.frame=some L)(hx:Exc0 s.heap x cls od)
   (h:∀h' T,s.heap.get? T=none->Upto ((env::outer).filterMap (·.frame)) [x] s.heap h'->Exc h' x cls od T (rawInt L)->Q () { s with heap:=h' }):wpAny M A (noteFrame (.ref x) env) Q E s:=by
 obtain⟨oe,vs,ex,rfl,rfl,hd,h1⟩:=hx;have sz:=(Array.getElem?_eq_some_iff.mp h1).1;unfold noteFrame;simp only [hf];refine wpAny_bind (wpAny_field ex hd h1 ?_);rw[if_neg (by decide)];refine WH hfr hl hf ex hd sz fun h' n=>?_;obtain⟨T,nT,t⟩:=n.exc hd sz;exact h h' T nT n.upto t
theorem look1 {base:Heap}{env:Env}{outer:List Env}{L x T:Addr}{cls:Value}{od:Option Addr}{Q:Unit->Shared->Prop}(hfr:A.frames=some (env::outer))(hl:s.heap.FunFrames base (env::outer))(hf:env.frame=some L)(hx:Exc s.heap x cls od T .none)
   (h:∀h' T',s.heap.get? T'=none->Upto ((env::outer).filterMap (·.frame)) [T,x] s.heap h'->Exc h' x cls od T' (rawInt L)->Q () { s with heap:=h' }):wpAny M A (noteFrame (.ref x) env) Q E s:=by
 obtain⟨oe,vs,oT,ts,ne,ex,rfl,rfl,hd,h1,eT,dT,h3⟩:=hx;have sz:=(Array.getElem?_eq_some_iff.mp h1).1;have sz3:=(Array.getElem?_eq_some_iff.mp h3).1;unfold noteFrame;simp only [hf];refine wpAny_bind (wpAny_field ex hd h1 ?_);rw[if_pos (show (Value.ref T != Value.none)=true by simp)];refine wpAny_bind (wpAny_field eT dT h3 ?_);rw[if_neg (show ¬((Value.none==rawInt L)=true) by simp [rawInt])];refine wpAny_bind (wpAny_setField eT dT sz3 ?_);have u1:Upto ((env::outer).filterMap (·.frame)) [T] s.heap (s.heap.update T (Obj.mapFields (·.setIfInBounds 3 Value.none))):=.update;have hl2:(s.heap.update T (Obj.mapFields (·.setIfInBounds 3 Value.none))).FunFrames base (env::outer):=hl.of_keeps fun b o q nf=>by
   have nb:b≠T:=fun z=>by
     subst z;rw[eT] at q;cases q;exact nf ts dT
   exact⟨o,by rw[Heap.get?_update_other _ _ (fun z=>nb z.symm)];exact q,rfl⟩
 have ex2:(s.heap.update T (Obj.mapFields (·.setIfInBounds 3 Value.none))).get? x=some oe:=by
   rw[Heap.get?_update_other _ _ ne];exact ex
 refine WH (s:={ s with heap:=s.heap.update T (Obj.mapFields (·.setIfInBounds 3 Value.none)) }) hfr hl2 hf ex2 hd sz fun h' n=>?_;obtain⟨T',nT,t⟩:=n.exc hd sz;refine h h' T' ?_ (u1.trans n.upto) t;cases q:s.heap.get? T' with
 | none=>rfl
 | some o =>
   by_cases z:T'=T
   . subst z;rw[Heap.get?_update_self _ eT (Obj.isFreed_of_fields (Obj.data_mapFields dT _))] at nT;cases nT
   . rw[Heap.get?_update_other _ _ (fun y=>z y.symm),q] at nT;cases nT
theorem leave0 {base:Heap}{env:Env}{outer:List Env}{L x:Addr}{cls:Value}{od:Option Addr}{Q:Unit->Shared->Prop}(hfr:A.frames=some (env::outer))(hl:s.heap.FunFrames base (env::outer))(hf:env.frame=some L)(hx:Exc0 s.heap x cls od)
   (h:∀h' T,s.heap.get? T=none->Upto ((env::outer).filterMap (·.frame)) [x,T] s.heap h'->Exc h' x cls od T .none->Q () { s with heap:=h' }):wpAny M A (leaving env (.ref x)) Q E s:=by
 unfold leaving;refine wpAny_bind (look0 hfr hl hf hx fun h1 T nT u t=>?_);exact Jn (s:={ s with heap:=h1 }) (fr:=(env::outer).filterMap (·.frame)) t fun h2 u2 t2=>h h2 T nT (u.trans u2) t2
theorem leave1 {base:Heap}{env:Env}{outer:List Env}{L x T:Addr}{cls:Value}{od:Option Addr}{Q:Unit->Shared->Prop}(hfr:A.frames=some (env::outer))(hl:s.heap.FunFrames base (env::outer))(hf:env.frame=some L)(hx:Exc s.heap x cls od T .none)
   (h:∀h' T',s.heap.get? T'=none->Upto ((env::outer).filterMap (·.frame)) [T,x,T'] s.heap h'->Exc h' x cls od T' .none->Q () { s with heap:=h' }):wpAny M A (leaving env (.ref x)) Q E s:=by
 unfold leaving;refine wpAny_bind (look1 hfr hl hf hx fun h1 T' nT u t=>?_);exact Jn (s:={ s with heap:=h1 }) (fr:=(env::outer).filterMap (·.frame)) t fun h2 u2 t2=>h h2 T' nT (u.trans u2) t2
end
end Stow
namespace Stow
open PySem
open Sem (wp)
section
variable {M:Model}{A:Around}{E:Value->Shared->Prop}
variable {nm q nm0 q0:Str}{C N C0 N0:Addr}{bs bm bs0 bm0:List Value}{hdct hdct0:Bool}{sn sn0:List Str}{sub sub0:List Value}{ab ab0:Bool}{col col0:Option Bool}{dd dd0:Option Addr}{k0 k1 k2 k3 k5 j0 j1 j2 j3 j5:Option Value}{newId newId0:String}
theorem aN {h:Heap}{g:Array GenState}{d:Drawn}{t:Nat}{os:OsState}{x:Addr}{ox:Obj}{b:Bool}{Q:Bool->Shared->Prop}
   (hC:h.get? C=some (excClassObj nm q C N bs bm hdct sn sub ab col dd k0 k1 k2 k3 k5 newId)) (hC0:h.get? C0=some (excClassObj nm0 q0 C0 N0 bs0 bm0 hdct0 sn0 sub0 ab0 col0 dd0 j0 j1 j2 j3 j5 newId0))
   (hx:h.get? x=some ox) (hcl:ox.cls = .ref C) (hb0:(Value.ref C0::bm0).contains (.type "BaseException")=true) (hb:(Value.ref C::bm).contains (.ref C0)=b) (k:Q b ⟨h,g,d,t,os⟩) :
   wpAny M A (excMatches (.ref x) (.ref C0)) Q E ⟨h,g,d,t,os⟩:=by
 have f:=tc_notTuple;unfold excMatches
 repeat (first
   | (with_reducible refine wpAny_loadPart_at hx ?_;rw[hcl])
   | with_reducible refine wpAny_loadPart_at hC0 ?_
   | (with_reducible refine wpAny_isSubtype_exc hC0 ?_;rw[hb0])
   | (with_reducible refine wpAny_isSubtype_exc hC ?_;rw[hb])
   | wp_step)
 all_goals (cases b <;> (wp_walk;exact k))
end
end Stow
namespace Stow
open PySem
open Sem (wp)
def Lk (M:Model)(h:Heap){α:Type}(m:Sem α)(v:α):Prop:=∀(A:Around) (E:Value->Shared->Prop) (g:Array GenState) (d:Drawn) (t:Nat) (os:OsState) (Q:α->Shared->Prop),Q v ⟨h,g,d,t,os⟩->wpAny M A m Q E ⟨h,g,d,t,os⟩
theorem Lk.at {M:Model}{h:Heap}{α:Type}{m:Sem α}{v:α}(l:Lk M h m v){A:Around}{E:Value->Shared->Prop}{g:Array GenState}{d:Drawn}{t:Nat}{os:OsState}{Q:α->Shared->Prop}(q:Q v ⟨h,g,d,t,os⟩):wpAny M A m Q E ⟨h,g,d,t,os⟩:=l A E g d t os Q q
section
variable {prog:Program}{w:World}{A:Around}{E:Value->Shared->Prop}{h:Heap}{g:Array GenState}{d:Drawn}{t:Nat}{os:OsState}{a C:Addr}{o:Obj}
structure Eb (prog:Program)(w:World)(h:Heap)(C:Addr):Prop where
 ga:Lk (model prog w) h (typeLookup (.ref C) "__getattribute__") (some (.builtin "BaseException.__getattribute__"))
 gat:Lk (model prog w) h (typeLookup (.ref C) "__getattr__") none
 cls:Lk (model prog w) h (typeLookup (.ref C) "__class__") (some (.builtin "object.__class__"))
 obj:Lk (model prog w) h (isSubtype (.ref C) (.type "object")) true
 exc:Lk (model prog w) h (isSubtype (.ref C) (.type "BaseException")) true
theorem xc_get {R:Result->Shared->Prop}(L:Eb prog w h C)(hx:h.get? a=some o)(hc:o.cls = .ref C)(k:R (.ok (.ret (.ref C))) ⟨h,g,d,t,os⟩) :
   codeAny (model prog w) A (.call (.builtin "getset_descriptor.__get__") ⟨[.builtin "object.__class__",.ref a,.ref C],[]⟩) R ⟨h,g,d,t,os⟩:=by
 have y5:(⟨h,g,d,t,os⟩:Shared).TypeIs (.builtin "object.__class__") "getset_descriptor":=F.typeOf_object_class;have y8:Lk (model prog w) h (isSubtype (.ref C) (.type (".".intercalate ("object.__class__".cutAt '.').dropLast))) true:=by rw[F.owner_object_class];exact L.obj
 refine codeAny_call_builtin F.slot_gs_get.plain F.entry_gs_get (F.slot_gs_get.check _ _ _ _ _ _ _ _ y5 (F.args_gs_get _ _ _) ?_)
 repeat (any_goals (first
   | assumption
   | (with_reducible refine wpAny_loadPart_at hx ?_;rw[hc])
   | with_reducible refine y8.at ?_
   | wp_step))
 refine⟨Code.quiet_builtin _ (by decide +kernel),codeAny_builtin F.entry_object_class ?_⟩
 repeat (any_goals (first
   | assumption
   | (with_reducible refine wpAny_loadPart_at hx ?_;rw[hc])
   | wp_step))
theorem aO {tk:Tok}{Q:Fin->Shared->Prop}(L:Eb prog w h C)(hx:h.get? a=some o)(hc:o.cls = .ref C)(k:Q (.done (.ret (.ref C))) ⟨h,g,d,t,os⟩) :
   wpAny (model prog w) A (Builtin.«object.__getattribute__» ⟨[.ref a,.str "__class__" tk],[]⟩) Q E ⟨h,g,d,t,os⟩:=by
 have y5:(⟨h,g,d,t,os⟩:Shared).TypeIs (.builtin "object.__class__") "getset_descriptor":=F.typeOf_object_class;have f5:=F.typeOf_object_class;have f6:=F.slot_gs_get.lookup;have f7:=F.slot_gs_set.lookup;have l2:=L.cls
 repeat (any_goals (first
   | assumption
   | (with_reducible refine wpAny_loadPart_at hx ?_;rw[hc])
   | with_reducible refine l2.at ?_
   | wp_step))
 refine xc_get L hx hc ?_
 repeat (any_goals (first | assumption | wp_step))
theorem WI {nv:Value}{Q:Unit->Shared->Prop}(L:Eb prog w h C)(hx:h.get? a=some o)(hc:o.cls = .ref C)(k:Q () ⟨h,g,d,t,os⟩):wpAny (model prog w) A (checkBuiltinCall "BaseException.__getattribute__" ⟨[.ref a,nv],[]⟩) Q E ⟨h,g,d,t,os⟩:=by
 have e1:builtinKind "BaseException.__getattribute__"=some .slot:=by decide +kernel
 have e2:splitId "BaseException.__getattribute__"=some ("BaseException","__getattribute__"):=by decide +kernel
 have ha:=F.args_bexc_ga (.ref a) nv;have l4:=L.exc;simp only [checkBuiltinCall,e1,e2];refine wpAny_bind ?_;unfold isInstance
 repeat (first
   | (with_reducible refine wpAny_loadPart_at hx ?_;rw[hc])
   | with_reducible refine l4.at ?_
   | wp_step)
 exact k
theorem aP {tk:Tok}{R:Result->Shared->Prop}(FB:Slot "ValueError" "__getattribute__" "BaseException.__getattribute__")(L:Eb prog w h C)(hx:h.get? a=some o)(hc:o.cls = .ref C)(k:R (.ok (.ret (.ref C))) ⟨h,g,d,t,os⟩) :
   codeAny (model prog w) A (.call (.builtin "BaseException.__getattribute__") ⟨[.ref a,.str "__class__" tk],[]⟩) R ⟨h,g,d,t,os⟩ :=
 codeAny_call_builtin FB.plain F.entry_bexc_ga (WI L hx hc (aO L hx hc k))
theorem xc_by {tk:Tok}{fill:Bool}{Q:Value->Shared->Prop}(FB:Slot "ValueError" "__getattribute__" "BaseException.__getattribute__")(L:Eb prog w h C)(hx:h.get? a=some o)(hc:o.cls = .ref C)(k:Q (.ref C) ⟨h,g,d,t,os⟩) :
   wpAny (model prog w) A (getAttrBy (.ref a) (.str "__class__" tk) fill) Q E ⟨h,g,d,t,os⟩:=by
 have f3:=FB.bind (.ref a);have x0:(false&&onTheHeap (Value.builtin "BaseException.__getattribute__"))=false:=rfl;have x2:(Value.builtin "BaseException.__getattribute__"==Value.builtin "object.__getattribute__")=false:=by decide +kernel
 have x1:(onTheHeap (Value.ref C)&&Value.builtin "BaseException.__getattribute__"==Value.builtin "object.__getattribute__")=false:=by rw[x2,Bool.and_false]
 have l1:=L.ga;have l2:=L.gat
 repeat (any_goals (first
   | assumption
   | (with_reducible refine wpAny_loadPart_at hx ?_;rw[hc])
   | with_reducible refine l1.at ?_
   | with_reducible refine l2.at ?_
   | wp_step))
 refine aP FB L hx hc ?_
 repeat (any_goals (first | assumption | wp_step))
end
end Stow
namespace Stow
open PySem L2 PyProof.Rows
section
variable {P:Program}{w:World}{H H':Hp}{h h' g:Heap}{a:Addr}{o:HO}
theorem aQ (x:BW P w H h a o):∃ob,h.get? a=some ob:=by
 cases o with
 | lst xs=>obtain⟨_,_,_,_,e⟩:=x;exact⟨_,e⟩
 | tup xs=>obtain⟨_,_,_,ob,e,_⟩:=x;exact⟨_,e⟩
 | dK kvs=>obtain⟨_,_,_,_,ob,_,_,e,_⟩:=x;exact⟨_,e⟩
 | dT kvs=>obtain⟨_,_,_,_,ob,_,_,e,_⟩:=x;exact⟨_,e⟩
 | set S n=>obtain⟨ob,_,_,_,e,_⟩:=x;exact⟨_,e⟩
 | ins C dx fs=>obtain⟨_,_,_,e,_⟩:=x;exact⟨_,e⟩
 | own y=>obtain⟨_,e⟩:=x;exact⟨_,e⟩
 | xd fs=>obtain⟨_,⟨_,_,_,e,_⟩,_⟩:=x;exact⟨_,e⟩
 | rng lo hi=>obtain⟨_,_,_,e⟩:=x;exact⟨_,e⟩
 | frz ob u=>obtain⟨e,_⟩:=x;exact⟨_,e⟩
 | tbl ps=>exact⟨_,(show h.get? a=some _ from x)⟩
 | met f y=>exact⟨_,(show h.get? a=some _ from x)⟩
 | ext φ=>obtain⟨_,e,_⟩:=x;exact e
theorem Fw (x:HOk P w H h)(e:h.get? a=none):H a=none:=by
 cases q:H a with
 | none=>rfl
 | some u =>
   obtain⟨ob,z⟩:=aQ (x a u q);rw[e] at z;cases z
theorem Qa {fr ex:List Addr}(x:HOk P w H h)(u:Upto fr ex h h')(hf:∀b∈fr,H b=none)(he:∀b∈ex,H b=none):HOk P w H h':=fun a o e=>by
 have out:∀b v,H b=some v->b ∉ ex/\b ∉ fr:=fun b v q=>⟨(fun z=>by rw[he b z] at q;cases q),(fun z=>by rw[hf b z] at q;cases q)⟩
 refine(x a o e).stay (fun b ob hb q=>?_) (fun _ q=>q) fun _ _ q=>q;rcases hb with rfl | hb
 . exact u.keep b ob (out b _ e).1 (out b _ e).2 q
 . exact u.keep b ob (out b _ hb).1 (out b _ hb).2 q
theorem Qb {fs fr ex:List Addr}(u:Un fs [] H H' g h)(v:Upto fr ex h h')(hfr:∀b∈fr,b∈fs\/g.get? b=none)(hex:∀b∈ex,g.get? b=none):Un fs [] H H' g h':=by
 have nex:∀b o,g.get? b=some o->b ∉ ex:=fun b o q z=>by rw[hex b z] at q;cases q
 refine⟨fun b o q n hb hx=>?_,fun b o q n hb hx=>?_,u.free,fun b o q hx=>?_,u.tups,u.frzs,u.tbls⟩
 . refine v.keep b o (nex b o q) (fun z=>?_) (u.keep b o q n hb hx);rcases hfr b z with z | z
   . exact hb z
   . rw[z] at q;cases q
 . obtain⟨sl,q1⟩:=u.slot b o q n hb hx;obtain⟨sl',q2⟩:=v.slot b _ (nex b o q) q1;exact⟨sl',q2⟩
 . obtain⟨o',q1⟩:=u.there b o q hx;obtain⟨sl,q2⟩:=v.slot b o' (nex b o q) q1;exact⟨_,q2⟩
theorem Ec {fs:List Addr}(u:Un fs [] H H' g h)(e:h.get? a=none):g.get? a=none:=by
 cases q:g.get? a with
 | none=>rfl
 | some o =>
   obtain⟨o',z⟩:=u.there a o q (by simp);rw[e] at z;cases z
end
def CXe (P:Program)(w:World):CXT:=fun outer H s E e s'=>∃(x C T:Addr) (od:Option Addr) (H':Hp),e = .ref x/\s'.os=s.os/\AllBare s'.gens/\Un (frs outer) [] H H' s.heap s'.heap/\HOk P w H' s'.heap /\
 s.heap.get? x=none/\s.heap.get? T=none/\H' x=none/\H' T=none/\Exc s'.heap x (.ref C) od T .none/\E (.ref C) od H'
section
variable {P:Program}{w:World}{K:PySem.W.Frag}{mg:Str->Option Value}{base:Heap}{N:List Str}{qual:Str}{scope:Scope}{f:Addr}{cd:Value}{A:Around}{outer:List Env}{s₀:Shared}{H₀:Hp}{EX:XK}
theorem WJ {pins:List (Addr×Obj)}{σ:L2.St}{H:Hp}{s:Shared}{x C:Addr}{od:Option Addr}(I:Inv (cxOf (CXe P w) P w K mg base N qual scope f cd A outer s₀ H₀ EX) pins σ H s)(hx:Exc0 s.heap x (.ref C) od)(nx:s₀.heap.get? x=none)(ux:H x=none)(q:EX (.ref C) od H) :
   (cxOf (CXe P w) P w K mg base N qual scope f cd A outer s₀ H₀ EX).xe (.ref x) s:=by
 refine leave0 (base:=base) (outer:=outer) I.ok.frames I.stack rfl hx fun h' T nT u t=>?_;have hu:Un (frs outer) [] H₀ H s₀.heap s.heap:=I.base;have uT:H T=none:=Fw I.hok nT;refine⟨x,C,T,od,H,rfl,I.os,I.bare,Qb hu u (fun b hb=>?_) (fun b hb=>?_),Qa I.hok u I.stkFree (fun b hb=>?_),nx,Ec hu nT,ux,uT,t,q⟩
 . rcases List.mem_cons.mp hb with rfl | hb
   . exact .inr (Heap.get?_none_of_le (Nat.le_refl _))
   . exact .inl hb
 . rcases List.mem_cons.mp hb with rfl | hb
   . exact nx
   . have e:b=T:=by simpa using hb
     subst e;exact Ec hu nT
 . rcases List.mem_cons.mp hb with rfl | hb
   . exact ux
   . have e:b=T:=by simpa using hb
     subst e;exact uT
theorem B8:DB (CXe P w) (cxOf (CXe P w) P w K mg base N qual scope f cd A outer s₀ H₀ EX) EX:=by
 rintro pins σ H s e s' I ⟨x,C,T,od,H',rfl,os,bare,un,hok,nx,nT,ux,uT,t,q⟩;have I':Inv (cxOf (CXe P w) P w K mg base N qual scope f cd A outer s₀ H₀ EX) pins σ H' s':=by
   obtain⟨hh,gg,dd,tt,oo⟩:=s';obtain rfl:oo=s.os:=os;have z:=I.call (h':=hh) (g':=gg) (d':=dd) (t':=tt) (ch:=[]) un hok bare (fun b z=>absurd z (by simp));exact z
 refine leave1 (base:=base) (outer:=outer) I'.ok.frames I'.stack rfl t fun h' T' nT' u t'=>?_;have hu:Un (frs outer) [] H₀ H' s₀.heap s'.heap:=I'.base;have hu0:Un (frs outer) [] H₀ H s₀.heap s.heap:=I.base;have uT':H' T'=none:=Fw hok nT';have n0:∀b∈[T,x,T'],s₀.heap.get? b=none:=fun b hb=>by
   rcases List.mem_cons.mp hb with rfl | hb
   . exact Ec hu0 nT
   . rcases List.mem_cons.mp hb with rfl | hb
     . exact Ec hu0 nx
     . have e:b=T':=by simpa using hb
       subst e;exact Ec hu nT'
 refine⟨x,C,T',od,H',rfl,I'.os,I'.bare,Qb hu u (fun b hb=>?_) n0,Qa hok u I'.stkFree (fun b hb=>?_),n0 x (by simp),n0 T' (by simp),ux,uT',t',q⟩
 . rcases List.mem_cons.mp hb with rfl | hb
   . exact .inr (Heap.get?_none_of_le (Nat.le_refl _))
   . exact .inl hb
 . rcases List.mem_cons.mp hb with rfl | hb
   . exact uT
   . rcases List.mem_cons.mp hb with rfl | hb
     . exact ux
     . have e:b=T':=by simpa using hb
       subst e;exact uT'
end
end Stow
namespace Stow
open PySem L2 PyProof.Rows
theorem WK {K:PySem.W.Frag}{h:Heap}{C:Addr}{bmB:List Value}{newId:String}(X:K.In h)(q:excIn K C bmB newId=true) :
   ∃(bm:List Value) (N:Addr) (nm qn:Str) (bs:List Value) (hd:Bool) (sn:List Str) (sub:List Value) (ab:Bool) (col:Option Bool) (dd:Option Addr) (k0 k1 k2 k3 k5:Option Value) (mN:Str->Option Value),
     h.get? C=some (excClassObj nm qn C N bs bm hd sn sub ab col dd k0 k1 k2 k3 k5 newId)/\h.Ns N mN/\mN "__init__"=none/\OwnTail h bmB bm/\∀v,PySem.W.mroIn K C v=some ((Value.ref C::bm).contains v):=by
 unfold excIn at q
 split at q
 . rename_i dd cd sl lk
   split at q
   . rename_i C' bm a0 a1 a2 a3 n a5 em es;simp only [Bool.and_eq_true,beq_iff_eq,Bool.not_eq_true'] at q;obtain⟨⟨⟨⟨⟨eC,rfl⟩,nodel⟩,tl⟩,okN⟩,noI⟩:=q;have eC:=eC.symm;subst eC;have mro:∀v,PySem.W.mroIn K C v=some ((Value.ref C::bm).contains v):=fun v=>by
       unfold PySem.W.mroIn PySem.W.clsIn;rw[lk]
       first
         | rfl
         | (simp [em];done)
     obtain⟨nm,bs,mr,ns,qn,hd,sn,sub,ab,col,del⟩:=cd;dsimp only at em nodel okN noI;subst em nodel;have esl:sl=#[a0,a1,a2,a3,some (.builtin n),a5]:=by
       cases sl with
       | mk l =>
         dsimp only at es;rw[es]
     subst esl;exact⟨bm,ns,nm,qn,bs,hd,sn,sub,ab,col,dd,a0,a1,a2,a3,a5,_,X _ _ lk,.of_isNs (PySem.W.isNs_of_in X okN),PySem.W.nsMap_none_of_in X okN noI,PySem.W.tail_of_in X tl,mro⟩
   . cases q
 . cases q
structure XCls (K:PySem.W.Frag)(mg:Str->Option Value)(x:Str)(C:Addr):Prop where
 bound:mg x=some (.ref C)
 ex:∃(bmB:List Value) (B newId initId:String),excIn K C bmB newId=true/\ExcBaseFacts B newId initId bmB/\bmB.contains (.type "BaseException")=true
def WL (C:Addr)(E:XK)(t:TA):TS:=fun _ σ H=>t σ H fun xs H1=>xs.length<=sizeLine/\E (.ref C) none H1
section
variable {P:Program}{w:World}{K:PySem.W.Frag}{mg:Str->Option Value}{base:Heap}{N:List Str}{qual:Str}{scope:Scope}{f:Addr}{cd:Value}{A:Around}{outer:List Env}{s₀:Shared}{H₀:Hp}{EX:XK}
theorem Ch {x:Str}{C:Addr}{np cpos pos:Pos}{e:Expr}{es:List Expr}{t:TA}(XC:XCls K mg x C)(hh:(cxOf (CXe P w) P w K mg base N qual scope f cd A outer s₀ H₀ EX).A.handled=none)
   (hg:Gl (cxOf (CXe P w) P w K mg base N qual scope f cd A outer s₀ H₀ EX) x) (ha:PA (cxOf (CXe P w) P w K mg base N qual scope f cd A outer s₀ H₀ EX) (e::es) t)
   (hdb:(x==("__debug__":Str))=false:=by decide) (he:starEach (e::es) (cxOf (CXe P w) P w K mg base N qual scope f cd A outer s₀ H₀ EX).env=(false,eval e (cxOf (CXe P w) P w K mg base N qual scope f cd A outer s₀ H₀ EX).env)::starEach es (cxOf (CXe P w) P w K mg base N qual scope f cd A outer s₀ H₀ EX).env:=by rfl)
   (hpl:(backTo cpos (starEach es (cxOf (CXe P w) P w K mg base N qual scope f cd A outer s₀ H₀ EX).env)).any (·.1)=false:=by rfl) :
   PS (cxOf (CXe P w) P w K mg base N qual scope f cd A outer s₀ H₀ EX) (.Raise (some (.Call (.Name x np) (e::es) [] cpos)) none pos) (WL C EX t):=by
 intro pins s σ H D I h;obtain⟨bmB,B,newId,initId,q,FB,hB⟩:=XC.ex;obtain⟨bm,NN,nm,qn,bs,hd,sn,sub,ab,col,dd,k0,k1,k2,k3,k5,mN,hC,hN,noI,tl,_⟩:=WK I.mod.kin q;refine wpAny_Raise_call_subT (C:=C) (nm:=nm) (q:=qn) (N:=NN) (bs:=bs) (bm:=bm) (hdct:=hd) (sn:=sn) (sub:=sub) (ab:=ab) (col:=col) (dd:=dd) (k0:=k0) (k1:=k1) (k2:=k2) (k3:=k3) (k5:=k5) FB (mN:=mN) (tl.hasType hB) hh
   (by rw[he];show (false||(backTo cpos (starEach es _)).any (·.1))=false;rw[hpl];rfl) noI (Dz I hg XC.bound ⟨rfl,?_⟩ hdb)
 have hA:=ha cpos pins s σ H _ I h;rw[he] at hA ⊢;refine Calls.evalArgs_plain (thn hA fun us s2 ⟨xs,H2,I2,r2,hz,q2⟩=>⟨rfl,by rw[<-r2.length];exact hz,I2.bk _ _ hC,hN.keeps I2.bk,tl.keeps I2.bk,fun h' x hm=>?_⟩);have I3:Inv (cxOf (CXe P w) P w K mg base N qual scope f cd A outer s₀ H₀ EX) pins σ H2 { s2 with heap:=h' }:=I2.kept (t':=s2.toks) hm.keeps;obtain⟨tt,ht,_,_⟩:=hm.there;exact WJ I3 ⟨_,_,ht,rfl,rfl,rfl,rfl⟩ (Ec (show Un (frs outer) [] H₀ H2 s₀.heap s2.heap from I2.base) hm.new) (Fw I2.hok hm.new) q2
end
def ExcO (x C:Addr)(od:Option Addr):HO:=.ext fun h=>∃oe vs,h.get? x=some oe/\oe.cls = .ref C/\oe.dict=od/\oe.data = .fields vs
abbrev Cx.suite (X:Cx)(x:Addr):Cx:={ X with A:=X.A.mark (some (.ref x)),calm:=false,xe:=fun _ _=>False }
theorem aR {X:Cx}(ok:X.Ok)(x:Addr):(Cx.suite X x).Ok :=
 ⟨ok.mod,ok.kind,ok.glob,ok.blt,ok.above,ok.inj,ok.has,ok.cab,fun z=>(nomatch z),ok.frames,ok.stk,ok.exf,ok.bs,ok.bsz,ok.noex,ok.exfs,ok.funs,ok.frf⟩
theorem HW {X:Cx}{pins:List (Addr×Obj)}{σ:L2.St}{H:Hp}{s:Shared}(I:Inv X pins σ H s)(x:Addr):Inv (Cx.suite X x) pins σ H s:=⟨aR I.ok x,I.os,I.bare,I.base,I.loc,I.cell,I.free,I.freeC,I.pin,I.hok,I.len⟩
theorem Fx {X:Cx}{pins:List (Addr×Obj)}{σ:L2.St}{H:Hp}{s:Shared}{x:Addr}(ok:X.Ok)(I:Inv (Cx.suite X x) pins σ H s):Inv X pins σ H s:=⟨ok,I.os,I.bare,I.base,I.loc,I.cell,I.free,I.freeC,I.pin,I.hok,I.len⟩
section
variable {X:Cx}
theorem WM {pins:List (Addr×Obj)}{σ:L2.St}{H H':Hp}{s s':Shared}{h':Heap}{x C T:Addr}{od:Option Addr}{fr ex:List Addr}(I:Inv X pins σ H s)(os:s'.os=s.os)(bare:AllBare s'.gens)(un:Un (frs X.stack) [] H H' s.heap s'.heap)(hok:HOk X.prog X.w H' s'.heap)
   (nx:s.heap.get? x=none) (ux:H' x=none) (u:Upto fr ex s'.heap h') (hfr:fr=frs X.stack) (nex:∀b∈ex,s.heap.get? b=none/\H' b=none) (t:Exc h' x (.ref C) od T .none):Inv X pins σ (upd H' x (ExcO x C od)) { s' with heap:=h' }:=by
 subst hfr;have un2:Un (frs X.stack) [] H H' s.heap h':=Qb un u (fun b hb=>.inl hb) fun b hb=>(nex b hb).1;have stk:∀b∈frs X.stack,H' b=none:=fun b hb=>by
   obtain⟨_,o,ho,_⟩:=I.stack.mem hb;exact un.free b o ho (I.stkFree b hb) (by simp)
 have hok2:HOk X.prog X.w H' h':=Qa hok u stk fun b hb=>(nex b hb).2;have nex':∀b v,H' b=some v->b≠x:=fun b v e z=>by rw[z,ux] at e;cases e
 have un3:Un (frs X.stack) [] H (upd H' x (ExcO x C od)) s.heap h':=by
   refine⟨un2.keep,un2.slot,fun b o q n hx=>?_,un2.there,fun b xs q=>?_,fun b o v q=>?_,fun b ps q=>?_⟩
   . rw[AE (fun z=>by rw[z,nx] at q;cases q)];exact un2.free b o q n hx
   . rw[AE (nex' b _ (un2.tups b xs q))];exact un2.tups b xs q
   . rw[AE (nex' b _ (un2.frzs b o v q))];exact un2.frzs b o v q
   . obtain⟨more,z⟩:=un2.tbls b ps q;exact⟨more,by rw[AE (nex' b _ z)];exact z⟩
 obtain⟨oe,vs,oT,ts,ne,ee,hc,hd,hf,_⟩:=t;have hok3:HOk X.prog X.w (upd H' x (ExcO x C od)) h':=fun b v e=>by
   by_cases z:b=x
   . subst z;rw[upd_same] at e;cases e;exact⟨⟨oe,vs,ee,hc,hd,hf⟩,⟨oe,ee⟩,fun h1 h2 ⟨o1,v1,q1,q2,q3,q4⟩ k=>⟨o1,v1,k o1 q1,q2,q3,q4⟩⟩
   . rw[AE z] at e;exact(hok2 b v e).stay (fun _ _ _ q=>q) (fun c q=>by rw[AE (nex' c _ q)];exact q) fun c xs q=>by rw[AE (nex' c _ q)];exact q
 obtain⟨hh,gg,dd,tt,oo⟩:=s';obtain rfl:oo=s.os:=os;have z:=I.call (h':=h') (g':=gg) (d':=dd) (t':=tt) (ch:=[]) un3 hok3 bare (fun b z=>absurd z (by simp));exact z
end
end Stow
namespace Stow
open PySem L2 PyProof.Rows
section
variable {X:Cx}
theorem NA {M:Model}{A:Around}{E:Value->Shared->Prop}{pins:List (Addr×Obj)}{σ:L2.St}{H:Hp}{s:Shared}{i:Nat}{n:Str}{pos:Pos}{Q:Unit->Shared->Prop}(I:Inv X pins σ H s)(hN:X.N.Nodup)(hi:X.N[i]?=some n)
   (hk:X.env.kindOf n=some .local) (k:∀s',Inv X pins (σ.set i none) H s'->Q () s'):wpAny M A (do bindName X.env n .none;unbindBehindTheSuite X.env n pos) Q E s:=by
 obtain⟨m,hn,hl⟩:=id I.loc;have iσ:i<σ.length:=by rw[I.len];exact(List.getElem?_eq_some_iff.mp hi).1
 refine wpAny_nameGoes_keeps hk hn (by rw[I.ok.kind];rfl) fun h' v hn' hs=>k _ ?_;have far:∀b o,X.s₀.heap.get? b=some o->h'.get? b=s.heap.get? b:=fun b o e=>hs.2 b (Nat.ne_of_lt (Nat.lt_of_lt_of_le (Heap.lt_size e) I.ok.above));refine⟨I.ok,I.os,I.bare,⟨fun b o e z hb hx=>(far b o e).trans (I.base.keep b o e z hb hx),fun b o e z hb hx=>?_,I.base.free,fun b o e hx=>?_,I.base.tups,I.base.frzs,I.base.tbls⟩,⟨_,hn',fun j y w' e1 e2 e3=>?_⟩,fun y c e=>?_,I.free,I.freeC,fun p hp=>?_,fun b ob e=>?_,by rw[List.length_set];exact I.len⟩
 . obtain⟨sl,q⟩:=I.base.slot b o e z hb hx;exact⟨sl,(far b o e).trans q⟩
 . obtain⟨o',q⟩:=I.base.there b o e hx;exact⟨o',(far b o e).trans q⟩
 . have ji:j≠i:=fun z=>by
     subst z;rw[List.getElem?_set_self iσ] at e2;cases e2
   rw[List.getElem?_set_ne (Ne.symm ji)] at e2;obtain⟨u',r',q⟩:=hl j y w' e1 e2 e3;refine⟨u',r',?_⟩;rcases q with ⟨kk,e⟩ | ⟨kk,c,e,z⟩
   . have yn:y≠n:=fun e=>ji (PR hN e1 (e▸hi));exact .inl ⟨kk,by simp [yn,e]⟩
   . exact .inr ⟨kk,c,e,z.sameBut hs (I.cne y c e)⟩
 . obtain⟨w',z⟩:=I.cell y c e;exact⟨w',z.sameBut hs (I.cne y c e)⟩
 . obtain⟨e,z,ne,nf,d⟩:=I.pin p hp;exact⟨(hs.2 p.1 ne).trans e,z,ne,nf,d⟩
 . refine(I.hok b ob e).stay (fun c w' hc q=>(hs.2 c ?_).trans q) (fun _ q=>q) fun _ _ q=>q;rintro rfl;rcases hc with hc | hc
   . rw[<-hc,I.free] at e;cases e
   . rw[I.free] at hc;cases hc
def ECls (K:PySem.W.Frag)(C:Addr)(bm:List Value):Prop:=∃(nm qn:Str) (N:Addr) (bs:List Value) (hd:Bool) (sn:List Str) (sub:List Value) (ab:Bool) (col:Option Bool) (dd:Option Addr) (k0 k1 k2 k3 k5:Option Value) (newId:String),
 K.lookup C=some (excClassObj nm qn C N bs bm hd sn sub ab col dd k0 k1 k2 k3 k5 newId)
variable {k:Nat}{f C0:Addr}{fd:FuncData}{ps:List Str}{sp:Sp}{fx cx:Str}{p cpos epos np hpos pos:Pos}{e:Expr}{es:List Expr}{ta:TA}{b0:Stmt}{suite:List Stmt}{ts:Addr->TS}
theorem Qc {pins:List (Addr×Obj)}{σ:L2.St}{H:Hp}{s s':Shared}{EX:XK}{y:Value}{W:Shared->Prop}(I:Inv X pins σ H s)(hst:X.stack=X.env::X.outer/\X.env.frame=some X.env.locals)(hq:CXe X.prog X.w X.stack H s EX y s')
   (k:∀(x C:Addr) (od:Option Addr) (T:Addr) (h2:Heap) (H2:Hp),y = .ref x->EX (.ref C) od H2->Exc h2 x (.ref C) od T .none->Inv X pins σ (upd H2 x (ExcO x C od)) { s' with heap:=h2 } ->
     (∀h3,Upto (frs X.stack) [T] h2 h3->Exc h3 x (.ref C) od T .none->H2 x=none/\Inv X pins σ (upd H2 x (ExcO x C od)) { s' with heap:=h3 })->W { s' with heap:=h2 }) {E':Value->Shared->Prop} :
   wpAny (model X.prog X.w) X.A (noteFrame y X.env) (fun _ s2=>wpAny (model X.prog X.w) X.A (setFlight y none) (fun _ s3=>W s3) E' s2) E' s':=by
 obtain⟨x,C,T,od,H',rfl,os,bare,un,hok,nx,nT,ux,uT,t,q⟩:=hq;have I':Inv X pins σ H' s':=by
   obtain⟨hh,gg,dd,tt,oo⟩:=s';obtain rfl:oo=s.os:=os;have z:=I.call (h':=hh) (g':=gg) (d':=dd) (t':=tt) (ch:=[]) un hok bare (fun b z=>absurd z (by simp));exact z
 have efr:(X.env::X.outer).filterMap (·.frame)=frs X.stack:=by rw[hst.1];rfl
 refine look1 (base:=X.base) (outer:=X.outer) (by rw[<-hst.1];exact I'.ok.frames) (by rw[<-hst.1];exact I'.stack) hst.2 t fun h1 T' nT' u1 t1=>?_;rw[efr] at u1;refine Jn (s:={ s' with heap:=h1 }) (fr:=frs X.stack) t1 fun h2 u2 t2=>?_;have new:∀b∈[T,x]++[T']++[T'],s.heap.get? b=none/\H' b=none:=fun b hb=>by
   simp only [List.cons_append,List.nil_append,List.mem_cons,List.not_mem_nil,or_false] at hb;rcases hb with rfl | rfl | rfl | rfl
   . exact⟨nT,uT⟩
   . exact⟨nx,ux⟩
   . exact⟨Ec un nT',Fw hok nT'⟩
   . exact⟨Ec un nT',Fw hok nT'⟩
 refine k x C od T' h2 H' rfl q t2 (WM I os bare un hok nx ux (u1.trans u2) rfl (fun b hb=>new b (List.mem_append_left _ hb)) t2) fun h3 u3 t3=>⟨ux,WM I os bare un hok nx ux ((u1.trans u2).trans u3) rfl new t3⟩
theorem aS {pins:List (Addr×Obj)}{D:Ends}{x:Addr}{fl:Flow}{s':Shared}(ok:X.Ok)(h:SP (Cx.suite X x) pins D fl s'):SP X pins D fl s':=by
 cases fl with
 | next=>obtain⟨σ',H',I,q⟩:=h;exact⟨σ',H',Fx ok I,q⟩
 | brk=>obtain⟨σ',H',I,q⟩:=h;exact⟨σ',H',Fx ok I,q⟩
 | cont=>obtain⟨σ',H',I,q⟩:=h;exact⟨σ',H',Fx ok I,q⟩
 | ret u=>obtain⟨v,σ',H',I,r,q⟩:=h;exact⟨v,σ',H',Fx ok I,r,q⟩
end
end Stow
namespace Stow
open PySem L2 PyProof.Rows
structure Defx (P:Program)(w:World)(K:PySem.W.Frag)(mg:Str->Option Value)(base:Heap)(x:Str)(k:Nat)(ps:List Str)(sp:Sp):Prop where
 ex:∃(f:Addr) (fd:FuncData),FnOk P w K mg base (CXe P w) k f fd ps sp/\mg x=some (.ref f)/\keepIn K (.ref f)=true/\Bi K fd ps []
section
variable {P:Program}{w:World}{K:PySem.W.Frag}{mg:Str->Option Value}{base:Heap}
theorem Bb {x qual:Str}{st:Stmt}{f:Addr}{fd:FuncData}{N ps:List Str}{k:Nat}{sp:Sp}(F:Fun K x qual st f fd)(S:FnScope N ps (An st))(len:∀vs H Q E,sp vs H Q E->vs.length=ps.length)
   (hbody:∀(cdv:Value) (A:Around) (outer:List Env) (s:Shared) (H:Hp) (vs:List V) (Q:VK) (E:XK),Room k (A.deeper (envOfC qual (An st) s.heap.objs.size f cdv))->sp vs H Q E ->
     ∃t,PSs (cxOf (CXe P w) P w K mg base N qual (An st) f cdv A outer s H E) (AX st) t/\t { nx:=fun _ H'=>Q .non H',rt:=Q } (start N vs) H):FnOk P w K mg base (CXe P w) (k+1) f fd ps sp:=by
 obtain⟨oc,od,kV,doc,pm,an,cdv,ct,osl,rfl,lk,hcd⟩:=F.ex;exact P4 lk hcd S len fun A outer s H vs Q E hr hsp=>hbody cdv A outer s H vs Q E hr hsp
theorem Src.okx {x:Str}{st:Stmt}{N ps:List Str}{k:Nat}{sp:Sp}(S:Src K mg x st)(sc:FnScope N ps (An st))
   (hb:∀(kV doc pm:Value) (an:Option Addr) (cdv ct:Value) (us:List Value),us.length=ps.length->bindArgs (fnOf x x (A7 st) (AX st) (An st) .none kV doc pm an cdv ct) ⟨us,[]⟩=pure (ps.zip us))
   (len:∀vs H Q E,sp vs H Q E->vs.length=ps.length)
   (hbody:∀(f:Addr) (cdv:Value) (A:Around) (outer:List Env) (s:Shared) (H:Hp) (vs:List V) (Q:VK) (E:XK),Room k (A.deeper (envOfC x (An st) s.heap.objs.size f cdv))->sp vs H Q E ->
     ∃t,PSs (cxOf (CXe P w) P w K mg base N x (An st) f cdv A outer s H E) (AX st) t/\t { nx:=fun _ H'=>Q .non H',rt:=Q } (start N vs) H):Defx P w K mg base x (k+1) ps sp:=by
 obtain⟨f,fd,F,hm⟩:=S.ex;exact⟨f,fd,Bb F sc len (hbody f),hm,F.kp,F.binds hb⟩
end
section
variable {X:Cx}
theorem B0:DB (CXe X.prog X.w) X E0:=by
 rintro pins σ H s e s' I ⟨x,C,T,od,H',_,_,_,_,_,_,_,_,_,_,q⟩;exact q.elim
theorem Ar {x:Str}{j k:Nat}{ps:List Str}{sp:Sp}{p pos:Pos}{e:Expr}{es:List Expr}{t:TA}(D:Defx X.prog X.w X.K X.mg X.base x j ps sp)(hr:Room k X.A)(hg:Gl X x)(ha:PA X (e::es) t)(hk:j<=k:=by decide)
   (hdb:(x==("__debug__":Str))=false:=by decide) (he:starEach (e::es) X.env=(false,eval e X.env)::starEach es X.env:=by rfl) (hpl:(backTo pos (starEach es X.env)).any (·.1)=false:=by rfl) :
   PE X (.Call (.Name x p) (e::es) [] pos) (F1 sp [] E0 t):=by
 obtain⟨f,fd,F,hm,kp,b⟩:=D.ex;exact P3 F (hr.mono hk) hg hm kp b .nil B0 ha hdb he hpl
variable {j k:Nat}{C0:Addr}{ps:List Str}{sp:Sp}{fx cx:Str}{p cpos epos np hpos pos:Pos}{e:Expr}{es:List Expr}{ta:TA}{b0:Stmt}{suite:List Stmt}{ts:Addr->TS}
end
theorem Lk.of {M:Model}{h:Heap}{α:Type}{m:Sem α}{v:α}(l:PySem.W.Looks M h m v):Lk M h m v:=fun A E g d t os Q q=>l A Q E ⟨h,g,d,t,os⟩ (fun _ _ e=>e) q
structure XK0 (K:PySem.W.Frag)(C:Addr):Prop where
 ga:PySem.W.findIn K (.ref C) "__getattribute__"=some (some (.builtin "BaseException.__getattribute__"))
 gat:PySem.W.findIn K (.ref C) "__getattr__"=some none
 cls:PySem.W.findIn K (.ref C) "__class__"=some (some (.builtin "object.__class__"))
 obj:PySem.W.mroIn K C (.type "object")=some true
 exc:PySem.W.mroIn K C (.type "BaseException")=some true
theorem XK0.lk {prog:Program}{w:World}{K:PySem.W.Frag}{C:Addr}{h:Heap}(x:XK0 K C)(KX:K.In h):Eb prog w h C :=
 ⟨.of (PySem.W.looks_findIn KX x.ga),.of (PySem.W.looks_findIn KX x.gat),.of (PySem.W.looks_findIn KX x.cls),.of (PySem.W.looks_mroIn KX x.obj),.of (PySem.W.looks_mroIn KX x.exc)⟩
section
variable {X:Cx}
end
end Stow
namespace Stow
open PySem L2 PyProof.Rows
open PySem.W in
theorem aT (self:Value):refuseLoop self "__setattr__" [.type "ValueError",.type "Exception",.type "BaseException",.type "object"]=pure ():=by kernel_rfl
def NB:List Value->Bool
 | .ref _::r=>NB r
 | l=>l==[.type "ValueError",.type "Exception",.type "BaseException",.type "object"]
open PySem.W in
theorem WN (self:Value):∀{l:List Value},NB l=true->refuseLoop self "__setattr__" l=pure ()
 | .ref c::r,e=>by rw[refuseLoop_ref];exact WN self e
 | [],e=>by cases e
 | .none::r,e=>by cases e
 | .type n::r,e=>by
   have e':(Value.type n::r)=[.type "ValueError",.type "Exception",.type "BaseException",.type "object"]:=beq_iff_eq.mp e
   rw[e']
   exact aT self
 | .ellipsis::r,e=>by cases e
 | .notImplemented::r,e=>by cases e
 | .bool b::r,e=>by cases e
 | .int i t::r,e=>by cases e
 | .float i t::r,e=>by cases e
 | .str i t::r,e=>by cases e
 | .bytes i t::r,e=>by cases e
 | .builtin i::r,e=>by cases e
section
variable {prog:Program}{w:World}{A:Around}{K:PySem.W.Frag}{x C:Addr}{s:Shared}
open PySem.W in
theorem aU {E:Value->Shared->Prop}{ox:Obj}{vs:Array Value}{name:Str}{v:Value}{cd:ClassData}{Q:Unit->Shared->Prop}(X:K.In s.heap)(hx:s.heap.get? x=some ox)(hcl:ox.cls = .ref C)(hdi:ox.dict=none)(hda:ox.data = .fields vs)
   (hs:findIn K (.ref C) "__setattr__"=some (some (.builtin "object.__setattr__"))) (hc:clsIn K C=some cd) (ho:NB cd.mro=true) (hm:mroIn K C (.type "object")=some true) (hd:cd.hasDict=true) (ht:findIn K (.ref C) name=some none)
   (h:∀h' dx,s.heap.get? dx=none->dx≠x->h'.get? x=some { ox with dict:=some dx }->h'.Ns1 dx (fun y=>if y=name then some v else none)->(∀b o,b≠x->s.heap.get? b=some o->h'.get? b=some o)->Q () { s with heap:=h',toks:=s.toks+2 }) :
   wpAny (model prog w) A (setAttr (.ref x) name v) Q E s:=by
 have I:InstAt s.heap x ox C none:=⟨hx,hcl,by unfold notCls;rw[hda],by rw[hdi];trivial⟩
 refine set_plain X I hs ?_;have SF:=PySem.F.store_object;have sub:Looks (model prog w) s.heap (isInstance (.ref x) (.type "object")) true:=I.type.andThen (looks_mroIn X hm);refine codeAny_call_builtin SF.slot.plain SF.entry (@check_slot (model prog w) _ _ { s with toks:=s.toks+1 } "object.__setattr__" "object" "__setattr__" (.ref x) [.str name s.toks,v] [] _ SF.kind SF.split sub (SF.args (.ref x) (.str name s.toks) v) ?_);have mro:Looks (model prog w) s.heap (mroOf (.ref C)) cd.mro:=(looks_clsIn X hc).andThen .now;rw[osa_eq,refuse_eq];refine wpAny_bind (wpAny_bind (Looks.here (s:={ s with toks:=s.toks+1 }) I.type (wpAny_bind (Looks.here (s:={ s with toks:=s.toks+1 }) mro ?_))));rw[WN _ ho];refine wpAny_pure (wpAny_bind (Looks.here (s:={ s with toks:=s.toks+1 }) I.type (wpAny_bind (Looks.here (s:={ s with toks:=s.toks+1 }) (looks_findIn X ht) (wpAny_bind (wpAny_pure ?_))))));show wpAny _ _ (Builtin.ObjectAttr.storeInOwnDict (.ref x) (.ref C) _ name v _) _ _ _;unfold Builtin.ObjectAttr.storeInOwnDict;obtain⟨c0,d0,dt0,sl0⟩:=ox;dsimp only at hcl hdi hda;subst hcl hdi hda;refine wpAny_bind (wpAny_pure (wpAny_bind (wpAny_bind (wpAny_loadPart hx (wpAny_bind (Looks.here (s:={ s with toks:=s.toks+1 }) (looks_clsIn X hc) ?_))))));rw[hd];show wpAny (model prog w) A.in1 (do
   let d <-alloc { cls:=Value.type "dict",data:=Data.dict #[] }
   update x fun o=>{ o with dict:=some d }
   dictMade (.ref C) x d) _ _ _
 refine wpAny_bind (wpAny_alloc ?_);refine wpAny_bind (wpAny_update (Heap.get?_push_of_some _ hx) ?_);refine wpAny_pure (a:=some s.heap.objs.size) (wpAny_bind (wpAny_pure (wpAny_bind ?_)));have ne:s.heap.objs.size≠x:=Nat.ne_of_gt (Heap.lt_size hx);have n0:((s.heap.push { cls:=.type "dict",data:=.dict #[] }).update x fun o=>{ o with dict:=some s.heap.objs.size }).Ns1 s.heap.objs.size (fun _=>none):=by
   have e1:(s.heap.push { cls:=.type "dict",data:=.dict #[] }).get? s.heap.objs.size=some { cls:=.type "dict",data:=.dict #[] }:=Heap.get?_push_size s.heap rfl;have e3:(s.heap.push { cls:=.type "dict",data:=.dict #[] }).Ns s.heap.objs.size (fun _=>none):=⟨_,#[],_,e1,rfl,(fun e he=>absurd he (by simp)),fun _=>rfl⟩
   exact(Heap.Ns1.of_empty e3).at fun o q=>by rw[Heap.get?_update_other _ _ (fun z=>ne z.symm)];exact q
 refine wpAny_nsSet1 n0 fun h' hn2 hs2=>?_;obtain⟨oD,esD,epD,hoD,hdD,hcD⟩:=hn2.count (PySem.Within.cons name v (ns:=[]) (fun y hy=>absurd rfl hy));refine wpAny_bind (wpAny_lookBehind hoD (by rw[hdD];exact pastItsLine_dict (Nat.le_trans hcD (by show 1<=sizeLine+1;exact Nat.le_add_left 1 _))) ?_);refine wpAny_pure (h _ s.heap.objs.size (Heap.get?_none_of_le (Nat.le_refl _)) ne ?_ hn2 fun b o nb q=>?_)
 . rw[hs2.2 x (fun z=>ne z.symm)];exact Heap.get?_update_self _ (Heap.get?_push_of_some _ hx) rfl
 . rw[hs2.2 b (Nat.ne_of_lt (Heap.lt_size q))];show ((s.heap.push _).update x _).get? b=some o;rw[Heap.get?_update_other _ _ (fun z=>nb z.symm)];exact Heap.get?_push_of_some _ q
end
end Stow
namespace Stow
open PySem
open Sem (wp)
section
variable {prog:Program}{w:World}{A:Around}{E:Value->Shared->Prop}{h:Heap}{g:Array GenState}{d:Drawn}{t:Nat}{os:OsState}{a C:Addr}{o:Obj}{name:Str}{v:Value}
theorem aV {tk:Tok}{Q:Fin->Shared->Prop}(hx:h.get? a=some o)(hc:o.cls = .ref C)(F:Lk (model prog w) h (Builtin.ObjectAttr.find (.ref a) (.ref C) name) (.value v))(k:Q (.done (.ret v)) ⟨h,g,d,t,os⟩) :
   wpAny (model prog w) A (Builtin.«object.__getattribute__» ⟨[.ref a,.str name tk],[]⟩) Q E ⟨h,g,d,t,os⟩:=by
 unfold Builtin.«object.__getattribute__»
 repeat (any_goals (first
   | assumption
   | (with_reducible refine wpAny_loadPart_at hx ?_;rw[hc])
   | with_reducible refine F.at ?_
   | wp_step))
theorem aW {tk:Tok}{R:Result->Shared->Prop}(FB:Slot "ValueError" "__getattribute__" "BaseException.__getattribute__")(L:Eb prog w h C)(hx:h.get? a=some o)(hc:o.cls = .ref C)(F:Lk (model prog w) h (Builtin.ObjectAttr.find (.ref a) (.ref C) name) (.value v))(k:R (.ok (.ret v)) ⟨h,g,d,t,os⟩) :
   codeAny (model prog w) A (.call (.builtin "BaseException.__getattribute__") ⟨[.ref a,.str name tk],[]⟩) R ⟨h,g,d,t,os⟩ :=
 codeAny_call_builtin FB.plain PySem.F.entry_bexc_ga (WI L hx hc (aV hx hc F k))
theorem xf_by {tk:Tok}{fill expr:Bool}{Q:Value->Shared->Prop}(FB:Slot "ValueError" "__getattribute__" "BaseException.__getattribute__")(L:Eb prog w h C)(hx:h.get? a=some o)(hc:o.cls = .ref C)(F:Lk (model prog w) h (Builtin.ObjectAttr.find (.ref a) (.ref C) name) (.value v))
   (hh:handedOut v=pure v) (k:Q v ⟨h,g,d,t,os⟩):wpAny (model prog w) A (getAttrBy (.ref a) (.str name tk) fill expr) Q E ⟨h,g,d,t,os⟩:=by
 have f3:=FB.bind (.ref a);have x0:(expr&&onTheHeap (Value.builtin "BaseException.__getattribute__"))=false:=by cases expr <;> rfl
 have x2:(Value.builtin "BaseException.__getattribute__"==Value.builtin "object.__getattribute__")=false:=by decide +kernel
 have x1:(onTheHeap (Value.ref C)&&Value.builtin "BaseException.__getattribute__"==Value.builtin "object.__getattribute__")=false:=by rw[x2,Bool.and_false]
 have l1:=L.ga;have l2:=L.gat
 repeat (any_goals (first
   | assumption
   | (with_reducible refine wpAny_loadPart_at hx ?_;rw[hc])
   | with_reducible refine l1.at ?_
   | with_reducible refine l2.at ?_
   | wp_step))
 refine aW FB L hx hc F ?_
 repeat (any_goals (first | assumption | (rw[hh];with_reducible refine wpAny_pure ?_) | wp_step))
theorem aX {expr:Bool}{Q:Value->Shared->Prop}(FB:Slot "ValueError" "__getattribute__" "BaseException.__getattribute__")(L:Eb prog w h C)(hx:h.get? a=some o)(hc:o.cls = .ref C)(F:Lk (model prog w) h (Builtin.ObjectAttr.find (.ref a) (.ref C) name) (.value v))
   (hh:handedOut v=pure v) (k:Q v ⟨h,g,d,t+1,os⟩):wpAny (model prog w) A (getAttr (.ref a) name expr) Q E ⟨h,g,d,t,os⟩:=by
 unfold getAttr
 repeat (any_goals (first | assumption | with_reducible apply xf_by FB L hx hc F hh | wp_step))
end
end Stow
namespace Stow
open PySem L2 PyProof.Rows
structure XSet (K:PySem.W.Frag)(C:Addr)(f:Str):Prop where
 sa:PySem.W.findIn K (.ref C) "__setattr__"=some (some (.builtin "object.__setattr__"))
 cd:∃cd,PySem.W.clsIn K C=some cd/\NB cd.mro=true/\cd.hasDict=true
 ob:PySem.W.mroIn K C (.type "object")=some true
 no:PySem.W.findIn K (.ref C) f=some none
def ExcN (x C:Addr)(od:Option Addr):HO:=.ext fun h=>∃tt,h.get? x=some { cls:=.ref C,dict:=od,data:=.fields #[.ref tt,.none,.none,.none,.bool false,.none] }
def sFldX (K:PySem.W.Frag)(ta tv:TE)(f:Str):TS:=fun D σ H=>tv σ H fun y H1=>ta σ H1 fun x H2=>∃a C,x = .ref a/\H2 a=some (ExcN a C none)/\XSet K C f/\∀dx,H2 dx=none->D.nx σ (upd (upd H2 dx (.xd [(f,y)])) a (ExcN a C (some dx)))
def tFldX (K:PySem.W.Frag)(ta:TE)(f:Str):TE:=fun σ H Q=>ta σ H fun x H1=>∃a C dx fs v,x = .ref a/\H1 a=some (ExcO a C (some dx))/\H1 dx=some (.xd fs)/\XK0 K C/\XSet K C f/\fs.lookup f=some v/\Q v H1
section
variable {X:Cx}{o e value:Expr}{f:Str}{pos pos':Pos}{ta tv:TE}
theorem aY (ha:PE X o ta)(hv:PE X value tv)(hs:swapsWith value (some (.Attribute o f pos')) pos.line X.env=pure false:=by rfl):PS X (.Assign [.Attribute o f pos'] value pos) (sFldX X.K ta tv f):=by
 intro pins s σ H D I h;refine plainObj_wpAny_Assign_Attribute (thn (hv pins s σ H _ I h) fun u s1 ⟨y,H1,I1,ry,q⟩=>thn (ha pins s1 σ H1 _ I1 q) fun ov s2 ⟨x,H2,I2,rx,a,C,ex,ea,Z,q2⟩=>?_) hs;subst ex;obtain rfl:ov=Value.ref a:=rx;obtain⟨⟨tt,ee⟩,_⟩:=I2.hok a _ ea;obtain⟨cd,hcd,ht,hdi⟩:=Z.cd;refine aU I2.kIn ee rfl rfl rfl Z.sa hcd ht Z.ob hdi Z.no fun h' dx nd ne e' n' kp=>?_;have ud:H2 dx=none:=Fw I2.hok nd;have nda:a≠dx:=fun z=>ne z.symm;refine⟨σ,_,?_,q2 dx ud⟩
 -- the dict is laid,the exception bears it
 have un:Un X.fs [] H2 (upd (upd H2 dx (.xd [(f,y)])) a (ExcN a C (some dx))) s2.heap h':=by
   refine⟨fun b ob qb n _ _=>kp b ob (fun z=>by rw[z,ea] at n;cases n) qb,fun b ob qb n _ _=>⟨ob.slots,kp b ob (fun z=>by rw[z,ea] at n;cases n) qb⟩,fun b ob qb n _=>?_,fun b ob qb _=>?_,fun b xs qb=>?_,fun b ob v' qb=>?_,fun b ps qb=>?_⟩
   . rw[AE (fun z=>by rw[z,ea] at n;cases n),AE (fun z=>by rw[z,nd] at qb;cases qb)];exact n
   . by_cases z:b=a
     . subst z;exact⟨_,e'⟩
     . exact⟨ob,kp b ob z qb⟩
   . rw[AE (fun z=>by rw[z,ea] at qb;cases qb),AE (A8 qb ud)];exact qb
   . rw[AE (fun z=>by rw[z,ea] at qb;cases qb),AE (A8 qb ud)];exact qb
   . exact⟨#[],by rw[AE (fun z=>by rw[z,ea] at qb;cases qb),AE (A8 qb ud),qb];simp⟩
 have hok:HOk X.prog X.w (upd (upd H2 dx (.xd [(f,y)])) a (ExcN a C (some dx))) h':=fun b v' qb=>by
   by_cases z:b=a
   . subst z;rw[upd_same] at qb;cases qb;exact⟨⟨tt,e'⟩,⟨_,e'⟩,fun h1 h2 ⟨t1,q1⟩ k=>⟨t1,k _ q1⟩⟩
   . rw[AE z] at qb;by_cases z2:b=dx
     . subst z2;rw[upd_same] at qb;cases qb;refine⟨_,n',fun g=>?_⟩;show RelO (List.lookup g [(f,y)]) (if g=f then some u else none);by_cases zg:g=f
       . subst zg;rw[if_pos rfl,List.lookup_cons_self];exact ry
       . rw[if_neg zg,List.lookup_cons,show (g==f)=false from beq_false_of_ne zg]
         trivial
     . rw[AE z2] at qb;refine(I2.hok b v' qb).stay (fun c w' hcw q=>kp c w' (fun y'=>?_) q) (fun c q=>?_) fun c xs q=>?_
       . subst y';rcases hcw with r | r
         . exact z r.symm
         . rw[ea] at r;cases r
       . rw[AE (fun z=>by rw[z,ea] at q;cases q),AE (A8 q ud)];exact q
       . rw[AE (fun z=>by rw[z,ea] at q;cases q),AE (A8 q ud)];exact q
 exact I2.un un hok
theorem WO (FB:Slot "ValueError" "__getattribute__" "BaseException.__getattribute__")(he:PE X e ta)(hb:attributeBase e f X.env (eval e X.env)=eval e X.env:=by rfl):PE X (.Attribute e f pos) (tFldX X.K ta f):=by
 intro pins s σ H Q I h;refine Wo hb (thn (he pins s σ H _ I h) fun u s1 ⟨x,H1,I1,rx,a,C,dx,fs,v,ex,ea,ed,Z,ZS,l,q⟩=>?_);subst ex;obtain rfl:u=Value.ref a:=rx;obtain⟨⟨oe,vs,ee,hc,hd,hf⟩,_⟩:=I1.hok a _ ea;obtain⟨mA,ns,hm⟩:=I1.hok dx _ ed;obtain⟨od,hod,hl⟩:=Wk ns;obtain⟨cd,hcd,ht,hdi⟩:=ZS.cd;have rv:=hm f;rw[l] at rv;obtain⟨u',eu,ru⟩:=RelO.some_of rv;have J:PySem.W.InstAt s1.heap a oe C (some od):=⟨ee,hc,by unfold PySem.W.notCls;rw[hf],by rw[hd];exact hod⟩
 have hh:hasDictIn X.K C=true:=by
   unfold hasDictIn;rw[hcd];exact hdi
 have fo:=findObj_own (od:=od) (v:=u') hh ZS.no rfl (by rw[hl,eu]);obtain⟨hp,g,d,t,os⟩:=s1;exact aX FB (Z.lk I1.kIn) ee hc (.of (PySem.W.looks_find I1.kIn J fo)) (PySem.W.handedOut_of (Wn ru)) ⟨v,H1,I1.tok _,ru,q⟩
end
end Stow
namespace Stow
open PySem
open Sem (wp)
section
variable {prog:Program}{w:World}{A:Around}{E:Value->Shared->Prop}{h:Heap}{g:Array GenState}{d:Drawn}{t:Nat}{os:OsState}
variable {nm q:Str}{C N:Addr}{bs bm bmB:List Value}{hdct:Bool}{sn:List Str}{sub:List Value}{ab:Bool}{col:Option Bool}{dd:Option Addr}{k0 k1 k2 k3 k5:Option Value}{B newId initId:String}
theorem aZ (FB:ExcBaseFacts B newId initId bmB)(TL:OwnTail h bmB bm){args:List Value}{fI:Addr}{oI:Obj}{Q:Fin->Shared->Prop}(hC:h.get? C=some (excClassObj nm q C N bs bm hdct sn sub ab col dd k0 k1 k2 k3 k5 newId))
   (LI:PySem.W.Looks (model prog w) h (typeLookup (.ref C) "__init__") (some (.ref fI))) (hfI:h.get? fI=some oI) (hfc:oI.cls = .type "function")
   (k:∀h' e,Heap.MadeExcOf h h' e (.ref C) args->wpAny (model prog w) A (call (.ref fI) (.ref e::args)) (fun r s'=>r = .none/\Q (.done (.ret (.ref e))) s') E ⟨h',g,d,t,os⟩) (hz:args.length<=sizeLine) :
   wpAny (model prog w) A (Builtin.«type.__call__» ⟨.ref C::args,[]⟩) Q E ⟨h,g,d,t,os⟩:=by
 repeat (first
   | with_reducible refine wpAny_loadPart_at hC ?_
   | with_reducible refine wpAny_madeBy_exc hC ?_
   | wp_step)
 refine codeAny_call_builtin_code (Code.quiet_builtin _ FB.quiet) (wpAny_check_new_subT FB TL hC (codeAny_exc_new_subT FB TL hC ?_ hz));show wpAny _ _ _ _ _ _;have kp:∀b o,h.get? b=some o->((h.push { cls:=.type "tuple",data:=.seq args.toArray }).push { cls:=.ref C,data:=.fields #[.ref h.objs.size,.none,.none,.none,.bool false,.none] }).get? b=some o :=
   fun b o z=>Heap.get?_push_of_some _ (Heap.get?_push_of_some _ z)
 have gC:=kp _ _ hC;have gE:((h.push { cls:=.type "tuple",data:=.seq args.toArray }).push { cls:=.ref C,data:=.fields #[.ref h.objs.size,.none,.none,.none,.bool false,.none] }).get? (h.objs.size+1)
     = some { cls:=.ref C,data:=.fields #[.ref h.objs.size,.none,.none,.none,.bool false,.none] }:=by heap_get
 have cC:(Value.ref C::bm).contains (.ref C)=true:=by simp
 unfold isInstance
 repeat (first
   | with_reducible refine wpAny_loadPart_at gE ?_
   | (with_reducible refine wpAny_isSubtype_exc gC ?_;rw[cC])
   | wp_step)
 show wpAny _ _ (typeLookup (.ref C) _) _ _ _;refine LI _ _ _ _ kp ?_;refine wpAny_holding (wpAny_bind ?_);unfold bindSpecial;refine wpAny_bind (wpAny_typeOf (T:="function") ⟨_,kp _ _ hfI,hfc⟩ ?_);rw[if_pos (by decide)];refine wpAny_pure (wpAny_bind (wpAny_mono (k _ (h.objs.size+1) ⟨kp,Heap.get?_none_of_le (Nat.le_succ _),h.objs.size,gE,Heap.get?_none_of_le (Nat.le_refl _),?_⟩) (fun r s' hr=>?_) fun _ _ z=>z))
 . exact Heap.get?_push_of_some _ (Heap.get?_push_at rfl rfl)
 . obtain⟨rfl,z⟩:=hr
   wp_walk
   exact z
theorem bA (FB:ExcBaseFacts B newId initId bmB)(TL:OwnTail h bmB bm){args:List Value}{fI:Addr}{oI:Obj}{Q:Value->Shared->Prop}(hC:h.get? C=some (excClassObj nm q C N bs bm hdct sn sub ab col dd k0 k1 k2 k3 k5 newId))
   (LI:PySem.W.Looks (model prog w) h (typeLookup (.ref C) "__init__") (some (.ref fI))) (hfI:h.get? fI=some oI) (hfc:oI.cls = .type "function")
   (k:∀h' e,Heap.MadeExcOf h h' e (.ref C) args->wpAny (model prog w) (A.under (.builtin "type.__call__" ⟨.ref C::args,[]⟩)) (call (.ref fI) (.ref e::args)) (fun r s'=>r = .none/\Q (.ref e) s') E ⟨h',g,d,t,os⟩) (hz:args.length<=sizeLine) :
   wpAny (model prog w) A (call (.ref C) args) Q E ⟨h,g,d,t,os⟩:=by
 have y1:=tc_lookup;have y2:=tc_bind (.ref C);have y3:(⟨h,g,d,t,os⟩:Shared).TypeIs (.ref C) "type":=⟨_,hC,rfl⟩
 refine wpAny_call (codeAny_of_tree ?_);show wpAny _ _ (callAny (.ref C) _) _ _ _
 repeat (any_goals (first
   | assumption
   | with_reducible refine wpAny_loadPart_at hC ?_
   | wp_step))
 refine⟨rfl,codeAny_call_builtin_at (Code.quiet_builtin _ (by decide +kernel)) entry_typeCall (wpAny_check_type_call_sub hC (aZ FB TL hC LI hfI hfc (fun h' e hm=>?_) hz))⟩;exact k h' e hm
theorem bB {M:Model}{env:Env}{s:Shared}{x:Sem Value}{Q:Flow->Shared->Prop}(hbase:bm.contains (.type "BaseException")=true)(hh:A.handled=none)
   (k:wpAny M A x (fun v s1=>∃e od tt,v = .ref e/\s1.heap.get? C=some (excClassObj nm q C N bs bm hdct sn sub ab col dd k0 k1 k2 k3 k5 newId)/\s1.heap.get? e=some { cls:=.ref C,dict:=od,data:=.fields #[.ref tt,.none,.none,.none,.bool false,.none] }/\E (.ref e) s1) E s) :
   wpAny M A (raiseStmt env (some x) none) Q E s:=by
 have cB:(Value.ref C::bm).contains (.type "BaseException")=true:=by rw[List.contains_cons,hbase,Bool.or_true]
 unfold raiseStmt;refine wpAny_bind (wpAny_mono k (fun v s1 k1=>?_) fun _ _ z=>z);obtain⟨e,od,tt,rfl,hC,he,z⟩:=k1;obtain⟨hp,gg,d1,tk,os1⟩:=s1
 repeat (first
   | with_reducible refine wpAny_loadPart_at he ?_
   | with_reducible refine wpAny_loadPart_at hC ?_
   | (with_reducible refine wpAny_isSubtype_exc hC ?_;rw[cB])
   | wp_step)
 exact wpAny_raiseNew_none hh z
end
end Stow
namespace Stow
open PySem L2 PyProof.Rows
structure XIni (K:PySem.W.Frag)(mg:Str->Option Value)(x:Str)(C C0 fI:Addr):Prop where
 bound:mg x=some (.ref C)
 lk:∃(nm qn:Str) (N:Addr) (bs:List Value) (hd:Bool) (sn:List Str) (sub:List Value) (ab:Bool) (col:Option Bool) (dd:Option Addr) (k0 k1 k2 k3 k5:Option Value),
   K.lookup C=some (excClassObj nm qn C N bs (.ref C0::[.type "ValueError",.type "Exception",.type "BaseException",.type "object"]) hd sn sub ab col dd k0 k1 k2 k3 k5 "ValueError.__new__")
 base:excIn K C0 [.type "ValueError",.type "Exception",.type "BaseException",.type "object"] "ValueError.__new__"=true
 ini:PySem.W.findIn K (.ref C) "__init__"=some (some (.ref fI))
 keep:keepIn K (.ref C)=true
 fn:∃(c:Value) (dd:Option Addr) (da:Data) (sl:Array (Option Value)),K.lookup fI=some ⟨c,dd,da,sl⟩/\c = .type "function"
def del (H:Hp)(x:Addr):Hp:=fun b=>if b=x then none else H b
theorem NC {H:Hp}{x:Addr}:del H x x=none:=by unfold del;rw[if_pos rfl]
theorem Fy {H:Hp}{x b:Addr}(h:b≠x):del H x b=H b:=by unfold del;rw[if_neg h]
theorem bC {X:Cx}{pins:List (Addr×Obj)}{σ:L2.St}{H:Hp}{s:Shared}{x:Addr}{φ:Heap->Prop}(I:Inv X pins σ H s)(e:H x=some (.ext φ)):Inv X pins σ (del H x) s:=by
 have nx:∀b v,H b=some v->v≠.ext φ->b≠x:=fun b v q n z=>by
   subst z;rw[e] at q;exact n (Option.some.inj q).symm
 have un:Un X.fs [] H (del H x) s.heap s.heap:=by
   refine⟨fun b o q _ _ _=>q,fun b o q _ _ _=>⟨o.slots,q⟩,fun b o q n _=>?_,fun b o q _=>⟨o,q⟩,fun b xs q=>?_,fun b o v q=>?_,fun b ps q=>⟨#[],?_⟩⟩
   . by_cases z:b=x
     . rw[z];exact NC
     . rw[Fy z];exact n
   . rw[Fy (nx b _ q (by intro z;cases z))];exact q
   . rw[Fy (nx b _ q (by intro z;cases z))];exact q
   . rw[Fy (nx b _ q (by intro z;cases z)),q];simp
 have hok:HOk X.prog X.w (del H x) s.heap:=fun b v q=>by
   by_cases z:b=x
   . rw[z,NC] at q;cases q
   . rw[Fy z] at q;refine(I.hok b v q).stay (fun _ _ _ z=>z) (fun c q'=>?_) fun c xs q'=>?_
     . rw[Fy (nx c _ q' (by intro z;cases z))];exact q'
     . rw[Fy (nx c _ q' (by intro z;cases z))];exact q'
 exact I.un (h':=s.heap) (t':=s.toks) un hok
theorem bD {X:Cx}{pins:List (Addr×Obj)}{σ:L2.St}{H:Hp}{s:Shared}{h':Heap}{x C tt:Addr}(I:Inv X pins σ H s)(nx:s.heap.get? x=none)(kp:∀b o,s.heap.get? b=some o->h'.get? b=some o)
   (e:h'.get? x=some { cls:=.ref C,data:=.fields #[.ref tt,.none,.none,.none,.bool false,.none] }):Inv X pins σ (upd H x (ExcN x C none)) { s with heap:=h' }:=by
 have ux:H x=none:=Fw I.hok nx;have un:Un X.fs [] H (upd H x (ExcN x C none)) s.heap h':=by
   refine⟨fun b o q _ _ _=>kp b o q,fun b o q _ _ _=>⟨o.slots,kp b o q⟩,fun b o q n _=>?_,fun b o q _=>⟨o,kp b o q⟩,fun b xs q=>?_,fun b o v q=>?_,fun b ps q=>⟨#[],?_⟩⟩
   . rw[AE (fun z=>by rw[z,nx] at q;cases q)];exact n
   . rw[AE (A8 q ux)];exact q
   . rw[AE (A8 q ux)];exact q
   . rw[AE (A8 q ux),q];simp
 have hok:HOk X.prog X.w (upd H x (ExcN x C none)) h':=fun b v q=>by
   by_cases z:b=x
   . subst z;rw[upd_same] at q;cases q;exact⟨⟨tt,e⟩,⟨_,e⟩,fun h1 h2 ⟨t1,q1⟩ k=>⟨t1,k _ q1⟩⟩
   . rw[AE z] at q;refine(I.hok b v q).stay (fun c w' _ q'=>kp c w' q') (fun c q'=>?_) fun c xs q'=>?_
     . rw[AE (A8 q' ux)];exact q'
     . rw[AE (A8 q' ux)];exact q'
 exact I.un (t':=s.toks) un hok
theorem bE {X:Cx}{x:Str}{C C0 fI:Addr}{fd:FuncData}{ps:List Str}{sp:Sp}{j:Nat}{pins:List (Addr×Obj)}{σ:L2.St}{H:Hp}{s:Shared}{Q:VK}{us:List Value}{vs:List V}(XI:XIni X.K X.mg x C C0 fI)(F:FnOk X.prog X.w X.K X.mg X.base (CXe X.prog X.w) j fI fd ps sp)
   (hr:Room (j+1) X.A) (hb:Bi X.K fd ps []) (I:Inv X pins σ H s) (r:Vals vs us) (hz:vs.length<=1000) (h:∀y,H y=none->sp (.ref y::vs) (upd H y (ExcN y C none)) (fun v H2=>v = .non/\Q (.ref y) H2) E0) :
   wpAny (model X.prog X.w) X.A (call (.ref C) us) (fun u s'=>EP X pins σ Q u s'/\∃y,u = .ref y/\s.heap.get? y=none) X.xe s:=by
 obtain⟨nm,qn,NN,bs,hd,sn,sub,ab,col,dd,k0,k1,k2,k3,k5,lkC⟩:=XI.lk;obtain⟨bm,N0,nm0,qn0,bs0,hd0,sn0,sub0,ab0,col0,dd0,j0,j1,j2,j3,j5,mN0,hC0,hN0,noI,tl,_⟩:=WK I.kIn XI.base;have FB:=PySem.F.excBase_ValueError;have TL:OwnTail s.heap [.type "ValueError",.type "Exception",.type "BaseException",.type "object"] (.ref C0::[.type "ValueError",.type "Exception",.type "BaseException",.type "object"]):=.own hC0 hN0 noI .base;obtain⟨cI,dI,daI,slI,lkI,ecI⟩:=XI.fn;have gC:=I.kIn _ _ lkC;have gI:=I.kIn _ _ lkI;have LI:=PySem.W.looks_findIn (M:=model X.prog X.w) I.kIn XI.ini;obtain⟨hp,gg,d1,tk,os1⟩:=s;refine bA FB TL gC LI gI ecI (fun h' y hm=>?_) (by rw[<-r.length];exact Nat.le_of_lt (small1000 hz));obtain⟨tt,ey,_,_⟩:=hm.there;have I2:=bD I hm.new hm.keeps ey;have uy:H y=none:=Fw I.hok hm.new;have hq:=h y uy;have r2:Vals (V.ref y::vs) (Value.ref y::us):=.cons rfl r;have hl:((Value.ref y::us)++[]).length=ps.length:=by
   rw[List.append_nil,<-F.len _ _ _ _ hq];exact r2.length.symm
 have bd:=hb _ (Value.ref y::us) I2.kIn hl;rw[List.append_nil] at bd;refine wpAny_call (codeAny_mono (F.run _ X.stack _ _ ⟨Value.ref y::us,[]⟩ (Value.ref y::us) _ _ E0 (hr.make C us []) (I2.env0.make C us []) bd r2 hq) fun rs s' hq'=>?_);cases rs with
 | error e=>obtain⟨_,_,_,_,_,_,_,_,_,_,_,_,_,_,_,z⟩:=hq';exact z.elim
 | ok fl =>
   cases fl with
   | ret u =>
     obtain⟨v,H',I3,rv,ev,q3⟩:=I2.after hq';subst ev;exact⟨rv,⟨V.ref y,H',I3,rfl,q3⟩,y,rfl,hm.new⟩
   | next=>exact False.elim hq'
   | brk=>exact False.elim hq'
   | cont=>exact False.elim hq'
def Qd (C:Addr)(sp:Sp)(E:XK)(t:TA):TS:=fun _ σ H=>t σ H fun vs H1=>vs.length<=1000/\∀y,H1 y=none->sp (.ref y::vs) (upd H1 y (ExcN y C none)) (fun v H2=>v = .non/\∃z,V.ref y=V.ref z/\∃od,H2 z=some (ExcN z C od)/\E (.ref C) od (del H2 z)) E0
section
variable {P:Program}{w:World}{K:PySem.W.Frag}{mg:Str->Option Value}{base:Heap}{N:List Str}{qual:Str}{scope:Scope}{f:Addr}{cd:Value}{A:Around}{outer:List Env}{s₀:Shared}{H₀:Hp}{EX:XK}
theorem bG {x:Str}{C C0 fI:Addr}{fd:FuncData}{ps:List Str}{sp:Sp}{j k:Nat}{np cpos pos:Pos}{e:Expr}{es:List Expr}{t:TA}(XI:XIni K mg x C C0 fI)(F:FnOk P w K mg base (CXe P w) j fI fd ps sp)(hb:Bi K fd ps [])
   (hr:Room k (cxOf (CXe P w) P w K mg base N qual scope f cd A outer s₀ H₀ EX).A)
   (hg:Gl (cxOf (CXe P w) P w K mg base N qual scope f cd A outer s₀ H₀ EX) x) (ha:PA (cxOf (CXe P w) P w K mg base N qual scope f cd A outer s₀ H₀ EX) (e::es) t) (hj:j+1<=k:=by decide)
   (hdb:(x==("__debug__":Str))=false:=by decide) (he:starEach (e::es) (cxOf (CXe P w) P w K mg base N qual scope f cd A outer s₀ H₀ EX).env=(false,eval e (cxOf (CXe P w) P w K mg base N qual scope f cd A outer s₀ H₀ EX).env)::starEach es (cxOf (CXe P w) P w K mg base N qual scope f cd A outer s₀ H₀ EX).env:=by rfl)
   (hpl:(backTo cpos (starEach es (cxOf (CXe P w) P w K mg base N qual scope f cd A outer s₀ H₀ EX).env)).any (·.1)=false:=by rfl) :
   PS (cxOf (CXe P w) P w K mg base N qual scope f cd A outer s₀ H₀ EX) (.Raise (some (.Call (.Name x np) (e::es) [] cpos)) none pos) (Qd C sp EX t):=by
 intro pins s σ H D I h;obtain⟨nm,qn,NN,bs,hd,sn,sub,ab,col,dd,k0,k1,k2,k3,k5,lkC⟩:=id XI.lk;have hB:(Value.ref C0::[.type "ValueError",.type "Exception",.type "BaseException",.type "object"]:List Value).contains (.type "BaseException")=true:=by
   rw[List.contains_cons,PySem.F.excBase_ValueError.hasBase,Bool.or_true]
 rw[arm_exec_Raise];refine wpAny_bind (wpAny_standAt (bB (C:=C) (nm:=nm) (q:=qn) (N:=NN) (bs:=bs) (bm:=.ref C0::[.type "ValueError",.type "Exception",.type "BaseException",.type "object"]) (hdct:=hd) (sn:=sn) (sub:=sub) (ab:=ab) (col:=col) (dd:=dd) (k0:=k0) (k1:=k1) (k2:=k2) (k3:=k3) (k5:=k5) (newId:="ValueError.__new__") hB hr.hd ?_));refine wpAny_bind (wpAny_mono ?_ (fun v s1 hv=>wpAny_bind (wpAny_standAt (wpAny_pure hv))) (fun _ _ z=>z));refine wpAny_Call_Name_kw (Dz I hg XI.bound ?_ hdb);refine callWith_K (h₀:=base) I.ok.mod.kin XI.keep (thn (ha cpos pins s σ H _ I h) fun us s1 ⟨vs,H1,I1,r,hz,q⟩=>⟨I1.kIn,?_⟩) he hpl;refine thn (bE XI F (hr.mono hj) hb I1 r hz (Q:=fun u H2=>∃z,u = .ref z/\∃od,H2 z=some (ExcN z C od)/\EX (.ref C) od (del H2 z)) (fun y hy=>q y hy)) fun u s2 ⟨⟨v,H2,I2,rv,y,ev,od,ey,qe⟩,y',eu,ny⟩=>?_
 . subst ev;obtain rfl:u=Value.ref y:=rv;cases eu;obtain⟨⟨tt,g1⟩,_⟩:=I2.hok y _ ey;refine⟨y,od,tt,rfl,I2.kIn _ _ lkC,g1,?_⟩;exact WJ (bC I2 ey) ⟨_,_,g1,rfl,rfl,rfl,rfl⟩ (Ec (show Un (frs outer) [] H₀ H1 s₀.heap s1.heap from I1.base) ny) NC qe
end
end Stow
set_option Elab.async false
set_option linter.all false
set_option maxRecDepth 100000
set_option maxHeartbeats 4000000
namespace Stow
open PySem L2 PyProof.Rows
structure DefI (P:Program)(w:World)(K:PySem.W.Frag)(mg:Str->Option Value)(base:Heap)(x:Str)(C C0:Addr)(j:Nat)(ps:List Str)(sp:Sp):Prop where
 ex:∃(fI:Addr) (fd:FuncData),XIni K mg x C C0 fI/\FnOk P w K mg base (CXe P w) j fI fd ps sp/\Bi K fd ps []
def Qe (C:Addr)(f:Str):Sp:=fun vs H Q _=>∃(y:Addr) (v:V),vs=[.ref y,v]/\H y=some (ExcN y C none)/\∀dx,H dx=none->Q .non (upd (upd H dx (.xd [(f,v)])) y (ExcN y C (some dx)))
section
variable {P:Program}{w:World}{K:PySem.W.Frag}{mg:Str->Option Value}{base:Heap}{N:List Str}{qual:Str}{scope:Scope}{f:Addr}{cd:Value}{A:Around}{outer:List Env}{s₀:Shared}{H₀:Hp}{EX:XK}
theorem bH {x:Str}{C C0:Addr}{ps:List Str}{sp:Sp}{j k:Nat}{np cpos pos:Pos}{e:Expr}{es:List Expr}{t:TA}(D:DefI P w K mg base x C C0 j ps sp)
   (hr:Room k (cxOf (CXe P w) P w K mg base N qual scope f cd A outer s₀ H₀ EX).A)
   (hg:Gl (cxOf (CXe P w) P w K mg base N qual scope f cd A outer s₀ H₀ EX) x) (ha:PA (cxOf (CXe P w) P w K mg base N qual scope f cd A outer s₀ H₀ EX) (e::es) t) (hj:j+1<=k:=by decide)
   (hdb:(x==("__debug__":Str))=false:=by decide) (he:starEach (e::es) (cxOf (CXe P w) P w K mg base N qual scope f cd A outer s₀ H₀ EX).env=(false,eval e (cxOf (CXe P w) P w K mg base N qual scope f cd A outer s₀ H₀ EX).env)::starEach es (cxOf (CXe P w) P w K mg base N qual scope f cd A outer s₀ H₀ EX).env:=by rfl)
   (hpl:(backTo cpos (starEach es (cxOf (CXe P w) P w K mg base N qual scope f cd A outer s₀ H₀ EX).env)).any (·.1)=false:=by rfl) :
   PS (cxOf (CXe P w) P w K mg base N qual scope f cd A outer s₀ H₀ EX) (.Raise (some (.Call (.Name x np) (e::es) [] cpos)) none pos) (Qd C sp EX t):=by
 obtain⟨fI,fd,XI,F,hb⟩:=D.ex;exact bG XI F hb hr hg ha hj hdb he hpl
theorem BC {x:Str}{j k:Nat}{ps:List Str}{sp:Sp}{p pos:Pos}{e:Expr}{es:List Expr}{t:TA}(D:Defx P w K mg base x j ps sp)(hr:Room k (cxOf (CXe P w) P w K mg base N qual scope f cd A outer s₀ H₀ EX).A)
   (hg:Gl (cxOf (CXe P w) P w K mg base N qual scope f cd A outer s₀ H₀ EX) x) (ha:PA (cxOf (CXe P w) P w K mg base N qual scope f cd A outer s₀ H₀ EX) (e::es) t) (hk:j<=k:=by decide)
   (hdb:(x==("__debug__":Str))=false:=by decide) (he:starEach (e::es) (cxOf (CXe P w) P w K mg base N qual scope f cd A outer s₀ H₀ EX).env=(false,eval e (cxOf (CXe P w) P w K mg base N qual scope f cd A outer s₀ H₀ EX).env)::starEach es (cxOf (CXe P w) P w K mg base N qual scope f cd A outer s₀ H₀ EX).env:=by rfl)
   (hpl:(backTo pos (starEach es (cxOf (CXe P w) P w K mg base N qual scope f cd A outer s₀ H₀ EX).env)).any (·.1)=false:=by rfl) :
   PE (cxOf (CXe P w) P w K mg base N qual scope f cd A outer s₀ H₀ EX) (.Call (.Name x p) (e::es) [] pos) (F1 sp [] EX t):=by
 obtain⟨f',fd,F,hm,kp,b⟩:=D.ex;exact P3 F (hr.mono hk) hg hm kp b .nil B8 ha hdb he hpl
end
section
variable {K:PySem.W.Frag}{σ:L2.St}{H:Hp}{D:Ends}
theorem r_raise {C:Addr}{E:XK}{t:TA}(h:t σ H fun xs H1=>xs.length<=sizeLine/\E (.ref C) none H1):WL C E t D σ H:=h
theorem r_raiseI {C:Addr}{sp:Sp}{E:XK}{t:TA}(h:t σ H fun vs H1=>vs.length<=1000/\∀y,H1 y=none->sp (.ref y::vs) (upd H1 y (ExcN y C none)) (fun v H2=>v = .non/\∃z,V.ref y=V.ref z/\∃od,H2 z=some (ExcN z C od)/\E (.ref C) od (del H2 z)) E0) :
   Qd C sp E t D σ H:=h
theorem r_made {C:Addr}{f:Str}{E:XK}{v:V}(q:∀dx,H dx=none->E (.ref C) (some dx) (upd H dx (.xd [(f,v)]))) :
   [v].length<=1000/\∀y,H y=none->Qe C f (.ref y::[v]) (upd H y (ExcN y C none)) (fun v H2=>v = .non/\∃z,V.ref y=V.ref z/\∃od,H2 z=some (ExcN z C od)/\E (.ref C) od (del H2 z)) E0:=by
 refine⟨by show 1<=1000;decide,fun y hy=>⟨y,v,rfl,upd_same,fun dx hd=>⟨rfl,y,rfl,some dx,upd_same,?_⟩⟩⟩;have ne:dx≠y:=fun z=>by rw[z,upd_same] at hd;cases hd
 have hd':H dx=none:=by rw[AE ne] at hd;exact hd
 have e:del (upd (upd (upd H y (ExcN y C none)) dx (.xd [(f,v)])) y (ExcN y C (some dx))) y=upd H dx (.xd [(f,v)]):=by
   funext b
   by_cases hb:b=y
   . subst hb;rw[NC,AE (Ne.symm ne)];exact hy.symm
   . rw[Fy hb,AE hb];by_cases hbd:b=dx
     . subst hbd;rw[upd_same,upd_same]
     . rw[AE hbd,AE hb,AE hbd]
 rw[e];exact q dx hd'
theorem r_fldX {f:Str}{ta:TE}{Q:VK}(h:ta σ H fun x H1=>∃a C dx fs v,x = .ref a/\H1 a=some (ExcO a C (some dx))/\H1 dx=some (.xd fs)/\XK0 K C/\XSet K C f/\fs.lookup f=some v/\Q v H1):tFldX K ta f σ H Q:=h
end
end Stow
namespace Stow
open PySem L2 PyProof.Rows
section
variable {X:Cx}{x:Str}{C:Addr}{p pos:Pos}{e:Expr}{es:List Expr}{t:TA}
end
section
variable {K:PySem.W.Frag}{σ:L2.St}{H:Hp}{Q:VK}
end
end Stow
namespace Stow
open PySem L2 PyProof.Rows
end Stow
namespace Stow
open PySem L2 PyProof.Rows
section
variable {X:Cx}
def PTs (X:Cx)(ifs:List Expr)(t:TT):Prop:=∀(pins:List (Addr×Obj)) (s:Shared) (σ:L2.St) (H:Hp) (Q:Bool->Hp->Prop),Inv X pins σ H s->t σ H Q ->
 wpAny (model X.prog X.w) X.A (forIn ifs true fun c r=>if r=true then do let ok <-isTrue c X.env (eval c X.env);pure (ForInStep.yield ok) else pure (ForInStep.yield r)) (TP X pins σ Q) X.xe s
theorem Fz:PTs X [] (fun _ H Q=>Q true H):=fun pins s σ H Q I q=>wpAny_tests_nil ⟨H,I,q⟩
theorem DU {c:Expr}{t:TT}(h:PT X c t):PTs X [c] t:=fun pins s σ H Q I q=>wpAny_tests_one (h pins s σ H Q I q)
end
end Stow
namespace Stow
open PySem L2 PyProof.Rows
theorem WP {X:Cx}(hu:X.A.units+64<cLine):OpR X (compareOp .NotEq) (fun x y H Q=>∃(a b:Addr) (ns ms:List Int),x = .ref a/\y = .ref b/\SqL X.K H a (ns.map V.int)/\SqL X.K H b (ms.map V.int)/\Q (.bl (!decide (ns=ms))) H):=by
 intro pins s σ H x y v u Q I rx ry h;obtain⟨a,b,ns,ms,rfl,rfl,ha,hb,q⟩:=h;cases rx;cases ry;obtain⟨its,r1,p1,_⟩:=I.list ha;obtain⟨its2,r2,p2,_⟩:=I.list hb;exact PySem.W.ke_ne_ints p1.isList p2.isList (Nw r1) (Nw r2) hu ⟨.bl _,H,I,rfl,q⟩
section
variable {K:PySem.W.Frag}{σ:L2.St}{H:Hp}{Q:VK}{D:Ends}
theorem r_next (h:D.nx σ H):PV D σ H:=h
theorem r_seq {t u:TS}(h:t { D with nx:=u D } σ H):tSeq t u D σ H:=h
theorem r_nx {f:L2.St->Hp->Prop}{r:VK}{b c:L2.St->Hp->Prop}(h:f σ H):Ends.nx ⟨f,r,b,c⟩ σ H:=h
theorem r_rt {f:L2.St->Hp->Prop}{r:VK}{b c:L2.St->Hp->Prop}{v:V}(h:r v H):Ends.rt ⟨f,r,b,c⟩ v H:=h
theorem r_drop {te:TE}(h:te σ H fun _ H1=>D.nx σ H1):V9 te D σ H:=h
theorem r_ret {te:TE}(h:te σ H D.rt):tRet te D σ H:=h
theorem r_retN (h:D.rt .non H):tRetN D σ H:=h
theorem r_ifS {c:TT}{t u:TS}(h:c σ H fun b H1=>if b=true then t D σ H1 else u D σ H1):tIfS c t u D σ H:=h
theorem r_asg {te:TE}{g:TG}(h:te σ H fun x H1=>g x σ H1 D.nx):tAsg te g D σ H:=h
theorem r_gname {i:Nat}{v:V}{R:L2.St->Hp->Prop}(h:R (σ.set i (some v)) H):FW i v σ H R:=h
theorem r_gsub {to ti:TE}{t:TSet}{v:V}{R:L2.St->Hp->Prop}(h:to σ H fun o H1=>ti σ H1 fun i H2=>t o i v H2 fun H3=>R σ H3):gSub to ti t v σ H R:=h
theorem r_var {i:Nat}{v:V}(e:σ[i]?=some (some v))(h:Q v H):tVar i σ H Q:=⟨v,e,h⟩
theorem r_c {v:V}(h:Q v H):tC v σ H Q:=h
theorem r_op {r:R2}{ta tb:TE}(h:ta σ H fun x H1=>tb σ H1 fun y H2=>r x y H2 Q):tOp r ta tb σ H Q:=h
theorem r_un {r:V->Hp->VK->Prop}{ta:TE}(h:ta σ H fun x H1=>r x H1 Q):tUn r ta σ H Q:=h
theorem r_rI0 {g:Int->Int->V}{i j:Int}(h:Q (g i j) H):rI0 g (.int i) (.int j) H Q:=⟨i,j,rfl,rfl,h⟩
theorem r_rI {C:Int->Int->Prop}{g:Int->Int->V}{i j:Int}(c:C i j)(h:Q (g i j) H):rI C g (.int i) (.int j) H Q:=⟨i,j,rfl,rfl,c,h⟩
theorem r_rU {g:Int->V}{i:Int}(h:Q (g i) H):rU g (.int i) H Q:=⟨i,rfl,h⟩
theorem decV {i j:Int}:decide (V.int i=V.int j)=decide (i=j):=by rw[Nr];exact Bool.beq_eq_decide_eq i j
theorem r_eqI {i j:Int}(h:Q (.bl (decide (i=j))) H):rEq (.int i) (.int j) H Q:=⟨rfl,by rw[decV];exact h⟩
theorem r_neI {i j:Int}(h:Q (.bl (!decide (i=j))) H):rNe (.int i) (.int j) H Q:=⟨rfl,by rw[decV];exact h⟩
theorem r_isN {P:Prop}(h:P):V.non=V.non/\P:=⟨rfl,h⟩
theorem r_bl {b:Bool}{P:Bool->Prop}(h:P b):∃k,V.bl b=V.bl k/\P k:=⟨b,rfl,h⟩
theorem r_int {i:Int}{P:Int->Prop}(h:P i):∃k,V.int i=V.int k/\P k:=⟨i,rfl,h⟩
theorem r_test {t:TE}{R:Bool->Hp->Prop}(h:t σ H fun x H'=>∃k,x = .bl k/\R k H'):tTest t σ H R:=h
theorem r_tB {t:TE}{R:Bool->Hp->Prop}(h:t σ H fun x H'=>∃k,x = .bl k/\R k H'):tB t σ H R:=h
theorem r_and {t u:TT}{R:Bool->Hp->Prop}(h:t σ H fun c H1=>if c=true then u σ H1 R else R false H1):tAnd t u σ H R:=h
theorem r_or {t u:TT}{R:Bool->Hp->Prop}(h:t σ H fun c H1=>if c=true then R true H1 else u σ H1 R):tOr t u σ H R:=h
theorem r_not {t:TT}{R:Bool->Hp->Prop}(h:t σ H fun c H1=>R (!c) H1):tNot t σ H R:=h
theorem r_andV {ta tb:TE}(h:ta σ H fun x H1=>∃c,x = .bl c/\if c=true then tb σ H1 Q else Q (.bl false) H1):No ta tb σ H Q:=h
theorem r_orV {ta tb:TE}(h:ta σ H fun x H1=>∃c,x = .bl c/\if c=true then Q (.bl true) H1 else tb σ H1 Q):tOrV ta tb σ H Q:=h
theorem r_notV {ta:TE}(h:ta σ H fun x H1=>∃c,x = .bl c/\Q (.bl (!c)) H1):V6 ta σ H Q:=h
theorem r_ifE {t:TT}{ta tb:TE}(h:t σ H fun c H1=>if c=true then ta σ H1 Q else tb σ H1 Q):tIf t ta tb σ H Q:=h
theorem r_cons {ta:TE}{tr:TA}{R:List V->Hp->Prop}(h:ta σ H fun x H1=>tr σ H1 fun xs H2=>R (x::xs) H2):tCons ta tr σ H R:=h
theorem r_nil {R:List V->Hp->Prop}(h:R [] H):tNil σ H R:=h
theorem r_tup {t:TA}(h:t σ H fun xs H1=>xs.length<=sizeLine/\∀p,H1 p=none->Q (.ref p) (upd H1 p (.tup xs))):tTup t σ H Q:=h
theorem r_lst {t:TA}(h:t σ H fun xs H1=>xs.length<=sizeLine/\∀p,H1 p=none->Q (.ref p) (upd H1 p (.lst xs))):tLst t σ H Q:=h
theorem r_call {sp:Sp}{E:XK}{t:TA}(h:t σ H fun vs H1=>sp vs H1 Q E):F1 sp [] E t σ H Q:=by
 have e:(fun (vs:List V) H1=>sp (vs++[]) H1 Q E)=fun vs H1=>sp vs H1 Q E:=by funext vs H1;rw[List.append_nil]
 show t σ H fun vs H1=>sp (vs++[]) H1 Q E;rw[e];exact h
theorem r_cb {r:List V->Hp->VK->Prop}{t:TA}(h:t σ H fun vs H1=>r vs H1 Q):tCB r t σ H Q:=h
theorem r_sl {r:V->Option Int->Option Int->Hp->VK->Prop}{te:TE}{tl th:TO}(h:te σ H fun x H1=>tl σ H1 fun l H2=>th σ H2 fun u H3=>r x l u H3 Q):tSl r te tl th σ H Q:=h
theorem r_part {t:TE}{R:Option Int->Hp->Prop}(h:t σ H fun x H1=>∃i,x = .int i/\R (some i) H1):Wu t σ H R:=h
theorem r_bm {T:String}{r:V->List V->Hp->VK->Prop}{to:TE}{t:TA}(h:to σ H fun x H1=>tyV K T x H1/\t σ H1 fun xs H2=>r x xs H2 Q):tBM K T r to t σ H Q:=h
theorem r_bm0 {T:String}{r:V->List V->Hp->VK->Prop}{to:TE}(h:to σ H fun x H1=>tyV K T x H1/\r x [] H1 Q):tBM0 K T r to σ H Q:=h
theorem r_tyL {p:Addr}{xs:List V}{P:Prop}(h:H p=some (.lst xs))(q:P):tyV K "list" (.ref p) H/\P:=⟨.inl ⟨rfl,xs,SqL.of h⟩,q⟩
theorem r_append {l:Addr}{xs:List V}{y:V}(h:H l=some (.lst xs))(hz:xs.length<sizeLine)(q:Q .non (upd H l (.lst (xs++[y])))):P8 (.ref l) [y] H Q:=⟨l,xs,y,rfl,rfl,h,hz,q⟩
theorem r_appendI {l:Addr}{ns:List Int}{y:Int}(h:H l=some (.lst (ns.map V.int)))(hz:ns.length<sizeLine)(q:Q .non (upd H l (.lst ((ns++[y]).map V.int)))):P8 (.ref l) [.int y] H Q:=by
 rw[List.map_append] at q;exact⟨l,_,.int y,rfl,rfl,h,by rw[List.length_map];exact hz,q⟩
theorem r_cat {l b:Addr}{xs zs:List V}(h:H l=some (.lst xs))(h2:H b=some (.lst zs))(hz:xs.length+zs.length<=sizeLine)(q:∀p,H p=none->Q (.ref p) (upd H p (.lst (xs++zs)))):rCat (.ref l) (.ref b) H Q:=⟨l,b,xs,zs,rfl,rfl,h,h2,hz,q⟩
theorem Dt {p:Addr}{xs:List V}{i:Int}{v:V}(h:SqL K H p xs)(e:atI xs i=some v)(q:Q v H):rIxL K (.ref p) (.int i) H Q:=⟨p,xs,i,v,rfl,rfl,h,e,q⟩
theorem r_ixT {p:Addr}{xs:List V}{i:Int}{v:V}(h:H p=some (.tup xs))(e:atI xs i=some v)(q:Q v H):rIxT K (.ref p) (.int i) H Q:=⟨p,xs,i,v,rfl,rfl,SqT.of h,e,q⟩
theorem r_ixI {p:Addr}{ns:List Int}{k:Int}(h:SqL K H p (ns.map V.int))(h0:0<=k)(h1:k<ns.length)(q:Q (.int (ns.getD k.toNat 0)) H):rIxL K (.ref p) (.int k) H Q:=⟨p,_,k,_,rfl,rfl,h,aK ns k h0 h1,q⟩
theorem ixN_at {n:Nat}{k:Int}(h0:0<=k)(h:k<n):ixN n k=some k.toNat:=by
 unfold ixN;rw[if_pos h0,if_pos h]
theorem r_setI {p:Addr}{ns:List Int}{k x:Int}{R:Hp->Prop}(h:H p=some (.lst (ns.map V.int)))(h0:0<=k)(h1:k<ns.length)(q:R (upd H p (.lst ((ns.set k.toNat x).map V.int)))):P6 (.ref p) (.int k) (.int x) H R:=by
 refine⟨p,_,k,k.toNat,rfl,rfl,h,ixN_at h0 (by rw[List.length_map];exact h1),?_⟩;rw[List.map_set] at q;exact q
theorem r_lenI {p:Addr}{ns:List Int}{P:List V->Prop}(h:SqL K H p (ns.map V.int))(q:P (ns.map V.int)):∃p' ys,[V.ref p]=[V.ref p']/\(SqL K H p' ys\/SqT K H p' ys)/\P ys:=⟨p,_,rfl,.inl h,q⟩
theorem r_lenL {p:Addr}{xs:List V}{P:List V->Prop}(h:H p=some (.lst xs))(q:P xs):∃p' ys,[V.ref p]=[V.ref p']/\(SqL K H p' ys\/SqT K H p' ys)/\P ys:=⟨p,_,rfl,.inl (SqL.of h),q⟩
theorem r_isi {x:V}{n:String}{t:Value}{b:Bool}{P:Bool->Prop}(ty:TyOf K H x t)(e:kitOne K t (.type n)=some b)(q:P b):∃x' n' t' b',[x,V.ty n]=[x',V.ty n']/\TyOf K H x' t'/\kitOne K t' (.type n')=some b'/\P b':=⟨x,n,t,b,rfl,ty,e,q⟩
theorem r_max {i j:Int}{P:Int->Int->Prop}(q:P i j):∃i' j',[V.int i,V.int j]=[V.int i',V.int j']/\P i' j':=⟨i,j,rfl,q⟩
theorem r_new {xs:List V}{P:Prop}(h:xs.length<=1000)(q:P):xs.length<=sizeLine/\P:=⟨Nat.le_of_lt (small1000 h),q⟩
theorem r_truB {b:Bool}{P:Bool->Prop}(q:P b):∃k,TruV K (.bl b) H k/\P k:=⟨b,rfl,q⟩
theorem r_truL {p:Addr}{xs:List V}{P:Bool->Prop}(h:SqL K H p xs)(q:P (!xs.isEmpty)):∃k,TruV K (.ref p) H k/\P k:=⟨_,.inl ⟨xs,h,rfl⟩,q⟩
theorem r_for {wi:TI}{g:TG}{tb:TS}(h:wi σ H fun J H1=>∃W:Nat->Nat->L2.St->Hp->Prop,(∃m,W 0 m σ H1)/\∀i m σ H,W i m σ H ->
   (J.stop i H/\D.nx σ H)\/(J.go i H/\∃N:L2.St->Hp->Prop,(∀σ' H',N σ' H'->∃m',m'<m/\W (i+1) m' σ' H')/\∀x H',J.yld i H x H'->g x σ H' fun σ2 H2=>tb { D with nx:=N,ct:=N,bk:=D.nx } σ2 H2)):tFor wi g tb D σ H:=h
theorem r_iL {tl:TE}{R:It->Hp->Prop}(h:tl σ H fun x H1=>∃a,x = .ref a/\(∃xs,SqL K H1 a xs)/\R (Itl K a) H1):iList K tl σ H R:=h
theorem r_iR1 {ta:TA}{R:It->Hp->Prop}(h:ta σ H fun vs H1=>∃j:Int,vs=[.int j]/\-(2^62)<=j/\j<2^62/\R (Itr 0 j.toNat) H1):iRng1 ta σ H R:=h
theorem r_iR2 {ta:TA}{R:It->Hp->Prop}(h:ta σ H fun vs H1=>∃i j:Int,vs=[.int i,.int j]/\(-(2^62)<=i/\i<2^62/\-(2^62)<=j/\j<2^62)/\R (Itr i (j-i).toNat) H1):iRng2 ta σ H R:=h
theorem bI {p:Addr}{xs:List V}{i:Int}(h:SqL K H p xs)(hx:∀x∈xs,∃n,x=V.int n)(h0:0<=i)(h1:i<xs.length)(q:∀n,Q (.int n) H):rIxL K (.ref p) (.int i) H Q:=by
 have hi:i.toNat<xs.length:=by omega
 obtain⟨n,en⟩:=hx xs[i.toNat] (List.getElem_mem hi);have e:atI xs (i.toNat:Int)=some (.int n):=Ea (by rw[List.getElem?_eq_getElem hi,en]);rw[Int.toNat_of_nonneg h0] at e;exact Dt h e (q n)
theorem HX {t u:TS}{M:L2.St->Hp->Prop}(hM:∀σ' H',M σ' H'->u D σ' H')(h:∀nx:L2.St->Hp->Prop,(∀σ' H',M σ' H'->nx σ' H')->t { D with nx:=nx } σ H):tSeq t u D σ H:=h (u D) hM
theorem r_isIf {c:TT}{t u v:TS}(h:tSeq (tIfS c t u) v D σ H):tSeq (tIfS c t u) v D σ H:=h
end
theorem r_ifN {b:Bool}{A B:Prop}(h:if b=true then B else A):if (!b)=true then A else B:=by cases b <;> exact h
theorem AK {c A B:Prop}[Decidable c](h1:c->A)(h2:¬c->B):if decide c=true then A else B:=by
 by_cases h:c
 . rw[decide_eq_true h];exact iteT (h1 h)
 . rw[decide_eq_false h];exact iteF (h2 h)
theorem r_ifdT {c A B:Prop}[Decidable c](h:c)(h1:A):if decide c=true then A else B:=AK (fun _=>h1) fun z=>absurd h z
theorem r_ifdF {c A B:Prop}[Decidable c](h:¬c)(h1:B):if decide c=true then A else B:=AK (fun z=>absurd z h) fun _=>h1
theorem B9 {b:Bool}{A B:Prop}(h1:b=true->A)(h2:b=false->B):if b=true then A else B:=by
 cases b with
 | true=>exact iteT (h1 rfl)
 | false=>exact iteF (h2 rfl)
theorem look_put {H:Hp}{p d:Addr}{o v:HO}(hp:H p=none)(h:H d=some v):upd H p o d=some v:=(AE (A8 h hp)).trans h
theorem look_ne {H:Hp}{p d:Addr}{o v:HO}(hp:d≠p)(h:H d=some v):upd H p o d=some v:=(AE hp).trans h
theorem seq_put {K:PySem.W.Frag}{H:Hp}{p d:Addr}{o:HO}{xs:List V}(hp:H p=none)(h:SqL K H d xs):SqL K (upd H p o) d xs:=(Same.new hp).seq h
end Stow
namespace Stow
open PySem L2 PyProof.Rows
abbrev TX:=L2.St->Hp->VK->XK->Prop
def PX (X:Cx)(e:Expr)(t:TX):Prop:=∀(pins:List (Addr×Obj)) (s:Shared) (σ:L2.St) (H:Hp) (QV:VK) (EX:XK) (Qp W:Value->Shared->Prop),Inv X pins σ H s->t σ H QV EX->(∀u s',EP X pins σ QV u s'->Qp u s') ->
 (∀H1 s1 y s',Inv X pins σ H1 s1->CXe X.prog X.w X.stack H1 s1 EX y s'->W y s')->wpAny (model X.prog X.w) X.A (eval e X.env) Qp W s
def ND (sp:Sp)(dvs:List V)(ta:TA):TX:=fun σ H QV EX=>ta σ H fun vs H1=>sp (vs++dvs) H1 QV EX
def xMeth (C:Addr)(m:Str)(sp:Sp)(dvs:List V)(to:TE)(ta:TA):TX:=fun σ H QV EX=>to σ H fun x H1=>∃a dx fs,x = .ref a/\H1 a=some (.ins C dx fs)/\fs.lookup m=none/\ta σ H1 fun vs H2=>sp (x::(vs++dvs)) H2 QV EX
section
variable {X:Cx}{k:Nat}{f C:Addr}{fd:FuncData}{ps:List Str}{sp:Sp}{dvs:List V}{ds:List Value}{fx m:Str}{p pos apos:Pos}{e o:Expr}{es:List Expr}{to:TE}{ta:TA}
theorem Qf {pins:List (Addr×Obj)}{σ:L2.St}{H:Hp}{s:Shared}{us:List Value}{vs:List V}{QV:VK}{EX:XK}{Qp W:Value->Shared->Prop}(F:FnOk X.prog X.w X.K X.mg X.base (CXe X.prog X.w) k f fd ps sp)(hr:Room k X.A)(hb:Bi X.K fd ps ds)(hd:Vals dvs ds)
   (I:Inv X pins σ H s) (r:Vals vs us) (h:sp (vs++dvs) H QV EX) (hv:∀u s',EP X pins σ QV u s'->Qp u s') (hx:∀y s',CXe X.prog X.w X.stack H s EX y s'->W y s'):wpAny (model X.prog X.w) X.A (call (.ref f) us) Qp W s:=by
 have r2:Vals (vs++dvs) (us++ds):=r.append hd;have hl:(us++ds).length=ps.length:=by rw[<-r2.length];exact F.len _ _ _ _ h
 refine wpAny_call (codeAny_mono (F.run X.A X.stack s H ⟨us,[]⟩ (us++ds) (vs++dvs) QV EX hr I.env0 (hb s us I.kIn hl) r2 h) fun r s' hq=>?_);cases r with
 | error y=>exact hx y s' hq
 | ok fl =>
   cases fl with
   | ret u=>exact hv u s' (I.after hq)
   | next=>exact False.elim hq
   | brk=>exact False.elim hq
   | cont=>exact False.elim hq
theorem bJ (F:FnOk X.prog X.w X.K X.mg X.base (CXe X.prog X.w) k f fd ps sp)(hr:Room k X.A)(hg:Gl X fx)(hm:X.mg fx=some (.ref f))(hk:keepIn X.K (.ref f)=true)(hb:Bi X.K fd ps ds)(hd:Vals dvs ds)(ha:PA X.nox (e::es) ta)
   (hdb:(fx==("__debug__":Str))=false:=by decide) (he:starEach (e::es) X.env=(false,eval e X.env)::starEach es X.env:=by rfl) (hpl:(backTo pos (starEach es X.env)).any (·.1)=false:=by rfl) :
   PX X (.Call (.Name fx p) (e::es) [] pos) (ND sp dvs ta):=by
 intro pins s σ H QV EX Qp W I h hv hx;refine wpAny_Call_Name_kw (Dz I hg hm ?_ hdb);refine callWith_K (h₀:=X.base) I.ok.mod.kin hk (wpAny_mono (ha pos pins s σ H _ (I.wish _) h) (fun us s1 ⟨vs,H1,I1',r,q⟩=>?_) (fun _ _ z=>z.elim)) he hpl;have I1:=I1'.unwish;exact⟨I1.kIn,Qf F hr hb hd I1 r q hv fun y s' hq=>hx H1 s1 y s' I1 hq⟩
theorem px_meth {pl:Sem Bool}(ho:PE X.nox o to)(c:Cls X.K C)(hm:Meth X.K C m f)(F:FnOk X.prog X.w X.K X.mg X.base (CXe X.prog X.w) k f fd ps sp)(hr:Room k X.A)(hb:Bi X.K fd ps ds)(hd:Vals dvs ds)(ha:PA X.nox (e::es) ta)
   (hst:starEach (e::es) X.env=(false,eval e X.env)::starEach es X.env:=by rfl) (hpl:(backTo pos (starEach es X.env)).any (·.1)=false:=by rfl)
   (ht:eval (.Call (.Attribute o m apos) (e::es) [] pos) X.env=(do
     let ov <-eval o X.env
     standAt apos.atName
     let (f,first) <-holding [ov] (getMethod ov m pl)
     callWith pos f first (backTo pos (starEach (e::es) X.env)) (backToKw pos (keywordEach [] X.env))):=by rfl) :
   PX X (.Call (.Attribute o m apos) (e::es) [] pos) (xMeth C m sp dvs to ta):=by
 intro pins s σ H QV EX Qp W I h hv hx;refine methodCall_KW (pl:=pl) (wpAny_mono (ho pins s σ H _ (I.wish _) h) (fun u s1 ⟨x,H1,I1',rx,a,dx,fs,ex,ea,l,q⟩=>?_) (fun _ _ z=>z.elim)) ht;have I1:=I1'.unwish;subst ex;obtain rfl:u=Value.ref a:=rx;refine Jg I1 ea c hm l ?_;refine callWith_K (first:=[.ref a]) (h₀:=X.base) I.ok.mod.kin hm.kp (wpAny_mono (ha pos pins s1 σ H1 _ (I1.wish _) q) (fun us s2 ⟨vs,H2,I2',r,q2⟩=>?_) (fun _ _ z=>z.elim)) hst hpl;have I2:=I2'.unwish;exact⟨I2.kIn,Qf (us:=.ref a::us) (vs:=.ref a::vs) F hr hb hd I2 (.cons rfl r) q2 hv fun y s' hq=>hx H2 s2 y s' I2 hq⟩
end
def Fits (K:PySem.W.Frag)(C C0:Addr)(b:Bool):Prop:=∃(bm bm0:List Value),ECls K C bm/\ECls K C0 bm0/\(Value.ref C0::bm0).contains (.type "BaseException")=true/\(Value.ref C::bm).contains (.ref C0)=b
theorem NE {M:Model}{A:Around}{E:Value->Shared->Prop}{K:PySem.W.Frag}{C C0 x:Addr}{ox:Obj}{s:Shared}{b:Bool}{Q:Bool->Shared->Prop}(F:Fits K C C0 b)(KX:K.In s.heap)(hx:s.heap.get? x=some ox)(hc:ox.cls = .ref C)(k:Q b s) :
   wpAny M A (excMatches (.ref x) (.ref C0)) Q E s:=by
 obtain⟨bm,bm0,⟨nm,qn,N,bs,hd,sn,sub,ab,col,dd,k0,k1,k2,k3,k5,newId,lk⟩,⟨nm',qn',N',bs',hd',sn',sub',ab',col',dd',j0,j1,j2,j3,j5,new',lk0⟩,hb,hm⟩:=F;have hC:=KX _ _ lk;have hC0:=KX _ _ lk0;obtain⟨hh,g,d,t,os⟩:=s;exact aN hC hC0 hx hc hb hm k
abbrev TH:=Addr->Addr->TS
def PH (X:Cx)(hs:List ExceptHandler)(th:TH):Prop:=∀(pins:List (Addr×Obj)) (s:Shared) (σ:L2.St) (H:Hp) (D:Ends) (x C T:Addr) (od:Option Addr),X.Ok->Inv X pins σ H s->Exc s.heap x (.ref C) od T .none ->
 (∀h3,Upto (frs X.stack) [T] s.heap h3->Exc h3 x (.ref C) od T .none->Inv X pins σ H { s with heap:=h3 })->th x C D σ H->wpAny (model X.prog X.w) X.A (handleBy (.ref x) X.env hs) (SP X pins D) X.xe s
section
variable {X:Cx}{C0:Addr}{cx:Str}{np hpos pos epos:Pos}{b0:Stmt}{suite:List Stmt}{ts:Addr->TS}{hs:List ExceptHandler}{th:TH}{e:Expr}{t:TX}
theorem NF:PH X [] (fun _ _ _ _ _=>False):=fun _ _ _ _ _ _ _ _ _ _ _ _ _ h=>h.elim
theorem WQ (hgc:Gl X cx)(hc0:X.mg cx=some (.ref C0))(hss:∀x,PSs (Cx.suite X x) (b0::suite) (ts x))(hr:PH X hs th)(hdc:(cx==("__debug__":Str))=false:=by decide) :
   PH X (.ExceptHandler (some (.Name cx np)) none (b0::suite) hpos::hs) (fun x C D σ H=>(Fits X.K C C0 true/\ts x D σ H)\/(Fits X.K C C0 false/\th x C D σ H)):=by
 intro pins s σ H D x C T od ok J t2 again h;obtain⟨oe,vs,oT,tts,ne,ee,hcl,_⟩:=id t2;rcases h with ⟨fit,q⟩ | ⟨fit,q⟩
 . refine wpAny_handleBy_cons (codeAny_handlers_test (Dz (X:=Cx.suite X x) (HW J x) hgc hc0 (NE fit J.kIn ee hcl ?_) hdc)) (by intro z;cases z);refine codeAny_handlers_suite ?_;refine Jn (fr:=frs X.stack) t2 fun h3 u3 t3=>?_;exact wpAny_mono (hss x pins _ σ _ D (HW (again h3 u3 t3) x) q) (fun fl s4 q4=>aS ok q4) (fun _ _ z=>z.elim)
 . refine wpAny_handleBy_cons (codeAny_handlers_test (Dz (X:=Cx.suite X x) (HW J x) hgc hc0 (NE fit J.kIn ee hcl ?_) hdc)) (by intro z;cases z);exact hr pins s σ H D x C T od ok J t2 again q
theorem WR {i:Nat}{n:Str}(hgc:Gl X cx)(hc0:X.mg cx=some (.ref C0))(hN:X.N.Nodup)(hi:X.N[i]?=some n)(hln:X.env.kindOf n=some .local)(hss:∀x,PSs (Cx.suite X x) (b0::suite) (ts x))(hr:PH X hs th)(hdc:(cx==("__debug__":Str))=false:=by decide) :
   PH X (.ExceptHandler (some (.Name cx np)) (some n) (b0::suite) hpos::hs)
     (fun x C D σ H=>(Fits X.K C C0 true/\ts x { D with nx:=fun σ' H'=>D.nx (σ'.set i none) H',bk:=fun σ' H'=>D.bk (σ'.set i none) H',ct:=fun σ' H'=>D.ct (σ'.set i none) H' } (σ.set i (some (.ref x))) H)\/(Fits X.K C C0 false/\th x C D σ H)):=by
 intro pins s σ H D x C T od ok J t2 again h;obtain⟨oe,vs,oT,tts,ne,ee,hcl,_⟩:=id t2;rcases h with ⟨fit,q⟩ | ⟨fit,q⟩
 . refine wpAny_handleBy_cons (codeAny_handlers_test (Dz (X:=Cx.suite X x) (HW J x) hgc hc0 (NE fit J.kIn ee hcl ?_) hdc)) (by intro z;cases z);refine codeAny_handlers_suite_as ?_;refine Jn (fr:=frs X.stack) t2 fun h3 u3 t3=>?_;refine Nn (X:=Cx.suite X x) (HW (again h3 u3 t3) x) hN hi (.inl hln) (v:=.ref x) rfl (fun s4 J4=>?_) (.inr hln);refine wpAny_mono (hss x pins s4 _ _ _ J4 q) (fun fl s5 q5=>?_) (fun _ _ z=>z.elim);cases fl with
   | next=>obtain⟨σ',H',I5,q⟩:=q5;exact NA (Fx ok I5) hN hi hln fun s6 I6=>⟨_,_,I6,q⟩
   | brk=>obtain⟨σ',H',I5,q⟩:=q5;exact NA (Fx ok I5) hN hi hln fun s6 I6=>⟨_,_,I6,q⟩
   | cont=>obtain⟨σ',H',I5,q⟩:=q5;exact NA (Fx ok I5) hN hi hln fun s6 I6=>⟨_,_,I6,q⟩
   | ret u=>obtain⟨v,σ',H',I5,r,q⟩:=q5;exact NA (Fx ok I5) hN hi hln fun s6 I6=>⟨v,_,_,I6,r,q⟩
 . refine wpAny_handleBy_cons (codeAny_handlers_test (Dz (X:=Cx.suite X x) (HW J x) hgc hc0 (NE fit J.kIn ee hcl ?_) hdc)) (by intro z;cases z);exact hr pins s σ H D x C T od ok J t2 again q
theorem Upto.refl (fr ex:List Addr)(h:Heap):Upto fr ex h h:=⟨fun _ _ _ _ q=>q,fun b o _ q=>⟨o.slots,q⟩⟩
def tTryE (t:TX)(th:TH):TS:=fun D σ H=>t σ H (fun _ H2=>D.nx σ H2) fun c od H2=>∃C,c = .ref C/\∀x,H2 x=none->th x C D σ (upd H2 x (ExcO x C od))
def tTryA (i:Nat)(t:TX)(th:TH):TS:=fun D σ H=>t σ H (fun v H2=>D.nx (σ.set i (some v)) H2) fun c od H2=>∃C,c = .ref C/\∀x,H2 x=none->th x C D σ (upd H2 x (ExcO x C od))
theorem WS {h₀:ExceptHandler}(he:PX X e t)(hst:X.stack=X.env::X.outer/\X.env.frame=some X.env.locals)(hh:PH X (h₀::hs) th)(hsw:swapsWith e none epos.line X.env=pure false:=by rfl) :
   PS X (.Try [.Expr e epos] (h₀::hs) [] [] pos) (tTryE t th):=by
 intro pins s σ H D I h;refine wpAny_Try_except (wpAny_execs_cons (wpAny_Expr_any (he pins s σ H _ _ _ _ I h (fun u s' ⟨v,H2,I2,_,q2⟩=>wpAny_execs_nil (wpAny_execs_nil ⟨σ,H2,I2,q2⟩)) (fun H1 s1 y s' I1 hq=>?_)) I.quiet hsw));refine Qc I1 hst hq fun x C od T h2 H2 ex ⟨C',ec,q⟩ t2 J2 again=>?_;subst ex;cases ec;exact hh pins _ σ _ D x C T od I.ok J2 t2 (fun h3 u3 t3=>(again h3 u3 t3).2) (q x (again h2 (Upto.refl _ _ _) t2).1)
theorem bK {h₀:ExceptHandler}{i:Nat}{y:Str}{py:Pos}(hN:X.N.Nodup)(hi:X.N[i]?=some y)(hy:Loc X.env.scope y)(he:PX X e t)(hst:X.stack=X.env::X.outer/\X.env.frame=some X.env.locals)(hh:PH X (h₀::hs) th)
   (hsw:swapsWith e (some (.Name y py)) epos.line X.env=pure false:=by rfl) (hf:X.fn y=true\/X.env.scope.names.lookup y=some .local:=by first | exact .inl rfl | exact .inr rfl | assumption) :
   PS X (.Try [.Assign [.Name y py] e epos] (h₀::hs) [] [] pos) (tTryA i t th):=by
 intro pins s σ H D I h;refine wpAny_Try_except (wpAny_execs_cons (wpAny_Assign_Name (he pins s σ H _ _ _ _ I h (fun u s' ⟨v,H2,I2,r2,q2⟩=>Nn I2 hN hi hy r2 (fun s3 I3=>wpAny_execs_nil (wpAny_execs_nil ⟨_,H2,I3,q2⟩)) hf) (fun H1 s1 z s' I1 hq=>?_)) hsw));refine Qc I1 hst hq fun x C od T h2 H2 ex ⟨C',ec,q⟩ t2 J2 again=>?_;subst ex;cases ec;exact hh pins _ σ _ D x C T od I.ok J2 t2 (fun h3 u3 t3=>(again h3 u3 t3).2) (q x (again h2 (Upto.refl _ _ _) t2).1)
end
section
variable {K:PySem.W.Frag}{σ:L2.St}{H:Hp}{D:Ends}
theorem r_tryE {t:TX}{th:TH}(h:t σ H (fun _ H2=>D.nx σ H2) fun c od H2=>∃C,c = .ref C/\∀x,H2 x=none->th x C D σ (upd H2 x (ExcO x C od))):tTryE t th D σ H:=h
theorem r_tryA {i:Nat}{t:TX}{th:TH}(h:t σ H (fun v H2=>D.nx (σ.set i (some v)) H2) fun c od H2=>∃C,c = .ref C/\∀x,H2 x=none->th x C D σ (upd H2 x (ExcO x C od))):tTryA i t th D σ H:=h
theorem r_xCall {sp:Sp}{ta:TA}{QV:VK}{EX:XK}(h:ta σ H fun vs H1=>sp vs H1 QV EX):ND sp [] ta σ H QV EX:=by
 unfold ND;simp only [List.append_nil];exact h
end
end Stow
namespace Stow
open PySem L2 PyProof.Rows
structure FunD (K:PySem.W.Frag)(x qual:Str)(st:Stmt)(dV:Value)(f:Addr)(fd:FuncData):Prop where
 ex:∃(oc:Value) (od:Option Addr) (kV doc pm:Value) (an:Option Addr) (cdv ct:Value) (osl:Array (Option Value)),
   fd=fnOf x qual (A7 st) (AX st) (An st) dV kV doc pm an cdv ct/\K.lookup f=some ⟨oc,od,.func fd,osl⟩/\codeIn K cdv qual=true
 kp:keepIn K (.ref f)=true
theorem Jo {K:PySem.W.Frag}{x qual:Str}{st:Stmt}{f:Addr}{oc:Value}{od an:Option Addr}{osl:Array (Option Value)}{dV kV doc pm cdv ct:Value}(l:K.lookup f=some ⟨oc,od,.func (fnOf x qual (A7 st) (AX st) (An st) dV kV doc pm an cdv ct),osl⟩)
   (c:codeIn K cdv qual=true) (k:keepIn K (.ref f)=true):FunD K x qual st dV f (fnOf x qual (A7 st) (AX st) (An st) dV kV doc pm an cdv ct):=⟨⟨oc,od,kV,doc,pm,an,cdv,ct,osl,rfl,l,c⟩,k⟩
section
variable {P:Program}{w:World}{K:PySem.W.Frag}{mg:Str->Option Value}{base:Heap}
theorem Jp {x qual:Str}{st:Stmt}{dV:Value}{f:Addr}{fd:FuncData}{N ps:List Str}{k:Nat}{sp:Sp}(F:FunD K x qual st dV f fd)(S:FnScope N ps (An st))(len:∀vs H Q E,sp vs H Q E->vs.length=ps.length)
   (hbody:∀(cdv:Value) (A:Around) (outer:List Env) (s:Shared) (H:Hp) (vs:List V) (Q:VK) (E:XK),Room k (A.deeper (envOfC qual (An st) s.heap.objs.size f cdv))->sp vs H Q E ->
     ∃t,PSs (cxOf (CXe P w) P w K mg base N qual (An st) f cdv A outer s H E) (AX st) t/\t { nx:=fun _ H'=>Q .non H',rt:=Q } (start N vs) H):FnOk P w K mg base (CXe P w) (k+1) f fd ps sp:=by
 obtain⟨oc,od,kV,doc,pm,an,cdv,ct,osl,rfl,lk,hcd⟩:=F.ex;exact P4 lk hcd S len fun A outer s H vs Q E hr hsp=>hbody cdv A outer s H vs Q E hr hsp
theorem FunD.binds {x qual:Str}{st:Stmt}{dV:Value}{f:Addr}{fd:FuncData}{ps:List Str}(F:FunD K x qual st dV f fd)
   (h:∀(kV doc pm:Value) (an:Option Addr) (cdv ct:Value) (us:List Value),us.length=ps.length->bindArgs (fnOf x qual (A7 st) (AX st) (An st) dV kV doc pm an cdv ct) ⟨us,[]⟩=pure (ps.zip us)):Bi K fd ps []:=by
 obtain⟨oc,od,kV,doc,pm,an,cdv,ct,osl,rfl,lk,hcd⟩:=F.ex;exact .all (h kV doc pm an cdv ct)
theorem FunD.bindsD {x qual:Str}{st:Stmt}{T:Addr}{f:Addr}{fd:FuncData}{ps:List Str}{ds:List Value}{tc:Value}{td:Option Addr}{tn:Nat}{tsl:Array (Option Value)}(F:FunD K x qual st (.ref T) f fd)
   (lt:K.lookup T=some ⟨tc,td,.seq ds.toArray tn,tsl⟩)
   (h:∀(kV doc pm:Value) (an:Option Addr) (cdv ct:Value) (us:List Value),(us++ds).length=ps.length->∃k:Option (Array Value)->Sem (List (Str×Value)),
     bindArgs (fnOf x qual (A7 st) (AX st) (An st) (.ref T) kV doc pm an cdv ct) ⟨us,[]⟩=seqItems? (.ref T) >>= k/\k (some ds.toArray)=pure (ps.zip (us++ds))):Bi K fd ps ds:=by
 obtain⟨oc,od,kV,doc,pm,an,cdv,ct,osl,rfl,lk,hcd⟩:=F.ex;intro s us X hl;obtain⟨k,h1,h2⟩:=h kV doc pm an cdv ct us hl;exact .of_defaults rfl (X _ _ lt) rfl h1 h2
end
structure Methx (P:Program)(w:World)(K:PySem.W.Frag)(mg:Str->Option Value)(base:Heap)(C:Addr)(m:Str)(j:Nat)(ps:List Str)(dvs:List V)(sp:Sp):Prop where
 ex:∃(f:Addr) (fd:FuncData) (ds:List Value),FnOk P w K mg base (CXe P w) j f fd ps sp/\Meth K C m f/\Bi K fd ps ds/\Vals dvs ds
 cl:Cls K C
structure Makex (P:Program)(w:World)(K:PySem.W.Frag)(mg:Str->Option Value)(base:Heap)(x:Str)(C:Addr)(j:Nat)(ps:List Str)(dvs:List V)(sp:Sp):Prop where
 ex:∃(f:Addr) (fd:FuncData) (ds:List Value),FnOk P w K mg base (CXe P w) j f fd ps sp/\Mk K C f/\Bi K fd ps ds/\Vals dvs ds
 bound:mg x=some (.ref C)
structure ClsM (K:PySem.W.Frag)(C:Addr)(m:Str)(f:Addr):Prop where
 sp:specialIn K (.ref C) "__getattribute__"=some (some (.builtin "type.__getattribute__"))
 rd:readsIn K C (.type "type")=true
 fc:findCls K (.ref C) (.type "type") m=some (.val (.ref f))
 kp:keepIn K (.ref f)=true
structure Basex (P:Program)(w:World)(K:PySem.W.Frag)(mg:Str->Option Value)(base:Heap)(x:Str)(m:Str)(j:Nat)(ps:List Str)(sp:Sp):Prop where
 ex:∃(C f:Addr) (fd:FuncData),FnOk P w K mg base (CXe P w) j f fd ps sp/\ClsM K C m f/\Bi K fd ps []/\mg x=some (.ref C)
section
variable {X:Cx}{j k:Nat}{C:Addr}{ps:List Str}{sp:Sp}{dvs:List V}{x m:Str}{p pos apos:Pos}{e o:Expr}{es:List Expr}{to:TE}{t:TA}{EX:XK}
theorem WT (D:Defx X.prog X.w X.K X.mg X.base x j ps sp)(hr:Room k X.A)(hg:Gl X x)(ha:PA X.nox (e::es) t)(hk:j<=k:=by decide)
   (hdb:(x==("__debug__":Str))=false:=by decide) (he:starEach (e::es) X.env=(false,eval e X.env)::starEach es X.env:=by rfl) (hpl:(backTo pos (starEach es X.env)).any (·.1)=false:=by rfl):PX X (.Call (.Name x p) (e::es) [] pos) (ND sp [] t):=by
 obtain⟨f,fd,F,hm,kp,b⟩:=D.ex;exact bJ F (hr.mono hk) hg hm kp b .nil ha hdb he hpl
theorem F5 (D:Makex X.prog X.w X.K X.mg X.base x C j ps dvs sp)(hp:DB (CXe X.prog X.w) X EX)(hr:Room k X.A)(hg:Gl X x)(ha:PA X (e::es) t)(hk:j+1<=k:=by decide)
   (hdb:(x==("__debug__":Str))=false:=by decide) (he:starEach (e::es) X.env=(false,eval e X.env)::starEach es X.env:=by rfl) (hpl:(backTo pos (starEach es X.env)).any (·.1)=false:=by rfl):PE X (.Call (.Name x p) (e::es) [] pos) (Nv C sp dvs EX t):=by
 obtain⟨f,fd,ds,F,M,hb,hd⟩:=D.ex;exact ZY M F (hr.mono hk) hg D.bound hb hd hp ha hdb he hpl
theorem Qg {pl:Sem Bool}{p':Pos}(D:Basex X.prog X.w X.K X.mg X.base x m j ps sp)(hp:DB (CXe X.prog X.w) X EX)(hr:Room k X.A)(hg:Gl X x)(ha:PA X (e::es) t)(hk:j<=k:=by decide)(hdb:(x==("__debug__":Str))=false:=by decide)
   (hst:starEach (e::es) X.env=(false,eval e X.env)::starEach es X.env:=by rfl) (hpl:(backTo pos (starEach es X.env)).any (·.1)=false:=by rfl)
   (ht:eval (.Call (.Attribute (.Name x p') m apos) (e::es) [] pos) X.env=(do
     let ov <-eval (.Name x p') X.env
     standAt apos.atName
     let (f,first) <-holding [ov] (getMethod ov m pl)
     callWith pos f first (backTo pos (starEach (e::es) X.env)) (backToKw pos (keywordEach [] X.env))):=by rfl):PE X (.Call (.Attribute (.Name x p') m apos) (e::es) [] pos) (F1 sp [] EX t):=by
 obtain⟨C,f,fd,F,M,hb,hm⟩:=D.ex;intro pins s σ H Q I h;refine methodCall_KW (pl:=pl) (Dz I hg hm ?_ hdb) ht;refine PySem.W.method_cls I.kIn M.sp (PySem.W.cls_value I.kIn M.rd M.fc rfl ?_);have I':=I.tok (s.toks+1);refine callWith_K (h₀:=X.base) I.ok.mod.kin M.kp (thn (ha pos pins _ σ H _ I' h) fun us s1 ⟨vs,H1,I1,r,q⟩=>⟨I1.kIn,?_⟩) hst hpl;exact Jh F (hr.mono hk) hb .nil hp I1 r q
end
section
variable {K:PySem.W.Frag}{σ:L2.St}{H:Hp}{Q:VK}{D:Ends}
theorem r_fld {f:Str}{ta:TE}(h:ta σ H fun x H1=>∃a C dx fs v,x = .ref a/\H1 a=some (.ins C dx fs)/\Cls K C/\BF K C f/\fs.lookup f=some v/\Q v H1):tFld K ta f σ H Q:=h
theorem r_at {a C dx:Addr}{fs:List (Str×V)}{f:Str}{v:V}{P:V->Prop}(h:H a=some (.ins C dx fs))(c:Cls K C)(n:BF K C f)(l:fs.lookup f=some v)(q:P v) :
   ∃a' C' dx' fs' v',V.ref a=V.ref a'/\H a'=some (.ins C' dx' fs')/\Cls K C'/\BF K C' f/\fs'.lookup f=some v'/\P v':=⟨a,C,dx,fs,v,rfl,h,c,n,l,q⟩
theorem r_sfld {f:Str}{ta tv:TE}(h:tv σ H fun y H1=>ta σ H1 fun x H2=>∃a C dx fs,x = .ref a/\H2 a=some (.ins C dx fs)/\Cls K C/\BF K C f/\fs.length<1000/\D.nx σ (upd H2 a (.ins C dx (putF f y fs)))):sFld K ta tv f D σ H:=h
end
end Stow
namespace Stow
open PySem L2 PyProof.Rows
section
variable {X:Cx}
end
section
variable {a x:Option V}{v:V}{l r:L2.St}{k:Nat}{n:Str}{ns:List Str}{vs:List V}
theorem set0_c:(a::l).set 0 x=x::l:=rfl
theorem bL:L2.start (n::ns) (v::vs)=some v::L2.start ns vs:=by
 unfold L2.start;rw[List.length_cons,List.length_cons,Nat.add_sub_add_right];rfl
theorem set0_0:(L2.start (n::ns) []).set 0 x=x::L2.start ns []:=rfl
theorem setS_c (h:l.set k x=r):(a::l).set (k+1) x=a::r:=h▸rfl
theorem setS_1 (h:(L2.start ns vs).set k x=r):(L2.start (n::ns) (v::vs)).set (k+1) x=some v::r:=by
 rw[bL,<-h];rfl
theorem r_gnameN {σ σ':L2.St}{H:Hp}{i:Nat}{R:L2.St->Hp->Prop}(e:σ.set i (some v)=σ')(h:R σ' H):FW i v σ H R:=by
 subst e;exact h
end
def cutI (ns:List Int)(l u:Option Int):List Int:=(ns.drop (HT.sIx ns.length 0 l)).take (HT.sIx ns.length ns.length u-HT.sIx ns.length 0 l)
theorem bM (ns:List Int)(l u:Option Int):cutV (ns.map V.int) l u=(cutI ns l u).map V.int:=by
 unfold cutV cutI;rw[List.map_take,List.map_drop,List.length_map]
section
variable {K:PySem.W.Frag}{σ:L2.St}{H:Hp}{D:Ends}{Q:VK}
theorem r_sllG {a:Addr}{ns:List Int}{lo hi:Option Int}(h:SqL K H a (ns.map V.int))(q:∀p H',H p=none->Same H H'->H' p=some (.lst ((cutI ns lo hi).map V.int))->Q (.ref p) H'):rSlL K (.ref a) lo hi H Q :=
 ⟨a,_,rfl,h,fun p hp=>by rw[bM];exact q p _ hp (Same.new hp) upd_same⟩
theorem WU (ns:List Int)(l u:Nat):(cutI ns (some l) (some u)).length<=u-l:=by
 unfold cutI;rw[List.length_take];have e1:=HT.sIx_nat ns.length ns.length u;have e2:=HT.sIx_nat ns.length 0 l;rw[e1,e2,List.length_drop];omega
theorem r_isSeq {t u:TS}(h:tSeq t u D σ H):tSeq t u D σ H:=h
theorem r_isAnd {ta tb:TE}(h:No ta tb σ H Q):No ta tb σ H Q:=h
theorem r_isOr {ta tb:TE}(h:tOrV ta tb σ H Q):tOrV ta tb σ H Q:=h
end
end Stow
namespace Stow
open PySem L2 PyProof.Rows
section
variable {K:PySem.W.Frag}{σ:L2.St}{H:Hp}{Q:VK}
theorem r_gtup {a:Addr}{xs:List V}{n:Nat}{t:TGs}{R:L2.St->Hp->Prop}(h:H a=some (.tup xs))(hl:xs.length=n)(q:t xs σ H R):gTup K n t (.ref a) σ H R:=⟨a,xs,rfl,SqT.of h,hl,q⟩
theorem r_gcons {v:V}{r:List V}{t:TG}{u:TGs}{R:L2.St->Hp->Prop}(h:t v σ H fun σ' H'=>u r σ' H' R):Wa t u (v::r) σ H R:=⟨v,r,rfl,h⟩
theorem r_gnil {R:L2.St->Hp->Prop}(h:R σ H):gNil [] σ H R:=⟨rfl,h⟩
theorem HY {p:Addr}{xs:List V}{v:V}(h:SqL K H p (xs++[v]))(q:Q v H):rIxL K (.ref p) (.int (-1)) H Q:=Dt h (Z4 xs v) q
theorem bO {p:Addr}{xs:List V}{v w:V}{R:Hp->Prop}(h:H p=some (.lst (xs++[v])))(q:R (upd H p (.lst (xs++[w])))):P6 (.ref p) (.int (-1)) w H R:=by
 refine⟨p,_,-1,xs.length,rfl,rfl,h,?_,?_⟩
 . unfold ixN;rw[if_neg (by decide),List.length_append,List.length_singleton,if_pos (by omega)]
   congr 1
   omega
 . rw[List.set_append_right _ _ (Nat.le_refl _),Nat.sub_self];exact q
end
end Stow
namespace Stow
def fpl (a b:Int):Int:=a+(b-1-a%b)
def fp (a n L b:Int):Option Int:=if fpl a b+L<=a+n then some (fpl a b) else none
theorem fpl_ge {a b:Int}(hb:1<=b):a<=fpl a b:=by
 unfold fpl;have:=Int.emod_lt_of_pos a (show 0<b by omega);omega
end Stow
namespace Stow
open PySem L2 PyProof.Rows
def AA (H:Hp)(us:List V)(ps:List Pc):Prop:=us.length=ps.length/\∀(i:Nat) (p:Pc),ps[i]?=some p->∃a,us[i]?=some (.ref a)/\H a=some (.tup [.int p.a,.int p.l,.bl p.v])
theorem AA.nil {H:Hp}:AA H [] []:=⟨rfl,fun i p h=>by simp at h⟩
theorem AA.mono {H H':Hp}{us:List V}{ps:List Pc}(h:AA H us ps)(k:∀b xs,H b=some (.tup xs)->H' b=some (.tup xs)):AA H' us ps :=
 ⟨h.1,fun i p e=>let ⟨a,h1,h2⟩:=h.2 i p e;⟨a,h1,k _ _ h2⟩⟩
theorem AA.same {H H':Hp}{us:List V}{ps:List Pc}(h:AA H us ps)(k:Same H H'):AA H' us ps:=h.mono fun b xs e=>k b _ e
theorem AA.snoc {H:Hp}{us:List V}{ps:List Pc}{p:Pc}{a:Addr}(h:AA H us ps)(ha:H a=some (.tup [.int p.a,.int p.l,.bl p.v])):AA H (us++[.ref a]) (ps++[p]):=by
 refine⟨by simp [h.1],fun i q e=>?_⟩;have hl:=h.1;by_cases hi:i<ps.length
 . rw[List.getElem?_append_left hi] at e;obtain⟨b,h1,h2⟩:=h.2 i q e;exact⟨b,by rw[List.getElem?_append_left (by omega)];exact h1,h2⟩
 . have hlt:i<(ps++[p]).length:=(List.getElem?_eq_some_iff.mp e).1;have hi2:i=ps.length:=by simp at hlt;omega
   subst hi2;rw[List.getElem?_append_right (Nat.le_refl _)] at e;have e':p=q:=by simpa using e
   subst e';exact⟨a,by rw[<-hl,List.getElem?_append_right (Nat.le_refl _)];simp,ha⟩
theorem Ct {H:Hp}{p:Addr}{o:HO}(hp:H p=none\/∃xs,H p=some (.lst xs)):∀b xs,H b=some (.tup xs)->upd H p o b=some (.tup xs):=fun b xs e=>by
 have hne:b≠p:=fun z=>by
   subst z;rcases hp with h | ⟨ys,h⟩
   . rw[h] at e;cases e
   . rw[h] at e;cases e
 rw[AE hne];exact e
theorem AA.push {H:Hp}{us:List V}{ps:List Pc}{p t:Addr}{z:Pc}(h:AA H us ps)(hp:H p=some (.lst us))(ht:H t=none) :
   upd (upd H t (.tup [.int z.a,.int z.l,.bl z.v])) p (.lst (us++[.ref t])) p=some (.lst (us++[.ref t])) /\
   AA (upd (upd H t (.tup [.int z.a,.int z.l,.bl z.v])) p (.lst (us++[.ref t]))) (us++[.ref t]) (ps++[z]):=by
 have hpt:p≠t:=A8 hp ht;have hp2:upd H t (.tup [.int z.a,.int z.l,.bl z.v]) p=some (.lst us):=by rw[AE hpt];exact hp
 refine⟨upd_same,?_⟩;refine AA.snoc ?_ ?_
 . exact(h.mono (Ct (.inl ht))).mono (Ct (.inr ⟨_,hp2⟩))
 . exact Ct (.inr ⟨_,hp2⟩) _ _ upd_same
theorem AA.at {H:Hp}{us:List V}{ps:List Pc}(h:AA H us ps){k:Int}(h0:0<=k)(h1:k<us.length):∃t z,atI us k=some (.ref t)/\ps[k.toNat]?=some z/\H t=some (.tup [.int z.a,.int z.l,.bl z.v]):=by
 have hl:=h.1;have hk:k.toNat<ps.length:=by omega
 obtain⟨t,e1,e2⟩:=h.2 k.toNat ps[k.toNat] (by simp [hk]);refine⟨t,_,?_,by simp [hk],e2⟩;have:=Ea e1
 rwa [Int.toNat_of_nonneg h0] at this
def AZ (H:Hp)(us:List V)(xs:List (List V)):Prop:=us.length=xs.length/\∀(i:Nat) (x:List V),xs[i]?=some x->∃a,us[i]?=some (.ref a)/\H a=some (.tup x)
theorem AZ.nil {H:Hp}:AZ H [] []:=⟨rfl,fun i p h=>by simp at h⟩
theorem AZ.mono {H H':Hp}{us:List V}{xs:List (List V)}(h:AZ H us xs)(k:∀b ys,H b=some (.tup ys)->H' b=some (.tup ys)):AZ H' us xs :=
 ⟨h.1,fun i p e=>let ⟨a,h1,h2⟩:=h.2 i p e;⟨a,h1,k _ _ h2⟩⟩
theorem AZ.same {H H':Hp}{us:List V}{xs:List (List V)}(h:AZ H us xs)(k:Same H H'):AZ H' us xs:=h.mono fun b ys e=>k b _ e
theorem AZ.push {H:Hp}{us:List V}{xs:List (List V)}{p t:Addr}{z:List V}(h:AZ H us xs)(hp:H p=some (.lst us))(ht:H t=none) :
   AZ (upd (upd H t (.tup z)) p (.lst (us++[.ref t]))) (us++[.ref t]) (xs++[z]):=by
 have hpt:p≠t:=A8 hp ht;have hp2:upd H t (.tup z) p=some (.lst us):=by rw[AE hpt];exact hp
 have h2:=(h.mono (Ct (o:=.tup z) (.inl ht))).mono (Ct (o:=.lst (us++[.ref t])) (.inr ⟨_,hp2⟩));have hz:upd (upd H t (.tup z)) p (.lst (us++[.ref t])) t=some (.tup z):=Ct (.inr ⟨_,hp2⟩) _ _ upd_same;refine⟨by simp [h.1],fun i q e=>?_⟩;have hl:=h.1;by_cases hi:i<xs.length
 . rw[List.getElem?_append_left hi] at e;obtain⟨b,h1,h3⟩:=h2.2 i q e;exact⟨b,by rw[List.getElem?_append_left (by omega)];exact h1,h3⟩
 . have hlt:i<(xs++[z]).length:=(List.getElem?_eq_some_iff.mp e).1;have hi2:i=xs.length:=by simp at hlt;omega
   subst hi2;rw[List.getElem?_append_right (Nat.le_refl _)] at e;have e':z=q:=by simpa using e
   subst e';exact⟨t,by rw[<-hl,List.getElem?_append_right (Nat.le_refl _)];simp,hz⟩
theorem AZ.at {H:Hp}{us:List V}{xs:List (List V)}(h:AZ H us xs){i:Nat}(h1:i<us.length):∃t z,atI us (0+(i:Int))=some (.ref t)/\xs[i]?=some z/\H t=some (.tup z):=by
 have hl:=h.1;have hk:i<xs.length:=by omega
 obtain⟨t,e1,e2⟩:=h.2 i xs[i] (by simp [hk]);exact⟨t,_,by rw[Int.zero_add];exact Ea e1,by simp [hk],e2⟩
@[reducible] def optV:Option Int->V
 | none=>.non
 | some b=>.int b
def Qh:Sp:=fun vs H Q _=>∃n:Int,vs=[.int n]/\Q (.int (n/2)) H
def Qi:Sp:=fun vs H Q _=>∃n:Int,vs=[.int n]/\Q (.bl (decide (n%2=1))) H
def Qj (K:PySem.W.Frag):Sp:=fun vs H Q _=>∃(a:Addr) (ns:List Int) (k:Int),vs=[.ref a,.int k]/\SqL K H a (ns.map V.int)/\0<=k/\k<ns.length/\Q (.bl (BZ ns k)) H
def Qk (K:PySem.W.Frag):Sp:=fun vs H Q _=>∃(a:Addr) (ns:List Int) (k:Int),vs=[.ref a,.int k]/\SqL K H a (ns.map V.int)/\0<=k/\k<ns.length/\Q (optV (Bp ns k)) H
def WV (K:PySem.W.Frag)(C:Addr):Sp:=fun vs H Q E=>∃(a:Addr) (ns:List Int),vs=[.ref a]/\SqL K H a (ns.map V.int)/\ns.length<=4000 /\
 (∀b,(AO ns 0).2=some b->∀(dx:Addr) (H':Hp),Same H H'->H' dx=some (.xd [("cell",.int b)])->E (.ref C) (some dx) H') /\
 ((AO ns 0).2=none->∀(p:Addr) (us:List V) (H':Hp),H p=none->Same H H'->H' p=some (.lst us)->AA H' us (AO ns 0).1->Q (.ref p) H')
def WW (K:PySem.W.Frag):Sp:=fun vs H Q _=>∃(a:Addr) (ns:List Int),vs=[.ref a]/\SqL K H a (ns.map V.int)/\ns.length<=4000/\∀(H':Hp),Same H H'->Q (optV (AO ns 0).2) H'
def Ql (K:PySem.W.Frag):Sp:=fun vs H Q _=>∃(a:Addr) (ns:List Int) (k:Int),vs=[.ref a,.int k]/\SqL K H a (ns.map V.int)/\0<=k/\Q (.int (ns.getD k.toNat 0)) H
def Qm:Sp:=fun vs H Q _=>∃n:Int,vs=[.int n]/\Q (.bl true) H
def NG (K:PySem.W.Frag):Sp:=fun vs H Q _=>∃(a:Addr) (ns:List Int),vs=[.ref a]/\SqL K H a (ns.map V.int)/\ns.length<=63/\∀H',Q (.bl true) H'
section
variable {K:PySem.W.Frag}{H:Hp}{Q:VK}{E:XK}
theorem i_long {n:Int}(q:Q (.int (n/2)) H):Qh [.int n] H Q E:=⟨n,rfl,q⟩
theorem i_live {n:Int}(q:Q (.bl (decide (n%2=1))) H):Qi [.int n] H Q E:=⟨n,rfl,q⟩
theorem i_can {a:Addr}{ns:List Int}{k:Int}(h:SqL K H a (ns.map V.int))(h0:0<=k)(h1:k<ns.length)(q:Q (.bl (BZ ns k)) H):Qj K [.ref a,.int k] H Q E:=⟨a,ns,k,rfl,h,h0,h1,q⟩
theorem i_bad {a:Addr}{ns:List Int}{k:Int}(h:SqL K H a (ns.map V.int))(h0:0<=k)(h1:k<ns.length)(q:Q (optV (Bp ns k)) H):Qk K [.ref a,.int k] H Q E:=⟨a,ns,k,rfl,h,h0,h1,q⟩
theorem i_cell {a:Addr}{ns:List Int}{k:Int}(h:SqL K H a (ns.map V.int))(h0:0<=k)(q:Q (.int (ns.getD k.toNat 0)) H):Ql K [.ref a,.int k] H Q E:=⟨a,ns,k,rfl,h,h0,q⟩
theorem i_whole {n:Int}(q:Q (.bl true) H):Qm [.int n] H Q E:=⟨n,rfl,q⟩
theorem bP (n:Int):decide (Builtin.bitAnd n 1=1)=decide (n%2=1):=by rw[<-aL,decV]
end
end Stow
namespace Stow
def AM (cs:List Int)(k l:Int)(v:Bool):List Int:=(cs.set k.toNat (l*2+if v then 1 else 0)).set (k+l-1).toNat (l*2+if v then 1 else 0)
theorem Cf (cs:List Int)(k l:Int)(v:Bool):(AM cs k l v).length=cs.length:=by
 unfold AM;rw[List.length_set,List.length_set]
theorem HZ {cs:List Int}{k l:Int}{v:Bool}{j:Nat}(h0:0<=k)(h1:1<=l)(h:(j:Int)<k\/k+l<=j):(AM cs k l v)[j]?=cs[j]?:=by
 unfold AM;rw[List.getElem?_set_ne (by omega),List.getElem?_set_ne (by omega)]
theorem Qn {cs:List Int}{k l:Int}{v:Bool}(h0:0<=k)(h1:1<=l)(h:k+l<=cs.length):(AM cs k l v)[k.toNat]?=some (mkOf l v):=by
 unfold AM mkOf;by_cases e:(k+l-1).toNat=k.toNat
 . rw[e,List.getElem?_set_self (by rw[List.length_set];omega)]
 . rw[List.getElem?_set_ne e,List.getElem?_set_self (by omega)]
theorem Qo {cs:List Int}{k l:Int}{v:Bool}(h0:0<=k)(h1:1<=l)(h:k+l<=cs.length):(AM cs k l v)[(k+l-1).toNat]?=some (mkOf l v):=by
 unfold AM mkOf;rw[List.getElem?_set_self (by rw[List.length_set];omega)]
def B1 (ds:List Pc)(k:Int):Prop:=∀p∈ds,0<=p.a/\1<=p.l/\p.a+p.l<=k
def DV (rs:List Pc)(e:Int):Prop:=∀p∈rs,e<=p.a/\1<=p.l
theorem Ag.endBy {ds:List Pc}{s e:Int}(h:Ag s ds e)(h0:0<=s):B1 ds e:=fun p hp=>by
 obtain⟨h1,h2,_,h3⟩:=h.mem p hp;omega
theorem Ag.fromOn {ds:List Pc}{s e:Int}(h:Ag s ds e):DV ds s:=fun p hp=>by
 obtain⟨h1,h2,_,_⟩:=h.mem p hp;omega
theorem B1.mono {ds:List Pc}{k k':Int}(h:B1 ds k)(e:k<=k'):B1 ds k':=fun p hp=>by have:=h p hp;omega
theorem B1.app {ds es:List Pc}{k:Int}(h:B1 ds k)(g:B1 es k):B1 (ds++es) k:=fun p hp=>(List.mem_append.mp hp).elim (h p) (g p)
theorem Ao.sub {cs:List Int}{ps qs:List Pc}(m:Ao cs ps)(h:∀p∈qs,p∈ps):Ao cs qs:=fun p hp=>m p (h p hp)
theorem Ao.lay {cs:List Int}{ds rs:List Pc}{k l:Int}{v:Bool}(h0:0<=k)(h1:1<=l)(hl:k+l<=cs.length)(hd:B1 ds k)(hr:DV rs (k+l))(m:Ao cs (ds++rs)) :
   Ao (AM cs k l v) (ds++⟨k,l,v⟩::rs):=by
 intro p hp;rcases List.mem_append.mp hp with h | h
 . obtain⟨a0,a1,a2⟩:=hd p h;obtain⟨m1,m2⟩:=m p (List.mem_append_left _ h);exact⟨by rw[HZ h0 h1 (by omega)];exact m1,by rw[HZ h0 h1 (by omega)];exact m2⟩
 . rcases List.mem_cons.mp h with h | h
   . subst h;exact⟨Qn h0 h1 hl,Qo h0 h1 hl⟩
   . obtain⟨a0,a1⟩:=hr p h;obtain⟨m1,m2⟩:=m p (List.mem_append_right _ h);exact⟨by rw[HZ h0 h1 (by omega)];exact m1,by rw[HZ h0 h1 (by omega)];exact m2⟩
def lfI (cs:List Int)(b e:Int):List Int:=if b=e then cs else AM cs b (e-b) false
def fr (b e:Int):List Pc:=if b=e then [] else [⟨b,e-b,false⟩]
theorem DD (cs:List Int)(b e:Int):(lfI cs b e).length=cs.length:=by
 unfold lfI
 split
 . rfl
 . exact Cf _ _ _ _
theorem lfI_out {cs:List Int}{b e:Int}{j:Nat}(h0:0<=b)(h1:b<=e)(h:(j:Int)<b\/e<=j):(lfI cs b e)[j]?=cs[j]?:=by
 unfold lfI
 split
 . rfl
 . exact HZ h0 (by omega) (by omega)
theorem Ia {b e:Int}(h:b<=e):Ag b (fr b e) e:=by
 unfold fr
 split
 . assumption
 . exact⟨rfl,(by show 1<=e-b;omega),(fun z=>by cases z),(by show b+(e-b)=e;omega)⟩
theorem Ao.layF {cs:List Int}{ds rs:List Pc}{b e:Int}(h0:0<=b)(h1:b<=e)(hl:e<=cs.length)(hd:B1 ds b)(hr:DV rs e)(m:Ao cs (ds++rs)):Ao (lfI cs b e) (ds++(fr b e++rs)):=by
 unfold lfI fr
 split
 . exact m
 . exact Ao.lay h0 (by omega) (by omega) hd (by rw[show b+(e-b)=e by omega];exact hr) m
def cutO (cs:List Int)(a l s L:Int):List Int:=lfI (AM (lfI cs a s) s L true) (s+L) (a+l)
theorem NH (cs:List Int)(a l s L:Int):(cutO cs a l s L).length=cs.length:=by
 unfold cutO;rw[DD,Cf,DD]
def cutP (ds rs:List Pc)(a l s L:Int):List Pc:=ds++(fr a s++(⟨s,L,true⟩::(fr (s+L) (a+l)++rs)))
theorem WX {cs:List Int}{ds rs:List Pc}{z:Pc}{s L:Int}(h0:0<=z.a)(hL:1<=L)(h1:z.a<=s)(h2:s+L<=z.a+z.l)(hl:z.a+z.l<=cs.length)(hd:B1 ds z.a)(hr:DV rs (z.a+z.l))(m:Ao cs (ds++z::rs)) :
   Ao (cutO cs z.a z.l s L) (cutP ds rs z.a z.l s L):=by
 have m0:Ao cs (ds++rs):=m.sub fun p hp=>by
   rcases List.mem_append.mp hp with h | h
   . exact List.mem_append_left _ h
   . exact List.mem_append_right _ (List.mem_cons_of_mem _ h)
 have m1:=Ao.layF h0 h1 (by omega) hd (fun p hp=>by have:=hr p hp;omega) m0;have d1:B1 (ds++fr z.a s) s:=(hd.mono h1).app ((Ia h1).endBy h0);have m2:Ao (AM (lfI cs z.a s) s L true) ((ds++fr z.a s)++⟨s,L,true⟩::rs) :=
   Ao.lay (by omega) hL (by rw[DD];omega) d1 (fun p hp=>by have:=hr p hp;omega) (by rw[List.append_assoc];exact m1)
 have d2:B1 ((ds++fr z.a s)++[⟨s,L,true⟩]) (s+L):=(d1.mono (by omega)).app fun p hp=>by
   have:p=⟨s,L,true⟩:=by simpa using hp
   subst this;exact⟨by show 0<=s;omega,hL,Int.le_refl _⟩
 have m3:=Ao.layF (cs:=AM (lfI cs z.a s) s L true) (b:=s+L) (e:=z.a+z.l) (by omega) h2 (by rw[Cf,DD];omega) d2 hr (by rw[List.append_assoc];exact m2);unfold cutO cutP;simpa only [List.append_assoc,List.singleton_append,List.cons_append,List.nil_append] using m3
theorem bQ {ds rs:List Pc}{a l s L n:Int}(hL:3<=L)(h1:a<=s)(h2:s+L<=a+l)(hd:Ag 0 ds a)(hr:Ag (a+l) rs n):Ag 0 (cutP ds rs a l s L) n :=
 hd.app ((Ia h1).app ⟨rfl,(by show 1<=L;omega),(fun _=>hL),(Ia h2).app hr⟩)
theorem Cu:∀{ps:List Pc} {s e:Int} {i:Nat} {z:Pc},Ag s ps e->ps[i]?=some z->∃ds rs,ps=ds++z::rs/\ds.length=i/\Ag s ds z.a/\Ag (z.a+z.l) rs e
 | [],s,e,i,z,_,h=>by simp at h
 | p::r,s,e,0,z,c,h=>by
   have e1:p=z:=by simpa using h
   subst e1
   obtain⟨h0,h1,h2,h3⟩:=c
   exact⟨[],r,rfl,rfl,h0.symm,by rw[h0];exact h3⟩
 | p::r,s,e,i+1,z,c,h=>by
   obtain⟨h0,h1,h2,h3⟩:=c
   obtain⟨ds,rs,e1,e2,c1,c2⟩:=Cu h3 (show r[i]?=some z by simpa using h)
   exact⟨p::ds,rs,by rw[e1];rfl,by rw[List.length_cons,e2],⟨h0,h1,h2,c1⟩,c2⟩
theorem FA {ps:List Pc}{s e:Int}{i:Nat}{z y:Pc}(c:Ag s ps e)(h:ps[i]?=some z)(h':ps[i+1]?=some y):y.a=z.a+z.l:=by
 obtain⟨ds,rs,rfl,rfl,_,c2⟩:=Cu c h;rw[List.getElem?_append_right (by omega)] at h';rw[show ds.length+1-ds.length=1 by omega] at h';cases rs with
 | nil=>simp at h'
 | cons p r =>
   have:p=y:=by simpa using h'
   subst this;exact c2.1
theorem bR {ps:List Pc}{s e:Int}{i:Nat}{z:Pc}(c:Ag s ps e)(h:ps[i]?=some z)(h':ps.length=i+1):z.a+z.l=e:=by
 obtain⟨ds,rs,rfl,rfl,_,c2⟩:=Cu c h;rw[List.length_append,List.length_cons] at h';have:rs=[]:=List.length_eq_zero_iff.mp (by omega);subst this;exact c2
theorem bT {ps:List Pc}{s e:Int}{z:Pc}(c:Ag s ps e)(h:ps[0]?=some z):z.a=s:=by
 cases ps with
 | nil=>simp at h
 | cons p r =>
   have:p=z:=by simpa using h
   subst this;exact c.1
theorem Qq {ps:List Pc}{s e:Int}{i:Nat}{z:Pc}(c:Ag s ps e)(h:ps[i]?=some z):s+i<=z.a:=by
 obtain⟨ds,rs,rfl,rfl,c1,_⟩:=Cu c h;exact c1.le
theorem bU {ps:List Pc}:∀{b e:Int},Ag b ps e->∀(i j:Nat) (y z:Pc),ps[i]?=some y->ps[j]?=some z->y.a=z.a->y=z:=by
 induction ps with
 | nil=>intro b e _ i j y z hi;simp at hi
 | cons p r ih =>
   intro b e h i j y z hi hj ha;obtain⟨e1,h1,h3,c⟩:=h;have up:∀(i:Nat) (y:Pc),r[i]?=some y->y.a>p.a:=fun i y hy=>by
     have:=(c.mem y (List.mem_of_getElem? hy)).1;omega
   cases i with
   | zero =>
     cases j with
     | zero=>simp at hi hj;rw[<-hi,<-hj]
     | succ j =>
       have e2:p=y:=by simpa using hi
       have:=up j z (by simpa using hj);subst e2;omega
   | succ i =>
     cases j with
     | zero =>
       have e2:p=z:=by simpa using hj
       have:=up i y (by simpa using hi);subst e2;omega
     | succ j=>exact ih c i j y z (by simpa using hi) (by simpa using hj) ha
def fbeg (ps:List Pc)(i:Nat)(z:Pc):Int:=match i with
 | 0=>z.a
 | j+1=>match ps[j]? with
   | some y=>if y.v=true then z.a else y.a
   | none=>z.a
def fend (ps:List Pc)(i:Nat)(z:Pc):Int:=match ps[i+1]? with
 | some y=>if y.v=true then z.a+z.l else y.a+y.l
 | none=>z.a+z.l
theorem bV {cs:List Int}{ps:List Pc}{s e:Int}{j:Nat}{y z:Pc}(c:Ag s ps e)(m:Ao cs ps)(h:ps[j]?=some y)(h':ps[j+1]?=some z):cs.getD (z.a-1).toNat 0=y.mk':=by
 have e:=FA c h h';obtain⟨_,m2⟩:=m y (List.mem_of_getElem? h);rw[List.getD_eq_getElem?_getD,show z.a-1=y.a+y.l-1 by omega,m2];rfl
theorem bW {cs:List Int}{ps:List Pc}{s e:Int}{j:Nat}{y z:Pc}(c:Ag s ps e)(m:Ao cs ps)(h:ps[j]?=some y)(h':ps[j+1]?=some z):cs.getD (y.a+y.l).toNat 0=z.mk':=by
 have e:=FA c h h';obtain⟨m1,_⟩:=m z (List.mem_of_getElem? h');rw[List.getD_eq_getElem?_getD,<-e,m1];rfl
theorem bX {ps:List Pc}{s e:Int}{i:Nat}{z:Pc}(c:Ag s ps e)(h:ps[i]?=some z):s<=fbeg ps i z/\fbeg ps i z<=z.a:=by
 have hz:=Qq c h;unfold fbeg
 split
 . omega
 . rename_i j
   split
   . rename_i y hy;have hy':=Qq c hy;have e1:=FA c hy h;have:=c.mem y (List.mem_of_getElem? hy)
     split <;> omega
   . omega
theorem bY {ps:List Pc}{s e:Int}{i:Nat}{z:Pc}(c:Ag s ps e)(h:ps[i]?=some z):z.a+z.l<=fend ps i z/\fend ps i z<=e:=by
 have hz:=c.mem z (List.mem_of_getElem? h);unfold fend
 split
 . rename_i y hy;have e1:=FA c h hy;have:=c.mem y (List.mem_of_getElem? hy)
   split <;> omega
 . omega
theorem bZ {a b:Int}(hb:1<=b) : -(a+1)%b=b-1-a%b:=by
 have e:=Int.emod_add_mul_ediv a b;have h0:=Int.emod_nonneg a (show b≠0 by omega);have h1:=Int.emod_lt_of_pos a (show 0<b by omega);have eq : -(a+1)=(b-1-a%b)+b*(-(a/b)-1):=by
   rw[Int.mul_sub,Int.mul_neg];omega
 rw[eq,Int.add_mul_emod_self_left,Int.emod_eq_of_lt (by omega) (by omega)]
end Stow
namespace Stow
theorem Du {ps:List Pc}{s e:Int}{y z:Pc}(c:Ag s ps e)(hy:y∈ps)(hz:z∈ps)(h:y.a=z.a):y=z:=by
 obtain⟨i,hi⟩:=List.getElem?_of_mem hy;obtain⟨j,hj⟩:=List.getElem?_of_mem hz;exact bU c i j y z hi hj h
end Stow
namespace Stow
theorem NI {ps:List Pc}{j:Nat}{y z:Pc}(h:ps[j]?=some y)(hv:y.v=true):fbeg ps (j+1) z=z.a:=by
 unfold fbeg;simp only [h];exact if_pos hv
theorem NJ {ps:List Pc}{j:Nat}{y z:Pc}(h:ps[j]?=some y)(hv:y.v=false):fbeg ps (j+1) z=y.a:=by
 unfold fbeg;simp only [h];exact if_neg (by rw[hv];exact Bool.false_ne_true)
theorem Qr {ps:List Pc}{j:Nat}{y z:Pc}(h:ps[j+1]?=some y)(hv:y.v=true):fend ps j z=z.a+z.l:=by
 unfold fend;rw[h];exact if_pos hv
theorem Qs {ps:List Pc}{j:Nat}{y z:Pc}(h:ps[j+1]?=some y)(hv:y.v=false):fend ps j z=y.a+y.l:=by
 unfold fend;rw[h];exact if_neg (by rw[hv];exact Bool.false_ne_true)
theorem Qt {ps:List Pc}{j:Nat}{z:Pc}(h:ps[j+1]?=none):fend ps j z=z.a+z.l:=by
 unfold fend;rw[h]
end Stow
namespace Stow
theorem NK {ps:List Pc}{s e:Int}{i j:Nat}{y z:Pc}(c:Ag s ps e)(hi:ps[i]?=some y)(hj:ps[j]?=some z)(h:y.a=z.a):i=j:=by
 rcases Nat.lt_trichotomy i j with g | g | g
 . exfalso;obtain⟨ds,rs,e1,e2,c1,c2⟩:=Cu c hi;subst e1 e2;rw[List.getElem?_append_right (by omega)] at hj;cases k:j-ds.length with
   | zero=>omega
   | succ n =>
     rw[k] at hj;have hm:z∈rs:=List.mem_of_getElem? (show rs[n]?=some z from hj);have:=(c2.mem z hm).1;have:=(c.mem y (List.mem_append_right _ List.mem_cons_self)).2.1;omega
 . exact g
 . exfalso;obtain⟨ds,rs,e1,e2,c1,c2⟩:=Cu c hj;subst e1 e2;rw[List.getElem?_append_right (by omega)] at hi;cases k:i-ds.length with
   | zero=>omega
   | succ n =>
     rw[k] at hi;have hm:y∈rs:=List.mem_of_getElem? (show rs[n]?=some y from hi);have:=(c2.mem y hm).1;have:=(c.mem z (List.mem_append_right _ List.mem_cons_self)).2.1;omega
end Stow
namespace Stow
def Bq (acc:List Pc)(z:Pc):List Pc:=match acc.getLast? with
 | some y=>if z.v=false/\y.v=false then acc.dropLast++[⟨y.a,y.l+z.l,false⟩] else acc++[z]
 | none=>acc++[z]
def Bj (ps:List Pc):List Pc:=ps.foldl Bq []
theorem cA (z:Pc):Bq [] z=[z]:=rfl
theorem F6 {acc:List Pc}{z:Pc}(h:z.v=true):Bq acc z=acc++[z]:=by
 unfold Bq
 split
 . rw[if_neg (by rw[h];simp)]
 . rfl
theorem F7 {D:List Pc}{y z:Pc}(h:y.v=true):Bq (D++[y]) z=D++[y]++[z]:=by
 unfold Bq;rw[List.getLast?_concat];simp only;rw[if_neg (by rw[h];simp)]
theorem F8 {D:List Pc}{y z:Pc}(h:y.v=false)(hz:z.v=false):Bq (D++[y]) z=D++[⟨y.a,y.l+z.l,false⟩]:=by
 unfold Bq;rw[List.getLast?_concat];simp only;rw[if_pos ⟨hz,h⟩,List.dropLast_concat]
theorem WY {ps:List Pc}{i:Nat}{z:Pc}(h:ps[i]?=some z):Bj (ps.take (i+1))=Bq (Bj (ps.take i)) z:=by
 unfold Bj;rw[List.take_add_one,h,List.foldl_append];rfl
theorem DE (l:List Pc):l=[]\/∃D y,l=D++[y]:=by
 rcases List.eq_nil_or_concat l with h | ⟨D,y,h⟩
 . exact .inl h
 . exact .inr ⟨D,y,by rw[h,List.concat_eq_append]⟩
theorem Ag.take:∀{ps:List Pc} {s e:Int} {i:Nat},Ag s ps e->i<=ps.length->∃m,Ag s (ps.take i) m/\Ag m (ps.drop i) e
 | ps,s,e,0,c,_=>⟨s,rfl,c⟩
 | [],s,e,i+1,c,h=>by simp at h
 | p::r,s,e,i+1,c,h=>by
   obtain⟨h0,h1,h2,h3⟩:=c
   obtain⟨m,c1,c2⟩:=h3.take (i:=i) (by simpa using h)
   exact⟨m,⟨h0,h1,h2,c1⟩,c2⟩
theorem Ag.unsnoc {D:List Pc}{y:Pc}{s e:Int}(c:Ag s (D++[y]) e):Ag s D y.a/\1<=y.l/\(y.v=true->3<=y.l)/\y.a+y.l=e:=by
 obtain⟨ds,rs,e1,e2,c1,c2⟩:=Cu (i:=D.length) (z:=y) c (by rw[List.getElem?_append_right (Nat.le_refl _),Nat.sub_self];rfl);have hl:=congrArg List.length e1;rw[List.length_append,List.length_append,List.length_singleton,List.length_cons] at hl;have er:rs=[]:=List.length_eq_zero_iff.mp (by omega);subst er;have:=(List.append_inj e1 (by omega)).1;subst this;obtain⟨h1,h2,h3,_⟩:=c.mem y (List.mem_append_right _ List.mem_cons_self);exact⟨c1,h2,h3,c2⟩
theorem cD {acc:List Pc}{z:Pc}{s:Int}(c:Ag s acc z.a)(h1:1<=z.l)(h3:z.v=true->3<=z.l):Ag s (Bq acc z) (z.a+z.l):=by
 rcases DE acc with h | ⟨D,y,h⟩
 . subst h;exact Ag.snoc c h1 h3
 . subst h;cases hy:y.v with
   | true=>rw[F7 hy];exact Ag.snoc c h1 h3
   | false =>
     cases hz:z.v with
     | true=>rw[F6 hz];exact Ag.snoc c h1 h3
     | false =>
       rw[F8 hy hz];obtain⟨c1,y1,_,y2⟩:=c.unsnoc;have:=Ag.snoc (p:=⟨y.a,y.l+z.l,false⟩) c1 (by show 1<=y.l+z.l;omega) (fun w=>by cases w)
       rwa [show (⟨y.a,y.l+z.l,false⟩:Pc).a+(⟨y.a,y.l+z.l,false⟩:Pc).l=z.a+z.l by show y.a+(y.l+z.l)=z.a+z.l;omega] at this
theorem WZ:∀{ps acc:List Pc} {s m e:Int},Ag s acc m->Ag m ps e->Ag s (ps.foldl Bq acc) e
 | [],acc,s,m,e,c,d=>by have d:m=e:=d;subst d;exact c
 | p::r,acc,s,m,e,c,d=>by
   obtain⟨h0,h1,h2,h3⟩:=d
   show Ag s (r.foldl Bq (Bq acc p)) e
   refine WZ (m:=p.a+p.l) (cD (by rw[h0];exact c) h1 h2) (by rw[h0];exact h3)
theorem NL {ps:List Pc}{s e:Int}(c:Ag s ps e):Ag s (Bj ps) e:=WZ (acc:=[]) rfl c
def Cn (cs:List Int)(ps:List Pc):List Int:=ps.foldl (fun c z=>AM c z.a z.l z.v) cs
theorem cE (cs:List Int)(ds:List Pc)(z:Pc):Cn cs (ds++[z])=AM (Cn cs ds) z.a z.l z.v:=by
 unfold Cn;rw[List.foldl_append];rfl
theorem cG {cs:List Int}{ps:List Pc}{i:Nat}{z:Pc}(h:ps[i]?=some z):Cn cs (ps.take (i+1))=AM (Cn cs (ps.take i)) z.a z.l z.v:=by
 rw[List.take_add_one,h];exact cE _ _ _
theorem Qu:∀(ps:List Pc) (cs:List Int),(Cn cs ps).length=cs.length
 | [],cs=>rfl
 | p::r,cs=>by
   show (Cn (AM cs p.a p.l p.v) r).length=cs.length
   rw[Qu r,Cf]
theorem W0:∀{rs ds:List Pc} {cs:List Int} {m:Int},Ag 0 ds m->Ag m rs cs.length->Ao cs ds->Ao (Cn cs rs) (ds++rs)
 | [],ds,cs,m,_,_,k=>by rw[List.append_nil];exact k
 | p::r,ds,cs,m,c,d,k=>by
   obtain⟨e0,h1,h2,h3⟩:=d
   have l0:=c.le
   have l1:=h3.le
   have:=W0 (rs:=r) (ds:=ds++[p]) (cs:=AM cs p.a p.l p.v) (m:=p.a+p.l) (Ag.snoc (by rw[e0];exact c) h1 h2) (by rw[Cf,e0];exact h3)
     (Ao.lay (rs:=[]) (by omega) h1 (by omega) (by rw[e0];exact c.endBy (Int.le_refl 0)) (fun p hp=>by cases hp) (by rw[List.append_nil];exact k))
   rw[List.append_assoc,List.singleton_append] at this
   exact this
theorem W4 (ps:List Pc):∀i,i<=ps.length->(Bj (ps.take i)).length<=i
 | 0,_=>by simp [Bj]
 | i+1,h=>by
   have ih:=W4 ps i (by omega)
   have e:ps[i]?=some ps[i]:=by simp [show i<ps.length by omega]
   rw[WY e]
   generalize Bj (ps.take i)=acc at ih
   generalize ps[i]=z
   rcases DE acc with e | ⟨D,w,e⟩
   . subst e;simp [cA]
   . subst e
     rw[List.length_append,List.length_singleton] at ih
     cases hw:w.v with
     | true=>rw[F7 hw];simp;omega
     | false =>
       cases hz:z.v with
       | true=>rw[F6 hz];simp;omega
       | false=>rw[F8 hw hz];simp;omega
def AJ (ps:List Pc):Prop:=∀j y z,ps[j]?=some y->ps[j+1]?=some z->y.v=true\/z.v=true
theorem AJ.snoc {D:List Pc}{w z:Pc}(h:AJ (D++[w]))(hv:w.v=true\/z.v=true):AJ (D++[w]++[z]):=by
 intro j y x hy hx;have hl:j+1<(D++[w]++[z]).length:=(List.getElem?_eq_some_iff.mp hx).1;rw[List.length_append,List.length_singleton] at hl;rw[List.getElem?_append_left (by omega)] at hy;by_cases e:j+1<(D++[w]).length
 . rw[List.getElem?_append_left e] at hx;exact h j y x hy hx
 . rw[List.length_append,List.length_singleton] at e hl;rw[List.getElem?_append_right (by rw[List.length_append,List.length_singleton];omega),show j+1-(D++[w]).length=0 by rw[List.length_append,List.length_singleton];omega] at hx;rw[show j=D.length by omega,List.getElem?_append_right (Nat.le_refl _),Nat.sub_self] at hy;have e1:w=y:=by simpa using hy
   have e2:z=x:=by simpa using hx
   rw[<-e1,<-e2];exact hv
theorem AJ.last {D:List Pc}{w u:Pc}(h:AJ (D++[w]))(hv:u.v=w.v):AJ (D++[u]):=by
 intro j y x hy hx;have hl:j+1<(D++[u]).length:=(List.getElem?_eq_some_iff.mp hx).1;rw[List.length_append,List.length_singleton] at hl;rw[List.getElem?_append_left (by omega)] at hy;by_cases e:j+1<D.length
 . rw[List.getElem?_append_left e] at hx;exact h j y x (by rw[List.getElem?_append_left (by omega)];exact hy) (by rw[List.getElem?_append_left e];exact hx)
 . rw[List.getElem?_append_right (by omega),show j+1-D.length=0 by omega] at hx;have e2:u=x:=by simpa using hx
   have:=h j y w (by rw[List.getElem?_append_left (by omega)];exact hy) (by rw[List.getElem?_append_right (by omega),show j+1-D.length=0 by omega];rfl);rw[<-e2,hv];exact this
theorem cH {acc:List Pc}{z:Pc}(h:AJ acc):AJ (Bq acc z):=by
 rcases DE acc with e | ⟨D,w,e⟩
 . subst e;intro j y x _ hx;have:j+1<[z].length:=(List.getElem?_eq_some_iff.mp hx).1;simp at this
 . subst e;cases hw:w.v with
   | true=>rw[F7 hw];exact h.snoc (.inl hw)
   | false =>
     cases hz:z.v with
     | true=>rw[F6 hz];exact h.snoc (.inr hz)
     | false=>rw[F8 hw hz];exact h.last hw.symm
theorem W5:∀(ps acc:List Pc),AJ acc->AJ (ps.foldl Bq acc)
 | [],_,h=>h
 | p::r,acc,h=>W5 r (Bq acc p) (cH h)
theorem W6 (ps:List Pc):AJ (Bj ps):=W5 ps [] fun j y x hy _=>by simp at hy
end Stow
namespace Stow
end Stow
namespace Stow
theorem cJ (z:Pc):AJ [z]:=fun j y x _ hx=>by
 have:j+1<[z].length:=(List.getElem?_eq_some_iff.mp hx).1;simp at this
end Stow
namespace Stow
open PySem L2 PyProof.Rows
theorem AA.unsnoc {H:Hp}{us:List V}{ps:List Pc}{y:Pc}(h:AA H us (ps++[y])):∃ui t,us=ui++[.ref t]/\AA H ui ps/\H t=some (.tup [.int y.a,.int y.l,.bl y.v]):=by
 have hl:=h.1;rw[List.length_append,List.length_singleton] at hl;obtain⟨t,e1,e2⟩:=h.2 ps.length y (by rw[List.getElem?_append_right (Nat.le_refl _),Nat.sub_self];rfl);have hd:us=us.take ps.length++[.ref t]:=by
   have:=List.take_append_drop ps.length us;have e3:us.drop ps.length=[.ref t]:=by
     apply List.ext_getElem?;intro i;rw[List.getElem?_drop];cases i with
     | zero=>exact e1
     | succ i=>rw[List.getElem?_eq_none (by omega)];rfl
   rw[e3] at this;exact this.symm
 refine⟨us.take ps.length,t,hd,⟨by rw[List.length_take];omega,fun i p e=>?_⟩,e2⟩;have hi:i<ps.length:=(List.getElem?_eq_some_iff.mp e).1;obtain⟨a,h1,h2⟩:=h.2 i p (by rw[List.getElem?_append_left hi];exact e);exact⟨a,by rw[List.getElem?_take_of_lt hi];exact h1,h2⟩
theorem AA.relast {H:Hp}{ui:List V}{ps:List Pc}{p t t0:Addr}{z:Pc}(h:AA H ui ps)(hp:H p=some (.lst (ui++[.ref t0])))(ht:H t=none) :
   AA (upd (upd H t (.tup [.int z.a,.int z.l,.bl z.v])) p (.lst (ui++[.ref t]))) (ui++[.ref t]) (ps++[z]):=by
 have hpt:p≠t:=A8 hp ht;have hp2:upd H t (.tup [.int z.a,.int z.l,.bl z.v]) p=some (.lst (ui++[.ref t0])):=by rw[AE hpt];exact hp
 refine AA.snoc ?_ ?_
 . exact(h.mono (Ct (.inl ht))).mono (Ct (.inr ⟨_,hp2⟩))
 . exact Ct (.inr ⟨_,hp2⟩) _ _ upd_same
section
variable {X:Cx}
end
end Stow
namespace Stow
open PySem L2 PyProof.Rows
def eqVs (xs ys:List V):Bool:=(List.range (min xs.length ys.length)).all (fun j=>eqV (xs.getD j .non) (ys.getD j .non))&&xs.length==ys.length
section
variable {X:Cx}{pins:List (Addr×Obj)}{σ:L2.St}{H:Hp}{s:Shared}{A:Around}
theorem cK {a b:Addr}{xs ys:List V}(I:Inv X pins σ H s)(ha:SqT X.K H a xs)(hb:SqT X.K H b ys)(hf:xs.all DC=true)(hg:ys.all DC=true) :
   ∃its its2:List Value,s.heap.IsTuple a its.toArray/\s.heap.IsTuple b its2.toArray/\its.length=xs.length/\its2.length=ys.length /\
     ∀j (h1:j<its.toArray.size) (h2:j<its2.toArray.size),SeqAt.EqAt A s its.toArray[j] its2.toArray[j] (eqV (xs.getD j .non) (ys.getD j .non)):=by
 obtain⟨its,r1,p1,_⟩:=I.tuple ha;obtain⟨its2,r2,p2,_⟩:=I.tuple hb;have l1:=r1.length;have l2:=r2.length;refine⟨its,its2,p1,p2,l1.symm,l2.symm,fun j h1 h2=>?_⟩;rw[List.size_toArray] at h1 h2;have hj:j<xs.length:=by omega
 have hk:j<ys.length:=by omega
 obtain⟨u1,e1,q1⟩:=r1.get (i:=j) (x:=xs[j]) (by simp [hj]);obtain⟨u2,e2,q2⟩:=r2.get (i:=j) (x:=ys[j]) (by simp [hk]);obtain⟨g1,f1⟩:=List.getElem?_eq_some_iff.mp e1;obtain⟨g2,f2⟩:=List.getElem?_eq_some_iff.mp e2;have fl:DC xs[j]=true:=List.all_eq_true.mp hf _ (List.getElem_mem hj);have gl:DC ys[j]=true:=List.all_eq_true.mp hg _ (List.getElem_mem hk);have z:=eqAt_V (A:=A) (s:=s) q1 q2 fl gl;rw[<-f1,<-f2] at z;have ex:xs.getD j .non=xs[j]:=by simp [hj]
 have ey:ys.getD j .non=ys[j]:=by simp [hk]
 rw[ex,ey];simpa using z
theorem W8 {a b:Addr}{xs ys:List V}(hu:A.units<cLine)(I:Inv X pins σ H s)(ha:SqT X.K H a xs)(hb:SqT X.K H b ys)(hf:xs.all DC=true)(hg:ys.all DC=true):SeqAt.RcAt A s (.ref a) (.ref b) (eqVs xs ys):=by
 obtain⟨its,its2,p1,p2,l1,l2,he⟩:=cK (A:=A.in1) I ha hb hf hg;have key:=SeqAt.RcAt.tuples p1 p2 hu he;simp only [List.size_toArray,l1,l2] at key;exact key
theorem Qv {xs:List V}(hf:xs.all DC=true):eqVs xs xs=true:=by
 unfold eqVs;rw[Bool.and_eq_true];refine⟨List.all_eq_true.mpr fun j hj=>?_,by simp⟩;have hj:j<xs.length:=by simpa using hj
 have ex:xs.getD j .non=xs[j]:=by simp [hj]
 rw[ex];exact aJ (List.all_eq_true.mp hf _ (List.getElem_mem hj))
theorem W9 {a b:Addr}{xs:List V}(hu:A.units<cLine)(I:Inv X pins σ H s)(ha:SqT X.K H a xs)(hb:SqT X.K H b xs)(hf:xs.all DC=true):SeqAt.EqAt A s (.ref a) (.ref b) true:=by
 by_cases e:a=b
 . subst e;exact SeqAt.EqAt.same _
 . refine SeqAt.EqAt.of_refs e ?_;have:=W8 hu I ha hb hf hf
   rwa [Qv hf] at this
end
section
variable {X:Cx}
theorem cL (hu:X.A.units+64<cLine):OpR X (compareOp .NotEq) (fun x y H Q=>∃a b us ws ps,x = .ref a/\y = .ref b/\H a=some (.lst us)/\H b=some (.lst ws)/\AA H us ps/\AA H ws ps/\Q (.bl false) H):=by
 intro pins s σ H x y v u Q I rx ry h;obtain⟨a,b,us,ws,ps,rfl,rfl,ha,hb,pu,pw,q⟩:=h;cases rx;cases ry;obtain⟨its,r1,p1,_⟩:=I.list (SqL.of ha);obtain⟨its2,r2,p2,_⟩:=I.list (SqL.of hb);have l1:=r1.length;have l2:=r2.length;have m1:=pu.1;have m2:=pw.1;have key:SeqAt.RcNeAt X.A s (.ref a) (.ref b) (!((List.range its.toArray.size).all (fun _=>true))):=by
   refine SeqAt.RcNeAt.lists p1.isList p2.isList (by rw[List.size_toArray,List.size_toArray];omega) (by omega) fun j h1 h2=>?_;rw[List.size_toArray] at h1 h2;have hj:j<ps.length:=by omega
   obtain⟨t1,e1,f1⟩:=pu.2 j ps[j] (by simp [hj]);obtain⟨t2,e2,f2⟩:=pw.2 j ps[j] (by simp [hj]);obtain⟨u1,g1,q1⟩:=r1.get e1;obtain⟨u2,g2,q2⟩:=r2.get e2;cases q1;cases q2;obtain⟨_,k1⟩:=List.getElem?_eq_some_iff.mp g1;obtain⟨_,k2⟩:=List.getElem?_eq_some_iff.mp g2;have z:=W9 (A:=X.A.in1) (by show X.A.units+1<cLine;omega) I (SqT.of f1) (SqT.of f2) rfl;rw[<-k1,<-k2] at z;simpa using z
 have e:(!((List.range its.toArray.size).all (fun _=>true)))=false:=by simp
 rw[e] at key;exact key _ _ _ _ ⟨.bl false,H,I,rfl,q⟩
end
end Stow
set_option Elab.async false
set_option linter.all false
set_option maxRecDepth 100000
set_option maxHeartbeats 4000000
namespace L2
open PySem PySem.Spec PyProof.Rows
section
variable {κ:Type}[DecidableEq κ]
def valV (kvs:List (κ×V))(k:κ):Option V:=(kvs.find? fun kv=>decide (kv.1=k)).map (·.2)
def putK (kvs:List (κ×V))(k:κ)(v:V):List (κ×V) :=
 if (kvs.any fun kv=>decide (kv.1=k))=true then kvs.map (fun kv=>if kv.1=k then (kv.1,v) else kv) else kvs++[(k,v)]
def dropK (kvs:List (κ×V))(k:κ):List (κ×V):=kvs.filter fun kv=>decide (kv.1≠k)
theorem Qw {p:κ×V}{r:List (κ×V)}{k:κ}(e:p.1=k):valV (p::r) k=some p.2:=by simp [valV,List.find?_cons,e]
theorem Qx {p:κ×V}{r:List (κ×V)}{k:κ}(e:¬p.1=k):valV (p::r) k=valV r k:=by simp [valV,List.find?_cons,e]
theorem Xa (k:κ):∀kvs:List (κ×V),(kvs.any fun kv=>decide (kv.1=k))=(valV kvs k).isSome
 | []=>rfl
 | p::r=>by
   rw[List.any_cons]
   by_cases e:p.1=k
   . simp only [Qw e,decide_eq_true e,Bool.true_or,Option.isSome_some]
   . rw[Qx e,decide_eq_false e,Bool.false_or];exact Xa k r
theorem RelO.isSome_eq {o:Option V}{u:Option Value}(r:RelO o u):o.isSome=u.isSome:=by
 cases o with
 | none=>cases u with
   | none=>rfl
   | some _=>exact(show False from r).elim
 | some _=>cases u with
   | none=>exact(show False from r).elim
   | some _=>rfl
theorem RelO.getD {o:Option V}{u:Option Value}{d:V}{d':Value}(r:RelO o u)(rd:RelV d d'):RelV (o.getD d) (u.getD d'):=by
 cases o with
 | none=>cases u with
   | none=>exact rd
   | some _=>exact(show False from r).elim
 | some _=>cases u with
   | none=>exact(show False from r).elim
   | some _=>exact r
theorem KV.val {kvs:List (κ×V)}{vs:List (κ×Value)}(r:KV kvs vs)(k:κ):RelO (valV kvs k) (valueAt vs k):=by
 unfold KV at r
 induction r with
 | nil=>exact True.intro
 | @cons p q ps qs h t ih =>
   obtain⟨h1,h2⟩:=h;by_cases e:p.1=k
   . have e':q.1=k:=h1.symm.trans e;have b:valueAt (q::qs) k=some q.2:=by simp [valueAt,List.find?_cons,e']
     rw[Qw e,b];exact h2
   . have e':¬q.1=k:=fun z=>e (h1.trans z);have b:valueAt (q::qs) k=valueAt qs k:=by simp [valueAt,List.find?_cons,e']
     rw[Qx e,b];exact ih
theorem KV.any {kvs:List (κ×V)}{vs:List (κ×Value)}(r:KV kvs vs)(k:κ):(kvs.any fun kv=>decide (kv.1=k))=vs.any fun kv=>decide (kv.1=k):=by
 unfold KV at r
 induction r with
 | nil=>rfl
 | cons h t ih=>rw[List.any_cons,List.any_cons,ih,h.1]
theorem KV.repl {kvs:List (κ×V)}{vs:List (κ×Value)}(r:KV kvs vs)(k:κ){y:V}{u:Value}(ry:RelV y u) :
   KV (kvs.map fun kv=>if kv.1=k then (kv.1,y) else kv) (vs.map fun kv=>if kv.1=k then (kv.1,u) else kv):=by
 unfold KV at r ⊢
 induction r with
 | nil=>exact .nil
 | @cons p q ps qs h t ih =>
   rw[List.map_cons,List.map_cons];refine .cons ?_ ih;obtain⟨h1,h2⟩:=h;by_cases e:p.1=k
   . rw[if_pos e,if_pos (h1.symm.trans e)];exact⟨h1,ry⟩
   . rw[if_neg e,if_neg (fun z=>e (h1.trans z))];exact⟨h1,h2⟩
theorem KV.put {kvs:List (κ×V)}{vs:List (κ×Value)}(r:KV kvs vs)(k:κ){y:V}{u:Value}(ry:RelV y u):KV (putK kvs k y) (stored vs k u):=by
 unfold putK stored;rw[r.any k];by_cases e:(vs.any fun kv=>decide (kv.1=k))=true
 . rw[if_pos e,if_pos e];exact r.repl k ry
 . rw[if_neg e,if_neg e];exact Paired.snoc r ⟨rfl,ry⟩
theorem KV.drop {kvs:List (κ×V)}{vs:List (κ×Value)}(r:KV kvs vs)(k:κ):KV (dropK kvs k) (without vs k):=by
 unfold KV at r ⊢;unfold dropK without
 induction r with
 | nil=>exact .nil
 | @cons p q ps qs h t ih =>
   obtain⟨h1,h2⟩:=h;rw[List.filter_cons,List.filter_cons];by_cases e:p.1=k
   . have a:¬decide (p.1≠k)=true:=by simp [e]
     have b:¬decide (q.1≠k)=true:=by simp [h1.symm.trans e]
     rw[if_neg a,if_neg b];exact ih
   . have e':¬q.1=k:=fun z=>e (h1.trans z);have a:decide (p.1≠k)=true:=by simp [e]
     have b:decide (q.1≠k)=true:=by simp [e']
     rw[if_pos a,if_pos b];exact .cons ⟨h1,h2⟩ ih
theorem KV.length {kvs:List (κ×V)}{vs:List (κ×Value)}(r:KV kvs vs):kvs.length=vs.length:=Paired.length r
end
abbrev KT (H:Hp):List (List Key×V)->List (List Key×Addr×Value)->Prop:=Paired fun p q=>p.1=q.1/\H q.2.1=some (.tup (p.1.map kV))/\RelV p.2 q.2.2
theorem KT.val {H:Hp}{kvs:List (List Key×V)}{xs:List (List Key×Addr×Value)}(r:KT H kvs xs)(k:List Key):RelO (valV kvs k) ((atKey xs k).map (·.2)):=by
 induction r with
 | nil=>exact True.intro
 | @cons p q ps qs h t ih =>
   obtain⟨h1,_,h2⟩:=h;by_cases e:p.1=k
   . have e':q.1=k:=h1.symm.trans e;have b:atKey (q::qs) k=some q.2:=by simp [atKey,List.find?_cons,e']
     rw[Qw e,b];exact h2
   . have e':¬q.1=k:=fun z=>e (h1.trans z);have b:atKey (q::qs) k=atKey qs k:=by simp [atKey,List.find?_cons,e']
     rw[Qx e,b];exact ih
theorem KT.repl {H:Hp}{kvs:List (List Key×V)}{xs:List (List Key×Addr×Value)}(r:KT H kvs xs)(k:List Key){y:V}{u:Value}(ry:RelV y u) :
   KT H (kvs.map fun kv=>if kv.1=k then (kv.1,y) else kv) (xs.map (putAt k u)):=by
 induction r with
 | nil=>exact .nil
 | @cons p q ps qs h t ih =>
   rw[List.map_cons,List.map_cons];refine .cons ?_ ih;obtain⟨h1,h2,h3⟩:=h;unfold putAt;by_cases e:p.1=k
   . rw[if_pos e,if_pos (h1.symm.trans e)];exact⟨h1,h2,ry⟩
   . rw[if_neg e,if_neg (fun z=>e (h1.trans z))];exact⟨h1,h2,h3⟩
theorem KT.put {H:Hp}{kvs:List (List Key×V)}{xs:List (List Key×Addr×Value)}(r:KT H kvs xs)(k:List Key){b:Addr}{y:V}{u:Value}(hb:H b=some (.tup (k.map kV)))(ry:RelV y u) :
   KT H (putK kvs k y) (storedH xs k b u):=by
 have e:(kvs.any fun kv=>decide (kv.1=k))=(atKey xs k).isSome:=by
   rw[Xa,(r.val k).isSome_eq,Option.isSome_map]
 unfold putK storedH;rw[e];by_cases q:(atKey xs k).isSome=true
 . rw[if_pos q,if_pos q];exact r.repl k ry
 . rw[if_neg q,if_neg q];exact Paired.snoc r ⟨rfl,hb,ry⟩
theorem KT.keeps {H H':Hp}{kvs:List (List Key×V)}{xs:List (List Key×Addr×Value)}(r:KT H kvs xs)(ht:∀b ys,H b=some (.tup ys)->H' b=some (.tup ys)):KT H' kvs xs :=
 Paired.mapP r fun _ _ z=>⟨z.1,ht _ _ z.2.1,z.2.2⟩
section
variable {P:Program}{w:World}{H:Hp}{h:Heap}{a:Addr}
end
def DGet (H:Hp)(a:Addr)(y:V)(r:Option V):Prop :=
 (∃kvs k,Rd H a (.dK kvs)/\y=kV k/\r=valV kvs k)\/∃kvs k b,Rd H a (.dT kvs)/\y = .ref b/\H b=some (.tup (k.map kV))/\r=valV kvs k
def DPut (H:Hp)(a:Addr)(y v:V)(H':Hp):Prop :=
 (∃kvs k,H a=some (.dK kvs)/\y=kV k/\kvs.length<sizeLine/\H'=upd H a (.dK (putK kvs k v))) \/
 ∃kvs k b,H a=some (.dT kvs)/\y = .ref b/\H b=some (.tup (k.map kV))/\kvs.length<sizeLine/\H'=upd H a (.dT (putK kvs k v))
theorem DGet.k {H:Hp}{a:Addr}{kvs:List (Key×V)}{k:Key}(e:H a=some (.dK kvs)):DGet H a (kV k) (valV kvs k):=.inl ⟨kvs,k,.inl e,rfl,rfl⟩
theorem DGet.t {H:Hp}{a b:Addr}{kvs:List (List Key×V)}{k:List Key}(e:H a=some (.dT kvs))(eb:H b=some (.tup (k.map kV))):DGet H a (.ref b) (valV kvs k):=.inr ⟨kvs,k,b,.inl e,rfl,eb,rfl⟩
theorem DPut.k {H:Hp}{a:Addr}{kvs:List (Key×V)}{k:Key}{v:V}(e:H a=some (.dK kvs))(hl:kvs.length<sizeLine):DPut H a (kV k) v (upd H a (.dK (putK kvs k v))):=.inl ⟨kvs,k,e,rfl,hl,rfl⟩
theorem DPut.t {H:Hp}{a b:Addr}{kvs:List (List Key×V)}{k:List Key}{v:V}(e:H a=some (.dT kvs))(eb:H b=some (.tup (k.map kV)))(hl:kvs.length<sizeLine) :
   DPut H a (.ref b) v (upd H a (.dT (putK kvs k v))):=.inr ⟨kvs,k,b,e,rfl,eb,hl,rfl⟩
section
variable {X:Cx}{pins:List (Addr×Obj)}{σ:St}{H:Hp}{s:Shared}{a:Addr}{y v:V}{u r:Value}{o:Option V}{A:Around}{E:Value->Shared->Prop}
end
section
variable {X:Cx}{pins:List (Addr×Obj)}{σ:St}{H:Hp}{s:Shared}{a:Addr}{kvs:List (Key×V)}{k:Key}{u:Value}{A:Around}{E:Value->Shared->Prop}
end
section
variable {X:Cx}{o i e value:Expr}{pos pos' tpos:Pos}{td ty tv:TE}
end
section
variable {X:Cx}{pos:Pos}
end
structure M1 (X:Cx)(o:Expr)(m:Str)(apos:Pos)(e:Expr)(cpos:Pos):Prop where
 base:attributeBase o m X.env (eval o X.env)=eval o X.env
 few:((backTo cpos (starEach [e] X.env)).all (fun x=>!x.1)&&(backToKw cpos (keywordEach [] X.env)).all (fun x=>x.1.isSome)
   && decide (([e]:List Expr).length+([]:List Keyword).length+(if ([]:List Keyword).isEmpty then 0 else 1)<30))=true
 line:(apos.endLine==cpos.line)=true
 trees:backTo cpos (starEach [e] X.env)=[(false,eval e X.env)]
structure M2 (X:Cx)(o:Expr)(m:Str)(apos:Pos)(e f:Expr)(cpos:Pos):Prop where
 base:attributeBase o m X.env (eval o X.env)=eval o X.env
 few:((backTo cpos (starEach [e,f] X.env)).all (fun x=>!x.1)&&(backToKw cpos (keywordEach [] X.env)).all (fun x=>x.1.isSome)
   && decide (([e,f]:List Expr).length+([]:List Keyword).length+(if ([]:List Keyword).isEmpty then 0 else 1)<30))=true
 line:(apos.endLine==cpos.line)=true
 trees:backTo cpos (starEach [e,f] X.env)=[(false,eval e X.env),(false,eval f X.env)]
section
variable {X:Cx}{pins:List (Addr×Obj)}{σ:St}{H:Hp}{s:Shared}{a:Addr}{y d:V}{u r:Value}{o:Option V}{A:Around}{E:Value->Shared->Prop}
end
section
variable {X:Cx}{o e f:Expr}{apos cpos:Pos}{td ty tx:TE}
end
section
variable {X:Cx}{pins:List (Addr×Obj)}{σ:St}{H:Hp}{s:Shared}{a:Addr}{kvs:List (Key×V)}{A:Around}{E:Value->Shared->Prop}
end
section
variable {X:Cx}{pins:List (Addr×Obj)}{σ:St}{H:Hp}{s:Shared}{a:Addr}{y:V}{u:Value}{A:Around}{E:Value->Shared->Prop}
end
end L2
namespace L2
open PySem PySem.Spec PyProof.Rows
section
variable {X:Cx}
end
section
variable {κ:Type}[DecidableEq κ]
end
end L2
set_option Elab.async false
set_option linter.all false
set_option maxRecDepth 100000
set_option maxHeartbeats 4000000
namespace Stow
open PySem L2 PyProof.Rows
def CShl (i j:Int):Prop:=0<=j/\j<=1000/\i.natAbs<2^220
section
variable {X:Cx}
theorem Qy:OpR X (binaryOp .LShift) (rI CShl fun i j=>.int (i*2^j.toNat)):=opI fun i j _ _ _ _ _ hc q =>
 lshift_int hc.1 (by
   obtain⟨h0,h1,h2⟩:=hc
   have:=PyProof.Rows.intBits_le h2
   omega) q
end
theorem cM (n:Int):Builtin.bitOr (n*2) 1=n*2+1:=by
 rw[PyProof.Rows.bitOr_and];have e:Builtin.bitAnd (n*2) 1=(n*2)%2:=by rw[bitAnd_m1]
 rw[e];omega
end Stow
set_option Elab.async false
set_option linter.all false
set_option maxRecDepth 100000
set_option maxHeartbeats 4000000
namespace Stow
open PySem L2 PyProof.Rows
section
variable {prog:Program}{w:World}{A:Around}{R:Result->Shared->Prop}{s:Shared}
theorem cN {elt tgt src:Expr}{cs:List Expr}{sc:Scope}{ps:Pos}{itv accv:Value}{ev:Env}(J:Nat->Shared->Prop)
   (step:∀k t,J k t->wpAny (model prog w) A (pyNext itv) (fun r t1=>match r with
     | none=>R (.ok .next) t1
     | some x=>wpAny (model prog w) A (letOwnedTupleGo tgt itv x) (fun _ t2=>wpAny (model prog w) A (assign tgt ev x) (fun _ t3 =>
         wpAny (model prog w) A (forIn cs true fun c r=>if r=true then do let ok <-isTrue c ev (eval c ev);pure (ForInStep.yield ok) else pure (ForInStep.yield r)) (fun good t4 =>
           if good=true then wpAny (model prog w) A (eval elt ev) (fun y t5=>wpAny (model prog w) A (call (.builtin "list.append") [accv,y]) (fun _ t6=>∃j,j<k/\J j t6) (notedBy (model prog w) A ev fun e t'=>R (.error e) t') t5) (notedBy (model prog w) A ev fun e t'=>R (.error e) t') t4
           else ∃j,j<k/\J j t4) (notedBy (model prog w) A ev fun e t'=>R (.error e) t') t3) (notedBy (model prog w) A ev fun e t'=>R (.error e) t') t2) (notedBy (model prog w) A ev fun e t'=>R (.error e) t') t1) (notedBy (model prog w) A ev fun e t'=>R (.error e) t') t)
   (k0:Nat) (j0:J k0 s):codeAny (model prog w) A (.compLoop (.ListComp elt [⟨tgt,src,cs,0⟩] sc ps) 0 itv accv ev) R s:=by
 refine codeAny_loop rfl J (fun k t hJ=>?_) k0 j0;show wpAny _ A ((compTurn (.ListComp elt [⟨tgt,src,cs,0⟩] sc ps) 0 itv accv ev).onRaise (fun x=>do noteFrame x ev;theTreesLotGoes x)) _ _ t;refine wpAny_noted ?_;rw[compTurn_list];refine wpAny_bind (wpAny_standAt (wpAny_bind (wpAny_mono (step k t hJ) (fun r t1 g1=>?_) fun _ _ z=>z)));cases r with
 | none=>exact wpAny_pure g1
 | some x =>
   refine wpAny_bind (wpAny_mono g1 (fun _ t2 g2=>?_) fun _ _ z=>z);refine wpAny_bind (wpAny_mono g2 (fun _ t3 g3=>?_) fun _ _ z=>z);refine wpAny_bind (wpAny_mono g3 (fun good t4 g4=>?_) fun _ _ z=>z);cases good with
   | false=>exact wpAny_pure ⟨rfl,g4⟩
   | true=>exact wpAny_bind (wpAny_bind (wpAny_mono g4 (fun y t5 g5=>wpAny_bind (wpAny_mono g5 (fun _ t6 g6=>wpAny_pure (wpAny_pure ⟨rfl,g6⟩)) fun _ _ z=>z)) fun _ _ z=>z))
end
theorem Qz {env:Env}:∀(names:List (Str×NameKind)) (acc:List (Str×Addr)),(∀y∈names,y.2 = .free->∃c,env.cells.lookup y.1=some c)->(∀x c,acc.lookup x=some c->env.cells.lookup x=some c) ->
   ∃cl,(forIn names acc fun x r=>(do let (name,kind):=x;if (kind==NameKind.free)=true then do let c <-cellOf env name;pure (ForInStep.yield ((name,c)::r)) else pure (ForInStep.yield r)):Sem (List (Str×Addr)))=pure cl /\
     (∀x c,cl.lookup x=some c->env.cells.lookup x=some c)/\(∀y∈names,y.2 = .free->∃c,cl.lookup y.1=some c)/\(∀x c,acc.lookup x=some c->∃c',cl.lookup x=some c')
 | [],acc,_,ha=>⟨acc,by simp,ha,fun y hy=>by simp at hy,fun x c e=>⟨c,e⟩⟩
 | (n,k)::r,acc,h,ha=>by
   by_cases hk:k = .free
   . obtain⟨c,hc⟩:=h (n,k) List.mem_cons_self hk
     obtain⟨cl,e1,e2,e3,e4⟩:=Qz r ((n,c)::acc) (fun y hy=>h y (List.mem_cons_of_mem _ hy)) (fun x d e=>by
       by_cases hx:x=n
       . subst hx
         rw[List.lookup_cons_self] at e
         cases e
         exact hc
       . rw[List.lookup_cons,show (x==n)=false by simpa using hx] at e
         exact ha x d e)
     refine⟨cl,?_,e2,fun y hy hf=>?_,fun x d e=>?_⟩
     . rw[List.forIn_cons]
       subst hk
       have ec:cellOf env n=pure c:=by unfold cellOf;rw[hc]
       simp only [beq_self_eq_true,if_true,ec,pure_bind]
       exact e1
     . rcases List.mem_cons.mp hy with z | z
       . subst z
         exact e4 n c (by rw[List.lookup_cons_self])
       . exact e3 y z hf
     . by_cases hx:x=n
       . subst hx
         exact e4 x c (by rw[List.lookup_cons_self])
       . exact e4 x d (by rw[List.lookup_cons,show (x==n)=false by simpa using hx];exact e)
   . obtain⟨cl,e1,e2,e3,e4⟩:=Qz r acc (fun y hy=>h y (List.mem_cons_of_mem _ hy)) ha
     refine⟨cl,?_,e2,fun y hy hf=>?_,e4⟩
     . rw[List.forIn_cons]
       have:(k==NameKind.free)=false:=by simpa using hk
       simp only [this,Bool.false_eq_true,if_false,pure_bind]
       exact e1
     . rcases List.mem_cons.mp hy with z | z
       . subst z
         exact absurd hf hk
       . exact e3 y z hf
theorem Xb {scope:Scope}{env:Env}(h:∀y∈scope.names,y.2 = .free->∃c,env.cells.lookup y.1=some c) :
   ∃cl,closureFor scope env=pure cl/\(∀x c,cl.lookup x=some c->env.cells.lookup x=some c)/\(∀y∈scope.names,y.2 = .free->∃c,cl.lookup y.1=some c):=by
 obtain⟨cl,e1,e2,e3,_⟩:=Qz scope.names [] h (fun x c e=>by simp at e);refine⟨cl,?_,e2,e3⟩;unfold closureFor;simp only [bind_pure] at *;exact e1
section
variable {X:Cx}
abbrev Cx.blockG (X:Cx)(scope:Scope)(cl:List (Str×Addr))(C:Addr)(N:List Str)(s₀:Shared)(H₀:Hp)(ex:List Addr):Cx :=
 { X with N:=N,s₀:=s₀,H₀:=H₀,env:=compEnvC scope cl C X.env,outer:=X.stack,stack:=X.stack,ex:=ex,fn:=fun _=>false,pn:=[],xe:=fun _ _=>False }
theorem cP {pins:List (Addr×Obj)}{σ:L2.St}{H:Hp}{s:Shared}{scope:Scope}{cl:List (Str×Addr)}{C:Addr}{N:List Str}{fp:List Addr}(I:Inv X pins σ H s)(hk:scope.kind = .function)(hC:s.heap.objs.size<=C)
   (hcl:∀x c,cl.lookup x=some c->X.env.cells.lookup x=some c) (hhas:∀y,(relabel scope X.env).names.lookup y=some .cell\/(relabel scope X.env).names.lookup y=some .free->∃c,cl.lookup y=some c)
   (ho:∀b∈fp,∃o,s.heap.get? b=some o/\∀v,o.data≠.cell v) (hf:∀b∈fp,FpOk X pins H b) :
   (Cx.blockG X scope cl C N s H fp).Ok where
 mod:=I.ok.mod
 kind:=hk
 glob:=I.ok.glob
 blt:=I.ok.blt
 above:=hC
 inj:=fun x y c e1 e2=>I.ok.inj x y c (hcl x c e1) (hcl y c e2)
 has:=fun y e=>hhas y e
 cab:=fun _ _ e=>nomatch e
 hd:=I.ok.hd
 frames:=I.ok.frames
 stk:=.inl rfl
 exf:=fun b hb=>⟨fun z=>by
   obtain⟨o,e,_⟩:=ho b hb
   have:=Nat.lt_of_lt_of_le (Heap.lt_size e) hC
   rw[z] at this
   exact Nat.lt_irrefl _ this,fun x c e=>(hf b hb).2.2.2.2.1 x c (hcl x c e)⟩
 bs:=I.bs
 bsz:=Nat.le_trans I.ok.bsz I.sz
 noex:=fun b o e hb=>by
   rcases(hf b hb).2.2.2.1 with z | z
   . exact I.ok.noex b o e z
   . exact absurd (Nat.lt_of_lt_of_le (Heap.lt_size (I.ok.bs b o e).1) z) (Nat.lt_irrefl _)
 exfs:=fun b hb z=>by
   rcases List.mem_cons.mp (I.stkSub b z) with e | e
   . exact(hf b hb).2.1 e
   . exact(hf b hb).2.2.1 e
 funs:=I.stack
 frf:=I.stkFree
def Jq (n:Nat)(fs:L2.St)(J:It)(g:TG)(tt:TT)(te:TE)(Q:VK)(H1:Hp):Prop:=∀D,H1 D=none->∃W:Nat->Nat->List V->Hp->Prop,(∃m,W 0 m [] (upd H1 D (.lst [])))/\∀i m ys H2,W i m ys H2 ->
 (J.stop i H2/\Q (.ref D) H2)\/(J.go i H2/\∀x H3,J.yld i H2 x H3->∀τ:L2.St,τ.length=n->g x (τ++fs) H3 fun σ1 H4=>(∃τ':L2.St,τ'.length=n/\σ1=τ'++fs)/\tt σ1 H4 fun b H5 =>
   if b=true then te σ1 H5 fun y H6=>H6 D=some (.lst ys)/\ys.length<sizeLine/\∃m',m'<m/\W (i+1) m' (ys++[y]) (upd H6 D (.lst (ys++[y]))) else ∃m',m'<m/\W (i+1) m' ys H5)
def Jr (n:Nat)(is:List Nat)(wi:TI)(g:TG)(tt:TT)(te:TE):TE:=fun σ H Q=>wi σ H fun J H1=>Jq n (is.map fun k=>σ.getD k none) J g tt te Q H1
def F9 (X:Cx)(scope:Scope)(F:List Str)(is:List Nat):Prop:=F.length=is.length/\∀(j:Nat) (y:Str) (k:Nat),F[j]?=some y->is[j]?=some k->X.N[k]?=some y/\X.env.kindOf y=some .cell/\(relabel scope X.env).names.lookup y=some .cell
theorem Xc {elt iter tg:Expr}{pos:Pos}{ifs:List Expr}{scope:Scope}{O F:List Str}{is:List Nat}{cl:List (Str×Addr)}{g:TG}{tt:TT}{te:TE}{pins:List (Addr×Obj)}{σ:L2.St}{s2:Shared}{H2:Hp}{it:Addr}{fp:List Addr}{tn:Nat->Heap->Prop}{J:It}{Q:VK}{RR:Value->Addr->Result->Shared->Prop}
   (hc:X.calm=true) (hkind:scope.kind = .function) (hcell:∀y∈scope.names,y.2≠.cell)
   (hcl:∀x c,cl.lookup x=some c->X.env.cells.lookup x=some c) (hhas:∀y,(relabel scope X.env).names.lookup y=some .cell\/(relabel scope X.env).names.lookup y=some .free->∃c,cl.lookup y=some c) (hF:F9 X scope F is)
   (hG:∀cl C s₀ H₀ ex,PG (Cx.blockG X scope cl C (O++F) s₀ H₀ ex) tg g) (hT:∀cl C s₀ H₀ ex,PTs (Cx.blockG X scope cl C (O++F) s₀ H₀ ex) ifs tt) (hE:∀cl C s₀ H₀ ex,PE (Cx.blockG X scope cl C (O++F) s₀ H₀ ex) elt te)
   (I2:Inv X pins σ H2 s2) (T:Turn X.prog X.w X.K tg J fp it tn) (st2:tn 0 s2.heap) (f2:∀b∈fp,FpOk X pins H2 b)
   (h:Jq O.length (is.map fun k=>σ.getD k none) J g tt te Q H2)
   (hRR:∀D C H' s',Inv X pins σ H' s'->FpOk X pins H' C->(∃m,s'.heap.Ns C m)->Q (.ref D) H'->RR (.ref D) C (.ok .next) s') :
   wpAny (model X.prog X.w) X.A (newList []) (fun acc s₃=>wpAny (model X.prog X.w) X.A (newFunctionEnv scope X.env.globals cl [] X.env.qual none .none (some X.env)) (fun cenv s₄ =>
     codeAny (model X.prog X.w) X.A (.compStart (.ListComp elt [⟨tg,iter,ifs,0⟩] scope pos) 0 (.ref it) acc { cenv with scope:=relabel scope X.env }) (RR acc cenv.locals) s₄) X.xe s₃) X.xe s2:=by
 refine wpAny_newObj_type (wpAny_newFunctionEnv hcell (by intro y hy;simp at hy) (fun h₁ hns₁ hsb₁=>?_) hkind);dsimp only at hns₁ hsb₁ ⊢;generalize hG0:s2.heap.push { cls:=.type "list",dict:=none,data:=.seq ([]:List Value).toArray }=G at hns₁ hsb₁ ⊢;have hCs:G.objs.size=s2.heap.objs.size+1:=by rw[<-hG0,Heap.size_push]
 have hDC:s2.heap.objs.size≠G.objs.size:=by rw[hCs];exact Nat.ne_of_lt (Nat.lt_succ_self _)
 have hCle:s2.heap.objs.size<=G.objs.size:=by rw[hCs];exact Nat.le_succ _
 have old:∀b o,s2.heap.get? b=some o->h₁.get? b=some o:=fun b o e=>hsb₁.extBut b o (by rw[hCs];exact Nat.ne_of_lt (Nat.lt_succ_of_lt (Heap.lt_size e))) (Heap.get?_push_of_some _ (hG0▸Heap.get?_push_of_some _ e));have eD:h₁.get? s2.heap.objs.size=some { cls:=.type "list",dict:=none,data:=.seq ([]:List Value).toArray }:=hsb₁.extBut _ _ hDC (Heap.get?_push_of_some _ (hG0▸Heap.get?_push_size _ rfl));have nD:H2 s2.heap.objs.size=none:=I2.hok.fresh (Nat.le_refl _);have nC:H2 G.objs.size=none:=I2.hok.fresh hCle;obtain⟨W,⟨m0,w0⟩,turn⟩:=h s2.heap.objs.size nD;generalize efs:(is.map fun k=>σ.getD k none)=fs at turn;have fre:∀b∈fp,upd H2 s2.heap.objs.size (.lst []) b=none:=fun b hb=>by
   obtain⟨o,e,_⟩:=T.obj _ _ st2 b hb;rw[AE (Nat.ne_of_lt (Heap.lt_size e))];exact(f2 b hb).1
 have loop:∀s4:Shared,s4={ s2 with heap:=h₁,toks:=s2.toks+([]:List (Str×Value)).length } ->
     codeAny (model X.prog X.w) X.A (.compLoop (.ListComp elt [⟨tg,iter,ifs,0⟩] scope pos) 0 (.ref it) (.ref s2.heap.objs.size) (compEnvC scope cl G.objs.size X.env)) (RR (.ref s2.heap.objs.size) G.objs.size) s4:=by
   rintro s4 rfl;have ok:=cP (N:=O++F) I2 hkind hCle hcl hhas (T.obj _ _ st2) f2;have IB:Inv (Cx.blockG X scope cl G.objs.size (O++F) s2 H2 fp) [] (List.replicate O.length none++fs) (upd H2 s2.heap.objs.size (.lst [])) { s2 with heap:=h₁,toks:=s2.toks+([]:List (Str×Value)).length }:=by
     refine⟨ok,rfl,I2.bare,Un.laid old (Nat.le_refl _) nD,⟨_,hns₁,fun i y v e1 e2 _=>?_⟩,(fun x c e=>?_),?_,(fun x c e=>?_),(fun p hp=>nomatch hp),I2.hok.laid old (Nat.le_refl _) ⟨Nat.zero_le _,[],0,.nil,eD⟩,?_⟩
     . have e1:(O++F)[i]?=some y:=e1;by_cases hi:i<O.length
       . rw[List.getElem?_append_left (by rw[List.length_replicate];exact hi),List.getElem?_replicate,if_pos hi] at e2;cases e2
       . rw[List.getElem?_append_right (by omega)] at e1;rw[List.getElem?_append_right (by rw[List.length_replicate];omega),List.length_replicate,<-efs,List.getElem?_map] at e2;obtain⟨k,ek,ev⟩:=Option.map_eq_some_iff.mp e2;obtain⟨g1,g2,g3⟩:=hF.2 _ _ _ e1 ek;have es:σ[k]?=some (some v):=by
           rw[List.getD_eq_getElem?_getD] at ev;cases q:σ[k]? with
           | none=>rw[q] at ev;cases ev
           | some z=>rw[q] at ev;exact congrArg some ev
         obtain⟨m,hm,hl⟩:=I2.loc;obtain⟨u,ru,lk⟩:=hl k y v g1 es (.inr (.inl g2));refine⟨u,ru,.inr ⟨.inl g3,?_⟩⟩;rcases lk with ⟨z,_⟩ | ⟨_,c,c1,o,c2,c3⟩
         . rw[g2] at z;cases z
         . obtain⟨c',e'⟩:=hhas y (.inl g3);have:=hcl y c' e';rw[c1] at this;cases this;exact⟨c,e',o,old c o c2,c3⟩
     . obtain⟨v,o,c2,c3⟩:=I2.cell x c (hcl x c e);exact⟨v,o,old c o c2,c3⟩
     . show upd H2 s2.heap.objs.size (.lst []) G.objs.size=none;rw[AE (Ne.symm hDC)];exact nC
     . obtain⟨v,o,c2,c3⟩:=I2.cell x c (hcl x c e);show upd H2 s2.heap.objs.size (.lst []) c=none;rw[AE (Nat.ne_of_lt (Heap.lt_size c2))];exact I2.freeC x c (hcl x c e)
     . show (List.replicate O.length none++fs).length=(O++F).length;rw[List.length_append,List.length_append,List.length_replicate,<-efs,List.length_map,hF.1]
   have stat:∀{H':Hp},(∀b∈fp,H' b=none)->∀b∈fp,FpOk (Cx.blockG X scope cl G.objs.size (O++F) s2 H2 fp) [] H' b:=fun hn b hb =>
     ⟨hn b hb,(ok.exf b hb).1,ok.exfs b hb,.inl hb,(ok.exf b hb).2,(fun p hp=>nomatch hp)⟩
   refine cN (fun n s'=>∃i ys τ H',Inv (Cx.blockG X scope cl G.objs.size (O++F) s2 H2 fp) [] (τ++fs) H' s'/\τ.length=O.length/\tn i s'.heap/\(∀b∈fp,H' b=none)/\W i n ys H') ?_ m0
     ⟨0,[],_,_,IB,List.length_replicate,T.keep _ _ _ st2 fun b _ o e=>old b o e,fre,w0⟩
   rintro n s3 ⟨i,ys,τ,H3,I3,hτ,st3,fr3,w3⟩;rcases turn i n ys H3 w3 with ⟨stop,q⟩ | ⟨go,step⟩
   . refine wpAny_mono (T.done (Cx.blockG X scope cl G.objs.size (O++F) s2 H2 fp) rfl rfl rfl hc i [] s3 (τ++fs) H3 (fun _ _=>False) I3 (stat fr3) st3 stop) (fun r s4 ⟨hr,I4⟩=>?_) (fun _ _ z=>z.elim);subst hr;obtain⟨m,hn,_⟩:=I4.loc;refine hRR _ G.objs.size H3 s4 (I2.call' (ch:=fp) I4.os I4.base I4.hok I4.bare fun b hb=>?_) (I2.fpOk hCle I4.free) ⟨m,hn⟩ q;obtain⟨g0,g1,g2,g3,g4,g5⟩:=f2 b hb;exact⟨g3,g1,g4,g5⟩
   . refine wpAny_mono (T.item (Cx.blockG X scope cl G.objs.size (O++F) s2 H2 fp) rfl rfl rfl hc i [] s3 (τ++fs) H3 (fun _ _=>False) I3 (stat fr3) st3 go) (fun r s4 ⟨u,hr,h4⟩=>?_) (fun _ _ z=>z.elim);subst hr;refine wpAny_mono h4 (fun _ s5 ⟨v,H5,I5,r5,y5,st5,fr5⟩=>?_) (fun _ _ z=>z.elim);have I5':=I5.pinned (stat fr5) (T.obj _ _ st5);refine wpAny_mono (hG _ _ _ _ _ _ s5 (τ++fs) H5 v u _ I5' r5 (step v H5 y5 τ hτ)) (fun _ s6 ⟨σ6,H6,I6,⟨τ',hτ',e6⟩,q6⟩=>?_) (fun _ _ z=>z.elim);subst e6;have again:∀{s7:Shared} {H7:Hp} {ys':List V} {m':Nat},Inv (Cx.blockG X scope cl G.objs.size (O++F) s2 H2 fp) ([]++Jd fp s5.heap) (τ'++fs) H7 s7->m'<n->W (i+1) m' ys' H7 ->
         ∃m,m<n/\∃i ys τ H',Inv (Cx.blockG X scope cl G.objs.size (O++F) s2 H2 fp) [] (τ++fs) H' s7/\τ.length=O.length/\tn i s7.heap/\(∀b∈fp,H' b=none)/\W i m ys H':=fun {s7 H7 ys' m'} I7 hm w7=>by
       refine⟨m',hm,i+1,ys',τ',H7,I7.unpinned,hτ',T.keep _ _ _ st5 fun b hb o e=>(I7.pin (b,o) (List.mem_append_right _ (List.mem_append_right _ (Np hb e)))).1,fun b hb=>?_,w7⟩;obtain⟨o,e,_⟩:=T.obj _ _ st5 b hb;exact(I7.pin (b,o) (List.mem_append_right _ (List.mem_append_right _ (Np hb e)))).2.1
     refine wpAny_mono (hT _ _ _ _ _ _ s6 (τ'++fs) H6 _ I6 q6) (fun b s7 ⟨H7,I7,q7⟩=>?_) (fun _ _ z=>z.elim);cases b with
     | false =>
       obtain⟨m',hm,w7⟩:=q7;exact again I7 hm w7
     | true =>
       rw[if_pos rfl];refine wpAny_mono (hE _ _ _ _ _ _ s7 (τ'++fs) H7 _ I7 q7) (fun y' s8 ⟨y,H8,I8,ry,hD,hz,m',hm,w8⟩=>?_) (fun _ _ z=>z.elim);refine wpAny_mono (F4 (X:=Cx.blockG X scope cl G.objs.size (O++F) s2 H2 fp) _ s8 (τ'++fs) H8 (.ref s2.heap.objs.size) [y] (.ref s2.heap.objs.size) [y'] (fun _ H9=>H9=upd H8 s2.heap.objs.size (.lst (ys++[y]))) I8 rfl (.cons ry .nil) ⟨s2.heap.objs.size,ys,y,rfl,rfl,hD,hz,rfl⟩) (fun _ s9 ⟨_,H9,I9,_,e9⟩=>?_) (fun _ _ z=>z.elim);subst e9;exact again I9 hm w8
 exact codeAny_compStart_list (loop _ rfl) (T.self _ 0 _ _ _ (T.keep _ _ _ st2 fun b _ o e=>old b o e) (loop _ rfl))
theorem DW {elt iter tg:Expr}{pos:Pos}{ifs:List Expr}{scope:Scope}{wi:TI}{g:TG}{tt:TT}{te:TE}(O F:List Str)(is:List Nat)(hc:X.calm=true)(hi:PI X tg iter wi)
   (hG:∀cl C s₀ H₀ ex,PG (Cx.blockG X scope cl C (O++F) s₀ H₀ ex) tg g) (hT:∀cl C s₀ H₀ ex,PTs (Cx.blockG X scope cl C (O++F) s₀ H₀ ex) ifs tt) (hE:∀cl C s₀ H₀ ex,PE (Cx.blockG X scope cl C (O++F) s₀ H₀ ex) elt te)
   (hF:F9 X scope F is) (hfc:∀y∈scope.names,y.2 = .free->X.env.kindOf y.1=some .cell) (hrl:∀y,(relabel scope X.env).names.lookup y=some .cell\/(relabel scope X.env).names.lookup y=some .free->∃z∈scope.names,z.1=y/\z.2 = .free)
   (hkind:scope.kind = .function:=by rfl) (hcell:∀y∈scope.names,y.2≠.cell:=by decide +kernel)
   (hnames:∀y∈scope.names,y.2 = .local->scope.names.lookup y.1=some .local:=by decide +kernel) (hs:∀y,foldedSetIterable iter X.env y=pure y:=by intro _;rfl) :
   PE X (.ListComp elt [⟨tg,iter,ifs,0⟩] scope pos) (Jr O.length is wi g tt te):=by
 intro pins s σ H Q I h;rw[eval_ListComp];obtain⟨cl,hcf,hcl,hca⟩:=Xb (scope:=scope) (env:=X.env) fun y hy hf=>I.ok.has y.1 (.inl (hfc y hy hf));refine wpAny_comprehension_free (use:=none) (cl:=cl) rfl hs hcf hkind hnames (wpAny_mono (hi pins s σ H _ I h) (fun v s1 h1=>wpAny_mono h1 (fun itv s2 h2=>?_) fun _ _ e=>e) fun _ _ e=>e);obtain⟨it,fp,tn,J,H2,e,I2,T,st2,f2,R2⟩:=h2;subst e;refine Xc (O:=O) (F:=F) (is:=is) (Q:=Q) (RR:=fun acc C=>compPost (model X.prog X.w) X.A X.xe none (EP X pins σ Q) acc C) hc hkind hcell hcl (fun y hy=>?_) hF hG hT hE I2 T st2 f2 R2 ?_
 . obtain⟨z,hz,e1,e2⟩:=hrl y hy;subst e1;exact hca z hz e2
 . rintro D C H' s' I' f' ⟨m,hn⟩ q;obtain⟨f0,f1,f2',f3,f4,f5⟩:=f';refine⟨m,hn,fun h' sb=>⟨.ref D,H',I'.turned (t':=s'.toks) (fun b o hb e=>(sb.2 b hb).trans e) f0 f1 f3 f4 f5,rfl,q⟩⟩
theorem Ib {elt iter tg:Expr}{y:Str}{py pos spos:Pos}{ifs:List Expr}{scope:Scope}{wi:TI}{g:TG}{tt:TT}{te:TE}{i:Nat}(O F:List Str)(is:List Nat)(hN:X.N.Nodup)(hi0:X.N[i]?=some y)(hy:Loc X.env.scope y)(hc:X.calm=true)(hi:PI X tg iter wi)
   (hG:∀cl C s₀ H₀ ex,PG (Cx.blockG X scope cl C (O++F) s₀ H₀ ex) tg g) (hT:∀cl C s₀ H₀ ex,PTs (Cx.blockG X scope cl C (O++F) s₀ H₀ ex) ifs tt) (hE:∀cl C s₀ H₀ ex,PE (Cx.blockG X scope cl C (O++F) s₀ H₀ ex) elt te)
   (hF:F9 X scope F is) (hfc:∀y∈scope.names,y.2 = .free->X.env.kindOf y.1=some .cell) (hrl:∀y,(relabel scope X.env).names.lookup y=some .cell\/(relabel scope X.env).names.lookup y=some .free->∃z∈scope.names,z.1=y/\z.2 = .free)
   (hsw:swapsWith (.ListComp elt [⟨tg,iter,ifs,0⟩] scope pos) (some (.Name y py)) spos.line X.env=pure true:=by rfl)
   (hkind:scope.kind = .function:=by rfl) (hcell:∀y∈scope.names,y.2≠.cell:=by decide +kernel)
   (hnames:∀y∈scope.names,y.2 = .local->scope.names.lookup y.1=some .local:=by decide +kernel) (hs:∀y,foldedSetIterable iter X.env y=pure y:=by intro _;rfl)
   (hf:X.fn y=true\/X.env.scope.names.lookup y=some .local:=by first | exact .inl rfl | exact .inr rfl | assumption) :
   PS X (.Assign [.Name y py] (.ListComp elt [⟨tg,iter,ifs,0⟩] scope pos) spos) (tAsg (Jr O.length is wi g tt te) (FW i)):=by
 intro pins s σ H D I h;rw[exec_Assign_Name_used _ _ _ _ hsw];obtain⟨cl,hcf,hcl,hca⟩:=Xb (scope:=scope) (env:=X.env) fun y hy hf=>I.ok.has y.1 (.inl (hfc y hy hf));refine wpAny_bind (wpAny_standAt (wpAny_bind ?_));show wpAny _ X.A (do let _ <-comprehension (.ListComp elt [⟨tg,iter,ifs,0⟩] scope pos) scope X.env _ (newList []) false (eval iter X.env) (some (assign (.Name y py) X.env))) _ _ s;refine wpAny_bind (wpAny_mono (wpAny_comprehension_free (use:=some (assign (.Name y py) X.env)) (cl:=cl) (Q:=fun _ s'=>SP X pins D .next s') rfl hs hcf hkind hnames
   (wpAny_mono (hi pins s σ H _ I h) (fun v s1 h1=>wpAny_mono h1 (fun itv s2 h2=>?_) fun _ _ e=>e) fun _ _ e=>e)) (fun _ s' hq=>wpAny_pure (wpAny_pure hq)) fun _ _ e=>e)
 obtain⟨it,fp,tn,J,H2,e,I2,T,st2,f2,R2⟩:=h2;subst e;refine Xc (O:=O) (F:=F) (is:=is) (Q:=fun v H1=>FW i v σ H1 D.nx) (RR:=fun acc C=>compPost (model X.prog X.w) X.A X.xe (some (assign (.Name y py) X.env)) (fun _ s'=>SP X pins D .next s') acc C) hc hkind hcell hcl (fun y hy=>?_) hF hG hT hE I2 T st2 f2 R2 ?_
 . obtain⟨z,hz,e1,e2⟩:=hrl y hy;subst e1;exact hca z hz e2
 . rintro D' C H' s' I' f' ⟨m,hn⟩ q;obtain⟨f0,f1,f2',f3,f4,f5⟩:=f';show wpAny _ X.A (assign (.Name y py) X.env (.ref D')) _ _ _;refine wpAny_assign_Name (V5 I' hN hi0 hy (v:=.ref D') rfl (fun s'' I'' ⟨a,sb,ha⟩=>?_) hf);have ne:C≠a:=by
     rcases ha with e | e
     . rw[e];exact f1
     . exact fun z=>f4 _ _ e z.symm
   exact⟨m,hn.sameBut sb ne,fun h' sb'=>⟨_,H',I''.turned (t':=s''.toks) (fun b o hb e=>(sb'.2 b hb).trans e) f0 f1 f3 f4 f5,q⟩⟩
theorem Js {K:PySem.W.Frag}(hK:X.K=K):IxR X (rIxT K):=hK▸Bn
theorem Ic {K:PySem.W.Frag}(hK:X.K=K):IxR X (rIxL K):=hK▸AV
theorem DF {K:PySem.W.Frag}{es:List Expr}{k:Nat}{t:TGs}{n:Nat}{pos:Pos}(hK:X.K=K)(hc:X.calm=true)(h:PGs X es t)
   (hn:(assignEach es X.env).length=n:=by rfl) (hst:(assignEach es X.env).findIdx? (·.1)=none:=by rfl):PG X (.Tuple es k pos) (gTup K n t):=hK▸Dr hc h hn hst
theorem Jt {K:PySem.W.Frag}{a:Expr}{ta:TE}(hK:X.K=K)(ha:PE X a ta)(he:∀whole,isTrue a X.env whole=(do let v <-whole;standAt a.pos;holding [v] (truthy v))):PT X a (fun σ H Q=>ta σ H fun x H'=>∃k,TruV K x H' k/\Q k H'):=by
 subst hK;exact Cd ha he
theorem Co {scope:Scope}{env:Env}{y:Str}(hcell:∀z∈scope.names,z.2≠.cell)(h:(relabel scope env).names.lookup y=some .cell\/(relabel scope env).names.lookup y=some .free):∃z∈scope.names,z.1=y/\z.2 = .free:=by
 have key:∀(l:List (Str×NameKind)) (k:NameKind),l.lookup y=some k->(y,k)∈l:=by
   intro l k
   induction l with
   | nil=>intro e;cases e
   | cons p r ih =>
     intro e;obtain⟨n,k'⟩:=p;rw[List.lookup_cons] at e;cases hb:y==n with
     | true =>
       rw[hb] at e;cases e;rw[eq_of_beq hb];exact List.mem_cons_self
     | false=>rw[hb] at e;exact List.mem_cons_of_mem _ (ih e)
 have fin:∀k,(relabel scope env).names.lookup y=some k->k = .cell\/k = .free->∃z∈scope.names,z.1=y/\z.2 = .free:=fun k e hk=>by
   obtain⟨z,hz,ez⟩:=List.mem_map.mp (key _ _ e);obtain⟨n,k0⟩:=z;dsimp only at ez
   split at ez
   . rename_i hc;simp only [Bool.and_eq_true,beq_iff_eq] at hc;cases ez;exact⟨(y,k0),hz,rfl,hc.1.1⟩
   . cases ez;rcases hk with rfl | rfl
     . exact absurd rfl (hcell _ hz)
     . exact⟨_,hz,rfl,rfl⟩
 rcases h with h | h
 . exact fin _ h (.inl rfl)
 . exact fin _ h (.inr rfl)
theorem Xd {scope:Scope}:F9 X scope [] []:=⟨rfl,fun j y k e=>by simp at e⟩
theorem DX {scope:Scope}{y:Str}{k:Nat}(h1:X.N[k]?=some y)(h2:X.env.kindOf y=some .cell)(h3:(relabel scope X.env).names.lookup y=some .cell):F9 X scope [y] [k]:=⟨rfl,fun j z i e1 e2=>by
 cases j with
 | zero =>
   have g1:y=z:=by simpa using e1
   have g2:k=i:=by simpa using e2
   subst g1 g2;exact⟨h1,h2,h3⟩
 | succ j=>simp at e1⟩
theorem QA {scope:Scope}{y y':Str}{k k':Nat}(h1:X.N[k]?=some y)(h1':X.N[k']?=some y')(h2:X.env.kindOf y=some .cell)(h2':X.env.kindOf y'=some .cell)(h3:(relabel scope X.env).names.lookup y=some .cell)(h3':(relabel scope X.env).names.lookup y'=some .cell) :
   F9 X scope [y,y'] [k,k']:=⟨rfl,fun j z i e1 e2=>by
 match j with
 | 0 =>
   have g1:y=z:=by simpa using e1
   have g2:k=i:=by simpa using e2
   subst g1 g2
   exact⟨h1,h2,h3⟩
 | 1 =>
   have g1:y'=z:=by simpa using e1
   have g2:k'=i:=by simpa using e2
   subst g1 g2
   exact⟨h1',h2',h3'⟩
 | j+2=>simp at e1⟩
theorem DY {scope:Scope}{n:Str}(h:∀y∈scope.names,y.2 = .free->y.1=n)(k:X.env.kindOf n=some .cell):∀y∈scope.names,y.2 = .free->X.env.kindOf y.1=some .cell:=fun y hy hf=>by rw[h y hy hf];exact k
theorem QB {scope:Scope}{n m:Str}(h:∀y∈scope.names,y.2 = .free->y.1=n\/y.1=m)(k:X.env.kindOf n=some .cell)(k':X.env.kindOf m=some .cell):∀y∈scope.names,y.2 = .free->X.env.kindOf y.1=some .cell:=fun y hy hf=>by
 rcases h y hy hf with e | e
 . rw[e];exact k
 . rw[e];exact k'
theorem QC {elt iter tg:Expr}{pos:Pos}{ifs:List Expr}{scope:Scope}{wi:TI}{g:TG}{tt:TT}{te:TE}(O:List Str)(hc:X.calm=true)(hi:PI X tg iter wi)
   (hG:∀cl C s₀ H₀ ex,PG (Cx.blockG X scope cl C (O++[]) s₀ H₀ ex) tg g) (hT:∀cl C s₀ H₀ ex,PTs (Cx.blockG X scope cl C (O++[]) s₀ H₀ ex) ifs tt) (hE:∀cl C s₀ H₀ ex,PE (Cx.blockG X scope cl C (O++[]) s₀ H₀ ex) elt te)
   (hfree:∀y∈scope.names,y.2≠.free:=by decide +kernel) (hkind:scope.kind = .function:=by rfl) (hcell:∀y∈scope.names,y.2≠.cell:=by decide +kernel)
   (hnames:∀y∈scope.names,y.2 = .local->scope.names.lookup y.1=some .local:=by decide +kernel) (hs:∀y,foldedSetIterable iter X.env y=pure y:=by intro _;rfl) :
   PE X (.ListComp elt [⟨tg,iter,ifs,0⟩] scope pos) (Jr O.length [] wi g tt te) :=
 DW O [] [] hc hi hG hT hE Xd (fun y hy hf=>absurd hf (hfree y hy)) (fun y h=>Co hcell h) hkind hcell hnames hs
theorem cQ {elt iter tg:Expr}{y:Str}{py pos spos:Pos}{ifs:List Expr}{scope:Scope}{wi:TI}{g:TG}{tt:TT}{te:TE}{i:Nat}(O:List Str)(hN:X.N.Nodup)(hi0:X.N[i]?=some y)(hy:Loc X.env.scope y)(hc:X.calm=true)(hi:PI X tg iter wi)
   (hG:∀cl C s₀ H₀ ex,PG (Cx.blockG X scope cl C (O++[]) s₀ H₀ ex) tg g) (hT:∀cl C s₀ H₀ ex,PTs (Cx.blockG X scope cl C (O++[]) s₀ H₀ ex) ifs tt) (hE:∀cl C s₀ H₀ ex,PE (Cx.blockG X scope cl C (O++[]) s₀ H₀ ex) elt te)
   (hsw:swapsWith (.ListComp elt [⟨tg,iter,ifs,0⟩] scope pos) (some (.Name y py)) spos.line X.env=pure true:=by rfl)
   (hfree:∀y∈scope.names,y.2≠.free:=by decide +kernel) (hkind:scope.kind = .function:=by rfl) (hcell:∀y∈scope.names,y.2≠.cell:=by decide +kernel)
   (hnames:∀y∈scope.names,y.2 = .local->scope.names.lookup y.1=some .local:=by decide +kernel) (hs:∀y,foldedSetIterable iter X.env y=pure y:=by intro _;rfl)
   (hf:X.fn y=true\/X.env.scope.names.lookup y=some .local:=by first | exact .inl rfl | exact .inr rfl | assumption) :
   PS X (.Assign [.Name y py] (.ListComp elt [⟨tg,iter,ifs,0⟩] scope pos) spos) (tAsg (Jr O.length [] wi g tt te) (FW i)) :=
 Ib O [] [] hN hi0 hy hc hi hG hT hE Xd (fun y hy hf=>absurd hf (hfree y hy)) (fun y h=>Co hcell h) hsw hkind hcell hnames hs hf
end
section
variable {K:PySem.W.Frag}{σ:L2.St}{H:Hp}{Q:VK}
theorem r_compG {n:Nat}{is:List Nat}{wi:TI}{g:TG}{tt:TT}{te:TE}(h:wi σ H fun J H1=>Jq n (is.map fun k=>σ.getD k none) J g tt te Q H1):Jr n is wi g tt te σ H Q:=h
def Nx (n:Nat)(Pv:Addr->Nat->List V->Hp->Prop)(D:Addr)(i:Nat)(ys:List V)(H2:Hp):Prop:=∃m',m'<n-i/\m'=n-(i+1)/\i+1<=n/\Pv D (i+1) ys H2
theorem A2 {n:Nat}{Pv:Addr->Nat->List V->Hp->Prop}{D:Addr}{i:Nat}{ys:List V}{H2:Hp}(hi:i<n)(p:Pv D (i+1) ys H2):Nx n Pv D i ys H2:=⟨_,by omega,rfl,hi,p⟩
theorem Cv {a:Addr}{xs:List V}{n:Nat}{fs:L2.St}{g:TG}{tt:TT}{te:TE}(Pv:Addr->Nat->List V->Hp->Prop)(h0:∀D,H D=none->Pv D 0 [] (upd H D (.lst [])))
   (hl:∀D i ys H2,i<=xs.length->Pv D i ys H2->SqL K H2 a xs)
   (hs:∀D i x ys H2,H D=none->xs[i]?=some x->Pv D i ys H2->∀τ:L2.St,τ.length=n->g x (τ++fs) H2 fun σ1 H4=>(∃τ':L2.St,τ'.length=n/\σ1=τ'++fs)/\tt σ1 H4 fun b H5 =>
     if b=true then te σ1 H5 fun y H6=>H6 D=some (.lst ys)/\ys.length<sizeLine/\Nx xs.length Pv D i (ys++[y]) (upd H6 D (.lst (ys++[y]))) else Nx xs.length Pv D i ys H5)
   (hd:∀D ys H2,H D=none->Pv D xs.length ys H2->Q (.ref D) H2):Jq n fs (Itl K a) g tt te Q H:=by
 intro D hD;refine⟨fun i m ys H2=>m=xs.length-i/\i<=xs.length/\Pv D i ys H2,⟨_,rfl,Nat.zero_le _,h0 D hD⟩,?_⟩;rintro i m ys H2 ⟨rfl,hi,p⟩;have q:=hl D i ys H2 hi p;by_cases hlt:i<xs.length
 . refine .inr ⟨⟨xs,xs[i],q,by simp [hlt]⟩,fun x H3 y τ hτ=>?_⟩;obtain⟨e,y⟩:=y;subst e;have ex:=y xs q;exact hs D i x ys _ hD ex p τ hτ
 . have e:i=xs.length:=by omega
   subst e;exact .inl ⟨⟨xs,q,Nat.le_refl _⟩,hd D ys H2 hD p⟩
end
end Stow
namespace Stow
open PySem L2 PyProof.Rows
section
variable {prog:Program}{w:World}{A:Around}{R:Result->Shared->Prop}{I:Addr}{fp wr:List Addr}{n:Nat}{P:Nat->Value->Prop}{St:Nat->Heap->Prop}
def QD (prog:Program)(w:World)(A:Around)(Kp:Heap->Prop)(P:Nat->Value->Prop)(bt:Nat->Nat->Bool):Prop :=
 ∀i j x y (t:Shared) (Q:Value->Shared->Prop) (E:Value->Shared->Prop),Kp t.heap->P i x->P j y->Q (.bool (bt i j)) t->wpAny (model prog w) A (richCompare .Lt x y) Q E t
theorem cR (W:Walks prog w A.in1 I fp wr n P St)(bt:Nat->Nat->Bool)(Kp:Heap->Prop)(cmp:QD prog w A.in1 Kp P bt)(S:Addr)(sf:S ∉ fp)
   (kpk:∀h h',Kp h->(∀b o,b ∉ wr->b≠S->h.get? b=some o->h'.get? b=some o)->Kp h') :
   ∀(k j:Nat) (t:Shared) (vb:Value) (c:Nat),n-(j+1)=k->j+1<=n->St (j+1) t.heap->Kp t.heap->P (argBest bt j) vb ->
   t.heap.get? S=some { cls:=.type "list",dict:=none,data:=.seq #[vb,vb] c,slots:=#[] } ->
   (∀v h' tk,P (argBest bt (n-1)) v->(∀b o,b ∉ wr->b≠S->t.heap.get? b=some o->h'.get? b=some o)->R (.ok (.ret v)) { t with heap:=h',toks:=tk }) ->
   codeAny (model prog w) A (.builtin "min.loop" ⟨[.ref I,.none,.ref S],[]⟩) R t:=by
 have sw:S ∉ wr:=fun h=>sf (W.sub _ h);have nm:(toString "min"++toString ".loop":String)="min.loop":=by decide
 intro k
 induction k with
 | zero =>
   intro j t vb c hk hj st kp pb hS fin;have en:j+1=n:=by omega
   refine codeAny_builtin F.entry_min_loop ?_;rw[Around.under_plainId F.plain_min_loop _];show wpAny _ A.in1 (seqItems? (.ref S) >>= _) _ _ t;refine wpAny_bind (wpAny_seqItems hS rfl ?_);show wpAny _ A.in1 (tryCatch (pyNext (.ref I)) _ >>= _) _ _ t;refine wpAny_bind (wpAny_tryCatch (W.done t _ _ (en▸st) fun h' tk kk=>?_));have hS1:=kk S _ sw hS;show wpAny _ A.in1 (updateSeq S (fun _=>#[]) >>= _) _ _ _;refine wpAny_bind ?_;refine wpAny_updateSeq hS1 rfl (wpAny_bind (wpAny_letGo (wpAny_pure ?_)));exact fin vb _ tk (by rw[<-en];exact pb) fun b o bw bS e=>(Heap.get?_update_other _ _ (Ne.symm bS)).trans (kk b o bw e)
 | succ k ih =>
   intro j t vb c hk hj st kp pb hS fin;have lt:j+1<n:=by omega
   refine codeAny_builtin F.entry_min_loop ?_;rw[Around.under_plainId F.plain_min_loop _];show wpAny _ A.in1 (seqItems? (.ref S) >>= _) _ _ t;refine wpAny_bind (wpAny_seqItems hS rfl ?_);show wpAny _ A.in1 (tryCatch (pyNext (.ref I)) _ >>= _) _ _ t;refine wpAny_bind (wpAny_tryCatch (W.item (j+1) t _ _ lt st fun v h' tk pv st1 kk=>?_));have hS1:=kk S _ sw hS;have kp1:Kp h':=kpk _ _ kp fun b o bw _ e=>kk b o bw e;show wpAny _ A.in1 (tryCatch (holding [v,v] (richCompare .Lt v vb >>= _)) _ >>= _) _ _ _;refine wpAny_bind (wpAny_tryCatch (wpAny_holding (wpAny_bind (cmp (j+1) (argBest bt j) v vb _ _ _ kp1 pv pb ?_))));refine wpAny_bind (wpAny_holding (wpAny_truthy_bool ?_));refine wpAny_bind (wpAny_letGo (wpAny_pure ?_));cases hb:bt (j+1) (argBest bt j) with
   | true =>
     simp only [if_true];refine wpAny_bind ?_;refine wpAny_updateSeq hS1 rfl (wpAny_bind (wpAny_letGo ?_));rw[nm];refine wpAny_pure ⟨plainId_quiet F.plain_min_loop _,ih (j+1) _ v _ (by omega) lt (W.frame _ _ _ st1 fun b bf o e=>?_) (kpk _ _ kp1 fun b o _ bS e=>(Heap.get?_update_other _ _ (Ne.symm bS)).trans e) (by simp only [argBest,hb,if_true];exact pv) (Heap.get?_update_self _ hS1 rfl)
       fun v' h2 tk2 pv2 kk2=>?_⟩
     . exact(Heap.get?_update_other _ _ (fun z:S=b=>sf (by rw[z];exact bf))).trans e
     . exact fin v' h2 tk2 pv2 fun b o bw bS e=>kk2 b o bw bS ((Heap.get?_update_other _ _ (Ne.symm bS)).trans (kk b o bw e))
   | false =>
     simp only [Bool.false_eq_true,if_false];refine wpAny_bind (wpAny_letGo ?_);rw[nm];refine wpAny_pure ⟨plainId_quiet F.plain_min_loop _,ih (j+1) _ vb c (by omega) lt st1 kp1 (by simp only [argBest,hb,Bool.false_eq_true,if_false];exact pb) hS1 fun v' h2 tk2 pv2 kk2=>?_⟩;exact fin v' h2 tk2 pv2 fun b o bw bS e=>kk2 b o bw bS (kk b o bw e)
theorem cS (W:Walks prog w A.in1 I fp wr n P St)(bt:Nat->Nat->Bool)(Kp:Heap->Prop)(cmp:QD prog w A.in1 Kp P bt)(S:Addr)(sf:S ∉ fp)
   (kpk:∀h h',Kp h->(∀b o,b ∉ wr->b≠S->h.get? b=some o->h'.get? b=some o)->Kp h') (hn:0<n) {t:Shared} {c:Nat} (st:St 0 t.heap) (kp:Kp t.heap)
   (hS:t.heap.get? S=some { cls:=.type "list",dict:=none,data:=.seq #[] c,slots:=#[] })
   (fin:∀v h' tk,P (argBest bt (n-1)) v->(∀b o,b ∉ wr->b≠S->t.heap.get? b=some o->h'.get? b=some o)->R (.ok (.ret v)) { t with heap:=h',toks:=tk }) :
   codeAny (model prog w) A (.builtin "min.loop" ⟨[.ref I,.none,.ref S],[]⟩) R t:=by
 have sw:S ∉ wr:=fun h=>sf (W.sub _ h);have nm:(toString "min"++toString ".loop":String)="min.loop":=by decide
 refine codeAny_builtin F.entry_min_loop ?_;rw[Around.under_plainId F.plain_min_loop _];show wpAny _ A.in1 (seqItems? (.ref S) >>= _) _ _ t;refine wpAny_bind (wpAny_seqItems hS rfl ?_);show wpAny _ A.in1 (tryCatch (pyNext (.ref I)) _ >>= _) _ _ t;refine wpAny_bind (wpAny_tryCatch (W.item 0 t _ _ hn st fun v h' tk pv st1 kk=>?_));have hS1:=kk S _ sw hS;have kp1:Kp h':=kpk _ _ kp fun b o bw _ e=>kk b o bw e;show wpAny _ A.in1 (updateSeq S (fun _=>#[v,v]) >>= _) _ _ _;refine wpAny_bind ?_;refine wpAny_updateSeq hS1 rfl ?_;rw[nm];refine wpAny_pure ⟨plainId_quiet F.plain_min_loop _,cR W bt Kp cmp S sf kpk _ 0 _ v _ rfl hn (W.frame _ _ _ st1 fun b bf o e=>?_) (kpk _ _ kp1 fun b o _ bS e=>(Heap.get?_update_other _ _ (Ne.symm bS)).trans e) pv (Heap.get?_update_self _ hS1 rfl) fun v' h2 tk2 pv2 kk2=>?_⟩
 . exact(Heap.get?_update_other _ _ (fun z:S=b=>sf (by rw[z];exact bf))).trans e
 . exact fin v' h2 tk2 pv2 fun b o bw bS e=>kk2 b o bw bS ((Heap.get?_update_other _ _ (Ne.symm bS)).trans (kk b o bw e))
end
section
variable {prog:Program}{w:World}{A:Around}{E:Value->Shared->Prop}{s:Shared}
theorem Xe {x:Value}{Q:Value->Shared->Prop}
   (h:wpAny (model prog w) A.in1 (pyIter x) (fun itv t=>∃I fp wr n P St bt Kp,itv = .ref I/\Walks prog w A.in1 I fp wr n P St/\St 0 t.heap/\Kp t.heap/\(∀b∈fp,b<t.heap.objs.size)/\0<n/\QD prog w A.in1 Kp P bt /\
     (∀h h',Kp h->(∀b o,b ∉ wr->b≠t.heap.objs.size->h.get? b=some o->h'.get? b=some o)->Kp h') /\
     ∀v h' tk,P (argBest bt (n-1)) v->(∀b o,b ∉ wr->t.heap.get? b=some o->h'.get? b=some o)->Q v { t with heap:=h',toks:=tk }) E s) :
   wpAny (model prog w) A (call (.builtin "min") [x]) Q E s:=by
 have nm:(toString "min"++toString ".loop":String)="min.loop":=by decide
 refine call_function_tree F.kind_min F.plain_min F.entry_min (F.args_min1 _) ?_;show wpAny _ A.in1 (Builtin.Builtins.bindParams "min" ["key","default"] 0 ⟨[],[]⟩ >>= _) _ _ s;refine wpAny_bind (wpAny_of_eq (show Builtin.Builtins.bindParams "min" ["key","default"] 0 ⟨[],[]⟩=pure [none,none] from rfl) ?_);refine wpAny_bind (wpAny_pure ?_);refine wpAny_bind (wpAny_mono h (fun itv t ht=>?_) fun _ _ e=>e);obtain⟨I,fp,wr,n,P,St,bt,Kp,rfl,W,st,kp,hfp,hn,cmp,kpk,hQ⟩:=ht;refine wpAny_bind (wpAny_newObj_type ?_);have sf:t.heap.objs.size ∉ fp:=fun hm=>Nat.lt_irrefl _ (hfp _ hm);rw[nm];refine wpAny_pure ⟨plainId_quiet F.plain_min_loop _,cS W bt Kp cmp t.heap.objs.size sf kpk hn (W.frame _ _ _ st fun b _ o e=>Heap.get?_push_of_some _ e) (kpk _ _ kp fun b o _ _ e=>Heap.get?_push_of_some _ e) (Heap.get?_push_size _ rfl) fun v h' tk pv kk=>?_⟩;exact hQ v h' tk pv fun b o bw e=>kk b o bw (Nat.ne_of_lt (Heap.lt_size e)) (Heap.get?_push_of_some _ e)
end
def A3 (xs:List (List Int)):Nat->Nat
 | 0=>0
 | k+1=>if HT.lexLt (xs.getD (k+1) []) (xs.getD (A3 xs k) []) then k+1 else A3 xs k
theorem QE (xs:List (List Int)):∀k,argBest (fun i j=>HT.lexLt (xs.getD i []) (xs.getD j [])) k=A3 xs k
 | 0=>rfl
 | k+1=>by
   unfold argBest A3
   rw[QE xs k]
theorem DZ (xs:List (List Int)):∀k,A3 xs k<=k
 | 0=>Nat.le_refl 0
 | k+1=>by
   unfold A3
   have:=DZ xs k
   split <;> omega
section
variable {X:Cx}
theorem Xf (hc:X.calm=true)(hu:X.A.units+64<cLine):DT X (.builtin "min") (fun vs H Q=>∃p us,∃xs:List (List Int),vs=[.ref p]/\H p=some (.lst us)/\AZ H us (xs.map fun x=>x.map V.int)/\0<xs.length /\
   ∀t,us[A3 xs (xs.length-1)]?=some (.ref t)->H t=some (.tup ((xs.getD (A3 xs (xs.length-1)) []).map V.int))->Q (.ref t) H):=by
 intro pins s σ H vs us' Q I r h;obtain⟨p,us,xs,rfl,hp,ta,hn,q⟩:=h;obtain⟨u,rfl,rx⟩:∃u,us'=[u]/\RelV (.ref p) u:=by
   cases r with
   | cons a b=>cases b;exact⟨_,rfl,a⟩
 cases rx;obtain⟨its,r1,p1,_⟩:=I.list (SqL.of hp);have l1:=r1.length;have l2:=ta.1;rw[List.length_map] at l2;have tups:∀i,i<xs.length->∃t its2,its[i]?=some (.ref t)/\us[i]?=some (.ref t)/\H t=some (.tup ((xs.getD i []).map V.int))/\s.heap.IsTuple t (List.toArray its2)/\IntsAre its2 (xs.getD i []):=fun i hi=>by
   obtain⟨t,e1,e2⟩:=ta.2 i ((xs[i]).map V.int) (by simp [hi]);obtain⟨u1,g1,q1⟩:=r1.get e1;cases q1;obtain⟨its2,r2,p2,_⟩:=I.tuple (SqT.of e2);have ex:xs.getD i []=xs[i]:=by simp [hi]
   rw[ex];exact⟨t,its2,g1,e1,e2,p2,Nw r2⟩
 have lt:p<s.heap.objs.size:=by obtain⟨_,e,_⟩:=p1.isList;exact Heap.lt_size e
 refine Xe (wpAny_pyIter_list p1.isList ?_);refine⟨s.heap.objs.size,[s.heap.objs.size,p],[s.heap.objs.size],its.toArray.size,fun i v=>its.toArray[i]?=some v,_,fun i j=>HT.lexLt (xs.getD i []) (xs.getD j []),fun (hh:Heap)=>∀(i:Nat) (t:Addr) (its2:List Value),its[i]?=some (Value.ref t)->s.heap.IsTuple t (List.toArray its2)->hh.IsTuple t (List.toArray its2),rfl,Walks.list (A:=X.A.in1) (I.ok.hd hc) _ p (Nat.ne_of_lt lt) its.toArray,
   ⟨⟨_,Heap.get?_push_size _ rfl,rfl,rfl⟩,p1.isList.push _⟩,?_,?_,?_,?_,?_,?_⟩
 . intro i t its2 _ ht;exact ht.push _
 . intro b hb;show b<(s.heap.push _).objs.size;rw[Heap.size_push];rcases List.mem_cons.mp hb with z | z
   . rw[z];exact Nat.lt_succ_self _
   . have:b=p:=by simpa using z
     rw[this];exact Nat.lt_succ_of_lt lt
 . rw[List.size_toArray];omega
 . intro i j x y t Q' E' kp pi pj hq;rw[List.getElem?_toArray] at pi pj;have hi:i<xs.length:=by have:=(List.getElem?_eq_some_iff.mp pi).1;omega
   have hj:j<xs.length:=by have:=(List.getElem?_eq_some_iff.mp pj).1;omega
   obtain⟨t1,s1,a1,_,_,b1,c1⟩:=tups i hi;obtain⟨t2,s2,a2,_,_,b2,c2⟩:=tups j hj;rw[a1] at pi;rw[a2] at pj;cases pi;cases pj;exact HT.lt_tupInts (kp i t1 s1 a1 b1) (kp j t2 s2 a2 b2) c1 c2 (by show X.A.units+1<cLine;omega) hq
 . intro h h' kp kk i t its2 g ht;have e0:=kp i t its2 g ht;obtain⟨o,e,hcl,hd⟩:=ht;obtain⟨o',e',r'⟩:=e0;have lt':=Heap.lt_size e;refine⟨o',kk t o' (fun z=>?_) (Nat.ne_of_lt ?_) e',r'⟩
   . have z':t=s.heap.objs.size:=by simpa using z
     rw[z'] at lt';exact Nat.lt_irrefl _ lt'
   . show t<(s.heap.push _).objs.size;rw[Heap.size_push];exact Nat.lt_succ_of_lt lt'
 . intro v h' tk pv kk;rw[List.size_toArray,<-l1,l2,QE,List.getElem?_toArray] at pv;have hm:A3 xs (xs.length-1)<xs.length:=by have:=DZ xs (xs.length-1);omega
   obtain⟨t,its2,a1,a2,a3,_,_⟩:=tups _ hm;rw[a1] at pv;cases pv;refine⟨.ref t,H,?_,rfl,q t a2 a3⟩;refine I.kept (t':=tk) fun b o e=>kk b o (fun z=>?_) (Heap.get?_push_of_some _ e);have:=Heap.lt_size e;have z':b=s.heap.objs.size:=by simpa using z
   rw[z'] at this;exact Nat.lt_irrefl _ this
end
end Stow
namespace Stow
open PySem L2 PyProof.Rows
structure InsK (K:PySem.W.Frag)(C:Addr):Prop where
 cl:Cls K C
 ha:PySem.W.findIn K (.ref C) "__class__"=some (some (.builtin "object.__class__"))
 hn:specialIn K (.builtin "object.__class__") "__get__"=some (some (.builtin "getset_descriptor.__get__"))
 htk:takesIn K (.builtin "object.__class__")=some true
 hm:PySem.W.mroIn K C (.type "object")=some true
section
variable {X:Cx}
end
section
variable {K:PySem.W.Frag}{σ:L2.St}{H:Hp}{Q:VK}{D:Ends}
theorem r_sat {a C dx:Addr}{fs:List (Str×V)}{f:Str}{R:Addr->Addr->Addr->List (Str×V)->Prop}(h:H a=some (.ins C dx fs))(c:Cls K C)(n:BF K C f)(l:fs.length<1000)(q:R a C dx fs) :
   ∃a' C' dx' fs',V.ref a=V.ref a'/\H a'=some (.ins C' dx' fs')/\Cls K C'/\BF K C' f/\fs'.length<1000/\R a' C' dx' fs':=⟨a,C,dx,fs,rfl,h,c,n,l,q⟩
theorem r_make {C:Addr}{sp:Sp}{E:XK}{t:TA}(h:t σ H fun vs H1=>∀x dx,H1 x=none->H1 dx=none->dx≠x->sp (.ref x::vs) (upd (upd H1 dx (.own x)) x (.ins C dx [])) (fun v H2=>v = .non/\Q (.ref x) H2) E):Nv C sp [] E t σ H Q:=by
 unfold Nv;simp only [List.append_nil];exact h
end
section
variable {X:Cx}
theorem cT (hu:X.A.units+64<cLine):OpR X (compareOp .Eq) (fun x y H Q=>∃a b us ws ps,x = .ref a/\y = .ref b/\H a=some (.lst us)/\H b=some (.lst ws)/\AA H us ps/\AA H ws ps/\Q (.bl true) H):=by
 intro pins s σ H x y v u Q I rx ry h;obtain⟨a,b,us,ws,ps,rfl,rfl,ha,hb,pu,pw,q⟩:=h;cases rx;cases ry;obtain⟨its,r1,p1,_⟩:=I.list (SqL.of ha);obtain⟨its2,r2,p2,_⟩:=I.list (SqL.of hb);have l1:=r1.length;have l2:=r2.length;have m1:=pu.1;have m2:=pw.1;have key:SeqAt.RcAt X.A s (.ref a) (.ref b) ((List.range its.toArray.size).all (fun _=>true)):=by
   refine SeqAt.RcAt.lists p1.isList p2.isList (by rw[List.size_toArray,List.size_toArray];omega) (by omega) fun j h1 h2=>?_;rw[List.size_toArray] at h1 h2;have hj:j<ps.length:=by omega
   obtain⟨t1,e1,f1⟩:=pu.2 j ps[j] (by simp [hj]);obtain⟨t2,e2,f2⟩:=pw.2 j ps[j] (by simp [hj]);obtain⟨u1,g1,q1⟩:=r1.get e1;obtain⟨u2,g2,q2⟩:=r2.get e2;cases q1;cases q2;obtain⟨_,k1⟩:=List.getElem?_eq_some_iff.mp g1;obtain⟨_,k2⟩:=List.getElem?_eq_some_iff.mp g2;have z:=W9 (A:=X.A.in1) (by show X.A.units+1<cLine;omega) I (SqT.of f1) (SqT.of f2) rfl;rw[<-k1,<-k2] at z;simpa using z
 have e:((List.range its.toArray.size).all (fun _=>true))=true:=by simp
 rw[e] at key;exact key _ _ _ _ ⟨.bl true,H,I,rfl,q⟩
end
def Az (x:Addr)(H H':Hp):Prop:=∀b o,b≠x->H b=some o->H' b=some o
theorem Az.refl {x:Addr}{H:Hp}:Az x H H:=fun _ _ _ h=>h
theorem Az.of {x:Addr}{H H':Hp}(s:Same H H'):Az x H H':=fun b o _ h=>s b o h
theorem Az.trans {x:Addr}{H H' H'':Hp}(s:Az x H H')(t:Az x H' H''):Az x H H'':=fun b o n h=>t b o n (s b o n h)
theorem Az.put {x:Addr}{H H':Hp}{o:HO}(s:Az x H H'):Az x H (upd H' x o):=fun b o' n h=>look_ne n (s b o' n h)
end Stow
set_option Elab.async false
set_option linter.all false
set_option maxRecDepth 100000
set_option maxHeartbeats 4000000
namespace Stow
theorem QF (i:Nat):1<=(2:Int)^i:=by
 have:=Int.pow_pos (n:=2) (m:=i) (by decide);omega
def DG (k:Nat)(c:Int):Prop:=c<=2^k/\∀i,i<k->(2:Int)^i<c
theorem FC {i j:Nat}(h:i<=j):(2:Int)^i<=2^j:=by
 obtain⟨d,rfl⟩:=Nat.exists_eq_add_of_le h;rw[Int.pow_add];have:=QF d;have:=Int.mul_le_mul_of_nonneg_left this (show 0<=(2:Int)^i by have:=QF i;omega);omega
theorem Xg {i j:Nat}(h:(2:Int)^i<2^j):i<j:=by
 rcases Nat.lt_or_ge i j with h1 | h1
 . exact h1
 . have:=FC h1;omega
theorem DG.uniq {k k':Nat}{c:Int}(h:DG k c)(h':DG k' c):k=k':=by
 rcases Nat.lt_trichotomy k k' with g | g | g
 . have:=h'.2 k g;have:=h.1;omega
 . exact g
 . have:=h.2 k' g;have:=h'.1;omega
theorem Xh {c:Nat}(h:1<=c):DG (c.log2+1) ((c:Int)+1):=by
 have h1:=Nat.lt_log2_self (n:=c);have h2:=Nat.log2_self_le (n:=c) (by omega);refine⟨?_,fun i hi=>?_⟩
 . have:((c+1:Nat):Int)<=((2^(c.log2+1):Nat):Int):=Int.ofNat_le.mpr h1;rw[Int.natCast_pow] at this
   push_cast at this
   exact this
 . have:(2:Int)^i<=2^c.log2:=FC (by omega);have h3:((2^c.log2:Nat):Int)<=(c:Int):=Int.ofNat_le.mpr h2;rw[Int.natCast_pow] at h3
   push_cast at h3
   omega
end Stow
namespace Stow
open PySem L2 PyProof.Rows
structure MethD (P:Program)(w:World)(K:PySem.W.Frag)(mg:Str->Option Value)(base:Heap)(C:Addr)(m:Str)(j:Nat)(ps:List Str)(dvs:List V)(sp:Sp):Prop where
 all:Methx P w K mg base C m j ps [] sp
 less:Methx P w K mg base C m j ps dvs sp
theorem MethD.made {P:Program}{w:World}{K:PySem.W.Frag}{mg:Str->Option Value}{base:Heap}{C:Addr}{m:Str}{j:Nat}{ps:List Str}{dvs:List V}{sp:Sp}{f:Addr}{fd:FuncData}{ds:List Value}
   (F:FnOk P w K mg base (CXe P w) j f fd ps sp) (M:Meth K C m f) (b:Bi K fd ps []) (b':Bi K fd ps ds) (v:Vals dvs ds) (c:Cls K C):MethD P w K mg base C m j ps dvs sp :=
 ⟨⟨⟨f,fd,[],F,M,b,.nil⟩,c⟩,⟨⟨f,fd,ds,F,M,b',v⟩,c⟩⟩
theorem FunD.bindsA {K:PySem.W.Frag}{x qual:Str}{st:Stmt}{T:Addr}{f:Addr}{fd:FuncData}{ps:List Str}{ds:List Value}{tc:Value}{td:Option Addr}{tn:Nat}{tsl:Array (Option Value)}(F:FunD K x qual st (.ref T) f fd)
   (lt:K.lookup T=some ⟨tc,td,.seq ds.toArray tn,tsl⟩)
   (h:∀(kV doc pm:Value) (an:Option Addr) (cdv ct:Value) (us:List Value),us.length=ps.length->∃k:Option (Array Value)->Sem (List (Str×Value)),
     bindArgs (fnOf x qual (A7 st) (AX st) (An st) (.ref T) kV doc pm an cdv ct) ⟨us,[]⟩=seqItems? (.ref T) >>= k/\k (some ds.toArray)=pure (ps.zip us)):Bi K fd ps []:=by
 obtain⟨oc,od,kV,doc,pm,an,cdv,ct,osl,rfl,lk,hcd⟩:=F.ex;intro s us X hl;rw[List.append_nil] at hl ⊢;obtain⟨k,h1,h2⟩:=h kV doc pm an cdv ct us hl;exact .of_defaults rfl (X _ _ lt) rfl h1 h2
abbrev TXS:=Ends->XK->L2.St->Hp->Prop
def PXS (X:Cx)(ss:List Stmt)(t:TXS):Prop:=∀(pins:List (Addr×Obj)) (s:Shared) (σ:L2.St) (H:Hp) (D:Ends) (EX:XK) (Qp:Flow->Shared->Prop) (W:Value->Shared->Prop),Inv X pins σ H s->t D EX σ H->(∀f s',SP X pins D f s'->Qp f s') ->
 (∀H1 s1 y s',Inv X pins σ H1 s1->CXe X.prog X.w X.stack H1 s1 EX y s'->W y s')->wpAny (model X.prog X.w) X.A (execs ss X.env) Qp W s
def Xi (t:TXS)(th:TH):TS:=fun D σ H=>t D (fun c od H2=>∃C,c = .ref C/\∀x,H2 x=none->th x C D σ (upd H2 x (ExcO x C od))) σ H
section
variable {X:Cx}{e c:Expr}{t:TX}{tc:TT}{ta tb ts:TXS}{a b ss:List Stmt}{pos epos:Pos}{hs:List ExceptHandler}{th:TH}
theorem cU {h₀:ExceptHandler}(he:PXS X ss ts)(hst:X.stack=X.env::X.outer/\X.env.frame=some X.env.locals)(hh:PH X (h₀::hs) th):PS X (.Try ss (h₀::hs) [] [] pos) (Xi ts th):=by
 intro pins s σ H D I h;refine wpAny_Try_except (he pins s σ H D _ _ _ I h (fun f s' z=>?_) (fun H1 s1 y s' I1 hq=>?_))
 . cases f with
   | next=>exact wpAny_execs_nil z
   | brk=>exact z
   | cont=>exact z
   | ret u=>exact z
 . refine Qc I1 hst hq fun x C od T h2 H2 ex ⟨C',ec,q⟩ t2 J2 again=>?_;subst ex;cases ec;exact hh pins _ σ _ D x C T od I.ok J2 t2 (fun h3 u3 t3=>(again h3 u3 t3).2) (q x (again h2 (Upto.refl _ _ _) t2).1)
end
section
variable {K:PySem.W.Frag}{σ:L2.St}{H:Hp}{Q:VK}{D:Ends}{EX:XK}
theorem r_tryS {t:TXS}{th:TH}(h:t D (fun c od H2=>∃C,c = .ref C/\∀x,H2 x=none->th x C D σ (upd H2 x (ExcO x C od))) σ H):Xi t th D σ H:=h
end
end Stow
set_option Elab.async false
set_option linter.all false
set_option maxRecDepth 100000
set_option maxHeartbeats 4000000
namespace Stow
def Dv (s:Int)(j m:Nat):List Pc:=(List.range' j m).map fun i:Nat=>⟨s*(i:Int),s,false⟩
theorem Xj (s:Int)(j m:Nat):Dv s j (m+1)=⟨s*(j:Int),s,false⟩::Dv s (j+1) m:=by
 unfold Dv;rw[List.range'_succ,List.map_cons]
theorem cW (s:Int)(j m:Nat):Dv s j (m+1)=Dv s j m++[⟨s*((j+m:Nat):Int),s,false⟩]:=by
 unfold Dv;rw[List.range'_concat,List.map_append,Nat.one_mul];rfl
theorem NM {s:Int}(hs:1<=s):∀(m j:Nat),Ag (s*(j:Int)) (Dv s j m) (s*((j+m:Nat):Int))
 | 0,j=>rfl
 | m+1,j=>by
   rw[Xj]
   refine⟨rfl,hs,(fun z=>by cases z),?_⟩
   have h:=NM hs m (j+1)
   rw[show j+1+m=j+(m+1) by omega] at h
   show Ag (s*(j:Int)+s) _ _
   rw[show s*(j:Int)+s=s*((j+1:Nat):Int) by rw[Int.natCast_add,Int.mul_add];omega]
   exact h
theorem Ao.app {cs ds:List Int}{ps qs:List Pc}(h0:B1 ps cs.length)(m:Ao cs ps)(h1:DV qs 0)(k:Ao ds qs) :
   Ao (cs++ds) (ps++qs.map fun q=>⟨q.a+cs.length,q.l,q.v⟩):=by
 intro p hp;rcases List.mem_append.mp hp with h | h
 . obtain⟨a0,a1,a2⟩:=h0 p h;obtain⟨m1,m2⟩:=m p h;exact⟨by rw[List.getElem?_append_left (by omega)];exact m1,by rw[List.getElem?_append_left (by omega)];exact m2⟩
 . obtain⟨q,hq,rfl⟩:=List.mem_map.mp h;obtain⟨b0,b1⟩:=h1 q hq;obtain⟨m1,m2⟩:=k q hq;constructor
   . show (cs++ds)[(q.a+cs.length).toNat]?=some (mkOf q.l q.v);rw[List.getElem?_append_right (by omega),show (q.a+cs.length).toNat-cs.length=q.a.toNat by omega];exact m1
   . show (cs++ds)[(q.a+cs.length+q.l-1).toNat]?=some (mkOf q.l q.v);rw[List.getElem?_append_right (by omega),show (q.a+cs.length+q.l-1).toNat-cs.length=(q.a+q.l-1).toNat by omega];exact m2
theorem NO {one:List Int}{s:Int}(hs:1<=s)(hl:(one.length:Int)=s)(m1:Ao one [⟨0,s,false⟩]):∀(m:Nat),Ao ((List.replicate m one).flatten) (Dv s 0 m)/\(((List.replicate m one).flatten).length:Int)=s*(m:Int)
 | 0=>⟨Ao.nil _,by simp⟩
 | m+1=>by
   obtain⟨h1,h2⟩:=NO hs hl m1 m
   have e:(List.replicate (m+1) one).flatten=(List.replicate m one).flatten++one:=by
     rw[List.replicate_succ',List.flatten_append];simp
   rw[e];constructor
   . rw[cW];have ch:=(NM hs m 0).endBy (show (0:Int)<=s*((0:Nat):Int) by simp);rw[Nat.zero_add] at ch;have:=Ao.app (ps:=Dv s 0 m) (qs:=[⟨0,s,false⟩]) (by rw[h2];exact ch) h1 (fun p hp=>by
       have:p=⟨0,s,false⟩:=by simpa using hp
       subst this;exact⟨Int.le_refl _,hs⟩) m1
     rw[h2] at this;simpa using this
   . rw[List.length_append,Int.natCast_add,h2,hl,Int.natCast_add,Int.mul_add];omega
end Stow
namespace Stow
open PySem L2 PyProof.Rows
section
variable {X:Cx}
theorem cY {scope:Scope}{y y' y'':Str}{k k' k'':Nat}(h1:X.N[k]?=some y)(h1':X.N[k']?=some y')(h1'':X.N[k'']?=some y'')(h2:X.env.kindOf y=some .cell)(h2':X.env.kindOf y'=some .cell)(h2'':X.env.kindOf y''=some .cell)
   (h3:(relabel scope X.env).names.lookup y=some .cell) (h3':(relabel scope X.env).names.lookup y'=some .cell) (h3'':(relabel scope X.env).names.lookup y''=some .cell):F9 X scope [y,y',y''] [k,k',k'']:=⟨rfl,fun j z i e1 e2=>by
 match j with
 | 0 =>
   have g1:y=z:=by simpa using e1
   have g2:k=i:=by simpa using e2
   subst g1 g2
   exact⟨h1,h2,h3⟩
 | 1 =>
   have g1:y'=z:=by simpa using e1
   have g2:k'=i:=by simpa using e2
   subst g1 g2
   exact⟨h1',h2',h3'⟩
 | 2 =>
   have g1:y''=z:=by simpa using e1
   have g2:k''=i:=by simpa using e2
   subst g1 g2
   exact⟨h1'',h2'',h3''⟩
 | j+3=>simp at e1⟩
theorem cZ {scope:Scope}{n m o:Str}(h:∀y∈scope.names,y.2 = .free->y.1=n\/y.1=m\/y.1=o)(k:X.env.kindOf n=some .cell)(k':X.env.kindOf m=some .cell)(k'':X.env.kindOf o=some .cell):∀y∈scope.names,y.2 = .free->X.env.kindOf y.1=some .cell:=fun y hy hf=>by
 rcases h y hy hf with e | e | e
 . rw[e];exact k
 . rw[e];exact k'
 . rw[e];exact k''
end
def Its (lo c:Int)(n:Nat):It:=⟨fun i _=>i<n,fun i H x H'=>H'=H/\x = .int (lo+i*c),fun i _=>n<=i⟩
theorem dA {P:Program}{w:World}{K:PySem.W.Frag}{tg:Expr}(it:Addr)(lo c:Int)(n:Nat):Turn P w K tg (Its lo c n) [it] it (fun i h=>IsRangeIter h it (lo+(i:Nat)*c) ((n:Int)-(i:Nat)) c) where
 mem:=by simp
 obj:=fun i h st b hb=>by
   have e:b=it:=by simpa using hb
   subst e
   exact⟨_,st,fun v z=>by
     have z':Data.fields _=Data.cell v:=z
     cases z'⟩
 keep:=fun i h h' st k=>k it (by simp) _ st
 item:=by
   intro X hP hw hK hc i pins s σ H E I hf st hg;subst hP hw hK;obtain⟨f0,f1,f2,f3,f4,f5⟩:=hf it (by simp);have W:=Walks.range (prog:=X.prog) (w:=X.w) (I.ok.hd hc) it lo c n;refine W.item i s _ _ hg st fun v h' tk hv st' kk=>?_;obtain⟨t,rfl⟩:=hv;have I1:Inv X pins σ H { s with heap:=h',toks:=tk }:=I.turned (fun b o hb e=>kk b o (by simpa using hb) e) f0 f1 f3 f4 f5;exact⟨_,rfl,PY (s:={ s with heap:=h',toks:=tk }) (n:="range_iterator") st' rfl rfl (by decide) ⟨.int (lo+i*c),H,I1,⟨t,rfl⟩,⟨rfl,rfl⟩,st',fun b hb=>(hf b hb).1⟩⟩
 done:=by
   intro X hP hw hK hc i pins s σ H E I hf st hg;subst hP hw hK;obtain⟨f0,f1,f2,f3,f4,f5⟩:=hf it (by simp);exact wpAny_pyNext_range_end (I.ok.hd hc) st (by have:n<=i:=hg;omega) fun h' eb=>⟨rfl,I.turned (t':=s.toks) (fun b o hb e=>eb b o hb e) f0 f1 f3 f4 f5⟩
 self:=fun _ _ _ _ _ st h=>wpAny_pyIter_rangeiter st h
section
variable {X:Cx}{tg:Expr}
theorem dB {i j c:Int}(h0:0<=i)(hj:0<=j)(hj':j<=4000)(hc:1<=c):0<=Builtin.Range.rangeSize i j c/\Builtin.Range.rangeSize i j c<=4000/\(i<j->i+(Builtin.Range.rangeSize i j c-1)*c<j):=by
 unfold Builtin.Range.rangeSize;rw[if_pos (by omega)]
 split
 . rename_i h;have h1:0<=(j-i-1)/c:=Int.ediv_nonneg (by omega) (by omega);have h2:(j-i-1)/c*c<=j-i-1:=Int.ediv_mul_le _ (by omega);have h3:(j-i-1)/c<=(j-i-1)/c*c:=by
     have:=Int.mul_le_mul_of_nonneg_left hc h1;omega
   refine⟨by omega,by omega,fun _=>?_⟩;rw[show (j-i-1)/c+1-1=(j-i-1)/c by omega];omega
 . rename_i h;exact⟨by omega,by omega,fun z=>absurd z h⟩
def Xk (ta:TA):TI:=fun σ H R=>ta σ H fun vs H1=>∃i j c:Int,vs=[.int i,.int j,.int c]/\(0<=i/\i<=4000/\0<=j/\j<=4000/\1<=c/\c<=4000)/\R (Its i c (Builtin.Range.rangeSize i j c).toNat) H1
theorem dC {pins:List (Addr×Obj)}{σ:L2.St}{H:Hp}{s:Shared}{R:It->Hp->Prop}{E:Value->Shared->Prop}{lo hi c:Int}{t u v:Tok}{tk:Nat}(I:Inv X pins σ H s)(h1:0<=lo)(h2:lo<=4000)(h3:0<=hi)(h4:hi<=4000)(h5:1<=c)(h6:c<=4000)
   (q:R (Its lo c (Builtin.Range.rangeSize lo hi c).toNat) H):wpAny (model X.prog X.w) X.A (pyIter (.ref s.heap.objs.size)) (PIE X pins σ tg R) E { s with heap:=s.heap.push { cls:=.type "range",data:=.fields #[.int lo t,.int hi u,.int c v] },toks:=tk }:=by
 obtain⟨b1,b2,b3⟩:=dB h1 h3 h4 h5;have sm:Builtin.Range.small lo hi c=true:=by
   unfold Builtin.Range.small;simp only [Builtin.Range.rangeFitsLong,Bool.and_eq_true,Bool.or_eq_true,decide_eq_true_eq,beq_iff_eq];generalize Builtin.Range.rangeSize lo hi c=n at b1 b2 b3;rw[if_pos (show c>0 by omega)];simp only [Bool.and_eq_true,decide_eq_true_eq];omega
 refine wpAny_pyIter_range (IsRange.new ..) sm ?_;have I1:Inv X pins σ H { s with heap:=s.heap.push { cls:=.type "range",data:=.fields #[.int lo t,.int hi u,.int c v] },toks:=tk }:=I.kept fun b o e=>Heap.get?_push_of_some _ e;refine⟨(s.heap.push { cls:=.type "range",data:=.fields #[.int lo t,.int hi u,.int c v] }).objs.size,[(s.heap.push { cls:=.type "range",data:=.fields #[.int lo t,.int hi u,.int c v] }).objs.size],_,_,H,rfl,
   I1.kept (t':=tk) fun b o e=>Heap.get?_push_of_some _ e,dA _ lo c (Builtin.Range.rangeSize lo hi c).toNat,?_,fun b hb=>?_,q⟩
 . have e1:lo+((0:Nat):Int)*c=lo:=by simp
   have e2:(((Builtin.Range.rangeSize lo hi c).toNat:Nat):Int)-((0:Nat):Int)=Builtin.Range.rangeSize lo hi c:=by omega
   show IsRangeIter _ _ (lo+((0:Nat):Int)*c) ((((Builtin.Range.rangeSize lo hi c).toNat:Nat):Int)-((0:Nat):Int)) c;rw[e1,e2];exact Heap.get?_push_size _ rfl
 . have e:b=(s.heap.push { cls:=.type "range",data:=.fields #[.int lo t,.int hi u,.int c v] }).objs.size:=by simpa using hb
   subst e;exact I1.fpOk (Nat.le_refl _) (I1.hok.fresh (Nat.le_refl _))
theorem dD {a b c:Expr}{ta:TA}{p pos:Pos}(hg:Gl X "range")(hm:X.mg "range"=none)(ha:PA X [a,b,c] ta)(hs:starEach [a,b,c] X.env=[(false,eval a X.env),(false,eval b X.env),(false,eval c X.env)]:=by rfl)
   (hs2:starEach [b,c] X.env=[(false,eval b X.env),(false,eval c X.env)]:=by rfl):PI X tg (.Call (.Name "range" p) [a,b,c] [] pos) (Xk ta):=by
 intro pins s σ H R I h;refine Call_ (HP I hg hm PyProof.Rows.boot_range (PyProof.Rows.callWith_type1 (thn (ha pos pins s σ H _ I h) fun us s1 ⟨vs,H1,I1,r1,q1⟩=>?_) (by rw[hs,hs2]) (by rw[hs2];rfl)));obtain⟨i,j,c,e,⟨q1,q2,q3,q4,q5,q6⟩,q⟩:=q1;subst e;cases r1 with
 | cons r rr =>
   cases rr with
   | cons r' rr =>
     cases rr with
     | cons r'' rr =>
       cases rr;obtain⟨t,rfl⟩:=r;obtain⟨t',rfl⟩:=r';obtain⟨t'',rfl⟩:=r'';exact call_range_3 (by omega) (dC I1 q1 q2 q3 q4 q5 q6 q) (Or.inl (PyProof.noPylong_small (by omega)))
theorem dE (hc:X.calm=true):DT X (.builtin "any") (fun vs H Q=>∃p,∃bs:List Bool,vs=[.ref p]/\H p=some (.lst (bs.map V.bl))/\Q (.bl (bs.any id)) H):=by
 intro pins s σ H vs us' Q I r h;obtain⟨p,bs,rfl,hp,q⟩:=h;obtain⟨u,rfl,rx⟩:∃u,us'=[u]/\RelV (.ref p) u:=by
   cases r with
   | cons a b=>cases b;exact⟨_,rfl,a⟩
 cases rx;obtain⟨its,r1,p1,_⟩:=I.list (SqL.of hp);have l1:=r1.length;rw[List.length_map] at l1;have lt:p<s.heap.objs.size:=by obtain⟨_,e,_⟩:=p1.isList;exact Heap.lt_size e
 refine call_any_walk (wpAny_pyIter_list p1.isList ?_);refine⟨s.heap.objs.size,[s.heap.objs.size,p],[s.heap.objs.size],its.toArray.size,fun i v=>its.toArray[i]?=some v,_,fun i=>bs.getD i false,rfl,Walks.list (A:=X.A.in1) (I.ok.hd hc) _ p (Nat.ne_of_lt lt) its.toArray,
   ⟨⟨_,Heap.get?_push_size _ rfl,rfl,rfl⟩,p1.isList.push _⟩,?_,?_⟩
 . intro i v s' Q' E' hv hq;rw[List.getElem?_toArray] at hv;have hi:i<bs.length:=by have:=(List.getElem?_eq_some_iff.mp hv).1;omega
   obtain⟨u1,g1,q1⟩:=r1.get (i:=i) (x:=V.bl bs[i]) (by simp [hi]);cases q1;rw[hv] at g1;cases g1;have e:bs.getD i false=bs[i]:=by simp [hi]
   have hq2:Q' (bs.getD i false) s':=hq;rw[e] at hq2;exact wpAny_pure hq2
 . intro h' tk kk;have e:(List.range its.toArray.size).any (fun i=>bs.getD i false)=bs.any id:=by
     rw[List.size_toArray,<-l1,Bool.eq_iff_iff,List.any_eq_true,List.any_eq_true];constructor
     . rintro⟨i,hi,h⟩;have hi':=List.mem_range.mp hi;exact⟨bs[i],List.getElem_mem hi',by simpa [hi'] using h⟩
     . rintro⟨b,hb,h⟩;obtain⟨i,hi,rfl⟩:=List.mem_iff_getElem.mp hb;exact⟨i,List.mem_range.mpr hi,by simpa [hi] using h⟩
   rw[e];refine⟨.bl _,H,?_,rfl,q⟩;refine I.kept (t':=tk) fun b o e=>kk b o (fun z=>?_) (Heap.get?_push_of_some _ e);have:=Heap.lt_size e;have z':b=s.heap.objs.size:=by simpa using z
   rw[z'] at this;exact Nat.lt_irrefl _ this
end
theorem dF {lo c:Int}{n:Nat}{g:TG}{tb:TS}{D:Ends}{σ:L2.St}{H:Hp}(Pv:Nat->L2.St->Hp->Prop)(h0:Pv 0 σ H)
   (hs:∀i σ H,i<n->Pv i σ H->g (.int (lo+i*c)) σ H fun σ2 H2=>tb { D with nx:=Pv (i+1),ct:=Pv (i+1),bk:=D.nx } σ2 H2) (hd:∀σ H,Pv n σ H->D.nx σ H) :
   ∃W:Nat->Nat->L2.St->Hp->Prop,(∃m,W 0 m σ H)/\∀i m σ H,W i m σ H ->
     ((Its lo c n).stop i H/\D.nx σ H)\/((Its lo c n).go i H/\∃N:L2.St->Hp->Prop,(∀σ' H',N σ' H'->∃m',m'<m/\W (i+1) m' σ' H')/\∀x H',(Its lo c n).yld i H x H'->g x σ H' fun σ2 H2=>tb { D with nx:=N,ct:=N,bk:=D.nx } σ2 H2):=by
 refine⟨fun i m σ H=>m=n-i/\i<=n/\Pv i σ H,⟨n,by simp,Nat.zero_le _,h0⟩,?_⟩;rintro i m σ H ⟨rfl,hi,p⟩;by_cases hlt:i<n
 . refine .inr ⟨hlt,Pv (i+1),fun σ' H' p'=>⟨n-(i+1),by omega,rfl,hlt,p'⟩,fun x H' y=>?_⟩;obtain⟨e,y⟩:=y;subst e y;exact hs i σ _ hlt p
 . have e:i=n:=by omega
   subst e;exact .inl ⟨Nat.le_refl _,hd σ H p⟩
theorem r_iR3 {ta:TA}{σ:L2.St}{H:Hp}{R:It->Hp->Prop}(h:ta σ H fun vs H1=>∃i j c:Int,vs=[.int i,.int j,.int c]/\(0<=i/\i<=4000/\0<=j/\j<=4000/\1<=c/\c<=4000)/\R (Its i c (Builtin.Range.rangeSize i j c).toNat) H1):Xk ta σ H R:=h
theorem QG {H:Hp}{Q:VK}{lo:Int}{n k:Nat}{fs:L2.St}{g:TG}{tt:TT}{te:TE}(Pv:Addr->Nat->List V->Hp->Prop)(h0:∀D,H D=none->Pv D 0 [] (upd H D (.lst [])))
   (hs:∀D i ys H2,H D=none->i<n->Pv D i ys H2->∀τ:L2.St,τ.length=k->g (.int (lo+i)) (τ++fs) H2 fun σ1 H4=>(∃τ':L2.St,τ'.length=k/\σ1=τ'++fs)/\tt σ1 H4 fun b H5 =>
     if b=true then te σ1 H5 fun y H6=>H6 D=some (.lst ys)/\ys.length<sizeLine/\Nx n Pv D i (ys++[y]) (upd H6 D (.lst (ys++[y]))) else Nx n Pv D i ys H5)
   (hd:∀D ys H2,H D=none->Pv D n ys H2->Q (.ref D) H2):Jq k fs (Itr lo n) g tt te Q H:=by
 intro D hD;refine⟨fun i m ys H2=>m=n-i/\i<=n/\Pv D i ys H2,⟨_,rfl,Nat.zero_le _,h0 D hD⟩,?_⟩;rintro i m ys H2 ⟨rfl,hi,p⟩;by_cases hlt:i<n
 . refine .inr ⟨hlt,fun x H3 y τ hτ=>?_⟩;obtain⟨e,y⟩:=y;subst e y;exact hs D i ys _ hD hlt p τ hτ
 . have e:i=n:=by omega
   subst e;exact .inl ⟨Nat.le_refl _,hd D ys H2 hD p⟩
end Stow
set_option Elab.async false
set_option linter.all false
set_option maxRecDepth 100000
set_option maxHeartbeats 4000000
namespace Stow
open PySem L2 PyProof.Rows
def sumI (ns:List Int):Int:=ns.foldl (·+·) 0
section
variable {prog:Program}{w:World}{A:Around}{R:Result->Shared->Prop}{I:Addr}{fp wr:List Addr}{n:Nat}{P:Nat->Value->Prop}{St:Nat->Heap->Prop}{kw:List (Str×Value)}
end
section
variable {prog:Program}{w:World}{A:Around}{E:Value->Shared->Prop}{s:Shared}
end
section
variable {X:Cx}
end
end Stow
namespace Stow
open PySem L2 PyProof.Rows
section
variable {K:PySem.W.Frag}{σ:L2.St}{H:Hp}{Q:VK}
theorem Xl {us:List V}{xs:List (List V)}{a:Addr}{x:List V}(h:AZ H us xs)(ha:H a=some (.tup x)):AZ H (us++[.ref a]) (xs++[x]):=by
 refine⟨by rw[List.length_append,List.length_append,h.1];rfl,fun i y hy=>?_⟩;by_cases hi:i<xs.length
 . rw[List.getElem?_append_left hi] at hy;obtain⟨b,e1,e2⟩:=h.2 i y hy;exact⟨b,by rw[List.getElem?_append_left (by rw[h.1];exact hi)];exact e1,e2⟩
 . rw[List.getElem?_append_right (by omega)] at hy;have:i-xs.length=0:=by
     have:=(List.getElem?_eq_some_iff.mp hy).1;simp at this;omega
   rw[this] at hy;cases hy;exact⟨a,by rw[List.getElem?_append_right (by rw[h.1];omega),h.1,this];rfl,ha⟩
theorem dG {us:List V}{xs:List (List V)}(h:AZ H us xs){i:Nat}{v:V}(hv:us[i]?=some v):∃t x,v = .ref t/\xs[i]?=some x/\H t=some (.tup x):=by
 have hi:i<xs.length:=by rw[<-h.1];exact(List.getElem?_eq_some_iff.mp hv).1
 obtain⟨t,e1,e2⟩:=h.2 i xs[i] (by simp [hi]);exact⟨t,xs[i],Option.some.inj (hv.symm.trans e1),by simp [hi],e2⟩
theorem Xm {us:List V}{ps:List Pc}(h:AA H us ps){i:Nat}{v:V}(hv:us[i]?=some v):∃t z,v = .ref t/\ps[i]?=some z/\H t=some (.tup [.int z.a,.int z.l,.bl z.v]):=by
 have hi:i<ps.length:=by rw[<-h.1];exact(List.getElem?_eq_some_iff.mp hv).1
 obtain⟨t,e1,e2⟩:=h.2 i ps[i] (by simp [hi]);exact⟨t,ps[i],Option.some.inj (hv.symm.trans e1),by simp [hi],e2⟩
end
def Id (H:Hp)(v:V)(o:Option (List Int)):Prop:=match o with
 | none=>v = .non
 | some x=>∃t,v = .ref t/\H t=some (.tup (x.map V.int))
theorem Id.same {H H':Hp}{v:V}{o:Option (List Int)}(h:Id H v o)(s:Same H H'):Id H' v o:=by
 cases o with
 | none=>exact h
 | some x=>obtain⟨t,e1,e2⟩:=h;exact⟨t,e1,s t _ e2⟩
theorem Id.mono {H H':Hp}{v:V}{o:Option (List Int)}(h:Id H v o)(k:∀b xs,H b=some (.tup xs)->H' b=some (.tup xs)):Id H' v o:=by
 cases o with
 | none=>exact h
 | some x=>obtain⟨t,e1,e2⟩:=h;exact⟨t,e1,k t _ e2⟩
end Stow
namespace Stow
open PySem L2 PyProof.Rows
theorem Az.new {x t:Addr}{H H':Hp}{o:HO}(s:Az x H H')(ht:H' t=none):Az x H (upd H' t o):=fun b o' n h=>look_put ht (s b o' n h)
theorem Az.tups {x:Addr}{H H':Hp}{l us:List V}{xs:List (List V)}(s:Az x H H')(hx:H x=some (.lst l))(h:AZ H us xs):AZ H' us xs:=h.mono fun b ys e=>s b _ (fun z=>by rw[z,hx] at e;cases e) e
end Stow
set_option Elab.async false
set_option linter.all false
set_option maxRecDepth 100000
set_option maxHeartbeats 4000000
namespace Stow
open PySem L2 PyProof.Rows
end Stow
namespace Stow
open PySem L2 PyProof.Rows
theorem AJ.app {X Y:List Pc}(hX:AJ X)(hY:AJ Y)(hj:∀x y,X.getLast?=some x->Y[0]?=some y->x.v=true\/y.v=true):AJ (X++Y):=fun j y z h1 h2=>by
 by_cases e1:j+1<X.length
 . rw[List.getElem?_append_left (by omega)] at h1;rw[List.getElem?_append_left e1] at h2;exact hX j y z h1 h2
 . by_cases e2:j+1=X.length
   . rw[List.getElem?_append_left (by omega)] at h1;rw[List.getElem?_append_right (by omega),show j+1-X.length=0 by omega] at h2;refine hj y z ?_ h2;rw[List.getLast?_eq_getElem?,show X.length-1=j by omega];exact h1
   . rw[List.getElem?_append_right (by omega)] at h1 h2;rw[show j+1-X.length=(j-X.length)+1 by omega] at h2;exact hY _ y z h1 h2
theorem AJ.left {X Y:List Pc}(h:AJ (X++Y)):AJ X:=fun j y z h1 h2=>by
 have l1:=(List.getElem?_eq_some_iff.mp h1).1;have l2:=(List.getElem?_eq_some_iff.mp h2).1;exact h j y z (by rw[List.getElem?_append_left l1];exact h1) (by rw[List.getElem?_append_left l2];exact h2)
theorem AJ.right {X Y:List Pc}(h:AJ (X++Y)):AJ Y:=fun j y z h1 h2=>h (X.length+j) y z (by rw[List.getElem?_append_right (by omega),show X.length+j-X.length=j by omega];exact h1) (by rw[List.getElem?_append_right (by omega),show X.length+j+1-X.length=j+1 by omega];exact h2)
theorem AJ.mid {X Y:List Pc}{x y:Pc}(h:AJ (X++Y))(hx:X.getLast?=some x)(hy:Y[0]?=some y):x.v=true\/y.v=true:=by
 rw[List.getLast?_eq_getElem?] at hx;have l1:=(List.getElem?_eq_some_iff.mp hx).1;refine h (X.length-1) x y (by rw[List.getElem?_append_left l1];exact hx) ?_;rw[List.getElem?_append_right (by omega),show X.length-1+1-X.length=0 by omega];exact hy
theorem QH (z:Pc):AJ [z]:=fun j y x h1 h2=>by
 have:=(List.getElem?_eq_some_iff.mp h2).1;simp at this
theorem dH:AJ []:=fun j y x h1 h2=>by simp at h1
theorem NP:∀(R X:List Pc),AJ (X++R)->R.foldl Bq X=X++R
 | [],X,_=>by simp
 | w::R,X,h=>by
   rw[List.foldl_cons]
   have e:Bq X w=X++[w]:=by
     rcases DE X with e0 | ⟨D,y,e0⟩
     . subst e0;rfl
     . subst e0;have:=h.mid (x:=y) (y:=w) (by simp) (by simp);rcases this with hv | hv
       . exact F7 hv
       . exact F6 hv
   rw[e,NP R (X++[w]) (by rw[List.append_assoc];exact h),List.append_assoc];rfl
def CF (ds:List Pc):List Pc:=match ds.getLast? with
 | some y=>if y.v=true then ds else ds.dropLast
 | none=>ds
def Dw:List Pc->List Pc
 | []=>[]
 | w::R=>if w.v=true then w::R else R
theorem NQ {w:Pc}{R:List Pc}(h:w.v=true):Dw (w::R)=w::R:=by show (if w.v=true then w::R else R)=_;rw[if_pos h]
theorem NR {w:Pc}{R:List Pc}(h:w.v=false):Dw (w::R)=R:=by show (if w.v=true then w::R else R)=_;rw[h,if_neg Bool.false_ne_true]
theorem Ju {D:List Pc}{y:Pc}(h:y.v=true):CF (D++[y])=D++[y]:=by unfold CF;rw[List.getLast?_concat];simp only;rw[if_pos h]
theorem Jv {D:List Pc}{y:Pc}(h:y.v=false):CF (D++[y])=D:=by unfold CF;rw[List.getLast?_concat];simp only;rw[h,if_neg Bool.false_ne_true,List.dropLast_concat]
theorem dJ {ds rs:List Pc}{z:Pc}{s e:Int}(c:Ag s (ds++z::rs) e):Ag s (CF ds) (fbeg (ds++z::rs) ds.length z)/\fbeg (ds++z::rs) ds.length z<=z.a/\s<=fbeg (ds++z::rs) ds.length z:=by
 obtain⟨mm,c1,⟨ea,h1,h3,c2⟩⟩:∃mm,Ag s ds mm/\Ag mm (z::rs) e:=by
   have key:∀{A B:List Pc} {s e:Int},Ag s (A++B) e->∃m,Ag s A m/\Ag m B e:=by
     intro A
     induction A with
     | nil=>intro B s e c;exact⟨s,rfl,c⟩
     | cons y r ih =>
       rintro B s e ⟨g1,g2,g3,g4⟩;obtain⟨m,k1,k2⟩:=ih g4;exact⟨m,⟨g1,g2,g3,k1⟩,k2⟩
   exact key c
 rw[<-ea] at c1;have hl:=c1.le;rcases DE ds with e0 | ⟨D,y,e0⟩
 . subst e0;exact⟨c1,Int.le_refl _,by show s<=z.a;rw[List.length_nil] at hl;omega⟩
 . subst e0;obtain⟨k1,k2,k3,k4⟩:=c1.unsnoc;have hy:(D++[y]++z::rs)[D.length]?=some y:=by rw[List.append_assoc,List.getElem?_append_right (Nat.le_refl _),Nat.sub_self];rfl
   rw[List.length_append,List.length_singleton];have kl:=k1.le;cases hv:y.v with
   | true=>rw[NI hy hv,Ju hv];exact⟨c1,Int.le_refl _,by omega⟩
   | false=>rw[NJ hy hv,Jv hv];exact⟨k1,by omega,by omega⟩
theorem dL {ds rs:List Pc}{z:Pc}{s e:Int}(c:Ag s (ds++z::rs) e):Ag (fend (ds++z::rs) ds.length z) (Dw rs) e/\z.a+z.l<=fend (ds++z::rs) ds.length z/\fend (ds++z::rs) ds.length z<=e:=by
 have key:∀{A B:List Pc} {s e:Int},Ag s (A++B) e->∃m,Ag s A m/\Ag m B e:=by
   intro A
   induction A with
   | nil=>intro B s e c;exact⟨s,rfl,c⟩
   | cons y r ih =>
     rintro B s e ⟨g1,g2,g3,g4⟩;obtain⟨m,k1,k2⟩:=ih g4;exact⟨m,⟨g1,g2,g3,k1⟩,k2⟩
 obtain⟨mm,c1,⟨ea,h1,h3,c2⟩⟩:=key c;rw[<-ea] at c2;cases rs with
 | nil =>
   have hn:(ds++[z])[ds.length+1]?=none:=List.getElem?_eq_none (by simp);have c2:z.a+z.l=e:=c2;rw[Qt hn];exact⟨c2,Int.le_refl _,by omega⟩
 | cons w R =>
   have hw:(ds++z::w::R)[ds.length+1]?=some w:=by rw[List.getElem?_append_right (by omega),show ds.length+1-ds.length=1 by omega];rfl
   have hl:=c2.le;rw[List.length_cons] at hl;cases hv:w.v with
   | true =>
     rw[Qr hw hv,NQ hv];exact⟨c2,Int.le_refl _,by omega⟩
   | false =>
     rw[Qs hw hv,NR hv];obtain⟨g1,g2,g3,g4⟩:=c2;have hl2:=g4.le;refine⟨?_,by omega,by omega⟩;rw[g1];exact g4
theorem dM {ds:List Pc}{p:Pc}(h:p∈CF ds):p∈ds:=by
 rcases DE ds with e0 | ⟨D,y,e0⟩
 . subst e0;exact h
 . subst e0;cases hv:y.v with
   | true=>rw[Ju hv] at h;exact h
   | false=>rw[Jv hv] at h;exact List.mem_append.mpr (.inl h)
theorem dN {rs:List Pc}{p:Pc}(h:p∈Dw rs):p∈rs:=by
 cases rs with
 | nil=>cases h
 | cons w R =>
   cases hv:w.v with
   | true=>rw[NQ hv] at h;exact h
   | false=>rw[NR hv] at h;exact List.mem_cons_of_mem _ h
def modF (ps:List Pc)(k:Int):List Pc:=ps.map fun p=>(⟨p.a,p.l,p.v&&!decide (p.a=k)⟩:Pc)
theorem Xn {ds rs:List Pc}{z:Pc}{s e:Int}(c:Ag s (ds++z::rs) e):modF (ds++z::rs) z.a=ds++⟨z.a,z.l,false⟩::rs:=by
 have hid:∀p∈ds++rs,(⟨p.a,p.l,p.v&&!decide (p.a=z.a)⟩:Pc)=p:=fun p hp=>by
   have hne:p.a≠z.a:=fun h=>by
     have hp2:p∈ds++z::rs:=by
       rcases List.mem_append.mp hp with g | g
       . exact List.mem_append.mpr (.inl g)
       . exact List.mem_append.mpr (.inr (List.mem_cons_of_mem _ g))
     obtain⟨i,hi⟩:=List.getElem?_of_mem hp2;have hz:(ds++z::rs)[ds.length]?=some z:=by rw[List.getElem?_append_right (Nat.le_refl _),Nat.sub_self];rfl
     have:=NK c hi hz h;subst this
     -- p stands where z stands,so p is not elsewhere
     rcases List.mem_append.mp hp with g | g
     . obtain⟨j,hj⟩:=List.getElem?_of_mem g;have hjl:=(List.getElem?_eq_some_iff.mp hj).1;have:=NK c (show (ds++z::rs)[j]?=some p by rw[List.getElem?_append_left hjl];exact hj) hz h;omega
     . obtain⟨j,hj⟩:=List.getElem?_of_mem g;have:=NK c (show (ds++z::rs)[ds.length+1+j]?=some p by rw[List.getElem?_append_right (by omega),show ds.length+1+j-ds.length=j+1 by omega,List.getElem?_cons_succ];exact hj) hz h;omega
   rw[decide_eq_false hne];simp
 unfold modF;rw[List.map_append,List.map_cons];have e1:ds.map (fun p=>(⟨p.a,p.l,p.v&&!decide (p.a=z.a)⟩:Pc))=ds:=by
   have:ds.map (fun p=>(⟨p.a,p.l,p.v&&!decide (p.a=z.a)⟩:Pc))=ds.map id:=List.map_congr_left fun p hp=>hid p (List.mem_append.mpr (.inl hp));rw[this,List.map_id]
 have e2:rs.map (fun p=>(⟨p.a,p.l,p.v&&!decide (p.a=z.a)⟩:Pc))=rs:=by
   have:rs.map (fun p=>(⟨p.a,p.l,p.v&&!decide (p.a=z.a)⟩:Pc))=rs.map id:=List.map_congr_left fun p hp=>hid p (List.mem_append.mpr (.inr hp));rw[this,List.map_id]
 rw[e1,e2];simp
theorem dO {w:List Pc}(h:AJ w):AJ (Dw w)/\∀y,(Dw w)[0]?=some y->y.v=true:=by
 cases w with
 | nil=>exact⟨h,fun y hy=>by simp [Dw] at hy⟩
 | cons z R =>
   cases hv:z.v with
   | true =>
     rw[NQ hv];refine⟨h,fun y hy=>?_⟩;have ey:y=z:=by simpa using hy.symm
     rw[ey];exact hv
   | false =>
     rw[NR hv];refine⟨AJ.right (X:=[z]) h,fun y hy=>?_⟩;have:=AJ.mid (X:=[z]) (Y:=R) (x:=z) (y:=y) h rfl hy;exact this.resolve_left (by rw[hv];exact Bool.false_ne_true)
theorem dP {cs:List Int}{ds rs:List Pc}{z:Pc}(c:Ag 0 (ds++z::rs) cs.length)(m:Ao cs (ds++z::rs))(na:AJ (ds++z::rs))(hv:z.v=true) :
   Ag 0 (Bj (modF (ds++z::rs) z.a)) cs.length/\AJ (Bj (modF (ds++z::rs) z.a))/\Ao (lfI cs (fbeg (ds++z::rs) ds.length z) (fend (ds++z::rs) ds.length z)) (Bj (modF (ds++z::rs) z.a)):=by
 obtain⟨b1,b2,b3⟩:=dJ c;obtain⟨e1,e2,e3⟩:=dL c;have zl:1<=z.l:=(c.mem z (by simp)).2.1;have hj:Bj (modF (ds++z::rs) z.a)=CF ds++(fr (fbeg (ds++z::rs) ds.length z) (fend (ds++z::rs) ds.length z)++Dw rs):=by
   rw[Xn c];unfold fr;rw[if_neg (by omega)];have hds:AJ ds:=na.left;have hrs:AJ rs:=AJ.right (X:=ds++[z]) (by rw[List.append_assoc];exact na);obtain⟨hR1,hR2⟩:=dO hrs;unfold Bj;rw[List.foldl_append,List.foldl_cons];have h0:ds.foldl Bq []=ds:=by
     have:=NP ds [] (by simpa using hds);simpa using this
   rw[h0]
   -- the step at the piece itself
   have h1:∃l1,Bq ds ⟨z.a,z.l,false⟩=CF ds++[⟨fbeg (ds++z::rs) ds.length z,l1,false⟩]/\fbeg (ds++z::rs) ds.length z+l1=z.a+z.l:=by
     rcases DE ds with e0 | ⟨D,y,e0⟩
     . subst e0;exact⟨z.l,rfl,rfl⟩
     . subst e0;have hy:(D++[y]++z::rs)[D.length]?=some y:=by rw[List.append_assoc,List.getElem?_append_right (Nat.le_refl _),Nat.sub_self];rfl
       have hn:=FA c hy (show (D++[y]++z::rs)[D.length+1]?=some z by rw[List.getElem?_append_right (by simp),show D.length+1-(D++[y]).length=0 by simp];rfl);rw[List.length_append,List.length_singleton];cases hvy:y.v with
       | true=>exact⟨z.l,by rw[NI hy hvy,Ju hvy];exact F7 hvy,by rw[NI hy hvy]⟩
       | false=>exact⟨y.l+z.l,by rw[NJ hy hvy,Jv hvy];exact F8 hvy rfl,by rw[NJ hy hvy];omega⟩
   obtain⟨l1,h1,h1'⟩:=h1;rw[h1];have hfl:∀x y,(CF ds).getLast?=some x->[(⟨fbeg (ds++z::rs) ds.length z,fend (ds++z::rs) ds.length z-fbeg (ds++z::rs) ds.length z,false⟩:Pc)][0]?=some y->x.v=true\/y.v=true:=fun x y hx hy=>by
     left;rcases DE ds with e0 | ⟨D,w,e0⟩
     . subst e0;simp [CF] at hx
     . subst e0;cases hvy:w.v with
       | true =>
         rw[Ju hvy] at hx;have ex:x=w:=by simpa using hx.symm
         rw[ex];exact hvy
       | false =>
         rw[Jv hvy] at hx;have h2:AJ (D++[w]):=hds;exact(h2.mid hx (by rfl)).resolve_right (by rw[hvy];exact Bool.false_ne_true)
   have hflN:AJ (CF ds):=by
     rcases DE ds with e0 | ⟨D,w,e0⟩
     . subst e0;exact hds
     . subst e0;cases hvy:w.v with
       | true=>rw[Ju hvy];exact hds
       | false=>rw[Jv hvy];exact hds.left
   have hall:AJ ((CF ds++[(⟨fbeg (ds++z::rs) ds.length z,fend (ds++z::rs) ds.length z-fbeg (ds++z::rs) ds.length z,false⟩:Pc)])++Dw rs) :=
     AJ.app (hflN.app (QH _) hfl) hR1 fun x y hx hy=>.inr (hR2 y hy)
   cases rs with
   | nil =>
     have hn:(ds++[z])[ds.length+1]?=none:=List.getElem?_eq_none (by simp);rw[Qt hn] at *;have el:l1=z.a+z.l-fbeg (ds++[z]) ds.length z:=by omega
     rw[el];simp [Dw]
   | cons w R =>
     have hw:(ds++z::w::R)[ds.length+1]?=some w:=by rw[List.getElem?_append_right (by omega),show ds.length+1-ds.length=1 by omega];rfl
     have hnx:=FA c (show (ds++z::w::R)[ds.length]?=some z by rw[List.getElem?_append_right (Nat.le_refl _),Nat.sub_self];rfl) hw;cases hvw:w.v with
     | true =>
       rw[Qr hw hvw] at *;have el:l1=z.a+z.l-fbeg (ds++z::w::R) ds.length z:=by omega
       rw[el];have eR:Dw (w::R)=w::R:=NQ hvw;rw[eR] at hall ⊢;rw[NP (w::R) _ hall,List.append_assoc]
     | false =>
       rw[Qs hw hvw] at *;have eR:Dw (w::R)=R:=NR hvw;rw[eR] at hall ⊢;rw[List.foldl_cons,F8 rfl hvw];have el:l1+w.l=w.a+w.l-fbeg (ds++z::w::R) ds.length z:=by omega
       show List.foldl Bq (CF ds++[⟨fbeg (ds++z::w::R) ds.length z,l1+w.l,false⟩]) R=_;rw[el,NP R _ hall,List.append_assoc]
 refine⟨NL ?_,W6 _,?_⟩
 . rw[Xn c];obtain⟨i1,i2⟩:=(show Ag 0 (CF ds) _/\True from ⟨b1,trivial⟩)
   have key:∀(A:List Pc) (s:Int),Ag s (A++z::rs) cs.length->Ag s (A++⟨z.a,z.l,false⟩::rs) cs.length:=by
     intro A
     induction A with
     | nil=>rintro s ⟨g1,g2,g3,g4⟩;exact⟨g1,g2,(fun h=>by cases h),g4⟩
     | cons y r ih=>rintro s ⟨g1,g2,g3,g4⟩;exact⟨g1,g2,g3,ih _ g4⟩
   exact key ds 0 c
 . rw[hj];refine Ao.layF b3 (by omega) e3 (b1.endBy (Int.le_refl _)) e1.fromOn (m.sub fun p hp=>?_);rcases List.mem_append.mp hp with g | g
   . exact List.mem_append.mpr (.inl (dM g))
   . exact List.mem_append.mpr (.inr (List.mem_cons_of_mem _ (dN g)))
theorem NS:∀{A B:List Pc} {s e:Int},Ag s (A++B) e->∃m,Ag s A m/\Ag m B e
 | [],B,s,e,c=>⟨s,rfl,c⟩
 | z::r,B,s,e,c=>by
   obtain⟨h1,h2,h3,h4⟩:=c
   obtain⟨m,g1,g2⟩:=NS h4
   exact⟨m,⟨h1,h2,h3,g1⟩,g2⟩
end Stow
set_option Elab.async false
set_option linter.all false
set_option maxRecDepth 100000
set_option maxHeartbeats 4000000
namespace Stow
open PySem L2 PyProof.Rows
theorem NT {ps:List Pc}{s e p:Int}{y z:Pc}(c:Ag s ps e)(hy:y∈ps)(hz:z∈ps)(h1:y.a<=p)(h2:p<y.a+y.l)(h3:z.a<=p)(h4:p<z.a+z.l):y=z:=by
 obtain⟨i,hi⟩:=List.getElem?_of_mem hy;obtain⟨j,hj⟩:=List.getElem?_of_mem hz;rcases Nat.lt_trichotomy i j with g | g | g
 . exfalso;obtain⟨ds,rs,e1,e2,c1,c2⟩:=Cu c hj;subst e1 e2;rw[List.getElem?_append_left (by omega)] at hi;have:=(c1.mem y (List.mem_of_getElem? hi)).2.2.2;omega
 . subst g;exact Option.some.inj (hi.symm.trans hj)
 . exfalso;obtain⟨ds,rs,e1,e2,c1,c2⟩:=Cu c hi;subst e1 e2;rw[List.getElem?_append_left (by omega)] at hj;have:=(c1.mem z (List.mem_of_getElem? hj)).2.2.2;omega
theorem dQ {ds rs:List Pc}{z:Pc}{s L:Int}(na:AJ (ds++z::rs))(hv:z.v=false):AJ (cutP ds rs z.a z.l s L):=by
 have hd:AJ ds:=na.left;have hr:AJ rs:=AJ.right (X:=[z]) na.right;have lastd:∀x,ds.getLast?=some x->x.v=true:=fun x hx=>by
   rcases na.mid hx (y:=z) rfl with h | h
   . exact h
   . rw[hv] at h;cases h
 have firstr:∀y,rs[0]?=some y->y.v=true:=fun y hy=>by
   rcases(na.right).mid (X:=[z]) (Y:=rs) (x:=z) rfl hy with h | h
   . rw[hv] at h;cases h
   . exact h
 have hf:∀b e,AJ (fr b e):=fun b e=>by
   unfold fr
   split
   . exact dH
   . exact QH _
 have frl:∀b e x,(fr b e).getLast?=some x->x.v=false:=fun b e x hx=>by
   unfold fr at hx
   split at hx
   . simp at hx
   . have:(⟨b,e-b,false⟩:Pc)=x:=by simpa using hx
     rw[<-this]
 unfold cutP;refine hd.app ((hf _ _).app (AJ.app (X:=[⟨s,L,true⟩]) (QH _) ((hf _ _).app hr fun x y hx hy=>.inr (firstr y hy)) fun x y hx hy=>.inl ?_) fun x y hx hy=>.inr ?_) fun x y hx hy=>.inl (lastd x hx)
 . have:(⟨s,L,true⟩:Pc)=x:=by simpa using hx
   rw[<-this]
 . have:(⟨s,L,true⟩:Pc)=y:=by simpa using hy
   rw[<-this]
section
variable {X:Cx}{e:Expr}{t:TX}{epos:Pos}
end
end Stow
set_option Elab.async false
set_option linter.all false
set_option maxRecDepth 100000
set_option maxHeartbeats 4000000
namespace Stow
open PySem L2 PyProof.Rows
section
variable {X:Cx}{pins:List (Addr×Obj)}{σ:L2.St}{H:Hp}{s:Shared}{d:Addr}{kvs:List (Key×V)}{o:Obj}
end
section
variable {X:Cx}{tg:Expr}
end
section
variable {K:PySem.W.Frag}{σ:L2.St}{H:Hp}{Q:VK}{D:Ends}
end
end Stow
namespace Stow
open PySem L2 PyProof.Rows
inductive W7
 | first | best | next | likes | half | shel | row
def cF (C1 C2 C3 C4 C5 C6 C7:Addr):W7->Addr
 | .first=>C1
 | .best=>C2
 | .next=>C3
 | .likes=>C4
 | .half=>C5
 | .shel=>C6
 | .row=>C7
def fsF:W7->Addr->Int->List (Str×V)
 | .next,a,r=>[("room_cells",.ref a),("room_rover",.int r)]
 | .shel,a,r=>[("room_cells",.ref a),("shelf",.int r)]
 | .first,a,_=>[("room_cells",.ref a)]
 | .best,a,_=>[("room_cells",.ref a)]
 | .likes,a,_=>[("room_cells",.ref a)]
 | .half,a,_=>[("room_cells",.ref a)]
 | .row,a,_=>[("room_cells",.ref a)]
theorem fsF_cells {i:W7}{a:Addr}{r:Int}:(fsF i a r).lookup ("room_cells":Str)=some (.ref a):=by cases i <;> rfl
theorem fsF_few {i:W7}{a:Addr}{r:Int}:(fsF i a r).length<1000:=by cases i <;> (simp only [fsF,List.length_cons,List.length_nil];omega)
theorem fsF_none {i:W7}{a:Addr}{r:Int}{m:Str}(h1:(m==("room_cells":Str))=false)(h2:(m==("shelf":Str))=false)(h3:(m==("room_rover":Str))=false):(fsF i a r).lookup m=none:=by
 cases i <;> simp only [fsF,List.lookup,h1,h2,h3]
theorem NU {i:W7}{a b:Addr}{r:Int}:putF ("room_cells":Str) (.ref b) (fsF i a r)=fsF i b r:=by cases i <;> rfl
theorem FD {C1 C2 C3 C4 C5 C6 C7:Addr}{Q:Addr->Prop}(h1:Q C1)(h2:Q C2)(h3:Q C3)(h4:Q C4)(h5:Q C5)(h6:Q C6)(h7:Q C7):∀i,Q (cF C1 C2 C3 C4 C5 C6 C7 i):=fun i=>by
 cases i
 . exact h1
 . exact h2
 . exact h3
 . exact h4
 . exact h5
 . exact h6
 . exact h7
def BD (P:Program)(w:World)(K:PySem.W.Frag)(mg:Str->Option Value)(base:Heap)(ok:W7->Prop)(C:W7->Addr)(m:Str)(j:Nat)(ps:List Str)(dvs:List V)(sp:W7->Sp):Prop:=∀i,ok i->Methx P w K mg base (C i) m j ps dvs (sp i)
def Bk (P:Program)(w:World)(K:PySem.W.Frag)(mg:Str->Option Value)(base:Heap)(C:W7->Addr)(m:Str)(j:Nat)(ps:List Str)(dvs:List V)(sp:W7->Sp):Prop:=∀i,Methx P w K mg base (C i) m j ps dvs (sp i)
structure MethFD (P:Program)(w:World)(K:PySem.W.Frag)(mg:Str->Option Value)(base:Heap)(C:W7->Addr)(m:Str)(j:Nat)(ps:List Str)(dvs:List V)(sp:W7->Sp):Prop where
 all:Bk P w K mg base C m j ps [] sp
 less:Bk P w K mg base C m j ps dvs sp
section
variable {P:Program}{w:World}{K:PySem.W.Frag}{mg:Str->Option Value}{base:Heap}{C:W7->Addr}{m:Str}{j k:Nat}{ps:List Str}{dvs:List V}{sp:W7->Sp}{ok ok':W7->Prop}{f:Addr}{fd:FuncData}{ds:List Value}
theorem BD.made (F:FnOk P w K mg base (CXe P w) j f fd ps (fun vs H Q E=>∃i,ok i/\sp i vs H Q E))(M:∀i,ok i->Meth K (C i) m f)(b:Bi K fd ps [])(c:∀i,Cls K (C i)):BD P w K mg base ok C m j ps [] sp :=
 fun i hi=>⟨⟨f,fd,[],F.imp fun _ _ _ _ h=>⟨i,hi,h⟩,M i hi,b,.nil⟩,c i⟩
theorem Bk.made (F:FnOk P w K mg base (CXe P w) j f fd ps (fun vs H Q E=>∃i,sp i vs H Q E))(M:∀i,Meth K (C i) m f)(b:Bi K fd ps [])(c:∀i,Cls K (C i)):Bk P w K mg base C m j ps [] sp :=
 fun i=>⟨⟨f,fd,[],F.imp fun _ _ _ _ h=>⟨i,h⟩,M i,b,.nil⟩,c i⟩
theorem MethFD.made (F:FnOk P w K mg base (CXe P w) j f fd ps (fun vs H Q E=>∃i,sp i vs H Q E))(M:∀i,Meth K (C i) m f)(b:Bi K fd ps [])(b':Bi K fd ps ds)(v:Vals dvs ds)(c:∀i,Cls K (C i)):MethFD P w K mg base C m j ps dvs sp :=
 ⟨fun i=>⟨⟨f,fd,[],F.imp fun _ _ _ _ h=>⟨i,h⟩,M i,b,.nil⟩,c i⟩,fun i=>⟨⟨f,fd,ds,F.imp fun _ _ _ _ h=>⟨i,h⟩,M i,b',v⟩,c i⟩⟩
theorem Methx.up {C₀:Addr}{sp₀:Sp}(D:Methx P w K mg base C₀ m j ps dvs sp₀)(h:j<=k):Methx P w K mg base C₀ m k ps dvs sp₀:=by
 obtain⟨f,fd,ds,F,M,b,v⟩:=D.ex;exact⟨⟨f,fd,ds,F.mono h,M,b,v⟩,D.cl⟩
structure MethSD (P:Program)(w:World)(K:PySem.W.Frag)(mg:Str->Option Value)(base:Heap)(ok:W7->Prop)(C:W7->Addr)(m:Str)(j:Nat)(ps:List Str)(dvs:List V)(sp:W7->Sp):Prop where
 all:BD P w K mg base ok C m j ps [] sp
 less:BD P w K mg base ok C m j ps dvs sp
theorem MethSD.made (F:FnOk P w K mg base (CXe P w) j f fd ps (fun vs H Q E=>∃i,ok i/\sp i vs H Q E))(M:∀i,ok i->Meth K (C i) m f)(b:Bi K fd ps [])(b':Bi K fd ps ds)(v:Vals dvs ds)(c:∀i,Cls K (C i)):MethSD P w K mg base ok C m j ps dvs sp :=
 ⟨fun i hi=>⟨⟨f,fd,[],F.imp fun _ _ _ _ h=>⟨i,hi,h⟩,M i hi,b,.nil⟩,c i⟩,fun i hi=>⟨⟨f,fd,ds,F.imp fun _ _ _ _ h=>⟨i,hi,h⟩,M i hi,b',v⟩,c i⟩⟩
theorem BD.of {C₀:Addr}{i:W7}(D:Methx P w K mg base C₀ m j ps dvs (sp i))(e:C i=C₀)(hk:j<=k):BD P w K mg base (fun i'=>i'=i) C m k ps dvs sp:=fun i' h=>by
 subst h;rw[e];exact D.up hk
theorem BD.all (D:BD P w K mg base ok C m j ps dvs sp)(h:∀i,ok i):Bk P w K mg base C m j ps dvs sp:=fun i=>D i (h i)
end
def NV (C:W7->Addr)(m:Str)(sp:W7->Sp)(dvs:List V)(E:XK)(ta:TE)(t:TA):TE:=fun σ H Q=>ta σ H fun x H1=>∃i a dx fs,x = .ref a/\H1 a=some (.ins (C i) dx fs)/\fs.lookup m=none/\t σ H1 fun vs H2=>sp i (x::(vs++dvs)) H2 Q E
def NW (C:W7->Addr)(m:Str)(sp:W7->Sp)(dvs:List V)(to:TE)(ta:TA):TX:=fun σ H QV EX=>to σ H fun x H1=>∃i a dx fs,x = .ref a/\H1 a=some (.ins (C i) dx fs)/\fs.lookup m=none/\ta σ H1 fun vs H2=>sp i (x::(vs++dvs)) H2 QV EX
section
variable {X:Cx}{j k:Nat}{C:W7->Addr}{ps:List Str}{sp:W7->Sp}{dvs:List V}{m:Str}{pos apos:Pos}{e o:Expr}{es:List Expr}{to:TE}{t:TA}{E:XK}
theorem Do {pl:Sem Bool}(D:Bk X.prog X.w X.K X.mg X.base C m j ps dvs sp)(hx:DB (CXe X.prog X.w) X E)(hr:Room k X.A)(ho:PE X o to)(ha:PA X (e::es) t)(hk:j<=k:=by decide)
   (hst:starEach (e::es) X.env=(false,eval e X.env)::starEach es X.env:=by rfl) (hpl:(backTo pos (starEach es X.env)).any (·.1)=false:=by rfl)
   (ht:eval (.Call (.Attribute o m apos) (e::es) [] pos) X.env=(do
     let ov <-eval o X.env
     standAt apos.atName
     let (f,first) <-holding [ov] (getMethod ov m pl)
     callWith pos f first (backTo pos (starEach (e::es) X.env)) (backToKw pos (keywordEach [] X.env))):=by rfl) :
   PE X (.Call (.Attribute o m apos) (e::es) [] pos) (NV C m sp dvs E to t):=by
 intro pins s σ H Q I h;refine methodCall_KW (pl:=pl) (thn (ho pins s σ H _ I h) fun u s1 ⟨x,H1,I1,rx,i,a,dx,fs,ex,ea,l,q⟩=>?_) ht;subst ex;obtain rfl:u=Value.ref a:=rx;obtain⟨f,fd,ds,F,hm,hb,hd⟩:=(D i).ex;refine Jg I1 ea (D i).cl hm l ?_;refine callWith_K (first:=[.ref a]) (h₀:=X.base) I.ok.mod.kin hm.kp (thn (ha pos pins s1 σ H1 _ I1 q) fun us s2 ⟨vs,H2,I2,r,q2⟩=>⟨I2.kIn,?_⟩) hst hpl;exact Jh (us:=.ref a::us) (vs:=.ref a::vs) F (hr.mono hk) hb hd hx I2 (.cons rfl r) q2
theorem DH {pl:Sem Bool}(D:Bk X.prog X.w X.K X.mg X.base C m j ps dvs sp)(hx:DB (CXe X.prog X.w) X E)(hr:Room k X.A)(ho:PE X o to)(hk:j<=k:=by decide)
   (ht:eval (.Call (.Attribute o m apos) [] [] pos) X.env=(do
     let ov <-eval o X.env
     standAt apos.atName
     let (f,first) <-holding [ov] (getMethod ov m pl)
     callWith pos f first (backTo pos (starEach [] X.env)) (backToKw pos (keywordEach [] X.env))):=by rfl) :
   PE X (.Call (.Attribute o m apos) [] [] pos) (NV C m sp dvs E to tNil):=by
 intro pins s σ H Q I h;refine methodCall_KW (pl:=pl) (thn (ho pins s σ H _ I h) fun u s1 ⟨x,H1,I1,rx,i,a,dx,fs,ex,ea,l,q⟩=>?_) ht;subst ex;obtain rfl:u=Value.ref a:=rx;obtain⟨f,fd,ds,F,hm,hb,hd⟩:=(D i).ex;refine Jg I1 ea (D i).cl hm l ?_;exact PySem.W.callWith_K0 (first:=[.ref a]) I1.kIn hm.kp (Jh (us:=[.ref a]) (vs:=[.ref a]) F (hr.mono hk) hb hd hx I1 (.cons rfl .nil) q)
theorem Xo {pl:Sem Bool}(D:Bk X.prog X.w X.K X.mg X.base C m j ps dvs sp)(hr:Room k X.A)(ho:PE X.nox o to)(ha:PA X.nox (e::es) t)(hk:j<=k:=by decide)
   (hst:starEach (e::es) X.env=(false,eval e X.env)::starEach es X.env:=by rfl) (hpl:(backTo pos (starEach es X.env)).any (·.1)=false:=by rfl)
   (ht:eval (.Call (.Attribute o m apos) (e::es) [] pos) X.env=(do
     let ov <-eval o X.env
     standAt apos.atName
     let (f,first) <-holding [ov] (getMethod ov m pl)
     callWith pos f first (backTo pos (starEach (e::es) X.env)) (backToKw pos (keywordEach [] X.env))):=by rfl) :
   PX X (.Call (.Attribute o m apos) (e::es) [] pos) (NW C m sp dvs to t):=by
 intro pins s σ H QV EX Qp W I h hv hx;refine methodCall_KW (pl:=pl) (wpAny_mono (ho pins s σ H _ (I.wish _) h) (fun u s1 ⟨x,H1,I1',rx,i,a,dx,fs,ex,ea,l,q⟩=>?_) (fun _ _ z=>z.elim)) ht;have I1:=I1'.unwish;subst ex;obtain rfl:u=Value.ref a:=rx;obtain⟨f,fd,ds,F,hm,hb,hd⟩:=(D i).ex;refine Jg I1 ea (D i).cl hm l ?_;refine callWith_K (first:=[.ref a]) (h₀:=X.base) I.ok.mod.kin hm.kp (wpAny_mono (ha pos pins s1 σ H1 _ (I1.wish _) q) (fun us s2 ⟨vs,H2,I2',r,q2⟩=>?_) (fun _ _ z=>z.elim)) hst hpl;have I2:=I2'.unwish;exact⟨I2.kIn,Qf (us:=.ref a::us) (vs:=.ref a::vs) F (hr.mono hk) hb hd I2 (.cons rfl r) q2 hv fun y s' hq=>hx H2 s2 y s' I2 hq⟩
end
def QI (ok:W7->Prop)(C:W7->Addr)(m:Str)(sp:W7->Sp)(dvs:List V)(E:XK)(ta:TE)(t:TA):TE:=fun σ H Q=>ta σ H fun x H1=>∃i a dx fs,ok i/\x = .ref a/\H1 a=some (.ins (C i) dx fs)/\fs.lookup m=none/\t σ H1 fun vs H2=>sp i (x::(vs++dvs)) H2 Q E
section
variable {X:Cx}{j k:Nat}{C:W7->Addr}{ps:List Str}{sp:W7->Sp}{dvs:List V}{m:Str}{pos apos:Pos}{e o:Expr}{es:List Expr}{to:TE}{t:TA}{E:XK}{ok:W7->Prop}
theorem Xp {pl:Sem Bool}(D:BD X.prog X.w X.K X.mg X.base ok C m j ps dvs sp)(hx:DB (CXe X.prog X.w) X E)(hr:Room k X.A)(ho:PE X o to)(ha:PA X (e::es) t)(hk:j<=k:=by decide)
   (hst:starEach (e::es) X.env=(false,eval e X.env)::starEach es X.env:=by rfl) (hpl:(backTo pos (starEach es X.env)).any (·.1)=false:=by rfl)
   (ht:eval (.Call (.Attribute o m apos) (e::es) [] pos) X.env=(do
     let ov <-eval o X.env
     standAt apos.atName
     let (f,first) <-holding [ov] (getMethod ov m pl)
     callWith pos f first (backTo pos (starEach (e::es) X.env)) (backToKw pos (keywordEach [] X.env))):=by rfl) :
   PE X (.Call (.Attribute o m apos) (e::es) [] pos) (QI ok C m sp dvs E to t):=by
 intro pins s σ H Q I h;refine methodCall_KW (pl:=pl) (thn (ho pins s σ H _ I h) fun u s1 ⟨x,H1,I1,rx,i,a,dx,fs,hok,ex,ea,l,q⟩=>?_) ht;subst ex;obtain rfl:u=Value.ref a:=rx;obtain⟨f,fd,ds,F,hm,hb,hd⟩:=(D i hok).ex;refine Jg I1 ea (D i hok).cl hm l ?_;refine callWith_K (first:=[.ref a]) (h₀:=X.base) I.ok.mod.kin hm.kp (thn (ha pos pins s1 σ H1 _ I1 q) fun us s2 ⟨vs,H2,I2,r,q2⟩=>⟨I2.kIn,?_⟩) hst hpl;exact Jh (us:=.ref a::us) (vs:=.ref a::vs) F (hr.mono hk) hb hd hx I2 (.cons rfl r) q2
end
section
variable {K:PySem.W.Frag}{σ:L2.St}{H:Hp}{Q:VK}{EX:XK}{C:W7->Addr}{m:Str}{sp:W7->Sp}{E:XK}{ta:TE}{t:TA}{dvs:List V}
theorem r_methF (h:ta σ H fun x H1=>∃i a dx fs,x = .ref a/\H1 a=some (.ins (C i) dx fs)/\fs.lookup m=none/\t σ H1 fun vs H2=>sp i (x::vs) H2 Q E):NV C m sp [] E ta t σ H Q:=by
 unfold NV;simp only [List.append_nil];exact h
theorem r_xMethF (h:ta σ H fun x H1=>∃i a dx fs,x = .ref a/\H1 a=some (.ins (C i) dx fs)/\fs.lookup m=none/\t σ H1 fun vs H2=>sp i (x::vs) H2 Q EX):NW C m sp [] ta t σ H Q EX:=by
 unfold NW;simp only [List.append_nil];exact h
theorem r_xMethFD (h:ta σ H fun x H1=>∃i a dx fs,x = .ref a/\H1 a=some (.ins (C i) dx fs)/\fs.lookup m=none/\t σ H1 fun vs H2=>sp i (x::(vs++dvs)) H2 Q EX):NW C m sp dvs ta t σ H Q EX:=h
theorem r_methS {ok:W7->Prop}(h:ta σ H fun x H1=>∃i a dx fs,ok i/\x = .ref a/\H1 a=some (.ins (C i) dx fs)/\fs.lookup m=none/\t σ H1 fun vs H2=>sp i (x::vs) H2 Q E):QI ok C m sp [] E ta t σ H Q:=by
 unfold QI;simp only [List.append_nil];exact h
theorem r_matS {ok:W7->Prop}{a dx:Addr}{i:W7}{fs:List (Str×V)}{R:W7->Prop}(o:ok i)(h:H a=some (.ins (C i) dx fs))(l:fs.lookup m=none)(q:R i) :
   ∃i' a' dx' fs',ok i'/\V.ref a=V.ref a'/\H a'=some (.ins (C i') dx' fs')/\fs'.lookup m=none/\R i':=⟨i,a,dx,fs,o,rfl,h,l,q⟩
theorem r_matF {a dx:Addr}{i:W7}{fs:List (Str×V)}{R:W7->Prop}(h:H a=some (.ins (C i) dx fs))(l:fs.lookup m=none)(q:R i) :
   ∃i' a' dx' fs',V.ref a=V.ref a'/\H a'=some (.ins (C i') dx' fs')/\fs'.lookup m=none/\R i':=⟨i,a,dx,fs,rfl,h,l,q⟩
end
theorem decS {i j:Str}:decide (V.str i=V.str j)=decide (i=j):=by
 rw[P0,Bool.eq_iff_iff];simp
section
variable {H:Hp}{Q:VK}
theorem r_eqSt {i j:Str}(h:Q (.bl (decide (i=j))) H):rEq (.str i) (.str j) H Q:=⟨rfl,by rw[decS];exact h⟩
end
end Stow
namespace Stow
open PySem L2 PyProof.Rows
section
variable {X:Cx}{a:Expr}{ta:TE}
end
section
variable {K:PySem.W.Frag}{σ:L2.St}{H:Hp}{Q:VK}
end
end Stow
namespace Stow
open PySem L2 PyProof.Rows
theorem apart {ps:List Pc}{s e:Int}{y z:Pc}{i:Int}(c:Ag s ps e)(hy:y∈ps)(hz:z∈ps)(hne:y≠z)(h1:z.a<=i)(h2:i<z.a+z.l):i<y.a\/y.a+y.l<=i:=by
 rcases Int.lt_or_le i y.a with g | g
 . exact .inl g
 . rcases Int.lt_or_le i (y.a+y.l) with g2 | g2
   . exact absurd (NT c hy hz g g2 h1 h2) hne
   . exact .inr g2
end Stow
namespace Stow
open PySem L2 PyProof.Rows
def eqP (y z:Pc):Bool:=decide (y.a=z.a/\y.l=z.l/\y.v=z.v)
theorem Ie {y z:Pc}:eqP y z=true↔y=z:=by
 unfold eqP;rw[decide_eq_true_iff];constructor
 . rintro⟨h1,h2,h3⟩;obtain⟨a,l,v⟩:=y;obtain⟨a',l',v'⟩:=z;simp only at h1 h2 h3;rw[h1,h2,h3]
 . rintro rfl;exact⟨rfl,rfl,rfl⟩
theorem dR (y z:Pc):eqVs [.int y.a,.int y.l,.bl y.v] [.int z.a,.int z.l,.bl z.v]=eqP y z:=by
 rw[Bool.eq_iff_iff,Ie];constructor
 . intro h;unfold eqVs at h;have h:=List.all_eq_true.mp (Bool.and_eq_true_iff.mp h).1;have h0:=h 0 (by simp);have h1:=h 1 (by simp);have h2:=h 2 (by simp);have e0:y.a=z.a:=by
     have:decide (y.a=z.a)=true:=h0;simpa using this
   have e1:y.l=z.l:=by
     have:decide (y.l=z.l)=true:=h1;simpa using this
   have e2:y.v=z.v:=by
     have g:eqV (.bl y.v) (.bl z.v)=true:=h2;cases hy:y.v <;> cases hz:z.v <;> rw[hy,hz] at g <;> first | rfl | cases g
   exact Ie.mp (by unfold eqP;exact decide_eq_true ⟨e0,e1,e2⟩)
 . rintro rfl;exact Qv rfl
open Classical in
theorem op_inP {X:Cx}(hu:X.A.units+64<cLine):OpR X (compareOp .In) (fun x y H Q=>∃t p us ps z,x = .ref t/\y = .ref p/\H t=some (.tup [.int z.a,.int z.l,.bl z.v])/\H p=some (.lst us)/\AA H us ps/\Q (.bl (ps.any fun y=>eqP y z)) H):=by
 intro pins s σ H x y v u Q I rx ry h;obtain⟨t,p,us,ps,z,rfl,rfl,ht,hp,pa,q⟩:=h;cases rx;cases ry;obtain⟨its,r,pl,hz⟩:=I.list (SqL.of hp);have hl:=r.length;have hpl:=pa.1;have at':∀w∈its,∃t' z',w = .ref t'/\H t'=some (.tup [.int z'.a,.int z'.l,.bl z'.v])/\z'∈ps:=fun w hw=>by
   obtain⟨i,hi,rfl⟩:=List.mem_iff_getElem.mp hw;have hip:i<ps.length:=by omega
   obtain⟨t',e1,e2⟩:=pa.2 i ps[i] (by simp [hip]);obtain⟨u',g1,q1⟩:=r.get e1;cases q1;rw[List.getElem?_eq_getElem hi] at g1;exact⟨t',ps[i],Option.some.inj g1,e2,List.getElem_mem hip⟩
 refine SeqAt.in_listAt (fun w=>decide (∃t' z',w=Value.ref t'/\H t'=some (.tup [.int z'.a,.int z'.l,.bl z'.v])/\eqP z' z=true)) pl.isList (fun w hw=>?_) ⟨.bl _,H,I,rfl,?_⟩
 . obtain⟨t',z',rfl,h1,_⟩:=at' w (by simpa using hw);have ev:decide (∃t'' z'',Value.ref t'=Value.ref t''/\H t''=some (.tup [.int z''.a,.int z''.l,.bl z''.v])/\eqP z'' z=true)=eqP z' z:=by
     rw[Bool.eq_iff_iff,decide_eq_true_iff];constructor
     . rintro⟨t'',z'',e,g1,g2⟩;cases e;rw[h1] at g1;have e2:=HO.tup.inj (Option.some.inj g1);simp only [List.cons.injEq,V.int.injEq,V.bl.injEq,and_true] at e2;have:z'=z'':=Ie.mp (by unfold eqP;exact decide_eq_true e2);rw[this];exact g2
     . exact fun g=>⟨t',z',rfl,h1,g⟩
   rw[ev,<-dR];by_cases e:t'=t
   . subst e;rw[h1] at ht;rw[HO.tup.inj (Option.some.inj ht),Qv rfl];exact SeqAt.EqAt.same _
   . exact SeqAt.EqAt.of_refs e (W8 (A:=X.A.in1) (by show X.A.units+1<cLine;omega) I (SqT.of h1) (SqT.of ht) rfl rfl)
 . have:its.toArray.any (fun w=>decide (∃t' z',w=Value.ref t'/\H t'=some (.tup [.int z'.a,.int z'.l,.bl z'.v])/\eqP z' z=true))=ps.any fun y=>eqP y z:=by
     rw[List.any_toArray,Bool.eq_iff_iff,List.any_eq_true,List.any_eq_true];constructor
     . rintro⟨w,hw,hd⟩;obtain⟨t',z',e,g1,g2⟩:=of_decide_eq_true hd;obtain⟨t2,z2,e2,g3,g4⟩:=at' w hw;rw[e] at e2;cases e2;rw[g1] at g3;have e2:=HO.tup.inj (Option.some.inj g3);simp only [List.cons.injEq,V.int.injEq,V.bl.injEq,and_true] at e2;have:z'=z2:=Ie.mp (by unfold eqP;exact decide_eq_true e2);exact⟨z2,g4,by rw[<-this];exact g2⟩
     . rintro⟨y,hy,g⟩;obtain⟨i,hi,rfl⟩:=List.mem_iff_getElem.mp hy;obtain⟨t',e1,e2⟩:=pa.2 i ps[i] (by simp [hi]);obtain⟨u',g1,q1⟩:=r.get e1;cases q1;exact⟨_,List.mem_of_getElem? g1,decide_eq_true ⟨t',ps[i],rfl,e2,g⟩⟩
   rw[this];exact q
end Stow
namespace Stow
open PySem L2 PyProof.Rows
def Al (z:Pc):Prop:=∃m q:Nat,z.l=2^m/\z.a=2^m*(q:Int)
theorem pw1 (i:Nat):1<=(2:Int)^i:=QF i
theorem pw2 (i:Nat):(2:Int)^(i+1)=2^i+2^i:=by rw[Int.pow_succ];omega
def spl (a:Int)(B e:Nat):List Pc:=(List.range' B e).map fun i:Nat=>⟨a+2^i,2^i,false⟩
theorem Xq (a:Int)(B e:Nat):spl a B (e+1)=⟨a+2^B,2^B,false⟩::spl a (B+1) e:=by
 unfold spl;rw[List.range'_succ];rfl
theorem NX (a:Int):∀(e B:Nat),Ag (a+2^B) (spl a B e) (a+2^(B+e))
 | 0,B=>rfl
 | e+1,B=>by
   rw[Xq]
   refine⟨rfl,pw1 B,(fun h=>by cases h),?_⟩
   have:=NX a e (B+1)
   rw[pw2,show a+(2^B+2^B)=a+2^B+2^B by omega,show B+1+e=B+(e+1) by omega] at this
   exact this
theorem dS {a:Int}{B e:Nat}{z:Pc}(h:z∈spl a B e):∃i,B<=i/\i<B+e/\z=⟨a+2^i,2^i,false⟩:=by
 unfold spl at h;obtain⟨i,hi,e'⟩:=List.mem_map.mp h;obtain⟨h1,h2⟩:=List.mem_range'_1.mp hi;exact⟨i,h1,h2,e'.symm⟩
theorem dU (i e:Nat):(2:Int)^(i+e)=2^i*2^e:=Int.pow_add 2 i e
theorem dW (e:Nat):((2^e:Nat):Int)=2^e:=by
 induction e with
 | zero=>rfl
 | succ e ih=>rw[Nat.pow_succ,Int.natCast_mul,ih,Int.pow_succ];rfl
theorem Xr {a:Int}{M i q:Nat}(h:a=2^M*(q:Int))(hi:i<=M):∃r:Nat,a=2^i*(r:Int):=by
 obtain⟨e,rfl⟩:∃e,M=i+e:=⟨M-i,by omega⟩
 refine⟨2^e*q,?_⟩;rw[h,dU,Int.natCast_mul,dW,Int.mul_assoc]
theorem spl_al {a:Int}{M B e q:Nat}(h:a=2^M*(q:Int))(hB:B+e<=M):∀z∈spl a B e,Al z:=fun z hz=>by
 obtain⟨i,h1,h2,rfl⟩:=dS hz;obtain⟨r,hr⟩:=Xr h (show i<=M by omega);refine⟨i,r+1,rfl,?_⟩;show a+2^i=2^i*((r+1:Nat):Int);rw[hr,Int.natCast_add,Int.mul_add];simp
def hcP (a:Int)(B M:Nat):List Pc:=⟨a,2^B,true⟩::spl a B (M-B)
theorem dX {a:Int}{B M:Nat}(h2:2<=B)(h:B<=M):Ag a (hcP a B M) (a+2^M):=by
 have h3:(3:Int)<=2^B:=by
   have:=FC h2;have e:(2:Int)^2=4:=by decide
   omega
 refine⟨rfl,pw1 B,fun _=>h3,?_⟩;have:=NX a (M-B) B;rw[show B+(M-B)=M by omega] at this;exact this
theorem dY {row:List Int}{ds rs:List Pc}{a:Int}{L e:Nat}(h0:0<=a)(hd:B1 ds a)(hr:DV rs (a+2^(L+1+e)))(hl:a+2^(L+1+e)<=row.length)(m:Ao row (ds++(spl a (L+1) e++rs))) :
   a+2^L+2^L<=row.length/\Ao (AM row (a+2^L) (2^L) false) (ds++(spl a L (e+1)++rs)):=by
 have c:=NX a e (L+1);have hle:=c.le;have p1:=pw1 L;have p2:=pw2 L;have hb:a+2^L+2^L<=row.length:=by omega
 refine⟨hb,?_⟩;rw[Xq,List.cons_append];refine Ao.lay (by omega) p1 hb (hd.mono (by omega)) ?_ m;intro p hp;rcases List.mem_append.mp hp with g | g
 . have:=c.fromOn p g;omega
 . have:=hr p g;omega
theorem dZ {row:List Int}{ds rs:List Pc}{a:Int}{B e:Nat}(h0:0<=a)(hd:B1 ds a)(hr:DV rs (a+2^(B+e)))(hl:a+2^(B+e)<=row.length)(m:Ao row (ds++(spl a B e++rs))) :
   a+2^B<=row.length/\Ao (AM row a (2^B) true) (ds++(⟨a,2^B,true⟩::(spl a B e++rs))):=by
 have c:=NX a e B;have hle:=c.le;have p1:=pw1 B;have hb:a+2^B<=row.length:=by omega
 refine⟨hb,Ao.lay h0 p1 hb hd ?_ m⟩;intro p hp;rcases List.mem_append.mp hp with g | g
 . have:=c.fromOn p g;omega
 . have:=hr p g;omega
def Bst (b:Int)(ps:List Pc)(z:Pc):Prop:=z∈ps/\z.v=false/\b<=z.l/\∀y∈ps,y.v=false->b<=y.l->z.l<y.l\/(z.l=y.l/\z.a<=y.a)
theorem Bst.uniq {b n:Int}{ps:List Pc}{z y:Pc}(c:Ag 0 ps n)(h:Bst b ps z)(g:Bst b ps y):z=y:=by
 have h1:=h.2.2.2 y g.1 g.2.1 g.2.2.1;have h2:=g.2.2.2 z h.1 h.2.1 h.2.2.1;exact Du c h.1 g.1 (by omega)
def bud (m q:Nat):Int:=if q%2=0 then 2^m*(q:Int)+2^m else 2^m*(q:Int)-2^m
inductive MgTo (ps:List Pc):List Pc->List Pc->Nat->Nat->List Pc->List Pc->Nat->Nat->Prop
 | stop {ds rs:List Pc} {m q:Nat} (h:(⟨bud m q,2^m,false⟩:Pc) ∉ ps):MgTo ps ds rs m q ds rs m q
 | right {ds rs:List Pc} {m q:Nat} {ds' rs':List Pc} {m' q':Nat} (hq:q%2=0) (h:(⟨bud m q,2^m,false⟩:Pc)∈ps) (k:MgTo ps ds rs (m+1) (q/2) ds' rs' m' q'):MgTo ps ds (⟨bud m q,2^m,false⟩::rs) m q ds' rs' m' q'
 | left {ds rs:List Pc} {m q:Nat} {ds' rs':List Pc} {m' q':Nat} (hq:q%2=1) (h:(⟨bud m q,2^m,false⟩:Pc)∈ps) (k:MgTo ps ds rs (m+1) (q/2) ds' rs' m' q'):MgTo ps (ds++[⟨bud m q,2^m,false⟩]) rs m q ds' rs' m' q'
structure Lie (N:Nat)(ps ds rs:List Pc)(m q:Nat):Prop where
 le:m<=N
 c1:Ag 0 ds (2^m*(q:Int))
 c2:Ag (2^m*(q:Int)+2^m) rs (2^N)
 is:∀z:Pc,(z.a+z.l<=2^m*(q:Int)\/2^m*(q:Int)+2^m<=z.a)->(z∈ps↔z∈ds\/z∈rs)
theorem Xs {m q:Nat}(hq:q%2=0):(2:Int)^(m+1)*((q/2:Nat):Int)=2^m*(q:Int):=by
 obtain⟨r,rfl⟩:∃r,q=2*r:=⟨q/2,by omega⟩
 rw[show 2*r/2=r by omega,Int.pow_succ,Int.natCast_mul,Int.mul_assoc];rfl
theorem Xt {m q:Nat}(hq:q%2=1):(2:Int)^(m+1)*((q/2:Nat):Int)=2^m*(q:Int)-2^m:=by
 obtain⟨r,rfl⟩:∃r,q=2*r+1:=⟨q/2,by omega⟩
 rw[show (2*r+1)/2=r by omega,Int.pow_succ,Int.natCast_add,Int.natCast_mul,Int.mul_add,Int.mul_assoc];simp
theorem Lie.right {N:Nat}{ps ds rs:List Pc}{m q:Nat}(L:Lie N ps ds rs m q)(hq:q%2=0)(h:(⟨bud m q,2^m,false⟩:Pc)∈ps):∃rs1,rs=⟨bud m q,2^m,false⟩::rs1/\Lie N ps ds rs1 (m+1) (q/2):=by
 have eb:bud m q=2^m*(q:Int)+2^m:=by unfold bud;rw[if_pos hq]
 have p1:=pw1 m;have p2:=pw2 m;have ea:=Xs (m:=m) hq;have hin:(⟨bud m q,2^m,false⟩:Pc)∈rs:=by
   rcases(L.is ⟨bud m q,2^m,false⟩ (.inr (by show _<=bud m q;omega))).mp h with g | g
   . have:=(L.c1.mem _ g).2.2.2;have:bud m q+2^m<=2^m*(q:Int):=this;omega
   . exact g
 cases rs with
 | nil=>cases hin
 | cons y r =>
   obtain⟨h0,h1,h3,h4⟩:=L.c2;have ey:(⟨bud m q,2^m,false⟩:Pc)=y:=Du (ps:=y::r) ⟨h0,h1,h3,h4⟩ hin List.mem_cons_self (by show bud m q=y.a;omega);subst ey;have h4:Ag (2^m*(q:Int)+2^m+2^m) r (2^N):=h4;refine⟨r,rfl,?_,by rw[ea];exact L.c1,by rw[ea,p2,show (2:Int)^m*(q:Int)+(2^m+2^m)=2^m*(q:Int)+2^m+2^m by omega];exact h4,fun z hz=>?_⟩
   . have hle:=h4.le;have hm:(2:Int)^m<2^N:=by
       have:0<=2^m*(q:Int):=Int.mul_nonneg (by omega) (by omega);omega
     exact Xg hm
   . rw[ea,p2] at hz;rw[L.is z (by omega)];constructor
     . rintro(g | g)
       . exact .inl g
       . rcases List.mem_cons.mp g with e | e
         . rw[e] at hz;have hz:bud m q+2^m<=2^m*(q:Int)\/2^m*(q:Int)+(2^m+2^m)<=bud m q:=hz;omega
         . exact .inr e
     . rintro(g | g)
       . exact .inl g
       . exact .inr (List.mem_cons_of_mem _ g)
theorem Lie.left {N:Nat}{ps ds rs:List Pc}{m q:Nat}(L:Lie N ps ds rs m q)(hq:q%2=1)(h:(⟨bud m q,2^m,false⟩:Pc)∈ps):∃ds1,ds=ds1++[⟨bud m q,2^m,false⟩]/\Lie N ps ds1 rs (m+1) (q/2):=by
 have eb:bud m q=2^m*(q:Int)-2^m:=by unfold bud;rw[if_neg (by omega)]
 have p1:=pw1 m;have p2:=pw2 m;have ea:=Xt (m:=m) hq;have hin:(⟨bud m q,2^m,false⟩:Pc)∈ds:=by
   rcases(L.is ⟨bud m q,2^m,false⟩ (.inl (by show bud m q+2^m<=_;omega))).mp h with g | g
   . exact g
   . have:=(L.c2.mem _ g).1;have:2^m*(q:Int)+2^m<=bud m q:=this;omega
 obtain⟨i,hi⟩:=List.getElem?_of_mem hin;obtain⟨d1,d2,e1,_,k1,k2⟩:=Cu L.c1 hi;have k2:Ag (bud m q+2^m) d2 (2^m*(q:Int)):=k2;have k1:Ag 0 d1 (bud m q):=k1;have e2:d2=[]:=by
   cases d2 with
   | nil=>rfl
   | cons y r =>
     have:=k2.le;rw[List.length_cons] at this;omega
 subst e2;have hN:(2:Int)^m*(q:Int)+2^m<=2^N:=by have:=L.c2.le;omega
 refine⟨d1,e1,?_,by rw[ea,<-eb];exact k1,by rw[ea,p2,show (2:Int)^m*(q:Int)-2^m+(2^m+2^m)=2^m*(q:Int)+2^m by omega];exact L.c2,fun z hz=>?_⟩
 . have hq1:(2:Int)^m<=2^m*(q:Int):=by
     have:=Int.mul_le_mul_of_nonneg_left (show (1:Int)<=(q:Int) by omega) (show (0:Int)<=2^m by omega);omega
   exact Xg (show (2:Int)^m<2^N by omega)
 . rw[ea,p2] at hz;rw[L.is z (by omega),e1];constructor
   . rintro(g | g)
     . rcases List.mem_append.mp g with e | e
       . exact .inl e
       . rw[List.mem_singleton.mp e] at hz;have hz:bud m q+2^m<=2^m*(q:Int)-2^m\/2^m*(q:Int)-2^m+(2^m+2^m)<=bud m q:=hz;omega
     . exact .inr g
   . rintro(g | g)
     . exact .inl (List.mem_append_left _ g)
     . exact .inr g
theorem MgTo.ex {N:Nat}{ps:List Pc}:∀(f:Nat) {ds rs:List Pc} {m q:Nat},N-m<=f->Lie N ps ds rs m q->∃ds' rs' m' q',MgTo ps ds rs m q ds' rs' m' q'/\Lie N ps ds' rs' m' q'
 | f,ds,rs,m,q,hf,L=>by
   by_cases h:(⟨bud m q,2^m,false⟩:Pc)∈ps
   . by_cases hq:q%2=0
     . obtain⟨rs1,e,L1⟩:=L.right hq h
       cases f with
       | zero=>have:=L1.le;omega
       | succ f =>
         obtain⟨ds',rs',m',q',k,L'⟩:=MgTo.ex f (by omega) L1
         exact⟨ds',rs',m',q',by rw[e];exact .right hq h k,L'⟩
     . obtain⟨ds1,e,L1⟩:=L.left (by omega) h
       cases f with
       | zero=>have:=L1.le;omega
       | succ f =>
         obtain⟨ds',rs',m',q',k,L'⟩:=MgTo.ex f (by omega) L1
         exact⟨ds',rs',m',q',by rw[e];exact .left (by omega) h k,L'⟩
   . exact⟨ds,rs,m,q,.stop h,L⟩
end Stow
namespace Stow
open PySem L2 PyProof.Rows
def cntF (f:Nat->Bool):Nat->Nat
 | 0=>0
 | n+1=>cntF f n+(if f n=true then 1 else 0)
theorem eE (f:Nat->Bool):∀n,cntF f n<=n
 | 0=>Nat.le_refl _
 | n+1=>by
   have:=eE f n
   unfold cntF
   split <;> omega
theorem eG {i j:Nat}(h:(2:Int)^i=2^j):i=j:=by
 rcases Nat.lt_trichotomy i j with g | g | g
 . have:=FC (show i+1<=j by omega);have:=pw2 i;have:=pw1 i;omega
 . exact g
 . have:=FC (show j+1<=i by omega);have:=pw2 j;have:=pw1 j;omega
theorem MgTo.facts {ps ds rs ds' rs':List Pc}{m q m' q':Nat}(h:MgTo ps ds rs m q ds' rs' m' q'):m<=m'/\ds.length+rs.length=ds'.length+rs'.length+(m'-m)/\(∀y,y∈ds\/y∈rs->(y∈ds'\/y∈rs')\/∃i,m<=i/\i<m'/\y.l=2^i)/\(∀y,y∈ds'\/y∈rs'->y∈ds\/y∈rs):=by
 induction h with
 | stop _=>exact⟨Nat.le_refl _,by omega,fun y hy=>.inl hy,fun y hy=>hy⟩
 | right hq hb k ih =>
   obtain⟨h1,h2,h3,h4⟩:=ih;refine⟨by omega,by rw[List.length_cons];omega,fun y hy=>?_,fun y hy=>?_⟩
   . rcases hy with g | g
     . rcases h3 y (.inl g) with e | ⟨i,e1,e2,e3⟩
       . exact .inl e
       . exact .inr ⟨i,by omega,e2,e3⟩
     . rcases List.mem_cons.mp g with e | e
       . rw[e];exact .inr ⟨_,Nat.le_refl _,by omega,rfl⟩
       . rcases h3 y (.inr e) with e | ⟨i,e1,e2,e3⟩
         . exact .inl e
         . exact .inr ⟨i,by omega,e2,e3⟩
   . rcases h4 y hy with g | g
     . exact .inl g
     . exact .inr (List.mem_cons_of_mem _ g)
 | left hq hb k ih =>
   obtain⟨h1,h2,h3,h4⟩:=ih;refine⟨by omega,by rw[List.length_append,List.length_singleton];omega,fun y hy=>?_,fun y hy=>?_⟩
   . rcases hy with g | g
     . rcases List.mem_append.mp g with e | e
       . rcases h3 y (.inl e) with e | ⟨i,e1,e2,e3⟩
         . exact .inl e
         . exact .inr ⟨i,by omega,e2,e3⟩
       . rw[List.mem_singleton.mp e];exact .inr ⟨_,Nat.le_refl _,by omega,rfl⟩
     . rcases h3 y (.inr g) with e | ⟨i,e1,e2,e3⟩
       . exact .inl e
       . exact .inr ⟨i,by omega,e2,e3⟩
   . rcases h4 y hy with g | g
     . exact .inl (List.mem_append_left _ g)
     . exact .inr g
theorem eH:∀m:Nat,m<9->∀q:Nat,q<257->Builtin.bitXor ((2:Int)^m*(q:Int)) (2^m)=bud m q:=by decide +kernel
theorem lex2 (l1 a1 l2 a2:Int):HT.lexLt [l1,a1] [l2,a2]=if l1=l2 then decide (a1<a2) else decide (l1<l2):=by
 by_cases h:l1=l2
 . rw[if_pos h];simp [HT.lexLt,h];omega
 . rw[if_neg h];simp [HT.lexLt,h]
theorem QJ {xs:List (List Int)}(h2:∀k,k<xs.length->∃l a:Int,xs.getD k []=[l,a]):∀j,j<xs.length->∀k,k<=j->HT.lexLt (xs.getD k []) (xs.getD (A3 xs j) [])=false
 | 0,h,k,hk=>by
   have:k=0:=by omega
   subst this
   obtain⟨l,a,e⟩:=h2 0 h
   show HT.lexLt (xs.getD 0 []) (xs.getD 0 [])=false
   rw[e]
   simp [HT.lexLt]
 | j+1,h,k,hk=>by
   have hm:=DZ xs j
   obtain⟨l1,a1,e1⟩:=h2 (j+1) h
   obtain⟨l2,a2,e2⟩:=h2 (A3 xs j) (by omega)
   obtain⟨l3,a3,e3⟩:=h2 k (by omega)
   unfold A3
   by_cases hl:HT.lexLt (xs.getD (j+1) []) (xs.getD (A3 xs j) [])=true
   . rw[if_pos hl]
     by_cases e:k=j+1
     . rw[e,e1]
       simp [HT.lexLt]
     . have ih:=QJ h2 j (by omega) k (by omega)
       rw[e2,e3] at ih
       rw[e1,e2] at hl
       rw[e1,e3]
       rw[lex2] at ih hl ⊢
       by_cases c1:l3=l2
       . rw[if_pos c1] at ih
         have ih:=of_decide_eq_false ih
         by_cases c2:l1=l2
         . rw[if_pos c2] at hl
           have hl:=of_decide_eq_true hl
           rw[if_pos (by omega)]
           exact decide_eq_false (by omega)
         . rw[if_neg c2] at hl
           have hl:=of_decide_eq_true hl
           rw[if_neg (by omega)]
           exact decide_eq_false (by omega)
       . rw[if_neg c1] at ih
         have ih:=of_decide_eq_false ih
         by_cases c2:l1=l2
         . rw[if_pos c2] at hl
           rw[if_neg (by omega)]
           exact decide_eq_false (by omega)
         . rw[if_neg c2] at hl
           have hl:=of_decide_eq_true hl
           rw[if_neg (by omega)]
           exact decide_eq_false (by omega)
   . rw[if_neg hl]
     by_cases e:k=j+1
     . rw[e]
       simpa using hl
     . exact QJ h2 j (by omega) k (by omega)
end Stow
namespace Stow
open PySem L2 PyProof.Rows
theorem Lie.outer {N m q:Nat}{ps ds rs:List Pc}(L:Lie N ps ds rs m q){y:Pc}(h:y∈ds\/y∈rs):y.a+y.l<=2^m*(q:Int)\/2^m*(q:Int)+2^m<=y.a:=by
 rcases h with h | h
 . exact .inl (L.c1.mem y h).2.2.2
 . exact .inr (L.c2.mem y h).1
theorem MgTo.live {ps ds rs ds' rs':List Pc}{m q m' q':Nat}(h:MgTo ps ds rs m q ds' rs' m' q'):∀y,y.v=true->y∈ds\/y∈rs->y∈ds'\/y∈rs':=by
 induction h with
 | stop _=>exact fun y _ h=>h
 | right hq hb k ih =>
   intro y hv hy;rcases hy with g | g
   . exact ih y hv (.inl g)
   . rcases List.mem_cons.mp g with e | e
     . rw[e] at hv;cases hv
     . exact ih y hv (.inr e)
 | left hq hb k ih =>
   intro y hv hy;rcases hy with g | g
   . rcases List.mem_append.mp g with e | e
     . exact ih y hv (.inl e)
     . rw[List.mem_singleton.mp e] at hv;cases hv
   . exact ih y hv (.inr g)
theorem MgTo.end {ps ds rs ds' rs':List Pc}{m q m' q':Nat}(h:MgTo ps ds rs m q ds' rs' m' q'):(⟨bud m' q',2^m',false⟩:Pc) ∉ ps:=by
 induction h with
 | stop h=>exact h
 | right _ _ _ ih=>exact ih
 | left _ _ _ ih=>exact ih
theorem eI {m q:Nat}:bud m q≠2^m*(q:Int):=by
 have:=pw1 m;unfold bud
 split <;> omega
def NbF (ps:List Pc):Prop:=∀m q:Nat,(⟨2^m*(q:Int),2^m,false⟩:Pc)∈ps->(⟨bud m q,2^m,false⟩:Pc) ∉ ps
theorem NbF.one (N:Nat):NbF [⟨0,2^N,false⟩]:=fun m q h1 h2=>by
 have e1:=Pc.mk.inj (List.mem_singleton.mp h1);have e2:=Pc.mk.inj (List.mem_singleton.mp h2);exact eI (e2.1.trans e1.1.symm)
end Stow
namespace Stow
open PySem L2 PyProof.Rows
structure Sf where
 n:Int
 b:List Bool
def slP (n:Int):Int->List Bool->List Pc
 | _,[]=>[]
 | A,v::r=>⟨A,n,v⟩::slP n (A+n) r
def shP (s A:Int)(f:Sf):List Pc:=slP f.n A f.b++fr (A+f.n*(f.b.length:Int)) (A+s)
def alP (s:Int):Int->List Sf->List Pc
 | _,[]=>[]
 | A,f::r=>shP s A f++alP s (A+s) r
def SfW (s:Int)(f:Sf):Prop:=(f.n=0/\f.b=[])\/(3<=f.n/\f.n<=s/\f.n*(f.b.length:Int)<=s/\s<f.n*(f.b.length:Int)+f.n)
def SfOk (s:Int)(f:Sf):Prop:=SfW s f/\(f.n≠0->true∈f.b)
theorem Cw (n:Int)(m:Nat):n*((m+1:Nat):Int)=n*(m:Int)+n:=by
 rw[Int.natCast_add,Int.mul_add];simp
theorem QK (n:Int):∀(b c:List Bool) (A:Int),slP n A (b++c)=slP n A b++slP n (A+n*(b.length:Int)) c
 | [],c,A=>by simp [slP]
 | v::r,c,A=>by
   have e:=Cw n r.length
   show (⟨A,n,v⟩:Pc)::slP n (A+n) (r++c)=(⟨A,n,v⟩:Pc)::(slP n (A+n) r++slP n (A+n*((r.length+1:Nat):Int)) c)
   rw[QK n r c (A+n),e,show A+n+n*(r.length:Int)=A+(n*(r.length:Int)+n) by omega]
theorem Xu {n:Int}(h:3<=n):∀(b:List Bool) (A:Int),Ag A (slP n A b) (A+n*(b.length:Int))
 | [],A=>by show A=_;simp
 | v::r,A=>by
   have e:=Cw n r.length
   refine⟨rfl,by show 1<=n;omega,fun _=>h,?_⟩
   have:=Xu h r (A+n)
   rw[show A+n+n*(r.length:Int)=A+n*((r.length+1:Nat):Int) by omega] at this
   exact this
theorem NY {s A:Int}{f:Sf}(h1:1<=s)(w:SfW s f):Ag A (shP s A f) (A+s):=by
 rcases w with ⟨e1,e2⟩ | ⟨h3,_,h4,_⟩
 . unfold shP;rw[e1,e2];show Ag A (fr (A+0*((0:Nat):Int)) (A+s)) (A+s);rw[Int.zero_mul,Int.add_zero];exact Ia (by omega)
 . exact(Xu h3 f.b A).app (Ia (by omega))
theorem Ed {s:Int}(h1:1<=s):∀(fs:List Sf) (A:Int),(∀f∈fs,SfW s f)->Ag A (alP s A fs) (A+s*(fs.length:Int))
 | [],A,_=>by show A=_;simp
 | f::r,A,w=>by
   have e:=Cw s r.length
   have:=Ed h1 r (A+s) fun g hg=>w g (List.mem_cons_of_mem _ hg)
   rw[show A+s+s*(r.length:Int)=A+s*((r.length+1:Nat):Int) by omega] at this
   exact(NY h1 (w f List.mem_cons_self)).app this
theorem NZ (s:Int):∀(b c:List Sf) (A:Int),alP s A (b++c)=alP s A b++alP s (A+s*(b.length:Int)) c
 | [],c,A=>by simp [alP]
 | f::r,c,A=>by
   have e:=Cw s r.length
   show shP s A f++alP s (A+s) (r++c)=(shP s A f++alP s (A+s) r)++alP s (A+s*((r.length+1:Nat):Int)) c
   rw[NZ s r c (A+s),e,show A+s+s*(r.length:Int)=A+(s*(r.length:Int)+s) by omega,List.append_assoc]
theorem Jw {α:Type}{xs:List α}{j:Nat}{x:α}(h:xs[j]?=some x):xs=xs.take j++x::xs.drop (j+1)/\(xs.take j).length=j/\∀y,xs.set j y=xs.take j++y::xs.drop (j+1):=by
 obtain⟨hj,hx⟩:=List.getElem?_eq_some_iff.mp h;have e:xs=xs.take j++x::xs.drop (j+1):=by
   rw[<-hx,<-List.drop_eq_getElem_cons hj,List.take_append_drop]
 have l:(xs.take j).length=j:=by rw[List.length_take];omega
 refine⟨e,l,fun y=>?_⟩;have:(xs.take j++x::xs.drop (j+1)).set j y=xs.take j++y::xs.drop (j+1):=by
   rw[List.set_append_right _ _ (by omega),l,Nat.sub_self,List.set_cons_zero]
 rw[<-e] at this;exact this
theorem Ig {α:Type}{xs:List α}{j:Nat}{x:α}(h:xs[j]?=some x):xs.set j x=xs:=by
 obtain⟨e,_,g⟩:=Jw h;rw[g x];exact e.symm
theorem Ih {s:Int}{fs:List Sf}{j:Nat}{f:Sf}(h1:1<=s)(w:∀f∈fs,SfW s f)(h:fs[j]?=some f):∃ds rs,(∀g,alP s 0 (fs.set j g)=ds++(shP s (s*(j:Int)) g++rs))/\Ag 0 ds (s*(j:Int))/\Ag (s*(j:Int)+s) rs (s*(fs.length:Int)):=by
 obtain⟨e,l,g⟩:=Jw h;have hj:j<fs.length:=(List.getElem?_eq_some_iff.mp h).1;refine⟨alP s 0 (fs.take j),alP s (s*(j:Int)+s) (fs.drop (j+1)),fun y=>?_,?_,?_⟩
 . rw[g y,NZ,l,Int.zero_add];rfl
 . have:=Ed h1 (fs.take j) 0 fun f hf=>w f (List.mem_of_mem_take hf);rw[l,Int.zero_add] at this;exact this
 . have:=Ed h1 (fs.drop (j+1)) (s*(j:Int)+s) fun f hf=>w f (List.mem_of_mem_drop hf);rw[List.length_drop] at this;have e2:s*(j:Int)+s+s*((fs.length-(j+1):Nat):Int)=s*(fs.length:Int):=by
     rw[<-Cw,<-Int.mul_add,<-Int.natCast_add,show j+1+(fs.length-(j+1))=fs.length by omega]
   rw[e2] at this;exact this
theorem Jx {s:Int}{fs:List Sf}{j:Nat}{f:Sf}(h:fs[j]?=some f):alP s 0 (fs.set j f)=alP s 0 fs:=by rw[Ig h]
theorem N1 {n A:Int}{b:List Bool}{i:Nat}{v0:Bool}(h:b[i]?=some v0):∃ds rs,∀v,slP n A (b.set i v)=ds++⟨A+n*(i:Int),n,v⟩::rs:=by
 obtain⟨_,l,g⟩:=Jw h;refine⟨slP n A (b.take i),slP n (A+n*(i:Int)+n) (b.drop (i+1)),fun v=>?_⟩;rw[g v,QK,l];rfl
theorem eJ {s:Int}{fs:List Sf}{j i:Nat}{n:Int}{b:List Bool}{v0:Bool}(h1:1<=s)(w:∀f∈fs,SfW s f)(h:fs[j]?=some ⟨n,b⟩)(hb:b[i]?=some v0):∃ds rs,∀v,alP s 0 (fs.set j ⟨n,b.set i v⟩)=ds++⟨s*(j:Int)+n*(i:Int),n,v⟩::rs:=by
 obtain⟨ds,rs,e,_,_⟩:=Ih h1 w h;obtain⟨d2,r2,e2⟩:=N1 (n:=n) (A:=s*(j:Int)) hb;refine⟨ds++d2,r2++fr (s*(j:Int)+n*(b.length:Int)) (s*(j:Int)+s)++rs,fun v=>?_⟩;rw[e ⟨n,b.set i v⟩];unfold shP;show ds++((slP n (s*(j:Int)) (b.set i v)++fr (s*(j:Int)+n*((b.set i v).length:Int)) (s*(j:Int)+s))++rs)=_;rw[e2 v,List.length_set];simp [List.append_assoc]
theorem QL {s:Int}{fs:List Sf}{j i:Nat}{n:Int}{b:List Bool}{v0:Bool}(h:fs[j]?=some ⟨n,b⟩)(hb:b[i]?=some v0):alP s 0 (fs.set j ⟨n,b.set i v0⟩)=alP s 0 fs:=by rw[Ig hb,Ig h]
theorem W_set {s:Int}{fs:List Sf}{j:Nat}{g:Sf}(w:∀f∈fs,SfW s f)(hg:SfW s g):∀f∈fs.set j g,SfW s f:=fun f hf=>by
 rcases List.mem_or_eq_of_mem_set hf with h | h
 . exact w f h
 . rw[h];exact hg
theorem N2 {s:Int}{n:Int}{b:List Bool}{i:Nat}{v:Bool}(w:SfW s ⟨n,b⟩)(hb:i<b.length):SfW s ⟨n,b.set i v⟩:=by
 rcases w with ⟨e1,e2⟩ | h
 . have e2:b=[]:=e2;rw[e2] at hb;exact absurd hb (Nat.not_lt_zero _)
 . right;show 3<=n/\n<=s/\n*((b.set i v).length:Int)<=s/\s<n*((b.set i v).length:Int)+n;rw[List.length_set];exact h
theorem Xv {s:Int}{fs:List Sf}{cs:List Int}{j i:Nat}{n:Int}{b:List Bool}{v0 v:Bool}(h1:1<=s)(w:∀f∈fs,SfW s f)(h:fs[j]?=some ⟨n,b⟩)(hb:b[i]?=some v0)(hl:(cs.length:Int)=s*(fs.length:Int))(m:Ao cs (alP s 0 fs)) :
   0<=s*(j:Int)+n*(i:Int)/\3<=n/\s*(j:Int)+n*(i:Int)+n<=cs.length/\(⟨s*(j:Int)+n*(i:Int),n,v0⟩:Pc)∈alP s 0 fs/\Ao (AM cs (s*(j:Int)+n*(i:Int)) n v) (alP s 0 (fs.set j ⟨n,b.set i v⟩)):=by
 obtain⟨ds,rs,e⟩:=eJ h1 w h hb;have c:=Ed h1 fs 0 w;rw[Int.zero_add,<-hl,<-QL h hb,e v0] at c;rw[<-QL h hb,e v0] at m;have hib:i<b.length:=(List.getElem?_eq_some_iff.mp hb).1;have n3:3<=n:=by
   rcases w _ (List.mem_of_getElem? h) with ⟨_,e2⟩ | g
   . have e2:b=[]:=e2;rw[e2] at hib;exact absurd hib (Nat.not_lt_zero _)
   . exact g.1
 have hm:=c.mem ⟨s*(j:Int)+n*(i:Int),n,v0⟩ (List.mem_append_right _ List.mem_cons_self);obtain⟨k,c1,c2⟩:=NS c;obtain⟨ea,_,_,c3⟩:=c2;have ea:s*(j:Int)+n*(i:Int)=k:=ea;have c3:Ag (k+n) rs cs.length:=c3;refine⟨hm.1,n3,hm.2.2.2,?_,?_⟩
 . rw[<-QL h hb,e v0];exact List.mem_append_right _ List.mem_cons_self
 rw[e v,ea];refine Ao.lay (by omega) (by omega) (by have:=hm.2.2.2;show k+n<=cs.length;rw[<-ea];exact this) (c1.endBy (Int.le_refl 0)) c3.fromOn (m.sub fun p hp=>?_);rcases List.mem_append.mp hp with g | g
 . exact List.mem_append_left _ g
 . exact List.mem_append_right _ (List.mem_cons_of_mem _ g)
theorem Jy {s A:Int}(h1:1<=s):shP s A ⟨0,[]⟩=[⟨A,s,false⟩]:=by
 unfold shP;show []++fr (A+0*((0:Nat):Int)) (A+s)=_;rw[Int.zero_mul,Int.add_zero,List.nil_append];unfold fr;rw[if_neg (by omega),show A+s-A=s by omega]
theorem Xw {s:Int}{fs:List Sf}{cs:List Int}{j:Nat}{f:Sf}(h1:1<=s)(w:∀f∈fs,SfW s f)(h:fs[j]?=some f)(hl:(cs.length:Int)=s*(fs.length:Int))(m:Ao cs (alP s 0 fs)) :
   0<=s*(j:Int)/\s*(j:Int)+s<=cs.length/\Ao (AM cs (s*(j:Int)) s false) (alP s 0 (fs.set j ⟨0,[]⟩)):=by
 obtain⟨ds,rs,e,c1,c2⟩:=Ih h1 w h;have l1:=c1.le;have l2:=c2.le;rw[<-Jx h,e f] at m;refine⟨by omega,by omega,?_⟩;rw[e,Jy h1];exact Ao.lay (by omega) h1 (by omega) (c1.endBy (Int.le_refl 0)) c2.fromOn (m.sub fun p hp=>by
   rcases List.mem_append.mp hp with g | g
   . exact List.mem_append_left _ g
   . exact List.mem_append_right _ (List.mem_append_right _ g))
def ctP (A e k:Int)(i:Nat):List Pc:=(List.range i).map fun j:Nat=>⟨A+k*(j:Int),min k (e-(A+k*(j:Int))),false⟩
theorem N3 (A e k:Int)(i:Nat):ctP A e k (i+1)=ctP A e k i++[⟨A+k*(i:Int),min k (e-(A+k*(i:Int))),false⟩]:=by
 unfold ctP;rw[List.range_succ,List.map_append];rfl
theorem eK (k A:Int)(i:Nat):slP k A (List.replicate (i+1) false)=slP k A (List.replicate i false)++[⟨A+k*(i:Int),k,false⟩]:=by
 rw[List.replicate_succ',QK,List.length_replicate];rfl
theorem QM {A s k:Int}(h1:1<=k):∀i:Nat,k*(i:Int)<=s->ctP A (A+s) k i=slP k A (List.replicate i false)
 | 0,_=>rfl
 | i+1,h=>by
   rw[Cw] at h
   rw[N3,eK,QM h1 i (by omega),show min k (A+s-(A+k*(i:Int)))=k by omega]
theorem eO {A s k:Int}{n q:Nat}(h1:1<=k)(hq1:k*(q:Int)<=s)(hq2:s<k*(q:Int)+k)(hn:n=q+(if k*(q:Int)=s then 0 else 1)):ctP A (A+s) k n=shP s A ⟨k,List.replicate q false⟩:=by
 unfold shP;show _=slP k A (List.replicate q false)++fr (A+k*((List.replicate q false).length:Int)) (A+s);rw[List.length_replicate];unfold fr;by_cases e:k*(q:Int)=s
 . rw[if_pos e,Nat.add_zero] at hn;rw[hn,QM h1 q hq1,if_pos (by omega),List.append_nil]
 . rw[if_neg e] at hn;rw[hn,N3,QM h1 q hq1,if_neg (by omega),show min k (A+s-(A+k*(q:Int)))=A+s-(A+k*(q:Int)) by omega]
theorem Xx {A e k:Int}(h0:0<=A)(h1:1<=k):∀i:Nat,(∀j:Nat,j<i->A+k*(j:Int)<e)->B1 (ctP A e k i) (A+k*(i:Int))
 | 0,_=>fun p hp=>by cases hp
 | i+1,h=>fun p hp=>by
   rw[N3] at hp
   have e1:=Cw k i
   have k0:0<=k*(i:Int):=Int.mul_nonneg (by omega) (by omega)
   rcases List.mem_append.mp hp with g | g
   . have:=Xx h0 h1 i (fun j hj=>h j (by omega)) p g
     omega
   . rw[List.mem_singleton.mp g]
     have:=h i (by omega)
     show 0<=A+k*(i:Int)/\1<=min k (e-(A+k*(i:Int)))/\A+k*(i:Int)+min k (e-(A+k*(i:Int)))<=A+k*((i+1:Nat):Int)
     omega
theorem eP {cs:List Int}{ds rs:List Pc}{A e k:Int}{i:Nat}(h0:0<=A)(h1:1<=k)(hd:B1 ds A)(hr:DV rs e)(hl:e<=cs.length)(hi:∀j:Nat,j<i+1->A+k*(j:Int)<e)(m:Ao cs (ds++ctP A e k i++rs)) :
   0<=A+k*(i:Int)/\1<=min k (e-(A+k*(i:Int)))/\A+k*(i:Int)+min k (e-(A+k*(i:Int)))<=cs.length/\Ao (AM cs (A+k*(i:Int)) (min k (e-(A+k*(i:Int)))) false) (ds++ctP A e k (i+1)++rs):=by
 have k0:0<=k*(i:Int):=Int.mul_nonneg (by omega) (by omega);have hii:=hi i (by omega);refine⟨by omega,by omega,by omega,?_⟩;rw[N3,<-List.append_assoc,List.append_assoc _ [_] rs];exact Ao.lay (by omega) (by omega) (by omega) ((hd.mono (by omega)).app (Xx h0 h1 i fun j hj=>hi j (by omega))) (fun p hp=>by have:=hr p hp;omega) m
end Stow
namespace Stow
open PySem L2 PyProof.Rows
def fitF (ps:List Pc)(k:Int):List Int:=(ps.filter fun z=>!z.v&&decide (z.l=k)).map (·.a)
def Cp (cs:List Int)(ps:List Pc)(k s:Int):List Int:=(fitF ps k).filter fun a=>decide (cs.getD (a-a%s).toNat 0/2=k)
theorem Jz (p q:List Pc)(k:Int):fitF (p++q) k=fitF p k++fitF q k:=by unfold fitF;rw[List.filter_append,List.map_append]
theorem QN (cs:List Int)(p q:List Pc)(k s:Int):Cp cs (p++q) k s=Cp cs p k s++Cp cs q k s:=by unfold Cp;rw[Jz,List.filter_append]
theorem Xy {ps:List Pc}{k:Int}{i:Nat}(h:i<ps.length):fitF (ps.take (i+1)) k=fitF (ps.take i) k++(if (!ps[i].v&&decide (ps[i].l=k))=true then [ps[i].a] else []):=by
 unfold fitF;rw[List.take_add_one,List.getElem?_eq_getElem h,List.filter_append,List.map_append]
 congr 1
 simp only [Option.toList_some,List.filter_cons,List.filter_nil]
 split <;> rfl
theorem QO {ps:List Pc}{k a:Int}(h:a∈fitF ps k):∃z∈ps,z.v=false/\z.l=k/\z.a=a:=by
 unfold fitF at h;obtain⟨z,hz,e⟩:=List.mem_map.mp h;obtain⟨h1,h2⟩:=List.mem_filter.mp hz;obtain⟨h3,h4⟩:=Bool.and_eq_true_iff.mp h2;exact⟨z,h1,by simpa using h3,of_decide_eq_true h4,e⟩
theorem Xz {ps:List Pc}{k:Int}(h:∀z∈ps,z.v=false->z.l≠k):fitF ps k=[]:=by
 cases e:fitF ps k with
 | nil=>rfl
 | cons a r =>
   obtain⟨z,h1,h2,h3,_⟩:=QO (show a∈fitF ps k by rw[e];exact List.mem_cons_self);exact absurd h3 (h z h1 h2)
theorem eU {ps:List Pc}{k e:Int}{a:Int}(c:Ag 0 ps e)(h:a∈fitF ps k):0<=a/\a<e:=by
 obtain⟨z,hz,_,_,rfl⟩:=QO h;obtain⟨h1,h2,_,h3⟩:=c.mem z hz;omega
theorem eV {a s:Int}(h:0<=a)(hs:1<=s):0<=a-a%s/\a-a%s<=a:=by
 have h1:=Int.emod_nonneg a (show s≠0 by omega);have h2:=Int.mul_ediv_add_emod a s;have h3:0<=s*(a/s):=Int.mul_nonneg (by omega) (Int.ediv_nonneg h (by omega));omega
theorem QP {a s:Int}{j:Nat}(h1:s*(j:Int)<=a)(h2:a<s*(j:Int)+s):a-a%s=s*(j:Int)/\a/s=(j:Int)/\a%s=a-s*(j:Int):=by
 have hs:0<s:=by omega
 have e:a%s=a-s*(j:Int):=by
   have:=Int.add_mul_emod_self_left (a-s*(j:Int)) s (j:Int);rw[Int.sub_add_cancel] at this;rw[this];exact Int.emod_eq_of_lt (by omega) (by omega)
 refine⟨by omega,?_,e⟩;have h3:=Int.mul_ediv_add_emod a s;rw[e] at h3;have h4:s*(a/s)=s*(j:Int):=by omega
 exact Int.eq_of_mul_eq_mul_left (by omega) h4
theorem QQ {n:Int}:∀{b:List Bool} {A:Int} {z:Pc},z∈slP n A b->z.l=n/\z.v∈b
 | v::r,A,z,h=>by
   rcases List.mem_cons.mp h with e | g
   . rw[e]
     exact⟨rfl,List.mem_cons_self⟩
   . obtain⟨h1,h2⟩:=QQ g
     exact⟨h1,List.mem_cons_of_mem _ h2⟩
theorem N4 {b e:Int}{z:Pc}(h:z∈fr b e):z.a=b/\z.l=e-b/\z.v=false:=by
 unfold fr at h
 split at h
 . cases h
 . rw[List.mem_singleton.mp h];exact⟨rfl,rfl,rfl⟩
def flS (s:Int)(f:Sf):Int:=if f.n=0 then s else f.n
theorem eW {s A:Int}{f:Sf}(h1:1<=s)(w:SfW s f):∃v r,shP s A f=⟨A,flS s f,v⟩::r:=by
 rcases w with ⟨e1,e2⟩ | ⟨h3,hn,h4,h5⟩
 . obtain⟨n,b⟩:=f;have e1:n=0:=e1;have e2:b=[]:=e2;subst e1 e2;exact⟨false,[],by rw[Jy h1];rfl⟩
 . obtain⟨n,b⟩:=f;cases b with
   | nil =>
     have h5:s<n*((0:Nat):Int)+n:=h5;have hn:n<=s:=hn;simp at h5;omega
   | cons v r =>
     have h3:3<=n:=h3;refine⟨v,slP n (A+n) r++fr (A+n*(((v::r).length:Nat):Int)) (A+s),?_⟩;unfold flS;rw[if_neg (show n≠0 by omega)];rfl
theorem XA {s k:Int}{f:Sf}{cs:List Int}{j:Nat}(h1:1<=s)(w:SfW s f)(m:Ao cs (shP s (s*(j:Int)) f)):Cp cs (shP s (s*(j:Int)) f) k s=if flS s f=k then fitF (shP s (s*(j:Int)) f) k else []:=by
 obtain⟨v,r,e⟩:=eW (A:=s*(j:Int)) h1 w;have hm:cs[(s*(j:Int)).toNat]?=some (mkOf (flS s f) v):=(m ⟨s*(j:Int),flS s f,v⟩ (by rw[e];exact List.mem_cons_self)).1;have c:=NY (A:=s*(j:Int)) h1 w;have hd:∀a∈fitF (shP s (s*(j:Int)) f) k,cs.getD (a-a%s).toNat 0/2=flS s f:=fun a ha=>by
   obtain⟨z,hz,_,_,rfl⟩:=QO ha;obtain⟨c1,c2,_,c3⟩:=c.mem z hz;rw[(QP c1 (by omega)).1,Jj hm];exact HU _ _
 unfold Cp;by_cases g:flS s f=k
 . rw[if_pos g];exact List.filter_eq_self.mpr fun a ha=>decide_eq_true (by rw[hd a ha];exact g)
 . rw[if_neg g];exact List.filter_eq_nil_iff.mpr fun a ha h=>g (by rw[<-hd a ha];exact of_decide_eq_true h)
theorem eX {s k:Int}{f:Sf}{cs:List Int}{j:Nat}(h1:1<=s)(w:SfW s f)(m:Ao cs (shP s (s*(j:Int)) f))(hk:¬(f.n=k/\false∈f.b))(h0:¬(k=s/\f.n=0))(k1:1<=k):Cp cs (shP s (s*(j:Int)) f) k s=[]:=by
 rw[XA h1 w m]
 split
 . rename_i g;refine Xz fun z hz hv hl=>?_;unfold flS at g;rcases w with ⟨e1,e2⟩ | ⟨h3,_,h4,h5⟩
   . rw[if_pos e1] at g;exact h0 ⟨g.symm,e1⟩
   . rw[if_neg (by omega)] at g;unfold shP at hz;rcases List.mem_append.mp hz with q | q
     . obtain⟨_,q2⟩:=QQ q;rw[hv] at q2;exact hk ⟨g,q2⟩
     . obtain⟨_,q2,_⟩:=N4 q;omega
 . rfl
theorem QR {s k:Int}{cs:List Int}(h1:1<=s)(k1:1<=k):∀{fs:List Sf} {j:Nat},(∀f∈fs,SfW s f)->Ao cs (alP s (s*(j:Int)) fs)->(∀f∈fs,¬(f.n=k/\false∈f.b)/\¬(k=s/\f.n=0))->Cp cs (alP s (s*(j:Int)) fs) k s=[]
 | [],_,_,_,_=>rfl
 | f::r,j,w,m,h=>by
   have m:Ao cs (shP s (s*(j:Int)) f++alP s (s*(j:Int)+s) r):=m
   show Cp cs (shP s (s*(j:Int)) f++alP s (s*(j:Int)+s) r) k s=[]
   obtain⟨g1,g2⟩:=h f List.mem_cons_self
   rw[QN,eX h1 (w f List.mem_cons_self) (m.sub fun p hp=>List.mem_append_left _ hp) g1 g2 k1,<-Cw,List.nil_append]
   exact QR h1 k1 (fun g hg=>w g (List.mem_cons_of_mem _ hg)) (by rw[Cw];exact m.sub fun p hp=>List.mem_append_right _ hp) fun g hg=>h g (List.mem_cons_of_mem _ hg)
theorem XB {k:Int}:∀{b:List Bool} {A:Int} {i:Nat},b[i]?=some false->(∀i':Nat,i'<i->b[i']?≠some false)->∃r,fitF (slP k A b) k=(A+k*(i:Int))::r
 | v::r,A,0,h,_=>by
   have e:v=false:=Option.some.inj h
   subst e
   refine⟨fitF (slP k (A+k) r) k,?_⟩
   show ((⟨A,k,false⟩::slP k (A+k) r).filter fun z=>!z.v&&decide (z.l=k)).map (·.a)=_
   rw[List.filter_cons,if_pos (by simp)]
   simp [fitF]
 | v::r,A,i+1,h,g=>by
   have e:v=true:=by
     cases v with
     | true=>rfl
     | false=>exact absurd rfl (g 0 (Nat.succ_pos _))
   subst e;obtain⟨q,hq⟩:=XB (k:=k) (b:=r) (A:=A+k) (i:=i) h fun i' hi=>g (i'+1) (by omega);refine⟨q,?_⟩;show ((⟨A,k,true⟩::slP k (A+k) r).filter fun z=>!z.v&&decide (z.l=k)).map (·.a)=_;rw[List.filter_cons,if_neg (by simp)];rw[Cw,show A+(k*(i:Int)+k)=A+k+k*(i:Int) by omega];exact hq
theorem eY {s k:Int}{cs:List Int}{fs:List Sf}{j i:Nat}{b:List Bool}(h1:1<=s)(k3:3<=k)(w:∀f∈fs,SfW s f)(m:Ao cs (alP s 0 fs))(h:fs[j]?=some ⟨k,b⟩)(hb:b[i]?=some false)(hi:∀i':Nat,i'<i->b[i']?≠some false)
   (hj:∀(j':Nat) (f:Sf),j'<j->fs[j']?=some f->¬(f.n=k/\false∈f.b)/\¬(k=s/\f.n=0)):∃r,Cp cs (alP s 0 fs) k s=(s*(j:Int)+k*(i:Int))::r:=by
 obtain⟨e,l,_⟩:=Jw h;have wj:=w _ (List.mem_of_getElem? h);have ea:alP s 0 fs=alP s 0 (fs.take j)++(shP s (s*(j:Int)) ⟨k,b⟩++alP s (s*(j:Int)+s) (fs.drop (j+1))):=by
   have:=congrArg (alP s 0) e;rw[NZ,l,Int.zero_add] at this;exact this
 rw[ea] at m ⊢;have n1:Cp cs (alP s 0 (fs.take j)) k s=[]:=by
   have:=QR (cs:=cs) (j:=0) h1 (by omega) (fs:=fs.take j) (k:=k) (fun f hf=>w f (List.mem_of_mem_take hf)) (by rw[show s*((0:Nat):Int)=0 by simp];exact m.sub fun p hp=>List.mem_append_left _ hp) fun f hf=>by
     obtain⟨j',hj'⟩:=List.getElem?_of_mem hf;have hl:j'<j:=by
       have:=(List.getElem?_eq_some_iff.mp hj').1;omega
     rw[List.getElem?_take_of_lt hl] at hj';exact hj j' f hl hj'
   rw[show s*((0:Nat):Int)=0 by simp] at this;exact this
 obtain⟨r,hr⟩:=XB (k:=k) (A:=s*(j:Int)) hb hi;rw[QN,n1,QN,XA h1 wj (m.sub fun p hp=>List.mem_append_right _ (List.mem_append_left _ hp)),if_pos (show flS s ⟨k,b⟩=k by unfold flS;rw[if_neg (show k≠0 by omega)])];refine⟨r++fitF (fr (s*(j:Int)+k*(b.length:Int)) (s*(j:Int)+s)) k++Cp cs (alP s (s*(j:Int)+s) (fs.drop (j+1))) k s,?_⟩;unfold shP;rw[Jz];show []++((fitF (slP k (s*(j:Int)) b) k++fitF (fr (s*(j:Int)+k*(b.length:Int)) (s*(j:Int)+s)) k)++_)=_;rw[hr];simp [List.append_assoc]
theorem QS {s A:Int}{f:Sf}(h1:1<=s)(o:SfOk s f):fitF (shP s A f) s=if f.n=0 then [A] else []:=by
 obtain⟨w,t⟩:=o;rcases w with ⟨e1,e2⟩ | ⟨h3,hn,h4,h5⟩
 . obtain⟨n,b⟩:=f;have e1:n=0:=e1;have e2:b=[]:=e2;subst e1 e2;rw[Jy h1,if_pos rfl];unfold fitF;rw[List.filter_cons,if_pos (by simp)];rfl
 . have h0:f.n≠0:=by omega
   rw[if_neg h0];refine Xz fun z hz hv hl=>?_;unfold shP at hz;have tt:=t h0;have hlen:1<=f.b.length:=by
     rcases hb:f.b with _ | ⟨v,r⟩
     . rw[hb] at tt;cases tt
     . simp
   rcases List.mem_append.mp hz with q | q
   . obtain⟨q1,q2⟩:=QQ q;have hns:f.n=s:=by omega
     rw[hns] at h4;have hl1:f.b.length<=1:=by
       refine Nat.le_of_not_lt fun h=>?_;have:s*(2:Int)<=s*(f.b.length:Int):=Int.mul_le_mul_of_nonneg_left (by omega) (by omega);omega
     rcases hb:f.b with _ | ⟨v,r⟩
     . rw[hb] at tt;cases tt
     . rw[hb,List.length_cons] at hl1;have hr:r=[]:=List.length_eq_zero_iff.mp (by omega);rw[hb,hr] at tt q2;have e1:=List.mem_singleton.mp tt;have e2:=List.mem_singleton.mp q2;rw[hv,<-e1] at e2;cases e2
   . obtain⟨_,q2,_⟩:=N4 q;have:f.n*(1:Int)<=f.n*(f.b.length:Int):=Int.mul_le_mul_of_nonneg_left (by omega) (by omega);omega
theorem QT {s:Int}(h1:1<=s):∀{fs:List Sf} {A:Int},(∀f∈fs,SfOk s f)->(∀f∈fs,f.n≠0)->fitF (alP s A fs) s=[]
 | [],_,_,_=>rfl
 | f::r,A,o,h=>by
   show fitF (shP s A f++alP s (A+s) r) s=[]
   rw[Jz,QS h1 (o f List.mem_cons_self),if_neg (h f List.mem_cons_self),List.nil_append]
   exact QT h1 (fun g hg=>o g (List.mem_cons_of_mem _ hg)) fun g hg=>h g (List.mem_cons_of_mem _ hg)
theorem eZ {s:Int}{fs:List Sf}{j:Nat}{f:Sf}(h1:1<=s)(o:∀f∈fs,SfOk s f)(h:fs[j]?=some f)(h0:f.n=0)(hj:∀(j':Nat) (f:Sf),j'<j->fs[j']?=some f->f.n≠0):∃r,fitF (alP s 0 fs) s=(s*(j:Int))::r:=by
 obtain⟨e,l,_⟩:=Jw h;have ea:alP s 0 fs=alP s 0 (fs.take j)++(shP s (s*(j:Int)) f++alP s (s*(j:Int)+s) (fs.drop (j+1))):=by
   have:=congrArg (alP s 0) e;rw[NZ,l,Int.zero_add] at this;exact this
 have n1:fitF (alP s 0 (fs.take j)) s=[]:=QT h1 (fun f hf=>o f (List.mem_of_mem_take hf)) fun f hf=>by
   obtain⟨j',hj'⟩:=List.getElem?_of_mem hf;have hl:j'<j:=by
     have:=(List.getElem?_eq_some_iff.mp hj').1;omega
   rw[List.getElem?_take_of_lt hl] at hj';exact hj j' f hl hj'
 rw[ea,Jz,n1,Jz,QS h1 (o f (List.mem_of_getElem? h)),if_pos h0];exact⟨_,rfl⟩
def NoGr (s k:Int)(fs:List Sf):Prop:=(∀f∈fs,¬(f.n=k/\false∈f.b))/\(s<k\/∀f∈fs,f.n≠0)
def Gs (s k:Int)(fs:List Sf)(j i:Nat)(b:List Bool)(fs1:List Sf):Prop :=
 fs1[j]?=some ⟨k,b⟩/\b[i]?=some false/\(∀i':Nat,i'<i->b[i']?≠some false)/\(∀(j':Nat) (f:Sf),j'<j->fs[j']?=some f->¬(f.n=k/\false∈f.b)) /\
 (fs1=fs\/((∀f∈fs,¬(f.n=k/\false∈f.b))/\k<=s/\i=0/\b=List.replicate (s/k).toNat false/\(∃f,fs[j]?=some f/\f.n=0)/\(∀(j':Nat) (f:Sf),j'<j->fs[j']?=some f->f.n≠0)/\fs1=fs.set j ⟨k,b⟩))
theorem QU {s k:Int}(h1:1<=k)(h2:k<=s):k*((s/k).toNat:Int)<=s/\s<k*((s/k).toNat:Int)+k/\1<=(s/k).toNat:=by
 have a1:=Int.mul_ediv_add_emod s k;have a2:=Int.emod_nonneg s (show k≠0 by omega);have a3:=Int.emod_lt_of_pos s (show 0<k by omega);have a4:1<=s/k:=Int.le_ediv_of_mul_le (by omega) (by omega);have a5:((s/k).toNat:Int)=s/k:=Int.toNat_of_nonneg (by omega);rw[a5];omega
theorem fA {s k:Int}{f:Sf}(h1:1<=s)(o:SfOk s f)(hk:f.n=k)(ks:k=s):false ∉ f.b:=fun hf=>by
 have h:=QS (A:=0) h1 o;obtain⟨w,t⟩:=o;rcases w with ⟨e1,e2⟩ | ⟨h3,hn,h4,h5⟩
 . rw[e2] at hf;cases hf
 . rw[if_neg (by omega)] at h;obtain⟨i,hi⟩:=List.getElem?_of_mem hf;have hm:(⟨0+f.n*(i:Int),f.n,false⟩:Pc)∈slP f.n 0 f.b:=by
     obtain⟨ds,rs,e⟩:=N1 (n:=f.n) (A:=0) hi;have:=e false;rw[Ig hi] at this;rw[this];exact List.mem_append_right _ List.mem_cons_self
   have:(0+f.n*(i:Int))∈fitF (shP s 0 f) s:=by
     unfold fitF shP;exact List.mem_map.mpr ⟨_,List.mem_filter.mpr ⟨List.mem_append_left _ hm,by simp;omega⟩,rfl⟩
   rw[h] at this;cases this
theorem Gs.W {s k:Int}{fs fs1:List Sf}{j i:Nat}{b:List Bool}(g:Gs s k fs j i b fs1)(k3:3<=k)(o:∀f∈fs,SfOk s f):∀f∈fs1,SfW s f:=by
 obtain⟨_,_,_,_,e | ⟨_,ks,_,eb,_,_,e⟩⟩:=g
 . rw[e];exact fun f hf=>(o f hf).1
 . rw[e];obtain⟨d1,d2,_⟩:=QU (show 1<=k by omega) ks;refine W_set (fun f hf=>(o f hf).1) (.inr ⟨k3,ks,?_,?_⟩)
   . show k*(b.length:Int)<=s;rw[eb,List.length_replicate];exact d1
   . show s<k*(b.length:Int)+k;rw[eb,List.length_replicate];exact d2
theorem Gs.slot {s k:Int}{fs fs1:List Sf}{cs:List Int}{j i:Nat}{b:List Bool}(g:Gs s k fs j i b fs1)(h1:1<=s)(k3:3<=k)(o:∀f∈fs,SfOk s f)(m:Ao cs (alP s 0 fs1)):∃r,Cp cs (alP s 0 fs1) k s=(s*(j:Int)+k*(i:Int))::r:=by
 have w:=g.W k3 o;obtain⟨g1,g2,g3,g4,g5⟩:=g;refine eY h1 k3 w m g1 g2 g3 fun j' f hj' hf=>?_;rcases g5 with e | ⟨g6,ks,_,eb,_,g7,e⟩
 . rw[e] at hf;refine⟨g4 j' f hj' hf,fun h=>?_⟩;rw[e] at g1;exact fA h1 (o _ (List.mem_of_getElem? g1)) rfl h.1 (List.mem_of_getElem? g2)
 . rw[e,List.getElem?_set_ne (by omega)] at hf;exact⟨g4 j' f hj' hf,fun h=>g7 j' f hj' hf h.2⟩
theorem Gs.ok {s k:Int}{fs fs1:List Sf}{j i:Nat}{b:List Bool}(g:Gs s k fs j i b fs1)(k3:3<=k)(o:∀f∈fs,SfOk s f):∀f∈fs1.set j ⟨k,b.set i true⟩,SfOk s f:=fun f hf=>by
 have w:=g.W k3 o;have hib:i<b.length:=(List.getElem?_eq_some_iff.mp g.2.1).1;rcases List.mem_or_eq_of_mem_set hf with h | h
 . obtain⟨g1,g2,g3,g4,g5⟩:=g;rcases g5 with e | ⟨g6,ks,i0,eb,_,g7,e⟩
   . rw[e] at h;exact o f h
   . rw[e] at hf;rw[List.set_set] at hf;rcases List.mem_or_eq_of_mem_set hf with h | h
     . exact o f h
     . rw[h];exact⟨N2 (w _ (List.mem_of_getElem? g1)) hib,fun _=>List.mem_of_getElem? (List.getElem?_set_self hib)⟩
 . rw[h];exact⟨N2 (w _ (List.mem_of_getElem? g.1)) hib,fun _=>List.mem_of_getElem? (List.getElem?_set_self hib)⟩
end Stow
namespace Stow
open PySem L2 PyProof.Rows
theorem fB {s:Int}{fs:List Sf}{j:Nat}{f:Sf}(h1:1<=s)(w:∀f∈fs,SfW s f)(h:fs[j]?=some f):((alP s 0 fs).any fun z=>decide (z.a-z.a%s=s*(j:Int))&&z.v)=f.b.any id:=by
 obtain⟨ds,rs,e,c1,c2⟩:=Ih h1 w h;have c:=NY (A:=s*(j:Int)) h1 (w f (List.mem_of_getElem? h));have hp:∀{a:Int},a-a%s<=a/\a-s<a-a%s:=fun {a}=>by
   have:=Int.emod_nonneg a (show s≠0 by omega);have:=Int.emod_lt_of_pos a (show 0<s by omega);omega
 rw[<-Jx h,e f,List.any_append,List.any_append];have d1:(ds.any fun z=>decide (z.a-z.a%s=s*(j:Int))&&z.v)=false:=List.any_eq_false.mpr fun z hz=>by
   have:=c1.mem z hz;have:=@hp z.a;rw[decide_eq_false (by omega)];simp
 have d2:(rs.any fun z=>decide (z.a-z.a%s=s*(j:Int))&&z.v)=false:=List.any_eq_false.mpr fun z hz=>by
   have:=c2.mem z hz;have:=@hp z.a;rw[decide_eq_false (by omega)];simp
 have d3:∀z∈shP s (s*(j:Int)) f,decide (z.a-z.a%s=s*(j:Int))=true:=fun z hz=>by
   obtain⟨q1,q2,_,q3⟩:=c.mem z hz;exact decide_eq_true (QP q1 (by omega)).1
 rw[d1,d2,Bool.false_or,Bool.or_false];have hs:∀(b:List Bool) (A:Int),(slP f.n A b).any (fun z=>z.v)=b.any id:=fun b=>by
   induction b with
   | nil=>intro A;rfl
   | cons v r ih =>
     intro A;show ((⟨A,f.n,v⟩:Pc)::slP f.n (A+f.n) r).any (fun z=>z.v)=_;rw[List.any_cons,ih,List.any_cons];rfl
 have e1:((shP s (s*(j:Int)) f).any fun z=>decide (z.a-z.a%s=s*(j:Int))&&z.v)=(shP s (s*(j:Int)) f).any fun z=>z.v:=by
   rw[Bool.eq_iff_iff,List.any_eq_true,List.any_eq_true];constructor
   . rintro⟨z,hz,g⟩;exact⟨z,hz,(Bool.and_eq_true_iff.mp g).2⟩
   . rintro⟨z,hz,g⟩;exact⟨z,hz,Bool.and_eq_true_iff.mpr ⟨d3 z hz,g⟩⟩
 rw[e1];unfold shP;rw[List.any_append,hs,show (fr (s*(j:Int)+f.n*(f.b.length:Int)) (s*(j:Int)+s)).any (fun z=>z.v)=false from List.any_eq_false.mpr fun z hz=>by rw[(N4 hz).2.2];simp,Bool.or_false]
def giv (fs:List Sf)(j i:Nat)(n:Int)(b:List Bool):List Sf:=if (b.set i false).any id=true then fs.set j ⟨n,b.set i false⟩ else fs.set j ⟨0,[]⟩
theorem XD (fs:List Sf)(j i:Nat)(n:Int)(b:List Bool):(giv fs j i n b).length=fs.length:=by unfold giv;split <;> exact List.length_set
theorem XE {s:Int}{fs:List Sf}{j i:Nat}{n:Int}{b:List Bool}(o:∀f∈fs,SfOk s f)(h:fs[j]?=some ⟨n,b⟩)(hi:i<b.length):∀f∈giv fs j i n b,SfOk s f:=fun f hf=>by
 unfold giv at hf
 split at hf
 . rename_i g;rcases List.mem_or_eq_of_mem_set hf with h' | h'
   . exact o f h'
   . rw[h'];refine⟨N2 (o _ (List.mem_of_getElem? h)).1 hi,fun _=>?_⟩;obtain⟨x,hx,gx⟩:=List.any_eq_true.mp g;have gx:x=true:=gx;rw[gx] at hx;exact hx
 . rcases List.mem_or_eq_of_mem_set hf with h' | h'
   . exact o f h'
   . rw[h'];exact⟨.inl ⟨rfl,rfl⟩,fun h0=>absurd rfl h0⟩
end Stow
namespace Stow
open PySem L2 PyProof.Rows
theorem fC {b:List Bool}(h:false∈b):∃i,b[i]?=some false/\∀i':Nat,i'<i->b[i']?≠some false:=by
 induction b with
 | nil=>cases h
 | cons v r ih =>
   cases v with
   | false=>exact⟨0,rfl,fun i' hi=>absurd hi (Nat.not_lt_zero _)⟩
   | true =>
     have:false∈r:=by
       rcases List.mem_cons.mp h with e | e
       . cases e
       . exact e
     obtain⟨i,h1,h2⟩:=ih this;refine⟨i+1,h1,fun i' hi=>?_⟩;cases i' with
     | zero=>intro e;cases e
     | succ i'=>exact h2 i' (by omega)
theorem XF {n:Int}:∀{b:List Bool} {A:Int} {z:Pc},z∈slP n A b->∃i:Nat,b[i]?=some z.v/\z=⟨A+n*(i:Int),n,z.v⟩
 | v::r,A,z,h=>by
   rcases List.mem_cons.mp h with e | g
   . rw[e]
     exact⟨0,rfl,by simp⟩
   . obtain⟨i,h1,h2⟩:=XF g
     exact⟨i+1,h1,by rw[Cw];rw[h2];congr 1;show A+n+n*(i:Int)=A+(n*(i:Int)+n);omega⟩
theorem XG {s:Int}:∀{fs:List Sf} {j0:Nat} {z:Pc},z∈alP s (s*(j0:Int)) fs->∃(j:Nat) (f:Sf),fs[j]?=some f/\z∈shP s (s*((j0+j:Nat):Int)) f
 | f::r,j0,z,h=>by
   have h:z∈shP s (s*(j0:Int)) f++alP s (s*(j0:Int)+s) r:=h
   rcases List.mem_append.mp h with g | g
   . exact⟨0,f,rfl,g⟩
   . rw[<-Cw] at g
     obtain⟨j,f',h1,h2⟩:=XG g
     exact⟨j+1,f',h1,by rw[show j0+(j+1)=j0+1+j by omega];exact h2⟩
theorem fD {s:Int}{fs:List Sf}{j:Nat}{f:Sf}{z:Pc}(h1:1<=s)(w:∀f∈fs,SfW s f)(h:fs[j]?=some f)(hz:z∈shP s (s*(j:Int)) f):z∈alP s 0 fs:=by
 obtain⟨ds,rs,e,_⟩:=Ih h1 w h;rw[<-Jx h,e f];exact List.mem_append_right _ (List.mem_append_left _ hz)
theorem al_in {s:Int}{fs:List Sf}{z:Pc}(h:z∈alP s 0 fs):∃(j:Nat) (f:Sf),fs[j]?=some f/\z∈shP s (s*(j:Int)) f:=by
 obtain⟨j,f,h1,h2⟩:=XG (j0:=0) (by rw[show s*((0:Nat):Int)=0 by simp];exact h);rw[Nat.zero_add] at h2;exact⟨j,f,h1,h2⟩
theorem fE {s A:Int}{f:Sf}{z:Pc}(h:z∈shP s A f)(hv:z.v=true):∃i:Nat,f.b[i]?=some true/\z=⟨A+f.n*(i:Int),f.n,true⟩:=by
 unfold shP at h;rcases List.mem_append.mp h with g | g
 . obtain⟨i,h1,h2⟩:=XF g;rw[hv] at h1 h2;exact⟨i,h1,h2⟩
 . rw[(N4 g).2.2] at hv;cases hv
theorem fF {s A n:Int}{b:List Bool}{i:Nat}{v:Bool}(h:b[i]?=some v):(⟨A+n*(i:Int),n,v⟩:Pc)∈shP s A ⟨n,b⟩:=by
 obtain⟨d2,r2,e2⟩:=N1 (n:=n) (A:=A) h;have:=e2 v;rw[Ig h] at this;unfold shP;show _∈slP n A b++_;rw[this];exact List.mem_append_left _ (List.mem_append_right _ List.mem_cons_self)
theorem XH {s n:Int}{fs:List Sf}{j i:Nat}{b:List Bool}{v:Bool}(hs:1<=s)(W:∀f∈fs,SfW s f)(hj:fs[j]?=some ⟨n,b⟩)(hi:b[i]?=some v):3<=n/\s*(j:Int)+n*(i:Int)+n<=s*(j:Int)+s/\s*(j:Int)+n*(i:Int)-(s*(j:Int)+n*(i:Int))%s=s*(j:Int)/\(s*(j:Int)+n*(i:Int))/s=(j:Int)/\(s*(j:Int)+n*(i:Int))%s/n=(i:Int):=by
 have hib:i<b.length:=(List.getElem?_eq_some_iff.mp hi).1;have n3:3<=n:=by
   rcases W _ (List.mem_of_getElem? hj) with ⟨_,e2⟩ | g
   . have e2:b=[]:=e2;rw[e2] at hib;exact absurd hib (Nat.not_lt_zero _)
   . exact g.1
 have hm:(⟨s*(j:Int)+n*(i:Int),n,v⟩:Pc)∈shP s (s*(j:Int)) ⟨n,b⟩:=by
   obtain⟨d2,r2,e2⟩:=N1 (n:=n) (A:=s*(j:Int)) hi;have:=e2 v;rw[Ig hi] at this;unfold shP;show _∈slP n (s*(j:Int)) b++_;rw[this];exact List.mem_append_left _ (List.mem_append_right _ List.mem_cons_self)
 obtain⟨q1,_,_,q4⟩:=(NY (A:=s*(j:Int)) hs (W _ (List.mem_of_getElem? hj))).mem _ hm;have q1:s*(j:Int)<=s*(j:Int)+n*(i:Int):=q1;have q4:s*(j:Int)+n*(i:Int)+n<=s*(j:Int)+s:=q4;obtain⟨r1,r2,r3⟩:=QP (j:=j) q1 (by omega);refine⟨n3,q4,r1,r2,?_⟩;rw[r3,show s*(j:Int)+n*(i:Int)-s*(j:Int)=n*(i:Int) by omega];exact Int.mul_ediv_cancel_left _ (by omega)
theorem JA {s n:Int}{fs:List Sf}{j i:Nat}{b:List Bool}{v:Bool}(hs:1<=s)(W:∀f∈fs,SfW s f)(hj:fs[j]?=some ⟨n,b⟩)(hi:b[i]?=some v):s*(j:Int)<=s*(j:Int)+n*(i:Int)/\s*(j:Int)+n*(i:Int)+n<=s*(j:Int)+s/\(s*(j:Int)+n*(i:Int))/s=(j:Int)/\3<=n:=by
 obtain⟨q1,q2,_,q4,_⟩:=XH hs W hj hi;have:=Int.mul_nonneg (show 0<=n by omega) (show (0:Int)<=(i:Int) by omega);exact⟨by omega,q2,q4,q1⟩
theorem Ii {s:Int}{fs:List Sf}{z:Pc}(h:z∈alP s 0 fs)(hv:z.v=true):∃(j i:Nat) (n:Int) (b:List Bool),fs[j]?=some ⟨n,b⟩/\b[i]?=some true/\z=⟨s*(j:Int)+n*(i:Int),n,true⟩:=by
 obtain⟨j,⟨n,b⟩,h1,h2⟩:=al_in h;obtain⟨i,h3,h4⟩:=fE h2 hv;exact⟨j,i,n,b,h1,h3,h4⟩
theorem Dx {s n:Int}{fs:List Sf}{j i:Nat}{b:List Bool}{v:Bool}(h1:1<=s)(w:∀f∈fs,SfW s f)(h:fs[j]?=some ⟨n,b⟩)(hb:b[i]?=some v):(⟨s*(j:Int)+n*(i:Int),n,v⟩:Pc)∈alP s 0 fs:=fD h1 w h (fF hb)
theorem set_getElem? {α:Type}{xs:List α}{j j':Nat}{x y:α}(h:(xs.set j x)[j']?=some y):(j=j'/\x=y)\/(j≠j'/\xs[j']?=some y):=by
 by_cases e:j=j'
 . subst e;have hl:j<xs.length:=by
     have:=(List.getElem?_eq_some_iff.mp h).1
     rwa [List.length_set] at this
   rw[List.getElem?_set_self hl] at h;exact .inl ⟨rfl,Option.some.inj h⟩
 . rw[List.getElem?_set_ne e] at h;exact .inr ⟨e,h⟩
theorem Gs.fs1 {s k n:Int}{fs fs1:List Sf}{j i j1 i1:Nat}{b b1:List Bool}(g:Gs s k fs j i b fs1)(h:fs[j1]?=some ⟨n,b1⟩)(hb:b1[i1]?=some true)(W:∀f∈fs,SfW s f):fs1[j1]?=some ⟨n,b1⟩:=by
 obtain⟨_,_,_,_,e | ⟨_,_,_,_,⟨f0,c8,c9⟩,_,e⟩⟩:=g
 . rw[e];exact h
 . rw[e,List.getElem?_set_ne]
   . exact h
   . intro w;rw[w,h] at c8;have e0:=Option.some.inj c8;rw[<-e0] at c9;have c9:n=0:=c9;rcases W _ (List.mem_of_getElem? h) with ⟨_,e2⟩ | ⟨h3,_⟩
     . have e2:b1=[]:=e2;rw[e2] at hb;simp at hb
     . have h3:3<=n:=h3;omega
theorem Gs.parts {s k:Int}{fs fs1:List Sf}{j i:Nat}{b:List Bool}(g:Gs s k fs j i b fs1)(h1:1<=s)(k3:3<=k)(o:∀f∈fs,SfOk s f) :
   (∀y∈alP s 0 fs,y.v=true->y∈alP s 0 fs1/\y∈alP s 0 (fs1.set j ⟨k,b.set i true⟩))/\((⟨s*(j:Int)+k*(i:Int),k,true⟩:Pc)∈alP s 0 (fs1.set j ⟨k,b.set i true⟩))/\((⟨s*(j:Int)+k*(i:Int),k,false⟩:Pc)∈alP s 0 fs1) /\
   ∀y∈alP s 0 (fs1.set j ⟨k,b.set i true⟩),y.v=true->y=⟨s*(j:Int)+k*(i:Int),k,true⟩\/y∈alP s 0 fs:=by
 have W:∀f∈fs,SfW s f:=fun f hf=>(o f hf).1;have W1:=g.W k3 o;have W2:∀f∈fs1.set j ⟨k,b.set i true⟩,SfW s f:=fun f hf=>(g.ok k3 o f hf).1;have hjl:j<fs1.length:=(List.getElem?_eq_some_iff.mp g.1).1;have hil:i<b.length:=(List.getElem?_eq_some_iff.mp g.2.1).1;refine⟨fun y hy hv=>?_,Dx h1 W2 (List.getElem?_set_self hjl) (List.getElem?_set_self hil),Dx h1 W1 g.1 g.2.1,fun y hy hv=>?_⟩
 . obtain⟨j1,i1,n,b1,e1,e2,rfl⟩:=Ii hy hv;have f1:=g.fs1 e1 e2 W;refine⟨Dx h1 W1 f1 e2,?_⟩;by_cases e:j=j1
   . subst e;rw[g.1] at f1;have e3:=Option.some.inj f1;have en:k=n:=congrArg Sf.n e3;have eb:b=b1:=congrArg Sf.b e3;subst en eb;refine Dx h1 W2 (List.getElem?_set_self hjl) (i:=i1) ?_;rw[List.getElem?_set_ne]
     . exact e2
     . intro w;rw[<-w,g.2.1] at e2;cases e2
   . exact Dx h1 W2 (by rw[List.getElem?_set_ne e];exact f1) e2
 . obtain⟨j1,i1,n,b1,e1,e2,rfl⟩:=Ii hy hv;have back:∀{j1 i1:Nat} {n:Int} {b1:List Bool},fs1[j1]?=some ⟨n,b1⟩->b1[i1]?=some true->(⟨s*(j1:Int)+n*(i1:Int),n,true⟩:Pc)∈alP s 0 fs:=fun {j1 i1 n b1} h hb=>by
     obtain⟨_,_,_,_,e | ⟨_,_,_,eb,_,_,e⟩⟩:=g
     . rw[e] at h;exact Dx h1 W h hb
     . rw[e] at h;rcases set_getElem? h with ⟨_,e4⟩ | ⟨_,e4⟩
       . have:b=b1:=congrArg Sf.b e4;rw[<-this,eb] at hb;have:=List.mem_of_getElem? hb;rw[List.mem_replicate] at this;exact absurd this.2 (by decide)
       . exact Dx h1 W e4 hb
   rcases set_getElem? e1 with ⟨ej,e3⟩ | ⟨ej,e3⟩
   . subst ej;have en:k=n:=congrArg Sf.n e3;have eb:b.set i true=b1:=congrArg Sf.b e3;subst en eb;rcases set_getElem? e2 with ⟨ei,_⟩ | ⟨ei,e4⟩
     . subst ei;exact .inl rfl
     . exact .inr (back g.1 e4)
   . exact .inr (back e3 e2)
theorem fG {s n:Int}{fs:List Sf}{j i:Nat}{b:List Bool}(h1:1<=s)(o:∀f∈fs,SfOk s f)(h:fs[j]?=some ⟨n,b⟩)(hi:b[i]?=some true) :
   (∀y∈alP s 0 fs,y.v=true->y≠⟨s*(j:Int)+n*(i:Int),n,true⟩->y∈alP s 0 (giv fs j i n b)) /\
   (∀y∈alP s 0 (giv fs j i n b),y.v=true->y∈alP s 0 fs/\y≠⟨s*(j:Int)+n*(i:Int),n,true⟩) /\
   ((b.set i false).any id=false->∀y∈alP s 0 fs,y.v=true->y≠⟨s*(j:Int)+n*(i:Int),n,true⟩->y.a+y.l<=s*(j:Int)\/s*(j:Int)+s<=y.a):=by
 have W:∀f∈fs,SfW s f:=fun f hf=>(o f hf).1;have hjl:j<fs.length:=(List.getElem?_eq_some_iff.mp h).1;have hil:i<b.length:=(List.getElem?_eq_some_iff.mp hi).1;have W2:∀f∈giv fs j i n b,SfW s f:=fun f hf=>(XE o h hil f hf).1;have n3:3<=n:=by
   rcases W _ (List.mem_of_getElem? h) with ⟨_,e2⟩ | g
   . have e2:b=[]:=e2;rw[e2] at hil;exact absurd hil (Nat.not_lt_zero _)
   . exact g.1
 have nolive:(b.set i false).any id=false->∀i1,i≠i1->b[i1]?≠some true:=fun hb i1 hne e=>by
   have:true∈b.set i false:=List.mem_of_getElem? (i:=i1) (by rw[List.getElem?_set_ne hne];exact e);exact absurd (List.any_eq_true.mpr ⟨true,this,rfl⟩) (by rw[hb];exact Bool.false_ne_true)
 refine⟨fun y hy hv hne=>?_,fun y hy hv=>?_,fun hb y hy hv hne=>?_⟩
 . obtain⟨j1,i1,n1,b1,e1,e2,rfl⟩:=Ii hy hv;by_cases e:j=j1
   . subst e;rw[h] at e1;have e3:=Option.some.inj e1;have en:n=n1:=congrArg Sf.n e3;have eb:b=b1:=congrArg Sf.b e3;subst en eb;have hii:i≠i1:=fun w=>hne (by rw[w]);have e4:(b.set i false)[i1]?=some true:=by rw[List.getElem?_set_ne hii];exact e2
     refine Dx h1 W2 (b:=b.set i false) ?_ e4;unfold giv;rw[if_pos (List.any_eq_true.mpr ⟨true,List.mem_of_getElem? e4,rfl⟩)];exact List.getElem?_set_self hjl
   . refine Dx h1 W2 ?_ e2;unfold giv
     split <;> (rw[List.getElem?_set_ne e];exact e1)
 . obtain⟨j1,i1,n1,b1,e1,e2,rfl⟩:=Ii hy hv;unfold giv at e1
   split at e1
   . rcases set_getElem? e1 with ⟨ej,e3⟩ | ⟨ej,e3⟩
     . subst ej;have en:n=n1:=congrArg Sf.n e3;have eb:b.set i false=b1:=congrArg Sf.b e3;subst en eb;rcases set_getElem? e2 with ⟨_,e4⟩ | ⟨ei,e4⟩
       . cases e4
       . refine⟨Dx h1 W h e4,fun w=>ei ?_⟩;have:=(Pc.mk.inj w).1;have h5:n*(i1:Int)=n*(i:Int):=by omega
         have:=Int.eq_of_mul_eq_mul_left (show n≠0 by omega) h5;omega
     . refine⟨Dx h1 W e3 e2,fun w=>ej ?_⟩;have hc:=Ed h1 fs 0 W;obtain⟨_,_,q2,_⟩:=JA h1 W h hi;obtain⟨_,_,q3,_⟩:=JA h1 W e3 e2;have:=(Pc.mk.inj w).1;rw[this,q2] at q3;omega
   . rcases set_getElem? e1 with ⟨ej,e3⟩ | ⟨ej,e3⟩
     . have:([]:List Bool)=b1:=congrArg Sf.b e3;rw[<-this] at e2;simp at e2
     . refine⟨Dx h1 W e3 e2,fun w=>ej ?_⟩;obtain⟨_,_,q2,_⟩:=JA h1 W h hi;obtain⟨_,_,q3,_⟩:=JA h1 W e3 e2;have:=(Pc.mk.inj w).1;rw[this,q2] at q3;omega
 . obtain⟨j1,i1,n1,b1,e1,e2,rfl⟩:=Ii hy hv;by_cases e:j=j1
   . subst e;rw[h] at e1;have e3:=Option.some.inj e1;have en:n=n1:=congrArg Sf.n e3;have eb:b=b1:=congrArg Sf.b e3;subst en eb;exact absurd e2 (nolive hb i1 (fun w=>hne (by rw[w])))
   . obtain⟨a1,a2,a3,_⟩:=JA h1 W e1 e2;show s*(j1:Int)+n1*(i1:Int)+n1<=s*(j:Int)\/s*(j:Int)+s<=s*(j1:Int)+n1*(i1:Int);rcases Nat.lt_or_gt_of_ne e with g | g
     . have:=Int.mul_le_mul_of_nonneg_left (show ((j+1:Nat):Int)<=(j1:Int) by omega) (show 0<=s by omega);rw[Cw] at this;omega
     . have:=Int.mul_le_mul_of_nonneg_left (show ((j1+1:Nat):Int)<=(j:Int) by omega) (show 0<=s by omega);rw[Cw] at this;omega
end Stow
namespace Stow
open PySem L2 PyProof.Rows
def rowL (k:Int):List Int->List Pc
 | []=>[]
 | l::r=>⟨k,l,true⟩::rowL (k+l) r
theorem QW:∀(ls:List Int) (k:Int),ls.foldl (·+·) k=k+ls.foldl (·+·) 0
 | [],k=>by simp
 | l::r,k=>by
   rw[List.foldl_cons,List.foldl_cons,QW r (k+l),QW r (0+l)]
   omega
theorem XJ (l:Int)(r:List Int):sumI (l::r)=l+sumI r:=by
 unfold sumI;rw[List.foldl_cons,QW];omega
theorem QX (ls:List Int)(l:Int):sumI (ls++[l])=sumI ls+l:=by
 unfold sumI;rw[List.foldl_append];rfl
theorem Ij:∀(ls:List Int) (k l:Int),rowL k (ls++[l])=rowL k ls++[⟨k+sumI ls,l,true⟩]
 | [],k,l=>by
   show [(⟨k,l,true⟩:Pc)]=[⟨k+sumI [],l,true⟩]
   rw[show sumI []=0 from rfl,Int.add_zero]
 | m::r,k,l=>by
   show (⟨k,m,true⟩:Pc)::rowL (k+m) (r++[l])=⟨k,m,true⟩::(rowL (k+m) r++[⟨k+sumI (m::r),l,true⟩])
   rw[Ij r,XJ,Int.add_assoc]
theorem JB:∀(ls:List Int) (k:Int),(∀l∈ls,3<=l)->Ag k (rowL k ls) (k+sumI ls)
 | [],k,_=>by
   show k=k+sumI []
   rw[show sumI []=0 from rfl,Int.add_zero]
 | m::r,k,h=>by
   have h3:=h m List.mem_cons_self
   refine⟨rfl,(show 1<=m by omega),fun _=>h3,?_⟩
   have:=JB r (k+m) fun l hl=>h l (List.mem_cons_of_mem _ hl)
   rw[XJ,<-Int.add_assoc]
   exact this
def rwP (ls:List Int)(n:Int):List Pc:=rowL 0 ls++fr (sumI ls) n
theorem XL {ls:List Int}{n:Int}(h3:∀l∈ls,3<=l)(hn:sumI ls<=n):Ag 0 (rwP ls n) n:=by
 have:=JB ls 0 h3;rw[Int.zero_add] at this;exact this.app (Ia hn)
theorem fH (ls:List Int)(n L:Int):cutP (rowL 0 ls) [] (sumI ls) (n-sumI ls) (sumI ls) L=rwP (ls++[L]) n:=by
 unfold cutP rwP;rw[Ij,QX,Int.zero_add,show fr (sumI ls) (sumI ls)=[] from if_pos rfl,List.append_nil,List.nil_append,List.append_assoc,show sumI ls+(n-sumI ls)=n by omega];rfl
theorem N5 {ls:List Int}{n:Int}(h:sumI ls<n):rwP ls n=rowL 0 ls++[⟨sumI ls,n-sumI ls,false⟩]:=by
 unfold rwP fr;rw[if_neg (by omega)]
theorem fJ {ls:List Int}{n:Int}(h:sumI ls=n):rwP ls n=rowL 0 ls:=by
 unfold rwP fr;rw[if_pos h,List.append_nil]
theorem fK {cs ls:List Int}{n L:Int}(h3:∀l∈ls,3<=l)(hl:(cs.length:Int)=n)(h0:0<=sumI ls)(hL:1<=L)(hn:sumI ls+L<=n)(m:Ao cs (rwP ls n)) :
   Ao (cutO cs (sumI ls) (n-sumI ls) (sumI ls) L) (rwP (ls++[L]) n):=by
 rw[N5 (by omega)] at m;have c:=JB ls 0 h3;rw[Int.zero_add] at c;have:=WX (z:=⟨sumI ls,n-sumI ls,false⟩) (s:=sumI ls) (L:=L) (rs:=[]) h0 hL (Int.le_refl _) (show sumI ls+L<=sumI ls+(n-sumI ls) by omega) (show sumI ls+(n-sumI ls)<=(cs.length:Int) by omega) (c.endBy (Int.le_refl 0)) (fun p hp=>by cases hp) m;have e:=fH ls n L;rw[<-e];exact this
theorem fL {ls:List Int}(h3:∀l∈ls,3<=l):0<=sumI ls:=by
 have:=(JB ls 0 h3).le;omega
end Stow
namespace Stow
open PySem L2 PyProof.Rows
def Gh (B:Nat)(ps ds rs:List Pc)(b:Int)(M:Nat):Prop:=ps=ds++⟨b,2^M,false⟩::rs/\Bst (2^B) ps ⟨b,2^M,false⟩
def NoH (B:Nat)(ps:List Pc):Prop:=∀z∈ps,z.v=false->z.l<2^B
theorem QY {i j:Nat}(h:(2:Int)^i<=2^j):i<=j:=by
 rcases Nat.lt_or_ge j i with g | g
 . have:=FC (show j+1<=i from g);have:=pw1 j;have:=pw2 j;omega
 . exact g
theorem Gh.lie {B N M:Nat}{ps ds rs:List Pc}{b:Int}(g:Gh B ps ds rs b M)(hB:2<=B)(hc:Ag 0 ps (2^N))(al:∀z∈ps,Al z) :
   B<=M/\M<=N/\0<=b/\Ag 0 ds b/\Ag (b+2^M) rs (2^N)/\Ag 0 (ds++(hcP b B M++rs)) (2^N)/\(∀z∈ds++(hcP b B M++rs),Al z)/\(⟨b,2^B,true⟩:Pc)∈ds++(hcP b B M++rs):=by
 obtain⟨e,h1,h2,h3,h4⟩:=g;have hBM:B<=M:=QY h3;rw[e] at hc;obtain⟨k,c1,c2⟩:=NS hc;obtain⟨ea,_,_,c3⟩:=c2;have ea:b=k:=ea;subst ea;have c3:Ag (b+2^M) rs (2^N):=c3;have l1:=c1.le;have l3:=c3.le;have hMN:M<=N:=QY (by omega);obtain⟨m0,q0,e1,e2⟩:=al _ h1;have e1:(2:Int)^M=2^m0:=e1;have e2:b=2^m0*(q0:Int):=e2;rw[<-eG e1] at e2;obtain⟨r,hr⟩:=Xr e2 hBM;refine⟨hBM,hMN,by omega,c1,c3,c1.app ((dX hB hBM).app c3),fun z hz=>?_,List.mem_append_right _ (List.mem_append_left _ List.mem_cons_self)⟩;rcases List.mem_append.mp hz with g | g
 . exact al z (by rw[e];exact List.mem_append_left _ g)
 . rcases List.mem_append.mp g with g | g
   . rcases List.mem_cons.mp g with w | w
     . rw[w];exact⟨B,r,rfl,hr⟩
     . exact spl_al e2 (show B+(M-B)<=M by omega) z w
   . exact al z (by rw[e];exact List.mem_append_right _ (List.mem_cons_of_mem _ g))
theorem DG.two' {k:Nat}{c:Int}(h:DG k c)(h3:3<=c):2<=k:=by
 rcases Nat.lt_or_ge k 2 with g | g
 . have h1:=h.1;rcases(show k=0\/k=1 by omega) with e | e
   . rw[e] at h1;have:(2:Int)^0=1:=by decide
     omega
   . rw[e] at h1;have:(2:Int)^1=2:=by decide
     omega
 . exact g
theorem XM {b:Int}:∀ps:List Pc,(∀z∈ps,z.v=false->z.l<b)\/∃z,Bst b ps z
 | []=>.inl fun z hz=>by cases hz
 | y::r=>by
   have mo:∀{z:Pc},Bst b r z->¬(y.v=false/\b<=y.l/\(y.l<z.l\/(y.l=z.l/\y.a<z.a)))->Bst b (y::r) z:=fun {z} h hn=>by
     refine⟨List.mem_cons_of_mem _ h.1,h.2.1,h.2.2.1,fun w hw hv hl=>?_⟩
     rcases List.mem_cons.mp hw with e | e
     . rw[e] at hv hl ⊢
       have:¬(y.l<z.l\/(y.l=z.l/\y.a<z.a)):=fun g=>hn ⟨hv,hl,g⟩
       omega
     . exact h.2.2.2 w e hv hl
   rcases XM (b:=b) r with h | ⟨z,h⟩
   . by_cases g:y.v=false/\b<=y.l
     . refine .inr ⟨y,List.mem_cons_self,g.1,g.2,fun w hw hv hl=>?_⟩
       rcases List.mem_cons.mp hw with e | e
       . rw[e];exact .inr ⟨rfl,Int.le_refl _⟩
       . have:=h w e hv
         omega
     . refine .inl fun w hw hv=>?_
       rcases List.mem_cons.mp hw with e | e
       . rw[e] at hv ⊢
         have:¬b<=y.l:=fun g2=>g ⟨hv,g2⟩
         omega
       . exact h w e hv
   . by_cases g:y.v=false/\b<=y.l/\(y.l<z.l\/(y.l=z.l/\y.a<z.a))
     . refine .inr ⟨y,List.mem_cons_self,g.1,g.2.1,fun w hw hv hl=>?_⟩
       rcases List.mem_cons.mp hw with e | e
       . rw[e];exact .inr ⟨rfl,Int.le_refl _⟩
       . have:=h.2.2.2 w e hv hl
         omega
     . exact .inr ⟨z,mo h g⟩
theorem gh_ex {N:Nat}{ps:List Pc}(B:Nat)(hc:Ag 0 ps (2^N))(al:∀z∈ps,Al z):NoH B ps\/∃(ds rs:List Pc) (b:Int) (M:Nat),Gh B ps ds rs b M:=by
 rcases XM (b:=2^B) ps with h | ⟨z,h⟩
 . exact .inl h
 . obtain⟨M,q0,eM,ea0⟩:=al z h.1;obtain⟨n0,hn0⟩:=List.getElem?_of_mem h.1;obtain⟨ds,rs,eps,_,_,_⟩:=Cu hc hn0;obtain⟨b,lo,v1⟩:=z;have ev:v1=false:=h.2.1;have eM:lo=2^M:=eM;subst ev eM;exact .inr ⟨ds,rs,b,M,eps,h⟩
theorem XN (c:Int)(h:1<=c):∃k,DG k (c+2):=by
 have:=Xh (c:=(c+1).toNat) (by omega);rw[show (((c+1).toNat:Nat):Int)+1=c+2 by omega] at this;exact⟨_,this⟩
theorem Gs.len {s k:Int}{fs fs1:List Sf}{j i:Nat}{b:List Bool}(g:Gs s k fs j i b fs1):fs1.length=fs.length:=by
 obtain⟨_,_,_,_,e | ⟨_,_,_,_,_,_,e⟩⟩:=g
 . rw[e]
 . rw[e,List.length_set]
inductive St7
 | half (N:Nat) (ps:List Pc)
 | shel (s:Int) (fs:List Sf)
 | row (n:Int) (ls:List Int)
 | st (i:W7) (r n:Int) (ps:List Pc)
def ok4:W7->Prop
 | .half=>False
 | .shel=>False
 | .row=>False
 | _=>True
def ok3:W7->Prop
 | .half=>True
 | .shel=>True
 | .row=>True
 | _=>False
def St7.let3:St7->W7
 | .half _ _=>.half
 | .shel _ _=>.shel
 | .row _ _=>.row
 | .st i _ _ _=>i
def St7.ps:St7->List Pc
 | .half _ ps=>ps
 | .shel s fs=>alP s 0 fs
 | .row n ls=>rwP ls n
 | .st _ _ _ ps=>ps
def St7.s:St7->Int
 | .half N _=>2^N
 | .shel s _=>s
 | .row n _=>n
 | .st _ r _ _=>r
def St7.n:St7->Int
 | .half N _=>2^N
 | .shel s fs=>s*(fs.length:Int)
 | .row n _=>n
 | .st _ _ n _=>n
def St7.ok:St7->Prop
 | .half N ps=>N<=8/\Ag 0 ps (2^N)/\∀z∈ps,Al z
 | .shel s fs=>1<=s/\1<=fs.length/\∀f∈fs,SfOk s f
 | .row n ls=>1<=n/\(∀l∈ls,3<=l)/\sumI ls<=n
 | .st i _ n ps=>ok4 i/\Ag 0 ps n/\AJ ps
theorem St7.ch {q:St7}(h:q.ok):Ag 0 q.ps q.n:=by
 cases q with
 | half N ps=>exact h.2.1
 | shel s fs =>
   have:=Ed h.1 fs 0 (fun f hf=>(h.2.2 f hf).1);rw[Int.zero_add] at this;exact this
 | row n ls=>exact XL h.2.1 h.2.2
 | st i r n ps=>exact h.2.1
def No7 (c:Int):St7->Prop
 | .half _ ps=>∀B,DG B (c+2)->NoH B ps
 | .shel s fs=>NoGr s (c+2) fs
 | .row n ls=>n<sumI ls+(c+2)
 | .st _ _ n ps=>ps=[⟨0,n,false⟩]/\n<c+2
inductive Ask7 (c:Int):St7->Int->St7->Prop
 | half {N B M:Nat} {ps ds rs:List Pc} {b:Int}:DG B (c+2)->Gh B ps ds rs b M->Ask7 c (.half N ps) (b+1) (.half N (ds++(hcP b B M++rs)))
 | shel {s:Int} {fs fs1:List Sf} {j i:Nat} {b:List Bool}:Gs s (c+2) fs j i b fs1->fs1.length=fs.length->Ask7 c (.shel s fs) (s*(j:Int)+(c+2)*(i:Int)+1) (.shel s (fs1.set j ⟨c+2,b.set i true⟩))
 | row {n:Int} {ls:List Int}:sumI ls+(c+2)<=n->Ask7 c (.row n ls) (sumI ls+1) (.row n (ls++[c+2]))
 | st {i:W7} {r r' n:Int}:c+2<=n->(i = .next->r'=c+2)->(i≠.next->r'=r)->Ask7 c (.st i r n [⟨0,n,false⟩]) 1 (.st i r' n (cutP [] [] 0 n 0 (c+2)))
end Stow
namespace Stow
open PySem L2 PyProof.Rows
theorem QZ {α:Type}(p:α->Prop)[DecidablePred p]:∀xs:List α,(∀x∈xs,¬p x)\/∃(j:Nat) (x:α),xs[j]?=some x/\p x/\∀(j':Nat) (x':α),j'<j->xs[j']?=some x'->¬p x'
 | []=>.inl fun x h=>by cases h
 | x::r=>by
   by_cases e:p x
   . exact .inr ⟨0,x,rfl,e,fun j' _ h=>absurd h (Nat.not_lt_zero _)⟩
   . rcases QZ p r with h | ⟨j,y,h1,h2,h3⟩
     . refine .inl fun y hy=>?_
       rcases List.mem_cons.mp hy with g | g
       . rw[g];exact e
       . exact h y g
     . refine .inr ⟨j+1,y,h1,h2,fun j' x' hj hx=>?_⟩
       cases j' with
       | zero =>
         have:x=x':=by simpa using hx
         rw[<-this];exact e
       | succ j'=>exact h3 j' x' (by omega) (by simpa using hx)
theorem gs_ex {s k:Int}{fs:List Sf}(k3:3<=k):NoGr s k fs\/∃(j i:Nat) (b:List Bool) (fs1:List Sf),Gs s k fs j i b fs1:=by
 rcases QZ (fun f:Sf=>f.n=k/\false∈f.b) fs with hno | ⟨j,f,hj,⟨hn,hf⟩,hm⟩
 . by_cases ks:k<=s
   . rcases QZ (fun f:Sf=>f.n=0) fs with h0 | ⟨j,f,hj,h0,hm⟩
     . exact .inl ⟨hno,.inr h0⟩
     . obtain⟨_,_,d3⟩:=QU (show 1<=k by omega) ks;have hjl:j<fs.length:=(List.getElem?_eq_some_iff.mp hj).1;refine .inr ⟨j,0,List.replicate (s/k).toNat false,fs.set j ⟨k,List.replicate (s/k).toNat false⟩,List.getElem?_set_self hjl,?_,fun i' h=>absurd h (Nat.not_lt_zero _),fun j' f' _ hf'=>hno f' (List.mem_of_getElem? hf'),.inr ⟨hno,ks,rfl,rfl,⟨f,hj,h0⟩,hm,rfl⟩⟩;rw[List.getElem?_replicate,if_pos (by omega)]
   . exact .inl ⟨hno,.inl (by omega)⟩
 . obtain⟨i,h1,h2⟩:=fC hf;obtain⟨n,b⟩:=f;have hn:n=k:=hn;subst hn;exact .inr ⟨j,i,b,fs,hj,h1,h2,hm,.inl rfl⟩
def Lv (q:St7)(p:Int):Prop:=∃z∈q.ps,z.v=true/\z.a+1=p
structure Asked (q:St7)(p:Int)(q':St7):Prop where
 n:q'.n=q.n
 lt:q'.let3=q.let3
 lv:∀p',Lv q' p'↔p'=p\/Lv q p'
 nw:¬Lv q p
theorem lv_nf {q:St7}(h:q.ok){b l:Int}(hm:(⟨b,l,false⟩:Pc)∈q.ps):¬Lv q (b+1):=fun ⟨z,hz,hv,e⟩=>by
 have:=Du (St7.ch h) hz hm (show z.a=b by omega);rw[this] at hv;cases hv
theorem spl_v {a:Int}{B e:Nat}{z:Pc}(h:z∈spl a B e):z.v=false:=by
 obtain⟨i,_,rfl⟩:=List.mem_map.mp h;rfl
theorem Q0 {q:St7}{c:Int}(h:q.ok)(h3:ok3 q.let3)(c1:1<=c):No7 c q\/∃p q',Ask7 c q p q':=by
 cases q with
 | half N ps =>
   obtain⟨B,hB⟩:=XN c c1;rcases gh_ex B h.2.1 h.2.2 with g | ⟨ds,rs,b,M,g⟩
   . exact .inl fun B' hB'=>by rw[hB'.uniq hB];exact g
   . exact .inr ⟨_,_,.half hB g⟩
 | shel s fs =>
   rcases gs_ex (s:=s) (fs:=fs) (show 3<=c+2 by omega) with g | ⟨j,i,b,fs1,g⟩
   . exact .inl g
   . exact .inr ⟨_,_,.shel g g.len⟩
 | row n ls =>
   by_cases g:sumI ls+(c+2)<=n
   . exact .inr ⟨_,_,.row g⟩
   . exact .inl (by show n<sumI ls+(c+2);omega)
 | st i r n ps=>cases i <;> first | exact h3.elim | exact h.1.elim
theorem Ask7.asked {q q':St7}{c p:Int}(A:Ask7 c q p q')(h:q.ok)(h3:ok3 q.let3)(c1:1<=c):Asked q p q':=by
 cases A with
 | half hB g =>
   rename_i N B M ps ds rs b;have e:=g.1;subst e;refine⟨rfl,rfl,fun p'=>⟨fun ⟨z,hz,hv,e⟩=>?_,fun w=>?_⟩,lv_nf h (List.mem_append_right _ List.mem_cons_self)⟩
   . rcases List.mem_append.mp hz with w | w
     . exact .inr ⟨z,List.mem_append_left _ w,hv,e⟩
     . rcases List.mem_append.mp w with w | w
       . rcases List.mem_cons.mp w with w | w
         . rw[w] at e;exact .inl e.symm
         . rw[spl_v w] at hv;cases hv
       . exact .inr ⟨z,List.mem_append_right _ (List.mem_cons_of_mem _ w),hv,e⟩
   . rcases w with rfl | ⟨z,hz,hv,e⟩
     . exact⟨_,List.mem_append_right _ (List.mem_append_left _ List.mem_cons_self),rfl,rfl⟩
     . rcases List.mem_append.mp hz with w | w
       . exact⟨z,List.mem_append_left _ w,hv,e⟩
       . rcases List.mem_cons.mp w with w | w
         . rw[w] at hv;cases hv
         . exact⟨z,List.mem_append_right _ (List.mem_append_right _ w),hv,e⟩
 | shel g gl =>
   rename_i s fs fs1 j i b;obtain⟨h1,_,o⟩:=h;obtain⟨g1,g2,g3,g4⟩:=g.parts h1 (show 3<=c+2 by omega) o;have W1:=g.W (show 3<=c+2 by omega) o;have ch1:=Ed h1 fs1 0 W1;refine⟨by show s*((fs1.set j _).length:Int)=_;rw[List.length_set,gl];rfl,rfl,fun p'=>⟨fun ⟨z,hz,hv,e⟩=>?_,fun w=>?_⟩,fun ⟨z,hz,hv,e⟩=>?_⟩
   . rcases g4 z hz hv with w | w
     . rw[w] at e;exact .inl e.symm
     . exact .inr ⟨z,w,hv,e⟩
   . rcases w with rfl | ⟨z,hz,hv,e⟩
     . exact⟨_,g2,rfl,rfl⟩
     . exact⟨z,(g1 z hz hv).2,hv,e⟩
   . have:=Du ch1 (g1 z hz hv).1 g3 (show z.a=s*(j:Int)+(c+2)*(i:Int) by omega);rw[this] at hv;cases hv
 | row g =>
   rename_i n ls;have live:∀(ls:List Int) (z:Pc),z∈rwP ls n->z.v=true->z∈rowL 0 ls:=fun ls z hz hv=>by
     rcases List.mem_append.mp hz with w | w
     . exact w
     . unfold fr at w
       split at w
       . cases w
       . rw[List.mem_singleton.mp w] at hv;cases hv
   refine⟨rfl,rfl,fun p'=>⟨fun ⟨z,hz,hv,e⟩=>?_,fun w=>?_⟩,fun ⟨z,hz,hv,e⟩=>?_⟩
   . have:=live _ z hz hv;rw[Ij] at this;rcases List.mem_append.mp this with w | w
     . exact .inr ⟨z,List.mem_append_left _ w,hv,e⟩
     . rw[List.mem_singleton.mp w] at e;exact .inl (by rw[<-e];show (0:Int)+sumI ls+1=sumI ls+1;omega)
   . rcases w with rfl | ⟨z,hz,hv,e⟩
     . exact⟨⟨0+sumI ls,c+2,true⟩,List.mem_append_left _ (by rw[Ij];exact List.mem_append_right _ (List.mem_singleton.mpr rfl)),rfl,by show (0:Int)+sumI ls+1=sumI ls+1;omega⟩
     . exact⟨z,List.mem_append_left _ (by rw[Ij];exact List.mem_append_left _ (live ls z hz hv)),hv,e⟩
   . have:=(JB ls 0 h.2.1).mem z (live ls z hz hv);have k:z.a+z.l<=0+sumI ls:=by omega
     have k3:1<=z.l:=by omega
     omega
 | st g1 g2 g3 =>
   rename_i i r r' n;cases i <;> first | exact h3.elim | exact h.1.elim
end Stow
namespace Stow
open PySem L2 PyProof.Rows
theorem XO {y:Pc}(hv:y.v=true):∀{ps acc:List Pc},y∈ps.foldl Bq acc->y∈acc\/y∈ps
 | [],_,h=>.inl h
 | z::r,acc,h=>by
   rcases XO hv (ps:=r) (acc:=Bq acc z) h with g | g
   . unfold Bq at g
     split at g
     . split at g
       . rcases List.mem_append.mp g with e | e
         . exact .inl (List.dropLast_subset _ e)
         . rw[List.mem_singleton.mp e] at hv
           cases hv
       . rcases List.mem_append.mp g with e | e
         . exact .inl e
         . rw[List.mem_singleton.mp e]
           exact .inr List.mem_cons_self
     . rcases List.mem_append.mp g with e | e
       . exact .inl e
       . rw[List.mem_singleton.mp e]
         exact .inr List.mem_cons_self
   . exact .inr (List.mem_cons_of_mem _ g)
theorem XQ {ps:List Pc}{y:Pc}(h:y∈Bj ps)(hv:y.v=true):y∈ps:=by
 rcases XO hv (ps:=ps) (acc:=[]) h with g | g
 . cases g
 . exact g
end Stow
namespace Stow
open PySem L2 PyProof.Rows
structure Given (q:St7)(p:Int)(q':St7):Prop where
 n:q'.n=q.n
 lt:q'.let3=q.let3
 lv:∀p',Lv q' p'↔Lv q p'/\p'≠p
theorem fM {acc:List Pc}{p z:Pc}(hp:p∈acc)(hv:p.v=true):p∈Bq acc z:=by
 rcases DE acc with e | ⟨D,w,e⟩
 . rw[e] at hp;cases hp
 . subst e;cases hw:w.v with
   | true=>rw[F7 hw];exact List.mem_append_left _ hp
   | false =>
     cases hz:z.v with
     | true=>rw[F6 hz];exact List.mem_append_left _ hp
     | false =>
       rw[F8 hw hz];rcases List.mem_append.mp hp with g | g
       . exact List.mem_append_left _ g
       . rw[List.mem_singleton.mp g] at hv;rw[hv] at hw;cases hw
theorem XR:∀(ps acc:List Pc) {p:Pc},p.v=true->p∈acc\/p∈ps->p∈ps.foldl Bq acc
 | [],acc,p,hv,h=>by
   rcases h with h | h
   . exact h
   . cases h
 | z::r,acc,p,hv,h=>by
   refine XR r (Bq acc z) hv ?_
   rcases h with h | h
   . exact .inl (fM h hv)
   . rcases List.mem_cons.mp h with g | g
     . subst g
       rw[F6 hv]
       exact .inl (List.mem_append_right _ (List.mem_singleton.mpr rfl))
     . exact .inr g
theorem XS {ps:List Pc}{p:Pc}(h:p∈ps)(hv:p.v=true):p∈Bj ps:=XR ps [] hv (.inr h)
theorem fN {k:W7}{r n:Int}{ps:List Pc}{z:Pc}:Given (.st k r n ps) (z.a+1) (.st k r n (Bj (modF ps z.a))):=by
 refine⟨rfl,rfl,fun p'=>⟨fun ⟨y,hy,yv,e⟩=>?_,fun ⟨⟨y,hy,yv,e⟩,hp⟩=>?_⟩⟩
 . obtain⟨w,hw,ew⟩:=List.mem_map.mp (XQ hy yv);rw[<-ew] at yv e;have yv:(w.v&&!decide (w.a=z.a))=true:=yv;rw[Bool.and_eq_true,Bool.not_eq_true',decide_eq_false_iff_not] at yv;have e:w.a+1=p':=e;exact⟨⟨w,hw,yv.1,e⟩,by omega⟩
 . refine⟨y,XS (List.mem_map.mpr ⟨y,hy,?_⟩) yv,yv,e⟩;rw[decide_eq_false (show ¬y.a=z.a by omega),Bool.not_false,Bool.and_true]
end Stow
namespace Stow
open PySem L2 PyProof.Rows
structure DefD (P:Program)(w:World)(K:PySem.W.Frag)(mg:Str->Option Value)(base:Heap)(x:Str)(k:Nat)(ps:List Str)(dvs:List V)(sp:Sp):Prop where
 all:Defx P w K mg base x k ps sp
 less:∃(f:Addr) (fd:FuncData) (ds:List Value),FnOk P w K mg base (CXe P w) k f fd ps sp/\mg x=some (.ref f)/\keepIn K (.ref f)=true/\Bi K fd ps ds/\Vals dvs ds
structure SrcD (K:PySem.W.Frag)(mg:Str->Option Value)(x:Str)(st:Stmt)(T:Addr):Prop where
 ex:∃(f:Addr) (fd:FuncData),FunD K x x st (.ref T) f fd/\mg x=some (.ref f)/\keepIn K (.ref f)=true
theorem fO {K:PySem.W.Frag}{h:Heap}{mg:Str->Option Value}{x:Str}{st:Stmt}{f T:Addr}{oc kV doc pm cdv ct:Value}{od an:Option Addr}{osl:Array (Option Value)}(X:K.In h)(G:h.Ns mainGlobals mg)
   (a:nsIn K mainGlobals x=some (some (.ref f))) (l:K.lookup f=some ⟨oc,od,.func (fnOf x x (A7 st) (AX st) (An st) (.ref T) kV doc pm an cdv ct),osl⟩)
   (c:codeIn K cdv x=true) (k:keepIn K (.ref f)=true):SrcD K mg x st T:=⟨f,_,Jo l c k,mg_of X G a,k⟩
section
variable {P:Program}{w:World}{K:PySem.W.Frag}{mg:Str->Option Value}{base:Heap}
theorem SrcD.okx {x:Str}{st:Stmt}{N ps:List Str}{k:Nat}{sp:Sp}{T:Addr}{dvs:List V}{ds:List Value}{tc:Value}{td:Option Addr}{tn:Nat}{tsl:Array (Option Value)}(S:SrcD K mg x st T)(lt:K.lookup T=some ⟨tc,td,.seq ds.toArray tn,tsl⟩)(sc:FnScope N ps (An st))
   (hA:∀(kV doc pm:Value) (an:Option Addr) (cdv ct:Value) (us:List Value),us.length=ps.length->∃k:Option (Array Value)->Sem (List (Str×Value)),
     bindArgs (fnOf x x (A7 st) (AX st) (An st) (.ref T) kV doc pm an cdv ct) ⟨us,[]⟩=seqItems? (.ref T) >>= k/\k (some ds.toArray)=pure (ps.zip us))
   (hD:∀(kV doc pm:Value) (an:Option Addr) (cdv ct:Value) (us:List Value),(us++ds).length=ps.length->∃k:Option (Array Value)->Sem (List (Str×Value)),
     bindArgs (fnOf x x (A7 st) (AX st) (An st) (.ref T) kV doc pm an cdv ct) ⟨us,[]⟩=seqItems? (.ref T) >>= k/\k (some ds.toArray)=pure (ps.zip (us++ds)))
   (v:Vals dvs ds) (len:∀vs H Q E,sp vs H Q E->vs.length=ps.length)
   (hbody:∀(f:Addr) (cdv:Value) (A:Around) (outer:List Env) (s:Shared) (H:Hp) (vs:List V) (Q:VK) (E:XK),Room k (A.deeper (envOfC x (An st) s.heap.objs.size f cdv))->sp vs H Q E ->
     ∃t,PSs (cxOf (CXe P w) P w K mg base N x (An st) f cdv A outer s H E) (AX st) t/\t { nx:=fun _ H'=>Q .non H',rt:=Q } (start N vs) H):DefD P w K mg base x (k+1) ps dvs sp:=by
 obtain⟨f,fd,F,hm,kp⟩:=S.ex;have ok:=Jp F sc len (hbody f);exact⟨⟨f,fd,ok,hm,kp,F.bindsA lt hA⟩,⟨f,fd,ds,ok,hm,kp,F.bindsD lt hD,v⟩⟩
end
section
variable {X:Cx}{x:Str}{j k:Nat}{ps:List Str}{sp:Sp}{dvs:List V}{p pos:Pos}{e:Expr}{es:List Expr}{t:TA}
end
end Stow
namespace Stow
open PySem L2 PyProof.Rows
inductive NumsP:List Value->List Value->List Int->List Int->Prop
 | nil:NumsP [] [] [] []
 | int {vs ws:List Value} {ns ms:List Int} (a:Int) (t:Tok) (c:Int) (u:Tok):NumsP vs ws ns ms->NumsP (.int a t::vs) (.int c u::ws) (a::ns) (c::ms)
 | bool {vs ws:List Value} {ns ms:List Int} (p q:Bool):NumsP vs ws ns ms->NumsP (.bool p::vs) (.bool q::ws) (b2i p::ns) (b2i q::ms)
theorem fP (A:Around)(s:Shared)(p q:Bool):∃e,SeqAt.EqAt A s (.bool p) (.bool q) e/\(e=true↔b2i p=b2i q) :=
 ⟨(p==q),SeqAt.EqAt.bool_bool p q,by cases p <;> cases q <;> decide⟩
theorem fQ (A:Around)(s:Shared)(p q:Bool)(prog:Program)(w:World)(E:Value->Shared->Prop)(Q:Value->Shared->Prop)(h:Q (.bool (decide (b2i p<b2i q))) s) :
   wpAny (model prog w) A (richCompare .Lt (.bool p) (.bool q)) Q E s :=
 (PyProof.Rows.lt_bool h:wpAny (model prog w) A (compareOp .Lt (.bool p) (.bool q)) Q E s)
section
open PySem.SeqAt
open PySem.AutoSeq1 (wpAny_loadPart')
open PySem.MeetsSeq PySem.MeetsSeq2 PySem.MeetsSeq3
theorem fR (l b:Addr)(items items2:Array Value)(n n2:Nat)(dd dd2:Option Addr)(sl sl2:Array (Option Value))(ns ms:List Int)(hi:NumsP items.toList items2.toList ns ms)(hz:items.size=items2.size) :
   Meets (Builtin.«tuple.__lt__» ⟨[.ref l,.ref b],[]⟩)
     (fun _ R s=>s.heap.get? l=some { cls:=.type "tuple",dict:=dd,data:=.seq items n,slots:=sl }/\s.heap.get? b=some { cls:=.type "tuple",dict:=dd2,data:=.seq items2 n2,slots:=sl2 } /\
       R (.ok (.ret (.bool (HT.lexLt ns ms)))) s) :=
 .of_wp fun prog w A R s h=>by
   obtain⟨hp,g,d,tk,os⟩:=s;obtain⟨hl,hb,h⟩:=h
   have f2:=AutoSeq1.sub_tuple_tuple
   wp_walk using wpAny_loadPart' hl,wpAny_loadPart' hb,wpAny_forIn_list _ (fun rest b s'=>b.1=none/\s'=⟨hp,g,d,tk,os⟩/\∃(vs ws:List Value) (ns' ms':List Int),rest=vs.zip ws /\
     NumsP vs ws ns' ms'/\R (.ok (.ret (.bool (HT.lexLt ns' ms')))) ⟨hp,g,d,tk,os⟩) _
   case turn =>
     rintro⟨y,x⟩ rest b s' ⟨hb',rfl,vs,ws,ns',ms',hz,hvi,hR⟩
     cases hvi with
     | nil=>rw[List.zip_nil_left] at hz;cases hz
     | int a t c u hvi' =>
         rw[List.zip_cons_cons] at hz
         injection hz with hyx hrest
         injection hyx with hy hx
         subst hy hx
         rw[HT.lexLt_cons] at hR
         obtain⟨e,he,hiff⟩:=HT.eqAt_int A.in1 ⟨hp,g,d,tk,os⟩ a t c u
         refine wpAny_bind (he prog w _ _ ?_)
         cases e with
         | true =>
           rw[if_pos (hiff.mp rfl)] at hR
           wp_walk
           exact⟨rfl,rfl,_,_,_,_,hrest,hvi',hR⟩
         | false =>
           rw[if_neg (fun q=>absurd (hiff.mpr q) Bool.false_ne_true)] at hR
           have hri:=HT.rcLt_int A.in1 ⟨hp,g,d,tk,os⟩ a t c u prog w
           wp_walk using hri
           exact⟨_,rfl,by simpa using hR⟩
     | bool a c hvi' =>
         rw[List.zip_cons_cons] at hz
         injection hz with hyx hrest
         injection hyx with hy hx
         subst hy hx
         rw[HT.lexLt_cons] at hR
         obtain⟨e,he,hiff⟩:=fP A.in1 ⟨hp,g,d,tk,os⟩ a c
         refine wpAny_bind (he prog w _ _ ?_)
         cases e with
         | true =>
           rw[if_pos (hiff.mp rfl)] at hR
           wp_walk
           exact⟨rfl,rfl,_,_,_,_,hrest,hvi',hR⟩
         | false =>
           rw[if_neg (fun q=>absurd (hiff.mpr q) Bool.false_ne_true)] at hR
           have hri:=fQ A.in1 ⟨hp,g,d,tk,os⟩ a c prog w
           wp_walk using hri
           exact⟨_,rfl,by simpa using hR⟩
   case fin =>
     rintro⟨b1,b2⟩ s' ⟨hb',rfl,vs,ws,ns',ms',hzz,hvi,hR⟩
     simp only at hb'
     subst hb'
     have hv:HT.lexLt ns' ms'=decide (items.size<items2.size):=by
       cases hvi with
       | nil =>
         rw[HT.lexLt_nil_nil];exact(decide_eq_false (by omega)).symm
       | int a t c u hv=>rw[List.zip_cons_cons] at hzz;cases hzz
       | bool a c hv=>rw[List.zip_cons_cons] at hzz;cases hzz
     rw[hv] at hR
     wp_walk
     exact⟨_,rfl,by simpa [Builtin.Tuple.tupleCompareSizes] using hR⟩
   case h =>
     exact⟨rfl,rfl,items.toList,items2.toList,ns,ms,rfl,hi,h⟩
end
section
variable {prog:Program}{w:World}{A:Around}{E:Value->Shared->Prop}{s:Shared}
theorem fT {l b:Addr}{items items2:Array Value}{ns ms:List Int}{Q:Value->Shared->Prop}(hl:IsTup s.heap l items)(hb:IsTup s.heap b items2)(hi:NumsP items.toList items2.toList ns ms)(hz:items.size=items2.size)
   (hu:A.units<cLine) (h:Q (.bool (HT.lexLt ns ms)) s):wpAny (model prog w) A (compareOp .Lt (.ref l) (.ref b)) Q E s:=by
 obtain⟨⟨cls,dd,data,sl⟩,ho,hc,n,hd⟩:=id hl;obtain⟨⟨cls2,dd2,data2,sl2⟩,FV,hc2,n2,hd2⟩:=id hb;simp only at hc hd hc2 hd2;subst hc hd hc2 hd2;exact richCompare_meets_room (op:=.Lt) ⟨_,ho,rfl⟩ ⟨_,FV,rfl⟩ PySem.F.slot_tuple_lt PySem.F.entry_tuple_lt (PySem.F.args_tuple_lt_2 _ _) (fR l b items items2 n n2 dd dd2 sl sl2 ns ms hi hz)
   ⟨ho,FV,show Value.bool (HT.lexLt ns ms)≠Value.notImplemented/\Q (.bool (HT.lexLt ns ms)) s from ⟨(fun x=>nomatch x),h⟩⟩ hu
end
abbrev K3:=Int×Int×Bool
def kv (x:K3):List V:=[.int x.1,.int x.2.1,.bl x.2.2]
def kn (x:K3):List Int:=[x.1,x.2.1,b2i x.2.2]
def k0:K3:=(0,0,false)
theorem fU {x y:K3}{us ws:List Value}(hx:Vals (kv x) us)(hy:Vals (kv y) ws):NumsP us ws (kn x) (kn y)/\us.length=3/\ws.length=3:=by
 cases hx with
 | cons a hx =>
   cases hx with
   | cons b hx =>
     cases hx with
     | cons c hx =>
       cases hx;cases hy with
       | cons a' hy =>
         cases hy with
         | cons b' hy =>
           cases hy with
           | cons c' hy =>
             cases hy;obtain⟨t1,rfl⟩:=a;obtain⟨t2,rfl⟩:=b;cases c;obtain⟨t3,rfl⟩:=a';obtain⟨t4,rfl⟩:=b';cases c';exact⟨.int _ _ _ _ (.int _ _ _ _ (.bool _ _ .nil)),rfl,rfl⟩
def Ga (xs:List K3):K3:=xs.getD (A3 (xs.map kn) (xs.length-1)) k0
section
variable {X:Cx}
theorem fV (hc:X.calm=true)(hu:X.A.units+64<cLine):DT X (.builtin "min") (fun vs H Q=>∃p us,∃xs:List K3,vs=[.ref p]/\H p=some (.lst us)/\AZ H us (xs.map kv)/\0<xs.length /\
   ∀t,H t=some (.tup (kv (Ga xs)))->Q (.ref t) H):=by
 intro pins s σ H vs us' Q I r h;obtain⟨p,us,xs,rfl,hp,ta,hn,q⟩:=h;obtain⟨u,rfl,rx⟩:∃u,us'=[u]/\RelV (.ref p) u:=by
   cases r with
   | cons a b=>cases b;exact⟨_,rfl,a⟩
 cases rx;obtain⟨its,r1,p1,_⟩:=I.list (SqL.of hp);have l1:=r1.length;have l2:=ta.1;rw[List.length_map] at l2;have kg:∀i,i<xs.length->(xs.map kn).getD i []=kn (xs.getD i k0):=fun i hi=>by simp [hi]
 have tups:∀i,i<xs.length->∃t its2,its[i]?=some (.ref t)/\us[i]?=some (.ref t)/\H t=some (.tup (kv (xs.getD i k0)))/\s.heap.IsTuple t (List.toArray its2)/\Vals (kv (xs.getD i k0)) its2:=fun i hi=>by
   obtain⟨t,e1,e2⟩:=ta.2 i (kv xs[i]) (by simp [hi]);obtain⟨u1,g1,q1⟩:=r1.get e1;cases q1;obtain⟨its2,r2,p2,_⟩:=I.tuple (SqT.of e2);have ex:xs.getD i k0=xs[i]:=by simp [hi]
   rw[ex];exact⟨t,its2,g1,e1,e2,p2,r2⟩
 have lt:p<s.heap.objs.size:=by obtain⟨_,e,_⟩:=p1.isList;exact Heap.lt_size e
 refine Xe (wpAny_pyIter_list p1.isList ?_);refine⟨s.heap.objs.size,[s.heap.objs.size,p],[s.heap.objs.size],its.toArray.size,fun i v=>its.toArray[i]?=some v,_,fun i j=>HT.lexLt ((xs.map kn).getD i []) ((xs.map kn).getD j []),fun (hh:Heap)=>∀(i:Nat) (t:Addr) (its2:List Value),its[i]?=some (Value.ref t)->s.heap.IsTuple t (List.toArray its2)->hh.IsTuple t (List.toArray its2),rfl,Walks.list (A:=X.A.in1) (I.ok.hd hc) _ p (Nat.ne_of_lt lt) its.toArray,
   ⟨⟨_,Heap.get?_push_size _ rfl,rfl,rfl⟩,p1.isList.push _⟩,?_,?_,?_,?_,?_,?_⟩
 . intro i t its2 _ ht;exact ht.push _
 . intro b hb;show b<(s.heap.push _).objs.size;rw[Heap.size_push];rcases List.mem_cons.mp hb with z | z
   . rw[z];exact Nat.lt_succ_self _
   . have:b=p:=by simpa using z
     rw[this];exact Nat.lt_succ_of_lt lt
 . rw[List.size_toArray];omega
 . intro i j x y t Q' E' kp pi pj hq;rw[List.getElem?_toArray] at pi pj;have hi:i<xs.length:=by have:=(List.getElem?_eq_some_iff.mp pi).1;omega
   have hj:j<xs.length:=by have:=(List.getElem?_eq_some_iff.mp pj).1;omega
   obtain⟨t1,s1,a1,_,_,b1,c1⟩:=tups i hi;obtain⟨t2,s2,a2,_,_,b2,c2⟩:=tups j hj;rw[a1] at pi;rw[a2] at pj;cases pi;cases pj;obtain⟨np,n1,n2⟩:=fU c1 c2;have hq2:Q' (.bool (HT.lexLt ((xs.map kn).getD i []) ((xs.map kn).getD j []))) t:=hq;rw[kg i hi,kg j hj] at hq2;exact fT (kp i t1 s1 a1 b1) (kp j t2 s2 a2 b2) np (by rw[List.size_toArray,List.size_toArray,n1,n2]) (by show X.A.units+1<cLine;omega) hq2
 . intro h h' kp kk i t its2 g ht;have e0:=kp i t its2 g ht;obtain⟨o,e,hcl,hd⟩:=ht;obtain⟨o',e',r'⟩:=e0;have lt':=Heap.lt_size e;refine⟨o',kk t o' (fun z=>?_) (Nat.ne_of_lt ?_) e',r'⟩
   . have z':t=s.heap.objs.size:=by simpa using z
     rw[z'] at lt';exact Nat.lt_irrefl _ lt'
   . show t<(s.heap.push _).objs.size;rw[Heap.size_push];exact Nat.lt_succ_of_lt lt'
 . intro v h' tk pv kk;rw[List.size_toArray,<-l1,l2,QE,List.getElem?_toArray] at pv;have hm:A3 (xs.map kn) (xs.length-1)<xs.length:=by have:=DZ (xs.map kn) (xs.length-1);omega
   obtain⟨t,its2,a1,a2,a3,_,_⟩:=tups _ hm;rw[a1] at pv;cases pv;refine⟨.ref t,H,?_,rfl,q t a3⟩;refine I.kept (t':=tk) fun b o e=>kk b o (fun z=>?_) (Heap.get?_push_of_some _ e);have:=Heap.lt_size e;have z':b=s.heap.objs.size:=by simpa using z
   rw[z'] at this;exact Nat.lt_irrefl _ this
end
end Stow
namespace Stow
open PySem L2 PyProof.Rows
theorem fW {H:Hp}{us ws:List V}{ps qs:List Pc}(h:AA H us ps)(g:AA H ws qs):AA H (us++ws) (ps++qs):=by
 refine⟨by rw[List.length_append,List.length_append,h.1,g.1],fun i y hy=>?_⟩;by_cases hi:i<ps.length
 . rw[List.getElem?_append_left hi] at hy;obtain⟨b,e1,e2⟩:=h.2 i y hy;exact⟨b,by rw[List.getElem?_append_left (by rw[h.1];exact hi)];exact e1,e2⟩
 . rw[List.getElem?_append_right (by omega)] at hy;obtain⟨b,e1,e2⟩:=g.2 _ y hy;exact⟨b,by rw[List.getElem?_append_right (by rw[h.1];omega),h.1];exact e1,e2⟩
theorem XT {H:Hp}{us:List V}{xs:List (List V)}(h:AZ H us xs){k:Int}(h0:0<=k)(h1:k<xs.length):∃t x,atI us k=some (.ref t)/\xs[k.toNat]?=some x/\H t=some (.tup x):=by
 have hi:k.toNat<xs.length:=by omega
 obtain⟨t,e1,e2⟩:=h.2 k.toNat xs[k.toNat] (by simp [hi]);refine⟨t,xs[k.toNat],?_,by simp [hi],e2⟩;have:=Ea e1
 rwa [Int.toNat_of_nonneg h0] at this
end Stow
namespace Stow
open PySem L2 PyProof.Rows
theorem lex3g (a b c d e f:Int):HT.lexLt [a,b,c] [d,e,f]=decide (a<d\/(a=d/\(b<e\/(b=e/\c<f)))):=by
 rw[HT.lexLt_cons];by_cases h1:a=d
 . rw[if_pos h1,HT.lexLt_cons];by_cases h2:b=e
   . rw[if_pos h2,HT.lexLt_cons];by_cases h3:c=f
     . rw[if_pos h3,HT.lexLt_nil_nil];exact(decide_eq_false (by omega)).symm
     . rw[if_neg h3]
       congr 1
       exact propext ⟨fun h=>by omega,fun h=>by omega⟩
   . rw[if_neg h2]
     congr 1
     exact propext ⟨fun h=>by omega,fun h=>by omega⟩
 . rw[if_neg h1]
   congr 1
   exact propext ⟨fun h=>by omega,fun h=>by omega⟩
theorem XU {xs:List (List Int)}(h3:∀k,k<xs.length->∃a b c,xs.getD k []=[a,b,c]):∀j,j<xs.length->∀k,k<=j->(xs.getD (A3 xs j) []).getD 0 0<=(xs.getD k []).getD 0 0
 | 0,hj,k,hk=>by
   have:k=0:=by omega
   subst this
   exact Int.le_refl _
 | j+1,hj,k,hk=>by
   have ih:=XU h3 j (by omega)
   have hm:=DZ xs j
   obtain⟨a,b,c,e1⟩:=h3 (j+1) hj
   obtain⟨d,e,f,e2⟩:=h3 (A3 xs j) (by omega)
   unfold A3
   rw[e1,e2,lex3g]
   by_cases hlt:(a<d\/(a=d/\(b<e\/(b=e/\c<f))))
   . rw[if_pos (decide_eq_true hlt)]
     by_cases ek:k=j+1
     . subst ek;exact Int.le_refl _
     . have:=ih k (by omega)
       rw[e2] at this
       rw[e1]
       have t2:d<=(xs.getD k []).getD 0 0:=this
       show a<=_
       omega
   . rw[if_neg (by rw[decide_eq_false hlt];exact Bool.false_ne_true)]
     by_cases ek:k=j+1
     . subst ek
       rw[e1,e2]
       show d<=a
       omega
     . exact ih k (by omega)
theorem kn3 (x:K3):∃a b c,kn x=[a,b,c]:=⟨_,_,_,rfl⟩
theorem fX {xs:List K3}{x:K3}(h:x∈xs):(Ga xs).1<=x.1:=by
 obtain⟨k,hk,rfl⟩:=List.mem_iff_getElem.mp h;have hl:(xs.map kn).length=xs.length:=List.length_map _;have kg:∀i,i<xs.length->(xs.map kn).getD i []=kn (xs.getD i k0):=fun i hi=>by simp [hi]
 have:=XU (xs:=xs.map kn) (fun k hk=>by rw[kg k (by omega)];exact kn3 _) (xs.length-1) (by omega) k (by omega);have hm:=DZ (xs.map kn) (xs.length-1);rw[kg _ (by omega),kg k hk] at this;have ex:xs.getD k k0=xs[k]:=by simp [hk]
 rw[ex] at this;exact this
theorem fY {xs:List K3}(h:0<xs.length):Ga xs∈xs:=by
 unfold Ga;have hm:=DZ (xs.map kn) (xs.length-1);have hm2:A3 (xs.map kn) (xs.length-1)<xs.length:=by omega
 have ex:xs.getD (A3 (xs.map kn) (xs.length-1)) k0=xs[A3 (xs.map kn) (xs.length-1)]:=by simp [hm2]
 rw[ex];exact List.getElem_mem hm2
def BE (cs:List Int)(k l:Int)(v:Bool):Int:=(if cs.getD k.toNat 0=mkOf l v then 0 else 1)+(if l=1\/cs.getD (k+l-1).toNat 0=mkOf l v then 0 else 1)
def fitA (e:Int)(v:Bool)(n:Nat):List Pc:=(List.range n).map fun a:Nat=>(⟨(a:Int),e-(a:Int),v⟩:Pc)
def fitP (e:Nat):List Pc:=fitA e false e++fitA e true (e-2)
theorem XV (e:Int)(v:Bool)(n:Nat):fitA e v (n+1)=fitA e v n++[⟨n,e-n,v⟩]:=by
 unfold fitA;rw[List.range_succ,List.map_append];rfl
theorem Gb (e:Int)(v:Bool)(n:Nat):(fitA e v n).length=n:=by unfold fitA;simp
theorem N6 {e:Int}{v:Bool}{n:Nat}{z:Pc}:z∈fitA e v n↔∃a:Nat,a<n/\z=⟨a,e-a,v⟩:=by
 unfold fitA;constructor
 . intro h;obtain⟨a,h1,h2⟩:=List.mem_map.mp h;exact⟨a,List.mem_range.mp h1,h2.symm⟩
 . rintro⟨a,h1,rfl⟩;exact List.mem_map.mpr ⟨a,List.mem_range.mpr h1,rfl⟩
theorem JC {e:Nat}{z:Pc}(h:z∈fitP e):0<=z.a/\1<=z.l/\z.a+z.l=e/\(z.v=true->3<=z.l):=by
 rcases List.mem_append.mp h with h | h
 . obtain⟨a,h1,rfl⟩:=N6.mp h;exact⟨by show (0:Int)<=a;omega,by show (1:Int)<=(e:Int)-a;omega,by show (a:Int)+((e:Int)-a)=e;omega,fun h=>by cases h⟩
 . obtain⟨a,h1,rfl⟩:=N6.mp h;exact⟨by show (0:Int)<=a;omega,by show (1:Int)<=(e:Int)-a;omega,by show (a:Int)+((e:Int)-a)=e;omega,fun _=>by show (3:Int)<=(e:Int)-a;omega⟩
def Ik (cs:List Int)(W:List K3)(z:Pc):K3:=((W.getD z.a.toNat k0).1+BE cs z.a z.l z.v,z.a,z.v)
def fitK (cs:List Int)(W:List K3)(e:Nat):List K3:=(fitP e).map (Ik cs W)
def wayF (cs:List Int):Nat->List K3
 | 0=>[k0]
 | e+1=>wayF cs e++[Ga (fitK cs (wayF cs e) (e+1))]
theorem Ee (cs:List Int):∀e,(wayF cs e).length=e+1
 | 0=>rfl
 | e+1=>by
   unfold wayF
   rw[List.length_append,Ee cs e]
   rfl
def wayG (cs:List Int)(e:Nat):K3:=(wayF cs e).getD e k0
theorem JD (cs:List Int):∀(n k:Nat),k<=n->(wayF cs n).getD k k0=wayG cs k
 | 0,k,h=>by
   have:k=0:=by omega
   subst this
   rfl
 | n+1,k,h=>by
   by_cases e:k=n+1
   . subst e;rfl
   . have:=JD cs n k (by omega)
     rw[<-this]
     show (wayF cs n++[_]).getD k k0=_
     rw[List.getD_eq_getElem?_getD,List.getD_eq_getElem?_getD,List.getElem?_append_left (by rw[Ee];omega)]
theorem XW (cs:List Int)(e:Nat):wayG cs (e+1)=Ga (fitK cs (wayF cs e) (e+1)):=by
 show (wayF cs e++[_]).getD (e+1) k0=_;rw[List.getD_eq_getElem?_getD,List.getElem?_append_right (by rw[Ee];omega),Ee,Nat.sub_self];rfl
theorem XX (e:Nat):0<(fitP (e+1)).length:=by
 unfold fitP;rw[List.length_append,Gb];omega
theorem XY (cs:List Int){e:Nat}{z:Pc}(h:z∈fitP (e+1)):(wayG cs (e+1)).1<=(wayG cs z.a.toNat).1+BE cs z.a z.l z.v:=by
 obtain⟨z0,z1,z2,_⟩:=JC h;rw[XW];have:=fX (xs:=fitK cs (wayF cs e) (e+1)) (List.mem_map.mpr ⟨z,h,rfl⟩);unfold Ik at this;rw[JD cs e z.a.toNat (by omega)] at this;exact this
theorem XZ (cs:List Int)(e:Nat):∃z∈fitP (e+1),wayG cs (e+1)=((wayG cs z.a.toNat).1+BE cs z.a z.l z.v,z.a,z.v):=by
 have hp:=XX e;have:=fY (xs:=fitK cs (wayF cs e) (e+1)) (by unfold fitK;rw[List.length_map];exact hp);obtain⟨z,hz,ez⟩:=List.mem_map.mp this;obtain⟨z0,z1,z2,_⟩:=JC hz;refine⟨z,hz,?_⟩;rw[XW,<-ez];unfold Ik;rw[JD cs e z.a.toNat (by omega)]
def Br (cs:List Int)(e:Nat):Int:=(wayG cs e).1
theorem N7 (cs:List Int):Br cs 0=0:=rfl
theorem Q2 (cs:List Int){a e:Nat}(h:a<e):Br cs e<=Br cs a+BE cs a ((e:Int)-a) false:=by
 obtain⟨d,rfl⟩:∃d,e=d+1:=⟨e-1,by omega⟩
 have:=XY cs (e:=d) (z:=⟨a,((d+1:Nat):Int)-a,false⟩) (List.mem_append.mpr (.inl (N6.mpr ⟨a,by omega,rfl⟩)));exact this
theorem Q3 (cs:List Int){a e:Nat}(h:a+3<=e):Br cs e<=Br cs a+BE cs a ((e:Int)-a) true:=by
 obtain⟨d,rfl⟩:∃d,e=d+1:=⟨e-1,by omega⟩
 have:=XY cs (e:=d) (z:=⟨a,((d+1:Nat):Int)-a,true⟩) (List.mem_append.mpr (.inr (N6.mpr ⟨a,by omega,rfl⟩)));exact this
def N8 (cs:List Int)(a e:Nat):Int:=if 3<=(e:Int)-a then (if Br cs a+BE cs a ((e:Int)-a) true<Br cs a+BE cs a ((e:Int)-a) false then Br cs a+BE cs a ((e:Int)-a) true else Br cs a+BE cs a ((e:Int)-a) false) else Br cs a+BE cs a ((e:Int)-a) false
theorem fZ (cs:List Int){a e:Nat}(h:a<e):Br cs e<=N8 cs a e:=by
 have h1:=Q2 cs h;unfold N8
 split
 . have h2:=Q3 cs (a:=a) (e:=e) (by omega)
   split <;> omega
 . exact h1
theorem price_met (cs:List Int){e:Nat}(h:0<e):∃a,a<e/\Br cs e=N8 cs a e:=by
 obtain⟨d,rfl⟩:∃d,e=d+1:=⟨e-1,by omega⟩
 obtain⟨z,hz,ez⟩:=XZ cs d;have h1:Br cs (d+1)=Br cs z.a.toNat+BE cs z.a z.l z.v:=congrArg (·.1) ez;obtain⟨z0,z1,z2,z3⟩:=JC hz;have ha:z.a.toNat<d+1:=by omega
 have hle:=fZ cs ha;refine⟨z.a.toNat,ha,?_⟩;have el:z.l=((d+1:Nat):Int)-(z.a.toNat:Int):=by omega
 have ea:z.a=((z.a.toNat:Nat):Int):=by omega
 generalize z.a.toNat=a at *;rw[el,ea] at h1;have hf:=Q2 cs ha;unfold N8 at hle ⊢;cases hv:z.v with
 | false =>
   rw[hv] at h1
   split
   . rename_i h3;rw[if_pos h3] at hle
     split at hle
     . rename_i h4;rw[if_pos h4];have h2:=Q3 cs (a:=a) (e:=d+1) (by omega);omega
     . rename_i h4;rw[if_neg h4];exact h1
   . exact h1
 | true =>
   rw[hv] at h1;have h3:(3:Int)<=((d+1:Nat):Int)-(a:Int):=by have:=z3 hv;omega
   rw[if_pos h3] at hle ⊢
   split
   . exact h1
   . rename_i h4;rw[if_neg h4] at hle;omega
end Stow
namespace Stow
open PySem L2 PyProof.Rows
def df (cs ds:List Int)(a:Nat):Nat->Int
 | 0=>0
 | n+1=>df cs ds a n+(if cs.getD (a+n) 0=ds.getD (a+n) 0 then 0 else 1)
theorem JE (cs ds:List Int)(a n:Nat):∀m,df cs ds a (n+m)=df cs ds a n+df cs ds (a+n) m
 | 0=>by simp [df]
 | m+1=>by
   show df cs ds a (n+m)+(if cs.getD (a+(n+m)) 0=ds.getD (a+(n+m)) 0 then 0 else 1)=df cs ds a n+(df cs ds (a+n) m+(if cs.getD (a+n+m) 0=ds.getD (a+n+m) 0 then 0 else 1))
   rw[JE cs ds a n m,show a+(n+m)=a+n+m by omega]
   omega
theorem N9 (cs ds:List Int)(a:Nat):∀n,0<=df cs ds a n
 | 0=>Int.le_refl _
 | n+1=>by
   have:=N9 cs ds a n
   show 0<=df cs ds a n+_
   split <;> omega
theorem Oa {cs ds:List Int}{a:Nat}:∀{n:Nat},(∀k,a<=k->k<a+n->cs.getD k 0=ds.getD k 0)->df cs ds a n=0
 | 0,_=>rfl
 | n+1,h=>by
   show df cs ds a n+_=0
   rw[Oa (n:=n) (fun k h1 h2=>h k h1 (by omega)),if_pos (h (a+n) (by omega) (by omega))]
   rfl
theorem X0 {cs ds es:List Int}{a:Nat}:∀{n:Nat},(∀k,a<=k->k<a+n->es.getD k 0=ds.getD k 0)->df cs ds a n=df cs es a n
 | 0,_=>rfl
 | n+1,h=>by
   show df cs ds a n+_=df cs es a n+_
   rw[X0 (n:=n) (fun k h1 h2=>h k h1 (by omega)),h (a+n) (by omega) (by omega)]
theorem Ob (cs ds:List Int)(a:Nat):df cs ds a 1=if cs.getD a 0=ds.getD a 0 then 0 else 1:=by
 show (0:Int)+_=_;rw[Int.zero_add];rfl
theorem gA {cs ds:List Int}{a n:Nat}{v:Bool}(hn:1<=n)(h1:ds.getD a 0=mkOf n v)(h2:ds.getD (a+n-1) 0=mkOf n v)(h:∀k,a<k->k+1<a+n->cs.getD k 0=ds.getD k 0):df cs ds a n=BE cs a n v:=by
 unfold BE;rw[show ((a:Nat):Int).toNat=a by omega];by_cases e:n=1
 . subst e;rw[Ob,h1,if_pos (show ((1:Nat):Int)=1\/_ from .inl rfl),Int.add_zero]
 . obtain⟨m,rfl⟩:∃m,n=1+(m+1):=⟨n-2,by omega⟩
   rw[show ((a:Nat):Int)+((1+(m+1):Nat):Int)-1=((a+1+m:Nat):Int) by omega,Int.toNat_natCast];rw[show a+(1+(m+1))-1=a+1+m by omega] at h2;rw[JE,Ob,h1];show _+(df cs ds (a+1) m+_)=_;rw[Oa (n:=m) (fun k g1 g2=>h k (by omega) (by omega)),h2,Int.zero_add]
   congr 1
   by_cases hc:cs.getD (a+1+m) 0=mkOf ((1+(m+1):Nat):Int) v
   . rw[if_pos hc,if_pos (.inr hc)]
   . rw[if_neg hc,if_neg (fun z=>z.elim (fun z=>by omega) hc)]
theorem gB {cs ds:List Int}{a n:Nat}{v:Bool}(hn:1<=n)(h1:ds.getD a 0=mkOf n v)(h2:ds.getD (a+n-1) 0=mkOf n v):BE cs a n v<=df cs ds a n:=by
 unfold BE;rw[show ((a:Nat):Int).toNat=a by omega];by_cases e:n=1
 . subst e;rw[Ob,h1,if_pos (show ((1:Nat):Int)=1\/_ from .inl rfl),Int.add_zero];exact Int.le_refl _
 . obtain⟨m,rfl⟩:∃m,n=1+(m+1):=⟨n-2,by omega⟩
   rw[show ((a:Nat):Int)+((1+(m+1):Nat):Int)-1=((a+1+m:Nat):Int) by omega,Int.toNat_natCast];rw[show a+(1+(m+1))-1=a+1+m by omega] at h2;rw[JE,Ob,h1];have hm:=N9 cs ds (a+1) m;show _<=_+(df cs ds (a+1) m+_);rw[h2];by_cases hc:cs.getD (a+1+m) 0=mkOf ((1+(m+1):Nat):Int) v
   . rw[if_pos (show ((1+(m+1):Nat):Int)=1\/cs.getD (a+1+m) 0=mkOf ((1+(m+1):Nat):Int) v from .inr hc),if_pos hc];omega
   . rw[if_neg (show ¬(((1+(m+1):Nat):Int)=1\/cs.getD (a+1+m) 0=mkOf ((1+(m+1):Nat):Int) v) from fun z=>z.elim (fun z=>by omega) hc),if_neg hc];omega
theorem Oc {ns:List Int}{k:Nat}{x:Int}(h:ns[k]?=some x):ns.getD k 0=x:=by rw[List.getD_eq_getElem?_getD,h];rfl
theorem Od {cs ds:List Int}:∀{ps:List Pc} {s e:Nat},Ag s ps e->Ao ds ps->Br cs e<=Br cs s+df cs ds s (e-s)
 | [],s,e,c,_=>by
   have c:(s:Int)=e:=c
   have:s=e:=by omega
   subst this
   rw[Nat.sub_self]
   show _<=_+(0:Int)
   omega
 | z::r,s,e,c,m=>by
   obtain⟨ea,h1,h3,c2⟩:=c
   have hle:=c2.le
   obtain⟨n,en⟩:∃n:Nat,z.l=n:=⟨z.l.toNat,by omega⟩
   rw[en] at c2
   have ih:=Od (s:=s+n) (e:=e) (ps:=r) (cs:=cs) (ds:=ds) (by rw[show ((s+n:Nat):Int)=(s:Int)+n by omega];exact c2) (fun p hp=>m p (List.mem_cons_of_mem _ hp))
   obtain⟨m1,m2⟩:=m z List.mem_cons_self
   have g1:=Oc m1
   have g2:=Oc m2
   have e1:z.mk'=mkOf n z.v:=by show mkOf z.l z.v=_;rw[en]
   rw[ea,show ((s:Nat):Int).toNat=s by omega,e1] at g1
   rw[ea,en,show ((s:Nat):Int)+((n:Nat):Int)-1=((s+n-1:Nat):Int) by omega,Int.toNat_natCast,e1] at g2
   have hl:=gB (cs:=cs) (a:=s) (n:=n) (v:=z.v) (by omega) g1 g2
   have hes:s+n<=e:=by rw[en] at hle;omega
   have hd:=JE cs ds s n (e-(s+n))
   rw[show n+(e-(s+n))=e-s by omega] at hd
   have hp:Br cs (s+n)<=Br cs s+BE cs s n z.v:=by
     cases hv:z.v with
     | false =>
       have:=Q2 cs (a:=s) (e:=s+n) (by omega);rw[show ((s+n:Nat):Int)-(s:Int)=n by omega] at this;exact this
     | true =>
       have:=h3 hv;have:=Q3 cs (a:=s) (e:=s+n) (by omega);rw[show ((s+n:Nat):Int)-(s:Int)=n by omega] at this;exact this
   omega
structure Mnd (cs:List Int)(e:Nat)(R:List Int):Prop where
 len:R.length=cs.length
 le:e<=cs.length
 low:∀k,k<e->R[k]?=cs[k]?
 rest:∃rs,Ag e rs cs.length/\Ao R rs
 cost:df cs R e (cs.length-e)=Br cs cs.length-Br cs e
theorem Mnd.start (cs:List Int):Mnd cs cs.length cs:=⟨rfl,Nat.le_refl _,fun _ _=>rfl,⟨[],rfl,Ao.nil _⟩,by rw[Nat.sub_self,Int.sub_self];rfl⟩
theorem way_at (cs:List Int){e:Nat}(h:0<e):∃(a n:Nat) (v:Bool),1<=n/\a+n=e/\(v=true->3<=n)/\wayG cs e=(Br cs a+BE cs a n v,(a:Int),v):=by
 obtain⟨d,rfl⟩:∃d,e=d+1:=⟨e-1,by omega⟩
 obtain⟨z,hz,ez⟩:=XZ cs d;obtain⟨z0,z1,z2,z3⟩:=JC hz;have e1:z.a=((z.a.toNat:Nat):Int):=by omega
 have e2:z.l=((z.l.toNat:Nat):Int):=by omega
 refine⟨z.a.toNat,z.l.toNat,z.v,by omega,by omega,fun h=>by have:=z3 h;omega,?_⟩;rw[ez,<-e1,<-e2];rfl
theorem Mnd.step {cs R:List Int}{a n:Nat}{v:Bool}(m:Mnd cs (a+n) R)(hn:1<=n)(h3:v=true->3<=n)(hw:wayG cs (a+n)=(Br cs a+BE cs a n v,(a:Int),v)):Mnd cs a (AM R a n v):=by
 obtain⟨hl,hle,hlow,⟨rs,c,mk⟩,hcost⟩:=m;have hlen:(AM R a n v).length=cs.length:=by rw[Cf];exact hl
 have out:∀j:Nat,((j:Int)<a\/(a:Int)+n<=j)->(AM R a n v)[j]?=R[j]?:=fun j h=>HZ (by omega) (by omega) h;have f1:=Qn (cs:=R) (k:=a) (l:=n) (v:=v) (by omega) (by omega) (by omega);have f2:=Qo (cs:=R) (k:=a) (l:=n) (v:=v) (by omega) (by omega) (by omega);rw[show ((a:Nat):Int).toNat=a by omega] at f1;rw[show ((a:Nat):Int)+((n:Nat):Int)-1=((a+n-1:Nat):Int) by omega,Int.toNat_natCast] at f2;refine⟨hlen,by omega,fun k hk=>(out k (.inl (by omega))).trans (hlow k (by omega)),⟨⟨a,n,v⟩::rs,⟨rfl,by show (1:Int)<=n;omega,fun h=>by have:=h3 h;show (3:Int)<=n;omega,by show Ag ((a:Int)+n) rs cs.length;rw[show (a:Int)+n=((a+n:Nat):Int) by omega];exact c⟩,?_⟩,?_⟩
 . have:=Ao.lay (cs:=R) (ds:=[]) (rs:=rs) (k:=a) (l:=n) (v:=v) (by omega) (by omega) (by omega) (fun p hp=>by cases hp) (by rw[show (a:Int)+n=((a+n:Nat):Int) by omega];exact c.fromOn) mk;exact this
 . have e1:Br cs (a+n)=Br cs a+BE cs a n v:=congrArg (·.1) hw;have hd:=JE cs (AM R a n v) a n (cs.length-(a+n));rw[show n+(cs.length-(a+n))=cs.length-a by omega] at hd;have hp:df cs (AM R a n v) a n=BE cs a n v:=gA hn (Oc f1) (Oc f2) (fun k h1 h2=>by
     have:(AM R a n v)[k]?=R[k]?:=by
       unfold AM;rw[List.getElem?_set_ne (by omega),List.getElem?_set_ne (by omega)]
     rw[List.getD_eq_getElem?_getD,List.getD_eq_getElem?_getD,this,hlow k (by omega)])
   have hq:df cs (AM R a n v) (a+n) (cs.length-(a+n))=df cs R (a+n) (cs.length-(a+n)):=X0 (fun k h1 h2=>by
     rw[List.getD_eq_getElem?_getD,List.getD_eq_getElem?_getD,out k (.inr (by omega))])
   omega
theorem Mnd.fin {cs R:List Int}(m:Mnd cs 0 R):R.length=cs.length/\(∃rs,Ag 0 rs R.length/\Ao R rs)/\df cs R 0 cs.length=Br cs cs.length:=by
 obtain⟨hl,_,_,⟨rs,c,mk⟩,hcost⟩:=m;refine⟨hl,⟨rs,by rw[hl];exact c,mk⟩,?_⟩;rw[Nat.sub_zero,N7,Int.sub_zero] at hcost;exact hcost
theorem X1 {cs ds:List Int}{a:Nat}:∀{n:Nat},df cs ds a n=0->∀k,a<=k->k<a+n->cs.getD k 0=ds.getD k 0
 | 0,_,k,h1,h2=>by omega
 | n+1,h,k,h1,h2=>by
   have h0:=N9 cs ds a n
   have h:df cs ds a n+(if cs.getD (a+n) 0=ds.getD (a+n) 0 then 0 else 1)=0:=h
   by_cases e:cs.getD (a+n) 0=ds.getD (a+n) 0
   . rw[if_pos e] at h
     by_cases ek:k=a+n
     . subst ek;exact e
     . exact X1 (n:=n) (by omega) k h1 (by omega)
   . rw[if_neg e] at h
     omega
theorem df_eq {cs ds:List Int}(hl:ds.length=cs.length)(h:df cs ds 0 cs.length=0):ds=cs:=by
 refine List.ext_getElem? fun k=>?_;by_cases hk:k<cs.length
 . have:=X1 h k (by omega) (by omega);rw[List.getElem?_eq_getElem (by omega),List.getElem?_eq_getElem hk];rw[List.getD_eq_getElem?_getD,List.getD_eq_getElem?_getD,List.getElem?_eq_getElem (by omega),List.getElem?_eq_getElem (by omega)] at this;exact congrArg some this.symm
 . rw[List.getElem?_eq_none (by omega),List.getElem?_eq_none (by omega)]
theorem gD (cs:List Int)(a n:Nat):df cs cs a n=0:=Oa fun _ _ _=>rfl
theorem Mnd.same {cs R:List Int}{ps:List Pc}(m:Mnd cs 0 R)(c:Ag 0 ps cs.length)(mk:Ao cs ps):R=cs:=by
 obtain⟨hl,_,hcost⟩:=m.fin;have h:=Od (cs:=cs) (ds:=cs) (s:=0) (e:=cs.length) c mk;rw[Nat.sub_zero,gD,N7] at h;have:=N9 cs R 0 cs.length;exact df_eq hl (by omega)
end Stow
namespace Stow
open PySem L2 PyProof.Rows
def xThen (t:TX)(u:TS):TXS:=fun D EX σ H=>t σ H (fun _ H2=>u D σ H2) EX
theorem gF {X:Cx}{e:Expr}{t:TX}{epos:Pos}{ss:List Stmt}{u:TS}(he:PX X e t)(h2:PSs X.nox ss u)(hsw:swapsWith e none epos.line X.env=pure false:=by rfl):PXS X (.Expr e epos::ss) (xThen t u):=by
 intro pins s σ H D EX Qp W I h hv hx;exact wpAny_execs_cons (wpAny_Expr_any (he pins s σ H _ _ _ _ I h (fun v s' ⟨_,H2,I2,_,q2⟩=>wpAny_mono (h2 pins s' σ H2 D (I2.wish _) q2) (fun f s1 q=>hv f s1 (SP.unwish q)) (fun _ _ z=>z.elim)) hx) I.quiet hsw)
theorem gG {σ:L2.St}{H:Hp}{D:Ends}{EX:XK}{t:TX}{u:TS}(h:t σ H (fun _ H2=>u D σ H2) EX):xThen t u D EX σ H:=h
def gH:V->List V->Hp->VK->Prop:=fun x vs H Q=>∃(l:Addr) (ns:List Int) (k:Int),x = .ref l/\vs=[.int k]/\H l=some (.lst (ns.map V.int))/\k∈ns/\Q .non (upd H l (.lst ((ns.erase k).map V.int)))
theorem X2:∀{ns:List Int} {us:List Value} {k:Int},Vals (ns.map V.int) us->k∈ns->∃(j:Nat) (hj:j<us.length),isInt k us[j]=true/\(∀m (hm:m<us.length),m<j->isInt k us[m]=false)/\Vals ((ns.erase k).map V.int) (us.eraseIdx j)
 | n::ns,_,k,.cons ⟨t,e⟩ r,h=>by
   subst e
   by_cases hk:n=k
   . subst hk
     exact⟨0,Nat.zero_lt_succ _,by simp [isInt],fun m _ h=>absurd h (Nat.not_lt_zero _),by rw[List.erase_cons_head];exact r⟩
   . have h2:k∈ns:=(List.mem_cons.mp h).resolve_left (fun e=>hk e.symm)
     obtain⟨j,hj,h3,h4,h5⟩:=X2 r h2
     refine⟨j+1,Nat.succ_lt_succ hj,h3,fun m hm hlt=>?_,?_⟩
     . cases m with
       | zero=>simp [isInt,hk]
       | succ m=>exact h4 m (Nat.lt_of_succ_lt_succ hm) (Nat.lt_of_succ_lt_succ hlt)
     . rw[List.erase_cons_tail (by simpa using hk)]
       exact .cons ⟨t,rfl⟩ h5
theorem gJ {X:Cx}:MtM X "list.remove" gH:=by
 intro pins s σ H x vs v us Q I rx rv h;obtain⟨l,ns,k,rfl,rfl,hH,hk,q⟩:=h;cases rx;obtain⟨u,rfl,t,rfl⟩:=rv.one;obtain⟨z0,its,n,r,hl,e⟩:=I.lstM hH;obtain⟨j,hj,h1,h2,h3⟩:=X2 r hk;have ei:∀y,y∈its.toArray->MeetsSeq.EqGives y (.int k t) (isInt k y):=fun y hy=>by
   obtain⟨i,hi,rfl⟩:=List.mem_iff_getElem.mp (show y∈its by simpa using hy);have hi2:i<ns.length:=by rw[List.length_map] at hl;omega
   obtain⟨w,hw,t2,rfl⟩:=r.get (show (ns.map V.int)[i]?=some (.int ns[i]) by rw[List.getElem?_map,List.getElem?_eq_getElem hi2];rfl);rw[List.getElem?_eq_getElem hi] at hw;rw[Option.some.inj hw];exact MeetsSeq.EqGives.int _ k t2 t
 refine call_meets F.slot_list_remove ⟨_,e,rfl⟩ F.entry_list_remove (F.args_list_remove_2 _ _) (MeetsSeq.list_remove l its.toArray n (.int k t) (isInt k) ei j (by simpa using hj) (by simpa using h1) (fun m hm hlt=>by simpa using h2 m (by simpa using hm) hlt) (by rw[List.size_toArray];omega)) ⟨e,?_⟩;refine⟨.non,_,I.lset (its':=its.eraseIdx j) hH e ?_ h3 ?_,rfl,q⟩
 . apply Array.toList_inj.mp;simp [Array.toList_eraseIdxIfInBounds]
 . have:=List.length_erase_le (a:=k) (l:=ns);rw[List.length_map] at z0 ⊢;omega
theorem Ji:∀{us:List Value} {ns:List Int},IntsAre us ns->Vals (ns.map V.int) us
 | _,_,.nil=>.nil
 | _,_,.cons n t h=>.cons ⟨t,rfl⟩ (Ji h)
theorem gK {X:Cx}(hc:X.calm=true):DT X (.builtin "sorted") (fun xs H Q=>∃p,∃ns:List Int,xs=[.ref p]/\SqL X.K H p (ns.map V.int)/\ns.length<64/\∀D (ms:List Int),H D=none->ms.Perm ns->ms.Pairwise (·<=·)->Q (.ref D) (upd H D (.lst (ms.map V.int)))):=by
 intro pins s σ H xs us Q I r h;obtain⟨p,ns,rfl,hp,h64,q⟩:=h;obtain⟨u,rfl,rx⟩:=P1 r;cases rx;obtain⟨its,r1,p1,_⟩:=I.list hp;have l1:=r1.length;rw[List.length_map] at l1;refine sorted_ints p1.isList (Nw r1) (by omega) fun out ns' a1 a2 a3=>?_;obtain⟨c,hc'⟩:=sortedAll_at s.heap its out;exact⟨.ref (s.heap.objs.size+1),_,I.laid (t':=s.toks) (fun _ _=>sortedAll_old) (Nat.le_succ _) (show BW X.prog X.w _ _ _ (.lst (ns'.map V.int)) from ⟨by rw[List.length_map,a2.length_eq,sizeLine_eq];omega,out.toList,c,Ji a1,by rw[Array.toArray_toList];exact hc'⟩),rfl,q _ ns' (I.hok.fresh (Nat.le_succ _)) a2 a3⟩
end Stow
namespace Stow
open PySem L2 PyProof.Rows
section
variable {X:Cx}{x:Str}{j k:Nat}{ps:List Str}{sp:Sp}{dvs:List V}{p pos:Pos}{e:Expr}{es:List Expr}{t:TA}
theorem gL (D:DefD X.prog X.w X.K X.mg X.base x j ps dvs sp)(hr:Room k X.A)(hg:Gl X x)(ha:PA X (e::es) t)(hk:j<=k:=by decide)
   (hdb:(x==("__debug__":Str))=false:=by decide) (he:starEach (e::es) X.env=(false,eval e X.env)::starEach es X.env:=by rfl) (hpl:(backTo pos (starEach es X.env)).any (·.1)=false:=by rfl):PE X (.Call (.Name x p) (e::es) [] pos) (F1 sp dvs E0 t):=by
 obtain⟨f,fd,ds,F,hm,kp,b,v⟩:=D.less;exact P3 F (hr.mono hk) hg hm kp b v B0 ha hdb he hpl
theorem gM {σ:L2.St}{H:Hp}{Q:VK}{E:XK}(h:t σ H fun vs H1=>sp (vs++dvs) H1 Q E):F1 sp dvs E t σ H Q:=h
end
end Stow
def Stow.wA (l:List Lean.Name):Array (Lean.TSyntax ``Lean.Parser.Tactic.tacticSeq):=Lean.Unhygienic.run (l.toArray.mapM fun n=>`(tacticSeq| with_reducible refine $(Lean.mkIdent n) ?_))
local macro_rules
 | `(tactic| walk_at "set")=>`(tactic| first
   | exact Stow.set0_c
   | exact Stow.set0_1
   | exact Stow.set0_0
   | ((refine Stow.setS_c (r:=?r) ?h);(case h=>walk_at "set"))
   | ((refine Stow.setS_1 (r:=?r) ?h);(case h=>walk_at "set"))
   | ((refine Stow.setS_0 (r:=?r) ?h);(case h=>walk_at "set")))
local macro_rules
 | `(tactic| walk_at "look")=>`(tactic| first
   | with_reducible assumption
   | exact L2.upd_same
   | ((with_reducible refine Stow.look_ne ?a ?b);(case a=>(first | assumption | exact Ne.symm (by assumption)));(case b=>walk_at "look"))
   | ((with_reducible refine Stow.look_put ?a ?b);(case a=>(first | assumption | walk_at "look"));(case b=>walk_at "look"))
   | ((with_reducible refine Stow.look_tup (ys:=?ys) ?a ?b);(case a=>walk_at "look");(case b=>walk_at "look"))
   | assumption)
local macro_rules
 | `(tactic| walk_at "seq")=>`(tactic| first
   | with_reducible assumption
   | exact L2.SqL.of (by walk_at "look")
   | ((with_reducible refine Stow.seq_put ?a ?b);(case a=>assumption);(case b=>walk_at "seq"))
   | assumption)
local macro_rules
 | `(tactic| walk_at "num")=>`(tactic| first | assumption | omega | (simp only [List.length_map,List.length_set,List.length_append,List.length_cons,List.length_nil] <;> omega))
local macro_rules
 | `(tactic| walk_at "size")=>`(tactic| first | exact Stow.small4000 (by first | omega | (simp only [List.length_map,List.length_set,List.length_append,List.length_cons,List.length_nil] <;> omega)))
local macro_rules
 | `(tactic| walk_at "side")=>`(tactic| first
   | (show (0:Int)<_;first | decide | omega)
   | (show (0:Int)<=_;first | decide | omega)
   | exact Or.inr ⟨by decide,by decide⟩
   | exact Or.inl ⟨by decide,by decide⟩
   | exact⟨by decide,by decide⟩
   | exact⟨by decide,by decide,by decide⟩
   | exact⟨by decide,by decide,by assumption⟩
   | exact⟨by decide,by decide,by omega⟩
   | exact⟨by omega,by omega,by decide⟩
   | exact Or.inr ⟨by omega,by omega⟩
   | exact Or.inl ⟨by omega,by omega⟩
   | exact⟨by omega,by omega⟩)
local macro_rules
 | `(tactic| walk_at "ty")=>`(tactic| first | exact L2.TyOf.int _ | exact L2.TyOf.bl _ | exact L2.TyOf.non | ((refine L2.TyOf.lst (xs:=?xs) ?h);(case h=>walk_at "look")) | ((refine L2.TyOf.tup (xs:=?xs) ?h);(case h=>walk_at "look")) | exact L2.TyOf.str _)
local macro_rules
 | `(tactic| walk_at "kit")=>`(tactic| first | exact Stow.kit_ii | exact Stow.kit_ib | exact Stow.kit_bb | exact Stow.kit_ll | exact Stow.kit_tt)
local macro_rules
 | `(tactic| walk_at "sp")=>`(tactic| fail "no promise")
def Stow.wq0:=Stow.wA [`Stow.r_seq,`Stow.r_chain,`Stow.r_asg]
def Stow.wq1:=Stow.wA [`Stow.r_gname,`Stow.r_op,`Stow.r_cons,`Stow.r_nil,`Stow.r_c,`Stow.r_rI0,`Stow.r_call,`Stow.r_cb,`Stow.r_test,`Stow.r_tB,`Stow.r_bl,`Stow.r_ifS,`Stow.r_ret,`Stow.r_rt,`Stow.r_drop,`Stow.r_next,`Stow.r_not,`Stow.r_and,`Stow.r_or,`Stow.r_andV,`Stow.r_orV,`Stow.r_notV,`Stow.r_ifE,`Stow.r_ifN,`Stow.r_eqI,`Stow.r_neI,`Stow.r_isN,`Stow.r_int,`Stow.r_eqB,`Stow.r_neB,`Stow.r_tup,`Stow.r_lst,`Stow.r_bm,`Stow.r_bm0,`Stow.r_sl,`Stow.r_part,`Stow.r_nopart,`Stow.r_un,`Stow.r_rU,`Stow.r_intB,`Stow.r_intI,`Stow.r_truB,`Stow.r_gsub,`Stow.r_retN,`Stow.r_ct,`Stow.r_bk,`Stow.r_break,`Stow.r_cont,`L2.iteT,`L2.iteF]
def Stow.wq2:=Stow.wA [`Stow.r_raise,`Stow.r_raiseI,`Stow.r_tryAs,`Stow.r_try,`Stow.r_fldX,`Stow.r_for,`Stow.r_iL,`Stow.r_iR1,`Stow.r_iR2,`Stow.r_comp]
def Stow.wq3:=Stow.wA [`Stow.r_makeX,`Stow.r_makeI,`Stow.r_fldN]
def Stow.wq4:=Stow.wA [`Stow.r_tryE,`Stow.r_tryA,`Stow.r_xCall,`Stow.r_tryS,`Stow.r_xSet,`Stow.r_xIf,`Stow.r_xMeth,`Stow.r_xMethD,`Stow.r_xMake,`Stow.r_methD,`Stow.r_isB]
local macro_rules
 | `(tactic| walk_at "st")=>`(tactic| first
   | ((with_reducible refine Stow.r_var (v:=?v) ?e ?_);(case e=>exact rfl))
   $[| $(Stow.wq0):tacticSeq]*
   | ((with_reducible refine Stow.r_gnameN (σ':=?s) ?e ?_);(case e=>with_reducible (walk_at "set")))
   $[| $(Stow.wq1):tacticSeq]*
   | ((with_reducible refine Stow.r_rI ?c ?_);(case c=>walk_at "side"))
   | ((with_reducible refine Stow.r_tyL (xs:=?xs) ?h ?_);(case h=>walk_at "look"))
   | ((with_reducible refine Stow.r_appendI (ns:=?ns) ?h ?z ?_);(case h=>walk_at "look");(case z=>walk_at "size"))
   | ((with_reducible refine Stow.r_append (xs:=?xs) ?h ?z ?_);(case h=>walk_at "look");(case z=>walk_at "size"))
   | ((with_reducible refine Stow.r_gtup (xs:=?xs) ?h ?l ?_);(case h=>walk_at "look");(case l=>exact rfl))
   | (with_reducible refine Stow.r_gcons ?_)
   | (with_reducible refine Stow.r_gnil ?_)
   | ((with_reducible refine Stow.r_ixI (ns:=?ns) ?h ?a ?b ?_);(case h=>walk_at "seq");(case a=>walk_at "num");(case b=>walk_at "num"))
   | ((with_reducible refine Stow.r_ixT (xs:=?xs) (v:=?v) ?h ?e ?_);(case h=>walk_at "look");(case e=>exact rfl))
   | ((with_reducible refine Stow.r_setI (ns:=?ns) ?h ?a ?b ?_);(case h=>walk_at "look");(case a=>walk_at "num");(case b=>walk_at "num"))
   | ((with_reducible refine Stow.r_sllG (ns:=?ns) ?h ?_);(case h=>walk_at "seq"))
   | ((with_reducible refine Stow.r_sll (xs:=?xs) ?h ?_);(case h=>walk_at "seq"))
   | ((with_reducible refine Stow.r_lenI (ns:=?ns) ?h ?_);(case h=>walk_at "seq");(try rw[List.length_map]))
   | ((with_reducible refine Stow.r_lenL (xs:=?xs) ?h ?_);(case h=>walk_at "look"))
   | ((with_reducible refine Stow.r_lenT (xs:=?xs) ?h ?_);(case h=>walk_at "look"))
   | ((with_reducible refine Stow.r_listI (xs:=?xs) ?h ?_);(case h=>walk_at "seq"))
   | ((with_reducible refine Stow.r_isi (t:=?t) (b:=?b) ?y ?e ?_);(case y=>walk_at "ty");(case e=>walk_at "kit"))
   | ((with_reducible refine Stow.r_new ?h ?_);(case h=>(first | exact Nat.zero_le _ | simp)))
   | ((with_reducible refine Stow.r_truL (xs:=?xs) ?h ?_);(case h=>walk_at "seq"))
   | ((with_reducible refine Stow.r_ifdT ?c ?_);(case c=>(first | omega | exact rfl)))
   | ((with_reducible refine Stow.r_ifdF ?c ?_);(case c=>(first | omega | (intro h;cases h;done))))
   $[| $(Stow.wq2):tacticSeq]*
   | ((with_reducible refine Stow.r_isiX (C:=?C) (od:=?od) (b:=?b) ?h ?z ?e ?_);(case h=>walk_at "look");(case z=>assumption);(case e=>assumption))
   | ((with_reducible refine Stow.r_isiN (C:=?C) (od:=?od) (b:=?b) ?h ?z ?n ?e ?_);(case h=>walk_at "look");(case z=>assumption);(case n=>exact fun z=>nomatch z);(case e=>assumption))
   $[| $(Stow.wq3):tacticSeq]*
   | ((with_reducible refine Stow.r_catG (xs:=?xs) (zs:=?zs) ?h ?g ?z ?_);(case h=>walk_at "look");(case g=>walk_at "look");(case z=>walk_at "num"))
   | ((with_reducible refine Stow.r_cat (xs:=?xs) (zs:=?zs) ?h ?g ?z ?_);(case h=>walk_at "look");(case g=>walk_at "look");(case z=>(refine Nat.le_of_lt (L2.small1000 ?_);first | omega | simp)))
   | ((with_reducible refine Stow.r_slS ?h ?_);(case h=>decide))
   | (with_reducible refine Stow.r_max ?_)
   | (with_reducible refine Stow.r_fld ?_)
   | ((with_reducible refine Stow.r_at (C:=?C) (dx:=?dx) (fs:=?fs) (v:=?v) ?h ?c ?n ?l ?_);(case h=>walk_at "look");(case c=>assumption);(case n=>assumption);(case l=>exact rfl))
   | (with_reducible refine Stow.r_sfld ?_)
   | ((with_reducible refine Stow.r_sat (C:=?C) (dx:=?dx) (fs:=?fs) ?h ?c ?n ?l ?_);(case h=>walk_at "look");(case c=>assumption);(case n=>assumption);(case l=>(first | decide | simp)))
   | (with_reducible refine Stow.r_meth ?_)
   | ((with_reducible refine Stow.r_mat (dx:=?dx) (fs:=?fs) ?h ?l ?_);(case h=>walk_at "look");(case l=>exact rfl))
   | (with_reducible refine Stow.r_make ?_)
   | (with_reducible refine Stow.r_compG ?_)
   | ((with_reducible refine Stow.r_isiO (C:=?C) (dx:=?dx) (fs:=?fs) (b:=?b) ?h ?z ?e ?_);(case h=>walk_at "look");(case z=>assumption);(case e=>assumption))
   $[| $(Stow.wq4):tacticSeq]*
   | ((with_reducible refine Stow.r_notIn (xs:=?xs) ?h ?f ?g ?_);(case h=>walk_at "look");(case f=>exact rfl);(case g=>exact rfl))
   | (with_reducible refine Stow.r_nx ?_)
   | walk_at "sp")
local macro_rules
 | `(tactic| walk_at "go")=>`(tactic| repeat walk_at "st")
local macro_rules
 | `(tactic| walk_at "len")=>`(tactic| first | (rintro ⟨e,_⟩;exact congrArg List.length e) | (rintro ⟨_,h⟩;revert h;walk_at "len"))
local macro_rules
 | `(tactic| walk_at "gs")=>`(tactic| repeat (first | (with_reducible refine Stow.r_nx ?_) | ((fail_if_success (with_reducible refine Stow.r_isIf ?_));walk_at "st")))
local macro_rules
 | `(tactic| walk_at "ga")=>`(tactic| repeat ((fail_if_success (with_reducible refine Stow.r_isAnd ?_));(fail_if_success (with_reducible refine Stow.r_isOr ?_));walk_at "st"))
local macro_rules
 | `(tactic| walk_at "ge")=>`(tactic| repeat (first | (with_reducible refine Stow.r_nx ?_) | ((fail_if_success (with_reducible refine Stow.r_isSeq ?_));walk_at "st")))
local macro_rules
 | `(tactic| walk_at "g1")=>`(tactic| ((with_reducible refine Stow.r_seq ?_);walk_at "ge"))
def Stow.wq5:=Stow.wA [`Stow.r_dget,`Stow.r_dput,`Stow.r_forD,`Stow.r_forI,`Stow.r_dnew,`Stow.r_xExp]
local macro_rules
 | `(tactic| walk_at "st")=>`(tactic| first
   $[| $(Stow.wq5):tacticSeq]*
   | ((with_reducible refine Stow.r_tyD (kvs:=?kvs) ?h ?_);(case h=>walk_at "look")))
def Stow.wq6:=Stow.wA [`Stow.r_eqSS,`Stow.r_neSS,`Stow.r_eqSt,`Stow.r_neSt,`Stow.r_methF,`Stow.r_methFD,`Stow.r_methS]
local macro_rules
 | `(tactic| walk_at "st")=>`(tactic| first
   | (with_reducible refine Stow.r_dIn ?_)
   | (with_reducible refine Stow.r_dPop ?_)
   | ((with_reducible refine Stow.r_truD (kvs:=?kvs) ?h ?_);(case h=>walk_at "look"))
   $[| $(Stow.wq6):tacticSeq]*
   | ((with_reducible refine Stow.r_matS (i:=?i) (dx:=?dx) (fs:=?fs) ?o ?h ?l ?_);(case h=>walk_at "look");(case o=>(first | assumption | exact True.intro));(case l=>(first | exact Stow.fsF_none (by decide) (by decide) (by decide) | exact rfl)))
   | (with_reducible refine Stow.r_xMethF ?_)
   | (with_reducible refine Stow.r_xMethFD ?_)
   | ((with_reducible refine Stow.r_matF (i:=?i) (dx:=?dx) (fs:=?fs) ?h ?l ?_);(case h=>walk_at "look");(case l=>(first | exact Stow.fsF_none (by decide) (by decide) (by decide) | exact rfl)))
   | ((with_reducible refine Stow.r_at (C:=?C) (dx:=?dx) (fs:=?fs) (v:=?v) ?h ?c ?n ?l ?_);(case h=>walk_at "look");(case c=>assumption);(case n=>assumption);(case l=>exact Stow.fsF_cells))
   | ((with_reducible refine Stow.r_sat (C:=?C) (dx:=?dx) (fs:=?fs) ?h ?c ?n ?l ?_);(case h=>walk_at "look");(case c=>assumption);(case n=>assumption);(case l=>exact Stow.fsF_few)))
def Stow.wq7:=Stow.wA [`Stow.i_long,`Stow.i_live,`Stow.i_whole]
local macro_rules
 | `(tactic| walk_at "sp")=>`(tactic| first
   $[| $(Stow.wq7):tacticSeq]*
   | ((with_reducible refine Stow.i_cell (ns:=?ns) ?h ?a ?_);(case h=>walk_at "seq");(case a=>walk_at "nn"))
   | ((with_reducible refine Stow.i_can (ns:=?ns) ?h ?a ?b ?_);(case h=>walk_at "seq");(case a=>walk_at "num");(case b=>walk_at "num"))
   | ((with_reducible refine Stow.i_bad (ns:=?ns) ?h ?a ?b ?_);(case h=>walk_at "seq");(case a=>walk_at "num");(case b=>walk_at "num")))
local macro_rules
 | `(tactic| walk_at "nn")=>`(tactic| first | decide | omega | exact Int.emod_nonneg _ (by decide) | exact Int.emod_nonneg _ (by omega))
--GEN
namespace Stow
open PySem L2 PyProof.Rows
theorem fS {N Q:List Str}{sc:Scope}(a:sc.kind = .function:=by rfl)(b:sc.isCoroutine=false:=by rfl)(c:sc.isGenerator=false:=by rfl)(d:N.Nodup:=by decide +kernel)(e:N.take Q.length=Q:=by rfl)(f:∀x∈Q,sc.names.lookup x=some .local\/sc.names.lookup x=some .cell:=by decide +kernel)(g:∀y∈sc.names,y.2≠.free:=by decide +kernel):FnScope N Q sc:=⟨a,b,c,d,e,f,g⟩
abbrev Q4:Stmt:=top 0
theorem Q5:FnScope ["k"] ["k"] (An Q4):=fS
abbrev BiS (x q:Str)(s:Stmt)(ps:List Str):Prop:=∀(kV doc pm:Value) (an:Option Addr) (cdv ct:Value) (us:List Value),us.length=ps.length->bindArgs (fnOf x q (A7 s) (AX s) (An s) .none kV doc pm an cdv ct) ⟨us,[]⟩=pure (ps.zip us)
theorem Q6:BiS "_wall" "_wall" Q4 ["k"]:=fun _ _ _ _ _ _ us hl=>match us,hl with | [_],_=>rfl
abbrev Oe:Stmt:=top 14
theorem Gc:FnScope ["count","bound"] ["count","bound"] (An Oe):=fS
theorem Gd:BiS "check_ask" "check_ask" Oe ["count","bound"]:=fun _ _ _ _ _ _ us hl=>match us,hl with | [_,_],_=>rfl
abbrev Ef:Stmt:=top 15
theorem JF:FnScope ["count","bound"] ["count","bound"] (An Ef):=fS
theorem JG:BiS "check_plain_ask" "check_plain_ask" Ef ["count","bound"]:=fun _ _ _ _ _ _ us hl=>match us,hl with | [_,_],_=>rfl
abbrev Of:Stmt:=top 17
theorem gN:FnScope ["long","live"] ["long","live"] (An Of):=fS
theorem Ge:BiS "mark_of" "mark_of" Of ["long","live"]:=fun _ _ _ _ _ _ us hl=>match us,hl with | [_,_],_=>rfl
abbrev Og:Stmt:=top 18
theorem Gf:FnScope ["number"] ["number"] (An Og):=fS
theorem Gg:BiS "long_of" "long_of" Og ["number"]:=fun _ _ _ _ _ _ us hl=>match us,hl with | [_],_=>rfl
abbrev Oh:Stmt:=top 19
theorem Gi:FnScope ["number"] ["number"] (An Oh):=fS
theorem gO:BiS "live_of" "live_of" Oh ["number"]:=fun _ _ _ _ _ _ us hl=>match us,hl with | [_],_=>rfl
abbrev Oi:Stmt:=top 22
theorem X3:FnScope ["cells","at","long"] ["cells","at"] (An Oi):=fS
theorem Gj:BiS "can_begin" "can_begin" Oi ["cells","at"]:=fun _ _ _ _ _ _ us hl=>match us,hl with | [_,_],_=>rfl
abbrev Oj:Stmt:=top 23
theorem X4:FnScope ["cells","at","last"] ["cells","at"] (An Oj):=fS
theorem Gk:BiS "bad_of_piece" "bad_of_piece" Oj ["cells","at"]:=fun _ _ _ _ _ _ us hl=>match us,hl with | [_,_],_=>rfl
abbrev Ol:Stmt:=top 24
theorem Il:FnScope ["cells","pieces","at","bad","long"] ["cells"] (An Ol):=fS
theorem Gm:BiS "looked" "looked" Ol ["cells"]:=fun _ _ _ _ _ _ us hl=>match us,hl with | [_],_=>rfl
abbrev Om:Stmt:=top 25
theorem X5:FnScope ["cells","refusal"] ["cells"] (An Om):=fS
theorem Gn:BiS "first_bad" "first_bad" Om ["cells"]:=fun _ _ _ _ _ _ us hl=>match us,hl with | [_],_=>rfl
abbrev On:Stmt:=top 26
theorem X6:FnScope ["count","cells"] ["count"] (An On):=fS
theorem gP:BiS "fresh_room" "fresh_room" On ["count"]:=fun _ _ _ _ _ _ us hl=>match us,hl with | [_],_=>rfl
abbrev Oo:Stmt:=top 28
theorem X7:FnScope ["cells","at","long","live","row"] ["cells","at","long","live"] (An Oo):=fS
theorem Go:BiS "laid" "laid" Oo ["cells","at","long","live"]:=fun _ _ _ _ _ _ us hl=>match us,hl with | [_,_,_,_],_=>rfl
abbrev Op:Stmt:=top 29
theorem gQ:FnScope ["cells","begin","end"] ["cells","begin","end"] (An Op):=fS
theorem gR:BiS "laid_free" "laid_free" Op ["cells","begin","end"]:=fun _ _ _ _ _ _ us hl=>match us,hl with | [_,_,_],_=>rfl
abbrev Oq:Stmt:=top 30
theorem X8:FnScope ["cells","at","piece"] ["cells","at"] (An Oq):=fS
theorem Gp:BiS "piece_at" "piece_at" Oq ["cells","at"]:=fun _ _ _ _ _ _ us hl=>match us,hl with | [_,_],_=>rfl
abbrev Os:Stmt:=top 31
theorem X9:FnScope ["cells","at","piece"] ["cells","at"] (An Os):=fS
theorem Gq:BiS "live_at" "live_at" Os ["cells","at"]:=fun _ _ _ _ _ _ us hl=>match us,hl with | [_,_],_=>rfl
abbrev Ot:Stmt:=top 32
theorem Ya:FnScope ["cells","at","piece"] ["cells","at"] (An Ot):=fS
theorem Gr:BiS "free_at" "free_at" Ot ["cells","at"]:=fun _ _ _ _ _ _ us hl=>match us,hl with | [_,_],_=>rfl
abbrev Ou:Stmt:=top 33
theorem Yb:FnScope ["cells","cell","begins"] ["cells","cell"] (An Ou):=fS
theorem Gu:BiS "begin_around" "begin_around" Ou ["cells","cell"]:=fun _ _ _ _ _ _ us hl=>match us,hl with | [_,_],_=>rfl
abbrev Ov:Stmt:=top 34
theorem Gv:FnScope ["cells","at"] ["cells","at"] (An Ov):=fS
theorem gS:BiS "free_begin" "free_begin" Ov ["cells","at"]:=fun _ _ _ _ _ _ us hl=>match us,hl with | [_,_],_=>rfl
abbrev Ow:Stmt:=top 35
theorem Gw:FnScope ["cells","end"] ["cells","end"] (An Ow):=fS
theorem Gx:BiS "free_end" "free_end" Ow ["cells","end"]:=fun _ _ _ _ _ _ us hl=>match us,hl with | [_,_],_=>rfl
abbrev Ox:Stmt:=top 36
theorem Gy:FnScope ["cells","at","place","long","begin","free_long","live","end","row"] ["cells","at","place","long"] (An Ox):=fS
theorem Gz:BiS "cut_out" "cut_out" Ox ["cells","at","place","long"]:=fun _ _ _ _ _ _ us hl=>match us,hl with | [_,_,_,_],_=>rfl
abbrev Oy:Stmt:=top 37
theorem Oz:FnScope ["cells","at","begin","long","live"] ["cells","at"] (An Oy):=fS
theorem GA:BiS "freed" "freed" Oy ["cells","at"]:=fun _ _ _ _ _ _ us hl=>match us,hl with | [_,_],_=>rfl
abbrev Eg:Stmt:=top 38
theorem JH:FnScope ["pieces","row","at","long","live"] ["pieces"] (An Eg):=fS
theorem JI:BiS "joined_pieces" "joined_pieces" Eg ["pieces"]:=fun _ _ _ _ _ _ us hl=>match us,hl with | [_],_=>rfl
abbrev OA:Stmt:=top 39
theorem Im:FnScope ["cells","row","at","long","live"] ["cells"] (An OA):=fS
theorem GB:BiS "joined" "joined" OA ["cells"]:=fun _ _ _ _ _ _ us hl=>match us,hl with | [_],_=>rfl
abbrev OB:Stmt:=top 41
theorem Yc:FnScope ["end","free"] ["end"] (An OB):=fS
theorem GC:BiS "pieces_up_to" "pieces_up_to" OB ["end"]:=fun _ _ _ _ _ _ us hl=>match us,hl with | [_],_=>rfl
abbrev OC:Stmt:=top 42
theorem Q7:FnScope ["cells","at","long","live","mark","ends"] ["cells","at","long","live"] (An OC):=fS
theorem gT:BiS "changes_for" "changes_for" OC ["cells","at","long","live"]:=fun _ _ _ _ _ _ us hl=>match us,hl with | [_,_,_,_],_=>rfl
abbrev OD:Stmt:=top 43
theorem OE:FnScope ["cells","ways","end","fit"] ["cells"] (An OD):=fS
theorem gU:BiS "cheapest_ways" "cheapest_ways" OD ["cells"]:=fun _ _ _ _ _ _ us hl=>match us,hl with | [_],_=>rfl
abbrev OF:Stmt:=top 44
theorem GD:FnScope ["cells"] ["cells"] (An OF):=fS
theorem GE:BiS "prices_of" "prices_of" OF ["cells"]:=fun _ _ _ _ _ _ us hl=>match us,hl with | [_],_=>rfl
abbrev OG:Stmt:=top 45
theorem Eh:FnScope ["cells","ways","row","end","price","at","live"] ["cells"] (An OG):=fS
theorem GF:BiS "mended" "mended" OG ["cells"]:=fun _ _ _ _ _ _ us hl=>match us,hl with | [_],_=>rfl
abbrev OH:Stmt:=top 49
theorem GG:FnScope ["number"] ["number"] (An OH):=fS
theorem gW:BiS "is_power" "is_power" OH ["number"]:=fun _ _ _ _ _ _ us hl=>match us,hl with | [_],_=>rfl
abbrev OI:Stmt:=top 50
theorem GH:FnScope ["need"] ["need"] (An OI):=fS
theorem gX:BiS "block_for" "block_for" OI ["need"]:=fun _ _ _ _ _ _ us hl=>match us,hl with | [_],_=>rfl
abbrev OJ:Stmt:=top 51
theorem OK:FnScope ["pieces","block","fit","long","at"] ["pieces","block"] (An OJ):=fS
theorem gY:BiS "least_free" "least_free" OJ ["pieces","block"]:=fun _ _ _ _ _ _ us hl=>match us,hl with | [_,_],_=>rfl
abbrev OL:Stmt:=top 52
theorem OM:FnScope ["cells","at","long","block","row"] ["cells","at","long","block"] (An OL):=fS
theorem GI:BiS "cut_down" "cut_down" OL ["cells","at","long","block"]:=fun _ _ _ _ _ _ us hl=>match us,hl with | [_,_,_,_],_=>rfl
abbrev Ei:Stmt:=top 53
theorem Q8:FnScope ["pieces","at","long"] ["pieces","at","long"] (An Ei):=fS
theorem JJ:BiS "grown_together" "grown_together" Ei ["pieces","at","long"]:=fun _ _ _ _ _ _ us hl=>match us,hl with | [_,_,_],_=>rfl
abbrev ON:Stmt:=top 58
theorem GJ:FnScope ["size","shelf"] ["size","shelf"] (An ON):=fS
theorem GK:BiS "all_whole" "all_whole" ON ["size","shelf"]:=fun _ _ _ _ _ _ us hl=>match us,hl with | [_,_],_=>rfl
abbrev OO:Stmt:=top 59
theorem GL:FnScope ["at","shelf"] ["at","shelf"] (An OO):=fS
theorem gZ:BiS "begin_of" "begin_of" OO ["at","shelf"]:=fun _ _ _ _ _ _ us hl=>match us,hl with | [_,_],_=>rfl
abbrev OP:Stmt:=top 60
theorem GM:FnScope ["cells","shelf"] ["cells","shelf"] (An OP):=fS
theorem GN:BiS "whole_ones" "whole_ones" OP ["cells","shelf"]:=fun _ _ _ _ _ _ us hl=>match us,hl with | [_,_],_=>rfl
abbrev OQ:Stmt:=top 61
theorem Yd:FnScope ["cells","shelf","size","fit"] ["cells","shelf","size"] (An OQ):=fS
theorem GO:BiS "free_slots" "free_slots" OQ ["cells","shelf","size"]:=fun _ _ _ _ _ _ us hl=>match us,hl with | [_,_,_],_=>rfl
abbrev OR:Stmt:=top 62
theorem JK:FnScope ["cells","begin","shelf","size","row","end","at"] ["cells","begin","shelf","size"] (An OR):=fS
theorem GP:BiS "cut_for" "cut_for" OR ["cells","begin","shelf","size"]:=fun _ _ _ _ _ _ us hl=>match us,hl with | [_,_,_,_],_=>rfl
abbrev OS:Stmt:=top 63
theorem Ye:FnScope ["cells","shelf","size","begins"] ["cells","shelf","size"] (An OS):=fS
theorem GQ:BiS "with_slot" "with_slot" OS ["cells","shelf","size"]:=fun _ _ _ _ _ _ us hl=>match us,hl with | [_,_,_],_=>rfl
abbrev OT:Stmt:=top 64
theorem GR:FnScope ["cells","begin","shelf"] ["cells","begin","shelf"] (An OT):=fS
theorem GS:BiS "has_live" "has_live" OT ["cells","begin","shelf"]:=fun _ _ _ _ _ _ us hl=>match us,hl with | [_,_,_],_=>rfl
abbrev OU:Stmt:=top 67
theorem JL:FnScope ["piece","long","bound","at","piece_long","live","place"] ["piece","long","bound"] (An OU):=fS
theorem hI:BiS "first_place" "first_place" OU ["piece","long","bound"]:=fun _ _ _ _ _ _ us hl=>match us,hl with | [_,_,_],_=>rfl
abbrev OV:Stmt:=top 68
theorem OW:FnScope ["cells","long","bound","spots","piece","place"] ["cells","long","bound"] (An OV):=fS
theorem GT:BiS "spots_for" "spots_for" OV ["cells","long","bound"]:=fun _ _ _ _ _ _ us hl=>match us,hl with | [_,_,_],_=>rfl
abbrev OX:Stmt:=top 70
theorem GU:FnScope ["ranked"] ["ranked"] (An OX):=fS
theorem GW:BiS "least_place" "least_place" OX ["ranked"]:=fun _ _ _ _ _ _ us hl=>match us,hl with | [_],_=>rfl
abbrev OY:Stmt:=top 76
theorem GX:FnScope ["word","size"] ["word","size"] (An OY):=fS
theorem GY:BiS "stretches_of" "stretches_of" OY ["word","size"]:=fun _ _ _ _ _ _ us hl=>match us,hl with | [_,_],_=>rfl
abbrev D1:Stmt:=top 78
theorem hU:FnScope ["word","size","shelf"] ["word","size","shelf"] (An D1):=fS
theorem GZ (T:Addr)(d1:Value)(kV doc pm:Value)(an:Option Addr)(cdv ct:Value)(us:List Value)(hl:us.length=["word","size","shelf"].length):∃k:Option (Array Value)->Sem (List (Str×Value)),bindArgs (fnOf "keeper_of" "keeper_of" (A7 D1) (AX D1) (An D1) (.ref T) kV doc pm an cdv ct) ⟨us,[]⟩=seqItems? (.ref T) >>= k/\k (some [d1].toArray)=pure ((["word","size","shelf"]:List Str).zip us):=match us,hl with | [_,_,_],_=>⟨_,rfl,rfl⟩
theorem G2 (T:Addr)(d1:Value)(kV doc pm:Value)(an:Option Addr)(cdv ct:Value)(us:List Value)(hl:(us++[d1]).length=["word","size","shelf"].length):∃k:Option (Array Value)->Sem (List (Str×Value)),bindArgs (fnOf "keeper_of" "keeper_of" (A7 D1) (AX D1) (An D1) (.ref T) kV doc pm an cdv ct) ⟨us,[]⟩=seqItems? (.ref T) >>= k/\k (some [d1].toArray)=pure ((["word","size","shelf"]:List Str).zip (us++[d1])):=match us,(show us.length=2 by simpa using hl) with | [_,_],_=>⟨_,rfl,rfl⟩
abbrev OZ:Stmt:=top 80
theorem G3:FnScope ["_law_script","_law_k"] ["_law_script","_law_k"] (An OZ):=fS
theorem G4:BiS "_law_cell_at" "_law_cell_at" OZ ["_law_script","_law_k"]:=fun _ _ _ _ _ _ us hl=>match us,hl with | [_,_],_=>rfl
abbrev O0:Stmt:=top 81
theorem hV:FnScope ["_law_found"] ["_law_found"] (An O0):=fS
theorem hW:BiS "_law_whole" "_law_whole" O0 ["_law_found"]:=fun _ _ _ _ _ _ us hl=>match us,hl with | [_],_=>rfl
abbrev O1:Stmt:=top 82
theorem Io:FnScope ["_law_cells","_law_pieces","_law_at","_law_long","_law_live"] ["_law_cells"] (An O1):=fS
theorem G5:BiS "_law_walk" "_law_walk" O1 ["_law_cells"]:=fun _ _ _ _ _ _ us hl=>match us,hl with | [_],_=>rfl
abbrev O2:Stmt:=top 83
theorem Ip:FnScope ["_law_keeper","_law_places","_law_c","_law_told","_law_place"] ["_law_keeper","_law_places","_law_c"] (An O2):=fS
theorem G6:BiS "_law_use" "_law_use" O2 ["_law_keeper","_law_places","_law_c"]:=fun _ _ _ _ _ _ us hl=>match us,hl with | [_,_,_],_=>rfl
abbrev O3:Stmt:=top 84
theorem FE:FnScope ["_law_cells","_law_c","_law_pieces","_law_at","_law_piece","_law_old","_law_how","_law_news"] ["_law_cells","_law_c"] (An O3):=fS
theorem hZ:BiS "_law_spoil" "_law_spoil" O3 ["_law_cells","_law_c"]:=fun _ _ _ _ _ _ us hl=>match us,hl with | [_,_],_=>rfl
abbrev O4:Stmt:=top 85
theorem G7:FnScope ["_law_one","_law_other"] ["_law_one","_law_other"] (An O4):=fS
theorem iA:BiS "_law_unlike" "_law_unlike" O4 ["_law_one","_law_other"]:=fun _ _ _ _ _ _ us hl=>match us,hl with | [_,_],_=>rfl
abbrev O5:Stmt:=top 86
theorem Iq:FnScope ["_law_cells","_law_due","_law_bad","_law_told","e"] ["_law_cells"] (An O5):=fS
theorem iB:BiS "_law_looker" "_law_looker" O5 ["_law_cells"]:=fun _ _ _ _ _ _ us hl=>match us,hl with | [_],_=>rfl
abbrev O6:Stmt:=top 87
theorem G8:FnScope ["_law_cells","_law_script","_law_word","_law_keeper","_law_places","_law_c","_law_pieces","_law_k"] ["_law_cells","_law_script"] (An O6):=fS
theorem G9:BiS "_law_goes_on" "_law_goes_on" O6 ["_law_cells","_law_script"]:=fun _ _ _ _ _ _ us hl=>match us,hl with | [_,_],_=>rfl
abbrev Ha:Stmt:=top 88
theorem Cq:FnScope ["_law_script","_law_c","_law_word","_law_shelf","_law_size","_law_keeper","_law_places","_law_right","_law_spoilt","_law_handed","_law_found","_law_changed"] ["_law_script"] (An Ha):=fS
theorem bi_law:BiS "law" "law" Ha ["_law_script"]:=fun _ _ _ _ _ _ us hl=>match us,hl with | [_],_=>rfl
abbrev O7:Stmt:=Aq (top 5) 0
theorem iC:FnScope ["self","cell"] ["self","cell"] (An O7):=fS
theorem iD:BiS "__init__" "Broken.__init__" O7 ["self","cell"]:=fun _ _ _ _ _ _ us hl=>match us,hl with | [_,_],_=>rfl
abbrev Ej:Stmt:=Aq (top 47) 0
theorem Ir:FnScope ["self","size"] ["self","size"] (An Ej):=fS
theorem Iu:BiS "__init__" "Keeper.__init__" Ej ["self","size"]:=fun _ _ _ _ _ _ us hl=>match us,hl with | [_,_],_=>rfl
abbrev O8:Stmt:=Aq (top 74) 0
theorem iE:FnScope ["self","size"] ["self","size"] (An O8):=fS
theorem iF:BiS "__init__" "Next.__init__" O8 ["self","size"]:=fun _ _ _ _ _ _ us hl=>match us,hl with | [_,_],_=>rfl
abbrev O9:Stmt:=Aq (top 54) 0
theorem iG:FnScope ["self","size"] ["self","size"] (An O9):=fS
theorem iH:BiS "__init__" "Halves.__init__" O9 ["self","size"]:=fun _ _ _ _ _ _ us hl=>match us,hl with | [_,_],_=>rfl
abbrev Pa:Stmt:=Aq (top 65) 0
theorem Yf:FnScope ["self","size","shelf","cells"] ["self","size","shelf"] (An Pa):=fS
theorem iJ:BiS "__init__" "Shelves.__init__" Pa ["self","size","shelf"]:=fun _ _ _ _ _ _ us hl=>match us,hl with | [_,_,_],_=>rfl
abbrev Ek:Stmt:=Aq (top 47) 11
theorem JM:FnScope ["self","cells"] ["self","cells"] (An Ek):=fS
theorem JN:BiS "room_begin" "Keeper.room_begin" Ek ["self","cells"]:=fun _ _ _ _ _ _ us hl=>match us,hl with | [_,_],_=>rfl
abbrev El:Stmt:=Aq (top 71) 4
theorem JO:FnScope ["self","cells"] ["self","cells"] (An El):=fS
theorem JP:BiS "room_begin" "Stretches.room_begin" El ["self","cells"]:=fun _ _ _ _ _ _ us hl=>match us,hl with | [_,_],_=>rfl
abbrev Em:Stmt:=Aq (top 74) 3
theorem JQ:FnScope ["self","cells"] ["self","cells"] (An Em):=fS
theorem JR:BiS "room_begin" "Next.room_begin" Em ["self","cells"]:=fun _ _ _ _ _ _ us hl=>match us,hl with | [_,_],_=>rfl
abbrev Pb:Stmt:=Aq (top 47) 3
theorem Hb:FnScope ["self","cells"] ["self","cells"] (An Pb):=fS
theorem Hc:BiS "lay" "Keeper.lay" Pb ["self","cells"]:=fun _ _ _ _ _ _ us hl=>match us,hl with | [_,_],_=>rfl
abbrev Pd:Stmt:=Aq (top 47) 2
theorem iK:FnScope ["self"] ["self"] (An Pd):=fS
theorem Hd:BiS "pieces" "Keeper.pieces" Pd ["self"]:=fun _ _ _ _ _ _ us hl=>match us,hl with | [_],_=>rfl
abbrev Pe:Stmt:=Aq (top 47) 1
theorem He:FnScope ["self"] ["self"] (An Pe):=fS
theorem Hf:BiS "cells" "Keeper.cells" Pe ["self"]:=fun _ _ _ _ _ _ us hl=>match us,hl with | [_],_=>rfl
abbrev En:Stmt:=Aq (top 54) 1
theorem Pf:FnScope ["self","count","bound","block","at","long"] ["self","count","bound"] (An En):=fS
theorem Hg (T:Addr)(d1:Value)(kV doc pm:Value)(an:Option Addr)(cdv ct:Value)(us:List Value)(hl:us.length=["self","count","bound"].length):∃k:Option (Array Value)->Sem (List (Str×Value)),bindArgs (fnOf "ask" "Halves.ask" (A7 En) (AX En) (An En) (.ref T) kV doc pm an cdv ct) ⟨us,[]⟩=seqItems? (.ref T) >>= k/\k (some [d1].toArray)=pure ((["self","count","bound"]:List Str).zip us):=match us,hl with | [_,_,_],_=>⟨_,rfl,rfl⟩
theorem iL (T:Addr)(d1:Value)(kV doc pm:Value)(an:Option Addr)(cdv ct:Value)(us:List Value)(hl:(us++[d1]).length=["self","count","bound"].length):∃k:Option (Array Value)->Sem (List (Str×Value)),bindArgs (fnOf "ask" "Halves.ask" (A7 En) (AX En) (An En) (.ref T) kV doc pm an cdv ct) ⟨us,[]⟩=seqItems? (.ref T) >>= k/\k (some [d1].toArray)=pure ((["self","count","bound"]:List Str).zip (us++[d1])):=match us,(show us.length=2 by simpa using hl) with | [_,_],_=>⟨_,rfl,rfl⟩
abbrev Eo:Stmt:=Aq (top 65) 2
theorem Pg:FnScope ["self","count","bound","size","cells","at"] ["self","count","bound"] (An Eo):=fS
theorem Hh (T:Addr)(d1:Value)(kV doc pm:Value)(an:Option Addr)(cdv ct:Value)(us:List Value)(hl:us.length=["self","count","bound"].length):∃k:Option (Array Value)->Sem (List (Str×Value)),bindArgs (fnOf "ask" "Shelves.ask" (A7 Eo) (AX Eo) (An Eo) (.ref T) kV doc pm an cdv ct) ⟨us,[]⟩=seqItems? (.ref T) >>= k/\k (some [d1].toArray)=pure ((["self","count","bound"]:List Str).zip us):=match us,hl with | [_,_,_],_=>⟨_,rfl,rfl⟩
theorem Hi (T:Addr)(d1:Value)(kV doc pm:Value)(an:Option Addr)(cdv ct:Value)(us:List Value)(hl:(us++[d1]).length=["self","count","bound"].length):∃k:Option (Array Value)->Sem (List (Str×Value)),bindArgs (fnOf "ask" "Shelves.ask" (A7 Eo) (AX Eo) (An Eo) (.ref T) kV doc pm an cdv ct) ⟨us,[]⟩=seqItems? (.ref T) >>= k/\k (some [d1].toArray)=pure ((["self","count","bound"]:List Str).zip (us++[d1])):=match us,(show us.length=2 by simpa using hl) with | [_,_],_=>⟨_,rfl,rfl⟩
abbrev Ep:Stmt:=Aq (top 56) 0
theorem Ph:FnScope ["self","count","bound","at","long","live"] ["self","count","bound"] (An Ep):=fS
theorem Hj (T:Addr)(d1:Value)(kV doc pm:Value)(an:Option Addr)(cdv ct:Value)(us:List Value)(hl:us.length=["self","count","bound"].length):∃k:Option (Array Value)->Sem (List (Str×Value)),bindArgs (fnOf "ask" "Row.ask" (A7 Ep) (AX Ep) (An Ep) (.ref T) kV doc pm an cdv ct) ⟨us,[]⟩=seqItems? (.ref T) >>= k/\k (some [d1].toArray)=pure ((["self","count","bound"]:List Str).zip us):=match us,hl with | [_,_,_],_=>⟨_,rfl,rfl⟩
theorem Hk (T:Addr)(d1:Value)(kV doc pm:Value)(an:Option Addr)(cdv ct:Value)(us:List Value)(hl:(us++[d1]).length=["self","count","bound"].length):∃k:Option (Array Value)->Sem (List (Str×Value)),bindArgs (fnOf "ask" "Row.ask" (A7 Ep) (AX Ep) (An Ep) (.ref T) kV doc pm an cdv ct) ⟨us,[]⟩=seqItems? (.ref T) >>= k/\k (some [d1].toArray)=pure ((["self","count","bound"]:List Str).zip (us++[d1])):=match us,(show us.length=2 by simpa using hl) with | [_,_],_=>⟨_,rfl,rfl⟩
abbrev Pi:Stmt:=Aq (top 72) 0
theorem Yg:FnScope ["self","long","bound","spots"] ["self","long","bound"] (An Pi):=fS
theorem iM:BiS "chosen" "First.chosen" Pi ["self","long","bound"]:=fun _ _ _ _ _ _ us hl=>match us,hl with | [_,_,_],_=>rfl
abbrev Pj:Stmt:=Aq (top 73) 0
theorem Q9:FnScope ["self","long","bound","cells","spots"] ["self","long","bound"] (An Pj):=fS
theorem Hl:BiS "chosen" "Best.chosen" Pj ["self","long","bound"]:=fun _ _ _ _ _ _ us hl=>match us,hl with | [_,_,_],_=>rfl
abbrev Pk:Stmt:=Aq (top 74) 2
theorem Yh:FnScope ["self","long","bound","spots"] ["self","long","bound"] (An Pk):=fS
theorem iN:BiS "chosen" "Next.chosen" Pk ["self","long","bound"]:=fun _ _ _ _ _ _ us hl=>match us,hl with | [_,_,_],_=>rfl
abbrev Pl:Stmt:=Aq (top 75) 0
theorem Ra:FnScope ["self","long","bound","cells","spots"] ["self","long","bound"] (An Pl):=fS
theorem Hm:BiS "chosen" "Likes.chosen" Pl ["self","long","bound"]:=fun _ _ _ _ _ _ us hl=>match us,hl with | [_,_,_],_=>rfl
abbrev Er:Stmt:=Aq (top 71) 5
theorem JS:FnScope ["self","behind"] ["self","behind"] (An Er):=fS
theorem JT:BiS "room_granted" "Stretches.room_granted" Er ["self","behind"]:=fun _ _ _ _ _ _ us hl=>match us,hl with | [_,_],_=>rfl
abbrev Es:Stmt:=Aq (top 74) 4
theorem JU:FnScope ["self","behind"] ["self","behind"] (An Es):=fS
theorem JV:BiS "room_granted" "Next.room_granted" Es ["self","behind"]:=fun _ _ _ _ _ _ us hl=>match us,hl with | [_,_],_=>rfl
abbrev Et:Stmt:=Aq (top 71) 1
theorem Rb:FnScope ["self","count","bound","long","at"] ["self","count","bound"] (An Et):=fS
theorem Hn (T:Addr)(d1:Value)(kV doc pm:Value)(an:Option Addr)(cdv ct:Value)(us:List Value)(hl:us.length=["self","count","bound"].length):∃k:Option (Array Value)->Sem (List (Str×Value)),bindArgs (fnOf "ask" "Stretches.ask" (A7 Et) (AX Et) (An Et) (.ref T) kV doc pm an cdv ct) ⟨us,[]⟩=seqItems? (.ref T) >>= k/\k (some [d1].toArray)=pure ((["self","count","bound"]:List Str).zip us):=match us,hl with | [_,_,_],_=>⟨_,rfl,rfl⟩
theorem Ho (T:Addr)(d1:Value)(kV doc pm:Value)(an:Option Addr)(cdv ct:Value)(us:List Value)(hl:(us++[d1]).length=["self","count","bound"].length):∃k:Option (Array Value)->Sem (List (Str×Value)),bindArgs (fnOf "ask" "Stretches.ask" (A7 Et) (AX Et) (An Et) (.ref T) kV doc pm an cdv ct) ⟨us,[]⟩=seqItems? (.ref T) >>= k/\k (some [d1].toArray)=pure ((["self","count","bound"]:List Str).zip (us++[d1])):=match us,(show us.length=2 by simpa using hl) with | [_,_],_=>⟨_,rfl,rfl⟩
abbrev Pm:Stmt:=Aq (top 47) 5
theorem Pn:FnScope ["self","place","at","long","live"] ["self","place"] (An Pm):=fS
theorem Hq:BiS "many" "Keeper.many" Pm ["self","place"]:=fun _ _ _ _ _ _ us hl=>match us,hl with | [_,_],_=>rfl
abbrev Eu:Stmt:=Aq (top 47) 12
theorem Yi:FnScope ["self","place","k","many"] ["self","place","k"] (An Eu):=fS
theorem JW:BiS "room_cell_of" "Keeper.room_cell_of" Eu ["self","place","k"]:=fun _ _ _ _ _ _ us hl=>match us,hl with | [_,_,_],_=>rfl
abbrev Po:Stmt:=Aq (top 47) 7
theorem Yj:FnScope ["self","place","k","number","cell"] ["self","place","k","number"] (An Po):=fS
theorem iO:BiS "put" "Keeper.put" Po ["self","place","k","number"]:=fun _ _ _ _ _ _ us hl=>match us,hl with | [_,_,_,_],_=>rfl
abbrev Ev:Stmt:=Aq (top 71) 2
theorem JX:FnScope ["self","place"] ["self","place"] (An Ev):=fS
theorem JY:BiS "give" "Stretches.give" Ev ["self","place"]:=fun _ _ _ _ _ _ us hl=>match us,hl with | [_,_],_=>rfl
abbrev Pp:Stmt:=Aq (top 56) 1
theorem iP:FnScope ["self","place"] ["self","place"] (An Pp):=fS
theorem iQ:BiS "give" "Row.give" Pp ["self","place"]:=fun _ _ _ _ _ _ us hl=>match us,hl with | [_,_],_=>rfl
abbrev Pq:Stmt:=Aq (top 54) 2
theorem Rc:FnScope ["self","place","at","long"] ["self","place"] (An Pq):=fS
theorem Hr:BiS "give" "Halves.give" Pq ["self","place"]:=fun _ _ _ _ _ _ us hl=>match us,hl with | [_,_],_=>rfl
abbrev Pr:Stmt:=Aq (top 65) 3
theorem Ps:FnScope ["self","place","cells","begin"] ["self","place"] (An Pr):=fS
theorem iR:BiS "give" "Shelves.give" Pr ["self","place"]:=fun _ _ _ _ _ _ us hl=>match us,hl with | [_,_],_=>rfl
abbrev nI (K:PySem.W.Frag)(m:Str)(f:Addr):Prop:=nsIn K mainGlobals m=some (some (.ref f))
abbrev fI (K:PySem.W.Frag)(C:Addr)(m:Str)(f:Addr):Prop:=PySem.W.findIn K (.ref C) m=some (some (.ref f))
abbrev cI (K:PySem.W.Frag)(c:Value)(m:Str):Prop:=codeIn K c m=true
abbrev kI (K:PySem.W.Frag)(f:Addr):Prop:=keepIn K (.ref f)=true
abbrev iI (K:PySem.W.Frag)(f:Addr):Prop:=isFn K (.ref f)=true
abbrev tI (K:PySem.W.Frag)(a b:Addr)(c:Bool):Prop:=kitOne K (.ref a) (.ref b)=some c
structure Txt (K:PySem.W.Frag)(mg:Str->Option Value)(Y0 Dp A0 Y5 Y9 Y3 Y8 Cr Y2 Bo Y7 Y6 Ak Y4 Y1 Ah Ai Af Aj:Addr)(h8:Tok)(h9:Tok):Prop where
 n_any:mg "any"=none
 n_bool:mg "bool"=none
 n_int:mg "int"=none
 n_isinstance:mg "isinstance"=none
 n_len:mg "len"=none
 n_list:mg "list"=none
 n_min:mg "min"=none
 n_range:mg "range"=none
 n_sorted:mg "sorted"=none
 iS:mg "LEAST_LIVE"=some (.int 3 h8)
 FF:mg "MARKS"=some (.int 2 h9)
 mK:mg "StowError"=some (.ref Y0)
 mL:mg "NoName"=some (.ref Dp)
 mM:mg "NoSize"=some (.ref A0)
 Yk:mg "Broken"=some (.ref Y5)
 iT:mg "NoGive"=some (.ref Y9)
 mO:mg "NoPiece"=some (.ref Y3)
 mP:mg "NoCell"=some (.ref Y8)
 mQ:mg "NoAsk"=some (.ref Cr)
 mR:mg "NoBound"=some (.ref Y2)
 iU:mg "NoRoom"=some (.ref Bo)
 iV:mg "Keeper"=some (.ref Y7)
 iW:mg "Halves"=some (.ref Y6)
 c_Row:mg "Row"=some (.ref Ak)
 iX:mg "Shelves"=some (.ref Y4)
 iY:mg "Stretches"=some (.ref Y1)
 iZ:mg "First"=some (.ref Ah)
 c_Best:mg "Best"=some (.ref Ai)
 c_Next:mg "Next"=some (.ref Af)
 jA:mg "Likes"=some (.ref Aj)
 Re:XSet K Y5 "cell"
 Pt:XCls K mg "NoSize" A0
 jB:XCls K mg "NoName" Dp
 Rf:XCls K mg "NoPiece" Y3
 JZ:XCls K mg "NoRoom" Bo
 jC:XCls K mg "NoAsk" Cr
 jD:XCls K mg "NoBound" Y2
 jE:XCls K mg "NoCell" Y8
 jF:XCls K mg "NoGive" Y9
 Pu:Cls K Ah
 Rg:BF K Ah "room_cells"
 Pw:Cls K Ai
 Rh:BF K Ai "room_cells"
 Hs:Cls K Af
 Iv:BF K Af "room_cells"
 Px:BF K Af "room_rover"
 Py:Cls K Aj
 Ri:BF K Aj "room_cells"
 J0:Cls K Y6
 Rj:BF K Y6 "room_cells"
 Iw:Cls K Y4
 Pz:BF K Y4 "room_cells"
 Rk:BF K Y4 "shelf"
 cl_Row:Cls K Ak
 Rl:BF K Ak "room_cells"
 jG:Fits K Bo Bo true
 jH:Fits K Y9 Y9 true
 Yl:Fits K Y5 Y5 true
 Ym:XK0 K Y5
section
variable {K:PySem.W.Frag}{mg:Str->Option Value}{Y0 Dp A0 Y5 Y9 Y3 Y8 Cr Y2 Bo Y7 Y6 Ak Y4 Y1 Ah Ai Af Aj:Addr}{h8:Tok}{h9:Tok}
theorem T_cl (T:Txt K mg Y0 Dp A0 Y5 Y9 Y3 Y8 Cr Y2 Bo Y7 Y6 Ak Y4 Y1 Ah Ai Af Aj h8 h9):∀i,Cls K ((cF Ah Ai Af Aj Y6 Y4 Ak) i):=FD T.Pu T.Pw T.Hs T.Py T.J0 T.Iw T.cl_Row
theorem T_na (T:Txt K mg Y0 Dp A0 Y5 Y9 Y3 Y8 Cr Y2 Bo Y7 Y6 Ak Y4 Y1 Ah Ai Af Aj h8 h9):∀i,BF K ((cF Ah Ai Af Aj Y6 Y4 Ak) i) "room_cells":=FD (Q:=fun C=>BF K C "room_cells") T.Rg T.Rh T.Iv T.Ri T.Rj T.Pz T.Rl
end
def Yn:Sp:=fun vs H Q _=>∃(n:Int) (v:Bool),vs=[.int n,.bl v]/\n.natAbs<2^220/\Q (.int (n*2+if v then 1 else 0)) H
section
variable {P:Program}{w:World}{base:Heap}{K:PySem.W.Frag}{mg:Str->Option Value}{Y0 Dp A0 Y5 Y9 Y3 Y8 Cr Y2 Bo Y7 Y6 Ak Y4 Y1 Ah Ai Af Aj:Addr}{h8:Tok}{h9:Tok}
variable (T:Txt K mg Y0 Dp A0 Y5 Y9 Y3 Y8 Cr Y2 Bo Y7 Y6 Ak Y4 Y1 Ah Ai Af Aj h8 h9)
include T in
theorem J1 (S:Src K mg "mark_of" Of) :Defx P w K mg base "mark_of" 1 ["long","live"] (Yn):=by
 refine S.okx gN Ge (fun vs H Q E h=>by revert h;walk_at "len") (fun f cdv A outer s H vs Q E hr h=>?_);refine⟨_,PSs.nox (Ac (AG (Cd (pv 1) (fun _=>rfl)) (Ae (Au (Am op_or (Am Qy (pv 0) Ad) Ad))) AI) (Ae (Au (Am Qy (pv 0) Ad)))),?_⟩;obtain⟨n,v,rfl,hn,q⟩:=h;walk_at "go";refine B9 (fun hv=>?_) (fun hv=>?_)
 . walk_at "go";rw[two1,cM];subst hv;exact q
 . walk_at "go";rw[two1];subst hv;rw[if_neg Bool.false_ne_true,Int.add_zero] at q;exact q
include T in
theorem J3 (S:Src K mg "long_of" Og) :Defx P w K mg base "long_of" 1 ["number"] (Qh):=by
 refine S.okx Gf Gg (fun vs H Q E h=>by revert h;walk_at "len") (fun f cdv A outer s H vs Q E hr h=>?_);refine⟨_,PSs.nox (Ae (Au (Am ZK (pv 0) Ad))),?_⟩;obtain⟨n,rfl,q⟩:=h;walk_at "go";rw[two1];exact q
include T in
theorem J5 (S:Src K mg "live_of" Oh) :Defx P w K mg base "live_of" 1 ["number"] (Qi):=by
 refine S.okx Gi gO (fun vs H Q E h=>by revert h;walk_at "len") (fun f cdv A outer s H vs Q E hr h=>?_);refine⟨_,PSs.nox (Ae (Au (D9 BA (Am We (pv 0) Ad) Ad (Aw _)))),?_⟩;obtain⟨n,rfl,q⟩:=h;walk_at "go";rw[bP];exact q
variable (Av:Defx P w K mg base "long_of" 1 ["number"] (Qh))
variable (AQ:Defx P w K mg base "live_of" 1 ["number"] (Qi))
include T Av AQ in
theorem J6 (S:Src K mg "can_begin" Oi):Defx P w K mg base "can_begin" 2 ["cells","at"] (Qj K):=by
 refine S.okx X3 Gj (fun vs H Q E h=>by revert h;walk_at "len") (fun f cdv A outer s H vs Q E hr h=>?_);refine⟨_,PSs.nox (Ac (At (i:=2) X3.nd rfl (Or.inl rfl) (Ar Av hr (by rfl) (Aa (Ax AV (pv 0) (pv 1) (fun _ _=>rfl)) Ab))) (Ac (AG (PW.pt (Cc (AB Dm (pv 2) Ad (Aw _)) (Cz (AB D8 (Am AN (pv 1) (pv 2)) (Bm B7 (by rfl) T.n_len PySem.boot_len (Aa (pv 0) Ab)) (Aw _))))) (Ae (Au Bt)) AI) (Ae (Au (pe_or (D9 Je (pv 2) (D5 (v:=.int 3) (by rfl) T.iS ⟨_,rfl⟩) (Aw _)) (Jb (V7 (Ar AQ hr (by rfl) (Aa (Ax AV (pv 0) (pv 1) (fun _ _=>rfl)) Ab))))))))),?_⟩;obtain⟨a,ns,k,rfl,hS,h0,h1,q⟩:=h;have q':∀c,BZ ns k=c->Q (.bl c) H:=fun c e=>e▸q;walk_at "go";refine AK (fun hc=>?_) (fun hc=>?_)
 . walk_at "go";exact q' false (by unfold BZ;rw[if_pos (Or.inl hc)])
 . walk_at "go";refine AK (fun hd=>?_) (fun hd=>?_)
   . walk_at "go";exact q' false (by unfold BZ;rw[if_pos (Or.inr hd)])
   . walk_at "go";have ec:BZ ns k=(decide (3<=ns.getD k.toNat 0/2)||!decide (ns.getD k.toNat 0%2=1)):=by
       unfold BZ;rw[if_neg (by omega)]
     refine B9 (fun he=>?_) (fun he=>?_)
     . walk_at "go";exact q' true (by rw[ec,he,Bool.true_or])
     . walk_at "go";exact q' _ (by rw[ec,he,Bool.false_or])
variable (CH:Defx P w K mg base "can_begin" 2 ["cells","at"] (Qj K))
include T Av CH in
theorem J7 (S:Src K mg "bad_of_piece" Oj):Defx P w K mg base "bad_of_piece" 3 ["cells","at"] (Qk K):=by
 refine S.okx X4 Gk (fun vs H Q E h=>by revert h;walk_at "len") (fun f cdv A outer s H vs Q E hr h=>?_);refine⟨_,PSs.nox (Ac (AG (B6 (D6 (Ar CH hr (by rfl) (Aa (pv 0) (Aa (pv 1) Ab))))) (Ae (Au (pv 1))) AI) (Ac (At (i:=2) X4.nd rfl (Or.inl rfl) (Am A9 (Am AN (pv 1) (Ar Av hr (by rfl) (Aa (Ax AV (pv 0) (pv 1) (fun _ _=>rfl)) Ab))) Ad)) (Ac (AG (AB D7 (Ax AV (pv 0) (pv 2) (fun _ _=>rfl)) (Ax AV (pv 0) (pv 1) (fun _ _=>rfl)) (Aw _)) (Ae (Au (pv 2))) AI) (Ae (Au B5))))),?_⟩;obtain⟨a,ns,k,rfl,hS,h0,h1,q⟩:=h;have q':∀c,Bp ns k=c->Q (optV c) H:=fun c e=>e▸q;walk_at "go";refine B9 (fun hc=>?_) (fun hc=>?_)
 . obtain⟨b1,b2,_⟩:=(HV ns k).mp hc;walk_at "go";refine AK (fun hd=>?_) (fun hd=>?_)
   . walk_at "go";exact q' none (WF hc hd)
   . walk_at "go";exact q' (some _) (WE hc hd)
 . walk_at "go";exact q' (some k) (WD hc)
theorem jI {P:Program}{w:World}{base:Heap}{K:PySem.W.Frag}{mg:Str->Option Value}{Y5 Y0:Addr}{fI:Addr}{fd:FuncData}(F:Fun K "__init__" "Broken.__init__" O7 fI fd)(XI:XIni K mg "Broken" Y5 Y0 fI)(Z:XSet K Y5 "cell"):DefI P w K mg base "Broken" Y5 Y0 1 ["self","cell"] (Qe Y5 "cell"):=by
 refine⟨fI,fd,XI,Bb F iC (fun vs H Q E h=>?_) (fun cdv A outer s H vs Q E hr h=>?_),F.binds iD⟩
 . obtain⟨y,v,rfl,_⟩:=h;rfl
 . obtain⟨y,v,rfl,hy,q⟩:=h;exact⟨_,PSs.nox (Ae (aY (pv 0) (pv 1))),_,rfl,_,rfl,y,_,rfl,hy,Z,fun dx hd=>q dx hd⟩
def LkW (H:Hp)(a p:Addr)(ns:List Int)(m:Nat)(σ:L2.St)(H':Hp):Prop :=
 ∃(ds:List Pc) (us:List V) (k:Int) (x y:Option V),σ=[some (.ref a),some (.ref p),some (.int k),x,y]/\m=(ns.length-k).toNat/\0<=k/\k<=ns.length/\(ds.length:Int)<=k/\WPre ns ds k/\Same H H'/\H' p=some (.lst us)/\AA H' us ds
variable (CI:Defx P w K mg base "bad_of_piece" 3 ["cells","at"] (Qk K))
variable (D_Broken:DefI P w K mg base "Broken" Y5 Y0 1 ["self","cell"] (Qe Y5 "cell"))
include T Av AQ CI D_Broken in
theorem J8 (S:Src K mg "looked" Ol):Defx P w K mg base "looked" 4 ["cells"] (WV K Y5):=by
 refine S.okx Il Gm (fun vs H Q E h=>by revert h;walk_at "len") (fun f cdv A outer s H vs Q E hr h=>?_);refine⟨_,(Ac (At (i:=1) Il.nd rfl (Or.inl rfl) (Dn Ab)) (Ac (At (i:=2) Il.nd rfl (Or.inl rfl) Ad) (Ac (Jc PassesOwn.leaving (AB Dm (pv 2) (Bm B7 (by rfl) T.n_len PySem.boot_len (Aa (pv 0) Ab)) (Aw _)) (Ac (At (i:=3) Il.nd rfl (Or.inl rfl) (Ar CI hr (by rfl) (Aa (pv 0) (Aa (pv 2) Ab)))) (Ac (AG (AB HR (pv 3) B5 (Aw _)) (Ae (bH D_Broken hr rfl (Aa (pv 3) Ab))) AI) (Ac (At (i:=4) Il.nd rfl (Or.inl rfl) (Ar Av hr (by rfl) (Aa (Ax AV (pv 0) (pv 2) (fun _ _=>rfl)) Ab))) (Ac (Bl (F3 PySem.F.plainAttrs_list PySem.F.slot_list_append PySem.F.type_list_append F4 (pv 1) (Aa (BY (Aa (pv 2) (Aa (pv 4) (Aa (Ar AQ hr (by rfl) (Aa (Ax AV (pv 0) (pv 2) (fun _ _=>rfl)) Ab)) Ab)))) Ab))) (Ae (At (i:=2) Il.nd rfl (Or.inl rfl) (Am AN (pv 2) (pv 4))))))))) (Ae (Au (pv 1)))))),?_⟩;obtain⟨a,ns,rfl,hS,hz,qe,q⟩:=h;walk_at "go";intro p hp;walk_at "go";refine⟨LkW H a p ns,⟨_,[],[],0,none,none,rfl,rfl,by omega,by omega,by decide,WPre.nil ns,Same.new hp,upd_same,AA.nil⟩,?_⟩;rintro m σ H' ⟨ds,us,k,x,y,rfl,rfl,h0,hkl,hdl,w,s1,hp',pa⟩;have hul:=pa.1;have hS':SqL K H' a (ns.map V.int):=s1.seq hS;walk_at "go";refine AK (fun hlt=>?_) (fun hlt=>?_)
 . refine⟨fun σ' H''=>∃m',m'<(ns.length-k).toNat/\LkW H a p ns m' σ' H'',fun σ' H'' hw=>hw,?_⟩;walk_at "go";cases hb:Bp ns k with
   | some b =>
     walk_at "go";refine r_made (fun dx hd=>?_);exact qe b (by rw[w.bad hlt hb]) dx _ (s1.put (s1.free hd)) upd_same
   | none =>
     obtain⟨b1,b2,b3⟩:=Jk hb;walk_at "go";intro t ht;have hpt:p≠t:=A8 hp' ht;walk_at "go";obtain⟨g1,g2⟩:=AA.push (z:=pcAt ns k) pa hp' ht;dsimp only [pcAt] at g1 g2;refine⟨_,?_,ds++[pcAt ns k],us++[.ref t],k+ns.getD k.toNat 0/2,_,_,rfl,rfl,by omega,by omega,?_,w.step hlt hb,(s1.put (s1.free ht)).put hp,g1,g2⟩
     . omega
     . rw[List.length_append,List.length_singleton];omega
 . walk_at "go";exact q (by rw[w.fin hlt]) p us H' hp s1 hp' (by rw[w.fin hlt];exact pa)
def BG (n:Int):List Int:=AM (List.replicate n.toNat 0) 0 n false
theorem Ew {n:Int}(h:0<=n):((BG n).length:Int)=n:=by
 unfold BG;rw[Cf,List.length_replicate];omega
theorem jJ (n:Nat):(List.replicate n [V.int 0]).flatten=(List.replicate n (0:Int)).map V.int:=by
 induction n with
 | zero=>rfl
 | succ n ih=>rw[List.replicate_succ,List.flatten_cons,ih,List.replicate_succ,List.map_cons];rfl
def Yo (C:Addr):Sp:=fun vs H Q E=>∃n:Int,vs=[.int n]/\n<=4000/\(n<1->E (.ref C) none H)/\(1<=n->∀(p:Addr) (H':Hp),H p=none->Same H H'->H' p=some (.lst ((BG n).map V.int))->Q (.ref p) H')
variable (AW:Defx P w K mg base "mark_of" 1 ["long","live"] (Yn))
include T AW in
theorem J9 (S:Src K mg "fresh_room" On):Defx P w K mg base "fresh_room" 2 ["count"] (Yo A0):=by
 refine S.okx X6 gP (fun vs H Q E h=>by revert h;walk_at "len") (fun f cdv A outer s H vs Q E hr h=>?_);refine⟨_,(Ac (AG (AB Dm (pv 0) Ad (Aw _)) (Ae (Ch T.Pt hr.hd rfl (Aa AY Ab))) AI) (Ac (At (i:=1) X6.nd rfl (Or.inl rfl) (Am WB (Dn (Aa Ad Ab)) (pv 0))) (Ac (Cm (Ar AW hr (by rfl) (Aa (pv 0) (Aa Bt Ab))) (FX (pv 1) Ad F2)) (Ac (Cm (Ar AW hr (by rfl) (Aa (pv 0) (Aa Bt Ab))) (FX (pv 1) (Am A9 (pv 0) Ad) F2)) (Ae (Au (pv 1))))))),?_⟩;obtain⟨n,rfl,h4,qe,q⟩:=h;walk_at "go";refine AK (fun hc=>?_) (fun hc=>?_)
 . walk_at "go";exact qe hc
 . have hn:n.natAbs<2^220:=Nat.lt_of_le_of_lt (show n.natAbs<=4000 by omega) (by decide);walk_at "go";intro l hl;walk_at "go";refine⟨l,n,_,rfl,rfl,upd_same,by omega,by omega,(by show 1*n.toNat<=sizeLine;exact Nat.le_of_lt (small4000 (by omega))),fun p hp=>?_⟩;rw[jJ];have np:=(Same.new hl).free hp;have s1:Same H (upd (upd H l (.lst [.int 0])) p (.lst ((List.replicate n.toNat (0:Int)).map V.int))):=(Same.new hl).put np;have e1:upd (upd H l (.lst [.int 0])) p (.lst ((List.replicate n.toNat (0:Int)).map V.int)) p=some (.lst ((List.replicate n.toNat (0:Int)).map V.int)):=upd_same;generalize upd (upd H l (.lst [.int 0])) p (.lst ((List.replicate n.toNat (0:Int)).map V.int))=H1 at s1 e1 ⊢;have hlr:(List.replicate n.toNat (0:Int)).length=n.toNat:=List.length_replicate;walk_at "go";refine⟨n,false,rfl,hn,?_⟩;walk_at "go";refine⟨n,false,rfl,hn,?_⟩;walk_at "go";refine q (by omega) p _ np ((s1.put np).put np) ?_;unfold BG AM;rw[show (0:Int)+n-1=n-1 by omega];exact upd_same
def Yp (K:PySem.W.Frag):Sp:=fun vs H Q _=>∃(a:Addr) (cs:List Int) (k l:Int) (v:Bool),vs=[.ref a,.int k,.int l,.bl v]/\SqL K H a (cs.map V.int)/\cs.length<=4000/\0<=k/\1<=l/\k+l<=cs.length /\
 ∀(p:Addr) (H':Hp),H p=none->Same H H'->H' p=some (.lst ((AM cs k l v).map V.int))->Q (.ref p) H'
include T AW in
theorem Ka (S:Src K mg "laid" Oo):Defx P w K mg base "laid" 2 ["cells","at","long","live"] (Yp K):=by
 refine S.okx X7 Go (fun vs H Q E h=>by revert h;walk_at "len") (fun f cdv A outer s H vs Q E hr h=>?_);refine⟨_,PSs.nox (Ac (At (i:=4) X7.nd rfl (Or.inl rfl) (CC CD (by rfl) T.n_list PyProof.Rows.boot_list (Aa (pv 0) Ab))) (Ac (Cm (Ar AW hr (by rfl) (Aa (pv 2) (Aa (pv 3) Ab))) (FX (pv 4) (pv 1) F2)) (Ac (Cm (Ar AW hr (by rfl) (Aa (pv 2) (Aa (pv 3) Ab))) (FX (pv 4) (Am A9 (Am AN (pv 1) (pv 2)) Ad) F2)) (Ae (Au (pv 4)))))),?_⟩;obtain⟨a,cs,k,l,v,rfl,hS,hz,h0,h1,hl,q⟩:=h;have hn:l.natAbs<2^220:=Nat.lt_of_le_of_lt (show l.natAbs<=4000 by omega) (by decide);walk_at "go";intro p hp;walk_at "go";refine⟨l,v,rfl,hn,?_⟩;walk_at "go";refine⟨l,v,rfl,hn,?_⟩;walk_at "go";refine q p _ hp (((Same.new hp).put hp).put hp) upd_same
def Yq (K:PySem.W.Frag):Sp:=fun vs H Q _=>∃(a:Addr) (cs:List Int) (b e:Int),vs=[.ref a,.int b,.int e]/\SqL K H a (cs.map V.int)/\cs.length<=4000/\0<=b/\b<=e/\e<=cs.length /\
 ∀(p:Addr) (H':Hp),H p=none->Same H H'->H' p=some (.lst ((lfI cs b e).map V.int))->Q (.ref p) H'
variable (As:Defx P w K mg base "laid" 2 ["cells","at","long","live"] (Yp K))
include T As in
theorem Kb (S:Src K mg "laid_free" Op):Defx P w K mg base "laid_free" 3 ["cells","begin","end"] (Yq K):=by
 refine S.okx gQ gR (fun vs H Q E h=>by revert h;walk_at "len") (fun f cdv A outer s H vs Q E hr h=>?_);refine⟨_,PSs.nox (Ac (AG (AB BA (pv 1) (pv 2) (Aw _)) (Ae (Au (CC CD (by rfl) T.n_list PyProof.Rows.boot_list (Aa (pv 0) Ab)))) AI) (Ae (Au (Ar As hr (by rfl) (Aa (pv 0) (Aa (pv 1) (Aa (Am A9 (pv 2) (pv 1)) (Aa Bt Ab)))))))),?_⟩;obtain⟨a,cs,b,e,rfl,hS,hz,h0,h1,hl,q⟩:=h;walk_at "go";refine AK (fun he=>?_) (fun he=>?_)
 . walk_at "go";intro p hp;walk_at "go";refine q p _ hp (Same.new hp) ?_;unfold lfI;rw[if_pos he];exact upd_same
 . walk_at "go";refine⟨a,cs,b,e-b,false,rfl,hS,hz,h0,by omega,by omega,fun p H' hp s1 g1=>?_⟩;walk_at "go";refine q p H' hp s1 ?_;unfold lfI;rw[if_neg he];exact g1
def Yr (K:PySem.W.Frag):Sp:=fun vs H Q _=>∃(b:Addr) (us:List V) (ps:List Pc),vs=[.ref b]/\H b=some (.lst us)/\AA H us ps/\ps.length<=4000 /\
 ∀(p:Addr) (ws:List V) (H':Hp),H p=none->Same H H'->H' p=some (.lst ws)->AA H' ws (Bj ps)->Q (.ref p) H'
def JpW (f0:Option V)(p:Addr)(ps:List Pc)(H:Hp)(i:Nat)(σ:L2.St)(H':Hp):Prop :=
 ∃(ws:List V) (x2 x3 x4:Option V),σ=[f0,some (.ref p),x2,x3,x4]/\Same H H'/\H' p=some (.lst ws)/\AA H' ws (Bj (ps.take i))
include T in
theorem Rm (S:Src K mg "joined_pieces" Eg) :Defx P w K mg base "joined_pieces" 1 ["pieces"] (Yr K):=by
 refine S.okx JH JI (fun vs H Q E h=>by revert h;walk_at "len") (fun f cdv A outer s H vs Q E hr h=>?_);refine⟨_,PSs.nox (Ac (At (i:=1) JH.nd rfl (Or.inl rfl) (Dn Ab)) (Ac (DS PassesOwn.never rfl (BV (pv 0)) (Dr rfl (AF (Ay (i:=2) JH.nd rfl (Or.inl rfl)) (AF (Ay (i:=3) JH.nd rfl (Or.inl rfl)) (AF (Ay (i:=4) JH.nd rfl (Or.inl rfl)) BU)))) (Ae (AG (PW.pt (DA (Cd (pv 1) (fun _=>rfl)) (DA (B6 (Cd (pv 4) (fun _=>rfl))) (DR (B6 (Cd (Ax Bn (Ax AV (pv 1) (FZ F0 Ad) (fun _ _=>rfl)) Ad (fun _ _=>rfl)) (fun _=>rfl))))))) (Ae (Cm (BY (Aa (Ax Bn (Ax AV (pv 1) (FZ F0 Ad) (fun _ _=>rfl)) Ad (fun _ _=>rfl)) (Aa (Am AN (Ax Bn (Ax AV (pv 1) (FZ F0 Ad) (fun _ _=>rfl)) Ad (fun _ _=>rfl)) (pv 3)) (Aa Bt Ab)))) (FX (pv 1) (FZ F0 Ad) F2))) (Ae (Bl (F3 PySem.F.plainAttrs_list PySem.F.slot_list_append PySem.F.type_list_append F4 (pv 1) (Aa (BY (Aa (pv 2) (Aa (pv 3) (Aa (pv 4) Ab)))) Ab))))))) (Ae (Au (pv 1))))),?_⟩;obtain⟨b,us,ps,rfl,hb,pa,hz,q⟩:=h;have hul:=pa.1;walk_at "go";intro p hp;walk_at "go";refine⟨b,rfl,⟨_,SqL.of (Same.new hp b _ hb)⟩,FY (K:=K) (a:=b) (xs:=us) (JpW (some (.ref b)) p ps H) ⟨[],none,none,none,rfl,Same.new hp,upd_same,AA.nil⟩ (fun i σ H2 _ ⟨_,_,_,_,_,s2,_⟩=>SqL.of (s2 b _ hb)) ?_ ?_⟩
 . rintro i y σ H2 hi ⟨ws,x2,x3,x4,rfl,s2,hp2,pw⟩;have hil:i<us.length:=(List.getElem?_eq_some_iff.mp hi).1;have hip:i<ps.length:=by omega
   have hz1:ps[i]?=some ps[i]:=by simp [hip]
   obtain⟨t,et,hT⟩:=pa.2 i ps[i] hz1;have ey:y = .ref t:=Option.some.inj (hi.symm.trans et);subst ey;have hT2:=s2 t _ hT;have hj:=WY hz1;have hle:=W4 ps i (by omega);generalize ps[i]=z at hT2 hj;have hwl:=pw.1;rcases DE (Bj (ps.take i)) with e | ⟨D,w,e⟩
   . rw[e] at pw hj hwl;have ew:ws=[]:=List.length_eq_zero_iff.mp hwl;subst ew;walk_at "go";refine iteT ?_;walk_at "go";intro t2 ht2;walk_at "go";obtain⟨g1,g2⟩:=AA.push (z:=z) pw hp2 ht2;exact⟨_,_,_,_,rfl,(s2.put (s2.free ht2)).put hp,g1,by rw[hj];exact g2⟩
   . rw[e] at pw hj hle;obtain⟨ui,t1,rfl,pi,h1⟩:=pw.unsnoc;have hem:(ui++[V.ref t1]).isEmpty=false:=by simp
     rw[List.length_append,List.length_singleton] at hle;have hpl:=pi.1;have hsz:(ui++[V.ref t1]).length<4000:=by rw[List.length_append,List.length_singleton];omega
     walk_at "go";rw[hem];walk_at "go";refine B9 (fun hv=>?_) (fun hv=>?_)
     . walk_at "go";intro t2 ht2;walk_at "go";obtain⟨g1,g2⟩:=AA.push (z:=z) pw hp2 ht2;exact⟨_,_,_,_,rfl,(s2.put (s2.free ht2)).put hp,g1,by rw[hj,F6 hv];exact g2⟩
     . walk_at "go";refine HY (SqL.of hp2) ?_;walk_at "go";refine B9 (fun hv2=>?_) (fun hv2=>?_)
       . walk_at "go";intro t2 ht2;walk_at "go";obtain⟨g1,g2⟩:=AA.push (z:=z) pw hp2 ht2;exact⟨_,_,_,_,rfl,(s2.put (s2.free ht2)).put hp,g1,by rw[hj,F7 hv2];exact g2⟩
       . walk_at "go";refine HY (SqL.of hp2) ?_;walk_at "go";refine HY (SqL.of hp2) ?_;walk_at "go";intro t2 ht2;walk_at "go";refine bO (xs:=ui) (v:=.ref t1) (look_put ht2 hp2) ?_;walk_at "go";have g:=AA.relast (z:=⟨w.a,w.l+z.l,false⟩) pi hp2 ht2;exact⟨_,_,_,_,rfl,(s2.put (s2.free ht2)).put hp,upd_same,by rw[hj,F8 hv2 hv];exact g⟩
 . rintro σ H2 ⟨ws,x2,x3,x4,rfl,s2,hp2,pw⟩;walk_at "go";rw[List.take_of_length_le (by omega)] at pw;exact q p ws H2 hp s2 hp2 pw
def Ys (K:PySem.W.Frag):Sp:=fun vs H Q _=>∃(a:Addr) (cs:List Int) (ps:List Pc),vs=[.ref a]/\SqL K H a (cs.map V.int)/\cs.length<=4000/\Ag 0 ps cs.length/\AO cs 0=(ps,none) /\
 ∀(p:Addr) (H':Hp),H p=none->Same H H'->H' p=some (.lst ((Cn cs (Bj ps)).map V.int))->Q (.ref p) H'
def JdW (f0:Option V)(lp:Addr)(us:List V)(js:List Pc)(cs:List Int)(H:Hp)(i:Nat)(σ:L2.St)(H':Hp):Prop :=
 ∃(r:Addr) (x2 x3 x4:Option V),σ=[f0,some (.ref r),x2,x3,x4]/\H r=none/\Same H H'/\H' r=some (.lst ((Cn cs (js.take i)).map V.int))/\H' lp=some (.lst us)/\AA H' us js
variable (Ap:Defx P w K mg base "looked" 4 ["cells"] (WV K Y5))
variable (Ex:Defx P w K mg base "joined_pieces" 1 ["pieces"] (Yr K))
include T As Ap Ex in
theorem Kc (S:Src K mg "joined" OA):Defx P w K mg base "joined" 5 ["cells"] (Ys K):=by
 refine S.okx Im GB (fun vs H Q E h=>by revert h;walk_at "len") (fun f cdv A outer s H vs Q E hr h=>?_);refine⟨_,PSs.nox (Ac (At (i:=1) Im.nd rfl (Or.inl rfl) (CC CD (by rfl) T.n_list PyProof.Rows.boot_list (Aa (pv 0) Ab))) (Ac (DS PassesOwn.never rfl (BV (Ar Ex hr (by rfl) (Aa (Ar Ap hr (by rfl) (Aa (pv 0) Ab)) Ab))) (Dr rfl (AF (Ay (i:=2) Im.nd rfl (Or.inl rfl)) (AF (Ay (i:=3) Im.nd rfl (Or.inl rfl)) (AF (Ay (i:=4) Im.nd rfl (Or.inl rfl)) BU)))) (Ae (At (i:=1) Im.nd rfl (Or.inl rfl) (Ar As hr (by rfl) (Aa (pv 1) (Aa (pv 2) (Aa (pv 3) (Aa (pv 4) Ab)))))))) (Ae (Au (pv 1))))),?_⟩;obtain⟨a,cs,ps,rfl,hS,hz,hc,hw,q⟩:=h;walk_at "go";intro r0 hr0;have s0:Same H (upd H r0 (.lst (cs.map V.int))):=Same.new hr0;have e0:upd H r0 (.lst (cs.map V.int)) r0=some (.lst (cs.map V.int)):=upd_same;generalize upd H r0 (.lst (cs.map V.int))=H0 at s0 e0 ⊢;walk_at "go";refine⟨a,cs,rfl,s0.seq hS,hz,(fun c hc=>by rw[hw] at hc;cases hc),fun _ lp us H1 nlp s1 hlp pa=>?_⟩;have pa:AA H1 us ps:=by rw[hw] at pa;exact pa
 have hps:(ps.length:Int)<=cs.length:=by have:=hc.le;omega
 walk_at "go";refine⟨lp,us,ps,rfl,hlp,pa,by omega,fun jp js H2 njp s2 hjp pj=>?_⟩;have jc:=NL hc;generalize Bj ps=qs at pj jc q;have hjl:=pj.1;have s02:=(s0.trans s1).trans s2;refine⟨jp,rfl,⟨_,SqL.of hjp⟩,FY (K:=K) (a:=jp) (xs:=js) (JdW (some (.ref a)) jp js qs cs H) ⟨r0,none,none,none,rfl,hr0,s02,s2 _ _ (s1 _ _ e0),hjp,pj⟩ (fun i σ H2 _ ⟨_,_,_,_,_,_,_,_,h,_⟩=>SqL.of h) ?_ ?_⟩
 . rintro i y σ H3 hi ⟨r,x2,x3,x4,rfl,nr,s3,hr3,hj3,pj3⟩;have hil:i<js.length:=(List.getElem?_eq_some_iff.mp hi).1;have hip:i<qs.length:=by omega
   have hz1:qs[i]?=some qs[i]:=by simp [hip]
   obtain⟨t,et,hT⟩:=pj3.2 i qs[i] hz1;have ey:y = .ref t:=Option.some.inj (hi.symm.trans et);subst ey;have hj:=cG (cs:=cs) hz1;obtain⟨z0,z1,_,z4⟩:=jc.mem qs[i] (by simp);generalize qs[i]=z at hT hj z0 z1 z4;have hll:=Qu (qs.take i) cs;walk_at "go";refine⟨r,Cn cs (qs.take i),z.a,z.l,z.v,rfl,SqL.of hr3,by omega,z0,z1,by omega,fun p H4 np s4 hp4=>?_⟩;walk_at "go";exact⟨p,_,_,_,rfl,s3.free np,s3.trans s4,by rw[hj];exact hp4,s4 _ _ hj3,pj3.same s4⟩
 . rintro σ H3 ⟨r,x2,x3,x4,rfl,nr,s3,hr3,hj3,pj3⟩;walk_at "go";rw[List.take_of_length_le (by omega)] at hr3;exact q r H3 nr s3 hr3
def Yt (K:PySem.W.Frag)(C:Addr):Sp:=fun vs H Q E=>∃(a:Addr) (cs:List Int) (ps:List Pc) (k:Int),vs=[.ref a,.int k]/\SqL K H a (cs.map V.int)/\cs.length<=4000/\AO cs 0=(ps,none) /\
 (∀z∈ps,z.a=k->∀(t:Addr) (H':Hp),Same H H'->H' t=some (.tup [.int z.a,.int z.l,.bl z.v])->Q (.ref t) H') /\
 ((∀z∈ps,z.a≠k)->∀(H':Hp),Same H H'->E (.ref C) none H')
def PaW (f0 f1:Option V)(H1:Hp)(ps:List Pc)(k:Int)(i:Nat)(σ:L2.St)(H':Hp):Prop:=H1=H'/\∃x2:Option V,σ=[f0,f1,x2]/\∀z∈ps.take i,z.a≠k
include T Ap in
theorem Kd (S:Src K mg "piece_at" Oq):Defx P w K mg base "piece_at" 5 ["cells","at"] (Yt K Y3):=by
 refine S.okx X8 Gp (fun vs H Q E h=>by revert h;walk_at "len") (fun f cdv A outer s H vs Q E hr h=>?_);refine⟨_,(Ac (DS PassesOwn.leaving rfl (BV (BC Ap hr (by rfl) (Aa (pv 0) Ab))) (Ay (i:=2) X8.nd rfl (Or.inl rfl)) (Ae (AG (AB BA (Ax Bn (pv 2) Ad (fun _ _=>rfl)) (pv 1) (Aw _)) (Ae (Au (pv 2))) AI))) (Ae (Ch T.Rf hr.hd rfl (Aa AY Ab)))),?_⟩;obtain⟨a,cs,ps,k,rfl,hS,hz,hw,q,qe⟩:=h;walk_at "go";refine⟨a,cs,rfl,hS,hz,(fun c hc=>by rw[hw] at hc;cases hc),fun _ lp us H1 nlp s1 hlp pa=>?_⟩;have pa:AA H1 us ps:=by rw[hw] at pa;exact pa
 have hul:=pa.1;refine⟨lp,rfl,⟨_,SqL.of hlp⟩,FY (K:=K) (a:=lp) (xs:=us) (PaW (some (.ref a)) (some (.int k)) H1 ps k) ⟨rfl,none,rfl,fun z hz=>by cases hz⟩ (fun i σ H2 _ ⟨h,_⟩=>h▸SqL.of hlp) ?_ ?_⟩
 . rintro i y σ H2 hi ⟨rfl,x2,rfl,hq⟩;have hil:i<us.length:=(List.getElem?_eq_some_iff.mp hi).1;have hip:i<ps.length:=by omega
   obtain⟨t,et,hT⟩:=pa.2 i ps[i] (by simp [hip]);have ey:y = .ref t:=Option.some.inj (hi.symm.trans et);subst ey;walk_at "go";refine AK (fun hk=>?_) (fun hk=>?_)
   . walk_at "go";exact q ps[i] (by simp) hk t _ s1 hT
   . walk_at "go";refine⟨rfl,_,rfl,fun z hz=>?_⟩;rw[List.take_add_one,List.getElem?_eq_getElem hip] at hz;rcases List.mem_append.mp hz with h | h
     . exact hq z h
     . have:z=ps[i]:=by simpa using h
       rw[this];exact hk
 . rintro σ H2 ⟨rfl,x2,rfl,hq⟩;rw[List.take_of_length_le (by omega)] at hq;walk_at "go";exact qe hq _ s1
def PB (K:PySem.W.Frag)(C:Addr)(v:Bool):Sp:=fun vs H Q E=>∃(a:Addr) (cs:List Int) (ps:List Pc) (k:Int),vs=[.ref a,.int k]/\SqL K H a (cs.map V.int)/\cs.length<=4000/\AO cs 0=(ps,none)/\Ag 0 ps cs.length /\
 (∀z∈ps,z.a=k->z.v=v->∀(t:Addr) (H':Hp),Same H H'->H' t=some (.tup [.int z.a,.int z.l,.bl z.v])->Q (.ref t) H') /\
 ((∀z∈ps,z.a=k->z.v≠v)->∀(H':Hp),Same H H'->E (.ref C) none H')
variable (BH:Defx P w K mg base "piece_at" 5 ["cells","at"] (Yt K Y3))
include T BH in
theorem Ke (S:Src K mg "live_at" Os):Defx P w K mg base "live_at" 6 ["cells","at"] (PB K Y3 true):=by
 refine S.okx X9 Gq (fun vs H Q E h=>by revert h;walk_at "len") (fun f cdv A outer s H vs Q E hr h=>?_);refine⟨_,(Ac (At (i:=2) X9.nd rfl (Or.inl rfl) (BC BH hr (by rfl) (Aa (pv 0) (Aa (pv 1) Ab)))) (Ac (AG (B6 (Cd (Ax Bn (pv 2) Ad (fun _ _=>rfl)) (fun _=>rfl))) (Ae (Ch T.Rf hr.hd rfl (Aa AY Ab))) AI) (Ae (Au (pv 2))))),?_⟩;obtain⟨a,cs,ps,k,rfl,hS,hz,hw,hc,q,qe⟩:=h;walk_at "go";refine⟨a,cs,ps,k,rfl,hS,hz,hw,fun z hm hk t H1 s1 ht=>?_,fun hn H1 s1=>qe (fun z hz hk=>absurd hk (hn z hz)) _ s1⟩;walk_at "go";refine B9 (fun hv=>?_) (fun hv=>?_)
 . walk_at "go";exact q z hm hk hv t _ s1 ht
 . walk_at "go";refine qe (fun y hy hk2=>?_) _ s1;rw[Du hc hy hm (by omega),hv];exact fun z=>nomatch z
include T BH in
theorem Kf (S:Src K mg "free_at" Ot):Defx P w K mg base "free_at" 6 ["cells","at"] (PB K Y3 false):=by
 refine S.okx Ya Gr (fun vs H Q E h=>by revert h;walk_at "len") (fun f cdv A outer s H vs Q E hr h=>?_);refine⟨_,(Ac (At (i:=2) Ya.nd rfl (Or.inl rfl) (BC BH hr (by rfl) (Aa (pv 0) (Aa (pv 1) Ab)))) (Ac (AG (Cd (Ax Bn (pv 2) Ad (fun _ _=>rfl)) (fun _=>rfl)) (Ae (Ch T.Rf hr.hd rfl (Aa AY Ab))) AI) (Ae (Au (pv 2))))),?_⟩;obtain⟨a,cs,ps,k,rfl,hS,hz,hw,hc,q,qe⟩:=h;walk_at "go";refine⟨a,cs,ps,k,rfl,hS,hz,hw,fun z hm hk t H1 s1 ht=>?_,fun hn H1 s1=>qe (fun z hz hk=>absurd hk (hn z hz)) _ s1⟩;walk_at "go";refine B9 (fun hv=>?_) (fun hv=>?_)
 . walk_at "go";refine qe (fun y hy hk2=>?_) _ s1;rw[Du hc hy hm (by omega),hv];exact fun z=>nomatch z
 . walk_at "go";exact q z hm hk hv t _ s1 ht
def Yu (K:PySem.W.Frag)(CP CR:Addr):Sp:=fun vs H Q E=>∃(a:Addr) (cs:List Int) (ps:List Pc) (k s L:Int),vs=[.ref a,.int k,.int s,.int L]/\SqL K H a (cs.map V.int)/\cs.length<=4000/\Ag 0 ps cs.length/\Ao cs ps/\1<=L /\
 (∀z∈ps,z.a=k->z.v=false->z.a<=s->s+L<=z.a+z.l->∀(p:Addr) (H':Hp),H p=none->Same H H'->H' p=some (.lst ((cutO cs z.a z.l s L).map V.int))->Q (.ref p) H') /\
 (∀z∈ps,z.a=k->z.v=false->¬(z.a<=s/\s+L<=z.a+z.l)->∀(H':Hp),Same H H'->E (.ref CR) none H') /\
 ((∀z∈ps,z.a=k->z.v≠false)->∀(H':Hp),Same H H'->E (.ref CP) none H')
variable (CJ:Defx P w K mg base "free_at" 6 ["cells","at"] (PB K Y3 false))
variable (Bu:Defx P w K mg base "laid_free" 3 ["cells","begin","end"] (Yq K))
include T As CJ Bu in
theorem Kg (S:Src K mg "cut_out" Ox):Defx P w K mg base "cut_out" 7 ["cells","at","place","long"] (Yu K Y3 Bo):=by
 refine S.okx Gy Gz (fun vs H Q E h=>by revert h;walk_at "len") (fun f cdv A outer s H vs Q E hr h=>?_);refine⟨_,(Ac (Cm (BC CJ hr (by rfl) (Aa (pv 0) (Aa (pv 1) Ab))) (Dr rfl (AF (Ay (i:=4) Gy.nd rfl (Or.inl rfl)) (AF (Ay (i:=5) Gy.nd rfl (Or.inl rfl)) (AF (Ay (i:=6) Gy.nd rfl (Or.inl rfl)) BU))))) (Ac (At (i:=7) Gy.nd rfl (Or.inl rfl) (Am AN (pv 4) (pv 5))) (Ac (AG (PW.pt (Cc (AB Dm (pv 2) (pv 4) (Aw _)) (Cz (AB D8 (Am AN (pv 2) (pv 3)) (pv 7) (Aw _))))) (Ae (Ch T.JZ hr.hd rfl (Aa AY Ab))) AI) (Ac (At (i:=8) Gy.nd rfl (Or.inl rfl) (Ar Bu hr (by rfl) (Aa (pv 0) (Aa (pv 4) (Aa (pv 2) Ab))))) (Ac (At (i:=8) Gy.nd rfl (Or.inl rfl) (Ar As hr (by rfl) (Aa (pv 8) (Aa (pv 2) (Aa (pv 3) (Aa Bt Ab)))))) (Ae (Au (Ar Bu hr (by rfl) (Aa (pv 8) (Aa (Am AN (pv 2) (pv 3)) (Aa (pv 7) Ab))))))))))),?_⟩;obtain⟨a,cs,ps,k,s,L,rfl,hS,hz,hc,mk,hL,q,qr,qe⟩:=h;have hw:=BB hc mk;walk_at "go";refine⟨a,cs,ps,k,rfl,hS,by omega,hw,hc,fun z hm hk hv t H1 s1 ht=>?_,fun hn H1 s1=>qe hn _ s1⟩;obtain⟨z0,z1,_,z4⟩:=hc.mem z hm;walk_at "go";refine AK (fun h1=>?_) (fun h1=>?_)
 . walk_at "go";exact qr z hm hk hv (by omega) _ s1
 . walk_at "go";refine AK (fun h2=>?_) (fun h2=>?_)
   . walk_at "go";exact qr z hm hk hv (by omega) _ s1
   . walk_at "go";refine⟨a,cs,z.a,s,rfl,s1.seq hS,hz,z0,by omega,by omega,fun p2 H2 n2 s2 g2=>?_⟩;walk_at "go";refine⟨p2,lfI cs z.a s,s,L,true,rfl,SqL.of g2,by rw[DD];exact hz,by omega,hL,by rw[DD];omega,fun p3 H3 n3 s3 g3=>?_⟩;walk_at "go";refine⟨p3,AM (lfI cs z.a s) s L true,s+L,z.a+z.l,rfl,SqL.of g3,by rw[Cf,DD];exact hz,by omega,by omega,by rw[Cf,DD];omega,fun p4 H4 n4 s4 g4=>?_⟩;walk_at "go";have s13:=(s1.trans s2).trans s3;exact q z hm hk hv (by omega) (by omega) p4 H4 (s13.free n4) (s13.trans s4) g4
def Yv (K:PySem.W.Frag):Sp:=fun vs H Q _=>∃(a:Addr) (cs:List Int) (ps:List Pc) (i:Nat) (z:Pc),vs=[.ref a,.int z.a]/\SqL K H a (cs.map V.int)/\Ag 0 ps cs.length/\Ao cs ps/\ps[i]?=some z/\Q (.int (fbeg ps i z)) H
def Yw (K:PySem.W.Frag):Sp:=fun vs H Q _=>∃(a:Addr) (cs:List Int) (ps:List Pc) (i:Nat) (z:Pc),vs=[.ref a,.int (z.a+z.l)]/\SqL K H a (cs.map V.int)/\Ag 0 ps cs.length/\Ao cs ps/\ps[i]?=some z/\Q (.int (fend ps i z)) H
include T Av AQ in
theorem Kh (S:Src K mg "free_begin" Ov):Defx P w K mg base "free_begin" 2 ["cells","at"] (Yv K):=by
 refine S.okx Gv gS (fun vs H Q E h=>by revert h;walk_at "len") (fun f cdv A outer s H vs Q E hr h=>?_);refine⟨_,PSs.nox (Ac (AG (PW.pt (Cc (AB BA (pv 1) Ad (Aw _)) (Cz (D6 (Ar AQ hr (by rfl) (Aa (Ax AV (pv 0) (Am A9 (pv 1) Ad) (fun _ _=>rfl)) Ab)))))) (Ae (Au (pv 1))) AI) (Ae (Au (Am A9 (pv 1) (Ar Av hr (by rfl) (Aa (Ax AV (pv 0) (Am A9 (pv 1) Ad) (fun _ _=>rfl)) Ab)))))),?_⟩;obtain⟨a,cs,ps,i,z,rfl,hS,hc,mk,hi,q⟩:=h;obtain⟨z0,z1,_,z4⟩:=hc.mem z (List.mem_of_getElem? hi);cases i with
 | zero =>
   have e:=bT hc hi;walk_at "go";exact q
 | succ j =>
   have hp:=Qq hc hi;have hj:j<ps.length:=by have:=(List.getElem?_eq_some_iff.mp hi).1;omega
   have hy:ps[j]?=some ps[j]:=by simp [hj]
   have hm:=bV hc mk hy hi;have hn:=FA hc hy hi;generalize ps[j]=y at hy hm hn;have hm':cs.getD (z.a-1).toNat 0=mkOf y.l y.v:=hm;walk_at "go";rw[hm',Ny];refine B9 (fun hv=>?_) (fun hv=>?_)
   . walk_at "go";rw[NI hy hv] at q;exact q
   . walk_at "go";rw[hm',HU,show z.a-y.l=y.a by omega];rw[NJ hy hv] at q;exact q
include T Av AQ in
theorem Ki (S:Src K mg "free_end" Ow):Defx P w K mg base "free_end" 2 ["cells","end"] (Yw K):=by
 refine S.okx Gw Gx (fun vs H Q E h=>by revert h;walk_at "len") (fun f cdv A outer s H vs Q E hr h=>?_);refine⟨_,PSs.nox (Ac (AG (PW.pt (Cc (AB BA (pv 1) (Bm B7 (by rfl) T.n_len PySem.boot_len (Aa (pv 0) Ab)) (Aw _)) (Cz (D6 (Ar AQ hr (by rfl) (Aa (Ax AV (pv 0) (pv 1) (fun _ _=>rfl)) Ab)))))) (Ae (Au (pv 1))) AI) (Ae (Au (Am AN (pv 1) (Ar Av hr (by rfl) (Aa (Ax AV (pv 0) (pv 1) (fun _ _=>rfl)) Ab)))))),?_⟩;obtain⟨a,cs,ps,i,z,rfl,hS,hc,mk,hi,q⟩:=h;obtain⟨z0,z1,_,z4⟩:=hc.mem z (List.mem_of_getElem? hi);by_cases hl:ps.length=i+1
 . have e:=bR hc hi hl;walk_at "go";rw[Qt (List.getElem?_eq_none (by omega))] at q;exact q
 . have hj:i+1<ps.length:=by have:=(List.getElem?_eq_some_iff.mp hi).1;omega
   have hy:ps[i+1]?=some ps[i+1]:=by simp [hj]
   have hm:=bW hc mk hi hy;have hn:=FA hc hi hy;generalize ps[i+1]=y at hy hm hn;obtain⟨y0,y1,_,y4⟩:=hc.mem y (List.mem_of_getElem? hy);have hm':cs.getD (z.a+z.l).toNat 0=mkOf y.l y.v:=hm;walk_at "go";rw[hm',Ny];refine B9 (fun hv=>?_) (fun hv=>?_)
   . walk_at "go";rw[Qr hy hv] at q;exact q
   . walk_at "go";rw[hm',HU,<-hn];rw[Qs hy hv] at q;exact q
def Yx (K:PySem.W.Frag)(C:Addr):Sp:=fun vs H Q E=>∃(a:Addr) (cs:List Int) (ps:List Pc) (k:Int),vs=[.ref a,.int k]/\SqL K H a (cs.map V.int)/\cs.length<=4000/\Ag 0 ps cs.length/\Ao cs ps /\
 (∀i z,ps[i]?=some z->z.a=k->z.v=true->∀(p:Addr) (H':Hp),H p=none->Same H H'->H' p=some (.lst ((lfI cs (fbeg ps i z) (fend ps i z)).map V.int))->Q (.ref p) H') /\
 ((∀z∈ps,z.a=k->z.v≠true)->∀(H':Hp),Same H H'->E (.ref C) none H')
variable (BI:Defx P w K mg base "live_at" 6 ["cells","at"] (PB K Y3 true))
variable (CK:Defx P w K mg base "free_begin" 2 ["cells","at"] (Yv K))
variable (CL:Defx P w K mg base "free_end" 2 ["cells","end"] (Yw K))
include T Bu BI CK CL in
theorem Kj (S:Src K mg "freed" Oy):Defx P w K mg base "freed" 7 ["cells","at"] (Yx K Y3):=by
 refine S.okx Oz GA (fun vs H Q E h=>by revert h;walk_at "len") (fun f cdv A outer s H vs Q E hr h=>?_);refine⟨_,(Ac (Cm (BC BI hr (by rfl) (Aa (pv 0) (Aa (pv 1) Ab))) (Dr rfl (AF (Ay (i:=2) Oz.nd rfl (Or.inl rfl)) (AF (Ay (i:=3) Oz.nd rfl (Or.inl rfl)) (AF (Ay (i:=4) Oz.nd rfl (Or.inl rfl)) BU))))) (Ae (Au (Ar Bu hr (by rfl) (Aa (pv 0) (Aa (Ar CK hr (by rfl) (Aa (pv 0) (Aa (pv 2) Ab))) (Aa (Ar CL hr (by rfl) (Aa (pv 0) (Aa (Am AN (pv 2) (pv 3)) Ab))) Ab))))))),?_⟩;obtain⟨a,cs,ps,k,rfl,hS,hz,hc,mk,q,qe⟩:=h;have hw:=BB hc mk;walk_at "go";refine⟨a,cs,ps,k,rfl,hS,hz,hw,hc,fun z hm hk hv t H1 s1 ht=>?_,fun hn H1 s1=>qe hn _ s1⟩;obtain⟨i,hi⟩:=List.getElem?_of_mem hm;have b1:=bX hc hi;have b2:=bY hc hi;have hS1:=s1.seq hS;obtain⟨z0,z1,_,z4⟩:=hc.mem z hm;walk_at "go";refine⟨a,cs,ps,i,z,rfl,hS1,hc,mk,hi,?_⟩;walk_at "go";refine⟨a,cs,ps,i,z,rfl,hS1,hc,mk,hi,?_⟩;walk_at "go";refine⟨a,cs,_,_,rfl,hS1,hz,b1.1,by omega,by omega,fun p H2 n2 s2 g2=>?_⟩;walk_at "go";exact q i z hi hk hv p H2 (s1.free n2) (s1.trans s2) g2
def Yy (CA:Addr):Sp:=fun vs H Q E=>∃c b:Int,vs=[.int c,.int b]/\(c<1\/b<1->E (.ref CA) none H)/\(1<=c->1<=b->Q .non H)
include T in
theorem Kk (S:Src K mg "check_ask" Oe) :Defx P w K mg base "check_ask" 1 ["count","bound"] (Yy Cr):=by
 refine S.okx Gc Gd (fun vs H Q E h=>by revert h;walk_at "len") (fun f cdv A outer s H vs Q E hr h=>?_);refine⟨_,(Ae (AG (PW.pt (Cc (AB Dm (pv 0) Ad (Aw _)) (Cz (AB Dm (pv 1) Ad (Aw _))))) (Ae (Ch T.jC hr.hd rfl (Aa AY Ab))) AI)),?_⟩;obtain⟨c,b,rfl,qe,q⟩:=h;walk_at "go";refine AK (fun h1=>?_) (fun h1=>?_)
 . walk_at "go";exact qe (.inl h1)
 . walk_at "go";refine AK (fun h2=>?_) (fun h2=>?_)
   . walk_at "go";exact qe (.inr h2)
   . walk_at "go";exact q (by omega) (by omega)
def BgW (H1:Hp)(ps:List Pc)(s:Int)(D:Addr)(i:Nat)(ys:List V)(H2:Hp):Prop:=Same H1 H2/\H2 D=some (.lst ys)/\ys=(((ps.take i).filter fun z=>decide (z.a<=s)).map fun z=>V.int z.a)
def Yz (CA CB:Addr):Sp:=fun vs H Q E=>∃c b:Int,vs=[.int c,.int b]/\(c<1\/b<1->E (.ref CA) none H)/\(1<=c->1<=b->b≠1->E (.ref CB) none H)/\(1<=c->b=1->Q .non H)
variable (BJ:Defx P w K mg base "check_ask" 1 ["count","bound"] (Yy Cr))
include T BJ in
theorem Rn (S:Src K mg "check_plain_ask" Ef):Defx P w K mg base "check_plain_ask" 2 ["count","bound"] (Yz Cr Y2):=by
 refine S.okx JF JG (fun vs H Q E h=>by revert h;walk_at "len") (fun f cdv A outer s H vs Q E hr h=>?_);refine⟨_,(Ac (Bl (BC BJ hr (by rfl) (Aa (pv 0) (Aa (pv 1) Ab)))) (Ae (AG (AB D7 (pv 1) Ad (Aw _)) (Ae (Ch T.jD hr.hd rfl (Aa AY Ab))) AI))),?_⟩;obtain⟨c,b,rfl,qa,qb,q⟩:=h;walk_at "go";refine⟨c,b,rfl,qa,fun h1 h2=>?_⟩;walk_at "go";refine AK (fun h3=>?_) (fun h3=>?_)
 . walk_at "go";exact q h1 h3
 . walk_at "go";exact qb h1 h2 h3
structure BS (C:W7->Addr)(i:W7)(x dx a:Addr)(r:Int)(cs:List Int)(ps:List Pc)(H:Hp):Prop where
 hx:H x=some (.ins (C i) dx (fsF i a r))
 ha:H a=some (.lst (cs.map V.int))
 hz:cs.length<=1200
 hc:Ag 0 ps cs.length
 mm:Ao cs ps
structure KS (C:W7->Addr)(x dx a:Addr)(q:St7)(cs:List Int)(H:Hp):Prop where
 hx:H x=some (.ins (C q.let3) dx (fsF q.let3 a q.s))
 ha:H a=some (.lst (cs.map V.int))
 hl:(cs.length:Int)=q.n
 hz:cs.length<=1200
 ok:q.ok
 mm:Ao cs q.ps
section
variable {C:W7->Addr}{x dx a:Addr}{q:St7}{cs:List Int}{H H':Hp}
theorem KS.same (S:KS C x dx a q cs H)(s:Same H H'):KS C x dx a q cs H':=⟨s x _ S.hx,s a _ S.ha,S.hl,S.hz,S.ok,S.mm⟩
theorem KS.ch (S:KS C x dx a q cs H):Ag 0 q.ps cs.length:=by rw[S.hl];exact St7.ch S.ok
theorem KS.bs (S:KS C x dx a q cs H):BS C q.let3 x dx a q.s cs q.ps H:=⟨S.hx,S.ha,S.hz,S.ch,S.mm⟩
end
def YA (C:W7->Addr):Sp:=fun vs H Q _=>∃(i:W7) (x dx:Addr) (n:Int),vs=[.ref x,.int n]/\H x=some (.ins (C i) dx [])/\1<=n/\n<=4000 /\
 ∀(a:Addr) (H':Hp),H a=none->Az x H H'->H' x=some (.ins (C i) dx [("room_cells",.ref a)])->H' a=some (.lst ((BG n).map V.int))->Q .non H'
variable (AC:Defx P w K mg base "fresh_room" 2 ["count"] (Yo A0))
include T AC in
theorem Kl {f₀:Addr}{fd₀:FuncData}(F:Fun K "__init__" "Keeper.__init__" Ej f₀ fd₀)(M:ClsM K Y7 "__init__" f₀):Basex P w K mg base "Keeper" "__init__" 3 ["self","size"] (YA (cF Ah Ai Af Aj Y6 Y4 Ak)):=by
 refine⟨⟨Y7,f₀,fd₀,Bb F Ir (fun vs H Q E h=>by revert h;walk_at "len") (fun cdv A outer s H vs Q E hr h=>?_),M,F.binds Iu,T.iV⟩⟩;refine⟨_,PSs.nox (Ae (Cs (pv 0) (Ar AC hr (by rfl) (Aa (pv 1) Ab)) rfl)),?_⟩;obtain⟨i,x,dx,n,rfl,hx,h1,h4,q⟩:=h;have cl:=T_cl T i;have na:=T_na T i;walk_at "go";refine⟨n,rfl,h4,fun z=>absurd z (by omega),fun _ p H1 np s1 hp=>?_⟩;have hx1:=s1 x _ hx;have hne:p≠x:=fun z=>by rw[z,hx] at np;cases np
 walk_at "go";exact q p _ np (Az.of s1).put upd_same (look_ne hne hp)
def spMk (C CS:Addr):Sp:=fun vs H Q E=>∃(x dx:Addr) (n:Int),vs=[.ref x,.int n]/\H x=some (.ins C dx [])/\n<=4000/\(n<1->E (.ref CS) none H) /\
 (1<=n->∀(a:Addr) (H':Hp),H a=none->Az x H H'->H' x=some (.ins C dx [("room_cells",.ref a)])->H' a=some (.lst ((BG n).map V.int))->Q .non H')
include T AC in
theorem jK {f₀:Addr}{fd₀:FuncData}(F:Fun K "__init__" "Keeper.__init__" Ej f₀ fd₀)(M:Mk K Ah f₀):Makex P w K mg base "First" Ah 3 ["self","size"] [] (spMk Ah A0):=by
 refine⟨⟨f₀,fd₀,[],Bb F Ir (fun vs H Q E h=>by revert h;walk_at "len") (fun cdv A outer s H vs Q E hr h=>?_),M,F.binds Iu,.nil⟩,T.iZ⟩;refine⟨_,(Ae (Cs (pv 0) (BC AC hr (by rfl) (Aa (pv 1) Ab)) rfl)),?_⟩;obtain⟨x,dx,n,rfl,hx,h4,qe,q⟩:=h;have cl:=T.Pu;have na:=T.Rg;walk_at "go";refine⟨n,rfl,h4,fun z=>qe z,fun h1 p H1 np s1 hp=>?_⟩;have hx1:=s1 x _ hx;have hne:p≠x:=fun z=>by rw[z,hx] at np;cases np
 walk_at "go";exact q h1 p _ np (Az.of s1).put upd_same (look_ne hne hp)
include T AC in
theorem d_Best {f₀:Addr}{fd₀:FuncData}(F:Fun K "__init__" "Keeper.__init__" Ej f₀ fd₀)(M:Mk K Ai f₀):Makex P w K mg base "Best" Ai 3 ["self","size"] [] (spMk Ai A0):=by
 refine⟨⟨f₀,fd₀,[],Bb F Ir (fun vs H Q E h=>by revert h;walk_at "len") (fun cdv A outer s H vs Q E hr h=>?_),M,F.binds Iu,.nil⟩,T.c_Best⟩;refine⟨_,(Ae (Cs (pv 0) (BC AC hr (by rfl) (Aa (pv 1) Ab)) rfl)),?_⟩;obtain⟨x,dx,n,rfl,hx,h4,qe,q⟩:=h;have cl:=T.Pw;have na:=T.Rh;walk_at "go";refine⟨n,rfl,h4,fun z=>qe z,fun h1 p H1 np s1 hp=>?_⟩;have hx1:=s1 x _ hx;have hne:p≠x:=fun z=>by rw[z,hx] at np;cases np
 walk_at "go";exact q h1 p _ np (Az.of s1).put upd_same (look_ne hne hp)
include T AC in
theorem jL {f₀:Addr}{fd₀:FuncData}(F:Fun K "__init__" "Keeper.__init__" Ej f₀ fd₀)(M:Mk K Aj f₀):Makex P w K mg base "Likes" Aj 3 ["self","size"] [] (spMk Aj A0):=by
 refine⟨⟨f₀,fd₀,[],Bb F Ir (fun vs H Q E h=>by revert h;walk_at "len") (fun cdv A outer s H vs Q E hr h=>?_),M,F.binds Iu,.nil⟩,T.jA⟩;refine⟨_,(Ae (Cs (pv 0) (BC AC hr (by rfl) (Aa (pv 1) Ab)) rfl)),?_⟩;obtain⟨x,dx,n,rfl,hx,h4,qe,q⟩:=h;have cl:=T.Py;have na:=T.Ri;walk_at "go";refine⟨n,rfl,h4,fun z=>qe z,fun h1 p H1 np s1 hp=>?_⟩;have hx1:=s1 x _ hx;have hne:p≠x:=fun z=>by rw[z,hx] at np;cases np
 walk_at "go";exact q h1 p _ np (Az.of s1).put upd_same (look_ne hne hp)
include T AC in
theorem d_Row {f₀:Addr}{fd₀:FuncData}(F:Fun K "__init__" "Keeper.__init__" Ej f₀ fd₀)(M:Mk K Ak f₀):Makex P w K mg base "Row" Ak 3 ["self","size"] [] (spMk Ak A0):=by
 refine⟨⟨f₀,fd₀,[],Bb F Ir (fun vs H Q E h=>by revert h;walk_at "len") (fun cdv A outer s H vs Q E hr h=>?_),M,F.binds Iu,.nil⟩,T.c_Row⟩;refine⟨_,(Ae (Cs (pv 0) (BC AC hr (by rfl) (Aa (pv 1) Ab)) rfl)),?_⟩;obtain⟨x,dx,n,rfl,hx,h4,qe,q⟩:=h;have cl:=T.cl_Row;have na:=T.Rl;walk_at "go";refine⟨n,rfl,h4,fun z=>qe z,fun h1 p H1 np s1 hp=>?_⟩;have hx1:=s1 x _ hx;have hne:p≠x:=fun z=>by rw[z,hx] at np;cases np
 walk_at "go";exact q h1 p _ np (Az.of s1).put upd_same (look_ne hne hp)
include T AC in
theorem Km {f₀:Addr}{fd₀:FuncData}(F:Fun K "__init__" "Keeper.__init__" Ej f₀ fd₀)(M:ClsM K Y1 "__init__" f₀):Basex P w K mg base "Stretches" "__init__" 3 ["self","size"] (spMk Af A0):=by
 refine⟨⟨Y1,f₀,fd₀,Bb F Ir (fun vs H Q E h=>by revert h;walk_at "len") (fun cdv A outer s H vs Q E hr h=>?_),M,F.binds Iu,T.iY⟩⟩;refine⟨_,(Ae (Cs (pv 0) (BC AC hr (by rfl) (Aa (pv 1) Ab)) rfl)),?_⟩;obtain⟨x,dx,n,rfl,hx,h4,qe,q⟩:=h;have cl:=T.Hs;have na:=T.Iv;walk_at "go";refine⟨n,rfl,h4,fun z=>qe z,fun h1 p H1 np s1 hp=>?_⟩;have hx1:=s1 x _ hx;have hne:p≠x:=fun z=>by rw[z,hx] at np;cases np
 walk_at "go";exact q h1 p _ np (Az.of s1).put upd_same (look_ne hne hp)
def spMkN (C CS:Addr):Sp:=fun vs H Q E=>∃(x dx:Addr) (n:Int),vs=[.ref x,.int n]/\H x=some (.ins C dx [])/\n<=4000/\(n<1->E (.ref CS) none H) /\
 (1<=n->∀(a:Addr) (H':Hp),H a=none->Az x H H'->H' x=some (.ins C dx [("room_cells",.ref a),("room_rover",.int 0)])->H' a=some (.lst ((BG n).map V.int))->Q .non H')
variable (CM:Basex P w K mg base "Stretches" "__init__" 3 ["self","size"] (spMk Af A0))
include T CM in
theorem jM {f₀:Addr}{fd₀:FuncData}(F:Fun K "__init__" "Next.__init__" O8 f₀ fd₀)(M:Mk K Af f₀):Makex P w K mg base "Next" Af 4 ["self","size"] [] (spMkN Af A0):=by
 refine⟨⟨f₀,fd₀,[],Bb F iE (fun vs H Q E h=>by revert h;walk_at "len") (fun cdv A outer s H vs Q E hr h=>?_),M,F.binds iF,.nil⟩,T.c_Next⟩;refine⟨_,(Ac (Bl (Qg CM B8 hr (by rfl) (Aa (pv 0) (Aa (pv 1) Ab)))) (Ae (Cs (pv 0) Ad rfl))),?_⟩;obtain⟨x,dx,n,rfl,hx,h4,qe,q⟩:=h;have cl:=T.Hs;have na:=T.Iv;have nr:=T.Px;walk_at "go";refine⟨x,dx,n,rfl,hx,h4,fun z=>qe z,fun h1 a H1 na1 k1 hx1 ha1=>?_⟩;have hne:a≠x:=fun z=>by rw[z,hx1] at ha1;cases ha1
 walk_at "go";exact q h1 a _ na1 (k1.trans Az.refl.put) upd_same (look_ne hne ha1)
def fsB (i:W7)(r:Int):Int:=match i with
 | .shel=>r
 | _=>0
def bgC (i:W7)(cs:List Int)(ps:List Pc):List Int:=match i with
 | .half=>cs
 | .shel=>cs
 | .row=>cs
 | _=>Cn cs (Bj ps)
theorem YB {i:W7}{a:Addr}{r:Int}(h:i≠W7.next):fsF i a r=fsF i a (fsB i r):=by cases i <;> first | rfl | exact absurd rfl h
theorem bgC_3 {i:W7}{cs:List Int}{ps:List Pc}(h:ok3 i):bgC i cs ps=cs:=by cases i <;> first | rfl | exact h.elim
theorem bgC_4 {i:W7}{cs:List Int}{ps:List Pc}(h:ok4 i):bgC i cs ps=Cn cs (Bj ps):=by cases i <;> first | rfl | exact h.elim
def okS:W7->Prop
 | .first=>True
 | .best=>True
 | .likes=>True
 | _=>False
theorem okS.four {i:W7}(h:okS i):ok4 i:=by cases i <;> first | exact trivial | exact h.elim
theorem okS.ne {i:W7}(h:okS i):i≠.next:=by rintro rfl;exact h
def Kn (K:PySem.W.Frag)(C:W7->Addr)(i:W7):Sp:=fun vs H Q _=>∃(r:Int) (x h dx a:Addr) (cs:List Int) (ps:List Pc),vs=[.ref x,.ref h]/\H x=some (.ins (C i) dx (fsF i a r))/\SqL K H h (cs.map V.int)/\cs.length<=4000/\Ag 0 ps cs.length/\AO cs 0=(ps,none) /\
 ∀(a':Addr) (H':Hp),H a'=none->Az x H H'->H' x=some (.ins (C i) dx (fsF i a' (fsB i r)))->H' a'=some (.lst ((bgC i cs ps).map V.int))->Q .non H'
include T in
theorem Ko {f₀:Addr}{fd₀:FuncData}(F:Fun K "room_begin" "Keeper.room_begin" Ek f₀ fd₀)(M:∀i,(ok3) i->Meth K ((cF Ah Ai Af Aj Y6 Y4 Ak) i) "room_begin" f₀) :BD P w K mg base (ok3) (cF Ah Ai Af Aj Y6 Y4 Ak) "room_begin" 1 ["self","cells"] [] (Kn K (cF Ah Ai Af Aj Y6 Y4 Ak)):=by
 refine BD.made (Bb F JM (fun vs H Q E h=>by obtain⟨_,_,h⟩:=h;revert h;walk_at "len") (fun cdv A outer s H vs Q E hr h=>?_)) M (F.binds JN) (T_cl T);refine⟨_,PSs.nox (Ae (Cs (pv 0) (CC CD (by rfl) T.n_list PyProof.Rows.boot_list (Aa (pv 1) Ab)) rfl)),?_⟩;obtain⟨i,hi,r,x,h,dx,a,cs,ps,rfl,hx,hS,hz,hc,hw,q⟩:=h;have hi:ok3 i:=hi;have cl:=T_cl T i;have na:=T_na T i;walk_at "go";intro p np;have s1:Same H (upd H p (.lst (cs.map V.int))):=Same.new np;have hx1:=s1 x _ hx;have hp:upd H p (.lst (cs.map V.int)) p=some (.lst (cs.map V.int)):=upd_same;have hne:p≠x:=fun z=>by rw[z,hx] at np;cases np
 generalize upd H p (.lst (cs.map V.int))=H1 at s1 hx1 hp ⊢;walk_at "go";refine q p _ np (Az.of s1).put (by rw[upd_same,NU,<-YB (fun e=>by rw[e] at hi;exact hi)]) (by rw[bgC_3 hi];exact look_ne hne hp)
variable (BK:Defx P w K mg base "joined" 5 ["cells"] (Ys K))
include T BK in
theorem Kq {f₀:Addr}{fd₀:FuncData}(F:Fun K "room_begin" "Stretches.room_begin" El f₀ fd₀)(M:∀i,(okS) i->Meth K ((cF Ah Ai Af Aj Y6 Y4 Ak) i) "room_begin" f₀):BD P w K mg base (okS) (cF Ah Ai Af Aj Y6 Y4 Ak) "room_begin" 6 ["self","cells"] [] (Kn K (cF Ah Ai Af Aj Y6 Y4 Ak)):=by
 refine BD.made (Bb F JO (fun vs H Q E h=>by obtain⟨_,_,h⟩:=h;revert h;walk_at "len") (fun cdv A outer s H vs Q E hr h=>?_)) M (F.binds JP) (T_cl T);refine⟨_,PSs.nox (Ae (Cs (pv 0) (Ar BK hr (by rfl) (Aa (pv 1) Ab)) rfl)),?_⟩;obtain⟨i,hi,r,x,h,dx,a,cs,ps,rfl,hx,hS,hz,hc,hw,q⟩:=h;have hi:okS i:=hi;have cl:=T_cl T i;have na:=T_na T i;walk_at "go";refine⟨h,cs,ps,rfl,hS,hz,hc,hw,fun p H1 np s1 hp=>?_⟩;have hx1:=s1 x _ hx;have hne:p≠x:=fun z=>by rw[z,hx] at np;cases np
 walk_at "go";exact q p _ np (Az.of s1).put (by rw[upd_same,NU,<-YB hi.ne]) (by rw[bgC_4 hi.four];exact look_ne hne hp)
include T BK in
theorem Kr {f₀:Addr}{fd₀:FuncData}(F:Fun K "room_begin" "Next.room_begin" Em f₀ fd₀)(M:∀i,(fun i=>i=W7.next) i->Meth K ((cF Ah Ai Af Aj Y6 Y4 Ak) i) "room_begin" f₀):BD P w K mg base (fun i=>i=W7.next) (cF Ah Ai Af Aj Y6 Y4 Ak) "room_begin" 6 ["self","cells"] [] (Kn K (cF Ah Ai Af Aj Y6 Y4 Ak)):=by
 refine BD.made (Bb F JQ (fun vs H Q E h=>by obtain⟨_,_,h⟩:=h;revert h;walk_at "len") (fun cdv A outer s H vs Q E hr h=>?_)) M (F.binds JR) (T_cl T);refine⟨_,PSs.nox (Ac (Cs (pv 0) (Ar BK hr (by rfl) (Aa (pv 1) Ab)) rfl) (Ae (Cs (pv 0) Ad rfl))),?_⟩;obtain⟨i,hi,r,x,h,dx,a,cs,ps,rfl,hx,hS,hz,hc,hw,q⟩:=h;have hi:i=W7.next:=hi;subst hi;have hx:H x=some (.ins Af dx [("room_cells",.ref a),("room_rover",.int r)]):=hx;have cl:=T.Hs;have na:=T.Iv;have nr:=T.Px;walk_at "go";refine⟨h,cs,ps,rfl,hS,hz,hc,hw,fun p H1 np s1 hp=>?_⟩;have hx1:=s1 x _ hx;have hne:p≠x:=fun z=>by rw[z,hx] at np;cases np
 walk_at "go";generalize hH:upd H1 x _=H2;have hx2:H2 x=some (.ins Af dx [("room_cells",.ref p),("room_rover",.int r)]):=by rw[<-hH];exact upd_same
 have hp2:H2 p=some (.lst ((Cn cs (Bj ps)).map V.int)):=by rw[<-hH];exact look_ne hne hp
 have k2:Az x H H2:=by rw[<-hH];exact(Az.of s1).put
 walk_at "go";exact q p _ np k2.put upd_same (look_ne hne hp2)
def YC (K:PySem.W.Frag)(C:W7->Addr)(i:W7):Sp:=fun vs H Q _=>∃(r:Int) (x h dx a:Addr) (cs0 cs:List Int) (ps:List Pc),vs=[.ref x,.ref h]/\H x=some (.ins (C i) dx (fsF i a r))/\H a=some (.lst (cs0.map V.int))/\cs.length=cs0.length/\SqL K H h (cs.map V.int)/\cs.length<=4000/\Ag 0 ps cs.length/\AO cs 0=(ps,none) /\
 ∀(a':Addr) (H':Hp),H a'=none->Az x H H'->H' x=some (.ins (C i) dx (fsF i a' (fsB i r)))->H' a'=some (.lst ((bgC i cs ps).map V.int))->Q .non H'
variable (D_room_begin:Bk P w K mg base (cF Ah Ai Af Aj Y6 Y4 Ak) "room_begin" 6 ["self","cells"] [] (Kn K (cF Ah Ai Af Aj Y6 Y4 Ak)))
include T Ap D_room_begin in
theorem d_lay {f₀:Addr}{fd₀:FuncData}(F:Fun K "lay" "Keeper.lay" Pb f₀ fd₀)(M:∀i,Meth K ((cF Ah Ai Af Aj Y6 Y4 Ak) i) "lay" f₀):Bk P w K mg base (cF Ah Ai Af Aj Y6 Y4 Ak) "lay" 7 ["self","cells"] [] (YC K (cF Ah Ai Af Aj Y6 Y4 Ak)):=by
 refine Bk.made (Bb F Hb (fun vs H Q E h=>by obtain⟨_,h⟩:=h;revert h;walk_at "len") (fun cdv A outer s H vs Q E hr h=>?_)) M (F.binds Hc) (T_cl T);refine⟨_,(Ac (AG (AB D7 (Bm B7 (by rfl) T.n_len PySem.boot_len (Aa (pv 1) Ab)) (Bm B7 (by rfl) T.n_len PySem.boot_len (Aa (Ce (pv 0) rfl) Ab)) (Aw _)) (Ae (Ch T.Pt hr.hd rfl (Aa AY Ab))) AI) (Ac (Bl (BC Ap hr (by rfl) (Aa (pv 1) Ab))) (Ae (Bl (Do D_room_begin B0 hr (pv 0) (Aa (pv 1) Ab)))))),?_⟩;obtain⟨i,r,x,h,dx,a,cs0,cs,ps,rfl,hx,ha,hl,hS,hz,hc,hw,q⟩:=h;have cl:=T_cl T i;have na:=T_na T i;walk_at "go";refine⟨h,cs,rfl,hS,hz,(fun c hc=>by rw[hw] at hc;cases hc),fun _ lp us H1 nlp s1 hlp pa=>?_⟩;have hx1:=s1 x _ hx;walk_at "go";refine⟨r,x,h,dx,a,cs,ps,rfl,hx1,s1.seq hS,hz,hc,hw,fun a' H2 na2 k2 hx2 ha2=>?_⟩;walk_at "go";exact q a' H2 (s1.free na2) ((Az.of s1).trans k2) hx2 ha2
def YD (C:W7->Addr)(i:W7):Sp:=fun vs H Q _=>∃(r:Int) (x dx a:Addr) (cs:List Int) (ps:List Pc),vs=[.ref x]/\BS C i x dx a r cs ps H /\
 ∀(p:Addr) (us:List V) (H':Hp),H p=none->Same H H'->H' p=some (.lst us)->AA H' us ps->Q (.ref p) H'
include T Ap in
theorem Ks {f₀:Addr}{fd₀:FuncData}(F:Fun K "pieces" "Keeper.pieces" Pd f₀ fd₀)(M:∀i,Meth K ((cF Ah Ai Af Aj Y6 Y4 Ak) i) "pieces" f₀):Bk P w K mg base (cF Ah Ai Af Aj Y6 Y4 Ak) "pieces" 5 ["self"] [] (YD (cF Ah Ai Af Aj Y6 Y4 Ak)):=by
 refine Bk.made (Bb F iK (fun vs H Q E h=>by obtain⟨_,h⟩:=h;revert h;walk_at "len") (fun cdv A outer s H vs Q E hr h=>?_)) M (F.binds Hd) (T_cl T);refine⟨_,PSs.nox (Ae (Au (Ar Ap hr (by rfl) (Aa (Ce (pv 0) rfl) Ab)))),?_⟩;obtain⟨i,r,x,dx,a,cs,ps,rfl,⟨hx,ha,hz,hc,mk⟩,q⟩:=h;have cl:=T_cl T i;have na:=T_na T i;have hw:=BB hc mk;walk_at "go";refine⟨a,cs,rfl,SqL.of ha,by omega,(fun c hc=>by rw[hw] at hc;cases hc),fun _ lp us H1 nlp s1 hlp pa=>?_⟩;walk_at "go";exact q lp us H1 nlp s1 hlp (by rw[hw] at pa;exact pa)
def YE (C:W7->Addr)(k:W7):Sp:=fun vs H Q _=>∃(r:Int) (x dx a:Addr) (cs:List Int),vs=[.ref x]/\H x=some (.ins (C k) dx (fsF k a r))/\H a=some (.lst (cs.map V.int)) /\
 ∀(p:Addr) (H':Hp),H p=none->Same H H'->H' p=some (.lst (cs.map V.int))->Q (.ref p) H'
include T in
theorem Kt {f₀:Addr}{fd₀:FuncData}(F:Fun K "cells" "Keeper.cells" Pe f₀ fd₀)(M:∀i,Meth K ((cF Ah Ai Af Aj Y6 Y4 Ak) i) "cells" f₀) :Bk P w K mg base (cF Ah Ai Af Aj Y6 Y4 Ak) "cells" 1 ["self"] [] (YE (cF Ah Ai Af Aj Y6 Y4 Ak)):=by
 refine Bk.made (Bb F He (fun vs H Q E h=>by obtain⟨_,h⟩:=h;revert h;walk_at "len") (fun cdv A outer s H vs Q E hr h=>?_)) M (F.binds Hf) (T_cl T);refine⟨_,PSs.nox (Ae (Au (CC CD (by rfl) T.n_list PyProof.Rows.boot_list (Aa (Ce (pv 0) rfl) Ab)))),?_⟩;obtain⟨k,r,x,dx,a,cs,rfl,hx,ha,q⟩:=h;have cl:=T_cl T k;have na:=T_na T k;walk_at "go";intro p np;walk_at "go";exact q p _ np (Same.new np) upd_same
/-! bit_length -/
def bl (n:Int):Int:=((Builtin.Int.intBits n:Nat):Int)
section
variable {X:Cx}
def jN:V->List V->Hp->VK->Prop:=fun x xs H Q=>∃i,x = .int i/\xs=[]/\Q (.int (bl i)) H
theorem YF:MtM X "int.bit_length" jN:=by
 intro pins s σ H x xs v us Q I rx rs h;obtain⟨i,rfl,rfl,q⟩:=h;obtain⟨t,rfl⟩:=rx;cases rs;exact PyProof.Rows.call_int_bit_length ⟨.int (bl i),H,I.tok _,⟨_,rfl⟩,q⟩
end
theorem jO {n:Int}{k:Nat}(h2:2<=n)(h3:n<2^220)(hk:DG k n):bl (n-1)=(k:Int)/\(k:Int)<=1000:=by
 have e0:(n-1).natAbs=(n-1).toNat:=by omega
 have h1:=Xh (c:=(n-1).toNat) (by omega);have e1:(((n-1).toNat:Nat):Int)+1=n:=by omega
 rw[e1] at h1;have e2:Builtin.Int.intBits (n-1)=(n-1).toNat.log2+1:=by
   unfold Builtin.Int.intBits;rw[if_neg (by simp;omega),e0]
 have e3:=h1.uniq hk;unfold bl;rw[e2,e3];refine⟨rfl,?_⟩;rcases Nat.lt_or_ge 220 k with g | g
 . have:=hk.2 220 g;omega
 . omega
def Dy (n:Int):Bool:=decide (1<=n)&&decide (Builtin.bitAnd n (n-1)=0)
def YG:Sp:=fun vs H Q _=>∃n:Int,vs=[.int n]/\Q (.bl (Dy n)) H
include T in
theorem Ku (S:Src K mg "is_power" OH) :Defx P w K mg base "is_power" 1 ["number"] (YG):=by
 refine S.okx GG gW (fun vs H Q E h=>by revert h;walk_at "len") (fun f cdv A outer s H vs Q E hr h=>?_);refine⟨_,PSs.nox (Ae (Au (HQ (D9 Je (pv 0) Ad (Aw _)) (Jb (D9 BA (Am We (pv 0) (Am A9 (pv 0) Ad)) Ad (Aw _)))))),?_⟩;obtain⟨n,rfl,q⟩:=h;unfold Dy at q;walk_at "go";refine AK (fun h1=>?_) (fun h1=>?_)
 . walk_at "go";rw[decide_eq_true h1,Bool.true_and] at q;exact q
 . walk_at "go";rw[decide_eq_false h1,Bool.false_and] at q;exact q
def spMkH (C CN:Addr):Sp:=fun vs H Q E=>∃(x dx:Addr) (n:Int),vs=[.ref x,.int n]/\H x=some (.ins C dx [])/\n<=4000/\(Dy n=false->E (.ref CN) none H) /\
 (Dy n=true->∀(a:Addr) (H':Hp),H a=none->Az x H H'->H' x=some (.ins C dx [("room_cells",.ref a)])->H' a=some (.lst ((BG n).map V.int))->Q .non H')
variable (CO:Defx P w K mg base "is_power" 1 ["number"] (YG))
variable (BL:Basex P w K mg base "Keeper" "__init__" 3 ["self","size"] (YA (cF Ah Ai Af Aj Y6 Y4 Ak)))
include T CO BL in
theorem jP {f₀:Addr}{fd₀:FuncData}(F:Fun K "__init__" "Halves.__init__" O9 f₀ fd₀)(M:Mk K Y6 f₀):Makex P w K mg base "Halves" Y6 4 ["self","size"] [] (spMkH Y6 A0):=by
 refine⟨⟨f₀,fd₀,[],Bb F iG (fun vs H Q E h=>by revert h;walk_at "len") (fun cdv A outer s H vs Q E hr h=>?_),M,F.binds iH,.nil⟩,T.iW⟩;refine⟨_,(Ac (AG (B6 (D6 (Ar CO hr (by rfl) (Aa (pv 1) Ab)))) (Ae (Ch T.Pt hr.hd rfl (Aa AY Ab))) AI) (Ae (Bl (Qg BL B0 hr (by rfl) (Aa (pv 0) (Aa (pv 1) Ab)))))),?_⟩;obtain⟨x,dx,n,rfl,hx,h4,qe,q⟩:=h;walk_at "go";refine⟨n,rfl,?_⟩;walk_at "go";refine B9 (fun hp=>?_) (fun hp=>?_)
 . have h1:1<=n:=by
     unfold Dy at hp;rw[Bool.and_eq_true,decide_eq_true_eq] at hp;exact hp.1
   walk_at "go";refine⟨W7.half,x,dx,n,rfl,hx,h1,h4,fun a H1 na k1 hx1 ha1=>?_⟩;walk_at "go";exact q hp a H1 na k1 hx1 ha1
 . walk_at "go";exact qe hp
def YH:Sp:=fun vs H Q _=>∃(n:Int) (k:Nat),vs=[.int n]/\2<=n/\n<2^220/\DG k n/\Q (.int (2^k)) H
include T in
theorem Kv (S:Src K mg "block_for" OI) :Defx P w K mg base "block_for" 1 ["need"] (YH):=by
 refine S.okx GH gX (fun vs H Q E h=>by revert h;walk_at "len") (fun f cdv A outer s H vs Q E hr h=>?_);refine⟨_,PSs.nox (Ae (Au (Am Qy Ad (Wy PySem.F.plainAttrs_int PySem.F.slot_int_bit_length PySem.F.type_int_bit_length YF (Am A9 (pv 0) Ad))))),?_⟩;obtain⟨n,k,rfl,h2,h3,hk,q⟩:=h;obtain⟨e,hb⟩:=jO (n:=n) (k:=k) h2 h3 hk;walk_at "go";refine⟨rfl,_,rfl,rfl,?_⟩;rw[e];walk_at "go";rw[show (1:Int)*2^(k:Int).toNat=2^k by rw[Int.one_mul];rfl];exact q
def fitL (b:Int)(ps:List Pc):List (List Int):=(ps.filter fun z=>!z.v&&decide (b<=z.l)).map fun z=>[z.l,z.a]
theorem jQ {ps:List Pc}{b:Int}{i:Nat}(h:i<ps.length):fitL b (ps.take (i+1))=fitL b (ps.take i)++(if (!ps[i].v&&decide (b<=ps[i].l))=true then [[ps[i].l,ps[i].a]] else []):=by
 unfold fitL;rw[List.take_add_one,List.getElem?_eq_getElem h,List.filter_append,List.map_append]
 congr 1
 simp only [Option.toList_some,List.filter_cons,List.filter_nil]
 split <;> rfl
theorem Ro {ps:List Pc}{b:Int}{k:Nat}(h:k<(fitL b ps).length):∃z∈ps,z.v=false/\b<=z.l/\(fitL b ps).getD k []=[z.l,z.a]:=by
 have e:(fitL b ps).getD k []=(fitL b ps)[k]:=by rw[List.getD_eq_getElem?_getD,List.getElem?_eq_getElem h];rfl
 have hm:(fitL b ps)[k]∈fitL b ps:=List.getElem_mem h;rw[<-e] at hm;unfold fitL at hm;obtain⟨z,hz,ez⟩:=List.mem_map.mp hm;obtain⟨h1,h2⟩:=List.mem_filter.mp hz;obtain⟨h3,h4⟩:=Bool.and_eq_true_iff.mp h2;exact⟨z,h1,by simpa using h3,of_decide_eq_true h4,by unfold fitL;exact ez.symm⟩
theorem jR {ps:List Pc}{b:Int}{z:Pc}(hz:z∈ps)(hv:z.v=false)(hl:b<=z.l):∃k,k<(fitL b ps).length/\(fitL b ps).getD k []=[z.l,z.a]:=by
 have:[z.l,z.a]∈fitL b ps:=by
   unfold fitL;exact List.mem_map.mpr ⟨z,List.mem_filter.mpr ⟨hz,by rw[hv,decide_eq_true hl];rfl⟩,rfl⟩
 obtain⟨k,hk⟩:=List.getElem?_of_mem this;exact⟨k,(List.getElem?_eq_some_iff.mp hk).1,by rw[List.getD_eq_getElem?_getD,hk];rfl⟩
theorem jS {ps:List Pc}{b:Int}{z:Pc}(h:Bst b ps z):0<(fitL b ps).length/\(fitL b ps).getD (A3 (fitL b ps) ((fitL b ps).length-1)) []=[z.l,z.a]:=by
 obtain⟨h1,h2,h3,h4⟩:=h;obtain⟨k,hk,ek⟩:=jR h1 h2 h3;have hm:=DZ (fitL b ps) ((fitL b ps).length-1);obtain⟨y,hy,hyv,hyl,ey⟩:=Ro (ps:=ps) (b:=b) (k:=A3 (fitL b ps) ((fitL b ps).length-1)) (by omega);refine⟨by omega,?_⟩;have hmin:=QJ (xs:=fitL b ps) (fun k hk=>let ⟨z,_,_,_,e⟩:=Ro hk;⟨_,_,e⟩) ((fitL b ps).length-1) (by omega) k (by omega);rw[ek,ey,lex2] at hmin;rw[ey];rcases h4 y hy hyv hyl with g | ⟨g1,g2⟩
 . rw[if_neg (by omega)] at hmin;exact absurd g (of_decide_eq_false hmin)
 . rw[if_pos g1] at hmin;have:=of_decide_eq_false hmin;rw[g1,show y.a=z.a by omega]
def YI (CN:Addr):Sp:=fun vs H Q E=>∃(p:Addr) (us:List V) (ps:List Pc) (b:Int),vs=[.ref p,.int b]/\H p=some (.lst us)/\AA H us ps/\ps.length<=1200 /\
 (((∀z∈ps,z.v=false->z.l<b)/\∀(H':Hp),Same H H'->E (.ref CN) none H')\/(∃z,Bst b ps z/\∀(u:Addr) (H':Hp),Same H H'->H' u=some (.tup [.int z.a,.int z.l])->Q (.ref u) H'))
def LfW (H1:Hp)(ps:List Pc)(b:Int)(D:Addr)(i:Nat)(ys:List V)(H2:Hp):Prop:=Same H1 H2/\H1 D=none/\H2 D=some (.lst ys)/\AZ H2 ys ((fitL b (ps.take i)).map fun x=>x.map V.int)/\ys.length<=i
include T in
theorem Kw (S:Src K mg "least_free" OJ) :Defx P w K mg base "least_free" 1 ["pieces","block"] (YI Bo):=by
 refine S.okx OK gY (fun vs H Q E h=>by revert h;walk_at "len") (fun f cdv A outer s H vs Q E hr h=>?_);refine⟨_,(Ac (Ib (i:=2) ["at","long","live"] ["block"] [1] OK.nd rfl (Or.inl rfl) rfl (BV (pv 0)) (fun cl C s₀ H₀ ex=>(DF (K:=K) (n:=3) rfl rfl (AF (Ay (i:=0) (show ((["at","long","live"]:List Str)++(["block"]:List Str)).Nodup by decide +kernel) rfl (Or.inl rfl)) (AF (Ay (i:=1) (show ((["at","long","live"]:List Str)++(["block"]:List Str)).Nodup by decide +kernel) rfl (Or.inl rfl)) (AF (Ay (i:=2) (show ((["at","long","live"]:List Str)++(["block"]:List Str)).Nodup by decide +kernel) rfl (Or.inl rfl)) BU))))) (fun cl C s₀ H₀ ex=>(DU (PW.pt (DA (B6 (Jt (K:=K) rfl (pv 2) (fun _=>rfl))) (DR (AB Je (pv 1) (pv 3) (Aw _))))))) (fun cl C s₀ H₀ ex=>(BY (Aa (pv 1) (Aa (pv 0) Ab)))) (DX rfl rfl rfl) (DY (n:="block") (by decide +kernel) rfl) (fun y h=>Co (by decide +kernel) h)) (Ac (AG (B6 (Cd (pv 2) (fun _=>rfl))) (Ae (Ch T.JZ hr.hd rfl (Aa AY Ab))) AI) (Ac (Cm (Bm (Xf rfl hr.units) (by rfl) T.n_min PyProof.Rows.boot_min (Aa (pv 2) Ab)) (Dr rfl (AF (Ay (i:=3) OK.nd rfl (Or.inl rfl)) (AF (Ay (i:=4) OK.nd rfl (Or.inl rfl)) BU)))) (Ae (Au (BY (Aa (pv 4) (Aa (pv 3) Ab)))))))),?_⟩;obtain⟨p,us,ps,b,rfl,hp,pa,hz,hq⟩:=h;have hul:=pa.1;walk_at "go";refine⟨p,rfl,⟨_,SqL.of hp⟩,Cv (K:=K) (a:=p) (xs:=us) (LfW H ps b) (fun D hD=>⟨Same.new hD,hD,upd_same,AZ.nil,Nat.le_refl _⟩) (fun D i ys H2 _ h=>SqL.of (h.1 p _ hp)) ?_ ?_⟩
 . rintro D i y ys H2 hD hi ⟨s2,_,hD2,ta,hyl⟩ τ hτ;have hil:i<us.length:=(List.getElem?_eq_some_iff.mp hi).1;have hip:i<ps.length:=by omega
   obtain⟨t,et,hT⟩:=pa.2 i ps[i] (by simp [hip]);have ey:y = .ref t:=Option.some.inj (hi.symm.trans et);subst ey;have hT2:=s2 t _ hT;have ef:=jQ (b:=b) hip;generalize ps[i]=z at hT2 ef
   match τ,hτ with
   | [τ0,τ1,τ2],_ =>
     walk_at "go";refine⟨⟨[_,_,_],rfl,rfl⟩,?_⟩;walk_at "go";refine B9 (fun hv=>?_) (fun hv=>?_)
     . walk_at "go";rw[if_neg (by rw[hv];simp),List.append_nil] at ef;exact A2 hil ⟨s2,hD,hD2,by rw[ef];exact ta,by omega⟩
     . walk_at "go";refine AK (fun hc=>?_) (fun hc=>?_)
       . walk_at "go";intro t2 ht2;rw[if_pos (by rw[hv,decide_eq_true (show b<=z.l by omega)];rfl)] at ef;refine⟨look_put ht2 hD2,small4000 (by omega),A2 hil ⟨(s2.put (s2.free ht2)).put hD,hD,upd_same,?_,by rw[List.length_append,List.length_singleton];omega⟩⟩;rw[ef,List.map_append];exact ta.push hD2 ht2
       . walk_at "go";rw[if_neg (by rw[decide_eq_false (show ¬b<=z.l by omega)];simp),List.append_nil] at ef;exact A2 hil ⟨s2,hD,hD2,by rw[ef];exact ta,by omega⟩
 . rintro D ys H2 hD ⟨s2,_,hD2,ta,hyl⟩;rw[List.take_of_length_le (by omega)] at ta;rcases hq with ⟨hno,qe⟩ | ⟨z,hb,q⟩
   . have e0:fitL b ps=[]:=by
       cases e:fitL b ps with
       | nil=>rfl
       | cons x r =>
         obtain⟨z,h1,h2,h3,_⟩:=Ro (ps:=ps) (b:=b) (k:=0) (by rw[e];simp);have:=hno z h1 h2;omega
     rw[e0] at ta;have hys:ys=[]:=List.length_eq_zero_iff.mp ta.1;subst hys;walk_at "go";refine iteT ?_;walk_at "go";exact qe H2 s2
   . obtain⟨f1,f2⟩:=jS hb;have hyl2:=ta.1;rw[List.length_map] at hyl2;cases ys with
     | nil=>rw[List.length_nil] at hyl2;omega
     | cons y0 yr =>
       walk_at "go";refine iteF ?_;walk_at "go";refine⟨D,y0::yr,fitL b ps,rfl,hD2,ta,f1,fun t' et ht'=>?_⟩;rw[f2] at ht';have ht3:H2 t'=some (.tup [.int z.l,.int z.a]):=ht';clear ht';walk_at "go";intro w hw;walk_at "go";exact q w _ (s2.put (s2.free hw)) upd_same
/-! a block is cut down -/
def YJ (K:PySem.W.Frag):Sp:=fun vs H Q _=>∃(a:Addr) (cs:List Int) (b:Int) (B M:Nat) (ds rs:List Pc),vs=[.ref a,.int b,.int (2^M),.int (2^B)]/\SqL K H a (cs.map V.int)/\cs.length<=1200/\B<=M/\0<=b/\B1 ds b/\DV rs (b+2^M)/\b+2^M<=cs.length/\Ao cs (ds++rs) /\
 ∀(p:Addr) (cs':List Int) (H':Hp),H p=none->Same H H'->H' p=some (.lst (cs'.map V.int))->cs'.length=cs.length->Ao cs' (ds++(hcP b B M++rs))->Q (.ref p) H'
def CdW (a:Addr)(b:Int)(B M:Nat)(ds rs:List Pc)(n:Nat)(H:Hp)(k:Nat)(σ:L2.St)(H':Hp):Prop :=
 ∃(r:Addr) (cs':List Int),B+k<=M/\σ=[some (.ref a),some (.int b),some (.int (2^(B+k))),some (.int (2^B)),some (.ref r)]/\Same H H'/\H r=none/\H' r=some (.lst (cs'.map V.int))/\cs'.length=n/\Ao cs' (ds++(spl b (B+k) (M-(B+k))++rs))
include T As in
theorem Kx (S:Src K mg "cut_down" OL):Defx P w K mg base "cut_down" 3 ["cells","at","long","block"] (YJ K):=by
 refine S.okx OM GI (fun vs H Q E h=>by revert h;walk_at "len") (fun f cdv A outer s H vs Q E hr h=>?_);refine⟨_,PSs.nox (Ac (At (i:=4) OM.nd rfl (Or.inl rfl) (CC CD (by rfl) T.n_list PyProof.Rows.boot_list (Aa (pv 0) Ab))) (Ac (Jc PassesOwn.never (AB D8 (pv 2) (pv 3) (Aw _)) (Ac (At (i:=2) OM.nd rfl (Or.inl rfl) (Am Nq (pv 2) Ad)) (Ae (At (i:=4) OM.nd rfl (Or.inl rfl) (Ar As hr (by rfl) (Aa (pv 4) (Aa (Am AN (pv 1) (pv 2)) (Aa (pv 2) (Aa Bt Ab))))))))) (Ae (Au (Ar As hr (by rfl) (Aa (pv 4) (Aa (pv 1) (Aa (pv 3) (Aa Bt Ab))))))))),?_⟩;obtain⟨a,cs,b,B,M,ds,rs,rfl,hS,hz,hBM,h0,hd,hr,hl,mk0,q⟩:=h;walk_at "go";intro r hr0;walk_at "go";refine⟨CdW a b B M ds rs cs.length H,⟨M-B,r,cs,by omega,(by rw[show B+(M-B)=M by omega];rfl),Same.new hr0,hr0,upd_same,rfl,by rw[show B+(M-B)=M by omega,Nat.sub_self];exact mk0⟩,?_⟩;rintro k σ H' ⟨r,cs',hk,rfl,s1,nr,hr',hl',mk⟩;have pB:=pw1 B;walk_at "go";refine AK (fun hlt=>?_) (fun hlt=>?_)
 . refine⟨fun σ' H''=>∃k',k'<k/\CdW a b B M ds rs cs.length H k' σ' H'',fun σ' H'' hw=>hw,?_⟩;obtain⟨k1,rfl⟩:∃k1,k=k1+1:=⟨k-1,by
     cases k with
     | zero=>rw[Nat.add_zero] at hlt;omega
     | succ k=>rfl⟩
   have p2:=pw2 (B+k1);have p1:=pw1 (B+k1);have e1:(2:Int)^(B+(k1+1))/2=2^(B+k1):=by rw[show B+(k1+1)=B+k1+1 by omega,p2];omega
   obtain⟨g1,mk3⟩:=dY (L:=B+k1) (e:=M-(B+(k1+1))) h0 hd (by rw[show B+k1+1+(M-(B+(k1+1)))=M by omega];exact hr) (by rw[show B+k1+1+(M-(B+(k1+1)))=M by omega];omega) mk;walk_at "go";rw[e1];generalize hg:(2:Int)^(B+k1)=L at p1 g1;walk_at "go";refine⟨r,cs',b+L,L,false,rfl,SqL.of hr',by omega,by omega,p1,g1,fun p H2 np s2 hp=>?_⟩;walk_at "go";subst hg;refine⟨k1,by omega,p,_,by omega,rfl,s1.trans s2,s1.free np,hp,by rw[Cf];exact hl',?_⟩;rw[show M-(B+k1)=M-(B+(k1+1))+1 by omega];exact mk3
 . have e0:k=0:=by
     cases k with
     | zero=>rfl
     | succ k =>
       have:=FC (show B+1<=B+(k+1) by omega);have:=pw2 B;omega
   subst e0;obtain⟨g1,mk3⟩:=dZ (B:=B) (e:=M-B) h0 hd (by rw[show B+(M-B)=M by omega];exact hr) (by rw[show B+(M-B)=M by omega];omega) mk;walk_at "go";refine⟨r,cs',b,2^B,true,rfl,SqL.of hr',by omega,h0,pB,g1,fun p H2 np s2 hp=>?_⟩;walk_at "go";exact q p _ H2 (s1.free np) (s1.trans s2) hp (by rw[Cf];exact hl') mk3
def Ix (C:W7->Addr)(CN:Addr)(i:W7):Sp:=fun vs H Q E=>∃(x dx a:Addr) (q:St7) (cs:List Int) (c:Int),vs=[.ref x,.int c,.int 1]/\i=q.let3/\KS C x dx a q cs H/\(1<=c/\c<=6)/\(∀H',Same H H'->E (.ref CN) none H') /\
 (∀(p:Int) (q':St7) (a':Addr) (cs':List Int) (H':Hp),Asked q p q'->H a'=none->Az x H H'->cs'.length=cs.length->KS C x dx a' q' cs' H'->Q (.int p) H')
theorem Rp {c:Int}(h:c<=6):c+2<2^220:=by
 have:(8:Int)<2^220:=by decide
 omega
variable (BX:Defx P w K mg base "check_plain_ask" 2 ["count","bound"] (Yz Cr Y2))
variable (CQ:Defx P w K mg base "block_for" 1 ["need"] (YH))
variable (AR:Bk P w K mg base (cF Ah Ai Af Aj Y6 Y4 Ak) "pieces" 5 ["self"] [] (YD (cF Ah Ai Af Aj Y6 Y4 Ak)))
variable (CT:Defx P w K mg base "least_free" 1 ["pieces","block"] (YI Bo))
variable (AD:Bk P w K mg base (cF Ah Ai Af Aj Y6 Y4 Ak) "cells" 1 ["self"] [] (YE (cF Ah Ai Af Aj Y6 Y4 Ak)))
variable (CU:Defx P w K mg base "cut_down" 3 ["cells","at","long","block"] (YJ K))
variable (D_lay:Bk P w K mg base (cF Ah Ai Af Aj Y6 Y4 Ak) "lay" 7 ["self","cells"] [] (YC K (cF Ah Ai Af Aj Y6 Y4 Ak)))
include T BX CQ AR CT AD CU D_lay in
theorem Ky {f₀ T₀:Addr}{fd₀:FuncData}{tk₀:Tok}{tc₀:Value}{td₀:Option Addr}{tn₀:Nat}{ts₀:Array (Option Value)}(F:FunD K "ask" "Halves.ask" En (.ref T₀) f₀ fd₀)(LT:K.lookup T₀=some ⟨tc₀,td₀,.seq [.int 1 tk₀].toArray tn₀,ts₀⟩)(M:Meth K Y6 "ask" f₀):MethD P w K mg base Y6 "ask" 8 ["self","count","bound"] [.int 1] (Ix (cF Ah Ai Af Aj Y6 Y4 Ak) Bo W7.half):=by
 refine MethD.made (fd:=fd₀) ?_ M (F.bindsA LT (Hg T₀ _)) (F.bindsD LT (iL T₀ _)) (.cons ⟨tk₀,rfl⟩ .nil) T.J0;refine Jp F Pf (fun vs H Q E h=>by revert h;walk_at "len") (fun cdv A outer s H vs Q E hr h=>?_);refine⟨_,(Ac (Bl (BC BX hr (by rfl) (Aa (pv 1) (Aa (pv 2) Ab)))) (Ac (At (i:=3) Pf.nd rfl (Or.inl rfl) (Ar CQ hr (by rfl) (Aa (Am AN (pv 1) (D5 (v:=.int 2) (by rfl) T.FF ⟨_,rfl⟩)) Ab))) (Ac (Cm (BC CT hr (by rfl) (Aa (DH AR B0 hr (pv 0)) (Aa (pv 3) Ab))) (Dr rfl (AF (Ay (i:=4) Pf.nd rfl (Or.inl rfl)) (AF (Ay (i:=5) Pf.nd rfl (Or.inl rfl)) BU)))) (Ac (Bl (Do D_lay B8 hr (pv 0) (Aa (Ar CU hr (by rfl) (Aa (DH AD B0 hr (pv 0)) (Aa (pv 4) (Aa (pv 5) (Aa (pv 3) Ab))))) Ab))) (Ae (Au (Am AN (pv 4) Ad))))))),?_⟩;obtain⟨x,dx,a,q3,cs,c,rfl,hi,S,hc6,qE,qQ⟩:=h;have o3:ok3 q3.let3:=by rw[<-hi];exact trivial
 have hc2:c+2<2^220/\(1:Int)=1:=⟨Rp hc6.2,rfl⟩
 have qa:c<1\/(1:Int)<1->∀H',Same H H'->E (.ref Cr) none H':=fun h=>absurd h (by omega);have qb:1<=c->(1:Int)<=1->(1:Int)≠1->∀H',Same H H'->E (.ref Y2) none H':=fun _ _ h=>absurd rfl h;have hq:1<=c->(1:Int)=1->((No7 c q3/\∀H',Same H H'->E (.ref Bo) none H')\/∃p q',Ask7 c q3 p q'/\∀(a':Addr) (cs':List Int) (H':Hp),H a'=none->Az x H H'->cs'.length=cs.length->KS (cF Ah Ai Af Aj Y6 Y4 Ak) x dx a' q' cs' H'->Q (.int p) H'):=fun c1 _ =>
   (Q0 S.ok o3 c1).imp (fun hn=>⟨hn,qE⟩) fun ⟨p,q',hA⟩=>⟨p,q',hA,fun a' cs' H'=>qQ p q' a' cs' H' (hA.asked S.ok o3 c1)⟩
 cases q3 with
 | shel _ _=>cases hi
 | row _ _=>cases hi
 | st i0 _ _ _ =>
   have hi0:W7.half=i0:=hi;subst hi0;exact(show False from S.ok.1).elim
 | half N ps =>
 have hx:H x=some (.ins ((cF Ah Ai Af Aj Y6 Y4 Ak) W7.half) dx (fsF W7.half a (2^N))):=S.hx;have ha:=S.ha;have hl:(cs.length:Int)=2^N:=S.hl;obtain⟨hN,hc,al⟩:=id S.ok;have mk:Ao cs ps:=S.mm;have cl:=T.J0;have na:=T.Rj;have hz:=S.hz;have hple:0+(ps.length:Int)<=cs.length:=S.ch.le;walk_at "go";refine⟨c,1,rfl,fun h=>qa h H (Same.refl _),fun h1 h2 h3=>qb h1 h2 h3 H (Same.refl _),fun hc1 hb1=>?_⟩;obtain⟨B,hB⟩:=XN c hc1;have B2:=hB.two' (by omega);walk_at "go";refine⟨c+2,B,rfl,by omega,hc2.1,hB,?_⟩;walk_at "go";refine⟨2^N,x,dx,a,cs,ps,rfl,⟨hx,ha,hz,by rw[hl];exact hc,mk⟩,fun lp us H1 nlp s1 hlp pa=>?_⟩;walk_at "go";refine⟨lp,us,ps,2^B,rfl,hlp,pa,by omega,?_⟩;rcases hq hc1 hb1 with ⟨g,qe⟩ | ⟨p0,q0,G0,q⟩
 . exact .inl ⟨g B hB,fun H2 s2=>qe H2 (s1.trans s2)⟩
 cases G0 with
 | half hB' G =>
 rename_i B' M ds rs b;have eB:=hB.uniq hB';subst eB;refine .inr ⟨_,G.2,fun u H2 s2 hu=>?_⟩;obtain⟨hBM,hMN,b0,c1,c3,c4,al4,_⟩:=G.lie B2 hc al;have hu:H2 u=some (.tup [.int b,.int (2^M)]):=hu;have s12:=s1.trans s2;have hx2:=s12 x _ hx;have ha2:=s12 a _ ha;have l3:=c3.le;walk_at "go";refine⟨2^N,x,dx,a,cs,rfl,hx2,ha2,fun p H3 np s3 hp=>?_⟩;walk_at "go";refine⟨p,cs,b,B,M,ds,rs,rfl,SqL.of hp,by omega,hBM,b0,c1.endBy (Int.le_refl 0),c3.fromOn,by omega,mk.sub (fun y hy=>?_),fun p2 cs' H4 np2 s4 hp2 hl' mk'=>?_⟩
 . rw[G.1];rcases List.mem_append.mp hy with g | g
   . exact List.mem_append_left _ g
   . exact List.mem_append_right _ (List.mem_cons_of_mem _ g)
 have s34:=s3.trans s4;have hw':=BB (by rw[hl',hl];exact c4) mk';walk_at "go";refine⟨2^N,x,p2,dx,a,cs,cs',_,rfl,s34 x _ hx2,s34 a _ ha2,hl',SqL.of hp2,by omega,by rw[hl',hl];exact c4,hw',fun a' H5 na5 k5 hx5 ha5=>?_⟩;walk_at "go";have s14:=s12.trans s34;exact q a' cs' H5 (s14.free na5) ((Az.of s14).trans k5) hl' ⟨hx5,ha5,by rw[hl'];exact hl,by omega,⟨hN,c4,al4⟩,mk'⟩
/-! shelves -/
def rep1 (s:Int)(m:Nat):List Int:=(List.replicate m (BG s)).flatten
theorem Rq {s:Int}(h:1<=s):Ao (BG s) [⟨0,s,false⟩]:=by
 unfold BG;exact Ao.lay (ds:=[]) (rs:=[]) (by omega) h (by rw[List.length_replicate];omega) (fun p hp=>by cases hp) (fun p hp=>by cases hp) (Ao.nil _)
theorem PD {s:Int}(h:1<=s)(m:Nat):((rep1 s m).length:Int)=s*(m:Int):=(NO h (Ew (by omega)) (Rq h) m).2
theorem jT {s:Int}(h:1<=s)(m:Nat):AO (rep1 s m) 0=(Dv s 0 m,none):=by
 obtain⟨h1,h2⟩:=NO h (Ew (by omega)) (Rq h) m;have c:=NM h m 0;rw[show s*((0:Nat):Int)=0 by simp,Nat.zero_add] at c;exact BB (by unfold rep1;rw[h2];exact c) h1
theorem YK (one:List Int):∀m:Nat,(List.replicate m (one.map V.int)).flatten=((List.replicate m one).flatten).map V.int
 | 0=>rfl
 | m+1=>by rw[List.replicate_succ,List.flatten_cons,YK one m,List.replicate_succ,List.flatten_cons,List.map_append]
def YL (C:Addr):Sp:=fun vs H Q E=>∃(z s:Int),vs=[.int z,.int s]/\z<=4000/\s<=4000/\((z<1\/s<1\/(1<=s/\z%s≠0))->E (.ref C) none H) /\
 (∀m:Nat,1<=s->1<=m->z=s*(m:Int)->∀(p:Addr) (H':Hp),H p=none->Same H H'->H' p=some (.lst ((rep1 s m).map V.int))->Q (.ref p) H')
include T AC in
theorem Kz (S:Src K mg "all_whole" ON):Defx P w K mg base "all_whole" 3 ["size","shelf"] (YL A0):=by
 refine S.okx GJ GK (fun vs H Q E h=>by revert h;walk_at "len") (fun f cdv A outer s H vs Q E hr h=>?_);refine⟨_,(Ac (AG (PW.pt (Cc (AB Dm (pv 0) Ad (Aw _)) (Cc (AB Dm (pv 1) Ad (Aw _)) (Cz (AB D7 (Am Bh (pv 0) (pv 1)) Ad (Aw _)))))) (Ae (Ch T.Pt hr.hd rfl (Aa AY Ab))) AI) (Ae (Au (Am WB (BC AC hr (by rfl) (Aa (pv 1) Ab)) (Am Nq (pv 0) (pv 1)))))),?_⟩;obtain⟨z,s,rfl,hz,hs,qe,q⟩:=h;walk_at "go";refine AK (fun h1=>?_) (fun h1=>?_)
 . walk_at "go";exact qe (.inl h1)
 . walk_at "go";refine AK (fun h2=>?_) (fun h2=>?_)
   . walk_at "go";exact qe (.inr (.inl h2))
   . walk_at "go";refine AK (fun h3=>?_) (fun h3=>?_)
     . walk_at "go";obtain⟨m,em⟩:∃m:Nat,z=s*(m:Int):=⟨(z/s).toNat,by
         have h4:=Int.mul_ediv_add_emod z s;have h5:0<=z/s:=Int.ediv_nonneg (by omega) (by omega);rw[Int.toNat_of_nonneg h5];omega⟩
       have m1:1<=m:=by
         cases m with
         | zero=>simp at em;omega
         | succ m=>omega
       have ed:z/s=(m:Int):=by rw[em];exact Int.mul_ediv_cancel_left _ (by omega)
       refine⟨s,rfl,hs,fun z=>absurd z (by omega),fun _ p1 H1 np s1 hp=>?_⟩;walk_at "go";rw[ed];have hf:=Ew (n:=s) (by omega);have hm4:(m:Int)<=4000:=by
         have h6:=Int.mul_le_mul_of_nonneg_right (show (1:Int)<=s by omega) (show (0:Int)<=(m:Int) by omega);omega
       have hsz:(BG s).length*m<=4000:=by
         have e2:(((BG s).length*m:Nat):Int)=z:=by rw[Int.natCast_mul,hf,em]
         omega
       refine⟨p1,(m:Int),_,rfl,rfl,hp,by omega,by omega,(by show ((BG s).map V.int).length*(m:Int).toNat<=sizeLine;rw[List.length_map,Int.toNat_natCast];exact Nat.le_of_lt (small4000 hsz)),fun p2 np2=>?_⟩;rw[Int.toNat_natCast,YK];walk_at "go";exact q m (by omega) m1 em p2 _ (s1.free np2) (s1.put (s1.free np2)) upd_same
     . walk_at "go";exact qe (.inr (.inr ⟨by omega,h3⟩))
def YM:Sp:=fun vs H Q _=>∃(a s:Int),vs=[.int a,.int s]/\1<=s/\Q (.int (a-a%s)) H
include T in
theorem KA (S:Src K mg "begin_of" OO) :Defx P w K mg base "begin_of" 1 ["at","shelf"] (YM):=by
 refine S.okx GL gZ (fun vs H Q E h=>by revert h;walk_at "len") (fun f cdv A outer s H vs Q E hr h=>?_);refine⟨_,PSs.nox (Ae (Au (Am A9 (pv 0) (Am Bh (pv 0) (pv 1))))),?_⟩;obtain⟨a,s,rfl,hs,q⟩:=h;walk_at "go";exact q
theorem turns {A s k:Int}(h1:1<=k)(h2:k<=s):(Builtin.Range.rangeSize A (A+s) k).toNat=(s/k).toNat+(if k*((s/k).toNat:Int)=s then 0 else 1):=by
 have h3:=Int.mul_ediv_add_emod s k;have h4:=Int.emod_nonneg s (show k≠0 by omega);have h5:=Int.emod_lt_of_pos s (show 0<k by omega);have h6:1<=s/k:=(Int.le_ediv_iff_mul_le (by omega)).mpr (by omega);have e:((s/k).toNat:Int)=s/k:=Int.toNat_of_nonneg (by omega);rw[e];unfold Builtin.Range.rangeSize;rw[if_pos (by omega),if_pos (by omega),show A+s-A-1=s-1 by omega]
 split
 . rename_i h;have:(s-1)/k=s/k-1:=by
     have:s-1=(k-1)+k*(s/k-1):=by rw[Int.mul_sub];omega
     rw[this,Int.add_mul_ediv_left _ _ (by omega),Int.ediv_eq_zero_of_lt (by omega) (by omega)];omega
   rw[this];omega
 . rename_i h;have:(s-1)/k=s/k:=by
     have:s-1=(s%k-1)+k*(s/k):=by omega
     rw[this,Int.add_mul_ediv_left _ _ (by omega),Int.ediv_eq_zero_of_lt (by omega) (by omega)];omega
   rw[this];omega
theorem Rr {s:Int}(h:1<=s):∀(m j:Nat),alP s (s*(j:Int)) (List.replicate m ⟨0,[]⟩)=Dv s j m
 | 0,j=>rfl
 | m+1,j=>by
   rw[Xj,List.replicate_succ]
   show shP s (s*(j:Int)) ⟨0,[]⟩++alP s (s*(j:Int)+s) (List.replicate m ⟨0,[]⟩)=_
   rw[Jy h,<-Cw,Rr h m (j+1)]
   rfl
theorem Iy {s:Int}{fs:List Sf}{cs:List Int}(hs:1<=s)(w:∀f∈fs,SfW s f)(hl:(cs.length:Int)=s*(fs.length:Int)):Ag 0 (alP s 0 fs) cs.length:=by
 have:=Ed hs fs 0 w;rw[Int.zero_add,<-hl] at this;exact this
def FtW (H1:Hp)(ps:List Pc)(k:Int)(D:Addr)(i:Nat)(ys:List V)(H2:Hp):Prop:=Same H1 H2/\H2 D=some (.lst ys)/\H1 D=none/\ys=(fitF (ps.take i) k).map V.int/\ys.length<=i
def YN (K:PySem.W.Frag):Sp:=fun vs H Q _=>∃(c:Addr) (cs:List Int) (ps:List Pc) (k:Int),vs=[.ref c,.int k]/\SqL K H c (cs.map V.int)/\cs.length<=4000/\AO cs 0=(ps,none)/\ps.length<=4000 /\
 ∀(p:Addr) (H':Hp),H p=none->Same H H'->H' p=some (.lst ((fitF ps k).map V.int))->Q (.ref p) H'
include T Ap in
theorem KB (S:Src K mg "whole_ones" OP):Defx P w K mg base "whole_ones" 5 ["cells","shelf"] (YN K):=by
 refine S.okx GM GN (fun vs H Q E h=>by revert h;walk_at "len") (fun f cdv A outer s H vs Q E hr h=>?_);refine⟨_,PSs.nox (Ae (Au (DW ["at","long","live"] ["shelf"] [1] rfl (BV (Ar Ap hr (by rfl) (Aa (pv 0) Ab))) (fun cl C s₀ H₀ ex=>(DF (K:=K) (n:=3) rfl rfl (AF (Ay (i:=0) (show ((["at","long","live"]:List Str)++(["shelf"]:List Str)).Nodup by decide +kernel) rfl (Or.inl rfl)) (AF (Ay (i:=1) (show ((["at","long","live"]:List Str)++(["shelf"]:List Str)).Nodup by decide +kernel) rfl (Or.inl rfl)) (AF (Ay (i:=2) (show ((["at","long","live"]:List Str)++(["shelf"]:List Str)).Nodup by decide +kernel) rfl (Or.inl rfl)) BU))))) (fun cl C s₀ H₀ ex=>(DU (PW.pt (DA (B6 (Jt (K:=K) rfl (pv 2) (fun _=>rfl))) (DR (AB BA (pv 1) (pv 3) (Aw _))))))) (fun cl C s₀ H₀ ex=>(pv 0)) (DX rfl rfl rfl) (DY (n:="shelf") (by decide +kernel) rfl) (fun y h=>Co (by decide +kernel) h)))),?_⟩;obtain⟨c,cs,ps,k,rfl,hS,hz,hw,hpz,q⟩:=h;walk_at "go";refine⟨c,cs,rfl,hS,hz,(fun c hc=>by rw[hw] at hc;cases hc),fun _ lp us H1 nlp s1 hlp pa=>?_⟩;have pa:AA H1 us ps:=by rw[hw] at pa;exact pa
 have hul:=pa.1;walk_at "go";refine⟨lp,rfl,⟨_,SqL.of hlp⟩,Cv (K:=K) (a:=lp) (xs:=us) (FtW H1 ps k) (fun D hD=>⟨Same.new hD,upd_same,hD,rfl,Nat.le_refl _⟩) (fun D i ys H2 _ h=>SqL.of (h.1 lp _ hlp)) ?_ ?_⟩
 . rintro D i y ys H2 hD hi ⟨s2,hD2,_,ey,hyl⟩ τ hτ;have hil:i<us.length:=(List.getElem?_eq_some_iff.mp hi).1;have hip:i<ps.length:=by omega
   obtain⟨t,et,hT⟩:=pa.2 i ps[i] (by simp [hip]);have ey2:y = .ref t:=Option.some.inj (hi.symm.trans et);subst ey2;have hT2:=s2 t _ hT;have ef:=Xy (k:=k) hip;generalize ps[i]=z at hT2 ef
   match τ,hτ with
   | [τ0,τ1,τ2],_ =>
     walk_at "go";refine⟨⟨[_,_,_],rfl,rfl⟩,?_⟩;walk_at "go";refine B9 (fun hv=>?_) (fun hv=>?_)
     . walk_at "go";rw[hv] at ef;refine A2 hil ⟨s2,hD2,hD,?_,by omega⟩;rw[ey,ef];simp
     . walk_at "go";rw[hv] at ef;refine AK (fun hl=>?_) (fun hl=>?_)
       . walk_at "go";rw[if_pos (by simp [hl])] at ef;refine⟨hD2,small4000 (by omega),A2 hil ⟨s2.put hD,upd_same,hD,?_,by rw[List.length_append,List.length_singleton];omega⟩⟩;rw[ey,ef,List.map_append];rfl
       . walk_at "go";rw[if_neg (by simp [hl])] at ef;exact A2 hil ⟨s2,hD2,hD,by rw[ey,ef,List.append_nil],by omega⟩
 . rintro D ys H2 hD ⟨s2,hD2,_,ey,hyl⟩;rw[List.take_of_length_le (by omega)] at ey;walk_at "go";exact q D H2 (s1.free hD) (s1.trans s2) (by rw[hD2,ey])
def SlW (H1:Hp)(cs:List Int)(xs:List Int)(k s:Int)(D:Addr)(i:Nat)(ys:List V)(H2:Hp):Prop:=Same H1 H2/\H2 D=some (.lst ys)/\H1 D=none/\ys=((xs.take i).filter fun a=>decide (cs.getD (a-a%s).toNat 0/2=k)).map V.int/\ys.length<=i
def YO (K:PySem.W.Frag):Sp:=fun vs H Q _=>∃(c:Addr) (cs:List Int) (ps:List Pc) (s k:Int),vs=[.ref c,.int s,.int k]/\SqL K H c (cs.map V.int)/\cs.length<=4000/\AO cs 0=(ps,none)/\ps.length<=4000/\Ag 0 ps cs.length/\1<=s /\
 ∀(p:Addr) (H':Hp),H p=none->Same H H'->H' p=some (.lst ((Cp cs ps k s).map V.int))->Q (.ref p) H'
variable (A4:Defx P w K mg base "begin_of" 1 ["at","shelf"] (YM))
include T Av Ap A4 in
theorem KC (S:Src K mg "free_slots" OQ):Defx P w K mg base "free_slots" 5 ["cells","shelf","size"] (YO K):=by
 refine S.okx Yd GO (fun vs H Q E h=>by revert h;walk_at "len") (fun f cdv A outer s H vs Q E hr h=>?_);refine⟨_,PSs.nox (Ac (Ib (i:=3) ["at","long","live"] ["size"] [2] Yd.nd rfl (Or.inl rfl) rfl (BV (Ar Ap hr (by rfl) (Aa (pv 0) Ab))) (fun cl C s₀ H₀ ex=>(DF (K:=K) (n:=3) rfl rfl (AF (Ay (i:=0) (show ((["at","long","live"]:List Str)++(["size"]:List Str)).Nodup by decide +kernel) rfl (Or.inl rfl)) (AF (Ay (i:=1) (show ((["at","long","live"]:List Str)++(["size"]:List Str)).Nodup by decide +kernel) rfl (Or.inl rfl)) (AF (Ay (i:=2) (show ((["at","long","live"]:List Str)++(["size"]:List Str)).Nodup by decide +kernel) rfl (Or.inl rfl)) BU))))) (fun cl C s₀ H₀ ex=>(DU (PW.pt (DA (B6 (Jt (K:=K) rfl (pv 2) (fun _=>rfl))) (DR (AB BA (pv 1) (pv 3) (Aw _))))))) (fun cl C s₀ H₀ ex=>(pv 0)) (DX rfl rfl rfl) (DY (n:="size") (by decide +kernel) rfl) (fun y h=>Co (by decide +kernel) h)) (Ae (Au (DW ["at"] ["size","cells","shelf"] [2,0,1] rfl (BV (pv 3)) (fun cl C s₀ H₀ ex=>(Ay (i:=0) (show ((["at"]:List Str)++(["size","cells","shelf"]:List Str)).Nodup by decide +kernel) rfl (Or.inl rfl))) (fun cl C s₀ H₀ ex=>(DU (AB BA (Ar Av hr (by rfl) (Aa (Ax (Ic (K:=K) rfl) (pv 2) (Ar A4 hr (by rfl) (Aa (pv 0) (Aa (pv 3) Ab))) (fun _ _=>rfl)) Ab)) (pv 1) (Aw _)))) (fun cl C s₀ H₀ ex=>(pv 0)) (cY rfl rfl rfl rfl rfl rfl rfl rfl rfl) (cZ (n:="size") (m:="cells") (o:="shelf") (by decide +kernel) rfl rfl rfl) (fun y h=>Co (by decide +kernel) h))))),?_⟩;obtain⟨c,cs,ps,s,k,rfl,hS,hz,hw,hpz,hc,hs,q⟩:=h;walk_at "go";refine⟨c,cs,rfl,hS,hz,(fun c hc=>by rw[hw] at hc;cases hc),fun _ lp us H1 nlp s1 hlp pa=>?_⟩;have pa:AA H1 us ps:=by rw[hw] at pa;exact pa
 have hul:=pa.1;walk_at "go";refine⟨lp,rfl,⟨_,SqL.of hlp⟩,Cv (K:=K) (a:=lp) (xs:=us) (FtW H1 ps k) (fun D hD=>⟨Same.new hD,upd_same,hD,rfl,Nat.le_refl _⟩) (fun D i ys H2 _ h=>SqL.of (h.1 lp _ hlp)) ?_ ?_⟩
 . rintro D i y ys H2 hD hi ⟨s2,hD2,_,ey,hyl⟩ τ hτ;have hil:i<us.length:=(List.getElem?_eq_some_iff.mp hi).1;have hip:i<ps.length:=by omega
   obtain⟨t,et,hT⟩:=pa.2 i ps[i] (by simp [hip]);have ey2:y = .ref t:=Option.some.inj (hi.symm.trans et);subst ey2;have hT2:=s2 t _ hT;have ef:=Xy (k:=k) hip;generalize ps[i]=z at hT2 ef
   match τ,hτ with
   | [τ0,τ1,τ2],_ =>
     walk_at "go";refine⟨⟨[_,_,_],rfl,rfl⟩,?_⟩;walk_at "go";refine B9 (fun hv=>?_) (fun hv=>?_)
     . walk_at "go";rw[hv] at ef;refine A2 hil ⟨s2,hD2,hD,?_,by omega⟩;rw[ey,ef];simp
     . walk_at "go";rw[hv] at ef;refine AK (fun hl=>?_) (fun hl=>?_)
       . walk_at "go";rw[if_pos (by simp [hl])] at ef;refine⟨hD2,small4000 (by omega),A2 hil ⟨s2.put hD,upd_same,hD,?_,by rw[List.length_append,List.length_singleton];omega⟩⟩;rw[ey,ef,List.map_append];rfl
       . walk_at "go";rw[if_neg (by simp [hl])] at ef;exact A2 hil ⟨s2,hD2,hD,by rw[ey,ef,List.append_nil],by omega⟩
 . rintro D ys H2 hD ⟨s2,hD2,_,ey,hyl⟩;rw[List.take_of_length_le (by omega)] at ey;subst ey;rw[List.length_map] at hyl;have hS2:=(s1.trans s2).seq hS;have hfi:∀a∈fitF ps k,0<=a/\a<cs.length:=fun a h=>eU hc h;have hsl:Cp cs ps k s=(fitF ps k).filter fun a=>decide (cs.getD (a-a%s).toNat 0/2=k):=rfl;generalize fitF ps k=xs at hD2 hyl hfi hsl;walk_at "go";refine⟨D,rfl,⟨_,SqL.of hD2⟩,Cv (K:=K) (a:=D) (xs:=xs.map V.int) (SlW H2 cs xs k s) (fun D' hD'=>⟨Same.new hD',upd_same,hD',rfl,Nat.le_refl _⟩) (fun D' i ys H3 _ h=>SqL.of (h.1 D _ hD2)) ?_ ?_⟩
   . rintro D' i y ys H3 hD' hi ⟨s3,hD3,_,ey,hyl2⟩ τ hτ;obtain⟨a,ea,rfl⟩:∃a,xs[i]?=some a/\y = .int a:=by
       rw[List.getElem?_map] at hi;obtain⟨a,h1,h2⟩:=Option.map_eq_some_iff.mp hi;exact⟨a,h1,h2.symm⟩
     have hil:i<xs.length:=(List.getElem?_eq_some_iff.mp ea).1;have hil2:i<(xs.map V.int).length:=by rw[List.length_map];exact hil
     obtain⟨a0,a1⟩:=hfi a (List.mem_of_getElem? ea);obtain⟨b0,b1⟩:=eV a0 hs;have hS3:=s3.seq hS2;have et:xs.take (i+1)=xs.take i++[a]:=by rw[List.take_add_one,ea];rfl
     match τ,hτ with
     | [τ0],_ =>
       walk_at "go";refine⟨⟨[_],rfl,rfl⟩,?_⟩;walk_at "go";refine⟨a,s,rfl,hs,?_⟩;walk_at "go";refine AK (fun hl=>?_) (fun hl=>?_)
       . walk_at "go";refine⟨hD3,small4000 (by omega),A2 hil2 ⟨s3.put hD',upd_same,hD',?_,by rw[List.length_append,List.length_singleton];omega⟩⟩;rw[et,List.filter_append,List.map_append,ey,show ([a].filter fun a=>decide (cs.getD (a-a%s).toNat 0/2=k))=[a] by rw[List.filter_cons,if_pos (decide_eq_true hl)];rfl];rfl
       . walk_at "go";refine A2 hil2 ⟨s3,hD3,hD',?_,by omega⟩;rw[et,List.filter_append,List.map_append,ey,show ([a].filter fun a=>decide (cs.getD (a-a%s).toNat 0/2=k))=[] by rw[List.filter_cons,if_neg (fun z=>hl (of_decide_eq_true z))];rfl];simp
   . rintro D' ys H3 hD' ⟨s3,hD3,_,ey,hyl2⟩;rw[List.length_map,List.take_of_length_le (Nat.le_refl _),<-hsl] at ey;walk_at "go";exact q D' H3 ((s1.trans s2).free hD') ((s1.trans s2).trans s3) (by rw[hD3,ey])
def YQ (K:PySem.W.Frag):Sp:=fun vs H Q _=>∃(c:Addr) (cs:List Int) (A s k:Int) (ds rs:List Pc),vs=[.ref c,.int A,.int s,.int k]/\SqL K H c (cs.map V.int)/\cs.length<=1200/\0<=A/\A+s<=cs.length/\1<=k/\k<=s/\B1 ds A/\DV rs (A+s)/\Ao cs (ds++rs) /\
 ∀(p:Addr) (cs':List Int) (H':Hp),H p=none->Same H H'->H' p=some (.lst (cs'.map V.int))->cs'.length=cs.length->Ao cs' (ds++(shP s A ⟨k,List.replicate (s/k).toNat false⟩++rs))->Q (.ref p) H'
def CfW (c:Addr)(A s k:Int)(ds rs:List Pc)(n:Nat)(H:Hp)(i:Nat)(σ:L2.St)(H':Hp):Prop :=
 ∃(r:Addr) (cs':List Int) (x6:Option V),σ=[some (.ref c),some (.int A),some (.int s),some (.int k),some (.ref r),some (.int (A+s)),x6]/\Same H H'/\H r=none/\H' r=some (.lst (cs'.map V.int))/\cs'.length=n/\Ao cs' (ds++ctP A (A+s) k i++rs)
include T As in
theorem KD (S:Src K mg "cut_for" OR):Defx P w K mg base "cut_for" 3 ["cells","begin","shelf","size"] (YQ K):=by
 refine S.okx JK GP (fun vs H Q E h=>by revert h;walk_at "len") (fun f cdv A outer s H vs Q E hr h=>?_);refine⟨_,PSs.nox (Ac (At (i:=4) JK.nd rfl (Or.inl rfl) (CC CD (by rfl) T.n_list PyProof.Rows.boot_list (Aa (pv 0) Ab))) (Ac (At (i:=5) JK.nd rfl (Or.inl rfl) (Am AN (pv 1) (pv 2))) (Ac (DS PassesOwn.never rfl (dD (by rfl) T.n_range (Aa (pv 1) (Aa (pv 5) (Aa (pv 3) Ab)))) (Ay (i:=6) JK.nd rfl (Or.inl rfl)) (Ae (At (i:=4) JK.nd rfl (Or.inl rfl) (Ar As hr (by rfl) (Aa (pv 4) (Aa (pv 6) (Aa (Bm (Wj rfl) (by rfl) T.n_min PyProof.Rows.boot_min (Aa (pv 3) (Aa (Am A9 (pv 5) (pv 6)) Ab))) (Aa Bt Ab)))))))) (Ae (Au (pv 4)))))),?_⟩;obtain⟨c,cs,A,s,k,ds,rs,rfl,hS,hz,h0,hl,h1,h2,hd,hr,mk,q⟩:=h;obtain⟨d1,d2,d3⟩:=QU h1 h2;have ht:=turns (A:=A) h1 h2;walk_at "go";intro r nr;walk_at "go";refine r_iR3 ?_;walk_at "go";refine⟨A,A+s,k,rfl,⟨by omega,by omega,by omega,by omega,by omega,by omega⟩,?_⟩;rw[ht];refine dF (CfW c A s k ds rs cs.length H) ⟨r,cs,none,rfl,Same.new nr,nr,upd_same,rfl,by show Ao cs (ds++[]++rs);rw[List.append_nil];exact mk⟩ ?_ ?_
 . rintro i σ H2 hi ⟨r2,cs2,x6,rfl,s2,nr2,hr2,hl2,mk2⟩;have hlt:∀j:Nat,j<i+1->A+k*(j:Int)<A+s:=fun j hj=>by
     by_cases e:k*((s/k).toNat:Int)=s
     . rw[if_pos e] at hi;have:=Int.mul_le_mul_of_nonneg_left (show ((j:Int)+1)<=((s/k).toNat:Int) by omega) (show 0<=k by omega);rw[Int.mul_add,Int.mul_one] at this;omega
     . rw[if_neg e] at hi;have:=Int.mul_le_mul_of_nonneg_left (show (j:Int)<=((s/k).toNat:Int) by omega) (show 0<=k by omega);omega
   obtain⟨l0,l1,l2,mk3⟩:=eP h0 h1 hd hr (by omega) hlt mk2;have ei:A+(i:Int)*k=A+k*(i:Int):=by rw[Int.mul_comm]
   rw[ei];have el:(if A+s-(A+k*(i:Int))<k then A+s-(A+k*(i:Int)) else k)=min k (A+s-(A+k*(i:Int))):=by omega
   walk_at "go";rw[el];generalize min k (A+s-(A+k*(i:Int)))=l at l1 l2 mk3 ⊢;generalize A+k*(i:Int)=b at l0 l2 mk3 ⊢;walk_at "go";refine⟨r2,cs2,b,l,false,rfl,SqL.of hr2,by omega,l0,l1,by omega,fun p H3 np s3 hp=>?_⟩;walk_at "go";exact⟨p,_,_,rfl,s2.trans s3,s2.free np,hp,by rw[Cf];exact hl2,mk3⟩
 . rintro σ H2 ⟨r2,cs2,x6,rfl,s2,nr2,hr2,hl2,mk2⟩;walk_at "go";refine q r2 cs2 H2 nr2 s2 hr2 hl2 ?_;rw[eO (q:=(s/k).toNat) h1 d1 d2 rfl,List.append_assoc] at mk2;exact mk2
def YR (K:PySem.W.Frag)(CN:Addr):Sp:=fun vs H Q E=>∃(c:Addr) (cs:List Int) (s k:Int) (fs:List Sf),vs=[.ref c,.int s,.int k]/\SqL K H c (cs.map V.int)/\cs.length<=1200/\(cs.length:Int)=s*(fs.length:Int)/\1<=s/\3<=k/\(∀f∈fs,SfOk s f)/\Ao cs (alP s 0 fs) /\
 ((NoGr s k fs/\∀(H':Hp),Same H H'->E (.ref CN) none H') \/
 (∃(j i:Nat) (b:List Bool) (fs1:List Sf),Gs s k fs j i b fs1/\∀(p:Addr) (cs':List Int) (H':Hp),Same H H'->SqL K H' p (cs'.map V.int)->cs'.length=cs.length->fs1.length=fs.length->Ao cs' (alP s 0 fs1)->Q (.ref p) H'))
variable (BM:Defx P w K mg base "free_slots" 5 ["cells","shelf","size"] (YO K))
variable (CV:Defx P w K mg base "whole_ones" 5 ["cells","shelf"] (YN K))
variable (CW:Defx P w K mg base "cut_for" 3 ["cells","begin","shelf","size"] (YQ K))
include T BM CV CW in
theorem KE (S:Src K mg "with_slot" OS):Defx P w K mg base "with_slot" 6 ["cells","shelf","size"] (YR K Bo):=by
 refine S.okx Ye GQ (fun vs H Q E h=>by revert h;walk_at "len") (fun f cdv A outer s H vs Q E hr h=>?_);refine⟨_,(Ac (AG (Cd (Ar BM hr (by rfl) (Aa (pv 0) (Aa (pv 1) (Aa (pv 2) Ab)))) (fun _=>rfl)) (Ae (Au (pv 0))) AI) (Ac (At (i:=3) Ye.nd rfl (Or.inl rfl) (Ar CV hr (by rfl) (Aa (pv 0) (Aa (pv 1) Ab)))) (Ac (AG (PW.pt (Cc (AB D8 (pv 2) (pv 1) (Aw _)) (Cz (B6 (Cd (pv 3) (fun _=>rfl)))))) (Ae (Ch T.JZ hr.hd rfl (Aa AY Ab))) AI) (Ae (Au (Ar CW hr (by rfl) (Aa (pv 0) (Aa (Ax AV (pv 3) Ad (fun _ _=>rfl)) (Aa (pv 1) (Aa (pv 2) Ab)))))))))),?_⟩;obtain⟨c,cs,s,k,fs,rfl,hS,hz,hl,hs,hk,ok,mk,hq⟩:=h;have W:∀f∈fs,SfW s f:=fun f hf=>(ok f hf).1;have ch:=Iy hs W hl;have hw:=BB ch mk;have hle:=ch.le;walk_at "go";refine⟨c,cs,_,s,k,rfl,hS,by omega,hw,by omega,ch,hs,fun p H1 np s1 hp=>?_⟩;have hS1:=s1.seq hS;have none1:(∀f∈fs,¬(f.n=k/\false∈f.b))->¬(k=s/\∃f∈fs,f.n=0)->Cp cs (alP s 0 fs) k s=[]:=fun g1 g2=>by
   have:=QR (cs:=cs) (fs:=fs) (j:=0) hs (show 1<=k by omega) W (by rw[show s*((0:Nat):Int)=0 by simp];exact mk) (fun f hf=>⟨g1 f hf,fun h=>g2 ⟨h.1,f,hf,h.2⟩⟩);rw[show s*((0:Nat):Int)=0 by simp] at this;exact this
 rcases hq with ⟨⟨g1,g2⟩,qe⟩ | ⟨j,i,b,fs1,G,q⟩
 . have esl:=none1 g1 (by
     rintro⟨e,f,hf,e0⟩;rcases g2 with g2 | g2
     . omega
     . exact g2 f hf e0)
   rw[esl,List.map_nil] at hp;walk_at "go";refine iteT ?_;walk_at "go";refine⟨c,cs,_,s,rfl,hS1,by omega,hw,by omega,fun p2 H2 np2 s2 hp2=>?_⟩;walk_at "go";refine AK (fun hlt=>?_) (fun hlt=>?_)
   . walk_at "go";exact qe H2 (s1.trans s2)
   . have ef:=QT (A:=0) hs ok (g2.resolve_left (by omega));rw[ef,List.map_nil] at hp2;walk_at "go";refine iteT ?_;walk_at "go";exact qe H2 (s1.trans s2)
 . obtain⟨c1,c2,c3,c4,c5⟩:=id G;rcases c5 with e | ⟨c6,ks,i0,eb,⟨f0,c8,c9⟩,c10,e⟩
   . obtain⟨ys,esl⟩:=G.slot (cs:=cs) hs hk ok (by rw[e];exact mk);rw[e] at esl;rw[esl,List.map_cons] at hp;walk_at "go";refine iteF ?_;walk_at "go";exact q c cs H1 s1 hS1 rfl (by rw[e]) (by rw[e];exact mk)
   . have ln:fs1.length=fs.length:=by rw[e];exact List.length_set
     by_cases hsk:k=s
     . have e1:(s/s).toNat=1:=by rw[Int.ediv_self (by omega)];rfl
       have ea:alP s 0 fs1=alP s 0 fs:=by
         obtain⟨ds,rs,e3,_,_⟩:=Ih hs W c8;have e4:=e3 f0;rw[Jx c8] at e4;rw[e,e3,e4,eb,hsk,e1];have hf0:f0=⟨0,[]⟩:=by
           rcases(ok f0 (List.mem_of_getElem? c8)).1 with ⟨z1,z2⟩ | ⟨z3,_⟩
           . obtain⟨n0,b0⟩:=f0;have z1:n0=0:=z1;have z2:b0=[]:=z2;rw[z1,z2]
           . omega
         rw[hf0,Jy hs];unfold shP fr;show ds++((⟨s*(j:Int),s,false⟩::slP s (s*(j:Int)+s) []++if s*(j:Int)+s*((1:Nat):Int)=s*(j:Int)+s then [] else [⟨s*(j:Int)+s*((1:Nat):Int),_,false⟩])++rs)=_;rw[if_pos (by simp)];rfl
       obtain⟨ys,esl⟩:=G.slot (cs:=cs) hs hk ok (by rw[ea];exact mk);rw[ea] at esl;rw[esl,List.map_cons] at hp;walk_at "go";refine iteF ?_;walk_at "go";exact q c cs H1 s1 hS1 rfl ln (by rw[ea];exact mk)
     . have esl:=none1 c6 (fun h=>hsk h.1);rw[esl,List.map_nil] at hp;walk_at "go";refine iteT ?_;walk_at "go";refine⟨c,cs,_,s,rfl,hS1,by omega,hw,by omega,fun p2 H2 np2 s2 hp2=>?_⟩;obtain⟨zs,ef⟩:=eZ hs ok c8 c9 c10;rw[ef,List.map_cons] at hp2;have hS2:=s2.seq hS1;walk_at "go";refine iteF ?_;walk_at "go";refine Dt (v:=V.int (s*(j:Int))) (SqL.of hp2) (show atI (V.int _::_) ((0:Nat):Int)=some (V.int _) from Ea rfl) ?_;walk_at "go";obtain⟨ds,rs,e3,k1,k2⟩:=Ih hs W c8;have l1:=k1.le;have l2:=k2.le;have mk2:=mk;rw[<-Jx c8,e3 f0] at mk2;refine⟨c,cs,s*(j:Int),s,k,ds,rs,rfl,hS2,hz,by omega,by omega,by omega,by omega,k1.endBy (Int.le_refl 0),k2.fromOn,mk2.sub (fun p hp=>?_),fun p3 cs' H3 np3 s3 hp3 hl3 mk3=>?_⟩
       . rcases List.mem_append.mp hp with g | g
         . exact List.mem_append_left _ g
         . exact List.mem_append_right _ (List.mem_append_right _ g)
       walk_at "go";exact q p3 cs' H3 ((s1.trans s2).trans s3) (SqL.of hp3) hl3 ln (by rw[e,e3,eb];exact mk3)
theorem Az.free {x a:Addr}{H H':Hp}(k:Az x H H')(hx:H' x≠none)(n:H' a=none):H a=none:=by
 cases e:H a with
 | none=>rfl
 | some o =>
   by_cases w:a=x
   . rw[w] at n;exact absurd n hx
   . rw[k a o w e] at n;cases n
theorem jU {s:Int}(h:1<=s)(m:Nat):Ag 0 (Dv s 0 m) (rep1 s m).length:=by
 have c:=NM h m 0;rw[show s*((0:Nat):Int)=0 by simp,Nat.zero_add] at c;rw[PD h m];exact c
def spMkS (C CN:Addr):Sp:=fun vs H Q E=>∃(x dx:Addr) (z s:Int),vs=[.ref x,.int z,.int s]/\H x=some (.ins C dx [])/\z<=1200/\s<=4000/\((z<1\/s<1\/(1<=s/\z%s≠0))->E (.ref CN) none H) /\
 (∀m:Nat,1<=s->1<=m->z=s*(m:Int)->∀(a:Addr) (H':Hp),H a=none->Az x H H'->H' x=some (.ins C dx [("room_cells",.ref a),("shelf",.int s)])->H' a=some (.lst ((rep1 s m).map V.int))->Q .non H')
theorem jV {s:Int}(h:1<=s)(m:Nat):((rep1 s m).length:Int)=s*((List.replicate m (⟨0,[]⟩:Sf)).length:Int)/\(∀f∈List.replicate m (⟨0,[]⟩:Sf),SfOk s f)/\Ao (rep1 s m) (alP s 0 (List.replicate m ⟨0,[]⟩)):=by
 refine⟨by rw[List.length_replicate];exact PD h m,fun f hf=>?_,?_⟩
 . rw[(List.mem_replicate.mp hf).2];exact⟨.inl ⟨rfl,rfl⟩,fun h0=>absurd rfl h0⟩
 . have:=Rr h m 0;rw[show s*((0:Nat):Int)=0 by simp] at this;rw[this];exact(NO h (Ew (by omega)) (Rq h) m).1
variable (CY:Defx P w K mg base "all_whole" 3 ["size","shelf"] (YL A0))
include T BL D_lay CY in
theorem jW {f₀:Addr}{fd₀:FuncData}(F:Fun K "__init__" "Shelves.__init__" Pa f₀ fd₀)(M:Mk K Y4 f₀):Makex P w K mg base "Shelves" Y4 8 ["self","size","shelf"] [] (spMkS Y4 A0):=by
 refine⟨⟨f₀,fd₀,[],Bb F Yf (fun vs H Q E h=>by revert h;walk_at "len") (fun cdv A outer s H vs Q E hr h=>?_),M,F.binds iJ,.nil⟩,T.iX⟩;refine⟨_,(Ac (At (i:=3) Yf.nd rfl (Or.inl rfl) (BC CY hr (by rfl) (Aa (pv 1) (Aa (pv 2) Ab)))) (Ac (Bl (Qg BL B0 hr (by rfl) (Aa (pv 0) (Aa (pv 1) Ab)))) (Ac (Cs (pv 0) (pv 2) rfl) (Ae (Bl (Do D_lay B8 hr (pv 0) (Aa (pv 3) Ab))))))),?_⟩;obtain⟨x,dx,z,s,rfl,hx,hz,hs4,qe,q⟩:=h;have cl:=T.Iw;have na:=T.Pz;have nb:=T.Rk;walk_at "go";refine⟨z,s,rfl,by omega,by omega,qe,fun m' h1 m1 ez p H1 np s1 hp=>?_⟩;have q:=q m' h1 m1 ez;have z1:s<=s*(m':Int):=by
   have:=Int.mul_le_mul_of_nonneg_left (show (1:Int)<=(m':Int) by omega) (show 0<=s by omega);omega
 rw[<-ez] at z1;have hx1:=s1 x _ hx;have hpx:p≠x:=fun w=>by rw[w,hx] at np;cases np
 walk_at "go";refine⟨W7.shel,x,dx,z,rfl,hx1,by omega,by omega,fun a H2 na2 k2 hx2 ha2=>?_⟩;have hx2:H2 x=some (.ins Y4 dx [("room_cells",.ref a)]):=hx2;have hp2:=k2 p _ hpx hp;have hax:a≠x:=fun w=>by rw[w,hx1] at na2;cases na2
 have e1:=PD h1 m';have hl1:(rep1 s m').length=(BG z).length:=by
   have e2:=Ew (n:=z) (by omega);omega
 walk_at "go";have hxF:upd H2 x (.ins Y4 dx (putF "shelf" (.int s) [("room_cells",.ref a)])) x=some (.ins ((cF Ah Ai Af Aj Y6 Y4 Ak) W7.shel) dx (fsF W7.shel a s)):=upd_same;refine⟨W7.shel,x,dx,_,rfl,hxF,rfl,?_⟩;walk_at "go";refine⟨s,x,p,dx,a,BG z,rep1 s m',_,rfl,hxF,look_ne hax ha2,hl1,SqL.of (look_ne hpx hp2),by omega,jU h1 m',jT h1 m',fun a' H4 na4 k4 hx4 ha4=>?_⟩;walk_at "go";exact q a' H4 (Az.free ((Az.of s1).trans k2).put (by rw[hxF];exact fun w=>nomatch w) na4) (((Az.of s1).trans k2).put.trans k4) hx4 ha4
variable (CZ:Defx P w K mg base "with_slot" 6 ["cells","shelf","size"] (YR K Bo))
include T As BX AD D_lay BM CZ in
theorem KF {f₀ T₀:Addr}{fd₀:FuncData}{tk₀:Tok}{tc₀:Value}{td₀:Option Addr}{tn₀:Nat}{ts₀:Array (Option Value)}(F:FunD K "ask" "Shelves.ask" Eo (.ref T₀) f₀ fd₀)(LT:K.lookup T₀=some ⟨tc₀,td₀,.seq [.int 1 tk₀].toArray tn₀,ts₀⟩)(M:Meth K Y4 "ask" f₀):MethD P w K mg base Y4 "ask" 8 ["self","count","bound"] [.int 1] (Ix (cF Ah Ai Af Aj Y6 Y4 Ak) Bo W7.shel):=by
 refine MethD.made (fd:=fd₀) ?_ M (F.bindsA LT (Hh T₀ _)) (F.bindsD LT (Hi T₀ _)) (.cons ⟨tk₀,rfl⟩ .nil) T.Iw;refine Jp F Pg (fun vs H Q E h=>by revert h;walk_at "len") (fun cdv A outer s H vs Q E hr h=>?_);refine⟨_,(Ac (Bl (BC BX hr (by rfl) (Aa (pv 1) (Aa (pv 2) Ab)))) (Ac (At (i:=3) Pg.nd rfl (Or.inl rfl) (Am AN (pv 1) (D5 (v:=.int 2) (by rfl) T.FF ⟨_,rfl⟩))) (Ac (At (i:=4) Pg.nd rfl (Or.inl rfl) (BC CZ hr (by rfl) (Aa (DH AD B0 hr (pv 0)) (Aa (Ce (pv 0) rfl) (Aa (pv 3) Ab))))) (Ac (At (i:=5) Pg.nd rfl (Or.inl rfl) (Ax AV (Ar BM hr (by rfl) (Aa (pv 4) (Aa (Ce (pv 0) rfl) (Aa (pv 3) Ab)))) Ad (fun _ _=>rfl))) (Ac (Bl (Do D_lay B8 hr (pv 0) (Aa (Ar As hr (by rfl) (Aa (pv 4) (Aa (pv 5) (Aa (pv 3) (Aa Bt Ab))))) Ab))) (Ae (Au (Am AN (pv 5) Ad)))))))),?_⟩;obtain⟨x,dx,a,q3,cs,c,rfl,hi,S,hc6,qE,qQ⟩:=h;have o3:ok3 q3.let3:=by rw[<-hi];exact trivial
 have hc2:c+2<2^220/\(1:Int)=1:=⟨Rp hc6.2,rfl⟩
 have qa:c<1\/(1:Int)<1->∀H',Same H H'->E (.ref Cr) none H':=fun h=>absurd h (by omega);have qb:1<=c->(1:Int)<=1->(1:Int)≠1->∀H',Same H H'->E (.ref Y2) none H':=fun _ _ h=>absurd rfl h;have hq:1<=c->(1:Int)=1->((No7 c q3/\∀H',Same H H'->E (.ref Bo) none H')\/∃p q',Ask7 c q3 p q'/\∀(a':Addr) (cs':List Int) (H':Hp),H a'=none->Az x H H'->cs'.length=cs.length->KS (cF Ah Ai Af Aj Y6 Y4 Ak) x dx a' q' cs' H'->Q (.int p) H'):=fun c1 _ =>
   (Q0 S.ok o3 c1).imp (fun hn=>⟨hn,qE⟩) fun ⟨p,q',hA⟩=>⟨p,q',hA,fun a' cs' H'=>qQ p q' a' cs' H' (hA.asked S.ok o3 c1)⟩
 cases q3 with
 | half _ _=>cases hi
 | row _ _=>cases hi
 | st i0 _ _ _ =>
   have hi0:W7.shel=i0:=hi;subst hi0;exact(show False from S.ok.1).elim
 | shel s fs =>
 have hx:H x=some (.ins ((cF Ah Ai Af Aj Y6 Y4 Ak) W7.shel) dx (fsF W7.shel a s)):=S.hx;have hx0:H x=some (.ins Y4 dx [("room_cells",.ref a),("shelf",.int s)]):=S.hx;have ha:=S.ha;have hl:(cs.length:Int)=s*(fs.length:Int):=S.hl;have hz:=S.hz;obtain⟨hs3,hf1,ok⟩:=id S.ok;have hs:1<=s:=by omega
 have mk:Ao cs (alP s 0 fs):=S.mm;have cl:=T.Iw;have na:=T.Pz;have nb:=T.Rk;walk_at "go";refine⟨c,1,rfl,fun h=>qa h H (Same.refl _),fun h1 h2 h3=>qb h1 h2 h3 H (Same.refl _),fun hc hb1=>?_⟩;walk_at "go";refine⟨s,x,dx,a,cs,rfl,hx,ha,fun p H1 np s1 hp=>?_⟩;have hx1:=s1 x _ hx;have hx01:=s1 x _ hx0;have ha1:=s1 a _ ha;walk_at "go";refine⟨p,cs,s,c+2,fs,rfl,SqL.of hp,hz,hl,hs,by omega,ok,mk,?_⟩;rcases hq hc hb1 with ⟨g,qe⟩ | ⟨p0,q0,G0,q⟩
 . exact .inl ⟨g,fun H2 s2=>qe H2 (s1.trans s2)⟩
 cases G0 with
 | shel G ln0 =>
 rename_i fs1 j i b;refine .inr ⟨j,i,b,fs1,G,fun p2 cs2 H2 s2 hp2 hl2 ln mk2=>?_⟩;have W1:=G.W (by omega) ok;have hl3:(cs2.length:Int)=s*(fs1.length:Int):=by rw[hl2,ln];exact hl
 have ch2:=Iy hs W1 hl3;have hw2:=BB ch2 mk2;have hle2:=ch2.le;have hx2:=s2 x _ hx1;have hx02:=s2 x _ hx01;have ha2:=s2 a _ ha1;obtain⟨ys,esl⟩:=G.slot hs (by omega) ok mk2;walk_at "go";refine⟨p2,cs2,_,s,c+2,rfl,hp2,by omega,hw2,by omega,ch2,hs,fun p3 H3 np3 s3 hp3=>?_⟩;rw[esl,List.map_cons] at hp3;have hp23:=s3.seq hp2;have hx3:=s3 x _ hx2;have ha3:=s3 a _ ha2;obtain⟨g0,_,g4,_,mk4⟩:=Xv (v:=true) hs W1 G.1 G.2.1 hl3 mk2;have ok4:=G.ok (by omega) ok;walk_at "go";refine Dt (SqL.of hp3) (show atI (V.int _::_) ((0:Nat):Int)=some (V.int _) from Ea rfl) ?_;generalize eat:s*(j:Int)+(c+2)*(i:Int)=at0 at g0 g4 mk4 q;walk_at "go";refine⟨p2,cs2,at0,c+2,true,rfl,hp23,by omega,g0,by omega,g4,fun p4 H4 np4 s4 hp4=>?_⟩;have hl4:(AM cs2 at0 (c+2) true).length=cs.length:=by rw[Cf];exact hl2
 have hl5:((AM cs2 at0 (c+2) true).length:Int)=s*((fs1.set j ⟨c+2,b.set i true⟩).length:Int):=by rw[Cf,List.length_set];exact hl3
 have hw4:=BB (Iy hs (fun f hf=>(ok4 f hf).1) hl5) mk4;walk_at "go";refine⟨s,x,p4,dx,a,cs,_,_,rfl,s4 x _ hx3,s4 a _ ha3,hl4,SqL.of hp4,by omega,Iy hs (fun f hf=>(ok4 f hf).1) hl5,hw4,fun a' H5 na5 k5 hx5 ha5=>?_⟩;walk_at "go";have s14:=((s1.trans s2).trans s3).trans s4;exact q a' _ H5 (s14.free na5) ((Az.of s14).trans k5) hl4 ⟨hx5,ha5,hl5,by omega,⟨hs3,by rw[List.length_set,ln];exact hf1,ok4⟩,mk4⟩
theorem jX (l:List Int):l=[]\/∃D y,l=D++[y]:=by
 rcases List.eq_nil_or_concat l with h | ⟨D,y,h⟩
 . exact .inl h
 . exact .inr ⟨D,y,by simpa using h⟩
variable (BN:Defx P w K mg base "cut_out" 7 ["cells","at","place","long"] (Yu K Y3 Bo))
include T BX AR AD D_lay BN in
theorem KG {f₀ T₀:Addr}{fd₀:FuncData}{tk₀:Tok}{tc₀:Value}{td₀:Option Addr}{tn₀:Nat}{ts₀:Array (Option Value)}(F:FunD K "ask" "Row.ask" Ep (.ref T₀) f₀ fd₀)(LT:K.lookup T₀=some ⟨tc₀,td₀,.seq [.int 1 tk₀].toArray tn₀,ts₀⟩)(M:Meth K Ak "ask" f₀):MethD P w K mg base Ak "ask" 8 ["self","count","bound"] [.int 1] (Ix (cF Ah Ai Af Aj Y6 Y4 Ak) Bo W7.row):=by
 refine MethD.made (fd:=fd₀) ?_ M (F.bindsA LT (Hj T₀ _)) (F.bindsD LT (Hk T₀ _)) (.cons ⟨tk₀,rfl⟩ .nil) T.cl_Row;refine Jp F Ph (fun vs H Q E h=>by revert h;walk_at "len") (fun cdv A outer s H vs Q E hr h=>?_);refine⟨_,(Ac (Bl (BC BX hr (by rfl) (Aa (pv 1) (Aa (pv 2) Ab)))) (Ac (Cm (Ax AV (DH AR B0 hr (pv 0)) (FZ F0 Ad) (fun _ _=>rfl)) (Dr rfl (AF (Ay (i:=3) Ph.nd rfl (Or.inl rfl)) (AF (Ay (i:=4) Ph.nd rfl (Or.inl rfl)) (AF (Ay (i:=5) Ph.nd rfl (Or.inl rfl)) BU))))) (Ac (AG (Cd (pv 5) (fun _=>rfl)) (Ae (Ch T.JZ hr.hd rfl (Aa AY Ab))) AI) (Ac (Bl (Do D_lay B8 hr (pv 0) (Aa (BC BN hr (by rfl) (Aa (DH AD B0 hr (pv 0)) (Aa (pv 3) (Aa (pv 3) (Aa (Am AN (pv 1) (D5 (v:=.int 2) (by rfl) T.FF ⟨_,rfl⟩)) Ab))))) Ab))) (Ae (Au (Am AN (pv 3) Ad))))))),?_⟩;obtain⟨x,dx,a,q3,cs,c,rfl,hi,S,hc6,qE,qQ⟩:=h;have o3:ok3 q3.let3:=by rw[<-hi];exact trivial
 have hc2:c+2<2^220/\(1:Int)=1:=⟨Rp hc6.2,rfl⟩
 have qa:c<1\/(1:Int)<1->∀H',Same H H'->E (.ref Cr) none H':=fun h=>absurd h (by omega);have qb:1<=c->(1:Int)<=1->(1:Int)≠1->∀H',Same H H'->E (.ref Y2) none H':=fun _ _ h=>absurd rfl h;have hq:1<=c->(1:Int)=1->((No7 c q3/\∀H',Same H H'->E (.ref Bo) none H')\/∃p q',Ask7 c q3 p q'/\∀(a':Addr) (cs':List Int) (H':Hp),H a'=none->Az x H H'->cs'.length=cs.length->KS (cF Ah Ai Af Aj Y6 Y4 Ak) x dx a' q' cs' H'->Q (.int p) H'):=fun c1 _ =>
   (Q0 S.ok o3 c1).imp (fun hn=>⟨hn,qE⟩) fun ⟨p,q',hA⟩=>⟨p,q',hA,fun a' cs' H'=>qQ p q' a' cs' H' (hA.asked S.ok o3 c1)⟩
 cases q3 with
 | half _ _=>cases hi
 | shel _ _=>cases hi
 | st i0 _ _ _ =>
   have hi0:W7.row=i0:=hi;subst hi0;exact(show False from S.ok.1).elim
 | row n ls =>
 have hl:(cs.length:Int)=n:=S.hl;subst hl;obtain⟨hn3,h3,hs⟩:=id S.ok;have cl:=T.cl_Row;have na:=T.Rl;have hx:H x=some (.ins ((cF Ah Ai Af Aj Y6 Y4 Ak) W7.row) dx (fsF W7.row a cs.length)):=S.hx;have ha:=S.ha;have hz:=S.hz;have hc:Ag 0 (rwP ls cs.length) cs.length:=S.ch;have mk:Ao cs (rwP ls cs.length):=S.mm;have h0:=fL h3;walk_at "go";refine⟨c,1,rfl,fun h=>qa h H (Same.refl _),fun h1 h2 h3=>qb h1 h2 h3 H (Same.refl _),fun h1 hb1=>?_⟩;have qe:(cs.length:Int)<sumI ls+(c+2)->∀H',Same H H'->E (.ref Bo) none H':=fun hlt=>by
   rcases hq h1 hb1 with ⟨_,qe⟩ | ⟨p0,q0,G0,_⟩
   . exact qe
   . cases G0 with
     | row g=>omega
 have q:sumI ls+(c+2)<=cs.length->∀(a':Addr) (cs':List Int) (H':Hp),H a'=none->Az x H H'->cs'.length=cs.length->KS (cF Ah Ai Af Aj Y6 Y4 Ak) x dx a' (.row cs.length (ls++[c+2])) cs' H'->Q (.int (sumI ls+1)) H':=fun hle=>by
   rcases hq h1 hb1 with ⟨g,_⟩ | ⟨p0,q0,G0,q⟩
   . have g:(cs.length:Int)<sumI ls+(c+2):=g;omega
   . cases G0 with
     | row g=>exact q
 walk_at "go";refine⟨_,x,dx,a,cs,_,rfl,S.bs,fun lp us H1 nlp s1 hlp pa=>?_⟩;have pa:AA H1 us (rwP ls cs.length):=pa;have hx1:=s1 x _ hx;have ha1:=s1 a _ ha;by_cases hf:sumI ls<cs.length
 . rw[N5 hf] at pa;obtain⟨ui,t,rfl,pi,hT⟩:=pa.unsnoc;have hT:H1 t=some (.tup [.int (sumI ls),.int (cs.length-sumI ls),.bl false]):=hT;walk_at "go";refine HY (SqL.of hlp) ?_;walk_at "go";refine⟨_,x,dx,a,cs,rfl,hx1,ha1,fun p H2 np s2 hp=>?_⟩;have hx2:=s2 x _ hx1;have ha2:=s2 a _ ha1;have s12:=s1.trans s2;have hfm:(⟨sumI ls,cs.length-sumI ls,false⟩:Pc)∈rwP ls cs.length:=by rw[N5 hf];simp
   walk_at "go";refine⟨p,cs,rwP ls cs.length,sumI ls,sumI ls,c+2,rfl,SqL.of hp,by omega,hc,mk,by omega,fun z hzm hk hv e1 e2 p2 H3 np2 s3 hp2=>?_,fun z hzm hk hv hno H3 s3=>?_,fun hno=>absurd rfl (hno _ hfm rfl)⟩
   . have ez:=Du hc hzm hfm hk;subst ez;have e2:sumI ls+(c+2)<=sumI ls+(cs.length-sumI ls):=e2;have hle:sumI ls+(c+2)<=cs.length:=by omega
     have hp2:H3 p2=some (.lst ((cutO cs (sumI ls) (cs.length-sumI ls) (sumI ls) (c+2)).map V.int)):=hp2;have s13:=s12.trans s3;have m2:=fK h3 rfl h0 (show 1<=c+2 by omega) hle mk;have g3:∀l∈ls++[c+2],3<=l:=fun l hl=>(List.mem_append.mp hl).elim (h3 l) fun hl=>by rw[List.mem_singleton.mp hl];omega
     have c2:=XL g3 (show sumI (ls++[c+2])<=cs.length by rw[QX];omega);have lc:=NH cs (sumI ls) (cs.length-sumI ls) (sumI ls) (c+2);have c2':Ag 0 (rwP (ls++[c+2]) cs.length) (cutO cs (sumI ls) (cs.length-sumI ls) (sumI ls) (c+2)).length:=by rw[lc];exact c2
     have out:True:=trivial;generalize cutO cs (sumI ls) (cs.length-sumI ls) (sumI ls) (c+2)=cs' at hp2 m2 lc c2';walk_at "go";refine⟨_,x,p2,dx,a,cs,cs',_,rfl,s3 x _ hx2,s3 a _ ha2,lc,SqL.of hp2,by omega,c2',BB c2' m2,fun a' H4 na4 k4 hx4 ha4=>?_⟩;walk_at "go";exact q hle a' cs' H4 (s13.free na4) ((Az.of s13).trans k4) lc ⟨hx4,ha4,by rw[lc];rfl,by omega,⟨hn3,g3,by rw[QX];omega⟩,m2⟩
   . have ez:=Du hc hzm hfm hk;subst ez;have hno:¬(sumI ls<=sumI ls/\sumI ls+(c+2)<=sumI ls+(cs.length-sumI ls)):=hno;exact qe (by omega) H3 (s12.trans s3)
 . have ef:sumI ls=cs.length:=by omega
   rw[fJ ef] at pa;rcases jX ls with e0 | ⟨D,l,e0⟩
   . rw[e0] at ef;have:(0:Int)=cs.length:=ef;omega
   . rw[e0,Ij] at pa;obtain⟨ui,t,rfl,pi,hT⟩:=pa.unsnoc;have hT:H1 t=some (.tup [.int (0+sumI D),.int l,.bl true]):=hT;walk_at "go";refine HY (SqL.of hlp) ?_;walk_at "go";exact qe (by omega) H1 s1
def D3 (L b:Int)(z:Pc):Option (List V):=if z.v=true then none else (fp z.a z.l L b).map fun p=>[V.int z.a,V.int p]
def Cy (ps:List Pc)(L b:Int):List (List V):=ps.filterMap (D3 L b)
theorem jY {ps:List Pc}{L b:Int}{i:Nat}{z:Pc}(h:ps[i]?=some z):Cy (ps.take (i+1)) L b=Cy (ps.take i) L b++(D3 L b z).toList:=by
 unfold Cy;rw[List.take_add_one,h,List.filterMap_append];cases e:D3 L b z <;> simp [e]
theorem KH (ps:List Pc)(L b:Int):(Cy ps L b).length<=ps.length:=List.length_filterMap_le _ _
def YS:Sp:=fun vs H Q _=>∃(t:Addr) (a n L b:Int) (v:Bool),vs=[.ref t,.int L,.int b]/\H t=some (.tup [.int a,.int n,.bl v])/\1<=b/\Q (optV (fp a n L b)) H
def YT (K:PySem.W.Frag):Sp:=fun vs H Q _=>∃(a:Addr) (cs:List Int) (ps:List Pc) (L b:Int),vs=[.ref a,.int L,.int b]/\SqL K H a (cs.map V.int)/\cs.length<=4000/\AO cs 0=(ps,none)/\1<=b /\
 ∀(p:Addr) (us:List V) (H':Hp),H p=none->Same H H'->H' p=some (.lst us)->AZ H' us (Cy ps L b)->Q (.ref p) H'
include T in
theorem KI (S:Src K mg "first_place" OU) :Defx P w K mg base "first_place" 1 ["piece","long","bound"] (YS):=by
 refine S.okx JL hI (fun vs H Q E h=>by revert h;walk_at "len") (fun f cdv A outer s H vs Q E hr h=>?_);refine⟨_,PSs.nox (Ac (Cm (pv 0) (Dr rfl (AF (Ay (i:=3) JL.nd rfl (Or.inl rfl)) (AF (Ay (i:=4) JL.nd rfl (Or.inl rfl)) (AF (Ay (i:=5) JL.nd rfl (Or.inl rfl)) BU))))) (Ac (At (i:=6) JL.nd rfl (Or.inl rfl) (Am AN (pv 3) (Am Bh (FZ F0 (Am AN (pv 3) Ad)) (pv 2)))) (Ac (AG (AB D8 (Am AN (pv 6) (pv 1)) (Am AN (pv 3) (pv 4)) (Aw _)) (Ae (Au B5)) AI) (Ae (Au (pv 6)))))),?_⟩;obtain⟨t,a,n,L,b,v,rfl,ht,hb,q⟩:=h;have e:a + -(a+1)%b=fpl a b:=by unfold fpl;rw[bZ hb]
 walk_at "go";rw[e];refine AK (fun hc=>?_) (fun hc=>?_)
 . walk_at "go";unfold fp at q;rw[if_neg (by omega)] at q;exact q
 . walk_at "go";unfold fp at q;rw[if_pos (by omega)] at q;exact q
def SpW (f0 f1 f2:Option V)(sp lp:Addr)(us:List V)(ps:List Pc)(L b:Int)(H:Hp)(i:Nat)(σ:L2.St)(H':Hp):Prop :=
 ∃(ws:List V) (x4 x5:Option V),σ=[f0,f1,f2,some (.ref sp),x4,x5]/\Same H H'/\H' lp=some (.lst us)/\AA H' us ps/\H' sp=some (.lst ws)/\AZ H' ws (Cy (ps.take i) L b)
variable (C8:Defx P w K mg base "first_place" 1 ["piece","long","bound"] (YS))
include T Ap C8 in
theorem KJ (S:Src K mg "spots_for" OV):Defx P w K mg base "spots_for" 5 ["cells","long","bound"] (YT K):=by
 refine S.okx OW GT (fun vs H Q E h=>by revert h;walk_at "len") (fun f cdv A outer s H vs Q E hr h=>?_);refine⟨_,PSs.nox (Ac (At (i:=3) OW.nd rfl (Or.inl rfl) (Dn Ab)) (Ac (DS PassesOwn.never rfl (BV (Ar Ap hr (by rfl) (Aa (pv 0) Ab))) (Ay (i:=4) OW.nd rfl (Or.inl rfl)) (Ac (At (i:=5) OW.nd rfl (Or.inl rfl) (Ar C8 hr (by rfl) (Aa (pv 4) (Aa (pv 1) (Aa (pv 2) Ab))))) (Ae (AG (PW.pt (DA (B6 (Cd (Ax Bn (pv 4) Ad (fun _ _=>rfl)) (fun _=>rfl))) (DR (AB HR (pv 5) B5 (Aw _))))) (Ae (Bl (F3 PySem.F.plainAttrs_list PySem.F.slot_list_append PySem.F.type_list_append F4 (pv 3) (Aa (BY (Aa (Ax Bn (pv 4) Ad (fun _ _=>rfl)) (Aa (pv 5) Ab))) Ab)))) AI)))) (Ae (Au (pv 3))))),?_⟩;obtain⟨a,cs,ps,L,b,rfl,hS,hz,hw,hb,q⟩:=h;walk_at "go";intro sp hsp;walk_at "go";refine⟨a,cs,rfl,(Same.new hsp).seq hS,hz,(fun c hc=>by rw[hw] at hc;cases hc),fun _ lp us H1 nlp s1 hlp pa=>?_⟩;have pa:AA H1 us ps:=by rw[hw] at pa;exact pa
 have hps:(ps.length:Int)<=cs.length:=by
   have:=WG cs cs.length 0 (by omega) (by omega);rw[hw] at this;exact this
 have hul:=pa.1;have hsp1:=s1 sp _ upd_same;have hne:lp≠sp:=fun z=>by rw[z,upd_same] at nlp;cases nlp
 have s01:Same H H1:=(Same.new hsp).trans s1;refine⟨lp,rfl,⟨_,SqL.of hlp⟩,FY (K:=K) (a:=lp) (xs:=us) (SpW (some (.ref a)) (some (.int L)) (some (.int b)) sp lp us ps L b H) ⟨[],none,none,rfl,s01,hlp,pa,hsp1,AZ.nil⟩ (fun i σ H2 _ ⟨_,_,_,_,_,h,_⟩=>SqL.of h) ?_ ?_⟩
 . rintro i y σ H2 hi ⟨ws,x4,x5,rfl,s2,hlp2,pa2,hsp2,ta⟩;have hil:i<us.length:=(List.getElem?_eq_some_iff.mp hi).1;have hip:i<ps.length:=by omega
   obtain⟨t,et,hT⟩:=pa2.2 i ps[i] (by simp [hip]);have ey:y = .ref t:=Option.some.inj (hi.symm.trans et);subst ey;have ht:=jY (L:=L) (b:=b) (show ps[i]?=some ps[i] by simp [hip]);have hwl:ws.length<=4000:=by
     have h1:=ta.1;have h2:=KH (ps.take i) L b;rw[List.length_take] at h2;omega
   generalize ps[i]=z at hT ht;walk_at "go";refine⟨t,z.a,z.l,L,b,z.v,rfl,hT,hb,?_⟩;cases ef:fp z.a z.l L b with
   | none =>
     walk_at "go";have e:D3 L b z=none:=by
       unfold D3
       split
       . rfl
       . rw[ef];rfl
     rw[e,Option.toList_none,List.append_nil] at ht;refine B9 (fun hv=>?_) (fun hv=>?_)
     . walk_at "go";exact⟨ws,_,_,rfl,s2,hlp2,pa2,hsp2,by rw[ht];exact ta⟩
     . walk_at "go";exact⟨ws,_,_,rfl,s2,hlp2,pa2,hsp2,by rw[ht];exact ta⟩
   | some p =>
     walk_at "go";refine B9 (fun hv=>?_) (fun hv=>?_)
     . walk_at "go";have e:D3 L b z=none:=by unfold D3;rw[if_pos hv]
       rw[e,Option.toList_none,List.append_nil] at ht;exact⟨ws,_,_,rfl,s2,hlp2,pa2,hsp2,by rw[ht];exact ta⟩
     . walk_at "go";intro t2 ht2;have hst:sp≠t2:=A8 hsp2 ht2;have hlt:lp≠t2:=A8 hlp2 ht2;walk_at "go";have e:D3 L b z=some [V.int z.a,V.int p]:=by unfold D3;rw[hv,if_neg Bool.false_ne_true,ef];rfl
       rw[e] at ht;exact⟨ws++[.ref t2],_,_,rfl,(s2.put (s2.free ht2)).put hsp,look_ne hne (look_ne hlt hlp2),(pa2.mono (Ct (.inl ht2))).mono (Ct (.inr ⟨ws,look_ne hst hsp2⟩)),upd_same,by rw[ht];exact ta.push hsp2 ht2⟩
 . rintro σ H2 ⟨ws,x4,x5,rfl,s2,hlp2,pa2,hsp2,ta⟩;walk_at "go";rw[List.take_of_length_le (by omega)] at ta;exact q sp ws H2 hsp s2 hsp2 ta
def YU:Sp:=fun vs H Q _=>∃(p:Addr) (us:List V) (xs:List (List Int)),vs=[.ref p]/\H p=some (.lst us)/\AZ H us (xs.map fun x=>x.map V.int)/\(∀x∈xs,x.length=3) /\
 (xs=[]->Q .non H)/\(0<xs.length->Q (.int ((xs.getD (A3 xs (xs.length-1)) []).getD 2 0)) H)
include T in
theorem KK (S:Src K mg "least_place" OX) :Defx P w K mg base "least_place" 1 ["ranked"] (YU):=by
 refine S.okx GU GW (fun vs H Q E h=>by revert h;walk_at "len") (fun f cdv A outer s H vs Q E hr h=>?_);refine⟨_,PSs.nox (Ac (AG (B6 (Cd (pv 0) (fun _=>rfl))) (Ae (Au B5)) AI) (Ae (Au (Ax Bn (Bm (Xf rfl hr.units) (by rfl) T.n_min PyProof.Rows.boot_min (Aa (pv 0) Ab)) Ad (fun _ _=>rfl))))),?_⟩;obtain⟨p,us,xs,rfl,hp,ta,h3,q0,q⟩:=h;have hl:=ta.1;rw[List.length_map] at hl;cases hx:us with
 | nil =>
   rw[hx] at hp hl;walk_at "go";refine iteT ?_;walk_at "go";exact q0 (List.length_eq_zero_iff.mp hl.symm)
 | cons u r =>
   have hpos:0<xs.length:=by rw[<-hl,hx,List.length_cons];omega
   have hm:A3 xs (xs.length-1)<xs.length:=by have:=DZ xs (xs.length-1);omega
   rw[hx] at hp ta;walk_at "go";refine iteF ?_;walk_at "go";refine⟨p,_,xs,rfl,hp,ta,hpos,fun t _ ht=>?_⟩;have q1:=q hpos;have hm3:(xs.getD (A3 xs (xs.length-1)) []).length=3:=by
     have:xs.getD (A3 xs (xs.length-1)) []=xs[A3 xs (xs.length-1)]:=by simp [hm]
     rw[this];exact h3 _ (List.getElem_mem hm)
   generalize xs.getD (A3 xs (xs.length-1)) []=m at ht q1 hm3
   match m,hm3 with
   | [m0,m1,m2],_ =>
     walk_at "go";exact q1
def BaW (H1:Hp)(ps:List Pc)(s:Int)(D:Addr)(i:Nat)(ys:List V)(H2:Hp):Prop:=Same H1 H2/\H2 D=some (.lst ys)/\ys=(((ps.take i).filter fun z=>decide (z.a<=s)).map fun z=>V.int z.a)
def YV (K:PySem.W.Frag):Sp:=fun vs H Q _=>∃(a:Addr) (cs:List Int) (ps:List Pc) (i:Nat) (z:Pc) (s:Int),vs=[.ref a,.int s]/\SqL K H a (cs.map V.int)/\cs.length<=4000/\Ag 0 ps cs.length/\Ao cs ps/\ps[i]?=some z/\z.a<=s/\s<z.a+z.l/\∀(H':Hp),Same H H'->Q (.int z.a) H'
theorem jZ {ps:List Pc}{n s:Int}{i:Nat}{z:Pc}(hc:Ag 0 ps n)(hi:ps[i]?=some z)(h1:z.a<=s)(h2:s<z.a+z.l):∃D,(ps.filter fun z=>decide (z.a<=s))=D++[z]:=by
 obtain⟨ds,rs,e1,e2,k1,k2⟩:=Cu hc hi;subst e1;refine⟨ds.filter fun z=>decide (z.a<=s),?_⟩;have e:(rs.filter fun z=>decide (z.a<=s))=[]:=List.filter_eq_nil_iff.mpr fun p hp=>by
   have:=k2.fromOn p hp;rw[decide_eq_false (by omega)];exact Bool.false_ne_true
 rw[List.filter_append,List.filter_cons,if_pos (decide_eq_true h1),e]
include T Ap in
theorem KL (S:Src K mg "begin_around" Ou):Defx P w K mg base "begin_around" 5 ["cells","cell"] (YV K):=by
 refine S.okx Yb Gu (fun vs H Q E h=>by revert h;walk_at "len") (fun f cdv A outer s H vs Q E hr h=>?_);refine⟨_,PSs.nox (Ac (Ib (i:=2) ["at","long","live"] ["cell"] [1] Yb.nd rfl (Or.inl rfl) rfl (BV (Ar Ap hr (by rfl) (Aa (pv 0) Ab))) (fun cl C s₀ H₀ ex=>(DF (K:=K) (n:=3) rfl rfl (AF (Ay (i:=0) (show ((["at","long","live"]:List Str)++(["cell"]:List Str)).Nodup by decide +kernel) rfl (Or.inl rfl)) (AF (Ay (i:=1) (show ((["at","long","live"]:List Str)++(["cell"]:List Str)).Nodup by decide +kernel) rfl (Or.inl rfl)) (AF (Ay (i:=2) (show ((["at","long","live"]:List Str)++(["cell"]:List Str)).Nodup by decide +kernel) rfl (Or.inl rfl)) BU))))) (fun cl C s₀ H₀ ex=>(DU (AB op_le (pv 0) (pv 3) (Aw _)))) (fun cl C s₀ H₀ ex=>(pv 0)) (DX rfl rfl rfl) (DY (n:="cell") (by decide +kernel) rfl) (fun y h=>Co (by decide +kernel) h)) (Ae (Au (Ax AV (pv 2) (FZ F0 Ad) (fun _ _=>rfl))))),?_⟩;obtain⟨a,cs,ps,i,z,s,rfl,hS,hz,hc,mk,hi,h1,h2,q⟩:=h;have hw:=BB hc mk;have hple:=hc.le;walk_at "go";refine⟨a,cs,rfl,hS,hz,(fun c hc=>by rw[hw] at hc;cases hc),fun _ lp us H1 nlp s1 hlp pa=>?_⟩;have pa:AA H1 us ps:=by rw[hw] at pa;exact pa
 have hul:=pa.1;walk_at "go";refine⟨lp,rfl,⟨_,SqL.of hlp⟩,Cv (K:=K) (a:=lp) (xs:=us) (fs:=[some (.int s)]) (BaW H1 ps s) (fun D hD=>⟨Same.new hD,upd_same,rfl⟩) (fun D i ys H2 _ h=>SqL.of (h.1 lp _ hlp)) ?_ ?_⟩
 . rintro D i y ys H2 hD hi ⟨s2,hD2,hy⟩ τ hτ;have hil:i<us.length:=(List.getElem?_eq_some_iff.mp hi).1;obtain⟨t,w,rfl,hw1,hT⟩:=Xm (pa.same s2) hi;have hfl:=take_succ_filter (fun p:Pc=>decide (p.a<=s)) ps i w hw1;have hyl:ys.length<=i:=by
     rw[hy,List.length_map];refine Nat.le_trans (List.length_filter_le _ _) ?_;rw[List.length_take];omega
   match τ,hτ with
   | [τ0,τ1,τ2],_ =>
     walk_at "go";refine⟨⟨[_,_,_],rfl,rfl⟩,?_⟩;walk_at "go";refine AK (fun hle=>?_) (fun hle=>?_)
     . rw[if_pos (decide_eq_true hle)] at hfl;walk_at "go";refine⟨hD2,small4000 (by omega),A2 hil ⟨s2.put hD,upd_same,?_⟩⟩;rw[hfl,List.map_append,<-hy];rfl
     . rw[if_neg (by rw[decide_eq_false hle];exact Bool.false_ne_true),List.append_nil] at hfl;exact A2 hil ⟨s2,hD2,by rw[hfl];exact hy⟩
 . rintro D ys H2 hD ⟨s2,hD2,hy⟩;rw[List.take_of_length_le (by omega)] at hy;obtain⟨D0,e0⟩:=jZ hc hi h1 h2;rw[e0,List.map_append] at hy;subst hy;walk_at "go";refine HY (SqL.of hD2) ?_;walk_at "go";exact q H2 (s1.trans s2)
theorem kA {X:Cx}{K:PySem.W.Frag}{e:Expr}{f:Str}{pos:Pos}{ta:TE}(hK:X.K=K)(he:PE X e ta)(hb:attributeBase e f X.env (eval e X.env)=eval e X.env):PE X (.Attribute e f pos) (tFld K ta f):=hK▸Ce he hb
theorem kB {X:Cx}{K:PySem.W.Frag}{T:String}{name:Str}{id:String}{r:V->List V->Hp->VK->Prop}{o:Expr}{to:TE}{apos cpos:Pos}(hK:X.K=K)(pa:PlainAttrs T)(slot:Slot T name id)(hty:typeOf (.builtin id)=pure (.type "method_descriptor"))(hm:MtR X id r)(ho:PE X o to)
   (hbase:attributeBase o name X.env (eval o X.env)=eval o X.env:=by rfl) (hline:(apos.endLine==cpos.line)=true:=by rfl):PE X (.Call (.Attribute o name apos) [] [] cpos) (tBM0 K T r to):=hK▸Wy pa slot hty hm ho hbase hline
def SpI (ps:List Pc)(L a p:Int):Prop:=∃z∈ps,z.v=false/\z.a=a/\z.a<=p/\p+L<=z.a+z.l
theorem PF {ps:List Pc}{L:Int}{q:List V}(h:q∈Cy ps L 1):∃a p,q=[.int a,.int p]/\SpI ps L a p:=by
 obtain⟨z,hz,e⟩:=List.mem_filterMap.mp h;unfold D3 at e
 split at e
 . cases e
 . rename_i hv;obtain⟨p,e1,rfl⟩:=Option.map_eq_some_iff.mp e;unfold fp at e1
   split at e1
   . rename_i hle;cases e1;exact⟨_,_,rfl,z,hz,by simpa using hv,rfl,fpl_ge (Int.le_refl _),hle⟩
   . cases e1
def ChW (H1:Hp)(ps:List Pc)(L:Int)(D:Addr)(i:Nat)(ys:List V)(H2:Hp):Prop:=Same H1 H2/\H2 D=some (.lst ys)/\∃xs:List (List Int),AZ H2 ys (xs.map fun x=>x.map V.int)/\xs.length=i/\∀x∈xs,∃k a p,x=[k,a,p]/\SpI ps L a p
theorem PJ {ps:List Pc}{L:Int}{xs:List (List Int)}(h:∀x∈xs,∃k a p,x=[k,a,p]/\SpI ps L a p)(hp:0<xs.length):∃a,SpI ps L a ((xs.getD (A3 xs (xs.length-1)) []).getD 2 0):=by
 have hm:=DZ xs (xs.length-1);have hl:A3 xs (xs.length-1)<xs.length:=by omega
 obtain⟨k,a,p,e,s⟩:=h _ (List.getElem_mem hl);rw[List.getD_eq_getElem?_getD (l:=xs),List.getElem?_eq_getElem hl];refine⟨a,?_⟩;show SpI ps L a ((xs[A3 xs (xs.length-1)]).getD 2 0);rw[e];exact s
def Iz (C:W7->Addr)(i:W7):Sp:=fun vs H Q _=>∃(r:Int) (x dx a:Addr) (cs:List Int) (ps:List Pc) (L:Int),vs=[.ref x,.int L,.int 1]/\H x=some (.ins (C i) dx (fsF i a r))/\H a=some (.lst (cs.map V.int))/\cs.length<=1200/\Ag 0 ps cs.length/\Ao cs ps /\
 (∀H',Same H H'->Q .non H')/\(∀b s:Int,SpI ps L b s->∀H',Same H H'->Q (.int s) H')
variable (AS:Defx P w K mg base "spots_for" 5 ["cells","long","bound"] (YT K))
variable (AT:Defx P w K mg base "least_place" 1 ["ranked"] (YU))
include T AS AT in
theorem KM {f₀:Addr}{fd₀:FuncData}(F:Fun K "chosen" "First.chosen" Pi f₀ fd₀)(M:Meth K Ah "chosen" f₀):Methx P w K mg base Ah "chosen" 6 ["self","long","bound"] [] (Iz (cF Ah Ai Af Aj Y6 Y4 Ak) W7.first):=by
 refine⟨⟨f₀,fd₀,[],Bb F Yg (fun vs H Q E h=>by revert h;walk_at "len") (fun cdv A outer s H vs Q E hr h=>?_),M,F.binds iM,.nil⟩,T.Pu⟩;refine⟨_,PSs.nox (Ac (At (i:=3) Yg.nd rfl (Or.inl rfl) (Ar AS hr (by rfl) (Aa (Ce (pv 0) rfl) (Aa (pv 1) (Aa (pv 2) Ab))))) (Ae (Au (Ar AT hr (by rfl) (Aa (QC ["at","place"] rfl (BV (pv 3)) (fun cl C s₀ H₀ ex=>(DF (K:=K) (n:=2) rfl rfl (AF (Ay (i:=0) (show ((["at","place"]:List Str)++([]:List Str)).Nodup by decide +kernel) rfl (Or.inl rfl)) (AF (Ay (i:=1) (show ((["at","place"]:List Str)++([]:List Str)).Nodup by decide +kernel) rfl (Or.inl rfl)) BU)))) (fun cl C s₀ H₀ ex=>Fz) (fun cl C s₀ H₀ ex=>(BY (Aa Ad (Aa (pv 0) (Aa (pv 1) Ab))))) ) Ab))))),?_⟩;obtain⟨r,x,dx,a,cs,ps,L,rfl,hx,ha,hz,hc,mk,qn,qs⟩:=h;have hx:H x=some (.ins Ah dx [("room_cells",.ref a)]):=hx;have cl:=T.Pu;have na:=T.Rg;walk_at "go";refine⟨a,cs,ps,L,1,rfl,SqL.of ha,by omega,BB hc mk,Int.le_refl _,fun sp us H1 nsp s1 hsp tsp=>?_⟩;have hs0:∀q∈Cy ps L 1,∃a p,q=[.int a,.int p]/\SpI ps L a p:=fun q hq=>PF hq;have hsl:=KH ps L 1;have hple:=hc.le;generalize Cy ps L 1=ql at tsp hs0 hsl;have htl:=tsp.1;have ha1:=s1 a _ ha;have hx1:=s1 x _ hx;walk_at "go";refine⟨sp,rfl,⟨_,SqL.of hsp⟩,Cv (K:=K) (a:=sp) (xs:=us) (fs:=[]) (ChW H1 ps L) (fun D hD=>⟨Same.new hD,upd_same,[],AZ.nil,rfl,(fun x hx=>by cases hx)⟩) (fun D i ys H2 _ h=>SqL.of (h.1 sp _ hsp)) ?_ ?_⟩
 . rintro D i y ys H2 hD hi ⟨s2,hD2,xs,ta,xl,x0⟩ τ hτ;have hil:i<us.length:=(List.getElem?_eq_some_iff.mp hi).1;have hiq:i<ql.length:=by omega
   obtain⟨t,et,hT⟩:=tsp.2 i ql[i] (by simp [hiq]);obtain⟨b,pp,eq0,hsp2⟩:=hs0 _ (List.getElem_mem hiq);rw[eq0] at hT;have ey:y = .ref t:=Option.some.inj (hi.symm.trans et);subst ey;have hT2:=s2 t _ hT;have ha2:=s2 a _ ha1;have hx2:=s2 x _ hx1;have hyl:=ta.1;rw[List.length_map] at hyl;obtain⟨z,hzm,hzv,rfl,_,_⟩:=id hsp2;obtain⟨z0,z1,_,z4⟩:=hc.mem z hzm
   match τ,hτ with
   | [τ0,τ1],_ =>
     walk_at "go";refine⟨⟨[_,_],rfl,rfl⟩,?_⟩;walk_at "go";intro t2 ht2;exact⟨look_put ht2 hD2,small4000 (by omega),A2 hil ⟨(s2.put (s2.free ht2)).put hD,upd_same,xs++[[_,z.a,pp]],by rw[List.map_append];exact ta.push hD2 ht2,by rw[List.length_append,xl];rfl,fun x hx=>(List.mem_append.mp hx).elim (x0 x) fun w=>⟨_,z.a,pp,List.mem_singleton.mp w,hsp2⟩⟩⟩
 . rintro D ys H2 hD ⟨s2,hD2,xs,ta,xl,x0⟩;have s12:=s1.trans s2;walk_at "go";refine⟨D,ys,xs,rfl,hD2,ta,(fun x hx=>by obtain⟨k,b,p,e,_⟩:=x0 x hx;rw[e];rfl),fun z=>?_,fun hp=>?_⟩
   . walk_at "go";exact qn H2 s12
   . obtain⟨b,hb⟩:=PJ x0 hp;walk_at "go";exact qs b _ hb H2 s12
include T Av AS AT in
theorem KN {f₀:Addr}{fd₀:FuncData}(F:Fun K "chosen" "Best.chosen" Pj f₀ fd₀)(M:Meth K Ai "chosen" f₀):Methx P w K mg base Ai "chosen" 6 ["self","long","bound"] [] (Iz (cF Ah Ai Af Aj Y6 Y4 Ak) W7.best):=by
 refine⟨⟨f₀,fd₀,[],Bb F Q9 (fun vs H Q E h=>by revert h;walk_at "len") (fun cdv A outer s H vs Q E hr h=>?_),M,F.binds Hl,.nil⟩,T.Pw⟩;refine⟨_,PSs.nox (Ac (At (i:=3) Q9.nd rfl (Or.inr rfl) (Ce (pv 0) rfl)) (Ac (At (i:=4) Q9.nd rfl (Or.inl rfl) (Ar AS hr (by rfl) (Aa (pv 3) (Aa (pv 1) (Aa (pv 2) Ab))))) (Ae (Au (Ar AT hr (by rfl) (Aa (DW ["at","place"] ["cells"] [3] rfl (BV (pv 4)) (fun cl C s₀ H₀ ex=>(DF (K:=K) (n:=2) rfl rfl (AF (Ay (i:=0) (show ((["at","place"]:List Str)++(["cells"]:List Str)).Nodup by decide +kernel) rfl (Or.inl rfl)) (AF (Ay (i:=1) (show ((["at","place"]:List Str)++(["cells"]:List Str)).Nodup by decide +kernel) rfl (Or.inl rfl)) BU)))) (fun cl C s₀ H₀ ex=>Fz) (fun cl C s₀ H₀ ex=>(BY (Aa (Ar Av hr (by rfl) (Aa (Ax (Ic (K:=K) rfl) (pv 2) (pv 0) (fun _ _=>rfl)) Ab)) (Aa (pv 0) (Aa (pv 1) Ab))))) (DX rfl rfl rfl) (DY (n:="cells") (by decide +kernel) rfl) (fun y h=>Co (by decide +kernel) h)) Ab)))))),?_⟩;obtain⟨r,x,dx,a,cs,ps,L,rfl,hx,ha,hz,hc,mk,qn,qs⟩:=h;have hx:H x=some (.ins Ai dx [("room_cells",.ref a)]):=hx;have cl:=T.Pw;have na:=T.Rh;walk_at "go";refine⟨a,cs,ps,L,1,rfl,SqL.of ha,by omega,BB hc mk,Int.le_refl _,fun sp us H1 nsp s1 hsp tsp=>?_⟩;have hs0:∀q∈Cy ps L 1,∃a p,q=[.int a,.int p]/\SpI ps L a p:=fun q hq=>PF hq;have hsl:=KH ps L 1;have hple:=hc.le;generalize Cy ps L 1=ql at tsp hs0 hsl;have htl:=tsp.1;have ha1:=s1 a _ ha;have hx1:=s1 x _ hx;walk_at "go";refine⟨sp,rfl,⟨_,SqL.of hsp⟩,Cv (K:=K) (a:=sp) (xs:=us) (fs:=[some (.ref a)]) (ChW H1 ps L) (fun D hD=>⟨Same.new hD,upd_same,[],AZ.nil,rfl,(fun x hx=>by cases hx)⟩) (fun D i ys H2 _ h=>SqL.of (h.1 sp _ hsp)) ?_ ?_⟩
 . rintro D i y ys H2 hD hi ⟨s2,hD2,xs,ta,xl,x0⟩ τ hτ;have hil:i<us.length:=(List.getElem?_eq_some_iff.mp hi).1;have hiq:i<ql.length:=by omega
   obtain⟨t,et,hT⟩:=tsp.2 i ql[i] (by simp [hiq]);obtain⟨b,pp,eq0,hsp2⟩:=hs0 _ (List.getElem_mem hiq);rw[eq0] at hT;have ey:y = .ref t:=Option.some.inj (hi.symm.trans et);subst ey;have hT2:=s2 t _ hT;have ha2:=s2 a _ ha1;have hx2:=s2 x _ hx1;have hyl:=ta.1;rw[List.length_map] at hyl;obtain⟨z,hzm,hzv,rfl,_,_⟩:=id hsp2;obtain⟨z0,z1,_,z4⟩:=hc.mem z hzm
   match τ,hτ with
   | [τ0,τ1],_ =>
     walk_at "go";refine⟨⟨[_,_],rfl,rfl⟩,?_⟩;walk_at "go";intro t2 ht2;exact⟨look_put ht2 hD2,small4000 (by omega),A2 hil ⟨(s2.put (s2.free ht2)).put hD,upd_same,xs++[[_,z.a,pp]],by rw[List.map_append];exact ta.push hD2 ht2,by rw[List.length_append,xl];rfl,fun x hx=>(List.mem_append.mp hx).elim (x0 x) fun w=>⟨_,z.a,pp,List.mem_singleton.mp w,hsp2⟩⟩⟩
 . rintro D ys H2 hD ⟨s2,hD2,xs,ta,xl,x0⟩;have s12:=s1.trans s2;walk_at "go";refine⟨D,ys,xs,rfl,hD2,ta,(fun x hx=>by obtain⟨k,b,p,e,_⟩:=x0 x hx;rw[e];rfl),fun z=>?_,fun hp=>?_⟩
   . walk_at "go";exact qn H2 s12
   . obtain⟨b,hb⟩:=PJ x0 hp;walk_at "go";exact qs b _ hb H2 s12
include T AS AT in
theorem KO {f₀:Addr}{fd₀:FuncData}(F:Fun K "chosen" "Next.chosen" Pk f₀ fd₀)(M:Meth K Af "chosen" f₀):Methx P w K mg base Af "chosen" 6 ["self","long","bound"] [] (Iz (cF Ah Ai Af Aj Y6 Y4 Ak) W7.next):=by
 refine⟨⟨f₀,fd₀,[],Bb F Yh (fun vs H Q E h=>by revert h;walk_at "len") (fun cdv A outer s H vs Q E hr h=>?_),M,F.binds iN,.nil⟩,T.Hs⟩;refine⟨_,PSs.nox (Ac (At (i:=3) Yh.nd rfl (Or.inl rfl) (Ar AS hr (by rfl) (Aa (Ce (pv 0) rfl) (Aa (pv 1) (Aa (pv 2) Ab))))) (Ae (Au (Ar AT hr (by rfl) (Aa (DW ["at","place"] ["self"] [0] rfl (BV (pv 3)) (fun cl C s₀ H₀ ex=>(DF (K:=K) (n:=2) rfl rfl (AF (Ay (i:=0) (show ((["at","place"]:List Str)++(["self"]:List Str)).Nodup by decide +kernel) rfl (Or.inl rfl)) (AF (Ay (i:=1) (show ((["at","place"]:List Str)++(["self"]:List Str)).Nodup by decide +kernel) rfl (Or.inl rfl)) BU)))) (fun cl C s₀ H₀ ex=>Fz) (fun cl C s₀ H₀ ex=>(BY (Aa (V8 (AB Je (pv 0) (kA (K:=K) rfl (pv 2) rfl) (Aw _)) Ad Ad) (Aa (pv 0) (Aa (pv 1) Ab))))) (DX rfl rfl rfl) (DY (n:="self") (by decide +kernel) rfl) (fun y h=>Co (by decide +kernel) h)) Ab))))),?_⟩;obtain⟨r,x,dx,a,cs,ps,L,rfl,hx,ha,hz,hc,mk,qn,qs⟩:=h;have hx:H x=some (.ins Af dx [("room_cells",.ref a),("room_rover",.int r)]):=hx;have cl:=T.Hs;have na:=T.Iv;have nr:=T.Px;walk_at "go";refine⟨a,cs,ps,L,1,rfl,SqL.of ha,by omega,BB hc mk,Int.le_refl _,fun sp us H1 nsp s1 hsp tsp=>?_⟩;have hs0:∀q∈Cy ps L 1,∃a p,q=[.int a,.int p]/\SpI ps L a p:=fun q hq=>PF hq;have hsl:=KH ps L 1;have hple:=hc.le;generalize Cy ps L 1=ql at tsp hs0 hsl;have htl:=tsp.1;have ha1:=s1 a _ ha;have hx1:=s1 x _ hx;walk_at "go";refine⟨sp,rfl,⟨_,SqL.of hsp⟩,Cv (K:=K) (a:=sp) (xs:=us) (fs:=[some (.ref x)]) (ChW H1 ps L) (fun D hD=>⟨Same.new hD,upd_same,[],AZ.nil,rfl,(fun x hx=>by cases hx)⟩) (fun D i ys H2 _ h=>SqL.of (h.1 sp _ hsp)) ?_ ?_⟩
 . rintro D i y ys H2 hD hi ⟨s2,hD2,xs,ta,xl,x0⟩ τ hτ;have hil:i<us.length:=(List.getElem?_eq_some_iff.mp hi).1;have hiq:i<ql.length:=by omega
   obtain⟨t,et,hT⟩:=tsp.2 i ql[i] (by simp [hiq]);obtain⟨b,pp,eq0,hsp2⟩:=hs0 _ (List.getElem_mem hiq);rw[eq0] at hT;have ey:y = .ref t:=Option.some.inj (hi.symm.trans et);subst ey;have hT2:=s2 t _ hT;have ha2:=s2 a _ ha1;have hx2:=s2 x _ hx1;have hyl:=ta.1;rw[List.length_map] at hyl;obtain⟨z,hzm,hzv,rfl,_,_⟩:=id hsp2;obtain⟨z0,z1,_,z4⟩:=hc.mem z hzm
   match τ,hτ with
   | [τ0,τ1],_ =>
     walk_at "go";refine⟨⟨[_,_],rfl,rfl⟩,?_⟩;walk_at "go";refine AK (fun hge=>?_) (fun hge=>?_)
     . walk_at "go";intro t2 ht2;exact⟨look_put ht2 hD2,small4000 (by omega),A2 hil ⟨(s2.put (s2.free ht2)).put hD,upd_same,xs++[[_,z.a,pp]],by rw[List.map_append];exact ta.push hD2 ht2,by rw[List.length_append,xl];rfl,fun x hx=>(List.mem_append.mp hx).elim (x0 x) fun w=>⟨_,z.a,pp,List.mem_singleton.mp w,hsp2⟩⟩⟩
     . walk_at "go";intro t2 ht2;exact⟨look_put ht2 hD2,small4000 (by omega),A2 hil ⟨(s2.put (s2.free ht2)).put hD,upd_same,xs++[[_,z.a,pp]],by rw[List.map_append];exact ta.push hD2 ht2,by rw[List.length_append,xl];rfl,fun x hx=>(List.mem_append.mp hx).elim (x0 x) fun w=>⟨_,z.a,pp,List.mem_singleton.mp w,hsp2⟩⟩⟩
 . rintro D ys H2 hD ⟨s2,hD2,xs,ta,xl,x0⟩;have s12:=s1.trans s2;walk_at "go";refine⟨D,ys,xs,rfl,hD2,ta,(fun x hx=>by obtain⟨k,b,p,e,_⟩:=x0 x hx;rw[e];rfl),fun z=>?_,fun hp=>?_⟩
   . walk_at "go";exact qn H2 s12
   . obtain⟨b,hb⟩:=PJ x0 hp;walk_at "go";exact qs b _ hb H2 s12
include T Av AS AT in
theorem KP {f₀:Addr}{fd₀:FuncData}(F:Fun K "chosen" "Likes.chosen" Pl f₀ fd₀)(M:Meth K Aj "chosen" f₀):Methx P w K mg base Aj "chosen" 6 ["self","long","bound"] [] (Iz (cF Ah Ai Af Aj Y6 Y4 Ak) W7.likes):=by
 refine⟨⟨f₀,fd₀,[],Bb F Ra (fun vs H Q E h=>by revert h;walk_at "len") (fun cdv A outer s H vs Q E hr h=>?_),M,F.binds Hm,.nil⟩,T.Py⟩;refine⟨_,PSs.nox (Ac (At (i:=3) Ra.nd rfl (Or.inr rfl) (Ce (pv 0) rfl)) (Ac (At (i:=4) Ra.nd rfl (Or.inl rfl) (Ar AS hr (by rfl) (Aa (pv 3) (Aa (pv 1) (Aa (pv 2) Ab))))) (Ae (Au (Ar AT hr (by rfl) (Aa (DW ["at","place"] ["cells"] [3] rfl (BV (pv 4)) (fun cl C s₀ H₀ ex=>(DF (K:=K) (n:=2) rfl rfl (AF (Ay (i:=0) (show ((["at","place"]:List Str)++(["cells"]:List Str)).Nodup by decide +kernel) rfl (Or.inl rfl)) (AF (Ay (i:=1) (show ((["at","place"]:List Str)++(["cells"]:List Str)).Nodup by decide +kernel) rfl (Or.inl rfl)) BU)))) (fun cl C s₀ H₀ ex=>Fz) (fun cl C s₀ H₀ ex=>(BY (Aa (kB (K:=K) rfl PySem.F.plainAttrs_int PySem.F.slot_int_bit_length PySem.F.type_int_bit_length YF (Ar Av hr (by rfl) (Aa (Ax (Ic (K:=K) rfl) (pv 2) (pv 0) (fun _ _=>rfl)) Ab))) (Aa (pv 0) (Aa (pv 1) Ab))))) (DX rfl rfl rfl) (DY (n:="cells") (by decide +kernel) rfl) (fun y h=>Co (by decide +kernel) h)) Ab)))))),?_⟩;obtain⟨r,x,dx,a,cs,ps,L,rfl,hx,ha,hz,hc,mk,qn,qs⟩:=h;have hx:H x=some (.ins Aj dx [("room_cells",.ref a)]):=hx;have cl:=T.Py;have na:=T.Ri;walk_at "go";refine⟨a,cs,ps,L,1,rfl,SqL.of ha,by omega,BB hc mk,Int.le_refl _,fun sp us H1 nsp s1 hsp tsp=>?_⟩;have hs0:∀q∈Cy ps L 1,∃a p,q=[.int a,.int p]/\SpI ps L a p:=fun q hq=>PF hq;have hsl:=KH ps L 1;have hple:=hc.le;generalize Cy ps L 1=ql at tsp hs0 hsl;have htl:=tsp.1;have ha1:=s1 a _ ha;have hx1:=s1 x _ hx;walk_at "go";refine⟨sp,rfl,⟨_,SqL.of hsp⟩,Cv (K:=K) (a:=sp) (xs:=us) (fs:=[some (.ref a)]) (ChW H1 ps L) (fun D hD=>⟨Same.new hD,upd_same,[],AZ.nil,rfl,(fun x hx=>by cases hx)⟩) (fun D i ys H2 _ h=>SqL.of (h.1 sp _ hsp)) ?_ ?_⟩
 . rintro D i y ys H2 hD hi ⟨s2,hD2,xs,ta,xl,x0⟩ τ hτ;have hil:i<us.length:=(List.getElem?_eq_some_iff.mp hi).1;have hiq:i<ql.length:=by omega
   obtain⟨t,et,hT⟩:=tsp.2 i ql[i] (by simp [hiq]);obtain⟨b,pp,eq0,hsp2⟩:=hs0 _ (List.getElem_mem hiq);rw[eq0] at hT;have ey:y = .ref t:=Option.some.inj (hi.symm.trans et);subst ey;have hT2:=s2 t _ hT;have ha2:=s2 a _ ha1;have hx2:=s2 x _ hx1;have hyl:=ta.1;rw[List.length_map] at hyl;obtain⟨z,hzm,hzv,rfl,_,_⟩:=id hsp2;obtain⟨z0,z1,_,z4⟩:=hc.mem z hzm
   match τ,hτ with
   | [τ0,τ1],_ =>
     walk_at "go";refine⟨⟨[_,_],rfl,rfl⟩,?_⟩;walk_at "go";refine⟨rfl,_,rfl,rfl,?_⟩;walk_at "go";intro t2 ht2;exact⟨look_put ht2 hD2,small4000 (by omega),A2 hil ⟨(s2.put (s2.free ht2)).put hD,upd_same,xs++[[_,z.a,pp]],by rw[List.map_append];exact ta.push hD2 ht2,by rw[List.length_append,xl];rfl,fun x hx=>(List.mem_append.mp hx).elim (x0 x) fun w=>⟨_,z.a,pp,List.mem_singleton.mp w,hsp2⟩⟩⟩
 . rintro D ys H2 hD ⟨s2,hD2,xs,ta,xl,x0⟩;have s12:=s1.trans s2;walk_at "go";refine⟨D,ys,xs,rfl,hD2,ta,(fun x hx=>by obtain⟨k,b,p,e,_⟩:=x0 x hx;rw[e];rfl),fun z=>?_,fun hp=>?_⟩
   . walk_at "go";exact qn H2 s12
   . obtain⟨b,hb⟩:=PJ x0 hp;walk_at "go";exact qs b _ hb H2 s12
def PK (C:W7->Addr)(i:W7):Sp:=fun vs H Q _=>∃(r r':Int) (x dx a:Addr),vs=[.ref x,.int r']/\H x=some (.ins (C i) dx (fsF i a r))/\∀H',Az x H H'->H' x=some (.ins (C i) dx (fsF i a r'))->Q .non H'
include T in
theorem KQ {f₀:Addr}{fd₀:FuncData}(F:Fun K "room_granted" "Stretches.room_granted" Er f₀ fd₀)(M:∀i,(okS) i->Meth K ((cF Ah Ai Af Aj Y6 Y4 Ak) i) "room_granted" f₀) :BD P w K mg base (okS) (cF Ah Ai Af Aj Y6 Y4 Ak) "room_granted" 1 ["self","behind"] [] (PK (cF Ah Ai Af Aj Y6 Y4 Ak)):=by
 refine BD.made (Bb F JS (fun vs H Q E h=>by obtain⟨_,_,h⟩:=h;revert h;walk_at "len") (fun cdv A outer s H vs Q E hr h=>?_)) M (F.binds JT) (T_cl T);refine⟨_,PSs.nox (Ae ZD),?_⟩;obtain⟨i,hi,r,r',x,dx,a,rfl,hx,q⟩:=h;walk_at "go";refine q _ Az.refl ?_;cases i <;> first | exact hx | exact(show False from hi).elim
include T in
theorem KR {f₀:Addr}{fd₀:FuncData}(F:Fun K "room_granted" "Next.room_granted" Es f₀ fd₀)(M:∀i,(fun i=>i=W7.next) i->Meth K ((cF Ah Ai Af Aj Y6 Y4 Ak) i) "room_granted" f₀) :BD P w K mg base (fun i=>i=W7.next) (cF Ah Ai Af Aj Y6 Y4 Ak) "room_granted" 1 ["self","behind"] [] (PK (cF Ah Ai Af Aj Y6 Y4 Ak)):=by
 refine BD.made (Bb F JU (fun vs H Q E h=>by obtain⟨_,_,h⟩:=h;revert h;walk_at "len") (fun cdv A outer s H vs Q E hr h=>?_)) M (F.binds JV) (T_cl T);refine⟨_,PSs.nox (Ae (Cs (pv 0) (pv 1) rfl)),?_⟩;obtain⟨i,hi,r,r',x,dx,a,rfl,hx,q⟩:=h;have hi:i=W7.next:=hi;subst hi;have hx:H x=some (.ins Af dx [("room_cells",.ref a),("room_rover",.int r)]):=hx;have cl:=T.Hs;have na:=T.Iv;have nr:=T.Px;walk_at "go";exact q _ Az.refl.put upd_same
theorem fr_v {b e:Int}{z:Pc}(h:z∈fr b e):z.v=false:=by
 unfold fr at h
 split at h
 . cases h
 . rw[List.mem_singleton.mp h]
theorem kC {k:W7}{r r' n s L:Int}{ds rs:List Pc}{z:Pc}(hc:Ag 0 (ds++z::rs) n)(hv:z.v=false)(hL:1<=L)(g1:z.a<=s)(g2:s+L<=z.a+z.l):Asked (.st k r n (ds++z::rs)) (s+1) (.st k r' n (cutP ds rs z.a z.l s L)):=by
 refine⟨rfl,rfl,fun p'=>⟨fun ⟨y,hy,yv,e⟩=>?_,fun w=>?_⟩,fun ⟨y,hy,yv,e⟩=>?_⟩
 . rcases List.mem_append.mp hy with w | w
   . exact .inr ⟨y,List.mem_append_left _ w,yv,e⟩
   . rcases List.mem_append.mp w with w | w
     . rw[fr_v w] at yv;cases yv
     . rcases List.mem_cons.mp w with w | w
       . rw[w] at e;exact .inl e.symm
       . rcases List.mem_append.mp w with w | w
         . rw[fr_v w] at yv;cases yv
         . exact .inr ⟨y,List.mem_append_right _ (List.mem_cons_of_mem _ w),yv,e⟩
 . rcases w with rfl | ⟨y,hy,yv,e⟩
   . exact⟨⟨s,L,true⟩,List.mem_append_right _ (List.mem_append_right _ List.mem_cons_self),rfl,rfl⟩
   . rcases List.mem_append.mp hy with w | w
     . exact⟨y,List.mem_append_left _ w,yv,e⟩
     . rcases List.mem_cons.mp w with w | w
       . rw[w,hv] at yv;cases yv
       . exact⟨y,List.mem_append_right _ (List.mem_append_right _ (List.mem_cons_of_mem _ (List.mem_append_right _ w))),yv,e⟩
 . have hy:y∈ds++z::rs:=hy;obtain⟨_,y1,_,_⟩:=hc.mem y hy;have:=NT hc hy (List.mem_append_right _ List.mem_cons_self) (p:=s) (by omega) (by omega) g1 (by omega);rw[this,hv] at yv;cases yv
variable (D_chosen:BD P w K mg base (ok4) (cF Ah Ai Af Aj Y6 Y4 Ak) "chosen" 6 ["self","long","bound"] [] (Iz (cF Ah Ai Af Aj Y6 Y4 Ak)))
variable (C9:Defx P w K mg base "begin_around" 5 ["cells","cell"] (YV K))
variable (D_room_granted:BD P w K mg base (ok4) (cF Ah Ai Af Aj Y6 Y4 Ak) "room_granted" 1 ["self","behind"] [] (PK (cF Ah Ai Af Aj Y6 Y4 Ak)))
include T BJ BN D_chosen C9 D_room_granted in
theorem KU {f₀ T₀:Addr}{fd₀:FuncData}{tk₀:Tok}{tc₀:Value}{td₀:Option Addr}{tn₀:Nat}{ts₀:Array (Option Value)}(F:FunD K "ask" "Stretches.ask" Et (.ref T₀) f₀ fd₀)(LT:K.lookup T₀=some ⟨tc₀,td₀,.seq [.int 1 tk₀].toArray tn₀,ts₀⟩)(M:∀i,(ok4) i->Meth K ((cF Ah Ai Af Aj Y6 Y4 Ak) i) "ask" f₀):MethSD P w K mg base (ok4) (cF Ah Ai Af Aj Y6 Y4 Ak) "ask" 8 ["self","count","bound"] [.int 1] (Ix (cF Ah Ai Af Aj Y6 Y4 Ak) Bo):=by
 refine MethSD.made (fd:=fd₀) ?_ M (F.bindsA LT (Hn T₀ _)) (F.bindsD LT (Ho T₀ _)) (.cons ⟨tk₀,rfl⟩ .nil) (T_cl T);refine Jp F Rb (fun vs H Q E h=>by obtain⟨_,_,h⟩:=h;revert h;walk_at "len") (fun cdv A outer s H vs Q E hr h=>?_);refine⟨_,(Ac (Bl (BC BJ hr (by rfl) (Aa (pv 1) (Aa (pv 2) Ab)))) (Ac (At (i:=3) Rb.nd rfl (Or.inl rfl) (Am AN (pv 1) (D5 (v:=.int 2) (by rfl) T.FF ⟨_,rfl⟩))) (Ac (At (i:=4) Rb.nd rfl (Or.inl rfl) (Xp D_chosen B0 hr (pv 0) (Aa (pv 3) (Aa (pv 2) Ab)))) (Ac (AG (AB Nt (pv 4) B5 (Aw _)) (Ae (Ch T.JZ hr.hd rfl (Aa AY Ab))) AI) (Ac (Cs (pv 0) (BC BN hr (by rfl) (Aa (Ce (pv 0) rfl) (Aa (Ar C9 hr (by rfl) (Aa (Ce (pv 0) rfl) (Aa (pv 4) Ab))) (Aa (pv 4) (Aa (pv 3) Ab))))) rfl) (Ac (Bl (Xp D_room_granted B0 hr (pv 0) (Aa (Am AN (pv 4) (pv 3)) Ab))) (Ae (Au (Am AN (pv 4) Ad))))))))),?_⟩;obtain⟨i,hi,x,dx,a,q3,cs,c,rfl,rfl,S,hc6,qE,qQ⟩:=h;cases q3 with
 | half _ _=>exact(show False from hi).elim
 | shel _ _=>exact(show False from hi).elim
 | row _ _=>exact(show False from hi).elim
 | st k r n ps =>
 have hi:ok4 k:=hi;have hx:H x=some (.ins ((cF Ah Ai Af Aj Y6 Y4 Ak) k) dx (fsF k a r)):=S.hx;have ha:=S.ha;have hl:(cs.length:Int)=n:=S.hl;have hz:=S.hz;have hc:Ag 0 ps cs.length:=by rw[hl];exact S.ok.2.1
 have nj:AJ ps:=S.ok.2.2;have mk:Ao cs ps:=S.mm;have cl:=T_cl T k;have na:=T_na T k;walk_at "go";refine⟨c,1,rfl,fun h=>absurd h (by omega),fun h1 _=>?_⟩;walk_at "go";refine⟨r,x,dx,a,cs,ps,c+2,rfl,hx,ha,hz,hc,mk,fun H1 s1=>?_,fun b s hs H1 s1=>?_⟩
 . walk_at "go";exact qE H1 s1
 have hx1:=s1 x _ hx;have ha1:=s1 a _ ha;obtain⟨z,hzm,hv,rfl,g1,g2⟩:=hs;obtain⟨i,hi2⟩:=List.getElem?_of_mem hzm;walk_at "go";refine⟨a,cs,ps,i,z,s,rfl,SqL.of ha1,by omega,hc,mk,hi2,g1,by omega,fun H2 s2=>?_⟩;have hx2:=s2 x _ hx1;have ha2:=s2 a _ ha1;walk_at "go";refine⟨a,cs,ps,z.a,s,c+2,rfl,SqL.of ha2,by omega,hc,mk,by omega,fun y hy hk hv' e1 e2 p H3 np s3 hp=>?_,fun y hy hk hv' hn'=>?_,fun hn'=>absurd hv (hn' z hzm rfl)⟩
 . have ey:=Du hc hy hzm hk;subst ey;have hx3:=s3 x _ hx2;have hne:p≠x:=fun z=>by rw[z,hx2] at np;cases np
   have s13:=(s1.trans s2).trans s3;walk_at "go";generalize hH:upd H3 x _=H4;have hx4:H4 x=some (.ins ((cF Ah Ai Af Aj Y6 Y4 Ak) k) dx (fsF k p r)):=by rw[<-hH,upd_same,NU]
   have hp4:H4 p=some (.lst ((cutO cs y.a y.l s (c+2)).map V.int)):=by rw[<-hH];exact look_ne hne hp
   have k4:Az x H H4:=by rw[<-hH];exact(Az.of s13).put
   walk_at "go";refine⟨r,s+(c+2),x,dx,p,rfl,hx4,fun H5 k5 hx5=>?_⟩;walk_at "go";obtain⟨y0,y1,y3,y4⟩:=hc.mem y hzm;obtain⟨ds,rs,e3,e4,c1,c2⟩:=Cu hc hi2;subst e3;have hcn:Ag 0 (ds++y::rs) n:=by rw[<-hl];exact hc
   refine qQ (s+1) (.st k (s+(c+2)) n (cutP ds rs y.a y.l s (c+2))) p _ H5 (kC hcn hv (by omega) g1 g2) ((s1.trans s2).free np) (k4.trans k5) (by rw[NH]) ⟨hx5,k5 p _ hne hp4,by rw[NH];exact hl,by rw[NH];exact hz,⟨hi,?_,dQ nj hv⟩,?_⟩
   . rw[<-hl];exact bQ (by omega) g1 g2 c1 c2
   . exact WX y0 (by omega) g1 g2 (by omega) (c1.endBy (Int.le_refl 0)) c2.fromOn mk
 . have ey:=Du hc hy hzm hk;subst ey;exact absurd ⟨g1,g2⟩ hn'
def YW (C:W7->Addr)(k:W7):Sp:=fun vs H Q _=>∃(x dx a:Addr) (q:St7) (cs:List Int) (z:Pc),vs=[.ref x,.int (z.a+1)]/\k=q.let3/\KS C x dx a q cs H/\z∈q.ps/\z.v=true /\
 ∀(H':Hp),Same H H'->Q (.int (z.l-2)) H'
include T BI in
theorem KW {f₀:Addr}{fd₀:FuncData}(F:Fun K "many" "Keeper.many" Pm f₀ fd₀)(M:∀i,Meth K ((cF Ah Ai Af Aj Y6 Y4 Ak) i) "many" f₀):Bk P w K mg base (cF Ah Ai Af Aj Y6 Y4 Ak) "many" 7 ["self","place"] [] (YW (cF Ah Ai Af Aj Y6 Y4 Ak)):=by
 refine Bk.made (Bb F Pn (fun vs H Q E h=>by obtain⟨_,h⟩:=h;revert h;walk_at "len") (fun cdv A outer s H vs Q E hr h=>?_)) M (F.binds Hq) (T_cl T);refine⟨_,(Ac (Cm (BC BI hr (by rfl) (Aa (Ce (pv 0) rfl) (Aa (Am A9 (pv 1) Ad) Ab))) (Dr rfl (AF (Ay (i:=2) Pn.nd rfl (Or.inl rfl)) (AF (Ay (i:=3) Pn.nd rfl (Or.inl rfl)) (AF (Ay (i:=4) Pn.nd rfl (Or.inl rfl)) BU))))) (Ae (Au (Am A9 (pv 3) (D5 (v:=.int 2) (by rfl) T.FF ⟨_,rfl⟩))))),?_⟩;obtain⟨i,x,dx,a,q3,cs,z,rfl,rfl,S,hm,hv,q⟩:=h;have hx:=S.hx;have ha:=S.ha;have cl:=T_cl T q3.let3;have na:=T_na T q3.let3;have hc:=S.ch;have hw:=BB hc S.mm;have hz:=S.hz;walk_at "go";refine⟨a,cs,q3.ps,z.a,by rw[Int.add_sub_cancel],SqL.of ha,by omega,hw,hc,fun y hy hk hv' t H1 s1 ht=>?_,fun hn=>absurd hv (hn z hm rfl)⟩;have ey:=Du hc hy hm (by omega);subst ey;walk_at "go";exact q _ s1
def YX (C:W7->Addr)(k:W7):Sp:=fun vs H Q _=>∃(x dx a:Addr) (q:St7) (cs:List Int) (z:Pc) (j:Int),vs=[.ref x,.int (z.a+1),.int j]/\k=q.let3/\KS C x dx a q cs H/\z∈q.ps/\z.v=true/\0<=j/\j<z.l-2 /\
 ∀(H':Hp),Same H H'->Q (.int (z.a+1+j)) H'
variable (A5:Bk P w K mg base (cF Ah Ai Af Aj Y6 Y4 Ak) "many" 7 ["self","place"] [] (YW (cF Ah Ai Af Aj Y6 Y4 Ak)))
include T A5 in
theorem KY {f₀:Addr}{fd₀:FuncData}(F:Fun K "room_cell_of" "Keeper.room_cell_of" Eu f₀ fd₀)(M:∀i,Meth K ((cF Ah Ai Af Aj Y6 Y4 Ak) i) "room_cell_of" f₀):Bk P w K mg base (cF Ah Ai Af Aj Y6 Y4 Ak) "room_cell_of" 8 ["self","place","k"] [] (YX (cF Ah Ai Af Aj Y6 Y4 Ak)):=by
 refine Bk.made (Bb F Yi (fun vs H Q E h=>by obtain⟨_,h⟩:=h;revert h;walk_at "len") (fun cdv A outer s H vs Q E hr h=>?_)) M (F.binds JW) (T_cl T);refine⟨_,(Ac (At (i:=3) Yi.nd rfl (Or.inl rfl) (Do A5 B8 hr (pv 0) (Aa (pv 1) Ab))) (Ac (AG (PW.pt (Cc (AB Dm (pv 2) Ad (Aw _)) (Cz (AB Je (pv 2) (pv 3) (Aw _))))) (Ae (Ch T.jE hr.hd rfl (Aa AY Ab))) AI) (Ae (Au (Am AN (pv 1) (pv 2)))))),?_⟩;obtain⟨k,x,dx,a,q3,cs,z,j,rfl,rfl,S,hm,hv,k0,k1,q⟩:=h;have hx:=S.hx;walk_at "go";refine⟨x,dx,a,q3,cs,z,rfl,rfl,S,hm,hv,fun H1 s1=>?_⟩;walk_at "go";exact q H1 s1
theorem kD {cs:List Int}{ps:List Pc}{z:Pc}{n x k:Int}(c:Ag 0 ps n)(m:Ao cs ps)(hz:z∈ps)(hv:z.v=true)(k0:0<=k)(k1:k<z.l-2):Ao (cs.set (z.a+1+k).toNat x) ps:=fun p hp=>by
 obtain⟨z0,z1,z3,z4⟩:=c.mem z hz;obtain⟨p0,p1,p3,p4⟩:=c.mem p hp;obtain⟨m1,m2⟩:=m p hp;have far:p.a≠z.a+1+k/\p.a+p.l-1≠z.a+1+k:=by
   by_cases e:p=z
   . subst e;omega
   . constructor
     . intro h;exact e (NT c hp hz (Int.le_refl _) (by omega) (by omega) (by omega))
     . intro h;exact e (NT c hp hz (p:=p.a+p.l-1) (by omega) (by omega) (by omega) (by omega))
 exact⟨by rw[List.getElem?_set_ne (by omega)];exact m1,by rw[List.getElem?_set_ne (by omega)];exact m2⟩
def spPut (C:W7->Addr)(k:W7):Sp:=fun vs H Q _=>∃(x dx a:Addr) (q:St7) (cs:List Int) (z:Pc) (j n:Int),vs=[.ref x,.int (z.a+1),.int j,.int n]/\k=q.let3/\KS C x dx a q cs H/\z∈q.ps/\z.v=true/\0<=j/\j<z.l-2 /\
 ∀(H':Hp),Az a H H'->KS C x dx a q (cs.set (z.a+1+j).toNat n) H'->Q .non H'
variable (Da:Bk P w K mg base (cF Ah Ai Af Aj Y6 Y4 Ak) "room_cell_of" 8 ["self","place","k"] [] (YX (cF Ah Ai Af Aj Y6 Y4 Ak)))
include T Da in
theorem d_put {f₀:Addr}{fd₀:FuncData}(F:Fun K "put" "Keeper.put" Po f₀ fd₀)(M:∀i,Meth K ((cF Ah Ai Af Aj Y6 Y4 Ak) i) "put" f₀):Bk P w K mg base (cF Ah Ai Af Aj Y6 Y4 Ak) "put" 9 ["self","place","k","number"] [] (spPut (cF Ah Ai Af Aj Y6 Y4 Ak)):=by
 refine Bk.made (Bb F Yj (fun vs H Q E h=>by obtain⟨_,h⟩:=h;revert h;walk_at "len") (fun cdv A outer s H vs Q E hr h=>?_)) M (F.binds iO) (T_cl T);refine⟨_,(Ac (At (i:=4) Yj.nd rfl (Or.inl rfl) (Do Da B8 hr (pv 0) (Aa (pv 1) (Aa (pv 2) Ab)))) (Ae (Cm (pv 3) (FX (Ce (pv 0) rfl) (pv 4) F2)))),?_⟩;obtain⟨k,x,dx,a,q3,cs,z,j,n,rfl,rfl,S,hm,hv,k0,k1,q⟩:=h;have hx:=S.hx;have cl:=T_cl T q3.let3;have na:=T_na T q3.let3;obtain⟨z0,z1,z3,z4⟩:=S.ch.mem z hm;walk_at "go";refine⟨x,dx,a,q3,cs,z,j,rfl,rfl,S,hm,hv,k0,k1,fun H1 s1=>?_⟩;have hx1:=s1 x _ hx;have ha1:=s1 a _ S.ha;have hxa:x≠a:=fun e=>by rw[e,ha1] at hx1;cases hx1
 have ls:(cs.set (z.a+1+j).toNat n).length=cs.length:=List.length_set;walk_at "go";exact q _ (Az.of s1).put ⟨look_ne hxa hx1,upd_same,by rw[ls];exact S.hl,by rw[ls];exact S.hz,S.ok,kD S.ch S.mm hm hv k0 k1⟩
def IA (C:W7->Addr)(CG:Addr)(i:W7):Sp:=fun vs H Q E=>∃(x dx a:Addr) (q:St7) (cs:List Int) (z:Pc),vs=[.ref x,.int (z.a+1)]/\i=q.let3/\KS C x dx a q cs H/\z∈q.ps/\z.v=true/\(∀H',Same H H'->E (.ref CG) none H') /\
 (∀(q':St7) (a':Addr) (cs':List Int) (H':Hp),Given q (z.a+1) q'->H a'=none->Az x H H'->cs'.length=cs.length->KS C x dx a' q' cs' H'->Q .non H')
variable (Db:Defx P w K mg base "freed" 7 ["cells","at"] (Yx K Y3))
include T Db in
theorem KZ {f₀:Addr}{fd₀:FuncData}(F:Fun K "give" "Stretches.give" Ev f₀ fd₀)(M:∀i,(ok4) i->Meth K ((cF Ah Ai Af Aj Y6 Y4 Ak) i) "give" f₀):BD P w K mg base (ok4) (cF Ah Ai Af Aj Y6 Y4 Ak) "give" 8 ["self","place"] [] (IA (cF Ah Ai Af Aj Y6 Y4 Ak) Y9):=by
 refine BD.made (Bb F JX (fun vs H Q E h=>by obtain⟨_,_,h⟩:=h;revert h;walk_at "len") (fun cdv A outer s H vs Q E hr h=>?_)) M (F.binds JY) (T_cl T);refine⟨_,(Ae (Cs (pv 0) (BC Db hr (by rfl) (Aa (Ce (pv 0) rfl) (Aa (Am A9 (pv 1) Ad) Ab))) rfl)),?_⟩;obtain⟨i0,hi,x,dx,a,q3,cs,z,rfl,rfl,S,hm,hv,qE,qQ⟩:=h;cases q3 with
 | half _ _=>exact(show False from hi).elim
 | shel _ _=>exact(show False from hi).elim
 | row _ _=>exact(show False from hi).elim
 | st k r n ps =>
 have hi:ok4 k:=hi;have hx:H x=some (.ins ((cF Ah Ai Af Aj Y6 Y4 Ak) k) dx (fsF k a r)):=S.hx;have ha:=S.ha;have hl:(cs.length:Int)=n:=S.hl;have hz:=S.hz;have hc:Ag 0 ps cs.length:=by rw[hl];exact S.ok.2.1
 have nj:AJ ps:=S.ok.2.2;have mk:Ao cs ps:=S.mm;have hm:z∈ps:=hm;have cl:=T_cl T k;have na:=T_na T k;obtain⟨i,hi2⟩:=List.getElem?_of_mem hm;walk_at "go";refine⟨a,cs,ps,z.a,by rw[Int.add_sub_cancel],SqL.of ha,by omega,hc,mk,fun j y hj hk hv' p H1 np s1 hp=>?_,fun hn=>absurd hv (hn z hm rfl)⟩;have ej:=NK hc hj hi2 (by omega);subst ej;have ey:y=z:=Option.some.inj (hj.symm.trans hi2);subst ey;have hx1:=s1 x _ hx;have hne:p≠x:=fun z=>by rw[z,hx] at np;cases np
 walk_at "go";have G:Given (.st k r n ps) (y.a+1) (.st k r n (Bj (modF ps y.a))):=fN;obtain⟨ds,rs,e1,e2,_,_⟩:=Cu hc hi2;subst e1 e2;obtain⟨k1,k3,k4⟩:=dP hc mk nj hv;exact qQ _ p _ _ G np (Az.of s1).put (by rw[DD]) ⟨by rw[upd_same,NU];rfl,look_ne hne hp,by rw[DD];exact hl,by rw[DD];exact hz,⟨hi,by rw[<-hl];exact k1,k3⟩,k4⟩
include T in
theorem K0 {f₀:Addr}{fd₀:FuncData}(F:Fun K "give" "Row.give" Pp f₀ fd₀)(M:Meth K Ak "give" f₀) :Methx P w K mg base Ak "give" 1 ["self","place"] [] (IA (cF Ah Ai Af Aj Y6 Y4 Ak) Y9 W7.row):=by
 refine⟨⟨f₀,fd₀,[],Bb F iP (fun vs H Q E h=>by revert h;walk_at "len") (fun cdv A outer s H vs Q E hr h=>?_),M,F.binds iQ,.nil⟩,T.cl_Row⟩;refine⟨_,(Ae (Ch T.jF hr.hd rfl (Aa AY Ab))),?_⟩;obtain⟨x,dx,a,q3,cs,z,rfl,hi,S,hm,hv,qE,qQ⟩:=h;walk_at "go";exact qE H (Same.refl _)
theorem MgTo.sub {ps ds rs ds' rs':List Pc}{m q m' q':Nat}(h:MgTo ps ds rs m q ds' rs' m' q'):∀y,y∈ds'\/y∈rs'->y∈ds\/y∈rs:=by
 induction h with
 | stop _=>exact fun _ h=>h
 | right _ _ _ ih=>exact fun y hy=>(ih y hy).imp id (List.mem_cons_of_mem _)
 | left _ _ _ ih=>exact fun y hy=>(ih y hy).imp (List.mem_append_left _) id
theorem kE {N m q m' q':Nat}{ps ds rs ds' rs':List Pc}(hc:Ag 0 ps (2^N))(eps:ps=ds++⟨2^m*(q:Int),2^m,true⟩::rs)(L:Lie N ps ds rs m q)(G:MgTo ps ds rs m q ds' rs' m' q'):Given (.half N ps) (2^m*(q:Int)+1) (.half N (ds'++⟨2^m'*(q':Int),2^m',false⟩::rs')):=by
 have inn:∀y,y∈ds\/y∈rs->y∈ps:=fun y hy=>by
   rw[eps];exact hy.elim (List.mem_append_left _) fun h=>List.mem_append_right _ (List.mem_cons_of_mem _ h)
 refine⟨rfl,rfl,fun p'=>⟨fun ⟨y,hy,yv,e⟩=>?_,fun ⟨⟨y,hy,yv,e⟩,hp⟩=>?_⟩⟩
 . have h1:y∈ds'\/y∈rs':=by
     rcases List.mem_append.mp hy with w | w
     . exact .inl w
     . rcases List.mem_cons.mp w with w | w
       . rw[w] at yv;cases yv
       . exact .inr w
   have h2:=G.sub y h1;have h3:=L.outer h2;obtain⟨_,y1,_,_⟩:=hc.mem y (inn y h2);have p1:=pw1 m;exact⟨⟨y,inn y h2,yv,e⟩,by omega⟩
 . have hy:y∈ps:=hy;have h2:y∈ds\/y∈rs:=by
     rw[eps] at hy;rcases List.mem_append.mp hy with w | w
     . exact .inl w
     . rcases List.mem_cons.mp w with w | w
       . rw[w] at e;exact absurd e.symm hp
       . exact .inr w
   rcases G.live y yv h2 with w | w
   . exact⟨y,List.mem_append_left _ w,yv,e⟩
   . exact⟨y,List.mem_append_right _ (List.mem_cons_of_mem _ w),yv,e⟩
theorem kF {s n:Int}{fs:List Sf}{j i:Nat}{b:List Bool}(h1:1<=s)(o:∀f∈fs,SfOk s f)(h:fs[j]?=some ⟨n,b⟩)(hi:b[i]?=some true)(hm:(⟨s*(j:Int)+n*(i:Int),n,true⟩:Pc)∈alP s 0 fs):Given (.shel s fs) (s*(j:Int)+n*(i:Int)+1) (.shel s (giv fs j i n b)):=by
 obtain⟨g1,g2,_⟩:=fG h1 o h hi;have ch:=Ed h1 fs 0 (fun f hf=>(o f hf).1);refine⟨by show s*((giv fs j i n b).length:Int)=_;rw[XD];rfl,rfl,fun p'=>⟨fun ⟨y,hy,yv,e⟩=>?_,fun ⟨⟨y,hy,yv,e⟩,hp⟩=>?_⟩⟩
 . obtain⟨k1,k2⟩:=g2 y hy yv;refine⟨⟨y,k1,yv,e⟩,fun ep=>k2 (Du ch k1 hm ?_)⟩;show y.a=s*(j:Int)+n*(i:Int);omega
 . exact⟨y,g1 y hy yv (fun ez=>by rw[ez] at e;exact hp e.symm),yv,e⟩
theorem in_iff {ps:List Pc}{z:Pc}:(ps.any fun y=>eqP y z)=decide (z∈ps):=by
 rw[Bool.eq_iff_iff,List.any_eq_true,decide_eq_true_iff];constructor
 . rintro⟨y,hy,e⟩;rw[<-Ie.mp e];exact hy
 . exact fun h=>⟨z,h,Ie.mpr rfl⟩
theorem kG {N m q:Nat}{rs:List Pc}(hN:N<=8)(hm:m<=N)(c:Ag (2^m*(q:Int)+2^m) rs (2^N)):m<9/\q<257/\0<=(2:Int)^m*(q:Int)/\(2:Int)^m*(q:Int)+2^m<=256:=by
 have h1:=c.le;have h2:=FC hN;have h3:(2:Int)^8=256:=by decide
 have p1:=pw1 m;have h4:(q:Int)<=2^m*(q:Int):=by
   have:=Int.mul_le_mul_of_nonneg_right p1 (show (0:Int)<=(q:Int) by omega);omega
 omega
theorem MgTo.lie {N:Nat}{ps ds rs ds' rs':List Pc}{m q m' q':Nat}(h:MgTo ps ds rs m q ds' rs' m' q'):Lie N ps ds rs m q->Lie N ps ds' rs' m' q':=by
 induction h with
 | stop _=>exact id
 | right hq hb k ih =>
   intro L;obtain⟨rs1,e,L1⟩:=L.right hq hb;rw[(List.cons.inj e).2] at ih;exact ih L1
 | left hq hb k ih =>
   intro L;obtain⟨ds1,e,L1⟩:=L.left hq hb;rw[(List.append_inj' e rfl).1] at ih;exact ih L1
def YY:Sp:=fun vs H Q _=>∃(p:Addr) (us:List V) (ps ds rs ds' rs':List Pc) (N m q m' q':Nat),vs=[.ref p,.int (2^m*(q:Int)),.int (2^m)]/\H p=some (.lst us)/\AA H us ps/\N<=8/\Lie N ps ds rs m q/\MgTo ps ds rs m q ds' rs' m' q' /\
 ∀(t:Addr) (H':Hp),Same H H'->H' t=some (.tup [.int (2^m'*(q':Int)),.int (2^m')])->Q (.ref t) H'
def GtW (p:Addr)(N:Nat)(ps ds' rs':List Pc)(m' q':Nat)(H:Hp)(k:Nat)(σ:L2.St)(H':Hp):Prop :=
 ∃(ds rs:List Pc) (m q:Nat),k=N-m/\σ=[some (.ref p),some (.int (2^m*(q:Int))),some (.int (2^m))]/\Same H H'/\Lie N ps ds rs m q/\MgTo ps ds rs m q ds' rs' m' q'
include T in
theorem Rs (S:Src K mg "grown_together" Ei) :Defx P w K mg base "grown_together" 1 ["pieces","at","long"] (YY):=by
 refine S.okx Q8 JJ (fun vs H Q E h=>by revert h;walk_at "len") (fun f cdv A outer s H vs Q E hr h=>?_);refine⟨_,PSs.nox (Ac (Jc PassesOwn.never (AB (op_inP hr.units) (BY (Aa (Am Wf (pv 1) (pv 2)) (Aa (pv 2) (Aa Bt Ab)))) (pv 0) rfl) (Ac (At (i:=1) Q8.nd rfl (Or.inl rfl) (Bm (Wj rfl) (by rfl) T.n_min PyProof.Rows.boot_min (Aa (pv 1) (Aa (Am Wf (pv 1) (pv 2)) Ab)))) (Ae (At (i:=2) Q8.nd rfl (Or.inl rfl) (Am Ds (pv 2) Ad))))) (Ae (Au (BY (Aa (pv 1) (Aa (pv 2) Ab)))))),?_⟩;obtain⟨p,us,ps,ds,rs,ds',rs',N,m,q,m',q',rfl,hp,pa,hN,L,G,Q1⟩:=h;walk_at "go";refine⟨GtW p N ps ds' rs' m' q' H,⟨_,ds,rs,m,q,rfl,rfl,Same.refl _,L,G⟩,?_⟩;rintro k σ H1 ⟨ds,rs,m,q,rfl,rfl,s1,L,G⟩;obtain⟨m9,q9,a0,a1⟩:=kG hN L.le L.c2;have p1:=pw1 m;have p2:=pw2 m;have ex:=eH m m9 q q9;walk_at "go";rw[ex];intro t ht;have s2:=s1.put (o:=.tup [.int (bud m q),.int (2^m),.bl false]) (s1.free ht);have ht2:upd H1 t (.tup [.int (bud m q),.int (2^m),.bl false]) t=some (.tup [.int (bud m q),.int (2^m),.bl false]):=upd_same;generalize upd H1 t (.tup [.int (bud m q),.int (2^m),.bl false])=H2 at s2 ht2 ⊢;walk_at "go";refine⟨t,p,us,ps,⟨bud m q,2^m,false⟩,rfl,rfl,ht2,s2 p _ hp,pa.same s2,?_⟩;rw[in_iff];by_cases hin:(⟨bud m q,2^m,false⟩:Pc)∈ps
 . rw[decide_eq_true hin];walk_at "go";refine⟨fun σ' H''=>∃k',k'<N-m/\GtW p N ps ds' rs' m' q' H k' σ' H'',fun σ' H'' hw=>hw,?_⟩;have emul:(2:Int)^m*2=2^(m+1):=by rw[p2];omega
   cases G with
   | stop hno=>exact absurd hin hno
   | right hq hb G1 =>
     obtain⟨rs1,e,L1⟩:=L.right hq hb;have er:=(List.cons.inj e).2;subst er;have ea:=Xs (m:=m) hq;have eb:bud m q=2^m*(q:Int)+2^m:=by unfold bud;rw[if_pos hq]
     walk_at "go";rw[ex,if_neg (by omega)];walk_at "go";rw[emul];exact⟨_,by have:=L1.le;omega,ds,_,m+1,q/2,rfl,by rw[ea],s2,L1,G1⟩
   | left hq hb G1 =>
     obtain⟨ds1,e,L1⟩:=L.left hq hb;have er:=(List.append_inj' e rfl).1;subst er;have ea:=Xt (m:=m) hq;have eb:bud m q=2^m*(q:Int)-2^m:=by unfold bud;rw[if_neg (by omega)]
     walk_at "go";rw[ex,if_pos (by omega)];walk_at "go";rw[emul];exact⟨_,by have:=L1.le;omega,_,rs,m+1,q/2,rfl,by rw[ea,<-eb],s2,L1,G1⟩
 . rw[decide_eq_false hin];walk_at "go";cases G with
   | stop hno =>
     intro w hw;exact Q1 w _ (s2.trans (Same.new hw)) upd_same
   | right hq hb G1=>exact absurd hb hin
   | left hq hb G1=>exact absurd hb hin
theorem kH {N m q:Nat}{ds rs:List Pc}{v:Bool}(hm:m<=N)(c:Ag 0 (ds++⟨2^m*(q:Int),2^m,v⟩::rs) (2^N)):Lie N (ds++⟨2^m*(q:Int),2^m,v⟩::rs) ds rs m q:=by
 obtain⟨k,c1,c2⟩:=NS c;obtain⟨ea,_,_,c3⟩:=c2;have ea:2^m*(q:Int)=k:=ea;have c3:Ag (k+2^m) rs (2^N):=c3;have p1:=pw1 m;refine⟨hm,by rw[ea];exact c1,by rw[ea];exact c3,fun z hz=>?_⟩;constructor
 . intro h;rcases List.mem_append.mp h with g | g
   . exact .inl g
   . rcases List.mem_cons.mp g with e | e
     . rw[e] at hz;have hz:2^m*(q:Int)+2^m<=2^m*(q:Int)\/2^m*(q:Int)+2^m<=2^m*(q:Int):=hz;omega
     . exact .inr e
 . rintro(g | g)
   . exact List.mem_append_left _ g
   . exact List.mem_append_right _ (List.mem_cons_of_mem _ g)
theorem kJ {N m q m' q':Nat}{cs:List Int}{ps ds rs ds' rs':List Pc}(hl:(cs.length:Int)=2^N)(mk:Ao cs ps)(al:∀z∈ps,Al z)(hin:∀y,y∈ds\/y∈rs->y∈ps)(L:Lie N ps ds rs m q)(G:MgTo ps ds rs m q ds' rs' m' q') :
   0<=(2:Int)^m'*(q':Int)/\(2:Int)^m'*(q':Int)+2^m'<=cs.length/\Ag 0 (ds'++⟨2^m'*(q':Int),2^m',false⟩::rs') (2^N)/\Ao (AM cs (2^m'*(q':Int)) (2^m') false) (ds'++⟨2^m'*(q':Int),2^m',false⟩::rs')/\∀z∈ds'++(⟨2^m'*(q':Int),2^m',false⟩::rs':List Pc),Al z:=by
 have L':=G.lie L;obtain⟨_,_,_,f4⟩:=G.facts;have p1:=pw1 m';have l1:=L'.c1.le;have l2:=L'.c2.le;refine⟨by omega,by omega,L'.c1.app ⟨rfl,p1,(fun h=>by cases h),L'.c2⟩,Ao.lay (by omega) p1 (by omega) (L'.c1.endBy (Int.le_refl 0)) L'.c2.fromOn (mk.sub fun p hp=>?_),fun z hz=>?_⟩
 . rcases List.mem_append.mp hp with g | g
   . exact hin p (f4 p (.inl g))
   . exact hin p (f4 p (.inr g))
 . rcases List.mem_append.mp hz with g | g
   . exact al z (hin z (f4 z (.inl g)))
   . rcases List.mem_cons.mp g with e | e
     . rw[e];exact⟨m',q',rfl,rfl⟩
     . exact al z (hin z (f4 z (.inr e)))
variable (Ey:Defx P w K mg base "grown_together" 1 ["pieces","at","long"] (YY))
include T As AR AD D_lay A5 Ey in
theorem K1 {f₀:Addr}{fd₀:FuncData}(F:Fun K "give" "Halves.give" Pq f₀ fd₀)(M:Meth K Y6 "give" f₀):Methx P w K mg base Y6 "give" 8 ["self","place"] [] (IA (cF Ah Ai Af Aj Y6 Y4 Ak) Y9 W7.half):=by
 refine⟨⟨f₀,fd₀,[],Bb F Rc (fun vs H Q E h=>by revert h;walk_at "len") (fun cdv A outer s H vs Q E hr h=>?_),M,F.binds Hr,.nil⟩,T.J0⟩;refine⟨_,(Ac (Cm (Ar Ey hr (by rfl) (Aa (DH AR B0 hr (pv 0)) (Aa (Am A9 (pv 1) Ad) (Aa (Am AN (Do A5 B8 hr (pv 0) (Aa (pv 1) Ab)) (D5 (v:=.int 2) (by rfl) T.FF ⟨_,rfl⟩)) Ab)))) (Dr rfl (AF (Ay (i:=2) Rc.nd rfl (Or.inl rfl)) (AF (Ay (i:=3) Rc.nd rfl (Or.inl rfl)) BU)))) (Ae (Bl (Do D_lay B8 hr (pv 0) (Aa (Ar As hr (by rfl) (Aa (DH AD B0 hr (pv 0)) (Aa (pv 2) (Aa (pv 3) (Aa Bt Ab))))) Ab))))),?_⟩;obtain⟨x,dx,a,q3,cs,z,rfl,hi,S,hzm,hv,qE,qQ⟩:=h;cases q3 with
 | shel _ _=>cases hi
 | row _ _=>cases hi
 | st i0 _ _ _ =>
   have hi0:W7.half=i0:=hi;subst hi0;exact(show False from S.ok.1).elim
 | half N ps =>
 have hx:H x=some (.ins ((cF Ah Ai Af Aj Y6 Y4 Ak) W7.half) dx (fsF W7.half a (2^N))):=S.hx;have ha:=S.ha;have hl:(cs.length:Int)=2^N:=S.hl;obtain⟨hN,hc,al⟩:=id S.ok;have mk:Ao cs ps:=S.mm;have hzm:z∈ps:=hzm;have cl:=T.J0;have na:=T.Rj;have hz:=S.hz;have hw:=BB S.ch mk;obtain⟨m,q,em,ea⟩:=al z hzm;obtain⟨i0,hi0⟩:=List.getElem?_of_mem hzm;obtain⟨ds,rs,eps,_,_,_⟩:=Cu hc hi0;obtain⟨_,_,_,z4⟩:=hc.mem z hzm;obtain⟨za,zl,zv⟩:=z;have em:zl=2^m:=em;have ea:za=2^m*(q:Int):=ea;have hv:zv=true:=hv;subst em ea hv;have q0:(0:Int)<=2^m*(q:Int):=(hc.mem _ hzm).1;have hm:m<=N:=QY (by have z4:(2:Int)^m*(q:Int)+2^m<=2^N:=z4;omega);have L:Lie N ps ds rs m q:=by
   have:=kH (v:=true) hm (by rw[<-eps];exact hc);rw[<-eps] at this;exact this
 obtain⟨ds',rs',m',q',G,_⟩:=MgTo.ex (N-m) (Nat.le_refl _) L;have GV:=kE hc eps L G;obtain⟨g0,g1,g2,g3,g4⟩:=kJ hl mk al (fun y hy=>by
   rw[eps];rcases hy with g | g
   . exact List.mem_append_left _ g
   . exact List.mem_append_right _ (List.mem_cons_of_mem _ g)) L G
 have p1:=pw1 m';walk_at "go";refine⟨2^N,x,dx,a,cs,ps,rfl,⟨hx,ha,hz,by rw[hl];exact hc,mk⟩,fun lp us H1 nlp s1 hlp pa=>?_⟩;have S1:=S.same s1;have hx1:H1 x=some (.ins ((cF Ah Ai Af Aj Y6 Y4 Ak) W7.half) dx (fsF W7.half a (2^N))):=S1.hx;have ha1:=S1.ha;walk_at "go";refine⟨x,dx,a,.half N ps,cs,⟨2^m*(q:Int),2^m,true⟩,rfl,rfl,S1,hzm,rfl,fun H2 s2=>?_⟩;have hx2:=s2 x _ hx1;have ha2:=s2 a _ ha1;walk_at "go";refine⟨lp,us,ps,ds,rs,ds',rs',N,m,q,m',q',by rw[show (2:Int)^m*(q:Int)+1-1=2^m*(q:Int) by omega,show (2:Int)^m-2+2=2^m by omega],s2 lp _ hlp,pa.same s2,hN,L,G,fun t H3 s3 ht=>?_⟩;have hx3:=s3 x _ hx2;have ha3:=s3 a _ ha2;generalize ea:(2:Int)^m'*(q':Int)=at0 at *;generalize el:(2:Int)^m'=lo at *;walk_at "go";refine⟨2^N,x,dx,a,cs,rfl,hx3,ha3,fun p H4 np s4 hp=>?_⟩;have hx4:=s4 x _ hx3;have ha4:=s4 a _ ha3;walk_at "go";refine⟨p,cs,at0,lo,false,rfl,SqL.of hp,by omega,g0,p1,g1,fun p5 H5 np5 s5 hp5=>?_⟩;have hl5:(AM cs at0 lo false).length=cs.length:=Cf _ _ _ _;have hw5:=BB (by rw[hl5,hl];exact g2) g3;walk_at "go";refine⟨2^N,x,p5,dx,a,cs,_,_,rfl,s5 x _ hx4,s5 a _ ha4,hl5,SqL.of hp5,by omega,by rw[hl5,hl];exact g2,hw5,fun a' H6 na6 k6 hx6 ha6=>?_⟩;walk_at "go";have s15:=(((s1.trans s2).trans s3).trans s4).trans s5;exact qQ _ a' _ H6 GV (s15.free na6) ((Az.of s15).trans k6) hl5 ⟨hx6,ha6,by rw[hl5];exact hl,by omega,⟨hN,g2,g4⟩,g3⟩
def HvW (H1:Hp)(B s:Int)(ps:List Pc)(D:Addr)(i:Nat)(ys:List V)(H2:Hp):Prop:=Same H1 H2/\H2 D=some (.lst ys)/\H1 D=none/\ys.length<=i/\∃bs:List Bool,ys=bs.map V.bl/\bs.any id=(ps.take i).any fun z=>decide (z.a-z.a%s=B)&&z.v
def YZ (K:PySem.W.Frag):Sp:=fun vs H Q _=>∃(c:Addr) (cs:List Int) (ps:List Pc) (b s:Int),vs=[.ref c,.int b,.int s]/\SqL K H c (cs.map V.int)/\cs.length<=4000/\AO cs 0=(ps,none)/\ps.length<=4000/\1<=s/\∀(H':Hp),Same H H'->Q (.bl (ps.any fun z=>decide (z.a-z.a%s=b)&&z.v)) H'
include T Ap A4 in
theorem K2 (S:Src K mg "has_live" OT):Defx P w K mg base "has_live" 5 ["cells","begin","shelf"] (YZ K):=by
 refine S.okx GR GS (fun vs H Q E h=>by revert h;walk_at "len") (fun f cdv A outer s H vs Q E hr h=>?_);refine⟨_,PSs.nox (Ae (Au (Bm (dE rfl) (by rfl) T.n_any PyProof.Rows.boot_any (Aa (DW ["at","long","live"] ["begin","shelf"] [1,2] rfl (BV (Ar Ap hr (by rfl) (Aa (pv 0) Ab))) (fun cl C s₀ H₀ ex=>(DF (K:=K) (n:=3) rfl rfl (AF (Ay (i:=0) (show ((["at","long","live"]:List Str)++(["begin","shelf"]:List Str)).Nodup by decide +kernel) rfl (Or.inl rfl)) (AF (Ay (i:=1) (show ((["at","long","live"]:List Str)++(["begin","shelf"]:List Str)).Nodup by decide +kernel) rfl (Or.inl rfl)) (AF (Ay (i:=2) (show ((["at","long","live"]:List Str)++(["begin","shelf"]:List Str)).Nodup by decide +kernel) rfl (Or.inl rfl)) BU))))) (fun cl C s₀ H₀ ex=>(DU (AB BA (Ar A4 hr (by rfl) (Aa (pv 0) (Aa (pv 4) Ab))) (pv 3) (Aw _)))) (fun cl C s₀ H₀ ex=>(pv 2)) (QA rfl rfl rfl rfl rfl rfl) (QB (n:="begin") (m:="shelf") (by decide +kernel) rfl rfl) (fun y h=>Co (by decide +kernel) h)) Ab)))),?_⟩;obtain⟨c,cs,ps,b,s,rfl,hS,hz,hw,hpz,hs,q⟩:=h;walk_at "go";refine⟨c,cs,rfl,hS,hz,(fun c hc=>by rw[hw] at hc;cases hc),fun _ lp us H1 nlp s1 hlp pa=>?_⟩;have pa:AA H1 us ps:=by rw[hw] at pa;exact pa
 have hul:=pa.1;walk_at "go";refine⟨lp,rfl,⟨_,SqL.of hlp⟩,Cv (K:=K) (a:=lp) (xs:=us) (HvW H1 b s ps) (fun D hD=>⟨Same.new hD,upd_same,hD,Nat.le_refl _,[],rfl,rfl⟩) (fun D i ys H2 _ h=>SqL.of (h.1 lp _ hlp)) ?_ ?_⟩
 . rintro D i y ys H2 hD hi ⟨s2,hD2,_,hyl,bs,ey,eb⟩ τ hτ;have hil:i<us.length:=(List.getElem?_eq_some_iff.mp hi).1;have hip:i<ps.length:=by omega
   obtain⟨t,et,hT⟩:=pa.2 i ps[i] (by simp [hip]);have ey2:y = .ref t:=Option.some.inj (hi.symm.trans et);subst ey2;have hT2:=s2 t _ hT;have etk:ps.take (i+1)=ps.take i++[ps[i]]:=by rw[List.take_add_one,List.getElem?_eq_getElem hip];rfl
   generalize ps[i]=z at hT2 etk
   match τ,hτ with
   | [τ0,τ1,τ2],_ =>
     walk_at "go";refine⟨⟨[_,_,_],rfl,rfl⟩,?_⟩;walk_at "go";refine⟨z.a,s,rfl,hs,?_⟩;walk_at "go";refine AK (fun hl=>?_) (fun hl=>?_)
     . walk_at "go";refine⟨hD2,small4000 (by omega),A2 hil ⟨s2.put hD,upd_same,hD,by rw[List.length_append,List.length_singleton];omega,bs++[z.v],by rw[ey,List.map_append];rfl,?_⟩⟩;rw[etk,List.any_append,List.any_append,eb,List.any_cons,List.any_nil,List.any_cons,List.any_nil,decide_eq_true hl];simp
     . walk_at "go";refine A2 hil ⟨s2,hD2,hD,by omega,bs,ey,?_⟩;rw[etk,List.any_append,eb,List.any_cons,List.any_nil,decide_eq_false hl];simp
 . rintro D ys H2 hD ⟨s2,hD2,_,hyl,bs,ey,eb⟩;subst ey;rw[List.take_of_length_le (by omega)] at eb;walk_at "go";refine⟨D,bs,rfl,hD2,?_⟩;rw[eb];walk_at "go";exact q _ (s1.trans s2)
variable (Dc:Defx P w K mg base "has_live" 5 ["cells","begin","shelf"] (YZ K))
include T As AD D_lay A4 A5 Dc in
theorem K4 {f₀:Addr}{fd₀:FuncData}(F:Fun K "give" "Shelves.give" Pr f₀ fd₀)(M:Meth K Y4 "give" f₀):Methx P w K mg base Y4 "give" 8 ["self","place"] [] (IA (cF Ah Ai Af Aj Y6 Y4 Ak) Y9 W7.shel):=by
 refine⟨⟨f₀,fd₀,[],Bb F Ps (fun vs H Q E h=>by revert h;walk_at "len") (fun cdv A outer s H vs Q E hr h=>?_),M,F.binds iR,.nil⟩,T.Iw⟩;refine⟨_,(Ac (At (i:=2) Ps.nd rfl (Or.inl rfl) (Ar As hr (by rfl) (Aa (DH AD B0 hr (pv 0)) (Aa (Am A9 (pv 1) Ad) (Aa (Am AN (Do A5 B8 hr (pv 0) (Aa (pv 1) Ab)) (D5 (v:=.int 2) (by rfl) T.FF ⟨_,rfl⟩)) (Aa Bt Ab)))))) (Ac (At (i:=3) Ps.nd rfl (Or.inl rfl) (Ar A4 hr (by rfl) (Aa (Am A9 (pv 1) Ad) (Aa (Ce (pv 0) rfl) Ab)))) (Ac (AG (B6 (D6 (Ar Dc hr (by rfl) (Aa (pv 2) (Aa (pv 3) (Aa (Ce (pv 0) rfl) Ab)))))) (Ae (At (i:=2) Ps.nd rfl (Or.inl rfl) (Ar As hr (by rfl) (Aa (pv 2) (Aa (pv 3) (Aa (Ce (pv 0) rfl) (Aa Bt Ab))))))) AI) (Ae (Bl (Do D_lay B8 hr (pv 0) (Aa (pv 2) Ab))))))),?_⟩;obtain⟨x,dx,a,q3,cs,z,rfl,hi,S,hzm,hv,qE,qQ⟩:=h;cases q3 with
 | half _ _=>cases hi
 | row _ _=>cases hi
 | st i0 _ _ _ =>
   have hi0:W7.shel=i0:=hi;subst hi0;exact(show False from S.ok.1).elim
 | shel s fs =>
 have hx:H x=some (.ins ((cF Ah Ai Af Aj Y6 Y4 Ak) W7.shel) dx (fsF W7.shel a s)):=S.hx;have ha:=S.ha;have hl:(cs.length:Int)=s*(fs.length:Int):=S.hl;have hz:=S.hz;obtain⟨hs,hf1,ok⟩:=id S.ok;have mk:Ao cs (alP s 0 fs):=S.mm;have hzm:z∈alP s 0 fs:=hzm;have cl:=T.Iw;have na:=T.Pz;have nb:=T.Rk;have ch:=S.ch;have hw:=BB ch mk;have W:∀f∈fs,SfW s f:=fun f hf=>(ok f hf).1;obtain⟨j,i,n,b,hj,hi,rfl⟩:=Ii hzm hv;have GV:=kF hs ok hj hi hzm;have q:∀(a':Addr) (cs':List Int) (H':Hp),H a'=none->Az x H H'->cs'.length=cs.length->KS (cF Ah Ai Af Aj Y6 Y4 Ak) x dx a' (.shel s (giv fs j i n b)) cs' H'->Q .non H':=fun a' cs' H'=>qQ _ a' cs' H' GV;clear qE qQ GV;have hib:i<b.length:=(List.getElem?_eq_some_iff.mp hi).1;obtain⟨g0,g3,g4,gm,mk3⟩:=Xv (v:=false) hs W hj hi hl mk;obtain⟨w0,w4,_⟩:=Xw hs W hj hl mk;have hfl:=(XH hs W hj hi).2.2.1;generalize eat:s*(j:Int)+n*(i:Int)=at0 at g0 g4 gm mk3 hfl ⊢;walk_at "go";refine⟨s,x,dx,a,cs,rfl,hx,ha,fun p H1 np s1 hp=>?_⟩;have hx1:=s1 x _ hx;have ha1:=s1 a _ ha;walk_at "go";refine⟨x,dx,a,.shel s fs,cs,⟨at0,n,true⟩,rfl,rfl,S.same s1,gm,rfl,fun H2 s2=>?_⟩;have hx2:=s2 x _ hx1;have ha2:=s2 a _ ha1;have hp2:=s2 p _ hp;walk_at "go";refine⟨p,cs,at0+1-1,n-2+2,false,rfl,SqL.of hp2,by omega,by omega,by omega,by omega,fun p3 H3 np3 s3 hp3=>?_⟩;rw[show at0+1-1=at0 by omega,show n-2+2=n by omega] at hp3;have hx3:=s3 x _ hx2;have ha3:=s3 a _ ha2;walk_at "go";refine⟨at0+1-1,s,rfl,hs,?_⟩;rw[show at0+1-1=at0 by omega,hfl];walk_at "go";have hl3:(AM cs at0 n false).length=cs.length:=Cf _ _ _ _;have hl4:((AM cs at0 n false).length:Int)=s*((fs.set j ⟨n,b.set i false⟩).length:Int):=by rw[hl3,List.length_set];exact hl
 have W3:∀f∈fs.set j ⟨n,b.set i false⟩,SfW s f:=W_set W (N2 (W _ (List.mem_of_getElem? hj)) hib);have ch3:=Iy hs W3 hl4;have hw3:=BB ch3 mk3;have hle3:=ch3.le;have hj3:(fs.set j ⟨n,b.set i false⟩)[j]?=some ⟨n,b.set i false⟩:=List.getElem?_set_self (List.getElem?_eq_some_iff.mp hj).1;have hany:=fB hs W3 hj3;have gok:=XE ok hj hib;have glen:=XD fs j i n b;refine⟨p3,_,_,s*(j:Int),s,rfl,SqL.of hp3,by omega,hw3,by omega,hs,fun H4 s4=>?_⟩;rw[hany];have hp4:=s4 p3 _ hp3;have hx4:=s4 x _ hx3;have ha4:=s4 a _ ha3;have s14:=((s1.trans s2).trans s3).trans s4;cases hb:(b.set i false).any id with
 | true =>
   have eg:giv fs j i n b=fs.set j ⟨n,b.set i false⟩:=by unfold giv;rw[if_pos hb]
   rw[eg] at gok q;walk_at "go";refine⟨s,x,p3,dx,a,cs,_,_,rfl,hx4,ha4,hl3,SqL.of hp4,by omega,ch3,hw3,fun a' H6 na6 k6 hx6 ha6=>?_⟩;walk_at "go";exact q a' _ H6 (s14.free na6) ((Az.of s14).trans k6) hl3 ⟨hx6,ha6,hl4,by omega,⟨hs,by rw[List.length_set];exact hf1,gok⟩,mk3⟩
 | false =>
   have eg:giv fs j i n b=fs.set j ⟨0,[]⟩:=by unfold giv;rw[if_neg (by rw[hb];exact Bool.false_ne_true)]
   rw[eg] at gok q;obtain⟨_,w5,mk5⟩:=Xw hs W3 hj3 hl4 mk3;rw[List.set_set] at mk5;walk_at "go";refine⟨p3,_,s*(j:Int),s,false,rfl,SqL.of hp4,by omega,w0,hs,w5,fun p5 H5 np5 s5 hp5=>?_⟩;have hl5:(AM (AM cs at0 n false) (s*(j:Int)) s false).length=cs.length:=by rw[Cf];exact hl3
   have hl6:((AM (AM cs at0 n false) (s*(j:Int)) s false).length:Int)=s*((fs.set j ⟨0,[]⟩).length:Int):=by rw[hl5,List.length_set];exact hl
   have ch5:=Iy hs (fun f hf=>(gok f hf).1) hl6;have hw5:=BB ch5 mk5;have hx5:=s5 x _ hx4;have ha5:=s5 a _ ha4;walk_at "go";refine⟨s,x,p5,dx,a,cs,_,_,rfl,hx5,ha5,hl5,SqL.of hp5,by omega,ch5,hw5,fun a' H6 na6 k6 hx6 ha6=>?_⟩;walk_at "go";have s15:=s14.trans s5;exact q a' _ H6 (s15.free na6) ((Az.of s15).trans k6) hl5 ⟨hx6,ha6,hl6,by omega,⟨hs,by rw[List.length_set];exact hf1,gok⟩,mk5⟩
theorem Za {n:Int}(h:1<=n):Ag 0 [⟨0,n,false⟩] n:=⟨rfl,h,(fun h=>by cases h),by show (0:Int)+n=n;omega⟩
def Cg:W7->Str
 | .first=>"first"
 | .best=>"best"
 | .next=>"next"
 | .likes=>"likes"
 | .half=>"halves"
 | .shel=>"shelves"
 | .row=>"row"
def gdF (n s:Int):W7->Prop
 | .half=>Dy n=true
 | .shel=>1<=n/\1<=s/\n%s=0
 | _=>1<=n
inductive Fr7 (n s:Int):W7->St7->Prop
 | st {i:W7}:ok4 i->Fr7 n s i (.st i 0 n [⟨0,n,false⟩])
 | half {N:Nat}:N<=8->n=2^N->Fr7 n s .half (.half N [⟨0,2^N,false⟩])
 | shel {m:Nat}:1<=m->1<=s->n=s*(m:Int)->Fr7 n s .shel (.shel s (List.replicate m ⟨0,[]⟩))
 | row:1<=n->Fr7 n s .row (.row n [])
theorem Rt {n:Int}(h:1<=n):Ag 0 [⟨0,n,false⟩] ((BG n).length:Int)/\Ao (BG n) [⟨0,n,false⟩]:=by
 have hl:=Ew (show 0<=n by omega);refine⟨⟨rfl,h,(fun h=>by cases h),?_⟩,fun p hp=>?_⟩
 . show (0:Int)+n=_;rw[hl];omega
 . rw[List.mem_singleton.mp hp];unfold BG at hl ⊢;rw[Cf] at hl;exact⟨Qn (Int.le_refl 0) h (by omega),Qo (Int.le_refl 0) h (by omega)⟩
theorem PL {C:W7->Addr}{i:W7}{x dx a:Addr}{n:Int}{H H1 H2:Hp}(h4:ok4 i)(n1:1<=n)(n2:n<=1200)(nx:H x=none)(s:Same H H1)(k:Az x H1 H2)(hx:H2 x=some (.ins (C i) dx (fsF i a 0)))(ha:H2 a=some (.lst ((BG n).map V.int))):Same H H2/\KS C x dx a (.st i 0 n [⟨0,n,false⟩]) (BG n) H2:=by
 have fl:=Ew (show 0<=n by omega);obtain⟨f1,f2⟩:=Rt n1;exact⟨fun b o h=>k b o (fun e=>by rw[e,nx] at h;cases h) (s b o h),⟨hx,ha,fl,by omega,⟨h4,Za n1,cJ _⟩,f2⟩⟩
def spOf (C:W7->Addr)(CN CS:Addr):Sp:=fun vs H Q E=>∃(wd:Str) (n:Int),vs=[.str wd,.int n]/\n<=1200/\((∀i,ok4 i->wd≠Cg i)->∀H',Same H H'->E (.ref CN) none H')/\(∀i,ok4 i->wd=Cg i->n<1->∀H',Same H H'->E (.ref CS) none H') /\
 (∀i,ok4 i->wd=Cg i->1<=n->∀(x dx a:Addr) (H':Hp),H x=none->H a=none->Same H H'->KS C x dx a (.st i 0 n [⟨0,n,false⟩]) (BG n) H'->Q (.ref x) H')
variable (D_First:Makex P w K mg base "First" Ah 3 ["self","size"] [] (spMk Ah A0))
variable (D_Best:Makex P w K mg base "Best" Ai 3 ["self","size"] [] (spMk Ai A0))
variable (D_Next:Makex P w K mg base "Next" Af 4 ["self","size"] [] (spMkN Af A0))
variable (D_Likes:Makex P w K mg base "Likes" Aj 3 ["self","size"] [] (spMk Aj A0))
include T D_First D_Best D_Next D_Likes in
theorem K5 (S:Src K mg "stretches_of" OY):Defx P w K mg base "stretches_of" 6 ["word","size"] (spOf (cF Ah Ai Af Aj Y6 Y4 Ak) Dp A0):=by
 refine S.okx GX GY (fun vs H Q E h=>by revert h;walk_at "len") (fun f cdv A outer s H vs Q E hr h=>?_);refine⟨_,(Ac (AG (AB BA (pv 0) AY (Aw _)) (Ae (Au (F5 D_First B8 hr (by rfl) (Aa (pv 1) Ab)))) AI) (Ac (AG (AB BA (pv 0) AY (Aw _)) (Ae (Au (F5 D_Best B8 hr (by rfl) (Aa (pv 1) Ab)))) AI) (Ac (AG (AB BA (pv 0) AY (Aw _)) (Ae (Au (F5 D_Next B8 hr (by rfl) (Aa (pv 1) Ab)))) AI) (Ac (AG (AB BA (pv 0) AY (Aw _)) (Ae (Au (F5 D_Likes B8 hr (by rfl) (Aa (pv 1) Ab)))) AI) (Ae (Ch T.jB hr.hd rfl (Aa AY Ab))))))),?_⟩;obtain⟨wd,n,rfl,h4,qn,qs,q⟩:=h;walk_at "go";refine AK (fun h_first=>?_) (fun h_first=>?_)
 . walk_at "go";intro x dx nx ndx nex;have s6:Same H (upd (upd H dx (.own x)) x (.ins Ah dx [])):=(Same.new ndx).put nx;refine⟨x,dx,n,rfl,upd_same,by omega,fun hn=>qs W7.first trivial h_first hn _ s6,fun h1 a H7 na7 k7 hx7 ha7=>⟨rfl,?_⟩⟩;obtain⟨s7,S7⟩:=PL (C:=(cF Ah Ai Af Aj Y6 Y4 Ak)) (i:=W7.first) trivial h1 h4 nx s6 k7 hx7 ha7;walk_at "go";exact q W7.first trivial h_first h1 x dx a H7 nx (s6.free na7) s7 S7
 walk_at "go";refine AK (fun h_best=>?_) (fun h_best=>?_)
 . walk_at "go";intro x dx nx ndx nex;have s6:Same H (upd (upd H dx (.own x)) x (.ins Ai dx [])):=(Same.new ndx).put nx;refine⟨x,dx,n,rfl,upd_same,by omega,fun hn=>qs W7.best trivial h_best hn _ s6,fun h1 a H7 na7 k7 hx7 ha7=>⟨rfl,?_⟩⟩;obtain⟨s7,S7⟩:=PL (C:=(cF Ah Ai Af Aj Y6 Y4 Ak)) (i:=W7.best) trivial h1 h4 nx s6 k7 hx7 ha7;walk_at "go";exact q W7.best trivial h_best h1 x dx a H7 nx (s6.free na7) s7 S7
 walk_at "go";refine AK (fun h_next=>?_) (fun h_next=>?_)
 . walk_at "go";intro x dx nx ndx nex;have s6:Same H (upd (upd H dx (.own x)) x (.ins Af dx [])):=(Same.new ndx).put nx;refine⟨x,dx,n,rfl,upd_same,by omega,fun hn=>qs W7.next trivial h_next hn _ s6,fun h1 a H7 na7 k7 hx7 ha7=>⟨rfl,?_⟩⟩;obtain⟨s7,S7⟩:=PL (C:=(cF Ah Ai Af Aj Y6 Y4 Ak)) (i:=W7.next) trivial h1 h4 nx s6 k7 hx7 ha7;walk_at "go";exact q W7.next trivial h_next h1 x dx a H7 nx (s6.free na7) s7 S7
 walk_at "go";refine AK (fun h_likes=>?_) (fun h_likes=>?_)
 . walk_at "go";intro x dx nx ndx nex;have s6:Same H (upd (upd H dx (.own x)) x (.ins Aj dx [])):=(Same.new ndx).put nx;refine⟨x,dx,n,rfl,upd_same,by omega,fun hn=>qs W7.likes trivial h_likes hn _ s6,fun h1 a H7 na7 k7 hx7 ha7=>⟨rfl,?_⟩⟩;obtain⟨s7,S7⟩:=PL (C:=(cF Ah Ai Af Aj Y6 Y4 Ak)) (i:=W7.likes) trivial h1 h4 nx s6 k7 hx7 ha7;walk_at "go";exact q W7.likes trivial h_likes h1 x dx a H7 nx (s6.free na7) s7 S7
 walk_at "go";refine qn (fun i h4 e=>?_) _ (Same.refl _);cases i
 . exact h_first e
 . exact h_best e
 . exact h_next e
 . exact h_likes e
 . exact(show False from h4).elim
 . exact(show False from h4).elim
 . exact(show False from h4).elim
theorem kK:∀n:Nat,n<401->Dy (n:Int)=true->∃N,N<9/\(n:Int)=2^N:=by decide +kernel
theorem pow_of {n:Int}(h:Dy n=true)(h4:n<=400):∃N:Nat,N<=8/\n=2^N:=by
 have h1:1<=n:=by
   unfold Dy at h;rw[Bool.and_eq_true,decide_eq_true_eq] at h;exact h.1
 have e:((n.toNat:Nat):Int)=n:=by omega
 obtain⟨N,hN,eN⟩:=kK n.toNat (by omega) (by rw[e];exact h);exact⟨N,by omega,by rw[<-e];exact eN⟩
theorem gd4 {n s:Int}{i:W7}(h:ok4 i):gdF n s i↔1<=n:=by
 cases i <;> first | exact Iff.rfl | exact(show False from h).elim
def Zb (C:W7->Addr)(CN CS:Addr):Sp:=fun vs H Q E=>∃(wd:Str) (n s:Int),vs=[.str wd,.int n,.int s]/\n<=400/\s<=4000/\((∀i,wd≠Cg i)->∀H',Same H H'->E (.ref CN) none H')/\(∀i,wd=Cg i->¬gdF n s i->∀H',Same H H'->E (.ref CS) none H') /\
 (∀i,wd=Cg i->gdF n s i->∀(x dx a:Addr) (q:St7) (cs:List Int) (H':Hp),H x=none->H a=none->Same H H'->Fr7 n s i q->KS C x dx a q cs H'->Q (.ref x) H')
variable (D_Halves:Makex P w K mg base "Halves" Y6 4 ["self","size"] [] (spMkH Y6 A0))
variable (D_Shelves:Makex P w K mg base "Shelves" Y4 8 ["self","size","shelf"] [] (spMkS Y4 A0))
variable (D_Row:Makex P w K mg base "Row" Ak 3 ["self","size"] [] (spMk Ak A0))
variable (Dd:Defx P w K mg base "stretches_of" 6 ["word","size"] (spOf (cF Ah Ai Af Aj Y6 Y4 Ak) Dp A0))
include T D_Halves D_Shelves D_Row Dd in
theorem K6 {T₀:Addr}{tk₀:Tok}{tc₀:Value}{td₀:Option Addr}{tn₀:Nat}{ts₀:Array (Option Value)}(S:SrcD K mg "keeper_of" D1 T₀)(LT:K.lookup T₀=some ⟨tc₀,td₀,.seq [.int 8 tk₀].toArray tn₀,ts₀⟩):DefD P w K mg base "keeper_of" 10 ["word","size","shelf"] [.int 8] (Zb (cF Ah Ai Af Aj Y6 Y4 Ak) Dp A0):=by
 refine S.okx LT hU (GZ T₀ _) (G2 T₀ _) (.cons ⟨tk₀,rfl⟩ .nil) (fun vs H Q E h=>by revert h;walk_at "len") (fun f cdv A outer s H vs Q E hr h=>?_);refine⟨_,(Ac (AG (AB BA (pv 0) AY (Aw _)) (Ae (Au (F5 D_Halves B8 hr (by rfl) (Aa (pv 1) Ab)))) AI) (Ac (AG (AB BA (pv 0) AY (Aw _)) (Ae (Au (F5 D_Shelves B8 hr (by rfl) (Aa (pv 1) (Aa (pv 2) Ab))))) AI) (Ac (AG (AB BA (pv 0) AY (Aw _)) (Ae (Au (F5 D_Row B8 hr (by rfl) (Aa (pv 1) Ab)))) AI) (Ae (Au (BC Dd hr (by rfl) (Aa (pv 0) (Aa (pv 1) Ab)))))))),?_⟩;obtain⟨wd,n,s,rfl,h4,h40,qn,qs,q⟩:=h;have sm:∀{x:Addr} {H1 H2:Hp},H x=none->Same H H1->Az x H1 H2->Same H H2:=fun nx s k b o h=>k b o (fun e=>by rw[e,nx] at h;cases h) (s b o h);walk_at "go";refine AK (fun h1=>?_) (fun h1=>?_)
 . walk_at "go";intro x dx nx ndx nex;have s6:Same H (upd (upd H dx (.own x)) x (.ins Y6 dx [])):=(Same.new ndx).put nx;refine⟨x,dx,n,rfl,upd_same,by omega,fun hp=>qs .half h1 (fun g=>by have g:Dy n=true:=g;rw[hp] at g;cases g) _ s6,fun hp a H7 na7 k7 hx7 ha7=>⟨rfl,?_⟩⟩;obtain⟨N,hN,rfl⟩:=pow_of hp h4;have p1:=pw1 N;have fl:=Ew (show 0<=(2:Int)^N by omega);walk_at "go";exact q .half h1 hp x dx a _ _ H7 nx (s6.free na7) (sm nx s6 k7) (.half hN rfl) ⟨hx7,ha7,fl,by omega,⟨hN,Za p1,fun z hz=>by rw[List.mem_singleton.mp hz];exact⟨N,0,rfl,by simp⟩⟩,(Rt p1).2⟩
 walk_at "go";refine AK (fun h2=>?_) (fun h2=>?_)
 . walk_at "go";intro x dx nx ndx nex;have s6:Same H (upd (upd H dx (.own x)) x (.ins Y4 dx [])):=(Same.new ndx).put nx;refine⟨x,dx,n,s,rfl,upd_same,by omega,h40,fun hb=>qs .shel h2 (fun g=>?_) _ s6,fun m s1 m1 ez a H7 na7 k7 hx7 ha7=>⟨rfl,?_⟩⟩
   . obtain⟨g1,g2,g3⟩:=(show 1<=n/\1<=s/\n%s=0 from g)
     omega
   obtain⟨r1,r2,r3⟩:=jV s1 m;have r4:=PD s1 m;have z1:s<=s*(m:Int):=by
     have:=Int.mul_le_mul_of_nonneg_left (show (1:Int)<=(m:Int) by omega) (show 0<=s by omega);omega
   walk_at "go";exact q .shel h2 ⟨by omega,s1,by rw[ez];exact Int.mul_emod_right _ _⟩ x dx a _ _ H7 nx (s6.free na7) (sm nx s6 k7) (.shel m1 s1 ez) ⟨hx7,ha7,r1,by omega,⟨s1,by rw[List.length_replicate];exact m1,r2⟩,r3⟩
 walk_at "go";refine AK (fun h3=>?_) (fun h3=>?_)
 . walk_at "go";intro x dx nx ndx nex;have s6:Same H (upd (upd H dx (.own x)) x (.ins Ak dx [])):=(Same.new ndx).put nx;refine⟨x,dx,n,rfl,upd_same,by omega,fun hn=>qs .row h3 (fun g=>by have g:1<=n:=g;omega) _ s6,fun n1 a H7 na7 k7 hx7 ha7=>⟨rfl,?_⟩⟩;have fl:=Ew (show 0<=n by omega);have e:rwP [] n=[⟨0,n,false⟩]:=by
     rw[N5 (ls:=[]) (show sumI []<n from (by show (0:Int)<n;omega))];show [(⟨0,n-0,false⟩:Pc)]=_;rw[Int.sub_zero]
   walk_at "go";exact q .row h3 n1 x dx a _ _ H7 nx (s6.free na7) (sm nx s6 k7) (.row n1) ⟨hx7,ha7,fl,by omega,⟨n1,(fun l hl=>by cases hl),by show (0:Int)<=n;omega⟩,by show Ao (BG n) (rwP [] n);rw[e];exact(Rt n1).2⟩
 walk_at "go";refine⟨wd,n,rfl,by omega,fun hn H' s'=>qn (fun i e=>?_) H' s',fun i h e hlt H' s'=>qs i e (fun g=>by have:=(gd4 h).mp g;omega) H' s',fun i h e n1 x dx a H' nx na s' S=>q i e ((gd4 h).mpr n1) x dx a _ _ H' nx na s' (.st h) S⟩;cases i
 . exact hn .first trivial e
 . exact hn .best trivial e
 . exact hn .next trivial e
 . exact hn .likes trivial e
 . exact h1 e
 . exact h2 e
 . exact h3 e
def Zc:Sp:=fun vs H Q _=>∃n:Nat,vs=[.int n]/\n<=60/\∀(p:Addr) (us:List V) (H':Hp),H p=none->Same H H'->H' p=some (.lst us)->AA H' us (fitP n)->Q (.ref p) H'
def FmW (H1:Hp)(e:Int)(v:Bool)(D:Addr)(i:Nat)(ys:List V)(H2:Hp):Prop:=Same H1 H2/\H2 D=some (.lst ys)/\AA H2 ys (fitA e v i)
include T in
theorem K7 (S:Src K mg "pieces_up_to" OB) :Defx P w K mg base "pieces_up_to" 1 ["end"] (Zc):=by
 refine S.okx Yc GC (fun vs H Q E h=>by revert h;walk_at "len") (fun f cdv A outer s H vs Q E hr h=>?_);refine⟨_,PSs.nox (Ac (Ib (i:=1) ["at"] ["end"] [0] Yc.nd rfl (Or.inl rfl) rfl (PZ (by rfl) T.n_range (Aa (pv 0) Ab)) (fun cl C s₀ H₀ ex=>(Ay (i:=0) (show ((["at"]:List Str)++(["end"]:List Str)).Nodup by decide +kernel) rfl (Or.inl rfl))) (fun cl C s₀ H₀ ex=>Fz) (fun cl C s₀ H₀ ex=>(BY (Aa (pv 0) (Aa (Am A9 (pv 1) (pv 0)) (Aa Bt Ab))))) (DX rfl rfl rfl) (DY (n:="end") (by decide +kernel) rfl) (fun y h=>Co (by decide +kernel) h)) (Ae (Au (Am aA (pv 1) (DW ["at"] ["end"] [0] rfl (PZ (by rfl) T.n_range (Aa (Am A9 (pv 0) (D5 (v:=.int 2) (by rfl) T.FF ⟨_,rfl⟩)) Ab)) (fun cl C s₀ H₀ ex=>(Ay (i:=0) (show ((["at"]:List Str)++(["end"]:List Str)).Nodup by decide +kernel) rfl (Or.inl rfl))) (fun cl C s₀ H₀ ex=>Fz) (fun cl C s₀ H₀ ex=>(BY (Aa (pv 0) (Aa (Am A9 (pv 1) (pv 0)) (Aa Bt Ab))))) (DX rfl rfl rfl) (DY (n:="end") (by decide +kernel) rfl) (fun y h=>Co (by decide +kernel) h)))))),?_⟩;obtain⟨n,rfl,hn,q⟩:=h;walk_at "go";refine⟨_,rfl,by omega,by omega,QG (fs:=[some (.int n)]) (FmW H n false) (fun D hD=>⟨Same.new hD,upd_same,AA.nil⟩) ?_ ?_⟩
 . rintro D i ys H2 hD hi ⟨s2,hD2,pa⟩ τ hτ;have hyl:=pa.1;rw[Gb] at hyl;rw[Int.zero_add]
   match τ,hτ with
   | [τ0],_ =>
     walk_at "go";refine⟨⟨[_],rfl,rfl⟩,?_⟩;walk_at "go";intro t ht;obtain⟨g1,g2⟩:=AA.push (z:=⟨(i:Int),(n:Int)-i,false⟩) pa hD2 ht;refine⟨look_put ht hD2,small4000 (by omega),A2 hi ⟨(s2.put (s2.free ht)).put hD,upd_same,?_⟩⟩;rw[XV];exact g2
 . rintro D ys H2 hD ⟨s2,hD2,pa⟩;have hyl:=pa.1;rw[Gb] at hyl;walk_at "go";refine⟨_,rfl,by omega,by omega,QG (fs:=[some (.int n)]) (FmW H2 n true) (fun D hD=>⟨Same.new hD,upd_same,AA.nil⟩) ?_ ?_⟩
   . rintro D i ys H2 hD hi ⟨s2,hD2,pa⟩ τ hτ;have hyl:=pa.1;rw[Gb] at hyl;rw[Int.zero_add]
     match τ,hτ with
     | [τ0],_ =>
       walk_at "go";refine⟨⟨[_],rfl,rfl⟩,?_⟩;walk_at "go";intro t ht;obtain⟨g1,g2⟩:=AA.push (z:=⟨(i:Int),(n:Int)-i,true⟩) pa hD2 ht;refine⟨look_put ht hD2,small4000 (by omega),A2 hi ⟨(s2.put (s2.free ht)).put hD,upd_same,?_⟩⟩;rw[XV];exact g2
   . rintro D2 zs H3 hD2' ⟨s3,hD3,pb⟩;have hzl:=pb.1;rw[Gb] at hzl;refine r_cat (s3 D _ hD2) hD3 (Nat.le_of_lt (small1000 (by omega))) (fun p hp=>?_);walk_at "go";have s4:=Same.new (o:=.lst (ys++zs)) hp;refine q p _ _ ((s2.trans s3).free hp) ((s2.trans s3).trans s4) upd_same ?_;unfold fitP;rw[show (n:Int).toNat=n by omega] at pa;rw[show ((n:Int)-2).toNat=n-2 by omega] at pb;exact fW ((pa.same s3).same s4) (pb.same s4)
def Zd (K:PySem.W.Frag):Sp:=fun vs H Q _=>∃(a:Addr) (cs:List Int) (k l:Int) (v:Bool),vs=[.ref a,.int k,.int l,.bl v]/\SqL K H a (cs.map V.int)/\0<=k/\1<=l/\k+l<=cs.length/\cs.length<=60 /\
 ∀(H':Hp),Same H H'->Q (.int (BE cs k l v)) H'
def ChgW (H1:Hp)(es:List Int)(m:Int)(D:Addr)(i:Nat)(ys:List V)(H2:Hp):Prop:=Same H1 H2/\H2 D=some (.lst ys)/\ys=((es.take i).filter fun x=>!decide (x=m)).map V.int
include T AW in
theorem K8 (S:Src K mg "changes_for" OC):Defx P w K mg base "changes_for" 2 ["cells","at","long","live"] (Zd K):=by
 refine S.okx Q7 gT (fun vs H Q E h=>by revert h;walk_at "len") (fun f cdv A outer s H vs Q E hr h=>?_);refine⟨_,PSs.nox (Ac (At (i:=4) Q7.nd rfl (Or.inr rfl) (Ar AW hr (by rfl) (Aa (pv 2) (Aa (pv 3) Ab)))) (Ac (At (i:=5) Q7.nd rfl (Or.inl rfl) (V8 (AB BA (pv 2) Ad (Aw _)) (Dn (Aa (Ax AV (pv 0) (pv 1) (fun _ _=>rfl)) Ab)) (Dn (Aa (Ax AV (pv 0) (pv 1) (fun _ _=>rfl)) (Aa (Ax AV (pv 0) (Am A9 (Am AN (pv 1) (pv 2)) Ad) (fun _ _=>rfl)) Ab))))) (Ae (Au (Bm B7 (by rfl) T.n_len PySem.boot_len (Aa (DW ["number"] ["mark"] [4] rfl (BV (pv 5)) (fun cl C s₀ H₀ ex=>(Ay (i:=0) (show ((["number"]:List Str)++(["mark"]:List Str)).Nodup by decide +kernel) rfl (Or.inl rfl))) (fun cl C s₀ H₀ ex=>(DU (AB D7 (pv 0) (pv 1) (Aw _)))) (fun cl C s₀ H₀ ex=>(pv 0)) (DX rfl rfl rfl) (DY (n:="mark") (by decide +kernel) rfl) (fun y h=>Co (by decide +kernel) h)) Ab)))))),?_⟩;obtain⟨a,cs,k,l,v,rfl,hS,h0,h1,h2,hz,q⟩:=h;walk_at "go";refine⟨l,v,rfl,?_,?_⟩
 . have:l.natAbs<=60:=by omega
   exact Nat.lt_of_le_of_lt this (by decide)
 have em:(l*2+if v=true then 1 else 0)=mkOf l v:=rfl;rw[em];generalize eM:mkOf l v=m;walk_at "ge";refine HX (M:=fun σ' H'=>∃(e:Addr) (es:List Int),Same H H'/\H' e=some (.lst (es.map V.int))/\es.length<=2/\((es.filter fun x=>!decide (x=m)).length:Int)=BE cs k l v/\σ'=[some (.ref a),some (.int k),some (.int l),some (.bl v),some (.int m),some (.ref e)]) ?_ (fun nx hM=>?_)
 . rintro σ' H' ⟨e,es,s2,he,hel,hlk,rfl⟩;walk_at "go";refine⟨e,rfl,⟨_,SqL.of he⟩,Cv (K:=K) (a:=e) (xs:=es.map V.int) (fs:=[some (.int m)]) (ChgW H' es m) (fun D hD=>⟨Same.new hD,upd_same,rfl⟩) (fun D i ys H2 _ h=>SqL.of (h.1 e _ he)) ?_ ?_⟩
   . rintro D i y ys H2 hD hi ⟨s3,hD2,rfl⟩ τ hτ;have hil:i<es.length:=by have:=(List.getElem?_eq_some_iff.mp hi).1;rwa [List.length_map] at this
     have hil2:i<(es.map V.int).length:=by rw[List.length_map];exact hil
     obtain⟨c,ec,rfl⟩:∃c,es[i]?=some c/\y = .int c:=by
       rw[List.getElem?_map] at hi;obtain⟨c,h1,h2⟩:=Option.map_eq_some_iff.mp hi;exact⟨c,h1,h2.symm⟩
     have etk:=take_succ_filter (fun x=>!decide (x=m)) es i c ec
     match τ,hτ with
     | [τ0],_ =>
       walk_at "go";refine⟨⟨[_],rfl,rfl⟩,?_⟩;walk_at "go";refine AK (fun hc=>?_) (fun hc=>?_)
       . refine A2 hil2 ⟨s3,hD2,?_⟩;rw[etk,decide_eq_true hc];simp
       . walk_at "go";have hfl:((es.take i).filter fun x=>!decide (x=m)).length<=2:=by
           have h1:((es.take i).filter fun x=>!decide (x=m)).length<=(es.take i).length:=List.length_filter_le _ _;have h2:(es.take i).length<=es.length:=List.length_take_le' _ _;omega
         refine⟨hD2,small4000 (by rw[List.length_map];omega),A2 hil2 ⟨s3.put hD,upd_same,?_⟩⟩;rw[etk,decide_eq_false hc];simp
   . rintro D ys H2 hD ⟨s3,hD2,rfl⟩;rw[List.length_map,List.take_of_length_le (Nat.le_refl _)] at hD2;walk_at "go";have:=q H2 (s2.trans s3);rw[hlk];exact this
 . walk_at "go";refine AK (fun hl=>?_) (fun hl=>?_)
   . walk_at "go";intro e he;walk_at "go";refine hM _ _ ⟨e,[cs.getD k.toNat 0],Same.new he,upd_same,by simp,?_,rfl⟩;unfold BE;rw[eM,if_pos (show l=1\/cs.getD (k+l-1).toNat 0=m from .inl hl)];generalize cs.getD k.toNat 0=x;by_cases hx:x=m <;> simp [hx]
   . walk_at "go";intro e he;walk_at "go";refine hM _ _ ⟨e,[cs.getD k.toNat 0,cs.getD (k+l-1).toNat 0],Same.new he,upd_same,by simp,?_,rfl⟩;unfold BE;rw[eM];generalize cs.getD k.toNat 0=x;generalize cs.getD (k+l-1).toNat 0=y;by_cases hx:x=m <;> by_cases hy:y=m <;> simp [hx,hy,hl]
def Ze (K:PySem.W.Frag):Sp:=fun vs H Q _=>∃(a:Addr) (cs:List Int),vs=[.ref a]/\SqL K H a (cs.map V.int)/\cs.length<=60 /\
 ∀(p:Addr) (ws:List V) (H':Hp),H p=none->Same H H'->H' p=some (.lst ws)->AZ H' ws ((wayF cs cs.length).map kv)->Q (.ref p) H'
def CwW (a p:Addr)(cs:List Int)(H:Hp)(i:Nat)(σ:L2.St)(H':Hp):Prop:=∃(ws:List V) (x2 x3:Option V),σ=[some (.ref a),some (.ref p),x2,x3]/\Same H H'/\H' p=some (.lst ws)/\AZ H' ws ((wayF cs i).map kv)
def FkW (H1:Hp)(cs:List Int)(W:List K3)(ps:List Pc)(D:Addr)(j:Nat)(ys:List V)(H2:Hp):Prop:=Same H1 H2/\H2 D=some (.lst ys)/\AZ H2 ys (((ps.take j).map (Ik cs W)).map kv)
variable (De:Defx P w K mg base "pieces_up_to" 1 ["end"] (Zc))
variable (Df:Defx P w K mg base "changes_for" 2 ["cells","at","long","live"] (Zd K))
include T De Df in
theorem K9 (S:Src K mg "cheapest_ways" OD):Defx P w K mg base "cheapest_ways" 3 ["cells"] (Ze K):=by
 refine S.okx OE gU (fun vs H Q E h=>by revert h;walk_at "len") (fun f cdv A outer s H vs Q E hr h=>?_);refine⟨_,PSs.nox (Ac (At (i:=1) OE.nd rfl (Or.inr rfl) (Dn (Aa (BY (Aa Ad (Aa Ad (Aa Bt Ab)))) Ab))) (Ac (DS PassesOwn.never rfl (Wc (by rfl) T.n_range (Aa Ad (Aa (Am AN (Bm B7 (by rfl) T.n_len PySem.boot_len (Aa (pv 0) Ab)) Ad) Ab))) (Ay (i:=2) OE.nd rfl (Or.inl rfl)) (Ac (Ib (i:=3) ["at","long","live"] ["cells","ways"] [0,1] OE.nd rfl (Or.inl rfl) rfl (BV (Ar De hr (by rfl) (Aa (pv 2) Ab))) (fun cl C s₀ H₀ ex=>(DF (K:=K) (n:=3) rfl rfl (AF (Ay (i:=0) (show ((["at","long","live"]:List Str)++(["cells","ways"]:List Str)).Nodup by decide +kernel) rfl (Or.inl rfl)) (AF (Ay (i:=1) (show ((["at","long","live"]:List Str)++(["cells","ways"]:List Str)).Nodup by decide +kernel) rfl (Or.inl rfl)) (AF (Ay (i:=2) (show ((["at","long","live"]:List Str)++(["cells","ways"]:List Str)).Nodup by decide +kernel) rfl (Or.inl rfl)) BU))))) (fun cl C s₀ H₀ ex=>Fz) (fun cl C s₀ H₀ ex=>(BY (Aa (Am AN (Ax (Js (K:=K) rfl) (Ax (Ic (K:=K) rfl) (pv 4) (pv 0) (fun _ _=>rfl)) Ad (fun _ _=>rfl)) (Ar Df hr (by rfl) (Aa (pv 3) (Aa (pv 0) (Aa (pv 1) (Aa (pv 2) Ab)))))) (Aa (pv 0) (Aa (pv 2) Ab))))) (QA rfl rfl rfl rfl rfl rfl) (QB (n:="cells") (m:="ways") (by decide +kernel) rfl rfl) (fun y h=>Co (by decide +kernel) h)) (Ae (Bl (F3 PySem.F.plainAttrs_list PySem.F.slot_list_append PySem.F.type_list_append F4 (pv 1) (Aa (Bm (fV rfl hr.units) (by rfl) T.n_min PyProof.Rows.boot_min (Aa (pv 3) Ab)) Ab)))))) (Ae (Au (pv 1))))),?_⟩;obtain⟨a,cs,rfl,hS,hz,q⟩:=h;walk_at "go";intro t0 ht0;walk_at "go";intro p hp1;have hp:H p=none:=(Same.new ht0).free hp1;have s1:Same H (upd (upd H t0 (.tup [.int 0,.int 0,.bl false])) p (.lst [.ref t0])):=(Same.new ht0).put hp;have hT0:upd (upd H t0 (.tup [.int 0,.int 0,.bl false])) p (.lst [.ref t0]) t0=some (.tup [.int 0,.int 0,.bl false]):=look_put hp1 upd_same;have hp0:upd (upd H t0 (.tup [.int 0,.int 0,.bl false])) p (.lst [.ref t0]) p=some (.lst [.ref t0]):=upd_same;generalize upd (upd H t0 (.tup [.int 0,.int 0,.bl false])) p (.lst [.ref t0])=H1 at s1 hT0 hp0 ⊢;have hS1:=s1.seq hS;walk_at "go";refine⟨⟨by omega,by omega,by first | omega | (split <;> omega),by first | omega | (split <;> omega)⟩,Wd (CwW a p cs H) ⟨[.ref t0],none,none,rfl,s1,hp0,Xl (us:=[]) (xs:=[]) AZ.nil hT0⟩ ?_ ?_⟩
 . rintro i σ H2 hi ⟨ws,x2,x3,rfl,s2,hp2,ta⟩;have hil:i<cs.length:=by omega
   have hS2:=s2.seq hS;rw[show (1:Int)+(i:Int)=((i+1:Nat):Int) by omega];walk_at "go";refine⟨i+1,rfl,by omega,fun b us H3 nb s3 hb pa=>?_⟩;have hp3:=s3 p _ hp2;have ta3:=ta.same s3;have hS3:=s3.seq hS2;have hWl:=Ee cs i;have hpos:=XX i;have hwi:wayF cs (i+1)=wayF cs i++[Ga (fitK cs (wayF cs i) (i+1))]:=rfl;have hfk:fitK cs (wayF cs i) (i+1)=(fitP (i+1)).map (Ik cs (wayF cs i)):=rfl;have hmem:∀z∈fitP (i+1),0<=z.a/\1<=z.l/\z.a+z.l=((i+1:Nat):Int)/\(z.v=true->3<=z.l):=fun z h=>JC h;generalize wayF cs i=W at ta ta3 hWl hwi hfk;generalize hfp:fitP (i+1)=ps at pa hpos hfk hmem;have hpl:ps.length<=130:=by
     rw[<-hfp];unfold fitP;rw[List.length_append,Gb,Gb];omega
   have hul:=pa.1;have s23:=s2.trans s3;walk_at "go";refine⟨b,rfl,⟨_,SqL.of hb⟩,Cv (K:=K) (a:=b) (xs:=us) (fs:=[some (.ref a),some (.ref p)]) (FkW H3 cs W ps) (fun D hD=>⟨Same.new hD,upd_same,AZ.nil⟩) (fun D i ys H2 _ h=>SqL.of (h.1 b _ hb)) ?_ ?_⟩
   . rintro D j y ys H4 hD hj ⟨s4,hD4,ya⟩ τ hτ;have hjl:j<us.length:=(List.getElem?_eq_some_iff.mp hj).1;obtain⟨t,z,rfl,hz1,hT⟩:=Xm (pa.same s4) hj;obtain⟨z0,z1,z2,z3⟩:=hmem z (List.mem_of_getElem? hz1);have etk:ps.take (j+1)=ps.take j++[z]:=by rw[List.take_add_one,hz1];rfl
     have hyl:=ya.1;rw[List.length_map,List.length_map,List.length_take] at hyl;obtain⟨tw,xw,e1,e2,hTw⟩:=XT (ta3.same s4) z0 (by rw[List.length_map,hWl];omega);rw[List.getElem?_map] at e2;obtain⟨w,ew,rfl⟩:=Option.map_eq_some_iff.mp e2;have ew2:W.getD z.a.toNat k0=w:=by rw[List.getD_eq_getElem?_getD,ew];rfl
     unfold kv at hTw;have hp4:=s4 p _ hp3;have hS4:=s4.seq hS3
     match τ,hτ with
     | [τ0,τ1,τ2],_ =>
       walk_at "go";refine⟨⟨[_,_,_],rfl,rfl⟩,?_⟩;walk_at "go";refine Dt (SqL.of hp4) e1 ?_;walk_at "go";refine⟨a,cs,z.a,z.l,z.v,rfl,hS4,z0,z1,by omega,hz,fun H5 s5=>?_⟩;have hD5:=s5 D _ hD4;have ya5:=ya.same s5;have s45:=s4.trans s5;walk_at "go";intro t2 ht2;refine⟨look_put ht2 hD5,small4000 (by omega),A2 hjl ⟨(s45.put (s45.free ht2)).put hD,upd_same,?_⟩⟩;rw[etk,List.map_append,List.map_append];have:=ya5.push (z:=[.int (w.1+BE cs z.a z.l z.v),.int z.a,.bl z.v]) hD5 ht2;unfold Ik kv;rw[List.map_singleton,List.map_singleton,ew2];exact this
   . rintro D ys H4 hD ⟨s4,hD4,ya⟩;rw[List.take_of_length_le (by omega),<-hfk] at ya;have hp4:=s4 p _ hp3;have ta4:=ta3.same s4;have hwl:=ta4.1;rw[List.length_map] at hwl;have s24:=s23.trans s4;walk_at "go";refine⟨D,ys,_,rfl,hD4,ya,by rw[hfk,List.length_map];exact hpos,fun t ht=>?_⟩;walk_at "go";refine⟨_,_,_,rfl,s24.put hp,upd_same,?_⟩;rw[hwi,List.map_append];exact Xl (ta4.mono (Ct (.inr ⟨_,hp4⟩))) (Ct (.inr ⟨_,hp4⟩) _ _ ht)
 . rintro σ H2 ⟨ws,x2,x3,rfl,s2,hp2,ta⟩;rw[show ((cs.length:Int)+1-1).toNat=cs.length by omega] at ta;walk_at "go";exact q p ws H2 hp s2 hp2 ta
def Zf (K:PySem.W.Frag):Sp:=fun vs H Q _=>∃(a:Addr) (cs:List Int),vs=[.ref a]/\SqL K H a (cs.map V.int)/\cs.length<=60 /\
 ∀(p:Addr) (H':Hp),H p=none->Same H H'->H' p=some (.lst (((wayF cs cs.length).map (·.1)).map V.int))->Q (.ref p) H'
def PrW (H1:Hp)(W:List K3)(D:Addr)(i:Nat)(ys:List V)(H2:Hp):Prop:=Same H1 H2/\H2 D=some (.lst ys)/\ys=((W.take i).map (·.1)).map V.int
variable (BO:Defx P w K mg base "cheapest_ways" 3 ["cells"] (Ze K))
include T BO in
theorem La (S:Src K mg "prices_of" OF):Defx P w K mg base "prices_of" 4 ["cells"] (Zf K):=by
 refine S.okx GD GE (fun vs H Q E h=>by revert h;walk_at "len") (fun f cdv A outer s H vs Q E hr h=>?_);refine⟨_,PSs.nox (Ae (Au (QC ["price","at","live"] rfl (BV (Ar BO hr (by rfl) (Aa (pv 0) Ab))) (fun cl C s₀ H₀ ex=>(DF (K:=K) (n:=3) rfl rfl (AF (Ay (i:=0) (show ((["price","at","live"]:List Str)++([]:List Str)).Nodup by decide +kernel) rfl (Or.inl rfl)) (AF (Ay (i:=1) (show ((["price","at","live"]:List Str)++([]:List Str)).Nodup by decide +kernel) rfl (Or.inl rfl)) (AF (Ay (i:=2) (show ((["price","at","live"]:List Str)++([]:List Str)).Nodup by decide +kernel) rfl (Or.inl rfl)) BU))))) (fun cl C s₀ H₀ ex=>Fz) (fun cl C s₀ H₀ ex=>(pv 0)) ))),?_⟩;obtain⟨a,cs,rfl,hS,hz,q⟩:=h;walk_at "go";refine⟨a,cs,rfl,hS,hz,fun p ws H1 np s1 hp ta=>?_⟩;have hwl:=ta.1;rw[List.length_map] at hwl;have hWl:=Ee cs cs.length;have q2:=q;generalize wayF cs cs.length=W at ta hwl hWl q2;refine⟨p,rfl,⟨_,SqL.of hp⟩,Cv (K:=K) (a:=p) (xs:=ws) (fs:=[]) (PrW H1 W) (fun D hD=>⟨Same.new hD,upd_same,rfl⟩) (fun D i ys H2 _ h=>SqL.of (h.1 p _ hp)) ?_ ?_⟩
 . rintro D j y ys H4 hD hj ⟨s4,hD4,rfl⟩ τ hτ;have hjl:j<ws.length:=(List.getElem?_eq_some_iff.mp hj).1;obtain⟨t,x,rfl,hx,hT⟩:=dG (ta.same s4) hj;rw[List.getElem?_map] at hx;obtain⟨w,ew,rfl⟩:=Option.map_eq_some_iff.mp hx;unfold kv at hT;have etk:W.take (j+1)=W.take j++[w]:=by rw[List.take_add_one,ew];rfl
   have hyl:(((W.take j).map (·.1)).map V.int).length<=61:=by rw[List.length_map,List.length_map,List.length_take];omega
   match τ,hτ with
   | [τ0,τ1,τ2],_ =>
     walk_at "go";refine⟨⟨[_,_,_],rfl,rfl⟩,?_⟩;walk_at "go";refine⟨hD4,small4000 (by omega),A2 hjl ⟨s4.put hD,upd_same,?_⟩⟩;rw[etk,List.map_append,List.map_append];rfl
 . rintro D ys H4 hD ⟨s4,hD4,rfl⟩;rw[List.take_of_length_le (by omega)] at hD4;walk_at "go";exact q2 D H4 (s1.free hD) (s1.trans s4) hD4
def Zg (K:PySem.W.Frag):Sp:=fun vs H Q _=>∃(a:Addr) (cs:List Int),vs=[.ref a]/\SqL K H a (cs.map V.int)/\cs.length<=60 /\
 ∀(p:Addr) (R:List Int) (H':Hp),H p=none->Same H H'->H' p=some (.lst (R.map V.int))->Mnd cs 0 R->Q (.ref p) H'
def MdW (a w:Addr)(cs:List Int)(H1:Hp)(m:Nat)(σ:L2.St)(H':Hp):Prop :=
 ∃(q:Addr) (R:List Int) (x4 x5 x6:Option V),σ=[some (.ref a),some (.ref w),some (.ref q),some (.int m),x4,x5,x6]/\H1 q=none/\Same H1 H'/\H' q=some (.lst (R.map V.int))/\Mnd cs m R
include T As BO in
theorem Lb (S:Src K mg "mended" OG):Defx P w K mg base "mended" 4 ["cells"] (Zg K):=by
 refine S.okx Eh GF (fun vs H Q E h=>by revert h;walk_at "len") (fun f cdv A outer s H vs Q E hr h=>?_);refine⟨_,PSs.nox (Ac (At (i:=1) Eh.nd rfl (Or.inl rfl) (Ar BO hr (by rfl) (Aa (pv 0) Ab))) (Ac (At (i:=2) Eh.nd rfl (Or.inl rfl) (CC CD (by rfl) T.n_list PyProof.Rows.boot_list (Aa (pv 0) Ab))) (Ac (At (i:=3) Eh.nd rfl (Or.inl rfl) (Bm B7 (by rfl) T.n_len PySem.boot_len (Aa (pv 2) Ab))) (Ac (Jc PassesOwn.never (AB D8 (pv 3) Ad (Aw _)) (Ac (Cm (Ax AV (pv 1) (pv 3) (fun _ _=>rfl)) (Dr rfl (AF (Ay (i:=4) Eh.nd rfl (Or.inl rfl)) (AF (Ay (i:=5) Eh.nd rfl (Or.inl rfl)) (AF (Ay (i:=6) Eh.nd rfl (Or.inl rfl)) BU))))) (Ac (At (i:=2) Eh.nd rfl (Or.inl rfl) (Ar As hr (by rfl) (Aa (pv 2) (Aa (pv 5) (Aa (Am A9 (pv 3) (pv 5)) (Aa (pv 6) Ab)))))) (Ae (At (i:=3) Eh.nd rfl (Or.inl rfl) (pv 5)))))) (Ae (Au (pv 2))))))),?_⟩;obtain⟨a,cs,rfl,hS,hz,q⟩:=h;walk_at "go";refine⟨a,cs,rfl,hS,hz,fun w ws H1 nw s1 hw ta=>?_⟩;have hS1:=s1.seq hS;walk_at "go";intro r hr;have s2:=Same.new (o:=.lst (cs.map V.int)) hr;have hr2:upd H1 r (.lst (cs.map V.int)) r=some (.lst (cs.map V.int)):=upd_same;generalize upd H1 r (.lst (cs.map V.int))=H2 at s2 hr2 ⊢;walk_at "go";refine⟨MdW a w cs H1,⟨cs.length,r,cs,none,none,none,rfl,hr,s2,hr2,Mnd.start cs⟩,?_⟩;rintro m σ H3 ⟨b,R,x4,x5,x6,rfl,nb,s3,hb,M⟩;have hw3:=s3 w _ hw;have ta3:=ta.same s3;have hle:=M.le;have hRl:=M.len;walk_at "go";refine AK (fun hlt=>?_) (fun hlt=>?_)
 . refine⟨fun σ' H''=>∃m',m'<m/\MdW a w cs H1 m' σ' H'',fun σ' H'' hw=>hw,?_⟩;obtain⟨k,n,v,n1,ekn,h3,hwg⟩:=way_at cs (e:=m) (by omega);obtain⟨t,x,e1,e2,hT⟩:=XT ta3 (k:=m) (by omega) (by rw[List.length_map,Ee];omega);rw[Int.toNat_natCast,List.getElem?_map] at e2;obtain⟨y,ey,rfl⟩:=Option.map_eq_some_iff.mp e2;have hy:y=wayG cs m:=by
     have:=JD cs cs.length m hle;rw[List.getD_eq_getElem?_getD,ey] at this;exact this
   rw[hy,hwg] at hT;unfold kv at hT;dsimp only at hT;subst ekn;walk_at "go";refine Dt (SqL.of hw3) e1 ?_;walk_at "go";refine⟨b,R,k,_,v,rfl,SqL.of hb,by omega,by omega,by omega,by omega,fun p H4 np s4 hp=>?_⟩;rw[show ((k+n:Nat):Int)-(k:Int)=n by omega] at hp;walk_at "go";exact⟨k,by omega,p,_,_,_,_,rfl,s3.free np,s3.trans s4,hp,M.step n1 h3 hwg⟩
 . have:m=0:=by omega
   subst this;walk_at "go";exact q b R H3 (s1.free nb) (s1.trans s3) hb M
include T in
theorem Lc (S:Src K mg "_law_cell_at" OZ) :Defx P w K mg base "_law_cell_at" 1 ["_law_script","_law_k"] (Ql K):=by
 refine S.okx G3 G4 (fun vs H Q E h=>by revert h;walk_at "len") (fun f cdv A outer s H vs Q E hr h=>?_);refine⟨_,PSs.nox (Ac (AG (AB Dm (pv 1) (Bm B7 (by rfl) T.n_len PySem.boot_len (Aa (pv 0) Ab)) (Aw _)) (Ae (Au (Ax AV (pv 0) (pv 1) (fun _ _=>rfl)))) AI) (Ae (Au Ad))),?_⟩;obtain⟨a,ns,k,rfl,hS,h0,q⟩:=h;walk_at "go";refine AK (fun hc=>?_) (fun hc=>?_)
 . walk_at "go";exact q
 . walk_at "go";have e:ns.getD k.toNat 0=0:=by
     rw[List.getD_eq_getElem?_getD,List.getElem?_eq_none (by omega)];rfl
   rw[e] at q;exact q
include T in
theorem Ld (S:Src K mg "_law_whole" O0) :Defx P w K mg base "_law_whole" 1 ["_law_found"] (Qm):=by
 refine S.okx hV hW (fun vs H Q E h=>by revert h;walk_at "len") (fun f cdv A outer s H vs Q E hr h=>?_);refine⟨_,PSs.nox (Ae (Au (HQ (Bm P9 (by rfl) T.n_isinstance PyProof.Rows.boot_isinstance (Aa (pv 0) (Aa (PU (v:=.ty "int") (by rfl) T.n_int PyProof.Rows.boot_int rfl) Ab))) (Jb (V7 (Bm P9 (by rfl) T.n_isinstance PyProof.Rows.boot_isinstance (Aa (pv 0) (Aa (PU (v:=.ty "bool") (by rfl) T.n_bool PyProof.Rows.boot_bool rfl) Ab)))))))),?_⟩;obtain⟨n,rfl,q⟩:=h;walk_at "go";exact q
/-! ### k92: cells that tell pieces;the live places in their order -/
theorem Zh {cs:List Int}:∀(n:Nat) (k:Int) {ps:List Pc},0<=k->k<=cs.length->(cs.length-k).toNat<=n->AO cs k=(ps,none)->Ag k ps cs.length/\Ao cs ps
 | n,k,ps,h0,h1,hn,hw=>by
   by_cases h:k<cs.length
   . cases hb:Bp cs k with
     | some b=>rw[Nz h hb] at hw;cases hw
     | none =>
       obtain⟨b1,b2,b3⟩:=Jk hb
       have hl:cs.getD (k+cs.getD k.toNat 0/2-1).toNat 0=cs.getD k.toNat 0:=by
         unfold Bp at hb;rw[if_pos (WC (by unfold Bp;exact hb))] at hb
         split at hb
         . assumption
         . cases hb
       rw[Jm h hb] at hw;have e1:=congrArg Prod.fst hw;have e2:=congrArg Prod.snd hw;dsimp only at e1 e2;cases n with
       | zero=>omega
       | succ n =>
         obtain⟨c,m⟩:=Zh n (k+cs.getD k.toNat 0/2) (ps:=(AO cs (k+cs.getD k.toNat 0/2)).1) (by omega) (by omega) (by omega) (Prod.ext rfl e2);subst e1;have em:(pcAt cs k).mk'=cs.getD k.toNat 0:=by
           show mkOf (cs.getD k.toNat 0/2) (decide (cs.getD k.toNat 0%2=1))=_;unfold mkOf;by_cases g:cs.getD k.toNat 0%2=1
           . rw[decide_eq_true g,if_pos rfl];omega
           . rw[decide_eq_false g,if_neg Bool.false_ne_true];omega
         have get:∀i:Int,0<=i->i<cs.length->cs[i.toNat]?=some (cs.getD i.toNat 0):=fun i i0 i1=>by
           rw[List.getD_eq_getElem?_getD,List.getElem?_eq_getElem (show i.toNat<cs.length by omega)];rfl
         refine⟨⟨rfl,b1,fun h=>b3 (of_decide_eq_true h),c⟩,fun p hp=>?_⟩;rcases List.mem_cons.mp hp with rfl | hp
         . rw[em];exact⟨get k h0 h,by rw[<-hl];exact get (k+cs.getD k.toNat 0/2-1) (by omega) (by omega)⟩
         . exact m p hp
   . rw[Jl h] at hw;cases hw;exact⟨show k=cs.length by omega,Ao.nil _⟩
 termination_by n=>n
def Ca (ps:List Pc):List Int:=(ps.filter (·.v)).map fun z=>z.a+1
theorem Ru {ps:List Pc}{p:Int}:p∈Ca ps↔∃z∈ps,z.v=true/\z.a+1=p:=by
 unfold Ca;constructor
 . intro h;obtain⟨z,hz,e⟩:=List.mem_map.mp h;exact⟨z,(List.mem_filter.mp hz).1,(List.mem_filter.mp hz).2,e⟩
 . rintro⟨z,hz,hv,e⟩;exact List.mem_map.mpr ⟨z,List.mem_filter.mpr ⟨hz,hv⟩,e⟩
theorem PM:∀{ps:List Pc} {s e:Int},Ag s ps e->(Ca ps).Pairwise (·<·)
 | [],_,_,_=>List.Pairwise.nil
 | z::r,s,e,h=>by
   have hz:=h
   obtain⟨ea,h1,h3,c⟩:=h
   have ih:=PM c
   cases hv:z.v with
   | false =>
     have:Ca (z::r)=Ca r:=by unfold Ca;rw[List.filter_cons_of_neg (by rw[hv];exact Bool.false_ne_true)]
     rw[this];exact ih
   | true =>
     have:Ca (z::r)=(z.a+1)::Ca r:=by unfold Ca;rw[List.filter_cons_of_pos hv];rfl
     rw[this]
     refine List.Pairwise.cons (fun p hp=>?_) ih
     obtain⟨y,hy,_,e⟩:=Ru.mp hp
     have:=(c.fromOn y hy)
     omega
theorem Zi {q:St7}{ns:List Int}(h:q.ok)(nd:ns.Nodup)(mm:∀p,p∈ns↔Lv q p):ns.Perm (Ca q.ps) :=
 (List.perm_ext_iff_of_nodup nd ((PM (St7.ch h)).imp fun h=>Int.ne_of_lt h)).mpr fun p=>(mm p).trans Ru.symm
theorem Zj {q:St7}{ns:List Int}(h:q.ok)(nd:ns.Nodup)(mm:∀p,p∈ns↔Lv q p):(ns.length:Int)<=q.n:=by
 have h1:=(Zi h nd mm).length_eq;have h2:(Ca q.ps).length<=q.ps.length:=by unfold Ca;rw[List.length_map];exact List.length_filter_le _ _
 have h3:=(St7.ch h).le;omega
theorem kL {q:St7}{ms ns:List Int}(h:q.ok)(nd:ns.Nodup)(mm:∀p,p∈ns↔Lv q p)(p:ms.Perm ns)(s:ms.Pairwise (·<=·)):Ca q.ps=ms :=
 ((p.trans (Zi h nd mm)).eq_of_pairwise (fun _ _ _ _ h1 h2=>Int.le_antisymm h1 h2) s ((PM (St7.ch h)).imp fun h=>Int.le_of_lt h)).symm
theorem Rv (cs ds:List Int)(a:Nat):∀n,df cs ds a n=df ds cs a n
 | 0=>rfl
 | n+1=>by
   show df cs ds a n+_=df ds cs a n+_
   rw[Rv cs ds a n]
   by_cases h:cs.getD (a+n) 0=ds.getD (a+n) 0
   . rw[if_pos h,if_pos h.symm]
   . rw[if_neg h,if_neg (fun e=>h e.symm)]
include T Ap in
theorem Le (S:Src K mg "first_bad" Om):Defx P w K mg base "first_bad" 5 ["cells"] (WW K):=by
 refine S.okx X5 Gn (fun vs H Q E h=>by revert h;walk_at "len") (fun f cdv A outer s H vs Q E hr h=>?_);refine⟨_,PSs.nox (Ac (WS (WT Ap hr (by rfl) (Aa (pv 0) Ab)) ⟨rfl,rfl⟩ (WR (i:=1) (by rfl) T.Yk X5.nd rfl rfl (fun x=>(Ae (Au (WO PySem.F.attr_ValueError.ga (pv 1))))) NF)) (Ae (Au B5))),?_⟩;obtain⟨a,ns,rfl,hS,hz,q⟩:=h;walk_at "go";refine⟨a,ns,rfl,hS,hz,fun b hb dx H' s1 hd=>⟨_,rfl,fun x hx=>Or.inl ⟨T.Yl,?_⟩⟩,fun hn p us H' hp s1 hp' pa=>?_⟩
 . walk_at "go";refine⟨x,_,dx,_,_,rfl,upd_same,look_put hx hd,T.Ym,T.Re,rfl,?_⟩;walk_at "go";have q1:=q (upd H' x (ExcO x Y5 (some dx))) (s1.put (s1.free hx));rw[hb] at q1;exact q1
 . walk_at "go";have q1:=q H' s1;rw[hn] at q1;exact q1
def Zk (K:PySem.W.Frag):Sp:=fun vs H Q _=>∃(a:Addr) (ns:List Int),vs=[.ref a]/\SqL K H a (ns.map V.int)/\ns.length<=4000 /\
 ∀(t p:Addr) (us:List V) (H':Hp),Same H H'->H' t=some (.tup [.ref p,optV (AO ns 0).2])->H' p=some (.lst us)->AA H' us (AO ns 0).1->Q (.ref t) H'
include T in
theorem Lf (S:Src K mg "_law_walk" O1) :Defx P w K mg base "_law_walk" 1 ["_law_cells"] (Zk K):=by
 refine S.okx Io G5 (fun vs H Q E h=>by revert h;walk_at "len") (fun f cdv A outer s H vs Q E hr h=>?_);refine⟨_,PSs.nox (Ac (At (i:=1) Io.nd rfl (Or.inl rfl) (Dn Ab)) (Ac (At (i:=2) Io.nd rfl (Or.inl rfl) Ad) (Ac (Jc PassesOwn.never (AB Dm (pv 2) (Bm B7 (by rfl) T.n_len PySem.boot_len (Aa (pv 0) Ab)) (Aw _)) (Ac (At (i:=3) Io.nd rfl (Or.inl rfl) (Am Nq (Ax AV (pv 0) (pv 2) (fun _ _=>rfl)) Ad)) (Ac (At (i:=4) Io.nd rfl (Or.inl rfl) (D9 BA (Am Bh (Ax AV (pv 0) (pv 2) (fun _ _=>rfl)) Ad) Ad (Aw _))) (Ac (AG (PW.pt (Cc (AB Dm (pv 3) Ad (Aw _)) (Cc (AB D8 (pv 3) (Am A9 (Bm B7 (by rfl) T.n_len PySem.boot_len (Aa (pv 0) Ab)) (pv 2)) (Aw _)) (Cz (PW.pt (DA (Cd (pv 4) (fun _=>rfl)) (DR (AB Dm (pv 3) Ad (Aw _))))))))) (Ae (Au (BY (Aa (pv 1) (Aa (pv 2) Ab))))) AI) (Ac (AG (AB D7 (Ax AV (pv 0) (Am A9 (Am AN (pv 2) (pv 3)) Ad) (fun _ _=>rfl)) (Ax AV (pv 0) (pv 2) (fun _ _=>rfl)) (Aw _)) (Ae (Au (BY (Aa (pv 1) (Aa (Am A9 (Am AN (pv 2) (pv 3)) Ad) Ab))))) AI) (Ac (Bl (F3 PySem.F.plainAttrs_list PySem.F.slot_list_append PySem.F.type_list_append F4 (pv 1) (Aa (BY (Aa (pv 2) (Aa (pv 3) (Aa (pv 4) Ab)))) Ab))) (Ae (At (i:=2) Io.nd rfl (Or.inl rfl) (Am AN (pv 2) (pv 3)))))))))) (Ae (Au (BY (Aa (pv 1) (Aa B5 Ab)))))))),?_⟩;obtain⟨a,ns,rfl,hS,hz,q⟩:=h;walk_at "go";intro p hp;walk_at "go";refine⟨LkW H a p ns,⟨_,[],[],0,none,none,rfl,rfl,by omega,by omega,by decide,WPre.nil ns,Same.new hp,upd_same,AA.nil⟩,?_⟩;rintro m σ H' ⟨ds,us,k,x,y,rfl,rfl,h0,hkl,hdl,w,s1,hp',pa⟩;have hul:=pa.1;have hS':SqL K H' a (ns.map V.int):=s1.seq hS;walk_at "go";refine AK (fun hlt=>?_) (fun hlt=>?_)
 . refine⟨fun σ' H''=>∃m',m'<(ns.length-k).toNat/\LkW H a p ns m' σ' H'',fun σ' H'' hw=>hw,?_⟩;have bad:∀b,Bp ns k=some b->∀t,H' t=none->Q (.ref t) (upd H' t (.tup [.ref p,.int b])):=fun b hb t ht=>by
     have e:=w.bad hlt hb;exact q t p us _ (s1.put (s1.free ht)) (by rw[e];exact upd_same) (look_put ht hp') (by rw[e];exact pa.mono (Ct (.inl ht)))
   have nobad:BZ ns k=false->∀t,H' t=none->Q (.ref t) (upd H' t (.tup [.ref p,.int k])):=fun hc=>bad k (WD hc);have cf:¬(1<=ns.getD k.toNat 0/2/\k+ns.getD k.toNat 0/2<=ns.length/\(ns.getD k.toNat 0%2=1->3<=ns.getD k.toNat 0/2))->BZ ns k=false:=fun hc=>by
     cases e:BZ ns k with
     | false=>rfl
     | true=>exact absurd ((HV ns k).mp e) hc
   walk_at "gs";refine HX (M:=fun σ' H2=>H'=H2/\BZ ns k=true/\σ'=[some (.ref a),some (.ref p),some (.int k),some (.int (ns.getD k.toNat 0/2)),some (.bl (decide (ns.getD k.toNat 0%2=1)))]) ?_ (fun nx hM=>?_)
   . rintro σ' H2 ⟨rfl,hc,rfl⟩;obtain⟨b1,b2,b3⟩:=(HV ns k).mp hc;walk_at "go";refine AK (fun hd=>?_) (fun hd=>?_)
     . walk_at "go";intro t ht;have hpt:p≠t:=A8 hp' ht;walk_at "go";obtain⟨g1,g2⟩:=AA.push (z:=pcAt ns k) pa hp' ht;dsimp only [pcAt] at g1 g2;refine⟨_,?_,ds++[pcAt ns k],us++[.ref t],k+ns.getD k.toNat 0/2,_,_,rfl,rfl,by omega,by omega,?_,w.step hlt (WF hc hd),(s1.put (s1.free ht)).put hp,g1,g2⟩
       . omega
       . rw[List.length_append,List.length_singleton];omega
     . walk_at "go";intro t ht;walk_at "go";exact bad _ (WE hc hd) t ht
   . walk_at "go";refine AK (fun hc=>?_) (fun hc=>?_)
     . walk_at "go";intro t ht;walk_at "go";exact nobad (cf (by omega)) t ht
     . walk_at "go";refine AK (fun hd=>?_) (fun hd=>?_)
       . walk_at "go";intro t ht;walk_at "go";exact nobad (cf (by omega)) t ht
       . walk_at "go";refine AK (fun hl=>?_) (fun hl=>?_)
         . walk_at "go";refine AK (fun h3=>?_) (fun h3=>?_)
           . walk_at "go";intro t ht;walk_at "go";exact nobad (cf (by omega)) t ht
           . walk_at "go";exact hM _ _ ⟨rfl,(HV ns k).mpr (by omega),rfl⟩
         . walk_at "go";exact hM _ _ ⟨rfl,(HV ns k).mpr (by omega),rfl⟩
 . walk_at "go";intro t ht;walk_at "go";have e:=w.fin hlt;exact q t p us _ (s1.put (s1.free ht)) (by rw[e];exact upd_same) (look_put ht hp') (by rw[e];exact pa.mono (Ct (.inl ht)))
theorem Zl {cs:List Int}:∀(n:Nat) (k:Int),0<=k->(cs.length-k).toNat<=n->∀z∈(AO cs k).1,0<=z.a/\1<=z.l/\z.a+z.l<=cs.length
 | n,k,h0,hn=>by
   by_cases h:k<cs.length
   . cases hb:Bp cs k with
     | some b=>rw[Nz h hb];exact fun z hz=>by cases hz
     | none =>
       obtain⟨b1,b2,_⟩:=Jk hb
       rw[Jm h hb]
       cases n with
       | zero=>omega
       | succ n =>
         have ih:=Zl (cs:=cs) n (k+cs.getD k.toNat 0/2) (by omega) (by omega)
         intro z hz
         rcases List.mem_cons.mp hz with e | e
         . rw[e];exact⟨h0,b1,b2⟩
         . exact ih z e
   . rw[Jl h];exact fun z hz=>by cases hz
 termination_by n=>n
theorem at_in {a l B n:Int}(h0:0<=a)(h1:1<=l)(h2:a+l<=n)(b0:0<=B)(b1:B<2):0<=a+(l-1)*B/\a+(l-1)*B<n:=by
 rcases(show B=0\/B=1 by omega) with rfl | rfl <;> omega
def Zm (K:PySem.W.Frag):Sp:=fun vs H Q _=>∃(p:Addr) (cs:List Int) (c:Int),vs=[.ref p,.int c]/\H p=some (.lst (cs.map V.int))/\1<=cs.length/\cs.length<=400 /\
 ∀(ds:List Int) (H':Hp),ds.length=cs.length->H' p=some (.lst (ds.map V.int))->Az p H H'->Q .non H'
variable (AL:Defx P w K mg base "_law_walk" 1 ["_law_cells"] (Zk K))
include T AL in
theorem Lg (S:Src K mg "_law_spoil" O3):Defx P w K mg base "_law_spoil" 2 ["_law_cells","_law_c"] (Zm K):=by
 refine S.okx FE hZ (fun vs H Q E h=>by revert h;walk_at "len") (fun f cdv A outer s H vs Q E hr h=>?_);refine⟨_,PSs.nox (Ac (At (i:=2) FE.nd rfl (Or.inl rfl) (Ax Bn (Ar AL hr (by rfl) (Aa (pv 0) Ab)) Ad (fun _ _=>rfl))) (Ac (At (i:=3) FE.nd rfl (Or.inl rfl) (Am Bh (Am Bh (Am Ds (pv 1) Ad) Ad) (Bm B7 (by rfl) T.n_len PySem.boot_len (Aa (pv 0) Ab)))) (Ac (AG (PW.pt (DA (Cd (pv 2) (fun _=>rfl)) (DR (AB BA (Am Bh (Am Bh (Am Ds (pv 1) Ad) Ad) Ad) Ad (Aw _))))) (Ac (At (i:=4) FE.nd rfl (Or.inl rfl) (Ax AV (pv 2) (Am Bh (Am Bh (Am Ds (pv 1) Ad) Ad) (Bm B7 (by rfl) T.n_len PySem.boot_len (Aa (pv 2) Ab))) (fun _ _=>rfl))) (Ae (At (i:=3) FE.nd rfl (Or.inl rfl) (Am AN (Ax Bn (pv 4) Ad (fun _ _=>rfl)) (Am Ds (Am A9 (Ax Bn (pv 4) Ad (fun _ _=>rfl)) Ad) (Am Bh (Am Bh (Am Ds (pv 1) Ad) Ad) Ad)))))) AI) (Ac (At (i:=5) FE.nd rfl (Or.inl rfl) (Ax AV (pv 0) (pv 3) (fun _ _=>rfl))) (Ac (At (i:=6) FE.nd rfl (Or.inl rfl) (Am Bh (Am Ds (pv 1) Ad) Ad)) (Ac (At (i:=7) FE.nd rfl (Or.inl rfl) (Dn (Aa (Am AN (pv 5) Ad) (Aa (Am A9 (pv 5) Ad) (Aa (Am AN (pv 5) Ad) (Aa (Am A9 (pv 5) Ad) (Aa (Am A9 Ad (pv 5)) (Aa Ad (Aa (Am A9 (Am Bh (Am Nq (pv 6) Ad) Ad) Ad) (Aa (Am op_pow Ad Ad) Ab)))))))))) (Ae (Cm (Ax AV (pv 7) (Am Bh (pv 6) Ad) (fun _ _=>rfl)) (FX (pv 0) (pv 3) F2))))))))),?_⟩;obtain⟨p,cs,c,rfl,hp,h1,hz,q⟩:=h;have hcs:0<(cs.length:Int):=by omega
 have k0:=Int.emod_nonneg (c*48271%65537) (show (cs.length:Int)≠0 by omega);have k1:=Int.emod_lt_of_pos (c*48271%65537) hcs;have wm:=Zl (cs:=cs) cs.length 0 (Int.le_refl 0) (by omega);walk_at "go";refine⟨p,cs,rfl,SqL.of hp,by omega,fun t b us H1 s1 ht hb pa=>?_⟩;generalize (AO cs 0).1=ps at pa wm;have hp1:=s1 p _ hp;have hul:=pa.1;walk_at "gs";refine HX (M:=fun σ' H'=>H1=H'/\∃k x4,0<=k/\k<(cs.length:Int)/\σ'=[some (.ref p),some (.int c),some (.ref b),some (.int k),x4,none,none,none]) ?_ (fun nx hM=>?_)
 . rintro σ' H' ⟨rfl,k,x4,g0,g1,rfl⟩;walk_at "go";intro l hl;have nl:p≠l:=A8 hp1 hl;walk_at "go";refine bI (SqL.of upd_same) ?_ (by omega) ?_ (fun v=>?_)
   . intro x hx;simp only [List.mem_cons,List.not_mem_nil,or_false] at hx;rcases hx with rfl | rfl | rfl | rfl | rfl | rfl | rfl | rfl <;> exact⟨_,rfl⟩
   . simp only [List.length_cons,List.length_nil];omega
   . walk_at "go";exact q (cs.set k.toNat v) _ List.length_set upd_same (fun x o nx hx=>look_ne nx (look_put hl (s1 x o hx)))
 . walk_at "go";refine B9 (fun he=>?_) (fun he=>?_)
   . walk_at "go";exact hM _ _ ⟨rfl,_,_,k0,k1,rfl⟩
   . have hus:0<(us.length:Int):=by
       cases us with
       | nil=>cases he
       | cons x r=>simp
     have i0:=Int.emod_nonneg (c*39373%28657) (show (us.length:Int)≠0 by omega);have i1:=Int.emod_lt_of_pos (c*39373%28657) hus;obtain⟨t,z,et,ez,hT⟩:=pa.at i0 i1;obtain⟨z0,z1,z4⟩:=wm z (List.mem_of_getElem? ez);have b0:=Int.emod_nonneg (c*40692%21013) (show (2:Int)≠0 by decide);have b1:=Int.emod_lt_of_pos (c*40692%21013) (show (0:Int)<2 by decide);obtain⟨y0,y1⟩:=at_in z0 z1 z4 b0 b1;walk_at "go";refine AK (fun _=>?_) (fun _=>?_)
     . walk_at "go";refine Dt (SqL.of hb) et ?_;walk_at "go";exact hM _ _ ⟨rfl,_,_,y0,y1,rfl⟩
     . walk_at "go";exact hM _ _ ⟨rfl,_,_,k0,k1,rfl⟩
def Zn (K:PySem.W.Frag):Sp:=fun vs H Q _=>∃(a b:Addr) (cs R:List Int),vs=[.ref a,.ref b]/\SqL K H a (cs.map V.int)/\SqL K H b (R.map V.int)/\R.length=cs.length/\cs.length<=60/\∀H',Same H H'->Q (.int (df cs R 0 cs.length)) H'
def UnW (cs R:List Int)(H1:Hp)(D:Addr)(i:Nat)(ys:List V)(H2:Hp):Prop:=Same H1 H2/\H2 D=some (.lst ys)/\(ys.length:Int)=df cs R 0 i/\ys.length<=i
include T in
theorem Lh (S:Src K mg "_law_unlike" O4) :Defx P w K mg base "_law_unlike" 1 ["_law_one","_law_other"] (Zn K):=by
 refine S.okx G7 iA (fun vs H Q E h=>by revert h;walk_at "len") (fun f cdv A outer s H vs Q E hr h=>?_);refine⟨_,PSs.nox (Ae (Au (Bm B7 (by rfl) T.n_len PySem.boot_len (Aa (DW ["_law_k"] ["_law_one","_law_other"] [0,1] rfl (PZ (by rfl) T.n_range (Aa (Bm B7 (by rfl) T.n_len PySem.boot_len (Aa (pv 0) Ab)) Ab)) (fun cl C s₀ H₀ ex=>(Ay (i:=0) (show ((["_law_k"]:List Str)++(["_law_one","_law_other"]:List Str)).Nodup by decide +kernel) rfl (Or.inl rfl))) (fun cl C s₀ H₀ ex=>(DU (AB D7 (Ax (Ic (K:=K) rfl) (pv 1) (pv 0) (fun _ _=>rfl)) (Ax (Ic (K:=K) rfl) (pv 2) (pv 0) (fun _ _=>rfl)) (Aw _)))) (fun cl C s₀ H₀ ex=>(pv 0)) (QA rfl rfl rfl rfl rfl rfl) (QB (n:="_law_one") (m:="_law_other") (by decide +kernel) rfl rfl) (fun y h=>Co (by decide +kernel) h)) Ab)))),?_⟩;obtain⟨a,b,cs,R,rfl,ha,hb,hl,hz,q⟩:=h;walk_at "go";refine⟨_,rfl,by omega,by omega,QG (fs:=[some (.ref a),some (.ref b)]) (UnW cs R H) (fun D hD=>⟨Same.new hD,upd_same,rfl,Nat.le_refl _⟩) ?_ ?_⟩
 . rintro D i ys H2 hD hi ⟨s2,hD2,hy,hyl⟩ τ hτ;have ha2:=s2.seq ha;have hb2:=s2.seq hb;have hd:df cs R 0 (i+1)=df cs R 0 i+(if cs.getD (0+i) 0=R.getD (0+i) 0 then 0 else 1):=rfl;rw[Nat.zero_add] at hd;rw[Int.zero_add]
   match τ,hτ with
   | [τ0],_ =>
     walk_at "go";refine⟨⟨[_],rfl,rfl⟩,?_⟩;walk_at "go";rw[Int.toNat_natCast];refine AK (fun hc=>?_) (fun hc=>?_)
     . rw[if_pos hc] at hd;exact A2 hi ⟨s2,hD2,by rw[hd];omega,by omega⟩
     . rw[if_neg hc] at hd;walk_at "go";refine⟨hD2,small4000 (by omega),A2 hi ⟨s2.put hD,upd_same,?_,?_⟩⟩
       . rw[hd,List.length_append,List.length_singleton];omega
       . rw[List.length_append,List.length_singleton];omega
 . rintro D ys H2 hD ⟨s2,hD2,hy,_⟩;walk_at "go";rw[hy];exact q H2 s2
def Zo (K:PySem.W.Frag):Sp:=fun vs H Q _=>∃(a:Addr) (ns:List Int),vs=[.ref a]/\SqL K H a (ns.map V.int)/\ns.length<=400/\∀H',Same H H'->Q (.bl true) H'
variable (Dg:Defx P w K mg base "first_bad" 5 ["cells"] (WW K))
variable (Ci:Defx P w K mg base "_law_whole" 1 ["_law_found"] (Qm))
include T Ap AL Dg Ci in
theorem Li (S:Src K mg "_law_looker" O5):Defx P w K mg base "_law_looker" 6 ["_law_cells"] (Zo K):=by
 refine S.okx Iq iB (fun vs H Q E h=>by revert h;walk_at "len") (fun f cdv A outer s H vs Q E hr h=>?_);refine⟨_,PSs.nox (Ac (At (i:=1) Iq.nd rfl (Or.inl rfl) (Ar AL hr (by rfl) (Aa (pv 0) Ab))) (Ac (At (i:=2) Iq.nd rfl (Or.inl rfl) (Ar Dg hr (by rfl) (Aa (CC CD (by rfl) T.n_list PyProof.Rows.boot_list (Aa (pv 0) Ab)) Ab))) (Ac (AG (AB Nt (Ax Bn (pv 1) Ad (fun _ _=>rfl)) B5 (Aw _)) (Ae (Au (HQ (D9 Nt (pv 2) B5 (Aw _)) (Jb (D9 (cT hr.units) (Ar Ap hr (by rfl) (Aa (CC CD (by rfl) T.n_list PyProof.Rows.boot_list (Aa (pv 0) Ab)) Ab)) (Ax Bn (pv 1) Ad (fun _ _=>rfl)) (Aw _)))))) AI) (Ac (At (i:=3) Iq.nd rfl (Or.inl rfl) B5) (Ac (WS (WT Ap hr (by rfl) (Aa (CC CD (by rfl) T.n_list PyProof.Rows.boot_list (Aa (pv 0) Ab)) Ab)) ⟨rfl,rfl⟩ (WR (i:=4) (by rfl) T.Yk Iq.nd rfl rfl (fun x=>(Ae (At (i:=3) Iq.nd rfl (Or.inl rfl) (WO PySem.F.attr_ValueError.ga (pv 4))))) NF)) (Ae (Au (HQ (Ar Ci hr (by rfl) (Aa (pv 2) Ab)) (HQ (Ar Ci hr (by rfl) (Aa (pv 3) Ab)) (HQ (D9 BA (pv 2) (Ax Bn (pv 1) Ad (fun _ _=>rfl)) (Aw _)) (Jb (D9 BA (pv 3) (Ax Bn (pv 1) Ad (fun _ _=>rfl)) (Aw _))))))))))))),?_⟩;obtain⟨a,ns,rfl,hS,hz,q⟩:=h;walk_at "go";refine⟨a,ns,rfl,hS,by omega,fun t p us H1 s1 ht hp pa=>?_⟩;have hS1:=s1.seq hS;walk_at "go";intro l nl;have s2:=Same.new (o:=.lst (ns.map V.int)) nl;have hl2:upd H1 l (.lst (ns.map V.int)) l=some (.lst (ns.map V.int)):=upd_same;generalize upd H1 l (.lst (ns.map V.int))=H2 at s2 hl2 ⊢;walk_at "go";refine⟨l,ns,rfl,SqL.of hl2,by omega,fun H3 s3=>?_⟩;have s23:=s2.trans s3;have s13:=s1.trans s23;have hS3:=s13.seq hS;have ht3:=s23 t _ ht;have hp3:=s23 p _ hp;have pa3:=pa.same s23;clear hS1 s2 s23 hl2 ht hp pa s1 s3;cases e:(AO ns 0).2 with
 | none =>
   rw[e] at ht3;walk_at "go";intro l2 nl2;have s4:=Same.new (o:=.lst (ns.map V.int)) nl2;have hl4:upd H3 l2 (.lst (ns.map V.int)) l2=some (.lst (ns.map V.int)):=upd_same;generalize upd H3 l2 (.lst (ns.map V.int))=H4 at s4 hl4 ⊢;walk_at "go";refine⟨l2,ns,rfl,SqL.of hl4,by omega,fun b hb=>(by rw[e] at hb;cases hb),fun _ f ws H5 nf s5 hf pf=>?_⟩;have s45:=s4.trans s5;have ht5:=s45 t _ ht3;walk_at "go";refine⟨f,p,ws,us,_,rfl,rfl,hf,s45 p _ hp3,pf,pa3.same s45,?_⟩;walk_at "go";exact q H5 (s13.trans s45)
 | some b =>
   rw[e] at ht3;walk_at "go";intro l2 nl2;have s4:=Same.new (o:=.lst (ns.map V.int)) nl2;have hl4:upd H3 l2 (.lst (ns.map V.int)) l2=some (.lst (ns.map V.int)):=upd_same;generalize upd H3 l2 (.lst (ns.map V.int))=H4 at s4 hl4 ⊢;walk_at "go";refine⟨l2,ns,rfl,SqL.of hl4,by omega,fun b' hb' dx H5 s5 hd=>⟨_,rfl,fun x hx=>Or.inl ⟨T.Yl,?_⟩⟩,fun hn=>by rw[e] at hn;cases hn⟩;have eb:b'=b:=by rw[e] at hb';exact(Option.some.inj hb').symm
   subst eb;have s6:=(s4.trans s5).put (o:=ExcO x Y5 (some dx)) ((s4.trans s5).free hx);have ht6:=s6 t _ ht3;walk_at "go";refine⟨x,_,dx,_,_,rfl,upd_same,look_put hx hd,T.Ym,T.Re,rfl,?_⟩;walk_at "go";rw[decide_eq_true rfl];exact q _ (s13.trans s6)
structure UsS (C:W7->Addr)(H0:Hp)(x dx a pl:Addr)(q:St7)(cs ns:List Int)(H:Hp):Prop where
 S:KS C x dx a q cs H
 sm:Same H0 H
 nx:H0 x=none
 na:H0 a=none
 np:H0 pl=none
 ne:pl≠a
 hp:H pl=some (.lst (ns.map V.int))
 nd:ns.Nodup
 mm:∀p,p∈ns↔Lv q p
theorem UsS.same {C:W7->Addr}{H0 H H':Hp}{x dx a pl:Addr}{q:St7}{cs ns:List Int}(U:UsS C H0 x dx a pl q cs ns H)(s:Same H H'):UsS C H0 x dx a pl q cs ns H' :=
 ⟨U.S.same s,U.sm.trans s,U.nx,U.na,U.np,U.ne,s pl _ U.hp,U.nd,U.mm⟩
theorem KS.keep {C:W7->Addr}{H H':Hp}{x dx a p:Addr}{q:St7}{cs:List Int}(S:KS C x dx a q cs H)(k:Az p H H')(h1:x≠p)(h2:a≠p):KS C x dx a q cs H':=⟨k x _ h1 S.hx,k a _ h2 S.ha,S.hl,S.hz,S.ok,S.mm⟩
theorem Ht {H0 H H':Hp}{x:Addr}(s:Same H0 H)(k:Az x H H')(n:H0 x=none):Same H0 H':=fun b o h=>k b o (fun e=>by rw[e,n] at h;cases h) (s b o h)
def Zp (C:W7->Addr):Sp:=fun vs H Q _=>∃(H0:Hp) (x dx a pl:Addr) (q:St7) (cs ns:List Int) (c:Int),vs=[.ref x,.ref pl,.int c]/\UsS C H0 x dx a pl q cs ns H/\q.n<=48 /\
 ∀(a':Addr) (q':St7) (cs' ns':List Int) (H':Hp),UsS C H0 x dx a' pl q' cs' ns' H'->q'.n=q.n->q'.let3=q.let3->Q .non H'
variable (D_give:Bk P w K mg base (cF Ah Ai Af Aj Y6 Y4 Ak) "give" 8 ["self","place"] [] (IA (cF Ah Ai Af Aj Y6 Y4 Ak) Y9))
variable (D_ask:MethFD P w K mg base (cF Ah Ai Af Aj Y6 Y4 Ak) "ask" 8 ["self","count","bound"] [.int 1] (Ix (cF Ah Ai Af Aj Y6 Y4 Ak) Bo))
variable (D_put:Bk P w K mg base (cF Ah Ai Af Aj Y6 Y4 Ak) "put" 9 ["self","place","k","number"] [] (spPut (cF Ah Ai Af Aj Y6 Y4 Ak)))
include T D_give D_ask D_put in
theorem Lj (S:Src K mg "_law_use" O2):Defx P w K mg base "_law_use" 10 ["_law_keeper","_law_places","_law_c"] (Zp (cF Ah Ai Af Aj Y6 Y4 Ak)):=by
 refine S.okx Ip G6 (fun vs H Q E h=>by revert h;walk_at "len") (fun f cdv A outer s H vs Q E hr h=>?_);refine⟨_,PSs.nox (Ac (At (i:=3) Ip.nd rfl (Or.inl rfl) B5) (Ac (AG (PW.pt (DA (AB BA (Am Bh (Am Bh (Am Ds (pv 2) Ad) Ad) Ad) Ad (Aw _)) (DR (Cd (pv 1) (fun _=>rfl))))) (Ac (At (i:=4) Ip.nd rfl (Or.inl rfl) (Ax AV (pv 1) (Am Bh (Am Bh (Am Ds (pv 2) Ad) Ad) (Bm B7 (by rfl) T.n_len PySem.boot_len (Aa (pv 1) Ab))) (fun _ _=>rfl))) (Ac (cU (gF (Xo D_give hr (pv 0) (Aa (pv 4) Ab)) (Ae (Bl (F3 PySem.F.plainAttrs_list PySem.F.slot_list_remove PySem.F.type_list_remove gJ (pv 1) (Aa (pv 4) Ab))))) ⟨rfl,rfl⟩ (WQ (by rfl) T.iT (fun x=>(Ae (At (i:=3) Ip.nd rfl (Or.inl rfl) B5))) NF)) (Ae ZE))) AI) (Ac (bK (i:=3) Ip.nd rfl (Or.inl rfl) (Xo D_ask.less hr (pv 0) (Aa (Am AN Ad (Am Bh (Am Bh (Am Ds (pv 2) Ad) Ad) Ad)) Ab)) ⟨rfl,rfl⟩ (WQ (by rfl) T.iU (fun x=>(Ae (At (i:=3) Ip.nd rfl (Or.inl rfl) B5))) NF)) (Ae (AG (AB HR (pv 3) B5 (Aw _)) (Ac (Bl (F3 PySem.F.plainAttrs_list PySem.F.slot_list_append PySem.F.type_list_append F4 (pv 1) (Aa (pv 3) Ab))) (Ae (Bl (Do D_put B0 hr (pv 0) (Aa (pv 3) (Aa Ad (Aa (Am Bh (Am Bh (Am Ds (pv 2) Ad) Ad) Ad) Ab))))))) AI))))),?_⟩;obtain⟨H0,x,dx,a,pl,q,cs,ns,c,rfl,U,hn,k⟩:=h;have S:=U.S;have hx:=S.hx;have hp:=U.hp;have hll:=Zj S.ok U.nd U.mm;have hpx:pl≠x:=fun e=>by rw[e,hx] at hp;cases hp
 walk_at "gs";refine HX (M:=fun σ' H'=>H=H'/\σ'=[some (.ref x),some (.ref pl),some (.int c),some .non,none]) ?_ (fun nx hM=>?_)
 . rintro σ' H' ⟨rfl,rfl⟩;have b1:=Int.emod_nonneg (c*16807%10007) (show (6:Int)≠0 by decide);have b2:=Int.emod_lt_of_pos (c*16807%10007) (show (0:Int)<6 by decide);walk_at "go";refine⟨x,dx,a,q,cs,_,rfl,rfl,S,⟨by omega,by omega⟩,fun H1 s1=>⟨_,rfl,fun y hy=>Or.inl ⟨T.jG,?_⟩⟩,fun p q' a' cs' H1 A na k1 hl S1=>?_⟩
   . have s2:=s1.put (o:=ExcO y Bo none) (s1.free hy);generalize upd H1 y (ExcO y Bo none)=H2 at s2 ⊢;walk_at "go";exact k a q cs ns H2 (U.same s2) rfl rfl
   . obtain⟨z,hz,hv,rfl⟩:=(A.lv p).mpr (.inl rfl);have hp1:=k1 pl _ hpx hp;have hpa:pl≠a':=fun e=>by rw[e,na] at hp;cases hp
     walk_at "go";generalize hH:upd H1 pl (.lst ((ns++[z.a+1]).map V.int))=H2;have hp2:H2 pl=some (.lst ((ns++[z.a+1]).map V.int)):=by rw[<-hH];exact upd_same
     have k2:Az pl H1 H2:=by rw[<-hH];exact Az.refl.put
     have S2:=S1.keep k2 (Ne.symm hpx) (Ne.symm hpa);have hx2:=S2.hx;obtain⟨_,_,z3,_⟩:=S2.ch.mem z hz;have z3:=z3 hv;walk_at "go";refine⟨x,dx,a',q',cs',z,0,_,rfl,rfl,S2,hz,hv,by omega,by omega,fun H3 k3 S3=>?_⟩;walk_at "go";refine k a' q' _ (ns++[z.a+1]) H3 ⟨S3,Ht (Ht (Ht U.sm k1 U.nx) k2 U.np) k3 (U.sm.free na),U.nx,U.sm.free na,U.np,hpa,k3 pl _ hpa hp2,?_,fun p=>?_⟩ A.n A.lt
     . exact List.nodup_append.mpr ⟨U.nd,by simp,fun u hu v hv2 e=>A.nw ((U.mm _).mp (by rw[<-List.mem_singleton.mp hv2,<-e];exact hu))⟩
     . rw[A.lv p,List.mem_append,List.mem_singleton,U.mm p];exact Or.comm
 . walk_at "go";refine AK (fun h3=>?_) (fun h3=>?_)
   . walk_at "go";refine B9 (fun he=>?_) (fun he=>?_)
     . walk_at "go";exact hM _ _ ⟨rfl,rfl⟩
     . have hus:0<(ns.length:Int):=by
         cases ns with
         | nil=>cases he
         | cons y r=>simp
       have i0:=Int.emod_nonneg (c*39373%28657) (show (ns.length:Int)≠0 by omega);have i1:=Int.emod_lt_of_pos (c*39373%28657) hus;walk_at "go";have hm:ns.getD (c*39373%28657%(ns.length:Int)).toNat 0∈ns:=by
         rw[List.getD_eq_getElem?_getD,List.getElem?_eq_getElem (show (c*39373%28657%(ns.length:Int)).toNat<ns.length by omega)];exact List.getElem_mem _
       generalize ns.getD (c*39373%28657%(ns.length:Int)).toNat 0=p at hm ⊢;obtain⟨z,hz,hv,rfl⟩:=(U.mm _).mp hm;refine gG ?_;walk_at "go";refine⟨x,dx,a,q,cs,z,rfl,rfl,S,hz,hv,fun H1 s1=>⟨_,rfl,fun y hy=>Or.inl ⟨T.jH,?_⟩⟩,fun q' a' cs' H1 G na k1 hl S1=>?_⟩
       . have s2:=s1.put (o:=ExcO y Y9 none) (s1.free hy);generalize upd H1 y (ExcO y Y9 none)=H2 at s2 ⊢;walk_at "go";exact k a q cs ns H2 (U.same s2) rfl rfl
       . have hp1:=k1 pl _ hpx hp;have hpa:pl≠a':=fun e=>by rw[e,na] at hp;cases hp
         walk_at "go";refine⟨pl,ns,z.a+1,rfl,rfl,hp1,hm,?_⟩;generalize hH:upd H1 pl (.lst ((ns.erase (z.a+1)).map V.int))=H2;have hp2:H2 pl=some (.lst ((ns.erase (z.a+1)).map V.int)):=by rw[<-hH];exact upd_same
         have k2:Az pl H1 H2:=by rw[<-hH];exact Az.refl.put
         walk_at "go";refine k a' q' cs' (ns.erase (z.a+1)) H2 ⟨S1.keep k2 (Ne.symm hpx) (Ne.symm hpa),Ht (Ht U.sm k1 U.nx) k2 U.np,U.nx,U.sm.free na,U.np,hpa,hp2,U.nd.erase _,fun p=>?_⟩ G.n G.lt;rw[G.lv p,U.nd.mem_erase_iff,U.mm p];exact And.comm
   . walk_at "go";exact hM _ _ ⟨rfl,rfl⟩
theorem PN {i j:W7}(h:Cg i=Cg j):i=j:=by cases i <;> cases j <;> first | rfl | exact absurd h (by decide)
theorem word4 {k:Int}(h0:0<=k)(h1:k<4):∃i,ok4 i/\atI [V.str "first",V.str "best",V.str "next",V.str "likes"] k=some (.str (Cg i)):=by
 rcases(show k=0\/k=1\/k=2\/k=3 by omega) with rfl | rfl | rfl | rfl
 . exact⟨.first,trivial,rfl⟩
 . exact⟨.best,trivial,rfl⟩
 . exact⟨.next,trivial,rfl⟩
 . exact⟨.likes,trivial,rfl⟩
theorem word7 {k:Int}(h0:0<=k)(h1:k<7):∃i,atI [V.str "first",V.str "best",V.str "next",V.str "likes",V.str "halves",V.str "shelves",V.str "row"] k=some (.str (Cg i)):=by
 rcases(show k=0\/k=1\/k=2\/k=3\/k=4\/k=5\/k=6 by omega) with rfl | rfl | rfl | rfl | rfl | rfl | rfl
 . exact⟨.first,rfl⟩
 . exact⟨.best,rfl⟩
 . exact⟨.next,rfl⟩
 . exact⟨.likes,rfl⟩
 . exact⟨.half,rfl⟩
 . exact⟨.shel,rfl⟩
 . exact⟨.row,rfl⟩
theorem Fr7.n {n s:Int}{i:W7}{q:St7}(F:Fr7 n s i q):q.n=n:=by
 cases F with
 | st _=>rfl
 | half _ e=>exact e.symm
 | shel _ _ e=>rw[e];show s*_=_;rw[List.length_replicate]
 | row _=>rfl
theorem Fr7.dead {n s:Int}{i:W7}{q:St7}(F:Fr7 n s i q)(p:Int):¬Lv q p:=by
 have one:∀(m:Int) (z:Pc),z∈[(⟨0,m,false⟩:Pc)]->z.v=true->False:=fun m z hz hv=>by
   rw[List.mem_singleton.mp hz] at hv;cases hv
 rintro⟨z,hz,hv,_⟩;cases F with
 | st _=>exact one _ z hz hv
 | half _ e=>exact one _ z hz hv
 | shel _ h1 _ =>
   rename_i m _ _;have e:=Rr h1 m 0;rw[show s*((0:Nat):Int)=0 by simp] at e;have hz:z∈alP s 0 (List.replicate m ⟨0,[]⟩):=hz;rw[e] at hz;obtain⟨i,_,rfl⟩:=List.mem_map.mp hz;cases hv
 | row _ =>
   have hz:z∈fr 0 n:=hz;rw[fr_v hz] at hv;cases hv
theorem Fr7.four {n s:Int}{i:W7}{q:St7}(h:ok4 i)(F:Fr7 n s i q):q = .st i 0 n [⟨0,n,false⟩]:=by
 cases F with
 | st _=>rfl
 | half _ e=>exact(show False from h).elim
 | shel _ _ e=>exact(show False from h).elim
 | row _=>exact(show False from h).elim
theorem Zq {ps:List Pc}{i:Nat}{z:Pc}(h:ps[i]?=some z):Ca (ps.take (i+1))=Ca (ps.take i)++(if z.v=true then [z.a+1] else []):=by
 unfold Ca;rw[List.take_add_one,h,List.filter_append,List.map_append]
 congr 1
 show (List.filter _ [z]).map _=_;cases hv:z.v with
 | true=>rw[List.filter_cons_of_pos hv];rfl
 | false=>rw[List.filter_cons_of_neg (by rw[hv];exact Bool.false_ne_true)];rfl
theorem IC {H:Hp}{t b:Addr}{o:HO}(n:t≠b)(h:H b=none):upd H t o b=none:=by rw[AE (Ne.symm n)];exact h
def LvW (H1:Hp)(ps:List Pc)(D:Addr)(i:Nat)(ys:List V)(H2:Hp):Prop:=Same H1 H2/\H2 D=some (.lst ys)/\ys=(Ca (ps.take i)).map V.int/\ys.length<=i
def GoW (C:W7->Addr)(H0:Hp)(x dx pl:Addr)(n:Int)(f0 f1 f2:Option V)(i:Nat)(σ:L2.St)(H':Hp):Prop :=
 ∃(a:Addr) (q:St7) (cs ns:List Int) (x5 x6 x7:Option V),σ=[f0,f1,f2,some (.ref x),some (.ref pl),x5,x6,x7]/\UsS C H0 x dx a pl q cs ns H'/\ok4 q.let3/\q.n=n
def GiW (fs:List (Option V))(H1:Hp)(i:Nat)(σ:L2.St)(H':Hp):Prop:=H1=H'/\∃x7:Option V,σ=fs++[x7]
def Zr (K:PySem.W.Frag):Sp:=fun vs H Q _=>∃(c sc:Addr) (cs ns:List Int) (ps:List Pc),vs=[.ref c,.ref sc]/\SqL K H c (cs.map V.int)/\SqL K H sc (ns.map V.int)/\3<=cs.length/\cs.length<=48/\Ag 0 ps cs.length/\Ao cs ps/\∀H',Q (.bl true) H'
theorem kM {q:St7}(h:q.ok)(h4:ok4 q.let3):AJ q.ps:=by
 cases q with
 | half _ _=>exact(show False from h4).elim
 | shel _ _=>exact(show False from h4).elim
 | row _ _=>exact(show False from h4).elim
 | st _ _ _ _=>exact h.2.2
variable (A6:Defx P w K mg base "_law_cell_at" 1 ["_law_script","_law_k"] (Ql K))
variable (BP:DefD P w K mg base "keeper_of" 10 ["word","size","shelf"] [.int 8] (Zb (cF Ah Ai Af Aj Y6 Y4 Ak) Dp A0))
variable (BQ:Defx P w K mg base "_law_use" 10 ["_law_keeper","_law_places","_law_c"] (Zp (cF Ah Ai Af Aj Y6 Y4 Ak)))
include T AR AD D_lay AL A6 BP BQ in
theorem Ll (S:Src K mg "_law_goes_on" O6):Defx P w K mg base "_law_goes_on" 11 ["_law_cells","_law_script"] (Zr K):=by
 refine S.okx G8 G9 (fun vs H Q E h=>by revert h;walk_at "len") (fun f cdv A outer s H vs Q E hr h=>?_);refine⟨_,PSs.nox (Ac (At (i:=2) G8.nd rfl (Or.inl rfl) (Ax AV (Dn (Aa AY (Aa AY (Aa AY (Aa AY Ab))))) (Am Bh (Ar A6 hr (by rfl) (Aa (pv 1) (Aa Ad Ab))) Ad) (fun _ _=>rfl))) (Ac (At (i:=3) G8.nd rfl (Or.inl rfl) (gL BP hr (by rfl) (Aa (pv 2) (Aa (Bm B7 (by rfl) T.n_len PySem.boot_len (Aa (pv 0) Ab)) Ab)))) (Ac (Bl (Do D_lay B0 hr (pv 3) (Aa (CC CD (by rfl) T.n_list PyProof.Rows.boot_list (Aa (pv 0) Ab)) Ab))) (Ac (cQ (i:=4) ["_law_piece"] G8.nd rfl (Or.inl rfl) rfl (BV (Ax Bn (Ar AL hr (by rfl) (Aa (pv 0) Ab)) Ad (fun _ _=>rfl))) (fun cl C s₀ H₀ ex=>(Ay (i:=0) (show ((["_law_piece"]:List Str)++([]:List Str)).Nodup by decide +kernel) rfl (Or.inl rfl))) (fun cl C s₀ H₀ ex=>(DU (Jt (K:=K) rfl (Ax (Js (K:=K) rfl) (pv 0) Ad (fun _ _=>rfl)) (fun _=>rfl)))) (fun cl C s₀ H₀ ex=>(Am AN (Ax (Js (K:=K) rfl) (pv 0) Ad (fun _ _=>rfl)) Ad)) ) (Ac (DS PassesOwn.never rfl (BV (P5 P7 (pv 1) (HS Ad) (HS Ad))) (Ay (i:=5) G8.nd rfl (Or.inl rfl)) (Ac (Bl (Ar BQ hr (by rfl) (Aa (pv 3) (Aa (pv 4) (Aa (pv 5) Ab))))) (Ac (At (i:=6) G8.nd rfl (Or.inl rfl) (Ar AL hr (by rfl) (Aa (DH AD B0 hr (pv 3)) Ab))) (Ac (AG (PW.pt (Cc (AB HR (Ax Bn (pv 6) Ad (fun _ _=>rfl)) B5 (Aw _)) (Cz (AB (cL hr.units) (DH AR B0 hr (pv 3)) (Ax Bn (pv 6) Ad (fun _ _=>rfl)) (Aw _))))) (Ae (Au Bt)) AI) (Ac (AG (AB (WP hr.units) (QC ["_law_piece"] rfl (BV (Ax Bn (pv 6) Ad (fun _ _=>rfl))) (fun cl C s₀ H₀ ex=>(Ay (i:=0) (show ((["_law_piece"]:List Str)++([]:List Str)).Nodup by decide +kernel) rfl (Or.inl rfl))) (fun cl C s₀ H₀ ex=>(DU (Jt (K:=K) rfl (Ax (Js (K:=K) rfl) (pv 0) Ad (fun _ _=>rfl)) (fun _=>rfl)))) (fun cl C s₀ H₀ ex=>(Am AN (Ax (Js (K:=K) rfl) (pv 0) Ad (fun _ _=>rfl)) Ad)) ) (Bm (gK rfl) (by rfl) T.n_sorted PyProof.Rows.boot_sorted (Aa (pv 4) Ab)) (Aw _)) (Ae (Au Bt)) AI) (Ae (DS PassesOwn.never rfl (Wc (by rfl) T.n_range (Aa Ad (Aa (Bm B7 (by rfl) T.n_len PySem.boot_len (Aa (Ax Bn (pv 6) Ad (fun _ _=>rfl)) Ab)) Ab))) (Ay (i:=7) G8.nd rfl (Or.inl rfl)) (Ae (AG (PW.pt (DA (B6 (Cd (Ax Bn (Ax AV (Ax Bn (pv 6) Ad (fun _ _=>rfl)) (pv 7) (fun _ _=>rfl)) Ad (fun _ _=>rfl)) (fun _=>rfl))) (DR (B6 (Cd (Ax Bn (Ax AV (Ax Bn (pv 6) Ad (fun _ _=>rfl)) (Am A9 (pv 7) Ad) (fun _ _=>rfl)) Ad (fun _ _=>rfl)) (fun _=>rfl)))))) (Ae (Au Bt)) AI))))))))) (Ae (Au Bt))))))),?_⟩;obtain⟨c,sc,cs,ns,ps,rfl,hC,hS,hz3,hz,hc,mk,q⟩:=h;have hw:=BB hc mk;have hple:=hc.le;have b1:=Int.emod_nonneg (ns.getD (4:Int).toNat 0) (show (4:Int)≠0 by decide);have b2:=Int.emod_lt_of_pos (ns.getD (4:Int).toNat 0) (show (0:Int)<4 by decide);obtain⟨i,h4,ei⟩:=word4 b1 b2;walk_at "go";intro w nw;walk_at "go";refine Dt (SqL.of upd_same) ei ?_;have s1:=Same.new (o:=.lst [V.str "first",V.str "best",V.str "next",V.str "likes"]) nw;generalize upd H w (.lst [V.str "first",V.str "best",V.str "next",V.str "likes"])=H1 at s1 ⊢;have hC1:=s1.seq hC;walk_at "go";refine gM ?_;walk_at "go";refine⟨Cg i,cs.length,8,rfl,by omega,by decide,fun hn=>absurd rfl (hn i),fun j e hg=>absurd ((gd4 (by rw[<-PN e];exact h4)).mpr (by omega)) hg,fun j e hg x dx a q0 cs0 H2 nx na s2 F S=>?_⟩;have e:=PN e;subst e;have e0:=F.four h4;subst e0;clear F;have hx2:H2 x=some (.ins ((cF Ah Ai Af Aj Y6 Y4 Ak) i) dx (fsF i a 0)):=S.hx;have ha2:=S.ha;have hl2:(cs0.length:Int)=cs.length:=S.hl;have hC2:=s2.seq hC1;walk_at "go";intro l nl;have s3:=Same.new (o:=.lst (cs.map V.int)) nl;have hl3:upd H2 l (.lst (cs.map V.int)) l=some (.lst (cs.map V.int)):=upd_same;generalize upd H2 l (.lst (cs.map V.int))=H3 at s3 hl3 ⊢;have hx3:=s3 x _ hx2;have ha3:=s3 a _ ha2;walk_at "go";refine⟨0,x,l,dx,a,cs0,cs,ps,rfl,hx3,ha3,by omega,SqL.of hl3,by omega,hc,hw,fun a4 H4 na4 k4 hx4 ha4=>?_⟩;rw[bgC_4 h4] at ha4;have s24:Same H1 H4:=Ht (s2.trans s3) k4 nx;have na1:H a4=none:=s1.free ((s2.trans s3).free na4);have nx1:H x=none:=s1.free nx;have s4:=s1.trans s24;have hll:=Qu (Bj ps) cs;have S4:KS (cF Ah Ai Af Aj Y6 Y4 Ak) x dx a4 (.st i (fsB i 0) cs.length (Bj ps)) (Cn cs (Bj ps)) H4:=⟨hx4,ha4,by rw[hll];rfl,by omega,⟨h4,NL hc,W6 ps⟩,W0 (ds:=[]) (m:=0) rfl (NL hc) (Ao.nil _)⟩
 have hC4:=s4.seq hC;have hS4:=s4.seq hS;clear s1 s2 s3 s24 hC1 hC2 hl3 hx3 ha3 ha2 hx2 S k4 nx na na4 nl nw;walk_at "go";refine⟨c,cs,rfl,hC4,by omega,fun t p us H5 s5 ht hp pa=>?_⟩;rw[hw] at ht pa;have pa:AA H5 us ps:=pa;have hul:=pa.1;walk_at "go";refine⟨p,rfl,⟨_,SqL.of hp⟩,Cv (K:=K) (a:=p) (xs:=us) (fs:=[]) (LvW H5 ps) (fun D hD=>⟨Same.new hD,upd_same,rfl,Nat.le_refl _⟩) (fun D i ys H2 _ h=>SqL.of (h.1 p _ hp)) ?_ ?_⟩
 . rintro D j y ys H6 hD hi ⟨s6,hD6,hy6,hyl⟩ τ hτ;have hil:j<us.length:=(List.getElem?_eq_some_iff.mp hi).1;obtain⟨z,hzi⟩:∃z,ps[j]?=some z:=⟨_,List.getElem?_eq_getElem (by omega)⟩
   obtain⟨tz,et,hT⟩:=pa.2 j z hzi;have ey2:y = .ref tz:=Option.some.inj (hi.symm.trans et);subst ey2;have hT2:=s6 tz _ hT;have ef:=Zq hzi
   match τ,hτ with
   | [τ0],_ =>
     walk_at "go";refine⟨⟨[_],rfl,rfl⟩,?_⟩;walk_at "go";refine B9 (fun hv=>?_) (fun hv=>?_)
     . walk_at "go";rw[if_pos hv] at ef;exact⟨hD6,small4000 (by omega),A2 hil ⟨s6.put hD,upd_same,by rw[ef,List.map_append,hy6];rfl,by rw[List.length_append,List.length_singleton];omega⟩⟩
     . walk_at "go";rw[if_neg (by rw[hv];exact Bool.false_ne_true),List.append_nil] at ef;exact A2 hil ⟨s6,hD6,by rw[ef];exact hy6,by omega⟩
 rintro pl ys H6 npl ⟨s6,hpl,rfl,_⟩;rw[List.take_of_length_le (by omega)] at hpl;have s56:=s5.trans s6;have hS6:=s56.seq hS4;walk_at "go";intro d H7 nd7 s7 hd7;have hdl:=WU ns 35 59;generalize cutI ns (some 35) (some 59)=dr at hd7 hdl;have ndH:H d=none:=s4.free (s56.free nd7);have s57:=s56.trans s7;have hpl7:=s7 pl _ hpl;have S7:=S4.same s57;have hdx:x≠d:=fun e=>by rw[e] at S7;have:=S7.hx;rw[hd7] at this;cases this
 have hda:a4≠d:=A8 ((S4.same s56).ha) nd7;have hdp:pl≠d:=A8 hpl nd7;have npH:H pl=none:=s4.free (s5.free npl);have hpa:pl≠a4:=fun e=>by rw[e,s5 a4 _ S4.ha] at npl;cases npl
 have U:UsS (cF Ah Ai Af Aj Y6 Y4 Ak) (upd H d (.lst (dr.map V.int))) x dx a4 pl (.st i (fsB i 0) cs.length (Bj ps)) (Cn cs (Bj ps)) (Ca ps) H7:=by
   refine⟨S7,fun b o h=>?_,IC (Ne.symm hdx) nx1,IC (Ne.symm hda) na1,IC (Ne.symm hdp) npH,hpa,hpl7,(PM hc).imp fun h=>Int.ne_of_lt h,fun p=>?_⟩
   . by_cases e:b=d
     . rw[e,upd_same] at h;rw[e,hd7];exact h
     . rw[AE e] at h;exact s57 b o (s4 b o h)
   . rw[Ru];exact⟨fun ⟨z,hz,hv,e⟩=>⟨z,XS hz hv,hv,e⟩,fun ⟨z,hz,hv,e⟩=>⟨z,XQ hz hv,hv,e⟩⟩
 clear S7 hpl7 hpa npH hdp hda hdx hS6 s57 s7 hpl s6 hd7 nd7 ndH s56 S4 s5 ht hp pa hul npl hC4 hS4;refine⟨d,rfl,⟨_,SqL.of (U.sm d _ upd_same)⟩,FY (K:=K) (a:=d) (xs:=dr.map V.int) (GoW (cF Ah Ai Af Aj Y6 Y4 Ak) (upd H d (.lst (dr.map V.int))) x dx pl cs.length (some (.ref c)) (some (.ref sc)) (some (.str (Cg i)))) ⟨a4,_,_,_,_,_,_,rfl,U,h4,rfl⟩ (fun i σ H2 _ ⟨_,_,_,_,_,_,_,_,U,_⟩=>SqL.of (U.sm d _ upd_same)) ?_ ?_⟩
 . rintro j y σ H8 hi ⟨a5,q5,cs5,ns5,x5,x6,x7,rfl,U5,o5,n5⟩;obtain⟨c5,rfl⟩:∃c,y=V.int c:=by
     rw[List.getElem?_map] at hi;obtain⟨c,_,e⟩:=Option.map_eq_some_iff.mp hi;exact⟨c,e.symm⟩
   generalize upd H d (.lst (dr.map V.int))=H0 at U5 ⊢;walk_at "go";refine⟨H0,x,dx,a5,pl,q5,cs5,ns5,c5,rfl,U5,by omega,fun a6 q6 cs6 ns6 H9 U6 n6 l6=>?_⟩;have S6:=U6.S;have hx6:=S6.hx;have hl6:=S6.hl;have hll6:=Zj S6.ok U6.nd U6.mm;have ch6:=S6.ch;have hle6:=ch6.le;have w6:=BB ch6 S6.mm;have nj6:=kM S6.ok (by rw[l6];exact o5);walk_at "go";refine⟨q6.s,x,dx,a6,cs6,rfl,hx6,S6.ha,fun pc H10 npc s10 hpc=>?_⟩;walk_at "go";refine⟨pc,cs6,rfl,SqL.of hpc,by omega,fun t p us H11 s11 ht hp pa=>?_⟩;rw[w6] at ht pa;have pa:AA H11 us q6.ps:=pa;have ht:H11 t=some (.tup [.ref p,.non]):=ht;have s9:=s10.trans s11;have U11:=U6.same s9;have hx11:=U11.S.hx;walk_at "go";refine⟨q6.s,x,dx,a6,cs6,q6.ps,rfl,U11.S.bs,fun pp us3 H12 npp s12 hpp pa12=>?_⟩;have ht12:=s12 t _ ht;have hp12:=s12 p _ hp;have pa':=pa.same s12;have hul:=pa'.1;walk_at "go";refine⟨pp,p,us3,us,q6.ps,rfl,rfl,hpp,hp12,pa12,pa',?_⟩;have U12:=U11.same s12;clear pa12 hpp npp pa hp ht hpc npc s10 s11 s12 U11 hx11 s9 U6;walk_at "go";refine⟨p,rfl,⟨_,SqL.of hp12⟩,Cv (K:=K) (a:=p) (xs:=us) (fs:=[]) (LvW H12 q6.ps) (fun D hD=>⟨Same.new hD,upd_same,rfl,Nat.le_refl _⟩) (fun D i ys H2 _ h=>SqL.of (h.1 p _ hp12)) ?_ ?_⟩
   . rintro D j y ys H6 hD hi ⟨s6,hD6,hy6,hyl⟩ τ hτ;have hil:j<us.length:=(List.getElem?_eq_some_iff.mp hi).1;obtain⟨z,hzi⟩:∃z,q6.ps[j]?=some z:=⟨_,List.getElem?_eq_getElem (by omega)⟩
     obtain⟨tz,et,hT⟩:=pa'.2 j z hzi;have ey2:y = .ref tz:=Option.some.inj (hi.symm.trans et);subst ey2;have hT2:=s6 tz _ hT;have ef:=Zq hzi
     match τ,hτ with
     | [τ0],_ =>
       walk_at "go";refine⟨⟨[_],rfl,rfl⟩,?_⟩;walk_at "go";refine B9 (fun hv=>?_) (fun hv=>?_)
       . walk_at "go";rw[if_pos hv] at ef;exact⟨hD6,small4000 (by omega),A2 hil ⟨s6.put hD,upd_same,by rw[ef,List.map_append,hy6];rfl,by rw[List.length_append,List.length_singleton];omega⟩⟩
       . walk_at "go";rw[if_neg (by rw[hv];exact Bool.false_ne_true),List.append_nil] at ef;exact A2 hil ⟨s6,hD6,by rw[ef];exact hy6,by omega⟩
   rintro D ys H13 nD ⟨s13,hD,rfl,_⟩;rw[List.take_of_length_le (by omega)] at hD;have U13:=U12.same s13;have hpl13:=U13.hp;walk_at "go";refine⟨pl,ns6,rfl,SqL.of hpl13,by omega,fun D2 ms nD2 pm srt=>?_⟩;have es:=kL S6.ok U13.nd U13.mm pm srt;have s14:=Same.new (o:=.lst (ms.map V.int)) nD2;have hD2:upd H13 D2 (.lst (ms.map V.int)) D2=some (.lst (ms.map V.int)):=upd_same;generalize upd H13 D2 (.lst (ms.map V.int))=H14 at s14 hD2 ⊢;walk_at "go";refine⟨D,D2,Ca q6.ps,ms,rfl,rfl,SqL.of (s14 D _ hD),SqL.of hD2,?_⟩;rw[decide_eq_true es,Bool.not_true];have s1314:=s13.trans s14;have U14:=U13.same s14;have ht14:=s1314 t _ ht12;have hp14:=s1314 p _ hp12;have pa14:=pa'.same s1314;clear es hD2 s14 s13 hpl13 U13 hD pa' hp12 ht12 U12;walk_at "go";refine⟨⟨by omega,by omega,by omega,by omega⟩,Wd (GiW [some (.ref c),some (.ref sc),some (.str (Cg i)),some (.ref x),some (.ref pl),some (.int c5),some (.ref t)] H14) ⟨rfl,_,rfl⟩ ?_ ?_⟩
   . rintro k σ H15 hk ⟨rfl,x7',rfl⟩;rw[show (1:Int)+(k:Int)=((k+1:Nat):Int) by omega];obtain⟨z,hzi⟩:∃z,q6.ps[k+1]?=some z:=⟨_,List.getElem?_eq_getElem (by omega)⟩
     obtain⟨y,hyi⟩:∃y,q6.ps[k]?=some y:=⟨_,List.getElem?_eq_getElem (by omega)⟩
     obtain⟨tz,ez,hTz⟩:=pa14.2 (k+1) z hzi;obtain⟨ty,ey,hTy⟩:=pa14.2 k y hyi;have az:atI us ((k+1:Nat):Int)=some (.ref tz):=Ea ez;have ay:atI us (((k+1:Nat):Int)-1)=some (.ref ty):=by rw[show ((k+1:Nat):Int)-1=(k:Int) by omega];exact Ea ey
     simp only [List.cons_append,List.nil_append];walk_at "go";refine Dt (SqL.of hp14) az ?_;walk_at "go";cases hv:z.v with
     | true =>
       rw[hv] at hTz;walk_at "go";exact⟨rfl,_,rfl⟩
     | false =>
       have hyv:=(nj6 k y z hyi hzi).resolve_right (by rw[hv];exact Bool.false_ne_true);rw[hv] at hTz;rw[hyv] at hTy;walk_at "go";refine Dt (SqL.of hp14) ay ?_;walk_at "go";exact⟨rfl,_,rfl⟩
   . rintro σ H15 ⟨rfl,x7',rfl⟩;simp only [List.cons_append,List.nil_append];walk_at "go";exact⟨a6,q6,cs6,ns6,_,_,_,rfl,U14,by rw[l6];exact o5,by rw[n6];exact n5⟩
 . rintro σ H8 ⟨a5,q5,cs5,ns5,x5,x6,x7,rfl,U5,o5,n5⟩;walk_at "go";exact q H8
def LwW (C:W7->Addr)(H0:Hp)(x dx pl:Addr)(n:Int)(f0 f2 f3 f4:Option V)(i:Nat)(σ:L2.St)(H':Hp):Prop :=
 ∃(a:Addr) (q:St7) (cs ns:List Int) (x1:Option V),σ=[f0,x1,f2,f3,f4,some (.ref x),some (.ref pl),none,none,none,none,none]/\UsS C H0 x dx a pl q cs ns H'/\q.n=n
def SpoW (p:Addr)(n:Nat)(H1:Hp)(f0 f2 f3 f4 f5 f6 f7:Option V)(i:Nat)(σ:L2.St)(H':Hp):Prop :=
 ∃(ds:List Int) (x1:Option V),σ=[f0,x1,f2,f3,f4,f5,f6,f7,some (.ref p),none,none,none]/\H' p=some (.lst (ds.map V.int))/\ds.length=n/\Az p H1 H'
theorem prs_of (cs:List Int):((wayF cs cs.length).map (·.1)).length=cs.length+1/\((wayF cs cs.length).map (·.1)).getD cs.length 0=Br cs cs.length:=by
 refine⟨by rw[List.length_map,Ee],?_⟩;have h1:cs.length<(wayF cs cs.length).length:=by rw[Ee];omega
 have:=JD cs cs.length cs.length (Nat.le_refl _);rw[List.getD_eq_getElem?_getD,List.getElem?_eq_getElem h1] at this;rw[List.getD_eq_getElem?_getD,List.getElem?_map,List.getElem?_eq_getElem h1];exact congrArg (·.1) this
theorem pow4 {k:Int}(h0:0<=k)(h1:k<4):∃n:Int,atI [V.int 4,V.int 8,V.int 16,V.int 32] k=some (.int n)/\Dy n=true/\3<=n/\n<=48:=by
 rcases(show k=0\/k=1\/k=2\/k=3 by omega) with rfl | rfl | rfl | rfl
 . exact⟨4,rfl,by decide,by decide,by decide⟩
 . exact⟨8,rfl,by decide,by decide,by decide⟩
 . exact⟨16,rfl,by decide,by decide,by decide⟩
 . exact⟨32,rfl,by decide,by decide,by decide⟩
variable (B3:Defx P w K mg base "_law_looker" 6 ["_law_cells"] (Zo K))
variable (Dh:Defx P w K mg base "_law_spoil" 2 ["_law_cells","_law_c"] (Zm K))
variable (Di:Defx P w K mg base "mended" 4 ["cells"] (Zg K))
variable (Cj:Defx P w K mg base "_law_unlike" 1 ["_law_one","_law_other"] (Zn K))
variable (Dj:Defx P w K mg base "prices_of" 4 ["cells"] (Zf K))
variable (Dk:Defx P w K mg base "_law_goes_on" 11 ["_law_cells","_law_script"] (Zr K))
include T AD AL A6 BP BQ B3 Dh Di Cj Dj Dk in
theorem ok_law {f:Addr}{fd:FuncData}(F:Fun K "law" "law" Ha f fd):FnOk P w K mg base (CXe P w) 12 f fd ["_law_script"] (NG K):=by
 refine Bb F Cq (fun vs H Q E h=>by revert h;walk_at "len") (fun cdv A outer s H vs Q E hr h=>?_);refine⟨_,PSs.nox (Ac (At (i:=1) Cq.nd rfl (Or.inl rfl) (Ar A6 hr (by rfl) (Aa (pv 0) (Aa Ad Ab)))) (Ac (At (i:=2) Cq.nd rfl (Or.inl rfl) (Ax AV (Dn (Aa AY (Aa AY (Aa AY (Aa AY (Aa AY (Aa AY (Aa AY Ab)))))))) (Am Bh (Ar A6 hr (by rfl) (Aa (pv 0) (Aa Ad Ab))) Ad) (fun _ _=>rfl))) (Ac (At (i:=3) Cq.nd rfl (Or.inl rfl) (Am AN Ad (Am Bh (Ar A6 hr (by rfl) (Aa (pv 0) (Aa Ad Ab))) Ad))) (Ac (At (i:=4) Cq.nd rfl (Or.inl rfl) (Am AN Ad (Am Bh (pv 1) Ad))) (Ac (AG (AB BA (pv 2) AY (Aw _)) (Ae (At (i:=4) Cq.nd rfl (Or.inl rfl) (Ax AV (Dn (Aa Ad (Aa Ad (Aa Ad (Aa Ad Ab))))) (Am Bh (pv 1) Ad) (fun _ _=>rfl)))) AI) (Ac (AG (AB BA (pv 2) AY (Aw _)) (Ae (At (i:=4) Cq.nd rfl (Or.inl rfl) (Am Ds (pv 3) (Am AN Ad (Am Bh (pv 1) Ad))))) AI) (Ac (At (i:=5) Cq.nd rfl (Or.inl rfl) (Ar BP.all hr (by rfl) (Aa (pv 2) (Aa (pv 4) (Aa (pv 3) Ab))))) (Ac (At (i:=6) Cq.nd rfl (Or.inl rfl) (Dn Ab)) (Ac (DS PassesOwn.never rfl (BV (P5 P7 (pv 0) (HS Ad) (HS Ad))) (Ay (i:=1) Cq.nd rfl (Or.inl rfl)) (Ae (Bl (Ar BQ hr (by rfl) (Aa (pv 5) (Aa (pv 6) (Aa (pv 1) Ab))))))) (Ac (At (i:=7) Cq.nd rfl (Or.inl rfl) (DH AD B0 hr (pv 5))) (Ac (AG (PW.pt (Cc (AB HR (Ax Bn (Ar AL hr (by rfl) (Aa (pv 7) Ab)) Ad (fun _ _=>rfl)) B5 (Aw _)) (Cz (B6 (D6 (Ar B3 hr (by rfl) (Aa (pv 7) Ab))))))) (Ae (Au Bt)) AI) (Ac (At (i:=8) Cq.nd rfl (Or.inl rfl) (CC CD (by rfl) T.n_list PyProof.Rows.boot_list (Aa (pv 7) Ab))) (Ac (DS PassesOwn.never rfl (BV (P5 P7 (pv 0) (HS Ad) (HS (Am AN Ad (Am Bh (Ar A6 hr (by rfl) (Aa (pv 0) (Aa Ad Ab))) Ad))))) (Ay (i:=1) Cq.nd rfl (Or.inl rfl)) (Ae (Bl (Ar Dh hr (by rfl) (Aa (pv 8) (Aa (pv 1) Ab)))))) (Ac (AG (B6 (D6 (Ar B3 hr (by rfl) (Aa (pv 8) Ab)))) (Ae (Au Bt)) AI) (Ac (At (i:=9) Cq.nd rfl (Or.inl rfl) (CC CD (by rfl) T.n_list PyProof.Rows.boot_list (Aa (pv 8) Ab))) (Ac (At (i:=10) Cq.nd rfl (Or.inl rfl) (Ar Di hr (by rfl) (Aa (pv 9) Ab))) (Ac (AG (PW.pt (Cc (B6 (D6 (Bm P9 (by rfl) T.n_isinstance PyProof.Rows.boot_isinstance (Aa (pv 10) (Aa (PU (v:=.ty "list") (by rfl) T.n_list PyProof.Rows.boot_list rfl) Ab))))) (Cc (AB D7 (Bm B7 (by rfl) T.n_len PySem.boot_len (Aa (pv 10) Ab)) (pv 4) (Aw _)) (Cc (AB (WP hr.units) (pv 9) (pv 8) (Aw _)) (Cz (B6 (D6 (Ar B3 hr (by rfl) (Aa (pv 10) Ab))))))))) (Ae (Au Bt)) AI) (Ac (At (i:=11) Cq.nd rfl (Or.inl rfl) (Ar Cj hr (by rfl) (Aa (pv 10) (Aa (pv 8) Ab)))) (Ac (AG (PW.pt (Cc (AB HR (Ax Bn (Ar AL hr (by rfl) (Aa (pv 10) Ab)) Ad (fun _ _=>rfl)) B5 (Aw _)) (Cz (AB D8 (pv 11) (Ar Cj hr (by rfl) (Aa (pv 7) (Aa (pv 8) Ab))) (Aw _))))) (Ae (Au Bt)) AI) (Ac (AG (PW.pt (Cc (PW.pt (DA (AB Nt (Ax Bn (Ar AL hr (by rfl) (Aa (pv 8) Ab)) Ad (fun _ _=>rfl)) B5 (Aw _)) (DR (AB D8 (pv 11) Ad (Aw _))))) (Cz (AB D7 (Ax AV (Ar Dj hr (by rfl) (Aa (pv 9) Ab)) (pv 4) (fun _ _=>rfl)) (pv 11) (Aw _))))) (Ae (Au Bt)) AI) (Ae (Au (Ar Dk hr (by rfl) (Aa (pv 10) (Aa (pv 0) Ab))))))))))))))))))))))))),?_⟩;obtain⟨sc,ns,rfl,hS,hlen,kk⟩:=h;have c0:=Int.emod_nonneg (ns.getD (0:Int).toNat 0) (show (7:Int)≠0 by decide);have c1:=Int.emod_lt_of_pos (ns.getD (0:Int).toNat 0) (show (0:Int)<7 by decide);obtain⟨i,ei⟩:=word7 c0 c1;walk_at "go";intro w nw;walk_at "go";refine Dt (SqL.of upd_same) ei ?_;have s1:=Same.new (o:=.lst [V.str "first",V.str "best",V.str "next",V.str "likes",V.str "halves",V.str "shelves",V.str "row"]) nw;generalize upd H w (.lst [V.str "first",V.str "best",V.str "next",V.str "likes",V.str "halves",V.str "shelves",V.str "row"])=H1 at s1 ⊢;have hS1:=s1.seq hS;clear s1 nw ei c0 c1 hS;have e0:=Int.emod_nonneg (ns.getD (2:Int).toNat 0) (show (6:Int)≠0 by decide);have e1:=Int.emod_lt_of_pos (ns.getD (2:Int).toNat 0) (show (0:Int)<6 by decide);walk_at "gs";obtain⟨s,es,s3,s8⟩:∃s:Int,3+ns.getD (2:Int).toNat 0%6=s/\3<=s/\s<=8:=⟨_,rfl,by omega,by omega⟩
 rw[es];clear es e0 e1;generalize ns.getD (1:Int).toNat 0=c;refine HX (M:=fun σ' H'=>∃n:Int,SqL K H' sc (ns.map V.int)/\3<=n/\n<=48/\(i = .half->Dy n=true)/\σ'=[some (.ref sc),some (.int c),some (.str (Cg i)),some (.int s),some (.int n),none,none,none,none,none,none,none]) ?_ (fun nx hM=>?_)
 . rintro σ' H2 ⟨n,hS2,n3,n48,np,rfl⟩;walk_at "gs";refine HX (M:=fun σ' H'=>∃n:Int,SqL K H' sc (ns.map V.int)/\3<=n/\n<=48/\gdF n s i/\σ'=[some (.ref sc),some (.int c),some (.str (Cg i)),some (.int s),some (.int n),none,none,none,none,none,none,none]) ?_ (fun nx hM=>?_)
   . rintro σ' H3 ⟨n,hS3,n3,n48,gd,rfl⟩;clear np hS2 hS1;walk_at "go";refine⟨Cg i,n,s,rfl,by omega,by omega,fun hn=>absurd rfl (hn i),fun j e hg=>absurd (by rw[<-PN e];exact gd) hg,fun j e hg x dx a q0 cs0 H4 nx na s4 F S=>?_⟩;have n0:=F.n;have dd:=F.dead;have hS4:=s4.seq hS3;clear F hg;walk_at "go";intro pl npl;have s5:=Same.new (o:=.lst []) npl;have hpl5:upd H4 pl (.lst []) pl=some (.lst []):=upd_same;generalize upd H4 pl (.lst [])=H5 at s5 hpl5 ⊢;have hS5:=s5.seq hS4;walk_at "go";intro d H6 nd6 s6 hd6;have hdl:=WU ns 5 29;generalize cutI ns (some 5) (some 29)=dr at hd6 hdl;have s46:=s5.trans s6;have s36:=s4.trans s46;have hdx:x≠d:=fun e=>by have:=s46 x _ S.hx;rw[e,hd6] at this;cases this
     have hda:a≠d:=A8 (s5 a _ S.ha) nd6;have hdp:pl≠d:=A8 hpl5 nd6;have hpa:pl≠a:=fun e=>by rw[e,S.ha] at npl;cases npl
     have U:UsS (cF Ah Ai Af Aj Y6 Y4 Ak) (upd H3 d (.lst (dr.map V.int))) x dx a pl q0 cs0 [] H6:=by
       refine⟨S.same s46,fun b o h=>?_,IC (Ne.symm hdx) nx,IC (Ne.symm hda) na,IC (Ne.symm hdp) (s4.free npl),hpa,s6 pl _ hpl5,List.nodup_nil,fun p=>⟨(fun h=>by cases h),fun h=>absurd h (dd p)⟩⟩;by_cases e:b=d
       . rw[e,upd_same] at h;rw[e,hd6];exact h
       . rw[AE e] at h;exact s36 b o h
     have ndH:H3 d=none:=s4.free (s5.free nd6);have s3d:=Same.new (o:=.lst (dr.map V.int)) ndH;clear hpa hdp hda hdx hd6 s36 s46 s6 nd6 hS5 hpl5 s5 npl dd hS4 S s4 na nx;refine⟨d,rfl,⟨_,SqL.of (U.sm d _ upd_same)⟩,FY (K:=K) (a:=d) (xs:=dr.map V.int) (LwW (cF Ah Ai Af Aj Y6 Y4 Ak) (upd H3 d (.lst (dr.map V.int))) x dx pl n (some (.ref sc)) (some (.str (Cg i))) (some (.int s)) (some (.int n))) ⟨a,_,_,_,_,rfl,U,n0⟩ (fun i σ H2 _ ⟨_,_,_,_,_,_,U,_⟩=>SqL.of (U.sm d _ upd_same)) ?_ ?_⟩
     . rintro j y σ H8 hi ⟨a5,q5,cs5,ns5,x1,rfl,U5,n5⟩;obtain⟨c5,rfl⟩:∃c,y=V.int c:=by
         rw[List.getElem?_map] at hi;obtain⟨c,_,e⟩:=Option.map_eq_some_iff.mp hi;exact⟨c,e.symm⟩
       walk_at "go";refine⟨_,x,dx,a5,pl,q5,cs5,ns5,c5,rfl,U5,by omega,fun a6 q6 cs6 ns6 H9 U6 n6 l6=>?_⟩;walk_at "go";exact⟨a6,q6,cs6,ns6,_,rfl,U6,by omega⟩
     rintro σ H8 ⟨a5,q5,cs,ns5,x1,rfl,U5,n5⟩;have S5:=U5.S;have hx5:=S5.hx;have hl5:=S5.hl;have ch:=S5.ch;have mk:=S5.mm;have hw:=BB ch mk;have hSH:=(s3d.trans U5.sm).seq hS3;clear U s3d ndH hdl hS3 n0;walk_at "go";refine⟨q5.s,x,dx,a5,cs,rfl,hx5,S5.ha,fun pr H9 npr s9 hpr=>?_⟩;have hS9:=s9.seq hSH;generalize q5.ps=ps at ch mk hw;clear hSH s9 npr hx5 S5 U5;walk_at "go";refine⟨pr,cs,rfl,SqL.of hpr,by omega,fun t p us H10 s10 ht hp pa=>?_⟩;rw[hw] at ht;have hpr10:=s10 pr _ hpr;have hS10:=s10.seq hS9;clear hp pa;walk_at "go";refine⟨pr,cs,rfl,SqL.of hpr10,by omega,fun H11 s11=>?_⟩;have hpr11:=s11 pr _ hpr10;have hS11:=s11.seq hS10;clear s11 hS10 hpr10 ht s10 hS9 hpr;walk_at "go";intro sp nsp;have s12:=Same.new (o:=.lst (cs.map V.int)) nsp;have hsp12:upd H11 sp (.lst (cs.map V.int)) sp=some (.lst (cs.map V.int)):=upd_same;generalize upd H11 sp (.lst (cs.map V.int))=H12 at s12 hsp12 ⊢;have hpr12:=s12 pr _ hpr11;have hS12:=s12.seq hS11;have hprs:pr≠sp:=A8 hpr11 nsp;have g0:=Int.emod_nonneg (ns.getD (3:Int).toNat 0) (show (7:Int)≠0 by decide);walk_at "go";intro d2 H13 nd13 s13 hd13;generalize cutI ns (some 29) _=dr2 at hd13;have hsp13:=s13 sp _ hsp12;have hpr13:=s13 pr _ hpr12;have hds:d2≠sp:=fun e=>by rw[e,hsp12] at nd13;cases nd13
     have s1113:=s12.trans s13;clear s12 hsp12 hpr12 hS12 nd13 s13 hpr11;refine⟨d2,rfl,⟨_,SqL.of hd13⟩,FY (K:=K) (a:=d2) (xs:=dr2.map V.int) (SpoW sp cs.length H13 (some (.ref sc)) (some (.str (Cg i))) (some (.int s)) (some (.int n)) (some (.ref x)) (some (.ref pl)) (some (.ref pr))) ⟨cs,_,rfl,hsp13,rfl,Az.refl⟩ (fun i σ H2 _ ⟨_,_,_,_,_,k⟩=>SqL.of (k d2 _ hds hd13)) ?_ ?_⟩
     . rintro j y σ H14 hi ⟨ds,x1,rfl,hsp,hdl,k14⟩;obtain⟨c5,rfl⟩:∃c,y=V.int c:=by
         rw[List.getElem?_map] at hi;obtain⟨c,_,e⟩:=Option.map_eq_some_iff.mp hi;exact⟨c,e.symm⟩
       walk_at "go";refine⟨sp,ds,c5,rfl,hsp,by omega,by omega,fun ds' H15 l15 hsp15 k15=>?_⟩;walk_at "go";exact⟨ds',_,rfl,hsp15,by omega,k14.trans k15⟩
     rintro σ H14 ⟨ds,x1,rfl,hsp,hdl,k14⟩;have hpr14:=k14 pr _ hprs hpr13;have hS14:=(Ht s1113 k14 nsp).seq hS11;clear k14 hd13 hds hpr13 hsp13 s1113 hS11 hprs nsp;walk_at "go";refine⟨sp,ds,rfl,SqL.of hsp,by omega,fun H15 s15=>?_⟩;have hpr15:=s15 pr _ hpr14;have hsp15:=s15 sp _ hsp;have hS15:=s15.seq hS14;clear s15 hS14 hsp hpr14;walk_at "go";intro ph nph;have s16:=Same.new (o:=.lst (ds.map V.int)) nph;have hph16:upd H15 ph (.lst (ds.map V.int)) ph=some (.lst (ds.map V.int)):=upd_same;generalize upd H15 ph (.lst (ds.map V.int))=H16 at s16 hph16 ⊢;walk_at "go";refine⟨ph,ds,rfl,SqL.of hph16,by omega,fun f R H17 nf s17 hf M=>?_⟩;have s1517:=s16.trans s17;have hph:=s17 ph _ hph16;have hpr17:=s1517 pr _ hpr15;have hsp17:=s1517 sp _ hsp15;have hS17:=s1517.seq hS15;obtain⟨hRl,⟨qs,hcR,mkR⟩,hcost⟩:=M.fin;have hwR:=BB hcR mkR;have hch:=Rv R ds 0 ds.length;rw[hcost] at hch;have hpc:=Od (cs:=ds) (ds:=cs) (ps:=ps) (s:=0) (e:=cs.length) ch mk;rw[N7,Nat.sub_zero,Int.zero_add,<-hdl,Rv ds cs] at hpc;obtain⟨hml,hlast⟩:=prs_of ds;clear M s16 hph16 s17 s1517 nf nph hpr15 hsp15 hS15;walk_at "go";refine⟨ph,sp,ds,ds,rfl,rfl,SqL.of hph,SqL.of hsp17,?_⟩;rw[decide_eq_true rfl,Bool.not_true];walk_at "go";refine⟨f,R,rfl,SqL.of hf,by omega,fun H18 s18=>?_⟩;have hph18:=s18 ph _ hph;have hpr18:=s18 pr _ hpr17;have hsp18:=s18 sp _ hsp17;have hS18:=s18.seq hS17;have hf18:=s18 f _ hf;clear s18 hph hpr17 hsp17 hS17 hf;walk_at "go";refine⟨f,sp,R,ds,rfl,SqL.of hf18,SqL.of hsp18,by omega,by omega,fun H19 s19=>?_⟩;rw[hRl,hch];have hph19:=s19 ph _ hph18;have hpr19:=s19 pr _ hpr18;have hsp19:=s19 sp _ hsp18;have hS19:=s19.seq hS18;have hf19:=s19 f _ hf18;clear s19 hph18 hpr18 hsp18 hS18 hf18;walk_at "go";refine⟨f,R,rfl,SqL.of hf19,by omega,fun t p us H20 s20 ht hp pa=>?_⟩;rw[hwR] at ht;have hph20:=s20 ph _ hph19;have hsp20:=s20 sp _ hsp19;have hpr20:=s20 pr _ hpr19;clear hp pa;walk_at "go";refine⟨pr,sp,cs,ds,rfl,SqL.of hpr20,SqL.of hsp20,by omega,by omega,fun H21 s21=>?_⟩;rw[<-hdl];have s1921:=s20.trans s21;have hph21:=s21 ph _ hph20;have hsp21:=s21 sp _ hsp20;have hf21:=s1921 f _ hf19;have hS21:=s1921.seq hS19;clear s20 s21 s1921 hph20 hsp20 hpr20 ht hph19 hpr19 hsp19 hS19 hf19;walk_at "go";refine⟨sp,ds,rfl,SqL.of hsp21,by omega,fun t p us H22 s22 ht hp pa=>?_⟩;have hph22:=s22 ph _ hph21;have hf22:=s22 f _ hf21;have hS22:=s22.seq hS21;clear s22 hp pa hph21 hf21 hS21 hsp21;have hz0:(AO ds 0).2=none->Br ds ds.length<=0:=fun e=>by
       obtain⟨c2,m2⟩:=Zh ds.length 0 (ps:=(AO ds 0).1) (Int.le_refl 0) (by omega) (by omega) (Prod.ext rfl e);have:=Od (cs:=ds) (ds:=ds) (ps:=(AO ds 0).1) (s:=0) (e:=ds.length) c2 m2;rw[N7,Nat.sub_zero,Int.zero_add,Oa (fun _ _ _=>rfl)] at this;exact this
     cases e:(AO ds 0).2 with
     | none =>
       have hz1:=hz0 e;rw[e] at ht;walk_at "go";refine⟨ph,ds,rfl,SqL.of hph22,by omega,fun pp H23 npp s23 hpp=>?_⟩;have hf23:=s23 f _ hf22;have hS23:=s23.seq hS22;clear s23 npp;generalize (wayF ds ds.length).map (·.1)=ms at hpp hml hlast;walk_at "go";rw[show n.toNat=ds.length by omega,hlast];walk_at "go";refine⟨f,sc,R,ns,qs,rfl,SqL.of hf23,hS23,by omega,by omega,hcR,mkR,fun H24=>?_⟩;walk_at "go";exact kk _
     | some b =>
       rw[e] at ht;walk_at "go";refine⟨ph,ds,rfl,SqL.of hph22,by omega,fun pp H23 npp s23 hpp=>?_⟩;have hf23:=s23 f _ hf22;have hS23:=s23.seq hS22;clear s23 npp;generalize (wayF ds ds.length).map (·.1)=ms at hpp hml hlast;walk_at "go";rw[show n.toNat=ds.length by omega,hlast];walk_at "go";refine⟨f,sc,R,ns,qs,rfl,SqL.of hf23,hS23,by omega,by omega,hcR,mkR,fun H24=>?_⟩;walk_at "go";exact kk _
   . have m0:=Int.emod_nonneg c (show (6:Int)≠0 by decide);have m1:=Int.emod_lt_of_pos c (show (0:Int)<6 by decide);walk_at "go";refine AK (fun h=>?_) (fun h=>?_)
     . walk_at "go";have e:i = .shel:=PN h;have hb:3<=s*(1+c%6)/\s*(1+c%6)<=48:=by
         rcases(show c%6=0\/c%6=1\/c%6=2\/c%6=3\/c%6=4\/c%6=5 by omega) with e | e | e | e | e | e <;> rw[e] <;> omega
       exact hM _ _ ⟨_,hS2,hb.1,hb.2,by rw[e];exact⟨by omega,by omega,Int.mul_emod_right _ _⟩,rfl⟩
     . walk_at "go";refine hM _ _ ⟨n,hS2,n3,n48,?_,rfl⟩;cases i <;> first | exact np rfl | exact absurd rfl h | (show 1<=n;omega)
 . have d0:=Int.emod_nonneg c (show (4:Int)≠0 by decide);have d1:=Int.emod_lt_of_pos c (show (0:Int)<4 by decide);have m0:=Int.emod_nonneg c (show (46:Int)≠0 by decide);have m1:=Int.emod_lt_of_pos c (show (0:Int)<46 by decide);walk_at "go";refine AK (fun h=>?_) (fun h=>?_)
   . walk_at "go";intro l nl;walk_at "go";obtain⟨n,en,n1,n2,n3⟩:=pow4 d0 d1;refine Dt (SqL.of upd_same) en ?_;walk_at "go";exact hM _ _ ⟨n,(Same.new nl).seq hS1,n2,n3,fun _=>n1,rfl⟩
   . walk_at "go";exact hM _ _ ⟨_,hS1,by omega,by omega,fun e=>absurd (by rw[e];rfl) h,rfl⟩
end
abbrev LkF (K:PySem.W.Frag)(x q:Str)(s:Stmt)(D:Value)(f:Addr)(oc:Value)(od:Option Addr)(kV dc pm:Value)(an:Option Addr)(cd ct:Value)(sl:Array (Option Value)):Prop:=K.lookup f=some ⟨oc,od,.func (fnOf x q (A7 s) (AX s) (An s) D kV dc pm an cd ct),sl⟩
set_option autoImplicit true in
set_option relaxedAutoImplicit true in
theorem all_mk {l:PySem.W.OpenLaw}{w:World}{K:PySem.W.Frag}{h:Heap}{mg:Str->Option Value}{fa:Addr}(X:K.In h)(G:h.Ns mainGlobals mg)(hfa:mg "law"=some (.ref fa))
   {DI:Addr}
   {Hu:Tok}
   {Ez:Value}
   {EA:Option Addr}
   {EB:Nat}
   {EC:Array (Option Value)}
   {Y0 Dp A0 Y5 Y9 Y3 Y8 Cr Y2 Bo Y7 Y6 Ak Y4 Y1 Ah Ai Af Aj:Addr}
   {DJ:Addr}
   {Hv:Tok}
   {ED:Value}
   {EE:Option Addr}
   {EF:Nat}
   {EG:Array (Option Value)}
   {DK:Addr}
   {Hw:Tok}
   {EH:Value}
   {EI:Option Addr}
   {EJ:Nat}
   {EK:Array (Option Value)}
   {DL:Addr}
   {Hx:Tok}
   {EL:Value}
   {EM:Option Addr}
   {EN:Nat}
   {EO:Array (Option Value)}
   {DM:Addr}
   {Hy:Tok}
   {EQ:Value}
   {ER:Option Addr}
   {ES:Nat}
   {ET:Array (Option Value)}
   (T:Txt K mg Y0 Dp A0 Y5 Y9 Y3 Y8 Cr Y2 Bo Y7 Y6 Ak Y4 Y1 Ah Ai Af Aj h8 h9)
   (Zs:Src K mg "_wall" Q4)
   (Lm:Src K mg "check_ask" Oe)
   (Rw:Src K mg "check_plain_ask" Ef)
   (Ln:Src K mg "mark_of" Of)
   (Lo:Src K mg "long_of" Og)
   (Lp:Src K mg "live_of" Oh)
   (Lq:Src K mg "can_begin" Oi)
   (Lr:Src K mg "bad_of_piece" Oj)
   (Ls:Src K mg "looked" Ol)
   (Lu:Src K mg "first_bad" Om)
   (Lw:Src K mg "fresh_room" On)
   (Lx:Src K mg "laid" Oo)
   (Ly:Src K mg "laid_free" Op)
   (Lz:Src K mg "piece_at" Oq)
   (LA:Src K mg "live_at" Os)
   (LB:Src K mg "free_at" Ot)
   (LC:Src K mg "begin_around" Ou)
   (LD:Src K mg "free_begin" Ov)
   (LE:Src K mg "free_end" Ow)
   (LF:Src K mg "cut_out" Ox)
   (LG:Src K mg "freed" Oy)
   (Rx:Src K mg "joined_pieces" Eg)
   (LH:Src K mg "joined" OA)
   (LJ:Src K mg "pieces_up_to" OB)
   (LK:Src K mg "changes_for" OC)
   (LL:Src K mg "cheapest_ways" OD)
   (LM:Src K mg "prices_of" OF)
   (LN:Src K mg "mended" OG)
   (LO:Src K mg "is_power" OH)
   (LP:Src K mg "block_for" OI)
   (LQ:Src K mg "least_free" OJ)
   (LR:Src K mg "cut_down" OL)
   (Ry:Src K mg "grown_together" Ei)
   (LS:Src K mg "all_whole" ON)
   (LU:Src K mg "begin_of" OO)
   (LV:Src K mg "whole_ones" OP)
   (LW:Src K mg "free_slots" OQ)
   (LX:Src K mg "cut_for" OR)
   (LY:Src K mg "with_slot" OS)
   (LZ:Src K mg "has_live" OT)
   (L0:Src K mg "first_place" OU)
   (L3:Src K mg "spots_for" OV)
   (L4:Src K mg "least_place" OX)
   (L5:Src K mg "stretches_of" OY)
   (L6:Src K mg "_law_cell_at" OZ)
   (L7:Src K mg "_law_whole" O0)
   (L8:Src K mg "_law_walk" O1)
   (L9:Src K mg "_law_use" O2)
   (Ma:Src K mg "_law_spoil" O3)
   (Mb:Src K mg "_law_unlike" O4)
   (Mc:Src K mg "_law_looker" O5)
   (Md:Src K mg "_law_goes_on" O6)
   (Me:nI K "keeper_of" g8)
   (Mf:LkF K "keeper_of" "keeper_of" D1 (.ref DI) g8 o2 o4 o6 o7 o8 o9 i3 p6 p7)
   (Hz:K.lookup DI=some ⟨Ez,EA,.seq [.int 8 Hu].toArray EB,EC⟩)
   (Mg:cI K i3 "keeper_of")
   (Mh:kI K g8)
   (a_law:nI K "law" f_law)
   (l_law:LkF K "law" "law" Ha .none f_law oc_law od_law kV_law dc_law pm_law an_law cd_law ct_law sl_law)
   (c_law:cI K cd_law "law")
   (k_law:kI K f_law)
   (kN:nI K "Broken" Y5)
   (kO:K.lookup Y5=some (excClassObj zeF zeG Y5 N_Broken zeH zaN zeI zeJ zdX zeK zdY zeL zeM zeN zeO zeP zeQ zcp))
   (kP:excIn K Y0 [.type "ValueError",.type "Exception",.type "BaseException",.type "object"] "ValueError.__new__"=true)
   (kQ:kI K Y5)
   (Rz:fI K Y5 "__init__" p8)
   (Zt:LkF K "__init__" "Broken.__init__" O7 .none p8 zaO zcx zcy zcz zcA zcB zaP zcC zcD)
   (kR:cI K zaP "Broken.__init__")
   (kS:kI K p8)
   (kT:zaN = .ref Y0::[.type "ValueError",.type "Exception",.type "BaseException",.type "object"])
   (kU:zcp="ValueError.__new__")
   (kW:zaO = .type "function")
   (RA:findCls K (.ref Y7) (.type "type") "__init__"=some (.val (.ref g9)))
   (ID:LkF K "__init__" "Keeper.__init__" Ej .none g9 zcH zcI zcJ zcK zcL zcM zaQ zcN zcO)
   (IE:cI K zaQ "Keeper.__init__")
   (FG:kI K g9)
   (kX:specialIn K (.ref Y7) "__getattribute__"=some (some (.builtin "type.__getattribute__")))
   (kY:readsIn K Y7 (.type "type")=true)
   (RB:fI K Ah "__init__" g9)
   (PP:iI K g9)
   (kZ:makesIn K Ah=true)
   (lA:kI K Ah)
   (RC:fI K Ai "__init__" g9)
   (lB:makesIn K Ai=true)
   (lC:kI K Ai)
   (RD:fI K Aj "__init__" g9)
   (lD:makesIn K Aj=true)
   (lE:kI K Aj)
   (RE:fI K Ak "__init__" g9)
   (mk_Row:makesIn K Ak=true)
   (kp_Row:kI K Ak)
   (RF:findCls K (.ref Y1) (.type "type") "__init__"=some (.val (.ref g9)))
   (lF:specialIn K (.ref Y1) "__getattribute__"=some (some (.builtin "type.__getattribute__")))
   (lG:readsIn K Y1 (.type "type")=true)
   (RG:fI K Af "__init__" p9)
   (lH:LkF K "__init__" "Next.__init__" O8 .none p9 zdx zdy zdz zdA zdB zdC zbj zdD zdE)
   (lI:cI K zbj "Next.__init__")
   (lJ:kI K p9)
   (lK:iI K p9)
   (lL:makesIn K Af=true)
   (lM:kI K Af)
   (RH:fI K Y6 "room_begin" b9)
   (RI:fI K Y4 "room_begin" b9)
   (RJ:fI K Ak "room_begin" b9)
   (RK:LkF K "room_begin" "Keeper.room_begin" Ek .none b9 oc_Z4 od_Z4 kV_Z4 dc_Z4 pm_Z4 an_Z4 m5 ct_Z4 sl_Z4)
   (RL:cI K m5 "Keeper.room_begin")
   (EU:kI K b9)
   (DN:iI K b9)
   (lN:fI K Ah "room_begin" c7)
   (lO:fI K Ai "room_begin" c7)
   (lP:fI K Aj "room_begin" c7)
   (RM:LkF K "room_begin" "Stretches.room_begin" El .none c7 oc_Z1 od_Z1 kV_Z1 dc_Z1 pm_Z1 an_Z1 m6 ct_Z1 sl_Z1)
   (RN:cI K m6 "Stretches.room_begin")
   (EV:kI K c7)
   (DO:iI K c7)
   (RO:fI K Af "room_begin" i4)
   (RP:LkF K "room_begin" "Next.room_begin" Em .none i4 oc_Z6 od_Z6 kV_Z6 dc_Z6 pm_Z6 an_Z6 m7 ct_Z6 sl_Z6)
   (RQ:cI K m7 "Next.room_begin")
   (Mi:kI K i4)
   (Mj:iI K i4)
   (RS:fI K Ah "lay" a7)
   (RT:fI K Ai "lay" a7)
   (RU:fI K Af "lay" a7)
   (RV:fI K Aj "lay" a7)
   (RW:fI K Y6 "lay" a7)
   (RX:fI K Y4 "lay" a7)
   (RY:fI K Ak "lay" a7)
   (Ml:LkF K "lay" "Keeper.lay" Pb .none a7 q8 r6 r8 r9 t7 t8 i5 t9 u0)
   (Mm:cI K i5 "Keeper.lay")
   (Bv:kI K a7)
   (Bc:iI K a7)
   (RZ:fI K Ah "pieces" a8)
   (R0:fI K Ai "pieces" a8)
   (R1:fI K Af "pieces" a8)
   (R3:fI K Aj "pieces" a8)
   (R4:fI K Y6 "pieces" a8)
   (R5:fI K Y4 "pieces" a8)
   (R6:fI K Ak "pieces" a8)
   (Mn:LkF K "pieces" "Keeper.pieces" Pd .none a8 u4 u5 u6 u7 u8 u9 i6 v2 v3)
   (Mo:cI K i6 "Keeper.pieces")
   (Bw:kI K a8)
   (Bd:iI K a8)
   (R7:fI K Ah "cells" a9)
   (R8:fI K Ai "cells" a9)
   (R9:fI K Af "cells" a9)
   (Sa:fI K Aj "cells" a9)
   (Sb:fI K Y6 "cells" a9)
   (Sc:fI K Y4 "cells" a9)
   (Sd:fI K Ak "cells" a9)
   (Mp:LkF K "cells" "Keeper.cells" Pe .none a9 v4 v5 v6 v7 v8 v9 i7 w9 x8)
   (Mq:cI K i7 "Keeper.cells")
   (Bx:kI K a9)
   (Be:iI K a9)
   (Se:fI K Y6 "__init__" x9)
   (lQ:LkF K "__init__" "Halves.__init__" O9 .none x9 zcR zcS zcT zcU zcV zcW zaR zcX zcY)
   (lR:cI K zaR "Halves.__init__")
   (lS:kI K x9)
   (lT:iI K x9)
   (lU:makesIn K Y6=true)
   (lV:kI K Y6)
   (Mr:fI K Y6 "ask" d4)
   (Ms:LkF K "ask" "Halves.ask" En (.ref DJ) d4 y6 y7 y9 z5 z6 z7 i8 z8 z9)
   (HA:K.lookup DJ=some ⟨ED,EE,.seq [.int 1 Hv].toArray EF,EG⟩)
   (Mt:cI K i8 "Halves.ask")
   (FH:kI K d4)
   (HB:iI K d4)
   (Sg:fI K Y4 "__init__" zap)
   (lW:LkF K "__init__" "Shelves.__init__" Pa .none zap zbM zbN zbO zbP zbQ zbR zaF zbS zbT)
   (lX:cI K zaF "Shelves.__init__")
   (lY:kI K zap)
   (lZ:iI K zap)
   (mB:makesIn K Y4=true)
   (mC:kI K Y4)
   (Mu:fI K Y4 "ask" d5)
   (Mv:LkF K "ask" "Shelves.ask" Eo (.ref DK) d5 oc_Z22 od_Z22 kV_Z22 dc_Z22 pm_Z22 an_Z22 i9 ct_Z22 sl_Z22)
   (HC:K.lookup DK=some ⟨EH,EI,.seq [.int 1 Hw].toArray EJ,EK⟩)
   (Mw:cI K i9 "Shelves.ask")
   (FI:kI K d5)
   (HD:iI K d5)
   (Mx:fI K Ak "ask" d6)
   (My:LkF K "ask" "Row.ask" Ep (.ref DL) d6 oc_Z68 od_Z68 kV_Z68 dc_Z68 pm_Z68 an_Z68 j4 ct_Z68 sl_Z68)
   (HE:K.lookup DL=some ⟨EL,EM,.seq [.int 1 Hx].toArray EN,EO⟩)
   (Mz:cI K j4 "Row.ask")
   (FJ:kI K d6)
   (HF:iI K d6)
   (MA:fI K Ah "chosen" d7)
   (MB:LkF K "chosen" "First.chosen" Pi .none d7 oc_Z15 od_Z15 kV_Z15 dc_Z15 pm_Z15 an_Z15 j6 ct_Z15 sl_Z15)
   (MC:cI K j6 "First.chosen")
   (FK:kI K d7)
   (HG:iI K d7)
   (MD:fI K Ai "chosen" d8)
   (ME:LkF K "chosen" "Best.chosen" Pj .none d8 oc_Z24 od_Z24 kV_Z24 dc_Z24 pm_Z24 an_Z24 j7 ct_Z24 sl_Z24)
   (MF:cI K j7 "Best.chosen")
   (FL:kI K d8)
   (HH:iI K d8)
   (MG:fI K Af "chosen" d9)
   (MH:LkF K "chosen" "Next.chosen" Pk .none d9 oc_Z27 od_Z27 kV_Z27 dc_Z27 pm_Z27 an_Z27 j8 ct_Z27 sl_Z27)
   (MI:cI K j8 "Next.chosen")
   (FM:kI K d9)
   (HI:iI K d9)
   (MJ:fI K Aj "chosen" e5)
   (MK:LkF K "chosen" "Likes.chosen" Pl .none e5 oc_Z14 od_Z14 kV_Z14 dc_Z14 pm_Z14 an_Z14 j9 ct_Z14 sl_Z14)
   (ML:cI K j9 "Likes.chosen")
   (FN:kI K e5)
   (HJ:iI K e5)
   (mD:fI K Ah "room_granted" e7)
   (mE:fI K Ai "room_granted" e7)
   (mF:fI K Aj "room_granted" e7)
   (Sh:LkF K "room_granted" "Stretches.room_granted" Er .none e7 oc_Z0 od_Z0 kV_Z0 dc_Z0 pm_Z0 an_Z0 m8 ct_Z0 sl_Z0)
   (Si:cI K m8 "Stretches.room_granted")
   (EW:kI K e7)
   (DP:iI K e7)
   (Sj:fI K Af "room_granted" k8)
   (Sk:LkF K "room_granted" "Next.room_granted" Es .none k8 oc_Z3 od_Z3 kV_Z3 dc_Z3 pm_Z3 an_Z3 n8 ct_Z3 sl_Z3)
   (Sl:cI K n8 "Next.room_granted")
   (MM:kI K k8)
   (MN:iI K k8)
   (Sm:fI K Ah "ask" b7)
   (Sn:fI K Ai "ask" b7)
   (So:fI K Af "ask" b7)
   (Sq:fI K Aj "ask" b7)
   (MO:LkF K "ask" "Stretches.ask" Et (.ref DM) b7 oc_Z12 od_Z12 kV_Z12 dc_Z12 pm_Z12 an_Z12 k9 ct_Z12 sl_Z12)
   (HK:K.lookup DM=some ⟨EQ,ER,.seq [.int 1 Hy].toArray ES,ET⟩)
   (MP:cI K k9 "Stretches.ask")
   (Ck:kI K b7)
   (Cb:iI K b7)
   (Sr:fI K Ah "many" b4)
   (Ss:fI K Ai "many" b4)
   (Su:fI K Af "many" b4)
   (Sv:fI K Aj "many" b4)
   (Sw:fI K Y6 "many" b4)
   (Sx:fI K Y4 "many" b4)
   (Sy:fI K Ak "many" b4)
   (MQ:LkF K "many" "Keeper.many" Pm .none b4 oc_Z29 od_Z29 kV_Z29 dc_Z29 pm_Z29 an_Z29 l5 ct_Z29 sl_Z29)
   (MR:cI K l5 "Keeper.many")
   (By:kI K b4)
   (Bf:iI K b4)
   (mG:fI K Ah "room_cell_of" b6)
   (Sz:fI K Ai "room_cell_of" b6)
   (SA:fI K Af "room_cell_of" b6)
   (mH:fI K Aj "room_cell_of" b6)
   (mI:fI K Y6 "room_cell_of" b6)
   (mJ:fI K Y4 "room_cell_of" b6)
   (SB:fI K Ak "room_cell_of" b6)
   (SC:LkF K "room_cell_of" "Keeper.room_cell_of" Eu .none b6 oc_Z2 od_Z2 kV_Z2 dc_Z2 pm_Z2 an_Z2 n9 ct_Z2 sl_Z2)
   (SD:cI K n9 "Keeper.room_cell_of")
   (Cl:kI K b6)
   (BR:iI K b6)
   (SE:fI K Ah "put" b5)
   (SG:fI K Ai "put" b5)
   (SH:fI K Af "put" b5)
   (SI:fI K Aj "put" b5)
   (SJ:fI K Y6 "put" b5)
   (SK:fI K Y4 "put" b5)
   (SL:fI K Ak "put" b5)
   (MS:LkF K "put" "Keeper.put" Po .none b5 oc_Z30 od_Z30 kV_Z30 dc_Z30 pm_Z30 an_Z30 l7 ct_Z30 sl_Z30)
   (MT:cI K l7 "Keeper.put")
   (Bz:kI K b5)
   (Bg:iI K b5)
   (SM:fI K Ah "give" b8)
   (SN:fI K Ai "give" b8)
   (SO:fI K Af "give" b8)
   (SQ:fI K Aj "give" b8)
   (SR:LkF K "give" "Stretches.give" Ev .none b8 oc_Z8 od_Z8 kV_Z8 dc_Z8 pm_Z8 an_Z8 o0 ct_Z8 sl_Z8)
   (SS:cI K o0 "Stretches.give")
   (DQ:kI K b8)
   (Dl:iI K b8)
   (MU:fI K Ak "give" e8)
   (MV:LkF K "give" "Row.give" Pp .none e8 oc_Z58 od_Z58 kV_Z58 dc_Z58 pm_Z58 an_Z58 l8 ct_Z58 sl_Z58)
   (MW:cI K l8 "Row.give")
   (FO:kI K e8)
   (HL:iI K e8)
   (MX:fI K Y6 "give" f8)
   (MY:LkF K "give" "Halves.give" Pq .none f8 oc_Z26 od_Z26 kV_Z26 dc_Z26 pm_Z26 an_Z26 l9 ct_Z26 sl_Z26)
   (MZ:cI K l9 "Halves.give")
   (FP:kI K f8)
   (HM:iI K f8)
   (M0:fI K Y4 "give" f9)
   (M3:LkF K "give" "Shelves.give" Pr .none f9 oc_Z16 od_Z16 kV_Z16 dc_Z16 pm_Z16 an_Z16 m4 ct_Z16 sl_Z16)
   (M4:cI K m4 "Shelves.give")
   (FQ:kI K f9)
   (HN:iI K f9) :
   ∃fd:FuncData,(∀(s:Shared) (v:Value),BindsTo s fd ⟨[v],[]⟩ [("_law_script",v)])/\∀base:Heap,K.In base->base.Ns mainGlobals mg->FnOk l.prog w K mg base (CXe l.prog w) 12 fa fd ["_law_script"] (NG K):=by
 have e:=hfa.symm.trans (mg_of X G a_law);cases e;have M5:=fO (st:=D1) X G Me Mf Mg Mh;subst kT kU kW;have XI_Broken:XIni K mg "Broken" Y5 Y0 p8:=⟨mg_of X G kN,⟨_,_,_,_,_,_,_,_,_,_,_,_,_,_,_,kO⟩,kP,Rz,kQ,⟨_,_,_,_,Zt,rfl⟩⟩
 refine⟨fnOf "law" "law" (A7 Ha) (AX Ha) (An Ha) .none kV_law dc_law pm_law an_law cd_law ct_law,fun s v=>.of_eq rfl,fun base _ _=>?_⟩;have AW:=J1 (T:=T) (P:=l.prog) (w:=w) (base:=base) Ln ;have Av:=J3 (T:=T) (P:=l.prog) (w:=w) (base:=base) Lo ;have AQ:=J5 (T:=T) (P:=l.prog) (w:=w) (base:=base) Lp ;have CH:=J6 (T:=T) (P:=l.prog) (w:=w) (base:=base) Av AQ Lq;have CI:=J7 (T:=T) (P:=l.prog) (w:=w) (base:=base) Av CH Lr;have D_Broken:=jI (P:=l.prog) (w:=w) (base:=base) (Ba Zt kR kS) XI_Broken T.Re;have Ap:=J8 (T:=T) (P:=l.prog) (w:=w) (base:=base) Av AQ CI D_Broken Ls;have AC:=J9 (T:=T) (P:=l.prog) (w:=w) (base:=base) AW Lw;have As:=Ka (T:=T) (P:=l.prog) (w:=w) (base:=base) AW Lx;have Bu:=Kb (T:=T) (P:=l.prog) (w:=w) (base:=base) As Ly;have Ex:=Rm (T:=T) (P:=l.prog) (w:=w) (base:=base) Rx ;have BK:=Kc (T:=T) (P:=l.prog) (w:=w) (base:=base) As Ap Ex LH;have BH:=Kd (T:=T) (P:=l.prog) (w:=w) (base:=base) Ap Lz;have BI:=Ke (T:=T) (P:=l.prog) (w:=w) (base:=base) BH LA;have CJ:=Kf (T:=T) (P:=l.prog) (w:=w) (base:=base) BH LB;have BN:=Kg (T:=T) (P:=l.prog) (w:=w) (base:=base) As CJ Bu LF;have CK:=Kh (T:=T) (P:=l.prog) (w:=w) (base:=base) Av AQ LD;have CL:=Ki (T:=T) (P:=l.prog) (w:=w) (base:=base) Av AQ LE;have Db:=Kj (T:=T) (P:=l.prog) (w:=w) (base:=base) Bu BI CK CL LG;have BJ:=Kk (T:=T) (P:=l.prog) (w:=w) (base:=base) Lm ;have BX:=Rn (T:=T) (P:=l.prog) (w:=w) (base:=base) BJ Rw;have BL:=Kl (T:=T) (P:=l.prog) (w:=w) (base:=base) AC (Ba ID IE FG) ⟨kX,kY,RA,FG⟩;have D_First:=jK (T:=T) (P:=l.prog) (w:=w) (base:=base) AC (Ba ID IE FG) ⟨kZ,RB,PP,lA⟩;have D_Best:=d_Best (T:=T) (P:=l.prog) (w:=w) (base:=base) AC (Ba ID IE FG) ⟨lB,RC,PP,lC⟩;have D_Likes:=jL (T:=T) (P:=l.prog) (w:=w) (base:=base) AC (Ba ID IE FG) ⟨lD,RD,PP,lE⟩;have D_Row:=d_Row (T:=T) (P:=l.prog) (w:=w) (base:=base) AC (Ba ID IE FG) ⟨mk_Row,RE,PP,kp_Row⟩;have CM:=Km (T:=T) (P:=l.prog) (w:=w) (base:=base) AC (Ba ID IE FG) ⟨lF,lG,RF,FG⟩;have D_Next:=jM (T:=T) (P:=l.prog) (w:=w) (base:=base) CM (Ba lH lI lJ) ⟨lL,RG,lK,lM⟩;have M6:=Ko (T:=T) (P:=l.prog) (w:=w) (base:=base) (Ba RK RL EU) (fun i hi=>by cases i <;> first | exact⟨RH,DN,EU⟩ | exact⟨RI,DN,EU⟩ | exact⟨RJ,DN,EU⟩ | exact absurd rfl hi | cases hi | exact hi.elim) ;have M7:=Kq (T:=T) (P:=l.prog) (w:=w) (base:=base) BK (Ba RM RN EV) (fun i hi=>by cases i <;> first | exact⟨lN,DO,EV⟩ | exact⟨lO,DO,EV⟩ | exact⟨lP,DO,EV⟩ | exact absurd rfl hi | cases hi | exact hi.elim);have M8:=Kr (T:=T) (P:=l.prog) (w:=w) (base:=base) BK (Ba RP RQ Mi) (fun i hi=>by cases i <;> first | exact⟨RO,Mj,Mi⟩ | exact absurd rfl hi | cases hi | exact hi.elim);have D_room_begin:Bk l.prog w K mg base (cF Ah Ai Af Aj Y6 Y4 Ak) "room_begin" 6 ["self","cells"] [] (Kn K (cF Ah Ai Af Aj Y6 Y4 Ak)):=fun i=>by cases i <;> first | exact(M7 _ (by first | exact True.intro | exact rfl)).up (by decide) | exact(M8 _ (by first | exact True.intro | exact rfl)).up (by decide) | exact(M6 _ (by first | exact True.intro | exact rfl)).up (by decide)
 have D_lay:=d_lay (T:=T) (P:=l.prog) (w:=w) (base:=base) Ap D_room_begin (Ba Ml Mm Bv) (FD (Q:=fun C=>Meth K C "lay" a7) ⟨RS,Bc,Bv⟩ ⟨RT,Bc,Bv⟩ ⟨RU,Bc,Bv⟩ ⟨RV,Bc,Bv⟩ ⟨RW,Bc,Bv⟩ ⟨RX,Bc,Bv⟩ ⟨RY,Bc,Bv⟩);have AR:=Ks (T:=T) (P:=l.prog) (w:=w) (base:=base) Ap (Ba Mn Mo Bw) (FD (Q:=fun C=>Meth K C "pieces" a8) ⟨RZ,Bd,Bw⟩ ⟨R0,Bd,Bw⟩ ⟨R1,Bd,Bw⟩ ⟨R3,Bd,Bw⟩ ⟨R4,Bd,Bw⟩ ⟨R5,Bd,Bw⟩ ⟨R6,Bd,Bw⟩);have AD:=Kt (T:=T) (P:=l.prog) (w:=w) (base:=base) (Ba Mp Mq Bx) (FD (Q:=fun C=>Meth K C "cells" a9) ⟨R7,Be,Bx⟩ ⟨R8,Be,Bx⟩ ⟨R9,Be,Bx⟩ ⟨Sa,Be,Bx⟩ ⟨Sb,Be,Bx⟩ ⟨Sc,Be,Bx⟩ ⟨Sd,Be,Bx⟩) ;have CO:=Ku (T:=T) (P:=l.prog) (w:=w) (base:=base) LO ;have D_Halves:=jP (T:=T) (P:=l.prog) (w:=w) (base:=base) CO BL (Ba lQ lR lS) ⟨lU,Se,lT,lV⟩;have CQ:=Kv (T:=T) (P:=l.prog) (w:=w) (base:=base) LP ;have CT:=Kw (T:=T) (P:=l.prog) (w:=w) (base:=base) LQ ;have CU:=Kx (T:=T) (P:=l.prog) (w:=w) (base:=base) As LR;have FR:=Ky (T:=T) (P:=l.prog) (w:=w) (base:=base) BX CQ AR CT AD CU D_lay (Jo Ms Mt FH) HA ⟨Mr,HB,FH⟩;have CY:=Kz (T:=T) (P:=l.prog) (w:=w) (base:=base) AC LS;have A4:=KA (T:=T) (P:=l.prog) (w:=w) (base:=base) LU ;have CV:=KB (T:=T) (P:=l.prog) (w:=w) (base:=base) Ap LV;have BM:=KC (T:=T) (P:=l.prog) (w:=w) (base:=base) Av Ap A4 LW;have CW:=KD (T:=T) (P:=l.prog) (w:=w) (base:=base) As LX;have CZ:=KE (T:=T) (P:=l.prog) (w:=w) (base:=base) BM CV CW LY;have D_Shelves:=jW (T:=T) (P:=l.prog) (w:=w) (base:=base) BL D_lay CY (Ba lW lX lY) ⟨mB,Sg,lZ,mC⟩;have FS:=KF (T:=T) (P:=l.prog) (w:=w) (base:=base) As BX AD D_lay BM CZ (Jo Mv Mw FI) HC ⟨Mu,HD,FI⟩;have FT:=KG (T:=T) (P:=l.prog) (w:=w) (base:=base) BX AR AD D_lay BN (Jo My Mz FJ) HE ⟨Mx,HF,FJ⟩;have C8:=KI (T:=T) (P:=l.prog) (w:=w) (base:=base) L0 ;have AS:=KJ (T:=T) (P:=l.prog) (w:=w) (base:=base) Ap C8 L3;have AT:=KK (T:=T) (P:=l.prog) (w:=w) (base:=base) L4 ;have C9:=KL (T:=T) (P:=l.prog) (w:=w) (base:=base) Ap LC;have M9:=KM (T:=T) (P:=l.prog) (w:=w) (base:=base) AS AT (Ba MB MC FK) ⟨MA,HG,FK⟩;have Na:=KN (T:=T) (P:=l.prog) (w:=w) (base:=base) Av AS AT (Ba ME MF FL) ⟨MD,HH,FL⟩;have Nb:=KO (T:=T) (P:=l.prog) (w:=w) (base:=base) AS AT (Ba MH MI FM) ⟨MG,HI,FM⟩;have Nc:=KP (T:=T) (P:=l.prog) (w:=w) (base:=base) Av AS AT (Ba MK ML FN) ⟨MJ,HJ,FN⟩;have D_chosen:BD l.prog w K mg base (ok4) (cF Ah Ai Af Aj Y6 Y4 Ak) "chosen" 6 ["self","long","bound"] [] (Iz (cF Ah Ai Af Aj Y6 Y4 Ak)):=fun i hi=>by cases i <;> first | exact M9.up (by decide) | exact Na.up (by decide) | exact Nb.up (by decide) | exact Nc.up (by decide) | exact hi.elim
 have Nd:=KQ (T:=T) (P:=l.prog) (w:=w) (base:=base) (Ba Sh Si EW) (fun i hi=>by cases i <;> first | exact⟨mD,DP,EW⟩ | exact⟨mE,DP,EW⟩ | exact⟨mF,DP,EW⟩ | exact absurd rfl hi | cases hi | exact hi.elim) ;have Nf:=KR (T:=T) (P:=l.prog) (w:=w) (base:=base) (Ba Sk Sl MM) (fun i hi=>by cases i <;> first | exact⟨Sj,MN,MM⟩ | exact absurd rfl hi | cases hi | exact hi.elim) ;have D_room_granted:BD l.prog w K mg base (ok4) (cF Ah Ai Af Aj Y6 Y4 Ak) "room_granted" 1 ["self","behind"] [] (PK (cF Ah Ai Af Aj Y6 Y4 Ak)):=fun i hi=>by cases i <;> first | exact(Nd _ (by first | exact True.intro | exact rfl)).up (by decide) | exact(Nf _ (by first | exact True.intro | exact rfl)).up (by decide) | exact hi.elim
 have FU:=KU (T:=T) (P:=l.prog) (w:=w) (base:=base) BJ BN D_chosen C9 D_room_granted (Jo MO MP Ck) HK (fun i hi=>by cases i <;> first | exact⟨Sm,Cb,Ck⟩ | exact⟨Sn,Cb,Ck⟩ | exact⟨So,Cb,Ck⟩ | exact⟨Sq,Cb,Ck⟩ | exact absurd rfl hi | cases hi | exact hi.elim);have D_ask:MethFD l.prog w K mg base (cF Ah Ai Af Aj Y6 Y4 Ak) "ask" 8 ["self","count","bound"] [.int 1] (Ix (cF Ah Ai Af Aj Y6 Y4 Ak) Bo):=⟨fun i=>by cases i <;> first | exact(FU.all _ (by first | exact True.intro | exact rfl)).up (by decide) | exact FR.all.up (by decide) | exact FS.all.up (by decide) | exact FT.all.up (by decide),fun i=>by cases i <;> first | exact(FU.less _ (by first | exact True.intro | exact rfl)).up (by decide) | exact FR.less.up (by decide) | exact FS.less.up (by decide) | exact FT.less.up (by decide)⟩
 have A5:=KW (T:=T) (P:=l.prog) (w:=w) (base:=base) BI (Ba MQ MR By) (FD (Q:=fun C=>Meth K C "many" b4) ⟨Sr,Bf,By⟩ ⟨Ss,Bf,By⟩ ⟨Su,Bf,By⟩ ⟨Sv,Bf,By⟩ ⟨Sw,Bf,By⟩ ⟨Sx,Bf,By⟩ ⟨Sy,Bf,By⟩);have Da:=KY (T:=T) (P:=l.prog) (w:=w) (base:=base) A5 (Ba SC SD Cl) (FD (Q:=fun C=>Meth K C "room_cell_of" b6) ⟨mG,BR,Cl⟩ ⟨Sz,BR,Cl⟩ ⟨SA,BR,Cl⟩ ⟨mH,BR,Cl⟩ ⟨mI,BR,Cl⟩ ⟨mJ,BR,Cl⟩ ⟨SB,BR,Cl⟩);have D_put:=d_put (T:=T) (P:=l.prog) (w:=w) (base:=base) Da (Ba MS MT Bz) (FD (Q:=fun C=>Meth K C "put" b5) ⟨SE,Bg,Bz⟩ ⟨SG,Bg,Bz⟩ ⟨SH,Bg,Bz⟩ ⟨SI,Bg,Bz⟩ ⟨SJ,Bg,Bz⟩ ⟨SK,Bg,Bz⟩ ⟨SL,Bg,Bz⟩);have Ng:=KZ (T:=T) (P:=l.prog) (w:=w) (base:=base) Db (Ba SR SS DQ) (fun i hi=>by cases i <;> first | exact⟨SM,Dl,DQ⟩ | exact⟨SN,Dl,DQ⟩ | exact⟨SO,Dl,DQ⟩ | exact⟨SQ,Dl,DQ⟩ | exact absurd rfl hi | cases hi | exact hi.elim);have Nh:=K0 (T:=T) (P:=l.prog) (w:=w) (base:=base) (Ba MV MW FO) ⟨MU,HL,FO⟩ ;have Ey:=Rs (T:=T) (P:=l.prog) (w:=w) (base:=base) Ry ;have Ni:=K1 (T:=T) (P:=l.prog) (w:=w) (base:=base) As AR AD D_lay A5 Ey (Ba MY MZ FP) ⟨MX,HM,FP⟩;have Dc:=K2 (T:=T) (P:=l.prog) (w:=w) (base:=base) Ap A4 LZ;have Nj:=K4 (T:=T) (P:=l.prog) (w:=w) (base:=base) As AD D_lay A4 A5 Dc (Ba M3 M4 FQ) ⟨M0,HN,FQ⟩;have D_give:Bk l.prog w K mg base (cF Ah Ai Af Aj Y6 Y4 Ak) "give" 8 ["self","place"] [] (IA (cF Ah Ai Af Aj Y6 Y4 Ak) Y9):=fun i=>by cases i <;> first | exact(Ng _ (by first | exact True.intro | exact rfl)).up (by decide) | exact Ni.up (by decide) | exact Nj.up (by decide) | exact Nh.up (by decide)
 have Dd:=K5 (T:=T) (P:=l.prog) (w:=w) (base:=base) D_First D_Best D_Next D_Likes L5;have BP:=K6 (T:=T) (P:=l.prog) (w:=w) (base:=base) D_Halves D_Shelves D_Row Dd M5 Hz;have De:=K7 (T:=T) (P:=l.prog) (w:=w) (base:=base) LJ ;have Df:=K8 (T:=T) (P:=l.prog) (w:=w) (base:=base) AW LK;have BO:=K9 (T:=T) (P:=l.prog) (w:=w) (base:=base) De Df LL;have Dj:=La (T:=T) (P:=l.prog) (w:=w) (base:=base) BO LM;have Di:=Lb (T:=T) (P:=l.prog) (w:=w) (base:=base) As BO LN;have A6:=Lc (T:=T) (P:=l.prog) (w:=w) (base:=base) L6 ;have Ci:=Ld (T:=T) (P:=l.prog) (w:=w) (base:=base) L7 ;have Dg:=Le (T:=T) (P:=l.prog) (w:=w) (base:=base) Ap Lu;have AL:=Lf (T:=T) (P:=l.prog) (w:=w) (base:=base) L8 ;have Dh:=Lg (T:=T) (P:=l.prog) (w:=w) (base:=base) AL Ma;have Cj:=Lh (T:=T) (P:=l.prog) (w:=w) (base:=base) Mb ;have B3:=Li (T:=T) (P:=l.prog) (w:=w) (base:=base) Ap AL Dg Ci Mc;have BQ:=Lj (T:=T) (P:=l.prog) (w:=w) (base:=base) D_give D_ask D_put L9;have Dk:=Ll (T:=T) (P:=l.prog) (w:=w) (base:=base) AR AD D_lay AL A6 BP BQ Md;exact ok_law (T:=T) AD AL A6 BP BQ B3 Dh Di Cj Dj Dk (Ba l_law c_law k_law)
theorem walk {l:PySem.W.OpenLaw}{q:Program}{loose:List Str}{XP:(Str->Option Value)->Heap->Prop}{YP:World->Heap->Prop}{d:DefRec}{K:Params->PySem.W.Frag}(hn:l.most=some 63)(hdf:d.params.defaults=[])
   (hY:∀(w:World) (h:Heap),YP w h->(K w.params).In h)
   (F:∀(w:World) (mg:Str->Option Value) (fa:Addr) (h:Heap),(K w.params).In h->h.Ns mainGlobals mg->mg d.name=some (.ref fa) ->
     ∃fd:FuncData,(∀(s:Shared) (u:Value),BindsTo s fd ⟨[u],[]⟩ [("_law_script",u)])/\∀base:Heap,(K w.params).In base->base.Ns mainGlobals mg->FnOk l.prog w (K w.params) mg base (CXe l.prog w) 12 fa fd ["_law_script"] (NG (K w.params))) :
   PySem.W.WalkO q loose XP YP l.row.toRowW d [] (fun f vs=>PySem.call f vs) :=
 L2.walk_of (n:=63) (k:=12) (x:="_law_script") (CX:=fun w=>(CXe l.prog w)) (sp:=fun w=>NG (K w.params)) hn (by decide) hdf ⟨rfl,by decide,by decide⟩ hY F (fun _ _ a ns hl _ hS=>⟨a,ns,rfl,hS,hl,fun _=>rfl⟩) (fun _ _ _ _ _ ⟨_,_,_,_,_,_,_,_,_,_,_,_,_,_,_,z⟩=>z)
end Stow
open PySem PySem.W PyProof.Rows
set_option maxRecDepth 100000 in
set_option maxHeartbeats 0 in
theorem PySem.Challenge.cw_stow_k92_whole_spoilt_and_mended_holds : PySem.Challenge.rw_stow_k92_whole_spoilt_and_mended.Holds := by
 w_on;refine PySem.W.holds_law Stow.said0 fun _=>?_
 refine holds_open (XP:=fun _ _=>True) (YP:=InK Stow.heap0) Stow.left0 ?y (InK.keeps (K:=Stow.heap0)) (fun _ _=>trivial) (fun _ _ _ h _=>h) rfl rfl rfl (fun _ e=>recFacts_of e) rfl
   (by assumption) (by decide +kernel) ⟨rfl,rfl,rfl,rfl,rfl,by decide +kernel⟩ ?hw ?hc
 case y=>exact InK.of Stow.at0_eq
 case hw=>w_witness2
 k_fill
 refine Stow.walk (l:=PySem.Challenge.rw_stow_k92_whole_spoilt_and_mended) rfl rfl (fun w h Y=>Y) ?F
 case F =>
   intro w mg fa h KX G hmg
   apply Stow.all_mk KX G hmg
   constructor
   iterate 9 (refine PySem.W.mg_none_of KX G ?_;k_is)
   iterate 21 (refine mg_of KX G ?_;k_is)
   exact ⟨(by k_is),⟨_,(by k_is),(by decide +kernel),(by rfl)⟩,(by k_is),(by k_is)⟩
   iterate 8 (exact ⟨mg_of KX G (by k_is),_,_,_,_,(by k_exc),PySem.F.excBase_ValueError,PySem.F.excBase_ValueError.hasBase⟩)
   (refine ⟨?_,?_,?_,?_⟩;k_is;k_is;k_is;k_is)
   (change _=_;k_is)
   (refine ⟨?_,?_,?_,?_⟩;k_is;k_is;k_is;k_is)
   (change _=_;k_is)
   (refine ⟨?_,?_,?_,?_⟩;k_is;k_is;k_is;k_is)
   iterate 2 (change _=_;k_is)
   (refine ⟨?_,?_,?_,?_⟩;k_is;k_is;k_is;k_is)
   (change _=_;k_is)
   (refine ⟨?_,?_,?_,?_⟩;k_is;k_is;k_is;k_is)
   (change _=_;k_is)
   (refine ⟨?_,?_,?_,?_⟩;k_is;k_is;k_is;k_is)
   iterate 2 (change _=_;k_is)
   (refine ⟨?_,?_,?_,?_⟩;k_is;k_is;k_is;k_is)
   (change _=_;k_is)
   iterate 3 (exact ⟨_,_,⟨_,_,_,_,_,_,_,_,_,_,_,_,_,_,_,_,(by k_is)⟩,⟨_,_,_,_,_,_,_,_,_,_,_,_,_,_,_,_,(by k_is)⟩,(by decide +kernel),(by decide +kernel)⟩)
   (refine ⟨?_,?_,?_,?_,?_⟩;k_is;k_is;k_is;k_is;k_is)
   iterate 52 (exact Stow.aI KX G (by k_is) (by k_is) (by k_is) (by k_is))
   iterate 11 ((first|unfold Stow.LkF|unfold Stow.nI|unfold Stow.fI|unfold Stow.cI|unfold Stow.kI|unfold Stow.iI|skip);k_is)
   (k_exc)
   iterate 5 ((first|unfold Stow.LkF|unfold Stow.nI|unfold Stow.fI|unfold Stow.cI|unfold Stow.kI|unfold Stow.iI|skip);k_is)
   iterate 3 (rfl)
   iterate 210 ((first|unfold Stow.LkF|unfold Stow.nI|unfold Stow.fI|unfold Stow.cI|unfold Stow.kI|unfold Stow.iI|skip);k_is)
