import PyProof.Rows.All
import Wide.All
import OpenK.AllK
import Wide.FinOn
import Lean
import PyProof.EqAt
import PyProof.EqKinds
import PyProof.TupleCall
import PyProof.NeKinds
import PyProof.StationsW
import PyProof.RulesAs
import PyProof.ExcClass3
import PyProof.ExcInit
import PyProof.ExcArgsOwn
import PyProof.IsiH_set
import PyProof.NsDelKeeps
import PyProof.CompFree
import PySem.Challenge.RW_stow_k50_handles
open PySem.W renaming Frag→γ,SharedT→cv,OpenLaw→lf,InK→lu,LeftO→pq,Looks→pW,WalkO→pZ
open List renaming getElem?_eq_some_iff→δ,length_map→ε,getElem?_append_right→θ,mem_cons_of_mem→ι,mem_append_right→μ,size_toArray→ν,getElem?_append_left→ο,length_append→π,mem_append→ρ,mem_cons→χ,map_append→ψ,mem_of_getElem?→Δ,mem_cons_self→Ξ,mem_append_left→Φ,getElem?_map→Ψ,take_of_length_le→af,length_take→ag,getElem?_eq_getElem→ah,length_singleton→aj,append_assoc→ak,mem_map→am,take_add_one→ap,getElem?_of_mem→aq,map_cons→ar,length_cons→au,replicate→aw,getElem_mem→az,getD_eq_getElem?_getD→bc,mem_singleton→be,append_nil→bg,foldl_cons→bi,foldl_append→bj,length_eq_zero_iff→br,length_replicate→bz,nil_append→cb,cons_append→ci,getElem?_toArray→cm,getElem?_set_ne→cr,getElem?_set_self→cw,replicate_succ→db,length_filterMap_le→di,mem_filterMap→dk,all_eq_true→dn,map_map→du,nodup_cons→ed,length_set→eg,length_drop→fe,flatten_cons→fg,find?_cons→fj,filter_cons→fu,range→fv,getElem?_eq_none→fz,length_nil→gb,getElem?_take_of_lt→gh,map_eq_nil_iff→gk,lookup→gp,any_cons→gr,length_filter_le→gv,getLast?_concat→gw,not_mem_nil→gx,mem_of_find?_eq_some→gz,filterMap_cons→ia,getElem?_drop→ij,find?_eq_none→ik,map_singleton→il,pairwise_mergeSort→io,toArray→ir,pairwise_map→iu,lookup_cons_self→iw,lookup_cons→iz,length→jb,forIn_cons→je,mem_map_of_mem→jf,flatten_append→jg,mergeSort_perm→jh,map_nil→jj,zip_cons_cons→jm,filter_append→jo,nodup_nil→jq,getLast?_eq_getElem?→jv,getElem?_replicate→ke,getElem?_cons_succ→kf,any_eq_true→ki,map_id'→kn,append_eq_nil_iff→ku,mem_filter→ky,of_mem_zip→la,find?_some→lg,singleton_append→li,filterMap_append→ln,mem_range→lx,dropLast_concat→md,map_congr_left→mf,foldl→mx,forIn_toArray→my,any_eq_false→ni,take_sublist→nq,getElem?_inj→og,nodup_append→oh,mem_flatten→ot,flatten_nil→ou,cons→oy,append_inj→pe,forIn_nil→pp,all_cons→pX,Pairwise→pY,map_id→qu
open PySem.Heap renaming get?_push_of_some→ζ,lt_size→ξ,get?_update_other→ω,get?_push_size→Ω,get?_update_self→bb,size_push→bo,SameBut→bu,get?_none_of_le→dm,ExtBut→gc,DictOf→qt
open Bool renaming false_ne_true→η,false_eq_true→bq,and_eq_true→gm,eq_iff_iff→gq,and_false→ma,false_or→mj,or_false→mn,not_eq_true'→nu,or_eq_true→pc,false_and→pf,true_and→qb,true_or→qh
open Or renaming inl→υ,inr→jn
open Nat renaming le_refl→Θ,ne_of_lt→al,lt_of_lt_of_le→ao,lt_irrefl→bh,le_trans→bp,lt_succ_of_lt→df,sub_self→ff,lt_succ_self→ft,le_of_lt→gd,zero_le→gf,le_add_right→gn,lt_of_le_of_lt→ii,ne_of_gt→ip,le_succ→jz,not_lt→km,lt_trichotomy→nw,succ_ne_self→oz,le_of_eq→qg
open PyProof.Rows renaming boot_isinstance→aa,boot_list→cg,callWith_type1→fk,boot_sorted→gi,boot_min→ix,boot_int→iy,callWith_kw→kb,call_int_bit_length→oi,callWith_builtin1→oj,intBits_le→qf,bitOr_and→qi,boot_dict→qj,boot_bool→qk,lt_int→qv
open Option.some renaming inj→ae
open Option renaming map_eq_some_iff→ai,bind_eq_some_iff→im,isSome_map→ka,map_eq_none_iff→kx,toList_none→mz,getD_none→om
open PySem.Str renaming ofString→av
open PySem.F renaming attr_ValueError→ay,slot_list_append→cj,type_list_append→ck,plainAttrs_list→cn,excBase_ValueError→jr,slot_dict_delitem→jt,slot_dict_getitem→ju,plain_extend_loop→jw,plain_list_iadd→kh,slot_dict_pop→lj
open Int renaming le_refl→ba,emod_lt_of_pos→cu,toNat_natCast→dr,emod_nonneg→eo,toNat→gy,toNat_of_nonneg→ic,fdiv_eq_ediv_of_nonneg→jl,emod_add_mul_ediv→lh,lt_or_le→oa,mul_one→qm
open Ne renaming symm→bd
open PySem.Obj renaming data_mapFields→bx,isFreed_of_fields→fb,mapFields→ie,mapSeq→ja,cls_mapFields→jx
open PySem.PassesOwn renaming never→ce
open Array renaming getElem?_eq_some_iff→cf,getElem?_eq_getElem→cy,length_toList→ib,getElem?_eq_none→kt,getElem?_toList→lq,toArray_toList→me,toList_append→mh
open False renaming elim→dj
open PySem renaming boot_len→dw,mem_of_lookup→gj,Within→kj,call→ph,Value→qG,Addr→qH,Shared→qI,FuncData→qJ,Program→qK,World→qL,Around→qM,Expr→qN,Stmt→qO,Scope→qP,GenState→qQ,starEach→qR,bindArgs→qS,sizeLine→qT,wpAny_bind→qU,wpAny_pure→qV,wpAny_mono→qW,wpAny→qX,backTo→qY,seqItems?→qZ,compareOp→rc,mainGlobals→re,callWith→rf,Drawn→rg,eval→rh,model→rj,cLine→rl,wpAny_truthy_bool→rm,wpAny_loadPart_at→rn,wpAny_execs_nil→rp,Sem→rq,Params→rA,Heap→rB,Env→rC,Model→rD
open True renaming intro→fh
open PySem.Value renaming builtin→gu,isStrOf→pz,isInt→ql
open PySem.Calls renaming spliced_cons→ig,callWith_builtin→iq,Name_function_global→jk,spliced_nil→jy,evalArgs_plain→ly
open PySem.SeqAt.EqAt renaming same→jd,int_str→mo,str_int→mq,int_int→mw,of_refs→ng,none_bool→qo,bool_none→qp,bool_bool→qq,none_int→qw,none_str→qx,bool_int→qy,bool_str→qz,int_none→qA,int_bool→qB,str_none→qC,str_bool→qD,str_str→qE
open PySem.SeqAt.RcAt renaming lists_lengths→kd,lists→kg,tuples→qF
open Sum.inl renaming inj→lw
open PySem.Builtin.Range renaming rangeSize→qd
open PySem.W (BT absHeap boot_drawn boot_heap boot_o_2 boot_o_4 boot_toks callWith_K callWith_K0 cellsFrom_some clsIn codeIn emptyDict excIn findCls findIn fnOf handedIn hasDictIn instObj isFn keepIn kia_one kitOne kitx_dict kitx_list kla_obj lookIn looks_findIn looks_mroIn makesIn methodCall_KW methodObj mg_of mroIn nsIn piece_app piecesOf plainGet plainGet_of plainOver readsIn segRunT segRun_of specialIn takerIn takesIn topFrame topRun topStub typeIn)
set_option Elab.async false
set_option compiler.extract_closed false
set_option linter.all false
set_option maxRecDepth 100000
set_option maxHeartbeats 4000000
set_option maxRecDepth 100000 in
theorem Stow.said0:PySem.Challenge.rw_stow_k50_handles.wellSaid=true:=by decide +kernel
namespace L2
open PySem PySem.Spec PyProof.Rows
theorem a_{α:Type}{t:List α}(h:t.length=3):∃a b c,t=[a,b,c]:=match t,h with | [a,b,c],_=>⟨a,b,c,rfl⟩
theorem b_{α:Type}{t:List α}(h:t.length=2):∃a b,t=[a,b]:=match t,h with | [a,b],_=>⟨a,b,rfl⟩
theorem f_{α:Type}{t:List α}(h:t.length=1):∃a,t=[a]:=match t,h with | [a],_=>⟨a,rfl⟩
def Al(s:qO)(j:Nat):qO:=match s with
 | .ClassDef _ _ _ body _ _ _ _ _ _ _=>body.getD j (.Pass ⟨0,0,0,0⟩)
 | _=>.Pass ⟨0,0,0,0⟩
def BA(s:qO):Arguments:=match s with
 | .FunctionDef _ a _ _ _ _ _ _ _ _=>a
 | _=>{ posonlyargs:=[],args:=[],vararg:=none,kwonlyargs:=[],kw_defaults:=[],kwarg:=none,defaults:=[] }
def Bp(s:qO):List qO:=match s with
 | .FunctionDef _ _ b _ _ _ _ _ _ _=>b
 | _=>[]
def Am(s:qO):qP:=match s with
 | .FunctionDef _ _ _ _ _ _ sc _ _ _=>sc
 | _=>{ kind:=.function,names:=[],isGenerator:=false,isCoroutine:=false }
end L2
namespace Stow
open PySem L2 PyProof.Rows
abbrev bN(o:Obj)(l r:BT):BT:=.node o l r
abbrev bF(o:Obj):BT:=.node o .nil .nil
noncomputable section
def top(i:Nat):qO:=PySem.Challenge.pw_stow_k50_handles.main.body.getD i (.Pass ⟨0,0,0,0⟩)
noncomputable def en(P:rA)(s:Str)(t:Tok)(v:qG):DictEntry:=⟨PyData.keyHash P s,.str s t,v⟩
noncomputable def fo(nm qn:Str)(st:qO)(dV kV dc pm:qG)(an:Option qH)(cd ct:qG)(od:Option qH):Obj:=⟨.type "function",od,.func (fnOf nm qn (BA st) (Bp st) (Am st) dV kV dc pm an cd ct),#[]⟩
noncomputable def fq(nm qn:Str)(st:qO):Obj:=⟨.none,none,.func { name:=nm,qualname:=qn,params:=BA st,body:=.stmts (Bp st),scope:=Am st,globals:=0,closure:=[],defaults:=.none,kwdefaults:=.none },#[]⟩
noncomputable def tu(l:List qG):Obj:=⟨(.type "tuple"),none,.seq l.toArray 0,#[]⟩
noncomputable def fl(l:List qG):Obj:=⟨.none,none,.fields l.toArray,#[]⟩
noncomputable def co(l:List qG):Obj:=⟨(.type "code"),none,.fields l.toArray,#[]⟩
noncomputable abbrev vI(n:Int):qG:=.int n 0
noncomputable abbrev vR(n:qH):qG:=.ref n
noncomputable abbrev cp(a b:Str)(t:Tok)(l:List qG):Obj:=co ((.str a t)::(.str b (t+1))::(.str "/claim/cut.py" (t+2))::l)
noncomputable def xk0(a b:Str)(t:Tok)(l n x:Int)(r:qH)(u:Int)(v:Tok):Obj:=cp a b t (vI l::vI n::vI 0::vI 0::vI x::vR r::(.bool false)::vI 181::vR (r+1)::.none::.none::.none::.none::vI u::vI l::(.str "/claim/cut.py" v)::[])
noncomputable def xfm0(l:List (Option qG)):Obj:=⟨(.type "frame"),none,.plain,l.toArray⟩
noncomputable def xk1(a b:Str)(t:Tok)(l n x:Int)(r:qH)(u:Int)(v:Tok):Obj:=cp a b t (vI l::vI n::vI 0::vI 0::vI x::vR r::(.bool true)::vI 181::vR (r+1)::.none::vR (r+2)::vR (r+3)::vR (r+4)::vI u::vI l::(.str "/claim/cut.py" v)::[])
noncomputable def xbi0(l:List qG):Obj:=⟨(.type "builtin_function_or_method"),none,.fields l.toArray,#[]⟩
noncomputable def xsu0(l:List qG):Obj:=⟨(.type "super"),none,.fields l.toArray,#[]⟩
def AL:Obj:=⟨(.type "tuple"),none,.seq #[] 0,#[]⟩
def BM:Obj:=⟨.none,none,.fields #[],#[]⟩
noncomputable def tn(t:Tok)(l:List Str):List qG:=l.foldr (λs f t=>.str s t::f (t+1)) (λ_=>[]) t
noncomputable def f3(l:List (Int×Int×qH)):List qG:=l.flatMap λp=>[vI p.1,vI p.2.1,vR p.2.2]
noncomputable def rs(l:List qH):List qG:=l.map .ref
noncomputable def fm(n q:Str)(s:qO)(m:qG)(c:qH):Obj:=fo n q s .none .none .none m none (.ref c) .none none
noncomputable def fn(n:Str)(s:qO)(m:qG)(c:qH):Obj:=fm n n s m c
noncomputable def fd(n q:Str)(s:qO)(d:qH)(m:qG)(c:qH):Obj:=fo n q s (.ref d) .none .none m none (.ref c) .none none
noncomputable def xf(a b:qH)(m:qG):Obj:=xfm0 ((some (.ref a))::(some (.ref 3))::(some (.ref b))::none::(some m)::none::(some (.ref 0))::[])
noncomputable def xs(a:qH):Obj:=xsu0 ((.ref a)::(.ref a)::(.ref a)::[])
noncomputable def xb(a:qH):Obj:=xbi0 ((.builtin "object.__init_subclass__")::(.ref a)::[])
noncomputable def eM(P:rA)(t:Tok)(m:qG):DictEntry:=en P "__module__" t m
noncomputable def eL(P:rA)(l:Int)(t:Tok):DictEntry:=en P "__firstlineno__" (t+1) (.int l t)
noncomputable def eQ(P:rA)(n:Str)(t:Tok):DictEntry:=en P "__qualname__" (t+1) (.str n t)
noncomputable def eS(P:rA)(t:Tok)(a:qH):DictEntry:=en P "__static_attributes__" t (.ref a)
noncomputable def eD(P:rA)(t:Tok):DictEntry:=en P "__doc__" t .none
noncomputable def eF(P:rA)(n:Str)(t:Tok)(a:qH):DictEntry:=en P n t (.ref a)
noncomputable def dd(l:List DictEntry)(n:Nat):Obj:=⟨(.type "dict"),none,.dict l.toArray n,#[]⟩
noncomputable def cX(n:Str)(b:List qG)(r:List qH)(w:List qG)(d:qH)(u:List qG)(x:qH)(t v:Tok)(e:String):Obj:=⟨(.type "type"),none,.cls ⟨n,b,rs r++w,d,n,true,[],u,false,none,false⟩,((some (.ref x))::none::(some (.str n t))::(some (.str n v))::(some (.builtin e))::(some (.bool true))::[]).toArray⟩
noncomputable def cO(n:Str)(b:List qG)(r:List qH)(d:qH)(u:List qG)(x:qH)(t v:Tok):Obj:=cX n b r [(.type "object")] d u x t v "object.__new__"
noncomputable def cV(n:Str)(b:List qG)(r:List qH)(d:qH)(u:List qG)(x:qH)(t v:Tok):Obj:=cX n b r [(.type "ValueError"),(.type "Exception"),(.type "BaseException"),(.type "object")] d u x t v "ValueError.__new__"
noncomputable def dq(t:Tok)(l:List Str)(n q:Str)(s:qO)(c f:Obj)(r:List Obj):List Obj:=AL::BM::tu (tn t l)::AL::fq n q s::c::f::r
noncomputable def dg(t:Tok)(l:List Str)(n:Str)(s:qO)(c f:Obj)(r:List Obj):List Obj:=dq t l n n s c f r
noncomputable def sp2(l:List Obj):List Obj×List Obj:=l.foldr (λx p=>(x::p.2,p.1)) ([],[])
noncomputable def bt:Nat->List Obj->BT
 | n+1,x::r=>.node x (bt n (sp2 r).1) (bt n (sp2 r).2)
 | _,_=>.nil
noncomputable def up(l:List Obj)(u:List (Nat×Obj)):List Obj:=u.foldl (λl p=>l.set p.1 p.2) l
noncomputable def mo0:qG:=.str "__main__" 164
noncomputable def mo1:qG:=.str "stow.errors" 194
noncomputable def mo2:qG:=.str "stow.asks" 440
noncomputable def mo3:qG:=.str "stow.marks" 460
noncomputable def mo4:qG:=.str "stow.looks" 484
noncomputable def mo5:qG:=.str "stow.pieces" 525
noncomputable def mo6:qG:=.str "stow.moving" 655
noncomputable def mo7:qG:=.str "stow.keepers" 723
noncomputable def mo8:qG:=.str "stow.places" 876
noncomputable def mo9:qG:=.str "stow.stretches" 903
noncomputable def tU:qG:=.str "stow.handles" 1119
noncomputable def t_:qG:=.str "law_stow_k50_handles" 1253
def Ni:Obj:=xk0 "<module>" "<module>" 182 1 0 0 11 185 186
def Zb:Obj:=xf 13 3 mo0
def IN:Obj:=xk1 "_wall" "_wall" 187 1 1 3 15 191 192
def IO:Obj:=fn "_wall" (top 0) mo0 20
def AR:Obj:=xbi0 ((.builtin "type.__prepare__")::(.type "type")::[])
def IP(P:rA):Obj:=dd (eM P 203 mo1::eQ P "StowError" 204::eL P 5 206::eS P 208 29::[]) 4
def IQ(P:rA):Obj:=dd (eM P 203 mo1::eL P 5 206::eS P 208 29::eF P "__weakref__" 210 32::eD P 211::[]) 3
def Bq:Obj:=tu (vR 31::[])
def IR(P:rA):Obj:=dd (eM P 221 mo1::eQ P "NoName" 222::eL P 7 224::eS P 226 42::[]) 4
def IS(P:rA):Obj:=dd (eM P 221 mo1::eL P 7 224::eS P 226 42::eD P 227::[]) 2
def IT:Obj:=cV "NoName" (rs [31]) [44,31] 43 (rs []) 35 214 222
def IU(P:rA):Obj:=dd (eM P 237 mo1::eQ P "NoSize" 238::eL P 9 240::eS P 242 54::[]) 4
def IV(P:rA):Obj:=dd (eM P 237 mo1::eL P 9 240::eS P 242 54::eD P 243::[]) 2
def IW:Obj:=cV "NoSize" (rs [31]) [56,31] 55 (rs []) 47 230 238
def IX(P:rA):Obj:=dd (eM P 253 mo1::eQ P "Broken" 254::eL P 11 256::eF P "__init__" 265 72::eS P 267 73::[]) 5
def IY(P:rA):Obj:=dd (eM P 253 mo1::eL P 11 256::eF P "__init__" 265 72::eS P 267 73::eD P 268::[]) 2
def IZ:Obj:=cV "Broken" (rs [31]) [75,31] 74 (rs []) 59 246 254
def I0(P:rA):Obj:=dd (eM P 278 mo1::eQ P "NoGive" 279::eL P 15 281::eS P 283 85::[]) 4
def Ja(P:rA):Obj:=dd (eM P 278 mo1::eL P 15 281::eS P 283 85::eD P 284::[]) 2
def Jb:Obj:=cV "NoGive" (rs [31]) [87,31] 86 (rs []) 78 271 279
def Jc(P:rA):Obj:=dd (eM P 294 mo1::eQ P "NoHandle" 295::eL P 17 297::eS P 299 97::[]) 4
def Jd(P:rA):Obj:=dd (eM P 294 mo1::eL P 17 297::eS P 299 97::eD P 300::[]) 2
def Je:Obj:=cV "NoHandle" (rs [31]) [99,31] 98 (rs []) 90 287 295
def Jf(P:rA):Obj:=dd (eM P 310 mo1::eQ P "NoPiece" 311::eL P 19 313::eS P 315 109::[]) 4
def Sw(P:rA):Obj:=dd (eM P 310 mo1::eL P 19 313::eS P 315 109::eD P 316::[]) 2
def Sx:Obj:=cV "NoPiece" (rs [31]) [111,31] 110 (rs []) 102 303 311
def Sy(P:rA):Obj:=dd (eM P 326 mo1::eQ P "NoCell" 327::eL P 21 329::eS P 331 121::[]) 4
def Sz(P:rA):Obj:=dd (eM P 326 mo1::eL P 21 329::eS P 331 121::eD P 332::[]) 2
def SA:Obj:=cV "NoCell" (rs [31]) [123,31] 122 (rs []) 114 319 327
def SC:Obj:=cV "StowError" [(.type "ValueError")] [31] 30 (rs [44,56,75,87,99,111,123,135,147,159,178,190,202]) 22 196 204
def SD(P:rA):Obj:=dd (eM P 342 mo1::eQ P "NoAsk" 343::eL P 23 345::eS P 347 133::[]) 4
def SE(P:rA):Obj:=dd (eM P 342 mo1::eL P 23 345::eS P 347 133::eD P 348::[]) 2
def SG:Obj:=cV "NoAsk" (rs [31]) [135,31] 134 (rs []) 126 335 343
def SH(P:rA):Obj:=dd (eM P 358 mo1::eQ P "NoBound" 359::eL P 25 361::eS P 363 145::[]) 4
def SI(P:rA):Obj:=dd (eM P 358 mo1::eL P 25 361::eS P 363 145::eD P 364::[]) 2
def SJ:Obj:=cV "NoBound" (rs [31]) [147,31] 146 (rs []) 138 351 359
def SK(P:rA):Obj:=dd (eM P 374 mo1::eQ P "NoRoom" 375::eL P 27 377::eS P 379 157::[]) 4
def SL(P:rA):Obj:=dd (eM P 374 mo1::eL P 27 377::eS P 379 157::eD P 380::[]) 2
def SM:Obj:=cV "NoRoom" (rs [31]) [159,31] 158 (rs []) 150 367 375
def SN(P:rA):Obj:=dd (eM P 390 mo1::eQ P "BadLine" 391::eL P 29 393::eF P "__init__" 402 175::eS P 404 176::[]) 5
def SO(P:rA):Obj:=dd (eM P 390 mo1::eL P 29 393::eF P "__init__" 402 175::eS P 404 176::eD P 405::[]) 2
def SQ:Obj:=cV "BadLine" (rs [31]) [178,31] 177 (rs []) 162 383 391
def SR(P:rA):Obj:=dd (eM P 415 mo1::eQ P "NoLine" 416::eL P 33 418::eS P 420 188::[]) 4
def SS(P:rA):Obj:=dd (eM P 415 mo1::eL P 33 418::eS P 420 188::eD P 421::[]) 2
def ST:Obj:=cV "NoLine" (rs [31]) [190,31] 189 (rs []) 181 408 416
def SU(P:rA):Obj:=dd (eM P 431 mo1::eQ P "NoTurn" 432::eL P 35 434::eS P 436 200::[]) 4
def SV(P:rA):Obj:=dd (eM P 431 mo1::eL P 35 434::eS P 436 200::eD P 437::[]) 2
def SW:Obj:=cV "NoTurn" (rs [31]) [202,31] 201 (rs []) 193 424 432
def SX:Obj:=xk1 "check_ask" "check_ask" 444 39 2 3 205 449 450
def SY:Obj:=fn "check_ask" (top 18) mo2 210
def SZ:Obj:=xk1 "check_plain_ask" "check_plain_ask" 452 42 2 3 212 457 458
def S0:Obj:=fn "check_plain_ask" (top 19) mo2 217
def S6:Obj:=xk1 "mark_of" "mark_of" 462 47 2 3 219 467 468
def S8:Obj:=fn "mark_of" (top 21) mo3 224
def S9:Obj:=xk1 "long_of" "long_of" 470 51 1 3 226 474 475
def Ta:Obj:=fn "long_of" (top 22) mo3 231
def Tb:Obj:=xk1 "live_of" "live_of" 477 53 1 3 233 481 482
def Tc:Obj:=fn "live_of" (top 23) mo3 238
def Td:Obj:=xk1 "can_begin" "can_begin" 488 57 2 3 240 494 495
def Te:Obj:=fn "can_begin" (top 26) mo4 245
def Tf:Obj:=xk1 "bad_of_piece" "bad_of_piece" 497 62 2 3 247 503 504
def Tg:Obj:=fn "bad_of_piece" (top 27) mo4 252
def Th:Obj:=xk1 "looked" "looked" 506 69 1 3 254 514 515
def Ti:Obj:=fn "looked" (top 28) mo4 259
def Tj:Obj:=xk1 "fresh_room" "fresh_room" 517 80 1 3 261 522 523
def Tk:Obj:=fn "fresh_room" (top 29) mo4 266
def Tl:Obj:=xk1 "laid" "laid" 527 88 4 3 268 535 536
def Tm:Obj:=fn "laid" (top 31) mo5 273
def Tn:Obj:=xk1 "laid_free" "laid_free" 538 93 3 3 275 544 545
def To:Obj:=fn "laid_free" (top 32) mo5 280
def Tp:Obj:=xk1 "piece_at" "piece_at" 547 97 2 3 282 553 554
def Tq:Obj:=fn "piece_at" (top 33) mo5 287
def Tr:Obj:=xk1 "live_at" "live_at" 556 102 2 3 289 562 563
def Ts:Obj:=fn "live_at" (top 34) mo5 294
def Tt:Obj:=xk1 "free_at" "free_at" 565 107 2 3 296 571 572
def Tu:Obj:=fn "free_at" (top 35) mo5 301
def Tv:Obj:=cp "begin_around" "begin_around" 574 (vI 112::vI 2::vI 0::vI 0::vI 3::vR 303::(.bool true)::vI 181::vR 304::.none::.none::.none::vR 305::vI 577::vI 112::(.str "/claim/cut.py" 578)::[])
def Tw:Obj:=fn "begin_around" (top 36) mo5 306
def Tx:Obj:=xk1 "free_begin" "free_begin" 580 115 2 3 308 585 586
def Ty:Obj:=fn "free_begin" (top 37) mo5 313
def TB:Obj:=xk1 "free_end" "free_end" 588 119 2 3 315 593 594
def TD:Obj:=fn "free_end" (top 38) mo5 320
def TF:Obj:=xk1 "cut_out" "cut_out" 596 123 4 3 322 608 609
def TJ:Obj:=fn "cut_out" (top 39) mo5 327
def TK:Obj:=xk1 "freed" "freed" 611 131 2 3 329 619 620
def TL:Obj:=fn "freed" (top 40) mo5 334
def TM:Obj:=xk1 "joined_pieces" "joined_pieces" 622 134 1 3 336 630 631
def TN:Obj:=fn "joined_pieces" (top 41) mo5 341
def TQ:Obj:=xk1 "joined" "joined" 633 142 1 3 343 641 642
def TR:Obj:=fn "joined" (top 42) mo5 348
def TU:Obj:=xk1 "carried" "carried" 644 147 4 3 350 652 653
def TV:Obj:=fn "carried" (top 43) mo5 355
def TW:Obj:=xk1 "starts_of" "starts_of" 657 151 1 3 357 665 666
def TY:Obj:=fn "starts_of" (top 45) mo6 362
def TZ:Obj:=xk1 "stops_of" "stops_of" 668 157 2 3 364 678 679
def T0:Obj:=fn "stops_of" (top 46) mo6 369
def T3:Obj:=xk1 "best_plan" "best_plan" 681 165 2 3 371 694 695
def T4:Obj:=fn "best_plan" (top 47) mo6 376
def T5:Obj:=xk1 "moved_down" "moved_down" 697 175 3 3 378 708 709
def T6:Obj:=fn "moved_down" (top 48) mo6 383
def T7:Obj:=xk1 "gathered" "gathered" 711 183 2 3 385 720 721
def T8:Obj:=fn "gathered" (top 49) mo6 390
def T9(P:rA):Obj:=dd (eM P 732 mo7::eQ P "Keeper" 733::eL P 192 735::eF P "__init__" 744 405::eF P "cells" 751 412::eF P "pieces" 758 419::eF P "lay" 766 426::eF P "clear" 773 433::eF P "many" 784 440::eF P "get" 793 447::eF P "put" 804 454::eF P "ask" 814 462::eF P "give" 825 469::eF P "grow" 837 477::eF P "room_begin" 845 484::eF P "room_cell_of" 855 491::eF P "room_moved" 866 498::eS P 868 499::[]) 18
def Ua:Obj:=xk1 "__init__" "Keeper.__init__" 737 194 2 3 399 742 743
def Ub:Obj:=fm "__init__" "Keeper.__init__" (Al (top 51) 0) mo7 404
def Uc:Obj:=xk1 "cells" "Keeper.cells" 745 197 1 3 406 749 750
def Ud:Obj:=fm "cells" "Keeper.cells" (Al (top 51) 1) mo7 411
def Ue:Obj:=xk1 "pieces" "Keeper.pieces" 752 200 1 3 413 756 757
def Ug:Obj:=fm "pieces" "Keeper.pieces" (Al (top 51) 2) mo7 418
def Uh:Obj:=xk1 "lay" "Keeper.lay" 759 203 2 3 420 764 765
def Ui:Obj:=fm "lay" "Keeper.lay" (Al (top 51) 3) mo7 425
def Uj:Obj:=xk1 "many" "Keeper.many" 774 212 2 3 434 782 783
def Uk:Obj:=fm "many" "Keeper.many" (Al (top 51) 5) mo7 439
def Ul:Obj:=xk1 "get" "Keeper.get" 785 216 3 3 441 791 792
def Um:Obj:=fm "get" "Keeper.get" (Al (top 51) 6) mo7 446
def Uo:Obj:=xk1 "put" "Keeper.put" 794 219 4 3 448 802 803
def Up:Obj:=fm "put" "Keeper.put" (Al (top 51) 7) mo7 453
def Uq:Obj:=xk1 "room_cell_of" "Keeper.room_cell_of" 846 241 3 3 485 853 854
def Ur:Obj:=fm "room_cell_of" "Keeper.room_cell_of" (Al (top 51) 12) mo7 490
def Us:Obj:=xk1 "room_moved" "Keeper.room_moved" 856 247 4 3 492 864 865
def Ut:Obj:=fm "room_moved" "Keeper.room_moved" (Al (top 51) 13) mo7 497
def Uu(P:rA):Obj:=dd (eM P 732 mo7::eL P 192 735::eF P "__init__" 744 405::eF P "cells" 751 412::eF P "pieces" 758 419::eF P "lay" 766 426::eF P "clear" 773 433::eF P "many" 784 440::eF P "get" 793 447::eF P "put" 804 454::eF P "ask" 814 462::eF P "give" 825 469::eF P "grow" 837 477::eF P "room_begin" 845 484::eF P "room_cell_of" 855 491::eF P "room_moved" 866 498::eS P 868 499::eF P "__dict__" 870 502::eF P "__weakref__" 872 503::eD P 873::[]) 4
def Uv:Obj:=⟨(.type "type"),none,.cls ⟨"Keeper",[(.type "object")],[(.ref 501),(.type "object")],500,"Keeper",true,[],[(.ref 580)],false,none,false⟩,(none::none::(some (.str "Keeper" 725))::(some (.str "Keeper" 733))::(some (.builtin "object.__new__"))::(some (.bool true))::[]).toArray⟩
def Uw:Obj:=xk1 "first_place" "first_place" 878 253 3 3 506 888 889
def Ux:Obj:=fn "first_place" (top 53) mo8 511
def Uy:Obj:=xk1 "spots_for" "spots_for" 891 259 3 3 513 900 901
def Uz:Obj:=fn "spots_for" (top 54) mo8 518
def UA:Obj:=xk1 "least_place" "least_place" 905 267 1 3 520 909 910
def UB:Obj:=fn "least_place" (top 56) mo9 525
def UC(P:rA):Obj:=dd (eM P 919 mo9::eQ P "Stretches" 920::eL P 271 922::eF P "chosen" 932 540::eF P "ask" 944 548::eF P "give" 952 555::eF P "grow" 968 563::eF P "room_begin" 976 570::eF P "room_granted" 984 577::eS P 986 578::[]) 10
def UD:Obj:=tu ((.int 1 933)::[])
def UE:Obj:=xk1 "ask" "Stretches.ask" 934 276 3 3 542 942 943
def UF:Obj:=fd "ask" "Stretches.ask" (Al (top 57) 1) 541 mo9 547
def UG:Obj:=xk1 "give" "Stretches.give" 945 286 2 3 549 950 951
def UH:Obj:=fm "give" "Stretches.give" (Al (top 57) 2) mo9 554
def UI:Obj:=tu ((.int 1 953)::[])
def UJ:Obj:=xk1 "grow" "Stretches.grow" 954 289 4 3 557 966 967
def UK:Obj:=fd "grow" "Stretches.grow" (Al (top 57) 3) 556 mo9 562
def UL:Obj:=xk1 "room_begin" "Stretches.room_begin" 969 299 2 3 564 974 975
def UM:Obj:=fm "room_begin" "Stretches.room_begin" (Al (top 57) 4) mo9 569
def UN:Obj:=xk1 "room_granted" "Stretches.room_granted" 977 302 2 3 571 982 983
def UO:Obj:=fm "room_granted" "Stretches.room_granted" (Al (top 57) 5) mo9 576
def UP(P:rA):Obj:=dd (eM P 919 mo9::eL P 271 922::eF P "chosen" 932 540::eF P "ask" 944 548::eF P "give" 952 555::eF P "grow" 968 563::eF P "room_begin" 976 570::eF P "room_granted" 984 577::eS P 986 578::eD P 987::[]) 2
def EC:Obj:=cO "Stretches" (rs [501]) [580,501] 579 (rs [597,614,659,676]) 527 912 920
def Nj:Obj:=tu (vR 580::[])
def UQ(P:rA):Obj:=dd (eM P 997 mo9::eQ P "First" 998::eL P 304 1000::eF P "chosen" 1007 594::eS P 1008 595::[]) 5
def UR:Obj:=cp "chosen" "First.chosen" 1002 (vI 306::vI 3::vI 0::vI 0::vI 3::vR 590::(.bool true)::vI 181::vR 591::.none::.none::.none::vR 592::vI 1005::vI 306::(.str "/claim/cut.py" 1006)::[])
def US:Obj:=fm "chosen" "First.chosen" (Al (top 58) 0) mo9 593
def UT(P:rA):Obj:=dd (eM P 997 mo9::eL P 304 1000::eF P "chosen" 1007 594::eS P 1008 595::eD P 1009::[]) 2
def UU:Obj:=cO "First" (rs [580]) [597,580,501] 596 (rs []) 583 990 998
def UV(P:rA):Obj:=dd (eM P 1019 mo9::eQ P "Best" 1020::eL P 309 1022::eF P "chosen" 1029 611::eS P 1030 612::[]) 5
def UW:Obj:=cp "chosen" "Best.chosen" 1024 (vI 311::vI 3::vI 0::vI 0::vI 3::vR 607::(.bool true)::vI 181::vR 608::.none::.none::.none::vR 609::vI 1027::vI 311::(.str "/claim/cut.py" 1028)::[])
def UX:Obj:=fm "chosen" "Best.chosen" (Al (top 59) 0) mo9 610
def ED(P:rA):Obj:=dd (eM P 1019 mo9::eL P 309 1022::eF P "chosen" 1029 611::eS P 1030 612::eD P 1031::[]) 2
def UY:Obj:=cO "Best" (rs [580]) [614,580,501] 613 (rs []) 600 1012 1020
def UZ(P:rA):Obj:=dd (eM P 1041 mo9::eQ P "Next" 1042::eL P 315 1044::eF P "__init__" 1053 630::eF P "rover" 1060 637::eF P "chosen" 1066 642::eF P "room_begin" 1074 649::eF P "room_granted" 1082 656::eS P 1085 657::[]) 9
def U0:Obj:=xk1 "__init__" "Next.__init__" 1046 317 2 3 624 1051 1052
def U1:Obj:=fm "__init__" "Next.__init__" (Al (top 60) 0) mo9 629
def U2:Obj:=cp "chosen" "Next.chosen" 1061 (vI 324::vI 3::vI 0::vI 0::vI 3::vR 638::(.bool true)::vI 181::vR 639::.none::.none::.none::vR 640::vI 1064::vI 324::(.str "/claim/cut.py" 1065)::[])
def U3:Obj:=fm "chosen" "Next.chosen" (Al (top 60) 2) mo9 641
def U4:Obj:=xk1 "room_begin" "Next.room_begin" 1067 328 2 3 643 1072 1073
def U5:Obj:=fm "room_begin" "Next.room_begin" (Al (top 60) 3) mo9 648
def U6:Obj:=xk1 "room_granted" "Next.room_granted" 1075 332 2 3 650 1080 1081
def U7:Obj:=fm "room_granted" "Next.room_granted" (Al (top 60) 4) mo9 655
def U8(P:rA):Obj:=dd (eM P 1041 mo9::eL P 315 1044::eF P "__init__" 1053 630::eF P "rover" 1060 637::eF P "chosen" 1066 642::eF P "room_begin" 1074 649::eF P "room_granted" 1082 656::eS P 1085 657::eD P 1086::[]) 2
def U9:Obj:=cO "Next" (rs [580]) [659,580,501] 658 (rs []) 617 1034 1042
def Va(P:rA):Obj:=dd (eM P 1096 mo9::eQ P "Likes" 1097::eL P 334 1099::eF P "chosen" 1106 673::eS P 1107 674::[]) 5
def Vb:Obj:=cp "chosen" "Likes.chosen" 1101 (vI 336::vI 3::vI 0::vI 0::vI 3::vR 669::(.bool true)::vI 181::vR 670::.none::.none::.none::vR 671::vI 1104::vI 336::(.str "/claim/cut.py" 1105)::[])
def Vc:Obj:=fm "chosen" "Likes.chosen" (Al (top 61) 0) mo9 672
def Vd(P:rA):Obj:=dd (eM P 1096 mo9::eL P 334 1099::eF P "chosen" 1106 673::eS P 1107 674::eD P 1108::[]) 2
def Ve:Obj:=cO "Likes" (rs [580]) [676,580,501] 675 (rs []) 662 1089 1097
def Vf:Obj:=xk1 "stretches_of" "stretches_of" 1111 340 2 3 679 1116 1117
def Vg:Obj:=fn "stretches_of" (top 62) mo9 684
def PP:Obj:=cp "followed" "followed" 1121 (vI 351::vI 2::vI 0::vI 0::vI 3::vR 686::(.bool true)::vI 181::vR 687::.none::.none::.none::vR 688::vI 1124::vI 351::(.str "/claim/cut.py" 1125)::[])
def Vh:Obj:=fn "followed" (top 64) tU 689
def Vi(P:rA):Obj:=dd (eM P 1134 tU::eQ P "Handles" 1135::eL P 354 1137::eF P "__init__" 1147 704::eF P "cells" 1154 711::eF P "pieces" 1161 718::eF P "handles" 1168 725::eF P "place" 1176 732::eF P "many" 1184 739::eF P "get" 1193 746::eF P "put" 1203 753::eF P "ask" 1213 760::eF P "give" 1221 767::eF P "grow" 1231 774::eF P "gather" 1241 781::eS P 1245 782::[]) 16
def Vj:Obj:=xk1 "__init__" "Handles.__init__" 1139 356 3 3 698 1145 1146
def Vk:Obj:=fm "__init__" "Handles.__init__" (Al (top 65) 0) tU 703
def Vl:Obj:=xk1 "cells" "Handles.cells" 1148 361 1 3 705 1152 1153
def Vm:Obj:=fm "cells" "Handles.cells" (Al (top 65) 1) tU 710
def Vn:Obj:=xk1 "handles" "Handles.handles" 1162 367 1 3 719 1166 1167
def Vo:Obj:=fm "handles" "Handles.handles" (Al (top 65) 3) tU 724
def EE:Obj:=xk1 "place" "Handles.place" 1169 370 2 3 726 1174 1175
def Vp:Obj:=fm "place" "Handles.place" (Al (top 65) 4) tU 731
def Vq:Obj:=xk1 "many" "Handles.many" 1177 375 2 3 733 1182 1183
def Vr:Obj:=fm "many" "Handles.many" (Al (top 65) 5) tU 738
def Vs:Obj:=xk1 "get" "Handles.get" 1185 378 3 3 740 1191 1192
def Vt:Obj:=fm "get" "Handles.get" (Al (top 65) 6) tU 745
def Vu:Obj:=xk1 "put" "Handles.put" 1194 381 4 3 747 1201 1202
def Vv:Obj:=fm "put" "Handles.put" (Al (top 65) 7) tU 752
def Vw:Obj:=xk1 "ask" "Handles.ask" 1204 384 2 3 754 1211 1212
def Vx:Obj:=fm "ask" "Handles.ask" (Al (top 65) 8) tU 759
def Vy:Obj:=xk1 "give" "Handles.give" 1214 395 2 3 761 1219 1220
def Vz:Obj:=fm "give" "Handles.give" (Al (top 65) 9) tU 766
def VA:Obj:=xk1 "grow" "Handles.grow" 1222 399 3 3 768 1229 1230
def VB:Obj:=fm "grow" "Handles.grow" (Al (top 65) 10) tU 773
def VC:Obj:=xk1 "gather" "Handles.gather" 1232 408 2 3 775 1239 1240
def VD:Obj:=fm "gather" "Handles.gather" (Al (top 65) 11) tU 780
def VE(P:rA):Obj:=dd (eM P 1134 tU::eL P 354 1137::eF P "__init__" 1147 704::eF P "cells" 1154 711::eF P "pieces" 1161 718::eF P "handles" 1168 725::eF P "place" 1176 732::eF P "many" 1184 739::eF P "get" 1193 746::eF P "put" 1203 753::eF P "ask" 1213 760::eF P "give" 1221 767::eF P "grow" 1231 774::eF P "gather" 1241 781::eS P 1245 782::eF P "__dict__" 1247 785::eF P "__weakref__" 1249 786::eD P 1250::[]) 4
def VF:Obj:=⟨(.type "type"),none,.cls ⟨"Handles",[(.type "object")],[(.ref 784),(.type "object")],783,"Handles",true,[],[],false,none,false⟩,(none::none::(some (.str "Handles" 1127))::(some (.str "Handles" 1135))::(some (.builtin "object.__new__"))::(some (.bool true))::[]).toArray⟩
def EF(P:rA):Obj:=dd (en P "__name__" 165 (.str "law_stow_k50_handles" 1253)::eD P 166::en P "__package__" 167 .none::en P "__loader__" 168 (.builtin "__main__.__loader__#opaque")::en P "__spec__" 169 .none::eF P "__annotations__" 170 6::eF P "__builtins__" 171 4::en P "__file__" 173 (.str "/claim/cut.py" 172)::en P "__cached__" 174 .none::eF P "_wall" 193 21::eF P "StowError" 213 31::eF P "NoName" 229 44::eF P "NoSize" 245 56::eF P "Broken" 270 75::eF P "NoGive" 286 87::eF P "NoHandle" 302 99::eF P "NoPiece" 318 111::eF P "NoCell" 334 123::eF P "NoAsk" 350 135::eF P "NoBound" 366 147::eF P "NoRoom" 382 159::eF P "BadLine" 407 178::eF P "NoLine" 423 190::eF P "NoTurn" 439 202::en P "MARKS" 443 (.int 2 442)::eF P "check_ask" 451 211::eF P "check_plain_ask" 459 218::eF P "mark_of" 469 225::eF P "long_of" 476 232::eF P "live_of" 483 239::en P "LEAST_LIVE" 487 (.int 3 486)::eF P "can_begin" 496 246::eF P "bad_of_piece" 505 253::eF P "looked" 516 260::eF P "fresh_room" 524 267::eF P "laid" 537 274::eF P "laid_free" 546 281::eF P "piece_at" 555 288::eF P "live_at" 564 295::eF P "free_at" 573 302::eF P "begin_around" 579 307::eF P "free_begin" 587 314::eF P "free_end" 595 321::eF P "cut_out" 610 328::eF P "freed" 621 335::eF P "joined_pieces" 632 342::eF P "joined" 643 349::eF P "carried" 654 356::eF P "starts_of" 667 363::eF P "stops_of" 680 370::eF P "best_plan" 696 377::eF P "moved_down" 710 384::eF P "gathered" 722 391::eF P "Keeper" 875 501::eF P "first_place" 890 512::eF P "spots_for" 902 519::eF P "least_place" 911 526::eF P "Stretches" 989 580::eF P "First" 1011 597::eF P "Best" 1033 614::eF P "Next" 1088 659::eF P "Likes" 1110 676::eF P "stretches_of" 1118 685::eF P "followed" 1126 690::eF P "Handles" 1252 784::eF P "_law_cell_at" 1262 795::eF P "_law_whole" 1269 802::eF P "_law_walk" 1280 809::eF P "_law_words" 1286 814::eF P "_law_done" 1297 821::eF P "_law_call" 1311 828::eF P "_law_made" 1323 835::eF P "_law_due" 1335 842::eF P "_law_seen" 1341 847::eF P "_law_right" 1354 854::eF P "_law_step" 1374 861::eF P "law" 1387 868::[]) 77
def EG:Obj:=xk1 "_law_cell_at" "_law_cell_at" 1255 415 2 3 789 1260 1261
def EH:Obj:=fn "_law_cell_at" (top 67) t_ 794
def EI:Obj:=xk1 "_law_whole" "_law_whole" 1263 419 1 3 796 1267 1268
def EJ:Obj:=fn "_law_whole" (top 68) t_ 801
def EK:Obj:=xk1 "_law_walk" "_law_walk" 1270 421 1 3 803 1278 1279
def EL:Obj:=fn "_law_walk" (top 69) t_ 808
def EM:Obj:=cp "_law_words" "_law_words" 1281 (vI 438::vI 1::vI 0::vI 0::vI 3::vR 810::(.bool true)::vI 181::vR 811::.none::.none::.none::vR 812::vI 1284::vI 438::(.str "/claim/cut.py" 1285)::[])
def EN:Obj:=fn "_law_words" (top 70) t_ 813
def EO:Obj:=xk1 "_law_done" "_law_done" 1287 442 5 3 815 1295 1296
def EQ:Obj:=fn "_law_done" (top 71) t_ 820
def ER:Obj:=xk1 "_law_call" "_law_call" 1298 460 5 3 822 1309 1310
def ES:Obj:=fn "_law_call" (top 72) t_ 827
def ET:Obj:=xk1 "_law_made" "_law_made" 1312 472 1 3 829 1321 1322
def EU:Obj:=fn "_law_made" (top 73) t_ 834
def EV:Obj:=xk1 "_law_due" "_law_due" 1324 485 6 3 836 1333 1334
def EW:Obj:=fn "_law_due" (top 74) t_ 841
def EY:Obj:=cp "_law_seen" "_law_seen" 1336 (vI 501::vI 2::vI 0::vI 0::vI 3::vR 843::(.bool true)::vI 181::vR 844::.none::.none::.none::vR 845::vI 1339::vI 501::(.str "/claim/cut.py" 1340)::[])
def EZ:Obj:=fn "_law_seen" (top 75) t_ 846
def E1:Obj:=xk1 "_law_right" "_law_right" 1342 514 7 3 848 1352 1353
def E2:Obj:=fn "_law_right" (top 76) t_ 853
def E3:Obj:=xk1 "_law_step" "_law_step" 1355 526 5 3 855 1372 1373
def E4:Obj:=fn "_law_step" (top 77) t_ 860
def E5:Obj:=xk1 "law" "law" 1375 547 1 3 862 1385 1386
def E6:Obj:=fn "law" (top 78) t_ 867
noncomputable def q0(P:rA):List Obj:=PySem.W.boot_o_0 P::PySem.W.boot_o_1 P::boot_o_2 P::PySem.W.boot_o_3 P::boot_o_4 P::PySem.W.boot_o_5 P::PySem.W.boot_o_6 P::PySem.W.boot_o_7 P::PySem.W.boot_o_8 P::PySem.W.boot_o_9 P::PySem.W.boot_o_10 P::AL::BM::Ni::Zb::[]
noncomputable def q1(P:rA):List Obj:=up (q0 P) [(3,dd (en P "__name__" 165 (.str "stow.errors" 194)::eD P 166::en P "__package__" 167 .none::en P "__loader__" 168 (.builtin "__main__.__loader__#opaque")::en P "__spec__" 169 .none::eF P "__annotations__" 170 6::eF P "__builtins__" 171 4::en P "__file__" 173 (.str "/claim/cut.py" 172)::en P "__cached__" 174 .none::eF P "_wall" 193 21::eF P "StowError" 213 31::eF P "NoName" 229 44::eF P "NoSize" 245 56::eF P "Broken" 270 75::eF P "NoGive" 286 87::eF P "NoHandle" 302 99::eF P "NoPiece" 318 111::eF P "NoCell" 334 123::[]) 18),(12,fl (f3 [(1,0,20),(5,0,27),(7,0,40),(9,0,52),(11,0,64),(15,0,83),(17,0,95),(19,0,107),(21,0,119)]))]++(dg 190 ["k"] "_wall" (top 0) IN IO (tu ((.type "ValueError")::[])::AR::IP P::AL::BM::xk0 "StowError" "StowError" 198 5 0 0 25 201 202::xf 27 24 mo1::AL::IQ P::cV "StowError" [(.type "ValueError")] [31] 30 (rs [44,56,75,87,99,111,123]) 22 196 204::⟨(.type "getset_descriptor"),none,.fields ((.str "__weakref__" 209)::(.ref 31)::(.builtin "ExceptionGroup.__weakref__")::.none::[]).toArray,#[]⟩::xs 31::xb 31::Bq::AR::IR P::AL::BM::xk0 "NoName" "NoName" 216 7 0 0 38 219 220::xf 40 37 mo1::AL::IS P::IT::xs 44::xb 44::Bq::AR::IU P::AL::BM::xk0 "NoSize" "NoSize" 232 9 0 0 50 235 236::xf 52 49 mo1::AL::IV P::IW::xs 56::xb 56::Bq::AR::IX P::AL::fl (f3 [(13,4,71)])::xk0 "Broken" "Broken" 248 11 0 0 62 251 252::xf 64 61 mo1::dq 261 ["self","cell"] "__init__" "Broken.__init__" (Al (top 5) 0) (xk1 "__init__" "Broken.__init__" 258 13 2 3 66 263 264) (fm "__init__" "Broken.__init__" (Al (top 5) 0) mo1 71) (tu (tn 266 ["cell"])::IY P::IZ::xs 75::xb 75::Bq::AR::I0 P::AL::BM::xk0 "NoGive" "NoGive" 273 15 0 0 81 276 277::xf 83 80 mo1::AL::Ja P::Jb::xs 87::xb 87::Bq::AR::Jc P::AL::BM::xk0 "NoHandle" "NoHandle" 289 17 0 0 93 292 293::xf 95 92 mo1::AL::Jd P::Je::xs 99::xb 99::Bq::AR::Jf P::AL::BM::xk0 "NoPiece" "NoPiece" 305 19 0 0 105 308 309::xf 107 104 mo1::AL::Sw P::Sx::xs 111::xb 111::Bq::AR::Sy P::AL::BM::xk0 "NoCell" "NoCell" 321 21 0 0 117 324 325::xf 119 116 mo1::AL::Sz P::SA::xs 123::xb 123::[])))
noncomputable def q2(P:rA):List Obj:=up (q1 P) [(3,dd (en P "__name__" 165 (.str "stow.pieces" 525)::eD P 166::en P "__package__" 167 .none::en P "__loader__" 168 (.builtin "__main__.__loader__#opaque")::en P "__spec__" 169 .none::eF P "__annotations__" 170 6::eF P "__builtins__" 171 4::en P "__file__" 173 (.str "/claim/cut.py" 172)::en P "__cached__" 174 .none::eF P "_wall" 193 21::eF P "StowError" 213 31::eF P "NoName" 229 44::eF P "NoSize" 245 56::eF P "Broken" 270 75::eF P "NoGive" 286 87::eF P "NoHandle" 302 99::eF P "NoPiece" 318 111::eF P "NoCell" 334 123::eF P "NoAsk" 350 135::eF P "NoBound" 366 147::eF P "NoRoom" 382 159::eF P "BadLine" 407 178::eF P "NoLine" 423 190::eF P "NoTurn" 439 202::en P "MARKS" 443 (.int 2 442)::eF P "check_ask" 451 211::eF P "check_plain_ask" 459 218::eF P "mark_of" 469 225::eF P "long_of" 476 232::eF P "live_of" 483 239::en P "LEAST_LIVE" 487 (.int 3 486)::eF P "can_begin" 496 246::eF P "bad_of_piece" 505 253::eF P "looked" 516 260::eF P "fresh_room" 524 267::eF P "laid" 537 274::eF P "laid_free" 546 281::[]) 37),(12,fl (f3 [(1,0,20),(5,0,27),(7,0,40),(9,0,52),(11,0,64),(15,0,83),(17,0,95),(19,0,107),(21,0,119),(23,0,131),(25,0,143),(27,0,155),(29,0,167),(33,0,186),(35,0,198),(39,0,210),(42,0,217),(47,0,224),(51,0,231),(53,0,238),(57,0,245),(62,0,252),(69,0,259),(80,0,266),(88,0,273),(93,0,280)])),(31,SC)]++(Bq::AR::SD P::AL::BM::xk0 "NoAsk" "NoAsk" 337 23 0 0 129 340 341::xf 131 128 mo1::AL::SE P::SG::xs 135::xb 135::Bq::AR::SH P::AL::BM::xk0 "NoBound" "NoBound" 353 25 0 0 141 356 357::xf 143 140 mo1::AL::SI P::SJ::xs 147::xb 147::Bq::AR::SK P::AL::BM::xk0 "NoRoom" "NoRoom" 369 27 0 0 153 372 373::xf 155 152 mo1::AL::SL P::SM::xs 159::xb 159::Bq::AR::SN P::AL::fl (f3 [(31,4,174)])::xk0 "BadLine" "BadLine" 385 29 0 0 165 388 389::xf 167 164 mo1::dq 398 ["self","line"] "__init__" "BadLine.__init__" (Al (top 13) 0) (xk1 "__init__" "BadLine.__init__" 395 31 2 3 169 400 401) (fm "__init__" "BadLine.__init__" (Al (top 13) 0) mo1 174) (tu (tn 403 ["line"])::SO P::SQ::xs 178::xb 178::Bq::AR::SR P::AL::BM::xk0 "NoLine" "NoLine" 410 33 0 0 184 413 414::xf 186 183 mo1::AL::SS P::ST::xs 190::xb 190::Bq::AR::SU P::AL::BM::xk0 "NoTurn" "NoTurn" 426 35 0 0 196 429 430::xf 198 195 mo1::AL::SV P::SW::xs 202::xb 202::dg 447 ["count","bound"] "check_ask" (top 18) SX SY (dg 455 ["count","bound"] "check_plain_ask" (top 19) SZ S0 (dg 465 ["long","live"] "mark_of" (top 21) S6 S8 (dg 473 ["number"] "long_of" (top 22) S9 Ta (dg 480 ["number"] "live_of" (top 23) Tb Tc (dg 491 ["cells","at","long"] "can_begin" (top 26) Td Te (dg 500 ["cells","at","last"] "bad_of_piece" (top 27) Tf Tg (dg 509 ["cells","pieces","at","bad","long"] "looked" (top 28) Th Ti (dg 520 ["count","cells"] "fresh_room" (top 29) Tj Tk (dg 530 ["cells","at","long","live","row"] "laid" (top 31) Tl Tm (dg 541 ["cells","begin","end"] "laid_free" (top 32) Tn To ([])))))))))))))
noncomputable def q3(P:rA):List Obj:=up (q2 P) [(3,dd (en P "__name__" 165 (.str "stow.stretches" 903)::eD P 166::en P "__package__" 167 .none::en P "__loader__" 168 (.builtin "__main__.__loader__#opaque")::en P "__spec__" 169 .none::eF P "__annotations__" 170 6::eF P "__builtins__" 171 4::en P "__file__" 173 (.str "/claim/cut.py" 172)::en P "__cached__" 174 .none::eF P "_wall" 193 21::eF P "StowError" 213 31::eF P "NoName" 229 44::eF P "NoSize" 245 56::eF P "Broken" 270 75::eF P "NoGive" 286 87::eF P "NoHandle" 302 99::eF P "NoPiece" 318 111::eF P "NoCell" 334 123::eF P "NoAsk" 350 135::eF P "NoBound" 366 147::eF P "NoRoom" 382 159::eF P "BadLine" 407 178::eF P "NoLine" 423 190::eF P "NoTurn" 439 202::en P "MARKS" 443 (.int 2 442)::eF P "check_ask" 451 211::eF P "check_plain_ask" 459 218::eF P "mark_of" 469 225::eF P "long_of" 476 232::eF P "live_of" 483 239::en P "LEAST_LIVE" 487 (.int 3 486)::eF P "can_begin" 496 246::eF P "bad_of_piece" 505 253::eF P "looked" 516 260::eF P "fresh_room" 524 267::eF P "laid" 537 274::eF P "laid_free" 546 281::eF P "piece_at" 555 288::eF P "live_at" 564 295::eF P "free_at" 573 302::eF P "begin_around" 579 307::eF P "free_begin" 587 314::eF P "free_end" 595 321::eF P "cut_out" 610 328::eF P "freed" 621 335::eF P "joined_pieces" 632 342::eF P "joined" 643 349::eF P "carried" 654 356::eF P "starts_of" 667 363::eF P "stops_of" 680 370::eF P "best_plan" 696 377::eF P "moved_down" 710 384::eF P "gathered" 722 391::eF P "Keeper" 875 501::eF P "first_place" 890 512::eF P "spots_for" 902 519::eF P "least_place" 911 526::eF P "Stretches" 989 580::[]) 58),(12,fl (f3 [(1,0,20),(5,0,27),(7,0,40),(9,0,52),(11,0,64),(15,0,83),(17,0,95),(19,0,107),(21,0,119),(23,0,131),(25,0,143),(27,0,155),(29,0,167),(33,0,186),(35,0,198),(39,0,210),(42,0,217),(47,0,224),(51,0,231),(53,0,238),(57,0,245),(62,0,252),(69,0,259),(80,0,266),(88,0,273),(93,0,280),(97,0,287),(102,0,294),(107,0,301),(112,0,306),(115,0,313),(119,0,320),(123,0,327),(131,0,334),(134,0,341),(142,0,348),(147,0,355),(151,0,362),(157,0,369),(165,0,376),(175,0,383),(183,0,390),(192,0,397),(253,0,511),(259,0,518),(267,0,525),(271,0,532)]))]++(dg 550 ["cells","at","piece"] "piece_at" (top 33) Tp Tq (dg 559 ["cells","at","piece"] "live_at" (top 34) Tr Ts (dg 568 ["cells","at","piece"] "free_at" (top 35) Tt Tu (AL::BM::fq "begin_around" "begin_around" (top 36)::Tv::Tw::dg 583 ["cells","at"] "free_begin" (top 37) Tx Ty (dg 591 ["cells","end"] "free_end" (top 38) TB TD (dg 599 ["cells","at","place","long","begin","free_long","live","end","row"] "cut_out" (top 39) TF TJ (dg 614 ["cells","at","begin","long","live"] "freed" (top 40) TK TL (dg 625 ["pieces","row","at","long","live"] "joined_pieces" (top 41) TM TN (dg 636 ["cells","row","at","long","live"] "joined" (top 42) TQ TR (dg 647 ["cells","source","goal","count","row"] "carried" (top 43) TU TV (dg 660 ["pieces","starts","at","long","live"] "starts_of" (top 45) TW TY (dg 671 ["pieces","count","stops","ahead","at","long","live"] "stops_of" (top 46) TZ T0 (dg 684 ["cells","need","pieces","stops","plans","start","ahead","stop","ahead_of_stop","moved"] "best_plan" (top 47) T3 T4 (dg 700 ["cells","start","stop","row","goal","at","long","live"] "moved_down" (top 48) T5 T6 (dg 714 ["cells","need","plan","moved","start","stop"] "gathered" (top 49) T7 T8 (AL::AR::T9 P::AL::fl (f3 [(194,4,404),(197,4,411),(200,4,418),(203,4,425),(209,4,432),(212,4,439),(216,4,446),(219,4,453),(223,4,461),(227,4,468),(231,4,476),(238,4,483),(241,4,490),(247,4,497)])::xk0 "Keeper" "Keeper" 727 192 0 0 395 730 731::xf 397 394 mo7::dq 740 ["self","size"] "__init__" "Keeper.__init__" (Al (top 51) 0) Ua Ub (dq 748 ["self"] "cells" "Keeper.cells" (Al (top 51) 1) Uc Ud (dq 755 ["self"] "pieces" "Keeper.pieces" (Al (top 51) 2) Ue Ug (dq 762 ["self","cells"] "lay" "Keeper.lay" (Al (top 51) 3) Uh Ui (dq 770 ["self"] "clear" "Keeper.clear" (Al (top 51) 4) (xk1 "clear" "Keeper.clear" 767 209 1 3 427 771 772) (fm "clear" "Keeper.clear" (Al (top 51) 4) mo7 432) (dq 777 ["self","place","at","long","live"] "many" "Keeper.many" (Al (top 51) 5) Uj Uk (dq 788 ["self","place","k"] "get" "Keeper.get" (Al (top 51) 6) Ul Um (dq 797 ["self","place","k","number","cell"] "put" "Keeper.put" (Al (top 51) 7) Uo Up (tu ((.int 1 805)::[])::dq 809 ["self","count","bound"] "ask" "Keeper.ask" (Al (top 51) 8) (xk1 "ask" "Keeper.ask" 806 223 3 3 456 812 813) (fd "ask" "Keeper.ask" (Al (top 51) 8) 455 mo7 461) (dq 818 ["self","place","at","long","live"] "give" "Keeper.give" (Al (top 51) 9) (xk1 "give" "Keeper.give" 815 227 2 3 463 823 824) (fm "give" "Keeper.give" (Al (top 51) 9) mo7 468) (tu ((.int 1 826)::[])::dq 830 ["self","place","count","bound","had"] "grow" "Keeper.grow" (Al (top 51) 10) (xk1 "grow" "Keeper.grow" 827 231 4 3 471 835 836) (fd "grow" "Keeper.grow" (Al (top 51) 10) 470 mo7 476) (dq 841 ["self","cells"] "room_begin" "Keeper.room_begin" (Al (top 51) 11) (xk1 "room_begin" "Keeper.room_begin" 838 238 2 3 478 843 844) (fm "room_begin" "Keeper.room_begin" (Al (top 51) 11) mo7 483) (dq 849 ["self","place","k","many"] "room_cell_of" "Keeper.room_cell_of" (Al (top 51) 12) Uq Ur (dq 859 ["self","place","count","bound","goal"] "room_moved" "Keeper.room_moved" (Al (top 51) 13) Us Ut (tu (tn 867 ["room_cells"])::Uu P::Uv::⟨(.type "getset_descriptor"),none,.fields ((.str "__dict__" 869)::(.ref 501)::(.builtin "function.__dict__")::(.builtin "function.__dict__#set")::[]).toArray,#[]⟩::⟨(.type "getset_descriptor"),none,.fields ((.str "__weakref__" 871)::(.ref 501)::(.builtin "ExceptionGroup.__weakref__")::.none::[]).toArray,#[]⟩::xs 501::xb 501::dg 881 ["piece","long","bound","at","piece_long","live","place"] "first_place" (top 53) Uw Ux (dg 894 ["cells","long","bound","spots","piece","place"] "spots_for" (top 54) Uy Uz (dg 908 ["ranked"] "least_place" (top 56) UA UB (tu (vR 501::[])::AR::UC P::AL::fl (f3 [(273,4,539),(276,4,547),(286,4,554),(289,4,562),(299,4,569),(302,4,576)])::xk0 "Stretches" "Stretches" 914 271 0 0 530 917 918::xf 532 529 mo9::dq 927 ["self","long","bound"] "chosen" "Stretches.chosen" (Al (top 57) 0) (xk1 "chosen" "Stretches.chosen" 924 273 3 3 534 930 931) (fm "chosen" "Stretches.chosen" (Al (top 57) 0) mo9 539) (UD::dq 937 ["self","count","bound","long","at"] "ask" "Stretches.ask" (Al (top 57) 1) UE UF (dq 948 ["self","place"] "give" "Stretches.give" (Al (top 57) 2) UG UH (UI::dq 957 ["self","place","count","bound","at","had","live","long","end"] "grow" "Stretches.grow" (Al (top 57) 3) UJ UK (dq 972 ["self","cells"] "room_begin" "Stretches.room_begin" (Al (top 57) 4) UL UM (dq 980 ["self","behind"] "room_granted" "Stretches.room_granted" (Al (top 57) 5) UN UO (tu (tn 985 ["room_cells"])::UP P::cO "Stretches" (rs [501]) [580,501] 579 (rs []) 527 912 920::xs 580::xb 580::[])))))))))))))))))))))))))))))))))))))))
noncomputable def q4(P:rA):List Obj:=up (q3 P) [(3,dd (en P "__name__" 165 (.str "stow.handles" 1119)::eD P 166::en P "__package__" 167 .none::en P "__loader__" 168 (.builtin "__main__.__loader__#opaque")::en P "__spec__" 169 .none::eF P "__annotations__" 170 6::eF P "__builtins__" 171 4::en P "__file__" 173 (.str "/claim/cut.py" 172)::en P "__cached__" 174 .none::eF P "_wall" 193 21::eF P "StowError" 213 31::eF P "NoName" 229 44::eF P "NoSize" 245 56::eF P "Broken" 270 75::eF P "NoGive" 286 87::eF P "NoHandle" 302 99::eF P "NoPiece" 318 111::eF P "NoCell" 334 123::eF P "NoAsk" 350 135::eF P "NoBound" 366 147::eF P "NoRoom" 382 159::eF P "BadLine" 407 178::eF P "NoLine" 423 190::eF P "NoTurn" 439 202::en P "MARKS" 443 (.int 2 442)::eF P "check_ask" 451 211::eF P "check_plain_ask" 459 218::eF P "mark_of" 469 225::eF P "long_of" 476 232::eF P "live_of" 483 239::en P "LEAST_LIVE" 487 (.int 3 486)::eF P "can_begin" 496 246::eF P "bad_of_piece" 505 253::eF P "looked" 516 260::eF P "fresh_room" 524 267::eF P "laid" 537 274::eF P "laid_free" 546 281::eF P "piece_at" 555 288::eF P "live_at" 564 295::eF P "free_at" 573 302::eF P "begin_around" 579 307::eF P "free_begin" 587 314::eF P "free_end" 595 321::eF P "cut_out" 610 328::eF P "freed" 621 335::eF P "joined_pieces" 632 342::eF P "joined" 643 349::eF P "carried" 654 356::eF P "starts_of" 667 363::eF P "stops_of" 680 370::eF P "best_plan" 696 377::eF P "moved_down" 710 384::eF P "gathered" 722 391::eF P "Keeper" 875 501::eF P "first_place" 890 512::eF P "spots_for" 902 519::eF P "least_place" 911 526::eF P "Stretches" 989 580::eF P "First" 1011 597::eF P "Best" 1033 614::eF P "Next" 1088 659::eF P "Likes" 1110 676::eF P "stretches_of" 1118 685::eF P "followed" 1126 690::eF P "Handles" 1252 784::[]) 65),(12,fl (f3 [(1,0,20),(5,0,27),(7,0,40),(9,0,52),(11,0,64),(15,0,83),(17,0,95),(19,0,107),(21,0,119),(23,0,131),(25,0,143),(27,0,155),(29,0,167),(33,0,186),(35,0,198),(39,0,210),(42,0,217),(47,0,224),(51,0,231),(53,0,238),(57,0,245),(62,0,252),(69,0,259),(80,0,266),(88,0,273),(93,0,280),(97,0,287),(102,0,294),(107,0,301),(112,0,306),(115,0,313),(119,0,320),(123,0,327),(131,0,334),(134,0,341),(142,0,348),(147,0,355),(151,0,362),(157,0,369),(165,0,376),(175,0,383),(183,0,390),(192,0,397),(253,0,511),(259,0,518),(267,0,525),(271,0,532),(304,0,588),(309,0,605),(315,0,622),(334,0,667),(340,0,684),(351,0,689),(354,0,696)])),(580,EC)]++(Nj::AR::UQ P::AL::fl (f3 [(306,4,593)])::xk0 "First" "First" 992 304 0 0 586 995 996::xf 588 585 mo9::AL::BM::fq "chosen" "First.chosen" (Al (top 58) 0)::UR::US::AL::UT P::UU::xs 597::xb 597::Nj::AR::UV P::AL::fl (f3 [(311,4,610)])::xk0 "Best" "Best" 1014 309 0 0 603 1017 1018::xf 605 602 mo9::AL::BM::fq "chosen" "Best.chosen" (Al (top 59) 0)::UW::UX::AL::ED P::UY::xs 614::xb 614::Nj::AR::UZ P::AL::fl (f3 [(317,4,629),(321,4,636),(324,4,641),(328,4,648),(332,4,655)])::xk0 "Next" "Next" 1036 315 0 0 620 1039 1040::xf 622 619 mo9::dq 1049 ["self","size"] "__init__" "Next.__init__" (Al (top 60) 0) U0 U1 (dq 1057 ["self"] "rover" "Next.rover" (Al (top 60) 1) (xk1 "rover" "Next.rover" 1054 321 1 3 631 1058 1059) (fm "rover" "Next.rover" (Al (top 60) 1) mo9 636) (AL::BM::fq "chosen" "Next.chosen" (Al (top 60) 2)::U2::U3::dq 1070 ["self","cells"] "room_begin" "Next.room_begin" (Al (top 60) 3) U4 U5 (dq 1078 ["self","behind"] "room_granted" "Next.room_granted" (Al (top 60) 4) U6 U7 (tu (tn 1083 ["room_cells","room_rover"])::U8 P::U9::xs 659::xb 659::Nj::AR::Va P::AL::fl (f3 [(336,4,672)])::xk0 "Likes" "Likes" 1091 334 0 0 665 1094 1095::xf 667 664 mo9::AL::BM::fq "chosen" "Likes.chosen" (Al (top 61) 0)::Vb::Vc::AL::Vd P::Ve::xs 676::xb 676::dg 1114 ["word","size"] "stretches_of" (top 62) Vf Vg (AL::BM::fq "followed" "followed" (top 64)::PP::Vh::AL::AR::Vi P::AL::fl (f3 [(356,4,703),(361,4,710),(364,4,717),(367,4,724),(370,4,731),(375,4,738),(378,4,745),(381,4,752),(384,4,759),(395,4,766),(399,4,773),(408,4,780)])::xk0 "Handles" "Handles" 1129 354 0 0 694 1132 1133::xf 696 693 tU::dq 1142 ["self","size","word"] "__init__" "Handles.__init__" (Al (top 65) 0) Vj Vk (dq 1151 ["self"] "cells" "Handles.cells" (Al (top 65) 1) Vl Vm (dq 1158 ["self"] "pieces" "Handles.pieces" (Al (top 65) 2) (xk1 "pieces" "Handles.pieces" 1155 364 1 3 712 1159 1160) (fm "pieces" "Handles.pieces" (Al (top 65) 2) tU 717) (dq 1165 ["self"] "handles" "Handles.handles" (Al (top 65) 3) Vn Vo (dq 1172 ["self","handle"] "place" "Handles.place" (Al (top 65) 4) EE Vp (dq 1180 ["self","handle"] "many" "Handles.many" (Al (top 65) 5) Vq Vr (dq 1188 ["self","handle","k"] "get" "Handles.get" (Al (top 65) 6) Vs Vt (dq 1197 ["self","handle","k","number"] "put" "Handles.put" (Al (top 65) 7) Vu Vv (dq 1207 ["self","count","place","handle"] "ask" "Handles.ask" (Al (top 65) 8) Vw Vx (dq 1217 ["self","handle"] "give" "Handles.give" (Al (top 65) 9) Vy Vz (dq 1225 ["self","handle","count","place"] "grow" "Handles.grow" (Al (top 65) 10) VA VB (dq 1235 ["self","need","moved","cells"] "gather" "Handles.gather" (Al (top 65) 11) VC VD (tu (tn 1242 ["coming","keeper","places"])::VE P::VF::⟨(.type "getset_descriptor"),none,.fields ((.str "__dict__" 1246)::(.ref 784)::(.builtin "function.__dict__")::(.builtin "function.__dict__#set")::[]).toArray,#[]⟩::⟨(.type "getset_descriptor"),none,.fields ((.str "__weakref__" 1248)::(.ref 784)::(.builtin "ExceptionGroup.__weakref__")::.none::[]).toArray,#[]⟩::xs 784::xb 784::[]))))))))))))))))))
noncomputable def q5(P:rA):List Obj:=up (q4 P) [(3,EF P),(12,fl (f3 [(1,0,20),(5,0,27),(7,0,40),(9,0,52),(11,0,64),(15,0,83),(17,0,95),(19,0,107),(21,0,119),(23,0,131),(25,0,143),(27,0,155),(29,0,167),(33,0,186),(35,0,198),(39,0,210),(42,0,217),(47,0,224),(51,0,231),(53,0,238),(57,0,245),(62,0,252),(69,0,259),(80,0,266),(88,0,273),(93,0,280),(97,0,287),(102,0,294),(107,0,301),(112,0,306),(115,0,313),(119,0,320),(123,0,327),(131,0,334),(134,0,341),(142,0,348),(147,0,355),(151,0,362),(157,0,369),(165,0,376),(175,0,383),(183,0,390),(192,0,397),(253,0,511),(259,0,518),(267,0,525),(271,0,532),(304,0,588),(309,0,605),(315,0,622),(334,0,667),(340,0,684),(351,0,689),(354,0,696),(415,0,794),(419,0,801),(421,0,808),(438,0,813),(442,0,820),(460,0,827),(472,0,834),(485,0,841),(501,0,846),(514,0,853),(526,0,860),(547,0,867)]))]++(dg 1258 ["_law_script","_law_k"] "_law_cell_at" (top 67) EG EH (dg 1266 ["_law_found"] "_law_whole" (top 68) EI EJ (dg 1273 ["_law_cells","_law_told","_law_at","_law_long","_law_live"] "_law_walk" (top 69) EK EL (AL::BM::fq "_law_words" "_law_words" (top 70)::EM::EN::dg 1290 ["_law_desk","_law_which","_law_one","_law_count","_law_k"] "_law_done" (top 71) EO EQ (dg 1301 ["_law_desk","_law_which","_law_one","_law_count","_law_k","_law_flags","_law_told","e"] "_law_call" (top 72) ER ES (dg 1315 ["_law_script","_law_cell","_law_word","_law_size","_law_odd","_law_low"] "_law_made" (top 73) ET EU (dg 1327 ["_law_held","_law_which","_law_one","_law_count","_law_k","_law_size"] "_law_due" (top 74) EV EW (AL::BM::fq "_law_seen" "_law_seen" (top 75)::EY::EZ::dg 1345 ["_law_desk","_law_held","_law_which","_law_one","_law_count","_law_k","_law_told"] "_law_right" (top 76) E1 E2 (dg 1358 ["_law_desk","_law_held","_law_upto","_law_cell","_law_size","_law_which","_law_low","_law_count","_law_one","_law_k","_law_before","_law_due_here","_law_words_here","_law_told"] "_law_step" (top 77) E3 E4 (dg 1378 ["_law_script","_law_desk","_law_size","_law_held","_law_upto","_law_cell","_law_right_here"] "law" (top 78) E5 E6 ([])))))))))))
noncomputable def vH:rA->rB:=λP=>⟨Array.mk (q0 P),⟨[],[],[],0,[],[],false,#[],[],0,false,false,false,0,[2000,10,10],false,0,true,[],[],0,false⟩⟩
def Jg:List qO:=PySem.W.behindTheImports PySem.Challenge.pw_stow_k50_handles
def sts0:List qO:=(Jg.drop 0).take 10
def sts1:List qO:=(Jg.drop 10).take 23
def sts2:List qO:=(Jg.drop 33).take 25
def sts3:List qO:=(Jg.drop 58).take 8
def sts4:List qO:=(Jg.drop 66).take 13
def all0:List qO:=sts0++(sts1++(sts2++(sts3++(sts4++[]))))
def env0:rC:={ scope:=(PySem.Challenge.pw_stow_k50_handles).main.scope,locals:=mainNs,globals:=mainNs,cells:=[],code:=(.ref 13),frame:=some 14 }
def Cy:Code:=.body all0 env0
theorem pre0(w:qL)(os:OsState):PySem.W.topGo treeTable PySem.Challenge.pw_stow_k50_handles w 11 (some (.ref 6)) 12 ⟨boot_heap w.params,Array.mk [],boot_drawn,boot_toks,os⟩ (topStub PySem.Challenge.pw_stow_k50_handles)=some (⟨vH w.params,#[],⟨0,0,0,0⟩,187,os⟩,⟨denote treeTable (.body all0 env0),Cy,⟨0,0,0,0⟩,[topFrame ⟨0,0,0,0⟩]⟩):=by kernel_rfl
noncomputable def uI:rA->BT:=λP=>bt 11 (q0 P)
theorem blk0(w:qL)(os:OsState):PySem.W.segRun treeTable PySem.Challenge.pw_stow_k50_handles w 11 (some (.ref 6)) 1 1 ⟨vH w.params,#[],⟨0,0,0,0⟩,187,os⟩ (PySem.W.blockOf all0 env0 Cy ⟨0,0,0,0⟩ [topFrame ⟨0,0,0,0⟩])=some (.next,(cv.mk (uI w.params) 15 ⟨[],[],[],0,[],[],false,#[],[],0,false,false,false,0,[2000,10,10],false,0,true,[],[],0,false⟩ #[] ⟨0,0,0,0⟩ 187 os).abs,Cy,⟨0,0,0,0⟩):=by kernel_rfl
noncomputable def VG:rA->BT:=λP=>bt 11 (q1 P)
theorem grp0(w:qL)(os:OsState):segRunT treeTable PySem.Challenge.pw_stow_k50_handles w 11 (some (.ref 6)) 1 1748 (cv.mk (uI w.params) 15 ⟨[],[],[],0,[],[],false,#[],[],0,false,false,false,0,[2000,10,10],false,0,true,[],[],0,false⟩ #[] ⟨0,0,0,0⟩ 187 os) (piecesOf sts0 env0 Cy ⟨0,0,0,0⟩ [topFrame ⟨0,0,0,0⟩])=some (.next,(cv.mk (VG w.params) 126 ⟨[],[],[],0,[],[],false,#[],[],0,false,false,false,0,[2000,10,10],false,0,true,[],[],0,false⟩ #[] ⟨0,0,0,0⟩ 335 os),Cy,⟨21,0,22,8⟩):=by kernel_rfl
noncomputable def VH:rA->BT:=λP=>bt 11 (q2 P)
theorem grp1(w:qL)(os:OsState):segRunT treeTable PySem.Challenge.pw_stow_k50_handles w 11 (some (.ref 6)) 1 1702 (cv.mk (VG w.params) 126 ⟨[],[],[],0,[],[],false,#[],[],0,false,false,false,0,[2000,10,10],false,0,true,[],[],0,false⟩ #[] ⟨0,0,0,0⟩ 335 os) (piecesOf sts1 env0 Cy ⟨21,0,22,8⟩ [topFrame ⟨0,0,0,0⟩])=some (.next,(cv.mk (VH w.params) 282 ⟨[],[],[],0,[],[],false,#[],[],0,false,false,false,0,[2000,10,10],false,0,true,[],[],0,false⟩ #[] ⟨0,0,0,0⟩ 547 os),Cy,⟨93,0,96,49⟩):=by kernel_rfl
noncomputable def VI:rA->BT:=λP=>bt 11 (q3 P)
theorem grp2(w:qL)(os:OsState):segRunT treeTable PySem.Challenge.pw_stow_k50_handles w 11 (some (.ref 6)) 1 1737 (cv.mk (VH w.params) 282 ⟨[],[],[],0,[],[],false,#[],[],0,false,false,false,0,[2000,10,10],false,0,true,[],[],0,false⟩ #[] ⟨0,0,0,0⟩ 547 os) (piecesOf sts2 env0 Cy ⟨93,0,96,49⟩ [topFrame ⟨0,0,0,0⟩])=some (.next,(cv.mk (VI w.params) 583 ⟨[],[],[],0,[],[],false,#[],[],0,false,false,false,0,[2000,10,10],false,0,true,[],[],0,false⟩ #[] ⟨0,0,0,0⟩ 990 os),Cy,⟨271,0,303,12⟩):=by kernel_rfl
noncomputable def VJ:rA->BT:=λP=>bt 11 (q4 P)
theorem grp3(w:qL)(os:OsState):segRunT treeTable PySem.Challenge.pw_stow_k50_handles w 11 (some (.ref 6)) 1 1794 (cv.mk (VI w.params) 583 ⟨[],[],[],0,[],[],false,#[],[],0,false,false,false,0,[2000,10,10],false,0,true,[],[],0,false⟩ #[] ⟨0,0,0,0⟩ 990 os) (piecesOf sts3 env0 Cy ⟨271,0,303,12⟩ [topFrame ⟨0,0,0,0⟩])=some (.next,(cv.mk (VJ w.params) 789 ⟨[],[],[],0,[],[],false,#[],[],0,false,false,false,0,[2000,10,10],false,0,true,[],[],0,false⟩ #[] ⟨0,0,0,0⟩ 1253 os),Cy,⟨354,0,413,20⟩):=by kernel_rfl
noncomputable def Jh:rA->BT:=λP=>bt 11 (q5 P)
theorem grp4(w:qL)(os:OsState):segRunT treeTable PySem.Challenge.pw_stow_k50_handles w 11 (some (.ref 6)) 1 403 (cv.mk (VJ w.params) 789 ⟨[],[],[],0,[],[],false,#[],[],0,false,false,false,0,[2000,10,10],false,0,true,[],[],0,false⟩ #[] ⟨0,0,0,0⟩ 1253 os) (piecesOf sts4 env0 Cy ⟨354,0,413,20⟩ [topFrame ⟨0,0,0,0⟩])=some (.next,(cv.mk (Jh w.params) 869 ⟨[],[],[],0,[],[],false,#[],[],0,false,false,false,0,[2000,10,10],false,0,true,[],[],0,false⟩ #[] ⟨0,0,0,0⟩ 1388 os),Cy,⟨547,0,558,42⟩):=by kernel_rfl
theorem fin0(w:qL)(os:OsState):topRun treeTable PySem.Challenge.pw_stow_k50_handles w 11 (some (.ref 6)) 2 ⟨absHeap (Jh w.params) 869 ⟨[],[],[],0,[],[],false,#[],[],0,false,false,false,0,[2000,10,10],false,0,true,[],[],0,false⟩,#[],⟨0,0,0,0⟩,1388,os⟩ (PySem.W.restOf [] env0 Cy ⟨547,0,558,42⟩ [topFrame ⟨0,0,0,0⟩])=some ⟨absHeap (Jh w.params) 869 ⟨[],[],[],0,[],[],false,#[],[],0,false,false,false,0,[2000,10,10],false,0,true,[],[],0,false⟩,#[],⟨0,0,0,0⟩,1388,os⟩:=by kernel_rfl
theorem run0(w:qL)(os:OsState):topRun treeTable PySem.Challenge.pw_stow_k50_handles w 11 (some (.ref 6)) (12+(1+(1748+(1702+(1737+(1794+(403+2))))))) ⟨boot_heap w.params,Array.mk [],boot_drawn,boot_toks,os⟩ (topStub PySem.Challenge.pw_stow_k50_handles)=some ⟨absHeap (Jh w.params) 869 ⟨[],[],[],0,[],[],false,#[],[],0,false,false,false,0,[2000,10,10],false,0,true,[],[],0,false⟩,#[],⟨0,0,0,0⟩,1388,os⟩:=PySem.W.go_top (pre0 w os) (PySem.W.piece_block (blk0 w os) (piece_app (segRun_of (grp0 w os)) (piece_app (segRun_of (grp1 w os)) (piece_app (segRun_of (grp2 w os)) (piece_app (segRun_of (grp3 w os)) (piece_app (segRun_of (grp4 w os)) (fin0 w os)))))))
theorem open0(w:qL):(PySem.W.fencedOpening treeTable PySem.Challenge.pw_stow_k50_handles w 8099).map (λs=>(s.heap,s.gens,s.drawn,s.toks))=some (boot_heap w.params,Array.mk [],boot_drawn,boot_toks):=PySem.W.boot_open (by kernel_rfl) rfl (λs=>by kernel_rfl) w
noncomputable def heap0:rA->γ:=λP =>
 (nat_lit 2,boot_o_2 P)::
 (nat_lit 3,EF P)::
 (nat_lit 4,boot_o_4 P)::
 (nat_lit 20,IN)::
 (nat_lit 21,IO)::
 (nat_lit 24,IP P)::
 (nat_lit 30,IQ P)::
 (nat_lit 31,SC)::
 (nat_lit 37,IR P)::
 (nat_lit 43,IS P)::
 (nat_lit 44,IT)::
 (nat_lit 49,IU P)::
 (nat_lit 55,IV P)::
 (nat_lit 56,IW)::
 (nat_lit 61,IX P)::
 (nat_lit 74,IY P)::
 (nat_lit 75,IZ)::
 (nat_lit 80,I0 P)::
 (nat_lit 86,Ja P)::
 (nat_lit 87,Jb)::
 (nat_lit 92,Jc P)::
 (nat_lit 98,Jd P)::
 (nat_lit 99,Je)::
 (nat_lit 104,Jf P)::
 (nat_lit 110,Sw P)::
 (nat_lit 111,Sx)::
 (nat_lit 116,Sy P)::
 (nat_lit 122,Sz P)::
 (nat_lit 123,SA)::
 (nat_lit 128,SD P)::
 (nat_lit 134,SE P)::
 (nat_lit 135,SG)::
 (nat_lit 140,SH P)::
 (nat_lit 146,SI P)::
 (nat_lit 147,SJ)::
 (nat_lit 152,SK P)::
 (nat_lit 158,SL P)::
 (nat_lit 159,SM)::
 (nat_lit 164,SN P)::
 (nat_lit 177,SO P)::
 (nat_lit 178,SQ)::
 (nat_lit 183,SR P)::
 (nat_lit 189,SS P)::
 (nat_lit 190,ST)::
 (nat_lit 195,SU P)::
 (nat_lit 201,SV P)::
 (nat_lit 202,SW)::
 (nat_lit 210,SX)::
 (nat_lit 211,SY)::
 (nat_lit 217,SZ)::
 (nat_lit 218,S0)::
 (nat_lit 224,S6)::
 (nat_lit 225,S8)::
 (nat_lit 231,S9)::
 (nat_lit 232,Ta)::
 (nat_lit 238,Tb)::
 (nat_lit 239,Tc)::
 (nat_lit 245,Td)::
 (nat_lit 246,Te)::
 (nat_lit 252,Tf)::
 (nat_lit 253,Tg)::
 (nat_lit 259,Th)::
 (nat_lit 260,Ti)::
 (nat_lit 266,Tj)::
 (nat_lit 267,Tk)::
 (nat_lit 273,Tl)::
 (nat_lit 274,Tm)::
 (nat_lit 280,Tn)::
 (nat_lit 281,To)::
 (nat_lit 287,Tp)::
 (nat_lit 288,Tq)::
 (nat_lit 294,Tr)::
 (nat_lit 295,Ts)::
 (nat_lit 301,Tt)::
 (nat_lit 302,Tu)::
 (nat_lit 306,Tv)::
 (nat_lit 307,Tw)::
 (nat_lit 313,Tx)::
 (nat_lit 314,Ty)::
 (nat_lit 320,TB)::
 (nat_lit 321,TD)::
 (nat_lit 327,TF)::
 (nat_lit 328,TJ)::
 (nat_lit 334,TK)::
 (nat_lit 335,TL)::
 (nat_lit 341,TM)::
 (nat_lit 342,TN)::
 (nat_lit 348,TQ)::
 (nat_lit 349,TR)::
 (nat_lit 355,TU)::
 (nat_lit 356,TV)::
 (nat_lit 362,TW)::
 (nat_lit 363,TY)::
 (nat_lit 369,TZ)::
 (nat_lit 370,T0)::
 (nat_lit 376,T3)::
 (nat_lit 377,T4)::
 (nat_lit 383,T5)::
 (nat_lit 384,T6)::
 (nat_lit 390,T7)::
 (nat_lit 391,T8)::
 (nat_lit 394,T9 P)::
 (nat_lit 404,Ua)::
 (nat_lit 405,Ub)::
 (nat_lit 411,Uc)::
 (nat_lit 412,Ud)::
 (nat_lit 418,Ue)::
 (nat_lit 419,Ug)::
 (nat_lit 425,Uh)::
 (nat_lit 426,Ui)::
 (nat_lit 439,Uj)::
 (nat_lit 440,Uk)::
 (nat_lit 446,Ul)::
 (nat_lit 447,Um)::
 (nat_lit 453,Uo)::
 (nat_lit 454,Up)::
 (nat_lit 490,Uq)::
 (nat_lit 491,Ur)::
 (nat_lit 497,Us)::
 (nat_lit 498,Ut)::
 (nat_lit 500,Uu P)::
 (nat_lit 501,Uv)::
 (nat_lit 511,Uw)::
 (nat_lit 512,Ux)::
 (nat_lit 518,Uy)::
 (nat_lit 519,Uz)::
 (nat_lit 525,UA)::
 (nat_lit 526,UB)::
 (nat_lit 529,UC P)::
 (nat_lit 541,UD)::
 (nat_lit 547,UE)::
 (nat_lit 548,UF)::
 (nat_lit 554,UG)::
 (nat_lit 555,UH)::
 (nat_lit 556,UI)::
 (nat_lit 562,UJ)::
 (nat_lit 563,UK)::
 (nat_lit 569,UL)::
 (nat_lit 570,UM)::
 (nat_lit 576,UN)::
 (nat_lit 577,UO)::
 (nat_lit 579,UP P)::
 (nat_lit 580,EC)::
 (nat_lit 585,UQ P)::
 (nat_lit 593,UR)::
 (nat_lit 594,US)::
 (nat_lit 596,UT P)::
 (nat_lit 597,UU)::
 (nat_lit 602,UV P)::
 (nat_lit 610,UW)::
 (nat_lit 611,UX)::
 (nat_lit 613,ED P)::
 (nat_lit 614,UY)::
 (nat_lit 619,UZ P)::
 (nat_lit 629,U0)::
 (nat_lit 630,U1)::
 (nat_lit 641,U2)::
 (nat_lit 642,U3)::
 (nat_lit 648,U4)::
 (nat_lit 649,U5)::
 (nat_lit 655,U6)::
 (nat_lit 656,U7)::
 (nat_lit 658,U8 P)::
 (nat_lit 659,U9)::
 (nat_lit 664,Va P)::
 (nat_lit 672,Vb)::
 (nat_lit 673,Vc)::
 (nat_lit 675,Vd P)::
 (nat_lit 676,Ve)::
 (nat_lit 684,Vf)::
 (nat_lit 685,Vg)::
 (nat_lit 689,PP)::
 (nat_lit 690,Vh)::
 (nat_lit 693,Vi P)::
 (nat_lit 703,Vj)::
 (nat_lit 704,Vk)::
 (nat_lit 710,Vl)::
 (nat_lit 711,Vm)::
 (nat_lit 724,Vn)::
 (nat_lit 725,Vo)::
 (nat_lit 731,EE)::
 (nat_lit 732,Vp)::
 (nat_lit 738,Vq)::
 (nat_lit 739,Vr)::
 (nat_lit 745,Vs)::
 (nat_lit 746,Vt)::
 (nat_lit 752,Vu)::
 (nat_lit 753,Vv)::
 (nat_lit 759,Vw)::
 (nat_lit 760,Vx)::
 (nat_lit 766,Vy)::
 (nat_lit 767,Vz)::
 (nat_lit 773,VA)::
 (nat_lit 774,VB)::
 (nat_lit 780,VC)::
 (nat_lit 781,VD)::
 (nat_lit 783,VE P)::
 (nat_lit 784,VF)::
 (nat_lit 794,EG)::
 (nat_lit 795,EH)::
 (nat_lit 801,EI)::
 (nat_lit 802,EJ)::
 (nat_lit 808,EK)::
 (nat_lit 809,EL)::
 (nat_lit 813,EM)::
 (nat_lit 814,EN)::
 (nat_lit 820,EO)::
 (nat_lit 821,EQ)::
 (nat_lit 827,ER)::
 (nat_lit 828,ES)::
 (nat_lit 834,ET)::
 (nat_lit 835,EU)::
 (nat_lit 841,EV)::
 (nat_lit 842,EW)::
 (nat_lit 846,EY)::
 (nat_lit 847,EZ)::
 (nat_lit 853,E1)::
 (nat_lit 854,E2)::
 (nat_lit 860,E3)::
 (nat_lit 861,E4)::
 (nat_lit 867,E5)::
 (nat_lit 868,E6)::
 []
noncomputable def PQ:rA->γ:=λP=>(nat_lit 687,⟨.none,none,.fields #[],#[]⟩)::heap0 P
theorem y0(w:qL)(h:rB)(Y:lu PQ w h):lu heap0 w h/\h.get? 687=some { cls:=.none,data:=.fields #[] }:=by
 have l0:(heap0 w.params).lookup 687=none:=by kernel_rfl
 have i0:(heap0 w.params).In h:=λb o e=>Y b o (by
   by_cases z:b=687
   . rw[z,l0] at e;cases e
   . show gp b ((687,_)::heap0 w.params)=some o;rw[iz,show (b==687)=false from beq_eq_false_iff_ne.mpr z];exact e)
 exact⟨i0,Y 687 _ rfl⟩
theorem hY0(w:qL)(h:rB)(Y:lu heap0 w h/\h.get? 687=some { cls:=.none,data:=.fields #[] }):(heap0 w.params).In h/\h.get? 687=some { cls:=.none,data:=.fields #[] }/\(heap0 w.params).lookup 687=none/\isCodeTable h 687 :=
 ⟨Y.1,Y.2,by kernel_rfl,⟨689,_,_,Y.1 689 PP (by kernel_rfl),rfl,rfl,rfl⟩⟩
noncomputable def at0:List qH:=687::2::3::4::20::21::24::30::31::37::43::44::49::55::56::61::74::75::80::86::87::92::98::99::104::110::111::116::122::123::128::134::135::140::146::147::152::158::159::164::177::178::183::189::190::195::201::202::210::211::217::218::224::225::231::232::238::239::245::246::252::253::259::260::266::267::273::274::280::281::287::288::294::295::301::302::306::307::313::314::320::321::327::328::334::335::341::342::348::349::355::356::362::363::369::370::376::377::383::384::390::391::394::404::405::411::412::418::419::425::426::439::440::446::447::453::454::490::491::497::498::500::501::511::512::518::519::525::526::529::541::547::548::554::555::556::562::563::569::570::576::577::579::580::585::593::594::596::597::602::610::611::613::614::619::629::630::641::642::648::649::655::656::658::659::664::672::673::675::676::684::685::689::690::693::703::704::710::711::724::725::731::732::738::739::745::746::752::753::759::760::766::767::773::774::780::781::783::784::794::795::801::802::808::809::813::814::820::821::827::828::834::835::841::842::846::847::853::854::860::861::867::868::[]
noncomputable def vv:List Str:="_wall"::"StowError"::"NoName"::"NoSize"::"Broken"::"NoGive"::"NoHandle"::"NoPiece"::"NoCell"::"NoAsk"::"NoBound"::"NoRoom"::"BadLine"::"NoLine"::"NoTurn"::"MARKS"::"check_ask"::"check_plain_ask"::"mark_of"::"long_of"::"live_of"::"LEAST_LIVE"::"can_begin"::"bad_of_piece"::"looked"::"fresh_room"::"laid"::"laid_free"::"piece_at"::"live_at"::"free_at"::"begin_around"::"free_begin"::"free_end"::"cut_out"::"freed"::"joined_pieces"::"joined"::"carried"::"starts_of"::"stops_of"::"best_plan"::"moved_down"::"gathered"::"Keeper"::"first_place"::"spots_for"::"least_place"::"Stretches"::"First"::"Best"::"Next"::"Likes"::"stretches_of"::"followed"::"Handles"::"_law_cell_at"::"_law_whole"::"_law_walk"::"_law_words"::"_law_done"::"_law_call"::"_law_made"::"_law_due"::"_law_seen"::"_law_right"::"_law_step"::[]
theorem at0_eq(P:rA):at0=(PQ P).map (·.1):=by kernel_rfl
abbrev seen0(s:qI):Bool:=PySem.W.recOk (PySem.W.RowW.records (PySem.W.OpenRow.toRowW (PySem.Challenge.rw_stow_k50_handles).row)) s
theorem left0:pq PySem.Challenge.pw_stow_k50_handles (PySem.W.view PySem.Challenge.pw_stow_k50_handles [78]) vv seen0 (λs=>at0.map s.heap.get?) (λw=>(PQ w.params).map λp=>some p.2) 8099 :=
 pq.of_pieces (H₁:=λP=>absHeap (Jh P) 869 ⟨[],[],[],0,[],[],false,#[],[],0,false,false,false,0,[2000,10,10],false,0,true,[],[],0,false⟩) (gs₁:=#[]) (d₁:=⟨0,0,0,0⟩) (k₁:=1388) (m₀:=11) (ann:=(some (.ref 6))) open0 (λw=>by kernel_rfl) run0 rfl (λw=>funext λos=>by kernel_rfl)
end
end Stow
namespace HH
open PySem PyProof.Rows
def Links:List (qH×Obj)->qG->Prop
 | [],v=>v = .none
 | p::r,v=>v = .ref p.1/\∃vs c,p.2.data = .fields vs/\vs[2]?=some c/\Links r c
def Stand(h:rB)(cs:List (qH×Obj)):Prop:=∀p∈cs,h.get? p.1=some p.2
theorem Stand.keep{h h':rB}{cs:List (qH×Obj)}(p:Stand h cs)(k:∀q∈cs,h.get? q.1=some q.2->h'.get? q.1=some q.2):Stand h' cs:=λq hq=>k q hq (p q hq)
theorem Stand.keeps{h h':rB}{cs:List (qH×Obj)}(p:Stand h cs)(k:∀a o,h.get? a=some o->h'.get? a=some o):Stand h' cs:=λq hq=>k _ _ (p q hq)
theorem Links.has{cs:List (qH×Obj)}{v:qG}(l:Links cs v):∀p∈cs,∃vs c,p.2.data = .fields vs/\vs[2]?=some c/\(c = .none\/∃a,c = .ref a):=by
 induction cs generalizing v with
 | nil=>intro p hp;cases hp
 | cons q r ih =>
   obtain⟨rfl,vs,c,d,e,l⟩:=l;intro p hp;rcases χ.mp hp with rfl | hp
   . refine⟨vs,c,d,e,?_⟩;cases r with
     | nil=>exact .inl l
     | cons q' r'=>exact .inr ⟨_,l.1⟩
   . exact ih l p hp
theorem VL:entryFor table "proto.unchain"=some Builtin.«proto.unchain»:=by kernel_rfl
theorem unchain{P:qK}{w:qL}{A:qM}{s:qI}{R:Result->qI->Prop}{e:qH}(k:R (.ok (.ret .none)) s):∀(r:List (qH×Obj)) (p:qH×Obj) (cs:List (qH×Obj)) (slow:qG) (tg:Bool),Links (p::r) (.ref p.1)->Stand s.heap (p::r)->(∀q∈p::r,q.1≠e) ->
   Links cs slow->Stand s.heap cs->(p::r).length<=cs.length->codeAny (rj P w) A (.builtin "proto.unchain" { pos:=[.ref e,.ref p.1,slow,.bool tg] }) R s:=by
 intro r
 induction r with
 | nil =>
   intro p cs slow tg l st ne _ _ _;obtain⟨_,vs,c,d,e1,l2⟩:=l;obtain rfl:c = .none:=l2;refine codeAny_builtin VL ?_;unfold Builtin.«proto.unchain»;dsimp only;refine qU (wpAny_field (st p (by simp)) d e1 ?_);rw[if_pos (show (Value.none==Value.none)=true from rfl)];exact qV k
 | cons q r ih =>
   intro p cs slow tg l st ne ls ss hl;obtain⟨_,vs,c,d,e1,l2⟩:=l;obtain rfl:c = .ref q.1:=l2.1;refine codeAny_builtin VL ?_;unfold Builtin.«proto.unchain»;dsimp only;refine qU (wpAny_field (st p (by simp)) d e1 ?_);rw[if_neg (show ¬(Value.ref q.1==Value.none)=true by exact η)];rw[if_neg (show ¬(Value.ref q.1==Value.ref e)=true by simpa using ne q (by simp))]
   split
   . exact qU (wpAny_rule (qV k))
   . have st':Stand s.heap (q::r):=λx hx=>st x (ι _ hx);have ne':∀x∈q::r,x.1≠e:=λx hx=>ne x (ι _ hx);cases tg with
     | false =>
       rw[if_neg (by exact η)];refine qU (qV (qV ⟨Code.quiet_builtin _ (by decide +kernel),ih q cs slow _ l2 st' ne' ls ss (by simp at hl ⊢;omega)⟩))
     | true =>
       rw[if_pos rfl];cases cs with
       | nil=>simp at hl
       | cons t cs' =>
         obtain⟨rfl,us,c',d',e',l'⟩:=ls;refine qU (wpAny_field (ss t (by simp)) d' e' ?_);exact qV ⟨Code.quiet_builtin _ (by decide +kernel),ih q cs' c' _ l2 st' ne' l' (λx hx=>ss x (ι _ hx)) (by simp at hl ⊢;omega)⟩
def HL(A:qM)(cs:List (qH×Obj)):Prop:=A.handled=none\/∃p r,cs=p::r/\A.handled=some (.ref p.1)/\Links cs (.ref p.1)
theorem HL.has{A:qM}{cs:List (qH×Obj)}(l:HL A cs)(h:A.handled≠none):∀p∈cs,∃vs c,p.2.data = .fields vs/\vs[2]?=some c/\(c = .none\/∃a,c = .ref a):=by
 rcases l with z | ⟨p,r,_,_,l⟩
 . exact absurd z h
 . exact l.has
def Hd(A:qM)(h:rB):Prop:=∃cs,HL A cs/\(A.handled=none->cs=[])/\Stand h cs
theorem Hd.keep{A:qM}{h h':rB}(p:Hd A h)(k:∀a o vs c,o.data = .fields vs->vs[2]?=some c->(c = .none\/∃b,c = .ref b)->h.get? a=some o->h'.get? a=some o):Hd A h':=by
 obtain⟨cs,l,z,st⟩:=p;refine⟨cs,l,z,λq hq=>?_⟩;by_cases hn:A.handled=none
 . rw[z hn] at hq;cases hq
 . obtain⟨vs,c,d,e,m⟩:=l.has hn q hq;exact k _ _ vs c d e m (st q hq)
theorem Hd.keeps{A:qM}{h h':rB}(p:Hd A h)(k:∀a o,h.get? a=some o->h'.get? a=some o):Hd A h':=p.keep λa o _ _ _ _ _=>k a o
theorem Hd.none{A:qM}{h:rB}(e:A.handled=none):Hd A h:=⟨[],.inl e,λ_=>rfl,λ_ hp=>nomatch hp⟩
theorem Hd.in1{A:qM}{h:rB}(p:Hd A h):Hd A.in1 h:=p
theorem Hd.but{A:qM}{h h':rB}{it:qH}{o:Obj}{vs:Array qG}(p:Hd A h)(e:h.get? it=some o)(d:o.data = .fields vs)(n:∀c,vs[2]?=some c->c≠.none/\∀b,c≠.ref b)(k:gc it h h'):Hd A h':=by
 refine p.keep λa o' vs' c' d' e' m q=>k a o' (λw=>?_) q;subst w;rw[e] at q;cases q;rw[d] at d';cases d';obtain⟨n1,n2⟩:=n _ e';rcases m with m | ⟨b,m⟩
 . exact n1 m
 . exact n2 b m
theorem raiseAny{α:Type}{P:qK}{w:qL}{A:qM}{s:qI}{Q:α->qI->Prop}{E:qG->qI->Prop}{e:qH}{oe:Obj}{ve:Array qG}{cs:List (qH×Obj)}(l:HL A cs)(st:Stand s.heap cs)(ne:∀p∈cs,p.1≠e)
   (he:s.heap.get? e=some oe) (de:oe.data = .fields ve) (h2:ve[2]?=some .none)
   (k:∀h' o c r,(∀b o,b≠e->s.heap.get? b=some o->h'.get? b=some o)->h'.get? e=some o->o.cls=oe.cls->o.dict=oe.dict->o.data = .fields (ve.setIfInBounds 2 c)->Links r c->(∀p∈r,p∈cs)->E (.ref e) { s with heap:=h' }):qX (rj P w) A (raiseNew (.ref e)) Q E s:=by
 have sz:2<ve.size:=(cf.mp h2).1;have g2:ve[2] = .none:=(cf.mp h2).2;rcases l with hh | ⟨p,r,rfl,hh,l⟩
 . refine wpAny_raiseNew_none hh (k s.heap oe .none [] (λb o _ q=>q) he rfl rfl ?_ rfl (λ_ hp=>nomatch hp));rw[de]
   congr 1
   apply Array.ext
   . simp
   . intro i h1 h2;rw[Array.getElem_setIfInBounds]
     split
     . next z=>subst z;exact g2
     . rfl
 . unfold raiseNew;refine qU (wpAny_handled ?_);rw[hh];dsimp only;rw[if_pos (by simpa using ne p (by simp))];refine qU (wpAny_holding (wpAny_runValue (unchain ?_ r p (p::r) _ false l st ne l st (Θ _))));unfold updateField;refine qU (qU (wpAny_load he ?_));rw[de];dsimp only;rw[if_pos sz];refine wpAny_update he (wpAny_throw (k _ _ (.ref p.1) (p::r) (λb o hb q=>(bu.update ..).extBut b o hb q) (bb _ he (fb (bx de _))) (jx ..) ?_ (bx de _) l λ_ q=>q));obtain⟨c1,d1,da,sl⟩:=oe;cases de;rfl
theorem stopAny{α:Type}{P:qK}{w:qL}{A:qM}{s:qI}{Q:α->qI->Prop}{E:qG->qI->Prop}(hd:Hd A s.heap)
   (k:∀h' e,(∀b o,s.heap.get? b=some o->h'.get? b=some o)->(∃o,h'.get? e=some o/\o.cls = .type "StopIteration")->E (.ref e) { s with heap:=h' }):qX (rj P w) A (Builtin.SmallTypes.stopIteration (α:=α)) Q E s:=by
 obtain⟨cs,l,z,st⟩:=hd;unfold Builtin.SmallTypes.stopIteration;refine qU ?_;unfold newExc newTuple;refine qU (wpAny_newObj_type (qU (m:=firstArgMember _ _) (wpAny_of_eq (a:=Value.none) (by first | rfl | (simp only [firstArgMember];rfl)) (wpAny_newObj_type ?_ (by size_fits)))) (by size_fits));refine raiseAny l (st.keeps λa o q=>ζ _ (ζ _ q)) (λp hp z=>?_) (Ω _ rfl) rfl (by first | rfl | (rw[Array.getElem?_append_left (by simp)];rfl)) λh' o c r kp e1 e2 _ _ _ _=>?_
 . exact absurd (show (s.heap.push _).objs.size<s.heap.objs.size from z▸ξ (st p hp)) (by rw[bo];omega)
 . refine k h' _ (λb o' q=>kp b o' (λz=>?_) (ζ _ (ζ _ q))) ⟨o,e1,e2⟩;subst z;exact absurd (show (s.heap.push _).objs.size<s.heap.objs.size from ξ q) (by rw[bo];omega)
end HH
namespace HH
open PySem PyProof.Rows
theorem PR{A:qM}{cs:List (qH×Obj)}{h h':rB}{it:qH}{o:Obj}{vs:Array qG}(l:HL A cs)(z:A.handled=none->cs=[])(p:Stand h cs)(e:h.get? it=some o)(d:o.data = .fields vs)(n:∀c,vs[2]?=some c->c≠.none/\∀b,c≠.ref b)(k:gc it h h'):Stand h' cs:=by
 refine λq hq=>k q.1 q.2 (λw=>?_) (p q hq);by_cases hn:A.handled=none
 . rw[z hn] at hq;cases hq
 . obtain⟨vs',c',d',e',m⟩:=l.has hn q hq;have g:=p q hq;rw[w,e] at g;cases g;rw[d] at d';cases d';obtain⟨n1,n2⟩:=n _ e';rcases m with m | ⟨b,m⟩
   . exact n1 m
   . exact n2 b m
section
variable {P:qK}{w:qL}{A:qM}{E:qG->qI->Prop}{s:qI}{it l:qH}{i:Nat}{items:Array qG}{Q:Option qG->qI->Prop}
theorem list_end(hd:Hd A s.heap)(st:s.heap.IsListIter it l i)(p:s.heap.IsList l items)(hi:items[i]?=none)
   (q:∀h',gc it s.heap h'->Q none { s with heap:=h' }):qX (rj P w) A (pyNext (.ref it)) Q E s:=by
 have T:=st.typeIs;obtain⟨o,h1,h2,h3⟩:=id st;obtain⟨ol,g1,g2,n,g3⟩:=p;unfold pyNext;refine qU (wpAny_attempt (wpAny_callSpecial?_slot (name:=av "__next__") T slot_listiter_next (wpAny_call_entry slot_listiter_next T entry_listiter_next ?_)));refine qU (qV (qU (wpAny_field h1 h3 rfl ?_)));refine show qX _ _ (if (Value.ref l==Value.none)=true then _ else _) _ _ s from ?_;rw[if_neg (by exact η)];refine qU (wpAny_field h1 h3 rfl (qU (wpAny_seqItems g1 g3 ?_)));simp only [dr,hi];refine qU (wpAny_rule (qU (wpAny_setField h1 h3 (by simp) ?_)));refine stopAny ((hd.in1).but h1 h3 (λc z=>nomatch z) (bu.update ..).extBut) λh' e kp ⟨o',e1,e2⟩=>?_;refine qU (wpAny_isInstance (b:=true) (T:="StopIteration") ⟨_,e1,e2⟩ isSubtype_stop ?_);exact qV (q _ λb o' hb e=>kp b o' ((bu.update ..).extBut b o' hb e))
theorem VM(hd:Hd A s.heap)(st:s.heap.IsTupleIter it l i)(p:s.heap.IsTuple l items)(hi:items[i]?=none)
   (q:∀h',gc it s.heap h'->Q none { s with heap:=h' }):qX (rj P w) A (pyNext (.ref it)) Q E s:=by
 have T:=st.typeIs;obtain⟨o,h1,h2,h3⟩:=id st;obtain⟨ol,g1,g2,n,g3⟩:=p;unfold pyNext;refine qU (wpAny_attempt (wpAny_callSpecial?_slot (name:=av "__next__") T slot_tupleiter_next (wpAny_call_entry slot_tupleiter_next T entry_tupleiter_next ?_)));refine qU (qV (qU (wpAny_field h1 h3 rfl ?_)));refine show qX _ _ (if (Value.ref l==Value.none)=true then _ else _) _ _ s from ?_;rw[if_neg (by exact η)];refine qU (wpAny_field h1 h3 rfl (qU (wpAny_seqItems g1 g3 ?_)));simp only [dr,hi];refine qU (wpAny_rule (qU (wpAny_setField h1 h3 (by simp) ?_)));refine stopAny ((hd.in1).but h1 h3 (λc z=>nomatch z) (bu.update ..).extBut) λh' e kp ⟨o',e1,e2⟩=>?_;refine qU (wpAny_isInstance (b:=true) (T:="StopIteration") ⟨_,e1,e2⟩ isSubtype_stop ?_);exact qV (q _ λb o' hb e=>kp b o' ((bu.update ..).extBut b o' hb e))
theorem range_end{v left step:Int}(hd:Hd A s.heap)(st:IsRangeIter s.heap it v left step)(hi:left<=0)
   (q:∀h',gc it s.heap h'->Q none { s with heap:=h' }):qX (rj P w) A (pyNext (.ref it)) Q E s:=by
 have T:s.TypeIs (.ref it) "range_iterator":=⟨_,st,rfl⟩
 unfold pyNext;refine qU (wpAny_attempt (wpAny_callSpecial?_slot (name:=av "__next__") T F.slot_range_iterator_next (wpAny_call_entry F.slot_range_iterator_next T F.entry_range_iterator_next ?_ (F.args_range_iterator_next_1 _))));refine qU (qV (qU (wpAny_field st rfl rfl ?_)));refine qU (wpAny_field st rfl rfl (qU (wpAny_field st rfl rfl ?_)));refine show qX _ _ (if left<=0 then _ else _) _ _ s from ?_;rw[if_pos hi];refine qU (wpAny_rule (qU (stopAny (hd.in1) λh' e kp ⟨o',e1,e2⟩=>?_)));refine qU (wpAny_isInstance (b:=true) (T:="StopIteration") ⟨_,e1,e2⟩ isSubtype_stop ?_);exact qV (q _ λb o' hb e=>kp b o' e)
end
theorem walks_list{P:qK}{w:qL}{A:qM}{cs:List (qH×Obj)}(I ax:qH)(ne:ax≠I)(items:Array qG):Walks P w A I (I::ax::cs.map (·.1)) [I] items.size (λi v=>items[i]?=some v) (λi h=>h.IsListIter I ax i/\h.IsList ax items/\HL A cs/\(A.handled=none->cs=[])/\Stand h cs) where
 sub:=λb hb=>by simp at hb;simp [hb]
 frame:=λ_ _ _ st k=>⟨st.1.at λo e=>k I (by simp) o e,st.2.1.at λo e=>k ax (by simp) o e,st.2.2.1,st.2.2.2.1,st.2.2.2.2.keep λq hq e=>k q.1 (ι _ (ι _ (jf hq))) _ e⟩
 item:=λi s Q E hi st q=>wpAny_pyNext_list_item st.1 st.2.1 (cy hi) λh' st' sb=>q _ h' s.toks (cy hi) ⟨st',st.2.1.at λo e=>sb.extBut ax o ne e,st.2.2.1,st.2.2.2.1,by
   obtain⟨o,h1,h2,h3⟩:=st.1
   exact PR st.2.2.1 st.2.2.2.1 st.2.2.2.2 h1 h3 (λc z=>nomatch z) sb.extBut⟩ λb o hb e=>sb.extBut b o (λz=>hb (by simp [z])) e
 done:=λs Q E st q=>list_end ⟨cs,st.2.2⟩ st.1 st.2.1 (by simp) λh' eb=>q h' s.toks λb o hb e=>eb b o (λz=>hb (by simp [z])) e
 self:=λ_ _ _ _ st q=>wpAny_pyIter_listiter st.1 q
theorem Zc{P:qK}{w:qL}{A:qM}{cs:List (qH×Obj)}(I ax:qH)(ne:ax≠I)(items:Array qG):Walks P w A I (I::ax::cs.map (·.1)) [I] items.size (λi v=>items[i]?=some v) (λi h=>h.IsTupleIter I ax i/\h.IsTuple ax items/\HL A cs/\(A.handled=none->cs=[])/\Stand h cs) where
 sub:=λb hb=>by simp at hb;simp [hb]
 frame:=λ_ _ _ st k=>⟨st.1.at λo e=>k I (by simp) o e,st.2.1.at λo e=>k ax (by simp) o e,st.2.2.1,st.2.2.2.1,st.2.2.2.2.keep λq hq e=>k q.1 (ι _ (ι _ (jf hq))) _ e⟩
 item:=λi s Q E hi st q=>wpAny_pyNext_tuple_item st.1 st.2.1 (cy hi) λh' st' sb=>q _ h' s.toks (cy hi) ⟨st',st.2.1.at λo e=>sb.extBut ax o ne e,st.2.2.1,st.2.2.2.1,by
   obtain⟨o,h1,h2,h3⟩:=st.1
   exact PR st.2.2.1 st.2.2.2.1 st.2.2.2.2 h1 h3 (λc z=>nomatch z) sb.extBut⟩ λb o hb e=>sb.extBut b o (λz=>hb (by simp [z])) e
 done:=λs Q E st q=>VM ⟨cs,st.2.2⟩ st.1 st.2.1 (by simp) λh' eb=>q h' s.toks λb o hb e=>eb b o (λz=>hb (by simp [z])) e
 self:=λ_ _ _ _ st q=>wpAny_pyIter_tupleiter st.1 q
end HH
namespace HH
open PySem PyProof.Rows
section
variable {P:qK}{w:qL}{A:qM}{E:qG->qI->Prop}{s:qI}{t:qH}{items:Array qG}
theorem Zd{Q:List qG->qI->Prop}(hd:Hd A s.heap)(ht:IsTup s.heap t items)(q:∀h',gc s.heap.objs.size s.heap h'->Q items.toList { s with heap:=h' }):qX (rj P w) A (unpackItems (.ref t) items.size none) Q E s:=by
 have ne:t≠s.heap.objs.size:=let ⟨_,e,_⟩:=ht;al (ξ e);unfold unpackItems;refine qU ?_;unfold notIterableAtAll;refine qU (wpAny_specialOf ht.typeIs slot_tuple_iter.lookup ?_);refine qV ?_;simp only [bq,if_false];refine qU (wpAny_holding (iter_tuple ht ?_));refine qU (wpAny_holding (draw_tuple ne items.size 0 _ _ ⟨_,Ω _ rfl,rfl,rfl⟩ (ht.push _) (by omega) λh1 st sb=>?_));rw[List.drop_zero,af (by simp)];rw[if_neg (by simp)];have hx:gc s.heap.objs.size s.heap h1:=λb o hb e=>sb.extBut b o hb (ζ _ e);refine qU (wpAny_holding (VM (s:={ s with heap:=h1 }) (hd.keeps λa o e=>hx a o (al (ξ e)) e) st ((ht.push _).extBut sb.extBut ne) (by simp) λh2 eb=>?_));exact qV (q h2 λb o hb e=>eb b o hb (hx b o hb e))
theorem assignH{Q:Unit->qI->Prop}{env:rC}{elts:List qN}{x1:Nat}{pos:Pos}(hd:Hd A s.heap)(ht:IsTup s.heap t items)(hl:(assignEach elts env).length=items.size)(hn:List.findIdx? (λx=>x.fst) (assignEach elts env)=none)
   (q:∀h',gc s.heap.objs.size s.heap h'->qX (rj P w) A (assignInOrder (List.map (λx=>x.snd) (assignEach elts env)) items.toList) Q E { s with heap:=h' }):qX (rj P w) A (assign (.Tuple elts x1 pos) env (.ref t)) Q E s:=by
 rw[assign_Tuple];refine qU (wpAny_standAt ?_);unfold unpack;rw[hn,hl];exact qU (wpAny_holding (Zd hd ht q))
end
end HH
namespace HH
open PySem PyProof.Rows
section
variable {P:qK}{w:qL}{A:qM}{E:qG->qI->Prop}{s:qI}
theorem fp_lt{h:rB}{I ax n:Nat}{cs:List (qH×Obj)}(st:Stand h cs)(h1:I<n)(h2:ax<n)(h3:h.objs.size<=n):∀b∈(I::ax::cs.map (·.1):List qH),b<n:=by
 intro b hb;rcases χ.mp hb with rfl | hb
 . exact h1
 rcases χ.mp hb with rfl | hb
 . exact h2
 obtain⟨p,hp,rfl⟩:=am.mp hb;exact ao (ξ (st p hp)) h3
theorem minH{a b:Int}{t u:Tok}{Q:qG->qI->Prop}(hd:Hd A s.heap)(k:∀h' tk,(∀c o,s.heap.get? c=some o->h'.get? c=some o)->Q (if b<a then .int b u else .int a t) { s with heap:=h',toks:=tk }):qX (rj P w) A (call (.builtin "min") [.int a t,.int b u]) Q E s:=by
 have ht:(s.heap.push { cls:=.type "tuple",data:=.seq #[.int a t,.int b u] }).IsTuple s.heap.objs.size (intItems #[(a,t),(b,u)]):=⟨_,Ω _ rfl,rfl,0,by simp [intItems]⟩
 refine call_min_two (wpAny_pyIter_tuple (s:={ s with heap:=s.heap.push { cls:=.type "tuple",data:=.seq #[.int a t,.int b u] } }) ht ?_);obtain⟨cs,hl,hz,st⟩:=hd;have hd2:Stand (((s.heap.push { cls:=.type "tuple",data:=.seq #[.int a t,.int b u] }).push { cls:=.type "tuple_iterator",data:=.fields #[.ref s.heap.objs.size,.int 0 0] })) cs:=st.keeps λa o e=>ζ _ (ζ _ e);refine⟨_,_,_,_,_,_,λi j=>decide (numAt #[(a,t),(b,u)] i<numAt #[(a,t),(b,u)] j),rfl,Zc (cs:=cs) _ s.heap.objs.size (by show _≠(s.heap.push _).objs.size;rw[bo];omega) (intItems #[(a,t),(b,u)]),⟨⟨_,Ω _ rfl,rfl,rfl⟩,ht.push _,hl,hz,hd2⟩,fp_lt hd2 ?_ ?_ (Θ _),by simp [intItems],CmpOf.ints_lt _ (λi v h=>intItems_at h),λv h' tk hv kp=>?_⟩
 . show (s.heap.push _).objs.size<((s.heap.push _).push _).objs.size;rw[bo (s.heap.push _)];exact ft _
 . show s.heap.objs.size<((s.heap.push _).push _).objs.size;rw[bo,bo];exact df (ft _)
 . have e:v=if b<a then .int b u else .int a t:=by
     by_cases z:b<a
     . rw[if_pos z];have:argBest (λi j=>decide (numAt #[(a,t),(b,u)] i<numAt #[(a,t),(b,u)] j)) ((intItems #[(a,t),(b,u)]).size-1)=1:=by simp [intItems,argBest,numAt,z]
       rw[this] at hv;simpa [intItems] using hv.symm
     . rw[if_neg z];have:argBest (λi j=>decide (numAt #[(a,t),(b,u)] i<numAt #[(a,t),(b,u)] j)) ((intItems #[(a,t),(b,u)]).size-1)=0:=by simp [intItems,argBest,numAt,z]
       rw[this] at hv;simpa [intItems] using hv.symm
   rw[e];refine k h' tk λc o q=>kp c o (λz=>?_) (ζ _ (ζ _ q));rcases χ.mp z with rfl | z
   . exact absurd (show (s.heap.push _).objs.size<s.heap.objs.size from ξ q) (by rw[bo];omega)
   . cases z
theorem walks_range(it:qH)(a c:Int)(n:Nat):∀(i:Nat) (s:qI) (Q:Option qG->qI->Prop) (E:qG->qI->Prop),i<n->IsRangeIter s.heap it (a+i*c) (n-i) c->(∀v h' tk,(∃t,v=Value.int (a+i*c) t)->IsRangeIter h' it (a+((i+1:Nat):Int)*c) (n-((i+1:Nat):Int)) c ->
   (∀b o,b ∉ [it]->s.heap.get? b=some o->h'.get? b=some o)->Q (some v) { s with heap:=h',toks:=tk })->qX (rj P w) A (pyNext (.ref it)) Q E s:=by
 intro i s Q E hi st q;have e1:a+((i+1:Nat):Int)*c=a+i*c+c:=by rw[Int.natCast_add,Int.add_mul];simp;omega
 have e2:(n:Int)-((i+1:Nat):Int)=n-i-1:=by omega
 exact wpAny_pyNext_range_item st (by omega) λh' st' sb=>q _ h' _ ⟨_,rfl⟩ (by rw[e1,e2];exact st') λb o hb e=>sb.extBut b o (by simpa using hb) e
end
end HH
namespace L2
open PySem PySem.Spec PyProof.Rows
variable{E:qG->qI->Prop}{pins:List (qH×Obj)}
abbrev Key:=Sum Int Str
def FF:Key->qG->Bool
 | .inl k,v=>ql k v
 | .inr x,v=>pz x v
def keyH(w:qL):Key->Int
 | .inl k=>hashInt k
 | .inr x=>hashStr w x
theorem DU:∀{k:Key} {v:qG},FF k v=true->(∃i t,k=Sum.inl i/\v=Value.int i t)\/(∃x t,k=Sum.inr x/\v=Value.str x t)
 | .inl i,v,h=>by
   obtain⟨t,e⟩:=Value.isInt_shape (k:=i) (v:=v) h
   exact .inl ⟨i,t,rfl,e⟩
 | .inr x,v,h=>by
   obtain⟨t,e⟩:=Value.isStrOf_shape (x:=x) (v:=v) h
   exact .inr ⟨x,t,rfl,e⟩
theorem Ze(i:Int)(t:Tok):FF (.inl i) (.int i t)=true:=by simp [FF,ql]
theorem Zf(x:Str)(t:Tok):FF (.inr x) (.str x t)=true:=by simp [FF,pz]
theorem vD(a b:Int):decide ((Sum.inl a:Key)=Sum.inl b)=(a==b):=by
 by_cases e:a=b
 . subst e;simp
 . have h:¬(Sum.inl a:Key)=Sum.inl b:=λq=>e (lw q);rw[decide_eq_false h];exact(beq_eq_false_iff_ne.mpr e).symm
theorem vA(a b:Str):decide ((Sum.inr a:Key)=Sum.inr b)=decide (a=b):=by
 by_cases e:a=b
 . subst e;simp
 . have h:¬(Sum.inr a:Key)=Sum.inr b:=λq=>e (Sum.inr.inj q);rw[decide_eq_false h,decide_eq_false e]
theorem vC(a:Int)(b:Str):decide ((Sum.inl a:Key)=Sum.inr b)=false:=decide_eq_false (λq=>nomatch q)
theorem vB(a:Str)(b:Int):decide ((Sum.inr a:Key)=Sum.inl b)=false:=decide_eq_false (λq=>nomatch q)
def A3(prog:qK)(w:qL):PySem.KeyKind prog w Key where
 is:=FF
 hash:=keyH w
 inj:=λv a b ha hb=>by
   rcases DU ha with ⟨i,t,rfl,rfl⟩ | ⟨x,t,rfl,rfl⟩
   . rcases DU hb with ⟨j,u,rfl,e⟩ | ⟨y,u,rfl,e⟩
     . injection e with e1 _;rw[e1]
     . exact nomatch e
   . rcases DU hb with ⟨j,u,rfl,e⟩ | ⟨y,u,rfl,e⟩
     . exact nomatch e
     . injection e with e1 _;rw[e1]
 byValue:=λk v h=>by
   rcases DU h with ⟨i,t,rfl,rfl⟩ | ⟨x,t,rfl,rfl⟩ <;> rfl
 pyHash:=λhv h=>by
   rcases DU hv with ⟨i,t,rfl,rfl⟩ | ⟨x,t,rfl,rfl⟩
   . exact wpAny_pyHash_int h
   . exact wpAny_pyHash_str h
 eqBool:=λhu hv h=>by
   rcases DU hu with ⟨i,t,rfl,rfl⟩ | ⟨x,t,rfl,rfl⟩
   . rcases DU hv with ⟨j,u,rfl,rfl⟩ | ⟨y,u,rfl,rfl⟩
     . rw[vD] at h;exact wpAny_eqBool_int h
     . rw[vC] at h;exact mo i t y u _ _ _ _ h
   . rcases DU hv with ⟨j,u,rfl,rfl⟩ | ⟨y,u,rfl,rfl⟩
     . rw[vB] at h;exact mq x t j u _ _ _ _ h
     . rw[vA] at h;exact wpAny_eqBool_str h
 «strs»:=λk x t v h=>by
   rcases DU h with ⟨i,u,rfl,e⟩ | ⟨y,u,rfl,e⟩
   . exact nomatch e
   . injection e with e1 _
     subst e1
     cases v <;> rfl
theorem Zg(prog:qK)(w:qL)(i:Int)(t:Tok):(A3 prog w).is (.inl i) (.int i t)=true:=Ze i t
theorem Zh(prog:qK)(w:qL)(x:Str)(t:Tok):(A3 prog w).is (.inr x) (.str x t)=true:=Zf x t
inductive V where
 | non | bl (b:Bool) | int (i:Int) | str (x:Str) | byt (b:Array UInt8) | flt (b:UInt64) | ref (a:qH) | ty (n:String)
 deriving DecidableEq
def RelV:V->qG->Prop
 | .non,u=>u=Value.none
 | .bl b,u=>u=Value.bool b
 | .int i,u=>∃t,u=Value.int i t
 | .str x,u=>∃t,u=Value.str x t
 | .byt b,u=>∃t,u=Value.bytes b t
 | .flt b,u=>∃t,u=Value.float b t
 | .ref a,u=>u=Value.ref a
 | .ty n,u=>u=Value.type n
abbrev Vals:List V->List qG->Prop:=Paired RelV
theorem Vals.length{xs:List V}{us:List qG}(r:Vals xs us):xs.length=us.length:=Paired.length r
theorem Vals.get:∀{xs:List V} {us:List qG} {i:Nat} {x:V},Vals xs us->xs[i]?=some x->∃u,us[i]?=some u/\RelV x u
 | _,_,_,_,.nil,e=>by simp at e
 | _,_,0,_,.cons r _,e=>by simp at e;subst e;exact⟨_,rfl,r⟩
 | _,_,i+1,x,.cons _ t,e=>by
   obtain⟨u,h1,h2⟩:=Vals.get (i:=i) (x:=x) t (by simpa using e)
   exact⟨u,by simpa using h1,h2⟩
theorem Vals.set{x:V}{u:qG}(r:RelV x u):∀{xs:List V} {us:List qG} (i:Nat),Vals xs us->Vals (xs.set i x) (us.set i u)
 | _,_,_,.nil=>.nil
 | _,_,0,.cons _ t=>.cons r t
 | _,_,i+1,.cons q t=>.cons q (Vals.set r i t)
theorem Vals.append:∀{xs ys:List V} {us ws:List qG},Vals xs us->Vals ys ws->Vals (xs++ys) (us++ws)
 | _,_,_,_,.nil,s=>s
 | _,_,_,_,.cons r t,s=>.cons r (Vals.append t s)
theorem Vals.take:∀{xs:List V} {us:List qG} (n:Nat),Vals xs us->Vals (xs.take n) (us.take n)
 | _,_,0,_=>.nil
 | _,_,_+1,.nil=>.nil
 | _,_,n+1,.cons r t=>.cons r (Vals.take n t)
theorem Vals.drop:∀{xs:List V} {us:List qG} (n:Nat),Vals xs us->Vals (xs.drop n) (us.drop n)
 | _,_,0,r=>r
 | _,_,_+1,.nil=>.nil
 | _,_,n+1,.cons _ t=>Vals.drop n t
def RelO:Option V->Option qG->Prop
 | some v,some u=>RelV v u
 | none,none=>True
 | _,_=>False
def KV{κ:Type}:List (κ×V)->List (κ×qG)->Prop:=Paired λ(p:κ×V) (q:κ×qG)=>p.1=q.1/\RelV p.2 q.2
def kV:Key->V
 | .inl i=>.int i
 | .inr x=>.str x
inductive HO where
 /-- a list -/
 | lst (xs:List V)
 /-- a tuple (never changes) -/
 | tup (xs:List V)
 /-- a dict whose keys are ints and texts;one whose keys are tuples of ints and texts (the empty one is both) -/
 | dK (kvs:List (Key×V)) | dT (kvs:List (List Key×V))
 /-- a set of ints: its members,its size -/
 | set (S:Int->Bool) (n:Nat)
 /-- an instance of the class at C,its dict at dx,its attributes -/
 | ins (C dx:qH) (fs:List (Str×V))
 /-- the dict of the instance at x -/
 | own (x:qH)
 /-- the dict of an exception -/
 | xd (fs:List (Str×V))
 /-- a bound method,f of x -/
 | met (f x:qH)
 /-- a range object lo,lo+1,.. below hi -/
 | rng (lo hi:Int)
 /-- a thing that is known to the object (the script;a dict while a loop walks it): read,never written while it is so -/
 | frz (o:Obj) (u:HO)
 /-- a code object's table -/
 | tbl (ps:Array qG)
 /-- any other thing,by what is true of its one object (a def of one's own: SetO a S n:=HO.ext λh=>..) -/
 | ext (φ:rB->Prop)
abbrev Hp:=qH->Option HO
variable{H:Hp}
def upd(H:Hp)(a:qH)(o:HO):Hp:=λb=>if b=a then some o else H b
theorem upd_same{a:qH}{o:HO}:upd H a o a=some o:=by unfold upd;rw[if_pos rfl]
theorem AC{a b:qH}{o:HO}(h:b≠a):upd H a o b=H b:=by unfold upd;rw[if_neg h]
theorem ne_of{a b:qH}{o u:HO}(h:H a=some o)(h':H b=some u)(d:o≠u):a≠b:=by
 intro e;subst e;rw[h] at h';exact d (ae h')
theorem Cz{a b:qH}{o:HO}(h:H a=some o)(h':H b=none):a≠b:=by
 intro e;subst e;rw[h] at h';cases h'
section
variable (P:qK)(w:qL)
def A8(H:Hp)(h:rB)(a:qH):HO->Prop
 | .lst xs=>xs.length<=qT/\∃(its:List qG) (n:Nat),Vals xs its/\h.get? a=some { cls:=.type "list",data:=.seq its.toArray n }
 | .tup xs=>xs.length<=qT/\∃its:List qG,Vals xs its/\IsTup h a its.toArray
 | .dK kvs=>kvs.length<=qT/\(a==sysModules)=false/\∃vs,KV kvs vs/\h.DictOf (A3 P w) a vs
 | .dT kvs=>kvs.length<=qT/\(a==sysModules)=false/\∃xs:List (List Key×qH×qG),
     Paired (λ(p:List Key×V) (q:List Key×qH×qG)=>p.1=q.1/\H q.2.1=some (.tup (p.1.map kV))/\RelV p.2 q.2.2) kvs xs /\
     ∃o es ep,h.get? a=some o/\o.ExactDict/\o.data = .dict es ep/\es.toList=xs.map (entryOfKey (tupleKind (A3 P w)))/\(xs.map (·.1)).Nodup
 | .set S n=>h.SetOf (intKind P w) a S n
 | .ins C dx fs=>H dx=some (.own a)/\fs.length<=1000/\dx≠a/\h.get? a=some (instObj C dx) /\
     ∃mA,h.Ns1 dx mA/\(∀f,RelO (fs.lookup f) (mA f))/\kj mA (fs.map (·.1))
 | .own _=>∃o,h.get? a=some o
 | .xd fs=>∃mA,h.Ns1 a mA/\∀f,RelO (fs.lookup f) (mA f)
 | .rng lo hi=>∃t u v,h.get? a=some { cls:=.type "range",data:=.fields #[.int lo t,.int hi u,.int 1 v] }
 | .frz o u=>h.get? a=some o/\A8 H h a u
 | .tbl ps=>h.get? a=some { cls:=.none,data:=.fields ps }
 | .met f x=>h.get? a=some (methodObj (.ref f) (.ref x))
 | .ext φ=>φ h/\(∃o,h.get? a=some o)/\∀h1 h2:rB,φ h1->(∀o,h1.get? a=some o->h2.get? a=some o)->φ h2
def HOk(H:Hp)(h:rB):Prop:=∀a o,H a=some o->A8 P w H h a o
end
section
variable {P:qK}{w:qL}{H H':Hp}{h h':rB}{a:qH}{o:HO}
theorem A8.lt(x:A8 P w H h a o):a<h.objs.size:=by
 cases o with
 | lst xs=>obtain⟨_,_,_,_,e⟩:=x;exact ξ e
 | tup xs=>obtain⟨_,_,_,p⟩:=x;exact p.lt
 | dK kvs=>obtain⟨_,_,_,_,o,_,_,e,_⟩:=x;exact ξ e
 | dT kvs=>obtain⟨_,_,_,_,o,_,_,e,_⟩:=x;exact ξ e
 | set S n=>obtain⟨o,_,_,_,e,_⟩:=x;exact ξ e
 | ins C dx fs=>obtain⟨_,_,_,e,_⟩:=x;exact ξ e
 | own y=>obtain⟨_,e⟩:=x;exact ξ e
 | xd fs=>obtain⟨_,⟨_,_,_,e,_⟩,_⟩:=x;exact ξ e
 | rng lo hi=>obtain⟨_,_,_,e⟩:=x;exact ξ e
 | frz ob u=>obtain⟨e,_⟩:=x;exact ξ e
 | tbl ps=>exact ξ (show h.get? a=some _ from x)
 | met f y=>exact ξ (show h.get? a=some _ from x)
 | ext φ=>obtain⟨_,⟨_,e⟩,_⟩:=x;exact ξ e
theorem Paired.mapP{α β:Type}{F G:α->β->Prop}:∀{l₁:List α} {l₂:List β},Paired F l₁ l₂->(∀a b,F a b->G a b)->Paired G l₁ l₂
 | _,_,.nil,_=>.nil
 | _,_,.cons r t,f=>.cons (f _ _ r) (Paired.mapP t f)
theorem A8.stay(x:A8 P w H h a o)(k:∀b u,(b=a\/H b=some (.own a))->h.get? b=some u->h'.get? b=some u)
   (ho:∀b,H b=some (.own a)->H' b=some (.own a)) (ht:∀b xs,H b=some (.tup xs)->H' b=some (.tup xs)):A8 P w H' h' a o:=by
 induction o with
 | lst xs=>obtain⟨z,its,n,r,e⟩:=x;exact⟨z,its,n,r,k _ _ (.inl rfl) e⟩
 | tup xs=>obtain⟨z,its,r,ob,e,c⟩:=x;exact⟨z,its,r,ob,k _ _ (.inl rfl) e,c⟩
 | dK kvs=>obtain⟨z,y,vs,r,ob,es,ep,e,c⟩:=x;exact⟨z,y,vs,r,ob,es,ep,k _ _ (.inl rfl) e,c⟩
 | dT kvs =>
   obtain⟨z,y,xs,r,ob,es,ep,e,c⟩:=x;exact⟨z,y,xs,Paired.mapP r λp q z=>⟨z.1,ht _ _ z.2.1,z.2.2⟩,ob,es,ep,k _ _ (.inl rfl) e,c⟩
 | set S n=>obtain⟨ob,es,ep,t,e,c⟩:=x;exact⟨ob,es,ep,t,k _ _ (.inl rfl) e,c⟩
 | ins C dx fs =>
   obtain⟨d,z,ne,e,mA,⟨od,es,ep,e2,c⟩,r⟩:=x;exact⟨ho _ d,z,ne,k _ _ (.inl rfl) e,mA,⟨od,es,ep,k _ _ (.inr d) e2,c⟩,r⟩
 | own y=>obtain⟨ob,e⟩:=x;exact⟨ob,k _ _ (.inl rfl) e⟩
 | xd fs=>obtain⟨mA,⟨od,es,ep,e,c⟩,r⟩:=x;exact⟨mA,⟨od,es,ep,k _ _ (.inl rfl) e,c⟩,r⟩
 | rng lo hi=>obtain⟨t,u,v,e⟩:=x;exact⟨t,u,v,k _ _ (.inl rfl) e⟩
 | frz ob u ih=>obtain⟨e,q⟩:=x;exact⟨k _ _ (.inl rfl) e,ih q⟩
 | tbl ps =>
   have e:h.get? a=some { cls:=.none,data:=.fields ps }:=x;show h'.get? a=some { cls:=.none,data:=.fields ps };exact k a _ (.inl rfl) e
 | met f y =>
   have e:h.get? a=some (methodObj (.ref f) (.ref y)):=x;show h'.get? a=some (methodObj (.ref f) (.ref y));exact k a _ (.inl rfl) e
 | ext φ=>obtain⟨p,⟨o,e⟩,st⟩:=x;exact⟨st _ _ p λo q=>k _ _ (.inl rfl) q,⟨o,k _ _ (.inl rfl) e⟩,st⟩
theorem HOk.lt(x:HOk P w H h)(e:H a=some o):a<h.objs.size:=(x a o e).lt
theorem HOk.fresh(x:HOk P w H h)(e:h.objs.size<=a):H a=none:=by
 cases q:H a with
 | none=>rfl
 | some u=>exact absurd (ao (x.lt q) e) (bh _)
theorem HOk.kept(x:HOk P w H h)(k:∀b u,h.get? b=some u->h'.get? b=some u):HOk P w H h':=λa o e =>
 (x a o e).stay (λb u _ q=>k b u q) (λ_ q=>q) λ_ _ q=>q
theorem HOk.laid(x:HOk P w H h)(k:∀b u,h.get? b=some u->h'.get? b=some u)(hp:h.objs.size<=a)(new:A8 P w (upd H a o) h' a o):HOk P w (upd H a o) h':=λb u e=>by
 have hn:=x.fresh hp;by_cases hb:b=a
 . subst hb;rw[upd_same] at e;cases e;exact new
 . rw[AC hb] at e;exact(x b u e).stay (λc v _ q=>k c v q) (λc q=>by rw[AC (Cz q hn)];exact q) λc xs q=>by rw[AC (Cz q hn)];exact q
end
def Rd(H:Hp)(a:qH)(u:HO):Prop:=H a=some u\/∃o,H a=some (.frz o u)
theorem Rd.ok{P:qK}{w:qL}{h:rB}{a:qH}{u:HO}(r:Rd H a u)(x:HOk P w H h):A8 P w H h a u:=by
 rcases r with r | ⟨o,r⟩
 . exact x a u r
 . obtain⟨_,q⟩:=x a _ r;exact q
def Mut:Option HO->Prop
 | some (.lst _)=>True
 | some (.dK _)=>True
 | some (.dT _)=>True
 | some (.set _ _)=>True
 | some (.ins _ _ _)=>True
 | some (.ext _)=>True
 | _=>False
section
variable {P:qK}{w:qL}{H:Hp}{h h':rB}{x e:qH}{o':HO}
theorem HOk.write(ok:HOk P w H h)(mu:Mut (H x))(he:e=x\/H e=some (.own x))(k:∀b u,b≠e->h.get? b=some u->h'.get? b=some u)(heo:∃u,h'.get? e=some u)
   (new:A8 P w (upd H x o') h' x o'):HOk P w (upd H x o') h':=λb u q=>by
 have nown:∀c y,H c=some (.own y)->c≠x:=λc y r z=>by subst z;rw[r] at mu;exact mu
 have ntup:∀c xs,H c=some (.tup xs)->c≠x:=λc xs r z=>by subst z;rw[r] at mu;exact mu
 by_cases hb:b=x
 . subst hb;rw[upd_same] at q;cases q;exact new
 . rw[AC hb] at q
   by_cases hbe:b=e
   . have q':H b=some (.own x):=by
       rcases he with z | z
       . exact absurd (hbe.trans z) hb
       . rw[hbe];exact z
     rw[q] at q';cases q';obtain⟨v,hv⟩:=heo;exact⟨v,by rw[hbe];exact hv⟩
   . refine(ok b u q).stay (λc v hc r=>k c v ?_ r) (λc r=>by rw[AC (nown c b r)];exact r) λc xs r=>by rw[AC (ntup c xs r)];exact r
     rcases hc with rfl | hc
     . exact hbe
     . rintro rfl;rcases he with z | z
       . exact nown c b hc z
       . rw[hc] at z;cases z;exact hb rfl
end
structure Un(fs ex:List qH)(H H':Hp)(h h':rB):Prop where
 keep:∀b o,h.get? b=some o->H b=none->b ∉ fs->b ∉ ex->h'.get? b=some o
 slot:∀b o,h.get? b=some o->H b=none->b∈fs->b ∉ ex->∃sl,h'.get? b=some { o with slots:=sl }
 free:∀b o,h.get? b=some o->H b=none->b ∉ ex->H' b=none
 there:∀b o,h.get? b=some o->b ∉ ex->∃o',h'.get? b=some o'
 tups:∀b xs,H b=some (.tup xs)->H' b=some (.tup xs)
 frzs:∀b o u,H b=some (.frz o u)->H' b=some (.frz o u)
 tbls:∀b ps,H b=some (.tbl ps)->∃more,H' b=some (.tbl (ps++more))
section
variable {fs fs' ex ex':List qH}{H H1 H2:Hp}{h h1 h2 h':rB}{a x e:qH}{o:HO}
theorem Un.any(u:Un fs ex H H1 h h1){b:qH}{ob:Obj}(q:h.get? b=some ob)(n:H b=none)(hx:b ∉ ex):∃sl,h1.get? b=some { ob with slots:=sl }:=by
 by_cases hb:b∈fs
 . exact u.slot b ob q n hb hx
 . exact⟨ob.slots,u.keep b ob q n hb hx⟩
theorem Un.kept(k:∀b u,h.get? b=some u->h'.get? b=some u):Un fs ex H H h h' :=
 ⟨λb ob q _ _ _=>k b ob q,λb ob q _ _ _=>⟨ob.slots,k b ob q⟩,λ_ _ _ n _=>n,λb ob q _=>⟨ob,k b ob q⟩,λ_ _ q=>q,λ_ _ _ q=>q,λ_ ps q=>⟨#[],by rw[q];simp⟩⟩
theorem Un.refl:Un fs ex H H h h:=Un.kept λ_ _ q=>q
theorem Un.laid(k:∀b u,h.get? b=some u->h'.get? b=some u)(hp:h.objs.size<=a)(hn:H a=none):Un fs ex H (upd H a o) h h' where
 keep:=λb u q _ _ _=>k b u q
 slot:=λb u q _ _ _=>⟨u.slots,k b u q⟩
 free:=λb u q n _=>by rw[AC (al (ao (ξ q) hp))];exact n
 there:=λb u q _=>⟨u,k b u q⟩
 tups:=λb xs q=>by rw[AC (Cz q hn)];exact q
 frzs:=λb u xs q=>by rw[AC (Cz q hn)];exact q
 tbls:=λb ps q=>⟨#[],by rw[AC (Cz q hn),q];simp⟩
theorem Un.write(mu:Mut (H x))(he:e=x\/H e=some (.own x))(k:∀b u,b≠e->h.get? b=some u->h'.get? b=some u)(heo:∃u,h'.get? e=some u):Un fs ex H (upd H x o) h h':=by
 have hx:∀b,H b=none->b≠x:=λb n z=>by subst z;rw[n] at mu;exact mu
 have hb:∀b,H b=none->b≠e:=λb n z=>by
   subst z;rcases he with r | r
   . exact hx b n r
   . rw[n] at r;cases r
 have hm:∀b u,H b=some u->¬Mut (some u)->b≠x:=λb u q nm z=>by subst z;rw[q] at mu;exact nm mu
 refine⟨λb u q n _ _=>k b u (hb b n) q,λb u q n _ _=>⟨u.slots,k b u (hb b n) q⟩,λb u q n _=>by rw[AC (hx b n)];exact n,λb u q _=>?_,
   λb xs q=>by rw[AC (hm b _ q λz=>z)];exact q,λb u xs q=>by rw[AC (hm b _ q λz=>z)];exact q,λb ps q=>⟨#[],by rw[AC (hm b _ q λz=>z),q];simp⟩⟩
 by_cases hbe:b=e
 . subst hbe;exact heo
 . exact⟨u,k b u hbe q⟩
end
def trk(h:rB)(H:Hp):List qH:=(fv h.objs.size).filter λa=>(H a).isSome
def ul(h:rB)(H:Hp):rB:=PySem.W.hideAll h (trk h H)
theorem Zi(h:rB)(H:Hp):(ul h H).objs.size=h.objs.size:=PySem.W.hideAll_size _ _
theorem VN{h:rB}{b:qH}{o:Obj}(e:h.get? b=some o)(n:H b=none):(ul h H).get? b=some o :=
 PySem.W.hideAll_get _ e λhm=>by
   have q:(H b).isSome=true:=(ky.mp hm).2
   rw[n] at q;simp at q
theorem Zj{h:rB}{b:qH}{o:Obj}(e:(ul h H).get? b=some o):h.get? b=some o/\H b=none:=by
 have e':h.get? b=some o:=PySem.W.of_hideAll (trk h H) e;refine⟨e',?_⟩;cases q:H b with
 | none=>rfl
 | some x =>
   have hm:b∈trk h H:=ky.mpr ⟨lx.mpr (ξ e'),by simp [q]⟩;have z:(ul h H).get? b=none:=PySem.W.hideAll_none (trk h H) hm;rw[z] at e;cases e
def Zk(g h:rB)(L:qH):List (qH×Obj):=(fv h.objs.size).filterMap λa=>if a=L\/(g.get? a).isSome=true then none else (h.get? a).map λo=>(a,o)
def tO(g h:rB)(L d:qH):List (qH×Obj):=(Zk g h L).filter λp=>decide (p.1≠d)
structure Mod(K:γ)(mg:Str->Option qG)(base:rB):Prop where
 kin:K.In base
 glob:base.Ns re mg
 blt:∃mb,base.Ns builtinsNs mb/\∀x:Str,x≠"__name__"->mb x=bootBuiltins x
 nolimit:base.NoLimit
structure Cx where
 prog:qK
 w:qL
 K:γ
 mg:Str->Option qG
 base:rB
 A:qM
 N:List Str
 s₀:qI
 H₀:Hp
 env:rC
 outer:List rC
 stack:List rC
 ex:List qH
 fn:Str->Bool
 calm:Bool
 pn:List (qH×Obj)
 xe:qG->qI->Prop
def frs(l:List rC):List qH:=l.filterMap (·.frame)
abbrev Cx.fs(X:Cx):List qH:=frs X.outer
def Vis(sc:qP)(x:Str):Prop:=sc.names.lookup x=some .local\/sc.names.lookup x=some .cell\/sc.names.lookup x=some .free
def Loc(sc:qP)(x:Str):Prop:=sc.names.lookup x=some .local\/sc.names.lookup x=some .cell
def Look(env:rC)(h:rB)(m:Str->Option qG)(x:Str)(u:qG):Prop :=
 (env.kindOf x=some .local/\m x=some u)\/((env.kindOf x=some .cell\/env.kindOf x=some .free)/\∃c,env.cells.lookup x=some c/\h.IsCell c (some u))
def Cx.Hd(X:Cx):Prop:=∃cs,HH.HL X.A cs/\(X.A.handled=none->cs=[])/\∀p∈cs,(X.s₀.heap.get? p.1=some p.2/\X.H₀ p.1=none/\p.1 ∉ X.fs/\p.1 ∉ X.ex)\/p∈X.pn
structure Cx.Ok(X:Cx):Prop where
 mod:Mod X.K X.mg X.base
 kind:X.env.scope.kind = .function
 glob:X.env.globals=re
 blt:X.env.builtins=builtinsNs
 above:X.s₀.heap.objs.size<=X.env.locals
 inj:∀x y c,X.env.cells.lookup x=some c->X.env.cells.lookup y=some c->x=y
 has:∀x,(X.env.kindOf x=some .cell\/X.env.kindOf x=some .free)->∃c,X.env.cells.lookup x=some c
 cab:∀x c,X.fn x=true->X.env.cells.lookup x=some c->X.s₀.heap.objs.size<=c
 hd:X.calm=true->X.Hd
 frames:X.A.frames=some X.stack
 stk:X.stack=X.outer\/(X.stack=X.env::X.outer/\X.env.frame=some X.env.locals)
 exf:∀b∈X.ex,b≠X.env.locals/\∀x c,X.env.cells.lookup x=some c->c≠b
 bs:∀b o,X.base.get? b=some o->X.s₀.heap.get? b=some o/\X.H₀ b=none
 bsz:X.base.objs.size<=X.s₀.heap.objs.size
 noex:∀b o,X.base.get? b=some o->b ∉ X.ex
 exfs:∀b∈X.ex,b ∉ X.fs
 funs:X.s₀.heap.FunFrames X.base X.outer
 frf:∀b∈X.fs,X.H₀ b=none
structure Inv(X:Cx)(pins:List (qH×Obj))(σ:List (Option V))(H:Hp)(s:qI):Prop where
 ok:X.Ok
 os:s.os=X.s₀.os
 bare:AllBare s.gens
 base:Un X.fs X.ex X.H₀ H X.s₀.heap s.heap
 loc:∃m,s.heap.Ns X.env.locals m/\∀(i:Nat) (x:Str) (v:V),X.N[i]?=some x->σ[i]?=some (some v)->Vis X.env.scope x->∃u,RelV v u/\Look X.env s.heap m x u
 cell:∀x c,X.env.cells.lookup x=some c->∃v,s.heap.IsCell c v
 free:H X.env.locals=none
 freeC:∀x c,X.env.cells.lookup x=some c->H c=none
 pin:∀p∈X.pn++pins,s.heap.get? p.1=some p.2/\H p.1=none/\p.1≠X.env.locals/\p.1 ∉ X.fs/\∀v,p.2.data≠.cell v
 hok:HOk X.prog X.w H s.heap
 len:σ.length=X.N.length
section
variable {X:Cx}{pins:List (qH×Obj)}{σ:List (Option V)}{H H':Hp}{s:qI}{h':rB}
theorem Cx.Ok.nofr(ok:X.Ok){b:qH}{o:Obj}(e:X.base.get? b=some o):b ∉ X.fs:=λhb=>by
 have:=(ok.funs.mem hb).1;rw[e] at this;cases this
theorem Inv.bs(I:Inv X pins σ H s):∀b o,X.base.get? b=some o->s.heap.get? b=some o/\H b=none:=λb o e =>
 ⟨I.base.keep b o (I.ok.bs b o e).1 (I.ok.bs b o e).2 (I.ok.nofr e) (I.ok.noex b o e),I.base.free b o (I.ok.bs b o e).1 (I.ok.bs b o e).2 (I.ok.noex b o e)⟩
theorem Inv.bk(I:Inv X pins σ H s):∀b o,X.base.get? b=some o->s.heap.get? b=some o:=λb o e=>(I.bs b o e).1
theorem Inv.mod(I:Inv X pins σ H s):Mod X.K X.mg X.base:=I.ok.mod
theorem Inv.kIn(I:Inv X pins σ H s):X.K.In s.heap:=I.ok.mod.kin.keeps I.bk
theorem Inv.nolimit(I:Inv X pins σ H s):s.heap.NoLimit:=I.ok.mod.nolimit.keeps I.bk
theorem Inv.lt(I:Inv X pins σ H s):X.env.locals<s.heap.objs.size:=let ⟨_,hn,_⟩:=I.loc;hn.lt
theorem Inv.sz(I:Inv X pins σ H s):X.s₀.heap.objs.size<=s.heap.objs.size:=bp I.ok.above (gd I.lt)
theorem Inv.nofs(I:Inv X pins σ H s){a:qH}(h:s.heap.objs.size<=a):a ∉ X.fs:=λhb=>by
 obtain⟨_,o,ho,_⟩:=I.ok.funs.mem hb;exact absurd (ao (ξ ho) (bp I.sz h)) (bh _)
theorem Inv.cne(I:Inv X pins σ H s):∀x c,X.env.cells.lookup x=some c->c≠X.env.locals:=λx c e z=>by
 obtain⟨v,o,ho,hd⟩:=I.cell x c e;obtain⟨m,⟨o',es,ep,ho',hd',_⟩,_⟩:=I.loc;rw[z,ho'] at ho;cases ho;rw[hd'] at hd;cases hd
theorem Inv.funs(I:Inv X pins σ H s):s.heap.FunFrames X.base X.outer:=by
 have all:∀(l:List rC),(∀b∈frs l,b∈X.fs)->X.s₀.heap.FunFrames X.base l->s.heap.FunFrames X.base l:=by
   intro l
   induction l with
   | nil=>intro _ _;trivial
   | cons env r ih =>
     intro hs hl;obtain⟨hk,⟨L,o,hf,hn,ho,hd⟩,hr⟩:=hl;have hL:L∈X.fs:=hs L (by unfold frs;rw[ia,hf];exact Ξ);obtain⟨sl,e⟩:=I.base.slot L o ho (I.ok.frf L hL) hL λz=>I.ok.exfs L z hL;exact⟨hk,⟨L,_,hf,hn,e,hd⟩,ih (λb hb=>hs b (by unfold frs;rw[ia,hf];exact ι _ hb)) hr⟩
 exact all X.outer (λ_ hb=>hb) I.ok.funs
theorem Inv.stack(I:Inv X pins σ H s):s.heap.FunFrames X.base X.stack:=by
 rcases I.ok.stk with e | ⟨e,hf⟩
 . rw[e];exact I.funs
 . rw[e];obtain⟨m,hn,_⟩:=I.loc;refine .cons (by rw[I.ok.kind];decide) hf hn ?_ I.funs;exact dm (bp I.ok.bsz I.ok.above)
class Calm (X:Cx):Prop where
 eq:X.calm=true
instance {a b c d e f g h i j k l m n o p}:Calm (Cx.mk a b c d e f g h i j k l m n true o p):=⟨rfl⟩
instance {X:Cx} [Calm X] {E:qG->qI->Prop}:Calm { X with xe:=E }:=⟨Calm.eq (X:=X)⟩
theorem Inv.hdAt(I:Inv X pins σ H s)(hc:X.calm=true):∃cs,HH.HL X.A cs/\(X.A.handled=none->cs=[])/\∀p∈cs,s.heap.get? p.1=some p.2/\H p.1=none/\p.1≠X.env.locals/\p.1 ∉ X.fs:=by
 obtain⟨cs,l,z,k⟩:=I.ok.hd hc;refine⟨cs,l,z,λp hp=>?_⟩;rcases k p hp with ⟨e,n,nf,nx⟩ | q
 . exact⟨I.base.keep _ _ e n nf nx,I.base.free _ _ e n nx,λw=>absurd (ξ e) (by rw[w];exact km.mpr I.ok.above),nf⟩
 . have r:=I.pin p (Φ _ q);exact⟨r.1,r.2.1,r.2.2.1,r.2.2.2.1⟩
theorem Inv.hdFor{cs:List (qH×Obj)}(I:Inv X pins σ H s)(k:∀p∈cs,(X.s₀.heap.get? p.1=some p.2/\X.H₀ p.1=none/\p.1 ∉ X.fs/\p.1 ∉ X.ex)\/p∈X.pn):∀p∈cs,s.heap.get? p.1=some p.2/\H p.1=none/\p.1≠X.env.locals/\p.1 ∉ X.fs:=λp hp=>by
 rcases k p hp with ⟨e,n,nf,nx⟩ | q
 . exact⟨I.base.keep _ _ e n nf nx,I.base.free _ _ e n nx,λw=>absurd (ξ e) (by rw[w];exact km.mpr I.ok.above),nf⟩
 . have r:=I.pin p (Φ _ q);exact⟨r.1,r.2.1,r.2.2.1,r.2.2.2.1⟩
theorem Inv.hd(I:Inv X pins σ H s)(hc:X.calm=true):HH.Hd X.A s.heap:=let ⟨cs,l,z,k⟩:=I.hdAt hc;⟨cs,l,z,λp hp=>(k p hp).1⟩
theorem Inv.stkSub(I:Inv X pins σ H s):∀b∈frs X.stack,b∈X.env.locals::X.fs:=λb hb=>by
 rcases I.ok.stk with e | ⟨e,hf⟩
 . rw[e] at hb;exact ι _ hb
 . rw[e] at hb;unfold frs at hb;rw[ia,hf] at hb;exact hb
theorem Inv.stkFree(I:Inv X pins σ H s):∀b∈frs X.stack,H b=none:=λb hb=>by
 rcases χ.mp (I.stkSub b hb) with e | hb
 . rw[e];exact I.free
 . obtain⟨_,o,ho,_⟩:=I.ok.funs.mem hb;exact I.base.free b o ho (I.ok.frf b hb) λz=>I.ok.exfs b z hb
theorem Inv.step{g':Array qQ}{t':Nat}{d':rg}{ch:List qH}(I:Inv X pins σ H s)
   (hch:∀b∈ch,(b∈X.ex\/X.s₀.heap.objs.size<=b)/\b≠X.env.locals/\(∀x c,X.env.cells.lookup x=some c->c≠b)/\∀p∈X.pn++pins,p.1≠b)
   (keep:∀b o,b≠X.env.locals->b ∉ X.fs->b ∉ ch->s.heap.get? b=some o->H b=none->h'.get? b=some o)
   (slot:∀b o,b≠X.env.locals->b∈X.fs->b ∉ ch->s.heap.get? b=some o->H b=none->∃sl,h'.get? b=some { o with slots:=sl }) (free:∀b o,b ∉ ch->s.heap.get? b=some o->H b=none->H' b=none)
   (there:∀b o,b ∉ ch->s.heap.get? b=some o->∃o',h'.get? b=some o')
   (tups:∀b xs,H b=some (.tup xs)->H' b=some (.tup xs)) (frzs:∀b o u,H b=some (.frz o u)->H' b=some (.frz o u)) (tbls:∀b ps,H b=some (.tbl ps)->∃more,H' b=some (.tbl (ps++more)))
   (ns:∀m,s.heap.Ns X.env.locals m->h'.Ns X.env.locals m) (hok:HOk X.prog X.w H' h') (hg:AllBare g'):
   Inv X pins σ H' { s with heap:=h',gens:=g',drawn:=d',toks:=t' }:=by
 have neL:∀b o,X.s₀.heap.get? b=some o->b≠X.env.locals:=λb o e=>al (ao (ξ e) I.ok.above);have neC:∀b o,X.s₀.heap.get? b=some o->b ∉ X.ex->b ∉ ch:=λb o e hx hb=>by
   rcases(hch b hb).1 with z | z
   . exact hx z
   . exact absurd (ao (ξ e) z) (bh _)
 have cellK:∀x c,X.env.cells.lookup x=some c->∀v,s.heap.IsCell c v->h'.IsCell c v:=λx c e v ⟨o,ho,hd⟩=>by
   have nch:c ∉ ch:=λz=>(hch c z).2.2.1 x c e rfl;by_cases hc:c∈X.fs
   . obtain⟨sl,q⟩:=slot c o (I.cne x c e) hc nch ho (I.freeC x c e);exact⟨_,q,hd⟩
   . exact⟨o,keep c o (I.cne x c e) hc nch ho (I.freeC x c e),hd⟩
 refine⟨I.ok,I.os,hg,⟨λb o e n hb hx=>?_,λb o e n hb hx=>?_,λb o e n hx=>?_,λb o e hx=>?_,λb xs e=>tups b xs (I.base.tups b xs e),λb o xs e=>frzs b o xs (I.base.frzs b o xs e),λb ps e=>?_⟩,?_,λx c e=>?_,?_,λx c e=>?_,λp hp=>?_,hok,I.len⟩
 . exact keep b o (neL b o e) hb (neC b o e hx) (I.base.keep b o e n hb hx) (I.base.free b o e n hx)
 . obtain⟨sl,e1⟩:=I.base.slot b o e n hb hx;obtain⟨sl',e2⟩:=slot b _ (neL b o e) hb (neC b o e hx) e1 (I.base.free b o e n hx);exact⟨sl',e2⟩
 . obtain⟨o',e1⟩:=I.base.there b o e hx;exact free b o' (neC b o e hx) e1 (I.base.free b o e n hx)
 . obtain⟨o',e1⟩:=I.base.there b o e hx;exact there b o' (neC b o e hx) e1
 . obtain⟨m1,e1⟩:=I.base.tbls b ps e;obtain⟨m2,e2⟩:=tbls b _ e1;exact⟨m1++m2,by rw[e2,Array.append_assoc]⟩
 . obtain⟨m,hn,hl⟩:=I.loc;refine⟨m,ns m hn,λi x v e1 e2 e3=>?_⟩;obtain⟨u,r,l⟩:=hl i x v e1 e2 e3;refine⟨u,r,?_⟩;rcases l with l | ⟨k,c,e,z⟩
   . exact .inl l
   . exact .inr ⟨k,c,e,cellK x c e _ z⟩
 . obtain⟨v,z⟩:=I.cell x c e;exact⟨v,cellK x c e v z⟩
 . obtain⟨m,⟨o,_,_,ho,_⟩,_⟩:=I.loc;exact free _ o (λz=>(hch _ z).2.1 rfl) ho I.free
 . obtain⟨v,o,ho,hd⟩:=I.cell x c e;exact free c o (λz=>(hch c z).2.2.1 x c e rfl) ho (I.freeC x c e)
 . obtain⟨e,n,ne,nf,d⟩:=I.pin p hp;have nch:p.1 ∉ ch:=λz=>(hch p.1 z).2.2.2 p hp rfl;exact⟨keep p.1 p.2 ne nf nch e n,free p.1 p.2 nch e n,ne,nf,d⟩
theorem Inv.un{t':Nat}(I:Inv X pins σ H s)(u:Un X.fs [] H H' s.heap h')(hok:HOk X.prog X.w H' h'):Inv X pins σ H' { s with heap:=h',toks:=t' }:=by
 obtain⟨m,⟨o,es,ep,ho,r⟩,_⟩:=id I.loc;obtain⟨sl,hL⟩:=u.any ho I.free (by simp);exact I.step (g':=s.gens) (d':=s.drawn) (ch:=[]) (λ_ z=>nomatch z) (λb o _ hb _ e n=>u.keep b o e n hb (by simp)) (λb o _ hb _ e n=>u.slot b o e n hb (by simp)) (λb o _ e n=>u.free b o e n (by simp)) (λb o _ e=>u.there b o e (by simp)) u.tups u.frzs u.tbls (λm' hm=>by
   obtain⟨o',es',ep',ho',r'⟩:=hm;rw[ho] at ho';cases ho';exact⟨_,es',ep',hL,r'⟩) hok I.bare
theorem Inv.call{g':Array qQ}{t':Nat}{d':rg}{ch:List qH}(I:Inv X pins σ H s)(u:Un (frs X.stack) ch H H' s.heap h')(hok:HOk X.prog X.w H' h')(hg:AllBare g')
   (hch:∀b∈ch,(b∈X.ex\/X.s₀.heap.objs.size<=b)/\b≠X.env.locals/\(∀x c,X.env.cells.lookup x=some c->c≠b)/\∀p∈X.pn++pins,p.1≠b):
   Inv X pins σ H' { s with heap:=h',gens:=g',drawn:=d',toks:=t' }:=by
 obtain⟨m,⟨o,es,ep,ho,r⟩,_⟩:=id I.loc;obtain⟨sl,hL⟩:=u.any ho I.free λz=>(hch _ z).2.1 rfl;exact I.step (ch:=ch) hch (λb o hL hb hc e n=>u.keep b o e n (λz=>(χ.mp (I.stkSub b z)).elim hL hb) hc) (λb o _ _ hc e n=>u.any e n hc) (λb o hc e n=>u.free b o e n hc) (λb o hc e=>u.there b o e hc) u.tups u.frzs u.tbls (λm' hm=>by
   obtain⟨o',es',ep',ho',r'⟩:=hm;rw[ho] at ho';cases ho';exact⟨_,es',ep',hL,r'⟩) hok hg
theorem Inv.turned{t':Nat}{it:qH}(I:Inv X pins σ H s)(k:∀b o,b≠it->s.heap.get? b=some o->h'.get? b=some o)(hn:H it=none)(hL:it≠X.env.locals)
   (h1:it∈X.ex\/X.s₀.heap.objs.size<=it) (h2:∀x c,X.env.cells.lookup x=some c->c≠it) (h3:∀p∈X.pn++pins,p.1≠it):Inv X pins σ H { s with heap:=h',toks:=t' }:=by
 have nit:∀b u,H b=some u->b≠it:=λb u e z=>by rw[z,hn] at e;cases e
 refine I.step (g':=s.gens) (d':=s.drawn) (ch:=[it]) (λb hb=>?_) (λb o _ _ hc e _=>k b o (λz=>hc (by simp [z])) e) (λb o _ _ hc e _=>⟨o.slots,k b o (λz=>hc (by simp [z])) e⟩) (λ_ _ _ _ n=>n)
   (λb o hc e=>⟨o,k b o (λz=>hc (by simp [z])) e⟩) (λ_ _ e=>e) (λ_ _ _ e=>e) (λb ps e=>⟨#[],by rw[e];simp⟩) (λm hm=>?_) (λb u e=>?_) I.bare
 . have e:b=it:=by simpa using hb
   subst e;exact⟨h1,hL,h2,h3⟩
 . obtain⟨o,es,ep,ho,r⟩:=hm;exact⟨o,es,ep,k _ o (bd hL) ho,r⟩
 . refine(I.hok b u e).stay (λc v hc q=>k c v ?_ q) (λ_ q=>q) λ_ _ q=>q;rcases hc with z | z
   . rw[z];exact nit b u e
   . exact nit c _ z
theorem Inv.tok(I:Inv X pins σ H s)(t:Nat):Inv X pins σ H { s with toks:=t }:=I.un (h':=s.heap) (t':=t) Un.refl I.hok
theorem Inv.kept{t':Nat}(I:Inv X pins σ H s)(k:∀b u,s.heap.get? b=some u->h'.get? b=some u):Inv X pins σ H { s with heap:=h',toks:=t' }:=I.un (Un.kept k) (I.hok.kept k)
theorem Inv.laid{a:qH}{o:HO}{t':Nat}(I:Inv X pins σ H s)(k:∀b u,s.heap.get? b=some u->h'.get? b=some u)(hp:s.heap.objs.size<=a)(new:A8 X.prog X.w (upd H a o) h' a o):
   Inv X pins σ (upd H a o) { s with heap:=h',toks:=t' }:=I.un (Un.laid k hp (I.hok.fresh hp)) (I.hok.laid k hp new)
theorem Inv.write{x e:qH}{o:HO}{t':Nat}(I:Inv X pins σ H s)(mu:Mut (H x))(he:e=x\/H e=some (.own x))(k:∀b u,b≠e->s.heap.get? b=some u->h'.get? b=some u)(heo:∃u,h'.get? e=some u)
   (new:A8 X.prog X.w (upd H x o) h' x o):Inv X pins σ (upd H x o) { s with heap:=h',toks:=t' }:=I.un (Un.write mu he k heo) (I.hok.write mu he k heo new)
theorem Inv.pins_of{pins':List (qH×Obj)}(I:Inv X pins σ H s)(h:∀p∈pins',s.heap.get? p.1=some p.2/\H p.1=none/\p.1≠X.env.locals/\p.1 ∉ X.fs/\∀v,p.2.data≠.cell v):Inv X pins' σ H s :=
 ⟨I.ok,I.os,I.bare,I.base,I.loc,I.cell,I.free,I.freeC,λp hp=>(ρ.mp hp).elim (λz=>I.pin p (Φ _ z)) (h p),I.hok,I.len⟩
theorem PU{N:List Str}(hN:N.Nodup){i j:Nat}{x:Str}(a:N[i]?=some x)(b:N[j]?=some x):i=j:=by
 obtain⟨h1,e1⟩:=δ.mp a;obtain⟨h2,e2⟩:=δ.mp b;exact(List.getElem_inj hN).mp (e1.trans e2.symm)
theorem VO{M:rD}{A:qM}{i:Nat}{x:Str}{v:V}{u:qG}{Q:Unit->qI->Prop}(I:Inv X pins σ H s)(hN:X.N.Nodup)(hi:X.N[i]?=some x)(hx:Loc X.env.scope x)(r:RelV v u)
   (h:∀s',Inv X pins (σ.set i (some v)) H s'->(∃a,bu a s.heap s'.heap/\(a=X.env.locals\/X.env.cells.lookup x=some a))->Q () s') (hf:X.fn x=true\/X.env.scope.names.lookup x=some .local:=by first | exact .inl rfl | exact .inr rfl | assumption):qX M A (storeName X.env x u) Q E s:=by
 obtain⟨m,hn,hl⟩:=id I.loc;have hcls:(X.env.scope.kind==.class||(X.env.scope.kind==.module&&X.env.locals != X.env.globals))=false:=by rw[I.ok.kind];rfl
 have hiσ:i<σ.length:=by rw[I.len];exact(δ.mp hi).1
 have cne:=I.cne;have tracked:∀{a:qH} {h':rB},(∃o,s.heap.get? a=some o/\H a=none)->bu a s.heap h'->HOk X.prog X.w H h':=λ{a h'} ha hs b ob e=>by
   obtain⟨_,_,hfree⟩:=ha;refine(I.hok b ob e).stay (λc w' hc q=>(hs.2 c ?_).trans q) (λ_ q=>q) λ_ _ q=>q;rintro rfl;rcases hc with rfl | hc
   . rw[hfree] at e;cases e
   . rw[hfree] at hc;cases hc
 rcases hx with hk | hk
 . refine wpAny_storeName_local hk hn (λh' hn' hs=>?_) hcls;obtain⟨oL,_,_,hoL,_⟩:=id hn;refine h _ ⟨I.ok,I.os,I.bare,⟨λb o e n hb hx=>?_,λb o e n hb hx=>?_,I.base.free,λb o e hx=>?_,I.base.tups,I.base.frzs,I.base.tbls⟩,⟨_,hn',λj y v' e1 e2 e3=>?_⟩,λy c e=>?_,I.free,I.freeC,λp hp=>?_,tracked ⟨oL,hoL,I.free⟩ hs,by simpa using I.len⟩ ⟨_,hs,.inl rfl⟩
   . exact(hs.2 b (al (ao (ξ e) I.ok.above))).trans (I.base.keep b o e n hb hx)
   . obtain⟨sl,e1⟩:=I.base.slot b o e n hb hx;exact⟨sl,(hs.2 b (al (ao (ξ e) I.ok.above))).trans e1⟩
   . obtain⟨o',e1⟩:=I.base.there b o e hx;exact⟨o',(hs.2 b (al (ao (ξ e) I.ok.above))).trans e1⟩
   . by_cases hj:j=i
     . subst hj;rw[hi] at e1;cases e1;rw[cw hiσ] at e2;cases e2;exact⟨u,r,.inl ⟨hk,by simp⟩⟩
     . rw[cr (bd hj)] at e2;obtain⟨u',r',q⟩:=hl j y v' e1 e2 e3;refine⟨u',r',?_⟩;rcases q with ⟨k,e⟩ | ⟨k,c,e,z⟩
       . refine .inl ⟨k,?_⟩;have:y≠x:=λe=>hj (PU hN e1 (e▸hi));simp [this,e]
       . exact .inr ⟨k,c,e,z.sameBut hs (cne y c e)⟩
   . obtain⟨w',z⟩:=I.cell y c e;exact⟨w',z.sameBut hs (cne y c e)⟩
   . obtain⟨e,n,ne,nf,d⟩:=I.pin p hp;exact⟨(hs.2 p.1 ne).trans e,n,ne,nf,d⟩
 . have hfn:X.fn x=true:=by
     rcases hf with z | z
     . exact z
     . rw[z] at hk;cases hk
   obtain⟨c,hc⟩:=I.ok.has x (.inl hk);obtain⟨w',z⟩:=I.cell x c hc;refine wpAny_storeName_cell I.ok.kind hk hc z (λh' hc' hs=>?_);obtain⟨oc,hoc,hocd⟩:=id z;refine h { s with heap:=h' } ⟨I.ok,I.os,I.bare,⟨λb o e n hb hx=>?_,λb o e n hb hx=>?_,I.base.free,λb o e hx=>?_,I.base.tups,I.base.frzs,I.base.tbls⟩,⟨m,hn.sameBut hs (bd (cne x c hc)),λj y v' e1 e2 e3=>?_⟩,λy c' e=>?_,I.free,I.freeC,λp hp=>?_,tracked ⟨oc,hoc,I.freeC x c hc⟩ hs,by simpa using I.len⟩ ⟨c,hs,.inr hc⟩
   . exact(hs.2 b (al (ao (ξ e) (I.ok.cab x c hfn hc)))).trans (I.base.keep b o e n hb hx)
   . obtain⟨sl,e1⟩:=I.base.slot b o e n hb hx;exact⟨sl,(hs.2 b (al (ao (ξ e) (I.ok.cab x c hfn hc)))).trans e1⟩
   . obtain⟨o',e1⟩:=I.base.there b o e hx;exact⟨o',(hs.2 b (al (ao (ξ e) (I.ok.cab x c hfn hc)))).trans e1⟩
   . by_cases hj:j=i
     . subst hj;rw[hi] at e1;cases e1;rw[cw hiσ] at e2;cases e2;exact⟨u,r,.inr ⟨.inl hk,c,hc,hc'⟩⟩
     . rw[cr (bd hj)] at e2;obtain⟨u',r',q⟩:=hl j y v' e1 e2 e3;refine⟨u',r',?_⟩;rcases q with q | ⟨k,c',e,z'⟩
       . exact .inl q
       . refine .inr ⟨k,c',e,z'.sameBut hs ?_⟩;rintro rfl;exact hj (PU hN e1 (I.ok.inj _ _ _ e hc▸hi))
   . by_cases hcc:c'=c
     . subst hcc;exact⟨_,hc'⟩
     . obtain⟨w2,z2⟩:=I.cell y c' e;exact⟨w2,z2.sameBut hs hcc⟩
   . obtain⟨e,n,ne,nf,d⟩:=I.pin p hp;refine⟨(hs.2 p.1 ?_).trans e,n,ne,nf,d⟩;intro q;rw[q,hoc] at e;have q':oc=p.2:=ae e;exact d w' (by rw[<-q'];exact hocd)
theorem Ji{M:rD}{A:qM}{i:Nat}{x:Str}{v:V}{u:qG}{Q:Unit->qI->Prop}(I:Inv X pins σ H s)(hN:X.N.Nodup)(hi:X.N[i]?=some x)(hx:Loc X.env.scope x)(r:RelV v u)
   (h:∀s',Inv X pins (σ.set i (some v)) H s'->Q () s') (hf:X.fn x=true\/X.env.scope.names.lookup x=some .local:=by first | exact .inl rfl | exact .inr rfl | assumption):qX M A (storeName X.env x u) Q E s :=
 VO I hN hi hx r (λs' I' _=>h s' I') hf
theorem Inv.call'{s':qI}{ch:List qH}(I:Inv X pins σ H s)(ho:s'.os=s.os)(u:Un (frs X.stack) ch H H' s.heap s'.heap)(hok:HOk X.prog X.w H' s'.heap)(hg:AllBare s'.gens)
   (hch:∀b∈ch,(b∈X.ex\/X.s₀.heap.objs.size<=b)/\b≠X.env.locals/\(∀x c,X.env.cells.lookup x=some c->c≠b)/\∀p∈X.pn++pins,p.1≠b):Inv X pins σ H' s':=by
 obtain⟨h',g',d',t',o'⟩:=s';have e:o'=s.os:=ho;subst e;exact I.call (g':=g') (t':=t') (d':=d') u hok hg hch
end
abbrev XK:=qG->Option qH->Hp->Prop
abbrev St:=List (Option V)
abbrev VK:=V->Hp->Prop
abbrev TE:=St->Hp->VK->Prop
abbrev TT:=St->Hp->(Bool->Hp->Prop)->Prop
abbrev TA:=St->Hp->(List V->Hp->Prop)->Prop
structure Ends where
 nx:St->Hp->Prop
 rt:VK
 bk:St->Hp->Prop:=λ_ _=>False
 ct:St->Hp->Prop:=λ_ _=>False
abbrev TS:=Ends->St->Hp->Prop
def EP(X:Cx)(pins:List (qH×Obj))(σ:St)(Q:VK)(u:qG)(s':qI):Prop:=∃v H',Inv X pins σ H' s'/\RelV v u/\Q v H'
def TP(X:Cx)(pins:List (qH×Obj))(σ:St)(Q:Bool->Hp->Prop)(b:Bool)(s':qI):Prop:=∃H',Inv X pins σ H' s'/\Q b H'
def AP(X:Cx)(pins:List (qH×Obj))(σ:St)(Q:List V->Hp->Prop)(us:List qG)(s':qI):Prop:=∃vs H',Inv X pins σ H' s'/\Vals vs us/\Q vs H'
def SP(X:Cx)(pins:List (qH×Obj))(D:Ends)(f:Flow)(s':qI):Prop :=
 match f with
 | .next=>∃σ' H',Inv X pins σ' H' s'/\D.nx σ' H'
 | .brk=>∃σ' H',Inv X pins σ' H' s'/\D.bk σ' H'
 | .cont=>∃σ' H',Inv X pins σ' H' s'/\D.ct σ' H'
 | .ret u=>∃v σ' H',Inv X pins σ' H' s'/\RelV v u/\D.rt v H'
def PE(X:Cx)(e:qN)(t:TE):Prop :=
 ∀(pins:List (qH×Obj)) (s:qI) (σ:St) (H:Hp) (Q:VK),Inv X pins σ H s->t σ H Q->qX (rj X.prog X.w) X.A (rh e X.env) (EP X pins σ Q) X.xe s
def PT(X:Cx)(e:qN)(t:TT):Prop :=
 ∀(pins:List (qH×Obj)) (s:qI) (σ:St) (H:Hp) (Q:Bool->Hp->Prop),Inv X pins σ H s->t σ H Q->qX (rj X.prog X.w) X.A (isTrue e X.env (rh e X.env)) (TP X pins σ Q) X.xe s
def PW(X:Cx)(e:qN)(t:TT):Prop :=
 ∀(whole:rq qG) (pins:List (qH×Obj)) (s:qI) (σ:St) (H:Hp) (Q:Bool->Hp->Prop),Inv X pins σ H s->t σ H Q->qX (rj X.prog X.w) X.A (isTrue e X.env whole) (TP X pins σ Q) X.xe s
theorem PW.pt{X:Cx}{e:qN}{t:TT}(h:PW X e t):PT X e t:=h _
def PA(X:Cx)(es:List qN)(t:TA):Prop :=
 ∀(pos:Pos) (pins:List (qH×Obj)) (s:qI) (σ:St) (H:Hp) (Q:List V->Hp->Prop),Inv X pins σ H s->t σ H Q->qX (rj X.prog X.w) X.A (spliced (qY pos (qR es X.env))) (AP X pins σ Q) X.xe s
def PS(X:Cx)(st:qO)(t:TS):Prop :=
 ∀(pins:List (qH×Obj)) (s:qI) (σ:St) (H:Hp) (D:Ends),Inv X pins σ H s->t D σ H->qX (rj X.prog X.w) X.A (exec st X.env) (SP X pins D) X.xe s
def PSs(X:Cx)(st:List qO)(t:TS):Prop :=
 ∀(pins:List (qH×Obj)) (s:qI) (σ:St) (H:Hp) (D:Ends),Inv X pins σ H s->t D σ H->qX (rj X.prog X.w) X.A (execs st X.env) (SP X pins D) X.xe s
theorem thn{α:Type}{t:rq α}{Q Q':α->qI->Prop}{M:rD}{A:qM}{s:qI}(h:qX M A t Q E s)(hQ:∀a s,Q a s->Q' a s):qX M A t Q' E s:=qW h hQ λ_ _ x=>x
section
variable {X:Cx}
theorem bin{a b:qN}{ta tb:TE}(ha:PE X a ta)(hb:PE X b tb){s:qI}{σ:St}{R:V->V->Hp->Prop}(I:Inv X pins σ H s)(h:ta σ H λx H1=>tb σ H1 λy H2=>R x y H2)
   {α:Type} {Q:α->qI->Prop} {f:qG->qG->rq α}
   (hf:∀v u s2 x y H2,Inv X pins σ H2 s2->RelV x v->RelV y u->R x y H2->qX (rj X.prog X.w) X.A (f v u) Q X.xe s2):
   qX (rj X.prog X.w) X.A (rh a X.env) (λv s₁=>qX (rj X.prog X.w) X.A (rh b X.env) (λu s₂=>qX (rj X.prog X.w) X.A (f v u) Q X.xe s₂) X.xe s₁) X.xe s:=by
 refine thn (ha pins s σ H _ I h) λv s1 ⟨x,H1,I1,r1,q1⟩=>?_;refine thn (hb pins s1 σ H1 _ I1 q1) λu s2 ⟨y,H2,I2,r2,q2⟩=>?_;exact hf v u s2 x y H2 I2 r1 r2 q2
def vX(i:Nat):TE:=λσ H Q=>∃v,σ[i]?=some (some v)/\Q v H
def tC(v:V):TE:=λ_ H Q=>Q v H
theorem VP{i:Nat}{x:Str}{pos:Pos}(hN:X.N[i]?=some x)(hv:Vis X.env.scope x)(hd:(x==("__debug__":Str))=false:=by decide)(hcd:(x==("__classdict__":Str))=false:=by decide):PE X (.Name x pos) (vX i):=by
 intro pins s σ H Q I h;obtain⟨v,e,h⟩:=h;obtain⟨m,hn,hl⟩:=I.loc;obtain⟨u,r,l⟩:=hl i x v hN e hv;have fin:EP X pins σ Q u s:=⟨v,H,I,r,h⟩
 rcases l with ⟨hk,hm⟩ | ⟨hk,c,hc,hcell⟩
 . exact wpAny_Name (wpAny_loadName_local I.ok.kind hk hn hm fin) hd
 . rcases hk with hk | hk
   . exact wpAny_Name (wpAny_loadName_cell I.ok.kind hk hc hcell fin) hd
   . exact wpAny_Name (wpAny_loadName_free I.ok.kind hk hc hcell fin hcd) hd
theorem Aj{i j pos}:PE X (.Constant (.int i) j pos) (tC (.int i)):=λ_ _ _ H _ I h=>wpAny_Constant_int ⟨.int i,H,I.tok _,⟨_,rfl⟩,h⟩
theorem Dx{b j pos}:PE X (.Constant (.bool b) j pos) (tC (.bl b)):=λ_ _ _ H _ I h=>Constant_bool ⟨.bl b,H,I,rfl,h⟩
theorem Br{j pos}:PE X (.Constant .none j pos) (tC .non):=λ_ _ _ H _ I h=>Constant_none ⟨.non,H,I,rfl,h⟩
theorem At{x j pos}:PE X (.Constant (.str x) j pos) (tC (.str x)):=λ_ _ _ H _ I h=>Calls.Constant_str ⟨.str x,H,I.tok _,⟨_,rfl⟩,h⟩
def Gl(X:Cx)(x:Str):Prop:=X.env.kindOf x=some .globalImplicit
theorem DV{s:qI}{σ:St}{x:Str}{u:qG}{pos:Pos}{Q:qG->qI->Prop}(I:Inv X pins σ H s)(hg:Gl X x)(hm:X.mg x=some u)(h:Q u s)
   (hd:(x==("__debug__":Str))=false:=by decide):qX (rj X.prog X.w) X.A (rh (.Name x pos) X.env) Q E s :=
 jk I.ok.kind hg (Calls.loadGlobal_global (by rw[I.ok.glob];exact I.mod.glob.keeps I.bk) hm h) hd
theorem E7{s:qI}{σ:St}{x:Str}{u:qG}{pos:Pos}{Q:qG->qI->Prop}(I:Inv X pins σ H s)(hg:Gl X x)(hm:X.mg x=none)(hv:bootBuiltins x=some u)(h:Q u s)
   (hn:x≠"__name__":=by decide) (hd:(x==("__debug__":Str))=false:=by decide):qX (rj X.prog X.w) X.A (rh (.Name x pos) X.env) Q E s:=by
 obtain⟨mb,h1,h2⟩:=I.mod.blt;exact jk I.ok.kind hg (Calls.loadGlobal_builtin (by rw[I.ok.glob];exact I.mod.glob.keeps I.bk) hm (by rw[I.ok.blt];exact h1.keeps I.bk) ((h2 x hn).trans hv) h) hd
theorem BV{x:Str}{v:V}{u:qG}{pos:Pos}(hg:Gl X x)(hm:X.mg x=some u)(r:RelV v u)(hd:(x==("__debug__":Str))=false:=by decide):PE X (.Name x pos) (tC v) :=
 λ_ _ _ H _ I h=>DV I hg hm ⟨v,H,I,r,h⟩ hd
theorem Jj{x:Str}{v:V}{u:qG}{pos:Pos}(hg:Gl X x)(hm:X.mg x=none)(hv:bootBuiltins x=some u)(r:RelV v u)(hn:x≠"__name__":=by decide)(hd:(x==("__debug__":Str))=false:=by decide):PE X (.Name x pos) (tC v) :=
 λ_ _ _ H _ I h=>E7 I hg hm hv ⟨v,H,I,r,h⟩ hn hd
variable {a b:qN}{ta tb:TE}{pos:Pos}
def PC(X:Cx)(op:CmpOp)(a b:qN)(t:TE):Prop :=
 ∀(pins:List (qH×Obj)) (s:qI) (σ:St) (H:Hp) (Q:VK),Inv X pins σ H s->t σ H Q ->
   qX (rj X.prog X.w) X.A (rh a X.env) (λv s₁=>qX (rj X.prog X.w) X.A (rh b X.env) (λu s₂=>qX (rj X.prog X.w) X.A (rc op v u) (EP X pins σ Q) X.xe s₂) X.xe s₁) X.xe s
theorem Zl(b:qN){op:CmpOp}(h:op≠.In)(h2:op≠.NotIn):behindInMarks op b=false:=by
 have e1:(op==CmpOp.In)=false:=by cases op <;> first | rfl | exact absurd rfl h
 have e2:(op==CmpOp.NotIn)=false:=by cases op <;> first | rfl | exact absurd rfl h2
 cases b <;> simp [behindInMarks,e1,e2]
def tB(t:TE):TT:=λσ H Q=>t σ H λx H1=>∃c,x = .bl c/\Q c H1
theorem PV{op:CmpOp}{t:TE}(h:PC X op a b t)(h1:behindInMarks op b=false:=by first | exact Zl _ (by decide) (by decide) | rfl):PT X (.Compare a [op] [b] pos) (tB t):=by
 intro pins s σ H Q I hw;refine wpAny_isTrue_Compare1 (thn (h pins s σ H _ I hw) λv s1 h1=>thn h1 λu s2 h2=>thn h2 λc s3 ⟨x,H1,I1,r1,q1⟩=>?_) h1;obtain⟨d,rfl,q⟩:=q1;cases r1;exact rm ⟨H1,I1,q⟩
theorem D9{e:qN}{t:TE}(h:PE X e t)(he:∀whole,isTrue e X.env whole=(do let v <-whole;standAt e.pos;holding [v] (truthy v)):=by intro _;rfl):PT X e (tB t):=by
 intro pins s σ H Q I hw;refine isTrue_plain (thn (h pins s σ H _ I hw) λv s1 ⟨x,H1,I1,r1,q1⟩=>?_) (he _);obtain⟨d,rfl,q⟩:=q1;cases r1;exact rm ⟨H1,I1,q⟩
variable {tA tB':TT}{tO:List qN}
def tAnd(t u:TT):TT:=λσ H Q=>t σ H λc H1=>if c=true then u σ H1 Q else Q false H1
def tOr(t u:TT):TT:=λσ H Q=>t σ H λc H1=>if c=true then Q true H1 else u σ H1 Q
def tNot(t:TT):TT:=λσ H Q=>t σ H λc H1=>Q (!c) H1
theorem DB(ha:PT X a tA):PW X (.BoolOp .And [a] pos) tA:=by
 intro wh pins s σ H Q I h;refine isTrue_and (thn (ha pins s σ H Q I h) λc s1 e=>?_);cases c with
 | true=>exact isTrue_and_nil e
 | false=>exact e
theorem DC(ha:PT X a tA):PW X (.BoolOp .Or [a] pos) tA:=by
 intro wh pins s σ H Q I h;refine isTrue_or (thn (ha pins s σ H Q I h) λc s1 e=>?_);cases c with
 | false=>exact isTrue_or_nil e
 | true=>exact e
theorem Cr(ha:PT X a tA)(hb:PW X (.BoolOp .And (b::tO) pos) tB'):PW X (.BoolOp .And (a::b::tO) pos) (tAnd tA tB'):=by
 intro wh pins s σ H Q I h;refine isTrue_and (thn (ha pins s σ H _ I h) λc s1 ⟨H1,I1,q1⟩=>?_);cases c with
 | true=>exact hb wh pins s1 σ H1 Q I1 q1
 | false=>exact⟨H1,I1,q1⟩
theorem CB(ha:PT X a tA)(hb:PW X (.BoolOp .Or (b::tO) pos) tB'):PW X (.BoolOp .Or (a::b::tO) pos) (tOr tA tB'):=by
 intro wh pins s σ H Q I h;refine isTrue_or (thn (ha pins s σ H _ I h) λc s1 ⟨H1,I1,q1⟩=>?_);cases c with
 | true=>exact⟨H1,I1,q1⟩
 | false=>exact hb wh pins s1 σ H1 Q I1 q1
theorem CD(ha:PT X a tA):PT X (.UnaryOp .Not a pos) (tNot tA):=by
 intro pins s σ H Q I h;exact isTrue_not (ha pins s σ H (λc H1=>Q (!c) H1) I h)
def Nk(ta tb:TE):TE:=λσ H Q=>ta σ H λx H1=>∃c,x = .bl c/\if c=true then tb σ H1 Q else Q (.bl false) H1
def vY(ta tb:TE):TE:=λσ H Q=>ta σ H λx H1=>∃c,x = .bl c/\if c=true then Q (.bl true) H1 else tb σ H1 Q
def uM(ta:TE):TE:=λσ H Q=>ta σ H λx H1=>∃c,x = .bl c/\Q (.bl (!c)) H1
theorem Ea{op}{t:TE}(h:PE X a t):PE X (.BoolOp op [a] pos) t:=λpins s σ H Q I hw=>BoolOp_one (h pins s σ H Q I hw)
theorem DG(ha:PE X a ta)(hb:PE X (.BoolOp .And (b::tO) pos) tb):PE X (.BoolOp .And (a::b::tO) pos) (Nk ta tb):=by
 intro pins s σ H Q I h;refine BoolOp_and (thn (ha pins s σ H _ I h) λv s1 ⟨x,H1,I1,r1,q1⟩=>?_);obtain⟨c,rfl,q1⟩:=q1;cases r1;refine rm ?_;cases c with
 | true=>exact hb pins s1 σ H1 Q I1 q1
 | false=>exact⟨.bl false,H1,I1,rfl,q1⟩
theorem pe_or(ha:PE X a ta)(hb:PE X (.BoolOp .Or (b::tO) pos) tb):PE X (.BoolOp .Or (a::b::tO) pos) (vY ta tb):=by
 intro pins s σ H Q I h;refine BoolOp_or (thn (ha pins s σ H _ I h) λv s1 ⟨x,H1,I1,r1,q1⟩=>?_);obtain⟨c,rfl,q1⟩:=q1;cases r1;refine rm ?_;cases c with
 | false=>exact hb pins s1 σ H1 Q I1 q1
 | true=>exact⟨.bl true,H1,I1,rfl,q1⟩
theorem VQ(ha:PE X a ta):PE X (.UnaryOp .Not a pos) (uM ta):=by
 intro pins s σ H Q I h;refine UnaryOp_ (thn (ha pins s σ H _ I h) λv s1 ⟨x,H1,I1,r1,q1⟩=>?_);obtain⟨c,rfl,q1⟩:=q1;cases r1;exact not_of (rm ⟨.bl (!c),H1,I1,rfl,q1⟩)
def tIf(t:TT)(ta tb:TE):TE:=λσ H Q=>t σ H λc H1=>if c=true then ta σ H1 Q else tb σ H1 Q
theorem Zm{c:qN}(hc:PT X c tA)(ha:PE X a ta)(hb:PE X b tb):PE X (.IfExp c a b pos) (tIf tA ta tb):=by
 intro pins s σ H Q I h;refine wpAny_IfExp (thn (hc pins s σ H _ I h) λd s1 ⟨H1,I1,q1⟩=>?_);cases d with
 | true=>exact ha pins s1 σ H1 Q I1 q1
 | false=>exact hb pins s1 σ H1 Q I1 q1
end
def SqL(K:γ)(H:Hp)(a:qH)(xs:List V):Prop :=
 Rd H a (.lst xs) \/
   ∃(o:Obj) (its:Array qG) (n:Nat),K.lookup a=some o/\o.cls = .type "list"/\o.dict=none/\o.data = .seq its n/\its.size<=qT/\Vals xs its.toList
def SqT(K:γ)(H:Hp)(a:qH)(xs:List V):Prop :=
 Rd H a (.tup xs) \/
   ∃(o:Obj) (its:Array qG) (n:Nat),K.lookup a=some o/\o.cls = .type "tuple"/\o.data = .seq its n/\its.size<=qT/\Vals xs its.toList
def absV:qG->Option V
 | .none=>some .non
 | .bool b=>some (.bl b)
 | .int i _=>some (.int i)
 | .str x _=>some (.str x)
 | .bytes b _=>some (.byt b)
 | .float b _=>some (.flt b)
 | .ref a=>some (.ref a)
 | .type n=>some (.ty n)
 | _=>none
theorem RelV.abs{x:V}{u:qG}(r:RelV x u):absV u=some x:=by
 cases x with
 | non=>cases r;rfl
 | bl _=>cases r;rfl
 | int _=>obtain⟨t,rfl⟩:=r;rfl
 | str _=>obtain⟨t,rfl⟩:=r;rfl
 | byt _=>obtain⟨t,rfl⟩:=r;rfl
 | flt _=>obtain⟨t,rfl⟩:=r;rfl
 | ref _=>cases r;rfl
 | ty _=>cases r;rfl
theorem RelV.inj{x y:V}{u:qG}(r:RelV x u)(q:RelV y u):x=y:=ae (r.abs.symm.trans q.abs)
theorem Vals.inj:∀{xs ys:List V} {us:List qG},Vals xs us->Vals ys us->xs=ys
 | _,_,_,.nil,.nil=>rfl
 | _,_,_,.cons r t,.cons r' t'=>by rw[r.inj r',Vals.inj t t']
section
variable {X:Cx}{pins:List (qH×Obj)}{σ:St}{H:Hp}{s:qI}{a:qH}{xs ys:List V}
theorem SqL.of{K:γ}(h:H a=some (.lst xs)):SqL K H a xs:=.inl (.inl h)
theorem SqT.of{K:γ}(h:H a=some (.tup xs)):SqT K H a xs:=.inl (.inl h)
theorem Inv.list(I:Inv X pins σ H s)(h:SqL X.K H a xs):∃its:List qG,Vals xs its/\PlainL s.heap a its.toArray/\xs.length<=qT:=by
 rcases h with h | ⟨o,its,n,hk,hc,hd,hs,hz,r⟩
 . obtain⟨z,its,n,r,e⟩:=h.ok I.hok;exact⟨its,r,⟨_,n,e,rfl,rfl,rfl⟩,z⟩
 . refine⟨its.toList,r,⟨o,n,I.kIn a o hk,hc,hd,by simpa using hs⟩,?_⟩;have e:=r.length;simp only [ib] at e;omega
theorem Inv.tuple(I:Inv X pins σ H s)(h:SqT X.K H a xs):∃its:List qG,Vals xs its/\IsTup s.heap a its.toArray/\xs.length<=qT:=by
 rcases h with h | ⟨o,its,n,hk,hc,hs,hz,r⟩
 . obtain⟨z,its,r,p⟩:=h.ok I.hok;exact⟨its,r,p,z⟩
 . refine⟨its.toList,r,⟨o,I.kIn a o hk,hc,n,by simpa using hs⟩,?_⟩;have e:=r.length;simp only [ib] at e;omega
theorem Inv.list_inj(I:Inv X pins σ H s)(h:SqL X.K H a xs)(h':SqL X.K H a ys):xs=ys:=by
 obtain⟨its,r,⟨o,n,e,_,_,d⟩,_⟩:=I.list h;obtain⟨its',r',⟨o',n',e',_,_,d'⟩,_⟩:=I.list h';rw[e] at e';cases e';rw[d] at d'
 injection d' with d1 _
 have:its=its':=by simpa using congrArg Array.toList d1
 subst this;exact r.inj r'
end
abbrev Cx.wish(X:Cx)(E:qG->qI->Prop):Cx:={ X with xe:=E }
abbrev Cx.nox(X:Cx):Cx:=X.wish λ_ _=>False
theorem Cx.Ok.wish{X:Cx}(ok:X.Ok)(E:qG->qI->Prop):(X.wish E).Ok :=
 ⟨ok.mod,ok.kind,ok.glob,ok.blt,ok.above,ok.inj,ok.has,ok.cab,ok.hd,ok.frames,ok.stk,ok.exf,ok.bs,ok.bsz,ok.noex,ok.exfs,ok.funs,ok.frf⟩
theorem Cx.Ok.unwish{X:Cx}(ok:(X.wish E).Ok):X.Ok :=
 ⟨ok.mod,ok.kind,ok.glob,ok.blt,ok.above,ok.inj,ok.has,ok.cab,ok.hd,ok.frames,ok.stk,ok.exf,ok.bs,ok.bsz,ok.noex,ok.exfs,ok.funs,ok.frf⟩
section
variable {X:Cx}{pins:List (qH×Obj)}{σ:St}{H:Hp}{s:qI}{E:qG->qI->Prop}
theorem Inv.wish(I:Inv X pins σ H s)(E:qG->qI->Prop):Inv (X.wish E) pins σ H s:=⟨I.ok.wish E,I.os,I.bare,I.base,I.loc,I.cell,I.free,I.freeC,I.pin,I.hok,I.len⟩
theorem Inv.unwish(I:Inv (X.wish E) pins σ H s):Inv X pins σ H s:=⟨I.ok.unwish,I.os,I.bare,I.base,I.loc,I.cell,I.free,I.freeC,I.pin,I.hok,I.len⟩
theorem SP.unwish{D:Ends}{f:Flow}{s':qI}(h:SP (X.wish E) pins D f s'):SP X pins D f s':=by
 cases f with
 | next=>obtain⟨σ',H',I,q⟩:=h;exact⟨σ',H',I.unwish,q⟩
 | brk=>obtain⟨σ',H',I,q⟩:=h;exact⟨σ',H',I.unwish,q⟩
 | cont=>obtain⟨σ',H',I,q⟩:=h;exact⟨σ',H',I.unwish,q⟩
 | ret u=>obtain⟨v,σ',H',I,r,q⟩:=h;exact⟨v,σ',H',I.unwish,r,q⟩
theorem PSs.nox{st:List qO}{t:TS}(h:PSs X.nox st t):PSs X st t:=λpins s σ H D I hw =>
 qW (h pins s σ H D (I.wish _) hw) (λ_ _ q=>q.unwish) λ_ _ z=>dj z
end
section
variable {X:Cx}{st:qO}{tO:List qO}{t u:TS}{e:qN}{te:TE}{pos:Pos}
def PY:TS:=λD σ H=>D.nx σ H
def uq(t u:TS):TS:=λD σ H=>t { D with nx:=u D } σ H
theorem AA:PSs X [] PY:=λ_ _ σ H _ I h=>rp ⟨σ,H,I,h⟩
theorem Ac(h1:PS X st t)(h2:PSs X tO u):PSs X (st::tO) (uq t u):=by
 intro pins s σ H D I h;refine wpAny_execs_cons (thn (h1 pins s σ H { D with nx:=u D } I h) λf s1 q=>?_);cases f with
 | next =>
   obtain⟨σ',H',I',q⟩:=q;exact h2 pins s1 σ' H' D I' q
 | ret v=>exact q
 | brk=>exact q
 | cont=>exact q
theorem Ah(h1:PS X st t):PSs X [st] t:=by
 intro pins s σ H D I h;refine wpAny_execs_cons (thn (h1 pins s σ H D I h) λf s1 q=>?_);cases f with
 | next=>exact rp q
 | ret v=>exact q
 | brk=>exact q
 | cont=>exact q
theorem Zn:PS X (.Pass pos) PY:=λ_ _ σ H _ I h=>wpAny_Pass ⟨σ,H,I,h⟩
theorem Inv.quiet{σ:St}{s:qI}(I:Inv X pins σ H s):interactive X.env=false:=by simp [interactive,I.ok.kind]
def uO(te:TE):TS:=λD σ H=>te σ H λ_ H1=>D.nx σ H1
theorem BQ(he:PE X e te)(hs:swapsWith e none pos.line X.env=pure false:=by rfl):PS X (.Expr e pos) (uO te):=by
 intro pins s σ H D I h;exact wpAny_Expr_any (thn (he pins s σ H _ I h) λv s1 ⟨x,H1,I1,r1,q1⟩=>⟨σ,H1,I1,q1⟩) I.quiet hs
def tRet(te:TE):TS:=λD σ H=>te σ H D.rt
theorem An(he:PE X e te):PS X (.Return (some e) pos) (tRet te):=by
 intro pins s σ H D I h;exact wpAny_Return_some (thn (he pins s σ H _ I h) λv s1 ⟨x,H1,I1,r1,q1⟩=>⟨x,σ,H1,I1,r1,q1⟩)
def vZ(c:TT)(t u:TS):TS:=λD σ H=>c σ H λb H1=>if b=true then t D σ H1 else u D σ H1
theorem Az{c:qN}{a b:List qO}{tc:TT}(hc:PT X c tc)(ha:PSs X a t)(hb:PSs X b u):PS X (.If c a b pos) (vZ tc t u):=by
 intro pins s σ H D I h;refine wpAny_If (thn (hc pins s σ H _ I h) λd s1 ⟨H1,I1,q1⟩=>?_);cases d with
 | true=>exact ha pins s1 σ H1 D I1 q1
 | false=>exact hb pins s1 σ H1 D I1 q1
def uN:TS:=λ_ _ _=>False
theorem HZ:PS X st uN:=λ_ _ _ _ _ _ h=>h.elim
end
abbrev TG:=V->St->Hp->(St->Hp->Prop)->Prop
abbrev TGs:=List V->St->Hp->(St->Hp->Prop)->Prop
def PG(X:Cx)(target:qN)(t:TG):Prop :=
 ∀(pins:List (qH×Obj)) (s:qI) (σ:St) (H:Hp) (v:V) (u:qG) (Q:St->Hp->Prop),Inv X pins σ H s->RelV v u->t v σ H Q ->
   qX (rj X.prog X.w) X.A (assign target X.env u) (λ_ s'=>∃σ' H',Inv X pins σ' H' s'/\Q σ' H') X.xe s
def PGs(X:Cx)(ts:List qN)(t:TGs):Prop :=
 ∀(pins:List (qH×Obj)) (s:qI) (σ:St) (H:Hp) (vs:List V) (us:List qG) (Q:St->Hp->Prop),Inv X pins σ H s->Vals vs us->t vs σ H Q ->
   qX (rj X.prog X.w) X.A (assignInOrder ((assignEach ts X.env).map (·.2)) us) (λ_ s'=>∃σ' H',Inv X pins σ' H' s'/\Q σ' H') X.xe s
abbrev wk:=V->V->V->Hp->(Hp->Prop)->Prop
def PSet(X:Cx)(t:wk):Prop :=
 ∀(pins:List (qH×Obj)) (s:qI) (σ:St) (H:Hp) (o i v:V) (ov iv u:qG) (Q:Hp->Prop),Inv X pins σ H s->RelV o ov->RelV i iv->RelV v u->t o i v H Q ->
   qX (rj X.prog X.w) X.A (setItem ov iv u) (λ_ s'=>∃H',Inv X pins σ H' s'/\Q H') X.xe s
section
variable {X:Cx}{pos:Pos}
def FG(i:Nat):TG:=λv σ H Q=>Q (σ.set i (some v)) H
theorem AD{i:Nat}{x:Str}(hN:X.N.Nodup)(hi:X.N[i]?=some x)(hx:Loc X.env.scope x)(hf:X.fn x=true\/X.env.scope.names.lookup x=some .local:=by first | exact .inl rfl | exact .inr rfl | assumption):PG X (.Name x pos) (FG i):=by
 intro pins s σ H v u Q I r h;exact wpAny_assign_Name (Ji I hN hi hx r (λs' I'=>⟨_,H,I',h⟩) hf)
def gNil:TGs:=λvs σ H Q=>vs=[]/\Q σ H
def vK(t:TG)(u:TGs):TGs:=λvs σ H Q=>∃v r,vs=v::r/\t v σ H λσ' H'=>u r σ' H' Q
theorem BN:PGs X [] gNil:=by
 intro pins s σ H vs us Q I r h;obtain⟨e,h⟩:=h;subst e;cases r;exact assignInOrder_nil ⟨σ,H,I,h⟩
theorem AE{e:qN}{es:List qN}{t:TG}{u:TGs}(h1:PG X e t)(h2:PGs X es u)
   (hs:(assignEach (e::es) X.env).map (·.2)=assign e X.env::(assignEach es X.env).map (·.2):=by rfl):PGs X (e::es) (vK t u):=by
 intro pins s σ H vs us Q I r h;obtain⟨v,vr,e1,h⟩:=h;subst e1;cases r with
 | cons r rr =>
   rw[hs];refine assignInOrder_cons (thn (h1 pins s σ H _ _ _ I r h) λ_ s1 ⟨σ1,H1,I1,q1⟩=>?_);exact h2 pins s1 σ1 H1 _ _ Q I1 rr q1
def gTup(K:γ)(n:Nat)(t:TGs):TG:=λv σ H Q=>∃a xs,v = .ref a/\SqT K H a xs/\xs.length=n/\t xs σ H Q
theorem Ca{es:List qN}{k:Nat}{t:TGs}{n:Nat}(hc:X.calm=true)(h:PGs X es t)
   (hn:(assignEach es X.env).length=n:=by rfl) (hst:(assignEach es X.env).findIdx? (·.1)=none:=by rfl):PG X (.Tuple es k pos) (gTup X.K n t):=by
 intro pins s σ H v u Q I r hw;obtain⟨a,xs,e1,hq,hl,hw⟩:=hw;subst e1;cases r;obtain⟨its,rv,ht,hz⟩:=I.tuple hq;refine HH.assignH (I.hd hc) ht (by simp [hn,<-hl,rv.length]) hst λh' hx=>?_;have I1:Inv X pins σ H { s with heap:=h' }:=I.kept (t':=s.toks) λb o e=>hx b o (al (ξ e)) e;exact h pins _ σ H xs _ Q I1 (by simpa using rv) hw
def gSub(to ti:TE)(t:wk):TG:=λv σ H Q=>to σ H λo H1=>ti σ H1 λi H2=>t o i v H2 λH3=>Q σ H3
theorem Ia{o i:qN}{to ti:TE}{t:wk}(ho:PE X o to)(hi:PE X i ti)(hs:PSet X t)
   (ha:∀v,assign (.Subscript o i pos) X.env v=(do
     let ov <-holding [v] (rh o X.env)
     let iv <-holding [v,ov] (rh i X.env)
     standAt pos
     holding [v,ov,iv] (setItem ov iv v)
     release [v,ov,iv] []):=by intro _;rfl):PG X (.Subscript o i pos) (gSub to ti t):=by
 intro pins s σ H v u Q I r h;rw[ha];refine qU (wpAny_holding (thn (ho pins s σ H _ I h) λov s1 ⟨x,H1,I1,r1,q1⟩=>?_));refine qU (wpAny_holding (thn (hi pins s1 σ H1 _ I1 q1) λiv s2 ⟨y,H2,I2,r2,q2⟩=>?_));refine qU (wpAny_standAt (qU (wpAny_holding (thn (hs pins s2 σ H2 x y v ov iv u _ I2 r1 r2 r q2) λ_ s3 ⟨H3,I3,q3⟩=>?_))));exact wpAny_release ⟨σ,H3,I3,q3⟩
def uB(te:TE)(g:TG):TS:=λD σ H=>te σ H λx H1=>g x σ H1 D.nx
theorem Cs{tg e:qN}{te:TE}{g:TG}(he:PE X e te)(hg:PG X tg g)(hs:swapsWithSole [tg] e pos.line X.env=pure false:=by rfl)(hw:swappedStores [tg] e X.env=pure none:=by rfl)
   (h1:(assignEach [tg] X.env).map (·.2)=[assign tg X.env]:=by rfl):PS X (.Assign [tg] e pos) (uB te g):=by
 intro pins s σ H D I h;refine wpAny_Assign_stores (thn (he pins s σ H _ I h) λv s1 ⟨x,H1,I1,r1,q1⟩=>?_) hs hw;rw[h1];exact thn (hg pins s1 σ H1 x v _ I1 r1 q1) λ_ s2 q=>q
theorem Au{i:Nat}{x:Str}{e:qN}{te:TE}{pos':Pos}(hN:X.N.Nodup)(hi:X.N[i]?=some x)(hx:Loc X.env.scope x)(he:PE X e te)(hs:swapsWith e (some (.Name x pos')) pos.line X.env=pure false:=by rfl)(hf:X.fn x=true\/X.env.scope.names.lookup x=some .local:=by first | exact .inl rfl | exact .inr rfl | assumption):
   PS X (.Assign [.Name x pos'] e pos) (uB te (FG i)):=by
 intro pins s σ H D I h;refine wpAny_Assign_Name (thn (he pins s σ H _ I h) λv s1 ⟨y,H1,I1,r1,q1⟩=>?_) hs;exact Ji I1 hN hi hx r1 (λs2 I2=>⟨_,H1,I2,q1⟩) hf
end
section
variable {X:Cx}{pos:Pos}
def uJ(c:TT)(tb:TS):TS:=λD σ H=>∃W:Nat->St->Hp->Prop,(∃m,W m σ H)/\∀m σ H,W m σ H ->
 c σ H λb H1=>if b=true then ∃N:St->Hp->Prop,(∀σ' H',N σ' H'->∃m',m'<m/\W m' σ' H')/\tb { D with nx:=N,ct:=N,bk:=D.nx } σ H1 else D.nx σ H1
theorem VR{c:qN}{body:List qO}{tc:TT}{tb:TS}(hp:PassesOwn (rj X.prog X.w) X.A X.env X.xe)(hc:PT X c tc)(hb:PSs X body tb):PS X (.While c body [] pos) (uJ tc tb):=by
 intro pins s σ H D I h;obtain⟨W,⟨m0,w0⟩,turn⟩:=h;refine wpAny_While (codeAny_whileLoop (λn s'=>∃σ' H',Inv X pins σ' H' s'/\W n σ' H') ?_ m0 ⟨σ,H,I,w0⟩);rintro n s1 ⟨σ1,H1,I1,w1⟩;refine wpAny_passesOwn hp (thn (hc pins s1 σ1 H1 _ I1 (turn n σ1 H1 w1)) λb s2 ⟨H2,I2,q2⟩=>?_);cases b with
 | true =>
   obtain⟨N,hN,q2⟩:=q2;rw[if_pos rfl];refine wpAny_passesOwn hp (thn (hb pins s2 σ1 H2 _ I2 q2) λf s3 q3=>?_);cases f with
   | next =>
     obtain⟨σ3,H3,I3,n3⟩:=q3;obtain⟨m',hm,w3⟩:=hN σ3 H3 n3;exact⟨m',hm,σ3,H3,I3,w3⟩
   | cont =>
     obtain⟨σ3,H3,I3,n3⟩:=q3;obtain⟨m',hm,w3⟩:=hN σ3 H3 n3;exact⟨m',hm,σ3,H3,I3,w3⟩
   | brk=>exact q3
   | ret v=>exact q3
 | false =>
   rw[if_neg η];exact rp ⟨σ1,H2,I2,q2⟩
end
structure It where
 go:Nat->Hp->Prop
 yld:Nat->Hp->V->Hp->Prop
 stop:Nat->Hp->Prop
def uc(X:Cx)(pins:List (qH×Obj))(H:Hp)(b:qH):Prop :=
 H b=none/\b≠X.env.locals/\b ∉ X.fs/\(b∈X.ex\/X.s₀.heap.objs.size<=b)/\(∀x c,X.env.cells.lookup x=some c->c≠b)/\∀p∈X.pn++pins,p.1≠b
theorem Inv.fpOk{X:Cx}{σ:St}{H':Hp}{s:qI}{b:qH}(I:Inv X pins σ H s)(hb:s.heap.objs.size<=b)(hn:H' b=none):uc X pins H' b:=by
 refine⟨hn,ip (ao I.lt hb),I.nofs hb,.inr (bp I.sz hb),λx c e z=>?_,λp hp z=>?_⟩
 . obtain⟨v,q⟩:=I.cell x c e;exact absurd (ao q.lt (by rw[z];exact hb)) (bh _)
 . exact absurd (ao (ξ (I.pin p hp).1) (by rw[z];exact hb)) (bh _)
structure wj(P:qK)(w:qL)(K:γ)(tg:qN)(J:It)(fp:List qH)(it:qH)(tn:Nat->rB->Prop):Prop where
 mem:it∈fp
 obj:∀i h,tn i h->∀b∈fp,∃o,h.get? b=some o/\∀v,o.data≠.cell v
 keep:∀i h h',tn i h->(∀b∈fp,∀o,h.get? b=some o->h'.get? b=some o)->tn i h'
 item:∀(X:Cx),X.prog=P->X.w=w->X.K=K->X.calm=true->∀(i:Nat) (pins:List (qH×Obj)) (s:qI) (σ:St) (H:Hp) (E:qG->qI->Prop),Inv X pins σ H s->(∀b∈fp,uc X pins H b)->tn i s.heap->J.go i H ->
   qX (rj P w) X.A (pyNext (.ref it)) (λr s1=>∃u,r=some u /\
     qX (rj P w) X.A (letOwnedTupleGo tg (.ref it) u) (λ_ s2=>∃x H',Inv X pins σ H' s2/\RelV x u/\J.yld i H x H'/\tn (i+1) s2.heap/\∀b∈fp,H' b=none) E s1) E s
 done:∀(X:Cx),X.prog=P->X.w=w->X.K=K->X.calm=true->∀(i:Nat) (pins:List (qH×Obj)) (s:qI) (σ:St) (H:Hp) (E:qG->qI->Prop),Inv X pins σ H s->(∀b∈fp,uc X pins H b)->tn i s.heap->J.stop i H ->
   qX (rj P w) X.A (pyNext (.ref it)) (λr s1=>r=none/\Inv X pins σ H s1) E s
 self:∀(A:qM) (i:Nat) (s:qI) (Q:qG->qI->Prop) (E:qG->qI->Prop),tn i s.heap->Q (.ref it) s->qX (rj P w) A (pyIter (.ref it)) Q E s
abbrev TI:=St->Hp->(It->Hp->Prop)->Prop
def PIE(X:Cx)(pins:List (qH×Obj))(σ:St)(tg:qN)(R:It->Hp->Prop)(itv:qG)(s2:qI):Prop :=
 ∃(it:qH) (fp:List qH) (tn:Nat->rB->Prop) (J:It) (H':Hp),itv = .ref it/\Inv X pins σ H' s2/\wj X.prog X.w X.K tg J fp it tn/\tn 0 s2.heap/\(∀b∈fp,uc X pins H' b)/\R J H'
def PI(X:Cx)(tg iter:qN)(wi:TI):Prop :=
 ∀(pins:List (qH×Obj)) (s:qI) (σ:St) (H:Hp) (R:It->Hp->Prop),Inv X pins σ H s->wi σ H R ->
   qX (rj X.prog X.w) X.A (rh iter X.env) (λv s1=>qX (rj X.prog X.w) X.A (pyIter v) (PIE X pins σ tg R) X.xe s1) X.xe s
theorem vJ{M:rD}{A:qM}{s:qI}{tg:qN}{it:qH}{u:qG}{o:Obj}{n:String}{vs:Array qG}{Q:Unit->qI->Prop}(ho:s.heap.get? it=some o)(hc:o.cls = .type n)(hd:o.data = .fields vs)
   (hn:["enumerate","zip","dict_itemiterator","dict_reverseitemiterator","odict_iterator","itertools.zip_longest","itertools.pairwise"].contains n=false) (hQ:Q () s):qX M A (letOwnedTupleGo tg (.ref it) u) Q E s:=by
 unfold letOwnedTupleGo;cases tg <;> first
   | exact qV hQ
   | (cases u <;> first
       | exact qV hQ
       | (refine qU (wpAny_load ho ?_)
          rw[hc,hd];show qX M A (if (["enumerate","zip","dict_itemiterator","dict_reverseitemiterator","odict_iterator","itertools.zip_longest","itertools.pairwise"].contains n&&vs[0]?==some (rawInt _))=true then _ else _) Q E s;rw[if_neg (by intro h;rw[hn,pf] at h;cases h)];exact qV hQ))
def Itl(K:γ)(a:qH):It :=
 ⟨λi H=>∃xs x,SqL K H a xs/\xs[i]?=some x,λi H x H'=>H'=H/\∀xs,SqL K H a xs->xs[i]?=some x,λi H=>∃xs,SqL K H a xs/\xs.length<=i⟩
def Itr(lo:Int)(n:Nat):It:=⟨λi _=>i<n,λi H x H'=>H'=H/\x = .int (lo+i),λi _=>n<=i⟩
theorem Zo{P:qK}{w:qL}{K:γ}{tg:qN}(a it:qH):wj P w K tg (Itl K a) [it] it (λi h=>h.IsListIter it a i) where
 mem:=by simp
 obj:=λi h st b hb=>by
   have e:b=it:=by simpa using hb
   subst e
   obtain⟨o,e,c,d⟩:=st
   exact⟨o,e,λv z=>by rw[d] at z;cases z⟩
 keep:=λi h h' st k=>st.at λo e=>k it (by simp) o e
 item:=by
   intro X hP hw hK hc i pins s σ H E I hf st hg;subst hP hw hK;obtain⟨xs,x,hq,hx⟩:=hg;obtain⟨its,rv,p,hz⟩:=I.list hq;obtain⟨u,hu,ru⟩:=rv.get hx;obtain⟨f0,f1,f2,f3,f4,f5⟩:=hf it (by simp);refine wpAny_pyNext_list_item st p.isList (x:=u) (by simpa using hu) λh' st' sb=>?_;have I1:Inv X pins σ H { s with heap:=h' }:=I.turned (t':=s.toks) (λb o hb e=>(sb.2 b hb).trans e) f0 f1 f3 f4 f5;obtain⟨o,e,c,d⟩:=id st';exact⟨u,rfl,vJ (s:={ s with heap:=h' }) e c d (by decide) ⟨x,H,I1,ru,⟨rfl,λys hy=>by rw[I.list_inj hy hq];exact hx⟩,st',λb hb=>(hf b hb).1⟩⟩
 done:=by
   intro X hP hw hK hc i pins s σ H E I hf st hg;subst hP hw hK;obtain⟨xs,hq,hx⟩:=hg;obtain⟨its,rv,p,hz⟩:=I.list hq;obtain⟨f0,f1,f2,f3,f4,f5⟩:=hf it (by simp);have hl:=rv.length;exact HH.list_end (I.hd hc) st p.isList (by simp;omega) λh' eb=>⟨rfl,I.turned (t':=s.toks) (λb o hb e=>eb b o hb e) f0 f1 f3 f4 f5⟩
 self:=λ_ _ _ _ _ st h=>wpAny_pyIter_listiter st h
theorem Zp{P:qK}{w:qL}{K:γ}{tg:qN}(it:qH)(lo:Int)(n:Nat):wj P w K tg (Itr lo n) [it] it (λi h=>IsRangeIter h it (lo+(i:Nat)*1) ((n:Int)-(i:Nat)) 1) where
 mem:=by simp
 obj:=λi h st b hb=>by
   have e:b=it:=by simpa using hb
   subst e
   exact⟨_,st,λv z=>by
     have z':Data.fields _=Data.cell v:=z
     cases z'⟩
 keep:=λi h h' st k=>k it (by simp) _ st
 item:=by
   intro X hP hw hK hc i pins s σ H E I hf st hg;subst hP hw hK;obtain⟨f0,f1,f2,f3,f4,f5⟩:=hf it (by simp);have W:=HH.walks_range (P:=X.prog) (w:=X.w) (A:=X.A) it lo 1 n;refine W i s _ _ hg st λv h' tk hv st' kk=>?_;obtain⟨t,rfl⟩:=hv;have I1:Inv X pins σ H { s with heap:=h',toks:=tk }:=I.turned (λb o hb e=>kk b o (by simpa using hb) e) f0 f1 f3 f4 f5;refine⟨_,rfl,vJ (s:={ s with heap:=h',toks:=tk }) (n:="range_iterator") st' rfl rfl (by decide) ⟨.int (lo+i),H,I1,⟨t,?_⟩,⟨rfl,rfl⟩,st',λb hb=>(hf b hb).1⟩⟩;rw[qm]
 done:=by
   intro X hP hw hK hc i pins s σ H E I hf st hg;subst hP hw hK;obtain⟨f0,f1,f2,f3,f4,f5⟩:=hf it (by simp);exact HH.range_end (I.hd hc) st (by have:n<=i:=hg;omega) λh' eb=>⟨rfl,I.turned (t':=s.toks) (λb o hb e=>eb b o hb e) f0 f1 f3 f4 f5⟩
 self:=λ_ _ _ _ _ st h=>wpAny_pyIter_rangeiter st h
section
variable {X:Cx}{tg:qN}
def vG(K:γ)(tl:TE):TI:=λσ H R=>tl σ H λx H1=>∃a,x = .ref a/\(∃xs,SqL K H1 a xs)/\R (Itl K a) H1
theorem BU{l:qN}{tl:TE}(hl:PE X l tl):PI X tg l (vG X.K tl):=by
 intro pins s σ H R I h;refine thn (hl pins s σ H _ I h) λv s1 ⟨x,H1,I1,r1,q1⟩=>?_;obtain⟨a,e,⟨xs,hq⟩,q⟩:=q1;subst e;cases r1;obtain⟨its,rv,p,hz⟩:=I1.list hq;refine wpAny_pyIter_list p.isList ?_;refine⟨s1.heap.objs.size,[s1.heap.objs.size],_,_,H1,rfl,I1.kept (t':=s1.toks) λb o e=>ζ _ e,Zo a _,⟨_,Ω _ rfl,rfl,rfl⟩,λb hb=>?_,q⟩;have e:b=s1.heap.objs.size:=by simpa using hb
 subst e;exact I1.fpOk (Θ _) (I1.hok.fresh (Θ _))
theorem Zq{σ:St}{s:qI}{R:It->Hp->Prop}{lo hi:Int}{t u v:Tok}{tk:Nat}(I:Inv X pins σ H s)(h1 : -(2^62)<=lo)(h2:lo<2^62)(h3 : -(2^62)<=hi)(h4:hi<2^62)
   (q:R (Itr lo (hi-lo).toNat) H):qX (rj X.prog X.w) X.A (pyIter (.ref s.heap.objs.size)) (PIE X pins σ tg R) E { s with heap:=s.heap.push { cls:=.type "range",data:=.fields #[.int lo t,.int hi u,.int 1 v] },toks:=tk }:=by
 refine wpAny_pyIter_range (IsRange.new ..) (small_one h1 h2 h3 h4) ?_;have I1:Inv X pins σ H { s with heap:=s.heap.push { cls:=.type "range",data:=.fields #[.int lo t,.int hi u,.int 1 v] },toks:=tk }:=I.kept λb o e=>ζ _ e;refine⟨(s.heap.push { cls:=.type "range",data:=.fields #[.int lo t,.int hi u,.int 1 v] }).objs.size,[(s.heap.push { cls:=.type "range",data:=.fields #[.int lo t,.int hi u,.int 1 v] }).objs.size],_,_,H,rfl,
   I1.kept (t':=tk) λb o e=>ζ _ e,Zp _ lo (hi-lo).toNat,?_,λb hb=>?_,q⟩
 . have e1:lo+((0:Nat):Int)*1=lo:=by simp
   have e2:(((hi-lo).toNat:Nat):Int)-((0:Nat):Int)=qd lo hi 1:=by rw[rangeSize_one];split <;> omega
   show IsRangeIter _ _ (lo+((0:Nat):Int)*1) ((((hi-lo).toNat:Nat):Int)-((0:Nat):Int)) 1;rw[e1,e2];exact Ω _ rfl
 . have e:b=(s.heap.push { cls:=.type "range",data:=.fields #[.int lo t,.int hi u,.int 1 v] }).objs.size:=by simpa using hb
   subst e;exact I1.fpOk (Θ _) (I1.hok.fresh (Θ _))
def vF(ta:TA):TI:=λσ H R=>ta σ H λvs H1=>∃j:Int,vs=[.int j]/\-(2^62)<=j/\j<2^62/\R (Itr 0 j.toNat) H1
theorem Zr{a:qN}{ta:TA}{p pos:Pos}(hg:Gl X "range")(hm:X.mg "range"=none)(ha:PA X [a] ta)(hs:qR [a] X.env=[(false,rh a X.env)]:=by rfl):PI X tg (.Call (.Name "range" p) [a] [] pos) (vF ta):=by
 intro pins s σ H R I h;refine Call_ (E7 I hg hm boot_range (fk (thn (ha pos pins s σ H _ I h) λus s1 ⟨vs,H1,I1,r1,q1⟩=>?_) hs rfl));obtain⟨j,e,q1,q2,q⟩:=q1;subst e;cases r1 with
 | cons r rr =>
   cases rr;obtain⟨t,rfl⟩:=r;exact call_range_1 (Zq I1 (by omega) (by omega) q1 q2 (by simpa using q))
def tFor(wi:TI)(g:TG)(tb:TS):TS:=λD σ H=>wi σ H λJ H1=>∃W:Nat->Nat->St->Hp->Prop,(∃m,W 0 m σ H1)/\∀i m σ H,W i m σ H ->
 (J.stop i H/\D.nx σ H)\/(J.go i H/\∃N:St->Hp->Prop,(∀σ' H',N σ' H'->∃m',m'<m/\W (i+1) m' σ' H')/\∀x H',J.yld i H x H'->g x σ H' λσ2 H2=>tb { D with nx:=N,ct:=N,bk:=D.nx } σ2 H2)
def Jk(fp:List qH)(h:rB):List (qH×Obj):=fp.filterMap λb=>(h.get? b).map λo=>(b,o)
theorem Nl{fp:List qH}{h:rB}{b:qH}{o:Obj}(hb:b∈fp)(e:h.get? b=some o):(b,o)∈Jk fp h:=dk.mpr ⟨b,hb,by rw[e];rfl⟩
theorem Zs{fp:List qH}{h:rB}{p:qH×Obj}(hp:p∈Jk fp h):p.1∈fp/\h.get? p.1=some p.2:=by
 obtain⟨b,hb,e⟩:=dk.mp hp;cases q:h.get? b with
 | none=>rw[q] at e;cases e
 | some o =>
   rw[q] at e;have e':(b,o)=p:=ae e;subst e';exact⟨hb,q⟩
theorem Inv.pinned{σ:St}{s:qI}{fp:List qH}(I:Inv X pins σ H s)(hf:∀b∈fp,uc X pins H b)(ho:∀b∈fp,∃o,s.heap.get? b=some o/\∀v,o.data≠.cell v):Inv X (pins++Jk fp s.heap) σ H s :=
 I.pins_of λp hp=>(ρ.mp hp).elim (λz=>I.pin p (μ _ z)) λz=>by
   obtain⟨hb,e⟩:=Zs z
   obtain⟨f0,f1,f2,_⟩:=hf p.1 hb
   obtain⟨o,e',d⟩:=ho p.1 hb
   rw[e] at e';cases e'
   exact⟨e,f0,f1,f2,d⟩
theorem Inv.unpinned{pl:List (qH×Obj)}{σ:St}{s:qI}(I:Inv X (pins++pl) σ H s):Inv X pins σ H s:=I.pins_of λp hp=>I.pin p (μ _ (Φ _ hp))
theorem DH{iter:qN}{body:List qO}{wi:TI}{g:TG}{tb:TS}{pos:Pos}(hp:PassesOwn (rj X.prog X.w) X.A X.env X.xe)(hc:X.calm=true)(hi:PI X tg iter wi)(hg:PG X tg g)(hb:PSs X body tb)
   (hs:∀x,foldedSetIterable iter X.env x=pure x:=by intro _;rfl):PS X (.For tg iter body [] pos) (tFor wi g tb):=by
 intro pins s σ H D I h;refine wpAny_For (thn (hi pins s σ H _ I h) λv s1 h1=>thn h1 λitv s2 h2=>?_) hs;obtain⟨it,fp,tn,J,H2,e,I2,T,st2,f2,W,⟨m0,w0⟩,turn⟩:=h2;subst e
 -- what stays true of the iterator's objects through the loop
 have stat:∀{H':Hp},(∀b∈fp,H' b=none)->∀b∈fp,uc X pins H' b:=λhn b hb=>⟨hn b hb,(f2 b hb).2⟩
 refine codeAny_forLoop_any (λn s'=>∃i σ' H',Inv X pins σ' H' s'/\tn i s'.heap/\(∀b∈fp,H' b=none)/\W i n σ' H') ?_ m0 ⟨0,σ,H2,I2,st2,λb hb=>(f2 b hb).1,w0⟩;rintro n s3 ⟨i,σ3,H3,I3,st3,fr3,w3⟩;rcases turn i n σ3 H3 w3 with ⟨stop,qn⟩ | ⟨go,N,hN,step⟩
 . refine wpAny_passesOwn hp (thn (T.done X rfl rfl rfl hc i pins s3 σ3 H3 X.xe I3 (stat fr3) st3 stop) λr s4 ⟨hr,I4⟩=>?_);subst hr;exact rp ⟨σ3,H3,I4,qn⟩
 . refine wpAny_passesOwn hp (thn (T.item X rfl rfl rfl hc i pins s3 σ3 H3 X.xe I3 (stat fr3) st3 go) λr s4 ⟨u,hr,h4⟩=>?_);subst hr;refine wpAny_passesOwn hp (thn h4 λ_ s5 ⟨x,H5,I5,r5,y5,st5,fr5⟩=>?_);have I5':=I5.pinned (stat fr5) (T.obj _ _ st5);refine wpAny_passesOwn hp (thn (hg _ s5 σ3 H5 x u _ I5' r5 (step x H5 y5)) λ_ s6 ⟨σ6,H6,I6,q6⟩=>?_);refine wpAny_passesOwn hp (thn (hb _ s6 σ6 H6 _ I6 q6) λf s7 q7=>?_);have again:∀{σ7:St} {H7:Hp},Inv X (pins++Jk fp s5.heap) σ7 H7 s7->N σ7 H7->∃m,m<n/\∃i σ' H',Inv X pins σ' H' s7/\tn i s7.heap/\(∀b∈fp,H' b=none)/\W i m σ' H':=λ{σ7 H7} I7 n7=>by
     obtain⟨m',hm,w7⟩:=hN σ7 H7 n7;refine⟨m',hm,i+1,σ7,H7,I7.unpinned,T.keep _ _ _ st5 λb hb o e=>(I7.pin (b,o) (μ _ (μ _ (Nl hb e)))).1,λb hb=>?_,w7⟩;obtain⟨o,e,d⟩:=T.obj _ _ st5 b hb;exact(I7.pin (b,o) (μ _ (μ _ (Nl hb e)))).2.1
   cases f with
   | next=>obtain⟨σ7,H7,I7,n7⟩:=q7;exact again I7 n7
   | cont=>obtain⟨σ7,H7,I7,n7⟩:=q7;exact again I7 n7
   | brk=>obtain⟨σ7,H7,I7,q7⟩:=q7;exact⟨σ7,H7,I7.unpinned,q7⟩
   | ret v=>obtain⟨x7,σ7,H7,I7,r7,q7⟩:=q7;exact⟨x7,σ7,H7,I7.unpinned,r7,q7⟩
end
theorem DI{K:γ}{a:qH}{xs:List V}{g:TG}{tb:TS}{D:Ends}{σ:St}(Pv:Nat->St->Hp->Prop)(h0:Pv 0 σ H)(hl:∀i σ H,i<=xs.length->Pv i σ H->SqL K H a xs)
   (hs:∀i x σ H,xs[i]?=some x->Pv i σ H->g x σ H λσ2 H2=>tb { D with nx:=Pv (i+1),ct:=Pv (i+1),bk:=D.nx } σ2 H2) (hd:∀σ H,Pv xs.length σ H->D.nx σ H):
   ∃W:Nat->Nat->St->Hp->Prop,(∃m,W 0 m σ H)/\∀i m σ H,W i m σ H ->
     ((Itl K a).stop i H/\D.nx σ H)\/((Itl K a).go i H/\∃N:St->Hp->Prop,(∀σ' H',N σ' H'->∃m',m'<m/\W (i+1) m' σ' H')/\∀x H',(Itl K a).yld i H x H'->g x σ H' λσ2 H2=>tb { D with nx:=N,ct:=N,bk:=D.nx } σ2 H2):=by
 refine⟨λi m σ H=>m=xs.length-i/\i<=xs.length/\Pv i σ H,⟨xs.length,by simp,gf _,h0⟩,?_⟩;rintro i m σ H ⟨rfl,hi,p⟩;have q:=hl i σ H hi p;by_cases hlt:i<xs.length
 . refine .inr ⟨⟨xs,xs[i],q,by simp [hlt]⟩,Pv (i+1),λσ' H' p'=>⟨xs.length-(i+1),by omega,rfl,hlt,p'⟩,λx H' y=>?_⟩;obtain⟨e,y⟩:=y;subst e;exact hs i x σ _ (y xs q) p
 . have e:i=xs.length:=by omega
   subst e;exact .inl ⟨⟨xs,q,Θ _⟩,hd σ H p⟩
abbrev R2:=V->V->Hp->VK->Prop
def OpR(X:Cx)(f:qG->qG->rq qG)(r:R2):Prop :=
 ∀(pins:List (qH×Obj)) (s:qI) (σ:St) (H:Hp) (x y:V) (v u:qG) (Q:VK),Inv X pins σ H s->RelV x v->RelV y u->r x y H Q ->
   qX (rj X.prog X.w) X.A (f v u) (EP X pins σ Q) X.xe s
def UnR(X:Cx)(f:qG->rq qG)(r:V->Hp->VK->Prop):Prop :=
 ∀(pins:List (qH×Obj)) (s:qI) (σ:St) (H:Hp) (x:V) (v:qG) (Q:VK),Inv X pins σ H s->RelV x v->r x H Q ->
   qX (rj X.prog X.w) X.A (f v) (EP X pins σ Q) X.xe s
def DW(X:Cx)(f:qG)(r:List V->Hp->VK->Prop):Prop :=
 ∀(pins:List (qH×Obj)) (s:qI) (σ:St) (H:Hp) (xs:List V) (us:List qG) (Q:VK),Inv X pins σ H s->Vals xs us->r xs H Q ->
   qX (rj X.prog X.w) X.A (call f us) (EP X pins σ Q) X.xe s
def TruR(X:Cx)(r:V->Hp->(Bool->Hp->Prop)->Prop):Prop :=
 ∀(pins:List (qH×Obj)) (s:qI) (σ:St) (H:Hp) (x:V) (v:qG) (Q:Bool->Hp->Prop),Inv X pins σ H s->RelV x v->r x H Q ->
   qX (rj X.prog X.w) X.A (truthy v) (TP X pins σ Q) X.xe s
def tOp(r:R2)(ta tb:TE):TE:=λσ H Q=>ta σ H λx H1=>tb σ H1 λy H2=>r x y H2 Q
def tUn(r:V->Hp->VK->Prop)(ta:TE):TE:=λσ H Q=>ta σ H λx H1=>r x H1 Q
def rI(C:Int->Int->Prop)(g:Int->Int->V):R2:=λx y H Q=>∃i j,x = .int i/\y = .int j/\C i j/\Q (g i j) H
def rI0(g:Int->Int->V):R2:=λx y H Q=>∃i j,x = .int i/\y = .int j/\Q (g i j) H
def rU(g:Int->V):V->Hp->VK->Prop:=λx H Q=>∃i,x = .int i/\Q (g i) H
section
variable {X:Cx}{a b c:qN}{ta tb tc:TE}{pos:Pos}
theorem binT(ha:PE X a ta)(hb:PE X b tb){s:qI}{σ:St}{R:V->V->Hp->Prop}(I:Inv X pins σ H s)
   (h:ta σ H λx H1=>tb σ H1 λy H2=>R x y H2) {Q:qG->qI->Prop} {f:qG->qG->rq qG}
   (hf:∀v u s2 x y H2,Inv X pins σ H2 s2->RelV x v->RelV y u->R x y H2->qX (rj X.prog X.w) X.A (f v u) Q X.xe s2):
   qX (rj X.prog X.w) X.A (rh a X.env) (λv s₁=>qX (rj X.prog X.w) X.A (rh b X.env) (λu s₂=>qX (rj X.prog X.w) X.A (f v u) Q X.xe s₂) X.xe s₁) X.xe s:=by
 refine thn (ha pins s σ H _ I h) λv s1 ⟨x,H1,I1,r1,q1⟩=>?_;refine thn (hb pins s1 σ H1 _ I1 q1) λu s2 ⟨y,H2,I2,r2,q2⟩=>?_;exact hf v u s2 x y H2 I2 r1 r2 q2
theorem Ak{op:Operator}{r:R2}(ho:OpR X (binaryOp op) r)(ha:PE X a ta)(hb:PE X b tb):PE X (.BinOp a op b pos) (tOp r ta tb):=by
 intro pins s σ H Q I h;exact wpAny_BinOp (binT ha hb I h λv u s2 x y H2 I2 rx ry q=>ho pins s2 σ H2 x y v u Q I2 rx ry q)
theorem FH{op:UnaryOp}{r:V->Hp->VK->Prop}(ho:UnR X (unaryOp op) r)(ha:PE X a ta):PE X (.UnaryOp op a pos) (tUn r ta):=by
 intro pins s σ H Q I h;exact UnaryOp_ (thn (ha pins s σ H _ I h) λv s1 ⟨x,H1,I1,r1,q1⟩=>ho pins s1 σ H1 x v Q I1 r1 q1)
theorem opI{f:qG->qG->rq qG}{C:Int->Int->Prop}{g:Int->Int->Int}
   (rule:∀(i j:Int) (t u:Tok) (s:qI) (Q:qG->qI->Prop) (E:qG->qI->Prop),C i j->Q (.int (g i j) s.toks) { s with toks:=s.toks+1 }->qX (rj X.prog X.w) X.A (f (.int i t) (.int j u)) Q E s):
   OpR X f (rI C λi j=>.int (g i j)):=by
 intro pins s σ H x y v u Q I rx ry h;obtain⟨i,j,rfl,rfl,hc,q⟩:=h;obtain⟨t,rfl⟩:=rx;obtain⟨t',rfl⟩:=ry;exact rule i j t t' s _ _ hc ⟨.int (g i j),H,I.tok _,⟨_,rfl⟩,q⟩
theorem wb{f:qG->qG->rq qG}{g:Int->Int->Int}
   (rule:∀(i j:Int) (t u:Tok) (s:qI) (Q:qG->qI->Prop) (E:qG->qI->Prop),Q (.int (g i j) s.toks) { s with toks:=s.toks+1 }->qX (rj X.prog X.w) X.A (f (.int i t) (.int j u)) Q E s):
   OpR X f (rI0 λi j=>.int (g i j)):=by
 intro pins s σ H x y v u Q I rx ry h;obtain⟨i,j,rfl,rfl,q⟩:=h;obtain⟨t,rfl⟩:=rx;obtain⟨t',rfl⟩:=ry;exact rule i j t t' s _ _ ⟨.int (g i j),H,I.tok _,⟨_,rfl⟩,q⟩
theorem wc{f:qG->qG->rq qG}{g:Int->Int->Bool}
   (rule:∀(i j:Int) (t u:Tok) (s:qI) (Q:qG->qI->Prop) (E:qG->qI->Prop),Q (.bool (g i j)) s->qX (rj X.prog X.w) X.A (f (.int i t) (.int j u)) Q E s):
   OpR X f (rI0 λi j=>.bl (g i j)):=by
 intro pins s σ H x y v u Q I rx ry h;obtain⟨i,j,rfl,rfl,q⟩:=h;obtain⟨t,rfl⟩:=rx;obtain⟨t',rfl⟩:=ry;exact rule i j t t' s _ _ ⟨.bl (g i j),H,I,rfl,q⟩
def CDiv(i j:Int):Prop:=0<j/\j<1073741824
def CPow(i j:Int):Prop:=0<=j/\j<=1000000/\i.natAbs<2^64
def CMul(i j:Int):Prop:=(-(2^64)<i/\i<2^64)\/(-(2^64)<j/\j<2^64)
theorem CMul.ok{i j:Int}(h:CMul i j):IntMulOk i j:=by
 rcases h with ⟨h1,h2⟩ | ⟨h1,h2⟩
 . exact .of_left (intBits_le_64 h1 h2)
 . exact .of_right (intBits_le_64 h1 h2)
theorem Zt(k:Nat):(0:Int)<=2^k:=by
 rw[two_pow_cast];exact Int.natCast_nonneg _
theorem AN:OpR X (binaryOp .Add) (rI0 λi j=>.int (i+j)):=wb λ_ _ _ _ _ _ _ q=>add_int q
theorem Bw:OpR X (binaryOp .Sub) (rI0 λi j=>.int (i-j)):=wb λ_ _ _ _ _ _ _ q=>sub_int q
theorem Nm:OpR X (binaryOp .Mult) (rI CMul λi j=>.int (i*j)):=opI λ_ _ _ _ _ _ _ hc q=>mul_int q hc.ok
theorem Eb:OpR X (binaryOp .FloorDiv) (rI CDiv λi j=>.int (i/j)):=opI λi j _ _ _ _ _ hc q=>by
 have h1:(0:Int)<j:=hc.1;have h2:j<1073741824:=hc.2;exact floordiv_int (by omega) (by rw[jl i (by omega)];exact q) (.inl (PyProof.noPylong_small (by omega)))
theorem BB:OpR X (binaryOp .Mod) (rI (λ_ j=>0<j) λi j=>.int (i%j)):=opI λi j _ _ _ _ _ hc q=>by
 have h1:(0:Int)<j:=hc;exact mod_int' (by omega) (by rw[Int.fmod_eq_emod_of_nonneg i (by omega)];exact q)
theorem PZ:OpR X (binaryOp .Pow) (rI CPow λi j=>.int (i^j.toNat)):=opI λ_ _ _ _ _ _ _ hc q=>pow_int_small hc.1 hc.2.1 hc.2.2 q
theorem vj:OpR X (binaryOp .RShift) (rI (λ_ j=>0<=j) λi j=>.int (i/2^j.toNat)):=opI λi j _ _ _ _ _ hc q =>
 rshift_int hc (by rw[jl i (Zt _)];exact q)
theorem vm:OpR X (binaryOp .BitAnd) (rI0 λi j=>.int (Builtin.bitAnd i j)):=wb λ_ _ _ _ _ _ _ q=>and_int q
theorem op_or:OpR X (binaryOp .BitOr) (rI0 λi j=>.int (Builtin.bitOr i j)):=wb λ_ _ _ _ _ _ _ q=>or_int q
theorem unI{f:qG->rq qG}{g:Int->Int}
   (rule:∀(i:Int) (t:Tok) (s:qI) (Q:qG->qI->Prop) (E:qG->qI->Prop),Q (.int (g i) s.toks) { s with toks:=s.toks+1 }->qX (rj X.prog X.w) X.A (f (.int i t)) Q E s):
   UnR X f (rU λi=>.int (g i)):=by
 intro pins s σ H x v Q I rx h;obtain⟨i,rfl,q⟩:=h;obtain⟨t,rfl⟩:=rx;exact rule i t s _ _ ⟨.int (g i),H,I.tok _,⟨_,rfl⟩,q⟩
theorem FI:UnR X (unaryOp .USub) (rU λi=>.int (-i)):=unI λ_ _ _ _ _ q=>neg_int q
end
def scal:V->V->Bool
 | .non,.non=>true | .non,.int _=>true | .int _,.non=>true | .non,.bl _=>true | .bl _,.non=>true | .non,.str _=>true | .str _,.non=>true
 | .int _,.int _=>true | .bl _,.bl _=>true | .str _,.str _=>true | .byt _,.byt _=>true
 | .int _,.str _=>true | .str _,.int _=>true | .bl _,.str _=>true | .str _,.bl _=>true
 | _,_=>false
def rEq:R2:=λx y H Q=>scal x y=true/\Q (.bl (decide (x=y))) H
def rNe:R2:=λx y H Q=>scal x y=true/\Q (.bl (!decide (x=y))) H
theorem Nn{i j:Int}:decide (V.int i=V.int j)=(i==j):=by
 rw[gq];simp
theorem VS{i j:Bool}:decide (V.bl i=V.bl j)=(i==j):=by
 rw[gq];simp
theorem P0{i j:Str}:decide (V.str i=V.str j)=(i==j):=by
 rw[gq];simp
theorem VT{i j:Array UInt8}:decide (V.byt i=V.byt j)=(i.toList==j.toList):=by
 rw[gq];cases i;cases j;simp
section
variable {X:Cx}{a b c:qN}{ta tb tc:TE}{pos:Pos}
theorem Be{σ:St}{s:qI}{Q:VK}{k k':Bool}(I:Inv X pins σ H s)(q:Q (.bl k) H)(e:k=k'):EP X pins σ Q (.bool k') s:=by
 subst e;exact⟨.bl k,H,I,rfl,q⟩
theorem AZ:OpR X (rc .Eq) rEq:=by
 intro pins s σ H x y v u Q I rx ry h;obtain⟨hs,q⟩:=h;cases x with
 | non =>
   cases rx;cases y with
   | non=>cases ry;exact PySem.EqNone.eq_none_none (Be I q (by simp))
   | bl j=>cases ry;exact PySem.EqNone.eq_none_bool (Be I q (by simp))
   | int j=>obtain⟨t',rfl⟩:=ry;exact PySem.EqNone.eq_none_int (Be I q (by simp))
   | str j=>obtain⟨t',rfl⟩:=ry;exact PySem.EqNone.eq_none_str (Be I q (by simp))
   | _=>exact absurd (show false=true from hs) η
 | bl i =>
   cases rx;cases y with
   | non=>cases ry;exact PySem.EqNone.eq_bool_none (Be I q (by simp))
   | bl j=>cases ry;exact eq_bool (Be I q VS)
   | str j=>obtain⟨t',rfl⟩:=ry;exact PySem.EqMixed.eq_bool_str (Be I q (by simp))
   | _=>exact absurd (show false=true from hs) η
 | int i =>
   obtain⟨t,rfl⟩:=rx;cases y with
   | non=>cases ry;exact PySem.EqNone.eq_int_none (Be I q (by simp))
   | int j=>obtain⟨t',rfl⟩:=ry;exact eq_int (Be I q Nn)
   | str j=>obtain⟨t',rfl⟩:=ry;exact PySem.EqMixed.eq_int_str (Be I q (by simp))
   | _=>exact absurd (show false=true from hs) η
 | str i =>
   obtain⟨t,rfl⟩:=rx;cases y with
   | non=>cases ry;exact PySem.EqNone.eq_str_none (Be I q (by simp))
   | bl j=>cases ry;exact PySem.EqMixed.eq_str_bool (Be I q (by simp))
   | int j=>obtain⟨t',rfl⟩:=ry;exact PySem.EqMixed.eq_str_int (Be I q (by simp))
   | str j=>obtain⟨t',rfl⟩:=ry;exact eq_str (Be I q P0)
   | _=>exact absurd (show false=true from hs) η
 | byt i =>
   obtain⟨t,rfl⟩:=rx;cases y with
   | byt j=>obtain⟨t',rfl⟩:=ry;exact PySem.W.eq_bytes (Be I q VT)
   | _=>exact absurd (show false=true from hs) η
 | _=>cases y <;> exact absurd (show false=true from hs) η
theorem Ib:OpR X (rc .NotEq) rNe:=by
 intro pins s σ H x y v u Q I rx ry h;obtain⟨hs,q⟩:=h;cases x with
 | non =>
   cases rx;cases y with
   | non=>cases ry;exact PySem.EqNone.ne_none_none (Be I q (by simp))
   | bl j=>cases ry;exact PySem.EqNone.ne_none_bool (Be I q (by simp))
   | int j=>obtain⟨t',rfl⟩:=ry;exact PySem.EqNone.ne_none_int (Be I q (by simp))
   | str j=>obtain⟨t',rfl⟩:=ry;exact PySem.EqNone.ne_none_str (Be I q (by simp))
   | _=>exact absurd (show false=true from hs) η
 | bl i =>
   cases rx;cases y with
   | non=>cases ry;exact PySem.EqNone.ne_bool_none (Be I q (by simp))
   | bl j=>cases ry;exact ne_bool (Be I q (congrArg not VS))
   | str j=>obtain⟨t',rfl⟩:=ry;exact PySem.EqMixed.ne_bool_str (Be I q (by simp))
   | _=>exact absurd (show false=true from hs) η
 | int i =>
   obtain⟨t,rfl⟩:=rx;cases y with
   | non=>cases ry;exact PySem.EqNone.ne_int_none (Be I q (by simp))
   | int j=>obtain⟨t',rfl⟩:=ry;exact ne_int (Be I q (congrArg not Nn))
   | str j=>obtain⟨t',rfl⟩:=ry;exact PySem.EqMixed.ne_int_str (Be I q (by simp))
   | _=>exact absurd (show false=true from hs) η
 | str i =>
   obtain⟨t,rfl⟩:=rx;cases y with
   | non=>cases ry;exact PySem.EqNone.ne_str_none (Be I q (by simp))
   | bl j=>cases ry;exact PySem.EqMixed.ne_str_bool (Be I q (by simp))
   | int j=>obtain⟨t',rfl⟩:=ry;exact PySem.EqMixed.ne_str_int (Be I q (by simp))
   | str j=>obtain⟨t',rfl⟩:=ry;exact ne_str (Be I q (congrArg not P0))
   | _=>exact absurd (show false=true from hs) η
 | byt i =>
   obtain⟨t,rfl⟩:=rx;cases y with
   | byt j=>obtain⟨t',rfl⟩:=ry;exact PySem.W.ne_bytes (Be I q (congrArg not VT))
   | _=>exact absurd (show false=true from hs) η
 | _=>cases y <;> exact absurd (show false=true from hs) η
theorem Cb:OpR X (rc .Lt) (rI0 λi j=>.bl (decide (i<j))):=wc λ_ _ _ _ _ _ _ q=>lt_int q
theorem No:OpR X (rc .LtE) (rI0 λi j=>.bl (decide (i<=j))):=wc λ_ _ _ _ _ _ _ q=>le_int q
theorem E8:OpR X (rc .Gt) (rI0 λi j=>.bl (decide (j<i))):=wc λ_ _ _ _ _ _ _ q=>gt_int q
theorem Np:OpR X (rc .GtE) (rI0 λi j=>.bl (decide (j<=i))):=wc λ_ _ _ _ _ _ _ q=>ge_int q
theorem FJ:OpR X (rc .Is) (λx y H Q=>y = .non/\Q (.bl (decide (x = .non))) H):=by
 intro pins s σ H x y v u Q I rx ry h;obtain⟨rfl,q⟩:=h;cases ry;refine is_none_gen (Be I q ?_);cases x <;> first
   | (cases rx;rfl)
   | (obtain⟨t,rfl⟩:=rx;rfl)
theorem VU:OpR X (rc .IsNot) (λx y H Q=>y = .non/\Q (.bl (!decide (x = .non))) H):=by
 intro pins s σ H x y v u Q I rx ry h;obtain⟨rfl,q⟩:=h;cases ry;refine isnot_none_gen (Be I q ?_);cases x <;> first
   | (cases rx;rfl)
   | (obtain⟨t,rfl⟩:=rx;rfl)
theorem Ap(b:qN){op:CmpOp}(h:op≠.In:=by decide)(h2:op≠.NotIn:=by decide):behindInMarks op b=false:=by
 have e1:(op==CmpOp.In)=false:=by cases op <;> first | rfl | exact absurd rfl h
 have e2:(op==CmpOp.NotIn)=false:=by cases op <;> first | rfl | exact absurd rfl h2
 cases b <;> simp [behindInMarks,e1,e2]
theorem BW{op:CmpOp}{r:R2}(ho:OpR X (rc op) r)(ha:PE X a ta)(hb:PE X b tb)(hm:behindInMarks op b=false:=by exact Ap _):PE X (.Compare a [op] [b] pos) (tOp r ta tb):=by
 intro pins s σ H Q I h;exact wpAny_Compare1 (binT ha hb I h λv u s2 x y H2 I2 rx ry q=>ho pins s2 σ H2 x y v u Q I2 rx ry q) hm
def P3(t:TE):TT:=λσ H Q=>t σ H λx H'=>∃k,x = .bl k/\Q k H'
theorem Ax{op:CmpOp}{r:R2}(ho:OpR X (rc op) r)(ha:PE X a ta)(hb:PE X b tb)(hm:behindInMarks op b=false:=by exact Ap _):PT X (.Compare a [op] [b] pos) (P3 (tOp r ta tb)):=by
 intro pins s σ H Q I h;refine wpAny_isTrue_Compare1 (thn (ha pins s σ H _ I h) λv s1 ⟨x,H1,I1,r1,q1⟩=>thn (hb pins s1 σ H1 _ I1 q1) λu s2 ⟨y,H2,I2,r2,q2⟩ =>
   thn (ho pins s2 σ H2 x y v u _ I2 r1 r2 q2) λc s3 ⟨z,H3,I3,r3,k,e,q3⟩=>?_) hm
 subst e;cases r3;exact rm ⟨H3,I3,q3⟩
def VV(r r':R2)(ta tb tc:TE):TE:=λσ H Q=>ta σ H λx H1=>tb σ H1 λy H2=>r x y H2 λz H3=>∃k,z = .bl k /\
 (if k=true then tc σ H3 λw' H4=>r' y w' H4 Q else Q (.bl false) H3)
theorem Zu{op op':CmpOp}{r r':R2}(ho:OpR X (rc op) r)(ho':OpR X (rc op') r')(ha:PE X a ta)(hb:PE X b tb)(hc:PE X c tc)
   (hm:lastMarks [op,op'] [b,c]=false:=by with_unfolding_all rfl):PT X (.Compare a [op,op'] [b,c] pos) (P3 (VV r r' ta tb tc)):=by
 intro pins s σ H Q I h;refine isTrue_chain (thn (ha pins s σ H _ I h) λv s1 ⟨x,H1,I1,r1,q1⟩=>test_link (thn (hb pins s1 σ H1 _ I1 q1) λu s2 ⟨y,H2,I2,r2,q2⟩ =>
   thn (ho pins s2 σ H2 x y v u _ I2 r1 r2 q2) λd s3 ⟨z,H3,I3,r3,k,e,q3⟩=>?_)) hm
 subst e;cases r3;refine rm ?_;cases k with
 | false =>
   obtain⟨k',e',q'⟩:=q3;cases e';exact ite_ff ⟨H3,I3,q'⟩
 | true =>
   refine ite_tt (test_last (thn (hc pins s3 σ H3 _ I3 q3) λw' s4 ⟨z',H4,I4,r4,q4⟩=>thn (ho' pins s4 σ H4 y z' u w' _ I4 r2 r4 q4) λd' s5 ⟨z2,H5,I5,r5,k2,e2,q5⟩=>?_));subst e2;cases r5;exact rm ⟨H5,I5,q5⟩
def vU(K:γ)(x:V)(H:Hp)(k:Bool):Prop :=
 match x with
 | .non=>k=false
 | .bl b=>k=b
 | .int i=>k=(i != 0)
 | .str y=>y.length<=qT/\k=((y.length:Int) != 0)
 | .byt y=>y.size<=qT/\k=((y.size:Int) != 0)
 | .ref p=>(∃xs,SqL K H p xs/\k = !xs.isEmpty)\/(∃xs,SqT K H p xs/\k = !xs.isEmpty)\/∃kvs,H p=some (.dK kvs)/\k = !kvs.isEmpty
 | _=>False
theorem Zv{κ:Type}{kvs:List (κ×V)}{vs:List (κ×qG)}(r:KV kvs vs):(!vs.isEmpty) = !kvs.isEmpty:=by
 cases r <;> rfl
theorem VW{xs:List V}{its:List qG}(r:Vals xs its):(!its.toArray.isEmpty) = !xs.isEmpty:=by
 cases r <;> simp
theorem Jl:(qT:Nat)<2^63:=by rw[sizeLine_eq];decide
theorem uH:TruR X (λx H Q=>∃k,vU X.K x H k/\Q k H):=by
 intro pins s σ H x v Q I rx h;obtain⟨k,e,q⟩:=h;have hl:=Jl;have hs:qT=16777216:=sizeLine_eq;cases x with
 | non =>
   cases rx;have e':k=false:=e;subst e';exact truthy_none ⟨H,I,q⟩
 | bl b =>
   cases rx;have e':k=b:=e;subst e';exact rm ⟨H,I,q⟩
 | int i =>
   obtain⟨t,rfl⟩:=rx;have e':k=(i != 0):=e;subst e';exact PySem.P.truthy_int ⟨H,I,q⟩
 | str y =>
   obtain⟨t,rfl⟩:=rx;obtain⟨hy,e'⟩:y.length<=qT/\k=((y.length:Int) != 0):=e;subst e';exact PySem.P.truthy_str (by omega) ⟨H,I.tok _,q⟩
 | byt y =>
   obtain⟨t,rfl⟩:=rx;obtain⟨hy,e'⟩:y.size<=qT/\k=((y.size:Int) != 0):=e;subst e';exact PySem.W.truthy_bytes (by omega) ⟨H,I.tok _,q⟩
 | ref p =>
   cases rx;have e':(∃xs,SqL X.K H p xs/\k = !xs.isEmpty)\/(∃xs,SqT X.K H p xs/\k = !xs.isEmpty)\/∃kvs,H p=some (.dK kvs)/\k = !kvs.isEmpty:=e;rcases e' with ⟨xs,hx,e'⟩ | ⟨xs,hx,e'⟩ | ⟨kvs,hx,e'⟩
   . subst e';obtain⟨its,r,pl,hz⟩:=I.list hx;have hlen:=r.length;exact wpAny_truthy_list pl.isList (by simp only [ν];omega) ⟨H,I.tok _,by rw[VW r];exact q⟩
   . subst e';obtain⟨its,r,pl,hz⟩:=I.tuple hx;have hlen:=r.length;exact truthy_tuple pl (by simp only [ν];omega) ⟨H,I.tok _,by rw[VW r];exact q⟩
   . subst e';obtain⟨hz,hS,vs,r,m⟩:kvs.length<=qT/\(p==sysModules)=false/\∃vs,KV kvs vs/\s.heap.DictOf (A3 X.prog X.w) p vs:=I.hok p _ hx;have hlen:kvs.length=vs.length:=Paired.length r;exact wpAny_truthy_dict hS m (by omega) ⟨H,I.tok _,by rw[Zv r];exact q⟩
 | _=>exact(show False from e).elim
theorem CF(ha:PE X a ta)(he:∀whole,isTrue a X.env whole=(do let v <-whole;standAt a.pos;holding [v] (truthy v))):
   PT X a (λσ H Q=>ta σ H λx H'=>∃k,vU X.K x H' k/\Q k H'):=by
 intro pins s σ H Q I h;exact isTrue_plain (thn (ha pins s σ H _ I h) λv s1 ⟨x,H1,I1,r1,q1⟩=>uH pins s1 σ H1 x v Q I1 r1 q1) (he _)
theorem Ic{x:V}{us:List qG}(r:Vals [x] us):∃u,us=[u]/\RelV x u:=by
 cases r with
 | cons r1 r2=>cases r2;exact⟨_,rfl,r1⟩
theorem Id{x y:V}{us:List qG}(r:Vals [x,y] us):∃u w',us=[u,w']/\RelV x u/\RelV y w':=by
 cases r with
 | cons r1 r2 =>
   cases r2 with
   | cons r3 r4=>cases r4;exact⟨_,_,rfl,r1,r3⟩
theorem Zw(hc:X.calm=true):DW X (.builtin "min") (λxs H Q=>∃i j,xs=[.int i,.int j]/\Q (.int (if j<i then j else i)) H):=by
 intro pins s σ H xs us Q I r h;obtain⟨i,j,rfl,q⟩:=h;obtain⟨u,w',rfl,⟨t,rfl⟩,⟨t',rfl⟩⟩:=Id r;refine HH.minH (I.hd hc) λh' tk k=>⟨_,H,I.kept k,?_,q⟩
 by_cases hj:j<i
 . rw[if_pos hj,if_pos hj];exact⟨_,rfl⟩
 . rw[if_neg hj,if_neg hj];exact⟨_,rfl⟩
theorem VX:DW X (.type "int") (λxs H Q=>(∃i,xs=[.int i]/\Q (.int i) H)\/∃k,xs=[.bl k]/\Q (.int (if k then 1 else 0)) H):=by
 intro pins s σ H xs us Q I r h;rcases h with ⟨i,rfl,q⟩ | ⟨k,rfl,q⟩
 . obtain⟨u,rfl,t,rfl⟩:=Ic r;exact call_int_int ⟨.int i,H,I,⟨_,rfl⟩,q⟩
 . obtain⟨u,rfl,r1⟩:=Ic r;cases r1;exact call_int_bool ⟨.int (if k then 1 else 0),H,I.tok _,⟨_,rfl⟩,q⟩
end
structure ObjM(h:rB)(x dx C:qH)(mA:Str->Option qG):Prop where
 obj:h.get? x=some (instObj C dx)
 ns:h.Ns1 dx mA
 ne:dx≠x
theorem Zx{h:rB}{dx:qH}{mA:Str->Option qG}(n:h.Ns1 dx mA):∃od,h.get? dx=some od/\∀name,lookIn name od=some (mA name):=by
 obtain⟨o,es,ep,ho,hd,hk,_,hm⟩:=n;refine⟨o,ho,λname=>?_⟩;have e:=hm name;unfold nsFind findBy at e;rw[<-Array.find?_toList] at e;unfold lookIn;rw[hd];dsimp only
 split
 . rename_i y q;rw[q] at e;exact congrArg some e
 . rename_i q;rw[q] at e;have a:es.toList.any (·.refKey)=false:=by
     rw[ni];intro y hy;obtain⟨z,t,hkey⟩:=hk y (Array.mem_toList_iff.mp hy);simp [DictEntry.refKey,hkey]
   have a':¬es.toList.any (·.refKey)=true:=by rw[a];exact η
   rw[if_neg a'];exact congrArg some e
theorem ObjM.look{h:rB}{x dx C:qH}{mA:Str->Option qG}(I:ObjM h x dx C mA):∃od,PySem.W.InstAt h x (instObj C dx) C (some od)/\∀name,lookIn name od=some (mA name) :=
 let ⟨od,ho,hl⟩:=Zx I.ns
 ⟨od,⟨I.obj,rfl,rfl,ho⟩,hl⟩
section
variable {prog:qK}{w:qL}{A:qM}{E:qG->qI->Prop}{s:qI}{K:γ}{x dx C f:qH}{mA:Str->Option qG}{name:Str}{v:qG}
theorem Zy{expr:Bool}{Q:qG->qI->Prop}(X:K.In s.heap)(I:ObjM s.heap x dx C mA)(hg:plainGet K C name=true)(hh:hasDictIn K C=true)
   (ha:findIn K (.ref C) name=some none) (hv:mA name=some v) (hv':handedIn v=true) (h:Q v { s with toks:=s.toks+1 }):
   qX (rj prog w) A (getAttr (.ref x) name expr) Q E s:=by
 obtain⟨od,J,hl⟩:=I.look;exact PySem.W.get_value X J (plainGet_of hg).1 (PySem.W.findObj_own hh ha rfl (by rw[hl,hv])) hv' h
theorem Zz{pl:rq Bool}{Q:qG×List qG->qI->Prop}(X:K.In s.heap)(I:ObjM s.heap x dx C mA)(hg:plainGet K C name=true)
   (hf:findIn K (.ref C) name=some (some (.ref f))) (ht:isFn K (.ref f)=true) (hv:mA name=none) (h:Q (.ref f,[.ref x]) s):
   qX (rj prog w) A (getMethod (.ref x) name pl) Q E s:=by
 obtain⟨od,J,hl⟩:=I.look;exact PySem.W.method_fn X J (plainGet_of hg).1 (plainGet_of hg).2 hf (beq_iff_eq.mp ht) (by show (lookIn name od).map (·.isSome)=some false;rw[hl,hv];rfl) h
theorem ZA{ns:List Str}{Q:Unit->qI->Prop}(X:K.In s.heap)(I:ObjM s.heap x dx C mA)
   (hs:findIn K (.ref C) "__setattr__"=some (some (.builtin "object.__setattr__"))) (hp:plainOver K C=true) (ht:takerIn K C name=some none) (hh:hasDictIn K C=true)
   (hw:kj mA ns) (hsz:ns.length<=qT)
   (h:∀h',ObjM h' x dx C (λy=>if y=name then some v else mA y)->bu dx s.heap h'->Q () { s with heap:=h',toks:=s.toks+2 }):
   qX (rj prog w) A (setAttr (.ref x) name v) Q E s:=by
 obtain⟨od,J,hl⟩:=I.look;refine PySem.W.set_plain X J hs (PySem.W.osa_open (s:={ s with toks:=s.toks+1 }) (r:=none) X J hp ht λb=>?_);obtain⟨cd,hc,hd'⟩:=PySem.W.any_some hh;have hx:s.heap.get? x=some ⟨.ref C,some dx,.plain,#[]⟩:=I.obj;refine qU (qV (qU (qU (wpAny_loadPart hx (qU (pW.here (s:={ s with toks:=s.toks+1 }) (PySem.W.looks_clsIn X hc) ?_))))));rw[hd'];refine qV (a:=some dx) (qU (qV (qU ?_)));refine wpAny_nsSet1 (s:={ s with toks:=s.toks+1 }) I.ns λh' hn2 hs2=>?_;obtain⟨oD,esD,epD,hoD,hdD,hcD⟩:=hn2.count (kj.cons name v hw);refine qU (wpAny_lookBehind hoD (by rw[hdD];exact pastItsLine_dict (bp hcD (by rw[au];omega))) ?_);exact qV (h _ ⟨(hs2.2 _ (bd I.ne)).trans I.obj,hn2,I.ne⟩ hs2)
theorem ZB{R:Result->qI->Prop}{vs:List qG}{kw:List (Str×qG)}(X:K.In s.heap)(hm:makesIn K C=true)
   (hi:findIn K (.ref C) "__init__"=some (some (.ref f))) (hf:typeIn K (.ref f)=some (.type "function"))
   (h:codeAny (rj prog w) (A.under (.builtin "type.__call__" ⟨.ref C::vs,kw⟩)) (.call (.ref f) ⟨.ref (s.heap.objs.size+1)::vs,kw⟩) (PySem.W.InitBack (s.heap.objs.size+1) R)
     { s with heap:=(s.heap.push emptyDict).push (instObj C s.heap.objs.size) }):
   codeAny (rj prog w) A (.call (.ref C) ⟨vs,kw⟩) R s:=by
 obtain⟨hh,g,d,t,os⟩:=s;exact PySem.W.make_core (PySem.W.makes_of X hm) (looks_findIn X hi) (λself=>PySem.W.bind_fn X self hf) (.inl rfl) h
end
def putF(f:Str)(v:V):List (Str×V)->List (Str×V)
 | []=>[(f,v)]
 | (g,x)::r=>if g=f then (g,v)::r else (g,x)::putF f v r
theorem VY(f g:Str)(v:V):∀fs:List (Str×V),(putF f v fs).lookup g=if g=f then some v else fs.lookup g
 | []=>by
   show gp g [(f,v)]=_
   by_cases h:g=f
   . have hb:(g==f)=true:=beq_iff_eq.mpr h
     simp only [gp,hb,if_pos h]
   . have hb:(g==f)=false:=beq_eq_false_iff_ne.mpr h
     simp only [gp,hb,if_neg h]
 | (k,x)::r=>by
   have ih:=VY f g v r
   rw[show putF f v ((k,x)::r)=(if k=f then (k,v)::r else (k,x)::putF f v r) from rfl]
   by_cases hk:k=f
   . rw[if_pos hk]
     by_cases h:g=k
     . have hb:(g==k)=true:=beq_iff_eq.mpr h
       simp only [gp,hb,if_pos (h.trans hk)]
     . have hb:(g==k)=false:=beq_eq_false_iff_ne.mpr h
       simp only [gp,hb,if_neg (λe:g=f=>h (e.trans hk.symm))]
   . rw[if_neg hk]
     by_cases h:g=k
     . have hb:(g==k)=true:=beq_iff_eq.mpr h
       simp only [gp,hb,if_neg (λe:g=f=>hk (h.symm.trans e))]
     . have hb:(g==k)=false:=beq_eq_false_iff_ne.mpr h
       simp only [gp,hb]
       exact ih
theorem P4(f:Str)(v:V):∀fs:List (Str×V),f∈(putF f v fs).map (·.1)/\∀g,g∈fs.map (·.1)->g∈(putF f v fs).map (·.1)
 | []=>⟨by simp [putF],λg h=>by simp at h⟩
 | (k,x)::r=>by
   obtain⟨i1,i2⟩:=P4 f v r
   rw[show putF f v ((k,x)::r)=(if k=f then (k,v)::r else (k,x)::putF f v r) from rfl]
   by_cases hk:k=f
   . rw[if_pos hk]
     subst hk
     exact⟨by simp,λg h=>by simpa using h⟩
   . rw[if_neg hk]
     refine⟨?_,λg h=>?_⟩
     . rw[ar]
       exact ι _ i1
     . rw[ar] at h ⊢
       rcases χ.mp h with e | e
       . exact χ.mpr (.inl e)
       . exact ι _ (i2 g e)
theorem VZ(f:Str)(v:V):∀fs:List (Str×V),(putF f v fs).length<=fs.length+1
 | []=>by simp [putF]
 | (k,x)::r=>by
   have ih:=VZ f v r
   rw[show putF f v ((k,x)::r)=(if k=f then (k,v)::r else (k,x)::putF f v r) from rfl]
   by_cases hk:k=f
   . rw[if_pos hk,au,au];omega
   . rw[if_neg hk,au,au];omega
theorem RelO.some_of{v:V}{o:Option qG}(r:RelO (some v) o):∃u,o=some u/\RelV v u:=by
 cases o with
 | none=>exact(show False from r).elim
 | some u=>exact⟨u,rfl,r⟩
theorem RelO.none_of{o:Option qG}(r:RelO none o):o=none:=by
 cases o with
 | none=>rfl
 | some u=>exact(show False from r).elim
theorem ZC{v:V}{u:qG}(r:RelV v u):handedIn u=true:=by
 cases v with
 | non=>cases (show u=Value.none from r);rfl
 | bl b=>cases (show u=Value.bool b from r);rfl
 | int i=>obtain⟨t,e⟩:=(show ∃t,u=Value.int i t from r);cases e;rfl
 | str x=>obtain⟨t,e⟩:=(show ∃t,u=Value.str x t from r);cases e;rfl
 | byt b=>obtain⟨t,e⟩:=(show ∃t,u=Value.bytes b t from r);cases e;rfl
 | flt b=>obtain⟨t,e⟩:=(show ∃t,u=Value.float b t from r);cases e;rfl
 | ref a=>cases (show u=Value.ref a from r);rfl
 | ty n=>cases (show u=Value.type n from r);rfl
section
variable {P:qK}{w:qL}{H H':Hp}{h h':rB}{a C dx:qH}{fs fs':List (Str×V)}
theorem Nq(hok:HOk P w H h)(e:H a=some (.ins C dx fs)):∃mA,ObjM h a dx C mA/\(∀f,RelO (fs.lookup f) (mA f))/\kj mA (fs.map (·.1))/\fs.length<=1000/\H dx=some (.own a):=by
 obtain⟨d,z,ne,ob,mA,n,r,q⟩:=(show A8 P w H h a (.ins C dx fs) from hok a _ e)
 exact⟨mA,⟨ob,n,ne⟩,r,q,z,d⟩
end
structure Cls(K:γ)(C:qH):Prop where
 pg:plainGet K C Str.empty=true
 hd:hasDictIn K C=true
 po:plainOver K C=true
 sa:findIn K (.ref C) "__setattr__"=some (some (.builtin "object.__setattr__"))
theorem Cls.get{K:γ}{C:qH}(c:Cls K C)(f:Str):plainGet K C f=true:=c.pg
def BO(K:γ)(C:qH)(f:Str):Prop:=findIn K (.ref C) f=some none
theorem BO.taker{K:γ}{C:qH}{f:Str}(n:BO K C f):takerIn K C f=some none:=by
 unfold takerIn;rw[show findIn K (.ref C) f=some none from n];rfl
structure Con(K:γ)(C:qH)(f:Str)(v:V)(u:qG):Prop where
 at_:findIn K (.ref C) f=some (some u)
 rel:RelV v u
 get:specialIn K u "__get__"=some none
 cp:PySem.W.copiedNames.contains f=false
structure tF(K:γ)(C:qH)(m:Str)(f:qH):Prop where
 at_:findIn K (.ref C) m=some (some (.ref f))
 fn:isFn K (.ref f)=true
 kp:keepIn K (.ref f)=true
section
variable {X:Cx}{pins:List (qH×Obj)}{σ:St}{H:Hp}{s:qI}{a C dx:qH}{fs:List (Str×V)}{f:Str}{v:V}{A:qM}{E:qG->qI->Prop}
theorem ZD{b:Bool}{Q:qG->qI->Prop}(I:Inv X pins σ H s)(e:H a=some (.ins C dx fs))(c:Cls X.K C)(n:BO X.K C f)(l:fs.lookup f=some v)
   (h:∀u s',Inv X pins σ H s'->RelV v u->Q u s'):qX (rj X.prog X.w) A (getAttr (.ref a) f b) Q E s:=by
 obtain⟨mA,O,r,_,_,_⟩:=Nq I.hok e;obtain⟨u,hu,ru⟩:=RelO.some_of (v:=v) (o:=mA f) (by rw[<-l];exact r f);exact Zy I.kIn O (c.get f) c.hd n hu (ZC ru) (h u _ (I.tok _) ru)
theorem E9{m:Str}{g:qH}{pl:rq Bool}{Q:qG×List qG->qI->Prop}(I:Inv X pins σ H s)(e:H a=some (.ins C dx fs))(c:Cls X.K C)(k:tF X.K C m g)(l:fs.lookup m=none)
   (h:Q (.ref g,[.ref a]) s):qX (rj X.prog X.w) A (getMethod (.ref a) m pl) Q E s:=by
 obtain⟨mA,O,r,_,_,_⟩:=Nq I.hok e;have hn:mA m=none:=RelO.none_of (by rw[<-l];exact r m);exact Zz I.kIn O (c.get m) k.at_ k.fn hn h
theorem ZE{y:V}{u:qG}{Q:Unit->qI->Prop}(I:Inv X pins σ H s)(e:H a=some (.ins C dx fs))(c:Cls X.K C)(n:BO X.K C f)(hl:fs.length<1000)(ry:RelV y u)
   (h:∀s',Inv X pins σ (upd H a (.ins C dx (putF f y fs))) s'->Q () s'):qX (rj X.prog X.w) A (setAttr (.ref a) f u) Q E s:=by
 obtain⟨mA,O,r,wi,_,ho⟩:=Nq I.hok e;have hz:(fs.map (·.1)).length<=qT:=by rw[ε,sizeLine_eq];omega
 refine ZA I.kIn O c.sa c.po n.taker c.hd wi hz λh' O' sb=>h _ ?_;have hd:∃o,h'.get? dx=some o:=let ⟨o,_,_,e',_⟩:=O'.ns;⟨o,e'⟩;refine I.write (x:=a) (e:=dx) (by rw[e];exact fh) (.inr ho) (λb q hb z=>(sb.2 b hb).trans z) hd ?_;refine⟨by rw[AC O.ne];exact ho,?_,O.ne,O'.obj,_,O'.ns,λg=>?_,λg hg=>?_⟩
 . have:=VZ f y fs;omega
 . show RelO ((putF f y fs).lookup g) (if g=f then some u else mA g);rw[VY];by_cases q:g=f
   . rw[if_pos q,if_pos q];exact ry
   . rw[if_neg q,if_neg q];exact r g
 . by_cases q:g=f
   . rw[q];exact(P4 f y fs).1
   . refine(P4 f y fs).2 g (wi g λz=>hg ?_);show (if g=f then some u else mA g)=none;rw[if_neg q];exact z
theorem Inv.made(I:Inv X pins σ H s):Inv X pins σ (upd (upd H s.heap.objs.size (.own (s.heap.objs.size+1))) (s.heap.objs.size+1) (.ins C s.heap.objs.size []))
   { s with heap:=(s.heap.push emptyDict).push (instObj C s.heap.objs.size) }:=by
 have e1:(s.heap.push emptyDict).get? s.heap.objs.size=some emptyDict:=Ω s.heap rfl;have e2:((s.heap.push emptyDict).push (instObj C s.heap.objs.size)).get? (s.heap.objs.size+1)=some (instObj C s.heap.objs.size):=by
   have:=Ω (s.heap.push emptyDict) (o:=instObj C s.heap.objs.size) rfl
   rwa [bo] at this
 have e3:(s.heap.push emptyDict).Ns s.heap.objs.size (λ_=>none):=⟨emptyDict,#[],_,e1,rfl,(λe he=>absurd he (by simp)),λ_=>rfl⟩
 have I1:=I.laid (a:=s.heap.objs.size) (o:=.own (s.heap.objs.size+1)) (h':=s.heap.push emptyDict) (t':=s.toks) (λb u q=>ζ _ q) (Θ _) ⟨_,e1⟩;refine I1.laid (a:=s.heap.objs.size+1) (o:=.ins C s.heap.objs.size []) (t':=s.toks) (λb u q=>ζ _ q) (qg (bo _ _)) ?_;have ne:s.heap.objs.size≠s.heap.objs.size+1:=al (ft _);refine⟨by rw[AC ne,upd_same],gf _,ne,e2,λ_=>none,(Heap.Ns1.of_empty e3).at λo q=>ζ _ q,λ_=>fh,λy hy=>absurd rfl hy⟩
theorem ZF{prog:qK}{w:qL}{env:rC}{e:qN}{f:Str}{pos:Pos}{s:qI}{Q:qG->qI->Prop}(hb:attributeBase e f env (rh e env)=rh e env)
   (h:qX (rj prog w) A (rh e env) (λo s₁=>qX (rj prog w) A (getAttr o f true) Q E s₁) E s):qX (rj prog w) A (rh (.Attribute e f pos) env) Q E s :=
 Attribute_any_ h (by rw[arm_eval_Attribute,hb])
end
def tFld(K:γ)(ta:TE)(f:Str):TE:=λσ H Q=>ta σ H λx H1=>∃a C dx fs v,x = .ref a/\H1 a=some (.ins C dx fs)/\Cls K C/\BO K C f/\fs.lookup f=some v/\Q v H1
def sFld(K:γ)(ta tv:TE)(f:Str):TS:=λD σ H=>tv σ H λy H1=>ta σ H1 λx H2=>∃a C dx fs,x = .ref a/\H2 a=some (.ins C dx fs)/\Cls K C/\BO K C f/\fs.length<1000 /\
 D.nx σ (upd H2 a (.ins C dx (putF f y fs)))
section
variable {X:Cx}{o e value:qN}{f:Str}{pos pos' tpos:Pos}{ta tv:TE}
theorem AX(he:PE X e ta)(hb:attributeBase e f X.env (rh e X.env)=rh e X.env):PE X (.Attribute e f pos) (tFld X.K ta f):=by
 intro pins s σ H Q I h;refine ZF hb (thn (he pins s σ H _ I h) λu s1 ⟨x,H1,I1,rx,a,C,dx,fs,v,ex,ea,c,n,l,q⟩=>?_);subst ex;obtain rfl:u=Value.ref a:=rx;exact ZD I1 ea c n l λu' s2 I2 ru=>⟨v,H1,I2,ru,q⟩
theorem B8(ha:PE X o ta)(hv:PE X value tv)(hs:swapsWith value (some (.Attribute o f pos')) pos.line X.env=pure false):PS X (.Assign [.Attribute o f pos'] value pos) (sFld X.K ta tv f):=by
 intro pins s σ H D I h;refine plainObj_wpAny_Assign_Attribute (thn (hv pins s σ H _ I h) λu s1 ⟨y,H1,I1,ry,q⟩=>thn (ha pins s1 σ H1 _ I1 q) λov s2 ⟨x,H2,I2,rx,a,C,dx,fs,ex,ea,c,n,l,q2⟩=>?_) hs;subst ex;obtain rfl:ov=Value.ref a:=rx;exact ZE I2 ea c n l ry λs3 I3=>⟨σ,_,I3,q2⟩
theorem pQ{pl:rq Bool}{m:Str}{apos:Pos}{args:List qN}{s:qI}{σ:St}{Q:qG->qI->Prop}{te:TE}(he:PE X e te)(I:Inv X pins σ H s)
   (h:te σ H λx H1=>∃a C dx fs g,x = .ref a/\H1 a=some (.ins C dx fs)/\Cls X.K C/\tF X.K C m g/\fs.lookup m=none /\
     ∀s1,Inv X pins σ H1 s1->qX (rj X.prog X.w) X.A (rf pos (.ref g) [.ref a] (qY pos (qR args X.env)) (backToKw pos (keywordEach [] X.env))) Q X.xe s1)
   (ht:rh (.Call (.Attribute e m apos) args [] pos) X.env=(do
     let ov <-rh e X.env
     standAt apos.atName
     let (f,first) <-holding [ov] (getMethod ov m pl)
     rf pos f first (qY pos (qR args X.env)) (backToKw pos (keywordEach [] X.env)))):
   qX (rj X.prog X.w) X.A (rh (.Call (.Attribute e m apos) args [] pos) X.env) Q X.xe s:=by
 refine methodCall_KW (pl:=pl) (thn (he pins s σ H _ I h) λu s1 ⟨x,H1,I1,rx,a,C,dx,fs,g,ex,ea,c,k,l,q⟩=>?_) ht;subst ex;obtain rfl:u=Value.ref a:=rx;exact E9 I1 ea c k l (q s1 I1)
end
section
variable {X:Cx}{pins:List (qH×Obj)}{σ:St}{H:Hp}{s:qI}{A:qM}{E:qG->qI->Prop}{Q:qG->qI->Prop}{c:qG}{b:Bool}
inductive TyOf(K:γ)(H:Hp):V->qG->Prop where
 | non:TyOf K H .non (.type "NoneType")
 | bl (x:Bool):TyOf K H (.bl x) (.type "bool")
 | int (i:Int):TyOf K H (.int i) (.type "int")
 | str (x:Str):TyOf K H (.str x) (.type "str")
 | flt (x:UInt64):TyOf K H (.flt x) (.type "float")
 | lst {a:qH} {xs:List V} (e:H a=some (.lst xs)):TyOf K H (.ref a) (.type "list")
 | frz {a:qH} {o:Obj} {xs:List V} (e:H a=some (.frz o (.lst xs))):TyOf K H (.ref a) (.type "list")
 | tup {a:qH} {xs:List V} (e:H a=some (.tup xs)):TyOf K H (.ref a) (.type "tuple")
 | dK {a:qH} {kvs:List (Key×V)} (e:H a=some (.dK kvs)):TyOf K H (.ref a) (.type "dict")
 | dT {a:qH} {kvs:List (List Key×V)} (e:H a=some (.dT kvs)):TyOf K H (.ref a) (.type "dict")
 | ins {a C dx:qH} {fs:List (Str×V)} (e:H a=some (.ins C dx fs)) (cl:Cls K C) (ha:findIn K (.ref C) "__class__"=some (some (.builtin "object.__class__")))
     (hn:specialIn K (.builtin "object.__class__") "__get__"=some (some (.builtin "getset_descriptor.__get__"))) (htk:takesIn K (.builtin "object.__class__")=some true)
     (hm:mroIn K C (.type "object")=some true):TyOf K H (.ref a) (.ref C)
theorem ZG{x:V}{u t:qG}(I:Inv X pins σ H s)(rx:RelV x u)(ty:TyOf X.K H x t)(e:kitOne X.K t c=some b)(h:∀tk,Q (.bool b) { s with toks:=tk }):
   qX (rj X.prog X.w) A (call (.builtin "isinstance") [u,c]) Q E s:=by
 cases ty with
 | non=>cases (show u=Value.none from rx);exact kia_one PySem.W.kitx_none I.kIn fh e (λz=>nomatch z) h
 | bl y=>cases (show u=Value.bool y from rx);exact kia_one PySem.W.kitx_bool I.kIn fh e (λz=>nomatch z) h
 | int i=>obtain⟨t,q⟩:=(show ∃t,u=Value.int i t from rx);cases q;exact kia_one PySem.W.kitx_int I.kIn fh e (λz=>nomatch z) h
 | str y=>obtain⟨t,q⟩:=(show ∃t,u=Value.str y t from rx);cases q;exact kia_one PySem.W.kitx_str I.kIn fh e (λz=>nomatch z) h
 | flt y=>obtain⟨t,q⟩:=(show ∃t,u=Value.float y t from rx);cases q;exact kia_one PySem.W.kitx_float I.kIn fh e (λz=>nomatch z) h
 | @lst a xs ea =>
   cases (show u=Value.ref a from rx);obtain⟨_,_,n,_,h1⟩:=(show A8 X.prog X.w H s.heap a (.lst xs) from I.hok a _ ea)
   exact kia_one kitx_list I.kIn ⟨_,h1,rfl⟩ e (λz=>nomatch z) h
 | @frz a ob xs ea =>
   cases (show u=Value.ref a from rx);obtain⟨_,_,_,n,_,h1⟩:=(show A8 X.prog X.w H s.heap a (.frz ob (.lst xs)) from I.hok a _ ea)
   exact kia_one kitx_list I.kIn ⟨_,h1,rfl⟩ e (λz=>nomatch z) h
 | @tup a xs ea =>
   cases (show u=Value.ref a from rx);obtain⟨_,_,_,p⟩:=(show A8 X.prog X.w H s.heap a (.tup xs) from I.hok a _ ea)
   obtain⟨o,h1,h2,_⟩:=p;exact kia_one PySem.W.kitx_tuple I.kIn ⟨o,h1,h2⟩ e (λz=>nomatch z) h
 | @dK a kvs ea =>
   cases (show u=Value.ref a from rx);obtain⟨_,_,vs,_,p⟩:=(show A8 X.prog X.w H s.heap a (.dK kvs) from I.hok a _ ea)
   obtain⟨o,es,ep,h1,h2,_⟩:=p;exact kia_one kitx_dict I.kIn ⟨o,h1,h2.1⟩ e (λz=>nomatch z) h
 | @dT a kvs ea =>
   cases (show u=Value.ref a from rx);obtain⟨_,_,xs,_,o,es,ep,h1,h2,_⟩:=(show A8 X.prog X.w H s.heap a (.dT kvs) from I.hok a _ ea)
   exact kia_one kitx_dict I.kIn ⟨o,h1,h2.1⟩ e (λz=>nomatch z) h
 | @ins a C dx fs ea cl ha hn htk hm =>
   cases (show u=Value.ref a from rx);obtain⟨mA,O,_⟩:=Nq I.hok ea;obtain⟨od,J,_⟩:=O.look;exact kia_one (PySem.W.kitx_own (cl.get _) cl.hd ha hn htk hm) I.kIn J e (λz=>nomatch z) h
end
structure Room(k:Nat)(A:qM):Prop where
 dp:A.depth+3*k+5<recursionLimit
 un:A.units+16*k+200<rl
theorem Room.mono{j k:Nat}{A:qM}(r:Room k A)(h:j<=k):Room j A:=⟨by have:=r.dp;omega,by have:=r.un;omega⟩
theorem Room.deeper{k:Nat}{A:qM}(r:Room (k+1) A)(env:rC):Room k (A.deeper env) :=
 ⟨by have:=r.dp;show A.depth+1+3*k+5<_;omega,by have:=r.un;show A.units+3+16*k+200<_;omega⟩
theorem ZH{A:qM}{C:qH}{us:List qG}{kw:List (Str×qG)}:(A.under (.builtin "type.__call__" ⟨.ref C::us,kw⟩)).depth=A.depth+1:=by
 first | rfl | simp [Around.under,Code.weight,Code.isCreation,Code.isGuard,Code.isCaller,Code.frames,Code.isFrame,guardIds]
theorem ZI{A:qM}{C:qH}{us:List qG}{kw:List (Str×qG)}:(A.under (.builtin "type.__call__" ⟨.ref C::us,kw⟩)).units=A.units+1:=by
 first | rfl | simp [Around.under,Code.cUnits,Code.frames,Code.isFrame]
theorem Room.make{k:Nat}{A:qM}(r:Room (k+1) A)(C:qH)(us:List qG)(kw:List (Str×qG)):Room k (A.under (.builtin "type.__call__" ⟨.ref C::us,kw⟩)) :=
 ⟨by have:=r.dp;rw[ZH];omega,by have:=r.un;rw[ZI];omega⟩
theorem Room.depth{k:Nat}{A:qM}(r:Room k A):A.depth<recursionLimit:=by have:=r.dp;omega
theorem Room.units{k:Nat}{A:qM}(r:Room k A):A.units+64<rl:=by have:=r.un;omega
def ur:TA:=λ_ H Q=>Q [] H
def Nr(ta:TE)(tr:TA):TA:=λσ H Q=>ta σ H λx H1=>tr σ H1 λxs H2=>Q (x::xs) H2
section
variable {X:Cx}{e:qN}{es:List qN}{te:TE}{t:TA}{pos:Pos}
theorem Ab:PA X [] ur:=λ_ _ _ _ H Q I h=>jy ⟨[],H,I,.nil,h⟩
theorem Aa(ha:PE X e te)(hr:PA X es t)(hs:qR (e::es) X.env=(false,rh e X.env)::qR es X.env:=by rfl):PA X (e::es) (Nr te t):=by
 intro pos pins s σ H Q I h;rw[hs];show qX _ _ (spliced ((false,rh e X.env)::qY pos (qR es X.env))) _ _ s;refine ig (thn (ha pins s σ H _ I h) λu s1 ⟨x,H1,I1,r1,q1⟩=>?_);exact thn (hr pos pins s1 σ H1 _ I1 q1) λus s2 ⟨xs,H2,I2,r2,q2⟩=>⟨x::xs,H2,I2,.cons r1 r2,q2⟩
def tTup(t:TA):TE:=λσ H Q=>t σ H λxs H1=>xs.length<=qT/\∀p,H1 p=none->Q (.ref p) (upd H1 p (.tup xs))
def tLst(t:TA):TE:=λσ H Q=>t σ H λxs H1=>xs.length<=qT/\∀p,H1 p=none->Q (.ref p) (upd H1 p (.lst xs))
theorem Bs{x1}(h:PA X es t):PE X (.Tuple es x1 pos) (tTup t):=by
 intro pins s σ H Q I hq;refine wpAny_Tuple_spliced (thn (h pos pins s σ H _ I hq) λus s1 ⟨xs,H1,I1,r,z,q⟩=>⟨by rw[<-r.length];exact z,?_⟩);have hf:H1 s1.heap.objs.size=none:=I1.hok.fresh (Θ _);refine⟨.ref s1.heap.objs.size,upd H1 s1.heap.objs.size (.tup xs),I1.laid (t':=s1.toks) (λb u e=>ζ _ e) (Θ _) ?_,rfl,q _ hf⟩;exact⟨z,us,r,⟨_,Ω _ rfl,rfl,_,rfl⟩⟩
theorem Bk(h:PA X es t):PE X (.List es pos) (tLst t):=by
 intro pins s σ H Q I hq;refine wpAny_List_spliced (thn (h pos pins s σ H _ I hq) λus s1 ⟨xs,H1,I1,r,z,q⟩=>⟨by rw[<-r.length];exact z,?_⟩);have hf:H1 s1.heap.objs.size=none:=I1.hok.fresh (Θ _);refine⟨.ref s1.heap.objs.size,upd H1 s1.heap.objs.size (.lst xs),I1.laid (t':=s1.toks) (λb u e=>ζ _ e) (Θ _) ?_,rfl,q _ hf⟩;exact⟨z,us,0,r,Ω _ rfl⟩
end
abbrev Sp:=List V->Hp->VK->XK->Prop
abbrev CXT:=List rC->Hp->qI->XK->qG->qI->Prop
structure Env0(P:qK)(w:qL)(K:γ)(mg:Str->Option qG)(base:rB)(A:qM)(outer:List rC)(s:qI)(H:Hp):Prop where
 frames:A.frames=some outer
 mod:Mod K mg base
 bs:∀b o,base.get? b=some o->s.heap.get? b=some o/\H b=none
 bsz:base.objs.size<=s.heap.objs.size
 funs:s.heap.FunFrames base outer
 frf:∀b∈frs outer,H b=none
 hok:HOk P w H s.heap
 bare:AllBare s.gens
 hd:∃cs,HH.HL A cs/\(A.handled=none->cs=[])/\∀p∈cs,s.heap.get? p.1=some p.2/\H p.1=none/\p.1 ∉ frs outer
def CE(outer:List rC)(P:qK)(w:qL)(H:Hp)(s:qI)(Q:VK)(u:qG)(s':qI):Prop :=
 ∃v H',s'.os=s.os/\AllBare s'.gens/\Un (frs outer) [] H H' s.heap s'.heap/\HOk P w H' s'.heap/\RelV v u/\Q v H'
def CR(CX:CXT)(outer:List rC)(P:qK)(w:qL)(H:Hp)(s:qI)(Q:VK)(E:XK)(r:Result)(s':qI):Prop :=
 match r with
 | .ok (.ret u)=>CE outer P w H s Q u s'
 | .ok _=>False
 | .error e=>CX outer H s E e s'
structure FnOk(P:qK)(w:qL)(K:γ)(mg:Str->Option qG)(base:rB)(CX:CXT)(k:Nat)(f:qH)(fd:qJ)(ps:List Str)(sp:Sp):Prop where
 len:∀vs H Q E,sp vs H Q E->vs.length=ps.length
 run:∀(A:qM) (outer:List rC) (s:qI) (H:Hp) (args:Args) (us:List qG) (vs:List V) (Q:VK) (E:XK),Room k A->Env0 P w K mg base A outer s H->BindsTo s fd args (ps.zip us)->Vals vs us->sp vs H Q E ->
   codeAny (rj P w) A (.call (.ref f) args) (CR CX outer P w H s Q E) s
theorem FnOk.mono{P:qK}{w:qL}{K:γ}{mg:Str->Option qG}{base:rB}{CX:CXT}{j k:Nat}{f:qH}{fd:qJ}{ps:List Str}{sp:Sp}(F:FnOk P w K mg base CX j f fd ps sp)(h:j<=k):
   FnOk P w K mg base CX k f fd ps sp:=⟨F.len,λA outer s H args us vs Q E hr=>F.run A outer s H args us vs Q E (hr.mono h)⟩
theorem FnOk.imp{P:qK}{w:qL}{K:γ}{mg:Str->Option qG}{base:rB}{CX:CXT}{k:Nat}{f:qH}{fd:qJ}{ps:List Str}{sp sp':Sp}(F:FnOk P w K mg base CX k f fd ps sp)
   (h:∀vs H Q E,sp' vs H Q E->sp vs H Q E):FnOk P w K mg base CX k f fd ps sp' :=
 ⟨λvs H Q E q=>F.len vs H Q E (h _ _ _ _ q),λA outer s H args us vs Q E hr he hb hv hs=>F.run A outer s H args us vs Q E hr he hb hv (h _ _ _ _ hs)⟩
theorem Env0.make{P:qK}{w:qL}{K:γ}{mg:Str->Option qG}{base:rB}{A:qM}{outer:List rC}{s:qI}(e:Env0 P w K mg base A outer s H)(C:qH)(us:List qG)(kw:List (Str×qG)):
   Env0 P w K mg base (A.under (.builtin "type.__call__" ⟨.ref C::us,kw⟩)) outer s H:=⟨by first | exact e.frames | (simpa [Around.under,Code.envs,Code.isFrame,pushEnvs] using e.frames),e.mod,e.bs,e.bsz,e.funs,e.frf,e.hok,e.bare,e.hd⟩
section
variable {X:Cx}{pins:List (qH×Obj)}{σ:St}{H:Hp}{s s':qI}
theorem Inv.env0[Calm X](I:Inv X pins σ H s):Env0 X.prog X.w X.K X.mg X.base X.A X.stack s H :=
 ⟨I.ok.frames,I.ok.mod,I.bs,bp I.ok.bsz I.sz,I.stack,I.stkFree,I.hok,I.bare,let ⟨cs,l,z,k⟩:=I.hdAt Calm.eq;⟨cs,l,z,λp hp=>⟨(k p hp).1,(k p hp).2.1,λw=>(χ.mp (I.stkSub _ w)).elim (k p hp).2.2.1 (k p hp).2.2.2⟩⟩⟩
theorem Inv.after{Q:VK}{u:qG}(I:Inv X pins σ H s)(h:CE X.stack X.prog X.w H s Q u s'):EP X pins σ Q u s':=by
 obtain⟨v,H',os,bare,un,hok,r,q⟩:=h;obtain⟨hh,g,d,t,os'⟩:=s';obtain rfl:os'=s.os:=os;exact⟨v,H',I.call (h':=hh) (g':=g) (d':=d) (t':=t) (ch:=[]) un hok bare (λb z=>absurd z (by simp)),r,q⟩
end
def Jm(sp:Sp)(dvs:List V)(E:XK)(t:TA):TE:=λσ H Q=>t σ H λvs H1=>sp (vs++dvs) H1 Q E
def Ie(C:qH)(m:Str)(sp:Sp)(dvs:List V)(E:XK)(ta:TE)(t:TA):TE:=λσ H Q=>ta σ H λx H1=>∃a dx fs,x = .ref a/\H1 a=some (.ins C dx fs)/\fs.lookup m=none /\
 t σ H1 λvs H2=>sp (x::(vs++dvs)) H2 Q E
def Nt(C:qH)(sp:Sp)(dvs:List V)(E:XK)(t:TA):TE:=λσ H Q=>t σ H λvs H1=>∀x dx,H1 x=none->H1 dx=none->dx≠x ->
 sp (.ref x::(vs++dvs)) (upd (upd H1 dx (.own x)) x (.ins C dx [])) (λv H2=>v = .non/\Q (.ref x) H2) E
def By(K:γ)(fd:qJ)(ps:List Str)(ds:List qG):Prop :=
 ∀(s:qI) (us:List qG),K.In s.heap->(us++ds).length=ps.length->BindsTo s fd ⟨us,[]⟩ (ps.zip (us++ds))
theorem By.all{K:γ}{fd:qJ}{ps:List Str}(h:∀us:List qG,us.length=ps.length->qS fd ⟨us,[]⟩=pure (ps.zip us)):By K fd ps []:=λs us _ hl=>by
 rw[bg] at hl ⊢;exact .of_eq (h us hl)
def Ct(CX:CXT)(X:Cx)(E:XK):Prop:=∀(pins:List (qH×Obj)) (σ:St) (H:Hp) (s:qI) (e:qG) (s':qI),Inv X pins σ H s->CX X.stack H s E e s'->X.xe e s'
section
variable {X:Cx}{CX:CXT}{k:Nat}{f C:qH}{fd:qJ}{ps:List Str}{sp:Sp}{dvs:List V}{ds:List qG}{E:XK}{x m:Str}{p pos apos:Pos}{e o:qN}{es:List qN}{ta:TE}{t:TA}
theorem Ig[Calm X]{σ:St}{s:qI}{Q:VK}{us:List qG}{vs:List V}(F:FnOk X.prog X.w X.K X.mg X.base CX k f fd ps sp)(hr:Room k X.A)(hb:By X.K fd ps ds)(hd:Vals dvs ds)(hx:Ct CX X E)
   (I:Inv X pins σ H s) (r:Vals vs us) (h:sp (vs++dvs) H Q E):qX (rj X.prog X.w) X.A (call (.ref f) us) (EP X pins σ Q) X.xe s:=by
 have r2:Vals (vs++dvs) (us++ds):=r.append hd;have hl:(us++ds).length=ps.length:=by rw[<-r2.length];exact F.len _ _ _ _ h
 refine wpAny_call (codeAny_mono (F.run X.A X.stack s H ⟨us,[]⟩ (us++ds) (vs++dvs) Q E hr I.env0 (hb s us I.kIn hl) r2 h) λr s' hq=>?_);cases r with
 | error e=>exact hx pins σ H s e s' I hq
 | ok fl =>
   cases fl with
   | ret u=>exact I.after hq
   | next=>exact dj hq
   | brk=>exact dj hq
   | cont=>exact dj hq
theorem V0[Calm X](F:FnOk X.prog X.w X.K X.mg X.base CX k f fd ps sp)(hr:Room k X.A)(hg:Gl X x)(hm:X.mg x=some (.ref f))(hk:keepIn X.K (.ref f)=true)(hb:By X.K fd ps ds)(hd:Vals dvs ds)(hx:Ct CX X E)
   (ha:PA X (e::es) t) (hdb:(x==("__debug__":Str))=false:=by decide) (he:qR (e::es) X.env=(false,rh e X.env)::qR es X.env:=by rfl) (hpl:(qY pos (qR es X.env)).any (·.1)=false:=by rfl):
   PE X (.Call (.Name x p) (e::es) [] pos) (Jm sp dvs E t):=by
 intro pins s σ H Q I h;refine wpAny_Call_Name_kw (DV I hg hm ?_ hdb);refine callWith_K (h₀:=X.base) I.ok.mod.kin hk (thn (ha pos pins s σ H _ I h) λus s1 ⟨vs,H1,I1,r,q⟩=>⟨I1.kIn,?_⟩) he hpl;exact Ig F hr hb hd hx I1 r q
theorem ZJ[Calm X]{pl:rq Bool}(he:PE X o ta)(c:Cls X.K C)(hm:tF X.K C m f)(F:FnOk X.prog X.w X.K X.mg X.base CX k f fd ps sp)(hr:Room k X.A)(hb:By X.K fd ps ds)(hd:Vals dvs ds)(hx:Ct CX X E)(ha:PA X (e::es) t)
   (hst:qR (e::es) X.env=(false,rh e X.env)::qR es X.env:=by rfl) (hpl:(qY pos (qR es X.env)).any (·.1)=false:=by rfl)
   (ht:rh (.Call (.Attribute o m apos) (e::es) [] pos) X.env=(do
     let ov <-rh o X.env
     standAt apos.atName
     let (f,first) <-holding [ov] (getMethod ov m pl)
     rf pos f first (qY pos (qR (e::es) X.env)) (backToKw pos (keywordEach [] X.env))):=by rfl):
   PE X (.Call (.Attribute o m apos) (e::es) [] pos) (Ie C m sp dvs E ta t):=by
 intro pins s σ H Q I h;refine methodCall_KW (pl:=pl) (thn (he pins s σ H _ I h) λu s1 ⟨x,H1,I1,rx,a,dx,fs,ex,ea,l,q⟩=>?_) ht;subst ex;obtain rfl:u=Value.ref a:=rx;refine E9 I1 ea c hm l ?_;refine callWith_K (first:=[.ref a]) (h₀:=X.base) I.ok.mod.kin hm.kp (thn (ha pos pins s1 σ H1 _ I1 q) λus s2 ⟨vs,H2,I2,r,q2⟩=>⟨I2.kIn,?_⟩) hst hpl;exact Ig (us:=.ref a::us) (vs:=.ref a::vs) F hr hb hd hx I2 (.cons rfl r) q2
theorem ZK[Calm X]{pl:rq Bool}(he:PE X o ta)(c:Cls X.K C)(hm:tF X.K C m f)(F:FnOk X.prog X.w X.K X.mg X.base CX k f fd ps sp)(hr:Room k X.A)(hb:By X.K fd ps ds)(hd:Vals dvs ds)(hx:Ct CX X E)
   (ht:rh (.Call (.Attribute o m apos) [] [] pos) X.env=(do
     let ov <-rh o X.env
     standAt apos.atName
     let (f,first) <-holding [ov] (getMethod ov m pl)
     rf pos f first (qY pos (qR [] X.env)) (backToKw pos (keywordEach [] X.env))):=by rfl):
   PE X (.Call (.Attribute o m apos) [] [] pos) (Ie C m sp dvs E ta ur):=by
 intro pins s σ H Q I h;refine methodCall_KW (pl:=pl) (thn (he pins s σ H _ I h) λu s1 ⟨x,H1,I1,rx,a,dx,fs,ex,ea,l,q⟩=>?_) ht;subst ex;obtain rfl:u=Value.ref a:=rx;refine E9 I1 ea c hm l ?_;exact callWith_K0 (first:=[.ref a]) I1.kIn hm.kp (Ig (us:=[.ref a]) (vs:=[.ref a]) F hr hb hd hx I1 (.cons rfl .nil) q)
structure Mk(K:γ)(C f:qH):Prop where
 makes:makesIn K C=true
 init:findIn K (.ref C) "__init__"=some (some (.ref f))
 fn:isFn K (.ref f)=true
 kp:keepIn K (.ref C)=true
theorem ZL[Calm X]{σ:St}{s:qI}{Q:VK}{us:List qG}{vs:List V}(M:Mk X.K C f)(F:FnOk X.prog X.w X.K X.mg X.base CX k f fd ps sp)(hr:Room (k+1) X.A)(hb:By X.K fd ps ds)(hd:Vals dvs ds)
   (hx:Ct CX X E) (I:Inv X pins σ H s) (r:Vals vs us)
   (h:∀x dx,H x=none->H dx=none->dx≠x->sp (.ref x::(vs++dvs)) (upd (upd H dx (.own x)) x (.ins C dx [])) (λv H2=>v = .non/\Q (.ref x) H2) E):
   qX (rj X.prog X.w) X.A (call (.ref C) us) (EP X pins σ Q) X.xe s:=by
 have hq:=h (s.heap.objs.size+1) s.heap.objs.size (I.hok.fresh (jz _)) (I.hok.fresh (Θ _)) (al (ft _));have I2:=Inv.made (C:=C) I;have r2:Vals (V.ref (s.heap.objs.size+1)::(vs++dvs)) (Value.ref (s.heap.objs.size+1)::(us++ds)):=.cons rfl (r.append hd);have hl:(Value.ref (s.heap.objs.size+1)::us++ds).length=ps.length:=by
   have e:=r2.length;rw[F.len _ _ _ _ hq] at e;exact e.symm
 refine wpAny_call (ZB (f:=f) I.kIn M.makes M.init (beq_iff_eq.mp M.fn) (codeAny_mono (F.run _ X.stack _ _ ⟨Value.ref (s.heap.objs.size+1)::us,[]⟩ (Value.ref (s.heap.objs.size+1)::(us++ds)) _ _ E (hr.make C us [])
   (I2.env0.make C us []) (hb _ (Value.ref (s.heap.objs.size+1)::us) I2.kIn hl) r2 hq) λr s' hq'=>?_))
 cases r with
 | error e=>exact hx pins σ _ _ e s' I2 hq'
 | ok fl =>
   cases fl with
   | ret u =>
     obtain⟨v,H',I3,rv,ev,q3⟩:=I2.after hq';subst ev;exact⟨rv,⟨V.ref (s.heap.objs.size+1),H',I3,rfl,q3⟩⟩
   | next=>exact dj hq'
   | brk=>exact dj hq'
   | cont=>exact dj hq'
theorem ZM[Calm X](M:Mk X.K C f)(F:FnOk X.prog X.w X.K X.mg X.base CX k f fd ps sp)(hr:Room (k+1) X.A)(hg:Gl X x)(hm:X.mg x=some (.ref C))(hb:By X.K fd ps ds)(hd:Vals dvs ds)(hx:Ct CX X E)
   (ha:PA X (e::es) t) (hdb:(x==("__debug__":Str))=false:=by decide) (he:qR (e::es) X.env=(false,rh e X.env)::qR es X.env:=by rfl) (hpl:(qY pos (qR es X.env)).any (·.1)=false:=by rfl):
   PE X (.Call (.Name x p) (e::es) [] pos) (Nt C sp dvs E t):=by
 intro pins s σ H Q I h;refine wpAny_Call_Name_kw (DV I hg hm ?_ hdb);refine callWith_K (h₀:=X.base) I.ok.mod.kin M.kp (thn (ha pos pins s σ H _ I h) λus s1 ⟨vs,H1,I1,r,q⟩=>⟨I1.kIn,?_⟩) he hpl;exact ZL M F hr hb hd hx I1 r q
end
def PK(X:Cx)(kws:List Keyword)(t:TA):Prop :=
 ∀(pos:Pos) (pins:List (qH×Obj)) (s:qI) (σ:St) (H:Hp) (Q:List V->Hp->Prop),Inv X pins σ H s->t σ H Q->qX (rj X.prog X.w) X.A (evalAll ((backToKw pos (keywordEach kws X.env)).map (·.2))) (AP X pins σ Q) X.xe s
section
variable {X:Cx}{CX:CXT}{k:Nat}{f C:qH}{fd:qJ}{ps ks:List Str}{sp:Sp}{E:XK}{x m:Str}{p pos apos kpos:Pos}{e o:qN}{es:List qN}{kws:List Keyword}{te ta:TE}{t tk:TA}{nm:Option Str}
theorem vc:PK X [] ur:=λ_ _ _ _ H Q I h=>wpAny_evalAll_nil ⟨[],H,I,.nil,h⟩
theorem ZN(ha:PE X e te)(hr:PK X kws t):PK X (⟨nm,e,kpos⟩::kws) (Nr te t):=by
 intro pos pins s σ H Q I h;show qX _ _ (evalAll ((do let v <-rh e X.env;standAt pos;pure v)::(backToKw pos (keywordEach kws X.env)).map (·.2))) _ _ s;refine wpAny_evalAll_cons (qU (thn (ha pins s σ H _ I h) λu s1 ⟨x,H1,I1,r1,q1⟩=>qU (wpAny_standAt (qV ?_))));exact thn (hr pos pins s1 σ H1 _ I1 q1) λus s2 ⟨xs,H2,I2,r2,q2⟩=>⟨x::xs,H2,I2,.cons r1 r2,q2⟩
structure KBinds(K:γ)(fd:qJ)(ps ks:List Str)(g:List qG->List qG->List qG)(gV:List V->List V->List V):Prop where
 to:∀(s:qI) (us ws:List qG),K.In s.heap->(g us ws).length=ps.length->BindsTo s fd ⟨us,ks.zip ws⟩ (ps.zip (g us ws))
 rel:∀{vs:List V} {us:List qG} {zs:List V} {ws:List qG},Vals vs us->Vals zs ws->Vals (gV vs zs) (g us ws)
variable {g:List qG->List qG->List qG}{gV:List V->List V->List V}
end
structure tD(N P:List Str)(sc:qP):Prop where
 kind:sc.kind = .function
 co:sc.isCoroutine=false
 gen:sc.isGenerator=false
 nd:N.Nodup
 pre:N.take P.length=P
 par:∀x∈P,sc.names.lookup x=some .local\/sc.names.lookup x=some .cell
 nofree:∀y∈sc.names,y.2≠.free
theorem V1{kindOf:Str->Option NameKind}{x:Str}:∀{binds:List (Str×qG)} {m:Str->Option qG},(∀v,(x,v) ∉ binds)->bindL kindOf binds m x=m x
 | [],_,_=>rfl
 | (n,v)::r,m,h=>by
   unfold bindL
   rw[V1 λw hw=>h w (ι _ hw)]
   split
   . have:x≠n:=by rintro rfl;exact h v Ξ
     simp [this]
   . rfl
theorem V2{kindOf:Str->Option NameKind}{x:Str}:∀{binds:List (Str×qG)} {m:Str->Option qG},(∀v,(x,v) ∉ binds)->bindC kindOf binds m x=m x
 | [],_,_=>rfl
 | (n,v)::r,m,h=>by
   unfold bindC
   rw[V2 λw hw=>h w (ι _ hw)]
   split
   . rfl
   . have:x≠n:=by rintro rfl;exact h v Ξ
     simp [this]
theorem V3{kindOf:Str->Option NameKind}{x:Str}{v:qG}:∀{P:List Str} {vs:List qG} {i:Nat} {m:Str->Option qG},P.Nodup->P[i]?=some x->vs[i]?=some v->kindOf x=some .local ->
   bindL kindOf (P.zip vs) m x=some v
 | [],_,_,_,_,h,_,_=>by simp at h
 | _::_,[],_,_,_,_,h,_=>by simp at h
 | p::P,w::vs,0,m,nd,h1,h2,hk=>by
   simp at h1 h2;subst h1;subst h2
   show bindL kindOf ((p,w)::P.zip vs) m p=_
   unfold bindL
   rw[V1 λv hv=>(ed.mp nd).1 (la hv).1,if_pos hk]
   simp
 | p::P,w::vs,i+1,m,nd,h1,h2,hk=>by
   show bindL kindOf ((p,w)::P.zip vs) m x=_
   unfold bindL
   exact V3 (i:=i) (ed.mp nd).2 (by simpa using h1) (by simpa using h2) hk
theorem V4{kindOf:Str->Option NameKind}{x:Str}{v:qG}:∀{P:List Str} {vs:List qG} {i:Nat} {m:Str->Option qG},P.Nodup->P[i]?=some x->vs[i]?=some v->kindOf x≠some .local ->
   bindC kindOf (P.zip vs) m x=some v
 | [],_,_,_,_,h,_,_=>by simp at h
 | _::_,[],_,_,_,_,h,_=>by simp at h
 | p::P,w::vs,0,m,nd,h1,h2,hk=>by
   simp at h1 h2;subst h1;subst h2
   show bindC kindOf ((p,w)::P.zip vs) m p=_
   unfold bindC
   rw[V2 λv hv=>(ed.mp nd).1 (la hv).1,if_neg hk]
   simp
 | p::P,w::vs,i+1,m,nd,h1,h2,hk=>by
   show bindC kindOf ((p,w)::P.zip vs) m x=_
   unfold bindC
   exact V4 (i:=i) (ed.mp nd).2 (by simpa using h1) (by simpa using h2) hk
def start(N:List Str)(vs:List V):St:=vs.map some++aw (N.length-vs.length) none
def cxOf(CX:CXT)(P:qK)(w:qL)(K:γ)(mg:Str->Option qG)(base:rB)(N:List Str)(qual:Str)(scope:qP)(f:qH)(cd:qG)(A:qM)(outer:List rC)(s:qI)(H:Hp)(E:XK):Cx where
 prog:=P
 w:=w
 K:=K
 mg:=mg
 base:=base
 A:=A.deeper (envOfC qual scope s.heap.objs.size f cd)
 N:=N
 s₀:=s
 H₀:=H
 env:=envOfC qual scope s.heap.objs.size f cd
 outer:=outer
 stack:=envOfC qual scope s.heap.objs.size f cd::outer
 ex:=[]
 calm:=true
 fn:=λ_=>true
 pn:=[]
 xe:=λe s'=>qX (rj P w) (A.deeper (envOfC qual scope s.heap.objs.size f cd)) (leaving (envOfC qual scope s.heap.objs.size f cd) e) (λ_ s''=>CX outer H s E e s'') (λe' s''=>CX outer H s E e' s'') s'
instance {CX P w K mg base N qual scope f cd A outer s H E}:Calm (cxOf CX P w K mg base N qual scope f cd A outer s H E):=⟨rfl⟩
theorem V5{sc:qP}{n:Nat}{x:Str}(h:sc.names.lookup x=some .cell):∃c,(cellsFrom n sc.names []).lookup x=some c:=by
 have q:=cellsFrom_some sc.names n [] (.inl h);exact Option.isSome_iff_exists.mp q
theorem ZO{CX:CXT}{P:qK}{w:qL}{K:γ}{mg:Str->Option qG}{base:rB}{N ps:List Str}{qual:Str}{scope:qP}{f:qH}{cd:qG}{A:qM}{outer:List rC}{s s1:qI}{E:XK}{us:List qG}{vs:List V}
   (S:tD N ps scope) (e0:Env0 P w K mg base A outer s H) (hl:vs.length=ps.length) (r:Vals vs us)
   (x:InCallC s s.heap.objs.size (bindL (envOfC qual scope s.heap.objs.size f cd).kindOf (ps.zip us) λ_=>none) (cellsFrom (s.heap.objs.size+1) scope.names []) (bindC (envOfC qual scope s.heap.objs.size f cd).kindOf (ps.zip us) λ_=>none) s1):
   Inv (cxOf CX P w K mg base N qual scope f cd A outer s H E) [] (start N vs) H s1:=by
 have hpl:ps.length<=N.length:=by have:=congrArg jb S.pre;rw[ag] at this;omega
 obtain⟨h1,tk,rfl,hk⟩:=x.done;have noA:∀b:qH,b ∉ (cxOf CX P w K mg base N qual scope f cd A outer s H E).ex:=λb z=>absurd (show b∈([]:List qH) from z) (by simp);refine⟨⟨e0.mod,S.kind,rfl,rfl,Θ _,λy z c h1 h2=>?_,λy hy=>?_,λy c _ h=>?_,λ_=>let ⟨cs,l,z,k⟩:=e0.hd;⟨cs,l,z,λp hp=>.inl ⟨(k p hp).1,(k p hp).2.1,(k p hp).2.2,noA _⟩⟩,Around.frames_deeper e0.frames,.inr ⟨rfl,rfl⟩,λb z=>absurd z (noA b),e0.bs,e0.bsz,λb _ _=>noA b,λb z=>absurd z (noA b),e0.funs,e0.frf⟩,
   rfl,e0.bare,Un.kept hk,⟨_,x.toInCall.ns,λi y v h1 h2 h3=>?_⟩,λy c h=>⟨_,x.cell y c h⟩,e0.hok.fresh (Θ _),λy c h=>?_,λp hp=>absurd (show p∈([]:List (qH×Obj)) from hp) (by simp),e0.hok.kept hk,?_⟩
 . exact name_of_addr x.apart (gj h1) (gj h2)
 . have hy:scope.names.lookup y=some .cell\/scope.names.lookup y=some .free:=hy;rcases hy with hy | hy
   . exact V5 hy
   . exact absurd rfl (S.nofree _ (gj hy))
 . exact gd (x.above y c (gj h))
 . have hi:i<vs.length:=by
     unfold start at h2;by_cases hi:i<vs.length
     . exact hi
     . rw[θ (by simpa using hi)] at h2;rw[ke] at h2
       split at h2 <;> cases h2
   have ha:vs[i]?=some v:=by
     unfold start at h2;rw[ο (by simpa using hi),Ψ] at h2;cases e:vs[i]? with
     | none=>rw[e] at h2;cases h2
     | some a=>rw[e] at h2;cases h2;rfl
   obtain⟨u,hu,rv⟩:=r.get ha;have hp:ps[i]?=some y:=by
     rw[<-S.pre,gh (by omega)];exact h1
   have ndP:ps.Nodup:=by rw[<-S.pre];exact S.nd.sublist (nq _ _)
   refine⟨u,rv,?_⟩;rcases S.par y (Δ hp) with k | k
   . exact .inl ⟨k,V3 ndP hp hu k⟩
   . obtain⟨c,e⟩:=V5 (n:=s.heap.objs.size+1) k;refine .inr ⟨.inl k,c,e,?_⟩;have q:=x.cell y c e;rw[V4 ndP hp hu (by show scope.names.lookup y≠_;rw[k];decide)] at q;exact q
 . exact e0.hok.fresh (gd (x.above y c (gj h)))
 . unfold start;show _=N.length;rw[π,ε,bz];omega
theorem P5{CX:CXT}{P:qK}{w:qL}{K:γ}{mg:Str->Option qG}{base:rB}{k:Nat}{f:qH}{name qual:Str}{params:Arguments}{body:List qO}{scope:qP}{dV kV doc pm cdv ct oc:qG}{an od:Option qH}
   {osl:Array (Option qG)} {N ps:List Str} {sp:Sp} (lk:K.lookup f=some ⟨oc,od,.func (fnOf name qual params body scope dV kV doc pm an cdv ct),osl⟩) (hcd:codeIn K cdv qual=true) (S:tD N ps scope)
   (len:∀vs H Q E,sp vs H Q E->vs.length=ps.length)
   (hbody:∀(A:qM) (outer:List rC) (s:qI) (H:Hp) (vs:List V) (Q:VK) (E:XK),Room k (A.deeper (envOfC qual scope s.heap.objs.size f cdv))->sp vs H Q E ->
     ∃t,PSs (cxOf CX P w K mg base N qual scope f cdv A outer s H E) body t/\t { nx:=λ_ H'=>Q .non H',rt:=Q } (start N vs) H):
   FnOk P w K mg base CX (k+1) f (fnOf name qual params body scope dV kV doc pm an cdv ct) ps sp:=by
 refine⟨len,λA outer s H args us vs Q E hr e0 hb r hsp=>?_⟩;have hl:=len _ _ _ _ hsp;have KX:K.In s.heap:=e0.mod.kin.keeps λb o e=>(e0.bs b o e).1;have lim:s.heap.NoLimit:=e0.mod.nolimit.keeps λb o e=>(e0.bs b o e).1;have hkind:∀y∈ps.zip us,scope.names.lookup y.1=some .local\/(scope.names.lookup y.1=some .cell/\((cellsFrom (s.heap.objs.size+1) scope.names []).lookup y.1).isSome=true):=λ⟨n,v⟩ hy=>by
   rcases S.par n (la hy).1 with q | q
   . exact .inl q
   . exact .inr ⟨q,cellsFrom_some _ _ _ (.inl q)⟩
 refine codeAny_call_function hr.depth (KX _ _ lk) rfl S.co S.gen rfl (PySem.W.codeRec_of KX hcd) (hb _ _ _ _ ?_);refine wpAny_newFunctionEnv_cells S.kind hkind λenv he s1 x=>?_;subst he;refine⟨lim.keeps x.toInCall.keep,codeAny_func ?_⟩;obtain⟨t,ht,hq⟩:=hbody A outer s H vs Q E (hr.deeper _) hsp;have I:Inv (cxOf CX P w K mg base N qual scope f cdv A outer s H E) [] (start N vs) H s1:=ZO S e0 hl r x;refine qW (ht [] s1 (start N vs) H _ I hq) (λfl s' hs=>?_) λe s' hs=>hs;have fin:∀{σ':St} {H':Hp} {v:V} {u:qG},Inv (cxOf CX P w K mg base N qual scope f cdv A outer s H E) [] σ' H' s'->RelV v u->Q v H'->CE outer P w H s Q u s' :=
   λ{σ' H' v u} J rv q=>⟨v,H',J.os,J.bare,J.base,J.hok,rv,q⟩
 cases fl with
 | ret u =>
   obtain⟨v,σ',H',J,rv,q⟩:=hs;exact fin J rv q
 | next =>
   obtain⟨σ',H',J,q⟩:=hs;exact fin (v:=V.non) (u:=Value.none) J rfl q
 | brk =>
   obtain⟨_,_,_,q⟩:=hs;exact dj q
 | cont =>
   obtain⟨_,_,_,q⟩:=hs;exact dj q
section
variable {X:Cx}{x:Str}{p pos:Pos}{e:qN}{es:List qN}{t:TA}{id T:String}{r:List V->Hp->VK->Prop}
def tCB(r:List V->Hp->VK->Prop)(t:TA):TE:=λσ H Q=>t σ H λvs H1=>r vs H1 Q
theorem A9(hc:DW X (.builtin id) r)(hg:Gl X x)(hm:X.mg x=none)(hv:bootBuiltins x=some (.builtin id))(ha:PA X (e::es) t)(hn:x≠"__name__":=by decide)(hdb:(x==("__debug__":Str))=false:=by decide)
   (he:qR (e::es) X.env=(false,rh e X.env)::qR es X.env:=by rfl) (hpl:(qY pos (qR es X.env)).any (·.1)=false:=by rfl):PE X (.Call (.Name x p) (e::es) [] pos) (tCB r t):=by
 intro pins s σ H Q I h;refine wpAny_Call_Name_kw (E7 I hg hm hv ?_ hn hdb);exact oj (thn (ha pos pins s σ H _ I h) λus s1 ⟨vs,H1,I1,r1,q1⟩=>hc pins s1 σ H1 vs us Q I1 r1 q1) he hpl
theorem Fa(hc:DW X (.type T) r)(hg:Gl X x)(hm:X.mg x=none)(hv:bootBuiltins x=some (.type T))(ha:PA X (e::es) t)(hn:x≠"__name__":=by decide)(hdb:(x==("__debug__":Str))=false:=by decide)
   (he:qR (e::es) X.env=(false,rh e X.env)::qR es X.env:=by rfl) (hpl:(qY pos (qR es X.env)).any (·.1)=false:=by rfl):PE X (.Call (.Name x p) (e::es) [] pos) (tCB r t):=by
 intro pins s σ H Q I h;refine wpAny_Call_Name_kw (E7 I hg hm hv ?_ hn hdb);exact fk (thn (ha pos pins s σ H _ I h) λus s1 ⟨vs,H1,I1,r1,q1⟩=>hc pins s1 σ H1 vs us Q I1 r1 q1) he hpl
end
end L2
namespace HT
open PySem PyProof.Rows
def lexLt:List Int->List Int->Bool
 | [],[]=>false
 | [],_::_=>true
 | _::_,[]=>false
 | x::xs,y::ys=>if x=y then lexLt xs ys else decide (x<y)
theorem ZP(x y:Int)(xs ys:List Int):lexLt (x::xs) (y::ys)=if x=y then lexLt xs ys else decide (x<y):=rfl
theorem ZQ:lexLt [] []=false:=rfl
theorem ZR(y:Int)(ys:List Int):lexLt [] (y::ys)=true:=rfl
theorem ZS(x:Int)(xs:List Int):lexLt (x::xs) []=false:=rfl
theorem ZT(A:qM)(s:qI)(a:Int)(t:Tok)(c:Int)(u:Tok):∃e,SeqAt.EqAt A s (.int a t) (.int c u) e/\(e=true↔a=c) :=
 ⟨(a==c),mw a t c u,by simp⟩
theorem ZU(A:qM)(s:qI)(a:Int)(t:Tok)(c:Int)(u:Tok)(prog:qK)(w:qL)(E:qG->qI->Prop)(Q:qG->qI->Prop)(h:Q (.bool (decide (a<c))) s):
   qX (rj prog w) A (richCompare .Lt (.int a t) (.int c u)) Q E s :=
 (qv h:qX (rj prog w) A (rc .Lt (.int a t) (.int c u)) Q E s)
section
open PySem.SeqAt
open PySem.AutoSeq1 (wpAny_loadPart')
open PySem.MeetsSeq PySem.MeetsSeq2 PySem.MeetsSeq3
theorem ZV(l b:qH)(items items2:Array qG)(n n2:Nat)(dd dd2:Option qH)(sl sl2:Array (Option qG))(ns ms:List Int)(hi:IntsAre items.toList ns)(hj:IntsAre items2.toList ms):
   Meets (Builtin.«tuple.__lt__» ⟨[.ref l,.ref b],[]⟩)
     (λ_ R s=>s.heap.get? l=some { cls:=.type "tuple",dict:=dd,data:=.seq items n,slots:=sl }/\s.heap.get? b=some { cls:=.type "tuple",dict:=dd2,data:=.seq items2 n2,slots:=sl2 } /\
       R (.ok (.ret (.bool (lexLt ns ms)))) s) :=
 .of_wp λprog w A R s h=>by
   obtain⟨hp,g,d,tk,os⟩:=s;obtain⟨hl,hb,h⟩:=h
   have f2:=AutoSeq1.sub_tuple_tuple
   have z1:items.size=ns.length:=by rw[<-hi.length];simp
   have z2:items2.size=ms.length:=by rw[<-hj.length];simp
   wp_walk using wpAny_loadPart' hl,wpAny_loadPart' hb,wpAny_forIn_list _ (λtO b s'=>b.1=none/\s'=⟨hp,g,d,tk,os⟩/\∃(vs ws:List qG) (ns' ms':List Int),tO=vs.zip ws /\
     IntsAre vs ns'/\IntsAre ws ms'/\ns'.length+items2.size=ms'.length+items.size/\R (.ok (.ret (.bool (lexLt ns' ms')))) ⟨hp,g,d,tk,os⟩) _
   case turn =>
     rintro⟨y,x⟩ tO b s' ⟨hb',rfl,vs,ws,ns',ms',hz,hvi,hwi,hlen,hR⟩
     cases hvi with
     | nil=>rw[List.zip_nil_left] at hz;cases hz
     | cons a t hvi' =>
       cases hwi with
       | nil=>rw[List.zip_nil_right] at hz;cases hz
       | cons c u hwi' =>
         rw[jm] at hz
         injection hz with hyx hrest
         injection hyx with hy hx
         subst hy hx
         rw[ZP] at hR
         simp only [au] at hlen
         obtain⟨e,he,hiff⟩:=ZT A.in1 ⟨hp,g,d,tk,os⟩ a t c u
         refine qU (he prog w _ _ ?_)
         cases e with
         | true =>
           rw[if_pos (hiff.mp rfl)] at hR
           wp_walk
           exact⟨rfl,rfl,_,_,_,_,hrest,hvi',hwi',by omega,hR⟩
         | false =>
           rw[if_neg (λq=>absurd (hiff.mpr q) η)] at hR
           have hri:=ZU A.in1 ⟨hp,g,d,tk,os⟩ a t c u prog w
           wp_walk using hri
           exact⟨_,rfl,by simpa using hR⟩
   case fin =>
     rintro⟨b1,b2⟩ s' ⟨hb',rfl,vs,ws,ns',ms',hz,hvi,hwi,hlen,hR⟩
     simp only at hb'
     subst hb'
     have hv:lexLt ns' ms'=decide (items.size<items2.size):=by
       cases hvi with
       | nil =>
         cases hwi with
         | nil =>
           simp only [gb] at hlen;rw[ZQ];exact(decide_eq_false (by omega)).symm
         | cons c u hw =>
           simp only [gb,au] at hlen;rw[ZR];exact(decide_eq_true (by omega)).symm
       | cons a t hv =>
         cases hwi with
         | nil =>
           simp only [gb,au] at hlen;rw[ZS];exact(decide_eq_false (by omega)).symm
         | cons c u hw =>
           rw[jm] at hz;cases hz
     rw[hv] at hR
     wp_walk
     exact⟨_,rfl,by simpa [Builtin.Tuple.tupleCompareSizes] using hR⟩
   case h =>
     exact⟨rfl,rfl,items.toList,items2.toList,ns,ms,rfl,hi,hj,by omega,h⟩
end
section
variable {prog:qK}{w:qL}{A:qM}{E:qG->qI->Prop}{s:qI}
theorem lt_tupInts{l b:qH}{items items2:Array qG}{ns ms:List Int}{Q:qG->qI->Prop}(hl:IsTup s.heap l items)(hb:IsTup s.heap b items2)(hi:IntsAre items.toList ns)(hj:IntsAre items2.toList ms)
   (hu:A.units<rl) (h:Q (.bool (lexLt ns ms)) s):qX (rj prog w) A (rc .Lt (.ref l) (.ref b)) Q E s:=by
 obtain⟨⟨cls,dd,data,sl⟩,ho,hc,n,hd⟩:=id hl;obtain⟨⟨cls2,dd2,data2,sl2⟩,Ni,hc2,n2,hd2⟩:=id hb;simp only at hc hd hc2 hd2;subst hc hd hc2 hd2;exact richCompare_meets_room (op:=.Lt) ⟨_,ho,rfl⟩ ⟨_,Ni,rfl⟩ PySem.F.slot_tuple_lt PySem.F.entry_tuple_lt (PySem.F.args_tuple_lt_2 _ _) (ZV l b items items2 n n2 dd dd2 sl sl2 ns ms hi hj)
   ⟨ho,Ni,show Value.bool (lexLt ns ms)≠Value.notImplemented/\Q (.bool (lexLt ns ms)) s from ⟨(λx=>nomatch x),h⟩⟩ hu
def sIx(n d:Nat):Option Int->Nat
 | none=>d
 | some v=>if v<0 then (v+(n:Int)).toNat else min v.toNat n
theorem sIx_none(n d:Nat):sIx n d none=d:=rfl
theorem sIx_nat(n d k:Nat):sIx n d (some (k:Int))=min k n:=by
 show (if (k:Int)<0 then ((k:Int)+(n:Int)).toNat else min (k:Int).toNat n)=min k n;rw[if_neg (by omega),dr]
end
end HT
namespace L2
open PySem PySem.Spec PyProof.Rows
abbrev TO:=St->Hp->(Option Int->Hp->Prop)->Prop
def PO(X:Cx)(e:Option qN)(t:TO):Prop :=
 ∀(pins:List (qH×Obj)) (s:qI) (σ:St) (H:Hp) (Q:Option Int->Hp->Prop),Inv X pins σ H s->t σ H Q ->
   qX (rj X.prog X.w) X.A (evalPart e X.env) (λu s'=>∃o H',Inv X pins σ H' s'/\IsPart u o/\Q o H') X.xe s
def V6:TO:=λ_ H Q=>Q none H
def uL(t:TE):TO:=λσ H Q=>t σ H λx H1=>∃i,x = .int i/\Q (some i) H1
theorem Ih{ns:List Int}:∀{us:List qG},Vals (ns.map V.int) us->IntsAre us ns:=by
 induction ns with
 | nil=>intro us r;rw[jj] at r;cases r;exact .nil
 | cons n ns ih =>
   intro us r;rw[ar] at r;cases r with
   | cons r1 r2 =>
     obtain⟨t,e⟩:=r1;subst e;exact .cons n t (ih r2)
section
variable {X:Cx}{e:qN}{te:TE}{lo hi:Option qN}{tl th:TO}{pos p2:Pos}
theorem P6:PO X none V6:=by
 intro pins s σ H Q I h;rw[evalPart_none];exact qV ⟨none,H,I,.none,h⟩
theorem FK(h:PE X e te):PO X (some e) (uL te):=by
 intro pins s σ H Q I hw;rw[evalPart_some];refine thn (h pins s σ H _ I hw) λu s1 ⟨x,H1,I1,r1,q1⟩=>?_;obtain⟨i,rfl,q⟩:=q1;obtain⟨t,rfl⟩:=r1;exact⟨some i,H1,I1,.int i t,q⟩
def SlR(X:Cx)(r:V->Option Int->Option Int->Hp->VK->Prop):Prop :=
 ∀(pins:List (qH×Obj)) (s:qI) (σ:St) (H:Hp) (x:V) (v vl vu:qG) (lo hi:Option Int) (sl:qH) (Q:VK),Inv X pins σ H s->RelV x v->s.heap.IsSliceOf sl vl vu .none->IsPart vl lo->IsPart vu hi->r x lo hi H Q ->
   ∃T id,typeLookup (.type T) "__getitem__"=pure (some (.builtin id))/\s.TypeIs v T/\qX (rj X.prog X.w) X.A (getItem v (.ref sl)) (EP X pins σ Q) X.xe s
def tSl(r:V->Option Int->Option Int->Hp->VK->Prop)(te:TE)(tl th:TO):TE:=λσ H Q=>te σ H λx H1=>tl σ H1 λl H2=>th σ H2 λu H3=>r x l u H3 Q
theorem Jn{r:V->Option Int->Option Int->Hp->VK->Prop}(hr:SlR X r)(he:PE X e te)(hl:PO X lo tl)(hu:PO X hi th):PE X (.Subscript e (.Slice lo hi none p2) pos) (tSl r te tl th):=by
 intro pins s σ H Q I h;refine Subscript_ (thn (he pins s σ H _ I h) λv s1 ⟨x,H1,I1,r1,q1⟩=>?_);refine wpAny_Slice (thn (hl pins s1 σ H1 _ I1 q1) λvl s2 ⟨l,H2,I2,pl,q2⟩=>thn (hu pins s2 σ H2 _ I2 q2) λvu s3 ⟨u,H3,I3,pu,q3⟩=>?_);rw[evalPart_none];refine qV ?_;have I4:Inv X pins σ H3 { s3 with heap:=s3.heap.push { cls:=.type "slice",data:=.fields #[vl,vu,.none] } }:=I3.kept (t':=s3.toks) λb ob q=>ζ _ q;obtain⟨T,id,hT,ht,hg⟩:=hr pins { s3 with heap:=s3.heap.push { cls:=.type "slice",data:=.fields #[vl,vu,.none] } } σ H3 x v vl vu l u s3.heap.objs.size Q I4 r1 (Heap.IsSliceOf.new ..) pl pu q3;show qX (rj X.prog X.w) X.A (subscriptTail e (.Slice lo hi none p2) v (.ref s3.heap.objs.size)) (EP X pins σ Q) X.xe { s3 with heap:=s3.heap.push { cls:=.type "slice",data:=.fields #[vl,vu,.none] } };exact tail_any (ops:=[.ref s3.heap.objs.size,v]) ht hT hg (by with_unfolding_all rfl)
def uC(xs:List V)(lo hi:Option Int):List V:=(xs.drop (HT.sIx xs.length 0 lo)).take (HT.sIx xs.length xs.length hi-HT.sIx xs.length 0 lo)
theorem ZW(xs:List V)(lo hi:Option Int):(uC xs lo hi).length<=xs.length:=by
 unfold uC;rw[ag,fe];omega
end
def ixN(n:Nat)(i:Int):Option Nat:=if 0<=i then (if i<n then some i.toNat else none) else if -(n:Int)<=i then some (i+n).toNat else none
def atI{α:Type}(xs:List α)(i:Int):Option α:=(ixN xs.length i).bind λj=>xs[j]?
theorem V7{n:Nat}{i:Int}{j:Nat}(h:ixN n i=some j):seqIndex? i n=some j/\j<n/\-(n:Int)<=i/\i<n:=by
 unfold ixN at h;by_cases h0:0<=i
 . rw[if_pos h0] at h;by_cases h1:i<n
   . rw[if_pos h1] at h;have e:i.toNat=j:=ae h;exact⟨by rw[seqIndex_of h0 h1,e],by omega,by omega,h1⟩
   . rw[if_neg h1] at h;cases h
 . rw[if_neg h0] at h;by_cases h1 : -(n:Int)<=i
   . rw[if_pos h1] at h;have e:(i+n).toNat=j:=ae h;exact⟨by rw[seqIndex_neg (by omega) h1,e],by omega,h1,by omega⟩
   . rw[if_neg h1] at h;cases h
theorem V8{α:Type}{xs:List α}{i:Int}{v:α}(h:atI xs i=some v):∃j,seqIndex? i xs.length=some j/\xs[j]?=some v/\j<xs.length/\-(xs.length:Int)<=i/\i<xs.length:=by
 unfold atI at h;cases e:ixN xs.length i with
 | none=>rw[e] at h;cases h
 | some j =>
   rw[e] at h;obtain⟨h1,h2,h3,h4⟩:=V7 e;exact⟨j,h1,h,h2,h3,h4⟩
theorem ZX{α:Type}{xs:List α}{j:Nat}{v:α}(h:xs[j]?=some v):atI xs (j:Int)=some v:=by
 have hj:j<xs.length:=(δ.mp h).1;have e:ixN xs.length (j:Int)=some j:=by
   unfold ixN;rw[if_pos (by omega),if_pos (by omega)];simp
 unfold atI;rw[e];exact h
theorem ZY{α:Type}(xs:List α)(v:α):atI (xs++[v]) (-1)=some v:=by
 have hl:(xs++[v]).length=xs.length+1:=by simp
 have e:ixN (xs++[v]).length (-1)=some xs.length:=by
   unfold ixN;rw[hl,if_neg (by decide),if_pos (by omega)]
   congr 1
   omega
 unfold atI;rw[e];show (xs++[v])[xs.length]?=some v;simp
def ZZ(b:qN):Prop:=∀o i,subscripted b false o i=operate [o,i] (getItem o i)
def IxR(X:Cx)(r:R2):Prop :=
 ∀(value slice:qN) (pins:List (qH×Obj)) (s:qI) (σ:St) (H:Hp) (x y:V) (v u:qG) (Q:VK),Inv X pins σ H s->RelV x v->RelV y u->r x y H Q ->
   subscripted slice false v u=operate [v,u] (getItem v u)->qX (rj X.prog X.w) X.A (subscriptTail value slice v u) (EP X pins σ Q) X.xe s
def MtR(X:Cx)(id:String)(r:V->List V->Hp->VK->Prop):Prop :=
 ∀(pins:List (qH×Obj)) (s:qI) (σ:St) (H:Hp) (x:V) (xs:List V) (v:qG) (us:List qG) (Q:VK),Inv X pins σ H s->RelV x v->Vals xs us->r x xs H Q ->
   qX (rj X.prog X.w) X.A (call (.builtin id) (v::us)) (EP X pins σ Q) X.xe s
section
variable {X:Cx}{a b:qN}{ta tb:TE}{pos:Pos}
theorem AM{r:R2}(hr:IxR X r)(ha:PE X a ta)(hb:PE X b tb)(hs:ZZ b):PE X (.Subscript a b pos) (tOp r ta tb):=by
 intro pins s σ H Q I h;exact Subscript_ (binT ha hb I h λv u s2 x y H2 I2 rx ry q=>hr a b pins s2 σ H2 x y v u Q I2 rx ry q (hs _ _))
def va(K:γ):R2:=λx y H Q=>∃p xs i v,x = .ref p/\y = .int i/\SqL K H p xs/\atI xs i=some v/\Q v H
def rIxT(K:γ):R2:=λx y H Q=>∃p xs i v,x = .ref p/\y = .int i/\SqT K H p xs/\atI xs i=some v/\Q v H
theorem Bf:IxR X (va X.K):=by
 intro value slice pins s σ H x y v u Q I rx ry h hs;obtain⟨p,xs,i,z,rfl,rfl,hq,he,q⟩:=h;cases rx;obtain⟨t,rfl⟩:=ry;obtain⟨its,r,pl,hz⟩:=I.list hq;obtain⟨j,h1,h2,h3,h4,h5⟩:=V8 he;obtain⟨w,ew,rw'⟩:=r.get h2;have hl:=r.length;have hn:=Jl;have fin:EP X pins σ Q w s:=⟨z,H,I,rw',q⟩
 by_cases h0:0<=i
 . have hj:i.toNat=j:=by
     rw[seqIndex_of h0 h5] at h1;exact ae h1
   exact item_listR pl.isList h0 (by omega) (by rw[hj];simpa using ew) fin hs
 . have hj:(i+(its.toArray.size:Int)).toNat=j:=by
     rw[seqIndex_neg (by omega) h4] at h1;rw[ν,<-hl];exact ae h1
   exact subscriptTail_builtinR (x:=w) pl.isList.typeIs slot_list_getitem.lookup
     (wpAny_getItem_list_neg (Q:=λr s'=>r=w/\EP X pins σ Q r s') pl.isList (by omega) (by rw[ν] <;> omega) (by omega) (by rw[hj];simpa using ew) ⟨rfl,fin⟩) hs
theorem DJ:IxR X (rIxT X.K):=by
 intro value slice pins s σ H x y v u Q I rx ry h hs;obtain⟨p,xs,i,z,rfl,rfl,hq,he,q⟩:=h;cases rx;obtain⟨t,rfl⟩:=ry;obtain⟨its,r,pl,hz⟩:=I.tuple hq;obtain⟨j,h1,h2,h3,h4,h5⟩:=V8 he;obtain⟨w,ew,rw'⟩:=r.get h2;have hl:=r.length;have hn:=Jl;have fin:EP X pins σ Q w s:=⟨z,H,I,rw',q⟩
 exact subscriptTail_builtinR (x:=w) pl.typeIs slot_tuple_getitem.lookup
   (getItem_tuple (j:=j) (Q:=λr s'=>r=w/\EP X pins σ Q r s') pl (by omega) (by omega) (by rw[ν,<-hl];exact h1) (by simpa using ew) ⟨rfl,fin⟩) hs
theorem Z0(its:List qG)(n j:Nat)(u:qG):ja (·.setIfInBounds j u) { cls:=.type "list",data:=.seq its.toArray n }={ cls:=.type "list",data:=.seq (its.set j u).toArray n }:=by
 simp [ja]
theorem Inv.lst{pins:List (qH×Obj)}{σ:St}{H:Hp}{s:qI}{p:qH}{xs:List V}(I:Inv X pins σ H s)(h:H p=some (.lst xs)):
   ∃(its:List qG) (n:Nat),Vals xs its/\s.heap.get? p=some { cls:=.type "list",data:=.seq its.toArray n }/\xs.length<=qT:=by
 obtain⟨z,its,n,r,e⟩:=I.hok p _ h;exact⟨its,n,r,e,z⟩
theorem Inv.lstUpd{pins:List (qH×Obj)}{σ:St}{H:Hp}{s:qI}{p:qH}{xs ys:List V}{its its':List qG}{n n':Nat}{f:Obj->Obj}(I:Inv X pins σ H s)(h:H p=some (.lst xs))
   (ho:s.heap.get? p=some { cls:=.type "list",data:=.seq its.toArray n }) (hf:f { cls:=.type "list",data:=.seq its.toArray n }={ cls:=.type "list",data:=.seq its'.toArray n' }) (r:Vals ys its') (hz:ys.length<=qT) (t:Nat):
   Inv X pins σ (upd H p (.lst ys)) { s with heap:=s.heap.update p f,toks:=t }:=by
 have e:(s.heap.update p f).get? p=some { cls:=.type "list",data:=.seq its'.toArray n' }:=by
   rw[bb f ho (by rw[hf] <;> rfl),hf]
 refine I.write (x:=p) (e:=p) (by rw[h];trivial) (.inl rfl) (λb u hb q=>(ω _ _ (bd hb)).trans q) ⟨_,e⟩ ?_;exact⟨hz,its',n',r,e⟩
def P7:V->V->V->Hp->(Hp->Prop)->Prop:=λo i v H Q=>∃p xs k j,o = .ref p/\i = .int k/\H p=some (.lst xs)/\ixN xs.length k=some j/\Q (upd H p (.lst (xs.set j v)))
theorem Ii:PSet X P7:=by
 intro pins s σ H o i v ov iv u Q I ro ri rv h;obtain⟨p,xs,k,j,rfl,rfl,hp,hj,q⟩:=h;cases ro;obtain⟨t,rfl⟩:=ri;obtain⟨its,n,r,ho,hz⟩:=I.lst hp;obtain⟨h1,h2,h3,h4⟩:=V7 hj;have hl:=r.length;have hn:=Jl;have I':Inv X pins σ (upd H p (.lst (xs.set j v))) { s with heap:=s.heap.update p (ja (·.setIfInBounds j u)) } :=
   I.lstUpd hp ho (Z0 its n j u) (r.set rv j) (by rw[eg];exact hz) s.toks
 by_cases h0:0<=k
 . have hk:k.toNat=j:=by
     rw[seqIndex_of h0 h4] at h1;exact ae h1
   exact PySem.W.ki_setAt ho h0 (by omega) (by rw[ν,<-hl];exact h4) (by rw[hk];exact⟨_,I',q⟩)
 . have hk:(k+(its.toArray.size:Int)).toNat=j:=by
     rw[seqIndex_neg (by omega) h3] at h1;rw[ν,<-hl];exact ae h1
   exact PySem.W.ki_setBack ho (by omega) (by rw[ν,<-hl];exact h3) (by omega) (by rw[hk];exact⟨_,I',q⟩)
theorem Z1(lo hi:Option Int)(n:Nat):(sliceBounds lo hi none n).1=((HT.sIx n 0 lo:Nat):Int)/\(sliceBounds lo hi none n).2.1=((HT.sIx n n hi:Nat):Int)/\(sliceBounds lo hi none n).2.2=1:=by
 refine⟨?_,?_,rfl⟩
 . cases lo with
   | none=>simp [sliceBounds,HT.sIx]
   | some i =>
     simp only [sliceBounds,HT.sIx,om,show (1:Int)>0 by decide,if_true];by_cases h:i<0
     . simp only [h,if_true] <;> omega
     . simp only [h,if_false] <;> omega
 . cases hi with
   | none=>simp [sliceBounds,HT.sIx]
   | some i =>
     simp only [sliceBounds,HT.sIx,om,show (1:Int)>0 by decide,if_true];by_cases h:i<0
     . simp only [h,if_true] <;> omega
     . simp only [h,if_false] <;> omega
theorem Z2(its:List qG)(lo hi:Option Int):slicePick its.toArray lo hi none=((its.drop (HT.sIx its.length 0 lo)).take (HT.sIx its.length its.length hi-HT.sIx its.length 0 lo)).toArray:=by
 obtain⟨h1,h2,h3⟩:=Z1 lo hi its.toArray.size;unfold slicePick;rw[h1,h2,h3];simp only [sliceRange_one,pick_run,ν] <;> rfl
def rSlL(K:γ):V->Option Int->Option Int->Hp->VK->Prop:=λx lo hi H Q=>∃a xs,x = .ref a/\SqL K H a xs/\∀p,H p=none->Q (.ref p) (upd H p (.lst (uC xs lo hi)))
theorem Nu:SlR X (rSlL X.K):=by
 intro pins s σ H x v vl vu lo hi sl Q I rx hs pl pu h;obtain⟨a,xs,rfl,hx,q⟩:=h;cases rx;obtain⟨its,r,ht,hz⟩:=I.list hx;have hlen:=r.length;refine⟨"list",_,slot_list_getitem.lookup,ht.isList.typeIs,?_⟩;refine wpAny_getItem_list_slice ht.isList hs pl pu .none (by simp) ?_ (by rw[ν] <;> omega);rw[Z2,<-hlen];refine⟨.ref s.heap.objs.size,_,I.laid (t':=s.toks) (o:=.lst (uC xs lo hi)) (λb ob q=>ζ _ q) (Θ _) ?_,rfl,q _ (I.hok.fresh (Θ _))⟩;exact⟨bp (ZW xs lo hi) hz,_,0,(r.drop (HT.sIx xs.length 0 lo)).take (HT.sIx xs.length xs.length hi-HT.sIx xs.length 0 lo),Ω _ rfl⟩
def Bt:V->Bool
 | .non=>true
 | .bl _=>true
 | .int _=>true
 | .str _=>true
 | _=>false
def eqV:V->V->Bool
 | .non,.non=>true
 | .bl a,.bl b=>a==b
 | .bl a,.int b=>(if a then 1 else 0)==b
 | .int a,.bl b=>a==(if b then 1 else 0)
 | .int a,.int b=>a==b
 | .str a,.str b=>a==b
 | _,_=>false
theorem Nv{A:qM}{s:qI}{y x:V}{u v:qG}(ry:RelV y u)(rx:RelV x v)(fy:Bt y=true)(fx:Bt x=true):SeqAt.EqAt A s u v (eqV y x):=by
 cases y with
 | non =>
   cases ry;cases x with
   | non=>cases rx;exact jd _
   | bl b=>cases rx;exact qo b
   | int b=>obtain⟨t,rfl⟩:=rx;exact qw b t
   | str b=>obtain⟨t,rfl⟩:=rx;exact qx b t
   | _=>exact absurd (show false=true from fx) η
 | bl a =>
   cases ry;cases x with
   | non=>cases rx;exact qp a
   | bl b=>cases rx;exact qq a b
   | int b=>obtain⟨t,rfl⟩:=rx;exact qy a b t
   | str b=>obtain⟨t,rfl⟩:=rx;exact qz a b t
   | _=>exact absurd (show false=true from fx) η
 | int a =>
   obtain⟨t',rfl⟩:=ry;cases x with
   | non=>cases rx;exact qA a t'
   | bl b=>cases rx;exact qB a t' b
   | int b=>obtain⟨t,rfl⟩:=rx;exact mw a t' b t
   | str b=>obtain⟨t,rfl⟩:=rx;exact mo a t' b t
   | _=>exact absurd (show false=true from fx) η
 | str a =>
   obtain⟨t',rfl⟩:=ry;cases x with
   | non=>cases rx;exact qC a t'
   | bl b=>cases rx;exact qD a t' b
   | int b=>obtain⟨t,rfl⟩:=rx;exact mq a t' b t
   | str b=>obtain⟨t,rfl⟩:=rx;exact qE a t' b t
   | _=>exact absurd (show false=true from fx) η
 | _=>exact absurd (show false=true from fy) η
def eqU(x:V)(u:qG):Bool:=match u with
 | .none=>eqV .non x
 | .bool b=>eqV (.bl b) x
 | .int i _=>eqV (.int i) x
 | .str z _=>eqV (.str z) x
 | _=>false
theorem V9{x y:V}{u:qG}(r:RelV y u)(f:Bt y=true):eqU x u=eqV y x:=by
 cases y with
 | non=>cases r;rfl
 | bl b=>cases r;rfl
 | int i=>obtain⟨t,rfl⟩:=r;rfl
 | str z=>obtain⟨t,rfl⟩:=r;rfl
 | _=>exact absurd (show false=true from f) η
theorem P8{x:V}:∀{xs:List V} {us:List qG},Vals xs us->xs.all Bt=true->us.any (eqU x)=xs.any λy=>eqV y x
 | _,_,.nil,_=>rfl
 | y::xs,u::us,.cons r t,f=>by
   rw[pX,gm] at f
   rw[gr,gr,V9 r f.1,P8 t f.2]
theorem P9{A:qM}{s:qI}{x:V}{v:qG}(rx:RelV x v)(fx:Bt x=true):∀{xs:List V} {us:List qG},Vals xs us->xs.all Bt=true->∀u∈us,SeqAt.EqAt A s u v (eqU x u)
 | _,_,.nil,_=>λu hu=>by cases hu
 | y::xs,u::us,.cons r t,f=>λu' hu=>by
   rw[pX,gm] at f
   rcases χ.mp hu with rfl | hu
   . rw[V9 r f.1];exact Nv r rx f.1 fx
   . exact P9 rx fx t f.2 u' hu
def inV(x:V)(xs:List V):Bool:=xs.any λy=>eqV y x
def rIn(K:γ)(neg:Bool):R2:=λx y H Q=>∃p xs,y = .ref p/\(SqL K H p xs\/SqT K H p xs)/\Bt x=true/\xs.all Bt=true/\Q (.bl (if neg then !inV x xs else inV x xs)) H
theorem Qa:OpR X (rc .In) (rIn X.K false):=by
 intro pins s σ H x y v u Q I rx ry h;obtain⟨p,xs,rfl,hq,fx,fs,q⟩:=h;cases ry;rcases hq with hq | hq
 . obtain⟨its,r,pl,hz⟩:=I.list hq;refine SeqAt.in_listAt (eqU x) pl.isList (λw hw=>P9 rx fx r fs w (by simpa using hw)) ⟨.bl _,H,I,rfl,?_⟩;rw[show its.toArray.any (eqU x)=its.any (eqU x) by simp,P8 r fs];exact q
 . obtain⟨its,r,pl,hz⟩:=I.tuple hq;refine SeqAt.in_tupleAt (eqU x) pl (λw hw=>P9 rx fx r fs w (by simpa using hw)) ⟨.bl _,H,I,rfl,?_⟩;rw[show its.toArray.any (eqU x)=its.any (eqU x) by simp,P8 r fs];exact q
theorem DX:DW X (.builtin "len") (λxs H Q=>∃p ys,xs=[.ref p]/\(SqL X.K H p ys\/SqT X.K H p ys)/\Q (.int ys.length) H):=by
 intro pins s σ H xs us Q I r h;obtain⟨p,ys,rfl,hq,q⟩:=h;obtain⟨u,rfl,rx⟩:=Ic r;cases rx;have hn:=Jl;rcases hq with hq | hq
 . obtain⟨its,r',pl,hz⟩:=I.list hq;have hlen:=r'.length;exact Calls.call_len_list pl.isList (by simp only [ν] <;> omega) ⟨.int ys.length,H,I.tok _,⟨s.toks+1,by rw[ν,hlen]⟩,q⟩
 . obtain⟨its,r',pl,hz⟩:=I.tuple hq;have hlen:=r'.length;exact len_tuple pl (by simp only [ν] <;> omega) ⟨.int ys.length,H,I.tok _,⟨s.toks+1,by rw[ν,hlen]⟩,q⟩
theorem Ij:DW X (.type "list") (λxs H Q=>∃p ys,xs=[.ref p]/\(SqL X.K H p ys\/SqT X.K H p ys)/\∀l,H l=none->Q (.ref l) (upd H l (.lst ys))):=by
 intro pins s σ H xs us Q I r h;obtain⟨p,ys,rfl,hq,q⟩:=h;obtain⟨u,rfl,rx⟩:=Ic r;cases rx;have fin:∀(its:List qG),Vals ys its->ys.length<=qT->∀(h':rB) (c':Nat),(∀b o',s.heap.get? b=some o'->h'.get? b=some o') ->
     h'.get? s.heap.objs.size=some { cls:=.type "list",dict:=none,data:=.seq its.toArray c',slots:=#[] }->EP X pins σ Q (.ref s.heap.objs.size) { s with heap:=h' }:=λits r' hz h' c' kp e =>
   ⟨.ref s.heap.objs.size,_,I.laid (t':=s.toks) kp (Θ _) (show A8 X.prog X.w _ h' _ (.lst ys) from ⟨hz,its,c',r',e⟩),rfl,q _ (I.hok.fresh (Θ _))⟩
 rcases hq with hq | hq
 . obtain⟨its,r',pl,hz⟩:=I.list hq;have hlen:=r'.length;obtain⟨o,ho,hc,n,hd⟩:=pl.isList;exact call_list_seq p (.inl rfl) ho hc hd (λh' c' kp e=>fin its r' hz h' c' kp e) (by simp only [ν] <;> omega)
 . obtain⟨its,r',pl,hz⟩:=I.tuple hq;have hlen:=r'.length;obtain⟨o,ho,hc,n,hd⟩:=pl;exact call_list_seq p (.inr rfl) ho hc hd (λh' c' kp e=>fin its r' hz h' c' kp e) (by simp only [ν] <;> omega)
def tyV(K:γ)(T:String)(x:V)(H:Hp):Prop:=match x with
 | .str _=>T="str"
 | .int _=>T="int"
 | .ref p=>(T="list"/\∃xs,SqL K H p xs)\/(T="tuple"/\∃o,K.lookup p=some o/\o.cls = .type "tuple"/\o.dict=none) \/
     (T="dict"/\((∃kvs,H p=some (.dK kvs))\/∃kvs,H p=some (.dT kvs)))\/(T="set"/\∃S n,H p=some (.set S n))
 | _=>False
theorem Wa{pins:List (qH×Obj)}{σ:St}{H:Hp}{s:qI}{T:String}{x:V}{v:qG}(I:Inv X pins σ H s)(r:RelV x v)(ty:tyV X.K T x H):
   s.TypeIs v T/\∀a,v = .ref a->∃ob,s.heap.get? a=some ob/\ob.dict=none:=by
 cases x with
 | str z =>
   obtain⟨t,rfl⟩:=r;cases (show T="str" from ty);exact⟨typeIs_str s z t,λ_ e=>nomatch e⟩
 | int i =>
   obtain⟨t,rfl⟩:=r;cases (show T="int" from ty);exact⟨typeIs_int s i t,λ_ e=>nomatch e⟩
 | ref p =>
   cases r;rcases ty with ⟨rfl,xs,hq⟩ | ⟨rfl,o,hk,hc,hd⟩ | ⟨rfl,hk⟩ | ⟨rfl,S,n,hk⟩
   . obtain⟨its,_,pl,_⟩:=I.list hq;refine⟨pl.isList.typeIs,λa e=>?_⟩;cases e;obtain⟨o,n,e,c,hd,_⟩:=pl;exact⟨o,e,hd⟩
   . refine⟨⟨o,I.kIn p o hk,hc⟩,λa e=>?_⟩;cases e;exact⟨o,I.kIn _ o hk,hd⟩
   . have z:∃o,s.heap.get? p=some o/\o.ExactDict:=by
       rcases hk with ⟨kvs,hk⟩ | ⟨kvs,hk⟩
       . obtain⟨_,_,_,_,o,_,_,e,ex,_⟩:=I.hok p _ hk;exact⟨o,e,ex⟩
       . obtain⟨_,_,_,_,o,_,_,e,ex,_⟩:=I.hok p _ hk;exact⟨o,e,ex⟩
     obtain⟨o,e,ex⟩:=z;refine⟨⟨o,e,ex.1⟩,λa e2=>?_⟩;cases e2;exact⟨o,e,ex.2.1⟩
   . obtain⟨o,_,_,_,e,ex,_⟩:=I.hok p _ hk;refine⟨⟨o,e,ex.1⟩,λa e2=>?_⟩;cases e2;exact⟨o,e,ex.2.1⟩
 | _=>exact dj ty
def tBM0(K:γ)(T:String)(r:V->List V->Hp->VK->Prop)(to:TE):TE:=λσ H Q=>to σ H λx H1=>tyV K T x H1/\r x [] H1 Q
def tBM(K:γ)(T:String)(r:V->List V->Hp->VK->Prop)(to:TE)(t:TA):TE:=λσ H Q=>to σ H λx H1=>tyV K T x H1/\t σ H1 λxs H2=>r x xs H2 Q
variable {o e:qN}{es:List qN}{to:TE}{t:TA}{name:Str}{apos cpos:Pos}{T id:String}{r:V->List V->Hp->VK->Prop}
theorem Wb(pa:PlainAttrs T)(slot:Slot T name id)(hty:typeOf (.builtin id)=pure (.type "method_descriptor"))(hm:MtR X id r)(ho:PE X o to)
   (hbase:attributeBase o name X.env (rh o X.env)=rh o X.env:=by rfl) (hline:(apos.endLine==cpos.line)=true:=by rfl):PE X (.Call (.Attribute o name apos) [] [] cpos) (tBM0 X.K T r to):=by
 intro pins s σ H Q I h;refine wpAny_Call_method0_late hbase hline (thn (ho pins s σ H _ I h) λv s1 ⟨x,H1,I1,r1,ty,q1⟩=>?_);obtain⟨h1,h2⟩:=Wa I1 r1 ty;exact⟨T,id,pa,slot,hty,h1,h2,iq rfl (PySem.evalArgs_none (hm pins s1 σ H1 x [] v [] Q I1 r1 .nil q1))⟩
theorem FL(pa:PlainAttrs T)(slot:Slot T name id)(hty:typeOf (.builtin id)=pure (.type "method_descriptor"))(hm:MtR X id r)(ho:PE X o to)(ha:PA X (e::es) t)
   (hbase:attributeBase o name X.env (rh o X.env)=rh o X.env:=by rfl)
   (hfew:((qY cpos (qR (e::es) X.env)).all (λx=>!x.1)&&(backToKw cpos (keywordEach [] X.env)).all (λx=>x.1.isSome)
     && decide ((e::es).length+([]:List Keyword).length+(if ([]:List Keyword).isEmpty then 0 else 1)<30))=true:=by rfl)
   (hline:(apos.endLine==cpos.line)=true:=by rfl) (hs:qR (e::es) X.env=(false,rh e X.env)::qR es X.env:=by rfl) (hplain:(qY cpos (qR es X.env)).any (·.1)=false:=by rfl):
   PE X (.Call (.Attribute o name apos) (e::es) [] cpos) (tBM X.K T r to t):=by
 intro pins s σ H Q I h;refine wpAny_Call_method_late hbase hfew hline rfl (thn (ho pins s σ H _ I h) λv s1 ⟨x,H1,I1,r1,ty,q1⟩=>?_);obtain⟨h1,h2⟩:=Wa I1 r1 ty;refine⟨T,id,pa,slot,hty,h1,h2,?_⟩;have hA:=ha cpos pins s1 σ H1 _ I1 q1;rw[hs] at hA ⊢;refine iq (by show (false||(qY cpos (qR es X.env)).any (·.1))=false;rw[hplain] <;> rfl) (ly ?_);exact thn hA λus s2 ⟨vs,H2,I2,r2,q2⟩=>hm pins s2 σ H2 x vs v us Q I2 r1 r2 q2
/- xs.append(e),list.index on a module's tuple .. are MtR facts of 06m -/
end
def MtM(X:Cx)(id:String)(r:V->List V->Hp->VK->Prop):Prop :=
 ∀(pins:List (qH×Obj)) (s:qI) (σ:St) (H:Hp) (x:V) (xs:List V) (v:qG) (us:List qG) (Q:VK),Inv X pins σ H s->RelV x v->Vals xs us->r x xs H Q ->
   qX (rj X.prog X.w) X.A (call (.builtin id) (v::us)) (EP X pins σ Q) X.xe s
theorem Vals.one:∀{x:V} {us:List qG},Vals [x] us->∃u,us=[u]/\RelV x u
 | _,_,.cons r .nil=>⟨_,rfl,r⟩
theorem Vals.zero:∀{us:List qG},Vals [] us->us=[]
 | _,.nil=>rfl
theorem Vals.rep{xs:List V}{us:List qG}(h:Vals xs us):∀k:Nat,Vals (aw k xs).flatten (aw k us).flatten
 | 0=>.nil
 | k+1=>by
   rw[db,db,fg,fg]
   exact Vals.append h (Vals.rep h k)
theorem Wc(its:List qG):∀(k:Nat) (acc:List qG),
   mx (λx1 x2=>x1++x2) acc.toArray (aw k its.toArray)=(acc++(aw k its).flatten).toArray
 | 0,acc=>by simp
 | k+1,acc=>by
   have e:acc.toArray++its.toArray=(acc++its).toArray:=by simp
   have e2:(acc++its)++(aw k its).flatten=acc++(aw (k+1) its).flatten:=by
     rw[db,fg,ak]
   rw[<-e2,<-Wc its k (acc++its),<-e,db,bi]
section
variable {X:Cx}{pins:List (qH×Obj)}{σ:St}{H:Hp}{s:qI}{l b:qH}{xs ys zs:List V}
theorem Inv.lset{its its':List qG}{n:Nat}{f:Array qG->Array qG}{t':Nat}(I:Inv X pins σ H s)(hH:H l=some (.lst xs))
   (e:s.heap.get? l=some { cls:=.type "list",data:=.seq its.toArray n }) (hf:f its.toArray=its'.toArray) (hv:Vals ys its') (hz:ys.length<=qT):
   Inv X pins σ (upd H l (.lst ys)) { s with heap:=s.heap.update l (ja f),toks:=t' }:=by
 have q:=PySem.IsL.update e f;rw[hf] at q;refine I.write (x:=l) (e:=l) (by rw[hH];exact trivial) (.inl rfl) (λb' u hb hu=>(ω s.heap (ja f) (bd hb)).trans hu) ⟨_,q⟩ ?_;exact⟨hz,its',_,hv,q⟩
theorem Inv.lnew{its:List qG}{t':Nat}(I:Inv X pins σ H s)(hv:Vals ys its)(hz:ys.length<=qT):
   Inv X pins σ (upd H s.heap.objs.size (.lst ys)) { s with heap:=s.heap.push { cls:=.type "list",data:=.seq its.toArray },toks:=t' } :=
 I.laid (λ_ _ q=>ζ _ q) (Θ _) ⟨hz,its,0,hv,Ω _ rfl⟩
theorem Inv.fresh(I:Inv X pins σ H s):H s.heap.objs.size=none:=I.hok.fresh (Θ _)
theorem Inv.lstM(I:Inv X pins σ H s)(hH:H l=some (.lst xs)):xs.length<=qT/\∃(its:List qG) (n:Nat),Vals xs its/\xs.length=its.length/\s.heap.get? l=some { cls:=.type "list",data:=.seq its.toArray n }:=by
 obtain⟨z,its,n,r,e⟩:=I.hok l _ hH;exact⟨z,its,n,r,r.length,e⟩
theorem Wd{n:Nat}(h:n<=qT):Builtin.List.listTooLong n=false:=by
 unfold Builtin.List.listTooLong;exact decide_eq_false (by omega)
end
section
variable {X:Cx}
def We:V->List V->Hp->VK->Prop:=λx vs H Q=>∃l xs y,x = .ref l/\vs=[y]/\H l=some (.lst xs)/\xs.length<qT/\Q .non (upd H l (.lst (xs++[y])))
theorem Fb:MtM X "list.append" We:=by
 intro pins s σ H x vs v us Q I rx rv h;obtain⟨l,xs,y,rfl,rfl,hH,hz,q⟩:=h;cases rx;obtain⟨u,rfl,ru⟩:=rv.one;obtain⟨z,its,n,r,hl,e⟩:=I.lstM hH;refine call_meets F.slot_list_append ⟨_,e,rfl⟩ F.entry_list_append (F.args_list_append_2 _ _) (PySem.list_append l its.toArray n u (by rw[ν];omega)) ⟨e,?_⟩;refine⟨.non,_,I.lset (its':=its++[u]) hH e (by simp) (r.append (.cons ru .nil)) ?_,rfl,q⟩;rw[π,aj];omega
def Z3:V->List V->Hp->VK->Prop:=λx vs H Q=>∃l b xs zs,x = .ref l/\vs=[.ref b]/\H l=some (.lst xs)/\H b=some (.lst zs)/\xs.length+zs.length<=qT/\Q .non (upd H l (.lst (xs++zs)))
theorem vt:MtM X "list.extend" Z3:=by
 intro pins s σ H x vs v us Q I rx rv h;obtain⟨l,b,xs,zs,rfl,rfl,hH,hB,hz,q⟩:=h;cases rx;obtain⟨u,rfl,ru⟩:=rv.one;cases ru;obtain⟨z,its,n,r,hl,e⟩:=I.lstM hH;obtain⟨z2,its2,n2,r2,hl2,e2⟩:=I.lstM hB;have hsz:its.toArray.size+its2.toArray.size<=qT:=by rw[ν,ν];omega
 have hlong:¬(!its.toArray.isEmpty&&Builtin.List.listTooLong (its.toArray.size+its2.toArray.size))=true:=by
   rw[Wd hsz,ma];exact η
 refine call_meets F.slot_list_extend ⟨_,e,rfl⟩ F.entry_list_extend (F.args_list_extend_2 _ _)
   (AutoSeq1.list_extend_list_list_0 l its.toArray n b its2.toArray n2 hlong (by rw[ν];omega) (by omega)) ⟨e,e2,?_⟩
 refine⟨.non,_,I.lset (its':=its++its2) hH e (by simp) (r.append r2) ?_,rfl,q⟩;rw[π];omega
def v_:R2:=λx y H Q=>∃l b xs zs,x = .ref l/\y = .ref b/\H l=some (.lst xs)/\H b=some (.lst zs)/\xs.length+zs.length<=qT/\∀p,H p=none->Q (.ref p) (upd H p (.lst (xs++zs)))
theorem Fc:OpR X (binaryOp .Add) v_:=by
 intro pins s σ H x y v u Q I rx ry h;obtain⟨l,b,xs,zs,rfl,rfl,hH,hB,hz,q⟩:=h;cases rx;cases ry;obtain⟨z,its,n,r,hl,e⟩:=I.lstM hH;obtain⟨z2,its2,n2,r2,hl2,e2⟩:=I.lstM hB;refine PySem.P.add_list e e2 ?_ (by rw[ν,ν];omega);have ea:its.toArray++its2.toArray=(its++its2).toArray:=by simp
 rw[ea];exact⟨.ref _,_,I.lnew (t':=s.toks) (r.append r2) (by rw[π];omega),rfl,q _ I.fresh⟩
def rRep:R2:=λx y H Q=>∃l k xs,x = .ref l/\y = .int k/\H l=some (.lst xs)/\-(2^63)<=k/\k<2^63/\xs.length*k.toNat<=qT /\
 ∀p,H p=none->Q (.ref p) (upd H p (.lst (aw k.toNat xs).flatten))
theorem Z4{α:Type}(xs:List α)(k:Nat):(aw k xs).flatten.length=k*xs.length:=by
 induction k with
 | zero=>simp
 | succ k ih=>rw[db,fg,π,ih,Nat.succ_mul,Nat.add_comm]
theorem vk:OpR X (binaryOp .Mult) rRep:=by
 intro pins s σ H x y v u Q I rx ry h;obtain⟨l,k,xs,rfl,rfl,hH,h1,h2,hz,q⟩:=h;cases rx;obtain⟨t,rfl⟩:=ry;obtain⟨z,its,n,r,hl,e⟩:=I.lstM hH;have hlen:its.toArray.size*k.toNat<=qT:=by rw[ν,<-hl];exact hz
 have hcap:¬its.toArray.size*k.toNat>(2^63-1)/8:=by
   have:(qT:Nat)<=(2^63-1)/8:=by decide
   omega
 have hfit:¬(!Builtin.List.listFitsIndex k)=true:=by
   rw[fitsIndex_both h1 h2];exact η
 have hlong:¬Builtin.List.listTooLong (its.toArray.size*k.toNat)=true:=by
   rw[Wd hlen];exact η
 have hnew:mx (λx1 x2=>x1++x2) #[] (aw (if its.toArray.isEmpty=true then 0 else k.toNat) its.toArray)=(aw k.toNat its).flatten.toArray:=by
   have f0:∀m:Nat,mx (λx1 x2=>x1++x2) #[] (aw m its.toArray)=(aw m its).flatten.toArray:=λm=>by
     have:=Wc its m [];rw[cb] at this;exact this
   rw[f0];cases its with
   | nil=>simp
   | cons a r'=>rw[if_neg (by simp)]
 refine wpAny_binaryOp_repeat_ref (T:="list") (U:="int") (by decide) ⟨_,e,rfl⟩ (λs'=>typeIs_int s' k t) noFill_list_mul F.fills_int_mul F.slot_int_rmul repeat_list F.slot_int_index.lookup
   (call_meets F.slot_int_rmul (typeIs_int s k t) F.entry_int_rmul (F.args_int_rmul_2 _ _) (int___rmul___int_list k t l its.toArray n)
     ⟨e,rfl,⟨_,e,rfl⟩,call_meets F.slot_list_mul ⟨_,e,rfl⟩ F.entry_list_mul (F.args_list_mul_2 _ _) (AutoListH.list___mul___list_int_3 l its.toArray n k t hfit hcap hlong) ⟨e,?_⟩⟩)
 rw[hnew];exact⟨.ref _,_,I.lnew (t':=s.toks) (r.rep k.toNat) (by rw[Z4,Nat.mul_comm];exact hz),rfl,q _ I.fresh⟩
end
section
variable {prog:qK}{w:qL}{A:qM}{E:qG->qI->Prop}{s:qI}
end
section
variable {X:Cx}
end
end L2
namespace Att
open PySem PySem.W PySem.Calls PyProof.Rows
theorem Z5{P:rA}{h:rB}:∀(ns:List Int) (vs:List qG),WellAll P h vs (ns.map WData.int)->IntsAre vs ns:=by
 intro ns
 induction ns with
 | nil =>
   intro vs w;rw[jj] at w;cases w;exact .nil
 | cons n ns ih =>
   intro vs w;rw[ar] at w;cases w with
   | cons a b =>
     cases a;exact .cons _ _ (ih _ b)
theorem Z6{l:OpenLaw}{n:Nat}(hn:l.most=some n){P:rA}{h:rB}{args:List WData}{vals:List qG}
   (hpre:l.row.toRowW.claim.pre args=true) (hwl:WellAll P h vals args):
   ∃a vs ns,vals=[Value.ref a]/\args=[WData.list (ns.map WData.int)]/\h.get? a=some { cls:=.type "list",data:=.seq vs.toArray }/\IntsAre vs ns/\ns.length<=n:=by
 have hsh:WShape.hasAll [] args [.list .int]=true:=(pre_splitW hpre).1;have hc:l.pre.holds [] { args:=args }=true:=(pre_splitW hpre).2;obtain⟨d,r,rfl,h1,h2⟩:=hasAllW_cons hsh;obtain rfl:=hasAllW_nil h2;obtain⟨xs,rfl,h3⟩:=hasW_list h1;obtain⟨ns,rfl⟩:=items_int h3;have hlen:ns.length<=n:=by
   unfold OpenLaw.pre at hc;have h4:(WTm.not (.lt (.lit (.int (n:Int))) (.len (.arg 0)))).holds [] { args:=[.list (ns.map .int)] }=true:=by
     have h4:=(holds_andW hc).1;rw[hn] at h4;exact h4
   have h5:=condW_of h4 (w_not (w_lt w_lit (w_len_list (w_arg rfl))));rw[ε] at h5;refine Nat.le_of_not_lt λq=>?_;have q':(n:Int)<((ns.length:Nat):Int):=by omega
   first
     | (rw[decide_eq_true q'] at h5;exact absurd h5 (by decide))
     | (simp at h5;omega)
 cases hwl with
 | cons w1 w2 =>
   cases w2;cases w1 with
   | list ho hall=>exact⟨_,_,ns,rfl,rfl,ho,Z5 ns _ hall,hlen⟩
theorem Z7(l:OpenLaw)(args:List WData):l.row.toRowW.claim.post args (.bool true) args=true :=
 postW_of (r:=l.row.toRowW) (X:=(true==true))
   (show WShape.has [] (.bool true) .bool=true by first | rfl | decide | simp [WShape.has,WShape.arms,WShape.armsAll])
   (show (WTm.eq .res (.lit (.bool true))).value [] { args:=args,res:=some (.bool true),after:=args }=some (.bool (true==true)) from w_eq_bool (w_res rfl) w_lit) rfl
theorem attach_call{l:OpenLaw}{n:Nat}{q:qK}{loose:List Str}{XP:(Str->Option qG)->rB->Prop}{YP:qL->rB->Prop}{d:DefRec}
   (hn:l.most=some n) (hdf:d.params.defaults=[])
   (call:∀(w:qL) (s₀ s₁:qI) (mg mb:Str->Option qG) (fa:qH) (o:Obj) (pm cd doc:qG) (a:qH) (vs:List qG) (ns:List Int),
     Ground q loose [] XP w s₀ mg mb s₁.heap->YP w s₁.heap ->
     s₁.heap.get? fa=some o->o.data = .func (docDef d.name d.params d.body d.scope pm cd doc)->s₁.heap.CodeRec cd d.name->mg d.name=some (.ref fa) ->
     s₁.heap.get? a=some { cls:=.type "list",data:=.seq vs.toArray }->IntsAre vs ns->ns.length<=n->s₁.gens=#[] ->
     codeAny (rj l.prog w) callerA (.call (.ref fa) ⟨[.ref a],[]⟩) (λr s'=>r = .ok (.ret (.bool true))/\OldK s₁.heap s'.heap/\s'.os=s₁.os/\AllBare s'.gens) s₁):
   WalkO q loose XP YP l.row.toRowW d [] (λf vs=>ph f vs):=by
 intro w s₀ s₁ mg mb G Y fa o pm cd doc dV kV ho hd hcd hD hmg hg args vals as hpre hlay hrd hwl hlo;obtain rfl:dV = .none:=Dflts.none hD hdf;obtain rfl:kV = .none:=Dflts.noKw hD;obtain⟨a,vs,ns,rfl,rfl,hobj,hints,hlen⟩:=Z6 hn hpre hwl;refine enter_call (codeAny_mono (call w s₀ s₁ mg mb fa o pm cd doc a vs ns G Y ho (fd_plain hd) hcd hmg hobj hints hlen hg) λr s' hq=>?_);obtain⟨rfl,h2,h3,h4⟩:=hq;exact⟨.inl ⟨.bool true,.bool true,[],rfl,λ_=>rfl,.bool true,Z7 l _,λ_=>⟨pY.nil,λ_ hm=>(nomatch hm)⟩⟩,h2,h3,h4⟩
section
variable {prog:qK}{w:qL}{A:qM}{E:qG->qI->Prop}{s:qI}{K:Frag}
def noObjs(h:rB):rB:={ h with objs:=#[] }
theorem noObjs_get(h:rB)(b:qH):(noObjs h).get? b=none:=by
 cases e:(noObjs h).get? b with
 | none=>rfl
 | some o=>exact absurd (ξ e) (Nat.not_lt_zero _)
def ledger(h:rB)(L d:qH):List (qH×Obj):=(fv h.objs.size).filterMap λa=>if a=L\/a=d then none else (h.get? a).map λo=>(a,o)
theorem mem_ledger{h:rB}{L d a:qH}{o:Obj}:(a,o)∈ledger h L d↔a≠L/\a≠d/\h.get? a=some o:=by
 unfold ledger;rw[dk];constructor
 . rintro⟨b,_,e⟩
   split at e
   . cases e
   . rename_i hb;obtain⟨o',ho,e'⟩:=ai.mp e;cases e';exact⟨λq=>hb (.inl q),λq=>hb (.inr q),ho⟩
 . rintro⟨n1,n2,ho⟩;refine⟨a,lx.mpr (ξ ho),?_⟩;rw[if_neg (show ¬(a=L\/a=d) from λq=>q.elim n1 n2),ho] <;> rfl
end
end Att
namespace L2
open PySem PySem.Spec PyProof.Rows
theorem vals_ints:∀{vs:List qG} {ns:List Int},IntsAre vs ns->Vals (ns.map V.int) vs
 | _,_,.nil=>.nil
 | _,_,.cons n t h=>.cons ⟨t,rfl⟩ (vals_ints h)
abbrev CX0:CXT:=λ_ _ _ _ _ _=>False
abbrev E0:XK:=λ_ _ _=>False
structure Fun(K:γ)(x qual:Str)(st:qO)(f:qH)(fd:qJ):Prop where
 ex:∃(oc:qG) (od:Option qH) (kV doc pm:qG) (an:Option qH) (cdv ct:qG) (osl:Array (Option qG)),
   fd=fnOf x qual (BA st) (Bp st) (Am st) .none kV doc pm an cdv ct/\K.lookup f=some ⟨oc,od,.func fd,osl⟩/\codeIn K cdv qual=true
 kp:keepIn K (.ref f)=true
section
variable {P:qK}{w:qL}{K:γ}{mg:Str->Option qG}{base:rB}
theorem Fun.binds{x qual:Str}{st:qO}{f:qH}{fd:qJ}{ps:List Str}(F:Fun K x qual st f fd)
   (h:∀(kV doc pm:qG) (an:Option qH) (cdv ct:qG) (us:List qG),us.length=ps.length->qS (fnOf x qual (BA st) (Bp st) (Am st) .none kV doc pm an cdv ct) ⟨us,[]⟩=pure (ps.zip us)):By K fd ps []:=by
 obtain⟨oc,od,kV,doc,pm,an,cdv,ct,osl,rfl,lk,hcd⟩:=F.ex;exact .all (h kV doc pm an cdv ct)
theorem A4{x qual:Str}{st:qO}{f:qH}{oc:qG}{od an:Option qH}{osl:Array (Option qG)}{kV doc pm cdv ct:qG}(l:K.lookup f=some ⟨oc,od,.func (fnOf x qual (BA st) (Bp st) (Am st) .none kV doc pm an cdv ct),osl⟩)
   (c:codeIn K cdv qual=true) (k:keepIn K (.ref f)=true):Fun K x qual st f (fnOf x qual (BA st) (Bp st) (Am st) .none kV doc pm an cdv ct):=⟨⟨oc,od,kV,doc,pm,an,cdv,ct,osl,rfl,l,c⟩,k⟩
end
theorem small1000{n:Nat}(h:n<=1000):n<qT:=ii h (by decide)
section
variable {X:Cx}
theorem pv(i:Nat){x:Str}{pos:Pos}(hN:X.N[i]?=some x:=by rfl)(hv:Vis X.env.scope x:=by first | exact υ rfl | exact jn (υ rfl) | exact jn (jn rfl))(hd:(x==("__debug__":Str))=false:=by decide)
   (hcd:(x==("__classdict__":Str))=false:=by decide):PE X (.Name x pos) (vX i):=VP hN hv hd hcd
end
theorem iteF{A B:Prop}(h:B):if false=true then A else B:=by
 rw[if_neg η];exact h
theorem iteT{A B:Prop}(h:A):if true=true then A else B:=by
 rw[if_pos rfl];exact h
def Same(H H':Hp):Prop:=∀b o,H b=some o->H' b=some o
theorem Same.refl(H:Hp):Same H H:=λ_ _ h=>h
theorem Same.trans{H H1 H2:Hp}(a:Same H H1)(b:Same H1 H2):Same H H2:=λc o h=>b c o (a c o h)
theorem Same.free{H H':Hp}(e:Same H H'){l:qH}(h:H' l=Option.none):H l=Option.none:=by
 cases q:H l with
 | none=>rfl
 | some o =>
   rw[e l o q] at h;cases h
theorem Same.seq{K:γ}{H H':Hp}{a:qH}{xs:List V}(e:Same H H')(h:SqL K H a xs):SqL K H' a xs:=by
 rcases h with (h | ⟨o,h⟩) | h
 . exact .inl (.inl (e _ _ h))
 . exact .inl (.inr ⟨o,e _ _ h⟩)
 . exact .inr h
end L2
namespace Stow
variable{ns cs:List Int}{k:Int}{od:Option qH}{H:Hp}{Q:Unit->qI->Prop}{pins:List (qH×Obj)}
structure Pc where
 a:Int
 l:Int
 v:Bool
 deriving DecidableEq
variable{ps:List Pc}{z:Pc}
def tQ(l:Int)(v:Bool):Int:=l*2+(if v then 1 else 0)
def Pc.mk'(p:Pc):Int:=tQ p.l p.v
def Ai:Int->List Pc->Int->Prop
 | s,[],e=>s=e
 | s,p::r,e=>p.a=s/\1<=p.l/\(p.v=true->3<=p.l)/\Ai (s+p.l) r e
theorem Ai.le:∀{ps:List Pc} {s e:Int},Ai s ps e->s+ps.length<=e
 | [],s,e,h=>by have h:s=e:=h;simp [h]
 | p::r,s,e,h=>by
   obtain⟨_,h1,_,h2⟩:=h
   have:=Ai.le h2
   simp only [au];omega
theorem Ai.app:∀{ps qs:List Pc} {s m e:Int},Ai s ps m->Ai m qs e->Ai s (ps++qs) e
 | [],_,s,m,e,h,k=>by have h:s=m:=h;subst h;exact k
 | p::r,qs,s,m,e,h,k=>by
   obtain⟨h0,h1,h2,h3⟩:=h
   exact⟨h0,h1,h2,Ai.app h3 k⟩
theorem Ai.one{p:Pc}(h1:1<=p.l)(h3:p.v=true->3<=p.l):Ai p.a [p] (p.a+p.l):=⟨rfl,h1,h3,rfl⟩
theorem Ai.snoc{s:Int}{p:Pc}(h:Ai s ps p.a)(h1:1<=p.l)(h3:p.v=true->3<=p.l):Ai s (ps++[p]) (p.a+p.l):=h.app (.one h1 h3)
theorem Ai.mem:∀{ps:List Pc} {s e:Int},Ai s ps e->∀p∈ps,s<=p.a/\1<=p.l/\(p.v=true->3<=p.l)/\p.a+p.l<=e
 | [],_,_,_,p,hp=>by cases hp
 | q::r,s,e,h,p,hp=>by
   obtain⟨h0,h1,h2,h3⟩:=h
   rcases χ.mp hp with rfl | hp
   . have:=h3.le
     exact⟨by omega,h1,h2,by omega⟩
   . obtain⟨a,b,c,d⟩:=Ai.mem h3 p hp
     exact⟨by omega,b,c,d⟩
def AH(cs:List Int)(ps:List Pc):Prop:=∀p∈ps,cs[p.a.toNat]?=some p.mk'/\cs[(p.a+p.l-1).toNat]?=some p.mk'
theorem AH.nil(cs:List Int):AH cs []:=λp hp=>by cases hp
theorem Ik(l:Int)(v:Bool):tQ l v/2=l:=by unfold tQ;split <;> omega
theorem Jo(l:Int)(v:Bool):decide (tQ l v%2=1)=v:=by
 unfold tQ;cases v
 . exact decide_eq_false (by simp)
 . exact decide_eq_true (by simp)
def Co(ns:List Int)(k:Int):Bool :=
 if ns.getD k.toNat 0/2<1\/(ns.length:Int)<k+ns.getD k.toNat 0/2 then false else decide (3<=ns.getD k.toNat 0/2)||!decide (ns.getD k.toNat 0%2=1)
def BC(ns:List Int)(k:Int):Option Int :=
 if Co ns k=true then (if ns.getD (k+ns.getD k.toNat 0/2-1).toNat 0=ns.getD k.toNat 0 then none else some (k+ns.getD k.toNat 0/2-1)) else some k
theorem Il{k:Nat}{x:Int}(h:ns[k]?=some x):ns.getD k 0=x:=by rw[bc,h];rfl
theorem Z8{p:Pc}(h1:1<=p.l)(h3:p.v=true->3<=p.l)(hl:p.a+p.l<=ns.length)(m1:ns[p.a.toNat]?=some p.mk')(m2:ns[(p.a+p.l-1).toNat]?=some p.mk'):BC ns p.a=none:=by
 have e1:=Il m1;have e2:=Il m2;have e3:ns.getD p.a.toNat 0/2=p.l:=by rw[e1];exact Ik _ _
 have hc:Co ns p.a=true:=by
   unfold Co;rw[e3,if_neg (by omega),e1];show (decide (3<=p.l)||!decide (tQ p.l p.v%2=1))=true;rw[Jo];cases hv:p.v with
   | false=>simp
   | true=>simp [h3 hv]
 unfold BC;rw[if_pos hc,e3,e2,e1,if_pos rfl]
theorem Wf(ns:List Int)(k:Int):Co ns k=true↔(1<=ns.getD k.toNat 0/2/\k+ns.getD k.toNat 0/2<=ns.length/\(ns.getD k.toNat 0%2=1->3<=ns.getD k.toNat 0/2)):=by
 unfold Co;by_cases h:ns.getD k.toNat 0/2<1\/(ns.length:Int)<k+ns.getD k.toNat 0/2
 . rw[if_pos h];constructor
   . intro z;cases z
   . intro z;omega
 . rw[if_neg h];simp only [pc,decide_eq_true_eq,nu,decide_eq_false_iff_not];constructor
   . intro z;refine⟨by omega,by omega,λw=>?_⟩;rcases z with z | z
     . exact z
     . exact absurd w z
   . rintro⟨_,_,z⟩;by_cases w:ns.getD k.toNat 0%2=1
     . exact .inl (z w)
     . exact .inr w
def uh(ns:List Int)(k:Int):Pc:=⟨k,ns.getD k.toNat 0/2,decide (ns.getD k.toNat 0%2=1)⟩
theorem Z9(h:BC ns k=none):Co ns k=true:=by
 unfold BC at h
 split at h
 . assumption
 . cases h
theorem Nw(h:BC ns k=none):1<=ns.getD k.toNat 0/2/\k+ns.getD k.toNat 0/2<=ns.length/\(ns.getD k.toNat 0%2=1->3<=ns.getD k.toNat 0/2):=(Wf ns k).mp (Z9 h)
theorem vT(h:Co ns k=false):BC ns k=some k:=by
 unfold BC;rw[if_neg (by rw[h];exact η)]
theorem aA(h:Co ns k=true)(h2:ns.getD (k+ns.getD k.toNat 0/2-1).toNat 0≠ns.getD k.toNat 0):BC ns k=some (k+ns.getD k.toNat 0/2-1):=by
 unfold BC;rw[if_pos h,if_neg h2]
theorem aB(h:Co ns k=true)(h2:ns.getD (k+ns.getD k.toNat 0/2-1).toNat 0=ns.getD k.toNat 0):BC ns k=none:=by
 unfold BC;rw[if_pos h,if_pos h2]
def DD(ns:List Int):Nat->Int->List Pc×Option Int
 | 0,_=>([],none)
 | n+1,k =>
   if k<ns.length/\BC ns k=none then
     (uh ns k::(DD ns n (k+ns.getD k.toNat 0/2)).1,(DD ns n (k+ns.getD k.toNat 0/2)).2)
   else ([],if k<ns.length then BC ns k else none)
theorem Qb(ns:List Int):∀(n m:Nat) (k:Int),(ns.length-k).toNat<=n->(ns.length-k).toNat<=m->DD ns n k=DD ns m k:=by
 have z:∀(m:Nat) (k:Int),(ns.length-k).toNat<=0->DD ns m k=([],none):=by
   intro m k h;cases m with
   | zero=>rfl
   | succ m=>rw[DD,if_neg (by omega),if_neg (by omega)]
 intro n
 induction n with
 | zero=>intro m k h _;rw[z m k h];rfl
 | succ n ih =>
   intro m k h1 h2;cases m with
   | zero=>rw[z (n+1) k h2];rfl
   | succ m =>
     rw[DD,DD];by_cases h:k<ns.length/\BC ns k=none
     . have:=Nw h.2;rw[if_pos h,if_pos h,ih m _ (by omega) (by omega)]
     . rw[if_neg h,if_neg h]
def BP(ns:List Int)(k:Int):List Pc×Option Int:=DD ns (ns.length-k).toNat k
theorem Qc(h:¬k<ns.length):BP ns k=([],none) :=
 (Qb ns _ 0 k (Θ _) (by omega)).trans rfl
theorem Wg(ns:List Int)(k:Int):BP ns k=DD ns ((ns.length-k).toNat+1) k:=Qb ns _ _ k (Θ _) (by omega)
theorem Wh{b:Int}(h:k<ns.length)(hb:BC ns k=some b):BP ns k=([],some b):=by
 rw[Wg,DD,if_neg (λz=>by rw[hb] at z;cases z.2),if_pos h,hb]
theorem Qd(h:k<ns.length)(hb:BC ns k=none):BP ns k=(uh ns k::(BP ns (k+ns.getD k.toNat 0/2)).1,(BP ns (k+ns.getD k.toNat 0/2)).2):=by
 rw[Wg,DD,if_pos ⟨h,hb⟩];have:=Nw hb;rw[BP,Qb ns _ (ns.length-k).toNat _ (Θ _) (by omega)]
def WPre(ns:List Int)(ds:List Pc)(k:Int):Prop:=BP ns 0=(ds++(BP ns k).1,(BP ns k).2)
theorem WPre.nil(ns:List Int):WPre ns [] 0:=by unfold WPre;simp
theorem WPre.step{ds:List Pc}(w:WPre ns ds k)(h:k<ns.length)(hb:BC ns k=none):WPre ns (ds++[uh ns k]) (k+ns.getD k.toNat 0/2):=by
 unfold WPre at *;rw[w,Qd h hb];simp
theorem WPre.fin{ds:List Pc}(w:WPre ns ds k)(h:¬k<ns.length):BP ns 0=(ds,none):=by
 unfold WPre at w;rw[w,Qc h];simp
theorem WPre.bad{ds:List Pc}{b:Int}(w:WPre ns ds k)(h:k<ns.length)(hb:BC ns k=some b):BP ns 0=(ds,some b):=by
 unfold WPre at w;rw[w,Wh h hb];simp
theorem Wi(ns:List Int):∀(n:Nat) (k:Int),0<=k->(ns.length-k).toNat<=n->((BP ns k).1.length:Int)<=n
 | n,k,h0,hn=>by
   by_cases h:k<ns.length
   . cases hb:BC ns k with
     | some b=>rw[Wh h hb];simp
     | none =>
       obtain⟨b1,b2,_⟩:=Nw hb
       rw[Qd h hb]
       cases n with
       | zero=>omega
       | succ n =>
         have:=Wi ns n (k+ns.getD k.toNat 0/2) (by omega) (by omega)
         simp only [au]
         omega
   . rw[Qc h];simp
 termination_by n=>n
theorem aC{p:Pc}(m:cs[p.a.toNat]?=some p.mk'):uh cs p.a=p:=by
 have e:=Il m;unfold uh;rw[e];show (⟨p.a,tQ p.l p.v/2,decide (tQ p.l p.v%2=1)⟩:Pc)=p;rw[Ik,Jo]
theorem DK{cs:List Int}:∀{ps:List Pc} {k:Int},Ai k ps cs.length->AH cs ps->BP cs k=(ps,none)
 | [],k,h,_=>by
   have h:k=cs.length:=h
   exact Qc (by omega)
 | p::r,k,h,m=>by
   obtain⟨ea,h1,h3,h4⟩:=h
   have le:=h4.le
   obtain⟨m1,m2⟩:=m p Ξ
   have bn:=Z8 h1 h3 (by omega) m1 m2
   rw[ea] at bn
   have e2:cs.getD k.toNat 0/2=p.l:=by rw[<-ea,Il m1];exact Ik _ _
   have ih:=DK (cs:=cs) h4 λq hq=>m q (ι _ hq)
   rw[Qd (by omega) bn,e2,ih,<-ea,aC m1]
open PySem L2 PyProof.Rows
structure Def(P:qK)(w:qL)(K:γ)(mg:Str->Option qG)(base:rB)(x:Str)(k:Nat)(ps:List Str)(sp:Sp):Prop where
 ex:∃(f:qH) (fd:qJ),FnOk P w K mg base CX0 k f fd ps sp/\mg x=some (.ref f)/\keepIn K (.ref f)=true/\By K fd ps []
structure Src(K:γ)(mg:Str->Option qG)(x:Str)(st:qO):Prop where
 ex:∃(f:qH) (fd:qJ),Fun K x x st f fd/\mg x=some (.ref f)
theorem aD{K:γ}{h:rB}{mg:Str->Option qG}{x:Str}{st:qO}{f:qH}{oc kV doc pm cdv ct:qG}{an:Option qH}{osl:Array (Option qG)}(X:K.In h)(G:h.Ns re mg)
   (a:nsIn K re x=some (some (.ref f))) (l:K.lookup f=some ⟨oc,od,.func (fnOf x x (BA st) (Bp st) (Am st) .none kV doc pm an cdv ct),osl⟩)
   (c:codeIn K cdv x=true) (k:keepIn K (.ref f)=true):Src K mg x st:=⟨f,_,A4 l c k,mg_of X G a⟩
section
variable {P:qK}{w:qL}{K:γ}{mg:Str->Option qG}{base:rB}
end
section
variable {X:Cx}
theorem Ny:DW X (.builtin "isinstance") (λxs H Q=>∃x n t b,xs=[x,.ty n]/\TyOf X.K H x t/\kitOne X.K t (.type n)=some b/\Q (.bl b) H):=by
 intro pins s σ H xs us Q I r h;obtain⟨x,n,t,b,rfl,ty,e,q⟩:=h;obtain⟨u,u',rfl,rx,ry⟩:=Id r;cases (show u'=Value.type n from ry);exact ZG I rx ty e λtk=>⟨.bl b,H,I.tok tk,rfl,q⟩
theorem Wj{x:V}(h:Bt x=true):eqV x x=true:=by
 cases x <;> first | rfl | (simp [eqV];done) | (exact absurd h η)
theorem Qe(hu:X.A.units+64<rl):OpR X (rc .Eq) (λx y H Q=>∃(a b:qH) (ns ms:List Int),x = .ref a/\y = .ref b/\SqL X.K H a (ns.map V.int)/\SqL X.K H b (ms.map V.int)/\Q (.bl (decide (ns=ms))) H):=by
 intro pins s σ H x y v u Q I rx ry h;obtain⟨a,b,ns,ms,rfl,rfl,ha,hb,q⟩:=h;cases rx;cases ry;obtain⟨its,r1,p1,_⟩:=I.list ha;obtain⟨its2,r2,p2,_⟩:=I.list hb;exact PySem.W.ke_eq_ints p1.isList p2.isList (Ih r1) (Ih r2) hu ⟨.bl _,H,I,rfl,q⟩
end
theorem _root_.L2.Same.new{p:qH}{o:HO}(h:H p=none):Same H (upd H p o):=λb u e=>by
 rw[AC (Cz e h)];exact e
theorem _root_.L2.Same.put{H':Hp}{p:qH}{o:HO}(s:Same H H')(h:H p=none):Same H (upd H' p o):=λb u e=>by
 rw[AC (Cz e h)];exact s b u e
theorem small4000{n:Nat}(h:n<=4000):n<qT:=ii h (by decide)
theorem two1:(2:Int)^(1:Int).toNat=2:=by decide
theorem aE(ns:List Int)(k:Int)(h0:0<=k)(h:k<ns.length):atI (ns.map V.int) k=some (.int (ns.getD k.toNat 0)):=by
 have e:(ns.map V.int)[k.toNat]?=some (.int (ns.getD k.toNat 0)):=by
   rw[Ψ,bc,ah (by omega)];rfl
 have:=ZX e
 rwa [ic h0] at this
theorem aF(n:Int):decide (V.int (Builtin.bitAnd n 1)=V.int 1)=decide (n%2=1):=by
 rw[Nn,bitAnd_m1];rfl
section
variable {K:γ}
theorem kit_ii:kitOne K (.type "int") (.type "int")=some true:=by rfl
theorem kit_ll:kitOne K (.type "list") (.type "list")=some true:=by rfl
theorem kit_ib:kitOne K (.type "int") (.type "bool")=some false:=by
 show (if (Value.type "int"==Value.type "bool")=true then some true else PySem.W.kitCls K (.type "int") (.type "bool"))=some false;rw[if_neg (by decide)];show (if PySem.W.kitMeta "bool"=true then PySem.W.subIn K (.type "int") (.type "bool") else none)=some false;rw[if_pos (by decide +kernel)];show (fastBuiltinMro "int").map (·.contains (Value.type "bool"))=some false;decide +kernel
end
structure Noted(fr:List qH)(e:qH)(oe:Obj)(fl:qG)(h h':rB):Prop where
 keep:∀b o,b≠e->b ∉ fr->h.get? b=some o->h'.get? b=some o
 slot:∀b o,b≠e->h.get? b=some o->∃sl,h'.get? b=some { o with slots:=sl }
 ent:∃(T:qH) (oT:Obj) (ts:Array qG),h.get? T=none/\T≠e/\h'.get? e=some (oe.mapFields (·.setIfInBounds 1 (.ref T)))/\h'.get? T=some oT/\oT.data = .fields ts/\ts[3]?=some fl
section
variable {M:rD}{A:qM}{E:qG->qI->Prop}{s:qI}
theorem Wk{base:rB}{env:rC}{outer:List rC}{L e:qH}{oe:Obj}{vs:Array qG}{head:qG}{had:Bool}(hfr:A.frames=some (env::outer))(hl:s.heap.FunFrames base (env::outer))(hf:env.frame=some L)
   (he:s.heap.get? e=some oe) (hd:oe.data = .fields vs) (hsz:1<vs.size) (h:∀h',Noted ((env::outer).filterMap (·.frame)) e oe (rawInt L) s.heap h'->Q () { s with heap:=h' }):
   qX M A (do
     let a <-frameOf env
     let pl <-entryPlaceOf L had
     let b <-EntryCells.newEntry head a .none (rawInt L) .none pl
     setField (.ref e) 1 b) Q E s:=by
 have out:e ∉ (env::outer).filterMap (·.frame):=λz=>by
   obtain⟨_,o,q,nf⟩:=hl.mem z;rw[he] at q;cases q;exact nf vs hd
 refine qU (wpAny_frameOf_fun hfr hl hf λhA sA=>?_);refine qU (wpAny_entryPlaceOf λpl isP=>?_);unfold EntryCells.newEntry newFields;refine qU (wpAny_newObj_type ?_ (isP.sizeOk5 _ _ _ _ _));have eA:hA.get? e=some oe:=(sA.2.1 e out).trans he;refine wpAny_setField (ζ _ eA) hd hsz (h _ ?_);have apart:hA.objs.size≠e:=ip (ξ eA);have other:∀{ob:Obj} b o,b≠e->hA.get? b=some o->((hA.push ob).update e (ie (·.setIfInBounds 1 (Value.ref hA.objs.size)))).get? b=some o:=λb o nb q=>by
   rw[ω _ _ (λz=>nb z.symm)];exact ζ _ q
 refine⟨λb o nb nf q=>other b o nb ((sA.2.1 b nf).trans q),λb o nb q=>?_,hA.objs.size,_,_,?_,apart,?_,(ω _ _ (λz=>apart z.symm)).trans (Ω _ rfl),rfl,?_⟩
 . obtain⟨sl,q'⟩:=sA.2.2 b o q;exact⟨sl,other b _ nb q'⟩
 . rw[sA.1];exact dm (Θ _)
 . exact bb _ (ζ _ eA) (fb (bx hd _))
 . first
     | (simp;done)
     | (rcases isP with rfl | ⟨_,_,_,_,_,_,_,rfl⟩ <;> simp)
theorem aG(o:Obj)(f:Array qG->Array qG):(o.mapFields f).dict=o.dict:=by
 obtain⟨c,d,dt,sl⟩:=o;cases dt <;> rfl
end
def Exc(h:rB)(x:qH)(cls:qG)(od:Option qH)(T:qH)(fl c:qG):Prop :=
 ∃(oe:Obj) (vs:Array qG) (oT:Obj) (ts:Array qG),T≠x/\h.get? x=some oe/\oe.cls=cls/\oe.dict=od/\oe.data = .fields vs/\vs[1]?=some (.ref T)/\h.get? T=some oT/\oT.data = .fields ts/\ts[3]?=some fl/\vs[2]?=some c
def Exc0(h:rB)(x:qH)(cls:qG)(od:Option qH)(c:qG):Prop:=∃(oe:Obj) (vs:Array qG),h.get? x=some oe/\oe.cls=cls/\oe.dict=od/\oe.data = .fields vs/\vs[1]?=some .none/\vs[2]?=some c
structure Upto(fr ex:List qH)(h h':rB):Prop where
 keep:∀b o,b ∉ ex->b ∉ fr->h.get? b=some o->h'.get? b=some o
 slot:∀b o,b ∉ ex->h.get? b=some o->∃sl,h'.get? b=some { o with slots:=sl }
theorem Upto.trans{fr ex ex':List qH}{h1 h2 h3:rB}(a:Upto fr ex h1 h2)(b:Upto fr ex' h2 h3):Upto fr (ex++ex') h1 h3 :=
 ⟨λc o n1 n2 q=>b.keep c o (λz=>n1 (μ _ z)) n2 (a.keep c o (λz=>n1 (Φ _ z)) n2 q),λc o n1 q=>by
   obtain⟨sl,q1⟩:=a.slot c o (λz=>n1 (Φ _ z)) q
   obtain⟨sl',q2⟩:=b.slot c _ (λz=>n1 (μ _ z)) q1
   exact⟨sl',q2⟩⟩
theorem Upto.update{fr:List qH}{h:rB}{a:qH}{f:Obj->Obj}:Upto fr [a] h (h.update a f) :=
 ⟨λb o n _ q=>by rw[ω _ _ (λz=>n (by simp [z]))];exact q,λb o n q=>⟨o.slots,by rw[ω _ _ (λz=>n (by simp [z]))];exact q⟩⟩
section
variable {M:rD}{A:qM}{E:qG->qI->Prop}{s:qI}
theorem FM{c:qG}{fr:List qH}{x:qH}{cls:qG}{T:qH}{fl:qG}(ht:Exc s.heap x cls od T fl c)
   (h:∀h',Upto fr [T] s.heap h'->Exc h' x cls od T .none c->Q () { s with heap:=h' }):qX M A (setFlight (.ref x) none) Q E s:=by
 obtain⟨oe,vs,oT,ts,ne,ex,hc,hdi,hd,h1,eT,dT,h3,h2c⟩:=ht;unfold setFlight;refine qU (wpAny_field ex hd h1 ?_);rw[if_pos (show (Value.ref T != Value.none)=true by simp)];have sz:3<ts.size:=(cf.mp h3).1;refine wpAny_setField eT dT sz (h _ .update ⟨oe,vs,_,_,ne,?_,hc,hdi,hd,h1,bb _ eT (fb (bx dT _)),bx dT _,?_,h2c⟩)
 . rw[ω _ _ ne];exact ex
 . simp [sz]
theorem Noted.exc{c:qG}{fr:List qH}{x:qH}{oe:Obj}{vs:Array qG}{fl:qG}{h h':rB}(n:Noted fr x oe fl h h')(hd:oe.data = .fields vs)(hsz:1<vs.size)(h2c:vs[2]?=some c):∃T,h.get? T=none/\Exc h' x oe.cls oe.dict T fl c:=by
 obtain⟨T,oT,ts,nT,ne,ex,eT,dT,h3⟩:=n.ent;exact⟨T,nT,_,_,oT,ts,ne,ex,jx _ _,aG _ _,bx hd _,by simp [hsz],eT,dT,h3,by rw[Array.getElem?_setIfInBounds_ne (by decide)];exact h2c⟩
theorem Noted.upto{fr:List qH}{x:qH}{oe:Obj}{fl:qG}{h h':rB}(n:Noted fr x oe fl h h'):Upto fr [x] h h' :=
 ⟨λb o nb nf q=>n.keep b o (λz=>nb (by simp [z])) nf q,λb o nb q=>n.slot b o (λz=>nb (by simp [z])) q⟩
theorem look0{c:qG}{base:rB}{env:rC}{outer:List rC}{L x:qH}{cls:qG}(hfr:A.frames=some (env::outer))(hl:s.heap.FunFrames base (env::outer))(hf:env.frame=some L)(hx:Exc0 s.heap x cls od c)
   (h:∀h' T,s.heap.get? T=none->Upto ((env::outer).filterMap (·.frame)) [x] s.heap h'->Exc h' x cls od T (rawInt L) c->Q () { s with heap:=h' }):qX M A (noteFrame (.ref x) env) Q E s:=by
 obtain⟨oe,vs,ex,rfl,rfl,hd,h1,h2c⟩:=hx;have sz:=(cf.mp h1).1;unfold noteFrame;simp only [hf];refine qU (wpAny_field ex hd h1 ?_);rw[if_neg (by decide)];refine Wk hfr hl hf ex hd sz λh' n=>?_;obtain⟨T,nT,t⟩:=n.exc hd sz h2c;exact h h' T nT n.upto t
theorem Nz{c:qG}{base:rB}{env:rC}{outer:List rC}{L x T:qH}{cls:qG}(hfr:A.frames=some (env::outer))(hl:s.heap.FunFrames base (env::outer))(hf:env.frame=some L)(hx:Exc s.heap x cls od T .none c)
   (h:∀h' T',s.heap.get? T'=none->Upto ((env::outer).filterMap (·.frame)) [T,x] s.heap h'->Exc h' x cls od T' (rawInt L) c->Q () { s with heap:=h' }):qX M A (noteFrame (.ref x) env) Q E s:=by
 obtain⟨oe,vs,oT,ts,ne,ex,rfl,rfl,hd,h1,eT,dT,h3,h2c⟩:=hx;have sz:=(cf.mp h1).1;have sz3:=(cf.mp h3).1;unfold noteFrame;simp only [hf];refine qU (wpAny_field ex hd h1 ?_);rw[if_pos (show (Value.ref T != Value.none)=true by simp)];refine qU (wpAny_field eT dT h3 ?_);rw[if_neg (show ¬((Value.none==rawInt L)=true) by simp [rawInt])];refine qU (wpAny_setField eT dT sz3 ?_);have u1:Upto ((env::outer).filterMap (·.frame)) [T] s.heap (s.heap.update T (ie (·.setIfInBounds 3 Value.none))):=.update;have hl2:(s.heap.update T (ie (·.setIfInBounds 3 Value.none))).FunFrames base (env::outer):=hl.of_keeps λb o q nf=>by
   have nb:b≠T:=λz=>by
     subst z;rw[eT] at q;cases q;exact nf ts dT
   exact⟨o,by rw[ω _ _ (λz=>nb z.symm)];exact q,rfl⟩
 have ex2:(s.heap.update T (ie (·.setIfInBounds 3 Value.none))).get? x=some oe:=by
   rw[ω _ _ ne];exact ex
 refine Wk (s:={ s with heap:=s.heap.update T (ie (·.setIfInBounds 3 Value.none)) }) hfr hl2 hf ex2 hd sz λh' n=>?_;obtain⟨T',nT,t⟩:=n.exc hd sz h2c;refine h h' T' ?_ (u1.trans n.upto) t;cases q:s.heap.get? T' with
 | none=>rfl
 | some o =>
   by_cases z:T'=T
   . subst z;rw[bb _ eT (fb (bx dT _))] at nT;cases nT
   . rw[ω _ _ (λy=>z y.symm),q] at nT;cases nT
theorem vy{c:qG}{base:rB}{env:rC}{outer:List rC}{L x:qH}{cls:qG}(hfr:A.frames=some (env::outer))(hl:s.heap.FunFrames base (env::outer))(hf:env.frame=some L)(hx:Exc0 s.heap x cls od c)
   (h:∀h' T,s.heap.get? T=none->Upto ((env::outer).filterMap (·.frame)) [x,T] s.heap h'->Exc h' x cls od T .none c->Q () { s with heap:=h' }):qX M A (leaving env (.ref x)) Q E s:=by
 unfold leaving;refine qU (look0 hfr hl hf hx λh1 T nT u t=>?_);exact FM (s:={ s with heap:=h1 }) (fr:=(env::outer).filterMap (·.frame)) t λh2 u2 t2=>h h2 T nT (u.trans u2) t2
theorem vx{c:qG}{base:rB}{env:rC}{outer:List rC}{L x T:qH}{cls:qG}(hfr:A.frames=some (env::outer))(hl:s.heap.FunFrames base (env::outer))(hf:env.frame=some L)(hx:Exc s.heap x cls od T .none c)
   (h:∀h' T',s.heap.get? T'=none->Upto ((env::outer).filterMap (·.frame)) [T,x,T'] s.heap h'->Exc h' x cls od T' .none c->Q () { s with heap:=h' }):qX M A (leaving env (.ref x)) Q E s:=by
 unfold leaving;refine qU (Nz hfr hl hf hx λh1 T' nT u t=>?_);exact FM (s:={ s with heap:=h1 }) (fr:=(env::outer).filterMap (·.frame)) t λh2 u2 t2=>h h2 T' nT (u.trans u2) t2
end
open Sem (wp)
section
variable {M:rD}{A:qM}{E:qG->qI->Prop}
variable {nm q nm0 q0:Str}{C N C0 N0:qH}{bs bm bs0 bm0:List qG}{hdct hdct0:Bool}{sn sn0:List Str}{sub sub0:List qG}{ab ab0:Bool}{col col0:Option Bool}{dd dd0:Option qH}{k0 k1 k2 k3 k5 j0 j1 j2 j3 j5:Option qG}{newId newId0:String}
theorem aH{h:rB}{g:Array qQ}{d:rg}{t:Nat}{os:OsState}{x:qH}{ox:Obj}{b:Bool}{Q:Bool->qI->Prop}
   (hC:h.get? C=some (excClassObj nm q C N bs bm hdct sn sub ab col dd k0 k1 k2 k3 k5 newId)) (hC0:h.get? C0=some (excClassObj nm0 q0 C0 N0 bs0 bm0 hdct0 sn0 sub0 ab0 col0 dd0 j0 j1 j2 j3 j5 newId0))
   (hx:h.get? x=some ox) (hcl:ox.cls = .ref C) (hb0:(Value.ref C0::bm0).contains (.type "BaseException")=true) (hb:(Value.ref C::bm).contains (.ref C0)=b) (k:Q b ⟨h,g,d,t,os⟩):
   qX M A (excMatches (.ref x) (.ref C0)) Q E ⟨h,g,d,t,os⟩:=by
 have f:=tc_notTuple;unfold excMatches
 repeat (first
   | (with_reducible refine rn hx ?_;rw[hcl])
   | with_reducible refine rn hC0 ?_
   | (with_reducible refine wpAny_isSubtype_exc hC0 ?_;rw[hb0])
   | (with_reducible refine wpAny_isSubtype_exc hC ?_;rw[hb])
   | wp_step)
 all_goals (cases b <;> (wp_walk;exact k))
end
open Sem (wp)
def Lk(M:rD)(h:rB){α:Type}(m:rq α)(v:α):Prop:=∀(A:qM) (E:qG->qI->Prop) (g:Array qQ) (d:rg) (t:Nat) (os:OsState) (Q:α->qI->Prop),Q v ⟨h,g,d,t,os⟩->qX M A m Q E ⟨h,g,d,t,os⟩
theorem Lk.at{M:rD}{h:rB}{α:Type}{m:rq α}{v:α}(l:Lk M h m v){A:qM}{E:qG->qI->Prop}{g:Array qQ}{d:rg}{t:Nat}{os:OsState}{Q:α->qI->Prop}(q:Q v ⟨h,g,d,t,os⟩):qX M A m Q E ⟨h,g,d,t,os⟩:=l A E g d t os Q q
section
variable {prog:qK}{w:qL}{A:qM}{E:qG->qI->Prop}{h:rB}{g:Array qQ}{d:rg}{t:Nat}{os:OsState}{a C:qH}{o:Obj}
structure FN(prog:qK)(w:qL)(h:rB)(C:qH):Prop where
 ga:Lk (rj prog w) h (typeLookup (.ref C) "__getattribute__") (some (.builtin "BaseException.__getattribute__"))
 gat:Lk (rj prog w) h (typeLookup (.ref C) "__getattr__") none
 cls:Lk (rj prog w) h (typeLookup (.ref C) "__class__") (some (.builtin "object.__class__"))
 obj:Lk (rj prog w) h (isSubtype (.ref C) (.type "object")) true
 exc:Lk (rj prog w) h (isSubtype (.ref C) (.type "BaseException")) true
theorem uE{R:Result->qI->Prop}(L:FN prog w h C)(hx:h.get? a=some o)(hc:o.cls = .ref C)(k:R (.ok (.ret (.ref C))) ⟨h,g,d,t,os⟩):
   codeAny (rj prog w) A (.call (.builtin "getset_descriptor.__get__") ⟨[.builtin "object.__class__",.ref a,.ref C],[]⟩) R ⟨h,g,d,t,os⟩:=by
 have y5:(⟨h,g,d,t,os⟩:qI).TypeIs (.builtin "object.__class__") "getset_descriptor":=F.typeOf_object_class;have y8:Lk (rj prog w) h (isSubtype (.ref C) (.type (".".intercalate ("object.__class__".cutAt '.').dropLast))) true:=by rw[F.owner_object_class];exact L.obj
 refine codeAny_call_builtin F.slot_gs_get.plain F.entry_gs_get (F.slot_gs_get.check _ _ _ _ _ _ _ _ y5 (F.args_gs_get _ _ _) ?_)
 repeat (any_goals (first
   | assumption
   | (with_reducible refine rn hx ?_;rw[hc])
   | with_reducible refine y8.at ?_
   | wp_step))
 refine⟨Code.quiet_builtin _ (by decide +kernel),codeAny_builtin F.entry_object_class ?_⟩
 repeat (any_goals (first
   | assumption
   | (with_reducible refine rn hx ?_;rw[hc])
   | wp_step))
theorem aI{tk:Tok}{Q:Fin->qI->Prop}(L:FN prog w h C)(hx:h.get? a=some o)(hc:o.cls = .ref C)(k:Q (.done (.ret (.ref C))) ⟨h,g,d,t,os⟩):
   qX (rj prog w) A (Builtin.«object.__getattribute__» ⟨[.ref a,.str "__class__" tk],[]⟩) Q E ⟨h,g,d,t,os⟩:=by
 have y5:(⟨h,g,d,t,os⟩:qI).TypeIs (.builtin "object.__class__") "getset_descriptor":=F.typeOf_object_class;have f5:=F.typeOf_object_class;have f6:=F.slot_gs_get.lookup;have f7:=F.slot_gs_set.lookup;have l2:=L.cls
 repeat (any_goals (first
   | assumption
   | (with_reducible refine rn hx ?_;rw[hc])
   | with_reducible refine l2.at ?_
   | wp_step))
 refine uE L hx hc ?_
 repeat (any_goals (first | assumption | wp_step))
theorem aJ{nv:qG}(L:FN prog w h C)(hx:h.get? a=some o)(hc:o.cls = .ref C)(k:Q () ⟨h,g,d,t,os⟩):qX (rj prog w) A (checkBuiltinCall "BaseException.__getattribute__" ⟨[.ref a,nv],[]⟩) Q E ⟨h,g,d,t,os⟩:=by
 have e1:builtinKind "BaseException.__getattribute__"=some .slot:=by decide +kernel
 have e2:splitId "BaseException.__getattribute__"=some ("BaseException","__getattribute__"):=by decide +kernel
 have ha:=F.args_bexc_ga (.ref a) nv;have l4:=L.exc;simp only [checkBuiltinCall,e1,e2];refine qU ?_;unfold isInstance
 repeat (first
   | (with_reducible refine rn hx ?_;rw[hc])
   | with_reducible refine l4.at ?_
   | wp_step)
 exact k
theorem aK{tk:Tok}{R:Result->qI->Prop}(FB:Slot "ValueError" "__getattribute__" "BaseException.__getattribute__")(L:FN prog w h C)(hx:h.get? a=some o)(hc:o.cls = .ref C)(k:R (.ok (.ret (.ref C))) ⟨h,g,d,t,os⟩):
   codeAny (rj prog w) A (.call (.builtin "BaseException.__getattribute__") ⟨[.ref a,.str "__class__" tk],[]⟩) R ⟨h,g,d,t,os⟩ :=
 codeAny_call_builtin FB.plain F.entry_bexc_ga (aJ L hx hc (aI L hx hc k))
theorem xc_by{tk:Tok}{fill:Bool}{Q:qG->qI->Prop}(FB:Slot "ValueError" "__getattribute__" "BaseException.__getattribute__")(L:FN prog w h C)(hx:h.get? a=some o)(hc:o.cls = .ref C)(k:Q (.ref C) ⟨h,g,d,t,os⟩):
   qX (rj prog w) A (getAttrBy (.ref a) (.str "__class__" tk) fill) Q E ⟨h,g,d,t,os⟩:=by
 have f3:=FB.bind (.ref a);have x0:(false&&onTheHeap (gu "BaseException.__getattribute__"))=false:=rfl;have x2:(gu "BaseException.__getattribute__"==gu "object.__getattribute__")=false:=by decide +kernel
 have x1:(onTheHeap (Value.ref C)&&gu "BaseException.__getattribute__"==gu "object.__getattribute__")=false:=by rw[x2,ma]
 have l1:=L.ga;have l2:=L.gat
 repeat (any_goals (first
   | assumption
   | (with_reducible refine rn hx ?_;rw[hc])
   | with_reducible refine l1.at ?_
   | with_reducible refine l2.at ?_
   | wp_step))
 refine aK FB L hx hc ?_
 repeat (any_goals (first | assumption | wp_step))
theorem aL{Q:Option qG->qI->Prop}(FB:Slot "ValueError" "__getattribute__" "BaseException.__getattribute__")(L:FN prog w h C)(hx:h.get? a=some o)(hc:o.cls = .ref C)(k:Q (some (.ref C)) ⟨h,g,d,t+1,os⟩):
   qX (rj prog w) A (getAttr? (.ref a) "__class__") Q E ⟨h,g,d,t,os⟩:=by
 unfold getAttr? getAttrBy?
 repeat (any_goals (first | assumption | with_reducible apply xc_by FB L hx hc | wp_step))
end
section
variable {P:qK}{w:qL}{H H':Hp}{h h' g:rB}{a:qH}{o:HO}
theorem aM(x:A8 P w H h a o):∃ob,h.get? a=some ob:=by
 cases o with
 | lst xs=>obtain⟨_,_,_,_,e⟩:=x;exact⟨_,e⟩
 | tup xs=>obtain⟨_,_,_,ob,e,_⟩:=x;exact⟨_,e⟩
 | dK kvs=>obtain⟨_,_,_,_,ob,_,_,e,_⟩:=x;exact⟨_,e⟩
 | dT kvs=>obtain⟨_,_,_,_,ob,_,_,e,_⟩:=x;exact⟨_,e⟩
 | set S n=>obtain⟨ob,_,_,_,e,_⟩:=x;exact⟨_,e⟩
 | ins C dx fs=>obtain⟨_,_,_,e,_⟩:=x;exact⟨_,e⟩
 | own y=>obtain⟨_,e⟩:=x;exact⟨_,e⟩
 | xd fs=>obtain⟨_,⟨_,_,_,e,_⟩,_⟩:=x;exact⟨_,e⟩
 | rng lo hi=>obtain⟨_,_,_,e⟩:=x;exact⟨_,e⟩
 | frz ob u=>obtain⟨e,_⟩:=x;exact⟨_,e⟩
 | tbl ps=>exact⟨_,(show h.get? a=some _ from x)⟩
 | met f y=>exact⟨_,(show h.get? a=some _ from x)⟩
 | ext φ=>obtain⟨_,e,_⟩:=x;exact e
theorem FO(x:HOk P w H h)(e:h.get? a=none):H a=none:=by
 cases q:H a with
 | none=>rfl
 | some u =>
   obtain⟨ob,z⟩:=aM (x a u q);rw[e] at z;cases z
theorem Jp{fr ex:List qH}(x:HOk P w H h)(u:Upto fr ex h h')(hf:∀b∈fr,H b=none)(he:∀b∈ex,H b=none):HOk P w H h':=λa o e=>by
 have out:∀b v,H b=some v->b ∉ ex/\b ∉ fr:=λb v q=>⟨(λz=>by rw[he b z] at q;cases q),(λz=>by rw[hf b z] at q;cases q)⟩
 refine(x a o e).stay (λb ob hb q=>?_) (λ_ q=>q) λ_ _ q=>q;rcases hb with rfl | hb
 . exact u.keep b ob (out b _ e).1 (out b _ e).2 q
 . exact u.keep b ob (out b _ hb).1 (out b _ hb).2 q
theorem Jq{fs fr ex:List qH}(u:Un fs [] H H' g h)(v:Upto fr ex h h')(hfr:∀b∈fr,b∈fs\/g.get? b=none)(hex:∀b∈ex,g.get? b=none):Un fs [] H H' g h':=by
 have nex:∀b o,g.get? b=some o->b ∉ ex:=λb o q z=>by rw[hex b z] at q;cases q
 refine⟨λb o q n hb hx=>?_,λb o q n hb hx=>?_,u.free,λb o q hx=>?_,u.tups,u.frzs,u.tbls⟩
 . refine v.keep b o (nex b o q) (λz=>?_) (u.keep b o q n hb hx);rcases hfr b z with z | z
   . exact hb z
   . rw[z] at q;cases q
 . obtain⟨sl,q1⟩:=u.slot b o q n hb hx;obtain⟨sl',q2⟩:=v.slot b _ (nex b o q) q1;exact⟨sl',q2⟩
 . obtain⟨o',q1⟩:=u.there b o q hx;obtain⟨sl,q2⟩:=v.slot b o' (nex b o q) q1;exact⟨_,q2⟩
theorem CG{fs:List qH}(u:Un fs [] H H' g h)(e:h.get? a=none):g.get? a=none:=by
 cases q:g.get? a with
 | none=>rfl
 | some o =>
   obtain⟨o',z⟩:=u.there a o q (by simp);rw[e] at z;cases z
end
def Chn(h:rB)(H:Hp)(fr:List qH)(x T:qH)(c:qG):Prop:=∃r,HH.Links r c/\∀p∈r,h.get? p.1=some p.2/\H p.1=none/\p.1 ∉ fr/\p.1≠x/\p.1≠T
def CXe(P:qK)(w:qL):CXT:=λouter H s E e s'=>∃(x C T:qH) (od:Option qH) (H':Hp) (c:qG),e = .ref x/\s'.os=s.os/\AllBare s'.gens/\Un (frs outer) [] H H' s.heap s'.heap/\HOk P w H' s'.heap /\
 s.heap.get? x=none/\s.heap.get? T=none/\H' x=none/\H' T=none/\Exc s'.heap x (.ref C) od T .none c/\Chn s'.heap H' (frs outer) x T c/\E (.ref C) od H'
section
variable {P:qK}{w:qL}{K:γ}{mg:Str->Option qG}{base:rB}{N:List Str}{qual:Str}{scope:qP}{f:qH}{cd:qG}{A:qM}{outer:List rC}{s₀:qI}{H₀:Hp}{EX:XK}
theorem aN{c:qG}{σ:L2.St}{s:qI}{x C:qH}(I:Inv (cxOf (CXe P w) P w K mg base N qual scope f cd A outer s₀ H₀ EX) pins σ H s)(hx:Exc0 s.heap x (.ref C) od c)(nx:s₀.heap.get? x=none)(ux:H x=none)(hch:∃r,HH.Links r c/\∀p∈r,s.heap.get? p.1=some p.2/\H p.1=none/\p.1≠s₀.heap.objs.size/\p.1 ∉ frs outer/\p.1≠x)(q:EX (.ref C) od H):
   (cxOf (CXe P w) P w K mg base N qual scope f cd A outer s₀ H₀ EX).xe (.ref x) s:=by
 refine vy (base:=base) (outer:=outer) I.ok.frames I.stack rfl hx λh' T nT u t=>?_;have hu:Un (frs outer) [] H₀ H s₀.heap s.heap:=I.base;have uT:H T=none:=FO I.hok nT;have ch:Chn h' H (frs outer) x T c:=by
   obtain⟨r,l,k⟩:=hch;refine⟨r,l,λp hp=>?_⟩;obtain⟨k1,k2,k3,k4,k5⟩:=k p hp;have n:p.1≠T:=λz=>by rw[z,nT] at k1;cases k1
   exact⟨u.keep _ _ (λz=>by rcases χ.mp z with z | z;exact k5 z;exact n (by simpa using z)) (λz=>(χ.mp z).elim k3 k4) k1,k2,k4,k5,n⟩
 refine⟨x,C,T,od,H,c,rfl,I.os,I.bare,Jq hu u (λb hb=>?_) (λb hb=>?_),Jp I.hok u I.stkFree (λb hb=>?_),nx,CG hu nT,ux,uT,t,ch,q⟩
 . rcases χ.mp hb with rfl | hb
   . exact .inr (dm (Θ _))
   . exact .inl hb
 . rcases χ.mp hb with rfl | hb
   . exact nx
   . have e:b=T:=by simpa using hb
     subst e;exact CG hu nT
 . rcases χ.mp hb with rfl | hb
   . exact ux
   . have e:b=T:=by simpa using hb
     subst e;exact uT
theorem Bx:Ct (CXe P w) (cxOf (CXe P w) P w K mg base N qual scope f cd A outer s₀ H₀ EX) EX:=by
 rintro pins σ H s e s' I ⟨x,C,T,od,H',c,rfl,os,bare,un,hok,nx,nT,ux,uT,t,⟨rr,lr,kr⟩,q⟩;have I':Inv (cxOf (CXe P w) P w K mg base N qual scope f cd A outer s₀ H₀ EX) pins σ H' s':=by
   obtain⟨hh,gg,dd,tt,oo⟩:=s';obtain rfl:oo=s.os:=os;have z:=I.call (h':=hh) (g':=gg) (d':=dd) (t':=tt) (ch:=[]) un hok bare (λb z=>absurd z (by simp));exact z
 refine vx (base:=base) (outer:=outer) I'.ok.frames I'.stack rfl t λh' T' nT' u t'=>?_;have hu:Un (frs outer) [] H₀ H' s₀.heap s'.heap:=I'.base;have hu0:Un (frs outer) [] H₀ H s₀.heap s.heap:=I.base;have uT':H' T'=none:=FO hok nT';have n0:∀b∈[T,x,T'],s₀.heap.get? b=none:=λb hb=>by
   rcases χ.mp hb with rfl | hb
   . exact CG hu0 nT
   . rcases χ.mp hb with rfl | hb
     . exact CG hu0 nx
     . have e:b=T':=by simpa using hb
       subst e;exact CG hu nT'
 have ch:Chn h' H' (frs outer) x T' c:=by
   refine⟨rr,lr,λp hp=>?_⟩;obtain⟨k1,k2,k3,k4,k5⟩:=kr p hp;have n:p.1≠T':=λz=>by rw[z,nT'] at k1;cases k1
   refine⟨u.keep _ _ (λz=>?_) k3 k1,k2,λz=>k3 (ι _ z),k4,n⟩;rcases χ.mp z with z | z
   . exact k5 z
   . rcases χ.mp z with z | z
     . exact k4 z
     . exact n (by simpa using z)
 refine⟨x,C,T',od,H',c,rfl,I'.os,I'.bare,Jq hu u (λb hb=>?_) n0,Jp hok u I'.stkFree (λb hb=>?_),n0 x (by simp),n0 T' (by simp),ux,uT',t',ch,q⟩
 . rcases χ.mp hb with rfl | hb
   . exact .inr (dm (Θ _))
   . exact .inl hb
 . rcases χ.mp hb with rfl | hb
   . exact uT
   . rcases χ.mp hb with rfl | hb
     . exact ux
     . have e:b=T':=by simpa using hb
       subst e;exact uT'
end
theorem aO{K:γ}{h:rB}{C:qH}{bmB:List qG}{newId:String}(X:K.In h)(q:excIn K C bmB newId=true):
   ∃(bm:List qG) (N:qH) (nm qn:Str) (bs:List qG) (hd:Bool) (sn:List Str) (sub:List qG) (ab:Bool) (col:Option Bool) (dd:Option qH) (k0 k1 k2 k3 k5:Option qG) (mN:Str->Option qG),
     h.get? C=some (excClassObj nm qn C N bs bm hd sn sub ab col dd k0 k1 k2 k3 k5 newId)/\h.Ns N mN/\mN "__init__"=none/\OwnTail h bmB bm/\∀v,mroIn K C v=some ((Value.ref C::bm).contains v):=by
 unfold excIn at q
 split at q
 . rename_i dd cd sl lk
   split at q
   . rename_i C' bm a0 a1 a2 a3 n a5 em es;simp only [gm,beq_iff_eq,nu] at q;obtain⟨⟨⟨⟨⟨eC,rfl⟩,nodel⟩,tl⟩,okN⟩,noI⟩:=q;have eC:=eC.symm;subst eC;have mro:∀v,mroIn K C v=some ((Value.ref C::bm).contains v):=λv=>by
       unfold mroIn clsIn;rw[lk]
       first
         | rfl
         | (simp [em];done)
     obtain⟨nm,bs,mr,ns,qn,hd,sn,sub,ab,col,del⟩:=cd;dsimp only at em nodel okN noI;subst em nodel;have esl:sl=#[a0,a1,a2,a3,some (.builtin n),a5]:=by
       cases sl with
       | mk l =>
         dsimp only at es;rw[es]
     subst esl;exact⟨bm,ns,nm,qn,bs,hd,sn,sub,ab,col,dd,a0,a1,a2,a3,a5,_,X _ _ lk,.of_isNs (PySem.W.isNs_of_in X okN),PySem.W.nsMap_none_of_in X okN noI,PySem.W.tail_of_in X tl,mro⟩
   . cases q
 . cases q
structure uy(K:γ)(mg:Str->Option qG)(x:Str)(C:qH):Prop where
 bound:mg x=some (.ref C)
 ex:∃(bmB:List qG) (B newId initId:String),excIn K C bmB newId=true/\ExcBaseFacts B newId initId bmB/\bmB.contains (.type "BaseException")=true
def Wl(C:qH)(E:XK)(t:TA):TS:=λ_ σ H=>t σ H λxs H1=>xs.length<=qT/\E (.ref C) none H1
section
variable {P:qK}{w:qL}{K:γ}{mg:Str->Option qG}{base:rB}{N:List Str}{qual:Str}{scope:qP}{f:qH}{cd:qG}{A:qM}{outer:List rC}{s₀:qI}{H₀:Hp}{EX:XK}
end
def tT(x C:qH)(od:Option qH):HO:=.ext λh=>∃oe vs,h.get? x=some oe/\oe.cls = .ref C/\oe.dict=od/\oe.data = .fields vs
abbrev Cx.suite(X:Cx)(x:qH):Cx:={ X with A:=X.A.mark (some (.ref x)),calm:=false,xe:=λ_ _=>False }
theorem aQ{X:Cx}(ok:X.Ok)(x:qH):(Cx.suite X x).Ok :=
 ⟨ok.mod,ok.kind,ok.glob,ok.blt,ok.above,ok.inj,ok.has,ok.cab,λz=>(nomatch z),ok.frames,ok.stk,ok.exf,ok.bs,ok.bsz,ok.noex,ok.exfs,ok.funs,ok.frf⟩
theorem Jr{X:Cx}{σ:L2.St}{s:qI}(I:Inv X pins σ H s)(x:qH):Inv (Cx.suite X x) pins σ H s:=⟨aQ I.ok x,I.os,I.bare,I.base,I.loc,I.cell,I.free,I.freeC,I.pin,I.hok,I.len⟩
theorem NA{X:Cx}{σ:L2.St}{s:qI}{x:qH}(ok:X.Ok)(I:Inv (Cx.suite X x) pins σ H s):Inv X pins σ H s:=⟨ok,I.os,I.bare,I.base,I.loc,I.cell,I.free,I.freeC,I.pin,I.hok,I.len⟩
section
variable {X:Cx}
theorem Wm{c:qG}{σ:L2.St}{H':Hp}{s s':qI}{h':rB}{x C T:qH}{fr ex:List qH}(I:Inv X pins σ H s)(os:s'.os=s.os)(bare:AllBare s'.gens)(un:Un (frs X.stack) [] H H' s.heap s'.heap)(hok:HOk X.prog X.w H' s'.heap)
   (nx:s.heap.get? x=none) (ux:H' x=none) (u:Upto fr ex s'.heap h') (hfr:fr=frs X.stack) (nex:∀b∈ex,s.heap.get? b=none/\H' b=none) (t:Exc h' x (.ref C) od T .none c):Inv X pins σ (upd H' x (tT x C od)) { s' with heap:=h' }:=by
 subst hfr;have un2:Un (frs X.stack) [] H H' s.heap h':=Jq un u (λb hb=>.inl hb) λb hb=>(nex b hb).1;have stk:∀b∈frs X.stack,H' b=none:=λb hb=>by
   obtain⟨_,o,ho,_⟩:=I.stack.mem hb;exact un.free b o ho (I.stkFree b hb) (by simp)
 have hok2:HOk X.prog X.w H' h':=Jp hok u stk λb hb=>(nex b hb).2;have nex':∀b v,H' b=some v->b≠x:=λb v e z=>by rw[z,ux] at e;cases e
 have un3:Un (frs X.stack) [] H (upd H' x (tT x C od)) s.heap h':=by
   refine⟨un2.keep,un2.slot,λb o q n hx=>?_,un2.there,λb xs q=>?_,λb o v q=>?_,λb ps q=>?_⟩
   . rw[AC (λz=>by rw[z,nx] at q;cases q)];exact un2.free b o q n hx
   . rw[AC (nex' b _ (un2.tups b xs q))];exact un2.tups b xs q
   . rw[AC (nex' b _ (un2.frzs b o v q))];exact un2.frzs b o v q
   . obtain⟨more,z⟩:=un2.tbls b ps q;exact⟨more,by rw[AC (nex' b _ z)];exact z⟩
 obtain⟨oe,vs,oT,ts,ne,ee,hc,hd,hf,_⟩:=t;have hok3:HOk X.prog X.w (upd H' x (tT x C od)) h':=λb v e=>by
   by_cases z:b=x
   . subst z;rw[upd_same] at e;cases e;exact⟨⟨oe,vs,ee,hc,hd,hf⟩,⟨oe,ee⟩,λh1 h2 ⟨o1,v1,q1,q2,q3,q4⟩ k=>⟨o1,v1,k o1 q1,q2,q3,q4⟩⟩
   . rw[AC z] at e;exact(hok2 b v e).stay (λ_ _ _ q=>q) (λc q=>by rw[AC (nex' c _ q)];exact q) λc xs q=>by rw[AC (nex' c _ q)];exact q
 obtain⟨hh,gg,dd,tt,oo⟩:=s';obtain rfl:oo=s.os:=os;have z:=I.call (h':=h') (g':=gg) (d':=dd) (t':=tt) (ch:=[]) un3 hok3 bare (λb z=>absurd z (by simp));exact z
end
section
variable {X:Cx}
theorem NB{M:rD}{A:qM}{E:qG->qI->Prop}{σ:L2.St}{s:qI}{i:Nat}{n:Str}{pos:Pos}(I:Inv X pins σ H s)(hN:X.N.Nodup)(hi:X.N[i]?=some n)
   (hk:X.env.kindOf n=some .local) (k:∀s',Inv X pins (σ.set i none) H s'->Q () s'):qX M A (do bindName X.env n .none;unbindBehindTheSuite X.env n pos) Q E s:=by
 obtain⟨m,hn,hl⟩:=id I.loc;have iσ:i<σ.length:=by rw[I.len];exact(δ.mp hi).1
 refine wpAny_nameGoes_keeps hk hn (by rw[I.ok.kind];rfl) λh' v hn' hs=>k _ ?_;have far:∀b o,X.s₀.heap.get? b=some o->h'.get? b=s.heap.get? b:=λb o e=>hs.2 b (al (ao (ξ e) I.ok.above));refine⟨I.ok,I.os,I.bare,⟨λb o e z hb hx=>(far b o e).trans (I.base.keep b o e z hb hx),λb o e z hb hx=>?_,I.base.free,λb o e hx=>?_,I.base.tups,I.base.frzs,I.base.tbls⟩,⟨_,hn',λj y w' e1 e2 e3=>?_⟩,λy c e=>?_,I.free,I.freeC,λp hp=>?_,λb ob e=>?_,by rw[eg];exact I.len⟩
 . obtain⟨sl,q⟩:=I.base.slot b o e z hb hx;exact⟨sl,(far b o e).trans q⟩
 . obtain⟨o',q⟩:=I.base.there b o e hx;exact⟨o',(far b o e).trans q⟩
 . have ji:j≠i:=λz=>by
     subst z;rw[cw iσ] at e2;cases e2
   rw[cr (bd ji)] at e2;obtain⟨u',r',q⟩:=hl j y w' e1 e2 e3;refine⟨u',r',?_⟩;rcases q with ⟨kk,e⟩ | ⟨kk,c,e,z⟩
   . have yn:y≠n:=λe=>ji (PU hN e1 (e▸hi));exact .inl ⟨kk,by simp [yn,e]⟩
   . exact .inr ⟨kk,c,e,z.sameBut hs (I.cne y c e)⟩
 . obtain⟨w',z⟩:=I.cell y c e;exact⟨w',z.sameBut hs (I.cne y c e)⟩
 . obtain⟨e,z,ne,nf,d⟩:=I.pin p hp;exact⟨(hs.2 p.1 ne).trans e,z,ne,nf,d⟩
 . refine(I.hok b ob e).stay (λc w' hc q=>(hs.2 c ?_).trans q) (λ_ q=>q) λ_ _ q=>q;rintro rfl;rcases hc with hc | hc
   . rw[<-hc,I.free] at e;cases e
   . rw[I.free] at hc;cases hc
def ECls(K:γ)(C:qH)(bm:List qG):Prop:=∃(nm qn:Str) (N:qH) (bs:List qG) (hd:Bool) (sn:List Str) (sub:List qG) (ab:Bool) (col:Option Bool) (dd:Option qH) (k0 k1 k2 k3 k5:Option qG) (newId:String),
 K.lookup C=some (excClassObj nm qn C N bs bm hd sn sub ab col dd k0 k1 k2 k3 k5 newId)
variable {k:Nat}{f C0:qH}{fd:qJ}{ps:List Str}{sp:Sp}{fx cx:Str}{p cpos epos np hpos pos:Pos}{e:qN}{es:List qN}{ta:TA}{b0:qO}{suite:List qO}{ts:qH->TS}
theorem Wo{σ:L2.St}{s s':qI}{EX:XK}{y:qG}{W:qI->Prop}(I:Inv X pins σ H s)(hst:X.stack=X.env::X.outer/\X.env.frame=some X.env.locals)(hq:CXe X.prog X.w X.stack H s EX y s')
   (k:∀{c:qG} (x C:qH) (od:Option qH) (T:qH) (h2:rB) (H2:Hp),y = .ref x->EX (.ref C) od H2->Exc h2 x (.ref C) od T .none c->Inv X pins σ (upd H2 x (tT x C od)) { s' with heap:=h2 } ->
     (∀h3,Upto (frs X.stack) [T] h2 h3->Exc h3 x (.ref C) od T .none c->H2 x=none/\Inv X pins σ (upd H2 x (tT x C od)) { s' with heap:=h3 })->W { s' with heap:=h2 }) {E':qG->qI->Prop} :
   qX (rj X.prog X.w) X.A (noteFrame y X.env) (λ_ s2=>qX (rj X.prog X.w) X.A (setFlight y none) (λ_ s3=>W s3) E' s2) E' s':=by
 obtain⟨x,C,T,od,H',c,rfl,os,bare,un,hok,nx,nT,ux,uT,t,⟨rr,lr,kr⟩,q⟩:=hq;have I':Inv X pins σ H' s':=by
   obtain⟨hh,gg,dd,tt,oo⟩:=s';obtain rfl:oo=s.os:=os;have z:=I.call (h':=hh) (g':=gg) (d':=dd) (t':=tt) (ch:=[]) un hok bare (λb z=>absurd z (by simp));exact z
 have efr:(X.env::X.outer).filterMap (·.frame)=frs X.stack:=by rw[hst.1];rfl
 refine Nz (base:=X.base) (outer:=X.outer) (by rw[<-hst.1];exact I'.ok.frames) (by rw[<-hst.1];exact I'.stack) hst.2 t λh1 T' nT' u1 t1=>?_;rw[efr] at u1;refine FM (s:={ s' with heap:=h1 }) (fr:=frs X.stack) t1 λh2 u2 t2=>?_;have new:∀b∈[T,x]++[T']++[T'],s.heap.get? b=none/\H' b=none:=λb hb=>by
   simp only [ci,cb,χ,gx,or_false] at hb;rcases hb with rfl | rfl | rfl | rfl
   . exact⟨nT,uT⟩
   . exact⟨nx,ux⟩
   . exact⟨CG un nT',FO hok nT'⟩
   . exact⟨CG un nT',FO hok nT'⟩
 refine k x C od T' h2 H' rfl q t2 (Wm I os bare un hok nx ux (u1.trans u2) rfl (λb hb=>new b (Φ _ hb)) t2) λh3 u3 t3=>⟨ux,Wm I os bare un hok nx ux ((u1.trans u2).trans u3) rfl new t3⟩
end
structure tE(P:qK)(w:qL)(K:γ)(mg:Str->Option qG)(base:rB)(x:Str)(k:Nat)(ps:List Str)(sp:Sp):Prop where
 ex:∃(f:qH) (fd:qJ),FnOk P w K mg base (CXe P w) k f fd ps sp/\mg x=some (.ref f)/\keepIn K (.ref f)=true/\By K fd ps []
section
variable {P:qK}{w:qL}{K:γ}{mg:Str->Option qG}{base:rB}
theorem A5{x qual:Str}{st:qO}{f:qH}{fd:qJ}{N ps:List Str}{k:Nat}{sp:Sp}(F:Fun K x qual st f fd)(S:tD N ps (Am st))
   (hbody:∀(cdv:qG) (A:qM) (outer:List rC) (s:qI) (H:Hp) (vs:List V) (Q:VK) (E:XK),Room k (A.deeper (envOfC qual (Am st) s.heap.objs.size f cdv))->sp vs H Q E ->
     ∃t,PSs (cxOf (CXe P w) P w K mg base N qual (Am st) f cdv A outer s H E) (Bp st) t/\t { nx:=λ_ H'=>Q .non H',rt:=Q } (start N vs) H)(len:∀vs H Q E,sp vs H Q E->vs.length=ps.length:=by intro vs H Q E h;revert h;walk_at "l"):FnOk P w K mg base (CXe P w) (k+1) f fd ps sp:=by
 obtain⟨oc,od,kV,doc,pm,an,cdv,ct,osl,rfl,lk,hcd⟩:=F.ex;exact P5 lk hcd S len λA outer s H vs Q E hr hsp=>hbody cdv A outer s H vs Q E hr hsp
theorem Src.okx{x:Str}{st:qO}{N ps:List Str}{k:Nat}{sp:Sp}(S:Src K mg x st)(sc:tD N ps (Am st))
   (hb:∀(kV doc pm:qG) (an:Option qH) (cdv ct:qG) (us:List qG),us.length=ps.length->qS (fnOf x x (BA st) (Bp st) (Am st) .none kV doc pm an cdv ct) ⟨us,[]⟩=pure (ps.zip us))
   (hbody:∀(f:qH) (cdv:qG) (A:qM) (outer:List rC) (s:qI) (H:Hp) (vs:List V) (Q:VK) (E:XK),Room k (A.deeper (envOfC x (Am st) s.heap.objs.size f cdv))->sp vs H Q E ->
     ∃t,PSs (cxOf (CXe P w) P w K mg base N x (Am st) f cdv A outer s H E) (Bp st) t/\t { nx:=λ_ H'=>Q .non H',rt:=Q } (start N vs) H)(len:∀vs H Q E,sp vs H Q E->vs.length=ps.length:=by intro vs H Q E h;revert h;walk_at "l"):tE P w K mg base x (k+1) ps sp:=by
 obtain⟨f,fd,F,hm⟩:=S.ex;exact⟨f,fd,A5 F sc (hbody f) len,hm,F.kp,F.binds hb⟩
end
section
variable {X:Cx}
theorem BD:Ct (CXe X.prog X.w) X E0:=by
 rintro pins σ H s e s' I ⟨x,C,T,od,H',c,_,_,_,_,_,_,_,_,_,_,_,q⟩;exact q.elim
theorem As[Calm X]{x:Str}{j k:Nat}{ps:List Str}{sp:Sp}{p pos:Pos}{e:qN}{es:List qN}{t:TA}(D:tE X.prog X.w X.K X.mg X.base x j ps sp)(hr:Room k X.A)(hg:Gl X x)(ha:PA X (e::es) t)(hk:j<=k:=by decide)
   (hdb:(x==("__debug__":Str))=false:=by decide) (he:qR (e::es) X.env=(false,rh e X.env)::qR es X.env:=by rfl) (hpl:(qY pos (qR es X.env)).any (·.1)=false:=by rfl):
   PE X (.Call (.Name x p) (e::es) [] pos) (Jm sp [] E0 t):=by
 obtain⟨f,fd,F,hm,kp,b⟩:=D.ex;exact V0 F (hr.mono hk) hg hm kp b .nil BD ha hdb he hpl
variable {j k:Nat}{C0:qH}{ps:List Str}{sp:Sp}{fx cx:Str}{p cpos epos np hpos pos:Pos}{e:qN}{es:List qN}{ta:TA}{b0:qO}{suite:List qO}{ts:qH->TS}
end
section
variable{X:Cx}{pos:Pos}
theorem i_(i:Nat){x:Str}{e:qN}{te:TE}{pos':Pos}{u:List Str}{v}(S:tD X.N u v)(he:PE X e te)(hi:X.N[i]?=some x:=by rfl)(hx:Loc X.env.scope x:=by exact υ rfl)(hs:swapsWith e (some (.Name x pos')) pos.line X.env=pure false:=by rfl)(hf:X.fn x=true\/X.env.scope.names.lookup x=some .local:=by first | exact .inl rfl | exact .inr rfl | assumption):PS X (.Assign [.Name x pos'] e pos) (uB te (FG i)):=Au S.nd hi hx he hs hf
theorem j_(i:Nat){x:Str}{u:List Str}{v}(S:tD X.N u v)(hi:X.N[i]?=some x:=by rfl)(hx:Loc X.env.scope x:=by exact υ rfl)(hf:X.fn x=true\/X.env.scope.names.lookup x=some .local:=by first | exact .inl rfl | exact .inr rfl | assumption):PG X (.Name x pos) (FG i):=AD S.nd hi hx hf
theorem k_[Calm X]{x:Str}{j k:Nat}{ps:List Str}{sp:Sp}{p pos:Pos}{e:qN}{es:List qN}{t:TA}(D:tE X.prog X.w X.K X.mg X.base x j ps sp)(hr:Room k X.A)(ha:PA X (e::es) t)(hg:Gl X x:=by rfl)(hk:j<=k:=by decide)(hdb:(x==("__debug__":Str))=false:=by decide) (he:qR (e::es) X.env=(false,rh e X.env)::qR es X.env:=by rfl) (hpl:(qY pos (qR es X.env)).any (·.1)=false:=by rfl):PE X (.Call (.Name x p) (e::es) [] pos) (Jm sp [] E0 t):=As D hr hg ha hk hdb he hpl
abbrev ld{X x pos}:=@pv X 1 x pos
abbrev l_{X x pos}:=@pv X 0 x pos
abbrev mt{X x pos}:=@pv X 2 x pos
abbrev m_{X x pos}:=@pv X 3 x pos
abbrev n_{X x pos}:=@pv X 4 x pos
abbrev o_{X x pos}:=@pv X 5 x pos
abbrev p_{X x pos}:=@pv X 7 x pos
abbrev q_{X x pos}:=@pv X 6 x pos
end
theorem Lk.of{M:rD}{h:rB}{α:Type}{m:rq α}{v:α}(l:pW M h m v):Lk M h m v:=λA E g d t os Q q=>l A Q E ⟨h,g,d,t,os⟩ (λ_ _ e=>e) q
structure XK0(K:γ)(C:qH):Prop where
 ga:findIn K (.ref C) "__getattribute__"=some (some (.builtin "BaseException.__getattribute__"))
 gat:findIn K (.ref C) "__getattr__"=some none
 cls:findIn K (.ref C) "__class__"=some (some (.builtin "object.__class__"))
 obj:mroIn K C (.type "object")=some true
 exc:mroIn K C (.type "BaseException")=some true
theorem XK0.lk{prog:qK}{w:qL}{K:γ}{C:qH}{h:rB}(x:XK0 K C)(KX:K.In h):FN prog w h C :=
 ⟨.of (looks_findIn KX x.ga),.of (looks_findIn KX x.gat),.of (looks_findIn KX x.cls),.of (looks_mroIn KX x.obj),.of (looks_mroIn KX x.exc)⟩
theorem aR{K:γ}{x C:qH}(FB:Slot "ValueError" "__getattribute__" "BaseException.__getattribute__")(Z:XK0 K C):PySem.W.KitX K (.ref x) (.ref C) (λh=>∃ox,h.get? x=some ox/\ox.cls = .ref C) where
 ty:=λM h KX ⟨ox,e,hc⟩ A Q E s k q=>by
   unfold typeOf
   refine qU (wpAny_loadPart (k _ _ e) ?_)
   rw[hc]
   exact qV q
 it:=λM h KX _ A Q E s k q=>by
   obtain⟨cd,hcd,_⟩:=im.mp Z.obj
   unfold clsIn at hcd
   split at hcd
   . rename_i lk
     unfold isType loadHead
     exact qU (wpAny_loadPart (k _ _ (KX _ _ lk)) (qV q))
   . cases hcd
 ne:=λh tp dd its n sl KX htp=>by
   obtain⟨cd,hcd,_⟩:=im.mp Z.obj
   refine Bool.eq_false_iff.mpr λq=>?_
   have e:C=tp:=Value.ref.inj (beq_iff_eq.mp q)
   subst e
   unfold clsIn at hcd
   split at hcd
   . rename_i lk
     have z:=(KX _ _ lk).symm.trans htp
     cases z
   . cases hcd
 ca:=λ{_ _ _ _ _ s} KX ⟨ox,e,hc⟩ k=>by
   obtain⟨h,g,d,t,os⟩:=s
   exact aL FB (Z.lk KX) e hc k
def uw:V->qG
 | .ty n=>.type n
 | .ref a=>.ref a
 | _=>.none
section
variable {X:Cx}
theorem CI(FB:Slot "ValueError" "__getattribute__" "BaseException.__getattribute__"):DW X (.builtin "isinstance") (λxs H Q=>∃x C od v b,xs=[.ref x,v]/\H x=some (tT x C od)/\XK0 X.K C/\uw v≠.none/\kitOne X.K (.ref C) (uw v)=some b/\Q (.bl b) H):=by
 intro pins s σ H xs us Q I r h;obtain⟨x,C,od,v,b,rfl,hx,Z,nv,e,q⟩:=h;obtain⟨u,u',rfl,rx,ry⟩:=Id r;cases (show u=Value.ref x from rx);have ev:u'=uw v:=by
   cases v with
   | ty n=>exact ry
   | ref a=>exact ry
   | _=>exact absurd rfl nv
 subst ev;obtain⟨⟨oe,vs,ee,hc,_⟩,_⟩:=I.hok x _ hx;exact kia_one (aR FB Z) I.kIn ⟨oe,ee,hc⟩ e (λz=>nomatch z) λtk=>⟨.bl b,H,I.tok tk,rfl,q⟩
end
def Wp:List qG->Bool
 | .ref _::r=>Wp r
 | l=>l==[.type "ValueError",.type "Exception",.type "BaseException",.type "object"]
section
variable {prog:qK}{w:qL}{A:qM}{K:γ}{x C:qH}{s:qI}
end
open Sem (wp)
section
variable {prog:qK}{w:qL}{A:qM}{E:qG->qI->Prop}{h:rB}{g:Array qQ}{d:rg}{t:Nat}{os:OsState}{a C:qH}{o:Obj}{name:Str}{v:qG}
end
structure XSet(K:γ)(C:qH)(f:Str):Prop where
 sa:findIn K (.ref C) "__setattr__"=some (some (.builtin "object.__setattr__"))
 cd:∃cd,clsIn K C=some cd/\Wp cd.mro=true/\cd.hasDict=true
 ob:mroIn K C (.type "object")=some true
 no:findIn K (.ref C) f=some none
section
variable {X:Cx}{o e value:qN}{f:Str}{pos pos':Pos}{ta tv:TE}
end
open Sem (wp)
section
variable {prog:qK}{w:qL}{A:qM}{E:qG->qI->Prop}{h:rB}{g:Array qQ}{d:rg}{t:Nat}{os:OsState}
variable {nm q:Str}{C N:qH}{bs bm bmB:List qG}{hdct:Bool}{sn:List Str}{sub:List qG}{ab:Bool}{col:Option Bool}{dd:Option qH}{k0 k1 k2 k3 k5:Option qG}{B newId initId:String}
def Rsd(A:qM)(E:qG->qI->Prop)(C e:qH)(od:Option qH)(s1:qI):Prop:=∃cs,HH.HL A cs/\HH.Stand s1.heap cs/\(∀p∈cs,p.1≠e)/\∀h' o vs c r,(∀b o,b≠e->s1.heap.get? b=some o->h'.get? b=some o)->h'.get? e=some o->o.cls = .ref C->o.dict=od->o.data = .fields vs->vs[1]?=some .none->vs[2]?=some c->HH.Links r c->(∀p∈r,p∈cs)->E (.ref e) { s1 with heap:=h' }
theorem aS{env:rC}{s:qI}{x:rq qG}{Q:Flow->qI->Prop}(hbase:bm.contains (.type "BaseException")=true)
   (k:qX (rj prog w) A x (λv s1=>∃e od tt,v = .ref e/\s1.heap.get? C=some (excClassObj nm q C N bs bm hdct sn sub ab col dd k0 k1 k2 k3 k5 newId)/\s1.heap.get? e=some { cls:=.ref C,dict:=od,data:=.fields #[.ref tt,.none,.none,.none,.bool false,.none] }/\Rsd A E C e od s1) E s):
   qX (rj prog w) A (raiseStmt env (some x) none) Q E s:=by
 have cB:(Value.ref C::bm).contains (.type "BaseException")=true:=by rw[List.contains_cons,hbase,Bool.or_true]
 unfold raiseStmt;refine qU (qW k (λv s1 k1=>?_) λ_ _ z=>z);obtain⟨e,od,tt,rfl,hC,he,z⟩:=k1;obtain⟨hp,gg,d1,tk,os1⟩:=s1
 repeat (first
   | with_reducible refine rn he ?_
   | with_reducible refine rn hC ?_
   | (with_reducible refine wpAny_isSubtype_exc hC ?_;rw[cB])
   | wp_step)
 obtain⟨cs,l,st,ne,z⟩:=z;exact HH.raiseAny l st ne he rfl rfl λh' o c r kp e1 e2 e3 e4 lr sb=>z h' o _ c r kp e1 e2 e3 e4 rfl rfl lr sb
end
theorem tcall:(fastLookup "type" (av "__call__")==some (some (gu "type.__call__")))=true:=by decide +kernel
theorem aT{K:γ}{C:qH}{bmB:List qG}{newId:String}(q:excIn K C bmB newId=true):keepIn K (.ref C)=true:=by
 unfold excIn at q
 split at q
 . rename_i dd cd sl lk;unfold keepIn;dsimp only;rw[lk];dsimp only;unfold specialIn;have ty:typeIn K (.ref C)=some (.type "type"):=by
     unfold typeIn;dsimp only;rw[lk];rfl
   rw[ty];exact tcall
 . cases q
section
variable {P:qK}{w:qL}{K:γ}{mg:Str->Option qG}{base:rB}{N:List Str}{qual:Str}{scope:qP}{f:qH}{cd:qG}{A:qM}{outer:List rC}{s₀:qI}{H₀:Hp}{EX:XK}
theorem Fd{x:Str}{C:qH}{np cpos pos:Pos}{e:qN}{es:List qN}{t:TA}(XC:uy K mg x C)
   (hg:Gl (cxOf (CXe P w) P w K mg base N qual scope f cd A outer s₀ H₀ EX) x) (ha:PA (cxOf (CXe P w) P w K mg base N qual scope f cd A outer s₀ H₀ EX) (e::es) t)
   (hdb:(x==("__debug__":Str))=false:=by decide) (he:qR (e::es) (cxOf (CXe P w) P w K mg base N qual scope f cd A outer s₀ H₀ EX).env=(false,rh e (cxOf (CXe P w) P w K mg base N qual scope f cd A outer s₀ H₀ EX).env)::qR es (cxOf (CXe P w) P w K mg base N qual scope f cd A outer s₀ H₀ EX).env:=by rfl)
   (hpl:(qY cpos (qR es (cxOf (CXe P w) P w K mg base N qual scope f cd A outer s₀ H₀ EX).env)).any (·.1)=false:=by rfl):
   PS (cxOf (CXe P w) P w K mg base N qual scope f cd A outer s₀ H₀ EX) (.Raise (some (.Call (.Name x np) (e::es) [] cpos)) none pos) (Wl C EX t):=by
 intro pins s σ H D I h;obtain⟨bmB,B,newId,initId,q,FB,hB⟩:=XC.ex;obtain⟨bm,NN,nm,qn,bs,hd,sn,sub,ab,col,dd,k0,k1,k2,k3,k5,mN,hC,hN,noI,tl,_⟩:=aO I.mod.kin q;rw[arm_exec_Raise];refine qU (wpAny_standAt (aS (C:=C) (nm:=nm) (q:=qn) (N:=NN) (bs:=bs) (bm:=bm) (hdct:=hd) (sn:=sn) (sub:=sub) (ab:=ab) (col:=col) (dd:=dd) (k0:=k0) (k1:=k1) (k2:=k2) (k3:=k3) (k5:=k5) (newId:=newId) (tl.hasType hB) ?_));refine qU (qW ?_ (λv s1 hv=>qU (wpAny_standAt (qV hv))) (λ_ _ z=>z));refine wpAny_Call_Name_kw (DV I hg XC.bound ?_ hdb);refine callWith_K (h₀:=base) I.ok.mod.kin (aT q) (thn (ha cpos pins s σ H _ I h) λus s1 ⟨vs,H1,I1,r,hz,q2⟩=>⟨I1.kIn,?_⟩) he hpl;obtain⟨cs,l,_,kc⟩:=I1.hdAt rfl;have gC:=I1.bk _ _ hC;have gN:=hN.keeps I1.bk;have gT:=tl.keeps I1.bk;obtain⟨hp,gg,d1,tk,os1⟩:=s1;refine wpAny_call_exc_subT FB gT gC gN noI (λh' y hm=>?_) (by show us.length<=qT;rw[<-r.length];exact hz);obtain⟨tt,ey,_,_⟩:=hm.there;have ny:∀p∈cs,p.1≠y:=λp hp z=>by
   have e:=(kc p hp).1;rw[z] at e;rw[hm.new] at e;cases e
 refine⟨y,none,tt,rfl,hm.keeps _ _ gC,ey,cs,l,λp hp=>hm.keeps _ _ (kc p hp).1,ny,λh2 o vs2 c r2 kp e1 e2 e3 e4 e5 e6 lr sb=>?_⟩;have kp2:∀b o,hp.get? b=some o->h2.get? b=some o:=λb o e=>kp b o (λz=>by rw[z,hm.new] at e;cases e) (hm.keeps b o e);have I3:=I1.kept (h':=h2) (t':=tk) kp2;exact aN I3 ⟨o,vs2,e1,e2,e3,e4,e5,e6⟩ (CG (show Un (frs outer) [] H₀ H1 s₀.heap hp from I1.base) hm.new) (FO I1.hok hm.new) ⟨r2,lr,λp hp'=>by
   obtain⟨k1,k2,k3,k4⟩:=kc p (sb p hp');exact⟨kp2 _ _ k1,k2,k3,k4,ny p (sb p hp')⟩⟩ q2
end
structure XIni(K:γ)(mg:Str->Option qG)(x:Str)(C C0 fI:qH):Prop where
 bound:mg x=some (.ref C)
 lk:∃(nm qn:Str) (N:qH) (bs:List qG) (hd:Bool) (sn:List Str) (sub:List qG) (ab:Bool) (col:Option Bool) (dd:Option qH) (k0 k1 k2 k3 k5:Option qG),
   K.lookup C=some (excClassObj nm qn C N bs (.ref C0::[.type "ValueError",.type "Exception",.type "BaseException",.type "object"]) hd sn sub ab col dd k0 k1 k2 k3 k5 "ValueError.__new__")
 base:excIn K C0 [.type "ValueError",.type "Exception",.type "BaseException",.type "object"] "ValueError.__new__"=true
 ini:findIn K (.ref C) "__init__"=some (some (.ref fI))
 keep:keepIn K (.ref C)=true
 fn:∃(c:qG) (dd:Option qH) (da:Data) (sl:Array (Option qG)),K.lookup fI=some ⟨c,dd,da,sl⟩/\c = .type "function"
def del(H:Hp)(x:qH):Hp:=λb=>if b=x then none else H b
section
variable {P:qK}{w:qL}{K:γ}{mg:Str->Option qG}{base:rB}{N:List Str}{qual:Str}{scope:qP}{f:qH}{cd:qG}{A:qM}{outer:List rC}{s₀:qI}{H₀:Hp}{EX:XK}
end
structure DefI(P:qK)(w:qL)(K:γ)(mg:Str->Option qG)(base:rB)(x:Str)(C C0:qH)(j:Nat)(ps:List Str)(sp:Sp):Prop where
 ex:∃(fI:qH) (fd:qJ),XIni K mg x C C0 fI/\FnOk P w K mg base (CXe P w) j fI fd ps sp/\By K fd ps []
section
variable {P:qK}{w:qL}{K:γ}{mg:Str->Option qG}{base:rB}{N:List Str}{qual:Str}{scope:qP}{f:qH}{cd:qG}{A:qM}{outer:List rC}{s₀:qI}{H₀:Hp}{EX:XK}
theorem Fe{x:Str}{j k:Nat}{ps:List Str}{sp:Sp}{p pos:Pos}{e:qN}{es:List qN}{t:TA}(D:tE P w K mg base x j ps sp)(hr:Room k (cxOf (CXe P w) P w K mg base N qual scope f cd A outer s₀ H₀ EX).A)
   (hg:Gl (cxOf (CXe P w) P w K mg base N qual scope f cd A outer s₀ H₀ EX) x) (ha:PA (cxOf (CXe P w) P w K mg base N qual scope f cd A outer s₀ H₀ EX) (e::es) t) (hk:j<=k:=by decide)
   (hdb:(x==("__debug__":Str))=false:=by decide) (he:qR (e::es) (cxOf (CXe P w) P w K mg base N qual scope f cd A outer s₀ H₀ EX).env=(false,rh e (cxOf (CXe P w) P w K mg base N qual scope f cd A outer s₀ H₀ EX).env)::qR es (cxOf (CXe P w) P w K mg base N qual scope f cd A outer s₀ H₀ EX).env:=by rfl)
   (hpl:(qY pos (qR es (cxOf (CXe P w) P w K mg base N qual scope f cd A outer s₀ H₀ EX).env)).any (·.1)=false:=by rfl):
   PE (cxOf (CXe P w) P w K mg base N qual scope f cd A outer s₀ H₀ EX) (.Call (.Name x p) (e::es) [] pos) (Jm sp [] EX t):=by
 obtain⟨f',fd,F,hm,kp,b⟩:=D.ex;exact V0 F (hr.mono hk) hg hm kp b .nil Bx ha hdb he hpl
end
section
variable {K:γ}{σ:L2.St}{H:Hp}{D:Ends}
theorem r_raise{C:qH}{E:XK}{t:TA}(h:t σ H λxs H1=>xs.length<=qT/\E (.ref C) none H1):Wl C E t D σ H:=h
theorem r_isiX{x C C':qH}{b:Bool}{P:Bool->Prop}(h:H x=some (tT x C od))(z:XK0 K C)(e:kitOne K (.ref C) (.ref C')=some b)(q:P b):
   ∃x' C0 od' v b',[V.ref x,V.ref C']=[V.ref x',v]/\H x'=some (tT x' C0 od')/\XK0 K C0/\uw v≠.none/\kitOne K (.ref C0) (uw v)=some b'/\P b':=⟨x,C,od,.ref C',b,rfl,h,z,(λz=>nomatch z),e,q⟩
end
section
variable {X:Cx}{x:Str}{C:qH}{p pos:Pos}{e:qN}{es:List qN}{t:TA}
end
section
variable {K:γ}{σ:L2.St}{H:Hp}{Q:VK}
end
section
variable {X:Cx}
theorem aU{X:Cx}{σ:L2.St}{s:qI}{fp:List qH}(I:Inv X pins σ H s)(hc:X.calm=true)(hf:∀b∈fp,uc X pins H b):∃cs,HH.HL X.A cs/\(X.A.handled=none->cs=[])/\∀p∈cs,s.heap.get? p.1=some p.2/\H p.1=none/\p.1 ∉ frs X.stack/\p.1 ∉ fp:=by
 obtain⟨cs,l,z,k⟩:=I.ok.hd hc;refine⟨cs,l,z,λp hp=>?_⟩;have r:=I.hdFor k p hp;refine⟨r.1,r.2.1,λw=>(χ.mp (I.stkSub _ w)).elim r.2.2.1 r.2.2.2,λhb=>?_⟩;obtain⟨f0,f1,f2,f3,f4,f5⟩:=hf _ hb;rcases k p hp with ⟨e,n,nf,nx⟩ | q
 . rcases f3 with f3 | f3
   . exact nx f3
   . exact absurd (ao (ξ e) f3) (bh _)
 . exact f5 p (Φ _ q) rfl
def PTs(X:Cx)(ifs:List qN)(t:TT):Prop:=∀(pins:List (qH×Obj)) (s:qI) (σ:L2.St) (H:Hp) (Q:Bool->Hp->Prop),Inv X pins σ H s->t σ H Q ->
 qX (rj X.prog X.w) X.A (forIn ifs true λc r=>if r=true then do let ok <-isTrue c X.env (rh c X.env);pure (ForInStep.yield ok) else pure (ForInStep.yield r)) (TP X pins σ Q) X.xe s
theorem Im:PTs X [] (λ_ H Q=>Q true H):=λpins s σ H Q I q=>wpAny_tests_nil ⟨H,I,q⟩
theorem NC{c:qN}{t:TT}(h:PT X c t):PTs X [c] t:=λpins s σ H Q I q=>wpAny_tests_one (h pins s σ H Q I q)
end
section
variable {K:γ}{σ:L2.St}{H:Hp}{Q:VK}{D:Ends}
theorem r_next(h:D.nx σ H):PY D σ H:=h
theorem r_seq{t u:TS}(h:t { D with nx:=u D } σ H):uq t u D σ H:=h
theorem r_nx{f:L2.St->Hp->Prop}{r:VK}{b c:L2.St->Hp->Prop}(h:f σ H):Ends.nx ⟨f,r,b,c⟩ σ H:=h
theorem r_rt{f:L2.St->Hp->Prop}{r:VK}{b c:L2.St->Hp->Prop}{v:V}(h:r v H):Ends.rt ⟨f,r,b,c⟩ v H:=h
theorem r_drop{te:TE}(h:te σ H λ_ H1=>D.nx σ H1):uO te D σ H:=h
theorem r_ret{te:TE}(h:te σ H D.rt):tRet te D σ H:=h
theorem r_ifS{c:TT}{t u:TS}(h:c σ H λb H1=>if b=true then t D σ H1 else u D σ H1):vZ c t u D σ H:=h
theorem r_asg{te:TE}{g:TG}(h:te σ H λx H1=>g x σ H1 D.nx):uB te g D σ H:=h
theorem r_gname{i:Nat}{v:V}{R:L2.St->Hp->Prop}(h:R (σ.set i (some v)) H):FG i v σ H R:=h
theorem r_gsub{to ti:TE}{t:wk}{v:V}{R:L2.St->Hp->Prop}(h:to σ H λo H1=>ti σ H1 λi H2=>t o i v H2 λH3=>R σ H3):gSub to ti t v σ H R:=h
theorem r_var{i:Nat}{v:V}(e:σ[i]?=some (some v))(h:Q v H):vX i σ H Q:=⟨v,e,h⟩
theorem r_c{v:V}(h:Q v H):tC v σ H Q:=h
theorem r_op{r:R2}{ta tb:TE}(h:ta σ H λx H1=>tb σ H1 λy H2=>r x y H2 Q):tOp r ta tb σ H Q:=h
theorem r_un{r:V->Hp->VK->Prop}{ta:TE}(h:ta σ H λx H1=>r x H1 Q):tUn r ta σ H Q:=h
theorem r_rI0{g:Int->Int->V}{i j:Int}(h:Q (g i j) H):rI0 g (.int i) (.int j) H Q:=⟨i,j,rfl,rfl,h⟩
theorem r_rI{C:Int->Int->Prop}{g:Int->Int->V}{i j:Int}(c:C i j)(h:Q (g i j) H):rI C g (.int i) (.int j) H Q:=⟨i,j,rfl,rfl,c,h⟩
theorem r_rU{g:Int->V}{i:Int}(h:Q (g i) H):rU g (.int i) H Q:=⟨i,rfl,h⟩
theorem decV{i j:Int}:decide (V.int i=V.int j)=decide (i=j):=by rw[Nn];exact Bool.beq_eq_decide_eq i j
theorem r_eqI{i j:Int}(h:Q (.bl (decide (i=j))) H):rEq (.int i) (.int j) H Q:=⟨rfl,by rw[decV];exact h⟩
theorem r_neI{i j:Int}(h:Q (.bl (!decide (i=j))) H):rNe (.int i) (.int j) H Q:=⟨rfl,by rw[decV];exact h⟩
theorem r_isN{P:Prop}(h:P):V.non=V.non/\P:=⟨rfl,h⟩
theorem r_bl{b:Bool}{P:Bool->Prop}(h:P b):∃k,V.bl b=V.bl k/\P k:=⟨b,rfl,h⟩
theorem r_int{i:Int}{P:Int->Prop}(h:P i):∃k,V.int i=V.int k/\P k:=⟨i,rfl,h⟩
theorem r_test{t:TE}{R:Bool->Hp->Prop}(h:t σ H λx H'=>∃k,x = .bl k/\R k H'):P3 t σ H R:=h
theorem r_tB{t:TE}{R:Bool->Hp->Prop}(h:t σ H λx H'=>∃k,x = .bl k/\R k H'):tB t σ H R:=h
theorem r_and{t u:TT}{R:Bool->Hp->Prop}(h:t σ H λc H1=>if c=true then u σ H1 R else R false H1):tAnd t u σ H R:=h
theorem r_or{t u:TT}{R:Bool->Hp->Prop}(h:t σ H λc H1=>if c=true then R true H1 else u σ H1 R):tOr t u σ H R:=h
theorem r_not{t:TT}{R:Bool->Hp->Prop}(h:t σ H λc H1=>R (!c) H1):tNot t σ H R:=h
theorem r_andV{ta tb:TE}(h:ta σ H λx H1=>∃c,x = .bl c/\if c=true then tb σ H1 Q else Q (.bl false) H1):Nk ta tb σ H Q:=h
theorem r_orV{ta tb:TE}(h:ta σ H λx H1=>∃c,x = .bl c/\if c=true then Q (.bl true) H1 else tb σ H1 Q):vY ta tb σ H Q:=h
theorem r_notV{ta:TE}(h:ta σ H λx H1=>∃c,x = .bl c/\Q (.bl (!c)) H1):uM ta σ H Q:=h
theorem r_ifE{t:TT}{ta tb:TE}(h:t σ H λc H1=>if c=true then ta σ H1 Q else tb σ H1 Q):tIf t ta tb σ H Q:=h
theorem r_cons{ta:TE}{tr:TA}{R:List V->Hp->Prop}(h:ta σ H λx H1=>tr σ H1 λxs H2=>R (x::xs) H2):Nr ta tr σ H R:=h
theorem r_nil{R:List V->Hp->Prop}(h:R [] H):ur σ H R:=h
theorem r_tup{t:TA}(h:t σ H λxs H1=>xs.length<=qT/\∀p,H1 p=none->Q (.ref p) (upd H1 p (.tup xs))):tTup t σ H Q:=h
theorem r_lst{t:TA}(h:t σ H λxs H1=>xs.length<=qT/\∀p,H1 p=none->Q (.ref p) (upd H1 p (.lst xs))):tLst t σ H Q:=h
theorem r_call{sp:Sp}{E:XK}{t:TA}(h:t σ H λvs H1=>sp vs H1 Q E):Jm sp [] E t σ H Q:=by
 have e:(λ(vs:List V) H1=>sp (vs++[]) H1 Q E)=λvs H1=>sp vs H1 Q E:=by funext vs H1;rw[bg]
 show t σ H λvs H1=>sp (vs++[]) H1 Q E;rw[e];exact h
theorem r_cb{r:List V->Hp->VK->Prop}{t:TA}(h:t σ H λvs H1=>r vs H1 Q):tCB r t σ H Q:=h
theorem r_sl{r:V->Option Int->Option Int->Hp->VK->Prop}{te:TE}{tl th:TO}(h:te σ H λx H1=>tl σ H1 λl H2=>th σ H2 λu H3=>r x l u H3 Q):tSl r te tl th σ H Q:=h
theorem r_nopart{R:Option Int->Hp->Prop}(h:R none H):V6 σ H R:=h
theorem r_part{t:TE}{R:Option Int->Hp->Prop}(h:t σ H λx H1=>∃i,x = .int i/\R (some i) H1):uL t σ H R:=h
theorem r_bm{T:String}{r:V->List V->Hp->VK->Prop}{to:TE}{t:TA}(h:to σ H λx H1=>tyV K T x H1/\t σ H1 λxs H2=>r x xs H2 Q):tBM K T r to t σ H Q:=h
theorem r_bm0{T:String}{r:V->List V->Hp->VK->Prop}{to:TE}(h:to σ H λx H1=>tyV K T x H1/\r x [] H1 Q):tBM0 K T r to σ H Q:=h
theorem r_tyL{p:qH}{xs:List V}{P:Prop}(h:H p=some (.lst xs))(q:P):tyV K "list" (.ref p) H/\P:=⟨.inl ⟨rfl,xs,SqL.of h⟩,q⟩
theorem r_append{l:qH}{xs:List V}{y:V}(h:H l=some (.lst xs))(hz:xs.length<qT)(q:Q .non (upd H l (.lst (xs++[y])))):We (.ref l) [y] H Q:=⟨l,xs,y,rfl,rfl,h,hz,q⟩
theorem r_cat{l b:qH}{xs zs:List V}(h:H l=some (.lst xs))(h2:H b=some (.lst zs))(hz:xs.length+zs.length<=qT)(q:∀p,H p=none->Q (.ref p) (upd H p (.lst (xs++zs)))):v_ (.ref l) (.ref b) H Q:=⟨l,b,xs,zs,rfl,rfl,h,h2,hz,q⟩
theorem Ff{p:qH}{xs:List V}{i:Int}{v:V}(h:SqL K H p xs)(e:atI xs i=some v)(q:Q v H):va K (.ref p) (.int i) H Q:=⟨p,xs,i,v,rfl,rfl,h,e,q⟩
theorem r_ixT{p:qH}{xs:List V}{i:Int}{v:V}(h:H p=some (.tup xs))(e:atI xs i=some v)(q:Q v H):rIxT K (.ref p) (.int i) H Q:=⟨p,xs,i,v,rfl,rfl,SqT.of h,e,q⟩
theorem r_ixI{p:qH}(h:SqL K H p (ns.map V.int))(h0:0<=k)(h1:k<ns.length)(q:Q (.int (ns.getD k.toNat 0)) H):va K (.ref p) (.int k) H Q:=⟨p,_,k,_,rfl,rfl,h,aE ns k h0 h1,q⟩
theorem Wq{n:Nat}(h0:0<=k)(h:k<n):ixN n k=some k.toNat:=by
 unfold ixN;rw[if_pos h0,if_pos h]
theorem r_setI{p:qH}{x:Int}{R:Hp->Prop}(h:H p=some (.lst (ns.map V.int)))(h0:0<=k)(h1:k<ns.length)(q:R (upd H p (.lst ((ns.set k.toNat x).map V.int)))):P7 (.ref p) (.int k) (.int x) H R:=by
 refine⟨p,_,k,k.toNat,rfl,rfl,h,Wq h0 (by rw[ε];exact h1),?_⟩;rw[List.map_set] at q;exact q
theorem r_lenI{p:qH}{P:List V->Prop}(h:SqL K H p (ns.map V.int))(q:P (ns.map V.int)):∃p' ys,[V.ref p]=[V.ref p']/\(SqL K H p' ys\/SqT K H p' ys)/\P ys:=⟨p,_,rfl,.inl h,q⟩
theorem r_lenL{p:qH}{xs:List V}{P:List V->Prop}(h:H p=some (.lst xs))(q:P xs):∃p' ys,[V.ref p]=[V.ref p']/\(SqL K H p' ys\/SqT K H p' ys)/\P ys:=⟨p,_,rfl,.inl (SqL.of h),q⟩
theorem r_isi{x:V}{n:String}{t:qG}{b:Bool}{P:Bool->Prop}(ty:TyOf K H x t)(e:kitOne K t (.type n)=some b)(q:P b):∃x' n' t' b',[x,V.ty n]=[x',V.ty n']/\TyOf K H x' t'/\kitOne K t' (.type n')=some b'/\P b':=⟨x,n,t,b,rfl,ty,e,q⟩
theorem r_intB{k:Bool}{P1:Int->Prop}{P2:Bool->Prop}(q:P2 k):(∃i,[V.bl k]=[V.int i]/\P1 i)\/∃k',[V.bl k]=[V.bl k']/\P2 k':=.inr ⟨k,rfl,q⟩
theorem r_max{i j:Int}{P:Int->Int->Prop}(q:P i j):∃i' j',[V.int i,V.int j]=[V.int i',V.int j']/\P i' j':=⟨i,j,rfl,q⟩
theorem r_new{xs:List V}{P:Prop}(h:xs.length<=1000)(q:P):xs.length<=qT/\P:=⟨gd (small1000 h),q⟩
theorem r_truB{b:Bool}{P:Bool->Prop}(q:P b):∃k,vU K (.bl b) H k/\P k:=⟨b,rfl,q⟩
theorem r_truL{p:qH}{xs:List V}{P:Bool->Prop}(h:SqL K H p xs)(q:P (!xs.isEmpty)):∃k,vU K (.ref p) H k/\P k:=⟨_,.inl ⟨xs,h,rfl⟩,q⟩
theorem r_for{wi:TI}{g:TG}{tb:TS}(h:wi σ H λJ H1=>∃W:Nat->Nat->L2.St->Hp->Prop,(∃m,W 0 m σ H1)/\∀i m σ H,W i m σ H ->
   (J.stop i H/\D.nx σ H)\/(J.go i H/\∃N:L2.St->Hp->Prop,(∀σ' H',N σ' H'->∃m',m'<m/\W (i+1) m' σ' H')/\∀x H',J.yld i H x H'->g x σ H' λσ2 H2=>tb { D with nx:=N,ct:=N,bk:=D.nx } σ2 H2)):tFor wi g tb D σ H:=h
theorem r_iL{tl:TE}{R:It->Hp->Prop}(h:tl σ H λx H1=>∃a,x = .ref a/\(∃xs,SqL K H1 a xs)/\R (Itl K a) H1):vG K tl σ H R:=h
theorem r_iR1{ta:TA}{R:It->Hp->Prop}(h:ta σ H λvs H1=>∃j:Int,vs=[.int j]/\-(2^62)<=j/\j<2^62/\R (Itr 0 j.toNat) H1):vF ta σ H R:=h
theorem Ec{t u:TS}{M:L2.St->Hp->Prop}(hM:∀σ' H',M σ' H'->u D σ' H')(h:∀nx:L2.St->Hp->Prop,(∀σ' H',M σ' H'->nx σ' H')->t { D with nx:=nx } σ H):uq t u D σ H:=h (u D) hM
theorem r_isIf{c:TT}{t u v:TS}(h:uq (vZ c t u) v D σ H):uq (vZ c t u) v D σ H:=h
end
theorem r_ifN{b:Bool}{A B:Prop}(h:if b=true then B else A):if (!b)=true then A else B:=by cases b <;> exact h
theorem AO{c A B:Prop}[Decidable c](h1:c->A)(h2:¬c->B):if decide c=true then A else B:=by
 by_cases h:c
 . rw[decide_eq_true h];exact iteT (h1 h)
 . rw[decide_eq_false h];exact iteF (h2 h)
theorem r_ifdT{c A B:Prop}[Decidable c](h:c)(h1:A):if decide c=true then A else B:=AO (λ_=>h1) λz=>absurd h z
theorem r_ifdF{c A B:Prop}[Decidable c](h:¬c)(h1:B):if decide c=true then A else B:=AO (λz=>absurd z h) λ_=>h1
theorem BX{b:Bool}{A B:Prop}(h1:b=true->A)(h2:b=false->B):if b=true then A else B:=by
 cases b with
 | true=>exact iteT (h1 rfl)
 | false=>exact iteF (h2 rfl)
theorem look_put{p d:qH}{o v:HO}(hp:H p=none)(h:H d=some v):upd H p o d=some v:=(AC (Cz h hp)).trans h
theorem look_ne{p d:qH}{o v:HO}(hp:d≠p)(h:H d=some v):upd H p o d=some v:=(AC hp).trans h
abbrev TX:=L2.St->Hp->VK->XK->Prop
def PX(X:Cx)(e:qN)(t:TX):Prop:=∀(pins:List (qH×Obj)) (s:qI) (σ:L2.St) (H:Hp) (QV:VK) (EX:XK) (Qp W:qG->qI->Prop),Inv X pins σ H s->t σ H QV EX->(∀u s',EP X pins σ QV u s'->Qp u s') ->
 (∀H1 s1 y s',Inv X pins σ H1 s1->CXe X.prog X.w X.stack H1 s1 EX y s'->W y s')->qX (rj X.prog X.w) X.A (rh e X.env) Qp W s
def ND(sp:Sp)(dvs:List V)(ta:TA):TX:=λσ H QV EX=>ta σ H λvs H1=>sp (vs++dvs) H1 QV EX
def NE(C:qH)(m:Str)(sp:Sp)(dvs:List V)(to:TE)(ta:TA):TX:=λσ H QV EX=>to σ H λx H1=>∃a dx fs,x = .ref a/\H1 a=some (.ins C dx fs)/\fs.lookup m=none/\ta σ H1 λvs H2=>sp (x::(vs++dvs)) H2 QV EX
section
variable {X:Cx}{k:Nat}{f C:qH}{fd:qJ}{ps:List Str}{sp:Sp}{dvs:List V}{ds:List qG}{fx m:Str}{p pos apos:Pos}{e o:qN}{es:List qN}{to:TE}{ta:TA}
theorem NF[Calm X]{σ:L2.St}{s:qI}{us:List qG}{vs:List V}{QV:VK}{EX:XK}{Qp W:qG->qI->Prop}(F:FnOk X.prog X.w X.K X.mg X.base (CXe X.prog X.w) k f fd ps sp)(hr:Room k X.A)(hb:By X.K fd ps ds)(hd:Vals dvs ds)
   (I:Inv X pins σ H s) (r:Vals vs us) (h:sp (vs++dvs) H QV EX) (hv:∀u s',EP X pins σ QV u s'->Qp u s') (hx:∀y s',CXe X.prog X.w X.stack H s EX y s'->W y s'):qX (rj X.prog X.w) X.A (call (.ref f) us) Qp W s:=by
 have r2:Vals (vs++dvs) (us++ds):=r.append hd;have hl:(us++ds).length=ps.length:=by rw[<-r2.length];exact F.len _ _ _ _ h
 refine wpAny_call (codeAny_mono (F.run X.A X.stack s H ⟨us,[]⟩ (us++ds) (vs++dvs) QV EX hr I.env0 (hb s us I.kIn hl) r2 h) λr s' hq=>?_);cases r with
 | error y=>exact hx y s' hq
 | ok fl =>
   cases fl with
   | ret u=>exact hv u s' (I.after hq)
   | next=>exact dj hq
   | brk=>exact dj hq
   | cont=>exact dj hq
theorem ut[Calm X](F:FnOk X.prog X.w X.K X.mg X.base (CXe X.prog X.w) k f fd ps sp)(hr:Room k X.A)(hg:Gl X fx)(hm:X.mg fx=some (.ref f))(hk:keepIn X.K (.ref f)=true)(hb:By X.K fd ps ds)(hd:Vals dvs ds)(ha:PA X.nox (e::es) ta)
   (hdb:(fx==("__debug__":Str))=false:=by decide) (he:qR (e::es) X.env=(false,rh e X.env)::qR es X.env:=by rfl) (hpl:(qY pos (qR es X.env)).any (·.1)=false:=by rfl):
   PX X (.Call (.Name fx p) (e::es) [] pos) (ND sp dvs ta):=by
 intro pins s σ H QV EX Qp W I h hv hx;refine wpAny_Call_Name_kw (DV I hg hm ?_ hdb);refine callWith_K (h₀:=X.base) I.ok.mod.kin hk (qW (ha pos pins s σ H _ (I.wish _) h) (λus s1 ⟨vs,H1,I1',r,q⟩=>?_) (λ_ _ z=>z.elim)) he hpl;have I1:=I1'.unwish;exact⟨I1.kIn,NF F hr hb hd I1 r q hv λy s' hq=>hx H1 s1 y s' I1 hq⟩
theorem aV[Calm X]{pl:rq Bool}(ho:PE X.nox o to)(c:Cls X.K C)(hm:tF X.K C m f)(F:FnOk X.prog X.w X.K X.mg X.base (CXe X.prog X.w) k f fd ps sp)(hr:Room k X.A)(hb:By X.K fd ps ds)(hd:Vals dvs ds)(ha:PA X.nox (e::es) ta)
   (hst:qR (e::es) X.env=(false,rh e X.env)::qR es X.env:=by rfl) (hpl:(qY pos (qR es X.env)).any (·.1)=false:=by rfl)
   (ht:rh (.Call (.Attribute o m apos) (e::es) [] pos) X.env=(do
     let ov <-rh o X.env
     standAt apos.atName
     let (f,first) <-holding [ov] (getMethod ov m pl)
     rf pos f first (qY pos (qR (e::es) X.env)) (backToKw pos (keywordEach [] X.env))):=by rfl):
   PX X (.Call (.Attribute o m apos) (e::es) [] pos) (NE C m sp dvs to ta):=by
 intro pins s σ H QV EX Qp W I h hv hx;refine methodCall_KW (pl:=pl) (qW (ho pins s σ H _ (I.wish _) h) (λu s1 ⟨x,H1,I1',rx,a,dx,fs,ex,ea,l,q⟩=>?_) (λ_ _ z=>z.elim)) ht;have I1:=I1'.unwish;subst ex;obtain rfl:u=Value.ref a:=rx;refine E9 I1 ea c hm l ?_;refine callWith_K (first:=[.ref a]) (h₀:=X.base) I.ok.mod.kin hm.kp (qW (ha pos pins s1 σ H1 _ (I1.wish _) q) (λus s2 ⟨vs,H2,I2',r,q2⟩=>?_) (λ_ _ z=>z.elim)) hst hpl;have I2:=I2'.unwish;exact⟨I2.kIn,NF (us:=.ref a::us) (vs:=.ref a::vs) F hr hb hd I2 (.cons rfl r) q2 hv λy s' hq=>hx H2 s2 y s' I2 hq⟩
end
def tS(K:γ)(C C0:qH)(b:Bool):Prop:=∃(bm bm0:List qG),ECls K C bm/\ECls K C0 bm0/\(Value.ref C0::bm0).contains (.type "BaseException")=true/\(Value.ref C::bm).contains (.ref C0)=b
theorem NG{M:rD}{A:qM}{E:qG->qI->Prop}{K:γ}{C C0 x:qH}{ox:Obj}{s:qI}{b:Bool}{Q:Bool->qI->Prop}(F:tS K C C0 b)(KX:K.In s.heap)(hx:s.heap.get? x=some ox)(hc:ox.cls = .ref C)(k:Q b s):
   qX M A (excMatches (.ref x) (.ref C0)) Q E s:=by
 obtain⟨bm,bm0,⟨nm,qn,N,bs,hd,sn,sub,ab,col,dd,k0,k1,k2,k3,k5,newId,lk⟩,⟨nm',qn',N',bs',hd',sn',sub',ab',col',dd',j0,j1,j2,j3,j5,new',lk0⟩,hb,hm⟩:=F;have hC:=KX _ _ lk;have hC0:=KX _ _ lk0;obtain⟨hh,g,d,t,os⟩:=s;exact aH hC hC0 hx hc hb hm k
abbrev TH:=qH->qH->TS
def PH(X:Cx)(hs:List ExceptHandler)(th:TH):Prop:=∀(pins:List (qH×Obj)) (s:qI) (σ:L2.St) (H:Hp) (D:Ends) (x C T:qH) (od:Option qH) {c:qG},X.Ok->Inv X pins σ H s->Exc s.heap x (.ref C) od T .none c ->
 (∀h3,Upto (frs X.stack) [T] s.heap h3->Exc h3 x (.ref C) od T .none c->Inv X pins σ H { s with heap:=h3 })->th x C D σ H->qX (rj X.prog X.w) X.A (handleBy (.ref x) X.env hs) (SP X pins D) X.xe s
section
variable {X:Cx}{C0:qH}{cx:Str}{np hpos pos epos:Pos}{b0:qO}{suite:List qO}{ts:qH->TS}{hs:List ExceptHandler}{th:TH}{e:qN}{t:TX}
theorem vg:PH X [] (λ_ _ _ _ _=>False):=λ_ _ _ _ _ _ _ _ _ _ _ _ _ _ h=>h.elim
theorem aW{i:Nat}{n:Str}(hgc:Gl X cx)(hc0:X.mg cx=some (.ref C0))(hN:X.N.Nodup)(hi:X.N[i]?=some n)(hln:X.env.kindOf n=some .local)(hss:∀x,PSs (Cx.suite X x) (b0::suite) (ts x))(hr:PH X hs th)(hdc:(cx==("__debug__":Str))=false:=by decide):
   PH X (.ExceptHandler (some (.Name cx np)) (some n) (b0::suite) hpos::hs)
     (λx C D σ H=>(tS X.K C C0 true/\ts x { D with nx:=λσ' H'=>D.nx (σ'.set i none) H',bk:=λσ' H'=>D.bk (σ'.set i none) H',ct:=λσ' H'=>D.ct (σ'.set i none) H' } (σ.set i (some (.ref x))) H)\/(tS X.K C C0 false/\th x C D σ H)):=by
 intro pins s σ H D x C T od c ok J t2 again h;obtain⟨oe,vs,oT,tts,ne,ee,hcl,_⟩:=id t2;rcases h with ⟨fit,q⟩ | ⟨fit,q⟩
 . refine wpAny_handleBy_cons (codeAny_handlers_test (DV (X:=Cx.suite X x) (Jr J x) hgc hc0 (NG fit J.kIn ee hcl ?_) hdc)) (by intro z;cases z);refine codeAny_handlers_suite_as ?_;refine FM (fr:=frs X.stack) t2 λh3 u3 t3=>?_;refine Ji (X:=Cx.suite X x) (Jr (again h3 u3 t3) x) hN hi (.inl hln) (v:=.ref x) rfl (λs4 J4=>?_) (.inr hln);refine qW (hss x pins s4 _ _ _ J4 q) (λfl s5 q5=>?_) (λ_ _ z=>z.elim);cases fl with
   | next=>obtain⟨σ',H',I5,q⟩:=q5;exact NB (NA ok I5) hN hi hln λs6 I6=>⟨_,_,I6,q⟩
   | brk=>obtain⟨σ',H',I5,q⟩:=q5;exact NB (NA ok I5) hN hi hln λs6 I6=>⟨_,_,I6,q⟩
   | cont=>obtain⟨σ',H',I5,q⟩:=q5;exact NB (NA ok I5) hN hi hln λs6 I6=>⟨_,_,I6,q⟩
   | ret u=>obtain⟨v,σ',H',I5,r,q⟩:=q5;exact NB (NA ok I5) hN hi hln λs6 I6=>⟨v,_,_,I6,r,q⟩
 . refine wpAny_handleBy_cons (codeAny_handlers_test (DV (X:=Cx.suite X x) (Jr J x) hgc hc0 (NG fit J.kIn ee hcl ?_) hdc)) (by intro z;cases z);exact hr pins s σ H D x C T od ok J t2 again q
theorem Upto.refl(fr ex:List qH)(h:rB):Upto fr ex h h:=⟨λ_ _ _ _ q=>q,λb o _ q=>⟨o.slots,q⟩⟩
def tTryE(t:TX)(th:TH):TS:=λD σ H=>t σ H (λ_ H2=>D.nx σ H2) λc od H2=>∃C,c = .ref C/\∀x,H2 x=none->th x C D σ (upd H2 x (tT x C od))
def uK(i:Nat)(t:TX)(th:TH):TS:=λD σ H=>t σ H (λv H2=>D.nx (σ.set i (some v)) H2) λc od H2=>∃C,c = .ref C/\∀x,H2 x=none->th x C D σ (upd H2 x (tT x C od))
theorem ps_tryE{h₀:ExceptHandler}(he:PX X e t)(hst:X.stack=X.env::X.outer/\X.env.frame=some X.env.locals)(hh:PH X (h₀::hs) th)(hsw:swapsWith e none epos.line X.env=pure false:=by rfl):
   PS X (.Try [.Expr e epos] (h₀::hs) [] [] pos) (tTryE t th):=by
 intro pins s σ H D I h;refine wpAny_Try_except (wpAny_execs_cons (wpAny_Expr_any (he pins s σ H _ _ _ _ I h (λu s' ⟨v,H2,I2,_,q2⟩=>rp (rp ⟨σ,H2,I2,q2⟩)) (λH1 s1 y s' I1 hq=>?_)) I.quiet hsw));refine Wo I1 hst hq λx C od T h2 H2 ex ⟨C',ec,q⟩ t2 J2 again=>?_;subst ex;cases ec;exact hh pins _ σ _ D x C T od I.ok J2 t2 (λh3 u3 t3=>(again h3 u3 t3).2) (q x (again h2 (Upto.refl _ _ _) t2).1)
theorem aX{h₀:ExceptHandler}{i:Nat}{y:Str}{py:Pos}(hN:X.N.Nodup)(hi:X.N[i]?=some y)(hy:Loc X.env.scope y)(he:PX X e t)(hst:X.stack=X.env::X.outer/\X.env.frame=some X.env.locals)(hh:PH X (h₀::hs) th)
   (hsw:swapsWith e (some (.Name y py)) epos.line X.env=pure false:=by rfl) (hf:X.fn y=true\/X.env.scope.names.lookup y=some .local:=by first | exact .inl rfl | exact .inr rfl | assumption):
   PS X (.Try [.Assign [.Name y py] e epos] (h₀::hs) [] [] pos) (uK i t th):=by
 intro pins s σ H D I h;refine wpAny_Try_except (wpAny_execs_cons (wpAny_Assign_Name (he pins s σ H _ _ _ _ I h (λu s' ⟨v,H2,I2,r2,q2⟩=>Ji I2 hN hi hy r2 (λs3 I3=>rp (rp ⟨_,H2,I3,q2⟩)) hf) (λH1 s1 z s' I1 hq=>?_)) hsw));refine Wo I1 hst hq λx C od T h2 H2 ex ⟨C',ec,q⟩ t2 J2 again=>?_;subst ex;cases ec;exact hh pins _ σ _ D x C T od I.ok J2 t2 (λh3 u3 t3=>(again h3 u3 t3).2) (q x (again h2 (Upto.refl _ _ _) t2).1)
end
section
variable {K:γ}{σ:L2.St}{H:Hp}{D:Ends}
theorem r_tryA{i:Nat}{t:TX}{th:TH}(h:t σ H (λv H2=>D.nx (σ.set i (some v)) H2) λc od H2=>∃C,c = .ref C/\∀x,H2 x=none->th x C D σ (upd H2 x (tT x C od))):uK i t th D σ H:=h
theorem r_xCall{sp:Sp}{ta:TA}{QV:VK}{EX:XK}(h:ta σ H λvs H1=>sp vs H1 QV EX):ND sp [] ta σ H QV EX:=by
 unfold ND;simp only [bg];exact h
end
structure FunD(K:γ)(x qual:Str)(st:qO)(dV:qG)(f:qH)(fd:qJ):Prop where
 ex:∃(oc:qG) (od:Option qH) (kV doc pm:qG) (an:Option qH) (cdv ct:qG) (osl:Array (Option qG)),
   fd=fnOf x qual (BA st) (Bp st) (Am st) dV kV doc pm an cdv ct/\K.lookup f=some ⟨oc,od,.func fd,osl⟩/\codeIn K cdv qual=true
 kp:keepIn K (.ref f)=true
theorem Wr{K:γ}{x qual:Str}{st:qO}{f:qH}{oc:qG}{an:Option qH}{osl:Array (Option qG)}{dV kV doc pm cdv ct:qG}(l:K.lookup f=some ⟨oc,od,.func (fnOf x qual (BA st) (Bp st) (Am st) dV kV doc pm an cdv ct),osl⟩)
   (c:codeIn K cdv qual=true) (k:keepIn K (.ref f)=true):FunD K x qual st dV f (fnOf x qual (BA st) (Bp st) (Am st) dV kV doc pm an cdv ct):=⟨⟨oc,od,kV,doc,pm,an,cdv,ct,osl,rfl,l,c⟩,k⟩
section
variable {P:qK}{w:qL}{K:γ}{mg:Str->Option qG}{base:rB}
theorem Ws{x qual:Str}{st:qO}{dV:qG}{f:qH}{fd:qJ}{N ps:List Str}{k:Nat}{sp:Sp}(F:FunD K x qual st dV f fd)(S:tD N ps (Am st))(len:∀vs H Q E,sp vs H Q E->vs.length=ps.length)
   (hbody:∀(cdv:qG) (A:qM) (outer:List rC) (s:qI) (H:Hp) (vs:List V) (Q:VK) (E:XK),Room k (A.deeper (envOfC qual (Am st) s.heap.objs.size f cdv))->sp vs H Q E ->
     ∃t,PSs (cxOf (CXe P w) P w K mg base N qual (Am st) f cdv A outer s H E) (Bp st) t/\t { nx:=λ_ H'=>Q .non H',rt:=Q } (start N vs) H):FnOk P w K mg base (CXe P w) (k+1) f fd ps sp:=by
 obtain⟨oc,od,kV,doc,pm,an,cdv,ct,osl,rfl,lk,hcd⟩:=F.ex;exact P5 lk hcd S len λA outer s H vs Q E hr hsp=>hbody cdv A outer s H vs Q E hr hsp
theorem FunD.bindsD{x qual:Str}{st:qO}{T:qH}{f:qH}{fd:qJ}{ps:List Str}{ds:List qG}{tc:qG}{td:Option qH}{tn:Nat}{tsl:Array (Option qG)}(F:FunD K x qual st (.ref T) f fd)
   (lt:K.lookup T=some ⟨tc,td,.seq ds.toArray tn,tsl⟩)
   (h:∀(kV doc pm:qG) (an:Option qH) (cdv ct:qG) (us:List qG),(us++ds).length=ps.length->∃k:Option (Array qG)->rq (List (Str×qG)),
     qS (fnOf x qual (BA st) (Bp st) (Am st) (.ref T) kV doc pm an cdv ct) ⟨us,[]⟩=qZ (.ref T) >>= k/\k (some ds.toArray)=pure (ps.zip (us++ds))):By K fd ps ds:=by
 obtain⟨oc,od,kV,doc,pm,an,cdv,ct,osl,rfl,lk,hcd⟩:=F.ex;intro s us X hl;obtain⟨k,h1,h2⟩:=h kV doc pm an cdv ct us hl;exact .of_defaults rfl (X _ _ lt) rfl h1 h2
end
structure Methx(P:qK)(w:qL)(K:γ)(mg:Str->Option qG)(base:rB)(C:qH)(m:Str)(j:Nat)(ps:List Str)(dvs:List V)(sp:Sp):Prop where
 ex:∃(f:qH) (fd:qJ) (ds:List qG),FnOk P w K mg base (CXe P w) j f fd ps sp/\tF K C m f/\By K fd ps ds/\Vals dvs ds
 cl:Cls K C
structure tL(P:qK)(w:qL)(K:γ)(mg:Str->Option qG)(base:rB)(x:Str)(C:qH)(j:Nat)(ps:List Str)(dvs:List V)(sp:Sp):Prop where
 ex:∃(f:qH) (fd:qJ) (ds:List qG),FnOk P w K mg base (CXe P w) j f fd ps sp/\Mk K C f/\By K fd ps ds/\Vals dvs ds
 bound:mg x=some (.ref C)
structure ClsM(K:γ)(C:qH)(m:Str)(f:qH):Prop where
 sp:specialIn K (.ref C) "__getattribute__"=some (some (.builtin "type.__getattribute__"))
 rd:readsIn K C (.type "type")=true
 fc:findCls K (.ref C) (.type "type") m=some (.val (.ref f))
 kp:keepIn K (.ref f)=true
structure uA(P:qK)(w:qL)(K:γ)(mg:Str->Option qG)(base:rB)(x:Str)(m:Str)(j:Nat)(ps:List Str)(sp:Sp):Prop where
 ex:∃(C f:qH) (fd:qJ),FnOk P w K mg base (CXe P w) j f fd ps sp/\ClsM K C m f/\By K fd ps []/\mg x=some (.ref C)
section
variable {X:Cx}{j k:Nat}{C:qH}{ps:List Str}{sp:Sp}{dvs:List V}{x m:Str}{p pos apos:Pos}{e o:qN}{es:List qN}{to:TE}{t:TA}{EX:XK}
theorem BY[Calm X]{pl:rq Bool}(D:Methx X.prog X.w X.K X.mg X.base C m j ps dvs sp)(hp:Ct (CXe X.prog X.w) X EX)(hr:Room k X.A)(ho:PE X o to)(ha:PA X (e::es) t)(hk:j<=k:=by decide)
   (hst:qR (e::es) X.env=(false,rh e X.env)::qR es X.env:=by rfl) (hpl:(qY pos (qR es X.env)).any (·.1)=false:=by rfl)
   (ht:rh (.Call (.Attribute o m apos) (e::es) [] pos) X.env=(do
     let ov <-rh o X.env
     standAt apos.atName
     let (f,first) <-holding [ov] (getMethod ov m pl)
     rf pos f first (qY pos (qR (e::es) X.env)) (backToKw pos (keywordEach [] X.env))):=by rfl):PE X (.Call (.Attribute o m apos) (e::es) [] pos) (Ie C m sp dvs EX to t):=by
 obtain⟨f,fd,ds,F,hm,hb,hd⟩:=D.ex;exact ZJ (pl:=pl) ho D.cl hm F (hr.mono hk) hb hd hp ha hst hpl ht
theorem Js[Calm X]{pl:rq Bool}(D:Methx X.prog X.w X.K X.mg X.base C m j ps dvs sp)(hp:Ct (CXe X.prog X.w) X EX)(hr:Room k X.A)(ho:PE X o to)(hk:j<=k:=by decide)
   (ht:rh (.Call (.Attribute o m apos) [] [] pos) X.env=(do
     let ov <-rh o X.env
     standAt apos.atName
     let (f,first) <-holding [ov] (getMethod ov m pl)
     rf pos f first (qY pos (qR [] X.env)) (backToKw pos (keywordEach [] X.env))):=by rfl):PE X (.Call (.Attribute o m apos) [] [] pos) (Ie C m sp dvs EX to ur):=by
 obtain⟨f,fd,ds,F,hm,hb,hd⟩:=D.ex;exact ZK (pl:=pl) ho D.cl hm F (hr.mono hk) hb hd hp ht
theorem aY[Calm X]{pl:rq Bool}(D:Methx X.prog X.w X.K X.mg X.base C m j ps dvs sp)(hr:Room k X.A)(ho:PE X.nox o to)(ha:PA X.nox (e::es) t)(hk:j<=k:=by decide)
   (hst:qR (e::es) X.env=(false,rh e X.env)::qR es X.env:=by rfl) (hpl:(qY pos (qR es X.env)).any (·.1)=false:=by rfl)
   (ht:rh (.Call (.Attribute o m apos) (e::es) [] pos) X.env=(do
     let ov <-rh o X.env
     standAt apos.atName
     let (f,first) <-holding [ov] (getMethod ov m pl)
     rf pos f first (qY pos (qR (e::es) X.env)) (backToKw pos (keywordEach [] X.env))):=by rfl):PX X (.Call (.Attribute o m apos) (e::es) [] pos) (NE C m sp dvs to t):=by
 obtain⟨f,fd,ds,F,hm,hb,hd⟩:=D.ex;exact aV (pl:=pl) ho D.cl hm F (hr.mono hk) hb hd ha hst hpl ht
theorem aZ[Calm X](D:tE X.prog X.w X.K X.mg X.base x j ps sp)(hr:Room k X.A)(hg:Gl X x)(ha:PA X.nox (e::es) t)(hk:j<=k:=by decide)
   (hdb:(x==("__debug__":Str))=false:=by decide) (he:qR (e::es) X.env=(false,rh e X.env)::qR es X.env:=by rfl) (hpl:(qY pos (qR es X.env)).any (·.1)=false:=by rfl):PX X (.Call (.Name x p) (e::es) [] pos) (ND sp [] t):=by
 obtain⟨f,fd,F,hm,kp,b⟩:=D.ex;exact ut F (hr.mono hk) hg hm kp b .nil ha hdb he hpl
theorem Io[Calm X](D:tL X.prog X.w X.K X.mg X.base x C j ps dvs sp)(hp:Ct (CXe X.prog X.w) X EX)(hr:Room k X.A)(hg:Gl X x)(ha:PA X (e::es) t)(hk:j+1<=k:=by decide)
   (hdb:(x==("__debug__":Str))=false:=by decide) (he:qR (e::es) X.env=(false,rh e X.env)::qR es X.env:=by rfl) (hpl:(qY pos (qR es X.env)).any (·.1)=false:=by rfl):PE X (.Call (.Name x p) (e::es) [] pos) (Nt C sp dvs EX t):=by
 obtain⟨f,fd,ds,F,M,hb,hd⟩:=D.ex;exact ZM M F (hr.mono hk) hg D.bound hb hd hp ha hdb he hpl
theorem bA[Calm X]{pl:rq Bool}{p':Pos}(D:uA X.prog X.w X.K X.mg X.base x m j ps sp)(hp:Ct (CXe X.prog X.w) X EX)(hr:Room k X.A)(hg:Gl X x)(ha:PA X (e::es) t)(hk:j<=k:=by decide)(hdb:(x==("__debug__":Str))=false:=by decide)
   (hst:qR (e::es) X.env=(false,rh e X.env)::qR es X.env:=by rfl) (hpl:(qY pos (qR es X.env)).any (·.1)=false:=by rfl)
   (ht:rh (.Call (.Attribute (.Name x p') m apos) (e::es) [] pos) X.env=(do
     let ov <-rh (.Name x p') X.env
     standAt apos.atName
     let (f,first) <-holding [ov] (getMethod ov m pl)
     rf pos f first (qY pos (qR (e::es) X.env)) (backToKw pos (keywordEach [] X.env))):=by rfl):PE X (.Call (.Attribute (.Name x p') m apos) (e::es) [] pos) (Jm sp [] EX t):=by
 obtain⟨C,f,fd,F,M,hb,hm⟩:=D.ex;intro pins s σ H Q I h;refine methodCall_KW (pl:=pl) (DV I hg hm ?_ hdb) ht;refine PySem.W.method_cls I.kIn M.sp (PySem.W.cls_value I.kIn M.rd M.fc rfl ?_);have I':=I.tok (s.toks+1);refine callWith_K (h₀:=X.base) I.ok.mod.kin M.kp (thn (ha pos pins _ σ H _ I' h) λus s1 ⟨vs,H1,I1,r,q⟩=>⟨I1.kIn,?_⟩) hst hpl;exact Ig F (hr.mono hk) hb .nil hp I1 r q
end
section
variable {K:γ}{σ:L2.St}{H:Hp}{Q:VK}{D:Ends}
theorem r_fld{f:Str}{ta:TE}(h:ta σ H λx H1=>∃a C dx fs v,x = .ref a/\H1 a=some (.ins C dx fs)/\Cls K C/\BO K C f/\fs.lookup f=some v/\Q v H1):tFld K ta f σ H Q:=h
theorem r_at{a C dx:qH}{fs:List (Str×V)}{f:Str}{v:V}{P:V->Prop}(h:H a=some (.ins C dx fs))(c:Cls K C)(n:BO K C f)(l:fs.lookup f=some v)(q:P v):
   ∃a' C' dx' fs' v',V.ref a=V.ref a'/\H a'=some (.ins C' dx' fs')/\Cls K C'/\BO K C' f/\fs'.lookup f=some v'/\P v':=⟨a,C,dx,fs,v,rfl,h,c,n,l,q⟩
theorem r_sfld{f:Str}{ta tv:TE}(h:tv σ H λy H1=>ta σ H1 λx H2=>∃a C dx fs,x = .ref a/\H2 a=some (.ins C dx fs)/\Cls K C/\BO K C f/\fs.length<1000/\D.nx σ (upd H2 a (.ins C dx (putF f y fs)))):sFld K ta tv f D σ H:=h
theorem r_meth{C:qH}{m:Str}{sp:Sp}{E:XK}{ta:TE}{t:TA}(h:ta σ H λx H1=>∃a dx fs,x = .ref a/\H1 a=some (.ins C dx fs)/\fs.lookup m=none/\t σ H1 λvs H2=>sp (x::vs) H2 Q E):Ie C m sp [] E ta t σ H Q:=by
 unfold Ie;simp only [bg];exact h
theorem r_xMeth{C:qH}{m:Str}{sp:Sp}{EX:XK}{ta:TE}{t:TA}(h:ta σ H λx H1=>∃a dx fs,x = .ref a/\H1 a=some (.ins C dx fs)/\fs.lookup m=none/\t σ H1 λvs H2=>sp (x::vs) H2 Q EX):NE C m sp [] ta t σ H Q EX:=by
 unfold NE;simp only [bg];exact h
end
section
variable {X:Cx}
end
section
variable {a x:Option V}{v:V}{l r:L2.St}{k:Nat}{n:Str}{ns:List Str}{vs:List V}
theorem set0_c:(a::l).set 0 x=x::l:=rfl
theorem bB:L2.start (n::ns) (v::vs)=some v::L2.start ns vs:=by
 unfold L2.start;rw[au,au,Nat.add_sub_add_right];rfl
theorem set0_0:(L2.start (n::ns) []).set 0 x=x::L2.start ns []:=rfl
theorem setS_c(h:l.set k x=r):(a::l).set (k+1) x=a::r:=h▸rfl
theorem setS_1(h:(L2.start ns vs).set k x=r):(L2.start (n::ns) (v::vs)).set (k+1) x=some v::r:=by
 rw[bB,<-h];rfl
theorem r_gnameN{σ σ':L2.St}{i:Nat}{R:L2.St->Hp->Prop}(e:σ.set i (some v)=σ')(h:R σ' H):FG i v σ H R:=by
 subst e;exact h
end
def tW(ns:List Int)(l u:Option Int):List Int:=(ns.drop (HT.sIx ns.length 0 l)).take (HT.sIx ns.length ns.length u-HT.sIx ns.length 0 l)
theorem bC(ns:List Int)(l u:Option Int):uC (ns.map V.int) l u=(tW ns l u).map V.int:=by
 unfold uC tW;rw[List.map_take,List.map_drop,ε]
theorem Qf(ns:List Int)(l u:Option Int):(tW ns l u).length<=ns.length:=by
 unfold tW;rw[ag,fe];omega
section
variable {K:γ}{σ:L2.St}{H:Hp}{D:Ends}{Q:VK}
theorem r_sllG{a:qH}{lo hi:Option Int}(h:SqL K H a (ns.map V.int))(q:∀p H',H p=none->Same H H'->H' p=some (.lst ((tW ns lo hi).map V.int))->Q (.ref p) H'):rSlL K (.ref a) lo hi H Q :=
 ⟨a,_,rfl,h,λp hp=>by rw[bC];exact q p _ hp (Same.new hp) upd_same⟩
theorem r_catG{l b:qH}{xs zs:List Int}(h:H l=some (.lst (xs.map V.int)))(h2:H b=some (.lst (zs.map V.int)))(hz:xs.length+zs.length<=4000)(q:∀p H',H p=none->Same H H'->H' p=some (.lst ((xs++zs).map V.int))->Q (.ref p) H'):v_ (.ref l) (.ref b) H Q :=
 ⟨l,b,_,_,rfl,rfl,h,h2,by rw[ε,ε];exact gd (small4000 hz),λp hp=>by rw[<-ψ];exact q p _ hp (Same.new hp) upd_same⟩
theorem r_isSeq{t u:TS}(h:uq t u D σ H):uq t u D σ H:=h
theorem r_isAnd{ta tb:TE}(h:Nk ta tb σ H Q):Nk ta tb σ H Q:=h
theorem r_isOr{ta tb:TE}(h:vY ta tb σ H Q):vY ta tb σ H Q:=h
end
section
variable {K:γ}{σ:L2.St}{H:Hp}{Q:VK}
theorem r_gtup{a:qH}{xs:List V}{n:Nat}{t:TGs}{R:L2.St->Hp->Prop}(h:H a=some (.tup xs))(hl:xs.length=n)(q:t xs σ H R):gTup K n t (.ref a) σ H R:=⟨a,xs,rfl,SqT.of h,hl,q⟩
theorem r_gcons{v:V}{r:List V}{t:TG}{u:TGs}{R:L2.St->Hp->Prop}(h:t v σ H λσ' H'=>u r σ' H' R):vK t u (v::r) σ H R:=⟨v,r,rfl,h⟩
theorem r_gnil{R:L2.St->Hp->Prop}(h:R σ H):gNil [] σ H R:=⟨rfl,h⟩
theorem Jt{p:qH}{xs:List V}{v:V}(h:SqL K H p (xs++[v]))(q:Q v H):va K (.ref p) (.int (-1)) H Q:=Ff h (ZY xs v) q
theorem bD{p:qH}{xs:List V}{v w:V}{R:Hp->Prop}(h:H p=some (.lst (xs++[v])))(q:R (upd H p (.lst (xs++[w])))):P7 (.ref p) (.int (-1)) w H R:=by
 refine⟨p,_,-1,xs.length,rfl,rfl,h,?_,?_⟩
 . unfold ixN;rw[if_neg (by decide),π,aj,if_pos (by omega)]
   congr 1
   omega
 . rw[List.set_append_right _ _ (Θ _),ff];exact q
end
def fpl(a b:Int):Int:=a+(b-1-a%b)
def fp(a n L b:Int):Option Int:=if fpl a b+L<=a+n then some (fpl a b) else none
theorem bE{a b:Int}(hb:1<=b):(fpl a b+1)%b=0:=by
 unfold fpl;have e:=lh a b;have:a+(b-1-a%b)+1=b*(a/b+1):=by rw[Int.mul_add,qm];omega
 rw[this];exact Int.mul_emod_right _ _
def AJ(H:Hp)(us:List V)(ps:List Pc):Prop:=us.length=ps.length/\∀(i:Nat) (p:Pc),ps[i]?=some p->∃a,us[i]?=some (.ref a)/\H a=some (.tup [.int p.a,.int p.l,.bl p.v])
theorem AJ.nil:AJ H [] []:=⟨rfl,λi p h=>by simp at h⟩
theorem AJ.mono{H':Hp}{us:List V}(h:AJ H us ps)(k:∀b xs,H b=some (.tup xs)->H' b=some (.tup xs)):AJ H' us ps :=
 ⟨h.1,λi p e=>let ⟨a,h1,h2⟩:=h.2 i p e;⟨a,h1,k _ _ h2⟩⟩
theorem AJ.same{H':Hp}{us:List V}(h:AJ H us ps)(k:Same H H'):AJ H' us ps:=h.mono λb xs e=>k b _ e
theorem AJ.snoc{us:List V}{p:Pc}{a:qH}(h:AJ H us ps)(ha:H a=some (.tup [.int p.a,.int p.l,.bl p.v])):AJ H (us++[.ref a]) (ps++[p]):=by
 refine⟨by simp [h.1],λi q e=>?_⟩;have hl:=h.1;by_cases hi:i<ps.length
 . rw[ο hi] at e;obtain⟨b,h1,h2⟩:=h.2 i q e;exact⟨b,by rw[ο (by omega)];exact h1,h2⟩
 . have hlt:i<(ps++[p]).length:=(δ.mp e).1;have hi2:i=ps.length:=by simp at hlt;omega
   subst hi2;rw[θ (Θ _)] at e;have e':p=q:=by simpa using e
   subst e';exact⟨a,by rw[<-hl,θ (Θ _)];simp,ha⟩
theorem DL{p:qH}{o:HO}(hp:H p=none\/∃xs,H p=some (.lst xs)):∀b xs,H b=some (.tup xs)->upd H p o b=some (.tup xs):=λb xs e=>by
 have hne:b≠p:=λz=>by
   subst z;rcases hp with h | ⟨ys,h⟩
   . rw[h] at e;cases e
   . rw[h] at e;cases e
 rw[AC hne];exact e
theorem AJ.push{us:List V}{p t:qH}(h:AJ H us ps)(hp:H p=some (.lst us))(ht:H t=none):
   upd (upd H t (.tup [.int z.a,.int z.l,.bl z.v])) p (.lst (us++[.ref t])) p=some (.lst (us++[.ref t])) /\
   AJ (upd (upd H t (.tup [.int z.a,.int z.l,.bl z.v])) p (.lst (us++[.ref t]))) (us++[.ref t]) (ps++[z]):=by
 have hpt:p≠t:=Cz hp ht;have hp2:upd H t (.tup [.int z.a,.int z.l,.bl z.v]) p=some (.lst us):=by rw[AC hpt];exact hp
 refine⟨upd_same,?_⟩;refine AJ.snoc ?_ ?_
 . exact(h.mono (DL (.inl ht))).mono (DL (.inr ⟨_,hp2⟩))
 . exact DL (.inr ⟨_,hp2⟩) _ _ upd_same
def AY(H:Hp)(us:List V)(xs:List (List V)):Prop:=us.length=xs.length/\∀(i:Nat) (x:List V),xs[i]?=some x->∃a,us[i]?=some (.ref a)/\H a=some (.tup x)
theorem AY.nil:AY H [] []:=⟨rfl,λi p h=>by simp at h⟩
theorem AY.mono{H':Hp}{us:List V}{xs:List (List V)}(h:AY H us xs)(k:∀b ys,H b=some (.tup ys)->H' b=some (.tup ys)):AY H' us xs :=
 ⟨h.1,λi p e=>let ⟨a,h1,h2⟩:=h.2 i p e;⟨a,h1,k _ _ h2⟩⟩
theorem AY.same{H':Hp}{us:List V}{xs:List (List V)}(h:AY H us xs)(k:Same H H'):AY H' us xs:=h.mono λb ys e=>k b _ e
theorem AY.push{us:List V}{xs:List (List V)}{p t:qH}{z:List V}(h:AY H us xs)(hp:H p=some (.lst us))(ht:H t=none):
   AY (upd (upd H t (.tup z)) p (.lst (us++[.ref t]))) (us++[.ref t]) (xs++[z]):=by
 have hpt:p≠t:=Cz hp ht;have hp2:upd H t (.tup z) p=some (.lst us):=by rw[AC hpt];exact hp
 have h2:=(h.mono (DL (o:=.tup z) (.inl ht))).mono (DL (o:=.lst (us++[.ref t])) (.inr ⟨_,hp2⟩));have hz:upd (upd H t (.tup z)) p (.lst (us++[.ref t])) t=some (.tup z):=DL (.inr ⟨_,hp2⟩) _ _ upd_same;refine⟨by simp [h.1],λi q e=>?_⟩;have hl:=h.1;by_cases hi:i<xs.length
 . rw[ο hi] at e;obtain⟨b,h1,h3⟩:=h2.2 i q e;exact⟨b,by rw[ο (by omega)];exact h1,h3⟩
 . have hlt:i<(xs++[z]).length:=(δ.mp e).1;have hi2:i=xs.length:=by simp at hlt;omega
   subst hi2;rw[θ (Θ _)] at e;have e':z=q:=by simpa using e
   subst e';exact⟨t,by rw[<-hl,θ (Θ _)];simp,hz⟩
@[reducible] def vi:Option Int->V
 | none=>.non
 | some b=>.int b
def Qg:Sp:=λvs H Q _=>∃n:Int,vs=[.int n]/\Q (.int (n/2)) H
def Qh:Sp:=λvs H Q _=>∃n:Int,vs=[.int n]/\Q (.bl (decide (n%2=1))) H
def Qi(K:γ):Sp:=λvs H Q _=>∃(a:qH) (ns:List Int) (k:Int),vs=[.ref a,.int k]/\SqL K H a (ns.map V.int)/\0<=k/\k<ns.length/\Q (.bl (Co ns k)) H
def Qj(K:γ):Sp:=λvs H Q _=>∃(a:qH) (ns:List Int) (k:Int),vs=[.ref a,.int k]/\SqL K H a (ns.map V.int)/\0<=k/\k<ns.length/\Q (vi (BC ns k)) H
def Qk(K:γ):Sp:=λvs H Q _=>∃(a:qH) (ns:List Int) (k:Int),vs=[.ref a,.int k]/\SqL K H a (ns.map V.int)/\0<=k/\Q (.int (ns.getD k.toNat 0)) H
def Ql:Sp:=λvs H Q _=>∃n:Int,vs=[.int n]/\Q (.bl true) H
section
variable {K:γ}{H:Hp}{Q:VK}{E:XK}
theorem i_long{n:Int}(q:Q (.int (n/2)) H):Qg [.int n] H Q E:=⟨n,rfl,q⟩
theorem i_live{n:Int}(q:Q (.bl (decide (n%2=1))) H):Qh [.int n] H Q E:=⟨n,rfl,q⟩
theorem i_can{a:qH}(h:SqL K H a (ns.map V.int))(h0:0<=k)(h1:k<ns.length)(q:Q (.bl (Co ns k)) H):Qi K [.ref a,.int k] H Q E:=⟨a,ns,k,rfl,h,h0,h1,q⟩
theorem i_bad{a:qH}(h:SqL K H a (ns.map V.int))(h0:0<=k)(h1:k<ns.length)(q:Q (vi (BC ns k)) H):Qj K [.ref a,.int k] H Q E:=⟨a,ns,k,rfl,h,h0,h1,q⟩
theorem i_cell{a:qH}(h:SqL K H a (ns.map V.int))(h0:0<=k)(q:Q (.int (ns.getD k.toNat 0)) H):Qk K [.ref a,.int k] H Q E:=⟨a,ns,k,rfl,h,h0,q⟩
theorem i_whole{n:Int}(q:Q (.bl true) H):Ql [.int n] H Q E:=⟨n,rfl,q⟩
theorem bG(n:Int):decide (Builtin.bitAnd n 1=1)=decide (n%2=1):=by rw[<-aF,decV]
end
def A6(cs:List Int)(k l:Int)(v:Bool):List Int:=(cs.set k.toNat (l*2+if v then 1 else 0)).set (k+l-1).toNat (l*2+if v then 1 else 0)
theorem Cp(cs:List Int)(k l:Int)(v:Bool):(A6 cs k l v).length=cs.length:=by
 unfold A6;rw[eg,eg]
theorem Ip{l:Int}{v:Bool}{j:Nat}(h0:0<=k)(h1:1<=l)(h:(j:Int)<k\/k+l<=j):(A6 cs k l v)[j]?=cs[j]?:=by
 unfold A6;rw[cr (by omega),cr (by omega)]
theorem Qm{l:Int}{v:Bool}(h0:0<=k)(h1:1<=l)(h:k+l<=cs.length):(A6 cs k l v)[k.toNat]?=some (tQ l v):=by
 unfold A6 tQ;by_cases e:(k+l-1).toNat=k.toNat
 . rw[e,cw (by rw[eg];omega)]
 . rw[cr e,cw (by omega)]
theorem Qn{l:Int}{v:Bool}(h0:0<=k)(h1:1<=l)(h:k+l<=cs.length):(A6 cs k l v)[(k+l-1).toNat]?=some (tQ l v):=by
 unfold A6 tQ;rw[cw (by rw[eg];omega)]
def Dy(ds:List Pc)(k:Int):Prop:=∀p∈ds,0<=p.a/\1<=p.l/\p.a+p.l<=k
def NH(rs:List Pc)(e:Int):Prop:=∀p∈rs,e<=p.a/\1<=p.l
theorem Ai.endBy{ds:List Pc}{s e:Int}(h:Ai s ds e)(h0:0<=s):Dy ds e:=λp hp=>by
 obtain⟨h1,h2,_,h3⟩:=h.mem p hp;omega
theorem Ai.fromOn{ds:List Pc}{s e:Int}(h:Ai s ds e):NH ds s:=λp hp=>by
 obtain⟨h1,h2,_,_⟩:=h.mem p hp;omega
theorem Dy.mono{ds:List Pc}{k':Int}(h:Dy ds k)(e:k<=k'):Dy ds k':=λp hp=>by have:=h p hp;omega
theorem Dy.app{ds es:List Pc}(h:Dy ds k)(g:Dy es k):Dy (ds++es) k:=λp hp=>(ρ.mp hp).elim (h p) (g p)
theorem AH.sub{qs:List Pc}(m:AH cs ps)(h:∀p∈qs,p∈ps):AH cs qs:=λp hp=>m p (h p hp)
theorem AH.lay{ds rs:List Pc}{l:Int}{v:Bool}(h0:0<=k)(h1:1<=l)(hl:k+l<=cs.length)(hd:Dy ds k)(hr:NH rs (k+l))(m:AH cs (ds++rs)):
   AH (A6 cs k l v) (ds++⟨k,l,v⟩::rs):=by
 intro p hp;rcases ρ.mp hp with h | h
 . obtain⟨a0,a1,a2⟩:=hd p h;obtain⟨m1,m2⟩:=m p (Φ _ h);exact⟨by rw[Ip h0 h1 (by omega)];exact m1,by rw[Ip h0 h1 (by omega)];exact m2⟩
 . rcases χ.mp h with h | h
   . subst h;exact⟨Qm h0 h1 hl,Qn h0 h1 hl⟩
   . obtain⟨a0,a1⟩:=hr p h;obtain⟨m1,m2⟩:=m p (μ _ h);exact⟨by rw[Ip h0 h1 (by omega)];exact m1,by rw[Ip h0 h1 (by omega)];exact m2⟩
def lfI(cs:List Int)(b e:Int):List Int:=if b=e then cs else A6 cs b (e-b) false
def fr(b e:Int):List Pc:=if b=e then [] else [⟨b,e-b,false⟩]
theorem CJ(cs:List Int)(b e:Int):(lfI cs b e).length=cs.length:=by
 unfold lfI
 split
 . rfl
 . exact Cp _ _ _ _
theorem lfI_out{b e:Int}{j:Nat}(h0:0<=b)(h1:b<=e)(h:(j:Int)<b\/e<=j):(lfI cs b e)[j]?=cs[j]?:=by
 unfold lfI
 split
 . rfl
 . exact Ip h0 (by omega) (by omega)
theorem NI{b e:Int}(h:b<=e):Ai b (fr b e) e:=by
 unfold fr
 split
 . assumption
 . exact⟨rfl,(by show 1<=e-b;omega),(λz=>by cases z),(by show b+(e-b)=e;omega)⟩
theorem AH.layF{ds rs:List Pc}{b e:Int}(h0:0<=b)(h1:b<=e)(hl:e<=cs.length)(hd:Dy ds b)(hr:NH rs e)(m:AH cs (ds++rs)):AH (lfI cs b e) (ds++(fr b e++rs)):=by
 unfold lfI fr
 split
 . exact m
 . exact AH.lay h0 (by omega) (by omega) hd (by rw[show b+(e-b)=e by omega];exact hr) m
def uD(cs:List Int)(a l s L:Int):List Int:=lfI (A6 (lfI cs a s) s L true) (s+L) (a+l)
theorem Qo(cs:List Int)(a l s L:Int):(uD cs a l s L).length=cs.length:=by
 unfold uD;rw[CJ,Cp,CJ]
def uo(ds rs:List Pc)(a l s L:Int):List Pc:=ds++(fr a s++(⟨s,L,true⟩::(fr (s+L) (a+l)++rs)))
theorem bH{ds rs:List Pc}{s L:Int}(h0:0<=z.a)(hL:1<=L)(h1:z.a<=s)(h2:s+L<=z.a+z.l)(hl:z.a+z.l<=cs.length)(hd:Dy ds z.a)(hr:NH rs (z.a+z.l))(m:AH cs (ds++z::rs)):
   AH (uD cs z.a z.l s L) (uo ds rs z.a z.l s L):=by
 have m0:AH cs (ds++rs):=m.sub λp hp=>by
   rcases ρ.mp hp with h | h
   . exact Φ _ h
   . exact μ _ (ι _ h)
 have m1:=AH.layF h0 h1 (by omega) hd (λp hp=>by have:=hr p hp;omega) m0;have d1:Dy (ds++fr z.a s) s:=(hd.mono h1).app ((NI h1).endBy h0);have m2:AH (A6 (lfI cs z.a s) s L true) ((ds++fr z.a s)++⟨s,L,true⟩::rs) :=
   AH.lay (by omega) hL (by rw[CJ];omega) d1 (λp hp=>by have:=hr p hp;omega) (by rw[ak];exact m1)
 have d2:Dy ((ds++fr z.a s)++[⟨s,L,true⟩]) (s+L):=(d1.mono (by omega)).app λp hp=>by
   have:p=⟨s,L,true⟩:=by simpa using hp
   subst this;exact⟨by show 0<=s;omega,hL,ba _⟩
 have m3:=AH.layF (cs:=A6 (lfI cs z.a s) s L true) (b:=s+L) (e:=z.a+z.l) (by omega) h2 (by rw[Cp,CJ];omega) d2 hr (by rw[ak];exact m2);unfold uD uo;simpa only [ak,li,ci,cb] using m3
theorem bI{ds rs:List Pc}{a l s L n:Int}(hL:3<=L)(h1:a<=s)(h2:s+L<=a+l)(hd:Ai 0 ds a)(hr:Ai (a+l) rs n):Ai 0 (uo ds rs a l s L) n :=
 hd.app ((NI h1).app ⟨rfl,(by show 1<=L;omega),(λ_=>hL),(NI h2).app hr⟩)
theorem Cc:∀{ps:List Pc} {s e:Int} {i:Nat} {z:Pc},Ai s ps e->ps[i]?=some z->∃ds rs,ps=ds++z::rs/\ds.length=i/\Ai s ds z.a/\Ai (z.a+z.l) rs e
 | [],s,e,i,z,_,h=>by simp at h
 | p::r,s,e,0,z,c,h=>by
   have e1:p=z:=by simpa using h
   subst e1
   obtain⟨h0,h1,h2,h3⟩:=c
   exact⟨[],r,rfl,rfl,h0.symm,by rw[h0];exact h3⟩
 | p::r,s,e,i+1,z,c,h=>by
   obtain⟨h0,h1,h2,h3⟩:=c
   obtain⟨ds,rs,e1,e2,c1,c2⟩:=Cc h3 (show r[i]?=some z by simpa using h)
   exact⟨p::ds,rs,by rw[e1];rfl,by rw[au,e2],⟨h0,h1,h2,c1⟩,c2⟩
theorem Fg{s e:Int}{i:Nat}{y:Pc}(c:Ai s ps e)(h:ps[i]?=some z)(h':ps[i+1]?=some y):y.a=z.a+z.l:=by
 obtain⟨ds,rs,rfl,rfl,_,c2⟩:=Cc c h;rw[θ (by omega)] at h';rw[show ds.length+1-ds.length=1 by omega] at h';cases rs with
 | nil=>simp at h'
 | cons p r =>
   have:p=y:=by simpa using h'
   subst this;exact c2.1
theorem bJ{s e:Int}{i:Nat}(c:Ai s ps e)(h:ps[i]?=some z)(h':ps.length=i+1):z.a+z.l=e:=by
 obtain⟨ds,rs,rfl,rfl,_,c2⟩:=Cc c h;rw[π,au] at h';have:rs=[]:=br.mp (by omega);subst this;exact c2
theorem bK{s e:Int}(c:Ai s ps e)(h:ps[0]?=some z):z.a=s:=by
 cases ps with
 | nil=>simp at h
 | cons p r =>
   have:p=z:=by simpa using h
   subst this;exact c.1
theorem Qq{s e:Int}{i:Nat}(c:Ai s ps e)(h:ps[i]?=some z):s+i<=z.a:=by
 obtain⟨ds,rs,rfl,rfl,c1,_⟩:=Cc c h;exact c1.le
theorem bL:∀{b e:Int},Ai b ps e->∀(i j:Nat) (y z:Pc),ps[i]?=some y->ps[j]?=some z->y.a=z.a->y=z:=by
 induction ps with
 | nil=>intro b e _ i j y z hi;simp at hi
 | cons p r ih =>
   intro b e h i j y z hi hj ha;obtain⟨e1,h1,h3,c⟩:=h;have up:∀(i:Nat) (y:Pc),r[i]?=some y->y.a>p.a:=λi y hy=>by
     have:=(c.mem y (Δ hy)).1;omega
   cases i with
   | zero =>
     cases j with
     | zero=>simp at hi hj;rw[<-hi,<-hj]
     | succ j =>
       have e2:p=y:=by simpa using hi
       have:=up j z (by simpa using hj);subst e2;omega
   | succ i =>
     cases j with
     | zero =>
       have e2:p=z:=by simpa using hj
       have:=up i y (by simpa using hi);subst e2;omega
     | succ j=>exact ih c i j y z (by simpa using hi) (by simpa using hj) ha
def tJ(ps:List Pc)(i:Nat)(z:Pc):Int:=match i with
 | 0=>z.a
 | j+1=>match ps[j]? with
   | some y=>if y.v=true then z.a else y.a
   | none=>z.a
def tG(ps:List Pc)(i:Nat)(z:Pc):Int:=match ps[i+1]? with
 | some y=>if y.v=true then z.a+z.l else y.a+y.l
 | none=>z.a+z.l
theorem bM{s e:Int}{j:Nat}{y:Pc}(c:Ai s ps e)(m:AH cs ps)(h:ps[j]?=some y)(h':ps[j+1]?=some z):cs.getD (z.a-1).toNat 0=y.mk':=by
 have e:=Fg c h h';obtain⟨_,m2⟩:=m y (Δ h);rw[bc,show z.a-1=y.a+y.l-1 by omega,m2];rfl
theorem bO{s e:Int}{j:Nat}{y:Pc}(c:Ai s ps e)(m:AH cs ps)(h:ps[j]?=some y)(h':ps[j+1]?=some z):cs.getD (y.a+y.l).toNat 0=z.mk':=by
 have e:=Fg c h h';obtain⟨m1,_⟩:=m z (Δ h');rw[bc,<-e,m1];rfl
theorem bP{s e:Int}{i:Nat}(c:Ai s ps e)(h:ps[i]?=some z):s<=tJ ps i z/\tJ ps i z<=z.a:=by
 have hz:=Qq c h;unfold tJ
 split
 . omega
 . rename_i j
   split
   . rename_i y hy;have hy':=Qq c hy;have e1:=Fg c hy h;have:=c.mem y (Δ hy)
     split <;> omega
   . omega
theorem Wt{s e:Int}{i:Nat}(c:Ai s ps e)(h:ps[i]?=some z):z.a+z.l<=tG ps i z/\tG ps i z<=e:=by
 have hz:=c.mem z (Δ h);unfold tG
 split
 . rename_i y hy;have e1:=Fg c h hy;have:=c.mem y (Δ hy)
   split <;> omega
 . omega
theorem bQ{a b:Int}(hb:1<=b): -(a+1)%b=b-1-a%b:=by
 have e:=lh a b;have h0:=eo a (show b≠0 by omega);have h1:=cu a (show 0<b by omega);have eq : -(a+1)=(b-1-a%b)+b*(-(a/b)-1):=by
   rw[Int.mul_sub,Int.mul_neg];omega
 rw[eq,Int.add_mul_emod_self_left,Int.emod_eq_of_lt (by omega) (by omega)]
theorem Ed{s e:Int}{y:Pc}(c:Ai s ps e)(hy:y∈ps)(hz:z∈ps)(h:y.a=z.a):y=z:=by
 obtain⟨i,hi⟩:=aq hy;obtain⟨j,hj⟩:=aq hz;exact bL c i j y z hi hj h
theorem NJ{j:Nat}{y:Pc}(h:ps[j]?=some y)(hv:y.v=true):tJ ps (j+1) z=z.a:=by
 unfold tJ;simp only [h];exact if_pos hv
theorem NK{j:Nat}{y:Pc}(h:ps[j]?=some y)(hv:y.v=false):tJ ps (j+1) z=y.a:=by
 unfold tJ;simp only [h];exact if_neg (by rw[hv];exact η)
theorem NL{j:Nat}{y:Pc}(h:ps[j+1]?=some y)(hv:y.v=true):tG ps j z=z.a+z.l:=by
 unfold tG;rw[h];exact if_pos hv
theorem NM{j:Nat}{y:Pc}(h:ps[j+1]?=some y)(hv:y.v=false):tG ps j z=y.a+y.l:=by
 unfold tG;rw[h];exact if_neg (by rw[hv];exact η)
theorem Qr{j:Nat}(h:ps[j+1]?=none):tG ps j z=z.a+z.l:=by
 unfold tG;rw[h]
theorem Qs{s e:Int}{i j:Nat}{y:Pc}(c:Ai s ps e)(hi:ps[i]?=some y)(hj:ps[j]?=some z)(h:y.a=z.a):i=j:=by
 rcases nw i j with g | g | g
 . exfalso;obtain⟨ds,rs,e1,e2,c1,c2⟩:=Cc c hi;subst e1 e2;rw[θ (by omega)] at hj;cases k:j-ds.length with
   | zero=>omega
   | succ n =>
     rw[k] at hj;have hm:z∈rs:=Δ (show rs[n]?=some z from hj);have:=(c2.mem z hm).1;have:=(c.mem y (μ _ Ξ)).2.1;omega
 . exact g
 . exfalso;obtain⟨ds,rs,e1,e2,c1,c2⟩:=Cc c hj;subst e1 e2;rw[θ (by omega)] at hi;cases k:i-ds.length with
   | zero=>omega
   | succ n =>
     rw[k] at hi;have hm:y∈rs:=Δ (show rs[n]?=some y from hi);have:=(c2.mem y hm).1;have:=(c.mem z (μ _ Ξ)).2.1;omega
def Bu(acc:List Pc)(z:Pc):List Pc:=match acc.getLast? with
 | some y=>if z.v=false/\y.v=false then acc.dropLast++[⟨y.a,y.l+z.l,false⟩] else acc++[z]
 | none=>acc++[z]
def A0(ps:List Pc):List Pc:=ps.foldl Bu []
theorem bR(z:Pc):Bu [] z=[z]:=rfl
theorem FP{acc:List Pc}(h:z.v=true):Bu acc z=acc++[z]:=by
 unfold Bu
 split
 . rw[if_neg (by rw[h];simp)]
 . rfl
theorem Ee{D:List Pc}{y:Pc}(h:y.v=true):Bu (D++[y]) z=D++[y]++[z]:=by
 unfold Bu;rw[gw];simp only;rw[if_neg (by rw[h];simp)]
theorem Ef{D:List Pc}{y:Pc}(h:y.v=false)(hz:z.v=false):Bu (D++[y]) z=D++[⟨y.a,y.l+z.l,false⟩]:=by
 unfold Bu;rw[gw];simp only;rw[if_pos ⟨hz,h⟩,md]
theorem Wu{i:Nat}(h:ps[i]?=some z):A0 (ps.take (i+1))=Bu (A0 (ps.take i)) z:=by
 unfold A0;rw[ap,h,bj];rfl
theorem Dz(l:List Pc):l=[]\/∃D y,l=D++[y]:=by
 rcases List.eq_nil_or_concat l with h | ⟨D,y,h⟩
 . exact .inl h
 . exact .inr ⟨D,y,by rw[h,List.concat_eq_append]⟩
theorem Ai.take:∀{ps:List Pc} {s e:Int} {i:Nat},Ai s ps e->i<=ps.length->∃m,Ai s (ps.take i) m/\Ai m (ps.drop i) e
 | ps,s,e,0,c,_=>⟨s,rfl,c⟩
 | [],s,e,i+1,c,h=>by simp at h
 | p::r,s,e,i+1,c,h=>by
   obtain⟨h0,h1,h2,h3⟩:=c
   obtain⟨m,c1,c2⟩:=h3.take (i:=i) (by simpa using h)
   exact⟨m,⟨h0,h1,h2,c1⟩,c2⟩
theorem Ai.unsnoc{D:List Pc}{y:Pc}{s e:Int}(c:Ai s (D++[y]) e):Ai s D y.a/\1<=y.l/\(y.v=true->3<=y.l)/\y.a+y.l=e:=by
 obtain⟨ds,rs,e1,e2,c1,c2⟩:=Cc (i:=D.length) (z:=y) c (by rw[θ (Θ _),ff];rfl);have hl:=congrArg jb e1;rw[π,π,aj,au] at hl;have er:rs=[]:=br.mp (by omega);subst er;have:=(pe e1 (by omega)).1;subst this;obtain⟨h1,h2,h3,_⟩:=c.mem y (μ _ Ξ);exact⟨c1,h2,h3,c2⟩
theorem bT{acc:List Pc}{s:Int}(c:Ai s acc z.a)(h1:1<=z.l)(h3:z.v=true->3<=z.l):Ai s (Bu acc z) (z.a+z.l):=by
 rcases Dz acc with h | ⟨D,y,h⟩
 . subst h;exact Ai.snoc c h1 h3
 . subst h;cases hy:y.v with
   | true=>rw[Ee hy];exact Ai.snoc c h1 h3
   | false =>
     cases hz:z.v with
     | true=>rw[FP hz];exact Ai.snoc c h1 h3
     | false =>
       rw[Ef hy hz];obtain⟨c1,y1,_,y2⟩:=c.unsnoc;have:=Ai.snoc (p:=⟨y.a,y.l+z.l,false⟩) c1 (by show 1<=y.l+z.l;omega) (λw=>by cases w)
       rwa [show (⟨y.a,y.l+z.l,false⟩:Pc).a+(⟨y.a,y.l+z.l,false⟩:Pc).l=z.a+z.l by show y.a+(y.l+z.l)=z.a+z.l;omega] at this
theorem Wv:∀{ps acc:List Pc} {s m e:Int},Ai s acc m->Ai m ps e->Ai s (ps.foldl Bu acc) e
 | [],acc,s,m,e,c,d=>by have d:m=e:=d;subst d;exact c
 | p::r,acc,s,m,e,c,d=>by
   obtain⟨h0,h1,h2,h3⟩:=d
   show Ai s (r.foldl Bu (Bu acc p)) e
   refine Wv (m:=p.a+p.l) (bT (by rw[h0];exact c) h1 h2) (by rw[h0];exact h3)
theorem Ju{s e:Int}(c:Ai s ps e):Ai s (A0 ps) e:=Wv (acc:=[]) rfl c
def Cu(cs:List Int)(ps:List Pc):List Int:=ps.foldl (λc z=>A6 c z.a z.l z.v) cs
theorem bU(cs:List Int)(ds:List Pc)(z:Pc):Cu cs (ds++[z])=A6 (Cu cs ds) z.a z.l z.v:=by
 unfold Cu;rw[bj];rfl
theorem bV{i:Nat}(h:ps[i]?=some z):Cu cs (ps.take (i+1))=A6 (Cu cs (ps.take i)) z.a z.l z.v:=by
 rw[ap,h];exact bU _ _ _
theorem Jv:∀(ps:List Pc) (cs:List Int),(Cu cs ps).length=cs.length
 | [],cs=>rfl
 | p::r,cs=>by
   show (Cu (A6 cs p.a p.l p.v) r).length=cs.length
   rw[Jv r,Cp]
theorem Ww:∀{rs ds:List Pc} {cs:List Int} {m:Int},Ai 0 ds m->Ai m rs cs.length->AH cs ds->AH (Cu cs rs) (ds++rs)
 | [],ds,cs,m,_,_,k=>by rw[bg];exact k
 | p::r,ds,cs,m,c,d,k=>by
   obtain⟨e0,h1,h2,h3⟩:=d
   have l0:=c.le
   have l1:=h3.le
   have:=Ww (rs:=r) (ds:=ds++[p]) (cs:=A6 cs p.a p.l p.v) (m:=p.a+p.l) (Ai.snoc (by rw[e0];exact c) h1 h2) (by rw[Cp,e0];exact h3)
     (AH.lay (rs:=[]) (by omega) h1 (by omega) (by rw[e0];exact c.endBy (ba 0)) (λp hp=>by cases hp) (by rw[bg];exact k))
   rw[ak,li] at this
   exact this
theorem Wx(ps:List Pc):∀i,i<=ps.length->(A0 (ps.take i)).length<=i
 | 0,_=>by simp [A0]
 | i+1,h=>by
   have ih:=Wx ps i (by omega)
   have e:ps[i]?=some ps[i]:=by simp [show i<ps.length by omega]
   rw[Wu e]
   generalize A0 (ps.take i)=acc at ih
   generalize ps[i]=z
   rcases Dz acc with e | ⟨D,w,e⟩
   . subst e;simp [bR]
   . subst e
     rw[π,aj] at ih
     cases hw:w.v with
     | true=>rw[Ee hw];simp;omega
     | false =>
       cases hz:z.v with
       | true=>rw[FP hz];simp;omega
       | false=>rw[Ef hw hz];simp;omega
def AI(ps:List Pc):Prop:=∀j y z,ps[j]?=some y->ps[j+1]?=some z->y.v=true\/z.v=true
theorem AI.snoc{D:List Pc}{w:Pc}(h:AI (D++[w]))(hv:w.v=true\/z.v=true):AI (D++[w]++[z]):=by
 intro j y x hy hx;have hl:j+1<(D++[w]++[z]).length:=(δ.mp hx).1;rw[π,aj] at hl;rw[ο (by omega)] at hy;by_cases e:j+1<(D++[w]).length
 . rw[ο e] at hx;exact h j y x hy hx
 . rw[π,aj] at e hl;rw[θ (by rw[π,aj];omega),show j+1-(D++[w]).length=0 by rw[π,aj];omega] at hx;rw[show j=D.length by omega,θ (Θ _),ff] at hy;have e1:w=y:=by simpa using hy
   have e2:z=x:=by simpa using hx
   rw[<-e1,<-e2];exact hv
theorem AI.last{D:List Pc}{w u:Pc}(h:AI (D++[w]))(hv:u.v=w.v):AI (D++[u]):=by
 intro j y x hy hx;have hl:j+1<(D++[u]).length:=(δ.mp hx).1;rw[π,aj] at hl;rw[ο (by omega)] at hy;by_cases e:j+1<D.length
 . rw[ο e] at hx;exact h j y x (by rw[ο (by omega)];exact hy) (by rw[ο e];exact hx)
 . rw[θ (by omega),show j+1-D.length=0 by omega] at hx;have e2:u=x:=by simpa using hx
   have:=h j y w (by rw[ο (by omega)];exact hy) (by rw[θ (by omega),show j+1-D.length=0 by omega];rfl);rw[<-e2,hv];exact this
theorem bW{acc:List Pc}(h:AI acc):AI (Bu acc z):=by
 rcases Dz acc with e | ⟨D,w,e⟩
 . subst e;intro j y x _ hx;have:j+1<[z].length:=(δ.mp hx).1;simp at this
 . subst e;cases hw:w.v with
   | true=>rw[Ee hw];exact h.snoc (.inl hw)
   | false =>
     cases hz:z.v with
     | true=>rw[FP hz];exact h.snoc (.inr hz)
     | false=>rw[Ef hw hz];exact h.last hw.symm
theorem Wy:∀(ps acc:List Pc),AI acc->AI (ps.foldl Bu acc)
 | [],_,h=>h
 | p::r,acc,h=>Wy r (Bu acc p) (bW h)
theorem Wz(ps:List Pc):AI (A0 ps):=Wy ps [] λj y x hy _=>by simp at hy
theorem bX{α:Type}(ds rs:List α)(z:α):(ds++z::rs)[ds.length]?=some z:=by
 rw[θ (Θ _),ff];rfl
theorem AJ.unsnoc{us:List V}{y:Pc}(h:AJ H us (ps++[y])):∃ui t,us=ui++[.ref t]/\AJ H ui ps/\H t=some (.tup [.int y.a,.int y.l,.bl y.v]):=by
 have hl:=h.1;rw[π,aj] at hl;obtain⟨t,e1,e2⟩:=h.2 ps.length y (by rw[θ (Θ _),ff];rfl);have hd:us=us.take ps.length++[.ref t]:=by
   have:=List.take_append_drop ps.length us;have e3:us.drop ps.length=[.ref t]:=by
     apply List.ext_getElem?;intro i;rw[ij];cases i with
     | zero=>exact e1
     | succ i=>rw[fz (by omega)];rfl
   rw[e3] at this;exact this.symm
 refine⟨us.take ps.length,t,hd,⟨by rw[ag];omega,λi p e=>?_⟩,e2⟩;have hi:i<ps.length:=(δ.mp e).1;obtain⟨a,h1,h2⟩:=h.2 i p (by rw[ο hi];exact e);exact⟨a,by rw[gh hi];exact h1,h2⟩
theorem AJ.relast{ui:List V}{p t t0:qH}(h:AJ H ui ps)(hp:H p=some (.lst (ui++[.ref t0])))(ht:H t=none):
   AJ (upd (upd H t (.tup [.int z.a,.int z.l,.bl z.v])) p (.lst (ui++[.ref t]))) (ui++[.ref t]) (ps++[z]):=by
 have hpt:p≠t:=Cz hp ht;have hp2:upd H t (.tup [.int z.a,.int z.l,.bl z.v]) p=some (.lst (ui++[.ref t0])):=by rw[AC hpt];exact hp
 refine AJ.snoc ?_ ?_
 . exact(h.mono (DL (.inl ht))).mono (DL (.inr ⟨_,hp2⟩))
 . exact DL (.inr ⟨_,hp2⟩) _ _ upd_same
section
variable {X:Cx}
end
def tR(xs ys:List V):Bool:=(fv (min xs.length ys.length)).all (λj=>eqV (xs.getD j .non) (ys.getD j .non))&&xs.length==ys.length
section
variable {X:Cx}{pins:List (qH×Obj)}{σ:L2.St}{H:Hp}{s:qI}{A:qM}
theorem bY{a b:qH}{xs ys:List V}(I:Inv X pins σ H s)(ha:SqT X.K H a xs)(hb:SqT X.K H b ys)(hf:xs.all Bt=true)(hg:ys.all Bt=true):
   ∃its its2:List qG,s.heap.IsTuple a its.toArray/\s.heap.IsTuple b its2.toArray/\its.length=xs.length/\its2.length=ys.length /\
     ∀j (h1:j<its.toArray.size) (h2:j<its2.toArray.size),SeqAt.EqAt A s its.toArray[j] its2.toArray[j] (eqV (xs.getD j .non) (ys.getD j .non)):=by
 obtain⟨its,r1,p1,_⟩:=I.tuple ha;obtain⟨its2,r2,p2,_⟩:=I.tuple hb;have l1:=r1.length;have l2:=r2.length;refine⟨its,its2,p1,p2,l1.symm,l2.symm,λj h1 h2=>?_⟩;rw[ν] at h1 h2;have hj:j<xs.length:=by omega
 have hk:j<ys.length:=by omega
 obtain⟨u1,e1,q1⟩:=r1.get (i:=j) (x:=xs[j]) (by simp [hj]);obtain⟨u2,e2,q2⟩:=r2.get (i:=j) (x:=ys[j]) (by simp [hk]);obtain⟨g1,f1⟩:=δ.mp e1;obtain⟨g2,f2⟩:=δ.mp e2;have fl:Bt xs[j]=true:=dn.mp hf _ (az hj);have gl:Bt ys[j]=true:=dn.mp hg _ (az hk);have z:=Nv (A:=A) (s:=s) q1 q2 fl gl;rw[<-f1,<-f2] at z;have ex:xs.getD j .non=xs[j]:=by simp [hj]
 have ey:ys.getD j .non=ys[j]:=by simp [hk]
 rw[ex,ey];simpa using z
theorem bZ{a b:qH}{xs ys:List V}(hu:A.units<rl)(I:Inv X pins σ H s)(ha:SqT X.K H a xs)(hb:SqT X.K H b ys)(hf:xs.all Bt=true)(hg:ys.all Bt=true):SeqAt.RcAt A s (.ref a) (.ref b) (tR xs ys):=by
 obtain⟨its,its2,p1,p2,l1,l2,he⟩:=bY (A:=A.in1) I ha hb hf hg;have key:=qF p1 p2 hu he;simp only [ν,l1,l2] at key;exact key
theorem NO{xs:List V}(hf:xs.all Bt=true):tR xs xs=true:=by
 unfold tR;rw[gm];refine⟨dn.mpr λj hj=>?_,by simp⟩;have hj:j<xs.length:=by simpa using hj
 have ex:xs.getD j .non=xs[j]:=by simp [hj]
 rw[ex];exact Wj (dn.mp hf _ (az hj))
end
section
variable {X:Cx}
end
end Stow
namespace L2
open PySem PySem.Spec PyProof.Rows
variable{kvs:List (List Key×V)}
section
variable {κ:Type}[DecidableEq κ]
def tM(kvs:List (κ×V))(k:κ):Option V:=(kvs.find? λkv=>decide (kv.1=k)).map (·.2)
def tX(kvs:List (κ×V))(k:κ)(v:V):List (κ×V) :=
 if (kvs.any λkv=>decide (kv.1=k))=true then kvs.map (λkv=>if kv.1=k then (kv.1,v) else kv) else kvs++[(k,v)]
def Eg(kvs:List (κ×V))(k:κ):List (κ×V):=kvs.filter λkv=>decide (kv.1≠k)
theorem NP{p:κ×V}{r:List (κ×V)}{k:κ}(e:p.1=k):tM (p::r) k=some p.2:=by simp [tM,fj,e]
theorem NQ{p:κ×V}{r:List (κ×V)}{k:κ}(e:¬p.1=k):tM (p::r) k=tM r k:=by simp [tM,fj,e]
theorem WC(k:κ):∀kvs:List (κ×V),(kvs.any λkv=>decide (kv.1=k))=(tM kvs k).isSome
 | []=>rfl
 | p::r=>by
   rw[gr]
   by_cases e:p.1=k
   . simp only [NP e,decide_eq_true e,qh,Option.isSome_some]
   . rw[NQ e,decide_eq_false e,mj];exact WC k r
theorem WD(kvs:List (κ×V))(k:κ)(v:V):(tX kvs k v).length<=kvs.length+1:=by
 unfold tX
 split
 . rw[ε];omega
 . rw[π,au,gb];omega
theorem RelO.isSome_eq{o:Option V}{u:Option qG}(r:RelO o u):o.isSome=u.isSome:=by
 cases o with
 | none=>cases u with
   | none=>rfl
   | some _=>exact(show False from r).elim
 | some _=>cases u with
   | none=>exact(show False from r).elim
   | some _=>rfl
theorem KV.val{kvs:List (κ×V)}{vs:List (κ×qG)}(r:KV kvs vs)(k:κ):RelO (tM kvs k) (valueAt vs k):=by
 unfold KV at r
 induction r with
 | nil=>exact fh
 | @cons p q ps qs h t ih =>
   obtain⟨h1,h2⟩:=h;by_cases e:p.1=k
   . have e':q.1=k:=h1.symm.trans e;have b:valueAt (q::qs) k=some q.2:=by simp [valueAt,fj,e']
     rw[NP e,b];exact h2
   . have e':¬q.1=k:=λz=>e (h1.trans z);have b:valueAt (q::qs) k=valueAt qs k:=by simp [valueAt,fj,e']
     rw[NQ e,b];exact ih
theorem KV.any{kvs:List (κ×V)}{vs:List (κ×qG)}(r:KV kvs vs)(k:κ):(kvs.any λkv=>decide (kv.1=k))=vs.any λkv=>decide (kv.1=k):=by
 unfold KV at r
 induction r with
 | nil=>rfl
 | cons h t ih=>rw[gr,gr,ih,h.1]
theorem KV.repl{kvs:List (κ×V)}{vs:List (κ×qG)}(r:KV kvs vs)(k:κ){y:V}{u:qG}(ry:RelV y u):
   KV (kvs.map λkv=>if kv.1=k then (kv.1,y) else kv) (vs.map λkv=>if kv.1=k then (kv.1,u) else kv):=by
 unfold KV at r ⊢
 induction r with
 | nil=>exact .nil
 | @cons p q ps qs h t ih =>
   rw[ar,ar];refine .cons ?_ ih;obtain⟨h1,h2⟩:=h;by_cases e:p.1=k
   . rw[if_pos e,if_pos (h1.symm.trans e)];exact⟨h1,ry⟩
   . rw[if_neg e,if_neg (λz=>e (h1.trans z))];exact⟨h1,h2⟩
theorem KV.put{kvs:List (κ×V)}{vs:List (κ×qG)}(r:KV kvs vs)(k:κ){y:V}{u:qG}(ry:RelV y u):KV (tX kvs k y) (stored vs k u):=by
 unfold tX stored;rw[r.any k];by_cases e:(vs.any λkv=>decide (kv.1=k))=true
 . rw[if_pos e,if_pos e];exact r.repl k ry
 . rw[if_neg e,if_neg e];exact Paired.snoc r ⟨rfl,ry⟩
theorem KV.drop{kvs:List (κ×V)}{vs:List (κ×qG)}(r:KV kvs vs)(k:κ):KV (Eg kvs k) (without vs k):=by
 unfold KV at r ⊢;unfold Eg without
 induction r with
 | nil=>exact .nil
 | @cons p q ps qs h t ih =>
   obtain⟨h1,h2⟩:=h;rw[fu,fu];by_cases e:p.1=k
   . have a:¬decide (p.1≠k)=true:=by simp [e]
     have b:¬decide (q.1≠k)=true:=by simp [h1.symm.trans e]
     rw[if_neg a,if_neg b];exact ih
   . have e':¬q.1=k:=λz=>e (h1.trans z);have a:decide (p.1≠k)=true:=by simp [e]
     have b:decide (q.1≠k)=true:=by simp [e']
     rw[if_pos a,if_pos b];exact .cons ⟨h1,h2⟩ ih
theorem KV.length{kvs:List (κ×V)}{vs:List (κ×qG)}(r:KV kvs vs):kvs.length=vs.length:=Paired.length r
theorem WE(kvs:List (κ×V))(k:κ):(Eg kvs k).length<=kvs.length:=gv _ _
end
theorem Eh{P:qK}{w:qL}{k:Key}{u:qG}(r:RelV (kV k) u):(A3 P w).is k u=true:=by
 cases k with
 | inl i=>obtain⟨t,e⟩:=(show ∃t,u=Value.int i t from r);subst e;exact Zg P w i t
 | inr x=>obtain⟨t,e⟩:=(show ∃t,u=Value.str x t from r);subst e;exact Zh P w x t
theorem WF{P:qK}{w:qL}:∀{ks:List Key} {us:List qG},Vals (ks.map kV) us->ItemsAre (A3 P w) ks us
 | [],_,r=>by rw[jj] at r;cases r;exact .nil
 | k::ks,_,r=>by
   rw[ar] at r
   cases r with
   | cons h t=>exact .cons (Eh h) (WF t)
abbrev KT(H:Hp):List (List Key×V)->List (List Key×qH×qG)->Prop:=Paired λp q=>p.1=q.1/\H q.2.1=some (.tup (p.1.map kV))/\RelV p.2 q.2.2
theorem KT.val{H:Hp}{xs:List (List Key×qH×qG)}(r:KT H kvs xs)(k:List Key):RelO (tM kvs k) ((atKey xs k).map (·.2)):=by
 induction r with
 | nil=>exact fh
 | @cons p q ps qs h t ih =>
   obtain⟨h1,_,h2⟩:=h;by_cases e:p.1=k
   . have e':q.1=k:=h1.symm.trans e;have b:atKey (q::qs) k=some q.2:=by simp [atKey,fj,e']
     rw[NP e,b];exact h2
   . have e':¬q.1=k:=λz=>e (h1.trans z);have b:atKey (q::qs) k=atKey qs k:=by simp [atKey,fj,e']
     rw[NQ e,b];exact ih
theorem KT.repl{H:Hp}{xs:List (List Key×qH×qG)}(r:KT H kvs xs)(k:List Key){y:V}{u:qG}(ry:RelV y u):
   KT H (kvs.map λkv=>if kv.1=k then (kv.1,y) else kv) (xs.map (putAt k u)):=by
 induction r with
 | nil=>exact .nil
 | @cons p q ps qs h t ih =>
   rw[ar,ar];refine .cons ?_ ih;obtain⟨h1,h2,h3⟩:=h;unfold putAt;by_cases e:p.1=k
   . rw[if_pos e,if_pos (h1.symm.trans e)];exact⟨h1,h2,ry⟩
   . rw[if_neg e,if_neg (λz=>e (h1.trans z))];exact⟨h1,h2,h3⟩
theorem KT.put{H:Hp}{xs:List (List Key×qH×qG)}(r:KT H kvs xs)(k:List Key){b:qH}{y:V}{u:qG}(hb:H b=some (.tup (k.map kV)))(ry:RelV y u):
   KT H (tX kvs k y) (storedH xs k b u):=by
 have e:(kvs.any λkv=>decide (kv.1=k))=(atKey xs k).isSome:=by
   rw[WC,(r.val k).isSome_eq,ka]
 unfold tX storedH;rw[e];by_cases q:(atKey xs k).isSome=true
 . rw[if_pos q,if_pos q];exact r.repl k ry
 . rw[if_neg q,if_neg q];exact Paired.snoc r ⟨rfl,hb,ry⟩
theorem KT.keeps{H H':Hp}{xs:List (List Key×qH×qG)}(r:KT H kvs xs)(ht:∀b ys,H b=some (.tup ys)->H' b=some (.tup ys)):KT H' kvs xs :=
 Paired.mapP r λ_ _ z=>⟨z.1,ht _ _ z.2.1,z.2.2⟩
section
variable {P:qK}{w:qL}{H:Hp}{h:rB}{a:qH}
theorem uZ{u:HO}(ok:HOk P w H h)(e:Rd H a u):A8 P w H h a u:=e.ok ok
theorem Iq{kvs:List (Key×V)}(ok:HOk P w H h)(e:Rd H a (.dK kvs)):kvs.length<=qT/\(a==sysModules)=false/\∃vs,KV kvs vs/\h.DictOf (A3 P w) a vs :=
 show A8 P w H h a (.dK kvs) from uZ ok e
theorem NR{kvs:List (Key×V)}(ok:HOk P w H h)(e:H a=some (.dK kvs)):kvs.length<=qT/\(a==sysModules)=false/\∃vs,KV kvs vs/\h.DictOf (A3 P w) a vs:=Iq ok (.inl e)
theorem Jw{ks:List Key}(ok:HOk P w H h)(e:H a=some (.tup (ks.map kV))):(tupleKind (A3 P w)).is h ks a:=by
 obtain⟨_,its,r,o,h1,h2,n,h3⟩:=(show A8 P w H h a (.tup (ks.map kV)) from ok a _ e)
 exact⟨o,its.toArray,n,h1,h2,h3,by simpa using WF r⟩
theorem Ir(ok:HOk P w H h)(e:Rd H a (.dT kvs)):kvs.length<=qT/\(a==sysModules)=false /\
   ∃xs,KT H kvs xs/\h.DictOfH (tupleKind (A3 P w)) a xs:=by
 obtain⟨z,y,xs,r,o,es,ep,h1,h2,h3,h4,h5⟩:=(show A8 P w H h a (.dT kvs) from uZ ok e)
 refine⟨z,y,xs,r,o,es,ep,h1,h2,h3,h4,λx hx=>?_,h5⟩;have all:∀{l:List (List Key×V)} {m:List (List Key×qH×qG)},KT H l m->∀x∈m,(tupleKind (A3 P w)).is h x.1 x.2.1:=by
   intro l m q
   induction q with
   | nil=>intro x hx;exact nomatch hx
   | @cons p q ps qs hq t ih =>
     intro x hx;rcases χ.mp hx with e | hx
     . subst e;exact Jw ok (by rw[<-hq.1];exact hq.2.1)
     . exact ih x hx
 exact all r x hx
theorem dt_of(ok:HOk P w H h)(e:H a=some (.dT kvs)):kvs.length<=qT/\(a==sysModules)=false /\
   ∃xs,KT H kvs xs/\h.DictOfH (tupleKind (A3 P w)) a xs:=Ir ok (.inl e)
end
def DGet(H:Hp)(a:qH)(y:V)(r:Option V):Prop :=
 (∃kvs k,Rd H a (.dK kvs)/\y=kV k/\r=tM kvs k)\/∃kvs k b,Rd H a (.dT kvs)/\y = .ref b/\H b=some (.tup (k.map kV))/\r=tM kvs k
def DPut(H:Hp)(a:qH)(y v:V)(H':Hp):Prop :=
 (∃kvs k,H a=some (.dK kvs)/\y=kV k/\kvs.length<qT/\H'=upd H a (.dK (tX kvs k v))) \/
 ∃kvs k b,H a=some (.dT kvs)/\y = .ref b/\H b=some (.tup (k.map kV))/\kvs.length<qT/\H'=upd H a (.dT (tX kvs k v))
theorem DGet.k{H:Hp}{a:qH}{kvs:List (Key×V)}{k:Key}(e:H a=some (.dK kvs)):DGet H a (kV k) (tM kvs k):=.inl ⟨kvs,k,.inl e,rfl,rfl⟩
section
variable {X:Cx}{pins:List (qH×Obj)}{σ:St}{H:Hp}{s:qI}{a:qH}{y v:V}{u r:qG}{o:Option V}{A:qM}{E:qG->qI->Prop}
theorem Inv.big(I:Inv X pins σ H s):sysModules<s.heap.objs.size:=by
 have h:re<s.heap.objs.size:=(I.mod.glob.keeps I.bk).lt;exact Nat.lt_trans (by decide) h
theorem cC{Q:qG->qI->Prop}(hu:A.units+1<rl)(I:Inv X pins σ H s)(g:DGet H a y (some v))(ry:RelV y u)(h:∀w' s',Inv X pins σ H s'->RelV v w'->Q w' s'):
   qX (rj X.prog X.w) A (getItem (.ref a) u) Q E s:=by
 rcases g with ⟨kvs,k,e,ey,l⟩ | ⟨kvs,k,b,e,ey,eb,l⟩
 . subst ey;obtain⟨z,hd,vs,rel,dd⟩:=Iq I.hok e;obtain⟨w',hw,rw'⟩:=RelO.some_of (v:=v) (o:=valueAt vs k) (by rw[l];exact rel.val k);exact wpAny_getItem_of (Eh ry) dd.mapOf hw (h w' _ (I.tok _) rw')
 . subst ey;cases (show u=Value.ref b from ry);obtain⟨z,hd,xs,rel,dd⟩:=Ir I.hok e;obtain⟨w',hw,rw'⟩:=RelO.some_of (v:=v) (o:=(atKey xs k).map (·.2)) (by rw[l];exact rel.val k);obtain⟨p,hp,hp2⟩:=ai.mp hw;refine wpAny_getItem_heap (tupleKind_room_in1 hu) (Jw I.hok eb) dd hp ?_;rw[hp2];exact h w' _ (I.tok _) rw'
theorem d_in{Q:qG->qI->Prop}(hu:A.units+1<rl)(I:Inv X pins σ H s)(g:DGet H a y o)(ry:RelV y u)(h:∀s',Inv X pins σ H s'->Q (.bool o.isSome) s'):
   qX (rj X.prog X.w) A (rc .In u (.ref a)) Q E s:=by
 rcases g with ⟨kvs,k,e,ey,l⟩ | ⟨kvs,k,b,e,ey,eb,l⟩
 . subst ey;obtain⟨z,hd,vs,rel,dd⟩:=Iq I.hok e;refine wpAny_in_of (Eh ry) hd dd.mapOf ?_;rw[<-(rel.val k).isSome_eq,<-l];exact h _ (I.tok _)
 . subst ey;cases (show u=Value.ref b from ry);obtain⟨z,hd,xs,rel,dd⟩:=Ir I.hok e;refine wpAny_in_heap (tupleKind_room_in1 hu) (Jw I.hok eb) hd dd ?_;have q:=(rel.val k).isSome_eq;rw[ka] at q;rw[<-q,<-l];exact h _ (I.tok _)
theorem cD{Q:qG->qI->Prop}(hu:A.units+1<rl)(I:Inv X pins σ H s)(g:DGet H a y o)(ry:RelV y u)(h:∀s',Inv X pins σ H s'->Q (.bool (!o.isSome)) s'):
   qX (rj X.prog X.w) A (rc .NotIn u (.ref a)) Q E s:=by
 rcases g with ⟨kvs,k,e,ey,l⟩ | ⟨kvs,k,b,e,ey,eb,l⟩
 . subst ey;obtain⟨z,hd,vs,rel,dd⟩:=Iq I.hok e;refine wpAny_notIn_of (Eh ry) hd dd.mapOf ?_;rw[<-(rel.val k).isSome_eq,<-l];exact h _ (I.tok _)
 . subst ey;cases (show u=Value.ref b from ry);obtain⟨z,hd,xs,rel,dd⟩:=Ir I.hok e;refine wpAny_notIn_heap (tupleKind_room_in1 hu) (Jw I.hok eb) hd dd ?_;have q:=(rel.val k).isSome_eq;rw[ka] at q;rw[<-q,<-l];exact h _ (I.tok _)
theorem NS{h':rB}{t':Nat}{ob:HO}(I:Inv X pins σ H s)(mu:Mut (H a))(hs:bu a s.heap h')(he:∃q,h'.get? a=some q)(new:A8 X.prog X.w (upd H a ob) h' a ob):
   Inv X pins σ (upd H a ob) { s with heap:=h',toks:=t' } :=
 I.write (x:=a) (e:=a) mu (.inl rfl) (λb q hb z=>(hs.2 b hb).trans z) he new
theorem Qt{P:qK}{w:qL}{H':Hp}{h':rB}{kvs:List (Key×V)}{vs:List (Key×qG)}(z:kvs.length<=qT)(hd:(a==sysModules)=false)(rel:KV kvs vs)(dd:h'.DictOf (A3 P w) a vs):
   A8 P w H' h' a (.dK kvs):=⟨z,hd,vs,rel,dd⟩
theorem cE{H':Hp}{Q:Unit->qI->Prop}(hu:A.units+1<rl)(I:Inv X pins σ H s)(g:DPut H a y v H')(ry:RelV y u)(rv:RelV v r)(h:∀s',Inv X pins σ H' s'->Q () s'):
   qX (rj X.prog X.w) A (setItem (.ref a) u r) Q E s:=by
 rcases g with ⟨kvs,k,e,ey,l,eH⟩ | ⟨kvs,k,b,e,ey,eb,l,eH⟩
 . subst ey eH;obtain⟨z,hd,vs,rel,dd⟩:=NR I.hok e;have hz:vs.length<=qT:=by rw[<-rel.length];exact z
   have hl:(tX kvs k v).length<=qT:=by have:=WD kvs k v;omega
   refine wpAny_setItem_pairs (hsz:=hz) (Eh ry) dd λh' dd' hs=>h _ ?_;have he:∃q,h'.get? a=some q:=let ⟨q,_,_,hq,_⟩:=dd';⟨q,hq⟩;exact NS I (by rw[e];exact fh) hs he (Qt hl hd (rel.put k rv) dd')
 . subst ey eH;cases (show u=Value.ref b from ry);obtain⟨z,hd,xs,rel,dd⟩:=dt_of I.hok e;have hz:xs.length<=qT:=by rw[<-Paired.length rel];exact z
   have hl:(tX kvs k v).length<=qT:=by have:=WD kvs k v;omega
   refine wpAny_setItem_heap (hsz:=hz) (tupleKind_room_in1 hu) (Jw I.hok eb) dd λh' dd' hs=>h _ ?_;obtain⟨q,es,ep,hq,h2,h3,h4,_,h5⟩:=dd';refine NS I (by rw[e];exact fh) hs ⟨q,hq⟩ ⟨hl,hd,_,(rel.put k eb rv).keeps λc ys ec=>?_,q,es,ep,hq,h2,h3,h4,h5⟩;rw[AC (ne_of ec e (λz=>nomatch z))];exact ec
end
section
variable {X:Cx}{pins:List (qH×Obj)}{σ:St}{H:Hp}{s:qI}{a:qH}{kvs:List (Key×V)}{k:Key}{u:qG}{A:qM}{E:qG->qI->Prop}
theorem vM{Q:Unit->qI->Prop}(I:Inv X pins σ H s)(e:H a=some (.dK kvs))(ry:RelV (kV k) u)(l:(tM kvs k).isSome=true)(h:∀s',Inv X pins σ (upd H a (.dK (Eg kvs k))) s'->Q () s'):
   qX (rj X.prog X.w) A (delItem (.ref a) u) Q E s:=by
 obtain⟨z,hd,vs,rel,dd⟩:=NR I.hok e;refine wpAny_delItem_slot dd.typeIs (by decide) jt
   (call_meetsIn jt dd.typeIs PySem.F.entry_dict_delitem (PySem.F.args_dict_delitem_2 _ _) (meets_dict_delitem_pairs (A3 X.prog X.w) a (Eh ry)) ⟨vs,dd,by rw[<-rel.length];exact z,by rw[<-(rel.val k).isSome_eq];exact l,λh' dd' hs=>h _ ?_⟩)
 have he:∃q,h'.get? a=some q:=let ⟨q,_,_,hq,_⟩:=dd';⟨q,hq⟩;exact NS I (by rw[e];exact fh) hs he (Qt (bp (WE kvs k) z) hd (rel.drop k) dd')
theorem d_pop{v:V}{more:List qG}{Q:qG->qI->Prop}(I:Inv X pins σ H s)(e:H a=some (.dK kvs))(ry:RelV (kV k) u)(l:tM kvs k=some v)(hm:more=[]\/∃x,more=[x])
   (h:∀w' s',Inv X pins σ (upd H a (.dK (Eg kvs k))) s'->RelV v w'->Q w' s'):qX (rj X.prog X.w) A (call (.builtin "dict.pop") (.ref a::u::more)) Q E s:=by
 obtain⟨z,hd,vs,rel,dd⟩:=NR I.hok e;obtain⟨w',hw,rw'⟩:=RelO.some_of (v:=v) (o:=valueAt vs k) (by rw[<-l];exact rel.val k);have hp:(keyPart u).isSome=true:=by
   cases k with
   | inl i=>obtain⟨t,q⟩:=(show ∃t,u=Value.int i t from ry);subst q;rfl
   | inr x=>obtain⟨t,q⟩:=(show ∃t,u=Value.str x t from ry);subst q;rfl
 have ha:argsOk "dict.pop" ⟨.ref a::u::more,[]⟩:=by
   rcases hm with q | ⟨x,q⟩
   . subst q;exact PySem.F.args_dict_pop_2 _ _
   . subst q;exact PySem.F.args_dict_pop_3 _ _ _
 refine call_meetsIn lj dd.typeIs PySem.F.entry_dict_pop ha (meets_dict_pop_there (A3 X.prog X.w) a (Eh ry) more hm hp)
   ⟨vs,w',dd,by rw[<-rel.length];exact z,hw,λh' dd' hs=>h w' _ ?_ rw'⟩
 have he:∃q,h'.get? a=some q:=let ⟨q,_,_,hq,_⟩:=dd';⟨q,hq⟩;exact NS I (by rw[e];exact fh) hs he (Qt (bp (WE kvs k) z) hd (rel.drop k) dd')
end
def NoSl(i:qN):Prop:=∀ov iv,subscripted i false ov iv=operate [ov,iv] (getItem ov iv)
theorem WG{prog:qK}{w:qL}{A:qM}{E:qG->qI->Prop}{s:qI}{env:rC}{value slice:qN}{pos:Pos}{T id:String}{Q:qG->qI->Prop}
   (hl:typeLookup (.type T) "__getitem__"=pure (some (.builtin id))) (hs:NoSl slice)
   (h:qX (rj prog w) A (rh value env) (λo s₁=>qX (rj prog w) A (rh slice env) (λi s₂=>s₂.TypeIs o T/\qX (rj prog w) A (getItem o i) Q E s₂) E s₁) E s):
   qX (rj prog w) A (rh (.Subscript value slice pos) env) Q E s:=by
 refine Subscript_ (qW h (λo s₁ h₁=>qW h₁ (λi s₂ h₂=>?_) λ_ _ x=>x) λ_ _ x=>x);obtain⟨hT,h₂⟩:=h₂;unfold subscriptTail;refine qU ?_;rw[getitemInPython_of_ne hT.not_modules];refine qU (wpAny_specialOf hT hl ?_);have fin:qX (rj prog w) A (subscripted slice false o i) (λr s₃=>qX (rj prog w) A (letTemporaryGo value o r >>= λ_=>pure r) Q E s₃) E s₂:=by
   rw[hs o i];exact wpAny_operating (qW h₂ (λr s₃ h₃=>qU (wpAny_letTemporaryGo (qV h₃))) λ_ _ x=>x)
 first
   | exact qV (qU fin)
   | exact qU (qV (qU fin))
   | exact qU fin
theorem cG{X:Cx}{pins:List (qH×Obj)}{σ:St}{H:Hp}{s:qI}{a:qH}{y:V}{o:Option V}(I:Inv X pins σ H s)(g:DGet H a y o):s.TypeIs (.ref a) "dict":=by
 rcases g with ⟨kvs,k,e,_,_⟩ | ⟨kvs,k,b,e,_,_,_⟩
 . obtain⟨_,_,vs,_,dd⟩:=Iq I.hok e;exact dd.typeIs
 . obtain⟨_,_,xs,_,dd⟩:=Ir I.hok e;exact dd.typeIs
def uP(td ty:TE):TE:=λσ H Q=>td σ H λx H1=>ty σ H1 λy H2=>∃a v,x = .ref a/\DGet H2 a y (some v)/\Q v H2
def tDIn(ty td:TE):TE:=λσ H Q=>ty σ H λy H1=>td σ H1 λx H2=>∃a o,x = .ref a/\DGet H2 a y o/\Q (.bl o.isSome) H2
def WH(ty td:TE):TE:=λσ H Q=>ty σ H λy H1=>td σ H1 λx H2=>∃a o,x = .ref a/\DGet H2 a y o/\Q (.bl (!o.isSome)) H2
def uY(td ty tv:TE):TS:=λD σ H=>tv σ H λv H1=>td σ H1 λx H2=>ty σ H2 λy H3=>∃a H4,x = .ref a/\DPut H3 a y v H4/\D.nx σ H4
section
variable {X:Cx}{o i e value:qN}{pos pos' tpos:Pos}{td ty tv:TE}
theorem Jx(hu:X.A.units+1<rl)(ho:PE X o td)(hi:PE X i ty)(hs:NoSl i):PE X (.Subscript o i pos) (uP td ty):=by
 intro pins s σ H Q I h;refine WG ju.lookup hs (thn (ho pins s σ H _ I h) λu s1 ⟨x,H1,I1,rx,q1⟩=>thn (hi pins s1 σ H1 _ I1 q1) λiv s2 ⟨y,H2,I2,ry,a,v,ex,g,q2⟩=>?_);subst ex;obtain rfl:u=Value.ref a:=rx;exact⟨cG I2 g,cC hu I2 g ry λw' s3 I3 rw'=>⟨v,H2,I3,rw',q2⟩⟩
theorem vh(hu:X.A.units+1<rl)(hi:PE X i ty)(ho:PE X o td):PC X .In i o (tDIn ty td):=by
 intro pins s σ H Q I h;refine thn (hi pins s σ H _ I h) λiv s1 ⟨y,H1,I1,ry,q1⟩=>thn (ho pins s1 σ H1 _ I1 q1) λu s2 ⟨x,H2,I2,rx,a,ov,ex,g,q2⟩=>?_;subst ex;obtain rfl:u=Value.ref a:=rx;exact d_in hu I2 g ry λs3 I3=>⟨.bl ov.isSome,H2,I3,rfl,q2⟩
theorem WI(hu:X.A.units+1<rl)(hi:PE X i ty)(ho:PE X o td):PC X .NotIn i o (WH ty td):=by
 intro pins s σ H Q I h;refine thn (hi pins s σ H _ I h) λiv s1 ⟨y,H1,I1,ry,q1⟩=>thn (ho pins s1 σ H1 _ I1 q1) λu s2 ⟨x,H2,I2,rx,a,ov,ex,g,q2⟩=>?_;subst ex;obtain rfl:u=Value.ref a:=rx;exact cD hu I2 g ry λs3 I3=>⟨.bl (!ov.isSome),H2,I3,rfl,q2⟩
theorem Jy(hu:X.A.units+1<rl)(ho:PE X o td)(hi:PE X i ty)(hv:PE X value tv)(hs:swapsWith value (some (.Subscript o i pos')) pos.line X.env=pure false):
   PS X (.Assign [.Subscript o i pos'] value pos) (uY td ty tv):=by
 intro pins s σ H D I h;refine wpAny_Assign_Subscript (thn (hv pins s σ H _ I h) λr s1 ⟨v,H1,I1,rv,q1⟩=>thn (ho pins s1 σ H1 _ I1 q1) λu s2 ⟨x,H2,I2,rx,q2⟩=>thn (hi pins s2 σ H2 _ I2 q2) λiv s3 ⟨y,H3,I3,ry,a,H4,ex,g,q3⟩=>?_) hs;subst ex;obtain rfl:u=Value.ref a:=rx;exact cE hu I3 g ry rv λs4 I4=>⟨σ,H4,I4,q3⟩
end
theorem cH{P:qK}{w:qL}{H:Hp}(h:rB)(hb:sysModules<h.objs.size):A8 P w H (h.push { cls:=.type "dict",data:=.dict #[] }) h.objs.size (.dK []) :=
 ⟨gf _,beq_eq_false_iff_ne.mpr (bd (al hb)),[],.nil,qt.new h⟩
def WJ:TE:=λ_ H Q=>∀p,H p=none->Q (.ref p) (upd H p (.dK []))
section
variable {X:Cx}{pos:Pos}
theorem Qu:PE X (.Dict [] [] pos) WJ:=λpins s σ H Q I h =>
 wpAny_Dict_empty ⟨.ref s.heap.objs.size,_,I.laid (a:=s.heap.objs.size) (o:=.dK []) (t':=s.toks) (λ_ _ q=>ζ _ q) (Θ _) (cH s.heap I.big),rfl,h _ (I.hok.fresh (Θ _))⟩
end
structure M1(X:Cx)(o:qN)(m:Str)(apos:Pos)(e:qN)(cpos:Pos):Prop where
 base:attributeBase o m X.env (rh o X.env)=rh o X.env
 few:((qY cpos (qR [e] X.env)).all (λx=>!x.1)&&(backToKw cpos (keywordEach [] X.env)).all (λx=>x.1.isSome)
   && decide (([e]:List qN).length+([]:List Keyword).length+(if ([]:List Keyword).isEmpty then 0 else 1)<30))=true
 line:(apos.endLine==cpos.line)=true
 trees:qY cpos (qR [e] X.env)=[(false,rh e X.env)]
structure M2(X:Cx)(o:qN)(m:Str)(apos:Pos)(e f:qN)(cpos:Pos):Prop where
 base:attributeBase o m X.env (rh o X.env)=rh o X.env
 few:((qY cpos (qR [e,f] X.env)).all (λx=>!x.1)&&(backToKw cpos (keywordEach [] X.env)).all (λx=>x.1.isSome)
   && decide (([e,f]:List qN).length+([]:List Keyword).length+(if ([]:List Keyword).isEmpty then 0 else 1)<30))=true
 line:(apos.endLine==cpos.line)=true
 trees:qY cpos (qR [e,f] X.env)=[(false,rh e X.env),(false,rh f X.env)]
def IsD(H:Hp)(a:qH):Prop:=(∃kvs,Rd H a (.dK kvs))\/∃kvs,Rd H a (.dT kvs)
theorem vE{X:Cx}{pins:List (qH×Obj)}{σ:St}{H:Hp}{s:qI}{a:qH}(I:Inv X pins σ H s)(d:IsD H a):
   s.TypeIs (.ref a) "dict"/\(∀b,Value.ref a = .ref b->∃ob,s.heap.get? b=some ob/\ob.dict=none)/\(a==sysModules)=false:=by
 rcases d with ⟨kvs,e⟩ | ⟨kvs,e⟩
 . obtain⟨_,hd,vs,_,dd⟩:=Iq I.hok e;refine⟨dd.typeIs,λb q=>?_,hd⟩;cases q;obtain⟨ob,_,_,h1,h2,_⟩:=dd;exact⟨ob,h1,h2.2.1⟩
 . obtain⟨_,hd,xs,_,dd⟩:=Ir I.hok e;refine⟨dd.typeIs,λb q=>?_,hd⟩;cases q;obtain⟨ob,_,_,h1,h2,_⟩:=dd;exact⟨ob,h1,h2.2.1⟩
section
variable {X:Cx}{pins:List (qH×Obj)}{σ:St}{H:Hp}{s:qI}{a:qH}{y d:V}{u r:qG}{o:Option V}{A:qM}{E:qG->qI->Prop}
end
def WK(td ty:TE):TE:=λσ H Q=>td σ H λx H1=>∃a,x = .ref a/\IsD H1 a/\ty σ H1 λy H2=>∃kvs k v,H2 a=some (.dK kvs)/\y=kV k/\tM kvs k=some v/\Q v (upd H2 a (.dK (Eg kvs k)))
section
variable {X:Cx}{o e f:qN}{apos cpos:Pos}{td ty tx:TE}
theorem WL(ho:PE X o td)(he:PE X e ty)(m:M1 X o "pop" apos e cpos):PE X (.Call (.Attribute o "pop" apos) [e] [] cpos) (WK td ty):=by
 intro pins s σ H Q I h;refine wpAny_Call_method m.base m.few m.line PySem.F.plainAttrs_dict lj PySem.F.type_dict_pop (thn (ho pins s σ H _ I h) λu s1 ⟨x,H1,I1,rx,a,ex,d,q1⟩=>?_);subst ex;obtain rfl:u=Value.ref a:=rx;obtain⟨t1,t2,_⟩:=vE I1 d;refine⟨t1,t2,?_⟩;rw[m.trees];refine iq rfl (ly (ig (thn (he pins s1 σ H1 _ I1 q1) λiv s2 ⟨y,H2,I2,ry,kvs,k,v,ea,ey,l,q2⟩=>jy ?_)));subst ey;exact d_pop I2 ea ry l (.inl rfl) λw' s3 I3 rw'=>⟨v,_,I3,rw',q2⟩
end
section
variable {X:Cx}{pins:List (qH×Obj)}{σ:St}{H:Hp}{s:qI}{a:qH}{kvs:List (Key×V)}{A:qM}{E:qG->qI->Prop}
end
section
variable {X:Cx}{pins:List (qH×Obj)}{σ:St}{H:Hp}{s:qI}{a:qH}{y:V}{u:qG}{A:qM}{E:qG->qI->Prop}
end
section
variable {X:Cx}
end
section
variable {κ:Type}[DecidableEq κ]
end
end L2
namespace Stow
open PySem L2 PyProof.Rows
variable{cs:List Int}{scope:qP}
def CShl(i j:Int):Prop:=0<=j/\j<=1000/\i.natAbs<2^220
section
variable {X:Cx}
theorem WM:OpR X (binaryOp .LShift) (rI CShl λi j=>.int (i*2^j.toNat)):=opI λi j _ _ _ _ _ hc q =>
 lshift_int hc.1 (by
   obtain⟨h0,h1,h2⟩:=hc
   have:=qf h2
   omega) q
end
theorem cJ(n:Int):Builtin.bitOr (n*2) 1=n*2+1:=by
 rw[qi];have e:Builtin.bitAnd (n*2) 1=(n*2)%2:=by rw[bitAnd_m1]
 rw[e];omega
section
variable {prog:qK}{w:qL}{A:qM}{R:Result->qI->Prop}{s:qI}
theorem cK{elt tgt src:qN}{cs:List qN}{sc:qP}{ps:Pos}{itv accv:qG}{ev:rC}(J:Nat->qI->Prop)
   (step:∀k t,J k t->qX (rj prog w) A (pyNext itv) (λr t1=>match r with
     | none=>R (.ok .next) t1
     | some x=>qX (rj prog w) A (letOwnedTupleGo tgt itv x) (λ_ t2=>qX (rj prog w) A (assign tgt ev x) (λ_ t3 =>
         qX (rj prog w) A (forIn cs true λc r=>if r=true then do let ok <-isTrue c ev (rh c ev);pure (ForInStep.yield ok) else pure (ForInStep.yield r)) (λgood t4 =>
           if good=true then qX (rj prog w) A (rh elt ev) (λy t5=>qX (rj prog w) A (call (.builtin "list.append") [accv,y]) (λ_ t6=>∃j,j<k/\J j t6) (notedBy (rj prog w) A ev λe t'=>R (.error e) t') t5) (notedBy (rj prog w) A ev λe t'=>R (.error e) t') t4
           else ∃j,j<k/\J j t4) (notedBy (rj prog w) A ev λe t'=>R (.error e) t') t3) (notedBy (rj prog w) A ev λe t'=>R (.error e) t') t2) (notedBy (rj prog w) A ev λe t'=>R (.error e) t') t1) (notedBy (rj prog w) A ev λe t'=>R (.error e) t') t)
   (k0:Nat) (j0:J k0 s):codeAny (rj prog w) A (.compLoop (.ListComp elt [⟨tgt,src,cs,0⟩] sc ps) 0 itv accv ev) R s:=by
 refine codeAny_loop rfl J (λk t hJ=>?_) k0 j0;show qX _ A ((compTurn (.ListComp elt [⟨tgt,src,cs,0⟩] sc ps) 0 itv accv ev).onRaise (λx=>do noteFrame x ev;theTreesLotGoes x)) _ _ t;refine wpAny_noted ?_;rw[compTurn_list];refine qU (wpAny_standAt (qU (qW (step k t hJ) (λr t1 g1=>?_) λ_ _ z=>z)));cases r with
 | none=>exact qV g1
 | some x =>
   refine qU (qW g1 (λ_ t2 g2=>?_) λ_ _ z=>z);refine qU (qW g2 (λ_ t3 g3=>?_) λ_ _ z=>z);refine qU (qW g3 (λgood t4 g4=>?_) λ_ _ z=>z);cases good with
   | false=>exact qV ⟨rfl,g4⟩
   | true=>exact qU (qU (qW g4 (λy t5 g5=>qU (qW g5 (λ_ t6 g6=>qV (qV ⟨rfl,g6⟩)) λ_ _ z=>z)) λ_ _ z=>z))
end
theorem Qw{env:rC}:∀(names:List (Str×NameKind)) (acc:List (Str×qH)),(∀y∈names,y.2 = .free->∃c,env.cells.lookup y.1=some c)->(∀x c,acc.lookup x=some c->env.cells.lookup x=some c) ->
   ∃cl,(forIn names acc λx r=>(do let (name,kind):=x;if (kind==NameKind.free)=true then do let c <-cellOf env name;pure (ForInStep.yield ((name,c)::r)) else pure (ForInStep.yield r)):rq (List (Str×qH)))=pure cl /\
     (∀x c,cl.lookup x=some c->env.cells.lookup x=some c)/\(∀y∈names,y.2 = .free->∃c,cl.lookup y.1=some c)/\(∀x c,acc.lookup x=some c->∃c',cl.lookup x=some c')
 | [],acc,_,ha=>⟨acc,by simp,ha,λy hy=>by simp at hy,λx c e=>⟨c,e⟩⟩
 | (n,k)::r,acc,h,ha=>by
   by_cases hk:k = .free
   . obtain⟨c,hc⟩:=h (n,k) Ξ hk
     obtain⟨cl,e1,e2,e3,e4⟩:=Qw r ((n,c)::acc) (λy hy=>h y (ι _ hy)) (λx d e=>by
       by_cases hx:x=n
       . subst hx
         rw[iw] at e
         cases e
         exact hc
       . rw[iz,show (x==n)=false by simpa using hx] at e
         exact ha x d e)
     refine⟨cl,?_,e2,λy hy hf=>?_,λx d e=>?_⟩
     . rw[je]
       subst hk
       have ec:cellOf env n=pure c:=by unfold cellOf;rw[hc]
       simp only [beq_self_eq_true,if_true,ec,pure_bind]
       exact e1
     . rcases χ.mp hy with z | z
       . subst z
         exact e4 n c (by rw[iw])
       . exact e3 y z hf
     . by_cases hx:x=n
       . subst hx
         exact e4 x c (by rw[iw])
       . exact e4 x d (by rw[iz,show (x==n)=false by simpa using hx];exact e)
   . obtain⟨cl,e1,e2,e3,e4⟩:=Qw r acc (λy hy=>h y (ι _ hy)) ha
     refine⟨cl,?_,e2,λy hy hf=>?_,e4⟩
     . rw[je]
       have:(k==NameKind.free)=false:=by simpa using hk
       simp only [this,bq,if_false,pure_bind]
       exact e1
     . rcases χ.mp hy with z | z
       . subst z
         exact absurd hf hk
       . exact e3 y z hf
theorem Qx{env:rC}(h:∀y∈scope.names,y.2 = .free->∃c,env.cells.lookup y.1=some c):
   ∃cl,closureFor scope env=pure cl/\(∀x c,cl.lookup x=some c->env.cells.lookup x=some c)/\(∀y∈scope.names,y.2 = .free->∃c,cl.lookup y.1=some c):=by
 obtain⟨cl,e1,e2,e3,_⟩:=Qw scope.names [] h (λx c e=>by simp at e);refine⟨cl,?_,e2,e3⟩;unfold closureFor;simp only [bind_pure] at *;exact e1
section
variable {X:Cx}
abbrev Cx.blockG(X:Cx)(scope:qP)(cl:List (Str×qH))(C:qH)(N:List Str)(s₀:qI)(H₀:Hp)(ex:List qH):Cx :=
 { X with N:=N,s₀:=s₀,H₀:=H₀,env:=compEnvC scope cl C X.env,outer:=X.stack,stack:=X.stack,ex:=ex,fn:=λ_=>false,pn:=[],xe:=λ_ _=>False }
theorem cL{pins:List (qH×Obj)}{σ:L2.St}{H:Hp}{s:qI}{cl:List (Str×qH)}{C:qH}{N:List Str}{fp:List qH}(I:Inv X pins σ H s)(hk:scope.kind = .function)(hC:s.heap.objs.size<=C)
   (hcl:∀x c,cl.lookup x=some c->X.env.cells.lookup x=some c) (hhas:∀y,(relabel scope X.env).names.lookup y=some .cell\/(relabel scope X.env).names.lookup y=some .free->∃c,cl.lookup y=some c)
   (ho:∀b∈fp,∃o,s.heap.get? b=some o/\∀v,o.data≠.cell v) (hf:∀b∈fp,uc X pins H b):
   (Cx.blockG X scope cl C N s H fp).Ok where
 mod:=I.ok.mod
 kind:=hk
 glob:=I.ok.glob
 blt:=I.ok.blt
 above:=hC
 inj:=λx y c e1 e2=>I.ok.inj x y c (hcl x c e1) (hcl y c e2)
 has:=λy e=>hhas y e
 cab:=λ_ _ e=>nomatch e
 hd:=λhc=>let ⟨cs,l,z,k⟩:=aU I hc hf;⟨cs,l,z,λp hp=>.inl (k p hp)⟩
 frames:=I.ok.frames
 stk:=.inl rfl
 exf:=λb hb=>⟨λz=>by
   obtain⟨o,e,_⟩:=ho b hb
   have:=ao (ξ e) hC
   rw[z] at this
   exact bh _ this,λx c e=>(hf b hb).2.2.2.2.1 x c (hcl x c e)⟩
 bs:=I.bs
 bsz:=bp I.ok.bsz I.sz
 noex:=λb o e hb=>by
   rcases(hf b hb).2.2.2.1 with z | z
   . exact I.ok.noex b o e z
   . exact absurd (ao (ξ (I.ok.bs b o e).1) z) (bh _)
 exfs:=λb hb z=>by
   rcases χ.mp (I.stkSub b z) with e | e
   . exact(hf b hb).2.1 e
   . exact(hf b hb).2.2.1 e
 funs:=I.stack
 frf:=I.stkFree
def Jz(n:Nat)(fs:L2.St)(J:It)(g:TG)(tt:TT)(te:TE)(Q:VK)(H1:Hp):Prop:=∀D,H1 D=none->∃W:Nat->Nat->List V->Hp->Prop,(∃m,W 0 m [] (upd H1 D (.lst [])))/\∀i m ys H2,W i m ys H2 ->
 (J.stop i H2/\Q (.ref D) H2)\/(J.go i H2/\∀x H3,J.yld i H2 x H3->∀τ:L2.St,τ.length=n->g x (τ++fs) H3 λσ1 H4=>(∃τ':L2.St,τ'.length=n/\σ1=τ'++fs)/\tt σ1 H4 λb H5 =>
   if b=true then te σ1 H5 λy H6=>H6 D=some (.lst ys)/\ys.length<qT/\∃m',m'<m/\W (i+1) m' (ys++[y]) (upd H6 D (.lst (ys++[y]))) else ∃m',m'<m/\W (i+1) m' ys H5)
def JA(n:Nat)(is:List Nat)(wi:TI)(g:TG)(tt:TT)(te:TE):TE:=λσ H Q=>wi σ H λJ H1=>Jz n (is.map λk=>σ.getD k none) J g tt te Q H1
def Iu(X:Cx)(scope:qP)(F:List Str)(is:List Nat):Prop:=F.length=is.length/\∀(j:Nat) (y:Str) (k:Nat),F[j]?=some y->is[j]?=some k->X.N[k]?=some y/\X.env.kindOf y=some .cell/\(relabel scope X.env).names.lookup y=some .cell
theorem WN{elt iter tg:qN}{pos:Pos}{ifs:List qN}{O F:List Str}{is:List Nat}{cl:List (Str×qH)}{g:TG}{tt:TT}{te:TE}{pins:List (qH×Obj)}{σ:L2.St}{s2:qI}{H2:Hp}{it:qH}{fp:List qH}{tn:Nat->rB->Prop}{J:It}{Q:VK}{RR:qG->qH->Result->qI->Prop}
   (hc:X.calm=true) (hkind:scope.kind = .function) (hcell:∀y∈scope.names,y.2≠.cell)
   (hcl:∀x c,cl.lookup x=some c->X.env.cells.lookup x=some c) (hhas:∀y,(relabel scope X.env).names.lookup y=some .cell\/(relabel scope X.env).names.lookup y=some .free->∃c,cl.lookup y=some c) (hF:Iu X scope F is)
   (hG:∀cl C s₀ H₀ ex,PG (Cx.blockG X scope cl C (O++F) s₀ H₀ ex) tg g) (hT:∀cl C s₀ H₀ ex,PTs (Cx.blockG X scope cl C (O++F) s₀ H₀ ex) ifs tt) (hE:∀cl C s₀ H₀ ex,PE (Cx.blockG X scope cl C (O++F) s₀ H₀ ex) elt te)
   (I2:Inv X pins σ H2 s2) (T:wj X.prog X.w X.K tg J fp it tn) (st2:tn 0 s2.heap) (f2:∀b∈fp,uc X pins H2 b)
   (h:Jz O.length (is.map λk=>σ.getD k none) J g tt te Q H2)
   (hRR:∀D C H' s',Inv X pins σ H' s'->uc X pins H' C->(∃m,s'.heap.Ns C m)->Q (.ref D) H'->RR (.ref D) C (.ok .next) s'):
   qX (rj X.prog X.w) X.A (newList []) (λacc s₃=>qX (rj X.prog X.w) X.A (newFunctionEnv scope X.env.globals cl [] X.env.qual none .none (some X.env)) (λcenv s₄ =>
     codeAny (rj X.prog X.w) X.A (.compStart (.ListComp elt [⟨tg,iter,ifs,0⟩] scope pos) 0 (.ref it) acc { cenv with scope:=relabel scope X.env }) (RR acc cenv.locals) s₄) X.xe s₃) X.xe s2:=by
 refine wpAny_newObj_type (wpAny_newFunctionEnv hcell (by intro y hy;simp at hy) (λh₁ hns₁ hsb₁=>?_) hkind);dsimp only at hns₁ hsb₁ ⊢;generalize hG0:s2.heap.push { cls:=.type "list",dict:=none,data:=.seq ([]:List qG).toArray }=G at hns₁ hsb₁ ⊢;have hCs:G.objs.size=s2.heap.objs.size+1:=by rw[<-hG0,bo]
 have hDC:s2.heap.objs.size≠G.objs.size:=by rw[hCs];exact al (ft _)
 have hCle:s2.heap.objs.size<=G.objs.size:=by rw[hCs];exact jz _
 have old:∀b o,s2.heap.get? b=some o->h₁.get? b=some o:=λb o e=>hsb₁.extBut b o (by rw[hCs];exact al (df (ξ e))) (ζ _ (hG0▸ζ _ e));have eD:h₁.get? s2.heap.objs.size=some { cls:=.type "list",dict:=none,data:=.seq ([]:List qG).toArray }:=hsb₁.extBut _ _ hDC (ζ _ (hG0▸Ω _ rfl));have nD:H2 s2.heap.objs.size=none:=I2.hok.fresh (Θ _);have nC:H2 G.objs.size=none:=I2.hok.fresh hCle;obtain⟨W,⟨m0,w0⟩,turn⟩:=h s2.heap.objs.size nD;generalize efs:(is.map λk=>σ.getD k none)=fs at turn;have fre:∀b∈fp,upd H2 s2.heap.objs.size (.lst []) b=none:=λb hb=>by
   obtain⟨o,e,_⟩:=T.obj _ _ st2 b hb;rw[AC (al (ξ e))];exact(f2 b hb).1
 have loop:∀s4:qI,s4={ s2 with heap:=h₁,toks:=s2.toks+([]:List (Str×qG)).length } ->
     codeAny (rj X.prog X.w) X.A (.compLoop (.ListComp elt [⟨tg,iter,ifs,0⟩] scope pos) 0 (.ref it) (.ref s2.heap.objs.size) (compEnvC scope cl G.objs.size X.env)) (RR (.ref s2.heap.objs.size) G.objs.size) s4:=by
   rintro s4 rfl;have ok:=cL (N:=O++F) I2 hkind hCle hcl hhas (T.obj _ _ st2) f2;have IB:Inv (Cx.blockG X scope cl G.objs.size (O++F) s2 H2 fp) [] (aw O.length none++fs) (upd H2 s2.heap.objs.size (.lst [])) { s2 with heap:=h₁,toks:=s2.toks+([]:List (Str×qG)).length }:=by
     refine⟨ok,rfl,I2.bare,Un.laid old (Θ _) nD,⟨_,hns₁,λi y v e1 e2 _=>?_⟩,(λx c e=>?_),?_,(λx c e=>?_),(λp hp=>nomatch hp),I2.hok.laid old (Θ _) ⟨gf _,[],0,.nil,eD⟩,?_⟩
     . have e1:(O++F)[i]?=some y:=e1;by_cases hi:i<O.length
       . rw[ο (by rw[bz];exact hi),ke,if_pos hi] at e2;cases e2
       . rw[θ (by omega)] at e1;rw[θ (by rw[bz];omega),bz,<-efs,Ψ] at e2;obtain⟨k,ek,ev⟩:=ai.mp e2;obtain⟨g1,g2,g3⟩:=hF.2 _ _ _ e1 ek;have es:σ[k]?=some (some v):=by
           rw[bc] at ev;cases q:σ[k]? with
           | none=>rw[q] at ev;cases ev
           | some z=>rw[q] at ev;exact congrArg some ev
         obtain⟨m,hm,hl⟩:=I2.loc;obtain⟨u,ru,lk⟩:=hl k y v g1 es (.inr (.inl g2));refine⟨u,ru,.inr ⟨.inl g3,?_⟩⟩;rcases lk with ⟨z,_⟩ | ⟨_,c,c1,o,c2,c3⟩
         . rw[g2] at z;cases z
         . obtain⟨c',e'⟩:=hhas y (.inl g3);have:=hcl y c' e';rw[c1] at this;cases this;exact⟨c,e',o,old c o c2,c3⟩
     . obtain⟨v,o,c2,c3⟩:=I2.cell x c (hcl x c e);exact⟨v,o,old c o c2,c3⟩
     . show upd H2 s2.heap.objs.size (.lst []) G.objs.size=none;rw[AC (bd hDC)];exact nC
     . obtain⟨v,o,c2,c3⟩:=I2.cell x c (hcl x c e);show upd H2 s2.heap.objs.size (.lst []) c=none;rw[AC (al (ξ c2))];exact I2.freeC x c (hcl x c e)
     . show (aw O.length none++fs).length=(O++F).length;rw[π,π,bz,<-efs,ε,hF.1]
   have stat:∀{H':Hp},(∀b∈fp,H' b=none)->∀b∈fp,uc (Cx.blockG X scope cl G.objs.size (O++F) s2 H2 fp) [] H' b:=λhn b hb =>
     ⟨hn b hb,(ok.exf b hb).1,ok.exfs b hb,.inl hb,(ok.exf b hb).2,(λp hp=>nomatch hp)⟩
   refine cK (λn s'=>∃i ys τ H',Inv (Cx.blockG X scope cl G.objs.size (O++F) s2 H2 fp) [] (τ++fs) H' s'/\τ.length=O.length/\tn i s'.heap/\(∀b∈fp,H' b=none)/\W i n ys H') ?_ m0
     ⟨0,[],_,_,IB,bz,T.keep _ _ _ st2 λb _ o e=>old b o e,fre,w0⟩
   rintro n s3 ⟨i,ys,τ,H3,I3,hτ,st3,fr3,w3⟩;rcases turn i n ys H3 w3 with ⟨stop,q⟩ | ⟨go,step⟩
   . refine qW (T.done (Cx.blockG X scope cl G.objs.size (O++F) s2 H2 fp) rfl rfl rfl hc i [] s3 (τ++fs) H3 (λ_ _=>False) I3 (stat fr3) st3 stop) (λr s4 ⟨hr,I4⟩=>?_) (λ_ _ z=>z.elim);subst hr;obtain⟨m,hn,_⟩:=I4.loc;refine hRR _ G.objs.size H3 s4 (I2.call' (ch:=fp) I4.os I4.base I4.hok I4.bare λb hb=>?_) (I2.fpOk hCle I4.free) ⟨m,hn⟩ q;obtain⟨g0,g1,g2,g3,g4,g5⟩:=f2 b hb;exact⟨g3,g1,g4,g5⟩
   . refine qW (T.item (Cx.blockG X scope cl G.objs.size (O++F) s2 H2 fp) rfl rfl rfl hc i [] s3 (τ++fs) H3 (λ_ _=>False) I3 (stat fr3) st3 go) (λr s4 ⟨u,hr,h4⟩=>?_) (λ_ _ z=>z.elim);subst hr;refine qW h4 (λ_ s5 ⟨v,H5,I5,r5,y5,st5,fr5⟩=>?_) (λ_ _ z=>z.elim);have I5':=I5.pinned (stat fr5) (T.obj _ _ st5);refine qW (hG _ _ _ _ _ _ s5 (τ++fs) H5 v u _ I5' r5 (step v H5 y5 τ hτ)) (λ_ s6 ⟨σ6,H6,I6,⟨τ',hτ',e6⟩,q6⟩=>?_) (λ_ _ z=>z.elim);subst e6;have again:∀{s7:qI} {H7:Hp} {ys':List V} {m':Nat},Inv (Cx.blockG X scope cl G.objs.size (O++F) s2 H2 fp) ([]++Jk fp s5.heap) (τ'++fs) H7 s7->m'<n->W (i+1) m' ys' H7 ->
         ∃m,m<n/\∃i ys τ H',Inv (Cx.blockG X scope cl G.objs.size (O++F) s2 H2 fp) [] (τ++fs) H' s7/\τ.length=O.length/\tn i s7.heap/\(∀b∈fp,H' b=none)/\W i m ys H':=λ{s7 H7 ys' m'} I7 hm w7=>by
       refine⟨m',hm,i+1,ys',τ',H7,I7.unpinned,hτ',T.keep _ _ _ st5 λb hb o e=>(I7.pin (b,o) (μ _ (μ _ (Nl hb e)))).1,λb hb=>?_,w7⟩;obtain⟨o,e,_⟩:=T.obj _ _ st5 b hb;exact(I7.pin (b,o) (μ _ (μ _ (Nl hb e)))).2.1
     refine qW (hT _ _ _ _ _ _ s6 (τ'++fs) H6 _ I6 q6) (λb s7 ⟨H7,I7,q7⟩=>?_) (λ_ _ z=>z.elim);cases b with
     | false =>
       obtain⟨m',hm,w7⟩:=q7;exact again I7 hm w7
     | true =>
       rw[if_pos rfl];refine qW (hE _ _ _ _ _ _ s7 (τ'++fs) H7 _ I7 q7) (λy' s8 ⟨y,H8,I8,ry,hD,hz,m',hm,w8⟩=>?_) (λ_ _ z=>z.elim);refine qW (Fb (X:=Cx.blockG X scope cl G.objs.size (O++F) s2 H2 fp) _ s8 (τ'++fs) H8 (.ref s2.heap.objs.size) [y] (.ref s2.heap.objs.size) [y'] (λ_ H9=>H9=upd H8 s2.heap.objs.size (.lst (ys++[y]))) I8 rfl (.cons ry .nil) ⟨s2.heap.objs.size,ys,y,rfl,rfl,hD,hz,rfl⟩) (λ_ s9 ⟨_,H9,I9,_,e9⟩=>?_) (λ_ _ z=>z.elim);subst e9;exact again I9 hm w8
 exact codeAny_compStart_list (loop _ rfl) (T.self _ 0 _ _ _ (T.keep _ _ _ st2 λb _ o e=>old b o e) (loop _ rfl))
theorem Iv{elt iter tg:qN}{pos:Pos}{ifs:List qN}{wi:TI}{g:TG}{tt:TT}{te:TE}(O F:List Str)(is:List Nat)(hc:X.calm=true)(hi:PI X tg iter wi)
   (hG:∀cl C s₀ H₀ ex,PG (Cx.blockG X scope cl C (O++F) s₀ H₀ ex) tg g) (hT:∀cl C s₀ H₀ ex,PTs (Cx.blockG X scope cl C (O++F) s₀ H₀ ex) ifs tt) (hE:∀cl C s₀ H₀ ex,PE (Cx.blockG X scope cl C (O++F) s₀ H₀ ex) elt te)
   (hF:Iu X scope F is) (hfc:∀y∈scope.names,y.2 = .free->X.env.kindOf y.1=some .cell) (hrl:∀y,(relabel scope X.env).names.lookup y=some .cell\/(relabel scope X.env).names.lookup y=some .free->∃z∈scope.names,z.1=y/\z.2 = .free)
   (hkind:scope.kind = .function:=by rfl) (hcell:∀y∈scope.names,y.2≠.cell:=by decide +kernel)
   (hnames:∀y∈scope.names,y.2 = .local->scope.names.lookup y.1=some .local:=by decide +kernel) (hs:∀y,foldedSetIterable iter X.env y=pure y:=by intro _;rfl):
   PE X (.ListComp elt [⟨tg,iter,ifs,0⟩] scope pos) (JA O.length is wi g tt te):=by
 intro pins s σ H Q I h;rw[eval_ListComp];obtain⟨cl,hcf,hcl,hca⟩:=Qx (scope:=scope) (env:=X.env) λy hy hf=>I.ok.has y.1 (.inl (hfc y hy hf));refine wpAny_comprehension_free (use:=none) (cl:=cl) rfl hs hcf hkind hnames (qW (hi pins s σ H _ I h) (λv s1 h1=>qW h1 (λitv s2 h2=>?_) λ_ _ e=>e) λ_ _ e=>e);obtain⟨it,fp,tn,J,H2,e,I2,T,st2,f2,R2⟩:=h2;subst e;refine WN (O:=O) (F:=F) (is:=is) (Q:=Q) (RR:=λacc C=>compPost (rj X.prog X.w) X.A X.xe none (EP X pins σ Q) acc C) hc hkind hcell hcl (λy hy=>?_) hF hG hT hE I2 T st2 f2 R2 ?_
 . obtain⟨z,hz,e1,e2⟩:=hrl y hy;subst e1;exact hca z hz e2
 . rintro D C H' s' I' f' ⟨m,hn⟩ q;obtain⟨f0,f1,f2',f3,f4,f5⟩:=f';refine⟨m,hn,λh' sb=>⟨.ref D,H',I'.turned (t':=s'.toks) (λb o hb e=>(sb.2 b hb).trans e) f0 f1 f3 f4 f5,rfl,q⟩⟩
theorem WO{elt iter tg:qN}{y:Str}{py pos spos:Pos}{ifs:List qN}{wi:TI}{g:TG}{tt:TT}{te:TE}{i:Nat}(O F:List Str)(is:List Nat)(hN:X.N.Nodup)(hi0:X.N[i]?=some y)(hy:Loc X.env.scope y)(hc:X.calm=true)(hi:PI X tg iter wi)
   (hG:∀cl C s₀ H₀ ex,PG (Cx.blockG X scope cl C (O++F) s₀ H₀ ex) tg g) (hT:∀cl C s₀ H₀ ex,PTs (Cx.blockG X scope cl C (O++F) s₀ H₀ ex) ifs tt) (hE:∀cl C s₀ H₀ ex,PE (Cx.blockG X scope cl C (O++F) s₀ H₀ ex) elt te)
   (hF:Iu X scope F is) (hfc:∀y∈scope.names,y.2 = .free->X.env.kindOf y.1=some .cell) (hrl:∀y,(relabel scope X.env).names.lookup y=some .cell\/(relabel scope X.env).names.lookup y=some .free->∃z∈scope.names,z.1=y/\z.2 = .free)
   (hsw:swapsWith (.ListComp elt [⟨tg,iter,ifs,0⟩] scope pos) (some (.Name y py)) spos.line X.env=pure true:=by rfl)
   (hkind:scope.kind = .function:=by rfl) (hcell:∀y∈scope.names,y.2≠.cell:=by decide +kernel)
   (hnames:∀y∈scope.names,y.2 = .local->scope.names.lookup y.1=some .local:=by decide +kernel) (hs:∀y,foldedSetIterable iter X.env y=pure y:=by intro _;rfl)
   (hf:X.fn y=true\/X.env.scope.names.lookup y=some .local:=by first | exact .inl rfl | exact .inr rfl | assumption):
   PS X (.Assign [.Name y py] (.ListComp elt [⟨tg,iter,ifs,0⟩] scope pos) spos) (uB (JA O.length is wi g tt te) (FG i)):=by
 intro pins s σ H D I h;rw[exec_Assign_Name_used _ _ _ _ hsw];obtain⟨cl,hcf,hcl,hca⟩:=Qx (scope:=scope) (env:=X.env) λy hy hf=>I.ok.has y.1 (.inl (hfc y hy hf));refine qU (wpAny_standAt (qU ?_));show qX _ X.A (do let _ <-comprehension (.ListComp elt [⟨tg,iter,ifs,0⟩] scope pos) scope X.env _ (newList []) false (rh iter X.env) (some (assign (.Name y py) X.env))) _ _ s;refine qU (qW (wpAny_comprehension_free (use:=some (assign (.Name y py) X.env)) (cl:=cl) (Q:=λ_ s'=>SP X pins D .next s') rfl hs hcf hkind hnames
   (qW (hi pins s σ H _ I h) (λv s1 h1=>qW h1 (λitv s2 h2=>?_) λ_ _ e=>e) λ_ _ e=>e)) (λ_ s' hq=>qV (qV hq)) λ_ _ e=>e)
 obtain⟨it,fp,tn,J,H2,e,I2,T,st2,f2,R2⟩:=h2;subst e;refine WN (O:=O) (F:=F) (is:=is) (Q:=λv H1=>FG i v σ H1 D.nx) (RR:=λacc C=>compPost (rj X.prog X.w) X.A X.xe (some (assign (.Name y py) X.env)) (λ_ s'=>SP X pins D .next s') acc C) hc hkind hcell hcl (λy hy=>?_) hF hG hT hE I2 T st2 f2 R2 ?_
 . obtain⟨z,hz,e1,e2⟩:=hrl y hy;subst e1;exact hca z hz e2
 . rintro D' C H' s' I' f' ⟨m,hn⟩ q;obtain⟨f0,f1,f2',f3,f4,f5⟩:=f';show qX _ X.A (assign (.Name y py) X.env (.ref D')) _ _ _;refine wpAny_assign_Name (VO I' hN hi0 hy (v:=.ref D') rfl (λs'' I'' ⟨a,sb,ha⟩=>?_) hf);have ne:C≠a:=by
     rcases ha with e | e
     . rw[e];exact f1
     . exact λz=>f4 _ _ e z.symm
   exact⟨m,hn.sameBut sb ne,λh' sb'=>⟨_,H',I''.turned (t':=s''.toks) (λb o hb e=>(sb'.2 b hb).trans e) f0 f1 f3 f4 f5,q⟩⟩
theorem Qy{K:γ}(hK:X.K=K):IxR X (rIxT K):=hK▸DJ
theorem NT{K:γ}(hK:X.K=K):IxR X (va K):=hK▸Bf
theorem Iw{K:γ}{es:List qN}{k:Nat}{t:TGs}{n:Nat}{pos:Pos}(hK:X.K=K)(hc:X.calm=true)(h:PGs X es t)
   (hn:(assignEach es X.env).length=n:=by rfl) (hst:(assignEach es X.env).findIdx? (·.1)=none:=by rfl):PG X (.Tuple es k pos) (gTup K n t):=hK▸Ca hc h hn hst
theorem Qz{K:γ}{a:qN}{ta:TE}(hK:X.K=K)(ha:PE X a ta)(he:∀whole,isTrue a X.env whole=(do let v <-whole;standAt a.pos;holding [v] (truthy v))):PT X a (λσ H Q=>ta σ H λx H'=>∃k,vU K x H' k/\Q k H'):=by
 subst hK;exact CF ha he
theorem Fh{env:rC}{y:Str}(hcell:∀z∈scope.names,z.2≠.cell)(h:(relabel scope env).names.lookup y=some .cell\/(relabel scope env).names.lookup y=some .free):∃z∈scope.names,z.1=y/\z.2 = .free:=by
 have key:∀(l:List (Str×NameKind)) (k:NameKind),l.lookup y=some k->(y,k)∈l:=by
   intro l k
   induction l with
   | nil=>intro e;cases e
   | cons p r ih =>
     intro e;obtain⟨n,k'⟩:=p;rw[iz] at e;cases hb:y==n with
     | true =>
       rw[hb] at e;cases e;rw[eq_of_beq hb];exact Ξ
     | false=>rw[hb] at e;exact ι _ (ih e)
 have fin:∀k,(relabel scope env).names.lookup y=some k->k = .cell\/k = .free->∃z∈scope.names,z.1=y/\z.2 = .free:=λk e hk=>by
   obtain⟨z,hz,ez⟩:=am.mp (key _ _ e);obtain⟨n,k0⟩:=z;dsimp only at ez
   split at ez
   . rename_i hc;simp only [gm,beq_iff_eq] at hc;cases ez;exact⟨(y,k0),hz,rfl,hc.1.1⟩
   . cases ez;rcases hk with rfl | rfl
     . exact absurd rfl (hcell _ hz)
     . exact⟨_,hz,rfl,rfl⟩
 rcases h with h | h
 . exact fin _ h (.inl rfl)
 . exact fin _ h (.inr rfl)
theorem WP:Iu X scope [] []:=⟨rfl,λj y k e=>by simp at e⟩
theorem NU{y:Str}{k:Nat}(h1:X.N[k]?=some y)(h2:X.env.kindOf y=some .cell)(h3:(relabel scope X.env).names.lookup y=some .cell):Iu X scope [y] [k]:=⟨rfl,λj z i e1 e2=>by
 cases j with
 | zero =>
   have g1:y=z:=by simpa using e1
   have g2:k=i:=by simpa using e2
   subst g1 g2;exact⟨h1,h2,h3⟩
 | succ j=>simp at e1⟩
theorem WQ{y y':Str}{k k':Nat}(h1:X.N[k]?=some y)(h1':X.N[k']?=some y')(h2:X.env.kindOf y=some .cell)(h2':X.env.kindOf y'=some .cell)(h3:(relabel scope X.env).names.lookup y=some .cell)(h3':(relabel scope X.env).names.lookup y'=some .cell):
   Iu X scope [y,y'] [k,k']:=⟨rfl,λj z i e1 e2=>by
 match j with
 | 0 =>
   have g1:y=z:=by simpa using e1
   have g2:k=i:=by simpa using e2
   subst g1 g2
   exact⟨h1,h2,h3⟩
 | 1 =>
   have g1:y'=z:=by simpa using e1
   have g2:k'=i:=by simpa using e2
   subst g1 g2
   exact⟨h1',h2',h3'⟩
 | j+2=>simp at e1⟩
theorem NV{n:Str}(h:∀y∈scope.names,y.2 = .free->y.1=n)(k:X.env.kindOf n=some .cell):∀y∈scope.names,y.2 = .free->X.env.kindOf y.1=some .cell:=λy hy hf=>by rw[h y hy hf];exact k
theorem WR{n m:Str}(h:∀y∈scope.names,y.2 = .free->y.1=n\/y.1=m)(k:X.env.kindOf n=some .cell)(k':X.env.kindOf m=some .cell):∀y∈scope.names,y.2 = .free->X.env.kindOf y.1=some .cell:=λy hy hf=>by
 rcases h y hy hf with e | e
 . rw[e];exact k
 . rw[e];exact k'
theorem QA{elt iter tg:qN}{pos:Pos}{ifs:List qN}{wi:TI}{g:TG}{tt:TT}{te:TE}(O:List Str)(hc:X.calm=true)(hi:PI X tg iter wi)
   (hG:∀cl C s₀ H₀ ex,PG (Cx.blockG X scope cl C (O++[]) s₀ H₀ ex) tg g) (hT:∀cl C s₀ H₀ ex,PTs (Cx.blockG X scope cl C (O++[]) s₀ H₀ ex) ifs tt) (hE:∀cl C s₀ H₀ ex,PE (Cx.blockG X scope cl C (O++[]) s₀ H₀ ex) elt te)
   (hfree:∀y∈scope.names,y.2≠.free:=by decide +kernel) (hkind:scope.kind = .function:=by rfl) (hcell:∀y∈scope.names,y.2≠.cell:=by decide +kernel)
   (hnames:∀y∈scope.names,y.2 = .local->scope.names.lookup y.1=some .local:=by decide +kernel) (hs:∀y,foldedSetIterable iter X.env y=pure y:=by intro _;rfl):
   PE X (.ListComp elt [⟨tg,iter,ifs,0⟩] scope pos) (JA O.length [] wi g tt te) :=
 Iv O [] [] hc hi hG hT hE WP (λy hy hf=>absurd hf (hfree y hy)) (λy h=>Fh hcell h) hkind hcell hnames hs
theorem cM{elt iter tg:qN}{y:Str}{py pos spos:Pos}{ifs:List qN}{wi:TI}{g:TG}{tt:TT}{te:TE}{i:Nat}(O:List Str)(hN:X.N.Nodup)(hi0:X.N[i]?=some y)(hy:Loc X.env.scope y)(hc:X.calm=true)(hi:PI X tg iter wi)
   (hG:∀cl C s₀ H₀ ex,PG (Cx.blockG X scope cl C (O++[]) s₀ H₀ ex) tg g) (hT:∀cl C s₀ H₀ ex,PTs (Cx.blockG X scope cl C (O++[]) s₀ H₀ ex) ifs tt) (hE:∀cl C s₀ H₀ ex,PE (Cx.blockG X scope cl C (O++[]) s₀ H₀ ex) elt te)
   (hsw:swapsWith (.ListComp elt [⟨tg,iter,ifs,0⟩] scope pos) (some (.Name y py)) spos.line X.env=pure true:=by rfl)
   (hfree:∀y∈scope.names,y.2≠.free:=by decide +kernel) (hkind:scope.kind = .function:=by rfl) (hcell:∀y∈scope.names,y.2≠.cell:=by decide +kernel)
   (hnames:∀y∈scope.names,y.2 = .local->scope.names.lookup y.1=some .local:=by decide +kernel) (hs:∀y,foldedSetIterable iter X.env y=pure y:=by intro _;rfl)
   (hf:X.fn y=true\/X.env.scope.names.lookup y=some .local:=by first | exact .inl rfl | exact .inr rfl | assumption):
   PS X (.Assign [.Name y py] (.ListComp elt [⟨tg,iter,ifs,0⟩] scope pos) spos) (uB (JA O.length [] wi g tt te) (FG i)) :=
 WO O [] [] hN hi0 hy hc hi hG hT hE WP (λy hy hf=>absurd hf (hfree y hy)) (λy h=>Fh hcell h) hsw hkind hcell hnames hs hf
end
section
variable {K:γ}{σ:L2.St}{H:Hp}{Q:VK}
theorem r_compG{n:Nat}{is:List Nat}{wi:TI}{g:TG}{tt:TT}{te:TE}(h:wi σ H λJ H1=>Jz n (is.map λk=>σ.getD k none) J g tt te Q H1):JA n is wi g tt te σ H Q:=h
def Nx(n:Nat)(Pv:qH->Nat->List V->Hp->Prop)(D:qH)(i:Nat)(ys:List V)(H2:Hp):Prop:=∃m',m'<n-i/\m'=n-(i+1)/\i+1<=n/\Pv D (i+1) ys H2
theorem Cv{n:Nat}{Pv:qH->Nat->List V->Hp->Prop}{D:qH}{i:Nat}{ys:List V}{H2:Hp}(hi:i<n)(p:Pv D (i+1) ys H2):Nx n Pv D i ys H2:=⟨_,by omega,rfl,hi,p⟩
theorem Ei{a:qH}{xs:List V}{n:Nat}{fs:L2.St}{g:TG}{tt:TT}{te:TE}(Pv:qH->Nat->List V->Hp->Prop)(h0:∀D,H D=none->Pv D 0 [] (upd H D (.lst [])))
   (hl:∀D i ys H2,i<=xs.length->Pv D i ys H2->SqL K H2 a xs)
   (hs:∀D i x ys H2,H D=none->xs[i]?=some x->Pv D i ys H2->∀τ:L2.St,τ.length=n->g x (τ++fs) H2 λσ1 H4=>(∃τ':L2.St,τ'.length=n/\σ1=τ'++fs)/\tt σ1 H4 λb H5 =>
     if b=true then te σ1 H5 λy H6=>H6 D=some (.lst ys)/\ys.length<qT/\Nx xs.length Pv D i (ys++[y]) (upd H6 D (.lst (ys++[y]))) else Nx xs.length Pv D i ys H5)
   (hd:∀D ys H2,H D=none->Pv D xs.length ys H2->Q (.ref D) H2):Jz n fs (Itl K a) g tt te Q H:=by
 intro D hD;refine⟨λi m ys H2=>m=xs.length-i/\i<=xs.length/\Pv D i ys H2,⟨_,rfl,gf _,h0 D hD⟩,?_⟩;rintro i m ys H2 ⟨rfl,hi,p⟩;have q:=hl D i ys H2 hi p;by_cases hlt:i<xs.length
 . refine .inr ⟨⟨xs,xs[i],q,by simp [hlt]⟩,λx H3 y τ hτ=>?_⟩;obtain⟨e,y⟩:=y;subst e;have ex:=y xs q;exact hs D i x ys _ hD ex p τ hτ
 . have e:i=xs.length:=by omega
   subst e;exact .inl ⟨⟨xs,q,Θ _⟩,hd D ys H2 hD p⟩
end
section
variable {prog:qK}{w:qL}{A:qM}{R:Result->qI->Prop}{I:qH}{fp wr:List qH}{n:Nat}{P:Nat->qG->Prop}{St:Nat->rB->Prop}
def Ix(prog:qK)(w:qL)(A:qM)(Kp:rB->Prop)(P:Nat->qG->Prop)(bt:Nat->Nat->Bool):Prop :=
 ∀i j x y (t:qI) (Q:qG->qI->Prop) (E:qG->qI->Prop),Kp t.heap->P i x->P j y->Q (.bool (bt i j)) t->qX (rj prog w) A (richCompare .Lt x y) Q E t
theorem cN(W:Walks prog w A.in1 I fp wr n P St)(bt:Nat->Nat->Bool)(Kp:rB->Prop)(cmp:Ix prog w A.in1 Kp P bt)(S:qH)(sf:S ∉ fp)
   (kpk:∀h h',Kp h->(∀b o,b ∉ wr->b≠S->h.get? b=some o->h'.get? b=some o)->Kp h'):
   ∀(k j:Nat) (t:qI) (vb:qG) (c:Nat),n-(j+1)=k->j+1<=n->St (j+1) t.heap->Kp t.heap->P (argBest bt j) vb ->
   t.heap.get? S=some { cls:=.type "list",dict:=none,data:=.seq #[vb,vb] c,slots:=#[] } ->
   (∀v h' tk,P (argBest bt (n-1)) v->(∀b o,b ∉ wr->b≠S->t.heap.get? b=some o->h'.get? b=some o)->R (.ok (.ret v)) { t with heap:=h',toks:=tk }) ->
   codeAny (rj prog w) A (.builtin "min.loop" ⟨[.ref I,.none,.ref S],[]⟩) R t:=by
 have sw:S ∉ wr:=λh=>sf (W.sub _ h);have nm:(toString "min"++toString ".loop":String)="min.loop":=by decide
 intro k
 induction k with
 | zero =>
   intro j t vb c hk hj st kp pb hS fin;have en:j+1=n:=by omega
   refine codeAny_builtin F.entry_min_loop ?_;rw[Around.under_plainId F.plain_min_loop _];show qX _ A.in1 (qZ (.ref S) >>= _) _ _ t;refine qU (wpAny_seqItems hS rfl ?_);show qX _ A.in1 (tryCatch (pyNext (.ref I)) _ >>= _) _ _ t;refine qU (wpAny_tryCatch (W.done t _ _ (en▸st) λh' tk kk=>?_));have hS1:=kk S _ sw hS;show qX _ A.in1 (updateSeq S (λ_=>#[]) >>= _) _ _ _;refine qU ?_;refine wpAny_updateSeq hS1 rfl (qU (wpAny_letGo (qV ?_)));exact fin vb _ tk (by rw[<-en];exact pb) λb o bw bS e=>(ω _ _ (bd bS)).trans (kk b o bw e)
 | succ k ih =>
   intro j t vb c hk hj st kp pb hS fin;have lt:j+1<n:=by omega
   refine codeAny_builtin F.entry_min_loop ?_;rw[Around.under_plainId F.plain_min_loop _];show qX _ A.in1 (qZ (.ref S) >>= _) _ _ t;refine qU (wpAny_seqItems hS rfl ?_);show qX _ A.in1 (tryCatch (pyNext (.ref I)) _ >>= _) _ _ t;refine qU (wpAny_tryCatch (W.item (j+1) t _ _ lt st λv h' tk pv st1 kk=>?_));have hS1:=kk S _ sw hS;have kp1:Kp h':=kpk _ _ kp λb o bw _ e=>kk b o bw e;show qX _ A.in1 (tryCatch (holding [v,v] (richCompare .Lt v vb >>= _)) _ >>= _) _ _ _;refine qU (wpAny_tryCatch (wpAny_holding (qU (cmp (j+1) (argBest bt j) v vb _ _ _ kp1 pv pb ?_))));refine qU (wpAny_holding (rm ?_));refine qU (wpAny_letGo (qV ?_));cases hb:bt (j+1) (argBest bt j) with
   | true =>
     simp only [if_true];refine qU ?_;refine wpAny_updateSeq hS1 rfl (qU (wpAny_letGo ?_));rw[nm];refine qV ⟨plainId_quiet F.plain_min_loop _,ih (j+1) _ v _ (by omega) lt (W.frame _ _ _ st1 λb bf o e=>?_) (kpk _ _ kp1 λb o _ bS e=>(ω _ _ (bd bS)).trans e) (by simp only [argBest,hb,if_true];exact pv) (bb _ hS1 rfl)
       λv' h2 tk2 pv2 kk2=>?_⟩
     . exact(ω _ _ (λz:S=b=>sf (by rw[z];exact bf))).trans e
     . exact fin v' h2 tk2 pv2 λb o bw bS e=>kk2 b o bw bS ((ω _ _ (bd bS)).trans (kk b o bw e))
   | false =>
     simp only [bq,if_false];refine qU (wpAny_letGo ?_);rw[nm];refine qV ⟨plainId_quiet F.plain_min_loop _,ih (j+1) _ vb c (by omega) lt st1 kp1 (by simp only [argBest,hb,bq,if_false];exact pb) hS1 λv' h2 tk2 pv2 kk2=>?_⟩;exact fin v' h2 tk2 pv2 λb o bw bS e=>kk2 b o bw bS (kk b o bw e)
theorem cQ(W:Walks prog w A.in1 I fp wr n P St)(bt:Nat->Nat->Bool)(Kp:rB->Prop)(cmp:Ix prog w A.in1 Kp P bt)(S:qH)(sf:S ∉ fp)
   (kpk:∀h h',Kp h->(∀b o,b ∉ wr->b≠S->h.get? b=some o->h'.get? b=some o)->Kp h') (hn:0<n) {t:qI} {c:Nat} (st:St 0 t.heap) (kp:Kp t.heap)
   (hS:t.heap.get? S=some { cls:=.type "list",dict:=none,data:=.seq #[] c,slots:=#[] })
   (fin:∀v h' tk,P (argBest bt (n-1)) v->(∀b o,b ∉ wr->b≠S->t.heap.get? b=some o->h'.get? b=some o)->R (.ok (.ret v)) { t with heap:=h',toks:=tk }):
   codeAny (rj prog w) A (.builtin "min.loop" ⟨[.ref I,.none,.ref S],[]⟩) R t:=by
 have sw:S ∉ wr:=λh=>sf (W.sub _ h);have nm:(toString "min"++toString ".loop":String)="min.loop":=by decide
 refine codeAny_builtin F.entry_min_loop ?_;rw[Around.under_plainId F.plain_min_loop _];show qX _ A.in1 (qZ (.ref S) >>= _) _ _ t;refine qU (wpAny_seqItems hS rfl ?_);show qX _ A.in1 (tryCatch (pyNext (.ref I)) _ >>= _) _ _ t;refine qU (wpAny_tryCatch (W.item 0 t _ _ hn st λv h' tk pv st1 kk=>?_));have hS1:=kk S _ sw hS;have kp1:Kp h':=kpk _ _ kp λb o bw _ e=>kk b o bw e;show qX _ A.in1 (updateSeq S (λ_=>#[v,v]) >>= _) _ _ _;refine qU ?_;refine wpAny_updateSeq hS1 rfl ?_;rw[nm];refine qV ⟨plainId_quiet F.plain_min_loop _,cN W bt Kp cmp S sf kpk _ 0 _ v _ rfl hn (W.frame _ _ _ st1 λb bf o e=>?_) (kpk _ _ kp1 λb o _ bS e=>(ω _ _ (bd bS)).trans e) pv (bb _ hS1 rfl) λv' h2 tk2 pv2 kk2=>?_⟩
 . exact(ω _ _ (λz:S=b=>sf (by rw[z];exact bf))).trans e
 . exact fin v' h2 tk2 pv2 λb o bw bS e=>kk2 b o bw bS ((ω _ _ (bd bS)).trans (kk b o bw e))
end
section
variable {prog:qK}{w:qL}{A:qM}{E:qG->qI->Prop}{s:qI}
theorem cR{x:qG}{Q:qG->qI->Prop}
   (h:qX (rj prog w) A.in1 (pyIter x) (λitv t=>∃I fp wr n P St bt Kp,itv = .ref I/\Walks prog w A.in1 I fp wr n P St/\St 0 t.heap/\Kp t.heap/\(∀b∈fp,b<t.heap.objs.size)/\0<n/\Ix prog w A.in1 Kp P bt /\
     (∀h h',Kp h->(∀b o,b ∉ wr->b≠t.heap.objs.size->h.get? b=some o->h'.get? b=some o)->Kp h') /\
     ∀v h' tk,P (argBest bt (n-1)) v->(∀b o,b ∉ wr->t.heap.get? b=some o->h'.get? b=some o)->Q v { t with heap:=h',toks:=tk }) E s):
   qX (rj prog w) A (call (.builtin "min") [x]) Q E s:=by
 have nm:(toString "min"++toString ".loop":String)="min.loop":=by decide
 refine call_function_tree F.kind_min F.plain_min F.entry_min (F.args_min1 _) ?_;show qX _ A.in1 (Builtin.Builtins.bindParams "min" ["key","default"] 0 ⟨[],[]⟩ >>= _) _ _ s;refine qU (wpAny_of_eq (show Builtin.Builtins.bindParams "min" ["key","default"] 0 ⟨[],[]⟩=pure [none,none] from rfl) ?_);refine qU (qV ?_);refine qU (qW h (λitv t ht=>?_) λ_ _ e=>e);obtain⟨I,fp,wr,n,P,St,bt,Kp,rfl,W,st,kp,hfp,hn,cmp,kpk,hQ⟩:=ht;refine qU (wpAny_newObj_type ?_);have sf:t.heap.objs.size ∉ fp:=λhm=>bh _ (hfp _ hm);rw[nm];refine qV ⟨plainId_quiet F.plain_min_loop _,cQ W bt Kp cmp t.heap.objs.size sf kpk hn (W.frame _ _ _ st λb _ o e=>ζ _ e) (kpk _ _ kp λb o _ _ e=>ζ _ e) (Ω _ rfl) λv h' tk pv kk=>?_⟩;exact hQ v h' tk pv λb o bw e=>kk b o bw (al (ξ e)) (ζ _ e)
end
def Ba(xs:List (List Int)):Nat->Nat
 | 0=>0
 | k+1=>if HT.lexLt (xs.getD (k+1) []) (xs.getD (Ba xs k) []) then k+1 else Ba xs k
theorem QB(xs:List (List Int)):∀k,argBest (λi j=>HT.lexLt (xs.getD i []) (xs.getD j [])) k=Ba xs k
 | 0=>rfl
 | k+1=>by
   unfold argBest Ba
   rw[QB xs k]
theorem Iy(xs:List (List Int)):∀k,Ba xs k<=k
 | 0=>Θ 0
 | k+1=>by
   unfold Ba
   have:=Iy xs k
   split <;> omega
section
variable {X:Cx}
theorem cS(hc:X.calm=true)(hu:X.A.units+64<rl):DW X (.builtin "min") (λvs H Q=>∃p us,∃xs:List (List Int),vs=[.ref p]/\H p=some (.lst us)/\AY H us (xs.map λx=>x.map V.int)/\0<xs.length /\
   ∀t,us[Ba xs (xs.length-1)]?=some (.ref t)->H t=some (.tup ((xs.getD (Ba xs (xs.length-1)) []).map V.int))->Q (.ref t) H):=by
 intro pins s σ H vs us' Q I r h;obtain⟨p,us,xs,rfl,hp,ta,hn,q⟩:=h;obtain⟨u,rfl,rx⟩:∃u,us'=[u]/\RelV (.ref p) u:=by
   cases r with
   | cons a b=>cases b;exact⟨_,rfl,a⟩
 cases rx;obtain⟨its,r1,p1,_⟩:=I.list (SqL.of hp);have l1:=r1.length;have l2:=ta.1;rw[ε] at l2;have tups:∀i,i<xs.length->∃t its2,its[i]?=some (.ref t)/\us[i]?=some (.ref t)/\H t=some (.tup ((xs.getD i []).map V.int))/\s.heap.IsTuple t (ir its2)/\IntsAre its2 (xs.getD i []):=λi hi=>by
   obtain⟨t,e1,e2⟩:=ta.2 i ((xs[i]).map V.int) (by simp [hi]);obtain⟨u1,g1,q1⟩:=r1.get e1;cases q1;obtain⟨its2,r2,p2,_⟩:=I.tuple (SqT.of e2);have ex:xs.getD i []=xs[i]:=by simp [hi]
   rw[ex];exact⟨t,its2,g1,e1,e2,p2,Ih r2⟩
 have lt:p<s.heap.objs.size:=by obtain⟨_,e,_⟩:=p1.isList;exact ξ e
 refine cR (wpAny_pyIter_list p1.isList ?_);obtain⟨csC,hlC,hzC,stC⟩:=I.hd hc;refine⟨s.heap.objs.size,s.heap.objs.size::p::csC.map (·.1),[s.heap.objs.size],its.toArray.size,λi v=>its.toArray[i]?=some v,_,λi j=>HT.lexLt (xs.getD i []) (xs.getD j []),λ(hh:rB)=>∀(i:Nat) (t:qH) (its2:List qG),its[i]?=some (Value.ref t)->s.heap.IsTuple t (ir its2)->hh.IsTuple t (ir its2),rfl,HH.walks_list (A:=X.A.in1) (cs:=csC) _ p (al lt) its.toArray,
   ⟨⟨_,Ω _ rfl,rfl,rfl⟩,p1.isList.push _,hlC,hzC,stC.keeps λ_ _ e=>ζ _ e⟩,?_,?_,?_,?_,?_,?_⟩
 . intro i t its2 _ ht;exact ht.push _
 . intro b hb;show b<(s.heap.push _).objs.size;rw[bo];exact HH.fp_lt stC (ft _) (df lt) (jz _) b hb
 . rw[ν];omega
 . intro i j x y t Q' E' kp pi pj hq;rw[cm] at pi pj;have hi:i<xs.length:=by have:=(δ.mp pi).1;omega
   have hj:j<xs.length:=by have:=(δ.mp pj).1;omega
   obtain⟨t1,s1,a1,_,_,b1,c1⟩:=tups i hi;obtain⟨t2,s2,a2,_,_,b2,c2⟩:=tups j hj;rw[a1] at pi;rw[a2] at pj;cases pi;cases pj;exact HT.lt_tupInts (kp i t1 s1 a1 b1) (kp j t2 s2 a2 b2) c1 c2 (by show X.A.units+1<rl;omega) hq
 . intro h h' kp kk i t its2 g ht;have e0:=kp i t its2 g ht;obtain⟨o,e,hcl,hd⟩:=ht;obtain⟨o',e',r'⟩:=e0;have lt':=ξ e;refine⟨o',kk t o' (λz=>?_) (al ?_) e',r'⟩
   . have z':t=s.heap.objs.size:=by simpa using z
     rw[z'] at lt';exact bh _ lt'
   . show t<(s.heap.push _).objs.size;rw[bo];exact df lt'
 . intro v h' tk pv kk;rw[ν,<-l1,l2,QB,cm] at pv;have hm:Ba xs (xs.length-1)<xs.length:=by have:=Iy xs (xs.length-1);omega
   obtain⟨t,its2,a1,a2,a3,_,_⟩:=tups _ hm;rw[a1] at pv;cases pv;refine⟨.ref t,H,?_,rfl,q t a2 a3⟩;refine I.kept (t':=tk) λb o e=>kk b o (λz=>?_) (ζ _ e);have:=ξ e;have z':b=s.heap.objs.size:=by simpa using z
   rw[z'] at this;exact bh _ this
end
structure InsK(K:γ)(C:qH):Prop where
 cl:Cls K C
 ha:findIn K (.ref C) "__class__"=some (some (.builtin "object.__class__"))
 hn:specialIn K (.builtin "object.__class__") "__get__"=some (some (.builtin "getset_descriptor.__get__"))
 htk:takesIn K (.builtin "object.__class__")=some true
 hm:mroIn K C (.type "object")=some true
section
variable {X:Cx}
end
section
variable {K:γ}{σ:L2.St}{H:Hp}{Q:VK}{D:Ends}
theorem r_sat{a C dx:qH}{fs:List (Str×V)}{f:Str}{R:qH->qH->qH->List (Str×V)->Prop}(h:H a=some (.ins C dx fs))(c:Cls K C)(n:BO K C f)(l:fs.length<1000)(q:R a C dx fs):
   ∃a' C' dx' fs',V.ref a=V.ref a'/\H a'=some (.ins C' dx' fs')/\Cls K C'/\BO K C' f/\fs'.length<1000/\R a' C' dx' fs':=⟨a,C,dx,fs,rfl,h,c,n,l,q⟩
theorem r_mat{a C dx:qH}{fs:List (Str×V)}{m:Str}{P:Prop}(h:H a=some (.ins C dx fs))(l:fs.lookup m=none)(q:P):
   ∃a' dx' fs',V.ref a=V.ref a'/\H a'=some (.ins C dx' fs')/\fs'.lookup m=none/\P:=⟨a,dx,fs,rfl,h,l,q⟩
theorem r_make{C:qH}{sp:Sp}{E:XK}{t:TA}(h:t σ H λvs H1=>∀x dx,H1 x=none->H1 dx=none->dx≠x->sp (.ref x::vs) (upd (upd H1 dx (.own x)) x (.ins C dx [])) (λv H2=>v = .non/\Q (.ref x) H2) E):Nt C sp [] E t σ H Q:=by
 unfold Nt;simp only [bg];exact h
end
section
variable {X:Cx}
end
def AF(x:qH)(H H':Hp):Prop:=∀b o,b≠x->H b=some o->H' b=some o
theorem AF.refl{x:qH}{H:Hp}:AF x H H:=λ_ _ _ h=>h
theorem AF.of{x:qH}{H H':Hp}(s:Same H H'):AF x H H':=λb o _ h=>s b o h
theorem AF.trans{x:qH}{H H' H'':Hp}(s:AF x H H')(t:AF x H' H''):AF x H H'':=λb o n h=>t b o n (s b o n h)
theorem AF.put{x:qH}{H H':Hp}{o:HO}(s:AF x H H'):AF x H (upd H' x o):=λb o' n h=>look_ne n (s b o' n h)
structure MethD(P:qK)(w:qL)(K:γ)(mg:Str->Option qG)(base:rB)(C:qH)(m:Str)(j:Nat)(ps:List Str)(dvs:List V)(sp:Sp):Prop where
 all:Methx P w K mg base C m j ps [] sp
 less:Methx P w K mg base C m j ps dvs sp
theorem FunD.bindsA{K:γ}{x qual:Str}{st:qO}{T:qH}{f:qH}{fd:qJ}{ps:List Str}{ds:List qG}{tc:qG}{td:Option qH}{tn:Nat}{tsl:Array (Option qG)}(F:FunD K x qual st (.ref T) f fd)
   (lt:K.lookup T=some ⟨tc,td,.seq ds.toArray tn,tsl⟩)
   (h:∀(kV doc pm:qG) (an:Option qH) (cdv ct:qG) (us:List qG),us.length=ps.length->∃k:Option (Array qG)->rq (List (Str×qG)),
     qS (fnOf x qual (BA st) (Bp st) (Am st) (.ref T) kV doc pm an cdv ct) ⟨us,[]⟩=qZ (.ref T) >>= k/\k (some ds.toArray)=pure (ps.zip us)):By K fd ps []:=by
 obtain⟨oc,od,kV,doc,pm,an,cdv,ct,osl,rfl,lk,hcd⟩:=F.ex;intro s us X hl;rw[bg] at hl ⊢;obtain⟨k,h1,h2⟩:=h kV doc pm an cdv ct us hl;exact .of_defaults rfl (X _ _ lt) rfl h1 h2
abbrev TXS:=Ends->XK->L2.St->Hp->Prop
section
variable {X:Cx}{e c:qN}{t:TX}{tc:TT}{ta tb ts:TXS}{a b ss:List qO}{pos epos:Pos}{hs:List ExceptHandler}{th:TH}
end
section
variable {K:γ}{σ:L2.St}{H:Hp}{Q:VK}{D:Ends}{EX:XK}
end
section
variable {X:Cx}
end
def Its(lo c:Int)(n:Nat):It:=⟨λi _=>i<n,λi H x H'=>H'=H/\x = .int (lo+i*c),λi _=>n<=i⟩
section
variable {X:Cx}{tg:qN}
end
theorem wf{lo c:Int}{n:Nat}{g:TG}{tb:TS}{D:Ends}{σ:L2.St}{H:Hp}(Pv:Nat->L2.St->Hp->Prop)(h0:Pv 0 σ H)
   (hs:∀i σ H,i<n->Pv i σ H->g (.int (lo+i*c)) σ H λσ2 H2=>tb { D with nx:=Pv (i+1),ct:=Pv (i+1),bk:=D.nx } σ2 H2) (hd:∀σ H,Pv n σ H->D.nx σ H):
   ∃W:Nat->Nat->L2.St->Hp->Prop,(∃m,W 0 m σ H)/\∀i m σ H,W i m σ H ->
     ((Its lo c n).stop i H/\D.nx σ H)\/((Its lo c n).go i H/\∃N:L2.St->Hp->Prop,(∀σ' H',N σ' H'->∃m',m'<m/\W (i+1) m' σ' H')/\∀x H',(Its lo c n).yld i H x H'->g x σ H' λσ2 H2=>tb { D with nx:=N,ct:=N,bk:=D.nx } σ2 H2):=by
 refine⟨λi m σ H=>m=n-i/\i<=n/\Pv i σ H,⟨n,by simp,gf _,h0⟩,?_⟩;rintro i m σ H ⟨rfl,hi,p⟩;by_cases hlt:i<n
 . refine .inr ⟨hlt,Pv (i+1),λσ' H' p'=>⟨n-(i+1),by omega,rfl,hlt,p'⟩,λx H' y=>?_⟩;obtain⟨e,y⟩:=y;subst e y;exact hs i σ _ hlt p
 . have e:i=n:=by omega
   subst e;exact .inl ⟨Θ _,hd σ H p⟩
theorem cT{H:Hp}{Q:VK}{lo:Int}{n k:Nat}{fs:L2.St}{g:TG}{tt:TT}{te:TE}(Pv:qH->Nat->List V->Hp->Prop)(h0:∀D,H D=none->Pv D 0 [] (upd H D (.lst [])))
   (hs:∀D i ys H2,H D=none->i<n->Pv D i ys H2->∀τ:L2.St,τ.length=k->g (.int (lo+i)) (τ++fs) H2 λσ1 H4=>(∃τ':L2.St,τ'.length=k/\σ1=τ'++fs)/\tt σ1 H4 λb H5 =>
     if b=true then te σ1 H5 λy H6=>H6 D=some (.lst ys)/\ys.length<qT/\Nx n Pv D i (ys++[y]) (upd H6 D (.lst (ys++[y]))) else Nx n Pv D i ys H5)
   (hd:∀D ys H2,H D=none->Pv D n ys H2->Q (.ref D) H2):Jz k fs (Itr lo n) g tt te Q H:=by
 intro D hD;refine⟨λi m ys H2=>m=n-i/\i<=n/\Pv D i ys H2,⟨_,rfl,gf _,h0 D hD⟩,?_⟩;rintro i m ys H2 ⟨rfl,hi,p⟩;by_cases hlt:i<n
 . refine .inr ⟨hlt,λx H3 y τ hτ=>?_⟩;obtain⟨e,y⟩:=y;subst e y;exact hs D i ys _ hD hlt p τ hτ
 . have e:i=n:=by omega
   subst e;exact .inl ⟨Θ _,hd D ys H2 hD p⟩
def WS(X:Cx)(f:qG)(ks:List Str)(r:List V->List V->Hp->VK->Prop):Prop :=
 ∀(pins:List (qH×Obj)) (s:qI) (σ:L2.St) (H:Hp) (vs:List V) (us:List qG) (zs:List V) (ws:List qG) (Q:VK),Inv X pins σ H s->Vals vs us->Vals zs ws->r vs zs H Q ->
   qX (rj X.prog X.w) X.A (call f us (ks.zip ws)) (EP X pins σ Q) X.xe s
def tCBK(r:List V->List V->Hp->VK->Prop)(t tk:TA):TE:=λσ H Q=>t σ H λvs H1=>tk σ H1 λzs H2=>r vs zs H2 Q
theorem r_cbk{σ:L2.St}{H:Hp}{Q:VK}{r:List V->List V->Hp->VK->Prop}{t tk:TA}(h:t σ H λvs H1=>tk σ H1 λzs H2=>r vs zs H2 Q):tCBK r t tk σ H Q:=h
theorem cU{X:Cx}{id:String}{ks:List Str}{r:List V->List V->Hp->VK->Prop}{x:Str}{p pos:Pos}{e:qN}{es:List qN}{kws:List Keyword}{t tk:TA}(hc:WS X (.builtin id) ks r)(hg:Gl X x)(hm:X.mg x=none)
   (hv:bootBuiltins x=some (.builtin id)) (ha:PA X (e::es) t) (hkw:PK X kws tk) (hks:(backToKw pos (keywordEach kws X.env)).filterMap (·.1)=ks:=by rfl) (hn:x≠"__name__":=by decide) (hdb:(x==("__debug__":Str))=false:=by decide)
   (he:qY pos (qR (e::es) X.env)=(false,rh e X.env)::qY pos (qR es X.env):=by rfl)
   (hplain:(qY pos (qR (e::es) X.env)).any (·.1)=false:=by rfl)
   (hall:(backToKw pos (keywordEach kws X.env)).all (·.1.isSome)=true:=by rfl)
   (hkn:(backToKw pos (keywordEach kws X.env)).any (·.1.isNone)=false:=by rfl):PE X (.Call (.Name x p) (e::es) kws pos) (tCBK r t tk):=by
 intro pins s σ H Q I h;refine wpAny_Call_Name_kw (E7 I hg hm hv ?_ hn hdb);refine kb (thn (ha pos pins s σ H _ I h) λus s1 ⟨vs,H1,I1,r1,q1⟩=>thn (hkw pos pins s1 σ H1 _ I1 q1) λws s2 ⟨zs,H2,I2,rz,q2⟩=>?_) he hplain hall hkn;rw[hks];exact hc pins s2 σ H2 vs us zs ws Q I2 r1 rz q2
section
variable {prog:qK}{w:qL}{A:qM}{R:Result->qI->Prop}{I:qH}{fp wr:List qH}{n:Nat}{P:Nat->qG->Prop}{St:Nat->rB->Prop}{kw:List (Str×qG)}
theorem cW(W:Walks prog w A.in1 I fp wr n P St)(bt:Nat->Nat->Bool)(Kp:rB->Prop)(cmp:Ix prog w A.in1 Kp P bt)(S:qH)(sf:S ∉ fp)
   (kpk:∀h h',Kp h->(∀b o,b ∉ wr->b≠S->h.get? b=some o->h'.get? b=some o)->Kp h'):
   ∀(k j:Nat) (t:qI) (vb:qG) (c:Nat),n-(j+1)=k->j+1<=n->St (j+1) t.heap->Kp t.heap->P (argBest bt j) vb ->
   t.heap.get? S=some { cls:=.type "list",dict:=none,data:=.seq #[vb,vb] c,slots:=#[] } ->
   (∀v h' tk,P (argBest bt (n-1)) v->(∀b o,b ∉ wr->b≠S->t.heap.get? b=some o->h'.get? b=some o)->R (.ok (.ret v)) { t with heap:=h',toks:=tk }) ->
   codeAny (rj prog w) A (.builtin "min.loop" ⟨[.ref I,.none,.ref S],kw⟩) R t:=by
 have sw:S ∉ wr:=λh=>sf (W.sub _ h);have nm:(toString "min"++toString ".loop":String)="min.loop":=by decide
 intro k
 induction k with
 | zero =>
   intro j t vb c hk hj st kp pb hS fin;have en:j+1=n:=by omega
   refine codeAny_builtin F.entry_min_loop ?_;rw[Around.under_plainId F.plain_min_loop _];show qX _ A.in1 (qZ (.ref S) >>= _) _ _ t;refine qU (wpAny_seqItems hS rfl ?_);show qX _ A.in1 (tryCatch (pyNext (.ref I)) _ >>= _) _ _ t;refine qU (wpAny_tryCatch (W.done t _ _ (en▸st) λh' tk kk=>?_));have hS1:=kk S _ sw hS;show qX _ A.in1 (updateSeq S (λ_=>#[]) >>= _) _ _ _;refine qU ?_;refine wpAny_updateSeq hS1 rfl (qU (wpAny_letGo (qV ?_)));exact fin vb _ tk (by rw[<-en];exact pb) λb o bw bS e=>(ω _ _ (bd bS)).trans (kk b o bw e)
 | succ k ih =>
   intro j t vb c hk hj st kp pb hS fin;have lt:j+1<n:=by omega
   refine codeAny_builtin F.entry_min_loop ?_;rw[Around.under_plainId F.plain_min_loop _];show qX _ A.in1 (qZ (.ref S) >>= _) _ _ t;refine qU (wpAny_seqItems hS rfl ?_);show qX _ A.in1 (tryCatch (pyNext (.ref I)) _ >>= _) _ _ t;refine qU (wpAny_tryCatch (W.item (j+1) t _ _ lt st λv h' tk pv st1 kk=>?_));have hS1:=kk S _ sw hS;have kp1:Kp h':=kpk _ _ kp λb o bw _ e=>kk b o bw e;show qX _ A.in1 (tryCatch (holding [v,v] (richCompare .Lt v vb >>= _)) _ >>= _) _ _ _;refine qU (wpAny_tryCatch (wpAny_holding (qU (cmp (j+1) (argBest bt j) v vb _ _ _ kp1 pv pb ?_))));refine qU (wpAny_holding (rm ?_));refine qU (wpAny_letGo (qV ?_));cases hb:bt (j+1) (argBest bt j) with
   | true =>
     simp only [if_true];refine qU ?_;refine wpAny_updateSeq hS1 rfl (qU (wpAny_letGo ?_));rw[nm];refine qV ⟨plainId_quiet F.plain_min_loop _,ih (j+1) _ v _ (by omega) lt (W.frame _ _ _ st1 λb bf o e=>?_) (kpk _ _ kp1 λb o _ bS e=>(ω _ _ (bd bS)).trans e) (by simp only [argBest,hb,if_true];exact pv) (bb _ hS1 rfl)
       λv' h2 tk2 pv2 kk2=>?_⟩
     . exact(ω _ _ (λz:S=b=>sf (by rw[z];exact bf))).trans e
     . exact fin v' h2 tk2 pv2 λb o bw bS e=>kk2 b o bw bS ((ω _ _ (bd bS)).trans (kk b o bw e))
   | false =>
     simp only [bq,if_false];refine qU (wpAny_letGo ?_);rw[nm];refine qV ⟨plainId_quiet F.plain_min_loop _,ih (j+1) _ vb c (by omega) lt st1 kp1 (by simp only [argBest,hb,bq,if_false];exact pb) hS1 λv' h2 tk2 pv2 kk2=>?_⟩;exact fin v' h2 tk2 pv2 λb o bw bS e=>kk2 b o bw bS (kk b o bw e)
theorem cY(W:Walks prog w A.in1 I fp wr n P St)(bt:Nat->Nat->Bool)(Kp:rB->Prop)(cmp:Ix prog w A.in1 Kp P bt)(S:qH)(sf:S ∉ fp)
   (kpk:∀h h',Kp h->(∀b o,b ∉ wr->b≠S->h.get? b=some o->h'.get? b=some o)->Kp h') (hn:0<n) {t:qI} {c:Nat} (st:St 0 t.heap) (kp:Kp t.heap)
   (hS:t.heap.get? S=some { cls:=.type "list",dict:=none,data:=.seq #[] c,slots:=#[] })
   (fin:∀v h' tk,P (argBest bt (n-1)) v->(∀b o,b ∉ wr->b≠S->t.heap.get? b=some o->h'.get? b=some o)->R (.ok (.ret v)) { t with heap:=h',toks:=tk }):
   codeAny (rj prog w) A (.builtin "min.loop" ⟨[.ref I,.none,.ref S],kw⟩) R t:=by
 have sw:S ∉ wr:=λh=>sf (W.sub _ h);have nm:(toString "min"++toString ".loop":String)="min.loop":=by decide
 refine codeAny_builtin F.entry_min_loop ?_;rw[Around.under_plainId F.plain_min_loop _];show qX _ A.in1 (qZ (.ref S) >>= _) _ _ t;refine qU (wpAny_seqItems hS rfl ?_);show qX _ A.in1 (tryCatch (pyNext (.ref I)) _ >>= _) _ _ t;refine qU (wpAny_tryCatch (W.item 0 t _ _ hn st λv h' tk pv st1 kk=>?_));have hS1:=kk S _ sw hS;have kp1:Kp h':=kpk _ _ kp λb o bw _ e=>kk b o bw e;show qX _ A.in1 (updateSeq S (λ_=>#[v,v]) >>= _) _ _ _;refine qU ?_;refine wpAny_updateSeq hS1 rfl ?_;rw[nm];refine qV ⟨plainId_quiet F.plain_min_loop _,cW W bt Kp cmp S sf kpk _ 0 _ v _ rfl hn (W.frame _ _ _ st1 λb bf o e=>?_) (kpk _ _ kp1 λb o _ bS e=>(ω _ _ (bd bS)).trans e) pv (bb _ hS1 rfl) λv' h2 tk2 pv2 kk2=>?_⟩
 . exact(ω _ _ (λz:S=b=>sf (by rw[z];exact bf))).trans e
 . exact fin v' h2 tk2 pv2 λb o bw bS e=>kk2 b o bw bS ((ω _ _ (bd bS)).trans (kk b o bw e))
theorem cZ(W:Walks prog w A.in1 I fp wr 0 P St){d:qG}{x:Str}(S:qH)(sf:S ∉ fp){t:qI}{c:Nat}(st:St 0 t.heap)
   (hS:t.heap.get? S=some { cls:=.type "list",dict:=none,data:=.seq #[] c,slots:=#[] })
   (fin:∀h' tk,(∀b o,b ∉ wr->t.heap.get? b=some o->h'.get? b=some o)->R (.ok (.ret d)) { t with heap:=h',toks:=tk }):
   codeAny (rj prog w) A (.builtin "min.loop" ⟨[.ref I,.none,.ref S],[(x,d)]⟩) R t:=by
 refine codeAny_builtin F.entry_min_loop ?_;rw[Around.under_plainId F.plain_min_loop _];show qX _ A.in1 (qZ (.ref S) >>= _) _ _ t;refine qU (wpAny_seqItems hS rfl ?_);show qX _ A.in1 (tryCatch (pyNext (.ref I)) _ >>= _) _ _ t;refine qU (wpAny_tryCatch (W.done t _ _ st λh' tk kk=>?_));show qX _ A.in1 (rule _ >>= _) _ _ _;refine qU (wpAny_rule (qV ?_));exact fin h' tk kk
end
theorem dA(a v:qG):argsOk "min" ⟨[a],[(av "default",v)]⟩:=by unfold argsOk;kernel_rfl
section
variable {prog:qK}{w:qL}{A:qM}{E:qG->qI->Prop}{s:qI}
theorem dB{nm:String}{bl:Builtin}{vs:List qG}{kws:List (Str×qG)}{Q:qG->qI->Prop}(h1:builtinKind nm=none)(h2:plainId nm=true)(h3:entryFor table nm=some bl)(h4:argsOk nm ⟨vs,kws⟩)
   (h5:qX (rj prog w) A.in1 (bl ⟨vs,kws⟩) (λfn t=>∃c,fn = .again c/\c.quiet=true/\codeAny (rj prog w) A c (λr t2=>∃v,r = .ok (.ret v)/\Q v t2) t) E s):
   qX (rj prog w) A (call (.builtin nm) vs kws) Q E s:=by
 refine wpAny_call (codeAny_call_builtin h2 h3 ?_);simp only [checkBuiltinCall,h1];have go:∀(t:qI) (c:Code),codeAny (rj prog w) A c (λr t2=>∃v,r = .ok (.ret v)/\Q v t2) t->codeAny (rj prog w) A c (λr t2=>match r with | .ok (.ret u)=>Q u t2 | .ok _=>False | .error x=>E x t2) t:=λt c h=>codeAny_mono h λr t2 ⟨v,e,q⟩=>by subst e;exact q
 cases hs:Manifest.signature? nm with
 | none =>
   refine qV (qW h5 (λfn t h=>?_) λ_ _ z=>z);obtain⟨c,rfl,hq,hc⟩:=h;exact⟨hq,go t c hc⟩
 | some sg =>
   have h6:Bind.checkArgs nm sg ⟨vs,kws⟩=pure ():=by simpa only [argsOk,hs] using h4
   simp only [h6];refine qV (qW h5 (λfn t h=>?_) λ_ _ z=>z);obtain⟨c,rfl,hq,hc⟩:=h;exact⟨hq,go t c hc⟩
theorem dC{x d:qG}{Q:qG->qI->Prop}
   (h:qX (rj prog w) A.in1 (pyIter x) (λitv t=>∃I fp wr n P St,itv = .ref I/\Walks prog w A.in1 I fp wr n P St/\St 0 t.heap/\(∀b∈fp,b<t.heap.objs.size) /\
     ((n=0/\∀h' tk,(∀b o,b ∉ wr->t.heap.get? b=some o->h'.get? b=some o)->Q d { t with heap:=h',toks:=tk }) \/
     ∃bt Kp,Kp t.heap/\0<n/\Ix prog w A.in1 Kp P bt /\
     (∀h h',Kp h->(∀b o,b ∉ wr->b≠t.heap.objs.size->h.get? b=some o->h'.get? b=some o)->Kp h') /\
     ∀v h' tk,P (argBest bt (n-1)) v->(∀b o,b ∉ wr->t.heap.get? b=some o->h'.get? b=some o)->Q v { t with heap:=h',toks:=tk })) E s):
   qX (rj prog w) A (call (.builtin "min") [x] [(av "default",d)]) Q E s:=by
 have nm:(toString "min"++toString ".loop":String)="min.loop":=by decide
 refine dB F.kind_min F.plain_min F.entry_min (dA x d) ?_;show qX _ A.in1 (Builtin.Builtins.bindParams "min" ["key","default"] 0 ⟨[],[(av "default",d)]⟩ >>= _) _ _ s;refine qU (wpAny_of_eq (show Builtin.Builtins.bindParams "min" ["key","default"] 0 ⟨[],[(av "default",d)]⟩=pure [none,some d] from by kernel_rfl) ?_);refine qU (qV ?_);refine qU (qW h (λitv t ht=>?_) λ_ _ e=>e);obtain⟨I,fp,wr,n,P,St,rfl,W,st,hfp,hh⟩:=ht;refine qU (wpAny_newObj_type ?_);have sf:t.heap.objs.size ∉ fp:=λhm=>bh _ (hfp _ hm);rw[nm];rcases hh with ⟨rfl,hQ⟩ | ⟨bt,Kp,kp,hn,cmp,kpk,hQ⟩
 . refine qV ⟨_,rfl,plainId_quiet F.plain_min_loop _,cZ W t.heap.objs.size sf (W.frame _ _ _ st λb _ o e=>ζ _ e) (Ω _ rfl) λh' tk kk=>?_⟩;exact⟨_,rfl,hQ h' tk λb o bw e=>kk b o bw (ζ _ e)⟩
 . refine qV ⟨_,rfl,plainId_quiet F.plain_min_loop _,cY W bt Kp cmp t.heap.objs.size sf kpk hn (W.frame _ _ _ st λb _ o e=>ζ _ e) (kpk _ _ kp λb o _ _ e=>ζ _ e) (Ω _ rfl) λv h' tk pv kk=>?_⟩;exact⟨_,rfl,hQ v h' tk pv λb o bw e=>kk b o bw (al (ξ e)) (ζ _ e)⟩
end
section
variable {X:Cx}
theorem dD(hc:X.calm=true)(hu:X.A.units+64<rl):WS X (.builtin "min") [av "default"] (λvs zs H Q=>∃p us d,∃xs:List (List Int),vs=[.ref p]/\zs=[d]/\H p=some (.lst us)/\AY H us (xs.map λx=>x.map V.int) /\
   (xs.length=0->Q d H) /\
   (0<xs.length->∀t,us[Ba xs (xs.length-1)]?=some (.ref t)->H t=some (.tup ((xs.getD (Ba xs (xs.length-1)) []).map V.int))->Q (.ref t) H)):=by
 intro pins s σ H vs us' zs ws Q I r rz h;obtain⟨p,us,d,xs,rfl,rfl,hp,ta,q0,q⟩:=h;obtain⟨u,rfl,rx⟩:∃u,us'=[u]/\RelV (.ref p) u:=by
   cases r with
   | cons a b=>cases b;exact⟨_,rfl,a⟩
 obtain⟨dv,rfl,rd⟩:∃u,ws=[u]/\RelV d u:=by
   cases rz with
   | cons a b=>cases b;exact⟨_,rfl,a⟩
 cases rx;obtain⟨its,r1,p1,_⟩:=I.list (SqL.of hp);have l1:=r1.length;have l2:=ta.1;rw[ε] at l2;have tups:∀i,i<xs.length->∃t its2,its[i]?=some (.ref t)/\us[i]?=some (.ref t)/\H t=some (.tup ((xs.getD i []).map V.int))/\s.heap.IsTuple t (ir its2)/\IntsAre its2 (xs.getD i []):=λi hi=>by
   obtain⟨t,e1,e2⟩:=ta.2 i ((xs[i]).map V.int) (by simp [hi]);obtain⟨u1,g1,q1⟩:=r1.get e1;cases q1;obtain⟨its2,r2,p2,_⟩:=I.tuple (SqT.of e2);have ex:xs.getD i []=xs[i]:=by simp [hi]
   rw[ex];exact⟨t,its2,g1,e1,e2,p2,Ih r2⟩
 have lt:p<s.heap.objs.size:=by obtain⟨_,e,_⟩:=p1.isList;exact ξ e
 show qX _ _ (call (.builtin "min") [.ref p] [(av "default",dv)]) _ _ s;refine dC (wpAny_pyIter_list p1.isList ?_);obtain⟨csC,hlC,hzC,stC⟩:=I.hd hc;refine⟨s.heap.objs.size,s.heap.objs.size::p::csC.map (·.1),[s.heap.objs.size],its.toArray.size,λi v=>its.toArray[i]?=some v,_,rfl,HH.walks_list (A:=X.A.in1) (cs:=csC) _ p (al lt) its.toArray,
   ⟨⟨_,Ω _ rfl,rfl,rfl⟩,p1.isList.push _,hlC,hzC,stC.keeps λ_ _ e=>ζ _ e⟩,?_,?_⟩
 . intro b hb;show b<(s.heap.push _).objs.size;rw[bo];exact HH.fp_lt stC (ft _) (df lt) (jz _) b hb
 by_cases h0:xs.length=0
 . refine .inl ⟨by rw[ν];omega,λh' tk kk=>?_⟩;refine⟨d,H,?_,rd,q0 h0⟩;refine I.kept (t':=tk) λb o e=>kk b o (λz=>?_) (ζ _ e);have:=ξ e;have z':b=s.heap.objs.size:=by simpa using z
   rw[z'] at this;exact bh _ this
 refine .inr ⟨λi j=>HT.lexLt (xs.getD i []) (xs.getD j []),λ(hh:rB)=>∀(i:Nat) (t:qH) (its2:List qG),its[i]?=some (Value.ref t)->s.heap.IsTuple t (ir its2)->hh.IsTuple t (ir its2),?_,?_,?_,?_,?_⟩
 . intro i t its2 _ ht;exact ht.push _
 . rw[ν];omega
 . intro i j x y t Q' E' kp pi pj hq;rw[cm] at pi pj;have hi:i<xs.length:=by have:=(δ.mp pi).1;omega
   have hj:j<xs.length:=by have:=(δ.mp pj).1;omega
   obtain⟨t1,s1,a1,_,_,b1,c1⟩:=tups i hi;obtain⟨t2,s2,a2,_,_,b2,c2⟩:=tups j hj;rw[a1] at pi;rw[a2] at pj;cases pi;cases pj;exact HT.lt_tupInts (kp i t1 s1 a1 b1) (kp j t2 s2 a2 b2) c1 c2 (by show X.A.units+1<rl;omega) hq
 . intro h h' kp kk i t its2 g ht;have e0:=kp i t its2 g ht;obtain⟨o,e,hcl,hd⟩:=ht;obtain⟨o',e',r'⟩:=e0;have lt':=ξ e;refine⟨o',kk t o' (λz=>?_) (al ?_) e',r'⟩
   . have z':t=s.heap.objs.size:=by simpa using z
     rw[z'] at lt';exact bh _ lt'
   . show t<(s.heap.push _).objs.size;rw[bo];exact df lt'
 . intro v h' tk pv kk;rw[ν,<-l1,l2,QB,cm] at pv;have hm:Ba xs (xs.length-1)<xs.length:=by have:=Iy xs (xs.length-1);omega
   obtain⟨t,its2,a1,a2,a3,_,_⟩:=tups _ hm;rw[a1] at pv;cases pv;refine⟨.ref t,H,?_,rfl,q (by omega) t a2 a3⟩;refine I.kept (t':=tk) λb o e=>kk b o (λz=>?_) (ζ _ e);have:=ξ e;have z':b=s.heap.objs.size:=by simpa using z
   rw[z'] at this;exact bh _ this
end
def DM:List (List Int)->Option (List Int):=λxs=>xs.foldl (λb x=>match b with | none=>some x | some y=>if HT.lexLt x y then some x else some y) none
theorem dE:DM []=none:=rfl
theorem WT(xs:List (List Int))(x:List Int):DM (xs++[x])=match DM xs with | none=>some x | some y=>if HT.lexLt x y then some x else some y:=by
 unfold DM;rw[bj];rfl
theorem WU(xs:List (List Int)):∀k,k<xs.length->DM (xs.take (k+1))=some (xs.getD (Ba xs k) [])
 | 0,h=>by
   have e:xs.take 1=[]++[xs[0]]:=by rw[ap,ah h];rfl
   rw[e,WT,dE]
   show some xs[0]=some (xs.getD 0 [])
   simp [h]
 | k+1,h=>by
   have ih:=WU xs k (by omega)
   have e:xs.take (k+1+1)=xs.take (k+1)++[xs[k+1]]:=by rw[ap,ah h];rfl
   have ex:xs.getD (k+1) []=xs[k+1]:=by simp [h]
   rw[e,WT,ih]
   show (if HT.lexLt xs[k+1] (xs.getD (Ba xs k) [])=true then some xs[k+1] else some (xs.getD (Ba xs k) []))=some (xs.getD (Ba xs (k+1)) [])
   rw[show Ba xs (k+1)=if HT.lexLt (xs.getD (k+1) []) (xs.getD (Ba xs k) []) then k+1 else Ba xs k from rfl,<-ex]
   split <;> rfl
theorem WV{xs:List (List Int)}(h:0<xs.length):DM xs=some (xs.getD (Ba xs (xs.length-1)) []):=by
 have:=WU xs (xs.length-1) (by omega)
 rwa [af (by omega)] at this
section
variable {K:γ}{σ:L2.St}{H:Hp}{Q:VK}
theorem WW{us:List V}{xs:List (List V)}{a:qH}{x:List V}(h:AY H us xs)(ha:H a=some (.tup x)):AY H (us++[.ref a]) (xs++[x]):=by
 refine⟨by rw[π,π,h.1];rfl,λi y hy=>?_⟩;by_cases hi:i<xs.length
 . rw[ο hi] at hy;obtain⟨b,e1,e2⟩:=h.2 i y hy;exact⟨b,by rw[ο (by rw[h.1];exact hi)];exact e1,e2⟩
 . rw[θ (by omega)] at hy;have:i-xs.length=0:=by
     have:=(δ.mp hy).1;simp at this;omega
   rw[this] at hy;cases hy;exact⟨a,by rw[θ (by rw[h.1];omega),h.1,this];rfl,ha⟩
theorem dF{us:List V}{xs:List (List V)}{x:List V}(h:AY H us (xs++[x])):∃ui t,us=ui++[.ref t]/\H t=some (.tup x):=by
 obtain⟨t,e1,e2⟩:=h.2 xs.length x (by simp);have hl:us.length=xs.length+1:=by rw[h.1];simp
 refine⟨us.take xs.length,t,?_,e2⟩;have h1:us.take (xs.length+1)=us.take xs.length++[.ref t]:=by rw[ap,e1];rfl
 rw[<-h1,af (by omega)]
theorem WX{us:List V}{xs:List (List V)}(h:AY H us xs){i:Nat}{v:V}(hv:us[i]?=some v):∃t x,v = .ref t/\xs[i]?=some x/\H t=some (.tup x):=by
 have hi:i<xs.length:=by rw[<-h.1];exact(δ.mp hv).1
 obtain⟨t,e1,e2⟩:=h.2 i xs[i] (by simp [hi]);exact⟨t,xs[i],ae (hv.symm.trans e1),by simp [hi],e2⟩
theorem Iz{us:List V}{ps:List Pc}(h:AJ H us ps){i:Nat}{v:V}(hv:us[i]?=some v):∃t z,v = .ref t/\ps[i]?=some z/\H t=some (.tup [.int z.a,.int z.l,.bl z.v]):=by
 have hi:i<ps.length:=by rw[<-h.1];exact(δ.mp hv).1
 obtain⟨t,e1,e2⟩:=h.2 i ps[i] (by simp [hi]);exact⟨t,ps[i],ae (hv.symm.trans e1),by simp [hi],e2⟩
end
def pr(q:Int×Int):List V:=[.int q.1,.int q.2]
def stp(A:List (Int×Int)×List (Int×Int)×Int)(z:Pc):List (Int×Int)×List (Int×Int)×Int :=
 if z.v=true then (A.1++[(z.a+z.l,A.2.2+z.l)],A.2.1++[(z.a,A.2.2)],A.2.2+z.l) else A
def plF(ps:List Pc):List (Int×Int)×List (Int×Int)×Int:=ps.foldl stp ([(0,0)],[],0)
theorem WY{ps:List Pc}{i:Nat}{z:Pc}(h:ps[i]?=some z):plF (ps.take (i+1))=stp (plF (ps.take i)) z:=by
 unfold plF;rw[ap,h,bj];rfl
theorem WZ:∀(ps:List Pc) (A:List (Int×Int)×List (Int×Int)×Int),(∃D a,A.1=D++[(a,A.2.2)])->∃D a,(ps.foldl stp A).1=D++[(a,(ps.foldl stp A).2.2)]
 | [],_,h=>h
 | z::r,A,h=>by
   refine WZ r (stp A z) ?_
   unfold stp
   split
   . exact⟨A.1,z.a+z.l,rfl⟩
   . exact h
theorem dG(ps:List Pc):∃D a,(plF ps).1=D++[(a,(plF ps).2.2)]:=WZ ps _ ⟨[],0,rfl⟩
theorem W1:∀(ps:List Pc) (A:List (Int×Int)×List (Int×Int)×Int),(ps.foldl stp A).1.length<=A.1.length+ps.length/\(ps.foldl stp A).2.1.length<=A.2.1.length+ps.length
 | [],A=>⟨Θ _,Θ _⟩
 | z::r,A=>by
   obtain⟨h1,h2⟩:=W1 r (stp A z)
   have h3:(stp A z).1.length<=A.1.length+1/\(stp A z).2.1.length<=A.2.1.length+1:=by
     unfold stp
     split <;> simp
   rw[bi,au];omega
theorem JB(ps:List Pc):(plF ps).1.length<=ps.length+1/\(plF ps).2.1.length<=ps.length:=by
 have:=W1 ps ([(0,0)],[],0);simp only [aj,gb] at this;exact⟨by unfold plF;omega,by unfold plF;omega⟩
def pl1(nd:Int)(s t:Int×Int):Option (List Int):=if s.1<=t.1/\nd<=t.1-s.1-(t.2-s.2) then some [t.2-s.2,s.1,t.1] else none
def ud(nd:Int)(s:Int×Int)(ts:List (Int×Int)):List (List Int):=ts.filterMap (pl1 nd s)
def Cw(nd:Int)(ss ts:List (Int×Int)):List (List Int):=(ss.map λs=>ud nd s ts).flatten
theorem dH{nd:Int}{s t:Int×Int}{ts:List (Int×Int)}{j:Nat}(h:ts[j]?=some t):ud nd s (ts.take (j+1))=ud nd s (ts.take j)++(pl1 nd s t).toList:=by
 unfold ud;rw[ap,h,ln]
 congr 1
theorem dJ{nd:Int}{s:Int×Int}{ss ts:List (Int×Int)}{i:Nat}(h:ss[i]?=some s):Cw nd (ss.take (i+1)) ts=Cw nd (ss.take i) ts++ud nd s ts:=by
 unfold Cw;rw[ap,h,ψ,jg];simp
theorem W8(nd:Int)(s:Int×Int)(ts:List (Int×Int)):(ud nd s ts).length<=ts.length:=di _ _
theorem Xa(nd:Int)(ts:List (Int×Int)):∀ss:List (Int×Int),(Cw nd ss ts).length<=ss.length*ts.length
 | []=>by simp [Cw]
 | s::r=>by
   have ih:=Xa nd ts r
   have h1:=W8 nd s ts
   have e:Cw nd (s::r) ts=ud nd s ts++Cw nd r ts:=rfl
   rw[e,π,au,Nat.add_mul]
   omega
theorem dM{nd:Int}{ss ts:List (Int×Int)}{x:List Int}(h:x∈Cw nd ss ts):x.length=3:=by
 unfold Cw at h;obtain⟨r,hr,hx⟩:=ot.mp h;obtain⟨s,_,rfl⟩:=am.mp hr;obtain⟨t,_,e⟩:=dk.mp hx;unfold pl1 at e
 split at e
 . cases e;rfl
 . cases e
def plans(nd:Int)(ps:List Pc)(n:Int):List (List Int):=Cw nd (plF ps).1 ((plF ps).2.1++[(n,(plF ps).2.2)])
theorem Xb:∀{xs:List (List Int)} {x:List Int},DM xs=some x->x∈xs:=λ{xs x} h=>by
 by_cases h0:0<xs.length
 . rw[WV h0] at h;have hm:Ba xs (xs.length-1)<xs.length:=by have:=Iy xs (xs.length-1);omega
   have ex:xs.getD (Ba xs (xs.length-1)) []=xs[Ba xs (xs.length-1)]:=by simp [hm]
   rw[ex] at h;cases h;exact az hm
 . have:xs=[]:=br.mp (by omega);rw[this] at h;cases h
def QC(H:Hp)(v:V)(o:Option (List Int)):Prop:=match o with
 | none=>v = .non
 | some x=>∃t,v = .ref t/\H t=some (.tup (x.map V.int))
theorem AF.new{x t:qH}{H H':Hp}{o:HO}(s:AF x H H')(ht:H' t=none):AF x H (upd H' t o):=λb o' n h=>look_put ht (s b o' n h)
theorem AF.tups{x:qH}{H H':Hp}{l us:List V}{xs:List (List V)}(s:AF x H H')(hx:H x=some (.lst l))(h:AY H us xs):AY H' us xs:=h.mono λb ys e=>s b _ (λz=>by rw[z,hx] at e;cases e) e
theorem dN{H:Hp}{us:List V}{xs:List (List Int)}{t:qH}(hn:0<xs.length)(ht:H t=some (.tup ((xs.getD (Ba xs (xs.length-1)) []).map V.int))):QC H (.ref t) (DM xs):=by
 rw[WV hn];exact⟨t,rfl,ht⟩
theorem AI.app{X Y:List Pc}(hX:AI X)(hY:AI Y)(hj:∀x y,X.getLast?=some x->Y[0]?=some y->x.v=true\/y.v=true):AI (X++Y):=λj y z h1 h2=>by
 by_cases e1:j+1<X.length
 . rw[ο (by omega)] at h1;rw[ο e1] at h2;exact hX j y z h1 h2
 . by_cases e2:j+1=X.length
   . rw[ο (by omega)] at h1;rw[θ (by omega),show j+1-X.length=0 by omega] at h2;refine hj y z ?_ h2;rw[jv,show X.length-1=j by omega];exact h1
   . rw[θ (by omega)] at h1 h2;rw[show j+1-X.length=(j-X.length)+1 by omega] at h2;exact hY _ y z h1 h2
theorem AI.left{X Y:List Pc}(h:AI (X++Y)):AI X:=λj y z h1 h2=>by
 have l1:=(δ.mp h1).1;have l2:=(δ.mp h2).1;exact h j y z (by rw[ο l1];exact h1) (by rw[ο l2];exact h2)
theorem AI.right{X Y:List Pc}(h:AI (X++Y)):AI Y:=λj y z h1 h2=>h (X.length+j) y z (by rw[θ (by omega),show X.length+j-X.length=j by omega];exact h1) (by rw[θ (by omega),show X.length+j+1-X.length=j+1 by omega];exact h2)
theorem AI.mid{X Y:List Pc}{x y:Pc}(h:AI (X++Y))(hx:X.getLast?=some x)(hy:Y[0]?=some y):x.v=true\/y.v=true:=by
 rw[jv] at hx;have l1:=(δ.mp hx).1;refine h (X.length-1) x y (by rw[ο l1];exact hx) ?_;rw[θ (by omega),show X.length-1+1-X.length=0 by omega];exact hy
theorem IA(z:Pc):AI [z]:=λj y x h1 h2=>by
 have:=(δ.mp h2).1;simp at this
theorem dO:AI []:=λj y x h1 h2=>by simp at h1
theorem NW:∀(R X:List Pc),AI (X++R)->R.foldl Bu X=X++R
 | [],X,_=>by simp
 | w::R,X,h=>by
   rw[bi]
   have e:Bu X w=X++[w]:=by
     rcases Dz X with e0 | ⟨D,y,e0⟩
     . subst e0;rfl
     . subst e0;have:=h.mid (x:=y) (y:=w) (by simp) (by simp);rcases this with hv | hv
       . exact Ee hv
       . exact FP hv
   rw[e,NW R (X++[w]) (by rw[ak];exact h),ak];rfl
def CK(ds:List Pc):List Pc:=match ds.getLast? with
 | some y=>if y.v=true then ds else ds.dropLast
 | none=>ds
def B9:List Pc->List Pc
 | []=>[]
 | w::R=>if w.v=true then w::R else R
theorem IC{w:Pc}{R:List Pc}(h:w.v=true):B9 (w::R)=w::R:=by show (if w.v=true then w::R else R)=_;rw[if_pos h]
theorem ID{w:Pc}{R:List Pc}(h:w.v=false):B9 (w::R)=R:=by show (if w.v=true then w::R else R)=_;rw[h,if_neg η]
theorem JC{D:List Pc}{y:Pc}(h:y.v=true):CK (D++[y])=D++[y]:=by unfold CK;rw[gw];simp only;rw[if_pos h]
theorem JD{D:List Pc}{y:Pc}(h:y.v=false):CK (D++[y])=D:=by unfold CK;rw[gw];simp only;rw[h,if_neg η,md]
theorem dQ{ds rs:List Pc}{z:Pc}{s e:Int}(c:Ai s (ds++z::rs) e):Ai s (CK ds) (tJ (ds++z::rs) ds.length z)/\tJ (ds++z::rs) ds.length z<=z.a/\s<=tJ (ds++z::rs) ds.length z:=by
 obtain⟨mm,c1,⟨ea,h1,h3,c2⟩⟩:∃mm,Ai s ds mm/\Ai mm (z::rs) e:=by
   have key:∀{A B:List Pc} {s e:Int},Ai s (A++B) e->∃m,Ai s A m/\Ai m B e:=by
     intro A
     induction A with
     | nil=>intro B s e c;exact⟨s,rfl,c⟩
     | cons y r ih =>
       rintro B s e ⟨g1,g2,g3,g4⟩;obtain⟨m,k1,k2⟩:=ih g4;exact⟨m,⟨g1,g2,g3,k1⟩,k2⟩
   exact key c
 rw[<-ea] at c1;have hl:=c1.le;rcases Dz ds with e0 | ⟨D,y,e0⟩
 . subst e0;exact⟨c1,ba _,by show s<=z.a;rw[gb] at hl;omega⟩
 . subst e0;obtain⟨k1,k2,k3,k4⟩:=c1.unsnoc;have hy:(D++[y]++z::rs)[D.length]?=some y:=by rw[ak,θ (Θ _),ff];rfl
   rw[π,aj];have kl:=k1.le;cases hv:y.v with
   | true=>rw[NJ hy hv,JC hv];exact⟨c1,ba _,by omega⟩
   | false=>rw[NK hy hv,JD hv];exact⟨k1,by omega,by omega⟩
theorem QD{ds rs:List Pc}{z:Pc}{s e:Int}(c:Ai s (ds++z::rs) e):Ai (tG (ds++z::rs) ds.length z) (B9 rs) e/\z.a+z.l<=tG (ds++z::rs) ds.length z/\tG (ds++z::rs) ds.length z<=e:=by
 have key:∀{A B:List Pc} {s e:Int},Ai s (A++B) e->∃m,Ai s A m/\Ai m B e:=by
   intro A
   induction A with
   | nil=>intro B s e c;exact⟨s,rfl,c⟩
   | cons y r ih =>
     rintro B s e ⟨g1,g2,g3,g4⟩;obtain⟨m,k1,k2⟩:=ih g4;exact⟨m,⟨g1,g2,g3,k1⟩,k2⟩
 obtain⟨mm,c1,⟨ea,h1,h3,c2⟩⟩:=key c;rw[<-ea] at c2;cases rs with
 | nil =>
   have hn:(ds++[z])[ds.length+1]?=none:=fz (by simp);have c2:z.a+z.l=e:=c2;rw[Qr hn];exact⟨c2,ba _,by omega⟩
 | cons w R =>
   have hw:(ds++z::w::R)[ds.length+1]?=some w:=by rw[θ (by omega),show ds.length+1-ds.length=1 by omega];rfl
   have hl:=c2.le;rw[au] at hl;cases hv:w.v with
   | true =>
     rw[NL hw hv,IC hv];exact⟨c2,ba _,by omega⟩
   | false =>
     rw[NM hw hv,ID hv];obtain⟨g1,g2,g3,g4⟩:=c2;have hl2:=g4.le;refine⟨?_,by omega,by omega⟩;rw[g1];exact g4
theorem dR{ds:List Pc}{p:Pc}(h:p∈CK ds):p∈ds:=by
 rcases Dz ds with e0 | ⟨D,y,e0⟩
 . subst e0;exact h
 . subst e0;cases hv:y.v with
   | true=>rw[JC hv] at h;exact h
   | false=>rw[JD hv] at h;exact ρ.mpr (.inl h)
theorem Xc{rs:List Pc}{p:Pc}(h:p∈B9 rs):p∈rs:=by
 cases rs with
 | nil=>cases h
 | cons w R =>
   cases hv:w.v with
   | true=>rw[IC hv] at h;exact h
   | false=>rw[ID hv] at h;exact ι _ h
def tZ(ps:List Pc)(k:Int):List Pc:=ps.map λp=>(⟨p.a,p.l,p.v&&!decide (p.a=k)⟩:Pc)
theorem QE{ds rs:List Pc}{z:Pc}{s e:Int}(c:Ai s (ds++z::rs) e):tZ (ds++z::rs) z.a=ds++⟨z.a,z.l,false⟩::rs:=by
 have hid:∀p∈ds++rs,(⟨p.a,p.l,p.v&&!decide (p.a=z.a)⟩:Pc)=p:=λp hp=>by
   have hne:p.a≠z.a:=λh=>by
     have hp2:p∈ds++z::rs:=by
       rcases ρ.mp hp with g | g
       . exact ρ.mpr (.inl g)
       . exact ρ.mpr (.inr (ι _ g))
     obtain⟨i,hi⟩:=aq hp2;have hz:(ds++z::rs)[ds.length]?=some z:=by rw[θ (Θ _),ff];rfl
     have:=Qs c hi hz h;subst this
     -- p stands where z stands,so p is not elsewhere
     rcases ρ.mp hp with g | g
     . obtain⟨j,hj⟩:=aq g;have hjl:=(δ.mp hj).1;have:=Qs c (show (ds++z::rs)[j]?=some p by rw[ο hjl];exact hj) hz h;omega
     . obtain⟨j,hj⟩:=aq g;have:=Qs c (show (ds++z::rs)[ds.length+1+j]?=some p by rw[θ (by omega),show ds.length+1+j-ds.length=j+1 by omega,kf];exact hj) hz h;omega
   rw[decide_eq_false hne];simp
 unfold tZ;rw[ψ,ar];have e1:ds.map (λp=>(⟨p.a,p.l,p.v&&!decide (p.a=z.a)⟩:Pc))=ds:=by
   have:ds.map (λp=>(⟨p.a,p.l,p.v&&!decide (p.a=z.a)⟩:Pc))=ds.map id:=mf λp hp=>hid p (ρ.mpr (.inl hp));rw[this,qu]
 have e2:rs.map (λp=>(⟨p.a,p.l,p.v&&!decide (p.a=z.a)⟩:Pc))=rs:=by
   have:rs.map (λp=>(⟨p.a,p.l,p.v&&!decide (p.a=z.a)⟩:Pc))=rs.map id:=mf λp hp=>hid p (ρ.mpr (.inr hp));rw[this,qu]
 rw[e1,e2];simp
theorem Xd{w:List Pc}(h:AI w):AI (B9 w)/\∀y,(B9 w)[0]?=some y->y.v=true:=by
 cases w with
 | nil=>exact⟨h,λy hy=>by simp [B9] at hy⟩
 | cons z R =>
   cases hv:z.v with
   | true =>
     rw[IC hv];refine⟨h,λy hy=>?_⟩;have ey:y=z:=by simpa using hy.symm
     rw[ey];exact hv
   | false =>
     rw[ID hv];refine⟨AI.right (X:=[z]) h,λy hy=>?_⟩;have:=AI.mid (X:=[z]) (Y:=R) (x:=z) (y:=y) h rfl hy;exact this.resolve_left (by rw[hv];exact η)
theorem dS{ds rs:List Pc}{z:Pc}(c:Ai 0 (ds++z::rs) cs.length)(m:AH cs (ds++z::rs))(na:AI (ds++z::rs))(hv:z.v=true):
   Ai 0 (A0 (tZ (ds++z::rs) z.a)) cs.length/\AI (A0 (tZ (ds++z::rs) z.a))/\AH (lfI cs (tJ (ds++z::rs) ds.length z) (tG (ds++z::rs) ds.length z)) (A0 (tZ (ds++z::rs) z.a)):=by
 obtain⟨b1,b2,b3⟩:=dQ c;obtain⟨e1,e2,e3⟩:=QD c;have zl:1<=z.l:=(c.mem z (by simp)).2.1;have hj:A0 (tZ (ds++z::rs) z.a)=CK ds++(fr (tJ (ds++z::rs) ds.length z) (tG (ds++z::rs) ds.length z)++B9 rs):=by
   rw[QE c];unfold fr;rw[if_neg (by omega)];have hds:AI ds:=na.left;have hrs:AI rs:=AI.right (X:=ds++[z]) (by rw[ak];exact na);obtain⟨hR1,hR2⟩:=Xd hrs;unfold A0;rw[bj,bi];have h0:ds.foldl Bu []=ds:=by
     have:=NW ds [] (by simpa using hds);simpa using this
   rw[h0]
   -- the step at the piece itself
   have h1:∃l1,Bu ds ⟨z.a,z.l,false⟩=CK ds++[⟨tJ (ds++z::rs) ds.length z,l1,false⟩]/\tJ (ds++z::rs) ds.length z+l1=z.a+z.l:=by
     rcases Dz ds with e0 | ⟨D,y,e0⟩
     . subst e0;exact⟨z.l,rfl,rfl⟩
     . subst e0;have hy:(D++[y]++z::rs)[D.length]?=some y:=by rw[ak,θ (Θ _),ff];rfl
       have hn:=Fg c hy (show (D++[y]++z::rs)[D.length+1]?=some z by rw[θ (by simp),show D.length+1-(D++[y]).length=0 by simp];rfl);rw[π,aj];cases hvy:y.v with
       | true=>exact⟨z.l,by rw[NJ hy hvy,JC hvy];exact Ee hvy,by rw[NJ hy hvy]⟩
       | false=>exact⟨y.l+z.l,by rw[NK hy hvy,JD hvy];exact Ef hvy rfl,by rw[NK hy hvy];omega⟩
   obtain⟨l1,h1,h1'⟩:=h1;rw[h1];have hfl:∀x y,(CK ds).getLast?=some x->[(⟨tJ (ds++z::rs) ds.length z,tG (ds++z::rs) ds.length z-tJ (ds++z::rs) ds.length z,false⟩:Pc)][0]?=some y->x.v=true\/y.v=true:=λx y hx hy=>by
     left;rcases Dz ds with e0 | ⟨D,w,e0⟩
     . subst e0;simp [CK] at hx
     . subst e0;cases hvy:w.v with
       | true =>
         rw[JC hvy] at hx;have ex:x=w:=by simpa using hx.symm
         rw[ex];exact hvy
       | false =>
         rw[JD hvy] at hx;have h2:AI (D++[w]):=hds;exact(h2.mid hx (by rfl)).resolve_right (by rw[hvy];exact η)
   have hflN:AI (CK ds):=by
     rcases Dz ds with e0 | ⟨D,w,e0⟩
     . subst e0;exact hds
     . subst e0;cases hvy:w.v with
       | true=>rw[JC hvy];exact hds
       | false=>rw[JD hvy];exact hds.left
   have hall:AI ((CK ds++[(⟨tJ (ds++z::rs) ds.length z,tG (ds++z::rs) ds.length z-tJ (ds++z::rs) ds.length z,false⟩:Pc)])++B9 rs) :=
     AI.app (hflN.app (IA _) hfl) hR1 λx y hx hy=>.inr (hR2 y hy)
   cases rs with
   | nil =>
     have hn:(ds++[z])[ds.length+1]?=none:=fz (by simp);rw[Qr hn] at *;have el:l1=z.a+z.l-tJ (ds++[z]) ds.length z:=by omega
     rw[el];simp [B9]
   | cons w R =>
     have hw:(ds++z::w::R)[ds.length+1]?=some w:=by rw[θ (by omega),show ds.length+1-ds.length=1 by omega];rfl
     have hnx:=Fg c (show (ds++z::w::R)[ds.length]?=some z by rw[θ (Θ _),ff];rfl) hw;cases hvw:w.v with
     | true =>
       rw[NL hw hvw] at *;have el:l1=z.a+z.l-tJ (ds++z::w::R) ds.length z:=by omega
       rw[el];have eR:B9 (w::R)=w::R:=IC hvw;rw[eR] at hall ⊢;rw[NW (w::R) _ hall,ak]
     | false =>
       rw[NM hw hvw] at *;have eR:B9 (w::R)=R:=ID hvw;rw[eR] at hall ⊢;rw[bi,Ef rfl hvw];have el:l1+w.l=w.a+w.l-tJ (ds++z::w::R) ds.length z:=by omega
       show mx Bu (CK ds++[⟨tJ (ds++z::w::R) ds.length z,l1+w.l,false⟩]) R=_;rw[el,NW R _ hall,ak]
 refine⟨Ju ?_,Wz _,?_⟩
 . rw[QE c];obtain⟨i1,i2⟩:=(show Ai 0 (CK ds) _/\True from ⟨b1,trivial⟩)
   have key:∀(A:List Pc) (s:Int),Ai s (A++z::rs) cs.length->Ai s (A++⟨z.a,z.l,false⟩::rs) cs.length:=by
     intro A
     induction A with
     | nil=>rintro s ⟨g1,g2,g3,g4⟩;exact⟨g1,g2,(λh=>by cases h),g4⟩
     | cons y r ih=>rintro s ⟨g1,g2,g3,g4⟩;exact⟨g1,g2,g3,ih _ g4⟩
   exact key ds 0 c
 . rw[hj];refine AH.layF b3 (by omega) e3 (b1.endBy (ba _)) e1.fromOn (m.sub λp hp=>?_);rcases ρ.mp hp with g | g
   . exact ρ.mpr (.inl (dR g))
   . exact ρ.mpr (.inr (ι _ (Xc g)))
def rg1(k L e:Int)(p:Pc):List Pc:=(if p.a<k\/e<=p.a then [p] else [])++(if p.a=k then [⟨k,L,true⟩] else [])++(if p.a=k/\k+L<e then [⟨k+L,e-k-L,false⟩] else [])
def tP(ps:List Pc)(k L e:Int):List Pc:=(ps.map (rg1 k L e)).flatten
theorem NX(A B:List Pc)(k L e:Int):tP (A++B) k L e=tP A k L e++tP B k L e:=by unfold tP;rw[ψ,jg]
theorem QF{A:List Pc}{k L e:Int}(h:∀p∈A,p.a≠k/\(p.a<k\/e<=p.a)):tP A k L e=A:=by
 induction A with
 | nil=>rfl
 | cons p r ih =>
   have h1:=h p Ξ;have e1:rg1 k L e p=[p]:=by
     unfold rg1;rw[if_pos h1.2,if_neg h1.1,if_neg (λz=>h1.1 z.1)];rfl
   rw[show p::r=[p]++r from rfl,NX,ih λq hq=>h q (ι _ hq)]
   congr 1
   unfold tP;simp [e1]
theorem NY:∀{A B:List Pc} {s e:Int},Ai s (A++B) e->∃m,Ai s A m/\Ai m B e
 | [],B,s,e,c=>⟨s,rfl,c⟩
 | z::r,B,s,e,c=>by
   obtain⟨h1,h2,h3,h4⟩:=c
   obtain⟨m,g1,g2⟩:=NY h4
   exact⟨m,⟨h1,h2,h3,g1⟩,g2⟩
theorem Xe{ds rs:List Pc}{z:Pc}{n L:Int}(c:Ai 0 (ds++z::rs) n)(na:AI (ds++z::rs))(hL:z.a+L<=tG (ds++z::rs) ds.length z):
   tP (ds++z::rs) z.a L (tG (ds++z::rs) ds.length z)=(ds++[⟨z.a,L,true⟩])++(fr (z.a+L) (tG (ds++z::rs) ds.length z)++B9 rs):=by
 obtain⟨e1,e2,e3⟩:=QD c;obtain⟨mm,c1,⟨ea,h1,h3,c2⟩⟩:=NY c;rw[<-ea] at c1 c2;have hz:rg1 z.a L (tG (ds++z::rs) ds.length z) z=[⟨z.a,L,true⟩]++fr (z.a+L) (tG (ds++z::rs) ds.length z):=by
   unfold rg1 fr;rw[if_neg (by omega),if_pos rfl,cb]
   congr 1
   by_cases he:z.a+L=tG (ds++z::rs) ds.length z
   . rw[if_pos he,if_neg (by omega)]
   . rw[if_neg he,if_pos ⟨rfl,by omega⟩,show tG (ds++z::rs) ds.length z-z.a-L=tG (ds++z::rs) ds.length z-(z.a+L) by omega]
 have hr:tP rs z.a L (tG (ds++z::rs) ds.length z)=B9 rs:=by
   cases rs with
   | nil=>rfl
   | cons w R =>
     have hw:(ds++z::w::R)[ds.length+1]?=some w:=by rw[θ (by omega),show ds.length+1-ds.length=1 by omega];rfl
     cases hv:w.v with
     | true =>
       rw[IC hv];refine QF λp hp=>?_;have:=c2.mem p hp;rw[NL hw hv];exact⟨by omega,.inr (by omega)⟩
     | false =>
       rw[ID hv] at e1 ⊢;obtain⟨g1,g2,g3,g4⟩:=c2;have hf:=NM (z:=z) hw hv;rw[show w::R=[w]++R from rfl,NX];have e0:tP [w] z.a L (tG (ds++z::w::R) ds.length z)=[]:=by
         unfold tP rg1;rw[ar,jj,fg,ou,if_neg (by omega),if_neg (by omega),if_neg (by omega)];rfl
       have e0':tP [w] z.a L (tG (ds++z::([w]++R)) ds.length z)=[]:=e0;rw[e0',cb];refine QF λp hp=>?_;have hm:=e1.mem p hp;show p.a≠z.a/\(p.a<z.a\/tG (ds++z::w::R) ds.length z<=p.a)
       exact⟨by omega,.inr (by omega)⟩
 rw[NX,QF (A:=ds) (λp hp=>by have:=c1.mem p hp;exact⟨by omega,.inl (by omega)⟩),show z::rs=[z]++rs from rfl,NX];have e9:tP [z] z.a L (tG (ds++([z]++rs)) ds.length z)=[⟨z.a,L,true⟩]++fr (z.a+L) (tG (ds++z::rs) ds.length z):=by
   unfold tP;rw[ar,jj,fg,ou,bg];exact hz
 have e8:tP rs z.a L (tG (ds++([z]++rs)) ds.length z)=B9 rs:=hr;rw[e9,e8];simp
theorem dU{ds rs:List Pc}{z:Pc}{L:Int}(c:Ai 0 (ds++z::rs) cs.length)(m:AH cs (ds++z::rs))(na:AI (ds++z::rs))(hL3:3<=L)(hL:z.a+L<=tG (ds++z::rs) ds.length z):
   Ai 0 (tP (ds++z::rs) z.a L (tG (ds++z::rs) ds.length z)) cs.length/\AI (tP (ds++z::rs) z.a L (tG (ds++z::rs) ds.length z)) /\
   AH (lfI (A6 cs z.a L true) (z.a+L) (tG (ds++z::rs) ds.length z)) (tP (ds++z::rs) z.a L (tG (ds++z::rs) ds.length z)):=by
 obtain⟨e1,e2,e3⟩:=QD c;obtain⟨mm,c1,⟨ea,h1,h3,c2⟩⟩:=NY c;rw[<-ea] at c1 c2;have hl1:=c1.le;have hrs:AI rs:=AI.right (X:=ds++[z]) (by rw[ak];exact na);obtain⟨hR1,hR2⟩:=Xd hrs;rw[Xe c na hL];have cz:Ai 0 (ds++[⟨z.a,L,true⟩]) (z.a+L):=Ai.snoc (p:=⟨z.a,L,true⟩) c1 (show 1<=L by omega) (λ_=>hL3);refine⟨cz.app ((NI hL).app e1),?_,?_⟩
 . have n1:AI (ds++[⟨z.a,L,true⟩]):=by
     refine na.left.app (IA _) λx y _ hy=>.inr ?_;have ey:y=⟨z.a,L,true⟩:=by simpa using hy.symm
     rw[ey]
   have n2:AI (fr (z.a+L) (tG (ds++z::rs) ds.length z)++B9 rs):=by
     unfold fr
     split
     . exact hR1
     . exact(IA _).app hR1 λx y _ hy=>.inr (hR2 y hy)
   refine n1.app n2 λx y hx _=>.inl ?_;have:x=⟨z.a,L,true⟩:=by simpa using hx.symm
   rw[this]
 . have ml:AH (A6 cs z.a L true) (ds++⟨z.a,L,true⟩::B9 rs):=AH.lay (by omega) (by omega) (by omega) (c1.endBy (ba _)) (λp hp=>by have:=e1.fromOn p hp;omega) (m.sub λp hp=>by
     rcases ρ.mp hp with g | g
     . exact ρ.mpr (.inl g)
     . exact ρ.mpr (.inr (ι _ (Xc g))))
   exact AH.layF (by omega) hL (by rw[Cp];exact e3) (cz.endBy (ba _)) e1.fromOn (by rw[ak];exact ml)
def tK(cs:List Int)(s g c:Nat):List Int:=cs.take g++(cs.drop s).take c++cs.drop (g+c)
theorem QG{s g c:Nat}(h1:s+c<=cs.length)(h2:g+c<=cs.length):(tK cs s g c).length=cs.length:=by
 unfold tK;simp only [π,ag,fe];omega
theorem Xf{s g c j:Nat}(h2:g+c<=cs.length)(h:j<g):(tK cs s g c)[j]?=cs[j]?:=by
 unfold tK;rw[ak,ο (by rw[ag];omega),gh h]
theorem dW{s g c i:Nat}(h1:s+c<=cs.length)(h2:g+c<=cs.length)(h:i<c):(tK cs s g c)[g+i]?=cs[s+i]?:=by
 unfold tK;rw[ak,θ (by rw[ag];omega),ag,show g+i-min g cs.length=i by omega,ο (by rw[ag,fe];omega),gh h,ij]
theorem dX{s g c j:Nat}(h1:s+c<=cs.length)(h2:g+c<=cs.length)(h:g+c<=j):(tK cs s g c)[j]?=cs[j]?:=by
 unfold tK;rw[θ (by rw[π,ag,ag,fe];omega),π,ag,ag,fe,ij]
 congr 1
 omega
structure Uf where
 R:List Int
 g:Int
 tl:List (Pc×Int)
def BR(S T:Int)(A:Uf)(z:Pc):Uf :=
 if z.a<S then ⟨A.R,A.g,A.tl++[(z,z.a)]⟩ else if z.a<T/\z.v=true then ⟨tK A.R z.a.toNat A.g.toNat z.l.toNat,A.g+z.l,A.tl++[(⟨A.g,z.l,z.v⟩,z.a)]⟩ else A
def uF(S T:Int)(cs:List Int)(ps:List Pc):Uf:=ps.foldl (BR S T) ⟨cs,S,[]⟩
theorem dY{S T:Int}{ps:List Pc}{i:Nat}{z:Pc}(h:ps[i]?=some z):uF S T cs (ps.take (i+1))=BR S T (uF S T cs (ps.take i)) z:=by
 unfold uF;rw[ap,h,bj];rfl
theorem NZ{S T:Int}:∀{ps:List Pc} {A:Uf},(∀z∈ps,z.a<S)->ps.foldl (BR S T) A=⟨A.R,A.g,A.tl++ps.map λz=>(z,z.a)⟩
 | [],A,_=>by simp
 | z::r,A,h=>by
   rw[bi,NZ (λy hy=>h y (ι _ hy))]
   unfold BR
   rw[if_pos (h z Ξ)]
   simp
theorem N1{S T:Int}:∀{ps:List Pc} {A:Uf},S<=T->(∀z∈ps,T<=z.a)->ps.foldl (BR S T) A=A
 | [],A,_,_=>rfl
 | z::r,A,hST,h=>by
   have hz:=h z Ξ
   rw[bi]
   have e:BR S T A z=A:=by
     unfold BR;rw[if_neg (by omega),if_neg (by omega)]
   rw[e];exact N1 hST λy hy=>h y (ι _ hy)
structure MvI(cs:List Int)(qs:List Pc)(S e:Int)(t0:List (Pc×Int))(A:Uf):Prop where
 len:A.R.length=cs.length
 low:∀j:Nat,(j:Int)<S->A.R[j]?=cs[j]?
 high:∀j:Nat,e<=(j:Int)->A.R[j]?=cs[j]?
 tl:∃ms:List (Pc×Int),A.tl=t0++ms/\Ai S (ms.map (·.1)) A.g/\∀m∈ms,(∃z∈qs,z.v=true/\z.a=m.2/\z.l=m.1.l)/\m.1.v=true/\∀i:Nat,(i:Int)<m.1.l->A.R[(m.1.a+i).toNat]?=cs[(m.2+i).toNat]?
 ge:A.g<=e
theorem MvI.step{qs:List Pc}{S T e:Int}{t0:List (Pc×Int)}{A:Uf}{z:Pc}(m:MvI cs qs S e t0 A)(hS:0<=S)(hSe:S<=e)(hz:z∈qs)(ha:z.a=e)(h1:1<=z.l)(h3:z.v=true->3<=z.l)(hl:e+z.l<=cs.length)(hT:e+z.l<=T):MvI cs qs S (e+z.l) t0 (BR S T A z):=by
 obtain⟨hlen,hlow,hhigh,⟨ms,etl,hch,hms⟩,hge⟩:=m;have hle:=hch.le;have hgS:S<=A.g:=by
   have:=hch.le;omega
 unfold BR;rw[if_neg (by omega)];by_cases hv:z.v=true
 . rw[if_pos ⟨by omega,hv⟩];have l3:=h3 hv;have q1:z.a.toNat+z.l.toNat<=A.R.length:=by omega
   have q2:A.g.toNat+z.l.toNat<=A.R.length:=by omega
   refine⟨by rw[QG q1 q2];exact hlen,λj hj=>?_,λj hj=>?_,⟨ms++[(⟨A.g,z.l,z.v⟩,z.a)],?_,?_,?_⟩,by show A.g+z.l<=e+z.l;omega⟩
   . show (tK _ _ _ _)[j]?=_;rw[Xf q2 (by omega)];exact hlow j hj
   . show (tK _ _ _ _)[j]?=_;rw[dX q1 q2 (by omega)];exact hhigh j (by omega)
   . show A.tl++_=_;rw[etl,ak]
   . rw[ψ];exact hch.app ⟨rfl,h1,h3,rfl⟩
   . intro y hy;rcases ρ.mp hy with hy | hy
     . obtain⟨e1,e2,e3⟩:=hms y hy;obtain⟨y0,y1,_,y3⟩:=hch.mem y.1 (am.mpr ⟨y,hy,rfl⟩);refine⟨e1,e2,λi hi=>?_⟩;show (tK _ _ _ _)[_]?=_;rw[Xf q2 (by omega)];exact e3 i hi
     . rw[be.mp hy];refine⟨⟨z,hz,hv,rfl,rfl⟩,hv,λi hi=>?_⟩;have hi:(i:Int)<z.l:=hi;show (tK A.R z.a.toNat A.g.toNat z.l.toNat)[(A.g+i).toNat]?=cs[(z.a+i).toNat]?;rw[show (A.g+i).toNat=A.g.toNat+i by omega,dW q1 q2 (by omega),show (z.a+i).toNat=z.a.toNat+i by omega];exact hhigh _ (by omega)
 . rw[if_neg (λh=>hv h.2)];exact⟨hlen,hlow,λj hj=>hhigh j (by omega),⟨ms,etl,hch,hms⟩,by omega⟩
theorem MvI.all{cs:List Int}{qs:List Pc}{S T:Int}{t0:List (Pc×Int)}(hS:0<=S)(hTn:T<=cs.length):∀{ps:List Pc} {e:Int} {A:Uf},MvI cs qs S e t0 A->S<=e->Ai e ps T->(∀z∈ps,z∈qs)->MvI cs qs S T t0 (ps.foldl (BR S T) A)
 | [],e,A,m,_,c,_=>by
   have c:e=T:=c
   subst c
   exact m
 | z::r,e,A,m,hSe,c,hm=>by
   obtain⟨ea,h1,h3,c2⟩:=c
   have hle:=c2.le
   rw[bi]
   exact MvI.all hS hTn (m.step hS hSe (hm z Ξ) ea h1 h3 (by omega) (by omega)) (by omega) c2 λy hy=>hm y (ι _ hy)
theorem dZ{A1 M B:List Pc}{S T:Int}(hm:AH cs (A1++M++B))(c1:Ai 0 A1 S)(c2:Ai S M T)(c3:Ai T B cs.length)(hf:(uF S T cs (A1++M++B)).g<T):
   ∃(R':List Int) (tl:List (Pc×Int)),R'=A6 (uF S T cs (A1++M++B)).R (uF S T cs (A1++M++B)).g (T-(uF S T cs (A1++M++B)).g) false /\
     tl=(uF S T cs (A1++M++B)).tl++[(⟨(uF S T cs (A1++M++B)).g,T-(uF S T cs (A1++M++B)).g,false⟩,(uF S T cs (A1++M++B)).g)]++B.map (λz=>(z,z.a)) /\
     R'.length=cs.length/\Ai 0 (tl.map (·.1)) cs.length/\AH R' (tl.map (·.1))/\S<=(uF S T cs (A1++M++B)).g /\
     ∀q∈tl,0<=q.2/\q.2+q.1.l<=cs.length/\(q.1.v=true->∀i:Nat,(i:Int)<q.1.l->R'[(q.1.a+i).toNat]?=cs[(q.2+i).toNat]?):=by
 have l1:=c1.le;have l2:=c2.le;have l3:=c3.le;have eu:uF S T cs (A1++M++B)=M.foldl (BR S T) ⟨cs,S,A1.map λz=>(z,z.a)⟩:=by
   unfold uF;rw[bj,bj,NZ (ps:=A1) (λz hz=>by have:=c1.mem z hz;omega),N1 (ps:=B) (by omega) (λz hz=>by have:=c3.mem z hz;omega)];rfl
 have mi:MvI cs M S T (A1.map λz=>(z,z.a)) (uF S T cs (A1++M++B)):=by
   rw[eu];exact MvI.all (by omega) (by omega) ⟨rfl,λ_ _=>rfl,λ_ _=>rfl,⟨[],by simp,rfl,λm hm=>by cases hm⟩,ba _⟩ (ba _) c2 λz hz=>hz
 generalize uF S T cs (A1++M++B)=A at hf mi;obtain⟨hlen,hlow,hhigh,⟨ms,etl,hch,hms⟩,hge⟩:=mi;have lm:=hch.le;have out:∀j:Nat,((j:Int)<A.g\/T<=j)->(A6 A.R A.g (T-A.g) false)[j]?=A.R[j]?:=λj h=>Ip (by omega) (by omega) (by omega);have f1:=Qm (cs:=A.R) (k:=A.g) (l:=T-A.g) (v:=false) (by omega) (by omega) (by omega);have f2:=Qn (cs:=A.R) (k:=A.g) (l:=T-A.g) (v:=false) (by omega) (by omega) (by omega);have elen:(A6 A.R A.g (T-A.g) false).length=cs.length:=by rw[Cp];exact hlen
 refine⟨_,_,rfl,rfl,elen,?_,?_,by omega,?_⟩
 . rw[etl,ψ,ψ,ψ];have e1:(A1.map λz=>(z,z.a)).map (·.1)=A1:=by rw[du];exact kn A1
   have e2:(B.map λz=>(z,z.a)).map (·.1)=B:=by rw[du];exact kn B
   rw[e1,e2];exact((c1.app hch).app (show Ai A.g [⟨A.g,T-A.g,false⟩] T from ⟨rfl,by show 1<=T-A.g;omega,(λh=>by cases h),by show A.g+(T-A.g)=T;omega⟩)).app c3
 . intro p hp;obtain⟨q,hq,rfl⟩:=am.mp hp;rcases ρ.mp hq with hq | hq
   . rcases ρ.mp hq with hq | hq
     . rw[etl] at hq;rcases ρ.mp hq with hq | hq
       . obtain⟨z,hz,rfl⟩:=am.mp hq;obtain⟨z0,z1,_,z3⟩:=c1.mem z hz;obtain⟨m1,m2⟩:=hm z (ρ.mpr (.inl (ρ.mpr (.inl hz))));show (A6 _ _ _ _)[z.a.toNat]?=_/\(A6 _ _ _ _)[(z.a+z.l-1).toNat]?=_;rw[out _ (.inl (by omega)),out _ (.inl (by omega)),hlow _ (by omega),hlow _ (by omega)];exact⟨m1,m2⟩
       . obtain⟨⟨z,hz,hv,ea,el⟩,hv2,hh⟩:=hms q hq;obtain⟨q0,q1,_,q3⟩:=hch.mem q.1 (am.mpr ⟨q,hq,rfl⟩);obtain⟨z0,z1,_,z3⟩:=c2.mem z hz;obtain⟨m1,m2⟩:=hm z (ρ.mpr (.inl (ρ.mpr (.inr hz))));have em:q.1.mk'=z.mk':=by show tQ q.1.l q.1.v=tQ z.l z.v;rw[hv2,hv,el]
         have h0:=hh 0 (by omega);have h9:=hh (q.1.l-1).toNat (by omega);rw[show q.1.a+((0:Nat):Int)=q.1.a by omega,show q.2+((0:Nat):Int)=z.a by omega] at h0;rw[show q.1.a+(((q.1.l-1).toNat:Nat):Int)=q.1.a+q.1.l-1 by omega,show q.2+(((q.1.l-1).toNat:Nat):Int)=z.a+z.l-1 by omega] at h9;rw[out _ (.inl (by omega)),out _ (.inl (by omega)),h0,h9,em];exact⟨m1,m2⟩
     . rw[be.mp hq];exact⟨f1,f2⟩
   . obtain⟨z,hz,rfl⟩:=am.mp hq;obtain⟨z0,z1,_,z3⟩:=c3.mem z hz;obtain⟨m1,m2⟩:=hm z (ρ.mpr (.inr hz));show (A6 _ _ _ _)[z.a.toNat]?=_/\(A6 _ _ _ _)[(z.a+z.l-1).toNat]?=_;rw[out _ (.inr (by omega)),out _ (.inr (by omega)),hhigh _ (by omega),hhigh _ (by omega)];exact⟨m1,m2⟩
 . intro q hq;rcases ρ.mp hq with hq | hq
   . rcases ρ.mp hq with hq | hq
     . rw[etl] at hq;rcases ρ.mp hq with hq | hq
       . obtain⟨z,hz,rfl⟩:=am.mp hq;obtain⟨z0,z1,_,z3⟩:=c1.mem z hz;refine⟨z0,by show z.a+z.l<=_;omega,λ_ i hi=>?_⟩;have hi:(i:Int)<z.l:=hi;show (A6 _ _ _ _)[(z.a+i).toNat]?=cs[(z.a+i).toNat]?;rw[out _ (.inl (by omega)),hlow _ (by omega)]
       . obtain⟨⟨z,hz,hv,ea,el⟩,hv2,hh⟩:=hms q hq;obtain⟨q0,q1,_,q3⟩:=hch.mem q.1 (am.mpr ⟨q,hq,rfl⟩);obtain⟨z0,z1,_,z3⟩:=c2.mem z hz;refine⟨by omega,by omega,λ_ i hi=>?_⟩;rw[out _ (.inl (by omega))];exact hh i hi
     . rw[be.mp hq];exact⟨by show 0<=A.g;omega,by show A.g+(T-A.g)<=_;omega,λh=>by cases h⟩
   . obtain⟨z,hz,rfl⟩:=am.mp hq;obtain⟨z0,z1,_,z3⟩:=c3.mem z hz;refine⟨by show 0<=z.a;omega,by show z.a+z.l<=_;omega,λ_ i hi=>?_⟩;have hi:(i:Int)<z.l:=hi;show (A6 _ _ _ _)[(z.a+i).toNat]?=cs[(z.a+i).toNat]?;rw[out _ (.inr (by omega)),hhigh _ (by omega)]
def hld(ps:List Pc):Int:=(plF ps).2.2
theorem QH(A:List Pc)(z:Pc):plF (A++[z])=stp (plF A) z:=by
 unfold plF;rw[bj];rfl
theorem Xg:∀(n:Nat) (ps:List Pc) (e:Int),ps.length=n->Ai 0 ps e ->
   (∀s∈(plF ps).1,∃A B,ps=A++B/\Ai 0 A s.1/\hld A=s.2)/\(∀t∈(plF ps).2.1,∃A B,ps=A++B/\Ai 0 A t.1/\hld A=t.2)
 | 0,ps,e,hn,c=>by
   have:ps=[]:=br.mp hn
   subst this
   refine⟨λs hs=>?_,λt ht=>by cases ht⟩
   have e1:s=(0,0):=by simpa [plF] using hs
   subst e1
   exact⟨[],[],rfl,rfl,rfl⟩
 | n+1,ps,e,hn,c=>by
   obtain⟨A,z,rfl⟩:∃A z,ps=A++[z]:=by
     have hne:ps≠[]:=λh=>by rw[h] at hn;cases hn
     exact⟨ps.dropLast,ps.getLast hne,(List.dropLast_concat_getLast hne).symm⟩
   have hcz:Ai 0 A z.a/\1<=z.l/\z.a+z.l=e:=by
     have key:∀(A:List Pc) (s:Int),Ai s (A++[z]) e->Ai s A z.a/\1<=z.l/\z.a+z.l=e:=by
       intro A
       induction A with
       | nil =>
         rintro s ⟨h1,h2,_,h4⟩;have h4:s+z.l=e:=h4;exact⟨h1.symm,h2,by omega⟩
       | cons y r ih =>
         rintro s ⟨h1,h2,h3,h4⟩;obtain⟨g1,g2,g3⟩:=ih _ h4;exact⟨⟨h1,h2,h3,g1⟩,g2,g3⟩
     exact key A 0 c
   obtain⟨cA,zl,ze⟩:=hcz;have hA:A.length=n:=by rw[π,aj] at hn;omega
   obtain⟨i1,i2⟩:=Xg n A z.a hA cA;rw[QH];unfold stp
   split
   . rename_i hv;refine⟨λs hs=>?_,λt ht=>?_⟩
     . rcases ρ.mp hs with h | h
       . obtain⟨A',B',e1,e2,e3⟩:=i1 s h;exact⟨A',B'++[z],by rw[e1,ak],e2,e3⟩
       . rw[be.mp h];refine⟨A++[z],[],by simp,by show Ai 0 (A++[z]) (z.a+z.l);rw[ze];exact c,?_⟩;show (plF (A++[z])).2.2=(plF A).2.2+z.l;rw[QH];unfold stp;rw[if_pos hv]
     . rcases ρ.mp ht with h | h
       . obtain⟨A',B',e1,e2,e3⟩:=i2 t h;exact⟨A',B'++[z],by rw[e1,ak],e2,e3⟩
       . rw[be.mp h];exact⟨A,[z],rfl,cA,rfl⟩
   . refine⟨λs hs=>?_,λt ht=>?_⟩
     . obtain⟨A',B',e1,e2,e3⟩:=i1 s hs;exact⟨A',B'++[z],by rw[e1,ak],e2,e3⟩
     . obtain⟨A',B',e1,e2,e3⟩:=i2 t ht;exact⟨A',B'++[z],by rw[e1,ak],e2,e3⟩
theorem N3:∀{A B:List Pc} {s e:Int},Ai s (A++B) e->∃m,Ai s A m/\Ai m B e
 | [],B,s,e,c=>⟨s,rfl,c⟩
 | z::r,B,s,e,c=>by
   obtain⟨h1,h2,h3,h4⟩:=c
   obtain⟨m,g1,g2⟩:=N3 h4
   exact⟨m,⟨h1,h2,h3,g1⟩,g2⟩
theorem N4{A:List Pc}:∀{s e e':Int},Ai s A e->Ai s A e'->e=e':=by
 induction A with
 | nil=>intro s e e' h1 h2;exact h1.symm.trans h2
 | cons z r ih=>rintro s e e' ⟨_,_,_,h1⟩ ⟨_,_,_,h2⟩;exact ih h1 h2
theorem eB:∀(B A:List Pc),hld (A++B)=hld A+(B.foldl (λh z=>if z.v=true then h+z.l else h) 0)
 | B,A=>by
   have key:∀(B A:List Pc) (k:Int),hld A+(B.foldl (λh z=>if z.v=true then h+z.l else h) k)=hld (A++B)+k:=by
     intro B
     induction B with
     | nil=>intro A k;simp
     | cons z r ih =>
       intro A k;rw[bi,show A++z::r=(A++[z])++r by simp];have:=ih (A++[z]) (if z.v=true then k+z.l else k);have e1:hld (A++[z])=hld A+(if z.v=true then z.l else 0):=by
         show (plF (A++[z])).2.2=(plF A).2.2+_;rw[QH];unfold stp
         split <;> simp
       rw[e1] at this
       split at this
       . rename_i hv;rw[if_pos hv];omega
       . rename_i hv;rw[if_neg hv];omega
   have:=key B A 0;omega
theorem u_g{S T:Int}:∀{ps:List Pc} {A:Uf} {e:Int},S<=e->Ai e ps T->(ps.foldl (BR S T) A).g=A.g+(ps.foldl (λh z=>if z.v=true then h+z.l else h) 0)
 | [],A,e,_,_=>by simp
 | z::r,A,e,hSe,c=>by
   obtain⟨ea,h1,h3,c2⟩:=c
   have hle:=c2.le
   rw[bi,u_g (by omega) c2,bi]
   have key:∀(r:List Pc) (k:Int),r.foldl (λh z=>if z.v=true then h+z.l else h) k=k+r.foldl (λh z=>if z.v=true then h+z.l else h) 0:=by
     intro r
     induction r with
     | nil=>intro k;simp
     | cons y r ih =>
       intro k;rw[bi,bi,ih (if y.v=true then k+y.l else k),ih (if y.v=true then 0+y.l else 0)]
       split <;> omega
   unfold BR;rw[if_neg (by omega)];by_cases hv:z.v=true
   . rw[if_pos ⟨by omega,hv⟩,if_pos hv,key r (0+z.l)];show A.g+z.l+_=_;omega
   . rw[if_neg (λh=>hv h.2),if_neg hv]
theorem eE{nd:Int}{ps:List Pc}{n m S T:Int}(c:Ai 0 ps n)(h:[m,S,T]∈plans nd ps n):∃A M B,ps=A++M++B/\Ai 0 A S/\Ai S M T/\Ai T B n/\nd<=T-S-m/\S<=T/\M.foldl (λh z=>if z.v=true then h+z.l else h) 0=m:=by
 unfold plans Cw at h;obtain⟨r,hr,hx⟩:=ot.mp h;obtain⟨s,hs,rfl⟩:=am.mp hr;obtain⟨t,ht,e⟩:=dk.mp hx;unfold pl1 at e
 split at e
 . rename_i hc;have e1:=ae e;simp only [oy.injEq,and_true] at e1;obtain⟨em,eS,eT⟩:=e1;obtain⟨p1,p2⟩:=Xg ps.length ps n rfl c;obtain⟨A,B1,f1,f2,f3⟩:=p1 s hs;have ht2:∃A B,ps=A++B/\Ai 0 A t.1/\hld A=t.2:=by
     rcases ρ.mp ht with h | h
     . exact p2 t h
     . rw[be.mp h];exact⟨ps,[],by simp,c,rfl⟩
   obtain⟨A2,B,g1,g2,g3⟩:=ht2;have hpre:∃M,A2=A++M:=by
     have heq:A++B1=A2++B:=f1.symm.trans g1;rcases List.append_eq_append_iff.mp heq with ⟨w,h1,h2⟩ | ⟨w,h1,h2⟩
     . exact⟨w,h1⟩
     . have hcA:=f2;rw[h1] at hcA;obtain⟨mm,k1,k2⟩:=N3 hcA;have em:=N4 k1 g2;subst em;have hl:=k2.le;have hw:w=[]:=br.mp (by omega);subst hw;exact⟨[],by rw[h1];simp⟩
   obtain⟨M,eM⟩:=hpre;rw[eM] at g1 g2 g3;obtain⟨mm,k1,k2⟩:=N3 g2;have emm:=N4 k1 f2;subst emm;have hcB:=c;rw[g1] at hcB;obtain⟨mb,b1,b2⟩:=N3 hcB;have emb:=N4 b1 g2;subst emb;have hh:=eB M A;refine⟨A,M,B,g1,by rw[<-eS];exact f2,by rw[<-eS,<-eT];exact k2,by rw[<-eT];exact b2,?_,?_,?_⟩
   . rw[<-em,<-eS,<-eT];exact hc.2
   . rw[<-eS,<-eT];exact hc.1
   . rw[<-em];omega
 . cases e
theorem eG{S T:Int}{A M B:List Pc}{n:Int}(c1:Ai 0 A S)(c2:Ai S M T)(c3:Ai T B n):(uF S T cs (A++M++B)).g=S+M.foldl (λh z=>if z.v=true then h+z.l else h) 0:=by
 have l2:=c2.le;unfold uF;rw[bj,bj,NZ (ps:=A) (λz hz=>by have:=c1.mem z hz;omega),N1 (ps:=B) (by omega) (λz hz=>by have:=c3.mem z hz;omega),u_g (ba _) c2]
section
variable {X:Cx}{pins:List (qH×Obj)}{σ:L2.St}{H:Hp}{s:qI}{A:qM}
theorem eI{a b:qH}{xs:List V}(I:Inv X pins σ H s)(ha:H a=some (.lst xs))(hb:H b=some (.lst xs))(hf:xs.all Bt=true):
   ∃its its2:List qG,s.heap.IsList a its.toArray/\s.heap.IsList b its2.toArray/\its.length=xs.length/\its2.length=xs.length /\
     ∀j (h1:j<its.toArray.size) (h2:j<its2.toArray.size),SeqAt.EqAt A s its.toArray[j] its2.toArray[j] true:=by
 obtain⟨its,r1,p1,_⟩:=I.list (SqL.of ha);obtain⟨its2,r2,p2,_⟩:=I.list (SqL.of hb);have l1:=r1.length;have l2:=r2.length;refine⟨its,its2,p1.isList,p2.isList,l1.symm,l2.symm,λj h1 h2=>?_⟩;rw[ν] at h1 h2;have hj:j<xs.length:=by omega
 obtain⟨u1,e1,q1⟩:=r1.get (i:=j) (x:=xs[j]) (by simp [hj]);obtain⟨u2,e2,q2⟩:=r2.get (i:=j) (x:=xs[j]) (by simp [hj]);obtain⟨g1,f1⟩:=δ.mp e1;obtain⟨g2,f2⟩:=δ.mp e2;have fl:Bt xs[j]=true:=dn.mp hf _ (az hj);have z:=Nv (A:=A) (s:=s) q1 q2 fl fl;rw[Wj fl,<-f1,<-f2] at z;simpa using z
theorem eJ(n:Nat):(fv n).all (λ_=>true)=true:=by simp
theorem eK{a b:qH}{xs:List V}(hu:A.units<rl)(I:Inv X pins σ H s)(ha:H a=some (.lst xs))(hb:H b=some (.lst xs))(hf:xs.all Bt=true):SeqAt.RcAt A s (.ref a) (.ref b) true:=by
 obtain⟨its,its2,p1,p2,l1,l2,he⟩:=eI (A:=A.in1) I ha hb hf;have key:=kg (e:=λ_=>true) p1 p2 (by rw[ν,ν];omega) hu he;rw[eJ] at key;exact key
end
section
variable {X:Cx}
end
theorem N5{n d:Nat}{k:Int}(h0:0<=k)(h:k<=n):HT.sIx n d (some k)=k.toNat:=by
 have:=HT.sIx_nat n d k.toNat;rw[ic h0] at this;rw[this];omega
theorem eN{ns:List Int}{k:Int}(h0:0<=k)(h:k<=ns.length):tW ns none (some k)=ns.take k.toNat:=by
 unfold tW;rw[N5 h0 h,HT.sIx_none];rfl
theorem eO{ns:List Int}{k:Int}(h0:0<=k)(h:k<=ns.length):tW ns (some k) none=ns.drop k.toNat:=by
 unfold tW;rw[N5 h0 h,HT.sIx_none];exact af (by rw[fe];omega)
theorem eU{ns:List Int}{k l:Int}(h0:0<=k)(h1:0<=l)(h:k+l<=ns.length):tW ns (some k) (some (k+l))=(ns.drop k.toNat).take l.toNat:=by
 unfold tW;rw[N5 h0 (by omega),N5 (by omega) h,show (k+l).toNat-k.toNat=l.toNat by omega]
theorem N6{ps:List Pc}{s e p:Int}{y z:Pc}(c:Ai s ps e)(hy:y∈ps)(hz:z∈ps)(h1:y.a<=p)(h2:p<y.a+y.l)(h3:z.a<=p)(h4:p<z.a+z.l):y=z:=by
 obtain⟨i,hi⟩:=aq hy;obtain⟨j,hj⟩:=aq hz;rcases nw i j with g | g | g
 . exfalso;obtain⟨ds,rs,e1,e2,c1,c2⟩:=Cc c hj;subst e1 e2;rw[ο (by omega)] at hi;have:=(c1.mem y (Δ hi)).2.2.2;omega
 . subst g;exact ae (hi.symm.trans hj)
 . exfalso;obtain⟨ds,rs,e1,e2,c1,c2⟩:=Cc c hi;subst e1 e2;rw[ο (by omega)] at hj;have:=(c1.mem z (Δ hj)).2.2.2;omega
def ct1(s L:Int)(p:Pc):List Pc:=if p.v=true\/s<p.a\/p.a+p.l<=s then [p] else (if p.a<s then [⟨p.a,s-p.a,false⟩] else [])++[⟨s,L,true⟩]++(if s+L<p.a+p.l then [⟨s+L,p.a+p.l-s-L,false⟩] else [])
def tY(ps:List Pc)(s L:Int):List Pc:=(ps.map (ct1 s L)).flatten
theorem Xh{A:List Pc}{s L:Int}(h:∀p∈A,s<p.a\/p.a+p.l<=s):tY A s L=A:=by
 induction A with
 | nil=>rfl
 | cons p r ih =>
   have e:tY (p::r) s L=ct1 s L p++tY r s L:=rfl;rw[e,ih λq hq=>h q (.tail _ hq)];unfold ct1;rw[if_pos (.inr (h p (.head _)))];rfl
theorem eV(A B:List Pc)(s L:Int):tY (A++B) s L=tY A s L++tY B s L:=by unfold tY;rw[ψ,jg]
theorem Xi{ds rs:List Pc}{z:Pc}{s L n:Int}(c:Ai 0 (ds++z::rs) n)(hv:z.v=false)(hL:1<=L)(h1:z.a<=s)(h2:s+L<=z.a+z.l):tY (ds++z::rs) s L=uo ds rs z.a z.l s L:=by
 obtain⟨ds',rs',e1,e2,c1,c2⟩:=Cc c (bX ds rs z);have e3:ds'=ds/\rs'=rs:=by
   have:=pe e1 e2.symm;exact⟨this.1.symm,by have:=this.2;injection this with _ h;exact h.symm⟩
 obtain⟨rfl,rfl⟩:=e3;have e:tY (ds'++z::rs') s L=tY ds' s L++(ct1 s L z++tY rs' s L):=by rw[eV];rfl
 rw[e,Xh λp hp=>?_,Xh λp hp=>?_]
 . unfold ct1 uo fr;rw[if_neg (by rw[hv];simp;omega)];have x1:(if z.a<s then [(⟨z.a,s-z.a,false⟩:Pc)] else [])=if z.a=s then [] else [⟨z.a,s-z.a,false⟩]:=by
     by_cases h:z.a=s
     . rw[if_neg (by omega),if_pos h]
     . rw[if_pos (by omega),if_neg h]
   have x2:(if s+L<z.a+z.l then [(⟨s+L,z.a+z.l-s-L,false⟩:Pc)] else [])=if s+L=z.a+z.l then [] else [⟨s+L,z.a+z.l-(s+L),false⟩]:=by
     by_cases h:s+L=z.a+z.l
     . rw[if_neg (by omega),if_pos h]
     . rw[if_pos (by omega),if_neg h,show z.a+z.l-s-L=z.a+z.l-(s+L) by omega]
   rw[x1,x2];simp
 . have:=(c2.fromOn) p hp;omega
 . have:=(c1.endBy (ba 0)) p hp;omega
theorem eW{ds rs:List Pc}{z:Pc}{s L:Int}(na:AI (ds++z::rs))(hv:z.v=false):AI (uo ds rs z.a z.l s L):=by
 have hd:AI ds:=na.left;have hr:AI rs:=AI.right (X:=[z]) na.right;have lastd:∀x,ds.getLast?=some x->x.v=true:=λx hx=>by
   rcases na.mid hx (y:=z) rfl with h | h
   . exact h
   . rw[hv] at h;cases h
 have firstr:∀y,rs[0]?=some y->y.v=true:=λy hy=>by
   rcases(na.right).mid (X:=[z]) (Y:=rs) (x:=z) rfl hy with h | h
   . rw[hv] at h;cases h
   . exact h
 have hf:∀b e,AI (fr b e):=λb e=>by
   unfold fr
   split
   . exact dO
   . exact IA _
 have frl:∀b e x,(fr b e).getLast?=some x->x.v=false:=λb e x hx=>by
   unfold fr at hx
   split at hx
   . simp at hx
   . have:(⟨b,e-b,false⟩:Pc)=x:=by simpa using hx
     rw[<-this]
 unfold uo;refine hd.app ((hf _ _).app (AI.app (X:=[⟨s,L,true⟩]) (IA _) ((hf _ _).app hr λx y hx hy=>.inr (firstr y hy)) λx y hx hy=>.inl ?_) λx y hx hy=>.inr ?_) λx y hx hy=>.inl (lastd x hx)
 . have:(⟨s,L,true⟩:Pc)=x:=by simpa using hx
   rw[<-this]
 . have:(⟨s,L,true⟩:Pc)=y:=by simpa using hy
   rw[<-this]
theorem eX{s g c j:Nat}(h1:s+c<=cs.length)(h2:g+c<=cs.length)(h:j<g\/g+c<=j):(tK cs s g c)[j]?=cs[j]?:=by
 unfold tK;have l1:(cs.take g).length=g:=by rw[ag];omega
 have l2:((cs.drop s).take c).length=c:=by rw[ag,fe];omega
 rcases h with h | h
 . rw[ak,ο (by omega),List.getElem?_take,if_pos h]
 . rw[θ (by rw[π];omega),π,l1,l2,ij,show g+c+(j-(g+c))=j by omega]
theorem eY{ps:List Pc}{z:Pc}{s c n:Nat}(hc:Ai 0 ps n)(hn:cs.length=n)(m:AH cs ps)(hz:z∈ps)(hv:z.v=true)(h1:s+c<=n)(h2:(c:Int)<=z.l-2):AH (tK cs s (z.a+1).toNat c) ps:=λp hp=>by
 obtain⟨z0,z1,z3,z4⟩:=hc.mem z hz;have z3:=z3 hv;obtain⟨p0,p1,p3,p4⟩:=hc.mem p hp;obtain⟨m1,m2⟩:=m p hp;have h2':(z.a+1).toNat+c<=cs.length:=by omega
 have out:∀j:Int,0<=j->(j<=z.a\/z.a+z.l-1<=j)->(tK cs s (z.a+1).toNat c)[j.toNat]?=cs[j.toNat]?:=λj j0 hj=>eX (by omega) h2' (by omega);by_cases e:p=z
 . subst e;exact⟨by rw[out _ p0 (.inl (ba _))];exact m1,by rw[out _ (by omega) (.inr (ba _))];exact m2⟩
 . have far:p.a+p.l<=z.a\/z.a+z.l<=p.a:=by
     rcases oa p.a z.a with h | h
     . left;rcases oa z.a (p.a+p.l) with g | g
       . exact absurd (N6 hc hp hz (Int.le_of_lt h) g (ba _) (by omega)) e
       . exact g
     . right;rcases oa p.a (z.a+z.l) with g | g
       . exact absurd (N6 hc hp hz (ba _) (by omega) h g) e
       . exact g
   exact⟨by rw[out _ p0 (by omega)];exact m1,by rw[out _ (by omega) (by omega)];exact m2⟩
section
variable {X:Cx}{e:qN}{t:TX}{epos:Pos}
end
inductive W4
 | first | best | next | likes
def cF(C1 C2 C3 C4:qH):W4->qH
 | .first=>C1
 | .best=>C2
 | .next=>C3
 | .likes=>C4
def fsF:W4->qH->Int->List (Str×V)
 | .next,a,r=>[("room_cells",.ref a),("room_rover",.int r)]
 | .first,a,_=>[("room_cells",.ref a)]
 | .best,a,_=>[("room_cells",.ref a)]
 | .likes,a,_=>[("room_cells",.ref a)]
theorem fsF_cells{i:W4}{a:qH}{r:Int}:(fsF i a r).lookup ("room_cells":Str)=some (.ref a):=by cases i <;> rfl
theorem fsF_few{i:W4}{a:qH}{r:Int}:(fsF i a r).length<1000:=by cases i <;> (simp only [fsF,au,gb];omega)
theorem fsF_none{i:W4}{a:qH}{r:Int}{m:Str}(h1:(m==("room_cells":Str))=false)(h2:(m==("room_rover":Str))=false):(fsF i a r).lookup m=none:=by
 cases i <;> simp only [fsF,gp,h1,h2]
theorem JE{i:W4}{a b:qH}{r:Int}:putF ("room_cells":Str) (.ref b) (fsF i a r)=fsF i b r:=by cases i <;> rfl
theorem tV{C1 C2 C3 C4:qH}{Q:qH->Prop}(h1:Q C1)(h2:Q C2)(h3:Q C3)(h4:Q C4):∀i,Q (cF C1 C2 C3 C4 i):=λi=>by
 cases i
 . exact h1
 . exact h2
 . exact h3
 . exact h4
def DE(P:qK)(w:qL)(K:γ)(mg:Str->Option qG)(base:rB)(ok:W4->Prop)(C:W4->qH)(m:Str)(j:Nat)(ps:List Str)(dvs:List V)(sp:W4->Sp):Prop:=∀i,ok i->Methx P w K mg base (C i) m j ps dvs (sp i)
def AS(P:qK)(w:qL)(K:γ)(mg:Str->Option qG)(base:rB)(C:W4->qH)(m:Str)(j:Nat)(ps:List Str)(dvs:List V)(sp:W4->Sp):Prop:=∀i,Methx P w K mg base (C i) m j ps dvs (sp i)
structure MethFD(P:qK)(w:qL)(K:γ)(mg:Str->Option qG)(base:rB)(C:W4->qH)(m:Str)(j:Nat)(ps:List Str)(dvs:List V)(sp:W4->Sp):Prop where
 all:AS P w K mg base C m j ps [] sp
 less:AS P w K mg base C m j ps dvs sp
section
variable {P:qK}{w:qL}{K:γ}{mg:Str->Option qG}{base:rB}{C:W4->qH}{m:Str}{j k:Nat}{ps:List Str}{dvs:List V}{sp:W4->Sp}{ok ok':W4->Prop}{f:qH}{fd:qJ}{ds:List qG}
theorem DE.made(F:FnOk P w K mg base (CXe P w) j f fd ps (λvs H Q E=>∃i,ok i/\sp i vs H Q E))(M:∀i,ok i->tF K (C i) m f)(b:By K fd ps [])(c:∀i,Cls K (C i)):DE P w K mg base ok C m j ps [] sp :=
 λi hi=>⟨⟨f,fd,[],F.imp λ_ _ _ _ h=>⟨i,hi,h⟩,M i hi,b,.nil⟩,c i⟩
theorem AS.made(F:FnOk P w K mg base (CXe P w) j f fd ps (λvs H Q E=>∃i,sp i vs H Q E))(M:∀i,tF K (C i) m f)(b:By K fd ps [])(c:∀i,Cls K (C i)):AS P w K mg base C m j ps [] sp :=
 λi=>⟨⟨f,fd,[],F.imp λ_ _ _ _ h=>⟨i,h⟩,M i,b,.nil⟩,c i⟩
theorem MethFD.made(F:FnOk P w K mg base (CXe P w) j f fd ps (λvs H Q E=>∃i,sp i vs H Q E))(M:∀i,tF K (C i) m f)(b:By K fd ps [])(b':By K fd ps ds)(v:Vals dvs ds)(c:∀i,Cls K (C i)):MethFD P w K mg base C m j ps dvs sp :=
 ⟨λi=>⟨⟨f,fd,[],F.imp λ_ _ _ _ h=>⟨i,h⟩,M i,b,.nil⟩,c i⟩,λi=>⟨⟨f,fd,ds,F.imp λ_ _ _ _ h=>⟨i,h⟩,M i,b',v⟩,c i⟩⟩
theorem Methx.up{C₀:qH}{sp₀:Sp}(D:Methx P w K mg base C₀ m j ps dvs sp₀)(h:j<=k):Methx P w K mg base C₀ m k ps dvs sp₀:=by
 obtain⟨f,fd,ds,F,M,b,v⟩:=D.ex;exact⟨⟨f,fd,ds,F.mono h,M,b,v⟩,D.cl⟩
theorem Xj{j1 j2:Nat}(D1:DE P w K mg base ok C m j1 ps dvs sp)(D2:DE P w K mg base ok' C m j2 ps dvs sp)(h1:j1<=k)(h2:j2<=k)(h:∀i,ok i\/ok' i):AS P w K mg base C m k ps dvs sp:=λi=>by
 rcases h i with h | h
 . exact(D1 i h).up h1
 . exact(D2 i h).up h2
theorem eZ{C1 C2 C3 C4:qH}{j1 j2 j3 j4:Nat}(D1:Methx P w K mg base C1 m j1 ps dvs (sp .first))(D2:Methx P w K mg base C2 m j2 ps dvs (sp .best))(D3:Methx P w K mg base C3 m j3 ps dvs (sp .next))(D4:Methx P w K mg base C4 m j4 ps dvs (sp .likes))
   (h1:j1<=k) (h2:j2<=k) (h3:j3<=k) (h4:j4<=k):AS P w K mg base (cF C1 C2 C3 C4) m k ps dvs sp:=λi=>by
 cases i
 . exact D1.up h1
 . exact D2.up h2
 . exact D3.up h3
 . exact D4.up h4
end
def JF(C:W4->qH)(m:Str)(sp:W4->Sp)(dvs:List V)(E:XK)(ta:TE)(t:TA):TE:=λσ H Q=>ta σ H λx H1=>∃i a dx fs,x = .ref a/\H1 a=some (.ins (C i) dx fs)/\fs.lookup m=none/\t σ H1 λvs H2=>sp i (x::(vs++dvs)) H2 Q E
def Xk(C:W4->qH)(m:Str)(sp:W4->Sp)(dvs:List V)(to:TE)(ta:TA):TX:=λσ H QV EX=>to σ H λx H1=>∃i a dx fs,x = .ref a/\H1 a=some (.ins (C i) dx fs)/\fs.lookup m=none/\ta σ H1 λvs H2=>sp i (x::(vs++dvs)) H2 QV EX
section
variable {X:Cx}{j k:Nat}{C:W4->qH}{ps:List Str}{sp:W4->Sp}{dvs:List V}{m:Str}{pos apos:Pos}{e o:qN}{es:List qN}{to:TE}{t:TA}{E:XK}
theorem Cd[Calm X]{pl:rq Bool}(D:AS X.prog X.w X.K X.mg X.base C m j ps dvs sp)(hx:Ct (CXe X.prog X.w) X E)(hr:Room k X.A)(ho:PE X o to)(ha:PA X (e::es) t)(hk:j<=k:=by decide)
   (hst:qR (e::es) X.env=(false,rh e X.env)::qR es X.env:=by rfl) (hpl:(qY pos (qR es X.env)).any (·.1)=false:=by rfl)
   (ht:rh (.Call (.Attribute o m apos) (e::es) [] pos) X.env=(do
     let ov <-rh o X.env
     standAt apos.atName
     let (f,first) <-holding [ov] (getMethod ov m pl)
     rf pos f first (qY pos (qR (e::es) X.env)) (backToKw pos (keywordEach [] X.env))):=by rfl):
   PE X (.Call (.Attribute o m apos) (e::es) [] pos) (JF C m sp dvs E to t):=by
 intro pins s σ H Q I h;refine methodCall_KW (pl:=pl) (thn (ho pins s σ H _ I h) λu s1 ⟨x,H1,I1,rx,i,a,dx,fs,ex,ea,l,q⟩=>?_) ht;subst ex;obtain rfl:u=Value.ref a:=rx;obtain⟨f,fd,ds,F,hm,hb,hd⟩:=(D i).ex;refine E9 I1 ea (D i).cl hm l ?_;refine callWith_K (first:=[.ref a]) (h₀:=X.base) I.ok.mod.kin hm.kp (thn (ha pos pins s1 σ H1 _ I1 q) λus s2 ⟨vs,H2,I2,r,q2⟩=>⟨I2.kIn,?_⟩) hst hpl;exact Ig (us:=.ref a::us) (vs:=.ref a::vs) F (hr.mono hk) hb hd hx I2 (.cons rfl r) q2
theorem QI[Calm X]{pl:rq Bool}(D:AS X.prog X.w X.K X.mg X.base C m j ps dvs sp)(hx:Ct (CXe X.prog X.w) X E)(hr:Room k X.A)(ho:PE X o to)(hk:j<=k:=by decide)
   (ht:rh (.Call (.Attribute o m apos) [] [] pos) X.env=(do
     let ov <-rh o X.env
     standAt apos.atName
     let (f,first) <-holding [ov] (getMethod ov m pl)
     rf pos f first (qY pos (qR [] X.env)) (backToKw pos (keywordEach [] X.env))):=by rfl):
   PE X (.Call (.Attribute o m apos) [] [] pos) (JF C m sp dvs E to ur):=by
 intro pins s σ H Q I h;refine methodCall_KW (pl:=pl) (thn (ho pins s σ H _ I h) λu s1 ⟨x,H1,I1,rx,i,a,dx,fs,ex,ea,l,q⟩=>?_) ht;subst ex;obtain rfl:u=Value.ref a:=rx;obtain⟨f,fd,ds,F,hm,hb,hd⟩:=(D i).ex;refine E9 I1 ea (D i).cl hm l ?_;exact callWith_K0 (first:=[.ref a]) I1.kIn hm.kp (Ig (us:=[.ref a]) (vs:=[.ref a]) F (hr.mono hk) hb hd hx I1 (.cons rfl .nil) q)
theorem fA[Calm X]{pl:rq Bool}(D:AS X.prog X.w X.K X.mg X.base C m j ps dvs sp)(hr:Room k X.A)(ho:PE X.nox o to)(ha:PA X.nox (e::es) t)(hk:j<=k:=by decide)
   (hst:qR (e::es) X.env=(false,rh e X.env)::qR es X.env:=by rfl) (hpl:(qY pos (qR es X.env)).any (·.1)=false:=by rfl)
   (ht:rh (.Call (.Attribute o m apos) (e::es) [] pos) X.env=(do
     let ov <-rh o X.env
     standAt apos.atName
     let (f,first) <-holding [ov] (getMethod ov m pl)
     rf pos f first (qY pos (qR (e::es) X.env)) (backToKw pos (keywordEach [] X.env))):=by rfl):
   PX X (.Call (.Attribute o m apos) (e::es) [] pos) (Xk C m sp dvs to t):=by
 intro pins s σ H QV EX Qp W I h hv hx;refine methodCall_KW (pl:=pl) (qW (ho pins s σ H _ (I.wish _) h) (λu s1 ⟨x,H1,I1',rx,i,a,dx,fs,ex,ea,l,q⟩=>?_) (λ_ _ z=>z.elim)) ht;have I1:=I1'.unwish;subst ex;obtain rfl:u=Value.ref a:=rx;obtain⟨f,fd,ds,F,hm,hb,hd⟩:=(D i).ex;refine E9 I1 ea (D i).cl hm l ?_;refine callWith_K (first:=[.ref a]) (h₀:=X.base) I.ok.mod.kin hm.kp (qW (ha pos pins s1 σ H1 _ (I1.wish _) q) (λus s2 ⟨vs,H2,I2',r,q2⟩=>?_) (λ_ _ z=>z.elim)) hst hpl;have I2:=I2'.unwish;exact⟨I2.kIn,NF (us:=.ref a::us) (vs:=.ref a::vs) F (hr.mono hk) hb hd I2 (.cons rfl r) q2 hv λy s' hq=>hx H2 s2 y s' I2 hq⟩
end
section
variable {K:γ}{σ:L2.St}{H:Hp}{Q:VK}{EX:XK}{C:W4->qH}{m:Str}{sp:W4->Sp}{E:XK}{ta:TE}{t:TA}{dvs:List V}
theorem r_methF(h:ta σ H λx H1=>∃i a dx fs,x = .ref a/\H1 a=some (.ins (C i) dx fs)/\fs.lookup m=none/\t σ H1 λvs H2=>sp i (x::vs) H2 Q E):JF C m sp [] E ta t σ H Q:=by
 unfold JF;simp only [bg];exact h
theorem r_methFD(h:ta σ H λx H1=>∃i a dx fs,x = .ref a/\H1 a=some (.ins (C i) dx fs)/\fs.lookup m=none/\t σ H1 λvs H2=>sp i (x::(vs++dvs)) H2 Q E):JF C m sp dvs E ta t σ H Q:=h
theorem r_xMethFD(h:ta σ H λx H1=>∃i a dx fs,x = .ref a/\H1 a=some (.ins (C i) dx fs)/\fs.lookup m=none/\t σ H1 λvs H2=>sp i (x::(vs++dvs)) H2 Q EX):Xk C m sp dvs ta t σ H Q EX:=h
theorem r_matF{a dx:qH}{i:W4}{fs:List (Str×V)}{R:W4->Prop}(h:H a=some (.ins (C i) dx fs))(l:fs.lookup m=none)(q:R i):
   ∃i' a' dx' fs',V.ref a=V.ref a'/\H a'=some (.ins (C i') dx' fs')/\fs'.lookup m=none/\R i':=⟨i,a,dx,fs,rfl,h,l,q⟩
end
theorem decS{i j:Str}:decide (V.str i=V.str j)=decide (i=j):=by
 rw[P0,gq];simp
section
variable {H:Hp}{Q:VK}
theorem r_eqSS{i:Str}(h:Q (.bl true) H):rEq (.str i) (.str i) H Q:=⟨rfl,by rw[decide_eq_true rfl];exact h⟩
theorem r_neSS{i:Str}(h:Q (.bl false) H):rNe (.str i) (.str i) H Q:=⟨rfl,by rw[decide_eq_true rfl];exact h⟩
theorem r_eqSt{i j:Str}(h:Q (.bl (decide (i=j))) H):rEq (.str i) (.str j) H Q:=⟨rfl,by rw[decS];exact h⟩
theorem r_neSt{i j:Str}(h:Q (.bl (!decide (i=j))) H):rNe (.str i) (.str j) H Q:=⟨rfl,by rw[decS];exact h⟩
end
def rCatS:V->V->Hp->VK->Prop:=λx y H Q=>∃i j:Str,x = .str i/\y = .str j/\i.length+j.length<=qT/\Q (.str (i++j)) H
theorem Xl{X:Cx}:OpR X (binaryOp .Add) rCatS:=by
 intro pins s σ H x y v u Q I rx ry h;obtain⟨i,j,rfl,rfl,hz,q⟩:=h;obtain⟨t,rfl⟩:=rx;obtain⟨t',rfl⟩:=ry;exact SB.add (λt'' k=>⟨.str _,H,I.tok k,⟨_,rfl⟩,q⟩) hz
def rUp:V->List V->Hp->VK->Prop:=λx xs H Q=>∃i:Str,x = .str i/\xs=[]/\Builtin.Str.tooLong (Txt.upper i).length=false/\Q (.str (Txt.upper i)) H
theorem fB{X:Cx}:MtM X "str.upper" rUp:=by
 intro pins s σ H x xs v us Q I rx rs h;obtain⟨i,rfl,rfl,hf,q⟩:=h;obtain⟨t,rfl⟩:=rx;have e:=rs.zero;subst e;exact PySem.W.KXw.upper rfl hf λt' k=>⟨.str _,H,I.tok k,⟨_,rfl⟩,q⟩
section
variable {X:Cx}{pins:List (qH×Obj)}{σ:L2.St}{H:Hp}{s:qI}{A:qM}
end
section
variable {X:Cx}
end
def DAt(h:rB)(d:qH)(es:Array DictEntry)(ep:Nat):Prop:=∃o,h.get? d=some o/\o.ExactDict/\o.data = .dict es ep
section
variable {P:qK}{w:qL}{A:qM}{E:qG->qI->Prop}{s:qI}{d it:qH}{es:Array DictEntry}{ep i:Nat}
theorem DAt.ty(m:DAt s.heap d es ep):s.TypeIs (.ref d) "dict":=let ⟨o,h1,h2,_⟩:=m;⟨o,h1,h2.1⟩
theorem DAt.keep{h h':rB}(m:DAt h d es ep)(k:∀o,h.get? d=some o->h'.get? d=some o):DAt h' d es ep:=let ⟨o,h1,r⟩:=m;⟨o,k o h1,r⟩
theorem DAt.lt{h:rB}(m:DAt h d es ep):d<h.objs.size:=let ⟨_,h1,_⟩:=m;ξ h1
theorem it_dT{Q:qG->qI->Prop}(ns:(d==sysModules)=false)(m:DAt s.heap d es ep)
   (q:Q (.ref s.heap.objs.size) { s with heap:=s.heap.push { cls:=.type "dict_keyiterator",data:=.fields #[.ref d,.int 0 0,.int es.size 0,.int ep 0] } }):qX (rj P w) A (pyIter (.ref d)) Q E s:=by
 have T:=m.ty;obtain⟨o,g1,g2,g3⟩:=m;refine wpAny_pyIter_slot T F.slot_dict_iter (wpAny_call_entry F.slot_dict_iter T F.entry_dict_iter ?_ (F.args_dict_iter_1 _));unfold Builtin.«dict.__iter__» Builtin.Dict.dictSlotNone;refine qU (qU (wpAny_notOrdered_dict T ?_));refine qV (show qX _ _ (Builtin.Dict.showsAll d >>= _) _ _ s from ?_);unfold Builtin.Dict.showsAll;rw[ns,if_neg η];refine qU (qV (qU (wpAny_dictEntries g1 g3 (qU (wpAny_dictEpoch g1 g3 ?_)))));refine qU (wpAny_newObj_type (qV ⟨_,rfl,_,_,⟨_,Ω _ rfl,rfl⟩,F.slot_dict_keyiterator_next.lookup,?_⟩));simpa [rawInt] using q
theorem fC{Q:Option qG->qI->Prop}(st:s.heap.IsKeyIter it d i es.size ep)(m:DAt s.heap d es ep)(hi:i<es.size)
   (q:∀h',h'.IsKeyIter it d (i+1) es.size ep->bu it s.heap h'->Q (some es[i].key) { s with heap:=h' }):qX (rj P w) A (pyNext (.ref it)) Q E s:=by
 have T:=st.typeIs;obtain⟨o,h1,h2,h3⟩:=id st;obtain⟨od,g1,g2,g3⟩:=m;unfold pyNext;refine qU (wpAny_attempt (wpAny_callSpecial?_slot (name:=av "__next__") T F.slot_dict_keyiterator_next (wpAny_call_entry F.slot_dict_keyiterator_next T F.entry_dict_keyiterator_next ?_ (F.args_dict_keyiterator_next_1 _))));refine qU (qV (qU (qU ?_)))
 first | refine qU (wpAny_typeNameOfWhole_keyiter T (qV ?_)) | refine qU (wpAny_typeNameOf_keyiter T (qV ?_))
 refine qU (wpAny_fieldsOf h1 h3 ?_);rw[show Builtin.Dict_items.ownsTuple "dict_keyiterator"=false by decide];simp only [bq,if_false];refine show qX _ _ (if (Value.ref d==Value.none)=true then _ else _) _ _ s from ?_;rw[if_neg (by exact η)];refine qU (qV (qU (wpAny_dictEntries g1 g3 ?_)));rw[if_neg (by simp)];refine qU (qV (qU (wpAny_dictEpoch g1 g3 ?_)));rw[if_neg (by simp)];refine qV ?_;simp only [if_neg (show ¬(i:Int)<0 by omega),dr,cy hi];refine qU ?_
 first | refine qU (wpAny_typeNameOfWhole_keyiter T (qV ?_)) | refine qU (wpAny_typeNameOf_keyiter T (qV ?_))
 refine qU (wpAny_isOneOf_keyiter T (show qX _ _ (setField (.ref it) 1 (rawInt ((i:Int)+1)) >>= _) _ _ s from qU (wpAny_setField h1 h3 (by simp) ?_)));generalize eh:s.heap.update it (ie (·.setIfInBounds 1 (rawInt ((i:Int)+1))))=h';have st':h'.IsKeyIter it d (i+1) es.size ep:=by
   rw[<-eh];exact⟨_,bb _ h1 (fb (bx h3 _)),(jx ..).trans h2,by rw[bx h3];simp [rawInt]⟩
 have sb:bu it s.heap h':=by rw[<-eh];exact bu.update ..
 refine qU (wpAny_holding (qU (wpAny_isOneOf_keyiter (s:={ s with heap:=h' }) st'.typeIs ?_)));exact show qX _ _ (pure es[i].key) _ _ _ from qV (qV ⟨_,rfl,qV (q _ st' sb)⟩)
theorem fD{Q:Option qG->qI->Prop}(hd:HH.Hd A s.heap)(st:s.heap.IsKeyIter it d i es.size ep)(m:DAt s.heap d es ep)(hi:es.size<=i)
   (q:∀h',gc it s.heap h'->Q none { s with heap:=h' }):qX (rj P w) A (pyNext (.ref it)) Q E s:=by
 have T:=st.typeIs;obtain⟨o,h1,h2,h3⟩:=id st;obtain⟨od,g1,g2,g3⟩:=m;unfold pyNext;refine qU (wpAny_attempt (wpAny_callSpecial?_slot (name:=av "__next__") T F.slot_dict_keyiterator_next (wpAny_call_entry F.slot_dict_keyiterator_next T F.entry_dict_keyiterator_next ?_ (F.args_dict_keyiterator_next_1 _))));refine qU (qV (qU (qU ?_)))
 first | refine qU (wpAny_typeNameOfWhole_keyiter T (qV ?_)) | refine qU (wpAny_typeNameOf_keyiter T (qV ?_))
 refine qU (wpAny_fieldsOf h1 h3 ?_);rw[show Builtin.Dict_items.ownsTuple "dict_keyiterator"=false by decide];simp only [bq,if_false];refine show qX _ _ (if (Value.ref d==Value.none)=true then _ else _) _ _ s from ?_;rw[if_neg (by exact η)];refine qU (qV (qU (wpAny_dictEntries g1 g3 ?_)));rw[if_neg (by simp)];refine qU (qV (qU (wpAny_dictEpoch g1 g3 ?_)));rw[if_neg (by simp)];refine qV ?_;simp only [if_neg (show ¬(i:Int)<0 by omega),dr,kt hi];refine qU ?_
 first | refine qU (wpAny_typeNameOfWhole_keyiter T (qV ?_)) | refine qU (wpAny_typeNameOf_keyiter T (qV ?_))
 refine show qX _ _ (setField (.ref it) 0 .none >>= _) _ _ s from qU (wpAny_setField h1 h3 (by simp) ?_);refine show qX _ _ (Builtin.SmallTypes.stopIteration) _ _ _ from HH.stopAny ((hd.in1).but h1 h3 (λc z=>by
   have z:some (Value.int (es.size:Int) 0)=some c:=z;cases z;exact⟨λh=>(nomatch h),λb h=>(nomatch h)⟩) (bu.update ..).extBut) λh' e kp ⟨o',e1,e2⟩=>?_
 refine qU (wpAny_isInstance (b:=true) (T:="StopIteration") ⟨_,e1,e2⟩ isSubtype_stop ?_);exact qV (q _ λb o' hb e=>kp b o' ((bu.update ..).extBut b o' hb e))
end
end Stow
namespace HH
open PySem L2 PyProof.Rows Stow
section
variable {P:qK}{w:qL}{A:qM}{E:qG->qI->Prop}{s:qI}{d:qH}{es:Array DictEntry}{ep:Nat}
theorem fE{cs:List (qH×Obj)}(I:qH)(ne:d≠I):Walks P w A I (I::d::cs.map (·.1)) [I] es.size (λi v=>∃hi:i<es.size,v=es[i].key) (λi h=>h.IsKeyIter I d i es.size ep/\DAt h d es ep/\HL A cs/\(A.handled=none->cs=[])/\Stand h cs) where
 sub:=λb hb=>by simp at hb;simp [hb]
 frame:=λ_ _ _ st k=>⟨st.1.at λo e=>k I (by simp) o e,st.2.1.keep λo e=>k d (by simp) o e,st.2.2.1,st.2.2.2.1,st.2.2.2.2.keep λq hq e=>k q.1 (ι _ (ι _ (jf hq))) _ e⟩
 item:=λi s Q E hi st q=>fC st.1 st.2.1 hi λh' st' sb=>q _ h' s.toks ⟨hi,rfl⟩ ⟨st',st.2.1.keep λo e=>sb.extBut d o ne e,st.2.2.1,st.2.2.2.1,by
   obtain⟨o,h1,h2,h3⟩:=st.1
   exact PR st.2.2.1 st.2.2.2.1 st.2.2.2.2 h1 h3 (λc z=>by
     have z:some (Value.int (es.size:Int) 0)=some c:=z
     cases z
     exact⟨λh=>(nomatch h),λb h=>(nomatch h)⟩) sb.extBut⟩ λb o hb e=>sb.extBut b o (λz=>hb (by simp [z])) e
 done:=λs Q E st q=>fD ⟨cs,st.2.2⟩ st.1 st.2.1 (Θ _) λh' eb=>q h' s.toks λb o hb e=>eb b o (λz=>hb (by simp [z])) e
 self:=λ_ _ _ _ st q=>wpAny_pyIter_keyiter st.1 q
theorem collectD{R:List qG->qI->Prop}(hd:Hd A s.heap)(lo:(d==sysModules)=false)(m:DAt s.heap d es ep)(hz:es.size<=qT)
   (k:∀(h':rB) (tk:Nat) (acc:Array qG),(∀b o,s.heap.get? b=some o->h'.get? b=some o)->ItemsOf (λi v=>∃hi:i<es.size,v=es[i].key) acc es.size->R acc.toList { s with heap:=h',toks:=tk }):
   qX (rj P w) A (collect (.ref d)) R E s:=by
 obtain⟨cs,hl,hn,st⟩:=hd;have hdl:d<s.heap.objs.size:=m.lt;unfold collect;refine qU (wpAny_runValue (codeAny_builtin PySem.F.entry_proto_collect ?_));rw[Around.under_plainId PySem.F.plain_proto_collect _];refine show qX _ A.in1 (newList [] >>= λl=>again (.builtin "list.__iadd__" ⟨[l,.ref d],[]⟩)) _ _ s from qU (wpAny_newObj_type ?_);refine qV ⟨plainId_quiet kh _,codeAny_builtin PySem.F.entry_list_iadd ?_⟩;rw[Around.under_plainId kh _];have gS:(s.heap.push { cls:=.type "list",data:=.seq ([]:List qG).toArray }).get? s.heap.objs.size=some { cls:=.type "list",data:=.seq #[] }:=Ω _ rfl;have kG:∀b o,s.heap.get? b=some o->(s.heap.push { cls:=.type "list",data:=.seq ([]:List qG).toArray }).get? b=some o:=λb o e=>ζ _ e;have hG:(s.heap.push { cls:=.type "list",data:=.seq ([]:List qG).toArray }).objs.size=s.heap.objs.size+1:=bo ..;refine show qX _ A.in1 (Builtin.List.listExtendWith (.ref s.heap.objs.size) (.ref d) (.ref s.heap.objs.size)) _ _ { s with heap:=s.heap.push { cls:=.type "list",data:=.seq ([]:List qG).toArray } } from ?_;generalize s.heap.push { cls:=.type "list",data:=.seq ([]:List qG).toArray }=G at gS kG hG ⊢;have mG:DAt G d es ep:=m.keep λo e=>kG d o e;have sG:Stand G cs:=st.keeps kG;generalize hI:G.push { cls:=.type "dict_keyiterator",data:=.fields #[.ref d,.int 0 0,.int es.size 0,.int ep 0] }=G2;have kG2:∀b o,G.get? b=some o->G2.get? b=some o:=λb o e=>by rw[<-hI];exact ζ _ e
 have st0:G2.IsKeyIter G.objs.size d 0 es.size ep:=by rw[<-hI];exact⟨_,Ω _ rfl,rfl,rfl⟩
 have hSf:s.heap.objs.size ∉ (G.objs.size::d::cs.map (·.1):List qH):=λz=>by
   rcases χ.mp z with z | z
   . exact absurd (z.trans hG) (oz _).symm
   rcases χ.mp z with z | z
   . exact absurd hdl (by rw[z];exact bh _)
   obtain⟨p,hp,z⟩:=am.mp z;exact absurd (ξ (st p hp)) (by rw[z];exact bh _)
 have key:∀(h:rB) (c₁ tk:Nat) (R':Result->qI->Prop),(∀b o,b≠s.heap.objs.size->G2.get? b=some o->h.get? b=some o)->h.get? s.heap.objs.size=some { cls:=.type "list",data:=.seq #[] c₁ } ->
     (∀h' tk acc' c',(∀b o,s.heap.get? b=some o->h'.get? b=some o)->h'.get? s.heap.objs.size=some { cls:=.type "list",dict:=none,data:=.seq acc' c',slots:=#[] }->ItemsOf (λi v=>∃hi:i<es.size,v=es[i].key) acc' es.size->R' (.ok (.ret (.ref s.heap.objs.size))) { s with heap:=h',toks:=tk }) ->
     codeAny (rj P w) A (.builtin "list.extend.loop" ⟨[.ref s.heap.objs.size,.ref G.objs.size,.ref s.heap.objs.size],[]⟩) R' { s with heap:=h,toks:=tk }:=by
   intro h c₁ tk R' hk hS hR;have W:=fE (P:=P) (w:=w) (A:=A.in1) (d:=d) (es:=es) (ep:=ep) (cs:=cs) G.objs.size (al (by rw[hG];exact df hdl));have hst:h.IsKeyIter G.objs.size d 0 es.size ep/\DAt h d es ep/\HL A.in1 cs/\(A.in1.handled=none->cs=[])/\Stand h cs :=
     ⟨st0.at λo e=>hk _ o (by rw[hG];exact oz _) e,mG.keep λo e=>hk _ o (al hdl) (kG2 _ o e),hl,hn,λp hp=>hk _ _ (λz=>absurd (ξ (st p hp)) (by rw[z];exact bh _)) (kG2 _ _ (sG p hp))⟩
   refine codeAny_extend_loopS (A:=A) W.toS hz s.heap.objs.size hSf _ es.size 0 _ #[] c₁ rfl (gf _) hst hS (ItemsOf.nil _) λs' acc' c' hm hS' hacc=>?_;rw[Moved.eq_with hm];refine hR s'.heap s'.toks acc' c' (λb o e=>hm.heap b o (λz=>?_) (hk b o (λz=>absurd (ξ e) (by rw[z];exact bh _)) (kG2 b o (kG b o e)))) hS' hacc;have hb:=ξ e;rcases χ.mp z with z | z
   . rw[z] at hb;exact bh _ hb
   . rw[be.mp z,hG] at hb;exact absurd hb (km.mpr (jz _))
 unfold Builtin.List.listExtendWith;refine qU (wpAny_typeOf (T:="dict") (DAt.ty (s:={ s with heap:=G }) mG) ?_);have ne:Builtin.List.listSameRef (.ref s.heap.objs.size) (.ref d)=false:=by
   simp only [Builtin.List.listSameRef,beq_eq_false_iff_ne];exact ip hdl
 simp only [ne,show (Value.type "dict"==Value.type "list")=false by decide,show (Value.type "dict"==Value.type "tuple")=false by decide,mn,bq,if_false];refine qU (it_dT (s:={ s with heap:=G }) lo mG ?_);rw[hI];refine qU (wpAny_holding (PySem.W.kdl_hint_dict (s:={ s with heap:=G2 }) (DAt.ty (s:={ s with heap:=G2 }) (mG.keep λo e=>kG2 d o e)) ?_));refine wpAny_ite_split (λ_=>?_) (λ_=>?_)
 . refine qU (wpAny_rule (qU ?_));have g1:=kG2 _ _ gS;refine show qX _ _ (updateSeq s.heap.objs.size (·.push .none) >>= λ_=>updateSeq s.heap.objs.size (·.pop)) _ _ _ from qU (wpAny_updateSeq g1 rfl ?_);have g2:=bb (ja (·.push Value.none)) g1 rfl;refine wpAny_updateSeq (hz:=by seq_fits) g2 rfl ?_;have g3:=bb (ja (·.pop)) g2 rfl;refine qV ⟨plainId_quiet jw _,key _ _ _ _ (λb o hb e=>(ω _ _ (bd hb)).trans ((ω _ _ (bd hb)).trans e)) g3 λh' tk acc' c' h1 h2 h3=>?_⟩;exact show qX _ A (load s.heap.objs.size >>= _) _ _ _ from qU (wpAny_load h2 (qV (k h' tk acc' h1 h3)))
 . refine qV ⟨plainId_quiet jw _,key _ _ _ _ (λb o _ e=>e) (kG2 _ _ gS) λh' tk acc' c' h1 h2 h3=>?_⟩;exact show qX _ A (load s.heap.objs.size >>= _) _ _ _ from qU (wpAny_load h2 (qV (k h' tk acc' h1 h3)))
end
end HH
namespace Stow
open PySem L2 PyProof.Rows
theorem DA{n m:Nat}(h:n+64<m):n+1<m:=by omega
theorem Xm{α β:Type}{F:α->β->Prop}:∀{xs:List α} {us:List β} {i:Nat} {x:α},Paired F xs us->xs[i]?=some x->∃u,us[i]?=some u/\F x u
 | _,_,_,_,.nil,e=>by simp at e
 | _,_,0,_,.cons r _,e=>by simp at e;subst e;exact⟨_,rfl,r⟩
 | _,_,i+1,x,.cons _ t,e=>by
   obtain⟨u,h1,h2⟩:=Xm (i:=i) (x:=x) t (by simpa using e)
   exact⟨u,by simpa using h1,h2⟩
theorem vz{kvs:List (Key×V)}{vs:List (Key×qG)}(r:KV kvs vs){i:Nat}{k:Key}{v:V}(e:kvs[i]?=some (k,v)):∃u,vs[i]?=some (k,u):=by
 obtain⟨⟨k',u⟩,hq,h1,_⟩:=Xm (show Paired _ kvs vs from r) e;have h1:k=k':=h1;subst h1;exact⟨u,hq⟩
theorem fF{P:qK}{w:qL}{k:Key}{u:qG}(h:(A3 P w).is k u=true):RelV (kV k) u:=by
 rcases DU (show FF k u=true from h) with ⟨i,t,rfl,rfl⟩ | ⟨x,t,rfl,rfl⟩
 . exact⟨t,rfl⟩
 . exact⟨t,rfl⟩
section
variable {X:Cx}{pins:List (qH×Obj)}{σ:L2.St}{H:Hp}{s:qI}{d:qH}{kvs:List (Key×V)}{o:Obj}
end
section
variable {X:Cx}{tg:qN}
end
section
variable {K:γ}{σ:L2.St}{H:Hp}{Q:VK}{D:Ends}
theorem r_dget{td ty:TE}(h:td σ H λx H1=>ty σ H1 λy H2=>∃a v,x = .ref a/\DGet H2 a y (some v)/\Q v H2):uP td ty σ H Q:=h
theorem r_dput{td ty tv:TE}(h:tv σ H λv H1=>td σ H1 λx H2=>ty σ H2 λy H3=>∃a H4,x = .ref a/\DPut H3 a y v H4/\D.nx σ H4):uY td ty tv D σ H:=h
theorem r_dnew(h:∀p,H p=none->Q (.ref p) (upd H p (.dK []))):WJ σ H Q:=h
end
section
variable {X:Cx}{a:qN}{ta:TE}
end
section
variable {K:γ}{σ:L2.St}{H:Hp}{Q:VK}
theorem r_dIn{ty td:TE}(h:ty σ H λy H1=>td σ H1 λx H2=>∃a o,x = .ref a/\DGet H2 a y o/\Q (.bl o.isSome) H2):tDIn ty td σ H Q:=h
theorem r_dPop{td ty:TE}(h:td σ H λx H1=>∃a,x = .ref a/\IsD H1 a/\ty σ H1 λy H2=>∃kvs k v,H2 a=some (.dK kvs)/\y=kV k/\tM kvs k=some v/\Q v (upd H2 a (.dK (Eg kvs k)))):WK td ty σ H Q:=h
end
section
variable {M:rD}{A:qM}{E:qG->qI->Prop}{s:qI}
theorem Xn{fr:List qH}{x:qH}{cls:qG}{od:Option qH}{T L:qH}{fl c:qG}{Q:Unit->qI->Prop}(ht:Exc s.heap x cls od T fl c)
   (h:∀h',Upto fr [T] s.heap h'->Exc h' x cls od T (rawInt L) c->Q () { s with heap:=h' }):qX M A (setFlight (.ref x) (some L)) Q E s:=by
 obtain⟨oe,vs,oT,ts,ne,ex,hc,hdi,hd,h1,eT,dT,h3,h2c⟩:=ht;unfold setFlight;refine qU (wpAny_field ex hd h1 ?_);rw[if_pos (show (Value.ref T != Value.none)=true by simp)];have sz:3<ts.size:=(cf.mp h3).1;refine wpAny_setField eT dT sz (h _ .update ⟨oe,vs,_,_,ne,?_,hc,hdi,hd,h1,bb _ eT (fb (bx dT _)),bx dT _,?_,h2c⟩)
 . rw[ω _ _ ne];exact ex
 . simp [sz]
theorem vw{fr:List qH}{env:rC}{L x T:qH}{cls:qG}{od:Option qH}{c:qG}{Q:Unit->qI->Prop}(hf:env.frame=some L)(hx:Exc s.heap x cls od T (rawInt L) c)
   (h:∀h',Upto fr [T] s.heap h'->Exc h' x cls od T .none c->Q () { s with heap:=h' }):qX M A (leaving env (.ref x)) Q E s:=by
 obtain⟨oe,vs,oT,ts,ne,ex,hc,hdi,hd,h1,eT,dT,h3,h2c⟩:=id hx;unfold leaving;refine qU ?_;unfold noteFrame;simp only [hf];refine qU (wpAny_field ex hd h1 ?_);rw[if_pos (show (Value.ref T != Value.none)=true by simp)];refine qU (wpAny_field eT dT h3 ?_);rw[if_pos (show (rawInt L==rawInt L)=true by simp)];exact qV (FM hx h)
end
theorem N7{h h':rB}{H:Hp}{fr fr' ex:List qH}{x T T':qH}{c:qG}(ch:Chn h H fr x T c)(u:Upto fr' ex h h')(hfr:∀b∈fr',b∈fr)(hex:∀b∈ex,b=T\/b=x\/h.get? b=none)(hT:T'=T\/h.get? T'=none):Chn h' H fr x T' c:=by
 obtain⟨r,l,k⟩:=ch;refine⟨r,l,λp hp=>?_⟩;obtain⟨k1,k2,k3,k4,k5⟩:=k p hp;have nn:∀b,h.get? b=none->p.1≠b:=λb hb z=>by rw[z,hb] at k1;cases k1
 refine⟨u.keep _ _ (λz=>?_) (λz=>k3 (hfr _ z)) k1,k2,k3,k4,?_⟩
 . rcases hex _ z with e | e | e
   . exact k5 e
   . exact k4 e
   . exact nn _ e rfl
 . rcases hT with e | e
   . rw[e];exact k5
   . exact nn _ e
section
variable {P:qK}{w:qL}{K:γ}{mg:Str->Option qG}{base:rB}{N:List Str}{qual:Str}{scope:qP}{f:qH}{cd:qG}{A:qM}{outer:List rC}{s₀:qI}{H₀:Hp}{EX:XK}
theorem Xo{pins:List (qH×Obj)}{σ:L2.St}{H:Hp}{s:qI}{x C T:qH}{od:Option qH}{c:qG}(I:Inv (cxOf (CXe P w) P w K mg base N qual scope f cd A outer s₀ H₀ EX) pins σ H s)(t:Exc s.heap x (.ref C) od T (rawInt (s₀.heap.objs.size:qH)) c)(nx:s₀.heap.get? x=none)(nT:s₀.heap.get? T=none)(ux:H x=none)(uT:H T=none)
   (ch:Chn s.heap H (frs (cxOf (CXe P w) P w K mg base N qual scope f cd A outer s₀ H₀ EX).stack) x T c) (q:EX (.ref C) od H):(cxOf (CXe P w) P w K mg base N qual scope f cd A outer s₀ H₀ EX).xe (.ref x) s:=by
 refine vw (fr:=frs (cxOf (CXe P w) P w K mg base N qual scope f cd A outer s₀ H₀ EX).stack) rfl t λh' u t'=>?_;have hu:Un (frs outer) [] H₀ H s₀.heap s.heap:=I.base;have ch':=N7 ch u (λ_ z=>z) (λb hb=>.inl (by simpa using hb)) (.inl rfl);refine⟨x,C,T,od,H,c,rfl,I.os,I.bare,Jq hu u (λb hb=>?_) (λb hb=>?_),Jp I.hok u I.stkFree (λb hb=>?_),nx,nT,ux,uT,t',?_,q⟩
 . rcases χ.mp hb with rfl | hb
   . exact .inr (dm (Θ _))
   . exact .inl hb
 . have e:b=T:=by simpa using hb
   subst e;exact nT
 . have e:b=T:=by simpa using hb
   subst e;exact uT
 . obtain⟨r,l,k⟩:=ch';exact⟨r,l,λp hp=>let ⟨k1,k2,k3,k4,k5⟩:=k p hp;⟨k1,k2,λz=>k3 (ι _ z),k4,k5⟩⟩
end
abbrev Cx.suiteC(X:Cx)(x:qH)(cs:List (qH×Obj)):Cx :=
 { X with A:=X.A.mark (some (.ref x)),pn:=cs++X.pn,xe:=λe s'=>X.Ok->notedBy (rj X.prog X.w) (X.A.mark (some (.ref x))) X.env (λy s2=>cameBackBy (rj X.prog X.w) X.A X.env X.xe y s2) e s' }
instance {X:Cx} [Calm X] {x cs}:Calm (Cx.suiteC X x cs):=⟨Calm.eq (X:=X)⟩
section
variable {X:Cx}{pins:List (qH×Obj)}{σ:L2.St}{H:Hp}{s:qI}{x:qH}{cs:List (qH×Obj)}
theorem fG{o:Obj}{r:List (qH×Obj)}(ok:X.Ok)(l:HH.Links ((x,o)::r) (.ref x)):(Cx.suiteC X x ((x,o)::r)).Ok :=
 ⟨ok.mod,ok.kind,ok.glob,ok.blt,ok.above,ok.inj,ok.has,ok.cab,λ_=>⟨(x,o)::r,.inr ⟨(x,o),r,rfl,rfl,l⟩,λz=>(nomatch z),λp hp=>.inr (Φ _ hp)⟩,ok.frames,ok.stk,ok.exf,ok.bs,ok.bsz,ok.noex,ok.exfs,ok.funs,ok.frf⟩
theorem fH{o:Obj}{r:List (qH×Obj)}(I:Inv X pins σ H s)(l:HH.Links ((x,o)::r) (.ref x))(k:∀p∈(x,o)::r,s.heap.get? p.1=some p.2/\H p.1=none/\p.1≠X.env.locals/\p.1 ∉ X.fs):Inv (Cx.suiteC X x ((x,o)::r)) pins σ H s :=
 ⟨fG I.ok l,I.os,I.bare,I.base,I.loc,I.cell,I.free,I.freeC,λp hp=>by
   rcases ρ.mp hp with hp | hp
   . rcases ρ.mp hp with hp | hp
     . obtain⟨k1,k2,k3,k4⟩:=k p hp
       obtain⟨vs,c,d,_⟩:=l.has p hp
       exact⟨k1,k2,k3,k4,λv z=>by rw[d] at z;cases z⟩
     . exact I.pin p (Φ _ hp)
   . exact I.pin p (μ _ hp),I.hok,I.len⟩
theorem JG(ok:X.Ok)(I:Inv (Cx.suiteC X x cs) pins σ H s):Inv X pins σ H s:=⟨ok,I.os,I.bare,I.base,I.loc,I.cell,I.free,I.freeC,λp hp=>I.pin p (by
   rcases ρ.mp hp with hp | hp
   . exact Φ _ (μ _ hp)
   . exact μ _ hp),I.hok,I.len⟩
theorem fJ{D:Ends}{fl:Flow}{s':qI}(ok:X.Ok)(h:SP (Cx.suiteC X x cs) pins D fl s'):SP X pins D fl s':=by
 cases fl with
 | next=>obtain⟨σ',H',I,q⟩:=h;exact⟨σ',H',JG ok I,q⟩
 | brk=>obtain⟨σ',H',I,q⟩:=h;exact⟨σ',H',JG ok I,q⟩
 | cont=>obtain⟨σ',H',I,q⟩:=h;exact⟨σ',H',JG ok I,q⟩
 | ret u=>obtain⟨v,σ',H',I,r,q⟩:=h;exact⟨v,σ',H',JG ok I,r,q⟩
end
section
variable {P:qK}{w:qL}{K:γ}{mg:Str->Option qG}{base:rB}{N:List Str}{qual:Str}{scope:qP}{f:qH}{cd:qG}{A:qM}{outer:List rC}{s₀:qI}{H₀:Hp}{EX:XK}
theorem N8{X:Cx}{pins:List (qH×Obj)}{σ:L2.St}{H H':Hp}{s s':qI}{h2:rB}{ex:List qH}(I:Inv X pins σ H s)(os:s'.os=s.os)(bare:AllBare s'.gens)(un:Un (frs X.stack) [] H H' s.heap s'.heap)(hok:HOk X.prog X.w H' s'.heap)
   (u:Upto (frs X.stack) ex s'.heap h2) (nex:∀b∈ex,s.heap.get? b=none/\H' b=none):Inv X pins σ H' { s' with heap:=h2 }:=by
 have un2:Un (frs X.stack) [] H H' s.heap h2:=Jq un u (λb hb=>.inl hb) λb hb=>(nex b hb).1;have stk:∀b∈frs X.stack,H' b=none:=λb hb=>by
   obtain⟨_,o,ho,_⟩:=I.stack.mem hb;exact un.free b o ho (I.stkFree b hb) (by simp)
 have hok2:HOk X.prog X.w H' h2:=Jp hok u stk λb hb=>(nex b hb).2;obtain⟨hh,gg,dd,tt,oo⟩:=s';obtain rfl:oo=s.os:=os;have z:=I.call (h':=h2) (g':=gg) (d':=dd) (t':=tt) (ch:=[]) un2 hok2 bare (λb z=>absurd z (by simp));exact z
theorem JH{x:qH}{cs:List (qH×Obj)}:Ct (CXe P w) (Cx.suiteC (cxOf (CXe P w) P w K mg base N qual scope f cd A outer s₀ H₀ EX) x cs) EX:=by
 rintro pins σ H s e s' I ⟨y,C,T,od,H',c,rfl,os,bare,un,hok,nx,nT,ux,uT,t,ch,q⟩;intro ok;have I':Inv (Cx.suiteC (cxOf (CXe P w) P w K mg base N qual scope f cd A outer s₀ H₀ EX) x cs) pins σ H' s':=by
   obtain⟨hh,gg,dd,tt,oo⟩:=s';obtain rfl:oo=s.os:=os;have z:=I.call (h':=hh) (g':=gg) (d':=dd) (t':=tt) (ch:=[]) un hok bare (λb z=>absurd z (by simp));exact z
 unfold notedBy;refine Nz (base:=base) (outer:=outer) I'.ok.frames I'.stack rfl t λh1 T' nT' u1 t1=>?_;unfold cameBackBy;obtain⟨oe,vs,oT,ts,ne,ex,hc,hdi,hd,g1,eT,dT,h3,h2c⟩:=id t1;refine qU (wpAny_field ex hd g1 ?_);refine show qX _ _ (if (Value.ref T'==Value.none)=true then _ else _) _ _ _ from ?_;rw[if_neg (show ¬(Value.ref T'==Value.none)=true by exact η)];refine Xn (s:={ s' with heap:=h1 }) (L:=s₀.heap.objs.size) (fr:=frs (cxOf (CXe P w) P w K mg base N qual scope f cd A outer s₀ H₀ EX).stack) t1 λh2 u2 t2=>?_;have u:=u1.trans u2;have uT':H' T'=none:=FO hok nT';have nT0:s.heap.get? T'=none:=CG un nT';have new:∀b∈[T,y]++[T'],s.heap.get? b=none/\H' b=none:=λb hb=>by
   simp only [ci,cb,χ,gx,or_false] at hb;rcases hb with rfl | rfl | rfl
   . exact⟨nT,uT⟩
   . exact⟨nx,ux⟩
   . exact⟨nT0,uT'⟩
 have I2:=JG ok (N8 (s':=s') I os bare un hok u new);have hu0:Un (frs outer) [] H₀ H s₀.heap s.heap:=I.base;exact Xo I2 t2 (CG hu0 nx) (CG hu0 nT0) ux uT' (N7 ch u (λ_ z=>z) (λb hb=>by
   simp only [ci,cb,χ,gx,or_false] at hb;rcases hb with rfl | rfl | rfl
   . exact .inl rfl
   . exact .inr (.inl rfl)
   . exact .inr (.inr nT')) (.inr nT')) q
def Xp(K:γ)(EX:XK)(i:Nat)(C0:qH)(t:TX)(ts:qH->List (qH×Obj)->TS):TS:=λD σ H=>t σ H (λv H2=>D.nx (σ.set i (some v)) H2) λc od H2=>∃C,c = .ref C/\((tS K C C0 true/\∀x cs,ts x cs D σ H2)\/(tS K C C0 false/\EX c od H2))
theorem Xq{C0:qH}{cx:Str}{np hpos pos epos:Pos}{b0:qO}{suite:List qO}{ts:qH->List (qH×Obj)->TS}{e:qN}{t:TX}{i:Nat}{y:Str}{py:Pos}(hN:N.Nodup)(hi:N[i]?=some y)(hy:Loc scope y)
   (he:PX (cxOf (CXe P w) P w K mg base N qual scope f cd A outer s₀ H₀ EX) e t) (hgc:Gl (cxOf (CXe P w) P w K mg base N qual scope f cd A outer s₀ H₀ EX) cx) (hc0:mg cx=some (.ref C0))
   (hss:∀x cs,PSs (Cx.suiteC (cxOf (CXe P w) P w K mg base N qual scope f cd A outer s₀ H₀ EX) x cs) (b0::suite) (ts x cs)) (hdc:(cx==("__debug__":Str))=false:=by decide)
   (hsw:swapsWith e (some (.Name y py)) epos.line (cxOf (CXe P w) P w K mg base N qual scope f cd A outer s₀ H₀ EX).env=pure false:=by rfl):
   PS (cxOf (CXe P w) P w K mg base N qual scope f cd A outer s₀ H₀ EX) (.Try [.Assign [.Name y py] e epos] [.ExceptHandler (some (.Name cx np)) none (b0::suite) hpos] [] [] pos) (Xp K EX i C0 t ts):=by
 intro pins s σ H D I h;refine wpAny_Try_except (wpAny_execs_cons (wpAny_Assign_Name (he pins s σ H _ _ _ _ I h (λu s' ⟨v,H2,I2,r2,q2⟩=>Ji I2 hN hi hy r2 (λs3 I3=>rp (rp ⟨_,H2,I3,q2⟩)) (.inl rfl)) (λH1 s1 z s' I1 hq=>?_)) hsw));obtain⟨x,C,T,od,H',c,rfl,os,bare,un,hok,nx,nT,ux,uT,t0,ch,C',ec,q⟩:=hq;cases ec;have I':Inv (cxOf (CXe P w) P w K mg base N qual scope f cd A outer s₀ H₀ EX) pins σ H' s':=by
   obtain⟨hh,gg,dd,tt,oo⟩:=s';obtain rfl:oo=s1.os:=os;have z:=I1.call (h':=hh) (g':=gg) (d':=dd) (t':=tt) (ch:=[]) un hok bare (λb z=>absurd z (by simp));exact z
 refine Nz (base:=base) (outer:=outer) I'.ok.frames I'.stack rfl t0 λh1 T' nT' u1 t1=>?_;refine FM (s:={ s' with heap:=h1 }) (fr:=frs (cxOf (CXe P w) P w K mg base N qual scope f cd A outer s₀ H₀ EX).stack) t1 λh2 u2 t2=>?_;have uT':H' T'=none:=FO hok nT';have nT0:s1.heap.get? T'=none:=CG un nT';have new:∀b∈[T,x]++[T']++[T'],s1.heap.get? b=none/\H' b=none:=λb hb=>by
   simp only [ci,cb,χ,gx,or_false] at hb;rcases hb with rfl | rfl | rfl | rfl
   . exact⟨nT,uT⟩
   . exact⟨nx,ux⟩
   . exact⟨nT0,uT'⟩
   . exact⟨nT0,uT'⟩
 have old:∀b∈[T,x]++[T']++[T'],b=T\/b=x\/s'.heap.get? b=none:=λb hb=>by
   simp only [ci,cb,χ,gx,or_false] at hb;rcases hb with rfl | rfl | rfl | rfl
   . exact .inl rfl
   . exact .inr (.inl rfl)
   . exact .inr (.inr nT')
   . exact .inr (.inr nT')
 have I2:=N8 (s':=s') I1 os bare un hok (u1.trans u2) λb hb=>new b (Φ _ hb);have hu0:Un (frs outer) [] H₀ H1 s₀.heap s1.heap:=I1.base;obtain⟨oe,vs,oT,tts,ne,ee,hcl,hdi,hd,g1,_⟩:=id t2;rcases q with ⟨fit,q⟩ | ⟨fit,q⟩
 . refine wpAny_handleBy_cons (codeAny_handlers_test (DV (X:=Cx.suite _ x) (Jr I2 x) hgc hc0 (NG fit I2.kIn ee hcl ?_) hdc)) (by intro z;cases z);refine codeAny_handlers_suite ?_;refine FM (s:={ s' with heap:=h2 }) (fr:=frs (cxOf (CXe P w) P w K mg base N qual scope f cd A outer s₀ H₀ EX).stack) t2 λh3 u3 t3=>?_;have I3:=N8 (s':=s') I1 os bare un hok ((u1.trans u2).trans u3) new;obtain⟨r,l,k⟩:=N7 ch ((u1.trans u2).trans u3) (λ_ z=>z) old (.inr nT');obtain⟨o3,vs3,oT3,ts3,ne3,ex3,hc3,hdi3,hd3,g13,eT3,dT3,h33,h2c3⟩:=id t3;have lk:HH.Links ((x,o3)::r) (.ref x):=⟨rfl,vs3,c,hd3,h2c3,l⟩
   have sb:∀b∈frs outer,b∈frs (cxOf (CXe P w) P w K mg base N qual scope f cd A outer s₀ H₀ EX).stack:=λb hb=>ι _ hb;have I4:=fH (x:=x) (o:=o3) (r:=r) I3 lk λp hp=>by
     rcases χ.mp hp with rfl | hp
     . refine⟨ex3,ux,λz=>?_,λz=>?_⟩
       . obtain⟨m,⟨o',_,_,e',_⟩,_⟩:=I1.loc;have z:x=_:=z;rw[<-z,nx] at e';cases e'
       . obtain⟨_,o',e',_⟩:=I1.funs.mem z;rw[show s1.heap.get? x=none from nx] at e';cases e'
     . obtain⟨k1,k2,k3,k4,k5⟩:=k p hp;exact⟨k1,k2,λz=>k3 (by rw[z];exact Ξ),λz=>k3 (sb _ z)⟩
   exact qW (hss x ((x,o3)::r) pins _ σ _ D I4 (q x _)) (λfl s4 q4=>fJ I.ok q4) (λe s4 z=>z I.ok)
 . refine wpAny_handleBy_cons (codeAny_handlers_test (DV (X:=Cx.suite _ x) (Jr I2 x) hgc hc0 (NG fit I2.kIn ee hcl ?_) hdc)) (by intro z;cases z);refine wpAny_handleBy_nil ?_;unfold PySem.passOn;refine qU (wpAny_field (s:={ s' with heap:=h2 }) ee hd g1 ?_);refine show qX _ _ (if (Value.ref T'==Value.none)=true then _ else _) _ _ _ from ?_;rw[if_neg (show ¬(Value.ref T'==Value.none)=true by exact η)];refine qU (Xn (s:={ s' with heap:=h2 }) (L:=s₀.heap.objs.size) (fr:=frs (cxOf (CXe P w) P w K mg base N qual scope f cd A outer s₀ H₀ EX).stack) t2 λh3 u3 t3=>wpAny_throw ?_);exact Xo (N8 (s':=s') I1 os bare un hok ((u1.trans u2).trans u3) new) t3 (CG hu0 nx) (CG hu0 nT0) ux uT' (N7 ch ((u1.trans u2).trans u3) (λ_ z=>z) old (.inr nT')) q
end
def TbOk(H:Hp)(P:qH)(lp:Pos)(q:Str):Prop:=∃ps,H P=some (.tbl ps)/\TriplesOk ps.toList/\(codeAmong lp ps.toList=none\/∃c,codeAmong lp ps.toList=some (.ref c)/\H c=some (.ext λh=>h.CodeRec (.ref c) q))
def N9:HO->Bool
 | .tbl _=>false
 | .ext _=>false
 | _=>true
theorem TbOk.keep{H H':Hp}{P:qH}{lp:Pos}{q:Str}(t:TbOk H P lp q)(k:∀b o,H b=some o->N9 o=false->H' b=some o):TbOk H' P lp q:=by
 obtain⟨ps,h1,h2,h3⟩:=t;exact⟨ps,k _ _ h1 rfl,h2,h3.imp id λ⟨c,h4,h5⟩=>⟨c,h4,k _ _ h5 rfl⟩⟩
theorem TbOk.keepX{H H':Hp}{P x:qH}{lp:Pos}{q:Str}{o:HO}(t:TbOk H P lp q)(hx:H x=some o)(ho:N9 o=true)(k:AF x H H'):TbOk H' P lp q:=t.keep λb u hb hu=>k b u (λz=>by rw[z,hx] at hb;cases hb;rw[ho] at hu;cases hu) hb
theorem TbOk.same{H H':Hp}{P:qH}{lp:Pos}{q:Str}(t:TbOk H P lp q)(s:Same H H'):TbOk H' P lp q:=t.keep λb o hb _=>s b o hb
structure wm(K:γ)(mg:Str->Option qG)(cd:qG)(P:qH):Prop where
 code:∃c o vs file tf flags tg inF text tt,cd = .ref c/\K.lookup c=some o/\o.cls = .type "code"/\o.data = .fields vs/\vs[11]?=some (.ref P)/\vs.getD 11 .none = .ref P/\vs.getD 18 .none = .str file tf /\
   vs.getD 7 .none = .int flags tg/\vs.getD 9 .none = .bool inF/\vs.getD 10 .none = .int text tt/\c≠P
 bm:∃bm o,mg "__builtins__"=some (.ref bm)/\bm≠builtinsNs/\bm≠re/\K.lookup bm=some o/\o.cls = .type "module"/\o.dict=some builtinsNs/\o.data = .plain
section
variable {X:Cx}{pins:List (qH×Obj)}{σ:L2.St}{H:Hp}{s:qI}{P:qH}{lp:Pos}{q:Str}
theorem fK{h':rB}{t':Nat}{c:qH}{ps more:Array qG}{φ:rB->Prop}(I:Inv X pins σ H s)(hP:H P=some (.tbl ps))(k:∀b o,b≠P->s.heap.get? b=some o->h'.get? b=some o)(hP':h'.get? P=some { cls:=.none,data:=.fields (ps++more) })
   (hc:s.heap.objs.size<=c) (new:A8 X.prog X.w (upd (upd H P (.tbl (ps++more))) c (.ext φ)) h' c (.ext φ)):Inv X pins σ (upd (upd H P (.tbl (ps++more))) c (.ext φ)) { s with heap:=h',toks:=t' }:=by
 have nc:H c=none:=I.hok.fresh hc;have cP:c≠P:=λe=>by rw[e,hP] at nc;cases nc
 have nn:∀b,H b=none->b≠P:=λb n e=>by rw[e,hP] at n;cases n
 have lt:∀b o,s.heap.get? b=some o->b≠c:=λb o e z=>absurd (ξ e) (by rw[z];exact km.mpr hc);have at_:∀b u,H b=some u->(∀ps',u≠.tbl ps')->upd (upd H P (.tbl (ps++more))) c (.ext φ) b=some u:=λb u e ne=>by
   rw[AC (λz=>by rw[z,nc] at e;cases e),AC (λz=>by rw[z,hP] at e;cases e;exact ne _ rfl)];exact e
 refine I.un ⟨λb o e n _ _=>k b o (nn b n) e,λb o e n _ _=>⟨o.slots,k b o (nn b n) e⟩,λb o e n _=>?_,λb o e _=>?_,λb xs e=>at_ b _ e (λ_ z=>nomatch z),λb o u e=>at_ b _ e (λ_ z=>nomatch z),λb ps' e=>?_⟩ λb u e=>?_
 . rw[AC (lt b o e),AC (nn b n)];exact n
 . by_cases hb:b=P
   . rw[hb];exact⟨_,hP'⟩
   . exact⟨o,k b o hb e⟩
 . by_cases hb:b=P
   . subst hb;rw[hP] at e;cases e;exact⟨more,by rw[AC (bd cP),upd_same]⟩
   . exact⟨#[],by rw[AC (λz=>by rw[z,nc] at e;cases e),AC hb,e];simp⟩
 . by_cases hb:b=c
   . subst hb;rw[upd_same] at e;cases e;exact new
   . rw[AC hb] at e;by_cases hb2:b=P
     . subst hb2;rw[upd_same] at e;cases e;exact hP'
     . rw[AC hb2] at e;refine(I.hok b u e).stay (λd v hd r=>k d v ?_ r) (λd r=>at_ d _ r (λ_ z=>nomatch z)) λd xs r=>at_ d _ r (λ_ z=>nomatch z);rcases hd with z | z
       . rw[z];exact hb2
       . intro w;rw[w,hP] at z;cases z
theorem fM{c:qH}{q:Str}:∀h1 h2:rB,h1.CodeRec (.ref c) q->(∀o,h1.get? c=some o->h2.get? c=some o)->h2.CodeRec (.ref c) q:=λh1 h2 ⟨c',o,vs,t,e,g,r⟩ k=>by
 cases e;exact⟨c,o,vs,t,rfl,k o g,r⟩
theorem fN{params:Arguments}{body:qN}{scope:qP}{clos:List (Str×qH)}{E:qG->qI->Prop}{Qv:qG->qI->Prop}(I:Inv X pins σ H s)(LF:wm X.K X.mg X.env.code P)(tb:TbOk H P lp q)(hcl:closureFor scope X.env=pure clos)(hq:X.env.qual++"<lambda>"=q)(hdef:defaultsOf params X.env=([],[]))
   (k:∀(f c:qH) (ctv pm:qG) (H':Hp) (s':qI),Inv X pins σ H' s'->s'.heap.get? f=some (kla_obj "<lambda>" q params body scope clos pm c ctv)->s'.heap.CodeRec (.ref c) q->AF P H H'->TbOk H' P lp q->(∀b,H' b=none->H b=none)->Qv (.ref f) s'):
   qX (rj X.prog X.w) X.A (rh (.Lambda params body scope lp) X.env) Qv E s:=by
 obtain⟨ps,hP,ht,hc⟩:=id tb;have eP:s.heap.get? P=some { cls:=.none,data:=.fields ps }:=(show A8 X.prog X.w H s.heap P (.tbl ps) from I.hok P _ hP)
 obtain⟨⟨c0,o,vs,file,tf,flags,tg,inF,text,tt,ec,lk,r⟩,bm,ob,b1,b2,b3,b4,b5,b6,b7⟩:=LF;have C:PySem.W.CodeHd s.heap c0 P:=⟨o,vs,file,tf,flags,tg,inF,text,tt,I.kIn _ _ lk,r⟩
 have hg:s.heap.Ns re X.mg:=I.mod.glob.keeps I.bk;have hgP:re≠P:=λz=>by
   obtain⟨o',es,ep,e,hd,_⟩:=hg;rw[z,eP] at e;cases e;cases hd
 have hbm:=I.kIn _ _ b4;have hb:s.heap.BuiltinsAt X.mg P:=⟨bm,ob,b1,b2,b3,(λz=>by rw[z,eP] at hbm;cases hbm;cases b5),hbm,b5,b6,b7⟩
 refine PySem.W.kla_eval hdef ?_;rw[hq];rcases hc with hn | ⟨c,hc,hcx⟩
 . refine PySem.W.kla_makeFunction (mg:=X.mg) hcl I.ok.glob hg ec C eP ht hn hgP hb λc' ctv h' tk hx hge hlt hrec htb=>?_;have hrec2:=hrec;have I2:=fK I (h':=h'.push (kla_obj "<lambda>" q params body scope clos ((X.mg "__name__").getD .none) c' ctv)) (t':=tk) (c:=c') (φ:=λh=>h.CodeRec (.ref c') q) hP (λb o hb e=>ζ _ (hx b o hb e)) (ζ _ htb) hge
     ⟨hrec.push _,(by obtain⟨c2,o2,_,_,e2,g2,_⟩:=hrec.push (kla_obj "<lambda>" q params body scope clos ((X.mg "__name__").getD .none) c' ctv);cases e2;exact⟨o2,g2⟩),fM⟩
   have nc:H c'=none:=I.hok.fresh hge;have cP:c'≠P:=λe=>by rw[e,hP] at nc;cases nc
   refine k _ c' ctv _ _ _ I2 (Ω _ rfl) (hrec2.push _) (λb o hb e=>?_) ⟨_,by rw[AC (bd cP),upd_same],?_,.inr ⟨c',?_,upd_same⟩⟩ λb hb=>?_
   . rw[AC (λz=>by rw[z,nc] at e;cases e),AC hb];exact e
   . rw[mh];exact TriplesOk_snoc _ _ _ _ ht
   . rw[mh];exact codeAmong_snoc _ ht hn
   . by_cases z:b=c'
     . rw[z];exact nc
     . rw[AC z] at hb;by_cases z2:b=P
       . rw[z2,upd_same] at hb;cases hb
       . rw[AC z2] at hb;exact hb
 . have hrec:s.heap.CodeRec (.ref c) q:=(show A8 X.prog X.w H s.heap c (.ext _) from I.hok c _ hcx).1;refine PySem.W.kla_makeFunctionHit (mg:=X.mg) hcl I.ok.glob hg ec C eP ht hc hb λctv h' tk hk hsz=>?_;exact k _ c ctv _ H _ (I.kept (t':=tk) λb o e=>ζ _ (hk b o e)) (Ω _ rfl) ((hrec.keeps hk).push _) (λ_ _ _ e=>e) tb λ_ z=>z
end
section
variable {P:qK}{w:qL}{A:qM}{E:qG->qI->Prop}{s:qI}
abbrev lamA(pa:Pos):Arguments:={ posonlyargs:=[],args:=[{ arg:="handle",annotation:=none,pos:=pa }],vararg:=none,kwonlyargs:=[],kw_defaults:=[],kwarg:=none,defaults:=[] }
abbrev lamB(p1 p2 p3:Pos):qN:=.Subscript (.Name "places" p1) (.Name "handle" p2) p3
abbrev we:qP:={ kind:=.function,names:=[(av "handle",.local),(av "places",.free)],isGenerator:=false,isCoroutine:=false,more:=[] }
theorem fO{q:Str}{p1 p2 p3 pa:Pos}{cl:List (Str×qH)}{pm ctv v:qG}{f c cc d:qH}{vs:List (Key×qG)}{k:Key}{u:qG}{Q:qG->qI->Prop}(hroom:A.depth<recursionLimit)(hl:s.heap.NoLimit)
   (hf:s.heap.get? f=some (kla_obj "<lambda>" q (lamA pa) (lamB p1 p2 p3) we cl pm c ctv)) (hcd:s.heap.CodeRec (.ref c) q)
   (hcl:cl.lookup (av "places")=some cc) (hcc:s.heap.IsCell cc (some (.ref d))) (hd:s.heap.DictOf (A3 P w) d vs) (hkv:(A3 P w).is k v=true) (hu:valueAt vs k=some u)
   (h:∀h' tk,(∀b o,s.heap.get? b=some o->h'.get? b=some o)->Q u { s with heap:=h',toks:=tk }):qX (rj P w) A (call (.ref f) [v]) Q E s:=by
 refine wpAny_call (PySem.W.kla_callFunE hroom hf rfl rfl rfl rfl hcd ?_);refine wpAny_of_eq (a:=[(av "handle",v)]) (by rfl) ?_;refine wpAny_newFunctionEnv (scope:=we) (by decide) (λx hx=>by rw[be.mp hx];rfl) (λh₁ hns hsb=>⟨hl.fresh _ hsb,?_⟩) rfl;have kp:∀b o,s.heap.get? b=some o->h₁.get? b=some o:=λb o e=>hsb.extBut b o (al (ξ e)) (ζ _ e);have hd1:h₁.DictOf (A3 P w) d vs:=by
   obtain⟨o,es,ep,g1,g2⟩:=hd;exact⟨o,es,ep,kp _ _ g1,g2⟩
 have hc1:h₁.IsCell cc (some (.ref d)):=by
   obtain⟨o,g1,g2⟩:=hcc;exact⟨o,kp _ _ g1,g2⟩
 refine PySem.W.kla_codeExpr (WG ju.lookup (λ_ _=>rfl) ?_);refine wpAny_Name (wpAny_loadName_free rfl rfl hcl hc1 ?_) (by decide);refine wpAny_Name (wpAny_loadName_local rfl rfl hns (v:=v) (by rfl) ?_) (by decide);exact⟨hd1.typeIs,wpAny_getItem_of hkv hd1.mapOf hu (h _ _ kp)⟩
end
theorem vp{h:rB}{L:qH}{m m':Str->Option qG}(a:h.Ns L m)(b:h.Ns L m'):m=m':=by
 obtain⟨o,es,ep,e1,e2,_,e3⟩:=a;obtain⟨o',es',ep',f1,f2,_,f3⟩:=b;rw[e1] at f1;cases f1;rw[e2] at f2;cases f2
 funext x
 rw[<-e3,f3]
def dkE(p:Int×Int):Key×V:=(.inl p.1,.int p.2)
theorem Xr{P:qK}{w:qL}:∀{es:List DictEntry} {vs:List (Key×qG)},Pairs (A3 P w) es vs->∀(i:Nat) (e:DictEntry),es[i]?=some e->∃kv,vs[i]?=some kv/\(A3 P w).is kv.1 e.key=true
 | _,_,.nil,i,e,h=>by simp at h
 | _,_,.cons h1 h2 r,0,e,h=>by
   have h:=ae (show some _=some e from h)
   subst h
   exact⟨_,rfl,h1⟩
 | _,_,.cons h1 h2 r,i+1,e,h=>by
   obtain⟨kv,g1,g2⟩:=Xr r i e (by simpa using h)
   exact⟨kv,by simpa using g1,g2⟩
theorem Xs:∀{xs:List V} {us:List qG},us.length=xs.length->(∀(j:Nat) (v:V) (u:qG),xs[j]?=some v->us[j]?=some u->RelV v u)->Vals xs us
 | [],[],_,_=>.nil
 | x::xs,u::us,hl,h=>.cons (h 0 x u rfl rfl) (Xs (by simpa using hl) λj v u' h1 h2=>h (j+1) v u' (by simpa using h1) (by simpa using h2))
section
variable {X:Cx}{pins:List (qH×Obj)}{σ:L2.St}{H:Hp}{s:qI}
theorem Xt{A:qM}{d:qH}{kvs:List (Key×V)}{R:List qG->qI->Prop}{E:qG->qI->Prop}(hd:HH.Hd A s.heap)(I:Inv X pins σ H s)(e:H d=some (.dK kvs))
   (k:∀(h':rB) (tk:Nat) (us:List qG),(∀b o,s.heap.get? b=some o->h'.get? b=some o)->Vals (kvs.map λkv=>kV kv.1) us->R us { s with heap:=h',toks:=tk }):qX (rj X.prog X.w) A (collect (.ref d)) R E s:=by
 obtain⟨hz,lo,vs,rk,o,es,ep,g1,g2,g3,g4,g5,g6⟩:=(show A8 X.prog X.w H s.heap d (.dK kvs) from I.hok d _ e)
 have l1:=KV.length rk;have l2:es.size=kvs.length:=by rw[l1,<-g5.length,ib]
 refine HH.collectD hd lo ⟨o,g1,g2,g3⟩ (by rw[l2];exact hz) λh' tk acc hk hacc=>k h' tk _ hk (Xs (by rw[ε,ib,hacc.1,l2]) λj v u h1 h2=>?_);obtain⟨hi,eu⟩:=hacc.2 j u (by rw[<-lq];exact h2);rw[Ψ] at h1;obtain⟨kv,hkv,rfl⟩:=ai.mp h1;obtain⟨u',hu'⟩:=vz rk (i:=j) (k:=kv.1) (v:=kv.2) (by rw[hkv]);obtain⟨kv2,g7,g8⟩:=Xr g5 j es[j] (by rw[lq,cy hi]);rw[hu'] at g7;cases g7;rw[eu];exact fF g8
theorem Xu(kvs:List (Int×Int)):((kvs.map dkE).map λkv=>kV kv.1)=(kvs.map (·.1)).map V.int:=by
 rw[du,du];rfl
theorem QJ(hc:X.calm=true):DW X (.builtin "sorted") (λxs H Q=>∃d,∃kvs:List (Int×Int),xs=[.ref d]/\H d=some (.dK (kvs.map dkE))/\kvs.length<64/\∀D (ms:List Int),H D=none->ms.Perm (kvs.map (·.1))->ms.Pairwise (·<=·)->Q (.ref D) (upd H D (.lst (ms.map V.int)))):=by
 intro pins s σ H xs us Q I r h;obtain⟨d,kvs,rfl,e,h64,q⟩:=h;obtain⟨u,rfl,rx⟩:=Ic r;cases rx;refine Calls.call_function_entry kind_sorted plain_sorted entry_sorted (args_sorted1 _) ?_;unfold Builtin.«sorted»;refine qU (m:=checkCount "sorted" 1 1 _) (qV ?_);refine qU (Xt (A:=X.A.in1) (I.hd hc) I e λh' tk acc hk hv=>?_);rw[Xu] at hv;have hal:acc.length=kvs.length:=by rw[<-hv.length,ε,ε]
 refine qU (wpAny_newList ?_ (by rw[hal,sizeLine_eq];omega));have hoL:(h'.push (seqObj "list" acc.toArray 0)).get? h'.objs.size=some (seqObj "list" acc.toArray 0):=Ω _ rfl;refine qU (wpAny_holding (wpAny_call_entry slot_list_sort (s:={ s with heap:=h'.push (seqObj "list" acc.toArray 0),toks:=tk }) ⟨_,hoL,rfl⟩ entry_list_sort (list_sort_tree hoL (Ih hv) (by omega) λout ns' a1 a2 a3=>⟨_,rfl,?_⟩) (args_list_sort _)));obtain⟨c,hc'⟩:=sortedHeap_at (out:=out) hoL;have kp:∀b o,h'.get? b=some o->(sortedHeap (h'.push (seqObj "list" acc.toArray 0)) h'.objs.size acc out).get? b=some o:=λb o hb'=>by
   have hlt:=ξ hb';have e1:=size_push' h' (seqObj "list" acc.toArray 0);rw[sortedHeap_old (al hlt) (by rw[e1];exact df hlt),Heap.get?_push_ne _ _ _ (al hlt)];exact hb'
 have I2:Inv X pins σ H { s with heap:=h',toks:=tk }:=I.kept (t':=tk) hk;exact qV ⟨_,rfl,.ref h'.objs.size,_,I2.laid (t':=tk) kp (Θ _) (show A8 X.prog X.w _ _ _ (.lst (ns'.map V.int)) from ⟨by rw[ε,a2.length_eq,ε,sizeLine_eq];omega,out.toList,c,vals_ints a1,by rw[me];exact hc'⟩),rfl,q _ ns' (I2.hok.fresh (Θ _)) a2 a3⟩
end
def Xv(i:Nat)(P:qH)(lp:Pos)(q:Str):TE:=λσ H Q=>∃(d:qH) (kvs:List (Int×Int)),σ[i]?=some (some (.ref d))/\H d=some (.dK (kvs.map dkE))/\kvs.length<64/\(kvs.map (·.1)).Nodup/\TbOk H P lp q /\
 ∀(D:qH) (ms:List (Int×Int)) (H':Hp),H D=none->AF P H H'->TbOk H' P lp q->H' D=some (.lst ((ms.map (·.1)).map V.int))->ms.Perm kvs->ms.Pairwise (λa b=>a.2<=b.2)->Q (.ref D) H'
theorem fP{i:Nat}{P:qH}{lp:Pos}{q:Str}{σ:L2.St}{H:Hp}{Q:VK}(h:∃(d:qH) (kvs:List (Int×Int)),σ[i]?=some (some (.ref d))/\H d=some (.dK (kvs.map dkE))/\kvs.length<64/\(kvs.map (·.1)).Nodup/\TbOk H P lp q /\
 ∀(D:qH) (ms:List (Int×Int)) (H':Hp),H D=none->AF P H H'->TbOk H' P lp q->H' D=some (.lst ((ms.map (·.1)).map V.int))->ms.Perm kvs->ms.Pairwise (λa b=>a.2<=b.2)->Q (.ref D) H'):Xv i P lp q σ H Q:=h
theorem fQ:∀{kvs:List (Int×Int)} {us:List qG} {out:List qG} {b:Bool},IntsAre us (kvs.map (·.1))->KskOut b (kvs.map (·.2)) us out->∃ms:List (Int×Int),ms.Perm kvs/\IntsAre out (ms.map (·.1))/\ms.Pairwise (λp q=>if b then q.2<=p.2 else p.2<=q.2):=by
 intro kvs us out b hi ⟨ps,h1,h2,h3⟩
 -- the values carry the keys: ps are pairs (place,value of the handle)
 have key:∀{kvs:List (Int×Int)} {us:List qG},IntsAre us (kvs.map (·.1))->∃ts:List (Int×Int×Tok),(kvs.map (·.2)).zip us=ts.map (λt=>(t.1,Value.int t.2.1 t.2.2))/\kvs=ts.map (λt=>(t.2.1,t.1)):=by
   intro kvs
   induction kvs with
   | nil=>intro us h;cases h;exact⟨[],rfl,rfl⟩
   | cons p r ih =>
     intro us h;cases h with
     | cons n t h =>
       obtain⟨ts,e1,e2⟩:=ih h;exact⟨(p.2,p.1,t)::ts,by simp [e1],by rw[ar,<-e2]⟩
 obtain⟨ts,e1,e2⟩:=key hi;rw[e1] at h1;obtain⟨rs,hp,hr⟩:∃rs:List (Int×Int×Tok),rs.Perm ts/\ps=rs.map (λt=>(t.1,Value.int t.2.1 t.2.2)):=by
   have gen:∀{ps qs:List (Int×qG)},ps.Perm qs->∀ts:List (Int×Int×Tok),qs=ts.map (λt=>(t.1,Value.int t.2.1 t.2.2))->∃rs:List (Int×Int×Tok),rs.Perm ts/\ps=rs.map (λt=>(t.1,Value.int t.2.1 t.2.2)):=by
     intro ps qs p
     induction p with
     | nil=>intro ts e;exact⟨[],by rw[gk.mp e.symm],rfl⟩
     | cons x p ih =>
       intro ts e;cases ts with
       | nil=>cases e
       | cons t ts =>
         rw[ar] at e;obtain⟨e1,e2⟩:=oy.inj e;obtain⟨rs,h1,h2⟩:=ih ts e2;exact⟨t::rs,h1.cons t,by rw[ar,<-e1,h2]⟩
     | swap x y l =>
       intro ts e
       match ts,e with
       | t1::t2::ts,e =>
         rw[ar,ar] at e;obtain⟨e1,e2⟩:=oy.inj e;obtain⟨e3,e4⟩:=oy.inj e2;exact⟨t2::t1::ts,.swap _ _ _,by rw[ar,ar,<-e1,<-e3,<-e4]⟩
     | trans p1 p2 ih1 ih2 =>
       intro ts e;obtain⟨rs,h1,h2⟩:=ih2 ts e;obtain⟨rs',h3,h4⟩:=ih1 rs h2;exact⟨rs',h3.trans h1,h4⟩
   exact gen h1 ts rfl
 refine⟨rs.map (λt=>(t.2.1,t.1)),by rw[e2];exact hp.map _,?_,?_⟩
 . rw[h2,hr,du,du];clear hp hr h2 h3 h1
   induction rs with
   | nil=>exact .nil
   | cons t rs ih=>exact .cons _ _ ih
 . rw[hr,iu] at h3;rw[iu];exact h3
theorem Xw:∀{kvs:List (Int×Int)} {p:Int×Int},(kvs.map (·.1)).Nodup->p∈kvs->tM (kvs.map dkE) (.inl p.1)=some (.int p.2)
 | q::r,p,nd,m=>by
   rw[ar,ed] at nd
   rw[ar]
   rcases χ.mp m with e | m
   . subst e
     simp [tM,dkE]
   . have ne:q.1≠p.1:=λc=>nd.1 (by rw[c];exact am.mpr ⟨p,m,rfl⟩)
     have ih:=Xw nd.2 m
     simp only [tM,dkE,fj] at ih ⊢
     rw[show decide ((Sum.inl q.1:Key)=Sum.inl p.1)=false by simpa using ne]
     exact ih
theorem fR{X:Cx}{i:Nat}{P:qH}{q:Str}{p1 p2 p3 p4 p5 p6 pa cpos lp:Pos}{k:Nat}(hc:X.calm=true)(hr:Room k X.A)(LF:wm X.K X.mg X.env.code P)(hq:X.env.qual++"<lambda>"=q)
   (hg:Gl X "sorted") (hm:X.mg "sorted"=none) (hN:X.N[i]?=some (av "places")) (hv:X.env.scope.names.lookup (av "places")=some .cell):
   PE X (.Call (.Name "sorted" p1) [.Name "places" p2] [⟨some "key",.Lambda (lamA pa) (lamB p3 p4 p5) we lp,p6⟩] cpos) (Xv i P lp q):=by
 intro pins s σ H Q I h;obtain⟨d,kvs,e0,hd,h64,nd,tb,q2⟩:=h;refine wpAny_Call_Name_kw (E7 I hg hm (show bootBuiltins "sorted"=some (.builtin "sorted") from gi) ?_);have ha:PA X [.Name (av "places") p2] (Nr (vX i) ur):=Aa (VP hN (.inr (.inl hv))) Ab;refine kb (thn (ha cpos pins s σ H (λvs H'=>vs=[V.ref d]/\H'=H) I ⟨_,e0,rfl,rfl⟩) λus s1 ⟨vs,H1,I1,r1,ev,eH⟩=>?_);subst ev eH;obtain⟨u0,rfl,rx⟩:=Ic r1;cases rx;have hkc:X.env.kindOf "places"=some .cell:=hv;obtain⟨cl,hcl,cl1,cl2⟩:=Qx (scope:=we) (env:=X.env) (λx hx hf=>by
   rcases χ.mp hx with rfl | hx
   . cases hf
   . rw[be.mp hx];exact I1.ok.has "places" (.inl hkc))
 obtain⟨cc,hcc⟩:=cl2 (av "places",.free) (by simp) rfl;have hcc0:=cl1 _ cc hcc;refine show qX _ _ (evalAll [(do let v <-rh _ X.env;standAt cpos;pure v)]) _ _ s1 from wpAny_evalAll_cons (qU ?_);refine fN I1 LF tb hcl hq rfl λf c ctv pm H2 s2 I2 hf hcr kp tb2 fr2=>qU (wpAny_standAt (qV (wpAny_evalAll_nil ?_)));have hcell:s2.heap.IsCell cc (some (.ref d)):=by
   obtain⟨m,hn,hl⟩:=I2.loc;obtain⟨u,ru,lk⟩:=hl i _ (.ref d) hN e0 (.inr (.inl hv));cases ru;rcases lk with ⟨hk,_⟩ | ⟨_,c2,h1,h2⟩
   . rw[hkc] at hk;cases hk
   . rw[hcc0] at h1;cases h1;exact h2
 have dP:d≠P:=λz=>by obtain⟨ps,hP,_⟩:=tb;rw[<-z,hd] at hP;cases hP
 have hd2:=kp d _ dP hd;refine show qX _ _ (call (.builtin "sorted") [.ref d] [(av "key",.ref f)]) _ _ s2 from call_function_entry_kw kind_sorted plain_sorted entry_sorted (ksk_s1 _ _) ?_;unfold Builtin.«sorted»;refine qU (m:=checkCount "sorted" 1 1 _) (qV ?_);refine qU (Xt (A:=X.A.in1) (I2.hd hc) I2 hd2 λh' tk acc hk hvs=>?_);rw[Xu] at hvs;have I3:Inv X pins σ H2 { s2 with heap:=h',toks:=tk }:=I2.kept (t':=tk) hk;have hal:acc.length=kvs.length:=by rw[<-hvs.length,ε,ε]
 have hia:=Ih hvs;refine qU (wpAny_newList ?_ (by rw[hal,sizeLine_eq];omega));have hoL:(h'.push (seqObj "list" acc.toArray 0)).get? h'.objs.size=some (seqObj "list" acc.toArray 0):=Ω _ rfl;have kL:∀b o,h'.get? b=some o->(h'.push (seqObj "list" acc.toArray 0)).get? b=some o:=λb o e=>ζ _ e;refine qU (wpAny_holding (wpAny_call_entry_kw slot_list_sort (s:={ s2 with heap:=h'.push (seqObj "list" acc.toArray 0),toks:=tk }) ⟨_,hoL,rfl⟩ entry_list_sort ?body (ksk_l1 _ _)))
 case body =>
 rw[ksk_t1];obtain⟨m,hn,_⟩:=I3.loc;have hnL:(h'.push (seqObj "list" acc.toArray 0)).Ns X.env.locals m:=hn.keeps kL;have neL:h'.objs.size≠X.env.locals:=ip I3.lt;obtain⟨hz,lo,vs,rk,dd⟩:=NR I3.hok hd2;have nl:h'.NoLimit:=I3.nolimit;refine ksk_sort (s:={ s2 with heap:=h'.push (seqObj "list" acc.toArray 0),toks:=tk }) (h₀:=Att.noObjs h') (L:=X.env.locals) (m:=m) (news:=Att.ledger h' X.env.locals X.env.locals) (a:=h'.objs.size) (vs:=acc) (kz:=kvs.map (·.2)) (b:=false)
   ⟨hnL,λb o e=>(by rw[Att.noObjs_get] at e;cases e),gf _⟩ (λp hp=>?_) hoL neL (Att.noObjs_get _ _) (λp hp=>?_) (by rw[ε,hal]) (by rw[hal];exact h64) (λj v kz hv hkz hh tk' own F' N'=>?_) λh2 tk2 out c2 F2 N2 ko=>?_
 . obtain⟨p1,p2⟩:=p;obtain⟨n1,_,e⟩:=Att.mem_ledger.mp hp;exact⟨kL _ _ e,n1,Att.noObjs_get _ _⟩
 . obtain⟨p1,p2⟩:=p;obtain⟨_,_,e⟩:=Att.mem_ledger.mp hp;exact al (ξ e)
 . have all:∀b o,b≠X.env.locals->h'.get? b=some o->hh.get? b=some o:=λb o nb e=>(N' (b,o) (Φ _ (Att.mem_ledger.mpr ⟨nb,nb,e⟩))).1;rw[Ψ] at hkz;obtain⟨kv,hkv,ek⟩:=ai.mp hkz;have ek:kv.2=kz:=ek;obtain⟨u,hu,ru⟩:=hvs.get (i:=j) (x:=V.int kv.1) (by rw[Ψ,Ψ,hkv];rfl);rw[hv] at hu;cases hu;obtain⟨t0,rfl⟩:=ru;have nd1:∀{b:qH} {o:Obj},s2.heap.get? b=some o->(∀es ep,o.data≠.dict es ep)->hh.get? b=some o:=λ{b o} e nd=>all b o (λz=>by
     obtain⟨oL,es,ep,e1,e2,_⟩:=hn;have e3:=hk b o e;rw[z,e1] at e3;cases e3;exact nd _ _ e2) (hk b o e)
   have dL:d≠X.env.locals:=λe=>by have:=I3.free;rw[<-e,hd2] at this;cases this
   have dd':hh.DictOf (A3 X.prog X.w) d vs:=by
     obtain⟨o,es,ep,g1,g2⟩:=dd;exact⟨o,es,ep,all _ _ dL g1,g2⟩
   have hval:tM (kvs.map dkE) (.inl kv.1)=some (.int kz):=by
     rw[<-ek];exact Xw nd (Δ hkv)
   obtain⟨uv,huv,rv⟩:=RelO.some_of (v:=.int kz) (o:=valueAt vs (.inl kv.1)) (by rw[<-hval];exact rk.val _);obtain⟨t1,rfl⟩:=rv;have nl2:hh.NoLimit:=by
     obtain⟨mc,hmc,e⟩:=nl;obtain⟨o,es,ep,g1,g2⟩:=hmc;refine⟨mc,⟨o,es,ep,all _ _ (λz=>?_) g1,g2⟩,e⟩;obtain⟨mb,hmb,_⟩:=I3.ok.mod.nolimit;obtain⟨o',_,_,f1,_⟩:=hmb;have:=ao (ξ (I3.ok.bs _ _ f1).1) I3.ok.above;rw[z] at this;exact bh _ this
   obtain⟨cq,oq,vq,tq,e1,g1,g2,g3⟩:=hcr;cases e1;obtain⟨oc,gc1,gc2⟩:=hcell;refine fO (s:={ s2 with heap:=hh,toks:=tk' }) (k:=.inl kv.1) (vs:=vs) (cc:=cc) (d:=d) (by have:=hr.dp;show X.A.depth<_;omega) nl2 (nd1 hf (λ_ _ z=>nomatch z)) ⟨c,oq,vq,tq,rfl,nd1 g1 (λes ep z=>by rw[g2] at z;cases z),g2,g3⟩ hcc ⟨oc,nd1 gc1 (λes ep z=>by rw[gc2] at z;cases z),gc2⟩ dd' (by exact Eh (P:=X.prog) (w:=X.w) (k:=.inl kv.1) ⟨t0,rfl⟩) huv λh3 tk3 k3=>?_;exact⟨h3,tk3,t1,rfl,rfl,⟨F'.ns.keeps k3,λb o e=>(by rw[Att.noObjs_get] at e;cases e),F'.above⟩,λp hp=>⟨k3 _ _ (N' p hp).1,(N' p hp).2⟩⟩
 . obtain⟨ms,hp,hi,hs⟩:=fQ hia ko;have kp2:∀b o,b≠X.env.locals->h'.get? b=some o->h2.get? b=some o:=λb o nb e=>(N2 (b,o) (ι _ (Att.mem_ledger.mpr ⟨nb,nb,e⟩))).1;have eD:h2.get? h'.objs.size=some (seqObj "list" out c2):=(N2 _ Ξ).1;have nD:H2 h'.objs.size=none:=I3.hok.fresh (Θ _);have hml:ms.length=kvs.length:=hp.length_eq;have I4:Inv X pins σ (upd H2 h'.objs.size (.lst ((ms.map (·.1)).map V.int))) { s2 with heap:=h2,toks:=tk2 }:=by
     have fL:=I3.free;have lt:∀b o,h'.get? b=some o->b≠h'.objs.size:=λb o e=>al (ξ e);have un:∀b u,H2 b=some u->upd H2 h'.objs.size (.lst ((ms.map (·.1)).map V.int)) b=some u:=λb u e=>by rw[AC (λz=>by rw[z,nD] at e;cases e)];exact e
     have nL:∀b u,H2 b=some u->b≠X.env.locals:=λb u e z=>by rw[z,fL] at e;cases e
     refine L2.Inv.step (s:={ s2 with heap:=h',toks:=tk }) (h':=h2) (t':=tk2) (g':=s2.gens) (d':=s2.drawn) (ch:=[]) I3 (λ_ z=>nomatch z) (λb o nb _ _ e _=>kp2 b o nb e) (λb o nb _ _ e _=>⟨o.slots,kp2 b o nb e⟩) (λb o _ e n=>by rw[AC (lt b o e)];exact n) (λb o _ e=>?_) (λb xs e=>un b _ e) (λb o u e=>un b _ e) (λb ps e=>⟨#[],by rw[un b _ e];simp⟩) (λm' hm'=>by rw[vp hm' hn];exact F2.ns) (λb u e=>?_) I3.bare
     . by_cases z:b=X.env.locals
       . obtain⟨o',_,_,g,_⟩:=F2.ns;rw[z];exact⟨o',g⟩
       . exact⟨o,kp2 b o z e⟩
     . by_cases z:b=h'.objs.size
       . subst z;rw[upd_same] at e;cases e;exact⟨by rw[ε,ε,hml,sizeLine_eq];omega,out.toList,c2,vals_ints hi,by rw[me];exact eD⟩
       . rw[AC z] at e;refine(I3.hok b u e).stay (λc v hc r=>kp2 c v ?_ r) (λc r=>un c _ r) λc xs r=>un c _ r;rcases hc with w | w
         . rw[w];exact nL b u e
         . exact nL c _ w
   refine⟨_,rfl,qV ⟨_,rfl,.ref h'.objs.size,_,I4,rfl,q2 _ ms _ (fr2 _ nD) (λb o hb e=>?_) ?_ upd_same hp (hs.imp λ{a b} z=>z)⟩⟩
   . rw[AC (λz=>by rw[z] at e;have:=kp _ _ (λw=>hb (z.trans w)) e;rw[nD] at this;cases this)];exact kp b o hb e
   . exact tb2.keep λb o e _=>by rw[AC (λz=>by rw[z,nD] at e;cases e)];exact e
end Stow
namespace HH
open PySem L2 PyProof.Rows
section
variable {P:qK}{w:qL}{A:qM}{E:qG->qI->Prop}{s:qI}
theorem fT{it l:qH}{i:Nat}{items:Array qG}{Q:qG->qI->Prop}(hd:Hd A s.heap)(st:s.heap.IsListIter it l i)(p:s.heap.IsList l items)(hi:items[i]?=none)
   (q:∀h' e,gc it s.heap h'->(∃o,h'.get? e=some o/\o.cls = .type "StopIteration")->E (.ref e) { s with heap:=h' }):qX (rj P w) A (Builtin.SmallTypes.nextOf (.ref it)) Q E s:=by
 have T:=st.typeIs;obtain⟨o,h1,h2,h3⟩:=id st;obtain⟨ol,g1,g2,n,g3⟩:=p;unfold Builtin.SmallTypes.nextOf;refine qU (wpAny_callSpecial?_slot (name:=av "__next__") T slot_listiter_next (wpAny_call_entry slot_listiter_next T entry_listiter_next ?_));refine qU (qV (qU (wpAny_field h1 h3 rfl ?_)));refine show qX _ _ (if (Value.ref l==Value.none)=true then _ else _) _ _ s from ?_;rw[if_neg (by exact η)];refine qU (wpAny_field h1 h3 rfl (qU (wpAny_seqItems g1 g3 ?_)));simp only [dr,hi];refine qU (wpAny_rule (qU (wpAny_setField h1 h3 (by simp) ?_)));refine stopAny ((hd.in1).but h1 h3 (λc z=>nomatch z) (bu.update ..).extBut) λh' e kp he=>?_;exact q _ e (λb o' hb e=>kp b o' ((bu.update ..).extBut b o' hb e)) he
theorem fU{M:rD}{a:qH}{Q:Option Obj->qI->Prop}(h:Q (s.heap.get? a) s):qX M A (loadIfAlive a) Q E s:=by
 intro Γ p hp;exact h
abbrev Zip2(h:rB)(z TI TO T:qH)(b:Bool):Prop:=h.get? z=some { cls:=.type "zip",dict:=none,data:=.fields #[rawInt T,.bool b,.bool false,.ref TI,.ref TO],slots:=#[] }
theorem Xx{z TI TO T:qH}{b:Bool}{oT:Obj}{Q:Bool->qI->Prop}(hz:Zip2 s.heap z TI TO T b)(hT:s.heap.get? T=some oT)(q:∀h',Zip2 h' z TI TO T true->bu z s.heap h'->Q false { s with heap:=h' }):qX (rj P w) A (Builtin.SmallTypes.ownedTupleIsFree (.ref z)) Q E s:=by
 unfold Builtin.SmallTypes.ownedTupleIsFree;refine qU (wpAny_field hz rfl (x:=rawInt T) rfl ?_);refine show qX _ _ (loadIfAlive ((T:Int)).toNat >>= _) _ _ s from qU (fU ?_);rw[dr,hT];refine show qX _ _ (field (.ref z) 1 >>= _) _ _ s from qU (wpAny_field hz rfl (x:=.bool b) rfl ?_);cases b with
 | true=>exact qV (q _ hz ⟨rfl,λ_ _=>rfl⟩)
 | false =>
   refine show qX _ _ (setField (.ref z) 1 (.bool true) >>= _) _ _ s from qU (wpAny_setField_rec hz (by simp) λh1 hz1 hs1=>qV (q h1 hz1 hs1))
theorem zip_more{z TI TO T i1 i2 l1 l2:qH}{b:Bool}{oT:Obj}{k:Nat}{xs ys:Array qG}{x y:qG}{Q:Option qG->qI->Prop}(D:ZipApart z TI TO i1 i2 l1 l2)(hz:Zip2 s.heap z TI TO T b)(hT:s.heap.get? T=some oT)(hTI:IsPair s.heap TI (.ref i1) (.ref i2))
   (h1:s.heap.IsListIter i1 l1 k) (h2:s.heap.IsListIter i2 l2 k) (hl1:s.heap.IsList l1 xs) (hl2:s.heap.IsList l2 ys) (hx:xs[k]?=some x) (hy:ys[k]?=some y)
   (q:∀h',Zip2 h' z TI TO T true->h'.IsListIter i1 l1 (k+1)->h'.IsListIter i2 l2 (k+1)->IsPair h' s.heap.objs.size x y->h'.objs.size=s.heap.objs.size+1->(∀c o,c≠z->c≠i1->c≠i2->s.heap.get? c=some o->h'.get? c=some o)->Q (some (.ref s.heap.objs.size)) { s with heap:=h' }):
   qX (rj P w) A (pyNext (.ref z)) Q E s:=by
 have hTy:s.TypeIs (.ref z) "zip":=⟨_,hz,rfl⟩
 unfold pyNext;refine qU (wpAny_attempt (wpAny_callSpecial?_slot (name:=av "__next__") hTy F.slot_zip_next (wpAny_call_entry F.slot_zip_next hTy F.entry_zip_next ?_ (F.args_zip_next_1 _))));refine show qX _ _ (field (.ref z) 2 >>= _) _ _ _ from qU (wpAny_field hz rfl (x:=.bool false) rfl ?_);refine show qX _ _ (field (.ref z) 3 >>= _) _ _ _ from qU (wpAny_field hz rfl (x:=.ref TI) rfl (qU (wpAny_seqItems hTI rfl ?_)));refine show qX _ _ (Builtin.SmallTypes.ownedTupleIsFree (.ref z) >>= _) _ _ _ from qU (Xx hz hT λg1 hz1 s1=>?_);simp only [bq,if_false];refine qU ?_;simp only [my,je,pp];refine qU (qU (wpAny_holding ?_));refine show qX _ _ (Builtin.SmallTypes.nextOf (.ref i1) >>= _) _ _ _ from qU (wpAny_nextOf_list_item (h1.extBut s1.extBut D.i1z) (hl1.extBut s1.extBut D.l1z) hx λg2 h12 s2=>qV ?_);refine qV ?_;dsimp only;refine qU (qU (wpAny_holding ?_));refine show qX _ _ (Builtin.SmallTypes.nextOf (.ref i2) >>= _) _ _ _ from qU (wpAny_nextOf_list_item ((h2.extBut s1.extBut D.i2z).extBut s2.extBut D.i12.symm) ((hl2.extBut s1.extBut D.l2z).extBut s2.extBut D.l2i1) hy λg3 h23 s3=>qV ?_);refine qV ?_;dsimp only;refine qV (qU (wpAny_newTuple (qV ⟨_,rfl,qV ?_⟩) (by show 2<=qT;decide)));have hsz:g3.objs.size=s.heap.objs.size:=by rw[s3.1,s2.1,s1.1]
 have up:∀c o,g3.get? c=some o->(g3.push { cls:=.type "tuple",data:=.seq #[x,y] }).get? c=some o:=λc o e=>ζ _ e;have np:IsPair (g3.push { cls:=.type "tuple",data:=.seq #[x,y] }) s.heap.objs.size x y:=by rw[<-hsz];exact Ω _ rfl
 refine show Q (some (.ref g3.objs.size)) _ from ?_;rw[hsz];exact q _ (up _ _ (s3.extBut _ _ D.i2z.symm (s2.extBut _ _ D.i1z.symm hz1))) ((h12.extBut s3.extBut D.i12).at λo e=>up _ o e) (h23.at λo e=>up _ o e) np (by rw[bo,hsz]) λc o c1 c2 c3 e=>up _ _ (s3.extBut _ _ c3 (s2.extBut _ _ c2 (s1.extBut _ _ c1 e)))
theorem zip_stop{z TI TO T i1 i2 l1 l2:qH}{b:Bool}{oT:Obj}{k:Nat}{xs:Array qG}{Q:Option qG->qI->Prop}(hd:Hd A s.heap)(D:ZipApart z TI TO i1 i2 l1 l2)(hz:Zip2 s.heap z TI TO T b)(hT:s.heap.get? T=some oT)(hTI:IsPair s.heap TI (.ref i1) (.ref i2))
   (h1:s.heap.IsListIter i1 l1 k) (hl1:s.heap.IsList l1 xs) (hx:xs[k]?=none)
   (q:∀h',(∀c o,c≠z->c≠i1->s.heap.get? c=some o->h'.get? c=some o)->Q none { s with heap:=h' }):qX (rj P w) A (pyNext (.ref z)) Q E s:=by
 have hTy:s.TypeIs (.ref z) "zip":=⟨_,hz,rfl⟩
 unfold pyNext;refine qU (wpAny_attempt (wpAny_callSpecial?_slot (name:=av "__next__") hTy F.slot_zip_next (wpAny_call_entry F.slot_zip_next hTy F.entry_zip_next ?_ (F.args_zip_next_1 _))));refine show qX _ _ (field (.ref z) 2 >>= _) _ _ _ from qU (wpAny_field hz rfl (x:=.bool false) rfl ?_);refine show qX _ _ (field (.ref z) 3 >>= _) _ _ _ from qU (wpAny_field hz rfl (x:=.ref TI) rfl (qU (wpAny_seqItems hTI rfl ?_)));refine show qX _ _ (Builtin.SmallTypes.ownedTupleIsFree (.ref z) >>= _) _ _ _ from qU (Xx hz hT λg1 hz1 s1=>?_);simp only [bq,if_false];refine qU ?_;simp only [my,je,pp];refine qU (qU (wpAny_holding ?_));have hd1:Hd A.in1 g1:=(hd.in1).but hz rfl (λc e=>by
   have e:some (Value.bool false)=some c:=e;cases e;exact⟨λh=>(nomatch h),λb h=>(nomatch h)⟩) s1.extBut
 refine show qX _ _ (Builtin.SmallTypes.nextOf (.ref i1) >>= _) _ _ _ from qU (fT (s:={ s with heap:=g1 }) hd1 (h1.extBut s1.extBut D.i1z) (hl1.extBut s1.extBut D.l1z) hx λh' e eb ⟨o,e1,e2⟩=>?_);refine qU (wpAny_isInstance (b:=true) (T:="StopIteration") ⟨_,e1,e2⟩ isSubtype_stop (qV (q h' λc o c1 c2 e=>eb c o c2 (s1.extBut _ _ c1 e))))
theorem Xy:typeLookup (.type "zip") "keys"=pure none:=am_miss_of_fast (by decide +kernel)
theorem fV:typeLookup (.type "zip") "__getattr__"=pure none:=am_miss_of_fast (by decide +kernel)
theorem fW:entryFor table "zip.__getattribute__"=some Builtin.«object.__getattribute__»:=entryFor_alias (id':="object.__getattribute__") (by kernel_rfl) (by decide +kernel) (by decide +kernel) (by kernel_rfl)
theorem fX{α:Type}{o:qG}{name msg:Str}{Q:α->qI->Prop}(hd:Hd A s.heap)
   (h:∀h' tk e ob,(∀b u,s.heap.get? b=some u->h'.get? b=some u)->h'.get? e=some ob->ob.cls = .type "AttributeError"->ob.dict=none->(∃t u c,ob.data = .fields #[t,.none,c,.none,.bool false,.none,.str name u,o])->E (.ref e) { s with heap:=h',toks:=tk }) (hm:msg.length<=qT:=by size_fits):
   qX (rj P w) A (raiseAttrError o name msg:rq α) Q E s:=by
 obtain⟨cs,hl,hn,st⟩:=hd;unfold raiseAttrError;refine qU (wpAny_mkStr (qU ?_) hm);unfold newExc newTuple;refine qU (wpAny_newObj_type ?_ (by size_fits));refine qU (m:=firstArgMember _ _) (wpAny_of_eq (a:=Value.none) (by simp only [firstArgMember,attrError_no_first];rfl) ?_);rw[ownMembersOf_AttributeError];refine wpAny_newObj_type ?_ (by size_fits);obtain⟨hp,g,d,tk,os⟩:=s;have f1:=sub_AttributeError
 repeat (any_goals (first | assumption | wp_step))
 dsimp only;have lt:∀b u,hp.get? b=some u->(hp.push { cls:=.type "tuple",data:=.seq #[.str msg tk] }).objs.size≠b:=λb u e=>by
   rw[bo];exact ip (df (ξ e))
 refine raiseAny (cs:=cs) hl (st.keeps λb u e=>(ω _ _ (lt b u e)).trans (ζ _ (ζ _ e))) (λp hp' z=>lt _ _ (st p hp') z.symm) (bb _ (Ω _ rfl) rfl) rfl rfl λh' o' c r kq e1 e2 e3 e4 _ _=>?_;exact h h' _ _ o' (λb u e=>kq b u (bd (lt b u e)) ((ω _ _ (lt b u e)).trans (ζ _ (ζ _ e)))) e1 e2 e3 ⟨_,_,c,e4⟩
end
theorem fY(z TI TO:qH)(f0:qG)(u:Tok):Meets (Builtin.«object.__getattribute__» ⟨[.ref z,.str (av "keys") u],[]⟩) (λA R s=>IsZip s.heap z TI TO f0/\Hd A s.heap/\∀h' tk e ob,(∀b o,s.heap.get? b=some o->h'.get? b=some o)->h'.get? e=some ob->ob.cls = .type "AttributeError"->ob.dict=none->(∃t v c,ob.data = .fields #[t,.none,c,.none,.bool false,.none,.str (av "keys") v,.ref z])->R (.error (.ref e)) { s with heap:=h',toks:=tk }) :=
 Meets.of_wp λprog w A R s hs=>by
   obtain⟨hp,g,d,tk,os⟩:=s
   obtain⟨hx,hd,hs⟩:=hs
   have hT:(⟨hp,g,d,tk,os⟩:qI).TypeIs (.ref z) "zip":=⟨_,hx,rfl⟩
   have f6:=Xy
   unfold Builtin.«object.__getattribute__»
   repeat (any_goals (first | assumption | wp_step))
   try simp only [show (["__module__","__name__","__qualname__","__doc__","__annotations__"]:List Str).contains (av "keys")=false by decide +kernel,bq,if_false]
   repeat (any_goals (first | assumption | wp_step))
   exact fX hd (λh' tk e ob k1 k2 k3 k4 k5=>hs h' tk e ob k1 k2 k3 k4 k5) (attrMsg_fits (by decide +kernel) (by decide +kernel))
section
variable {P:qK}{w:qL}{A:qM}{E:qG->qI->Prop}{s:qI}
theorem zip_keys{z TI TO:qH}{f0:qG}{Q:Option qG->qI->Prop}(hd:Hd A s.heap)(hz:IsZip s.heap z TI TO f0)
   (h:∀h' tk,(∀b o,s.heap.get? b=some o->h'.get? b=some o)->Q none { s with heap:=h',toks:=tk }):qX (rj P w) A (getAttr? (.ref z) "keys") Q E s:=by
 obtain⟨hp,g,d,tk,os⟩:=s;have hT:∀tk',(⟨hp,g,d,tk',os⟩:qI).TypeIs (.ref z) "zip":=λ_=>⟨_,hz,rfl⟩
 have f1:=sub_AttributeError;have f3:=F.slot_zip_getattribute.lookup;have f4:=F.slot_zip_getattribute.bind (.ref z);have f5:=fV;have f6:=Xy;unfold getAttr? getAttrBy? getAttrBy
 repeat (any_goals (first | assumption | exact hT _ | ((with_reducible show qX _ _ (call (gu "zip.__getattribute__") _ _) _ _ _);refine call_meets F.slot_zip_getattribute (hT _) fW (F.args_zip_getattribute_2 _ _) (fY z TI TO f0 _) ⟨hz,hd,λh' tk' e ob k1 k2 k3 k4 k5=>?_⟩) | wp_step))
 obtain⟨t,v,c,k5⟩:=k5;obtain⟨oc,od,oD,oS⟩:=ob;simp only at k3 k4 k5;subst k3 k4 k5;refine show qX _ _ (getattributeRaised _ _ _ _ _ _ _) _ _ _ from ?_;unfold getattributeRaised
 repeat (any_goals (first | assumption | wp_step))
 exact h _ _ k1
end
end HH
namespace Stow
open PySem L2 PyProof.Rows
variable{kvs:List (Int×Int)}
theorem Xz:entryFor table "dict.update.loop"=some Builtin.«dict.update.loop»:=entryFor_of_fast (by kernel_rfl)
theorem Oa:plainId "dict.update.loop"=true:=by decide +kernel
section
variable {P:qK}{w:qL}{A:qM}{h0:rB}{d z TI TO T i1 i2 l1 l2:qH}{xs ys:Array qG}{ps:List (Key×qG)}{R:Result->qI->Prop}
theorem XA{s:qI}{t:qH}{key:qG}{q0:Key×qG}{i:Nat}{E:qG->qI->Prop}(hz:ps.length<=qT)(hn:(ps.map (·.1)).Nodup)(hq0:ps[i]?=some q0)(ht:IsPair s.heap t key q0.2)(hk:(A3 P w).is q0.1 key=true)(hd:s.heap.DictOf (A3 P w) d (ps.take i))
   (q:∀h',bu d s.heap h'->h'.DictOf (A3 P w) d (ps.take (i+1))->codeAny (rj P w) A (.builtin "dict.update.loop" ⟨[.ref d,.ref z,rawInt ((i+1:Nat):Int),.none],[]⟩) R { s with heap:=h',toks:=s.toks+1 }) (hE:∀e s',E e s'->R (.error e) s'):
   qX (rj P w) A.in1 (do
     holding [Value.ref t] do
       let pair <-(Builtin.Dict.pairItems (.ref t)).tryCatch λe=>do
         if !(<-isInstance e (.type "TypeError")) then throw e
         rule "dict.update.element-no-sequence"
         raiseError "TypeError" s!"cannot convert dictionary update sequence element #{(i : Int)} to a sequence"
       match pair with
       | [k,v]=>holding [k,v] (dictSet d k v)
       | l =>
         rule "dict.update.element-length"
         raiseError "ValueError" s!"dictionary update sequence element #{(i : Int)} has length {l.length}; 2 is required"
     again (.builtin "dict.update.loop" ⟨[.ref d,.ref z,rawInt ((i:Int)+1),.none],[]⟩)) (λfin s'=>match fin with | .done f=>R (.ok f) s' | .again c'=>c'.quiet=true/\codeAny (rj P w) A c' R s') (λe s'=>R (.error e) s') s:=by
 have hlt:i<ps.length:=(δ.mp hq0).1;refine qU (wpAny_holding (qU (wpAny_tryCatch ?_)));unfold Builtin.Dict.pairItems;refine qU (wpAny_typeOf (T:="tuple") ⟨_,ht,rfl⟩ ?_);rw[if_pos (by decide)];refine qU (wpAny_seqItems ht rfl (qV ?_));refine show qX _ _ (holding [key,q0.2] (dictSet d key q0.2)) _ _ _ from wpAny_holding (wpAny_dictSet_pairs hk hd (λh2 hd2 sb2=>?_) (by rw[ag];omega));have est:stored (ps.take i) q0.1 q0.2=ps.take (i+1):=by
   unfold stored;rw[if_neg,ap,hq0]
   . rfl
   . intro h;obtain⟨kv,g1,g2⟩:=ki.mp h;obtain⟨j,hj,ej⟩:=List.mem_take_iff_getElem.mp g1;have:=(og (i:=j) (j:=i) (by rw[ε];omega) hn).mp (by rw[Ψ,Ψ,hq0,ah (by omega),ej];show some kv.1=some q0.1;rw[of_decide_eq_true g2]);omega
 rw[est] at hd2;exact qV ⟨plainId_quiet Oa _,q h2 sb2 hd2⟩
theorem XB(hd:HH.Hd A h0)(D:ZipApart z TI TO i1 i2 l1 l2)(dz:d≠z)(d1:d≠i1)(d2:d≠i2)(dI:d≠TI)(dT:d≠T)(Tz:T≠z)(T1:T≠i1)(T2:T≠i2)(nz:h0.get? z=none)(n1:h0.get? i1=none)(n2:h0.get? i2=none)(nd:h0.get? d=none)
   (hl1:h0.IsList l1 xs) (hl2:h0.IsList l2 ys) (hx:xs.size=ps.length) (rel:∀(j:Nat) (q:Key×qG),ps[j]?=some q->∃key,xs[j]?=some key/\ys[j]?=some q.2/\(A3 P w).is q.1 key=true) (hn:(ps.map (·.1)).Nodup) (hz:ps.length<=qT):∀(m i:Nat) (s:qI) (b:Bool),ps.length-i=m->i<=ps.length ->
   HH.Zip2 s.heap z TI TO T b->(∃oT,s.heap.get? T=some oT)->IsPair s.heap TI (.ref i1) (.ref i2)->s.heap.IsListIter i1 l1 i->s.heap.IsListIter i2 l2 i->s.heap.DictOf (A3 P w) d (ps.take i)->(∀b o,h0.get? b=some o->s.heap.get? b=some o) ->
   (∀h' tk,(∀b o,h0.get? b=some o->h'.get? b=some o)->h'.DictOf (A3 P w) d ps->R (.ok (.ret .none)) { s with heap:=h',toks:=tk }) ->
   codeAny (rj P w) A (.builtin "dict.update.loop" ⟨[.ref d,.ref z,rawInt ((i:Nat):Int),.none],[]⟩) R s
 | m,i,s,b,em,hi,hzp,⟨oT,hT⟩,hI,it1,it2,hD,k0,q=>by
   have l1s:s.heap.IsList l1 xs:=hl1.at λo e=>k0 _ o e
   have l2s:s.heap.IsList l2 ys:=hl2.at λo e=>k0 _ o e
   refine codeAny_builtin Xz ?_
   rw[Around.under_plainId Oa _]
   unfold Builtin.«dict.update.loop»
   refine qU ?_
   by_cases hlt:i<ps.length
   . obtain⟨q0,hq0⟩:∃q0,ps[i]?=some q0:=⟨_,ah hlt⟩
     obtain⟨key,e1,e2,hk⟩:=rel i q0 hq0
     refine HH.zip_more D hzp hT hI it1 it2 l1s l2s e1 e2 λh1 z1 a1 a2 pr sz kp=>?_
     have hD1:h1.DictOf (A3 P w) d (ps.take i):=by
       obtain⟨o,es,ep,g1,g2⟩:=hD;exact⟨o,es,ep,kp _ _ dz d1 d2 g1,g2⟩
     refine XA (s:={ s with heap:=h1 }) (E:=λe s'=>R (.error e) s') hz hn hq0 pr hk hD1 (λh2 sb hD2=>?_) (λ_ _ e=>e);refine XB hd D dz d1 d2 dI dT Tz T1 T2 nz n1 n2 nd hl1 hl2 hx rel hn hz (ps.length-(i+1)) (i+1) { s with heap:=h2,toks:=s.toks+1 } true rfl hlt ((sb.2 _ (bd dz)).trans z1) ⟨oT,(sb.2 _ (bd dT)).trans (kp _ _ Tz T1 T2 hT)⟩ ((sb.2 _ (bd dI)).trans (kp _ _ D.TIz D.TIi1 D.TIi2 hI)) (a1.at λo e=>(sb.2 _ (bd d1)).trans e) (a2.at λo e=>(sb.2 _ (bd d2)).trans e) hD2 (λb o e=>(sb.2 b (λw=>by rw[w,nd] at e;cases e)).trans (kp b o (λw=>by rw[w,nz] at e;cases e) (λw=>by rw[w,n1] at e;cases e) (λw=>by rw[w,n2] at e;cases e) (k0 b o e))) λh' tk k3 hD3=>q h' tk k3 hD3
   . have ei:i=ps.length:=by omega
     refine HH.zip_stop (s:=s) (hd.keeps k0) D hzp hT hI it1 l1s (kt (by omega)) λh1 kp=>?_;refine show qX _ _ (Builtin.Dict.addKeywords d [] >>= _) _ _ _ from qU (qV (qV ?_));rw[ei,List.take_length] at hD;obtain⟨o,es,ep,g1,g2⟩:=hD;exact q h1 s.toks (λb o e=>kp b o (λw=>by rw[w,nz] at e;cases e) (λw=>by rw[w,n1] at e;cases e) (k0 b o e)) ⟨o,es,ep,kp _ _ dz d1 g1,g2⟩
termination_by m i=>m
decreasing_by omega
end
def XD(t:TA):TE:=λσ H Q=>t σ H λvs H1=>∃(l1 l2:qH) (xs ys:List Int),vs=[.ref l1,.ref l2]/\H1 l1=some (.lst (xs.map V.int))/\H1 l2=some (.lst (ys.map V.int))/\xs.Nodup/\xs.length=ys.length/\0<xs.length/\xs.length<=1000/\∀D,H1 D=none->Q (.ref D) (upd H1 D (.dK ((xs.zip ys).map dkE)))
theorem fZ{t:TA}{σ:L2.St}{H:Hp}{Q:VK}(h:t σ H λvs H1=>∃(l1 l2:qH) (xs ys:List Int),vs=[.ref l1,.ref l2]/\H1 l1=some (.lst (xs.map V.int))/\H1 l2=some (.lst (ys.map V.int))/\xs.Nodup/\xs.length=ys.length/\0<xs.length/\xs.length<=1000/\∀D,H1 D=none->Q (.ref D) (upd H1 D (.dK ((xs.zip ys).map dkE)))):XD t σ H Q:=h
theorem XE{P:qK}{w:qL}:∀{xs ys:List Int} {us vs:List qG},Vals (xs.map V.int) us->Vals (ys.map V.int) vs->xs.length=ys.length->∃pv:List (Key×qG),KV ((xs.zip ys).map dkE) pv/\pv.map (·.1)=xs.map Sum.inl/\pv.length=xs.length/\∀(j:Nat) (q:Key×qG),pv[j]?=some q->∃key,us[j]?=some key/\vs[j]?=some q.2/\(A3 P w).is q.1 key=true
 | [],[],_,_,.nil,.nil,_=>⟨[],.nil,rfl,rfl,λj q h=>by simp at h⟩
 | x::xs,y::ys,u::us,v::vs,.cons ru h1,.cons rv h2,hl=>by
   obtain⟨pv,k1,k2,k3,k4⟩:=XE (P:=P) (w:=w) h1 h2 (by simpa using hl)
   refine⟨(.inl x,v)::pv,.cons ⟨rfl,rv⟩ k1,by rw[ar,ar,k2],by simp [k3],λj q h=>?_⟩
   cases j with
   | zero =>
     have h:=ae (show some _=some q from h)
     subst h
     exact⟨u,rfl,rfl,Eh (k:=.inl x) ru⟩
   | succ j=>simpa using k4 j q (by simpa using h)
theorem gB{X:Cx}{p1 p2 p3 p4:Pos}{e:qN}{es:List qN}{t:TA}(hc:X.calm=true)(hgd:Gl X "dict")(hmd:X.mg "dict"=none)(hgz:Gl X "zip")(hmz:X.mg "zip"=none)(ha:PA X (e::es) t)
   (he:qR (e::es) X.env=(false,rh e X.env)::qR es X.env:=by rfl) (hpl:(qY p3 (qR es X.env)).any (·.1)=false:=by rfl):
   PE X (.Call (.Name "dict" p1) [.Call (.Name "zip" p2) (e::es) [] p3] [] p4) (XD t):=by
 intro pins s σ H Q I h;refine wpAny_Call_Name_kw (E7 I hgd hmd (show bootBuiltins "dict"=some (.type "dict") from qj) ?_);refine fk (ig (wpAny_Call_Name_kw (E7 I hgz hmz (show bootBuiltins "zip"=some (.type "zip") by decide +kernel) (fk (thn (ha p3 pins s σ H _ I h) λus s1 ⟨vs,H1,I1,r1,q1⟩=>?_) he hpl)))) rfl rfl;obtain⟨l1,l2,xs,ys,rfl,hl1,hl2,nx,hlen,h0,hz,q⟩:=q1;obtain⟨u1,u2,rfl,ra,rb⟩:=Id r1;cases ra;cases rb;obtain⟨its1,v1,p1',_⟩:=I1.list (SqL.of hl1);obtain⟨its2,v2,p2',_⟩:=I1.list (SqL.of hl2);obtain⟨pv,kv,kk,kl,rel⟩:=XE (P:=X.prog) (w:=X.w) v1 v2 hlen;have lt1:l1<s1.heap.objs.size:=by obtain⟨_,e,_⟩:=p1'.isList;exact ξ e
 have lt2:l2<s1.heap.objs.size:=by obtain⟨_,e,_⟩:=p2'.isList;exact ξ e
 refine call_zip_2 p1'.isList p2'.isList λh' hz' hTI hTO hi1 hi2 hsz hk=>jy ?_;have D:=zipApart_new lt1 lt2;have hl:=v1.length;rw[ε] at hl;have hsl:xs.length<=qT:=by rw[sizeLine_eq];omega
 refine callType_codes (Q₁:=λobj s₁=>obj = .ref h'.objs.size/\s₁={ s1 with heap:=h'.push { cls:=.type "dict",data:=.dict #[] } }) F.kt_called_dict (F.kt_typeCall_dict_1 _) F.entry_dict_init (kt_code_dict_new _ ⟨rfl,rfl⟩) ?_;rintro obj s₁ ⟨rfl,rfl⟩;have hnew:(h'.push { cls:=.type "dict",data:=.dict #[] }).DictOf (A3 X.prog X.w) h'.objs.size []:=qt.new h';have kD:∀b o,h'.get? b=some o->(h'.push { cls:=.type "dict",data:=.dict #[] }).get? b=some o:=λb o e=>ζ _ e;refine⟨hnew.typeIs,F.args_dict_init_2 _ _,?_⟩;unfold Builtin.«dict.__init__»;refine qU ?_;unfold Builtin.Dict.selfAndRest;refine qU (wpAny_notOrdered_dict hnew.typeIs ?_);refine show qX _ _ (pure (h'.objs.size,[Value.ref (s1.heap.objs.size+4)])) _ _ _ from qV ?_;refine show qX _ _ (Builtin.Dict.updateFrom "dict.__init__" h'.objs.size (.ref (s1.heap.objs.size+4)) [] .none) _ _ _ from ?_;unfold Builtin.Dict.updateFrom;refine qU (wpAny_typeOf (T:="zip") ⟨_,kD _ _ hz',rfl⟩ ?_);rw[if_pos (by decide)];have hd0:HH.Hd X.A s1.heap:=I1.hd hc;refine qU (HH.zip_keys (s:={ s1 with heap:=h'.push { cls:=.type "dict",data:=.dict #[] } }) (A:=X.A.in1.in1) (hd0.keeps λb o e=>kD _ _ (hk b o e)) (kD _ _ hz') λh2 tk k2=>?_);rw[if_pos (by rfl)];refine qU (wpAny_rule (qU (wpAny_pyIter_zip (k2 _ _ (kD _ _ hz')) ?_)));refine qV ⟨plainId_quiet Oa _,?_⟩;have g2z:=k2 _ _ (kD _ _ hz');have g2I:=k2 _ _ (kD _ _ hTI);have g2O:=k2 _ _ (kD _ _ hTO);have a1:h2.IsListIter s1.heap.objs.size l1 0:=hi1.at λo e=>k2 _ _ (kD _ _ e);have a2:h2.IsListIter (s1.heap.objs.size+1) l2 0:=hi2.at λo e=>k2 _ _ (kD _ _ e);have k0:∀b o,s1.heap.get? b=some o->h2.get? b=some o:=λb o e=>k2 _ _ (kD _ _ (hk b o e));have d2:h2.DictOf (A3 X.prog X.w) h'.objs.size []:=by
   obtain⟨o,es,ep,g1,g3⟩:=hnew;exact⟨o,es,ep,k2 _ _ g1,g3⟩
 have ltd:h'.objs.size<h2.objs.size:=by obtain⟨o,es,ep,g1,g3⟩:=d2;exact ξ g1
 have new:∀j:Nat,s1.heap.get? (s1.heap.objs.size+j)=none:=λj=>dm (gn _ _);have hpn:(pv.map (·.1)).Nodup:=by rw[kk];exact pY.map _ (λa b (h:a≠b) z=>h (lw z)) nx
 obtain⟨q0,hq0⟩:∃q0,pv[0]?=some q0:=⟨_,ah (by omega)⟩
 obtain⟨key,e1,e2,hky⟩:=rel 0 q0 hq0;have first:∀R:Result->qI->Prop,(∀h3 tk3,(∀b o,s1.heap.get? b=some o->h3.get? b=some o)->h3.DictOf (A3 X.prog X.w) h'.objs.size pv->R (.ok (.ret .none)) { s1 with heap:=h3,toks:=tk3 }) ->
     codeAny (rj X.prog X.w) X.A.in1 (.builtin "dict.update.loop" ⟨[.ref h'.objs.size,.ref (s1.heap.objs.size+4),rawInt ((0:Nat):Int),.none],[]⟩) R { s1 with heap:=h2,toks:=tk }:=λR hR=>by
   refine codeAny_builtin Xz ?_;rw[Around.under_plainId Oa _];unfold Builtin.«dict.update.loop»;refine qU ?_;refine wpAny_pyNext_zip_item (s:={ s1 with heap:=h2,toks:=tk }) D g2z g2I g2O a1 a2 (p1'.isList.at λo e=>k0 _ o e) (p2'.isList.at λo e=>k0 _ o e) (by rw[cm];exact e1) (by rw[cm];exact e2) λh3 z3 o3 b1 b2 pr sz kp=>?_;have nn:∀j:Nat,j<5->h'.objs.size≠s1.heap.objs.size+j:=λj hj z=>by rw[hsz] at z;exact absurd (Nat.add_left_cancel z) (by omega)
   have n0:h'.objs.size≠s1.heap.objs.size:=nn 0 (by decide);have lt2:∀b o,h2.get? b=some o->h2.objs.size≠b:=λb o e=>ip (ξ e);have d3:h3.DictOf (A3 X.prog X.w) h'.objs.size (pv.take 0):=by
     obtain⟨o,es,ep,g1,g3⟩:=d2;exact⟨o,es,ep,kp _ _ (nn 4 (by decide)) (nn 3 (by decide)) n0 (nn 1 (by decide)) g1,g3⟩
   refine XA (s:={ s1 with heap:=h3,toks:=tk }) (E:=λe s'=>R (.error e) s') (by omega) hpn hq0 pr hky d3 (λh4 sb d4=>?_) (λ_ _ e=>e);have o1:∃o,h2.get? s1.heap.objs.size=some o:=by obtain⟨o,g,_⟩:=a1;exact⟨o,g⟩
   have o2:∃o,h2.get? (s1.heap.objs.size+1)=some o:=by obtain⟨o,g,_⟩:=a2;exact⟨o,g⟩
   obtain⟨oo1,oo1⟩:=o1;obtain⟨oo2,oo2⟩:=o2;refine XB (A:=X.A.in1) (T:=h2.objs.size) (h0:=s1.heap) (xs:=its1.toArray) (ys:=its2.toArray) hd0 D (nn 4 (by decide)) n0 (nn 1 (by decide)) (nn 2 (by decide)) (al ltd) (lt2 _ _ g2z) (lt2 _ _ oo1) (lt2 _ _ oo2) (new 4) (new 0) (new 1) (dm (by rw[hsz];exact gn _ _)) p1'.isList p2'.isList (by rw[ν,<-hl,kl]) (λj q hq=>?_) hpn (by omega) (pv.length-1) 1 { s1 with heap:=h4,toks:=tk+1 } false rfl (by omega) ((sb.2 _ (bd (nn 4 (by decide)))).trans z3) ⟨_,(sb.2 _ (bd (al ltd))).trans pr⟩ ((sb.2 _ (bd (nn 2 (by decide)))).trans (kp _ _ D.TIz D.TITO D.TIi1 D.TIi2 g2I)) (b1.at λo e=>(sb.2 _ (bd n0)).trans e) (b2.at λo e=>(sb.2 _ (bd (nn 1 (by decide)))).trans e) d4 (λb o e=>?_) λh5 tk5 k5 d5=>hR h5 tk5 k5 d5
   . obtain⟨key,w1,w2,w3⟩:=rel j q hq;exact⟨key,by rw[cm];exact w1,by rw[cm];exact w2,w3⟩
   . have lb:=ξ e;have far:∀j:Nat,b≠s1.heap.objs.size+j:=λj=>al (ao lb (gn _ _));exact(sb.2 b (by rw[hsz];exact far 5)).trans (kp b o (far 4) (far 3) (far 0) (far 1) (k0 b o e))
 have hsys:(h'.objs.size==sysModules)=false:=beq_eq_false_iff_ne.mpr (λe=>absurd I1.big (by rw[<-e,hsz];exact km.mpr (gn _ _)));exact first _ λh3 tk3 k3 d3=>⟨rfl,.ref h'.objs.size,_,I1.laid (t':=tk3) k3 (by rw[hsz];exact gn _ _) (show A8 X.prog X.w _ _ _ (.dK ((xs.zip ys).map dkE)) from ⟨by rw[ε,List.length_zip];omega,hsys,pv,kv,d3⟩),rfl,q _ (I1.hok.fresh (by rw[hsz];exact gn _ _))⟩
def XF(C:W4->qH)(m:Str)(sp:W4->Sp)(dvs:List V)(to:TE)(t1:TX)(ta:TA):TX:=λσ H QV EX=>to σ H λx H1=>∃i a dx fs,x = .ref a/\H1 a=some (.ins (C i) dx fs)/\fs.lookup m=none/\t1 σ H1 (λv H2=>ta σ H2 λvs H3=>sp i (x::v::(vs++dvs)) H3 QV EX) EX
section
variable {X:Cx}{j k:Nat}{C:W4->qH}{ps:List Str}{sp:W4->Sp}{dvs:List V}{m:Str}{pos apos:Pos}{e o:qN}{es:List qN}{to:TE}{t1:TX}{t:TA}
theorem gD[Calm X]{pl:rq Bool}(D:AS X.prog X.w X.K X.mg X.base C m j ps dvs sp)(hr:Room k X.A)(ho:PE X.nox o to)(h1:PX X e t1)(ha:PA X.nox es t)(hk:j<=k:=by decide)
   (hst:qR (e::es) X.env=(false,rh e X.env)::qR es X.env:=by rfl) (hpl:(qY pos (qR es X.env)).any (·.1)=false:=by rfl)
   (ht:rh (.Call (.Attribute o m apos) (e::es) [] pos) X.env=(do
     let ov <-rh o X.env
     standAt apos.atName
     let (f,first) <-holding [ov] (getMethod ov m pl)
     rf pos f first (qY pos (qR (e::es) X.env)) (backToKw pos (keywordEach [] X.env))):=by rfl):
   PX X (.Call (.Attribute o m apos) (e::es) [] pos) (XF C m sp dvs to t1 t):=by
 intro pins s σ H QV EX Qp W I h hv hx;refine methodCall_KW (pl:=pl) (qW (ho pins s σ H _ (I.wish _) h) (λu s1 ⟨x,H1,I1',rx,i,a,dx,fs,ex,ea,l,q⟩=>?_) (λ_ _ z=>z.elim)) ht;have I1:=I1'.unwish;subst ex;obtain rfl:u=Value.ref a:=rx;obtain⟨f,fd,ds,F,hm,hb,hd⟩:=(D i).ex;refine E9 I1 ea (D i).cl hm l ?_;refine callWith_K (first:=[.ref a]) (h₀:=X.base) I.ok.mod.kin hm.kp ?_ hst hpl;rw[hst];refine show qX _ _ (spliced ((false,rh e X.env)::qY pos (qR es X.env))) _ _ s1 from ig (h1 pins s1 σ H1 _ EX _ _ I1 q (λv1 s2 ⟨v,H2,I2,rv,q2⟩=>?_) hx);refine qW (ha pos pins s2 σ H2 _ (I2.wish _) q2) (λus s3 ⟨vs,H3,I3',r,q3⟩=>?_) (λ_ _ z=>z.elim);have I3:=I3'.unwish;exact⟨I3.kIn,NF (us:=.ref a::v1::us) (vs:=.ref a::v::vs) F (hr.mono hk) hb hd I3 (.cons rfl (.cons rv r)) q3 hv λy s' hq=>hx H3 s3 y s' I3 hq⟩
end
theorem r_xMethFX{C:W4->qH}{m:Str}{sp:W4->Sp}{dvs:List V}{to:TE}{t1:TX}{ta:TA}{σ:L2.St}{H:Hp}{Q:VK}{EX:XK}(h:to σ H λx H1=>∃i a dx fs,x = .ref a/\H1 a=some (.ins (C i) dx fs)/\fs.lookup m=none/\t1 σ H1 (λv H2=>ta σ H2 λvs H3=>sp i (x::v::(vs++dvs)) H3 Q EX) EX):XF C m sp dvs to t1 ta σ H Q EX:=h
theorem r_tryAC{K:γ}{EX:XK}{i:Nat}{C0:qH}{t:TX}{ts:qH->List (qH×Obj)->TS}{D:Ends}{σ:L2.St}{H:Hp}(h:t σ H (λv H2=>D.nx (σ.set i (some v)) H2) λc od H2=>∃C,c = .ref C/\((tS K C C0 true/\∀x cs,ts x cs D σ H2)\/(tS K C C0 false/\EX c od H2))):Xp K EX i C0 t ts D σ H:=h
theorem Room.mark{k:Nat}{A:qM}{v:Option qG}(r:Room k A):Room k (A.mark v):=⟨r.dp,r.un⟩
open PySem.Spec PySem.W
structure SrcC(K:γ)(mg:Str->Option qG)(x:Str)(st:qO)(c:qH):Prop where
 ex:∃(f:qH) (oc kV doc pm ct:qG) (od an:Option qH) (osl:Array (Option qG)),K.lookup f=some ⟨oc,od,.func (fnOf x x (BA st) (Bp st) (Am st) .none kV doc pm an (.ref c) ct),osl⟩/\codeIn K (.ref c) x=true/\keepIn K (.ref f)=true/\mg x=some (.ref f)
theorem gE{K:γ}{h:rB}{mg:Str->Option qG}{x:Str}{st:qO}{f c:qH}{oc kV doc pm cdv ct:qG}{od an:Option qH}{osl:Array (Option qG)}(X:K.In h)(G:h.Ns re mg)
   (a:nsIn K re x=some (some (.ref f))) (l:K.lookup f=some ⟨oc,od,.func (fnOf x x (BA st) (Bp st) (Am st) .none kV doc pm an cdv ct),osl⟩)
   (hc:codeIn K cdv x=true) (k:keepIn K (.ref f)=true) (e:cdv = .ref c):SrcC K mg x st c:=by
 subst e;exact⟨f,oc,kV,doc,pm,ct,od,an,osl,l,hc,k,mg_of X G a⟩
def XG(K:γ)(c:qH):Option qH:=match K.lookup c with
 | some ⟨.type "code",_,.fields vs,_⟩=>(match (vs.getD 18 .none:qG),(vs.getD 7 .none:qG),(vs.getD 9 .none:qG),(vs.getD 10 .none:qG),(vs[11]?:Option qG) with
   | Value.str _ _,Value.int _ _,Value.bool _,Value.int _ _,some (Value.ref p)=>if c=p then none else some p
   | _,_,_,_,_=>none)
 | _=>none
def bmIn(K:γ)(b:qH):Bool:=match K.lookup b with
 | some ⟨.type "module",some d,.plain,_⟩=>decide (d=builtinsNs)&&decide (b≠builtinsNs)&&decide (b≠re)
 | _=>false
theorem gF{K:γ}{mg:Str->Option qG}{c P bm:qH}(h1:XG K c=some P)(h2:mg "__builtins__"=some (.ref bm))(h3:bmIn K bm=true):wm K mg (.ref c) P:=by
 constructor
 . unfold XG at h1
   split at h1
   . rename_i od vs osl lk
     split at h1
     . rename_i e1 e2 e3 e4 e5
       split at h1
       . cases h1
       . rename_i ne;cases h1;refine⟨c,_,vs,_,_,_,_,_,_,_,rfl,lk,rfl,rfl,e5,?_,e1,e2,e3,e4,ne⟩;rw[Array.getD_eq_getD_getElem?,e5];rfl
     . cases h1
   . cases h1
 . unfold bmIn at h3
   split at h3
   . rename_i d osl lk;simp only [gm,decide_eq_true_eq] at h3;exact⟨bm,_,h2,h3.1.2,h3.2,lk,rfl,by rw[h3.1.1],rfl⟩
   . cases h3
section
variable {P:qK}{w:qL}{K:γ}{mg:Str->Option qG}{base:rB}
theorem SrcC.okx{x:Str}{st:qO}{N ps:List Str}{k:Nat}{sp:Sp}{c:qH}(S:SrcC K mg x st c)(sc:tD N ps (Am st))
   (hb:∀(kV doc pm:qG) (an:Option qH) (cdv ct:qG) (us:List qG),us.length=ps.length->qS (fnOf x x (BA st) (Bp st) (Am st) .none kV doc pm an cdv ct) ⟨us,[]⟩=pure (ps.zip us))
   (len:∀vs H Q E,sp vs H Q E->vs.length=ps.length)
   (hbody:∀(f:qH) (A:qM) (outer:List rC) (s:qI) (H:Hp) (vs:List V) (Q:VK) (E:XK),Room k (A.deeper (envOfC x (Am st) s.heap.objs.size f (.ref c)))->sp vs H Q E ->
     ∃t,PSs (cxOf (CXe P w) P w K mg base N x (Am st) f (.ref c) A outer s H E) (Bp st) t/\t { nx:=λ_ H'=>Q .non H',rt:=Q } (start N vs) H):tE P w K mg base x (k+1) ps sp:=by
 obtain⟨f,oc,kV,doc,pm,ct,od,an,osl,l,hc,kp,hm⟩:=S.ex;exact⟨f,_,P5 l hc sc len λA outer s H vs Q E hr hsp=>hbody f A outer s H vs Q E hr hsp,hm,kp,.all (hb kV doc pm an (.ref c) ct)⟩
end
theorem gG{P:qK}{w:qL}{K:γ}{mg mb:Str->Option qG}{CX:CXT}{k:Nat}{fa a TP:qH}{fd:qJ}{x:Str}{sp:Sp}{s₁:qI}{vs:List qG}{ns:List Int}
   (KX:K.In s₁.heap) (hns:s₁.heap.Ns re mg) (hb:s₁.heap.Ns builtinsNs mb) (hbb:∀x:Str,x≠"__name__"->mb x=bootBuiltins x) (hlim:s₁.heap.NoLimit) (hg:s₁.gens=#[])
   (ha:s₁.heap.get? a=some { cls:=.type "list",data:=.seq vs.toArray }) (hi:IntsAre vs ns) (hl:ns.length<=qT) (hr:Room k callerA)
   (hP:s₁.heap.get? TP=some { cls:=.none,data:=.fields #[] }) (hPK:K.lookup TP=none) (hct:isCodeTable s₁.heap TP)
   (F:∀base:rB,K.In base->base.Ns re mg->FnOk P w K mg base CX k fa fd [x] sp) (hbind:∀(s:qI) (u:qG),BindsTo s fd ⟨[u],[]⟩ [(x,u)])
   (hsp:∀H:Hp,H TP=some (.tbl #[])->SqL K H a (ns.map V.int)->sp [.ref a] H (λv _=>v = .bl true) λ_ _ _=>False)
   (hCX:∀H e s',CX [] H s₁ (λ_ _ _=>False) e s'->False):
   codeAny (rj P w) callerA (.call (.ref fa) ⟨[.ref a],[]⟩) (λr s'=>r = .ok (.ret (.bool true))/\OldK s₁.heap s'.heap/\s'.os=s₁.os/\AllBare s'.gens) s₁:=by
 have rv:=L2.vals_ints hi;have lenV:=hi.length;have aP:a≠TP:=λe=>by rw[e,hP] at ha;cases ha
 have core:∀H:Hp,(∀b u,H b=some u->(b=TP/\u = .tbl #[])\/(b=a/\K.lookup a=none/\∃o xs,u = .frz o (.lst xs)))->H TP=some (.tbl #[])->SqL K H a (ns.map V.int)->HOk P w H s₁.heap ->
     codeAny (rj P w) callerA (.call (.ref fa) ⟨[.ref a],[]⟩) (λr s'=>r = .ok (.ret (.bool true))/\OldK s₁.heap s'.heap/\s'.os=s₁.os/\AllBare s'.gens) s₁:=by
   intro H hO hTP hS hok;have noA:∀{b:qH} {o:Obj} {es:Array DictEntry} {ep:Nat},s₁.heap.get? b=some o->o.data = .dict es ep->H b=none:=λ{b o es ep} e d=>by
     cases q:H b with
     | none=>rfl
     | some u =>
       rcases hO b u q with ⟨z,_⟩ | ⟨z,_⟩
       . rw[z,hP] at e;cases e;cases d
       . rw[z,ha] at e;cases e;cases d
   have nsK:∀{b:qH} {m:Str->Option qG},s₁.heap.Ns b m->(ul s₁.heap H).Ns b m:=λ{b m} ⟨o,es,ep,e,d,r⟩=>⟨o,es,ep,VN e (noA e d),d,r⟩
   have hKb:K.In (ul s₁.heap H):=λb o e=>VN (KX b o e) (by
     cases q:H b with
     | none=>rfl
     | some u =>
       rcases hO b u q with ⟨z,_⟩ | ⟨z,z2,_⟩
       . rw[z,hPK] at e;cases e
       . rw[z,z2] at e;cases e)
   have hM:Mod K mg (ul s₁.heap H):=⟨hKb,nsK hns,⟨mb,nsK hb,hbb⟩,let ⟨mc,h1,h2⟩:=hlim;⟨mc,nsK h1,h2⟩⟩
   have e0:Env0 P w K mg (ul s₁.heap H) callerA [] s₁ H:=⟨rfl,hM,λb o e=>Zj e,qg (Zi _ _),trivial,λb hb=>absurd (show b∈([]:List qH) from hb) (by simp),hok,.of_eq hg,⟨[],.inl rfl,λ_=>rfl,λ_ hp=>nomatch hp⟩⟩
   refine codeAny_mono ((F _ hKb (nsK hns)).run callerA [] s₁ H ⟨[.ref a],[]⟩ [.ref a] [.ref a] _ _ hr e0 (hbind s₁ (.ref a)) (.cons rfl .nil) (hsp H hTP hS)) λr s' h=>?_;cases r with
   | error e=>exact(hCX H e s' h).elim
   | ok fl =>
     cases fl with
     | next=>exact dj h
     | brk=>exact dj h
     | cont=>exact dj h
     | ret u =>
       obtain⟨v,H',os,bare,un,hok',r',q⟩:=h;have q':v = .bl true:=q;subst q';obtain rfl:u=Value.bool true:=r';have old:∀b o,s₁.heap.get? b=some o->b≠TP->s'.heap.get? b=some o:=λb o e nb=>by
         cases q:H b with
         | none=>exact un.keep b o e q (by intro z;exact absurd (show b∈([]:List qH) from z) (by simp)) (by simp)
         | some u =>
           rcases hO b u q with ⟨z,_⟩ | ⟨_,_,ob,xs,rfl⟩
           . exact absurd z nb
           . have z2:=un.frzs b ob _ q;obtain⟨e1,_⟩:=hok b _ q;obtain⟨e2,_⟩:=hok' b _ z2;rw[e] at e1;cases e1;exact e2
       obtain⟨more,hm⟩:=un.tbls TP _ hTP;have eP:s'.heap.get? TP=some { cls:=.none,data:=.fields (#[]++more) }:=(show A8 P w H' s'.heap TP (.tbl _) from hok' TP _ hm)
       refine⟨rfl,⟨λb o e=>?_,λb o e=>?_⟩,os,bare⟩
       . by_cases z:b=TP
         . subst z;rw[hP] at e;cases e;exact .inr (.inl ⟨hct,rfl,#[],more,rfl,eP⟩)
         . exact .inl (old b o e z)
       . by_cases z:b=TP
         . subst z;exact⟨_,eP⟩
         . exact⟨o,old b o e z⟩
 cases hk:K.lookup a with
 | some o =>
   have e:=KX a o hk;rw[ha] at e;cases e;refine core (λb=>if b=TP then some (.tbl #[]) else none) (λb u z=>?_) (if_pos rfl) (.inr ⟨_,vs.toArray,_,hk,rfl,rfl,rfl,by rw[ν,lenV];exact hl,by simpa using rv⟩) (λb u z=>?_)
   . try dsimp only at z
     by_cases hb:b=TP
     . rw[if_pos hb] at z;cases z;exact .inl ⟨hb,rfl⟩
     . rw[if_neg hb] at z;cases z
   . try dsimp only at z
     by_cases hb:b=TP
     . rw[if_pos hb] at z;cases z;rw[hb];exact hP
     . rw[if_neg hb] at z;cases z
 | none =>
   refine core (λb=>if b=TP then some (.tbl #[]) else if b=a then some (.frz { cls:=.type "list",data:=.seq vs.toArray } (.lst (ns.map V.int))) else none) (λb u z=>?_) (if_pos rfl) (.inl (.inr ⟨{ cls:=.type "list",data:=.seq vs.toArray },by dsimp only;rw[if_neg aP,if_pos rfl]⟩)) (λb u z=>?_)
   . try dsimp only at z
     by_cases hb:b=TP
     . rw[if_pos hb] at z;cases z;exact .inl ⟨hb,rfl⟩
     . rw[if_neg hb] at z;by_cases hb2:b=a
       . rw[if_pos hb2] at z;cases z;exact .inr ⟨hb2,hk,_,_,rfl⟩
       . rw[if_neg hb2] at z;cases z
   . try dsimp only at z
     by_cases hb:b=TP
     . rw[if_pos hb] at z;cases z;rw[hb];exact hP
     . rw[if_neg hb] at z;by_cases hb2:b=a
       . rw[if_pos hb2] at z;cases z;rw[hb2];exact⟨ha,by rw[ε];exact hl,vs,_,rv,ha⟩
       . rw[if_neg hb2] at z;cases z
def Ob(K:γ)(TP:qH):Sp:=λvs H Q _=>∃(a:qH) (ns:List Int),vs=[.ref a]/\SqL K H a (ns.map V.int)/\ns.length<=63/\H TP=some (.tbl #[])/\∀H',Q (.bl true) H'
theorem gH{l:lf}{n k:Nat}{q:qK}{loose:List Str}{XP:(Str->Option qG)->rB->Prop}{YP:qL->rB->Prop}{d:DefRec}{K:rA->γ}{CX:qL->CXT}{sp:qL->Sp}{x:Str}{TP:qH}
   (hn:l.most=some n) (hn2:n<=qT) (hdf:d.params.defaults=[]) (hr:Room k callerA)
   (hY:∀(w:qL) (h:rB),YP w h->(K w.params).In h/\h.get? TP=some { cls:=.none,data:=.fields #[] }/\(K w.params).lookup TP=none/\isCodeTable h TP)
   (F:∀(w:qL) (mg:Str->Option qG) (fa:qH) (h:rB),(K w.params).In h->h.Ns re mg->mg d.name=some (.ref fa) ->
     ∃fd:qJ,(∀(s:qI) (u:qG),BindsTo s fd ⟨[u],[]⟩ [(x,u)]) /\
       ∀base:rB,(K w.params).In base->base.Ns re mg->FnOk l.prog w (K w.params) mg base (CX w) k fa fd [x] (sp w))
   (hsp:∀(w:qL) (H:Hp) (a:qH) (ns:List Int),ns.length<=n->H TP=some (.tbl #[])->SqL (K w.params) H a (ns.map V.int)->sp w [.ref a] H (λv _=>v = .bl true) λ_ _ _=>False)
   (hCX:∀(w:qL) (H:Hp) (s:qI) (e:qG) (s':qI),CX w [] H s (λ_ _ _=>False) e s'->False):
   pZ q loose XP YP l.row.toRowW d [] (λf vs=>ph f vs):=by
 refine Att.attach_call hn hdf λw s₀ s₁ mg mb fa o pm cd doc a vs ns G Y ho hd hcd hmg hobj hints hlen hg=>?_;obtain⟨KX,hP,hPK,hct⟩:=hY w _ Y;obtain⟨fd,hb,hF⟩:=F w mg fa _ KX G.T.g hmg;exact gG KX G.T.g G.T.b G.T.builtins G.T.nolimit hg hobj hints (bp hlen hn2) hr hP hPK hct hF hb (λH hO hS=>hsp w H a ns hlen hO hS) λH e s'=>hCX w H s₁ e s'
def AQ(kvs:List (Int×Int))(h:Int):Option Int:=(kvs.find? λp=>decide (p.1=h)).map (·.2)
def tN(kvs:List (Int×Int))(h p:Int):List (Int×Int):=if kvs.any (λq=>decide (q.1=h)) then kvs.map (λq=>if q.1=h then (q.1,p) else q) else kvs++[(h,p)]
theorem DY(q:Int×Int)(r:List (Int×Int))(h:Int):AQ (q::r) h=if q.1=h then some q.2 else AQ r h:=by
 unfold AQ;rw[fj];by_cases e:q.1=h
 . rw[decide_eq_true e,if_pos e];rfl
 . rw[decide_eq_false e,if_neg e]
theorem Fi{h p:Int}:∀{kvs:List (Int×Int)},AQ kvs h=some p->(h,p)∈kvs
 | [],e=>by cases e
 | q::r,e=>by
   rw[DY] at e
   by_cases c:q.1=h
   . rw[if_pos c] at e
     have:q=(h,p):=Prod.ext c (ae e)
     rw[this];exact Ξ
   . rw[if_neg c] at e
     exact ι _ (Fi e)
theorem Ej{h p:Int}:∀{kvs:List (Int×Int)},(kvs.map (·.1)).Nodup->(h,p)∈kvs->AQ kvs h=some p
 | q::r,nd,m=>by
   rw[ar,ed] at nd
   rw[DY]
   rcases χ.mp m with e | m
   . rw[<-e,if_pos rfl]
   . rw[if_neg (λc=>nd.1 (by rw[c];exact am.mpr ⟨_,m,rfl⟩))]
     exact Ej nd.2 m
theorem XH{h:Int}(nd:(kvs.map (·.1)).Nodup):h∈kvs.map (·.1)↔∃p,AQ kvs h=some p:=by
 constructor
 . intro m;obtain⟨⟨a,b⟩,hq,e⟩:=am.mp m;have e:a=h:=e;subst e;exact⟨b,Ej nd hq⟩
 . rintro⟨p,e⟩;exact am.mpr ⟨_,Fi e,rfl⟩
theorem XI{h p:Int}(nd:(kvs.map (·.1)).Nodup):((tN kvs h p).map (·.1)).Nodup:=by
 unfold tN
 split
 . rw[du];have:((λq:Int×Int=>q.1)∘λq:Int×Int=>if q.1=h then (q.1,p) else q)=λq=>q.1:=by
     funext q
     show (if q.1=h then (q.1,p) else q).1=q.1
     split <;> rfl
   rw[this];exact nd
 . rename_i hn;rw[ψ,oh];refine⟨nd,by simp,λa ha b hb e=>hn ?_⟩;obtain⟨q,hq,e1⟩:=am.mp ha;have hb:b=h:=by simpa using hb
   exact ki.mpr ⟨q,hq,decide_eq_true (by rw[e1,e,hb])⟩
theorem XJ{h p:Int}:∀(kvs:List (Int×Int)) (k:Int),AQ (tN kvs h p) k=if k=h then some p else AQ kvs k:=by
 intro kvs k;unfold tN;have key1:∀l:List (Int×Int),AQ (l.map λq=>if q.1=h then (q.1,p) else q) k=if k=h/\l.any (λq=>decide (q.1=h))=true then some p else AQ l k:=by
   intro l
   induction l with
   | nil=>simp [AQ]
   | cons q r ih =>
     rw[ar,DY,DY,ih];by_cases e:q.1=h
     . rw[if_pos e];by_cases c:q.1=k
       . rw[if_pos (show (q.1,p).1=k from c),if_pos ⟨by omega,by rw[gr,decide_eq_true e];rfl⟩]
       . rw[if_neg (show ¬(q.1,p).1=k from c),if_neg c,if_neg (λz=>c (by omega)),if_neg (λz=>c (by omega))]
     . rw[if_neg e,gr,decide_eq_false e,mj];by_cases c:q.1=k
       . rw[if_pos c,if_pos c,if_neg (λz=>e (by omega))]
       . rw[if_neg c,if_neg c]
 have key2:∀l:List (Int×Int),AQ (l++[(h,p)]) k=match AQ l k with | some x=>some x | none=>if k=h then some p else none:=by
   intro l
   induction l with
   | nil =>
     show AQ [(h,p)] k=if k=h then some p else none
     rw[DY];by_cases c:k=h
     . rw[if_pos c,if_pos c.symm]
     . rw[if_neg c,if_neg (bd c)];rfl
   | cons q r ih =>
     rw[ci,DY,DY,ih];by_cases c:q.1=k
     . rw[if_pos c,if_pos c]
     . rw[if_neg c,if_neg c]
 by_cases hn:kvs.any (λq=>decide (q.1=h))=true
 . rw[if_pos hn,key1];by_cases c:k=h
   . rw[if_pos ⟨c,hn⟩,if_pos c]
   . rw[if_neg (λz=>c z.1),if_neg c]
 . rw[if_neg hn,key2];by_cases c:k=h
   . rw[if_pos c];have:AQ kvs k=none:=by
       cases e:AQ kvs k with
       | none=>rfl
       | some x=>exact absurd (ki.mpr ⟨_,Fi e,decide_eq_true c⟩) hn
     rw[this,if_pos c]
   . cases AQ kvs k with
     | none=>simp [c]
     | some x=>simp [c]
def DZ(kvs:List (Int×Int))(h:Int):List (Int×Int):=kvs.filter λq=>!decide (q.1=h)
theorem XL{h:Int}(nd:(kvs.map (·.1)).Nodup):((DZ kvs h).map (·.1)).Nodup:=(List.filter_sublist.map _).nodup nd
theorem QK{h:Int}:∀(kvs:List (Int×Int)) (k:Int),AQ (DZ kvs h) k=if k=h then none else AQ kvs k
 | [],k=>by simp [DZ,AQ]
 | q::r,k=>by
   have ih:=QK (h:=h) r k
   unfold DZ at ih ⊢
   rw[fu,DY]
   by_cases e:q.1=h
   . rw[decide_eq_true e,if_neg (by simp),ih]
     by_cases c:k=h
     . rw[if_pos c,if_pos c]
     . rw[if_neg c,if_neg c,if_neg (by omega)]
   . rw[decide_eq_false e,if_pos (by simp),DY,ih]
     by_cases c:k=h
     . rw[if_pos c,if_pos c,if_neg (by omega)]
     . rw[if_neg c,if_neg c]
theorem JI:∀{xs ys:List Int},xs.Pairwise (·<·)->ys.Pairwise (·<·)->(∀z,z∈xs↔z∈ys)->xs=ys
 | [],[],_,_,_=>rfl
 | [],y::r,_,_,h=>absurd ((h y).mpr Ξ) (by simp)
 | x::r,[],_,_,h=>absurd ((h x).mp Ξ) (by simp)
 | x::r,y::t,p1,p2,h=>by
   rw[List.pairwise_cons] at p1 p2
   have e:x=y:=by
     have h1:=(h x).mp Ξ;have h2:=(h y).mpr Ξ;rcases χ.mp h1 with e | m1
     . exact e
     . rcases χ.mp h2 with e | m2
       . exact e.symm
       . have:=p1.1 y m2;have:=p2.1 x m1;omega
   subst e;rw[JI p1.2 p2.2 λz=>?_];constructor
   . intro m;rcases χ.mp ((h z).mp (ι _ m)) with e | m'
     . rw[e] at m;have:=p1.1 _ m;omega
     . exact m'
   . intro m;rcases χ.mp ((h z).mpr (ι _ m)) with e | m'
     . rw[e] at m;have:=p2.1 _ m;omega
     . exact m'
theorem IE{xs:List Int}(h:xs.Pairwise (·<=·))(nd:xs.Nodup):xs.Pairwise (·<·):=(h.and nd).imp λ{a b} ⟨h1,h2⟩=>by
 have h2:a≠b:=h2;omega
def lvF(ps:List Pc):List Pc:=ps.filter λz=>z.v
theorem CL(A B:List Pc):lvF (A++B)=lvF A++lvF B:=jo ..
theorem Ce{ps:List Pc}{z:Pc}:z∈lvF ps↔z∈ps/\z.v=true:=by unfold lvF;rw[ky]
def lvA(ps:List Pc):List Int:=(lvF ps).map λz=>z.a+1
theorem XM:∀{ps:List Pc} {s e:Int},Ai s ps e->ps.Pairwise (λy z=>y.a<z.a)
 | [],_,_,_=>.nil
 | z::r,s,e,c=>by
   obtain⟨h1,h2,_,h4⟩:=c
   exact .cons (λy hy=>by have:=h4.fromOn y hy;omega) (XM h4)
theorem QL{ps:List Pc}{s e:Int}(c:Ai s ps e):(lvA ps).Pairwise (·<·):=by
 unfold lvA lvF;rw[iu];exact((XM c).filter _).imp λ{y z} h=>by show y.a+1<z.a+1;omega
theorem XN{ps:List Pc}{p:Int}:p∈lvA ps↔∃z∈ps,z.v=true/\z.a+1=p:=by
 unfold lvA;rw[am];exact⟨λ⟨z,h1,h2⟩=>⟨z,(Ce.mp h1).1,(Ce.mp h1).2,h2⟩,λ⟨z,h1,h2,h3⟩=>⟨z,Ce.mpr ⟨h1,h2⟩,h3⟩⟩
structure Ow(kvs:List (Int×Int))(ps:List Pc)(Hs:Int->Option Pc):Prop where
 nd:(kvs.map (·.1)).Nodup
 lk:∀h,AQ kvs h=(Hs h).map λz=>z.a+1
 mem:∀h z,Hs h=some z->z∈ps/\z.v=true
 all:∀z∈ps,z.v=true->∃h,Hs h=some z
 inj:∀h h' z,Hs h=some z->Hs h'=some z->h=h'
theorem Ow.nil(n:Int):Ow [] [⟨0,n,false⟩] (λ_=>none):=⟨jq,λ_=>rfl,(λ_ _ e=>by cases e),(λz hz hv=>by rw[be.mp hz] at hv;cases hv),(λ_ _ _ e=>by cases e)⟩
theorem Ow.key{ps:List Pc}{Hs:Int->Option Pc}(o:Ow kvs ps Hs){h:Int}:h∈kvs.map (·.1)↔∃z,Hs h=some z:=by
 rw[XH o.nd,o.lk];cases Hs h with
 | none=>exact⟨λ⟨_,e⟩=>(by cases e),λ⟨_,e⟩=>(by cases e)⟩
 | some z=>exact⟨λ_=>⟨z,rfl⟩,λ_=>⟨_,rfl⟩⟩
theorem Ow.put{ps ps':List Pc}{Hs:Int->Option Pc}{h:Int}{w:Pc}(o:Ow kvs ps Hs)(hw:w.v=true)(hn:∀z∈ps,z.v=true->Hs h≠some z->z≠w)
   (hl:∀y,y.v=true->(y∈ps'↔(y∈ps/\Hs h≠some y)\/y=w)):Ow (tN kvs h (w.a+1)) ps' (λk=>if k=h then some w else Hs k):=by
 have wp:w∈ps':=(hl w hw).mpr (.inr rfl);have ne:∀k z,k≠h->Hs k=some z->Hs h≠some z:=λk z hk e e'=>hk (o.inj _ _ _ e e');refine⟨XI o.nd,λk=>?_,λk z e=>?_,λz hz hv=>?_,λk k' z e e'=>?_⟩
 . rw[XJ]
   split
   . rfl
   . exact o.lk k
 . have e:(if k=h then _ else Hs k)=some z:=e
   split at e
   . cases e;exact⟨wp,hw⟩
   . rename_i hk;obtain⟨h1,h2⟩:=o.mem k z e;exact⟨(hl z h2).mpr (.inl ⟨h1,ne k z hk e⟩),h2⟩
 . rcases(hl z hv).mp hz with ⟨h1,h2⟩ | e
   . obtain⟨k,ek⟩:=o.all z h1 hv;exact⟨k,by rw[if_neg (λc=>h2 (by rw[<-c];exact ek))];exact ek⟩
   . exact⟨h,by rw[if_pos rfl,e]⟩
 . have e:(if k=h then _ else Hs k)=some z:=e;have e':(if k'=h then _ else Hs k')=some z:=e';by_cases c:k=h
   . by_cases c':k'=h
     . rw[c,c']
     . rw[if_pos c] at e;rw[if_neg c'] at e';cases e;obtain⟨h1,h2⟩:=o.mem k' w e';exact absurd rfl (hn w h1 h2 (ne k' w c' e'))
   . rw[if_neg c] at e;by_cases c':k'=h
     . rw[if_pos c'] at e';cases e';obtain⟨h1,h2⟩:=o.mem k w e;exact absurd rfl (hn w h1 h2 (ne k w c e))
     . rw[if_neg c'] at e';exact o.inj _ _ _ e e'
theorem Ow.drop{ps ps':List Pc}{Hs:Int->Option Pc}{h:Int}(o:Ow kvs ps Hs)
   (hl:∀y,y.v=true->(y∈ps'↔y∈ps/\Hs h≠some y)):Ow (DZ kvs h) ps' (λk=>if k=h then none else Hs k):=by
 refine⟨XL o.nd,λk=>?_,λk z e=>?_,λz hz hv=>?_,λk k' z e e'=>?_⟩
 . rw[QK]
   split
   . rfl
   . exact o.lk k
 . have e:(if k=h then _ else Hs k)=some z:=e
   split at e
   . cases e
   . rename_i hk;obtain⟨h1,h2⟩:=o.mem k z e;exact⟨(hl z h2).mpr ⟨h1,λe'=>hk (o.inj _ _ _ e e')⟩,h2⟩
 . obtain⟨h1,h2⟩:=(hl z hv).mp hz;obtain⟨k,ek⟩:=o.all z h1 hv;exact⟨k,by rw[if_neg (λc=>h2 (by rw[<-c];exact ek))];exact ek⟩
 . have e:(if k=h then _ else Hs k)=some z:=e;have e':(if k'=h then _ else Hs k')=some z:=e'
   split at e
   . cases e
   . split at e'
     . cases e'
     . exact o.inj _ _ _ e e'
theorem Oc{α β:Type}:∀{xs:List α} {ys:List β} {i:Nat} {x:α} {y:β},(xs.zip ys)[i]?=some (x,y)↔xs[i]?=some x/\ys[i]?=some y
 | [],ys,i,x,y=>by simp
 | a::xs,[],i,x,y=>by simp
 | a::xs,b::ys,0,x,y=>by simp
 | a::xs,b::ys,i+1,x,y=>by
   rw[jm]
   simp only [kf]
   exact Oc
theorem XO{ps:List Pc}{s e:Int}(c:Ai s ps e){i j:Nat}{p:Int}(h1:(lvA ps)[i]?=some p)(h2:(lvA ps)[j]?=some p):i=j:=by
 have nd:(lvA ps).Nodup:=(QL c).imp λ{a b} h=>(show a≠b by omega)
 exact(og (δ.mp h1).1 nd).mp (by rw[h1,h2])
theorem Od{ps:List Pc}{i:Nat}{p:Int}(h:(lvA ps)[i]?=some p):∃z,(lvF ps)[i]?=some z/\z.a+1=p:=by
 unfold lvA at h;rw[Ψ] at h;obtain⟨z,h1,h2⟩:=ai.mp h;exact⟨z,h1,h2⟩
theorem Ow.follow{ms:List (Int×Int)}{ps ps':List Pc}{Hs:Int->Option Pc}{n n':Int}(o:Ow kvs ps Hs)(c:Ai 0 ps n)(c':Ai 0 ps' n')(hp:ms.Perm kvs)(hs:ms.Pairwise λp q=>p.2<=q.2)(hl:(lvF ps').map (·.l)=(lvF ps).map (·.l)):
   ∃Hs',Ow ((ms.map (·.1)).zip (lvA ps')) ps' Hs'/\(∀h,(Hs' h).map (·.l)=(Hs h).map (·.l))/\ms.length=(lvA ps').length:=by
 have ndm:(ms.map (·.1)).Nodup:=(hp.map _).nodup_iff.mpr o.nd;have ndp:(ms.map (·.2)).Nodup:=by
   rw[(hp.map _).nodup_iff];have key:∀l:List (Int×Int),(l.map (·.1)).Nodup->(∀q∈l,∀q'∈l,q.2=q'.2->q.1=q'.1)->(l.map (·.2)).Nodup:=by
     intro l
     induction l with
     | nil=>intro _ _;exact jq
     | cons q r ih =>
       intro nd hj;rw[ar,ed] at nd ⊢;refine⟨λm=>?_,ih nd.2 λa ha b hb=>hj a (ι _ ha) b (ι _ hb)⟩;obtain⟨q',hq',e⟩:=am.mp m;exact nd.1 (am.mpr ⟨q',hq',hj q' (ι _ hq') q Ξ e⟩)
   refine key kvs o.nd λq hq q' hq' e=>?_;have l1:=o.lk q.1;have l2:=o.lk q'.1;rw[Ej o.nd (show (q.1,q.2)∈kvs from hq)] at l1;rw[Ej o.nd (show (q'.1,q'.2)∈kvs from hq')] at l2;obtain⟨z,h1,h2⟩:=ai.mp l1.symm;obtain⟨z',h3,h4⟩:=ai.mp l2.symm;have ez:z=z':=Ed c (o.mem _ _ h1).1 (o.mem _ _ h3).1 (by have h2:z.a+1=q.2:=h2;have h4:z'.a+1=q'.2:=h4;omega);rw[ez] at h1;exact o.inj _ _ _ h1 h3
 have em:ms.map (·.2)=lvA ps:=JI (IE (by rw[iu];exact hs) ndp) (QL c) λp=>by
   rw[(hp.map _).mem_iff,XN];constructor
   . intro m;obtain⟨q,hq,e⟩:=am.mp m;have l1:=o.lk q.1;rw[Ej o.nd (show (q.1,q.2)∈kvs from hq)] at l1;obtain⟨z,h1,h2⟩:=ai.mp l1.symm;obtain⟨h3,h4⟩:=o.mem _ _ h1;exact⟨z,h3,h4,by rw[<-e];exact h2⟩
   . rintro⟨z,hz,hv,e⟩;obtain⟨h,eh⟩:=o.all z hz hv;have l1:=o.lk h;rw[eh] at l1;exact am.mpr ⟨_,Fi l1,e⟩
 have ll:(lvF ps').length=(lvF ps).length:=by have:=congrArg jb hl;rwa [ε,ε] at this
 have lm:ms.length=(lvA ps').length:=by
   have:=congrArg jb em;rw[ε] at this;rw[this];unfold lvA;rw[ε,ε,ll]
 have lz:∀(i:Nat) (h p:Int),((ms.map (·.1)).zip (lvA ps'))[i]?=some (h,p)->∃z z':Pc,Hs h=some z/\(lvF ps)[i]?=some z/\(lvF ps')[i]?=some z'/\z'.a+1=p:=λi h p e=>by
   obtain⟨e1,e2⟩:=Oc.mp e;rw[Ψ] at e1;obtain⟨q,hq,e3⟩:=ai.mp e1;obtain⟨z',g1,g2⟩:=Od e2;have e4:(lvA ps)[i]?=some q.2:=by rw[<-em,Ψ,hq];rfl
   obtain⟨z,g3,g4⟩:=Od e4;have hqk:=hp.mem_iff.mp (Δ hq);have l1:=o.lk q.1;rw[Ej o.nd (show (q.1,q.2)∈kvs from hqk)] at l1;obtain⟨y,h1,h2⟩:=ai.mp l1.symm;have ey:y=z:=Ed c (o.mem _ _ h1).1 (Ce.mp (Δ g3)).1 (by have h2:y.a+1=q.2:=h2;omega);have e3:q.1=h:=e3;rw[ey,e3] at h1;exact⟨z,z',h1,g3,g1,g2⟩
 have zl:∀h z,Hs h=some z->∃i:Nat,(lvF ps)[i]?=some z/\(ms.map (·.1))[i]?=some h:=λh z e=>by
   have l1:=o.lk h;rw[e] at l1;have hm:=hp.mem_iff.mpr (Fi l1);obtain⟨i,hi⟩:=aq hm;have e4:(lvA ps)[i]?=some (z.a+1):=by rw[<-em,Ψ,hi];rfl
   obtain⟨y,g3,g4⟩:=Od e4;have ey:y=z:=Ed c (Ce.mp (Δ g3)).1 (o.mem _ _ e).1 (by omega);rw[ey] at g3;exact⟨i,g3,by rw[Ψ,hi];rfl⟩
 have fi:∀{i j:Nat} {z:Pc},(lvF ps)[i]?=some z->(lvF ps)[j]?=some z->i=j:=λ{i j z} e1 e2=>XO c (p:=z.a+1) (by unfold lvA;rw[Ψ,e1];rfl) (by unfold lvA;rw[Ψ,e2];rfl);have fi':∀{i j:Nat} {z:Pc},(lvF ps')[i]?=some z->(lvF ps')[j]?=some z->i=j:=λ{i j z} e1 e2=>XO c' (p:=z.a+1) (by unfold lvA;rw[Ψ,e1];rfl) (by unfold lvA;rw[Ψ,e2];rfl);have ndz:(((ms.map (·.1)).zip (lvA ps')).map (·.1)).Nodup:=by
   have:((ms.map (·.1)).zip (lvA ps')).map (·.1)=ms.map (·.1):=by
     rw[List.map_fst_zip];rw[ε,lm];exact Θ _
   rw[this];exact ndm
 -- the piece of a handle: by its place
 refine⟨λh=>(AQ ((ms.map (·.1)).zip (lvA ps')) h).bind λp=>(lvF ps').find? λz=>decide (z.a+1=p),?_,?_,lm⟩
 . have at_:∀(i:Nat) (h p:Int) (z':Pc),((ms.map (·.1)).zip (lvA ps'))[i]?=some (h,p)->(lvF ps')[i]?=some z'->((AQ ((ms.map (·.1)).zip (lvA ps')) h).bind λp=>(lvF ps').find? λz=>decide (z.a+1=p))=some z':=λi h p z' e e'=>by
     rw[Ej ndz (Δ e)];show (lvF ps').find? _=_;obtain⟨_,z2,_,_,g1,g2⟩:=lz i h p e;have:z2=z':=ae (g1.symm.trans e');subst this;cases hf:(lvF ps').find? λz=>decide (z.a+1=p) with
     | none=>exact absurd (decide_eq_true g2) (by simpa using ik.mp hf z2 (Δ g1))
     | some y =>
       have h1:y.a+1=p:=of_decide_eq_true (by have:=lg hf;exact this);have h2:=(Ce.mp (gz hf)).1;rw[Ed c' h2 (Ce.mp (Δ g1)).1 (by omega)]
   have back:∀(h:Int) (z':Pc),((AQ ((ms.map (·.1)).zip (lvA ps')) h).bind λp=>(lvF ps').find? λz=>decide (z.a+1=p))=some z'->∃i:Nat,((ms.map (·.1)).zip (lvA ps'))[i]?=some (h,z'.a+1)/\(lvF ps')[i]?=some z':=λh (z':Pc) e=>by
     obtain⟨p,e1,e2⟩:=im.mp e;obtain⟨i,hi⟩:=aq (Fi e1);obtain⟨_,z2,_,_,g1,g2⟩:=lz i h p hi;have h1:z'.a+1=p:=of_decide_eq_true (by have:=lg e2;exact this);have h2:=(Ce.mp (gz e2)).1;have:z2=z':=Ed c' (Ce.mp (Δ g1)).1 h2 (by omega);subst this;exact⟨i,by rw[hi,g2],g1⟩
   refine⟨ndz,λh=>?_,λh z e=>?_,λz hz hv=>?_,λh h' z e e'=>?_⟩
   . try dsimp only
     cases e:AQ ((ms.map (·.1)).zip (lvA ps')) h with
     | none=>rfl
     | some p =>
       obtain⟨i,hi⟩:=aq (Fi e);obtain⟨_,z2,_,_,g1,g2⟩:=lz i h p hi;have:=at_ i h p z2 hi g1;rw[e] at this;rw[this];show some p=some (z2.a+1);rw[g2]
   . obtain⟨i,_,g⟩:=back h z e;exact Ce.mp (Δ g)
   . obtain⟨i,hi⟩:=aq (Ce.mpr ⟨hz,hv⟩);have hil:i<ms.length:=by
       have:=(δ.mp hi).1;rw[lm];unfold lvA;rw[ε];exact this
     exact⟨(ms[i]).1,at_ i _ (z.a+1) z (Oc.mpr ⟨by rw[Ψ,ah hil];rfl,by unfold lvA;rw[Ψ,hi];rfl⟩) hi⟩
   . obtain⟨i,h1,g1⟩:=back h z e;obtain⟨j,h2,g2⟩:=back h' z e';have:=fi' g1 g2;subst this;rw[h1] at h2;exact(Prod.ext_iff.mp (ae h2)).1
 . intro h
   try dsimp only
   have lat:∀(i:Nat) (z z':Pc),(lvF ps)[i]?=some z->(lvF ps')[i]?=some z'->z'.l=z.l:=λi z z' e1 e2=>by
     have:=congrArg (λl=>l[i]?) hl;simp only [Ψ,e1,e2,Option.map_some] at this;exact ae this
   cases e:AQ ((ms.map (·.1)).zip (lvA ps')) h with
   | none =>
     cases eh:Hs h with
     | none=>rfl
     | some z =>
       obtain⟨i,g1,g2⟩:=zl h z eh;have hi:i<(lvA ps').length:=by rw[<-lm];have:=(δ.mp g2).1;rwa [ε] at this
       have:=Ej ndz (Δ (Oc.mpr ⟨g2,ah hi⟩));rw[this] at e;cases e
   | some p =>
     obtain⟨i,hi⟩:=aq (Fi e);obtain⟨z,z2,h1,g0,g1,g2⟩:=lz i h p hi;rw[h1];show Option.map _ ((lvF ps').find? _)=_;cases hf:(lvF ps').find? λz=>decide (z.a+1=p) with
     | none=>exact absurd (decide_eq_true g2) (by simpa using ik.mp hf z2 (Δ g1))
     | some y =>
       have h3:y.a+1=p:=of_decide_eq_true (by have:=lg hf;exact this);have h2:=(Ce.mp (gz hf)).1;have ey:y=z2:=Ed c' h2 (Ce.mp (Δ g1)).1 (by omega);subst ey;show some y.l=some z.l;rw[lat i z y g0 g1]
theorem gI(acc:List Pc)(z:Pc):lvF (Bu acc z)=lvF acc++lvF [z]:=by
 rcases Dz acc with rfl | ⟨D,y,rfl⟩
 . rfl
 . by_cases hz:z.v=true
   . rw[FP hz,CL]
   . by_cases hy:y.v=true
     . rw[Ee hy,CL]
     . have hz:z.v=false:=by simpa using hz
       have hy:y.v=false:=by simpa using hy
       rw[Ef hy hz,CL,CL];simp [lvF,hz,hy]
theorem XQ(ps:List Pc):lvF (A0 ps)=lvF ps:=by
 have key:∀(ps acc:List Pc),lvF (ps.foldl Bu acc)=lvF acc++lvF ps:=by
   intro ps
   induction ps with
   | nil=>intro acc;simp [lvF]
   | cons z r ih =>
     intro acc;rw[bi,ih,gI,ak,<-CL];rfl
 unfold A0;rw[key ps []];rfl
theorem gJ{ps:List Pc}{s e:Int}(c:Ai s ps e){z:Pc}(hz:z∈ps)(hv:z.v=false):∃y∈A0 ps,y.v=false/\z.l<=y.l:=by
 have stay:∀(acc:List Pc) (x:Pc) (n:Int),1<=x.l->(∃y∈acc,y.v=false/\n<=y.l)->∃y∈Bu acc x,y.v=false/\n<=y.l:=by
   rintro acc x n hx ⟨y,hy,h1,h2⟩;rcases Dz acc with rfl | ⟨D,w,rfl⟩
   . cases hy
   . by_cases hw:w.v=true
     . rw[Ee hw];exact⟨y,Φ _ hy,h1,h2⟩
     . by_cases hxv:x.v=true
       . rw[FP hxv];exact⟨y,Φ _ hy,h1,h2⟩
       . rw[Ef (by simpa using hw) (by simpa using hxv)];rcases ρ.mp hy with g | g
         . exact⟨y,Φ _ g,h1,h2⟩
         . rw[be.mp g] at h2;exact⟨_,μ _ Ξ,rfl,by show n<=w.l+x.l;omega⟩
 have new:∀(acc:List Pc),(∀y∈acc,1<=y.l)->∃y∈Bu acc z,y.v=false/\z.l<=y.l:=by
   intro acc ha;rcases Dz acc with rfl | ⟨D,w,rfl⟩
   . exact⟨z,Ξ,hv,ba _⟩
   . by_cases hw:w.v=true
     . rw[Ee hw];exact⟨z,μ _ Ξ,hv,ba _⟩
     . rw[Ef (by simpa using hw) hv];have:=ha w (μ _ Ξ);exact⟨_,μ _ Ξ,rfl,by show z.l<=w.l+z.l;omega⟩
 have go:∀(ps acc:List Pc),(∀x∈ps,1<=x.l)->(∃y∈acc,y.v=false/\z.l<=y.l)->∃y∈ps.foldl Bu acc,y.v=false/\z.l<=y.l:=by
   intro ps
   induction ps with
   | nil=>intro acc _ h;exact h
   | cons x r ih=>intro acc hx h;exact ih _ (λy hy=>hx y (ι _ hy)) (stay acc x _ (hx x Ξ) h)
 obtain⟨ds,rs,rfl⟩:=List.append_of_mem hz;have h1:∀x∈ds++z::rs,1<=x.l:=λx hx=>(c.mem x hx).2.1;obtain⟨m,c1,_⟩:=Ai.take (i:=ds.length) c (by rw[π];omega);rw[List.take_left] at c1;have c2:=Ju c1;unfold A0 at c2 ⊢;rw[bj,bi];exact go rs _ (λx hx=>h1 x (μ _ (ι _ hx))) (new _ λy hy=>(c2.mem y hy).2.1)
theorem u_lv{S T:Int}:∀{M:List Pc} {A:Uf} {e:Int},S<=e->Ai e M T->(lvF ((M.foldl (BR S T) A).tl.map (·.1))).map (·.l)=(lvF (A.tl.map (·.1))).map (·.l)++(lvF M).map (·.l)
 | [],A,e,_,_=>by simp [lvF]
 | z::r,A,e,hSe,c=>by
   obtain⟨ea,h1,h3,c2⟩:=c
   have hle:=c2.le
   have hlt:z.a<T:=by omega
   rw[bi,u_lv (by omega) c2]
   unfold BR
   rw[if_neg (by omega)]
   by_cases hv:z.v=true
   . rw[if_pos ⟨hlt,hv⟩]
     have:lvF (z::r)=z::lvF r:=by unfold lvF;rw[fu,if_pos hv]
     rw[this,ψ,CL,ψ,ak]
     congr 1
     simp [lvF,hv]
   . rw[if_neg (λh=>hv h.2)]
     have:lvF (z::r)=lvF r:=by unfold lvF;rw[fu,if_neg hv]
     rw[this]
theorem gK{cs:List Int}{A1 M B:List Pc}{S T:Int}(hm:AH cs (A1++M++B))(c1:Ai 0 A1 S)(c2:Ai S M T)(c3:Ai T B cs.length)(hf:(uF S T cs (A1++M++B)).g<T):
   ∃(R':List Int) (qs:List Pc),R'=A6 (uF S T cs (A1++M++B)).R (uF S T cs (A1++M++B)).g (T-(uF S T cs (A1++M++B)).g) false/\R'.length=cs.length/\Ai 0 qs cs.length/\AH R' qs /\
     (lvF qs).map (·.l)=(lvF (A1++M++B)).map (·.l)/\(⟨(uF S T cs (A1++M++B)).g,T-(uF S T cs (A1++M++B)).g,false⟩:Pc)∈qs:=by
 obtain⟨R',tl,e1,e2,l1,ch,mk,_,_⟩:=dZ hm c1 c2 c3 hf;have l2:=c2.le;have eu:uF S T cs (A1++M++B)=M.foldl (BR S T) ⟨cs,S,A1.map λz=>(z,z.a)⟩:=by
   unfold uF;rw[bj,bj,NZ (ps:=A1) (λz hz=>by have:=c1.mem z hz;omega),N1 (ps:=B) (by omega) (λz hz=>by have:=c3.mem z hz;omega)];rfl
 refine⟨R',tl.map (·.1),e1,l1,ch,mk,?_,?_⟩
 . rw[e2,ψ,ψ,CL,CL,ψ,ψ,eu,u_lv (ba _) c2];have ea:(A1.map λz=>(z,z.a)).map (λx:Pc×Int=>x.1)=A1:=by rw[du];exact kn A1
   have eb:(B.map λz=>(z,z.a)).map (λx:Pc×Int=>x.1)=B:=by rw[du];exact kn B
   show ((lvF ((A1.map λz=>(z,z.a)).map (λx:Pc×Int=>x.1))).map _++_)++_++_=_;rw[ea,eb,CL,CL,ψ,ψ];simp [lvF]
 . rw[e2,ψ,ψ];exact Φ _ (μ _ Ξ)
end Stow
def Stow.wA(l:List Lean.Name):Array (Lean.TSyntax ``Lean.Parser.Tactic.tacticSeq):=Lean.Unhygienic.run (l.toArray.mapM λn=>`(tacticSeq| with_reducible refine $(Lean.mkIdent n) ?_))
local macro_rules | `(tactic| walk_at "D")=>`(tactic| try dsimp only[L2.cxOf,L2.Cx.nox])
local macro_rules
 | `(tactic| walk_at "S")=>`(tactic| first
   | exact Stow.set0_c
   | exact Stow.set0_1
   | exact Stow.set0_0
   | ((refine Stow.setS_c (r:=?r) ?h);(case h=>walk_at "S"))
   | ((refine Stow.setS_1 (r:=?r) ?h);(case h=>walk_at "S"))
   | ((refine Stow.setS_0 (r:=?r) ?h);(case h=>walk_at "S")))
local macro_rules
 | `(tactic| walk_at "k")=>`(tactic| first
   | with_reducible assumption
   | exact L2.upd_same
   | ((with_reducible refine Stow.look_ne ?a ?b);(case a=>(first | assumption | exact Ne.symm (by assumption)));(case b=>walk_at "k"))
   | ((with_reducible refine Stow.look_put ?a ?b);(case a=>(first | assumption | walk_at "k"));(case b=>walk_at "k"))
   | ((with_reducible refine Stow.look_tup (ys:=?ys) ?a ?b);(case a=>walk_at "k");(case b=>walk_at "k"))
   | assumption)
local macro_rules
 | `(tactic| walk_at "q")=>`(tactic| first
   | with_reducible assumption
   | exact L2.SqL.of (by walk_at "k")
   | ((with_reducible refine Stow.seq_put ?a ?b);(case a=>assumption);(case b=>walk_at "q"))
   | assumption)
local macro_rules
 | `(tactic| walk_at "n")=>`(tactic| first | assumption | omega | (simp only [List.length_map,List.length_set,List.length_append,List.length_cons,List.length_nil] <;> omega))
local macro_rules
 | `(tactic| walk_at "z")=>`(tactic| first | exact Stow.small4000 (by first | omega | (simp only [List.length_map,List.length_set,List.length_append,List.length_cons,List.length_nil] <;> omega)))
local macro_rules
 | `(tactic| walk_at "d")=>`(tactic| first
   | (show (0:Int)<_;first | decide | omega)
   | (show (0:Int)<=_;first | decide | omega)
   | exact Or.inr ⟨by decide,by decide⟩
   | exact Or.inl ⟨by decide,by decide⟩
   | exact⟨by decide,by decide⟩
   | exact⟨by decide,by decide,by decide⟩
   | exact⟨by decide,by decide,by assumption⟩
   | exact⟨by decide,by decide,by omega⟩
   | exact⟨by omega,by omega,by decide⟩
   | exact Or.inr ⟨by omega,by omega⟩
   | exact Or.inl ⟨by omega,by omega⟩
   | exact⟨by omega,by omega⟩)
local macro_rules
 | `(tactic| walk_at "ty")=>`(tactic| first | exact L2.TyOf.int _ | exact L2.TyOf.bl _ | exact L2.TyOf.non | ((refine L2.TyOf.lst (xs:=?xs) ?h);(case h=>walk_at "k")) | ((refine L2.TyOf.tup (xs:=?xs) ?h);(case h=>walk_at "k")) | exact L2.TyOf.str _)
local macro_rules
 | `(tactic| walk_at "K")=>`(tactic| first | exact Stow.kit_ii | exact Stow.kit_ib | exact Stow.kit_bb | exact Stow.kit_ll | exact Stow.kit_tt)
local macro_rules
 | `(tactic| walk_at "sp")=>`(tactic| fail "no promise")
def Stow.wq0:=Stow.wA [`Stow.r_seq,`Stow.r_chain,`Stow.r_asg]
def Stow.wq1:=Stow.wA [`Stow.r_gname,`Stow.r_op,`Stow.r_cons,`Stow.r_nil,`Stow.r_c,`Stow.r_rI0,`Stow.r_call,`Stow.r_cb,`Stow.r_test,`Stow.r_tB,`Stow.r_bl,`Stow.r_ifS,`Stow.r_ret,`Stow.r_rt,`Stow.r_drop,`Stow.r_next,`Stow.r_not,`Stow.r_and,`Stow.r_or,`Stow.r_andV,`Stow.r_orV,`Stow.r_notV,`Stow.r_ifE,`Stow.r_ifN,`Stow.r_eqI,`Stow.r_neI,`Stow.r_isN,`Stow.r_int,`Stow.r_eqB,`Stow.r_neB,`Stow.r_tup,`Stow.r_lst,`Stow.r_bm,`Stow.r_bm0,`Stow.r_sl,`Stow.r_part,`Stow.r_nopart,`Stow.r_un,`Stow.r_rU,`Stow.r_intB,`Stow.r_intI,`Stow.r_truB,`Stow.r_gsub,`Stow.r_retN,`Stow.r_ct,`Stow.r_bk,`Stow.r_break,`Stow.r_cont,`L2.iteT,`L2.iteF]
def Stow.wq2:=Stow.wA [`Stow.r_raise,`Stow.r_raiseI,`Stow.r_tryAs,`Stow.r_try,`Stow.r_fldX,`Stow.r_for,`Stow.r_iL,`Stow.r_iR1,`Stow.r_iR2,`Stow.r_comp]
def Stow.wq3:=Stow.wA [`Stow.r_makeX,`Stow.r_makeI,`Stow.r_fldN]
def Stow.wq4:=Stow.wA [`Stow.r_tryE,`Stow.r_tryA,`Stow.r_xCall,`Stow.r_tryS,`Stow.r_xSet,`Stow.r_xIf,`Stow.r_xMeth,`Stow.r_xMethD,`Stow.r_xMake,`Stow.r_methD,`Stow.r_isB]
local macro_rules
 | `(tactic| walk_at "t")=>`(tactic| first
   | ((with_reducible refine Stow.r_var (v:=?v) ?e ?_);(case e=>exact rfl))
   $[| $(Stow.wq0):tacticSeq]*
   | ((with_reducible refine Stow.r_gnameN (σ':=?s) ?e ?_);(case e=>with_reducible (walk_at "S")))
   $[| $(Stow.wq1):tacticSeq]*
   | ((with_reducible refine Stow.r_rI ?c ?_);(case c=>walk_at "d"))
   | ((with_reducible refine Stow.r_tyL (xs:=?xs) ?h ?_);(case h=>walk_at "k"))
   | ((with_reducible refine Stow.r_appendI (ns:=?ns) ?h ?z ?_);(case h=>walk_at "k");(case z=>walk_at "z"))
   | ((with_reducible refine Stow.r_append (xs:=?xs) ?h ?z ?_);(case h=>walk_at "k");(case z=>walk_at "z"))
   | ((with_reducible refine Stow.r_gtup (xs:=?xs) ?h ?l ?_);(case h=>walk_at "k");(case l=>exact rfl))
   | (with_reducible refine Stow.r_gcons ?_)
   | (with_reducible refine Stow.r_gnil ?_)
   | ((with_reducible refine Stow.r_ixI (ns:=?ns) ?h ?a ?b ?_);(case h=>walk_at "q");(case a=>walk_at "n");(case b=>walk_at "n"))
   | ((with_reducible refine Stow.r_ixT (xs:=?xs) (v:=?v) ?h ?e ?_);(case h=>walk_at "k");(case e=>exact rfl))
   | ((with_reducible refine Stow.r_setI (ns:=?ns) ?h ?a ?b ?_);(case h=>walk_at "k");(case a=>walk_at "n");(case b=>walk_at "n"))
   | ((with_reducible refine Stow.r_sllG (ns:=?ns) ?h ?_);(case h=>walk_at "q"))
   | ((with_reducible refine Stow.r_sll (xs:=?xs) ?h ?_);(case h=>walk_at "q"))
   | ((with_reducible refine Stow.r_lenI (ns:=?ns) ?h ?_);(case h=>walk_at "q");(try rw[List.length_map]))
   | ((with_reducible refine Stow.r_lenL (xs:=?xs) ?h ?_);(case h=>walk_at "k"))
   | ((with_reducible refine Stow.r_lenT (xs:=?xs) ?h ?_);(case h=>walk_at "k"))
   | ((with_reducible refine Stow.r_listI (xs:=?xs) ?h ?_);(case h=>walk_at "q"))
   | ((with_reducible refine Stow.r_isi (t:=?t) (b:=?b) ?y ?e ?_);(case y=>walk_at "ty");(case e=>walk_at "K"))
   | ((with_reducible refine Stow.r_new ?h ?_);(case h=>(first | exact Nat.zero_le _ | simp)))
   | ((with_reducible refine Stow.r_truL (xs:=?xs) ?h ?_);(case h=>walk_at "q"))
   | ((with_reducible refine Stow.r_ifdT ?c ?_);(case c=>(first | omega | exact rfl)))
   | ((with_reducible refine Stow.r_ifdF ?c ?_);(case c=>(first | omega | (intro h;cases h;done))))
   $[| $(Stow.wq2):tacticSeq]*
   | ((with_reducible refine Stow.r_isiX (C:=?C) (od:=?od) (b:=?b) ?h ?z ?e ?_);(case h=>walk_at "k");(case z=>assumption);(case e=>assumption))
   | ((with_reducible refine Stow.r_isiN (C:=?C) (od:=?od) (b:=?b) ?h ?z ?n ?e ?_);(case h=>walk_at "k");(case z=>assumption);(case n=>exact λz=>nomatch z);(case e=>assumption))
   $[| $(Stow.wq3):tacticSeq]*
   | ((with_reducible refine Stow.r_catG (xs:=?xs) (zs:=?zs) ?h ?g ?z ?_);(case h=>walk_at "k");(case g=>walk_at "k");(case z=>walk_at "n"))
   | ((with_reducible refine Stow.r_cat (xs:=?xs) (zs:=?zs) ?h ?g ?z ?_);(case h=>walk_at "k");(case g=>walk_at "k");(case z=>(refine Nat.le_of_lt (L2.small1000 ?_);first | omega | simp)))
   | ((with_reducible refine Stow.r_slS ?h ?_);(case h=>decide))
   | (with_reducible refine Stow.r_max ?_)
   | (with_reducible refine Stow.r_fld ?_)
   | ((with_reducible refine Stow.r_at (C:=?C) (dx:=?dx) (fs:=?fs) (v:=?v) ?h ?c ?n ?l ?_);(case h=>walk_at "k");(case c=>assumption);(case n=>assumption);(case l=>exact rfl))
   | (with_reducible refine Stow.r_sfld ?_)
   | ((with_reducible refine Stow.r_sat (C:=?C) (dx:=?dx) (fs:=?fs) ?h ?c ?n ?l ?_);(case h=>walk_at "k");(case c=>assumption);(case n=>assumption);(case l=>(first | decide | simp)))
   | (with_reducible refine Stow.r_meth ?_)
   | ((with_reducible refine Stow.r_mat (dx:=?dx) (fs:=?fs) ?h ?l ?_);(case h=>walk_at "k");(case l=>exact rfl))
   | (with_reducible refine Stow.r_make ?_)
   | (with_reducible refine Stow.r_compG ?_)
   | ((with_reducible refine Stow.r_isiO (C:=?C) (dx:=?dx) (fs:=?fs) (b:=?b) ?h ?z ?e ?_);(case h=>walk_at "k");(case z=>assumption);(case e=>assumption))
   $[| $(Stow.wq4):tacticSeq]*
   | ((with_reducible refine Stow.r_notIn (xs:=?xs) ?h ?f ?g ?_);(case h=>walk_at "k");(case f=>exact rfl);(case g=>exact rfl))
   | (with_reducible refine Stow.r_nx ?_)
   | walk_at "sp")
local macro_rules
 | `(tactic| walk_at "")=>`(tactic| repeat walk_at "t")
local macro_rules
 | `(tactic| walk_at "l")=>`(tactic| first | (rintro ⟨e,_⟩;exact congrArg List.length e) | (rintro ⟨_,h⟩;revert h;walk_at "l"))
local macro_rules
 | `(tactic| walk_at "s")=>`(tactic| repeat (first | (with_reducible refine Stow.r_nx ?_) | ((fail_if_success (with_reducible refine Stow.r_isIf ?_));walk_at "t")))
local macro_rules
 | `(tactic| walk_at "a")=>`(tactic| repeat ((fail_if_success (with_reducible refine Stow.r_isAnd ?_));(fail_if_success (with_reducible refine Stow.r_isOr ?_));walk_at "t"))
local macro_rules
 | `(tactic| walk_at "e")=>`(tactic| repeat (first | (with_reducible refine Stow.r_nx ?_) | ((fail_if_success (with_reducible refine Stow.r_isSeq ?_));walk_at "t")))
local macro_rules
 | `(tactic| walk_at "1")=>`(tactic| ((with_reducible refine Stow.r_seq ?_);walk_at "e"))
def Stow.wq5:=Stow.wA [`Stow.r_dget,`Stow.r_dput,`Stow.r_forD,`Stow.r_forI,`Stow.r_dnew,`Stow.r_xExp]
local macro_rules
 | `(tactic| walk_at "t")=>`(tactic| first
   $[| $(Stow.wq5):tacticSeq]*
   | ((with_reducible refine Stow.r_tyD (kvs:=?kvs) ?h ?_);(case h=>walk_at "k")))
def Stow.wq6:=Stow.wA [`Stow.r_eqSS,`Stow.r_neSS,`Stow.r_eqSt,`Stow.r_neSt,`Stow.r_methF,`Stow.r_methFD,`Stow.r_xMethF,`Stow.r_xMethFD]
local macro_rules
 | `(tactic| walk_at "t")=>`(tactic| first
   | (with_reducible refine Stow.r_dIn ?_)
   | (with_reducible refine Stow.r_dPop ?_)
   | ((with_reducible refine Stow.r_truD (kvs:=?kvs) ?h ?_);(case h=>walk_at "k"))
   $[| $(Stow.wq6):tacticSeq]*
   | ((with_reducible refine Stow.r_matF (i:=?i) (dx:=?dx) (fs:=?fs) ?h ?l ?_);(case h=>walk_at "k");(case l=>(first | exact Stow.fsF_none (by decide) (by decide) | exact rfl)))
   | ((with_reducible refine Stow.r_at (C:=?C) (dx:=?dx) (fs:=?fs) (v:=?v) ?h ?c ?n ?l ?_);(case h=>walk_at "k");(case c=>assumption);(case n=>assumption);(case l=>exact Stow.fsF_cells))
   | ((with_reducible refine Stow.r_sat (C:=?C) (dx:=?dx) (fs:=?fs) ?h ?c ?n ?l ?_);(case h=>walk_at "k");(case c=>assumption);(case n=>assumption);(case l=>exact Stow.fsF_few)))
local macro_rules
 | `(tactic| walk_at "t")=>`(tactic| first
   | (with_reducible refine Stow.r_tryAC ?_)
   | (with_reducible refine Stow.r_xMethFX ?_))
def Stow.wq7:=Stow.wA [`Stow.i_long,`Stow.i_live,`Stow.i_whole]
local macro_rules
 | `(tactic| walk_at "sp")=>`(tactic| first
   $[| $(Stow.wq7):tacticSeq]*
   | ((with_reducible refine Stow.i_cell (ns:=?ns) ?h ?a ?_);(case h=>walk_at "q");(case a=>walk_at "nn"))
   | ((with_reducible refine Stow.i_can (ns:=?ns) ?h ?a ?b ?_);(case h=>walk_at "q");(case a=>walk_at "n");(case b=>walk_at "n"))
   | ((with_reducible refine Stow.i_bad (ns:=?ns) ?h ?a ?b ?_);(case h=>walk_at "q");(case a=>walk_at "n");(case b=>walk_at "n")))
local macro_rules
 | `(tactic| walk_at "nn")=>`(tactic| first | decide | omega | exact Int.emod_nonneg _ (by decide) | exact Int.emod_nonneg _ (by omega))
--GEN
namespace Stow
open PySem L2 PyProof.Rows
variable{n:Int}{ps:List Pc}{cs:List Int}{f₀:qH}{fd₀:qJ}{Hs:Int->Option Pc}{hk:List (Int×Int)}
theorem fS{N Q:List Str}{sc:qP}(a:sc.kind = .function:=by rfl)(b:sc.isCoroutine=false:=by rfl)(c:sc.isGenerator=false:=by rfl)(d:N.Nodup:=by decide +kernel)(e:N.take Q.length=Q:=by rfl)(f:∀x∈Q,sc.names.lookup x=some .local\/sc.names.lookup x=some .cell:=by decide +kernel)(g:∀y∈sc.names,y.2≠.free:=by decide +kernel):tD N Q sc:=⟨a,b,c,d,e,f,g⟩
abbrev QM:qO:=top 0
theorem QN:tD ["k"] ["k"] (Am QM):=fS
abbrev BiS(x q:Str)(s:qO)(ps:List Str):Prop:=∀(kV doc pm:qG) (an:Option qH) (cdv ct:qG) (us:List qG),us.length=ps.length->qS (fnOf x q (BA s) (Bp s) (Am s) .none kV doc pm an cdv ct) ⟨us,[]⟩=pure (ps.zip us)
theorem rE{x q:Str}{s}{p0:Str}(h:∀kV doc pm an cdv ct u0,qS (fnOf x q (BA s) (Bp s) (Am s) .none kV doc pm an cdv ct) ⟨[u0],[]⟩=pure (([p0]:List Str).zip [u0]):=by intros;exact rfl):BiS x q s [p0]:=λ_ _ _ _ _ _ us hl=>match us,hl with | [u0],_=>h _ _ _ _ _ _ u0
theorem rF{x q:Str}{s}{p0 p1:Str}(h:∀kV doc pm an cdv ct u0 u1,qS (fnOf x q (BA s) (Bp s) (Am s) .none kV doc pm an cdv ct) ⟨[u0,u1],[]⟩=pure (([p0,p1]:List Str).zip [u0,u1]):=by intros;exact rfl):BiS x q s [p0,p1]:=λ_ _ _ _ _ _ us hl=>match us,hl with | [u0,u1],_=>h _ _ _ _ _ _ u0 u1
theorem rG{x q:Str}{s}{p0 p1 p2:Str}(h:∀kV doc pm an cdv ct u0 u1 u2,qS (fnOf x q (BA s) (Bp s) (Am s) .none kV doc pm an cdv ct) ⟨[u0,u1,u2],[]⟩=pure (([p0,p1,p2]:List Str).zip [u0,u1,u2]):=by intros;exact rfl):BiS x q s [p0,p1,p2]:=λ_ _ _ _ _ _ us hl=>match us,hl with | [u0,u1,u2],_=>h _ _ _ _ _ _ u0 u1 u2
theorem rH{x q:Str}{s}{p0 p1 p2 p3:Str}(h:∀kV doc pm an cdv ct u0 u1 u2 u3,qS (fnOf x q (BA s) (Bp s) (Am s) .none kV doc pm an cdv ct) ⟨[u0,u1,u2,u3],[]⟩=pure (([p0,p1,p2,p3]:List Str).zip [u0,u1,u2,u3]):=by intros;exact rfl):BiS x q s [p0,p1,p2,p3]:=λ_ _ _ _ _ _ us hl=>match us,hl with | [u0,u1,u2,u3],_=>h _ _ _ _ _ _ u0 u1 u2 u3
theorem rJ{x q:Str}{s}{p0 p1 p2 p3 p4:Str}(h:∀kV doc pm an cdv ct u0 u1 u2 u3 u4,qS (fnOf x q (BA s) (Bp s) (Am s) .none kV doc pm an cdv ct) ⟨[u0,u1,u2,u3,u4],[]⟩=pure (([p0,p1,p2,p3,p4]:List Str).zip [u0,u1,u2,u3,u4]):=by intros;exact rfl):BiS x q s [p0,p1,p2,p3,p4]:=λ_ _ _ _ _ _ us hl=>match us,hl with | [u0,u1,u2,u3,u4],_=>h _ _ _ _ _ _ u0 u1 u2 u3 u4
theorem QO:BiS "_wall" "_wall" QM ["k"]:=rE
abbrev Oe:qO:=top 18
theorem FQ:tD ["count","bound"] ["count","bound"] (Am Oe):=fS
theorem FR:BiS "check_ask" "check_ask" Oe ["count","bound"]:=rF
abbrev FS:qO:=top 19
theorem XR:tD ["count","bound"] ["count","bound"] (Am FS):=fS
theorem XS:BiS "check_plain_ask" "check_plain_ask" FS ["count","bound"]:=rF
abbrev Of:qO:=top 21
theorem FT:tD ["long","live"] ["long","live"] (Am Of):=fS
theorem FU:BiS "mark_of" "mark_of" Of ["long","live"]:=rF
abbrev Og:qO:=top 22
theorem FV:tD ["number"] ["number"] (Am Og):=fS
theorem FW:BiS "long_of" "long_of" Og ["number"]:=rE
abbrev Oh:qO:=top 23
theorem FX:tD ["number"] ["number"] (Am Oh):=fS
theorem FY:BiS "live_of" "live_of" Oh ["number"]:=rE
abbrev Oi:qO:=top 26
theorem XT:tD ["cells","at","long"] ["cells","at"] (Am Oi):=fS
theorem FZ:BiS "can_begin" "can_begin" Oi ["cells","at"]:=rF
abbrev Oj:qO:=top 27
theorem XU:tD ["cells","at","last"] ["cells","at"] (Am Oj):=fS
theorem F1:BiS "bad_of_piece" "bad_of_piece" Oj ["cells","at"]:=rF
abbrev Ol:qO:=top 28
theorem IF:tD ["cells","pieces","at","bad","long"] ["cells"] (Am Ol):=fS
theorem F3:BiS "looked" "looked" Ol ["cells"]:=rE
abbrev Om:qO:=top 29
theorem XV:tD ["count","cells"] ["count"] (Am Om):=fS
theorem F4:BiS "fresh_room" "fresh_room" Om ["count"]:=rE
abbrev On:qO:=top 31
theorem XW:tD ["cells","at","long","live","row"] ["cells","at","long","live"] (Am On):=fS
theorem F5:BiS "laid" "laid" On ["cells","at","long","live"]:=rH
abbrev Oo:qO:=top 32
theorem F6:tD ["cells","begin","end"] ["cells","begin","end"] (Am Oo):=fS
theorem F7:BiS "laid_free" "laid_free" Oo ["cells","begin","end"]:=rG
abbrev Op:qO:=top 33
theorem XX:tD ["cells","at","piece"] ["cells","at"] (Am Op):=fS
theorem F8:BiS "piece_at" "piece_at" Op ["cells","at"]:=rF
abbrev Oq:qO:=top 34
theorem XY:tD ["cells","at","piece"] ["cells","at"] (Am Oq):=fS
theorem F9:BiS "live_at" "live_at" Oq ["cells","at"]:=rF
abbrev Os:qO:=top 35
theorem XZ:tD ["cells","at","piece"] ["cells","at"] (Am Os):=fS
theorem Ga:BiS "free_at" "free_at" Os ["cells","at"]:=rF
abbrev Ot:qO:=top 36
theorem X0:tD ["cells","cell","begins"] ["cells","cell"] (Am Ot):=fS
theorem Gb:BiS "begin_around" "begin_around" Ot ["cells","cell"]:=rF
abbrev Ou:qO:=top 37
theorem Gc:tD ["cells","at"] ["cells","at"] (Am Ou):=fS
theorem Gd:BiS "free_begin" "free_begin" Ou ["cells","at"]:=rF
abbrev Ov:qO:=top 38
theorem Ge:tD ["cells","end"] ["cells","end"] (Am Ov):=fS
theorem Gf:BiS "free_end" "free_end" Ov ["cells","end"]:=rF
abbrev Ox:qO:=top 39
theorem Gg:tD ["cells","at","place","long","begin","free_long","live","end","row"] ["cells","at","place","long"] (Am Ox):=fS
theorem Gh:BiS "cut_out" "cut_out" Ox ["cells","at","place","long"]:=rH
abbrev Oy:qO:=top 40
theorem Oz:tD ["cells","at","begin","long","live"] ["cells","at"] (Am Oy):=fS
theorem Gi:BiS "freed" "freed" Oy ["cells","at"]:=rF
abbrev OA:qO:=top 41
theorem JJ:tD ["pieces","row","at","long","live"] ["pieces"] (Am OA):=fS
theorem Gj:BiS "joined_pieces" "joined_pieces" OA ["pieces"]:=rE
abbrev OB:qO:=top 42
theorem IG:tD ["cells","row","at","long","live"] ["cells"] (Am OB):=fS
theorem Gk:BiS "joined" "joined" OB ["cells"]:=rE
abbrev OC:qO:=top 43
theorem X1:tD ["cells","source","goal","count","row"] ["cells","source","goal","count"] (Am OC):=fS
theorem Gm:BiS "carried" "carried" OC ["cells","source","goal","count"]:=rH
abbrev OD:qO:=top 45
theorem JK:tD ["pieces","starts","at","long","live"] ["pieces"] (Am OD):=fS
theorem Gn:BiS "starts_of" "starts_of" OD ["pieces"]:=rE
abbrev OE:qO:=top 46
theorem Go:tD ["pieces","count","stops","ahead","at","long","live"] ["pieces","count"] (Am OE):=fS
theorem Gp:BiS "stops_of" "stops_of" OE ["pieces","count"]:=rF
abbrev OF:qO:=top 47
theorem Ek:tD ["cells","need","pieces","stops","plans","start","ahead","stop","ahead_of_stop","moved"] ["cells","need"] (Am OF):=fS
theorem Gq:BiS "best_plan" "best_plan" OF ["cells","need"]:=rF
abbrev OG:qO:=top 48
theorem Fj:tD ["cells","start","stop","row","goal","at","long","live"] ["cells","start","stop"] (Am OG):=fS
theorem Gr:BiS "moved_down" "moved_down" OG ["cells","start","stop"]:=rG
abbrev OH:qO:=top 49
theorem JL:tD ["cells","need","plan","moved","start","stop"] ["cells","need"] (Am OH):=fS
theorem Gs:BiS "gathered" "gathered" OH ["cells","need"]:=rF
abbrev OI:qO:=top 53
theorem JM:tD ["piece","long","bound","at","piece_long","live","place"] ["piece","long","bound"] (Am OI):=fS
theorem Gu:BiS "first_place" "first_place" OI ["piece","long","bound"]:=rG
abbrev OJ:qO:=top 54
theorem OK:tD ["cells","long","bound","spots","piece","place"] ["cells","long","bound"] (Am OJ):=fS
theorem Gv:BiS "spots_for" "spots_for" OJ ["cells","long","bound"]:=rG
abbrev OL:qO:=top 56
theorem Gw:tD ["ranked"] ["ranked"] (Am OL):=fS
theorem Gx:BiS "least_place" "least_place" OL ["ranked"]:=rE
abbrev OM:qO:=top 62
theorem Gy:tD ["word","size"] ["word","size"] (Am OM):=fS
theorem Gz:BiS "stretches_of" "stretches_of" OM ["word","size"]:=rF
abbrev JN:qO:=top 64
theorem X2:tD ["places","pieces","rising"] ["places","pieces"] (Am JN):=fS
theorem GA:BiS "followed" "followed" JN ["places","pieces"]:=rF
abbrev ON:qO:=top 67
theorem GB:tD ["_law_script","_law_k"] ["_law_script","_law_k"] (Am ON):=fS
theorem GC:BiS "_law_cell_at" "_law_cell_at" ON ["_law_script","_law_k"]:=rF
abbrev OO:qO:=top 68
theorem GD:tD ["_law_found"] ["_law_found"] (Am OO):=fS
theorem GE:BiS "_law_whole" "_law_whole" OO ["_law_found"]:=rE
abbrev OP:qO:=top 69
theorem IH:tD ["_law_cells","_law_told","_law_at","_law_long","_law_live"] ["_law_cells"] (Am OP):=fS
theorem GF:BiS "_law_walk" "_law_walk" OP ["_law_cells"]:=rE
abbrev OQ:qO:=top 70
theorem QP:tD ["_law_flags","_law_words_here"] ["_law_flags"] (Am OQ):=fS
theorem GG:BiS "_law_words" "_law_words" OQ ["_law_flags"]:=rE
abbrev OR:qO:=top 71
theorem GH:tD ["_law_desk","_law_which","_law_one","_law_count","_law_k"] ["_law_desk","_law_which","_law_one","_law_count","_law_k"] (Am OR):=fS
theorem GI:BiS "_law_done" "_law_done" OR ["_law_desk","_law_which","_law_one","_law_count","_law_k"]:=rJ
abbrev OS:qO:=top 72
theorem D6:tD ["_law_desk","_law_which","_law_one","_law_count","_law_k","_law_flags","_law_told","e"] ["_law_desk","_law_which","_law_one","_law_count","_law_k"] (Am OS):=fS
theorem GJ:BiS "_law_call" "_law_call" OS ["_law_desk","_law_which","_law_one","_law_count","_law_k"]:=rJ
abbrev OT:qO:=top 73
theorem II:tD ["_law_script","_law_cell","_law_word","_law_size","_law_odd","_law_low"] ["_law_script"] (Am OT):=fS
theorem GK:BiS "_law_made" "_law_made" OT ["_law_script"]:=rE
abbrev OU:qO:=top 74
theorem GL:tD ["_law_held","_law_which","_law_one","_law_count","_law_k","_law_size"] ["_law_held","_law_which","_law_one","_law_count","_law_k","_law_size"] (Am OU):=fS
theorem GM:BiS "_law_due" "_law_due" OU ["_law_held","_law_which","_law_one","_law_count","_law_k","_law_size"]:=λ_ _ _ _ _ _ us hl=>match us,hl with | [_,_,_,_,_,_],_=>rfl
abbrev OV:qO:=top 75
theorem GN:tD ["_law_desk","_law_held","_law_pieces","_law_found","_law_places","_law_one","_law_place","_law_lives"] ["_law_desk","_law_held"] (Am OV):=fS
theorem GO:BiS "_law_seen" "_law_seen" OV ["_law_desk","_law_held"]:=rF
abbrev OW:qO:=top 76
theorem GP:tD ["_law_desk","_law_held","_law_which","_law_one","_law_count","_law_k","_law_told"] ["_law_desk","_law_held","_law_which","_law_one","_law_count","_law_k","_law_told"] (Am OW):=fS
theorem GQ:BiS "_law_right" "_law_right" OW ["_law_desk","_law_held","_law_which","_law_one","_law_count","_law_k","_law_told"]:=λ_ _ _ _ _ _ us hl=>match us,hl with | [_,_,_,_,_,_,_],_=>rfl
abbrev OX:qO:=top 77
theorem DF:tD ["_law_desk","_law_held","_law_upto","_law_cell","_law_size","_law_which","_law_low","_law_count","_law_one","_law_k","_law_before","_law_due_here","_law_words_here","_law_told"] ["_law_desk","_law_held","_law_upto","_law_cell","_law_size"] (Am OX):=fS
theorem GR:BiS "_law_step" "_law_step" OX ["_law_desk","_law_held","_law_upto","_law_cell","_law_size"]:=rJ
abbrev GS:qO:=top 78
theorem Fk:tD ["_law_script","_law_desk","_law_size","_law_held","_law_upto","_law_cell","_law_right_here"] ["_law_script"] (Am GS):=fS
theorem bi_law:BiS "law" "law" GS ["_law_script"]:=rE
abbrev X3:qO:=Al (top 5) 0
theorem pR:tD ["self","cell"] ["self","cell"] (Am X3):=fS
theorem pS:BiS "__init__" "Broken.__init__" X3 ["self","cell"]:=rF
abbrev X4:qO:=Al (top 13) 0
theorem pT:tD ["self","line"] ["self","line"] (Am X4):=fS
theorem pU:BiS "__init__" "BadLine.__init__" X4 ["self","line"]:=rF
abbrev GT:qO:=Al (top 51) 0
theorem OY:tD ["self","size"] ["self","size"] (Am GT):=fS
theorem OZ:BiS "__init__" "Keeper.__init__" GT ["self","size"]:=rF
abbrev O0:qO:=Al (top 60) 0
theorem gL:tD ["self","size"] ["self","size"] (Am O0):=fS
theorem gM:BiS "__init__" "Next.__init__" O0 ["self","size"]:=rF
abbrev O1:qO:=Al (top 65) 0
theorem gO:tD ["self","size","word"] ["self","size","word"] (Am O1):=fS
theorem gP:BiS "__init__" "Handles.__init__" O1 ["self","size","word"]:=rG
abbrev El:qO:=Al (top 57) 4
theorem JO:tD ["self","cells"] ["self","cells"] (Am El):=fS
theorem JP:BiS "room_begin" "Stretches.room_begin" El ["self","cells"]:=rF
abbrev Em:qO:=Al (top 60) 3
theorem JQ:tD ["self","cells"] ["self","cells"] (Am Em):=fS
theorem JR:BiS "room_begin" "Next.room_begin" Em ["self","cells"]:=rF
abbrev En:qO:=Al (top 57) 5
theorem JS:tD ["self","behind"] ["self","behind"] (Am En):=fS
theorem JT:BiS "room_granted" "Stretches.room_granted" En ["self","behind"]:=rF
abbrev Eo:qO:=Al (top 60) 4
theorem JU:tD ["self","behind"] ["self","behind"] (Am Eo):=fS
theorem JV:BiS "room_granted" "Next.room_granted" Eo ["self","behind"]:=rF
abbrev O2:qO:=Al (top 51) 1
theorem GU:tD ["self"] ["self"] (Am O2):=fS
theorem GV:BiS "cells" "Keeper.cells" O2 ["self"]:=rE
abbrev O3:qO:=Al (top 51) 3
theorem GW:tD ["self","cells"] ["self","cells"] (Am O3):=fS
theorem GX:BiS "lay" "Keeper.lay" O3 ["self","cells"]:=rF
abbrev O4:qO:=Al (top 51) 2
theorem GY:tD ["self"] ["self"] (Am O4):=fS
theorem GZ:BiS "pieces" "Keeper.pieces" O4 ["self"]:=rE
abbrev O5:qO:=Al (top 51) 5
theorem O6:tD ["self","place","at","long","live"] ["self","place"] (Am O5):=fS
theorem G0:BiS "many" "Keeper.many" O5 ["self","place"]:=rF
abbrev Ep:qO:=Al (top 51) 12
theorem Fl:tD ["self","place","k","many"] ["self","place","k"] (Am Ep):=fS
theorem JW:BiS "room_cell_of" "Keeper.room_cell_of" Ep ["self","place","k"]:=rG
abbrev O7:qO:=Al (top 51) 7
theorem X5:tD ["self","place","k","number","cell"] ["self","place","k","number"] (Am O7):=fS
theorem G1:BiS "put" "Keeper.put" O7 ["self","place","k","number"]:=rH
abbrev O8:qO:=Al (top 51) 6
theorem G3:tD ["self","place","k"] ["self","place","k"] (Am O8):=fS
theorem G4:BiS "get" "Keeper.get" O8 ["self","place","k"]:=rG
abbrev O9:qO:=Al (top 58) 0
theorem X6:tD ["self","long","bound","spots"] ["self","long","bound"] (Am O9):=fS
theorem G5:BiS "chosen" "First.chosen" O9 ["self","long","bound"]:=rG
abbrev Pa:qO:=Al (top 59) 0
theorem QQ:tD ["self","long","bound","cells","spots"] ["self","long","bound"] (Am Pa):=fS
theorem G6:BiS "chosen" "Best.chosen" Pa ["self","long","bound"]:=rG
abbrev Pb:qO:=Al (top 60) 2
theorem X7:tD ["self","long","bound","spots"] ["self","long","bound"] (Am Pb):=fS
theorem G7:BiS "chosen" "Next.chosen" Pb ["self","long","bound"]:=rG
abbrev Pd:qO:=Al (top 61) 0
theorem QR:tD ["self","long","bound","cells","spots"] ["self","long","bound"] (Am Pd):=fS
theorem G8:BiS "chosen" "Likes.chosen" Pd ["self","long","bound"]:=rG
abbrev Er:qO:=Al (top 57) 1
theorem QS:tD ["self","count","bound","long","at"] ["self","count","bound"] (Am Er):=fS
abbrev rK(x q:Str)(s:qO)(ps:List Str):Prop:=∀(T:qH)(d1:qG)(kV doc pm:qG)(an:Option qH)(cdv ct:qG)(us:List qG),us.length=ps.length->∃k:Option (Array qG)->rq (List (Str×qG)),qS (fnOf x q (BA s) (Bp s) (Am s) (.ref T) kV doc pm an cdv ct) ⟨us,[]⟩=qZ (.ref T) >>= k/\k (some [d1].toArray)=pure (ps.zip us)
abbrev rL(x q:Str)(s:qO)(ps:List Str):Prop:=∀(T:qH)(d1:qG)(kV doc pm:qG)(an:Option qH)(cdv ct:qG)(us:List qG),(us++[d1]).length=ps.length->∃k:Option (Array qG)->rq (List (Str×qG)),qS (fnOf x q (BA s) (Bp s) (Am s) (.ref T) kV doc pm an cdv ct) ⟨us,[]⟩=qZ (.ref T) >>= k/\k (some [d1].toArray)=pure (ps.zip (us++[d1]))
theorem rM{x q:Str}{s}{p0 p1 p2:Str}(h:∀T d1 kV doc pm an cdv ct u0 u1 u2,∃k:Option (Array qG)->rq (List (Str×qG)),qS (fnOf x q (BA s) (Bp s) (Am s) (.ref T) kV doc pm an cdv ct) ⟨[u0,u1,u2],[]⟩=qZ (.ref T) >>= k/\k (some [d1].toArray)=pure (([p0,p1,p2]:List Str).zip [u0,u1,u2]):=by intros;exact ⟨_,rfl,rfl⟩):rK x q s [p0,p1,p2]:=λ_ _ _ _ _ _ _ _ us hl=>match us,hl with | [u0,u1,u2],_=>h _ _ _ _ _ _ _ _ u0 u1 u2
theorem rN{x q:Str}{s}{p0 p1 p2:Str}(h:∀T d1 kV doc pm an cdv ct u0 u1,∃k:Option (Array qG)->rq (List (Str×qG)),qS (fnOf x q (BA s) (Bp s) (Am s) (.ref T) kV doc pm an cdv ct) ⟨[u0,u1],[]⟩=qZ (.ref T) >>= k/\k (some [d1].toArray)=pure (([p0,p1,p2]:List Str).zip ([u0,u1]++[d1])):=by intros;exact ⟨_,rfl,rfl⟩):rL x q s [p0,p1,p2]:=λ_ _ _ _ _ _ _ _ us hl=>match us,(show us.length=2 by simpa using hl) with | [u0,u1],_=>h _ _ _ _ _ _ _ _ u0 u1
theorem rO{x q:Str}{s}{p0 p1 p2 p3:Str}(h:∀T d1 kV doc pm an cdv ct u0 u1 u2 u3,∃k:Option (Array qG)->rq (List (Str×qG)),qS (fnOf x q (BA s) (Bp s) (Am s) (.ref T) kV doc pm an cdv ct) ⟨[u0,u1,u2,u3],[]⟩=qZ (.ref T) >>= k/\k (some [d1].toArray)=pure (([p0,p1,p2,p3]:List Str).zip [u0,u1,u2,u3]):=by intros;exact ⟨_,rfl,rfl⟩):rK x q s [p0,p1,p2,p3]:=λ_ _ _ _ _ _ _ _ us hl=>match us,hl with | [u0,u1,u2,u3],_=>h _ _ _ _ _ _ _ _ u0 u1 u2 u3
theorem rP{x q:Str}{s}{p0 p1 p2 p3:Str}(h:∀T d1 kV doc pm an cdv ct u0 u1 u2,∃k:Option (Array qG)->rq (List (Str×qG)),qS (fnOf x q (BA s) (Bp s) (Am s) (.ref T) kV doc pm an cdv ct) ⟨[u0,u1,u2],[]⟩=qZ (.ref T) >>= k/\k (some [d1].toArray)=pure (([p0,p1,p2,p3]:List Str).zip ([u0,u1,u2]++[d1])):=by intros;exact ⟨_,rfl,rfl⟩):rL x q s [p0,p1,p2,p3]:=λ_ _ _ _ _ _ _ _ us hl=>match us,(show us.length=3 by simpa using hl) with | [u0,u1,u2],_=>h _ _ _ _ _ _ _ _ u0 u1 u2
theorem G9:rK "ask" "Stretches.ask" Er ["self","count","bound"]:=rM
theorem Ha:rL "ask" "Stretches.ask" Er ["self","count","bound"]:=rN
abbrev Es:qO:=Al (top 57) 2
theorem JX:tD ["self","place"] ["self","place"] (Am Es):=fS
theorem JY:BiS "give" "Stretches.give" Es ["self","place"]:=rF
abbrev Et:qO:=Al (top 51) 13
theorem Fm:tD ["self","place","count","bound","goal"] ["self","place","count","bound"] (Am Et):=fS
theorem JZ:BiS "room_moved" "Keeper.room_moved" Et ["self","place","count","bound"]:=rH
abbrev BZ:qO:=Al (top 57) 3
theorem IJ:tD ["self","place","count","bound","at","had","live","long","end"] ["self","place","count","bound"] (Am BZ):=fS
theorem J0:rK "grow" "Stretches.grow" BZ ["self","place","count","bound"]:=rO
theorem J1:rL "grow" "Stretches.grow" BZ ["self","place","count","bound"]:=rP
abbrev Pe:qO:=Al (top 65) 1
theorem Hb:tD ["self"] ["self"] (Am Pe):=fS
theorem Hc:BiS "cells" "Handles.cells" Pe ["self"]:=rE
abbrev Eu:qO:=Al (top 65) 3
theorem J3:tD ["self"] ["self"] (Am Eu):=fS
theorem J5:BiS "handles" "Handles.handles" Eu ["self"]:=rE
abbrev Pf:qO:=Al (top 65) 4
theorem He:tD ["self","handle"] ["self","handle"] (Am Pf):=fS
theorem Hf:BiS "place" "Handles.place" Pf ["self","handle"]:=rF
abbrev Pg:qO:=Al (top 65) 5
theorem Hg:tD ["self","handle"] ["self","handle"] (Am Pg):=fS
theorem Hh:BiS "many" "Handles.many" Pg ["self","handle"]:=rF
abbrev Ph:qO:=Al (top 65) 6
theorem Hi:tD ["self","handle","k"] ["self","handle","k"] (Am Ph):=fS
theorem Hj:BiS "get" "Handles.get" Ph ["self","handle","k"]:=rG
abbrev Pi:qO:=Al (top 65) 7
theorem Hk:tD ["self","handle","k","number"] ["self","handle","k","number"] (Am Pi):=fS
theorem Hl:BiS "put" "Handles.put" Pi ["self","handle","k","number"]:=rH
abbrev Pj:qO:=Al (top 65) 9
theorem Hm:tD ["self","handle"] ["self","handle"] (Am Pj):=fS
theorem Hn:BiS "give" "Handles.give" Pj ["self","handle"]:=rF
abbrev Pk:qO:=Al (top 65) 11
theorem QT:tD ["self","need","moved","cells"] ["self","need"] (Am Pk):=fS
theorem Ho:BiS "gather" "Handles.gather" Pk ["self","need"]:=rF
abbrev Pl:qO:=Al (top 65) 8
theorem Pm:tD ["self","count","place","handle"] ["self","count"] (Am Pl):=fS
theorem Hq:BiS "ask" "Handles.ask" Pl ["self","count"]:=rF
abbrev Pn:qO:=Al (top 65) 10
theorem QU:tD ["self","handle","count","place"] ["self","handle","count"] (Am Pn):=fS
theorem Hr:BiS "grow" "Handles.grow" Pn ["self","handle","count"]:=rG
abbrev nI(K:γ)(m:Str)(f:qH):Prop:=nsIn K re m=some (some (.ref f))
abbrev fI(K:γ)(C:qH)(m:Str)(f:qH):Prop:=findIn K (.ref C) m=some (some (.ref f))
abbrev cI(K:γ)(c:qG)(m:Str):Prop:=codeIn K c m=true
abbrev kI(K:γ)(f:qH):Prop:=keepIn K (.ref f)=true
abbrev iI(K:γ)(f:qH):Prop:=isFn K (.ref f)=true
abbrev tI(K:γ)(a b:qH)(c:Bool):Prop:=kitOne K (.ref a) (.ref b)=some c
structure Txt(K:γ)(mg:Str->Option qG)(Y0 Av Aq Y7 Bb Y2 Y6 Y9 Ar Y5 Ao Y3 Bc Bd Y8 Y1 Ae Af Ad Ag Y4 TC TP:qH)(a4:Tok)(a6:Tok):Prop where
 gQ:mg "ValueError"=none
 n_bool:mg "bool"=none
 n_dict:mg "dict"=none
 n_int:mg "int"=none
 n_isinstance:mg "isinstance"=none
 n_len:mg "len"=none
 n_list:mg "list"=none
 n_min:mg "min"=none
 n_range:mg "range"=none
 n_sorted:mg "sorted"=none
 n_zip:mg "zip"=none
 gR:mg "LEAST_LIVE"=some (.int 3 a4)
 J6:mg "MARKS"=some (.int 2 a6)
 gU:mg "StowError"=some (.ref Y0)
 gW:mg "NoName"=some (.ref Av)
 gX:mg "NoSize"=some (.ref Aq)
 gY:mg "Broken"=some (.ref Y7)
 gZ:mg "NoGive"=some (.ref Bb)
 hU:mg "NoHandle"=some (.ref Y2)
 hV:mg "NoPiece"=some (.ref Y6)
 hW:mg "NoCell"=some (.ref Y9)
 hZ:mg "NoAsk"=some (.ref Ar)
 iA:mg "NoBound"=some (.ref Y5)
 QW:mg "NoRoom"=some (.ref Ao)
 iB:mg "BadLine"=some (.ref Y3)
 iC:mg "NoLine"=some (.ref Bc)
 iD:mg "NoTurn"=some (.ref Bd)
 pV:mg "Keeper"=some (.ref Y8)
 iE:mg "Stretches"=some (.ref Y1)
 iF:mg "First"=some (.ref Ae)
 c_Best:mg "Best"=some (.ref Af)
 c_Next:mg "Next"=some (.ref Ad)
 iG:mg "Likes"=some (.ref Ag)
 iH:mg "Handles"=some (.ref Y4)
 lam:wm K mg (.ref TC) TP
 iJ:uy K mg "NoName" Av
 iK:uy K mg "NoSize" Aq
 iL:uy K mg "NoHandle" Y2
 iM:uy K mg "NoCell" Y9
 X8:uy K mg "NoAsk" Ar
 X9:uy K mg "NoRoom" Ao
 Po:Cls K Ae
 QX:BO K Ae "room_cells"
 Pp:Cls K Af
 QY:BO K Af "room_cells"
 Ht:Cls K Ad
 IK:BO K Ad "room_cells"
 Pq:BO K Ad "room_rover"
 Pr:Cls K Ag
 QZ:BO K Ag "room_cells"
 BS:Cls K Y4
 Ev:BO K Y4 "keeper"
 Hu:BO K Y4 "places"
 Ya:BO K Y4 "coming"
 iN:XK0 K Av
 iO:XK0 K Aq
 iP:XK0 K Y2
 iQ:XK0 K Y9
 iR:XK0 K Ar
 iS:XK0 K Ao
 iT:tS K Av Y0 true
 iU:tS K Aq Y0 true
 iV:tS K Y2 Y0 true
 iW:tS K Y9 Y0 true
 iX:tS K Ar Y0 true
 iY:tS K Ao Y0 true
 Yb:tS K Ao Ao true
 Yc:tS K Ar Ao false
 iZ:tS K Y2 Ao false
 jA:tI K Av Av true
 jB:tI K Av Aq false
 jC:tI K Av Y7 false
 jD:tI K Av Bb false
 jE:tI K Av Y2 false
 jF:tI K Av Y6 false
 jG:tI K Av Y9 false
 jH:tI K Av Ar false
 jI:tI K Av Y5 false
 jJ:tI K Av Ao false
 jK:kitOne K (.ref Av) (.type "ValueError")=some true
 jL:tI K Av Y3 false
 jM:tI K Av Bc false
 jN:tI K Av Bd false
 jO:tI K Aq Av false
 jP:tI K Aq Aq true
 jQ:tI K Aq Y7 false
 jR:tI K Aq Bb false
 jS:tI K Aq Y2 false
 jT:tI K Aq Y6 false
 jU:tI K Aq Y9 false
 jV:tI K Aq Ar false
 jW:tI K Aq Y5 false
 jX:tI K Aq Ao false
 jY:kitOne K (.ref Aq) (.type "ValueError")=some true
 jZ:tI K Aq Y3 false
 kA:tI K Aq Bc false
 kB:tI K Aq Bd false
 kC:tI K Y2 Av false
 kE:tI K Y2 Aq false
 kF:tI K Y2 Y7 false
 kH:tI K Y2 Bb false
 kJ:tI K Y2 Y2 true
 kK:tI K Y2 Y6 false
 kM:tI K Y2 Y9 false
 kN:tI K Y2 Ar false
 kO:tI K Y2 Y5 false
 kP:tI K Y2 Ao false
 kQ:kitOne K (.ref Y2) (.type "ValueError")=some true
 kR:tI K Y2 Y3 false
 kS:tI K Y2 Bc false
 kT:tI K Y2 Bd false
 kU:tI K Y9 Av false
 kW:tI K Y9 Aq false
 kX:tI K Y9 Y7 false
 kY:tI K Y9 Bb false
 kZ:tI K Y9 Y2 false
 lA:tI K Y9 Y6 false
 lB:tI K Y9 Y9 true
 lC:tI K Y9 Ar false
 lD:tI K Y9 Y5 false
 lE:tI K Y9 Ao false
 lF:kitOne K (.ref Y9) (.type "ValueError")=some true
 lG:tI K Y9 Y3 false
 lH:tI K Y9 Bc false
 lI:tI K Y9 Bd false
 lJ:tI K Ar Av false
 lK:tI K Ar Aq false
 lL:tI K Ar Y7 false
 lM:tI K Ar Bb false
 lN:tI K Ar Y2 false
 lO:tI K Ar Y6 false
 lP:tI K Ar Y9 false
 lQ:tI K Ar Ar true
 lR:tI K Ar Y5 false
 lS:tI K Ar Ao false
 lT:kitOne K (.ref Ar) (.type "ValueError")=some true
 lU:tI K Ar Y3 false
 lV:tI K Ar Bc false
 lW:tI K Ar Bd false
 lX:tI K Ao Av false
 lY:tI K Ao Aq false
 lZ:tI K Ao Y7 false
 mB:tI K Ao Bb false
 mC:tI K Ao Y2 false
 mD:tI K Ao Y6 false
 mE:tI K Ao Y9 false
 mF:tI K Ao Ar false
 mH:tI K Ao Y5 false
 mI:tI K Ao Ao true
 mJ:kitOne K (.ref Ao) (.type "ValueError")=some true
 mK:tI K Ao Y3 false
 mL:tI K Ao Bc false
 mM:tI K Ao Bd false
section
variable {K:γ}{mg:Str->Option qG}{Y0 Av Aq Y7 Bb Y2 Y6 Y9 Ar Y5 Ao Y3 Bc Bd Y8 Y1 Ae Af Ad Ag Y4 TC TP:qH}{a4:Tok}{a6:Tok}
theorem tH(T:Txt K mg Y0 Av Aq Y7 Bb Y2 Y6 Y9 Ar Y5 Ao Y3 Bc Bd Y8 Y1 Ae Af Ad Ag Y4 TC TP a4 a6):∀i,Cls K ((cF Ae Af Ad Ag) i):=tV T.Po T.Pp T.Ht T.Pr
theorem ub(T:Txt K mg Y0 Av Aq Y7 Bb Y2 Y6 Y9 Ar Y5 Ao Y3 Bc Bd Y8 Y1 Ae Af Ad Ag Y4 TC TP a4 a6):∀i,BO K ((cF Ae Af Ad Ag) i) "room_cells":=tV (Q:=λC=>BO K C "room_cells") T.QX T.QY T.IK T.QZ
end
def uk:Pos:=⟨352,32,352,61⟩
def Fn:Str:=(av "followed"++av ".<locals>.")++av "<lambda>"
def Yd:Sp:=λvs H Q _=>∃(n:Int) (v:Bool),vs=[.int n,.bl v]/\n.natAbs<2^220/\Q (.int (n*2+if v then 1 else 0)) H
section
variable (P:qK)(w:qL)(base:rB){K:γ}{mg:Str->Option qG}{Y0 Av Aq Y7 Bb Y2 Y6 Y9 Ar Y5 Ao Y3 Bc Bd Y8 Y1 Ae Af Ad Ag Y4 TC TP:qH}{a4:Tok}{a6:Tok}
variable (T:Txt K mg Y0 Av Aq Y7 Bb Y2 Y6 Y9 Ar Y5 Ao Y3 Bc Bd Y8 Y1 Ae Af Ad Ag Y4 TC TP a4 a6)
include T in
theorem J7(S:Src K mg "mark_of" Of):tE P w K mg base "mark_of" 1 ["long","live"] (Yd):=by
 refine S.okx FT FU λf cdv A outer s H vs Q E hr h=>⟨_,PSs.nox (Ac (Az (CF ld (λ_=>rfl)) (Ah (An (Ak op_or (Ak WM l_ Aj) Aj))) AA) (Ah (An (Ak WM l_ Aj)))),?_⟩;obtain⟨n,v,rfl,hn,q⟩:=h;walk_at "";refine BX (λhv=>?_) (λhv=>?_)
 . walk_at "";rw[two1,cJ];subst hv;exact q
 . walk_at "";rw[two1];subst hv;rw[if_neg η,Int.add_zero] at q;exact q
include T in
theorem J8(S:Src K mg "long_of" Og):tE P w K mg base "long_of" 1 ["number"] (Qg):=by
 refine S.okx FV FW λf cdv A outer s H vs Q E hr h=>⟨_,PSs.nox (Ah (An (Ak vj l_ Aj))),?_⟩;obtain⟨n,rfl,q⟩:=h;walk_at "";rw[two1];exact q
include T in
theorem J9(S:Src K mg "live_of" Oh):tE P w K mg base "live_of" 1 ["number"] (Qh):=by
 refine S.okx FX FY λf cdv A outer s H vs Q E hr h=>⟨_,PSs.nox (Ah (An (BW AZ (Ak vm l_ Aj) Aj))),?_⟩;obtain⟨n,rfl,q⟩:=h;walk_at "";rw[bG];exact q
variable (AB:tE P w K mg base "long_of" 1 ["number"] (Qg))
variable (AT:tE P w K mg base "live_of" 1 ["number"] (Qh))
include T AB AT in
theorem Ka(S:Src K mg "can_begin" Oi):tE P w K mg base "can_begin" 2 ["cells","at"] (Qi K):=by
 refine S.okx XT FZ λf cdv A outer s H vs Q E hr h=>⟨_,PSs.nox (Ac (i_ 2 XT (k_ AB hr (Aa (AM Bf l_ ld (λ_ _=>rfl)) Ab))) (Ac (Az (PW.pt (CB (Ax Cb mt Aj) (DC (Ax E8 (Ak AN ld mt) (A9 DX (by rfl) T.n_len dw (Aa l_ Ab)))))) (Ah (An Dx)) AA) (Ah (An (pe_or (BW Np mt (BV (v:=.int 3) (by rfl) T.gR ⟨_,rfl⟩)) (Ea (VQ (k_ AT hr (Aa (AM Bf l_ ld (λ_ _=>rfl)) Ab))))))))),?_⟩;walk_at "D";obtain⟨a,ns,k,rfl,hS,h0,h1,q⟩:=h;have q':∀c,Co ns k=c->Q (.bl c) H:=λc e=>e▸q;walk_at "";refine AO (λhc=>?_) (λhc=>?_)
 . walk_at "";exact q' false (by unfold Co;rw[if_pos (υ hc)])
 . walk_at "";refine AO (λhd=>?_) (λhd=>?_)
   . walk_at "";exact q' false (by unfold Co;rw[if_pos (jn hd)])
   . walk_at "";have ec:Co ns k=(decide (3<=ns.getD k.toNat 0/2)||!decide (ns.getD k.toNat 0%2=1)):=by
       unfold Co;rw[if_neg (by omega)]
     refine BX (λhe=>?_) (λhe=>?_)
     . walk_at "";exact q' true (by rw[ec,he,qh])
     . walk_at "";exact q' _ (by rw[ec,he,mj])
variable (CM:tE P w K mg base "can_begin" 2 ["cells","at"] (Qi K))
include T AB CM in
theorem Kb(S:Src K mg "bad_of_piece" Oj):tE P w K mg base "bad_of_piece" 3 ["cells","at"] (Qj K):=by
 refine S.okx XU F1 λf cdv A outer s H vs Q E hr h=>⟨_,PSs.nox (Ac (Az (CD (D9 (k_ CM hr (Aa l_ (Aa ld Ab))))) (Ah (An ld)) AA) (Ac (i_ 2 XU (Ak Bw (Ak AN ld (k_ AB hr (Aa (AM Bf l_ ld (λ_ _=>rfl)) Ab))) Aj)) (Ac (Az (Ax Ib (AM Bf l_ mt (λ_ _=>rfl)) (AM Bf l_ ld (λ_ _=>rfl))) (Ah (An mt)) AA) (Ah (An Br))))),?_⟩;walk_at "D";obtain⟨a,ns,k,rfl,hS,h0,h1,q⟩:=h;have q':∀c,BC ns k=c->Q (vi c) H:=λc e=>e▸q;walk_at "";refine BX (λhc=>?_) (λhc=>?_)
 . obtain⟨b1,b2,_⟩:=(Wf ns k).mp hc;walk_at "";refine AO (λhd=>?_) (λhd=>?_)
   . walk_at "";exact q' none (aB hc hd)
   . walk_at "";exact q' (some _) (aA hc hd)
 . walk_at "";exact q' (some k) (vT hc)
abbrev rQ(K:γ)(a:qH)(ns:List Int)(H:Hp)(Q:VK):Prop:=∀(p:qH) (us:List V) (H':Hp),H p=none->Same H H'->H' p=some (.lst us)->AJ H' us (BP ns 0).1->Q (.ref p) H'
def Ye(K:γ):Sp:=λvs H Q _=>∃(a:qH) (ns:List Int),vs=[.ref a]/\SqL K H a (ns.map V.int)/\ns.length<=4000/\(BP ns 0).2=none/\rQ K a ns H Q
def LkW(H:Hp)(a p:qH)(ns:List Int)(m:Nat)(σ:L2.St)(H':Hp):Prop :=
 ∃(ds:List Pc) (us:List V) (k:Int) (x y:Option V),σ=[some (.ref a),some (.ref p),some (.int k),x,y]/\m=(ns.length-k).toNat/\0<=k/\k<=ns.length/\(ds.length:Int)<=k/\WPre ns ds k/\Same H H'/\H' p=some (.lst us)/\AJ H' us ds
variable (CO:tE P w K mg base "bad_of_piece" 3 ["cells","at"] (Qj K))
include T AB AT CO in
theorem Kc(S:Src K mg "looked" Ol):tE P w K mg base "looked" 4 ["cells"] (Ye K):=by
 refine S.okx IF F3 λf cdv A outer s H vs Q E hr h=>⟨_,PSs.nox (Ac (i_ 1 IF (Bk Ab)) (Ac (i_ 2 IF Aj) (Ac (VR ce (Ax Cb mt (A9 DX (by rfl) T.n_len dw (Aa l_ Ab))) (Ac (i_ 3 IF (k_ CO hr (Aa l_ (Aa mt Ab)))) (Ac (Az (Ax VU m_ Br) (Ah HZ) AA) (Ac (i_ 4 IF (k_ AB hr (Aa (AM Bf l_ mt (λ_ _=>rfl)) Ab))) (Ac (BQ (FL cn cj ck Fb ld (Aa (Bs (Aa mt (Aa n_ (Aa (k_ AT hr (Aa (AM Bf l_ mt (λ_ _=>rfl)) Ab)) Ab)))) Ab))) (Ah (i_ 2 IF (Ak AN mt n_)))))))) (Ah (An ld))))),?_⟩;walk_at "D";obtain⟨a,ns,rfl,hS,hz,hN,q⟩:=h;walk_at "";intro p hp;walk_at "";refine⟨LkW H a p ns,⟨_,[],[],0,none,none,rfl,rfl,by omega,by omega,by decide,WPre.nil ns,Same.new hp,upd_same,AJ.nil⟩,?_⟩;rintro m σ H' ⟨ds,us,k,x,y,rfl,rfl,h0,hkl,hdl,w,s1,hp',pa⟩;have hul:=pa.1;have hS':SqL K H' a (ns.map V.int):=s1.seq hS;walk_at "";refine AO (λhlt=>?_) (λhlt=>?_)
 . refine⟨λσ' H''=>∃m',m'<(ns.length-k).toNat/\LkW H a p ns m' σ' H'',λσ' H'' hw=>hw,?_⟩;walk_at "";cases hb:BC ns k with
   | some b =>
     rw[w.bad hlt hb] at hN;cases hN
   | none =>
     obtain⟨b1,b2,b3⟩:=Nw hb;walk_at "";intro t ht;have hpt:p≠t:=Cz hp' ht;walk_at "";obtain⟨g1,g2⟩:=AJ.push (z:=uh ns k) pa hp' ht;dsimp only [uh] at g1 g2;refine⟨_,?_,ds++[uh ns k],us++[.ref t],k+ns.getD k.toNat 0/2,_,_,rfl,rfl,by omega,by omega,?_,w.step hlt hb,(s1.put (s1.free ht)).put hp,g1,g2⟩
     . omega
     . rw[π,aj];omega
 . walk_at "";exact q p us H' hp s1 hp' (by rw[w.fin hlt];exact pa)
def Cq(n:Int):List Int:=A6 (aw n.toNat 0) 0 n false
theorem Ps(h:0<=n):((Cq n).length:Int)=n:=by
 unfold Cq;rw[Cp,bz];omega
theorem mO(n:Nat):(aw n [V.int 0]).flatten=(aw n (0:Int)).map V.int:=by
 induction n with
 | zero=>rfl
 | succ n ih=>rw[db,fg,ih,db,ar];rfl
def Yf(C:qH):Sp:=λvs H Q E=>∃n:Int,vs=[.int n]/\n<=4000/\(n<1->E (.ref C) none H)/\(1<=n->∀(p:qH) (H':Hp),H p=none->Same H H'->H' p=some (.lst ((Cq n).map V.int))->Q (.ref p) H')
variable (Bm:tE P w K mg base "mark_of" 1 ["long","live"] (Yd))
include T Bm in
theorem Kd(S:Src K mg "fresh_room" Om):tE P w K mg base "fresh_room" 2 ["count"] (Yf Aq):=by
 refine S.okx XV F4 λf cdv A outer s H vs Q E hr h=>⟨_,(Ac (Az (Ax Cb l_ Aj) (Ah (Fd T.iK rfl (Aa At Ab))) AA) (Ac (i_ 1 XV (Ak vk (Bk (Aa Aj Ab)) l_)) (Ac (Cs (k_ Bm hr (Aa l_ (Aa Dx Ab))) (Ia ld Aj Ii)) (Ac (Cs (k_ Bm hr (Aa l_ (Aa Dx Ab))) (Ia ld (Ak Bw l_ Aj) Ii)) (Ah (An ld)))))),?_⟩;walk_at "D";obtain⟨n,rfl,h4,qe,q⟩:=h;walk_at "";refine AO (λhc=>?_) (λhc=>?_)
 . walk_at "";exact qe hc
 . have hn:n.natAbs<2^220:=ii (show n.natAbs<=4000 by omega) (by decide);walk_at "";intro l hl;walk_at "";refine⟨l,n,_,rfl,rfl,upd_same,by omega,by omega,(by show 1*n.toNat<=qT;exact gd (small4000 (by omega))),λp hp=>?_⟩;rw[mO];have np:=(Same.new hl).free hp;have s1:Same H (upd (upd H l (.lst [.int 0])) p (.lst ((aw n.toNat (0:Int)).map V.int))):=(Same.new hl).put np;have e1:upd (upd H l (.lst [.int 0])) p (.lst ((aw n.toNat (0:Int)).map V.int)) p=some (.lst ((aw n.toNat (0:Int)).map V.int)):=upd_same;generalize upd (upd H l (.lst [.int 0])) p (.lst ((aw n.toNat (0:Int)).map V.int))=H1 at s1 e1 ⊢;have hlr:(aw n.toNat (0:Int)).length=n.toNat:=bz;walk_at "";refine⟨n,false,rfl,hn,?_⟩;walk_at "";refine⟨n,false,rfl,hn,?_⟩;walk_at "";refine q (by omega) p _ np ((s1.put np).put np) ?_;unfold Cq A6;rw[show (0:Int)+n-1=n-1 by omega];exact upd_same
abbrev rR(K:γ)(a:qH)(cs:List Int)(k l:Int)(v:Bool)(H:Hp)(Q:VK):Prop:=∀(p:qH) (H':Hp),H p=none->Same H H'->H' p=some (.lst ((A6 cs k l v).map V.int))->Q (.ref p) H'
def Yg(K:γ):Sp:=λvs H Q _=>∃(a:qH) (cs:List Int) (k l:Int) (v:Bool),vs=[.ref a,.int k,.int l,.bl v]/\SqL K H a (cs.map V.int)/\cs.length<=4000/\0<=k/\1<=l/\k+l<=cs.length/\rR K a cs k l v H Q
include T Bm in
theorem Ke(S:Src K mg "laid" On):tE P w K mg base "laid" 2 ["cells","at","long","live"] (Yg K):=by
 refine S.okx XW F5 λf cdv A outer s H vs Q E hr h=>⟨_,PSs.nox (Ac (i_ 4 XW (Fa Ij (by rfl) T.n_list cg (Aa l_ Ab))) (Ac (Cs (k_ Bm hr (Aa mt (Aa m_ Ab))) (Ia n_ ld Ii)) (Ac (Cs (k_ Bm hr (Aa mt (Aa m_ Ab))) (Ia n_ (Ak Bw (Ak AN ld mt) Aj) Ii)) (Ah (An n_))))),?_⟩;walk_at "D";obtain⟨a,cs,k,l,v,rfl,hS,hz,h0,h1,hl,q⟩:=h;have hn:l.natAbs<2^220:=ii (show l.natAbs<=4000 by omega) (by decide);walk_at "";intro p hp;walk_at "";refine⟨l,v,rfl,hn,?_⟩;walk_at "";refine⟨l,v,rfl,hn,?_⟩;walk_at "";refine q p _ hp (((Same.new hp).put hp).put hp) upd_same
abbrev rS(K:γ)(a:qH)(cs:List Int)(b e:Int)(H:Hp)(Q:VK):Prop:=∀(p:qH) (H':Hp),H p=none->Same H H'->H' p=some (.lst ((lfI cs b e).map V.int))->Q (.ref p) H'
def Yh(K:γ):Sp:=λvs H Q _=>∃(a:qH) (cs:List Int) (b e:Int),vs=[.ref a,.int b,.int e]/\SqL K H a (cs.map V.int)/\cs.length<=4000/\0<=b/\b<=e/\e<=cs.length/\rS K a cs b e H Q
variable (AK:tE P w K mg base "laid" 2 ["cells","at","long","live"] (Yg K))
include T AK in
theorem Kf(S:Src K mg "laid_free" Oo):tE P w K mg base "laid_free" 3 ["cells","begin","end"] (Yh K):=by
 refine S.okx F6 F7 λf cdv A outer s H vs Q E hr h=>⟨_,PSs.nox (Ac (Az (Ax AZ ld mt) (Ah (An (Fa Ij (by rfl) T.n_list cg (Aa l_ Ab)))) AA) (Ah (An (k_ AK hr (Aa l_ (Aa ld (Aa (Ak Bw mt ld) (Aa Dx Ab)))))))),?_⟩;walk_at "D";obtain⟨a,cs,b,e,rfl,hS,hz,h0,h1,hl,q⟩:=h;walk_at "";refine AO (λhe=>?_) (λhe=>?_)
 . walk_at "";intro p hp;walk_at "";refine q p _ hp (Same.new hp) ?_;unfold lfI;rw[if_pos he];exact upd_same
 . walk_at "";refine⟨a,cs,b,e-b,false,rfl,hS,hz,h0,by omega,by omega,λp H' hp s1 g1=>?_⟩;walk_at "";refine q p H' hp s1 ?_;unfold lfI;rw[if_neg he];exact g1
abbrev rT(K:γ)(b:qH)(us:List V)(ps:List Pc)(H:Hp)(Q:VK):Prop:=∀(p:qH) (ws:List V) (H':Hp),H p=none->Same H H'->H' p=some (.lst ws)->AJ H' ws (A0 ps)->Q (.ref p) H'
def Yi(K:γ):Sp:=λvs H Q _=>∃(b:qH) (us:List V) (ps:List Pc),vs=[.ref b]/\H b=some (.lst us)/\AJ H us ps/\ps.length<=4000/\rT K b us ps H Q
def JpW(f0:Option V)(p:qH)(ps:List Pc)(H:Hp)(i:Nat)(σ:L2.St)(H':Hp):Prop :=
 ∃(ws:List V) (x2 x3 x4:Option V),σ=[f0,some (.ref p),x2,x3,x4]/\Same H H'/\H' p=some (.lst ws)/\AJ H' ws (A0 (ps.take i))
include T in
theorem Kg(S:Src K mg "joined_pieces" OA):tE P w K mg base "joined_pieces" 1 ["pieces"] (Yi K):=by
 refine S.okx JJ Gj λf cdv A outer s H vs Q E hr h=>⟨_,PSs.nox (Ac (i_ 1 JJ (Bk Ab)) (Ac (DH ce rfl (BU l_) (Ca rfl (AE (j_ 2 JJ) (AE (j_ 3 JJ) (AE (j_ 4 JJ) BN)))) (Ah (Az (PW.pt (Cr (CF ld (λ_=>rfl)) (Cr (CD (CF n_ (λ_=>rfl))) (DB (CD (CF (AM DJ (AM Bf ld (FH FI Aj) (λ_ _=>rfl)) Aj (λ_ _=>rfl)) (λ_=>rfl))))))) (Ah (Cs (Bs (Aa (AM DJ (AM Bf ld (FH FI Aj) (λ_ _=>rfl)) Aj (λ_ _=>rfl)) (Aa (Ak AN (AM DJ (AM Bf ld (FH FI Aj) (λ_ _=>rfl)) Aj (λ_ _=>rfl)) m_) (Aa Dx Ab)))) (Ia ld (FH FI Aj) Ii))) (Ah (BQ (FL cn cj ck Fb ld (Aa (Bs (Aa mt (Aa m_ (Aa n_ Ab)))) Ab))))))) (Ah (An ld)))),?_⟩;walk_at "D";obtain⟨b,us,ps,rfl,hb,pa,hz,q⟩:=h;have hul:=pa.1;walk_at "";intro p hp;walk_at "";refine⟨b,rfl,⟨_,SqL.of (Same.new hp b _ hb)⟩,DI (K:=K) (a:=b) (xs:=us) (JpW (some (.ref b)) p ps H) ⟨[],none,none,none,rfl,Same.new hp,upd_same,AJ.nil⟩ (λi σ H2 _ ⟨_,_,_,_,_,s2,_⟩=>SqL.of (s2 b _ hb)) ?_ ?_⟩
 . rintro i y σ H2 hi ⟨ws,x2,x3,x4,rfl,s2,hp2,pw⟩;have hil:i<us.length:=(δ.mp hi).1;have hip:i<ps.length:=by omega
   have hz1:ps[i]?=some ps[i]:=by simp [hip]
   obtain⟨t,et,hT⟩:=pa.2 i ps[i] hz1;have ey:y = .ref t:=ae (hi.symm.trans et);subst ey;have hT2:=s2 t _ hT;have hj:=Wu hz1;have hle:=Wx ps i (by omega);generalize ps[i]=z at hT2 hj;have hwl:=pw.1;rcases Dz (A0 (ps.take i)) with e | ⟨D,w,e⟩
   . rw[e] at pw hj hwl;have ew:ws=[]:=br.mp hwl;subst ew;walk_at "";refine iteT ?_;walk_at "";intro t2 ht2;walk_at "";obtain⟨g1,g2⟩:=AJ.push (z:=z) pw hp2 ht2;exact⟨_,_,_,_,rfl,(s2.put (s2.free ht2)).put hp,g1,by rw[hj];exact g2⟩
   . rw[e] at pw hj hle;obtain⟨ui,t1,rfl,pi,h1⟩:=pw.unsnoc;have hem:(ui++[V.ref t1]).isEmpty=false:=by simp
     rw[π,aj] at hle;have hpl:=pi.1;have hsz:(ui++[V.ref t1]).length<4000:=by rw[π,aj];omega
     walk_at "";rw[hem];walk_at "";refine BX (λhv=>?_) (λhv=>?_)
     . walk_at "";intro t2 ht2;walk_at "";obtain⟨g1,g2⟩:=AJ.push (z:=z) pw hp2 ht2;exact⟨_,_,_,_,rfl,(s2.put (s2.free ht2)).put hp,g1,by rw[hj,FP hv];exact g2⟩
     . walk_at "";refine Jt (SqL.of hp2) ?_;walk_at "";refine BX (λhv2=>?_) (λhv2=>?_)
       . walk_at "";intro t2 ht2;walk_at "";obtain⟨g1,g2⟩:=AJ.push (z:=z) pw hp2 ht2;exact⟨_,_,_,_,rfl,(s2.put (s2.free ht2)).put hp,g1,by rw[hj,Ee hv2];exact g2⟩
       . walk_at "";refine Jt (SqL.of hp2) ?_;walk_at "";refine Jt (SqL.of hp2) ?_;walk_at "";intro t2 ht2;walk_at "";refine bD (xs:=ui) (v:=.ref t1) (look_put ht2 hp2) ?_;walk_at "";have g:=AJ.relast (z:=⟨w.a,w.l+z.l,false⟩) pi hp2 ht2;exact⟨_,_,_,_,rfl,(s2.put (s2.free ht2)).put hp,upd_same,by rw[hj,Ef hv2 hv];exact g⟩
 . rintro σ H2 ⟨ws,x2,x3,x4,rfl,s2,hp2,pw⟩;walk_at "";rw[af (by omega)] at pw;exact q p ws H2 hp s2 hp2 pw
def Yj(K:γ):Sp:=λvs H Q _=>∃(a:qH) (cs:List Int) (ps:List Pc),vs=[.ref a]/\SqL K H a (cs.map V.int)/\cs.length<=4000/\Ai 0 ps cs.length/\BP cs 0=(ps,none) /\
 ∀(p:qH) (H':Hp),H p=none->Same H H'->H' p=some (.lst ((Cu cs (A0 ps)).map V.int))->Q (.ref p) H'
def JdW(f0:Option V)(lp:qH)(us:List V)(js:List Pc)(cs:List Int)(H:Hp)(i:Nat)(σ:L2.St)(H':Hp):Prop :=
 ∃(r:qH) (x2 x3 x4:Option V),σ=[f0,some (.ref r),x2,x3,x4]/\H r=none/\Same H H'/\H' r=some (.lst ((Cu cs (js.take i)).map V.int))/\H' lp=some (.lst us)/\AJ H' us js
variable (Ay:tE P w K mg base "looked" 4 ["cells"] (Ye K))
variable (CP:tE P w K mg base "joined_pieces" 1 ["pieces"] (Yi K))
include T AK Ay CP in
theorem Kh(S:Src K mg "joined" OB):tE P w K mg base "joined" 5 ["cells"] (Yj K):=by
 refine S.okx IG Gk λf cdv A outer s H vs Q E hr h=>⟨_,PSs.nox (Ac (i_ 1 IG (Fa Ij (by rfl) T.n_list cg (Aa l_ Ab))) (Ac (DH ce rfl (BU (k_ CP hr (Aa (k_ Ay hr (Aa l_ Ab)) Ab))) (Ca rfl (AE (j_ 2 IG) (AE (j_ 3 IG) (AE (j_ 4 IG) BN)))) (Ah (i_ 1 IG (k_ AK hr (Aa ld (Aa mt (Aa m_ (Aa n_ Ab)))))))) (Ah (An ld)))),?_⟩;walk_at "D";obtain⟨a,cs,ps,rfl,hS,hz,hc,hw,q⟩:=h;walk_at "";intro r0 hr0;have s0:Same H (upd H r0 (.lst (cs.map V.int))):=Same.new hr0;have e0:upd H r0 (.lst (cs.map V.int)) r0=some (.lst (cs.map V.int)):=upd_same;generalize upd H r0 (.lst (cs.map V.int))=H0 at s0 e0 ⊢;walk_at "";refine⟨a,cs,rfl,s0.seq hS,hz,by rw[hw],λlp us H1 nlp s1 hlp pa=>?_⟩;have pa:AJ H1 us ps:=by rw[hw] at pa;exact pa
 have hps:(ps.length:Int)<=cs.length:=by have:=hc.le;omega
 walk_at "";refine⟨lp,us,ps,rfl,hlp,pa,by omega,λjp js H2 njp s2 hjp pj=>?_⟩;have jc:=Ju hc;generalize A0 ps=qs at pj jc q;have hjl:=pj.1;have s02:=(s0.trans s1).trans s2;refine⟨jp,rfl,⟨_,SqL.of hjp⟩,DI (K:=K) (a:=jp) (xs:=js) (JdW (some (.ref a)) jp js qs cs H) ⟨r0,none,none,none,rfl,hr0,s02,s2 _ _ (s1 _ _ e0),hjp,pj⟩ (λi σ H2 _ ⟨_,_,_,_,_,_,_,_,h,_⟩=>SqL.of h) ?_ ?_⟩
 . rintro i y σ H3 hi ⟨r,x2,x3,x4,rfl,nr,s3,hr3,hj3,pj3⟩;have hil:i<js.length:=(δ.mp hi).1;have hip:i<qs.length:=by omega
   have hz1:qs[i]?=some qs[i]:=by simp [hip]
   obtain⟨t,et,hT⟩:=pj3.2 i qs[i] hz1;have ey:y = .ref t:=ae (hi.symm.trans et);subst ey;have hj:=bV (cs:=cs) hz1;obtain⟨z0,z1,_,z4⟩:=jc.mem qs[i] (by simp);generalize qs[i]=z at hT hj z0 z1 z4;have hll:=Jv (qs.take i) cs;walk_at "";refine⟨r,Cu cs (qs.take i),z.a,z.l,z.v,rfl,SqL.of hr3,by omega,z0,z1,by omega,λp H4 np s4 hp4=>?_⟩;walk_at "";exact⟨p,_,_,_,rfl,s3.free np,s3.trans s4,by rw[hj];exact hp4,s4 _ _ hj3,pj3.same s4⟩
 . rintro σ H3 ⟨r,x2,x3,x4,rfl,nr,s3,hr3,hj3,pj3⟩;walk_at "";rw[af (by omega)] at hr3;exact q r H3 nr s3 hr3
abbrev rV(K:γ)(a:qH)(cs:List Int)(ps:List Pc)(z:Pc)(H:Hp)(Q:VK):Prop:=∀(t:qH) (H':Hp),Same H H'->H' t=some (.tup [.int z.a,.int z.l,.bl z.v])->Q (.ref t) H'
def Yk(K:γ):Sp:=λvs H Q _=>∃(a:qH) (cs:List Int) (ps:List Pc) (z:Pc),vs=[.ref a,.int z.a]/\SqL K H a (cs.map V.int)/\cs.length<=4000/\BP cs 0=(ps,none)/\Ai 0 ps cs.length/\z∈ps/\rV K a cs ps z H Q
def PaW(f0 f1:Option V)(H1:Hp)(ps:List Pc)(k:Int)(i:Nat)(σ:L2.St)(H':Hp):Prop:=H1=H'/\∃x2:Option V,σ=[f0,f1,x2]/\∀z∈ps.take i,z.a≠k
include T Ay in
theorem Ki(S:Src K mg "piece_at" Op):tE P w K mg base "piece_at" 5 ["cells","at"] (Yk K):=by
 refine S.okx XX F8 λf cdv A outer s H vs Q E hr h=>⟨_,PSs.nox (Ac (DH ce rfl (BU (k_ Ay hr (Aa l_ Ab))) (j_ 2 XX) (Ah (Az (Ax AZ (AM DJ mt Aj (λ_ _=>rfl)) ld) (Ah (An mt)) AA))) (Ah HZ)),?_⟩;walk_at "D";obtain⟨a,cs,ps,z0,rfl,hS,hz,hw,hc,hm,q⟩:=h;generalize ek:z0.a=k at q ⊢;walk_at "";refine⟨a,cs,rfl,hS,hz,by rw[hw],λlp us H1 nlp s1 hlp pa=>?_⟩;have pa:AJ H1 us ps:=by rw[hw] at pa;exact pa
 have hul:=pa.1;refine⟨lp,rfl,⟨_,SqL.of hlp⟩,DI (K:=K) (a:=lp) (xs:=us) (PaW (some (.ref a)) (some (.int k)) H1 ps k) ⟨rfl,none,rfl,λz hz=>by cases hz⟩ (λi σ H2 _ ⟨h,_⟩=>h▸SqL.of hlp) ?_ ?_⟩
 . rintro i y σ H2 hi ⟨rfl,x2,rfl,hq⟩;have hil:i<us.length:=(δ.mp hi).1;have hip:i<ps.length:=by omega
   obtain⟨t,et,hT⟩:=pa.2 i ps[i] (by simp [hip]);have ey:y = .ref t:=ae (hi.symm.trans et);subst ey;walk_at "";refine AO (λhk=>?_) (λhk=>?_)
   . walk_at "";have ez:=Ed hc (az hip) hm (by omega);rw[ez] at hT;exact q t _ s1 hT
   . walk_at "";refine⟨rfl,_,rfl,λz hz=>?_⟩;rw[ap,ah hip] at hz;rcases ρ.mp hz with h | h
     . exact hq z h
     . have:z=ps[i]:=by simpa using h
       rw[this];exact hk
 . rintro σ H2 ⟨rfl,x2,rfl,hq⟩;rw[af (by omega)] at hq;exact absurd ek (hq z0 hm)
abbrev rW(K:γ)(v:Bool)(a:qH)(cs:List Int)(ps:List Pc)(z:Pc)(H:Hp)(Q:VK):Prop:=∀(t:qH) (H':Hp),Same H H'->H' t=some (.tup [.int z.a,.int z.l,.bl z.v])->Q (.ref t) H'
def Pt(K:γ)(v:Bool):Sp:=λvs H Q _=>∃(a:qH) (cs:List Int) (ps:List Pc) (z:Pc),vs=[.ref a,.int z.a]/\SqL K H a (cs.map V.int)/\cs.length<=4000/\AH cs ps/\Ai 0 ps cs.length/\z∈ps/\z.v=v/\rW K v a cs ps z H Q
variable (BE:tE P w K mg base "piece_at" 5 ["cells","at"] (Yk K))
include T BE in
theorem Kj(S:Src K mg "live_at" Oq):tE P w K mg base "live_at" 6 ["cells","at"] (Pt K true):=by
 refine S.okx XY F9 λf cdv A outer s H vs Q E hr h=>⟨_,PSs.nox (Ac (i_ 2 XY (k_ BE hr (Aa l_ (Aa ld Ab)))) (Ac (Az (CD (CF (AM DJ mt Aj (λ_ _=>rfl)) (λ_=>rfl))) (Ah HZ) AA) (Ah (An mt)))),?_⟩;walk_at "D";obtain⟨a,cs,ps,z,rfl,hS,hz,mk,hc,hm,hv,q⟩:=h;walk_at "";refine⟨a,cs,ps,z,rfl,hS,hz,DK hc mk,hc,hm,λt H1 s1 ht=>?_⟩;walk_at "";rw[hv] at ht ⊢;refine BX (λhv=>?_) (λhv=>by cases hv);walk_at "";exact q t _ s1 (by rw[‹z.v=true›];exact ht)
include T BE in
theorem Kk(S:Src K mg "free_at" Os):tE P w K mg base "free_at" 6 ["cells","at"] (Pt K false):=by
 refine S.okx XZ Ga λf cdv A outer s H vs Q E hr h=>⟨_,PSs.nox (Ac (i_ 2 XZ (k_ BE hr (Aa l_ (Aa ld Ab)))) (Ac (Az (CF (AM DJ mt Aj (λ_ _=>rfl)) (λ_=>rfl)) (Ah HZ) AA) (Ah (An mt)))),?_⟩;walk_at "D";obtain⟨a,cs,ps,z,rfl,hS,hz,mk,hc,hm,hv,q⟩:=h;walk_at "";refine⟨a,cs,ps,z,rfl,hS,hz,DK hc mk,hc,hm,λt H1 s1 ht=>?_⟩;walk_at "";rw[hv] at ht ⊢;refine BX (λhv=>by cases hv) (λhv=>?_);walk_at "";exact q t _ s1 (by rw[‹z.v=false›];exact ht)
abbrev rX(K:γ)(a:qH)(cs:List Int)(ps:List Pc)(z:Pc)(s L:Int)(H:Hp)(Q:VK):Prop:=∀(p:qH) (H':Hp),H p=none->Same H H'->H' p=some (.lst ((uD cs z.a z.l s L).map V.int))->Q (.ref p) H'
def uW(K:γ):Sp:=λvs H Q _=>∃(a:qH) (cs:List Int) (ps:List Pc) (z:Pc) (s L:Int),vs=[.ref a,.int z.a,.int s,.int L]/\SqL K H a (cs.map V.int)/\cs.length<=4000/\Ai 0 ps cs.length/\AH cs ps/\1<=L/\z∈ps/\z.v=false/\z.a<=s/\s+L<=z.a+z.l/\rX K a cs ps z s L H Q
variable (CQ:tE P w K mg base "free_at" 6 ["cells","at"] (Pt K false))
variable (A7:tE P w K mg base "laid_free" 3 ["cells","begin","end"] (Yh K))
include T AK CQ A7 in
theorem Kl(S:Src K mg "cut_out" Ox):tE P w K mg base "cut_out" 7 ["cells","at","place","long"] (uW K):=by
 refine S.okx Gg Gh λf cdv A outer s H vs Q E hr h=>⟨_,PSs.nox (Ac (Cs (k_ CQ hr (Aa l_ (Aa ld Ab))) (Ca rfl (AE (j_ 4 Gg) (AE (j_ 5 Gg) (AE (j_ 6 Gg) BN))))) (Ac (i_ 7 Gg (Ak AN n_ o_)) (Ac (Az (PW.pt (CB (Ax Cb mt n_) (DC (Ax E8 (Ak AN mt m_) p_)))) (Ah HZ) AA) (Ac (i_ 8 Gg (k_ A7 hr (Aa l_ (Aa n_ (Aa mt Ab))))) (Ac (i_ 8 Gg (k_ AK hr (Aa (pv 8) (Aa mt (Aa m_ (Aa Dx Ab)))))) (Ah (An (k_ A7 hr (Aa (pv 8) (Aa (Ak AN mt m_) (Aa p_ Ab))))))))))),?_⟩;walk_at "D";obtain⟨a,cs,ps,z,s,L,rfl,hS,hz,hc,mk,hL,hm,hv,g1,g2,q⟩:=h;obtain⟨z0,z1,_,z4⟩:=hc.mem z hm;walk_at "";refine⟨a,cs,ps,z,rfl,hS,hz,mk,hc,hm,hv,λt H1 s1 ht=>?_⟩;walk_at "";refine⟨a,cs,z.a,s,rfl,s1.seq hS,hz,z0,by omega,by omega,λp2 H2 n2 s2 g2=>?_⟩;walk_at "";refine⟨p2,lfI cs z.a s,s,L,true,rfl,SqL.of g2,by rw[CJ];exact hz,by omega,hL,by rw[CJ];omega,λp3 H3 n3 s3 g3=>?_⟩;walk_at "";refine⟨p3,A6 (lfI cs z.a s) s L true,s+L,z.a+z.l,rfl,SqL.of g3,by rw[Cp,CJ];exact hz,by omega,by omega,by rw[Cp,CJ];omega,λp4 H4 n4 s4 g4=>?_⟩;walk_at "";have s13:=(s1.trans s2).trans s3;exact q p4 H4 (s13.free n4) (s13.trans s4) g4
def Yl(K:γ):Sp:=λvs H Q _=>∃(a:qH) (cs:List Int) (ps:List Pc) (i:Nat) (z:Pc),vs=[.ref a,.int z.a]/\SqL K H a (cs.map V.int)/\Ai 0 ps cs.length/\AH cs ps/\ps[i]?=some z/\Q (.int (tJ ps i z)) H
def Ym(K:γ):Sp:=λvs H Q _=>∃(a:qH) (cs:List Int) (ps:List Pc) (i:Nat) (z:Pc),vs=[.ref a,.int (z.a+z.l)]/\SqL K H a (cs.map V.int)/\Ai 0 ps cs.length/\AH cs ps/\ps[i]?=some z/\Q (.int (tG ps i z)) H
include T AB AT in
theorem Km(S:Src K mg "free_begin" Ou):tE P w K mg base "free_begin" 2 ["cells","at"] (Yl K):=by
 refine S.okx Gc Gd λf cdv A outer s H vs Q E hr h=>⟨_,PSs.nox (Ac (Az (PW.pt (CB (Ax AZ ld Aj) (DC (D9 (k_ AT hr (Aa (AM Bf l_ (Ak Bw ld Aj) (λ_ _=>rfl)) Ab)))))) (Ah (An ld)) AA) (Ah (An (Ak Bw ld (k_ AB hr (Aa (AM Bf l_ (Ak Bw ld Aj) (λ_ _=>rfl)) Ab)))))),?_⟩;walk_at "D";obtain⟨a,cs,ps,i,z,rfl,hS,hc,mk,hi,q⟩:=h;obtain⟨z0,z1,_,z4⟩:=hc.mem z (Δ hi);cases i with
 | zero =>
   have e:=bK hc hi;walk_at "";exact q
 | succ j =>
   have hp:=Qq hc hi;have hj:j<ps.length:=by have:=(δ.mp hi).1;omega
   have hy:ps[j]?=some ps[j]:=by simp [hj]
   have hm:=bM hc mk hy hi;have hn:=Fg hc hy hi;generalize ps[j]=y at hy hm hn;have hm':cs.getD (z.a-1).toNat 0=tQ y.l y.v:=hm;walk_at "";rw[hm',Jo];refine BX (λhv=>?_) (λhv=>?_)
   . walk_at "";rw[NJ hy hv] at q;exact q
   . walk_at "";rw[hm',Ik,show z.a-y.l=y.a by omega];rw[NK hy hv] at q;exact q
include T AB AT in
theorem Kn(S:Src K mg "free_end" Ov):tE P w K mg base "free_end" 2 ["cells","end"] (Ym K):=by
 refine S.okx Ge Gf λf cdv A outer s H vs Q E hr h=>⟨_,PSs.nox (Ac (Az (PW.pt (CB (Ax AZ ld (A9 DX (by rfl) T.n_len dw (Aa l_ Ab))) (DC (D9 (k_ AT hr (Aa (AM Bf l_ ld (λ_ _=>rfl)) Ab)))))) (Ah (An ld)) AA) (Ah (An (Ak AN ld (k_ AB hr (Aa (AM Bf l_ ld (λ_ _=>rfl)) Ab)))))),?_⟩;walk_at "D";obtain⟨a,cs,ps,i,z,rfl,hS,hc,mk,hi,q⟩:=h;obtain⟨z0,z1,_,z4⟩:=hc.mem z (Δ hi);by_cases hl:ps.length=i+1
 . have e:=bJ hc hi hl;walk_at "";rw[Qr (fz (by omega))] at q;exact q
 . have hj:i+1<ps.length:=by have:=(δ.mp hi).1;omega
   have hy:ps[i+1]?=some ps[i+1]:=by simp [hj]
   have hm:=bO hc mk hi hy;have hn:=Fg hc hi hy;generalize ps[i+1]=y at hy hm hn;obtain⟨y0,y1,_,y4⟩:=hc.mem y (Δ hy);have hm':cs.getD (z.a+z.l).toNat 0=tQ y.l y.v:=hm;walk_at "";rw[hm',Jo];refine BX (λhv=>?_) (λhv=>?_)
   . walk_at "";rw[NL hy hv] at q;exact q
   . walk_at "";rw[hm',Ik,<-hn];rw[NM hy hv] at q;exact q
abbrev rY(K:γ)(a:qH)(cs:List Int)(ps:List Pc)(i:Nat)(z:Pc)(H:Hp)(Q:VK):Prop:=∀(p:qH) (H':Hp),H p=none->Same H H'->H' p=some (.lst ((lfI cs (tJ ps i z) (tG ps i z)).map V.int))->Q (.ref p) H'
def Yn(K:γ):Sp:=λvs H Q _=>∃(a:qH) (cs:List Int) (ps:List Pc) (i:Nat) (z:Pc),vs=[.ref a,.int z.a]/\SqL K H a (cs.map V.int)/\cs.length<=4000/\Ai 0 ps cs.length/\AH cs ps/\ps[i]?=some z/\z.v=true/\rY K a cs ps i z H Q
variable (Bg:tE P w K mg base "live_at" 6 ["cells","at"] (Pt K true))
variable (CT:tE P w K mg base "free_begin" 2 ["cells","at"] (Yl K))
variable (BF:tE P w K mg base "free_end" 2 ["cells","end"] (Ym K))
include T A7 Bg CT BF in
theorem Ko(S:Src K mg "freed" Oy):tE P w K mg base "freed" 7 ["cells","at"] (Yn K):=by
 refine S.okx Oz Gi λf cdv A outer s H vs Q E hr h=>⟨_,PSs.nox (Ac (Cs (k_ Bg hr (Aa l_ (Aa ld Ab))) (Ca rfl (AE (j_ 2 Oz) (AE (j_ 3 Oz) (AE (j_ 4 Oz) BN))))) (Ah (An (k_ A7 hr (Aa l_ (Aa (k_ CT hr (Aa l_ (Aa mt Ab))) (Aa (k_ BF hr (Aa l_ (Aa (Ak AN mt m_) Ab))) Ab))))))),?_⟩;walk_at "D";obtain⟨a,cs,ps,i,z,rfl,hS,hz,hc,mk,hi,hv,q⟩:=h;have hm:=Δ hi;walk_at "";refine⟨a,cs,ps,z,rfl,hS,hz,mk,hc,hm,hv,λt H1 s1 ht=>?_⟩;have b1:=bP hc hi;have b2:=Wt hc hi;have hS1:=s1.seq hS;obtain⟨z0,z1,_,z4⟩:=hc.mem z hm;walk_at "";refine⟨a,cs,ps,i,z,rfl,hS1,hc,mk,hi,?_⟩;walk_at "";refine⟨a,cs,ps,i,z,rfl,hS1,hc,mk,hi,?_⟩;walk_at "";refine⟨a,cs,_,_,rfl,hS1,hz,b1.1,by omega,by omega,λp H2 n2 s2 g2=>?_⟩;walk_at "";exact q p H2 (s1.free n2) (s1.trans s2) g2
def D7(L b:Int)(z:Pc):Option (List V):=if z.v=true then none else (fp z.a z.l L b).map λp=>[V.int z.a,V.int p]
def Fo(ps:List Pc)(L b:Int):List (List V):=ps.filterMap (D7 L b)
theorem mP{L b:Int}{i:Nat}{z:Pc}(h:ps[i]?=some z):Fo (ps.take (i+1)) L b=Fo (ps.take i) L b++(D7 L b z).toList:=by
 unfold Fo;rw[ap,h,ln];cases e:D7 L b z <;> simp [e]
theorem mQ(ps:List Pc)(L b:Int):(Fo ps L b).length<=ps.length:=di _ _
def Yo:Sp:=λvs H Q _=>∃(t:qH) (a n L b:Int) (v:Bool),vs=[.ref t,.int L,.int b]/\H t=some (.tup [.int a,.int n,.bl v])/\1<=b/\Q (vi (fp a n L b)) H
abbrev rZ(K:γ)(a:qH)(cs:List Int)(ps:List Pc)(L b:Int)(H:Hp)(Q:VK):Prop:=∀(p:qH) (us:List V) (H':Hp),H p=none->Same H H'->H' p=some (.lst us)->AY H' us (Fo ps L b)->Q (.ref p) H'
def Yp(K:γ):Sp:=λvs H Q _=>∃(a:qH) (cs:List Int) (ps:List Pc) (L b:Int),vs=[.ref a,.int L,.int b]/\SqL K H a (cs.map V.int)/\cs.length<=4000/\BP cs 0=(ps,none)/\1<=b/\rZ K a cs ps L b H Q
include T in
theorem Kq(S:Src K mg "first_place" OI):tE P w K mg base "first_place" 1 ["piece","long","bound"] (Yo):=by
 refine S.okx JM Gu λf cdv A outer s H vs Q E hr h=>⟨_,PSs.nox (Ac (Cs l_ (Ca rfl (AE (j_ 3 JM) (AE (j_ 4 JM) (AE (j_ 5 JM) BN))))) (Ac (i_ 6 JM (Ak AN m_ (Ak BB (FH FI (Ak AN m_ Aj)) mt))) (Ac (Az (Ax E8 (Ak AN q_ ld) (Ak AN m_ n_)) (Ah (An Br)) AA) (Ah (An q_))))),?_⟩;walk_at "D";obtain⟨t,a,n,L,b,v,rfl,ht,hb,q⟩:=h;have e:a + -(a+1)%b=fpl a b:=by unfold fpl;rw[bQ hb]
 walk_at "";rw[e];refine AO (λhc=>?_) (λhc=>?_)
 . walk_at "";unfold fp at q;rw[if_neg (by omega)] at q;exact q
 . walk_at "";unfold fp at q;rw[if_pos (by omega)] at q;exact q
def SfW(f0 f1 f2:Option V)(sp lp:qH)(us:List V)(ps:List Pc)(L b:Int)(H:Hp)(i:Nat)(σ:L2.St)(H':Hp):Prop :=
 ∃(ws:List V) (x4 x5:Option V),σ=[f0,f1,f2,some (.ref sp),x4,x5]/\Same H H'/\H' lp=some (.lst us)/\AJ H' us ps/\H' sp=some (.lst ws)/\AY H' ws (Fo (ps.take i) L b)
variable (CU:tE P w K mg base "first_place" 1 ["piece","long","bound"] (Yo))
include T Ay CU in
theorem Kr(S:Src K mg "spots_for" OJ):tE P w K mg base "spots_for" 5 ["cells","long","bound"] (Yp K):=by
 refine S.okx OK Gv λf cdv A outer s H vs Q E hr h=>⟨_,PSs.nox (Ac (i_ 3 OK (Bk Ab)) (Ac (DH ce rfl (BU (k_ Ay hr (Aa l_ Ab))) (j_ 4 OK) (Ac (i_ 5 OK (k_ CU hr (Aa n_ (Aa ld (Aa mt Ab))))) (Ah (Az (PW.pt (Cr (CD (CF (AM DJ n_ Aj (λ_ _=>rfl)) (λ_=>rfl))) (DB (Ax VU o_ Br)))) (Ah (BQ (FL cn cj ck Fb m_ (Aa (Bs (Aa (AM DJ n_ Aj (λ_ _=>rfl)) (Aa o_ Ab))) Ab)))) AA)))) (Ah (An m_)))),?_⟩;walk_at "D";obtain⟨a,cs,ps,L,b,rfl,hS,hz,hw,hb,q⟩:=h;walk_at "";intro sp hsp;walk_at "";refine⟨a,cs,rfl,(Same.new hsp).seq hS,hz,by rw[hw],λlp us H1 nlp s1 hlp pa=>?_⟩;have pa:AJ H1 us ps:=by rw[hw] at pa;exact pa
 have hps:(ps.length:Int)<=cs.length:=by
   have:=Wi cs cs.length 0 (by omega) (by omega);rw[hw] at this;exact this
 have hul:=pa.1;have hsp1:=s1 sp _ upd_same;have hne:lp≠sp:=λz=>by rw[z,upd_same] at nlp;cases nlp
 have s01:Same H H1:=(Same.new hsp).trans s1;refine⟨lp,rfl,⟨_,SqL.of hlp⟩,DI (K:=K) (a:=lp) (xs:=us) (SfW (some (.ref a)) (some (.int L)) (some (.int b)) sp lp us ps L b H) ⟨[],none,none,rfl,s01,hlp,pa,hsp1,AY.nil⟩ (λi σ H2 _ ⟨_,_,_,_,_,h,_⟩=>SqL.of h) ?_ ?_⟩
 . rintro i y σ H2 hi ⟨ws,x4,x5,rfl,s2,hlp2,pa2,hsp2,ta⟩;have hil:i<us.length:=(δ.mp hi).1;have hip:i<ps.length:=by omega
   obtain⟨t,et,hT⟩:=pa2.2 i ps[i] (by simp [hip]);have ey:y = .ref t:=ae (hi.symm.trans et);subst ey;have ht:=mP (L:=L) (b:=b) (show ps[i]?=some ps[i] by simp [hip]);have hwl:ws.length<=4000:=by
     have h1:=ta.1;have h2:=mQ (ps.take i) L b;rw[ag] at h2;omega
   generalize ps[i]=z at hT ht;walk_at "";refine⟨t,z.a,z.l,L,b,z.v,rfl,hT,hb,?_⟩;cases ef:fp z.a z.l L b with
   | none =>
     walk_at "";have e:D7 L b z=none:=by
       unfold D7
       split
       . rfl
       . rw[ef];rfl
     rw[e,mz,bg] at ht;refine BX (λhv=>?_) (λhv=>?_)
     . walk_at "";exact⟨ws,_,_,rfl,s2,hlp2,pa2,hsp2,by rw[ht];exact ta⟩
     . walk_at "";exact⟨ws,_,_,rfl,s2,hlp2,pa2,hsp2,by rw[ht];exact ta⟩
   | some p =>
     walk_at "";refine BX (λhv=>?_) (λhv=>?_)
     . walk_at "";have e:D7 L b z=none:=by unfold D7;rw[if_pos hv]
       rw[e,mz,bg] at ht;exact⟨ws,_,_,rfl,s2,hlp2,pa2,hsp2,by rw[ht];exact ta⟩
     . walk_at "";intro t2 ht2;have hst:sp≠t2:=Cz hsp2 ht2;have hlt:lp≠t2:=Cz hlp2 ht2;walk_at "";have e:D7 L b z=some [V.int z.a,V.int p]:=by unfold D7;rw[hv,if_neg η,ef];rfl
       rw[e] at ht;exact⟨ws++[.ref t2],_,_,rfl,(s2.put (s2.free ht2)).put hsp,look_ne hne (look_ne hlt hlp2),(pa2.mono (DL (.inl ht2))).mono (DL (.inr ⟨ws,look_ne hst hsp2⟩)),upd_same,by rw[ht];exact ta.push hsp2 ht2⟩
 . rintro σ H2 ⟨ws,x4,x5,rfl,s2,hlp2,pa2,hsp2,ta⟩;walk_at "";rw[af (by omega)] at ta;exact q sp ws H2 hsp s2 hsp2 ta
/-! the spots by numbers -/
def Fp(L b:Int)(z:Pc):Option (Int×Int):=if z.v=true then none else (fp z.a z.l L b).map λp=>(z.a,p)
def Bl(ps:List Pc)(L b:Int):List (Int×Int):=ps.filterMap (Fp L b)
theorem Pu(ps:List Pc)(L b:Int):Fo ps L b=(Bl ps L b).map λq=>[V.int q.1,V.int q.2]:=by
 unfold Fo Bl;rw[List.map_filterMap]
 congr 1
 funext z
 unfold D7 Fp
 split
 . rfl
 . cases fp z.a z.l L b <;> rfl
theorem mR:∀{ps:List Pc} {s e L b:Int},Ai s ps e->∀q∈Bl ps L b,s<=q.1
 | [],s,e,L,b,_,q,hq=>by simp [Bl] at hq
 | z::r,s,e,L,b,c,q,hq=>by
   obtain⟨h0,h1,h2,h3⟩:=c
   unfold Bl at hq
   rw[ia] at hq
   have tO:∀q∈r.filterMap (Fp L b),s<=q.1:=λq hq=>by
     have:=mR h3 q hq
     omega
   split at hq
   . exact tO q hq
   . rename_i q0 e0
     rcases χ.mp hq with g | g
     . subst g
       unfold Fp at e0
       split at e0
       . cases e0
       . obtain⟨p,_,e1⟩:=ai.mp e0
         rw[<-e1]
         show s<=z.a
         omega
     . exact tO q g
def Yq:Sp:=λvs H Q _=>∃(p:qH) (us:List V) (xs:List (List Int)),vs=[.ref p]/\H p=some (.lst us)/\AY H us (xs.map λx=>x.map V.int)/\(∀x∈xs,x.length=3) /\
 (xs=[]->Q .non H)/\(0<xs.length->Q (.int ((xs.getD (Ba xs (xs.length-1)) []).getD 2 0)) H)
include T in
theorem Ks(S:Src K mg "least_place" OL):tE P w K mg base "least_place" 1 ["ranked"] (Yq):=by
 refine S.okx Gw Gx λf cdv A outer s H vs Q E hr h=>⟨_,PSs.nox (Ac (Az (CD (CF l_ (λ_=>rfl))) (Ah (An Br)) AA) (Ah (An (AM DJ (A9 (cS rfl hr.units) (by rfl) T.n_min ix (Aa l_ Ab)) Aj (λ_ _=>rfl))))),?_⟩;walk_at "D";obtain⟨p,us,xs,rfl,hp,ta,h3,q0,q⟩:=h;have hl:=ta.1;rw[ε] at hl;cases hx:us with
 | nil =>
   rw[hx] at hp hl;walk_at "";refine iteT ?_;walk_at "";exact q0 (br.mp hl.symm)
 | cons u r =>
   have hpos:0<xs.length:=by rw[<-hl,hx,au];omega
   have hm:Ba xs (xs.length-1)<xs.length:=by have:=Iy xs (xs.length-1);omega
   rw[hx] at hp ta;walk_at "";refine iteF ?_;walk_at "";refine⟨p,_,xs,rfl,hp,ta,hpos,λt _ ht=>?_⟩;have q1:=q hpos;have hm3:(xs.getD (Ba xs (xs.length-1)) []).length=3:=by
     have:xs.getD (Ba xs (xs.length-1)) []=xs[Ba xs (xs.length-1)]:=by simp [hm]
     rw[this];exact h3 _ (az hm)
   generalize xs.getD (Ba xs (xs.length-1)) []=m at ht q1 hm3
   match m,hm3 with
   | [m0,m1,m2],_ =>
     walk_at "";exact q1
abbrev r_(K:γ)(a:qH)(cs:List Int)(s g c:Int)(H:Hp)(Q:VK):Prop:=∀(p:qH) (H':Hp),H p=none->Same H H'->H' p=some (.lst ((tK cs s.toNat g.toNat c.toNat).map V.int))->Q (.ref p) H'
def Yr(K:γ):Sp:=λvs H Q _=>∃(a:qH) (cs:List Int) (s g c:Int),vs=[.ref a,.int s,.int g,.int c]/\SqL K H a (cs.map V.int)/\cs.length<=1200/\0<=s/\0<=g/\0<=c/\s+c<=cs.length/\g+c<=cs.length/\r_ K a cs s g c H Q
include T in
theorem Kt(S:Src K mg "carried" OC):tE P w K mg base "carried" 1 ["cells","source","goal","count"] (Yr K):=by
 refine S.okx X1 Gm λf cdv A outer s H vs Q E hr h=>⟨_,PSs.nox (Ac (i_ 4 X1 (Fa Ij (by rfl) T.n_list cg (Aa l_ Ab))) (Ah (An (Ak Fc (Ak Fc (Jn Nu n_ P6 (FK mt)) (Jn Nu n_ (FK ld) (FK (Ak AN ld m_)))) (Jn Nu n_ (FK (Ak AN mt m_)) P6))))),?_⟩;walk_at "D";obtain⟨a,cs,s,g,c,rfl,hS,hz,h0,h1,h2,h3,h4,q⟩:=h;have n1:=Qf cs none (some g);have n2:=Qf cs (some s) (some (s+c));have n3:=Qf cs (some (g+c)) none;walk_at "";intro p0 m0;have s0:Same H (upd H p0 (.lst (cs.map V.int))):=Same.new m0;have e0:upd H p0 (.lst (cs.map V.int)) p0=some (.lst (cs.map V.int)):=upd_same;generalize upd H p0 (.lst (cs.map V.int))=H0 at s0 e0 ⊢;have hS0:SqL K H0 p0 (cs.map V.int):=SqL.of e0;clear hS;walk_at "";intro p1 H1 m1 s1 hh1;have hS1:=s1.seq hS0;walk_at "";intro p2 H2 m2 s2 hh2;have h1':=s2 p1 _ hh1;have hS2:=s2.seq hS1;walk_at "";intro p3 H3 m3 s3 hh3;have hS3:=s3.seq hS2;walk_at "";intro p4 H4 m4 s4 hh4;have h3':=s4 p3 _ hh3;have n4:(tW cs none (some g)++tW cs (some s) (some (s+c))).length+(tW cs (some (g+c)) none).length<=4000:=by rw[π];omega
 walk_at "";intro p5 H5 m5 s5 h5;walk_at "";have s14:=(((s0.trans s1).trans s2).trans s3).trans s4;refine q p5 H5 (s14.free m5) (s14.trans s5) ?_;rw[h5,eN h1 (by omega),eU h0 h2 h3,eO (by omega) h4];unfold tK;rw[show (g+c).toNat=g.toNat+c.toNat by omega]
def Ys(CA:qH):Sp:=λvs H Q E=>∃c b:Int,vs=[.int c,.int b]/\(c<1\/b<1->E (.ref CA) none H)/\(1<=c->1<=b->Q .non H)
include T in
theorem Ku(S:Src K mg "check_ask" Oe):tE P w K mg base "check_ask" 1 ["count","bound"] (Ys Ar):=by
 refine S.okx FQ FR λf cdv A outer s H vs Q E hr h=>⟨_,(Ah (Az (PW.pt (CB (Ax Cb l_ Aj) (DC (Ax Cb ld Aj)))) (Ah (Fd T.X8 rfl (Aa At Ab))) AA)),?_⟩;obtain⟨c,b,rfl,qe,q⟩:=h;walk_at "";refine AO (λh1=>?_) (λh1=>?_)
 . walk_at "";exact qe (.inl h1)
 . walk_at "";refine AO (λh2=>?_) (λh2=>?_)
   . walk_at "";exact qe (.inr h2)
   . walk_at "";exact q (by omega) (by omega)
def BgW(H1:Hp)(ps:List Pc)(s:Int)(D:qH)(i:Nat)(ys:List V)(H2:Hp):Prop:=Same H1 H2/\H2 D=some (.lst ys)/\ys=(((ps.take i).filter λz=>decide (z.a<=s)).map λz=>V.int z.a)
def Yt(K:γ):Sp:=λvs H Q _=>∃(a:qH) (cs:List Int) (ps:List Pc) (i:Nat) (z:Pc) (s:Int),vs=[.ref a,.int s]/\SqL K H a (cs.map V.int)/\cs.length<=4000/\Ai 0 ps cs.length/\AH cs ps/\ps[i]?=some z/\z.a<=s/\s<z.a+z.l/\∀(H':Hp),Same H H'->Q (.int z.a) H'
theorem mS{s:Int}{i:Nat}{z:Pc}(hc:Ai 0 ps n)(hi:ps[i]?=some z)(h1:z.a<=s)(h2:s<z.a+z.l):∃D,(ps.filter λz=>decide (z.a<=s))=D++[z]:=by
 obtain⟨ds,rs,e1,e2,k1,k2⟩:=Cc hc hi;subst e1;refine⟨ds.filter λz=>decide (z.a<=s),?_⟩;have e:(rs.filter λz=>decide (z.a<=s))=[]:=List.filter_eq_nil_iff.mpr λp hp=>by
   have:=k2.fromOn p hp;rw[decide_eq_false (by omega)];exact η
 rw[jo,fu,if_pos (decide_eq_true h1),e]
include T Ay in
theorem Kv(S:Src K mg "begin_around" Ot):tE P w K mg base "begin_around" 5 ["cells","cell"] (Yt K):=by
 refine S.okx X0 Gb λf cdv A outer s H vs Q E hr h=>⟨_,PSs.nox (Ac (WO (i:=2) ["at","long","live"] ["cell"] [1] X0.nd rfl (υ rfl) rfl (BU (k_ Ay hr (Aa l_ Ab))) (λcl C s₀ H₀ ex=>(Iw (K:=K) (n:=3) rfl rfl (AE (AD (i:=0) (show ((["at","long","live"]:List Str)++(["cell"]:List Str)).Nodup by decide +kernel) rfl (υ rfl)) (AE (AD (i:=1) (show ((["at","long","live"]:List Str)++(["cell"]:List Str)).Nodup by decide +kernel) rfl (υ rfl)) (AE (AD (i:=2) (show ((["at","long","live"]:List Str)++(["cell"]:List Str)).Nodup by decide +kernel) rfl (υ rfl)) BN))))) (λcl C s₀ H₀ ex=>(NC (Ax No l_ m_))) (λcl C s₀ H₀ ex=>l_) (NU rfl rfl rfl) (NV (n:="cell") (by decide +kernel) rfl) (λy h=>Fh (by decide +kernel) h)) (Ah (An (AM Bf mt (FH FI Aj) (λ_ _=>rfl))))),?_⟩;walk_at "D";obtain⟨a,cs,ps,i,z,s,rfl,hS,hz,hc,mk,hi,h1,h2,q⟩:=h;have hw:=DK hc mk;have hple:=hc.le;walk_at "";refine⟨a,cs,rfl,hS,hz,by rw[hw],λlp us H1 nlp s1 hlp pa=>?_⟩;have pa:AJ H1 us ps:=by rw[hw] at pa;exact pa
 have hul:=pa.1;walk_at "";refine⟨lp,rfl,⟨_,SqL.of hlp⟩,Ei (K:=K) (a:=lp) (xs:=us) (fs:=[some (.int s)]) (BgW H1 ps s) (λD hD=>⟨Same.new hD,upd_same,rfl⟩) (λD i ys H2 _ h=>SqL.of (h.1 lp _ hlp)) ?_ ?_⟩
 . rintro D i y ys H2 hD hi ⟨s2,hD2,hy⟩ τ hτ;have hil:i<us.length:=(δ.mp hi).1;obtain⟨t,w,rfl,hw1,hT⟩:=Iz (pa.same s2) hi;have hfl:=take_succ_filter (λp:Pc=>decide (p.a<=s)) ps i w hw1;have hyl:ys.length<=i:=by
     rw[hy,ε];refine bp (gv _ _) ?_;rw[ag];omega
   obtain⟨τ0,τ1,τ2,rfl⟩:=a_ hτ
   walk_at "";refine⟨⟨[_,_,_],rfl,rfl⟩,?_⟩;walk_at "";refine AO (λhle=>?_) (λhle=>?_)
   . rw[if_pos (decide_eq_true hle)] at hfl;walk_at "";refine⟨hD2,small4000 (by omega),Cv hil ⟨s2.put hD,upd_same,?_⟩⟩;rw[hfl,ψ,<-hy];rfl
   . rw[if_neg (by rw[decide_eq_false hle];exact η),bg] at hfl;exact Cv hil ⟨s2,hD2,by rw[hfl];exact hy⟩
 . rintro D ys H2 hD ⟨s2,hD2,hy⟩;rw[af (by omega)] at hy;obtain⟨D0,e0⟩:=mS hc hi h1 h2;rw[e0,ψ] at hy;subst hy;walk_at "";refine Jt (SqL.of hD2) ?_;walk_at "";exact q H2 (s1.trans s2)
/-! ### tV classes: what is made,begun,cleared,looked at -/
structure StS(C:W4->qH)(i:W4)(x dx a:qH)(r:Int)(cs:List Int)(ps:List Pc)(H:Hp):Prop where
 hx:H x=some (.ins (C i) dx (fsF i a r))
 ha:H a=some (.lst (cs.map V.int))
 hz:cs.length<=1200
 hc:Ai 0 ps cs.length
 mm:AH cs ps
 nj:AI ps
theorem StS.same{C:W4->qH}{i:W4}{x dx a:qH}{r:Int}{H H':Hp}(h:StS C i x dx a r cs ps H)(s:Same H H'):StS C i x dx a r cs ps H':=⟨s x _ h.hx,s a _ h.ha,h.hz,h.hc,h.mm,h.nj⟩
theorem vL{i:W4}{a:qH}{r:Int}(r':Int)(h:i≠W4.next):fsF i a r=fsF i a r':=by
 cases i
 . rfl
 . rfl
 . exact absurd rfl h
 . rfl
abbrev sd(C CS:qH)(x dx:qH)(n:Int)(H:Hp)(Q:VK)(E:XK):Prop:=(n<1->E (.ref CS) none H) /\ (1<=n->∀(a:qH) (H':Hp),H a=none->AF x H H'->H' x=some (.ins C dx [("room_cells",.ref a)])->H' a=some (.lst ((Cq n).map V.int))->Q .non H')
def ug(C CS:qH):Sp:=λvs H Q E=>∃(x dx:qH) (n:Int),vs=[.ref x,.int n]/\H x=some (.ins C dx [])/\n<=4000/\sd C CS x dx n H Q E
variable (AU:tE P w K mg base "fresh_room" 2 ["count"] (Yf Aq))
include T AU in
theorem mT(F:Fun K "__init__" "Keeper.__init__" GT f₀ fd₀)(M:Mk K Ae f₀):tL P w K mg base "First" Ae 3 ["self","size"] [] (ug Ae Aq):=by
 refine⟨⟨f₀,fd₀,[],A5 F OY (λcdv A outer s H vs Q E hr h=>?_),M,F.binds OZ,.nil⟩,T.iF⟩;refine⟨_,(Ah (B8 l_ (Fe AU hr (by rfl) (Aa ld Ab)) rfl)),?_⟩;walk_at "D";obtain⟨x,dx,n,rfl,hx,h4,qe,q⟩:=h;have cl:=T.Po;have na:=T.QX;walk_at "";refine⟨n,rfl,h4,λz=>qe z,λh1 p H1 np s1 hp=>?_⟩;have hx1:=s1 x _ hx;have hne:p≠x:=λz=>by rw[z,hx] at np;cases np
 walk_at "";exact q h1 p _ np (AF.of s1).put upd_same (look_ne hne hp)
include T AU in
theorem vO(F:Fun K "__init__" "Keeper.__init__" GT f₀ fd₀)(M:Mk K Af f₀):tL P w K mg base "Best" Af 3 ["self","size"] [] (ug Af Aq):=by
 refine⟨⟨f₀,fd₀,[],A5 F OY (λcdv A outer s H vs Q E hr h=>?_),M,F.binds OZ,.nil⟩,T.c_Best⟩;refine⟨_,(Ah (B8 l_ (Fe AU hr (by rfl) (Aa ld Ab)) rfl)),?_⟩;walk_at "D";obtain⟨x,dx,n,rfl,hx,h4,qe,q⟩:=h;have cl:=T.Pp;have na:=T.QY;walk_at "";refine⟨n,rfl,h4,λz=>qe z,λh1 p H1 np s1 hp=>?_⟩;have hx1:=s1 x _ hx;have hne:p≠x:=λz=>by rw[z,hx] at np;cases np
 walk_at "";exact q h1 p _ np (AF.of s1).put upd_same (look_ne hne hp)
include T AU in
theorem mU(F:Fun K "__init__" "Keeper.__init__" GT f₀ fd₀)(M:Mk K Ag f₀):tL P w K mg base "Likes" Ag 3 ["self","size"] [] (ug Ag Aq):=by
 refine⟨⟨f₀,fd₀,[],A5 F OY (λcdv A outer s H vs Q E hr h=>?_),M,F.binds OZ,.nil⟩,T.iG⟩;refine⟨_,(Ah (B8 l_ (Fe AU hr (by rfl) (Aa ld Ab)) rfl)),?_⟩;walk_at "D";obtain⟨x,dx,n,rfl,hx,h4,qe,q⟩:=h;have cl:=T.Pr;have na:=T.QZ;walk_at "";refine⟨n,rfl,h4,λz=>qe z,λh1 p H1 np s1 hp=>?_⟩;have hx1:=s1 x _ hx;have hne:p≠x:=λz=>by rw[z,hx] at np;cases np
 walk_at "";exact q h1 p _ np (AF.of s1).put upd_same (look_ne hne hp)
include T AU in
theorem Kw(F:Fun K "__init__" "Keeper.__init__" GT f₀ fd₀)(M:ClsM K Y1 "__init__" f₀):uA P w K mg base "Stretches" "__init__" 3 ["self","size"] (ug Ad Aq):=by
 refine⟨⟨Y1,f₀,fd₀,A5 F OY (λcdv A outer s H vs Q E hr h=>?_),M,F.binds OZ,T.iE⟩⟩;refine⟨_,(Ah (B8 l_ (Fe AU hr (by rfl) (Aa ld Ab)) rfl)),?_⟩;walk_at "D";obtain⟨x,dx,n,rfl,hx,h4,qe,q⟩:=h;have cl:=T.Ht;have na:=T.IK;walk_at "";refine⟨n,rfl,h4,λz=>qe z,λh1 p H1 np s1 hp=>?_⟩;have hx1:=s1 x _ hx;have hne:p≠x:=λz=>by rw[z,hx] at np;cases np
 walk_at "";exact q h1 p _ np (AF.of s1).put upd_same (look_ne hne hp)
abbrev se(C CS:qH)(x dx:qH)(n:Int)(H:Hp)(Q:VK)(E:XK):Prop:=(n<1->E (.ref CS) none H) /\ (1<=n->∀(a:qH) (H':Hp),H a=none->AF x H H'->H' x=some (.ins C dx [("room_cells",.ref a),("room_rover",.int 0)])->H' a=some (.lst ((Cq n).map V.int))->Q .non H')
def uR(C CS:qH):Sp:=λvs H Q E=>∃(x dx:qH) (n:Int),vs=[.ref x,.int n]/\H x=some (.ins C dx [])/\n<=4000/\se C CS x dx n H Q E
variable (CV:uA P w K mg base "Stretches" "__init__" 3 ["self","size"] (ug Ad Aq))
include T CV in
theorem vN(F:Fun K "__init__" "Next.__init__" O0 f₀ fd₀)(M:Mk K Ad f₀):tL P w K mg base "Next" Ad 4 ["self","size"] [] (uR Ad Aq):=by
 refine⟨⟨f₀,fd₀,[],A5 F gL (λcdv A outer s H vs Q E hr h=>?_),M,F.binds gM,.nil⟩,T.c_Next⟩;refine⟨_,(Ac (BQ (bA CV Bx hr (by rfl) (Aa l_ (Aa ld Ab)))) (Ah (B8 l_ Aj rfl))),?_⟩;walk_at "D";obtain⟨x,dx,n,rfl,hx,h4,qe,q⟩:=h;have cl:=T.Ht;have na:=T.IK;have nr:=T.Pq;walk_at "";refine⟨x,dx,n,rfl,hx,h4,λz=>qe z,λh1 a H1 na1 k1 hx1 ha1=>?_⟩;have hne:a≠x:=λz=>by rw[z,hx1] at ha1;cases ha1
 walk_at "";exact q h1 a _ na1 (k1.trans AF.refl.put) upd_same (look_ne hne ha1)
def Pw(K:γ)(C:W4->qH)(i:W4):Sp:=λvs H Q _=>∃(r:Int) (x h dx a:qH) (cs:List Int) (ps:List Pc),vs=[.ref x,.ref h]/\H x=some (.ins (C i) dx (fsF i a r))/\SqL K H h (cs.map V.int)/\cs.length<=4000/\Ai 0 ps cs.length/\BP cs 0=(ps,none) /\
 ∀(a':qH) (H':Hp),H a'=none->AF x H H'->H' x=some (.ins (C i) dx (fsF i a' 0))->H' a'=some (.lst ((Cu cs (A0 ps)).map V.int))->Q .non H'
variable (BG:tE P w K mg base "joined" 5 ["cells"] (Yj K))
include T BG in
theorem Kx(F:Fun K "room_begin" "Stretches.room_begin" El f₀ fd₀)(M:∀i,(λi=>i≠W4.next) i->tF K ((cF Ae Af Ad Ag) i) "room_begin" f₀):DE P w K mg base (λi=>i≠W4.next) (cF Ae Af Ad Ag) "room_begin" 6 ["self","cells"] [] (Pw K (cF Ae Af Ad Ag)):=by
 refine DE.made (A5 F JO (λcdv A outer s H vs Q E hr h=>?_)) M (F.binds JP) (tH T);refine⟨_,PSs.nox (Ah (B8 l_ (k_ BG hr (Aa ld Ab)) rfl)),?_⟩;walk_at "D";obtain⟨i,hi,r,x,h,dx,a,cs,ps,rfl,hx,hS,hz,hc,hw,q⟩:=h;have hi:i≠W4.next:=hi;have cl:=tH T i;have na:=ub T i;walk_at "";refine⟨h,cs,ps,rfl,hS,hz,hc,hw,λp H1 np s1 hp=>?_⟩;have hx1:=s1 x _ hx;have hne:p≠x:=λz=>by rw[z,hx] at np;cases np
 walk_at "";exact q p _ np (AF.of s1).put (by rw[upd_same,JE,vL 0 hi]) (look_ne hne hp)
include T BG in
theorem Ky(F:Fun K "room_begin" "Next.room_begin" Em f₀ fd₀)(M:∀i,(λi=>i=W4.next) i->tF K ((cF Ae Af Ad Ag) i) "room_begin" f₀):DE P w K mg base (λi=>i=W4.next) (cF Ae Af Ad Ag) "room_begin" 6 ["self","cells"] [] (Pw K (cF Ae Af Ad Ag)):=by
 refine DE.made (A5 F JQ (λcdv A outer s H vs Q E hr h=>?_)) M (F.binds JR) (tH T);refine⟨_,PSs.nox (Ac (B8 l_ (k_ BG hr (Aa ld Ab)) rfl) (Ah (B8 l_ Aj rfl))),?_⟩;walk_at "D";obtain⟨i,hi,r,x,h,dx,a,cs,ps,rfl,hx,hS,hz,hc,hw,q⟩:=h;have hi:i=W4.next:=hi;subst hi;have hx:H x=some (.ins Ad dx [("room_cells",.ref a),("room_rover",.int r)]):=hx;have cl:=T.Ht;have na:=T.IK;have nr:=T.Pq;walk_at "";refine⟨h,cs,ps,rfl,hS,hz,hc,hw,λp H1 np s1 hp=>?_⟩;have hx1:=s1 x _ hx;have hne:p≠x:=λz=>by rw[z,hx] at np;cases np
 walk_at "";generalize hH:upd H1 x _=H2;have hx2:H2 x=some (.ins Ad dx [("room_cells",.ref p),("room_rover",.int r)]):=by rw[<-hH];exact upd_same
 have hp2:H2 p=some (.lst ((Cu cs (A0 ps)).map V.int)):=by rw[<-hH];exact look_ne hne hp
 have k2:AF x H H2:=by rw[<-hH];exact(AF.of s1).put
 walk_at "";exact q p _ np k2.put upd_same (look_ne hne hp2)
theorem mV(h:1<=n):Ai 0 [⟨0,n,false⟩] ((Cq n).length:Int)/\AH (Cq n) [⟨0,n,false⟩]:=by
 have hl:=Ps (show 0<=n by omega);refine⟨⟨rfl,h,(λh=>by cases h),?_⟩,λp hp=>?_⟩
 . show (0:Int)+n=_;rw[hl];omega
 . rw[be.mp hp];unfold Cq at hl ⊢;rw[Cp] at hl;exact⟨Qm (ba 0) h (by omega),Qn (ba 0) h (by omega)⟩
def Px(C:W4->qH)(i:W4):Sp:=λvs H Q _=>∃(r r':Int) (x dx a:qH),vs=[.ref x,.int r']/\H x=some (.ins (C i) dx (fsF i a r))/\∀H',AF x H H'->H' x=some (.ins (C i) dx (fsF i a r'))->Q .non H'
include T in
theorem Kz(F:Fun K "room_granted" "Stretches.room_granted" En f₀ fd₀)(M:∀i,(λi=>i≠W4.next) i->tF K ((cF Ae Af Ad Ag) i) "room_granted" f₀):DE P w K mg base (λi=>i≠W4.next) (cF Ae Af Ad Ag) "room_granted" 1 ["self","behind"] [] (Px (cF Ae Af Ad Ag)):=by
 refine DE.made (A5 F JS (λcdv A outer s H vs Q E hr h=>?_)) M (F.binds JT) (tH T);refine⟨_,PSs.nox (Ah Zn),?_⟩;obtain⟨i,hi,r,r',x,dx,a,rfl,hx,q⟩:=h;have hi:i≠W4.next:=hi;walk_at "";exact q _ AF.refl (by rw[<-vL r' hi];exact hx)
include T in
theorem KA(F:Fun K "room_granted" "Next.room_granted" Eo f₀ fd₀)(M:∀i,(λi=>i=W4.next) i->tF K ((cF Ae Af Ad Ag) i) "room_granted" f₀):DE P w K mg base (λi=>i=W4.next) (cF Ae Af Ad Ag) "room_granted" 1 ["self","behind"] [] (Px (cF Ae Af Ad Ag)):=by
 refine DE.made (A5 F JU (λcdv A outer s H vs Q E hr h=>?_)) M (F.binds JV) (tH T);refine⟨_,PSs.nox (Ah (B8 l_ ld rfl)),?_⟩;obtain⟨i,hi,r,r',x,dx,a,rfl,hx,q⟩:=h;have hi:i=W4.next:=hi;subst hi;have hx:H x=some (.ins Ad dx [("room_cells",.ref a),("room_rover",.int r)]):=hx;have cl:=T.Ht;have na:=T.IK;have nr:=T.Pq;walk_at "";exact q _ AF.refl.put upd_same
abbrev sh(C:W4->qH)(k:W4)(r:Int)(x dx a:qH)(cs:List Int)(H:Hp)(Q:VK):Prop:=∀(p:qH) (H':Hp),H p=none->Same H H'->H' p=some (.lst (cs.map V.int))->Q (.ref p) H'
def Yu(C:W4->qH)(k:W4):Sp:=λvs H Q _=>∃(r:Int) (x dx a:qH) (cs:List Int),vs=[.ref x]/\H x=some (.ins (C k) dx (fsF k a r))/\H a=some (.lst (cs.map V.int))/\sh C k r x dx a cs H Q
include T in
theorem KB(F:Fun K "cells" "Keeper.cells" O2 f₀ fd₀)(M:∀i,tF K ((cF Ae Af Ad Ag) i) "cells" f₀):AS P w K mg base (cF Ae Af Ad Ag) "cells" 1 ["self"] [] (Yu (cF Ae Af Ad Ag)):=by
 refine AS.made (A5 F GU (λcdv A outer s H vs Q E hr h=>?_)) M (F.binds GV) (tH T);refine⟨_,PSs.nox (Ah (An (Fa Ij (by rfl) T.n_list cg (Aa (AX l_ rfl) Ab)))),?_⟩;obtain⟨k,r,x,dx,a,cs,rfl,hx,ha,q⟩:=h;have cl:=tH T k;have na:=ub T k;walk_at "";intro p np;walk_at "";exact q p _ np (Same.new np) upd_same
abbrev si(K:γ)(C:W4->qH)(i:W4)(r:Int)(x h dx a:qH)(cs0 cs:List Int)(ps:List Pc)(H:Hp)(Q:VK):Prop:=∀(a':qH) (H':Hp),H a'=none->AF x H H'->StS C i x dx a' 0 (Cu cs (A0 ps)) (A0 ps) H'->Q .non H'
def uS(K:γ)(C:W4->qH)(i:W4):Sp:=λvs H Q _=>∃(r:Int) (x h dx a:qH) (cs0 cs:List Int) (ps:List Pc),vs=[.ref x,.ref h]/\H x=some (.ins (C i) dx (fsF i a r))/\H a=some (.lst (cs0.map V.int))/\cs.length=cs0.length/\SqL K H h (cs.map V.int)/\cs.length<=1200/\Ai 0 ps cs.length/\AH cs ps/\si K C i r x h dx a cs0 cs ps H Q
variable (D_room_begin:AS P w K mg base (cF Ae Af Ad Ag) "room_begin" 6 ["self","cells"] [] (Pw K (cF Ae Af Ad Ag)))
include T Ay D_room_begin in
theorem d_lay(F:Fun K "lay" "Keeper.lay" O3 f₀ fd₀)(M:∀i,tF K ((cF Ae Af Ad Ag) i) "lay" f₀):AS P w K mg base (cF Ae Af Ad Ag) "lay" 7 ["self","cells"] [] (uS K (cF Ae Af Ad Ag)):=by
 refine AS.made (A5 F GW (λcdv A outer s H vs Q E hr h=>?_)) M (F.binds GX) (tH T);refine⟨_,PSs.nox (Ac (Az (Ax Ib (A9 DX (by rfl) T.n_len dw (Aa ld Ab)) (A9 DX (by rfl) T.n_len dw (Aa (AX l_ rfl) Ab))) (Ah HZ) AA) (Ac (BQ (k_ Ay hr (Aa ld Ab))) (Ah (BQ (Cd D_room_begin BD hr l_ (Aa ld Ab)))))),?_⟩;walk_at "D";obtain⟨i,r,x,h,dx,a,cs0,cs,ps,rfl,hx,ha,hl,hS,hz,hc,mk,q⟩:=h;have cl:=tH T i;have na:=ub T i;have hw:=DK hc mk;walk_at "";refine⟨h,cs,rfl,hS,by omega,by rw[hw],λlp us H1 nlp s1 hlp pa=>?_⟩;have hx1:=s1 x _ hx;walk_at "";refine⟨r,x,h,dx,a,cs,ps,rfl,hx1,s1.seq hS,by omega,hc,hw,λa' H2 na2 k2 hx2 ha2=>?_⟩;walk_at "";exact q a' H2 (s1.free na2) ((AF.of s1).trans k2) ⟨hx2,ha2,by rw[Jv];exact hz,by rw[Jv];exact Ju hc,Ww (ds:=[]) rfl (Ju hc) (AH.nil _),Wz ps⟩
abbrev sj(C:W4->qH)(i:W4)(r:Int)(x dx a:qH)(cs:List Int)(ps:List Pc)(H:Hp)(Q:VK):Prop:=∀(p:qH) (us:List V) (H':Hp),H p=none->Same H H'->H' p=some (.lst us)->AJ H' us ps->Q (.ref p) H'
def Yv(C:W4->qH)(i:W4):Sp:=λvs H Q _=>∃(r:Int) (x dx a:qH) (cs:List Int) (ps:List Pc),vs=[.ref x]/\StS C i x dx a r cs ps H/\sj C i r x dx a cs ps H Q
include T Ay in
theorem KC(F:Fun K "pieces" "Keeper.pieces" O4 f₀ fd₀)(M:∀i,tF K ((cF Ae Af Ad Ag) i) "pieces" f₀):AS P w K mg base (cF Ae Af Ad Ag) "pieces" 5 ["self"] [] (Yv (cF Ae Af Ad Ag)):=by
 refine AS.made (A5 F GY (λcdv A outer s H vs Q E hr h=>?_)) M (F.binds GZ) (tH T);refine⟨_,PSs.nox (Ah (An (k_ Ay hr (Aa (AX l_ rfl) Ab)))),?_⟩;walk_at "D";obtain⟨i,r,x,dx,a,cs,ps,rfl,⟨hx,ha,hz,hc,mk,nj⟩,q⟩:=h;have cl:=tH T i;have na:=ub T i;have hw:=DK hc mk;walk_at "";refine⟨a,cs,rfl,SqL.of ha,by omega,by rw[hw],λlp us H1 nlp s1 hlp pa=>?_⟩;walk_at "";exact q lp us H1 nlp s1 hlp (by rw[hw] at pa;exact pa)
def Yw(C:W4->qH)(k:W4):Sp:=λvs H Q _=>∃(r:Int) (x dx a:qH) (cs:List Int) (ps:List Pc) (z:Pc),vs=[.ref x,.int (z.a+1)]/\StS C k x dx a r cs ps H/\z∈ps/\z.v=true/\∀(H':Hp),Same H H'->Q (.int (z.l-2)) H'
include T Bg in
theorem KD(F:Fun K "many" "Keeper.many" O5 f₀ fd₀)(M:∀i,tF K ((cF Ae Af Ad Ag) i) "many" f₀):AS P w K mg base (cF Ae Af Ad Ag) "many" 7 ["self","place"] [] (Yw (cF Ae Af Ad Ag)):=by
 refine AS.made (A5 F O6 (λcdv A outer s H vs Q E hr h=>?_)) M (F.binds G0) (tH T);refine⟨_,PSs.nox (Ac (Cs (k_ Bg hr (Aa (AX l_ rfl) (Aa (Ak Bw ld Aj) Ab))) (Ca rfl (AE (j_ 2 O6) (AE (j_ 3 O6) (AE (j_ 4 O6) BN))))) (Ah (An (Ak Bw m_ (BV (v:=.int 2) (by rfl) T.J6 ⟨_,rfl⟩))))),?_⟩;walk_at "D";obtain⟨k,r,x,dx,a,cs,ps,z,rfl,⟨hx,ha,hz,hc,mk,nj⟩,hm,hv,q⟩:=h;have cl:=tH T k;have na:=ub T k;walk_at "";refine⟨a,cs,ps,z,by rw[show z.a+1-1=z.a by omega],SqL.of ha,by omega,mk,hc,hm,hv,λt H1 s1 ht=>?_⟩;walk_at "";exact q H1 s1
abbrev sk(C:W4->qH)(CC:qH)(k:W4)(r:Int)(x dx a:qH)(cs:List Int)(ps:List Pc)(z:Pc)(j:Int)(H:Hp)(Q:VK)(E:XK):Prop:=(j<0\/z.l-2<=j->∀(H':Hp),Same H H'->E (.ref CC) none H')/\(0<=j->j<z.l-2->∀(H':Hp),Same H H'->Q (.int (z.a+1+j)) H')
def Yx(C:W4->qH)(CC:qH)(k:W4):Sp:=λvs H Q E=>∃(r:Int) (x dx a:qH) (cs:List Int) (ps:List Pc) (z:Pc) (j:Int),vs=[.ref x,.int (z.a+1),.int j]/\StS C k x dx a r cs ps H/\z∈ps/\z.v=true/\sk C CC k r x dx a cs ps z j H Q E
variable (Bh:AS P w K mg base (cF Ae Af Ad Ag) "many" 7 ["self","place"] [] (Yw (cF Ae Af Ad Ag)))
include T Bh in
theorem KE(F:Fun K "room_cell_of" "Keeper.room_cell_of" Ep f₀ fd₀)(M:∀i,tF K ((cF Ae Af Ad Ag) i) "room_cell_of" f₀):AS P w K mg base (cF Ae Af Ad Ag) "room_cell_of" 8 ["self","place","k"] [] (Yx (cF Ae Af Ad Ag) Y9):=by
 refine AS.made (A5 F Fl (λcdv A outer s H vs Q E hr h=>?_)) M (F.binds JW) (tH T);refine⟨_,(Ac (i_ 3 Fl (Cd Bh BD hr l_ (Aa ld Ab))) (Ac (Az (PW.pt (CB (Ax Cb mt Aj) (DC (Ax Np mt m_)))) (Ah (Fd T.iM rfl (Aa At Ab))) AA) (Ah (An (Ak AN ld mt))))),?_⟩;walk_at "D";obtain⟨k,r,x,dx,a,cs,ps,z,j,rfl,S,hm,hv,qc,q⟩:=h;have hx:=S.hx;walk_at "";refine⟨r,x,dx,a,cs,ps,z,rfl,S,hm,hv,λH1 s1=>?_⟩;walk_at "";refine AO (λh1=>?_) (λh1=>?_)
 . walk_at "";exact qc (.inl h1) H1 s1
 . walk_at "";refine AO (λh2=>?_) (λh2=>?_)
   . walk_at "";exact qc (.inr (by omega)) H1 s1
   . walk_at "";exact q (by omega) (by omega) H1 s1
theorem mW{z:Pc}{x k:Int}(c:Ai 0 ps n)(m:AH cs ps)(hz:z∈ps)(hv:z.v=true)(k0:0<=k)(k1:k<z.l-2):AH (cs.set (z.a+1+k).toNat x) ps:=λp hp=>by
 obtain⟨z0,z1,z3,z4⟩:=c.mem z hz;obtain⟨p0,p1,p3,p4⟩:=c.mem p hp;obtain⟨m1,m2⟩:=m p hp;have far:p.a≠z.a+1+k/\p.a+p.l-1≠z.a+1+k:=by
   by_cases e:p=z
   . subst e;omega
   . constructor
     . intro h;exact e (N6 c hp hz (ba _) (by omega) (by omega) (by omega))
     . intro h;exact e (N6 c hp hz (p:=p.a+p.l-1) (by omega) (by omega) (by omega) (by omega))
 exact⟨by rw[cr (by omega)];exact m1,by rw[cr (by omega)];exact m2⟩
abbrev sr(C:W4->qH)(CC:qH)(k:W4)(r:Int)(x dx a:qH)(cs:List Int)(ps:List Pc)(z:Pc)(j n:Int)(H:Hp)(Q:VK)(E:XK):Prop:=(j<0\/z.l-2<=j->∀(H':Hp),Same H H'->E (.ref CC) none H') /\ (0<=j->j<z.l-2->∀(H':Hp),AF a H H'->StS C k x dx a r (cs.set (z.a+1+j).toNat n) ps H'->Q .non H')
def uQ(C:W4->qH)(CC:qH)(k:W4):Sp:=λvs H Q E=>∃(r:Int) (x dx a:qH) (cs:List Int) (ps:List Pc) (z:Pc) (j n:Int),vs=[.ref x,.int (z.a+1),.int j,.int n]/\StS C k x dx a r cs ps H/\z∈ps/\z.v=true/\sr C CC k r x dx a cs ps z j n H Q E
variable (BH:AS P w K mg base (cF Ae Af Ad Ag) "room_cell_of" 8 ["self","place","k"] [] (Yx (cF Ae Af Ad Ag) Y9))
include T BH in
theorem d_put(F:Fun K "put" "Keeper.put" O7 f₀ fd₀)(M:∀i,tF K ((cF Ae Af Ad Ag) i) "put" f₀):AS P w K mg base (cF Ae Af Ad Ag) "put" 9 ["self","place","k","number"] [] (uQ (cF Ae Af Ad Ag) Y9):=by
 refine AS.made (A5 F X5 (λcdv A outer s H vs Q E hr h=>?_)) M (F.binds G1) (tH T);refine⟨_,(Ac (i_ 4 X5 (Cd BH Bx hr l_ (Aa ld (Aa mt Ab)))) (Ah (Cs m_ (Ia (AX l_ rfl) n_ Ii)))),?_⟩;walk_at "D";obtain⟨k,r,x,dx,a,cs,ps,z,j,n,rfl,S,hm,hv,qc,q⟩:=h;have hx:=S.hx;have cl:=tH T k;have na:=ub T k;walk_at "";refine⟨r,x,dx,a,cs,ps,z,j,rfl,S,hm,hv,qc,λh0 h1 H1 s1=>?_⟩;obtain⟨z0,z1,z3,z4⟩:=S.hc.mem z hm;have hz2:=S.hz;have hx1:=s1 x _ hx;have ha1:=s1 a _ S.ha;have hxa:x≠a:=λe=>by rw[e,ha1] at hx1;cases hx1
 have ls:(cs.set (z.a+1+j).toNat n).length=cs.length:=eg;walk_at "";exact q h0 h1 _ (AF.of s1).put ⟨look_ne hxa hx1,upd_same,by rw[ls];exact hz2,by rw[ls];exact S.hc,mW S.hc S.mm hm hv h0 h1,S.nj⟩
abbrev su(C:W4->qH)(CC:qH)(k:W4)(r:Int)(x dx a:qH)(cs:List Int)(ps:List Pc)(z:Pc)(j:Int)(H:Hp)(Q:VK)(E:XK):Prop:=(j<0\/z.l-2<=j->∀(H':Hp),Same H H'->E (.ref CC) none H') /\ (0<=j->j<z.l-2->∀(H':Hp),Same H H'->Q (.int (cs.getD (z.a+1+j).toNat 0)) H')
def uU(C:W4->qH)(CC:qH)(k:W4):Sp:=λvs H Q E=>∃(r:Int) (x dx a:qH) (cs:List Int) (ps:List Pc) (z:Pc) (j:Int),vs=[.ref x,.int (z.a+1),.int j]/\StS C k x dx a r cs ps H/\z∈ps/\z.v=true/\su C CC k r x dx a cs ps z j H Q E
include T BH in
theorem d_get(F:Fun K "get" "Keeper.get" O8 f₀ fd₀)(M:∀i,tF K ((cF Ae Af Ad Ag) i) "get" f₀):AS P w K mg base (cF Ae Af Ad Ag) "get" 9 ["self","place","k"] [] (uU (cF Ae Af Ad Ag) Y9):=by
 refine AS.made (A5 F G3 (λcdv A outer s H vs Q E hr h=>?_)) M (F.binds G4) (tH T);refine⟨_,(Ah (An (AM Bf (AX l_ rfl) (Cd BH Bx hr l_ (Aa ld (Aa mt Ab))) (λ_ _=>rfl)))),?_⟩;walk_at "D";obtain⟨k,r,x,dx,a,cs,ps,z,j,rfl,S,hm,hv,qc,q⟩:=h;have hx:=S.hx;have cl:=tH T k;have na:=ub T k;walk_at "";refine⟨r,x,dx,a,cs,ps,z,j,rfl,S,hm,hv,qc,λh0 h1 H1 s1=>?_⟩;obtain⟨z0,z1,z3,z4⟩:=S.hc.mem z hm;have hx1:=s1 x _ hx;have ha1:=s1 a _ S.ha;walk_at "";exact q h0 h1 H1 s1
instance {X:Cx} [Calm X] {scope cl C N s₀ H₀ ex}:Calm (Cx.blockG X scope cl C N s₀ H₀ ex):=⟨Calm.eq (X:=X)⟩
theorem mX{X:Cx}{K:γ}{e:qN}{f:Str}{pos:Pos}{ta:TE}(hK:X.K=K)(he:PE X e ta)(hb:attributeBase e f X.env (rh e X.env)=rh e X.env):PE X (.Attribute e f pos) (tFld K ta f):=hK▸AX he hb
theorem mY{L b:Int}{z:Pc}{q:Int×Int}(hb:1<=b)(h:Fp L b z=some q):z.v=false/\q=(z.a,fpl z.a b)/\z.a<=fpl z.a b/\fpl z.a b+L<=z.a+z.l:=by
 unfold Fp at h
 split at h
 . cases h
 . rename_i hv;unfold fp at h
   split at h
   . rename_i hf;have h:(z.a,fpl z.a b)=q:=by simpa using h
     refine⟨by simpa using hv,h.symm,?_,hf⟩;have:=cu z.a (show 0<b by omega);unfold fpl;omega
   . cases h
/-! bit_length -/
def bl(n:Int):Int:=((Builtin.Int.intBits n:Nat):Int)
section
variable {X:Cx}
def mZ:V->List V->Hp->VK->Prop:=λx xs H Q=>∃i,x = .int i/\xs=[]/\Q (.int (bl i)) H
theorem nA:MtM X "int.bit_length" mZ:=by
 intro pins s σ H x xs v us Q I rx rs h;obtain⟨i,rfl,rfl,q⟩:=h;obtain⟨t,rfl⟩:=rx;cases rs;exact oi ⟨.int (bl i),H,I.tok _,⟨_,rfl⟩,q⟩
end
theorem nB{X:Cx}{K:γ}{T:String}{name:Str}{id:String}{r:V->List V->Hp->VK->Prop}{o:qN}{to:TE}{apos cpos:Pos}(hK:X.K=K)(pa:PlainAttrs T)(slot:Slot T name id)(hty:typeOf (.builtin id)=pure (.type "method_descriptor"))(hm:MtR X id r)(ho:PE X o to)
   (hbase:attributeBase o name X.env (rh o X.env)=rh o X.env:=by rfl) (hline:(apos.endLine==cpos.line)=true:=by rfl):PE X (.Call (.Attribute o name apos) [] [] cpos) (tBM0 K T r to):=hK▸Wb pa slot hty hm ho hbase hline
theorem Py{L b:Int}{q:Int×Int}(h:q∈Bl ps L b):∃z∈ps,z.a=q.1:=by
 obtain⟨z,hz,e⟩:=dk.mp h;refine⟨z,hz,?_⟩;unfold Fp at e
 split at e
 . cases e
 . obtain⟨p,_,e1⟩:=ai.mp e;rw[<-e1]
/-! the ranks of the tV rules,and the place that is chosen -/
def rk4(i:W4)(r:Int)(cs:List Int)(q:Int×Int):List Int:=match i with
 | .first=>[0,q.1,q.2]
 | .best=>[cs.getD q.1.toNat 0/2,q.1,q.2]
 | .next=>[if r<=q.1 then 0 else 1,q.1,q.2]
 | .likes=>[bl (cs.getD q.1.toNat 0/2),q.1,q.2]
def chQ(i:W4)(r:Int)(cs:List Int)(qs:List (Int×Int)):Option Int:=if qs.length=0 then none else some (((qs.map (rk4 i r cs)).getD (Ba (qs.map (rk4 i r cs)) ((qs.map (rk4 i r cs)).length-1)) []).getD 2 0)
theorem Pz{i:W4}{r:Int}{q:Int×Int}:(rk4 i r cs q).length=3:=by cases i <;> rfl
theorem nE{i:W4}{r:Int}{q:Int×Int}:(rk4 i r cs q).getD 2 0=q.2:=by cases i <;> rfl
theorem nF{i:W4}{r:Int}{qs:List (Int×Int)}(h:chQ i r cs qs=none):qs=[]:=by
 unfold chQ at h
 split at h
 . rename_i e;exact br.mp e
 . cases h
theorem vQ{i:W4}{r:Int}{qs:List (Int×Int)}{s:Int}(h:chQ i r cs qs=some s):∃q∈qs,q.2=s:=by
 unfold chQ at h
 split at h
 . cases h
 . rename_i hl;have hm:Ba (qs.map (rk4 i r cs)) ((qs.map (rk4 i r cs)).length-1)<qs.length:=by
     have h1:=Iy (qs.map (rk4 i r cs)) ((qs.map (rk4 i r cs)).length-1);have h2:(qs.map (rk4 i r cs)).length=qs.length:=ε _;omega
   generalize Ba (qs.map (rk4 i r cs)) ((qs.map (rk4 i r cs)).length-1)=m at h hm;have e:(qs.map (rk4 i r cs)).getD m []=rk4 i r cs qs[m]:=by
     rw[bc,Ψ,ah hm];rfl
   rw[e,nE] at h;exact⟨qs[m],az hm,ae h⟩
theorem ch_in{i:W4}{r:Int}{L b s:Int}(hb:1<=b)(h:chQ i r cs (Bl ps L b)=some s):∃(j:Nat) (z:Pc),ps[j]?=some z/\z.v=false/\z.a<=s/\s+L<=z.a+z.l/\(s+1)%b=0:=by
 obtain⟨q,hq,rfl⟩:=vQ h;obtain⟨z,hz,e⟩:=dk.mp hq;obtain⟨j,hj⟩:=aq hz;obtain⟨h1,h2,h3,h4⟩:=mY hb e;rw[h2];exact⟨j,z,hj,h1,h3,h4,bE hb⟩
def Hv(C:W4->qH)(i:W4):Sp:=λvs H Q _=>∃(r:Int) (x dx a:qH) (cs:List Int) (ps:List Pc) (L b:Int),vs=[.ref x,.int L,.int b]/\StS C i x dx a r cs ps H/\1<=b/\∀(H':Hp),Same H H'->Q (vi (chQ i r cs (Bl ps L b))) H'
def ChW(H1:Hp)(k:W4)(r:Int)(cs:List Int)(qs:List (Int×Int))(D:qH)(i:Nat)(ys:List V)(H2:Hp):Prop:=Same H1 H2/\H2 D=some (.lst ys)/\AY H2 ys (((qs.take i).map (rk4 k r cs)).map λx=>x.map V.int)
variable (AV:tE P w K mg base "spots_for" 5 ["cells","long","bound"] (Yp K))
variable (AW:tE P w K mg base "least_place" 1 ["ranked"] (Yq))
include T AV AW in
theorem KF(F:Fun K "chosen" "First.chosen" O9 f₀ fd₀)(M:tF K Ae "chosen" f₀):Methx P w K mg base Ae "chosen" 6 ["self","long","bound"] [] (Hv (cF Ae Af Ad Ag) W4.first):=by
 refine⟨⟨f₀,fd₀,[],A5 F X6 (λcdv A outer s H vs Q E hr h=>?_),M,F.binds G5,.nil⟩,T.Po⟩;refine⟨_,PSs.nox (Ac (i_ 3 X6 (k_ AV hr (Aa (AX l_ rfl) (Aa ld (Aa mt Ab))))) (Ah (An (k_ AW hr (Aa (QA ["at","place"] rfl (BU m_) (λcl C s₀ H₀ ex=>(Iw (K:=K) (n:=2) rfl rfl (AE (AD (i:=0) (show ((["at","place"]:List Str)++([]:List Str)).Nodup by decide +kernel) rfl (υ rfl)) (AE (AD (i:=1) (show ((["at","place"]:List Str)++([]:List Str)).Nodup by decide +kernel) rfl (υ rfl)) BN)))) (λcl C s₀ H₀ ex=>Im) (λcl C s₀ H₀ ex=>(Bs (Aa Aj (Aa l_ (Aa ld Ab))))) ) Ab))))),?_⟩;walk_at "D";obtain⟨r,x,dx,a,cs,ps,L,b,rfl,⟨hx,ha,hz,hc,mk,nj⟩,hb,q⟩:=h;have hx:H x=some (.ins Ae dx [("room_cells",.ref a)]):=hx;have cl:=T.Po;have na:=T.QX;have hw:=DK hc mk;walk_at "";refine⟨a,cs,ps,L,b,rfl,SqL.of ha,by omega,hw,hb,λsp us H1 nsp s1 hsp tsp=>?_⟩;rw[Pu] at tsp;have hql:(Bl ps L b).length<=1200:=by
   have h1:(Bl ps L b).length<=ps.length:=di _ _;have h2:=hc.le;omega
 have hin:∀w∈Bl ps L b,0<=w.1/\w.1<cs.length:=λw hw=>by
   obtain⟨z,hz,e⟩:=Py hw;have:=hc.mem z hz;omega
 generalize Bl ps L b=qs at tsp hql hin q;have htl:=tsp.1;rw[ε] at htl;have ha1:=s1 a _ ha;have hx1:=s1 x _ hx;walk_at "";refine⟨sp,rfl,⟨_,SqL.of hsp⟩,Ei (K:=K) (a:=sp) (xs:=us) (fs:=[]) (ChW H1 W4.first r cs qs) (λD hD=>⟨Same.new hD,upd_same,AY.nil⟩) (λD i ys H2 _ h=>SqL.of (h.1 sp _ hsp)) ?_ ?_⟩
 . rintro D i y ys H2 hD hi ⟨s2,hD2,ta⟩ τ hτ;have hil:i<us.length:=(δ.mp hi).1;have hiq:i<qs.length:=by omega
   obtain⟨t,et,hT⟩:=tsp.2 i [V.int qs[i].1,V.int qs[i].2] (by simp [hiq]);have ey:y = .ref t:=ae (hi.symm.trans et);subst ey;have hT2:=s2 t _ hT;have ha2:=s2 a _ ha1;have hx2:=s2 x _ hx1;have etk:qs.take (i+1)=qs.take i++[qs[i]]:=by rw[ap,ah hiq];rfl
   have hyl:=ta.1;rw[ε,ε,ag] at hyl;obtain⟨w0,w1⟩:=hin qs[i] (az hiq);generalize qs[i]=w at hT2 etk w0 w1
   obtain⟨τ0,τ1,rfl⟩:=b_ hτ
   walk_at "";refine⟨⟨[_,_],rfl,rfl⟩,?_⟩;walk_at "";intro t2 ht2;refine⟨look_put ht2 hD2,small4000 (by omega),Cv hil ⟨(s2.put (s2.free ht2)).put hD,upd_same,?_⟩⟩;rw[etk,ψ,ψ];exact ta.push hD2 ht2
 . rintro D ys H2 hD ⟨s2,hD2,ta⟩;rw[af (by omega)] at ta;have h3:∀x∈qs.map (rk4 W4.first r cs),x.length=3:=λx hx=>by
     obtain⟨w,_,rfl⟩:=am.mp hx;exact Pz
   have:=q H2 (s1.trans s2);unfold chQ at this;walk_at "";refine⟨D,ys,qs.map (rk4 W4.first r cs),rfl,hD2,ta,h3,λz=>?_,λhp=>?_⟩
   . walk_at "";rw[if_pos (show qs.length=0 by rw[gk.mp z];rfl)] at this;exact this
   . walk_at "";rw[if_neg (by rw[ε] at hp;omega)] at this;exact this
include T AB AV AW in
theorem KG(F:Fun K "chosen" "Best.chosen" Pa f₀ fd₀)(M:tF K Af "chosen" f₀):Methx P w K mg base Af "chosen" 6 ["self","long","bound"] [] (Hv (cF Ae Af Ad Ag) W4.best):=by
 refine⟨⟨f₀,fd₀,[],A5 F QQ (λcdv A outer s H vs Q E hr h=>?_),M,F.binds G6,.nil⟩,T.Pp⟩;refine⟨_,PSs.nox (Ac (Au (i:=3) QQ.nd rfl (jn rfl) (AX l_ rfl)) (Ac (i_ 4 QQ (k_ AV hr (Aa m_ (Aa ld (Aa mt Ab))))) (Ah (An (k_ AW hr (Aa (Iv ["at","place"] ["cells"] [3] rfl (BU n_) (λcl C s₀ H₀ ex=>(Iw (K:=K) (n:=2) rfl rfl (AE (AD (i:=0) (show ((["at","place"]:List Str)++(["cells"]:List Str)).Nodup by decide +kernel) rfl (υ rfl)) (AE (AD (i:=1) (show ((["at","place"]:List Str)++(["cells"]:List Str)).Nodup by decide +kernel) rfl (υ rfl)) BN)))) (λcl C s₀ H₀ ex=>Im) (λcl C s₀ H₀ ex=>(Bs (Aa (k_ AB hr (Aa (AM (NT (K:=K) rfl) mt l_ (λ_ _=>rfl)) Ab)) (Aa l_ (Aa ld Ab))))) (NU rfl rfl rfl) (NV (n:="cells") (by decide +kernel) rfl) (λy h=>Fh (by decide +kernel) h)) Ab)))))),?_⟩;walk_at "D";obtain⟨r,x,dx,a,cs,ps,L,b,rfl,⟨hx,ha,hz,hc,mk,nj⟩,hb,q⟩:=h;have hx:H x=some (.ins Af dx [("room_cells",.ref a)]):=hx;have cl:=T.Pp;have na:=T.QY;have hw:=DK hc mk;walk_at "";refine⟨a,cs,ps,L,b,rfl,SqL.of ha,by omega,hw,hb,λsp us H1 nsp s1 hsp tsp=>?_⟩;rw[Pu] at tsp;have hql:(Bl ps L b).length<=1200:=by
   have h1:(Bl ps L b).length<=ps.length:=di _ _;have h2:=hc.le;omega
 have hin:∀w∈Bl ps L b,0<=w.1/\w.1<cs.length:=λw hw=>by
   obtain⟨z,hz,e⟩:=Py hw;have:=hc.mem z hz;omega
 generalize Bl ps L b=qs at tsp hql hin q;have htl:=tsp.1;rw[ε] at htl;have ha1:=s1 a _ ha;have hx1:=s1 x _ hx;walk_at "";refine⟨sp,rfl,⟨_,SqL.of hsp⟩,Ei (K:=K) (a:=sp) (xs:=us) (fs:=[some (.ref a)]) (ChW H1 W4.best r cs qs) (λD hD=>⟨Same.new hD,upd_same,AY.nil⟩) (λD i ys H2 _ h=>SqL.of (h.1 sp _ hsp)) ?_ ?_⟩
 . rintro D i y ys H2 hD hi ⟨s2,hD2,ta⟩ τ hτ;have hil:i<us.length:=(δ.mp hi).1;have hiq:i<qs.length:=by omega
   obtain⟨t,et,hT⟩:=tsp.2 i [V.int qs[i].1,V.int qs[i].2] (by simp [hiq]);have ey:y = .ref t:=ae (hi.symm.trans et);subst ey;have hT2:=s2 t _ hT;have ha2:=s2 a _ ha1;have hx2:=s2 x _ hx1;have etk:qs.take (i+1)=qs.take i++[qs[i]]:=by rw[ap,ah hiq];rfl
   have hyl:=ta.1;rw[ε,ε,ag] at hyl;obtain⟨w0,w1⟩:=hin qs[i] (az hiq);generalize qs[i]=w at hT2 etk w0 w1
   obtain⟨τ0,τ1,rfl⟩:=b_ hτ
   walk_at "";refine⟨⟨[_,_],rfl,rfl⟩,?_⟩;walk_at "";intro t2 ht2;refine⟨look_put ht2 hD2,small4000 (by omega),Cv hil ⟨(s2.put (s2.free ht2)).put hD,upd_same,?_⟩⟩;rw[etk,ψ,ψ];exact ta.push hD2 ht2
 . rintro D ys H2 hD ⟨s2,hD2,ta⟩;rw[af (by omega)] at ta;have h3:∀x∈qs.map (rk4 W4.best r cs),x.length=3:=λx hx=>by
     obtain⟨w,_,rfl⟩:=am.mp hx;exact Pz
   have:=q H2 (s1.trans s2);unfold chQ at this;walk_at "";refine⟨D,ys,qs.map (rk4 W4.best r cs),rfl,hD2,ta,h3,λz=>?_,λhp=>?_⟩
   . walk_at "";rw[if_pos (show qs.length=0 by rw[gk.mp z];rfl)] at this;exact this
   . walk_at "";rw[if_neg (by rw[ε] at hp;omega)] at this;exact this
include T AV AW in
theorem KH(F:Fun K "chosen" "Next.chosen" Pb f₀ fd₀)(M:tF K Ad "chosen" f₀):Methx P w K mg base Ad "chosen" 6 ["self","long","bound"] [] (Hv (cF Ae Af Ad Ag) W4.next):=by
 refine⟨⟨f₀,fd₀,[],A5 F X7 (λcdv A outer s H vs Q E hr h=>?_),M,F.binds G7,.nil⟩,T.Ht⟩;refine⟨_,PSs.nox (Ac (i_ 3 X7 (k_ AV hr (Aa (AX l_ rfl) (Aa ld (Aa mt Ab))))) (Ah (An (k_ AW hr (Aa (Iv ["at","place"] ["self"] [0] rfl (BU m_) (λcl C s₀ H₀ ex=>(Iw (K:=K) (n:=2) rfl rfl (AE (AD (i:=0) (show ((["at","place"]:List Str)++(["self"]:List Str)).Nodup by decide +kernel) rfl (υ rfl)) (AE (AD (i:=1) (show ((["at","place"]:List Str)++(["self"]:List Str)).Nodup by decide +kernel) rfl (υ rfl)) BN)))) (λcl C s₀ H₀ ex=>Im) (λcl C s₀ H₀ ex=>(Bs (Aa (Zm (Ax Np l_ (mX (K:=K) rfl mt rfl)) Aj Aj) (Aa l_ (Aa ld Ab))))) (NU rfl rfl rfl) (NV (n:="self") (by decide +kernel) rfl) (λy h=>Fh (by decide +kernel) h)) Ab))))),?_⟩;walk_at "D";obtain⟨r,x,dx,a,cs,ps,L,b,rfl,⟨hx,ha,hz,hc,mk,nj⟩,hb,q⟩:=h;have hx:H x=some (.ins Ad dx [("room_cells",.ref a),("room_rover",.int r)]):=hx;have cl:=T.Ht;have na:=T.IK;have nr:=T.Pq;have hw:=DK hc mk;walk_at "";refine⟨a,cs,ps,L,b,rfl,SqL.of ha,by omega,hw,hb,λsp us H1 nsp s1 hsp tsp=>?_⟩;rw[Pu] at tsp;have hql:(Bl ps L b).length<=1200:=by
   have h1:(Bl ps L b).length<=ps.length:=di _ _;have h2:=hc.le;omega
 have hin:∀w∈Bl ps L b,0<=w.1/\w.1<cs.length:=λw hw=>by
   obtain⟨z,hz,e⟩:=Py hw;have:=hc.mem z hz;omega
 generalize Bl ps L b=qs at tsp hql hin q;have htl:=tsp.1;rw[ε] at htl;have ha1:=s1 a _ ha;have hx1:=s1 x _ hx;walk_at "";refine⟨sp,rfl,⟨_,SqL.of hsp⟩,Ei (K:=K) (a:=sp) (xs:=us) (fs:=[some (.ref x)]) (ChW H1 W4.next r cs qs) (λD hD=>⟨Same.new hD,upd_same,AY.nil⟩) (λD i ys H2 _ h=>SqL.of (h.1 sp _ hsp)) ?_ ?_⟩
 . rintro D i y ys H2 hD hi ⟨s2,hD2,ta⟩ τ hτ;have hil:i<us.length:=(δ.mp hi).1;have hiq:i<qs.length:=by omega
   obtain⟨t,et,hT⟩:=tsp.2 i [V.int qs[i].1,V.int qs[i].2] (by simp [hiq]);have ey:y = .ref t:=ae (hi.symm.trans et);subst ey;have hT2:=s2 t _ hT;have ha2:=s2 a _ ha1;have hx2:=s2 x _ hx1;have etk:qs.take (i+1)=qs.take i++[qs[i]]:=by rw[ap,ah hiq];rfl
   have hyl:=ta.1;rw[ε,ε,ag] at hyl;obtain⟨w0,w1⟩:=hin qs[i] (az hiq);generalize qs[i]=w at hT2 etk w0 w1
   obtain⟨τ0,τ1,rfl⟩:=b_ hτ
   walk_at "";refine⟨⟨[_,_],rfl,rfl⟩,?_⟩;walk_at "";refine AO (λhge=>?_) (λhge=>?_)
   . walk_at "";intro t2 ht2;refine⟨look_put ht2 hD2,small4000 (by omega),Cv hil ⟨(s2.put (s2.free ht2)).put hD,upd_same,?_⟩⟩;rw[etk,ψ,ψ];have e:rk4 W4.next r cs w=[0,w.1,w.2]:=by unfold rk4;rw[if_pos hge]
     rw[il,il,e];exact ta.push hD2 ht2
   . walk_at "";intro t2 ht2;refine⟨look_put ht2 hD2,small4000 (by omega),Cv hil ⟨(s2.put (s2.free ht2)).put hD,upd_same,?_⟩⟩;rw[etk,ψ,ψ];have e:rk4 W4.next r cs w=[1,w.1,w.2]:=by unfold rk4;rw[if_neg hge]
     rw[il,il,e];exact ta.push hD2 ht2
 . rintro D ys H2 hD ⟨s2,hD2,ta⟩;rw[af (by omega)] at ta;have h3:∀x∈qs.map (rk4 W4.next r cs),x.length=3:=λx hx=>by
     obtain⟨w,_,rfl⟩:=am.mp hx;exact Pz
   have:=q H2 (s1.trans s2);unfold chQ at this;walk_at "";refine⟨D,ys,qs.map (rk4 W4.next r cs),rfl,hD2,ta,h3,λz=>?_,λhp=>?_⟩
   . walk_at "";rw[if_pos (show qs.length=0 by rw[gk.mp z];rfl)] at this;exact this
   . walk_at "";rw[if_neg (by rw[ε] at hp;omega)] at this;exact this
include T AB AV AW in
theorem KI(F:Fun K "chosen" "Likes.chosen" Pd f₀ fd₀)(M:tF K Ag "chosen" f₀):Methx P w K mg base Ag "chosen" 6 ["self","long","bound"] [] (Hv (cF Ae Af Ad Ag) W4.likes):=by
 refine⟨⟨f₀,fd₀,[],A5 F QR (λcdv A outer s H vs Q E hr h=>?_),M,F.binds G8,.nil⟩,T.Pr⟩;refine⟨_,PSs.nox (Ac (Au (i:=3) QR.nd rfl (jn rfl) (AX l_ rfl)) (Ac (i_ 4 QR (k_ AV hr (Aa m_ (Aa ld (Aa mt Ab))))) (Ah (An (k_ AW hr (Aa (Iv ["at","place"] ["cells"] [3] rfl (BU n_) (λcl C s₀ H₀ ex=>(Iw (K:=K) (n:=2) rfl rfl (AE (AD (i:=0) (show ((["at","place"]:List Str)++(["cells"]:List Str)).Nodup by decide +kernel) rfl (υ rfl)) (AE (AD (i:=1) (show ((["at","place"]:List Str)++(["cells"]:List Str)).Nodup by decide +kernel) rfl (υ rfl)) BN)))) (λcl C s₀ H₀ ex=>Im) (λcl C s₀ H₀ ex=>(Bs (Aa (nB (K:=K) rfl PySem.F.plainAttrs_int PySem.F.slot_int_bit_length PySem.F.type_int_bit_length nA (k_ AB hr (Aa (AM (NT (K:=K) rfl) mt l_ (λ_ _=>rfl)) Ab))) (Aa l_ (Aa ld Ab))))) (NU rfl rfl rfl) (NV (n:="cells") (by decide +kernel) rfl) (λy h=>Fh (by decide +kernel) h)) Ab)))))),?_⟩;walk_at "D";obtain⟨r,x,dx,a,cs,ps,L,b,rfl,⟨hx,ha,hz,hc,mk,nj⟩,hb,q⟩:=h;have hx:H x=some (.ins Ag dx [("room_cells",.ref a)]):=hx;have cl:=T.Pr;have na:=T.QZ;have hw:=DK hc mk;walk_at "";refine⟨a,cs,ps,L,b,rfl,SqL.of ha,by omega,hw,hb,λsp us H1 nsp s1 hsp tsp=>?_⟩;rw[Pu] at tsp;have hql:(Bl ps L b).length<=1200:=by
   have h1:(Bl ps L b).length<=ps.length:=di _ _;have h2:=hc.le;omega
 have hin:∀w∈Bl ps L b,0<=w.1/\w.1<cs.length:=λw hw=>by
   obtain⟨z,hz,e⟩:=Py hw;have:=hc.mem z hz;omega
 generalize Bl ps L b=qs at tsp hql hin q;have htl:=tsp.1;rw[ε] at htl;have ha1:=s1 a _ ha;have hx1:=s1 x _ hx;walk_at "";refine⟨sp,rfl,⟨_,SqL.of hsp⟩,Ei (K:=K) (a:=sp) (xs:=us) (fs:=[some (.ref a)]) (ChW H1 W4.likes r cs qs) (λD hD=>⟨Same.new hD,upd_same,AY.nil⟩) (λD i ys H2 _ h=>SqL.of (h.1 sp _ hsp)) ?_ ?_⟩
 . rintro D i y ys H2 hD hi ⟨s2,hD2,ta⟩ τ hτ;have hil:i<us.length:=(δ.mp hi).1;have hiq:i<qs.length:=by omega
   obtain⟨t,et,hT⟩:=tsp.2 i [V.int qs[i].1,V.int qs[i].2] (by simp [hiq]);have ey:y = .ref t:=ae (hi.symm.trans et);subst ey;have hT2:=s2 t _ hT;have ha2:=s2 a _ ha1;have hx2:=s2 x _ hx1;have etk:qs.take (i+1)=qs.take i++[qs[i]]:=by rw[ap,ah hiq];rfl
   have hyl:=ta.1;rw[ε,ε,ag] at hyl;obtain⟨w0,w1⟩:=hin qs[i] (az hiq);generalize qs[i]=w at hT2 etk w0 w1
   obtain⟨τ0,τ1,rfl⟩:=b_ hτ
   walk_at "";refine⟨⟨[_,_],rfl,rfl⟩,?_⟩;walk_at "";refine⟨rfl,_,rfl,rfl,?_⟩;walk_at "";intro t2 ht2;refine⟨look_put ht2 hD2,small4000 (by omega),Cv hil ⟨(s2.put (s2.free ht2)).put hD,upd_same,?_⟩⟩;rw[etk,ψ,ψ];exact ta.push hD2 ht2
 . rintro D ys H2 hD ⟨s2,hD2,ta⟩;rw[af (by omega)] at ta;have h3:∀x∈qs.map (rk4 W4.likes r cs),x.length=3:=λx hx=>by
     obtain⟨w,_,rfl⟩:=am.mp hx;exact Pz
   have:=q H2 (s1.trans s2);unfold chQ at this;walk_at "";refine⟨D,ys,qs.map (rk4 W4.likes r cs),rfl,hD2,ta,h3,λz=>?_,λhp=>?_⟩
   . walk_at "";rw[if_pos (show qs.length=0 by rw[gk.mp z];rfl)] at this;exact this
   . walk_at "";rw[if_neg (by rw[ε] at hp;omega)] at this;exact this
/-! ### lives: a piece cut out,given,moved,grown -/
def LvP(ps ps':List Pc)(o:Option Pc)(w:Pc):Prop:=w.v=true/\(∀z∈ps,z.v=true->o≠some z->z≠w)/\∀y,y.v=true->(y∈ps'↔(y∈ps/\o≠some y)\/y=w)
theorem Q0{b e:Int}{y:Pc}(h:y∈fr b e):y.v=false:=by
 unfold fr at h
 split at h
 . cases h
 . rw[be.mp h]
theorem vP{s L:Int}{z:Pc}(c:Ai 0 ps n)(hz:z∈ps)(hv:z.v=false)(h1:z.a<=s)(hL:1<=L)(h2:s+L<=z.a+z.l):LvP ps (tY ps s L) none ⟨s,L,true⟩:=by
 obtain⟨i,hi⟩:=aq hz;obtain⟨ds,rs,rfl,e2,c1,c2⟩:=Cc c hi;refine⟨rfl,λy hy hyv _ e=>?_,λy hy=>?_⟩
 . have hya:y.a=s:=by rw[e]
   rcases ρ.mp hy with h | h
   . have:=c1.mem y h;omega
   . rcases χ.mp h with h | h
     . rw[h,hv] at hyv;cases hyv
     . have:=c2.mem y h;omega
 . rw[Xi c hv hL h1 h2];unfold uo;constructor
   . intro h;rcases ρ.mp h with h | h
     . exact .inl ⟨Φ _ h,λe=>nomatch e⟩
     rcases ρ.mp h with h | h
     . rw[Q0 h] at hy;cases hy
     rcases χ.mp h with h | h
     . exact .inr h
     rcases ρ.mp h with h | h
     . rw[Q0 h] at hy;cases hy
     . exact .inl ⟨μ _ (ι _ h),λe=>nomatch e⟩
   . rintro(⟨h,_⟩ | h)
     . rcases ρ.mp h with h | h
       . exact Φ _ h
       . rcases χ.mp h with h | h
         . rw[h,hv] at hy;cases hy
         . exact μ _ (μ _ (ι _ (μ _ h)))
     . exact μ _ (μ _ (by rw[h];exact Ξ))
theorem Yy{z:Pc}(c:Ai 0 ps n)(hz:z∈ps)(hv:z.v=true){y:Pc}(hy:y.v=true):y∈A0 (tZ ps z.a)↔y∈ps/\y≠z:=by
 have h1:y∈A0 (tZ ps z.a)↔y∈tZ ps z.a:=by
   have a:=Ce (ps:=A0 (tZ ps z.a)) (z:=y);rw[XQ,Ce] at a;exact⟨λh=>(a.mpr ⟨h,hy⟩).1,λh=>(a.mp ⟨h,hy⟩).1⟩
 rw[h1];obtain⟨i,hi⟩:=aq hz;obtain⟨ds,rs,rfl,e2,c1,c2⟩:=Cc c hi;rw[QE c];constructor
 . intro h;rcases ρ.mp h with h | h
   . exact⟨Φ _ h,λe=>by have:=c1.mem y h;rw[e] at this;omega⟩
   . rcases χ.mp h with h | h
     . rw[h] at hy;cases hy
     . exact⟨μ _ (ι _ h),λe=>by
         have h1:=c2.mem y h;have h2:=(c.mem z hz).2.1;rw[e] at h1;omega⟩
 . rintro⟨h,ne⟩;rcases ρ.mp h with h | h
   . exact Φ _ h
   . rcases χ.mp h with h | h
     . exact absurd h ne
     . exact μ _ (ι _ h)
theorem nG{ps1:List Pc}{z w:Pc}(c:Ai 0 ps1 n)(h:LvP ps ps1 none w)(hz:z∈ps)(hv:z.v=true):LvP ps (A0 (tZ ps1 z.a)) (some z) w:=by
 obtain⟨h1,h2,h3⟩:=h;have hz1:z∈ps1:=(h3 z hv).mpr (.inl ⟨hz,λe=>nomatch e⟩);refine⟨h1,λy hy hyv _=>h2 y hy hyv (λe=>nomatch e),λy hy=>?_⟩;rw[Yy c hz1 hv hy,h3 y hy];constructor
 . rintro⟨⟨h,_⟩ | h,ne⟩
   . exact .inl ⟨h,λe=>ne (ae e).symm⟩
   . exact .inr h
 . rintro(⟨h,ne⟩ | h)
   . exact⟨.inl ⟨h,λe=>nomatch e⟩,λe=>ne (by rw[e])⟩
   . exact⟨.inr h,λe=>h2 z hz hv (λe=>nomatch e) (by rw[<-e,h])⟩
theorem Yz{rs:List Pc}{y:Pc}(hy:y.v=true):y∈B9 rs↔y∈rs:=by
 cases rs with
 | nil=>exact Iff.rfl
 | cons w R =>
   cases hw:w.v with
   | true=>rw[IC hw]
   | false =>
     rw[ID hw];exact⟨λh=>ι _ h,λh=>by
       rcases χ.mp h with h | h
       . rw[h,hw] at hy;cases hy
       . exact h⟩
theorem nH{ds rs:List Pc}{z:Pc}{L:Int}(c:Ai 0 (ds++z::rs) n)(na:AI (ds++z::rs))(hL:z.a+L<=tG (ds++z::rs) ds.length z):
   LvP (ds++z::rs) (tP (ds++z::rs) z.a L (tG (ds++z::rs) ds.length z)) (some z) ⟨z.a,L,true⟩:=by
 have hz:z∈ds++z::rs:=μ _ Ξ;have ne:∀y∈ds++z::rs,some z≠some y->y.a≠z.a:=λy hy h e=>h (by rw[Ed c hy hz e]);refine⟨rfl,λy hy hyv h e=>ne y hy h (by rw[e]),λy hy=>?_⟩;rw[Xe c na hL];have nz:∀(A:List Pc),y∈A->(∀q∈A,q∈ds\/q∈rs)->y∈ds++z::rs/\some z≠some y:=λA hA hs=>by
   obtain⟨i,hi⟩:=aq hz;obtain⟨mm,c1,⟨ea,l1,_,c2⟩⟩:=NY c;rcases hs y hA with h | h
   . exact⟨Φ _ h,λe=>by
       have e:=ae e;have:=c1.mem y h;rw[<-e] at this;omega⟩
   . exact⟨μ _ (ι _ h),λe=>by
       have e:=ae e;have:=c2.mem y h;rw[<-e] at this;omega⟩
 constructor
 . intro h;rcases ρ.mp h with h | h
   . rcases ρ.mp h with h | h
     . exact .inl (nz ds h λq hq=>.inl hq)
     . exact .inr (be.mp h)
   . rcases ρ.mp h with h | h
     . rw[Q0 h] at hy;cases hy
     . exact .inl (nz rs ((Yz hy).mp h) λq hq=>.inr hq)
 . rintro(⟨h,hn⟩ | h)
   . rcases ρ.mp h with h | h
     . exact Φ _ (Φ _ h)
     . rcases χ.mp h with h | h
       . exact absurd (by rw[h]) hn
       . exact μ _ (μ _ ((Yz hy).mpr h))
   . exact Φ _ (μ _ (by rw[h];exact be.mpr rfl))
/-! ### a dict of whole numbers -/
theorem D8(h:Int):∀(kvs:List (Int×Int)),tM (kvs.map dkE) (.inl h)=(AQ kvs h).map V.int
 | []=>rfl
 | q::r=>by
   rw[ar,DY]
   by_cases e:q.1=h
   . rw[NP (show (dkE q).1 = .inl h by unfold dkE;rw[e]),if_pos e];rfl
   . rw[NQ (show ¬(dkE q).1 = .inl h from λz=>e (lw z)),if_neg e,D8 h r]
theorem PB(kvs:List (Int×Int))(h p:Int):tX (kvs.map dkE) (.inl h) (.int p)=(tN kvs h p).map dkE:=by
 unfold tX tN;have e1:((kvs.map dkE).any λkv=>decide (kv.1 = .inl h))=kvs.any λq=>decide (q.1=h):=by
   rw[List.any_map]
   congr 1
   funext q
   show decide ((Sum.inl q.1:Key) = .inl h)=_;simp
 rw[e1]
 split
 . rw[du,du]
   congr 1
   funext q
   show (if (Sum.inl q.1:Key) = .inl h then _ else _)=dkE (if q.1=h then _ else _);by_cases e:q.1=h
   . rw[if_pos e,if_pos (by rw[e])];rfl
   . rw[if_neg e,if_neg (λz=>e (lw z))]
 . rw[ψ];rfl
theorem YA(kvs:List (Int×Int))(h:Int):Eg (kvs.map dkE) (.inl h)=(DZ kvs h).map dkE:=by
 unfold Eg DZ;rw[List.filter_map]
 congr 2
 funext q
 show decide ((Sum.inl q.1:Key)≠.inl h) = !decide (q.1=h);by_cases e:q.1=h <;> simp [e]
theorem Q1{xs ys:List Int}(nx:xs.Nodup)(ny:ys.Nodup)(h:∀z,z∈xs↔z∈ys):xs.Perm ys:=by
 have px:=jh xs (λa b=>decide (a<=b));have py:=jh ys (λa b=>decide (a<=b));have sx:(xs.mergeSort λa b=>decide (a<=b)).Pairwise (·<=·):=(io (le:=λa b:Int=>decide (a<=b)) (λa b c h1 h2=>by simp at *;omega) (λa b=>by simp;omega) xs).imp λh=>by simpa using h
 have sy:(ys.mergeSort λa b=>decide (a<=b)).Pairwise (·<=·):=(io (le:=λa b:Int=>decide (a<=b)) (λa b c h1 h2=>by simp at *;omega) (λa b=>by simp;omega) ys).imp λh=>by simpa using h
 have e:=JI (IE sx (px.nodup_iff.mpr nx)) (IE sy (py.nodup_iff.mpr ny)) λz=>by rw[px.mem_iff,py.mem_iff];exact h z
 exact px.symm.trans (by rw[e];exact py)
theorem Ow.len{kvs:List (Int×Int)}(o:Ow kvs ps Hs)(c:Ai 0 ps n):kvs.length=(lvA ps).length:=by
 have px:=jh kvs (λa b=>decide (a.2<=b.2));have sx:(kvs.mergeSort λa b=>decide (a.2<=b.2)).Pairwise λp q=>p.2<=q.2:=(io (le:=λa b:Int×Int=>decide (a.2<=b.2)) (λa b c h1 h2=>by simp at *;omega) (λa b=>by simp;omega) kvs).imp λh=>by simpa using h
 obtain⟨_,_,_,e⟩:=o.follow c c px sx rfl;rw[<-px.length_eq,e]
theorem Q2(ps:List Pc):(lvA ps).length<=ps.length:=by unfold lvA lvF;rw[ε];exact gv _ _
theorem AF.free{x b:qH}{H H':Hp}{o:HO}(k:AF x H H')(hx:H' x=some o)(hn:H' b=none):H b=none:=by
 cases e:H b with
 | none=>rfl
 | some o' =>
   have:=k b o' (λz=>by rw[z,hx] at hn;cases hn) e;rw[hn] at this;cases this
theorem YB{L:Int}{z:Pc}(hz:z∈ps)(hv:z.v=false)(h:L<=z.l):Bl ps L 1≠[]:=λe=>by
 have:(z.a,fpl z.a 1)∈Bl ps L 1:=dk.mpr ⟨z,hz,by
   unfold Fp fp;rw[if_neg (by rw[hv];exact η),if_pos (by unfold fpl;omega)];rfl⟩
 rw[e] at this;cases this
def OkA(C:W4->qH)(i:W4)(x dx a:qH)(cs:List Int)(ps:List Pc)(o:Option Pc)(l:Int)(H:Hp)(Q:VK):Prop:=∀(w:Pc) (a':qH) (r':Int) (cs':List Int) (ps':List Pc) (H':Hp),w.l=l->LvP ps ps' o w->H a'=none->AF x H H'->cs'.length=cs.length->StS C i x dx a' r' cs' ps' H'->Q (.int (w.a+1)) H'
abbrev sv(C:W4->qH)(CA CN:qH)(i:W4)(r:Int)(x dx a:qH)(cs:List Int)(ps:List Pc)(c:Int)(H:Hp)(Q:VK)(E:XK):Prop:=(c<1->∀H',Same H H'->E (.ref CA) none H') /\ (1<=c->Bl ps (c+2) 1=[]->∀H',Same H H'->E (.ref CN) none H')/\(1<=c->c+2<=cs.length->OkA C i x dx a cs ps none (c+2) H Q)
def YC(C:W4->qH)(CA CN:qH)(i:W4):Sp:=λvs H Q E=>∃(r:Int) (x dx a:qH) (cs:List Int) (ps:List Pc) (c:Int),vs=[.ref x,.int c,.int 1]/\StS C i x dx a r cs ps H/\sv C CA CN i r x dx a cs ps c H Q E
variable (BI:tE P w K mg base "check_ask" 1 ["count","bound"] (Ys Ar))
variable (D_chosen:AS P w K mg base (cF Ae Af Ad Ag) "chosen" 6 ["self","long","bound"] [] (Hv (cF Ae Af Ad Ag)))
variable (CW:tE P w K mg base "cut_out" 7 ["cells","at","place","long"] (uW K))
variable (CY:tE P w K mg base "begin_around" 5 ["cells","cell"] (Yt K))
variable (D_room_granted:AS P w K mg base (cF Ae Af Ad Ag) "room_granted" 1 ["self","behind"] [] (Px (cF Ae Af Ad Ag)))
include T BI D_chosen CW CY D_room_granted in
theorem d_ask{T₀:qH}{tk₀:Tok}{tc₀:qG}{td₀:Option qH}{tn₀:Nat}{ts₀:Array (Option qG)}(F:FunD K "ask" "Stretches.ask" Er (.ref T₀) f₀ fd₀)(LT:K.lookup T₀=some ⟨tc₀,td₀,.seq [.int 1 tk₀].toArray tn₀,ts₀⟩)(M:∀i,tF K ((cF Ae Af Ad Ag) i) "ask" f₀):MethFD P w K mg base (cF Ae Af Ad Ag) "ask" 8 ["self","count","bound"] [.int 1] (YC (cF Ae Af Ad Ag) Ar Ao):=by
 refine MethFD.made (fd:=fd₀) ?_ M (F.bindsA LT (G9 T₀ _)) (F.bindsD LT (Ha T₀ _)) (.cons ⟨tk₀,rfl⟩ .nil) (tH T);refine Ws F QS (λvs H Q E h=>by obtain⟨_,h⟩:=h;revert h;walk_at "l") (λcdv A outer s H vs Q E hr h=>?_);refine⟨_,(Ac (BQ (Fe BI hr (by rfl) (Aa ld (Aa mt Ab)))) (Ac (i_ 3 QS (Ak AN ld (BV (v:=.int 2) (by rfl) T.J6 ⟨_,rfl⟩))) (Ac (i_ 4 QS (Cd D_chosen BD hr l_ (Aa m_ (Aa mt Ab)))) (Ac (Az (Ax FJ n_ Br) (Ah (Fd T.X9 rfl (Aa At Ab))) AA) (Ac (B8 l_ (k_ CW hr (Aa (AX l_ rfl) (Aa (k_ CY hr (Aa (AX l_ rfl) (Aa n_ Ab))) (Aa n_ (Aa m_ Ab))))) rfl) (Ac (BQ (Cd D_room_granted BD hr l_ (Aa (Ak AN n_ m_) Ab))) (Ah (An (Ak AN n_ Aj))))))))),?_⟩;walk_at "D";obtain⟨k,r,x,dx,a,cs,ps,c,rfl,S,qa,qn,q⟩:=h;have cl:=tH T k;have na:=ub T k;obtain⟨hx,ha,hz,hc,mk,nj⟩:=id S;walk_at "";refine⟨c,1,rfl,λh=>qa (by omega) _ (Same.refl _),λh1 h2=>?_⟩;have qn:=qn h1;have q:=q h1;walk_at "";refine⟨r,x,dx,a,cs,ps,_,1,rfl,S,h2,λH1 s1=>?_⟩;have hx1:=s1 x _ hx;have ha1:=s1 a _ ha;cases hn:chQ k r cs (Bl ps (c+2) 1) with
 | none =>
   walk_at "";exact qn (nF hn) H1 s1
 | some s =>
   obtain⟨i,z,hi,hv,g1,g2,_⟩:=ch_in h2 hn;have hzm:=Δ hi;walk_at "";refine⟨a,cs,ps,i,z,s,rfl,SqL.of ha1,by omega,hc,mk,hi,g1,by omega,λH2 s2=>?_⟩;have hx2:=s2 x _ hx1;have ha2:=s2 a _ ha1;walk_at "";refine⟨a,cs,ps,z,s,c+2,rfl,SqL.of ha2,by omega,hc,mk,by omega,hzm,hv,g1,g2,λp H3 np s3 hp=>?_⟩;have hx3:=s3 x _ hx2;have hne:p≠x:=λz=>by rw[z,hx2] at np;cases np
   have s13:=(s1.trans s2).trans s3;walk_at "";generalize hH:upd H3 x _=H4;have hx4:H4 x=some (.ins ((cF Ae Af Ad Ag) k) dx (fsF k p r)):=by rw[<-hH,upd_same,JE]
   have hp4:H4 p=some (.lst ((uD cs z.a z.l s (c+2)).map V.int)):=by rw[<-hH];exact look_ne hne hp
   have k4:AF x H H4:=by rw[<-hH];exact(AF.of s13).put
   walk_at "";refine⟨r,s+(c+2),x,dx,p,rfl,hx4,λH5 k5 hx5=>?_⟩;walk_at "";obtain⟨y0,y1,y3,y4⟩:=hc.mem z hzm;have lv:=vP hc hzm hv g1 (show 1<=c+2 by omega) g2;obtain⟨ds,rs,e3,e4,c1,c2⟩:=Cc hc hi;subst e3;have ecut:=Xi hc hv (show 1<=c+2 by omega) g1 g2;refine q (by omega) ⟨s,c+2,true⟩ p (s+(c+2)) _ (tY (ds++z::rs) s (c+2)) H5 rfl lv ((s1.trans s2).free np) (k4.trans k5) (by rw[Qo]) ⟨hx5,k5 p _ hne hp4,by rw[Qo];exact hz,?_,?_,?_⟩
   . rw[Qo,ecut];exact bI (by omega) g1 g2 c1 c2
   . rw[ecut];exact bH y0 (by omega) g1 g2 (by omega) (c1.endBy (ba 0)) c2.fromOn mk
   . rw[ecut];exact eW nj hv
abbrev sD(C:W4->qH)(k:W4)(r:Int)(x dx a:qH)(cs:List Int)(ps:List Pc)(z:Pc)(H:Hp)(Q:VK)(E:XK):Prop:=(∀(a':qH) (cs':List Int) (H':Hp),H a'=none->AF x H H'->cs'.length=cs.length->StS C k x dx a' r cs' (A0 (tZ ps z.a)) H'->Q .non H')
def YD(C:W4->qH)(k:W4):Sp:=λvs H Q E=>∃(r:Int) (x dx a:qH) (cs:List Int) (ps:List Pc) (z:Pc),vs=[.ref x,.int (z.a+1)]/\StS C k x dx a r cs ps H/\z∈ps/\z.v=true/\sD C k r x dx a cs ps z H Q E
variable (CZ:tE P w K mg base "freed" 7 ["cells","at"] (Yn K))
include T CZ in
theorem KJ(F:Fun K "give" "Stretches.give" Es f₀ fd₀)(M:∀i,tF K ((cF Ae Af Ad Ag) i) "give" f₀):AS P w K mg base (cF Ae Af Ad Ag) "give" 8 ["self","place"] [] (YD (cF Ae Af Ad Ag)):=by
 refine AS.made (A5 F JX (λcdv A outer s H vs Q E hr h=>?_)) M (F.binds JY) (tH T);refine⟨_,PSs.nox (Ah (B8 l_ (k_ CZ hr (Aa (AX l_ rfl) (Aa (Ak Bw ld Aj) Ab))) rfl)),?_⟩;walk_at "D";obtain⟨k,r,x,dx,a,cs,ps,z,rfl,⟨hx,ha,hz,hc,mk,nj⟩,hm,hv,q⟩:=h;have cl:=tH T k;have na:=ub T k;obtain⟨j,hj⟩:=aq hm;walk_at "";refine⟨a,cs,ps,j,z,by rw[show z.a+1-1=z.a by omega],SqL.of ha,by omega,hc,mk,hj,hv,λp H1 np s1 hp=>?_⟩;have hx1:=s1 x _ hx;have hne:p≠x:=λz=>by rw[z,hx] at np;cases np
 walk_at "";obtain⟨ds,rs,e1,e2,_,_⟩:=Cc hc hj;subst e1 e2;obtain⟨k1,k3,k4⟩:=dS hc mk nj hv;exact q p _ _ np (AF.of s1).put (by rw[CJ]) ⟨by rw[upd_same,JE],look_ne hne hp,by rw[CJ];exact hz,by rw[CJ];exact k1,k4,k3⟩
abbrev sE(C:W4->qH)(CN:qH)(k:W4)(r:Int)(x dx a:qH)(cs:List Int)(ps:List Pc)(z:Pc)(c:Int)(H:Hp)(Q:VK)(E:XK):Prop:=(Bl ps (c+2) 1=[]->∀H',Same H H'->E (.ref CN) none H')/\(c+2<=cs.length->OkA C k x dx a cs ps (some z) (c+2) H Q)
def Q3(C:W4->qH)(CN:qH)(k:W4):Sp:=λvs H Q E=>∃(r:Int) (x dx a:qH) (cs:List Int) (ps:List Pc) (z:Pc) (c:Int),vs=[.ref x,.int (z.a+1),.int c,.int 1]/\StS C k x dx a r cs ps H/\z∈ps/\z.v=true/\1<=c/\sE C CN k r x dx a cs ps z c H Q E
variable (D_ask:MethFD P w K mg base (cF Ae Af Ad Ag) "ask" 8 ["self","count","bound"] [.int 1] (YC (cF Ae Af Ad Ag) Ar Ao))
variable (BJ:tE P w K mg base "carried" 1 ["cells","source","goal","count"] (Yr K))
variable (BK:AS P w K mg base (cF Ae Af Ad Ag) "give" 8 ["self","place"] [] (YD (cF Ae Af Ad Ag)))
include T Bh D_ask BJ BK in
theorem KK(F:Fun K "room_moved" "Keeper.room_moved" Et f₀ fd₀)(M:∀i,tF K ((cF Ae Af Ad Ag) i) "room_moved" f₀):AS P w K mg base (cF Ae Af Ad Ag) "room_moved" 9 ["self","place","count","bound"] [] (Q3 (cF Ae Af Ad Ag) Ao):=by
 refine AS.made (A5 F Fm (λcdv A outer s H vs Q E hr h=>?_)) M (F.binds JZ) (tH T);refine⟨_,(Ac (i_ 4 Fm (Cd D_ask.all Bx hr l_ (Aa mt (Aa m_ Ab)))) (Ac (B8 l_ (k_ BJ hr (Aa (AX l_ rfl) (Aa ld (Aa n_ (Aa (A9 (Zw rfl) (by rfl) T.n_min ix (Aa (Cd Bh BD hr l_ (Aa ld Ab)) (Aa mt Ab))) Ab))))) rfl) (Ac (BQ (Cd BK BD hr l_ (Aa ld Ab))) (Ah (An n_))))),?_⟩;walk_at "D";obtain⟨k,r,x,dx,a,cs,ps,z,c,rfl,S,hm,hv,h1,qn,q⟩:=h;have cl:=tH T k;have na:=ub T k;have hx:=S.hx;walk_at "";refine⟨r,x,dx,a,cs,ps,c,rfl,S,λh=>(by omega),λ_ hn H1 s1=>qn hn H1 s1,λ_ hcl w a1 r1 cs1 ps1 H1 ew lv na1 k1 l1 S1=>?_⟩;have q:=q hcl;have hzc:z∈ps1:=(lv.2.2 z hv).mpr (.inl ⟨hm,λe=>nomatch e⟩);have hwc:w∈ps1:=(lv.2.2 w lv.1).mpr (.inr rfl);have hwz:z≠w:=lv.2.1 z hm hv (λe=>nomatch e);have hz:=S1.hz;obtain⟨z1,z2,z3,z4⟩:=S1.hc.mem z hzc;have z3:=z3 hv;obtain⟨n1,n2,n3,n4⟩:=S1.hc.mem _ hwc;have hx1:=S1.hx;have ha1:=S1.ha;walk_at "";refine⟨_,x,dx,a1,cs1,ps1,z,rfl,S1,hzc,hv,λH2 s2=>?_⟩;have hx2:=s2 x _ hx1;have ha2:=s2 a1 _ ha1;walk_at "";have b1:(if c<z.l-2 then c else z.l-2)<=c:=by split <;> omega
 have b2:(if c<z.l-2 then c else z.l-2)<=z.l-2:=by split <;> omega
 have b3:0<=(if c<z.l-2 then c else z.l-2):=by split <;> omega
 generalize (if c<z.l-2 then c else z.l-2)=m at b1 b2 b3 ⊢;refine⟨a1,cs1,z.a+1,w.a+1,m,rfl,SqL.of ha2,hz,by omega,by omega,b3,by omega,by omega,λp H3 np s3 hp=>?_⟩;have hx3:=s3 x _ hx2;have hne:p≠x:=λz=>by rw[z,hx2] at np;cases np
 have lc:(tK cs1 (z.a+1).toNat (w.a+1).toNat m.toNat).length=cs1.length:=QG (by omega) (by omega);have mc:=eY (s:=(z.a+1).toNat) (c:=m.toNat) S1.hc rfl S1.mm hwc lv.1 (by omega) (show (m.toNat:Int)<=w.l-2 by omega);have mc:AH (tK cs1 (z.a+1).toNat (w.a+1).toNat m.toNat) ps1:=mc;walk_at "";generalize hH:upd H3 x _=H4;have S4:StS (cF Ae Af Ad Ag) k x dx p r1 (tK cs1 (z.a+1).toNat (w.a+1).toNat m.toNat) ps1 H4:=⟨by rw[<-hH,upd_same,JE],by rw[<-hH];exact look_ne hne hp,by rw[lc];exact hz,by rw[lc];exact S1.hc,mc,S1.nj⟩
 have k4:AF x H H4:=by rw[<-hH];exact(k1.trans (AF.of (s2.trans s3))).put
 have hx4:=S4.hx;walk_at "";refine⟨_,x,dx,p,_,_,z,rfl,S4,hzc,hv,λa' cs' H5 na5 k5 l5 S5=>?_⟩;walk_at "";exact q w a' _ cs' _ H5 ew (nG S4.hc lv hm hv) (k4.free S4.hx na5) (k4.trans k5) (by omega) S5
abbrev sF(C:W4->qH)(CA CN:qH)(k:W4)(r:Int)(x dx a:qH)(cs:List Int)(ps:List Pc)(z:Pc)(c:Int)(H:Hp)(Q:VK)(E:XK):Prop:=(c<1->∀H',Same H H'->E (.ref CA) none H') /\ (1<=c->Bl ps (c+2) 1=[]->∀H',Same H H'->E (.ref CN) none H')/\(1<=c->c+2<=cs.length->OkA C k x dx a cs ps (some z) (c+2) H Q)
def YE(C:W4->qH)(CA CN:qH)(k:W4):Sp:=λvs H Q E=>∃(r:Int) (x dx a:qH) (cs:List Int) (ps:List Pc) (z:Pc) (c:Int),vs=[.ref x,.int (z.a+1),.int c,.int 1]/\StS C k x dx a r cs ps H/\z∈ps/\z.v=true/\sF C CA CN k r x dx a cs ps z c H Q E
variable (C7:AS P w K mg base (cF Ae Af Ad Ag) "room_moved" 9 ["self","place","count","bound"] [] (Q3 (cF Ae Af Ad Ag) Ao))
include T AK A7 Bg BF BI C7 in
theorem KL{T₀:qH}{tk₀:Tok}{tc₀:qG}{td₀:Option qH}{tn₀:Nat}{ts₀:Array (Option qG)}(F:FunD K "grow" "Stretches.grow" BZ (.ref T₀) f₀ fd₀)(LT:K.lookup T₀=some ⟨tc₀,td₀,.seq [.int 1 tk₀].toArray tn₀,ts₀⟩)(M:∀i,tF K ((cF Ae Af Ad Ag) i) "grow" f₀):MethFD P w K mg base (cF Ae Af Ad Ag) "grow" 10 ["self","place","count","bound"] [.int 1] (YE (cF Ae Af Ad Ag) Ar Ao):=by
 refine MethFD.made (fd:=fd₀) ?_ M (F.bindsA LT (J0 T₀ _)) (F.bindsD LT (J1 T₀ _)) (.cons ⟨tk₀,rfl⟩ .nil) (tH T);refine Ws F IJ (λvs H Q E h=>by obtain⟨_,h⟩:=h;revert h;walk_at "l") (λcdv A outer s H vs Q E hr h=>?_);refine⟨_,(Ac (Cs (k_ Bg hr (Aa (AX l_ rfl) (Aa (Ak Bw ld Aj) Ab))) (Ca rfl (AE (j_ 4 IJ) (AE (j_ 5 IJ) (AE (j_ 6 IJ) BN))))) (Ac (BQ (Fe BI hr (by rfl) (Aa mt (Aa m_ Ab)))) (Ac (i_ 7 IJ (Ak AN mt (BV (v:=.int 2) (by rfl) T.J6 ⟨_,rfl⟩))) (Ac (i_ 8 IJ (k_ BF hr (Aa (AX l_ rfl) (Aa (Ak AN n_ o_) Ab)))) (Ac (Az (PW.pt (CB (Ax Ib (Ak BB ld m_) Aj) (DC (Ax E8 (Ak AN n_ p_) (pv 8))))) (Ah (An (Cd C7 Bx hr l_ (Aa ld (Aa mt (Aa m_ Ab)))))) AA) (Ac (B8 l_ (k_ A7 hr (Aa (k_ AK hr (Aa (AX l_ rfl) (Aa n_ (Aa p_ (Aa Dx Ab))))) (Aa (Ak AN n_ p_) (Aa (pv 8) Ab)))) rfl) (Ah (An ld)))))))),?_⟩;walk_at "D";obtain⟨k,r,x,dx,a,cs,ps,y,c,rfl,S,hm,hv,qa,qn,q⟩:=h;have cl:=tH T k;have na:=ub T k;obtain⟨hx,ha,hz,hc,mk,nj⟩:=id S;walk_at "";refine⟨a,cs,ps,y,by rw[show y.a+1-1=y.a by omega],SqL.of ha,by omega,mk,hc,hm,hv,λt H1 s1 ht=>?_⟩;obtain⟨i,hi⟩:=aq hm;obtain⟨z0,z1,z3,z4⟩:=hc.mem y hm;obtain⟨f1,f2⟩:=Wt hc hi;have hx1:=s1 x _ hx;have ha1:=s1 a _ ha;have S1:=S.same s1;walk_at "";refine⟨c,1,rfl,λh=>qa (by omega) H1 s1,λh1 h2=>?_⟩;have qn:=qn h1;have q:=q h1;have mv:Q3 (cF Ae Af Ad Ag) Ao k [.ref x,.int (y.a+1),.int c,.int 1] H1 Q E:=⟨r,x,dx,a,cs,ps,y,c,rfl,S1,hm,hv,h1,λhn H2 s2=>qn hn H2 (s1.trans s2),λhcl w a' r' cs' ps' H2 ew lv na2 k2 l2 S2=>q hcl w a' r' cs' ps' H2 ew lv (s1.free na2) ((AF.of s1).trans k2) l2 S2⟩
 walk_at "";refine⟨a,cs,ps,i,y,rfl,SqL.of ha1,hc,mk,hi,?_⟩;walk_at "";refine AO (λh4=>?_) (λh4=>?_)
 . walk_at "";exact mv
 . walk_at "";refine⟨a,cs,y.a,c+2,true,rfl,SqL.of ha1,by omega,z0,by omega,by omega,λp H2 np s2 hp=>?_⟩;walk_at "";refine⟨p,_,_,_,rfl,SqL.of hp,by rw[Cp];omega,by omega,by omega,by rw[Cp];omega,λp2 H3 np2 s3 hp2=>?_⟩;have s13:=(s1.trans s2).trans s3;have hx3:=s13 x _ hx;have hne:p2≠x:=λz=>by rw[z,(s1.trans s2) x _ hx] at np2;cases np2
   walk_at "";obtain⟨ds,rs,e1,e2,_,_⟩:=Cc hc hi;subst e1 e2;obtain⟨k1,k3,k4⟩:=dU hc mk nj (show 3<=c+2 by omega) (by omega);exact q (by omega) ⟨y.a,c+2,true⟩ p2 r _ _ _ rfl (nH hc nj (by omega)) ((s1.trans s2).free np2) (AF.of s13).put (by rw[CJ,Cp]) ⟨by rw[upd_same,JE],look_ne hne hp2,by rw[CJ,Cp];exact hz,by rw[CJ,Cp];exact k1,k4,k3⟩
def Bz:W4->Str
 | .first=>"first"
 | .best=>"best"
 | .next=>"next"
 | .likes=>"likes"
theorem PD{C:W4->qH}{i:W4}{x dx a:qH}{H H1 H2:Hp}(n1:1<=n)(n2:n<=1200)(nx:H x=none)(s:Same H H1)(k:AF x H1 H2)(hx:H2 x=some (.ins (C i) dx (fsF i a 0)))(ha:H2 a=some (.lst ((Cq n).map V.int))):Same H H2/\StS C i x dx a 0 (Cq n) [⟨0,n,false⟩] H2:=by
 obtain⟨f1,f2⟩:=mV n1;have fl:=Ps (show 0<=n by omega);exact⟨λb o h=>k b o (λe=>by rw[e,nx] at h;cases h) (s b o h),⟨hx,ha,by omega,f1,f2,IA _⟩⟩
abbrev sH(C:W4->qH)(CN CS:qH)(wd:Str)(n:Int)(H:Hp)(Q:VK)(E:XK):Prop:=((∀i,wd≠Bz i)->∀H',Same H H'->E (.ref CN) none H')/\(∀i,wd=Bz i->n<1->∀H',Same H H'->E (.ref CS) none H') /\ (∀i,wd=Bz i->1<=n->∀(x dx a:qH) (H':Hp),H x=none->H a=none->Same H H'->StS C i x dx a 0 (Cq n) [⟨0,n,false⟩] H'->Q (.ref x) H')
def spOf(C:W4->qH)(CN CS:qH):Sp:=λvs H Q E=>∃(wd:Str) (n:Int),vs=[.str wd,.int n]/\n<=1200/\sH C CN CS wd n H Q E
variable (D_First:tL P w K mg base "First" Ae 3 ["self","size"] [] (ug Ae Aq))
variable (D_Best:tL P w K mg base "Best" Af 3 ["self","size"] [] (ug Af Aq))
variable (D_Next:tL P w K mg base "Next" Ad 4 ["self","size"] [] (uR Ad Aq))
variable (D_Likes:tL P w K mg base "Likes" Ag 3 ["self","size"] [] (ug Ag Aq))
include T D_First D_Best D_Next D_Likes in
theorem KM(S:Src K mg "stretches_of" OM):tE P w K mg base "stretches_of" 6 ["word","size"] (spOf (cF Ae Af Ad Ag) Av Aq):=by
 refine S.okx Gy Gz λf cdv A outer s H vs Q E hr h=>⟨_,(Ac (Az (Ax AZ l_ At) (Ah (An (Io D_First Bx hr (by rfl) (Aa ld Ab)))) AA) (Ac (Az (Ax AZ l_ At) (Ah (An (Io D_Best Bx hr (by rfl) (Aa ld Ab)))) AA) (Ac (Az (Ax AZ l_ At) (Ah (An (Io D_Next Bx hr (by rfl) (Aa ld Ab)))) AA) (Ac (Az (Ax AZ l_ At) (Ah (An (Io D_Likes Bx hr (by rfl) (Aa ld Ab)))) AA) (Ah (Fd T.iJ rfl (Aa At Ab))))))),?_⟩;walk_at "D";obtain⟨wd,n,rfl,h4,qn,qs,q⟩:=h;walk_at "";refine AO (λh_first=>?_) (λh_first=>?_)
 . walk_at "";intro x dx nx ndx nex;have s6:Same H (upd (upd H dx (.own x)) x (.ins Ae dx [])):=(Same.new ndx).put nx;refine⟨x,dx,n,rfl,upd_same,by omega,λhn=>qs W4.first h_first hn _ s6,λh1 a H7 na7 k7 hx7 ha7=>⟨rfl,?_⟩⟩;obtain⟨s7,S7⟩:=PD (C:=(cF Ae Af Ad Ag)) (i:=W4.first) h1 h4 nx s6 k7 hx7 ha7;walk_at "";exact q W4.first h_first h1 x dx a H7 nx (s6.free na7) s7 S7
 walk_at "";refine AO (λh_best=>?_) (λh_best=>?_)
 . walk_at "";intro x dx nx ndx nex;have s6:Same H (upd (upd H dx (.own x)) x (.ins Af dx [])):=(Same.new ndx).put nx;refine⟨x,dx,n,rfl,upd_same,by omega,λhn=>qs W4.best h_best hn _ s6,λh1 a H7 na7 k7 hx7 ha7=>⟨rfl,?_⟩⟩;obtain⟨s7,S7⟩:=PD (C:=(cF Ae Af Ad Ag)) (i:=W4.best) h1 h4 nx s6 k7 hx7 ha7;walk_at "";exact q W4.best h_best h1 x dx a H7 nx (s6.free na7) s7 S7
 walk_at "";refine AO (λh_next=>?_) (λh_next=>?_)
 . walk_at "";intro x dx nx ndx nex;have s6:Same H (upd (upd H dx (.own x)) x (.ins Ad dx [])):=(Same.new ndx).put nx;refine⟨x,dx,n,rfl,upd_same,by omega,λhn=>qs W4.next h_next hn _ s6,λh1 a H7 na7 k7 hx7 ha7=>⟨rfl,?_⟩⟩;obtain⟨s7,S7⟩:=PD (C:=(cF Ae Af Ad Ag)) (i:=W4.next) h1 h4 nx s6 k7 hx7 ha7;walk_at "";exact q W4.next h_next h1 x dx a H7 nx (s6.free na7) s7 S7
 walk_at "";refine AO (λh_likes=>?_) (λh_likes=>?_)
 . walk_at "";intro x dx nx ndx nex;have s6:Same H (upd (upd H dx (.own x)) x (.ins Ag dx [])):=(Same.new ndx).put nx;refine⟨x,dx,n,rfl,upd_same,by omega,λhn=>qs W4.likes h_likes hn _ s6,λh1 a H7 na7 k7 hx7 ha7=>⟨rfl,?_⟩⟩;obtain⟨s7,S7⟩:=PD (C:=(cF Ae Af Ad Ag)) (i:=W4.likes) h1 h4 nx s6 k7 hx7 ha7;walk_at "";exact q W4.likes h_likes h1 x dx a H7 nx (s6.free na7) s7 S7
 walk_at "";refine qn (λi e=>?_) _ (Same.refl _);cases i
 . exact h_first e
 . exact h_best e
 . exact h_next e
 . exact h_likes e
abbrev sI(b:qH)(us:List V)(ps:List Pc)(H:Hp)(Q:VK):Prop:=∀(p:qH) (ws:List V) (H':Hp),H p=none->Same H H'->H' p=some (.lst ws)->AY H' ws ((plF ps).1.map pr)->Q (.ref p) H'
def YF:Sp:=λvs H Q _=>∃(b:qH) (us:List V) (ps:List Pc),vs=[.ref b]/\H b=some (.lst us)/\AJ H us ps/\ps.length<=3000/\sI b us ps H Q
def StW(b p:qH)(ps:List Pc)(H:Hp)(i:Nat)(σ:L2.St)(H':Hp):Prop :=
 ∃(ws:List V) (x2 x3 x4:Option V),σ=[some (.ref b),some (.ref p),x2,x3,x4]/\Same H H'/\H' p=some (.lst ws)/\AY H' ws ((plF (ps.take i)).1.map pr)
include T in
theorem KN(S:Src K mg "starts_of" OD):tE P w K mg base "starts_of" 1 ["pieces"] (YF):=by
 refine S.okx JK Gn λf cdv A outer s H vs Q E hr h=>⟨_,PSs.nox (Ac (i_ 1 JK (Bk (Aa (Bs (Aa Aj (Aa Aj Ab))) Ab))) (Ac (DH ce rfl (BU l_) (Ca rfl (AE (j_ 2 JK) (AE (j_ 3 JK) (AE (j_ 4 JK) BN)))) (Ah (Az (CF n_ (λ_=>rfl)) (Ah (BQ (FL cn cj ck Fb ld (Aa (Bs (Aa (Ak AN mt m_) (Aa (Ak AN (AM DJ (AM Bf ld (FH FI Aj) (λ_ _=>rfl)) Aj (λ_ _=>rfl)) m_) Ab))) Ab)))) AA))) (Ah (An ld)))),?_⟩;walk_at "D";obtain⟨b,us,ps,rfl,hb,pa,hz,q⟩:=h;have hul:=pa.1;walk_at "";intro t0 ht0;walk_at "";intro p hp1;have s1:Same H (upd (upd H t0 (.tup [.int 0,.int 0])) p (.lst [.ref t0])):=(Same.new ht0).put ((Same.new ht0).free hp1);have hp:H p=none:=(Same.new ht0).free hp1;have hT0:upd (upd H t0 (.tup [.int 0,.int 0])) p (.lst [.ref t0]) t0=some (.tup [.int 0,.int 0]):=look_put hp1 upd_same;have hp0:upd (upd H t0 (.tup [.int 0,.int 0])) p (.lst [.ref t0]) p=some (.lst [.ref t0]):=upd_same;generalize upd (upd H t0 (.tup [.int 0,.int 0])) p (.lst [.ref t0])=H1 at s1 hT0 hp0 ⊢;walk_at "";refine⟨b,rfl,⟨_,SqL.of (s1 b _ hb)⟩,DI (K:=K) (a:=b) (xs:=us) (StW b p ps H) ⟨[.ref t0],none,none,none,rfl,s1,hp0,WW (us:=[]) (xs:=[]) AY.nil hT0⟩ (λi σ H2 _ ⟨_,_,_,_,_,s2,_⟩=>SqL.of (s2 b _ hb)) ?_ ?_⟩
 . rintro i y σ H2 hi ⟨ws,x2,x3,x4,rfl,s2,hp2,ta⟩;obtain⟨t,z,rfl,hz1,hT⟩:=Iz (pa.same s2) hi;have hst:=WY hz1;have hwl:=ta.1;rw[ε] at hwl;have hpl:=(JB (ps.take i)).1;rw[ag] at hpl;cases hv:z.v with
   | false =>
     rw[hv] at hT;walk_at "";refine⟨ws,_,_,_,rfl,s2,hp2,?_⟩;rw[hst];unfold stp;rw[hv,if_neg η];exact ta
   | true =>
     rw[hv] at hT;obtain⟨D,a0,eD⟩:=dG (ps.take i);have ta':=ta;rw[eD,ψ] at ta';obtain⟨ui,tl,rfl,hTl⟩:=dF (xs:=D.map pr) (x:=pr (a0,(plF (ps.take i)).2.2)) ta';unfold pr at hTl;dsimp only at hTl;walk_at "";refine Jt (SqL.of hp2) ?_;walk_at "";intro t2 ht2;walk_at "";refine⟨_,_,_,_,rfl,(s2.put (s2.free ht2)).put hp,upd_same,?_⟩;rw[hst];unfold stp;rw[hv,if_pos rfl];dsimp only;rw[ψ];exact ta.push hp2 ht2
 . rintro σ H2 ⟨ws,x2,x3,x4,rfl,s2,hp2,ta⟩;rw[af (by omega)] at ta;walk_at "";exact q p ws H2 hp s2 hp2 ta
abbrev sJ(b:qH)(us:List V)(ps:List Pc)(n:Int)(H:Hp)(Q:VK):Prop:=∀(p:qH) (ws:List V) (H':Hp),H p=none->Same H H'->H' p=some (.lst ws)->AY H' ws (((plF ps).2.1++[(n,(plF ps).2.2)]).map pr)->Q (.ref p) H'
def YG:Sp:=λvs H Q _=>∃(b:qH) (us:List V) (ps:List Pc) (n:Int),vs=[.ref b,.int n]/\H b=some (.lst us)/\AJ H us ps/\ps.length<=900/\sJ b us ps n H Q
def SoW(b p:qH)(n:Int)(ps:List Pc)(H:Hp)(i:Nat)(σ:L2.St)(H':Hp):Prop :=
 ∃(ws:List V) (x4 x5 x6:Option V),σ=[some (.ref b),some (.int n),some (.ref p),some (.int (plF (ps.take i)).2.2),x4,x5,x6]/\Same H H'/\H' p=some (.lst ws)/\AY H' ws ((plF (ps.take i)).2.1.map pr)
include T in
theorem KO(S:Src K mg "stops_of" OE):tE P w K mg base "stops_of" 1 ["pieces","count"] (YG):=by
 refine S.okx Go Gp λf cdv A outer s H vs Q E hr h=>⟨_,PSs.nox (Ac (i_ 2 Go (Bk Ab)) (Ac (i_ 3 Go Aj) (Ac (DH ce rfl (BU l_) (Ca rfl (AE (j_ 4 Go) (AE (j_ 5 Go) (AE (j_ 6 Go) BN)))) (Ah (Az (CF q_ (λ_=>rfl)) (Ac (BQ (FL cn cj ck Fb mt (Aa (Bs (Aa n_ (Aa m_ Ab))) Ab))) (Ah (i_ 3 Go (Ak AN m_ o_)))) AA))) (Ah (An (Ak Fc mt (Bk (Aa (Bs (Aa ld (Aa m_ Ab))) Ab)))))))),?_⟩;walk_at "D";obtain⟨b,us,ps,n,rfl,hb,pa,hz,q⟩:=h;have hul:=pa.1;walk_at "";intro p hp;walk_at "";refine⟨b,rfl,⟨_,SqL.of ((Same.new hp) b _ hb)⟩,DI (K:=K) (a:=b) (xs:=us) (SoW b p n ps H) ⟨[],none,none,none,rfl,Same.new hp,upd_same,AY.nil⟩ (λi σ H2 _ ⟨_,_,_,_,_,s2,_⟩=>SqL.of (s2 b _ hb)) ?_ ?_⟩
 . rintro i y σ H2 hi ⟨ws,x2,x3,x4,rfl,s2,hp2,ta⟩;obtain⟨t,z,rfl,hz1,hT⟩:=Iz (pa.same s2) hi;have hst:=WY hz1;have hwl:=ta.1;rw[ε] at hwl;have hpl:=(JB (ps.take i)).2;rw[ag] at hpl;cases hv:z.v with
   | false =>
     rw[hv] at hT;unfold stp at hst;rw[hv,if_neg η] at hst;walk_at "";exact⟨ws,_,_,_,by rw[hst],s2,hp2,by rw[hst];exact ta⟩
   | true =>
     rw[hv] at hT;unfold stp at hst;rw[hv,if_pos rfl] at hst;walk_at "";intro t2 ht2;walk_at "";refine⟨_,_,_,_,by rw[hst],(s2.put (s2.free ht2)).put hp,upd_same,?_⟩;rw[hst];dsimp only;rw[ψ];exact ta.push hp2 ht2
 . rintro σ H2 ⟨ws,x2,x3,x4,rfl,s2,hp2,ta⟩;rw[af (by omega)] at ta ⊢;have hwl:=ta.1;rw[ε] at hwl;have hpl:=(JB ps).2;walk_at "";intro t ht;walk_at "";intro l hl;have s3:Same H2 (upd (upd H2 t (.tup [.int n,.int (plF ps).2.2])) l (.lst [.ref t])):=(Same.new ht).put ((Same.new ht).free hl);have hT3:upd (upd H2 t (.tup [.int n,.int (plF ps).2.2])) l (.lst [.ref t]) t=some (.tup [.int n,.int (plF ps).2.2]):=look_put hl upd_same;have hl3:upd (upd H2 t (.tup [.int n,.int (plF ps).2.2])) l (.lst [.ref t]) l=some (.lst [.ref t]):=upd_same;generalize upd (upd H2 t (.tup [.int n,.int (plF ps).2.2])) l (.lst [.ref t])=H3 at s3 hT3 hl3 ⊢;refine r_cat (s3 p _ hp2) hl3 (gd (small1000 (by rw[aj];omega))) (λo ho=>?_);walk_at "";have s4:Same H (upd H3 o (.lst (ws++[.ref t]))):=(s2.trans s3).put ((s2.trans s3).free ho);refine q o _ _ ((s2.trans s3).free ho) s4 upd_same ?_;rw[ψ];exact WW (ta.same (s3.put (s3.free ho))) (look_put ho hT3)
abbrev sK(K:γ)(a:qH)(cs:List Int)(ps:List Pc)(nd:Int)(H:Hp)(Q:VK):Prop:=∀(v:V) (H':Hp),Same H H'->QC H' v (DM (plans nd ps cs.length))->Q v H'
def YH(K:γ):Sp:=λvs H Q _=>∃(a:qH) (cs:List Int) (ps:List Pc) (nd:Int),vs=[.ref a,.int nd]/\SqL K H a (cs.map V.int)/\cs.length<=4000/\BP cs 0=(ps,none)/\ps.length<=60/\sK K a cs ps nd H Q
def BoW(f0 f1 f2 f3:Option V)(p:qH)(nd:Int)(ss ts:List (Int×Int))(H0 H:Hp)(i:Nat)(σ:L2.St)(H':Hp):Prop :=
 ∃(ws:List V) (x5 x6 x7 x8 x9:Option V),σ=[f0,f1,f2,f3,some (.ref p),x5,x6,x7,x8,x9]/\Same H0 H'/\AF p H H'/\H' p=some (.lst ws)/\AY H' ws ((Cw nd (ss.take i) ts).map λx=>x.map V.int)
def BiW(f0 f1 f2 f3 f5 f6:Option V)(p:qH)(nd:Int)(s:Int×Int)(pre:List (List Int))(ts:List (Int×Int))(H0 H:Hp)(j:Nat)(σ:L2.St)(H':Hp):Prop :=
 ∃(ws:List V) (x7 x8 x9:Option V),σ=[f0,f1,f2,f3,some (.ref p),f5,f6,x7,x8,x9]/\Same H0 H'/\AF p H H'/\H' p=some (.lst ws)/\AY H' ws ((pre++ud nd s (ts.take j)).map λx=>x.map V.int)
variable (C8:tE P w K mg base "starts_of" 1 ["pieces"] (YF))
variable (C9:tE P w K mg base "stops_of" 1 ["pieces","count"] (YG))
include T Ay C8 C9 in
theorem KP(S:Src K mg "best_plan" OF):tE P w K mg base "best_plan" 5 ["cells","need"] (YH K):=by
 refine S.okx Ek Gq λf cdv A outer s H vs Q E hr h=>⟨_,PSs.nox (Ac (i_ 2 Ek (k_ Ay hr (Aa l_ Ab))) (Ac (i_ 3 Ek (k_ C9 hr (Aa mt (Aa (A9 DX (by rfl) T.n_len dw (Aa l_ Ab)) Ab)))) (Ac (i_ 4 Ek (Bk Ab)) (Ac (DH ce rfl (BU (k_ C8 hr (Aa mt Ab))) (Ca rfl (AE (j_ 5 Ek) (AE (j_ 6 Ek) BN))) (Ah (DH ce rfl (BU m_) (Ca rfl (AE (j_ 7 Ek) (AE (j_ 8 Ek) BN))) (Ac (i_ 9 Ek (Ak Bw (pv 8) q_)) (Ah (Az (PW.pt (Cr (Ax No o_ p_) (DB (Ax Np (Ak Bw (Ak Bw p_ o_) (pv 9)) ld)))) (Ah (BQ (FL cn cj ck Fb n_ (Aa (Bs (Aa (pv 9) (Aa o_ (Aa p_ Ab)))) Ab)))) AA)))))) (Ah (An (cU (dD rfl hr.units) (by rfl) T.n_min ix (Aa n_ Ab) (ZN Br vc)))))))),?_⟩;walk_at "D";obtain⟨a,cs,ps,nd,rfl,hS,hcz,hw,hps,q⟩:=h;walk_at "";refine⟨a,cs,rfl,hS,hcz,by rw[hw],λb us H1 nb s1 hb pa=>?_⟩;rw[hw] at pa;have hS1:=s1.seq hS;walk_at "";refine⟨b,us,ps,_,rfl,hb,pa,by omega,λl ts H2 nl s2 hl ta=>?_⟩;have hb2:=s2 b _ hb;have pa2:=pa.same s2;walk_at "";intro p hp;have s3:=Same.new (H:=H2) (o:=.lst []) hp;have hp3:upd H2 p (.lst []) p=some (.lst []):=upd_same;generalize upd H2 p (.lst [])=H3 at s3 hp3 ⊢;walk_at "";refine⟨b,us,ps,rfl,s3 b _ hb2,pa2.same s3,by omega,λk ss H4 nk s4 hk sa=>?_⟩;have hl4:=s4 l _ (s3 l _ hl);have ta4:=(ta.same s3).same s4;have hp4:=s4 p _ hp3;have np:H p=none:=(s1.trans s2).free hp;have s14:Same H H4:=((s1.trans s2).trans s3).trans s4;have hlp:l≠p:=λz=>by rw[z,hp] at hl;cases hl
 have hkp:k≠p:=λz=>by rw[z,hp3] at nk;cases nk
 have hsl:=(JB ps).1;have htl:=(JB ps).2;have q2:∀(v:V) (H':Hp),Same H H'->QC H' v (DM (Cw nd (plF ps).1 ((plF ps).2.1++[(((cs.length:Nat):Int),(plF ps).2.2)])))->Q v H':=q;have htl2:((plF ps).2.1++[(((cs.length:Nat):Int),(plF ps).2.2)]).length<=61:=by rw[π,aj];omega
 generalize (plF ps).2.1++[(((cs.length:Nat):Int),(plF ps).2.2)]=tt at q2 ta4 htl2;generalize (plF ps).1=st at q2 sa hsl;have sal:=sa.1;have tal:=ta4.1;rw[ε] at sal tal;clear q ta pa pa2 hb hb2 s1 s2 s3 s4 hS hS1 hl nb nl nk hp hp3;walk_at "";refine⟨k,rfl,⟨_,SqL.of hk⟩,DI (K:=K) (a:=k) (xs:=ss) (BoW (some (.ref a)) (some (.int nd)) (some (.ref b)) (some (.ref l)) p nd st tt H H4) ⟨[],none,none,none,none,none,rfl,s14,AF.refl,hp4,AY.nil⟩ (λi σ H2 _ ⟨_,_,_,_,_,_,_,_,s5,_⟩=>SqL.of (s5 k _ hkp hk)) ?_ ?_⟩
 . rintro i y σ H5 hi ⟨ws,x5,x6,x7,x8,x9,rfl,s5,k5,hp5,wa⟩;obtain⟨t,x,rfl,hx,hT⟩:=WX (k5.tups hp4 sa) hi;rw[Ψ] at hx;obtain⟨s0,hs0,rfl⟩:=ai.mp hx;unfold pr at hT;have hil:i<st.length:=(δ.mp hs0).1;have hpt:=dJ (nd:=nd) (ts:=tt) hs0;have hp1:(Cw nd (st.take i) tt).length<=3660:=by
     refine bp (Xa nd tt (st.take i)) (bp (Nat.mul_le_mul (show (st.take i).length<=60 by rw[ag];omega) htl2) (by decide))
   generalize Cw nd (st.take i) tt=pre at hpt hp1 wa;walk_at "";refine⟨l,rfl,⟨_,SqL.of (k5 l _ hlp hl4)⟩,DI (K:=K) (a:=l) (xs:=ts) (BiW (some (.ref a)) (some (.int nd)) (some (.ref b)) (some (.ref l)) (some (.int s0.1)) (some (.int s0.2)) p nd s0 pre tt H H4) ⟨ws,x7,x8,x9,rfl,s5,k5,hp5,by simpa [ud] using wa⟩ (λi σ H2 _ ⟨_,_,_,_,_,_,s6,_⟩=>SqL.of (s6 l _ hlp hl4)) ?_ ?_⟩
   . rintro j y σ H6 hj ⟨ws,x7,x8,x9,rfl,s6,k6,hp6,wa⟩;obtain⟨t2,x,rfl,hx,hT2⟩:=WX (k6.tups hp4 ta4) hj;rw[Ψ] at hx;obtain⟨t0,ht0,rfl⟩:=ai.mp hx;unfold pr at hT2;have hjl:j<tt.length:=(δ.mp ht0).1;have hrt:=dH (nd:=nd) (s:=s0) ht0;have hwl:=wa.1;have hrl:=W8 nd s0 (tt.take j);rw[ag] at hrl;rw[ε,π] at hwl;walk_at "";refine AO (λc1=>?_) (λc1=>?_)
     . walk_at "";refine AO (λc2=>?_) (λc2=>?_)
       . walk_at "";intro t3 ht3;walk_at "";refine⟨_,_,_,_,rfl,(s6.put (s6.free ht3)).put np,(k6.new ht3).put,upd_same,?_⟩;rw[hrt];unfold pl1;rw[if_pos ⟨c1,c2⟩,<-ak,ψ];exact wa.push hp6 ht3
       . walk_at "";refine⟨ws,_,_,_,rfl,s6,k6,hp6,?_⟩;rw[hrt];unfold pl1;rw[if_neg (λz=>c2 z.2)];simpa using wa
     . walk_at "";refine⟨ws,_,_,_,rfl,s6,k6,hp6,?_⟩;rw[hrt];unfold pl1;rw[if_neg (λz=>c1 z.1)];simpa using wa
   . rintro σ H6 ⟨ws,x7,x8,x9,rfl,s6,k6,hp6,wa⟩;rw[af (by omega),<-hpt] at wa;exact⟨ws,_,_,_,_,_,rfl,s6,k6,hp6,wa⟩
 . rintro σ H5 ⟨ws,x5,x6,x7,x8,x9,rfl,s5,k5,hp5,wa⟩;rw[af (by omega)] at wa;walk_at "";refine r_cbk ?_;walk_at "";refine⟨p,ws,.non,_,rfl,rfl,hp5,wa,λh0=>?_,λhn t _ ht=>?_⟩
   . walk_at "";refine q2 _ _ s5 ?_;rw[br.mp h0];rfl
   . walk_at "";exact q2 _ _ s5 (dN (us:=[]) hn ht)
abbrev sL(K:γ)(a:qH)(cs:List Int)(ps:List Pc)(S T:Int)(H:Hp)(Q:VK):Prop:=∀(p:qH) (H':Hp),H p=none->Same H H'->H' p=some (.lst ((A6 (uF S T cs ps).R (uF S T cs ps).g (T-(uF S T cs ps).g) false).map V.int))->Q (.ref p) H'
def YI(K:γ):Sp:=λvs H Q _=>∃(a:qH) (cs:List Int) (ps:List Pc) (S T:Int),vs=[.ref a,.int S,.int T]/\SqL K H a (cs.map V.int)/\cs.length<=1200/\BP cs 0=(ps,none)/\Ai 0 ps cs.length/\0<=S/\T<=cs.length/\(uF S T cs ps).g<T/\S<=(uF S T cs ps).g/\sL K a cs ps S T H Q
def DnW(a:qH)(S T:Int)(cs:List Int)(ps:List Pc)(H:Hp)(i:Nat)(σ:L2.St)(H':Hp):Prop :=
 ∃(r:qH) (e:Int) (x5 x6 x7:Option V),σ=[some (.ref a),some (.int S),some (.int T),some (.ref r),some (.int (uF S T cs (ps.take i)).g),x5,x6,x7]/\Same H H'/\H' r=some (.lst ((uF S T cs (ps.take i)).R.map V.int)) /\
   Ai 0 (ps.take i) e/\(uF S T cs (ps.take i)).R.length=cs.length/\S<=(uF S T cs (ps.take i)).g/\((uF S T cs (ps.take i)).g<=S\/(uF S T cs (ps.take i)).g<=e)
include T AK Ay BJ in
theorem KQ(S:Src K mg "moved_down" OG):tE P w K mg base "moved_down" 5 ["cells","start","stop"] (YI K):=by
 refine S.okx Fj Gr λf cdv A outer s H vs Q E hr h=>⟨_,PSs.nox (Ac (i_ 3 Fj (Fa Ij (by rfl) T.n_list cg (Aa l_ Ab))) (Ac (i_ 4 Fj ld) (Ac (DH ce rfl (BU (k_ Ay hr (Aa l_ Ab))) (Ca rfl (AE (j_ 5 Fj) (AE (j_ 6 Fj) (AE (j_ 7 Fj) BN)))) (Ah (Az (PW.pt (Cr (CF p_ (λ_=>rfl)) (Cr (Ax No ld o_) (DB (Ax Cb o_ mt))))) (Ac (i_ 3 Fj (k_ BJ hr (Aa m_ (Aa o_ (Aa n_ (Aa q_ Ab)))))) (Ah (i_ 4 Fj (Ak AN n_ q_)))) AA))) (Ah (An (k_ AK hr (Aa m_ (Aa n_ (Aa (Ak Bw mt n_) (Aa Dx Ab)))))))))),?_⟩;walk_at "D";obtain⟨a,cs,ps,S,T,rfl,hS,hcz,hw,hch,hS0,hTn,hgT,hSg,q⟩:=h;walk_at "";intro r hr;have s1:=Same.new (o:=.lst (cs.map V.int)) hr;have hr1:upd H r (.lst (cs.map V.int)) r=some (.lst (cs.map V.int)):=upd_same;generalize upd H r (.lst (cs.map V.int))=H1 at s1 hr1 ⊢;have hS1:=s1.seq hS;walk_at "";refine⟨a,cs,rfl,hS1,by omega,by rw[hw],λb us H2 nb s2 hb pa=>?_⟩;rw[hw] at pa;have pa:AJ H2 us ps:=pa;have hul:=pa.1;have hr2:=s2 r _ hr1;have s12:=s1.trans s2;walk_at "";refine⟨b,rfl,⟨_,SqL.of hb⟩,DI (K:=K) (a:=b) (xs:=us) (DnW a S T cs ps H2) ⟨r,0,none,none,none,rfl,Same.refl _,hr2,rfl,rfl,ba _,.inl (ba _)⟩ (λi σ H3 _ ⟨_,_,_,_,_,_,s3,_⟩=>SqL.of (s3 b _ hb)) ?_ ?_⟩
 . rintro i y σ H3 hi ⟨r,e,x5,x6,x7,rfl,s3,hr3,hce,hRl,hSg2,hge⟩;obtain⟨t,z,rfl,hz1,hT⟩:=Iz (pa.same s3) hi;obtain⟨z0,z1,z3,z4⟩:=hch.mem z (Δ hz1);obtain⟨ds,rs,e1,e2,c1,c2⟩:=Cc hch hz1;have eds:ps.take i=ds:=by rw[e1,<-e2,List.take_left'];rfl
   have eza:e=z.a:=N4 hce (by rw[eds];exact c1);subst eza;have hut:=dY (S:=S) (T:=T) (cs:=cs) hz1;have htk:ps.take (i+1)=ps.take i++[z]:=by rw[ap,hz1];rfl
   have hce2:Ai 0 (ps.take (i+1)) (z.a+z.l):=by rw[htk];exact Ai.snoc hce z1 z3
   have stay:∀(h:¬(z.v=true/\S<=z.a/\z.a<T)),(BR S T (uF S T cs (ps.take i)) z).R=(uF S T cs (ps.take i)).R/\(BR S T (uF S T cs (ps.take i)) z).g=(uF S T cs (ps.take i)).g:=λh=>by
     unfold BR
     split
     . exact⟨rfl,rfl⟩
     . rw[if_neg (λg=>h ⟨g.2,by omega,g.1⟩)];exact⟨rfl,rfl⟩
   walk_at "";refine BX (λhv=>?_) (λhv=>?_)
   . walk_at "";refine AO (λh1=>?_) (λh1=>?_)
     . walk_at "";refine AO (λh2=>?_) (λh2=>?_)
       . have eu:BR S T (uF S T cs (ps.take i)) z=⟨tK (uF S T cs (ps.take i)).R z.a.toNat (uF S T cs (ps.take i)).g.toNat z.l.toNat,(uF S T cs (ps.take i)).g+z.l,(uF S T cs (ps.take i)).tl++[(⟨(uF S T cs (ps.take i)).g,z.l,z.v⟩,z.a)]⟩:=by
           unfold BR;rw[if_neg (by omega),if_pos ⟨h2,hv⟩]
         rw[<-hut] at eu;generalize uF S T cs (ps.take i)=A at hr3 hRl hSg2 hge eu;walk_at "";refine⟨r,A.R,z.a,A.g,z.l,rfl,SqL.of hr3,by omega,by omega,by omega,by omega,by omega,by omega,λp H4 np s4 hp=>?_⟩;walk_at "";refine⟨p,z.a+z.l,_,_,_,by rw[eu],s3.trans s4,?_,hce2,?_,?_,?_⟩
         . rw[eu];exact hp
         . rw[eu];show (tK _ _ _ _).length=_;rw[QG (by omega) (by omega)];exact hRl
         . rw[eu];show S<=A.g+z.l;omega
         . rw[eu];right;show A.g+z.l<=z.a+z.l;omega
       . walk_at "";obtain⟨k1,k2⟩:=stay (λh=>by omega);rw[<-hut] at k1 k2;exact⟨r,z.a+z.l,_,_,_,by rw[k2],s3,by rw[k1];exact hr3,hce2,by rw[k1];exact hRl,by rw[k2];exact hSg2,by rw[k2];omega⟩
     . walk_at "";obtain⟨k1,k2⟩:=stay (λh=>by omega);rw[<-hut] at k1 k2;exact⟨r,z.a+z.l,_,_,_,by rw[k2],s3,by rw[k1];exact hr3,hce2,by rw[k1];exact hRl,by rw[k2];exact hSg2,by rw[k2];omega⟩
   . walk_at "";obtain⟨k1,k2⟩:=stay (λh=>by rw[hv] at h;cases h.1);rw[<-hut] at k1 k2;exact⟨r,z.a+z.l,_,_,_,by rw[k2],s3,by rw[k1];exact hr3,hce2,by rw[k1];exact hRl,by rw[k2];exact hSg2,by rw[k2];omega⟩
 . rintro σ H3 ⟨r,e,x5,x6,x7,rfl,s3,hr3,hce,hRl,hSg2,hge⟩;rw[af (by omega)] at hr3 hRl ⊢;walk_at "";refine⟨r,_,_,_,false,rfl,SqL.of hr3,by omega,by omega,by omega,by omega,λp H4 np s4 hp=>?_⟩;walk_at "";exact q p H4 ((s12.trans s3).free np) ((s12.trans s3).trans s4) hp
abbrev sM(K:γ)(CA CR:qH)(a:qH)(cs:List Int)(ps:List Pc)(nd:Int)(H:Hp)(Q:VK)(E:XK):Prop:=(nd<1->∀(H':Hp),Same H H'->E (.ref CA) none H')/\(1<=nd->∀(H':Hp),Same H H'->E (.ref CR) none H') /\ (1<=nd->nd<=cs.length->∀(m:Int) (cs':List Int) (qs:List Pc) (t p:qH) (H':Hp),0<=m->(0<m->lvF ps≠[])->cs'.length=cs.length->Ai 0 qs cs.length->AH cs' qs->(lvF qs).map (·.l)=(lvF ps).map (·.l)->(∃w∈qs,w.v=false/\nd<=w.l) -> H p=none->Same H H'->H' p=some (.lst (cs'.map V.int))->H' t=some (.tup [.int m,.ref p])->Q (.ref t) H')
def YJ(K:γ)(CA CR:qH):Sp:=λvs H Q E=>∃(a:qH) (cs:List Int) (ps:List Pc) (nd:Int),vs=[.ref a,.int nd]/\SqL K H a (cs.map V.int)/\cs.length<=1200/\Ai 0 ps cs.length/\AH cs ps/\ps.length<=60/\sM K CA CR a cs ps nd H Q E
theorem YK:∀(M:List Pc) (k:Int),(∀z∈M,1<=z.l)->k<=M.foldl (λh z=>if z.v=true then h+z.l else h) k
 | [],k,_=>ba _
 | y::r,k,h=>by
   have:=h y Ξ
   refine Int.le_trans ?_ (YK r _ λz hz=>h z (ι _ hz))
   show k<=if y.v=true then k+y.l else k
   split <;> omega
theorem YL:∀(M:List Pc) (k:Int),lvF M=[]->M.foldl (λh z=>if z.v=true then h+z.l else h) k=k
 | [],k,_=>rfl
 | y::r,k,h=>by
   have hy:y.v≠true:=λe=>by
     have:y∈lvF (y::r):=Ce.mpr ⟨Ξ,e⟩
     rw[h] at this
     cases this
   rw[bi,if_neg hy]
   refine YL r k ?_
   unfold lvF at h ⊢
   rwa [List.filter_cons_of_neg hy] at h
variable (Da:tE P w K mg base "best_plan" 5 ["cells","need"] (YH K))
variable (Db:tE P w K mg base "moved_down" 5 ["cells","start","stop"] (YI K))
include T Da Db in
theorem KR(S:Src K mg "gathered" OH):tE P w K mg base "gathered" 6 ["cells","need"] (YJ K Ar Ao):=by
 refine S.okx JL Gs λf cdv A outer s H vs Q E hr h=>⟨_,(Ac (Az (Ax Cb ld Aj) (Ah (Fd T.X8 rfl (Aa At Ab))) AA) (Ac (i_ 2 JL (k_ Da hr (Aa l_ (Aa ld Ab)))) (Ac (Az (Ax FJ mt Br) (Ah (Fd T.X9 rfl (Aa At Ab))) AA) (Ac (Cs mt (Ca rfl (AE (j_ 3 JL) (AE (j_ 4 JL) (AE (j_ 5 JL) BN))))) (Ah (An (Bs (Aa m_ (Aa (k_ Db hr (Aa l_ (Aa n_ (Aa o_ Ab)))) Ab))))))))),?_⟩;walk_at "D";obtain⟨a,cs,ps,nd,rfl,hS,hcz,hch,hmk,hps,qa,qr,q⟩:=h;have hw:=DK hch hmk;walk_at "";refine AO (λh1=>?_) (λh1=>?_)
 . walk_at "";exact qa h1 _ (Same.refl _)
 . walk_at "";refine⟨a,cs,ps,nd,rfl,hS,by omega,hw,hps,λv H1 s1 pv=>?_⟩;have hS1:=s1.seq hS;cases hb:DM (plans nd ps cs.length) with
   | none =>
     rw[hb] at pv;have pv:v = .non:=pv;subst pv;walk_at "";exact qr (by omega) _ s1
   | some x =>
     rw[hb] at pv;obtain⟨t,rfl,ht⟩:=pv;have hx3:=dM (Xb hb)
     match x,hx3 with
     | [m,S,T],_ =>
       obtain⟨A,M,B,eps,c1,c2,c3,hnd,hST,hm⟩:=eE hch (Xb hb);have hg:(uF S T cs ps).g=S+m:=by rw[eps,eG c1 c2 c3,hm]
       have l1:=c1.le;have l3:=c3.le;have hm0:0<=m:=by rw[<-hm];exact YK M 0 λz hz=>(c2.mem z hz).2.1
       have hlv:0<m->lvF ps≠[]:=λh e=>by
         rw[eps,CL,CL] at e;have e1:=(ku.mp (ku.mp e).1).2;rw[YL M 0 e1] at hm;omega
       have gl:=gK (by rw[<-eps];exact hmk) c1 c2 c3 (by rw[<-eps];omega);rw[<-eps,hg] at gl;have ht:H1 t=some (.tup [.int m,.int S,.int T]):=ht;walk_at "";refine⟨a,cs,ps,S,T,rfl,hS1,hcz,hw,hch,by omega,by omega,by omega,by omega,λp H2 np s2 hp=>?_⟩;walk_at "";intro t2 ht2;walk_at "";have s12:=s1.trans s2;obtain⟨R',qs,eR,g1,g2,g3,g4,g5⟩:=gl;rw[hg,<-eR] at hp;exact q (by omega) (by omega) m R' qs t2 p _ hm0 hlv g1 g2 g3 g4 ⟨_,g5,rfl,by show nd<=T-(S+m);omega⟩ (s1.free np) (s12.trans (Same.new ht2)) (look_put ht2 hp) upd_same
def FoW(H1:Hp)(ps:List Pc)(D:qH)(i:Nat)(ys:List V)(H2:Hp):Prop:=Same H1 H2/\H2 D=some (.lst ys)/\ys=(lvA (ps.take i)).map V.int
abbrev sN(TP:qH)(d b:qH)(kvs:List (Int×Int))(us:List V)(ps:List Pc)(H:Hp)(Q:VK):Prop:=∀(D:qH) (ms:List (Int×Int)) (H':Hp),H D=none->AF TP H H'->TbOk H' TP uk Fn->ms.Perm kvs->ms.Pairwise (λp q=>p.2<=q.2)->H' D=some (.dK (((ms.map (·.1)).zip (lvA ps)).map dkE))->Q (.ref D) H'
def YM(TP:qH):Sp:=λvs H Q _=>∃(d b:qH) (kvs:List (Int×Int)) (us:List V) (ps:List Pc),vs=[.ref d,.ref b]/\H d=some (.dK (kvs.map dkE))/\H b=some (.lst us)/\AJ H us ps/\kvs.length<64/\(kvs.map (·.1)).Nodup/\0<kvs.length/\kvs.length=(lvA ps).length/\ps.length<=900/\TbOk H TP uk Fn/\sN TP d b kvs us ps H Q
include T in
theorem KS(S:SrcC K mg "followed" JN TC):tE P w K mg base "followed" 1 ["places","pieces"] (YM TP):=by
 refine S.okx X2 GA (λvs H Q E h=>by revert h;walk_at "l") (λf A outer s H vs Q E hr h=>?_);refine⟨_,PSs.nox (Ac (i_ 2 X2 (fR (i:=0) rfl hr T.lam rfl (by rfl) T.n_sorted rfl rfl)) (Ah (An (gB rfl (by rfl) T.n_dict (by rfl) T.n_zip (Aa mt (Aa (QA ["at","long","live"] rfl (BU ld) (λcl C s₀ H₀ ex=>(Iw (K:=K) (n:=3) rfl rfl (AE (AD (i:=0) (show ((["at","long","live"]:List Str)++([]:List Str)).Nodup by decide +kernel) rfl (υ rfl)) (AE (AD (i:=1) (show ((["at","long","live"]:List Str)++([]:List Str)).Nodup by decide +kernel) rfl (υ rfl)) (AE (AD (i:=2) (show ((["at","long","live"]:List Str)++([]:List Str)).Nodup by decide +kernel) rfl (υ rfl)) BN))))) (λcl C s₀ H₀ ex=>(NC (Qz (K:=K) rfl mt (λ_=>rfl)))) (λcl C s₀ H₀ ex=>(Ak AN l_ Aj)) ) Ab)))))),?_⟩;walk_at "D";obtain⟨d,b,kvs,us,ps,rfl,hd,hb,pa,hk,nd,h0,hlen,hz,tb,q⟩:=h;have hul:=pa.1;have hbP:b≠TP:=λe=>by
   obtain⟨_,e2,_⟩:=tb;rw[<-e,hb] at e2;cases e2
 walk_at "";refine fP ⟨d,kvs,rfl,hd,hk,nd,tb,λD ms H1 nD k1 tb1 hD pm sm=>?_⟩;have hb1:=k1 b _ hbP hb;have pa1:AJ H1 us ps:=pa.mono λc xs e=>k1 c _ (λz=>by
   obtain⟨_,e2,_⟩:=tb;rw[<-z,e] at e2;cases e2) e
 walk_at "";refine fZ ?_;walk_at "";refine⟨b,rfl,⟨_,SqL.of hb1⟩,Ei (K:=K) (a:=b) (xs:=us) (fs:=[]) (FoW H1 ps) (λD hD=>⟨Same.new hD,upd_same,rfl⟩) (λD i ys H2 _ h=>SqL.of (h.1 b _ hb1)) ?_ ?_⟩
 . rintro E i y ys H2 hE hi ⟨s2,hE2,hy⟩ τ hτ;have hil:i<us.length:=(δ.mp hi).1;obtain⟨t,w,rfl,hw1,hT⟩:=Iz (pa1.same s2) hi;have hfl:lvA (ps.take (i+1))=lvA (ps.take i)++(if w.v=true then [w.a+1] else []):=by
     rw[ap,hw1];unfold lvA;rw[CL,ψ]
     congr 1
     unfold lvF;cases hv:w.v <;> simp [hv]
   have hyl:ys.length<=i:=by
     rw[hy,ε];refine bp (Q2 _) ?_;rw[ag];omega
   obtain⟨τ0,τ1,τ2,rfl⟩:=a_ hτ
   walk_at "";refine⟨⟨[_,_,_],rfl,rfl⟩,?_⟩;walk_at "";refine BX (λhv=>?_) (λhv=>?_)
   . rw[if_pos hv] at hfl;walk_at "";refine⟨hE2,small4000 (by omega),Cv hil ⟨s2.put hE,upd_same,?_⟩⟩;rw[hfl,ψ,<-hy];rfl
   . rw[if_neg (by rw[hv];exact η),bg] at hfl;exact Cv hil ⟨s2,hE2,by rw[hfl];exact hy⟩
 . rintro E ys H2 hE ⟨s2,hE2,hy⟩;rw[af (by omega)] at hy;subst hy;have pl:=pm.length_eq;walk_at "";refine⟨D,E,ms.map (·.1),lvA ps,rfl,s2 D _ hD,hE2,(pm.map _).nodup_iff.mpr nd,by rw[ε];omega,by rw[ε];omega,by rw[ε];omega,λD2 hD2=>?_⟩;walk_at "";have n2:=s2.free hD2;refine q D2 ms _ ?_ (λc o hc hs=>look_put hD2 (s2 c o (k1 c o hc hs))) ((tb1.same s2).same (Same.new hD2)) pm sm upd_same;cases e:H D2 with
   | none=>rfl
   | some o =>
     by_cases z:D2=TP
     . obtain⟨_,e2,_⟩:=tb1;rw[z,e2] at n2;cases n2
     . rw[k1 D2 o z e] at n2;cases n2
/-! ### the desk -/
structure WnI(C:W4->qH)(CH TP:qH)(F:Hp)(y dy x dx d a:qH)(i:W4)(r n:Int)(kvs:List (Int×Int))(cs:List Int)(ps:List Pc)(Hs:Int->Option Pc)(H:Hp):Prop where
 hy:H y=some (.ins CH dy [("keeper",.ref x),("places",.ref d),("coming",.int n)])
 S:StS C i x dx a r cs ps H
 hd:H d=some (.dK (kvs.map dkE))
 ow:Ow kvs ps Hs
 tb:TbOk H TP uk Fn
 z:cs.length<=60
 hn:∀h z,Hs h=some z->0<=h/\h<n
 n0:0<=n
 kp:∀b o,F b=some o->H b=some o/\b≠y/\b≠x/\b≠d/\b≠a/\b≠TP
def Wn(C:W4->qH)(CH TP:qH)(F:Hp)(y:qH)(n:Int)(cs:List Int)(ps:List Pc)(Hs:Int->Option Pc)(H:Hp):Prop:=∃dy x dx d a i r kvs,WnI C CH TP F y dy x dx d a i r n kvs cs ps Hs H
section
variable {C:W4->qH}{CH TP:qH}{F:Hp}{y dy x dx d a:qH}{i:W4}{r n:Int}{kvs:List (Int×Int)}{cs:List Int}{ps:List Pc}{Hs:Int->Option Pc}{H H':Hp}
theorem WnI.same(w:WnI C CH TP F y dy x dx d a i r n kvs cs ps Hs H)(s:Same H H'):WnI C CH TP F y dy x dx d a i r n kvs cs ps Hs H':=⟨s y _ w.hy,w.S.same s,s d _ w.hd,w.ow,w.tb.same s,w.z,w.hn,w.n0,λb o h=>⟨s b o (w.kp b o h).1,(w.kp b o h).2⟩⟩
theorem Wn.same(w:Wn C CH TP F y n cs ps Hs H)(s:Same H H'):Wn C CH TP F y n cs ps Hs H':=let ⟨dy,x,dx,d,a,i,r,kvs,w⟩:=w;⟨dy,x,dx,d,a,i,r,kvs,w.same s⟩
theorem WnI.len(w:WnI C CH TP F y dy x dx d a i r n kvs cs ps Hs H):kvs.length<=60/\ps.length<=60:=by
 have h1:=w.S.hc.le;have h2:=w.z;have h3:=w.ow.len w.S.hc;have h4:=Q2 ps;omega
theorem WnI.yx(w:WnI C CH TP F y dy x dx d a i r n kvs cs ps Hs H):y≠x:=λe=>by
 have h1:=w.hy;rw[e,w.S.hx] at h1
 injection h1 with h1
 injection h1 with _ _ h1
 have h2:=congrArg jb h1;cases i <;> simp [fsF] at h2
theorem WnI.yd(w:WnI C CH TP F y dy x dx d a i r n kvs cs ps Hs H):y≠d:=λe=>by
 have:=w.hy;rw[e,w.hd] at this;cases this
theorem WnI.ya(w:WnI C CH TP F y dy x dx d a i r n kvs cs ps Hs H):y≠a:=λe=>by
 have:=w.hy;rw[e,w.S.ha] at this;cases this
theorem WnI.xd(w:WnI C CH TP F y dy x dx d a i r n kvs cs ps Hs H):x≠d:=λe=>by
 have:=w.S.hx;rw[e,w.hd] at this;cases this
theorem WnI.ad(w:WnI C CH TP F y dy x dx d a i r n kvs cs ps Hs H):a≠d:=λe=>by
 have:=w.S.ha;rw[e,w.hd] at this;cases this
theorem WnI.none(w:WnI C CH TP F y dy x dx d a i r n kvs cs ps Hs H){h:Int}(e:Hs h = .none):tM (kvs.map dkE) (.inl h) = .none:=by rw[D8,w.ow.lk,e];rfl
theorem WnI.some(w:WnI C CH TP F y dy x dx d a i r n kvs cs ps Hs H){h:Int}{z:Pc}(e:Hs h = .some z):tM (kvs.map dkE) (.inl h) = .some (.int (z.a+1)):=by rw[D8,w.ow.lk,e];rfl
theorem WnI.step(w:WnI C CH TP F y dy x dx d a i r n kvs cs ps Hs H){a':qH}{r':Int}{cs':List Int}{ps':List Pc}(k:AF x H H')(na:H a' = .none)(S:StS C i x dx a' r' cs' ps' H'):
   H' y = .some (.ins CH dy [("keeper",.ref x),("places",.ref d),("coming",.int n)])/\H' d = .some (.dK (kvs.map dkE))/\TbOk H' TP uk Fn/\∀b o,F b = .some o->H' b = .some o/\b≠y/\b≠x/\b≠d/\b≠a'/\b≠TP :=
 ⟨k y _ w.yx w.hy,k d _ (bd w.xd) w.hd,w.tb.keepX w.S.hx rfl k,λb o e=>by
   obtain⟨h1,h2,h3,h4,_,h6⟩:=w.kp b o e
   exact⟨k b o h3 h1,h2,h3,h4,(λz=>by rw[z,na] at h1;cases h1),h6⟩⟩
theorem Wn.putF{b:qH}{o o':HO}(w:Wn C CH TP F y n cs ps Hs H)(hb:F b = .some o)(po:N9 o=true):Wn C CH TP (upd F b o') y n cs ps Hs (upd H b o'):=by
 obtain⟨dy,x,dx,d,a,i,r,kvs,w⟩:=w;obtain⟨h1,h2,h3,h4,h5,h6⟩:=w.kp b o hb;refine⟨dy,x,dx,d,a,i,r,kvs,look_ne (bd h2) w.hy,⟨look_ne (bd h3) w.S.hx,look_ne (bd h5) w.S.ha,w.S.hz,w.S.hc,w.S.mm,w.S.nj⟩,look_ne (bd h4) w.hd,w.ow,w.tb.keep λc u hc hu=>look_ne (λe=>by rw[e,h1] at hc;cases hc;rw[po] at hu;cases hu) hc,w.z,w.hn,w.n0,λc u hc=>?_⟩;by_cases e:c=b
 . subst e;rw[upd_same] at hc;cases hc;exact⟨upd_same,h2,h3,h4,h5,h6⟩
 . rw[AC e] at hc;obtain⟨g1,g2⟩:=w.kp c u hc;exact⟨look_ne e g1,g2⟩
theorem Wn.newF{b:qH}{o:HO}(w:Wn C CH TP F y n cs ps Hs H)(hb:H b = .none):Wn C CH TP (upd F b o) y n cs ps Hs (upd H b o):=by
 have w2:=w.same (Same.new (o:=o) hb);obtain⟨dy,x,dx,d,a,i,r,kvs,w1⟩:=w;have ne:∀{c:qH} {u:HO},H c = .some u->b≠c:=λh e=>by rw[<-e,hb] at h;cases h
 have w3:=w1.same (Same.new (o:=o) hb);refine⟨dy,x,dx,d,a,i,r,kvs,w3.hy,w3.S,w3.hd,w3.ow,w3.tb,w3.z,w3.hn,w3.n0,λc u hc=>?_⟩;by_cases e:c=b
 . subst e;rw[upd_same] at hc;cases hc;obtain⟨_,e2,_⟩:=w1.tb;exact⟨upd_same,ne w1.hy,ne w1.S.hx,ne w1.hd,ne w1.S.ha,ne e2⟩
 . rw[AC e] at hc;exact w3.kp c u hc
theorem Wn.less{F':Hp}(w:Wn C CH TP F y n cs ps Hs H)(h:∀b o,F' b = .some o->F b = .some o):Wn C CH TP F' y n cs ps Hs H:=let ⟨dy,x,dx,d,a,i,r,kvs,w⟩:=w;⟨dy,x,dx,d,a,i,r,kvs,w.hy,w.S,w.hd,w.ow,w.tb,w.z,w.hn,w.n0,λb o e=>w.kp b o (h b o e)⟩
end
abbrev sO(C:W4->qH)(CH TP:qH)(F:Hp)(y:qH)(n:Int)(cs:List Int)(ps:List Pc)(Hs:Int->Option Pc)(H:Hp)(Q:VK):Prop:=∀(p:qH) (H':Hp),H p=none->Same H H'->H' p=some (.lst (cs.map V.int))->Q (.ref p) H'
def YN(C:W4->qH)(CH TP:qH):Sp:=λvs H Q _=>∃(F:Hp) (y:qH) (n:Int) (cs:List Int) (ps:List Pc) (Hs:Int->Option Pc),vs=[.ref y]/\Wn C CH TP F y n cs ps Hs H/\sO C CH TP F y n cs ps Hs H Q
variable (BL:AS P w K mg base (cF Ae Af Ad Ag) "cells" 1 ["self"] [] (Yu (cF Ae Af Ad Ag)))
include T BL in
theorem KU(F:Fun K "cells" "Handles.cells" Pe f₀ fd₀)(M:tF K Y4 "cells" f₀):Methx P w K mg base Y4 "cells" 2 ["self"] [] (YN (cF Ae Af Ad Ag) Y4 TP):=by
 refine⟨⟨f₀,fd₀,[],A5 F Hb (λcdv A outer s H vs Q E hr h=>?_),M,F.binds Hc,.nil⟩,T.BS⟩;refine⟨_,PSs.nox (Ah (An (QI BL BD hr (AX l_ rfl)))),?_⟩;walk_at "D";obtain⟨F,y,n,cs,ps,Hs,rfl,⟨dy,x,dx,d,a,i,r,kvs,w⟩,q⟩:=h;have clH:=T.BS;have nk:=T.Ev;have hy:=w.hy;have hx:=w.S.hx;walk_at "";exact⟨r,x,dx,a,cs,rfl,w.S.hx,w.S.ha,q⟩
abbrev sP(C:W4->qH)(CH TP:qH)(F:Hp)(y:qH)(n:Int)(cs:List Int)(ps:List Pc)(Hs:Int->Option Pc)(H:Hp)(Q:VK):Prop:=∀(p:qH) (ms:List Int) (H':Hp),H p=none->Same H H'->ms.Pairwise (·<·)->(∀h,h∈ms↔∃z,Hs h=some z)->H' p=some (.lst (ms.map V.int))->Q (.ref p) H'
def YO(C:W4->qH)(CH TP:qH):Sp:=λvs H Q _=>∃(F:Hp) (y:qH) (n:Int) (cs:List Int) (ps:List Pc) (Hs:Int->Option Pc),vs=[.ref y]/\Wn C CH TP F y n cs ps Hs H/\sP C CH TP F y n cs ps Hs H Q
include T in
theorem KW(F:Fun K "handles" "Handles.handles" Eu f₀ fd₀)(M:tF K Y4 "handles" f₀):Methx P w K mg base Y4 "handles" 1 ["self"] [] (YO (cF Ae Af Ad Ag) Y4 TP):=by
 refine⟨⟨f₀,fd₀,[],A5 F J3 (λcdv A outer s H vs Q E hr h=>?_),M,F.binds J5,.nil⟩,T.BS⟩;refine⟨_,PSs.nox (Ah (An (A9 (QJ rfl) (by rfl) T.n_sorted gi (Aa (AX l_ rfl) Ab)))),?_⟩;obtain⟨F,y,n,cs,ps,Hs,rfl,⟨dy,x,dx,d,a,i,r,kvs,w⟩,q⟩:=h;have clH:=T.BS;have nk:=T.Hu;have hy:=w.hy;have hl:=w.len;walk_at "";refine⟨d,kvs,rfl,w.hd,by omega,λD ms hD pm sm=>?_⟩;walk_at "";exact q D ms _ hD (Same.new hD) (IE sm (pm.nodup_iff.mpr w.ow.nd)) (λh=>by rw[pm.mem_iff];exact w.ow.key) upd_same
theorem Q4{ty td:TE}{σ:L2.St}{H:Hp}{Q:VK}(h:ty σ H λy H1=>td σ H1 λx H2=>∃a o,x = .ref a/\DGet H2 a y o/\Q (.bl (!o.isSome)) H2):WH ty td σ H Q:=h
def Q5(C:W4->qH)(CH TP CX:qH):Sp:=λvs H Q E=>∃(F:Hp) (y:qH) (n:Int) (cs:List Int) (ps:List Pc) (Hs:Int->Option Pc) (h:Int),vs=[.ref y,.int h]/\Wn C CH TP F y n cs ps Hs H/\(Hs h=none->E (.ref CX) none H)/\(∀z,Hs h=some z->Q (.int (z.a+1)) H)
include T in
theorem KY(F:Fun K "place" "Handles.place" Pf f₀ fd₀)(M:tF K Y4 "place" f₀):Methx P w K mg base Y4 "place" 1 ["self","handle"] [] (Q5 (cF Ae Af Ad Ag) Y4 TP Y2):=by
 refine⟨⟨f₀,fd₀,[],A5 F He (λcdv A outer s H vs Q E hr h=>?_),M,F.binds Hf,.nil⟩,T.BS⟩;refine⟨_,(Ac (Az (PV (WI (DA hr.units) ld (AX l_ rfl))) (Ah (Fd T.iL rfl (Aa At Ab))) AA) (Ah (An (Jx (DA hr.units) (AX l_ rfl) ld (λ_ _=>rfl))))),?_⟩;walk_at "D";obtain⟨F,y,n,cs,ps,Hs,h,rfl,⟨dy,x,dx,d,a,i,r,kvs,w⟩,qe,q⟩:=h;have clH:=T.BS;have nk:=T.Hu;have hy:=w.hy;cases e:Hs h with
 | none =>
   walk_at "";refine Q4 ?_;walk_at "";refine⟨d,_,rfl,DGet.k (k:=.inl h) w.hd,?_⟩;rw[w.none e];walk_at "";rw[if_neg (show ¬(none:Option V).isSome=true from η)];walk_at "";exact qe e
 | some z =>
   walk_at "";refine Q4 ?_;walk_at "";refine⟨d,_,rfl,DGet.k (k:=.inl h) w.hd,?_⟩;rw[w.some e];walk_at "";rw[if_pos (show (some (V.int (z.a+1))).isSome=true from rfl)];walk_at "";refine⟨d,_,rfl,by rw[<-w.some e];exact DGet.k (k:=.inl h) w.hd,?_⟩;walk_at "";exact q z e
abbrev sQ(C:W4->qH)(CH TP CX:qH)(F:Hp)(y:qH)(n:Int)(cs:List Int)(ps:List Pc)(Hs:Int->Option Pc)(h:Int)(H:Hp)(Q:VK)(E:XK):Prop:=(Hs h=none->E (.ref CX) none H)/\(∀z,Hs h=some z->∀H',Same H H'->Q (.int (z.l-2)) H')
def Q6(C:W4->qH)(CH TP CX:qH):Sp:=λvs H Q E=>∃(F:Hp) (y:qH) (n:Int) (cs:List Int) (ps:List Pc) (Hs:Int->Option Pc) (h:Int),vs=[.ref y,.int h]/\Wn C CH TP F y n cs ps Hs H/\sQ C CH TP CX F y n cs ps Hs h H Q E
variable (Aw:Methx P w K mg base Y4 "place" 1 ["self","handle"] [] (Q5 (cF Ae Af Ad Ag) Y4 TP Y2))
include T Bh Aw in
theorem KZ(F:Fun K "many" "Handles.many" Pg f₀ fd₀)(M:tF K Y4 "many" f₀):Methx P w K mg base Y4 "many" 8 ["self","handle"] [] (Q6 (cF Ae Af Ad Ag) Y4 TP Y2):=by
 refine⟨⟨f₀,fd₀,[],A5 F Hg (λcdv A outer s H vs Q E hr h=>?_),M,F.binds Hh,.nil⟩,T.BS⟩;refine⟨_,(Ah (An (Cd Bh BD hr (AX l_ rfl) (Aa (BY Aw Bx hr l_ (Aa ld Ab)) Ab)))),?_⟩;walk_at "D";obtain⟨F,y,n,cs,ps,Hs,h,rfl,W,qe,q⟩:=h;obtain⟨dy,x,dx,d,a,i,r,kvs,w⟩:=id W;have clH:=T.BS;have nk:=T.Ev;have hy:=w.hy;have hx:=w.S.hx;walk_at "";refine⟨F,y,n,cs,ps,Hs,h,rfl,W,qe,λz e=>?_⟩;obtain⟨hm,hv⟩:=w.ow.mem h z e;walk_at "";exact⟨r,x,dx,a,cs,ps,z,rfl,w.S,hm,hv,q z e⟩
abbrev sR(C:W4->qH)(CH TP CX CC:qH)(F:Hp)(y:qH)(n:Int)(cs:List Int)(ps:List Pc)(Hs:Int->Option Pc)(h j:Int)(H:Hp)(Q:VK)(E:XK):Prop:=(Hs h=none->E (.ref CX) none H)/\(∀z,Hs h=some z->(j<0\/z.l-2<=j->∀H',Same H H'->E (.ref CC) none H') /\ (0<=j->j<z.l-2->∀H',Same H H'->Q (.int (cs.getD (z.a+1+j).toNat 0)) H'))
def Q7(C:W4->qH)(CH TP CX CC:qH):Sp:=λvs H Q E=>∃(F:Hp) (y:qH) (n:Int) (cs:List Int) (ps:List Pc) (Hs:Int->Option Pc) (h j:Int),vs=[.ref y,.int h,.int j]/\Wn C CH TP F y n cs ps Hs H/\sR C CH TP CX CC F y n cs ps Hs h j H Q E
variable (D_get:AS P w K mg base (cF Ae Af Ad Ag) "get" 9 ["self","place","k"] [] (uU (cF Ae Af Ad Ag) Y9))
include T Aw D_get in
theorem K0(F:Fun K "get" "Handles.get" Ph f₀ fd₀)(M:tF K Y4 "get" f₀):Methx P w K mg base Y4 "get" 10 ["self","handle","k"] [] (Q7 (cF Ae Af Ad Ag) Y4 TP Y2 Y9):=by
 refine⟨⟨f₀,fd₀,[],A5 F Hi (λcdv A outer s H vs Q E hr h=>?_),M,F.binds Hj,.nil⟩,T.BS⟩;refine⟨_,(Ah (An (Cd D_get Bx hr (AX l_ rfl) (Aa (BY Aw Bx hr l_ (Aa ld Ab)) (Aa mt Ab))))),?_⟩;walk_at "D";obtain⟨F,y,n,cs,ps,Hs,h,j,rfl,W,qe,q⟩:=h;obtain⟨dy,x,dx,d,a,i,r,kvs,w⟩:=id W;have clH:=T.BS;have nk:=T.Ev;have hy:=w.hy;have hx:=w.S.hx;walk_at "";refine⟨F,y,n,cs,ps,Hs,h,rfl,W,qe,λz e=>?_⟩;obtain⟨hm,hv⟩:=w.ow.mem h z e;walk_at "";exact⟨r,x,dx,a,cs,ps,z,j,rfl,w.S,hm,hv,(q z e).1,(q z e).2⟩
abbrev sS(C:W4->qH)(CH TP CX CC:qH)(F:Hp)(y:qH)(n:Int)(cs:List Int)(ps:List Pc)(Hs:Int->Option Pc)(h j m:Int)(H:Hp)(Q:VK)(E:XK):Prop:=(Hs h=none->E (.ref CX) none H)/\(∀z,Hs h=some z->(j<0\/z.l-2<=j->∀H',Same H H'->E (.ref CC) none H') /\ (0<=j->j<z.l-2->∀H',Wn C CH TP F y n (cs.set (z.a+1+j).toNat m) ps Hs H'->Q .non H'))
def Q8(C:W4->qH)(CH TP CX CC:qH):Sp:=λvs H Q E=>∃(F:Hp) (y:qH) (n:Int) (cs:List Int) (ps:List Pc) (Hs:Int->Option Pc) (h j m:Int),vs=[.ref y,.int h,.int j,.int m]/\Wn C CH TP F y n cs ps Hs H/\sS C CH TP CX CC F y n cs ps Hs h j m H Q E
variable (D_put:AS P w K mg base (cF Ae Af Ad Ag) "put" 9 ["self","place","k","number"] [] (uQ (cF Ae Af Ad Ag) Y9))
include T Aw D_put in
theorem K1(F:Fun K "put" "Handles.put" Pi f₀ fd₀)(M:tF K Y4 "put" f₀):Methx P w K mg base Y4 "put" 10 ["self","handle","k","number"] [] (Q8 (cF Ae Af Ad Ag) Y4 TP Y2 Y9):=by
 refine⟨⟨f₀,fd₀,[],A5 F Hk (λcdv A outer s H vs Q E hr h=>?_),M,F.binds Hl,.nil⟩,T.BS⟩;refine⟨_,(Ah (BQ (Cd D_put Bx hr (AX l_ rfl) (Aa (BY Aw Bx hr l_ (Aa ld Ab)) (Aa mt (Aa m_ Ab)))))),?_⟩;walk_at "D";obtain⟨F,y,n,cs,ps,Hs,h,j,m,rfl,W,qe,q⟩:=h;obtain⟨dy,x,dx,d,a,i,r,kvs,w⟩:=id W;have clH:=T.BS;have nk:=T.Ev;have hy:=w.hy;have hx:=w.S.hx;walk_at "";refine⟨F,y,n,cs,ps,Hs,h,rfl,W,qe,λz e=>?_⟩;obtain⟨hm,hv⟩:=w.ow.mem h z e;walk_at "";refine⟨r,x,dx,a,cs,ps,z,j,m,rfl,w.S,hm,hv,(q z e).1,λh0 h1 H' k S'=>?_⟩;walk_at "";exact(q z e).2 h0 h1 H' ⟨dy,x,dx,d,a,i,r,kvs,k y _ w.ya w.hy,S',k d _ (bd w.ad) w.hd,w.ow,w.tb.keepX w.S.ha rfl k,by rw[eg];exact w.z,w.hn,w.n0,λb o hb=>⟨k b o (w.kp b o hb).2.2.2.2.1 (w.kp b o hb).1,(w.kp b o hb).2⟩⟩
section
variable {C:W4->qH}{CH TP:qH}{F:Hp}{y dy x dx d a:qH}{i:W4}{r n:Int}{kvs:List (Int×Int)}{cs:List Int}{ps:List Pc}{Hs:Int->Option Pc}{H H':Hp}
theorem WnI.putH(w:WnI C CH TP F y dy x dx d a i r n kvs cs ps Hs H){a':qH}{r':Int}{cs':List Int}{ps':List Pc}(k:AF x H H')(na:H a' = .none)(S:StS C i x dx a' r' cs' ps' H')(hl:cs'.length=cs.length)
   {h n':Int} {w':Pc} (lv:LvP ps ps' (Hs h) w') (h0:0<=h) (h1:h<n') (h2:n<=n') {H4:Hp} (hy4:H4 y = .some (.ins CH dy [("keeper",.ref x),("places",.ref d),("coming",.int n')]))
   (hd4:H4 d = .some (.dK (tX (kvs.map dkE) (.inl h) (.int (w'.a+1))))) (k4:∀b o,b≠y->b≠d->H' b = .some o->H4 b = .some o):
   Wn C CH TP F y n' cs' ps' (λk=>if k=h then .some w' else Hs k) H4:=by
 obtain⟨hy3,hd3,tb3,kp3⟩:=w.step k na S;have hxy:x≠y:=bd w.yx;have hay:a'≠y:=λe=>by rw[e,w.hy] at na;cases na
 have had:a'≠d:=λe=>by rw[e,w.hd] at na;cases na
 refine⟨dy,x,dx,d,a',i,r',tN kvs h (w'.a+1),hy4,⟨k4 x _ hxy w.xd S.hx,k4 a' _ hay had S.ha,S.hz,S.hc,S.mm,S.nj⟩,by rw[hd4,PB],w.ow.put lv.1 lv.2.1 lv.2.2,tb3.keep λb o hb ho=>k4 b o (λe=>by rw[e,hy3] at hb;cases hb;cases ho) (λe=>by rw[e,hd3] at hb;cases hb;cases ho) hb,by rw[hl];exact w.z,λk2 z e=>?_,by have:=w.n0;omega,λb o e=>?_⟩
 . try dsimp only at e
   by_cases e2:k2=h
   . rw[e2];exact⟨h0,h1⟩
   . rw[if_neg e2] at e;have:=w.hn k2 z e;omega
 . obtain⟨g1,g2,g3,g4,g5,g6⟩:=kp3 b o e;exact⟨k4 b o g2 g4 g1,g2,g3,g4,g5,g6⟩
theorem IL{Hs':Int->Option Pc}{h l:Int}{w':Pc}(e:w'.l=l)(hh:∀k,(Hs' k).map (·.l)=(Hs k).map (·.l)):∀k,((λk=>if k=h then some w' else Hs' k) k).map (λz:Pc=>z.l)=if k=h then some l else (Hs k).map (·.l):=λk=>by
 dsimp only;by_cases z:k=h
 . rw[if_pos z,if_pos z,<-e];rfl
 . rw[if_neg z,if_neg z];exact hh k
end
abbrev sT(C:W4->qH)(CH TP CX:qH)(F:Hp)(y:qH)(n:Int)(cs:List Int)(ps:List Pc)(Hs:Int->Option Pc)(h:Int)(H:Hp)(Q:VK)(E:XK):Prop:=(Hs h=none->E (.ref CX) none H) /\ (∀z,Hs h=some z->∀cs' ps' H',cs'.length=cs.length->Wn C CH TP F y n cs' ps' (λk=>if k=h then none else Hs k) H'->Q .non H')
def Q9(C:W4->qH)(CH TP CX:qH):Sp:=λvs H Q E=>∃(F:Hp) (y:qH) (n:Int) (cs:List Int) (ps:List Pc) (Hs:Int->Option Pc) (h:Int),vs=[.ref y,.int h]/\Wn C CH TP F y n cs ps Hs H/\sT C CH TP CX F y n cs ps Hs h H Q E
include T BK Aw in
theorem K2(F:Fun K "give" "Handles.give" Pj f₀ fd₀)(M:tF K Y4 "give" f₀):Methx P w K mg base Y4 "give" 9 ["self","handle"] [] (Q9 (cF Ae Af Ad Ag) Y4 TP Y2):=by
 refine⟨⟨f₀,fd₀,[],A5 F Hm (λcdv A outer s H vs Q E hr h=>?_),M,F.binds Hn,.nil⟩,T.BS⟩;refine⟨_,(Ac (BQ (Cd BK BD hr (AX l_ rfl) (Aa (BY Aw Bx hr l_ (Aa ld Ab)) Ab))) (Ah (BQ (WL (AX l_ rfl) ld ⟨rfl,rfl,rfl,rfl⟩)))),?_⟩;walk_at "D";obtain⟨F,y,n,cs,ps,Hs,h,rfl,W,qe,q⟩:=h;obtain⟨dy,x,dx,d,a,i,r,kvs,w⟩:=id W;have clH:=T.BS;have nk:=T.Ev;have np:=T.Hu;have hy:=w.hy;have hx:=w.S.hx;walk_at "";refine⟨F,y,n,cs,ps,Hs,h,rfl,W,qe,λz e=>?_⟩;obtain⟨hm,hv⟩:=w.ow.mem h z e;walk_at "";refine⟨r,x,dx,a,cs,ps,z,rfl,w.S,hm,hv,λa' cs' H' na k l S'=>?_⟩;obtain⟨hy3,hd3,tb3,kp3⟩:=w.step k na S';walk_at "";refine⟨d,rfl,.inl ⟨_,.inl hd3⟩,?_⟩;walk_at "";refine⟨_,.inl h,_,hd3,rfl,w.some e,?_⟩;walk_at "";have had:a'≠d:=λe=>by rw[e,w.hd] at na;cases na
 refine q z e cs' _ _ l ⟨dy,x,dx,d,a',i,r,DZ kvs h,look_ne w.yd hy3,⟨look_ne w.xd S'.hx,look_ne had S'.ha,S'.hz,S'.hc,S'.mm,S'.nj⟩,by rw[upd_same,YA],w.ow.drop λv hvv=>?_,tb3.keep λb o hb ho=>look_ne (λe=>by rw[e,hd3] at hb;cases hb;cases ho) hb,by rw[l];exact w.z,λk2 z2 e2=>?_,w.n0,λb o hb=>?_⟩
 . rw[Yy w.S.hc hm hv hvv,e];exact⟨λ⟨h1,h2⟩=>⟨h1,λz=>h2 (ae z).symm⟩,λ⟨h1,h2⟩=>⟨h1,λz=>h2 (by rw[z])⟩⟩
 . try dsimp only at e2
   by_cases z:k2=h
   . rw[if_pos z] at e2;cases e2
   . rw[if_neg z] at e2;exact w.hn k2 z2 e2
 . obtain⟨g1,g2,g3,g4,g5,g6⟩:=kp3 b o hb;exact⟨look_ne g4 g1,g2,g3,g4,g5,g6⟩
abbrev sU(C:W4->qH)(CH TP CA CR:qH)(F:Hp)(y:qH)(n:Int)(cs:List Int)(ps:List Pc)(Hs:Int->Option Pc)(nd:Int)(H:Hp)(Q:VK)(E:XK):Prop:=(nd<1->∀H',Same H H'->E (.ref CA) none H')/\(1<=nd->∀H',Same H H'->E (.ref CR) none H') /\ (1<=nd->nd<=cs.length->(∀H',Same H H'->Q (.int 0) H')/\∀(m:Int) (cs':List Int) (ps':List Pc) (Hs':Int->Option Pc) (H':Hp),Wn C CH TP F y n cs' ps' Hs' H'->cs'.length=cs.length->(∀h,(Hs' h).map (·.l)=(Hs h).map (·.l))->(∃w∈ps',w.v=false/\nd<=w.l)->Q (.int m) H')
def Ra(C:W4->qH)(CH TP CA CR:qH):Sp:=λvs H Q E=>∃(F:Hp) (y:qH) (n:Int) (cs:List Int) (ps:List Pc) (Hs:Int->Option Pc) (nd:Int),vs=[.ref y,.int nd]/\Wn C CH TP F y n cs ps Hs H/\sU C CH TP CA CR F y n cs ps Hs nd H Q E
variable (Dc:tE P w K mg base "gathered" 6 ["cells","need"] (YJ K Ar Ao))
variable (D_lay:AS P w K mg base (cF Ae Af Ad Ag) "lay" 7 ["self","cells"] [] (uS K (cF Ae Af Ad Ag)))
variable (Dd:AS P w K mg base (cF Ae Af Ad Ag) "pieces" 5 ["self"] [] (Yv (cF Ae Af Ad Ag)))
variable (De:tE P w K mg base "followed" 1 ["places","pieces"] (YM TP))
include T BL Dc D_lay Dd De in
theorem K3(F:Fun K "gather" "Handles.gather" Pk f₀ fd₀)(M:tF K Y4 "gather" f₀):Methx P w K mg base Y4 "gather" 8 ["self","need"] [] (Ra (cF Ae Af Ad Ag) Y4 TP Ar Ao):=by
 refine⟨⟨f₀,fd₀,[],A5 F QT (λcdv A outer s H vs Q E hr h=>?_),M,F.binds Ho,.nil⟩,T.BS⟩;refine⟨_,(Ac (Cs (Fe Dc hr (by rfl) (Aa (QI BL BD hr (AX l_ rfl)) (Aa ld Ab))) (Ca rfl (AE (j_ 2 QT) (AE (j_ 3 QT) BN)))) (Ac (Az (Ax E8 mt Aj) (Ac (BQ (Cd D_lay BD hr (AX l_ rfl) (Aa m_ Ab))) (Ah (B8 l_ (k_ De hr (Aa (AX l_ rfl) (Aa (QI Dd BD hr (AX l_ rfl)) Ab))) rfl))) AA) (Ah (An mt)))),?_⟩;walk_at "D";obtain⟨F,y,n,cs,ps,Hs,nd,rfl,W,qa,qr,q⟩:=h;obtain⟨dy,x,dx,d,a,i,r,kvs,w⟩:=id W;have clH:=T.BS;have nk:=T.Ev;have np:=T.Hu;have hy:=w.hy;have hx:=w.S.hx;have hz:=w.z;have wl:=w.len;walk_at "";refine⟨r,x,dx,a,cs,rfl,w.S.hx,w.S.ha,λp H1 np1 s1 hp=>?_⟩;have w1:=w.same s1;walk_at "";refine⟨p,cs,ps,nd,rfl,SqL.of hp,by omega,w.S.hc,w.S.mm,wl.2,λh1 H2 s2=>qa h1 H2 (s1.trans s2),λh1 H2 s2=>qr h1 H2 (s1.trans s2),λh1 h2 m cs2 qs t p2 H2 m0 mlv l2 c2 mk2 lv2 fw np2 s2 hp2 ht=>?_⟩;have w2:=w1.same s2;have hy2:=w2.hy;have hx2:=w2.S.hx;walk_at "";refine AO (λhm=>?_) (λhm=>?_)
 . walk_at "";refine⟨r,x,p2,dx,a,cs,cs2,qs,rfl,w2.S.hx,w2.S.ha,l2,SqL.of hp2,by omega,by rw[l2];exact c2,mk2,λa' H3 na3 k3 S3=>?_⟩;obtain⟨hy3,hd3,tb3,kp3⟩:=w2.step k3 na3 S3;have hx3:=S3.hx;have ll:(Cu cs2 (A0 qs)).length=cs.length:=by rw[Jv];exact l2
   have hj:=S3.hc.le;rw[ll] at hj;walk_at "";refine⟨0,x,dx,a',_,_,rfl,S3,λb us H4 nb s4 hb pa=>?_⟩;have hlv:(lvF (A0 qs)).map (·.l)=(lvF ps).map (·.l):=by rw[XQ];exact lv2
   have hll:kvs.length=(lvA (A0 qs)).length:=by
     rw[w.ow.len w.S.hc];unfold lvA;have:=congrArg jb hlv;rw[ε,ε] at this;rw[ε,ε,this]
   have h0:0<kvs.length:=by
     rw[w.ow.len w.S.hc];unfold lvA;rw[ε];exact List.length_pos_iff.mpr (mlv hm)
   walk_at "";refine⟨d,b,kvs,us,A0 qs,rfl,s4 d _ hd3,hb,pa,by omega,w.ow.nd,h0,hll,by omega,tb3.same s4,λD ms H5 nD k5 tb5 pm sm hD=>?_⟩;have neT:∀{b:qH} {o:HO},H4 b=some o->N9 o=true->b≠TP:=λ{b o} hb ho e=>by
     obtain⟨_,e2,_⟩:=tb3.same s4;rw[<-e,hb] at e2;cases e2;cases ho
   have hy4:=s4 y _ hy3;have hx4:=s4 x _ hx3;have ha4:=s4 a' _ S3.ha;have hy5:=k5 y _ (neT hy4 rfl) hy4;have hx5:=k5 x _ (neT hx4 rfl) hx4;have ha5:=k5 a' _ (neT ha4 rfl) ha4;walk_at "";obtain⟨Hs',ow',el,_⟩:=w.ow.follow w.S.hc S3.hc pm sm hlv;have yD:D≠y:=λe=>by rw[e,hy4] at nD;cases nD
   have hay:a'≠y:=λe=>by rw[e,w2.hy] at na3;cases na3
   refine(q h1 h2).2 m _ _ Hs' _ ⟨dy,x,dx,D,a',i,0,(ms.map (·.1)).zip (lvA (A0 qs)),upd_same,⟨look_ne (bd w.yx) hx5,look_ne hay ha5,S3.hz,S3.hc,S3.mm,S3.nj⟩,look_ne yD hD,ow',tb5.keep λb o hb ho=>look_ne (λe=>by rw[e,hy5] at hb;cases hb;cases ho) hb,by rw[ll];exact hz,λh z e=>?_,w.n0,λb o hb=>?_⟩ ll el ?_
   . have e1:=el h;rw[e] at e1;cases e2:Hs h with
     | none=>rw[e2] at e1;cases e1
     | some z2=>exact w.hn h z2 e2
   . obtain⟨g1,g2,g3,g4,g5,g6⟩:=kp3 b o hb;have g7:=s4 b _ g1;exact⟨look_ne g2 (k5 b o g6 g7),g2,g3,(λe=>by rw[e,nD] at g7;cases g7),g5,g6⟩
   . obtain⟨v,hv1,hv2,hv3⟩:=fw;obtain⟨v',g1,g2,g3⟩:=gJ c2 hv1 hv2;exact⟨v',g1,g2,by omega⟩
 . walk_at "";have:m=0:=by omega
   subst this;exact(q h1 h2).1 H2 (s1.trans s2)
abbrev sV(C:W4->qH)(CH TP CA CR:qH)(F:Hp)(y:qH)(n:Int)(cs:List Int)(ps:List Pc)(Hs:Int->Option Pc)(c:Int)(H:Hp)(Q:VK)(E:XK):Prop:=(c<1->∀H',Same H H'->E (.ref CA) none H')/\(1<=c->∀H',Same H H'->E (.ref CR) none H') /\ (1<=c->c+2<=cs.length->∀(cs':List Int) (ps':List Pc) (Hs':Int->Option Pc) (H':Hp),Wn C CH TP F y (n+1) cs' ps' Hs' H'->cs'.length=cs.length->(∀k,(Hs' k).map (·.l)=if k=n then some (c+2) else (Hs k).map (·.l))->Q (.int n) H')
def Rb(C:W4->qH)(CH TP CA CR:qH):Sp:=λvs H Q E=>∃(F:Hp) (y:qH) (n:Int) (cs:List Int) (ps:List Pc) (Hs:Int->Option Pc) (c:Int),vs=[.ref y,.int c]/\Wn C CH TP F y n cs ps Hs H/\sV C CH TP CA CR F y n cs ps Hs c H Q E
variable (Bi:Methx P w K mg base Y4 "gather" 8 ["self","need"] [] (Ra (cF Ae Af Ad Ag) Y4 TP Ar Ao))
include T D_ask Bi in
theorem K4(F:Fun K "ask" "Handles.ask" Pl f₀ fd₀)(M:tF K Y4 "ask" f₀):Methx P w K mg base Y4 "ask" 9 ["self","count"] [] (Rb (cF Ae Af Ad Ag) Y4 TP Ar Ao):=by
 refine⟨⟨f₀,fd₀,[],A5 F Pm (λcdv A outer s H vs Q E hr h=>?_),M,F.binds Hq,.nil⟩,T.BS⟩;refine⟨_,(Ac (Xq (i:=2) Pm.nd rfl (υ rfl) (fA D_ask.less hr (AX l_ rfl) (Aa ld Ab)) (by rfl) T.QW (λx cs=>have hr:=Room.mark (v:=some (.ref x)) hr;(Ac (BQ (BY Bi JH hr l_ (Aa (Ak AN ld (BV (v:=.int 2) (by rfl) T.J6 ⟨_,rfl⟩)) Ab))) (Ah (i_ 2 Pm (Cd D_ask.less JH hr (AX l_ rfl) (Aa ld Ab))))))) (Ac (i_ 3 Pm (AX l_ rfl)) (Ac (Jy (DA hr.units) (AX l_ rfl) m_ mt rfl) (Ac (B8 l_ (Ak AN m_ Aj) rfl) (Ah (An m_)))))),?_⟩;walk_at "D";obtain⟨F,y,n,cs,ps,Hs,c,rfl,W,qa,qr,q⟩:=h;obtain⟨dy,x,dx,d,a,i,r,kvs,w⟩:=id W;have clH:=T.BS;have nk:=T.Ev;have np:=T.Hu;have nc:=T.Ya;have hy:=w.hy;have hx:=w.S.hx;have hz:=w.z;have n0:=w.n0;walk_at "";refine⟨r,x,dx,a,cs,ps,c,rfl,w.S,λh1 H1 s1=>⟨_,rfl,jn ⟨T.Yc,qa h1 H1 s1⟩⟩,λh1 hn H1 s1=>⟨_,rfl,υ ⟨T.Yb,λx0 c0=>?_⟩⟩,λh1 h2 v a' r' cs' ps' H3 ew lv na k l S3=>?_⟩
 . have w1:=w.same s1;have hy1:=w1.hy;have hx1:=w1.S.hx;walk_at "";refine⟨F,y,n,cs,ps,Hs,c+2,rfl,W.same s1,λh=>(by omega),λ_ H2 s2=>qr h1 H2 (s1.trans s2),λ_ hcl=>⟨λH2 s2=>?_,λm cs2 ps2 Hs2 H2 W2 l2 el fw=>?_⟩⟩
   . have w2:=w1.same s2;have hy2:=w2.hy;have hx2:=w2.S.hx;walk_at "";refine⟨r,x,dx,a,cs,ps,c,rfl,w2.S,λh=>(by omega),λ_ hn H3 s3=>qr h1 H3 ((s1.trans s2).trans s3),λ_ h2 v a' r' cs' ps' H3 ew lv na k l S3=>?_⟩;have el:∀h,(Hs h).map (·.l)=(Hs h).map (λz:Pc=>z.l):=λ_=>rfl;obtain⟨hy3,hd3,tb3,kp3⟩:=w2.step k na S3;have hyd:=w2.yd;have hl:=w2.len;walk_at "";refine⟨d,_,rfl,.inl ⟨_,.inl n,hd3,rfl,small1000 (by rw[ε];omega),rfl⟩,?_⟩;walk_at "";have hno:Hs n=none:=by
       cases e:Hs n with
       | none=>rfl
       | some z=>exact absurd (w2.hn n z e).2 (by omega)
     exact q h1 (by omega) cs' ps' _ _ (w2.putH k na S3 l (h:=n) (n':=n+1) (w':=v) (by rw[hno];exact lv) n0 (by omega) (by omega) upd_same (look_ne (bd hyd) upd_same) λb o g1 g2 g3=>look_ne g1 (look_ne g2 g3)) (by omega) (IL ew el)
   . obtain⟨dy,x,dx,d,a,i,r,kvs,w2⟩:=W2;have hy2:=w2.hy;have hx2:=w2.S.hx;walk_at "";refine⟨r,x,dx,a,cs2,ps2,c,rfl,w2.S,λh=>(by omega),λ_ hn=>absurd hn (by obtain⟨z,hz,hv,hl⟩:=fw;exact YB hz hv hl),λ_ h2 v a' r' cs' ps' H3 ew lv na k l S3=>?_⟩;obtain⟨hy3,hd3,tb3,kp3⟩:=w2.step k na S3;have hyd:=w2.yd;have hl:=w2.len;walk_at "";refine⟨d,_,rfl,.inl ⟨_,.inl n,hd3,rfl,small1000 (by rw[ε];omega),rfl⟩,?_⟩;walk_at "";have hno:Hs2 n=none:=by
       cases e:Hs2 n with
       | none=>rfl
       | some z=>exact absurd (w2.hn n z e).2 (by omega)
     exact q h1 (by omega) cs' ps' _ _ (w2.putH k na S3 l (h:=n) (n':=n+1) (w':=v) (by rw[hno];exact lv) n0 (by omega) (by omega) upd_same (look_ne (bd hyd) upd_same) λb o g1 g2 g3=>look_ne g1 (look_ne g2 g3)) (by omega) (IL ew el)
 . have el:∀h,(Hs h).map (·.l)=(Hs h).map (λz:Pc=>z.l):=λ_=>rfl;obtain⟨hy3,hd3,tb3,kp3⟩:=w.step k na S3;have hyd:=w.yd;have hl:=w.len;walk_at "";refine⟨d,_,rfl,.inl ⟨_,.inl n,hd3,rfl,small1000 (by rw[ε];omega),rfl⟩,?_⟩;walk_at "";have hno:Hs n=none:=by
     cases e:Hs n with
     | none=>rfl
     | some z=>exact absurd (w.hn n z e).2 (by omega)
   exact q h1 (by omega) cs' ps' _ _ (w.putH k na S3 l (h:=n) (n':=n+1) (w':=v) (by rw[hno];exact lv) n0 (by omega) (by omega) upd_same (look_ne (bd hyd) upd_same) λb o g1 g2 g3=>look_ne g1 (look_ne g2 g3)) (by omega) (IL ew el)
abbrev sW(C:W4->qH)(CH TP CX CA CR:qH)(F:Hp)(y:qH)(n:Int)(cs:List Int)(ps:List Pc)(Hs:Int->Option Pc)(h c:Int)(H:Hp)(Q:VK)(E:XK):Prop:=(Hs h=none->E (.ref CX) none H)/\(∀z,Hs h=some z->(c<1->∀H',Same H H'->E (.ref CA) none H')/\(1<=c->∀H',Same H H'->E (.ref CR) none H') /\ (1<=c->c+2<=cs.length->∀(cs':List Int) (ps':List Pc) (Hs':Int->Option Pc) (H':Hp) (z':Pc),Wn C CH TP F y n cs' ps' Hs' H'->cs'.length=cs.length->(∀k,(Hs' k).map (·.l)=if k=h then some (c+2) else (Hs k).map (·.l))->Hs' h=some z'->Q (.int (z'.a+1)) H'))
def Rc(C:W4->qH)(CH TP CX CA CR:qH):Sp:=λvs H Q E=>∃(F:Hp) (y:qH) (n:Int) (cs:List Int) (ps:List Pc) (Hs:Int->Option Pc) (h c:Int),vs=[.ref y,.int h,.int c]/\Wn C CH TP F y n cs ps Hs H/\sW C CH TP CX CA CR F y n cs ps Hs h c H Q E
variable (Cf:MethFD P w K mg base (cF Ae Af Ad Ag) "grow" 10 ["self","place","count","bound"] [.int 1] (YE (cF Ae Af Ad Ag) Ar Ao))
include T Aw Bi Cf in
theorem K5(F:Fun K "grow" "Handles.grow" Pn f₀ fd₀)(M:tF K Y4 "grow" f₀):Methx P w K mg base Y4 "grow" 11 ["self","handle","count"] [] (Rc (cF Ae Af Ad Ag) Y4 TP Y2 Ar Ao):=by
 refine⟨⟨f₀,fd₀,[],A5 F QU (λcdv A outer s H vs Q E hr h=>?_),M,F.binds Hr,.nil⟩,T.BS⟩;refine⟨_,(Ac (Xq (i:=3) QU.nd rfl (υ rfl) (gD Cf.less hr (AX l_ rfl) (aY Aw hr l_ (Aa ld Ab)) (Aa mt Ab)) (by rfl) T.QW (λx cs=>have hr:=Room.mark (v:=some (.ref x)) hr;(Ac (BQ (BY Bi JH hr l_ (Aa (Ak AN mt (BV (v:=.int 2) (by rfl) T.J6 ⟨_,rfl⟩)) Ab))) (Ah (i_ 3 QU (Cd Cf.less JH hr (AX l_ rfl) (Aa (BY Aw JH hr l_ (Aa ld Ab)) (Aa mt Ab)))))))) (Ac (Jy (DA hr.units) (AX l_ rfl) ld m_ rfl) (Ah (An m_)))),?_⟩;walk_at "D";obtain⟨F,y,n,cs,ps,Hs,h,c,rfl,W,qe,q⟩:=h;obtain⟨dy,x,dx,d,a,i,r,kvs,w⟩:=id W;have clH:=T.BS;have nk:=T.Ev;have np:=T.Hu;have hy:=w.hy;have hx:=w.S.hx;have hz:=w.z;walk_at "";refine⟨F,y,n,cs,ps,Hs,h,rfl,W,λe=>⟨_,rfl,jn ⟨T.iZ,qe e⟩⟩,λz e=>?_⟩;obtain⟨qa,qr,q⟩:=q z e;obtain⟨hm,hv⟩:=w.ow.mem h z e;obtain⟨h0,hn0⟩:=w.hn h z e;walk_at "";refine⟨r,x,dx,a,cs,ps,z,c,rfl,w.S,hm,hv,λh1 H1 s1=>⟨_,rfl,jn ⟨T.Yc,qa h1 H1 s1⟩⟩,λh1 hn H1 s1=>⟨_,rfl,υ ⟨T.Yb,λx0 c0=>?_⟩⟩,λh1 h2 v a' r' cs' ps' H3 ew lv na k l S3=>?_⟩
 . have w1:=w.same s1;have hy1:=w1.hy;have hx1:=w1.S.hx;walk_at "";refine⟨F,y,n,cs,ps,Hs,c+2,rfl,W.same s1,λh=>(by omega),λ_ H2 s2=>qr h1 H2 (s1.trans s2),λ_ hcl=>⟨λH2 s2=>?_,λm cs2 ps2 Hs2 H2 W2 l2 el fw=>?_⟩⟩
   . have w2:=w1.same s2;have hy2:=w2.hy;have hx2:=w2.S.hx;walk_at "";refine⟨F,y,n,cs,ps,Hs,h,rfl,(W.same s1).same s2,λe'=>(by rw[e] at e';cases e'),λz' e'=>?_⟩;rw[e] at e';cases e';walk_at "";refine⟨r,x,dx,a,cs,ps,z,c,rfl,w2.S,hm,hv,λh=>(by omega),λ_ hn H3 s3=>qr h1 H3 ((s1.trans s2).trans s3),λ_ h2 v a' r' cs' ps' H3 ew lv na k l S3=>?_⟩;have el:∀h,(Hs h).map (·.l)=(Hs h).map (λz:Pc=>z.l):=λ_=>rfl;obtain⟨hy3,hd3,tb3,kp3⟩:=w2.step k na S3;have hyd:=w2.yd;have hl:=w2.len;walk_at "";refine⟨d,_,rfl,.inl ⟨_,.inl h,hd3,rfl,small1000 (by rw[ε];omega),rfl⟩,?_⟩;walk_at "";exact q h1 (by omega) cs' ps' _ _ v (w2.putH k na S3 l (h:=h) (n':=n) (w':=v) (by rw[e];exact lv) h0 hn0 (ba _) (look_ne hyd hy3) upd_same λb o g1 g2 g3=>look_ne g2 g3) (by omega) (IL ew el) (if_pos rfl)
   . obtain⟨dy,x,dx,d,a,i,r,kvs,w2⟩:=id W2;have hy2:=w2.hy;have hx2:=w2.S.hx;have e2:=el h;rw[e] at e2;obtain⟨z2,e3,_⟩:=ai.mp e2;obtain⟨hm2,hv2⟩:=w2.ow.mem h z2 e3;walk_at "";refine⟨F,y,n,cs2,ps2,Hs2,h,rfl,W2,λe'=>(by rw[e3] at e';cases e'),λz' e'=>?_⟩;rw[e3] at e';cases e';walk_at "";refine⟨r,x,dx,a,cs2,ps2,z2,c,rfl,w2.S,hm2,hv2,λh=>(by omega),λ_ hn=>absurd hn (by obtain⟨z,hz,hv,hl⟩:=fw;exact YB hz hv hl),λ_ h2 v a' r' cs' ps' H3 ew lv na k l S3=>?_⟩;obtain⟨hy3,hd3,tb3,kp3⟩:=w2.step k na S3;have hyd:=w2.yd;have hl:=w2.len;walk_at "";refine⟨d,_,rfl,.inl ⟨_,.inl h,hd3,rfl,small1000 (by rw[ε];omega),rfl⟩,?_⟩;walk_at "";exact q h1 (by omega) cs' ps' _ _ v (w2.putH k na S3 l (h:=h) (n':=n) (w':=v) (by rw[e3];exact lv) h0 hn0 (ba _) (look_ne hyd hy3) upd_same λb o g1 g2 g3=>look_ne g2 g3) (by omega) (IL ew el) (if_pos rfl)
 . have el:∀h,(Hs h).map (·.l)=(Hs h).map (λz:Pc=>z.l):=λ_=>rfl;obtain⟨hy3,hd3,tb3,kp3⟩:=w.step k na S3;have hyd:=w.yd;have hl:=w.len;walk_at "";refine⟨d,_,rfl,.inl ⟨_,.inl h,hd3,rfl,small1000 (by rw[ε];omega),rfl⟩,?_⟩;walk_at "";exact q h1 (by omega) cs' ps' _ _ v (w.putH k na S3 l (h:=h) (n':=n) (w':=v) (by rw[e];exact lv) h0 hn0 (ba _) (look_ne hyd hy3) upd_same λb o g1 g2 g3=>look_ne g2 g3) (by omega) (IL ew el) (if_pos rfl)
abbrev sX(C:W4->qH)(CH TP CN CS:qH)(F:Hp)(y dy:qH)(n:Int)(wd:Str)(H:Hp)(Q:VK)(E:XK):Prop:=((∀i,wd≠Bz i)->∀H',Same H H'->E (.ref CN) none H')/\(∀i,wd=Bz i->n<1->∀H',Same H H'->E (.ref CS) none H') /\ (∀i,wd=Bz i->1<=n->∀H',Wn C CH TP F y 0 (Cq n) [⟨0,n,false⟩] (λ_=>none) H'->Q .non H')
def Re(C:W4->qH)(CH TP CN CS:qH):Sp:=λvs H Q E=>∃(F:Hp) (y dy:qH) (n:Int) (wd:Str),vs=[.ref y,.int n,.str wd]/\H y=some (.ins CH dy [])/\n<=60/\TbOk H TP uk Fn/\(∀b o,F b=some o->H b=some o/\b≠y/\b≠TP)/\sX C CH TP CN CS F y dy n wd H Q E
variable (Df:tE P w K mg base "stretches_of" 6 ["word","size"] (spOf (cF Ae Af Ad Ag) Av Aq))
include T Df in
theorem nJ(F:Fun K "__init__" "Handles.__init__" O1 f₀ fd₀)(M:Mk K Y4 f₀):tL P w K mg base "Handles" Y4 7 ["self","size","word"] [] (Re (cF Ae Af Ad Ag) Y4 TP Av Aq):=by
 refine⟨⟨f₀,fd₀,[],A5 F gO (λcdv A outer s H vs Q E hr h=>?_),M,F.binds gP,.nil⟩,T.iH⟩;refine⟨_,(Ac (B8 l_ (Fe Df hr (by rfl) (Aa mt (Aa ld Ab))) rfl) (Ac (B8 l_ Qu rfl) (Ah (B8 l_ Aj rfl)))),?_⟩;walk_at "D";obtain⟨F,y,dy,n,wd,rfl,hy,hn,tb,kp,qn,qs,q⟩:=h;have clH:=T.BS;have nk:=T.Ev;have np:=T.Hu;have nc:=T.Ya;walk_at "";refine⟨wd,n,rfl,by omega,qn,qs,λi ei h1 x dx a H1 nx na s1 S1=>?_⟩;have hy1:=s1 y _ hy;have hxy:x≠y:=λe=>by rw[e,hy] at nx;cases nx
 have hay:a≠y:=λe=>by rw[e,hy] at na;cases na
 walk_at "";intro d nd;have hdy:d≠y:=λe=>by rw[e,upd_same] at nd;cases nd
 have hyd:=bd hdy;walk_at "";refine r_sat (C:=Y4) (dx:=dy) (fs:=[("keeper",.ref x)]) (look_ne hyd upd_same) clH np (show 1<1000 by decide) ?_;walk_at "";refine r_sat (C:=Y4) (dx:=dy) (fs:=[("keeper",.ref x),("places",.ref d)]) upd_same clH nc (show 2<1000 by decide) ?_;walk_at "";have nd1:H1 d=none:=by rw[AC hdy] at nd;exact nd
 have fl:=Ps (show 0<=n by omega);have tb1:=tb.same s1;have ne:∀{b:qH} {o:HO},H1 b=some o->b≠d:=λh e=>by rw[e,nd1] at h;cases h
 refine q i ei h1 _ ⟨dy,x,dx,d,a,i,0,[],upd_same,⟨look_ne hxy (look_ne hxy (look_ne (ne S1.hx) (look_ne hxy S1.hx))),look_ne hay (look_ne hay (look_ne (ne S1.ha) (look_ne hay S1.ha))),S1.hz,S1.hc,S1.mm,S1.nj⟩,look_ne hdy (look_ne hdy upd_same),Ow.nil n,?_,by omega,(λ_ _ e=>by cases e),ba _,λb o hb=>?_⟩
 . exact tb1.keep λb o hb ho=>by
     have h1:b≠y:=λe=>by rw[e,hy1] at hb;cases hb;cases ho
     exact look_ne h1 (look_ne h1 (look_ne (ne hb) (look_ne h1 hb)))
 . obtain⟨g1,g2,g3⟩:=kp b o hb;have g4:=s1 b _ g1;exact⟨look_ne g2 (look_ne g2 (look_ne (ne g4) (look_ne g2 g4))),g2,(λe=>by rw[e,nx] at g1;cases g1),ne g4,(λe=>by rw[e,na] at g1;cases g1),g3⟩
inductive Er6
 | name | size | handle | cell | ask | room
def cE6(C1 C2 C3 C4 C5 C6:qH):Er6->qH
 | .name=>C1
 | .size=>C2
 | .handle=>C3
 | .cell=>C4
 | .ask=>C5
 | .room=>C6
def wE6:Er6->Str
 | .name=>"name"
 | .size=>"size"
 | .handle=>"handle"
 | .cell=>"cell"
 | .ask=>"ask"
 | .room=>"room"
def nE6:Er6->Nat
 | .name=>0
 | .size=>1
 | .handle=>4
 | .cell=>6
 | .ask=>7
 | .room=>9
def flE(e:Er6)(k:Nat):Bool:=decide (k=nE6 e)||decide (k=10)
section
variable {K:γ}{mg:Str->Option qG}{Y0 Av Aq Y7 Bb Y2 Y6 Y9 Ar Y5 Ao Y3 Bc Bd Y8 Y1 Ae Af Ad Ag Y4 TC TP:qH}{a4:Tok}{a6:Tok}
theorem T_ft(T:Txt K mg Y0 Av Aq Y7 Bb Y2 Y6 Y9 Ar Y5 Ao Y3 Bc Bd Y8 Y1 Ae Af Ad Ag Y4 TC TP a4 a6):∀e,tS K ((cE6 Av Aq Y2 Y9 Ar Ao) e) Y0 true:=λe=>by
 cases e
 . exact T.iT
 . exact T.iU
 . exact T.iV
 . exact T.iW
 . exact T.iX
 . exact T.iY
theorem T_zx(T:Txt K mg Y0 Av Aq Y7 Bb Y2 Y6 Y9 Ar Y5 Ao Y3 Bc Bd Y8 Y1 Ae Af Ad Ag Y4 TC TP a4 a6):∀e,XK0 K ((cE6 Av Aq Y2 Y9 Ar Ao) e):=λe=>by
 cases e
 . exact T.iN
 . exact T.iO
 . exact T.iP
 . exact T.iQ
 . exact T.iR
 . exact T.iS
theorem T_i0(T:Txt K mg Y0 Av Aq Y7 Bb Y2 Y6 Y9 Ar Y5 Ao Y3 Bc Bd Y8 Y1 Ae Af Ad Ag Y4 TC TP a4 a6):∀e,kitOne K (.ref ((cE6 Av Aq Y2 Y9 Ar Ao) e)) (.ref Av)=some (flE e 0):=λe=>by
 cases e
 . exact T.jA
 . exact T.jO
 . exact T.kC
 . exact T.kU
 . exact T.lJ
 . exact T.lX
theorem T_i1(T:Txt K mg Y0 Av Aq Y7 Bb Y2 Y6 Y9 Ar Y5 Ao Y3 Bc Bd Y8 Y1 Ae Af Ad Ag Y4 TC TP a4 a6):∀e,kitOne K (.ref ((cE6 Av Aq Y2 Y9 Ar Ao) e)) (.ref Aq)=some (flE e 1):=λe=>by
 cases e
 . exact T.jB
 . exact T.jP
 . exact T.kE
 . exact T.kW
 . exact T.lK
 . exact T.lY
theorem T_i2(T:Txt K mg Y0 Av Aq Y7 Bb Y2 Y6 Y9 Ar Y5 Ao Y3 Bc Bd Y8 Y1 Ae Af Ad Ag Y4 TC TP a4 a6):∀e,kitOne K (.ref ((cE6 Av Aq Y2 Y9 Ar Ao) e)) (.ref Y7)=some (flE e 2):=λe=>by
 cases e
 . exact T.jC
 . exact T.jQ
 . exact T.kF
 . exact T.kX
 . exact T.lL
 . exact T.lZ
theorem T_i3(T:Txt K mg Y0 Av Aq Y7 Bb Y2 Y6 Y9 Ar Y5 Ao Y3 Bc Bd Y8 Y1 Ae Af Ad Ag Y4 TC TP a4 a6):∀e,kitOne K (.ref ((cE6 Av Aq Y2 Y9 Ar Ao) e)) (.ref Bb)=some (flE e 3):=λe=>by
 cases e
 . exact T.jD
 . exact T.jR
 . exact T.kH
 . exact T.kY
 . exact T.lM
 . exact T.mB
theorem T_i4(T:Txt K mg Y0 Av Aq Y7 Bb Y2 Y6 Y9 Ar Y5 Ao Y3 Bc Bd Y8 Y1 Ae Af Ad Ag Y4 TC TP a4 a6):∀e,kitOne K (.ref ((cE6 Av Aq Y2 Y9 Ar Ao) e)) (.ref Y2)=some (flE e 4):=λe=>by
 cases e
 . exact T.jE
 . exact T.jS
 . exact T.kJ
 . exact T.kZ
 . exact T.lN
 . exact T.mC
theorem T_i5(T:Txt K mg Y0 Av Aq Y7 Bb Y2 Y6 Y9 Ar Y5 Ao Y3 Bc Bd Y8 Y1 Ae Af Ad Ag Y4 TC TP a4 a6):∀e,kitOne K (.ref ((cE6 Av Aq Y2 Y9 Ar Ao) e)) (.ref Y6)=some (flE e 5):=λe=>by
 cases e
 . exact T.jF
 . exact T.jT
 . exact T.kK
 . exact T.lA
 . exact T.lO
 . exact T.mD
theorem T_i6(T:Txt K mg Y0 Av Aq Y7 Bb Y2 Y6 Y9 Ar Y5 Ao Y3 Bc Bd Y8 Y1 Ae Af Ad Ag Y4 TC TP a4 a6):∀e,kitOne K (.ref ((cE6 Av Aq Y2 Y9 Ar Ao) e)) (.ref Y9)=some (flE e 6):=λe=>by
 cases e
 . exact T.jG
 . exact T.jU
 . exact T.kM
 . exact T.lB
 . exact T.lP
 . exact T.mE
theorem T_i7(T:Txt K mg Y0 Av Aq Y7 Bb Y2 Y6 Y9 Ar Y5 Ao Y3 Bc Bd Y8 Y1 Ae Af Ad Ag Y4 TC TP a4 a6):∀e,kitOne K (.ref ((cE6 Av Aq Y2 Y9 Ar Ao) e)) (.ref Ar)=some (flE e 7):=λe=>by
 cases e
 . exact T.jH
 . exact T.jV
 . exact T.kN
 . exact T.lC
 . exact T.lQ
 . exact T.mF
theorem T_i8(T:Txt K mg Y0 Av Aq Y7 Bb Y2 Y6 Y9 Ar Y5 Ao Y3 Bc Bd Y8 Y1 Ae Af Ad Ag Y4 TC TP a4 a6):∀e,kitOne K (.ref ((cE6 Av Aq Y2 Y9 Ar Ao) e)) (.ref Y5)=some (flE e 8):=λe=>by
 cases e
 . exact T.jI
 . exact T.jW
 . exact T.kO
 . exact T.lD
 . exact T.lR
 . exact T.mH
theorem T_i9(T:Txt K mg Y0 Av Aq Y7 Bb Y2 Y6 Y9 Ar Y5 Ao Y3 Bc Bd Y8 Y1 Ae Af Ad Ag Y4 TC TP a4 a6):∀e,kitOne K (.ref ((cE6 Av Aq Y2 Y9 Ar Ao) e)) (.ref Ao)=some (flE e 9):=λe=>by
 cases e
 . exact T.jJ
 . exact T.jX
 . exact T.kP
 . exact T.lE
 . exact T.lS
 . exact T.mI
theorem T_i10(T:Txt K mg Y0 Av Aq Y7 Bb Y2 Y6 Y9 Ar Y5 Ao Y3 Bc Bd Y8 Y1 Ae Af Ad Ag Y4 TC TP a4 a6):∀e,kitOne K (.ref ((cE6 Av Aq Y2 Y9 Ar Ao) e)) (.type "ValueError")=some (flE e 10):=λe=>by
 cases e
 . exact T.jK
 . exact T.jY
 . exact T.kQ
 . exact T.lF
 . exact T.lT
 . exact T.mJ
theorem T_i11(T:Txt K mg Y0 Av Aq Y7 Bb Y2 Y6 Y9 Ar Y5 Ao Y3 Bc Bd Y8 Y1 Ae Af Ad Ag Y4 TC TP a4 a6):∀e,kitOne K (.ref ((cE6 Av Aq Y2 Y9 Ar Ao) e)) (.ref Y3)=some (flE e 11):=λe=>by
 cases e
 . exact T.jL
 . exact T.jZ
 . exact T.kR
 . exact T.lG
 . exact T.lU
 . exact T.mK
theorem T_i12(T:Txt K mg Y0 Av Aq Y7 Bb Y2 Y6 Y9 Ar Y5 Ao Y3 Bc Bd Y8 Y1 Ae Af Ad Ag Y4 TC TP a4 a6):∀e,kitOne K (.ref ((cE6 Av Aq Y2 Y9 Ar Ao) e)) (.ref Bc)=some (flE e 12):=λe=>by
 cases e
 . exact T.jM
 . exact T.kA
 . exact T.kS
 . exact T.lH
 . exact T.lV
 . exact T.mL
theorem T_i13(T:Txt K mg Y0 Av Aq Y7 Bb Y2 Y6 Y9 Ar Y5 Ao Y3 Bc Bd Y8 Y1 Ae Af Ad Ag Y4 TC TP a4 a6):∀e,kitOne K (.ref ((cE6 Av Aq Y2 Y9 Ar Ao) e)) (.ref Bd)=some (flE e 13):=λe=>by
 cases e
 . exact T.jN
 . exact T.kB
 . exact T.kT
 . exact T.lI
 . exact T.lW
 . exact T.mM
end
def wds:List Str:=["name","size","broken","give","handle","piece","cell","ask","bound","room","base","bad","line","turn"]
def Hw(bs:List Bool)(i:Nat):List Str:=((fv i).filter λk=>bs.getD k false).map λk=>wds.getD k ""
theorem nK(bs:List Bool)(i:Nat):Hw bs (i+1)=Hw bs i++(if bs.getD i false=true then [wds.getD i ""] else []):=by
 unfold Hw;rw[List.range_succ,jo,ψ]
 congr 1
 simp only [fu,List.filter_nil]
 split <;> rfl
theorem vd(e:Er6):Hw ((fv 14).map (flE e)) 14=[wE6 e,"base"]:=by cases e <;> rfl
def PwW(H1:Hp)(bs:List Bool)(D:qH)(i:Nat)(ys:List V)(H2:Hp):Prop:=Same H1 H2/\H2 D=some (.lst ys)/\H1 D=none/\ys=(Hw bs i).map V.str/\ys.length<=i
theorem uG{i:Nat}(h:i<14):(wds.map V.str)[i]?=some (.str (wds.getD i "")):=by
 rw[Ψ,bc,ah (show i<wds.length from h)];rfl
theorem PF{xs:List V}{i:Nat}{v:V}(h:xs[i]?=some v):atI xs (i:Int)=some v:=by
 have hl:i<xs.length:=(δ.mp h).1;unfold atI;rw[Wq (by omega) (by omega)];simpa using h
include T in
theorem K6(S:Src K mg "_law_cell_at" ON):tE P w K mg base "_law_cell_at" 1 ["_law_script","_law_k"] (Qk K):=by
 refine S.okx GB GC λf cdv A outer s H vs Q E hr h=>⟨_,PSs.nox (Ac (Az (Ax Cb ld (A9 DX (by rfl) T.n_len dw (Aa l_ Ab))) (Ah (An (AM Bf l_ ld (λ_ _=>rfl)))) AA) (Ah (An Aj))),?_⟩;obtain⟨a,ns,k,rfl,hS,h0,q⟩:=h;walk_at "";refine AO (λhc=>?_) (λhc=>?_)
 . walk_at "";exact q
 . walk_at "";have e:ns.getD k.toNat 0=0:=by
     rw[bc,fz (by omega)];rfl
   rw[e] at q;exact q
include T in
theorem K7(S:Src K mg "_law_whole" OO):tE P w K mg base "_law_whole" 1 ["_law_found"] (Ql):=by
 refine S.okx GD GE λf cdv A outer s H vs Q E hr h=>⟨_,PSs.nox (Ah (An (DG (A9 Ny (by rfl) T.n_isinstance aa (Aa l_ (Aa (Jj (v:=.ty "int") (by rfl) T.n_int iy rfl) Ab))) (Ea (VQ (A9 Ny (by rfl) T.n_isinstance aa (Aa l_ (Aa (Jj (v:=.ty "bool") (by rfl) T.n_bool qk rfl) Ab)))))))),?_⟩;obtain⟨n,rfl,q⟩:=h;walk_at "";exact q
abbrev sY(K:γ)(r:qH)(cs:List Int)(ps:List Pc)(H:Hp)(Q:VK):Prop:=∀(p:qH) (us:List V) (H':Hp),H p=none->Same H H'->H' p=some (.lst us)->AJ H' us ps->Q (.ref p) H'
def YQ(K:γ):Sp:=λvs H Q _=>∃(r:qH) (cs:List Int) (ps:List Pc),vs=[.ref r]/\H r=some (.lst (cs.map V.int))/\Ai 0 ps cs.length/\AH cs ps/\cs.length<=1200/\sY K r cs ps H Q
def WkW(r p:qH)(n:Int)(ps:List Pc)(H:Hp)(m:Nat)(σ:L2.St)(H':Hp):Prop :=
 ∃(ds rs:List Pc) (us:List V) (k:Int) (x3 x4:Option V),σ=[some (.ref r),some (.ref p),some (.int k),x3,x4]/\m=(n-k).toNat/\ps=ds++rs/\Ai 0 ds k/\Ai k rs n/\Same H H'/\H' p=some (.lst us)/\AJ H' us ds
variable (AG:tE P w K mg base "_law_whole" 1 ["_law_found"] (Ql))
include T AG in
theorem K8(S:Src K mg "_law_walk" OP):tE P w K mg base "_law_walk" 2 ["_law_cells"] (YQ K):=by
 refine S.okx IH GF λf cdv A outer s H vs Q E hr h=>⟨_,PSs.nox (Ac (Az (CD (D9 (A9 Ny (by rfl) T.n_isinstance aa (Aa l_ (Aa (Jj (v:=.ty "list") (by rfl) T.n_list cg rfl) Ab))))) (Ah (An Br)) AA) (Ac (i_ 1 IH (Bk Ab)) (Ac (i_ 2 IH Aj) (Ac (VR ce (Ax Cb mt (A9 DX (by rfl) T.n_len dw (Aa l_ Ab))) (Ac (Az (CD (D9 (k_ AG hr (Aa (AM Bf l_ mt (λ_ _=>rfl)) Ab)))) (Ah (An Br)) AA) (Ac (i_ 3 IH (Ak Eb (AM Bf l_ mt (λ_ _=>rfl)) Aj)) (Ac (i_ 4 IH (BW AZ (Ak BB (AM Bf l_ mt (λ_ _=>rfl)) Aj) Aj)) (Ac (Az (PW.pt (CB (Ax Cb m_ Aj) (CB (Ax E8 (Ak AN mt m_) (A9 DX (by rfl) T.n_len dw (Aa l_ Ab))) (DC (PW.pt (Cr (CF n_ (λ_=>rfl)) (DB (Ax Cb m_ Aj)))))))) (Ah (An Br)) AA) (Ac (Az (PW.pt (CB (CD (D9 (k_ AG hr (Aa (AM Bf l_ (Ak Bw (Ak AN mt m_) Aj) (λ_ _=>rfl)) Ab)))) (DC (Ax Ib (AM Bf l_ (Ak Bw (Ak AN mt m_) Aj) (λ_ _=>rfl)) (AM Bf l_ mt (λ_ _=>rfl)))))) (Ah (An Br)) AA) (Ac (BQ (FL cn cj ck Fb ld (Aa (Bs (Aa mt (Aa m_ (Aa n_ Ab)))) Ab))) (Ah (i_ 2 IH (Ak AN mt m_)))))))))) (Ah (An ld)))))),?_⟩;walk_at "D";obtain⟨r,cs,ps,rfl,hR,hc,mk,hz,q⟩:=h;walk_at "";intro p hp;walk_at "";refine⟨WkW r p cs.length ps H,⟨_,[],ps,[],0,none,none,rfl,rfl,rfl,rfl,hc,Same.new hp,upd_same,AJ.nil⟩,?_⟩;rintro m σ H1 ⟨ds,rs,us,k,x3,x4,rfl,rfl,eps,c1,c2,s1,hp1,pu⟩;have hul:=pu.1;have hS1:SqL K H1 r (cs.map V.int):=SqL.of (s1 r _ hR);have k0:=c1.le;walk_at "";refine AO (λhlt=>?_) (λhlt=>?_)
 . refine⟨λσ' H''=>∃m',m'<((cs.length:Int)-k).toNat/\WkW r p cs.length ps H m' σ' H'',λσ' H'' hw=>hw,?_⟩;cases rs with
   | nil =>
     have:k=cs.length:=c2;omega
   | cons z r2 =>
     obtain⟨ea,z1,z3,c3⟩:=c2;have hle:=c3.le;obtain⟨m1,m2⟩:=mk z (by rw[eps];simp);have g1:=Il m1;have g2:=Il m2;rw[ea] at g1 g2;have e1:cs.getD k.toNat 0=tQ z.l z.v:=g1;have e2:cs.getD (k+z.l-1).toNat 0=tQ z.l z.v:=g2;have hkl:ds.length<=1200:=by omega
     walk_at "1";walk_at "1";rw[e1,Ik];walk_at "1";rw[e1,Jo];walk_at "";refine BX (λhv=>?_) (λhv=>?_)
     all_goals
       try have z3:=z3 hv
       walk_at "";intro t ht;walk_at "";obtain⟨g1,g2⟩:=AJ.push (z:=z) pu hp1 ht;rw[ea] at g2;refine⟨_,?_,ds++[z],r2,_,k+z.l,_,_,rfl,rfl,by rw[eps];simp,?_,c3,(s1.put (s1.free ht)).put hp,upd_same,g2⟩
       . omega
       . have:=Ai.snoc (p:=z) (by rw[ea];exact c1) z1 (λh=>by first | exact z3 h | exact z3)
         rwa [ea] at this
 . have er:rs=[]:=by
     cases rs with
     | nil=>rfl
     | cons z r2 =>
       have:=c2.le;rw[au] at this;omega
   rw[er,bg] at eps;walk_at "";rw[<-eps] at pu;exact q p us H1 hp s1 hp1 pu
theorem uX{b:List Bool}{i:Nat}{v:Bool}(h:b[i]?=some v):(b.map V.bl)[i]?=some (V.bl v):=by rw[Ψ,h];rfl
abbrev sZ(l:qH)(bs:List Bool)(H:Hp)(Q:VK):Prop:=∀(p:qH) (H':Hp),Same H H'->H' p=some (.lst ((Hw bs bs.length).map V.str))->Q (.ref p) H'
def YR:Sp:=λvs H Q _=>∃(l:qH) (bs:List Bool),vs=[.ref l]/\H l=some (.lst (bs.map V.bl))/\bs.length<=14/\sZ l bs H Q
seal L2.PSs L2.PS L2.PE L2.PA in
include T in
theorem K9(S:Src K mg "_law_words" OQ):tE P w K mg base "_law_words" 1 ["_law_flags"] (YR):=by
 refine S.okx QP GG λf cdv A outer s H vs Q E hr h=>⟨_,PSs.nox (Ac (Au (i:=1) QP.nd rfl (jn rfl) (Bk (Aa At (Aa At (Aa At (Aa At (Aa At (Aa At (Aa At (Aa At (Aa At (Aa At (Aa At Ab))))))))))))) (Ac (Au (i:=1) QP.nd rfl (jn rfl) (Ak Fc ld (Bk (Aa At (Aa At (Aa At Ab)))))) (Ah (An (Iv ["_law_k"] ["_law_words_here","_law_flags"] [1,0] rfl (Zr (by rfl) T.n_range (Aa (A9 DX (by rfl) T.n_len dw (Aa l_ Ab)) Ab)) (λcl C s₀ H₀ ex=>(AD (i:=0) (show ((["_law_k"]:List Str)++(["_law_words_here","_law_flags"]:List Str)).Nodup by decide +kernel) rfl (υ rfl))) (λcl C s₀ H₀ ex=>(NC (Qz (K:=K) rfl (AM (NT (K:=K) rfl) mt l_ (λ_ _=>rfl)) (λ_=>rfl)))) (λcl C s₀ H₀ ex=>(AM (NT (K:=K) rfl) ld l_ (λ_ _=>rfl))) (WQ rfl rfl rfl rfl rfl rfl) (WR (n:="_law_words_here") (m:="_law_flags") (by decide +kernel) rfl rfl) (λy h=>Fh (by decide +kernel) h)))))),?_⟩;walk_at "D";obtain⟨l,bs,rfl,hl,hb,q⟩:=h;walk_at "";intro p1 n1;have s1:Same H (upd H p1 (.lst ((wds.take 11).map V.str))):=Same.new n1;have h1:upd H p1 (.lst ((wds.take 11).map V.str)) p1=some (.lst ((wds.take 11).map V.str)):=upd_same;generalize eH:upd H p1 _=H1;have eH:upd H p1 (.lst ((wds.take 11).map V.str))=H1:=eH;rw[eH] at s1 h1;walk_at "";intro p2 n2;have s2:Same H1 (upd H1 p2 (.lst ((wds.drop 11).map V.str))):=Same.new n2;have h2:upd H1 p2 (.lst ((wds.drop 11).map V.str)) p2=some (.lst ((wds.drop 11).map V.str)):=upd_same;generalize eH2:upd H1 p2 _=H2;have eH2:upd H1 p2 (.lst ((wds.drop 11).map V.str))=H2:=eH2;rw[eH2] at s2 h2;have h12:=s2 p1 _ h1;refine r_cat h12 h2 (gd (small4000 (by decide))) (λp3 n3=>?_);have s3:Same H2 (upd H2 p3 (.lst (wds.map V.str))):=Same.new n3;have h3:upd H2 p3 (.lst (wds.map V.str)) p3=some (.lst (wds.map V.str)):=upd_same;generalize eH3:upd H2 p3 _=H3;have eH3:upd H2 p3 (.lst (wds.map V.str))=H3:=eH3;rw[eH3] at s3 h3;have s03:=(s1.trans s2).trans s3;have hl3:=s03 l _ hl;have hbl:(bs.map V.bl).length=bs.length:=ε _;walk_at "";rw[hbl];refine⟨_,rfl,by omega,by omega,cT (fs:=[some (.ref p3),some (.ref l)]) (PwW H3 bs) (λD hD=>⟨Same.new hD,upd_same,hD,rfl,Θ _⟩) ?_ ?_⟩
 . rintro D2 i ys H5 hD hi ⟨s5,hD5,_,ey,hyl⟩ τ hτ;rw[Int.zero_add];have hi:i<bs.length:=by omega
   have hl5:=s5 l _ hl3;have h35:=s5 p3 _ h3;have ef:=nK bs i;have hbi:bs[i]?=some (bs.getD i false):=by rw[bc,ah hi];rfl
   obtain⟨τ0,rfl⟩:=f_ hτ
   walk_at "";refine⟨⟨[_],rfl,rfl⟩,?_⟩;walk_at "";refine Ff (SqL.of hl5) (PF (uX hbi)) ?_;walk_at "";refine BX (λhv=>?_) (λhv=>?_)
   . rw[if_pos hv] at ef;walk_at "";refine Ff (SqL.of h35) (PF (uG (by omega))) ?_;walk_at "";refine⟨hD5,small4000 (by omega),Cv (by omega) ⟨s5.put hD,upd_same,hD,?_,by rw[π,aj];omega⟩⟩;rw[ey,ef,ψ];rfl
   . rw[if_neg (by rw[hv];exact η),bg] at ef;walk_at "";exact Cv (by omega) ⟨s5,hD5,hD,by rw[ey,ef],by omega⟩
 rintro D5 ys H5 hD5 ⟨s5,hD55,_,ey,hyl⟩;rw[dr] at ey;walk_at "";exact q D5 H5 (s03.trans s5) (by rw[hD55,ey])
def ue:List Str:=["ask","give","grow","gather","place","many","get","put"]
abbrev s_(C:W4->qH)(CH TP CA CR CX CC CN CS:qH)(x:V)(wh:Str)(one c k:Int)(H:Hp)(Q:VK)(E:XK):Prop:=( (wh="ask"/\Rb C CH TP CA CR [x,.int c] H Q E) \/ (wh="give"/\Q9 C CH TP CX [x,.int one] H Q E) \/ (wh="grow"/\Rc C CH TP CX CA CR [x,.int one,.int c] H Q E) \/ (wh="gather"/\Ra C CH TP CA CR [x,.int c] H Q E) \/ (wh="place"/\Q5 C CH TP CX [x,.int one] H Q E) \/ (wh="many"/\Q6 C CH TP CX [x,.int one] H Q E) \/ (wh="get"/\Q7 C CH TP CX CC [x,.int one,.int k] H Q E) \/ (wh="put"/\Q8 C CH TP CX CC [x,.int one,.int k,.int c] H Q E) \/ (wh ∉ ue/\∀y dy,H y=none->H dy=none->dy≠y->Re C CH TP CN CS [.ref y,.int c,.str wh] (upd (upd H dy (.own y)) y (.ins CH dy [])) (λv H'=>v = .non/\Q (.ref y) H') E))
def Rf(C:W4->qH)(CH TP CA CR CX CC CN CS:qH):Sp:=λvs H Q E=>∃(x:V) (wh:Str) (one c k:Int),vs=[x,.str wh,.int one,.int c,.int k]/\s_ C CH TP CA CR CX CC CN CS x wh one c k H Q E
variable (Dg:Methx P w K mg base Y4 "ask" 9 ["self","count"] [] (Rb (cF Ae Af Ad Ag) Y4 TP Ar Ao))
variable (Dh:Methx P w K mg base Y4 "give" 9 ["self","handle"] [] (Q9 (cF Ae Af Ad Ag) Y4 TP Y2))
variable (Di:Methx P w K mg base Y4 "grow" 11 ["self","handle","count"] [] (Rc (cF Ae Af Ad Ag) Y4 TP Y2 Ar Ao))
variable (Dj:Methx P w K mg base Y4 "many" 8 ["self","handle"] [] (Q6 (cF Ae Af Ad Ag) Y4 TP Y2))
variable (Bv:Methx P w K mg base Y4 "get" 10 ["self","handle","k"] [] (Q7 (cF Ae Af Ad Ag) Y4 TP Y2 Y9))
variable (Dk:Methx P w K mg base Y4 "put" 10 ["self","handle","k","number"] [] (Q8 (cF Ae Af Ad Ag) Y4 TP Y2 Y9))
variable (D_Handles:tL P w K mg base "Handles" Y4 7 ["self","size","word"] [] (Re (cF Ae Af Ad Ag) Y4 TP Av Aq))
include T Aw Bi Dg Dh Di Dj Bv Dk D_Handles in
theorem La(S:Src K mg "_law_done" OR):tE P w K mg base "_law_done" 12 ["_law_desk","_law_which","_law_one","_law_count","_law_k"] (Rf (cF Ae Af Ad Ag) Y4 TP Ar Ao Y2 Y9 Av Aq):=by
 refine S.okx GH GI λf cdv A outer s H vs Q E hr h=>⟨_,(Ac (Az (Ax AZ ld At) (Ah (An (BY Dg Bx hr l_ (Aa m_ Ab)))) AA) (Ac (Az (Ax AZ ld At) (Ah (An (BY Dh Bx hr l_ (Aa mt Ab)))) AA) (Ac (Az (Ax AZ ld At) (Ah (An (BY Di Bx hr l_ (Aa mt (Aa m_ Ab))))) AA) (Ac (Az (Ax AZ ld At) (Ah (An (BY Bi Bx hr l_ (Aa m_ Ab)))) AA) (Ac (Az (Ax AZ ld At) (Ah (An (BY Aw Bx hr l_ (Aa mt Ab)))) AA) (Ac (Az (Ax AZ ld At) (Ah (An (BY Dj Bx hr l_ (Aa mt Ab)))) AA) (Ac (Az (Ax AZ ld At) (Ah (An (BY Bv Bx hr l_ (Aa mt (Aa n_ Ab))))) AA) (Ac (Az (Ax AZ ld At) (Ah (An (BY Dk Bx hr l_ (Aa mt (Aa n_ (Aa m_ Ab)))))) AA) (Ah (An (Io D_Handles Bx hr (by rfl) (Aa m_ (Aa ld Ab))))))))))))),?_⟩;walk_at "D";obtain⟨x,wh,one,c,k,rfl,hc⟩:=h;rcases hc with ⟨rfl,h⟩ | ⟨rfl,h⟩ | ⟨rfl,h⟩ | ⟨rfl,h⟩ | ⟨rfl,h⟩ | ⟨rfl,h⟩ | ⟨rfl,h⟩ | ⟨rfl,h⟩ | ⟨ho,h⟩
 . obtain⟨F,y,n,cs,ps,Hs,c',e,⟨dy,x',dx,d,a,i,r,kvs,w⟩,_⟩:=id h;cases e;have hy:=w.hy;walk_at "";exact h
 . obtain⟨F,y,n,cs,ps,Hs,h',e,⟨dy,x',dx,d,a,i,r,kvs,w⟩,_⟩:=id h;cases e;have hy:=w.hy;walk_at "";exact h
 . obtain⟨F,y,n,cs,ps,Hs,h',c',e,⟨dy,x',dx,d,a,i,r,kvs,w⟩,_⟩:=id h;cases e;have hy:=w.hy;walk_at "";exact h
 . obtain⟨F,y,n,cs,ps,Hs,c',e,⟨dy,x',dx,d,a,i,r,kvs,w⟩,_⟩:=id h;cases e;have hy:=w.hy;walk_at "";exact h
 . obtain⟨F,y,n,cs,ps,Hs,h',e,⟨dy,x',dx,d,a,i,r,kvs,w⟩,_⟩:=id h;cases e;have hy:=w.hy;walk_at "";exact h
 . obtain⟨F,y,n,cs,ps,Hs,h',e,⟨dy,x',dx,d,a,i,r,kvs,w⟩,_⟩:=id h;cases e;have hy:=w.hy;walk_at "";exact h
 . obtain⟨F,y,n,cs,ps,Hs,h',j,e,⟨dy,x',dx,d,a,i,r,kvs,w⟩,_⟩:=id h;cases e;have hy:=w.hy;walk_at "";exact h
 . obtain⟨F,y,n,cs,ps,Hs,h',j,m,e,⟨dy,x',dx,d,a,i,r,kvs,w⟩,_⟩:=id h;cases e;have hy:=w.hy;walk_at "";exact h
 . have no:∀u∈ue,wh≠u:=λu hu e=>ho (by rw[e];exact hu);have n1:=no "ask" (by decide);have n2:=no "give" (by decide);have n3:=no "grow" (by decide);have n4:=no "gather" (by decide);have n5:=no "place" (by decide);have n6:=no "many" (by decide);have n7:=no "get" (by decide);have n8:=no "put" (by decide);walk_at "";exact h
theorem nM:bootBuiltins "ValueError"=some (.type "ValueError"):=by decide +kernel
theorem u_{K:γ}{H:Hp}{x C:qH}{n:String}{od:Option qH}{b:Bool}{P:Bool->Prop}(h:H x=some (tT x C od))(z:XK0 K C)(e:kitOne K (.ref C) (.type n)=some b)(q:P b):
   ∃x' C0 od' v b',[V.ref x,V.ty n]=[V.ref x',v]/\H x'=some (tT x' C0 od')/\XK0 K C0/\uw v≠.none/\kitOne K (.ref C0) (uw v)=some b'/\P b':=⟨x,C,od,.ty n,b,rfl,h,z,(λz=>nomatch z),e,q⟩
theorem wg{H3:Hp}{p1 y:qH}{xs ys:List V}{o:HO}{Q:VK}(h1:H3 p1=some (.lst xs))(hy:H3 y=some o)(hz:xs.length+ys.length<=4000)(q:∀p H',Same H3 H'->H' y=some o->H' p=some (.lst (xs++ys))->Q (.ref p) H'):∀p,H3 p=none->v_ (.ref p1) (.ref p) (upd H3 p (.lst ys)) Q:=λp hp =>
 have s1:Same H3 (upd H3 p (.lst ys)):=Same.new hp
 r_cat (s1 p1 _ h1) upd_same (gd (small4000 hz)) λp' hp'=>q p' _ (s1.trans (Same.new hp')) ((s1.trans (Same.new hp')) y _ hy) upd_same
abbrev tj(CE:Er6->qH)(C:W4->qH)(CH TP CA CR CX CC CN CS:qH)(x:V)(wh:Str)(one c k:Int)(RE:Er6->Hp->Prop)(RQ:V->Hp->Prop)(H:Hp)(Q:VK):Prop:=(∀e H2,RE e H2->∀(t l:qH) (H':Hp),Same H2 H'->H' t=some (.tup [.ref l,.non])->H' l=some (.lst [.str (wE6 e),.str "base"])->Q (.ref t) H') /\ (∀v H2,RQ v H2->∀(t l:qH) (H':Hp),Same H2 H'->H' t=some (.tup [.ref l,v])->H' l=some (.lst [])->Q (.ref t) H')
def PJ(CE:Er6->qH)(C:W4->qH)(CH TP CA CR CX CC CN CS:qH):Sp:=λvs H Q _=>∃(x:V) (wh:Str) (one c k:Int) (RE:Er6->Hp->Prop) (RQ:V->Hp->Prop),vs=[x,.str wh,.int one,.int c,.int k]/\(∀p0,H p0=none->∀QV EX,(∀e H',RE e H'->EX (.ref (CE e)) none H')->(∀v H2,RQ v H2->H2 p0=some (.lst [])->QV v H2)->Rf C CH TP CA CR CX CC CN CS vs (upd H p0 (.lst [])) QV EX)/\tj CE C CH TP CA CR CX CC CN CS x wh one c k RE RQ H Q
variable (Dl:tE P w K mg base "_law_done" 12 ["_law_desk","_law_which","_law_one","_law_count","_law_k"] (Rf (cF Ae Af Ad Ag) Y4 TP Ar Ao Y2 Y9 Av Aq))
variable (Dm:tE P w K mg base "_law_words" 1 ["_law_flags"] (YR))
seal L2.PSs L2.PS L2.PE L2.PA in
include T Dl Dm in
theorem Lb(S:Src K mg "_law_call" OS):tE P w K mg base "_law_call" 13 ["_law_desk","_law_which","_law_one","_law_count","_law_k"] (PJ (cE6 Av Aq Y2 Y9 Ar Ao) (cF Ae Af Ad Ag) Y4 TP Ar Ao Y2 Y9 Av Aq):=by
 refine S.okx D6 GJ λf cdv A outer s H vs Q E hr h=>⟨_,PSs.nox (Ac (i_ 5 D6 (Bk Ab)) (Ac (i_ 6 D6 Br) (Ac (aX (i:=6) D6.nd rfl (υ rfl) (aZ Dl hr (by rfl) (Aa l_ (Aa ld (Aa mt (Aa m_ (Aa n_ Ab)))))) ⟨rfl,rfl⟩ (aW (i:=7) (by rfl) T.gU D6.nd rfl rfl (λx=>(Ac (i_ 5 D6 (Bk (Aa (A9 (CI ay.ga) (by rfl) T.n_isinstance aa (Aa p_ (Aa (BV (v:=.ref Av) (by rfl) T.gW rfl) Ab))) (Aa (A9 (CI ay.ga) (by rfl) T.n_isinstance aa (Aa p_ (Aa (BV (v:=.ref Aq) (by rfl) T.gX rfl) Ab))) (Aa (A9 (CI ay.ga) (by rfl) T.n_isinstance aa (Aa p_ (Aa (BV (v:=.ref Y7) (by rfl) T.gY rfl) Ab))) (Aa (A9 (CI ay.ga) (by rfl) T.n_isinstance aa (Aa p_ (Aa (BV (v:=.ref Bb) (by rfl) T.gZ rfl) Ab))) Ab)))))) (Ac (i_ 5 D6 (Ak Fc o_ (Bk (Aa (A9 (CI ay.ga) (by rfl) T.n_isinstance aa (Aa p_ (Aa (BV (v:=.ref Y2) (by rfl) T.hU rfl) Ab))) (Aa (A9 (CI ay.ga) (by rfl) T.n_isinstance aa (Aa p_ (Aa (BV (v:=.ref Y6) (by rfl) T.hV rfl) Ab))) (Aa (A9 (CI ay.ga) (by rfl) T.n_isinstance aa (Aa p_ (Aa (BV (v:=.ref Y9) (by rfl) T.hW rfl) Ab))) Ab)))))) (Ac (i_ 5 D6 (Ak Fc o_ (Bk (Aa (A9 (CI ay.ga) (by rfl) T.n_isinstance aa (Aa p_ (Aa (BV (v:=.ref Ar) (by rfl) T.hZ rfl) Ab))) (Aa (A9 (CI ay.ga) (by rfl) T.n_isinstance aa (Aa p_ (Aa (BV (v:=.ref Y5) (by rfl) T.iA rfl) Ab))) (Aa (A9 (CI ay.ga) (by rfl) T.n_isinstance aa (Aa p_ (Aa (BV (v:=.ref Ao) (by rfl) T.QW rfl) Ab))) Ab)))))) (Ac (i_ 5 D6 (Ak Fc o_ (Bk (Aa (A9 (CI ay.ga) (by rfl) T.n_isinstance aa (Aa p_ (Aa (Jj (v:=.ty "ValueError") (by rfl) T.gQ nM rfl) Ab))) (Aa (A9 (CI ay.ga) (by rfl) T.n_isinstance aa (Aa p_ (Aa (BV (v:=.ref Y3) (by rfl) T.iB rfl) Ab))) (Aa (A9 (CI ay.ga) (by rfl) T.n_isinstance aa (Aa p_ (Aa (BV (v:=.ref Bc) (by rfl) T.iC rfl) Ab))) Ab)))))) (Ah (i_ 5 D6 (Ak Fc o_ (Bk (Aa (A9 (CI ay.ga) (by rfl) T.n_isinstance aa (Aa p_ (Aa (BV (v:=.ref Bd) (by rfl) T.iD rfl) Ab))) Ab)))))))))) vg)) (Ah (An (Bs (Aa (k_ Dm hr (Aa o_ Ab)) (Aa q_ Ab)))))))),?_⟩;walk_at "D";obtain⟨x,wh,one,c,k,RE,RQ,rfl,hd,qe,q⟩:=h;walk_at "";intro p0 n0;walk_at "";refine hd p0 n0 _ _ (λe H1 hR=>⟨_,rfl,λy hy=>υ ⟨T_ft T e,?_⟩⟩) (λv H2 hR h02=>?_)
 . have s2:=(Same.refl H1).put (o:=tT y ((cE6 Av Aq Y2 Y9 Ar Ao) e) none) hy;have hy2:upd H1 y (tT y ((cE6 Av Aq Y2 Y9 Ar Ao) e) none) y=some (tT y ((cE6 Av Aq Y2 Y9 Ar Ao) e) none):=upd_same;generalize upd H1 y (tT y ((cE6 Av Aq Y2 Y9 Ar Ao) e) none)=H2 at s2 hy2 ⊢;have x1:=T_zx T e;have i0:=T_i0 T e;have i1:=T_i1 T e;have i2:=T_i2 T e;have i3:=T_i3 T e;have i4:=T_i4 T e;have i5:=T_i5 T e;have i6:=T_i6 T e;have i7:=T_i7 T e;have i8:=T_i8 T e;have i9:=T_i9 T e;have i10:=T_i10 T e;have i11:=T_i11 T e;have i12:=T_i12 T e;have i13:=T_i13 T e;walk_at "";intro p1 m1;have hy1:=(Same.new (o:=.lst [.bl (flE e 0),.bl (flE e 1),.bl (flE e 2),.bl (flE e 3)]) m1) y _ hy2;have s3:Same H2 (upd H2 p1 (.lst [.bl (flE e 0),.bl (flE e 1),.bl (flE e 2),.bl (flE e 3)])):=Same.new m1;have hp1:upd H2 p1 (.lst [.bl (flE e 0),.bl (flE e 1),.bl (flE e 2),.bl (flE e 3)]) p1=some (.lst [.bl (flE e 0),.bl (flE e 1),.bl (flE e 2),.bl (flE e 3)]):=upd_same;generalize upd H2 p1 (.lst [.bl (flE e 0),.bl (flE e 1),.bl (flE e 2),.bl (flE e 3)])=H3 at hy1 s3 hp1 ⊢;walk_at "";refine wg hp1 hy1 (by simp) (λp3 H4 s4 hy3 hp3=>?_);simp only [ci,cb] at hp3;walk_at "";refine wg hp3 hy3 (by simp) (λp5 H5 s5 hy5 hp5=>?_);simp only [ci,cb] at hp5;walk_at "";refine u_ (C:=(cE6 Av Aq Y2 Y9 Ar Ao) e) (od:=none) hy5 x1 i10 ?_;walk_at "";refine wg hp5 hy5 (by simp) (λp7 H6 s6 hy7 hp7=>?_);simp only [ci,cb] at hp7;walk_at "";refine wg hp7 hy7 (by simp) (λp9 H7 s7 hy9 hp9=>?_);simp only [ci,cb] at hp9;walk_at "";refine⟨p9,(fv 14).map (flE e),rfl,hp9,by simp,λp H8 s8 hp=>?_⟩;have hp:H8 p=some (.lst ((Hw ((fv 14).map (flE e)) 14).map V.str)):=hp;rw[vd] at hp;walk_at "";intro t nt;have sA:=(((((s2.trans s3).trans s4).trans s5).trans (s6.trans s7)).trans s8)
   exact qe e H1 hR t p _ (sA.trans (Same.new nt)) upd_same ((Same.new nt) p _ hp)
 . walk_at "";refine⟨p0,[],rfl,h02,gf _,λp H3 s3 hp=>?_⟩;walk_at "";intro t nt;exact q v H2 hR t p _ (s3.trans (Same.new nt)) upd_same ((Same.new nt) p _ hp)
/-! ### lists of tuples of flat values,compared -/
def TsAt(H:Hp)(us:List V)(xss:List (List V)):Prop:=us.length=xss.length/\∀(i:Nat) (xs:List V),xss[i]?=some xs->∃t,us[i]?=some (.ref t)/\H t=some (.tup xs)
def um(xss yss:List (List V)):Bool:=decide (xss.length=yss.length)&&(fv xss.length).all λj=>tR (xss.getD j []) (yss.getD j [])
theorem nN{xss:List (List V)}(hf:∀xs∈xss,xs.all Bt=true):um xss xss=true:=by
 unfold um;rw[decide_eq_true rfl,qb,dn];intro j hj;have hj:j<xss.length:=lx.mp hj;exact NO (hf _ (by rw[bc,ah hj];exact az hj))
theorem nO{xss yss:List (List V)}(h:xss.length≠yss.length):um xss yss=false:=by
 unfold um;rw[decide_eq_false h,pf]
theorem nP{X:Cx}(hu:X.A.units+64<rl):OpR X (rc .Eq) (λx y H Q=>∃a b us ws xss yss,x = .ref a/\y = .ref b/\H a=some (.lst us)/\H b=some (.lst ws)/\TsAt H us xss/\TsAt H ws yss/\(∀xs∈xss,xs.all Bt=true)/\(∀ys∈yss,ys.all Bt=true)/\Q (.bl (um xss yss)) H):=by
 intro pins s σ H x y v u Q I rx ry h;obtain⟨a,b,us,ws,xss,yss,rfl,rfl,ha,hb,pu,pw,f1,f2,q⟩:=h;cases rx;cases ry;obtain⟨its,r1,p1,_⟩:=I.list (SqL.of ha);obtain⟨its2,r2,p2,_⟩:=I.list (SqL.of hb);have l1:=r1.length;have l2:=r2.length;have m1:=pu.1;have m2:=pw.1;have key:SeqAt.RcAt X.A s (.ref a) (.ref b) (um xss yss):=by
   by_cases hlen:xss.length=yss.length
   . have:=kg (A:=X.A) (s:=s) (e:=λj=>tR (xss.getD j []) (yss.getD j [])) p1.isList p2.isList (by rw[ν,ν];omega) (by omega) λj h1 h2=>by
       rw[ν] at h1 h2;have hj:j<xss.length:=by omega
       have hj2:j<yss.length:=by omega
       obtain⟨t1,e1,g1⟩:=pu.2 j xss[j] (by simp [hj]);obtain⟨t2,e2,g2⟩:=pw.2 j yss[j] (by simp [hj2]);obtain⟨u1,k1,q1⟩:=r1.get e1;obtain⟨u2,k2,q2⟩:=r2.get e2;cases q1;cases q2;obtain⟨_,k1⟩:=δ.mp k1;obtain⟨_,k2⟩:=δ.mp k2;have ex:xss.getD j []=xss[j]:=by simp [hj]
       have ey:yss.getD j []=yss[j]:=by simp [hj2]
       have z:SeqAt.EqAt X.A.in1 s (.ref t1) (.ref t2) (tR xss[j] yss[j]):=by
         by_cases e:t1=t2
         . subst e;rw[g1] at g2;rw[<-HO.tup.inj (ae g2),NO (f1 _ (az hj))];exact jd _
         . exact ng e (bZ (A:=X.A.in1) (by show X.A.units+1<rl;omega) I (SqT.of g1) (SqT.of g2) (f1 _ (az hj)) (f2 _ (az hj2)))
       rw[<-ex,<-ey,<-k1,<-k2] at z;simpa using z
     have e:um xss yss=(fv its.toArray.size).all λj=>tR (xss.getD j []) (yss.getD j []):=by
       unfold um;rw[decide_eq_true hlen,qb,ν,<-l1,m1]
     rw[e];exact this
   . rw[nO hlen];exact kd p1.isList p2.isList (by rw[ν,ν];simp;omega) (by omega)
 exact key _ _ _ _ ⟨.bl _,H,I,rfl,q⟩
/-! ### lists of texts compared,a pair of a list and None compared,a text's slice told -/
section
variable {X:Cx}
theorem PL(hu:X.A.units+64<rl):OpR X (rc .Eq) (λx y H Q=>∃a b xs ys,x = .ref a/\y = .ref b/\H a=some (.lst xs)/\H b=some (.lst ys)/\xs.all Bt=true/\ys.all Bt=true/\Q (.bl (tR xs ys)) H):=by
 intro pins s σ H x y v u Q I rx ry h;obtain⟨a,b,xs,ys,rfl,rfl,ha,hb,hf,hg,q⟩:=h;cases rx;cases ry;obtain⟨its,r1,p1,_⟩:=I.list (SqL.of ha);obtain⟨its2,r2,p2,_⟩:=I.list (SqL.of hb);have l1:=r1.length;have l2:=r2.length;have key:SeqAt.RcAt X.A s (.ref a) (.ref b) (tR xs ys):=by
   by_cases hlen:xs.length=ys.length
   . have:=kg (A:=X.A) (s:=s) (e:=λj=>eqV (xs.getD j .non) (ys.getD j .non)) p1.isList p2.isList (by rw[ν,ν];omega) (by omega) λj h1 h2=>by
       rw[ν] at h1 h2;have hj:j<xs.length:=by omega
       have hj2:j<ys.length:=by omega
       obtain⟨u1,e1,q1⟩:=r1.get (i:=j) (x:=xs[j]) (by simp [hj]);obtain⟨u2,e2,q2⟩:=r2.get (i:=j) (x:=ys[j]) (by simp [hj2]);obtain⟨g1,f1⟩:=δ.mp e1;obtain⟨g2,f2⟩:=δ.mp e2;have z:=Nv (A:=X.A.in1) (s:=s) q1 q2 (dn.mp hf _ (az hj)) (dn.mp hg _ (az hj2));have ex:xs.getD j .non=xs[j]:=by simp [hj]
       have ey:ys.getD j .non=ys[j]:=by simp [hj2]
       rw[<-ex,<-ey,<-f1,<-f2] at z;simpa using z
     have e:tR xs ys=(fv its.toArray.size).all λj=>eqV (xs.getD j .non) (ys.getD j .non):=by
       unfold tR;rw[ν,<-l1,<-hlen,Nat.min_self];simp
     rw[e];exact this
   . have e:tR xs ys=false:=by
       unfold tR;rw[show (xs.length==ys.length)=false from beq_eq_false_iff_ne.mpr hlen,ma]
     rw[e];exact kd p1.isList p2.isList (by rw[ν,ν];simp;omega) (by omega)
 exact key _ _ _ _ ⟨.bl _,H,I,rfl,q⟩
theorem Rg(hu:X.A.units+64<rl):OpR X (rc .NotEq) (λx y H Q=>∃a b l1 l2 xs,x = .ref a/\y = .ref b/\H a=some (.tup [.ref l1,.non])/\H b=some (.tup [.ref l2,.non])/\H l1=some (.lst xs)/\H l2=some (.lst xs)/\xs.all Bt=true/\Q (.bl false) H):=by
 intro pins s σ H x y v u Q I rx ry h;obtain⟨a,b,l1,l2,xs,rfl,rfl,ha,hb,h1,h2,hf,q⟩:=h;cases rx;cases ry;obtain⟨its,r1,p1,_⟩:=I.tuple (SqT.of ha);obtain⟨its2,r2,p2,_⟩:=I.tuple (SqT.of hb);obtain⟨w0,w1,rfl,q0,q1⟩:=Id r1;obtain⟨z0,z1,rfl,q2,q3⟩:=Id r2;cases q0;cases q1;cases q2;cases q3;have k0:SeqAt.EqAt X.A.in1 s (.ref l1) (.ref l2) true:=by
   by_cases e:l1=l2
   . rw[e];exact jd _
   . exact ng e (eK (A:=X.A.in1) (by show X.A.units+1<rl;omega) I h1 h2 hf)
 have key:=SeqAt.RcNeAt.tuples (A:=X.A) (s:=s) (e:=λ_=>true) p1 p2 (by omega) λj g1 g2=>by
   rcases(show j=0\/j=1 by simp at g1;omega) with rfl | rfl
   . exact k0
   . exact jd _
 exact key _ _ _ _ ⟨.bl false,H,I,rfl,q⟩
def rSlX:V->Option Int->Option Int->Hp->VK->Prop:=λx lo hi H Q=>∃z,x = .str z/\z.length<=qT/\Q (.str (Txt.slice z lo hi)) H
theorem nQ:SlR X rSlX:=by
 intro pins s σ H x v vl vu lo hi sl Q I rx hs pl pu h;obtain⟨z,rfl,hz,q⟩:=h;obtain⟨t,rfl⟩:=rx;refine⟨"str",_,PySem.F.slot_str_getitem.lookup,typeIs_str _ _ _,?_⟩;have key:∀(l u:Option (Int×Tok)),l.map (·.1)=lo->u.map (·.1)=hi->s.heap.IsSlice sl l u none->qX (rj X.prog X.w) X.A (getItem (.str z t) (.ref sl)) (EP X pins σ Q) X.xe s:=λl u e1 e2 hsl =>
   wpAny_getItem_str_slice (l:=l) (u:=u) (st:=none) hsl rfl (post_val_or_str ⟨bp (Txt.slice_le z _ _) hz,λt' k=>⟨.str _,H,I.tok k,⟨_,rfl⟩,by rw[<-e1,<-e2] at q;exact q⟩⟩)
 obtain⟨o,e,c,d⟩:=hs;cases pl with
 | none =>
   cases pu with
   | none=>exact key none none rfl rfl ⟨o,e,c,d⟩
   | int j uj=>exact key none (some (_,_)) rfl rfl ⟨o,e,c,d⟩
 | int i ui =>
   cases pu with
   | none=>exact key (some (_,_)) none rfl rfl ⟨o,e,c,d⟩
   | int j uj=>exact key (some (_,_)) (some (_,_)) rfl rfl ⟨o,e,c,d⟩
end
theorem r_slX{z:Str}{lo hi:Option Int}{H:Hp}{Q:VK}(hz:z.length<=qT)(q:Q (.str (Txt.slice z lo hi)) H):rSlX (.str z) lo hi H Q:=⟨z,rfl,hz,q⟩
theorem nR{k:Int}(h0:0<=k)(h1:k<4):∃i,atI [V.str "first",V.str "best",V.str "next",V.str "likes"] k=some (.str (Bz i)):=by
 rcases(show k=0\/k=1\/k=2\/k=3 by omega) with rfl | rfl | rfl | rfl
 . exact⟨.first,rfl⟩
 . exact⟨.best,rfl⟩
 . exact⟨.next,rfl⟩
 . exact⟨.likes,rfl⟩
def YS:List Str:=["first","best","next","likes"]
def ua(w:Str):List Str:=[Txt.upper w,w++"s",Txt.slice w (some 1) none,"halves","shelves","row",""," "++w]
theorem YT(i:W4):∀u∈ua (Bz i),u ∉ YS/\u ∉ ue:=by cases i <;> decide +kernel
theorem nS(i:W4):Bz i ∉ ue:=by cases i <;> decide +kernel
theorem nU(i:W4):Bz i∈YS:=by cases i <;> decide +kernel
theorem nV(i:W4):(Bz i).length<=5:=by cases i <;> decide +kernel
theorem nW(i:W4):Builtin.Str.tooLong (Txt.upper (Bz i)).length=false:=by cases i <;> decide +kernel
theorem vo{w:Str}{k:Int}(h0:0<=k)(h1:k<8):∃u,atI ((ua w).map V.str) k=some (.str u)/\u∈ua w:=by
 have hk:k.toNat<(ua w).length:=by show k.toNat<8;omega
 refine⟨(ua w)[k.toNat],?_,az hk⟩;have:=PF (xs:=(ua w).map V.str) (i:=k.toNat) (v:=.str (ua w)[k.toNat]) (by rw[Ψ,ah hk];rfl)
 rwa [ic h0] at this
def uf(TP:qH)(H:Hp):Hp:=λb=>if b=TP then none else H b
theorem nX{TP b:qH}{H:Hp}{o:HO}(h:uf TP H b=some o):H b=some o/\b≠TP:=by
 unfold uf at h
 split at h
 . cases h
 . rename_i e;exact⟨h,e⟩
def szF(ns:List Int):Int:=1+ns.getD (1:Int).toNat 0%60
theorem Rh{CE:Er6->qH}{C:W4->qH}{CH TP CA CR CX CC CN CS:qH}{H:Hp}{Q:VK}{E:XK}{wd:Str}{e:Er6}(hN:CE .name=CN)(hS:CE .size=CS)(ho:wd ∉ ue)(h:(e = .name/\∀i,wd≠Bz i)\/(e = .size/\n<1/\∃i,wd=Bz i))(hn:n<=60)(tb:TbOk H TP uk Fn)
   (q:∀(t l:qH) (H':Hp),Same H H'->H' t=some (.tup [.ref l,.non])->H' l=some (.lst [.str (wE6 e),.str "base"])->Q (.ref t) H'):PJ CE C CH TP CA CR CX CC CN CS [.non,.str wd,.int 0,.int n,.int 0] H Q E:=by
 refine⟨.non,wd,0,n,0,λe' H'=>e'=e/\Same H H',λ_ _=>False,rfl,λp0 n0 QV EX hE hQ=>?_,λe2 H2 ⟨h2,s⟩ t l H' s'=>by rw[h2];exact q t l H' (s.trans s'),λ_ _ h=>h.elim⟩;refine⟨.non,wd,0,n,0,rfl,.inr (.inr (.inr (.inr (.inr (.inr (.inr (.inr ⟨ho,λy dy ny ndy nex=>?_⟩)))))))⟩;have s0:Same H (upd H p0 (.lst [])):=Same.new n0;have s6:Same (upd H p0 (.lst [])) (upd (upd (upd H p0 (.lst [])) dy (.own y)) y (.ins CH dy [])):=(Same.new ndy).put ny;have sA:=s0.trans s6;refine⟨λ_=>none,y,dy,n,wd,rfl,upd_same,hn,tb.same sA,(λb o h=>by cases h),λhw H' s=>?_,λi hi h1 H' s=>?_,λi hi h1=>?_⟩
 . rcases h with ⟨rfl,_⟩ | ⟨_,_,i,e⟩
   . rw[<-hN];exact hE .name H' ⟨rfl,sA.trans s⟩
   . exact absurd e (hw i)
 . rcases h with ⟨_,hw⟩ | ⟨rfl,_⟩
   . exact absurd hi (hw i)
   . rw[<-hS];exact hE .size H' ⟨rfl,sA.trans s⟩
 . rcases h with ⟨_,hw⟩ | ⟨_,h2,_⟩
   . exact absurd hi (hw i)
   . omega
abbrev tm(K:γ)(C:W4->qH)(CH TP:qH)(a:qH)(ns:List Int)(H:Hp)(Q:VK):Prop:=∀y H',Wn C CH TP (uf TP H) y 0 (Cq (szF ns)) [⟨0,szF ns,false⟩] (λ_=>none) H'->Q (.ref y) H'
def YU(K:γ)(C:W4->qH)(CH TP:qH):Sp:=λvs H Q _=>∃(a:qH) (ns:List Int),vs=[.ref a]/\SqL K H a (ns.map V.int)/\TbOk H TP uk Fn/\tm K C CH TP a ns H Q
variable (Bj:tE P w K mg base "_law_cell_at" 1 ["_law_script","_law_k"] (Qk K))
variable (Bn:tE P w K mg base "_law_call" 13 ["_law_desk","_law_which","_law_one","_law_count","_law_k"] (PJ (cE6 Av Aq Y2 Y9 Ar Ao) (cF Ae Af Ad Ag) Y4 TP Ar Ao Y2 Y9 Av Aq))
seal L2.PSs L2.PS L2.PE L2.PA in
include T D_Handles Bj Bn in
theorem Lc(S:Src K mg "_law_made" OT):tE P w K mg base "_law_made" 14 ["_law_script"] (YU K (cF Ae Af Ad Ag) Y4 TP):=by
 refine S.okx II GK λf cdv A outer s H vs Q E hr h=>⟨_,PSs.nox (Ac (i_ 1 II (k_ Bj hr (Aa l_ (Aa Aj Ab)))) (Ac (i_ 2 II (AM Bf (Bk (Aa At (Aa At (Aa At (Aa At Ab))))) (Ak BB ld Aj) (λ_ _=>rfl))) (Ac (i_ 3 II (Ak AN Aj (Ak BB (k_ Bj hr (Aa l_ (Aa Aj Ab))) Aj))) (Ac (i_ 4 II (AM Bf (Bk (Aa (Wb PySem.F.plainAttrs_str PySem.F.slot_str_upper PySem.F.type_str_upper fB mt) (Aa (Ak Xl mt At) (Aa (Jn nQ mt (FK Aj) P6) (Aa At (Aa At (Aa At (Aa At (Aa (Ak Xl At mt) Ab))))))))) (Ak BB (k_ Bj hr (Aa l_ (Aa Aj Ab))) Aj) (λ_ _=>rfl))) (Ac (i_ 5 II (Ak Bw Aj (Ak BB (k_ Bj hr (Aa l_ (Aa Aj Ab))) Aj))) (Ac (Az (PW.pt (Cr (Ax AZ (Ak BB (Ak Eb ld Aj) Aj) Aj) (DB (Ax (Rg hr.units) (k_ Bn hr (Aa Br (Aa n_ (Aa Aj (Aa m_ (Aa Aj Ab)))))) (Bs (Aa (Bk (Aa At (Aa At Ab))) (Aa Br Ab))))))) (Ah (An Br)) AA) (Ac (Az (PW.pt (Cr (Ax AZ (Ak BB (Ak Eb ld Aj) Aj) Aj) (DB (Ax (Rg hr.units) (k_ Bn hr (Aa Br (Aa mt (Aa Aj (Aa o_ (Aa Aj Ab)))))) (Bs (Aa (Bk (Aa At (Aa At Ab))) (Aa Br Ab))))))) (Ah (An Br)) AA) (Ac (Az (PW.pt (Cr (Ax AZ (Ak BB (Ak Eb ld Aj) Aj) Aj) (DB (Ax (Rg hr.units) (k_ Bn hr (Aa Br (Aa n_ (Aa Aj (Aa o_ (Aa Aj Ab)))))) (Bs (Aa (Bk (Aa At (Aa At Ab))) (Aa Br Ab))))))) (Ah (An Br)) AA) (Ah (An (Io D_Handles BD hr (by rfl) (Aa m_ (Aa mt Ab))))))))))))),?_⟩;walk_at "D";obtain⟨a,ns,rfl,hS,tb,q⟩:=h;unfold tm szF at q;have c40:=eo (ns.getD (0:Int).toNat 0) (show (4:Int)≠0 by decide);have c41:=cu (ns.getD (0:Int).toNat 0) (show (0:Int)<4 by decide);have z0:=eo (ns.getD (1:Int).toNat 0) (show (60:Int)≠0 by decide);have z1:=cu (ns.getD (1:Int).toNat 0) (show (0:Int)<60 by decide);have o0:=eo (ns.getD (2:Int).toNat 0) (show (8:Int)≠0 by decide);have o1:=cu (ns.getD (2:Int).toNat 0) (show (0:Int)<8 by decide);have t0:=eo (ns.getD (2:Int).toNat 0) (show (10:Int)≠0 by decide);walk_at "";intro l1 hl1;have s1:Same H (upd H l1 (.lst [.str "first",.str "best",.str "next",.str "likes"])):=Same.new hl1;have h1:upd H l1 (.lst [.str "first",.str "best",.str "next",.str "likes"]) l1=some (.lst [.str "first",.str "best",.str "next",.str "likes"]):=upd_same;generalize upd H l1 (.lst [.str "first",.str "best",.str "next",.str "likes"])=H1 at s1 h1 ⊢;have hS1:=s1.seq hS;walk_at "";obtain⟨i,ei⟩:=nR c40 c41;refine Ff (SqL.of h1) ei ?_;walk_at "";refine⟨rfl,_,rfl,rfl,nW i,?_⟩;have wl:=nV i;walk_at "";refine⟨_,_,rfl,rfl,bp (Nat.add_le_add_right wl _) (by decide +kernel),?_⟩;walk_at "";refine r_slX (bp wl (by decide +kernel)) ?_;walk_at "";refine⟨_,_,rfl,rfl,bp (Nat.add_le_add_left wl _) (by decide +kernel),?_⟩;walk_at "";intro l2 hl2;have s2:Same H1 (upd H1 l2 (.lst ((ua (Bz i)).map V.str))):=Same.new hl2;have h2:upd H1 l2 (.lst ((ua (Bz i)).map V.str)) l2=some (.lst ((ua (Bz i)).map V.str)):=upd_same;generalize eH2:upd H1 l2 _=H2;have eH2:upd H1 l2 (.lst ((ua (Bz i)).map V.str))=H2:=eH2;rw[eH2] at s2 h2;have hS2:=s2.seq hS1;walk_at "";obtain⟨u,eu,hu⟩:=vo (w:=Bz i) o0 o1;refine Ff (SqL.of h2) eu ?_;have tb2:=(tb.same s1).same s2;have sA:=s1.trans s2;have hw:∀j,u≠Bz j:=λj e=>(YT i u hu).1 (by rw[e];exact nU j);have hno:=(YT i u hu).2;obtain⟨c0,ec0⟩:∃c0:Int,ns.getD (0:Int).toNat 0=c0:=⟨_,rfl⟩
 obtain⟨n,en,n1,n2⟩:∃n:Int,1+ns.getD (1:Int).toNat 0%60=n/\1<=n/\n<=60:=⟨_,rfl,by omega,by omega⟩
 obtain⟨lo,elo,lo1⟩:∃lo:Int,0-ns.getD (2:Int).toNat 0%10=lo/\lo<1:=⟨_,rfl,by omega⟩
 walk_at "s";rw[en] at q;simp only [en,elo,ec0];clear eu hu c40 c41 z0 z1 o0 o1 t0 h1 h2 hl1 hl2 ei eH2 hS1 hS;refine Ec (M:=λσ' H'=>σ'=[some (.ref a),some (.int c0),some (.str (Bz i)),some (.int n),some (.str u),some (.int lo)]/\Same H2 H') ?_ (λnx hM=>?_)
 rotate_left
 . have s30:=Same.refl H2;walk_at "";refine AO (λhc=>?_) (λhc=>?_)
   . walk_at "";refine Rh (e:=.name) rfl rfl hno (.inl ⟨rfl,hw⟩) (by omega) (tb2.same s30) (λt l H4 s4 ht hl=>?_);walk_at "";intro l3 hl3;have s5:Same H4 (upd H4 l3 (.lst [.str "name",.str "base"])):=Same.new hl3;have g3:upd H4 l3 (.lst [.str "name",.str "base"]) l3=some (.lst [.str "name",.str "base"]):=upd_same;generalize upd H4 l3 (.lst [.str "name",.str "base"])=H5 at s5 g3 ⊢;walk_at "";intro t3 ht3;have s6:Same H5 (upd H5 t3 (.tup [.ref l3,.non])):=Same.new ht3;refine⟨t,t3,l,l3,[.str "name",.str "base"],rfl,rfl,s6 t _ (s5 t _ ht),upd_same,s6 l _ (s5 l _ hl),s6 l3 _ g3,rfl,?_⟩;walk_at "";exact hM _ _ ⟨rfl,s30.trans ((s4.trans s5).trans s6)⟩
   . walk_at "";exact hM _ _ ⟨rfl,s30⟩
 rintro σ31 H31 ⟨rfl,s31⟩;refine Ec (M:=λσ' H'=>σ'=[some (.ref a),some (.int c0),some (.str (Bz i)),some (.int n),some (.str u),some (.int lo)]/\Same H2 H') ?_ (λnx hM=>?_)
 rotate_left
 . walk_at "";refine AO (λhc=>?_) (λhc=>?_)
   . walk_at "";refine Rh (e:=.size) rfl rfl (nS i) (.inr ⟨rfl,lo1,i,rfl⟩) (by omega) (tb2.same s31) (λt l H4 s4 ht hl=>?_);walk_at "";intro l3 hl3;have s5:Same H4 (upd H4 l3 (.lst [.str "size",.str "base"])):=Same.new hl3;have g3:upd H4 l3 (.lst [.str "size",.str "base"]) l3=some (.lst [.str "size",.str "base"]):=upd_same;generalize upd H4 l3 (.lst [.str "size",.str "base"])=H5 at s5 g3 ⊢;walk_at "";intro t3 ht3;have s6:Same H5 (upd H5 t3 (.tup [.ref l3,.non])):=Same.new ht3;refine⟨t,t3,l,l3,[.str "size",.str "base"],rfl,rfl,s6 t _ (s5 t _ ht),upd_same,s6 l _ (s5 l _ hl),s6 l3 _ g3,rfl,?_⟩;walk_at "";exact hM _ _ ⟨rfl,s31.trans ((s4.trans s5).trans s6)⟩
   . walk_at "";exact hM _ _ ⟨rfl,s31⟩
 rintro σ32 H32 ⟨rfl,s32⟩;refine Ec (M:=λσ' H'=>σ'=[some (.ref a),some (.int c0),some (.str (Bz i)),some (.int n),some (.str u),some (.int lo)]/\Same H2 H') ?_ (λnx hM=>?_)
 rotate_left
 . walk_at "";refine AO (λhc=>?_) (λhc=>?_)
   . walk_at "";refine Rh (e:=.name) rfl rfl hno (.inl ⟨rfl,hw⟩) (by omega) (tb2.same s32) (λt l H4 s4 ht hl=>?_);walk_at "";intro l3 hl3;have s5:Same H4 (upd H4 l3 (.lst [.str "name",.str "base"])):=Same.new hl3;have g3:upd H4 l3 (.lst [.str "name",.str "base"]) l3=some (.lst [.str "name",.str "base"]):=upd_same;generalize upd H4 l3 (.lst [.str "name",.str "base"])=H5 at s5 g3 ⊢;walk_at "";intro t3 ht3;have s6:Same H5 (upd H5 t3 (.tup [.ref l3,.non])):=Same.new ht3;refine⟨t,t3,l,l3,[.str "name",.str "base"],rfl,rfl,s6 t _ (s5 t _ ht),upd_same,s6 l _ (s5 l _ hl),s6 l3 _ g3,rfl,?_⟩;walk_at "";exact hM _ _ ⟨rfl,s32.trans ((s4.trans s5).trans s6)⟩
   . walk_at "";exact hM _ _ ⟨rfl,s32⟩
 rintro σ33 H33 ⟨rfl,s33⟩;walk_at "";intro y dy ny ndy nex;have s6:Same H33 (upd (upd H33 dy (.own y)) y (.ins Y4 dy [])):=(Same.new ndy).put ny;have sB:=(sA.trans s33).trans s6;refine⟨uf TP H,y,dy,n,Bz i,rfl,upd_same,n2,(tb2.same s33).same s6,λb o hb=>?_,λh=>absurd rfl (h i),λj _ h=>absurd h (by omega),λj _ _ H' W=>⟨rfl,q y H' W⟩⟩;obtain⟨g1,g2⟩:=nX hb;exact⟨sB b o g1,(λe=>by
   have:=(sA.trans s33) b o g1;rw[e,ny] at this;cases this),g2⟩
theorem r_chain{σ:L2.St}{H:Hp}{Q:VK}{r r':R2}{ta tb tc:TE}(h:ta σ H λx H1=>tb σ H1 λy H2=>r x y H2 λz H3=>∃k,z = .bl k/\(if k=true then tc σ H3 λw' H4=>r' y w' H4 Q else Q (.bl false) H3)):VV r r' ta tb tc σ H Q:=h
theorem vS{w v:Str}:(v==w)=decide (w=v):=by
 rw[gq];exact⟨λh=>decide_eq_true (eq_of_beq h).symm,λh=>beq_iff_eq.mpr (of_decide_eq_true h).symm⟩
theorem in_2{u v w:Str}:inV (.str w) [.str u,.str v]=(decide (w=u)||decide (w=v)):=by
 show ((u==w)||((v==w)||false))=_;rw[mn,vS,vS]
theorem in_3{u v w x:Str}:inV (.str w) [.str u,.str v,.str x]=(decide (w=u)||decide (w=v)||decide (w=x)):=by
 show ((u==w)||((v==w)||((x==w)||false)))=_;rw[mn,vS,vS,vS,Bool.or_assoc]
theorem or_t{p q:Prop}[Decidable p][Decidable q](h:(decide p||decide q)=true):p\/q:=(pc _ _▸h).imp of_decide_eq_true of_decide_eq_true
theorem or_f{p q:Prop}[Decidable p][Decidable q](h:(decide p||decide q)=false):¬(p\/q):=λg =>
 have h:=Bool.or_eq_false_iff.mp h
 g.elim (of_decide_eq_false h.1) (of_decide_eq_false h.2)
def uu(wh:Str)(lv:Option Int)(c k sz:Int):Str :=
 if wh="ask" then (if c<1 then "ask" else if sz<c+2 then "room" else "")
 else if wh="gather" then (if c<1 then "ask" else if sz<c then "room" else "")
 else match lv with
   | none=>"handle"
   | some m=>if (wh="get"\/wh="put")/\¬(0<=k/\k<m) then "cell" else if wh="grow"/\c<1 then "ask" else ""
theorem vf(p:Prop)[Decidable p]:atI [V.str "",V.str "room"] (if decide p=true then 1 else 0)=some (.str (if p then "room" else "")):=by
 by_cases h:p
 . rw[if_pos h,if_pos (decide_eq_true h)];rfl
 . rw[if_neg h,if_neg (by rw[decide_eq_false h];exact η)];rfl
def uV:Sp:=λvs H Q _=>∃(dh:qH) (hk:List (Int×Int)) (wh:Str) (one c k sz:Int),vs=[.ref dh,.str wh,.int one,.int c,.int k,.int sz]/\H dh=some (.dK (hk.map dkE))/\∀H',Same H H'->Q (.str (uu wh (AQ hk one) c k sz)) H'
seal L2.PSs L2.PS L2.PE L2.PA in
include T in
theorem Ld(S:Src K mg "_law_due" OU):tE P w K mg base "_law_due" 1 ["_law_held","_law_which","_law_one","_law_count","_law_k","_law_size"] (uV):=by
 refine S.okx GL GM λf cdv A outer s H vs Q E hr h=>⟨_,PSs.nox (Ac (Az (Ax AZ ld At) (Ac (Az (Ax Cb m_ Aj) (Ah (An At)) AA) (Ah (An (AM Bf (Bk (Aa At (Aa At Ab))) (Fa VX (by rfl) T.n_int iy (Aa (BW E8 (Ak AN m_ Aj) o_) Ab)) (λ_ _=>rfl))))) AA) (Ac (Az (Ax AZ ld At) (Ac (Az (Ax Cb m_ Aj) (Ah (An At)) AA) (Ah (An (AM Bf (Bk (Aa At (Aa At Ab))) (Fa VX (by rfl) T.n_int iy (Aa (BW E8 m_ o_) Ab)) (λ_ _=>rfl))))) AA) (Ac (Az (PV (WI (DA hr.units) mt l_)) (Ah (An At)) AA) (Ac (Az (PW.pt (Cr (Ax Qa ld (Bs (Aa At (Aa At Ab))) rfl) (DB (CD (Zu No Cb Aj n_ (Jx (DA hr.units) l_ mt (λ_ _=>rfl))))))) (Ah (An At)) AA) (Ac (Az (PW.pt (Cr (Ax AZ ld At) (DB (Ax Cb m_ Aj)))) (Ah (An At)) AA) (Ah (An At))))))),?_⟩;walk_at "D";obtain⟨dh,hk,wh,one,c,k,sz,rfl,hd,q⟩:=h;unfold uu at q;walk_at "";refine AO (λh0=>?_) (λh0=>?_)
 . rw[if_pos h0] at q;walk_at "";refine AO (λh1=>?_) (λh1=>?_)
   . rw[if_pos h1] at q;walk_at "";exact q H (Same.refl _)
   . rw[if_neg h1] at q;walk_at "";intro l hl;walk_at "";refine Ff (SqL.of upd_same) (vf (sz<c+2)) ?_;walk_at "";exact q _ (Same.new hl)
 rw[if_neg h0] at q;walk_at "";refine AO (λh1=>?_) (λh1=>?_)
 . rw[if_pos h1] at q;walk_at "";refine AO (λh1=>?_) (λh1=>?_)
   . rw[if_pos h1] at q;walk_at "";exact q H (Same.refl _)
   . rw[if_neg h1] at q;walk_at "";intro l hl;walk_at "";refine Ff (SqL.of upd_same) (vf (sz<c)) ?_;walk_at "";exact q _ (Same.new hl)
 rw[if_neg h1] at q;walk_at "";refine Q4 ?_;walk_at "";refine⟨dh,_,rfl,DGet.k (k:=.inl one) hd,?_⟩;have dg:∀{H':Hp},H' dh=some (.dK (hk.map dkE))->DGet H' dh (.int one) ((AQ hk one).map V.int):=λh=>by
   have:=DGet.k (k:=.inl one) h;rw[D8] at this;exact this
 rw[D8];cases e:AQ hk one with
 | none =>
   rw[e] at q;walk_at "";rw[if_neg (show ¬((none:Option Int).map V.int).isSome=true from η)];walk_at "";exact q H (Same.refl _)
 | some m =>
   rw[e] at q dg;dsimp only at q;walk_at "";rw[if_pos (show ((some m:Option Int).map V.int).isSome=true from rfl)];walk_at "s";refine Ec (M:=λσ' H'=>Same H H'/\¬((wh="get"\/wh="put")/\¬(0<=k/\k<m))/\σ'=[some (.ref dh),some (.str wh),some (.int one),some (.int c),some (.int k),some (.int sz)]) ?_ (λnx hM=>?_)
   . rintro σ2 H2 ⟨s2,hn2,rfl⟩;rw[if_neg hn2] at q;walk_at "";refine AO (λh3=>?_) (λh3=>?_)
     . walk_at "";refine AO (λh4=>?_) (λh4=>?_)
       . rw[if_pos ⟨h3,h4⟩] at q;walk_at "";exact q H2 s2
       . rw[if_neg (λh=>h4 h.2)] at q;walk_at "";exact q H2 s2
     . rw[if_neg (λh=>h3 h.1)] at q;walk_at "";exact q H2 s2
   . walk_at "";intro t nt;have s2:Same H (upd H t (.tup [.str "get",.str "put"])):=Same.new nt;have ht:upd H t (.tup [.str "get",.str "put"]) t=some (.tup [.str "get",.str "put"]):=upd_same;generalize upd H t (.tup [.str "get",.str "put"])=H2 at s2 ht ⊢;refine⟨t,_,rfl,.inr (SqT.of ht),rfl,rfl,?_⟩;rw[if_neg η,in_2];have hkd2:=s2 dh _ hd;refine⟨_,rfl,BX (λhv=>?_) (λhv=>?_)⟩
     . have hv:=or_t hv;walk_at "";refine AO (λk0=>?_) (λk0=>?_)
       . walk_at "";refine⟨dh,.int m,rfl,dg hkd2,?_⟩;walk_at "";refine AO (λk1=>?_) (λk1=>?_)
         . walk_at "";exact hM _ _ ⟨s2,λh=>h.2 ⟨k0,k1⟩,rfl⟩
         . walk_at "";rw[if_pos ⟨hv,λh=>k1 h.2⟩] at q;exact q H2 s2
       . walk_at "";rw[if_pos ⟨hv,λh=>k0 h.1⟩] at q;exact q H2 s2
     . walk_at "";exact hM _ _ ⟨s2,λh=>or_f hv h.1,rfl⟩
def plH(Hs:Int->Option Pc)(h:Int):Int:=match Hs h with
 | some z=>z.a+1
 | none=>0
def plP(Hs:Int->Option Pc)(ms:List Int):List (Int×Int):=ms.map λh=>(plH Hs h,h)
theorem nY{kvs:List (Int×Int)}{k v:Int}(h:AQ kvs k=none):tN kvs k v=kvs++[(k,v)]:=by
 unfold tN;have e:kvs.any (λq=>decide (q.1=k))=false:=by
   rw[ni];intro q hq hd;have hd:=of_decide_eq_true hd;unfold AQ at h;rw[kx,ik] at h;exact h q hq (decide_eq_true hd)
 rw[e];rfl
structure SeenF(ps:List Pc)(Hs:Int->Option Pc)(n:Int):Prop where
 c:Ai 0 ps n
 mem:∀h z,Hs h=some z->z∈ps/\z.v=true
 all:∀z∈ps,z.v=true->∃h,Hs h=some z
 inj:∀h h' z,Hs h=some z->Hs h'=some z->h=h'
theorem SeenF.at(S:SeenF ps Hs n){h h':Int}{z z':Pc}(e:Hs h=some z)(e':Hs h'=some z')(p:z.a=z'.a):h=h':=by
 have:=Ed S.c (S.mem h z e).1 (S.mem h' z' e').1 p;subst this;exact S.inj h h' z e e'
theorem Hx{h:Int}{z:Pc}(e:Hs h=some z):plH Hs h=z.a+1:=by unfold plH;rw[e]
theorem SeenF.new(S:SeenF ps Hs n){ms:List Int}{h:Int}{z:Pc}(e:Hs h=some z)(hm:∀k∈ms,∃z,Hs k=some z)(hn:h ∉ ms):AQ (plP Hs ms) (z.a+1)=none:=by
 unfold AQ plP;rw[kx,ik];intro q hq hd;obtain⟨k,hk,rfl⟩:=am.mp hq;obtain⟨z',e'⟩:=hm k hk;have hd:=of_decide_eq_true hd;have hd:plH Hs k=z.a+1:=hd;rw[Hx e'] at hd;have:=S.at e' e (by omega);exact hn (this▸hk)
theorem SeenF.nd{ps:List Pc}{Hs:Int->Option Pc}{n:Int}(S:SeenF ps Hs n){ms:List Int}(nd:ms.Nodup)(hm:∀k∈ms,∃z,Hs k=some z):((plP Hs ms).map (·.1)).Nodup:=by
 unfold plP;rw[du]
 induction ms with
 | nil=>exact jq
 | cons h r ih =>
   rw[ed] at nd;rw[ar,ed];refine⟨λhh=>?_,ih nd.2 λk hk=>hm k (ι _ hk)⟩;obtain⟨k,hk,ek⟩:=am.mp hh;obtain⟨z,e⟩:=hm h Ξ;obtain⟨z',e'⟩:=hm k (ι _ hk);have ek:plH Hs k=plH Hs h:=ek;rw[Hx e,Hx e'] at ek;exact nd.1 (S.at e' e (by omega)▸hk)
theorem SeenF.look(S:SeenF ps Hs n){ms:List Int}(nd:ms.Nodup)(hm:∀k∈ms,∃z,Hs k=some z){h:Int}{z:Pc}(hh:h∈ms)(e:Hs h=some z):AQ (plP Hs ms) (z.a+1)=some h:=by
 refine Ej (S.nd nd hm) ?_;unfold plP;exact am.mpr ⟨h,hh,by rw[Hx e]⟩
theorem SeenF.rise(S:SeenF ps Hs n){ms qs:List Int}(nd:ms.Nodup)(hm:∀k,k∈ms↔∃z,Hs k=some z)(pm:qs.Perm ((plP Hs ms).map (·.1)))(sq:qs.Pairwise (·<=·)):qs=lvA ps:=by
 have ndp:=S.nd nd (λk hk=>(hm k).mp hk);refine JI (IE sq (pm.nodup_iff.mpr ndp)) (QL S.c) λp=>?_;rw[pm.mem_iff,XN];constructor
 . intro h;obtain⟨q,hq,rfl⟩:=am.mp h;obtain⟨k,hk,rfl⟩:=am.mp hq;obtain⟨z,e⟩:=(hm k).mp hk;exact⟨z,(S.mem k z e).1,(S.mem k z e).2,by show z.a+1=plH Hs k;rw[Hx e]⟩
 . rintro⟨z,hz,hv,rfl⟩;obtain⟨h,e⟩:=S.all z hz hv;exact am.mpr ⟨(plH Hs h,h),am.mpr ⟨h,(hm h).mpr ⟨z,e⟩,rfl⟩,by show plH Hs h=_;rw[Hx e]⟩
def Held(hk:List (Int×Int))(Hs:Int->Option Pc):Prop:=(hk.map (·.1)).Nodup/\∀h,AQ hk h=(Hs h).map λz=>z.l-2
theorem Held.keys(H:Held hk Hs){h:Int}:h∈hk.map (·.1)↔∃z,Hs h=some z:=by
 rw[XH H.1,H.2];cases Hs h with
 | none=>exact⟨λ⟨_,e⟩=>(by cases e),λ⟨_,e⟩=>(by cases e)⟩
 | some z=>exact⟨λ_=>⟨z,rfl⟩,λ_=>⟨_,rfl⟩⟩
def lvT(ps:List Pc):List (List V):=(lvF ps).map λz=>[.int (z.a+1),.int (z.l-2)]
theorem Ri(ps:List Pc):∀xs∈lvT ps,xs.all Bt=true:=λxs h=>by
 obtain⟨z,_,rfl⟩:=am.mp h;rfl
theorem nZ{i:Nat}{w:Pc}(h:ps[i]?=some w):lvT (ps.take (i+1))=lvT (ps.take i)++(if w.v=true then [[.int (w.a+1),.int (w.l-2)]] else []):=by
 rw[ap,h];unfold lvT;rw[CL,ψ]
 congr 1
 unfold lvF;cases hv:w.v <;> simp [hv]
theorem YV{H:Hp}{us:List V}{xss:List (List V)}{D t:qH}{x:List V}(h:TsAt H us xss)(hD:H D=some (.lst us))(ht:H t=none):TsAt (upd (upd H t (.tup x)) D (.lst (us++[.ref t]))) (us++[.ref t]) (xss++[x]):=by
 have hne:t≠D:=λe=>by rw[e,hD] at ht;cases ht
 have hl:=h.1;refine⟨by rw[π,π,hl];rfl,λi xs hi=>?_⟩;by_cases e:i<xss.length
 . rw[ο e] at hi;obtain⟨t',h1,h2⟩:=h.2 i xs hi;exact⟨t',by rw[ο (by omega)];exact h1,look_ne (λz=>by rw[z,hD] at h2;cases h2) (look_ne (λz=>by rw[z,ht] at h2;cases h2) h2)⟩
 . have hi':i=xss.length:=by
     have:=(δ.mp hi).1;rw[π,aj] at this;omega
   subst hi';rw[θ (Θ _),ff] at hi;have ep:=ae hi;subst ep;exact⟨t,by rw[θ (by omega),hl,ff];rfl,look_ne hne upd_same⟩
theorem TsAt.same{H H':Hp}{us:List V}{xss:List (List V)}(h:TsAt H us xss)(s:Same H H'):TsAt H' us xss:=⟨h.1,λi xs hi=>let ⟨t,h1,h2⟩:=h.2 i xs hi;⟨t,h1,s t _ h2⟩⟩
theorem YW:∀n,inV (.bl false) (aw n (V.bl true))=false
 | 0=>rfl
 | n+1=>by rw[db];exact YW n
theorem oA{ms:List Int}{i:Nat}{h:Int}(nd:ms.Nodup)(e:ms[i]?=some h):h ∉ ms.take i:=λhm=>by
 have h1:(ms.take (i+1)).Nodup:=(nq _ _).nodup nd;rw[ap,e] at h1;have:=(oh.mp h1).2.2 h hm h (by simp);exact this rfl
def WhW(H1:Hp)(D:qH)(i:Nat)(ys:List V)(H2:Hp):Prop:=Same H1 H2/\H2 D=some (.lst ys)/\ys=aw i (V.bl true)
def SnW(f0 f1 f2 f3:Option V)(D:qH)(Hs:Int->Option Pc)(ms:List Int)(H1:Hp)(i:Nat)(σ:L2.St)(H':Hp):Prop :=
 ∃x5 x6 x7:Option V,σ=[f0,f1,f2,f3,some (.ref D),x5,x6,x7]/\Same H1 H'/\H' D=some (.dK ((plP Hs (ms.take i)).map dkE))
def LvW(H1:Hp)(ps:List Pc)(D:qH)(i:Nat)(ys:List V)(H2:Hp):Prop:=Same H1 H2/\H2 D=some (.lst ys)/\TsAt H2 ys (lvT (ps.take i))
def LpW(H1:Hp)(L:List Pc)(D:qH)(i:Nat)(ys:List V)(H2:Hp):Prop:=Same H1 H2/\H2 D=some (.lst ys)/\TsAt H2 ys ((L.take i).map λz=>[V.int (z.a+1),.int (z.l-2)])
def YX(C:W4->qH)(CH TP:qH):Sp:=λvs H Q _=>∃(F:Hp) (y dh:qH) (n:Int) (cs:List Int) (ps:List Pc) (Hs:Int->Option Pc) (hk:List (Int×Int)),vs=[.ref y,.ref dh]/\Wn C CH TP F y n cs ps Hs H/\H dh=some (.dK (hk.map dkE))/\Held hk Hs/\∀H',Same H H'->Q (.bl true) H'
variable (Dn:tE P w K mg base "_law_walk" 2 ["_law_cells"] (YQ K))
variable (Bo:Methx P w K mg base Y4 "cells" 2 ["self"] [] (YN (cF Ae Af Ad Ag) Y4 TP))
variable (Do:Methx P w K mg base Y4 "handles" 1 ["self"] [] (YO (cF Ae Af Ad Ag) Y4 TP))
seal L2.PSs L2.PS L2.PE L2.PA in
include T Aw AG Dn Bo Do in
theorem Le(S:Src K mg "_law_seen" OV):tE P w K mg base "_law_seen" 3 ["_law_desk","_law_held"] (YX (cF Ae Af Ad Ag) Y4 TP):=by
 refine S.okx GN GO λf cdv A outer s H vs Q E hr h=>⟨_,PSs.nox (Ac (i_ 2 GN (k_ Dn hr (Aa (Js Bo BD hr l_) Ab))) (Ac (i_ 3 GN (Js Do BD hr l_)) (Ac (Az (PW.pt (CB (Ax FJ mt Br) (CB (CD (D9 (A9 Ny (by rfl) T.n_isinstance aa (Aa m_ (Aa (Jj (v:=.ty "list") (by rfl) T.n_list cg rfl) Ab))))) (DC (Ax Qa Dx (QA ["_law_one"] rfl (BU m_) (λcl C s₀ H₀ ex=>(AD (i:=0) (show ((["_law_one"]:List Str)++([]:List Str)).Nodup by decide +kernel) rfl (υ rfl))) (λcl C s₀ H₀ ex=>Im) (λcl C s₀ H₀ ex=>(k_ AG hr (Aa l_ Ab))) ) rfl))))) (Ah (An Dx)) AA) (Ac (Au (i:=4) GN.nd rfl (jn rfl) Qu) (Ac (DH ce rfl (BU m_) (j_ 5 GN) (Ac (i_ 6 GN (BY Aw BD hr l_ (Aa o_ Ab))) (Ac (Az (PW.pt (CB (CD (D9 (k_ AG hr (Aa q_ Ab)))) (DC (PV (vh (DA hr.units) q_ n_))))) (Ah (An Dx)) AA) (Ah (Jy (DA hr.units) n_ q_ o_ rfl))))) (Ac (cM (i:=7) ["_law_piece"] GN.nd rfl (υ rfl) rfl (BU mt) (λcl C s₀ H₀ ex=>(AD (i:=0) (show ((["_law_piece"]:List Str)++([]:List Str)).Nodup by decide +kernel) rfl (υ rfl))) (λcl C s₀ H₀ ex=>(NC (Qz (K:=K) rfl (AM (Qy (K:=K) rfl) l_ Aj (λ_ _=>rfl)) (λ_=>rfl)))) (λcl C s₀ H₀ ex=>(Bs (Aa (Ak AN (AM (Qy (K:=K) rfl) l_ Aj (λ_ _=>rfl)) Aj) (Aa (Ak Bw (AM (Qy (K:=K) rfl) l_ Aj (λ_ _=>rfl)) Aj) Ab)))) ) (Ah (An (DG (BW (Qe hr.units) m_ (A9 (QJ rfl) (by rfl) T.n_sorted gi (Aa ld Ab))) (Ea (BW (nP hr.units) p_ (Iv ["_law_place"] ["_law_held","_law_places"] [1,4] rfl (BU (A9 (QJ rfl) (by rfl) T.n_sorted gi (Aa n_ Ab))) (λcl C s₀ H₀ ex=>(AD (i:=0) (show ((["_law_place"]:List Str)++(["_law_held","_law_places"]:List Str)).Nodup by decide +kernel) rfl (υ rfl))) (λcl C s₀ H₀ ex=>Im) (λcl C s₀ H₀ ex=>(Bs (Aa l_ (Aa (Jx (DA hr.units) ld (Jx (DA hr.units) mt l_ (λ_ _=>rfl)) (λ_ _=>rfl)) Ab)))) (WQ rfl rfl rfl rfl rfl rfl) (WR (n:="_law_held") (m:="_law_places") (by decide +kernel) rfl rfl) (λy h=>Fh (by decide +kernel) h))))))))))))),?_⟩;walk_at "D";obtain⟨F,y,dh,n,cs,ps,Hs,hk,rfl,W,hd,held,q⟩:=h;obtain⟨dy,x,dx,d,a,i,r,kvs,w⟩:=id W;have SF:SeenF ps Hs cs.length:=⟨w.S.hc,w.ow.mem,w.ow.all,w.ow.inj⟩
 have hz:=w.z;have wl:=w.len;have hcz:=w.S.hc;have hmm:=w.S.mm;have hy:=w.hy;have owk:=λh=>w.ow.key (h:=h);have ownd:=w.ow.nd;clear w;walk_at "";refine⟨F,y,n,cs,ps,Hs,rfl,W,λp H1 np s1 hp=>?_⟩;walk_at "";refine⟨p,cs,ps,rfl,hp,hcz,hmm,by omega,λp2 us H2 np2 s2 hp2 pa=>?_⟩;have hul:=pa.1;have s12:=s1.trans s2;have hy2:=s12 y _ hy;walk_at "";refine⟨F,y,n,cs,ps,Hs,rfl,W.same s12,λp3 ms H3 np3 s3 rs hm hp3=>?_⟩;have s13:=s12.trans s3;have ndm:ms.Nodup:=rs.imp λ{a b} h=>(show a≠b by omega)
 have pk:ms.Perm (hk.map (·.1)):=Q1 ndm held.1 λh=>by rw[hm,held.keys]
 have pk2:ms.Perm (kvs.map (·.1)):=Q1 ndm ownd λh=>by rw[hm];exact(owk h).symm
 have ml:ms.length<=60:=by have:=pk2.length_eq;rw[ε] at this;omega
 have hl:hk.length<=60:=by have:=pk.length_eq;rw[ε] at this;omega
 have hmi:(ms.map V.int).length=ms.length:=ε _;walk_at "";refine⟨p3,rfl,⟨_,SqL.of hp3⟩,Ei (K:=K) (a:=p3) (xs:=ms.map V.int) (fs:=[]) (WhW H3) (λD hD=>⟨Same.new hD,upd_same,rfl⟩) (λD i ys H2 _ h=>SqL.of (h.1 p3 _ hp3)) ?_ ?_⟩
 . rintro D i v ys H4 hD hi ⟨s4,hD4,ey⟩ τ hτ;have hil:i<(ms.map V.int).length:=(δ.mp hi).1;rw[Ψ] at hi;obtain⟨h0,hi0,rfl⟩:=ai.mp hi;have hyl:ys.length=i:=by rw[ey,bz]
   obtain⟨τ0,rfl⟩:=f_ hτ
   walk_at "";refine⟨⟨[_],rfl,rfl⟩,?_⟩;walk_at "";refine⟨hD4,small4000 (by omega),Cv hil ⟨s4.put hD,upd_same,?_⟩⟩;rw[ey,List.replicate_succ']
 rintro D ys H4 hD ⟨s4,hD4,ey⟩;rw[hmi] at ey;subst ey;have s14:=s13.trans s4;walk_at "";refine⟨D,_,rfl,.inl (SqL.of hD4),rfl,(by rw[dn];intro x hx;rw[(List.mem_replicate.mp hx).2];rfl),?_⟩;rw[if_neg η,YW];refine⟨false,rfl,?_⟩;have hp34:=s4 p3 _ hp3;have hp24:=s4 p2 _ (s3 p2 _ hp2);have pa4:=(pa.same s3).same s4;have hd4:=s14 dh _ hd;have W4:=W.same s14;clear hD4 hD s4 s3 hp3 hp2 pa np3 s2 hp np np2 s1 s12 hy2 hd W hcz hmm;walk_at "";intro pd npd;have s5:Same H4 (upd H4 pd (.dK [])):=Same.new npd;have g5:upd H4 pd (.dK []) pd=some (.dK []):=upd_same;generalize upd H4 pd (.dK [])=H5 at s5 g5 ⊢;walk_at "";refine⟨p3,rfl,⟨_,SqL.of (s5 p3 _ hp34)⟩,DI (K:=K) (a:=p3) (xs:=ms.map V.int) (SnW (some (.ref y)) (some (.ref dh)) (some (.ref p2)) (some (.ref p3)) pd Hs ms H4) ⟨none,none,none,rfl,s5,g5⟩ (λi σ H2 _ ⟨_,_,_,_,h,_⟩=>SqL.of (h p3 _ hp34)) ?_ ?_⟩
 . rintro i v σ H6 hi ⟨x5,x6,x7,rfl,s6,hD6⟩;rw[Ψ] at hi;obtain⟨h0,hi0,rfl⟩:=ai.mp hi;obtain⟨z,ez⟩:=(hm h0).mp (Δ hi0);have nh:=oA ndm hi0;have hnw:=SF.new ez (λk hk=>(hm k).mp (List.take_subset _ _ hk)) nh;have hy6:=(s14.trans s6) y _ hy;walk_at "";refine⟨F,y,n,cs,ps,Hs,h0,rfl,W4.same s6,λe=>(by rw[ez] at e;cases e),λz' e'=>?_⟩;rw[ez] at e';cases e';walk_at "";refine⟨pd,_,rfl,DGet.k (k:=.inl (z.a+1)) hD6,?_⟩;rw[D8,hnw];refine⟨false,rfl,?_⟩;walk_at "";refine⟨pd,_,rfl,.inl ⟨_,.inl (z.a+1),hD6,rfl,small1000 (by unfold plP;rw[ε,ε,ag];omega),rfl⟩,?_⟩;walk_at "";refine⟨_,_,_,rfl,s6.put npd,?_⟩;have e:plP Hs (ms.take (i+1))=plP Hs (ms.take i)++[(z.a+1,h0)]:=by
     unfold plP;rw[ap,hi0,ψ]
     congr 1
     show [(plH Hs h0,h0)]=_;rw[Hx ez]
   rw[upd_same,PB,nY hnw,e]
 rintro σ H6 ⟨x5,x6,x7,rfl,s6,hD6⟩;rw[af (by omega)] at hD6;have s16:=s14.trans s6;have hp26:=s6 p2 _ hp24;have pa6:=pa4.same s6;walk_at "";refine⟨p2,rfl,⟨_,SqL.of hp26⟩,Ei (K:=K) (a:=p2) (xs:=us) (fs:=[]) (LvW H6 ps) (λD hD=>⟨Same.new hD,upd_same,⟨rfl,λi xs h=>by cases h⟩⟩) (λD i ys H2 _ h=>SqL.of (h.1 p2 _ hp26)) ?_ ?_⟩
 . rintro D2 i v ys H7 hD2 hi ⟨s7,hD7,ts⟩ τ hτ;have hil:i<us.length:=(δ.mp hi).1;obtain⟨t,w,rfl,hw1,hT⟩:=Iz (pa6.same s7) hi;have hfl:=nZ hw1;have hyl:ys.length<=i:=by
     rw[ts.1];unfold lvT;rw[ε];refine bp (gv _ _) ?_;rw[ag];omega
   obtain⟨τ0,rfl⟩:=f_ hτ
   walk_at "";refine⟨⟨[_],rfl,rfl⟩,?_⟩;walk_at "";refine BX (λhv=>?_) (λhv=>?_)
   . rw[if_pos hv] at hfl;walk_at "";intro t2 ht2;refine⟨look_put ht2 hD7,small4000 (by omega),Cv hil ⟨(s7.put (s7.free ht2)).put hD2,upd_same,?_⟩⟩;rw[hfl];exact YV ts hD7 ht2
   . rw[if_neg (by rw[hv];exact η),bg] at hfl;exact Cv hil ⟨s7,hD7,by rw[hfl];exact ts⟩
 rintro D2 ws H7 hD2 ⟨s7,hD7,ts⟩;rw[af (by omega)] at ts;have s17:=s16.trans s7;have hp37:=s7 p3 _ (s6 p3 _ hp34);have hd7:=s7 dh _ (s6 dh _ hd4);have hpd7:=s7 pd _ hD6;walk_at "";refine⟨dh,hk,rfl,hd7,by omega,λD3 ms2 hD3 pm2 sm2=>?_⟩;walk_at "";have e2:ms=ms2:=JI rs (IE sm2 (pm2.nodup_iff.mpr held.1)) λz=>by rw[pm2.mem_iff,hm,held.keys]
 subst e2;have s8:Same H7 (upd H7 D3 (.lst (ms.map V.int))):=Same.new hD3;refine⟨p3,D3,ms,ms,rfl,rfl,SqL.of (s8 p3 _ hp37),SqL.of upd_same,?_⟩;rw[decide_eq_true rfl];generalize upd H7 D3 (.lst (ms.map V.int))=H8 at s8 ⊢;have hd8:=s8 dh _ hd7;have hpd8:=s8 pd _ hpd7;have hD8:=s8 D2 _ hD7;have ts8:=ts.same s8;walk_at "";refine⟨pd,plP Hs ms,rfl,hpd8,by unfold plP;rw[ε];omega,λD4 qs hD4 pm4 sm4=>?_⟩;have eq:=SF.rise ndm hm pm4 sm4;subst eq;have s9:Same H8 (upd H8 D4 (.lst ((lvA ps).map V.int))):=Same.new hD4;have g9:upd H8 D4 (.lst ((lvA ps).map V.int)) D4=some (.lst ((lvA ps).map V.int)):=upd_same;generalize upd H8 D4 (.lst ((lvA ps).map V.int))=H9 at s9 g9 ⊢;have hd9:=s9 dh _ hd8;have hpd9:=s9 pd _ hpd8;have lal:(lvA ps).length=(lvF ps).length:=by unfold lvA;rw[ε]
 have lal2:=Q2 ps;have lam:((lvA ps).map V.int).length=(lvA ps).length:=ε _;refine⟨D4,rfl,⟨_,SqL.of g9⟩,Ei (K:=K) (a:=D4) (xs:=(lvA ps).map V.int) (fs:=[some (.ref dh),some (.ref pd)]) (LpW H9 (lvF ps)) (λD hD=>⟨Same.new hD,upd_same,⟨rfl,λi xs h=>by cases h⟩⟩) (λD i ys H2 _ h=>SqL.of (h.1 D4 _ g9)) ?_ ?_⟩
 . rintro D5 i v ys HA hD5 hi ⟨sA,hDA,tsA⟩ τ hτ;have hil:i<((lvA ps).map V.int).length:=(δ.mp hi).1;rw[Ψ] at hi;obtain⟨p0,hi0,rfl⟩:=ai.mp hi;obtain⟨z,hz0,ez⟩:=Od hi0;obtain⟨hzm,hzv⟩:=Ce.mp (Δ hz0);obtain⟨h0,eh⟩:=SF.all z hzm hzv;have lk1:=SF.look ndm (λk hk=>(hm k).mp hk) ((hm h0).mpr ⟨z,eh⟩) eh;have lk2:=held.2 h0;rw[eh] at lk2;have hdA:=sA dh _ hd9;have hpdA:=sA pd _ hpd9;have hyl:ys.length<=i:=by
     rw[tsA.1,ε,ag];omega
   subst ez
   obtain⟨τ0,rfl⟩:=f_ hτ
   walk_at "";refine⟨⟨[_],rfl,rfl⟩,?_⟩;walk_at "";refine⟨pd,.int h0,rfl,(by have:=DGet.k (k:=.inl (z.a+1)) hpdA;rw[D8,lk1] at this;exact this),?_⟩;walk_at "";refine⟨dh,.int (z.l-2),rfl,(by have:=DGet.k (k:=.inl h0) hdA;rw[D8,lk2] at this;exact this),?_⟩;walk_at "";intro t2 ht2;refine⟨look_put ht2 hDA,small4000 (by omega),Cv hil ⟨(sA.put (sA.free ht2)).put hD5,upd_same,?_⟩⟩;rw[ap,hz0,ψ];exact YV tsA hDA ht2
 rintro D5 ys HA hD5 ⟨sA,hDA,tsA⟩;rw[af (by omega)] at tsA;have tsA:TsAt HA ys (lvT ps):=tsA;walk_at "";refine⟨D2,D5,ws,ys,lvT ps,lvT ps,rfl,rfl,sA D2 _ (s9 D2 _ hD8),hDA,(ts8.same s9).same sA,tsA,Ri ps,Ri ps,?_⟩;rw[nN (Ri ps)];walk_at "";exact q HA (((s17.trans s8).trans s9).trans sA)
theorem Wn.at{C:W4->qH}{CH TP:qH}{F:Hp}{y b:qH}{H:Hp}{o:HO}(w:Wn C CH TP F y n cs ps Hs H)(h:F b=some o):H b=some o:=let ⟨_,_,_,_,_,_,_,_,w⟩:=w;(w.kp b o h).1
theorem Wn.ne{C:W4->qH}{CH TP:qH}{F:Hp}{y b:qH}{H:Hp}{o:HO}(w:Wn C CH TP F y n cs ps Hs H)(h:F b=some o):y≠b:=let ⟨_,_,_,_,_,_,_,_,w⟩:=w;bd (w.kp b o h).2.1
theorem Wn.hy{C:W4->qH}{CH TP:qH}{F:Hp}{y:qH}{n:Int}{cs:List Int}{ps:List Pc}{Hs:Int->Option Pc}{H:Hp}(w:Wn C CH TP F y n cs ps Hs H):∃dy x d,H y=some (.ins CH dy [("keeper",.ref x),("places",.ref d),("coming",.int n)]):=let ⟨dy,x,_,d,_,_,_,_,w⟩:=w;⟨dy,x,d,w.hy⟩
abbrev tw(C:W4->qH)(CH TP:qH)(F:Hp)(y dh:qH)(n:Int)(cs:List Int)(ps:List Pc)(Hs:Int->Option Pc)(hk:List (Int×Int))(wh:Str)(h c k:Int)(told:V)(H:Hp)(Q:VK):Prop:=((wh="give"/\told = .non/\(∃m,AQ hk h=some m)/\∀H',Wn C CH TP (upd F dh (.dK ((DZ hk h).map dkE))) y n cs ps Hs H'->Q (.bl true) H') \/ (wh="grow"/\(∃z,Hs h=some z/\told = .int (z.a+1))/\∀H',Wn C CH TP (upd F dh (.dK ((tN hk h c).map dkE))) y n cs ps Hs H'->Q (.bl true) H') \/ (wh="put"/\told = .non/\(∃z,Hs h=some z/\0<=k/\k<z.l-2/\cs.getD (z.a+1+k).toNat 0=c)/\∀H',Same H H'->Q (.bl true) H') \/ (wh="many"/\(∃m,told = .int m/\AQ hk h=some m)/\∀H',Same H H'->Q (.bl true) H') \/ (wh≠"give"/\wh≠"grow"/\wh≠"put"/\wh≠"many"/\(∃m,told = .int m)/\∀H',Same H H'->Q (.bl true) H'))
def Rj(C:W4->qH)(CH TP:qH):Sp:=λvs H Q _=>∃(F:Hp) (y dh:qH) (n:Int) (cs:List Int) (ps:List Pc) (Hs:Int->Option Pc) (hk:List (Int×Int)) (wh:Str) (h c k:Int) (told:V),vs=[.ref y,.ref dh,.str wh,.int h,.int c,.int k,told]/\Wn C CH TP F y n cs ps Hs H/\F dh=some (.dK (hk.map dkE))/\hk.length<=900/\tw C CH TP F y dh n cs ps Hs hk wh h c k told H Q
seal L2.PSs L2.PS L2.PE L2.PA in
include T Aw AG Bv in
theorem Lf(S:Src K mg "_law_right" OW):tE P w K mg base "_law_right" 11 ["_law_desk","_law_held","_law_which","_law_one","_law_count","_law_k","_law_told"] (Rj (cF Ae Af Ad Ag) Y4 TP):=by
 refine S.okx GP GQ λf cdv A outer s H vs Q E hr h=>⟨_,PSs.nox (Ac (Az (Ax AZ mt At) (Ac (BQ (WL ld m_ ⟨rfl,rfl,rfl,rfl⟩)) (Ah (An (BW FJ q_ Br)))) AA) (Ac (Az (Ax AZ mt At) (Ac (Jy (DA hr.units) ld m_ n_ rfl) (Ah (An (DG (k_ AG hr (Aa q_ Ab)) (Ea (BW AZ q_ (BY Aw BD hr l_ (Aa m_ Ab)))))))) AA) (Ac (Az (Ax AZ mt At) (Ah (An (DG (BW FJ q_ Br) (DG (k_ AG hr (Aa (BY Bv BD hr l_ (Aa m_ (Aa o_ Ab))) Ab)) (Ea (BW AZ (BY Bv BD hr l_ (Aa m_ (Aa o_ Ab))) n_)))))) AA) (Ac (Az (Ax AZ mt At) (Ah (An (DG (k_ AG hr (Aa q_ Ab)) (Ea (BW AZ q_ (Jx (DA hr.units) ld m_ (λ_ _=>rfl))))))) AA) (Ah (An (k_ AG hr (Aa q_ Ab)))))))),?_⟩;walk_at "D";obtain⟨F,y,dh,n,cs,ps,Hs,hk,wh,h,c,k,told,rfl,W,hF,hkl,hc⟩:=h;have hd:=W.at hF;obtain⟨dy,x,d,hy⟩:=W.hy;have hyd:=W.ne hF;have dg:∀{H':Hp} {m:Int},H' dh=some (.dK (hk.map dkE))->AQ hk h=some m->DGet H' dh (.int h) (some (.int m)):=λh1 h2=>by
   have:=DGet.k (k:=.inl h) h1;rw[D8,h2] at this;exact this
 rcases hc with ⟨rfl,rfl,⟨m,em⟩,q⟩ | ⟨rfl,⟨z,ez,rfl⟩,q⟩ | ⟨rfl,rfl,⟨z,ez,k0,k1,ec⟩,q⟩ | ⟨rfl,⟨m,rfl,em⟩,q⟩ | ⟨w1,w2,w3,w4,⟨m,rfl⟩,q⟩
 . walk_at "";refine⟨dh,rfl,.inl ⟨_,.inl hd⟩,?_⟩;walk_at "";refine⟨_,.inl h,_,hd,rfl,by rw[D8,em];rfl,?_⟩;walk_at "";rw[YA];exact q _ (W.putF hF rfl)
 . walk_at "";refine⟨dh,_,rfl,.inl ⟨_,.inl h,hd,rfl,small1000 (by rw[ε];omega),rfl⟩,?_⟩;rw[PB];have W2:=W.putF (o':=.dK ((tN hk h c).map dkE)) hF rfl;have hy2:upd H dh (.dK ((tN hk h c).map dkE)) y=some (.ins Y4 dy [("keeper",.ref x),("places",.ref d),("coming",.int n)]):=look_ne hyd hy;generalize upd H dh (.dK ((tN hk h c).map dkE))=H2 at W2 hy2 ⊢;walk_at "";refine⟨_,y,n,cs,ps,Hs,h,rfl,W2,λe=>(by rw[ez] at e;cases e),λz' e'=>?_⟩;rw[ez] at e';cases e';walk_at "";rw[decide_eq_true rfl];exact q _ W2
 . walk_at "";refine⟨_,y,n,cs,ps,Hs,h,k,rfl,W,λe=>(by rw[ez] at e;cases e),λz' e'=>?_⟩;rw[ez] at e';cases e';refine⟨λg=>(by omega),λ_ _ H2 s2=>?_⟩;have W2:=W.same s2;have hy2:=s2 y _ hy;walk_at "";refine⟨_,y,n,cs,ps,Hs,h,k,rfl,W2,λe=>(by rw[ez] at e;cases e),λz' e'=>?_⟩;rw[ez] at e';cases e';refine⟨λg=>(by omega),λ_ _ H3 s3=>?_⟩;walk_at "";rw[ec,decide_eq_true rfl];exact q _ (s2.trans s3)
 . walk_at "";refine⟨dh,.int m,rfl,dg hd em,?_⟩;walk_at "";rw[decide_eq_true rfl];exact q _ (Same.refl _)
 . walk_at "";exact q _ (Same.refl _)
def wn(wh:Str)(o:Option Pc)(c k:Int)(e:Er6):Prop :=
 ((wh="ask"\/wh="gather")/\((c<1/\e = .ask)\/(1<=c/\e = .room))) \/
 (wh≠"ask"/\wh≠"gather"/\((o=none/\e = .handle)\/∃z,o=some z/\(((wh="get"\/wh="put")/\¬(0<=k/\k<z.l-2)/\e = .cell)\/(wh="grow"/\((c<1/\e = .ask)\/(1<=c/\e = .room))))))
def uz(Hs Hs':Int->Option Pc):Prop:=∀j,(Hs' j).map (·.l)=(Hs j).map (·.l)
def vW(Hs Hs':Int->Option Pc)(h:Int)(o:Option Int):Prop:=∀j,(Hs' j).map (·.l)=if j=h then o else (Hs j).map (·.l)
def vV(wh:Str)(n:Int)(cs:List Int)(Hs:Int->Option Pc)(h c k:Int)(v:V)(n':Int)(cs':List Int)(Hs':Int->Option Pc):Prop :=
 (wh="ask"/\v = .int n/\n'=n+1/\1<=c/\c+2<=cs.length/\vW Hs Hs' n (some (c+2))) \/
 (wh="gather"/\(∃m,v = .int m)/\n'=n/\1<=c/\c<=cs.length/\uz Hs Hs') \/
 (∃z,Hs h=some z/\n'=n/\((wh="give"/\v = .non/\vW Hs Hs' h none)\/(wh="grow"/\1<=c/\(∃z',Hs' h=some z'/\v = .int (z'.a+1))/\vW Hs Hs' h (some (c+2)))\/(wh="place"/\(∃m,v = .int m)/\uz Hs Hs')\/(wh="many"/\v = .int (z.l-2)/\uz Hs Hs') \/
   (wh="get"/\(∃m,v = .int m)/\0<=k/\k<z.l-2/\uz Hs Hs')\/(wh="put"/\v = .non/\0<=k/\k<z.l-2/\Hs'=Hs/\cs'.getD (z.a+1+k).toNat 0=c)))
theorem oB{C:W4->qH}{CH TP CA CR CX CC CN CS:qH}{F:Hp}{y:qH}{H:Hp}{Q:VK}{E:XK}{wh:Str}{h c k:Int}(W:Wn C CH TP F y n cs ps Hs H)(hw:wh∈ue)
   (qe:∀e H',Same H H'->wn wh (Hs h) c k e->∀(t l:qH) (H'':Hp),Same H' H''->H'' t=some (.tup [.ref l,.non])->H'' l=some (.lst [.str (wE6 e),.str "base"])->Q (.ref t) H'')
   (q:∀v n' cs' ps' Hs' H',Wn C CH TP F y n' cs' ps' Hs' H'->cs'.length=cs.length->vV wh n cs Hs h c k v n' cs' Hs'->∀(t l:qH) (H'':Hp),Same H' H''->H'' t=some (.tup [.ref l,v])->H'' l=some (.lst [])->Q (.ref t) H''):
   PJ (cE6 CN CS CX CC CA CR) C CH TP CA CR CX CC CN CS [.ref y,.str wh,.int h,.int c,.int k] H Q E:=by
 refine⟨.ref y,wh,h,c,k,λe H'=>Same H H'/\wn wh (Hs h) c k e,λv H2=>∃n' cs' ps' Hs',Wn C CH TP F y n' cs' ps' Hs' H2/\cs'.length=cs.length/\vV wh n cs Hs h c k v n' cs' Hs',rfl,λp0 n0 QV EX hE hQ=>?_,λe H2 ⟨s,hr⟩ t l H' s'=>qe e H2 s hr t l H' s',λv H2 ⟨n',cs',ps',Hs',w,hl,o⟩ t l H' s'=>q v n' cs' ps' Hs' H2 w hl o t l H' s'⟩;have W0:=W.newF (o:=.lst []) n0;have s0:Same H (upd H p0 (.lst [])):=Same.new n0;have fin:∀{v n' cs' ps' Hs' H2},Wn C CH TP (upd F p0 (.lst [])) y n' cs' ps' Hs' H2->cs'.length=cs.length->vV wh n cs Hs h c k v n' cs' Hs'->QV v H2:=λ{v n' cs' ps' Hs' H2} w hl o=>hQ v H2 ⟨n',cs',ps',Hs',w.less λb u hb=>look_ne (λe=>by have:=W.at hb;rw[e,n0] at this;cases this) hb,hl,o⟩ (w.at upd_same);have err:∀{e H'},Same (upd H p0 (.lst [])) H'->wn wh (Hs h) c k e->EX (.ref (cE6 CN CS CX CC CA CR e)) none H':=λ{e H'} s hr=>hE e H' ⟨s0.trans s,hr⟩;refine⟨.ref y,wh,h,c,k,rfl,?_⟩;have ls:uz Hs Hs:=λ_=>rfl;rcases(show wh="ask"\/wh="give"\/wh="grow"\/wh="gather"\/wh="place"\/wh="many"\/wh="get"\/wh="put" by simpa [ue] using hw) with rfl | rfl | rfl | rfl | rfl | rfl | rfl | rfl
 . exact .inl ⟨rfl,_,y,n,cs,ps,Hs,c,rfl,W0,λh1 H' s=>err (e:=.ask) s (.inl ⟨.inl rfl,.inl ⟨h1,rfl⟩⟩),λh1 H' s=>err (e:=.room) s (.inl ⟨.inl rfl,.inr ⟨h1,rfl⟩⟩),λh1 h2 cs' ps' Hs' H' w hl el=>fin w hl (.inl ⟨rfl,rfl,rfl,h1,h2,el⟩)⟩
 . exact .inr (.inl ⟨rfl,_,y,n,cs,ps,Hs,h,rfl,W0,λe=>err (e:=.handle) (Same.refl _) (.inr ⟨by decide,by decide,.inl ⟨e,rfl⟩⟩),λz ez cs' ps' H' hl w=>fin w hl (.inr (.inr ⟨z,ez,rfl,.inl ⟨rfl,rfl,λj=>by
     dsimp only;by_cases e:j=h
     . rw[if_pos e,if_pos e];rfl
     . rw[if_neg e,if_neg e]⟩⟩))⟩)
 . exact .inr (.inr (.inl ⟨rfl,_,y,n,cs,ps,Hs,h,c,rfl,W0,λe=>err (e:=.handle) (Same.refl _) (.inr ⟨by decide,by decide,.inl ⟨e,rfl⟩⟩),λz ez=>⟨λh1 H' s=>err (e:=.ask) s (.inr ⟨by decide,by decide,.inr ⟨z,ez,.inr ⟨rfl,.inl ⟨h1,rfl⟩⟩⟩⟩),λh1 H' s=>err (e:=.room) s (.inr ⟨by decide,by decide,.inr ⟨z,ez,.inr ⟨rfl,.inr ⟨h1,rfl⟩⟩⟩⟩),λh1 h2 cs' ps' Hs' H' z' w hl el ez'=>fin w hl (.inr (.inr ⟨z,ez,rfl,.inr (.inl ⟨rfl,h1,⟨z',ez',rfl⟩,el⟩)⟩))⟩⟩))
 . exact .inr (.inr (.inr (.inl ⟨rfl,_,y,n,cs,ps,Hs,c,rfl,W0,λh1 H' s=>err (e:=.ask) s (.inl ⟨.inr rfl,.inl ⟨h1,rfl⟩⟩),λh1 H' s=>err (e:=.room) s (.inl ⟨.inr rfl,.inr ⟨h1,rfl⟩⟩),λh1 h2=>⟨λH' s=>fin (W0.same s) rfl (.inr (.inl ⟨rfl,⟨_,rfl⟩,rfl,h1,h2,ls⟩)),λm cs' ps' Hs' H' w hl el _=>fin w hl (.inr (.inl ⟨rfl,⟨_,rfl⟩,rfl,h1,h2,el⟩))⟩⟩)))
 . exact .inr (.inr (.inr (.inr (.inl ⟨rfl,_,y,n,cs,ps,Hs,h,rfl,W0,λe=>err (e:=.handle) (Same.refl _) (.inr ⟨by decide,by decide,.inl ⟨e,rfl⟩⟩),λz ez=>fin W0 rfl (.inr (.inr ⟨z,ez,rfl,.inr (.inr (.inl ⟨rfl,⟨_,rfl⟩,ls⟩))⟩))⟩))))
 . exact .inr (.inr (.inr (.inr (.inr (.inl ⟨rfl,_,y,n,cs,ps,Hs,h,rfl,W0,λe=>err (e:=.handle) (Same.refl _) (.inr ⟨by decide,by decide,.inl ⟨e,rfl⟩⟩),λz ez H' s=>fin (W0.same s) rfl (.inr (.inr ⟨z,ez,rfl,.inr (.inr (.inr (.inl ⟨rfl,rfl,ls⟩)))⟩))⟩)))))
 . exact .inr (.inr (.inr (.inr (.inr (.inr (.inl ⟨rfl,_,y,n,cs,ps,Hs,h,k,rfl,W0,λe=>err (e:=.handle) (Same.refl _) (.inr ⟨by decide,by decide,.inl ⟨e,rfl⟩⟩),λz ez=>⟨λg H' s=>err (e:=.cell) s (.inr ⟨by decide,by decide,.inr ⟨z,ez,.inl ⟨.inl rfl,λg2=>(by omega),rfl⟩⟩⟩),λk0 k1 H' s=>fin (W0.same s) rfl (.inr (.inr ⟨z,ez,rfl,.inr (.inr (.inr (.inr (.inl ⟨rfl,⟨_,rfl⟩,k0,k1,ls⟩))))⟩))⟩⟩))))))
 . refine .inr (.inr (.inr (.inr (.inr (.inr (.inr (.inl ⟨rfl,_,y,n,cs,ps,Hs,h,k,c,rfl,W0,λe=>err (e:=.handle) (Same.refl _) (.inr ⟨by decide,by decide,.inl ⟨e,rfl⟩⟩),λz ez=>⟨λg H' s=>err (e:=.cell) s (.inr ⟨by decide,by decide,.inr ⟨z,ez,.inl ⟨.inr rfl,λg2=>(by omega),rfl⟩⟩⟩),λk0 k1 H' w=>fin w (by rw[eg]) (.inr (.inr ⟨z,ez,rfl,.inr (.inr (.inr (.inr (.inr ⟨rfl,rfl,k0,k1,rfl,?_⟩))))⟩))⟩⟩)))))));obtain⟨_,_,_,_,_,_,_,_,w0⟩:=W0;obtain⟨hm,hv⟩:=w0.ow.mem h z ez;obtain⟨z0,z1,z3,z4⟩:=w0.S.hc.mem z hm;rw[bc,cw (by omega)];rfl
theorem oC(he:Held hk Hs){wh:Str}{h c k sz:Int}{e:Er6}(r:wn wh (Hs h) c k e):uu wh (AQ hk h) c k sz=wE6 e\/(uu wh (AQ hk h) c k sz=""/\e = .room/\(wh="ask"\/wh="grow"\/wh="gather")):=by
 unfold uu;rcases r with ⟨rfl | rfl,⟨h1,rfl⟩ | ⟨h1,rfl⟩⟩ | ⟨n1,n2,⟨ho,rfl⟩ | ⟨z,ez,⟨hw,hk0,rfl⟩ | ⟨rfl,⟨h1,rfl⟩ | ⟨h1,rfl⟩⟩⟩⟩
 . rw[if_pos rfl,if_pos h1];exact .inl rfl
 . rw[if_pos rfl,if_neg (by omega)]
   split
   . exact .inl rfl
   . exact .inr ⟨rfl,rfl,.inl rfl⟩
 . rw[if_neg (by decide),if_pos rfl,if_pos h1];exact .inl rfl
 . rw[if_neg (by decide),if_pos rfl,if_neg (by omega)]
   split
   . exact .inl rfl
   . exact .inr ⟨rfl,rfl,.inr (.inr rfl)⟩
 . rw[if_neg n1,if_neg n2,he.2,ho];exact .inl rfl
 . rw[if_neg n1,if_neg n2,he.2,ez];show (if _ then _ else _)=_\/_;rw[if_pos ⟨hw,hk0⟩];exact .inl rfl
 . rw[if_neg (by decide),if_neg (by decide),he.2,ez];show (if _ then _ else _)=_\/_;rw[if_neg (λg=>by rcases g.1 with g | g <;> exact absurd g (by decide)),if_pos ⟨rfl,h1⟩];exact .inl rfl
 . rw[if_neg (by decide),if_neg (by decide),he.2,ez];right;refine⟨?_,rfl,.inr (.inl rfl)⟩;show (if _ then _ else _)=_;rw[if_neg (λg=>by rcases g.1 with g | g <;> exact absurd g (by decide)),if_neg (λg=>by omega)]
theorem oE{Hs':Int->Option Pc}(he:Held hk Hs){wh:Str}{n' h c k sz:Int}{cs':List Int}{v:V}(hs:sz=cs.length)(r:vV wh n cs Hs h c k v n' cs' Hs'):uu wh (AQ hk h) c k sz="":=by
 unfold uu;rcases r with ⟨rfl,_,_,h1,h2,_⟩ | ⟨rfl,_,_,h1,h2,_⟩ | ⟨z,ez,_,r⟩
 . rw[if_pos rfl,if_neg (by omega),if_neg (by omega)]
 . rw[if_neg (by decide),if_pos rfl,if_neg (by omega),if_neg (by omega)]
 . have key:wh≠"ask"->wh≠"gather"->¬((wh="get"\/wh="put")/\¬(0<=k/\k<z.l-2))->¬(wh="grow"/\c<1)->(if wh="ask" then (if c<1 then "ask" else if sz<c+2 then "room" else "") else if wh="gather" then (if c<1 then "ask" else if sz<c then "room" else "") else match AQ hk h with
       | none=>"handle"
       | some m=>if (wh="get"\/wh="put")/\¬(0<=k/\k<m) then "cell" else if wh="grow"/\c<1 then "ask" else "":Str)="":=λa b c d=>by
     rw[if_neg a,if_neg b,he.2,ez];show (if _ then _ else _)=_;rw[if_neg c,if_neg d]
   rcases r with ⟨rfl,_⟩ | ⟨rfl,h1,_⟩ | ⟨rfl,_⟩ | ⟨rfl,_⟩ | ⟨rfl,_,k0,k1,_⟩ | ⟨rfl,_,k0,k1,_⟩
   . exact key (by decide) (by decide) (λg=>by rcases g.1 with g | g <;> exact absurd g (by decide)) (λg=>absurd g.1 (by decide))
   . exact key (by decide) (by decide) (λg=>by rcases g.1 with g | g <;> exact absurd g (by decide)) (λg=>by omega)
   . exact key (by decide) (by decide) (λg=>by rcases g.1 with g | g <;> exact absurd g (by decide)) (λg=>absurd g.1 (by decide))
   . exact key (by decide) (by decide) (λg=>by rcases g.1 with g | g <;> exact absurd g (by decide)) (λg=>absurd g.1 (by decide))
   . exact key (by decide) (by decide) (λg=>g.2 ⟨k0,k1⟩) (λg=>absurd g.1 (by decide))
   . exact key (by decide) (by decide) (λg=>g.2 ⟨k0,k1⟩) (λg=>absurd g.1 (by decide))
theorem IM(o:Option Pc):o.map (λz=>z.l-2)=(o.map (·.l)).map (·-2):=by cases o <;> rfl
theorem YY{Hs':Int->Option Pc}{h c:Int}(he:Held hk Hs)(l:vW Hs Hs' h (some (c+2))):Held (tN hk h c) Hs':=⟨XI he.1,λj=>by
 rw[XJ,IM,l j];by_cases e:j=h
 . rw[if_pos e,if_pos e];show some c=some (c+2-2);rw[show c+2-2=c by omega]
 . rw[if_neg e,if_neg e,he.2,IM]⟩
theorem oF{Hs':Int->Option Pc}{h:Int}(he:Held hk Hs)(l:vW Hs Hs' h none):Held (DZ hk h) Hs':=⟨XL he.1,λj=>by
 rw[QK,IM,l j];by_cases e:j=h
 . rw[if_pos e,if_pos e];rfl
 . rw[if_neg e,if_neg e,he.2,IM]⟩
theorem oG{Hs':Int->Option Pc}(he:Held hk Hs)(l:uz Hs Hs'):Held hk Hs':=⟨he.1,λj=>by rw[he.2,IM,IM,l j]⟩
theorem Wn.again{C:W4->qH}{CH TP:qH}{F:Hp}{y b:qH}{H:Hp}{o:HO}(w:Wn C CH TP F y n cs ps Hs H)(h:F b=some o):Wn C CH TP (upd F b o) y n cs ps Hs H:=w.less λc u e=>by
 by_cases z:c=b
 . subst z;rw[upd_same] at e;rw[h];exact e
 . rwa [AC z] at e
theorem Held.len{C:W4->qH}{CH TP:qH}{F:Hp}{y:qH}{n:Int}{cs:List Int}{ps:List Pc}{Hs:Int->Option Pc}{H:Hp}{hk:List (Int×Int)}(he:Held hk Hs)(w:Wn C CH TP F y n cs ps Hs H):hk.length<=60:=by
 obtain⟨_,_,_,_,_,_,_,kvs,w⟩:=w;have p:(hk.map (·.1)).Perm (kvs.map (·.1)):=Q1 he.1 w.ow.nd λh=>by rw[he.keys,w.ow.key]
 have:=p.length_eq;rw[ε,ε] at this;have:=w.len;omega
theorem oH{C:W4->qH}{CH TP:qH}{F:Hp}{y dh:qH}{n':Int}{cs':List Int}{ps':List Pc}{Hs':Int->Option Pc}{H:Hp}{wh:Str}{h c k:Int}{v:V}{Q:VK}{E:XK}(he:Held hk Hs)(hl:hk.length<=60)(W:Wn C CH TP F y n' cs' ps' Hs' H)(hF:F dh=some (.dK (hk.map dkE)))(na:wh≠"ask")(r:vV wh n cs Hs h c k v n' cs' Hs')
   (q:∀hk' H',Wn C CH TP (upd F dh (.dK (hk'.map dkE))) y n' cs' ps' Hs' H'->Held hk' Hs'->Q (.bl true) H'):Rj C CH TP [.ref y,.ref dh,.str wh,.int h,.int c,.int k,v] H Q E:=by
 refine⟨F,y,dh,n',cs',ps',Hs',hk,wh,h,c,k,v,rfl,W,hF,by omega,?_⟩;have qs:uz Hs Hs'->∀H',Same H H'->Q (.bl true) H':=λl H' s=>q hk H' ((W.same s).again hF) (oG he l);rcases r with ⟨rfl,_⟩ | ⟨rfl,hv,_,_,_,l⟩ | ⟨z,ez,_,r⟩
 . exact absurd rfl na
 . exact .inr (.inr (.inr (.inr ⟨by decide,by decide,by decide,by decide,hv,qs l⟩)))
 . have lk:AQ hk h=some (z.l-2):=by rw[he.2,ez];rfl
   rcases r with ⟨rfl,hv,l⟩ | ⟨rfl,_,hv,l⟩ | ⟨rfl,hv,l⟩ | ⟨rfl,hv,l⟩ | ⟨rfl,hv,_,_,l⟩ | ⟨rfl,hv,k0,k1,e,hc⟩
   . exact .inl ⟨rfl,hv,⟨_,lk⟩,λH' w=>q _ H' w (oF he l)⟩
   . exact .inr (.inl ⟨rfl,hv,λH' w=>q _ H' w (YY he l)⟩)
   . exact .inr (.inr (.inr (.inr ⟨by decide,by decide,by decide,by decide,hv,qs l⟩)))
   . exact .inr (.inr (.inr (.inl ⟨rfl,⟨_,hv,lk⟩,qs l⟩)))
   . exact .inr (.inr (.inr (.inr ⟨by decide,by decide,by decide,by decide,hv,qs l⟩)))
   . exact .inr (.inr (.inl ⟨rfl,hv,⟨z,by rw[e];exact ez,k0,k1,hc⟩,qs (λj=>by rw[e])⟩))
def whL:List Str:=["ask","ask","ask","give","grow","place","many","get","put","gather"]
theorem wh_at{k:Int}(h0:0<=k)(h1:k<10):∃u,atI (whL.map V.str) k=some (.str u)/\u∈ue:=by
 have hk:k.toNat<whL.length:=by show k.toNat<10;omega
 have all:∀u∈whL,u∈ue:=by decide
 refine⟨whL[k.toNat],?_,all _ (az hk)⟩;have:=PF (xs:=whL.map V.str) (i:=k.toNat) (v:=.str whL[k.toNat]) (by rw[Ψ,ah hk];rfl)
 rwa [ic h0] at this
abbrev tz(C:W4->qH)(CH TP:qH)(F:Hp)(y dh:qH)(n:Int)(cs:List Int)(ps:List Pc)(Hs:Int->Option Pc)(hk:List (Int×Int))(c0 sz:Int)(H:Hp)(Q:VK):Prop:=∀(t:qH) (hk':List (Int×Int)) (n':Int) (cs':List Int) (ps':List Pc) (Hs':Int->Option Pc) (H':Hp),Wn C CH TP (upd F dh (.dK (hk'.map dkE))) y n' cs' ps' Hs' H'->Held hk' Hs'->cs'.length=cs.length->H' t=some (.tup [.bl true,.int n'])->Q (.ref t) H'
def YZ(C:W4->qH)(CH TP:qH):Sp:=λvs H Q _=>∃(F:Hp) (y dh:qH) (n:Int) (cs:List Int) (ps:List Pc) (Hs:Int->Option Pc) (hk:List (Int×Int)) (c0 sz:Int),vs=[.ref y,.ref dh,.int n,.int c0,.int sz]/\Wn C CH TP F y n cs ps Hs H/\F dh=some (.dK (hk.map dkE))/\Held hk Hs/\sz=cs.length/\tz C CH TP F y dh n cs ps Hs hk c0 sz H Q
variable (Dp:tE P w K mg base "_law_due" 1 ["_law_held","_law_which","_law_one","_law_count","_law_k","_law_size"] (uV))
variable (Dq:tE P w K mg base "_law_right" 11 ["_law_desk","_law_held","_law_which","_law_one","_law_count","_law_k","_law_told"] (Rj (cF Ae Af Ad Ag) Y4 TP))
seal L2.PSs L2.PS L2.PE L2.PA in
include T AG Bn Bo Dp Dq in
theorem Lg(S:Src K mg "_law_step" OX):tE P w K mg base "_law_step" 14 ["_law_desk","_law_held","_law_upto","_law_cell","_law_size"] (YZ (cF Ae Af Ad Ag) Y4 TP):=by
 refine S.okx DF GR λf cdv A outer s H vs Q E hr h=>⟨_,PSs.nox (Ac (i_ 5 DF (AM Bf (Bk (Aa At (Aa At (Aa At (Aa At (Aa At (Aa At (Aa At (Aa At (Aa At (Aa At Ab))))))))))) (Ak BB m_ Aj) (λ_ _=>rfl))) (Ac (i_ 6 DF (Ak BB (Ak Eb m_ Aj) Aj)) (Ac (i_ 7 DF (AM Bf (Bk (Aa (Ak AN Aj q_) (Aa (Ak Bw q_ Aj) (Aa (Ak AN (Ak Bw n_ Aj) (Ak BB (Ak Eb m_ Aj) Aj)) (Aa (Ak AN Aj (Ak Eb q_ Aj)) (Aa (Ak PZ Aj Aj) Ab)))))) (Ak BB (Ak BB (Ak Nm m_ Aj) Aj) Aj) (λ_ _=>rfl))) (Ac (Az (Ax Ib o_ At) (Ah (i_ 7 DF (Ak Bw q_ Aj))) AA) (Ac (Az (PW.pt (Cr (Ax AZ o_ At) (DB (Ax AZ (Ak BB (Ak Eb m_ Aj) Aj) Aj)))) (Ah (i_ 7 DF (Ak PZ Aj Aj))) AA) (Ac (i_ 8 DF (AM Bf (Bk (Aa (Ak Bw mt Aj) (Aa (Ak Bw (Ak BB (Ak BB (Ak Nm m_ Aj) Aj) (Ak AN mt Aj)) Aj) (Aa (Ak PZ Aj Aj) Ab)))) (Ak Eb (Ak BB (Ak BB (Ak Nm m_ Aj) Aj) Aj) Aj) (λ_ _=>rfl))) (Ac (i_ 9 DF (Ak Bw (Ak BB (Ak BB (Ak Nm m_ Aj) Aj) Aj) Aj)) (Ac (i_ 10 DF (Js Bo BD hr l_)) (Ac (i_ 11 DF (k_ Dp hr (Aa ld (Aa o_ (Aa (pv 8) (Aa p_ (Aa (pv 9) (Aa n_ Ab)))))))) (Ac (Cs (k_ Bn hr (Aa l_ (Aa o_ (Aa (pv 8) (Aa p_ (Aa (pv 9) Ab)))))) (Ca rfl (AE (j_ 12 DF) (AE (j_ 13 DF) BN)))) (Ac (Az (PW.pt (Cr (Ax Qa o_ (Bs (Aa At (Aa At (Aa At Ab)))) rfl) (Cr (Ax AZ (pv 11) At) (DB (Ax (PL hr.units) (pv 12) (Bk (Aa At (Aa At Ab)))))))) (Ah (An (Bs (Aa (BW (Qe hr.units) (Js Bo BD hr l_) (pv 10)) (Aa mt Ab))))) AA) (Ac (Az (Ax Ib (pv 11) At) (Ah (An (Bs (Aa (DG (BW (PL hr.units) (pv 12) (Bk (Aa (pv 11) (Aa At Ab)))) (DG (BW FJ (pv 13) Br) (Ea (BW (Qe hr.units) (Js Bo BD hr l_) (pv 10))))) (Aa mt Ab))))) AA) (Ac (Az (Ax AZ o_ At) (Ac (Jy (DA hr.units) ld mt p_ rfl) (Ah (An (Bs (Aa (DG (BW (PL hr.units) (pv 12) (Bk Ab)) (DG (k_ AG hr (Aa (pv 13) Ab)) (Ea (BW AZ (pv 13) mt)))) (Aa (Ak AN mt Aj) Ab)))))) AA) (Ah (An (Bs (Aa (DG (BW (PL hr.units) (pv 12) (Bk Ab)) (Ea (k_ Dq hr (Aa l_ (Aa ld (Aa o_ (Aa (pv 8) (Aa p_ (Aa (pv 9) (Aa (pv 13) Ab)))))))))) (Aa mt Ab)))))))))))))))))),?_⟩;walk_at "D";obtain⟨F,y,dh,n,cs,ps,Hs,hk,c0,sz,rfl,W,hF,held,hsz,q⟩:=h;have hkl:=held.len W;have n0:0<=n:=by obtain⟨_,_,_,_,_,_,_,_,w⟩:=id W;exact w.n0
 have i0:=eo c0 (show (10:Int)≠0 by decide);have i1:=cu c0 (show (0:Int)<10 by decide);have j0:=eo (c0*48271%30011) (show (5:Int)≠0 by decide);have j1:=cu (c0*48271%30011) (show (0:Int)<5 by decide);have k0:=eo (c0*69621%65521) (show (11:Int)≠0 by decide);have k1:=cu (c0*69621%65521) (show (0:Int)<11 by decide);walk_at "";intro l1 hl1;have s1:Same H (upd H l1 (.lst (whL.map V.str))):=Same.new hl1;have h1:upd H l1 (.lst (whL.map V.str)) l1=some (.lst (whL.map V.str)):=upd_same;generalize eH1:upd H l1 _=H1;have eH1:upd H l1 (.lst (whL.map V.str))=H1:=eH1;rw[eH1] at s1 h1;walk_at "";obtain⟨wh,ew,hw⟩:=wh_at i0 i1;refine Ff (SqL.of h1) ew ?_;walk_at "";intro l2 hl2;have s2:Same H1 (upd H1 l2 (.lst ([1+c0/10%4,c0/10%4-3,sz-1+c0/10%40,1+c0/10%4/2,10^gy 60].map V.int))):=Same.new hl2;have h2:upd H1 l2 (.lst ([1+c0/10%4,c0/10%4-3,sz-1+c0/10%40,1+c0/10%4/2,10^gy 60].map V.int)) l2=some (.lst ([1+c0/10%4,c0/10%4-3,sz-1+c0/10%40,1+c0/10%4/2,10^gy 60].map V.int)):=upd_same;generalize eH2:upd H1 l2 _=H2;have eH2:upd H1 l2 (.lst ([1+c0/10%4,c0/10%4-3,sz-1+c0/10%40,1+c0/10%4/2,10^gy 60].map V.int))=H2:=eH2;rw[eH2] at s2 h2;walk_at "s";clear h2 eH2 hl2 j0 j1 ew h1 eH1 hl1 i0 i1;refine Ec (M:=λσ' H'=>H'=H2/\∃c:Int,σ'=[some (.ref y),some (.ref dh),some (.int n),some (.int c0),some (.int sz),some (.str wh),some (.int (c0/10%4)),some (.int c),none,none,none,none,none,none]) ?_ (λnx hM=>?_)
 rotate_left
 . walk_at "";refine AO (λhc=>?_) (λhc=>?_)
   . walk_at "";exact hM _ _ ⟨rfl,_,rfl⟩
   . walk_at "";exact hM _ _ ⟨rfl,_,rfl⟩
 rintro σ3 H3 ⟨rfl,c,rfl⟩;refine Ec (M:=λσ' H'=>H'=H3/\∃c:Int,σ'=[some (.ref y),some (.ref dh),some (.int n),some (.int c0),some (.int sz),some (.str wh),some (.int (c0/10%4)),some (.int c),none,none,none,none,none,none]) ?_ (λnx hM=>?_)
 rotate_left
 . walk_at "";refine AO (λhc=>?_) (λhc=>?_)
   . walk_at "";refine AO (λhc=>?_) (λhc=>?_)
     . walk_at "";exact hM _ _ ⟨rfl,_,rfl⟩
     . walk_at "";exact hM _ _ ⟨rfl,_,rfl⟩
   . walk_at "";exact hM _ _ ⟨rfl,_,rfl⟩
 clear c;rintro σ4 H4 ⟨rfl,c,rfl⟩;walk_at "";intro l3 hl3;have s3:Same H4 (upd H4 l3 (.lst ([n-1,c0*40692%65519%(n+5)-2,10^gy 60].map V.int))):=Same.new hl3;have h3:upd H4 l3 (.lst ([n-1,c0*40692%65519%(n+5)-2,10^gy 60].map V.int)) l3=some (.lst ([n-1,c0*40692%65519%(n+5)-2,10^gy 60].map V.int)):=upd_same;generalize eH5:upd H4 l3 _=H5;have eH5:upd H4 l3 (.lst ([n-1,c0*40692%65519%(n+5)-2,10^gy 60].map V.int))=H5:=eH5;rw[eH5] at s3 h3;have s15:=(s1.trans s2).trans s3;have W5:=W.same s15;obtain⟨dy,x,d,hy⟩:=W5.hy;walk_at "";generalize ([n-1,c0*40692%65519%(n+5)-2,10^gy 60].getD (c0*69621%65521%11/5).toNat 0)=one;generalize c0*16807%31337%7-1=kk;refine⟨F,y,n,cs,ps,Hs,rfl,W5,λpb H6 npb s6 hpb=>?_⟩;have hd6:=(W5.same s6).at hF;walk_at "";refine⟨dh,hk,wh,one,c,kk,sz,rfl,hd6,λH7 s7=>?_⟩;have W7:=(W5.same s6).same s7;have hpb7:=s7 pb _ hpb;obtain⟨dy7,x7,d7,hy7⟩:=W7.hy;clear hd6 s6 s7 hpb npb h3 eH5 hl3 k0 k1 s15 s3 W5 hy W s1 s2;walk_at "";refine oB W7 hw (λe H8 s8 hr t l H9 s9 ht hl=>?_) (λv n' cs' ps' Hs' H8 w8 hl8 ho t l H9 s9 ht hl=>?_)
 . have s89:=s8.trans s9;have W9:=W7.same s89;have hpb9:=s89 pb _ hpb7;have hy9:=s89 y _ hy7;rcases oC (sz:=sz) held hr with hdue | ⟨hdue,rfl,hw3⟩
   . rw[hdue];have hne:wE6 e≠"":=by cases e <;> decide
     walk_at "s";refine Ec (M:=λσ' H'=>σ'=[some (.ref y),some (.ref dh),some (.int n),some (.int c0),some (.int sz),some (.str wh),some (.int (c0/10%4)),some (.int c),some (.int one),some (.int kk),some (.ref pb),some (.str (wE6 e)),some (.ref l),some .non]/\Same H9 H') ?_ (λnx hM=>?_)
     rotate_left
     . walk_at "";intro t3 nt3;have sA:Same H9 (upd H9 t3 (.tup [.str "ask",.str "grow",.str "gather"])):=Same.new nt3;have gA:upd H9 t3 (.tup [.str "ask",.str "grow",.str "gather"]) t3=some (.tup [.str "ask",.str "grow",.str "gather"]):=upd_same;generalize upd H9 t3 (.tup [.str "ask",.str "grow",.str "gather"])=HA at sA gA ⊢;refine⟨t3,_,rfl,.inr (SqT.of gA),rfl,rfl,?_⟩;rw[if_neg η];refine⟨_,rfl,BX (λhv=>?_) (λhv=>?_)⟩
       . walk_at ""
         first
           | exact hM _ _ ⟨rfl,sA⟩
           | (refine AO (λh=>absurd h hne) (λ_=>?_);walk_at "";exact hM _ _ ⟨rfl,sA⟩)
       . walk_at "";exact hM _ _ ⟨rfl,sA⟩
     rintro σA HA ⟨rfl,sA⟩;have WA:=W9.same sA;have hyA:=sA y _ hy9;have hlA:=sA l _ hl;have hpbA:=sA pb _ hpb9;walk_at "s";refine Ec (M:=λ_ _=>False) (λ_ _ h=>h.elim) (λnx hM=>?_);walk_at "";intro l4 nl4;have sB:Same HA (upd HA l4 (.lst [.str (wE6 e),.str "base"])):=Same.new nl4;refine⟨l,l4,_,_,rfl,rfl,sB l _ hlA,upd_same,rfl,rfl,?_⟩;rw[NO rfl];have WB:=WA.same sB;have hyB:=sB y _ hyA;have hpbB:=sB pb _ hpbA;generalize upd HA l4 (.lst [.str (wE6 e),.str "base"])=HB at sB WB hyB hpbB ⊢;walk_at "";refine⟨F,y,n,cs,ps,Hs,rfl,WB,λp5 HC np5 sC hp5=>?_⟩;walk_at "";refine⟨p5,pb,cs,cs,rfl,rfl,SqL.of hp5,SqL.of (sC pb _ hpbB),?_⟩;rw[decide_eq_true rfl];walk_at "";intro tt ntt;exact q tt hk n cs ps Hs _ (((WB.same sC).same (Same.new ntt)).again hF) held rfl upd_same
   . rw[hdue];walk_at "";intro t3 nt3;have sA:Same H9 (upd H9 t3 (.tup [.str "ask",.str "grow",.str "gather"])):=Same.new nt3;have gA:upd H9 t3 (.tup [.str "ask",.str "grow",.str "gather"]) t3=some (.tup [.str "ask",.str "grow",.str "gather"]):=upd_same;generalize upd H9 t3 (.tup [.str "ask",.str "grow",.str "gather"])=HA at sA gA ⊢;refine⟨t3,_,rfl,.inr (SqT.of gA),rfl,rfl,?_⟩;have hin:inV (.str wh) [.str "ask",.str "grow",.str "gather"]=true:=by
       rw[in_3];rcases hw3 with h | h | h
       . rw[decide_eq_true h];rfl
       . rw[decide_eq_true h];simp
       . rw[decide_eq_true h];simp
     rw[if_neg η,hin];refine⟨true,rfl,?_⟩;have WA:=W9.same sA;have hyA:=sA y _ hy9;have hlA:=sA l _ hl;have hpbA:=sA pb _ hpb9;walk_at "";intro l4 nl4;have sB:Same HA (upd HA l4 (.lst [.str "room",.str "base"])):=Same.new nl4;refine⟨l,l4,_,_,rfl,rfl,sB l _ hlA,upd_same,rfl,rfl,?_⟩;have e0:tR [.str (wE6 Er6.room),.str "base"] [.str "room",.str "base"]=true:=NO rfl;rw[e0];have WB:=WA.same sB;have hyB:=sB y _ hyA;have hpbB:=sB pb _ hpbA;generalize upd HA l4 (.lst [.str "room",.str "base"])=HB at sB WB hyB hpbB ⊢;walk_at "";refine⟨F,y,n,cs,ps,Hs,rfl,WB,λp5 HC np5 sC hp5=>?_⟩;walk_at "";refine⟨p5,pb,cs,cs,rfl,rfl,SqL.of hp5,SqL.of (sC pb _ hpbB),?_⟩;rw[decide_eq_true rfl];walk_at "";intro tt ntt;exact q tt hk n cs ps Hs _ (((WB.same sC).same (Same.new ntt)).again hF) held rfl upd_same
 . rw[oE held hsz ho];have W9:=w8.same s9;obtain⟨dy9,x9,d9,hy9⟩:=W9.hy;walk_at "s";refine Ec (M:=λσ' H'=>σ'=[some (.ref y),some (.ref dh),some (.int n),some (.int c0),some (.int sz),some (.str wh),some (.int (c0/10%4)),some (.int c),some (.int one),some (.int kk),some (.ref pb),some (.str ""),some (.ref l),some v]/\Same H9 H') ?_ (λnx hM=>?_)
   rotate_left
   . walk_at "";intro t3 nt3;have sA:Same H9 (upd H9 t3 (.tup [.str "ask",.str "grow",.str "gather"])):=Same.new nt3;have gA:upd H9 t3 (.tup [.str "ask",.str "grow",.str "gather"]) t3=some (.tup [.str "ask",.str "grow",.str "gather"]):=upd_same;generalize upd H9 t3 (.tup [.str "ask",.str "grow",.str "gather"])=HA at sA gA ⊢;refine⟨t3,_,rfl,.inr (SqT.of gA),rfl,rfl,?_⟩;rw[if_neg η];refine⟨_,rfl,BX (λhv=>?_) (λhv=>?_)⟩
     . walk_at "";intro l4 nl4;have sB:Same HA (upd HA l4 (.lst [.str "room",.str "base"])):=Same.new nl4;refine⟨l,l4,_,_,rfl,rfl,sB l _ (sA l _ hl),upd_same,rfl,rfl,?_⟩;have e0:tR [] [.str "room",.str "base"]=false:=rfl;rw[e0];walk_at "";exact hM _ _ ⟨rfl,sA.trans sB⟩
     . walk_at "";exact hM _ _ ⟨rfl,sA⟩
   rintro σA HA ⟨rfl,sA⟩;have WA:=W9.same sA;have hyA:=sA y _ hy9;have hlA:=sA l _ hl;have hdA:=WA.at hF;have hyd:=WA.ne hF;walk_at "";refine AO (λha=>?_) (λha=>?_)
   . subst ha;rcases ho with ⟨_,rfl,rfl,h1,h2,lp⟩ | ⟨h0,_⟩ | ⟨_,_,_,h0⟩
     . walk_at "";refine⟨dh,_,rfl,.inl ⟨_,.inl n,hdA,rfl,small1000 (by rw[ε];omega),rfl⟩,?_⟩;rw[PB];have WB:=WA.putF (o':=.dK ((tN hk n c).map dkE)) hF rfl;have hld:l≠dh:=λz=>by rw[z,hdA] at hlA;cases hlA
       have hlB:upd HA dh (.dK ((tN hk n c).map dkE)) l=some (.lst []):=look_ne hld hlA;generalize upd HA dh (.dK ((tN hk n c).map dkE))=HB at WB hlB ⊢;walk_at "";intro l4 nl4;have sC:Same HB (upd HB l4 (.lst [])):=Same.new nl4;refine⟨l,l4,_,_,rfl,rfl,sC l _ hlB,upd_same,rfl,rfl,?_⟩;have e0:tR [] []=true:=rfl;rw[e0];walk_at "";intro tt ntt;rw[decide_eq_true rfl];exact q tt (tN hk n c) (n+1) cs' ps' Hs' _ ((WB.same sC).same (Same.new ntt)) (YY held lp) hl8 upd_same
     . exact absurd h0 (by decide)
     . rcases h0 with ⟨h0,_⟩ | ⟨h0,_⟩ | ⟨h0,_⟩ | ⟨h0,_⟩ | ⟨h0,_⟩ | ⟨h0,_⟩ <;> exact absurd h0 (by decide)
   . have en:n'=n:=by
       rcases ho with ⟨h0,_⟩ | ⟨_,_,h0,_⟩ | ⟨_,_,h0,_⟩
       . exact absurd h0 ha
       . exact h0
       . exact h0
     walk_at "";intro l4 nl4;have sC:Same HA (upd HA l4 (.lst [])):=Same.new nl4;refine⟨l,l4,_,_,rfl,rfl,sC l _ hlA,upd_same,rfl,rfl,?_⟩;have e0:tR [] []=true:=rfl;rw[e0];walk_at "";refine oH held hkl (WA.same sC) hF ha ho (λhk' HD wD hD=>?_);walk_at "";intro tt ntt;subst en;exact q tt hk' n' cs' ps' Hs' _ (wD.same (Same.new ntt)) hD hl8 upd_same
section
variable {C:W4->qH}{CH TP:qH}{F:Hp}{y:qH}{n:Int}{cs:List Int}{ps:List Pc}{Hs:Int->Option Pc}{H H':Hp}
theorem Wn.gain{b:qH}{o:HO}(w:Wn C CH TP F y n cs ps Hs H)(hb:H b=none)(s:Same H H')(hb':H' b=some o):Wn C CH TP (upd F b o) y n cs ps Hs H':=by
 obtain⟨dy,x,dx,d,a,i,r,kvs,w1⟩:=w;have ne:∀{c:qH} {u:HO},H c=some u->b≠c:=λh e=>by rw[<-e,hb] at h;cases h
 have w3:=w1.same s;refine⟨dy,x,dx,d,a,i,r,kvs,w3.hy,w3.S,w3.hd,w3.ow,w3.tb,w3.z,w3.hn,w3.n0,λc u hc=>?_⟩;by_cases e:c=b
 . subst e;rw[upd_same] at hc;cases hc;obtain⟨_,e2,_⟩:=w1.tb;exact⟨hb',ne w1.hy,ne w1.S.hx,ne w1.hd,ne w1.S.ha,ne e2⟩
 . rw[AC e] at hc;exact w3.kp c u hc
theorem Wn.redo{b:qH}{o o':HO}(w:Wn C CH TP (upd (upd F b o) b o') y n cs ps Hs H):Wn C CH TP (upd F b o') y n cs ps Hs H:=w.less λc u e=>by
 by_cases z:c=b
 . subst z;rw[upd_same] at e ⊢;exact e
 . rw[AC z] at e;rw[AC z,AC z];exact e
end
def LwN(C:W4->qH)(CH TP:qH)(F:Hp)(f0:Option V)(y dh q1:qH)(zs:List Int)(sz:Int)(i:Nat)(σ:L2.St)(H':Hp):Prop :=
 ∃(x5 x6:Option V) (hk:List (Int×Int)) (n:Int) (cs:List Int) (ps:List Pc) (Hs:Int->Option Pc),σ=[f0,some (.ref y),some (.int sz),some (.ref dh),some (.int n),x5,x6]/\Wn C CH TP (upd F dh (.dK (hk.map dkE))) y n cs ps Hs H'/\Held hk Hs/\sz=cs.length
variable (Dr:tE P w K mg base "_law_made" 14 ["_law_script"] (YU K (cF Ae Af Ad Ag) Y4 TP))
variable (Ds:tE P w K mg base "_law_step" 14 ["_law_desk","_law_held","_law_upto","_law_cell","_law_size"] (YZ (cF Ae Af Ad Ag) Y4 TP))
variable (Cg:tE P w K mg base "_law_seen" 3 ["_law_desk","_law_held"] (YX (cF Ae Af Ad Ag) Y4 TP))
include T Bj Dr Ds Cg in
theorem vn{f:qH}{fd:qJ}(F:Fun K "law" "law" GS f fd):FnOk P w K mg base (CXe P w) 15 f fd ["_law_script"] (Ob K TP):=by
 refine A5 F Fk (λcdv A outer s H vs Q E hr h=>?_);refine⟨_,PSs.nox (Ac (i_ 1 Fk (k_ Dr hr (Aa l_ Ab))) (Ac (Az (Ax FJ ld Br) (Ah (An Dx)) AA) (Ac (i_ 2 Fk (Ak AN Aj (Ak BB (k_ Bj hr (Aa l_ (Aa Aj Ab))) Aj))) (Ac (i_ 3 Fk Qu) (Ac (i_ 4 Fk Aj) (Ac (DH ce rfl (BU (Jn Nu l_ (FK Aj) (FK Aj))) (j_ 5 Fk) (Ac (Cs (k_ Ds hr (Aa ld (Aa m_ (Aa n_ (Aa o_ (Aa mt Ab)))))) (Ca rfl (AE (j_ 6 Fk) (AE (j_ 4 Fk) BN)))) (Ah (Az (PW.pt (CB (CD (CF q_ (λ_=>rfl))) (DC (CD (D9 (k_ Cg hr (Aa ld (Aa m_ Ab)))))))) (Ah (An Dx)) AA)))) (Ah (An (k_ Cg hr (Aa ld (Aa m_ Ab))))))))))),?_⟩;walk_at "D";obtain⟨sc,ns,rfl,hS,hlen,hT,kk⟩:=h;have tb:TbOk H TP uk Fn:=⟨#[],hT,trivial,.inl rfl⟩
 have z0:=eo (ns.getD (1:Int).toNat 0) (show (60:Int)≠0 by decide);have z1:=cu (ns.getD (1:Int).toNat 0) (show (0:Int)<60 by decide);walk_at "";refine⟨sc,ns,rfl,hS,tb,λy H1 W=>?_⟩;have hid:∀{b:qH} {o:HO},H b=some o->b≠TP->uf TP H b=some o:=λh e=>by unfold uf;rw[if_neg e];exact h
 have hS1:SqL K H1 sc (ns.map V.int):=by
   rcases hS with (h | ⟨o,h⟩) | h
   . exact .inl (.inl (W.at (hid h (λe=>by rw[e,hT] at h;cases h))))
   . exact .inl (.inr ⟨o,W.at (hid h (λe=>by rw[e,hT] at h;cases h))⟩)
   . exact .inr h
 obtain⟨dy,x,d,hy⟩:=W.hy;have fl:=Ps (show 0<=szF ns by unfold szF;omega);walk_at "";intro dh ndh;have hdsc:SqL K (upd H1 dh (.dK [])) sc (ns.map V.int):=(Same.new ndh).seq hS1;have W2:=W.newF (o:=.dK []) ndh;have esz:(1+ns.getD (gy 1) 0%60:Int)=szF ns:=rfl;rw[esz];have hsz:szF ns=(Cq (szF ns)).length:=by omega
 generalize Cq (szF ns)=cs0 at W2 hsz;generalize szF ns=sz at W2 hsz ⊢;generalize upd H1 dh (.dK [])=H2 at W2 hdsc ⊢;clear W hS1 hy esz z0 z1 fl ndh hid tb hT hS;walk_at "";intro q1 H9 mq1 s9 hq1;generalize tW ns (some 3) (some 43)=zs at hq1 ⊢;have W3:=W2.gain mq1 s9 hq1;have hqd:q1≠dh:=λe=>by rw[e,W2.at upd_same] at mq1;cases mq1
 have W4:Wn (cF Ae Af Ad Ag) Y4 TP (upd (upd (uf TP H) q1 (.lst (zs.map V.int))) dh (.dK (([]:List (Int×Int)).map dkE))) y 0 cs0 [⟨0,sz,false⟩] (λ_=>none) H9:=W3.less λc u e=>by
   by_cases z:c=dh
   . subst z;rw[upd_same] at e;rw[AC (bd hqd),upd_same];exact e
   . rw[AC z] at e;by_cases z2:c=q1
     . subst z2;rw[upd_same] at e ⊢;exact e
     . rw[AC z2] at e;rw[AC z2,AC z];exact e
 have keepq:∀{hk:List (Int×Int)} {n:Int} {cs:List Int} {ps:List Pc} {Hs:Int->Option Pc} {H':Hp},Wn (cF Ae Af Ad Ag) Y4 TP (upd (upd (uf TP H) q1 (.lst (zs.map V.int))) dh (.dK (hk.map dkE))) y n cs ps Hs H'->H' q1=some (.lst (zs.map V.int)):=λw=>w.at (look_ne hqd upd_same);have held0:Held [] (λ_=>none):=⟨jq,λ_=>rfl⟩
 clear W3 W2 s9 mq1 hdsc hlen;generalize upd (uf TP H) q1 (.lst (zs.map V.int))=F0 at W4 keepq;refine⟨q1,rfl,⟨_,SqL.of hq1⟩,DI (K:=K) (a:=q1) (xs:=zs.map V.int) (LwN (cF Ae Af Ad Ag) Y4 TP F0 (some (.ref sc)) y dh q1 zs sz) ⟨none,none,[],0,_,_,_,rfl,W4,held0,hsz⟩ (λi σ H2 _ ⟨_,_,_,_,_,_,_,_,w,_⟩=>SqL.of (keepq w)) ?_ ?_⟩
 . rintro i v σ H5 hi ⟨x5,x6,hk,n,cs,ps,Hs,rfl,W5,held,hs5⟩;rw[Ψ] at hi;obtain⟨c0,hc0,rfl⟩:=ai.mp hi;walk_at "";refine⟨_,y,dh,n,cs,ps,Hs,hk,c0,sz,rfl,W5,upd_same,held,hs5,λt hk' n' cs' ps' Hs' H6 W6 held6 l6 ht=>?_⟩;have W6:=W6.redo;have hd6:=W6.at upd_same;walk_at "";refine⟨_,y,dh,n',cs',ps',Hs',hk',rfl,W6,hd6,held6,λH7 s7=>?_⟩;walk_at "";exact⟨_,_,hk',n',cs',ps',Hs',rfl,W6.same s7,held6,by omega⟩
 . rintro σ H5 ⟨x5,x6,hk,n,cs,ps,Hs,rfl,W5,held,hs5⟩;have hd5:=W5.at upd_same;walk_at "";refine⟨_,y,dh,n,cs,ps,Hs,hk,rfl,W5,hd5,held,λH7 s7=>?_⟩;walk_at "";exact kk _
end
abbrev LkF(K:γ)(x q:Str)(s:qO)(D:qG)(f:qH)(oc:qG)(od:Option qH)(kV dc pm:qG)(an:Option qH)(cd ct:qG)(sl:Array (Option qG)):Prop:=K.lookup f=some ⟨oc,od,.func (fnOf x q (BA s) (Bp s) (Am s) D kV dc pm an cd ct),sl⟩
set_option autoImplicit true in
set_option relaxedAutoImplicit true in
theorem all_mk{l:lf}{w:qL}{K:γ}{h:rB}{mg:Str->Option qG}{fa:qH}(X:K.In h)(G:h.Ns re mg)(hfa:mg "law"=some (.ref fa))
   {TC TP:qH}
   {Y0 Av Aq Y7 Bb Y2 Y6 Y9 Ar Y5 Ao Y3 Bc Bd Y8 Y1 Ae Af Ad Ag Y4:qH}
   {DN:qH}
   {Hy:Tok}
   {Ew:qG}
   {Ex:Option qH}
   {Ey:Nat}
   {Ez:Array (Option qG)}
   {Fq:qH}
   {Lh:Tok}
   {Hz:qG}
   {HE:Option qH}
   {HF:Nat}
   {HG:Array (Option qG)}
   (T:Txt K mg Y0 Av Aq Y7 Bb Y2 Y6 Y9 Ar Y5 Ao Y3 Bc Bd Y8 Y1 Ae Af Ad Ag Y4 TC TP a4 a6)
   (Za:Src K mg "_wall" QM)
   (Li:Src K mg "check_ask" Oe)
   (oI:Src K mg "check_plain_ask" FS)
   (Lj:Src K mg "mark_of" Of)
   (Ll:Src K mg "long_of" Og)
   (Lm:Src K mg "live_of" Oh)
   (Ln:Src K mg "can_begin" Oi)
   (Lo:Src K mg "bad_of_piece" Oj)
   (Lp:Src K mg "looked" Ol)
   (Lq:Src K mg "fresh_room" Om)
   (Lr:Src K mg "laid" On)
   (Ls:Src K mg "laid_free" Oo)
   (Lu:Src K mg "piece_at" Op)
   (Lv:Src K mg "live_at" Oq)
   (Lw:Src K mg "free_at" Os)
   (Lx:Src K mg "begin_around" Ot)
   (Ly:Src K mg "free_begin" Ou)
   (Lz:Src K mg "free_end" Ov)
   (LA:Src K mg "cut_out" Ox)
   (LB:Src K mg "freed" Oy)
   (LC:Src K mg "joined_pieces" OA)
   (LD:Src K mg "joined" OB)
   (LE:Src K mg "carried" OC)
   (LG:Src K mg "starts_of" OD)
   (LH:Src K mg "stops_of" OE)
   (LI:Src K mg "best_plan" OF)
   (LJ:Src K mg "moved_down" OG)
   (LK:Src K mg "gathered" OH)
   (LL:Src K mg "first_place" OI)
   (LM:Src K mg "spots_for" OJ)
   (LN:Src K mg "least_place" OL)
   (LO:Src K mg "stretches_of" OM)
   (LP:Src K mg "_law_cell_at" ON)
   (LQ:Src K mg "_law_whole" OO)
   (LR:Src K mg "_law_walk" OP)
   (LS:Src K mg "_law_words" OQ)
   (LU:Src K mg "_law_done" OR)
   (LV:Src K mg "_law_call" OS)
   (LW:Src K mg "_law_made" OT)
   (LX:Src K mg "_law_due" OU)
   (LY:Src K mg "_law_seen" OV)
   (LZ:Src K mg "_law_right" OW)
   (L0:Src K mg "_law_step" OX)
   (L1:nI K "followed" l9)
   (L3:LkF K "followed" "followed" JN .none l9 v9 w5 w6 w9 y6 y7 d0 y9 z5)
   (L4:cI K d0 "followed")
   (L5:kI K l9)
   (a_law:nI K "law" f_law)
   (l_law:LkF K "law" "law" GS .none f_law oc_law od_law kV_law dc_law pm_law an_law cd_law ct_law sl_law)
   (c_law:cI K cd_law "law")
   (k_law:kI K f_law)
   (e_lam:d0 = .ref TC)
   (Rk:fI K Ae "__init__" u7)
   (PM:LkF K "__init__" "Keeper.__init__" GT .none u7 zet zeu zev zew zex zey zcD zez zeA)
   (PN:cI K zcD "Keeper.__init__")
   (L6:kI K u7)
   (Rl:iI K u7)
   (oJ:makesIn K Ae=true)
   (oK:kI K Ae)
   (Rm:fI K Af "__init__" u7)
   (oM:makesIn K Af=true)
   (oN:kI K Af)
   (Rn:fI K Ag "__init__" u7)
   (oO:makesIn K Ag=true)
   (oP:kI K Ag)
   (Ro:findCls K (.ref Y1) (.type "type") "__init__"=some (.val (.ref u7)))
   (oQ:specialIn K (.ref Y1) "__getattribute__"=some (some (.builtin "type.__getattribute__")))
   (oR:readsIn K Y1 (.type "type")=true)
   (Rp:fI K Ad "__init__" z6)
   (oU:LkF K "__init__" "Next.__init__" O0 .none z6 zfB zfC zfD zfE zfF zfG zcP zfH zfI)
   (oV:cI K zcP "Next.__init__")
   (oW:kI K z6)
   (oX:iI K z6)
   (oY:makesIn K Ad=true)
   (oZ:kI K Ad)
   (pA:fI K Ae "room_begin" d6)
   (pB:fI K Af "room_begin" d6)
   (pC:fI K Ag "room_begin" d6)
   (Rq:LkF K "room_begin" "Stretches.room_begin" El .none d6 oc_Z1 od_Z1 kV_Z1 dc_Z1 pm_Z1 an_Z1 u8 ct_Z1 sl_Z1)
   (Rr:cI K u8 "Stretches.room_begin")
   (EA:kI K d6)
   (DO:iI K d6)
   (Rs:fI K Ad "room_begin" m6)
   (Rt:LkF K "room_begin" "Next.room_begin" Em .none m6 oc_Z6 od_Z6 kV_Z6 dc_Z6 pm_Z6 an_Z6 u9 ct_Z6 sl_Z6)
   (Ru:cI K u9 "Next.room_begin")
   (L7:kI K m6)
   (L8:iI K m6)
   (pD:fI K Ae "room_granted" d8)
   (pE:fI K Af "room_granted" d8)
   (pF:fI K Ag "room_granted" d8)
   (Rv:LkF K "room_granted" "Stretches.room_granted" En .none d8 oc_Z0 od_Z0 kV_Z0 dc_Z0 pm_Z0 an_Z0 v0 ct_Z0 sl_Z0)
   (Rw:cI K v0 "Stretches.room_granted")
   (EB:kI K d8)
   (DP:iI K d8)
   (Rx:fI K Ad "room_granted" m7)
   (Ry:LkF K "room_granted" "Next.room_granted" Eo .none m7 oc_Z3 od_Z3 kV_Z3 dc_Z3 pm_Z3 an_Z3 v3 ct_Z3 sl_Z3)
   (Rz:cI K v3 "Next.room_granted")
   (L9:kI K m7)
   (Ma:iI K m7)
   (RA:fI K Ae "cells" a7)
   (RB:fI K Af "cells" a7)
   (RC:fI K Ad "cells" a7)
   (RD:fI K Ag "cells" a7)
   (Mb:LkF K "cells" "Keeper.cells" O2 .none a7 z7 z8 z9 dc_Z20 pm_Z20 an_Z20 m8 ct_Z20 sl_Z20)
   (Mc:cI K m8 "Keeper.cells")
   (Ch:kI K a7)
   (B0:iI K a7)
   (RF:fI K Ae "lay" a8)
   (RG:fI K Af "lay" a8)
   (RH:fI K Ad "lay" a8)
   (RI:fI K Ag "lay" a8)
   (Md:LkF K "lay" "Keeper.lay" O3 .none a8 oc_Z38 od_Z38 kV_Z38 dc_Z38 pm_Z38 an_Z38 m9 ct_Z38 sl_Z38)
   (Me:cI K m9 "Keeper.lay")
   (Ci:kI K a8)
   (B2:iI K a8)
   (RJ:fI K Ae "pieces" a9)
   (RK:fI K Af "pieces" a9)
   (RL:fI K Ad "pieces" a9)
   (RM:fI K Ag "pieces" a9)
   (Mf:LkF K "pieces" "Keeper.pieces" O4 .none a9 oc_Z14 od_Z14 kV_Z14 dc_Z14 pm_Z14 an_Z14 n9 ct_Z14 sl_Z14)
   (Mg:cI K n9 "Keeper.pieces")
   (Cj:kI K a9)
   (B3:iI K a9)
   (RN:fI K Ae "many" b8)
   (RO:fI K Af "many" b8)
   (RP:fI K Ad "many" b8)
   (RS:fI K Ag "many" b8)
   (Mh:LkF K "many" "Keeper.many" O5 .none b8 oc_Z31 od_Z31 kV_Z31 dc_Z31 pm_Z31 an_Z31 o4 ct_Z31 sl_Z31)
   (Mi:cI K o4 "Keeper.many")
   (Ck:kI K b8)
   (B4:iI K b8)
   (pG:fI K Ae "room_cell_of" c6)
   (pH:fI K Af "room_cell_of" c6)
   (pI:fI K Ad "room_cell_of" c6)
   (pJ:fI K Ag "room_cell_of" c6)
   (RT:LkF K "room_cell_of" "Keeper.room_cell_of" Ep .none c6 oc_Z2 od_Z2 kV_Z2 dc_Z2 pm_Z2 an_Z2 v4 ct_Z2 sl_Z2)
   (RU:cI K v4 "Keeper.room_cell_of")
   (DQ:kI K c6)
   (Dt:iI K c6)
   (RV:fI K Ae "put" b9)
   (RW:fI K Af "put" b9)
   (RX:fI K Ad "put" b9)
   (RY:fI K Ag "put" b9)
   (Mj:LkF K "put" "Keeper.put" O7 .none b9 oc_Z39 od_Z39 kV_Z39 dc_Z39 pm_Z39 an_Z39 o5 ct_Z39 sl_Z39)
   (Ml:cI K o5 "Keeper.put")
   (Cl:kI K b9)
   (B5:iI K b9)
   (RZ:fI K Ae "get" c4)
   (R0:fI K Af "get" c4)
   (R1:fI K Ad "get" c4)
   (R3:fI K Ag "get" c4)
   (Mm:LkF K "get" "Keeper.get" O8 .none c4 oc_Z41 od_Z41 kV_Z41 dc_Z41 pm_Z41 an_Z41 o6 ct_Z41 sl_Z41)
   (Mn:cI K o6 "Keeper.get")
   (Cm:kI K c4)
   (B6:iI K c4)
   (Mo:fI K Ae "chosen" e7)
   (Mp:LkF K "chosen" "First.chosen" O9 .none e7 oc_Z25 od_Z25 kV_Z25 dc_Z25 pm_Z25 an_Z25 o7 ct_Z25 sl_Z25)
   (Mq:cI K o7 "First.chosen")
   (Fr:kI K e7)
   (HI:iI K e7)
   (Mr:fI K Af "chosen" f8)
   (Ms:LkF K "chosen" "Best.chosen" Pa .none f8 oc_Z32 od_Z32 kV_Z32 dc_Z32 pm_Z32 an_Z32 o8 ct_Z32 sl_Z32)
   (Mt:cI K o8 "Best.chosen")
   (Fs:kI K f8)
   (HJ:iI K f8)
   (Mu:fI K Ad "chosen" f9)
   (Mv:LkF K "chosen" "Next.chosen" Pb .none f9 oc_Z30 od_Z30 kV_Z30 dc_Z30 pm_Z30 an_Z30 o9 ct_Z30 sl_Z30)
   (Mw:cI K o9 "Next.chosen")
   (Ft:kI K f9)
   (HK:iI K f9)
   (Mx:fI K Ag "chosen" h7)
   (My:LkF K "chosen" "Likes.chosen" Pd .none h7 oc_Z23 od_Z23 kV_Z23 dc_Z23 pm_Z23 an_Z23 p8 ct_Z23 sl_Z23)
   (Mz:cI K p8 "Likes.chosen")
   (Fu:kI K h7)
   (HM:iI K h7)
   (R4:fI K Ae "ask" c5)
   (R5:fI K Af "ask" c5)
   (R6:fI K Ad "ask" c5)
   (R7:fI K Ag "ask" c5)
   (MA:LkF K "ask" "Stretches.ask" Er (.ref DN) c5 oc_Z12 od_Z12 kV_Z12 dc_Z12 pm_Z12 an_Z12 q8 ct_Z12 sl_Z12)
   (HN:K.lookup DN=some ⟨Ew,Ex,.seq [.int 1 Hy].toArray Ey,Ez⟩)
   (MB:cI K q8 "Stretches.ask")
   (Cn:kI K c5)
   (B7:iI K c5)
   (R8:fI K Ae "give" c7)
   (R9:fI K Af "give" c7)
   (Sa:fI K Ad "give" c7)
   (Sb:fI K Ag "give" c7)
   (Sc:LkF K "give" "Stretches.give" Es .none c7 oc_Z9 od_Z9 kV_Z9 dc_Z9 pm_Z9 an_Z9 v5 ct_Z9 sl_Z9)
   (Sd:cI K v5 "Stretches.give")
   (DR:kI K c7)
   (Du:iI K c7)
   (Se:fI K Ae "room_moved" c8)
   (Sf:fI K Af "room_moved" c8)
   (Sg:fI K Ad "room_moved" c8)
   (Sh:fI K Ag "room_moved" c8)
   (Si:LkF K "room_moved" "Keeper.room_moved" Et .none c8 oc_Z4 od_Z4 kV_Z4 dc_Z4 pm_Z4 an_Z4 v6 ct_Z4 sl_Z4)
   (Sj:cI K v6 "Keeper.room_moved")
   (DS:kI K c8)
   (Dv:iI K c8)
   (Sk:fI K Ae "grow" c9)
   (Sl:fI K Af "grow" c9)
   (Sm:fI K Ad "grow" c9)
   (Sn:fI K Ag "grow" c9)
   (So:LkF K "grow" "Stretches.grow" BZ (.ref Fq) c9 oc_Z8 od_Z8 kV_Z8 dc_Z8 pm_Z8 an_Z8 v7 ct_Z8 sl_Z8)
   (MC:K.lookup Fq=some ⟨Hz,HE,.seq [.int 1 Lh].toArray HF,HG⟩)
   (Sq:cI K v7 "Stretches.grow")
   (DT:kI K c9)
   (Dw:iI K c9)
   (MD:fI K Y4 "cells" h8)
   (ME:LkF K "cells" "Handles.cells" Pe .none h8 oc_Z15 od_Z15 kV_Z15 dc_Z15 pm_Z15 an_Z15 q9 ct_Z15 sl_Z15)
   (MF:cI K q9 "Handles.cells")
   (Fv:kI K h8)
   (HP:iI K h8)
   (Sr:fI K Y4 "handles" r6)
   (Ss:LkF K "handles" "Handles.handles" Eu .none r6 oc_Z7 od_Z7 kV_Z7 dc_Z7 pm_Z7 an_Z7 v8 ct_Z7 sl_Z7)
   (Su:cI K v8 "Handles.handles")
   (MG:kI K r6)
   (MH:iI K r6)
   (MI:fI K Y4 "place" j6)
   (MJ:LkF K "place" "Handles.place" Pf .none j6 oc_Z13 od_Z13 kV_Z13 dc_Z13 pm_Z13 an_Z13 r8 ct_Z13 sl_Z13)
   (MK:cI K r8 "Handles.place")
   (Fw:kI K j6)
   (HQ:iI K j6)
   (ML:fI K Y4 "many" j7)
   (MM:LkF K "many" "Handles.many" Pg .none j7 oc_Z22 od_Z22 kV_Z22 dc_Z22 pm_Z22 an_Z22 r9 ct_Z22 sl_Z22)
   (MN:cI K r9 "Handles.many")
   (Fx:kI K j7)
   (HR:iI K j7)
   (MO:fI K Y4 "get" j8)
   (MP:LkF K "get" "Handles.get" Ph .none j8 oc_Z29 od_Z29 kV_Z29 dc_Z29 pm_Z29 an_Z29 t7 ct_Z29 sl_Z29)
   (MQ:cI K t7 "Handles.get")
   (Fy:kI K j8)
   (HS:iI K j8)
   (MR:fI K Y4 "put" j9)
   (MS:LkF K "put" "Handles.put" Pi .none j9 oc_Z26 od_Z26 kV_Z26 dc_Z26 pm_Z26 an_Z26 t8 ct_Z26 sl_Z26)
   (MT:cI K t8 "Handles.put")
   (Fz:kI K j9)
   (HU:iI K j9)
   (MU:fI K Y4 "give" k8)
   (MV:LkF K "give" "Handles.give" Pj .none k8 oc_Z18 od_Z18 kV_Z18 dc_Z18 pm_Z18 an_Z18 t9 ct_Z18 sl_Z18)
   (MW:cI K t9 "Handles.give")
   (FA:kI K k8)
   (HV:iI K k8)
   (MX:fI K Y4 "gather" k9)
   (MY:LkF K "gather" "Handles.gather" Pk .none k9 oc_Z10 od_Z10 kV_Z10 dc_Z10 pm_Z10 an_Z10 u4 ct_Z10 sl_Z10)
   (MZ:cI K u4 "Handles.gather")
   (FC:kI K k9)
   (HW:iI K k9)
   (M0:fI K Y4 "ask" l7)
   (M3:LkF K "ask" "Handles.ask" Pl .none l7 oc_Z27 od_Z27 kV_Z27 dc_Z27 pm_Z27 an_Z27 u5 ct_Z27 sl_Z27)
   (M4:cI K u5 "Handles.ask")
   (FD:kI K l7)
   (HX:iI K l7)
   (M5:fI K Y4 "grow" l8)
   (M6:LkF K "grow" "Handles.grow" Pn .none l8 oc_Z19 od_Z19 kV_Z19 dc_Z19 pm_Z19 an_Z19 u6 ct_Z19 sl_Z19)
   (M7:cI K u6 "Handles.grow")
   (FE:kI K l8)
   (HY:iI K l8)
   (Sv:fI K Y4 "__init__" zbV)
   (pK:LkF K "__init__" "Handles.__init__" O1 .none zbV zdy zdz zdA zdB zdC zdD zcu zdE zdF)
   (pL:cI K zcu "Handles.__init__")
   (pM:kI K zbV)
   (pN:iI K zbV)
   (pO:makesIn K Y4=true)
   (pP:kI K Y4):
   ∃fd:qJ,(∀(s:qI) (v:qG),BindsTo s fd ⟨[v],[]⟩ [("_law_script",v)])/\∀base:rB,K.In base->base.Ns re mg->FnOk l.prog w K mg base (CXe l.prog w) 15 fa fd ["_law_script"] (Ob K TP):=by
 have e:=hfa.symm.trans (mg_of X G a_law);cases e;have M8:=gE (st:=JN) X G L1 L3 L4 L5 e_lam;refine⟨fnOf "law" "law" (BA GS) (Bp GS) (Am GS) .none kV_law dc_law pm_law an_law cd_law ct_law,λs v=>.of_eq rfl,λbase _ _=>?_⟩;have Bm:=J7 l.prog w base T Lj ;have AB:=J8 l.prog w base T Ll ;have AT:=J9 l.prog w base T Lm ;have CM:=Ka l.prog w base T AB AT Ln;have CO:=Kb l.prog w base T AB CM Lo;have Ay:=Kc l.prog w base T AB AT CO Lp;have AU:=Kd l.prog w base T Bm Lq;have AK:=Ke l.prog w base T Bm Lr;have A7:=Kf l.prog w base T AK Ls;have CP:=Kg l.prog w base T LC ;have BG:=Kh l.prog w base T AK Ay CP LD;have BE:=Ki l.prog w base T Ay Lu;have Bg:=Kj l.prog w base T BE Lv;have CQ:=Kk l.prog w base T BE Lw;have CW:=Kl l.prog w base T AK CQ A7 LA;have CT:=Km l.prog w base T AB AT Ly;have BF:=Kn l.prog w base T AB AT Lz;have CZ:=Ko l.prog w base T A7 Bg CT BF LB;have CU:=Kq l.prog w base T LL ;have AV:=Kr l.prog w base T Ay CU LM;have AW:=Ks l.prog w base T LN ;have BJ:=Kt l.prog w base T LE ;have BI:=Ku l.prog w base T Li ;have CY:=Kv l.prog w base T Ay Lx;have D_First:=mT l.prog w base T AU (A4 PM PN L6) ⟨oJ,Rk,Rl,oK⟩;have D_Best:=vO l.prog w base T AU (A4 PM PN L6) ⟨oM,Rm,Rl,oN⟩;have D_Likes:=mU l.prog w base T AU (A4 PM PN L6) ⟨oO,Rn,Rl,oP⟩;have CV:=Kw l.prog w base T AU (A4 PM PN L6) ⟨oQ,oR,Ro,L6⟩;have D_Next:=vN l.prog w base T CV (A4 oU oV oW) ⟨oY,Rp,oX,oZ⟩;have M9:=Kx l.prog w base T BG (A4 Rq Rr EA) (λi hi=>by cases i <;> first | exact⟨pA,DO,EA⟩ | exact⟨pB,DO,EA⟩ | exact⟨pC,DO,EA⟩ | exact absurd rfl hi | cases hi | exact hi.elim);have Na:=Ky l.prog w base T BG (A4 Rt Ru L7) (λi hi=>by cases i <;> first | exact⟨Rs,L8,L7⟩ | exact absurd rfl hi | cases hi | exact hi.elim);have D_room_begin:AS l.prog w K mg base (cF Ae Af Ad Ag) "room_begin" 6 ["self","cells"] [] (Pw K (cF Ae Af Ad Ag)):=Xj M9 Na (by decide) (by decide) (λi=>by cases i <;> first | exact .inr rfl | exact .inl (λz=>by cases z));have Nb:=Kz l.prog w base T (A4 Rv Rw EB) (λi hi=>by cases i <;> first | exact⟨pD,DP,EB⟩ | exact⟨pE,DP,EB⟩ | exact⟨pF,DP,EB⟩ | exact absurd rfl hi | cases hi | exact hi.elim) ;have Nc:=KA l.prog w base T (A4 Ry Rz L9) (λi hi=>by cases i <;> first | exact⟨Rx,Ma,L9⟩ | exact absurd rfl hi | cases hi | exact hi.elim) ;have D_room_granted:AS l.prog w K mg base (cF Ae Af Ad Ag) "room_granted" 1 ["self","behind"] [] (Px (cF Ae Af Ad Ag)):=Xj Nb Nc (by decide) (by decide) (λi=>by cases i <;> first | exact .inr rfl | exact .inl (λz=>by cases z));have BL:=KB l.prog w base T (A4 Mb Mc Ch) (tV (Q:=λC=>tF K C "cells" a7) ⟨RA,B0,Ch⟩ ⟨RB,B0,Ch⟩ ⟨RC,B0,Ch⟩ ⟨RD,B0,Ch⟩) ;have D_lay:=d_lay l.prog w base T Ay D_room_begin (A4 Md Me Ci) (tV (Q:=λC=>tF K C "lay" a8) ⟨RF,B2,Ci⟩ ⟨RG,B2,Ci⟩ ⟨RH,B2,Ci⟩ ⟨RI,B2,Ci⟩);have Dd:=KC l.prog w base T Ay (A4 Mf Mg Cj) (tV (Q:=λC=>tF K C "pieces" a9) ⟨RJ,B3,Cj⟩ ⟨RK,B3,Cj⟩ ⟨RL,B3,Cj⟩ ⟨RM,B3,Cj⟩);have Bh:=KD l.prog w base T Bg (A4 Mh Mi Ck) (tV (Q:=λC=>tF K C "many" b8) ⟨RN,B4,Ck⟩ ⟨RO,B4,Ck⟩ ⟨RP,B4,Ck⟩ ⟨RS,B4,Ck⟩);have BH:=KE l.prog w base T Bh (A4 RT RU DQ) (tV (Q:=λC=>tF K C "room_cell_of" c6) ⟨pG,Dt,DQ⟩ ⟨pH,Dt,DQ⟩ ⟨pI,Dt,DQ⟩ ⟨pJ,Dt,DQ⟩);have D_put:=d_put l.prog w base T BH (A4 Mj Ml Cl) (tV (Q:=λC=>tF K C "put" b9) ⟨RV,B5,Cl⟩ ⟨RW,B5,Cl⟩ ⟨RX,B5,Cl⟩ ⟨RY,B5,Cl⟩);have D_get:=d_get l.prog w base T BH (A4 Mm Mn Cm) (tV (Q:=λC=>tF K C "get" c4) ⟨RZ,B6,Cm⟩ ⟨R0,B6,Cm⟩ ⟨R1,B6,Cm⟩ ⟨R3,B6,Cm⟩);have Nd:=KF l.prog w base T AV AW (A4 Mp Mq Fr) ⟨Mo,HI,Fr⟩;have Nf:=KG l.prog w base T AB AV AW (A4 Ms Mt Fs) ⟨Mr,HJ,Fs⟩;have Ng:=KH l.prog w base T AV AW (A4 Mv Mw Ft) ⟨Mu,HK,Ft⟩;have Nh:=KI l.prog w base T AB AV AW (A4 My Mz Fu) ⟨Mx,HM,Fu⟩;have D_chosen:AS l.prog w K mg base (cF Ae Af Ad Ag) "chosen" 6 ["self","long","bound"] [] (Hv (cF Ae Af Ad Ag)):=eZ (sp:=Hv (cF Ae Af Ad Ag)) Nd Nf Ng Nh (by decide) (by decide) (by decide) (by decide);have D_ask:=d_ask l.prog w base T BI D_chosen CW CY D_room_granted (Wr MA MB Cn) HN (tV (Q:=λC=>tF K C "ask" c5) ⟨R4,B7,Cn⟩ ⟨R5,B7,Cn⟩ ⟨R6,B7,Cn⟩ ⟨R7,B7,Cn⟩);have BK:=KJ l.prog w base T CZ (A4 Sc Sd DR) (tV (Q:=λC=>tF K C "give" c7) ⟨R8,Du,DR⟩ ⟨R9,Du,DR⟩ ⟨Sa,Du,DR⟩ ⟨Sb,Du,DR⟩);have C7:=KK l.prog w base T Bh D_ask BJ BK (A4 Si Sj DS) (tV (Q:=λC=>tF K C "room_moved" c8) ⟨Se,Dv,DS⟩ ⟨Sf,Dv,DS⟩ ⟨Sg,Dv,DS⟩ ⟨Sh,Dv,DS⟩);have Cf:=KL l.prog w base T AK A7 Bg BF BI C7 (Wr So Sq DT) MC (tV (Q:=λC=>tF K C "grow" c9) ⟨Sk,Dw,DT⟩ ⟨Sl,Dw,DT⟩ ⟨Sm,Dw,DT⟩ ⟨Sn,Dw,DT⟩);have Df:=KM l.prog w base T D_First D_Best D_Next D_Likes LO;have C8:=KN l.prog w base T LG ;have C9:=KO l.prog w base T LH ;have Da:=KP l.prog w base T Ay C8 C9 LI;have Db:=KQ l.prog w base T AK Ay BJ LJ;have Dc:=KR l.prog w base T Da Db LK;have De:=KS l.prog w base T M8 ;have Bo:=KU l.prog w base T BL (A4 ME MF Fv) ⟨MD,HP,Fv⟩;have Do:=KW l.prog w base T (A4 Ss Su MG) ⟨Sr,MH,MG⟩ ;have Aw:=KY l.prog w base T (A4 MJ MK Fw) ⟨MI,HQ,Fw⟩ ;have Dj:=KZ l.prog w base T Bh Aw (A4 MM MN Fx) ⟨ML,HR,Fx⟩;have Bv:=K0 l.prog w base T Aw D_get (A4 MP MQ Fy) ⟨MO,HS,Fy⟩;have Dk:=K1 l.prog w base T Aw D_put (A4 MS MT Fz) ⟨MR,HU,Fz⟩;have Dh:=K2 l.prog w base T BK Aw (A4 MV MW FA) ⟨MU,HV,FA⟩;have Bi:=K3 l.prog w base T BL Dc D_lay Dd De (A4 MY MZ FC) ⟨MX,HW,FC⟩;have Dg:=K4 l.prog w base T D_ask Bi (A4 M3 M4 FD) ⟨M0,HX,FD⟩;have Di:=K5 l.prog w base T Aw Bi Cf (A4 M6 M7 FE) ⟨M5,HY,FE⟩;have D_Handles:=nJ l.prog w base T Df (A4 pK pL pM) ⟨pO,Sv,pN,pP⟩;have Bj:=K6 l.prog w base T LP ;have AG:=K7 l.prog w base T LQ ;have Dn:=K8 l.prog w base T AG LR;have Dm:=K9 l.prog w base T LS ;have Dl:=La l.prog w base T Aw Bi Dg Dh Di Dj Bv Dk D_Handles LU;have Bn:=Lb l.prog w base T Dl Dm LV;have Dr:=Lc l.prog w base T D_Handles Bj Bn LW;have Dp:=Ld l.prog w base T LX ;have Cg:=Le l.prog w base T Aw AG Dn Bo Do LY;have Dq:=Lf l.prog w base T Aw AG Bv LZ;have Ds:=Lg l.prog w base T AG Bn Bo Dp Dq L0;exact vn l.prog w base T Bj Dr Ds Cg (A4 l_law c_law k_law)
theorem walk{l:lf}{q:qK}{loose:List Str}{XP:(Str->Option qG)->rB->Prop}{YP:qL->rB->Prop}{d:DefRec}{K:rA->γ}{TP:qH}(hn:l.most=some 63)(hdf:d.params.defaults=[])
   (hY:∀(w:qL) (h:rB),YP w h->(K w.params).In h/\h.get? TP=some { cls:=.none,data:=.fields #[] }/\(K w.params).lookup TP=none/\isCodeTable h TP)
   (F:∀(w:qL) (mg:Str->Option qG) (fa:qH) (h:rB),(K w.params).In h->h.Ns re mg->mg d.name=some (.ref fa) ->
     ∃fd:qJ,(∀(s:qI) (u:qG),BindsTo s fd ⟨[u],[]⟩ [("_law_script",u)])/\∀base:rB,(K w.params).In base->base.Ns re mg->FnOk l.prog w (K w.params) mg base (CXe l.prog w) 15 fa fd ["_law_script"] (Ob (K w.params) TP)):
   pZ q loose XP YP l.row.toRowW d [] (λf vs=>ph f vs) :=
 gH (n:=63) (k:=15) (x:="_law_script") (TP:=TP) (CX:=λw=>(CXe l.prog w)) (sp:=λw=>Ob (K w.params) TP) hn (by decide) hdf ⟨by decide,by decide⟩ hY F (λ_ _ a ns hl hT hS=>⟨a,ns,rfl,hS,hl,hT,λ_=>rfl⟩) (λ_ _ _ _ _ ⟨_,_,_,_,_,_,_,_,_,_,_,_,_,_,_,_,_,z⟩=>z)
end Stow
open PySem PySem.W PyProof.Rows
set_option maxRecDepth 100000 in
set_option maxHeartbeats 0 in
theorem PySem.Challenge.cw_stow_k50_handles_holds : PySem.Challenge.rw_stow_k50_handles.Holds := by
 w_on;refine PySem.W.holds_law Stow.said0 λ_=>?_
 refine holds_open (XP:=λ_ _=>True) (YP:=λw h=>lu Stow.heap0 w h/\h.get? 687=some { cls:=.none,data:=.fields #[] }) Stow.left0 ?y (λw h h' x k=>⟨InK.keeps (K:=Stow.heap0) w h h' x.1 k,k _ _ x.2⟩) (λ_ _=>trivial) (λ_ _ _ h _=>h) rfl rfl rfl (λ_ e=>recFacts_of e) rfl
   (by assumption) (by decide +kernel) ⟨rfl,rfl,rfl,rfl,rfl,by decide +kernel⟩ ?hw ?hc
 case y=>exact λw s x=>Stow.y0 w s.heap (InK.of Stow.at0_eq w s x)
 case hw=>w_witness2
 k_fill
 refine Stow.walk (l:=PySem.Challenge.rw_stow_k50_handles) (K:=Stow.heap0) (TP:=687) rfl rfl Stow.hY0 ?F
 case F =>
   intro w mg fa h KX G hmg
   apply Stow.all_mk KX G hmg
   constructor
   iterate 11 (refine PySem.W.mg_none_of KX G ?_;k_is)
   iterate 23 (refine mg_of KX G ?_;k_is)
   rotate_left
   iterate 6 (exact ⟨mg_of KX G (by k_is),_,_,_,_,(by k_exc),jr,jr.hasBase⟩)
   (refine ⟨?_,?_,?_,?_⟩;k_is;k_is;k_is;k_is)
   (change _=_;k_is)
   (refine ⟨?_,?_,?_,?_⟩;k_is;k_is;k_is;k_is)
   (change _=_;k_is)
   (refine ⟨?_,?_,?_,?_⟩;k_is;k_is;k_is;k_is)
   iterate 2 (change _=_;k_is)
   (refine ⟨?_,?_,?_,?_⟩;k_is;k_is;k_is;k_is)
   (change _=_;k_is)
   (refine ⟨?_,?_,?_,?_⟩;k_is;k_is;k_is;k_is)
   iterate 3 (change _=_;k_is)
   iterate 6 (refine ⟨?_,?_,?_,?_,?_⟩;k_is;k_is;k_is;k_is;k_is)
   iterate 9 (exact ⟨_,_,⟨_,_,_,_,_,_,_,_,_,_,_,_,_,_,_,_,(by k_is)⟩,⟨_,_,_,_,_,_,_,_,_,_,_,_,_,_,_,_,(by k_is)⟩,(by decide +kernel),(by decide +kernel)⟩)
   iterate 84 (change _=_;kit_is)
   iterate 43 (exact Stow.aD KX G (by k_is) (by k_is) (by k_is) (by k_is))
   iterate 8 ((first|unfold Stow.LkF|unfold Stow.nI|unfold Stow.fI|unfold Stow.cI|unfold Stow.kI|unfold Stow.iI|skip);k_is)
   (rfl)
   iterate 214 ((first|unfold Stow.LkF|unfold Stow.nI|unfold Stow.fI|unfold Stow.cI|unfold Stow.kI|unfold Stow.iI|skip);k_is)
   exact Stow.gF (by kernel_rfl) (mg_of KX G (by k_is)) (by kernel_rfl)
